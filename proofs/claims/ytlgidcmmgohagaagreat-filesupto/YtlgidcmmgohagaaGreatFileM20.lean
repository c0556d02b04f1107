/- What is proved here: 'find'. -/
import Derived.Test.YtlgidcmmgohagaaGreatFileM19
import Derived.Shelf.RegionOpenPlain
import Derived.Deep.RegionLaw
import Derived.Lib.Overlaps
import Derived.Lib.AppendZerosOnto
import Derived.Laws.Externs
namespace Go.Proofs.YtlgidcmmgohagaaGreat
open Go.RowKit Go.Sort Go.Shelf Go.Proofs.Tryz
set_option linter.unusedVariables false
set_option maxRecDepth 100000
set_option maxHeartbeats 16000000
theorem find_some (t:Nat)(s0 s1 s2 s3 s4 r0 r1 r2 r3 r4:ByteArray)(R:Value->World->World->Prop)(x:ByteArray)(k:Nat)(y:Ent)(w:World)
  (heq:∀W,(Op.equalIn 10000 147 (.agg #[.string s0,.string s1,.string s2,.string s3,.string s4]) (.agg #[.string ⟨#[]⟩,.string ⟨#[]⟩,.string ⟨#[]⟩,.string ⟨#[]⟩,.string ⟨#[]⟩])).run prog W=.ok false W)
  (hpar:∀W,Calls prog 132 #[.agg #[.string s0,.string s1,.string s2,.string s3,.string s4]] W fun e w'=>e=.returned (.agg #[.string r0,.string r1,.string r2,.string r3,.string r4])/\Below W.heap.size W w')
  (hlook:∀W,Below w.heap.size w W->Calls prog 131 #[.pointer (some ⟨t,0,none⟩),.agg #[.string r0,.string r1,.string r2,.string r3,.string r4]] W fun e w'=>∃gb ln cp,e=.returned (.tuple #[.slice (some ⟨gb,0,none⟩) ln cp,.int .i64 0])/\R (.slice (some ⟨gb,0,none⟩) ln cp) W w')
  (hname:∀W,Calls prog 134 #[.agg #[.string s0,.string s1,.string s2,.string s3,.string s4]] W fun e w'=>e=.returned (.string x)/\Below W.heap.size W w')
  (hsea:∀v W w3,R v W w3->∀W2,Below w3.heap.size w3 W2->Calls prog 133 #[v,.string x] W2 fun e w'=>e=.returned (.tuple #[.int .i64 (k:Int),.bool true])/\Below W2.heap.size W2 w')
  (hcell:∀gb ln cp W w3,R (.slice (some ⟨gb,0,none⟩) ln cp) W w3->gb<w3.heap.size/\k<ln/\ln<=16/\w3.cell? ⟨gb,k*3,none⟩=some (.string y.1)/\w3.cell? ⟨gb,k*3+1,none⟩=some (.int .i64 y.2.1)/\w3.cell? ⟨gb,k*3+2,none⟩=some (.int .i64 y.2.2))
  (hst:∀v W w3,R v W w3->Stays w W w3):
  Calls prog 136 #[.pointer (some ⟨t,0,none⟩),.agg #[.string s0,.string s1,.string s2,.string s3,.string s4]] w fun e w'=>e=.returned (.tuple #[.agg #[.string y.1,.int .i64 y.2.1,.int .i64 y.2.2],.int .i64 0])/\∃v W w3,Below w.heap.size w W/\w.heap.size+1<W.heap.size/\R v W w3/\w3.grownBy w' (some (w.heap.size+1)):=by
 have hroot:=fun W=>root_any W;unfold pathV pathA at hroot;simp only[List.getD_nil] at hroot;go_enter func136,ntmps136;go_wp2
 go_region_with (go_at_call 75;refine (hroot _).mono ?_;rintro e w1 ⟨rfl,hb1⟩;obtain⟨hc1,hf1⟩:=bcell hb1;obtain⟨hz0,hz1⟩:=two_size hb1)
 all_goals
  have h1:Below w.heap.size w w1:=below_via (below_drew (((Below.refl _ _).alloc (zzC _) _).alloc (by simp) _)) hb1;go_wp2_with (first
   | (go_at_call 132;refine (hpar _).mono ?_;rintro e w2 ⟨rfl,hb2⟩;obtain⟨hc2,hf2⟩:=bcell hb2;have hz2:w.heap.size+1<w2.heap.size:=zzA hz1 hb2.size;have hz3:w.heap.size<w2.heap.size:=zzA hz0 hb2.size)
   | (go_at_call 131;refine (hlook _ (below_via h1 hb2)).mono ?_;rintro e w3 ⟨gb,ln,cp,rfl,hR⟩;have hS:=hst _ _ _ hR;obtain⟨hgl,hkl,hl16,y0,y1,y2⟩:=hcell _ _ _ _ _ hR;have k0:=hS.cell (zzC _) hz3;have k1:=hS.cell (b:=w.heap.size+1) (by omega) hz2;have k2:=hS.frozen (b:=w.heap.size+1) (by omega) hz2;have HR:Hid _:=hR;have hz4:w.heap.size<w3.heap.size:=zzA hz3 hS.1;have hz5:w.heap.size+1<w3.heap.size:=zzA hz2 hS.1;clear hR hS)
   | (go_at_call 134;refine (hname _).mono ?_;rintro e w4 ⟨rfl,hb4⟩;obtain⟨hc4,hf4⟩:=bcell hb4;have hz6:w.heap.size+1<w4.heap.size:=zzA hz5 hb4.size;have hz7:gb<w4.heap.size:=zzA hgl hb4.size)
   | (go_at_call 133;refine (hsea _ _ _ HR.out _ hb4).mono ?_;rintro e w5 ⟨rfl,hb5⟩;obtain⟨hc5,hf5⟩:=bcell hb5))
  exact bodyPost_ret (v:=.tuple #[.agg #[.string y.1,.int .i64 y.2.1,.int .i64 y.2.2],.int .i64 0]) (by simp[results,results136,go_sem,hc1,hc2,k1,hc4,hc5,hz1,hz5,hz6]) rfl ⟨rfl,_,w2,w3,below_via h1 hb2,hz2,HR.out,by
   refine grown_below (below_via hb4 hb5) ?_
   repeat (first | exact grown_refl _ _ | (refine grown_set ?_))⟩
theorem look_err (t:Nat)(s0 s1 s2 s3 s4 a:ByteArray)(k id er:Int)(R:World->World->Prop)(w:World)(her:(er == 0)=false)
  (hfind:∀W,Below w.heap.size w W->Calls prog 136 #[.pointer (some ⟨t,0,none⟩),.agg #[.string s0,.string s1,.string s2,.string s3,.string s4]] W fun e w'=>e=.returned (.tuple #[.agg #[.string a,.int .i64 k,.int .i64 id],.int .i64 er])/\R W w'):
  Calls prog 131 #[.pointer (some ⟨t,0,none⟩),.agg #[.string s0,.string s1,.string s2,.string s3,.string s4]] w fun e w'=>e=.returned (.tuple #[.slice none 0 0,.int .i64 er])/\∃W w3,Below w.heap.size w W/\R W w3/\Below w3.heap.size w3 w':=by
 have hf:=hfind _ ((Below.refl w.heap.size w).alloc (zzC _) (.cells #[.string s0,.string s1,.string s2,.string s3,.string s4] 147));clear hfind;go_enter func131,ntmps131;go_wp2_with (go_at_call 136;refine hf.mono ?_;rintro e w3 ⟨rfl,hR⟩;have HR:Hid _:=hR;clear hR);go_ret2;exact⟨rfl,_,w3,(Below.refl w.heap.size w).alloc (zzC _) _,HR.out,by repeat (first | exact Below.refl _ _ | (refine Below.alloc ?_ (by simp) _) | (refine Below.setCell ?_ (by simp) _))⟩
theorem look_ok (t:Nat)(s0 s1 s2 s3 s4 a:ByteArray)(k id:Int)(R:World->World->Prop)(S:Value->Int->World->World->Prop)(w:World)
  (hfind:∀W,Below w.heap.size w W->Calls prog 136 #[.pointer (some ⟨t,0,none⟩),.agg #[.string s0,.string s1,.string s2,.string s3,.string s4]] W fun e w'=>e=.returned (.tuple #[.agg #[.string a,.int .i64 k,.int .i64 id],.int .i64 0])/\R W w')
  (hents:∀W w3,R W w3->∀W2,Below w3.heap.size w3 W2->Calls prog 187 #[.pointer (some ⟨t,0,none⟩),.agg #[.string s0,.string s1,.string s2,.string s3,.string s4],.agg #[.string a,.int .i64 k,.int .i64 id]] W2 fun e w'=>∃v er,e=.returned (.tuple #[v,.int .i64 er])/\S v er W2 w')
  (hst:∀W w3,R W w3->Stays w W w3):
  Calls prog 131 #[.pointer (some ⟨t,0,none⟩),.agg #[.string s0,.string s1,.string s2,.string s3,.string s4]] w fun e w'=>∃v er W w3 W2,Below w.heap.size w W/\R W w3/\Below w3.heap.size w3 W2/\e=.returned (.tuple #[v,.int .i64 er])/\S v er W2 w':=by
 have hf:=hfind _ ((Below.refl w.heap.size w).alloc (zzC _) (.cells #[.string s0,.string s1,.string s2,.string s3,.string s4] 147));clear hfind;go_enter func131,ntmps131;go_wp2_with (first
  | (go_at_call 136;refine hf.mono ?_;rintro e w3 ⟨rfl,hR⟩;have hS:=hst _ _ hR;have k0:=hS.cell (zzC _) (by simp);have hz:w.heap.size<w3.heap.size:=zzA (by simp) hS.1;have HR:Hid _:=hR;clear hR hS)
  | (go_at_call 187;refine (hents _ _ HR.out _ (by repeat (first | exact Below.refl _ _ | (refine Below.alloc ?_ (by simp) _) | (refine Below.setCell ?_ (by simp) _)))).mono ?_;rintro e w4 ⟨v,er,rfl,hS⟩;have HS:Hid _:=hS;clear hS))
 go_ret2;exact⟨v,er,_,w3,_,(Below.refl w.heap.size w).alloc (zzC _) _,HR.out,by repeat (first | exact Below.refl _ _ | (refine Below.alloc ?_ (by simp) _) | (refine Below.setCell ?_ (by simp) _)),rfl,HS.out⟩
def Slc (tg:Tags)(w:World)(i:Nat)(v:Value)(es:List Ent):Prop:=w.ownsRow 0 96 3 v es.length (flat es)/\∀g,v.ownBlock=some g->tg g=(i,3)\/tg g=(i,5)
theorem nil_row (w:World):w.ownsRow 0 96 3 (.slice none 0 0) ([]:List Ent).length (flat []):=⟨rfl,.inl ⟨rfl,rfl⟩⟩
theorem Slc.nil (tg:Tags)(w:World)(i:Nat):Slc tg w i (.slice none 0 0) []:=⟨nil_row w,fun g hg=>by simp[Value.ownBlock] at hg⟩
theorem Slc.below {tg:Tags}{w w':World}{i:Nat}{v:Value}{es:List Ent}(h:Slc tg w i v es)(hb:Below w.heap.size w w'):Slc tg w' i v es:=⟨ownsRow_keep h.1 (fun g hg=>hb.block g (ownsRow_lt h.1 hg)),h.2⟩
section
variable {tg:Tags}{w:World}{s i p:Nat}{B:WB}{objs:List Ob}{g:WG}{lim:Nat}
theorem OwnDV.look {od:List ByteArray->Option (List Ent)}{vD:List ByteArray->Value}(h:OwnDV tg w i B od lim vD){q:List ByteArray}(hq:Good q){W:World}(hb:Below w.heap.size w W):
  (Instr.lookup 162 (.map (some B.oD)) (.agg (pathA q)) false).run prog W=.ok (((od q).map fun _=>vD q).getD (.slice none 0 0)) W:=by
 obtain⟨n,_,M,hV,hM,_⟩:=h.map
 have:=(hV.keep (w':=W) (hb.block _ hV.lt)).look lawP underlying162 (zeroEs W) (keyVP hq)
 rw[hM q hq] at this;exact this
theorem call_moves {P:Nat×Nat->Prop}{tg tg':Tags}{w W w':World}(hb:Below w.heap.size w W)(m:Moves P tg tg' W w'):Moves P tg tg' w w':=(Moves.of_below hb).trans m
theorem Slc.keep9 {tg tg':Tags}{w w':World}{i:Nat}{v:Value}{es:List Ent}(h:Slc tg w i v es)(hk:∀v es k,(k=3\/k=5)->RowT tg w (i,k) v es->RowT tg' w' (i,k) v es):Slc tg' w' i v es:=by
 cases hv:v.ownBlock with
 | none=>
  have:=hk v es 3 (.inl rfl) ⟨h.1,fun g hg=>by rw[hv] at hg;cases hg⟩
  exact⟨this.1,fun g hg=>.inl (this.2 g hg)⟩
 | some b=>
  have hb:∀g,v.ownBlock=some g->g=b:=fun g hg=>by rw[hv] at hg;exact (Option.some.inj hg).symm
  rcases h.2 b hv with e | e
  ·have:=hk v es 3 (.inl rfl) ⟨h.1,fun g hg=>by rw[hb g hg];exact e⟩
   exact⟨this.1,fun g hg=>.inl (this.2 g hg)⟩
  ·have:=hk v es 5 (.inr rfl) ⟨h.1,fun g hg=>by rw[hb g hg];exact e⟩
   exact⟨this.1,fun g hg=>.inr (this.2 g hg)⟩
theorem entries_any9 (h:WInv tg w s i p B objs g lim)(hl:lim<1099511627776){q:List ByteArray}(hq:Good q){e:Ent}(he:EntOk objs e):
  Calls prog 187 #[.pointer (some ⟨B.bt,0,none⟩),.agg (pathA q),.agg #[.string e.1,.int .i64 e.2.1,.int .i64 e.2.2]] w fun en w'=>∃v,en=.returned (.tuple #[v,.int .i64 (entsF objs g.ft g.fs q e).2.1])/\
   ∃tg',Moves (Fetches i) tg tg' w w'/\WInv tg' w' s i p B objs { g with fs:=(entsF objs g.ft g.fs q e).1 } (lim+1)/\Slc tg' w' i v (entsF objs g.ft g.fs q e).2.2/\∀v es,Slc tg w i v es->Slc tg' w' i v es:=by
 obtain⟨nm,k,id⟩:=e;have hlt:B.bt<w.heap.size:=(Array.getElem?_eq_some_iff.1 h.wp.tree.ht).1;by_cases hk:k=2
 ·subst hk
  by_cases hid:id=0
  ·subst hid
   have hE:entsF objs g.ft g.fs q (nm,2,0)=(g.fs,0,(g.ft.od q).getD []):=rfl;rw[hE];obtain⟨vD,hD⟩:=h.wp.ownD;have c8:w.cell? ⟨B.bt,8,none⟩=some (.map (some B.oD)):=by simp[World.cell?,h.wp.tree.ht]
   refine (ents_own B.bt B.oD _ _ _ _ _ nm _ w hlt c8 (fun W hb=>hD.look hq hb)).mono ?_;rintro en w' ⟨rfl,hb⟩;refine⟨_,rfl,tg,Moves.of_below hb,(h.below hb).mono (Nat.le_succ _),?_,fun _ _ hs=>hs.below hb⟩;cases ho:g.ft.od q with
   | none=>exact Slc.nil _ _ _
   | some es=>
    have hr:=hD.row q es ho;exact Slc.below ⟨hr.1,fun g' hg'=>.inr (hr.2 g' hg')⟩ hb
  ·have hko:=he.2 hid
   have c2:w.cell? ⟨B.bt,2,none⟩=some (.pointer (some ⟨B.sD,0,none⟩)):=by simp[World.cell?,h.wp.tree.ht,ptr]
   have hE:entsF objs g.ft g.fs q (nm,2,id)=if (g.fs.dirG id).2 then ((g.fs.dirG id).1,0,entsOf objs id) else ((g.fs.dirG id).1,14,[]):=by
    unfold entsF;rw[zzB (show ¬((nm,(2:Int),id):Ent).2.1≠2 from fun h=>h rfl),zzB hid]
   refine (ents_get B.bt B.sD _ _ _ _ _ nm id (fun v er W w'=>er=(if (g.fs.dirG id).2 then 0 else 14)/\∃tg',Moves (Fetches i) tg tg' W w'/\WInv tg' w' s i p B objs { g with fs:=(g.fs.dirG id).1 } (lim+1)/\(if (g.fs.dirG id).2 then RowT tg' w' (i,3) v (entsOf objs id) else v=.slice none 0 0)/\∀v es,Slc tg W i v es->Slc tg' w' i v es) w hlt c2 hid (fun W hb=>(shelfD9 (h.below hb) hl hko).mono ?_)).mono ?_
   ·rintro en w' ⟨v,rfl,tg',m,hW,hr,hk⟩
    exact⟨v,_,rfl,rfl,tg',m,hW,hr,fun v es hs=>Slc.keep9 hs hk⟩
   ·rintro en w' ⟨v,er,W,hb,rfl,rfl,tg',m,hW,hr,hk⟩
    rw[hE];by_cases hG:(g.fs.dirG id).2=true
    ·rw[zzD hG] at hr ⊢
     rw[zzD hG];exact⟨v,rfl,tg',call_moves hb m,hW,⟨hr.1,fun g' hg'=>.inl (hr.2 g' hg')⟩,fun v es hs=>hk v es (hs.below hb)⟩
    ·rw[zzB hG] at hr ⊢
     rw[zzB hG];subst hr;exact⟨_,rfl,tg',call_moves hb m,hW,Slc.nil _ _ _,fun v es hs=>hk v es (hs.below hb)⟩
 ·have hE:entsF objs g.ft g.fs q (nm,k,id)=(g.fs,5,[]):=by unfold entsF;rw[zzD hk]
  rw[hE];refine (ents_not B.bt _ _ _ _ _ nm k id w hk).mono ?_;rintro en w' ⟨rfl,hb⟩;exact⟨_,rfl,tg,Moves.of_below hb,(h.below hb).mono (Nat.le_succ _),Slc.nil _ _ _,fun _ _ hs=>hs.below hb⟩
theorem entries_any (h:WInv tg w s i p B objs g lim)(hl:lim<1099511627776){q:List ByteArray}(hq:Good q){e:Ent}(he:EntOk objs e):
  Calls prog 187 #[.pointer (some ⟨B.bt,0,none⟩),.agg (pathA q),.agg #[.string e.1,.int .i64 e.2.1,.int .i64 e.2.2]] w fun en w'=>∃v,en=.returned (.tuple #[v,.int .i64 (entsF objs g.ft g.fs q e).2.1])/\
   ∃tg',Moves (Fetches i) tg tg' w w'/\WInv tg' w' s i p B objs { g with fs:=(entsF objs g.ft g.fs q e).1 } (lim+1)/\Slc tg' w' i v (entsF objs g.ft g.fs q e).2.2:=
 (entries_any9 h hl hq he).mono fun _ _ ⟨v,h1,tg',h2,h3,h4,_⟩=>⟨v,h1,tg',h2,h3,h4⟩
theorem find_entOk (hS:Sound objs){ft:FT}(hok:FtOk objs ft)(hr:∀p es,ft.od p=some es->RisingK es/\es.length<=16)(fs:FS):∀r,((findF objs ft fs r).2.1=0->EntOk objs (findF objs ft fs r).2.2)/\(∀e ∈ (lookF objs ft fs r).2.2,EntOk objs e)/\RisingK (lookF objs ft fs r).2.2/\(lookF objs ft fs r).2.2.length<=16:=by
 have key:∀r,((findF objs ft fs r).2.1=0->EntOk objs (findF objs ft fs r).2.2)->(∀e ∈ (lookF objs ft fs r).2.2,EntOk objs e)/\RisingK (lookF objs ft fs r).2.2/\(lookF objs ft fs r).2.2.length<=16:=by
  intro r hf;unfold lookF;by_cases h0:(findF objs ft fs r).2.1≠0
  ·simp only[zzD h0];exact⟨by simp,List.Pairwise.nil,by simp⟩
  ·simp only[zzB h0]
   have he:=hf (Decidable.not_not.1 h0);unfold entsF;by_cases hk:(findF objs ft fs r).2.2.2.1≠2
   ·rw[zzD hk];exact⟨by simp,List.Pairwise.nil,by simp⟩
   ·rw[zzB hk]
    by_cases hid:(findF objs ft fs r).2.2.2.2=0
    ·rw[zzD hid]
     cases ho:ft.od r.reverse with
     | none=>exact⟨by simp,List.Pairwise.nil,by simp⟩
     | some es=>exact⟨hok.od _ es ho,(hr _ es ho).1,(hr _ es ho).2⟩
    ·rw[zzB hid]
     by_cases hG:((findF objs ft fs r).1.dirG (findF objs ft fs r).2.2.2.2).2=true
     ·rw[zzD hG]
      obtain⟨s1,s2,s3⟩:=hS.2 _ ((he.2 hid).trans (Decidable.not_not.1 hk));exact⟨fun e he=>⟨(s3 e he).2.1,fun _=>(s3 e he).2.2.1⟩,s1,s2⟩
     ·rw[zzB hG];exact⟨by simp,List.Pairwise.nil,by simp⟩
 have find:∀r,(findF objs ft fs r).2.1=0->EntOk objs (findF objs ft fs r).2.2:=by
  intro r
  induction r with
  | nil=>exact fun _=>⟨.inr rfl,hok.root⟩
  | cons n r ih=>
   intro h0;rw[findF_cons] at h0 ⊢;by_cases hl:(lookF objs ft fs r).2.1≠0
   ·rw[zzD hl] at h0;exact absurd h0 hl
   ·rw[zzB hl] at h0 ⊢
    cases hg:getK (lookF objs ft fs r).2.2 n with
    | none=>rw[hg] at h0;simp at h0
    | some c=>
     simp only;have hmem:(n,c) ∈ (lookF objs ft fs r).2.2:=by
      unfold getK at hg;cases hf:(lookF objs ft fs r).2.2.find? (fun x=>decide (x.1=n)) with
      | none=>rw[hf] at hg;simp at hg
      | some x=>
       rw[hf] at hg;have h1:=List.find?_some hf;have h2:=List.mem_of_find?_eq_some hf;simp only[decide_eq_true_eq] at h1;simp only[Option.map_some,Option.some.injEq] at hg;rw[<-h1,<-hg];exact h2
     exact (key r ih).1 _ hmem
 exact fun r=>⟨find r,key r (find r)⟩
end
theorem moves_own {tg:Tags}{w w':World}{b:Nat}(hg:w.grownBy w' (some b))(ht:tg b=(0,0)):Moves (fun t=>t=(0,0)) tg tg w w':=
 ⟨hg.os,hg.tape,hg.output,hg.size,fun _ _=>rfl,fun k hk hn=>hg.block k hk (fun e=>hn (by cases e;exact ht)),fun hf k hk=>hf k (zzG hg.size hk)⟩
section
variable {s i p:Nat}{B:WB}{objs:List Ob}
theorem WInv.own {tg:Tags}{w w':World}{g:WG}{lim b:Nat}(h:WInv tg w s i p B objs g lim)(hg:w.grownBy w' (some b))(ht:tg b=(0,0)):WInv tg w' s i p B objs g lim:=by
 have hi:=h.two;have m:=moves_own hg ht;exact⟨h.two,h.st.moves m (fun e=>by cases e) (fun e=>by cases e),h.wp.moves m (fun k e=>by cases e;omega)⟩
theorem stays_mine {tg tg':Tags}{w W w3:World}(hi:2<=i)(hf:Fresh tg w)(m:Moves (Mine i) tg tg' W w3):Stays w W w3:=
 ⟨m.size,fun b h1 h2=>m.block b h2 (by rw[hf b h1];rintro (h | h) <;> simp at h;omega)⟩
theorem stays_of {tg tg':Tags}{w W w3:World}(hi:2<=i)(hf:Fresh tg w)(m:Moves (Fetches i) tg tg' W w3):Stays w W w3:=stays_mine hi hf (m.mono (fun _ h=>h.mine))
def DidF (s i p:Nat)(B:WB)(objs:List Ob)(tg:Tags)(w w':World)(g':WG)(lim:Nat):Prop:=∃tg',Moves (Fetches i) tg tg' w w'/\WInv tg' w' s i p B objs g' lim
theorem didF_end {tg:Tags}{w W w3 w':World}{g g':WG}{lim lim':Nat}(h:WInv tg w s i p B objs g lim)(hb:Below w.heap.size w W)(hz:w.heap.size+1<W.heap.size)(hd:DidF s i p B objs tg W w3 g' lim')(hg:w3.grownBy w' (some (w.heap.size+1))):DidF s i p B objs tg w w' g' lim':=by
 obtain⟨tg',m,hW⟩:=hd;have ht:tg' (w.heap.size+1)=(0,0):=(m.tags _ hz).trans (h.st.fresh _ (by omega));have m1:=call_moves hb m;refine⟨tg',⟨hg.os.trans m1.os,hg.tape.trans m1.tape,hg.output.trans m1.output,zzG m1.size hg.size,m1.tags,fun k hk hn=>(hg.block k (zzA hk m1.size) (fun e=>by cases e;omega)).trans (m1.block k hk hn),fun hf=>(hW.own hg ht).st.fresh⟩,hW.own hg ht⟩
def FindC (s i p:Nat)(B:WB)(objs:List Ob)(r:List ByteArray):Prop:=∀(tg:Tags) (w:World) (g:WG) (lim:Nat),WInv tg w s i p B objs g lim->lim+10<1099511627776->Good r.reverse->
 Calls prog 136 #[.pointer (some ⟨B.bt,0,none⟩),.agg (pathA r.reverse)] w fun en w'=>en=.returned (.tuple #[.agg #[.string (findF objs g.ft g.fs r).2.2.1,.int .i64 (findF objs g.ft g.fs r).2.2.2.1,.int .i64 (findF objs g.ft g.fs r).2.2.2.2],.int .i64 (findF objs g.ft g.fs r).2.1])/\
  DidF s i p B objs tg w w' { g with fs:=(findF objs g.ft g.fs r).1 } (lim+r.length)
def LookC (s i p:Nat)(B:WB)(objs:List Ob)(r:List ByteArray):Prop:=∀(tg:Tags) (w:World) (g:WG) (lim:Nat),WInv tg w s i p B objs g lim->lim+10<1099511627776->Good r.reverse->
 Calls prog 131 #[.pointer (some ⟨B.bt,0,none⟩),.agg (pathA r.reverse)] w fun en w'=>∃v,en=.returned (.tuple #[v,.int .i64 (lookF objs g.ft g.fs r).2.1])/\
  ∃tg',Moves (Fetches i) tg tg' w w'/\WInv tg' w' s i p B objs { g with fs:=(lookF objs g.ft g.fs r).1 } (lim+r.length+1)/\Slc tg' w' i v (lookF objs g.ft g.fs r).2.2
theorem WInv.rising {tg:Tags}{w:World}{g:WG}{lim:Nat}(h:WInv tg w s i p B objs g lim):∀q es,g.ft.od q=some es->RisingK es/\es.length<=16:=by
 obtain⟨vD,hD⟩:=h.wp.ownD;exact fun q es he=>⟨(hD.good q es he).2.1,(hD.good q es he).2.2.1⟩
theorem look_of (r:List ByteArray)(hF:FindC s i p B objs r):LookC s i p B objs r:=by
 intro tg w g lim h hl hr;have hlen:r.length<=5:=by have:=hr.len;simpa using this
 obtain⟨f1,_⟩:=find_entOk h.st.sound h.wp.ok h.rising g.fs r;by_cases h0:(findF objs g.ft g.fs r).2.1=0
 ·have hE:lookF objs g.ft g.fs r=entsF objs g.ft (findF objs g.ft g.fs r).1 r.reverse (findF objs g.ft g.fs r).2.2:=by
   unfold lookF;simp only[zzB (show ¬(findF objs g.ft g.fs r).2.1≠0 from fun h=>h h0)]
  have hen:=f1 h0;refine (look_ok B.bt _ _ _ _ _ (findF objs g.ft g.fs r).2.2.1 (findF objs g.ft g.fs r).2.2.2.1 (findF objs g.ft g.fs r).2.2.2.2 (fun W w3=>Below w.heap.size w W/\DidF s i p B objs tg W w3 { g with fs:=(findF objs g.ft g.fs r).1 } (lim+r.length))
   (fun v er W2 w'=>er=(lookF objs g.ft g.fs r).2.1/\∃tg',Moves (Fetches i) tg tg' w w'/\WInv tg' w' s i p B objs { g with fs:=(lookF objs g.ft g.fs r).1 } (lim+r.length+1)/\Slc tg' w' i v (lookF objs g.ft g.fs r).2.2) w (fun W hb=>?_) (fun W w3 hR W2 hb=>?_) (fun W w3 hR=>?_)).mono ?_
  ·refine (hF tg W g lim (h.below hb) hl hr).mono ?_
   rintro en w' ⟨he,hd⟩;rw[h0] at he;exact⟨he,hb,hd⟩
  ·obtain⟨hbW,tg1,m1,hW1⟩:=hR
   refine (entries_any (hW1.below hb) (by omega) hr hen).mono ?_;rintro en w' ⟨v,rfl,tg2,m2,hW2,hs2⟩;rw[hE];exact⟨v,_,rfl,rfl,tg2,(call_moves hbW m1).trans (call_moves hb m2),hW2,hs2⟩
  ·obtain⟨hbW,tg1,m1,hW1⟩:=hR
   exact stays_of h.two h.st.fresh m1
  ·rintro en w' ⟨v,er,W,w3,W2,_,_,_,rfl,rfl,hrest⟩
   exact⟨v,rfl,hrest⟩
 ·have hE:lookF objs g.ft g.fs r=((findF objs g.ft g.fs r).1,(findF objs g.ft g.fs r).2.1,[]):=by
   unfold lookF;simp only[zzD h0]
  rw[hE];refine (look_err B.bt _ _ _ _ _ _ _ _ (findF objs g.ft g.fs r).2.1 (fun W w3=>DidF s i p B objs tg W w3 { g with fs:=(findF objs g.ft g.fs r).1 } (lim+r.length)) w (by simpa using h0) (fun W hb=>hF tg W g lim (h.below hb) hl hr)).mono ?_;rintro en w' ⟨rfl,W,w3,hb,⟨tg1,m1,hW1⟩,hb3⟩;exact⟨_,rfl,tg1,(call_moves hb m1).trans (Moves.of_below hb3),(hW1.below hb3).mono (Nat.le_succ _),Slc.nil _ _ _⟩
theorem find_nil:FindC s i p B objs []:=by
 intro tg w g lim h hl hr;have hlt:B.bt<w.heap.size:=(Array.getElem?_eq_some_iff.1 h.wp.tree.ht).1;refine (find_root B.bt g.ft.root w hlt (by simp[World.cell?,h.wp.tree.ht]) (by simp[World.cell?,h.wp.tree.ht]) (by simp[World.cell?,h.wp.tree.ht])).mono ?_;rintro en w' ⟨rfl,hb⟩;exact⟨rfl,tg,Moves.of_below hb,h.below hb⟩
theorem find_cons (n:ByteArray)(r:List ByteArray)(hL:LookC s i p B objs r):FindC s i p B objs (n :: r):=by
 intro tg w g lim h hl hr;have hrev:(n :: r).reverse=r.reverse ++ [n]:=List.reverse_cons;rw[hrev] at hr ⊢;have hne:r.reverse ++ [n] ≠ []:=by simp
 have hr':Good r.reverse:=by have:=hr.dropLast;rwa [List.dropLast_concat] at this
 have hlen:r.length<=4:=by have:=hr.len;simp at this;omega
 have heq:∀W,(Op.equalIn 10000 147 (pathV (r.reverse ++ [n])) (pathV [])).run prog W=.ok false W:=fun W=>by
  have:=run_eqP hr Good.nil W
  rw[zzE hne] at this;exact this
 have hpar:=fun W=>parent_any (r.reverse ++ [n]) hr W;have hname:=fun W=>name_any (r.reverse ++ [n]) hr hne W;rw[List.dropLast_concat] at hpar;simp only[List.getLast_concat] at hname;obtain⟨_,l1,l2,l3⟩:=find_entOk h.st.sound h.wp.ok h.rising g.fs r;have hst:∀(v:Value) (W w3:World),(Below w.heap.size w W/\∃tg',Moves (Fetches i) tg tg' W w3/\WInv tg' w3 s i p B objs { g with fs:=(lookF objs g.ft g.fs r).1 } (lim+r.length+1)/\Slc tg' w3 i v (lookF objs g.ft g.fs r).2.2)->Stays w W w3:=fun v W w3 ⟨hb,tg',m,_,_⟩=>stays_of h.two h.st.fresh m;have hlook:∀W,Below w.heap.size w W->Calls prog 131 #[.pointer (some ⟨B.bt,0,none⟩),.agg (pathA r.reverse)] W fun en w'=>∃v,en=.returned (.tuple #[v,.int .i64 (lookF objs g.ft g.fs r).2.1])/\
   (Below w.heap.size w W/\∃tg',Moves (Fetches i) tg tg' W w'/\WInv tg' w' s i p B objs { g with fs:=(lookF objs g.ft g.fs r).1 } (lim+r.length+1)/\Slc tg' w' i v (lookF objs g.ft g.fs r).2.2):=fun W hb=>(hL tg W g lim (h.below hb) hl hr').mono (fun en w' ⟨v,he,hrest⟩=>⟨v,he,hb,hrest⟩)
 have fin:∀{w':World} (v:Value) (W w3:World),Below w.heap.size w W->w.heap.size+1<W.heap.size->(∃tg',Moves (Fetches i) tg tg' W w3/\WInv tg' w3 s i p B objs { g with fs:=(lookF objs g.ft g.fs r).1 } (lim+r.length+1)/\Slc tg' w3 i v (lookF objs g.ft g.fs r).2.2)->w3.grownBy w' (some (w.heap.size+1))->DidF s i p B objs tg w w' { g with fs:=(lookF objs g.ft g.fs r).1 } (lim+(n :: r).length):=fun v W w3 hb hz ⟨tg',m,hW,_⟩ hg=>didF_end h hb hz ⟨tg',m,hW⟩ hg;have hsea:∀(v:Value) (W w3:World),(Below w.heap.size w W/\∃tg',Moves (Fetches i) tg tg' W w3/\WInv tg' w3 s i p B objs { g with fs:=(lookF objs g.ft g.fs r).1 } (lim+r.length+1)/\Slc tg' w3 i v (lookF objs g.ft g.fs r).2.2)->∀W2,Below w3.heap.size w3 W2->Calls prog 133 #[v,.string n] W2 fun e w'=>e=.returned (.tuple #[.int .i64 (idxK (lookF objs g.ft g.fs r).2.2 n:Nat),.bool (thereK (lookF objs g.ft g.fs r).2.2 n)])/\Below W2.heap.size W2 w':=fun v W w3 ⟨_,tg',_,_,hs⟩ W2 hb=>search_any (hs.below hb).1 n l2 l3;by_cases h0:(lookF objs g.ft g.fs r).2.1=0
 ·have hlook0:=hlook
  rw[h0] at hlook0;have hG:=getK_there (n:=n) l2;cases ht:thereK (lookF objs g.ft g.fs r).2.2 n with
  | false=>
   rw[ht] at hG;have hE:findF objs g.ft g.fs (n :: r)=((lookF objs g.ft g.fs r).1,4,zE):=by
    rw[findF_cons,zzB (fun h=>h h0),hG];rfl
   rw[hE];simp only[ht] at hsea;refine (find_none B.bt _ _ _ _ _ _ _ _ _ _ _ n _ w heq hpar hlook0 hname hsea hst).mono ?_;rintro en w' ⟨rfl,v,W,w3,hb,hz,⟨_,hR⟩,hg⟩;exact⟨rfl,fin v W w3 hb hz hR hg⟩
  | true=>
   have hix:=thereK_lt ht;rw[ht,zzD rfl,zzH hix,Option.map_some] at hG;have hnm:((lookF objs g.ft g.fs r).2.2[idxK (lookF objs g.ft g.fs r).2.2 n]).1=n:=by
    unfold thereK at ht;rw[zzH hix] at ht;simpa using ht
   have hE:findF objs g.ft g.fs (n :: r)=((lookF objs g.ft g.fs r).1,0,(lookF objs g.ft g.fs r).2.2[idxK (lookF objs g.ft g.fs r).2.2 n]):=by
    rw[findF_cons,zzB (fun h=>h h0),hG];exact congrArg (fun y:Ent=>((lookF objs g.ft g.fs r).1,(0:Int),y)) (Prod.ext hnm.symm rfl)
   rw[hE];simp only[ht] at hsea;refine (find_some B.bt _ _ _ _ _ _ _ _ _ _ _ n _ ((lookF objs g.ft g.fs r).2.2[idxK (lookF objs g.ft g.fs r).2.2 n]) w heq hpar (fun W hb=>(hlook0 W hb).mono ?_) hname hsea ?_ hst).mono ?_
   ·rintro en w' ⟨v,rfl,hb',tg',m,hW,hs⟩
    obtain⟨gb,cp,rfl⟩:=slice_of_owns hs.1 (by omega);exact⟨gb,_,cp,rfl,hb',tg',m,hW,hs⟩
   ·rintro gb ln cp W w3 ⟨_,tg',m,hW,hs⟩
    have hln:ln=(lookF objs g.ft g.fs r).2.2.length:=by
     rcases hs.1.2 with ⟨e,_⟩ | ⟨g',c',_,e,_⟩
     ·cases e
     ·cases e;rfl
    subst hln;obtain⟨c0,c1,c2⟩:=row_at (b:=gb) (fun j u hu=>by have:=owns_cells hs.1 j u hu;rwa [Nat.zero_add] at this) hix;exact⟨ownsRow_lt hs.1 rfl,hix,l3,c0,c1,c2⟩
   ·rintro en w' ⟨rfl,v,W,w3,hb,hz,⟨_,hR⟩,hg⟩
    exact⟨rfl,fin v W w3 hb hz hR hg⟩
 ·have hE:findF objs g.ft g.fs (n :: r)=((lookF objs g.ft g.fs r).1,(lookF objs g.ft g.fs r).2.1,zE):=by
   rw[findF_cons,zzD h0]
  rw[hE];refine (find_err B.bt _ _ _ _ _ _ _ _ _ _ _ (lookF objs g.ft g.fs r).2.1 (by simpa using h0) w heq hpar hlook hst).mono ?_;rintro en w' ⟨rfl,v,W,w3,hb,hz,⟨_,hR⟩,hg⟩;exact⟨rfl,fin v W w3 hb hz hR hg⟩
theorem find_all:∀r:List ByteArray,FindC s i p B objs r
 | []=>find_nil
 | n :: r=>find_cons n r (look_of r (find_all r))
theorem look_all (r:List ByteArray):LookC s i p B objs r:=look_of r (find_all r)
end
theorem step_append_row {P:Program}{ops:Array Oper}{o:Oper}{a:Act}{w:World}{K:Act->World->Prop}{Q:Exit->Act->World->Prop}{E:Prop}
  (hg:o.guard=none)(s x:Operand)(t:TypeId)(hop:o.op=Op.call { callee:=Callee.builtin Builtin.append,args:=#[s,x],argTypes:=#[t,t] })
  (e:TypeId)(i:TypeInfo)(size:Nat)(h1:P.underlying t=some (.slice e))(h2:P.info? e=some i)(h4:i.size=size)
  (g n cap:Nat)(cur:Array Value)(hs:a.eval s=.slice (some ⟨g,0,none⟩) n cap)(hcur:w.heap[g]? = some (.cells cur e (0,0)))
  (ad:Addr)(m c:Nat)(news:List Value)(hx:a.eval x=.slice (some ad) m c)(hn:news.length=m*size)(hc:∀j u,news[j]? = some u->w.cell? (ad.add j)=some u)(h1c:∀u ∈ news,u.oneCell'=true)
  (hroom:n+m<=cap)(hfit:n*size+news.length<=cur.size)
  (hK:K (a.put o.dst (.slice (some ⟨g,0,none⟩) (n+m) cap)) (w.setRow g (cur.toList.take (n*size)++news++cur.toList.drop (n*size+news.length)).toArray)):
  if Region.wanted o (yielded ops a.tmps)=true then Oper.wp P o a w K Q else E:=by
 have hw:Region.wanted o (yielded ops a.tmps)=true:=by simp[Region.wanted,hg]
 rw[zzD hw];subst h4;have hrun:=run_append_room (P:=P) w t o.type e i h1 h2 g n cap cur hcur ad m c news hn hc h1c hroom hfit;unfold Oper.wp;simp[execOp,hop,resolve,invoke,builtin,hs,hx,hrun,Result.andThen];rw[List.append_assoc] at hK;exact hK
theorem run_clear1 (w:World)(ty:TypeId)(g n c:Nat)(cur:Array Value)(hg:w.heap[g]? = some (.cells cur 96 (0,0)))(hfit:n*3+3<=cur.size):
  (Builtin.clear_ #[55] ty #[.slice (some ⟨g,n*3,none⟩) 1 c]).run prog w=.ok (.tuple #[]) (w.setRow g (cur.toList.take (n*3)++encE (⟨#[]⟩,0,0)++cur.toList.drop (n*3+3)).toArray):=by
 have hv:(zeroValue 96).run prog w=.ok (.agg #[.string ⟨#[]⟩,.int .i64 0,.int .i64 0]) w:=by kernel_rfl
 have hzc:(Builtin.zeroCells (Value.agg #[.string ⟨#[]⟩,.int .i64 0,.int .i64 0]).cells 1).toList=encE (⟨#[]⟩,0,0):=by kernel_rfl
 have hst:=run_storeCells_at prog g (n*3) 96 (encE (⟨#[]⟩,0,0)) 0 cur w hg (by simpa [encE] using hfit) (encE_one _);simp only[Nat.add_zero] at hst;simp[Builtin.clear_,run_underlying underlying55,hv,hzc,hst];rfl
theorem flat_append (a b:List Ent):flat (a++b)=flat a++flat b:=by simp[flat]
theorem cells_take (es:List Ent)(k:Nat)(h:k<=es.length):flat (es.take k)=(flat es).take (k*3):=by
 have e:flat es=flat (es.take k)++flat (es.drop k):=by rw[<-flat_append,List.take_append_drop]
 rw[e,List.take_left' (by rw[flat_len,List.length_take];omega)]
theorem cells_drop (es:List Ent)(k:Nat)(h:k<=es.length):flat (es.drop k)=(flat es).drop (k*3):=by
 have e:flat es=flat (es.take k)++flat (es.drop k):=by rw[<-flat_append,List.take_append_drop]
 rw[e,List.drop_left' (by rw[flat_len,List.length_take];omega)]
theorem del_walk (g n c k:Nat)(es:List Ent)(cur:Array Value)(w:World)(hg:w.heap[g]? = some (.cells cur 96 (0,0)))(hn:es.length=n)(hk:k<n)(hnc:n<=c)(hcm:c<=maxLen)(hcs:cur.size=c*3)(ht:cur.toList.take (n*3)=flat es):
  Calls prog 194 #[.slice (some ⟨g,0,none⟩) n c,.int .i64 (k:Int),.int .i64 ((k:Int)+1)] w fun e w'=>e=.returned (.slice (some ⟨g,0,none⟩) (n-1) c)/\
   ∃cur',w'.heap[g]? = some (.cells cur' 96 (0,0))/\cur'.size=c*3/\cur'.toList.take ((n-1)*3)=flat (es.eraseIdx k)/\w.grownBy w' (some g)/\w'.heap.size=w.heap.size:=by
 obtain⟨i0,hi,hz0,hz1,hz2⟩:=info_parts info34;unfold maxLen at hcm;have hk1:k<=c:=by omega
 have hk2:k+1<=c:=by omega
 obtain⟨news,hnews⟩:∃news,news=flat (es.drop (k+1)):=⟨_,rfl⟩;have hlen:news.length=(n-(k+1))*3:=by rw[hnews,flat_len,List.length_drop,hn]
 have hcell:∀j u,(flat es)[j]? = some u->w.cell? ⟨g,j,none⟩=some u:=fun j u hu=>by
  rw[<-ht,List.getElem?_take] at hu;split at hu
  ·simp[World.cell?,hg];simpa using hu
  ·cases hu
 obtain⟨A,hA,hsrc⟩:∃A:Addr,(if c=k+1 then some (⟨g,0,none⟩:Addr) else some ⟨g,(k+1)*3,none⟩)=some A/\Hid (∀t u,news[t]? = some u->w.drew.cell? (A.add t)=some u):=by
  by_cases h:c=k+1
  ·refine⟨⟨g,0,none⟩,by simp[h],fun t u hu=>?_⟩
   have h0:news.length=0:=by rw[hlen];omega
   rw[List.length_eq_zero_iff.1 h0] at hu;simp at hu
  ·refine⟨⟨g,(k+1)*3,none⟩,by simp[h],fun t u hu=>?_⟩
   rw[Addr.add_lit];show w.cell? _=_;refine hcell _ _ ?_;rw[hnews,cells_drop es (k+1) (by omega),List.getElem?_drop] at hu;exact hu
 have s2:Hid (∀u ∈ news,u.oneCell'=true):=by
  intro u hu;rw[hnews] at hu;exact flat_one _ u hu
 have hfit:k*3+news.length<=cur.size:=by rw[hlen,hcs];omega
 obtain⟨cur1,hcur1⟩:∃cur1:Array Value,cur1=(cur.toList.take (k*3)++news++cur.toList.drop (k*3+news.length)).toArray:=⟨_,rfl⟩;have hsz1:cur1.size=c*3:=by
  rw[hcur1];simp only[List.size_toArray,List.length_append,List.length_take,List.length_drop,Array.length_toList];omega
 obtain⟨W1,hW1⟩:∃W1,W1=w.drew.setRow g cur1:=⟨_,rfl⟩;have hg1:W1.heap[g]? = some (.cells cur1 96 (0,0)):=by rw[hW1];exact setRow_heap w.drew g _ _ 96 _ hg
 have hcl:∀ty,(Builtin.clear_ #[55] ty #[.slice (some ⟨g,(n-1)*3,none⟩) 1 (c-(n-1))]).run prog W1=.ok (.tuple #[]) (W1.setRow g (cur1.toList.take ((n-1)*3)++encE (⟨#[]⟩,0,0)++cur1.toList.drop ((n-1)*3+3)).toArray):=
  fun ty=>run_clear1 W1 ty g (n-1) _ cur1 hg1 (by rw[hsz1];omega)
 have hW:Hid (W1=w.drew.setRow g cur1):=hW1;have HC1:Hid (cur1=(cur.toList.take (k*3)++news++cur.toList.drop (k*3+news.length)).toArray):=hcur1;have HN:Hid (news=flat (es.drop (k+1))):=hnews;have HL:Hid (news.length=(n-(k+1))*3):=hlen;have HG:Hid (w.heap[g]? = some (.cells cur 96 (0,0))):=hg;have HG1:Hid (W1.heap[g]? = some (.cells cur1 96 (0,0))):=hg1;have HF:Hid (k*3+news.length<=cur.size):=hfit;have HT:Hid (cur.toList.take (n*3)=flat es):=ht;have HS1:Hid (cur1.size=c*3):=hsz1;have HCS:Hid (cur.size=c*3):=hcs;have HES:Hid (es.length=n):=hn;have c3:(0:Int)<=↑k+1:=by omega
 have c4:(↑k+1:Int)<=↑n:=by omega
 clear hW1 hcur1 hnews hlen hg hg1 hfit ht hsz1 hcs hcell hn;go_enter func194,ntmps194;go_wp2_with fail
 go_region_law (refine step_append_row rfl (.tmp 22) (.tmp 25) 55 rfl 96 i0 3 underlying55 hi hz1 g k c cur (by simp[Act.eval,Act.put]) HG.out A (n-(k+1)) (c-(k+1)) news (by simp[Act.eval,Act.put]) HL.out hsrc.out s2.out (by omega) HF.out ?_;rw[<-HC1.out,<-hW.out])
 all_goals
  have e1:k+(n-(k+1))=n-1:=by omega
  have d1:((n-1:Nat):Int)<=(n:Int):=by omega
  have d2:n-(n-1)=1:=by omega
  have d3:¬c=n-1:=by omega
  have d4:(0:Int)<=((n-1:Nat):Int):=by omega
  have d5:(n:Int)<=(c:Int):=by omega
  simp only[e1];clear e1;go_wp2;go_ret;have hs1:=HS1.out;have hcs:=HCS.out;have hes:=HES.out;have hl1:(cur1.toList.take ((n-1)*3)).length=(n-1)*3:=by rw[List.length_take,Array.length_toList,hs1];omega
  refine⟨rfl,_,setRow_heap W1 g _ _ 96 _ HG1.out,?_,?_,?_,?_⟩
  ·simp only[List.size_toArray,List.length_append,hl1,List.length_drop,Array.length_toList,hs1,encE_len];omega
  ·rw[List.take_left' hl1,HC1.out]
   have hk3:cur.toList.take (k*3)=flat (es.take k):=by
    rw[cells_take es k (by omega),<-HT.out,List.take_take,Nat.min_eq_left (by omega)]
   have hl2:(cur.toList.take (k*3)++news).length=(n-1)*3:=by
    rw[List.length_append,HL.out,List.length_take,Array.length_toList,hcs];omega
   show List.take ((n-1)*3) (cur.toList.take (k*3)++news++cur.toList.drop (k*3+news.length))=_;rw[List.take_left' hl2,hk3,HN.out,<-flat_append,List.eraseIdx_eq_take_drop_succ]
  ·refine⟨by rw[hW.out];rfl,by rw[hW.out];rfl,by rw[hW.out];rfl,by rw[hW.out];simp,fun x hx hne=>?_⟩
   have hxg:x≠g:=fun e=>hne (by rw[e]);rw[setRow_other W1 g x _ hxg,hW.out,setRow_other w.drew g x _ hxg];rfl
  ·rw[hW.out];simp
theorem infoE3:(prog.info? 96).map (·.size)=some 3:=by kernel_rfl
def Inserted (w w':World)(own:Option Nat)(n:Nat)(es:List Ent)(e:Ending):Prop:=
 ∃g c,e=.returned (.slice (some ⟨g,0,none⟩) (n+1) c)/\w'.ownsRow 0 96 3 (.slice (some ⟨g,0,none⟩) (n+1) c) (n+1) (flat es)/\w.grownBy w' own/\((some g:Option Nat)=own\/w.heap.size<=g)
theorem ins_shift (g n c k vb:Nat)(es:List Ent)(x:Ent)(cur:Array Value)(w:World)(hg:w.heap[g]? = some (.cells cur 96 (0,0)))(hn:es.length=n)(hk:k<n)(hnc:n+1<=c)(hcm:c<=maxLen)(hcs:cur.size=c*3)(ht:cur.toList.take (n*3)=flat es)
  (hv:w.heap[vb]? = some (.cells #[.string x.1,.int .i64 x.2.1,.int .i64 x.2.2] 96 (0,0)))(hvg:vb≠g):
  Calls prog 193 #[.slice (some ⟨g,0,none⟩) n c,.int .i64 (k:Int),.slice (some ⟨vb,0,none⟩) 1 1] w fun e w'=>Inserted w w' (some g) n (es.take k++x :: es.drop k) e:=by
 unfold maxLen at hcm;have hcell:∀j u,(flat es)[j]? = some u->w.cell? ⟨g,j,none⟩=some u:=fun j u hu=>by
  rw[<-ht,List.getElem?_take] at hu;split at hu
  ·simp[World.cell?,hg];simpa using hu
  ·cases hu
 obtain⟨n1,hn1⟩:∃n1,n1=flat (es.drop k):=⟨_,rfl⟩;have hl1:n1.length=(n-k)*3:=by rw[hn1,flat_len,List.length_drop,hn]
 have hov:∀lb cb,(callFunc 219 #[.slice (some ⟨vb,0,none⟩) 1 1,.slice (some ⟨g,(k+1)*3,none⟩) lb cb]).run prog w=.ok (.value (.bool false)) w:=fun lb cb=>by
  rw[run_callFunc_extern func219 (by kernel_rfl) (by kernel_rfl) (by kernel_rfl) (e:=Extern.SlicesOverlaps.overlaps #[55,55] #[4]) (by kernel_rfl),
   Lib.run_overlaps_apart w 55 4 96 underlying55 3 (fun w=>sizeOf34 w) ⟨vb,0,none⟩ ⟨g,(k+1)*3,none⟩ 1 1 lb cb hvg 96 96 3 cur.size (by simp[World.shape?,hv]) (by simp[World.shape?,hg]) (by rw[hcs];omega) (by simp[World.frozen?,hv]) (by simp[World.frozen?,hv])]
  rfl
 obtain⟨cur1,hcur1⟩:∃cur1:Array Value,cur1=(cur.toList.take ((k+1)*3)++n1++cur.toList.drop ((k+1)*3+n1.length)).toArray:=⟨_,rfl⟩;have hsz1:cur1.size=c*3:=by
  rw[hcur1];simp only[List.size_toArray,List.length_append,List.length_take,List.length_drop,Array.length_toList];omega
 obtain⟨W1,hW1⟩:∃W1,W1=w.drew.setRow g cur1:=⟨_,rfl⟩;have hg1:W1.heap[g]? = some (.cells cur1 96 (0,0)):=by rw[hW1];exact setRow_heap w.drew g _ _ 96 _ hg
 have hm1:Nat.min (n+1-k) (n-k)=n-k:=by simp only[Nat.min_def];split <;> omega
 have hcp1:∀ty dc sc,(Builtin.copy_ #[55,55] ty #[.slice (some ⟨g,(k+1)*3,none⟩) (n-k) dc,.slice (some ⟨g,k*3,none⟩) (n+1-k) sc]).run prog w.drew=.ok (goInt ((n-k:Nat):Int)) W1:=fun ty dc sc=>by
  have:=run_copyK (P:=prog) w.drew 55 55 ty 96 3 g ((k+1)*3) (n-k) dc ⟨g,k*3,none⟩ (n+1-k) sc cur 96 n1 underlying55 infoE3 hg (by rw[hm1];exact hl1)
   (fun j v hj=>by rw[Addr.add_lit];show w.cell? _=_;refine hcell _ _ ?_;rw[hn1,cells_drop es k (by omega),List.getElem?_drop] at hj;exact hj) (by rw[hl1,hcs];omega) (by rw[hn1];exact flat_one _)
  rw[hm1] at this;rw[this,hW1,hcur1]
 have hv1:W1.heap[vb]? = some (.cells #[.string x.1,.int .i64 x.2.1,.int .i64 x.2.2] 96 (0,0)):=by rw[hW1,setRow_other w.drew g vb _ hvg];exact hv
 obtain⟨cur2,hcur2⟩:∃cur2:Array Value,cur2=(cur1.toList.take (k*3)++encE x++cur1.toList.drop (k*3+(encE x).length)).toArray:=⟨_,rfl⟩;have hcp2:∀ty dc,(Builtin.copy_ #[55,55] ty #[.slice (some ⟨g,k*3,none⟩) (n+1-k) dc,.slice (some ⟨vb,0,none⟩) 1 1]).run prog W1=.ok (goInt ((1:Nat):Int)) (W1.setRow g cur2):=fun ty dc=>by
  have hm:Nat.min 1 (n+1-k)=1:=by simp only[Nat.min_def];split <;> omega
  have:=run_copyK (P:=prog) W1 55 55 ty 96 3 g (k*3) (n+1-k) dc ⟨vb,0,none⟩ 1 1 cur1 96 (encE x) underlying55 infoE3 hg1 (by rw[hm];rfl)
   (fun j v hj=>by rw[Addr.add_lit];match j,hj with
    | 0,hj=>simpa [World.cell?,hv1,encE] using hj
    | 1,hj=>simpa [World.cell?,hv1,encE] using hj
    | 2,hj=>simpa [World.cell?,hv1,encE] using hj
    | j+3,hj=>simp[encE] at hj) (by rw[encE_len,hsz1];omega) (encE_one x)
  rw[hm] at this;rw[this,hcur2]
 have hb0:¬((k:Int)=(n:Int)):=by omega
 have hw1:IntKind.i64.wrap ((k:Int)+1)=(k:Int)+1:=by rw[IntKind.wrap_i64];omega
 have hb1:(0:Int)<=(k:Int)+1:=by omega
 have hb2:(k:Int)+1<=(n:Int)+1:=by omega
 have hb3:(k:Int)<=(n:Int)+1:=by omega
 have hb4:¬c=k+1:=by omega
 have hb5:¬c=k:=by omega
 have hb6:((k:Int)+1).toNat=k+1:=by omega
 have HW:Hid (W1=w.drew.setRow g cur1):=hW1;have HC1:Hid (cur1=(cur.toList.take ((k+1)*3)++n1++cur.toList.drop ((k+1)*3+n1.length)).toArray):=hcur1;have HC2:Hid (cur2=(cur1.toList.take (k*3)++encE x++cur1.toList.drop (k*3+(encE x).length)).toArray):=hcur2;have HN:Hid (n1=flat (es.drop k)):=hn1;have HL:Hid (n1.length=(n-k)*3):=hl1;have HG:Hid (W1.heap[g]? = some (.cells cur1 96 (0,0))):=hg1;have HT:Hid (cur.toList.take (n*3)=flat es):=ht;have HS1:Hid (cur1.size=c*3):=hsz1;have HCS:Hid (cur.size=c*3):=hcs;have HES:Hid (es.length=n):=hn;clear hW1 hcur1 hcur2 hn1 hl1 hg1 ht hsz1 hcs hcell hn hv1 hm1 hv hg;go_enter func193,ntmps193;go_wp2_with (simp only[hov])
 go_region_law (refine step_copy_row rfl _ _ 55 55 rfl _ _ (by simp[Act.eval,Act.put]) (by simp[Act.eval,Act.put]) (hcp1 _ _ _) ?_)
 all_goals
  go_wp2_with (at_builtin;refine wp_copy_row _ rfl _ _ 55 55 rfl _ _ rfl rfl (hcp2 _ _) ?_);go_ret;have hs1:=HS1.out;have hcs:=HCS.out;have hes:=HES.out;have hlk:(cur1.toList.take (k*3)).length=k*3:=by rw[List.length_take,Array.length_toList,hs1];omega
  refine⟨g,c,rfl,⟨by rw[flat_len];simp;omega,.inr ⟨g,c,cur2,rfl,zzF _,setRow_heap W1 g _ _ 96 _ HG.out,hnc,by unfold maxLen;omega,?_,?_⟩⟩,?_,.inl rfl⟩
  ·rw[HC2.out]
   simp only[List.size_toArray,List.length_append,hlk,List.length_drop,Array.length_toList,hs1,encE_len];omega
  ·rw[HC2.out]
   show List.take ((n+1)*3) (cur1.toList.take (k*3)++encE x++cur1.toList.drop (k*3+(encE x).length))=_;have h1:cur1.toList.take (k*3)=flat (es.take k):=by
    rw[HC1.out];show List.take (k*3) (cur.toList.take ((k+1)*3)++n1++cur.toList.drop ((k+1)*3+n1.length))=_;rw[List.append_assoc,List.take_append_of_le_length (by rw[List.length_take,Array.length_toList,hcs];omega),List.take_take,Nat.min_eq_left (by omega),cells_take es k (by omega),<-HT.out,List.take_take,Nat.min_eq_left (by omega)]
   have h2:(cur1.toList.drop (k*3+(encE x).length)).take ((n-k)*3)=flat (es.drop k):=by
    rw[HC1.out];show List.take ((n-k)*3) (List.drop (k*3+(encE x).length) (cur.toList.take ((k+1)*3)++n1++cur.toList.drop ((k+1)*3+n1.length)))=_;have hl:(cur.toList.take ((k+1)*3)).length=(k+1)*3:=by rw[List.length_take,Array.length_toList,hcs];omega
    rw[show k*3+(encE x).length=(k+1)*3 by rw[encE_len];omega,List.append_assoc,List.drop_left' hl,List.take_left' HL.out,HN.out]
   rw[h1,flat_append,show flat (x :: es.drop k)=encE x++flat (es.drop k) from rfl,<-List.append_assoc,List.take_append,List.take_of_length_le (by rw[List.length_append,flat_len,encE_len,List.length_take];omega)]
   congr 1
   rw[show (n+1)*3-(flat (es.take k)++encE x).length=(n-k)*3 by rw[List.length_append,flat_len,encE_len,List.length_take];omega];exact h2
  ·refine⟨by rw[HW.out];rfl,by rw[HW.out];rfl,by rw[HW.out];rfl,by rw[HW.out];simp,fun y hy hne=>?_⟩
   have hyg:y≠g:=fun e=>hne (by rw[e]);rw[setRow_other W1 g y _ hyg,HW.out,setRow_other w.drew g y _ hyg];rfl
theorem ins_end (v:Value)(n vb:Nat)(es:List Ent)(x:Ent)(w:World)(la:Option Addr)(c:Nat)(hve:v=.slice la n c)(hrow:w.ownsRow 0 96 3 v n (flat es))(hn:es.length=n)(h16:n<=16)
  (hv:w.heap[vb]? = some (.cells #[.string x.1,.int .i64 x.2.1,.int .i64 x.2.2] 96 (0,0)))(hnc:n<=c)(hcm:c<=maxLen):
  Calls prog 193 #[.slice la n c,.int .i64 (n:Int),.slice (some ⟨vb,0,none⟩) 1 1] w fun e w'=>Inserted w w' (Value.slice la n c).ownBlock n (es ++ [x]) e:=by
 subst hve;obtain⟨i0,hi,hz0,hz1,hz2⟩:=info_parts info34;unfold maxLen at hcm;have HR:Hid (w.ownsRow 0 96 3 (.slice la n c) n (flat es)):=hrow;have hcells:∀j u,(encE x)[j]? = some u->w.cell? ((⟨vb,0,none⟩:Addr).add j)=some u:=fun j u hj=>by
  rw[Addr.add_lit]
  match j,hj with
  | 0,hj=>simpa [World.cell?,hv,encE] using hj
  | 1,hj=>simpa [World.cell?,hv,encE] using hj
  | 2,hj=>simpa [World.cell?,hv,encE] using hj
  | j+3,hj=>simp[encE] at hj
 have HC:Hid (∀j u,(encE x)[j]? = some u->w.cell? ((⟨vb,0,none⟩:Addr).add j)=some u):=hcells;clear hrow hcells hv;by_cases hcn:c=n
 ·subst hcn
  go_enter func193,ntmps193;go_wp2_with (first | (at_builtin;refine wpList_append_own_at _ rfl (.tmp 23) (.tmp 24) 55 rfl 0 96 i0 _ 3 32 underlying55 hi hz0 hz1 hz2 rfl (by decide) (.slice la c c) c (flat es) rfl HR.out ⟨vb,0,none⟩ 1 1 (encE x) rfl rfl HC.out (encE_one x) (by unfold maxLen;omega) (by omega) (zzF _) ?_;intro v' w1 hown' hgrow _ hloc;obtain⟨g,cap',rfl⟩:=slice_of_owns hown' (by omega)) | go_in);go_ret;refine⟨g,cap',rfl,?_,hgrow,?_⟩
  ·rw[flat_append];exact hown'
  ·rcases hloc with h | h
   ·exact .inl h
   ·right
    have:g=w.heap.size:=by simpa [Value.ownBlock] using h
    omega
 ·go_enter func193,ntmps193
  go_wp2_with (first | (at_builtin;refine wpList_append_own_at _ rfl (.tmp 23) (.tmp 24) 55 rfl 0 96 i0 _ 3 32 underlying55 hi hz0 hz1 hz2 rfl (by decide) (.slice la n c) n (flat es) rfl HR.out ⟨vb,0,none⟩ 1 1 (encE x) rfl rfl HC.out (encE_one x) (by unfold maxLen;omega) (by omega) (zzF _) ?_;intro v' w1 hown' hgrow _ hloc;obtain⟨g,cap',rfl⟩:=slice_of_owns hown' (by omega)) | go_in);go_ret;refine⟨g,cap',rfl,?_,hgrow,?_⟩
  ·rw[flat_append];exact hown'
  ·rcases hloc with h | h
   ·exact .inl h
   ·right
    have:g=w.heap.size:=by simpa [Value.ownBlock] using h
    omega
theorem wp_append_run (w:World){ops:Array Oper}{rest:List Oper}{o:Oper}{a:Act}{Q:Exit->Act->World->Prop}(hgd:o.guard=none)(d s:Operand)(t t':TypeId)
  (ho:o.op=.call { callee:=.builtin .append,args:=#[d,s],argTypes:=#[t,t'] })(v u:Value)(hd:a.eval d=v)(hs:a.eval s=u){v':Value}{w':World}
  (hr:(Builtin.append_ #[t,t'] o.type #[v,u]).run prog w=.ok v' w')(h:wpList prog ops Q rest (a.put o.dst v') w'):wpList prog ops Q (o :: rest) a w:=by
 refine wpList_plain hgd fun K hK=>?_;unfold Oper.wp execOp;simp only[ho,resolve,invoke,builtin,Sem.run_bind,Sem.run_pure,Result.andThen_ok,List.map_toArray,List.map_cons,List.map_nil,hd,hs,hr];exact hK _ _ h
theorem zeroCells_size (m:Nat):(Builtin.zeroCells (Value.agg #[.string ByteArray.empty,.int .i64 0,.int .i64 0]).cells m).size=m*3:=by
 rw[size_zeroCells];rfl
theorem ins_grow (g n k vb:Nat)(es:List Ent)(x:Ent)(cur:Array Value)(w:World)(hg:w.heap[g]? = some (.cells cur 96 (0,0)))(hn:es.length=n)(hk:k<n)(h16:n<=16)(hcs:cur.size=n*3)(ht:cur.toList.take (n*3)=flat es)
  (hv:w.heap[vb]? = some (.cells #[.string x.1,.int .i64 x.2.1,.int .i64 x.2.2] 96 (0,0))):
  Calls prog 193 #[.slice (some ⟨g,0,none⟩) n n,.int .i64 (k:Int),.slice (some ⟨vb,0,none⟩) 1 1] w fun e w'=>Inserted w w' (some g) n (es.take k++x :: es.drop k) e:=by
 obtain⟨i0,hi,hz0,hz1,hz2⟩:=info_parts info34;have hgl:g<w.heap.size:=(Array.getElem?_eq_some_iff.1 hg).1;have hvl:vb<w.heap.size:=(Array.getElem?_eq_some_iff.1 hv).1;have hcell:∀j u,(flat es)[j]? = some u->w.cell? ⟨g,j,none⟩=some u:=fun j u hu=>by
  rw[<-ht,List.getElem?_take] at hu;split at hu
  ·simp[World.cell?,hg];simpa using hu
  ·cases hu
 have hold:(Builtin.firstCells i0.size k (.slice (some ⟨g,0,none⟩) k n)).run prog w.drew=.ok (flat (es.take k)).toArray w.drew:=by
  rw[hz1];exact run_firstCells_some w.drew 3 k ⟨g,0,none⟩ k n (flat (es.take k)) (by rw[flat_len,List.length_take];omega) (fun j v hj=>by
   rw[Addr.add_lit,Nat.zero_add];rw[cells_take es k (by omega),List.getElem?_take] at hj;split at hj
   ·exact hcell j v hj
   ·cases hj)
 obtain⟨G,hG⟩:∃G,G=grownCap w (n+1) n 96:=⟨_,rfl⟩;have hGn:n+1<=G:=by rw[hG];exact grownCap_ge w _ _ _
 have hG63:G<=maxLen:=by rw[hG];exact grownCap_le_maxLen w (n+1) n 96 (by unfold maxLen;omega)
 obtain⟨ROW,hROW⟩:∃ROW:Array Value,ROW=(flat (es.take k)).toArray++Builtin.zeroCells (Value.agg #[.string ByteArray.empty,.int .i64 0,.int .i64 0]).cells (n+1-k)++Builtin.zeroCells (Value.agg #[.string ByteArray.empty,.int .i64 0,.int .i64 0]).cells (G-(n+1)):=⟨_,rfl⟩;have hRs:ROW.size=G*3:=by
  rw[hROW,Array.size_append,Array.size_append,zeroCells_size,zeroCells_size,List.size_toArray,flat_len,List.length_take];omega
 have hRt:ROW.toList.take (k*3)=flat (es.take k):=by
  rw[hROW,Array.append_assoc,Array.toList_append];show List.take (k*3) (flat (es.take k)++_)=_;rw[List.take_left' (by rw[flat_len,List.length_take];omega)]
 obtain⟨W1,hW1⟩:∃W1,W1=w.drew.alloc (.cells ROW 96):=⟨_,rfl⟩;have hrz:∀ty,(Builtin.append_ #[55,3] ty #[.slice (some ⟨g,0,none⟩) k n,.int .i64 ((n:Int)+1-(k:Int))]).run prog w=.ok (.slice (some ⟨w.heap.size,0,none⟩) (n+1) G) W1:=fun ty=>by
  have hik:k+(n+1-k)=n+1:=by omega
  have h:=Lib.run_append_grow_zeros w 55 3 ty 96 i0 _ .i64 .i64 underlying55 underlying3 hi hz0 (some ⟨g,0,none⟩) k n (flat (es.take k)) hold (n+1-k) (by omega) (by omega) (by omega) (by omega) (by rw[hz2];omega) (by rw[hz2,hik];exact growslice_fits (by omega) (by omega));rw[hik] at h;rw[show (n:Int)+1-(k:Int)=((n+1-k:Nat):Int) by omega,h,hW1,hROW,hG]
 have hg0:W1.heap[w.heap.size]? = some (.cells ROW 96 (0,0)):=by rw[hW1];exact Array.getElem?_push_size
 have hold1:∀b,b<w.heap.size->W1.heap[b]? = w.heap[b]?:=fun b hb=>by rw[hW1];exact Below.heap_alloc _ _ _ hb
 obtain⟨cur1,hcur1⟩:∃cur1:Array Value,cur1=(ROW.toList.take (k*3)++encE x++ROW.toList.drop (k*3+(encE x).length)).toArray:=⟨_,rfl⟩;have hs1:cur1.size=G*3:=by
  rw[hcur1];simp only[List.size_toArray,List.length_append,List.length_take,List.length_drop,Array.length_toList,hRs,encE_len];omega
 obtain⟨W2,hW2⟩:∃W2,W2=W1.setRow w.heap.size cur1:=⟨_,rfl⟩;have hcpA:∀ty dc,(Builtin.copy_ #[55,55] ty #[.slice (some ⟨w.heap.size,k*3,none⟩) (n+1-k) dc,.slice (some ⟨vb,0,none⟩) 1 1]).run prog W1=.ok (goInt ((1:Nat):Int)) W2:=fun ty dc=>by
  have hm:Nat.min 1 (n+1-k)=1:=by simp only[Nat.min_def];split <;> omega
  have hv1:=(hold1 vb hvl).trans hv
  have:=run_copyK (P:=prog) W1 55 55 ty 96 3 w.heap.size (k*3) (n+1-k) dc ⟨vb,0,none⟩ 1 1 ROW 96 (encE x) underlying55 infoE3 hg0 (by rw[hm];rfl)
   (fun j v hj=>by rw[Addr.add_lit];match j,hj with
    | 0,hj=>simpa [World.cell?,hv1,encE] using hj
    | 1,hj=>simpa [World.cell?,hv1,encE] using hj
    | 2,hj=>simpa [World.cell?,hv1,encE] using hj
    | j+3,hj=>simp[encE] at hj) (by rw[encE_len,hRs];omega) (encE_one x)
  rw[hm] at this;rw[this,hW2,hcur1]
 have hg2:W2.heap[w.heap.size]? = some (.cells cur1 96 (0,0)):=by rw[hW2];exact setRow_heap W1 _ _ _ 96 _ hg0
 obtain⟨n1,hn1⟩:∃n1,n1=flat (es.drop k):=⟨_,rfl⟩;have hl1:n1.length=(n-k)*3:=by rw[hn1,flat_len,List.length_drop,hn]
 obtain⟨cur2,hcur2⟩:∃cur2:Array Value,cur2=(cur1.toList.take ((k+1)*3)++n1++cur1.toList.drop ((k+1)*3+n1.length)).toArray:=⟨_,rfl⟩;have hcpB:∀ty dc sc,(Builtin.copy_ #[55,55] ty #[.slice (some ⟨w.heap.size,(k+1)*3,none⟩) (n-k) dc,.slice (some ⟨g,k*3,none⟩) (n-k) sc]).run prog W2.drew=.ok (goInt ((n-k:Nat):Int)) (W2.drew.setRow w.heap.size cur2):=fun ty dc sc=>by
  have hm:Nat.min (n-k) (n-k)=n-k:=Nat.min_self _;have hgg:W2.heap[g]? = w.heap[g]?:=by rw[hW2,setRow_other W1 _ g _ (by omega),hold1 g hgl]
  have:=run_copyK (P:=prog) W2.drew 55 55 ty 96 3 w.heap.size ((k+1)*3) (n-k) dc ⟨g,k*3,none⟩ (n-k) sc cur1 96 n1 underlying55 infoE3 hg2 (by rw[hm];exact hl1)
   (fun j v hj=>by
    rw[Addr.add_lit];show W2.cell? _=_;rw[World.cell?_of_block (a:=⟨g,k*3+j,none⟩) hgg];refine hcell _ _ ?_;rw[hn1,cells_drop es k (by omega),List.getElem?_drop] at hj;exact hj) (by rw[hl1,hs1];omega) (by rw[hn1];exact flat_one _)
  rw[hm] at this;rw[this,hcur2]
 have hfin:cur2.size=G*3/\cur2.toList.take ((n+1)*3)=flat (es.take k++x :: es.drop k):=by
  have hl:(cur1.toList.take ((k+1)*3)).length=(k+1)*3:=by rw[List.length_take,Array.length_toList,hs1];omega
  have h1:cur1.toList.take ((k+1)*3)=flat (es.take k)++encE x:=by
   rw[hcur1];show List.take ((k+1)*3) (ROW.toList.take (k*3)++encE x++ROW.toList.drop (k*3+(encE x).length))=_;rw[hRt,List.take_left' (by rw[List.length_append,flat_len,encE_len,List.length_take];omega)]
  rw[hcur2];refine⟨by simp only[List.size_toArray,List.length_append,hl,List.length_drop,Array.length_toList,hs1,hl1];omega,?_⟩;show List.take ((n+1)*3) (cur1.toList.take ((k+1)*3)++n1++cur1.toList.drop ((k+1)*3+n1.length))=_;rw[List.take_left' (by rw[List.length_append,hl,hl1];omega),h1,hn1,flat_append,List.append_assoc];rfl
 have hb0:¬((k:Int)=(n:Int)):=by omega
 have hw1:IntKind.i64.wrap ((k:Int)+1)=(k:Int)+1:=by rw[IntKind.wrap_i64];omega
 have hb1:(0:Int)<=(k:Int)+1:=by omega
 have hb2:(k:Int)+1<=(n:Int)+1:=by omega
 have hb3:(k:Int)<=(n:Int)+1:=by omega
 have hb4:¬G=k+1:=by omega
 have hb5:¬G=k:=by omega
 have hb6:((k:Int)+1).toNat=k+1:=by omega
 have hb7:¬n=k:=by omega
 have hin:k<=n:=by omega
 have hG2:G<=9223372036854775807:=by unfold maxLen at hG63;omega
 have HW1:Hid (W1=w.drew.alloc (.cells ROW 96)):=hW1;have HW2:Hid (W2=W1.setRow w.heap.size cur1):=hW2;have HG2:Hid (W2.heap[w.heap.size]? = some (.cells cur1 96 (0,0))):=hg2;have HF:Hid _:=hfin;have HGM:Hid (G<=maxLen):=hG63;have HES:Hid (es.length=n):=hn;clear hW1 hW2 hcur1 hcur2 hn1 hl1 hg0 hg2 hfin hROW hRs hRt hold hold1 hG hcell ht hcs hs1 hv hg hG63 hi hz0 hz1 hz2 hn;go_enter func193,ntmps193;go_wp2_with (first
  | (at_builtin;refine wp_append_run _ rfl _ _ _ _ rfl _ _ rfl rfl (hrz _) ?_)
  | (at_builtin;refine wp_copy_row _ rfl _ _ 55 55 rfl _ _ rfl rfl (hcpA _ _) ?_))
 go_region_law (refine step_copy_row rfl _ _ 55 55 rfl _ _ (by simp[Act.eval,Act.put]) (by simp[Act.eval,Act.put]) (hcpB _ _ _) ?_)
 all_goals
  go_wp2;go_ret;have hes:=HES.out;have hsz:∀(W:World) (r:Array Value),(W.setRow w.heap.size r).heap.size=W.heap.size:=fun W r=>by simp
  refine⟨w.heap.size,G,rfl,⟨by rw[flat_len];simp;omega,.inr ⟨w.heap.size,G,cur2,rfl,zzF _,setRow_heap W2.drew _ _ _ 96 _ HG2.out,hGn,HGM.out,HF.out.1,HF.out.2⟩⟩,?_,.inr (zzC _)⟩;refine⟨by rw[HW2.out,HW1.out];rfl,by rw[HW2.out,HW1.out];rfl,by rw[HW2.out,HW1.out];rfl,by rw[show (W2.drew.setRow w.heap.size cur2).heap.size=W2.heap.size from hsz _ _,HW2.out,hsz,HW1.out];show w.heap.size<=(w.alloc _).heap.size;rw[World.size_alloc];omega,fun y hy hne=>?_⟩;have hyg:y≠w.heap.size:=by omega
  rw[setRow_other W2.drew _ y _ hyg];show W2.heap[y]? = _;rw[HW2.out,setRow_other W1 _ y _ hyg,HW1.out];exact Below.heap_alloc w.drew _ _ hy
theorem ins_any {w:World}{v:Value}{es:List Ent}(hrow:w.ownsRow 0 96 3 v es.length (flat es))(h16:es.length<=16){k:Nat}(hk:k<=es.length){vb:Nat}{x:Ent}
  (hv:w.heap[vb]? = some (.cells #[.string x.1,.int .i64 x.2.1,.int .i64 x.2.2] 96 (0,0)))(hvg:∀g,v.ownBlock=some g->vb≠g):
  Calls prog 193 #[v,.int .i64 (k:Int),.slice (some ⟨vb,0,none⟩) 1 1] w fun e w'=>Inserted w w' v.ownBlock es.length (es.take k++x :: es.drop k) e:=by
 by_cases hke:k=es.length
 ·subst hke
  rw[List.take_length,List.drop_length];rcases hrow.2 with ⟨rfl,h0⟩ | ⟨g,c,cur,rfl,_,hg,hnc,hcm,hcs,ht⟩
  ·have he:es = []:=List.length_eq_zero_iff.1 h0
   subst he;exact ins_end (.slice none 0 0) 0 vb [] x w none 0 rfl hrow rfl (by omega) hv (zzC _) (by unfold maxLen;omega)
  ·exact ins_end _ es.length vb es x w (some ⟨g,0,none⟩) c rfl hrow rfl h16 hv hnc hcm
 ·rcases hrow.2 with ⟨rfl,h0⟩ | ⟨g,c,cur,rfl,_,hg,hnc,hcm,hcs,ht⟩
  ·omega
  ·by_cases hc:es.length+1<=c
   ·exact ins_shift g es.length c k vb es x cur w hg rfl (by omega) hc hcm hcs ht hv (hvg g rfl)
   ·obtain rfl:c=es.length:=by omega
    exact ins_grow g es.length k vb es x cur w hg rfl (by omega) h16 hcs ht hv
theorem PMap.store {w:World}{b n:Nat}{f:List ByteArray->Option Value}(h:PMap w b n f){q:List ByteArray}(hq:Good q)(hn:n<maxLen){t e:TypeId}(ht:prog.underlying t=some (.map 147 e))(val:Value):
  ∃w',(Instr.mapUpdate t (.map (some b)) (.agg (pathA q)) val).run prog w=.ok () w'/\PMap w' b (n+1) (upd f q (some val))/\w.grownBy w' (some b)/\w'.heap.size=w.heap.size:=by
 obtain⟨M,hV,hM,hK⟩:=h;obtain⟨w',hrun,hV',hg,hs⟩:=hV.store lawP ht hn (keyVP hq) (val:=val);refine⟨w',hrun,⟨_,hV',fun p hp=>?_,fun kl hk hne=>?_⟩,hg,hs⟩
 ·by_cases e:p=q
  ·subst e;rw[mset_same,upd_same]
  ·rw[mset_other (fun h=>e (keyP_inj hp hq h)),upd_other e,hM p hp]
 ·by_cases e:kl=keyP prog q
  ·exact⟨q,hq,e⟩
  ·rw[mset_other e] at hne;exact hK kl hk hne
theorem PMap.drop {w:World}{b n:Nat}{f:List ByteArray->Option Value}(h:PMap w b n f){q:List ByteArray}(hq:Good q){t e:TypeId}(ht:prog.underlying t=some (.map 147 e))(ty:TypeId):
  ∃w',(Builtin.delete_ #[t,147] ty #[.map (some b),.agg (pathA q)]).run prog w=.ok (.tuple #[]) w'/\PMap w' b n (upd f q none)/\w.grownBy w' (some b)/\w'.heap.size=w.heap.size:=by
 obtain⟨M,hV,hM,hK⟩:=h;obtain⟨w',hrun,hV',hg,hs⟩:=hV.drop lawP ht (keyVP hq) ty;refine⟨w',hrun,⟨_,hV',fun p hp=>?_,fun kl hk hne=>?_⟩,hg,hs⟩
 ·by_cases e:p=q
  ·subst e;rw[mset_same,upd_same]
  ·rw[mset_other (fun h=>e (keyP_inj hp hq h)),upd_other e,hM p hp]
 ·by_cases e:kl=keyP prog q
  ·exact⟨q,hq,e⟩
  ·rw[mset_other e] at hne;exact hK kl hk hne
theorem PMap.congr {w:World}{b n:Nat}{f f':List ByteArray->Option Value}(h:PMap w b n f)(hf:∀p,Good p->f p=f' p):PMap w b n f':=by
 obtain⟨M,hV,hM,hK⟩:=h;exact⟨M,hV,fun p hp=>(hM p hp).trans (hf p hp),hK⟩
theorem PMap.isMap {w:World}{b n:Nat}{f:List ByteArray->Option Value}(h:PMap w b n f):∃es clock,w.heap[b]? = some (.map es clock):=by
 obtain⟨M,hV,_⟩:=h;exact hV.isMap
structure Ents (objs:List Ob)(es:List Ent):Prop where
 rising:RisingK es
 len:es.length<=16
 ok:∀e ∈ es,validB e.1=true/\EntOk objs e
section
variable {tg:Tags}{w:World}{s i p:Nat}{B:WB}{objs:List Ob}{g:WG}{lim:Nat}{vD:List ByteArray->Value}
theorem RowT.keep_map {w':World}{t:Nat×Nat}{v:Value}{es:List Ent}{b:Nat}{es0:Array MapEntry}{clock:Nat}(h:RowT tg w t v es)(hb:w.heap[b]? = some (.map es0 clock))(hg:w.grownBy w' (some b)):RowT tg w' t v es:=
 h.keep fun g' hg' hl=>⟨hg.block g' hl (fun e=>by
  have e':g'=b:=by injection e
  rw[e'] at hg'
  exact owns_ne_map h.1 hb hg'.symm),rfl⟩
theorem OwnDV.store {od:List ByteArray->Option (List Ent)}(h:OwnDV tg w i B od lim vD){q:List ByteArray}(hq:Good q)(hl:lim<maxLen){v:Value}{es:List Ent}(hrow:RowT tg w (i,5) v es)(hE:Ents objs es)
  (hnew:∀q' es' gb,q'≠q->od q'=some es'->(vD q').ownBlock=some gb->v.ownBlock≠some gb):
  ∃w',(Instr.mapUpdate 162 (.map (some B.oD)) (.agg (pathA q)) v).run prog w=.ok () w'/\w.grownBy w' (some B.oD)/\w'.heap.size=w.heap.size/\OwnDV tg w' i B (upd od q (some es)) (lim+1) (upd vD q v):=by
 obtain⟨n,hn,hm⟩:=h.map;obtain⟨w',hrun,hm',hg,hs⟩:=hm.store hq (Nat.lt_of_le_of_lt hn hl) underlying162 v;obtain⟨es0,ck,hb⟩:=hm.isMap;refine⟨w',hrun,hg,hs,⟨h.tag,⟨n+1,by omega,hm'.congr (fun p hp=>?_)⟩,fun p fs hp=>?_,fun p fs hp=>?_,fun p p' fs fs' gb hp hp' hb1 hb2=>?_⟩⟩
 ·by_cases e:p=q
  ·subst e;rw[upd_same,upd_same,upd_same];rfl
  ·rw[upd_other e,upd_other e,upd_other e]
 ·by_cases e:p=q
  ·subst e
   rw[upd_same] at hp;cases hp;exact⟨hq,hE.rising,hE.len,fun e he=>⟨(hE.ok e he).1,(hE.ok e he).2.1⟩⟩
  ·rw[upd_other e] at hp;exact h.good p fs hp
 ·by_cases e:p=q
  ·subst e
   rw[upd_same] at hp ⊢;cases hp;exact hrow.keep_map hb hg
  ·rw[upd_other e] at hp ⊢
   exact (h.row p fs hp).keep_map hb hg
 ·by_cases e:p=q
  ·by_cases e':p'=q
   ·rw[e,e']
   ·subst e
    rw[upd_same] at hb1;rw[upd_other e'] at hp' hb2;exact absurd hb1 (hnew p' fs' gb e' hp' hb2)
  ·by_cases e':p'=q
   ·subst e'
    rw[upd_same] at hb2;rw[upd_other e] at hp hb1;exact absurd hb2 (hnew p fs gb e hp hb1)
   ·rw[upd_other e] at hp hb1
    rw[upd_other e'] at hp' hb2;exact h.inj p p' fs fs' gb hp hp' hb1 hb2
theorem WInv.od {tg':Tags}{w':World}{lim':Nat}{od':List ByteArray->Option (List Ent)}{vD':List ByteArray->Value}(h:WInv tg w s i p B objs g lim)(m:Moves (fun t=>t=(i,5)) tg tg' w w')(hl:lim<=lim')(hD:OwnDV tg' w' i B od' lim' vD')(hok:∀q es,od' q=some es->∀e ∈ es,EntOk objs e):
  WInv tg' w' s i p B objs { g with ft:={ g.ft with od:=od' } } lim':=by
 have hi:=h.two;have hp:=h.wp;refine⟨h.two,(h.st.moves m (fun e=>by cases e) (fun e=>by cases e)).mono hl,⟨hp.tree.moves m (fun e=>by cases e),(hp.keptF.moves m (fun e=>by cases e)).mono hl,(hp.keptD.moves m (fun e=>by cases e)).mono hl,(hp.ownF.moves m (fun e=>by cases e)).mono hl,⟨vD',hD⟩,hp.files.moves m (fun e=>by cases e),hp.held,hp.opens.moves m (fun e=>by cases e) (fun e=>by cases e),⟨hp.ok.root,hok⟩⟩⟩
end
theorem own_hit {tg:Tags}{w:World}{i lim:Nat}{B:WB}{od:List ByteArray->Option (List Ent)}{vD:List ByteArray->Value}(h:OwnDV tg w i B od lim vD){q:List ByteArray}(hq:Good q){W:World}(hb:Below w.heap.size w W):
  (Instr.lookup 162 (.map (some B.oD)) (.agg (pathA q)) true).run prog W=.ok (.tuple #[((od q).map fun _=>vD q).getD (.slice none 0 0),.bool (od q).isSome]) W:=by
 obtain⟨n,_,M,hV,hM,_⟩:=h.map
 have:=(hV.keep (w':=W) (hb.block _ hV.lt)).look_ok lawP underlying162 (zeroEs W) (keyVP hq)
 rw[hM q hq] at this;rw[this];show Result.ok (Value.tuple #[_,Value.bool ((od q).map fun _=>vD q).isSome]) W=_;rw[Option.isSome_map]
theorem claim_hit (t m:Nat)(s0 s1 s2 s3 s4:ByteArray)(v:Value)(w:World)(ht:t<w.heap.size)(c8:w.cell? ⟨t,8,none⟩=some (.map (some m)))
  (hlk:∀W,Below w.heap.size w W->(Instr.lookup 162 (.map (some m)) (.agg #[.string s0,.string s1,.string s2,.string s3,.string s4]) true).run prog W=.ok (.tuple #[v,.bool true]) W):
  Calls prog 192 #[.pointer (some ⟨t,0,none⟩),.agg #[.string s0,.string s1,.string s2,.string s3,.string s4]] w fun e w'=>e=.returned v/\Below w.heap.size w w':=by
 have hl:=hlk _ (below_drew ((Below.refl w.heap.size w).alloc (zzC _) (.cells #[.string s0,.string s1,.string s2,.string s3,.string s4] 147)));clear hlk;go_enter func192,ntmps192;go_wp2
 go_region
 all_goals
  go_wp2;go_ret;exact⟨rfl,below_drew ((Below.refl _ _).alloc (zzC _) _)⟩
theorem cloneE_row {w:World}{v:Value}{es:List Ent}(hrow:w.ownsRow 0 96 3 v es.length (flat es))(h16:es.length<=16):
  Calls prog 170 #[v] w fun e w'=>∃v',e=.returned v'/\w'.ownsRow 0 96 3 v' es.length (flat es)/\(∀gb,v'.ownBlock=some gb->w.heap.size<=gb)/\Below w.heap.size w w':=by
 rcases hrow.2 with ⟨rfl,h0⟩ | ⟨g,c,cur,rfl,_,hg,hnc,hcm,hcs,ht⟩
 ·have he:es = []:=List.length_eq_zero_iff.1 h0
  subst he;refine (AnyE.slices_Clone_nil cloneE 0 0 w).mono ?_;rintro e w' ⟨rfl,rfl⟩;exact⟨_,rfl,hrow,fun gb hgb=>by simp[Value.ownBlock] at hgb,Below.refl _ _⟩
 ·refine (cloneE_any g 0 es.length c es w rfl (by omega) (owns_cells hrow)).mono ?_
  rintro e w' ⟨v',rfl,hr,_,hb⟩;refine⟨v',rfl,row_base0 hr,fun gb hgb=>?_,hb⟩;rcases hr.2 with ⟨e,_⟩ | ⟨g',c',_,e,hge,_⟩
  ·rw[e] at hgb;simp[Value.ownBlock] at hgb
  ·rw[e] at hgb
   obtain rfl:g'=gb:=by simpa [Value.ownBlock] using hgb
   exact hge
theorem look_ents {objs:List Ob}(hS:Sound objs){ft:FT}(hok:FtOk objs ft)(hr:∀p es,ft.od p=some es->RisingK es/\es.length<=16)(hv:∀p es,ft.od p=some es->∀e ∈ es,validB e.1=true)(fs:FS)(r:List ByteArray):Ents objs (lookF objs ft fs r).2.2:=by
 obtain⟨f1,l1,l2,l3⟩:=find_entOk hS hok hr fs r;refine⟨l2,l3,fun e he=>⟨?_,l1 e he⟩⟩
 revert e
 unfold lookF;by_cases h0:(findF objs ft fs r).2.1≠0
 ·simp only[zzD h0];simp
 ·simp only[zzB h0]
  unfold entsF;by_cases hk:(findF objs ft fs r).2.2.2.1≠2
  ·rw[zzD hk];simp
  ·rw[zzB hk]
   by_cases hid:(findF objs ft fs r).2.2.2.2=0
   ·rw[zzD hid]
    cases ho:ft.od r.reverse with
    | none=>simp
    | some es=>exact fun e he=>hv _ es ho e he
   ·rw[zzB hid]
    by_cases hG:((findF objs ft fs r).1.dirG (findF objs ft fs r).2.2.2.2).2=true
    ·rw[zzD hG]
     have he:=f1 (Decidable.not_not.1 h0);obtain⟨s1,s2,s3⟩:=hS.2 _ ((he.2 hid).trans (Decidable.not_not.1 hk));exact fun e he=>(s3 e he).1
    ·rw[zzB hG];simp
theorem WInv.ents {tg:Tags}{w:World}{s i p:Nat}{B:WB}{objs:List Ob}{g:WG}{lim:Nat}(h:WInv tg w s i p B objs g lim)(fs:FS)(r:List ByteArray):Ents objs (lookF objs g.ft fs r).2.2:=by
 obtain⟨vD,hD⟩:=h.wp.ownD;exact look_ents h.st.sound h.wp.ok h.rising (fun p es he e hm=>((hD.good p es he).2.2.2 e hm).1) fs r
def tagOf (tg:Tags)(v:Value)(t:Nat×Nat):Tags:=match v.ownBlock with
 | some b=>tagAt tg b t
 | none=>tg
theorem tagOf_other {tg:Tags}{v:Value}{k:Nat}(h:v.ownBlock≠some k)(t:Nat×Nat):tagOf tg v t k=tg k:=by
 unfold tagOf;cases hv:v.ownBlock with
 | none=>rfl
 | some b=>exact tagAt_other (fun e=>h (by rw[hv,e])) _
theorem tagOf_same {tg:Tags}{v:Value}{k:Nat}(h:v.ownBlock=some k)(t:Nat×Nat):tagOf tg v t k=t:=by
 unfold tagOf;rw[h];exact tagAt_same _ _ _
section
variable {s i p:Nat}{B:WB}{objs:List Ob}
theorem WPart.retag {tg tg':Tags}{w:World}{g:WG}{lim:Nat}(hi:2<=i)(h:WPart tg w i p B objs g lim)(hk:∀k,(tg k).1≠0->tg' k=tg k):WPart tg' w i p B objs g lim:=by
 have key:∀{b:Nat} {t:Nat},tg b=(i,t)->tg' b=(i,t):=fun {b t} hb=>(hk b (by rw[hb];show i≠0;omega)).trans hb;have rowk:∀{t:Nat} {v:Value} {es:List Ent},RowT tg w (i,t) v es->RowT tg' w (i,t) v es:=fun hr=>⟨hr.1,fun g' hg'=>key (hr.2 g' hg')⟩;obtain⟨ht,hF,hD,oF,⟨vD,oD⟩,fl,held,op,ok⟩:=h;refine⟨⟨key ht.tt,key ht.tF,key ht.tD,ht.ht,ht.hF,ht.hD⟩,?_,?_,?_,⟨vD,key oD.tag,oD.map,oD.good,fun q es hq=>rowk (oD.row q es hq),oD.inj⟩,?_,held,⟨key op.tw,op.hw,op.past,?_,op.inj⟩,ok⟩
 ·obtain⟨a,b⟩:=hF;exact⟨key a,b⟩
 ·obtain⟨a,n,M,vK,b1,b2,b3,b4⟩:=hD;exact⟨key a,n,M,vK,b1,b2,b3,fun id hid=>⟨(b4 id hid).1,rowk (b4 id hid).2⟩⟩
 ·obtain⟨a,b⟩:=oF;exact⟨key a,b⟩
 ·intro f id d hf
  obtain⟨a,b⟩:=fl f id d hf;exact⟨key a,b⟩
 ·intro k b f fg pl hk'
  obtain⟨a,c⟩:=op.at_ k b f fg pl hk';exact⟨key a,c⟩
theorem OwnDV.retag {tg tg':Tags}{w:World}{od:List ByteArray->Option (List Ent)}{lim:Nat}{vD:List ByteArray->Value}(hi:2<=i)(h:OwnDV tg w i B od lim vD)(hk:∀k,(tg k).1≠0->tg' k=tg k):OwnDV tg' w i B od lim vD:=by
 have key:∀{b:Nat} {t:Nat},tg b=(i,t)->tg' b=(i,t):=fun {b t} hb=>(hk b (by rw[hb];show i≠0;omega)).trans hb;exact⟨key h.tag,h.map,h.good,fun q es hq=>⟨(h.row q es hq).1,fun g' hg'=>key ((h.row q es hq).2 g' hg')⟩,h.inj⟩
theorem WInv.retag {tg tg':Tags}{w:World}{g:WG}{lim:Nat}(h:WInv tg w s i p B objs g lim)(hf:Fresh tg' w)(hk:∀k,(tg k).1≠0->tg' k=tg k):WInv tg' w s i p B objs g lim:=
 ⟨h.two,h.st.retag hf (fun k h1=>hk k (by rw[h1];decide)),h.wp.retag h.two hk⟩
theorem own_new {tg:Tags}{w W:World}{g:WG}{lim:Nat}{vD:List ByteArray->Value}(h:WInv tg w s i p B objs g lim)(hD0:OwnDV tg w i B g.ft.od lim vD)(hl:lim<maxLen){q:List ByteArray}(hq:Good q)(hb:Below w.heap.size w W){v:Value}{es:List Ent}(hrow:W.ownsRow 0 96 3 v es.length (flat es))(hfr:∀gb,v.ownBlock=some gb->w.heap.size<=gb)(hE:Ents objs es):
  ∃w' tg',(Instr.mapUpdate 162 (.map (some B.oD)) (.agg (pathA q)) v).run prog W=.ok () w'/\W.grownBy w' (some B.oD)/\w'.heap.size=W.heap.size/\B.oD<w.heap.size/\Moves (Mine i) tg tg' w w'/\
   WInv tg' w' s i p B objs { g with ft:={ g.ft with od:=upd g.ft.od q (some es) } } (lim+1)/\OwnDV tg' w' i B (upd g.ft.od q (some es)) (lim+1) (upd vD q v)/\∀gb,v.ownBlock=some gb->w'.heap[gb]? = W.heap[gb]?:=by
 have hi:=h.two;have hW:=h.below hb;have hD:=hD0.moves (Moves.of_below (P:=fun _=>False) hb) (fun x=>x);have hlt:∀gb,v.ownBlock=some gb->gb<W.heap.size:=fun gb hgb=>ownsRow_lt hrow hgb;have h0:∀gb,v.ownBlock=some gb->tg gb=(0,0):=fun gb hgb=>h.st.fresh gb (hfr gb hgb);have hk:∀k,(tg k).1≠0->tagOf tg v (i,5) k=tg k:=fun k hk=>tagOf_other (fun e=>hk (by rw[h0 k e])) _;have hf:Fresh (tagOf tg v (i,5)) W:=fun k hk'=>by
  rw[tagOf_other (fun e=>by have:=hlt k e;omega)];exact hW.st.fresh k hk'
 have hW':=hW.retag hf hk;have hD':=hD.retag hi hk;have hrow':RowT (tagOf tg v (i,5)) W (i,5) v es:=⟨hrow,fun gb hgb=>tagOf_same hgb _⟩;obtain⟨w',hrun,hg,hs,hD2⟩:=hD'.store (objs:=objs) hq hl hrow' hE (fun q' es' gb _ ho hb1 hb2=>by
  have h1:=(hD.row q' es' ho).2 gb hb1;rw[h0 gb hb2] at h1;cases h1)
 have m:Moves (fun t=>t=(i,5)) (tagOf tg v (i,5)) (tagOf tg v (i,5)) W w':=moves_grown hg hs hD'.tag;obtain⟨n0,_,hm0⟩:=hD.map;obtain⟨e0,ck0,hmap⟩:=hm0.isMap;obtain⟨n1,_,hm1⟩:=hD0.map;refine⟨w',tagOf tg v (i,5),hrun,hg,hs,hm1.lt,?_,hW'.od m (Nat.le_succ _) hD2 (fun q' es' ho=>?_),hD2,fun gb hgb=>?_⟩
 ·have m1:Moves (Mine i) tg (tagOf tg v (i,5)) w W:=⟨hb.os,hb.tape,hb.output,hb.size,fun k hk'=>tagOf_other (fun e=>by have:=hfr k e;omega) _,fun k hk' _=>hb.block k hk',fun _=>hf⟩
  exact m1.trans (m.mono (fun t ht=>.inr (by rw[ht])))
 ·by_cases e:q'=q
  ·subst e
   have ho':upd g.ft.od q' (some es) q'=some es':=ho;rw[upd_same] at ho';cases ho';exact fun e he=>(hE.ok e he).2
  ·have ho':upd g.ft.od q (some es) q'=some es':=ho
   rw[upd_other e] at ho';exact h.wp.ok.od q' es' ho'
 ·refine hg.block gb (hlt gb hgb) (fun e=>?_)
  have e':gb=B.oD:=by injection e
  rw[e'] at hgb;exact owns_ne_map hrow hmap hgb.symm
end
end Go.Proofs.YtlgidcmmgohagaaGreat
