/- What is proved here: 'put' where there is nothing of that name. -/
import Derived.Test.YtlgidcmmgohagaaGreatFileM21
namespace Go.Proofs.YtlgidcmmgohagaaGreat
open Go.RowKit Go.Sort Go.Shelf Go.Proofs.Tryz
set_option linter.unusedVariables false
set_option maxRecDepth 100000
set_option maxHeartbeats 16000000
theorem ents_put {objs:List Ob}{es:List Ent}(h:Ents objs es){n:ByteArray}{v:Int×Int}(hn:validB n=true)(hv:EntOk objs (n,v))(hl:thereK es n=true\/es.length<16):Ents objs (putK es n v):=by
 refine⟨putK_rising h.rising,?_,fun e he=>?_⟩
 ·rw[putK_length]
  have:=h.len
  rcases hl with h1 | h1
  ·rw[zzD h1];omega
  ·split <;> omega
 ·rcases mapK_mem he with rfl | he
  ·exact⟨hn,hv⟩
  ·exact h.ok e he
section
variable {s i p:Nat}{B:WB}{objs:List Ob}
theorem put_end {tg:Tags}{w w6:World}{g:WG}{lim:Nat}{vD:List ByteArray->Value}{q:List ByteArray}{es:List Ent}{nm:ByteArray}{v:Int×Int}{ix:Nat}{e:Ending}(h:WInv tg w s i p B objs g lim)(hD:OwnDV tg w i B g.ft.od lim vD)(hl:lim<maxLen)(ho:g.ft.od q=some es)(hth:thereK es nm=false)(hix:idxK es nm=ix)(hE:Ents objs es)(h16:es.length<16)(hn:validB nm=true)(hv:EntOk objs (nm,v)){v3:Value}(hvq:vD q=v3)
  (hi:Inserted w w6 v3.ownBlock es.length (es.take ix++(nm,v) :: es.drop ix) e):
  ∃gc cc,e=.returned (.slice (some ⟨gc,0,none⟩) (es.length+1) cc)/\w.grownBy w6 v3.ownBlock/\∃w7 tg7 vD7,(Instr.mapUpdate 162 (.map (some B.oD)) (.agg (pathA q)) (.slice (some ⟨gc,0,none⟩) (es.length+1) cc)).run prog w6=.ok () w7/\Moves (Mine i) tg tg7 w w7/\
   WInv tg7 w7 s i p B objs { g with ft:={ g.ft with od:=upd g.ft.od q (some (putK es nm v)) } } (lim+1)/\OwnDV tg7 w7 i B (upd g.ft.od q (some (putK es nm v))) (lim+1) vD7:=by
 subst hvq;obtain⟨gc,cc,he,hrow,hg,hloc⟩:=hi;have hput:putK es nm v=es.take ix++(nm,v) :: es.drop ix:=by
  unfold putK;rw[zzB (by rw[hth];decide),hix]
 have hlen:(putK es nm v).length=es.length+1:=by rw[putK_length,zzB (by rw[hth];decide)]
 obtain⟨w7,tg7,h1,h2,h3,h4⟩:=own_swap h hD hl ho hg (v6:=.slice (some ⟨gc,0,none⟩) (es.length+1) cc) (es':=putK es nm v) (by rw[hlen,hput];exact hrow) (by
  rcases hloc with h1 | h1
  ·exact .inl h1
  ·exact .inr (fun gb hgb=>by
    obtain rfl:gc=gb:=by simpa [Value.ownBlock] using hgb
    exact h1)) (ents_put hE hn hv (.inr h16)) (Below.refl _ _)
 exact⟨gc,cc,he,hg,w7,tg7,_,h1,h2,h3,h4⟩
theorem out_row {w w':World}{c:Nat}{row:Option Nat}(hg:w.grownBy w' row)(hc:c<w.heap.size)(hne:some c≠row)(o:Nat):w'.cell? ⟨c,o,none⟩=w.cell? ⟨c,o,none⟩:=World.cell?_of_block (a:=⟨c,o,none⟩) (hg.block c hc hne)
theorem row_apart {tg:Tags}{w:World}{t t':Nat×Nat}{v:Value}{es:List Ent}{c:Nat}(h:RowT tg w t v es)(hc:tg c=t')(hne:t'≠t):some c≠v.ownBlock:=fun e=>hne (hc.symm.trans (h.2 c e.symm))
theorem row_old {tg:Tags}{w w4:World}{t:Nat×Nat}{v:Value}{es:List Ent}(h:RowT tg w t v es)(hb:Below w.heap.size w w4):∀g,v.ownBlock=some g->w4.heap.size≠g:=fun g hg e=>by
 have h1:=ownsRow_lt h.1 hg
 have h2:=hb.size
 omega
theorem two_size0 {w w1:World}{o1 o2:Obj}(h:Below ((w.alloc o1).alloc o2).heap.size ((w.alloc o1).alloc o2) w1):w.heap.size<w1.heap.size/\w.heap.size+1<w1.heap.size:=by
 have h2:=h.size;rw[World.size_alloc,World.size_alloc] at h2;omega
theorem below_set {n:Nat}{w W:World}{b o:Nat}{v:Value}(h:Below n w W)(hb:n<=b):Below n w (W.setCell ⟨b,o,none⟩ v):=h.setCell hb _
theorem set_size {W:World}{b o:Nat}{v:Value}:(W.setCell ⟨b,o,none⟩ v).heap.size=W.heap.size:=by simp
theorem put_new {tg:Tags}{w:World}{g:WG}{lim:Nat}{K:List ByteArray->List Ent}{vD:List ByteArray->Value}(h:WInv tg w s i p B objs g lim)(hD:OwnDV tg w i B g.ft.od lim vD)(hl:lim+300<1099511627776){q:List ByteArray}{n:ByteArray}(hp:Good (q ++ [n]))(hway:OwnWay objs g.fs g.ft K q)(hE:Ents objs (K q))(hth:thereK (K q) n=false)(h16:(K q).length<16)
  (nm:ByteArray)(k id:Int)(hv:EntOk objs (n,k,id)):
  Calls prog 135 #[.pointer (some ⟨B.bt,0,none⟩),.agg (pathA (q ++ [n])),.agg #[.string nm,.int .i64 k,.int .i64 id]] w fun en w'=>en=.returned (.tuple #[])/\∃tg' vD',Moves (Mine i) tg tg' w w'/\
   WInv tg' w' s i p B objs { g with ft:=putF objs g.fs g.ft q n (k,id) } (lim+150)/\OwnDV tg' w' i B (putF objs g.fs g.ft q n (k,id)).od (lim+150) vD':=by
 have hq:Good q:=by have:=hp.dropLast;rwa [List.dropLast_concat] at this
 have hvn:validB n=true:=hp.val n (by simp);have hq4:q.length<=4:=by have:=hp.len;simp at this;omega
 obtain⟨m1,m2,m3,m4⟩:=claim_at hway;have htk:putF objs g.fs g.ft q n (k,id) = { claimF objs g.fs g.ft q.reverse with od:=upd (claimF objs g.fs g.ft q.reverse).od q (some (putK (K q) n (k,id))) }:=by
  unfold putF;simp only[m3,Option.getD_some];rw[zzB (by rw[hth];decide)]
 rw[htk];have hcl:=fun W (hb:Below w.heap.size w W)=>claim_all (s:=s) (i:=i) (p:=p) (B:=B) (objs:=objs) q.reverse tg W g lim K vD (h.below hb) (hD.moves (Moves.of_below (P:=fun _=>False) hb) (fun x=>x)) (by rw[List.length_reverse];omega) (by rw[List.reverse_reverse];exact hq) (by rw[List.reverse_reverse];exact hway)
 rw[List.reverse_reverse,List.length_reverse] at hcl;have hpar:=fun W=>parent_any (q ++ [n]) hp W
 have hname:=fun W=>name_any (q ++ [n]) hp (by simp) W;rw[List.dropLast_concat] at hpar;simp only[List.getLast_concat] at hname;obtain⟨s0,s1,s2,s3,s4,hP⟩:∃s0 s1 s2 s3 s4,pathA (q ++ [n]) = #[.string s0,.string s1,.string s2,.string s3,.string s4]:=⟨_,_,_,_,_,rfl⟩;obtain⟨r0,r1,r2,r3,r4,hP'⟩:∃s0 s1 s2 s3 s4,pathA q = #[.string s0,.string s1,.string s2,.string s3,.string s4]:=⟨_,_,_,_,_,rfl⟩;unfold pathV at hpar hname;simp only[hP,hP'] at hpar hname hcl;rw[hP];have hi:=h.two;have hlm:lim+20*(q.length+1)<maxLen:=by unfold maxLen;omega
 have hixl:idxK (K q) n<=(K q).length:=idxK_le _ _;generalize hixe:idxK (K q) n=ix at hixl;have HIX:Hid (idxK (K q) n=ix):=hixe;have HP':Hid _:=hP';have HCL:Hid _:=hcl;have HOD:Hid _:=m3;have HE:Hid _:=hE;have HTH:Hid _:=hth;have hfr0:=h.st.fresh;have HFR:Hid _:=hfr0;have HV:Hid _:=hv;clear hixe h hD hcl m1 m2 m3 m4 hE hth hP hP' hway htk hfr0 hv;go_enter func135,ntmps135;go_wp2_with (first
  | (go_at_call 134;refine (hname _).mono ?_;rintro e w1 ⟨rfl,hb1⟩;obtain⟨hz0,hz1⟩:=two_size0 hb1;have k1:=fun o=>(bcell hb1).1 w.heap.size o (by simp;omega);have e1:=fun o=>(bcell hb1).1 (w.heap.size+1) o (by simp);have f1:=fun o=>(bcell hb1).2 (w.heap.size+1) o (by simp);have b1:=below_via (((Below.refl w.heap.size w).alloc (zzC _) _).alloc (by simp) _) hb1)
  | (go_at_call 132;go_loud (refine (hpar _).mono ?_;rintro e w2 ⟨rfl,hb2⟩;have b2:=below_via (below_set b1 (Nat.le_succ _)) hb2;have hzs:=zzA hz1 (Nat.le_of_eq (set_size (W:=w1) (b:=w.heap.size+1) (o:=0) (v:=.string n)).symm);have e2:=fun o=>(bcell hb2).1 (w.heap.size+1) o hzs;have hz2:=zzA hzs hb2.size))
  | (go_at_call 192;go_loud (refine (HCL.out _ (b2.alloc b2.size _)).mono ?_;rintro e w3 ⟨v3,rfl,tg3,vD3,mv3,hW3,hD3,hv3,hq3⟩;have ke:=kept_cell (b:=w.heap.size+1) hi mv3 (lt_alloc hz2 _) (HFR.out _ (Nat.le_succ _));have kp:=kept_cell (b:=w2.heap.size) hi mv3 (self_alloc _ _) (HFR.out _ b2.size);have tz1:=(mv3.tags w2.heap.size (self_alloc _ _)).trans (HFR.out _ b2.size);have tze:=(mv3.tags (w.heap.size+1) (lt_alloc hz2 _)).trans (HFR.out _ (Nat.le_succ _));have hsz3:w2.heap.size<w3.heap.size:=zzA (self_alloc _ _) mv3.size;have hse3:w.heap.size+1<w3.heap.size:=Nat.lt_trans hz2 hsz3;have hr8:=hD3.row _ _ HOD.out;rw[hv3] at hr8;obtain⟨ht3,c83,_,_,_⟩:=hW3.wp.tree.cells;have HW3:Hid _:=hW3;have HM3:Hid _:=mv3;have HD3:Hid _:=hD3;have HR8:Hid _:=hr8;have HG8:Hid _:=hv3;clear hW3 mv3 hD3 hr8 hv3 hq3))
  | (go_at_call 133;go_loud (refine (search_any HR8.out.1 n HE.out.rising HE.out.len).mono ?_;rintro e w4 ⟨rfl,hb4⟩;rw[HIX.out,HTH.out];have k4:=fun o=>(bcell hb4).1 w2.heap.size o hsz3;have e4:=fun o=>(bcell hb4).1 (w.heap.size+1) o hse3;have d4:=(bcell hb4).1 B.bt 8 ht3)))
 have b45:Below w3.heap.size w3 ((w4.alloc (.cells #[.string n,.int .i64 k,.int .i64 id] 96)).drew):=below_drew (hb4.alloc hb4.size _);have hr5:((w4.alloc (.cells #[.string n,.int .i64 k,.int .i64 id] 96)).drew).ownsRow 0 96 3 v3 (K q).length (flat (K q)):=ownsRow_keep HR8.out.1 (fun g' hg'=>b45.block g' (ownsRow_lt HR8.out.1 hg'));have hvb:((w4.alloc (.cells #[.string n,.int .i64 k,.int .i64 id] 96)).drew).heap[w4.heap.size]? = some (.cells #[.string n,.int .i64 k,.int .i64 id] 96 (0,0)):=Array.getElem?_push_size;have hins:=ins_any (x:=(n,k,id)) hr5 (Nat.le_of_lt h16) hixl hvb (row_old HR8.out hb4);have HINS:Hid _:=hins;have a1:=row_apart HR8.out tz1 (ne05 i);have a2:=row_apart HR8.out tze (ne05 i);have a3:=row_apart HR8.out HW3.out.wp.tree.tt (ne15 i);have z1:w2.heap.size<((w4.alloc (.cells #[.string n,.int .i64 k,.int .i64 id] 96)).drew).heap.size:=zzA hsz3 b45.size;have z2:w.heap.size+1<((w4.alloc (.cells #[.string n,.int .i64 k,.int .i64 id] 96)).drew).heap.size:=zzA hse3 b45.size;have z3:B.bt<((w4.alloc (.cells #[.string n,.int .i64 k,.int .i64 id] 96)).drew).heap.size:=zzA ht3 b45.size;have zz1:w2.heap.size<w4.heap.size:=zzA hsz3 hb4.size;have zz2:w.heap.size+1<w4.heap.size:=zzA hse3 hb4.size;have zz3:B.bt<w4.heap.size:=zzA ht3 hb4.size;have HB45:Hid _:=b45;have HZ:Hid _:=And.intro z1 (And.intro z2 z3);have HA:Hid _:=And.intro a1 (And.intro a2 a3);clear hins hr5 hvb b45 z1 z2 z3 a1 a2 a3
 go_region_with (go_at_call 193;go_loud (refine Calls.mono HINS.out ?_;rintro e w6 hi6;obtain⟨gc,cc,rfl,hg6,w7,tg7,vD7,hmu,m7,hW7,hD7⟩:=put_end (v:=(k,id)) (HW3.out.below HB45.out) (HD3.out.moves (Moves.of_below (P:=fun _=>False) HB45.out) (fun x=>x)) hlm HOD.out HTH.out HIX.out HE.out h16 hvn HV.out HG8.out hi6;have k6:=out_row hg6 HZ.out.1 HA.out.1;have e6:=out_row hg6 HZ.out.2.1 HA.out.2.1;have d6:=out_row hg6 HZ.out.2.2 HA.out.2.2 8;rw[HP'.out] at hmu;have HM7:Hid _:=m7;have HW7:Hid _:=hW7;have HD7:Hid _:=hD7;clear m7 hW7 hD7 hg6 hi6))
 all_goals
  go_wp2;exact bodyPost_end (v:=.tuple #[]) (by simp[results,results135,go_sem]) rfl ⟨rfl,tg7,vD7,((call_moves (b2.alloc b2.size _) HM3.out).trans ((Moves.of_below HB45.out).trans HM7.out)),HW7.out.mono (by omega),HD7.out.mono (by omega)⟩
theorem over_cells {tg:Tags}{w:World}{g:WG}{lim:Nat}{vD:List ByteArray->Value}(h:WInv tg w s i p B objs g lim)(hD:OwnDV tg w i B g.ft.od lim vD){q:List ByteArray}{es:List Ent}{n:ByteArray}{k id:Int}{gb ln c ix:Nat}(ho:g.ft.od q=some es)(hv:vD q=.slice (some ⟨gb,0,none⟩) ln c)(ht:thereK es n=true)(hixe:idxK es n=ix)(hn:validB n=true)(hE:EntOk objs (n,k,id)){w':World}
  (hw':w'=((w.setCell ⟨gb,ix*3,none⟩ (.string n)).setCell ⟨gb,ix*3+1,none⟩ (.int .i64 k)).setCell ⟨gb,ix*3+2,none⟩ (.int .i64 id)):
  WInv tg w' s i p B objs { g with ft:={ g.ft with od:=upd g.ft.od q (some (putK es n (k,id))) } } lim/\OwnDV tg w' i B (upd g.ft.od q (some (putK es n (k,id)))) lim vD/\Moves (fun t=>t=(i,5)) tg tg w w'/\w.grownBy w' (some gb):=by
 subst hixe;have hEs:=h.entsOf ho;obtain⟨hix,hnm⟩:=there_at ht;have hrow:=hD.row q es ho;have hgb:(vD q).ownBlock=some gb:=by rw[hv];rfl
 have hg:w.grownBy w' (some gb):=by rw[hw'];exact grown_set (grown_set (grown_set (grown_refl _ _)))
 have hE':=ents_put hEs hn hE (.inl ht);have hr1:=hrow.1;rw[hv] at hr1;have hln:ln=es.length:=by
  rcases hr1.2 with ⟨e,_⟩ | ⟨g',c',_,e,_⟩
  ·cases e
  ·cases e;rfl
 subst hln;have hst1:=(hr1.stored (idxK es n*3) (.string n)).1;have hst2:=(hst1.stored (idxK es n*3+1) (.int .i64 k)).1;have hst3:=(hst2.stored (idxK es n*3+2) (.int .i64 id)).1;rw[flat_set3 hix (n,k,id),<-putK_there ht (k,id),<-hw'] at hst3;have hlen:(putK es n (k,id)).length=es.length:=by rw[putK_length,zzD ht]
 have hD':=hD.rewrite (objs:=objs) ho hgb hg (by rw[hv,hlen];exact hst3) hE';have m:Moves (fun t=>t=(i,5)) tg tg w w':=moves_grown hg (by rw[hw'];simp) (hrow.2 gb hgb);refine⟨h.od m (zzC _) hD' (fun q' es' ho'=>?_),hD',m,hg⟩;by_cases e:q'=q
 ·subst e
  rw[upd_same] at ho';cases ho';exact fun e he=>(hE'.ok e he).2
 ·rw[upd_other e] at ho'
  exact h.wp.ok.od q' es' ho'
theorem row_cells3 {w:World}{gb n c:Nat}{es:List Ent}(h:w.ownsRow 0 96 3 (.slice (some ⟨gb,0,none⟩) n c) n (flat es)){ix:Nat}(hix:ix<es.length):w.cell? ⟨gb,ix*3,none⟩=some (.string (es[ix]).1)/\w.cell? ⟨gb,ix*3+1,none⟩=some (.int .i64 (es[ix]).2.1)/\w.cell? ⟨gb,ix*3+2,none⟩=some (.int .i64 (es[ix]).2.2):=
 row_at (b:=gb) (fun j u hu=>by have:=owns_cells h j u hu;rwa [Nat.zero_add] at this) hix
theorem put_over {tg:Tags}{w:World}{g:WG}{lim:Nat}{K:List ByteArray->List Ent}{vD:List ByteArray->Value}(h:WInv tg w s i p B objs g lim)(hD:OwnDV tg w i B g.ft.od lim vD)(hl:lim+300<1099511627776){q:List ByteArray}{n:ByteArray}(hp:Good (q ++ [n]))(hway:OwnWay objs g.fs g.ft K q)(hE:Ents objs (K q))(hth:thereK (K q) n=true)
  (nm:ByteArray)(k id:Int)(hv:EntOk objs (n,k,id)):
  Calls prog 135 #[.pointer (some ⟨B.bt,0,none⟩),.agg (pathA (q ++ [n])),.agg #[.string nm,.int .i64 k,.int .i64 id]] w fun en w'=>en=.returned (.tuple #[])/\∃tg' vD',Moves (Mine i) tg tg' w w'/\
   WInv tg' w' s i p B objs { g with ft:=putF objs g.fs g.ft q n (k,id) } (lim+150)/\OwnDV tg' w' i B (putF objs g.fs g.ft q n (k,id)).od (lim+150) vD':=by
 have hq:Good q:=by have:=hp.dropLast;rwa [List.dropLast_concat] at this
 have hvn:validB n=true:=hp.val n (by simp);have hq4:q.length<=4:=by have:=hp.len;simp at this;omega
 obtain⟨m1,m2,m3,m4⟩:=claim_at hway;have htk:putF objs g.fs g.ft q n (k,id)=forgetF { claimF objs g.fs g.ft q.reverse with od:=upd (claimF objs g.fs g.ft q.reverse).od q (some (putK (K q) n (k,id))) } (q ++ [n]):=by
  unfold putF forgetF;simp only[m3,Option.getD_some];rw[zzD hth]
 rw[htk];have hcl:=fun W (hb:Below w.heap.size w W)=>claim_all (s:=s) (i:=i) (p:=p) (B:=B) (objs:=objs) q.reverse tg W g lim K vD (h.below hb) (hD.moves (Moves.of_below (P:=fun _=>False) hb) (fun x=>x)) (by rw[List.length_reverse];omega) (by rw[List.reverse_reverse];exact hq) (by rw[List.reverse_reverse];exact hway)
 rw[List.reverse_reverse,List.length_reverse] at hcl;have hpar:=fun W=>parent_any (q ++ [n]) hp W
 have hname:=fun W=>name_any (q ++ [n]) hp (by simp) W;rw[List.dropLast_concat] at hpar;simp only[List.getLast_concat] at hname;obtain⟨s0,s1,s2,s3,s4,hP⟩:∃s0 s1 s2 s3 s4,pathA (q ++ [n]) = #[.string s0,.string s1,.string s2,.string s3,.string s4]:=⟨_,_,_,_,_,rfl⟩;obtain⟨r0,r1,r2,r3,r4,hP'⟩:∃s0 s1 s2 s3 s4,pathA q = #[.string s0,.string s1,.string s2,.string s3,.string s4]:=⟨_,_,_,_,_,rfl⟩;unfold pathV at hpar hname;simp only[hP,hP'] at hpar hname hcl;rw[hP];have hi:=h.two;have hlm:lim+20*(q.length+1)<maxLen:=by unfold maxLen;omega
 obtain⟨hix,_⟩:=there_at hth;have h16:=hE.len;generalize hixe:idxK (K q) n=ix at hix;have HIX:Hid (idxK (K q) n=ix):=hixe;have HP:Hid _:=hP;have hforget:=fun (tg':Tags) (W:World) (g':WG) (lim':Nat) (vD':List ByteArray->Value) (a:WInv tg' W s i p B objs g' lim') (b:OwnDV tg' W i B g'.ft.od lim' vD')=>forget_any a b hp;simp only[hP] at hforget;have HFG:Hid _:=hforget;have HCL:Hid _:=hcl;have HOD:Hid _:=m3;have HE:Hid _:=hE;have HTH:Hid _:=hth;have hfr0:=h.st.fresh;have HFR:Hid _:=hfr0;have HV:Hid _:=hv;clear hixe h hD hcl m1 m2 m3 m4 hE hth hP hP' hway htk hfr0 hv hforget;go_enter func135,ntmps135;go_wp2_with (first
  | (go_at_call 134;refine (hname _).mono ?_;rintro e w1 ⟨rfl,hb1⟩;obtain⟨hz0,hz1⟩:=two_size0 hb1;have k1:=fun o=>(bcell hb1).1 w.heap.size o (by simp;omega);have e1:=fun o=>(bcell hb1).1 (w.heap.size+1) o (by simp);have f1:=fun o=>(bcell hb1).2 (w.heap.size+1) o (by simp);have b1:=below_via (((Below.refl w.heap.size w).alloc (zzC _) _).alloc (by simp) _) hb1)
  | (go_at_call 132;go_loud (refine (hpar _).mono ?_;rintro e w2 ⟨rfl,hb2⟩;have b2:=below_via (below_set b1 (Nat.le_succ _)) hb2;have hzs:=zzA hz1 (Nat.le_of_eq (set_size (W:=w1) (b:=w.heap.size+1) (o:=0) (v:=.string n)).symm);have e2:=fun o=>(bcell hb2).1 (w.heap.size+1) o hzs;have hz2:=zzA hzs hb2.size;have hw12:w1.heap.size<=w2.heap.size:=zzG (Nat.le_of_eq (set_size (W:=w1) (b:=w.heap.size+1) (o:=0) (v:=.string n)).symm) hb2.size;have q2:=fun o=>(bcell hb2).1 w.heap.size o (Nat.lt_trans (Nat.lt_succ_self _) hzs)))
  | (go_at_call 192;go_loud (refine (HCL.out _ (b2.alloc b2.size _)).mono ?_;rintro e w3 ⟨v3,rfl,tg3,vD3,mv3,hW3,hD3,hv3,hq3⟩;have ke:=kept_cell (b:=w.heap.size+1) hi mv3 (lt_alloc hz2 _) (HFR.out _ (Nat.le_succ _));have kp:=kept_cell (b:=w2.heap.size) hi mv3 (self_alloc _ _) (HFR.out _ b2.size);have tz1:=(mv3.tags w2.heap.size (self_alloc _ _)).trans (HFR.out _ b2.size);have tze:=(mv3.tags (w.heap.size+1) (lt_alloc hz2 _)).trans (HFR.out _ (Nat.le_succ _));have hsz3:w2.heap.size<w3.heap.size:=zzA (self_alloc _ _) mv3.size;have hse3:w.heap.size+1<w3.heap.size:=Nat.lt_trans hz2 hsz3;have hr8:=hD3.row _ _ HOD.out;obtain⟨gb,cc,hgb⟩:=slice_of_owns hr8.1 (Nat.lt_of_le_of_lt (zzF _) hix);rw[hgb] at hv3 hr8;subst hv3;have hgl:gb<w3.heap.size:=ownsRow_lt hr8.1 rfl;obtain⟨y0,y1,y2⟩:=row_cells3 hr8.1 hix;have y3:=row_frozen hr8.1;have kq:=kept_cell (b:=w.heap.size) hi mv3 (lt_alloc (zzA hz0 hw12) _) (HFR.out _ (zzC _));have tzq:=(mv3.tags w.heap.size (lt_alloc (zzA hz0 hw12) _)).trans (HFR.out _ (zzC _));have hnq:=tag_ne tzq (hr8.2 gb rfl) (ne05 i);have hnq':=hnq.symm;have hsq3:w.heap.size<w3.heap.size:=Nat.lt_trans (Nat.lt_succ_self _) hse3;obtain⟨ht3,c83,_,_,_⟩:=hW3.wp.tree.cells;have HW3:Hid _:=hW3;have HM3:Hid _:=mv3;have HD3:Hid _:=hD3;have HR8:Hid _:=hr8;have HG8:Hid _:=hgb;clear hW3 mv3 hD3 hr8 hgb hq3)))
 have q0:∀o v,#[Value.string s0,.string s1,.string s2,.string s3,.string s4][o]? = some v->w3.cell? ⟨w.heap.size,o,none⟩=some v:=fun o v ho=>by
  rw[kq,World.cell?_alloc_past _ _ _ (zzA hz0 hw12),q2];rw[show (w1.setCell ⟨w.heap.size+1,0,none⟩ (.string n)).cell? ⟨w.heap.size,o,none⟩=w1.cell? ⟨w.heap.size,o,none⟩ from out_cell (c:=w.heap.size) (grown_set (grown_refl w1 (some (w.heap.size+1)))) hz0 (by omega) o,k1];simpa using ho
 refine (search_any HR8.out.1 n HE.out.rising HE.out.len).mono ?_;rintro e w4 ⟨rfl,hb4⟩;rw[HIX.out,HTH.out];have g4:=fun o=>(bcell hb4).1 gb o hgl;have gf4:=fun o=>(bcell hb4).2 gb o hgl;have e4:=fun o=>(bcell hb4).1 (w.heap.size+1) o hse3;have kx:∀o v,#[Value.string s0,.string s1,.string s2,.string s3,.string s4][o]? = some v->(((w4.setCell ⟨gb,ix*3,none⟩ (.string n)).setCell ⟨gb,ix*3+1,none⟩ (.int .i64 k)).setCell ⟨gb,ix*3+2,none⟩ (.int .i64 id)).cell? ⟨w.heap.size,o,none⟩=some v:=fun o v ho=>by
  rw[out_cell (c:=w.heap.size) (grown_set (o:=ix*3+2) (v:=.int .i64 id) (grown_set (o:=ix*3+1) (v:=.int .i64 k) (grown_set (o:=ix*3) (v:=.string n) (grown_refl w4 (some gb))))) (zzA hsq3 hb4.size) hnq o,(bcell hb4).1 w.heap.size o hsq3];exact q0 o v ho
 have kx0:=kx 0 _ rfl;have kx1:=kx 1 _ rfl;have kx2:=kx 2 _ rfl;have kx3:=kx 3 _ rfl;have kx4:=kx 4 _ rfl;obtain⟨o1,o2,o3,_⟩:=over_cells (HW3.out.below hb4) (HD3.out.moves (Moves.of_below (P:=fun _=>False) hb4) (fun x=>x)) HOD.out HG8.out HTH.out HIX.out hvn HV.out rfl;have hfg:=HFG.out tg3 _ _ _ _ o1 o2;have HF2:Hid _:=hfg;have HO3:Hid _:=o3;have HB4:Hid _:=hb4;clear kx q0 o1 o2 o3 hfg;go_wp2_with (go_at_call 139;go_loud (refine Calls.mono HF2.out ?_;rintro e w7 ⟨rfl,m7,hW7,hD7⟩;have HM7:Hid _:=m7;have HW7:Hid _:=hW7;have HD7:Hid _:=hD7;clear m7 hW7 hD7))
 all_goals
  exact bodyPost_ret (v:=.tuple #[]) (by simp[results,results135,go_sem]) rfl ⟨rfl,tg3,vD3,((call_moves (b2.alloc b2.size _) HM3.out).trans ((Moves.of_below HB4.out).trans ((HO3.out.mono (fun t ht=>(Or.inr (by rw[ht]):Mine i t))).trans HM7.out))),HW7.out.mono (by omega),HD7.out.mono (by omega)⟩
end
theorem put_ok {objs:List Ob}(hS:Sound objs){m:Nat}{t d c:LT}{q:List ByteArray}{ks:Kids}(hok:LTok objs m t)(ha:t.at objs q=some d)(hk:kids objs d=some ks){n:ByteArray}(hn:validB n=true)(hq:q.length<m)(hc:LTok objs (m-q.length-1) c)(hl:thereK ks n=true\/ks.length<16):LTok objs m (modG objs (fun ks=>putK ks n c) q t):=by
 obtain⟨h1,h2,h3⟩:=ok_kids hS (ok_at hS _ hok ha).2.1 hk;refine ok_mod hS _ q hok ha hk (ok_own (putK_rising h1) ?_ (fun x hx=>?_))
 ·rw[putK_length]
  rcases hl with h | h
  ·rw[zzD h];exact h2
  ·split <;> omega
 ·rcases mapK_mem hx with rfl | hx
  ·exact⟨hn,m-q.length-1,by omega,hc⟩
  ·exact h3 x hx
theorem Slc.len {tg:Tags}{w:World}{i:Nat}{v:Value}{es:List Ent}(h:Slc tg w i v es):∃la c,v=.slice la es.length c:=by
 rcases h.1.2 with ⟨e,h0⟩ | ⟨g',c',_,e,_⟩
 ·exact⟨none,0,by rw[h0];exact e⟩
 ·exact⟨_,_,e⟩
section
variable {s i p:Nat}{B:WB}{objs:List Ob}
def Left (s i p:Nat)(B:WB)(objs:List Ob)(tg:Tags)(w w':World)(g:WG)(fs':FS)(t':LT)(lim:Nat):Prop:=
 ∃tg' ft',Moves (Mine i) tg tg' w w'/\WInv tg' w' s i p B objs { g with fs:=fs',ft:=ft' } lim/\Flat objs t' ft'/\LTok objs 5 t'
theorem left_same {tg tg':Tags}{w w':World}{g:WG}{fs':FS}{t:LT}{lim:Nat}(m:Moves (Mine i) tg tg' w w')(h:WInv tg' w' s i p B objs { g with fs:=fs' } lim)(hF:Flat objs t g.ft)(hok:LTok objs 5 t):Left s i p B objs tg w w' g fs' t lim:=⟨tg',g.ft,m,h,hF,hok⟩
theorem mkdir_root (t:Nat)(w:World):Calls prog 70 #[.pointer (some ⟨t,0,none⟩),.agg #[.string ⟨#[]⟩,.string ⟨#[]⟩,.string ⟨#[]⟩,.string ⟨#[]⟩,.string ⟨#[]⟩]] w fun e w'=>e=.returned (.int .i64 6)/\Below w.heap.size w w':=by
 have hroot:=fun W=>root_any W;have heq:∀W,(Op.equalIn 10000 147 (pathV []) (pathV [])).run prog W=.ok true W:=fun W=>by
  have:=run_eqP Good.nil Good.nil W
  rw[decide_eq_true rfl] at this;exact this
 unfold pathV pathA at hroot heq;simp only[List.getD_nil] at hroot heq;go_enter func70,ntmps70;go_wp2
 go_region_with (go_at_call 75;refine (hroot _).mono ?_;rintro e w1 ⟨rfl,hb1⟩;obtain⟨hc1,hf1⟩:=bcell hb1;have hz1:=one_size hb1)
 all_goals
  go_wp2;go_ret;exact⟨rfl,below_via (below_drew ((Below.refl _ _).alloc (zzC _) _)) hb1⟩
theorem mkdir_walk {tg:Tags}{w:World}{g:WG}{lim:Nat}{t:LT}(h:WInv tg w s i p B objs g lim)(hl:lim+400<1099511627776)(hF:Flat objs t g.ft)(hok:LTok objs 5 t){n:ByteArray}{r:List ByteArray}(hp:Good (r.reverse ++ [n])):
  Calls prog 70 #[.pointer (some ⟨B.bt,0,none⟩),.agg (pathA (r.reverse ++ [n]))] w fun en w'=>en=.returned (.int .i64 (mkdirR objs t g.fs (n :: r)).2.1)/\Left s i p B objs tg w w' g (mkdirR objs t g.fs (n :: r)).1 (mkdirR objs t g.fs (n :: r)).2.2 (lim+300):=by
 have hS:=h.st.sound;have hi:=h.two;have hq:Good r.reverse:=by have:=hp.dropLast;rwa [List.dropLast_concat] at this
 have hvn:validB n=true:=hp.val n (by simp);have hr4:r.length<=4:=by have:=hp.len;simp at this;omega
 have hlook:=fun W (hb:Below w.heap.size w W)=>look_all (s:=s) (i:=i) (p:=p) (B:=B) (objs:=objs) r tg W g lim (h.below hb) (by omega) hq;simp only[flat_look hS hF hok g.fs r] at hlook;have hmk:mkdirR objs t g.fs (n :: r)=if (lookR objs t g.fs r).2.1≠0 then ((lookR objs t g.fs r).1,(lookR objs t g.fs r).2.1,t) else if (pickK (lookR objs t g.fs r).2.2 n).isSome then ((lookR objs t g.fs r).1,6,t) else if 16<=(lookR objs t g.fs r).2.2.length then ((lookR objs t g.fs r).1,11,t) else ((lookR objs t g.fs r).1,0,modG objs (fun ks=>putK ks n (.own [])) r.reverse t):=rfl;have hlk0:=kept_of_look (objs:=objs) (t:=t) (fs:=g.fs) (r:=r);have hEn:Ents objs ((lookR objs t g.fs r).2.2.map entOf):=by have:=h.ents g.fs r;rwa [flat_look hS hF hok g.fs r] at this
 generalize mkdirR objs t g.fs (n :: r)=M at hmk ⊢;generalize lookR objs t g.fs r=a at hlook hlk0 hEn hmk;obtain⟨fs',er,ks⟩:=a;simp only at hlook hlk0 hEn hmk;have HMK:Hid _:=hmk;have heq:∀W,(Op.equalIn 10000 147 (pathV (r.reverse ++ [n])) (pathV [])).run prog W=.ok false W:=fun W=>by
  have:=run_eqP hp Good.nil W
  rw[zzE (by simp)] at this;exact this
 have hroot:=fun W=>root_any W;have hpar:=fun W=>parent_any (r.reverse ++ [n]) hp W;have hname:=fun W=>name_any (r.reverse ++ [n]) hp (by simp) W;rw[List.dropLast_concat] at hpar;simp only[List.getLast_concat] at hname;obtain⟨s0,s1,s2,s3,s4,hP⟩:∃s0 s1 s2 s3 s4,pathA (r.reverse ++ [n]) = #[.string s0,.string s1,.string s2,.string s3,.string s4]:=⟨_,_,_,_,_,rfl⟩;obtain⟨r0,r1,r2,r3,r4,hP'⟩:∃s0 s1 s2 s3 s4,pathA r.reverse = #[.string s0,.string s1,.string s2,.string s3,.string s4]:=⟨_,_,_,_,_,rfl⟩;unfold pathV at hroot heq hpar hname;simp only[hP,hP'] at heq hpar hname hlook;rw[hP];unfold pathA at hroot heq;simp only[List.getD_nil] at hroot heq;have HP:Hid _:=hP;have H0:Hid _:=h;have HFl:Hid _:=hF;have HOk:Hid _:=hok;have HS:Hid _:=hS;have HLOOK:Hid _:=hlook;have HLK:Hid _:=hlk0;have HGP:Hid _:=hp;have HEN:Hid _:=hEn;clear h hF hok hS hP hP' hlook hlk0 hp hEn hmk;go_enter func70,ntmps70;go_wp2
 go_region_with (go_at_call 75;refine (hroot _).mono ?_;rintro e w1 ⟨rfl,hb1⟩;obtain⟨hc1,hf1⟩:=bcell hb1;have hz1:=one_size hb1;have b1:=below_via (below_drew ((Below.refl w.heap.size w).alloc (zzC _) _)) hb1)
 all_goals
  go_wp2_with (go_at_call 132;refine (hpar _).mono ?_;rintro e w2 ⟨rfl,hb2⟩;have k2:=fun o=>(bcell hb2).1 w.heap.size o hz1;have hz2:=zzA hz1 hb2.size;have b2:=below_via b1 hb2);refine (HLOOK.out w2 b2).mono ?_;rintro e w3 ⟨v,rfl,tg3,m3,hW3,hs3⟩;have k3:=kept_cell (b:=w.heap.size) hi (m3.mono (fun _ h=>h.mine)) hz2 (H0.out.st.fresh _ (zzC _));have M3:=call_moves b2 (m3.mono (fun _ h=>h.mine));have hsz3:w.heap.size<w3.heap.size:=zzA hz2 m3.size;have tz3:tg3 w.heap.size=(0,0):=(m3.tags _ hz2).trans (H0.out.st.fresh _ (zzC _));have HW3:Hid _:=hW3;have HM3:Hid _:=M3;have HSL:Hid (Slc tg3 w3 i v (ks.map entOf)):=hs3;obtain⟨la,lc,rfl⟩:=hs3.len;rw[List.length_map];clear hW3 hs3 m3 M3;by_cases her:er=0
  ·subst her
   obtain⟨⟨d,hat,hk⟩,hnx,hkw⟩:=HLK.out rfl;have hwy:=ownWay_flat HS.out HFl.out HOk.out hat hk hkw;obtain⟨q1,q2,q3⟩:=ok_kids HS.out (ok_at HS.out _ HOk.out hat).2.1 hk;have hr1:RisingK (ks.map entOf):=by rw[map_ent];exact mapK_rising _ q1
   have hl1:(ks.map entOf).length<=16:=by rw[List.length_map];exact q2
   have hpk:=pick_there q1 n;have hte:=there_ent ks n;have hsea:=fun W2 (hb:Below w3.heap.size w3 W2)=>search_any (HSL.out.below hb).1 n hr1 hl1;rw[List.length_map] at hsea;have HSEA:Hid _:=hsea;have HWY:Hid _:=hwy;have HAT:Hid _:=And.intro hat (And.intro hk hkw);have HTE:Hid _:=hte;have HPK:Hid _:=hpk;have HR1:Hid _:=And.intro hr1 hl1;have hq2:ks.length<=16:=q2;clear hsea hwy hat hk hkw hte hpk hr1 hl1 q1 q2 q3 hnx;cases hth:thereK ks n with
   | true=>
    go_wp2_with (first
     | (go_at_call 134;refine (hname _).mono ?_;rintro e w4 ⟨rfl,hb4⟩)
     | (go_at_call 133;go_loud (refine (HSEA.out _ hb4).mono ?_;rintro e w5 ⟨rfl,hb5⟩;rw[HTE.out,hth];have b35:=below_via hb4 hb5)))
    go_ret;have hmk:=HMK.out;rw[zzB (by simp),zzD (by rw[HPK.out];exact hth)] at hmk;subst hmk;exact⟨rfl,left_same (HM3.out.trans (Moves.of_below b35)) ((HW3.out.below b35).mono (by omega)) HFl.out HOk.out⟩
   | false=>
    by_cases h16:ks.length<16
    ·obtain⟨vD,hvD⟩:=HW3.out.wp.ownD
     have hput:=fun W2 (hb:Below w3.heap.size w3 W2)=>put_new (HW3.out.below hb) (hvD.moves (Moves.of_below (P:=fun _=>False) hb) (fun x=>x)) (by omega) HGP.out HWY.out (by rw[cur_at HAT.out.1 HAT.out.2.1];exact HEN.out) (by rw[cur_at HAT.out.1 HAT.out.2.1,HTE.out];exact hth) (by rw[cur_at HAT.out.1 HAT.out.2.1,List.length_map];exact h16) ⟨#[]⟩ 2 0 ⟨.inr rfl,fun h=>absurd rfl h⟩;rw[HP.out] at hput;have HPUT:Hid _:=hput;clear hput hvD;have h16':¬((16:Int)<=(ks.length:Int)):=by omega
     go_wp2_with (first
      | (go_at_call 134;refine (hname _).mono ?_;rintro e w4 ⟨rfl,hb4⟩;have k4:=fun o=>(bcell hb4).1 w.heap.size o hsz3)
      | (go_at_call 133;go_loud (refine (HSEA.out _ hb4).mono ?_;rintro e w5 ⟨rfl,hb5⟩;rw[HTE.out,hth];have b35:=below_via hb4 hb5;have k5:=fun o=>(bcell b35).1 w.heap.size o hsz3))
      | (go_at_call 135;go_loud (refine (HPUT.out _ b35).mono ?_;rintro e w6 ⟨rfl,tg6,vD6,m6,hW6,hD6⟩;have k6:=kept_cell (b:=w.heap.size) hi m6 (zzA hsz3 b35.size) tz3;have hsz6:=zzA (zzA hsz3 b35.size) m6.size;have HM6:Hid _:=m6;have HW6:Hid _:=hW6;have HD6:Hid _:=hD6;obtain⟨ht6,c86,_,_,_⟩:=hW6.wp.tree.cells;clear m6 hW6 hD6)))
     obtain⟨w7,tg7,hmu,hg7,hs7,hoD,m7,hW7,hD7,_⟩:=own_new HW6.out HD6.out (by unfold maxLen;omega) HGP.out (below_drew (Below.refl _ w6)) (nil_row _) (fun gb h=>by simp[Value.ownBlock] at h) ⟨by simp[RisingK],by simp,by simp⟩;rw[HP.out] at hmu;have HM7:Hid _:=m7;have HW7:Hid _:=hW7;have hF7:=flat_mkdir HS.out HFl.out HOk.out HAT.out.1 HAT.out.2.1 HAT.out.2.2 (n:=n) (by have:=HPK.out;rw[hth] at this;simpa using this);have hO7:=put_ok HS.out HOk.out HAT.out.1 HAT.out.2.1 hvn (by rw[List.length_reverse];omega) (c:=.own []) (ok_own (by simp[RisingK]) (by simp) (by simp)) (.inr h16);have HF7:Hid _:=hF7;have HO7:Hid _:=hO7;clear m7 hW7 hD7 hF7 hO7
     go_region
     all_goals
      go_wp2;go_ret;have hmk:=HMK.out;rw[zzB (by simp),zzB (by rw[HPK.out,hth];decide),zzB (by omega)] at hmk;subst hmk;exact⟨rfl,tg7,_,(HM3.out.trans ((Moves.of_below b35).trans (HM6.out.trans HM7.out))),HW7.out.mono (by omega),HF7.out,HO7.out⟩
    ·have h16':(16:Int)<=(ks.length:Int):=by omega
     go_wp2_with (first
      | (go_at_call 134;refine (hname _).mono ?_;rintro e w4 ⟨rfl,hb4⟩)
      | (go_at_call 133;go_loud (refine (HSEA.out _ hb4).mono ?_;rintro e w5 ⟨rfl,hb5⟩;rw[HTE.out,hth];have b35:=below_via hb4 hb5)))
     go_ret;have hmk:=HMK.out;rw[zzB (by simp),zzB (by rw[HPK.out,hth];decide),zzD (by omega)] at hmk;subst hmk;exact⟨rfl,left_same (HM3.out.trans (Moves.of_below b35)) ((HW3.out.below b35).mono (by omega)) HFl.out HOk.out⟩
  ·have her':(er == 0)=false:=by simpa using her
   go_wp2;go_ret;have hmk:=HMK.out;rw[zzD her] at hmk;subst hmk;exact⟨rfl,left_same HM3.out (HW3.out.mono (by omega)) HFl.out HOk.out⟩
end
theorem lt_entOk {objs:List Ob}{n:Nat}{c:LT}(h:LTok objs n c)(nm:ByteArray):EntOk objs (nm,c.kind,c.id):=by
 cases c with
 | file id=>exact⟨.inl rfl,fun _=>by cases n <;> exact h⟩
 | held f=>exact⟨.inl rfl,fun h=>absurd rfl h⟩
 | dir id=>exact⟨.inr rfl,fun _=>by cases n <;> exact h.1⟩
 | own es=>exact⟨.inr rfl,fun h=>absurd rfl h⟩
section
variable {s i p:Nat}{B:WB}{objs:List Ob}
theorem vacant_any {tg:Tags}{w:World}{g:WG}{lim:Nat}{t c:LT}(h:WInv tg w s i p B objs g lim)(hl:lim+10<1099511627776)(hF:Flat objs t g.ft){n:Nat}(hok:LTok objs n t){q:List ByteArray}(hq:Good q)(ha:t.at objs q=some c)(nm:ByteArray):
  Calls prog 137 #[.pointer (some ⟨B.bt,0,none⟩),.agg (pathA q),.agg #[.string nm,.int .i64 c.kind,.int .i64 c.id]] w fun en w'=>en=.returned (.int .i64 (vacantG objs g.fs c).2)/\DidF s i p B objs tg w w' { g with fs:=(vacantG objs g.fs c).1 } (lim+1):=by
 have hS:=h.st.sound;have hc:=(ok_at hS _ hok ha).2.1;have hen:=fun W (hb:Below w.heap.size w W)=>entries_any (h.below hb) (by omega) hq (lt_entOk hc nm);simp only[flat_ents hS hF hc ha] at hen;have hv:vacantG objs g.fs c=if c.kind=1 then (g.fs,0) else if (kidsG objs g.fs c).2.1=0/\0<(kidsG objs g.fs c).2.2.length then ((kidsG objs g.fs c).1,8) else ((kidsG objs g.fs c).1,(kidsG objs g.fs c).2.1):=rfl;generalize vacantG objs g.fs c=V at hv ⊢;generalize kidsG objs g.fs c=a at hen hv;obtain⟨fs',er,ks⟩:=a;simp only at hen hv;generalize c.kind=k at hen hv ⊢;generalize c.id=id at hen ⊢;obtain⟨s0,s1,s2,s3,s4,hP⟩:∃s0 s1 s2 s3 s4,pathA q = #[.string s0,.string s1,.string s2,.string s3,.string s4]:=⟨_,_,_,_,_,rfl⟩;rw[hP];simp only[hP] at hen;have H0:Hid _:=h;have HEN:Hid _:=hen;have HV:Hid _:=hv;clear h hen hP hv hF hok ha hS hc;by_cases hk:k=1
 ·subst hk
  go_enter func137,ntmps137;go_wp2;go_ret;have hv:=HV.out;rw[zzD (by first | rfl | trivial)] at hv;subst hv;have hb:Below w.heap.size w ((w.alloc (.cells #[.string s0,.string s1,.string s2,.string s3,.string s4] 147)).alloc (.cells #[.string nm,.int .i64 1,.int .i64 id] 96)):=((Below.refl w.heap.size w).alloc (zzC _) _).alloc (by simp) _;exact⟨rfl,tg,Moves.of_below hb,(H0.out.below hb).mono (by omega)⟩
 ·have hk':(k == 1)=false:=by simpa using hk
  go_enter func137,ntmps137;go_wp2_with fail;refine (HEN.out _ (((Below.refl w.heap.size w).alloc (zzC _) _).alloc (by simp) _)).mono ?_;rintro e w1 ⟨v,rfl,tg1,m1,hW1,hs1⟩;obtain⟨la,lc,rfl⟩:=hs1.len;rw[List.length_map];have HW1:Hid _:=hW1;have HM1:Hid _:=call_moves (((Below.refl w.heap.size w).alloc (zzC _) _).alloc (by simp) _) m1;clear hs1 hW1 m1;by_cases her:er=0
  ·subst her
   by_cases hl0:0<ks.length
   ·have hl0':(0:Int)<(ks.length:Int):=by omega
    go_wp2;go_ret;have hv:=HV.out;rw[zzB hk,zzD (by first | exact⟨rfl,hl0⟩ | exact⟨trivial,hl0⟩)] at hv;subst hv;exact⟨rfl,tg1,HM1.out,HW1.out⟩
   ·have hl0':¬(0:Int)<(ks.length:Int):=by omega
    go_wp2;go_ret;have hv:=HV.out;rw[zzB hk,zzB (fun h=>hl0 h.2)] at hv;subst hv;exact⟨rfl,tg1,HM1.out,HW1.out⟩
  ·have her':(er == 0)=false:=by simpa using her
   go_wp2;go_ret;have hv:=HV.out;rw[zzB hk,zzB (fun h=>her h.1)] at hv;subst hv;exact⟨rfl,tg1,HM1.out,HW1.out⟩
theorem remove_root (t:Nat)(w:World):Calls prog 71 #[.pointer (some ⟨t,0,none⟩),.agg #[.string ⟨#[]⟩,.string ⟨#[]⟩,.string ⟨#[]⟩,.string ⟨#[]⟩,.string ⟨#[]⟩]] w fun e w'=>e=.returned (.int .i64 9)/\Below w.heap.size w w':=by
 have hroot:=fun W=>root_any W;have heq:∀W,(Op.equalIn 10000 147 (pathV []) (pathV [])).run prog W=.ok true W:=fun W=>by
  have:=run_eqP Good.nil Good.nil W
  rw[decide_eq_true rfl] at this;exact this
 unfold pathV pathA at hroot heq;simp only[List.getD_nil] at hroot heq;go_enter func71,ntmps71;go_wp2
 go_region_with (go_at_call 75;refine (hroot _).mono ?_;rintro e w1 ⟨rfl,hb1⟩;obtain⟨hc1,hf1⟩:=bcell hb1;have hz1:=one_size hb1)
 all_goals
  go_wp2;go_ret;exact⟨rfl,below_via (below_drew ((Below.refl _ _).alloc (zzC _) _)) hb1⟩
end
end Go.Proofs.YtlgidcmmgohagaaGreat
