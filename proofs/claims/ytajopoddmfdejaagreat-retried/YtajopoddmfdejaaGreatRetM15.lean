/-
  What is proved here: 'claim' at every path: the directory there, and all on the way to it, are the tree's own. 'forget': what was the tree's own at a path is so no more. a directory of the tree's own gets ..
-/
import Derived.Test.YtajopoddmfdejaaGreatRetM14
namespace Go.Proofs.YtajopoddmfdejaaGreat
open Go.RowKit Go.Sort Go.Shelf
set_option linter.unusedVariables false
set_option maxRecDepth 100000
set_option maxHeartbeats 16000000
section
variable {s i p:Nat}{B:WB}{objs:List Ob}
def ClaimC (s i p:Nat)(B:WB)(objs:List Ob)(r:List ByteArray):Prop:=∀ (tg:Tags) (w:World) (g:WG) (lim:Nat) (K:List ByteArray->List Ent) (vD:List ByteArray->Value),WInv tg w s i p B objs g lim->OwnDV tg w i B g.ft.od lim vD->lim+20*(r.length+2)<1099511627776->Good r.reverse->OwnWay objs g.fs g.ft K r.reverse->
 Calls Tryz.prog 123 #[.pointer (some ⟨B.bt,0,none⟩),.agg (pathA r.reverse)] w fun en w'=>∃ v,en=.returned v/\∃ tg' vD',Moves (Mine i) tg tg' w w'/\
  WInv tg' w' s i p B objs { g with ft:=claimF objs g.fs g.ft r } (lim+20*(r.length+1))/\OwnDV tg' w' i B (claimF objs g.fs g.ft r).od (lim+20*(r.length+1)) vD'/\vD' r.reverse=v/\∀ q,¬ q <+: r.reverse->vD' q=vD q
theorem ownWay_step {fs:FS}{ft:FT}{K:List ByteArray->List Ent}{q:List ByteArray}{n:ByteArray}(h:OwnWay objs fs ft K (q ++ [n])):OwnWay objs fs { ft with od:=upd ft.od (q ++ [n]) (some (K (q ++ [n]))) } K q:=by
 have hpre:∀ x,x <+: q->x <+: q ++ [n]:=fun x hx=>hx.trans (List.prefix_append _ _)
 have hne:∀ x,x <+: q->x≠q ++ [n]:=fun x hx e=>by
  have:=hx.length_le
  rw[e] at this;simp at this;omega
 have h0:OwnWay objs fs ft K q:=⟨fun x hx=>h.look x (hpre x hx),fun x hx=>h.own x (hpre x hx),fun x m hx=>h.up x m (hpre _ hx),h.root⟩
 exact h0.congr rfl (fun x hx=>upd_other (hne x hx) _)
theorem way_there {fs:FS}{ft:FT}{K:List ByteArray->List Ent}{q:List ByteArray}{n:ByteArray}(h:OwnWay objs fs ft K (q ++ [n]))(hr:RisingK (K q)):thereK (K q) n=true:=by
 have h1:=h.look (q ++ [n]) (List.prefix_refl _)
 have h2:=h.look q (List.prefix_append _ _)
 rw[List.reverse_append] at h1
 have h1':lookF objs ft fs (n :: q.reverse)=(fs,0,K (q ++ [n])):=h1
 have hf:(findF objs ft fs (n :: q.reverse)).2.1=0:=by
  unfold lookF at h1'
  by_cases h0:(findF objs ft fs (n :: q.reverse)).2.1≠0
  ·simp only[if_pos h0] at h1'
   exact absurd (congrArg (fun z=>z.2.1) h1') h0
  ·exact Decidable.not_not.1 h0
 rw[findF_cons,h2] at hf
 simp only at hf
 rw[if_neg (by decide)] at hf
 cases hg:getK (K q) n with
 | none=>rw[hg] at hf;simp at hf
 | some c=>
  have:=getK_there (n:=n) hr
  rw[hg] at this
  cases ht:thereK (K q) n with
  | true=>rfl
  | false=>rw[ht] at this;simp at this
theorem not_mine {i:Nat}(hi:2<=i):¬ Mine i (0,0):=by
 rintro (h | h)
 ·cases h
 ·have h':(0:Nat)=i:=h
  omega
theorem row_frozen {w:World}{gb n c m:Nat}{xs:List Value}(h:w.ownsRow 0 76 3 (.slice (some ⟨gb,0,none⟩) n c) m xs)(o:Nat):w.frozen? ⟨gb,o,none⟩=false:=by
 rcases h.2 with ⟨e,_⟩ | ⟨g',c',cur,e,_,hb,_⟩
 ·cases e
 ·cases e;simp[World.frozen?,hb]
theorem row_cell2 {w:World}{gb n c:Nat}{es:List Ent}(h:w.ownsRow 0 76 3 (.slice (some ⟨gb,0,none⟩) n c) n (flat es)){ix:Nat}(hix:ix<es.length):w.cell? ⟨gb,ix*3+2,none⟩=some (.int .i64 (es[ix]).2.2):=
 (row_at (b:=gb) (fun j u hu=>by have:=owns_cells h j u hu;rwa [Nat.zero_add] at this) hix).2.2
theorem kept_cell {tg tg':Tags}{w w':World}{i b:Nat}(hi:2<=i)(m:Moves (Mine i) tg tg' w w')(hb:b<w.heap.size)(ht:tg b=(0,0))(o:Nat):w'.cell? ⟨b,o,none⟩=w.cell? ⟨b,o,none⟩:=
 World.cell?_of_block (a:=⟨b,o,none⟩) (m.block _ hb (by rw[ht];exact not_mine hi))
theorem claim_up {tg:Tags}{w:World}{g:WG}{lim:Nat}{K:List ByteArray->List Ent}{vD0:List ByteArray->Value}(n:ByteArray)(r:List ByteArray)(hrec:ClaimC s i p B objs r)(h:WInv tg w s i p B objs g lim)(hD0:OwnDV tg w i B g.ft.od lim vD0)(hl:lim+20*(r.length+3)<1099511627776)
  (hq:Good (r.reverse ++ [n]))(hway:OwnWay objs g.fs g.ft K (r.reverse ++ [n]))(ho:g.ft.od (r.reverse ++ [n])=none):
  Calls Tryz.prog 123 #[.pointer (some ⟨B.bt,0,none⟩),.agg (pathA (r.reverse ++ [n]))] w fun en w'=>∃ v,en=.returned v/\∃ tg' vD',Moves (Mine i) tg tg' w w'/\
   WInv tg' w' s i p B objs { g with ft:=claimF objs g.fs g.ft (n :: r) } (lim+20*((n :: r).length+1))/\OwnDV tg' w' i B (claimF objs g.fs g.ft (n :: r)).od (lim+20*((n :: r).length+1)) vD'/\vD' (r.reverse ++ [n])=v/\∀ q,¬ q <+: (r.reverse ++ [n])->vD' q=vD0 q:=by
 have hL0:=hway.look _ (List.prefix_refl _)
 rw[List.reverse_append,List.reverse_reverse] at hL0
 have hL:lookF objs g.ft g.fs (n :: r)=(g.fs,0,K (r.reverse ++ [n])):=hL0
 have hr4:r.length<=4:=by have:=hq.len;simp at this;omega
 have hq':Good r.reverse:=by have:=hq.dropLast;rwa [List.dropLast_concat] at this
 have hE:=h.ents g.fs (n :: r)
 rw[hL] at hE
 have hE:Ents objs (K (r.reverse ++ [n])):=hE
 have hLp:=hway.look r.reverse (List.prefix_append _ _)
 have hEp:=h.ents g.fs r.reverse.reverse
 rw[hLp] at hEp
 have hEp:Ents objs (K r.reverse):=hEp
 have hthere:=way_there hway hEp.rising
 have hway1:=ownWay_step hway
 obtain⟨m1,m2,m3⟩:=claim_maps (r:=r) hway1
 have hcl:claimF objs g.fs g.ft (n :: r) = { claimF objs g.fs { g.ft with od:=upd g.ft.od (r.reverse ++ [n]) (some (K (r.reverse ++ [n]))) } r with od:=upd (claimF objs g.fs { g.ft with od:=upd g.ft.od (r.reverse ++ [n]) (some (K (r.reverse ++ [n]))) } r).od r.reverse (some (zeroK (K r.reverse) n)) }:=by
  rw[claimF]
  have hrv:(n :: r).reverse=r.reverse ++ [n]:=List.reverse_cons
  rw[hrv,ho,if_neg (by decide),hL]
  have e1:=m3 r.reverse
  rw[if_pos (List.prefix_refl _)] at e1
  have e2:zK K r.reverse r.reverse=K r.reverse:=by unfold zK;rw[List.getElem?_eq_none (Nat.le_refl _)]
  rw[e2] at e1
  show (FT.mk _ (upd _ _ (some (zeroK (((claimF objs g.fs { g.ft with od:=upd g.ft.od (r.reverse ++ [n]) (some (K (r.reverse ++ [n]))) } r).od r.reverse).getD []) n))) _)=_
  rw[e1];rfl
 have hodp:(claimF objs g.fs { g.ft with od:=upd g.ft.od (r.reverse ++ [n]) (some (K (r.reverse ++ [n]))) } r).od r.reverse=some (K r.reverse):=by
  have e1:=m3 r.reverse
  rw[if_pos (List.prefix_refl _)] at e1
  have e2:zK K r.reverse r.reverse=K r.reverse:=by unfold zK;rw[List.getElem?_eq_none (Nat.le_refl _)]
  rw[e2] at e1;exact e1
 have hnp:¬ (r.reverse ++ [n]) <+: r.reverse:=fun hx=>by have:=hx.length_le;simp at this;omega
 obtain⟨ht,c8,_,_,_⟩:=h.wp.tree.cells
 have hb0:=below_drew ((Below.refl w.heap.size w).alloc (Nat.le_refl _) (.cells (pathA (r.reverse ++ [n])) 104))
 have hlk:=own_hit hD0 hq hb0
 rw[ho] at hlk
 have hlook:=look_all (s:=s) (i:=i) (p:=p) (B:=B) (objs:=objs) (n :: r) tg _ g lim (h.below hb0) (by omega) (by rw[List.reverse_cons];exact hq)
 rw[hL,List.reverse_cons] at hlook
 have hroot:=fun W=>root_any W
 have heq:∀ W,(Op.equalIn 10000 104 (pathV (r.reverse ++ [n])) (pathV [])).run Tryz.prog W=.ok false W:=fun W=>by
  have:=run_eqP hq Good.nil W
  rw[decide_eq_false (by simp)] at this;exact this
 have hpar:=fun W=>parent_any (r.reverse ++ [n]) hq W
 have hname:=fun W=>name_any (r.reverse ++ [n]) hq (by simp) W
 rw[List.dropLast_concat] at hpar
 simp only[List.getLast_concat] at hname
 have hrecC:∀ (tg:Tags) (w:World) (g:WG) (lim:Nat) (K:List ByteArray->List Ent) (vD:List ByteArray->Value),WInv tg w s i p B objs g lim->OwnDV tg w i B g.ft.od lim vD->lim+20*(r.length+2)<1099511627776->OwnWay objs g.fs g.ft K r.reverse->Calls Tryz.prog 123 #[.pointer (some ⟨B.bt,0,none⟩),.agg (pathA r.reverse)] w fun en w'=>∃ v,en=.returned v/\∃ tg' vD',Moves (Mine i) tg tg' w w'/\
  WInv tg' w' s i p B objs { g with ft:=claimF objs g.fs g.ft r } (lim+20*(r.length+1))/\OwnDV tg' w' i B (claimF objs g.fs g.ft r).od (lim+20*(r.length+1)) vD'/\vD' r.reverse=v/\∀ q,¬ q <+: r.reverse->vD' q=vD q:=fun tg w g lim K vD a b c d=>hrec tg w g lim K vD a b c hq' d
 obtain⟨s0,s1,s2,s3,s4,hP⟩:∃ s0 s1 s2 s3 s4,pathA (r.reverse ++ [n]) = #[.string s0,.string s1,.string s2,.string s3,.string s4]:=⟨_,_,_,_,_,rfl⟩
 obtain⟨r0,r1,r2,r3,r4,hP'⟩:∃ s0 s1 s2 s3 s4,pathA r.reverse = #[.string s0,.string s1,.string s2,.string s3,.string s4]:=⟨_,_,_,_,_,rfl⟩
 unfold pathV at hroot heq hpar hname
 rw[hP] at hlk hlook hb0
 simp only[hP,hP'] at heq hpar hname hrecC
 rw[hP]
 unfold pathA at hroot heq
 simp only[List.getD_nil] at hroot heq
 have hlk':(Instr.lookup 128 (.map (some B.oD)) (.agg #[.string s0,.string s1,.string s2,.string s3,.string s4]) true).run Tryz.prog ((w.alloc (.cells #[.string s0,.string s1,.string s2,.string s3,.string s4] 104)).drew)=.ok (.tuple #[.slice none 0 0,.bool false]) ((w.alloc (.cells #[.string s0,.string s1,.string s2,.string s3,.string s4] 104)).drew):=hlk
 obtain⟨n0,_,hm0⟩:=hD0.map
 have hoD0:w.heap.size≠B.oD:=by have:=hm0.lt;omega
 have hlm:lim+(n :: r).length+1<maxLen:=by rw[List.length_cons];unfold maxLen;omega
 have hlm2:lim+(n :: r).length+1+1+20*(r.length+2)<1099511627776:=by rw[List.length_cons];omega
 obtain⟨hix,hnm⟩:=there_at hthere
 have h16:=hEp.len
 have HP:Hid _:=hP
 have H0:Hid _:=h
 have HD0:Hid _:=hD0
 have HB0:Hid _:=hb0
 have HE:Hid _:=hE
 have HEP:Hid _:=hEp
 have HREC:Hid _:=hrecC
 have HW1:Hid _:=hway1
 have HCL:Hid _:=hcl
 have HOD:Hid _:=hodp
 have HTH:Hid _:=hthere
 have HNM:Hid _:=hnm
 have HNP:Hid _:=hnp
 clear h hD0 hb0 hE hL hL0 ho hm0 hlk hP hP' hEp hrecC hway hway1 m1 m2 m3 hcl hodp hthere hnm hnp hLp hrec
 generalize hixe:idxK (K r.reverse) n=ix at hix
 have HIX:Hid (idxK (K r.reverse) n=ix):=hixe
 clear hixe
 go_enter Tryz.func123,Tryz.ntmps123
 go_wp2
 go_region
 all_goals
  go_wp2_with (first
   | (go_at_call 75;refine hlook.mono ?_;rintro e w3 ⟨v,rfl,tg3,m3,hW3,hs3⟩;have hS:=stays_of H0.out.two H0.out.st.fresh m3;have k0:=hS.cell (Nat.le_refl _) (by simp[World.drew]);have hz3:w.heap.size<w3.heap.size:=Nat.lt_of_lt_of_le (by simp[World.drew]) hS.1;have tz3:tg3 w.heap.size=(0,0):=(m3.tags _ (by simp[World.drew])).trans (H0.out.st.fresh _ (Nat.le_refl _));obtain⟨ht3,c83,_,_,_⟩:=hW3.wp.tree.cells;have HW3:Hid _:=hW3;have HM3:Hid _:=m3;have HS3:Hid _:=hs3;clear hW3 m3 hs3 hS)
   | (go_at_call 111;go_loud (refine (cloneE_row HS3.out.1 HE.out.len).mono ?_;rintro e w4 ⟨v',rfl,hrow,hfr,hb4⟩;obtain⟨hc4,hf4⟩:=bcell hb4;obtain⟨w5,tg5,hmu,hg5,hs5,hoD,m5,hW5,hD5,hk5⟩:=own_new (q:=r.reverse ++ [n]) HW3.out (((HD0.out.moves (Moves.of_below (P:=fun _=>False) HB0.out) (fun x=>x)).moves HM3.out (fetch_not H0.out.two (by decide) (by decide))).mono (by omega)) hlm hq (below_drew hb4) hrow hfr HE.out;have k5:=out_cell (c:=w.heap.size) hg5 (Nat.lt_of_lt_of_le hz3 hb4.size) hoD0;obtain⟨ht5,_,_,c65,f5⟩:=hW5.wp.tree.cells;rw[HP.out] at hmu;have hz5:w.heap.size<w5.heap.size:=Nat.lt_of_lt_of_le (Nat.lt_of_lt_of_le hz3 hb4.size) (Nat.le_of_eq hs5.symm);have tz5:tg5 w.heap.size=(0,0):=(m5.tags _ hz3).trans tz3;have HW5:Hid _:=hW5;have HM5:Hid _:=m5;have HD5:Hid _:=hD5;clear hW5 m5 hD5 hrow hfr hg5)))
  go_region
  all_goals
   go_wp2
   go_region_with (go_at_call 66;refine (hroot _).mono ?_;rintro e w6 ⟨rfl,hb6⟩;have k6:∀ o,w6.cell? ⟨w.heap.size,o,none⟩=w5.cell? ⟨w.heap.size,o,none⟩:=fun o=>(bcell hb6).1 _ _ hz5;have hz6:w.heap.size<w6.heap.size:=Nat.lt_of_lt_of_le hz5 hb6.size;have b6:=below_via (below_drew (Below.refl w5.heap.size w5)) hb6)
   all_goals
    go_wp2_with (first
     | (go_at_call 76;refine (hpar _).mono ?_;rintro e w7 ⟨rfl,hb7⟩;have k7:∀ o,w7.cell? ⟨w.heap.size,o,none⟩=w6.cell? ⟨w.heap.size,o,none⟩:=fun o=>(bcell hb7).1 _ _ hz6;have hz7:w.heap.size<w7.heap.size:=Nat.lt_of_lt_of_le hz6 hb7.size)
     | (go_at_call 123;go_loud (refine (HREC.out tg5 w7 _ _ K _ (HW5.out.below (below_via b6 hb7)) (HD5.out.moves (Moves.of_below (P:=fun _=>False) (below_via b6 hb7)) (fun x=>x)) hlm2 HW1.out).mono ?_;rintro e w8 ⟨v8,rfl,tg8,vD8,m8,hW8,hD8,hv8,hq8⟩;obtain⟨gb,cc,hgb⟩:=slice_of_owns (hD8.row _ _ HOD.out).1 (by omega);have hr8:=hD8.row _ _ HOD.out;rw[hgb] at hv8 hr8;subst hv8;have k8:=kept_cell H0.out.two m8 hz7 tz5;have hz8:w.heap.size<w8.heap.size:=Nat.lt_of_lt_of_le hz7 m8.size;have hgl:gb<w8.heap.size:=ownsRow_lt hr8.1 rfl;have y2:=row_cell2 hr8.1 hix;have y3:=row_frozen hr8.1 (ix*3+2);have HW8:Hid _:=hW8;have HM8:Hid _:=m8;have HD8:Hid _:=hD8;have HR8:Hid _:=hr8;have HG8:Hid _:=hgb;have HQ8:Hid _:=hq8;clear hW8 m8 hD8 hr8 hgb hq8))
     | (go_at_call 78;refine (hname _).mono ?_;rintro e w9 ⟨rfl,hb9⟩;have k9:w9.cell? ⟨gb,ix*3+2,none⟩=w8.cell? ⟨gb,ix*3+2,none⟩:=(bcell hb9).1 _ _ hgl;have f9:w9.frozen? ⟨gb,ix*3+2,none⟩=w8.frozen? ⟨gb,ix*3+2,none⟩:=(bcell hb9).2 _ _ hgl;have hz9:gb<w9.heap.size:=Nat.lt_of_lt_of_le hgl hb9.size)
     | (go_at_call 77;go_loud (refine (search_any (ownsRow_keep HR8.out.1 (fun g' hg'=>hb9.block g' (ownsRow_lt HR8.out.1 hg'))) n HEP.out.rising HEP.out.len).mono ?_;rintro e w10 ⟨rfl,hb10⟩;rw[HIX.out,HTH.out];have k10:w10.cell? ⟨gb,ix*3+2,none⟩=w9.cell? ⟨gb,ix*3+2,none⟩:=(bcell hb10).1 _ _ hz9;have f10:w10.frozen? ⟨gb,ix*3+2,none⟩=w9.frozen? ⟨gb,ix*3+2,none⟩:=(bcell hb10).2 _ _ hz9)))
    go_ret
    have b10:=below_via hb9 hb10
    obtain⟨z1,z2,z3⟩:=zero_cell (HW8.out.below b10) (HD8.out.moves (Moves.of_below (P:=fun _=>False) b10) (fun x=>x)) HOD.out HG8.out HTH.out
    rw[HIX.out] at z1 z2 z3
    have hlq:lim+(n :: r).length+1+1+20*(r.length+1)<=lim+20*((n :: r).length+1):=by rw[List.length_cons];omega
    refine⟨v',rfl,tg8,vD8,?_,?_,?_,?_,fun q hqn=>?_⟩
    ·exact ((call_moves HB0.out HM3.out).mono (fun _ h=>h.mine)).trans (HM5.out.trans ((Moves.of_below (below_via b6 hb7)).trans (HM8.out.trans ((Moves.of_below b10).trans (z3.mono (fun t ht=>.inr (by rw[ht])))))))
    ·rw[HCL.out];exact z1.mono hlq
    ·rw[HCL.out];exact z2.mono hlq
    ·rw[HQ8.out _ HNP.out,upd_same]
    ·rw[HQ8.out q (fun h=>hqn (h.trans (List.prefix_append _ _))),upd_other (fun e:q=r.reverse ++ [n]=>hqn (by rw[e];exact List.prefix_refl _))]
theorem claim_all:∀ r:List ByteArray,ClaimC s i p B objs r
 | []=>by
  intro tg w g lim K vD h hD hl hq hway
  by_cases ho:(g.ft.od []).isSome=true
  ·obtain⟨es,he⟩:=Option.isSome_iff_exists.1 ho
   have hcl:claimF objs g.fs g.ft []=g.ft:=by rw[claimF,if_pos ho]
   rw[hcl]
   obtain⟨ht,c8,_⟩:=h.wp.tree.cells
   refine (claim_hit B.bt B.oD _ _ _ _ _ (vD []) w ht c8 (fun W hb=>?_)).mono ?_
   ·have:=own_hit hD Good.nil hb
    rw[he] at this;exact this
   ·rintro en w' ⟨rfl,hb⟩
    exact⟨_,rfl,tg,vD,Moves.of_below hb,(h.below hb).mono (by omega),(hD.moves (Moves.of_below (P:=fun _=>False) hb) (fun x=>x)).mono (by omega),rfl,fun _ _=>rfl⟩
  ·have ho':g.ft.od []=none:=by simpa using ho
   have hL:=hway.look [] (List.prefix_refl _)
   have hcl:claimF objs g.fs g.ft [] = { g.ft with od:=upd g.ft.od [] (some (K [])),root:=0 }:=by
    rw[claimF,if_neg ho]
    rw[show lookF objs g.ft g.fs []=(g.fs,0,K []) from hL]
   rw[hcl]
   refine (claim_top h hD (by simp only[List.length_nil] at hl;omega) ho' hL).mono ?_
   rintro en w' ⟨v,rfl,tg',vD',m,hW,hD',hv,hq'⟩
   exact⟨v,rfl,tg',vD',m,hW.mono (by simp only[List.length_nil];omega),hD'.mono (by simp only[List.length_nil];omega),hv,fun q hqn=>hq' q (fun e=>hqn (by rw[e];exact List.prefix_refl _))⟩
 | n :: r=>by
  intro tg w g lim K vD h hD hl hq hway
  by_cases ho:(g.ft.od (n :: r).reverse).isSome=true
  ·obtain⟨es,he⟩:=Option.isSome_iff_exists.1 ho
   have hcl:claimF objs g.fs g.ft (n :: r)=g.ft:=by rw[claimF,if_pos ho]
   rw[hcl]
   obtain⟨ht,c8,_⟩:=h.wp.tree.cells
   refine (claim_hit B.bt B.oD _ _ _ _ _ (vD (n :: r).reverse) w ht c8 (fun W hb=>?_)).mono ?_
   ·have:=own_hit hD hq hb
    rw[he] at this;exact this
   ·rintro en w' ⟨rfl,hb⟩
    exact⟨_,rfl,tg,vD,Moves.of_below hb,(h.below hb).mono (by omega),(hD.moves (Moves.of_below (P:=fun _=>False) hb) (fun x=>x)).mono (by omega),rfl,fun _ _=>rfl⟩
  ·have hrv:(n :: r).reverse=r.reverse ++ [n]:=List.reverse_cons
   rw[hrv] at ho hq hway ⊢
   have ho':g.ft.od (r.reverse ++ [n])=none:=by simpa using ho
   exact claim_up n r (claim_all r) h hD (by rw[List.length_cons] at hl;omega) hq hway ho'
end
section
variable {s i p:Nat}{B:WB}{objs:List Ob}
theorem drop_files {tg:Tags}{w:World}{g:WG}{lim:Nat}(h:WInv tg w s i p B objs g lim){q:List ByteArray}(hq:Good q)(ty:TypeId):
  ∃ w',(Builtin.delete_ #[127,104] ty #[.map (some B.oF),.agg (pathA q)]).run Tryz.prog w=.ok (.tuple #[]) w'/\Moves (fun t=>t=(i,4)) tg tg w w'/\w.grownBy w' (some B.oF)/\w'.heap.size=w.heap.size/\B.oF<w.heap.size/\WInv tg w' s i p B objs { g with ft:={ g.ft with of:=upd g.ft.of q none } } lim:=by
 have hi:=h.two
 obtain⟨ht,⟨n,hn,hm⟩,hg⟩:=h.wp.ownF
 obtain⟨w',hrun,hm',hgr,hs⟩:=hm.drop hq Tryz.underlying127 ty
 have m:Moves (fun t=>t=(i,4)) tg tg w w':=moves_grown hgr hs ht
 have hp:=h.wp
 obtain⟨vD,hD⟩:=hp.ownD
 refine⟨w',hrun,m,hgr,hs,hm.lt,h.two,h.st.moves m (fun e=>by cases e) (fun e=>by cases e),⟨hp.tree.moves m (fun e=>by cases e),hp.keptF.moves m (fun e=>by cases e),hp.keptD.moves m (fun e=>by cases e),⟨ht,⟨n,hn,hm'.congr (fun x hx=>?_)⟩,fun x f hx=>?_⟩,⟨vD,hD.moves m (fun e=>by cases e)⟩,hp.files.moves m (fun e=>by cases e),fun x f hx=>?_,hp.opens.moves m (fun e=>by cases e) (fun e=>by cases e),⟨hp.ok.root,hp.ok.od⟩⟩⟩
 ·show upd (fun y=>(g.ft.of y).map ptr) q none x=Option.map ptr (upd g.ft.of q none x)
  by_cases e:x=q
  ·subst e;rw[upd_same,upd_same];rfl
  ·rw[upd_other e,upd_other e]
 ·by_cases e:x=q
  ·subst e
   have hx':upd g.ft.of x none x=some f:=hx
   rw[upd_same] at hx';cases hx'
  ·have hx':upd g.ft.of q none x=some f:=hx
   rw[upd_other e] at hx';exact hg x f hx'
 ·by_cases e:x=q
  ·subst e
   have hx':upd g.ft.of x none x=some f:=hx
   rw[upd_same] at hx';cases hx'
  ·have hx':upd g.ft.of q none x=some f:=hx
   rw[upd_other e] at hx';exact hp.held x f hx'
theorem drop_dirs {tg:Tags}{w:World}{g:WG}{lim:Nat}{vD:List ByteArray->Value}(h:WInv tg w s i p B objs g lim)(hD:OwnDV tg w i B g.ft.od lim vD){q:List ByteArray}(hq:Good q)(ty:TypeId):
  ∃ w',(Builtin.delete_ #[128,104] ty #[.map (some B.oD),.agg (pathA q)]).run Tryz.prog w=.ok (.tuple #[]) w'/\Moves (fun t=>t=(i,5)) tg tg w w'/\WInv tg w' s i p B objs { g with ft:={ g.ft with od:=upd g.ft.od q none } } lim/\OwnDV tg w' i B (upd g.ft.od q none) lim vD:=by
 obtain⟨n,hn,hm⟩:=hD.map
 obtain⟨w',hrun,hm',hgr,hs⟩:=hm.drop hq Tryz.underlying128 ty
 obtain⟨e0,ck,hb⟩:=hm.isMap
 have m:Moves (fun t=>t=(i,5)) tg tg w w':=moves_grown hgr hs hD.tag
 have hsub:∀ x es,upd g.ft.od q none x=some es->g.ft.od x=some es:=fun x es hx=>by
  by_cases e:x=q
  ·subst e;rw[upd_same] at hx;cases hx
  ·rw[upd_other e] at hx;exact hx
 have hD':OwnDV tg w' i B (upd g.ft.od q none) lim vD:=by
  refine⟨hD.tag,⟨n,hn,hm'.congr (fun x hx=>?_)⟩,fun x es hx=>hD.good x es (hsub x es hx),fun x es hx=>(hD.row x es (hsub x es hx)).keep_map hb hgr,fun x y ex ey gb hx hy h1 h2=>hD.inj x y ex ey gb (hsub x ex hx) (hsub y ey hy) h1 h2⟩
  by_cases e:x=q
  ·subst e;rw[upd_same,upd_same];rfl
  ·rw[upd_other e,upd_other e]
 exact⟨w',hrun,m,h.od m (Nat.le_refl _) hD' (fun x es hx=>h.wp.ok.od x es (hsub x es hx)),hD'⟩
theorem forget_any {tg:Tags}{w:World}{g:WG}{lim:Nat}{vD:List ByteArray->Value}(h:WInv tg w s i p B objs g lim)(hD:OwnDV tg w i B g.ft.od lim vD){q:List ByteArray}(hq:Good q):
  Calls Tryz.prog 89 #[.pointer (some ⟨B.bt,0,none⟩),.agg (pathA q)] w fun en w'=>en=.returned (.tuple #[])/\Moves (Mine i) tg tg w w'/\WInv tg w' s i p B objs { g with ft:=forgetF g.ft q } lim/\OwnDV tg w' i B (upd g.ft.od q none) lim vD:=by
 have hb0:=below_drew ((Below.refl w.heap.size w).alloc (Nat.le_refl _) (.cells (pathA q) 104))
 have hW0:=h.below hb0
 have hD0:=hD.moves (Moves.of_below (P:=fun _=>False) hb0) (fun x=>x)
 obtain⟨w1,hrun1,m1,hg1,hs1,hoF,hW1⟩:=drop_files hW0 hq 0
 have hD1:OwnDV tg w1 i B g.ft.od lim vD:=hD0.moves m1 (fun e=>by cases e)
 obtain⟨w2,hrun2,m2,hW2,hD2⟩:=drop_dirs (hW1.below (below_drew (Below.refl _ _))) (hD1.moves (Moves.of_below (P:=fun _=>False) (below_drew (Below.refl _ _))) (fun x=>x)) hq 0
 obtain⟨ht,c8,c7,_,_⟩:=h.wp.tree.cells
 obtain⟨ht1,c81,_,_,_⟩:=hW1.wp.tree.cells
 have hne:w.heap.size≠B.oF:=by
  obtain⟨_,⟨n,_,hm⟩,_⟩:=h.wp.ownF
  have:=hm.lt;omega
 have k1:∀ o,w1.cell? ⟨w.heap.size,o,none⟩=((w.alloc (.cells (pathA q) 104)).drew).cell? ⟨w.heap.size,o,none⟩:=out_cell (c:=w.heap.size) hg1 (by simp[World.drew]) hne
 have HR:Hid (Moves (Mine i) tg tg w w2/\WInv tg w2 s i p B objs { g with ft:=forgetF g.ft q } lim/\OwnDV tg w2 i B (upd g.ft.od q none) lim vD):=⟨(Moves.of_below hb0).trans ((m1.mono (fun t ht=>(Or.inr (by rw[ht]):Mine i t))).trans ((Moves.of_below (below_drew (Below.refl _ _))).trans (m2.mono (fun t ht=>(Or.inr (by rw[ht]):Mine i t))))),hW2,hD2⟩
 obtain⟨s0,s1,s2,s3,s4,hP⟩:∃ s0 s1 s2 s3 s4,pathA q = #[.string s0,.string s1,.string s2,.string s3,.string s4]:=⟨_,_,_,_,_,rfl⟩
 rw[hP] at hrun1 hrun2 k1 hb0 ⊢
 clear h hD hW0 hD0 hW1 hD1 hW2 hD2 m1 m2 hb0 hg1
 go_enter Tryz.func89,Tryz.ntmps89
 go_wp2
 go_region
 all_goals
  go_wp2
  go_region
  all_goals
   go_wp2
   exact bodyPost_end (v:=.tuple #[]) (by simp[results,Tryz.results89,go_sem]) rfl ⟨rfl,HR.out⟩
end
section
variable {s i p:Nat}{B:WB}{objs:List Ob}
theorem own_swap {tg:Tags}{w W6 W:World}{g:WG}{lim:Nat}{vD:List ByteArray->Value}(h:WInv tg w s i p B objs g lim)(hD:OwnDV tg w i B g.ft.od lim vD)(hl:lim<maxLen){q:List ByteArray}{es es':List Ent}(ho:g.ft.od q=some es)(hg:w.grownBy W6 (vD q).ownBlock){v6:Value}
  (hrow:W6.ownsRow 0 76 3 v6 es'.length (flat es'))(hloc:v6.ownBlock=(vD q).ownBlock\/∀ gb,v6.ownBlock=some gb->w.heap.size<=gb)(hE:Ents objs es')(hb:Below W6.heap.size W6 W):
  ∃ w7 tg7,(Instr.mapUpdate 128 (.map (some B.oD)) (.agg (pathA q)) v6).run Tryz.prog W=.ok () w7/\Moves (Mine i) tg tg7 w w7/\
   WInv tg7 w7 s i p B objs { g with ft:={ g.ft with od:=upd g.ft.od q (some es') } } (lim+1)/\OwnDV tg7 w7 i B (upd g.ft.od q (some es')) (lim+1) (upd vD q v6):=by
 have hi:=h.two
 have hq:=(hD.good q es ho).1
 have hrq:=hD.row q es ho
 obtain⟨n,hn,hm⟩:=hD.map
 obtain⟨e0,ck,hmap⟩:=hm.isMap
 have hnoD:some B.oD≠(vD q).ownBlock:=owns_ne_map hrq.1 hmap
 have hm6:W6.heap[B.oD]? = w.heap[B.oD]?:=hg.block _ hm.lt hnoD
 have hW:W.heap[B.oD]? = w.heap[B.oD]?:=(hb.block _ (Nat.lt_of_lt_of_le hm.lt hg.size)).trans hm6
 obtain⟨w7,hrun,hm7,hg7,hs7⟩:=(hm.keep hW).store hq (Nat.lt_of_le_of_lt hn hl) Tryz.underlying128 v6
 have hmapW:W.heap[B.oD]? = some (.map e0 ck):=hW.trans hmap
 have tagk:∀ k,(tg k).1≠0->tagOf tg v6 (i,5) k=tg k:=fun k hk=>by
  by_cases e:v6.ownBlock=some k
  ·rw[tagOf_same e]
   rcases hloc with h1 | h1
   ·exact (hrq.2 k (h1 ▸ e)).symm
   ·rw[h.st.fresh k (h1 k e)] at hk;exact absurd rfl hk
  ·exact tagOf_other e _
 have tagl:∀ k,k<w.heap.size->tagOf tg v6 (i,5) k=tg k:=fun k hk=>by
  by_cases e:v6.ownBlock=some k
  ·rw[tagOf_same e]
   rcases hloc with h1 | h1
   ·exact (hrq.2 k (h1 ▸ e)).symm
   ·have:=h1 k e;omega
  ·exact tagOf_other e _
 have hf7:Fresh (tagOf tg v6 (i,5)) w7:=fun k hk=>by
  have h6:W6.heap.size<=k:=Nat.le_trans hb.size (by omega)
  rw[tagOf_other (fun e=>by have:=ownsRow_lt hrow e;omega)]
  exact h.st.fresh k (Nat.le_trans hg.size h6)
 have m:Moves (fun t=>t=(i,5)) tg (tagOf tg v6 (i,5)) w w7:=by
  refine⟨hg7.os.trans (hb.os.trans hg.os),hg7.tape.trans (hb.tape.trans hg.tape),hg7.output.trans (hb.output.trans hg.output),Nat.le_trans hg.size (Nat.le_trans hb.size hg7.size),tagl,fun k hk hn=>?_,fun _=>hf7⟩
  have k6:k<W6.heap.size:=Nat.lt_of_lt_of_le hk hg.size
  rw[hg7.block k (Nat.lt_of_lt_of_le k6 hb.size) (fun e=>hn (by cases e;exact hD.tag)),hb.block k k6,hg.block k hk (fun e=>hn (hrq.2 k e.symm))]
 have hD7:OwnDV (tagOf tg v6 (i,5)) w7 i B (upd g.ft.od q (some es')) (lim+1) (upd vD q v6):=by
  have hrow7:RowT (tagOf tg v6 (i,5)) w7 (i,5) v6 es':=by
   refine⟨ownsRow_keep hrow (fun g' hg'=>?_),fun gb hgb=>tagOf_same hgb _⟩
   have hl6:=ownsRow_lt hrow hg'
   rw[hg7.block g' (Nat.lt_of_lt_of_le hl6 hb.size) (fun e=>?_),hb.block g' hl6]
   have e':g'=B.oD:=by injection e
   rw[e'] at hg'
   exact owns_ne_map hrow (hm6.trans hmap) hg'.symm
  refine⟨(tagl _ hm.lt).trans hD.tag,⟨n+1,by omega,hm7.congr (fun x hx=>?_)⟩,fun x fs hx=>?_,fun x fs hx=>?_,fun x y fs fs' gb hx hy h1 h2=>?_⟩
  ·by_cases e:x=q
   ·subst e;rw[upd_same,upd_same,upd_same];rfl
   ·rw[upd_other e,upd_other e,upd_other e]
  ·by_cases e:x=q
   ·subst e
    rw[upd_same] at hx
    cases hx
    exact⟨hq,hE.rising,hE.len,fun e he=>⟨(hE.ok e he).1,(hE.ok e he).2.1⟩⟩
   ·rw[upd_other e] at hx;exact hD.good x fs hx
  ·by_cases e:x=q
   ·subst e
    rw[upd_same] at hx ⊢
    cases hx
    exact hrow7
   ·rw[upd_other e] at hx ⊢
    have hr:=hD.row x fs hx
    refine hr.keep (fun g' hg' hl'=>⟨?_,tagl g' hl'⟩)
    have k6:g'<W6.heap.size:=Nat.lt_of_lt_of_le hl' hg.size
    rw[hg7.block g' (Nat.lt_of_lt_of_le k6 hb.size) (fun e2=>?_),hb.block g' k6,hg.block g' hl' (fun e2=>?_)]
    ·exact e (hD.inj x q fs es g' hx ho hg' e2.symm)
    ·have e':g'=B.oD:=by injection e2
     rw[e'] at hg'
     exact owns_ne_map hr.1 hmap hg'.symm
  ·have apart:∀ z fz,z≠q->g.ft.od z=some fz->(vD z).ownBlock=some gb->v6.ownBlock=some gb->False:=fun z fz hz hoz hbz hb6=>by
    rcases hloc with h3 | h3
    ·exact hz (hD.inj z q fz es gb hoz ho hbz (h3 ▸ hb6))
    ·have hlz:=ownsRow_lt (hD.row z fz hoz).1 hbz
     have:=h3 gb hb6
     omega
   by_cases e:x=q
   ·by_cases e':y=q
    ·rw[e,e']
    ·subst e
     rw[upd_same] at h1
     rw[upd_other e'] at hy h2
     exact (apart y fs' e' hy h2 h1).elim
   ·by_cases e':y=q
    ·subst e'
     rw[upd_same] at h2
     rw[upd_other e] at hx h1
     exact (apart x fs e hx h1 h2).elim
    ·rw[upd_other e] at hx h1
     rw[upd_other e'] at hy h2
     exact hD.inj x y fs fs' gb hx hy h1 h2
 refine⟨w7,tagOf tg v6 (i,5),hrun,m.mono (fun t ht=>(Or.inr (by rw[ht]):Mine i t)),h.od m (Nat.le_succ _) hD7 (fun x fs hx=>?_),hD7⟩
 by_cases e:x=q
 ·subst e
  rw[upd_same] at hx
  cases hx
  exact fun e he=>(hE.ok e he).2
 ·rw[upd_other e] at hx
  exact h.wp.ok.od x fs hx
end
end Go.Proofs.YtajopoddmfdejaaGreat
