/-
  What is proved here: 'take': what stands under a name stands there no more.
-/
import Derived.Test.YtajopoddmfdejaaGreatRetM15
namespace Go.Proofs.YtajopoddmfdejaaGreat
open Go.RowKit Go.Sort Go.Shelf
set_option linter.unusedVariables false
set_option maxRecDepth 100000
set_option maxHeartbeats 16000000
theorem del_any {w:World}{gb n c k:Nat}{es:List Ent}(hrow:w.ownsRow 0 76 3 (.slice (some ⟨gb,0,none⟩) n c) n (flat es))(hn:es.length=n)(hk:k<n):
  Calls Tryz.prog 127 #[.slice (some ⟨gb,0,none⟩) n c,.int .i64 (k:Int),.int .i64 ((k:Int)+1)] w fun e w'=>e=.returned (.slice (some ⟨gb,0,none⟩) (n-1) c)/\
   w'.ownsRow 0 76 3 (.slice (some ⟨gb,0,none⟩) (n-1) c) (n-1) (flat (es.eraseIdx k))/\w.grownBy w' (some gb)/\w'.heap.size=w.heap.size:=by
 rcases hrow.2 with ⟨e,_⟩ | ⟨g',c',cur,e,_,hg,hnc,hcm,hcs,ht⟩
 ·cases e
 ·cases e
  refine (del_walk gb n c k es cur w hg hn hk hnc hcm hcs ht).mono ?_
  rintro e w' ⟨rfl,cur',hg',hs',ht',hgr,hsz⟩
  refine⟨rfl,⟨?_,.inr ⟨gb,c,cur',rfl,Nat.zero_le _,hg',by omega,hcm,hs',ht'⟩⟩,hgr,hsz⟩
  rw[flat_len,List.length_eraseIdx_of_lt (by omega),hn]
theorem alloc_size {w w1:World}{o1:Obj}(h:Below (w.alloc o1).heap.size (w.alloc o1) w1):w.heap.size<w1.heap.size:=by
 have h2:=h.size
 rw[World.size_alloc] at h2
 omega
theorem lt_alloc {w:World}{a:Nat}(h:a<w.heap.size)(o:Obj):a<(w.alloc o).heap.size:=by rw[World.size_alloc];omega
theorem self_alloc (w:World)(o:Obj):w.heap.size<(w.alloc o).heap.size:=by rw[World.size_alloc];omega
theorem tag_ne {tg:Tags}{a b:Nat}{t t':Nat×Nat}(h1:tg a=t)(h2:tg b=t')(hne:t≠t'):a≠b:=fun e=>hne (h1.symm.trans (e ▸ h2))
theorem ne15 (i:Nat):((i,1):Nat×Nat)≠(i,5):=fun h=>by cases h
theorem ne05 (i:Nat):((0,0):Nat×Nat)≠(i,5):=fun h=>by cases h
theorem own_same {v:Value}{gb n c:Nat}(h:v=.slice (some ⟨gb,0,none⟩) n c)(n' c':Nat):(Value.slice (some ⟨gb,0,none⟩) n' c').ownBlock=v.ownBlock:=by subst h;rfl
theorem own_grown {v:Value}{w w':World}{gb n c:Nat}(h:v=.slice (some ⟨gb,0,none⟩) n c)(hg:w.grownBy w' (some gb)):w.grownBy w' v.ownBlock:=by subst h;exact hg
theorem ents_drop {objs:List Ob}{es:List Ent}(h:Ents objs es)(n:ByteArray):Ents objs (dropK es n):=
 ⟨by unfold dropK;exact List.Pairwise.sublist (List.eraseIdx_sublist _ _) h.rising,by unfold dropK;exact Nat.le_trans (List.length_eraseIdx_le _ _) h.len,fun e he=>h.ok e (dropK_mem he)⟩
section
variable {s i p:Nat}{B:WB}{objs:List Ob}
theorem take_end {tg:Tags}{w w6:World}{g:WG}{lim:Nat}{vD:List ByteArray->Value}{q:List ByteArray}{es:List Ent}{nm:ByteArray}{gb n c ix:Nat}(h:WInv tg w s i p B objs g lim)(hD:OwnDV tg w i B g.ft.od lim vD)(hl:lim<maxLen)(ho:g.ft.od q=some es)(hgb:vD q=.slice (some ⟨gb,0,none⟩) n c)(hth:thereK es nm=true)(hix:idxK es nm=ix)(hE:Ents objs es)
  (hrow:w6.ownsRow 0 76 3 (.slice (some ⟨gb,0,none⟩) (es.length-1) c) (es.length-1) (flat (es.eraseIdx ix)))(hg:w.grownBy w6 (some gb)):
  ∃ w7 tg7,(Instr.mapUpdate 128 (.map (some B.oD)) (.agg (pathA q)) (.slice (some ⟨gb,0,none⟩) (es.length-1) c)).run Tryz.prog w6=.ok () w7/\Moves (Mine i) tg tg7 w w7/\
   WInv tg7 w7 s i p B objs { g with ft:={ g.ft with od:=upd g.ft.od q (some (dropK es nm)) } } (lim+1)/\OwnDV tg7 w7 i B (upd g.ft.od q (some (dropK es nm))) (lim+1) (upd vD q (.slice (some ⟨gb,0,none⟩) (es.length-1) c)):=by
 refine own_swap h hD hl ho (own_grown hgb hg) ?_ (.inl (own_same hgb _ _)) (ents_drop hE nm) (Below.refl _ _)
 rw[dropK_length hth]
 unfold dropK
 rw[hix]
 exact hrow
theorem take_any {tg:Tags}{w:World}{g:WG}{lim:Nat}{K:List ByteArray->List Ent}{vD:List ByteArray->Value}(h:WInv tg w s i p B objs g lim)(hD:OwnDV tg w i B g.ft.od lim vD)(hl:lim+300<1099511627776){q:List ByteArray}{n:ByteArray}(hp:Good (q ++ [n]))(hway:OwnWay objs g.fs g.ft K q)(hE:Ents objs (K q))(hth:thereK (K q) n=true):
  Calls Tryz.prog 85 #[.pointer (some ⟨B.bt,0,none⟩),.agg (pathA (q ++ [n]))] w fun en w'=>en=.returned (.tuple #[])/\∃ tg' vD',Moves (Mine i) tg tg' w w'/\
   WInv tg' w' s i p B objs { g with ft:=takeF objs g.fs g.ft q n } (lim+150)/\OwnDV tg' w' i B (takeF objs g.fs g.ft q n).od (lim+150) vD':=by
 have hq:Good q:=by have:=hp.dropLast;rwa [List.dropLast_concat] at this
 have hq4:q.length<=4:=by have:=hp.len;simp at this;omega
 obtain⟨m1,m2,m3,m4⟩:=claim_at hway
 have htk:takeF objs g.fs g.ft q n = { claimF objs g.fs g.ft q.reverse with od:=upd (claimF objs g.fs g.ft q.reverse).od q (some (dropK (K q) n)) }:=by
  unfold takeF;simp only[m3,Option.getD_some]
 rw[htk]
 have hcl:=fun W (hb:Below w.heap.size w W)=>claim_all (s:=s) (i:=i) (p:=p) (B:=B) (objs:=objs) q.reverse tg W g lim K vD (h.below hb) (hD.moves (Moves.of_below (P:=fun _=>False) hb) (fun x=>x)) (by rw[List.length_reverse];omega) (by rw[List.reverse_reverse];exact hq) (by rw[List.reverse_reverse];exact hway)
 rw[List.reverse_reverse,List.length_reverse] at hcl
 have hpar:=fun W=>parent_any (q ++ [n]) hp W
 have hname:=fun W=>name_any (q ++ [n]) hp (by simp) W
 rw[List.dropLast_concat] at hpar
 simp only[List.getLast_concat] at hname
 obtain⟨s0,s1,s2,s3,s4,hP⟩:∃ s0 s1 s2 s3 s4,pathA (q ++ [n]) = #[.string s0,.string s1,.string s2,.string s3,.string s4]:=⟨_,_,_,_,_,rfl⟩
 obtain⟨r0,r1,r2,r3,r4,hP'⟩:∃ s0 s1 s2 s3 s4,pathA q = #[.string s0,.string s1,.string s2,.string s3,.string s4]:=⟨_,_,_,_,_,rfl⟩
 unfold pathV at hpar hname
 simp only[hP,hP'] at hpar hname hcl
 rw[hP]
 obtain⟨hix,hnm⟩:=there_at hth
 have h16:=hE.len
 have hi:=h.two
 have hlm:lim+20*(q.length+1)<maxLen:=by unfold maxLen;omega
 generalize hixe:idxK (K q) n=ix at hix
 have HIX:Hid (idxK (K q) n=ix):=hixe
 have HP':Hid _:=hP'
 have H0:Hid _:=h
 have HCL:Hid _:=hcl
 have HOD:Hid _:=m3
 have HE:Hid _:=hE
 have HTH:Hid _:=hth
 have hfr0:=h.st.fresh
 have HFR:Hid _:=hfr0
 clear hixe h hD hcl m1 m2 m3 m4 hE hth hP hP' hway htk hnm hfr0
 go_enter Tryz.func85,Tryz.ntmps85
 go_wp2_with (first
  | (go_at_call 76;refine (hpar _).mono ?_;rintro e w1 ⟨rfl,hb1⟩;have hz1:=alloc_size hb1;have k1:=fun o=>(bcell hb1).1 w.heap.size o (by simp);have b1:=below_via ((Below.refl w.heap.size w).alloc (Nat.le_refl _) _) hb1)
  | (go_at_call 123;go_loud (refine (HCL.out _ (b1.alloc b1.size _)).mono ?_;rintro e w3 ⟨v3,rfl,tg3,vD3,mv3,hW3,hD3,hv3,hq3⟩;have kb0:=kept_cell (b:=w.heap.size) hi mv3 (lt_alloc hz1 _) (HFR.out _ (Nat.le_refl _));have kb1:=kept_cell (b:=w1.heap.size) hi mv3 (self_alloc _ _) (HFR.out _ (Nat.le_of_lt hz1));have tz1:tg3 w1.heap.size=(0,0):=(mv3.tags _ (self_alloc _ _)).trans (HFR.out _ (Nat.le_of_lt hz1));have hsz3:w1.heap.size<w3.heap.size:=Nat.lt_of_lt_of_le (self_alloc _ _) mv3.size;have hr8:=hD3.row _ _ HOD.out;obtain⟨gb,cc,hgb⟩:=slice_of_owns hr8.1 (by omega);rw[hgb] at hv3 hr8;subst hv3;have hgl:gb<w3.heap.size:=ownsRow_lt hr8.1 rfl;obtain⟨ht3,c83,_,_,_⟩:=hW3.wp.tree.cells;have hnb:=tag_ne hW3.wp.tree.tt (hr8.2 gb rfl) (ne15 i);have hnp:=tag_ne tz1 (hr8.2 gb rfl) (ne05 i);have HW3:Hid _:=hW3;have HM3:Hid _:=mv3;have HD3:Hid _:=hD3;have HR8:Hid _:=hr8;have HG8:Hid _:=hgb;have HQ3:Hid _:=hq3;clear hW3 mv3 hD3 hr8 hgb hq3))
  | (go_at_call 78;refine (hname _).mono ?_;rintro e w4 ⟨rfl,hb4⟩;have hz4:w1.heap.size<w4.heap.size:=Nat.lt_of_lt_of_le hsz3 hb4.size;have k4:∀ o,w4.cell? ⟨w1.heap.size,o,none⟩=w3.cell? ⟨w1.heap.size,o,none⟩:=fun o=>(bcell hb4).1 _ o hsz3;have d4:w4.cell? ⟨B.bt,8,none⟩=w3.cell? ⟨B.bt,8,none⟩:=(bcell hb4).1 _ _ ht3)
  | (go_at_call 77;go_loud (refine (search_any (ownsRow_keep HR8.out.1 (fun g' hg'=>hb4.block g' (ownsRow_lt HR8.out.1 hg'))) n HE.out.rising HE.out.len).mono ?_;rintro e w5 ⟨rfl,hb5⟩;rw[HIX.out,HTH.out];have b35:=below_via hb4 hb5;have k5:∀ o,w5.cell? ⟨w1.heap.size,o,none⟩=w4.cell? ⟨w1.heap.size,o,none⟩:=fun o=>(bcell hb5).1 _ o hz4;have d5:w5.cell? ⟨B.bt,8,none⟩=w3.cell? ⟨B.bt,8,none⟩:=(bcell b35).1 _ _ ht3)))
 have hr5:w5.drew.ownsRow 0 76 3 (.slice (some ⟨gb,0,none⟩) (K q).length cc) (K q).length (flat (K q)):=ownsRow_keep HR8.out.1 (fun g' hg'=>(below_drew b35).block g' (ownsRow_lt HR8.out.1 hg'))
 have hdel:=del_any hr5 rfl hix
 have HDEL:Hid _:=hdel
 clear hdel hr5
 have hwx:IntKind.i64.wrap ((ix:Int)+1)=(ix:Int)+1:=by rw[IntKind.wrap_i64];omega
 go_region_with (go_at_call 127;go_loud (refine Calls.mono HDEL.out ?_;rintro e w6 ⟨rfl,hrow6,hg6,hs6⟩;have k6:=fun o=>out_cell (c:=w1.heap.size) hg6 (Nat.lt_of_lt_of_le hz4 hb5.size) hnp o;have d6:=out_cell (c:=B.bt) hg6 (Nat.lt_of_lt_of_le ht3 b35.size) hnb 8;obtain⟨w7,tg7,hmu,m7,hW7,hD7⟩:=take_end (HW3.out.below (below_drew b35)) (HD3.out.moves (Moves.of_below (P:=fun _=>False) (below_drew b35)) (fun x=>x)) hlm HOD.out HG8.out HTH.out HIX.out HE.out hrow6 hg6;rw[HP'.out] at hmu;have HM7:Hid _:=m7;have HW7:Hid _:=hW7;have HD7:Hid _:=hD7;clear m7 hW7 hD7 hrow6 hg6))
 all_goals
  go_wp2
  exact bodyPost_end (v:=.tuple #[]) (by simp[results,Tryz.results85,go_sem]) rfl ⟨rfl,tg7,_,((call_moves (b1.alloc b1.size _) HM3.out).trans ((Moves.of_below (below_drew b35)).trans HM7.out)),HW7.out.mono (by omega),HD7.out.mono (by omega)⟩
end
end Go.Proofs.YtajopoddmfdejaaGreat
