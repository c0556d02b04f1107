/-
  What is proved here: 'put' where there is something of that name: it is written over. Mkdir of a workspace's tree. whether what is at a path can go (vacant), and Remove. Remove of a workspace's tree. whether ..
-/
import Derived.Test.YtlgidcmmgohagaaGreatTreeM18
namespace Go.Proofs.YtlgidcmmgohagaaGreat
open Go.RowKit Go.Sort Go.Shelf
set_option linter.unusedVariables false
set_option maxRecDepth 100000
set_option maxHeartbeats 16000000
section
variable {s i p:Nat}{B:WB}{objs:List Ob}
theorem over_cells {tg:Tags}{w:World}{g:WG}{lim:Nat}{vD:List ByteArray->Value}(h:WInv tg w s i p B objs g lim)(hD:OwnDV tg w i B g.ft.od lim vD){q:List ByteArray}{es:List Ent}{n:ByteArray}{k id:Int}{gb ln c ix:Nat}(ho:g.ft.od q=some es)(hv:vD q=.slice (some ⟨gb,0,none⟩) ln c)(ht:thereK es n=true)(hixe:idxK es n=ix)(hn:validB n=true)(hE:EntOk objs (n,k,id)){w':World}
  (hw':w'=((w.setCell ⟨gb,ix*3,none⟩ (.string n)).setCell ⟨gb,ix*3+1,none⟩ (.int .i64 k)).setCell ⟨gb,ix*3+2,none⟩ (.int .i64 id)):
  WInv tg w' s i p B objs { g with ft:={ g.ft with od:=upd g.ft.od q (some (putK es n (k,id))) } } lim/\OwnDV tg w' i B (upd g.ft.od q (some (putK es n (k,id)))) lim vD/\Moves (fun t=>t=(i,5)) tg tg w w'/\w.grownBy w' (some gb):=by
 subst hixe
 have hEs:=h.entsOf ho
 obtain⟨hix,hnm⟩:=there_at ht
 have hrow:=hD.row q es ho
 have hgb:(vD q).ownBlock=some gb:=by rw[hv];rfl
 have hg:w.grownBy w' (some gb):=by rw[hw'];exact grown_set (grown_set (grown_set (grown_refl _ _)))
 have hE':=ents_put hEs hn hE (.inl ht)
 have hr1:=hrow.1
 rw[hv] at hr1
 have hln:ln=es.length:=by
  rcases hr1.2 with ⟨e,_⟩ | ⟨g',c',_,e,_⟩
  ·cases e
  ·cases e;rfl
 subst hln
 have hst1:=(hr1.stored (idxK es n*3) (.string n)).1
 have hst2:=(hst1.stored (idxK es n*3+1) (.int .i64 k)).1
 have hst3:=(hst2.stored (idxK es n*3+2) (.int .i64 id)).1
 rw[flat_set3 hix (n,k,id),<- putK_there ht (k,id),<- hw'] at hst3
 have hlen:(putK es n (k,id)).length=es.length:=by rw[putK_length,if_pos ht]
 have hD':=hD.rewrite (objs:=objs) ho hgb hg (by rw[hv,hlen];exact hst3) hE'
 have m:Moves (fun t=>t=(i,5)) tg tg w w':=moves_grown hg (by rw[hw'];simp) (hrow.2 gb hgb)
 refine⟨h.od m (Nat.le_refl _) hD' (fun q' es' ho'=>?_),hD',m,hg⟩
 by_cases e:q'=q
 ·subst e
  rw[upd_same] at ho'
  cases ho'
  exact fun e he=>(hE'.ok e he).2
 ·rw[upd_other e] at ho'
  exact h.wp.ok.od q' es' ho'
theorem row_cells3 {w:World}{gb n c:Nat}{es:List Ent}(h:w.ownsRow 0 96 3 (.slice (some ⟨gb,0,none⟩) n c) n (flat es)){ix:Nat}(hix:ix<es.length):w.cell? ⟨gb,ix*3,none⟩=some (.string (es[ix]).1)/\w.cell? ⟨gb,ix*3+1,none⟩=some (.int .i64 (es[ix]).2.1)/\w.cell? ⟨gb,ix*3+2,none⟩=some (.int .i64 (es[ix]).2.2):=
 row_at (b:=gb) (fun j u hu=>by have:=owns_cells h j u hu;rwa [Nat.zero_add] at this) hix
theorem put_over {tg:Tags}{w:World}{g:WG}{lim:Nat}{K:List ByteArray->List Ent}{vD:List ByteArray->Value}(h:WInv tg w s i p B objs g lim)(hD:OwnDV tg w i B g.ft.od lim vD)(hl:lim+300<1099511627776){q:List ByteArray}{n:ByteArray}(hp:Good (q ++ [n]))(hway:OwnWay objs g.fs g.ft K q)(hE:Ents objs (K q))(hth:thereK (K q) n=true)
  (nm:ByteArray)(k id:Int)(hv:EntOk objs (n,k,id)):
  Calls Tryz.prog 135 #[.pointer (some ⟨B.bt,0,none⟩),.agg (pathA (q ++ [n])),.agg #[.string nm,.int .i64 k,.int .i64 id]] w fun en w'=>en=.returned (.tuple #[])/\∃ tg' vD',Moves (Mine i) tg tg' w w'/\
   WInv tg' w' s i p B objs { g with ft:=putF objs g.fs g.ft q n (k,id) } (lim+150)/\OwnDV tg' w' i B (putF objs g.fs g.ft q n (k,id)).od (lim+150) vD':=by
 have hq:Good q:=by have:=hp.dropLast;rwa [List.dropLast_concat] at this
 have hvn:validB n=true:=hp.val n (by simp)
 have hq4:q.length<=4:=by have:=hp.len;simp at this;omega
 obtain⟨m1,m2,m3,m4⟩:=claim_at hway
 have htk:putF objs g.fs g.ft q n (k,id)=forgetF { claimF objs g.fs g.ft q.reverse with od:=upd (claimF objs g.fs g.ft q.reverse).od q (some (putK (K q) n (k,id))) } (q ++ [n]):=by
  unfold putF forgetF;simp only[m3,Option.getD_some]
  rw[if_pos hth]
 rw[htk]
 have hcl:=fun W (hb:Below w.heap.size w W)=>claim_all (s:=s) (i:=i) (p:=p) (B:=B) (objs:=objs) q.reverse tg W g lim K vD (h.below hb) (hD.moves (Moves.of_below (P:=fun _=>False) hb) (fun x=>x)) (by rw[List.length_reverse];omega) (by rw[List.reverse_reverse];exact hq) (by rw[List.reverse_reverse];exact hway)
 rw[List.reverse_reverse,List.length_reverse] at hcl
 have hpar:=fun W=>parent_any (q ++ [n]) hp W
 have hname:=fun W=>name_any (q ++ [n]) hp (by simp) W
 rw[List.dropLast_concat] at hpar
 simp only[List.getLast_concat] at hname
 obtain⟨s0,s1,s2,s3,s4,hP⟩:∃ s0 s1 s2 s3 s4,pathA (q ++ [n]) = #[.string s0,.string s1,.string s2,.string s3,.string s4]:=⟨_,_,_,_,_,rfl⟩
 obtain⟨r0,r1,r2,r3,r4,hP'⟩:∃ s0 s1 s2 s3 s4,pathA q = #[.string s0,.string s1,.string s2,.string s3,.string s4]:=⟨_,_,_,_,_,rfl⟩
 unfold pathV at hpar hname
 simp only[hP,hP'] at hpar hname hcl
 rw[hP]
 have hi:=h.two
 have hlm:lim+20*(q.length+1)<maxLen:=by unfold maxLen;omega
 obtain⟨hix,_⟩:=there_at hth
 have h16:=hE.len
 generalize hixe:idxK (K q) n=ix at hix
 have HIX:Hid (idxK (K q) n=ix):=hixe
 have HP:Hid _:=hP
 have hforget:=fun (tg':Tags) (W:World) (g':WG) (lim':Nat) (vD':List ByteArray->Value) (a:WInv tg' W s i p B objs g' lim') (b:OwnDV tg' W i B g'.ft.od lim' vD')=>forget_any a b hp
 simp only[hP] at hforget
 have HFG:Hid _:=hforget
 have HCL:Hid _:=hcl
 have HOD:Hid _:=m3
 have HE:Hid _:=hE
 have HTH:Hid _:=hth
 have hfr0:=h.st.fresh
 have HFR:Hid _:=hfr0
 have HV:Hid _:=hv
 clear hixe h hD hcl m1 m2 m3 m4 hE hth hP hP' hway htk hfr0 hv hforget
 go_enter Tryz.func135,Tryz.ntmps135
 go_wp2_with (first
  | (go_at_call 134;refine (hname _).mono ?_;rintro e w1 ⟨rfl,hb1⟩;obtain⟨hz0,hz1⟩:=two_size0 hb1;have k1:=fun o=>(bcell hb1).1 w.heap.size o (by simp;omega);have e1:=fun o=>(bcell hb1).1 (w.heap.size+1) o (by simp);have f1:=fun o=>(bcell hb1).2 (w.heap.size+1) o (by simp);have b1:=below_via (((Below.refl w.heap.size w).alloc (Nat.le_refl _) _).alloc (by simp) _) hb1)
  | (go_at_call 132;go_loud (refine (hpar _).mono ?_;rintro e w2 ⟨rfl,hb2⟩;have b2:=below_via (below_set b1 (Nat.le_succ _)) hb2;have hzs:=Nat.lt_of_lt_of_le hz1 (Nat.le_of_eq (set_size (W:=w1) (b:=w.heap.size+1) (o:=0) (v:=.string n)).symm);have e2:=fun o=>(bcell hb2).1 (w.heap.size+1) o hzs;have hz2:=Nat.lt_of_lt_of_le hzs hb2.size;have hw12:w1.heap.size<=w2.heap.size:=Nat.le_trans (Nat.le_of_eq (set_size (W:=w1) (b:=w.heap.size+1) (o:=0) (v:=.string n)).symm) hb2.size;have q2:=fun o=>(bcell hb2).1 w.heap.size o (Nat.lt_trans (Nat.lt_succ_self _) hzs)))
  | (go_at_call 192;go_loud (refine (HCL.out _ (b2.alloc b2.size _)).mono ?_;rintro e w3 ⟨v3,rfl,tg3,vD3,mv3,hW3,hD3,hv3,hq3⟩;have ke:=kept_cell (b:=w.heap.size+1) hi mv3 (lt_alloc hz2 _) (HFR.out _ (Nat.le_succ _));have kp:=kept_cell (b:=w2.heap.size) hi mv3 (self_alloc _ _) (HFR.out _ b2.size);have tz1:=(mv3.tags w2.heap.size (self_alloc _ _)).trans (HFR.out _ b2.size);have tze:=(mv3.tags (w.heap.size+1) (lt_alloc hz2 _)).trans (HFR.out _ (Nat.le_succ _));have hsz3:w2.heap.size<w3.heap.size:=Nat.lt_of_lt_of_le (self_alloc _ _) mv3.size;have hse3:w.heap.size+1<w3.heap.size:=Nat.lt_trans hz2 hsz3;have hr8:=hD3.row _ _ HOD.out;obtain⟨gb,cc,hgb⟩:=slice_of_owns hr8.1 (Nat.lt_of_le_of_lt (Nat.zero_le _) hix);rw[hgb] at hv3 hr8;subst hv3;have hgl:gb<w3.heap.size:=ownsRow_lt hr8.1 rfl;obtain⟨y0,y1,y2⟩:=row_cells3 hr8.1 hix;have y3:=row_frozen hr8.1;have kq:=kept_cell (b:=w.heap.size) hi mv3 (lt_alloc (Nat.lt_of_lt_of_le hz0 hw12) _) (HFR.out _ (Nat.le_refl _));have tzq:=(mv3.tags w.heap.size (lt_alloc (Nat.lt_of_lt_of_le hz0 hw12) _)).trans (HFR.out _ (Nat.le_refl _));have hnq:=tag_ne tzq (hr8.2 gb rfl) (ne05 i);have hnq':=hnq.symm;have hsq3:w.heap.size<w3.heap.size:=Nat.lt_trans (Nat.lt_succ_self _) hse3;obtain⟨ht3,c83,_,_,_⟩:=hW3.wp.tree.cells;have HW3:Hid _:=hW3;have HM3:Hid _:=mv3;have HD3:Hid _:=hD3;have HR8:Hid _:=hr8;have HG8:Hid _:=hgb;clear hW3 mv3 hD3 hr8 hgb hq3)))
 have q0:∀ o v,#[Value.string s0,.string s1,.string s2,.string s3,.string s4][o]? = some v->w3.cell? ⟨w.heap.size,o,none⟩=some v:=fun o v ho=>by
  rw[kq,World.cell?_alloc_past _ _ _ (Nat.lt_of_lt_of_le hz0 hw12),q2]
  rw[show (w1.setCell ⟨w.heap.size+1,0,none⟩ (.string n)).cell? ⟨w.heap.size,o,none⟩=w1.cell? ⟨w.heap.size,o,none⟩ from out_cell (c:=w.heap.size) (grown_set (grown_refl w1 (some (w.heap.size+1)))) hz0 (by omega) o,k1]
  simpa using ho
 refine (search_any HR8.out.1 n HE.out.rising HE.out.len).mono ?_
 rintro e w4 ⟨rfl,hb4⟩
 rw[HIX.out,HTH.out]
 have g4:=fun o=>(bcell hb4).1 gb o hgl
 have gf4:=fun o=>(bcell hb4).2 gb o hgl
 have e4:=fun o=>(bcell hb4).1 (w.heap.size+1) o hse3
 have kx:∀ o v,#[Value.string s0,.string s1,.string s2,.string s3,.string s4][o]? = some v->(((w4.setCell ⟨gb,ix*3,none⟩ (.string n)).setCell ⟨gb,ix*3+1,none⟩ (.int .i64 k)).setCell ⟨gb,ix*3+2,none⟩ (.int .i64 id)).cell? ⟨w.heap.size,o,none⟩=some v:=fun o v ho=>by
  rw[out_cell (c:=w.heap.size) (grown_set (o:=ix*3+2) (v:=.int .i64 id) (grown_set (o:=ix*3+1) (v:=.int .i64 k) (grown_set (o:=ix*3) (v:=.string n) (grown_refl w4 (some gb))))) (Nat.lt_of_lt_of_le hsq3 hb4.size) hnq o,(bcell hb4).1 w.heap.size o hsq3]
  exact q0 o v ho
 have kx0:=kx 0 _ rfl
 have kx1:=kx 1 _ rfl
 have kx2:=kx 2 _ rfl
 have kx3:=kx 3 _ rfl
 have kx4:=kx 4 _ rfl
 obtain⟨o1,o2,o3,_⟩:=over_cells (HW3.out.below hb4) (HD3.out.moves (Moves.of_below (P:=fun _=>False) hb4) (fun x=>x)) HOD.out HG8.out HTH.out HIX.out hvn HV.out rfl
 have hfg:=HFG.out tg3 _ _ _ _ o1 o2
 have HF2:Hid _:=hfg
 have HO3:Hid _:=o3
 have HB4:Hid _:=hb4
 clear kx q0 o1 o2 o3 hfg
 go_wp2_with (go_at_call 139;go_loud (refine Calls.mono HF2.out ?_;rintro e w7 ⟨rfl,m7,hW7,hD7⟩;have HM7:Hid _:=m7;have HW7:Hid _:=hW7;have HD7:Hid _:=hD7;clear m7 hW7 hD7))
 all_goals
  exact bodyPost_ret (v:=.tuple #[]) (by simp[results,Tryz.results135,go_sem]) rfl ⟨rfl,tg3,vD3,((call_moves (b2.alloc b2.size _) HM3.out).trans ((Moves.of_below HB4.out).trans ((HO3.out.mono (fun t ht=>(Or.inr (by rw[ht]):Mine i t))).trans HM7.out))),HW7.out.mono (by omega),HD7.out.mono (by omega)⟩
end
theorem put_ok {objs:List Ob}(hS:Sound objs){m:Nat}{t d c:LT}{q:List ByteArray}{ks:Kids}(hok:LTok objs m t)(ha:t.at objs q=some d)(hk:kids objs d=some ks){n:ByteArray}(hn:validB n=true)(hq:q.length<m)(hc:LTok objs (m-q.length-1) c)(hl:thereK ks n=true\/ks.length<16):LTok objs m (modG objs (fun ks=>putK ks n c) q t):=by
 obtain⟨h1,h2,h3⟩:=ok_kids hS (ok_at hS _ hok ha).2.1 hk
 refine ok_mod hS _ q hok ha hk (ok_own (putK_rising h1) ?_ (fun x hx=>?_))
 ·rw[putK_length]
  rcases hl with h | h
  ·rw[if_pos h];exact h2
  ·split <;> omega
 ·rcases mapK_mem hx with rfl | hx
  ·exact⟨hn,m-q.length-1,by omega,hc⟩
  ·exact h3 x hx
theorem Slc.len {tg:Tags}{w:World}{i:Nat}{v:Value}{es:List Ent}(h:Slc tg w i v es):∃ la c,v=.slice la es.length c:=by
 rcases h.1.2 with ⟨e,h0⟩ | ⟨g',c',_,e,_⟩
 ·exact⟨none,0,by rw[h0];exact e⟩
 ·exact⟨_,_,e⟩
section
variable {s i p:Nat}{B:WB}{objs:List Ob}
def Left (s i p:Nat)(B:WB)(objs:List Ob)(tg:Tags)(w w':World)(g:WG)(fs':FS)(t':LT)(lim:Nat):Prop:=
 ∃ tg' ft',Moves (Mine i) tg tg' w w'/\WInv tg' w' s i p B objs { g with fs:=fs',ft:=ft' } lim/\Flat objs t' ft'/\LTok objs 5 t'
theorem left_same {tg tg':Tags}{w w':World}{g:WG}{fs':FS}{t:LT}{lim:Nat}(m:Moves (Mine i) tg tg' w w')(h:WInv tg' w' s i p B objs { g with fs:=fs' } lim)(hF:Flat objs t g.ft)(hok:LTok objs 5 t):Left s i p B objs tg w w' g fs' t lim:=⟨tg',g.ft,m,h,hF,hok⟩
theorem mkdir_root (t:Nat)(w:World):Calls Tryz.prog 70 #[.pointer (some ⟨t,0,none⟩),.agg #[.string ⟨#[]⟩,.string ⟨#[]⟩,.string ⟨#[]⟩,.string ⟨#[]⟩,.string ⟨#[]⟩]] w fun e w'=>e=.returned (.int .i64 6)/\Below w.heap.size w w':=by
 have hroot:=fun W=>root_any W
 have heq:∀ W,(Op.equalIn 10000 147 (pathV []) (pathV [])).run Tryz.prog W=.ok true W:=fun W=>by
  have:=run_eqP Good.nil Good.nil W
  rw[decide_eq_true rfl] at this;exact this
 unfold pathV pathA at hroot heq
 simp only[List.getD_nil] at hroot heq
 go_enter Tryz.func70,Tryz.ntmps70
 go_wp2
 go_region_with (go_at_call 75;refine (hroot _).mono ?_;rintro e w1 ⟨rfl,hb1⟩;obtain⟨hc1,hf1⟩:=bcell hb1;have hz1:=one_size hb1)
 all_goals
  go_wp2
  go_ret
  exact⟨rfl,below_via (below_drew ((Below.refl _ _).alloc (Nat.le_refl _) _)) hb1⟩
theorem mkdir_walk {tg:Tags}{w:World}{g:WG}{lim:Nat}{t:LT}(h:WInv tg w s i p B objs g lim)(hl:lim+400<1099511627776)(hF:Flat objs t g.ft)(hok:LTok objs 5 t){n:ByteArray}{r:List ByteArray}(hp:Good (r.reverse ++ [n])):
  Calls Tryz.prog 70 #[.pointer (some ⟨B.bt,0,none⟩),.agg (pathA (r.reverse ++ [n]))] w fun en w'=>en=.returned (.int .i64 (mkdirR objs t g.fs (n :: r)).2.1)/\Left s i p B objs tg w w' g (mkdirR objs t g.fs (n :: r)).1 (mkdirR objs t g.fs (n :: r)).2.2 (lim+300):=by
 have hS:=h.st.sound
 have hi:=h.two
 have hq:Good r.reverse:=by have:=hp.dropLast;rwa [List.dropLast_concat] at this
 have hvn:validB n=true:=hp.val n (by simp)
 have hr4:r.length<=4:=by have:=hp.len;simp at this;omega
 have hlook:=fun W (hb:Below w.heap.size w W)=>look_all (s:=s) (i:=i) (p:=p) (B:=B) (objs:=objs) r tg W g lim (h.below hb) (by omega) hq
 simp only[flat_look hS hF hok g.fs r] at hlook
 have hmk:mkdirR objs t g.fs (n :: r)=if (lookR objs t g.fs r).2.1≠0 then ((lookR objs t g.fs r).1,(lookR objs t g.fs r).2.1,t) else if (pickK (lookR objs t g.fs r).2.2 n).isSome then ((lookR objs t g.fs r).1,6,t) else if 16<=(lookR objs t g.fs r).2.2.length then ((lookR objs t g.fs r).1,11,t) else ((lookR objs t g.fs r).1,0,modG objs (fun ks=>putK ks n (.own [])) r.reverse t):=rfl
 have hlk0:=kept_of_look (objs:=objs) (t:=t) (fs:=g.fs) (r:=r)
 have hEn:Ents objs ((lookR objs t g.fs r).2.2.map entOf):=by have:=h.ents g.fs r;rwa [flat_look hS hF hok g.fs r] at this
 generalize mkdirR objs t g.fs (n :: r)=M at hmk ⊢
 generalize lookR objs t g.fs r=a at hlook hlk0 hEn hmk
 obtain⟨fs',er,ks⟩:=a
 simp only at hlook hlk0 hEn hmk
 have HMK:Hid _:=hmk
 have heq:∀ W,(Op.equalIn 10000 147 (pathV (r.reverse ++ [n])) (pathV [])).run Tryz.prog W=.ok false W:=fun W=>by
  have:=run_eqP hp Good.nil W
  rw[decide_eq_false (by simp)] at this;exact this
 have hroot:=fun W=>root_any W
 have hpar:=fun W=>parent_any (r.reverse ++ [n]) hp W
 have hname:=fun W=>name_any (r.reverse ++ [n]) hp (by simp) W
 rw[List.dropLast_concat] at hpar
 simp only[List.getLast_concat] at hname
 obtain⟨s0,s1,s2,s3,s4,hP⟩:∃ s0 s1 s2 s3 s4,pathA (r.reverse ++ [n]) = #[.string s0,.string s1,.string s2,.string s3,.string s4]:=⟨_,_,_,_,_,rfl⟩
 obtain⟨r0,r1,r2,r3,r4,hP'⟩:∃ s0 s1 s2 s3 s4,pathA r.reverse = #[.string s0,.string s1,.string s2,.string s3,.string s4]:=⟨_,_,_,_,_,rfl⟩
 unfold pathV at hroot heq hpar hname
 simp only[hP,hP'] at heq hpar hname hlook
 rw[hP]
 unfold pathA at hroot heq
 simp only[List.getD_nil] at hroot heq
 have HP:Hid _:=hP
 have H0:Hid _:=h
 have HFl:Hid _:=hF
 have HOk:Hid _:=hok
 have HS:Hid _:=hS
 have HLOOK:Hid _:=hlook
 have HLK:Hid _:=hlk0
 have HGP:Hid _:=hp
 have HEN:Hid _:=hEn
 clear h hF hok hS hP hP' hlook hlk0 hp hEn hmk
 go_enter Tryz.func70,Tryz.ntmps70
 go_wp2
 go_region_with (go_at_call 75;refine (hroot _).mono ?_;rintro e w1 ⟨rfl,hb1⟩;obtain⟨hc1,hf1⟩:=bcell hb1;have hz1:=one_size hb1;have b1:=below_via (below_drew ((Below.refl w.heap.size w).alloc (Nat.le_refl _) _)) hb1)
 all_goals
  go_wp2_with (go_at_call 132;refine (hpar _).mono ?_;rintro e w2 ⟨rfl,hb2⟩;have k2:=fun o=>(bcell hb2).1 w.heap.size o hz1;have hz2:=Nat.lt_of_lt_of_le hz1 hb2.size;have b2:=below_via b1 hb2)
  refine (HLOOK.out w2 b2).mono ?_
  rintro e w3 ⟨v,rfl,tg3,m3,hW3,hs3⟩
  have k3:=kept_cell (b:=w.heap.size) hi (m3.mono (fun _ h=>h.mine)) hz2 (H0.out.st.fresh _ (Nat.le_refl _))
  have M3:=call_moves b2 (m3.mono (fun _ h=>h.mine))
  have hsz3:w.heap.size<w3.heap.size:=Nat.lt_of_lt_of_le hz2 m3.size
  have tz3:tg3 w.heap.size=(0,0):=(m3.tags _ hz2).trans (H0.out.st.fresh _ (Nat.le_refl _))
  have HW3:Hid _:=hW3
  have HM3:Hid _:=M3
  have HSL:Hid (Slc tg3 w3 i v (ks.map entOf)):=hs3
  obtain⟨la,lc,rfl⟩:=hs3.len
  rw[List.length_map]
  clear hW3 hs3 m3 M3
  by_cases her:er=0
  ·subst her
   obtain⟨⟨d,hat,hk⟩,hnx,hkw⟩:=HLK.out rfl
   have hwy:=ownWay_flat HS.out HFl.out HOk.out hat hk hkw
   obtain⟨q1,q2,q3⟩:=ok_kids HS.out (ok_at HS.out _ HOk.out hat).2.1 hk
   have hr1:RisingK (ks.map entOf):=by rw[map_ent];exact mapK_rising _ q1
   have hl1:(ks.map entOf).length<=16:=by rw[List.length_map];exact q2
   have hpk:=pick_there q1 n
   have hte:=there_ent ks n
   have hsea:=fun W2 (hb:Below w3.heap.size w3 W2)=>search_any (HSL.out.below hb).1 n hr1 hl1
   rw[List.length_map] at hsea
   have HSEA:Hid _:=hsea
   have HWY:Hid _:=hwy
   have HAT:Hid _:=And.intro hat (And.intro hk hkw)
   have HTE:Hid _:=hte
   have HPK:Hid _:=hpk
   have HR1:Hid _:=And.intro hr1 hl1
   have hq2:ks.length<=16:=q2
   clear hsea hwy hat hk hkw hte hpk hr1 hl1 q1 q2 q3 hnx
   cases hth:thereK ks n with
   | true=>
    go_wp2_with (first
     | (go_at_call 134;refine (hname _).mono ?_;rintro e w4 ⟨rfl,hb4⟩)
     | (go_at_call 133;go_loud (refine (HSEA.out _ hb4).mono ?_;rintro e w5 ⟨rfl,hb5⟩;rw[HTE.out,hth];have b35:=below_via hb4 hb5)))
    go_ret
    have hmk:=HMK.out
    rw[if_neg (by simp),if_pos (by rw[HPK.out];exact hth)] at hmk
    subst hmk
    exact⟨rfl,left_same (HM3.out.trans (Moves.of_below b35)) ((HW3.out.below b35).mono (by omega)) HFl.out HOk.out⟩
   | false=>
    by_cases h16:ks.length<16
    ·obtain⟨vD,hvD⟩:=HW3.out.wp.ownD
     have hput:=fun W2 (hb:Below w3.heap.size w3 W2)=>put_new (HW3.out.below hb) (hvD.moves (Moves.of_below (P:=fun _=>False) hb) (fun x=>x)) (by omega) HGP.out HWY.out (by rw[cur_at HAT.out.1 HAT.out.2.1];exact HEN.out) (by rw[cur_at HAT.out.1 HAT.out.2.1,HTE.out];exact hth) (by rw[cur_at HAT.out.1 HAT.out.2.1,List.length_map];exact h16) ⟨#[]⟩ 2 0 ⟨.inr rfl,fun h=>absurd rfl h⟩
     rw[HP.out] at hput
     have HPUT:Hid _:=hput
     clear hput hvD
     have h16':¬ ((16:Int)<=(ks.length:Int)):=by omega
     go_wp2_with (first
      | (go_at_call 134;refine (hname _).mono ?_;rintro e w4 ⟨rfl,hb4⟩;have k4:=fun o=>(bcell hb4).1 w.heap.size o hsz3)
      | (go_at_call 133;go_loud (refine (HSEA.out _ hb4).mono ?_;rintro e w5 ⟨rfl,hb5⟩;rw[HTE.out,hth];have b35:=below_via hb4 hb5;have k5:=fun o=>(bcell b35).1 w.heap.size o hsz3))
      | (go_at_call 135;go_loud (refine (HPUT.out _ b35).mono ?_;rintro e w6 ⟨rfl,tg6,vD6,m6,hW6,hD6⟩;have k6:=kept_cell (b:=w.heap.size) hi m6 (Nat.lt_of_lt_of_le hsz3 b35.size) tz3;have hsz6:=Nat.lt_of_lt_of_le (Nat.lt_of_lt_of_le hsz3 b35.size) m6.size;have HM6:Hid _:=m6;have HW6:Hid _:=hW6;have HD6:Hid _:=hD6;obtain⟨ht6,c86,_,_,_⟩:=hW6.wp.tree.cells;clear m6 hW6 hD6)))
     obtain⟨w7,tg7,hmu,hg7,hs7,hoD,m7,hW7,hD7,_⟩:=own_new HW6.out HD6.out (by unfold maxLen;omega) HGP.out (below_drew (Below.refl _ w6)) (nil_row _) (fun gb h=>by simp[Value.ownBlock] at h) ⟨by simp[RisingK],by simp,by simp⟩
     rw[HP.out] at hmu
     have HM7:Hid _:=m7
     have HW7:Hid _:=hW7
     have hF7:=flat_mkdir HS.out HFl.out HOk.out HAT.out.1 HAT.out.2.1 HAT.out.2.2 (n:=n) (by have:=HPK.out;rw[hth] at this;simpa using this)
     have hO7:=put_ok HS.out HOk.out HAT.out.1 HAT.out.2.1 hvn (by rw[List.length_reverse];omega) (c:=.own []) (ok_own (by simp[RisingK]) (by simp) (by simp)) (.inr h16)
     have HF7:Hid _:=hF7
     have HO7:Hid _:=hO7
     clear m7 hW7 hD7 hF7 hO7
     go_region
     all_goals
      go_wp2
      go_ret
      have hmk:=HMK.out
      rw[if_neg (by simp),if_neg (by rw[HPK.out,hth];decide),if_neg (by omega)] at hmk
      subst hmk
      exact⟨rfl,tg7,_,(HM3.out.trans ((Moves.of_below b35).trans (HM6.out.trans HM7.out))),HW7.out.mono (by omega),HF7.out,HO7.out⟩
    ·have h16':(16:Int)<=(ks.length:Int):=by omega
     go_wp2_with (first
      | (go_at_call 134;refine (hname _).mono ?_;rintro e w4 ⟨rfl,hb4⟩)
      | (go_at_call 133;go_loud (refine (HSEA.out _ hb4).mono ?_;rintro e w5 ⟨rfl,hb5⟩;rw[HTE.out,hth];have b35:=below_via hb4 hb5)))
     go_ret
     have hmk:=HMK.out
     rw[if_neg (by simp),if_neg (by rw[HPK.out,hth];decide),if_pos (by omega)] at hmk
     subst hmk
     exact⟨rfl,left_same (HM3.out.trans (Moves.of_below b35)) ((HW3.out.below b35).mono (by omega)) HFl.out HOk.out⟩
  ·have her':(er == 0)=false:=by simpa using her
   go_wp2
   go_ret
   have hmk:=HMK.out
   rw[if_pos her] at hmk
   subst hmk
   exact⟨rfl,left_same HM3.out (HW3.out.mono (by omega)) HFl.out HOk.out⟩
end
theorem lt_entOk {objs:List Ob}{n:Nat}{c:LT}(h:LTok objs n c)(nm:ByteArray):EntOk objs (nm,c.kind,c.id):=by
 cases c with
 | file id=>exact⟨.inl rfl,fun _=>by cases n <;> exact h⟩
 | held f=>exact⟨.inl rfl,fun h=>absurd rfl h⟩
 | dir id=>exact⟨.inr rfl,fun _=>by cases n <;> exact h.1⟩
 | own es=>exact⟨.inr rfl,fun h=>absurd rfl h⟩
section
variable {s i p:Nat}{B:WB}{objs:List Ob}
theorem vacant_any {tg:Tags}{w:World}{g:WG}{lim:Nat}{t c:LT}(h:WInv tg w s i p B objs g lim)(hl:lim+10<1099511627776)(hF:Flat objs t g.ft){n:Nat}(hok:LTok objs n t){q:List ByteArray}(hq:Good q)(ha:t.at objs q=some c)(nm:ByteArray):
  Calls Tryz.prog 137 #[.pointer (some ⟨B.bt,0,none⟩),.agg (pathA q),.agg #[.string nm,.int .i64 c.kind,.int .i64 c.id]] w fun en w'=>en=.returned (.int .i64 (vacantG objs g.fs c).2)/\DidF s i p B objs tg w w' { g with fs:=(vacantG objs g.fs c).1 } (lim+1):=by
 have hS:=h.st.sound
 have hc:=(ok_at hS _ hok ha).2.1
 have hen:=fun W (hb:Below w.heap.size w W)=>entries_any (h.below hb) (by omega) hq (lt_entOk hc nm)
 simp only[flat_ents hS hF hc ha] at hen
 have hv:vacantG objs g.fs c=if c.kind=1 then (g.fs,0) else if (kidsG objs g.fs c).2.1=0/\0<(kidsG objs g.fs c).2.2.length then ((kidsG objs g.fs c).1,8) else ((kidsG objs g.fs c).1,(kidsG objs g.fs c).2.1):=rfl
 generalize vacantG objs g.fs c=V at hv ⊢
 generalize kidsG objs g.fs c=a at hen hv
 obtain⟨fs',er,ks⟩:=a
 simp only at hen hv
 generalize c.kind=k at hen hv ⊢
 generalize c.id=id at hen ⊢
 obtain⟨s0,s1,s2,s3,s4,hP⟩:∃ s0 s1 s2 s3 s4,pathA q = #[.string s0,.string s1,.string s2,.string s3,.string s4]:=⟨_,_,_,_,_,rfl⟩
 rw[hP]
 simp only[hP] at hen
 have H0:Hid _:=h
 have HEN:Hid _:=hen
 have HV:Hid _:=hv
 clear h hen hP hv hF hok ha hS hc
 by_cases hk:k=1
 ·subst hk
  go_enter Tryz.func137,Tryz.ntmps137
  go_wp2
  go_ret
  have hv:=HV.out
  rw[if_pos (by first | rfl | trivial)] at hv
  subst hv
  have hb:Below w.heap.size w ((w.alloc (.cells #[.string s0,.string s1,.string s2,.string s3,.string s4] 147)).alloc (.cells #[.string nm,.int .i64 1,.int .i64 id] 96)):=((Below.refl w.heap.size w).alloc (Nat.le_refl _) _).alloc (by simp) _
  exact⟨rfl,tg,Moves.of_below hb,(H0.out.below hb).mono (by omega)⟩
 ·have hk':(k == 1)=false:=by simpa using hk
  go_enter Tryz.func137,Tryz.ntmps137
  go_wp2_with fail
  refine (HEN.out _ (((Below.refl w.heap.size w).alloc (Nat.le_refl _) _).alloc (by simp) _)).mono ?_
  rintro e w1 ⟨v,rfl,tg1,m1,hW1,hs1⟩
  obtain⟨la,lc,rfl⟩:=hs1.len
  rw[List.length_map]
  have HW1:Hid _:=hW1
  have HM1:Hid _:=call_moves (((Below.refl w.heap.size w).alloc (Nat.le_refl _) _).alloc (by simp) _) m1
  clear hs1 hW1 m1
  by_cases her:er=0
  ·subst her
   by_cases hl0:0<ks.length
   ·have hl0':(0:Int)<(ks.length:Int):=by omega
    go_wp2
    go_ret
    have hv:=HV.out
    rw[if_neg hk,if_pos (by first | exact⟨rfl,hl0⟩ | exact⟨trivial,hl0⟩)] at hv
    subst hv
    exact⟨rfl,tg1,HM1.out,HW1.out⟩
   ·have hl0':¬ (0:Int)<(ks.length:Int):=by omega
    go_wp2
    go_ret
    have hv:=HV.out
    rw[if_neg hk,if_neg (fun h=>hl0 h.2)] at hv
    subst hv
    exact⟨rfl,tg1,HM1.out,HW1.out⟩
  ·have her':(er == 0)=false:=by simpa using her
   go_wp2
   go_ret
   have hv:=HV.out
   rw[if_neg hk,if_neg (fun h=>her h.1)] at hv
   subst hv
   exact⟨rfl,tg1,HM1.out,HW1.out⟩
theorem remove_root (t:Nat)(w:World):Calls Tryz.prog 71 #[.pointer (some ⟨t,0,none⟩),.agg #[.string ⟨#[]⟩,.string ⟨#[]⟩,.string ⟨#[]⟩,.string ⟨#[]⟩,.string ⟨#[]⟩]] w fun e w'=>e=.returned (.int .i64 9)/\Below w.heap.size w w':=by
 have hroot:=fun W=>root_any W
 have heq:∀ W,(Op.equalIn 10000 147 (pathV []) (pathV [])).run Tryz.prog W=.ok true W:=fun W=>by
  have:=run_eqP Good.nil Good.nil W
  rw[decide_eq_true rfl] at this;exact this
 unfold pathV pathA at hroot heq
 simp only[List.getD_nil] at hroot heq
 go_enter Tryz.func71,Tryz.ntmps71
 go_wp2
 go_region_with (go_at_call 75;refine (hroot _).mono ?_;rintro e w1 ⟨rfl,hb1⟩;obtain⟨hc1,hf1⟩:=bcell hb1;have hz1:=one_size hb1)
 all_goals
  go_wp2
  go_ret
  exact⟨rfl,below_via (below_drew ((Below.refl _ _).alloc (Nat.le_refl _) _)) hb1⟩
end
theorem vacant_next {objs:List Ob}{fs:FS}{c:LT}(h:(vacantG objs fs c).2=0):fs.Next (vacantG objs fs c).1/\(kids objs c=none\/kids objs c=some []):=by
 unfold vacantG at h ⊢
 by_cases hk:c.kind=1
 ·rw[if_pos hk]
  refine⟨FS.Next.refl _,.inl ?_⟩
  cases c <;> simp[LT.kind] at hk <;> rfl
 ·rw[if_neg hk] at h ⊢
  by_cases h0:(kidsG objs fs c).2.1=0/\0<(kidsG objs fs c).2.2.length
  ·simp only[if_pos h0] at h;cases h
  ·simp only[if_neg h0] at h ⊢
   obtain⟨k1,k2,k3⟩:=kidsG_kids h
   refine⟨k2,.inr ?_⟩
   rw[k1,Option.some.injEq]
   exact List.length_eq_zero_iff.1 (by have:=fun x=>h0 ⟨h,x⟩;omega)
theorem find_way {objs:List Ob}{t c:LT}{fs:FS}{n:ByteArray}{r:List ByteArray}{fs':FS}(hf:findR objs t fs (n :: r)=(fs',0,c)):t.at objs (r.reverse ++ [n])=some c/\fs.Next fs'/\KeptWay objs t fs' r.reverse/\∃ d ks,t.at objs r.reverse=some d/\kids objs d=some ks/\pickK ks n=some c:=by
 obtain⟨h1,h2,h3⟩:=kept_of_find (objs:=objs) (t:=t) (fs:=fs) (r:=n :: r) (by rw[hf])
 rw[hf,List.reverse_cons] at h1
 rw[hf] at h2
 refine⟨h1,h2,fun x id hx ha=>?_,at_snoc h1⟩
 have:=h3 x id (by rw[List.reverse_cons];exact hx.trans (List.prefix_append _ _)) (fun e=>by
  have:=hx.length_le
  rw[e,List.reverse_cons] at this
  simp at this
  omega) ha
 rw[hf] at this
 exact this
section
variable {s i p:Nat}{B:WB}{objs:List Ob}
theorem DidF.out {tg:Tags}{w w':World}{g':WG}{lim:Nat}(h:DidF s i p B objs tg w w' g' lim):∃ tg',Moves (Mine i) tg tg' w w'/\WInv tg' w' s i p B objs g' lim:=by
 obtain⟨tg',m,hW⟩:=h
 exact⟨tg',m.mono (fun _ h=>h.mine),hW⟩
theorem remove_walk {tg:Tags}{w:World}{g:WG}{lim:Nat}{t:LT}(h:WInv tg w s i p B objs g lim)(hl:lim+400<1099511627776)(hF:Flat objs t g.ft)(hok:LTok objs 5 t){n:ByteArray}{r:List ByteArray}(hp:Good (r.reverse ++ [n])):
  Calls Tryz.prog 71 #[.pointer (some ⟨B.bt,0,none⟩),.agg (pathA (r.reverse ++ [n]))] w fun en w'=>en=.returned (.int .i64 (removeR objs t g.fs (n :: r)).2.1)/\Left s i p B objs tg w w' g (removeR objs t g.fs (n :: r)).1 (removeR objs t g.fs (n :: r)).2.2 (lim+300):=by
 have hS:=h.st.sound
 have hi:=h.two
 have hr4:r.length<=4:=by have:=hp.len;simp at this;omega
 have hfind:=fun W (hb:Below w.heap.size w W)=>find_all (s:=s) (i:=i) (p:=p) (B:=B) (objs:=objs) (n :: r) tg W g lim (h.below hb) (by omega) (by rw[List.reverse_cons];exact hp)
 rw[List.reverse_cons] at hfind
 obtain⟨f1,f2,f3⟩:=flat_find hS hF hok g.fs (n :: r)
 simp only[f1,f2] at hfind
 have hmk:removeR objs t g.fs (n :: r)=if (findR objs t g.fs (n :: r)).2.1≠0 then ((findR objs t g.fs (n :: r)).1,(findR objs t g.fs (n :: r)).2.1,t) else if (vacantG objs (findR objs t g.fs (n :: r)).1 (findR objs t g.fs (n :: r)).2.2).2≠0 then ((vacantG objs (findR objs t g.fs (n :: r)).1 (findR objs t g.fs (n :: r)).2.2).1,(vacantG objs (findR objs t g.fs (n :: r)).1 (findR objs t g.fs (n :: r)).2.2).2,t) else ((vacantG objs (findR objs t g.fs (n :: r)).1 (findR objs t g.fs (n :: r)).2.2).1,0,modG objs (fun ks=>dropK ks n) r.reverse t):=rfl
 generalize removeR objs t g.fs (n :: r)=M at hmk ⊢
 have hfw:∀ {fs':FS} {c:LT},findR objs t g.fs (n :: r)=(fs',0,c)->_:=fun {_ _} h=>find_way h
 generalize findR objs t g.fs (n :: r)=a at hfind f3 hmk hfw
 obtain⟨fs',er,c⟩:=a
 simp only at hfind f3 hmk
 generalize findF objs g.ft g.fs (n :: r)=af at hfind f3
 obtain⟨_,_,en,ek,eid⟩:=af
 simp only[List.headD_cons,Prod.mk.injEq] at hfind f3
 have HMK:Hid _:=hmk
 have heq:∀ W,(Op.equalIn 10000 147 (pathV (r.reverse ++ [n])) (pathV [])).run Tryz.prog W=.ok false W:=fun W=>by
  have:=run_eqP hp Good.nil W
  rw[decide_eq_false (by simp)] at this;exact this
 have hroot:=fun W=>root_any W
 obtain⟨s0,s1,s2,s3,s4,hP⟩:∃ s0 s1 s2 s3 s4,pathA (r.reverse ++ [n]) = #[.string s0,.string s1,.string s2,.string s3,.string s4]:=⟨_,_,_,_,_,rfl⟩
 unfold pathV at hroot heq
 simp only[hP] at heq hfind
 rw[hP]
 unfold pathA at hroot heq
 simp only[List.getD_nil] at hroot heq
 have HP:Hid _:=hP
 have H0:Hid _:=h
 have HFl:Hid _:=hF
 have HOk:Hid _:=hok
 have HS:Hid (Sound objs):=hS
 have HFIND:Hid _:=hfind
 have HFW:Hid (∀ {fs'':FS} {c':LT},(fs',er,c)=(fs'',0,c')->_):=hfw
 have HF3:Hid _:=f3
 have HGP:Hid _:=hp
 clear h hF hok hS hP hfind hfw hp hmk f1 f2 f3
 go_enter Tryz.func71,Tryz.ntmps71
 go_wp2
 go_region_with (go_at_call 75;refine (hroot _).mono ?_;rintro e w1 ⟨rfl,hb1⟩;obtain⟨hc1,hf1⟩:=bcell hb1;have hz1:=one_size hb1;have b1:=below_via (below_drew ((Below.refl w.heap.size w).alloc (Nat.le_refl _) _)) hb1)
 all_goals
  go_wp2_with fail
  refine (HFIND.out w1 b1).mono ?_
  rintro e w3 ⟨rfl,hd3⟩
  obtain⟨tg3,m3,hW3⟩:=hd3.out
  have k3:=kept_cell (b:=w.heap.size) hi m3 hz1 (H0.out.st.fresh _ (Nat.le_refl _))
  have hsz3:w.heap.size<w3.heap.size:=Nat.lt_of_lt_of_le hz1 m3.size
  have tz3:tg3 w.heap.size=(0,0):=(m3.tags _ hz1).trans (H0.out.st.fresh _ (Nat.le_refl _))
  have HM3:Hid _:=call_moves b1 m3
  have HW3:Hid _:=hW3
  clear hd3 m3 hW3
  by_cases her:er=0
  ·subst her
   obtain⟨⟨rfl,rfl,rfl⟩,hat⟩:=HF3.out rfl
   obtain⟨x1,x2,x3,d,ks,x4,x5,x6⟩:=HFW.out rfl
   have hvac:=fun W (hb:Below w3.heap.size w3 W)=>vacant_any (HW3.out.below hb) (by simp;omega) HFl.out HOk.out HGP.out x1 en
   rw[HP.out] at hvac
   have hvn:=vacant_next (objs:=objs) (fs:=fs') (c:=c)
   have hmk:=HMK.out
   clear HMK
   simp only[ne_eq,not_true_eq_false,if_false] at hmk
   generalize vacantG objs fs' c=V at hvac hvn hmk
   obtain⟨fs2,er2⟩:=V
   simp only at hvac hvn hmk
   have HVAC:Hid _:=hvac
   have HVN:Hid _:=hvn
   have HX:Hid _:=And.intro x3 (And.intro x4 (And.intro x5 x6))
   have HMK:Hid _:=hmk
   clear hvac hvn hmk x1 x2 x3 x4 x5 x6 hat
   go_wp2_with fail
   refine (HVAC.out _ ((Below.refl w3.heap.size w3).alloc (Nat.le_refl _) _)).mono ?_
   rintro e w5 ⟨rfl,hd5⟩
   obtain⟨tg5,m5,hW5⟩:=hd5.out
   have k5:=kept_cell (b:=w.heap.size) hi m5 (lt_alloc hsz3 _) tz3
   have hsz5:w.heap.size<w5.heap.size:=Nat.lt_of_lt_of_le (lt_alloc hsz3 _) m5.size
   have tz5:tg5 w.heap.size=(0,0):=(m5.tags _ (lt_alloc hsz3 _)).trans tz3
   have HM5:Hid _:=call_moves ((Below.refl w3.heap.size w3).alloc (Nat.le_refl _) _) m5
   have HW5:Hid _:=hW5
   clear hd5 m5 hW5
   by_cases her2:er2=0
   ·subst her2
    obtain⟨hnx,hkid⟩:=HVN.out rfl
    have hkw:KeptWay objs t fs2 r.reverse:=HX.out.1.mono hnx.2.2.2.2
    have hwy:=ownWay_flat HS.out HFl.out HOk.out HX.out.2.1 HX.out.2.2.1 hkw
    have q1:=(ok_kids HS.out (ok_at HS.out _ HOk.out HX.out.2.1).2.1 HX.out.2.2.1).1
    have hth:thereK (curK objs t r.reverse) en=true:=by rw[cur_at HX.out.2.1 HX.out.2.2.1,there_ent,<- pick_there q1,HX.out.2.2.2];rfl
    have hEn:Ents objs (curK objs t r.reverse):=by
     have:=HW5.out.ents fs2 r
     rw[flat_look HS.out HFl.out HOk.out,look_kept HX.out.2.1 HX.out.2.2.1 hkw] at this
     rw[cur_at HX.out.2.1 HX.out.2.2.1];exact this
    obtain⟨vD,hvD⟩:=HW5.out.wp.ownD
    have htk:=take_any HW5.out hvD (by simp;omega) HGP.out hwy hEn hth
    have hF7:=flat_remove HS.out HFl.out HOk.out HX.out.2.1 HX.out.2.2.1 hkw HX.out.2.2.2 hkid
    have hO7:=drop_ok HS.out HOk.out HX.out.2.1 HX.out.2.2.1 en
    rw[HP.out] at htk
    have HTK:Hid _:=htk
    have HF7:Hid _:=hF7
    have HO7:Hid _:=hO7
    clear htk hF7 hO7 hvD hEn hth q1 hwy hkw hnx hkid
    go_wp2_with (first
     | (go_at_call 138;go_loud (refine Calls.mono HTK.out ?_;rintro e w6 ⟨rfl,tg6,vD6,m6,hW6,hD6⟩;have k6:=kept_cell (b:=w.heap.size) hi m6 hsz5 tz5;have hfg:=forget_any hW6 hD6 HGP.out;rw[HP.out] at hfg;have HFG:Hid _:=hfg;have HM6:Hid _:=m6;clear hfg hW6 hD6 m6))
     | (go_at_call 139;go_loud (refine Calls.mono HFG.out ?_;rintro e w7 ⟨rfl,m7,hW7,hD7⟩;have HM7:Hid _:=m7;have HW7:Hid _:=hW7;clear m7 hW7 hD7)))
    go_ret
    have hmk:=HMK.out
    simp only[not_true_eq_false,if_false] at hmk
    subst hmk
    exact⟨rfl,tg6,_,(HM3.out.trans (HM5.out.trans (HM6.out.trans HM7.out))),HW7.out.mono (by simp;omega),HF7.out,HO7.out⟩
   ·have her2':(er2 == 0)=false:=by simpa using her2
    go_wp2
    go_ret
    have hmk:=HMK.out
    rw[if_pos her2] at hmk
    subst hmk
    exact⟨rfl,left_same (HM3.out.trans HM5.out) (HW5.out.mono (by simp;omega)) HFl.out HOk.out⟩
  ·have her':(er == 0)=false:=by simpa using her
   go_wp2
   go_ret
   have hmk:=HMK.out
   rw[if_pos her] at hmk
   subst hmk
   exact⟨rfl,left_same (HM3.out.trans (Moves.of_below ((Below.refl w3.heap.size w3).alloc (Nat.le_refl _) _))) ((HW3.out.below ((Below.refl w3.heap.size w3).alloc (Nat.le_refl _) _)).mono (by simp;omega)) HFl.out HOk.out⟩
end
section
variable {s i p:Nat}{B:WB}{objs:List Ob}
theorem kind_cases (c:LT):c.kind=1\/c.kind=2:=by cases c <;> simp[LT.kind]
theorem DidF.via {tg:Tags}{w W w':World}{g':WG}{lim:Nat}(hb:Below w.heap.size w W)(h:DidF s i p B objs tg W w' g' lim):DidF s i p B objs tg w w' g' lim:=by
 obtain⟨tg',m,hW⟩:=h
 exact⟨tg',call_moves hb m,hW⟩
theorem didF_same {tg:Tags}{w w':World}{g:WG}{lim:Nat}(h:WInv tg w s i p B objs g lim)(hb:Below w.heap.size w w'):DidF s i p B objs tg w w' g lim:=⟨tg,Moves.of_below hb,h.below hb⟩
theorem DidF.mono {tg:Tags}{w w':World}{g:WG}{lim lim':Nat}(h:DidF s i p B objs tg w w' g lim)(hl:lim<=lim'):DidF s i p B objs tg w w' g lim':=by
 obtain⟨tg',m,hW⟩:=h
 exact⟨tg',m,hW.mono hl⟩
theorem yields_any {tg:Tags}{w:World}{g:WG}{lim:Nat}{t c x:LT}(h:WInv tg w s i p B objs g lim)(hl:lim+10<1099511627776)(hF:Flat objs t g.ft){n:Nat}(hok:LTok objs n t){q:List ByteArray}(hq:Good q)(ha:t.at objs q=some c)(nm nx:ByteArray):
  Calls Tryz.prog 195 #[.pointer (some ⟨B.bt,0,none⟩),.agg (pathA q),.agg #[.string nm,.int .i64 c.kind,.int .i64 c.id],.agg #[.string nx,.int .i64 x.kind,.int .i64 x.id]] w fun en w'=>en=.returned (.int .i64 (yieldsG objs g.fs c x).2)/\DidF s i p B objs tg w w' { g with fs:=(yieldsG objs g.fs c x).1 } (lim+1):=by
 have hvac:=fun W (hb:Below w.heap.size w W)=>vacant_any (h.below hb) hl hF hok hq ha nm
 have hy:yieldsG objs g.fs c x=if c.kind=2/\x.kind=1 then (g.fs,7) else if c.kind=1/\x.kind=2 then (g.fs,5) else vacantG objs g.fs c:=rfl
 generalize yieldsG objs g.fs c x=Y at hy ⊢
 have hkc:=kind_cases c
 have hkx:=kind_cases x
 generalize vacantG objs g.fs c=V at hvac hy
 generalize c.kind=kc at hvac hy hkc ⊢
 generalize x.kind=kx at hy hkx ⊢
 generalize c.id=ic at hvac ⊢
 generalize x.id=ix
 obtain⟨s0,s1,s2,s3,s4,hP⟩:∃ s0 s1 s2 s3 s4,pathA q = #[.string s0,.string s1,.string s2,.string s3,.string s4]:=⟨_,_,_,_,_,rfl⟩
 rw[hP]
 simp only[hP] at hvac
 have H0:Hid _:=h
 have HVAC:Hid _:=hvac
 have HY:Hid _:=hy
 clear h hvac hP hy hF hok ha
 rcases hkc with rfl | rfl <;> rcases hkx with rfl | rfl
 ·go_enter Tryz.func195,Tryz.ntmps195
  go_wp2_with (go_at_call 137;refine (HVAC.out _ ((((Below.refl w.heap.size w).alloc (Nat.le_refl _) _).alloc (by simp) _).alloc (by simp;omega) _)).mono ?_;rintro e w1 ⟨rfl,hd1⟩)
  go_ret
  have hy:=HY.out
  rw[if_neg (by decide),if_neg (by decide)] at hy
  subst hy
  exact⟨rfl,hd1.via ((((Below.refl w.heap.size w).alloc (Nat.le_refl _) _).alloc (by simp) _).alloc (by simp;omega) _)⟩
 ·go_enter Tryz.func195,Tryz.ntmps195
  go_wp2
  go_ret
  have hy:=HY.out
  rw[if_neg (by decide),if_pos (by decide)] at hy
  subst hy
  exact⟨rfl,(didF_same H0.out ((((Below.refl w.heap.size w).alloc (Nat.le_refl _) _).alloc (by simp) _).alloc (by simp;omega) _)).mono (by omega)⟩
 ·go_enter Tryz.func195,Tryz.ntmps195
  go_wp2
  go_ret
  have hy:=HY.out
  rw[if_pos (by decide)] at hy
  subst hy
  exact⟨rfl,(didF_same H0.out ((((Below.refl w.heap.size w).alloc (Nat.le_refl _) _).alloc (by simp) _).alloc (by simp;omega) _)).mono (by omega)⟩
 ·go_enter Tryz.func195,Tryz.ntmps195
  go_wp2_with (go_at_call 137;refine (HVAC.out _ ((((Below.refl w.heap.size w).alloc (Nat.le_refl _) _).alloc (by simp) _).alloc (by simp;omega) _)).mono ?_;rintro e w1 ⟨rfl,hd1⟩)
  go_ret
  have hy:=HY.out
  rw[if_neg (by decide),if_neg (by decide)] at hy
  subst hy
  exact⟨rfl,hd1.via ((((Below.refl w.heap.size w).alloc (Nat.le_refl _) _).alloc (by simp) _).alloc (by simp;omega) _)⟩
end
section
variable {s i p:Nat}{B:WB}{objs:List Ob}
theorem three_size {w w1:World}{o1 o2 o3:Obj}(h:Below (((w.alloc o1).alloc o2).alloc o3).heap.size (((w.alloc o1).alloc o2).alloc o3) w1):w.heap.size+2<w1.heap.size:=by
 have h2:=h.size
 rw[World.size_alloc,World.size_alloc,World.size_alloc] at h2
 omega
theorem three_below {w w1:World}{o1 o2 o3:Obj}(h:Below (((w.alloc o1).alloc o2).alloc o3).heap.size (((w.alloc o1).alloc o2).alloc o3) w1):Below w.heap.size w w1:=
 below_via ((((Below.refl w.heap.size w).alloc (Nat.le_refl _) _).alloc (by simp) _).alloc (by simp;omega) _) h
theorem three_old {w w1:World}{o1 o2 o3:Obj}(h:Below (((w.alloc o1).alloc o2).alloc o3).heap.size (((w.alloc o1).alloc o2).alloc o3) w1)(b o:Nat)(hb:b<w.heap.size+3):w1.cell? ⟨b,o,none⟩=(((w.alloc o1).alloc o2).alloc o3).cell? ⟨b,o,none⟩:=
 (bcell h).1 b o (by rw[World.size_alloc,World.size_alloc,World.size_alloc];omega)
theorem Slc.at_ {tg:Tags}{w:World}{v:Value}{es:List Ent}(h:Slc tg w i v es){k:Nat}(hk:k<es.length):∃ gb c,v=.slice (some ⟨gb,0,none⟩) es.length c/\gb<w.heap.size/\w.cell? ⟨gb,k*3,none⟩=some (.string (es[k]).1)/\w.cell? ⟨gb,k*3+1,none⟩=some (.int .i64 (es[k]).2.1)/\w.cell? ⟨gb,k*3+2,none⟩=some (.int .i64 (es[k]).2.2):=by
 obtain⟨gb,cp,rfl⟩:=slice_of_owns h.1 (by omega)
 obtain⟨c0,c1,c2⟩:=row_at (b:=gb) (fun j u hu=>by have:=owns_cells h.1 j u hu;rwa [Nat.zero_add] at this) hk
 exact⟨gb,cp,rfl,ownsRow_lt h.1 rfl,c0,c1,c2⟩
theorem pick_at {ks:Kids}(hr:RisingK ks){n:ByteArray}{e:LT}(hp:pickK ks n=some e):∃ h:idxK (ks.map entOf) n<(ks.map entOf).length,(ks.map entOf)[idxK (ks.map entOf) n]=(n,e.kind,e.id):=by
 have hth:thereK (ks.map entOf) n=true:=by rw[there_ent,<- pick_there hr,hp];rfl
 obtain⟨h1,h2⟩:=there_at hth
 have hg:=getK_there (n:=n) (by rw[map_ent];exact mapK_rising _ hr:RisingK (ks.map entOf))
 rw[hth,if_pos rfl,List.getElem?_eq_getElem h1,Option.map_some,getK_map,hp,Option.map_some,Option.some.injEq] at hg
 exact⟨h1,Prod.ext h2 hg.symm⟩
theorem room_there {tg:Tags}{w:World}{g:WG}{lim:Nat}{t x d e:LT}(h:WInv tg w s i p B objs g lim)(hl:lim+10<1099511627776)(hF:Flat objs t g.ft){k:Nat}(hok:LTok objs k t){rf qt:List ByteArray}{nt:ByteArray}(hf:Good rf)(hq:Good (qt ++ [nt])){ks:Kids}(ha:t.at objs qt=some d)(hk:kids objs d=some ks)(hp:pickK ks nt=some e){v:Value}(hs:Slc tg w i v (ks.map entOf))(nx:ByteArray):
  Calls Tryz.prog 141 #[.pointer (some ⟨B.bt,0,none⟩),.agg (pathA rf),.agg (pathA (qt ++ [nt])),.agg #[.string nx,.int .i64 x.kind,.int .i64 x.id],v] w fun en w'=>en=.returned (.int .i64 (yieldsG objs g.fs e x).2)/\DidF s i p B objs tg w w' { g with fs:=(yieldsG objs g.fs e x).1 } (lim+1):=by
 have hS:=h.st.sound
 obtain⟨q1,q2,q3⟩:=ok_kids hS (ok_at hS _ hok ha).2.1 hk
 have hr1:RisingK (ks.map entOf):=by rw[map_ent];exact mapK_rising _ q1
 have hl1:(ks.map entOf).length<=16:=by rw[List.length_map];exact q2
 obtain⟨hix,hat⟩:=pick_at q1 hp
 have hae:t.at objs (qt ++ [nt])=some e:=by rw[at_append,ha,Option.bind_some,at_cons,hk,Option.bind_some,hp,Option.bind_some,at_nil]
 have hth:thereK (ks.map entOf) nt=true:=by rw[there_ent,<- pick_there q1,hp];rfl
 have hy:=fun W (hb:Below w.heap.size w W)=>yields_any (x:=x) (h.below hb) hl hF hok hq hae nt nx
 have hsea:=fun W2 (hb:Below w.heap.size w W2)=>search_any (hs.below hb).1 nt hr1 hl1
 rw[hth] at hsea
 obtain⟨gb,cp,rfl,hgl,y0,y1,y2⟩:=hs.at_ hix
 rw[hat] at y0 y1 y2
 clear hat
 generalize (ks.map entOf).length=ln at hsea hix hl1 ⊢
 generalize idxK (ks.map entOf) nt=ix at hsea hix y0 y1 y2
 have hname:=fun W=>name_any (qt ++ [nt]) hq (by simp) W
 simp only[List.getLast_concat] at hname
 obtain⟨s0,s1,s2,s3,s4,hP⟩:∃ s0 s1 s2 s3 s4,pathA (qt ++ [nt]) = #[.string s0,.string s1,.string s2,.string s3,.string s4]:=⟨_,_,_,_,_,rfl⟩
 obtain⟨r0,r1,r2,r3,r4,hP'⟩:∃ s0 s1 s2 s3 s4,pathA rf = #[.string s0,.string s1,.string s2,.string s3,.string s4]:=⟨_,_,_,_,_,rfl⟩
 unfold pathV at hname
 simp only[hP] at hname hy
 rw[hP,hP']
 generalize yieldsG objs g.fs e x=Y at hy ⊢
 simp only at y0 y1 y2
 generalize e.kind=ke at hy y1
 generalize e.id=ie at hy y2
 generalize x.kind=kx at hy ⊢
 generalize x.id=ixx at hy ⊢
 have HSEA:Hid _:=hsea
 have HY:Hid _:=hy
 clear h hsea hy hP hP' hF hok ha hk hp hs hS q1 q2 q3 hr1 hae hth
 go_enter Tryz.func141,Tryz.ntmps141
 go_wp2_with (first
  | (go_at_call 134;refine (hname _).mono ?_;rintro e w1 ⟨rfl,hb1⟩;have hz1:=three_size hb1;have k1:=three_old hb1 (w.heap.size+1);have k2:=three_old hb1 (w.heap.size+2);have b1:=three_below hb1)
  | (go_at_call 133;go_loud (refine (HSEA.out _ b1).mono ?_;rintro e w2 ⟨rfl,hb2⟩;have b2:=below_via b1 hb2;have k3:=fun o=>(bcell hb2).1 (w.heap.size+1) o (Nat.lt_of_succ_lt hz1);have k4:=fun o=>(bcell hb2).1 (w.heap.size+2) o hz1;have hz2:=Nat.lt_of_lt_of_le hz1 hb2.size;have hz3:w.heap.size+1<w2.heap.size:=Nat.lt_of_succ_lt hz2;have hg2:=Nat.lt_of_lt_of_le hgl b2.size;have x0:=((bcell b2).1 gb (ix*3) hgl).trans y0;have x1:=((bcell b2).1 gb (ix*3+1) hgl).trans y1;have x2:=((bcell b2).1 gb (ix*3+2) hgl).trans y2)))
 go_region_with (go_at_call 195;go_loud (refine (HY.out _ (below_drew b2)).mono ?_;rintro e w3 ⟨rfl,hd3⟩))
 all_goals
  go_wp2
  go_ret
  exact⟨rfl,hd3.via (below_drew b2)⟩
theorem room_free {tg:Tags}{w:World}{g:WG}{lim:Nat}{t d:LT}(h:WInv tg w s i p B objs g lim)(hF:Flat objs t g.ft){k:Nat}(hok:LTok objs k t){qf qt:List ByteArray}{nf nt:ByteArray}(hf:Good (qf ++ [nf]))(hq:Good (qt ++ [nt])){ks:Kids}(ha:t.at objs qt=some d)(hk:kids objs d=some ks)(hp:pickK ks nt=none){v:Value}(hs:Slc tg w i v (ks.map entOf))(nx:ByteArray)(kx ixx:Int):
  Calls Tryz.prog 141 #[.pointer (some ⟨B.bt,0,none⟩),.agg (pathA (qf ++ [nf])),.agg (pathA (qt ++ [nt])),.agg #[.string nx,.int .i64 kx,.int .i64 ixx],v] w fun en w'=>en=.returned (.int .i64 (if 16<=ks.length/\qf≠qt then 11 else 0))/\DidF s i p B objs tg w w' g lim:=by
 have hS:=h.st.sound
 obtain⟨q1,q2,q3⟩:=ok_kids hS (ok_at hS _ hok ha).2.1 hk
 have hr1:RisingK (ks.map entOf):=by rw[map_ent];exact mapK_rising _ q1
 have hl1:(ks.map entOf).length<=16:=by rw[List.length_map];exact q2
 have hth:thereK (ks.map entOf) nt=false:=by rw[there_ent,<- pick_there q1,hp];rfl
 have hsea:=fun W2 (hb:Below w.heap.size w W2)=>search_any (hs.below hb).1 nt hr1 hl1
 rw[hth] at hsea
 obtain⟨la,cp,rfl⟩:=hs.len
 rw[List.length_map] at hsea hl1 ⊢
 generalize idxK (ks.map entOf) nt=ix at hsea
 have hname:=fun W=>name_any (qt ++ [nt]) hq (by simp) W
 simp only[List.getLast_concat] at hname
 have hpt:=fun W=>parent_any (qt ++ [nt]) hq W
 have hpf:=fun W=>parent_any (qf ++ [nf]) hf W
 have hGq:Good qt:=by have:=hq.dropLast;rwa [List.dropLast_concat] at this
 have hGf:Good qf:=by have:=hf.dropLast;rwa [List.dropLast_concat] at this
 have heq:=fun W=>run_eqP hGf hGq W
 rw[List.dropLast_concat] at hpt hpf
 obtain⟨s0,s1,s2,s3,s4,hP⟩:∃ s0 s1 s2 s3 s4,pathA (qt ++ [nt]) = #[.string s0,.string s1,.string s2,.string s3,.string s4]:=⟨_,_,_,_,_,rfl⟩
 obtain⟨r0,r1,r2,r3,r4,hP'⟩:∃ s0 s1 s2 s3 s4,pathA (qf ++ [nf]) = #[.string s0,.string s1,.string s2,.string s3,.string s4]:=⟨_,_,_,_,_,rfl⟩
 obtain⟨t0,t1,t2,t3,t4,hP2⟩:∃ s0 s1 s2 s3 s4,pathA qt = #[.string s0,.string s1,.string s2,.string s3,.string s4]:=⟨_,_,_,_,_,rfl⟩
 obtain⟨f0,f1,f2,f3,f4,hP3⟩:∃ s0 s1 s2 s3 s4,pathA qf = #[.string s0,.string s1,.string s2,.string s3,.string s4]:=⟨_,_,_,_,_,rfl⟩
 have heq':∀ W,(Op.equalIn 10000 147 (pathV qf) (pathV qt)).run Tryz.prog W=.ok (decide (qf=qt)) W:=heq
 unfold pathV at hname hpt hpf heq'
 simp only[hP,hP',hP2,hP3] at hname hpt hpf heq'
 rw[hP,hP']
 have HSEA:Hid _:=hsea
 have H0:Hid _:=h
 clear h hsea hP hP' hP2 hP3 hF hok ha hk hp hs hS q1 q2 q3 hr1 hth heq
 by_cases h16:16<=ks.length
 ·have h16':(16:Int)<=(ks.length:Int):=by omega
  by_cases hqq:qf=qt
  ·rw[if_neg (fun h=>h.2 hqq)]
   rw[decide_eq_true hqq] at heq'
   clear h16
   go_enter Tryz.func141,Tryz.ntmps141
   go_wp2_with (first
    | (go_at_call 134;refine (hname _).mono ?_;rintro e w1 ⟨rfl,hb1⟩;have hz1:=three_size hb1;have k1:=three_old hb1 (w.heap.size+1);have k0:=three_old hb1 w.heap.size;have b1:=three_below hb1)
    | (go_at_call 133;go_loud (refine (HSEA.out _ b1).mono ?_;rintro e w2 ⟨rfl,hb2⟩;have b2:=below_via b1 hb2;have k3:=fun o=>(bcell hb2).1 (w.heap.size+1) o (Nat.lt_of_succ_lt hz1);have k4:=fun o=>(bcell hb2).1 w.heap.size o (Nat.lt_of_succ_lt (Nat.lt_of_succ_lt hz1));have hz3:w.heap.size+1<w2.heap.size:=Nat.lt_of_lt_of_le (Nat.lt_of_succ_lt hz1) hb2.size;have hz4:w.heap.size<w2.heap.size:=Nat.lt_of_succ_lt hz3;replace b2:=below_drew b2)))
   go_region_with (first
    | (go_at_call_of 132 (Value.agg #[.string s0,.string s1,.string s2,.string s3,.string s4]);refine (hpt _).mono ?_;rintro e w3 ⟨rfl,hb3⟩;replace b2:=below_via b2 hb3;have k5:=fun o=>(bcell hb3).1 (w.heap.size+1) o hz3;have k6:=fun o=>(bcell hb3).1 w.heap.size o hz4;replace hz3:=Nat.lt_of_lt_of_le hz3 hb3.size;replace hz4:=Nat.lt_of_lt_of_le hz4 hb3.size)
    | (go_at_call_of 132 (Value.agg #[.string r0,.string r1,.string r2,.string r3,.string r4]);refine (hpf _).mono ?_;rintro e w3 ⟨rfl,hb3⟩;replace b2:=below_via b2 hb3;have k5:=fun o=>(bcell hb3).1 (w.heap.size+1) o hz3;have k6:=fun o=>(bcell hb3).1 w.heap.size o hz4;replace hz3:=Nat.lt_of_lt_of_le hz3 hb3.size;replace hz4:=Nat.lt_of_lt_of_le hz4 hb3.size))
   all_goals
    go_wp2
    go_ret
    exact⟨rfl,didF_same H0.out b2⟩
  ·rw[if_pos ⟨h16,hqq⟩]
   rw[decide_eq_false hqq] at heq'
   clear h16
   go_enter Tryz.func141,Tryz.ntmps141
   go_wp2_with (first
    | (go_at_call 134;refine (hname _).mono ?_;rintro e w1 ⟨rfl,hb1⟩;have hz1:=three_size hb1;have k1:=three_old hb1 (w.heap.size+1);have k0:=three_old hb1 w.heap.size;have b1:=three_below hb1)
    | (go_at_call 133;go_loud (refine (HSEA.out _ b1).mono ?_;rintro e w2 ⟨rfl,hb2⟩;have b2:=below_via b1 hb2;have k3:=fun o=>(bcell hb2).1 (w.heap.size+1) o (Nat.lt_of_succ_lt hz1);have k4:=fun o=>(bcell hb2).1 w.heap.size o (Nat.lt_of_succ_lt (Nat.lt_of_succ_lt hz1));have hz3:w.heap.size+1<w2.heap.size:=Nat.lt_of_lt_of_le (Nat.lt_of_succ_lt hz1) hb2.size;have hz4:w.heap.size<w2.heap.size:=Nat.lt_of_succ_lt hz3;replace b2:=below_drew b2)))
   go_region_with (first
    | (go_at_call_of 132 (Value.agg #[.string s0,.string s1,.string s2,.string s3,.string s4]);refine (hpt _).mono ?_;rintro e w3 ⟨rfl,hb3⟩;replace b2:=below_via b2 hb3;have k5:=fun o=>(bcell hb3).1 (w.heap.size+1) o hz3;have k6:=fun o=>(bcell hb3).1 w.heap.size o hz4;replace hz3:=Nat.lt_of_lt_of_le hz3 hb3.size;replace hz4:=Nat.lt_of_lt_of_le hz4 hb3.size)
    | (go_at_call_of 132 (Value.agg #[.string r0,.string r1,.string r2,.string r3,.string r4]);refine (hpf _).mono ?_;rintro e w3 ⟨rfl,hb3⟩;replace b2:=below_via b2 hb3;have k5:=fun o=>(bcell hb3).1 (w.heap.size+1) o hz3;have k6:=fun o=>(bcell hb3).1 w.heap.size o hz4;replace hz3:=Nat.lt_of_lt_of_le hz3 hb3.size;replace hz4:=Nat.lt_of_lt_of_le hz4 hb3.size))
   all_goals
    go_wp2
    go_ret
    exact⟨rfl,didF_same H0.out b2⟩
 ·have h16':decide ((16:Int)<=(ks.length:Int))=false:=decide_eq_false (by omega)
  rw[if_neg (fun h=>h16 h.1)]
  clear heq'
  go_enter Tryz.func141,Tryz.ntmps141
  go_wp2_with (first
   | (go_at_call 134;refine (hname _).mono ?_;rintro e w1 ⟨rfl,hb1⟩;have hz1:=three_size hb1;have k1:=three_old hb1 (w.heap.size+1);have b1:=three_below hb1)
   | (go_at_call 133;go_loud (refine (HSEA.out _ b1).mono ?_;rintro e w2 ⟨rfl,hb2⟩;have b2:=below_via b1 hb2)))
  go_region
  all_goals
   go_wp2
   go_ret
   exact⟨rfl,didF_same H0.out (below_drew b2)⟩
end
theorem size_del {D:DataW Value}{kl:Lit}(h:Maps.has D kl=true):Maps.size (D.del kl)<Maps.size D:=by
 cases D with
 | map es=>
  rw[Maps.has_eq,List.any_eq_true] at h
  obtain⟨x,hx,hs⟩:=h
  rw[DataW.del_eq]
  show (es.filter _).length<es.length
  refine List.length_filter_lt_length_iff_exists.2 ⟨x,hx,?_⟩
  unfold ChangeMaps.notKey
  rw[hs];simp
 | _=>cases h
theorem owns_exact {w:World}{k:TypeId}{b n m:Nat}{D:DataW Value}(h:w.ownsMap Tryz.prog k heldElem b n D)(hm:Maps.size D<=m):w.ownsMap Tryz.prog k heldElem b m D:=by
 obtain⟨es,clock,hb,F,hs,rfl⟩:=h
 exact⟨es,clock,hb,F,by simpa [Maps.size,length_sorted] using hm,rfl⟩
theorem VMap.drop1 {w:World}{k:TypeId}{b n:Nat}{M:Lit->Option Value}(h:VMap w k b (n+1) M)(K:Maps.Keyed Tryz.prog k){t e:TypeId}(ht:Tryz.prog.underlying t=some (.map k e))
  {key:Value}{kl:Lit}(hkey:keyOf Tryz.prog k key=some kl)(hM1:(M kl).isSome=true)(ty:TypeId):
  ∃ w',(Builtin.delete_ #[t,k] ty #[.map (some b),key]).run Tryz.prog w=.ok (.tuple #[]) w'/\VMap w' k b n (mset M kl none)/\w.grownBy w' (some b)/\w'.heap.size=w.heap.size:=by
 obtain⟨D,hD,hM⟩:=h
 obtain⟨w',hrun,hD',hg⟩:=hD.drop K ht hkey ty
 have h1:=size_del (D:=D) (kl:=kl) (by rw[vmap_has (hM kl (K.key hkey))];exact hM1)
 have h2:=hD.size_le
 refine⟨w',hrun,⟨_,owns_exact hD' (by omega),vmap_del hM kl⟩,hg.grown,?_⟩
 obtain⟨es,clock,es',clock',hb,rfl⟩:=hg
 simp[ChangeMaps.setBlock]
theorem PMap.drop1 {w:World}{b n:Nat}{f:List ByteArray->Option Value}(h:PMap w b (n+1) f){t e:TypeId}(ht:Tryz.prog.underlying t=some (.map 147 e)){q:List ByteArray}(hq:Good q)(hf:(f q).isSome=true)(ty:TypeId):
  ∃ w',(Builtin.delete_ #[t,147] ty #[.map (some b),.agg (pathA q)]).run Tryz.prog w=.ok (.tuple #[]) w'/\PMap w' b n (upd f q none)/\w.grownBy w' (some b)/\w'.heap.size=w.heap.size:=by
 obtain⟨M,hV,h1,h2⟩:=h
 obtain⟨w',hrun,hV',hg,hs⟩:=hV.drop1 lawP ht (keyVP hq) (by rw[h1 q hq];exact hf) ty
 refine⟨w',hrun,⟨_,hV',fun x hx=>?_,fun kl hk hne=>?_⟩,hg,hs⟩
 ·by_cases e:x=q
  ·subst e;rw[mset_same,upd_same]
  ·rw[mset_other (fun e'=>e (keyP_inj hx hq e')),upd_other e,h1 x hx]
 ·by_cases e:kl=keyP Tryz.prog q
  ·rw[e,mset_same] at hne;exact absurd rfl hne
  ·rw[mset_other e] at hne;exact h2 kl hk hne
theorem PMap.look {w:World}{b n:Nat}{f:List ByteArray->Option Value}(h:PMap w b n f){t e:TypeId}(ht:Tryz.prog.underlying t=some (.map 147 e)){z:Value}(hz:(zeroValue e).run Tryz.prog w=.ok z w){q:List ByteArray}(hq:Good q):
  (Instr.lookup t (.map (some b)) (.agg (pathA q)) false).run Tryz.prog w=.ok ((f q).getD z) w:=by
 obtain⟨M,hV,h1,_⟩:=h
 have:=hV.look lawP ht hz (keyVP hq)
 rw[h1 q hq] at this
 exact this
section
open Classical
variable {β:Type}
def movedP (src dst p:List ByteArray):List ByteArray:=dst++p.drop src.length
noncomputable def carried (f:List ByteArray->Option β)(src dst:List ByteArray)(L:List (List ByteArray)):List ByteArray->Option β:=fun x=>
 if dst <+: x/\src++x.drop dst.length ∈ L then f (src++x.drop dst.length) else if x ∈ L then none else f x
theorem carried_nil (f:List ByteArray->Option β)(src dst:List ByteArray)(x:List ByteArray):carried f src dst [] x=f x:=by
 unfold carried;simp
theorem pre_drop {src p:List ByteArray}(h:src <+: p):src++p.drop src.length=p:=by
 obtain⟨r,rfl⟩:=h
 rw[List.drop_left]
theorem carried_step {f:List ByteArray->Option β}{src dst:List ByteArray}{L:List (List ByteArray)}{p:List ByteArray}(hdst:∀ x,dst <+: x->f x=none)(hL:∀ x ∈ L,src <+: x/\f x≠none)(hp:src <+: p)(hf:f p≠none)(hn:p ∉ L):
  carried f src dst L p=f p/\∀ x,upd (upd (carried f src dst L) (movedP src dst p) (f p)) p none x=carried f src dst (L ++ [p]) x:=by
 have hdp:¬ dst <+: p:=fun h=>hf (hdst p h)
 refine⟨by unfold carried;rw[if_neg (fun h=>hdp h.1),if_neg hn],fun x=>?_⟩
 by_cases hx:x=p
 ·subst hx
  rw[upd_same]
  unfold carried
  rw[if_neg (fun h=>hdp h.1),if_pos (by simp)]
 ·rw[upd_other hx]
  by_cases hm:x=movedP src dst p
  ·subst hm
   rw[upd_same]
   unfold carried movedP
   rw[List.drop_left,pre_drop hp,if_pos ⟨List.prefix_append _ _,by simp⟩]
  ·rw[upd_other hm]
   unfold carried
   by_cases hd:dst <+: x
   ·have hne:src++x.drop dst.length≠p:=fun e=>hm (by
     unfold movedP
     rw[<- e,List.drop_left,pre_drop hd])
    have e1:(dst <+: x/\src++x.drop dst.length ∈ L)↔(dst <+: x/\src++x.drop dst.length ∈ L ++ [p]):=by simp[hne]
    have e2:(x ∈ L)↔(x ∈ L ++ [p]):=by simp[hx]
    simp only[e1,e2]
   ·have e2:(x ∈ L)↔(x ∈ L ++ [p]):=by simp[hx]
    simp only[hd,false_and,if_false,e2]
theorem carried_all {f:List ByteArray->Option β}{src dst:List ByteArray}{L:List (List ByteArray)}(hdst:∀ x,dst <+: x->f x=none)(hL:∀ x,x ∈ L↔(src <+: x/\f x≠none))(x:List ByteArray):carried f src dst L x=carryG f src dst x:=by
 unfold carried carryG
 by_cases hd:dst <+: x
 ·rw[if_pos hd]
  by_cases hm:src++x.drop dst.length ∈ L
  ·rw[if_pos ⟨hd,hm⟩]
  ·rw[if_neg (fun h=>hm h.2)]
   have h0:f (src++x.drop dst.length)=none:=by
    cases he:f (src++x.drop dst.length) with
    | none=>rfl
    | some y=>exact absurd ((hL _).2 ⟨List.prefix_append _ _,by rw[he];simp⟩) hm
   rw[h0]
   split
   ·rfl
   ·exact hdst x hd
 ·rw[if_neg hd,if_neg (fun h=>hd h.1)]
  by_cases hs:src <+: x
  ·rw[if_pos hs]
   by_cases hm:x ∈ L
   ·rw[if_pos hm]
   ·rw[if_neg hm]
    cases he:f x with
    | none=>rfl
    | some y=>exact absurd ((hL _).2 ⟨hs,by rw[he];simp⟩) hm
  ·rw[if_neg hs,if_neg (fun h=>hs ((hL _).1 h).1)]
end
def Gathered (f:List ByteArray->Option Value)(src:List ByteArray)(left:Lit->Bool)(L:List (List ByteArray)):Prop:=
 L.Nodup/\∀ x,x ∈ L↔(Good x/\src <+: x/\f x≠none/\left (keyP Tryz.prog x)=false)
theorem gathered_skip {f:List ByteArray->Option Value}{src:List ByteArray}{left:Lit->Bool}{L:List (List ByteArray)}(h:Gathered f src left L){q:List ByteArray}(hq:Good q)(hs:¬ src <+: q):Gathered f src (fun z=>left z && !z.sameKey (keyP Tryz.prog q)) L:=by
 refine⟨h.1,fun x=>?_⟩
 rw[h.2 x]
 refine⟨fun⟨a,b,c,d⟩=>⟨a,b,c,by simp only[d,Bool.false_and]⟩,fun⟨a,b,c,d⟩=>⟨a,b,c,?_⟩⟩
 have hne:keyP Tryz.prog x≠keyP Tryz.prog q:=fun e=>hs (by rw[<- keyP_inj a hq e];exact b)
 simp only[Maps.sameKey_ne hne,Bool.not_false,Bool.and_true] at d
 exact d
theorem gathered_add {f:List ByteArray->Option Value}{src:List ByteArray}{left:Lit->Bool}{L:List (List ByteArray)}(h:Gathered f src left L){q:List ByteArray}(hq:Good q)(hs:src <+: q)(hf:f q≠none)(hl:left (keyP Tryz.prog q)=true):Gathered f src (fun z=>left z && !z.sameKey (keyP Tryz.prog q)) (L ++ [q]):=by
 refine⟨List.nodup_append.2 ⟨h.1,by simp,fun a ha b hb=>?_⟩,fun x=>?_⟩
 ·simp only[List.mem_singleton] at hb
  subst hb
  rintro rfl
  have:=((h.2 a).1 ha).2.2.2
  rw[hl] at this
  cases this
 ·simp only[List.mem_append,List.mem_singleton]
  by_cases e:x=q
  ·subst e
   refine⟨fun _=>⟨hq,hs,hf,?_⟩,fun _=>.inr rfl⟩
   have hk:=WideAt.sameKey_self (keyP_is hq)
   generalize keyP Tryz.prog x=kx at hk hl
   show (left kx && !kx.sameKey kx)=false
   rw[hk,Bool.not_true,Bool.and_false]
  ·rw[h.2 x]
   refine⟨fun hh=>?_,fun⟨a,b,c,d⟩=>.inl ⟨a,b,c,?_⟩⟩
   ·rcases hh with ⟨a,b,c,d⟩ | hh
    ·exact⟨a,b,c,by simp only[d,Bool.false_and]⟩
    ·exact absurd hh e
   ·have hne:keyP Tryz.prog x≠keyP Tryz.prog q:=fun e'=>e (keyP_inj a hq e')
    simp only[Maps.sameKey_ne hne,Bool.not_false,Bool.and_true] at d
    exact d
end Go.Proofs.YtlgidcmmgohagaaGreat
