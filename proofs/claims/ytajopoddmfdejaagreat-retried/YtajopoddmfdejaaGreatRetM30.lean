/-
  What is proved here: Stat of a workspace at a path of one name: a held file's size, or that nothing stands there. Stat of a workspace, walked over whatever the tree answers. Stat of a workspace at a path of one ..
-/
import Derived.Test.YtajopoddmfdejaaGreatRetM29
import Derived.Test.YtajopoddmfdejaaGreatRetM28
namespace Go.Proofs.YtajopoddmfdejaaGreat
open Go.RowKit Go.Sort Go.Shelf
set_option linter.unusedVariables false
set_option maxRecDepth 100000
set_option maxHeartbeats 16000000
section
variable {s i p:Nat}{B:WB}{objs:List Ob}
theorem own_of {ks:Kids}{ft:FT}(hF:Flat objs (.own ks) ft){n:ByteArray}{f:Nat}(h:pickK ks n=some (.held f)):ft.of [n]=some f:=by
 rw[hF.of,at_cons]
 show ofOf ((pickK ks n).bind _)=_
 rw[h,Option.bind_some,at_nil];rfl
theorem own_findF {ks:Kids}{ft:FT}{fs:FS}(hS:Sound objs)(hF:Flat objs (.own ks) ft)(hok:LTok objs 5 (.own ks)){n:ByteArray}{f:Nat}(h:pickK ks n=some (.held f)):findF objs ft fs [n]=(fs,0,n,1,0):=by
 obtain⟨f1,f2,f3⟩:=flat_find hS hF hok fs [n]
 rw[own_find_some h] at f1 f2 f3
 obtain⟨f4,_⟩:=f3 rfl
 generalize findF objs ft fs [n]=a at f1 f2 f4
 obtain⟨a1,a2,a3⟩:=a
 simp only at f1 f2 f4
 subst f1;subst f2;subst f4
 rfl
theorem stat0_below (w:World)(q:List ByteArray):Below w.heap.size w ((w.alloc (.cells (pathA q) 104)).alloc (.cells #[.int .i64 0,.int .i64 0] 60)):=((Below.refl _ _).alloc (Nat.le_refl _) _).alloc (by simp) _
theorem stat0_info (w:World)(q:List ByteArray):InfoAt ((w.alloc (.cells (pathA q) 104)).alloc (.cells #[.int .i64 0,.int .i64 0] 60)) (w.heap.size+1):=by
 have:=heap_alloc_new (w.alloc (.cells (pathA q) 104)) (.cells #[.int .i64 0,.int .i64 0] 60)
 simpa [InfoAt] using this
theorem tstat_held {tg:Tags}{w:World}{g:WG}{lim f:Nat}{ks:Kids}{d:ByteArray}(h:WInv tg w s i p B objs g lim)(hl:lim+100<1099511627776)(hF:Flat objs (.own ks) g.ft)(hok:LTok objs 5 (.own ks))(hfl:FlOk objs g.fl){n:ByteArray}(hn:validB n=true)(hpk:pickK ks n=some (.held f)){x:Int×ByteArray}(hx:g.fl f=some x)(hbz:bytesG objs g.fl g.fs f=(g.fs,0,d)):
  Calls Tryz.prog 54 #[.pointer (some ⟨B.bt,0,none⟩),.agg (pathA [n])] w fun e w'=>e=.returned (.tuple #[.agg #[.int .i64 1,.int .i64 (d.size:Int)],.int .i64 0])/\DidF s i p B objs tg w w' g (lim+10):=by
 have hi:=h.two
 have hb0:=stat0_below w [n]
 have hI0:=stat0_info w [n]
 have hfr:tg (w.heap.size+1)=(0,0):=h.st.fresh _ (by omega)
 have hfr0:tg w.heap.size=(0,0):=h.st.fresh _ (by omega)
 have hfind:=find_all (s:=s) (i:=i) (p:=p) (B:=B) (objs:=objs) [n] tg _ g lim (h.below hb0) (by omega) (good_one hn)
 rw[own_findF h.st.sound hF hok hpk] at hfind
 have hof:=own_of hF hpk
 have hw:=tstat_ok B.bt _ _ _ _ _ n (d.size:Int) (fun w3=>∃ tg3,Moves (Fetches i) tg tg3 ((w.alloc (.cells (pathA [n]) 104)).alloc (.cells #[.int .i64 0,.int .i64 0] 60)) w3/\WInv tg3 w3 s i p B objs g (lim+5)/\tg3 (w.heap.size+1)=(0,0)) (fun w3=>DidF s i p B objs tg ((w.alloc (.cells (pathA [n]) 104)).alloc (.cells #[.int .i64 0,.int .i64 0] 60)) w3 g (lim+10)) w (hfind.mono ?_) ?_
 ·refine hw.mono ?_
  rintro e w' ⟨he,w3,hd,hg⟩
  exact⟨he,didF_end h hb0 (by simp) hd hg⟩
 ·rintro e w' ⟨he,tg',m,hW⟩
  obtain⟨hb1,ht1⟩:=fresh_block (not_fetch0 hi) hfr m hI0
  exact⟨he,hb1,fun o=>World.cell?_of_block (a:=⟨w.heap.size,o,none⟩) (m.block w.heap.size (by simp;omega) (by rw[hfr0];exact not_fetch0 hi)),tg',m,hW.mono (by simp),ht1⟩
 ·rintro w3 ⟨tg3,m3,hW3,ht3⟩ hI3
  have hb3:Below w3.heap.size w3 (w3.alloc (.cells #[.string n,.int .i64 1,.int .i64 0] 76)):=(Below.refl _ _).alloc (Nat.le_refl _) _
  refine (tsize_own (nm:=n) (hW3.below hb3) (by omega) hfl (good_one hn) hof hx hbz).mono ?_
  rintro e w4 ⟨he,tg4,m4,hW4⟩
  have hI3':InfoAt (w3.alloc (.cells #[.string n,.int .i64 1,.int .i64 0] 76)) (w.heap.size+1):=by
   unfold InfoAt at hI3 ⊢
   rw[Below.heap_alloc _ _ _ (Array.getElem?_eq_some_iff.1 hI3).1];exact hI3
  refine⟨he,(fresh_block (not_fetch0 hi) ht3 m4 hI3').1,fun o=>World.cell?_of_block (a:=⟨w3.heap.size,o,none⟩) (m4.block w3.heap.size (by simp) (by rw[hW3.st.fresh _ (Nat.le_refl _)];exact not_fetch0 hi)),Nat.lt_of_lt_of_le (by simp) m4.size,tg4,m3.trans (call_moves hb3 m4),hW4.mono (by omega)⟩
end
theorem stat_ws (wb bt:Nat)(l:List ByteArray)(hl:Good l)(k sz er:Int)(R:World->Prop)(w:World)(hwb:wb<w.heap.size)(c0:w.cell? ⟨wb,0,none⟩=some (.pointer (some ⟨bt,0,none⟩)))
  (hc:∀ W,Below w.heap.size w W->InfoAt W w.heap.size->Calls Tryz.prog 54 #[.pointer (some ⟨bt,0,none⟩),.agg (pathA l)] W fun e w'=>e=.returned (.tuple #[.agg #[.int .i64 k,.int .i64 sz],.int .i64 er])/\InfoAt w' w.heap.size/\R w'):
  Calls Tryz.prog 28 #[.pointer (some ⟨wb,0,none⟩),.string (joinB l)] w fun e w'=>e=.returned (.tuple #[.agg #[.int .i64 k,.int .i64 sz],.int .i64 er])/\∃ w2,R w2/\w2.grownBy w' (some w.heap.size):=by
 have hpa:=fun W=>parse_any l hl W
 obtain⟨s0,s1,s2,s3,s4,hP⟩:∃ s0 s1 s2 s3 s4,pathA l = #[.string s0,.string s1,.string s2,.string s3,.string s4]:=⟨_,_,_,_,_,rfl⟩
 unfold pathV at hpa
 simp only[hP] at hpa hc
 have hb0:Below w.heap.size w (w.alloc (.cells #[.int .i64 0,.int .i64 0] 60)):=(Below.refl _ _).alloc (Nat.le_refl _) _
 have hI0:InfoAt (w.alloc (.cells #[.int .i64 0,.int .i64 0] 60)) w.heap.size:=heap_alloc_new _ _
 have hwb0:wb<(w.alloc (.cells #[.int .i64 0,.int .i64 0] 60)).heap.size:=by simp;omega
 have c00:=((bcell hb0).1 wb 0 hwb).trans c0
 have HC:Hid _:=hc
 have HB0:Hid _:=hb0
 have HI0:Hid _:=hI0
 clear hc hP hl hb0 hI0
 generalize joinB l=tx at hpa ⊢
 go_enter Tryz.func28,Tryz.ntmps28
 go_wp2_with (go_at_call 46;refine Calls.mono (hpa _) ?_;rintro e w1 ⟨rfl,hb1⟩;have d0:=((bcell hb1).1 wb 0 hwb0).trans c00;have hw1:=Nat.lt_of_lt_of_le hwb0 hb1.size)
 have hI1:InfoAt (w1.alloc (.cells #[.string s0,.string s1,.string s2,.string s3,.string s4] 104)).drew w.heap.size:=by
  have h1:w1.heap[w.heap.size]? = _:=(hb1.block w.heap.size (by simp)).trans HI0.out
  show (w1.alloc _).heap[w.heap.size]? = _
  rw[Below.heap_alloc _ _ _ (Array.getElem?_eq_some_iff.1 h1).1];exact h1
 have hcc:=HC.out (w1.alloc (.cells #[.string s0,.string s1,.string s2,.string s3,.string s4] 104)).drew (below_via HB0.out (below_drew (hb1.alloc hb1.size _))) hI1
 have HCC:Hid _:=hcc
 clear hcc HC hI1
 go_region_with (go_at_call 54;refine Calls.mono HCC.out ?_;rintro e w2 ⟨rfl,hI2,hR⟩;obtain⟨hl2,e0,e1,f2⟩:=hI2.cells;clear hI2)
 all_goals
  go_wp2
  refine bodyPost_ret (v:=.tuple #[.agg #[.int .i64 k,.int .i64 sz],.int .i64 er]) (by simp[results,Tryz.results28,go_sem,e0,e1]) rfl ?_
  exact⟨rfl,w2,hR,grown_set (grown_set (grown_refl _ _))⟩
section
variable {s i p:Nat}{B:WB}{objs:List Ob}
theorem did_grown {tg tg':Tags}{w w2 w':World}{g:WG}{lim:Nat}(hi:2<=i)(m:Moves (Fetches i) tg tg' w w2)(hW:WInv tg' w2 s i p B objs g lim)(ht:tg' w.heap.size=(0,0))(hg:w2.grownBy w' (some w.heap.size)):DidF s i p B objs tg w w' g lim:=by
 have hW':=hW.own hg ht
 obtain⟨g1,g2,g3,g4,g5⟩:=hg
 exact⟨tg',⟨g1.trans m.os,g2.trans m.tape,g3.trans m.output,Nat.le_trans m.size g4,m.tags,fun k hk hn=>(g5 k (Nat.lt_of_lt_of_le hk m.size) (fun e=>by injection e with e;omega)).trans (m.block k hk hn),fun hf=>hW'.st.fresh⟩,hW'⟩
theorem hstat {tg:Tags}{w:World}{g:WG}{lim:Nat}{n:ByteArray}(h:WInv tg w s i p B objs g lim)(hn:validB n=true){k sz er:Int}
  (hc:∀ W,Below w.heap.size w W->Calls Tryz.prog 54 #[.pointer (some ⟨B.bt,0,none⟩),.agg (pathA [n])] W fun e w'=>e=.returned (.tuple #[.agg #[.int .i64 k,.int .i64 sz],.int .i64 er])/\DidF s i p B objs tg W w' g (lim+10)):
  Calls Tryz.prog 28 #[.pointer (some ⟨B.wb,0,none⟩),.string n] w fun e w'=>e=.returned (.tuple #[.agg #[.int .i64 k,.int .i64 sz],.int .i64 er])/\DidF s i p B objs tg w w' g (lim+10):=by
 obtain⟨htab,c0⟩:=ws_tab h
 have hi:=h.two
 have hfr:tg w.heap.size=(0,0):=h.st.fresh _ (Nat.le_refl _)
 have hw:=stat_ws B.wb B.bt [n] (good_one hn) k sz er (fun w2=>∃ tg',Moves (Fetches i) tg tg' w w2/\WInv tg' w2 s i p B objs g (lim+10)/\tg' w.heap.size=(0,0)) w htab.1 c0 (fun W hb hI=>(hc W hb).mono ?_)
 ·rw[joinB_one] at hw
  refine hw.mono ?_
  rintro e w' ⟨he,w2,⟨tg',m,hW,ht⟩,hg⟩
  exact⟨he,did_grown hi m hW ht hg⟩
 ·rintro e w' ⟨he,tg',m,hW⟩
  obtain⟨h1,h2⟩:=fresh_block (not_fetch0 hi) hfr m hI
  exact⟨he,h1,tg',call_moves hb m,hW,h2⟩
theorem hstat_held {tg:Tags}{w:World}{g:WG}{lim f:Nat}{ks:Kids}{d:ByteArray}(h:WInv tg w s i p B objs g lim)(hl:lim+100<1099511627776)(hF:Flat objs (.own ks) g.ft)(hok:LTok objs 5 (.own ks))(hfl:FlOk objs g.fl){n:ByteArray}(hn:validB n=true)(hpk:pickK ks n=some (.held f)){x:Int×ByteArray}(hx:g.fl f=some x)(hbz:bytesG objs g.fl g.fs f=(g.fs,0,d)):
  Calls Tryz.prog 28 #[.pointer (some ⟨B.wb,0,none⟩),.string n] w fun e w'=>e=.returned (.tuple #[.agg #[.int .i64 1,.int .i64 (d.size:Int)],.int .i64 0])/\DidF s i p B objs tg w w' g (lim+10):=
 hstat h hn (fun W hb=>tstat_held (h.below hb) hl hF hok hfl hn hpk hx hbz)
end
theorem told_walk (wb k:Nat)(n d:ByteArray)(R1 R2 R3:World->Prop)(R:World->Prop)(w:World)
  (ho:Calls Tryz.prog 50 #[.pointer (some ⟨wb,0,none⟩),.string n,.int .i64 1] w fun e w'=>e=.returned (.tuple #[.int .i64 (k:Int),.int .i64 0])/\R1 w')
  (hr:∀ w1,R1 w1->Calls Tryz.prog 63 #[.pointer (some ⟨wb,0,none⟩),.int .i64 (k:Int),.int .i64 1000] w1 fun e w'=>e=.returned (.tuple #[.string d,.int .i64 0])/\R2 w')
  (hc:∀ w2,R2 w2->Calls Tryz.prog 52 #[.pointer (some ⟨wb,0,none⟩),.int .i64 (k:Int)] w2 fun e w'=>e=.returned (.int .i64 0)/\R3 w')
  (hs:∀ w3,R3 w3->Calls Tryz.prog 28 #[.pointer (some ⟨wb,0,none⟩),.string n] w3 fun e w'=>e=.returned (.tuple #[.agg #[.int .i64 1,.int .i64 (d.size:Int)],.int .i64 0])/\R w'):
  Calls Tryz.prog 41 #[.pointer (some ⟨wb,0,none⟩),.string n] w fun e w'=>e=.returned (.tuple #[.string d,.bool true])/\∃ w4,R w4/\Below w4.heap.size w4 w':=by
 have HO:Hid _:=ho
 have HR:Hid _:=hr
 have HC:Hid _:=hc
 have HS:Hid _:=hs
 clear ho hr hc hs
 go_enter Tryz.func41,Tryz.ntmps41
 go_wp2_with fail
 refine Calls.mono HO.out ?_
 rintro e w1 ⟨rfl,h1⟩
 have H1:Hid _:=HR.out w1 h1
 clear HO HR h1
 go_wp2_with fail
 refine Calls.mono H1.out ?_
 rintro e w2 ⟨rfl,h2⟩
 have H2:Hid _:=HC.out w2 h2
 clear H1 HC h2
 go_wp2_with fail
 refine Calls.mono H2.out ?_
 rintro e w3 ⟨rfl,h3⟩
 have H3:Hid _:=HS.out w3 h3
 clear H2 HS h3
 go_wp2_with fail
 refine Calls.mono H3.out ?_
 rintro e w4 ⟨rfl,h4⟩
 have H4:Hid _:=h4
 clear H3 h4
 go_wp2
 go_region
 all_goals
  go_wp2
  go_ret2
  exact⟨rfl,w4,H4.out,below_drew ((Below.refl _ _).alloc (Nat.le_refl _) _)⟩
structure QInv (tg:Tags)(w:World)(s i p:Nat)(B:WB)(objs:List Ob)(g:WG)(lim:Nat)(t:LT):Prop where
 inv:WInv tg w s i p B objs g lim
 flat:Flat objs t g.ft
 ok:LTok objs 5 t
 fl:FlOk objs g.fl
 op:∀ k,g.op k=none
def QTo (s i p:Nat)(B:WB)(objs:List Ob)(tg:Tags)(w w':World)(lim:Nat)(R:WG->LT->Prop):Prop:=∃ tg' g' t',Moves (Mine i) tg tg' w w'/\QInv tg' w' s i p B objs g' lim t'/\R g' t'
def TreeTo (g:WG)(fs':FS)(tn:LT)(g':WG)(t':LT):Prop:=t'=tn/\g'.fs=fs'/\g'.fl=g.fl/\g'.base=g.base
section
variable {s i p:Nat}{B:WB}{objs:List Ob}
theorem QInv.ws {tg:Tags}{w:World}{g:WG}{lim:Nat}{t:LT}(h:QInv tg w s i p B objs g lim t):B.wb<w.heap.size/\w.cell? ⟨B.wb,0,none⟩=some (.pointer (some ⟨B.bt,0,none⟩))/\TabAt w B.wb (fun _=>none):=by
 obtain⟨h1,h2⟩:=h.inv.wp.opens.tab
 refine⟨h1.1,h2,h1.1,fun k hk=>?_,h1.2.2⟩
 rw[h1.2.1 k hk]
 show some (Value.pointer (Option.map _ (Option.map _ (g.op k))))=_
 rw[h.op k];rfl
theorem QInv.mono {tg:Tags}{w:World}{g:WG}{lim lim':Nat}{t:LT}(h:QInv tg w s i p B objs g lim t)(hl:lim<=lim'):QInv tg w s i p B objs g lim' t:=⟨h.inv.mono hl,h.flat,h.ok,h.fl,h.op⟩
theorem QInv.below {tg:Tags}{w w':World}{g:WG}{lim:Nat}{t:LT}(h:QInv tg w s i p B objs g lim t)(hb:Below w.heap.size w w'):QInv tg w' s i p B objs g lim t:=⟨h.inv.below hb,h.flat,h.ok,h.fl,h.op⟩
theorem QTo.of {tg:Tags}{w w':World}{g:WG}{lim lim':Nat}{t:LT}(h:QInv tg w s i p B objs g lim t){fs':FS}{t':LT}(hL:Left s i p B objs tg w w' g fs' t' lim'):QTo s i p B objs tg w w' lim' (TreeTo g fs' t'):=by
 obtain⟨tg',ft',m,hW,hF,hO⟩:=hL
 exact⟨tg',_,t',m,⟨hW,hF,hO,h.fl,h.op⟩,rfl,rfl,rfl,rfl⟩
theorem QTo.mono {tg:Tags}{w w':World}{lim lim':Nat}{R:WG->LT->Prop}(h:QTo s i p B objs tg w w' lim R)(hl:lim<=lim'):QTo s i p B objs tg w w' lim' R:=by
 obtain⟨tg',g',t',m,hK,hR⟩:=h
 exact⟨tg',g',t',m,hK.mono hl,hR⟩
theorem QTo.imp {tg:Tags}{w w':World}{lim:Nat}{R R':WG->LT->Prop}(h:QTo s i p B objs tg w w' lim R)(hR:∀ g t,R g t->R' g t):QTo s i p B objs tg w w' lim R':=by
 obtain⟨tg',g',t',m,hK,hr⟩:=h
 exact⟨tg',g',t',m,hK,hR _ _ hr⟩
theorem QTo.via {tg:Tags}{w W w':World}{lim:Nat}{R:WG->LT->Prop}(hb:Below w.heap.size w W)(h:QTo s i p B objs tg W w' lim R):QTo s i p B objs tg w w' lim R:=by
 obtain⟨tg',g',t',m,hK,hr⟩:=h
 exact⟨tg',g',t',call_moves hb m,hK,hr⟩
theorem lleft_via {tg:Tags}{w W w':World}{g:WG}{fs':FS}{t':LT}{lim:Nat}(hb:Below w.heap.size w W)(h:Left s i p B objs tg W w' g fs' t' lim):Left s i p B objs tg w w' g fs' t' lim:=by
 obtain⟨tg',ft',m,hW,hF,hO⟩:=h
 exact⟨tg',ft',call_moves hb m,hW,hF,hO⟩
theorem qmkdir {tg:Tags}{w:World}{g:WG}{lim:Nat}{t:LT}(h:QInv tg w s i p B objs g lim t)(hl:lim+1000<1099511627776){n:ByteArray}{r:List ByteArray}(hL:Good (r.reverse ++ [n])):
  Calls Tryz.prog 23 #[.pointer (some ⟨B.wb,0,none⟩),.string (joinB (r.reverse ++ [n]))] w fun e w'=>e=.returned (.int .i64 (mkdirR objs t g.fs (n :: r)).2.1)/\QTo s i p B objs tg w w' (lim+400) (TreeTo g (mkdirR objs t g.fs (n :: r)).1 (mkdirR objs t g.fs (n :: r)).2.2):=by
 obtain⟨hwb,c0,_⟩:=h.ws
 refine (mkdir_ws B.wb B.bt _ hL _ _ w hwb c0 (fun W hb=>(mkdir_walk (h.inv.below hb) (by omega) h.flat h.ok hL).mono fun e w' ⟨h1,h2⟩=>⟨h1,lleft_via hb h2⟩)).mono ?_
 rintro e w' ⟨h1,h2⟩
 exact⟨h1,(QTo.of h h2).mono (by omega)⟩
theorem qremove {tg:Tags}{w:World}{g:WG}{lim:Nat}{t:LT}(h:QInv tg w s i p B objs g lim t)(hl:lim+1000<1099511627776){n:ByteArray}{r:List ByteArray}(hL:Good (r.reverse ++ [n])):
  Calls Tryz.prog 25 #[.pointer (some ⟨B.wb,0,none⟩),.string (joinB (r.reverse ++ [n]))] w fun e w'=>e=.returned (.int .i64 (removeR objs t g.fs (n :: r)).2.1)/\QTo s i p B objs tg w w' (lim+400) (TreeTo g (removeR objs t g.fs (n :: r)).1 (removeR objs t g.fs (n :: r)).2.2):=by
 obtain⟨hwb,c0,_⟩:=h.ws
 refine (remove_ws B.wb B.bt _ hL _ _ w hwb c0 (fun W hb=>(remove_walk (h.inv.below hb) (by omega) h.flat h.ok hL).mono fun e w' ⟨h1,h2⟩=>⟨h1,lleft_via hb h2⟩)).mono ?_
 rintro e w' ⟨h1,h2⟩
 exact⟨h1,(QTo.of h h2).mono (by omega)⟩
theorem qrename {tg:Tags}{w:World}{g:WG}{lim:Nat}{t:LT}(h:QInv tg w s i p B objs g lim t)(hl:lim+1000<1099511627776){n n':ByteArray}{r r':List ByteArray}(hL:Good (r.reverse ++ [n]))(hM:Good (r'.reverse ++ [n'])):
  Calls Tryz.prog 24 #[.pointer (some ⟨B.wb,0,none⟩),.string (joinB (r.reverse ++ [n])),.string (joinB (r'.reverse ++ [n']))] w fun e w'=>e=.returned (.int .i64 (renameR objs t g.fs (n :: r) (n' :: r')).2.1)/\QTo s i p B objs tg w w' (lim+400) (TreeTo g (renameR objs t g.fs (n :: r) (n' :: r')).1 (renameR objs t g.fs (n :: r) (n' :: r')).2.2):=by
 obtain⟨hwb,c0,_⟩:=h.ws
 refine (rename_ws B.wb B.bt _ _ hL hM _ _ w hwb c0 (fun W hb=>(rename_walk (h.inv.below hb) (by omega) h.flat h.ok hL hM).mono fun e w' ⟨h1,h2⟩=>⟨h1,lleft_via hb h2⟩)).mono ?_
 rintro e w' ⟨h1,h2⟩
 exact⟨h1,(QTo.of h h2).mono (by omega)⟩
theorem flOk_upd' {fl:Nat->Option (Int×ByteArray)}(h:FlOk objs fl)(f:Nat)(d:ByteArray):FlOk objs (updN fl f (some (0,d))):=by
 intro f' id d' hf hid
 by_cases e:f'=f
 ·subst e;rw[updN_same] at hf;cases hf;exact absurd rfl hid
 ·rw[updN_other e] at hf;exact h f' id d' hf hid
def HeldTo (objs:List Ob)(fl:Nat->Option (Int×ByteArray))(ks:Kids)(t:LT)(q:List ByteArray)(n:ByteArray)(f:Nat)(t':LT):Prop:=
 (pickK ks n=some (.held f)/\t'=t)\/((pickK ks n=none\/∃ id,pickK ks n=some (.file id))/\fl f=none/\t'=modG objs (fun ks=>putK ks n (.held f)) q t)
def QOpen (s i p:Nat)(B:WB)(objs:List Ob)(tg:Tags)(w w':World)(lim:Nat)(g:WG)(fs':FS)(ks:Kids)(t:LT)(q:List ByteArray)(n:ByteArray)(d:ByteArray):Prop:=
 ∃ tg' g' t' b f pl,Moves (Mine i) tg tg' w w'/\WInv tg' w' s i p B objs g' lim/\Flat objs t' g'.ft/\LTok objs 5 t'/\FlOk objs g'.fl/\g'.op=updN (fun _=>none) 0 (some (b,f,22,pl))/\(d=⟨#[]⟩->pl=0)/\g'.fl f=some (0,d)/\(∀ x,x≠f->g'.fl x=g.fl x)/\g'.fs=fs'/\g'.base=g.base/\HeldTo objs g.fl ks t q n f t'
theorem qopen {tg:Tags}{w:World}{g:WG}{lim:Nat}{t:LT}(h:QInv tg w s i p B objs g lim t)(hl:lim+1000<1099511627776){n:ByteArray}{r:List ByteArray}(hL:Good (r.reverse ++ [n])){fs':FS}{er:Int}{ks:Kids}(hlk:lookR objs t g.fs r=(fs',er,ks)):
  Calls Tryz.prog 50 #[.pointer (some ⟨B.wb,0,none⟩),.string (joinB (r.reverse ++ [n])),.int .i64 22] w fun e w'=>
   (er≠0/\e=.returned (.tuple #[.int .i64 0,.int .i64 er])/\QTo s i p B objs tg w w' (lim+400) (TreeTo g fs' t))\/
   (er=0/\openE ks n false true≠0/\e=.returned (.tuple #[.int .i64 0,.int .i64 (openE ks n false true)])/\QTo s i p B objs tg w w' (lim+400) (TreeTo g fs' t))\/
   (er=0/\openE ks n false true=0/\e=.returned (.tuple #[.int .i64 0,.int .i64 0])/\QOpen s i p B objs tg w w' (lim+400) g fs' ks t r.reverse n ⟨#[]⟩):=by
 have hi:=h.inv.two
 obtain⟨hwb,c0,htab⟩:=h.ws
 have hop:=fun W (hb:Below w.heap.size w W)=>open_walk (h.inv.below hb) (by omega) h.flat h.ok hL 22 false true true (by decide) (by decide) (by decide)
 rw[hlk] at hop
 simp only at hop
 have herr:∀ er',er'≠0->(∀ W,Below w.heap.size w W->Calls Tryz.prog 92 #[.pointer (some ⟨B.bt,0,none⟩),.agg (pathA (r.reverse ++ [n])),.int .i64 22] W fun e w'=>e=.returned (.tuple #[.pointer none,.int .i64 er'])/\Left s i p B objs tg w w' g fs' t (lim+300))->
   Calls Tryz.prog 50 #[.pointer (some ⟨B.wb,0,none⟩),.string (joinB (r.reverse ++ [n])),.int .i64 22] w fun e w'=>e=.returned (.tuple #[.int .i64 0,.int .i64 er'])/\QTo s i p B objs tg w w' (lim+400) (TreeTo g fs' t):=by
  intro er' hne hc
  refine (open_ws_err B.wb B.bt 0 _ 22 _ hL er' hne _ w htab c0 (by decide) rfl (fun j hj=>by omega) valid_22 hc).mono ?_
  rintro e w' ⟨h1,h2⟩
  exact⟨h1,(QTo.of h h2).mono (by omega)⟩
 have hfresh:∀ W,Below w.heap.size w W->∀ f,W.heap.size<=f->g.fl f=none:=by
  intro W hb f hf
  cases hx:g.fl f with
  | none=>rfl
  | some x=>
   obtain⟨id,d⟩:=x
   have:=(Array.getElem?_eq_some_iff.1 (h.inv.wp.files f id d hx).2.1).1
   have:=hb.size
   omega
 by_cases her:er=0
 ·by_cases hoe:openE ks n false true=0
  ·refine (open_ws_ok B.wb B.bt 0 (fun _=>none) 22 _ hL (fun f w'=>∃ tg' ft' fl' t',Moves (Mine i) tg tg' w w'/\WInv tg' w' s i p B objs { g with fs:=fs',ft:=ft',fl:=fl' } (lim+300)/\Flat objs t' ft'/\LTok objs 5 t'/\FlOk objs fl'/\fl' f=some (0,⟨#[]⟩)/\(∀ x,x≠f->fl' x=g.fl x)/\HeldTo objs g.fl ks t r.reverse n f t') w htab c0 (by decide) rfl (fun j hj=>by omega) valid_22 (fun W hb=>(hop W hb).mono ?_) ?_).mono ?_
   ·rintro e w' (⟨hx,_⟩ | ⟨_,hx,_⟩ | ⟨_,_,f,tg',ft',fl',t',he,m,hW,hF,hO,hT⟩)
    ·exact absurd her hx
    ·exact absurd hoe hx
    ·refine⟨f,he,tg',ft',fl',t',call_moves hb m,hW,hF,hO,?_⟩
     rcases hT with ⟨h1,h2,rfl,rfl⟩ | ⟨h1,rfl,rfl⟩ | ⟨id,h1,h2,rfl,rfl⟩
     ·exact⟨flOk_upd' h.fl _ _,updN_same _ _ _,fun x hx=>updN_other hx _,.inr ⟨.inl h1,hfresh W hb f h2,rfl⟩⟩
     ·rw[if_pos rfl];exact⟨flOk_upd' h.fl _ _,updN_same _ _ _,fun x hx=>updN_other hx _,.inl ⟨h1,rfl⟩⟩
     ·rw[if_pos rfl]
      refine⟨?_,updN_same _ _ _,fun x hx=>by rw[updN_other hx,updN_other hx],.inr ⟨.inr ⟨id,h1⟩,hfresh W hb f h2,rfl⟩⟩
      intro f' id' d' hf hid
      by_cases e:f'=f
      ·subst e;rw[updN_same] at hf;cases hf;exact absurd rfl hid
      ·rw[updN_other e,updN_other e] at hf;exact h.fl f' id' d' hf hid
   ·rintro f w' ⟨tg',ft',fl',t',m,hW,_⟩
    obtain⟨h1,h2⟩:=hW.wp.opens.tab
    refine⟨h1.1,fun k hk=>?_,h1.2.2⟩
    rw[h1.2.1 k hk]
    show some (Value.pointer (Option.map _ (Option.map _ (g.op k))))=_
    rw[h.op k];rfl
   ·rintro e w' ⟨he,f,w1,⟨tg1,ft1,fl1,t1,m1,hW1,hF1,hO1,hL1,hf1,hx1,hh1⟩,rfl⟩
    obtain⟨m2,hW2⟩:=hW1.open_at (k:=0) (f:=f) (fg:=22) (by decide) hf1 (by decide) (by decide)
    refine .inr (.inr ⟨her,hoe,he,_,_,t1,w1.heap.size,f,0,m1.trans (m2.mono (fun x hx=>.inr (by rw[hx]))),hW2.mono (by omega),hF1,hO1,hL1,?_,fun _=>rfl,hf1,hx1,rfl,rfl,hh1⟩)
    show updN g.op 0 _=_
    rw[show g.op=fun _=>none from funext h.op]
  ·refine (herr _ hoe (fun W hb=>(hop W hb).mono ?_)).mono (fun e w' ⟨h1,h2⟩=>.inr (.inl ⟨her,hoe,h1,h2⟩))
   rintro e w' (⟨hx,_⟩ | ⟨_,_,h1,h2⟩ | ⟨_,hx,_⟩)
   ·exact absurd her hx
   ·exact⟨h1,lleft_via hb h2⟩
   ·exact absurd hx hoe
 ·refine (herr er her (fun W hb=>(hop W hb).mono ?_)).mono (fun e w' ⟨h1,h2⟩=>.inl ⟨her,h1,h2⟩)
  rintro e w' (⟨_,h1,h2⟩ | ⟨hx,_⟩ | ⟨hx,_⟩)
  ·exact⟨h1,lleft_via hb h2⟩
  ·exact absurd hx her
  ·exact absurd hx her
end
end Go.Proofs.YtajopoddmfdejaaGreat
