/-
  What is proved here: canopykeep's put and do. Open, Remove and Rename of a workspace at paths of one name, whatever files are open. Stat of a file that the workspace holds, at a path of one name; and where ..
-/
import Derived.Test.YtajopoddmfdejaaGreatRetM28
import Derived.Deep.RegionHeld3
namespace Go.Proofs.YtajopoddmfdejaaGreat
open Go.RowKit Go.Sort Go.Shelf
set_option linter.unusedVariables false
set_option maxRecDepth 100000
set_option maxHeartbeats 16000000
section
variable {s i p:Nat}{B:WB}{objs:List Ob}
theorem step_keep {w w':World}{b:Nat}{c0 c1 c2 c3:Value}(h:w.cell? ⟨b,0,none⟩=some c0/\w.cell? ⟨b,1,none⟩=some c1/\w.cell? ⟨b,2,none⟩=some c2/\w.cell? ⟨b,3,none⟩=some c3)(hk:∀ o,w'.cell? ⟨b,o,none⟩=w.cell? ⟨b,o,none⟩):w'.cell? ⟨b,0,none⟩=some c0/\w'.cell? ⟨b,1,none⟩=some c1/\w'.cell? ⟨b,2,none⟩=some c2/\w'.cell? ⟨b,3,none⟩=some c3:=by
 simp only[hk];exact h
def i64 (x:Int):Prop:=-9223372036854775808<=x/\x<=9223372036854775807
theorem step_cells {w:World}{b:Nat}{c0 c1 c2 c3:Value}{t:TypeId}(h:w.heap[b]? = some (.cells #[c0,c1,c2,c3] t (0,0))):w.cell? ⟨b,0,none⟩=some c0/\w.cell? ⟨b,1,none⟩=some c1/\w.cell? ⟨b,2,none⟩=some c2/\w.cell? ⟨b,3,none⟩=some c3:=
 ⟨by simp[World.cell?,h],by simp[World.cell?,h],by simp[World.cell?,h],by simp[World.cell?,h]⟩
end
theorem good_one {n:ByteArray}(h:validB n=true):Good [n]:=⟨fun x hx=>by rw[List.mem_singleton.1 hx];exact h,by simp⟩
def opT (g:WG):Nat->Option Nat:=fun k=>(g.op k).map (·.1)
section
variable {s i p:Nat}{B:WB}{objs:List Ob}
theorem ws_tab {tg:Tags}{w:World}{g:WG}{lim:Nat}(h:WInv tg w s i p B objs g lim):TabAt w B.wb (opT g)/\w.cell? ⟨B.wb,0,none⟩=some (.pointer (some ⟨B.bt,0,none⟩)):=h.wp.opens.tab
theorem openTo_mono {sz sz':Nat}{fl fl':Nat->Option (Int×ByteArray)}{ks:Kids}{t t':LT}{q:List ByteArray}{n:ByteArray}{tr:Bool}{f:Nat}(h:OpenTo objs sz fl ks t q n tr f fl' t')(hs:sz'<=sz):OpenTo objs sz' fl ks t q n tr f fl' t':=by
 rcases h with ⟨a,b,c⟩ | h | ⟨id,a,b,c⟩
 ·exact .inl ⟨a,Nat.le_trans hs b,c⟩
 ·exact .inr (.inl h)
 ·exact .inr (.inr ⟨id,a,Nat.le_trans hs b,c⟩)
theorem openTo_file {sz:Nat}{fl fl':Nat->Option (Int×ByteArray)}{ks:Kids}{t t':LT}{q:List ByteArray}{n:ByteArray}{tr:Bool}{f:Nat}(h:OpenTo objs sz fl ks t q n tr f fl' t')(hh:∀ f,pickK ks n=some (.held f)->∃ x,fl f=some x):∃ x,fl' f=some x:=by
 rcases h with ⟨_,_,_,rfl⟩ | ⟨a,_,rfl⟩ | ⟨id,_,_,_,rfl⟩
 ·exact⟨_,updN_same _ _ _⟩
 ·split
  ·exact⟨_,updN_same _ _ _⟩
  ·exact hh f a
 ·split <;> exact⟨_,updN_same _ _ _⟩
theorem hopen {tg:Tags}{w:World}{g:WG}{lim:Nat}{t:LT}(h:WInv tg w s i p B objs g lim)(hl:lim+1000<1099511627776)(hF:Flat objs t g.ft)(hok:LTok objs 5 t){n:ByteArray}(hn:validB n=true)(fg:Int)(h0:0<=fg)(h64:fg<64)(ex cr tr:Bool)(hex:(bits BinOp.and IntKind.i64 fg 8 != 0)=ex)(hcr:(bits BinOp.and IntKind.i64 fg 4 != 0)=cr)(htr:(bits BinOp.and IntKind.i64 fg 16 != 0)=tr)
  (hv:∀ W,Calls Tryz.prog 90 #[.int .i64 fg] W fun e w'=>e=.returned (.bool true)/\w'=W){k:Nat}(hk:k<8)(hk0:g.op k=none)(hk1:∀ j,j<k->g.op j≠none)
  {fs':FS}{ks:Kids}(hlk:lookR objs t g.fs []=(fs',0,ks))(hoe:openE ks n ex cr=0)(hhd:∀ f,pickK ks n=some (.held f)->∃ x,g.fl f=some x):
  Calls Tryz.prog 50 #[.pointer (some ⟨B.wb,0,none⟩),.string n,.int .i64 fg] w fun e w'=>e=.returned (.tuple #[.int .i64 (k:Int),.int .i64 0])/\∃ tg' g' t' b f,Moves (Mine i) tg tg' w w'/\WInv tg' w' s i p B objs g' (lim+300)/\Flat objs t' g'.ft/\LTok objs 5 t'/\g'.fs=fs'/\g'.op=updN g.op k (some (b,f,fg,0))/\OpenTo objs w.heap.size g.fl ks t [] n tr f g'.fl t':=by
 obtain⟨htab,c0⟩:=ws_tab h
 have hopn:=fun W (hb:Below w.heap.size w W)=>open_walk (n:=n) (r:=[]) (h.below hb) (by omega) hF hok (good_one hn) fg ex cr tr hex hcr htr
 simp only[hlk] at hopn
 have hw:=open_ws_ok B.wb B.bt k (opT g) fg [n] (good_one hn) (fun f w'=>∃ tg' g' t',Moves (Mine i) tg tg' w w'/\WInv tg' w' s i p B objs g' (lim+300)/\Flat objs t' g'.ft/\LTok objs 5 t'/\g'.fs=fs'/\g'.op=g.op/\OpenTo objs w.heap.size g.fl ks t [] n tr f g'.fl t') w htab c0 hk (by unfold opT;rw[hk0];rfl) (fun j hj e=>hk1 j hj (by unfold opT at e;cases ho:g.op j with | none=>rfl | some x=>rw[ho] at e;cases e)) hv (fun W hb=>(hopn W hb).mono ?_) ?_
 ·rw[joinB_one] at hw
  refine hw.mono ?_
  rintro e w' ⟨he,f,w1,⟨tg1,g1,t1,m1,hW1,hF1,hO1,hs1,ho1,hT1⟩,rfl⟩
  obtain⟨x,hx⟩:=openTo_file hT1 hhd
  obtain⟨m2,hW2⟩:=hW1.open_at (k:=k) (f:=f) (fg:=fg) hk hx h0 h64
  refine⟨he,_,_,t1,w1.heap.size,f,m1.trans (m2.mono (fun x hx=>.inr (by rw[hx]))),hW2,hF1,hO1,hs1,?_,hT1⟩
  show updN g1.op k _=_
  rw[ho1]
 ·rintro e w' (⟨hx,_⟩ | ⟨_,hx,_⟩ | ⟨_,_,f,tg',ft',fl',t',he,m,hW,hF',hO',hT⟩)
  ·exact absurd rfl hx
  ·exact absurd hoe hx
  ·exact⟨f,he,tg',_,t',call_moves hb m,hW,hF',hO',rfl,rfl,openTo_mono hT hb.size⟩
 ·rintro f w' ⟨tg',g',t',m,hW,_,_,_,ho,_⟩
  have:=(ws_tab hW).1
  unfold opT at this ⊢
  rw[ho] at this
  exact this
end
section
variable {s i p:Nat}{B:WB}{objs:List Ob}
theorem OwnF.look1 {tg:Tags}{w:World}{of:List ByteArray->Option Nat}{lim:Nat}(h:OwnF tg w i B of lim){q:List ByteArray}(hq:Good q){W:World}(hb:Below w.heap.size w W):
  (Instr.lookup 127 (.map (some B.oF)) (.agg (pathA q)) false).run Tryz.prog W=.ok (((of q).map ptr).getD (.pointer none)) W:=by
 obtain⟨_,⟨n,_,M,hV,hM,_⟩,_⟩:=h
 have:=(hV.keep (w':=W) (hb.block _ hV.lt)).look lawP Tryz.underlying127 (zeroFp W) (keyVP hq)
 have hMq:M (keyP Tryz.prog q)=(of q).map ptr:=hM q hq
 rw[hMq] at this
 exact this
theorem tbytes_own {tg:Tags}{w:World}{g:WG}{lim f:Nat}{d nm:ByteArray}(h:WInv tg w s i p B objs g lim)(hl:lim<1099511627776)(hfl:FlOk objs g.fl){q:List ByteArray}(hq:Good q)(hf:g.ft.of q=some f){x:Int×ByteArray}(hx:g.fl f=some x)(hbz:bytesG objs g.fl g.fs f=(g.fs,0,d)):
  Calls Tryz.prog 142 #[.pointer (some ⟨B.bt,0,none⟩),.agg (pathA q),.agg #[.string nm,.int .i64 1,.int .i64 0]] w fun en w'=>en=.returned (.tuple #[.string d,.int .i64 0])/\DidF s i p B objs tg w w' g (lim+1):=by
 have hb0:Below w.heap.size w ((w.alloc (.cells (pathA q) 104)).alloc (.cells #[.string nm,.int .i64 1,.int .i64 0] 76)).drew:=below_drew (((Below.refl _ _).alloc (Nat.le_refl _) _).alloc (by simp) _)
 have hlk:=h.wp.ownF.look1 hq hb0
 rw[hf] at hlk
 have hby:=bytes_any (h.below hb0) hl hfl hx
 rw[hbz] at hby
 obtain⟨tb,t7,t8⟩:=h.treeAt
 obtain⟨s0,s1,s2,s3,s4,hP⟩:∃ s0 s1 s2 s3 s4,pathA q = #[.string s0,.string s1,.string s2,.string s3,.string s4]:=⟨_,_,_,_,_,rfl⟩
 rw[hP] at hlk hb0 hby ⊢
 simp only[Option.map_some,Option.getD_some,ptr] at hlk
 have HB:Hid _:=hb0
 have HBY:Hid _:=hby
 clear h hb0 hby
 go_enter Tryz.func142,Tryz.ntmps142
 go_wp2
 go_region_with (go_at_call 135;refine Calls.mono HBY.out ?_;rintro e w2 ⟨rfl,hD⟩)
 all_goals
  go_wp2
  go_ret2
  exact⟨rfl,hD.via HB.out⟩
theorem tsize_walk (t:Nat)(s0 s1 s2 s3 s4 nm d:ByteArray)(R:World->Prop)(w:World)
  (hby:Calls Tryz.prog 142 #[.pointer (some ⟨t,0,none⟩),.agg #[.string s0,.string s1,.string s2,.string s3,.string s4],.agg #[.string nm,.int .i64 1,.int .i64 0]] ((w.alloc (.cells #[.string s0,.string s1,.string s2,.string s3,.string s4] 104)).alloc (.cells #[.string nm,.int .i64 1,.int .i64 0] 76)) fun en w'=>en=.returned (.tuple #[.string d,.int .i64 0])/\R w'):
  Calls Tryz.prog 100 #[.pointer (some ⟨t,0,none⟩),.agg #[.string s0,.string s1,.string s2,.string s3,.string s4],.agg #[.string nm,.int .i64 1,.int .i64 0]] w fun en w'=>en=.returned (.tuple #[.int .i64 (d.size:Int),.int .i64 0])/\R w':=by
 have HBY:Hid _:=hby
 clear hby
 go_enter Tryz.func100,Tryz.ntmps100
 go_wp2_with fail
 refine Calls.mono HBY.out ?_
 rintro e w2 ⟨rfl,hR⟩
 go_wp2
 go_ret2
 exact⟨rfl,hR⟩
theorem tsize_own {tg:Tags}{w:World}{g:WG}{lim f:Nat}{d nm:ByteArray}(h:WInv tg w s i p B objs g lim)(hl:lim<1099511627776)(hfl:FlOk objs g.fl){q:List ByteArray}(hq:Good q)(hf:g.ft.of q=some f){x:Int×ByteArray}(hx:g.fl f=some x)(hbz:bytesG objs g.fl g.fs f=(g.fs,0,d)):
  Calls Tryz.prog 100 #[.pointer (some ⟨B.bt,0,none⟩),.agg (pathA q),.agg #[.string nm,.int .i64 1,.int .i64 0]] w fun en w'=>en=.returned (.tuple #[.int .i64 (d.size:Int),.int .i64 0])/\DidF s i p B objs tg w w' g (lim+1):=by
 have hb0:Below w.heap.size w ((w.alloc (.cells (pathA q) 104)).alloc (.cells #[.string nm,.int .i64 1,.int .i64 0] 76)):=((Below.refl _ _).alloc (Nat.le_refl _) _).alloc (by simp) _
 exact tsize_walk B.bt _ _ _ _ _ nm d _ w ((tbytes_own (h.below hb0) hl hfl hq hf hx hbz).mono (fun e w' ⟨h1,h2⟩=>⟨h1,h2.via hb0⟩))
end
section
variable {s i p:Nat}{B:WB}{objs:List Ob}
theorem fresh_block {P:Nat×Nat->Prop}{tg tg':Tags}{W w':World}{b:Nat}{o:Obj}(hP:¬ P (0,0))(ht:tg b=(0,0))(m:Moves P tg tg' W w')(hb:W.heap[b]? = some o):w'.heap[b]? = some o/\tg' b=(0,0):=by
 have hlt:=(Array.getElem?_eq_some_iff.1 hb).1
 exact⟨(m.block b hlt (by rw[ht];exact hP)).trans hb,(m.tags b hlt).trans ht⟩
theorem not_fetch0 (hi:2<=i):¬ Fetches i (0,0):=by
 rintro (h | h | h)
 ·cases h
 ·injection h with h1 h2;omega
 ·injection h with h1 h2;omega
def InfoAt (w:World)(b:Nat):Prop:=w.heap[b]? = some (.cells #[.int .i64 0,.int .i64 0] 60 (0,0))
theorem InfoAt.cells {w:World}{b:Nat}(h:InfoAt w b):b<w.heap.size/\w.cell? ⟨b,0,none⟩=some (.int .i64 0)/\w.cell? ⟨b,1,none⟩=some (.int .i64 0)/\∀ o,w.frozen? ⟨b,o,none⟩=false:=by
 unfold InfoAt at h
 exact⟨(Array.getElem?_eq_some_iff.1 h).1,by simp only[World.cell?,h];rfl,by simp only[World.cell?,h];rfl,fun o=>by simp only[World.frozen?,h];simp⟩
theorem tstat_ok (t:Nat)(s0 s1 s2 s3 s4 a:ByteArray)(sz:Int)(R:World->Prop)(R2:World->Prop)(w:World)
  (hfind:Calls Tryz.prog 80 #[.pointer (some ⟨t,0,none⟩),.agg #[.string s0,.string s1,.string s2,.string s3,.string s4]] ((w.alloc (.cells #[.string s0,.string s1,.string s2,.string s3,.string s4] 104)).alloc (.cells #[.int .i64 0,.int .i64 0] 60)) fun e w'=>e=.returned (.tuple #[.agg #[.string a,.int .i64 1,.int .i64 0],.int .i64 0])/\InfoAt w' (w.heap.size+1)/\(∀ o,w'.cell? ⟨w.heap.size,o,none⟩=((w.alloc (.cells #[.string s0,.string s1,.string s2,.string s3,.string s4] 104)).alloc (.cells #[.int .i64 0,.int .i64 0] 60)).cell? ⟨w.heap.size,o,none⟩)/\R w')
  (hsize:∀ w',R w'->InfoAt w' (w.heap.size+1)->Calls Tryz.prog 100 #[.pointer (some ⟨t,0,none⟩),.agg #[.string s0,.string s1,.string s2,.string s3,.string s4],.agg #[.string a,.int .i64 1,.int .i64 0]] (w'.alloc (.cells #[.string a,.int .i64 1,.int .i64 0] 76)) fun e w4=>e=.returned (.tuple #[.int .i64 sz,.int .i64 0])/\InfoAt w4 (w.heap.size+1)/\(∀ o,w4.cell? ⟨w'.heap.size,o,none⟩=(w'.alloc (.cells #[.string a,.int .i64 1,.int .i64 0] 76)).cell? ⟨w'.heap.size,o,none⟩)/\w'.heap.size<w4.heap.size/\R2 w4):
  Calls Tryz.prog 54 #[.pointer (some ⟨t,0,none⟩),.agg #[.string s0,.string s1,.string s2,.string s3,.string s4]] w fun e w'=>e=.returned (.tuple #[.agg #[.int .i64 1,.int .i64 sz],.int .i64 0])/\∃ w4,R2 w4/\w4.grownBy w' (some (w.heap.size+1)):=by
 have HF:Hid _:=hfind
 have HSZ:Hid _:=hsize
 clear hfind hsize
 go_enter Tryz.func54,Tryz.ntmps54
 go_wp2_with fail
 refine Calls.mono HF.out ?_
 rintro e w3 ⟨rfl,hblk,hkp,hR⟩
 obtain⟨hlt,c0,c1,f0⟩:=hblk.cells
 have hz3:w.heap.size<w3.heap.size:=by omega
 have hs:=HSZ.out w3 hR hblk
 have HS:Hid _:=hs
 clear hblk hR HF HSZ hs
 go_wp2_with fail
 refine Calls.mono HS.out ?_
 rintro e w4 ⟨rfl,hblk4,hkp4,hlt4,hR4⟩
 obtain⟨hl4,d0,d1,g0⟩:=hblk4.cells
 have HR4:Hid _:=hR4
 clear hblk4 hR4 HS
 go_wp2
 refine bodyPost_ret (v:=.tuple #[.agg #[.int .i64 1,.int .i64 sz],.int .i64 0]) (by simp[results,Tryz.results54,go_sem,d0,d1]) rfl ?_
 exact⟨rfl,w4,HR4.out,grown_set (grown_set (grown_refl _ _))⟩
end
end Go.Proofs.YtajopoddmfdejaaGreat
