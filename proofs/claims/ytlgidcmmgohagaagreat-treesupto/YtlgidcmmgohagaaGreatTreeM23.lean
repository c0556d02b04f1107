/-
  What is proved here: Stat of a file that the workspace holds, at a path of one name; and where nothing stands. Stat of a tree at a path of one name: a held file's size, or that nothing stands there. Stat of a ..
-/
import Derived.Test.YtlgidcmmgohagaaGreatTreeM22
import Derived.Test.YtlgidcmmgohagaaGreatTreeM02
import Derived.Test.YtlgidcmmgohagaaGreatTreeM05
namespace Go.Proofs.YtlgidcmmgohagaaGreat
open Go.RowKit Go.Sort Go.Shelf
set_option linter.unusedVariables false
set_option maxRecDepth 100000
set_option maxHeartbeats 16000000
section
variable {s i p:Nat}{B:WB}{objs:List Ob}
theorem OwnF.look1 {tg:Tags}{w:World}{of:List ByteArray->Option Nat}{lim:Nat}(h:OwnF tg w i B of lim){q:List ByteArray}(hq:Good q){W:World}(hb:Below w.heap.size w W):
  (Instr.lookup 161 (.map (some B.oF)) (.agg (pathA q)) false).run Tryz.prog W=.ok (((of q).map ptr).getD (.pointer none)) W:=by
 obtain⟨_,⟨n,_,M,hV,hM,_⟩,_⟩:=h
 have:=(hV.keep (w':=W) (hb.block _ hV.lt)).look lawP Tryz.underlying161 (zeroFp W) (keyVP hq)
 have hMq:M (keyP Tryz.prog q)=(of q).map ptr:=hM q hq
 rw[hMq] at this
 exact this
end
section
variable {s i p:Nat}{B:WB}{objs:List Ob}
theorem fresh_block {P:Nat×Nat->Prop}{tg tg':Tags}{W w':World}{b:Nat}{o:Obj}(hP:¬ P (0,0))(ht:tg b=(0,0))(m:Moves P tg tg' W w')(hb:W.heap[b]? = some o):w'.heap[b]? = some o/\tg' b=(0,0):=by
 have hlt:=(Array.getElem?_eq_some_iff.1 hb).1
 exact⟨(m.block b hlt (by rw[ht];exact hP)).trans hb,(m.tags b hlt).trans ht⟩
theorem not_fetch0 (hi:2<=i):¬ Fetches i (0,0):=by
 rintro (h | h | h)
 ·cases h
 ·injection h with h1 h2;omega
 ·injection h with h1 h2;omega
theorem grown_alloc {w w':World}{b:Nat}{o:Obj}(h:w.grownBy w' (some b)):w.grownBy (w'.alloc o) (some b):=by
 obtain⟨h1,h2,h3,h4,h5⟩:=h
 refine⟨h1,h2,h3,by simp;omega,fun k hk hb=>?_⟩
 rw[Below.heap_alloc _ _ _ (Nat.lt_of_lt_of_le hk h4)]
 exact h5 k hk hb
def InfoAt (w:World)(b:Nat):Prop:=w.heap[b]? = some (.cells #[.int .i64 0,.int .i64 0] 141 (0,0))
theorem InfoAt.cells {w:World}{b:Nat}(h:InfoAt w b):b<w.heap.size/\w.cell? ⟨b,0,none⟩=some (.int .i64 0)/\w.cell? ⟨b,1,none⟩=some (.int .i64 0)/\∀ o,w.frozen? ⟨b,o,none⟩=false:=by
 unfold InfoAt at h
 exact⟨(Array.getElem?_eq_some_iff.1 h).1,by simp only[World.cell?,h];rfl,by simp only[World.cell?,h];rfl,fun o=>by simp only[World.frozen?,h];simp⟩
theorem tstat_err (t:Nat)(s0 s1 s2 s3 s4 a:ByteArray)(k id er:Int)(R:World->Prop)(w:World)(her:(er == 0)=false)
  (hfind:Calls Tryz.prog 136 #[.pointer (some ⟨t,0,none⟩),.agg #[.string s0,.string s1,.string s2,.string s3,.string s4]] ((w.alloc (.cells #[.string s0,.string s1,.string s2,.string s3,.string s4] 147)).alloc (.cells #[.int .i64 0,.int .i64 0] 141)) fun e w'=>e=.returned (.tuple #[.agg #[.string a,.int .i64 k,.int .i64 id],.int .i64 er])/\InfoAt w' (w.heap.size+1)/\R w'):
  Calls Tryz.prog 126 #[.pointer (some ⟨t,0,none⟩),.agg #[.string s0,.string s1,.string s2,.string s3,.string s4]] w fun e w'=>e=.returned (.tuple #[.agg #[.int .i64 0,.int .i64 0],.int .i64 er])/\∃ w3,R w3/\w3.grownBy w' (some (w.heap.size+1)):=by
 have HF:Hid _:=hfind
 clear hfind
 go_enter Tryz.func126,Tryz.ntmps126
 go_wp2_with fail
 refine Calls.mono HF.out ?_
 rintro e w3 ⟨rfl,hblk,hR⟩
 obtain⟨hlt,c0,c1,f0⟩:=hblk.cells
 have HRR:Hid _:=hR
 clear hblk hR HF
 go_wp2
 refine bodyPost_ret (v:=.tuple #[.agg #[.int .i64 0,.int .i64 0],.int .i64 er]) (by simp[results,Tryz.results126,go_sem,c0,c1,hlt]) rfl ?_
 exact⟨rfl,w3,HRR.out,grown_alloc (grown_set (grown_set (grown_refl _ _)))⟩
end
section
variable {s i p:Nat}{B:WB}{objs:List Ob}
theorem stat0_below (w:World)(q:List ByteArray):Below w.heap.size w ((w.alloc (.cells (pathA q) 147)).alloc (.cells #[.int .i64 0,.int .i64 0] 141)):=((Below.refl _ _).alloc (Nat.le_refl _) _).alloc (by simp) _
theorem stat0_info (w:World)(q:List ByteArray):InfoAt ((w.alloc (.cells (pathA q) 147)).alloc (.cells #[.int .i64 0,.int .i64 0] 141)) (w.heap.size+1):=by
 have:=heap_alloc_new (w.alloc (.cells (pathA q) 147)) (.cells #[.int .i64 0,.int .i64 0] 141)
 simpa [InfoAt] using this
end
theorem stat_ws (wb bt:Nat)(l:List ByteArray)(hl:Good l)(k sz er:Int)(R:World->Prop)(w:World)(hwb:wb<w.heap.size)(c0:w.cell? ⟨wb,0,none⟩=some (.pointer (some ⟨bt,0,none⟩)))
  (hc:∀ W,Below w.heap.size w W->InfoAt W w.heap.size->Calls Tryz.prog 126 #[.pointer (some ⟨bt,0,none⟩),.agg (pathA l)] W fun e w'=>e=.returned (.tuple #[.agg #[.int .i64 k,.int .i64 sz],.int .i64 er])/\InfoAt w' w.heap.size/\R w'):
  Calls Tryz.prog 67 #[.pointer (some ⟨wb,0,none⟩),.string (joinB l)] w fun e w'=>e=.returned (.tuple #[.agg #[.int .i64 k,.int .i64 sz],.int .i64 er])/\∃ w2,R w2/\w2.grownBy w' (some w.heap.size):=by
 have hpa:=fun W=>parse_any l hl W
 obtain⟨s0,s1,s2,s3,s4,hP⟩:∃ s0 s1 s2 s3 s4,pathA l = #[.string s0,.string s1,.string s2,.string s3,.string s4]:=⟨_,_,_,_,_,rfl⟩
 unfold pathV at hpa
 simp only[hP] at hpa hc
 have hb0:Below w.heap.size w (w.alloc (.cells #[.int .i64 0,.int .i64 0] 141)):=(Below.refl _ _).alloc (Nat.le_refl _) _
 have hI0:InfoAt (w.alloc (.cells #[.int .i64 0,.int .i64 0] 141)) w.heap.size:=heap_alloc_new _ _
 have hwb0:wb<(w.alloc (.cells #[.int .i64 0,.int .i64 0] 141)).heap.size:=by simp;omega
 have c00:=((bcell hb0).1 wb 0 hwb).trans c0
 have HC:Hid _:=hc
 have HB0:Hid _:=hb0
 have HI0:Hid _:=hI0
 clear hc hP hl hb0 hI0
 generalize joinB l=tx at hpa ⊢
 go_enter Tryz.func67,Tryz.ntmps67
 go_wp2_with (go_at_call 69;refine Calls.mono (hpa _) ?_;rintro e w1 ⟨rfl,hb1⟩;have d0:=((bcell hb1).1 wb 0 hwb0).trans c00;have hw1:=Nat.lt_of_lt_of_le hwb0 hb1.size)
 have hI1:InfoAt (w1.alloc (.cells #[.string s0,.string s1,.string s2,.string s3,.string s4] 147)).drew w.heap.size:=by
  have h1:w1.heap[w.heap.size]? = _:=(hb1.block w.heap.size (by simp)).trans HI0.out
  show (w1.alloc _).heap[w.heap.size]? = _
  rw[Below.heap_alloc _ _ _ (Array.getElem?_eq_some_iff.1 h1).1];exact h1
 have hcc:=HC.out (w1.alloc (.cells #[.string s0,.string s1,.string s2,.string s3,.string s4] 147)).drew (below_via HB0.out (below_drew (hb1.alloc hb1.size _))) hI1
 have HCC:Hid _:=hcc
 clear hcc HC hI1
 go_region_with (go_at_call 126;refine Calls.mono HCC.out ?_;rintro e w2 ⟨rfl,hI2,hR⟩;obtain⟨hl2,e0,e1,f2⟩:=hI2.cells;clear hI2)
 all_goals
  go_wp2
  refine bodyPost_ret (v:=.tuple #[.agg #[.int .i64 k,.int .i64 sz],.int .i64 er]) (by simp[results,Tryz.results67,go_sem,e0,e1]) rfl ?_
  exact⟨rfl,w2,hR,grown_set (grown_set (grown_refl _ _))⟩
section
variable {s i p:Nat}{B:WB}{objs:List Ob}
theorem did_grown {tg tg':Tags}{w w2 w':World}{g:WG}{lim:Nat}(hi:2<=i)(m:Moves (Fetches i) tg tg' w w2)(hW:WInv tg' w2 s i p B objs g lim)(ht:tg' w.heap.size=(0,0))(hg:w2.grownBy w' (some w.heap.size)):DidF s i p B objs tg w w' g lim:=by
 have hW':=hW.own hg ht
 obtain⟨g1,g2,g3,g4,g5⟩:=hg
 exact⟨tg',⟨g1.trans m.os,g2.trans m.tape,g3.trans m.output,Nat.le_trans m.size g4,m.tags,fun k hk hn=>(g5 k (Nat.lt_of_lt_of_le hk m.size) (fun e=>by injection e with e;omega)).trans (m.block k hk hn),fun hf=>hW'.st.fresh⟩,hW'⟩
end
structure QInv (tg:Tags)(w:World)(s i p:Nat)(B:WB)(objs:List Ob)(g:WG)(lim:Nat)(t:LT):Prop where
 inv:WInv tg w s i p B objs g lim
 flat:Flat objs t g.ft
 ok:LTok objs 5 t
 fl:FlOk objs g.fl
 op:∀ k,g.op k=none
def QTo (s i p:Nat)(B:WB)(objs:List Ob)(tg:Tags)(w w':World)(lim:Nat)(R:WG->LT->Prop):Prop:=∃ tg' g' t',Moves (Mine i) tg tg' w w'/\QInv tg' w' s i p B objs g' lim t'/\R g' t'
def TreeTo (g:WG)(fs':FS)(tn:LT)(g':WG)(t':LT):Prop:=t'=tn/\g'.fs=fs'/\g'.fl=g.fl/\g'.base=g.base
section
variable {s i p:Nat}{B:WB}{objs:List Ob}
theorem QInv.ws {tg:Tags}{w:World}{g:WG}{lim:Nat}{t:LT}(h:QInv tg w s i p B objs g lim t):B.wb<w.heap.size/\w.cell? ⟨B.wb,0,none⟩=some (.pointer (some ⟨B.bt,0,none⟩))/\TabAt w B.wb (fun _=>none):=by
 obtain⟨h1,h2⟩:=h.inv.wp.opens.tab
 refine⟨h1.1,h2,h1.1,fun k hk=>?_,h1.2.2⟩
 rw[h1.2.1 k hk]
 show some (Value.pointer (Option.map _ (Option.map _ (g.op k))))=_
 rw[h.op k];rfl
theorem QInv.mono {tg:Tags}{w:World}{g:WG}{lim lim':Nat}{t:LT}(h:QInv tg w s i p B objs g lim t)(hl:lim<=lim'):QInv tg w s i p B objs g lim' t:=⟨h.inv.mono hl,h.flat,h.ok,h.fl,h.op⟩
theorem QInv.below {tg:Tags}{w w':World}{g:WG}{lim:Nat}{t:LT}(h:QInv tg w s i p B objs g lim t)(hb:Below w.heap.size w w'):QInv tg w' s i p B objs g lim t:=⟨h.inv.below hb,h.flat,h.ok,h.fl,h.op⟩
theorem QTo.of {tg:Tags}{w w':World}{g:WG}{lim lim':Nat}{t:LT}(h:QInv tg w s i p B objs g lim t){fs':FS}{t':LT}(hL:Left s i p B objs tg w w' g fs' t' lim'):QTo s i p B objs tg w w' lim' (TreeTo g fs' t'):=by
 obtain⟨tg',ft',m,hW,hF,hO⟩:=hL
 exact⟨tg',_,t',m,⟨hW,hF,hO,h.fl,h.op⟩,rfl,rfl,rfl,rfl⟩
theorem QTo.mono {tg:Tags}{w w':World}{lim lim':Nat}{R:WG->LT->Prop}(h:QTo s i p B objs tg w w' lim R)(hl:lim<=lim'):QTo s i p B objs tg w w' lim' R:=by
 obtain⟨tg',g',t',m,hK,hR⟩:=h
 exact⟨tg',g',t',m,hK.mono hl,hR⟩
theorem lleft_via {tg:Tags}{w W w':World}{g:WG}{fs':FS}{t':LT}{lim:Nat}(hb:Below w.heap.size w W)(h:Left s i p B objs tg W w' g fs' t' lim):Left s i p B objs tg w w' g fs' t' lim:=by
 obtain⟨tg',ft',m,hW,hF,hO⟩:=h
 exact⟨tg',ft',call_moves hb m,hW,hF,hO⟩
theorem qmkdir {tg:Tags}{w:World}{g:WG}{lim:Nat}{t:LT}(h:QInv tg w s i p B objs g lim t)(hl:lim+1000<1099511627776){n:ByteArray}{r:List ByteArray}(hL:Good (r.reverse ++ [n])):
  Calls Tryz.prog 31 #[.pointer (some ⟨B.wb,0,none⟩),.string (joinB (r.reverse ++ [n]))] w fun e w'=>e=.returned (.int .i64 (mkdirR objs t g.fs (n :: r)).2.1)/\QTo s i p B objs tg w w' (lim+400) (TreeTo g (mkdirR objs t g.fs (n :: r)).1 (mkdirR objs t g.fs (n :: r)).2.2):=by
 obtain⟨hwb,c0,_⟩:=h.ws
 refine (mkdir_ws B.wb B.bt _ hL _ _ w hwb c0 (fun W hb=>(mkdir_walk (h.inv.below hb) (by omega) h.flat h.ok hL).mono fun e w' ⟨h1,h2⟩=>⟨h1,lleft_via hb h2⟩)).mono ?_
 rintro e w' ⟨h1,h2⟩
 exact⟨h1,(QTo.of h h2).mono (by omega)⟩
theorem qremove {tg:Tags}{w:World}{g:WG}{lim:Nat}{t:LT}(h:QInv tg w s i p B objs g lim t)(hl:lim+1000<1099511627776){n:ByteArray}{r:List ByteArray}(hL:Good (r.reverse ++ [n])):
  Calls Tryz.prog 32 #[.pointer (some ⟨B.wb,0,none⟩),.string (joinB (r.reverse ++ [n]))] w fun e w'=>e=.returned (.int .i64 (removeR objs t g.fs (n :: r)).2.1)/\QTo s i p B objs tg w w' (lim+400) (TreeTo g (removeR objs t g.fs (n :: r)).1 (removeR objs t g.fs (n :: r)).2.2):=by
 obtain⟨hwb,c0,_⟩:=h.ws
 refine (remove_ws B.wb B.bt _ hL _ _ w hwb c0 (fun W hb=>(remove_walk (h.inv.below hb) (by omega) h.flat h.ok hL).mono fun e w' ⟨h1,h2⟩=>⟨h1,lleft_via hb h2⟩)).mono ?_
 rintro e w' ⟨h1,h2⟩
 exact⟨h1,(QTo.of h h2).mono (by omega)⟩
theorem qrename {tg:Tags}{w:World}{g:WG}{lim:Nat}{t:LT}(h:QInv tg w s i p B objs g lim t)(hl:lim+1000<1099511627776){n n':ByteArray}{r r':List ByteArray}(hL:Good (r.reverse ++ [n]))(hM:Good (r'.reverse ++ [n'])):
  Calls Tryz.prog 33 #[.pointer (some ⟨B.wb,0,none⟩),.string (joinB (r.reverse ++ [n])),.string (joinB (r'.reverse ++ [n']))] w fun e w'=>e=.returned (.int .i64 (renameR objs t g.fs (n :: r) (n' :: r')).2.1)/\QTo s i p B objs tg w w' (lim+400) (TreeTo g (renameR objs t g.fs (n :: r) (n' :: r')).1 (renameR objs t g.fs (n :: r) (n' :: r')).2.2):=by
 obtain⟨hwb,c0,_⟩:=h.ws
 refine (rename_ws B.wb B.bt _ _ hL hM _ _ w hwb c0 (fun W hb=>(rename_walk (h.inv.below hb) (by omega) h.flat h.ok hL hM).mono fun e w' ⟨h1,h2⟩=>⟨h1,lleft_via hb h2⟩)).mono ?_
 rintro e w' ⟨h1,h2⟩
 exact⟨h1,(QTo.of h h2).mono (by omega)⟩
end
section
variable {s i p:Nat}{B:WB}{objs:List Ob}
theorem tbytes_walk (t sF:Nat)(s0 s1 s2 s3 s4 nm d:ByteArray)(id er:Int)(R:World->Prop)(w:World)(ht:t<w.heap.size)(hid:id≠0)(c1:w.cell? ⟨t,1,none⟩=some (.pointer (some ⟨sF,0,none⟩)))
  (hg:∀ W,Below w.heap.size w W->Calls Tryz.prog 213 #[.pointer (some ⟨sF,0,none⟩),.int .i64 id] W fun e w'=>e=.returned (.tuple #[.string d,.int .i64 er])/\R w'):
  Calls Tryz.prog 214 #[.pointer (some ⟨t,0,none⟩),.agg #[.string s0,.string s1,.string s2,.string s3,.string s4],.agg #[.string nm,.int .i64 1,.int .i64 id]] w fun en w'=>en=.returned (.tuple #[.string d,.int .i64 er])/\R w':=by
 have hb0:Below w.heap.size w ((w.alloc (.cells #[.string s0,.string s1,.string s2,.string s3,.string s4] 147)).alloc (.cells #[.string nm,.int .i64 1,.int .i64 id] 96)).drew:=below_drew (((Below.refl _ _).alloc (Nat.le_refl _) _).alloc (by simp) _)
 have hG:=hg _ hb0
 have HG:Hid _:=hG
 have hid':(id == 0)=false:=by simpa using hid
 clear hg hG hb0
 go_enter Tryz.func214,Tryz.ntmps214
 go_wp2
 go_region_with (go_at_call 213;refine Calls.mono HG.out ?_;rintro e w2 ⟨rfl,hR⟩)
 all_goals
  go_wp2
  go_ret2
  exact⟨rfl,hR⟩
theorem tsize_file (t:Nat)(s0 s1 s2 s3 s4 nm d:ByteArray)(id er:Int)(hd:d.size<=256)(R:World->Prop)(w:World)
  (hby:Calls Tryz.prog 214 #[.pointer (some ⟨t,0,none⟩),.agg #[.string s0,.string s1,.string s2,.string s3,.string s4],.agg #[.string nm,.int .i64 1,.int .i64 id]] ((w.alloc (.cells #[.string s0,.string s1,.string s2,.string s3,.string s4] 147)).alloc (.cells #[.string nm,.int .i64 1,.int .i64 id] 96)) fun en w'=>en=.returned (.tuple #[.string d,.int .i64 er])/\R w'):
  Calls Tryz.prog 183 #[.pointer (some ⟨t,0,none⟩),.agg #[.string s0,.string s1,.string s2,.string s3,.string s4],.agg #[.string nm,.int .i64 1,.int .i64 id]] w fun en w'=>en=.returned (.tuple #[.int .i64 (d.size:Int),.int .i64 er])/\R w':=by
 have HBY:Hid _:=hby
 clear hby
 go_enter Tryz.func183,Tryz.ntmps183
 go_wp2_with fail
 refine Calls.mono HBY.out ?_
 rintro e w2 ⟨rfl,hR⟩
 go_wp2
 go_ret2
 exact⟨rfl,hR⟩
theorem tsize_dir (t n:Nat)(s0 s1 s2 s3 s4 nm:ByteArray)(id er:Int)(R:World->Prop)(w:World)
  (hen:Calls Tryz.prog 187 #[.pointer (some ⟨t,0,none⟩),.agg #[.string s0,.string s1,.string s2,.string s3,.string s4],.agg #[.string nm,.int .i64 2,.int .i64 id]] ((w.alloc (.cells #[.string s0,.string s1,.string s2,.string s3,.string s4] 147)).alloc (.cells #[.string nm,.int .i64 2,.int .i64 id] 96)) fun en w'=>∃ a c,en=.returned (.tuple #[.slice a n c,.int .i64 er])/\R w'):
  Calls Tryz.prog 183 #[.pointer (some ⟨t,0,none⟩),.agg #[.string s0,.string s1,.string s2,.string s3,.string s4],.agg #[.string nm,.int .i64 2,.int .i64 id]] w fun en w'=>en=.returned (.tuple #[.int .i64 (n:Int),.int .i64 er])/\R w':=by
 have HEN:Hid _:=hen
 clear hen
 go_enter Tryz.func183,Tryz.ntmps183
 go_wp2_with fail
 refine Calls.mono HEN.out ?_
 rintro e w2 ⟨a,c,rfl,hR⟩
 go_wp2
 go_ret2
 exact⟨rfl,hR⟩
theorem tstat_two (t:Nat)(s0 s1 s2 s3 s4 a:ByteArray)(k id sz er:Int)(R:World->Prop)(R2:World->Prop)(w:World)
  (hfind:Calls Tryz.prog 136 #[.pointer (some ⟨t,0,none⟩),.agg #[.string s0,.string s1,.string s2,.string s3,.string s4]] ((w.alloc (.cells #[.string s0,.string s1,.string s2,.string s3,.string s4] 147)).alloc (.cells #[.int .i64 0,.int .i64 0] 141)) fun e w'=>e=.returned (.tuple #[.agg #[.string a,.int .i64 k,.int .i64 id],.int .i64 0])/\InfoAt w' (w.heap.size+1)/\(∀ o,w'.cell? ⟨w.heap.size,o,none⟩=((w.alloc (.cells #[.string s0,.string s1,.string s2,.string s3,.string s4] 147)).alloc (.cells #[.int .i64 0,.int .i64 0] 141)).cell? ⟨w.heap.size,o,none⟩)/\R w')
  (hsize:∀ w',R w'->InfoAt w' (w.heap.size+1)->Calls Tryz.prog 183 #[.pointer (some ⟨t,0,none⟩),.agg #[.string s0,.string s1,.string s2,.string s3,.string s4],.agg #[.string a,.int .i64 k,.int .i64 id]] (w'.alloc (.cells #[.string a,.int .i64 k,.int .i64 id] 96)) fun e w4=>e=.returned (.tuple #[.int .i64 sz,.int .i64 er])/\InfoAt w4 (w.heap.size+1)/\(∀ o,w4.cell? ⟨w'.heap.size,o,none⟩=(w'.alloc (.cells #[.string a,.int .i64 k,.int .i64 id] 96)).cell? ⟨w'.heap.size,o,none⟩)/\w'.heap.size<w4.heap.size/\R2 w4):
  Calls Tryz.prog 126 #[.pointer (some ⟨t,0,none⟩),.agg #[.string s0,.string s1,.string s2,.string s3,.string s4]] w fun e w'=>e=.returned (.tuple #[.agg (if er=0 then #[.int .i64 k,.int .i64 sz] else #[.int .i64 0,.int .i64 0]),.int .i64 er])/\∃ w4,R2 w4/\w4.grownBy w' (some (w.heap.size+1)):=by
 have HF:Hid _:=hfind
 have HSZ:Hid _:=hsize
 clear hfind hsize
 go_enter Tryz.func126,Tryz.ntmps126
 go_wp2_with fail
 refine Calls.mono HF.out ?_
 rintro e w3 ⟨rfl,hblk,hkp,hR⟩
 obtain⟨hlt,c0,c1,f0⟩:=hblk.cells
 have hz3:w.heap.size<w3.heap.size:=by omega
 have hs:=HSZ.out w3 hR hblk
 have HS:Hid _:=hs
 clear hblk hR HF HSZ hs
 go_wp2_with fail
 refine Calls.mono HS.out ?_
 rintro e w4 ⟨rfl,hblk4,hkp4,hlt4,hR4⟩
 obtain⟨hl4,d0,d1,g0⟩:=hblk4.cells
 have HR4:Hid _:=hR4
 clear hblk4 hR4 HS
 by_cases her:er=0
 ·subst her
  go_wp2
  refine bodyPost_ret (v:=.tuple #[.agg #[.int .i64 k,.int .i64 sz],.int .i64 0]) (by simp[results,Tryz.results126,go_sem,d0,d1]) rfl ?_
  exact⟨rfl,w4,HR4.out,grown_set (grown_set (grown_refl _ _))⟩
 ·have her':(er == 0)=false:=by simpa using her
  have HER:Hid _:=her
  clear her
  go_wp2
  refine bodyPost_ret (v:=.tuple #[.agg #[.int .i64 0,.int .i64 0],.int .i64 er]) (by simp[results,Tryz.results126,go_sem,d0,d1]) rfl ?_
  exact⟨rfl,w4,HR4.out,grown_set (grown_set (grown_refl _ _))⟩
theorem tbytes_gen {tg:Tags}{w:World}{g:WG}{lim f:Nat}{d nm:ByteArray}{fs1:FS}{er:Int}(h:WInv tg w s i p B objs g lim)(hl:lim<1099511627776)(hfl:FlOk objs g.fl){q:List ByteArray}(hq:Good q)(hf:g.ft.of q=some f){x:Int×ByteArray}(hx:g.fl f=some x)(hbz:bytesG objs g.fl g.fs f=(fs1,er,d)):
  Calls Tryz.prog 214 #[.pointer (some ⟨B.bt,0,none⟩),.agg (pathA q),.agg #[.string nm,.int .i64 1,.int .i64 0]] w fun en w'=>en=.returned (.tuple #[.string d,.int .i64 er])/\DidF s i p B objs tg w w' { g with fs:=fs1 } (lim+1):=by
 have hb0:Below w.heap.size w ((w.alloc (.cells (pathA q) 147)).alloc (.cells #[.string nm,.int .i64 1,.int .i64 0] 96)).drew:=below_drew (((Below.refl _ _).alloc (Nat.le_refl _) _).alloc (by simp) _)
 have hlk:=h.wp.ownF.look1 hq hb0
 rw[hf] at hlk
 have hby:=bytes_any (h.below hb0) hl hfl hx
 rw[hbz] at hby
 obtain⟨tb,t7,t8⟩:=h.treeAt
 obtain⟨s0,s1,s2,s3,s4,hP⟩:∃ s0 s1 s2 s3 s4,pathA q = #[.string s0,.string s1,.string s2,.string s3,.string s4]:=⟨_,_,_,_,_,rfl⟩
 rw[hP] at hlk hb0 hby ⊢
 simp only[Option.map_some,Option.getD_some,ptr] at hlk
 have HB:Hid _:=hb0
 have HBY:Hid _:=hby
 clear h hb0 hby
 go_enter Tryz.func214,Tryz.ntmps214
 go_wp2
 go_region_with (go_at_call 181;refine Calls.mono HBY.out ?_;rintro e w2 ⟨rfl,hD⟩)
 all_goals
  go_wp2
  go_ret2
  exact⟨rfl,hD.via HB.out⟩
end


variable {ft:PTail}
end Go.Proofs.YtlgidcmmgohagaaGreat
