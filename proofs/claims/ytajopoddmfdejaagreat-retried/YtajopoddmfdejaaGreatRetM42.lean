/-
  What is proved here: a survey's compare, walked, over whatever its calls answer.
-/
import Derived.Test.YtajopoddmfdejaaGreatRetM41
import Derived.Test.YtajopoddmfdejaaGreatRetM37
import Derived.Deep.Cut
import Derived.Deep.CutRange
namespace Go.Proofs.YtajopoddmfdejaaGreat
open Go.RowKit Go.Sort Go.Shelf
set_option linter.unusedVariables false
set_option maxRecDepth 100000
set_option maxHeartbeats 16000000
def CBox (n:Nat)(s0 s1 s2 s3 s4 nm nm2:ByteArray)(k id k2 id2:Int)(W:World):Prop:=
 n+2<W.heap.size/\W.cell? ⟨n,0,none⟩=some (.string s0)/\W.cell? ⟨n,1,none⟩=some (.string s1)/\W.cell? ⟨n,2,none⟩=some (.string s2)/\W.cell? ⟨n,3,none⟩=some (.string s3)/\W.cell? ⟨n,4,none⟩=some (.string s4)/\
 W.cell? ⟨n+1,0,none⟩=some (.string nm)/\W.cell? ⟨n+1,1,none⟩=some (.int .i64 k)/\W.cell? ⟨n+1,2,none⟩=some (.int .i64 id)/\
 W.cell? ⟨n+2,0,none⟩=some (.string nm2)/\W.cell? ⟨n+2,1,none⟩=some (.int .i64 k2)/\W.cell? ⟨n+2,2,none⟩=some (.int .i64 id2)
theorem CBox.keep {n:Nat}{s0 s1 s2 s3 s4 nm nm2:ByteArray}{k id k2 id2:Int}{W W':World}(h:CBox n s0 s1 s2 s3 s4 nm nm2 k id k2 id2 W)(hs:W.heap.size<=W'.heap.size)(hk:∀ j,j<=2->∀ o,W'.cell? ⟨n+j,o,none⟩=W.cell? ⟨n+j,o,none⟩):CBox n s0 s1 s2 s3 s4 nm nm2 k id k2 id2 W':=by
 have h0:∀ o,W'.cell? ⟨n,o,none⟩=W.cell? ⟨n,o,none⟩:=fun o=>hk 0 (by omega) o
 unfold CBox at h ⊢
 rw[h0,h0,h0,h0,h0,hk 1 (by omega),hk 1 (by omega),hk 1 (by omega),hk 2 (by omega),hk 2 (by omega),hk 2 (by omega)]
 exact⟨by omega,h.2⟩
abbrev Five:=ByteArray×ByteArray×ByteArray×ByteArray×ByteArray
def fiveV (x:Five):Value:=.agg #[.string x.1,.string x.2.1,.string x.2.2.1,.string x.2.2.2.1,.string x.2.2.2.2]
def RowAt (v:Value)(xs:List Ent)(j:Nat)(W:World):Prop:=∀ x,xs[j]? = some x->∃ gb c,v=.slice (some ⟨gb,0,none⟩) xs.length c/\gb<W.heap.size/\W.cell? ⟨gb,j*3,none⟩=some (.string x.1)/\W.cell? ⟨gb,j*3+1,none⟩=some (.int .i64 x.2.1)/\W.cell? ⟨gb,j*3+2,none⟩=some (.int .i64 x.2.2)
def SliceOf (v:Value)(n:Nat):Prop:=∃ a c,v=.slice a n c
theorem CmpCells.ofBox {n sv bt dr ow:Nat}{s0 s1 s2 s3 s4 nm nm2:ByteArray}{k id k2 id2:Int}{W:World}(h:CBox n s0 s1 s2 s3 s4 nm nm2 k id k2 id2 W)(h0:W.cell? ⟨sv,0,none⟩=some (.pointer (some ⟨bt,0,none⟩)))(h1:W.cell? ⟨sv,1,none⟩=some (.pointer (some ⟨dr,0,none⟩)))(h2:W.cell? ⟨sv,2,none⟩=some (.map (some ow))):CmpCells n sv bt dr ow s0 s1 s2 s3 s4 nm nm2 k id k2 id2 W:=by
 obtain⟨_,a0,a1,a2,a3,a4,b0,b1,b2,d0,d1,d2⟩:=h
 exact⟨h0,h1,h2,a0,a1,a2,a3,a4,b0,b1,b2,d1,d2⟩
def Cells8 (n m:Nat)(s0 s1 s2 s3 s4 xn:ByteArray)(xk xi:Int)(W:World):Prop:=
 W.cell? ⟨n,0,none⟩=some (.string s0)/\W.cell? ⟨n,1,none⟩=some (.string s1)/\W.cell? ⟨n,2,none⟩=some (.string s2)/\W.cell? ⟨n,3,none⟩=some (.string s3)/\W.cell? ⟨n,4,none⟩=some (.string s4)/\W.cell? ⟨m,0,none⟩=some (.string xn)/\W.cell? ⟨m,1,none⟩=some (.int .i64 xk)/\W.cell? ⟨m,2,none⟩=some (.int .i64 xi)
theorem Cells8.keep {n m:Nat}{s0 s1 s2 s3 s4 xn:ByteArray}{xk xi:Int}{W W':World}(h:Cells8 n m s0 s1 s2 s3 s4 xn xk xi W)(h0:∀ o,W'.cell? ⟨n,o,none⟩=W.cell? ⟨n,o,none⟩)(h1:∀ o,W'.cell? ⟨m,o,none⟩=W.cell? ⟨m,o,none⟩):Cells8 n m s0 s1 s2 s3 s4 xn xk xi W':=by
 unfold Cells8 at h ⊢
 simp only[h0,h1]
 exact h
theorem Cells8.at_ {n m:Nat}{s0 s1 s2 s3 s4 xn:ByteArray}{xk xi:Int}{W wr:World}{ty:TypeId}(e0:W.cell? ⟨n,0,none⟩=wr.cell? ⟨n,0,none⟩)(e1:W.cell? ⟨n,1,none⟩=wr.cell? ⟨n,1,none⟩)(e2:W.cell? ⟨n,2,none⟩=wr.cell? ⟨n,2,none⟩)(e3:W.cell? ⟨n,3,none⟩=wr.cell? ⟨n,3,none⟩)(e4:W.cell? ⟨n,4,none⟩=wr.cell? ⟨n,4,none⟩)(hb:W.heap[m]? = some (.cells #[.string xn,.int .i64 xk,.int .i64 xi] ty (0,0)))(a0:wr.cell? ⟨n,0,none⟩=some (.string s0))(a1:wr.cell? ⟨n,1,none⟩=some (.string s1))(a2:wr.cell? ⟨n,2,none⟩=some (.string s2))(a3:wr.cell? ⟨n,3,none⟩=some (.string s3))(a4:wr.cell? ⟨n,4,none⟩=some (.string s4)):Cells8 n m s0 s1 s2 s3 s4 xn xk xi W:=
 ⟨e0.trans a0,e1.trans a1,e2.trans a2,e3.trans a3,e4.trans a4,cell_at hb 0,cell_at hb 1,cell_at hb 2⟩
theorem Cells8.new {n:Nat}{s0 s1 s2 s3 s4 xn:ByteArray}{xk xi:Int}{wr:World}{ty:TypeId}(hn:n<wr.heap.size)(a0:wr.cell? ⟨n,0,none⟩=some (.string s0))(a1:wr.cell? ⟨n,1,none⟩=some (.string s1))(a2:wr.cell? ⟨n,2,none⟩=some (.string s2))(a3:wr.cell? ⟨n,3,none⟩=some (.string s3))(a4:wr.cell? ⟨n,4,none⟩=some (.string s4)):Cells8 n wr.heap.size s0 s1 s2 s3 s4 xn xk xi (wr.alloc (.cells #[.string xn,.int .i64 xk,.int .i64 xi] ty)).drew:=by
 have b0:Below wr.heap.size wr (wr.alloc (.cells #[.string xn,.int .i64 xk,.int .i64 xi] ty)).drew:=below_drew ((Below.refl _ _).alloc (Nat.le_refl _) _)
 exact Cells8.at_ (b0.cell (p:=⟨n,0,none⟩) hn) (b0.cell (p:=⟨n,1,none⟩) hn) (b0.cell (p:=⟨n,2,none⟩) hn) (b0.cell (p:=⟨n,3,none⟩) hn) (b0.cell (p:=⟨n,4,none⟩) hn) (heap_alloc_new wr _) a0 a1 a2 a3 a4
theorem compare_walk (sv bt dr ow:Nat)(s0 s1 s2 s3 s4 nm nm2:ByteArray)(k id k2 id2 r:Int)(sm:Bool)(xs ys:List Ent)(hx16:xs.length<=16)(hy16:ys.length<=16)(C:ByteArray->Five)(P:ByteArray->Ent)(I:ByteArray->Int)(T:ByteArray->Bool)
  (R0 R1:World->Prop)(R2:Value->World->Prop)(S1 S2:Value->Value->Nat->World->Prop)(Q:Int->World->Prop)(w:World)(hsv:sv<w.heap.size)(v0:w.cell? ⟨sv,0,none⟩=some (.pointer (some ⟨bt,0,none⟩)))(v1:w.cell? ⟨sv,1,none⟩=some (.pointer (some ⟨dr,0,none⟩)))(v2:w.cell? ⟨sv,2,none⟩=some (.map (some ow)))
  (hobj:k=k2->sm=decide (r=id2)/\∀ W,Below w.heap.size w W->CBox w.heap.size s0 s1 s2 s3 s4 nm nm2 k id k2 id2 W->Calls Tryz.prog 65 #[.agg #[.pointer (some ⟨bt,0,none⟩),.pointer (some ⟨dr,0,none⟩),.map (some ow)],.agg #[.string s0,.string s1,.string s2,.string s3,.string s4],.agg #[.string nm,.int .i64 k,.int .i64 id]] W fun e w'=>e=.returned (.int .i64 r)/\R0 w'/\CBox w.heap.size s0 s1 s2 s3 s4 nm nm2 k id k2 id2 w'/\∀ o,w'.cell? ⟨sv,o,none⟩=W.cell? ⟨sv,o,none⟩)
  (hno:k≠k2->sm=false/\∀ W,Below w.heap.size w W->CBox w.heap.size s0 s1 s2 s3 s4 nm nm2 k id k2 id2 W->R0 W)
  (hdrew:∀ W q,R0 W->R0 (W.drewN q))
  (hend:sm=true->∀ W,R0 W->Q 0 W)
  (hnote:sm=false->∀ W,R0 W->CBox w.heap.size s0 s1 s2 s3 s4 nm nm2 k id k2 id2 W->Calls Tryz.prog 137 #[.pointer (some ⟨sv,0,none⟩),.agg #[.string s0,.string s1,.string s2,.string s3,.string s4],.bool (k == 1),.bool (k2 == 1)] W fun e w'=>e=.returned (.tuple #[])/\R1 w'/\CBox w.heap.size s0 s1 s2 s3 s4 nm nm2 k id k2 id2 w')
  (hin:∀ W,R1 W->CBox w.heap.size s0 s1 s2 s3 s4 nm nm2 k id k2 id2 W->Calls Tryz.prog 138 #[.pointer (some ⟨sv,0,none⟩),.agg #[.string s0,.string s1,.string s2,.string s3,.string s4],.agg #[.string nm,.int .i64 k,.int .i64 id]] W fun e w'=>∃ v er,e=.returned (.tuple #[v,.int .i64 er])/\((er=0/\SliceOf v xs.length/\R2 v w'/\CBox w.heap.size s0 s1 s2 s3 s4 nm nm2 k id k2 id2 w')\/(er=14/\(∃ a n c,v=.slice a n c)/\Q 14 w')))
  (hbe:∀ v W,R2 v W->CBox w.heap.size s0 s1 s2 s3 s4 nm nm2 k id k2 id2 W->Calls Tryz.prog 138 #[.pointer (some ⟨sv,0,none⟩),.agg #[.string s0,.string s1,.string s2,.string s3,.string s4],.agg #[.string nm2,.int .i64 k2,.int .i64 id2]] W fun e w'=>∃ u er,e=.returned (.tuple #[u,.int .i64 er])/\((er=0/\SliceOf u ys.length/\S1 v u 0 w')\/(er=14/\(∃ a n c,u=.slice a n c)/\Q 14 w')))
  (hbox:∀ v u j W,(S1 v u j W\/S2 v u j W)->CBox w.heap.size s0 s1 s2 s3 s4 nm nm2 k id k2 id2 W)
  (hrow1:∀ v u j W,S1 v u j W->RowAt v xs j W)
  (hrow2:∀ v u j W,S2 v u j W->RowAt u ys j W)
  (hchild:∀ x W,((∃ e ∈ xs,e.1=x)\/∃ e ∈ ys,e.1=x)->Calls Tryz.prog 126 #[.agg #[.string s0,.string s1,.string s2,.string s3,.string s4],.string x] W fun e w'=>e=.returned (fiveV (C x))/\Below W.heap.size W w')
  (hpick:∀ v u j wr,S1 v u j wr->∀ x W,Below wr.heap.size wr W->Calls Tryz.prog 139 #[u,.string x] W fun e w'=>e=.returned (entV (P x))/\Below W.heap.size W w')
  (hsea:∀ v u j wr,S2 v u j wr->∀ x W,Below wr.heap.size wr W->Calls Tryz.prog 77 #[v,.string x] W fun e w'=>e=.returned (.tuple #[.int .i64 (I x),.bool (T x)])/\Below W.heap.size W w')
  (hcmp1:∀ v u j wr,S1 v u j wr->∀ x,xs[j]? = some x->∀ W,Below wr.heap.size wr W->Calls Tryz.prog 97 #[.pointer (some ⟨sv,0,none⟩),fiveV (C x.1),entV x,entV (P x.1)] W fun e w'=>∃ er,e=.returned (.int .i64 er)/\(∀ b o,(b=w.heap.size\/b=wr.heap.size)->b<W.heap.size->w'.cell? ⟨b,o,none⟩=W.cell? ⟨b,o,none⟩)/\((er=0/\S1 v u (j+1) w')\/(er=14/\Q 14 w')))
  (hnext:∀ v u wr,S1 v u xs.length wr->S2 v u 0 wr)
  (hskip:∀ v u j wr,S2 v u j wr->∀ x,ys[j]? = some x->T x.1=true->∀ W,Below wr.heap.size wr W->S2 v u (j+1) W)
  (hcmp2:∀ v u j wr,S2 v u j wr->∀ x,ys[j]? = some x->T x.1=false->∀ W,Below wr.heap.size wr W->Calls Tryz.prog 97 #[.pointer (some ⟨sv,0,none⟩),fiveV (C x.1),.agg #[.string ByteArray.empty,.int .i64 0,.int .i64 0],entV x] W fun e w'=>∃ er,e=.returned (.int .i64 er)/\(∀ b o,(b=w.heap.size\/b=wr.heap.size)->b<W.heap.size->w'.cell? ⟨b,o,none⟩=W.cell? ⟨b,o,none⟩)/\((er=0/\S2 v u (j+1) w')\/(er=14/\Q 14 w')))
  (hdone:∀ v u wr,S2 v u ys.length wr->Q 0 wr):
  Calls Tryz.prog 97 #[.pointer (some ⟨sv,0,none⟩),.agg #[.string s0,.string s1,.string s2,.string s3,.string s4],.agg #[.string nm,.int .i64 k,.int .i64 id],.agg #[.string nm2,.int .i64 k2,.int .i64 id2]] w fun e w'=>∃ er,e=.returned (.int .i64 er)/\Q er w':=by
 have hb:Below w.heap.size w (((w.alloc (.cells #[.string s0,.string s1,.string s2,.string s3,.string s4] 104)).alloc (.cells #[.string nm,.int .i64 k,.int .i64 id] 76)).alloc (.cells #[.string nm2,.int .i64 k2,.int .i64 id2] 76)).drew:=below_drew ((((Below.refl w.heap.size w).alloc (Nat.le_refl _) _).alloc (by simp) _).alloc (by simp;omega) _)
 obtain⟨x0,x1,x2⟩:=heap_three w (.cells #[.string s0,.string s1,.string s2,.string s3,.string s4] 104) (.cells #[.string nm,.int .i64 k,.int .i64 id] 76) (.cells #[.string nm2,.int .i64 k2,.int .i64 id2] 76)
 have hSa:CmpCells w.heap.size sv bt dr ow s0 s1 s2 s3 s4 nm nm2 k id k2 id2 (((w.alloc (.cells #[.string s0,.string s1,.string s2,.string s3,.string s4] 104)).alloc (.cells #[.string nm,.int .i64 k,.int .i64 id] 76)).alloc (.cells #[.string nm2,.int .i64 k2,.int .i64 id2] 76)).drew:=
  ⟨(hb.cell (p:=⟨sv,0,none⟩) hsv).trans v0,(hb.cell (p:=⟨sv,1,none⟩) hsv).trans v1,(hb.cell (p:=⟨sv,2,none⟩) hsv).trans v2,cell_at x0 0,cell_at x0 1,cell_at x0 2,cell_at x0 3,cell_at x0 4,cell_at x1 0,cell_at x1 1,cell_at x1 2,cell_at x2 1,cell_at x2 2⟩
 have hCB:CBox w.heap.size s0 s1 s2 s3 s4 nm nm2 k id k2 id2 (((w.alloc (.cells #[.string s0,.string s1,.string s2,.string s3,.string s4] 104)).alloc (.cells #[.string nm,.int .i64 k,.int .i64 id] 76)).alloc (.cells #[.string nm2,.int .i64 k2,.int .i64 id2] 76)).drew:=
  ⟨by simp,cell_at x0 0,cell_at x0 1,cell_at x0 2,cell_at x0 3,cell_at x0 4,cell_at x1 0,cell_at x1 1,cell_at x1 2,cell_at x2 0,cell_at x2 1,cell_at x2 2⟩
 have HCB:Hid _:=hCB
 have HB:Hid _:=hb
 have HOBJ:Hid _:=hobj
 have HNO:Hid _:=hno
 have HDREW:Hid _:=hdrew
 have HEND:Hid _:=hend
 have HNOTE:Hid _:=hnote
 have HIN:Hid _:=hin
 have HBE:Hid _:=hbe
 have HBOX:Hid _:=hbox
 have HR1:Hid _:=hrow1
 have HR2:Hid _:=hrow2
 have HCH:Hid _:=hchild
 have HPK:Hid _:=hpick
 have HSE:Hid _:=hsea
 have HC1:Hid _:=hcmp1
 have HNX:Hid _:=hnext
 have HSK:Hid _:=hskip
 have HC2:Hid _:=hcmp2
 have HDO:Hid _:=hdone
 clear hCB hb hobj hno hdrew hend hnote hin hbe hbox hrow1 hrow2 hchild hpick hsea hcmp1 hnext hskip hcmp2 hdone x0 x1 x2
 go_enter Tryz.func97,Tryz.ntmps97
 go_upto_region 1 with fail
 go_cut [36] from 20 to 112 (fun c wx=>c=.bool sm/\Hid (R0 wx/\CBox w.heap.size s0 s1 s2 s3 s4 nm nm2 k id k2 id2 wx))
 case first=>
  unfold CmpCells at hSa
  by_cases hkk:k=k2
  ·obtain⟨hsm,hO⟩:=HOBJ.out hkk
   have HO:Hid _:=hO _ HB.out HCB.out
   subst hkk
   have HSM:Hid _:=hsm
   clear hsm hO HOBJ HNO HEND HNOTE HIN HBE HBOX HR1 HR2 HCH HPK HSE HC1 HNX HSK HC2 HDO HCB
   go_region_held3 (fun W=>W.cell? ⟨sv,0,none⟩=some (.pointer (some ⟨bt,0,none⟩))/\W.cell? ⟨sv,1,none⟩=some (.pointer (some ⟨dr,0,none⟩))/\W.cell? ⟨sv,2,none⟩=some (.map (some ow))/\W.cell? ⟨w.heap.size,0,none⟩=some (.string s0)/\W.cell? ⟨w.heap.size,1,none⟩=some (.string s1)/\W.cell? ⟨w.heap.size,2,none⟩=some (.string s2)/\W.cell? ⟨w.heap.size,3,none⟩=some (.string s3)/\W.cell? ⟨w.heap.size,4,none⟩=some (.string s4)/\W.cell? ⟨w.heap.size+1,0,none⟩=some (.string nm)/\W.cell? ⟨w.heap.size+1,1,none⟩=some (.int .i64 k)/\W.cell? ⟨w.heap.size+1,2,none⟩=some (.int .i64 id)/\W.cell? ⟨w.heap.size+2,1,none⟩=some (.int .i64 k)/\W.cell? ⟨w.heap.size+2,2,none⟩=some (.int .i64 id2))
    (first | exact hSa | exact hSc)
    (first
    | (go_at_call 65;refine Calls.mono HO.out ?_;rintro e w3 ⟨rfl,hR,hB3,hc3⟩;have hSc:=CmpCells.ofBox hB3 ((hc3 0).trans hSa.1) ((hc3 1).trans hSa.2.1) ((hc3 2).trans hSa.2.2.1);unfold CmpCells at hSc;have HR:Hid _:=And.intro hR hB3;clear hR hB3 hc3))
   all_goals
    go_wp2_with fail
    go_meet
    refine⟨?_,?_⟩
    ·rw[HSM.out];first | rfl | (congr 1;simp) | simp
    ·exact HR.out
  ·obtain⟨hsm,hO⟩:=HNO.out hkk
   have HO:Hid _:=fun q=>HDREW.out _ q (hO (((w.alloc (.cells #[.string s0,.string s1,.string s2,.string s3,.string s4] 104)).alloc (.cells #[.string nm,.int .i64 k,.int .i64 id] 76)).alloc (.cells #[.string nm2,.int .i64 k2,.int .i64 id2] 76)) ((((Below.refl w.heap.size w).alloc (Nat.le_refl _) _).alloc (by simp) _).alloc (by simp;omega) _) HCB.out)
   have hkb:(k == k2)=false:=by simpa using hkk
   subst hsm
   clear hO HOBJ HNO HEND HNOTE HIN HBE HBOX HR1 HR2 HCH HPK HSE HC1 HNX HSK HC2 HDO
   go_quiet (fail)
   all_goals
    go_wp2_with fail
    go_meet
    exact⟨rfl,HO.out _,HCB.out⟩
 case rest=>
  obtain⟨rfl,HR⟩:=hcut
  clear hSa HOBJ HNO HCB HB
  cases hsm:sm with
  | true=>
   have HQ:Hid _:=HEND.out hsm _ HR.out.1
   subst hsm
   go_wp2
   go_ret
   exact⟨0,rfl,HQ.out⟩
  | false=>
   have HN:Hid _:=HNOTE.out hsm _ HR.out.1 HR.out.2
   obtain⟨hz,a0,a1,a2,a3,a4,b0,b1,b2,d0,d1,d2⟩:=HR.out.2
   subst hsm
   clear HEND HNOTE HR
   go_wp2_with fail
   refine Calls.mono HN.out ?_
   rintro e w2 ⟨rfl,hR1,hB1⟩
   have HI:Hid _:=HIN.out _ hR1 hB1
   clear hz a0 a1 a2 a3 a4 b0 b1 b2 d0 d1 d2 HN HIN hR1
   obtain⟨hz,a0,a1,a2,a3,a4,b0,b1,b2,d0,d1,d2⟩:=hB1
   go_wp2_with fail
   refine Calls.mono HI.out ?_
   rintro e w3 ⟨v,er,rfl,⟨rfl,⟨va,vc,rfl⟩,hR2,hB2⟩ | ⟨rfl,⟨va,vn,vc,rfl⟩,hQ⟩⟩
   ·have HBB:Hid _:=HBE.out _ _ hR2 hB2
    clear hz a0 a1 a2 a3 a4 b0 b1 b2 d0 d1 d2 HI HBE hR2
    obtain⟨hz,a0,a1,a2,a3,a4,b0,b1,b2,d0,d1,d2⟩:=hB2
    go_wp2_with fail
    refine Calls.mono HBB.out ?_
    rintro e w4 ⟨u,er,rfl,⟨rfl,⟨ua,uc,rfl⟩,hS⟩ | ⟨rfl,⟨ua,un,uc,rfl⟩,hQ⟩⟩
    ·have HS:Hid _:=hS
     clear hz a0 a1 a2 a3 a4 b0 b1 b2 d0 d1 d2 HBB hS
     obtain⟨m,hm⟩:∃ m,m=xs.length:=⟨_,rfl⟩
     obtain⟨m',hm'⟩:∃ m',m'=ys.length:=⟨_,rfl⟩
     have HM:Hid _:=hm
     have HM':Hid _:=hm'
     rw[<- hm] at hx16 ⊢
     rw[<- hm'] at hy16 ⊢
     rw[<- hm,<- hm'] at HS
     clear hm hm'
     go_wp2
     go_loopw [68] (fun iv wr=>∃ j:Nat,j<=m/\iv=.int .i64 (j:Int)/\Hid (S1 (.slice va m vc) (.slice ua m' uc) j wr)) (fun iv _=>m-(intOf iv).toNat)
     case atStart=>exact⟨0,Nat.zero_le _,rfl,HS⟩
     case round=>
      obtain⟨j,hj,rfl,HJ⟩:=hrel
      rename World=>wr
      obtain⟨hz,a0,a1,a2,a3,a4,_⟩:=HBOX.out _ _ _ _ (.inl HJ.out)
      by_cases hjm:j<m
      ·have hjx:j<xs.length:=by rw[<- HM.out];exact hjm
       have hxe:xs[j]? = some xs[j]:=List.getElem?_eq_getElem hjx
       obtain⟨gb,c,ev,hgb,r0,r1,r2⟩:=HR1.out _ _ _ _ HJ.out _ hxe
       cases ev
       have HCHx:Hid _:=fun W=>HCH.out (xs[j]).1 W (.inl ⟨_,List.getElem_mem hjx,rfl⟩)
       have HPKx:Hid _:=HPK.out _ _ _ _ HJ.out (xs[j]).1
       have HCx:Hid _:=HC1.out _ _ _ _ HJ.out _ hxe
       clear hxe
       generalize C (xs[j]).1=ch at HCHx HCx
       generalize P (xs[j]).1=pk at HPKx HCx
       generalize xs[j]=x at r0 r1 r2 HCHx HPKx HCx
       obtain⟨xn,xk,xi⟩:=x
       obtain⟨c0,c1,c2,c3,c4⟩:=ch
       obtain⟨pn,pkk,pid⟩:=pk
       simp only[fiveV,entV] at r0 r1 r2 HCHx HPKx HCx
       have b0:Below wr.heap.size wr (wr.alloc (.cells #[.string xn,.int .i64 xk,.int .i64 xi] 76)).drew:=below_drew ((Below.refl _ _).alloc (Nat.le_refl _) _)
       have hz0:wr.heap.size<(wr.alloc (.cells #[.string xn,.int .i64 xk,.int .i64 xi] 76)).drew.heap.size:=by simp
       have hSa:Cells8 w.heap.size wr.heap.size s0 s1 s2 s3 s4 xn xk xi (wr.alloc (.cells #[.string xn,.int .i64 xk,.int .i64 xi] 76)).drew:=Cells8.new (by omega) a0 a1 a2 a3 a4
       go_wp2
       unfold Cells8 at hSa
       go_region_held3 (fun W=>W.cell? ⟨w.heap.size,0,none⟩=some (.string s0)/\W.cell? ⟨w.heap.size,1,none⟩=some (.string s1)/\W.cell? ⟨w.heap.size,2,none⟩=some (.string s2)/\W.cell? ⟨w.heap.size,3,none⟩=some (.string s3)/\W.cell? ⟨w.heap.size,4,none⟩=some (.string s4)/\W.cell? ⟨wr.heap.size,0,none⟩=some (.string xn)/\W.cell? ⟨wr.heap.size,1,none⟩=some (.int .i64 xk)/\W.cell? ⟨wr.heap.size,2,none⟩=some (.int .i64 xi))
        (first | exact hSa | exact hSc | exact hSb)
        (first
        | (go_at_call 126;refine Calls.mono (HCHx.out _) ?_;rintro e w5 ⟨rfl,hb5⟩;replace hSa:=Cells8.keep (n:=w.heap.size) (m:=wr.heap.size) hSa (fun o=>(bcell hb5).1 _ o (by omega)) (fun o=>(bcell hb5).1 _ o hz0);unfold Cells8 at hSa;replace b0:=below_via b0 hb5;replace hz0:=Nat.lt_of_lt_of_le hz0 hb5.size)
        | (go_at_call 139;refine Calls.mono (HPKx.out _ b0) ?_;rintro e w6 ⟨rfl,hb6⟩;replace hSa:=Cells8.keep (n:=w.heap.size) (m:=wr.heap.size) hSa (fun o=>(bcell hb6).1 _ o (by omega)) (fun o=>(bcell hb6).1 _ o hz0);unfold Cells8 at hSa;replace b0:=below_via b0 hb6;replace hz0:=Nat.lt_of_lt_of_le hz0 hb6.size)
        | (go_at_call 97;refine Calls.mono (HCx.out _ b0) ?_;rintro e w7 ⟨er,rfl,hk7,hE⟩;replace hSa:=Cells8.keep (n:=w.heap.size) (m:=wr.heap.size) hSa (fun o=>hk7 _ o (.inl rfl) (by omega)) (fun o=>hk7 _ o (.inr rfl) hz0);unfold Cells8 at hSa;have HE:Hid _:=hE;clear hE hk7))
       all_goals
        rcases HE.out with ⟨rfl,hS7⟩ | ⟨rfl,hQ7⟩
        ·have HS7:Hid _:=hS7
         clear HE hS7
         go_wp2
         exact⟨⟨j+1,by omega,by simp,HS7⟩,by simp[intOf];omega⟩
        ·have HQ7:Hid _:=hQ7
         clear HE hQ7
         go_wp2
         go_ret
         exact⟨14,rfl,HQ7.out⟩
      ·have hje:j=m:=by omega
       have HS2:Hid _:=HNX.out _ _ _ (show S1 _ _ xs.length wr by rw[<- HM.out,<- hje];exact HJ.out)
       clear HJ hje HC1 HPK HR1 HNX
       go_wp2
       clear hjm hj
       go_loopw [89] (fun iv wr=>∃ j:Nat,j<=m'/\iv=.int .i64 (j:Int)/\Hid (S2 (.slice va m vc) (.slice ua m' uc) j wr)) (fun iv _=>m'-(intOf iv).toNat)
       case atStart=>exact⟨0,Nat.zero_le _,rfl,HS2⟩
       case round=>
        obtain⟨j,hj,rfl,HJ⟩:=hrel
        rename World=>wr
        obtain⟨hz,a0,a1,a2,a3,a4,_⟩:=HBOX.out _ _ _ _ (.inr HJ.out)
        by_cases hjm:j<m'
        ·have hjx:j<ys.length:=by rw[<- HM'.out];exact hjm
         have hxe:ys[j]? = some ys[j]:=List.getElem?_eq_getElem hjx
         obtain⟨gb,c,ev,hgb,r0,r1,r2⟩:=HR2.out _ _ _ _ HJ.out _ hxe
         cases ev
         have HCHx:Hid _:=fun W=>HCH.out (ys[j]).1 W (.inr ⟨_,List.getElem_mem hjx,rfl⟩)
         have HSEx:Hid _:=HSE.out _ _ _ _ HJ.out (ys[j]).1
         have HCx:Hid _:=HC2.out _ _ _ _ HJ.out _ hxe
         have HSKx:Hid _:=HSK.out _ _ _ _ HJ.out _ hxe
         clear hxe
         generalize T (ys[j]).1=th at HSEx HCx HSKx
         generalize I (ys[j]).1=ix at HSEx
         generalize C (ys[j]).1=ch at HCHx HCx
         generalize ys[j]=x at r0 r1 r2 HCHx HSEx HCx HSKx
         obtain⟨xn,xk,xi⟩:=x
         obtain⟨c0,c1,c2,c3,c4⟩:=ch
         simp only[fiveV,entV] at r0 r1 r2 HCHx HSEx HCx
         have b0:Below wr.heap.size wr (wr.alloc (.cells #[.string xn,.int .i64 xk,.int .i64 xi] 76)):=(Below.refl _ _).alloc (Nat.le_refl _) _
         have hz0:wr.heap.size<(wr.alloc (.cells #[.string xn,.int .i64 xk,.int .i64 xi] 76)).heap.size:=by simp
         have hy0:=heap_alloc_new wr (.cells #[.string xn,.int .i64 xk,.int .i64 xi] 76)
         have HSEy:Hid _:=HSEx.out _ b0
         clear HSEx
         go_wp2_with fail
         refine Calls.mono HSEy.out ?_
         rintro e w5 ⟨rfl,hb5⟩
         have b5:Below wr.heap.size wr w5:=below_via b0 hb5
         cases th with
         | true=>
          have HSS:Hid _:=HSKx.out rfl _ b5
          clear HCx HSKx HCHx
          go_wp2
          exact⟨⟨j+1,by omega,by simp,HSS⟩,by simp[intOf];omega⟩
         | false=>
          have HCy:Hid _:=HCx.out rfl
          clear HCx HSKx
          have y5:=(hb5.block wr.heap.size hz0).trans hy0
          have hsz5:wr.heap.size<w5.heap.size:=Nat.lt_of_lt_of_le hz0 hb5.size
          have bd:Below w5.heap.size w5 w5.drew:=below_drew (Below.refl _ _)
          have bw:Below wr.heap.size wr w5.drew:=below_via b5 bd
          have hwz:w.heap.size<wr.heap.size:=(by omega)
          have hSa:Cells8 w.heap.size wr.heap.size s0 s1 s2 s3 s4 xn xk xi w5.drew:=Cells8.at_ (bw.cell (p:=⟨w.heap.size,0,none⟩) hwz) (bw.cell (p:=⟨w.heap.size,1,none⟩) hwz) (bw.cell (p:=⟨w.heap.size,2,none⟩) hwz) (bw.cell (p:=⟨w.heap.size,3,none⟩) hwz) (bw.cell (p:=⟨w.heap.size,4,none⟩) hwz) y5 a0 a1 a2 a3 a4
          replace hz0:wr.heap.size<w5.drew.heap.size:=hsz5
          have hzw:w.heap.size<w5.drew.heap.size:=(by have:=b5.size;show _<w5.heap.size;omega)
          go_wp2
          unfold Cells8 at hSa
          go_region_held3 (fun W=>W.cell? ⟨w.heap.size,0,none⟩=some (.string s0)/\W.cell? ⟨w.heap.size,1,none⟩=some (.string s1)/\W.cell? ⟨w.heap.size,2,none⟩=some (.string s2)/\W.cell? ⟨w.heap.size,3,none⟩=some (.string s3)/\W.cell? ⟨w.heap.size,4,none⟩=some (.string s4)/\W.cell? ⟨wr.heap.size,0,none⟩=some (.string xn)/\W.cell? ⟨wr.heap.size,1,none⟩=some (.int .i64 xk)/\W.cell? ⟨wr.heap.size,2,none⟩=some (.int .i64 xi))
           (first | exact hSa | exact hSc | exact hSb)
           (first
           | (go_at_call 126;refine Calls.mono (HCHx.out _) ?_;rintro e w6 ⟨rfl,hb6⟩;replace hSa:=Cells8.keep (n:=w.heap.size) (m:=wr.heap.size) hSa (fun o=>(bcell hb6).1 _ o hzw) (fun o=>(bcell hb6).1 _ o hz0);unfold Cells8 at hSa;replace bw:=below_via bw hb6;replace hz0:=Nat.lt_of_lt_of_le hz0 hb6.size;replace hzw:=Nat.lt_of_lt_of_le hzw hb6.size)
           | (go_at_call 97;refine Calls.mono (HCy.out _ bw) ?_;rintro e w7 ⟨er,rfl,hk7,hE⟩;replace hSa:=Cells8.keep (n:=w.heap.size) (m:=wr.heap.size) hSa (fun o=>hk7 _ o (.inl rfl) hzw) (fun o=>hk7 _ o (.inr rfl) hz0);unfold Cells8 at hSa;have HE:Hid _:=hE;clear hE hk7))
          all_goals
           rcases HE.out with ⟨rfl,hS7⟩ | ⟨rfl,hQ7⟩
           ·have HS7:Hid _:=hS7
            clear HE hS7
            go_wp2
            exact⟨⟨j+1,by omega,by simp,HS7⟩,by simp[intOf];omega⟩
           ·have HQ7:Hid _:=hQ7
            clear HE hQ7
            go_wp2
            go_ret
            exact⟨14,rfl,HQ7.out⟩
        ·have hje:j=m':=by omega
         have HQ:Hid _:=HDO.out _ _ _ (show S2 _ _ ys.length wr by rw[<- HM'.out,<- hje];exact HJ.out)
         clear HJ hje
         go_wp2
         go_ret
         exact⟨0,rfl,HQ.out⟩
    ·go_wp2
     go_ret
     exact⟨14,rfl,hQ⟩
   ·go_wp2
    go_ret
    exact⟨14,rfl,hQ⟩
end Go.Proofs.YtajopoddmfdejaaGreat
