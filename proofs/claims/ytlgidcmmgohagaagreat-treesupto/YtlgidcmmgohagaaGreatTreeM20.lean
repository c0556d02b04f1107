/-
  What is proved here: of paths: Child, Below, Moved. of paths: Moved. a row of paths in memory, and what comes out of a map by paths that is gone through. of paths: Below. 'carry' over the map of a tree's own ..
-/
import Derived.Test.YtlgidcmmgohagaaGreatTreeM19
import Derived.Test.YtlgidcmmgohagaaGreatTreeM16
import Derived.Deep.RegionHeld3
namespace Go.Proofs.YtlgidcmmgohagaaGreat
open Go.RowKit Go.Sort Go.Shelf
set_option linter.unusedVariables false
set_option maxRecDepth 100000
set_option maxHeartbeats 16000000
theorem child_0 (s0 s1 s2 s3 s4 x:ByteArray)(w:World)
  (hd:∀ W,Calls Tryz.prog 142 #[.agg #[.string s0,.string s1,.string s2,.string s3,.string s4]] W fun e w'=>e=.returned (.int .i64 0)/\Below W.heap.size W w'):
  Calls Tryz.prog 196 #[.agg #[.string s0,.string s1,.string s2,.string s3,.string s4],.string x] w fun e w'=>e=.returned (.agg #[.string x,.string s1,.string s2,.string s3,.string s4])/\Below w.heap.size w w':=by
 go_enter Tryz.func196,Tryz.ntmps196
 go_wp2_with (go_at_call 142;refine (hd _).mono ?_;rintro e w1 ⟨rfl,hb1⟩;have hz:=two_size0 hb1;obtain⟨hz0,hz1⟩:=hz;have k1:=fun o=>(bcell hb1).1 w.heap.size o (by simp;omega);have f1:=fun o=>(bcell hb1).2 w.heap.size o (by simp;omega);have k2:=fun o=>(bcell hb1).1 (w.heap.size+1) o (by simp);have f2:=fun o=>(bcell hb1).2 (w.heap.size+1) o (by simp))
 exact bodyPost_ret (v:=.agg #[.string x,.string s1,.string s2,.string s3,.string s4]) (by simp[results,Tryz.results196,go_sem,k2]) rfl ⟨rfl,by
   have h1:Below w.heap.size w w1:=below_via (((Below.refl _ _).alloc (Nat.le_refl _) _).alloc (by simp) _) hb1
   repeat (refine Below.setCell ?_ (by simp) _)
   exact h1⟩
theorem child_1 (s0 s1 s2 s3 s4 x:ByteArray)(w:World)
  (hd:∀ W,Calls Tryz.prog 142 #[.agg #[.string s0,.string s1,.string s2,.string s3,.string s4]] W fun e w'=>e=.returned (.int .i64 1)/\Below W.heap.size W w'):
  Calls Tryz.prog 196 #[.agg #[.string s0,.string s1,.string s2,.string s3,.string s4],.string x] w fun e w'=>e=.returned (.agg #[.string s0,.string x,.string s2,.string s3,.string s4])/\Below w.heap.size w w':=by
 go_enter Tryz.func196,Tryz.ntmps196
 go_wp2_with (go_at_call 142;refine (hd _).mono ?_;rintro e w1 ⟨rfl,hb1⟩;have hz:=two_size0 hb1;obtain⟨hz0,hz1⟩:=hz;have k1:=fun o=>(bcell hb1).1 w.heap.size o (by simp;omega);have f1:=fun o=>(bcell hb1).2 w.heap.size o (by simp;omega);have k2:=fun o=>(bcell hb1).1 (w.heap.size+1) o (by simp);have f2:=fun o=>(bcell hb1).2 (w.heap.size+1) o (by simp))
 exact bodyPost_ret (v:=.agg #[.string s0,.string x,.string s2,.string s3,.string s4]) (by simp[results,Tryz.results196,go_sem,k2]) rfl ⟨rfl,by
   have h1:Below w.heap.size w w1:=below_via (((Below.refl _ _).alloc (Nat.le_refl _) _).alloc (by simp) _) hb1
   repeat (refine Below.setCell ?_ (by simp) _)
   exact h1⟩
theorem child_2 (s0 s1 s2 s3 s4 x:ByteArray)(w:World)
  (hd:∀ W,Calls Tryz.prog 142 #[.agg #[.string s0,.string s1,.string s2,.string s3,.string s4]] W fun e w'=>e=.returned (.int .i64 2)/\Below W.heap.size W w'):
  Calls Tryz.prog 196 #[.agg #[.string s0,.string s1,.string s2,.string s3,.string s4],.string x] w fun e w'=>e=.returned (.agg #[.string s0,.string s1,.string x,.string s3,.string s4])/\Below w.heap.size w w':=by
 go_enter Tryz.func196,Tryz.ntmps196
 go_wp2_with (go_at_call 142;refine (hd _).mono ?_;rintro e w1 ⟨rfl,hb1⟩;have hz:=two_size0 hb1;obtain⟨hz0,hz1⟩:=hz;have k1:=fun o=>(bcell hb1).1 w.heap.size o (by simp;omega);have f1:=fun o=>(bcell hb1).2 w.heap.size o (by simp;omega);have k2:=fun o=>(bcell hb1).1 (w.heap.size+1) o (by simp);have f2:=fun o=>(bcell hb1).2 (w.heap.size+1) o (by simp))
 exact bodyPost_ret (v:=.agg #[.string s0,.string s1,.string x,.string s3,.string s4]) (by simp[results,Tryz.results196,go_sem,k2]) rfl ⟨rfl,by
   have h1:Below w.heap.size w w1:=below_via (((Below.refl _ _).alloc (Nat.le_refl _) _).alloc (by simp) _) hb1
   repeat (refine Below.setCell ?_ (by simp) _)
   exact h1⟩
theorem child_3 (s0 s1 s2 s3 s4 x:ByteArray)(w:World)
  (hd:∀ W,Calls Tryz.prog 142 #[.agg #[.string s0,.string s1,.string s2,.string s3,.string s4]] W fun e w'=>e=.returned (.int .i64 3)/\Below W.heap.size W w'):
  Calls Tryz.prog 196 #[.agg #[.string s0,.string s1,.string s2,.string s3,.string s4],.string x] w fun e w'=>e=.returned (.agg #[.string s0,.string s1,.string s2,.string x,.string s4])/\Below w.heap.size w w':=by
 go_enter Tryz.func196,Tryz.ntmps196
 go_wp2_with (go_at_call 142;refine (hd _).mono ?_;rintro e w1 ⟨rfl,hb1⟩;have hz:=two_size0 hb1;obtain⟨hz0,hz1⟩:=hz;have k1:=fun o=>(bcell hb1).1 w.heap.size o (by simp;omega);have f1:=fun o=>(bcell hb1).2 w.heap.size o (by simp;omega);have k2:=fun o=>(bcell hb1).1 (w.heap.size+1) o (by simp);have f2:=fun o=>(bcell hb1).2 (w.heap.size+1) o (by simp))
 exact bodyPost_ret (v:=.agg #[.string s0,.string s1,.string s2,.string x,.string s4]) (by simp[results,Tryz.results196,go_sem,k2]) rfl ⟨rfl,by
   have h1:Below w.heap.size w w1:=below_via (((Below.refl _ _).alloc (Nat.le_refl _) _).alloc (by simp) _) hb1
   repeat (refine Below.setCell ?_ (by simp) _)
   exact h1⟩
theorem child_4 (s0 s1 s2 s3 s4 x:ByteArray)(w:World)
  (hd:∀ W,Calls Tryz.prog 142 #[.agg #[.string s0,.string s1,.string s2,.string s3,.string s4]] W fun e w'=>e=.returned (.int .i64 4)/\Below W.heap.size W w'):
  Calls Tryz.prog 196 #[.agg #[.string s0,.string s1,.string s2,.string s3,.string s4],.string x] w fun e w'=>e=.returned (.agg #[.string s0,.string s1,.string s2,.string s3,.string x])/\Below w.heap.size w w':=by
 go_enter Tryz.func196,Tryz.ntmps196
 go_wp2_with (go_at_call 142;refine (hd _).mono ?_;rintro e w1 ⟨rfl,hb1⟩;have hz:=two_size0 hb1;obtain⟨hz0,hz1⟩:=hz;have k1:=fun o=>(bcell hb1).1 w.heap.size o (by simp;omega);have f1:=fun o=>(bcell hb1).2 w.heap.size o (by simp;omega);have k2:=fun o=>(bcell hb1).1 (w.heap.size+1) o (by simp);have f2:=fun o=>(bcell hb1).2 (w.heap.size+1) o (by simp))
 exact bodyPost_ret (v:=.agg #[.string s0,.string s1,.string s2,.string s3,.string x]) (by simp[results,Tryz.results196,go_sem,k2]) rfl ⟨rfl,by
   have h1:Below w.heap.size w w1:=below_via (((Below.refl _ _).alloc (Nat.le_refl _) _).alloc (by simp) _) hb1
   repeat (refine Below.setCell ?_ (by simp) _)
   exact h1⟩
theorem child_any (l:List ByteArray)(hg:Good l)(h4:l.length<=4)(x:ByteArray)(w:World):Calls Tryz.prog 196 #[pathV l,.string x] w fun e w'=>e=.returned (pathV (l ++ [x]))/\Below w.heap.size w w':=by
 have hd:=fun W=>depth_any l hg.val hg.len W
 match l,h4,hd with
 | [],_,hd=>exact child_0 _ _ _ _ _ x w hd
 | [a],_,hd=>exact child_1 _ _ _ _ _ x w hd
 | [a,b],_,hd=>exact child_2 _ _ _ _ _ x w hd
 | [a,b,c],_,hd=>exact child_3 _ _ _ _ _ x w hd
 | [a,b,c,d],_,hd=>exact child_4 _ _ _ _ _ x w hd
theorem pathA_get (l:List ByteArray)(j:Nat):(pathA l).toList[j]? = if j<5 then some (.string (l.getD j ⟨#[]⟩)) else none:=by
 by_cases h:j<5
 ·rw[if_pos h]
  rcases (show j=0\/j=1\/j=2\/j=3\/j=4 by omega) with rfl | rfl | rfl | rfl | rfl <;> rfl
 ·rw[if_neg h];exact List.getElem?_eq_none (by show 5<=j;omega)
def movedCells (p:List ByteArray)(f d:Nat):List Value:=((pathA p).toList.drop f).take (Nat.min (5-f) (5-d))
theorem moved_len (p:List ByteArray)(f d:Nat):(movedCells p f d).length=Nat.min (5-f) (5-d):=by
 have:(pathA p).toList.length=5:=rfl
 unfold movedCells
 rw[List.length_take,List.length_drop,this]
 exact Nat.min_eq_left (Nat.min_le_left _ _)
theorem moved_row {src dst r:List ByteArray}(hs:src.length+r.length<=5)(hd:dst.length+r.length<=5):
  (pathA dst).toList.take dst.length++movedCells (src++r) src.length dst.length++(pathA dst).toList.drop (dst.length+(movedCells (src++r) src.length dst.length).length)=(pathA (dst++r)).toList:=by
 have hl:(pathA dst).toList.length=5:=rfl
 have hk:=moved_len (src++r) src.length dst.length
 generalize hkk:Nat.min (5-src.length) (5-dst.length)=k at hk
 have hk1:k<=5-dst.length:=by rw[<- hkk];exact Nat.min_le_right _ _
 have hk2:r.length<=k:=by rw[<- hkk];exact Nat.le_min.2 ⟨by omega,by omega⟩
 have hk3:k<=5-src.length:=by rw[<- hkk];exact Nat.min_le_left _ _
 refine List.ext_getElem? fun j=>?_
 rw[pathA_get]
 by_cases h1:j<dst.length
 ·rw[List.getElem?_append_left (by rw[List.length_append,List.length_take,hl];omega),List.getElem?_append_left (by rw[List.length_take,hl];omega),List.getElem?_take_of_lt h1,pathA_get,if_pos (by omega),if_pos (by omega)]
  rw[List.getD_eq_getElem?_getD,List.getD_eq_getElem?_getD,List.getElem?_append_left h1]
 ·by_cases h2:j<dst.length+k
  ·rw[List.getElem?_append_left (by rw[List.length_append,List.length_take,hl,hk];omega),List.getElem?_append_right (by rw[List.length_take,hl];omega),List.length_take,hl,Nat.min_eq_left (by omega)]
   unfold movedCells
   rw[hkk,List.getElem?_take_of_lt (by omega),List.getElem?_drop,pathA_get,if_pos (by omega),if_pos (by omega)]
   rw[List.getD_eq_getElem?_getD,List.getD_eq_getElem?_getD,List.getElem?_append_right (by omega),List.getElem?_append_right (by omega)]
   congr 3
   congr 1
   omega
  ·rw[List.getElem?_append_right (by rw[List.length_append,List.length_take,hl,hk];omega),List.length_append,List.length_take,hl,hk,List.getElem?_drop,pathA_get,Nat.min_eq_left (by omega)]
   rw[show dst.length+k+(j-(dst.length+k))=j by omega]
   by_cases h3:j<5
   ·rw[if_pos h3,if_pos h3,List.getD_eq_getElem?_getD,List.getD_eq_getElem?_getD,List.getElem?_eq_none (by omega),List.getElem?_eq_none (by rw[List.length_append];omega)]
   ·rw[if_neg h3,if_neg h3]
def offP (d:Nat):Nat:=if d=5 then 0 else d
theorem slP (b d:Nat)(hd:d<=5)(W:World):(Instr.sliceAt 147 (.pointer (some ⟨b,0,none⟩)) (some (.int .i64 (d:Int))) none none).run Tryz.prog W=.ok (.slice (some ⟨b,offP d,none⟩) (5-d) (5-d)) W:=by
 rcases (show d=0\/d=1\/d=2\/d=3\/d=4\/d=5 by omega) with rfl | rfl | rfl | rfl | rfl | rfl <;> kernel_rfl
theorem moved_off {src dst r:List ByteArray}(hs:src.length+r.length<=5)(hd:dst.length+r.length<=5):
  (pathA dst).toList.take (offP dst.length)++movedCells (src++r) src.length dst.length++(pathA dst).toList.drop (offP dst.length+(movedCells (src++r) src.length dst.length).length)=(pathA (dst++r)).toList:=by
 unfold offP
 by_cases h:dst.length=5
 ·have hr:r = []:=List.length_eq_zero_iff.1 (by omega)
  have h0:movedCells (src++r) src.length dst.length = []:=List.length_eq_zero_iff.1 (by rw[moved_len,h];exact Nat.le_zero.1 (Nat.min_le_right _ _))
  rw[h0,if_pos h,hr]
  simp
 ·rw[if_neg h];exact moved_row hs hd
def four (w:World)(p src dst:List ByteArray):World:=(((w.alloc (.cells (pathA p) 147)).alloc (.cells (pathA src) 147)).alloc (.cells (pathA dst) 147)).alloc (.cells (pathA []) 147)
theorem four_size (w:World)(p src dst:List ByteArray):(four w p src dst).heap.size=w.heap.size+4:=by unfold four;simp only[World.size_alloc]
theorem four_below (w:World)(p src dst:List ByteArray):Below w.heap.size w (four w p src dst):=by
 unfold four
 exact ((((Below.refl w.heap.size w).alloc (Nat.le_refl _) _).alloc (by simp) _).alloc (by simp;omega) _).alloc (by simp;omega) _
theorem four_at (w:World)(p src dst:List ByteArray):(four w p src dst).heap[w.heap.size]? = some (.cells (pathA p) 147 (0,0))/\(four w p src dst).heap[w.heap.size+2]? = some (.cells (pathA dst) 147 (0,0))/\(four w p src dst).heap[w.heap.size+3]? = some (.cells (pathA []) 147 (0,0)):=by
 unfold four World.alloc
 refine⟨?_,?_,?_⟩
 ·rw[Array.getElem?_push_lt (by simp;omega),Array.getElem_push_lt (by simp;omega),Array.getElem_push_lt (by simp),Array.getElem_push_eq]
 ·rw[Array.getElem?_push_lt (by simp),Array.getElem_push,dif_neg (by simp)]
 ·rw[Array.getElem?_push,if_pos (by simp)]
theorem copy_moved {w W:World}{src dst r:List ByteArray}(hs:src.length+r.length<=5)(hd:dst.length+r.length<=5)(hb:Below (four w (src++r) src dst).heap.size (four w (src++r) src dst) W):
  ∃ w3,(∀ ty,(Builtin.copy_ #[131,131] ty #[.slice (some ⟨w.heap.size+2,offP dst.length,none⟩) (5-dst.length) (5-dst.length),.slice (some ⟨w.heap.size,offP src.length,none⟩) (5-src.length) (5-src.length)]).run Tryz.prog W=.ok (goInt (Nat.min (5-src.length) (5-dst.length))) w3)/\Below w.heap.size w w3/\w.heap.size+3<w3.heap.size/\
   w3.heap[w.heap.size+2]? = some (.cells (pathA (dst++r)) 147 (0,0))/\w3.heap[w.heap.size+3]? = some (.cells (pathA []) 147 (0,0)):=by
 have hz:=four_size w (src++r) src dst
 obtain⟨h0,h2,h3⟩:=four_at w (src++r) src dst
 have g0:W.heap[w.heap.size]? = _:=(hb.block _ (by omega)).trans h0
 have g2:W.heap[w.heap.size+2]? = _:=(hb.block _ (by omega)).trans h2
 have g3:W.heap[w.heap.size+3]? = _:=(hb.block _ (by omega)).trans h3
 have hk:=moved_len (src++r) src.length dst.length
 have hrow:=moved_off hs hd
 have hsz5:(pathA dst).size=5:=rfl
 have hfit:offP dst.length+(movedCells (src++r) src.length dst.length).length<=(pathA dst).size:=by
  rw[hk,hsz5]
  have h1:Nat.min (5-src.length) (5-dst.length)<=5-dst.length:=Nat.min_le_right _ _
  unfold offP;split <;> omega
 have hone:∀ v ∈ movedCells (src++r) src.length dst.length,v.oneCell'=true:=fun v hv=>by
  unfold movedCells at hv
  have:=List.mem_of_mem_drop (List.mem_of_mem_take hv)
  simp only[pathA,List.mem_cons,List.not_mem_nil,or_false] at this
  rcases this with rfl | rfl | rfl | rfl | rfl <;> rfl
 have hsrc:∀ j v,(movedCells (src++r) src.length dst.length)[j]? = some v->W.cell? ((⟨w.heap.size,offP src.length,none⟩:Addr).add j)=some v:=fun j v hv=>by
  have hj:j<Nat.min (5-src.length) (5-dst.length):=by rw[<- hk];exact (List.getElem?_eq_some_iff.1 hv).1
  have hj5:j<5-src.length:=Nat.lt_of_lt_of_le hj (Nat.min_le_left _ _)
  unfold movedCells at hv
  rw[List.getElem?_take_of_lt hj,List.getElem?_drop] at hv
  have ho:offP src.length=src.length:=if_neg (by omega)
  rw[ho]
  have hadd:(⟨w.heap.size,src.length,none⟩:Addr).add j=⟨w.heap.size,src.length+j,none⟩:=by
   unfold Addr.add
   by_cases h0:j=0
   ·subst h0;rfl
   ·rw[if_neg h0]
  rw[hadd]
  simp only[World.cell?,g0]
  rw[Array.getElem?_toList] at hv
  exact hv
 have hrun:=fun ty=>run_copyK (P:=Tryz.prog) W 131 131 ty 9 1 (w.heap.size+2) (offP dst.length) (5-dst.length) (5-dst.length) ⟨w.heap.size,offP src.length,none⟩ (5-src.length) (5-src.length) (pathA dst) 147 (movedCells (src++r) src.length dst.length) Tryz.underlying131 (by kernel_rfl) g2 (by rw[hk,Nat.mul_one]) hsrc hfit hone
 rw[hrow] at hrun
 refine⟨_,hrun,?_,?_,?_,?_⟩
 ·exact below_setRow ((four_below w (src++r) src dst).trans (hb.mono (by omega))) (by omega) _
 ·rw[size_setRow]
  have:=hb.size
  omega
 ·exact setRow_heap W _ _ _ _ _ g2
 ·rw[setRow_other _ _ _ _ (by omega)];exact g3
theorem cells5 {w:World}{b:Nat}{s0 s1 s2 s3 s4:Value}{t:TypeId}(h:w.heap[b]? = some (.cells #[s0,s1,s2,s3,s4] t (0,0))):b<w.heap.size/\w.cell? ⟨b,0,none⟩=some s0/\w.cell? ⟨b,1,none⟩=some s1/\w.cell? ⟨b,2,none⟩=some s2/\w.cell? ⟨b,3,none⟩=some s3/\w.cell? ⟨b,4,none⟩=some s4/\(∀ o,w.frozen? ⟨b,o,none⟩=false):=
 ⟨(Array.getElem?_eq_some_iff.1 h).1,by simp[World.cell?,h],by simp[World.cell?,h],by simp[World.cell?,h],by simp[World.cell?,h],by simp[World.cell?,h],fun o=>by simp[World.frozen?,h]⟩
theorem moved_any (src dst r:List ByteArray)(hS:Good src)(hD:Good dst)(hs:src.length+r.length<=5)(hd:dst.length+r.length<=5)(w:World):
  Calls Tryz.prog 197 #[pathV (src++r),pathV src,pathV dst] w fun e w'=>e=.returned (pathV (dst++r))/\Below w.heap.size w w':=by
 have hdd:=fun W=>depth_any dst hD.val hD.len W
 have hds:=fun W=>depth_any src hS.val hS.len W
 have hcp:=fun W=>copy_moved (w:=w) (W:=W) hs hd
 have sl1:=fun W=>slP (w.heap.size+2) dst.length hD.len W
 have sl2:=fun W=>slP w.heap.size src.length hS.len W
 have hz4:=four_size w (src++r) src dst
 have hfa:=four_at w (src++r) src dst
 unfold four at hcp hz4 hfa
 obtain⟨p0,p1,p2,p3,p4,hP⟩:∃ s0 s1 s2 s3 s4,pathA (src++r) = #[.string s0,.string s1,.string s2,.string s3,.string s4]:=⟨_,_,_,_,_,rfl⟩
 obtain⟨s0,s1,s2,s3,s4,hP1⟩:∃ s0 s1 s2 s3 s4,pathA src = #[.string s0,.string s1,.string s2,.string s3,.string s4]:=⟨_,_,_,_,_,rfl⟩
 obtain⟨d0,d1,d2,d3,d4,hP2⟩:∃ s0 s1 s2 s3 s4,pathA dst = #[.string s0,.string s1,.string s2,.string s3,.string s4]:=⟨_,_,_,_,_,rfl⟩
 obtain⟨q0,q1,q2,q3,q4,hP3⟩:∃ s0 s1 s2 s3 s4,pathA (dst++r) = #[.string s0,.string s1,.string s2,.string s3,.string s4]:=⟨_,_,_,_,_,rfl⟩
 have hP4:pathA [] = #[.string ⟨#[]⟩,.string ⟨#[]⟩,.string ⟨#[]⟩,.string ⟨#[]⟩,.string ⟨#[]⟩]:=rfl
 unfold pathV at hdd hds ⊢
 simp only[hP,hP1,hP2,hP3,hP4] at hdd hds hcp hfa hz4 ⊢
 generalize offP dst.length=od at sl1 hcp
 generalize offP src.length=os at sl2 hcp
 generalize 5-dst.length=ld at sl1 hcp
 generalize 5-src.length=ls at sl2 hcp
 generalize (dst.length:Int)=nd at hdd sl1
 generalize (src.length:Int)=ns at hds sl2
 have HCP:Hid _:=hcp
 have HFA:Hid _:=hfa
 clear hP hP1 hP2 hP3 hP4 hcp hfa hs hd hS hD
 go_enter Tryz.func197,Tryz.ntmps197
 go_wp2
 have b0:=below_drew (Below.refl ((((w.alloc (.cells #[.string p0,.string p1,.string p2,.string p3,.string p4] 147)).alloc (.cells #[.string s0,.string s1,.string s2,.string s3,.string s4] 147)).alloc (.cells #[.string d0,.string d1,.string d2,.string d3,.string d4] 147)).alloc (.cells #[.string ⟨#[]⟩,.string ⟨#[]⟩,.string ⟨#[]⟩,.string ⟨#[]⟩,.string ⟨#[]⟩] 147)).heap.size ((((w.alloc (.cells #[.string p0,.string p1,.string p2,.string p3,.string p4] 147)).alloc (.cells #[.string s0,.string s1,.string s2,.string s3,.string s4] 147)).alloc (.cells #[.string d0,.string d1,.string d2,.string d3,.string d4] 147)).alloc (.cells #[.string ⟨#[]⟩,.string ⟨#[]⟩,.string ⟨#[]⟩,.string ⟨#[]⟩,.string ⟨#[]⟩] 147)))
 have HZ:Hid _:=(Nat.lt_of_lt_of_eq (Nat.lt_succ_self (w.heap.size+3)) hz4.symm)
 clear hz4
 go_region_with (first
  | (go_at_call_of 142 (Value.agg #[.string d0,.string d1,.string d2,.string d3,.string d4]);refine (hdd _).mono ?_;rintro e w1 ⟨rfl,hb1⟩;replace b0:=below_via b0 hb1;have kc:=(bcell b0).1;have kz:=Nat.lt_of_lt_of_le HZ.out b0.size;obtain⟨w3,hrun,b3,z3,c2,c3⟩:=HCP.out _ b0;obtain⟨y0,y1,y2,y3,y4,y5,y6⟩:=cells5 c2;obtain⟨x0,x1,x2,x3,x4,x5,x6⟩:=cells5 c3;clear c2 c3)
  | (go_at_call_of 142 (Value.agg #[.string s0,.string s1,.string s2,.string s3,.string s4]);refine (hds _).mono ?_;rintro e w1 ⟨rfl,hb1⟩;replace b0:=below_via b0 hb1;have kc:=(bcell b0).1;have kz:=Nat.lt_of_lt_of_le HZ.out b0.size;obtain⟨w3,hrun,b3,z3,c2,c3⟩:=HCP.out _ b0;obtain⟨y0,y1,y2,y3,y4,y5,y6⟩:=cells5 c2;obtain⟨x0,x1,x2,x3,x4,x5,x6⟩:=cells5 c3;clear c2 c3))
 all_goals
  go_wp2
  exact bodyPost_ret (v:=.agg #[.string q0,.string q1,.string q2,.string q3,.string q4]) (by simp[results,Tryz.results197,go_sem,Nat.add_assoc,x1,x2,x3,x4,x5]) rfl ⟨rfl,by
   repeat (refine Below.setCell ?_ (by simp;omega) _)
   exact b3⟩
theorem stop_at {p:Prop}(h:Hid p):p:=h.out
def flatP (L:List (List ByteArray)):List Value:=L.flatMap fun p=>(pathA p).toList
theorem flatP_snoc (L:List (List ByteArray))(p:List ByteArray):flatP (L ++ [p])=flatP L++(pathA p).toList:=by simp[flatP]
theorem flatP_at:∀ (L:List (List ByteArray)) (k o:Nat) (hk:k<L.length),o<5->(flatP L)[k*5+o]? = (pathA L[k]).toList[o]?
 | x :: r,0,o,hk,ho=>by
  show ((pathA x).toList++flatP r)[0*5+o]? = _
  rw[List.getElem?_append_left (by simp[pathA];omega)]
  simp
 | x :: r,k+1,o,hk,ho=>by
  show ((pathA x).toList++flatP r)[(k+1)*5+o]? = _
  rw[List.getElem?_append_right (by simp[pathA];omega)]
  have e:(k+1)*5+o-(pathA x).toList.length=k*5+o:=by simp[pathA];omega
  rw[e,flatP_at r k o (by simpa using hk) ho]
  rfl
theorem row5 {w:World}{base g n cap:Nat}{L:List (List ByteArray)}(h:w.ownsRow base 147 5 (.slice (some ⟨g,0,none⟩) n cap) n (flatP L)){k:Nat}(hk:k<L.length){s0 s1 s2 s3 s4:ByteArray}(hP:pathA L[k] = #[.string s0,.string s1,.string s2,.string s3,.string s4]):
  g<w.heap.size/\w.cell? ⟨g,k*5,none⟩=some (.string s0)/\w.cell? ⟨g,k*5+1,none⟩=some (.string s1)/\w.cell? ⟨g,k*5+2,none⟩=some (.string s2)/\w.cell? ⟨g,k*5+3,none⟩=some (.string s3)/\w.cell? ⟨g,k*5+4,none⟩=some (.string s4):=by
 obtain⟨hl,⟨h0,_⟩ | ⟨g',c',cur,hv,_,hg,hc1,_,hcs,htk⟩⟩:=h
 ·cases h0
 ·cases hv
  have key:∀ o u,o<5->(pathA L[k]).toList[o]? = some u->w.cell? ⟨g,k*5+o,none⟩=some u:=by
   intro o u ho hu
   rw[<- flatP_at L k o hk ho,<- htk] at hu
   have:cur[k*5+o]? = some u:=by
    rw[List.getElem?_take] at hu
    split at hu
    ·simpa using hu
    ·cases hu
   simp[World.cell?,hg,this]
  refine⟨(Array.getElem?_eq_some_iff.1 hg).1,key 0 _ (by omega) (by rw[hP];rfl),key 1 _ (by omega) (by rw[hP];rfl),key 2 _ (by omega) (by rw[hP];rfl),key 3 _ (by omega) (by rw[hP];rfl),key 4 _ (by omega) (by rw[hP];rfl)⟩
theorem infoP:(Tryz.prog.info? 147).map (fun i=>(i.zero,i.size,i.bytes))=some (some (.agg #[.string ⟨#[]⟩,.string ⟨#[]⟩,.string ⟨#[]⟩,.string ⟨#[]⟩,.string ⟨#[]⟩]),5,80):=by kernel_rfl
theorem came {f:List ByteArray->Option Value}{M:Lit->Option Value}{D:DataW Value}(hM:∀ kl,WideAt.IsKeyLit kl->∀ z,D.atKey kl z=((M kl).map DataW.held).getD z)(h1:∀ p,Good p->M (keyP Tryz.prog p)=f p)(h2:∀ kl,WideAt.IsKeyLit kl->M kl≠none->∃ p,Good p/\kl=keyP Tryz.prog p)
  {x:Value}{kl:Lit}{y:DataW Value}(hkey:keyOf Tryz.prog 147 x=some kl)(hat:∀ z,D.atKey kl z=y):∃ p,Good p/\kl=keyP Tryz.prog p/\x=.agg (pathA p)/\f p≠none:=by
 have hk:=lawP.key hkey
 have hne:M kl≠none:=by
  intro h0
  have a1:=hM kl hk (.held (.int .i64 0))
  have a2:=hM kl hk (.held (.int .i64 1))
  rw[h0,hat] at a1 a2
  rw[a1] at a2
  simp at a2
 obtain⟨p,hp,rfl⟩:=h2 kl hk hne
 refine⟨p,hp,rfl,lawP.inj hkey (keyOf_path hp.val),?_⟩
 rw[<- h1 p hp];exact hne
theorem row_shape {w:World}{base:Nat}{e:TypeId}{size n:Nat}{v:Value}{xs:List Value}(h:w.ownsRow base e size v n xs):∃ a c,v=.slice a n c:=by
 rcases h.2 with ⟨h1,h2⟩ | ⟨g,c,_,h1,_⟩
 ·exact⟨none,0,by rw[h1,h2]⟩
 ·exact⟨_,_,h1⟩
theorem carry_turn {w3:World}{b n:Nat}{f:List ByteArray->Option Value}{src dst p:List ByteArray}{L:List (List ByteArray)}{v:Value}(hP:PMap w3 b n (carried f src dst L))(hn:n<maxLen)(hdst:∀ x,dst <+: x->f x=none)(hL:∀ x ∈ L,src <+: x/\f x≠none)(hp:Good p)(hs:src <+: p)(hv:f p=some v)(hnp:p ∉ L)(hmv:Good (movedP src dst p))
  {t e:TypeId}(ht:Tryz.prog.underlying t=some (.map 147 e)){z:Value}(hz:∀ W,(zeroValue e).run Tryz.prog W=.ok z W)(ty:TypeId):
  (Instr.lookup t (.map (some b)) (.agg (pathA p)) false).run Tryz.prog w3=.ok v w3/\
  ∃ w4 w5,(Instr.mapUpdate t (.map (some b)) (.agg (pathA (movedP src dst p))) v).run Tryz.prog w3=.ok () w4/\(Builtin.delete_ #[t,147] ty #[.map (some b),.agg (pathA p)]).run Tryz.prog w4=.ok (.tuple #[]) w5/\
   PMap w5 b n (carried f src dst (L ++ [p]))/\w3.grownBy w4 (some b)/\w4.grownBy w5 (some b)/\w4.heap.size=w3.heap.size/\w5.heap.size=w3.heap.size:=by
 obtain⟨c1,c2⟩:=carried_step hdst hL hs (by rw[hv];simp) hnp
 have hlk:=hP.look ht (hz w3) hp
 rw[c1,hv,Option.getD_some] at hlk
 obtain⟨w4,hrun,hP4,hg4,hs4⟩:=hP.store hmv hn ht v
 have hne:p≠movedP src dst p:=fun e=>by
  have:=hdst p (by rw[e];exact List.prefix_append _ _)
  rw[hv] at this;cases this
 obtain⟨w5,hrun5,hP5,hg5,hs5⟩:=hP4.drop1 ht hp (by rw[upd_other hne,c1,hv];rfl) ty
 refine⟨hlk,w4,w5,hrun,hrun5,hP5.congr (fun x _=>?_),hg4,hg5,hs4,by rw[hs5,hs4]⟩
 rw[<- c2 x,hv]
theorem zeroFp (W:World):(zeroValue 219).run Tryz.prog W=.ok (.pointer none) W:=by kernel_rfl
theorem below_eq (s0 s1 s2 s3 s4:ByteArray)(w:World)
  (heq:∀ W,(Op.equalIn 10000 147 (.agg #[.string s0,.string s1,.string s2,.string s3,.string s4]) (.agg #[.string s0,.string s1,.string s2,.string s3,.string s4])).run Tryz.prog W=.ok true W):
  Calls Tryz.prog 140 #[.agg #[.string s0,.string s1,.string s2,.string s3,.string s4],.agg #[.string s0,.string s1,.string s2,.string s3,.string s4]] w fun e w'=>e=.returned (.bool false)/\Below w.heap.size w w':=by
 go_enter Tryz.func140,Tryz.ntmps140
 go_wp2
 go_region
 all_goals
  go_wp2
  go_ret
  exact⟨rfl,below_drew (((Below.refl _ _).alloc (Nat.le_refl _) _).alloc (by simp) _)⟩
theorem below_ne (s0 s1 s2 s3 s4 q0 q1 q2 q3 q4 r0 r1 r2 r3 r4:ByteArray)(d:Int)(b:Bool)(w:World)
  (heq:∀ W,(Op.equalIn 10000 147 (.agg #[.string s0,.string s1,.string s2,.string s3,.string s4]) (.agg #[.string q0,.string q1,.string q2,.string q3,.string q4])).run Tryz.prog W=.ok false W)
  (hd:∀ W,Calls Tryz.prog 142 #[.agg #[.string q0,.string q1,.string q2,.string q3,.string q4]] W fun e w'=>e=.returned (.int .i64 d)/\Below W.heap.size W w')
  (hh:∀ W,Calls Tryz.prog 188 #[.agg #[.string s0,.string s1,.string s2,.string s3,.string s4],.int .i64 d] W fun e w'=>e=.returned (.agg #[.string r0,.string r1,.string r2,.string r3,.string r4])/\Below W.heap.size W w')
  (heq2:∀ W,(Op.equalIn 10000 147 (.agg #[.string r0,.string r1,.string r2,.string r3,.string r4]) (.agg #[.string q0,.string q1,.string q2,.string q3,.string q4])).run Tryz.prog W=.ok b W):
  Calls Tryz.prog 140 #[.agg #[.string s0,.string s1,.string s2,.string s3,.string s4],.agg #[.string q0,.string q1,.string q2,.string q3,.string q4]] w fun e w'=>e=.returned (.bool b)/\Below w.heap.size w w':=by
 go_enter Tryz.func140,Tryz.ntmps140
 go_wp2
 go_region_with (first
  | (go_at_call 142;refine (hd _).mono ?_;rintro e w1 ⟨rfl,hb1⟩;obtain⟨hc1,hf1⟩:=bcell hb1;obtain⟨hz0,hz1⟩:=two_size hb1;have b1:Below w.heap.size w w1:=below_via (below_drew (((Below.refl _ _).alloc (Nat.le_refl _) _).alloc (by simp) _)) hb1)
  | (go_at_call 188;refine (hh _).mono ?_;rintro e w2 ⟨rfl,hb2⟩;obtain⟨hc2,hf2⟩:=bcell hb2;have b2:=below_via b1 hb2))
 all_goals
  go_wp2
  go_ret
  exact⟨rfl,b2⟩
theorem below_any (l m:List ByteArray)(hl:Good l)(hm:Good m)(w:World):Calls Tryz.prog 140 #[pathV l,pathV m] w fun e w'=>e=.returned (.bool (decide (m <+: l/\l≠m)))/\Below w.heap.size w w':=by
 by_cases h:l=m
 ·subst h
  rw[decide_eq_false (fun h=>h.2 rfl)]
  have heq:∀ W,(Op.equalIn 10000 147 (pathV l) (pathV l)).run Tryz.prog W=.ok true W:=fun W=>by
   have:=run_eqP hl hl W
   rw[decide_eq_true rfl] at this;exact this
  exact below_eq _ _ _ _ _ w heq
 ·have heq:∀ W,(Op.equalIn 10000 147 (pathV l) (pathV m)).run Tryz.prog W=.ok false W:=fun W=>by
   have:=run_eqP hl hm W
   rw[decide_eq_false h] at this;exact this
  have hd:=fun W=>depth_any m hm.val hm.len W
  have hh:=fun W=>head_any l hl.len m.length hm.len W
  have heq2:=fun W=>run_eqP (hl.take m.length) hm W
  have hb:decide (m <+: l/\l≠m)=decide (l.take m.length=m):=by
   refine decide_eq_decide.2 ⟨fun h=>(List.prefix_iff_eq_take.1 h.1).symm,fun e=>⟨?_,h⟩⟩
   rw[<- e];exact List.take_prefix _ _
  rw[hb]
  exact below_ne _ _ _ _ _ _ _ _ _ _ _ _ _ _ _ _ _ w heq hd hh heq2
theorem gathered_nil {f:List ByteArray->Option Value}{M:Lit->Option Value}{D:DataW Value}(src:List ByteArray)(hM:∀ kl,WideAt.IsKeyLit kl->∀ z,D.atKey kl z=((M kl).map DataW.held).getD z)(h1:∀ p,Good p->M (keyP Tryz.prog p)=f p):Gathered f src (Maps.has D) []:=by
 refine⟨List.nodup_nil,fun x=>⟨fun h=>(by cases h),fun⟨hx,_,hf,hl⟩=>?_⟩⟩
 rw[vmap_has (hM _ (keyP_is hx)),h1 x hx] at hl
 cases hfx:f x with
 | none=>exact absurd hfx hf
 | some y=>rw[hfx] at hl;cases hl
theorem alloc_le (w:World)(o:Obj):w.heap.size<=(w.alloc o).heap.size:=by simp
theorem new5 (w:World)(c0 c1 c2 c3 c4:Value)(t:TypeId):∀ j u,[c0,c1,c2,c3,c4][j]? = some u->(w.alloc (.cells #[c0,c1,c2,c3,c4] t)).cell? ((⟨w.heap.size,0,none⟩:Addr).add j)=some u:=by
 intro j u h
 match j,h with
 | 0,h=>simpa [Addr.add] using h
 | 1,h=>simpa [Addr.add] using h
 | 2,h=>simpa [Addr.add] using h
 | 3,h=>simpa [Addr.add] using h
 | 4,h=>simpa [Addr.add] using h
 | j+5,h=>simp at h
theorem new5b (w:World)(o:Obj)(c0 c1 c2 c3 c4:Value)(t:TypeId):∀ j u,[c0,c1,c2,c3,c4][j]? = some u->((w.alloc o).alloc (.cells #[c0,c1,c2,c3,c4] t)).cell? ((⟨w.heap.size+1,0,none⟩:Addr).add j)=some u:=by
 have h:=new5 (w.alloc o) c0 c1 c2 c3 c4 t
 rwa [World.size_alloc] at h
theorem five_one (s0 s1 s2 s3 s4:ByteArray):∀ u ∈ [Value.string s0,.string s1,.string s2,.string s3,.string s4],u.oneCell'=true:=by
 intro u hu
 simp only[List.mem_cons,List.not_mem_nil,or_false] at hu
 rcases hu with rfl | rfl | rfl | rfl | rfl <;> rfl
def Three (w':World)(a b c:Nat)(p0 p1 p2 p3 p4 s0 s1 s2 s3 s4 d0 d1 d2 d3 d4:ByteArray):Prop:=w'.cell? ⟨a,0,none⟩=some (.string p0)/\w'.cell? ⟨a,1,none⟩=some (.string p1)/\w'.cell? ⟨a,2,none⟩=some (.string p2)/\w'.cell? ⟨a,3,none⟩=some (.string p3)/\w'.cell? ⟨a,4,none⟩=some (.string p4)/\w'.cell? ⟨b,0,none⟩=some (.string s0)/\w'.cell? ⟨b,1,none⟩=some (.string s1)/\w'.cell? ⟨b,2,none⟩=some (.string s2)/\w'.cell? ⟨b,3,none⟩=some (.string s3)/\w'.cell? ⟨b,4,none⟩=some (.string s4)/\w'.cell? ⟨c,0,none⟩=some (.string d0)/\w'.cell? ⟨c,1,none⟩=some (.string d1)/\w'.cell? ⟨c,2,none⟩=some (.string d2)/\w'.cell? ⟨c,3,none⟩=some (.string d3)/\w'.cell? ⟨c,4,none⟩=some (.string d4)
theorem Three.keep {w w':World}{a b c:Nat}{p0 p1 p2 p3 p4 s0 s1 s2 s3 s4 d0 d1 d2 d3 d4:ByteArray}(h:Three w a b c p0 p1 p2 p3 p4 s0 s1 s2 s3 s4 d0 d1 d2 d3 d4)(ha:∀ o,w'.cell? ⟨a,o,none⟩=w.cell? ⟨a,o,none⟩)(hb:∀ o,w'.cell? ⟨b,o,none⟩=w.cell? ⟨b,o,none⟩)(hc:∀ o,w'.cell? ⟨c,o,none⟩=w.cell? ⟨c,o,none⟩):Three w' a b c p0 p1 p2 p3 p4 s0 s1 s2 s3 s4 d0 d1 d2 d3 d4:=by
 unfold Three at h ⊢
 simp only[ha,hb,hc]
 exact h
structure Gath (b r n:Nat)(D:DataW Value)(f:List ByteArray->Option Value)(src:List ByteArray)(W2 wr:World)(left:Lit->Bool)(cnt:Nat)(L:List (List ByteArray))(mv:Value):Prop where
 rg:wr.ranges Tryz.prog 147 heldElem b r n D left cnt
 ga:Gathered f src left L
 row:wr.ownsRow (r+1) 147 5 mv L.length (flatP L)
 gr:W2.grownBy wr none
 sz:r+1<=wr.heap.size
 many:L.length+cnt<=n
section
variable {b r n:Nat}{D:DataW Value}{f:List ByteArray->Option Value}{src:List ByteArray}{W2 wr:World}{left:Lit->Bool}{cnt:Nat}{L:List (List ByteArray)}{mv:Value}
theorem row_base {w:World}{base:Nat}{e:TypeId}{size k:Nat}{v:Value}{xs:List Value}(h:w.ownsRow base e size v k xs){c:Nat}(hc:c<base):some c≠v.ownBlock:=by
 intro e
 rcases h.2 with ⟨h1,_⟩ | ⟨g,cap,cur,h1,hb,_⟩
 ·rw[h1] at e;cases e
 ·rw[h1] at e
  simp only[Value.ownBlock,Option.some.injEq] at e
  omega
theorem below_grown {w w':World}(h:Below w.heap.size w w'):w.grownBy w' none:=⟨h.os,h.tape,h.output,h.size,fun i hi _=>h.block i hi⟩
theorem Gath.below (h:Gath b r n D f src W2 wr left cnt L mv){w':World}(hb:Below wr.heap.size wr w'):Gath b r n D f src W2 w' left cnt L mv:=
 ⟨h.rg.kept (below_grown hb) (by simp) (by simp),h.ga,ownsRow_keep h.row (fun g hg=>hb.block g (ownsRow_lt h.row hg)),h.gr.andThen (below_grown hb) (fun j hj=>by cases hj),Nat.le_trans h.sz hb.size,h.many⟩
theorem Gath.box (h:Gath b r n D f src W2 wr left cnt L mv){c:Nat}(hc:c<W2.heap.size)(o:Nat):wr.cell? ⟨c,o,none⟩=W2.cell? ⟨c,o,none⟩:=World.cell?_of_block (a:=⟨c,o,none⟩) (h.gr.block c hc (by simp))
theorem Gath.next (h:Gath b r n D f src W2 wr left cnt L mv){w1:World}{cnt1:Nat}{p:List ByteArray}(hbr:b<r)(hr:W2.heap.size<=r)(hrg:w1.ranges Tryz.prog 147 heldElem b r n D (fun z=>left z && !z.sameKey (keyP Tryz.prog p)) cnt1)(hlt:cnt1<cnt)(hg:wr.grownBy w1 (some r))(hp:Good p)(hl:left (keyP Tryz.prog p)=true)(hf:f p≠none):
  (¬ src <+: p->Gath b r n D f src W2 w1 (fun z=>left z && !z.sameKey (keyP Tryz.prog p)) cnt1 L mv)/\
  (src <+: p->w1.ownsRow (r+1) 147 5 mv L.length (flatP L)/\r+1<=w1.heap.size/\L.length+1<=n/\∀ w2 w3 v',Below w1.heap.size w1 w2->w3.ownsRow (r+1) 147 5 v' (L.length+1) (flatP L++(pathA p).toList)->w2.grownBy w3 mv.ownBlock->Gath b r n D f src W2 w3 (fun z=>left z && !z.sameKey (keyP Tryz.prog p)) cnt1 (L ++ [p]) v'):=by
 have hrow:w1.ownsRow (r+1) 147 5 mv L.length (flatP L):=ownsRow_keep h.row (fun g hg'=>hg.block g (ownsRow_lt h.row hg') (fun e=>by
  have:=row_base h.row (c:=r) (by omega)
  exact this (by rw[hg',e])))
 have hgr:W2.grownBy w1 none:=h.gr.andThen hg (fun j hj=>by cases hj;exact .inl hr)
 have hsz:=Nat.le_trans h.sz hg.size
 have hm:=h.many
 refine⟨fun hs=>⟨hrg,gathered_skip h.ga hp hs,hrow,hgr,hsz,by omega⟩,fun hs=>⟨hrow,hsz,by omega,fun w2 w3 v' hb hrow3 hg3=>?_⟩⟩
 have hbl:=h.rg.owns.lt
 have hnb:some b≠mv.ownBlock/\some r≠mv.ownBlock/\∀ j,mv.ownBlock=some j->r+1<=j:=by
  rcases h.row.2 with ⟨h1,_⟩ | ⟨g,cap,cur,h1,hb1,_⟩
  ·rw[h1];exact⟨by simp[Value.ownBlock],by simp[Value.ownBlock],fun j hj=>by simp[Value.ownBlock] at hj⟩
  ·rw[h1]
   refine⟨fun e=>?_,fun e=>?_,fun j hj=>?_⟩
   ·simp only[Value.ownBlock,Option.some.injEq] at e;omega
   ·simp only[Value.ownBlock,Option.some.injEq] at e;omega
   ·simp only[Value.ownBlock,Option.some.injEq] at hj;omega
 refine⟨(hrg.kept (below_grown hb) (by simp) (by simp)).kept hg3 hnb.1 hnb.2.1,gathered_add h.ga hp hs hf hl,?_,?_,?_,?_⟩
 ·rw[List.length_append,flatP_snoc];exact hrow3
 ·exact (hgr.andThen (below_grown hb) (fun j hj=>by cases hj)).andThen hg3 (fun j hj=>.inl (Nat.le_trans (Nat.le_trans hr (Nat.le_succ _)) (hnb.2.2 j hj)))
 ·exact Nat.le_trans hsz (Nat.le_trans hb.size hg3.size)
 ·simp;omega
end
theorem moved_keep {w2 w3:World}{X:Obj}{a c:Nat}(hb3:Below (w2.alloc X).drew.heap.size (w2.alloc X).drew w3)(ha:a<w2.heap.size)(hc:c<w2.heap.size):
  (∀ o,w3.cell? ⟨w2.heap.size,o,none⟩=(w2.alloc X).drew.cell? ⟨w2.heap.size,o,none⟩)/\(∀ o,w3.cell? ⟨a,o,none⟩=(w2.alloc X).drew.cell? ⟨a,o,none⟩)/\(∀ o,w3.cell? ⟨c,o,none⟩=(w2.alloc X).drew.cell? ⟨c,o,none⟩)/\w2.heap.size<w3.heap.size:=by
 have h1:w2.heap.size<(w2.alloc X).drew.heap.size:=by simp
 exact⟨fun o=>(bcell hb3).1 _ o h1,fun o=>(bcell hb3).1 _ o (Nat.lt_trans ha h1),fun o=>(bcell hb3).1 _ o (Nat.lt_trans hc h1),Nat.lt_of_lt_of_le h1 hb3.size⟩
theorem carry_keep {W2 w2 w3 w4 w5:World}{b r:Nat}{la:Option Addr}{lc m:Nat}{xs:List Value}(hbr:b<r)(hg:W2.grownBy w2 (some b))(hrow:w2.ownsRow (r+1) 147 5 (.slice la m lc) m xs)(hsz:r+1<=w2.heap.size)(hb:Below w2.heap.size w2 w3)(h4:w3.grownBy w4 (some b))(h5:w4.grownBy w5 (some b)):
  W2.grownBy w5 (some b)/\w5.ownsRow (r+1) 147 5 (.slice la m lc) m xs/\r+1<=w5.heap.size:=by
 refine⟨((hg.andThen (below_grown hb) (fun j hj=>by cases hj)).andThen h4 (fun j hj=>.inr (by rw[hj]))).andThen h5 (fun j hj=>.inr (by rw[hj])),ownsRow_keep hrow (fun g hg'=>?_),Nat.le_trans hsz (Nat.le_trans hb.size (Nat.le_trans h4.size h5.size))⟩
 have hl:=ownsRow_lt hrow hg'
 have hne:some g≠some b:=fun e=>row_base hrow (c:=b) (by omega) (by rw[hg',e])
 have hl3:=Nat.lt_of_lt_of_le hl hb.size
 rw[h5.block g (Nat.lt_of_lt_of_le hl3 h4.size) hne,h4.block g hl3 hne,hb.block g hl]
theorem carryF_walk (b n:Nat)(f:List ByteArray->Option Value)(src dst:List ByteArray)(w:World)(hsrc:Good src)(hdG:Good dst)(hP:PMap w b n f)(hn:n<1099511627776)
  (hdst:∀ x,dst <+: x->f x=none)(hlen:∀ x,src <+: x->f x≠none->dst.length+(x.length-src.length)<=5)(hf:∀ x,f x≠none->Good x):
  Calls Tryz.prog 144 #[.map (some b),.agg (pathA src),.agg (pathA dst)] w fun e w'=>e=.returned (.tuple #[])/\PMap w' b n (carryG f src dst)/\w.grownBy w' (some b):=by
 obtain⟨i0,hi,iz0,iz1,iz2⟩:=info_parts infoP
 have hbl:=hP.lt
 have HPM:Hid _:=hP
 obtain⟨M,⟨D,hD,hM⟩,h1,h2⟩:=hP
 have hbel:=fun p (hp:Good p) W=>below_any p src hp hsrc W
 have heq:=fun p (hp:Good p) W=>run_eqP hp hsrc W
 have hmov:=fun r (h1:src.length+r.length<=5) (h2:dst.length+r.length<=5) W=>moved_any src dst r hsrc hdG h1 h2 W
 obtain⟨s0,s1,s2,s3,s4,hS⟩:∃ s0 s1 s2 s3 s4,pathA src = #[.string s0,.string s1,.string s2,.string s3,.string s4]:=⟨_,_,_,_,_,rfl⟩
 obtain⟨d0,d1,d2,d3,d4,hDp⟩:∃ s0 s1 s2 s3 s4,pathA dst = #[.string s0,.string s1,.string s2,.string s3,.string s4]:=⟨_,_,_,_,_,rfl⟩
 unfold pathV at hbel heq hmov
 rw[hS] at hbel heq hmov
 rw[hDp] at hmov
 rw[hS,hDp]
 have HO:Hid _:=ownsMap_keep (w':=(w.alloc (.cells #[.string s0,.string s1,.string s2,.string s3,.string s4] 147)).alloc (.cells #[.string d0,.string d1,.string d2,.string d3,.string d4] 147)) hD ((((Below.refl w.heap.size w).alloc (Nat.le_refl _) _).alloc (by simp) _).block b hbl)
 have HM:Hid _:=And.intro hM (And.intro h1 h2)
 have HBEL:Hid _:=hbel
 have HEQ:Hid _:=heq
 have HMOV:Hid _:=hmov
 have HDST:Hid _:=hdst
 have HLEN:Hid _:=hlen
 have HF:Hid _:=hf
 have HG:Hid _:=And.intro hsrc hdG
 have HS:Hid _:=And.intro hS hDp
 clear hD hM h1 h2 hbel heq hmov hdst hlen hf hsrc hdG hS hDp
 go_enter Tryz.func144,Tryz.ntmps144
 go_wp2_with (at_range;go_loud (refine wpList_range_own _ rfl _ 161 rfl 147 219 lawP Tryz.underlying161 heldElem b n D rfl HO.out ?_;intro w0 hrg0 hg0 hs0))
 go_frame
 have hWs:((w.alloc (.cells #[.string s0,.string s1,.string s2,.string s3,.string s4] 147)).alloc (.cells #[.string d0,.string d1,.string d2,.string d3,.string d4] 147)).heap.size=w.heap.size+2:=by simp
 have hmD:=World.ownsMap.size_le HO.out
 generalize hr:((w.alloc (.cells #[.string s0,.string s1,.string s2,.string s3,.string s4] 147)).alloc (.cells #[.string d0,.string d1,.string d2,.string d3,.string d4] 147)).heap.size=r at hrg0 hs0 ⊢
 have hbr:b<r:=by omega
 have hr0:w.heap.size<r:=by omega
 have hr1:w.heap.size+1<r:=by omega
 have HR2:Hid (((w.alloc (.cells #[.string s0,.string s1,.string s2,.string s3,.string s4] 147)).alloc (.cells #[.string d0,.string d1,.string d2,.string d3,.string d4] 147)).heap.size<=r/\w.heap.size<((w.alloc (.cells #[.string s0,.string s1,.string s2,.string s3,.string s4] 147)).alloc (.cells #[.string d0,.string d1,.string d2,.string d3,.string d4] 147)).heap.size/\w.heap.size+1<((w.alloc (.cells #[.string s0,.string s1,.string s2,.string s3,.string s4] 147)).alloc (.cells #[.string d0,.string d1,.string d2,.string d3,.string d4] 147)).heap.size):=⟨Nat.le_of_eq hr,by omega,by omega⟩
 have HST:Hid (Gath b r n D f src ((w.alloc (.cells #[.string s0,.string s1,.string s2,.string s3,.string s4] 147)).alloc (.cells #[.string d0,.string d1,.string d2,.string d3,.string d4] 147)) w0 (Maps.has D) (Maps.size D) [] (.slice none 0 0)):=⟨hrg0,gathered_nil src HM.out.1 HM.out.2.1,World.ownsRow_nil _ _ _ _,hg0,by rw[hs0];exact Nat.le_refl _,by simpa using hmD⟩
 clear hrg0 hg0 hs0 hr hWs hmD
 go_loopw [6] (fun mv wr=>∃ left cnt L,Hid (Gath b r n D f src ((w.alloc (.cells #[.string s0,.string s1,.string s2,.string s3,.string s4] 147)).alloc (.cells #[.string d0,.string d1,.string d2,.string d3,.string d4] 147)) wr left cnt L mv)) (fun _ wr=>wr.rangeLeft b r)
 case atStart=>exact⟨Maps.has D,Maps.size D,[],HST.out⟩
 case round=>
  obtain⟨left,cnt,L,HGA⟩:=hrel
  obtain⟨la,lc,rfl⟩:=row_shape HGA.out.row
  go_wp2_with (at_next;refine stop_at ?_)
  show wpList _ _ _ _ _ _
  refine wpList_next_ranges _ rfl (.tmp 11) rfl 147 lawP heldElem (fun x:Value=>x) (fun x:Value=>x) (fun key kl _=>⟨key,rfl⟩) (fun v y _=>⟨v,rfl⟩) b r n D left cnt rfl HGA.out.rg ?_ ?_
  ·intro hc0 hl0
   have HALL:Hid (∀ x,x ∈ L↔(src <+: x/\f x≠none)):=fun x=>(HGA.out.ga.2 x).trans ⟨fun h=>⟨h.2.1,h.2.2.1⟩,fun h=>⟨HF.out x h.2,h.1,h.2,hl0 _⟩⟩
   have HNOD:Hid L.Nodup:=HGA.out.ga.1
   clear hl0 hc0
   have HST2:Hid (PMap wr b n (carried f src dst [])):=PMap.congr ⟨M,⟨D,HGA.out.rg.owns,HM.out.1⟩,HM.out.2.1,HM.out.2.2⟩ (fun x _=>(carried_nil f src dst x).symm)
   have hLn:L.length<=n:=by have:=HGA.out.many;omega
   have HROW:Hid (wr.ownsRow (r+1) 147 5 (.slice la L.length lc) L.length (flatP L)):=HGA.out.row
   have HGR:Hid _:=World.grownBy.but HGA.out.gr (some b)
   have hszr:=HGA.out.sz
   go_wp2
   go_loopw [30] (fun i w2=>∃ k:Nat,k<=L.length/\i=.int .i64 (k:Int)/\Hid (PMap w2 b n (carried f src dst (L.take k)))/\Hid (((w.alloc (.cells #[.string s0,.string s1,.string s2,.string s3,.string s4] 147)).alloc (.cells #[.string d0,.string d1,.string d2,.string d3,.string d4] 147)).grownBy w2 (some b))/\Hid (w2.ownsRow (r+1) 147 5 (.slice la L.length lc) L.length (flatP L))/\r+1<=w2.heap.size) (fun i _=>L.length-(intOf i).toNat)
   case atStart=>exact⟨0,Nat.zero_le _,rfl,HST2.out,HGR.out,HROW.out,hszr⟩
   case round=>
    obtain⟨k,hk,rfl,HPK,HGK,HRK,hszk⟩:=hrel
    by_cases hkl:k<L.length
    ·obtain⟨g,c',hsl⟩:=slice_of_owns HRK.out (by omega)
     cases hsl
     have hmem:=List.getElem_mem hkl
     obtain⟨hs,hfp⟩:=(HALL.out L[k]).1 hmem
     have hp:=HF.out _ hfp
     have hnin:L[k] ∉ L.take k:=by
      intro hin
      obtain⟨j,hj,hje⟩:=List.getElem_of_mem hin
      rw[List.length_take] at hj
      rw[List.getElem_take] at hje
      exact List.pairwise_iff_getElem.1 HNOD.out j k (by omega) hkl (by omega) hje
     have htk:L.take (k+1)=L.take k ++ [L[k]]:=List.take_succ_eq_append_getElem hkl
     have hLk:∀ x ∈ L.take k,src <+: x/\f x≠none:=fun x hx=>(HALL.out x).1 (List.mem_of_mem_take hx)
     obtain⟨p0,p1,p2,p3,p4,hPp⟩:∃ s0 s1 s2 s3 s4,pathA L[k] = #[.string s0,.string s1,.string s2,.string s3,.string s4]:=⟨_,_,_,_,_,rfl⟩
     obtain⟨hgl,e0,e1,e2,e3,e4⟩:=row5 HRK.out hkl hPp
     generalize L[k]=p at hmem hs hfp hp hnin htk hPp
     cases hv:f p with
     | none=>exact absurd hv hfp
     | some v=>
      have hsr:=pre_drop hs
      have hl5:=HLEN.out p hs hfp
      have hp5:=hp.len
      have hd5:src.length+(p.drop src.length).length<=5:=by rw[List.length_drop];have:=hs.length_le;omega
      have hmv:=HMOV.out (p.drop src.length) hd5 (by rw[List.length_drop];exact hl5)
      rw[hsr,hPp] at hmv
      have hqG:Good (movedP src dst p):=⟨HG.out.2.val.append (fun x hx=>hp.val x (List.mem_of_mem_drop hx)),by unfold movedP;rw[List.length_append,List.length_drop];exact hl5⟩
      have hturn:=fun W (hP:PMap W b n (carried f src dst (L.take k)))=>carry_turn hP (by unfold maxLen;omega) HDST.out hLk hp hs hv hnin hqG Tryz.underlying161 zeroFp 0
      change ∀ W,Calls Tryz.prog 197 _ W fun e w'=>e=.returned (.agg (pathA (movedP src dst p)))/\_ at hmv
      obtain⟨q0,q1,q2,q3,q4,hPq⟩:∃ s0 s1 s2 s3 s4,pathA (movedP src dst p) = #[.string s0,.string s1,.string s2,.string s3,.string s4]:=⟨_,_,_,_,_,rfl⟩
      rw[hPq] at hmv
      simp only[hPp,hPq] at hturn
      have HTURN:Hid _:=hturn
      have hb0:Below wr.heap.size wr (wr.alloc (.cells #[.string p0,.string p1,.string p2,.string p3,.string p4] 147)).drew:=below_drew ((Below.refl _ _).alloc (Nat.le_refl _) _)
      have hl0:=(hturn _ (HPK.out.keep (hb0.block b (by omega)))).1
      have kS:=fun o=>(out_cell HGK.out (c:=w.heap.size) HR2.out.2.1 (by omega) o)
      have kD:=fun o=>(out_cell HGK.out (c:=w.heap.size+1) HR2.out.2.2 (by omega) o)
      have hz0:w.heap.size<wr.heap.size:=by omega
      have hz1:w.heap.size+1<wr.heap.size:=by omega
      have hbz:b<wr.heap.size:=by omega
      have hnb:wr.heap.size≠b:=by omega
      have hnb0:w.heap.size≠b:=by omega
      have hnb1:w.heap.size+1≠b:=by omega
      have HTK:Hid _:=htk
      have HB0:Hid _:=hb0
      clear hturn hb0 hmem hs hfp hp hnin htk hPp hv hsr hl5 hp5 hd5 hqG hPq hLk
      clear HO HM HBEL HEQ HMOV HLEN HF HG HS HPM HNOD HST2 HROW HGR HST hi iz0 iz1 iz2
      go_wp2
      clear e0 e1 e2 e3 e4
      have hSD:Three (wr.alloc (.cells #[.string p0,.string p1,.string p2,.string p3,.string p4] 147)).drew wr.heap.size w.heap.size (w.heap.size+1) p0 p1 p2 p3 p4 s0 s1 s2 s3 s4 d0 d1 d2 d3 d4:=by
       unfold Three
       have q0:=Nat.ne_of_lt hz0
       have q1:=Nat.ne_of_lt hz1
       simp[World.cell?_alloc_lt,hz0,hz1,kS,kD]
      go_region_held3 (fun w'=>w'.cell? ⟨wr.heap.size,0,none⟩=some (.string p0)/\w'.cell? ⟨wr.heap.size,1,none⟩=some (.string p1)/\w'.cell? ⟨wr.heap.size,2,none⟩=some (.string p2)/\w'.cell? ⟨wr.heap.size,3,none⟩=some (.string p3)/\w'.cell? ⟨wr.heap.size,4,none⟩=some (.string p4)/\w'.cell? ⟨w.heap.size,0,none⟩=some (.string s0)/\w'.cell? ⟨w.heap.size,1,none⟩=some (.string s1)/\w'.cell? ⟨w.heap.size,2,none⟩=some (.string s2)/\w'.cell? ⟨w.heap.size,3,none⟩=some (.string s3)/\w'.cell? ⟨w.heap.size,4,none⟩=some (.string s4)/\w'.cell? ⟨w.heap.size+1,0,none⟩=some (.string d0)/\w'.cell? ⟨w.heap.size+1,1,none⟩=some (.string d1)/\w'.cell? ⟨w.heap.size+1,2,none⟩=some (.string d2)/\w'.cell? ⟨w.heap.size+1,3,none⟩=some (.string d3)/\w'.cell? ⟨w.heap.size+1,4,none⟩=some (.string d4)) (first | exact hSD | exact hS3 | exact hS4) (first | (go_at_call 197;refine (hmv _).mono ?_;rintro e w3 ⟨rfl,hb3⟩;obtain⟨m1,m2,m3,m4⟩:=moved_keep hb3 hz0 hz1;have hS3:=hSD.keep m1 m2 m3;have hb03:=below_via HB0.out hb3;obtain⟨hl3,w4,w5,hrun4,hrun5,hP5,hg4,hg5,hs4,hs5⟩:=HTURN.out w3 (HPK.out.keep (hb03.block b hbz));have hS4:=hS3.keep (out_cell hg4 m4 hnb) (out_cell hg4 (Nat.lt_trans hz0 m4) hnb0) (out_cell hg4 (Nat.lt_trans hz1 m4) hnb1);have HE:Hid _:=carry_keep hbr HGK.out HRK.out hszk hb03 hg4 hg5;have HP5:Hid _:=hP5;have hz4:wr.heap.size<w4.heap.size:=Nat.lt_of_lt_of_le m4 (Nat.le_of_eq hs4.symm);clear hg4 hg5 hs4 hs5 hP5 hb03 m1 m2 m3 hb3))
      all_goals
       go_wp2
       go_roundw
       case rel=>exact⟨k+1,by omega,by go_num,by rw[HTK.out];exact HP5.out,HE.out.1,HE.out.2.1,HE.out.2.2⟩
       case measure=>simp[intOf];omega
    ·have hke:k=L.length:=by omega
     subst hke
     rw[List.take_length] at HPK
     go_wp2
     go_end0
     refine⟨rfl,HPK.out.congr (fun x _=>carried_all HDST.out HALL.out x),?_⟩
     exact (World.grownBy.but (below_grown (((Below.refl w.heap.size w).alloc (Nat.le_refl _) _).alloc (by simp) _)) (some b)).andThen HGK.out (fun j hj=>.inr (by rw[hj]))
  ·intro x c kl y w1 cnt1 hkey hlk hv hat hrg1 hlt hg1 hs1 hen
   obtain⟨p,hp,rfl,rfl,hfp⟩:=came HM.out.1 HM.out.2.1 HM.out.2.2 hkey hat
   obtain⟨p0,p1,p2,p3,p4,hPp⟩:∃ s0 s1 s2 s3 s4,pathA p = #[.string s0,.string s1,.string s2,.string s3,.string s4]:=⟨_,_,_,_,_,rfl⟩
   have hbp:=HBEL.out p hp
   have hep:∀ W,(Op.equalIn 10000 147 (.agg (pathA p)) (.agg #[.string s0,.string s1,.string s2,.string s3,.string s4])).run Tryz.prog W=.ok (decide (p=src)) W:=HEQ.out p hp
   obtain⟨hno,hyes⟩:=HGA.out.next hbr HR2.out.1 hrg1 hlt hg1 hp hlk hfp
   have kS:=fun o=>(out_cell hg1 (c:=w.heap.size) (Nat.lt_of_lt_of_le hr0 (Nat.le_of_succ_le HGA.out.sz)) (by omega) o).trans (HGA.out.box HR2.out.2.1 o)
   have hz1:w.heap.size<w1.heap.size:=by rw[hs1];exact Nat.lt_of_lt_of_le hr0 (Nat.le_of_succ_le HGA.out.sz)
   have HLT:Hid (cnt1<cnt):=hlt
   have HRG1:Hid _:=hrg1
   rw[hPp] at hbp hep hen ⊢
   have HPp:Hid _:=hPp
   have HNO:Hid _:=hno
   have HYES:Hid _:=hyes
   clear hno hyes hkey hlk hv hat hrg1 hlt hg1 hs1 hfp hPp
   by_cases hs:src <+: p
   ·by_cases he:p=src
    ·rw[decide_eq_true he] at hep
     clear hbp
     obtain⟨y1,y2,y3,y4⟩:=HYES.out hs
     have hW:Below w1.heap.size w1 (w1.alloc (.cells #[.string p0,.string p1,.string p2,.string p3,.string p4] 147)):=(Below.refl _ _).alloc (Nat.le_refl _) _
     have HROW:Hid _:=y1.alloc (.cells #[.string p0,.string p1,.string p2,.string p3,.string p4] 147)
     have HSZ:Hid _:=Nat.le_trans y2 hW.size
     have HEND:Hid _:=y4
     have HW:Hid _:=hW
     have h63:L.length+1<=maxLen:=by unfold maxLen;omega
     have hby:(L.length+1)*80<=140737488355328:=by omega
     clear y1 y2 y4 hW
     go_wp2_with (at_builtin;go_loud (refine wpList_append_own_at _ rfl (.tmp 24) (.tmp 26) 289 rfl (r+1) 147 i0 _ 5 80 Tryz.underlying289 hi iz0 iz1 iz2 rfl (by decide) (.slice la L.length lc) L.length (flatP L) rfl (World.ownsRow.alloc HROW.out _) ⟨w1.heap.size+1,0,none⟩ 1 1 [.string p0,.string p1,.string p2,.string p3,.string p4] rfl rfl (new5b w1 _ _ _ _ _ _ 147) (five_one _ _ _ _ _) h63 hby (Nat.le_trans HSZ.out (alloc_le _ _)) ?_;intro v' w3 hown' hgrow _ hloc;obtain⟨g',cap',rfl⟩:=slice_of_owns hown' (Nat.succ_pos _);have HOWN:Hid _:=hown';have HGROW:Hid _:=hgrow;clear hown' hgrow hloc))
     have HNEW:Hid (Gath b r n D f src _ w3 _ cnt1 (L ++ [p]) _):=HEND.out _ w3 _ (HW.out.alloc HW.out.size (.cells #[.string p0,.string p1,.string p2,.string p3,.string p4] 147)) (by rw[HPp.out];exact HOWN.out) HGROW.out
     go_roundw
     case rel=>exact⟨_,_,_,HNEW.out⟩
     case measure=>rw[HNEW.out.rg.left_eq,HGA.out.rg.left_eq];exact HLT.out
    ·rw[decide_eq_false he] at hep
     rw[decide_eq_true ⟨hs,he⟩] at hbp
     obtain⟨y1,y2,y3,y4⟩:=HYES.out hs
     have HEND:Hid _:=y4
     have h63:L.length+1<=maxLen:=by unfold maxLen;omega
     have hby:(L.length+1)*80<=140737488355328:=by omega
     clear y4
     have hz2:w.heap.size<(w1.alloc (.cells #[.string p0,.string p1,.string p2,.string p3,.string p4] 147)).heap.size:=by simp;omega
     have hz3:w1.heap.size<(w1.alloc (.cells #[.string p0,.string p1,.string p2,.string p3,.string p4] 147)).heap.size:=by simp
     go_wp2_with (first
      | (go_at_call 140;refine Calls.mono (hbp _) ?_;rintro e w2 ⟨rfl,hb2⟩;have k2:=fun o=>(bcell hb2).1 w1.heap.size o hz3;have hz4:=Nat.lt_of_lt_of_le hz3 hb2.size;have hW:=below_via ((Below.refl w1.heap.size w1).alloc (Nat.le_refl _) _) hb2;have HROW:Hid (w2.ownsRow (r+1) 147 5 (.slice la L.length lc) L.length (flatP L)):=ownsRow_keep y1 (fun g hg=>hW.block g (ownsRow_lt y1 hg));have HSZ:Hid (r+1<=w2.heap.size):=Nat.le_trans y2 hW.size;have HW:Hid _:=hW;clear hW)
      | (at_builtin;go_loud (refine wpList_append_own_at _ rfl (.tmp 24) (.tmp 26) 289 rfl (r+1) 147 i0 _ 5 80 Tryz.underlying289 hi iz0 iz1 iz2 rfl (by decide) (.slice la L.length lc) L.length (flatP L) rfl (World.ownsRow.alloc HROW.out _) ⟨w2.heap.size,0,none⟩ 1 1 [.string p0,.string p1,.string p2,.string p3,.string p4] rfl rfl (new5 w2 _ _ _ _ _ 147) (five_one _ _ _ _ _) h63 hby (Nat.le_trans HSZ.out (alloc_le _ _)) ?_;intro v' w3 hown' hgrow _ hloc;obtain⟨g',cap',rfl⟩:=slice_of_owns hown' (Nat.succ_pos _);have HOWN:Hid _:=hown';have HGROW:Hid _:=hgrow;clear hown' hgrow hloc)))
     have HNEW:Hid (Gath b r n D f src _ w3 _ cnt1 (L ++ [p]) _):=HEND.out _ w3 _ (HW.out.alloc HW.out.size (.cells #[.string p0,.string p1,.string p2,.string p3,.string p4] 147)) (by rw[HPp.out];exact HOWN.out) HGROW.out
     go_roundw
     case rel=>exact⟨_,_,_,HNEW.out⟩
     case measure=>rw[HNEW.out.rg.left_eq,HGA.out.rg.left_eq];exact HLT.out
   ·have he:p≠src:=fun e=>hs (e ▸ List.prefix_refl _)
    rw[decide_eq_false he] at hep
    rw[decide_eq_false (fun h=>hs h.1)] at hbp
    go_wp2_with (go_at_call 140;refine Calls.mono (hbp _) ?_;rintro e w2 ⟨rfl,hb2⟩)
    have HNEW:Hid _:=(HNO.out hs).below (below_via ((Below.refl _ _).alloc (Nat.le_refl _) _) hb2)
    go_roundw
    case rel=>exact⟨_,_,L,HNEW.out⟩
    case measure=>rw[(Gath.rg HNEW.out).left_eq,HGA.out.rg.left_eq];exact HLT.out
theorem carryD_walk (b n:Nat)(f:List ByteArray->Option Value)(src dst:List ByteArray)(w:World)(hsrc:Good src)(hdG:Good dst)(hP:PMap w b n f)(hn:n<1099511627776)
  (hdst:∀ x,dst <+: x->f x=none)(hlen:∀ x,src <+: x->f x≠none->dst.length+(x.length-src.length)<=5)(hf:∀ x,f x≠none->Good x):
  Calls Tryz.prog 145 #[.map (some b),.agg (pathA src),.agg (pathA dst)] w fun e w'=>e=.returned (.tuple #[])/\PMap w' b n (carryG f src dst)/\w.grownBy w' (some b):=by
 obtain⟨i0,hi,iz0,iz1,iz2⟩:=info_parts infoP
 have hbl:=hP.lt
 have HPM:Hid _:=hP
 obtain⟨M,⟨D,hD,hM⟩,h1,h2⟩:=hP
 have hbel:=fun p (hp:Good p) W=>below_any p src hp hsrc W
 have heq:=fun p (hp:Good p) W=>run_eqP hp hsrc W
 have hmov:=fun r (h1:src.length+r.length<=5) (h2:dst.length+r.length<=5) W=>moved_any src dst r hsrc hdG h1 h2 W
 obtain⟨s0,s1,s2,s3,s4,hS⟩:∃ s0 s1 s2 s3 s4,pathA src = #[.string s0,.string s1,.string s2,.string s3,.string s4]:=⟨_,_,_,_,_,rfl⟩
 obtain⟨d0,d1,d2,d3,d4,hDp⟩:∃ s0 s1 s2 s3 s4,pathA dst = #[.string s0,.string s1,.string s2,.string s3,.string s4]:=⟨_,_,_,_,_,rfl⟩
 unfold pathV at hbel heq hmov
 rw[hS] at hbel heq hmov
 rw[hDp] at hmov
 rw[hS,hDp]
 have HO:Hid _:=ownsMap_keep (w':=(w.alloc (.cells #[.string s0,.string s1,.string s2,.string s3,.string s4] 147)).alloc (.cells #[.string d0,.string d1,.string d2,.string d3,.string d4] 147)) hD ((((Below.refl w.heap.size w).alloc (Nat.le_refl _) _).alloc (by simp) _).block b hbl)
 have HM:Hid _:=And.intro hM (And.intro h1 h2)
 have HBEL:Hid _:=hbel
 have HEQ:Hid _:=heq
 have HMOV:Hid _:=hmov
 have HDST:Hid _:=hdst
 have HLEN:Hid _:=hlen
 have HF:Hid _:=hf
 have HG:Hid _:=And.intro hsrc hdG
 have HS:Hid _:=And.intro hS hDp
 clear hD hM h1 h2 hbel heq hmov hdst hlen hf hsrc hdG hS hDp
 go_enter Tryz.func145,Tryz.ntmps145
 go_wp2_with (at_range;go_loud (refine wpList_range_own _ rfl _ 162 rfl 147 55 lawP Tryz.underlying162 heldElem b n D rfl HO.out ?_;intro w0 hrg0 hg0 hs0))
 go_frame
 have hWs:((w.alloc (.cells #[.string s0,.string s1,.string s2,.string s3,.string s4] 147)).alloc (.cells #[.string d0,.string d1,.string d2,.string d3,.string d4] 147)).heap.size=w.heap.size+2:=by simp
 have hmD:=World.ownsMap.size_le HO.out
 generalize hr:((w.alloc (.cells #[.string s0,.string s1,.string s2,.string s3,.string s4] 147)).alloc (.cells #[.string d0,.string d1,.string d2,.string d3,.string d4] 147)).heap.size=r at hrg0 hs0 ⊢
 have hbr:b<r:=by omega
 have hr0:w.heap.size<r:=by omega
 have hr1:w.heap.size+1<r:=by omega
 have HR2:Hid (((w.alloc (.cells #[.string s0,.string s1,.string s2,.string s3,.string s4] 147)).alloc (.cells #[.string d0,.string d1,.string d2,.string d3,.string d4] 147)).heap.size<=r/\w.heap.size<((w.alloc (.cells #[.string s0,.string s1,.string s2,.string s3,.string s4] 147)).alloc (.cells #[.string d0,.string d1,.string d2,.string d3,.string d4] 147)).heap.size/\w.heap.size+1<((w.alloc (.cells #[.string s0,.string s1,.string s2,.string s3,.string s4] 147)).alloc (.cells #[.string d0,.string d1,.string d2,.string d3,.string d4] 147)).heap.size):=⟨Nat.le_of_eq hr,by omega,by omega⟩
 have HST:Hid (Gath b r n D f src ((w.alloc (.cells #[.string s0,.string s1,.string s2,.string s3,.string s4] 147)).alloc (.cells #[.string d0,.string d1,.string d2,.string d3,.string d4] 147)) w0 (Maps.has D) (Maps.size D) [] (.slice none 0 0)):=⟨hrg0,gathered_nil src HM.out.1 HM.out.2.1,World.ownsRow_nil _ _ _ _,hg0,by rw[hs0];exact Nat.le_refl _,by simpa using hmD⟩
 clear hrg0 hg0 hs0 hr hWs hmD
 go_loopw [6] (fun mv wr=>∃ left cnt L,Hid (Gath b r n D f src ((w.alloc (.cells #[.string s0,.string s1,.string s2,.string s3,.string s4] 147)).alloc (.cells #[.string d0,.string d1,.string d2,.string d3,.string d4] 147)) wr left cnt L mv)) (fun _ wr=>wr.rangeLeft b r)
 case atStart=>exact⟨Maps.has D,Maps.size D,[],HST.out⟩
 case round=>
  obtain⟨left,cnt,L,HGA⟩:=hrel
  obtain⟨la,lc,rfl⟩:=row_shape HGA.out.row
  go_wp2_with (at_next;refine stop_at ?_)
  show wpList _ _ _ _ _ _
  refine wpList_next_ranges _ rfl (.tmp 11) rfl 147 lawP heldElem (fun x:Value=>x) (fun x:Value=>x) (fun key kl _=>⟨key,rfl⟩) (fun v y _=>⟨v,rfl⟩) b r n D left cnt rfl HGA.out.rg ?_ ?_
  ·intro hc0 hl0
   have HALL:Hid (∀ x,x ∈ L↔(src <+: x/\f x≠none)):=fun x=>(HGA.out.ga.2 x).trans ⟨fun h=>⟨h.2.1,h.2.2.1⟩,fun h=>⟨HF.out x h.2,h.1,h.2,hl0 _⟩⟩
   have HNOD:Hid L.Nodup:=HGA.out.ga.1
   clear hl0 hc0
   have HST2:Hid (PMap wr b n (carried f src dst [])):=PMap.congr ⟨M,⟨D,HGA.out.rg.owns,HM.out.1⟩,HM.out.2.1,HM.out.2.2⟩ (fun x _=>(carried_nil f src dst x).symm)
   have hLn:L.length<=n:=by have:=HGA.out.many;omega
   have HROW:Hid (wr.ownsRow (r+1) 147 5 (.slice la L.length lc) L.length (flatP L)):=HGA.out.row
   have HGR:Hid _:=World.grownBy.but HGA.out.gr (some b)
   have hszr:=HGA.out.sz
   go_wp2
   go_loopw [30] (fun i w2=>∃ k:Nat,k<=L.length/\i=.int .i64 (k:Int)/\Hid (PMap w2 b n (carried f src dst (L.take k)))/\Hid (((w.alloc (.cells #[.string s0,.string s1,.string s2,.string s3,.string s4] 147)).alloc (.cells #[.string d0,.string d1,.string d2,.string d3,.string d4] 147)).grownBy w2 (some b))/\Hid (w2.ownsRow (r+1) 147 5 (.slice la L.length lc) L.length (flatP L))/\r+1<=w2.heap.size) (fun i _=>L.length-(intOf i).toNat)
   case atStart=>exact⟨0,Nat.zero_le _,rfl,HST2.out,HGR.out,HROW.out,hszr⟩
   case round=>
    obtain⟨k,hk,rfl,HPK,HGK,HRK,hszk⟩:=hrel
    by_cases hkl:k<L.length
    ·obtain⟨g,c',hsl⟩:=slice_of_owns HRK.out (by omega)
     cases hsl
     have hmem:=List.getElem_mem hkl
     obtain⟨hs,hfp⟩:=(HALL.out L[k]).1 hmem
     have hp:=HF.out _ hfp
     have hnin:L[k] ∉ L.take k:=by
      intro hin
      obtain⟨j,hj,hje⟩:=List.getElem_of_mem hin
      rw[List.length_take] at hj
      rw[List.getElem_take] at hje
      exact List.pairwise_iff_getElem.1 HNOD.out j k (by omega) hkl (by omega) hje
     have htk:L.take (k+1)=L.take k ++ [L[k]]:=List.take_succ_eq_append_getElem hkl
     have hLk:∀ x ∈ L.take k,src <+: x/\f x≠none:=fun x hx=>(HALL.out x).1 (List.mem_of_mem_take hx)
     obtain⟨p0,p1,p2,p3,p4,hPp⟩:∃ s0 s1 s2 s3 s4,pathA L[k] = #[.string s0,.string s1,.string s2,.string s3,.string s4]:=⟨_,_,_,_,_,rfl⟩
     obtain⟨hgl,e0,e1,e2,e3,e4⟩:=row5 HRK.out hkl hPp
     generalize L[k]=p at hmem hs hfp hp hnin htk hPp
     cases hv:f p with
     | none=>exact absurd hv hfp
     | some v=>
      have hsr:=pre_drop hs
      have hl5:=HLEN.out p hs hfp
      have hp5:=hp.len
      have hd5:src.length+(p.drop src.length).length<=5:=by rw[List.length_drop];have:=hs.length_le;omega
      have hmv:=HMOV.out (p.drop src.length) hd5 (by rw[List.length_drop];exact hl5)
      rw[hsr,hPp] at hmv
      have hqG:Good (movedP src dst p):=⟨HG.out.2.val.append (fun x hx=>hp.val x (List.mem_of_mem_drop hx)),by unfold movedP;rw[List.length_append,List.length_drop];exact hl5⟩
      have hturn:=fun W (hP:PMap W b n (carried f src dst (L.take k)))=>carry_turn hP (by unfold maxLen;omega) HDST.out hLk hp hs hv hnin hqG Tryz.underlying162 zeroEs 0
      change ∀ W,Calls Tryz.prog 197 _ W fun e w'=>e=.returned (.agg (pathA (movedP src dst p)))/\_ at hmv
      obtain⟨q0,q1,q2,q3,q4,hPq⟩:∃ s0 s1 s2 s3 s4,pathA (movedP src dst p) = #[.string s0,.string s1,.string s2,.string s3,.string s4]:=⟨_,_,_,_,_,rfl⟩
      rw[hPq] at hmv
      simp only[hPp,hPq] at hturn
      have HTURN:Hid _:=hturn
      have hb0:Below wr.heap.size wr (wr.alloc (.cells #[.string p0,.string p1,.string p2,.string p3,.string p4] 147)).drew:=below_drew ((Below.refl _ _).alloc (Nat.le_refl _) _)
      have hl0:=(hturn _ (HPK.out.keep (hb0.block b (by omega)))).1
      have kS:=fun o=>(out_cell HGK.out (c:=w.heap.size) HR2.out.2.1 (by omega) o)
      have kD:=fun o=>(out_cell HGK.out (c:=w.heap.size+1) HR2.out.2.2 (by omega) o)
      have hz0:w.heap.size<wr.heap.size:=by omega
      have hz1:w.heap.size+1<wr.heap.size:=by omega
      have hbz:b<wr.heap.size:=by omega
      have hnb:wr.heap.size≠b:=by omega
      have hnb0:w.heap.size≠b:=by omega
      have hnb1:w.heap.size+1≠b:=by omega
      have HTK:Hid _:=htk
      have HB0:Hid _:=hb0
      clear hturn hb0 hmem hs hfp hp hnin htk hPp hv hsr hl5 hp5 hd5 hqG hPq hLk
      clear HO HM HBEL HEQ HMOV HLEN HF HG HS HPM HNOD HST2 HROW HGR HST hi iz0 iz1 iz2
      go_wp2
      clear e0 e1 e2 e3 e4
      have hSD:Three (wr.alloc (.cells #[.string p0,.string p1,.string p2,.string p3,.string p4] 147)).drew wr.heap.size w.heap.size (w.heap.size+1) p0 p1 p2 p3 p4 s0 s1 s2 s3 s4 d0 d1 d2 d3 d4:=by
       unfold Three
       have q0:=Nat.ne_of_lt hz0
       have q1:=Nat.ne_of_lt hz1
       simp[World.cell?_alloc_lt,hz0,hz1,kS,kD]
      go_region_held3 (fun w'=>w'.cell? ⟨wr.heap.size,0,none⟩=some (.string p0)/\w'.cell? ⟨wr.heap.size,1,none⟩=some (.string p1)/\w'.cell? ⟨wr.heap.size,2,none⟩=some (.string p2)/\w'.cell? ⟨wr.heap.size,3,none⟩=some (.string p3)/\w'.cell? ⟨wr.heap.size,4,none⟩=some (.string p4)/\w'.cell? ⟨w.heap.size,0,none⟩=some (.string s0)/\w'.cell? ⟨w.heap.size,1,none⟩=some (.string s1)/\w'.cell? ⟨w.heap.size,2,none⟩=some (.string s2)/\w'.cell? ⟨w.heap.size,3,none⟩=some (.string s3)/\w'.cell? ⟨w.heap.size,4,none⟩=some (.string s4)/\w'.cell? ⟨w.heap.size+1,0,none⟩=some (.string d0)/\w'.cell? ⟨w.heap.size+1,1,none⟩=some (.string d1)/\w'.cell? ⟨w.heap.size+1,2,none⟩=some (.string d2)/\w'.cell? ⟨w.heap.size+1,3,none⟩=some (.string d3)/\w'.cell? ⟨w.heap.size+1,4,none⟩=some (.string d4)) (first | exact hSD | exact hS3 | exact hS4) (first | (go_at_call 197;refine (hmv _).mono ?_;rintro e w3 ⟨rfl,hb3⟩;obtain⟨m1,m2,m3,m4⟩:=moved_keep hb3 hz0 hz1;have hS3:=hSD.keep m1 m2 m3;have hb03:=below_via HB0.out hb3;obtain⟨hl3,w4,w5,hrun4,hrun5,hP5,hg4,hg5,hs4,hs5⟩:=HTURN.out w3 (HPK.out.keep (hb03.block b hbz));have hS4:=hS3.keep (out_cell hg4 m4 hnb) (out_cell hg4 (Nat.lt_trans hz0 m4) hnb0) (out_cell hg4 (Nat.lt_trans hz1 m4) hnb1);have HE:Hid _:=carry_keep hbr HGK.out HRK.out hszk hb03 hg4 hg5;have HP5:Hid _:=hP5;have hz4:wr.heap.size<w4.heap.size:=Nat.lt_of_lt_of_le m4 (Nat.le_of_eq hs4.symm);clear hg4 hg5 hs4 hs5 hP5 hb03 m1 m2 m3 hb3))
      all_goals
       go_wp2
       go_roundw
       case rel=>exact⟨k+1,by omega,by go_num,by rw[HTK.out];exact HP5.out,HE.out.1,HE.out.2.1,HE.out.2.2⟩
       case measure=>simp[intOf];omega
    ·have hke:k=L.length:=by omega
     subst hke
     rw[List.take_length] at HPK
     go_wp2
     go_end0
     refine⟨rfl,HPK.out.congr (fun x _=>carried_all HDST.out HALL.out x),?_⟩
     exact (World.grownBy.but (below_grown (((Below.refl w.heap.size w).alloc (Nat.le_refl _) _).alloc (by simp) _)) (some b)).andThen HGK.out (fun j hj=>.inr (by rw[hj]))
  ·intro x c kl y w1 cnt1 hkey hlk hv hat hrg1 hlt hg1 hs1 hen
   obtain⟨p,hp,rfl,rfl,hfp⟩:=came HM.out.1 HM.out.2.1 HM.out.2.2 hkey hat
   obtain⟨p0,p1,p2,p3,p4,hPp⟩:∃ s0 s1 s2 s3 s4,pathA p = #[.string s0,.string s1,.string s2,.string s3,.string s4]:=⟨_,_,_,_,_,rfl⟩
   have hbp:=HBEL.out p hp
   have hep:∀ W,(Op.equalIn 10000 147 (.agg (pathA p)) (.agg #[.string s0,.string s1,.string s2,.string s3,.string s4])).run Tryz.prog W=.ok (decide (p=src)) W:=HEQ.out p hp
   obtain⟨hno,hyes⟩:=HGA.out.next hbr HR2.out.1 hrg1 hlt hg1 hp hlk hfp
   have kS:=fun o=>(out_cell hg1 (c:=w.heap.size) (Nat.lt_of_lt_of_le hr0 (Nat.le_of_succ_le HGA.out.sz)) (by omega) o).trans (HGA.out.box HR2.out.2.1 o)
   have hz1:w.heap.size<w1.heap.size:=by rw[hs1];exact Nat.lt_of_lt_of_le hr0 (Nat.le_of_succ_le HGA.out.sz)
   have HLT:Hid (cnt1<cnt):=hlt
   have HRG1:Hid _:=hrg1
   rw[hPp] at hbp hep hen ⊢
   have HPp:Hid _:=hPp
   have HNO:Hid _:=hno
   have HYES:Hid _:=hyes
   clear hno hyes hkey hlk hv hat hrg1 hlt hg1 hs1 hfp hPp
   by_cases hs:src <+: p
   ·by_cases he:p=src
    ·rw[decide_eq_true he] at hep
     clear hbp
     obtain⟨y1,y2,y3,y4⟩:=HYES.out hs
     have hW:Below w1.heap.size w1 (w1.alloc (.cells #[.string p0,.string p1,.string p2,.string p3,.string p4] 147)):=(Below.refl _ _).alloc (Nat.le_refl _) _
     have HROW:Hid _:=y1.alloc (.cells #[.string p0,.string p1,.string p2,.string p3,.string p4] 147)
     have HSZ:Hid _:=Nat.le_trans y2 hW.size
     have HEND:Hid _:=y4
     have HW:Hid _:=hW
     have h63:L.length+1<=maxLen:=by unfold maxLen;omega
     have hby:(L.length+1)*80<=140737488355328:=by omega
     clear y1 y2 y4 hW
     go_wp2_with (at_builtin;go_loud (refine wpList_append_own_at _ rfl (.tmp 24) (.tmp 26) 289 rfl (r+1) 147 i0 _ 5 80 Tryz.underlying289 hi iz0 iz1 iz2 rfl (by decide) (.slice la L.length lc) L.length (flatP L) rfl (World.ownsRow.alloc HROW.out _) ⟨w1.heap.size+1,0,none⟩ 1 1 [.string p0,.string p1,.string p2,.string p3,.string p4] rfl rfl (new5b w1 _ _ _ _ _ _ 147) (five_one _ _ _ _ _) h63 hby (Nat.le_trans HSZ.out (alloc_le _ _)) ?_;intro v' w3 hown' hgrow _ hloc;obtain⟨g',cap',rfl⟩:=slice_of_owns hown' (Nat.succ_pos _);have HOWN:Hid _:=hown';have HGROW:Hid _:=hgrow;clear hown' hgrow hloc))
     have HNEW:Hid (Gath b r n D f src _ w3 _ cnt1 (L ++ [p]) _):=HEND.out _ w3 _ (HW.out.alloc HW.out.size (.cells #[.string p0,.string p1,.string p2,.string p3,.string p4] 147)) (by rw[HPp.out];exact HOWN.out) HGROW.out
     go_roundw
     case rel=>exact⟨_,_,_,HNEW.out⟩
     case measure=>rw[HNEW.out.rg.left_eq,HGA.out.rg.left_eq];exact HLT.out
    ·rw[decide_eq_false he] at hep
     rw[decide_eq_true ⟨hs,he⟩] at hbp
     obtain⟨y1,y2,y3,y4⟩:=HYES.out hs
     have HEND:Hid _:=y4
     have h63:L.length+1<=maxLen:=by unfold maxLen;omega
     have hby:(L.length+1)*80<=140737488355328:=by omega
     clear y4
     have hz2:w.heap.size<(w1.alloc (.cells #[.string p0,.string p1,.string p2,.string p3,.string p4] 147)).heap.size:=by simp;omega
     have hz3:w1.heap.size<(w1.alloc (.cells #[.string p0,.string p1,.string p2,.string p3,.string p4] 147)).heap.size:=by simp
     go_wp2_with (first
      | (go_at_call 140;refine Calls.mono (hbp _) ?_;rintro e w2 ⟨rfl,hb2⟩;have k2:=fun o=>(bcell hb2).1 w1.heap.size o hz3;have hz4:=Nat.lt_of_lt_of_le hz3 hb2.size;have hW:=below_via ((Below.refl w1.heap.size w1).alloc (Nat.le_refl _) _) hb2;have HROW:Hid (w2.ownsRow (r+1) 147 5 (.slice la L.length lc) L.length (flatP L)):=ownsRow_keep y1 (fun g hg=>hW.block g (ownsRow_lt y1 hg));have HSZ:Hid (r+1<=w2.heap.size):=Nat.le_trans y2 hW.size;have HW:Hid _:=hW;clear hW)
      | (at_builtin;go_loud (refine wpList_append_own_at _ rfl (.tmp 24) (.tmp 26) 289 rfl (r+1) 147 i0 _ 5 80 Tryz.underlying289 hi iz0 iz1 iz2 rfl (by decide) (.slice la L.length lc) L.length (flatP L) rfl (World.ownsRow.alloc HROW.out _) ⟨w2.heap.size,0,none⟩ 1 1 [.string p0,.string p1,.string p2,.string p3,.string p4] rfl rfl (new5 w2 _ _ _ _ _ 147) (five_one _ _ _ _ _) h63 hby (Nat.le_trans HSZ.out (alloc_le _ _)) ?_;intro v' w3 hown' hgrow _ hloc;obtain⟨g',cap',rfl⟩:=slice_of_owns hown' (Nat.succ_pos _);have HOWN:Hid _:=hown';have HGROW:Hid _:=hgrow;clear hown' hgrow hloc)))
     have HNEW:Hid (Gath b r n D f src _ w3 _ cnt1 (L ++ [p]) _):=HEND.out _ w3 _ (HW.out.alloc HW.out.size (.cells #[.string p0,.string p1,.string p2,.string p3,.string p4] 147)) (by rw[HPp.out];exact HOWN.out) HGROW.out
     go_roundw
     case rel=>exact⟨_,_,_,HNEW.out⟩
     case measure=>rw[HNEW.out.rg.left_eq,HGA.out.rg.left_eq];exact HLT.out
   ·have he:p≠src:=fun e=>hs (e ▸ List.prefix_refl _)
    rw[decide_eq_false he] at hep
    rw[decide_eq_false (fun h=>hs h.1)] at hbp
    go_wp2_with (go_at_call 140;refine Calls.mono (hbp _) ?_;rintro e w2 ⟨rfl,hb2⟩)
    have HNEW:Hid _:=(HNO.out hs).below (below_via ((Below.refl _ _).alloc (Nat.le_refl _) _) hb2)
    go_roundw
    case rel=>exact⟨_,_,L,HNEW.out⟩
    case measure=>rw[(Gath.rg HNEW.out).left_eq,HGA.out.rg.left_eq];exact HLT.out
end Go.Proofs.YtlgidcmmgohagaaGreat
