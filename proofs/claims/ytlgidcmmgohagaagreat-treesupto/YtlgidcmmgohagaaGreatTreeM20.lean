/- What is proved here: of paths. -/
import Derived.Test.YtlgidcmmgohagaaGreatTreeM19
import Derived.Test.YtlgidcmmgohagaaGreatTreeM16
import Derived.Deep.RegionHeld3
namespace Go.Proofs.YtlgidcmmgohagaaGreat
open Go.RowKit Go.Sort Go.Shelf Go.Proofs.Tryz
set_option linter.unusedVariables false
set_option maxRecDepth 100000
set_option maxHeartbeats 16000000
theorem W7 (s0 s1 s2 s3 s4 x:ByteArray)(w:World)
  (hd:∀W,Calls prog 142 #[.agg #[.string s0,.string s1,.string s2,.string s3,.string s4]] W fun e w'=>e=.returned (.int .i64 0)/\Below W.heap.size W w'):
  Calls prog 196 #[.agg #[.string s0,.string s1,.string s2,.string s3,.string s4],.string x] w fun e w'=>e=.returned (.agg #[.string x,.string s1,.string s2,.string s3,.string s4])/\Below w.heap.size w w':=by
 go_enter func196,ntmps196;go_wp2_with (go_at_call 142;refine (hd _).mono ?_;rintro e w1 ⟨rfl,hb1⟩;have hz:=mg hb1;obtain⟨hz0,hz1⟩:=hz;have k1:=fun o=>(aR hb1).1 w.heap.size o (by simp;omega);have f1:=fun o=>(aR hb1).2 w.heap.size o (by simp;omega);have k2:=fun o=>(aR hb1).1 (w.heap.size+1) o (by simp);have f2:=fun o=>(aR hb1).2 (w.heap.size+1) o (by simp));exact bodyPost_ret (v:=.agg #[.string x,.string s1,.string s2,.string s3,.string s4]) (by simp[results,results196,go_sem,k2]) rfl ⟨rfl,by
   have h1:Below w.heap.size w w1:=aq (((Below.refl _ _).alloc (bA _) _).alloc (by simp) _) hb1
   repeat (refine Below.setCell ?_ (by simp) _)
   exact h1⟩
theorem W8 (s0 s1 s2 s3 s4 x:ByteArray)(w:World)
  (hd:∀W,Calls prog 142 #[.agg #[.string s0,.string s1,.string s2,.string s3,.string s4]] W fun e w'=>e=.returned (.int .i64 1)/\Below W.heap.size W w'):
  Calls prog 196 #[.agg #[.string s0,.string s1,.string s2,.string s3,.string s4],.string x] w fun e w'=>e=.returned (.agg #[.string s0,.string x,.string s2,.string s3,.string s4])/\Below w.heap.size w w':=by
 go_enter func196,ntmps196;go_wp2_with (go_at_call 142;refine (hd _).mono ?_;rintro e w1 ⟨rfl,hb1⟩;have hz:=mg hb1;obtain⟨hz0,hz1⟩:=hz;have k1:=fun o=>(aR hb1).1 w.heap.size o (by simp;omega);have f1:=fun o=>(aR hb1).2 w.heap.size o (by simp;omega);have k2:=fun o=>(aR hb1).1 (w.heap.size+1) o (by simp);have f2:=fun o=>(aR hb1).2 (w.heap.size+1) o (by simp));exact bodyPost_ret (v:=.agg #[.string s0,.string x,.string s2,.string s3,.string s4]) (by simp[results,results196,go_sem,k2]) rfl ⟨rfl,by
   have h1:Below w.heap.size w w1:=aq (((Below.refl _ _).alloc (bA _) _).alloc (by simp) _) hb1
   repeat (refine Below.setCell ?_ (by simp) _)
   exact h1⟩
theorem W9 (s0 s1 s2 s3 s4 x:ByteArray)(w:World)
  (hd:∀W,Calls prog 142 #[.agg #[.string s0,.string s1,.string s2,.string s3,.string s4]] W fun e w'=>e=.returned (.int .i64 2)/\Below W.heap.size W w'):
  Calls prog 196 #[.agg #[.string s0,.string s1,.string s2,.string s3,.string s4],.string x] w fun e w'=>e=.returned (.agg #[.string s0,.string s1,.string x,.string s3,.string s4])/\Below w.heap.size w w':=by
 go_enter func196,ntmps196;go_wp2_with (go_at_call 142;refine (hd _).mono ?_;rintro e w1 ⟨rfl,hb1⟩;have hz:=mg hb1;obtain⟨hz0,hz1⟩:=hz;have k1:=fun o=>(aR hb1).1 w.heap.size o (by simp;omega);have f1:=fun o=>(aR hb1).2 w.heap.size o (by simp;omega);have k2:=fun o=>(aR hb1).1 (w.heap.size+1) o (by simp);have f2:=fun o=>(aR hb1).2 (w.heap.size+1) o (by simp));exact bodyPost_ret (v:=.agg #[.string s0,.string s1,.string x,.string s3,.string s4]) (by simp[results,results196,go_sem,k2]) rfl ⟨rfl,by
   have h1:Below w.heap.size w w1:=aq (((Below.refl _ _).alloc (bA _) _).alloc (by simp) _) hb1
   repeat (refine Below.setCell ?_ (by simp) _)
   exact h1⟩
theorem Xa (s0 s1 s2 s3 s4 x:ByteArray)(w:World)
  (hd:∀W,Calls prog 142 #[.agg #[.string s0,.string s1,.string s2,.string s3,.string s4]] W fun e w'=>e=.returned (.int .i64 3)/\Below W.heap.size W w'):
  Calls prog 196 #[.agg #[.string s0,.string s1,.string s2,.string s3,.string s4],.string x] w fun e w'=>e=.returned (.agg #[.string s0,.string s1,.string s2,.string x,.string s4])/\Below w.heap.size w w':=by
 go_enter func196,ntmps196;go_wp2_with (go_at_call 142;refine (hd _).mono ?_;rintro e w1 ⟨rfl,hb1⟩;have hz:=mg hb1;obtain⟨hz0,hz1⟩:=hz;have k1:=fun o=>(aR hb1).1 w.heap.size o (by simp;omega);have f1:=fun o=>(aR hb1).2 w.heap.size o (by simp;omega);have k2:=fun o=>(aR hb1).1 (w.heap.size+1) o (by simp);have f2:=fun o=>(aR hb1).2 (w.heap.size+1) o (by simp));exact bodyPost_ret (v:=.agg #[.string s0,.string s1,.string s2,.string x,.string s4]) (by simp[results,results196,go_sem,k2]) rfl ⟨rfl,by
   have h1:Below w.heap.size w w1:=aq (((Below.refl _ _).alloc (bA _) _).alloc (by simp) _) hb1
   repeat (refine Below.setCell ?_ (by simp) _)
   exact h1⟩
theorem Xb (s0 s1 s2 s3 s4 x:ByteArray)(w:World)
  (hd:∀W,Calls prog 142 #[.agg #[.string s0,.string s1,.string s2,.string s3,.string s4]] W fun e w'=>e=.returned (.int .i64 4)/\Below W.heap.size W w'):
  Calls prog 196 #[.agg #[.string s0,.string s1,.string s2,.string s3,.string s4],.string x] w fun e w'=>e=.returned (.agg #[.string s0,.string s1,.string s2,.string s3,.string x])/\Below w.heap.size w w':=by
 go_enter func196,ntmps196;go_wp2_with (go_at_call 142;refine (hd _).mono ?_;rintro e w1 ⟨rfl,hb1⟩;have hz:=mg hb1;obtain⟨hz0,hz1⟩:=hz;have k1:=fun o=>(aR hb1).1 w.heap.size o (by simp;omega);have f1:=fun o=>(aR hb1).2 w.heap.size o (by simp;omega);have k2:=fun o=>(aR hb1).1 (w.heap.size+1) o (by simp);have f2:=fun o=>(aR hb1).2 (w.heap.size+1) o (by simp));exact bodyPost_ret (v:=.agg #[.string s0,.string s1,.string s2,.string s3,.string x]) (by simp[results,results196,go_sem,k2]) rfl ⟨rfl,by
   have h1:Below w.heap.size w w1:=aq (((Below.refl _ _).alloc (bA _) _).alloc (by simp) _) hb1
   repeat (refine Below.setCell ?_ (by simp) _)
   exact h1⟩
theorem Qd (l:List ByteArray)(hg:Good l)(h4:l.length<=4)(x:ByteArray)(w:World):Calls prog 196 #[bn l,.string x] w fun e w'=>e=.returned (bn (l ++ [x]))/\Below w.heap.size w w':=by
 have hd:=fun W=>l8 l hg.val hg.len W
 match l,h4,hd with
 | [],_,hd=>exact W7 _ _ _ _ _ x w hd
 | [a],_,hd=>exact W8 _ _ _ _ _ x w hd
 | [a,b],_,hd=>exact W9 _ _ _ _ _ x w hd
 | [a,b,c],_,hd=>exact Xa _ _ _ _ _ x w hd
 | [a,b,c,d],_,hd=>exact Xb _ _ _ _ _ x w hd
theorem uF (l:List ByteArray)(j:Nat):(av l).toList[j]? = if j<5 then some (.string (l.getD j ⟨#[]⟩)) else none:=by
 by_cases h:j<5
 ·rw[aL h]
  rcases (show j=0\/j=1\/j=2\/j=3\/j=4 by omega) with rfl | rfl | rfl | rfl | rfl <;> rfl
 ·rw[ay h];exact List.getElem?_eq_none (by show 5<=j;omega)
def eD (p:List ByteArray)(f d:Nat):List Value:=((av p).toList.drop f).take (Nat.min (5-f) (5-d))
theorem yM (p:List ByteArray)(f d:Nat):(eD p f d).length=Nat.min (5-f) (5-d):=by
 have:(av p).toList.length=5:=rfl
 unfold eD;rw[List.length_take,List.length_drop,this];exact Nat.min_eq_left (Nat.min_le_left _ _)
theorem Qe {src dst r:List ByteArray}(hs:src.length+r.length<=5)(hd:dst.length+r.length<=5):
  (av dst).toList.take dst.length++eD (src++r) src.length dst.length++(av dst).toList.drop (dst.length+(eD (src++r) src.length dst.length).length)=(av (dst++r)).toList:=by
 have hl:(av dst).toList.length=5:=rfl;have hk:=yM (src++r) src.length dst.length;generalize qs:Nat.min (5-src.length) (5-dst.length)=k at hk;have fM:k<=5-dst.length:=by rw[<-qs];exact Nat.min_le_right _ _
 have hk2:r.length<=k:=by rw[<-qs];exact Nat.le_min.2 ⟨by omega,by omega⟩
 have hk3:k<=5-src.length:=by rw[<-qs];exact Nat.min_le_left _ _
 refine List.ext_getElem? fun j=>?_;rw[uF];by_cases h1:j<dst.length
 ·rw[List.getElem?_append_left (by rw[List.length_append,List.length_take,hl];omega),List.getElem?_append_left (by rw[List.length_take,hl];omega),List.getElem?_take_of_lt h1,uF,aL (by omega),aL (by omega)]
  rw[List.getD_eq_getElem?_getD,List.getD_eq_getElem?_getD,List.getElem?_append_left h1]
 ·by_cases h2:j<dst.length+k
  ·rw[List.getElem?_append_left (by rw[List.length_append,List.length_take,hl,hk];omega),List.getElem?_append_right (by rw[List.length_take,hl];omega),List.length_take,hl,Nat.min_eq_left (by omega)]
   unfold eD;rw[qs,List.getElem?_take_of_lt (by omega),List.getElem?_drop,uF,aL (by omega),aL (by omega)];rw[List.getD_eq_getElem?_getD,List.getD_eq_getElem?_getD,List.getElem?_append_right (by omega),List.getElem?_append_right (by omega)]
   congr 3
   congr 1
   omega
  ·rw[List.getElem?_append_right (by rw[List.length_append,List.length_take,hl,hk];omega),List.length_append,List.length_take,hl,hk,List.getElem?_drop,uF,Nat.min_eq_left (by omega)]
   rw[show dst.length+k+(j-(dst.length+k))=j by omega];by_cases h3:j<5
   ·rw[aL h3,aL h3,List.getD_eq_getElem?_getD,List.getD_eq_getElem?_getD,List.getElem?_eq_none (by omega),List.getElem?_eq_none (by rw[List.length_append];omega)]
   ·rw[ay h3,ay h3]
def xB (d:Nat):Nat:=if d=5 then 0 else d
theorem slP (b d:Nat)(hd:d<=5)(W:World):(Instr.sliceAt 147 (.pointer (some ⟨b,0,none⟩)) (some (.int .i64 (d:Int))) none none).run prog W=.ok (.slice (some ⟨b,xB d,none⟩) (5-d) (5-d)) W:=by
 rcases (show d=0\/d=1\/d=2\/d=3\/d=4\/d=5 by omega) with rfl | rfl | rfl | rfl | rfl | rfl <;> kernel_rfl
theorem Qf {src dst r:List ByteArray}(hs:src.length+r.length<=5)(hd:dst.length+r.length<=5):
  (av dst).toList.take (xB dst.length)++eD (src++r) src.length dst.length++(av dst).toList.drop (xB dst.length+(eD (src++r) src.length dst.length).length)=(av (dst++r)).toList:=by
 unfold xB;by_cases h:dst.length=5
 ·have hr:r = []:=List.length_eq_zero_iff.1 (by omega)
  have h0:eD (src++r) src.length dst.length = []:=List.length_eq_zero_iff.1 (by rw[yM,h];exact Nat.le_zero.1 (Nat.min_le_right _ _));rw[h0,aL h,hr];simp
 ·rw[ay h];exact Qe hs hd
def four (w:World)(p src dst:List ByteArray):World:=(((w.alloc (.cells (av p) 147)).alloc (.cells (av src) 147)).alloc (.cells (av dst) 147)).alloc (.cells (av []) 147)
theorem Eg (w:World)(p src dst:List ByteArray):(four w p src dst).heap.size=w.heap.size+4:=by unfold four;simp only[World.size_alloc]
theorem LU (w:World)(p src dst:List ByteArray):Below w.heap.size w (four w p src dst):=by
 unfold four;exact ((((Below.refl w.heap.size w).alloc (bA _) _).alloc (by simp) _).alloc (by simp;omega) _).alloc (by simp;omega) _
theorem NU (w:World)(p src dst:List ByteArray):(four w p src dst).heap[w.heap.size]? = some (.cells (av p) 147 (0,0))/\(four w p src dst).heap[w.heap.size+2]? = some (.cells (av dst) 147 (0,0))/\(four w p src dst).heap[w.heap.size+3]? = some (.cells (av []) 147 (0,0)):=by
 unfold four World.alloc;refine⟨?_,?_,?_⟩
 ·rw[Array.getElem?_push_lt (by simp;omega),Array.getElem_push_lt (by simp;omega),Array.getElem_push_lt (by simp),Array.getElem_push_eq]
 ·rw[Array.getElem?_push_lt (by simp),Array.getElem_push,dif_neg (by simp)]
 ·rw[Array.getElem?_push,aL (by simp)]
theorem LV {w W:World}{src dst r:List ByteArray}(hs:src.length+r.length<=5)(hd:dst.length+r.length<=5)(hb:Below (four w (src++r) src dst).heap.size (four w (src++r) src dst) W):
  ∃w3,(∀ty,(Builtin.copy_ #[131,131] ty #[.slice (some ⟨w.heap.size+2,xB dst.length,none⟩) (5-dst.length) (5-dst.length),.slice (some ⟨w.heap.size,xB src.length,none⟩) (5-src.length) (5-src.length)]).run prog W=.ok (goInt (Nat.min (5-src.length) (5-dst.length))) w3)/\Below w.heap.size w w3/\w.heap.size+3<w3.heap.size/\
   w3.heap[w.heap.size+2]? = some (.cells (av (dst++r)) 147 (0,0))/\w3.heap[w.heap.size+3]? = some (.cells (av []) 147 (0,0)):=by
 have hz:=Eg w (src++r) src dst;obtain⟨h0,h2,h3⟩:=NU w (src++r) src dst;have g0:W.heap[w.heap.size]? = _:=(hb.block _ (by omega)).trans h0;have g2:W.heap[w.heap.size+2]? = _:=(hb.block _ (by omega)).trans h2;have g3:W.heap[w.heap.size+3]? = _:=(hb.block _ (by omega)).trans h3;have hk:=yM (src++r) src.length dst.length;have hrow:=Qf hs hd;have Kp:(av dst).size=5:=rfl;have uO:xB dst.length+(eD (src++r) src.length dst.length).length<=(av dst).size:=by
  rw[hk,Kp];have h1:Nat.min (5-src.length) (5-dst.length)<=5-dst.length:=Nat.min_le_right _ _;unfold xB;split <;> omega
 have Xc:∀v ∈ eD (src++r) src.length dst.length,v.oneCell'=true:=fun v hv=>by
  unfold eD at hv
  have:=List.mem_of_mem_drop (List.mem_of_mem_take hv)
  simp only[av,List.mem_cons,List.not_mem_nil,or_false] at this;rcases this with rfl | rfl | rfl | rfl | rfl <;> rfl
 have mI:∀j v,(eD (src++r) src.length dst.length)[j]? = some v->W.cell? ((⟨w.heap.size,xB src.length,none⟩:Addr).add j)=some v:=fun j v hv=>by
  have hj:j<Nat.min (5-src.length) (5-dst.length):=by rw[<-hk];exact (List.getElem?_eq_some_iff.1 hv).1
  have RB:j<5-src.length:=cv hj (Nat.min_le_left _ _);unfold eD at hv;rw[List.getElem?_take_of_lt hj,List.getElem?_drop] at hv;have ho:xB src.length=src.length:=ay (by omega);rw[ho];have AL:(⟨w.heap.size,src.length,none⟩:Addr).add j=⟨w.heap.size,src.length+j,none⟩:=by
   unfold Addr.add;by_cases h0:j=0
   ·subst h0;rfl
   ·rw[ay h0]
  rw[AL];simp only[World.cell?,g0];rw[Array.getElem?_toList] at hv;exact hv
 have hrun:=fun ty=>nZ (P:=prog) W 131 131 ty 9 1 (w.heap.size+2) (xB dst.length) (5-dst.length) (5-dst.length) ⟨w.heap.size,xB src.length,none⟩ (5-src.length) (5-src.length) (av dst) 147 (eD (src++r) src.length dst.length) underlying131 (by kernel_rfl) g2 (by rw[hk,Nat.mul_one]) mI uO Xc;rw[hrow] at hrun;refine⟨_,hrun,?_,?_,?_,?_⟩
 ·exact below_setRow ((LU w (src++r) src dst).trans (hb.mono (by omega))) (by omega) _
 ·rw[size_setRow]
  have:=hb.size
  omega
 ·exact setRow_heap W _ _ _ _ _ g2
 ·rw[setRow_other _ _ _ _ (by omega)];exact g3
theorem yN {w:World}{b:Nat}{s0 s1 s2 s3 s4:Value}{t:TypeId}(h:w.heap[b]? = some (.cells #[s0,s1,s2,s3,s4] t (0,0))):b<w.heap.size/\w.cell? ⟨b,0,none⟩=some s0/\w.cell? ⟨b,1,none⟩=some s1/\w.cell? ⟨b,2,none⟩=some s2/\w.cell? ⟨b,3,none⟩=some s3/\w.cell? ⟨b,4,none⟩=some s4/\(∀o,w.frozen? ⟨b,o,none⟩=false):=
 ⟨(Array.getElem?_eq_some_iff.1 h).1,by simp[World.cell?,h],by simp[World.cell?,h],by simp[World.cell?,h],by simp[World.cell?,h],by simp[World.cell?,h],fun o=>by simp[World.frozen?,h]⟩
theorem Eh (src dst r:List ByteArray)(hS:Good src)(hD:Good dst)(hs:src.length+r.length<=5)(hd:dst.length+r.length<=5)(w:World):
  Calls prog 197 #[bn (src++r),bn src,bn dst] w fun e w'=>e=.returned (bn (dst++r))/\Below w.heap.size w w':=by
 have hdd:=fun W=>l8 dst hD.val hD.len W;have Ru:=fun W=>l8 src hS.val hS.len W;have V3:=fun W=>LV (w:=w) (W:=W) hs hd;have sl1:=fun W=>slP (w.heap.size+2) dst.length hD.len W;have sl2:=fun W=>slP w.heap.size src.length hS.len W;have uD:=Eg w (src++r) src dst;have AD:=NU w (src++r) src dst;unfold four at V3 uD AD;obtain⟨p0,p1,p2,p3,p4,hP⟩:∃s0 s1 s2 s3 s4,av (src++r) = #[.string s0,.string s1,.string s2,.string s3,.string s4]:=⟨_,_,_,_,_,rfl⟩;obtain⟨s0,s1,s2,s3,s4,hP1⟩:∃s0 s1 s2 s3 s4,av src = #[.string s0,.string s1,.string s2,.string s3,.string s4]:=⟨_,_,_,_,_,rfl⟩;obtain⟨d0,d1,d2,d3,d4,Yb⟩:∃s0 s1 s2 s3 s4,av dst = #[.string s0,.string s1,.string s2,.string s3,.string s4]:=⟨_,_,_,_,_,rfl⟩;obtain⟨q0,q1,q2,q3,q4,hP3⟩:∃s0 s1 s2 s3 s4,av (dst++r) = #[.string s0,.string s1,.string s2,.string s3,.string s4]:=⟨_,_,_,_,_,rfl⟩;have hP4:av [] = #[.string ⟨#[]⟩,.string ⟨#[]⟩,.string ⟨#[]⟩,.string ⟨#[]⟩,.string ⟨#[]⟩]:=rfl;unfold bn at hdd Ru ⊢;simp only[hP,hP1,Yb,hP3,hP4] at hdd Ru V3 AD uD ⊢;generalize xB dst.length=od at sl1 V3;generalize xB src.length=os at sl2 V3;generalize 5-dst.length=ld at sl1 V3;generalize 5-src.length=ls at sl2 V3;generalize (dst.length:Int)=nd at hdd sl1;generalize (src.length:Int)=ns at Ru sl2;have HCP:Hid _:=V3;have HFA:Hid _:=AD;clear hP hP1 Yb hP3 hP4 V3 AD hs hd hS hD;go_enter func197,ntmps197;go_wp2;have b0:=aB (Below.refl ((((w.alloc (.cells #[.string p0,.string p1,.string p2,.string p3,.string p4] 147)).alloc (.cells #[.string s0,.string s1,.string s2,.string s3,.string s4] 147)).alloc (.cells #[.string d0,.string d1,.string d2,.string d3,.string d4] 147)).alloc (.cells #[.string ⟨#[]⟩,.string ⟨#[]⟩,.string ⟨#[]⟩,.string ⟨#[]⟩,.string ⟨#[]⟩] 147)).heap.size ((((w.alloc (.cells #[.string p0,.string p1,.string p2,.string p3,.string p4] 147)).alloc (.cells #[.string s0,.string s1,.string s2,.string s3,.string s4] 147)).alloc (.cells #[.string d0,.string d1,.string d2,.string d3,.string d4] 147)).alloc (.cells #[.string ⟨#[]⟩,.string ⟨#[]⟩,.string ⟨#[]⟩,.string ⟨#[]⟩,.string ⟨#[]⟩] 147)));have HZ:Hid _:=(Nat.lt_of_lt_of_eq (Nat.lt_succ_self (w.heap.size+3)) uD.symm);clear uD
 go_region_with (first
  | (go_at_call_of 142 (Value.agg #[.string d0,.string d1,.string d2,.string d3,.string d4]);refine (hdd _).mono ?_;rintro e w1 ⟨rfl,hb1⟩;replace b0:=aq b0 hb1;have kc:=(aR b0).1;have kz:=cv HZ.out b0.size;obtain⟨w3,hrun,b3,z3,c2,c3⟩:=HCP.out _ b0;obtain⟨y0,y1,y2,y3,y4,y5,y6⟩:=yN c2;obtain⟨x0,x1,x2,x3,x4,x5,x6⟩:=yN c3;clear c2 c3)
  | (go_at_call_of 142 (Value.agg #[.string s0,.string s1,.string s2,.string s3,.string s4]);refine (Ru _).mono ?_;rintro e w1 ⟨rfl,hb1⟩;replace b0:=aq b0 hb1;have kc:=(aR b0).1;have kz:=cv HZ.out b0.size;obtain⟨w3,hrun,b3,z3,c2,c3⟩:=HCP.out _ b0;obtain⟨y0,y1,y2,y3,y4,y5,y6⟩:=yN c2;obtain⟨x0,x1,x2,x3,x4,x5,x6⟩:=yN c3;clear c2 c3))
 all_goals
  go_wp2;exact bodyPost_ret (v:=.agg #[.string q0,.string q1,.string q2,.string q3,.string q4]) (by simp[results,results197,go_sem,Nat.add_assoc,x1,x2,x3,x4,x5]) rfl ⟨rfl,by
   repeat (refine Below.setCell ?_ (by simp;omega) _)
   exact b3⟩
theorem NV {p:Prop}(h:Hid p):p:=h.out
def jZ (L:List (List ByteArray)):List Value:=L.flatMap fun p=>(av p).toList
theorem LW (L:List (List ByteArray))(p:List ByteArray):jZ (L ++ [p])=jZ L++(av p).toList:=by simp[jZ]
theorem Je:∀(L:List (List ByteArray)) (k o:Nat) (hk:k<L.length),o<5->(jZ L)[k*5+o]? = (av L[k]).toList[o]?
 | x :: r,0,o,hk,ho=>by
  show ((av x).toList++jZ r)[0*5+o]? = _
  rw[List.getElem?_append_left (by simp[av];omega)]
  simp
 | x :: r,k+1,o,hk,ho=>by
  show ((av x).toList++jZ r)[(k+1)*5+o]? = _
  rw[List.getElem?_append_right (by simp[av];omega)]
  have e:(k+1)*5+o-(av x).toList.length=k*5+o:=by simp[av];omega
  rw[e,Je r k o (by simpa using hk) ho]
  rfl
theorem adE {w:World}{base g n cap:Nat}{L:List (List ByteArray)}(h:w.ownsRow base 147 5 (.slice (some ⟨g,0,none⟩) n cap) n (jZ L)){k:Nat}(hk:k<L.length){s0 s1 s2 s3 s4:ByteArray}(hP:av L[k] = #[.string s0,.string s1,.string s2,.string s3,.string s4]):
  g<w.heap.size/\w.cell? ⟨g,k*5,none⟩=some (.string s0)/\w.cell? ⟨g,k*5+1,none⟩=some (.string s1)/\w.cell? ⟨g,k*5+2,none⟩=some (.string s2)/\w.cell? ⟨g,k*5+3,none⟩=some (.string s3)/\w.cell? ⟨g,k*5+4,none⟩=some (.string s4):=by
 obtain⟨hl,⟨h0,_⟩ | ⟨g',c',cur,hv,_,hg,hc1,_,hcs,BQ⟩⟩:=h
 ·cases h0
 ·cases hv
  have key:∀o u,o<5->(av L[k]).toList[o]? = some u->w.cell? ⟨g,k*5+o,none⟩=some u:=by
   intro o u ho hu;rw[<-Je L k o hk ho,<-BQ] at hu
   have:cur[k*5+o]? = some u:=by
    rw[List.getElem?_take] at hu;split at hu
    ·simpa using hu
    ·cases hu
   simp[World.cell?,hg,this]
  refine⟨(Array.getElem?_eq_some_iff.1 hg).1,key 0 _ (by omega) (by rw[hP];rfl),key 1 _ (by omega) (by rw[hP];rfl),key 2 _ (by omega) (by rw[hP];rfl),key 3 _ (by omega) (by rw[hP];rfl),key 4 _ (by omega) (by rw[hP];rfl)⟩
theorem Yw:(prog.info? 147).map (fun i=>(i.zero,i.size,i.bytes))=some (some (.agg #[.string ⟨#[]⟩,.string ⟨#[]⟩,.string ⟨#[]⟩,.string ⟨#[]⟩,.string ⟨#[]⟩]),5,80):=by kernel_rfl
theorem came {f:List ByteArray->Option Value}{M:Lit->Option Value}{D:DataW Value}(hM:∀kl,WideAt.IsKeyLit kl->∀z,D.atKey kl z=((M kl).map DataW.held).getD z)(h1:∀p,Good p->M (lp prog p)=f p)(h2:∀kl,WideAt.IsKeyLit kl->M kl≠none->∃p,Good p/\kl=lp prog p)
  {x:Value}{kl:Lit}{y:DataW Value}(hkey:keyOf prog 147 x=some kl)(hat:∀z,D.atKey kl z=y):∃p,Good p/\kl=lp prog p/\x=.agg (av p)/\f p≠none:=by
 have hk:=vN.key hkey;have hne:M kl≠none:=by
  intro h0;have a1:=hM kl hk (.held (.int .i64 0));have a2:=hM kl hk (.held (.int .i64 1));rw[h0,hat] at a1 a2;rw[a1] at a2;simp at a2
 obtain⟨p,hp,rfl⟩:=h2 kl hk hne;refine⟨p,hp,rfl,vN.inj hkey (j9 hp.val),?_⟩;rw[<-h1 p hp];exact hne
theorem Ei {w:World}{base:Nat}{e:TypeId}{size n:Nat}{v:Value}{xs:List Value}(h:w.ownsRow base e size v n xs):∃a c,v=.slice a n c:=by
 rcases h.2 with ⟨h1,h2⟩ | ⟨g,c,_,h1,_⟩
 ·exact⟨none,0,by rw[h1,h2]⟩
 ·exact⟨_,_,h1⟩
theorem B9 {w3:World}{b n:Nat}{f:List ByteArray->Option Value}{src dst p:List ByteArray}{L:List (List ByteArray)}{v:Value}(hP:iU w3 b n (carried f src dst L))(hn:n<maxLen)(rV:∀x,dst <+: x->f x=none)(hL:∀x ∈ L,src <+: x/\f x≠none)(hp:Good p)(hs:src <+: p)(hv:f p=some v)(KL:p ∉ L)(GI:Good (kg src dst p))
  {t e:TypeId}(ht:prog.underlying t=some (.map 147 e)){z:Value}(hz:∀W,(zeroValue e).run prog W=.ok z W)(ty:TypeId):
  (Instr.lookup t (.map (some b)) (.agg (av p)) false).run prog w3=.ok v w3/\
  ∃w4 w5,(Instr.mapUpdate t (.map (some b)) (.agg (av (kg src dst p))) v).run prog w3=.ok () w4/\(Builtin.delete_ #[t,147] ty #[.map (some b),.agg (av p)]).run prog w4=.ok (.tuple #[]) w5/\
   iU w5 b n (carried f src dst (L ++ [p]))/\w3.grownBy w4 (some b)/\w4.grownBy w5 (some b)/\w4.heap.size=w3.heap.size/\w5.heap.size=w3.heap.size:=by
 obtain⟨c1,c2⟩:=F0 rV hL hs (by rw[hv];simp) KL;have hlk:=hP.look ht (hz w3) hp;rw[c1,hv,Option.getD_some] at hlk;obtain⟨w4,hrun,hP4,hg4,S2⟩:=hP.store GI hn ht v;have hne:p≠kg src dst p:=fun e=>by
  have:=rV p (by rw[e];exact List.prefix_append _ _)
  rw[hv] at this;cases this
 obtain⟨w5,T8,hP5,Gt,hs5⟩:=hP4.T7 ht hp (by rw[aJ hne,c1,hv];rfl) ty;refine⟨hlk,w4,w5,hrun,T8,hP5.congr (fun x _=>?_),hg4,Gt,S2,by rw[hs5,S2]⟩;rw[<-c2 x,hv]
theorem T9 (W:World):(zeroValue 219).run prog W=.ok (.pointer none) W:=by kernel_rfl
theorem Ua (s0 s1 s2 s3 s4:ByteArray)(w:World)
  (heq:∀W,(Op.equalIn 10000 147 (.agg #[.string s0,.string s1,.string s2,.string s3,.string s4]) (.agg #[.string s0,.string s1,.string s2,.string s3,.string s4])).run prog W=.ok true W):
  Calls prog 140 #[.agg #[.string s0,.string s1,.string s2,.string s3,.string s4],.agg #[.string s0,.string s1,.string s2,.string s3,.string s4]] w fun e w'=>e=.returned (.bool false)/\Below w.heap.size w w':=by
 go_enter func140,ntmps140;go_wp2
 go_region
 all_goals
  go_wp2;go_ret;exact⟨rfl,aB (((Below.refl _ _).alloc (bA _) _).alloc (by simp) _)⟩
theorem Ub (s0 s1 s2 s3 s4 q0 q1 q2 q3 q4 r0 r1 r2 r3 r4:ByteArray)(d:Int)(b:Bool)(w:World)
  (heq:∀W,(Op.equalIn 10000 147 (.agg #[.string s0,.string s1,.string s2,.string s3,.string s4]) (.agg #[.string q0,.string q1,.string q2,.string q3,.string q4])).run prog W=.ok false W)
  (hd:∀W,Calls prog 142 #[.agg #[.string q0,.string q1,.string q2,.string q3,.string q4]] W fun e w'=>e=.returned (.int .i64 d)/\Below W.heap.size W w')
  (hh:∀W,Calls prog 188 #[.agg #[.string s0,.string s1,.string s2,.string s3,.string s4],.int .i64 d] W fun e w'=>e=.returned (.agg #[.string r0,.string r1,.string r2,.string r3,.string r4])/\Below W.heap.size W w')
  (vU:∀W,(Op.equalIn 10000 147 (.agg #[.string r0,.string r1,.string r2,.string r3,.string r4]) (.agg #[.string q0,.string q1,.string q2,.string q3,.string q4])).run prog W=.ok b W):
  Calls prog 140 #[.agg #[.string s0,.string s1,.string s2,.string s3,.string s4],.agg #[.string q0,.string q1,.string q2,.string q3,.string q4]] w fun e w'=>e=.returned (.bool b)/\Below w.heap.size w w':=by
 go_enter func140,ntmps140;go_wp2
 go_region_with (first
  | (go_at_call 142;refine (hd _).mono ?_;rintro e w1 ⟨rfl,hb1⟩;obtain⟨hc1,C6⟩:=aR hb1;obtain⟨hz0,hz1⟩:=qI hb1;have b1:Below w.heap.size w w1:=aq (aB (((Below.refl _ _).alloc (bA _) _).alloc (by simp) _)) hb1)
  | (go_at_call 188;refine (hh _).mono ?_;rintro e w2 ⟨rfl,hb2⟩;obtain⟨hc2,hf2⟩:=aR hb2;have b2:=aq b1 hb2))
 all_goals
  go_wp2;go_ret;exact⟨rfl,b2⟩
theorem yO (l m:List ByteArray)(hl:Good l)(hm:Good m)(w:World):Calls prog 140 #[bn l,bn m] w fun e w'=>e=.returned (.bool (decide (m <+: l/\l≠m)))/\Below w.heap.size w w':=by
 by_cases h:l=m
 ·subst h
  rw[dY (fun h=>h.2 rfl)];have heq:∀W,(Op.equalIn 10000 147 (bn l) (bn l)).run prog W=.ok true W:=fun W=>by
   have:=fB hl hl W
   rw[decide_eq_true rfl] at this;exact this
  exact Ua _ _ _ _ _ w heq
 ·have heq:∀W,(Op.equalIn 10000 147 (bn l) (bn m)).run prog W=.ok false W:=fun W=>by
   have:=fB hl hm W
   rw[dY h] at this;exact this
  have hd:=fun W=>l8 m hm.val hm.len W;have hh:=fun W=>IX l hl.len m.length hm.len W;have vU:=fun W=>fB (hl.take m.length) hm W;have hb:decide (m <+: l/\l≠m)=decide (l.take m.length=m):=by
   refine decide_eq_decide.2 ⟨fun h=>(List.prefix_iff_eq_take.1 h.1).symm,fun e=>⟨?_,h⟩⟩;rw[<-e];exact List.take_prefix _ _
  rw[hb];exact Ub _ _ _ _ _ _ _ _ _ _ _ _ _ _ _ _ _ w heq hd hh vU
theorem xC {f:List ByteArray->Option Value}{M:Lit->Option Value}{D:DataW Value}(src:List ByteArray)(hM:∀kl,WideAt.IsKeyLit kl->∀z,D.atKey kl z=((M kl).map DataW.held).getD z)(h1:∀p,Good p->M (lp prog p)=f p):qO f src (Maps.has D) []:=by
 refine⟨List.nodup_nil,fun x=>⟨fun h=>(by cases h),fun⟨hx,_,hf,hl⟩=>?_⟩⟩;rw[Ba (hM _ (NJ hx)),h1 x hx] at hl;cases hfx:f x with
 | none=>exact absurd hfx hf
 | some y=>rw[hfx] at hl;cases hl
theorem xD (w:World)(o:Obj):w.heap.size<=(w.alloc o).heap.size:=by simp
theorem aag (w:World)(c0 c1 c2 c3 c4:Value)(t:TypeId):∀j u,[c0,c1,c2,c3,c4][j]? = some u->(w.alloc (.cells #[c0,c1,c2,c3,c4] t)).cell? ((⟨w.heap.size,0,none⟩:Addr).add j)=some u:=by
 intro j u h
 match j,h with
 | 0,h=>simpa [Addr.add] using h
 | 1,h=>simpa [Addr.add] using h
 | 2,h=>simpa [Addr.add] using h
 | 3,h=>simpa [Addr.add] using h
 | 4,h=>simpa [Addr.add] using h
 | j+5,h=>simp at h
theorem Yx (w:World)(o:Obj)(c0 c1 c2 c3 c4:Value)(t:TypeId):∀j u,[c0,c1,c2,c3,c4][j]? = some u->((w.alloc o).alloc (.cells #[c0,c1,c2,c3,c4] t)).cell? ((⟨w.heap.size+1,0,none⟩:Addr).add j)=some u:=by
 have h:=aag (w.alloc o) c0 c1 c2 c3 c4 t;rwa [World.size_alloc] at h
theorem xE (s0 s1 s2 s3 s4:ByteArray):∀u ∈ [Value.string s0,.string s1,.string s2,.string s3,.string s4],u.oneCell'=true:=by
 intro u hu;simp only[List.mem_cons,List.not_mem_nil,or_false] at hu;rcases hu with rfl | rfl | rfl | rfl | rfl <;> rfl
def zL (w':World)(a b c:Nat)(p0 p1 p2 p3 p4 s0 s1 s2 s3 s4 d0 d1 d2 d3 d4:ByteArray):Prop:=w'.cell? ⟨a,0,none⟩=some (.string p0)/\w'.cell? ⟨a,1,none⟩=some (.string p1)/\w'.cell? ⟨a,2,none⟩=some (.string p2)/\w'.cell? ⟨a,3,none⟩=some (.string p3)/\w'.cell? ⟨a,4,none⟩=some (.string p4)/\w'.cell? ⟨b,0,none⟩=some (.string s0)/\w'.cell? ⟨b,1,none⟩=some (.string s1)/\w'.cell? ⟨b,2,none⟩=some (.string s2)/\w'.cell? ⟨b,3,none⟩=some (.string s3)/\w'.cell? ⟨b,4,none⟩=some (.string s4)/\w'.cell? ⟨c,0,none⟩=some (.string d0)/\w'.cell? ⟨c,1,none⟩=some (.string d1)/\w'.cell? ⟨c,2,none⟩=some (.string d2)/\w'.cell? ⟨c,3,none⟩=some (.string d3)/\w'.cell? ⟨c,4,none⟩=some (.string d4)
theorem zL.keep {w w':World}{a b c:Nat}{p0 p1 p2 p3 p4 s0 s1 s2 s3 s4 d0 d1 d2 d3 d4:ByteArray}(h:zL w a b c p0 p1 p2 p3 p4 s0 s1 s2 s3 s4 d0 d1 d2 d3 d4)(ha:∀o,w'.cell? ⟨a,o,none⟩=w.cell? ⟨a,o,none⟩)(hb:∀o,w'.cell? ⟨b,o,none⟩=w.cell? ⟨b,o,none⟩)(hc:∀o,w'.cell? ⟨c,o,none⟩=w.cell? ⟨c,o,none⟩):zL w' a b c p0 p1 p2 p3 p4 s0 s1 s2 s3 s4 d0 d1 d2 d3 d4:=by
 unfold zL at h ⊢;simp only[ha,hb,hc];exact h
structure rW (b r n:Nat)(D:DataW Value)(f:List ByteArray->Option Value)(src:List ByteArray)(W2 wr:World)(left:Lit->Bool)(cnt:Nat)(L:List (List ByteArray))(mv:Value):Prop where
 rg:wr.ranges prog 147 ij b r n D left cnt
 ga:qO f src left L
 row:wr.ownsRow (r+1) 147 5 mv L.length (jZ L)
 gr:W2.grownBy wr none
 sz:r+1<=wr.heap.size
 many:L.length+cnt<=n
section
variable {b r n:Nat}{D:DataW Value}{f:List ByteArray->Option Value}{src:List ByteArray}{W2 wr:World}{left:Lit->Bool}{cnt:Nat}{L:List (List ByteArray)}{mv:Value}
theorem Jf {w:World}{base:Nat}{e:TypeId}{size k:Nat}{v:Value}{xs:List Value}(h:w.ownsRow base e size v k xs){c:Nat}(hc:c<base):some c≠v.ownBlock:=by
 intro e;rcases h.2 with ⟨h1,_⟩ | ⟨g,cap,cur,h1,hb,_⟩
 ·rw[h1] at e;cases e
 ·rw[h1] at e
  simp only[Value.ownBlock,Option.some.injEq] at e;omega
theorem jG {w w':World}(h:Below w.heap.size w w'):w.grownBy w' none:=⟨h.os,h.tape,h.output,h.size,fun i hi _=>h.block i hi⟩
theorem rW.below (h:rW b r n D f src W2 wr left cnt L mv){w':World}(hb:Below wr.heap.size wr w'):rW b r n D f src W2 w' left cnt L mv:=
 ⟨h.rg.kept (jG hb) (by simp) (by simp),h.ga,ai h.row (fun g hg=>hb.block g (ah h.row hg)),h.gr.andThen (jG hb) (fun j hj=>by cases hj),eU h.sz hb.size,h.many⟩
theorem rW.box (h:rW b r n D f src W2 wr left cnt L mv){c:Nat}(hc:c<W2.heap.size)(o:Nat):wr.cell? ⟨c,o,none⟩=W2.cell? ⟨c,o,none⟩:=World.cell?_of_block (a:=⟨c,o,none⟩) (h.gr.block c hc (by simp))
theorem rW.next (h:rW b r n D f src W2 wr left cnt L mv){w1:World}{cnt1:Nat}{p:List ByteArray}(hbr:b<r)(hr:W2.heap.size<=r)(hrg:w1.ranges prog 147 ij b r n D (fun z=>left z && !z.sameKey (lp prog p)) cnt1)(hlt:cnt1<cnt)(hg:wr.grownBy w1 (some r))(hp:Good p)(hl:left (lp prog p)=true)(hf:f p≠none):
  (¬src <+: p->rW b r n D f src W2 w1 (fun z=>left z && !z.sameKey (lp prog p)) cnt1 L mv)/\
  (src <+: p->w1.ownsRow (r+1) 147 5 mv L.length (jZ L)/\r+1<=w1.heap.size/\L.length+1<=n/\∀w2 w3 v',Below w1.heap.size w1 w2->w3.ownsRow (r+1) 147 5 v' (L.length+1) (jZ L++(av p).toList)->w2.grownBy w3 mv.ownBlock->rW b r n D f src W2 w3 (fun z=>left z && !z.sameKey (lp prog p)) cnt1 (L ++ [p]) v'):=by
 have hrow:w1.ownsRow (r+1) 147 5 mv L.length (jZ L):=ai h.row (fun g kT=>hg.block g (ah h.row kT) (fun e=>by
  have:=Jf h.row (c:=r) (by omega)
  exact this (by rw[kT,e])))
 have hgr:W2.grownBy w1 none:=h.gr.andThen hg (fun j hj=>by cases hj;exact .inl hr);have hsz:=eU h.sz hg.size;have hm:=h.many;refine⟨fun hs=>⟨hrg,De h.ga hp hs,hrow,hgr,hsz,by omega⟩,fun hs=>⟨hrow,hsz,by omega,fun w2 w3 v' hb hrow3 hg3=>?_⟩⟩;have hbl:=h.rg.owns.lt;have K7:some b≠mv.ownBlock/\some r≠mv.ownBlock/\∀j,mv.ownBlock=some j->r+1<=j:=by
  rcases h.row.2 with ⟨h1,_⟩ | ⟨g,cap,cur,h1,hb1,_⟩
  ·rw[h1];exact⟨by simp[Value.ownBlock],by simp[Value.ownBlock],fun j hj=>by simp[Value.ownBlock] at hj⟩
  ·rw[h1]
   refine⟨fun e=>?_,fun e=>?_,fun j hj=>?_⟩
   ·simp only[Value.ownBlock,Option.some.injEq] at e;omega
   ·simp only[Value.ownBlock,Option.some.injEq] at e;omega
   ·simp only[Value.ownBlock,Option.some.injEq] at hj;omega
 refine⟨(hrg.kept (jG hb) (by simp) (by simp)).kept hg3 K7.1 K7.2.1,F2 h.ga hp hs hf hl,?_,?_,?_,?_⟩
 ·rw[List.length_append,LW];exact hrow3
 ·exact (hgr.andThen (jG hb) (fun j hj=>by cases hj)).andThen hg3 (fun j hj=>.inl (eU (eU hr (Nat.le_succ _)) (K7.2.2 j hj)))
 ·exact eU hsz (eU hb.size hg3.size)
 ·simp;omega
end
theorem Ca {w2 w3:World}{X:Obj}{a c:Nat}(hb3:Below (w2.alloc X).drew.heap.size (w2.alloc X).drew w3)(ha:a<w2.heap.size)(hc:c<w2.heap.size):
  (∀o,w3.cell? ⟨w2.heap.size,o,none⟩=(w2.alloc X).drew.cell? ⟨w2.heap.size,o,none⟩)/\(∀o,w3.cell? ⟨a,o,none⟩=(w2.alloc X).drew.cell? ⟨a,o,none⟩)/\(∀o,w3.cell? ⟨c,o,none⟩=(w2.alloc X).drew.cell? ⟨c,o,none⟩)/\w2.heap.size<w3.heap.size:=by
 have h1:w2.heap.size<(w2.alloc X).drew.heap.size:=by simp
 exact⟨fun o=>(aR hb3).1 _ o h1,fun o=>(aR hb3).1 _ o (Nat.lt_trans ha h1),fun o=>(aR hb3).1 _ o (Nat.lt_trans hc h1),cv h1 hb3.size⟩
theorem Cb {W2 w2 w3 w4 w5:World}{b r:Nat}{la:Option Addr}{lc m:Nat}{xs:List Value}(hbr:b<r)(hg:W2.grownBy w2 (some b))(hrow:w2.ownsRow (r+1) 147 5 (.slice la m lc) m xs)(hsz:r+1<=w2.heap.size)(hb:Below w2.heap.size w2 w3)(h4:w3.grownBy w4 (some b))(h5:w4.grownBy w5 (some b)):
  W2.grownBy w5 (some b)/\w5.ownsRow (r+1) 147 5 (.slice la m lc) m xs/\r+1<=w5.heap.size:=by
 refine⟨((hg.andThen (jG hb) (fun j hj=>by cases hj)).andThen h4 (fun j hj=>.inr (by rw[hj]))).andThen h5 (fun j hj=>.inr (by rw[hj])),ai hrow (fun g kT=>?_),eU hsz (eU hb.size (eU h4.size h5.size))⟩;have hl:=ah hrow kT;have hne:some g≠some b:=fun e=>Jf hrow (c:=b) (by omega) (by rw[kT,e]);have Ye:=cv hl hb.size;rw[h5.block g (cv Ye h4.size) hne,h4.block g Ye hne,hb.block g hl]
theorem Jg (b n:Nat)(f:List ByteArray->Option Value)(src dst:List ByteArray)(w:World)(mI:Good src)(F4:Good dst)(hP:iU w b n f)(hn:n<1099511627776)
  (rV:∀x,dst <+: x->f x=none)(hlen:∀x,src <+: x->f x≠none->dst.length+(x.length-src.length)<=5)(hf:∀x,f x≠none->Good x):
  Calls prog 144 #[.map (some b),.agg (av src),.agg (av dst)] w fun e w'=>e=.returned (.tuple #[])/\iU w' b n (ez f src dst)/\w.grownBy w' (some b):=by
 obtain⟨i0,hi,iz0,iz1,iz2⟩:=info_parts Yw;have hbl:=hP.lt;have HPM:Hid _:=hP;obtain⟨M,⟨D,hD,hM⟩,h1,h2⟩:=hP;have xF:=fun p (hp:Good p) W=>yO p src hp mI W;have heq:=fun p (hp:Good p) W=>fB hp mI W;have Cc:=fun r (h1:src.length+r.length<=5) (h2:dst.length+r.length<=5) W=>Eh src dst r mI F4 h1 h2 W;obtain⟨s0,s1,s2,s3,s4,hS⟩:∃s0 s1 s2 s3 s4,av src = #[.string s0,.string s1,.string s2,.string s3,.string s4]:=⟨_,_,_,_,_,rfl⟩;obtain⟨d0,d1,d2,d3,d4,Xd⟩:∃s0 s1 s2 s3 s4,av dst = #[.string s0,.string s1,.string s2,.string s3,.string s4]:=⟨_,_,_,_,_,rfl⟩;unfold bn at xF heq Cc;rw[hS] at xF heq Cc;rw[Xd] at Cc;rw[hS,Xd];have HO:Hid _:=dQ (w':=(w.alloc (.cells #[.string s0,.string s1,.string s2,.string s3,.string s4] 147)).alloc (.cells #[.string d0,.string d1,.string d2,.string d3,.string d4] 147)) hD ((((Below.refl w.heap.size w).alloc (bA _) _).alloc (by simp) _).block b hbl);have HM:Hid _:=And.intro hM (And.intro h1 h2);have Jh:Hid _:=xF;have HEQ:Hid _:=heq;have Uc:Hid _:=Cc;have Ud:Hid _:=rV;have HLEN:Hid _:=hlen;have HF:Hid _:=hf;have HG:Hid _:=And.intro mI F4;have HS:Hid _:=And.intro hS Xd;clear hD hM h1 h2 xF heq Cc rV hlen hf mI F4 hS Xd;go_enter func144,ntmps144;go_wp2_with (at_range;go_loud (refine wpList_range_own _ rfl _ 161 rfl 147 219 vN underlying161 ij b n D rfl HO.out ?_;intro w0 hrg0 hg0 hs0))
 go_frame
 have hWs:((w.alloc (.cells #[.string s0,.string s1,.string s2,.string s3,.string s4] 147)).alloc (.cells #[.string d0,.string d1,.string d2,.string d3,.string d4] 147)).heap.size=w.heap.size+2:=by simp
 have Ym:=World.ownsMap.size_le HO.out;generalize hr:((w.alloc (.cells #[.string s0,.string s1,.string s2,.string s3,.string s4] 147)).alloc (.cells #[.string d0,.string d1,.string d2,.string d3,.string d4] 147)).heap.size=r at hrg0 hs0 ⊢;have hbr:b<r:=by omega
 have V2:w.heap.size<r:=by omega
 have hr1:w.heap.size+1<r:=by omega
 have Pk:Hid (((w.alloc (.cells #[.string s0,.string s1,.string s2,.string s3,.string s4] 147)).alloc (.cells #[.string d0,.string d1,.string d2,.string d3,.string d4] 147)).heap.size<=r/\w.heap.size<((w.alloc (.cells #[.string s0,.string s1,.string s2,.string s3,.string s4] 147)).alloc (.cells #[.string d0,.string d1,.string d2,.string d3,.string d4] 147)).heap.size/\w.heap.size+1<((w.alloc (.cells #[.string s0,.string s1,.string s2,.string s3,.string s4] 147)).alloc (.cells #[.string d0,.string d1,.string d2,.string d3,.string d4] 147)).heap.size):=⟨Nat.le_of_eq hr,by omega,by omega⟩;have HST:Hid (rW b r n D f src ((w.alloc (.cells #[.string s0,.string s1,.string s2,.string s3,.string s4] 147)).alloc (.cells #[.string d0,.string d1,.string d2,.string d3,.string d4] 147)) w0 (Maps.has D) (Maps.size D) [] (.slice none 0 0)):=⟨hrg0,xC src HM.out.1 HM.out.2.1,World.ownsRow_nil _ _ _ _,hg0,by rw[hs0];exact bA _,by simpa using Ym⟩;clear hrg0 hg0 hs0 hr hWs Ym
 go_loopw [6] (fun mv wr=>∃left cnt L,Hid (rW b r n D f src ((w.alloc (.cells #[.string s0,.string s1,.string s2,.string s3,.string s4] 147)).alloc (.cells #[.string d0,.string d1,.string d2,.string d3,.string d4] 147)) wr left cnt L mv)) (fun _ wr=>wr.rangeLeft b r)
 case atStart=>exact⟨Maps.has D,Maps.size D,[],HST.out⟩
 case round=>
  obtain⟨left,cnt,L,sr⟩:=hrel;obtain⟨la,lc,rfl⟩:=Ei sr.out.row;go_wp2_with (at_next;refine NV ?_);show wpList _ _ _ _ _ _;refine wpList_next_ranges _ rfl (.tmp 11) rfl 147 vN ij (fun x:Value=>x) (fun x:Value=>x) (fun key kl _=>⟨key,rfl⟩) (fun v y _=>⟨v,rfl⟩) b r n D left cnt rfl sr.out.rg ?_ ?_
  ·intro hc0 hl0
   have qA:Hid (∀x,x ∈ L↔(src <+: x/\f x≠none)):=fun x=>(sr.out.ga.2 x).trans ⟨fun h=>⟨h.2.1,h.2.2.1⟩,fun h=>⟨HF.out x h.2,h.1,h.2,hl0 _⟩⟩;have Ue:Hid L.Nodup:=sr.out.ga.1;clear hl0 hc0;have Ji:Hid (iU wr b n (carried f src dst [])):=iU.congr ⟨M,⟨D,sr.out.rg.owns,HM.out.1⟩,HM.out.2.1,HM.out.2.2⟩ (fun x _=>(zI f src dst x).symm);have hLn:L.length<=n:=by have:=sr.out.many;omega
   have l6:Hid (wr.ownsRow (r+1) 147 5 (.slice la L.length lc) L.length (jZ L)):=sr.out.row;have Yy:Hid _:=World.grownBy.but sr.out.gr (some b);have ql:=sr.out.sz;go_wp2
   go_loopw [30] (fun i w2=>∃k:Nat,k<=L.length/\i=.int .i64 (k:Int)/\Hid (iU w2 b n (carried f src dst (L.take k)))/\Hid (((w.alloc (.cells #[.string s0,.string s1,.string s2,.string s3,.string s4] 147)).alloc (.cells #[.string d0,.string d1,.string d2,.string d3,.string d4] 147)).grownBy w2 (some b))/\Hid (w2.ownsRow (r+1) 147 5 (.slice la L.length lc) L.length (jZ L))/\r+1<=w2.heap.size) (fun i _=>L.length-(intOf i).toNat)
   case atStart=>exact⟨0,dG _,rfl,Ji.out,Yy.out,l6.out,ql⟩
   case round=>
    obtain⟨k,hk,rfl,Kc,Xe,HRK,aal⟩:=hrel;by_cases oG:k<L.length
    ·obtain⟨g,c',nP⟩:=ak HRK.out (by omega)
     cases nP;have mS:=jk oG;obtain⟨hs,nC⟩:=(qA.out L[k]).1 mS;have hp:=HF.out _ nC;have LX:L[k] ∉ L.take k:=by
      intro lV;obtain⟨j,hj,KB⟩:=List.getElem_of_mem lV;rw[List.length_take] at hj;rw[List.getElem_take] at KB;exact List.pairwise_iff_getElem.1 Ue.out j k (by omega) oG (by omega) KB
     have BQ:L.take (k+1)=L.take k ++ [L[k]]:=qX oG;have hLk:∀x ∈ L.take k,src <+: x/\f x≠none:=fun x hx=>(qA.out x).1 (List.mem_of_mem_take hx);obtain⟨p0,p1,p2,p3,p4,F5⟩:∃s0 s1 s2 s3 s4,av L[k] = #[.string s0,.string s1,.string s2,.string s3,.string s4]:=⟨_,_,_,_,_,rfl⟩;obtain⟨fo,e0,e1,e2,e3,e4⟩:=adE HRK.out oG F5;generalize L[k]=p at mS hs nC hp LX BQ F5;cases hv:f p with
     | none=>exact absurd hv nC
     | some v=>
      have OG:=xA hs;have Kr:=HLEN.out p hs nC;have hp5:=hp.len;have yZ:src.length+(p.drop src.length).length<=5:=by rw[List.length_drop];have:=hs.length_le;omega
      have GI:=Uc.out (p.drop src.length) yZ (by rw[List.length_drop];exact Kr);rw[OG,F5] at GI;have hqG:Good (kg src dst p):=⟨HG.out.2.val.append (fun x hx=>hp.val x (List.mem_of_mem_drop hx)),by unfold kg;rw[List.length_append,List.length_drop];exact Kr⟩;have hturn:=fun W (hP:iU W b n (carried f src dst (L.take k)))=>B9 hP (by unfold maxLen;omega) Ud.out hLk hp hs hv LX hqG underlying161 T9 0
      change ∀W,Calls prog 197 _ W fun e w'=>e=.returned (.agg (av (kg src dst p)))/\_ at GI
      obtain⟨q0,q1,q2,q3,q4,hPq⟩:∃s0 s1 s2 s3 s4,av (kg src dst p) = #[.string s0,.string s1,.string s2,.string s3,.string s4]:=⟨_,_,_,_,_,rfl⟩;rw[hPq] at GI;simp only[F5,hPq] at hturn;have Uf:Hid _:=hturn;have hb0:Below wr.heap.size wr (wr.alloc (.cells #[.string p0,.string p1,.string p2,.string p3,.string p4] 147)).drew:=aB ((Below.refl _ _).alloc (bA _) _);have hl0:=(hturn _ (Kc.out.keep (hb0.block b (by omega)))).1;have kS:=fun o=>(eC Xe.out (c:=w.heap.size) Pk.out.2.1 (by omega) o);have kD:=fun o=>(eC Xe.out (c:=w.heap.size+1) Pk.out.2.2 (by omega) o);have hz0:w.heap.size<wr.heap.size:=by omega
      have hz1:w.heap.size+1<wr.heap.size:=(by omega);have Gv:b<wr.heap.size:=by omega
      have K7:wr.heap.size≠b:=(by omega);have aan:w.heap.size≠b:=by omega
      have aao:w.heap.size+1≠b:=(by omega);have Li:Hid _:=BQ;have Lp:Hid _:=hb0;clear hturn hb0 mS hs nC hp LX BQ F5 hv OG Kr hp5 yZ hqG hPq hLk;clear HO HM Jh HEQ Uc HLEN HF HG HS HPM Ue Ji l6 Yy HST hi iz0 iz1 iz2;go_wp2;clear e0 e1 e2 e3 e4;have Ej:zL (wr.alloc (.cells #[.string p0,.string p1,.string p2,.string p3,.string p4] 147)).drew wr.heap.size w.heap.size (w.heap.size+1) p0 p1 p2 p3 p4 s0 s1 s2 s3 s4 d0 d1 d2 d3 d4:=by
       unfold zL;have q0:=Nat.ne_of_lt hz0;have q1:=Nat.ne_of_lt hz1;simp[World.cell?_alloc_lt,hz0,hz1,kS,kD]
      go_region_held3 (fun w'=>w'.cell? ⟨wr.heap.size,0,none⟩=some (.string p0)/\w'.cell? ⟨wr.heap.size,1,none⟩=some (.string p1)/\w'.cell? ⟨wr.heap.size,2,none⟩=some (.string p2)/\w'.cell? ⟨wr.heap.size,3,none⟩=some (.string p3)/\w'.cell? ⟨wr.heap.size,4,none⟩=some (.string p4)/\w'.cell? ⟨w.heap.size,0,none⟩=some (.string s0)/\w'.cell? ⟨w.heap.size,1,none⟩=some (.string s1)/\w'.cell? ⟨w.heap.size,2,none⟩=some (.string s2)/\w'.cell? ⟨w.heap.size,3,none⟩=some (.string s3)/\w'.cell? ⟨w.heap.size,4,none⟩=some (.string s4)/\w'.cell? ⟨w.heap.size+1,0,none⟩=some (.string d0)/\w'.cell? ⟨w.heap.size+1,1,none⟩=some (.string d1)/\w'.cell? ⟨w.heap.size+1,2,none⟩=some (.string d2)/\w'.cell? ⟨w.heap.size+1,3,none⟩=some (.string d3)/\w'.cell? ⟨w.heap.size+1,4,none⟩=some (.string d4)) (first | exact Ej | exact hS3 | exact hS4) (first | (go_at_call 197;refine (GI _).mono ?_;rintro e w3 ⟨rfl,hb3⟩;obtain⟨m1,m2,m3,m4⟩:=Ca hb3 hz0 hz1;have hS3:=Ej.keep m1 m2 m3;have LY:=aq Lp.out hb3;obtain⟨Ye,w4,w5,adI,T8,hP5,hg4,Gt,S2,hs5⟩:=Uf.out w3 (Kc.out.keep (LY.block b Gv));have hS4:=hS3.keep (eC hg4 m4 K7) (eC hg4 (Nat.lt_trans hz0 m4) aan) (eC hg4 (Nat.lt_trans hz1 m4) aao);have HE:Hid _:=Cb hbr Xe.out HRK.out aal LY hg4 Gt;have HP5:Hid _:=hP5;have uD:wr.heap.size<w4.heap.size:=cv m4 (Nat.le_of_eq S2.symm);clear hg4 Gt S2 hs5 hP5 LY m1 m2 m3 hb3))
      all_goals
       go_wp2;go_roundw
       case rel=>exact⟨k+1,by omega,by go_num,by rw[Li.out];exact HP5.out,HE.out.1,HE.out.2.1,HE.out.2.2⟩
       case measure=>simp[intOf];omega
    ·have j4:k=L.length:=by omega
     subst j4;rw[List.take_length] at Kc;go_wp2;go_end0;refine⟨rfl,Kc.out.congr (fun x _=>zJ Ud.out qA.out x),?_⟩;exact (World.grownBy.but (jG (((Below.refl w.heap.size w).alloc (bA _) _).alloc (by simp) _)) (some b)).andThen Xe.out (fun j hj=>.inr (by rw[hj]))
  ·intro x c kl y w1 cnt1 hkey hlk hv hat hrg1 hlt hg1 hs1 hen
   obtain⟨p,hp,rfl,rfl,nC⟩:=came HM.out.1 HM.out.2.1 HM.out.2.2 hkey hat;obtain⟨p0,p1,p2,p3,p4,F5⟩:∃s0 s1 s2 s3 s4,av p = #[.string s0,.string s1,.string s2,.string s3,.string s4]:=⟨_,_,_,_,_,rfl⟩;have GX:=Jh.out p hp;have Xf:∀W,(Op.equalIn 10000 147 (.agg (av p)) (.agg #[.string s0,.string s1,.string s2,.string s3,.string s4])).run prog W=.ok (decide (p=src)) W:=HEQ.out p hp;obtain⟨hno,Ug⟩:=sr.out.next hbr Pk.out.1 hrg1 hlt hg1 hp hlk nC;have kS:=fun o=>(eC hg1 (c:=w.heap.size) (cv V2 (Nat.le_of_succ_le sr.out.sz)) (by omega) o).trans (sr.out.box Pk.out.2.1 o);have hz1:w.heap.size<w1.heap.size:=by rw[hs1];exact cv V2 (Nat.le_of_succ_le sr.out.sz)
   have HLT:Hid (cnt1<cnt):=hlt;have aif:Hid _:=hrg1;rw[F5] at GX Xf hen ⊢;have HPp:Hid _:=F5;have Zp:Hid _:=hno;have Uh:Hid _:=Ug;clear hno Ug hkey hlk hv hat hrg1 hlt hg1 hs1 nC F5;by_cases hs:src <+: p
   ·by_cases he:p=src
    ·rw[decide_eq_true he] at Xf
     clear GX;obtain⟨y1,y2,y3,y4⟩:=Uh.out hs;have hW:Below w1.heap.size w1 (w1.alloc (.cells #[.string p0,.string p1,.string p2,.string p3,.string p4] 147)):=(Below.refl _ _).alloc (bA _) _;have l6:Hid _:=y1.alloc (.cells #[.string p0,.string p1,.string p2,.string p3,.string p4] 147);have Rb:Hid _:=eU y2 hW.size;have LZ:Hid _:=y4;have HW:Hid _:=hW;have h63:L.length+1<=maxLen:=by unfold maxLen;omega
     have hby:(L.length+1)*80<=140737488355328:=(by omega);clear y1 y2 y4 hW;go_wp2_with (at_builtin;go_loud (refine wpList_append_own_at _ rfl (.tmp 24) (.tmp 26) 289 rfl (r+1) 147 i0 _ 5 80 underlying289 hi iz0 iz1 iz2 rfl (by decide) (.slice la L.length lc) L.length (jZ L) rfl (World.ownsRow.alloc l6.out _) ⟨w1.heap.size+1,0,none⟩ 1 1 [.string p0,.string p1,.string p2,.string p3,.string p4] rfl rfl (Yx w1 _ _ _ _ _ _ 147) (xE _ _ _ _ _) h63 hby (eU Rb.out (xD _ _)) ?_;intro v' w3 hown' hgrow _ hloc;obtain⟨g',cap',rfl⟩:=ak hown' (Nat.succ_pos _);have xG:Hid _:=hown';have Ce:Hid _:=hgrow;clear hown' hgrow hloc));have ri:Hid (rW b r n D f src _ w3 _ cnt1 (L ++ [p]) _):=LZ.out _ w3 _ (HW.out.alloc HW.out.size (.cells #[.string p0,.string p1,.string p2,.string p3,.string p4] 147)) (by rw[HPp.out];exact xG.out) Ce.out;go_roundw
     case rel=>exact⟨_,_,_,ri.out⟩
     case measure=>rw[ri.out.rg.left_eq,sr.out.rg.left_eq];exact HLT.out
    ·rw[dY he] at Xf
     rw[decide_eq_true ⟨hs,he⟩] at GX;obtain⟨y1,y2,y3,y4⟩:=Uh.out hs;have LZ:Hid _:=y4;have h63:L.length+1<=maxLen:=by unfold maxLen;omega
     have hby:(L.length+1)*80<=140737488355328:=(by omega);clear y4;have hz2:w.heap.size<(w1.alloc (.cells #[.string p0,.string p1,.string p2,.string p3,.string p4] 147)).heap.size:=by simp;omega
     have hz3:w1.heap.size<(w1.alloc (.cells #[.string p0,.string p1,.string p2,.string p3,.string p4] 147)).heap.size:=(by simp);go_wp2_with (first
      | (go_at_call 140;refine Calls.mono (GX _) ?_;rintro e w2 ⟨rfl,hb2⟩;have k2:=fun o=>(aR hb2).1 w1.heap.size o hz3;have uD:=cv hz3 hb2.size;have hW:=aq ((Below.refl w1.heap.size w1).alloc (bA _) _) hb2;have l6:Hid (w2.ownsRow (r+1) 147 5 (.slice la L.length lc) L.length (jZ L)):=ai y1 (fun g hg=>hW.block g (ah y1 hg));have Rb:Hid (r+1<=w2.heap.size):=eU y2 hW.size;have HW:Hid _:=hW;clear hW)
      | (at_builtin;go_loud (refine wpList_append_own_at _ rfl (.tmp 24) (.tmp 26) 289 rfl (r+1) 147 i0 _ 5 80 underlying289 hi iz0 iz1 iz2 rfl (by decide) (.slice la L.length lc) L.length (jZ L) rfl (World.ownsRow.alloc l6.out _) ⟨w2.heap.size,0,none⟩ 1 1 [.string p0,.string p1,.string p2,.string p3,.string p4] rfl rfl (aag w2 _ _ _ _ _ 147) (xE _ _ _ _ _) h63 hby (eU Rb.out (xD _ _)) ?_;intro v' w3 hown' hgrow _ hloc;obtain⟨g',cap',rfl⟩:=ak hown' (Nat.succ_pos _);have xG:Hid _:=hown';have Ce:Hid _:=hgrow;clear hown' hgrow hloc)))
     have ri:Hid (rW b r n D f src _ w3 _ cnt1 (L ++ [p]) _):=LZ.out _ w3 _ (HW.out.alloc HW.out.size (.cells #[.string p0,.string p1,.string p2,.string p3,.string p4] 147)) (by rw[HPp.out];exact xG.out) Ce.out;go_roundw
     case rel=>exact⟨_,_,_,ri.out⟩
     case measure=>rw[ri.out.rg.left_eq,sr.out.rg.left_eq];exact HLT.out
   ·have he:p≠src:=fun e=>hs (e ▸ List.prefix_refl _)
    rw[dY he] at Xf;rw[dY (fun h=>hs h.1)] at GX;go_wp2_with (go_at_call 140;refine Calls.mono (GX _) ?_;rintro e w2 ⟨rfl,hb2⟩);have ri:Hid _:=(Zp.out hs).below (aq ((Below.refl _ _).alloc (bA _) _) hb2);go_roundw
    case rel=>exact⟨_,_,L,ri.out⟩
    case measure=>rw[(rW.rg ri.out).left_eq,sr.out.rg.left_eq];exact HLT.out
theorem Jj (b n:Nat)(f:List ByteArray->Option Value)(src dst:List ByteArray)(w:World)(mI:Good src)(F4:Good dst)(hP:iU w b n f)(hn:n<1099511627776)
  (rV:∀x,dst <+: x->f x=none)(hlen:∀x,src <+: x->f x≠none->dst.length+(x.length-src.length)<=5)(hf:∀x,f x≠none->Good x):
  Calls prog 145 #[.map (some b),.agg (av src),.agg (av dst)] w fun e w'=>e=.returned (.tuple #[])/\iU w' b n (ez f src dst)/\w.grownBy w' (some b):=by
 obtain⟨i0,hi,iz0,iz1,iz2⟩:=info_parts Yw;have hbl:=hP.lt;have HPM:Hid _:=hP;obtain⟨M,⟨D,hD,hM⟩,h1,h2⟩:=hP;have xF:=fun p (hp:Good p) W=>yO p src hp mI W;have heq:=fun p (hp:Good p) W=>fB hp mI W;have Cc:=fun r (h1:src.length+r.length<=5) (h2:dst.length+r.length<=5) W=>Eh src dst r mI F4 h1 h2 W;obtain⟨s0,s1,s2,s3,s4,hS⟩:∃s0 s1 s2 s3 s4,av src = #[.string s0,.string s1,.string s2,.string s3,.string s4]:=⟨_,_,_,_,_,rfl⟩;obtain⟨d0,d1,d2,d3,d4,Xd⟩:∃s0 s1 s2 s3 s4,av dst = #[.string s0,.string s1,.string s2,.string s3,.string s4]:=⟨_,_,_,_,_,rfl⟩;unfold bn at xF heq Cc;rw[hS] at xF heq Cc;rw[Xd] at Cc;rw[hS,Xd];have HO:Hid _:=dQ (w':=(w.alloc (.cells #[.string s0,.string s1,.string s2,.string s3,.string s4] 147)).alloc (.cells #[.string d0,.string d1,.string d2,.string d3,.string d4] 147)) hD ((((Below.refl w.heap.size w).alloc (bA _) _).alloc (by simp) _).block b hbl);have HM:Hid _:=And.intro hM (And.intro h1 h2);have Jh:Hid _:=xF;have HEQ:Hid _:=heq;have Uc:Hid _:=Cc;have Ud:Hid _:=rV;have HLEN:Hid _:=hlen;have HF:Hid _:=hf;have HG:Hid _:=And.intro mI F4;have HS:Hid _:=And.intro hS Xd;clear hD hM h1 h2 xF heq Cc rV hlen hf mI F4 hS Xd;go_enter func145,ntmps145;go_wp2_with (at_range;go_loud (refine wpList_range_own _ rfl _ 162 rfl 147 55 vN underlying162 ij b n D rfl HO.out ?_;intro w0 hrg0 hg0 hs0))
 go_frame
 have hWs:((w.alloc (.cells #[.string s0,.string s1,.string s2,.string s3,.string s4] 147)).alloc (.cells #[.string d0,.string d1,.string d2,.string d3,.string d4] 147)).heap.size=w.heap.size+2:=by simp
 have Ym:=World.ownsMap.size_le HO.out;generalize hr:((w.alloc (.cells #[.string s0,.string s1,.string s2,.string s3,.string s4] 147)).alloc (.cells #[.string d0,.string d1,.string d2,.string d3,.string d4] 147)).heap.size=r at hrg0 hs0 ⊢;have hbr:b<r:=by omega
 have V2:w.heap.size<r:=by omega
 have hr1:w.heap.size+1<r:=by omega
 have Pk:Hid (((w.alloc (.cells #[.string s0,.string s1,.string s2,.string s3,.string s4] 147)).alloc (.cells #[.string d0,.string d1,.string d2,.string d3,.string d4] 147)).heap.size<=r/\w.heap.size<((w.alloc (.cells #[.string s0,.string s1,.string s2,.string s3,.string s4] 147)).alloc (.cells #[.string d0,.string d1,.string d2,.string d3,.string d4] 147)).heap.size/\w.heap.size+1<((w.alloc (.cells #[.string s0,.string s1,.string s2,.string s3,.string s4] 147)).alloc (.cells #[.string d0,.string d1,.string d2,.string d3,.string d4] 147)).heap.size):=⟨Nat.le_of_eq hr,by omega,by omega⟩;have HST:Hid (rW b r n D f src ((w.alloc (.cells #[.string s0,.string s1,.string s2,.string s3,.string s4] 147)).alloc (.cells #[.string d0,.string d1,.string d2,.string d3,.string d4] 147)) w0 (Maps.has D) (Maps.size D) [] (.slice none 0 0)):=⟨hrg0,xC src HM.out.1 HM.out.2.1,World.ownsRow_nil _ _ _ _,hg0,by rw[hs0];exact bA _,by simpa using Ym⟩;clear hrg0 hg0 hs0 hr hWs Ym
 go_loopw [6] (fun mv wr=>∃left cnt L,Hid (rW b r n D f src ((w.alloc (.cells #[.string s0,.string s1,.string s2,.string s3,.string s4] 147)).alloc (.cells #[.string d0,.string d1,.string d2,.string d3,.string d4] 147)) wr left cnt L mv)) (fun _ wr=>wr.rangeLeft b r)
 case atStart=>exact⟨Maps.has D,Maps.size D,[],HST.out⟩
 case round=>
  obtain⟨left,cnt,L,sr⟩:=hrel;obtain⟨la,lc,rfl⟩:=Ei sr.out.row;go_wp2_with (at_next;refine NV ?_);show wpList _ _ _ _ _ _;refine wpList_next_ranges _ rfl (.tmp 11) rfl 147 vN ij (fun x:Value=>x) (fun x:Value=>x) (fun key kl _=>⟨key,rfl⟩) (fun v y _=>⟨v,rfl⟩) b r n D left cnt rfl sr.out.rg ?_ ?_
  ·intro hc0 hl0
   have qA:Hid (∀x,x ∈ L↔(src <+: x/\f x≠none)):=fun x=>(sr.out.ga.2 x).trans ⟨fun h=>⟨h.2.1,h.2.2.1⟩,fun h=>⟨HF.out x h.2,h.1,h.2,hl0 _⟩⟩;have Ue:Hid L.Nodup:=sr.out.ga.1;clear hl0 hc0;have Ji:Hid (iU wr b n (carried f src dst [])):=iU.congr ⟨M,⟨D,sr.out.rg.owns,HM.out.1⟩,HM.out.2.1,HM.out.2.2⟩ (fun x _=>(zI f src dst x).symm);have hLn:L.length<=n:=by have:=sr.out.many;omega
   have l6:Hid (wr.ownsRow (r+1) 147 5 (.slice la L.length lc) L.length (jZ L)):=sr.out.row;have Yy:Hid _:=World.grownBy.but sr.out.gr (some b);have ql:=sr.out.sz;go_wp2
   go_loopw [30] (fun i w2=>∃k:Nat,k<=L.length/\i=.int .i64 (k:Int)/\Hid (iU w2 b n (carried f src dst (L.take k)))/\Hid (((w.alloc (.cells #[.string s0,.string s1,.string s2,.string s3,.string s4] 147)).alloc (.cells #[.string d0,.string d1,.string d2,.string d3,.string d4] 147)).grownBy w2 (some b))/\Hid (w2.ownsRow (r+1) 147 5 (.slice la L.length lc) L.length (jZ L))/\r+1<=w2.heap.size) (fun i _=>L.length-(intOf i).toNat)
   case atStart=>exact⟨0,dG _,rfl,Ji.out,Yy.out,l6.out,ql⟩
   case round=>
    obtain⟨k,hk,rfl,Kc,Xe,HRK,aal⟩:=hrel;by_cases oG:k<L.length
    ·obtain⟨g,c',nP⟩:=ak HRK.out (by omega)
     cases nP;have mS:=jk oG;obtain⟨hs,nC⟩:=(qA.out L[k]).1 mS;have hp:=HF.out _ nC;have LX:L[k] ∉ L.take k:=by
      intro lV;obtain⟨j,hj,KB⟩:=List.getElem_of_mem lV;rw[List.length_take] at hj;rw[List.getElem_take] at KB;exact List.pairwise_iff_getElem.1 Ue.out j k (by omega) oG (by omega) KB
     have BQ:L.take (k+1)=L.take k ++ [L[k]]:=qX oG;have hLk:∀x ∈ L.take k,src <+: x/\f x≠none:=fun x hx=>(qA.out x).1 (List.mem_of_mem_take hx);obtain⟨p0,p1,p2,p3,p4,F5⟩:∃s0 s1 s2 s3 s4,av L[k] = #[.string s0,.string s1,.string s2,.string s3,.string s4]:=⟨_,_,_,_,_,rfl⟩;obtain⟨fo,e0,e1,e2,e3,e4⟩:=adE HRK.out oG F5;generalize L[k]=p at mS hs nC hp LX BQ F5;cases hv:f p with
     | none=>exact absurd hv nC
     | some v=>
      have OG:=xA hs;have Kr:=HLEN.out p hs nC;have hp5:=hp.len;have yZ:src.length+(p.drop src.length).length<=5:=by rw[List.length_drop];have:=hs.length_le;omega
      have GI:=Uc.out (p.drop src.length) yZ (by rw[List.length_drop];exact Kr);rw[OG,F5] at GI;have hqG:Good (kg src dst p):=⟨HG.out.2.val.append (fun x hx=>hp.val x (List.mem_of_mem_drop hx)),by unfold kg;rw[List.length_append,List.length_drop];exact Kr⟩;have hturn:=fun W (hP:iU W b n (carried f src dst (L.take k)))=>B9 hP (by unfold maxLen;omega) Ud.out hLk hp hs hv LX hqG underlying162 yG 0
      change ∀W,Calls prog 197 _ W fun e w'=>e=.returned (.agg (av (kg src dst p)))/\_ at GI
      obtain⟨q0,q1,q2,q3,q4,hPq⟩:∃s0 s1 s2 s3 s4,av (kg src dst p) = #[.string s0,.string s1,.string s2,.string s3,.string s4]:=⟨_,_,_,_,_,rfl⟩;rw[hPq] at GI;simp only[F5,hPq] at hturn;have Uf:Hid _:=hturn;have hb0:Below wr.heap.size wr (wr.alloc (.cells #[.string p0,.string p1,.string p2,.string p3,.string p4] 147)).drew:=aB ((Below.refl _ _).alloc (bA _) _);have hl0:=(hturn _ (Kc.out.keep (hb0.block b (by omega)))).1;have kS:=fun o=>(eC Xe.out (c:=w.heap.size) Pk.out.2.1 (by omega) o);have kD:=fun o=>(eC Xe.out (c:=w.heap.size+1) Pk.out.2.2 (by omega) o);have hz0:w.heap.size<wr.heap.size:=by omega
      have hz1:w.heap.size+1<wr.heap.size:=(by omega);have Gv:b<wr.heap.size:=by omega
      have K7:wr.heap.size≠b:=(by omega);have aan:w.heap.size≠b:=by omega
      have aao:w.heap.size+1≠b:=(by omega);have Li:Hid _:=BQ;have Lp:Hid _:=hb0;clear hturn hb0 mS hs nC hp LX BQ F5 hv OG Kr hp5 yZ hqG hPq hLk;clear HO HM Jh HEQ Uc HLEN HF HG HS HPM Ue Ji l6 Yy HST hi iz0 iz1 iz2;go_wp2;clear e0 e1 e2 e3 e4;have Ej:zL (wr.alloc (.cells #[.string p0,.string p1,.string p2,.string p3,.string p4] 147)).drew wr.heap.size w.heap.size (w.heap.size+1) p0 p1 p2 p3 p4 s0 s1 s2 s3 s4 d0 d1 d2 d3 d4:=by
       unfold zL;have q0:=Nat.ne_of_lt hz0;have q1:=Nat.ne_of_lt hz1;simp[World.cell?_alloc_lt,hz0,hz1,kS,kD]
      go_region_held3 (fun w'=>w'.cell? ⟨wr.heap.size,0,none⟩=some (.string p0)/\w'.cell? ⟨wr.heap.size,1,none⟩=some (.string p1)/\w'.cell? ⟨wr.heap.size,2,none⟩=some (.string p2)/\w'.cell? ⟨wr.heap.size,3,none⟩=some (.string p3)/\w'.cell? ⟨wr.heap.size,4,none⟩=some (.string p4)/\w'.cell? ⟨w.heap.size,0,none⟩=some (.string s0)/\w'.cell? ⟨w.heap.size,1,none⟩=some (.string s1)/\w'.cell? ⟨w.heap.size,2,none⟩=some (.string s2)/\w'.cell? ⟨w.heap.size,3,none⟩=some (.string s3)/\w'.cell? ⟨w.heap.size,4,none⟩=some (.string s4)/\w'.cell? ⟨w.heap.size+1,0,none⟩=some (.string d0)/\w'.cell? ⟨w.heap.size+1,1,none⟩=some (.string d1)/\w'.cell? ⟨w.heap.size+1,2,none⟩=some (.string d2)/\w'.cell? ⟨w.heap.size+1,3,none⟩=some (.string d3)/\w'.cell? ⟨w.heap.size+1,4,none⟩=some (.string d4)) (first | exact Ej | exact hS3 | exact hS4) (first | (go_at_call 197;refine (GI _).mono ?_;rintro e w3 ⟨rfl,hb3⟩;obtain⟨m1,m2,m3,m4⟩:=Ca hb3 hz0 hz1;have hS3:=Ej.keep m1 m2 m3;have LY:=aq Lp.out hb3;obtain⟨Ye,w4,w5,adI,T8,hP5,hg4,Gt,S2,hs5⟩:=Uf.out w3 (Kc.out.keep (LY.block b Gv));have hS4:=hS3.keep (eC hg4 m4 K7) (eC hg4 (Nat.lt_trans hz0 m4) aan) (eC hg4 (Nat.lt_trans hz1 m4) aao);have HE:Hid _:=Cb hbr Xe.out HRK.out aal LY hg4 Gt;have HP5:Hid _:=hP5;have uD:wr.heap.size<w4.heap.size:=cv m4 (Nat.le_of_eq S2.symm);clear hg4 Gt S2 hs5 hP5 LY m1 m2 m3 hb3))
      all_goals
       go_wp2;go_roundw
       case rel=>exact⟨k+1,by omega,by go_num,by rw[Li.out];exact HP5.out,HE.out.1,HE.out.2.1,HE.out.2.2⟩
       case measure=>simp[intOf];omega
    ·have j4:k=L.length:=by omega
     subst j4;rw[List.take_length] at Kc;go_wp2;go_end0;refine⟨rfl,Kc.out.congr (fun x _=>zJ Ud.out qA.out x),?_⟩;exact (World.grownBy.but (jG (((Below.refl w.heap.size w).alloc (bA _) _).alloc (by simp) _)) (some b)).andThen Xe.out (fun j hj=>.inr (by rw[hj]))
  ·intro x c kl y w1 cnt1 hkey hlk hv hat hrg1 hlt hg1 hs1 hen
   obtain⟨p,hp,rfl,rfl,nC⟩:=came HM.out.1 HM.out.2.1 HM.out.2.2 hkey hat;obtain⟨p0,p1,p2,p3,p4,F5⟩:∃s0 s1 s2 s3 s4,av p = #[.string s0,.string s1,.string s2,.string s3,.string s4]:=⟨_,_,_,_,_,rfl⟩;have GX:=Jh.out p hp;have Xf:∀W,(Op.equalIn 10000 147 (.agg (av p)) (.agg #[.string s0,.string s1,.string s2,.string s3,.string s4])).run prog W=.ok (decide (p=src)) W:=HEQ.out p hp;obtain⟨hno,Ug⟩:=sr.out.next hbr Pk.out.1 hrg1 hlt hg1 hp hlk nC;have kS:=fun o=>(eC hg1 (c:=w.heap.size) (cv V2 (Nat.le_of_succ_le sr.out.sz)) (by omega) o).trans (sr.out.box Pk.out.2.1 o);have hz1:w.heap.size<w1.heap.size:=by rw[hs1];exact cv V2 (Nat.le_of_succ_le sr.out.sz)
   have HLT:Hid (cnt1<cnt):=hlt;have aif:Hid _:=hrg1;rw[F5] at GX Xf hen ⊢;have HPp:Hid _:=F5;have Zp:Hid _:=hno;have Uh:Hid _:=Ug;clear hno Ug hkey hlk hv hat hrg1 hlt hg1 hs1 nC F5;by_cases hs:src <+: p
   ·by_cases he:p=src
    ·rw[decide_eq_true he] at Xf
     clear GX;obtain⟨y1,y2,y3,y4⟩:=Uh.out hs;have hW:Below w1.heap.size w1 (w1.alloc (.cells #[.string p0,.string p1,.string p2,.string p3,.string p4] 147)):=(Below.refl _ _).alloc (bA _) _;have l6:Hid _:=y1.alloc (.cells #[.string p0,.string p1,.string p2,.string p3,.string p4] 147);have Rb:Hid _:=eU y2 hW.size;have LZ:Hid _:=y4;have HW:Hid _:=hW;have h63:L.length+1<=maxLen:=by unfold maxLen;omega
     have hby:(L.length+1)*80<=140737488355328:=(by omega);clear y1 y2 y4 hW;go_wp2_with (at_builtin;go_loud (refine wpList_append_own_at _ rfl (.tmp 24) (.tmp 26) 289 rfl (r+1) 147 i0 _ 5 80 underlying289 hi iz0 iz1 iz2 rfl (by decide) (.slice la L.length lc) L.length (jZ L) rfl (World.ownsRow.alloc l6.out _) ⟨w1.heap.size+1,0,none⟩ 1 1 [.string p0,.string p1,.string p2,.string p3,.string p4] rfl rfl (Yx w1 _ _ _ _ _ _ 147) (xE _ _ _ _ _) h63 hby (eU Rb.out (xD _ _)) ?_;intro v' w3 hown' hgrow _ hloc;obtain⟨g',cap',rfl⟩:=ak hown' (Nat.succ_pos _);have xG:Hid _:=hown';have Ce:Hid _:=hgrow;clear hown' hgrow hloc));have ri:Hid (rW b r n D f src _ w3 _ cnt1 (L ++ [p]) _):=LZ.out _ w3 _ (HW.out.alloc HW.out.size (.cells #[.string p0,.string p1,.string p2,.string p3,.string p4] 147)) (by rw[HPp.out];exact xG.out) Ce.out;go_roundw
     case rel=>exact⟨_,_,_,ri.out⟩
     case measure=>rw[ri.out.rg.left_eq,sr.out.rg.left_eq];exact HLT.out
    ·rw[dY he] at Xf
     rw[decide_eq_true ⟨hs,he⟩] at GX;obtain⟨y1,y2,y3,y4⟩:=Uh.out hs;have LZ:Hid _:=y4;have h63:L.length+1<=maxLen:=by unfold maxLen;omega
     have hby:(L.length+1)*80<=140737488355328:=(by omega);clear y4;have hz2:w.heap.size<(w1.alloc (.cells #[.string p0,.string p1,.string p2,.string p3,.string p4] 147)).heap.size:=by simp;omega
     have hz3:w1.heap.size<(w1.alloc (.cells #[.string p0,.string p1,.string p2,.string p3,.string p4] 147)).heap.size:=(by simp);go_wp2_with (first
      | (go_at_call 140;refine Calls.mono (GX _) ?_;rintro e w2 ⟨rfl,hb2⟩;have k2:=fun o=>(aR hb2).1 w1.heap.size o hz3;have uD:=cv hz3 hb2.size;have hW:=aq ((Below.refl w1.heap.size w1).alloc (bA _) _) hb2;have l6:Hid (w2.ownsRow (r+1) 147 5 (.slice la L.length lc) L.length (jZ L)):=ai y1 (fun g hg=>hW.block g (ah y1 hg));have Rb:Hid (r+1<=w2.heap.size):=eU y2 hW.size;have HW:Hid _:=hW;clear hW)
      | (at_builtin;go_loud (refine wpList_append_own_at _ rfl (.tmp 24) (.tmp 26) 289 rfl (r+1) 147 i0 _ 5 80 underlying289 hi iz0 iz1 iz2 rfl (by decide) (.slice la L.length lc) L.length (jZ L) rfl (World.ownsRow.alloc l6.out _) ⟨w2.heap.size,0,none⟩ 1 1 [.string p0,.string p1,.string p2,.string p3,.string p4] rfl rfl (aag w2 _ _ _ _ _ 147) (xE _ _ _ _ _) h63 hby (eU Rb.out (xD _ _)) ?_;intro v' w3 hown' hgrow _ hloc;obtain⟨g',cap',rfl⟩:=ak hown' (Nat.succ_pos _);have xG:Hid _:=hown';have Ce:Hid _:=hgrow;clear hown' hgrow hloc)))
     have ri:Hid (rW b r n D f src _ w3 _ cnt1 (L ++ [p]) _):=LZ.out _ w3 _ (HW.out.alloc HW.out.size (.cells #[.string p0,.string p1,.string p2,.string p3,.string p4] 147)) (by rw[HPp.out];exact xG.out) Ce.out;go_roundw
     case rel=>exact⟨_,_,_,ri.out⟩
     case measure=>rw[ri.out.rg.left_eq,sr.out.rg.left_eq];exact HLT.out
   ·have he:p≠src:=fun e=>hs (e ▸ List.prefix_refl _)
    rw[dY he] at Xf;rw[dY (fun h=>hs h.1)] at GX;go_wp2_with (go_at_call 140;refine Calls.mono (GX _) ?_;rintro e w2 ⟨rfl,hb2⟩);have ri:Hid _:=(Zp.out hs).below (aq ((Below.refl _ _).alloc (bA _) _) hb2);go_roundw
    case rel=>exact⟨_,_,L,ri.out⟩
    case measure=>rw[(rW.rg ri.out).left_eq,sr.out.rg.left_eq];exact HLT.out
end Go.Proofs.YtlgidcmmgohagaaGreat
