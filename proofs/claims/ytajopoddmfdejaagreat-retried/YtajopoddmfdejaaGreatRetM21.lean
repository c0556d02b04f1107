/-
  What is proved here: of paths: Moved. a row of paths in memory, and what comes out of a map by paths that is gone through. of paths: Below.
-/
import Derived.Test.YtajopoddmfdejaaGreatRetM20
import Derived.Test.YtajopoddmfdejaaGreatRetM08
namespace Go.Proofs.YtajopoddmfdejaaGreat
open Go.RowKit Go.Sort Go.Shelf
set_option linter.unusedVariables false
set_option maxRecDepth 100000
set_option maxHeartbeats 16000000
theorem pathA_get (l:List ByteArray)(j:Nat):(pathA l).toList[j]? = if j<5 then some (.string (l.getD j ⟨#[]⟩)) else none:=by
 by_cases h:j<5
 ·rw[if_pos h]
  rcases (show j=0\/j=1\/j=2\/j=3\/j=4 by omega) with rfl | rfl | rfl | rfl | rfl <;> rfl
 ·rw[if_neg h];exact List.getElem?_eq_none (by show 5<=j;omega)
def movedCells (p:List ByteArray)(f d:Nat):List Value:=((pathA p).toList.drop f).take (Nat.min (5-f) (5-d))
theorem moved_len (p:List ByteArray)(f d:Nat):(movedCells p f d).length=Nat.min (5-f) (5-d):=by
 have:(pathA p).toList.length=5:=rfl
 unfold movedCells
 rw[List.length_take,List.length_drop,this]
 exact Nat.min_eq_left (Nat.min_le_left _ _)
theorem moved_row {src dst r:List ByteArray}(hs:src.length+r.length<=5)(hd:dst.length+r.length<=5):
  (pathA dst).toList.take dst.length++movedCells (src++r) src.length dst.length++(pathA dst).toList.drop (dst.length+(movedCells (src++r) src.length dst.length).length)=(pathA (dst++r)).toList:=by
 have hl:(pathA dst).toList.length=5:=rfl
 have hk:=moved_len (src++r) src.length dst.length
 generalize hkk:Nat.min (5-src.length) (5-dst.length)=k at hk
 have hk1:k<=5-dst.length:=by rw[<- hkk];exact Nat.min_le_right _ _
 have hk2:r.length<=k:=by rw[<- hkk];exact Nat.le_min.2 ⟨by omega,by omega⟩
 have hk3:k<=5-src.length:=by rw[<- hkk];exact Nat.min_le_left _ _
 refine List.ext_getElem? fun j=>?_
 rw[pathA_get]
 by_cases h1:j<dst.length
 ·rw[List.getElem?_append_left (by rw[List.length_append,List.length_take,hl];omega),List.getElem?_append_left (by rw[List.length_take,hl];omega),List.getElem?_take_of_lt h1,pathA_get,if_pos (by omega),if_pos (by omega)]
  rw[List.getD_eq_getElem?_getD,List.getD_eq_getElem?_getD,List.getElem?_append_left h1]
 ·by_cases h2:j<dst.length+k
  ·rw[List.getElem?_append_left (by rw[List.length_append,List.length_take,hl,hk];omega),List.getElem?_append_right (by rw[List.length_take,hl];omega),List.length_take,hl,Nat.min_eq_left (by omega)]
   unfold movedCells
   rw[hkk,List.getElem?_take_of_lt (by omega),List.getElem?_drop,pathA_get,if_pos (by omega),if_pos (by omega)]
   rw[List.getD_eq_getElem?_getD,List.getD_eq_getElem?_getD,List.getElem?_append_right (by omega),List.getElem?_append_right (by omega)]
   congr 3
   congr 1
   omega
  ·rw[List.getElem?_append_right (by rw[List.length_append,List.length_take,hl,hk];omega),List.length_append,List.length_take,hl,hk,List.getElem?_drop,pathA_get,Nat.min_eq_left (by omega)]
   rw[show dst.length+k+(j-(dst.length+k))=j by omega]
   by_cases h3:j<5
   ·rw[if_pos h3,if_pos h3,List.getD_eq_getElem?_getD,List.getD_eq_getElem?_getD,List.getElem?_eq_none (by omega),List.getElem?_eq_none (by rw[List.length_append];omega)]
   ·rw[if_neg h3,if_neg h3]
def offP (d:Nat):Nat:=if d=5 then 0 else d
theorem slP (b d:Nat)(hd:d<=5)(W:World):(Instr.sliceAt 104 (.pointer (some ⟨b,0,none⟩)) (some (.int .i64 (d:Int))) none none).run Tryz.prog W=.ok (.slice (some ⟨b,offP d,none⟩) (5-d) (5-d)) W:=by
 rcases (show d=0\/d=1\/d=2\/d=3\/d=4\/d=5 by omega) with rfl | rfl | rfl | rfl | rfl | rfl <;> kernel_rfl
theorem moved_off {src dst r:List ByteArray}(hs:src.length+r.length<=5)(hd:dst.length+r.length<=5):
  (pathA dst).toList.take (offP dst.length)++movedCells (src++r) src.length dst.length++(pathA dst).toList.drop (offP dst.length+(movedCells (src++r) src.length dst.length).length)=(pathA (dst++r)).toList:=by
 unfold offP
 by_cases h:dst.length=5
 ·have hr:r = []:=List.length_eq_zero_iff.1 (by omega)
  have h0:movedCells (src++r) src.length dst.length = []:=List.length_eq_zero_iff.1 (by rw[moved_len,h];exact Nat.le_zero.1 (Nat.min_le_right _ _))
  rw[h0,if_pos h,hr]
  simp
 ·rw[if_neg h];exact moved_row hs hd
def four (w:World)(p src dst:List ByteArray):World:=(((w.alloc (.cells (pathA p) 104)).alloc (.cells (pathA src) 104)).alloc (.cells (pathA dst) 104)).alloc (.cells (pathA []) 104)
theorem four_size (w:World)(p src dst:List ByteArray):(four w p src dst).heap.size=w.heap.size+4:=by unfold four;simp only[World.size_alloc]
theorem four_below (w:World)(p src dst:List ByteArray):Below w.heap.size w (four w p src dst):=by
 unfold four
 exact ((((Below.refl w.heap.size w).alloc (Nat.le_refl _) _).alloc (by simp) _).alloc (by simp;omega) _).alloc (by simp;omega) _
theorem four_at (w:World)(p src dst:List ByteArray):(four w p src dst).heap[w.heap.size]? = some (.cells (pathA p) 104 (0,0))/\(four w p src dst).heap[w.heap.size+2]? = some (.cells (pathA dst) 104 (0,0))/\(four w p src dst).heap[w.heap.size+3]? = some (.cells (pathA []) 104 (0,0)):=by
 unfold four World.alloc
 refine⟨?_,?_,?_⟩
 ·rw[Array.getElem?_push_lt (by simp;omega),Array.getElem_push_lt (by simp;omega),Array.getElem_push_lt (by simp),Array.getElem_push_eq]
 ·rw[Array.getElem?_push_lt (by simp),Array.getElem_push,dif_neg (by simp)]
 ·rw[Array.getElem?_push,if_pos (by simp)]
theorem copy_moved {w W:World}{src dst r:List ByteArray}(hs:src.length+r.length<=5)(hd:dst.length+r.length<=5)(hb:Below (four w (src++r) src dst).heap.size (four w (src++r) src dst) W):
  ∃ w3,(∀ ty,(Builtin.copy_ #[69,69] ty #[.slice (some ⟨w.heap.size+2,offP dst.length,none⟩) (5-dst.length) (5-dst.length),.slice (some ⟨w.heap.size,offP src.length,none⟩) (5-src.length) (5-src.length)]).run Tryz.prog W=.ok (goInt (Nat.min (5-src.length) (5-dst.length))) w3)/\Below w.heap.size w w3/\w.heap.size+3<w3.heap.size/\
   w3.heap[w.heap.size+2]? = some (.cells (pathA (dst++r)) 104 (0,0))/\w3.heap[w.heap.size+3]? = some (.cells (pathA []) 104 (0,0)):=by
 have hz:=four_size w (src++r) src dst
 obtain⟨h0,h2,h3⟩:=four_at w (src++r) src dst
 have g0:W.heap[w.heap.size]? = _:=(hb.block _ (by omega)).trans h0
 have g2:W.heap[w.heap.size+2]? = _:=(hb.block _ (by omega)).trans h2
 have g3:W.heap[w.heap.size+3]? = _:=(hb.block _ (by omega)).trans h3
 have hk:=moved_len (src++r) src.length dst.length
 have hrow:=moved_off hs hd
 have hsz5:(pathA dst).size=5:=rfl
 have hfit:offP dst.length+(movedCells (src++r) src.length dst.length).length<=(pathA dst).size:=by
  rw[hk,hsz5]
  have h1:Nat.min (5-src.length) (5-dst.length)<=5-dst.length:=Nat.min_le_right _ _
  unfold offP;split <;> omega
 have hone:∀ v ∈ movedCells (src++r) src.length dst.length,v.oneCell'=true:=fun v hv=>by
  unfold movedCells at hv
  have:=List.mem_of_mem_drop (List.mem_of_mem_take hv)
  simp only[pathA,List.mem_cons,List.not_mem_nil,or_false] at this
  rcases this with rfl | rfl | rfl | rfl | rfl <;> rfl
 have hsrc:∀ j v,(movedCells (src++r) src.length dst.length)[j]? = some v->W.cell? ((⟨w.heap.size,offP src.length,none⟩:Addr).add j)=some v:=fun j v hv=>by
  have hj:j<Nat.min (5-src.length) (5-dst.length):=by rw[<- hk];exact (List.getElem?_eq_some_iff.1 hv).1
  have hj5:j<5-src.length:=Nat.lt_of_lt_of_le hj (Nat.min_le_left _ _)
  unfold movedCells at hv
  rw[List.getElem?_take_of_lt hj,List.getElem?_drop] at hv
  have ho:offP src.length=src.length:=if_neg (by omega)
  rw[ho]
  have hadd:(⟨w.heap.size,src.length,none⟩:Addr).add j=⟨w.heap.size,src.length+j,none⟩:=by
   unfold Addr.add
   by_cases h0:j=0
   ·subst h0;rfl
   ·rw[if_neg h0]
  rw[hadd]
  simp only[World.cell?,g0]
  rw[Array.getElem?_toList] at hv
  exact hv
 have hrun:=fun ty=>run_copyK (P:=Tryz.prog) W 69 69 ty 9 1 (w.heap.size+2) (offP dst.length) (5-dst.length) (5-dst.length) ⟨w.heap.size,offP src.length,none⟩ (5-src.length) (5-src.length) (pathA dst) 104 (movedCells (src++r) src.length dst.length) Tryz.underlying69 (by kernel_rfl) g2 (by rw[hk,Nat.mul_one]) hsrc hfit hone
 rw[hrow] at hrun
 refine⟨_,hrun,?_,?_,?_,?_⟩
 ·exact below_setRow ((four_below w (src++r) src dst).trans (hb.mono (by omega))) (by omega) _
 ·rw[size_setRow]
  have:=hb.size
  omega
 ·exact setRow_heap W _ _ _ _ _ g2
 ·rw[setRow_other _ _ _ _ (by omega)];exact g3
theorem cells5 {w:World}{b:Nat}{s0 s1 s2 s3 s4:Value}{t:TypeId}(h:w.heap[b]? = some (.cells #[s0,s1,s2,s3,s4] t (0,0))):b<w.heap.size/\w.cell? ⟨b,0,none⟩=some s0/\w.cell? ⟨b,1,none⟩=some s1/\w.cell? ⟨b,2,none⟩=some s2/\w.cell? ⟨b,3,none⟩=some s3/\w.cell? ⟨b,4,none⟩=some s4/\(∀ o,w.frozen? ⟨b,o,none⟩=false):=
 ⟨(Array.getElem?_eq_some_iff.1 h).1,by simp[World.cell?,h],by simp[World.cell?,h],by simp[World.cell?,h],by simp[World.cell?,h],by simp[World.cell?,h],fun o=>by simp[World.frozen?,h]⟩
theorem moved_any (src dst r:List ByteArray)(hS:Good src)(hD:Good dst)(hs:src.length+r.length<=5)(hd:dst.length+r.length<=5)(w:World):
  Calls Tryz.prog 128 #[pathV (src++r),pathV src,pathV dst] w fun e w'=>e=.returned (pathV (dst++r))/\Below w.heap.size w w':=by
 have hdd:=fun W=>depth_any dst hD.val hD.len W
 have hds:=fun W=>depth_any src hS.val hS.len W
 have hcp:=fun W=>copy_moved (w:=w) (W:=W) hs hd
 have sl1:=fun W=>slP (w.heap.size+2) dst.length hD.len W
 have sl2:=fun W=>slP w.heap.size src.length hS.len W
 have hz4:=four_size w (src++r) src dst
 have hfa:=four_at w (src++r) src dst
 unfold four at hcp hz4 hfa
 obtain⟨p0,p1,p2,p3,p4,hP⟩:∃ s0 s1 s2 s3 s4,pathA (src++r) = #[.string s0,.string s1,.string s2,.string s3,.string s4]:=⟨_,_,_,_,_,rfl⟩
 obtain⟨s0,s1,s2,s3,s4,hP1⟩:∃ s0 s1 s2 s3 s4,pathA src = #[.string s0,.string s1,.string s2,.string s3,.string s4]:=⟨_,_,_,_,_,rfl⟩
 obtain⟨d0,d1,d2,d3,d4,hP2⟩:∃ s0 s1 s2 s3 s4,pathA dst = #[.string s0,.string s1,.string s2,.string s3,.string s4]:=⟨_,_,_,_,_,rfl⟩
 obtain⟨q0,q1,q2,q3,q4,hP3⟩:∃ s0 s1 s2 s3 s4,pathA (dst++r) = #[.string s0,.string s1,.string s2,.string s3,.string s4]:=⟨_,_,_,_,_,rfl⟩
 have hP4:pathA [] = #[.string ⟨#[]⟩,.string ⟨#[]⟩,.string ⟨#[]⟩,.string ⟨#[]⟩,.string ⟨#[]⟩]:=rfl
 unfold pathV at hdd hds ⊢
 simp only[hP,hP1,hP2,hP3,hP4] at hdd hds hcp hfa hz4 ⊢
 generalize offP dst.length=od at sl1 hcp
 generalize offP src.length=os at sl2 hcp
 generalize 5-dst.length=ld at sl1 hcp
 generalize 5-src.length=ls at sl2 hcp
 generalize (dst.length:Int)=nd at hdd sl1
 generalize (src.length:Int)=ns at hds sl2
 have HCP:Hid _:=hcp
 have HFA:Hid _:=hfa
 clear hP hP1 hP2 hP3 hP4 hcp hfa hs hd hS hD
 go_enter Tryz.func128,Tryz.ntmps128
 go_wp2
 have b0:=below_drew (Below.refl ((((w.alloc (.cells #[.string p0,.string p1,.string p2,.string p3,.string p4] 104)).alloc (.cells #[.string s0,.string s1,.string s2,.string s3,.string s4] 104)).alloc (.cells #[.string d0,.string d1,.string d2,.string d3,.string d4] 104)).alloc (.cells #[.string ⟨#[]⟩,.string ⟨#[]⟩,.string ⟨#[]⟩,.string ⟨#[]⟩,.string ⟨#[]⟩] 104)).heap.size ((((w.alloc (.cells #[.string p0,.string p1,.string p2,.string p3,.string p4] 104)).alloc (.cells #[.string s0,.string s1,.string s2,.string s3,.string s4] 104)).alloc (.cells #[.string d0,.string d1,.string d2,.string d3,.string d4] 104)).alloc (.cells #[.string ⟨#[]⟩,.string ⟨#[]⟩,.string ⟨#[]⟩,.string ⟨#[]⟩,.string ⟨#[]⟩] 104)))
 have HZ:Hid _:=(Nat.lt_of_lt_of_eq (Nat.lt_succ_self (w.heap.size+3)) hz4.symm)
 clear hz4
 go_region_with (first
  | (go_at_call_of 83 (Value.agg #[.string d0,.string d1,.string d2,.string d3,.string d4]);refine (hdd _).mono ?_;rintro e w1 ⟨rfl,hb1⟩;replace b0:=below_via b0 hb1;have kc:=(bcell b0).1;have kz:=Nat.lt_of_lt_of_le HZ.out b0.size;obtain⟨w3,hrun,b3,z3,c2,c3⟩:=HCP.out _ b0;obtain⟨y0,y1,y2,y3,y4,y5,y6⟩:=cells5 c2;obtain⟨x0,x1,x2,x3,x4,x5,x6⟩:=cells5 c3;clear c2 c3)
  | (go_at_call_of 83 (Value.agg #[.string s0,.string s1,.string s2,.string s3,.string s4]);refine (hds _).mono ?_;rintro e w1 ⟨rfl,hb1⟩;replace b0:=below_via b0 hb1;have kc:=(bcell b0).1;have kz:=Nat.lt_of_lt_of_le HZ.out b0.size;obtain⟨w3,hrun,b3,z3,c2,c3⟩:=HCP.out _ b0;obtain⟨y0,y1,y2,y3,y4,y5,y6⟩:=cells5 c2;obtain⟨x0,x1,x2,x3,x4,x5,x6⟩:=cells5 c3;clear c2 c3))
 all_goals
  go_wp2
  exact bodyPost_ret (v:=.agg #[.string q0,.string q1,.string q2,.string q3,.string q4]) (by simp[results,Tryz.results128,go_sem,Nat.add_assoc,x1,x2,x3,x4,x5]) rfl ⟨rfl,by
   repeat (refine Below.setCell ?_ (by simp;omega) _)
   exact b3⟩
theorem stop_at {p:Prop}(h:Hid p):p:=h.out
def flatP (L:List (List ByteArray)):List Value:=L.flatMap fun p=>(pathA p).toList
theorem flatP_snoc (L:List (List ByteArray))(p:List ByteArray):flatP (L ++ [p])=flatP L++(pathA p).toList:=by simp[flatP]
theorem flatP_at:∀ (L:List (List ByteArray)) (k o:Nat) (hk:k<L.length),o<5->(flatP L)[k*5+o]? = (pathA L[k]).toList[o]?
 | x :: r,0,o,hk,ho=>by
  show ((pathA x).toList++flatP r)[0*5+o]? = _
  rw[List.getElem?_append_left (by simp[pathA];omega)]
  simp
 | x :: r,k+1,o,hk,ho=>by
  show ((pathA x).toList++flatP r)[(k+1)*5+o]? = _
  rw[List.getElem?_append_right (by simp[pathA];omega)]
  have e:(k+1)*5+o-(pathA x).toList.length=k*5+o:=by simp[pathA];omega
  rw[e,flatP_at r k o (by simpa using hk) ho]
  rfl
theorem row5 {w:World}{base g n cap:Nat}{L:List (List ByteArray)}(h:w.ownsRow base 104 5 (.slice (some ⟨g,0,none⟩) n cap) n (flatP L)){k:Nat}(hk:k<L.length){s0 s1 s2 s3 s4:ByteArray}(hP:pathA L[k] = #[.string s0,.string s1,.string s2,.string s3,.string s4]):
  g<w.heap.size/\w.cell? ⟨g,k*5,none⟩=some (.string s0)/\w.cell? ⟨g,k*5+1,none⟩=some (.string s1)/\w.cell? ⟨g,k*5+2,none⟩=some (.string s2)/\w.cell? ⟨g,k*5+3,none⟩=some (.string s3)/\w.cell? ⟨g,k*5+4,none⟩=some (.string s4):=by
 obtain⟨hl,⟨h0,_⟩ | ⟨g',c',cur,hv,_,hg,hc1,_,hcs,htk⟩⟩:=h
 ·cases h0
 ·cases hv
  have key:∀ o u,o<5->(pathA L[k]).toList[o]? = some u->w.cell? ⟨g,k*5+o,none⟩=some u:=by
   intro o u ho hu
   rw[<- flatP_at L k o hk ho,<- htk] at hu
   have:cur[k*5+o]? = some u:=by
    rw[List.getElem?_take] at hu
    split at hu
    ·simpa using hu
    ·cases hu
   simp[World.cell?,hg,this]
  refine⟨(Array.getElem?_eq_some_iff.1 hg).1,key 0 _ (by omega) (by rw[hP];rfl),key 1 _ (by omega) (by rw[hP];rfl),key 2 _ (by omega) (by rw[hP];rfl),key 3 _ (by omega) (by rw[hP];rfl),key 4 _ (by omega) (by rw[hP];rfl)⟩
theorem infoP:(Tryz.prog.info? 104).map (fun i=>(i.zero,i.size,i.bytes))=some (some (.agg #[.string ⟨#[]⟩,.string ⟨#[]⟩,.string ⟨#[]⟩,.string ⟨#[]⟩,.string ⟨#[]⟩]),5,80):=by kernel_rfl
theorem came {f:List ByteArray->Option Value}{M:Lit->Option Value}{D:DataW Value}(hM:∀ kl,WideAt.IsKeyLit kl->∀ z,D.atKey kl z=((M kl).map DataW.held).getD z)(h1:∀ p,Good p->M (keyP Tryz.prog p)=f p)(h2:∀ kl,WideAt.IsKeyLit kl->M kl≠none->∃ p,Good p/\kl=keyP Tryz.prog p)
  {x:Value}{kl:Lit}{y:DataW Value}(hkey:keyOf Tryz.prog 104 x=some kl)(hat:∀ z,D.atKey kl z=y):∃ p,Good p/\kl=keyP Tryz.prog p/\x=.agg (pathA p)/\f p≠none:=by
 have hk:=lawP.key hkey
 have hne:M kl≠none:=by
  intro h0
  have a1:=hM kl hk (.held (.int .i64 0))
  have a2:=hM kl hk (.held (.int .i64 1))
  rw[h0,hat] at a1 a2
  rw[a1] at a2
  simp at a2
 obtain⟨p,hp,rfl⟩:=h2 kl hk hne
 refine⟨p,hp,rfl,lawP.inj hkey (keyOf_path hp.val),?_⟩
 rw[<- h1 p hp];exact hne
theorem row_shape {w:World}{base:Nat}{e:TypeId}{size n:Nat}{v:Value}{xs:List Value}(h:w.ownsRow base e size v n xs):∃ a c,v=.slice a n c:=by
 rcases h.2 with ⟨h1,h2⟩ | ⟨g,c,_,h1,_⟩
 ·exact⟨none,0,by rw[h1,h2]⟩
 ·exact⟨_,_,h1⟩
theorem carry_turn {w3:World}{b n:Nat}{f:List ByteArray->Option Value}{src dst p:List ByteArray}{L:List (List ByteArray)}{v:Value}(hP:PMap w3 b n (carried f src dst L))(hn:n<maxLen)(hdst:∀ x,dst <+: x->f x=none)(hL:∀ x ∈ L,src <+: x/\f x≠none)(hp:Good p)(hs:src <+: p)(hv:f p=some v)(hnp:p ∉ L)(hmv:Good (movedP src dst p))
  {t e:TypeId}(ht:Tryz.prog.underlying t=some (.map 104 e)){z:Value}(hz:∀ W,(zeroValue e).run Tryz.prog W=.ok z W)(ty:TypeId):
  (Instr.lookup t (.map (some b)) (.agg (pathA p)) false).run Tryz.prog w3=.ok v w3/\
  ∃ w4 w5,(Instr.mapUpdate t (.map (some b)) (.agg (pathA (movedP src dst p))) v).run Tryz.prog w3=.ok () w4/\(Builtin.delete_ #[t,104] ty #[.map (some b),.agg (pathA p)]).run Tryz.prog w4=.ok (.tuple #[]) w5/\
   PMap w5 b n (carried f src dst (L ++ [p]))/\w3.grownBy w4 (some b)/\w4.grownBy w5 (some b)/\w4.heap.size=w3.heap.size/\w5.heap.size=w3.heap.size:=by
 obtain⟨c1,c2⟩:=carried_step hdst hL hs (by rw[hv];simp) hnp
 have hlk:=hP.look ht (hz w3) hp
 rw[c1,hv,Option.getD_some] at hlk
 obtain⟨w4,hrun,hP4,hg4,hs4⟩:=hP.store hmv hn ht v
 have hne:p≠movedP src dst p:=fun e=>by
  have:=hdst p (by rw[e];exact List.prefix_append _ _)
  rw[hv] at this;cases this
 obtain⟨w5,hrun5,hP5,hg5,hs5⟩:=hP4.drop1 ht hp (by rw[upd_other hne,c1,hv];rfl) ty
 refine⟨hlk,w4,w5,hrun,hrun5,hP5.congr (fun x _=>?_),hg4,hg5,hs4,by rw[hs5,hs4]⟩
 rw[<- c2 x,hv]
theorem zeroFp (W:World):(zeroValue 161).run Tryz.prog W=.ok (.pointer none) W:=by kernel_rfl
theorem below_eq (s0 s1 s2 s3 s4:ByteArray)(w:World)
  (heq:∀ W,(Op.equalIn 10000 104 (.agg #[.string s0,.string s1,.string s2,.string s3,.string s4]) (.agg #[.string s0,.string s1,.string s2,.string s3,.string s4])).run Tryz.prog W=.ok true W):
  Calls Tryz.prog 81 #[.agg #[.string s0,.string s1,.string s2,.string s3,.string s4],.agg #[.string s0,.string s1,.string s2,.string s3,.string s4]] w fun e w'=>e=.returned (.bool false)/\Below w.heap.size w w':=by
 go_enter Tryz.func81,Tryz.ntmps81
 go_wp2
 go_region
 all_goals
  go_wp2
  go_ret
  exact⟨rfl,below_drew (((Below.refl _ _).alloc (Nat.le_refl _) _).alloc (by simp) _)⟩
theorem below_ne (s0 s1 s2 s3 s4 q0 q1 q2 q3 q4 r0 r1 r2 r3 r4:ByteArray)(d:Int)(b:Bool)(w:World)
  (heq:∀ W,(Op.equalIn 10000 104 (.agg #[.string s0,.string s1,.string s2,.string s3,.string s4]) (.agg #[.string q0,.string q1,.string q2,.string q3,.string q4])).run Tryz.prog W=.ok false W)
  (hd:∀ W,Calls Tryz.prog 83 #[.agg #[.string q0,.string q1,.string q2,.string q3,.string q4]] W fun e w'=>e=.returned (.int .i64 d)/\Below W.heap.size W w')
  (hh:∀ W,Calls Tryz.prog 119 #[.agg #[.string s0,.string s1,.string s2,.string s3,.string s4],.int .i64 d] W fun e w'=>e=.returned (.agg #[.string r0,.string r1,.string r2,.string r3,.string r4])/\Below W.heap.size W w')
  (heq2:∀ W,(Op.equalIn 10000 104 (.agg #[.string r0,.string r1,.string r2,.string r3,.string r4]) (.agg #[.string q0,.string q1,.string q2,.string q3,.string q4])).run Tryz.prog W=.ok b W):
  Calls Tryz.prog 81 #[.agg #[.string s0,.string s1,.string s2,.string s3,.string s4],.agg #[.string q0,.string q1,.string q2,.string q3,.string q4]] w fun e w'=>e=.returned (.bool b)/\Below w.heap.size w w':=by
 go_enter Tryz.func81,Tryz.ntmps81
 go_wp2
 go_region_with (first
  | (go_at_call 83;refine (hd _).mono ?_;rintro e w1 ⟨rfl,hb1⟩;obtain⟨hc1,hf1⟩:=bcell hb1;obtain⟨hz0,hz1⟩:=two_size hb1;have b1:Below w.heap.size w w1:=below_via (below_drew (((Below.refl _ _).alloc (Nat.le_refl _) _).alloc (by simp) _)) hb1)
  | (go_at_call 119;refine (hh _).mono ?_;rintro e w2 ⟨rfl,hb2⟩;obtain⟨hc2,hf2⟩:=bcell hb2;have b2:=below_via b1 hb2))
 all_goals
  go_wp2
  go_ret
  exact⟨rfl,b2⟩
theorem below_any (l m:List ByteArray)(hl:Good l)(hm:Good m)(w:World):Calls Tryz.prog 81 #[pathV l,pathV m] w fun e w'=>e=.returned (.bool (decide (m <+: l/\l≠m)))/\Below w.heap.size w w':=by
 by_cases h:l=m
 ·subst h
  rw[decide_eq_false (fun h=>h.2 rfl)]
  have heq:∀ W,(Op.equalIn 10000 104 (pathV l) (pathV l)).run Tryz.prog W=.ok true W:=fun W=>by
   have:=run_eqP hl hl W
   rw[decide_eq_true rfl] at this;exact this
  exact below_eq _ _ _ _ _ w heq
 ·have heq:∀ W,(Op.equalIn 10000 104 (pathV l) (pathV m)).run Tryz.prog W=.ok false W:=fun W=>by
   have:=run_eqP hl hm W
   rw[decide_eq_false h] at this;exact this
  have hd:=fun W=>depth_any m hm.val hm.len W
  have hh:=fun W=>head_any l hl.len m.length hm.len W
  have heq2:=fun W=>run_eqP (hl.take m.length) hm W
  have hb:decide (m <+: l/\l≠m)=decide (l.take m.length=m):=by
   refine decide_eq_decide.2 ⟨fun h=>(List.prefix_iff_eq_take.1 h.1).symm,fun e=>⟨?_,h⟩⟩
   rw[<- e];exact List.take_prefix _ _
  rw[hb]
  exact below_ne _ _ _ _ _ _ _ _ _ _ _ _ _ _ _ _ _ w heq hd hh heq2
end Go.Proofs.YtajopoddmfdejaaGreat
