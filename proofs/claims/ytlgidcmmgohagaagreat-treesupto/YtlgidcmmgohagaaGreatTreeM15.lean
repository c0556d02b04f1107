/- What is proved here: paths as values. -/
import Derived.Test.YtlgidcmmgohagaaGreatTreeM14
import Derived.Lib.SliceRun
import Derived.Test.YtlgidcmmgohagaaGreatTreeM01
import Derived.Lib.BufferWrite
import Derived.Laws.IdiomStrings
import Derived.OwnWalk
namespace Go.Proofs.YtlgidcmmgohagaaGreat
open Go.RowKit Go.Sort Go.Shelf
set_option linter.unusedVariables false
set_option maxRecDepth 100000
set_option maxHeartbeats 16000000
theorem fL {x:ByteArray}(h:aF x=true):(x.toList == [])=false:=beq_eq_false_iff_ne.2 fun e=>by
 have h1:=(eo h).1
 rw[gF] at e
 have h2:=congrArg List.length e
 rw[cN,List.length_nil] at h2
 omega
theorem eM (w:World):Calls Tryz.prog 75 #[] w fun e w'=>e=.returned (bn [])/\Below w.heap.size w w':=by
 go_enter Tryz.func75,Tryz.ntmps75;go_wp2;exact bodyPost_ret (v:=bn []) (by simp[results,Tryz.results75,go_sem,bn,av]) rfl ⟨rfl,by repeat (first | exact Below.refl _ _ | (refine Below.alloc ?_ (by simp) _) | (refine Below.setCell ?_ (by simp) _))⟩
theorem Pv (c0 c1 c2 c3 c4:Value)(w:World):(Instr.index 147 (.agg #[c0,c1,c2,c3,c4]) (.int .i64 0)).run Tryz.prog w=.ok c0 w:=by kernel_rfl
theorem Pw (c0 c1 c2 c3 c4:Value)(w:World):(Instr.index 147 (.agg #[c0,c1,c2,c3,c4]) (.int .i64 1)).run Tryz.prog w=.ok c1 w:=by kernel_rfl
theorem Px (c0 c1 c2 c3 c4:Value)(w:World):(Instr.index 147 (.agg #[c0,c1,c2,c3,c4]) (.int .i64 2)).run Tryz.prog w=.ok c2 w:=by kernel_rfl
theorem Py (c0 c1 c2 c3 c4:Value)(w:World):(Instr.index 147 (.agg #[c0,c1,c2,c3,c4]) (.int .i64 3)).run Tryz.prog w=.ok c3 w:=by kernel_rfl
theorem Pz (c0 c1 c2 c3 c4:Value)(w:World):(Instr.index 147 (.agg #[c0,c1,c2,c3,c4]) (.int .i64 4)).run Tryz.prog w=.ok c4 w:=by kernel_rfl
theorem Wx  (w:World):Calls Tryz.prog 142 #[.agg #[.string ⟨#[]⟩,.string ⟨#[]⟩,.string ⟨#[]⟩,.string ⟨#[]⟩,.string ⟨#[]⟩]] w fun e w'=>e=.returned (.int .i64 0)/\Below w.heap.size w w':=by
 have x0:=Pv;have x1:=Pw;have x2:=Px;have x3:=Py;have x4:=Pz;go_enter Tryz.func142,Tryz.ntmps142;go_wp2;refine wp_loop_rounds 7 ?_;rw[rounds_succ];go_wp2;go_ret;exact⟨rfl,(Below.refl _ _).alloc (bA _) _⟩
theorem Wy (s0:ByteArray)(h0:aF s0=true)(w:World):Calls Tryz.prog 142 #[.agg #[.string s0,.string ⟨#[]⟩,.string ⟨#[]⟩,.string ⟨#[]⟩,.string ⟨#[]⟩]] w fun e w'=>e=.returned (.int .i64 1)/\Below w.heap.size w w':=by
 have e0:=fL h0;have x0:=Pv;have x1:=Pw;have x2:=Px;have x3:=Py;have x4:=Pz;clear h0;go_enter Tryz.func142,Tryz.ntmps142;go_wp2;refine wp_loop_rounds 7 ?_;rw[rounds_succ];go_wp2;rw[rounds_succ];go_wp2;go_ret;exact⟨rfl,(Below.refl _ _).alloc (bA _) _⟩
theorem Wz (s0 s1:ByteArray)(h0:aF s0=true)(h1:aF s1=true)(w:World):Calls Tryz.prog 142 #[.agg #[.string s0,.string s1,.string ⟨#[]⟩,.string ⟨#[]⟩,.string ⟨#[]⟩]] w fun e w'=>e=.returned (.int .i64 2)/\Below w.heap.size w w':=by
 have e0:=fL h0;have e1:=fL h1;have x0:=Pv;have x1:=Pw;have x2:=Px;have x3:=Py;have x4:=Pz;clear h0 h1;go_enter Tryz.func142,Tryz.ntmps142;go_wp2;refine wp_loop_rounds 7 ?_;rw[rounds_succ];go_wp2;rw[rounds_succ];go_wp2;rw[rounds_succ];go_wp2;go_ret;exact⟨rfl,(Below.refl _ _).alloc (bA _) _⟩
theorem WA (s0 s1 s2:ByteArray)(h0:aF s0=true)(h1:aF s1=true)(h2:aF s2=true)(w:World):Calls Tryz.prog 142 #[.agg #[.string s0,.string s1,.string s2,.string ⟨#[]⟩,.string ⟨#[]⟩]] w fun e w'=>e=.returned (.int .i64 3)/\Below w.heap.size w w':=by
 have e0:=fL h0;have e1:=fL h1;have e2:=fL h2;have x0:=Pv;have x1:=Pw;have x2:=Px;have x3:=Py;have x4:=Pz;clear h0 h1 h2;go_enter Tryz.func142,Tryz.ntmps142;go_wp2;refine wp_loop_rounds 7 ?_;rw[rounds_succ];go_wp2;rw[rounds_succ];go_wp2;rw[rounds_succ];go_wp2;rw[rounds_succ];go_wp2;go_ret;exact⟨rfl,(Below.refl _ _).alloc (bA _) _⟩
theorem WC (s0 s1 s2 s3:ByteArray)(h0:aF s0=true)(h1:aF s1=true)(h2:aF s2=true)(h3:aF s3=true)(w:World):Calls Tryz.prog 142 #[.agg #[.string s0,.string s1,.string s2,.string s3,.string ⟨#[]⟩]] w fun e w'=>e=.returned (.int .i64 4)/\Below w.heap.size w w':=by
 have e0:=fL h0;have e1:=fL h1;have e2:=fL h2;have e3:=fL h3;have x0:=Pv;have x1:=Pw;have x2:=Px;have x3:=Py;have x4:=Pz;clear h0 h1 h2 h3;go_enter Tryz.func142,Tryz.ntmps142;go_wp2;refine wp_loop_rounds 7 ?_;rw[rounds_succ];go_wp2;rw[rounds_succ];go_wp2;rw[rounds_succ];go_wp2;rw[rounds_succ];go_wp2;rw[rounds_succ];go_wp2;go_ret;exact⟨rfl,(Below.refl _ _).alloc (bA _) _⟩
theorem WD (s0 s1 s2 s3 s4:ByteArray)(h0:aF s0=true)(h1:aF s1=true)(h2:aF s2=true)(h3:aF s3=true)(h4:aF s4=true)(w:World):Calls Tryz.prog 142 #[.agg #[.string s0,.string s1,.string s2,.string s3,.string s4]] w fun e w'=>e=.returned (.int .i64 5)/\Below w.heap.size w w':=by
 have e0:=fL h0;have e1:=fL h1;have e2:=fL h2;have e3:=fL h3;have e4:=fL h4;have x0:=Pv;have x1:=Pw;have x2:=Px;have x3:=Py;have x4:=Pz;clear h0 h1 h2 h3 h4;go_enter Tryz.func142,Tryz.ntmps142;go_wp2;refine wp_loop_rounds 7 ?_;rw[rounds_succ];go_wp2;rw[rounds_succ];go_wp2;rw[rounds_succ];go_wp2;rw[rounds_succ];go_wp2;rw[rounds_succ];go_wp2;rw[rounds_succ];go_wp2;go_ret;exact⟨rfl,(Below.refl _ _).alloc (bA _) _⟩
theorem l8 (l:List ByteArray)(hv:aI l)(h5:l.length<=5)(w:World):Calls Tryz.prog 142 #[bn l] w fun e w'=>e=.returned (.int .i64 (l.length:Int))/\Below w.heap.size w w':=by
 match l,hv,h5 with
 | [],hv,_=>exact Wx  w
 | [s0],hv,_=>exact Wy s0 (hv s0 (by simp)) w
 | [s0,s1],hv,_=>exact Wz s0 s1 (hv s0 (by simp)) (hv s1 (by simp)) w
 | [s0,s1,s2],hv,_=>exact WA s0 s1 s2 (hv s0 (by simp)) (hv s1 (by simp)) (hv s2 (by simp)) w
 | [s0,s1,s2,s3],hv,_=>exact WC s0 s1 s2 s3 (hv s0 (by simp)) (hv s1 (by simp)) (hv s2 (by simp)) (hv s3 (by simp)) w
 | [s0,s1,s2,s3,s4],hv,_=>exact WD s0 s1 s2 s3 s4 (hv s0 (by simp)) (hv s1 (by simp)) (hv s2 (by simp)) (hv s3 (by simp)) (hv s4 (by simp)) w
 | _ :: _ :: _ :: _ :: _ :: _ :: _,_,h5=>exact absurd h5 (by simp)
theorem nR (w:World):(zeroValue 9).run Tryz.prog w=.ok (.string ⟨#[]⟩) w:=by kernel_rfl
theorem Tl (s0 s1 s2 s3 s4:ByteArray)(w:World):Calls Tryz.prog 188 #[.agg #[.string s0,.string s1,.string s2,.string s3,.string s4],.int .i64 (-1)] w fun e w'=>e=.returned (.agg #[.string ⟨#[]⟩,.string ⟨#[]⟩,.string ⟨#[]⟩,.string ⟨#[]⟩,.string ⟨#[]⟩])/\Below w.heap.size w w':=by
 have mH:∀ty,(Builtin.clear_ #[131] ty #[.slice (some ⟨w.heap.size,0,none⟩) 5 5]).run Tryz.prog ((w.alloc (.cells #[.string s0,.string s1,.string s2,.string s3,.string s4] 147)).alloc (.cells #[.string ⟨#[]⟩,.string ⟨#[]⟩,.string ⟨#[]⟩,.string ⟨#[]⟩,.string ⟨#[]⟩] 147))=.ok (.tuple #[]) (((((((w.alloc (.cells #[.string s0,.string s1,.string s2,.string s3,.string s4] 147)).alloc (.cells #[.string ⟨#[]⟩,.string ⟨#[]⟩,.string ⟨#[]⟩,.string ⟨#[]⟩,.string ⟨#[]⟩] 147)).setCell ⟨w.heap.size,0,none⟩ (.string ⟨#[]⟩)).setCell ⟨w.heap.size,1,none⟩ (.string ⟨#[]⟩)).setCell ⟨w.heap.size,2,none⟩ (.string ⟨#[]⟩)).setCell ⟨w.heap.size,3,none⟩ (.string ⟨#[]⟩)).setCell ⟨w.heap.size,4,none⟩ (.string ⟨#[]⟩)):=
  fun ty=>Lib.run_clear_slice _ 131 9 ty (.string ⟨#[]⟩) Tryz.underlying131 nR rfl rfl w.heap.size 0 5 5 (by omega)
   (fun j hj=>by rcases (show j=0\/j=1\/j=2\/j=3\/j=4 by omega) with rfl | rfl | rfl | rfl | rfl <;> first | omega | simp[World.cell?_alloc_past])
   (fun j hj=>by rcases (show j=0\/j=1\/j=2\/j=3\/j=4 by omega) with rfl | rfl | rfl | rfl | rfl <;> first | omega | simp[World.frozen?_alloc_past])
 have hmx:max (-1:Int) 0=0:=rfl;have nP:∀(b:Nat) (W:World),(Instr.sliceAt 147 (.pointer (some ⟨b,0,none⟩)) (some (.int .i64 0)) none none).run Tryz.prog W=.ok (.slice (some ⟨b,0,none⟩) 5 5) W:=fun b W=>by kernel_rfl
 go_enter Tryz.func188,Tryz.ntmps188;go_wp2_with (first | simp only[hmx] | simp only[nP] | simp only[mH]);exact bodyPost_ret (v:=.agg #[.string ⟨#[]⟩,.string ⟨#[]⟩,.string ⟨#[]⟩,.string ⟨#[]⟩,.string ⟨#[]⟩]) (by simp[results,Tryz.results188,go_sem]) rfl ⟨rfl,by repeat (first | exact Below.refl _ _ | (refine Below.alloc ?_ (by simp) _) | (refine Below.setCell ?_ (by simp) _))⟩
theorem ZL (s0 s1 s2 s3 s4:ByteArray)(w:World):Calls Tryz.prog 188 #[.agg #[.string s0,.string s1,.string s2,.string s3,.string s4],.int .i64 0] w fun e w'=>e=.returned (.agg #[.string ⟨#[]⟩,.string ⟨#[]⟩,.string ⟨#[]⟩,.string ⟨#[]⟩,.string ⟨#[]⟩])/\Below w.heap.size w w':=by
 have mH:∀ty,(Builtin.clear_ #[131] ty #[.slice (some ⟨w.heap.size,0,none⟩) 5 5]).run Tryz.prog ((w.alloc (.cells #[.string s0,.string s1,.string s2,.string s3,.string s4] 147)).alloc (.cells #[.string ⟨#[]⟩,.string ⟨#[]⟩,.string ⟨#[]⟩,.string ⟨#[]⟩,.string ⟨#[]⟩] 147))=.ok (.tuple #[]) (((((((w.alloc (.cells #[.string s0,.string s1,.string s2,.string s3,.string s4] 147)).alloc (.cells #[.string ⟨#[]⟩,.string ⟨#[]⟩,.string ⟨#[]⟩,.string ⟨#[]⟩,.string ⟨#[]⟩] 147)).setCell ⟨w.heap.size,0,none⟩ (.string ⟨#[]⟩)).setCell ⟨w.heap.size,1,none⟩ (.string ⟨#[]⟩)).setCell ⟨w.heap.size,2,none⟩ (.string ⟨#[]⟩)).setCell ⟨w.heap.size,3,none⟩ (.string ⟨#[]⟩)).setCell ⟨w.heap.size,4,none⟩ (.string ⟨#[]⟩)):=
  fun ty=>Lib.run_clear_slice _ 131 9 ty (.string ⟨#[]⟩) Tryz.underlying131 nR rfl rfl w.heap.size 0 5 5 (by omega)
   (fun j hj=>by rcases (show j=0\/j=1\/j=2\/j=3\/j=4 by omega) with rfl | rfl | rfl | rfl | rfl <;> first | omega | simp[World.cell?_alloc_past])
   (fun j hj=>by rcases (show j=0\/j=1\/j=2\/j=3\/j=4 by omega) with rfl | rfl | rfl | rfl | rfl <;> first | omega | simp[World.frozen?_alloc_past])
 have hmx:max (0:Int) 0=0:=rfl;have nP:∀(b:Nat) (W:World),(Instr.sliceAt 147 (.pointer (some ⟨b,0,none⟩)) (some (.int .i64 0)) none none).run Tryz.prog W=.ok (.slice (some ⟨b,0,none⟩) 5 5) W:=fun b W=>by kernel_rfl
 go_enter Tryz.func188,Tryz.ntmps188;go_wp2_with (first | simp only[hmx] | simp only[nP] | simp only[mH]);exact bodyPost_ret (v:=.agg #[.string ⟨#[]⟩,.string ⟨#[]⟩,.string ⟨#[]⟩,.string ⟨#[]⟩,.string ⟨#[]⟩]) (by simp[results,Tryz.results188,go_sem]) rfl ⟨rfl,by repeat (first | exact Below.refl _ _ | (refine Below.alloc ?_ (by simp) _) | (refine Below.setCell ?_ (by simp) _))⟩
theorem ZM (s0 s1 s2 s3 s4:ByteArray)(w:World):Calls Tryz.prog 188 #[.agg #[.string s0,.string s1,.string s2,.string s3,.string s4],.int .i64 1] w fun e w'=>e=.returned (.agg #[.string s0,.string ⟨#[]⟩,.string ⟨#[]⟩,.string ⟨#[]⟩,.string ⟨#[]⟩])/\Below w.heap.size w w':=by
 have mH:∀ty,(Builtin.clear_ #[131] ty #[.slice (some ⟨w.heap.size,1,none⟩) 4 4]).run Tryz.prog ((w.alloc (.cells #[.string s0,.string s1,.string s2,.string s3,.string s4] 147)).alloc (.cells #[.string ⟨#[]⟩,.string ⟨#[]⟩,.string ⟨#[]⟩,.string ⟨#[]⟩,.string ⟨#[]⟩] 147))=.ok (.tuple #[]) ((((((w.alloc (.cells #[.string s0,.string s1,.string s2,.string s3,.string s4] 147)).alloc (.cells #[.string ⟨#[]⟩,.string ⟨#[]⟩,.string ⟨#[]⟩,.string ⟨#[]⟩,.string ⟨#[]⟩] 147)).setCell ⟨w.heap.size,1,none⟩ (.string ⟨#[]⟩)).setCell ⟨w.heap.size,2,none⟩ (.string ⟨#[]⟩)).setCell ⟨w.heap.size,3,none⟩ (.string ⟨#[]⟩)).setCell ⟨w.heap.size,4,none⟩ (.string ⟨#[]⟩)):=
  fun ty=>Lib.run_clear_slice _ 131 9 ty (.string ⟨#[]⟩) Tryz.underlying131 nR rfl rfl w.heap.size 1 4 4 (by omega)
   (fun j hj=>by rcases (show j=0\/j=1\/j=2\/j=3\/j=4 by omega) with rfl | rfl | rfl | rfl | rfl <;> first | omega | simp[World.cell?_alloc_past])
   (fun j hj=>by rcases (show j=0\/j=1\/j=2\/j=3\/j=4 by omega) with rfl | rfl | rfl | rfl | rfl <;> first | omega | simp[World.frozen?_alloc_past])
 have hmx:max (1:Int) 0=1:=rfl;have nP:∀(b:Nat) (W:World),(Instr.sliceAt 147 (.pointer (some ⟨b,0,none⟩)) (some (.int .i64 1)) none none).run Tryz.prog W=.ok (.slice (some ⟨b,1,none⟩) 4 4) W:=fun b W=>by kernel_rfl
 go_enter Tryz.func188,Tryz.ntmps188;go_wp2_with (first | simp only[hmx] | simp only[nP] | simp only[mH]);exact bodyPost_ret (v:=.agg #[.string s0,.string ⟨#[]⟩,.string ⟨#[]⟩,.string ⟨#[]⟩,.string ⟨#[]⟩]) (by simp[results,Tryz.results188,go_sem]) rfl ⟨rfl,by repeat (first | exact Below.refl _ _ | (refine Below.alloc ?_ (by simp) _) | (refine Below.setCell ?_ (by simp) _))⟩
theorem ZN (s0 s1 s2 s3 s4:ByteArray)(w:World):Calls Tryz.prog 188 #[.agg #[.string s0,.string s1,.string s2,.string s3,.string s4],.int .i64 2] w fun e w'=>e=.returned (.agg #[.string s0,.string s1,.string ⟨#[]⟩,.string ⟨#[]⟩,.string ⟨#[]⟩])/\Below w.heap.size w w':=by
 have mH:∀ty,(Builtin.clear_ #[131] ty #[.slice (some ⟨w.heap.size,2,none⟩) 3 3]).run Tryz.prog ((w.alloc (.cells #[.string s0,.string s1,.string s2,.string s3,.string s4] 147)).alloc (.cells #[.string ⟨#[]⟩,.string ⟨#[]⟩,.string ⟨#[]⟩,.string ⟨#[]⟩,.string ⟨#[]⟩] 147))=.ok (.tuple #[]) (((((w.alloc (.cells #[.string s0,.string s1,.string s2,.string s3,.string s4] 147)).alloc (.cells #[.string ⟨#[]⟩,.string ⟨#[]⟩,.string ⟨#[]⟩,.string ⟨#[]⟩,.string ⟨#[]⟩] 147)).setCell ⟨w.heap.size,2,none⟩ (.string ⟨#[]⟩)).setCell ⟨w.heap.size,3,none⟩ (.string ⟨#[]⟩)).setCell ⟨w.heap.size,4,none⟩ (.string ⟨#[]⟩)):=
  fun ty=>Lib.run_clear_slice _ 131 9 ty (.string ⟨#[]⟩) Tryz.underlying131 nR rfl rfl w.heap.size 2 3 3 (by omega)
   (fun j hj=>by rcases (show j=0\/j=1\/j=2\/j=3\/j=4 by omega) with rfl | rfl | rfl | rfl | rfl <;> first | omega | simp[World.cell?_alloc_past])
   (fun j hj=>by rcases (show j=0\/j=1\/j=2\/j=3\/j=4 by omega) with rfl | rfl | rfl | rfl | rfl <;> first | omega | simp[World.frozen?_alloc_past])
 have hmx:max (2:Int) 0=2:=rfl;have nP:∀(b:Nat) (W:World),(Instr.sliceAt 147 (.pointer (some ⟨b,0,none⟩)) (some (.int .i64 2)) none none).run Tryz.prog W=.ok (.slice (some ⟨b,2,none⟩) 3 3) W:=fun b W=>by kernel_rfl
 go_enter Tryz.func188,Tryz.ntmps188;go_wp2_with (first | simp only[hmx] | simp only[nP] | simp only[mH]);exact bodyPost_ret (v:=.agg #[.string s0,.string s1,.string ⟨#[]⟩,.string ⟨#[]⟩,.string ⟨#[]⟩]) (by simp[results,Tryz.results188,go_sem]) rfl ⟨rfl,by repeat (first | exact Below.refl _ _ | (refine Below.alloc ?_ (by simp) _) | (refine Below.setCell ?_ (by simp) _))⟩
theorem ZO (s0 s1 s2 s3 s4:ByteArray)(w:World):Calls Tryz.prog 188 #[.agg #[.string s0,.string s1,.string s2,.string s3,.string s4],.int .i64 3] w fun e w'=>e=.returned (.agg #[.string s0,.string s1,.string s2,.string ⟨#[]⟩,.string ⟨#[]⟩])/\Below w.heap.size w w':=by
 have mH:∀ty,(Builtin.clear_ #[131] ty #[.slice (some ⟨w.heap.size,3,none⟩) 2 2]).run Tryz.prog ((w.alloc (.cells #[.string s0,.string s1,.string s2,.string s3,.string s4] 147)).alloc (.cells #[.string ⟨#[]⟩,.string ⟨#[]⟩,.string ⟨#[]⟩,.string ⟨#[]⟩,.string ⟨#[]⟩] 147))=.ok (.tuple #[]) ((((w.alloc (.cells #[.string s0,.string s1,.string s2,.string s3,.string s4] 147)).alloc (.cells #[.string ⟨#[]⟩,.string ⟨#[]⟩,.string ⟨#[]⟩,.string ⟨#[]⟩,.string ⟨#[]⟩] 147)).setCell ⟨w.heap.size,3,none⟩ (.string ⟨#[]⟩)).setCell ⟨w.heap.size,4,none⟩ (.string ⟨#[]⟩)):=
  fun ty=>Lib.run_clear_slice _ 131 9 ty (.string ⟨#[]⟩) Tryz.underlying131 nR rfl rfl w.heap.size 3 2 2 (by omega)
   (fun j hj=>by rcases (show j=0\/j=1\/j=2\/j=3\/j=4 by omega) with rfl | rfl | rfl | rfl | rfl <;> first | omega | simp[World.cell?_alloc_past])
   (fun j hj=>by rcases (show j=0\/j=1\/j=2\/j=3\/j=4 by omega) with rfl | rfl | rfl | rfl | rfl <;> first | omega | simp[World.frozen?_alloc_past])
 have hmx:max (3:Int) 0=3:=rfl;have nP:∀(b:Nat) (W:World),(Instr.sliceAt 147 (.pointer (some ⟨b,0,none⟩)) (some (.int .i64 3)) none none).run Tryz.prog W=.ok (.slice (some ⟨b,3,none⟩) 2 2) W:=fun b W=>by kernel_rfl
 go_enter Tryz.func188,Tryz.ntmps188;go_wp2_with (first | simp only[hmx] | simp only[nP] | simp only[mH]);exact bodyPost_ret (v:=.agg #[.string s0,.string s1,.string s2,.string ⟨#[]⟩,.string ⟨#[]⟩]) (by simp[results,Tryz.results188,go_sem]) rfl ⟨rfl,by repeat (first | exact Below.refl _ _ | (refine Below.alloc ?_ (by simp) _) | (refine Below.setCell ?_ (by simp) _))⟩
theorem ZP (s0 s1 s2 s3 s4:ByteArray)(w:World):Calls Tryz.prog 188 #[.agg #[.string s0,.string s1,.string s2,.string s3,.string s4],.int .i64 4] w fun e w'=>e=.returned (.agg #[.string s0,.string s1,.string s2,.string s3,.string ⟨#[]⟩])/\Below w.heap.size w w':=by
 have mH:∀ty,(Builtin.clear_ #[131] ty #[.slice (some ⟨w.heap.size,4,none⟩) 1 1]).run Tryz.prog ((w.alloc (.cells #[.string s0,.string s1,.string s2,.string s3,.string s4] 147)).alloc (.cells #[.string ⟨#[]⟩,.string ⟨#[]⟩,.string ⟨#[]⟩,.string ⟨#[]⟩,.string ⟨#[]⟩] 147))=.ok (.tuple #[]) (((w.alloc (.cells #[.string s0,.string s1,.string s2,.string s3,.string s4] 147)).alloc (.cells #[.string ⟨#[]⟩,.string ⟨#[]⟩,.string ⟨#[]⟩,.string ⟨#[]⟩,.string ⟨#[]⟩] 147)).setCell ⟨w.heap.size,4,none⟩ (.string ⟨#[]⟩)):=
  fun ty=>Lib.run_clear_slice _ 131 9 ty (.string ⟨#[]⟩) Tryz.underlying131 nR rfl rfl w.heap.size 4 1 1 (by omega)
   (fun j hj=>by rcases (show j=0\/j=1\/j=2\/j=3\/j=4 by omega) with rfl | rfl | rfl | rfl | rfl <;> first | omega | simp[World.cell?_alloc_past])
   (fun j hj=>by rcases (show j=0\/j=1\/j=2\/j=3\/j=4 by omega) with rfl | rfl | rfl | rfl | rfl <;> first | omega | simp[World.frozen?_alloc_past])
 have hmx:max (4:Int) 0=4:=rfl;have nP:∀(b:Nat) (W:World),(Instr.sliceAt 147 (.pointer (some ⟨b,0,none⟩)) (some (.int .i64 4)) none none).run Tryz.prog W=.ok (.slice (some ⟨b,4,none⟩) 1 1) W:=fun b W=>by kernel_rfl
 go_enter Tryz.func188,Tryz.ntmps188;go_wp2_with (first | simp only[hmx] | simp only[nP] | simp only[mH]);exact bodyPost_ret (v:=.agg #[.string s0,.string s1,.string s2,.string s3,.string ⟨#[]⟩]) (by simp[results,Tryz.results188,go_sem]) rfl ⟨rfl,by repeat (first | exact Below.refl _ _ | (refine Below.alloc ?_ (by simp) _) | (refine Below.setCell ?_ (by simp) _))⟩
theorem ZQ (s0 s1 s2 s3 s4:ByteArray)(w:World):Calls Tryz.prog 188 #[.agg #[.string s0,.string s1,.string s2,.string s3,.string s4],.int .i64 5] w fun e w'=>e=.returned (.agg #[.string s0,.string s1,.string s2,.string s3,.string s4])/\Below w.heap.size w w':=by
 have mH:∀ty W,(Builtin.clear_ #[131] ty #[.slice (some ⟨w.heap.size,0,none⟩) 0 0]).run Tryz.prog W=.ok (.tuple #[]) W:=fun ty W=>by simp[Builtin.clear_,run_underlying Tryz.underlying131]
 have hmx:max (5:Int) 0=5:=rfl;have nP:∀(b:Nat) (W:World),(Instr.sliceAt 147 (.pointer (some ⟨b,0,none⟩)) (some (.int .i64 5)) none none).run Tryz.prog W=.ok (.slice (some ⟨b,0,none⟩) 0 0) W:=fun b W=>by kernel_rfl
 go_enter Tryz.func188,Tryz.ntmps188;go_wp2_with (first | simp only[hmx] | simp only[nP] | simp only[mH]);exact bodyPost_ret (v:=.agg #[.string s0,.string s1,.string s2,.string s3,.string s4]) (by simp[results,Tryz.results188,go_sem]) rfl ⟨rfl,by repeat (first | exact Below.refl _ _ | (refine Below.alloc ?_ (by simp) _) | (refine Below.setCell ?_ (by simp) _))⟩
theorem IX (l:List ByteArray)(h5:l.length<=5)(n:Nat)(hn:n<=5)(w:World):Calls Tryz.prog 188 #[bn l,.int .i64 (n:Int)] w fun e w'=>e=.returned (bn (l.take n))/\Below w.heap.size w w':=by
 have key:∀i,(l.take n).getD i ⟨#[]⟩=if i<n then l.getD i ⟨#[]⟩ else ⟨#[]⟩:=by
  intro i;rw[List.getD_eq_getElem?_getD,List.getD_eq_getElem?_getD,List.getElem?_take];split <;> rfl
 unfold bn av;simp only[key];rcases (show n=0\/n=1\/n=2\/n=3\/n=4\/n=5 by omega) with rfl | rfl | rfl | rfl | rfl | rfl
 ·exact ZL _ _ _ _ _ w
 ·exact ZM _ _ _ _ _ w
 ·exact ZN _ _ _ _ _ w
 ·exact ZO _ _ _ _ _ w
 ·exact ZP _ _ _ _ _ w
 ·exact ZQ _ _ _ _ _ w
theorem PA (l:List ByteArray)(w:World):Calls Tryz.prog 188 #[bn l,.int .i64 (-1)] w fun e w'=>e=.returned (bn [])/\Below w.heap.size w w':=Tl _ _ _ _ _ w
theorem aR {W w1:World}(hb:Below W.heap.size W w1):(∀b o,b<W.heap.size->w1.cell? ⟨b,o,none⟩=W.cell? ⟨b,o,none⟩)/\(∀b o,b<W.heap.size->w1.frozen? ⟨b,o,none⟩=W.frozen? ⟨b,o,none⟩):=
 ⟨fun b o h=>hb.cell (p:=⟨b,o,none⟩) h,fun b o h=>hb.frozen (p:=⟨b,o,none⟩) h⟩
theorem aB {n:Nat}{w W:World}(h:Below n w W):Below n w W.drew:=⟨h.os,h.tape,h.output,h.size,h.block⟩
theorem aq {w W w1:World}(h0:Below w.heap.size w W)(h:Below W.heap.size W w1):Below w.heap.size w w1:=h0.trans (h.mono h0.size)
theorem qI {w w1:World}{o1 o2:Obj}(h:Below ((w.alloc o1).alloc o2).drew.heap.size ((w.alloc o1).alloc o2).drew w1):w.heap.size<w1.heap.size/\w.heap.size+1<w1.heap.size:=by
 have h2:((w.alloc o1).alloc o2).heap.size<=w1.heap.size:=h.size;rw[World.size_alloc,World.size_alloc] at h2;omega
theorem zu (s0 s1 s2 s3 s4 r0 r1 r2 r3 r4:ByteArray)(n m:Int)(w:World)(hm:IntKind.i64.wrap (n-1)=m)
  (hd:∀W,Calls Tryz.prog 142 #[.agg #[.string s0,.string s1,.string s2,.string s3,.string s4]] W fun e w'=>e=.returned (.int .i64 n)/\Below W.heap.size W w')
  (hh:∀W,Calls Tryz.prog 188 #[.agg #[.string s0,.string s1,.string s2,.string s3,.string s4],.int .i64 m] W fun e w'=>e=.returned (.agg #[.string r0,.string r1,.string r2,.string r3,.string r4])/\Below W.heap.size W w'):
  Calls Tryz.prog 132 #[.agg #[.string s0,.string s1,.string s2,.string s3,.string s4]] w fun e w'=>e=.returned (.agg #[.string r0,.string r1,.string r2,.string r3,.string r4])/\Below w.heap.size w w':=by
 go_enter Tryz.func132,Tryz.ntmps132;go_wp2
 go_region_with (first
  | (go_at_call 142;refine (hd _).mono ?_;rintro e w1 ⟨rfl,hb1⟩;obtain⟨hc1,C6⟩:=aR hb1;obtain⟨hz0,hz1⟩:=qI hb1)
  | (go_at_call 188;refine (hh _).mono ?_;rintro e w2 ⟨rfl,hb2⟩;obtain⟨hc2,hf2⟩:=aR hb2))
 all_goals
  go_wp2;exact bodyPost_ret (v:=.agg #[.string r0,.string r1,.string r2,.string r3,.string r4]) (by simp[results,Tryz.results132,go_sem,hc1,hc2,hz1]) rfl ⟨rfl,by
   have h1:Below w.heap.size w w1:=aq (aB (((Below.refl _ _).alloc (bA _) _).alloc (by simp) _)) hb1;have h2:Below w.heap.size w w2:=h1.trans (hb2.mono (by omega))
   repeat (first | exact h2 | (refine Below.setCell ?_ (by simp) _))⟩
theorem lq {w w1:World}{o1:Obj}(h:Below (w.alloc o1).drew.heap.size (w.alloc o1).drew w1):w.heap.size<w1.heap.size:=by
 have h2:(w.alloc o1).heap.size<=w1.heap.size:=h.size;rw[World.size_alloc] at h2;omega
theorem ZR (s0 s1 s2 s3 s4:ByteArray)(w:World)
  (heq:∀W,(Op.equalIn 10000 147 (.agg #[.string s0,.string s1,.string s2,.string s3,.string s4]) (.agg #[.string ⟨#[]⟩,.string ⟨#[]⟩,.string ⟨#[]⟩,.string ⟨#[]⟩,.string ⟨#[]⟩])).run Tryz.prog W=.ok false W)
  (hd:∀W,Calls Tryz.prog 142 #[.agg #[.string s0,.string s1,.string s2,.string s3,.string s4]] W fun e w'=>e=.returned (.int .i64 1)/\Below W.heap.size W w'):
  Calls Tryz.prog 134 #[.agg #[.string s0,.string s1,.string s2,.string s3,.string s4]] w fun e w'=>e=.returned (.string s0)/\Below w.heap.size w w':=by
 have bB:=fun W=>eM W;unfold bn av at bB;simp only[List.getD_nil] at bB;go_enter Tryz.func134,Tryz.ntmps134;go_wp2
 go_region_with (first
  | (go_at_call 75;refine (bB _).mono ?_;rintro e w1 ⟨rfl,hb1⟩;obtain⟨hc1,C6⟩:=aR hb1;have hz1:=lq hb1))
 all_goals
  go_wp2_with (go_at_call 142;refine (hd _).mono ?_;rintro e w2 ⟨rfl,hb2⟩;obtain⟨hc2,hf2⟩:=aR hb2);go_ret;exact⟨rfl,aq (aq (aB ((Below.refl _ _).alloc (bA _) _)) hb1) hb2⟩
theorem ZT (s0 s1 s2 s3 s4:ByteArray)(w:World)
  (heq:∀W,(Op.equalIn 10000 147 (.agg #[.string s0,.string s1,.string s2,.string s3,.string s4]) (.agg #[.string ⟨#[]⟩,.string ⟨#[]⟩,.string ⟨#[]⟩,.string ⟨#[]⟩,.string ⟨#[]⟩])).run Tryz.prog W=.ok false W)
  (hd:∀W,Calls Tryz.prog 142 #[.agg #[.string s0,.string s1,.string s2,.string s3,.string s4]] W fun e w'=>e=.returned (.int .i64 2)/\Below W.heap.size W w'):
  Calls Tryz.prog 134 #[.agg #[.string s0,.string s1,.string s2,.string s3,.string s4]] w fun e w'=>e=.returned (.string s1)/\Below w.heap.size w w':=by
 have bB:=fun W=>eM W;unfold bn av at bB;simp only[List.getD_nil] at bB;go_enter Tryz.func134,Tryz.ntmps134;go_wp2
 go_region_with (first
  | (go_at_call 75;refine (bB _).mono ?_;rintro e w1 ⟨rfl,hb1⟩;obtain⟨hc1,C6⟩:=aR hb1;have hz1:=lq hb1))
 all_goals
  go_wp2_with (go_at_call 142;refine (hd _).mono ?_;rintro e w2 ⟨rfl,hb2⟩;obtain⟨hc2,hf2⟩:=aR hb2);go_ret;exact⟨rfl,aq (aq (aB ((Below.refl _ _).alloc (bA _) _)) hb1) hb2⟩
theorem name_3 (s0 s1 s2 s3 s4:ByteArray)(w:World)
  (heq:∀W,(Op.equalIn 10000 147 (.agg #[.string s0,.string s1,.string s2,.string s3,.string s4]) (.agg #[.string ⟨#[]⟩,.string ⟨#[]⟩,.string ⟨#[]⟩,.string ⟨#[]⟩,.string ⟨#[]⟩])).run Tryz.prog W=.ok false W)
  (hd:∀W,Calls Tryz.prog 142 #[.agg #[.string s0,.string s1,.string s2,.string s3,.string s4]] W fun e w'=>e=.returned (.int .i64 3)/\Below W.heap.size W w'):
  Calls Tryz.prog 134 #[.agg #[.string s0,.string s1,.string s2,.string s3,.string s4]] w fun e w'=>e=.returned (.string s2)/\Below w.heap.size w w':=by
 have bB:=fun W=>eM W;unfold bn av at bB;simp only[List.getD_nil] at bB;go_enter Tryz.func134,Tryz.ntmps134;go_wp2
 go_region_with (first
  | (go_at_call 75;refine (bB _).mono ?_;rintro e w1 ⟨rfl,hb1⟩;obtain⟨hc1,C6⟩:=aR hb1;have hz1:=lq hb1))
 all_goals
  go_wp2_with (go_at_call 142;refine (hd _).mono ?_;rintro e w2 ⟨rfl,hb2⟩;obtain⟨hc2,hf2⟩:=aR hb2);go_ret;exact⟨rfl,aq (aq (aB ((Below.refl _ _).alloc (bA _) _)) hb1) hb2⟩
theorem ZU (s0 s1 s2 s3 s4:ByteArray)(w:World)
  (heq:∀W,(Op.equalIn 10000 147 (.agg #[.string s0,.string s1,.string s2,.string s3,.string s4]) (.agg #[.string ⟨#[]⟩,.string ⟨#[]⟩,.string ⟨#[]⟩,.string ⟨#[]⟩,.string ⟨#[]⟩])).run Tryz.prog W=.ok false W)
  (hd:∀W,Calls Tryz.prog 142 #[.agg #[.string s0,.string s1,.string s2,.string s3,.string s4]] W fun e w'=>e=.returned (.int .i64 4)/\Below W.heap.size W w'):
  Calls Tryz.prog 134 #[.agg #[.string s0,.string s1,.string s2,.string s3,.string s4]] w fun e w'=>e=.returned (.string s3)/\Below w.heap.size w w':=by
 have bB:=fun W=>eM W;unfold bn av at bB;simp only[List.getD_nil] at bB;go_enter Tryz.func134,Tryz.ntmps134;go_wp2
 go_region_with (first
  | (go_at_call 75;refine (bB _).mono ?_;rintro e w1 ⟨rfl,hb1⟩;obtain⟨hc1,C6⟩:=aR hb1;have hz1:=lq hb1))
 all_goals
  go_wp2_with (go_at_call 142;refine (hd _).mono ?_;rintro e w2 ⟨rfl,hb2⟩;obtain⟨hc2,hf2⟩:=aR hb2);go_ret;exact⟨rfl,aq (aq (aB ((Below.refl _ _).alloc (bA _) _)) hb1) hb2⟩
theorem ZV (s0 s1 s2 s3 s4:ByteArray)(w:World)
  (heq:∀W,(Op.equalIn 10000 147 (.agg #[.string s0,.string s1,.string s2,.string s3,.string s4]) (.agg #[.string ⟨#[]⟩,.string ⟨#[]⟩,.string ⟨#[]⟩,.string ⟨#[]⟩,.string ⟨#[]⟩])).run Tryz.prog W=.ok false W)
  (hd:∀W,Calls Tryz.prog 142 #[.agg #[.string s0,.string s1,.string s2,.string s3,.string s4]] W fun e w'=>e=.returned (.int .i64 5)/\Below W.heap.size W w'):
  Calls Tryz.prog 134 #[.agg #[.string s0,.string s1,.string s2,.string s3,.string s4]] w fun e w'=>e=.returned (.string s4)/\Below w.heap.size w w':=by
 have bB:=fun W=>eM W;unfold bn av at bB;simp only[List.getD_nil] at bB;go_enter Tryz.func134,Tryz.ntmps134;go_wp2
 go_region_with (first
  | (go_at_call 75;refine (bB _).mono ?_;rintro e w1 ⟨rfl,hb1⟩;obtain⟨hc1,C6⟩:=aR hb1;have hz1:=lq hb1))
 all_goals
  go_wp2_with (go_at_call 142;refine (hd _).mono ?_;rintro e w2 ⟨rfl,hb2⟩;obtain⟨hc2,hf2⟩:=aR hb2);go_ret;exact⟨rfl,aq (aq (aB ((Below.refl _ _).alloc (bA _) _)) hb1) hb2⟩
theorem PB (l:List ByteArray)(h:l ≠ []):l.getD (l.length-1) ⟨#[]⟩=l.getLast h:=by
 rw[List.getLast_eq_getElem,List.getD_eq_getElem?_getD,kO (by have:=List.length_pos_iff.2 h;omega)];rfl
theorem mX (l:List ByteArray)(hg:Good l)(h:l ≠ [])(w:World):Calls Tryz.prog 134 #[bn l] w fun e w'=>e=.returned (.string (l.getLast h))/\Below w.heap.size w w':=by
 have heq:∀W,(Op.equalIn 10000 147 (bn l) (bn [])).run Tryz.prog W=.ok false W:=fun W=>by
  have:=fB hg Good.nil W
  rw[dY h] at this;exact this
 have hd:=fun W=>l8 l hg.val hg.len W;have h5:=hg.len;have hl:=List.length_pos_iff.2 h;rw[<-PB l h];generalize hn:l.length=k at hd h5 hl ⊢;unfold bn av at heq hd ⊢;simp only[List.getD_nil] at heq;rcases (show k=1\/k=2\/k=3\/k=4\/k=5 by omega) with rfl | rfl | rfl | rfl | rfl
 ·exact ZR _ _ _ _ _ w heq hd
 ·exact ZT _ _ _ _ _ w heq hd
 ·exact name_3 _ _ _ _ _ w heq hd
 ·exact ZU _ _ _ _ _ w heq hd
 ·exact ZV _ _ _ _ _ w heq hd
theorem iT (l:List ByteArray)(hg:Good l)(w:World):Calls Tryz.prog 132 #[bn l] w fun e w'=>e=.returned (bn l.dropLast)/\Below w.heap.size w w':=by
 have hd:=fun W=>l8 l hg.val hg.len W;have h5:=hg.len;by_cases hl:l = []
 ·subst hl
  have hh:=fun W=>PA [] W;exact zu _ _ _ _ _ _ _ _ _ _ 0 (-1) w (by decide) hd hh
 ·have hp:=List.length_pos_iff.2 hl
  have hh:=fun W=>IX l hg.len (l.length-1) (by omega) W;rw[<-List.dropLast_eq_take] at hh;refine zu _ _ _ _ _ _ _ _ _ _ (l.length:Int) ((l.length-1:Nat):Int) w ?_ hd hh;rcases (show l.length=1\/l.length=2\/l.length=3\/l.length=4\/l.length=5 by omega) with e | e | e | e | e <;> (rw[e];decide)
end Go.Proofs.YtlgidcmmgohagaaGreat
namespace Go.Proofs.YtlgidcmmgohagaaGreat
open Go.RowKit
set_option linter.unusedVariables false
end Go.Proofs.YtlgidcmmgohagaaGreat
namespace Go.Proofs.YtlgidcmmgohagaaGreat
open Go.RowKit
set_option linter.unusedVariables false
set_option maxRecDepth 100000 in
set_option maxHeartbeats 400000 in
theorem PC (f:Nat)(d:ByteArray)(w:World)(c1:w.cell? ⟨f,1,none⟩=some (.int .i64 0))(c2:w.cell? ⟨f,2,none⟩=some (.string d)):
  Calls Tryz.prog 181 #[.pointer (some ⟨f,0,none⟩)] w fun e w'=>e=.returned (.tuple #[.string d,.int .i64 0])/\w'=w:=by
 go_enter Tryz.func181,Tryz.ntmps181;go_wp2;go_ret2;exact⟨rfl,rfl⟩
set_option maxRecDepth 100000 in
set_option maxHeartbeats 400000 in
theorem PD (f b:Nat)(id er:Int)(d:ByteArray)(R:World->Prop)(w:World)(hf:f<w.heap.size)(c0:w.cell? ⟨f,0,none⟩=some (.pointer (some ⟨b,0,none⟩)))(c1:w.cell? ⟨f,1,none⟩=some (.int .i64 id))(hid:id≠0)
  (hg:Calls Tryz.prog 213 #[.pointer (some ⟨b,0,none⟩),.int .i64 id] w.drew fun e w'=>e=.returned (.tuple #[.string d,.int .i64 er])/\R w'):
  Calls Tryz.prog 181 #[.pointer (some ⟨f,0,none⟩)] w fun e w'=>e=.returned (.tuple #[.string d,.int .i64 er])/\R w':=by
 have ZW:(id == 0)=false:=by simpa using hid
 go_enter Tryz.func181,Tryz.ntmps181;go_wp2
 go_region_with (go_at_call 213;refine hg.mono ?_;rintro e w1 ⟨rfl,hR⟩)
 all_goals
  go_wp2;go_ret2;exact⟨rfl,hR⟩
end Go.Proofs.YtlgidcmmgohagaaGreat
namespace Go.Proofs.YtlgidcmmgohagaaGreat
open Go.RowKit
set_option linter.unusedVariables false
end Go.Proofs.YtlgidcmmgohagaaGreat
namespace Go.Proofs.YtlgidcmmgohagaaGreat
open Go.RowKit
set_option linter.unusedVariables false
end Go.Proofs.YtlgidcmmgohagaaGreat
namespace Go.Proofs.YtlgidcmmgohagaaGreat
open Go.RowKit
set_option linter.unusedVariables false
def Tm (w:World)(b:Nat)(vs:Nat->Option Nat):Prop:=b<w.heap.size/\(∀k,k<8->w.cell? ⟨b,1+k,none⟩=some (.pointer ((vs k).map fun x=>⟨x,0,none⟩)))/\∀o,w.frozen? ⟨b,o,none⟩=false
end Go.Proofs.YtlgidcmmgohagaaGreat
namespace Go.Proofs.YtlgidcmmgohagaaGreat
open Go.RowKit Go.Sort Go.Shelf
set_option linter.unusedVariables false
set_option maxRecDepth 100000
set_option maxHeartbeats 16000000
def bV (l:List ByteArray):ByteArray:=⟨(iq (l.map fO)).toArray⟩
theorem tE (s:ByteArray)(w:World):Calls Tryz.prog 215 #[.string s,.string ⟨#[47]⟩] w fun e w'=>e=.returned (.int .i64 (Lib.indexByte s.data.toList 47))/\w'=w:=by
 by_cases hs:s=⟨#[47]⟩
 ·subst hs
  go_enter Tryz.func215,Tryz.ntmps215;go_wp2;go_ret;exact⟨rfl,rfl⟩
 ·have hq:([47] == s.toList)=false:=by
   cases h:([47] == s.toList) with
   | false=>rfl
   | true=>
    have h2:[47]=s.toList:=by simpa using h
    rw[ByteArray.toList_eq] at h2;exact absurd (bytes_inj (a:=⟨#[47]⟩) h2).symm hs
  have hi:=Tryz.stringslite_IndexByte s 47 w;rw[show ((47:Int).toNat.toUInt8)=47 from rfl] at hi;generalize Lib.indexByte s.data.toList 47=k at hi ⊢;go_enter Tryz.func215,Tryz.ntmps215;go_wp2_with (go_at_call 216;refine hi.mono ?_;rintro e w1 ⟨rfl,rfl⟩);go_ret;exact⟨rfl,rfl⟩
theorem D8 (s:ByteArray)(w:World)(h:Lib.indexByte s.data.toList 47 = -1):Calls Tryz.prog 184 #[.string s,.string ⟨#[47]⟩] w fun e w'=>e=.returned (.tuple #[.string s,.string ⟨#[]⟩,.bool false])/\w'=w:=by
 have hi:=tE s w;rw[h] at hi;go_enter Tryz.func184,Tryz.ntmps184;go_wp2_with (go_at_call 215;refine hi.mono ?_;rintro e w1 ⟨rfl,rfl⟩);exact bodyPost_ret (v:=.tuple #[.string s,.string ⟨#[]⟩,.bool false]) (by simp[results,Tryz.results184,go_sem]) rfl ⟨rfl,rfl⟩
theorem PE (s:ByteArray)(k:Nat)(w:World)(h:Lib.indexByte s.data.toList 47=(k:Int))(hk:k<s.size)(hm:s.size<=1000):Calls Tryz.prog 184 #[.string s,.string ⟨#[47]⟩] w fun e w'=>e=.returned (.tuple #[.string (s.extract 0 k),.string (s.extract (k+1) s.size),.bool true])/\Below w.heap.size w w':=by
 have hi:=tE s w;rw[h] at hi;have hw:IntKind.i64.wrap ((k:Int)+1)=(k:Int)+1:=by rw[IntKind.wrap_i64] <;> omega
 have hk0:(0:Int)<=k:=by omega
 go_enter Tryz.func184,Tryz.ntmps184;go_wp2_with (go_at_call 215;refine hi.mono ?_;rintro e w1 ⟨rfl,rfl⟩)
 go_region
 all_goals
  go_wp2;exact bodyPost_ret (v:=.tuple #[.string (s.extract 0 k),.string (s.extract (k+1) s.size),.bool true]) (by simp[results,Tryz.results184,go_sem]) rfl ⟨rfl,aB (Below.refl _ _)⟩
theorem xq (s a b:ByteArray)(c:Bool)(w:World)(h:Calls Tryz.prog 184 #[.string s,.string ⟨#[47]⟩] w fun e w'=>e=.returned (.tuple #[.string a,.string b,.bool c])/\Below w.heap.size w w'):
  Calls Tryz.prog 128 #[.string s,.string ⟨#[47]⟩] w fun e w'=>e=.returned (.tuple #[.string a,.string b,.bool c])/\Below w.heap.size w w':=by
 go_enter Tryz.func128,Tryz.ntmps128;go_wp2_with (go_at_call 184;refine h.mono ?_;rintro e w1 ⟨rfl,hb⟩);exact bodyPost_ret (v:=.tuple #[.string a,.string b,.bool c]) (by simp[results,Tryz.results128,go_sem]) rfl ⟨rfl,hb⟩
theorem index_first:∀(a b:List UInt8),(∀c ∈ a,c≠47)->Lib.indexByte (a++47 :: b) 47=(a.length:Int)
 | [],b,_=>by simp[Lib.indexByte]
 | c :: r,b,h=>by
  have ih:=index_first r b (fun d hd=>h d (List.mem_cons_of_mem _ hd))
  have hc:c≠47:=h c (List.mem_cons_self ..)
  rw[List.cons_append,Lib.indexByte,ih,ay (by simpa using hc),ay (by simp)]
  simp
theorem rS:∀(a:List UInt8),(∀c ∈ a,c≠47)->Lib.indexByte a 47 = -1
 | [],_=>rfl
 | c :: r,h=>by
  have ih:=rS r (fun d hd=>h d (List.mem_cons_of_mem _ hd))
  have hc:c≠47:=h c (List.mem_cons_self ..)
  rw[Lib.indexByte,ih,ay (by simpa using hc)]
  rfl
theorem D9 {x:ByteArray}(h:aF x=true):∀c ∈ fO x,c≠47:=by
 have h2:Lib.indexByte (fO x) 47<0:=by
  unfold aF at h;simp only[Bool.and_eq_true,decide_eq_true_eq] at h;exact h.2
 have h3:=Lib.indexByte_ge (fO x) 47;intro c hc e;obtain⟨k,hk,j4⟩:=List.getElem_of_mem hc;exact Lib.indexByte_none (l:=fO x) (c:=47) (by omega) k (by rw[kO hk,j4,e])
theorem l9 (x:ByteArray){r:List ByteArray}(h:r ≠ []):fO (bV (x :: r))=fO x++47 :: fO (bV r):=by
 show (iq ((x :: r).map fO)).toArray.toList=_;rw[List.map_cons,oL _ (by simpa using h)];rfl
theorem qJ (x:ByteArray):bV [x]=x:=gy rfl
theorem ux:bV []=⟨#[]⟩:=rfl
theorem pR (s:ByteArray)(a b:Nat):fO (s.extract a b)=((fO s).take b).drop a:=by
 unfold fO;simp[ByteArray.data_extract,List.drop_take]
theorem WE (x:ByteArray)(r:List ByteArray)(hx:aF x=true)(hm:(bV (x :: r)).size<=1000)(w:World):
  Calls Tryz.prog 128 #[.string (bV (x :: r)),.string ⟨#[47]⟩] w fun e w'=>e=.returned (.tuple #[.string x,.string (bV r),.bool (!r.isEmpty)])/\Below w.heap.size w w':=by
 cases r with
 | nil=>
  rw[qJ,ux];exact xq _ _ _ _ w ((D8 x w (rS _ (D9 hx))).mono fun e w' ⟨h1,h2⟩=>⟨h1,by rw[h2];exact Below.refl _ _⟩)
 | cons y t=>
  have h1:=l9 x (r:=y :: t) (by simp);have h2:Lib.indexByte (fO (bV (x :: y :: t))) 47=((fO x).length:Int):=by rw[h1];exact index_first _ _ (D9 hx)
  have h3:(bV (x :: y :: t)).size=(fO x).length+1+(fO (bV (y :: t))).length:=by rw[<-cN,h1,List.length_append,List.length_cons];omega
  have h4:=PE (bV (x :: y :: t)) (fO x).length w h2 (by omega) hm;have e1:(bV (x :: y :: t)).extract 0 (fO x).length=x:=gy (by rw[pR,h1,List.take_left,List.drop_zero]);have e2:(bV (x :: y :: t)).extract ((fO x).length+1) (bV (x :: y :: t)).size=bV (y :: t):=gy (by
   rw[pR,List.take_of_length_le (by rw[cN];exact bA _),h1,show fO x++47 :: fO (bV (y :: t))=(fO x ++ [47])++fO (bV (y :: t)) by simp];exact List.drop_left' (by simp))
  rw[e1,e2] at h4;exact xq _ _ _ _ w h4
theorem yF:∀{l:List ByteArray},aI l->(bV l).size<=13*l.length
 | [],_=>by simp[ux,ByteArray.size]
 | [x],h=>by
  rw[qJ]
  have:=(eo (h x (by simp))).2
  simp;omega
 | x :: y :: t,h=>by
  have h1:=l9 x (r:=y :: t) (by simp)
  have h2:=(eo (h x (by simp))).2
  have h3:=yF (l:=y :: t) (fun z hz=>h z (by simp[hz]))
  have h4:(bV (x :: y :: t)).size=(fO x).length+1+(fO (bV (y :: t))).length:=by rw[<-cN,h1,List.length_append,List.length_cons];omega
  rw[h4,cN,cN]
  simp at h3 ⊢
  omega
end Go.Proofs.YtlgidcmmgohagaaGreat
