/-
  What is proved here: of paths: Below.
-/
import Derived.Test.YtajopoddmfdejaaGreatToldM22
namespace Go.Proofs.YtajopoddmfdejaaGreat
open Go.RowKit Go.Sort Go.Shelf
set_option linter.unusedVariables false
set_option maxRecDepth 100000
set_option maxHeartbeats 16000000
theorem below_eq (s0 s1 s2 s3 s4:ByteArray)(w:World)
  (heq:∀ W,(Op.equalIn 10000 104 (.agg #[.string s0,.string s1,.string s2,.string s3,.string s4]) (.agg #[.string s0,.string s1,.string s2,.string s3,.string s4])).run Tryz.prog W=.ok true W):
  Calls Tryz.prog 81 #[.agg #[.string s0,.string s1,.string s2,.string s3,.string s4],.agg #[.string s0,.string s1,.string s2,.string s3,.string s4]] w fun e w'=>e=.returned (.bool false)/\Below w.heap.size w w':=by
 go_enter Tryz.func81,Tryz.ntmps81
 go_wp2
 go_region
 all_goals
  go_wp2
  go_ret
  exact⟨rfl,below_drew (((Below.refl _ _).alloc (Nat.le_refl _) _).alloc (by simp) _)⟩
theorem below_ne (s0 s1 s2 s3 s4 q0 q1 q2 q3 q4 r0 r1 r2 r3 r4:ByteArray)(d:Int)(b:Bool)(w:World)
  (heq:∀ W,(Op.equalIn 10000 104 (.agg #[.string s0,.string s1,.string s2,.string s3,.string s4]) (.agg #[.string q0,.string q1,.string q2,.string q3,.string q4])).run Tryz.prog W=.ok false W)
  (hd:∀ W,Calls Tryz.prog 83 #[.agg #[.string q0,.string q1,.string q2,.string q3,.string q4]] W fun e w'=>e=.returned (.int .i64 d)/\Below W.heap.size W w')
  (hh:∀ W,Calls Tryz.prog 119 #[.agg #[.string s0,.string s1,.string s2,.string s3,.string s4],.int .i64 d] W fun e w'=>e=.returned (.agg #[.string r0,.string r1,.string r2,.string r3,.string r4])/\Below W.heap.size W w')
  (heq2:∀ W,(Op.equalIn 10000 104 (.agg #[.string r0,.string r1,.string r2,.string r3,.string r4]) (.agg #[.string q0,.string q1,.string q2,.string q3,.string q4])).run Tryz.prog W=.ok b W):
  Calls Tryz.prog 81 #[.agg #[.string s0,.string s1,.string s2,.string s3,.string s4],.agg #[.string q0,.string q1,.string q2,.string q3,.string q4]] w fun e w'=>e=.returned (.bool b)/\Below w.heap.size w w':=by
 go_enter Tryz.func81,Tryz.ntmps81
 go_wp2
 go_region_with (first
  | (go_at_call 83;refine (hd _).mono ?_;rintro e w1 ⟨rfl,hb1⟩;obtain⟨hc1,hf1⟩:=bcell hb1;obtain⟨hz0,hz1⟩:=two_size hb1;have b1:Below w.heap.size w w1:=below_via (below_drew (((Below.refl _ _).alloc (Nat.le_refl _) _).alloc (by simp) _)) hb1)
  | (go_at_call 119;refine (hh _).mono ?_;rintro e w2 ⟨rfl,hb2⟩;obtain⟨hc2,hf2⟩:=bcell hb2;have b2:=below_via b1 hb2))
 all_goals
  go_wp2
  go_ret
  exact⟨rfl,b2⟩
theorem below_any (l m:List ByteArray)(hl:Good l)(hm:Good m)(w:World):Calls Tryz.prog 81 #[pathV l,pathV m] w fun e w'=>e=.returned (.bool (decide (m <+: l/\l≠m)))/\Below w.heap.size w w':=by
 by_cases h:l=m
 ·subst h
  rw[decide_eq_false (fun h=>h.2 rfl)]
  have heq:∀ W,(Op.equalIn 10000 104 (pathV l) (pathV l)).run Tryz.prog W=.ok true W:=fun W=>by
   have:=run_eqP hl hl W
   rw[decide_eq_true rfl] at this;exact this
  exact below_eq _ _ _ _ _ w heq
 ·have heq:∀ W,(Op.equalIn 10000 104 (pathV l) (pathV m)).run Tryz.prog W=.ok false W:=fun W=>by
   have:=run_eqP hl hm W
   rw[decide_eq_false h] at this;exact this
  have hd:=fun W=>depth_any m hm.val hm.len W
  have hh:=fun W=>head_any l hl.len m.length hm.len W
  have heq2:=fun W=>run_eqP (hl.take m.length) hm W
  have hb:decide (m <+: l/\l≠m)=decide (l.take m.length=m):=by
   refine decide_eq_decide.2 ⟨fun h=>(List.prefix_iff_eq_take.1 h.1).symm,fun e=>⟨?_,h⟩⟩
   rw[<- e];exact List.take_prefix _ _
  rw[hb]
  exact below_ne _ _ _ _ _ _ _ _ _ _ _ _ _ _ _ _ _ w heq hd hh heq2
end Go.Proofs.YtajopoddmfdejaaGreat
