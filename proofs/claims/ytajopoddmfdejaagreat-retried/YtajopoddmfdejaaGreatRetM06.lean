/-
  What is proved here: paths as values: Name. what each small function of an opened file does to memory, said of its cells (Stored, Empty, set, Clear, Bytes, start, Seek). Bytes, Clear, start of an opened file, ..
-/
import Derived.Test.YtajopoddmfdejaaGreatRetM05
import Derived.Test.YtajopoddmfdejaaGreatRetM01
namespace Go.Proofs.YtajopoddmfdejaaGreat
open Go.RowKit Go.Sort Go.Shelf
set_option linter.unusedVariables false
set_option maxRecDepth 100000
set_option maxHeartbeats 16000000
theorem one_size {w w1:World}{o1:Obj}(h:Below (w.alloc o1).drew.heap.size (w.alloc o1).drew w1):w.heap.size<w1.heap.size:=by
 have h2:(w.alloc o1).heap.size<=w1.heap.size:=h.size
 rw[World.size_alloc] at h2
 omega
theorem name_1 (s0 s1 s2 s3 s4:ByteArray)(w:World)
  (heq:∀ W,(Op.equalIn 10000 104 (.agg #[.string s0,.string s1,.string s2,.string s3,.string s4]) (.agg #[.string ⟨#[]⟩,.string ⟨#[]⟩,.string ⟨#[]⟩,.string ⟨#[]⟩,.string ⟨#[]⟩])).run Tryz.prog W=.ok false W)
  (hd:∀ W,Calls Tryz.prog 83 #[.agg #[.string s0,.string s1,.string s2,.string s3,.string s4]] W fun e w'=>e=.returned (.int .i64 1)/\Below W.heap.size W w'):
  Calls Tryz.prog 78 #[.agg #[.string s0,.string s1,.string s2,.string s3,.string s4]] w fun e w'=>e=.returned (.string s0)/\Below w.heap.size w w':=by
 have hroot:=fun W=>root_any W
 unfold pathV pathA at hroot
 simp only[List.getD_nil] at hroot
 go_enter Tryz.func78,Tryz.ntmps78
 go_wp2
 go_region_with (first
  | (go_at_call 66;refine (hroot _).mono ?_;rintro e w1 ⟨rfl,hb1⟩;obtain⟨hc1,hf1⟩:=bcell hb1;have hz1:=one_size hb1))
 all_goals
  go_wp2_with (go_at_call 83;refine (hd _).mono ?_;rintro e w2 ⟨rfl,hb2⟩;obtain⟨hc2,hf2⟩:=bcell hb2)
  go_ret
  exact⟨rfl,below_via (below_via (below_drew ((Below.refl _ _).alloc (Nat.le_refl _) _)) hb1) hb2⟩
theorem name_2 (s0 s1 s2 s3 s4:ByteArray)(w:World)
  (heq:∀ W,(Op.equalIn 10000 104 (.agg #[.string s0,.string s1,.string s2,.string s3,.string s4]) (.agg #[.string ⟨#[]⟩,.string ⟨#[]⟩,.string ⟨#[]⟩,.string ⟨#[]⟩,.string ⟨#[]⟩])).run Tryz.prog W=.ok false W)
  (hd:∀ W,Calls Tryz.prog 83 #[.agg #[.string s0,.string s1,.string s2,.string s3,.string s4]] W fun e w'=>e=.returned (.int .i64 2)/\Below W.heap.size W w'):
  Calls Tryz.prog 78 #[.agg #[.string s0,.string s1,.string s2,.string s3,.string s4]] w fun e w'=>e=.returned (.string s1)/\Below w.heap.size w w':=by
 have hroot:=fun W=>root_any W
 unfold pathV pathA at hroot
 simp only[List.getD_nil] at hroot
 go_enter Tryz.func78,Tryz.ntmps78
 go_wp2
 go_region_with (first
  | (go_at_call 66;refine (hroot _).mono ?_;rintro e w1 ⟨rfl,hb1⟩;obtain⟨hc1,hf1⟩:=bcell hb1;have hz1:=one_size hb1))
 all_goals
  go_wp2_with (go_at_call 83;refine (hd _).mono ?_;rintro e w2 ⟨rfl,hb2⟩;obtain⟨hc2,hf2⟩:=bcell hb2)
  go_ret
  exact⟨rfl,below_via (below_via (below_drew ((Below.refl _ _).alloc (Nat.le_refl _) _)) hb1) hb2⟩
theorem name_3 (s0 s1 s2 s3 s4:ByteArray)(w:World)
  (heq:∀ W,(Op.equalIn 10000 104 (.agg #[.string s0,.string s1,.string s2,.string s3,.string s4]) (.agg #[.string ⟨#[]⟩,.string ⟨#[]⟩,.string ⟨#[]⟩,.string ⟨#[]⟩,.string ⟨#[]⟩])).run Tryz.prog W=.ok false W)
  (hd:∀ W,Calls Tryz.prog 83 #[.agg #[.string s0,.string s1,.string s2,.string s3,.string s4]] W fun e w'=>e=.returned (.int .i64 3)/\Below W.heap.size W w'):
  Calls Tryz.prog 78 #[.agg #[.string s0,.string s1,.string s2,.string s3,.string s4]] w fun e w'=>e=.returned (.string s2)/\Below w.heap.size w w':=by
 have hroot:=fun W=>root_any W
 unfold pathV pathA at hroot
 simp only[List.getD_nil] at hroot
 go_enter Tryz.func78,Tryz.ntmps78
 go_wp2
 go_region_with (first
  | (go_at_call 66;refine (hroot _).mono ?_;rintro e w1 ⟨rfl,hb1⟩;obtain⟨hc1,hf1⟩:=bcell hb1;have hz1:=one_size hb1))
 all_goals
  go_wp2_with (go_at_call 83;refine (hd _).mono ?_;rintro e w2 ⟨rfl,hb2⟩;obtain⟨hc2,hf2⟩:=bcell hb2)
  go_ret
  exact⟨rfl,below_via (below_via (below_drew ((Below.refl _ _).alloc (Nat.le_refl _) _)) hb1) hb2⟩
theorem name_4 (s0 s1 s2 s3 s4:ByteArray)(w:World)
  (heq:∀ W,(Op.equalIn 10000 104 (.agg #[.string s0,.string s1,.string s2,.string s3,.string s4]) (.agg #[.string ⟨#[]⟩,.string ⟨#[]⟩,.string ⟨#[]⟩,.string ⟨#[]⟩,.string ⟨#[]⟩])).run Tryz.prog W=.ok false W)
  (hd:∀ W,Calls Tryz.prog 83 #[.agg #[.string s0,.string s1,.string s2,.string s3,.string s4]] W fun e w'=>e=.returned (.int .i64 4)/\Below W.heap.size W w'):
  Calls Tryz.prog 78 #[.agg #[.string s0,.string s1,.string s2,.string s3,.string s4]] w fun e w'=>e=.returned (.string s3)/\Below w.heap.size w w':=by
 have hroot:=fun W=>root_any W
 unfold pathV pathA at hroot
 simp only[List.getD_nil] at hroot
 go_enter Tryz.func78,Tryz.ntmps78
 go_wp2
 go_region_with (first
  | (go_at_call 66;refine (hroot _).mono ?_;rintro e w1 ⟨rfl,hb1⟩;obtain⟨hc1,hf1⟩:=bcell hb1;have hz1:=one_size hb1))
 all_goals
  go_wp2_with (go_at_call 83;refine (hd _).mono ?_;rintro e w2 ⟨rfl,hb2⟩;obtain⟨hc2,hf2⟩:=bcell hb2)
  go_ret
  exact⟨rfl,below_via (below_via (below_drew ((Below.refl _ _).alloc (Nat.le_refl _) _)) hb1) hb2⟩
theorem name_5 (s0 s1 s2 s3 s4:ByteArray)(w:World)
  (heq:∀ W,(Op.equalIn 10000 104 (.agg #[.string s0,.string s1,.string s2,.string s3,.string s4]) (.agg #[.string ⟨#[]⟩,.string ⟨#[]⟩,.string ⟨#[]⟩,.string ⟨#[]⟩,.string ⟨#[]⟩])).run Tryz.prog W=.ok false W)
  (hd:∀ W,Calls Tryz.prog 83 #[.agg #[.string s0,.string s1,.string s2,.string s3,.string s4]] W fun e w'=>e=.returned (.int .i64 5)/\Below W.heap.size W w'):
  Calls Tryz.prog 78 #[.agg #[.string s0,.string s1,.string s2,.string s3,.string s4]] w fun e w'=>e=.returned (.string s4)/\Below w.heap.size w w':=by
 have hroot:=fun W=>root_any W
 unfold pathV pathA at hroot
 simp only[List.getD_nil] at hroot
 go_enter Tryz.func78,Tryz.ntmps78
 go_wp2
 go_region_with (first
  | (go_at_call 66;refine (hroot _).mono ?_;rintro e w1 ⟨rfl,hb1⟩;obtain⟨hc1,hf1⟩:=bcell hb1;have hz1:=one_size hb1))
 all_goals
  go_wp2_with (go_at_call 83;refine (hd _).mono ?_;rintro e w2 ⟨rfl,hb2⟩;obtain⟨hc2,hf2⟩:=bcell hb2)
  go_ret
  exact⟨rfl,below_via (below_via (below_drew ((Below.refl _ _).alloc (Nat.le_refl _) _)) hb1) hb2⟩
theorem getD_last (l:List ByteArray)(h:l ≠ []):l.getD (l.length-1) ⟨#[]⟩=l.getLast h:=by
 rw[List.getLast_eq_getElem,List.getD_eq_getElem?_getD,List.getElem?_eq_getElem (by have:=List.length_pos_iff.2 h;omega)];rfl
theorem name_any (l:List ByteArray)(hg:Good l)(h:l ≠ [])(w:World):Calls Tryz.prog 78 #[pathV l] w fun e w'=>e=.returned (.string (l.getLast h))/\Below w.heap.size w w':=by
 have heq:∀ W,(Op.equalIn 10000 104 (pathV l) (pathV [])).run Tryz.prog W=.ok false W:=fun W=>by
  have:=run_eqP hg Good.nil W
  rw[decide_eq_false h] at this;exact this
 have hd:=fun W=>depth_any l hg.val hg.len W
 have h5:=hg.len
 have hl:=List.length_pos_iff.2 h
 rw[<- getD_last l h]
 generalize hn:l.length=k at hd h5 hl ⊢
 unfold pathV pathA at heq hd ⊢
 simp only[List.getD_nil] at heq
 rcases (show k=1\/k=2\/k=3\/k=4\/k=5 by omega) with rfl | rfl | rfl | rfl | rfl
 ·exact name_1 _ _ _ _ _ w heq hd
 ·exact name_2 _ _ _ _ _ w heq hd
 ·exact name_3 _ _ _ _ _ w heq hd
 ·exact name_4 _ _ _ _ _ w heq hd
 ·exact name_5 _ _ _ _ _ w heq hd
theorem parent_any (l:List ByteArray)(hg:Good l)(w:World):Calls Tryz.prog 76 #[pathV l] w fun e w'=>e=.returned (pathV l.dropLast)/\Below w.heap.size w w':=by
 have hd:=fun W=>depth_any l hg.val hg.len W
 have h5:=hg.len
 by_cases hl:l = []
 ·subst hl
  have hh:=fun W=>head_less [] W
  exact parent_walk _ _ _ _ _ _ _ _ _ _ 0 (-1) w (by decide) hd hh
 ·have hp:=List.length_pos_iff.2 hl
  have hh:=fun W=>head_any l hg.len (l.length-1) (by omega) W
  rw[<- List.dropLast_eq_take] at hh
  refine parent_walk _ _ _ _ _ _ _ _ _ _ (l.length:Int) ((l.length-1:Nat):Int) w ?_ hd hh
  rcases (show l.length=1\/l.length=2\/l.length=3\/l.length=4\/l.length=5 by omega) with e | e | e | e | e <;> (rw[e];decide)
end Go.Proofs.YtajopoddmfdejaaGreat
namespace Go.Proofs.YtajopoddmfdejaaGreat
open Go.RowKit
set_option linter.unusedVariables false
set_option maxRecDepth 100000 in
set_option maxHeartbeats 400000 in
theorem stored_walk (b:Nat)(id:Int)(w:World):
  Calls Tryz.prog 155 #[.pointer (some ⟨b,0,none⟩),.int .i64 id] w fun e w'=>e=.returned (.pointer (some ⟨w.heap.size,0,none⟩))/\w'=w.alloc (.cells #[.pointer (some ⟨b,0,none⟩),.int .i64 id,.string ⟨#[]⟩] 238):=by
 go_enter Tryz.func155,Tryz.ntmps155
 go_wp2
 go_ret
 exact⟨rfl,rfl⟩
set_option maxRecDepth 100000 in
set_option maxHeartbeats 400000 in
theorem empty_walk (w:World):
  Calls Tryz.prog 154 #[] w fun e w'=>e=.returned (.pointer (some ⟨w.heap.size,0,none⟩))/\w'=w.alloc (.cells #[.pointer none,.int .i64 0,.string ⟨#[]⟩] 238):=by
 go_enter Tryz.func154,Tryz.ntmps154
 go_wp2
 go_ret
 exact⟨rfl,rfl⟩
set_option maxRecDepth 100000 in
set_option maxHeartbeats 400000 in
theorem set_walk (f:Nat)(v:Value)(d:ByteArray)(x y z:Value)(w:World)(hf:f<w.heap.size)(c0:w.cell? ⟨f,0,none⟩=some x)(c1:w.cell? ⟨f,1,none⟩=some y)(c2:w.cell? ⟨f,2,none⟩=some z)(f0:∀ o,w.frozen? ⟨f,o,none⟩=false)
  (hc:(convert 228 9 v).run Tryz.prog w=.ok (.string d) w):
  Calls Tryz.prog 156 #[.pointer (some ⟨f,0,none⟩),v] w fun e w'=>e=.returned (.tuple #[])/\w'=((w.setCell ⟨f,0,none⟩ (.pointer none)).setCell ⟨f,1,none⟩ (.int .i64 0)).setCell ⟨f,2,none⟩ (.string d):=by
 go_enter Tryz.func156,Tryz.ntmps156
 go_wp2
 go_end0
 exact⟨rfl,rfl⟩
set_option maxRecDepth 100000 in
set_option maxHeartbeats 400000 in
theorem start_app (o:Nat)(fg pl n:Int)(w:World)(c1:w.cell? ⟨o,1,none⟩=some (.int .i64 fg))(hand:(bits BinOp.and IntKind.i64 fg 32 != 0)=true):
  Calls Tryz.prog 134 #[.pointer (some ⟨o,0,none⟩),.int .i64 n] w fun e w'=>e=.returned (.int .i64 n)/\w'=w:=by
 go_enter Tryz.func134,Tryz.ntmps134
 go_wp2
 go_ret
 exact⟨rfl,rfl⟩
end Go.Proofs.YtajopoddmfdejaaGreat
namespace Go.Proofs.YtajopoddmfdejaaGreat
open Go.RowKit
set_option linter.unusedVariables false
set_option maxRecDepth 100000 in
set_option maxHeartbeats 400000 in
theorem bytes_own (f:Nat)(d:ByteArray)(w:World)(c1:w.cell? ⟨f,1,none⟩=some (.int .i64 0))(c2:w.cell? ⟨f,2,none⟩=some (.string d)):
  Calls Tryz.prog 135 #[.pointer (some ⟨f,0,none⟩)] w fun e w'=>e=.returned (.tuple #[.string d,.int .i64 0])/\w'=w:=by
 go_enter Tryz.func135,Tryz.ntmps135
 go_wp2
 go_ret2
 exact⟨rfl,rfl⟩
set_option maxRecDepth 100000 in
set_option maxHeartbeats 400000 in
theorem bytes_get (f b:Nat)(id er:Int)(d:ByteArray)(R:World->Prop)(w:World)(hf:f<w.heap.size)(c0:w.cell? ⟨f,0,none⟩=some (.pointer (some ⟨b,0,none⟩)))(c1:w.cell? ⟨f,1,none⟩=some (.int .i64 id))(hid:id≠0)
  (hg:Calls Tryz.prog 157 #[.pointer (some ⟨b,0,none⟩),.int .i64 id] w.drew fun e w'=>e=.returned (.tuple #[.string d,.int .i64 er])/\R w'):
  Calls Tryz.prog 135 #[.pointer (some ⟨f,0,none⟩)] w fun e w'=>e=.returned (.tuple #[.string d,.int .i64 er])/\R w':=by
 have hid':(id == 0)=false:=by simpa using hid
 go_enter Tryz.func135,Tryz.ntmps135
 go_wp2
 go_region_with (go_at_call 157;refine hg.mono ?_;rintro e w1 ⟨rfl,hR⟩)
 all_goals
  go_wp2
  go_ret2
  exact⟨rfl,hR⟩
set_option maxRecDepth 100000 in
set_option maxHeartbeats 400000 in
theorem clear_walk (f:Nat)(x y z:Value)(w:World)(hf:f<w.heap.size)(c0:w.cell? ⟨f,0,none⟩=some x)(c1:w.cell? ⟨f,1,none⟩=some y)(c2:w.cell? ⟨f,2,none⟩=some z)(f0:∀ o,w.frozen? ⟨f,o,none⟩=false)
  (hc:(convert 228 9 (.slice none 0 0)).run Tryz.prog w=.ok (.string ⟨#[]⟩) w):
  Calls Tryz.prog 133 #[.pointer (some ⟨f,0,none⟩)] w fun e w'=>e=.returned (.tuple #[])/\w'=((w.setCell ⟨f,0,none⟩ (.pointer none)).setCell ⟨f,1,none⟩ (.int .i64 0)).setCell ⟨f,2,none⟩ (.string ⟨#[]⟩):=by
 have hs:=set_walk f (.slice none 0 0) ⟨#[]⟩ x y z w hf c0 c1 c2 f0 hc
 go_enter Tryz.func133,Tryz.ntmps133
 go_wp2_with (go_at_call 156;refine hs.mono ?_;rintro e w1 ⟨rfl,rfl⟩)
 go_end0
 exact⟨rfl,rfl⟩
set_option maxRecDepth 100000 in
set_option maxHeartbeats 400000 in
theorem start_at (o:Nat)(fg pl n:Int)(w:World)(c1:w.cell? ⟨o,1,none⟩=some (.int .i64 fg))(c2:w.cell? ⟨o,2,none⟩=some (.int .i64 pl))(hand:(bits BinOp.and IntKind.i64 fg 32 != 0)=false):
  Calls Tryz.prog 134 #[.pointer (some ⟨o,0,none⟩),.int .i64 n] w fun e w'=>e=.returned (.int .i64 pl)/\w'=w:=by
 go_enter Tryz.func134,Tryz.ntmps134
 go_wp2
 go_ret
 exact⟨rfl,rfl⟩
set_option maxRecDepth 100000 in
set_option maxHeartbeats 400000 in
theorem read_ok (o f:Nat)(fg pl n:Int)(d:ByteArray)(R:World->Prop)(w:World)(c0:w.cell? ⟨o,0,none⟩=some (.pointer (some ⟨f,0,none⟩)))(c1:w.cell? ⟨o,1,none⟩=some (.int .i64 fg))(c2:w.cell? ⟨o,2,none⟩=some (.int .i64 pl))
  (hfg:(bits BinOp.and IntKind.i64 fg 1 == 0)=false)(hn:1<=n)(h0:0<=pl)(h1:pl<256)(hd:d.size<=256)
  (hg:Calls Tryz.prog 135 #[.pointer (some ⟨f,0,none⟩)] w fun e w'=>e=.returned (.tuple #[.string d,.int .i64 0])/\R w')
  (hR:∀ w1,R w1->o<w1.heap.size/\w1.cell? ⟨o,2,none⟩=some (.int .i64 pl)/\w1.frozen? ⟨o,2,none⟩=false):
  Calls Tryz.prog 107 #[.pointer (some ⟨o,0,none⟩),.int .i64 n] w fun e w'=>e=.returned (.tuple #[.string (d.extract (min pl.toNat d.size) (min (min pl.toNat d.size+(min n (256-pl)).toNat) d.size)),.int .i64 0])/\∃ w1,R w1/\w'=w1.setCell ⟨o,2,none⟩ (.int .i64 (pl+(d.extract (min pl.toNat d.size) (min (min pl.toNat d.size+(min n (256-pl)).toNat) d.size)).size)):=by
 have hnn:¬ n<0:=by omega
 obtain⟨m,hm⟩:∃ m,m=min n (256-pl):=⟨_,rfl⟩
 have hm0:(m == 0)=false:=by simp;omega
 have hwm:IntKind.i64.wrap (256-pl)=256-pl:=by rw[IntKind.wrap_i64] <;> omega
 go_enter Tryz.func107,Tryz.ntmps107
 go_wp2_with (go_at_call 135;refine hg.mono ?_;rintro e w1 ⟨rfl,hR1⟩;obtain⟨k0,k2,kf⟩:=hR w1 hR1)
 go_ret2
 have e1:(min pl (d.size:Int)).toNat=min pl.toNat d.size:=by omega
 have e2:(min (min pl (d.size:Int)+min n (256-pl)) (d.size:Int)).toNat=min (min pl.toNat d.size+(min n (256-pl)).toNat) d.size:=by omega
 have e3:(min (min (min pl (d.size:Int)+min n (256-pl)) (d.size:Int)).toNat d.size-(min pl (d.size:Int)).toNat:Nat)=(d.extract (min pl.toNat d.size) (min (min pl.toNat d.size+(min n (256-pl)).toNat) d.size)).size:=by
  rw[ByteArray.size_extract,<- e2,<- e1]
 rw[e3,e1,e2]
 exact⟨rfl,w1,hR1,rfl⟩
end Go.Proofs.YtajopoddmfdejaaGreat
