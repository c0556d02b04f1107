/-
  What is proved here: whether there is room for what is moved, whatever stands there (room), and what follows if there is.
-/
import Derived.Test.YtajopoddmfdejaaGreatComtdM26
namespace Go.Proofs.YtajopoddmfdejaaGreat
open Go.RowKit Go.Sort Go.Shelf
set_option linter.unusedVariables false
theorem yields_next {objs : List Ob} {fs : FS} {e c : LT} (h : (yieldsG objs fs e c).2 = 0) : fs.Next (yieldsG objs fs e c).1 /\ (kids objs e = none \/ kids objs e = some []) := by
 unfold yieldsG at h ⊢
 by_cases h1 : e.kind = 2 /\ c.kind = 1
 ·rw [if_pos h1] at h; cases h
 ·rw [if_neg h1] at h ⊢
  by_cases h2 : e.kind = 1 /\ c.kind = 2
  ·rw [if_pos h2] at h; cases h
  ·rw [if_neg h2] at h ⊢
   exact vacant_next h
theorem room_next {objs : List Ob} {fs : FS} {b : Bool} {ks : Kids} {n : ByteArray} {c : LT} (h : (roomG objs fs b ks n c).2 = 0) : fs.Next (roomG objs fs b ks n c).1 /\ (∀ e, pickK ks n = some e -> kids objs e = none \/ kids objs e = some []) /\ (pickK ks n = none -> ks.length < 16 \/ b = true) := by
 unfold roomG at h ⊢
 cases hp : pickK ks n with
 | some e =>
  rw [hp] at h
  simp only at h ⊢
  obtain ⟨h1, h2⟩ := yields_next h
  exact ⟨h1, fun e' he => by cases he; exact h2, fun hn => by cases hn⟩
 | none =>
  rw [hp] at h
  simp only at h ⊢
  by_cases h16 : 16 <= ks.length /\ b = false
  ·rw [if_pos h16] at h; cases h
  ·rw [if_neg h16]
   refine ⟨FS.Next.refl _, fun e he => (by cases he), fun _ => ?_⟩
   by_cases hl : ks.length < 16
   ·exact .inl hl
   ·right
    cases b with
    | true => rfl
    | false => exact absurd ⟨by omega, rfl⟩ h16
section
variable {s i p : Nat} {B : WB} {objs : List Ob}
theorem room_any {tg : Tags} {w : World} {g : WG} {lim : Nat} {t c d : LT} (h : WInv tg w s i p B objs g lim) (hl : lim + 10 < 1099511627776) (hF : Flat objs t g.ft) (hok : LTok objs 5 t) {rf rt : List ByteArray} {nf nt : ByteArray} (hgf : Good (rf.reverse ++ [nf])) (hgq : Good (rt.reverse ++ [nt])) {ks : Kids} (ha : t.at objs rt.reverse = some d) (hk : kids objs d = some ks) {v : Value} (hs : Slc tg w i v (ks.map entOf)) (nx : ByteArray) :
  Calls Tryz.prog 82 #[.pointer (some ⟨B.bt, 0, none⟩), .agg (pathA (rf.reverse ++ [nf])), .agg (pathA (rt.reverse ++ [nt])), .agg #[.string nx, .int .i64 c.kind, .int .i64 c.id], v] w fun en w' => en = .returned (.int .i64 (roomG objs g.fs (decide (rf = rt)) ks nt c).2) /\ DidF s i p B objs tg w w' { g with fs := (roomG objs g.fs (decide (rf = rt)) ks nt c).1 } (lim + 1) := by
 unfold roomG
 cases hp : pickK ks nt with
 | some e => exact room_there h hl hF hok hgf hgq ha hk hp hs nx
 | none =>
  have hc : (16 <= ks.length /\ decide (rf = rt) = false) ↔ (16 <= ks.length /\ rf.reverse ≠ rt.reverse) := by
   simp [List.reverse_inj]
  refine (room_free h hF hok hgf hgq ha hk hp hs nx c.kind c.id).mono fun en w' ⟨h1, h2⟩ => ?_
  simp only [hc]
  by_cases h16 : 16 <= ks.length /\ rf.reverse ≠ rt.reverse
  ·rw [if_pos h16] at h1 ⊢; exact ⟨h1, h2.mono (Nat.le_succ _)⟩
  ·rw [if_neg h16] at h1 ⊢; exact ⟨h1, h2.mono (Nat.le_succ _)⟩
end
def cell5 (w' : World) (a : Nat) (p0 p1 p2 p3 p4 : ByteArray) : Prop := w'.cell? ⟨a, 0, none⟩ = some (.string p0) /\ w'.cell? ⟨a, 1, none⟩ = some (.string p1) /\ w'.cell? ⟨a, 2, none⟩ = some (.string p2) /\ w'.cell? ⟨a, 3, none⟩ = some (.string p3) /\ w'.cell? ⟨a, 4, none⟩ = some (.string p4)
theorem cell5.keep {w w' : World} {a : Nat} {p0 p1 p2 p3 p4 : ByteArray} (h : cell5 w a p0 p1 p2 p3 p4) (ha : ∀ o, w'.cell? ⟨a, o, none⟩ = w.cell? ⟨a, o, none⟩) : cell5 w' a p0 p1 p2 p3 p4 := by
 unfold cell5 at h ⊢
 simp only [ha]
 exact h
end Go.Proofs.YtajopoddmfdejaaGreat
