/-
  What is proved here: the law's step PutDir; any step on the store.
-/
import Derived.Test.YtogeefmegegnnaaGreatLawP
namespace Go.Proofs.YtogeefmegegnnaaGreat
open Go.RowKit Go.Sort Go.Shelf
set_option linter.unusedVariables false
variable {ft : PTail}

theorem Listed.below {w w' : World} {a : Option Addr} {m : Nat} {es : List Ent} (h : Listed w a m es) (hb : Below w.heap.size w w') : Listed w' a m es :=
  ⟨h.1, fun hp => by
    obtain ⟨b, off, ha, hbl, hc⟩ := h.2 hp
    exact ⟨b, off, ha, Nat.lt_of_lt_of_le hbl hb.size, fun j u hu => (hb.cell (p := ⟨b, off + j, none⟩) hbl).trans (hc j u hu)⟩⟩

section
variable {FL FR FS FH : Nat → Prop} {w : World} {W s r : Nat} {objs ros : List Ob} {c5 c6 c7 c8 c9 c10 c11 : Value} {ea : Option Addr} {ec q : Nat} {hs : List HeldL}

theorem stepped_after {w1 w' : World} (hb : Below w.heap.size w w1) (h : Stepped ft FL FR FS w1 w' W s r c5 c6 c7 c8 c9 c10 c11) : Stepped ft FL FR FS w w' W s r c5 c6 c7 c8 c9 c10 c11 := by
  obtain ⟨FL', FR', FS', objs', ros', h3, hs, hk⟩ := h
  exact ⟨FL', FR', FS', objs', ros', h3, fun k hk' => (hs k hk').imp id (fun h => Nat.le_trans hb.size h), Keeps.after hk hb⟩

set_option maxRecDepth 100000 in
set_option maxHeartbeats 4000000 in
theorem store_putDir (h : W3 ft FL FR FS w W s r objs ros c5 c6 c7 c8 c9 c10 c11) (a1 a2 a3 : Int) (S T : ByteArray) (la : Option Addr) (lm lc : Nat) (es : List Ent) (hl : Listed w la lm es) (hbig : lm ≤ 2097152) (hsz : ∀ e ∈ es, e.1.size ≤ maxLen) :
    Calls Tryz.prog 45 #[.pointer (some ⟨W, 0, none⟩), .agg #[.int .i64 2, .int .i64 a1, .int .i64 a2, .int .i64 a3, .string S, .string T, .slice la lm lc]] w fun e w' => e = .returned (.bool true) ∧ Stepped ft FL FR FS w w' W s r c5 c6 c7 c8 c9 c10 c11 := by
  have b1 : ∀ B, Below w.heap.size w (w.alloc B) := fun B => (Below.refl _ _).alloc (Nat.le_refl _) _
  have hput := fun B => wputDir (h.below (b1 B)) 2 a1 a2 a3 S T la lm lc es (hl.below (b1 B)) hbig hsz
  have HP : Hid _ := hput
  clear hput h hl hsz
  go_enter Tryz.func45, Tryz.ntmps45
  go_wp2_with (go_at_call 77; refine Calls.mono (HP.out _) ?_; rintro _ w4 ⟨rfl, hk4⟩; have HK5 : Hid _ := stepped_after (b1 _) hk4; clear hk4)
  go_ret
  exact ⟨rfl, HK5.out⟩

/-- A step's argument. -/
structure Step where
  kind : Int
  a1 : Int
  a2 : Int
  a3 : Int
  S : ByteArray
  T : ByteArray
  la : Option Addr
  lm : Nat
  lc : Nat
  es : List Ent

def Step.val (o : Step) : Value := .agg #[.int .i64 o.kind, .int .i64 o.a1, .int .i64 o.a2, .int .i64 o.a3, .string o.S, .string o.T, .slice o.la o.lm o.lc]

structure Step.Fits (o : Step) (w : World) : Prop where
  S : o.S.size ≤ maxLen
  list : Listed w o.la o.lm o.es
  many : o.lm ≤ 2097152
  names : ∀ e ∈ o.es, e.1.size ≤ maxLen

/-- A step of the kinds 1 to 5. -/
theorem store_step (h : W3 ft FL FR FS w W s r objs ros c5 c6 c7 c8 (.slice ea (4 * q) ec) c10 c11) (hh : Held FH w ea ec q hs) (hap : ∀ k, FH k → ¬ F3 FL FR FS k) (hq : 4 * q ≤ 1000000000) (o : Step) (ho : o.Fits w) (hk : 1 ≤ o.kind ∧ o.kind ≤ 5) :
    Calls Tryz.prog 45 #[.pointer (some ⟨W, 0, none⟩), o.val] w fun e w' => e = .returned (.bool true) ∧ ∃ q', q' ≤ q + 1 ∧ Played ft FL FR FS FH w w' W s r q' c5 c6 c7 c8 c10 c11 := by
  obtain ⟨kind, a1, a2, a3, S, T, la, lm, lc, es⟩ := o
  have of : ∀ {w'}, Stepped ft FL FR FS w w' W s r c5 c6 c7 c8 (.slice ea (4 * q) ec) c10 c11 → ∃ q', q' ≤ q + 1 ∧ Played ft FL FR FS FH w w' W s r q' c5 c6 c7 c8 c10 c11 := fun hs => ⟨q, Nat.le_succ _, played_of_stepped h hh hap hs⟩
  have hc : kind = 1 ∨ kind = 2 ∨ kind = 3 ∨ kind = 4 ∨ kind = 5 := by simp only at hk; omega
  rcases hc with rfl | rfl | rfl | rfl | rfl
  · exact (store_putFile h a1 a2 a3 S T la lm lc ho.S).mono fun e w' ⟨he, hs⟩ => ⟨he, of hs⟩
  · exact (store_putDir h a1 a2 a3 S T la lm lc es ho.list ho.many ho.names).mono fun e w' ⟨he, hs⟩ => ⟨he, of hs⟩
  · exact (store_getFile h a1 a2 a3 S T la lm lc).mono fun e w' ⟨he, hs⟩ => ⟨he, of hs⟩
  · exact (store_getDir h hh hap hq a1 a2 a3 S T la lm lc).mono fun e w' ⟨he, hs⟩ => ⟨he, q + 1, Nat.le_refl _, hs⟩
  · exact (store_objects h a1 a2 a3 S T la lm lc).mono fun e w' ⟨he, hs⟩ => ⟨he, of hs⟩
end
end Go.Proofs.YtogeefmegegnnaaGreat
