/-
  What is proved here: PutFile of the objects' pool, at every pool and every text: refused when too great, the object that is there, refused when there is no room, a new one. names.Valid says of every text whether it is a name ('validB'). plain facts on lists of bytes and of entries: the order of names, cells of entries one behind the other, and what a sort leaves. plain facts for 'arrange': a sorted list without two neighbours of one name is rising; what 'arrange' answers, as a statement.
-/
import Derived.Test.YtehpnebekgahnaaGreatAskM01
import Derived.Shelf.SlSortCmp.WholeK
import Derived.Sort.OwnSorted
import Derived.Deep.QuietTactic
import Derived.BigQuiet
namespace Go.Proofs.YtehpnebekgahnaaGreat
open Go.RowKit
set_option linter.unusedVariables false

/-- What the pool holds of fetches: the list of what was fetched, and whether the next one fails. -/
structure PTail where
  a : Option Addr
  n : Nat
  c : Nat
  b : Bool
def pt0 : PTail := ⟨none, 0, 0, false⟩
variable {ft : PTail}

theorem law9 : Maps.Keyed Tryz.prog 9 := Maps.string_keyed Tryz.underlying9
theorem zero25 (w : World) : (zeroValue 56).run Tryz.prog w = .ok (.int .i64 0) w := by kernel_rfl

/-- The pool's block. -/
def PoolAt (ft : PTail) (w : World) (p : Nat) (a : Option Addr) (n cap bf bd : Nat) : Prop := w.heap[p]? = some (.cells #[.slice a n cap, .map (some bf), .map (some bd), .slice ft.a ft.n ft.c, .bool ft.b] 137 (0, 0))

theorem PoolAt.c0 {w : World} {p : Nat} {a : Option Addr} {n cap bf bd : Nat} (h : PoolAt ft w p a n cap bf bd) : w.cell? ⟨p, 0, none⟩ = some (.slice a n cap) := by unfold PoolAt at h; simp [World.cell?, h]
theorem PoolAt.c1 {w : World} {p : Nat} {a : Option Addr} {n cap bf bd : Nat} (h : PoolAt ft w p a n cap bf bd) : w.cell? ⟨p, 1, none⟩ = some (.map (some bf)) := by unfold PoolAt at h; simp [World.cell?, h]
theorem PoolAt.c2 {w : World} {p : Nat} {a : Option Addr} {n cap bf bd : Nat} (h : PoolAt ft w p a n cap bf bd) : w.cell? ⟨p, 2, none⟩ = some (.map (some bd)) := by unfold PoolAt at h; simp [World.cell?, h]
theorem PoolAt.f0 {w : World} {p : Nat} {a : Option Addr} {n cap bf bd : Nat} (h : PoolAt ft w p a n cap bf bd) : w.frozen? ⟨p, 0, none⟩ = false := by unfold PoolAt at h; simp [World.frozen?, h]
theorem PoolAt.lt {w : World} {p : Nat} {a : Option Addr} {n cap bf bd : Nat} (h : PoolAt ft w p a n cap bf bd) : p < w.heap.size := (Array.getElem?_eq_some_iff.1 h).1
theorem PoolAt.below {w w' : World} {p : Nat} {a : Option Addr} {n cap bf bd : Nat} (h : PoolAt ft w p a n cap bf bd) (hb : Below w.heap.size w w') : PoolAt ft w' p a n cap bf bd := by
  unfold PoolAt at h ⊢
  rw [hb.block p (Array.getElem?_eq_some_iff.1 h).1, h]

set_option maxRecDepth 100000 in
set_option maxHeartbeats 400000 in
theorem putFile_big (p : Nat) (d : ByteArray) (w : World) (hd : 256 < d.size) (hm : d.size ≤ maxLen) :
    Calls Tryz.prog 44 #[.pointer (some ⟨p, 0, none⟩), .string d] w fun e w' => e = .returned (.tuple #[.int .i64 0, .int .i64 11]) ∧ w' = w := by
  unfold maxLen at hm
  go_enter Tryz.func44, Tryz.ntmps44
  go_wp2
  go_ret2
  exact ⟨rfl, rfl⟩

set_option maxRecDepth 100000 in
set_option maxHeartbeats 400000 in
theorem putFile_hit (p : Nat) (a : Option Addr) (n cap bf bd : Nat) (Df : DataW Unit) (d : ByteArray) (c : Int) (w : World) (hp : PoolAt ft w p a n cap bf bd) (hd : d.size ≤ 256)
    (hf : w.ownsMap Tryz.prog 9 (plainElem Tryz.prog 56) bf n Df) (hh : Maps.has Df (.string d.data.toList) = true) (hc : Df.atKey (.string d.data.toList) (.lit (.int .i64 0)) = .lit (.int .i64 c)) :
    Calls Tryz.prog 44 #[.pointer (some ⟨p, 0, none⟩), .string d] w fun e w' => e = .returned (.tuple #[.int .i64 c, .int .i64 0]) ∧ w' = w := by
  have k1 := hp.c1
  have hkey := WideMaps.keyOf_string_mk (P := Tryz.prog) Tryz.underlying9 (s := d) (by unfold maxLen; omega)
  have HC : Hid (Df.atKey (.string d.data.toList) (.lit (.int .i64 0)) = .lit (.int .i64 c)) := hc
  have HH : Hid (Maps.has Df (.string d.data.toList) = true) := hh
  clear hc hh
  go_enter Tryz.func44, Tryz.ntmps44
  go_wp2_with (first
    | (at_lookup; refine wpList_lookup_own_ok_int _ rfl _ _ 134 rfl 9 56 .i64 law9 Tryz.underlying134 Tryz.underlying56 (zero25 _) bf n Df rfl hf _ _ rfl hkey ?_; intro c' hat hwc; rw [HH.out]; obtain rfl : c' = c := by (have := hat.symm.trans HC.out; simpa using this))
    | go_in)
  go_ret2
  exact ⟨rfl, rfl⟩

set_option maxRecDepth 1000000 in
set_option maxHeartbeats 400000 in
theorem putFile_full (p : Nat) (a : Option Addr) (n cap bf bd : Nat) (Df : DataW Unit) (d : ByteArray) (w : World) (hp : PoolAt ft w p a n cap bf bd) (hd : d.size ≤ 256) (hn : 400 ≤ n)
    (hf : w.ownsMap Tryz.prog 9 (plainElem Tryz.prog 56) bf n Df) (hh : Maps.has Df (.string d.data.toList) = false) :
    Calls Tryz.prog 44 #[.pointer (some ⟨p, 0, none⟩), .string d] w fun e w' => e = .returned (.tuple #[.int .i64 0, .int .i64 11]) ∧ Below w.heap.size w w' := by
  have k1 := hp.c1
  have hkey := WideMaps.keyOf_string_mk (P := Tryz.prog) Tryz.underlying9 (s := d) (by unfold maxLen; omega)
  have HH : Hid (Maps.has Df (.string d.data.toList) = false) := hh
  have hcl := clone_any d w (by omega)
  have hadd := fun (W : World) (hW : PoolAt ft W p a n cap bf bd) => add_full p 1 0 d a n cap none 0 0 W hW.lt hn hW.c0
  clear hh
  go_enter Tryz.func44, Tryz.ntmps44
  go_wp2_with (first
    | (at_lookup; refine wpList_lookup_own_ok_int _ rfl _ _ 134 rfl 9 56 .i64 law9 Tryz.underlying134 Tryz.underlying56 (zero25 _) bf n Df rfl hf _ _ rfl hkey ?_; intro c' hat hwc; rw [HH.out])
    | (go_at_call 52; refine hcl.mono ?_; rintro e w1 ⟨rfl, hb⟩; have hp1 := hp.below hb)
    | (go_at_call 79; refine (hadd _ hp1).mono ?_; rintro e w2 ⟨rfl, rfl⟩)
    | go_in)
  go_ret2
  exact ⟨rfl, hb.alloc hb.size _⟩


theorem ownsMap_keep {H : Type} {P : Program} {k : TypeId} {R : Value → Option (DataW H × List MemPlace)} {w w' : World} {b n : Nat} {D : DataW H} (h : w.ownsMap P k R b n D) (e : w'.heap[b]? = w.heap[b]?) : w'.ownsMap P k R b n D := by
  obtain ⟨es, clock, hb, r⟩ := h
  exact ⟨es, clock, e.trans hb, r⟩

theorem ownsMap_isMap {H : Type} {P : Program} {k : TypeId} {R : Value → Option (DataW H × List MemPlace)} {w : World} {b n : Nat} {D : DataW H} (h : w.ownsMap P k R b n D) : ∃ es clock, w.heap[b]? = some (.map es clock) := by
  obtain ⟨es, clock, hb, r⟩ := h
  exact ⟨es, clock, hb⟩

theorem owns_ne_map {w : World} {base : Nat} {e : TypeId} {size n : Nat} {v : Value} {xs : List Value} (h : w.ownsRow base e size v n xs) {b : Nat} {es : Array MapEntry} {clock : Nat} (hb : w.heap[b]? = some (.map es clock)) : some b ≠ v.ownBlock := by
  rcases h.2 with ⟨rfl, _⟩ | ⟨g, cap, cur, rfl, _, hg, _⟩
  · simp [Value.ownBlock]
  · simp only [Value.ownBlock, ne_eq, Option.some.injEq]
    rintro rfl
    rw [hb] at hg; cases hg

theorem owns_ne_cells {w : World} {base : Nat} {e : TypeId} {size n : Nat} {v : Value} {xs : List Value} (h : w.ownsRow base e size v n xs) {b : Nat} {c : Array Value} {t : TypeId} {fz : Nat × Nat} (hb : w.heap[b]? = some (.cells c t fz)) (ht : t ≠ e) : some b ≠ v.ownBlock := by
  rcases h.2 with ⟨rfl, _⟩ | ⟨g, cap, cur, rfl, _, hg, _⟩
  · simp [Value.ownBlock]
  · simp only [Value.ownBlock, ne_eq, Option.some.injEq]
    rintro rfl
    rw [hb] at hg
    cases hg; exact ht rfl

/-- Of the pool's own blocks the row of objects, the pool's block and one map may have turned; nothing else has. -/
structure Turned (w w' : World) (p b : Nat) (own : Option Nat) : Prop where
  os : w'.os = w.os
  tape : w'.tape = w.tape
  output : w'.output = w.output
  size : w.heap.size ≤ w'.heap.size
  block : ∀ k, k < w.heap.size → k ≠ p → k ≠ b → some k ≠ own → w'.heap[k]? = w.heap[k]?

theorem ownsRow_keep {w w' : World} {base : Nat} {e : TypeId} {size n : Nat} {v : Value} {xs : List Value} (h : w.ownsRow base e size v n xs) (hk : ∀ g, v.ownBlock = some g → w'.heap[g]? = w.heap[g]?) : w'.ownsRow base e size v n xs := by
  refine ⟨h.1, ?_⟩
  rcases h.2 with h0 | ⟨g, cap, cur, rfl, hb, hg, r⟩
  · exact Or.inl h0
  · exact Or.inr ⟨g, cap, cur, rfl, hb, (hk g rfl).trans hg, r⟩

theorem ownsRow_lt {w : World} {base : Nat} {e : TypeId} {size n : Nat} {v : Value} {xs : List Value} (h : w.ownsRow base e size v n xs) {g : Nat} (hg : v.ownBlock = some g) : g < w.heap.size := by
  rcases h.2 with ⟨rfl, _⟩ | ⟨g', cap, cur, rfl, _, hh, _⟩
  · simp [Value.ownBlock] at hg
  · simp [Value.ownBlock] at hg; subst hg; exact (Array.getElem?_eq_some_iff.1 hh).1

theorem added_c1 {w w' : World} {p : Nat} {a : Option Addr} {n cap : Nat} {xs news : List Value} (hA : Added w w' p a n cap xs news) {bf bd : Nat} (hp : PoolAt ft w p a n cap bf bd) (hpa : some p ≠ (Value.slice a n cap).ownBlock) : w'.cell? ⟨p, 1, none⟩ = some (.map (some bf)) := by
  obtain ⟨g, cap', hp2, _⟩ := hA.facts hp hpa
  exact PoolAt.c1 hp2

theorem added_map {w w' : World} {p : Nat} {a : Option Addr} {n cap : Nat} {xs news : List Value} (hA : Added w w' p a n cap xs news) {bf bd : Nat} (hp : PoolAt ft w p a n cap bf bd) (hpa : some p ≠ (Value.slice a n cap).ownBlock)
    {H : Type} {P : Program} {k : TypeId} {R : Value → Option (DataW H × List MemPlace)} {b m : Nat} {D : DataW H} (h : w.ownsMap P k R b m D) (hbp : b ≠ p) (hne : some b ≠ (Value.slice a n cap).ownBlock) : w'.ownsMap P k R b m D := by
  obtain ⟨g, cap', hp2, hr2, hloc, hos, htape, hout, hsz, hkeep⟩ := hA.facts hp hpa
  exact ownsMap_keep h (hkeep b h.lt hbp hne)

set_option maxRecDepth 100000 in
set_option maxHeartbeats 800000 in
theorem putFile_new (p : Nat) (a : Option Addr) (n cap bf bd : Nat) (xs : List Value) (Df : DataW Unit) (d : ByteArray) (w : World) (hp : PoolAt ft w p a n cap bf bd) (hd : d.size ≤ 256) (hn : n < 400)
    (hrow : w.ownsRow 0 141 4 (.slice a n cap) n xs) (hf : w.ownsMap Tryz.prog 9 (plainElem Tryz.prog 56) bf n Df) (hh : Maps.has Df (.string d.data.toList) = false) :
    Calls Tryz.prog 44 #[.pointer (some ⟨p, 0, none⟩), .string d] w fun e w' => e = .returned (.tuple #[.int .i64 ((n : Int) + 1), .int .i64 0]) ∧
      ∃ g cap', PoolAt ft w' p (some ⟨g, 0, none⟩) (n + 1) cap' bf bd ∧ w'.ownsRow 0 141 4 (.slice (some ⟨g, 0, none⟩) (n + 1) cap') (n + 1) (xs ++ [.int .i64 1, .string d, .slice none 0 0, .int .i64 0]) ∧ ((some g : Option Nat) = (Value.slice a n cap).ownBlock ∨ w.heap.size ≤ g) ∧
        w'.ownsMap Tryz.prog 9 (plainElem Tryz.prog 56) bf (n + 1) (Df.put (.string d.data.toList) (.lit (.int .i64 ((n : Int) + 1)))) ∧ Turned w w' p bf (Value.slice a n cap).ownBlock := by
  have k1 := hp.c1
  have hkey := WideMaps.keyOf_string_mk (P := Tryz.prog) Tryz.underlying9 (s := d) (by unfold maxLen; omega)
  have HH : Hid (Maps.has Df (.string d.data.toList) = false) := hh
  have hcl := clone_any d w (by omega)
  obtain ⟨es, clock, hbf⟩ := ownsMap_isMap hf
  have nf := owns_ne_map hrow hbf
  have np := owns_ne_cells hrow (b := p) hp (by decide)
  have hfp : bf ≠ p := by rintro rfl; unfold PoolAt at hp; rw [hbf] at hp; cases hp
  have hfl : bf < w.heap.size := (Array.getElem?_eq_some_iff.1 hbf).1
  have hrl : ∀ g, (Value.slice a n cap).ownBlock = some g → g < w.heap.size := fun g hg => ownsRow_lt hrow hg
  have hadd := fun (W : World) (hW : PoolAt ft W p a n cap bf bd) (hr : W.ownsRow 0 141 4 (.slice a n cap) n xs) => add_some p 1 0 d a n cap xs none 0 0 W hW.lt hn hW.c0 hW.f0 hr np
  have NF : Hid (some bf ≠ (Value.slice a n cap).ownBlock) := nf
  have NP : Hid (some p ≠ (Value.slice a n cap).ownBlock) := np
  have HRL : Hid (∀ g, (Value.slice a n cap).ownBlock = some g → g < w.heap.size) := hrl
  have HFP : Hid (bf ≠ p) := hfp
  have HR : Hid (w.ownsRow 0 141 4 (.slice a n cap) n xs) := hrow
  have HADD : Hid (∀ (W : World) (hW : PoolAt ft W p a n cap bf bd) (hr : W.ownsRow 0 141 4 (.slice a n cap) n xs), Calls Tryz.prog 79 #[.pointer (some ⟨p, 0, none⟩), .agg #[.int .i64 1, .string d, .slice none 0 0, .int .i64 0]] W fun e w' => e = .returned (.tuple #[.int .i64 ((n : Int) + 1), .int .i64 0]) ∧ Added W w' p a n cap xs [.int .i64 1, .string d, .slice none 0 0, .int .i64 0]) := hadd
  clear hh nf np hbf hrl hfp hrow hadd
  go_enter Tryz.func44, Tryz.ntmps44
  go_wp2_with (first
    | (at_lookup; refine wpList_lookup_own_ok_int _ rfl _ _ 134 rfl 9 56 .i64 law9 Tryz.underlying134 Tryz.underlying56 (zero25 _) bf n Df rfl hf _ _ rfl hkey ?_; intro c' hat hwc; rw [HH.out])
    | (go_at_call 52; refine hcl.mono ?_; rintro e w1 ⟨rfl, hb⟩; have hp1 := hp.below hb; have hr1 := ownsRow_keep HR.out (fun g hg => hb.block g (HRL.out g hg)))
    | (go_at_call 79; refine (HADD.out _ hp1 hr1).mono ?_; rintro e w2 ⟨rfl, hA⟩; have k2 := added_c1 hA hp1 NP.out; have hf2 := added_map hA hp1 NP.out (ownsMap_keep hf (hb.block bf hfl)) HFP.out NF.out)
    | (at_mapUpdate; refine wpList_mapUpdate_own _ rfl _ _ _ 134 rfl 9 56 law9 Tryz.underlying134 _ bf n _ rfl hf2 (by unfold maxLen; omega) _ _ _ rfl rfl hkey _ [] (plainElem_int Tryz.underlying56 (WalkArith.wf_i64 (by omega))) ?_; intro w3 hown3 hg3)
    | go_in)
  go_ret2
  obtain ⟨g, cap', hp2, hr2, hloc, hos, htape, hout, hsz, hkeep⟩ := hA.facts hp1 NP.out
  have hfp := HFP.out
  have hsb := hb.size
  have hpg : (some p : Option Nat) ≠ some bf := fun e => hfp (Option.some.inj e).symm
  refine ⟨rfl, g, cap', ?_, ?_, ?_, hown3, ⟨?_, ?_, ?_, ?_, ?_⟩⟩
  · unfold PoolAt; rw [hg3.block p (Nat.lt_of_lt_of_le (PoolAt.lt hp) (Nat.le_trans hsb hsz)) hpg]; exact hp2
  · refine ownsRow_keep hr2 (fun g' hg' => hg3.block g' (ownsRow_lt hr2 hg') ?_)
    obtain ⟨es2, clock2, hb2⟩ := ownsMap_isMap hf2
    have := owns_ne_map hr2 hb2
    rw [hg'] at this
    exact fun e => this e.symm
  · rcases hloc with h | h
    · exact Or.inl h
    · exact Or.inr (by omega)
  · rw [hg3.os, hos, hb.os]
  · rw [hg3.tape, htape, hb.tape]
  · rw [hg3.output, hout, hb.output]
  · have := hg3.size; omega
  · intro k hk hkp hkb hne
    rw [hg3.block k (by omega) (fun e => hkb (Option.some.inj e)), hkeep k (by omega) hkp hne, hb.block k hk]

end Go.Proofs.YtehpnebekgahnaaGreat

namespace Go.Proofs.YtehpnebekgahnaaGreat
open Go.RowKit
set_option linter.unusedVariables false

set_option maxRecDepth 100000 in
set_option maxHeartbeats 400000 in
theorem valid_short (s : ByteArray) (w : World) (hm : s.size ≤ maxLen) (h : s.size < 1 ∨ 12 < s.size) :
    Calls Tryz.prog 51 #[.string s] w fun e w' => e = .returned (.bool false) ∧ w' = w := by
  unfold maxLen at hm
  rcases h with h | h
  · go_enter Tryz.func51, Tryz.ntmps51
    go_wp2
    go_ret
    exact ⟨rfl, rfl⟩
  · have h' : ¬ s.size < 1 := by omega
    go_enter Tryz.func51, Tryz.ntmps51
    go_wp2
    go_ret
    exact ⟨rfl, rfl⟩

set_option maxRecDepth 100000 in
set_option maxHeartbeats 400000 in
theorem valid_dots (s : ByteArray) (w : World) (h1 : 1 ≤ s.size) (h2 : s.size ≤ 12) (h : (s.toList == [46]) = true ∨ (s.toList == [46]) = false ∧ (s.toList == [46, 46]) = true) :
    Calls Tryz.prog 51 #[.string s] w fun e w' => e = .returned (.bool false) ∧ w' = w := by
  rcases h with h | ⟨h3, h⟩
  · go_enter Tryz.func51, Tryz.ntmps51
    go_wp2
    go_ret
    exact ⟨rfl, rfl⟩
  · go_enter Tryz.func51, Tryz.ntmps51
    go_wp2
    go_ret
    exact ⟨rfl, rfl⟩

set_option maxRecDepth 100000 in
set_option maxHeartbeats 400000 in
theorem valid_long (s : ByteArray) (w : World) (h1 : 1 ≤ s.size) (h2 : s.size ≤ 12) (h3 : (s.toList == [46]) = false) (h4 : (s.toList == [46, 46]) = false) (a b : Int) (ha : Lib.indexByte s.data.toList 0 = a) (hb : Lib.indexByte s.data.toList 47 = b) :
    Calls Tryz.prog 51 #[.string s] w fun e w' => e = .returned (.bool (decide (a < 0) && decide (b < 0))) ∧ w' = w := by
  have hA : ∀ W, Calls Tryz.prog 89 #[.string s, .int .u8 0] W fun e w' => e = .returned (.int .i64 a) ∧ w' = W := by
    intro W
    have h := Tryz.strings_IndexByte s 0 W
    rw [← ha]
    exact h
  have hB : ∀ W, Calls Tryz.prog 89 #[.string s, .int .u8 47] W fun e w' => e = .returned (.int .i64 b) ∧ w' = W := by
    intro W
    have h := Tryz.strings_IndexByte s 47 W
    rw [← hb]
    exact h
  clear ha hb
  by_cases ha0 : a < 0
  · by_cases hb0 : b < 0
    · go_enter Tryz.func51, Tryz.ntmps51
      go_wp2_with fail
      refine (hA _).mono ?_
      rintro e w' ⟨rfl, rfl⟩
      go_wp2_with fail
      refine (hB _).mono ?_
      rintro e w' ⟨rfl, rfl⟩
      go_wp2
      go_ret
      exact ⟨by simp [ha0, hb0], rfl⟩
    · have hb1 : decide (b < 0) = false := by simpa using hb0
      go_enter Tryz.func51, Tryz.ntmps51
      go_wp2_with fail
      refine (hA _).mono ?_
      rintro e w' ⟨rfl, rfl⟩
      go_wp2_with fail
      refine (hB _).mono ?_
      rintro e w' ⟨rfl, rfl⟩
      go_wp2
      go_ret
      exact ⟨by simp [ha0, hb0], rfl⟩
  · have ha1 : decide (a < 0) = false := by simpa using ha0
    go_enter Tryz.func51, Tryz.ntmps51
    go_wp2_with fail
    refine (hA _).mono ?_
    rintro e w' ⟨rfl, rfl⟩
    go_wp2
    go_ret
    exact ⟨by simp [ha1], rfl⟩

/-- Is a text a name? -/
def validB (s : ByteArray) : Bool :=
  decide (1 ≤ s.size) && decide (s.size ≤ 12) && !(s.toList == [46]) && !(s.toList == [46, 46]) && decide (Lib.indexByte s.data.toList 0 < 0) && decide (Lib.indexByte s.data.toList 47 < 0)

theorem valid_any (s : ByteArray) (w : World) (hm : s.size ≤ maxLen) : Calls Tryz.prog 51 #[.string s] w fun e w' => e = .returned (.bool (validB s)) ∧ w' = w := by
  by_cases h : s.size < 1 ∨ 12 < s.size
  · have hv : validB s = false := by
      unfold validB
      rcases h with h | h
      · have : ¬ 1 ≤ s.size := by omega
        simp [this]
      · have : ¬ s.size ≤ 12 := by omega
        simp [this]
    rw [hv]
    exact valid_short s w hm h
  · have h1 : 1 ≤ s.size := by omega
    have h2 : s.size ≤ 12 := by omega
    cases h3 : s.toList == [46] with
    | true =>
      rw [show validB s = false by unfold validB; simp [h3]]
      exact valid_dots s w h1 h2 (.inl h3)
    | false =>
      cases h4 : s.toList == [46, 46] with
      | true =>
        rw [show validB s = false by unfold validB; simp [h4]]
        exact valid_dots s w h1 h2 (.inr ⟨h3, h4⟩)
      | false =>
        rw [show validB s = (decide (Lib.indexByte s.data.toList 0 < 0) && decide (Lib.indexByte s.data.toList 47 < 0)) by unfold validB; simp [h1, h2, h3, h4]]
        exact valid_long s w h1 h2 h3 h4 _ _ rfl rfl
end Go.Proofs.YtehpnebekgahnaaGreat

namespace Go.Proofs.YtehpnebekgahnaaGreat
open Go.RowKit Go.Sort Go.Shelf
set_option linter.unusedVariables false

/-! ### The order of names -/
theorem u8_tri (a b : UInt8) : a < b ∨ a = b ∨ b < a := by
  rcases Nat.lt_trichotomy a.toNat b.toNat with h | h | h
  · exact Or.inl (UInt8.lt_iff_toNat_lt.2 h)
  · exact Or.inr (Or.inl (UInt8.toNat_inj.1 h))
  · exact Or.inr (Or.inr (UInt8.lt_iff_toNat_lt.2 h))
theorem u8_irrefl (a : UInt8) : ¬ a < a := fun h => Nat.lt_irrefl _ (UInt8.lt_iff_toNat_lt.1 h)
theorem u8_trans {a b c : UInt8} (h : a < b) (k : b < c) : a < c := UInt8.lt_iff_toNat_lt.2 (Nat.lt_trans (UInt8.lt_iff_toNat_lt.1 h) (UInt8.lt_iff_toNat_lt.1 k))
theorem u8_asymm {a b : UInt8} (h : a < b) : ¬ b < a := fun k => u8_irrefl _ (u8_trans h k)

theorem cmp_self : ∀ a : List UInt8, Lib.compareBytes a a = 0
  | [] => rfl
  | x :: r => by simp [Lib.compareBytes, cmp_self r]

theorem cmp_eq_zero : ∀ a b : List UInt8, Lib.compareBytes a b = 0 → a = b
  | [], [], _ => rfl
  | [], _ :: _, h => by simp [Lib.compareBytes] at h
  | _ :: _, [], h => by simp [Lib.compareBytes] at h
  | x :: r, y :: s, h => by
    rcases u8_tri x y with k | k | k
    · simp [Lib.compareBytes, k] at h
    · subst k; simp [Lib.compareBytes] at h; rw [cmp_eq_zero r s h]
    · simp [Lib.compareBytes, k, u8_asymm k] at h

theorem cmp_swap : ∀ a b : List UInt8, Lib.compareBytes b a = - Lib.compareBytes a b
  | [], [] => rfl
  | [], _ :: _ => rfl
  | _ :: _, [] => rfl
  | x :: r, y :: s => by
    rcases u8_tri x y with k | k | k
    · simp [Lib.compareBytes, k, u8_asymm k]
    · subst k; simp [Lib.compareBytes]; exact cmp_swap r s
    · simp [Lib.compareBytes, k, u8_asymm k]

theorem cmp_trans : ∀ a b c : List UInt8, Lib.compareBytes a b < 0 → Lib.compareBytes b c < 0 → Lib.compareBytes a c < 0
  | [], [], _, h, _ => by simp [Lib.compareBytes] at h
  | [], _ :: _, [], _, k => by simp [Lib.compareBytes] at k
  | [], _ :: _, _ :: _, _, _ => by simp [Lib.compareBytes]
  | _ :: _, [], _, h, _ => by simp [Lib.compareBytes] at h
  | _ :: _, _ :: _, [], _, k => by simp [Lib.compareBytes] at k
  | x :: r, y :: s, z :: t, h, k => by
    rcases u8_tri x y with a | a | a
    · rcases u8_tri y z with b | b | b
      · simp [Lib.compareBytes, u8_trans a b]
      · subst b; simp [Lib.compareBytes, a]
      · simp [Lib.compareBytes, b, u8_asymm b] at k
    · subst a
      rcases u8_tri x z with b | b | b
      · simp [Lib.compareBytes, b]
      · subst b
        simp only [Lib.compareBytes, u8_irrefl, if_false] at h k ⊢
        exact cmp_trans r s t h k
      · simp [Lib.compareBytes, b, u8_asymm b] at k
    · simp [Lib.compareBytes, a, u8_asymm a] at h

theorem cmp_ntrans (a b c : List UInt8) (h : ¬ Lib.compareBytes a b < 0) (k : ¬ Lib.compareBytes b c < 0) : ¬ Lib.compareBytes a c < 0 := by
  intro m
  by_cases h0 : Lib.compareBytes a b = 0
  · rw [← cmp_eq_zero a b h0] at k; exact k m
  · by_cases k0 : Lib.compareBytes b c = 0
    · rw [cmp_eq_zero b c k0] at h; exact h m
    · have h1 : Lib.compareBytes b a < 0 := by rw [cmp_swap]; omega
      have k1 : Lib.compareBytes c b < 0 := by rw [cmp_swap]; omega
      have := cmp_trans c b a k1 h1
      rw [cmp_swap] at this; omega

/-! ### Entries -/
abbrev Ent := ByteArray × Int × Int
/-- An entry's three cells. -/
def encE (e : Ent) : List Value := [.string e.1, .int .i64 e.2.1, .int .i64 e.2.2]
def flat (es : List Ent) : List Value := es.flatMap encE
def cfE (x y : Ent) : Int := Lib.compareBytes x.1.data.toList y.1.data.toList

theorem swoE : SWO (ltOf cfE) where
  irrefl x := by simp [ltOf, cfE, cmp_self]
  trans x y z h1 h2 := decide_eq_true (cmp_trans _ _ _ (of_decide_eq_true h1) (of_decide_eq_true h2))
  ntrans x y z h1 h2 := decide_eq_false (cmp_ntrans _ _ _ (of_decide_eq_false h1) (of_decide_eq_false h2))

theorem encE_len (e : Ent) : (encE e).length = 3 := rfl
theorem encE_one (e : Ent) : ∀ v ∈ encE e, v.oneCell' = true := by
  intro v hv; simp [encE] at hv; rcases hv with rfl | rfl | rfl <;> rfl
theorem flat_len (es : List Ent) : (flat es).length = es.length * 3 := by
  induction es with
  | nil => rfl
  | cons e r ih => simp only [flat, List.flatMap_cons, List.length_append, encE_len, List.length_cons] at *; rw [ih]; omega
theorem flat_one (es : List Ent) : ∀ v ∈ flat es, v.oneCell' = true := by
  intro v hv
  obtain ⟨e, _, h⟩ := List.mem_flatMap.1 hv
  exact encE_one e v h

theorem flat_get : ∀ (es : List Ent) (i j : Nat) (hi : i < es.length), j < 3 → (flat es)[i * 3 + j]? = (encE es[i])[j]?
  | [], i, j, hi, _ => by simp at hi
  | e :: r, 0, j, _, hj => by
    simp only [flat, List.flatMap_cons, Nat.zero_mul, Nat.zero_add, List.getElem_cons_zero]
    rw [List.getElem?_append_left (by rw [encE_len]; exact hj)]
  | e :: r, i + 1, j, hi, hj => by
    have ih := flat_get r i j (by simpa using hi) hj
    simp only [flat, List.flatMap_cons, List.getElem_cons_succ] at ih ⊢
    rw [List.getElem?_append_right (by rw [encE_len]; omega), encE_len, ← ih]
    congr 1; omega

theorem flatK_flat (d : Array Ent) : (flatK encE 3 d).toList = flat d.toList := by
  apply List.ext_getElem?
  intro t
  by_cases ht : t < d.size * 3
  · have h3 : t % 3 < 3 := Nat.mod_lt _ (by omega)
    have hi : t / 3 < d.toList.length := by simp; omega
    have e1 := flat_get d.toList (t / 3) (t % 3) hi h3
    rw [show t / 3 * 3 + t % 3 = t by omega] at e1
    rw [e1]
    have hi' : t / 3 < d.size := by simpa using hi
    simp only [flatK, Array.toList_map, Array.toList_range, List.getElem?_map, List.getElem?_range ht, Option.map_some, Array.getElem_toList]
    rw [getElem!_pos d (t / 3) hi', List.getElem?_eq_getElem (by rw [encE_len]; exact h3), getElem!_pos _ _ (by rw [encE_len]; exact h3)]
  · rw [List.getElem?_eq_none (by simp [flatK]; omega), List.getElem?_eq_none (by rw [flat_len]; simp; omega)]

/-! ### From a row that is owned to the sort's words, and back -/
theorem holdsK_of_row {w : World} {g : Nat} {cur : Array Value} {e : TypeId} {es : List Ent} (hb : w.heap[g]? = some (.cells cur e (0, 0))) (ht : cur.toList.take (es.length * 3) = flat es) : HoldsK encE 3 w g 0 es.toArray := by
  intro j hj
  have hj' : j < es.length * 3 := by simpa using hj
  refine ⟨?_, by simp [World.frozen?, hb]⟩
  have h1 : (cur.toList.take (es.length * 3))[j]? = (flat es)[j]? := by rw [ht]
  rw [List.getElem?_take_of_lt hj'] at h1
  simp only [World.cell?, hb, Nat.zero_add]
  simp only [Option.isSome_none, Bool.false_eq_true, if_false]
  rw [← Array.getElem?_toList, h1]
  have h2 := flatK_flat es.toArray
  simp only at h2
  rw [← h2, Array.getElem?_toList, getElem!_pos _ j hj, Array.getElem?_eq_getElem hj]
  rfl

theorem heap_sortedK {w : World} {g n : Nat} {os : Array Obj} {cur : Array Value} {e : TypeId} {fr : Nat × Nat} (d : Array Ent) (hb : w.heap[g]? = some (.cells cur e fr)) :
    (sortWorldK encE 3 w g 0 n d os).heap[g]? = some (.cells (putCells id 0 (flatK encE 3 d) cur) e fr) := by
  have hg : g < w.heap.size := (Array.getElem?_eq_some_iff.1 hb).1
  unfold sortWorldK
  rw [heap_grow_old _ _ (by simpa [putRowK] using hg)]
  simp [putRowK, putRow, mapBlock, Sort.ahead, Array.getElem?_modify, hb, onCells]

theorem grownBy_sortedK {w : World} {g n : Nat} {os : Array Obj} (d : Array Ent) : w.grownBy (sortWorldK encE 3 w g 0 n d os) (some g) := by
  refine ⟨rfl, rfl, rfl, by simp [sortWorldK, putRowK], fun k hk hne => ?_⟩
  unfold sortWorldK
  rw [heap_grow_old _ _ (by simpa [putRowK] using hk)]
  have : g ≠ k := fun e => hne (by rw [e])
  simp [putRowK, putRow, mapBlock, Sort.ahead, Array.getElem?_modify, this]

theorem take_putCellsK (cur : Array Value) (d : Array Ent) (h : d.size * 3 ≤ cur.size) : (putCells id 0 (flatK encE 3 d) cur).toList.take (d.size * 3) = flat d.toList := by
  rw [← flatK_flat]
  apply List.ext_getElem?
  intro j
  by_cases hj : j < d.size * 3
  · rw [List.getElem?_take_of_lt hj, Array.getElem?_toList, Array.getElem?_toList]
    have hs : j < (flatK encE 3 d).size := by simpa using hj
    rw [Array.getElem?_eq_getElem hs, ← getElem!_pos (flatK encE 3 d) j hs]
    simp [putCells, hj, show j < cur.size by omega]
  · rw [List.getElem?_take_eq_none (by omega), List.getElem?_eq_none (by simp; omega)]

/-- BEHIND THE SORT the same slice owns the sorted entries. -/
theorem ownsRow_sortedK {w : World} {base g cap n : Nat} {e : TypeId} {os : Array Obj} {cur : Array Value} {k : Nat} {d : Array Ent} (hl : d.size = k) (hbase : base ≤ g) (hb : w.heap[g]? = some (.cells cur e (0, 0)))
    (h1 : k ≤ cap) (h2 : cap ≤ maxLen) (h3 : cur.size = cap * 3) :
    (sortWorldK encE 3 w g 0 n d os).ownsRow base e 3 (.slice (some ⟨g, 0, none⟩) k cap) k (flat d.toList) := by
  subst hl
  refine ⟨by rw [flat_len]; simp, .inr ⟨g, cap, _, rfl, hbase, heap_sortedK _ hb, h1, h2, by simp [putCells, h3], take_putCellsK cur d (by rw [h3]; exact Nat.mul_le_mul_right 3 h1)⟩⟩

/-! ### The sort, at this program -/
theorem isAgg34 (w : World) : (isAgg 61).run Tryz.prog w = .ok true w := by kernel_rfl
theorem sizeOf34 (w : World) : (Go.sizeOf 61).run Tryz.prog w = .ok 3 w := by kernel_rfl

set_option maxRecDepth 100000 in
set_option maxHeartbeats 400000 in
theorem byName_any (x y : Ent) (W : World) : Calls Tryz.prog 110 #[.agg #[.string x.1, .int .i64 x.2.1, .int .i64 x.2.2], .agg #[.string y.1, .int .i64 y.2.1, .int .i64 y.2.2]] W fun e w' => e = .returned (.int .i64 (cfE x y)) ∧ ∃ q os', w' = grow (W.drewN q) os' := by
  have hcon := fun W' => Tryz.strings_Compare x.1 y.1 W'
  unfold cfE
  generalize Lib.compareBytes x.1.data.toList y.1.data.toList = r at hcon ⊢
  go_enter Tryz.func110, Tryz.ntmps110
  go_wp2_with (go_at_call 95; refine (hcon _).mono ?_; rintro e w' ⟨rfl, rfl⟩)
  go_ret
  exact ⟨rfl, 0, _, by rw [alloc_eq_grow, alloc_eq_grow, grow_grow]; rfl⟩

theorem cmpLays (blk off size : Nat) (w : World) : CmpLays Tryz.prog 110 #[] encE 3 cfE blk off size w := fun _ _ _ _ x y => byName_any x y _

theorem sort_any (blk cap : Nat) (d : Array Ent) (w : World) (hH : HoldsK encE 3 w blk 0 d) (hblk : blk < w.heap.size) (hsz : d.size < 4611686018427387904) :
    Calls Tryz.prog 109 #[.slice (some ⟨blk, 0, none⟩) d.size cap, .func (.func 110) #[] #[]] w fun e w' => e = .returned (.tuple #[]) ∧ ∃ d' n os, PermIn 0 d.size d d' ∧ SortedIn (ltOf cfE) 0 d.size d' ∧ w' = sortWorldK encE 3 w blk 0 n d' os := by
  have eg : ∀ args w, (callFunc 110 args).run Tryz.prog w = .ok (.enter 110 args) w := enters_of Tryz.func110 (by kernel_rfl) rfl
  exact AnyQ.slices_SortFunc Tryz.sortE 3 isAgg34 sizeOf34 encE encE_len encE_one cfE swoE 110 #[] blk 0 cap d w eg (cmpLays blk 0 d.size w) hH hblk hsz

end Go.Proofs.YtehpnebekgahnaaGreat

namespace Go.Proofs.YtehpnebekgahnaaGreat
open Go.RowKit Go.Sort Go.Shelf
set_option linter.unusedVariables false

theorem info34 : (Tryz.prog.info? 61).map (fun i => (i.zero, i.size, i.bytes)) = some (some (.agg #[.string ByteArray.empty, .int .i64 0, .int .i64 0]), 3, 32) := by kernel_rfl

theorem cloneE_any (b off n c : Nat) (es : List Ent) (w : World) (hl : es.length = n) (hbig : n * 32 ≤ 140737488355328) (hc : ∀ j u, (flat es)[j]? = some u → w.cell? ⟨b, off + j, none⟩ = some u) :
    Calls Tryz.prog 108 #[.slice (some ⟨b, off, none⟩) n c] w fun e w' => ∃ v', e = .returned v' ∧ w'.ownsRow w.heap.size 61 3 v' n (flat es) ∧ v' ≠ .slice none 0 0 ∧ Below w.heap.size w w' := by
  obtain ⟨i0, hi, hz0, hz1, hz2⟩ := info_parts info34
  exact AnyE.slices_Clone Tryz.cloneE i0 _ 3 32 hi hz0 hz1 hz2 rfl (by decide) sizeOf34 b off n c (flat es) w (by rw [flat_len, hl]) (by unfold maxLen; omega) hbig hc (flat_one es)

theorem row_cells {w : World} {b off : Nat} {es : List Ent} (hc : ∀ j u, (flat es)[j]? = some u → w.cell? ⟨b, off + j, none⟩ = some u) {i : Nat} (hi : i < es.length) :
    w.cell? ⟨b, off + i * 3, none⟩ = some (.string es[i].1) ∧ w.cell? ⟨b, off + i * 3 + 1, none⟩ = some (.int .i64 es[i].2.1) ∧ w.cell? ⟨b, off + i * 3 + 2, none⟩ = some (.int .i64 es[i].2.2) := by
  refine ⟨?_, ?_, ?_⟩
  · exact hc _ _ (by rw [show i * 3 = i * 3 + 0 from rfl, flat_get es i 0 hi (by omega)]; rfl)
  · rw [Nat.add_assoc]; exact hc _ _ (by rw [flat_get es i 1 hi (by omega)]; rfl)
  · rw [Nat.add_assoc]; exact hc _ _ (by rw [flat_get es i 2 hi (by omega)]; rfl)


theorem setCell_self {w : World} {a : Addr} {v : Value} (h : w.cell? a = some v) : w.setCell a v = w := by
  have hh : (w.setCell a v).heap = w.heap := by
    apply Array.ext_getElem?
    intro k
    simp only [World.setCell, Array.getElem?_modify]
    by_cases hk : a.block = k
    · subst hk
      simp only [if_true]
      unfold World.cell? at h
      cases hb : w.heap[a.block]? with
      | none => rfl
      | some o =>
        rw [hb] at h
        cases o with
        | cells c e fr =>
          simp only [Option.map_some]
          by_cases hs : a.spot.isSome = true
          · simp [hs]
          · simp only [hs, if_false, Bool.false_eq_true] at h ⊢
            have hlt := (Array.getElem?_eq_some_iff.1 h)
            obtain ⟨h1, h2⟩ := hlt
            congr 2
            apply Array.ext_getElem?
            intro j
            rw [Array.getElem?_setIfInBounds]
            by_cases hj : a.off = j
            · subst hj; simp [h1, h2]
            · simp [hj]
        | _ => simp at h
    · simp [hk]
  cases w
  simp only [World.setCell] at hh ⊢
  rw [hh]

/-- The way in which a list of entries is in order: by rising names. -/
def Rising (es : List Ent) : Prop := es.Pairwise fun x y => cfE x y < 0

/-- What 'arrange' answers. -/
def Arranged (w w' : World) (es : List Ent) (n : Nat) (e : Ending) : Prop :=
  Below w.heap.size w w' ∧
  (((∃ x ∈ es, validB x.1 = false) ∧ e = .returned (.tuple #[.slice none 0 0, .int .i64 1])) ∨
   ((∀ x ∈ es, validB x.1 = true) ∧ ¬ (es.map (·.1)).Nodup ∧ e = .returned (.tuple #[.slice none 0 0, .int .i64 6])) ∨
   ((∀ x ∈ es, validB x.1 = true) ∧ (es.map (·.1)).Nodup ∧ 16 < es.length ∧ e = .returned (.tuple #[.slice none 0 0, .int .i64 11])) ∨
   ((∀ x ∈ es, validB x.1 = true) ∧ (es.map (·.1)).Nodup ∧ es.length ≤ 16 ∧ ∃ es' g cap', e = .returned (.tuple #[.slice (some ⟨g, 0, none⟩) n cap', .int .i64 0]) ∧ es'.Perm es ∧ Rising es' ∧ w'.ownsRow w.heap.size 61 3 (.slice (some ⟨g, 0, none⟩) n cap') n (flat es')))

theorem perm_of (es : List Ent) (d' : Array Ent) (h : PermIn 0 es.toArray.size es.toArray d') : d'.toList.Perm es := by
  obtain ⟨h1, _, h3⟩ := h
  have e1 : (d'.extract 0 es.toArray.size) = d' := by rw [← h1]; simp
  have e2 : (es.toArray.extract 0 es.toArray.size) = es.toArray := by simp
  rw [e1, e2] at h3
  simpa using h3

/-- Sorted, and no two neighbours of one name: rising. -/
theorem rising_of (d : Array Ent) (hs : SortedIn (ltOf cfE) 0 d.size d) (hd : ∀ j (hj : j < d.toList.length), 1 ≤ j → d.toList[j].1 ≠ (d.toList[j - 1]'(by omega)).1) : Rising d.toList := by
  unfold Rising
  rw [List.pairwise_iff_getElem]
  intro i j hi hj hij
  simp only [Array.length_toList] at hi hj
  have key : ∀ k, (hk : k < d.size) → (h1 : 1 ≤ k) → cfE d[k - 1] d[k] < 0 := by
    intro k hk h1
    have h := hs (k - 1) k (Nat.zero_le _) (by omega) hk
    rw [getElem!_pos d k hk, getElem!_pos d (k - 1) (by omega)] at h
    have h2 := of_decide_eq_false h
    have hne := hd k (by simpa using hk) h1
    have h3 : cfE d[k] d[k - 1] ≠ 0 := by
      intro h0
      have := cmp_eq_zero _ _ h0
      apply hne
      simp only [Array.getElem_toList]
      have e : ∀ a b : ByteArray, a.data.toList = b.data.toList → a = b := by
        intro a b hab
        cases a; cases b
        congr 1
        exact Array.toList_inj.1 hab
      exact e _ _ this
    have h4 : cfE d[k - 1] d[k] = - cfE d[k] d[k - 1] := cmp_swap _ _
    omega
  have chain : ∀ m, (hm : i + 1 + m < d.size) → cfE d[i] d[i + 1 + m] < 0 := by
    intro m
    induction m with
    | zero => intro hm; exact key (i + 1) hm (by omega)
    | succ m ih =>
      intro hm
      have a := ih (by omega)
      have b := key (i + 1 + (m + 1)) hm (by omega)
      exact cmp_trans _ _ _ a b
  have := chain (j - i - 1) (by omega)
  simp only [Array.getElem_toList]
  have e : i + 1 + (j - i - 1) = j := by omega
  simp only [e] at this
  exact this

theorem nodup_of_rising {es : List Ent} (h : Rising es) : (es.map (·.1)).Nodup := by
  unfold Rising at h
  rw [List.Nodup, List.pairwise_map]
  refine h.imp ?_
  intro a b hab e
  unfold cfE at hab
  rw [e, cmp_self] at hab
  omega

theorem valid_size {s : ByteArray} (h : validB s = true) : 1 ≤ s.size ∧ s.size ≤ 12 := by
  unfold validB at h
  simp only [Bool.and_eq_true, decide_eq_true_eq] at h
  exact ⟨h.1.1.1.1.1, h.1.1.1.1.2⟩

end Go.Proofs.YtehpnebekgahnaaGreat
