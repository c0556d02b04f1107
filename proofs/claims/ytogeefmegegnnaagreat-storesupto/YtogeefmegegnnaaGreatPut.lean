/-
  What is proved here: PutFile of the objects' pool, at every pool and every text: refused when too great, the object that is there, refused when there is no room, a new one.
-/
import Derived.Test.YtogeefmegegnnaaGreatLeaf
namespace Go.Proofs.YtogeefmegegnnaaGreat
open Go.RowKit
set_option linter.unusedVariables false

/-- What the pool holds of fetches: the list of what was fetched, and whether the next one fails. -/
structure PTail where
  a : Option Addr
  n : Nat
  c : Nat
  b : Bool
def pt0 : PTail := ⟨none, 0, 0, false⟩
variable {ft : PTail}

theorem law9 : Maps.Keyed Tryz.prog 9 := Maps.string_keyed Tryz.underlying9
theorem zero25 (w : World) : (zeroValue 58).run Tryz.prog w = .ok (.int .i64 0) w := by kernel_rfl

/-- The pool's block. -/
def PoolAt (ft : PTail) (w : World) (p : Nat) (a : Option Addr) (n cap bf bd : Nat) : Prop := w.heap[p]? = some (.cells #[.slice a n cap, .map (some bf), .map (some bd), .slice ft.a ft.n ft.c, .bool ft.b] 210 (0, 0))

theorem PoolAt.c0 {w : World} {p : Nat} {a : Option Addr} {n cap bf bd : Nat} (h : PoolAt ft w p a n cap bf bd) : w.cell? ⟨p, 0, none⟩ = some (.slice a n cap) := by unfold PoolAt at h; simp [World.cell?, h]
theorem PoolAt.c1 {w : World} {p : Nat} {a : Option Addr} {n cap bf bd : Nat} (h : PoolAt ft w p a n cap bf bd) : w.cell? ⟨p, 1, none⟩ = some (.map (some bf)) := by unfold PoolAt at h; simp [World.cell?, h]
theorem PoolAt.c2 {w : World} {p : Nat} {a : Option Addr} {n cap bf bd : Nat} (h : PoolAt ft w p a n cap bf bd) : w.cell? ⟨p, 2, none⟩ = some (.map (some bd)) := by unfold PoolAt at h; simp [World.cell?, h]
theorem PoolAt.f0 {w : World} {p : Nat} {a : Option Addr} {n cap bf bd : Nat} (h : PoolAt ft w p a n cap bf bd) : w.frozen? ⟨p, 0, none⟩ = false := by unfold PoolAt at h; simp [World.frozen?, h]
theorem PoolAt.lt {w : World} {p : Nat} {a : Option Addr} {n cap bf bd : Nat} (h : PoolAt ft w p a n cap bf bd) : p < w.heap.size := (Array.getElem?_eq_some_iff.1 h).1
theorem PoolAt.below {w w' : World} {p : Nat} {a : Option Addr} {n cap bf bd : Nat} (h : PoolAt ft w p a n cap bf bd) (hb : Below w.heap.size w w') : PoolAt ft w' p a n cap bf bd := by
  unfold PoolAt at h ⊢
  rw [hb.block p (Array.getElem?_eq_some_iff.1 h).1, h]

set_option maxRecDepth 100000 in
set_option maxHeartbeats 400000 in
theorem putFile_big (p : Nat) (d : ByteArray) (w : World) (hd : 256 < d.size) (hm : d.size ≤ maxLen) :
    Calls Tryz.prog 95 #[.pointer (some ⟨p, 0, none⟩), .string d] w fun e w' => e = .returned (.tuple #[.int .i64 0, .int .i64 11]) ∧ w' = w := by
  unfold maxLen at hm
  go_enter Tryz.func95, Tryz.ntmps95
  go_wp2
  go_ret2
  exact ⟨rfl, rfl⟩

set_option maxRecDepth 100000 in
set_option maxHeartbeats 400000 in
theorem putFile_hit (p : Nat) (a : Option Addr) (n cap bf bd : Nat) (Df : DataW Unit) (d : ByteArray) (c : Int) (w : World) (hp : PoolAt ft w p a n cap bf bd) (hd : d.size ≤ 256)
    (hf : w.ownsMap Tryz.prog 9 (plainElem Tryz.prog 58) bf n Df) (hh : Maps.has Df (.string d.data.toList) = true) (hc : Df.atKey (.string d.data.toList) (.lit (.int .i64 0)) = .lit (.int .i64 c)) :
    Calls Tryz.prog 95 #[.pointer (some ⟨p, 0, none⟩), .string d] w fun e w' => e = .returned (.tuple #[.int .i64 c, .int .i64 0]) ∧ w' = w := by
  have k1 := hp.c1
  have hkey := WideMaps.keyOf_string_mk (P := Tryz.prog) Tryz.underlying9 (s := d) (by unfold maxLen; omega)
  have HC : Hid (Df.atKey (.string d.data.toList) (.lit (.int .i64 0)) = .lit (.int .i64 c)) := hc
  have HH : Hid (Maps.has Df (.string d.data.toList) = true) := hh
  clear hc hh
  go_enter Tryz.func95, Tryz.ntmps95
  go_wp2_with (first
    | (at_lookup; refine wpList_lookup_own_ok_int _ rfl _ _ 207 rfl 9 58 .i64 law9 Tryz.underlying207 Tryz.underlying58 (zero25 _) bf n Df rfl hf _ _ rfl hkey ?_; intro c' hat hwc; rw [HH.out]; obtain rfl : c' = c := by (have := hat.symm.trans HC.out; simpa using this))
    | go_in)
  go_ret2
  exact ⟨rfl, rfl⟩

set_option maxRecDepth 1000000 in
set_option maxHeartbeats 400000 in
theorem putFile_full (p : Nat) (a : Option Addr) (n cap bf bd : Nat) (Df : DataW Unit) (d : ByteArray) (w : World) (hp : PoolAt ft w p a n cap bf bd) (hd : d.size ≤ 256) (hn : 400 ≤ n)
    (hf : w.ownsMap Tryz.prog 9 (plainElem Tryz.prog 58) bf n Df) (hh : Maps.has Df (.string d.data.toList) = false) :
    Calls Tryz.prog 95 #[.pointer (some ⟨p, 0, none⟩), .string d] w fun e w' => e = .returned (.tuple #[.int .i64 0, .int .i64 11]) ∧ Below w.heap.size w w' := by
  have k1 := hp.c1
  have hkey := WideMaps.keyOf_string_mk (P := Tryz.prog) Tryz.underlying9 (s := d) (by unfold maxLen; omega)
  have HH : Hid (Maps.has Df (.string d.data.toList) = false) := hh
  have hcl := clone_any d w (by omega)
  have hadd := fun (W : World) (hW : PoolAt ft W p a n cap bf bd) => add_full p 1 0 d a n cap none 0 0 W hW.lt hn hW.c0
  clear hh
  go_enter Tryz.func95, Tryz.ntmps95
  go_wp2_with (first
    | (at_lookup; refine wpList_lookup_own_ok_int _ rfl _ _ 207 rfl 9 58 .i64 law9 Tryz.underlying207 Tryz.underlying58 (zero25 _) bf n Df rfl hf _ _ rfl hkey ?_; intro c' hat hwc; rw [HH.out])
    | (go_at_call 101; refine hcl.mono ?_; rintro e w1 ⟨rfl, hb⟩; have hp1 := hp.below hb)
    | (go_at_call 134; refine (hadd _ hp1).mono ?_; rintro e w2 ⟨rfl, rfl⟩)
    | go_in)
  go_ret2
  exact ⟨rfl, hb.alloc hb.size _⟩


theorem ownsMap_keep {H : Type} {P : Program} {k : TypeId} {R : Value → Option (DataW H × List MemPlace)} {w w' : World} {b n : Nat} {D : DataW H} (h : w.ownsMap P k R b n D) (e : w'.heap[b]? = w.heap[b]?) : w'.ownsMap P k R b n D := by
  obtain ⟨es, clock, hb, r⟩ := h
  exact ⟨es, clock, e.trans hb, r⟩

theorem ownsMap_isMap {H : Type} {P : Program} {k : TypeId} {R : Value → Option (DataW H × List MemPlace)} {w : World} {b n : Nat} {D : DataW H} (h : w.ownsMap P k R b n D) : ∃ es clock, w.heap[b]? = some (.map es clock) := by
  obtain ⟨es, clock, hb, r⟩ := h
  exact ⟨es, clock, hb⟩

theorem owns_ne_map {w : World} {base : Nat} {e : TypeId} {size n : Nat} {v : Value} {xs : List Value} (h : w.ownsRow base e size v n xs) {b : Nat} {es : Array MapEntry} {clock : Nat} (hb : w.heap[b]? = some (.map es clock)) : some b ≠ v.ownBlock := by
  rcases h.2 with ⟨rfl, _⟩ | ⟨g, cap, cur, rfl, _, hg, _⟩
  · simp [Value.ownBlock]
  · simp only [Value.ownBlock, ne_eq, Option.some.injEq]
    rintro rfl
    rw [hb] at hg; cases hg

theorem owns_ne_cells {w : World} {base : Nat} {e : TypeId} {size n : Nat} {v : Value} {xs : List Value} (h : w.ownsRow base e size v n xs) {b : Nat} {c : Array Value} {t : TypeId} {fz : Nat × Nat} (hb : w.heap[b]? = some (.cells c t fz)) (ht : t ≠ e) : some b ≠ v.ownBlock := by
  rcases h.2 with ⟨rfl, _⟩ | ⟨g, cap, cur, rfl, _, hg, _⟩
  · simp [Value.ownBlock]
  · simp only [Value.ownBlock, ne_eq, Option.some.injEq]
    rintro rfl
    rw [hb] at hg
    cases hg; exact ht rfl

/-- Of the pool's own blocks the row of objects, the pool's block and one map may have turned; nothing else has. -/
structure Turned (w w' : World) (p b : Nat) (own : Option Nat) : Prop where
  os : w'.os = w.os
  tape : w'.tape = w.tape
  output : w'.output = w.output
  size : w.heap.size ≤ w'.heap.size
  block : ∀ k, k < w.heap.size → k ≠ p → k ≠ b → some k ≠ own → w'.heap[k]? = w.heap[k]?

theorem ownsRow_keep {w w' : World} {base : Nat} {e : TypeId} {size n : Nat} {v : Value} {xs : List Value} (h : w.ownsRow base e size v n xs) (hk : ∀ g, v.ownBlock = some g → w'.heap[g]? = w.heap[g]?) : w'.ownsRow base e size v n xs := by
  refine ⟨h.1, ?_⟩
  rcases h.2 with h0 | ⟨g, cap, cur, rfl, hb, hg, r⟩
  · exact Or.inl h0
  · exact Or.inr ⟨g, cap, cur, rfl, hb, (hk g rfl).trans hg, r⟩

theorem ownsRow_lt {w : World} {base : Nat} {e : TypeId} {size n : Nat} {v : Value} {xs : List Value} (h : w.ownsRow base e size v n xs) {g : Nat} (hg : v.ownBlock = some g) : g < w.heap.size := by
  rcases h.2 with ⟨rfl, _⟩ | ⟨g', cap, cur, rfl, _, hh, _⟩
  · simp [Value.ownBlock] at hg
  · simp [Value.ownBlock] at hg; subst hg; exact (Array.getElem?_eq_some_iff.1 hh).1

theorem added_c1 {w w' : World} {p : Nat} {a : Option Addr} {n cap : Nat} {xs news : List Value} (hA : Added w w' p a n cap xs news) {bf bd : Nat} (hp : PoolAt ft w p a n cap bf bd) (hpa : some p ≠ (Value.slice a n cap).ownBlock) : w'.cell? ⟨p, 1, none⟩ = some (.map (some bf)) := by
  obtain ⟨g, cap', hp2, _⟩ := hA.facts hp hpa
  exact PoolAt.c1 hp2

theorem added_map {w w' : World} {p : Nat} {a : Option Addr} {n cap : Nat} {xs news : List Value} (hA : Added w w' p a n cap xs news) {bf bd : Nat} (hp : PoolAt ft w p a n cap bf bd) (hpa : some p ≠ (Value.slice a n cap).ownBlock)
    {H : Type} {P : Program} {k : TypeId} {R : Value → Option (DataW H × List MemPlace)} {b m : Nat} {D : DataW H} (h : w.ownsMap P k R b m D) (hbp : b ≠ p) (hne : some b ≠ (Value.slice a n cap).ownBlock) : w'.ownsMap P k R b m D := by
  obtain ⟨g, cap', hp2, hr2, hloc, hos, htape, hout, hsz, hkeep⟩ := hA.facts hp hpa
  exact ownsMap_keep h (hkeep b h.lt hbp hne)

set_option maxRecDepth 100000 in
set_option maxHeartbeats 800000 in
theorem putFile_new (p : Nat) (a : Option Addr) (n cap bf bd : Nat) (xs : List Value) (Df : DataW Unit) (d : ByteArray) (w : World) (hp : PoolAt ft w p a n cap bf bd) (hd : d.size ≤ 256) (hn : n < 400)
    (hrow : w.ownsRow 0 226 4 (.slice a n cap) n xs) (hf : w.ownsMap Tryz.prog 9 (plainElem Tryz.prog 58) bf n Df) (hh : Maps.has Df (.string d.data.toList) = false) :
    Calls Tryz.prog 95 #[.pointer (some ⟨p, 0, none⟩), .string d] w fun e w' => e = .returned (.tuple #[.int .i64 ((n : Int) + 1), .int .i64 0]) ∧
      ∃ g cap', PoolAt ft w' p (some ⟨g, 0, none⟩) (n + 1) cap' bf bd ∧ w'.ownsRow 0 226 4 (.slice (some ⟨g, 0, none⟩) (n + 1) cap') (n + 1) (xs ++ [.int .i64 1, .string d, .slice none 0 0, .int .i64 0]) ∧ ((some g : Option Nat) = (Value.slice a n cap).ownBlock ∨ w.heap.size ≤ g) ∧
        w'.ownsMap Tryz.prog 9 (plainElem Tryz.prog 58) bf (n + 1) (Df.put (.string d.data.toList) (.lit (.int .i64 ((n : Int) + 1)))) ∧ Turned w w' p bf (Value.slice a n cap).ownBlock := by
  have k1 := hp.c1
  have hkey := WideMaps.keyOf_string_mk (P := Tryz.prog) Tryz.underlying9 (s := d) (by unfold maxLen; omega)
  have HH : Hid (Maps.has Df (.string d.data.toList) = false) := hh
  have hcl := clone_any d w (by omega)
  obtain ⟨es, clock, hbf⟩ := ownsMap_isMap hf
  have nf := owns_ne_map hrow hbf
  have np := owns_ne_cells hrow (b := p) hp (by decide)
  have hfp : bf ≠ p := by rintro rfl; unfold PoolAt at hp; rw [hbf] at hp; cases hp
  have hfl : bf < w.heap.size := (Array.getElem?_eq_some_iff.1 hbf).1
  have hrl : ∀ g, (Value.slice a n cap).ownBlock = some g → g < w.heap.size := fun g hg => ownsRow_lt hrow hg
  have hadd := fun (W : World) (hW : PoolAt ft W p a n cap bf bd) (hr : W.ownsRow 0 226 4 (.slice a n cap) n xs) => add_some p 1 0 d a n cap xs none 0 0 W hW.lt hn hW.c0 hW.f0 hr np
  have NF : Hid (some bf ≠ (Value.slice a n cap).ownBlock) := nf
  have NP : Hid (some p ≠ (Value.slice a n cap).ownBlock) := np
  have HRL : Hid (∀ g, (Value.slice a n cap).ownBlock = some g → g < w.heap.size) := hrl
  have HFP : Hid (bf ≠ p) := hfp
  have HR : Hid (w.ownsRow 0 226 4 (.slice a n cap) n xs) := hrow
  have HADD : Hid (∀ (W : World) (hW : PoolAt ft W p a n cap bf bd) (hr : W.ownsRow 0 226 4 (.slice a n cap) n xs), Calls Tryz.prog 134 #[.pointer (some ⟨p, 0, none⟩), .agg #[.int .i64 1, .string d, .slice none 0 0, .int .i64 0]] W fun e w' => e = .returned (.tuple #[.int .i64 ((n : Int) + 1), .int .i64 0]) ∧ Added W w' p a n cap xs [.int .i64 1, .string d, .slice none 0 0, .int .i64 0]) := hadd
  clear hh nf np hbf hrl hfp hrow hadd
  go_enter Tryz.func95, Tryz.ntmps95
  go_wp2_with (first
    | (at_lookup; refine wpList_lookup_own_ok_int _ rfl _ _ 207 rfl 9 58 .i64 law9 Tryz.underlying207 Tryz.underlying58 (zero25 _) bf n Df rfl hf _ _ rfl hkey ?_; intro c' hat hwc; rw [HH.out])
    | (go_at_call 101; refine hcl.mono ?_; rintro e w1 ⟨rfl, hb⟩; have hp1 := hp.below hb; have hr1 := ownsRow_keep HR.out (fun g hg => hb.block g (HRL.out g hg)))
    | (go_at_call 134; refine (HADD.out _ hp1 hr1).mono ?_; rintro e w2 ⟨rfl, hA⟩; have k2 := added_c1 hA hp1 NP.out; have hf2 := added_map hA hp1 NP.out (ownsMap_keep hf (hb.block bf hfl)) HFP.out NF.out)
    | (at_mapUpdate; refine wpList_mapUpdate_own _ rfl _ _ _ 207 rfl 9 58 law9 Tryz.underlying207 _ bf n _ rfl hf2 (by unfold maxLen; omega) _ _ _ rfl rfl hkey _ [] (plainElem_int Tryz.underlying58 (WalkArith.wf_i64 (by omega))) ?_; intro w3 hown3 hg3)
    | go_in)
  go_ret2
  obtain ⟨g, cap', hp2, hr2, hloc, hos, htape, hout, hsz, hkeep⟩ := hA.facts hp1 NP.out
  have hfp := HFP.out
  have hsb := hb.size
  have hpg : (some p : Option Nat) ≠ some bf := fun e => hfp (Option.some.inj e).symm
  refine ⟨rfl, g, cap', ?_, ?_, ?_, hown3, ⟨?_, ?_, ?_, ?_, ?_⟩⟩
  · unfold PoolAt; rw [hg3.block p (Nat.lt_of_lt_of_le (PoolAt.lt hp) (Nat.le_trans hsb hsz)) hpg]; exact hp2
  · refine ownsRow_keep hr2 (fun g' hg' => hg3.block g' (ownsRow_lt hr2 hg') ?_)
    obtain ⟨es2, clock2, hb2⟩ := ownsMap_isMap hf2
    have := owns_ne_map hr2 hb2
    rw [hg'] at this
    exact fun e => this e.symm
  · rcases hloc with h | h
    · exact Or.inl h
    · exact Or.inr (by omega)
  · rw [hg3.os, hos, hb.os]
  · rw [hg3.tape, htape, hb.tape]
  · rw [hg3.output, hout, hb.output]
  · have := hg3.size; omega
  · intro k hk hkp hkb hne
    rw [hg3.block k (by omega) (fun e => hkb (Option.some.inj e)), hkeep k (by omega) hkp hne, hb.block k hk]

end Go.Proofs.YtogeefmegegnnaaGreat
