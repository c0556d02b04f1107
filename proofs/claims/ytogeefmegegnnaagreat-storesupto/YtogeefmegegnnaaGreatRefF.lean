/-
  What is proved here: the document's own store: 'put' over a list of objects, 'PutFile'.
-/
import Derived.Test.YtogeefmegegnnaaGreatRefE
namespace Go.Proofs.YtogeefmegegnnaaGreat
open Go.RowKit Go.Sort Go.Shelf
set_option linter.unusedVariables false

theorem owns_block {w : World} {base : Nat} {e : TypeId} {size n : Nat} {v : Value} {xs : List Value} (h : w.ownsRow base e size v n xs) {g : Nat} (hg : v.ownBlock = some g) : ∃ cur, w.heap[g]? = some (.cells cur e (0, 0)) := by
  rcases h.2 with ⟨rfl, _⟩ | ⟨g', cap, cur, rfl, _, hh, _⟩
  · simp [Value.ownBlock] at hg
  · simp [Value.ownBlock] at hg; subst hg; exact ⟨cur, hh⟩

def RefInv (F : Nat → Prop) (w : World) (r : Nat) (ros : List Ob) : Prop := ∃ a cap, RefAt F w r a cap ros

theorem RefInv.keep {F F' : Nat → Prop} {w w' : World} {r : Nat} {ros : List Ob} (h : RefInv F w r ros) (hF : ∀ k, F k → F' k) (hk : ∀ k, F k → w'.heap[k]? = w.heap[k]?) : RefInv F' w' r ros := by
  obtain ⟨a, cap, h⟩ := h
  exact ⟨a, cap, h.keep hF hk⟩
theorem RefInv.below {F F' : Nat → Prop} {w w' : World} {r : Nat} {ros : List Ob} (h : RefInv F w r ros) (hb : Below w.heap.size w w') (hF : ∀ k, F k → F' k) : RefInv F' w' r ros := by
  obtain ⟨a, cap, h⟩ := h
  have h' := h.below hb
  exact ⟨a, cap, h'.keep hF (fun _ _ => rfl)⟩

theorem foldl_max (f : Ent → Int) : ∀ (es : List Ent) (h : Int), h ≤ es.foldl (fun h e => max h (f e)) h
  | [], _ => Int.le_refl _
  | e :: r, h => Int.le_trans (Int.le_max_left _ _) (foldl_max f r _)
theorem rhighs_nonneg (ros : List Ob) (es : List Ent) : 0 ≤ rhighs ros es := foldl_max (fun e => 1 + rhigh ros e) es 0

/-- One object more. -/
theorem RefAt.put {F G : Nat → Prop} {w w' : World} {r : Nat} {a : Option Addr} {cap : Nat} {ros : List Ob} {o : Ob} (h : RefAt F w r a cap ros) (ho : RObOk G w o) (h5 : rhighs ros o.ents ≤ 5) (hn : ros.length < 400) {g cap' : Nat}
    (h1 : w'.heap[r]? = some (.cells #[.slice (some ⟨g, 0, none⟩) (ros.length + 1) cap'] 147 (0, 0))) (h2 : w'.ownsRow 0 157 4 (.slice (some ⟨g, 0, none⟩) (ros.length + 1) cap') (ros.length + 1) (obCells ros ++ Ob.cells { o with high := rhighs ros o.ents }))
    (h3 : (some g : Option Nat) = (Value.slice a ros.length cap).ownBlock ∨ w.heap.size ≤ g) (h4 : Keeps (fun k => k = r ∨ some k = (Value.slice a ros.length cap).ownBlock) w w') :
    RefAt (fun k => F k ∨ G k ∨ (w.heap.size ≤ k ∧ k < w'.heap.size)) w' r (some ⟨g, 0, none⟩) cap' (ros ++ [{ o with high := rhighs ros o.ents }]) ∧ Keeps F w w' := by
  have hl : (ros ++ [{ o with high := rhighs ros o.ents }]).length = ros.length + 1 := by simp
  have items : ∀ {v : Value} {n : Nat} {xs : List Value}, w.ownsRow 0 159 3 v n xs → w'.ownsRow 0 159 3 v n xs := by
    intro v n xs hr
    refine ownsRow_keep hr fun k hk => ?_
    obtain ⟨cur, hcur⟩ := owns_block hr hk
    refine h4.block k (ownsRow_lt hr hk) ?_
    rintro (rfl | e)
    · have := h.hr; rw [hcur] at this; cases this
    · exact owns_ne_cells h.row hcur (by decide) e
  refine ⟨⟨.inl h.fr, ?_, ?_, ?_, ?_, ?_⟩, ⟨h4.os, h4.tape, h4.output, h4.size, ?_⟩⟩
  · intro k hk
    rcases h3 with e | e
    · refine .inl (h.fa k ?_)
      rw [← e]; exact hk
    · simp only [Value.ownBlock, Option.some.injEq] at hk
      subst hk
      exact .inr (.inr ⟨e, ownsRow_lt h2 rfl⟩)
  · rw [hl]; exact h1
  · rw [hl, obCells_snoc]; exact h2
  · rw [hl]; omega
  · intro x hx
    rcases List.mem_append.1 hx with hx | hx
    · have := h.obs x hx
      exact ⟨this.kind, this.size, this.len, this.few, this.high0, this.high5, items this.row, fun k hk => .inl (this.own k hk)⟩
    · rw [List.mem_singleton.1 hx]
      exact ⟨ho.kind, ho.size, ho.len, ho.few, rhighs_nonneg _ _, h5, items ho.row, fun k hk => .inr (.inl (ho.own k hk))⟩
  · intro k hk hnF
    refine h4.block k hk ?_
    rintro (rfl | e)
    · exact hnF h.fr
    · exact hnF (h.fa k e.symm)

def RPutG (ros ros' : List Ob) (o : Ob) (x : Int) : Prop :=
  (∃ i : Nat, findAt ros o = some i ∧ ros' = ros ∧ x = i) ∨ (findAt ros o = none ∧ 400 ≤ ros.length ∧ ros' = ros ∧ x = -1) ∨
  (findAt ros o = none ∧ ros.length < 400 ∧ ros' = ros ++ [{ o with high := rhighs ros o.ents }] ∧ x = ros.length)

def Grow (F G : Nat → Prop) (w w' : World) (k : Nat) : Prop := F k ∨ G k ∨ (w.heap.size ≤ k ∧ k < w'.heap.size)

theorem rput_any {F G : Nat → Prop} {w : World} {r : Nat} {ros : List Ob} (h : RefInv F w r ros) (o : Ob) (ho : RObOk G w o) (hz : o.high = 0) (h5 : rhighs ros o.ents ≤ 5) (hat : ∀ e ∈ o.ents, 0 ≤ e.2.2 ∧ e.2.2 < (ros.length : Int)) :
    Calls Tryz.prog 139 #[.pointer (some ⟨r, 0, none⟩), oAgg o] w fun e w' => ∃ x ros', e = .returned (.int .i64 x) ∧ RPutG ros ros' o x ∧ RefInv (Grow F G w w') w' r ros' ∧ Keeps F w w' := by
  obtain ⟨a, cap, h⟩ := h
  have inv : RefInv F w r ros := ⟨a, cap, h⟩
  cases hf : findAt ros o with
  | some i =>
    refine (put_hit r a cap ros o w h ho i hf).mono fun e w' ⟨he, hb⟩ => ?_
    exact ⟨_, ros, he, .inl ⟨i, hf, rfl, rfl⟩, inv.below hb (fun k hk => .inl hk), Keeps.of_below hb⟩
  | none =>
    by_cases hn : 400 ≤ ros.length
    · refine (put_full r a cap ros o w h ho hf hn).mono fun e w' ⟨he, hb⟩ => ?_
      exact ⟨_, ros, he, .inr (.inl ⟨hf, hn, rfl, rfl⟩), inv.below hb (fun k hk => .inl hk), Keeps.of_below hb⟩
    · refine (put_new r a cap ros o w h ho hz hf (by omega) hat).mono fun e w' ⟨he, g, cap', h1, h2, h3, h4⟩ => ?_
      have := h.put ho h5 (by omega) h1 h2 h3 h4
      exact ⟨_, _, he, .inr (.inr ⟨hf, by omega, rfl, rfl⟩), ⟨_, _, this.1⟩, this.2⟩

def RFilePut (ros ros' : List Ob) (d : ByteArray) (x y : Int) : Prop :=
  (256 < d.size ∧ ros' = ros ∧ x = -1 ∧ y = 11) ∨
  (d.size ≤ 256 ∧ ((∃ i : Nat, findAt ros (fileOb d) = some i ∧ ros' = ros ∧ x = i ∧ y = 0) ∨ (findAt ros (fileOb d) = none ∧ 400 ≤ ros.length ∧ ros' = ros ∧ x = -1 ∧ y = 11) ∨
    (findAt ros (fileOb d) = none ∧ ros.length < 400 ∧ ros' = ros ++ [fileOb d] ∧ x = ros.length ∧ y = 0)))

set_option maxRecDepth 100000 in
set_option maxHeartbeats 2000000 in
theorem rputFile_any {F : Nat → Prop} {w : World} {r : Nat} {ros : List Ob} (h : RefInv F w r ros) (d : ByteArray) (hd : d.size ≤ maxLen) :
    Calls Tryz.prog 75 #[.pointer (some ⟨r, 0, none⟩), .string d] w fun e w' => ∃ x y ros', e = .returned (.tuple #[.int .i64 x, .int .i64 y]) ∧ RFilePut ros ros' d x y ∧ RefInv (NewF F w w') w' r ros' ∧ Keeps F w w' := by
  unfold maxLen at hd
  by_cases hs : 256 < d.size
  · have HI : Hid (RefInv F w r ros) := h
    clear h
    go_enter Tryz.func75, Tryz.ntmps75
    go_wp2
    go_ret2
    exact ⟨_, _, ros, rfl, .inl ⟨hs, rfl, rfl, rfl⟩, HI.out.below (Below.refl _ _) (fun k hk => .inl hk), Keeps.of_below (Below.refl _ _)⟩
  · have ho : RObOk (fun _ => False) w (fileOb d) := ⟨.inl rfl, by show d.size ≤ 256; omega, rfl, by show 0 ≤ 16; omega, Int.le_refl _, by show (0 : Int) ≤ 5; omega, World.ownsRow_nil _ _ _ _, fun g hg => by cases hg⟩
    have hcon := rput_any h (fileOb d) ho rfl (by show (0 : Int) ≤ 5; omega) (fun e he => by cases he)
    have hcon' : Calls Tryz.prog 139 #[.pointer (some ⟨r, 0, none⟩), .agg #[.int .i64 1, .string d, .slice none 0 0, .int .i64 0]] w fun e w' => ∃ x ros', e = .returned (.int .i64 x) ∧ RPutG ros ros' (fileOb d) x ∧ RefInv (Grow F (fun _ => False) w w') w' r ros' ∧ Keeps F w w' := hcon
    clear hcon h ho
    have hs' : d.size ≤ 256 := by omega
    go_enter Tryz.func75, Tryz.ntmps75
    go_wp2_with fail
    refine hcon'.mono ?_
    rintro e w' ⟨x, ros', rfl, hp, hi, hk⟩
    have HI : Hid (RefInv (NewF F w w') w' r ros' ∧ Keeps F w w') := ⟨hi.keep (fun k hk => by rcases hk with h | h | h; exact .inl h; exact h.elim; exact .inr h) (fun _ _ => rfl), hk⟩
    have HP : Hid (RPutG ros ros' (fileOb d) x) := hp
    clear hcon' hi hk hp
    by_cases hx : x < 0
    · go_wp2
      go_ret2
      refine ⟨_, _, ros', rfl, .inr ⟨hs', ?_⟩, HI.out⟩
      rcases HP.out with ⟨i, h1, h2, h3⟩ | ⟨h1, h2, h3, h4⟩ | ⟨h1, h2, h3, h4⟩
      · omega
      · exact .inr (.inl ⟨h1, h2, h3, rfl, rfl⟩)
      · omega
    · go_wp2
      go_ret2
      refine ⟨_, _, ros', rfl, .inr ⟨hs', ?_⟩, HI.out⟩
      rcases HP.out with ⟨i, h1, h2, h3⟩ | ⟨h1, h2, h3, h4⟩ | ⟨h1, h2, h3, h4⟩
      · exact .inl ⟨i, h1, h2, h3, rfl⟩
      · omega
      · exact .inr (.inr ⟨h1, h2, h3, h4, rfl⟩)
end Go.Proofs.YtogeefmegegnnaaGreat
