/-
  What is proved here: 'grows': there is room for what is known of each object.
-/
import Derived.Test.YtogeefmegegnnaaGreatLawA
namespace Go.Proofs.YtogeefmegegnnaaGreat
open Go.RowKit Go.Sort Go.Shelf
set_option linter.unusedVariables false

theorem wpList_append_at {P : Program} {w : World} {ops : Array Oper} {rest : List Oper} {o : Oper} {a : Act} {Q : Exit → Act → World → Prop} (hgd : o.guard = none) (s x : Operand) (t : TypeId)
    (ho : o.op = .call { callee := .builtin .append, args := #[s, x], argTypes := #[t, t] })
    (base : Nat) (e : TypeId) (i : TypeInfo) (z : Value) (size bytes : Nat) (ht : P.underlying t = some (.slice e)) (hi : P.info? e = some i) (hz : i.zero = some z)
    (hsize : i.size = size) (hby : i.bytes = bytes) (hzs : z.cells.size = size) (hsz : 0 < size)
    (v : Value) (n : Nat) (xs : List Value) (hs : a.eval s = v) (hown : w.ownsRow base e size v n xs)
    (ad : Addr) (m c : Nat) (news : List Value) (hx : a.eval x = .slice (some ad) m c) (hl : news.length = m * size) (hnews : ∀ j u, news[j]? = some u → w.cell? (ad.add j) = some u) (h1 : ∀ u ∈ news, u.oneCell' = true)
    (h63 : n + m ≤ maxLen) (hbytes : (n + m) * bytes ≤ 140737488355328) (hbase : base ≤ w.heap.size)
    (h : ∀ v' w', w'.ownsRow base e size v' (n + m) (xs ++ news) → w.grownBy w' v.ownBlock → (v'.ownBlock = v.ownBlock ∨ v'.ownBlock = some w.heap.size) → wpList P ops Q rest (a.put o.dst v') w') : wpList P ops Q (o :: rest) a w := by
  obtain ⟨v', w', hrun, r1, r2, _, r3⟩ := run_append_own_at (P := P) w base t o.type e i z size bytes ht hi hz hsize hby hzs hsz v n xs hown ad m c news hl hnews h1 h63 hbytes hbase
  refine wpList_plain hgd fun _ hK => ?_
  unfold Oper.wp
  simp [execOp, ho, resolve, invoke, builtin, hs, hx, hrun, Result.andThen]
  exact hK _ _ (h v' w' r1 r2 r3)

/-- A row that hangs in a struct's cell, one or more longer, and the cell written. -/
theorem push_after {w w0 w2 : World} {W i : Nat} {cs : Array Value} {T t : TypeId} {size n m : Nat} {a : Option Addr} {cap g cap' : Nat} {xs news : List Value} (hW : w.heap[W]? = some (.cells cs T (0, 0))) (row : w.ownsRow 0 t size (.slice a n cap) n xs) (hT : T ≠ t)
    (kb : ∀ q, q < w.heap.size → w0.heap[q]? = w.heap[q]?) (hsr : w.heap.size ≤ w0.heap.size) (hq : w0.os = w.os ∧ w0.tape = w.tape ∧ w0.output = w.output) (hown : w2.ownsRow 0 t size (.slice (some ⟨g, 0, none⟩) (n + m) cap') (n + m) (xs ++ news))
    (hg : w0.grownBy w2 (Value.slice a n cap).ownBlock) {b : Nat} (hloc : (Value.slice (some ⟨g, 0, none⟩) (n + m) cap').ownBlock = (Value.slice a n cap).ownBlock ∨ (Value.slice (some ⟨g, 0, none⟩) (n + m) cap').ownBlock = some b) (hbb : w.heap.size ≤ b) :
    (w2.setCell ⟨W, i, none⟩ (.slice (some ⟨g, 0, none⟩) (n + m) cap')).heap[W]? = some (.cells (cs.setIfInBounds i (.slice (some ⟨g, 0, none⟩) (n + m) cap')) T (0, 0)) ∧ (w2.setCell ⟨W, i, none⟩ (.slice (some ⟨g, 0, none⟩) (n + m) cap')).ownsRow 0 t size (.slice (some ⟨g, 0, none⟩) (n + m) cap') (n + m) (xs ++ news) ∧
        ((some g : Option Nat) = (Value.slice a n cap).ownBlock ∨ w.heap.size ≤ g) ∧ Keeps (fun k => k = W ∨ some k = (Value.slice a n cap).ownBlock) w (w2.setCell ⟨W, i, none⟩ (.slice (some ⟨g, 0, none⟩) (n + m) cap')) := by
  have hWl : W < w.heap.size := (Array.getElem?_eq_some_iff.1 hW).1
  have hpa : some W ≠ (Value.slice a n cap).ownBlock := owns_ne_cells row hW hT
  have hkeep : ∀ k, k < w.heap.size → some k ≠ (Value.slice a n cap).ownBlock → w2.heap[k]? = w.heap[k]? := by
    intro k hk hne
    rw [hg.block k (by omega) hne, kb k hk]
  have hw2 : w2.heap[W]? = some (.cells cs T (0, 0)) := by rw [hkeep W hWl hpa, hW]
  have hgr : g ≠ W := by
    rintro rfl
    rcases hloc with h1 | h1
    · exact hpa h1
    · simp [Value.ownBlock] at h1; omega
  have hs := hg.size
  refine ⟨?_, ?_, ?_, ⟨hg.os.trans hq.1, hg.tape.trans hq.2.1, hg.output.trans hq.2.2, by simp; omega, ?_⟩⟩
  · simp [World.setCell, Array.getElem?_modify, hw2]
  · obtain ⟨h1, h2⟩ := hown
    refine ⟨h1, ?_⟩
    rcases h2 with ⟨h, _⟩ | ⟨g0, cap0, cur, hv, hb, hh, r⟩
    · cases h
    · cases hv
      exact Or.inr ⟨g, cap', cur, rfl, hb, by rw [Below.heap_setCell _ _ _ _ hgr]; exact hh, r⟩
  · rcases hloc with h | h
    · exact Or.inl h
    · simp [Value.ownBlock] at h; exact Or.inr (by omega)
  · intro k hk hne
    rw [Below.heap_setCell _ _ _ _ (fun e => hne (.inl e)), hkeep k hk (fun e => hne (.inr e))]
theorem rows_apart {w : World} {b b' : Nat} {t t' : TypeId} {z z' n n' : Nat} {v v' : Value} {xs xs' : List Value} (h : w.ownsRow b t z v n xs) (h' : w.ownsRow b' t' z' v' n' xs') (ht : t ≠ t') {g : Nat} (hg : v.ownBlock = some g) : some g ≠ v'.ownBlock := by
  obtain ⟨cur, hc⟩ := owns_block h hg
  exact owns_ne_cells h' hc ht
/-- A row stays where only a struct's block and another row's have turned. -/
theorem row_stays {w w' : World} {W : Nat} {own : Option Nat} {b : Nat} {t : TypeId} {z n : Nat} {v : Value} {xs : List Value} (h : w.ownsRow b t z v n xs) (hk : Keeps (fun k => k = W ∨ some k = own) w w') {cs : Array Value} {T : TypeId} (hW : w.heap[W]? = some (.cells cs T (0, 0))) (hT : T ≠ t) (ho : ∀ g, v.ownBlock = some g → some g ≠ own) : w'.ownsRow b t z v n xs := by
  refine ownsRow_keep h fun g hg => hk.block g (ownsRow_lt h hg) ?_
  rintro (rfl | e)
  · exact owns_ne_cells h hW hT hg.symm
  · exact ho g hg e

section
variable {F : Nat → Prop} {w : World} {W s r : Nat} {ia ka pa : Option Addr} {ic kc pc : Nat} {ids : List Int} {known : List Bool} {paths : List Int} {c5 c6 c7 c8 c9 c10 c11 : Value}

theorem keeps_sub {F : Nat → Prop} {w w' : World} {W : Nat} {own : Option Nat} (h : Keeps (fun k => k = W ∨ some k = own) w w') (h1 : F W) (h2 : ∀ g, own = some g → F g) : Keeps F w w' :=
  ⟨h.os, h.tape, h.output, h.size, fun k hk hn => h.block k hk (by rintro (rfl | e); exact hn h1; exact hn (h2 k e.symm))⟩
theorem newF_of {F : Nat → Prop} {w w' : World} {g n c : Nat} {own : Option Nat} {t : TypeId} {z : Nat} {xs : List Value} (p2 : w'.ownsRow 0 t z (.slice (some ⟨g, 0, none⟩) n c) n xs) (p3 : (some g : Option Nat) = own ∨ w.heap.size ≤ g) (h2 : ∀ g, own = some g → F g) : ∀ k, (Value.slice (some ⟨g, 0, none⟩) n c).ownBlock = some k → NewF F w w' k := by
  intro k hk
  simp only [Value.ownBlock, Option.some.injEq] at hk
  subst hk
  rcases p3 with e | e
  · exact .inl (h2 _ e.symm)
  · exact .inr ⟨e, ownsRow_lt p2 rfl⟩

theorem LawAt.pushI (h : LawAt F w W s r ia ka pa ic kc pc ids known paths c5 c6 c7 c8 c9 c10 c11) {w' : World} {g cap' : Nat} {x : Int}
    (p : w'.heap[W]? = some (.cells (Array.setIfInBounds #[.pointer (some ⟨s, 0, none⟩), .pointer (some ⟨r, 0, none⟩), .slice ia ids.length ic, .slice ka known.length kc, .slice pa paths.length pc, c5, c6, c7, c8, c9, c10, c11] 2 (.slice (some ⟨g, 0, none⟩) (ids.length + 1) cap')) 106 (0, 0)) ∧ w'.ownsRow 0 58 1 (.slice (some ⟨g, 0, none⟩) (ids.length + 1) cap') (ids.length + 1) (encI ids ++ [.int .i64 x]) ∧
        ((some g : Option Nat) = (Value.slice ia ids.length ic).ownBlock ∨ w.heap.size ≤ g) ∧ Keeps (fun k => k = W ∨ some k = (Value.slice ia ids.length ic).ownBlock) w w') :
    LawAt (NewF F w w') w' W s r (some ⟨g, 0, none⟩) ka pa cap' kc pc (ids ++ [x]) known paths c5 c6 c7 c8 c9 c10 c11 ∧ Keeps F w w' := by
  obtain ⟨p1, p2, p3, p4⟩ := p
  have hl : (ids ++ [x]).length = ids.length + 1 := by simp
  refine ⟨⟨.inl h.fw, ?_, ?_, row_stays h.rowK p4 h.hW (by decide) (fun g hg => rows_apart h.rowK h.rowI (by decide) hg), row_stays h.rowP p4 h.hW (by decide) (fun g hg => rows_apart h.rowP h.rowI (by decide) hg), ?_, fun g hg => .inl (h.fk g hg), fun g hg => .inl (h.fp g hg)⟩, keeps_sub p4 h.fw h.fi⟩
  · rw [hl]; exact p1
  · rw [hl]; simpa [encI] using p2
  · rw [hl]; exact newF_of p2 p3 h.fi

theorem LawAt.pushK (h : LawAt F w W s r ia ka pa ic kc pc ids known paths c5 c6 c7 c8 c9 c10 c11) {w' : World} {g cap' : Nat} {x : Bool}
    (p : w'.heap[W]? = some (.cells (Array.setIfInBounds #[.pointer (some ⟨s, 0, none⟩), .pointer (some ⟨r, 0, none⟩), .slice ia ids.length ic, .slice ka known.length kc, .slice pa paths.length pc, c5, c6, c7, c8, c9, c10, c11] 3 (.slice (some ⟨g, 0, none⟩) (known.length + 1) cap')) 106 (0, 0)) ∧ w'.ownsRow 0 4 1 (.slice (some ⟨g, 0, none⟩) (known.length + 1) cap') (known.length + 1) (encB known ++ [.bool x]) ∧
        ((some g : Option Nat) = (Value.slice ka known.length kc).ownBlock ∨ w.heap.size ≤ g) ∧ Keeps (fun k => k = W ∨ some k = (Value.slice ka known.length kc).ownBlock) w w') :
    LawAt (NewF F w w') w' W s r ia (some ⟨g, 0, none⟩) pa ic cap' pc ids (known ++ [x]) paths c5 c6 c7 c8 c9 c10 c11 ∧ Keeps F w w' := by
  obtain ⟨p1, p2, p3, p4⟩ := p
  have hl : (known ++ [x]).length = known.length + 1 := by simp
  refine ⟨⟨.inl h.fw, ?_, row_stays h.rowI p4 h.hW (by decide) (fun g hg => rows_apart h.rowI h.rowK (by decide) hg), ?_, row_stays h.rowP p4 h.hW (by decide) (fun g hg => rows_apart h.rowP h.rowK (by decide) hg), fun g hg => .inl (h.fi g hg), ?_, fun g hg => .inl (h.fp g hg)⟩, keeps_sub p4 h.fw h.fk⟩
  · rw [hl]; exact p1
  · rw [hl]; simpa [encB] using p2
  · rw [hl]; exact newF_of p2 p3 h.fk

theorem LawAt.pushP (h : LawAt F w W s r ia ka pa ic kc pc ids known paths c5 c6 c7 c8 c9 c10 c11) {w' : World} {g cap' : Nat} {x : Int}
    (p : w'.heap[W]? = some (.cells (Array.setIfInBounds #[.pointer (some ⟨s, 0, none⟩), .pointer (some ⟨r, 0, none⟩), .slice ia ids.length ic, .slice ka known.length kc, .slice pa paths.length pc, c5, c6, c7, c8, c9, c10, c11] 4 (.slice (some ⟨g, 0, none⟩) (paths.length + 1) cap')) 106 (0, 0)) ∧ w'.ownsRow 0 3 1 (.slice (some ⟨g, 0, none⟩) (paths.length + 1) cap') (paths.length + 1) (encI paths ++ [.int .i64 x]) ∧
        ((some g : Option Nat) = (Value.slice pa paths.length pc).ownBlock ∨ w.heap.size ≤ g) ∧ Keeps (fun k => k = W ∨ some k = (Value.slice pa paths.length pc).ownBlock) w w') :
    LawAt (NewF F w w') w' W s r ia ka (some ⟨g, 0, none⟩) ic kc cap' ids known (paths ++ [x]) c5 c6 c7 c8 c9 c10 c11 ∧ Keeps F w w' := by
  obtain ⟨p1, p2, p3, p4⟩ := p
  have hl : (paths ++ [x]).length = paths.length + 1 := by simp
  refine ⟨⟨.inl h.fw, ?_, row_stays h.rowI p4 h.hW (by decide) (fun g hg => rows_apart h.rowI h.rowP (by decide) hg), row_stays h.rowK p4 h.hW (by decide) (fun g hg => rows_apart h.rowK h.rowP (by decide) hg), ?_, fun g hg => .inl (h.fi g hg), fun g hg => .inl (h.fk g hg), ?_⟩, keeps_sub p4 h.fw h.fp⟩
  · rw [hl]; exact p1
  · rw [hl]; simpa [encI] using p2
  · rw [hl]; exact newF_of p2 p3 h.fp
end

end Go.Proofs.YtogeefmegegnnaaGreat
