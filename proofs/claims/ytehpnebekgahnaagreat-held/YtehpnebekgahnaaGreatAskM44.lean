/-
  What is proved here: what canopykeep's steps leave of the root: the file e stands there as it was stored, beside at most four other names; no file has been fetched. a workspace is checked out of a store: its memory, and that its tree is the stored directory.
-/
import Derived.Test.YtehpnebekgahnaaGreatAskM12
import Derived.Test.YtehpnebekgahnaaGreatAskM43
namespace Go.Proofs.YtehpnebekgahnaaGreat
open Go.RowKit Go.Sort Go.Shelf
set_option linter.unusedVariables false

/-! ### no file is fetched -/
def FS.Q (s s' : FS) : Prop := s'.kF = s.kF ∧ (s.brk = false → s'.brk = false)
theorem FS.Q.refl (s : FS) : s.Q s := ⟨rfl, id⟩
theorem FS.Q.trans {s s' s'' : FS} (h : s.Q s') (k : s'.Q s'') : s.Q s'' := ⟨k.1.trans h.1, fun hb => k.2 (h.2 hb)⟩
theorem q_dir (s : FS) (id : Int) : s.Q (s.dirG id).1 := by
  unfold FS.dirG
  split
  · exact FS.Q.refl _
  · split
    · exact ⟨rfl, fun _ => rfl⟩
    · exact ⟨rfl, fun h => h⟩
theorem q_kids (objs : List Ob) (s : FS) (c : LT) : s.Q (kidsG objs s c).1 := by
  cases c with
  | dir id =>
    have := q_dir s id
    show s.Q (if (s.dirG id).2 = true then ((s.dirG id).1, (0 : Int), (entsOf objs id).map kidOf) else ((s.dirG id).1, 14, [])).1
    split <;> exact this
  | file id => exact FS.Q.refl _
  | held f => exact FS.Q.refl _
  | own es => exact FS.Q.refl _
theorem q_find (objs : List Ob) (t : LT) (s : FS) : ∀ r, s.Q (findR objs t s r).1
  | [] => FS.Q.refl _
  | n :: r => by
    have ih := q_find objs t s r
    have hk := q_kids objs (findR objs t s r).1 (findR objs t s r).2.2
    rw [findR]
    simp only
    split
    · exact ih
    · split
      · exact ih.trans hk
      · split <;> exact ih.trans hk
theorem q_look (objs : List Ob) (t : LT) (s : FS) (r : List ByteArray) : s.Q (lookR objs t s r).1 := by
  have ih := q_find objs t s r
  have hk := q_kids objs (findR objs t s r).1 (findR objs t s r).2.2
  unfold lookR
  simp only
  split
  · exact ih
  · exact ih.trans hk
theorem q_vacant (objs : List Ob) (s : FS) (c : LT) : s.Q (vacantG objs s c).1 := by
  have hk := q_kids objs s c
  unfold vacantG
  split
  · exact FS.Q.refl _
  · simp only
    split <;> exact hk
theorem q_room (objs : List Ob) (s : FS) (b : Bool) (ks : Kids) (n : ByteArray) (c : LT) : s.Q (roomG objs s b ks n c).1 := by
  unfold roomG
  split
  · rename_i e _
    unfold yieldsG
    split
    · exact FS.Q.refl _
    · split
      · exact FS.Q.refl _
      · exact q_vacant objs s e
  · split <;> exact FS.Q.refl _
theorem q_mkdir (objs : List Ob) (t : LT) (s : FS) (n : ByteArray) (r : List ByteArray) : s.Q (mkdirR objs t s (n :: r)).1 := by
  have h := q_look objs t s r
  unfold mkdirR
  simp only
  split
  · exact h
  · split
    · exact h
    · split <;> exact h
theorem q_remove (objs : List Ob) (t : LT) (s : FS) (n : ByteArray) (r : List ByteArray) : s.Q (removeR objs t s (n :: r)).1 := by
  have h := q_find objs t s (n :: r)
  have hv := q_vacant objs (findR objs t s (n :: r)).1 (findR objs t s (n :: r)).2.2
  unfold removeR
  simp only
  split
  · exact h
  · split <;> exact h.trans hv
theorem q_rename (objs : List Ob) (t : LT) (s : FS) (n m : ByteArray) (r q : List ByteArray) : s.Q (renameR objs t s (n :: r) (m :: q)).1 := by
  have h := q_find objs t s (n :: r)
  have hl := q_look objs t (findR objs t s (n :: r)).1 q
  have hr := q_room objs (lookR objs t (findR objs t s (n :: r)).1 q).1 (decide (r = q)) (lookR objs t (findR objs t s (n :: r)).1 q).2.2 m (findR objs t s (n :: r)).2.2
  unfold renameR
  simp only
  split
  · exact h
  · split
    · exact h
    · split
      · exact h.trans hl
      · split
        · exact (h.trans hl).trans hr
        · split <;> exact (h.trans hl).trans hr

/-! ### the root -/
/-- e stands at the root as it was stored; beside it are only names of paths. -/
def RootOk (objs : List Ob) (t : LT) : Prop := ∃ ks, kids objs t = some ks ∧ pickK ks nameE = some (.file 1) ∧ ∀ x ∈ ks, x.1 ∈ letters ∨ x.1 = nameE

theorem root_mod {objs : List Ob} {t : LT} (h : RootOk objs t) (f : Kids → Kids) (q : List ByteArray) (hf : q = [] → ∀ ks, kids objs t = some ks → pickK ks nameE = some (.file 1) → (∀ x ∈ ks, x.1 ∈ letters ∨ x.1 = nameE) → pickK (f ks) nameE = some (.file 1) ∧ ∀ x ∈ f ks, x.1 ∈ letters ∨ x.1 = nameE) (hq : ∀ m r, q = m :: r → m ≠ nameE) : RootOk objs (modG objs f q t) := by
  obtain ⟨ks, h1, h2, h3⟩ := h
  cases q with
  | nil =>
    obtain ⟨a, b⟩ := hf rfl ks h1 h2 h3
    exact ⟨f ks, by rw [modG_kids, h1]; rfl, a, b⟩
  | cons m r =>
    refine ⟨_, modG_cons objs f m r t, ?_, fun x hx => ?_⟩
    · rw [h1, Option.getD_some, pick_map, if_neg (fun e => hq m r rfl e.symm)]
      exact h2
    · rw [h1, Option.getD_some] at hx
      obtain ⟨y, hy, rfl⟩ := List.mem_map.1 hx
      by_cases e : y.1 = m
      · rw [if_pos e]; exact h3 y hy
      · rw [if_neg e]; exact h3 y hy

theorem root_put {objs : List Ob} (hS : Sound objs) {k : Nat} {t : LT} (hok : LTok objs k t) (h : RootOk objs t) {q : List ByteArray} {n : ByteArray} (hl : ∀ x ∈ q ++ [n], x ∈ letters) (c : LT) : RootOk objs (modG objs (fun ks => putK ks n c) q t) := by
  have hn := letter_valid (hl n (by simp))
  refine root_mod h _ q (fun _ ks hk he hx => ?_) (fun m r e => (letter_valid (hl m (by rw [e]; simp))).2.1)
  have hr := (ok_kids hS hok hk).1
  refine ⟨by rw [pick_put hr, if_neg (fun e => hn.2.1 e.symm)]; exact he, fun x hx' => ?_⟩
  rcases mapK_mem hx' with rfl | hx'
  · exact .inl (hl n (by simp))
  · exact hx x hx'
theorem root_drop {objs : List Ob} (hS : Sound objs) {k : Nat} {t : LT} (hok : LTok objs k t) (h : RootOk objs t) {q : List ByteArray} {n : ByteArray} (hl : ∀ x ∈ q ++ [n], x ∈ letters) (hth : q = [] → ∀ ks, kids objs t = some ks → thereK ks n = true) : RootOk objs (modG objs (fun ks => dropK ks n) q t) := by
  have hn := letter_valid (hl n (by simp))
  refine root_mod h _ q (fun hq ks hk he hx => ?_) (fun m r e => (letter_valid (hl m (by rw [e]; simp))).2.1)
  have hr := (ok_kids hS hok hk).1
  exact ⟨by rw [pick_drop hr (hth hq ks hk), if_neg (fun e => hn.2.1 e.symm)]; exact he, fun x hx' => hx x (dropK_mem hx')⟩

theorem root_mkdir {objs : List Ob} (hS : Sound objs) {t : LT} (hok : LTok objs 5 t) (h : RootOk objs t) (fs : FS) {n : ByteArray} {r : List ByteArray} (hl : ∀ x ∈ r.reverse ++ [n], x ∈ letters) : RootOk objs (mkdirR objs t fs (n :: r)).2.2 := by
  unfold mkdirR
  simp only
  split
  · exact h
  · split
    · exact h
    · split
      · exact h
      · exact root_put hS hok h hl _
theorem root_remove {objs : List Ob} (hS : Sound objs) {t : LT} (hok : LTok objs 5 t) (h : RootOk objs t) (fs : FS) {n : ByteArray} {r : List ByteArray} (hl : ∀ x ∈ r.reverse ++ [n], x ∈ letters) : RootOk objs (removeR objs t fs (n :: r)).2.2 := by
  unfold removeR
  simp only
  split
  · exact h
  · rename_i hf
    split
    · exact h
    · obtain ⟨a, _, _, d, ks, h1, h2, h3⟩ := find_way (objs := objs) (t := t) (fs := fs) (n := n) (r := r) (fs' := (findR objs t fs (n :: r)).1) (c := (findR objs t fs (n :: r)).2.2) (by rw [← Decidable.not_not.1 hf])
      refine root_drop hS hok h hl (fun hq ks' hk' => ?_)
      rw [hq, at_nil] at h1
      cases h1
      rw [hk'] at h2
      cases h2
      rw [← pick_there (ok_kids hS hok hk').1, h3]; rfl
theorem root_rename {objs : List Ob} (hS : Sound objs) {t : LT} (hok : LTok objs 5 t) (h : RootOk objs t) (fs : FS) {n m : ByteArray} {r q : List ByteArray} (hl : ∀ x ∈ r.reverse ++ [n], x ∈ letters) (hm : ∀ x ∈ q.reverse ++ [m], x ∈ letters) : RootOk objs (renameR objs t fs (n :: r) (m :: q)).2.2 := by
  unfold renameR
  simp only
  split
  · exact h
  · rename_i hf
    split
    · exact h
    · split
      · exact h
      · split
        · exact h
        · split
          · exact h
          · obtain ⟨a, _, _, d, ks, h1, h2, h3⟩ := find_way (objs := objs) (t := t) (fs := fs) (n := n) (r := r) (fs' := (findR objs t fs (n :: r)).1) (c := (findR objs t fs (n :: r)).2.2) (by rw [← Decidable.not_not.1 hf])
            refine root_put hS (drop_ok hS hok h1 h2 n) (root_drop hS hok h hl (fun hq ks' hk' => ?_)) hm _
            rw [hq, at_nil] at h1
            cases h1
            rw [hk'] at h2
            cases h2
            rw [← pick_there (ok_kids hS hok hk').1, h3]; rfl
theorem Letters.split {l : List ByteArray} (h : Letters l) : ∃ (n : ByteArray) (r : List ByteArray), l = r.reverse ++ [n] := by
  have hne : l ≠ [] := fun e => by have := h.pos; rw [e] at this; simp at this
  exact ⟨l.getLast hne, l.dropLast.reverse, by rw [List.reverse_reverse, List.dropLast_concat_getLast]⟩
end Go.Proofs.YtehpnebekgahnaaGreat

namespace Go.Proofs.YtehpnebekgahnaaGreat
open Go.RowKit Go.Sort Go.Shelf
set_option linter.unusedVariables false

set_option maxRecDepth 100000 in
set_option maxHeartbeats 400000 in
theorem shF_new (f : Fn) (vs : Array Value) (w : World) : Calls Tryz.prog 84 #[.func f vs #[]] w fun e w' => e = .returned (.pointer (some ⟨w.heap.size + 1, 0, none⟩)) ∧ w' = (w.alloc (.map #[] 0)).alloc (.cells #[.func f vs #[], .map (some w.heap.size)] 178) := by
  have hmm := @run_makeMap Tryz.prog
  go_enter Tryz.func84, Tryz.ntmps84
  go_wp2
  go_ret
  exact ⟨rfl, rfl⟩
set_option maxRecDepth 100000 in
set_option maxHeartbeats 400000 in
theorem shD_new (f : Fn) (vs : Array Value) (w : World) : Calls Tryz.prog 86 #[.func f vs #[]] w fun e w' => e = .returned (.pointer (some ⟨w.heap.size + 1, 0, none⟩)) ∧ w' = (w.alloc (.map #[] 0)).alloc (.cells #[.func f vs #[], .map (some w.heap.size)] 182) := by
  have hmm := @run_makeMap Tryz.prog
  go_enter Tryz.func86, Tryz.ntmps86
  go_wp2
  go_ret
  exact ⟨rfl, rfl⟩

/-- The memory of a new workspace, ahead of the workspace itself. -/
def treeMem (w : World) (p : Nat) (root : Int) : World := ((((((w.alloc (.map #[] 0)).alloc (.cells #[.func (.func 85) #[ptr p] #[], .map (some w.heap.size)] 178)).alloc (.map #[] 0)).alloc (.cells #[.func (.func 87) #[ptr p] #[], .map (some (w.heap.size + 2))] 182)).alloc (.map #[] 0)).alloc (.map #[] 0)).alloc (.cells #[ptr p, ptr (w.heap.size + 1), ptr (w.heap.size + 3), .int .i64 root, .string ⟨#[]⟩, .int .i64 2, .int .i64 root, .map (some (w.heap.size + 4)), .map (some (w.heap.size + 5))] 128)

set_option maxRecDepth 100000 in
set_option maxHeartbeats 1000000 in
theorem tnew_any (p : Nat) (root : Int) (w : World) : Calls Tryz.prog 47 #[.pointer (some ⟨p, 0, none⟩), .int .i64 root] w fun e w' => e = .returned (.pointer (some ⟨w.heap.size + 6, 0, none⟩)) ∧ w' = treeMem w p root := by
  have h1 := fun vs W => shF_new (.func 85) vs W
  have h2 := fun vs W => shD_new (.func 87) vs W
  have hmm := @run_makeMap Tryz.prog
  go_enter Tryz.func47, Tryz.ntmps47
  go_wp2_with (first
    | (go_at_call 84; refine Calls.mono (h1 _ _) ?_; rintro e w1 ⟨rfl, rfl⟩)
    | (go_at_call 86; refine Calls.mono (h2 _ _) ?_; rintro e w1 ⟨rfl, rfl⟩))
  go_ret
  exact ⟨rfl, rfl⟩

/-- A new workspace. -/
def wsMem (w : World) (p : Nat) (root : Int) : World := (treeMem w p root).alloc (.cells #[ptr (w.heap.size + 6), .pointer none, .pointer none, .pointer none, .pointer none, .pointer none, .pointer none, .pointer none, .pointer none] 77)

set_option maxRecDepth 100000 in
set_option maxHeartbeats 1000000 in
theorem checkout_walk (s p : Nat) (id : Int) (w : World) (hs : s < w.heap.size) (c0 : w.cell? ⟨s, 0, none⟩ = some (.pointer (some ⟨p, 0, none⟩))) (hk : Calls Tryz.prog 46 #[.pointer (some ⟨p, 0, none⟩), .int .i64 id] w fun e w' => e = .returned (.int .i64 2) ∧ Below w.heap.size w w') :
    Calls Tryz.prog 23 #[.pointer (some ⟨s, 0, none⟩), .int .i64 id] w fun e w' => ∃ w1, Below w.heap.size w w1 ∧ e = .returned (.tuple #[.pointer (some ⟨w1.heap.size + 7, 0, none⟩), .int .i64 0]) ∧ w' = wsMem w1 p id := by
  have htn := fun W => tnew_any p id W
  have hts : ∀ W, (treeMem W p id).heap.size = W.heap.size + 7 := fun W => by unfold treeMem; simp
  go_enter Tryz.func23, Tryz.ntmps23
  go_wp2_with (first
    | (go_at_call 46; refine hk.mono ?_; rintro e w1 ⟨rfl, hb1⟩; have d0 := ((bcell hb1).1 s 0 hs).trans c0; have hs1 := Nat.lt_of_lt_of_le hs hb1.size)
    | (go_at_call 47; refine Calls.mono (htn _) ?_; rintro e w2 ⟨rfl, rfl⟩))
  go_ret2
  exact ⟨w1, hb1, rfl, rfl⟩

/-! ### its memory -/
def wsB (n : Nat) : WB := ⟨n + 7, n + 6, n + 1, n + 3, n, n + 2, n + 4, n + 5⟩
def wsTags (tg : Tags) (n i : Nat) : Tags := fun k => if k < n then tg k else if k = n then (i, 2) else if k = n + 1 then (i, 1) else if k = n + 2 then (i, 3) else if k = n + 3 then (i, 1) else if k = n + 4 then (i, 4) else if k = n + 5 then (i, 5) else if k = n + 6 then (i, 1) else if k = n + 7 then (i, 0) else (0, 0)
theorem wsMem_size (w : World) (p : Nat) (id : Int) : (wsMem w p id).heap.size = w.heap.size + 8 := by unfold wsMem treeMem; simp
theorem wsMem_below (w : World) (p : Nat) (id : Int) : Below w.heap.size w (wsMem w p id) := by
  unfold wsMem treeMem
  exact (((((((((Below.refl w.heap.size w).alloc (Nat.le_refl _) _).alloc (by simp) _).alloc (by simp; omega) _).alloc (by simp; omega) _).alloc (by simp; omega) _).alloc (by simp; omega) _).alloc (by simp; omega) _).alloc (by simp; omega) _)
theorem wsMem_heap (w : World) (p : Nat) (id : Int) :
    (wsMem w p id).heap[w.heap.size]? = some (.map #[] 0) ∧ (wsMem w p id).heap[w.heap.size + 1]? = some (.cells #[.func (.func 85) #[ptr p] #[], .map (some w.heap.size)] 178 (0, 0)) ∧ (wsMem w p id).heap[w.heap.size + 2]? = some (.map #[] 0) ∧ (wsMem w p id).heap[w.heap.size + 3]? = some (.cells #[.func (.func 87) #[ptr p] #[], .map (some (w.heap.size + 2))] 182 (0, 0)) ∧ (wsMem w p id).heap[w.heap.size + 4]? = some (.map #[] 0) ∧ (wsMem w p id).heap[w.heap.size + 5]? = some (.map #[] 0) ∧
    (wsMem w p id).heap[w.heap.size + 6]? = some (.cells #[ptr p, ptr (w.heap.size + 1), ptr (w.heap.size + 3), .int .i64 id, .string ⟨#[]⟩, .int .i64 2, .int .i64 id, .map (some (w.heap.size + 4)), .map (some (w.heap.size + 5))] 128 (0, 0)) ∧ (wsMem w p id).heap[w.heap.size + 7]? = some (.cells #[ptr (w.heap.size + 6), .pointer none, .pointer none, .pointer none, .pointer none, .pointer none, .pointer none, .pointer none, .pointer none] 77 (0, 0)) := by
  unfold wsMem treeMem World.alloc
  simp only [Array.getElem?_push, Array.size_push]
  refine ⟨?_, ?_, ?_, ?_, ?_, ?_, ?_, ?_⟩
  · rw [if_neg (by omega), if_neg (by omega), if_neg (by omega), if_neg (by omega), if_neg (by omega), if_neg (by omega), if_neg (by omega), if_pos trivial]
  all_goals simp

/-- A workspace of which nothing has been touched. -/
def wg0 (id : Int) (got : List Int) : WG := ⟨id, ⟨id, fun _ => none, fun _ => none⟩, ⟨got, false, fun _ => false, fun _ => false⟩, fun _ => none, fun _ => none⟩

section
variable {s i p : Nat} {objs : List Ob}

theorem new_ws {tg : Tags} {w : World} {got : List Int} {lim : Nat} (h : SInv tg w s p objs got false lim) (hi : 2 ≤ i) {id : Int} (hk : kindOf objs id = 2) :
    Moves (fun _ => False) tg (wsTags tg w.heap.size i) w (wsMem w p id) ∧ WInv (wsTags tg w.heap.size i) (wsMem w p id) s i p (wsB w.heap.size) objs (wg0 id got) lim := by
  have hb := wsMem_below w p id
  obtain ⟨b0, b1, b2, b3, b4, b5, b6, b7⟩ := wsMem_heap w p id
  have ht : ∀ k, k < w.heap.size → wsTags tg w.heap.size i k = tg k := fun k hk => by unfold wsTags; rw [if_pos hk]
  have m : Moves (fun _ => False) tg (wsTags tg w.heap.size i) w (wsMem w p id) := ⟨hb.os, hb.tape, hb.output, hb.size, ht, fun k hk _ => hb.block k hk, fun hf k hk => by
    rw [wsMem_size] at hk
    unfold wsTags
    rw [if_neg (by omega), if_neg (by omega), if_neg (by omega), if_neg (by omega), if_neg (by omega), if_neg (by omega), if_neg (by omega), if_neg (by omega), if_neg (by omega)]⟩
  have t0 : wsTags tg w.heap.size i w.heap.size = (i, 2) := by unfold wsTags; simp
  have t1 : wsTags tg w.heap.size i (w.heap.size + 1) = (i, 1) := by unfold wsTags; rw [if_neg (by omega)]; simp
  have t2 : wsTags tg w.heap.size i (w.heap.size + 2) = (i, 3) := by unfold wsTags; rw [if_neg (by omega)]; simp
  have t3 : wsTags tg w.heap.size i (w.heap.size + 3) = (i, 1) := by unfold wsTags; rw [if_neg (by omega)]; simp
  have t4 : wsTags tg w.heap.size i (w.heap.size + 4) = (i, 4) := by unfold wsTags; rw [if_neg (by omega)]; simp
  have t5 : wsTags tg w.heap.size i (w.heap.size + 5) = (i, 5) := by unfold wsTags; rw [if_neg (by omega)]; simp
  have t6 : wsTags tg w.heap.size i (w.heap.size + 6) = (i, 1) := by unfold wsTags; rw [if_neg (by omega)]; simp
  have t7 : wsTags tg w.heap.size i (w.heap.size + 7) = (i, 0) := by unfold wsTags; rw [if_neg (by omega)]; simp
  refine ⟨m, hi, h.moves m (fun x => x) (fun x => x), ⟨⟨t6, t1, t3, b6, b1, b3⟩, ⟨t0, 0, fun _ => none, Nat.zero_le _, vmap_at b0, fun id => rfl, fun id hx => by cases hx⟩, ⟨t2, 0, fun _ => none, fun _ => .slice none 0 0, Nat.zero_le _, vmap_at b2, fun id => rfl, fun id hx => by cases hx⟩, ⟨t4, ⟨0, Nat.zero_le _, fun _ => none, vmap_at b4, fun _ _ => rfl, fun kl _ hx => absurd rfl hx⟩, fun q f hx => by cases hx⟩, ⟨fun _ => .slice none 0 0, t5, ⟨0, Nat.zero_le _, fun _ => none, vmap_at b5, fun _ _ => rfl, fun kl _ hx => absurd rfl hx⟩, fun q es hx => (by cases hx), fun q es hx => (by cases hx), fun q r es fs gg hx => (by cases hx)⟩, fun f id d hx => (by cases hx), fun q f hx => (by cases hx), ⟨t7, b7, fun k hk => rfl, fun k b f fg pl hx => (by cases hx), fun k l x y hx => (by cases hx)⟩, ⟨fun _ => hk, fun q es hx => (by cases hx)⟩⟩⟩

theorem stored_at (objs : List Ob) : ∀ (q : List ByteArray) (id : Int), odOf ((LT.dir id).at objs q) = none ∧ ofOf ((LT.dir id).at objs q) = none
  | [], id => by rw [at_nil]; exact ⟨rfl, rfl⟩
  | n :: r, id => by
    rw [at_cons]
    show odOf ((pickK ((entsOf objs id).map kidOf) n).bind _) = none ∧ ofOf ((pickK ((entsOf objs id).map kidOf) n).bind _) = none
    cases hp : pickK ((entsOf objs id).map kidOf) n with
    | none => exact ⟨rfl, rfl⟩
    | some c =>
      obtain ⟨e, _, he⟩ := List.mem_map.1 (pick_mem hp)
      have hc : c = ltOf e := by unfold kidOf at he; exact (Prod.mk.inj he).2.symm
      rw [Option.bind_some, hc]
      unfold ltOf
      split
      · exact stored_at objs r _
      · cases r with
        | nil => rw [at_nil]; exact ⟨rfl, rfl⟩
        | cons m r => rw [at_cons]; exact ⟨rfl, rfl⟩
theorem new_flat (id : Int) (got : List Int) : Flat objs (.dir id) (wg0 id got).ft := ⟨rfl, rfl, fun q => (stored_at objs q id).1.symm, fun q => (stored_at objs q id).2.symm⟩
end
end Go.Proofs.YtehpnebekgahnaaGreat
