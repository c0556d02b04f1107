/-
  What is proved here: a workspace is checked out of a store: its memory, and that its tree is the stored directory. what Stat fetches: what stands on the way and what stands there, each once. the objects of the directories on the way to a path, and of what stands there, as canopykeep's allowed looks for them, are those that Stat may fetch; the first ones it must. Fetched of a store: a new list of all that has been fetched; canopykeep's has: is an object in a list, from a place on.
-/
import Derived.Test.YtajopoddmfdejaaGreatLazyM31
import Derived.Test.YtajopoddmfdejaaGreatLazyM33
import Derived.Test.YtajopoddmfdejaaGreatLazyM04
import Derived.Shelf.SlicesE.Clone
namespace Go.Proofs.YtajopoddmfdejaaGreat
open Go.RowKit Go.Sort Go.Shelf
set_option linter.unusedVariables false

set_option maxRecDepth 100000 in
set_option maxHeartbeats 400000 in
theorem shF_new (f : Fn) (vs : Array Value) (w : World) : Calls Tryz.prog 103 #[.func f vs #[]] w fun e w' => e = .returned (.pointer (some ⟨w.heap.size + 1, 0, none⟩)) ∧ w' = (w.alloc (.map #[] 0)).alloc (.cells #[.func f vs #[], .map (some w.heap.size)] 219) := by
  have hmm := @run_makeMap Tryz.prog
  go_enter Tryz.func103, Tryz.ntmps103
  go_wp2
  go_ret
  exact ⟨rfl, rfl⟩
set_option maxRecDepth 100000 in
set_option maxHeartbeats 400000 in
theorem shD_new (f : Fn) (vs : Array Value) (w : World) : Calls Tryz.prog 105 #[.func f vs #[]] w fun e w' => e = .returned (.pointer (some ⟨w.heap.size + 1, 0, none⟩)) ∧ w' = (w.alloc (.map #[] 0)).alloc (.cells #[.func f vs #[], .map (some w.heap.size)] 223) := by
  have hmm := @run_makeMap Tryz.prog
  go_enter Tryz.func105, Tryz.ntmps105
  go_wp2
  go_ret
  exact ⟨rfl, rfl⟩

/-- The memory of a new workspace, ahead of the workspace itself. -/
def treeMem (w : World) (p : Nat) (root : Int) : World := ((((((w.alloc (.map #[] 0)).alloc (.cells #[.func (.func 104) #[ptr p] #[], .map (some w.heap.size)] 219)).alloc (.map #[] 0)).alloc (.cells #[.func (.func 106) #[ptr p] #[], .map (some (w.heap.size + 2))] 223)).alloc (.map #[] 0)).alloc (.map #[] 0)).alloc (.cells #[ptr p, ptr (w.heap.size + 1), ptr (w.heap.size + 3), .int .i64 root, .string ⟨#[]⟩, .int .i64 2, .int .i64 root, .map (some (w.heap.size + 4)), .map (some (w.heap.size + 5))] 130)

set_option maxRecDepth 100000 in
set_option maxHeartbeats 1000000 in
theorem tnew_any (p : Nat) (root : Int) (w : World) : Calls Tryz.prog 62 #[.pointer (some ⟨p, 0, none⟩), .int .i64 root] w fun e w' => e = .returned (.pointer (some ⟨w.heap.size + 6, 0, none⟩)) ∧ w' = treeMem w p root := by
  have h1 := fun vs W => shF_new (.func 104) vs W
  have h2 := fun vs W => shD_new (.func 106) vs W
  have hmm := @run_makeMap Tryz.prog
  go_enter Tryz.func62, Tryz.ntmps62
  go_wp2_with (first
    | (go_at_call 103; refine Calls.mono (h1 _ _) ?_; rintro e w1 ⟨rfl, rfl⟩)
    | (go_at_call 105; refine Calls.mono (h2 _ _) ?_; rintro e w1 ⟨rfl, rfl⟩))
  go_ret
  exact ⟨rfl, rfl⟩

/-- A new workspace. -/
def wsMem (w : World) (p : Nat) (root : Int) : World := (treeMem w p root).alloc (.cells #[ptr (w.heap.size + 6), .pointer none, .pointer none, .pointer none, .pointer none, .pointer none, .pointer none, .pointer none, .pointer none] 99)

set_option maxRecDepth 100000 in
set_option maxHeartbeats 1000000 in
theorem checkout_walk (s p : Nat) (id : Int) (w : World) (hs : s < w.heap.size) (c0 : w.cell? ⟨s, 0, none⟩ = some (.pointer (some ⟨p, 0, none⟩))) (hk : Calls Tryz.prog 61 #[.pointer (some ⟨p, 0, none⟩), .int .i64 id] w fun e w' => e = .returned (.int .i64 2) ∧ Below w.heap.size w w') :
    Calls Tryz.prog 40 #[.pointer (some ⟨s, 0, none⟩), .int .i64 id] w fun e w' => ∃ w1, Below w.heap.size w w1 ∧ e = .returned (.tuple #[.pointer (some ⟨w1.heap.size + 7, 0, none⟩), .int .i64 0]) ∧ w' = wsMem w1 p id := by
  have htn := fun W => tnew_any p id W
  have hts : ∀ W, (treeMem W p id).heap.size = W.heap.size + 7 := fun W => by unfold treeMem; simp
  go_enter Tryz.func40, Tryz.ntmps40
  go_wp2_with (first
    | (go_at_call 61; refine hk.mono ?_; rintro e w1 ⟨rfl, hb1⟩; have d0 := ((bcell hb1).1 s 0 hs).trans c0; have hs1 := Nat.lt_of_lt_of_le hs hb1.size)
    | (go_at_call 62; refine Calls.mono (htn _) ?_; rintro e w2 ⟨rfl, rfl⟩))
  go_ret2
  exact ⟨w1, hb1, rfl, rfl⟩

/-! ### its memory -/
def wsB (n : Nat) : WB := ⟨n + 7, n + 6, n + 1, n + 3, n, n + 2, n + 4, n + 5⟩
def wsTags (tg : Tags) (n i : Nat) : Tags := fun k => if k < n then tg k else if k = n then (i, 2) else if k = n + 1 then (i, 1) else if k = n + 2 then (i, 3) else if k = n + 3 then (i, 1) else if k = n + 4 then (i, 4) else if k = n + 5 then (i, 5) else if k = n + 6 then (i, 1) else if k = n + 7 then (i, 0) else (0, 0)
theorem wsMem_size (w : World) (p : Nat) (id : Int) : (wsMem w p id).heap.size = w.heap.size + 8 := by unfold wsMem treeMem; simp
theorem wsMem_below (w : World) (p : Nat) (id : Int) : Below w.heap.size w (wsMem w p id) := by
  unfold wsMem treeMem
  exact (((((((((Below.refl w.heap.size w).alloc (Nat.le_refl _) _).alloc (by simp) _).alloc (by simp; omega) _).alloc (by simp; omega) _).alloc (by simp; omega) _).alloc (by simp; omega) _).alloc (by simp; omega) _).alloc (by simp; omega) _)
theorem wsMem_heap (w : World) (p : Nat) (id : Int) :
    (wsMem w p id).heap[w.heap.size]? = some (.map #[] 0) ∧ (wsMem w p id).heap[w.heap.size + 1]? = some (.cells #[.func (.func 104) #[ptr p] #[], .map (some w.heap.size)] 219 (0, 0)) ∧ (wsMem w p id).heap[w.heap.size + 2]? = some (.map #[] 0) ∧ (wsMem w p id).heap[w.heap.size + 3]? = some (.cells #[.func (.func 106) #[ptr p] #[], .map (some (w.heap.size + 2))] 223 (0, 0)) ∧ (wsMem w p id).heap[w.heap.size + 4]? = some (.map #[] 0) ∧ (wsMem w p id).heap[w.heap.size + 5]? = some (.map #[] 0) ∧
    (wsMem w p id).heap[w.heap.size + 6]? = some (.cells #[ptr p, ptr (w.heap.size + 1), ptr (w.heap.size + 3), .int .i64 id, .string ⟨#[]⟩, .int .i64 2, .int .i64 id, .map (some (w.heap.size + 4)), .map (some (w.heap.size + 5))] 130 (0, 0)) ∧ (wsMem w p id).heap[w.heap.size + 7]? = some (.cells #[ptr (w.heap.size + 6), .pointer none, .pointer none, .pointer none, .pointer none, .pointer none, .pointer none, .pointer none, .pointer none] 99 (0, 0)) := by
  unfold wsMem treeMem World.alloc
  simp only [Array.getElem?_push, Array.size_push]
  refine ⟨?_, ?_, ?_, ?_, ?_, ?_, ?_, ?_⟩
  · rw [if_neg (by omega), if_neg (by omega), if_neg (by omega), if_neg (by omega), if_neg (by omega), if_neg (by omega), if_neg (by omega), if_pos trivial]
  all_goals simp

/-- A workspace of which nothing has been touched. -/
def wg0 (id : Int) (got : List Int) : WG := ⟨id, ⟨id, fun _ => none, fun _ => none⟩, ⟨got, false, fun _ => false, fun _ => false⟩, fun _ => none, fun _ => none⟩

section
variable {s i p : Nat} {objs : List Ob}

theorem new_ws {tg : Tags} {w : World} {got : List Int} {lim : Nat} (h : SInv tg w s p objs got false lim) (hi : 2 ≤ i) {id : Int} (hk : kindOf objs id = 2) :
    Moves (fun _ => False) tg (wsTags tg w.heap.size i) w (wsMem w p id) ∧ WInv (wsTags tg w.heap.size i) (wsMem w p id) s i p (wsB w.heap.size) objs (wg0 id got) lim := by
  have hb := wsMem_below w p id
  obtain ⟨b0, b1, b2, b3, b4, b5, b6, b7⟩ := wsMem_heap w p id
  have ht : ∀ k, k < w.heap.size → wsTags tg w.heap.size i k = tg k := fun k hk => by unfold wsTags; rw [if_pos hk]
  have m : Moves (fun _ => False) tg (wsTags tg w.heap.size i) w (wsMem w p id) := ⟨hb.os, hb.tape, hb.output, hb.size, ht, fun k hk _ => hb.block k hk, fun hf k hk => by
    rw [wsMem_size] at hk
    unfold wsTags
    rw [if_neg (by omega), if_neg (by omega), if_neg (by omega), if_neg (by omega), if_neg (by omega), if_neg (by omega), if_neg (by omega), if_neg (by omega), if_neg (by omega)]⟩
  have t0 : wsTags tg w.heap.size i w.heap.size = (i, 2) := by unfold wsTags; simp
  have t1 : wsTags tg w.heap.size i (w.heap.size + 1) = (i, 1) := by unfold wsTags; rw [if_neg (by omega)]; simp
  have t2 : wsTags tg w.heap.size i (w.heap.size + 2) = (i, 3) := by unfold wsTags; rw [if_neg (by omega)]; simp
  have t3 : wsTags tg w.heap.size i (w.heap.size + 3) = (i, 1) := by unfold wsTags; rw [if_neg (by omega)]; simp
  have t4 : wsTags tg w.heap.size i (w.heap.size + 4) = (i, 4) := by unfold wsTags; rw [if_neg (by omega)]; simp
  have t5 : wsTags tg w.heap.size i (w.heap.size + 5) = (i, 5) := by unfold wsTags; rw [if_neg (by omega)]; simp
  have t6 : wsTags tg w.heap.size i (w.heap.size + 6) = (i, 1) := by unfold wsTags; rw [if_neg (by omega)]; simp
  have t7 : wsTags tg w.heap.size i (w.heap.size + 7) = (i, 0) := by unfold wsTags; rw [if_neg (by omega)]; simp
  refine ⟨m, hi, h.moves m (fun x => x) (fun x => x), ⟨⟨t6, t1, t3, b6, b1, b3⟩, ⟨t0, 0, fun _ => none, Nat.zero_le _, vmap_at b0, fun id => rfl, fun id hx => by cases hx⟩, ⟨t2, 0, fun _ => none, fun _ => .slice none 0 0, Nat.zero_le _, vmap_at b2, fun id => rfl, fun id hx => by cases hx⟩, ⟨t4, ⟨0, Nat.zero_le _, fun _ => none, vmap_at b4, fun _ _ => rfl, fun kl _ hx => absurd rfl hx⟩, fun q f hx => by cases hx⟩, ⟨fun _ => .slice none 0 0, t5, ⟨0, Nat.zero_le _, fun _ => none, vmap_at b5, fun _ _ => rfl, fun kl _ hx => absurd rfl hx⟩, fun q es hx => (by cases hx), fun q es hx => (by cases hx), fun q r es fs gg hx => (by cases hx)⟩, fun f id d hx => (by cases hx), fun q f hx => (by cases hx), ⟨t7, b7, fun k hk => rfl, fun k b f fg pl hx => (by cases hx), fun k l x y hx => (by cases hx)⟩, ⟨fun _ => hk, fun q es hx => (by cases hx)⟩⟩⟩

theorem stored_at (objs : List Ob) : ∀ (q : List ByteArray) (id : Int), odOf ((LT.dir id).at objs q) = none ∧ ofOf ((LT.dir id).at objs q) = none
  | [], id => by rw [at_nil]; exact ⟨rfl, rfl⟩
  | n :: r, id => by
    rw [at_cons]
    show odOf ((pickK ((entsOf objs id).map kidOf) n).bind _) = none ∧ ofOf ((pickK ((entsOf objs id).map kidOf) n).bind _) = none
    cases hp : pickK ((entsOf objs id).map kidOf) n with
    | none => exact ⟨rfl, rfl⟩
    | some c =>
      obtain ⟨e, _, he⟩ := List.mem_map.1 (pick_mem hp)
      have hc : c = ltOf e := by unfold kidOf at he; exact (Prod.mk.inj he).2.symm
      rw [Option.bind_some, hc]
      unfold ltOf
      split
      · exact stored_at objs r _
      · cases r with
        | nil => rw [at_nil]; exact ⟨rfl, rfl⟩
        | cons m r => rw [at_cons]; exact ⟨rfl, rfl⟩
theorem new_flat (id : Int) (got : List Int) : Flat objs (.dir id) (wg0 id got).ft := ⟨rfl, rfl, fun q => (stored_at objs q id).1.symm, fun q => (stored_at objs q id).2.symm⟩
end
end Go.Proofs.YtajopoddmfdejaaGreat

namespace Go.Proofs.YtajopoddmfdejaaGreat
open Go.RowKit Go.Sort Go.Shelf
set_option linter.unusedVariables false

/-- What a workspace has fetched itself: before it there was 'before'; each once; just what it has kept. -/
structure GI (objs : List Ob) (before : List Int) (fs : FS) (L : List Int) : Prop where
  got : fs.got = before ++ L
  nodup : L.Nodup
  kind : ∀ x ∈ L, kindOf objs x = 1 ∨ kindOf objs x = 2
  dir : ∀ x, kindOf objs x = 2 → (fs.kD x = true ↔ x ∈ L)
  file : ∀ x, kindOf objs x = 1 → (fs.kF x = true ↔ x ∈ L)

/-- What may have become of it: only objects of S have come, what was kept is. -/
def Gr (objs : List Ob) (S : Int → Prop) (fs fs' : FS) : Prop :=
  fs'.brk = false ∧ (∀ x, fs.kD x = true → fs'.kD x = true) ∧ (∀ x, fs.kF x = true → fs'.kF x = true) ∧ ∀ before L, GI objs before fs L → ∃ M, GI objs before fs' (L ++ M) ∧ ∀ x ∈ M, S x

theorem Gr.refl {objs : List Ob} {S : Int → Prop} {fs : FS} (h : fs.brk = false) : Gr objs S fs fs := ⟨h, fun _ h => h, fun _ h => h, fun before L hG => ⟨[], by rw [List.append_nil]; exact hG, fun x hx => by cases hx⟩⟩
theorem Gr.trans {objs : List Ob} {S : Int → Prop} {fs fs' fs'' : FS} (h : Gr objs S fs fs') (k : Gr objs S fs' fs'') : Gr objs S fs fs'' := by
  obtain ⟨h1, h2, h3, h4⟩ := h
  obtain ⟨k1, k2, k3, k4⟩ := k
  refine ⟨k1, fun x hx => k2 x (h2 x hx), fun x hx => k3 x (h3 x hx), fun before L hG => ?_⟩
  obtain ⟨M, hM, hS⟩ := h4 before L hG
  obtain ⟨M', hM', hS'⟩ := k4 before _ hM
  refine ⟨M ++ M', by rw [← List.append_assoc]; exact hM', fun x hx => ?_⟩
  rcases List.mem_append.1 hx with hx | hx
  · exact hS x hx
  · exact hS' x hx
theorem Gr.mono {objs : List Ob} {S S' : Int → Prop} {fs fs' : FS} (h : Gr objs S fs fs') (hs : ∀ x, S x → S' x) : Gr objs S' fs fs' := by
  obtain ⟨h1, h2, h3, h4⟩ := h
  refine ⟨h1, h2, h3, fun before L hG => ?_⟩
  obtain ⟨M, hM, hS⟩ := h4 before L hG
  exact ⟨M, hM, fun x hx => hs x (hS x hx)⟩

theorem gr_dir {objs : List Ob} {S : Int → Prop} {fs : FS} (hb : fs.brk = false) {x : Int} (hk : kindOf objs x = 2) (hs : S x) : Gr objs S fs (fs.dirG x).1 ∧ (fs.dirG x).2 = true ∧ (fs.dirG x).1.kD x = true := by
  unfold FS.dirG
  by_cases h : fs.kD x = true
  · rw [if_pos h]; exact ⟨Gr.refl hb, rfl, h⟩
  · rw [if_neg h, if_neg (by rw [hb]; decide)]
    refine ⟨⟨hb, fun y hy => by simp [hy], fun y hy => hy, fun before L hG => ⟨[x], ?_, fun y hy => by rw [List.mem_singleton.1 hy]; exact hs⟩⟩, rfl, by simp⟩
    have hx : x ∉ L := fun hx => h ((hG.dir x hk).2 hx)
    refine ⟨by show fs.got ++ [x] = _; rw [hG.got, List.append_assoc], ?_, fun y hy => ?_, fun y hy => ?_, fun y hy => ?_⟩
    · rw [List.nodup_append]
      refine ⟨hG.nodup, by simp, fun a ha b hb' e => ?_⟩
      rw [List.mem_singleton.1 hb'] at e
      exact hx (e ▸ ha)
    · rcases List.mem_append.1 hy with hy | hy
      · exact hG.kind y hy
      · rw [List.mem_singleton.1 hy]; exact .inr hk
    · show (decide (y = x) || fs.kD y) = true ↔ _
      rw [List.mem_append, List.mem_singleton, Bool.or_eq_true, decide_eq_true_iff, hG.dir y hy]
      exact Or.comm
    · show fs.kF y = true ↔ _
      rw [List.mem_append, List.mem_singleton, hG.file y hy]
      refine ⟨.inl, fun h => ?_⟩
      rcases h with h | h
      · exact h
      · rw [h, hk] at hy; cases hy
theorem gr_file {objs : List Ob} {S : Int → Prop} {fs : FS} (hb : fs.brk = false) {x : Int} (hk : kindOf objs x = 1) (hs : S x) : Gr objs S fs (fs.fileG x).1 ∧ (fs.fileG x).2 = true ∧ (fs.fileG x).1.kF x = true := by
  unfold FS.fileG
  by_cases h : fs.kF x = true
  · rw [if_pos h]; exact ⟨Gr.refl hb, rfl, h⟩
  · rw [if_neg h, if_neg (by rw [hb]; decide)]
    refine ⟨⟨hb, fun y hy => hy, fun y hy => by simp [hy], fun before L hG => ⟨[x], ?_, fun y hy => by rw [List.mem_singleton.1 hy]; exact hs⟩⟩, rfl, by simp⟩
    have hx : x ∉ L := fun hx => h ((hG.file x hk).2 hx)
    refine ⟨by show fs.got ++ [x] = _; rw [hG.got, List.append_assoc], ?_, fun y hy => ?_, fun y hy => ?_, fun y hy => ?_⟩
    · rw [List.nodup_append]
      refine ⟨hG.nodup, by simp, fun a ha b hb' e => ?_⟩
      rw [List.mem_singleton.1 hb'] at e
      exact hx (e ▸ ha)
    · rcases List.mem_append.1 hy with hy | hy
      · exact hG.kind y hy
      · rw [List.mem_singleton.1 hy]; exact .inl hk
    · show fs.kD y = true ↔ _
      rw [List.mem_append, List.mem_singleton, hG.dir y hy]
      refine ⟨.inl, fun h => ?_⟩
      rcases h with h | h
      · exact h
      · rw [h, hk] at hy; cases hy
    · show (decide (y = x) || fs.kF y) = true ↔ _
      rw [List.mem_append, List.mem_singleton, Bool.or_eq_true, decide_eq_true_iff, hG.file y hy]
      exact Or.comm

/-- What stands at, or on the way to, a path. -/
def OnWay (objs : List Ob) (id : Int) (p : List ByteArray) (x : Int) : Prop := ∃ q c, q <+: p ∧ (LT.dir id).at objs q = some c ∧ c.id = x
/-- It is on the workspace's shelf. -/
def Kept (objs : List Ob) (fs : FS) (c : LT) : Prop := if c.kind = 2 then fs.kD c.id = true else fs.kF c.id = true
theorem Kept.mono {objs : List Ob} {S : Int → Prop} {fs fs' : FS} {c : LT} (h : Kept objs fs c) (hg : Gr objs S fs fs') : Kept objs fs' c := by
  unfold Kept at h ⊢
  by_cases hk : c.kind = 2
  · rw [if_pos hk] at h ⊢; exact hg.2.1 _ h
  · rw [if_neg hk] at h ⊢; exact hg.2.2.1 _ h

/-- What stands in a stored tree is stored. -/
theorem stored_there {objs : List Ob} {id : Int} {q : List ByteArray} {c : LT} (h : (LT.dir id).at objs q = some c) : (∃ i, c = .file i) ∨ ∃ i, c = .dir i := by
  have hst := stored_at objs q id
  rw [h] at hst
  cases c with
  | file i => exact .inl ⟨i, rfl⟩
  | dir i => exact .inr ⟨i, rfl⟩
  | held f => have := hst.2; simp [ofOf] at this
  | own es => have := hst.1; simp [odOf] at this

theorem find_gr {objs : List Ob} (hS : Sound objs) {id : Int} (hok : LTok objs 5 (.dir id)) {fs : FS} (hb : fs.brk = false) : ∀ r : List ByteArray, Gr objs (OnWay objs id r.reverse) fs (findR objs (.dir id) fs r).1 ∧ ∀ q c, q <+: r.reverse → q ≠ r.reverse → (LT.dir id).at objs q = some c → c.kind = 2 → Kept objs (findR objs (.dir id) fs r).1 c
  | [] => ⟨Gr.refl hb, fun q c hq hne => absurd (List.prefix_nil.1 hq) hne⟩
  | n :: r => by
    obtain ⟨i1, i2⟩ := find_gr hS hok hb r
    have hrev : (n :: r).reverse = r.reverse ++ [n] := List.reverse_cons
    have hmono : ∀ x, OnWay objs id r.reverse x → OnWay objs id (n :: r).reverse x := by
      rintro x ⟨q, c, hq, hc⟩
      exact ⟨q, c, by rw [hrev]; exact hq.trans (List.prefix_append _ _), hc⟩
    have i1' := i1.mono hmono
    have hold : ∀ (fs' : FS), Gr objs (OnWay objs id (n :: r).reverse) (findR objs (.dir id) fs r).1 fs' → (∀ c, (LT.dir id).at objs r.reverse = some c → c.kind = 2 → Kept objs fs' c) → ∀ q c, q <+: (n :: r).reverse → q ≠ (n :: r).reverse → (LT.dir id).at objs q = some c → c.kind = 2 → Kept objs fs' c := by
      intro fs' hg hl q c hq hne hc hk
      rw [hrev] at hq hne
      rcases prefix_snoc hq with hq' | hq'
      · by_cases e : q = r.reverse
        · exact hl c (by rw [← e]; exact hc) hk
        · exact (i2 q c hq' e hc hk).mono hg
      · exact absurd hq' hne
    have hnob := find_nobrk (objs := objs) (t := .dir id) hb r
    have hfb := i1.1
    have e1 : (findR objs (.dir id) fs r).2.1 = (findE objs (.dir id) r).1 := by rw [hnob]
    have e2 : (findR objs (.dir id) fs r).2.2 = (findE objs (.dir id) r).2 := by rw [hnob]
    obtain ⟨fa, fn⟩ := findE_at objs (.dir id) r
    by_cases h0 : (findR objs (.dir id) fs r).2.1 ≠ 0
    · have hf : (findR objs (.dir id) fs (n :: r)).1 = (findR objs (.dir id) fs r).1 := by
        rw [findR]; simp only [if_pos h0]
      rw [hf]
      refine ⟨i1', hold _ (Gr.refl hfb) (fun c hc => ?_)⟩
      rw [fn (by rw [← e1]; exact h0)] at hc; cases hc
    · have hat : (LT.dir id).at objs r.reverse = some (findR objs (.dir id) fs r).2.2 := by rw [e2]; exact fa (by rw [← e1]; exact Decidable.not_not.1 h0)
      have hf : (findR objs (.dir id) fs (n :: r)).1 = (kidsG objs (findR objs (.dir id) fs r).1 (findR objs (.dir id) fs r).2.2).1 := by
        rw [findR]; simp only [if_neg h0]
        split
        · rfl
        · split <;> rfl
      rw [hf]
      generalize (findR objs (.dir id) fs r).1 = fs1 at *
      generalize (findR objs (.dir id) fs r).2.2 = c0 at *
      rcases stored_there hat with ⟨i, rfl⟩ | ⟨i, rfl⟩
      · refine ⟨i1', hold _ (Gr.refl hfb) (fun c hc hk => ?_)⟩
        rw [hat] at hc; cases hc; cases hk
      · have hki : kindOf objs i = 2 := by
          have := (ok_at hS _ hok hat).2.1
          rw [LTok] at this; exact this.1
        have hon : OnWay objs id (n :: r).reverse i := ⟨r.reverse, .dir i, by rw [hrev]; exact List.prefix_append _ _, hat, rfl⟩
        obtain ⟨g1, g2, g3⟩ := gr_dir hfb hki hon
        have hkG : (kidsG objs fs1 (.dir i)).1 = (fs1.dirG i).1 := by simp only [kidsG]; split <;> rfl
        rw [hkG]
        refine ⟨i1'.trans g1, hold _ g1 (fun c hc hk => ?_)⟩
        rw [hat] at hc; cases hc
        unfold Kept
        rw [if_pos (show (LT.dir i).kind = 2 from rfl)]; exact g3

/-- Stat of a stored tree: nothing but what stands on the way is fetched; that, and what stands there, is. -/
theorem stat_gr {objs : List Ob} (hS : Sound objs) {id : Int} (hok : LTok objs 5 (.dir id)) (fl : Nat → Option (Int × ByteArray)) {fs : FS} (hb : fs.brk = false) (r : List ByteArray) : Gr objs (OnWay objs id r.reverse) fs (statR objs fl (.dir id) fs r).1 ∧ (statR objs fl (.dir id) fs r).2.1 ≠ 14 ∧ ∀ q c, q <+: r.reverse → (LT.dir id).at objs q = some c → (c.kind = 2 ∨ q = r.reverse) → Kept objs (statR objs fl (.dir id) fs r).1 c := by
  obtain ⟨i1, i2⟩ := find_gr hS hok hb r
  have hfb := i1.1
  have hnob := find_nobrk (objs := objs) (t := .dir id) hb r
  obtain ⟨fa, fn⟩ := findE_at objs (.dir id) r
  have e1 : (findR objs (.dir id) fs r).2.1 = (findE objs (.dir id) r).1 := by rw [hnob]
  have e2 : (findR objs (.dir id) fs r).2.2 = (findE objs (.dir id) r).2 := by rw [hnob]
  have hold : ∀ (fs' : FS), Gr objs (OnWay objs id r.reverse) (findR objs (.dir id) fs r).1 fs' → (∀ c, (LT.dir id).at objs r.reverse = some c → Kept objs fs' c) → ∀ q c, q <+: r.reverse → (LT.dir id).at objs q = some c → (c.kind = 2 ∨ q = r.reverse) → Kept objs fs' c := by
    intro fs' hg hl q c hq hc hk
    by_cases e : q = r.reverse
    · exact hl c (by rw [← e]; exact hc)
    · exact (i2 q c hq e hc (by rcases hk with h | h; exact h; exact absurd h e)).mono hg
  by_cases h0 : (findR objs (.dir id) fs r).2.1 ≠ 0
  · have hf : statR objs fl (.dir id) fs r = ((findR objs (.dir id) fs r).1, (findR objs (.dir id) fs r).2.1, 0, 0) := by unfold statR; simp only [if_pos h0]
    rw [hf]
    refine ⟨i1, ?_, hold _ (Gr.refl hfb) (fun c hc => ?_)⟩
    · rcases findR_cases objs (.dir id) fs r with ⟨_, h2, h3⟩ | ⟨h1, _⟩
      · show (findR objs (.dir id) fs r).2.1 ≠ 14
        rw [h2]; exact h3
      · rw [h1.1] at hb; cases hb
    · rw [fn (by rw [← e1]; exact h0)] at hc; cases hc
  · have hat : (LT.dir id).at objs r.reverse = some (findR objs (.dir id) fs r).2.2 := by rw [e2]; exact fa (by rw [← e1]; exact Decidable.not_not.1 h0)
    have hst : (statR objs fl (.dir id) fs r).1 = (sizeG objs fl (findR objs (.dir id) fs r).1 (findR objs (.dir id) fs r).2.2).1 ∧ ((statR objs fl (.dir id) fs r).2.1 = (sizeG objs fl (findR objs (.dir id) fs r).1 (findR objs (.dir id) fs r).2.2).2.1) := by
      unfold statR
      simp only [if_neg h0]
      split
      · exact ⟨rfl, rfl⟩
      · rename_i hz
        exact ⟨rfl, (Decidable.not_not.1 hz).symm⟩
    rw [hst.1, hst.2]
    generalize (findR objs (.dir id) fs r).1 = fs1 at *
    generalize (findR objs (.dir id) fs r).2.2 = c0 at *
    have hokc := (ok_at hS _ hok hat).2.1
    rcases stored_there hat with ⟨i, rfl⟩ | ⟨i, rfl⟩
    · have hki : kindOf objs i = 1 := by rw [LTok] at hokc; exact hokc
      obtain ⟨g1, g2, g3⟩ := gr_file hfb hki (S := OnWay objs id r.reverse) ⟨r.reverse, .file i, List.prefix_refl _, hat, rfl⟩
      have hsz : (sizeG objs fl fs1 (.file i)).1 = (fs1.fileG i).1 ∧ (sizeG objs fl fs1 (.file i)).2.1 = 0 := by simp only [sizeG]; rw [if_pos g2]; exact ⟨rfl, rfl⟩
      rw [hsz.1, hsz.2]
      refine ⟨i1.trans g1, by decide, hold _ g1 (fun c hc => ?_)⟩
      rw [hat] at hc; cases hc
      unfold Kept
      rw [if_neg (by simp [LT.kind])]; exact g3
    · have hki : kindOf objs i = 2 := by rw [LTok] at hokc; exact hokc.1
      obtain ⟨g1, g2, g3⟩ := gr_dir hfb hki (S := OnWay objs id r.reverse) ⟨r.reverse, .dir i, List.prefix_refl _, hat, rfl⟩
      have hsz : (sizeG objs fl fs1 (.dir i)).1 = (fs1.dirG i).1 ∧ (sizeG objs fl fs1 (.dir i)).2.1 = 0 := by simp only [sizeG, kidsG]; rw [if_pos g2]; exact ⟨rfl, rfl⟩
      rw [hsz.1, hsz.2]
      refine ⟨i1.trans g1, by decide, hold _ g1 (fun c hc => ?_)⟩
      rw [hat] at hc; cases hc
      unfold Kept
      rw [if_pos (show (LT.dir i).kind = 2 from rfl)]; exact g3

end Go.Proofs.YtajopoddmfdejaaGreat

namespace Go.Proofs.YtajopoddmfdejaaGreat
open Go.RowKit Go.Sort Go.Shelf
set_option linter.unusedVariables false

/-- The object of the last entry of that name; 0: there is none. -/
def nextOf (es : List Ent) (n : ByteArray) : Int := es.foldl (fun a e => if e.1 = n then e.2.2 else a) 0
theorem nextOf_snoc (es : List Ent) (e : Ent) (n : ByteArray) : nextOf (es ++ [e]) n = if e.1 = n then e.2.2 else nextOf es n := by
  unfold nextOf
  rw [List.foldl_append]; rfl
theorem nextOf_take {es : List Ent} {k : Nat} (h : k < es.length) (n : ByteArray) : nextOf (es.take (k + 1)) n = if es[k].1 = n then es[k].2.2 else nextOf (es.take k) n := by
  rw [List.take_succ_eq_append_getElem h, nextOf_snoc]

theorem next_fold (n : ByteArray) : ∀ (es : List Ent) (a : Int), (∀ e ∈ es, e.1 ≠ n) → es.foldl (fun a e => if e.1 = n then e.2.2 else a) a = a
  | [], a, _ => rfl
  | e :: r, a, h => by
    rw [List.foldl_cons, if_neg (h e (List.mem_cons_self ..))]
    exact next_fold n r a (fun x hx => h x (List.mem_cons_of_mem _ hx))
theorem next_pick (n : ByteArray) : ∀ (es : List Ent) (a : Int), RisingK es → es.foldl (fun a e => if e.1 = n then e.2.2 else a) a = ((pickK (es.map kidOf) n).map LT.id).getD a
  | [], a, _ => rfl
  | e :: r, a, h => by
    unfold RisingK at h
    rw [List.pairwise_cons] at h
    rw [List.foldl_cons, List.map_cons]
    by_cases hn : e.1 = n
    · rw [if_pos hn]
      have hp : pickK (kidOf e :: r.map kidOf) n = some (ltOf e) := by unfold pickK; rw [List.find?_cons_of_pos (by show decide (e.1 = n) = true; exact decide_eq_true hn)]; rfl
      rw [hp, next_fold n r _ (fun x hx hxn => ?_)]
      · show e.2.2 = (ltOf e).id
        unfold ltOf
        split <;> rfl
      · have := h.1 x hx
        rw [hn, hxn] at this
        rw [cmpN_self] at this
        exact absurd this (by decide)
    · rw [if_neg hn]
      have hp : pickK (kidOf e :: r.map kidOf) n = pickK (r.map kidOf) n := by unfold pickK; rw [List.find?_cons_of_neg (by show ¬ decide (e.1 = n) = true; rw [decide_eq_false hn]; decide)]
      rw [hp]
      exact next_pick n r a h.2
theorem nextOf_pick {es : List Ent} (h : RisingK es) (n : ByteArray) : nextOf es n = ((pickK (es.map kidOf) n).map LT.id).getD 0 := next_pick n es 0 h

/-- What allowed answers. -/
def chainR (objs : List Ob) : Int → List ByteArray → List Int × Nat
  | id, [] => ([id], 1)
  | id, n :: r => if kindOf objs id ≠ 2 then ([id], 0) else if nextOf (entsOf objs id) n = 0 then ([id], 1) else (id :: (chainR objs (nextOf (entsOf objs id) n) r).1, (chainR objs (nextOf (entsOf objs id) n) r).2 + 1)

theorem chain_nil (objs : List Ob) (id : Int) : chainR objs id [] = ([id], 1) := by rw [chainR]
theorem chain_file {objs : List Ob} {id : Int} {n : ByteArray} {r : List ByteArray} (h : kindOf objs id ≠ 2) : chainR objs id (n :: r) = ([id], 0) := by rw [chainR, if_pos h]
theorem chain_none {objs : List Ob} {id : Int} {n : ByteArray} {r : List ByteArray} (h : kindOf objs id = 2) (h0 : nextOf (entsOf objs id) n = 0) : chainR objs id (n :: r) = ([id], 1) := by rw [chainR, if_neg (by simpa using h), if_pos h0]
theorem chain_next {objs : List Ob} {id : Int} {n : ByteArray} {r : List ByteArray} (h : kindOf objs id = 2) (h0 : nextOf (entsOf objs id) n ≠ 0) : chainR objs id (n :: r) = (id :: (chainR objs (nextOf (entsOf objs id) n) r).1, (chainR objs (nextOf (entsOf objs id) n) r).2 + 1) := by rw [chainR, if_neg (by simpa using h), if_neg h0]

theorem chain_len (objs : List Ob) : ∀ (p : List ByteArray) (id : Int), (chainR objs id p).1.length ≤ p.length + 1 ∧ (chainR objs id p).2 ≤ (chainR objs id p).1.length
  | [], id => by rw [chain_nil]; simp
  | n :: r, id => by
    by_cases h : kindOf objs id = 2
    · by_cases h0 : nextOf (entsOf objs id) n = 0
      · rw [chain_none h h0]; simp
      · rw [chain_next h h0]
        have := chain_len objs r (nextOf (entsOf objs id) n)
        simp only [List.length_cons]
        omega
    · rw [chain_file h]; simp

theorem chain_way {objs : List Ob} (hS : Sound objs) : ∀ (p : List ByteArray) (m : Nat) (c : LT), LTok objs m c → ((∃ i, c = .file i) ∨ ∃ i, c = .dir i) →
    (∀ q d, q <+: p → c.at objs q = some d → d.id ∈ (chainR objs c.id p).1) ∧
    (∀ k, k < (chainR objs c.id p).2 → ∃ q d, q <+: p ∧ c.at objs q = some d ∧ (d.kind = 2 ∨ q = p) ∧ (chainR objs c.id p).1[k]? = some d.id)
  | [], m, c, hok, hst => by
    rw [chain_nil]
    refine ⟨fun q d hq hd => ?_, fun k hk => ⟨[], c, List.prefix_refl _, at_nil _ _, .inr rfl, ?_⟩⟩
    · rw [List.prefix_nil.1 hq, at_nil] at hd
      cases hd; simp
    · have : k = 0 := by simp only at hk; omega
      subst this; rfl
  | n :: r, m, c, hok, hst => by
    rcases hst with ⟨i, rfl⟩ | ⟨i, rfl⟩
    · rw [LTok] at hok
      have hid : (LT.file i).id = i := rfl
      rw [hid, chain_file (by rw [hok]; decide)]
      refine ⟨fun q d hq hd => ?_, fun k hk => by simp at hk⟩
      cases q with
      | nil => rw [at_nil] at hd; cases hd; simp [LT.id]
      | cons a q => rw [at_cons] at hd; simp [kids] at hd
    · have hok' := hok
      rw [LTok] at hok'
      obtain ⟨hk2, hh⟩ := hok'
      have hid : (LT.dir i).id = i := rfl
      obtain ⟨hr, hl, he⟩ := hS.2 i hk2
      have hnx := nextOf_pick hr n
      rw [hid]
      cases hp : pickK ((entsOf objs i).map kidOf) n with
      | none =>
        rw [hp] at hnx
        rw [chain_none hk2 hnx]
        refine ⟨fun q d hq hd => ?_, fun k hk => ⟨[], .dir i, List.nil_prefix, at_nil _ _, .inl rfl, ?_⟩⟩
        · cases q with
          | nil => rw [at_nil] at hd; cases hd; simp [LT.id]
          | cons a q =>
            have ha : a = n := (List.cons_prefix_cons.1 hq).1
            subst ha
            rw [at_cons] at hd
            simp only [kids, Option.bind_some, hp, Option.bind_none] at hd
            cases hd
        · have : k = 0 := by simp only at hk; omega
          subst this; rfl
      | some c' =>
        rw [hp] at hnx
        have hnx' : nextOf (entsOf objs i) n = c'.id := hnx
        obtain ⟨_, _, hall⟩ := ok_kids hS hok (ks := (entsOf objs i).map kidOf) rfl
        have hmem := pick_mem hp
        obtain ⟨_, m', _, hok2⟩ := hall _ hmem
        obtain ⟨e, hem, hke⟩ := List.mem_map.1 hmem
        have hc' : c' = ltOf e := by have := congrArg Prod.snd hke; exact this.symm
        have hst' : (∃ i, c' = .file i) ∨ ∃ i, c' = .dir i := by
          rw [hc']; unfold ltOf
          split
          · exact .inr ⟨_, rfl⟩
          · exact .inl ⟨_, rfl⟩
        have h0 : nextOf (entsOf objs i) n ≠ 0 := by
          rw [hnx']
          rcases hst' with ⟨j, rfl⟩ | ⟨j, rfl⟩
          · rw [LTok] at hok2
            have := (kindOf_pos (a := objs) (id := j) (by rw [hok2]; decide)).1
            show j ≠ 0
            omega
          · rw [LTok] at hok2
            have := (kindOf_pos (a := objs) (id := j) (by rw [hok2.1]; decide)).1
            show j ≠ 0
            omega
        obtain ⟨i1, i2⟩ := chain_way hS r m' c' hok2 hst'
        rw [chain_next hk2 h0, hnx']
        refine ⟨fun q d hq hd => ?_, fun k hk => ?_⟩
        · cases q with
          | nil => rw [at_nil] at hd; cases hd; exact List.mem_cons_self ..
          | cons a q =>
            obtain ⟨ha, hq'⟩ := List.cons_prefix_cons.1 hq
            subst ha
            rw [at_cons] at hd
            simp only [kids, Option.bind_some, hp] at hd
            exact List.mem_cons_of_mem _ (i1 q d hq' hd)
        · cases k with
          | zero => exact ⟨[], .dir i, List.nil_prefix, at_nil _ _, .inl rfl, rfl⟩
          | succ k =>
            obtain ⟨q, d, hq, hd, hkd, hel⟩ := i2 k (by simp only at hk; omega)
            refine ⟨n :: q, d, List.cons_prefix_cons.2 ⟨rfl, hq⟩, ?_, ?_, hel⟩
            · rw [at_cons]
              simp only [kids, Option.bind_some, hp]
              exact hd
            · rcases hkd with h | h
              · exact .inl h
              · exact .inr (by rw [h])

/-- What stands on the way is in it. -/
theorem way_chain {objs : List Ob} (hS : Sound objs) {id : Int} (hok : LTok objs 5 (.dir id)) {p : List ByteArray} {x : Int} (h : OnWay objs id p x) : x ∈ (chainR objs id p).1 := by
  obtain ⟨q, c, hq, hc, rfl⟩ := h
  exact (chain_way hS p 5 (.dir id) hok (.inr ⟨id, rfl⟩)).1 q c hq hc
/-- What is kept is fetched: the first ones of it. -/
theorem must_chain {objs : List Ob} (hS : Sound objs) {id : Int} (hok : LTok objs 5 (.dir id)) {p : List ByteArray} {fs : FS} {before L : List Int} (hG : GI objs before fs L) (hK : ∀ q c, q <+: p → (LT.dir id).at objs q = some c → (c.kind = 2 ∨ q = p) → Kept objs fs c) : ∀ k, k < (chainR objs id p).2 → ∃ x, (chainR objs id p).1[k]? = some x ∧ x ∈ L := by
  intro k hk
  obtain ⟨q, d, hq, hd, hkd, hel⟩ := (chain_way hS p 5 (.dir id) hok (.inr ⟨id, rfl⟩)).2 k hk
  refine ⟨d.id, hel, ?_⟩
  have hkept := hK q d hq hd hkd
  have hokd := (ok_at hS _ hok hd).2.1
  unfold Kept at hkept
  rcases stored_there hd with ⟨i, rfl⟩ | ⟨i, rfl⟩
  · rw [LTok] at hokd
    rw [if_neg (by simp [LT.kind])] at hkept
    exact (hG.file i hokd).1 hkept
  · rw [LTok] at hokd
    rw [if_pos (show (LT.dir i).kind = 2 from rfl)] at hkept
    exact (hG.dir i hokd.1).1 hkept

end Go.Proofs.YtajopoddmfdejaaGreat

namespace Go.Proofs.YtajopoddmfdejaaGreat
open Go.RowKit Go.Sort Go.Shelf
set_option linter.unusedVariables false

def encN (xs : List Int) : List Value := xs.map (Value.int .i64)
theorem encN_len (xs : List Int) : (encN xs).length = xs.length := by simp [encN]
theorem encN_at {xs : List Int} {k : Nat} (h : k < xs.length) : (encN xs)[k]? = some (.int .i64 xs[k]) := by simp [encN, List.getElem?_eq_getElem h]
theorem sizeOfI (w : World) : (Go.sizeOf 26).run Tryz.prog w = .ok 1 w := by kernel_rfl

/-- A list of objects in memory. -/
def IdRow (w : World) (v : Value) (L : List Int) : Prop := w.ownsRow 0 26 1 v L.length (encN L)
theorem IdRow.shape {w : World} {v : Value} {L : List Int} (h : IdRow w v L) : ∃ a c, v = .slice a L.length c := by
  rcases h.2 with ⟨rfl, h0⟩ | ⟨g, c, cur, rfl, _⟩
  · exact ⟨none, 0, by rw [h0]⟩
  · exact ⟨_, c, rfl⟩
theorem IdRow.at_ {w : World} {a : Option Addr} {n c : Nat} {L : List Int} (h : IdRow w (.slice a n c) L) {k : Nat} (hk : k < L.length) : ∃ g, a = some ⟨g, 0, none⟩ ∧ g < w.heap.size ∧ w.cell? ⟨g, k, none⟩ = some (.int .i64 L[k]) := by
  obtain ⟨g, cap, hv⟩ := slice_of_owns h (by omega)
  have ha := (Value.slice.inj hv).1
  subst ha
  refine ⟨g, rfl, ownsRow_lt h rfl, ?_⟩
  have := World.ownsRow.cells h (g := g) rfl k _ (encN_at hk)
  have e : (⟨g, 0, none⟩ : Addr).add k = ⟨g, k, none⟩ := by
    cases k with
    | zero => rfl
    | succ k => simp [Addr.add]
  rw [e] at this
  exact this

theorem cloneI_all {w : World} {v : Value} {got : List Int} (hrow : IdRow w v got) (hl : got.length ≤ 1099511627776) :
    Calls Tryz.prog 101 #[v] w fun e w' => ∃ v', e = .returned v' ∧ w'.ownsRow w.heap.size 26 1 v' got.length (encN got) ∧ Below w.heap.size w w' := by
  rcases hrow.2 with ⟨rfl, h0⟩ | ⟨g, c, cur, rfl, _⟩
  · refine (AnyE.slices_Clone_nil Tryz.cloneI 0 0 w).mono ?_
    rintro e w' ⟨rfl, rfl⟩
    obtain rfl : got = [] := List.length_eq_zero_iff.1 h0
    exact ⟨_, rfl, World.ownsRow_nil _ _ _ _, Below.refl _ _⟩
  · obtain ⟨i0, hi, hz0, hz1, hz2⟩ := info_parts infoID
    refine (AnyE.slices_Clone Tryz.cloneI i0 _ 1 8 hi hz0 hz1 hz2 rfl (by decide) sizeOfI g 0 got.length c (encN got) w (by simp [encN]) (by unfold maxLen; omega) (by omega) (fun j u hu => by rw [Nat.zero_add]; exact (World.ownsRow.cellAt hrow j (by have := (List.getElem?_eq_some_iff.1 hu).1; simpa [encN] using this)).trans hu) ?_).mono ?_
    · intro u hu
      obtain ⟨x, _, rfl⟩ := List.mem_map.1 hu
      rfl
    · rintro e w' ⟨v', rfl, hr, hne, hb⟩
      exact ⟨_, rfl, hr, hb⟩

set_option maxRecDepth 100000 in
set_option maxHeartbeats 400000 in
theorem pfetched_all (p : Nat) (v : Value) (R : Value → World → Prop) (w : World) (c3 : w.cell? ⟨p, 3, none⟩ = some v)
    (hc : Calls Tryz.prog 101 #[v] w fun e w' => ∃ v', e = .returned v' ∧ R v' w') :
    Calls Tryz.prog 55 #[.pointer (some ⟨p, 0, none⟩)] w fun e w' => ∃ v', e = .returned v' ∧ R v' w' := by
  have HC : Hid _ := hc
  clear hc
  go_enter Tryz.func55, Tryz.ntmps55
  go_wp2_with fail
  refine Calls.mono HC.out ?_
  rintro e w' ⟨v', rfl, hR⟩
  go_wp2
  go_ret
  exact ⟨v', rfl, hR⟩
set_option maxRecDepth 100000 in
set_option maxHeartbeats 400000 in
theorem sfetched_all (s p : Nat) (R : Value → World → Prop) (w : World) (c0 : w.cell? ⟨s, 0, none⟩ = some (.pointer (some ⟨p, 0, none⟩)))
    (hc : Calls Tryz.prog 55 #[.pointer (some ⟨p, 0, none⟩)] w fun e w' => ∃ v', e = .returned v' ∧ R v' w') :
    Calls Tryz.prog 29 #[.pointer (some ⟨s, 0, none⟩)] w fun e w' => ∃ v', e = .returned v' ∧ R v' w' := by
  have HC : Hid _ := hc
  clear hc
  go_enter Tryz.func29, Tryz.ntmps29
  go_wp2_with fail
  refine Calls.mono HC.out ?_
  rintro e w' ⟨v', rfl, hR⟩
  go_wp2
  go_ret
  exact ⟨v', rfl, hR⟩

/-- Fetched. -/
theorem fetched_all {tg : Tags} {w : World} {s p : Nat} {objs : List Ob} {got : List Int} {brk : Bool} {lim : Nat} (h : SInv tg w s p objs got brk lim) (hl : lim ≤ 1099511627776) :
    Calls Tryz.prog 29 #[.pointer (some ⟨s, 0, none⟩)] w fun e w' => ∃ v', e = .returned v' ∧ w'.ownsRow w.heap.size 26 1 v' got.length (encN got) ∧ Below w.heap.size w w' := by
  obtain ⟨hfr, ft, hb, ⟨a, cap, bf, bd, Df, Dd, hI⟩, hg, hs, hgl⟩ := h
  have hat := hI.pool.at_
  have c3 : w.cell? ⟨p, 3, none⟩ = some (.slice ft.a ft.n ft.c) := by unfold PoolAt at hat; simp [World.cell?, hat]
  have hrow := hg.1
  rw [hg.2.1] at hrow c3
  exact sfetched_all s p _ w hI.c0 (pfetched_all p _ _ w c3 (cloneI_all hrow (by omega)))

/-- has. -/
def hasB (L : List Int) (k : Nat) (x : Int) : Bool := decide (x ∈ L.drop k)
set_option maxRecDepth 100000 in
set_option maxHeartbeats 1000000 in
theorem has_any (v : Value) (L : List Int) (k0 : Nat) (x : Int) (w : World) (hrow : IdRow w v L) (hL : L.length ≤ 1099511627776) (hk0 : k0 ≤ L.length) :
    Calls Tryz.prog 31 #[v, .int .i64 (k0 : Int), .int .i64 x] w fun e w' => e = .returned (.bool (hasB L k0 x)) ∧ w' = w := by
  obtain ⟨a, c, rfl⟩ := hrow.shape
  have HR : Hid _ := hrow
  clear hrow
  obtain ⟨n, hn⟩ : ∃ n, n = L.length := ⟨_, rfl⟩
  rw [← hn] at hL hk0
  have HN : Hid _ := hn
  rw [← hn]
  clear hn
  go_enter Tryz.func31, Tryz.ntmps31
  go_wp2
  go_loopw [7] (fun i wr => ∃ k : Nat, k0 ≤ k ∧ k ≤ n ∧ i = .int .i64 (k : Int) ∧ wr = w ∧ Hid (∀ j (hj : j < L.length), k0 ≤ j → j < k → L[j] ≠ x)) (fun i _ => n - (intOf i).toNat)
  case atStart => exact ⟨k0, Nat.le_refl _, hk0, rfl, rfl, fun j hj h1 h2 => by omega⟩
  case round =>
    obtain ⟨k, hk1, hk, rfl, rfl, HV⟩ := hrel
    by_cases hkl : k < n
    · have hkL : k < L.length := by rw [← HN.out]; exact hkl
      obtain ⟨g, rfl, hgl, cc⟩ := IdRow.at_ HR.out hkL
      obtain ⟨y, hy⟩ : ∃ y, y = L[k] := ⟨_, rfl⟩
      rw [← hy] at cc
      cases he : (y == x) with
      | true =>
        have HE : Hid (L[k] = x) := by show _ = _; rw [← hy]; simpa using he
        clear hy
        go_wp2
        go_ret
        refine ⟨?_, rfl⟩
        have : hasB L k0 x = true := by
          unfold hasB
          refine decide_eq_true ?_
          rw [List.mem_drop_iff_getElem]
          exact ⟨k - k0, by omega, by rw [← HE.out]; congr 1; omega⟩
        first | (rw [this]; done) | (rw [this]; rfl)
      | false =>
        have HE : Hid (L[k] ≠ x) := by show _ ≠ _; rw [← hy]; simpa using he
        clear hy
        go_wp2
        go_roundw
        case rel =>
          refine ⟨k + 1, by omega, by omega, by go_num, by trivial, fun j hj h1 h2 => ?_⟩
          by_cases e : j = k
          · subst e; exact HE.out
          · exact HV.out j hj h1 (by omega)
        case measure => simp [intOf]; omega
    · go_wp2
      go_ret
      refine ⟨?_, rfl⟩
      have hkn : k = n := by omega
      have : hasB L k0 x = false := by
        unfold hasB
        refine decide_eq_false fun h => ?_
        rw [List.mem_drop_iff_getElem] at h
        obtain ⟨j, hj, hx⟩ := h
        exact HV.out (k0 + j) (by omega) (by omega) (by rw [HN.out] at hkn; omega) (by first | exact hx | (rw [← hx]; congr 1; omega))
      first | (rw [this]; done) | (rw [this]; rfl)

end Go.Proofs.YtajopoddmfdejaaGreat
