/-
  What is proved here: 'holds': the object of an ID holds what the document's one does.
-/
import Derived.Test.YtogeefmegegnnaaGreatLawC
namespace Go.Proofs.YtogeefmegegnnaaGreat
open Go.RowKit Go.Sort Go.Shelf
set_option linter.unusedVariables false
variable {ft : PTail}

def toItem (e : Ent) : Ent := (e.1, e.2.1, e.2.2 - 1)

/-- The document's object is the store's. -/
structure Alike (o x : Ob) : Prop where
  kind : x.kind = o.kind
  data : o.kind = 1 → x.data = o.data
  ents : o.kind = 2 → x.ents = o.ents.map toItem
  high : x.high = o.high
  none : o.kind = 1 → x.ents = []
  empty : o.kind = 2 → x.data = ByteArray.empty

theorem getFile_at {F : Nat → Prop} {w : World} {s : Nat} {objs : List Ob} (h : Inv ft F w s objs) (j : Nat) (hj : j < objs.length) (hk : objs[j].kind = 1) :
    Calls Tryz.prog 79 #[.pointer (some ⟨s, 0, none⟩), .int .i64 ((j : Int) + 1)] w fun e w' => e = .returned (.tuple #[.string objs[j].data, .int .i64 0]) ∧ Below w.heap.size w w' := by
  refine (storeGetFile h ((j : Int) + 1)).mono fun e w' ⟨hf, hb⟩ => ⟨?_, hb⟩
  rcases hf with ⟨h1, _⟩ | ⟨j', hj', he, _, h2⟩
  · rw [kindOf_in hj] at h1; exact absurd hk h1
  · have : j' = j := by omega
    subst this; exact h2

theorem getDir_at {F : Nat → Prop} {w : World} {s : Nat} {objs : List Ob} (h : Inv ft F w s objs) (j : Nat) (hj : j < objs.length) (hk : objs[j].kind = 2) :
    Calls Tryz.prog 74 #[.pointer (some ⟨s, 0, none⟩), .int .i64 ((j : Int) + 1)] w fun e w' => ∃ g, e = .returned (.tuple #[.slice (some ⟨g, 0, none⟩) objs[j].ents.length objs[j].ents.length, .int .i64 0]) ∧
      w'.ownsRow w.heap.size 112 3 (.slice (some ⟨g, 0, none⟩) objs[j].ents.length objs[j].ents.length) objs[j].ents.length (flat objs[j].ents) ∧ Below w.heap.size w w' := by
  refine (storeGetDir h ((j : Int) + 1)).mono fun e w' ⟨hf, hb⟩ => ?_
  rcases hf with ⟨h1, _⟩ | ⟨j', hj', he, _, g, h2, h3⟩
  · rw [kindOf_in hj] at h1; exact absurd hk h1
  · have : j' = j := by omega
    subst this; exact ⟨g, h2, h3, hb⟩

section
variable {F G Fs : Nat → Prop} {w : World} {W s r : Nat} {ia ka pa : Option Addr} {ic kc pc : Nat} {ids : List Int} {known : List Bool} {paths : List Int} {c5 c6 c7 c8 c9 c10 c11 : Value} {ros objs : List Ob}

set_option maxRecDepth 100000 in
set_option maxHeartbeats 4000000 in
theorem holds_file (h : LawAt F w W s r ia ka pa ic kc pc ids known paths c5 c6 c7 c8 c9 c10 c11) (hr : RefInv G w r ros) (hs : Inv ft Fs w s objs) (j : Nat) (hj : j < objs.length) (hjr : j < ros.length) (hk : objs[j].kind = 1) (hx : Alike objs[j] ros[j]) :
    Calls Tryz.prog 141 #[.pointer (some ⟨W, 0, none⟩), .int .i64 (j : Int), .int .i64 ((j : Int) + 1)] w fun e w' => e = .returned (.tuple #[.slice none 0 0, .bool true]) ∧ Below w.heap.size w w' := by
  have k0 := h.c0
  have k1 := h.c1
  have hWl := h.lt
  obtain ⟨ra, rcap, hra⟩ := hr
  have r0 := hra.c0
  have hrl := hra.lt
  have hm := hra.many
  obtain ⟨g, rfl, hgl, q0, q1, q2, q3⟩ := row_obs hra.row rfl hjr
  have hd := hx.data hk
  have hkk := hx.kind
  rw [hkk, hk] at q0
  rw [hd] at q1
  have b1 : ∀ B, Below w.heap.size w (w.alloc B) := fun B => (Below.refl _ _).alloc (Nat.le_refl _) _
  have hget := fun (B : Obj) => getFile_at (hs.below (b1 B) (fun _ _ h => h)) j hj hk
  have HGl : Hid (∀ B : Obj, Calls Tryz.prog 79 #[.pointer (some ⟨s, 0, none⟩), .int .i64 ((j : Int) + 1)] (w.alloc B) fun e w' => e = .returned (.tuple #[.string objs[j].data, .int .i64 0]) ∧ Below (w.alloc B).heap.size (w.alloc B) w') := hget
  clear h hra hd hkk hx hs hk hget
  go_enter Tryz.func141, Tryz.ntmps141
  go_wp2_with fail
  refine (HGl.out _).mono ?_
  rintro e w1 ⟨rfl, hb1⟩
  have bx := hb1.cell (p := ⟨w.heap.size, 1, none⟩) (by simp)
  have hbw := (b1 _).trans (hb1.mono (by simp))
  simp at bx
  go_wp2
  go_ret2
  exact ⟨rfl, hbw⟩
set_option maxRecDepth 100000 in
set_option maxHeartbeats 4000000 in
theorem holds_dir (h : LawAt F w W s r ia ka pa ic kc pc ids known paths c5 c6 c7 c8 c9 c10 c11) (hr : RefInv G w r ros) (hs : Inv ft Fs w s objs) (j : Nat) (hj : j < objs.length) (hjr : j < ros.length) (hk : objs[j].kind = 2) (hx : Alike objs[j] ros[j]) :
    Calls Tryz.prog 141 #[.pointer (some ⟨W, 0, none⟩), .int .i64 (j : Int), .int .i64 ((j : Int) + 1)] w fun e w' => ∃ g, e = .returned (.tuple #[.slice (some ⟨g, 0, none⟩) objs[j].ents.length objs[j].ents.length, .bool true]) ∧
      w'.ownsRow w.heap.size 112 3 (.slice (some ⟨g, 0, none⟩) objs[j].ents.length objs[j].ents.length) objs[j].ents.length (flat objs[j].ents) ∧ Below w.heap.size w w' := by
  have k0 := h.c0
  have k1 := h.c1
  have hWl := h.lt
  obtain ⟨ra, rcap, hra⟩ := hr
  have r0 := hra.c0
  have hrl := hra.lt
  have hm := hra.many
  obtain ⟨g, rfl, hgl, q0, q1, q2, q3⟩ := row_obs hra.row rfl hjr
  have hob := hra.obs _ (List.getElem_mem hjr)
  have he := hx.ents hk
  have hkk := hx.kind
  rw [hkk, hk] at q0
  have b1 : ∀ B, Below w.heap.size w (w.alloc B) := fun B => (Below.refl _ _).alloc (Nat.le_refl _) _
  have hget := fun (B : Obj) => getDir_at (hs.below (b1 B) (fun _ _ h => h)) j hj hk
  obtain ⟨es, hes⟩ : ∃ es, es = objs[j].ents := ⟨_, rfl⟩
  rw [← hes] at hget he ⊢
  have hrow := hob.row
  have hlen := hob.len
  have hfew := hob.few
  rw [he] at hrow hlen
  rw [List.length_map] at hlen
  rw [← hlen] at hrow q2 hfew
  obtain ⟨oa, hoa⟩ : ∃ oa, oa = ros[j].ea := ⟨_, rfl⟩
  obtain ⟨oc, hoc⟩ : ∃ oc, oc = ros[j].ec := ⟨_, rfl⟩
  rw [← hoa, ← hoc] at hrow q2
  obtain ⟨m, hmm⟩ : ∃ m, m = es.length := ⟨_, rfl⟩
  rw [← hmm] at hrow q2 hfew hget ⊢
  have HM : Hid (m = es.length) := hmm
  have HGl : Hid (∀ B : Obj, Calls Tryz.prog 74 #[.pointer (some ⟨s, 0, none⟩), .int .i64 ((j : Int) + 1)] (w.alloc B) fun e w' => ∃ g, e = .returned (.tuple #[.slice (some ⟨g, 0, none⟩) m m, .int .i64 0]) ∧ w'.ownsRow (w.alloc B).heap.size 112 3 (.slice (some ⟨g, 0, none⟩) m m) m (flat es) ∧ Below (w.alloc B).heap.size (w.alloc B) w') := hget
  have HRW : Hid (w.ownsRow 0 159 3 (.slice oa m oc) m (flat (es.map toItem))) := hrow
  clear h hra hkk hx hs hk hget hes he hob hlen hoa hoc hmm hrow
  go_enter Tryz.func141, Tryz.ntmps141
  go_wp2_with fail
  refine (HGl.out _).mono ?_
  rintro e w1 ⟨gl, rfl, hown1, hb1⟩
  have bx := hb1.cell (p := ⟨w.heap.size, 2, none⟩) (by simp)
  have hbw := (b1 _).trans (hb1.mono (by simp))
  simp at bx
  have HOW : Hid (w1.ownsRow w.heap.size 112 3 (.slice (some ⟨gl, 0, none⟩) m m) m (flat es)) := owns_mono hown1 (by simp)
  have hml : ((m : Int) != (m : Int)) = false := by simp
  clear hown1 hb1 HGl
  go_wp2
  go_loopw [13] (fun i wr => ∃ k : Nat, k ≤ m ∧ i = .int .i64 k ∧ (∃ q, wr = w1.drewN q)) (fun i _ => m - (intOf i).toNat)
  case atStart => exact ⟨0, Nat.zero_le _, rfl, ⟨0, rfl⟩⟩
  case round =>
    obtain ⟨k, hk, rfl, ⟨q, rfl⟩⟩ := hrel
    by_cases hlt : k < m
    · have hke : k < es.length := by rw [← HM.out]; exact hlt
      have hkm : k < (es.map toItem).length := by simpa using hke
      obtain ⟨gi, ci, hvi⟩ := slice_of_owns HRW.out (by omega)
      obtain rfl := (Value.slice.inj hvi).1
      have hgil : gi < w.heap.size := ownsRow_lt HRW.out rfl
      obtain ⟨t0, t1, _⟩ := row_cells (off := 0) (owns_cells HRW.out) hkm
      obtain ⟨u0, u1, _⟩ := row_cells (off := 0) (owns_cells HOW.out) hke
      rw [Nat.zero_add] at t0 t1 u0 u1
      have t0' := (hbw.cell (p := ⟨gi, k * 3, none⟩) hgil).trans t0
      have t1' := (hbw.cell (p := ⟨gi, k * 3 + 1, none⟩) hgil).trans t1
      have t0'' := fun q => (show (w1.drewN q).cell? ⟨gi, k * 3, none⟩ = some (.string es[k].1) by rw [List.getElem_map] at t0'; exact t0')
      have t1'' := fun q => (show (w1.drewN q).cell? ⟨gi, k * 3 + 1, none⟩ = some (.int .i64 es[k].2.1) by rw [List.getElem_map] at t1'; exact t1')
      have u0'' := fun q => (show (w1.drewN q).cell? ⟨gl, k * 3, none⟩ = some (.string es[k].1) from u0)
      have u1'' := fun q => (show (w1.drewN q).cell? ⟨gl, k * 3 + 1, none⟩ = some (.int .i64 es[k].2.1) from u1)
      have bx'' := fun q => (show (w1.drewN q).cell? ⟨w.heap.size, 2, none⟩ = some (.slice (some ⟨gi, 0, none⟩) m oc) from bx)
      have hkm' : (k : Int) < (m : Int) := by omega
      have hee : (es[k].1.toList == es[k].1.toList) = true := by simp
      have hkk : (es[k].2.1 != es[k].2.1) = false := by simp
      clear t0 t1 t0' t1' u0 u1 hvi
      go_wp2
      go_quiet (fail)
      go_wp2
      go_roundw
      case rel => exact ⟨k + 1, by omega, by go_num, ⟨_, rfl⟩⟩
      case measure => simp [intOf]; omega
    · go_wp2
      go_ret2
      exact ⟨gl, rfl, HOW.out, below_drewN hbw q⟩

end
end Go.Proofs.YtogeefmegegnnaaGreat
