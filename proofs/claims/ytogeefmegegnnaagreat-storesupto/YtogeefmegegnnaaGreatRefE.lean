/-
  What is proved here: the document's own store: 'put', 'PutFile'.
-/
import Derived.Test.YtogeefmegegnnaaGreatRefD
namespace Go.Proofs.YtogeefmegegnnaaGreat
open Go.RowKit Go.Sort Go.Shelf
set_option linter.unusedVariables false

def rhigh (ros : List Ob) (e : Ent) : Int := ((ros[e.2.2.toNat]?).map (·.high)).getD 0
def rhighs (ros : List Ob) (es : List Ent) : Int := es.foldl (fun h e => max h (1 + rhigh ros e)) 0
theorem rhighs_snoc (ros : List Ob) (es : List Ent) (e : Ent) : rhighs ros (es ++ [e]) = max (rhighs ros es) (1 + rhigh ros e) := by
  simp only [rhighs, List.foldl_append, List.foldl_cons, List.foldl_nil]

theorem infoObj : (Tryz.prog.info? 157).map (fun i => (i.zero, i.size, i.bytes)) = some (some (.agg #[.int .i64 0, .string ByteArray.empty, .slice none 0 0, .int .i64 0]), 4, 56) := by kernel_rfl

theorem placeI_none : placeI none = -1 := rfl

set_option maxRecDepth 100000 in
set_option maxHeartbeats 2000000 in
theorem put_hit {F G : Nat → Prop} (r : Nat) (a : Option Addr) (cap : Nat) (ros : List Ob) (o : Ob) (w : World) (h : RefAt F w r a cap ros) (ho : RObOk G w o) (i : Nat) (hf : findAt ros o = some i) :
    Calls Tryz.prog 139 #[.pointer (some ⟨r, 0, none⟩), oAgg o] w fun e w' => e = .returned (.int .i64 i) ∧ Below w.heap.size w w' := by
  have b1 : ∀ B, Below w.heap.size w (w.alloc B) := fun B => (Below.refl _ _).alloc (Nat.le_refl _) _
  have hfind := fun B : Obj => find_any r a cap ros o (w.alloc B) (h.below (b1 B)) (ho.below (b1 B))
  rw [hf] at hfind
  have hi0 : decide ((0 : Int) ≤ (i : Int)) = true := by simp
  unfold oAgg at hfind ⊢
  unfold placeI at hfind
  have hfind' : ∀ B : Obj, Calls Tryz.prog 201 #[.pointer (some ⟨r, 0, none⟩), .agg #[.int .i64 o.kind, .string o.data, .slice o.ea o.el o.ec, .int .i64 o.high]] (w.alloc B) fun e w' => e = .returned (.int .i64 i) ∧ Below (w.alloc B).heap.size (w.alloc B) w' := hfind
  clear hfind
  go_enter Tryz.func139, Tryz.ntmps139
  go_wp2_with fail
  refine (hfind' _).mono ?_
  rintro e w1 ⟨rfl, hb1⟩
  go_wp2
  go_ret
  exact ⟨rfl, (b1 _).trans (hb1.mono (by simp))⟩

set_option maxRecDepth 100000 in
set_option maxHeartbeats 2000000 in
theorem put_full {F G : Nat → Prop} (r : Nat) (a : Option Addr) (cap : Nat) (ros : List Ob) (o : Ob) (w : World) (h : RefAt F w r a cap ros) (ho : RObOk G w o) (hf : findAt ros o = none) (hn : 400 ≤ ros.length) :
    Calls Tryz.prog 139 #[.pointer (some ⟨r, 0, none⟩), oAgg o] w fun e w' => e = .returned (.int .i64 (-1)) ∧ Below w.heap.size w w' := by
  have b1 : ∀ B, Below w.heap.size w (w.alloc B) := fun B => (Below.refl _ _).alloc (Nat.le_refl _) _
  have hfind := fun B : Obj => find_any r a cap ros o (w.alloc B) (h.below (b1 B)) (ho.below (b1 B))
  rw [hf] at hfind
  unfold oAgg at hfind ⊢
  have hfind' : ∀ B : Obj, Calls Tryz.prog 201 #[.pointer (some ⟨r, 0, none⟩), .agg #[.int .i64 o.kind, .string o.data, .slice o.ea o.el o.ec, .int .i64 o.high]] (w.alloc B) fun e w' => e = .returned (.int .i64 (-1)) ∧ Below (w.alloc B).heap.size (w.alloc B) w' := hfind
  clear hfind
  go_enter Tryz.func139, Tryz.ntmps139
  go_wp2_with fail
  refine (hfind' _).mono ?_
  rintro e w1 ⟨rfl, hb1⟩
  have hbw := (b1 _).trans (hb1.mono (by simp))
  have hc0 := (h.below hbw).c0
  go_wp2
  go_ret
  exact ⟨rfl, hbw⟩

/-- Of an object: at a block of its own. -/
def Boxed4 (W : World) (b : Nat) (k : Int) (d : ByteArray) (ea : Option Addr) (el ec : Nat) (hi : Int) : Prop := W.heap[b]? = some (.cells #[.int .i64 k, .string d, .slice ea el ec, .int .i64 hi] 157 (0, 0))

theorem Boxed4.parts {W : World} {b : Nat} {k : Int} {d : ByteArray} {ea : Option Addr} {el ec : Nat} {hi : Int} (h : Boxed4 W b k d ea el ec hi) : W.cell? ⟨b, 2, none⟩ = some (.slice ea el ec) ∧ W.cell? ⟨b, 3, none⟩ = some (.int .i64 hi) ∧ W.frozen? ⟨b, 3, none⟩ = false := by
  unfold Boxed4 at h
  refine ⟨?_, ?_, ?_⟩ <;> simp [World.cell?, World.frozen?, h]
theorem Boxed4.parts2 {W : World} {b : Nat} {k : Int} {d : ByteArray} {ea : Option Addr} {el ec : Nat} {hi : Int} (h : Boxed4 W b k d ea el ec hi) : W.cell? ⟨b, 0, none⟩ = some (.int .i64 k) ∧ W.cell? ⟨b, 1, none⟩ = some (.string d) := by
  unfold Boxed4 at h
  refine ⟨?_, ?_⟩ <;> simp [World.cell?, h]
theorem grown_cell1 {w w1 : World} {o1 : Obj} {r : Option Nat} (hg : (w.alloc o1).drew.grownBy w1 r) {p : Nat} (hp : p < w.heap.size) (hr : some p ≠ r) {v : Value} {i : Nat} (h : w.cell? ⟨p, i, none⟩ = some v) : w1.cell? ⟨p, i, none⟩ = some v := by
  rw [World.cell?_of_block (a := ⟨p, i, none⟩) (hg.block p (by simp; omega) hr)]
  show (w.alloc o1).cell? ⟨p, i, none⟩ = _
  rw [World.cell?_alloc_past _ _ _ hp, h]
theorem grown_frozen1 {w w1 : World} {o1 : Obj} {r : Option Nat} (hg : (w.alloc o1).drew.grownBy w1 r) {p : Nat} (hp : p < w.heap.size) (hr : some p ≠ r) {i : Nat} (h : w.frozen? ⟨p, i, none⟩ = false) : w1.frozen? ⟨p, i, none⟩ = false := by
  rw [World.frozen?_of_block (a := ⟨p, i, none⟩) (hg.block p (by simp; omega) hr)]
  show (w.alloc o1).frozen? ⟨p, i, none⟩ = _
  rw [World.frozen?_alloc_past _ _ _ hp, h]
theorem Boxed4.high {W : World} {b : Nat} {k : Int} {d : ByteArray} {ea : Option Addr} {el ec : Nat} {hi : Int} (h : Boxed4 W b k d ea el ec hi) (x : Int) : Boxed4 (W.setCell ⟨b, 3, none⟩ (.int .i64 x)) b k d ea el ec x := by
  unfold Boxed4 at h ⊢
  simp [World.setCell, Array.getElem?_modify, h]
theorem keeps_drewN {F : Nat → Prop} {w w' : World} (h : Keeps F w w') (q : Nat) : Keeps F w (w'.drewN q) := ⟨h.os, h.tape, h.output, h.size, h.block⟩
theorem keeps_box {w w' : World} {b i : Nat} {v : Value} (h : Keeps (fun k => k = b) w w') : Keeps (fun k => k = b) w (w'.setCell ⟨b, i, none⟩ v) :=
  ⟨h.os, h.tape, h.output, by simpa using h.size, fun k hk hne => by rw [Below.heap_setCell _ _ _ _ hne]; exact h.block k hk hne⟩

theorem put_after {F : Nat → Prop} {w wr w2 : World} {r : Nat} {a : Option Addr} {cap : Nat} {ros : List Ob} {o1 : Obj} {g cap' : Nat} {news : List Value} (h : RefAt F w r a cap ros) (kb : ∀ q, q < w.heap.size → wr.heap[q]? = w.heap[q]?) (hsr : w.heap.size < wr.heap.size)
    (hq : wr.os = w.os ∧ wr.tape = w.tape ∧ wr.output = w.output) (hpa : some r ≠ (Value.slice a ros.length cap).ownBlock) (hown : w2.ownsRow 0 157 4 (.slice (some ⟨g, 0, none⟩) (ros.length + 1) cap') (ros.length + 1) (obCells ros ++ news))
    (hg : (wr.alloc o1).drew.grownBy w2 (Value.slice a ros.length cap).ownBlock) (hloc : (Value.slice (some ⟨g, 0, none⟩) (ros.length + 1) cap').ownBlock = (Value.slice a ros.length cap).ownBlock ∨ (Value.slice (some ⟨g, 0, none⟩) (ros.length + 1) cap').ownBlock = some (wr.alloc o1).drew.heap.size) :
    (w2.setCell ⟨r, 0, none⟩ (.slice (some ⟨g, 0, none⟩) (ros.length + 1) cap')).heap[r]? = some (.cells #[.slice (some ⟨g, 0, none⟩) (ros.length + 1) cap'] 147 (0, 0)) ∧ (w2.setCell ⟨r, 0, none⟩ (.slice (some ⟨g, 0, none⟩) (ros.length + 1) cap')).ownsRow 0 157 4 (.slice (some ⟨g, 0, none⟩) (ros.length + 1) cap') (ros.length + 1) (obCells ros ++ news) ∧
        ((some g : Option Nat) = (Value.slice a ros.length cap).ownBlock ∨ w.heap.size ≤ g) ∧ Keeps (fun k => k = r ∨ some k = (Value.slice a ros.length cap).ownBlock) w (w2.setCell ⟨r, 0, none⟩ (.slice (some ⟨g, 0, none⟩) (ros.length + 1) cap')) := by
  have hkeep : ∀ k, k < w.heap.size → some k ≠ (Value.slice a ros.length cap).ownBlock → w2.heap[k]? = w.heap[k]? := by
    intro k hk hne
    rw [hg.block k (by simp; omega) hne]
    show (wr.alloc o1).heap[k]? = _
    rw [Below.heap_alloc _ _ _ (by omega), kb k hk]
  have hw2 : w2.heap[r]? = some (.cells #[.slice a ros.length cap] 147 (0, 0)) := by rw [hkeep r h.lt hpa, h.hr]
  have hgr : g ≠ r := by
    rintro rfl
    rcases hloc with h1 | h1
    · exact hpa h1
    · have := h.lt; simp [Value.ownBlock] at h1; omega
  have hs := hg.size
  simp at hs
  refine ⟨?_, ?_, ?_, ⟨hg.os.trans hq.1, hg.tape.trans hq.2.1, hg.output.trans hq.2.2, by simp; omega, ?_⟩⟩
  · simp [World.setCell, Array.getElem?_modify, hw2]
  · obtain ⟨h1, h2⟩ := hown
    refine ⟨h1, ?_⟩
    rcases h2 with ⟨h, _⟩ | ⟨g0, cap0, cur, hv, hb, hh, r⟩
    · cases h
    · cases hv
      exact Or.inr ⟨g, cap', cur, rfl, hb, by rw [Below.heap_setCell _ _ _ _ hgr]; exact hh, r⟩
  · rcases hloc with h | h
    · exact Or.inl h
    · simp [Value.ownBlock] at h; exact Or.inr (by omega)
  · intro k hk hne
    rw [Below.heap_setCell _ _ _ _ (fun e => hne (.inl e)), hkeep k hk (fun e => hne (.inr e))]

set_option maxRecDepth 100000 in
set_option maxHeartbeats 2000000 in
theorem put_new {F G : Nat → Prop} (r : Nat) (a : Option Addr) (cap : Nat) (ros : List Ob) (o : Ob) (w : World) (h : RefAt F w r a cap ros) (ho : RObOk G w o) (hz : o.high = 0) (hf : findAt ros o = none) (hn : ros.length < 400)
    (hat : ∀ e ∈ o.ents, 0 ≤ e.2.2 ∧ e.2.2 < (ros.length : Int)) :
    Calls Tryz.prog 139 #[.pointer (some ⟨r, 0, none⟩), oAgg o] w fun e w' => e = .returned (.int .i64 ros.length) ∧
      ∃ g cap', w'.heap[r]? = some (.cells #[.slice (some ⟨g, 0, none⟩) (ros.length + 1) cap'] 147 (0, 0)) ∧ w'.ownsRow 0 157 4 (.slice (some ⟨g, 0, none⟩) (ros.length + 1) cap') (ros.length + 1) (obCells ros ++ Ob.cells { o with high := rhighs ros o.ents }) ∧
        ((some g : Option Nat) = (Value.slice a ros.length cap).ownBlock ∨ w.heap.size ≤ g) ∧ Keeps (fun k => k = r ∨ some k = (Value.slice a ros.length cap).ownBlock) w w' := by
  obtain ⟨i0, hi, hz0, hz1, hz2⟩ := info_parts infoObj
  have b1 : ∀ B, Below w.heap.size w (w.alloc B) := fun B => (Below.refl _ _).alloc (Nat.le_refl _) _
  have hfind := fun B : Obj => find_any r a cap ros o (w.alloc B) (h.below (b1 B)) (ho.below (b1 B))
  rw [hf] at hfind
  unfold oAgg at hfind ⊢
  have hfind' : ∀ B : Obj, Calls Tryz.prog 201 #[.pointer (some ⟨r, 0, none⟩), .agg #[.int .i64 o.kind, .string o.data, .slice o.ea o.el o.ec, .int .i64 o.high]] (w.alloc B) fun e w' => e = .returned (.int .i64 (-1)) ∧ Below (w.alloc B).heap.size (w.alloc B) w' := hfind
  clear hfind
  have HH : Hid (∀ x ∈ ros, 0 ≤ x.high ∧ x.high ≤ 5) := fun x hx => ⟨(h.obs x hx).high0, (h.obs x hx).high5⟩
  have HA : Hid (∀ e ∈ o.ents, 0 ≤ e.2.2 ∧ e.2.2 < (ros.length : Int)) := hat
  have hel : o.el ≤ 16 := ho.few
  have HL : Hid (o.ents.length = o.el) := ho.len
  clear hat
  rw [hz] at hfind' ⊢
  go_enter Tryz.func139, Tryz.ntmps139
  go_wp2_with fail
  refine (hfind' _).mono ?_
  rintro e w1 ⟨rfl, hb1⟩
  have hbw := (b1 _).trans (hb1.mono (by simp))
  have hc0 := (h.below hbw).c0
  have hrl : r < w.heap.size := h.lt
  have hbx : Hid (Boxed4 w1 w.heap.size o.kind o.data o.ea o.el o.ec 0) := by
    show w1.heap[w.heap.size]? = _
    rw [hb1.block _ (by simp)]
    exact heap_alloc_new _ _
  have hs1 : w.heap.size < w1.heap.size := by have := hb1.size; simp at this; omega
  clear hfind'
  go_wp2
  go_loopw [6] (fun i wr => ∃ k : Nat, k ≤ o.el ∧ i = .int .i64 k ∧ Hid (Keeps (fun k => k = w.heap.size) w1 wr) ∧ Hid (Boxed4 wr w.heap.size o.kind o.data o.ea o.el o.ec (rhighs ros (o.ents.take k))) ∧ 0 ≤ rhighs ros (o.ents.take k) ∧ rhighs ros (o.ents.take k) ≤ 6) (fun i _ => o.el - (intOf i).toNat)
  case atStart => exact ⟨0, Nat.zero_le _, rfl, ⟨rfl, rfl, rfl, Nat.le_refl _, fun _ _ _ => rfl⟩, hbx, by show (0 : Int) ≤ 0; omega, by show (0 : Int) ≤ 6; omega⟩
  case round =>
    obtain ⟨k, hk, rfl, HK, HB, hh0, hh6⟩ := hrel
    have kb : ∀ q, q < w.heap.size → wr.heap[q]? = w.heap[q]? := fun q hq => (HK.out.block q (by omega) (by omega)).trans (hbw.block q hq)
    have hsr : w.heap.size < wr.heap.size := Nat.lt_of_lt_of_le hs1 HK.out.size
    have hcr : wr.cell? ⟨r, 0, none⟩ = some (.slice a ros.length cap) := (World.cell?_of_block (a := ⟨r, 0, none⟩) (kb r hrl)).trans h.c0
    obtain ⟨q2, q3, fz⟩ := HB.out.parts
    by_cases hlt : k < o.el
    · have hk' : k < o.ents.length := by rw [HL.out]; exact hlt
      have hrow := ho.row
      obtain ⟨gi, ci, hvi⟩ := slice_of_owns hrow (by omega)
      have hea := (Value.slice.inj hvi).1
      rw [hea] at hrow q2
      clear hea hvi
      have hgil : gi < w.heap.size := ownsRow_lt hrow rfl
      obtain ⟨_, _, e2⟩ := row_cells (off := 0) (owns_cells hrow) hk'
      rw [Nat.zero_add] at e2
      obtain ⟨ha0, ha1⟩ := HA.out _ (List.getElem_mem hk')
      obtain ⟨j, hj⟩ : ∃ j : Nat, o.ents[k].2.2 = (j : Int) := ⟨o.ents[k].2.2.toNat, by omega⟩
      have hjl : j < ros.length := by omega
      rw [hj] at e2
      have e2' := (World.cell?_of_block (a := ⟨gi, k * 3 + 2, none⟩) (kb gi hgil)).trans e2
      obtain ⟨g, hga, hgl, _, _, _, c3⟩ := row_obs h.row rfl hjl
      rw [hga] at hcr
      clear hga
      have c3' := (World.cell?_of_block (a := ⟨g, j * 4 + 3, none⟩) (kb g hgl)).trans c3
      obtain ⟨hj0, hj5⟩ := HH.out ros[j] (List.getElem_mem hjl)
      have HS : Hid (rhighs ros (o.ents.take (k + 1)) = max (rhighs ros (o.ents.take k)) (1 + ros[j].high)) := by
        show _ = _
        rw [List.take_succ_eq_append_getElem hk', rhighs_snoc]
        unfold rhigh
        rw [hj, Int.toNat_natCast, List.getElem?_eq_getElem hjl]; rfl
      obtain ⟨H, hH⟩ : ∃ H, H = rhighs ros (o.ents.take k) := ⟨_, rfl⟩
      rw [← hH] at hh0 hh6 q3
      have HH2 : Hid (H = rhighs ros (o.ents.take k)) := hH
      clear c3 e2 hH hj ha0 ha1
      by_cases hgt : H < 1 + ros[j].high
      · go_wp2
        go_quiet (fail)
        go_wp2
        go_roundw
        case rel =>
          refine ⟨k + 1, by omega, by go_num, keeps_box (keeps_drewN HK.out nq), ?_, by rw [HS.out, ← HH2.out]; omega, by rw [HS.out, ← HH2.out]; omega⟩
          rw [HS.out, ← HH2.out, Int.max_eq_right (by omega)]
          exact Boxed4.high (W := wr.drewN nq) HB.out _
        case measure => simp [intOf]; omega
      · go_wp2
        go_quiet (fail)
        go_wp2
        go_roundw
        case rel =>
          refine ⟨k + 1, by omega, by go_num, keeps_drewN HK.out nq, ?_, by rw [HS.out, ← HH2.out]; omega, by rw [HS.out, ← HH2.out]; omega⟩
          rw [HS.out, ← HH2.out, Int.max_eq_left (by omega), HH2.out]
          exact HB.out
        case measure => simp [intOf]; omega
    · have hke : k = o.el := by omega
      have HT : Hid (o.ents.take k = o.ents) := List.take_of_length_le (by rw [HL.out]; omega)
      rw [HT.out] at q3
      have HB2 : Hid (Boxed4 wr w.heap.size o.kind o.data o.ea o.el o.ec (rhighs ros o.ents)) := by have := HB.out; rwa [HT.out] at this
      obtain ⟨q0, q1⟩ := HB2.out.parts2
      obtain ⟨H, hH⟩ : ∃ H, H = rhighs ros o.ents := ⟨_, rfl⟩
      rw [← hH] at q3 HB2
      have HH3 : Hid (H = rhighs ros o.ents) := hH
      clear hh0 hh6 hH HB
      have HO : Hid (wr.ownsRow 0 157 4 (.slice a ros.length cap) ros.length (obCells ros)) := ownsRow_keep h.row (fun g hg => kb g (ownsRow_lt h.row hg))
      have HP : Hid (some r ≠ (Value.slice a ros.length cap).ownBlock) := owns_ne_cells h.row h.hr (by decide)
      have H1 : Hid (∀ u ∈ [Value.int .i64 o.kind, .string o.data, .slice o.ea o.el o.ec, .int .i64 H], u.oneCell' = true) := by intro u hu; simp at hu; rcases hu with rfl | rfl | rfl | rfl <;> rfl
      have hfr : wr.frozen? ⟨r, 0, none⟩ = false := (World.frozen?_of_block (a := ⟨r, 0, none⟩) (kb r hrl)).trans h.f0
      have hrl' : r < wr.heap.size := by omega
      go_wp2
      go_region_law (refine step_append_own_at rfl (.tmp 51) (.tmp 53) 145 rfl 0 157 i0 _ 4 56 Tryz.underlying145 hi hz0 hz1 hz2 rfl (by decide) (.slice a ros.length cap) ros.length (obCells ros) (by simp [Act.eval]) (HO.out.alloc _) ⟨wr.heap.size, 0, none⟩ 1 1 [.int .i64 o.kind, .string o.data, .slice o.ea o.el o.ec, .int .i64 H] (by simp [Act.eval]) rfl (cells4 wr (.int .i64 o.kind) (.string o.data) (.slice o.ea o.el o.ec) (.int .i64 H) 157) H1.out (by unfold maxLen; omega) (by omega) (Nat.zero_le _) ?_; intro v' w2 hown' hgrow hloc; obtain ⟨g, cap', rfl⟩ := slice_of_owns hown' (by omega); have k1' := grown_cell1 hgrow hrl' HP.out hcr; have k2' := grown_frozen1 hgrow hrl' HP.out hfr)
      all_goals
        have HF : Hid _ := put_after h kb hsr ⟨HK.out.os.trans hbw.os, HK.out.tape.trans hbw.tape, HK.out.output.trans hbw.output⟩ HP.out hown' hgrow hloc
        clear hown' hgrow hloc
        go_wp2
        go_ret
        rw [HH3.out] at HF
        exact ⟨by simp, g, cap', HF.out⟩
end Go.Proofs.YtogeefmegegnnaaGreat
