/-
  What is proved here: 'keepEntries': one list more is written full and held.
-/
import Derived.Test.YtogeefmegegnnaaGreatLawG
import Derived.ArgAppend
namespace Go.Proofs.YtogeefmegegnnaaGreat
open Go.RowKit Go.Sort Go.Shelf
set_option linter.unusedVariables false

theorem infoEs : (Tryz.prog.info? 91).map (fun i => (i.zero, i.size, i.bytes)) = some (some (.slice none 0 0), 1, 24) := by kernel_rfl

/-- A list that came out: nobody else's, no spare room. -/
def Came (w : World) (la : Option Addr) (m : Nat) : Prop := (la = none → m = 0) ∧ ∀ b, la = some b → ∃ g xs, b = ⟨g, 0, none⟩ ∧ w.ownsRow 0 112 3 (.slice la m m) m xs

theorem lit_cells (W : World) (cs : List Value) (t : TypeId) : ∀ j u, cs[j]? = some u → (W.alloc (.cells cs.toArray t)).cell? ((⟨W.heap.size, 0, none⟩ : Addr).add j) = some u := by
  intro j u h
  rw [add_flat, Nat.zero_add]
  have := heap_alloc_new W (.cells cs.toArray t)
  unfold World.cell?
  rw [this]
  simpa using h
theorem one_slice {a : Option Addr} {n c : Nat} : ∀ u ∈ [Value.slice a n c], u.oneCell' = true := by intro u hu; simp at hu; subst hu; rfl

def mkQ (q : Nat) : Ent := (⟨#[]⟩, -1000 - (q : Int), 0)
def Fill (w : World) (la : Option Addr) (m k q : Nat) : Prop := ∀ b, la = some b → ∃ g rest, b = ⟨g, 0, none⟩ ∧ rest.length = (m - k) * 3 ∧ w.ownsRow 0 112 3 (.slice la m m) m (flat (List.replicate k (mkQ q)) ++ rest)

theorem Keeps.refl {F : Nat → Prop} (w : World) : Keeps F w w := ⟨rfl, rfl, rfl, Nat.le_refl _, fun _ _ _ => rfl⟩

/-- One list more is held, four times. -/
def KeptOne (w w' : World) (W q : Nat) (cs : Array Value) (ea : Option Addr) (ec : Nat) (la : Option Addr) (m : Nat) (hs : List HeldL) : Prop :=
  ∃ g4 c4 ga ca gb cb gc cc, w'.heap[W]? = some (.cells (cs.setIfInBounds 9 (.slice (some ⟨g4, 0, none⟩) (4 * q + 4) c4)) 106 (0, 0)) ∧
    w'.ownsRow 0 91 1 (.slice (some ⟨g4, 0, none⟩) (4 * q + 4) c4) (4 * q + 4) ((hs ++ [(la, m, m), (some ⟨ga, 0, none⟩, m + 1, ca), (some ⟨gb, 0, none⟩, m + 2, cb), (some ⟨gc, 0, none⟩, m + 3, cc)]).map encH) ∧
    (∀ b, la = some b → ∃ g, b = ⟨g, 0, none⟩ ∧ w'.ownsRow 0 112 3 (.slice la m m) m (flat (List.replicate m (mkQ q)))) ∧
    w'.ownsRow w.heap.size 112 3 (.slice (some ⟨ga, 0, none⟩) (m + 1) ca) (m + 1) (flat (List.replicate (m + 1) (mkQ q))) ∧
    w'.ownsRow w.heap.size 112 3 (.slice (some ⟨gb, 0, none⟩) (m + 2) cb) (m + 2) (flat (List.replicate (m + 2) (mkQ q))) ∧
    w'.ownsRow w.heap.size 112 3 (.slice (some ⟨gc, 0, none⟩) (m + 3) cc) (m + 3) (flat (List.replicate (m + 3) (mkQ q))) ∧
    ((some g4 : Option Nat) = (Value.slice ea (4 * q) ec).ownBlock ∨ w.heap.size ≤ g4) ∧
    Keeps (fun x => x = W ∨ some x = (Value.slice ea (4 * q) ec).ownBlock ∨ some x = (Value.slice la m m).ownBlock) w w'

/-- A list of lists one longer: what stays. -/
theorem stage_next {w S S' : World} {W : Nat} {cs cs' : Array Value} {own0 ownl : Option Nat} {a : Option Addr} {n c g n' c' : Nat} {xs xs' : List Value} (hW : S.heap[W]? = some (.cells cs 106 (0, 0))) (row : S.ownsRow 0 91 1 (.slice a n c) n xs)
    (loc : ∀ x, (Value.slice a n c).ownBlock = some x → some x = own0 ∨ w.heap.size ≤ x) (hk : Keeps (fun x => x = W ∨ some x = own0 ∨ some x = ownl) w S)
    (P : S'.heap[W]? = some (.cells cs' 106 (0, 0)) ∧ S'.ownsRow 0 91 1 (.slice (some ⟨g, 0, none⟩) n' c') n' xs' ∧ ((some g : Option Nat) = (Value.slice a n c).ownBlock ∨ S.heap.size ≤ g) ∧ Keeps (fun k => k = W ∨ some k = (Value.slice a n c).ownBlock) S S') :
    (∀ x, (Value.slice (some ⟨g, 0, none⟩) n' c').ownBlock = some x → some x = own0 ∨ w.heap.size ≤ x) ∧ Keeps (fun x => x = W ∨ some x = own0 ∨ some x = ownl) w S' ∧
      ∀ {b : Nat} {v : Value} {l : Nat} {ys : List Value}, S.ownsRow b 112 3 v l ys → S'.ownsRow b 112 3 v l ys := by
  obtain ⟨p1, p2, p3, p4⟩ := P
  refine ⟨fun x hx => ?_, ⟨p4.os.trans hk.os, p4.tape.trans hk.tape, p4.output.trans hk.output, Nat.le_trans hk.size p4.size, fun x hx hn => ?_⟩, fun hr => row_stays hr p4 hW (by decide) (fun g hg => rows_apart hr row (by decide) hg)⟩
  · simp only [Value.ownBlock, Option.some.injEq] at hx
    subst hx
    rcases p3 with e | e
    · exact loc _ e.symm
    · exact .inr (Nat.le_trans hk.size e)
  · rw [p4.block x (Nat.lt_of_lt_of_le hx hk.size) ?_]
    · exact hk.block x hx hn
    · rintro (e | e)
      · exact hn (.inl e)
      · rcases loc x e.symm with h | h
        · exact hn (.inr (.inl h))
        · omega

set_option maxRecDepth 100000 in
set_option maxHeartbeats 4000000 in
theorem keepEntries_any (W q : Nat) (cs : Array Value) (ea : Option Addr) (ec m : Nat) (la : Option Addr) (hs : List HeldL) (w : World) (hW : w.heap[W]? = some (.cells cs 106 (0, 0))) (h9 : cs[9]? = some (.slice ea (4 * q) ec)) (hn : hs.length = 4 * q) (hlen : 4 * q ≤ 1000000000)
    (row : w.ownsRow 0 91 1 (.slice ea (4 * q) ec) (4 * q) (hs.map encH)) (hm : m ≤ 16) (hl : Came w la m) :
    Calls Tryz.prog 82 #[.pointer (some ⟨W, 8, none⟩), .slice la m m] w fun e w' => e = .returned (.tuple #[]) ∧ KeptOne w w' W q cs ea ec la m hs := by
  obtain ⟨i0, hi, hz0, hz1, hz2⟩ := info_parts infoE
  obtain ⟨iS, hS, hS0, hS1, hS2⟩ := info_parts infoEs
  have hWl : W < w.heap.size := (Array.getElem?_eq_some_iff.1 hW).1
  have e9 : w.cell? ⟨W, 9, none⟩ = some (.slice ea (4 * q) ec) := by simp [World.cell?, hW, h9]
  have HC : Hid (Came w la m) := hl
  have HR : Hid (w.ownsRow 0 91 1 (.slice ea (4 * q) ec) (4 * q) (hs.map encH)) := row
  have HFI : Hid (∀ B : Obj, Fill (w.alloc B) la m 0 q) := fun B b hb => by
    obtain ⟨g, xs, h1, h2⟩ := hl.2 b hb
    exact ⟨g, xs, h1, by rw [h2.1, Nat.sub_zero], by simpa [flat] using h2.alloc B⟩
  have HOL : Hid (∀ g, (Value.slice la m m).ownBlock = some g → g < w.heap.size ∧ g ≠ W) := fun g hg => by
    cases la with
    | none => cases hg
    | some b =>
      obtain ⟨g', xs, h1, h2⟩ := hl.2 b rfl
      refine ⟨ownsRow_lt h2 hg, fun e => ?_⟩
      subst e
      exact owns_ne_cells h2 hW (by decide) hg.symm
  have h9l : 9 < cs.size := (Array.getElem?_eq_some_iff.1 h9).1
  have h9s : ∀ v : Value, (cs.setIfInBounds 9 v)[9]? = some v := fun v => by simp [h9l]
  clear hl row
  go_enter Tryz.func82, Tryz.ntmps82
  go_wp2
  go_loopw [5] (fun i wr => ∃ k : Nat, k ≤ m ∧ i = .int .i64 (k : Int) ∧ Hid (Keeps (fun x => some x = (Value.slice la m m).ownBlock) (w.alloc (.cells #[.string ⟨#[]⟩, .int .i64 (-1000 - (q : Int)), .int .i64 0] 112)) wr) ∧ Hid (Fill wr la m k q)) (fun i _ => m - (intOf i).toNat)
  case atStart => exact ⟨0, Nat.zero_le _, rfl, Keeps.refl _, HFI.out _⟩
  case round =>
    obtain ⟨k, hk, rfl, HK, HF⟩ := hrel
    have hkb : ∀ x, x < w.heap.size + 1 → some x ≠ (Value.slice la m m).ownBlock → wr.heap[x]? = (w.alloc (.cells #[.string ⟨#[]⟩, .int .i64 (-1000 - (q : Int)), .int .i64 0] 112)).heap[x]? := fun x hx hne => HK.out.block x (by simpa using hx) hne
    have hbox : wr.heap[w.heap.size]? = some (.cells #[.string ⟨#[]⟩, .int .i64 (-1000 - (q : Int)), .int .i64 0] 112 (0, 0)) := by
      rw [hkb w.heap.size (by omega) (fun e => by have := (HOL.out _ e.symm).1; omega)]
      exact heap_alloc_new _ _
    have x0 : wr.cell? ⟨w.heap.size, 0, none⟩ = some (.string ⟨#[]⟩) := by simp [World.cell?, hbox]
    have x1 : wr.cell? ⟨w.heap.size, 1, none⟩ = some (.int .i64 (-1000 - (q : Int))) := by simp [World.cell?, hbox]
    have x2 : wr.cell? ⟨w.heap.size, 2, none⟩ = some (.int .i64 0) := by simp [World.cell?, hbox]
    have HBX : Hid _ := hbox
    clear hbox
    by_cases hlt : k < m
    · cases la with
      | none => have := HC.out.1 rfl; omega
      | some b =>
        obtain ⟨g, rest, rfl, hrl, hown⟩ := HF.out b rfl
        have hfz := fun j => hown.frozenAt j
        have hcs : ∀ j, j < 3 → ∃ v, wr.cell? ⟨g, k * 3 + j, none⟩ = some v := fun j hj => by
          rw [hown.cellAt (k * 3 + j) (by omega)]
          exact ⟨_, List.getElem?_eq_getElem (by rw [List.length_append, flat_len, List.length_replicate, hrl]; omega)⟩
        obtain ⟨v0, y0⟩ := hcs 0 (by omega)
        obtain ⟨v1, y1⟩ := hcs 1 (by omega)
        obtain ⟨v2, y2⟩ := hcs 2 (by omega)
        rw [Nat.add_zero] at y0
        have hkm : (k : Int) < (m : Int) := by omega
        have HO : Hid _ := hown
        have hgw : g ≠ w.heap.size := fun e => by have := (HOL.out g rfl).1; omega
        clear hcs hown hkb
        go_wp2
        go_roundw
        case rel =>
          refine ⟨k + 1, by omega, by go_num, ?_, ?_⟩
          · exact ⟨HK.out.os, HK.out.tape, HK.out.output, by simpa using HK.out.size, fun x hx hne => by
              have hxg : x ≠ g := fun e => hne (by rw [e]; rfl)
              rw [Below.heap_setCell _ _ _ _ hxg, Below.heap_setCell _ _ _ _ hxg, Below.heap_setCell _ _ _ _ hxg]
              exact HK.out.block x hx hne⟩
          · intro b hb
            cases hb
            refine ⟨g, rest.drop 3, rfl, by rw [List.length_drop, hrl]; omega, ?_⟩
            have := put3 (n := k) HO.out (by simp) (by omega) (mkQ q)
            rw [← List.replicate_succ'] at this
            exact this
        case measure => simp [intOf]; omega
    · have hke : k = m := by omega
      subst hke
      have HFm : Hid (∀ b, la = some b → ∃ g, b = ⟨g, 0, none⟩ ∧ wr.ownsRow 0 112 3 (.slice la k k) k (flat (List.replicate k (mkQ q)))) := fun b hb => by
        obtain ⟨g, rest, h1, h2, h3⟩ := HF.out b hb
        have : rest = [] := List.eq_nil_of_length_eq_zero (by rw [h2]; omega)
        subst this
        exact ⟨g, h1, by simpa using h3⟩
      have HNO : Hid (la = none → k = 0 ∧ k = 0) := fun h => ⟨HC.out.1 h, HC.out.1 h⟩
      have HLO : Hid ((flat (List.replicate k (mkQ q))).length = k * 3) := by show _ = _; rw [flat_len, List.length_replicate]
      have HH : Hid (∀ W' : World, (∀ x, x < wr.heap.size → W'.heap[x]? = wr.heap[x]?) → ∀ b, la = some b → ∀ j u, (flat (List.replicate k (mkQ q)))[j]? = some u → W'.cell? (b.add j) = some u) := fun W' hW' b hb j u hu => by
        obtain ⟨g, rfl, ho⟩ := HFm.out b hb
        subst hb
        have h1 := ho.cells (g := g) rfl j u hu
        rw [add_flat] at h1 ⊢
        rw [World.cell?_of_block (a := ⟨g, 0 + j, none⟩) (hW' g (ownsRow_lt ho rfl))]
        exact h1
      have hlm : ((k : Int) < (k : Int)) = False := by simp
      go_wp2_with (at_builtin; refine wpList_append_grows _ rfl (.tmp 27) (.tmp 29) 91 rfl 112 i0 _ 3 32 Tryz.underlying91 hi hz0 hz1 hz2 rfl (by decide) la k k (flat (List.replicate k (mkQ q))) rfl HNO.out HLO.out (HH.out _ (kb_alloc0 _ _)) ⟨wr.heap.size, 0, none⟩ 1 1 (encE (mkQ q)) rfl rfl (item_cells wr (mkQ q) _ _ rfl) (encE_one _) (by omega) (by unfold maxLen; omega) (by omega) ?_)
      intro va wa hoa hga
      obtain ⟨ga, ca, rfl⟩ := slice_of_owns hoa (by omega)
      have hsz : w.heap.size < wr.heap.size := (Array.getElem?_eq_some_iff.1 HBX.out).1
      have BA : Hid (Below wr.heap.size wr wa) := ((Below.refl _ _).alloc (Nat.le_refl _) _).grown hga (by simp) (fun k h => by cases h)
      have HOA : Hid (wa.ownsRow (wr.heap.size + 1) 112 3 (.slice (some ⟨ga, 0, none⟩) (k + 1) ca) (k + 1) (flat (List.replicate (k + 1) (mkQ q)))) := by rw [List.replicate_succ', flat_append, flat_one_item]; exact hoa
      have xa0 := (BA.out.cell (p := ⟨w.heap.size, 0, none⟩) hsz).trans x0
      have xa1 := (BA.out.cell (p := ⟨w.heap.size, 1, none⟩) hsz).trans x1
      have xa2 := (BA.out.cell (p := ⟨w.heap.size, 2, none⟩) hsz).trans x2
      have sa : wr.heap.size ≤ wa.heap.size := BA.out.size
      have HWA : Hid (∀ o : Obj, ∀ x, x < wr.heap.size → (wa.alloc o).heap[x]? = wr.heap[x]?) := fun o x hx => (kb_alloc0 wa o x (by omega)).trans (BA.out.block x hx)
      clear hga hoa
      go_wp2_with (at_builtin; refine wpList_append_grows _ rfl (.tmp 31) (.tmp 34) 91 rfl 112 i0 _ 3 32 Tryz.underlying91 hi hz0 hz1 hz2 rfl (by decide) la k k (flat (List.replicate k (mkQ q))) rfl HNO.out HLO.out (HH.out _ (HWA.out _)) ⟨wa.heap.size, 0, none⟩ 2 2 (flat [mkQ q, mkQ q]) rfl rfl (lit_cells wa (flat [mkQ q, mkQ q]) 112) (flat_one _) (by omega) (by unfold maxLen; omega) (by omega) ?_)
      intro vb wb hob hgb
      obtain ⟨gb, cb, rfl⟩ := slice_of_owns hob (by omega)
      have BB : Hid (Below wa.heap.size wa wb) := ((Below.refl _ _).alloc (Nat.le_refl _) _).grown hgb (by simp) (fun k h => by cases h)
      have HOB : Hid (wb.ownsRow (wa.heap.size + 1) 112 3 (.slice (some ⟨gb, 0, none⟩) (k + 2) cb) (k + 2) (flat (List.replicate (k + 2) (mkQ q)))) := by rw [← List.replicate_append_replicate, flat_append]; exact hob
      have xb0 := (BB.out.cell (p := ⟨w.heap.size, 0, none⟩) (by show w.heap.size < _; omega)).trans xa0
      have xb1 := (BB.out.cell (p := ⟨w.heap.size, 1, none⟩) (by show w.heap.size < _; omega)).trans xa1
      have xb2 := (BB.out.cell (p := ⟨w.heap.size, 2, none⟩) (by show w.heap.size < _; omega)).trans xa2
      have sb : wa.heap.size ≤ wb.heap.size := BB.out.size
      have HWB : Hid (∀ o : Obj, ∀ x, x < wr.heap.size → (wb.alloc o).heap[x]? = wr.heap[x]?) := fun o x hx => (kb_alloc0 wb o x (by omega)).trans ((BB.out.block x (by omega)).trans (BA.out.block x hx))
      clear hgb hob xa0 xa1 xa2
      go_wp2_with (at_builtin; refine wpList_append_grows _ rfl (.tmp 36) (.tmp 40) 91 rfl 112 i0 _ 3 32 Tryz.underlying91 hi hz0 hz1 hz2 rfl (by decide) la k k (flat (List.replicate k (mkQ q))) rfl HNO.out HLO.out (HH.out _ (HWB.out _)) ⟨wb.heap.size, 0, none⟩ 3 3 (flat [mkQ q, mkQ q, mkQ q]) rfl rfl (lit_cells wb (flat [mkQ q, mkQ q, mkQ q]) 112) (flat_one _) (by omega) (by unfold maxLen; omega) (by omega) ?_)
      intro vc wc hoc hgc
      obtain ⟨gc, cc, rfl⟩ := slice_of_owns hoc (by omega)
      have BC : Hid (Below wb.heap.size wb wc) := ((Below.refl _ _).alloc (Nat.le_refl _) _).grown hgc (by simp) (fun k h => by cases h)
      have HOC : Hid (wc.ownsRow (wb.heap.size + 1) 112 3 (.slice (some ⟨gc, 0, none⟩) (k + 3) cc) (k + 3) (flat (List.replicate (k + 3) (mkQ q)))) := by rw [← List.replicate_append_replicate, flat_append]; exact hoc
      have sc : wb.heap.size ≤ wc.heap.size := BC.out.size
      clear hgc hoc xb0 xb1 xb2
      have BR : Hid (Below wr.heap.size wr wc) := (BA.out.trans (BB.out.mono sa)).trans (BC.out.mono (by omega))
      have hWc : wc.heap[W]? = some (.cells cs 106 (0, 0)) := by
        rw [BR.out.block W (by omega), hkb W (by omega) (fun e => (HOL.out W e.symm).2 rfl), Below.heap_alloc _ _ _ hWl]; exact hW
      have HRc : Hid (wc.ownsRow 0 91 1 (.slice ea (4 * q) ec) (4 * q) (hs.map encH)) := ownsRow_keep HR.out (fun g hg => by
        have hl := ownsRow_lt HR.out hg
        rw [BR.out.block g (by omega), hkb g (by omega) (fun e => ?_), Below.heap_alloc _ _ _ hl]
        cases la with
        | none => cases e
        | some b =>
          obtain ⟨g', _, ho⟩ := HFm.out b rfl
          obtain ⟨cur, hcur⟩ := owns_block HR.out hg
          have hlt' := HOL.out g e.symm
          obtain ⟨g2, xs2, h1, h2⟩ := HC.out.2 b rfl
          exact rows_apart HR.out h2 (by decide) hg e)
      have hWcl : W < wc.heap.size := by omega
      have p9 : wc.cell? ⟨W, 9, none⟩ = some (.slice ea (4 * q) ec) := by simp [World.cell?, hWc, h9]
      have f9 : wc.frozen? ⟨W, 9, none⟩ = false := by simp [World.frozen?, hWc]
      go_wp2_with (at_builtin; refine wpList_append_at rfl (.tmp 46) (.tmp 48) 100 rfl 0 91 iS _ 1 24 Tryz.underlying100 hS hS0 hS1 hS2 rfl (by decide) (.slice ea (4 * q) ec) (4 * q) (hs.map encH) rfl (World.ownsRow.alloc HRc.out _) ⟨wc.heap.size, 0, none⟩ 1 1 [.slice la k k] rfl rfl (one_cell _ _ _ _ rfl) one_slice (by unfold maxLen; omega) (by omega) (Nat.zero_le _) ?_)
      intro v1 w1 ho1 hg1 hloc1
      obtain ⟨g1, c1, rfl⟩ := slice_of_owns ho1 (by omega)
      have P1 := push_after (i := 9) hWc HRc.out (by decide) (kb_alloc0 _ _) (by simp) ⟨rfl, rfl, rfl⟩ ho1 hg1 hloc1 (by omega)
      have hW1 := grown_W hWc (kb_alloc0 _ _) (by simp) hg1 (owns_ne_cells HRc.out hWc (by decide))
      have s1 : wc.heap.size ≤ w1.heap.size := by have := hg1.size; simp at this; omega
      have p91 : w1.cell? ⟨W, 9, none⟩ = some (.slice ea (4 * q) ec) := by simp [World.cell?, hW1, h9]
      have f91 : w1.frozen? ⟨W, 9, none⟩ = false := by simp [World.frozen?, hW1]
      have H1 : Hid _ := P1
      have hWl1 : W < w1.heap.size := by omega
      clear ho1 hg1 hloc1 P1 hW1 p9 f9
      go_wp2_with (at_builtin; refine wpList_append_at rfl (.tmp 56) (.tmp 58) 100 rfl 0 91 iS _ 1 24 Tryz.underlying100 hS hS0 hS1 hS2 rfl (by decide) (.slice (some ⟨g1, 0, none⟩) (4 * q + 1) c1) (4 * q + 1) (hs.map encH ++ [.slice la k k]) rfl (World.ownsRow.alloc H1.out.2.1 _) ⟨w1.heap.size, 0, none⟩ 1 1 [.slice (some ⟨ga, 0, none⟩) (k + 1) ca] rfl rfl (one_cell _ _ _ _ (by simp)) one_slice (by unfold maxLen; omega) (by omega) (Nat.zero_le _) ?_)
      intro v2 w2 ho2 hg2 hloc2
      obtain ⟨g2, c2, rfl⟩ := slice_of_owns ho2 (by omega)
      have ho2' : w2.ownsRow 0 91 1 (.slice (some ⟨g2, 0, none⟩) (4 * q + 1 + 1) c2) (4 * q + 1 + 1) (hs.map encH ++ [.slice la k k] ++ [.slice (some ⟨ga, 0, none⟩) (k + 1) ca]) := by simpa using ho2
      have P2 := push_after (i := 9) H1.out.1 H1.out.2.1 (by decide) (kb_alloc0 _ _) (by simp) ⟨rfl, rfl, rfl⟩ ho2' hg2 hloc2 (by simp)
      have hW2 := grown_W H1.out.1 (kb_alloc0 _ _) (by simp) hg2 (owns_ne_cells H1.out.2.1 H1.out.1 (by decide))
      have s2 : w1.heap.size ≤ w2.heap.size := by have := hg2.size; simp at this; omega
      have p92 : w2.cell? ⟨W, 9, none⟩ = some (.slice (some ⟨g1, 0, none⟩) (4 * q + 1) c1) := by simp [World.cell?, hW2, h9s]
      have f92 : w2.frozen? ⟨W, 9, none⟩ = false := by simp [World.frozen?, hW2]
      have H2 : Hid _ := P2
      have hWl2 : W < w2.heap.size := by omega
      clear ho2 ho2' hg2 hloc2 P2 hW2 p91 f91
      go_wp2_with (at_builtin; refine wpList_append_at rfl (.tmp 66) (.tmp 68) 100 rfl 0 91 iS _ 1 24 Tryz.underlying100 hS hS0 hS1 hS2 rfl (by decide) (.slice (some ⟨g2, 0, none⟩) (4 * q + 1 + 1) c2) (4 * q + 1 + 1) (hs.map encH ++ [.slice la k k] ++ [.slice (some ⟨ga, 0, none⟩) (k + 1) ca]) rfl (World.ownsRow.alloc H2.out.2.1 _) ⟨w2.heap.size, 0, none⟩ 1 1 [.slice (some ⟨gb, 0, none⟩) (k + 2) cb] rfl rfl (one_cell _ _ _ _ (by simp)) one_slice (by unfold maxLen; omega) (by omega) (Nat.zero_le _) ?_)
      intro v3 w3 ho3 hg3 hloc3
      obtain ⟨g3, c3, rfl⟩ := slice_of_owns ho3 (by omega)
      have ho3' : w3.ownsRow 0 91 1 (.slice (some ⟨g3, 0, none⟩) (4 * q + 1 + 1 + 1) c3) (4 * q + 1 + 1 + 1) (hs.map encH ++ [.slice la k k] ++ [.slice (some ⟨ga, 0, none⟩) (k + 1) ca] ++ [.slice (some ⟨gb, 0, none⟩) (k + 2) cb]) := by simpa using ho3
      have P3 := push_after (i := 9) H2.out.1 H2.out.2.1 (by decide) (kb_alloc0 _ _) (by simp) ⟨rfl, rfl, rfl⟩ ho3' hg3 hloc3 (by simp)
      have hW3 := grown_W H2.out.1 (kb_alloc0 _ _) (by simp) hg3 (owns_ne_cells H2.out.2.1 H2.out.1 (by decide))
      have s3 : w2.heap.size ≤ w3.heap.size := by have := hg3.size; simp at this; omega
      have p93 : w3.cell? ⟨W, 9, none⟩ = some (.slice (some ⟨g2, 0, none⟩) (4 * q + 1 + 1) c2) := by simp [World.cell?, hW3, h9l]
      have f93 : w3.frozen? ⟨W, 9, none⟩ = false := by simp [World.frozen?, hW3]
      have H3 : Hid _ := P3
      have hWl3 : W < w3.heap.size := by omega
      clear ho3 ho3' hg3 hloc3 P3 hW3 p92 f92
      go_wp2_with (at_builtin; refine wpList_append_at rfl (.tmp 76) (.tmp 78) 100 rfl 0 91 iS _ 1 24 Tryz.underlying100 hS hS0 hS1 hS2 rfl (by decide) (.slice (some ⟨g3, 0, none⟩) (4 * q + 1 + 1 + 1) c3) (4 * q + 1 + 1 + 1) (hs.map encH ++ [.slice la k k] ++ [.slice (some ⟨ga, 0, none⟩) (k + 1) ca] ++ [.slice (some ⟨gb, 0, none⟩) (k + 2) cb]) rfl (World.ownsRow.alloc H3.out.2.1 _) ⟨w3.heap.size, 0, none⟩ 1 1 [.slice (some ⟨gc, 0, none⟩) (k + 3) cc] rfl rfl (one_cell _ _ _ _ (by simp)) one_slice (by unfold maxLen; omega) (by omega) (Nat.zero_le _) ?_)
      intro v4 w4 ho4 hg4 hloc4
      obtain ⟨g4, c4, rfl⟩ := slice_of_owns ho4 (by omega)
      have ho4' : w4.ownsRow 0 91 1 (.slice (some ⟨g4, 0, none⟩) (4 * q + 1 + 1 + 1 + 1) c4) (4 * q + 1 + 1 + 1 + 1) (hs.map encH ++ [.slice la k k] ++ [.slice (some ⟨ga, 0, none⟩) (k + 1) ca] ++ [.slice (some ⟨gb, 0, none⟩) (k + 2) cb] ++ [.slice (some ⟨gc, 0, none⟩) (k + 3) cc]) := by simpa using ho4
      have P4 := push_after (i := 9) H3.out.1 H3.out.2.1 (by decide) (kb_alloc0 _ _) (by simp) ⟨rfl, rfl, rfl⟩ ho4' hg4 hloc4 (by simp)
      have hW4 := grown_W H3.out.1 (kb_alloc0 _ _) (by simp) hg4 (owns_ne_cells H3.out.2.1 H3.out.1 (by decide))
      have p94 : w4.cell? ⟨W, 9, none⟩ = some (.slice (some ⟨g3, 0, none⟩) (4 * q + 1 + 1 + 1) c3) := by simp [World.cell?, hW4, h9l]
      have f94 : w4.frozen? ⟨W, 9, none⟩ = false := by simp [World.frozen?, hW4]
      have H4 : Hid _ := P4
      clear ho4 ho4' hg4 hloc4 P4 hW4 p93 f93
      have HKC : Hid (Keeps (fun x => x = W ∨ some x = (Value.slice ea (4 * q) ec).ownBlock ∨ some x = (Value.slice la k k).ownBlock) w wc) := by
        have z := HK.out.size
        simp at z
        exact ⟨BR.out.os.trans HK.out.os, BR.out.tape.trans HK.out.tape, BR.out.output.trans HK.out.output, by have := BR.out.size; omega, fun x hx hne => by rw [BR.out.block x (by omega), hkb x (by omega) (fun e => hne (.inr (.inr e))), Below.heap_alloc _ _ _ hx]⟩
      have T1 := stage_next hWc HRc.out (fun x hx => .inl hx.symm) HKC.out H1.out
      have T2 := stage_next H1.out.1 H1.out.2.1 T1.1 T1.2.1 H2.out
      have T3 := stage_next H2.out.1 H2.out.2.1 T2.1 T2.2.1 H3.out
      have T4 := stage_next H3.out.1 H3.out.2.1 T3.1 T3.2.1 H4.out
      have HALL : Hid (KeptOne w (w4.setCell ⟨W, 9, none⟩ (.slice (some ⟨g4, 0, none⟩) (4 * q + 1 + 1 + 1 + 1) c4)) W q cs ea ec la k hs) := by
        have all : ∀ {b : Nat} {v : Value} {l : Nat} {ys : List Value}, wc.ownsRow b 112 3 v l ys → (w4.setCell ⟨W, 9, none⟩ (.slice (some ⟨g4, 0, none⟩) (4 * q + 1 + 1 + 1 + 1) c4)).ownsRow b 112 3 v l ys := fun h => T4.2.2 (T3.2.2 (T2.2.2 (T1.2.2 h)))
        refine ⟨g4, c4, ga, ca, gb, cb, gc, cc, ?_, ?_, fun b hb => ?_, ?_, ?_, ?_, T4.1 g4 rfl, T4.2.1⟩
        · have := H4.out.1
          simpa using this
        · have := H4.out.2.1
          simpa [encH] using this
        · obtain ⟨g, h1, h2⟩ := HFm.out b hb
          exact ⟨g, h1, all (ownsRow_keep h2 (fun x hx => BR.out.block x (ownsRow_lt h2 hx)))⟩
        · have h := HOA.out
          exact owns_mono (all (ownsRow_keep h (fun x hx => by
            have hl := ownsRow_lt h hx
            rw [BC.out.block x (by omega), BB.out.block x hl]))) (by omega)
        · have h := HOB.out
          exact owns_mono (all (ownsRow_keep h (fun x hx => BC.out.block x (ownsRow_lt h hx)))) (by omega)
        · exact owns_mono (all HOC.out) (by omega)
      clear T1 T2 T3 T4
      go_wp2
      go_end0
      exact ⟨rfl, HALL.out⟩
end Go.Proofs.YtogeefmegegnnaaGreat
