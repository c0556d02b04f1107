/-
  What is proved here: canopykeep's put and do. canopykeep's do, in the words of the model.
-/
import Derived.Test.YtajopoddmfdejaaGreatBackM39
import Derived.Deep.RegionHeld3
namespace Go.Proofs.YtajopoddmfdejaaGreat
open Go.RowKit Go.Sort Go.Shelf
set_option linter.unusedVariables false

section
variable {s i p : Nat} {B : WB} {objs : List Ob}

/-- What has been opened is written, and stays open. -/
def KWrote (s i p : Nat) (B : WB) (objs : List Ob) (tg : Tags) (w w' : World) (lim : Nat) : Prop := ∃ tg' g' t' b f pl, Moves (Mine i) tg tg' w w' ∧ WInv tg' w' s i p B objs g' lim ∧ Flat objs t' g'.ft ∧ LTok objs 5 t' ∧ RootOk objs t' ∧ FlOk objs g'.fl ∧ g'.op = updN (fun _ => none) 0 (some (b, f, 22, pl)) ∧ g'.fs.brk = false ∧ ∀ x, g'.fs.kF x = false

theorem open_cell {tg : Tags} {w : World} {g : WG} {lim b f k : Nat} {fg pl : Int} (h : WInv tg w s i p B objs g lim) (hk : k < 8) (ho : g.op k = some (b, f, fg, pl)) : B.wb < w.heap.size ∧ w.cell? ⟨B.wb, 1 + k, none⟩ = some (.pointer (some ⟨b, 0, none⟩)) ∧ w.frozen? ⟨B.wb, 1 + k, none⟩ = false := by
  obtain ⟨h1, _⟩ := h.wp.opens.tab
  refine ⟨h1.1, ?_, h1.2.2 _⟩
  rw [h1.2.1 k hk]
  show some (Value.pointer (Option.map _ (Option.map _ (g.op k)))) = _
  rw [ho]; rfl

theorem kwrite {tg0 : Tags} {w0 w : World} {lim : Nat} (hl : lim + 10 < 1099511627776) (h : KOpen s i p B objs tg0 w0 w lim) {d : ByteArray} (hd : d.size ≤ 256) :
    Calls Tryz.prog 51 #[.pointer (some ⟨B.wb, 0, none⟩), .int .i64 0, .string d] w fun e w' => e = .returned (.int .i64 0) ∧ KWrote s i p B objs tg0 w0 w' (lim + 2) := by
  obtain ⟨tg, g, t, b, f, m, hW, hF, hO, hR, hL, hop, hf, hb, hk⟩ := h
  have ho : g.op 0 = some (b, f, 22, 0) := by rw [hop]; exact updN_same _ _ _
  obtain ⟨_, c1, _⟩ := open_cell hW (by decide) ho
  by_cases h0 : d.size = 0
  · have hde : d = ⟨#[]⟩ := by
      apply toL_inj
      have h1 := toL_len d
      rw [h0] at h1
      exact List.length_eq_zero_iff.1 h1
    subst hde
    obtain ⟨_, _, e1, _, _⟩ := opened_cells hW ho
    refine (write_ws B.wb 0 b _ 0 _ w c1 (by decide) (write_none b 22 w e1 (by decide))).mono ?_
    rintro e w' ⟨he, rfl⟩
    exact ⟨he, tg, g, t, b, f, 0, m, hW.mono (by omega), hF, hO, hR, hL, hop, hb, hk⟩
  · have hby : bytesG objs g.fl g.fs f = (g.fs, 0, ⟨#[]⟩) := by unfold bytesG; rw [hf]; rfl
    refine (write_ws B.wb 0 b _ 0 _ w c1 (by decide) (write_gen hW (by omega) hL ho (a := 0) (by decide) (by omega) (by decide) (by show (0 : Int) + _ ≤ 256; omega) hby rfl (by omega))).mono ?_
    rintro e w' ⟨he, tg', m', hW'⟩
    refine ⟨he, tg', _, t, b, f, ((0 : Nat) : Int) + d.size, m.trans m', hW', hF, hO, hR, flOk_upd hL _ _, ?_, hb, hk⟩
    show updN g.op 0 _ = _
    rw [hop]
    funext x
    by_cases e : x = 0
    · subst e; rw [updN_same, updN_same]
    · rw [updN_other e, updN_other e, updN_other e]

theorem kclose {tg0 : Tags} {w0 w : World} {lim : Nat} (h : KWrote s i p B objs tg0 w0 w lim) :
    Calls Tryz.prog 52 #[.pointer (some ⟨B.wb, 0, none⟩), .int .i64 0] w fun e w' => e = .returned (.int .i64 0) ∧ KLeft s i p B objs tg0 w0 w' lim := by
  obtain ⟨tg, g, t, b, f, pl, m, hW, hF, hO, hR, hL, hop, hb, hk⟩ := h
  have ho : g.op 0 = some (b, f, 22, pl) := by rw [hop]; exact updN_same _ _ _
  obtain ⟨c0, c1, c2⟩ := open_cell hW (by decide) ho
  refine (close_ws B.wb 0 b w c0 c1 c2 (by decide)).mono ?_
  rintro e w' ⟨he, rfl⟩
  obtain ⟨m2, hW2⟩ := hW.close (k := 0) (by decide)
  refine ⟨he, tg, _, t, m.trans (m2.mono (fun x hx => .inr (by rw [hx]))), hW2, hF, hO, hR, hL, fun k => ?_, hb, hk⟩
  show updN g.op 0 none k = none
  rw [hop]
  by_cases e : k = 0
  · subst e; exact updN_same _ _ _
  · rw [updN_other e, updN_other e]

set_option maxRecDepth 100000 in
set_option maxHeartbeats 1000000 in
theorem kput {tg : Tags} {w : World} {g : WG} {lim : Nat} {t : LT} (h : KInv tg w s i p B objs g lim t) (hl : lim + 1000 < 1099511627776) {l : List ByteArray} (hL : Letters l) (d : ByteArray) (hd : d.size ≤ maxLen) :
    Calls Tryz.prog 26 #[.pointer (some ⟨B.wb, 0, none⟩), .string (joinB l), .string d] w fun e w' => ∃ er, e = .returned (.int .i64 er) ∧ KLeft s i p B objs tg w w' (lim + 500) := by
  have hop := kopen h hl hL
  have hsh := fun W => short_any d W hd
  have hss := short_size d
  generalize shortB d = sd at hsh hss
  have hwr := fun W (hk : KOpen s i p B objs tg w W (lim + 400)) => kwrite (by omega) hk hss
  have hcl := fun W (hk : KWrote s i p B objs tg w W (lim + 402)) => kclose hk
  have HOP : Hid _ := hop
  have HWR : Hid _ := hwr
  have HCL : Hid _ := hcl
  clear h hop hwr hcl hL hd
  generalize joinB l = tx at HOP ⊢
  go_enter Tryz.func26, Tryz.ntmps26
  go_wp2_with fail
  refine Calls.mono HOP.out ?_
  rintro e w1 (⟨er, her, rfl, hK⟩ | ⟨rfl, hK⟩)
  · have her' : (er == 0) = false := by simpa using her
    have HK : Hid _ := hK
    clear hK
    go_wp2
    go_ret
    obtain ⟨tg', g', t', a, b⟩ := HK.out
    exact ⟨er, rfl, tg', g', t', a, b.mono (by omega)⟩
  · have HK : Hid _ := hK
    clear hK
    go_wp2_with (first
      | (go_at_call 19; refine Calls.mono (hsh _) ?_; rintro e w2 ⟨rfl, rfl⟩)
      | (go_at_call 51; refine Calls.mono (HWR.out _ HK.out) ?_; rintro e w3 ⟨rfl, hK3⟩; have HK3 : Hid _ := hK3; clear hK3)
      | (go_at_call 52; refine Calls.mono (HCL.out _ HK3.out) ?_; rintro e w4 ⟨rfl, hK4⟩; have HK4 : Hid _ := hK4; clear hK4))
    go_ret
    obtain ⟨tg', g', t', a, b⟩ := HK4.out
    exact ⟨0, rfl, tg', g', t', a, b.mono (by omega)⟩

theorem step_keep {w w' : World} {b : Nat} {c0 c1 c2 c3 : Value} (h : w.cell? ⟨b, 0, none⟩ = some c0 ∧ w.cell? ⟨b, 1, none⟩ = some c1 ∧ w.cell? ⟨b, 2, none⟩ = some c2 ∧ w.cell? ⟨b, 3, none⟩ = some c3) (hk : ∀ o, w'.cell? ⟨b, o, none⟩ = w.cell? ⟨b, o, none⟩) : w'.cell? ⟨b, 0, none⟩ = some c0 ∧ w'.cell? ⟨b, 1, none⟩ = some c1 ∧ w'.cell? ⟨b, 2, none⟩ = some c2 ∧ w'.cell? ⟨b, 3, none⟩ = some c3 := by
  simp only [hk]; exact h

def i64 (x : Int) : Prop := -9223372036854775808 ≤ x ∧ x ≤ 9223372036854775807

theorem kleft_via {tg : Tags} {w W w' : World} {lim : Nat} (hb : Below w.heap.size w W) (h : KLeft s i p B objs tg W w' lim) : KLeft s i p B objs tg w w' lim := by
  obtain ⟨tg', g', t', m, hK⟩ := h
  exact ⟨tg', g', t', call_moves hb m, hK⟩
theorem KLeft.mono {tg : Tags} {w w' : World} {lim lim' : Nat} (h : KLeft s i p B objs tg w w' lim) (hl : lim ≤ lim') : KLeft s i p B objs tg w w' lim' := by
  obtain ⟨tg', g', t', m, hK⟩ := h
  exact ⟨tg', g', t', m, hK.mono hl⟩
theorem step_cells {w : World} {b : Nat} {c0 c1 c2 c3 : Value} {t : TypeId} (h : w.heap[b]? = some (.cells #[c0, c1, c2, c3] t (0, 0))) : w.cell? ⟨b, 0, none⟩ = some c0 ∧ w.cell? ⟨b, 1, none⟩ = some c1 ∧ w.cell? ⟨b, 2, none⟩ = some c2 ∧ w.cell? ⟨b, 3, none⟩ = some c3 :=
  ⟨by simp [World.cell?, h], by simp [World.cell?, h], by simp [World.cell?, h], by simp [World.cell?, h]⟩
theorem KLeft.box {tg : Tags} {w w' : World} {lim : Nat} (hi : 2 ≤ i) {W : World} (hb : Below w.heap.size w W) (ht : tg w.heap.size = (0, 0)) (hz : w.heap.size < W.heap.size) (h : KLeft s i p B objs tg W w' lim) (o : Nat) : w'.cell? ⟨w.heap.size, o, none⟩ = W.cell? ⟨w.heap.size, o, none⟩ := by
  obtain ⟨tg', g', t', m, hK⟩ := h
  exact kept_cell hi m hz ht o

set_option maxRecDepth 100000 in
set_option maxHeartbeats 2000000 in
theorem do_any {tg : Tags} {w : World} {g : WG} {lim : Nat} {t : LT} (h : KInv tg w s i p B objs g lim t) (hl : lim + 1000 < 1099511627776) (kd a b : Int) (d : ByteArray) (hk : i64 kd) (ha : i64 a) (hb : i64 b) (hd : d.size ≤ maxLen) :
    Calls Tryz.prog 14 #[.pointer (some ⟨B.wb, 0, none⟩), .agg #[.int .i64 kd, .int .i64 a, .int .i64 b, .string d]] w fun e w' => ∃ er, e = .returned (.int .i64 er) ∧ KLeft s i p B objs tg w w' (lim + 500) := by
  have hi := h.inv.two
  have hpk := fun W => kpick_any kd 6 W hk (by decide) (by decide)
  obtain ⟨hp0, hp1⟩ := pickN_range (c := kd) (n := 6) (by decide)
  generalize pickN kd 6 = pk at hpk hp0 hp1
  have hpa := fun W => path_any a W ha
  have hpb := fun W => path_any b W hb
  have hb0 : Below w.heap.size w (w.alloc (.cells #[.int .i64 kd, .int .i64 a, .int .i64 b, .string d] 24)) := (Below.refl _ _).alloc (Nat.le_refl _) _
  have hbd : Below w.heap.size w (w.alloc (.cells #[.int .i64 kd, .int .i64 a, .int .i64 b, .string d] 24)).drew := below_drew hb0
  have hput := fun l (hL : Letters l) => kput (h.below hbd) hl hL d hd
  have hmk := fun l (hL : Letters l) => kmkdir (h.below hb0) hl hL
  have hrm := fun l (hL : Letters l) => kremove (h.below hb0) hl hL
  have hrn := fun l m (hL : Letters l) (hM : Letters m) => krename (h.below hbd) hl hL hM
  have ht0 : tg w.heap.size = (0, 0) := h.inv.st.fresh _ (Nat.le_refl _)
  have hz0 : w.heap.size < (w.alloc (.cells #[.int .i64 kd, .int .i64 a, .int .i64 b, .string d] 24)).heap.size := by simp
  have hSD := step_cells (heap_alloc_new w (.cells #[.int .i64 kd, .int .i64 a, .int .i64 b, .string d] 24))
  have HSD : Hid _ := hSD
  have hSDd : (w.alloc (.cells #[.int .i64 kd, .int .i64 a, .int .i64 b, .string d] 24)).drew.cell? ⟨w.heap.size, 0, none⟩ = some (.int .i64 kd) ∧ (w.alloc (.cells #[.int .i64 kd, .int .i64 a, .int .i64 b, .string d] 24)).drew.cell? ⟨w.heap.size, 1, none⟩ = some (.int .i64 a) ∧ (w.alloc (.cells #[.int .i64 kd, .int .i64 a, .int .i64 b, .string d] 24)).drew.cell? ⟨w.heap.size, 2, none⟩ = some (.int .i64 b) ∧ (w.alloc (.cells #[.int .i64 kd, .int .i64 a, .int .i64 b, .string d] 24)).drew.cell? ⟨w.heap.size, 3, none⟩ = some (.string d) := hSD
  obtain ⟨q0, q1, q2, q3⟩ := hSD
  have HPUT : Hid _ := hput
  have HMK : Hid _ := hmk
  have HRM : Hid _ := hrm
  have HRN : Hid _ := hrn
  have HB0 : Hid _ := And.intro hb0 (And.intro hbd (And.intro ht0 hz0))
  clear h hput hmk hrm hrn hk ha hb hb0 hbd ht0 hz0
  have hcase : pk = 0 ∨ pk = 1 ∨ pk = 2 ∨ pk = 3 ∨ pk = 4 ∨ pk = 5 := by omega
  go_enter Tryz.func14, Tryz.ntmps14
  rcases hcase with rfl | rfl | rfl | rfl | rfl | rfl
  · go_wp2_with (go_at_call 18; refine Calls.mono (hpk _) ?_; rintro e w1 ⟨rfl, rfl⟩)
    go_region_held3 (fun w' => w'.cell? ⟨w.heap.size, 0, none⟩ = some (.int .i64 kd) ∧ w'.cell? ⟨w.heap.size, 1, none⟩ = some (.int .i64 a) ∧ w'.cell? ⟨w.heap.size, 2, none⟩ = some (.int .i64 b) ∧ w'.cell? ⟨w.heap.size, 3, none⟩ = some (.string d)) (first | exact hSDd | exact hS4) (first
      | (go_at_call 16; refine Calls.mono (hpa _) ?_; rintro e w2 ⟨l, hL, rfl, rfl⟩)
      | (go_at_call 26; refine Calls.mono (HPUT.out l hL) ?_; rintro e w3 ⟨er, rfl, hK⟩; have hS4 := step_keep hSDd (KLeft.box hi HB0.out.2.1 HB0.out.2.2.1 HB0.out.2.2.2 hK); have HK : Hid _ := hK; clear hK))
    go_wp2
    go_ret
    exact ⟨er, rfl, kleft_via HB0.out.2.1 HK.out⟩
  · go_wp2_with (go_at_call 18; refine Calls.mono (hpk _) ?_; rintro e w1 ⟨rfl, rfl⟩)
    go_region_held3 (fun w' => w'.cell? ⟨w.heap.size, 0, none⟩ = some (.int .i64 kd) ∧ w'.cell? ⟨w.heap.size, 1, none⟩ = some (.int .i64 a) ∧ w'.cell? ⟨w.heap.size, 2, none⟩ = some (.int .i64 b) ∧ w'.cell? ⟨w.heap.size, 3, none⟩ = some (.string d)) (first | exact hSDd | exact hS4) (first
      | (go_at_call 16; refine Calls.mono (hpa _) ?_; rintro e w2 ⟨l, hL, rfl, rfl⟩)
      | (go_at_call 26; refine Calls.mono (HPUT.out l hL) ?_; rintro e w3 ⟨er, rfl, hK⟩; have hS4 := step_keep hSDd (KLeft.box hi HB0.out.2.1 HB0.out.2.2.1 HB0.out.2.2.2 hK); have HK : Hid _ := hK; clear hK))
    go_wp2
    go_ret
    exact ⟨er, rfl, kleft_via HB0.out.2.1 HK.out⟩
  · go_wp2_with (go_at_call 18; refine Calls.mono (hpk _) ?_; rintro e w1 ⟨rfl, rfl⟩)
    go_region_held3 (fun w' => w'.cell? ⟨w.heap.size, 0, none⟩ = some (.int .i64 kd) ∧ w'.cell? ⟨w.heap.size, 1, none⟩ = some (.int .i64 a) ∧ w'.cell? ⟨w.heap.size, 2, none⟩ = some (.int .i64 b) ∧ w'.cell? ⟨w.heap.size, 3, none⟩ = some (.string d)) (first | exact hSDd | exact hS4) (first
      | (go_at_call 16; refine Calls.mono (hpa _) ?_; rintro e w2 ⟨l, hL, rfl, rfl⟩)
      | (go_at_call 26; refine Calls.mono (HPUT.out l hL) ?_; rintro e w3 ⟨er, rfl, hK⟩; have hS4 := step_keep hSDd (KLeft.box hi HB0.out.2.1 HB0.out.2.2.1 HB0.out.2.2.2 hK); have HK : Hid _ := hK; clear hK))
    go_wp2
    go_ret
    exact ⟨er, rfl, kleft_via HB0.out.2.1 HK.out⟩
  · go_wp2_with (first
      | (go_at_call 18; refine Calls.mono (hpk _) ?_; rintro e w1 ⟨rfl, rfl⟩)
      | (go_at_call 16; refine Calls.mono (hpa _) ?_; rintro e w2 ⟨l, hL, rfl, rfl⟩)
      | (go_at_call 23; refine Calls.mono (HMK.out l hL) ?_; rintro e w3 ⟨er, rfl, hK⟩))
    go_ret
    exact ⟨er, rfl, (kleft_via HB0.out.1 hK).mono (by omega)⟩
  · go_wp2_with (first
      | (go_at_call 18; refine Calls.mono (hpk _) ?_; rintro e w1 ⟨rfl, rfl⟩)
      | (go_at_call 16; refine Calls.mono (hpa _) ?_; rintro e w2 ⟨l, hL, rfl, rfl⟩)
      | (go_at_call 25; refine Calls.mono (HRM.out l hL) ?_; rintro e w3 ⟨er, rfl, hK⟩))
    go_ret
    exact ⟨er, rfl, (kleft_via HB0.out.1 hK).mono (by omega)⟩
  · go_wp2_with (go_at_call 18; refine Calls.mono (hpk _) ?_; rintro e w1 ⟨rfl, rfl⟩)
    go_region_held3 (fun w' => w'.cell? ⟨w.heap.size, 0, none⟩ = some (.int .i64 kd) ∧ w'.cell? ⟨w.heap.size, 1, none⟩ = some (.int .i64 a) ∧ w'.cell? ⟨w.heap.size, 2, none⟩ = some (.int .i64 b) ∧ w'.cell? ⟨w.heap.size, 3, none⟩ = some (.string d)) (first | exact hSDd | exact hS4) (first
      | (go_at_call_of 16 (Value.int .i64 a); refine Calls.mono (hpa _) ?_; rintro e w2 ⟨l, hL, rfl, rfl⟩)
      | (go_at_call_of 16 (Value.int .i64 b); refine Calls.mono (hpb _) ?_; rintro e w2 ⟨m, hM, rfl, rfl⟩)
      | (go_at_call 24; refine Calls.mono (HRN.out l m hL hM) ?_; rintro e w3 ⟨er, rfl, hK⟩; have hS4 := step_keep hSDd (KLeft.box hi HB0.out.2.1 HB0.out.2.2.1 HB0.out.2.2.2 hK); have HK : Hid _ := hK; clear hK))
    go_wp2
    go_ret
    exact ⟨er, rfl, (kleft_via HB0.out.2.1 HK.out).mono (by omega)⟩
end
end Go.Proofs.YtajopoddmfdejaaGreat

namespace Go.Proofs.YtajopoddmfdejaaGreat
open Go.RowKit Go.Sort Go.Shelf
set_option linter.unusedVariables false

section
variable {s i p : Nat} {B : WB} {objs : List Ob}

/-- What a step does: its kind, its two paths, its bytes. -/
def StepTo (objs : List Ob) (g : WG) (t : LT) (k : Int) (na nb : ByteArray) (ra rb : List ByteArray) (d : ByteArray) (er : Int) (g' : WG) (t' : LT) : Prop :=
  (k < 3 ∧ PutTo objs g t na ra d er g' t') ∨
  (k = 3 ∧ er = (mkdirR objs t g.fs (na :: ra)).2.1 ∧ TreeTo g (mkdirR objs t g.fs (na :: ra)).1 (mkdirR objs t g.fs (na :: ra)).2.2 g' t') ∨
  (k = 4 ∧ er = (removeR objs t g.fs (na :: ra)).2.1 ∧ TreeTo g (removeR objs t g.fs (na :: ra)).1 (removeR objs t g.fs (na :: ra)).2.2 g' t') ∨
  (k = 5 ∧ er = (renameR objs t g.fs (na :: ra) (nb :: rb)).2.1 ∧ TreeTo g (renameR objs t g.fs (na :: ra) (nb :: rb)).1 (renameR objs t g.fs (na :: ra) (nb :: rb)).2.2 g' t')

theorem QTo.box {tg : Tags} {w w' : World} {lim : Nat} {R : WG → LT → Prop} (hi : 2 ≤ i) {W : World} (hb : Below w.heap.size w W) (ht : tg w.heap.size = (0, 0)) (hz : w.heap.size < W.heap.size) (h : QTo s i p B objs tg W w' lim R) (o : Nat) : w'.cell? ⟨w.heap.size, o, none⟩ = W.cell? ⟨w.heap.size, o, none⟩ := by
  obtain ⟨tg', g', t', m, hK, _⟩ := h
  exact kept_cell hi m hz ht o

set_option maxRecDepth 100000 in
set_option maxHeartbeats 2000000 in
theorem do_exact {tg : Tags} {w : World} {g : WG} {lim : Nat} {t : LT} (h : QInv tg w s i p B objs g lim t) (hl : lim + 1000 < 1099511627776) (kd a b : Int) (d : ByteArray) (hk : i64 kd) (ha : i64 a) (hb : i64 b) (hd : d.size ≤ maxLen) {na nb : ByteArray} {ra rb : List ByteArray} (hpa0 : pathL a = ra.reverse ++ [na]) (hpb0 : pathL b = rb.reverse ++ [nb]) :
    Calls Tryz.prog 14 #[.pointer (some ⟨B.wb, 0, none⟩), .agg #[.int .i64 kd, .int .i64 a, .int .i64 b, .string d]] w fun e w' => ∃ er, e = .returned (.int .i64 er) ∧ QTo s i p B objs tg w w' (lim + 500) (StepTo objs g t (pickN kd 6) na nb ra rb (shortB d) er) := by
  have hi := h.inv.two
  have hpk := fun W => kpick_any kd 6 W hk (by decide) (by decide)
  obtain ⟨hp0, hp1⟩ := pickN_range (c := kd) (n := 6) (by decide)
  generalize pickN kd 6 = pk at hpk hp0 hp1
  have hpa := fun W => path_exact a W ha
  have hpb := fun W => path_exact b W hb
  have hla := (pathL_letters a).good
  have hlb := (pathL_letters b).good
  rw [hpa0] at hpa hla
  rw [hpb0] at hpb hlb
  have hb0 : Below w.heap.size w (w.alloc (.cells #[.int .i64 kd, .int .i64 a, .int .i64 b, .string d] 24)) := (Below.refl _ _).alloc (Nat.le_refl _) _
  have hbd : Below w.heap.size w (w.alloc (.cells #[.int .i64 kd, .int .i64 a, .int .i64 b, .string d] 24)).drew := below_drew hb0
  have hput := qput (h.below hbd) hl hla d hd
  have hmk := qmkdir (h.below hb0) hl hla
  have hrm := qremove (h.below hb0) hl hla
  have hrn := qrename (h.below hbd) hl hla hlb
  have ht0 : tg w.heap.size = (0, 0) := h.inv.st.fresh _ (Nat.le_refl _)
  have hz0 : w.heap.size < (w.alloc (.cells #[.int .i64 kd, .int .i64 a, .int .i64 b, .string d] 24)).heap.size := by simp
  have hSD := step_cells (heap_alloc_new w (.cells #[.int .i64 kd, .int .i64 a, .int .i64 b, .string d] 24))
  have HSD : Hid _ := hSD
  have hSDd : (w.alloc (.cells #[.int .i64 kd, .int .i64 a, .int .i64 b, .string d] 24)).drew.cell? ⟨w.heap.size, 0, none⟩ = some (.int .i64 kd) ∧ (w.alloc (.cells #[.int .i64 kd, .int .i64 a, .int .i64 b, .string d] 24)).drew.cell? ⟨w.heap.size, 1, none⟩ = some (.int .i64 a) ∧ (w.alloc (.cells #[.int .i64 kd, .int .i64 a, .int .i64 b, .string d] 24)).drew.cell? ⟨w.heap.size, 2, none⟩ = some (.int .i64 b) ∧ (w.alloc (.cells #[.int .i64 kd, .int .i64 a, .int .i64 b, .string d] 24)).drew.cell? ⟨w.heap.size, 3, none⟩ = some (.string d) := hSD
  obtain ⟨q0, q1, q2, q3⟩ := hSD
  have HPUT : Hid _ := hput
  have HMK : Hid _ := hmk
  have HRM : Hid _ := hrm
  have HRN : Hid _ := hrn
  have HB0 : Hid _ := And.intro hb0 (And.intro hbd (And.intro ht0 hz0))
  clear h hput hmk hrm hrn hk ha hb hb0 hbd ht0 hz0 hla hlb hpa0 hpb0
  have HPAB : Hid (joinB (ra.reverse ++ [na]) = joinB (ra.reverse ++ [na]) ∧ joinB (rb.reverse ++ [nb]) = joinB (rb.reverse ++ [nb])) := ⟨rfl, rfl⟩
  generalize joinB (ra.reverse ++ [na]) = ja at hpa HPUT HMK HRM HRN
  generalize joinB (rb.reverse ++ [nb]) = jb at hpb HRN
  generalize shortB d = sd at HPUT ⊢
  clear HPAB
  have hcase : pk = 0 ∨ pk = 1 ∨ pk = 2 ∨ pk = 3 ∨ pk = 4 ∨ pk = 5 := by omega
  go_enter Tryz.func14, Tryz.ntmps14
  rcases hcase with rfl | rfl | rfl | rfl | rfl | rfl
  · go_wp2_with (go_at_call 18; refine Calls.mono (hpk _) ?_; rintro e w1 ⟨rfl, rfl⟩)
    go_region_held3 (fun w' => w'.cell? ⟨w.heap.size, 0, none⟩ = some (.int .i64 kd) ∧ w'.cell? ⟨w.heap.size, 1, none⟩ = some (.int .i64 a) ∧ w'.cell? ⟨w.heap.size, 2, none⟩ = some (.int .i64 b) ∧ w'.cell? ⟨w.heap.size, 3, none⟩ = some (.string d)) (first | exact hSDd | exact hS4) (first
      | (go_at_call 16; refine Calls.mono (hpa _) ?_; rintro e w2 ⟨rfl, rfl⟩)
      | (go_at_call 26; refine Calls.mono HPUT.out ?_; rintro e w3 ⟨er, rfl, hK⟩; have hS4 := step_keep hSDd (QTo.box hi HB0.out.2.1 HB0.out.2.2.1 HB0.out.2.2.2 hK); have HK : Hid _ := hK; clear hK))
    go_wp2
    go_ret
    exact ⟨er, rfl, QTo.imp (QTo.via HB0.out.2.1 HK.out) (fun g' t' h => .inl ⟨by decide, h⟩)⟩
  · go_wp2_with (go_at_call 18; refine Calls.mono (hpk _) ?_; rintro e w1 ⟨rfl, rfl⟩)
    go_region_held3 (fun w' => w'.cell? ⟨w.heap.size, 0, none⟩ = some (.int .i64 kd) ∧ w'.cell? ⟨w.heap.size, 1, none⟩ = some (.int .i64 a) ∧ w'.cell? ⟨w.heap.size, 2, none⟩ = some (.int .i64 b) ∧ w'.cell? ⟨w.heap.size, 3, none⟩ = some (.string d)) (first | exact hSDd | exact hS4) (first
      | (go_at_call 16; refine Calls.mono (hpa _) ?_; rintro e w2 ⟨rfl, rfl⟩)
      | (go_at_call 26; refine Calls.mono HPUT.out ?_; rintro e w3 ⟨er, rfl, hK⟩; have hS4 := step_keep hSDd (QTo.box hi HB0.out.2.1 HB0.out.2.2.1 HB0.out.2.2.2 hK); have HK : Hid _ := hK; clear hK))
    go_wp2
    go_ret
    exact ⟨er, rfl, QTo.imp (QTo.via HB0.out.2.1 HK.out) (fun g' t' h => .inl ⟨by decide, h⟩)⟩
  · go_wp2_with (go_at_call 18; refine Calls.mono (hpk _) ?_; rintro e w1 ⟨rfl, rfl⟩)
    go_region_held3 (fun w' => w'.cell? ⟨w.heap.size, 0, none⟩ = some (.int .i64 kd) ∧ w'.cell? ⟨w.heap.size, 1, none⟩ = some (.int .i64 a) ∧ w'.cell? ⟨w.heap.size, 2, none⟩ = some (.int .i64 b) ∧ w'.cell? ⟨w.heap.size, 3, none⟩ = some (.string d)) (first | exact hSDd | exact hS4) (first
      | (go_at_call 16; refine Calls.mono (hpa _) ?_; rintro e w2 ⟨rfl, rfl⟩)
      | (go_at_call 26; refine Calls.mono HPUT.out ?_; rintro e w3 ⟨er, rfl, hK⟩; have hS4 := step_keep hSDd (QTo.box hi HB0.out.2.1 HB0.out.2.2.1 HB0.out.2.2.2 hK); have HK : Hid _ := hK; clear hK))
    go_wp2
    go_ret
    exact ⟨er, rfl, QTo.imp (QTo.via HB0.out.2.1 HK.out) (fun g' t' h => .inl ⟨by decide, h⟩)⟩
  · go_wp2_with (first
      | (go_at_call 18; refine Calls.mono (hpk _) ?_; rintro e w1 ⟨rfl, rfl⟩)
      | (go_at_call 16; refine Calls.mono (hpa _) ?_; rintro e w2 ⟨rfl, rfl⟩)
      | (go_at_call 23; refine Calls.mono HMK.out ?_; rintro e w3 ⟨rfl, hK⟩))
    go_ret
    exact ⟨_, rfl, QTo.imp ((QTo.via HB0.out.1 hK).mono (by omega)) (fun g' t' h => .inr (.inl ⟨rfl, rfl, h⟩))⟩
  · go_wp2_with (first
      | (go_at_call 18; refine Calls.mono (hpk _) ?_; rintro e w1 ⟨rfl, rfl⟩)
      | (go_at_call 16; refine Calls.mono (hpa _) ?_; rintro e w2 ⟨rfl, rfl⟩)
      | (go_at_call 25; refine Calls.mono HRM.out ?_; rintro e w3 ⟨rfl, hK⟩))
    go_ret
    exact ⟨_, rfl, QTo.imp ((QTo.via HB0.out.1 hK).mono (by omega)) (fun g' t' h => .inr (.inr (.inl ⟨rfl, rfl, h⟩)))⟩
  · go_wp2_with (go_at_call 18; refine Calls.mono (hpk _) ?_; rintro e w1 ⟨rfl, rfl⟩)
    go_region_held3 (fun w' => w'.cell? ⟨w.heap.size, 0, none⟩ = some (.int .i64 kd) ∧ w'.cell? ⟨w.heap.size, 1, none⟩ = some (.int .i64 a) ∧ w'.cell? ⟨w.heap.size, 2, none⟩ = some (.int .i64 b) ∧ w'.cell? ⟨w.heap.size, 3, none⟩ = some (.string d)) (first | exact hSDd | exact hS4) (first
      | (go_at_call_of 16 (Value.int .i64 a); refine Calls.mono (hpa _) ?_; rintro e w2 ⟨rfl, rfl⟩)
      | (go_at_call_of 16 (Value.int .i64 b); refine Calls.mono (hpb _) ?_; rintro e w2 ⟨rfl, rfl⟩)
      | (go_at_call 24; refine Calls.mono HRN.out ?_; rintro e w3 ⟨rfl, hK⟩; have hS4 := step_keep hSDd (QTo.box hi HB0.out.2.1 HB0.out.2.2.1 HB0.out.2.2.2 hK); have HK : Hid _ := hK; clear hK))
    go_wp2
    go_ret
    exact ⟨_, rfl, QTo.imp (QTo.mono (QTo.via HB0.out.2.1 HK.out) (by omega)) (fun g' t' h => .inr (.inr (.inr ⟨rfl, rfl, h⟩)))⟩
end
end Go.Proofs.YtajopoddmfdejaaGreat
