/-
  What is proved here: the head of Held: e is opened twice. the middle of Held: e is removed, renamed, or another file comes in its place. the end of Held: what is written by one number is read by the other. the end of Held: Stat and told of what stands there now. Held, call by call.
-/
import Derived.Test.YtehpnebekgahnaaGreatHeldM01
import Derived.Test.YtehpnebekgahnaaGreatAskM50
namespace Go.Proofs.YtehpnebekgahnaaGreat
open Go.RowKit Go.Sort Go.Shelf
set_option linter.unusedVariables false

structure HSt (W wr : World) (s p : Nat) (B : WB) (objs : List Ob) (lim : Nat) (ks : Kids) (g : WG) : Prop where
  inv : ∃ tg, Old W wr tg ∧ WInv tg wr s 2 p B objs g lim
  flat : Flat objs (.own ks) g.ft
  ok : LTok objs 5 (.own ks)
  fl : FlOk objs g.fl
  brk : g.fs.brk = false

theorem HSt.rising {W wr : World} {s p : Nat} {B : WB} {objs : List Ob} {lim : Nat} {ks : Kids} {g : WG} (h : HSt W wr s p B objs lim ks g) : RisingK ks := by
  have := h.ok
  rw [LTok] at this
  exact this.1

theorem root_kids {objs : List Ob} {t : LT} {fs fs' : FS} {ks : Kids} (h : lookR objs t fs [] = (fs', 0, ks)) : kids objs t = some ks := by
  have h' : kidsG objs fs t = (fs', 0, ks) := h
  cases t with
  | file id => simp [kidsG] at h'
  | held f => simp [kidsG] at h'
  | own es => simp [kidsG] at h'; simp [kids, h'.2]
  | dir id =>
    simp only [kidsG] at h'
    split at h'
    · simp only [Prod.mk.injEq] at h'; simp [kids, h'.2.2]
    · simp only [Prod.mk.injEq] at h'; exact absurd h'.2.1 (by decide)

theorem nameF_valid : validB nameF = true := by unfold nameF validB; simp only [ByteArray.toList_eq]; decide
theorem nameEF : nameE ≠ nameF := by decide

/-- The head's outcome: e is a held file that is stored as object 1, not yet fetched. -/
def HeadSt (W wr : World) (s p : Nat) (B : WB) (objs : List Ob) (lim : Nat) (f : Nat) (op : Nat → Option (Nat × Nat × Int × Int)) : Prop :=
  ∃ ks g, HSt W wr s p B objs lim ks g ∧ pickK ks nameE = some (.held f) ∧ pickK ks nameF = none ∧ ks.length ≤ 5 ∧ g.fl f = some (1, ⟨#[]⟩) ∧ g.fs.kF 1 = false ∧ g.op = op

theorem h_open1 {W wr : World} {s p : Nat} {B : WB} {objs : List Ob} {lim : Nat} (h : KSt W wr s p B objs lim) (hl : lim ≤ 50000) (h1 : kindOf objs 1 = 1) :
    Calls Tryz.prog 7 #[.pointer (some ⟨B.wb, 0, none⟩), .string nameE, .int .i64 1] wr fun e w' => e = .returned (.tuple #[.int .i64 0, .int .i64 0]) ∧ ∃ f b, HeadSt W w' s p B objs 60000 f (updN (fun _ => none) 0 (some (b, f, 1, 0))) := by
  obtain ⟨tg, g, t, hO, hK⟩ := h
  obtain ⟨fs', ks, hlk, _, hpk⟩ := look_root hK.root hK.brk
  have hkd := root_kids hlk
  have hq := q_look objs t g.fs []
  rw [hlk] at hq
  have hS := hK.inv.st.sound
  obtain ⟨hri, _, _⟩ := ok_kids hS hK.ok hkd
  have hnames : ∀ x ∈ ks, x.1 ∈ letters ∨ x.1 = nameE := by
    obtain ⟨ks2, k1, _, k3⟩ := hK.root
    rw [hkd] at k1; cases k1
    exact k3
  have hno : pickK ks nameF = none := getK_none_of (fun x hx => by
    rcases hnames x hx with h | h
    · exact (letter_valid h).2.2
    · rw [h]; exact nameEF)
  have hth : thereK ks nameE = true := by rw [← pick_there hri, hpk]; rfl
  refine (hopen (k := 0) hK.inv (by omega) hK.flat hK.ok nameE_valid 1 (by decide) (by decide) false false false (by decide) (by decide) (by decide) valid_1 (by decide) (hK.op 0) (fun j hj => by omega) hlk (openE_file hpk rfl) (fun f hf => by rw [hpk] at hf; cases hf)).mono ?_
  rintro e w' ⟨he, tg', g', t', b, f, m, hW, hF, hok, hfs, hop, hT⟩
  refine ⟨he, f, b, ?_⟩
  rcases hT with ⟨hx, _⟩ | ⟨hx, _⟩ | ⟨id, hx, _, ht', hfl⟩
  · rw [hpk] at hx; cases hx
  · rw [hpk] at hx; cases hx
  · rw [hpk] at hx
    cases hx
    rw [if_neg (by decide)] at hfl
    have htt : t' = .own (putK ks nameE (.held f)) := by rw [ht', modG, hkd]; rfl
    subst htt
    refine ⟨_, g', ⟨⟨tg', hO.moves m, hW.mono (by omega)⟩, hF, hok, ?_, by rw [hfs]; exact hq.2 hK.brk⟩, by rw [pick_put hri]; simp, by rw [pick_put hri, if_neg (Ne.symm nameEF)]; exact hno, by rw [putK_length, if_pos hth]; exact root_few hri hnames, by rw [hfl]; exact updN_same _ _ _, ?_, by rw [hop, show g.op = fun _ => none from funext hK.op]⟩
    · rw [hfl]
      intro f' id' d' hf hid
      by_cases e : f' = f
      · subst e; rw [updN_same] at hf; cases hf; exact h1
      · rw [updN_other e] at hf; exact hK.fl f' id' d' hf hid
    · rw [hfs]
      have := hq.1
      simp only at this
      rw [this]; exact hK.kF 1

theorem h_open2 {W wr : World} {s p f b : Nat} {B : WB} {objs : List Ob} (h : HeadSt W wr s p B objs 60000 f (updN (fun _ => none) 0 (some (b, f, 1, 0)))) :
    Calls Tryz.prog 7 #[.pointer (some ⟨B.wb, 0, none⟩), .string nameE, .int .i64 35] wr fun e w' => e = .returned (.tuple #[.int .i64 1, .int .i64 0]) ∧ ∃ b1, HeadSt W w' s p B objs 61000 f (updN (updN (fun _ => none) 0 (some (b, f, 1, 0))) 1 (some (b1, f, 35, 0))) := by
  obtain ⟨ks, g, hH, hpe, hpf, h5, hfl, hkF, hop⟩ := h
  obtain ⟨tg, hO, hW0⟩ := hH.inv
  refine (hopen (k := 1) hW0 (by omega) hH.flat hH.ok nameE_valid 35 (by decide) (by decide) false false false (by decide) (by decide) (by decide) valid_35 (by decide) (by rw [hop]; rfl) (fun j hj => by
    have : j = 0 := by omega
    subst this
    rw [hop, updN_same]; exact fun h => by cases h) (own_look objs ks g.fs) (openE_file hpe rfl) (fun f' hf' => by rw [hpe] at hf'; cases hf'; exact ⟨_, hfl⟩)).mono ?_
  rintro e w' ⟨he, tg', g', t', b1, f', m, hW, hF, hok, hfs, hop', hT⟩
  refine ⟨he, b1, ?_⟩
  rcases hT with ⟨hx, _⟩ | ⟨hx, ht', hfl'⟩ | ⟨id, hx, _⟩
  · rw [hpe] at hx; cases hx
  · rw [hpe] at hx
    cases hx
    rw [if_neg (by decide)] at hfl'
    subst ht'
    exact ⟨ks, g', ⟨⟨tg', hO.moves m, hW.mono (by omega)⟩, hF, hok, by rw [hfl']; exact hH.fl, by rw [hfs]; exact hH.brk⟩, hpe, hpf, h5, by rw [hfl']; exact hfl, by rw [hfs]; exact hkF, by rw [hop', hop]⟩
  · rw [hpe] at hx; cases hx
end Go.Proofs.YtehpnebekgahnaaGreat

namespace Go.Proofs.YtehpnebekgahnaaGreat
open Go.RowKit Go.Sort Go.Shelf
set_option linter.unusedVariables false

/-- What stands in the root, e's file open as it was. -/
def MidSt (W wr : World) (s p : Nat) (B : WB) (objs : List Ob) (lim : Nat) (f : Nat) (op : Nat → Option (Nat × Nat × Int × Int)) (C : Kids → WG → Prop) : Prop :=
  ∃ ks g, HSt W wr s p B objs lim ks g ∧ C ks g ∧ g.fl f = some (1, ⟨#[]⟩) ∧ g.fs.kF 1 = false ∧ g.op = op

def Gone (ks : Kids) (g : WG) : Prop := pickK ks nameE = none
def Moved (f : Nat) (ks : Kids) (g : WG) : Prop := pickK ks nameE = none ∧ pickK ks nameF = some (.held f)
def otherB : ByteArray := ⟨#[111, 116, 104, 101, 114]⟩
def Other (f : Nat) (ks : Kids) (g : WG) : Prop := ∃ f2, pickK ks nameE = some (.held f2) ∧ f2 ≠ f ∧ g.fl f2 = some (0, otherB)

theorem own_there {ks : Kids} (hr : RisingK ks) {n : ByteArray} {c : LT} (h : pickK ks n = some c) : thereK ks n = true := by
  rw [← pick_there hr, h]; rfl

theorem h_remove {W wr : World} {s p f : Nat} {B : WB} {objs : List Ob} {op : Nat → Option (Nat × Nat × Int × Int)} (h : HeadSt W wr s p B objs 61000 f op) :
    Calls Tryz.prog 9 #[.pointer (some ⟨B.wb, 0, none⟩), .string nameE] wr fun e w' => e = .returned (.int .i64 0) ∧ MidSt W w' s p B objs 70000 f op Gone := by
  obtain ⟨ks, g, hH, hpe, hpf, h5, hfl, hkF, hop⟩ := h
  obtain ⟨tg, hO, hW0⟩ := hH.inv
  refine (hremove hW0 (by omega) hH.flat hH.ok nameE_valid (own_remove hpe)).mono ?_
  rintro e w' ⟨he, tg', ft', m, hW, hF, hok⟩
  exact ⟨he, _, _, ⟨⟨tg', hO.moves m, hW.mono (by omega)⟩, hF, hok, hH.fl, hH.brk⟩, by show pickK _ _ = none; rw [pick_drop hH.rising (own_there hH.rising hpe), if_pos rfl], hfl, hkF, hop⟩

theorem h_rename {W wr : World} {s p f : Nat} {B : WB} {objs : List Ob} {op : Nat → Option (Nat × Nat × Int × Int)} (h : HeadSt W wr s p B objs 61000 f op) :
    Calls Tryz.prog 10 #[.pointer (some ⟨B.wb, 0, none⟩), .string nameE, .string nameF] wr fun e w' => e = .returned (.int .i64 0) ∧ MidSt W w' s p B objs 70000 f op (Moved f) := by
  obtain ⟨ks, g, hH, hpe, hpf, h5, hfl, hkF, hop⟩ := h
  obtain ⟨tg, hO, hW0⟩ := hH.inv
  have hrd : RisingK (dropK ks nameE) := dropK_rising hH.rising
  refine (hrename hW0 (by omega) hH.flat hH.ok nameE_valid nameF_valid (own_rename hpe nameEF (.inl hpf))).mono ?_
  rintro e w' ⟨he, tg', ft', m, hW, hF, hok⟩
  refine ⟨he, _, _, ⟨⟨tg', hO.moves m, hW.mono (by omega)⟩, hF, hok, hH.fl, hH.brk⟩, ⟨?_, ?_⟩, hfl, hkF, hop⟩
  · rw [pick_put hrd, if_neg nameEF, pick_drop hH.rising (own_there hH.rising hpe), if_pos rfl]
  · rw [pick_put hrd, if_pos rfl]

set_option maxRecDepth 100000 in
set_option maxHeartbeats 1000000 in
theorem put_walk (wb k : Nat) (n d : ByteArray) (hd : d.size ≤ 256) (R1 R2 R3 : World → Prop) (w : World)
    (ho : Calls Tryz.prog 7 #[.pointer (some ⟨wb, 0, none⟩), .string n, .int .i64 22] w fun e w' => e = .returned (.tuple #[.int .i64 (k : Int), .int .i64 0]) ∧ R1 w')
    (hw : ∀ w1, R1 w1 → Calls Tryz.prog 12 #[.pointer (some ⟨wb, 0, none⟩), .int .i64 (k : Int), .string d] w1 fun e w' => e = .returned (.int .i64 0) ∧ R2 w')
    (hc : ∀ w2, R2 w2 → Calls Tryz.prog 34 #[.pointer (some ⟨wb, 0, none⟩), .int .i64 (k : Int)] w2 fun e w' => e = .returned (.int .i64 0) ∧ R3 w') :
    Calls Tryz.prog 11 #[.pointer (some ⟨wb, 0, none⟩), .string n, .string d] w fun e w' => e = .returned (.int .i64 0) ∧ R3 w' := by
  have hsh := fun W => short_any d W (by unfold maxLen; omega)
  have hsd : shortB d = d := by unfold shortB; rw [if_neg (by omega)]
  rw [hsd] at hsh
  have HO : Hid _ := ho
  have HW : Hid _ := hw
  have HC : Hid _ := hc
  clear ho hw hc hsd hd
  go_enter Tryz.func11, Tryz.ntmps11
  go_wp2_with fail
  refine Calls.mono HO.out ?_
  rintro e w1 ⟨rfl, h1⟩
  have H1 : Hid _ := HW.out w1 h1
  clear HO HW h1
  go_wp2_with (go_at_call 33; refine Calls.mono (hsh _) ?_; rintro e w2 ⟨rfl, rfl⟩)
  refine Calls.mono H1.out ?_
  rintro e w3 ⟨rfl, h3⟩
  have H3 : Hid _ := HC.out w3 h3
  clear H1 HC h3
  go_wp2_with fail
  refine Calls.mono H3.out ?_
  rintro e w4 ⟨rfl, h4⟩
  have H4 : Hid _ := h4
  clear H3 h4
  go_wp2
  go_ret
  exact ⟨rfl, H4.out⟩

/-- Another file stands at f. -/
def PutSt (W wr : World) (s p : Nat) (B : WB) (objs : List Ob) (lim : Nat) (f : Nat) (op : Nat → Option (Nat × Nat × Int × Int)) (f2 : Nat) (d : ByteArray) : Prop :=
  ∃ ks g, HSt W wr s p B objs lim ks g ∧ pickK ks nameE = some (.held f) ∧ pickK ks nameF = some (.held f2) ∧ f2 ≠ f ∧ g.fl f2 = some (0, d) ∧ g.fl f = some (1, ⟨#[]⟩) ∧ g.fs.kF 1 = false ∧ g.op = op

theorem updN_back {α : Type} (op : Nat → Option α) (k : Nat) (v : Option α) (h : op k = none) : updN (updN op k v) k none = op := by
  funext x
  by_cases e : x = k
  · subst e; rw [updN_same, h]
  · rw [updN_other e, updN_other e]
theorem updN_twice {α : Type} (op : Nat → Option α) (k : Nat) (v v' : Option α) : updN (updN op k v) k v' = updN op k v' := by
  funext x
  by_cases e : x = k
  · subst e; rw [updN_same, updN_same]
  · rw [updN_other e, updN_other e, updN_other e]

theorem h_create {W wr : World} {s p f : Nat} {B : WB} {objs : List Ob} {op : Nat → Option (Nat × Nat × Int × Int)} (h : HeadSt W wr s p B objs 61000 f op) (h2 : op 2 = none) (h01 : op 0 ≠ none ∧ op 1 ≠ none) :
    Calls Tryz.prog 7 #[.pointer (some ⟨B.wb, 0, none⟩), .string nameF, .int .i64 22] wr fun e w' => e = .returned (.tuple #[.int .i64 ((2 : Nat) : Int), .int .i64 0]) ∧ ∃ b2 f2, PutSt W w' s p B objs 62000 f (updN op 2 (some (b2, f2, 22, 0))) f2 ⟨#[]⟩ := by
  obtain ⟨ks, g, hH, hpe, hpf, h5, hfl, hkF, hop⟩ := h
  obtain ⟨tg, hO, hW0⟩ := hH.inv
  have hlt : f < wr.heap.size := by
    obtain ⟨_, hb, _⟩ := hW0.wp.files f _ _ hfl
    exact (Array.getElem?_eq_some_iff.1 hb).1
  refine (hopen (k := 2) hW0 (by omega) hH.flat hH.ok nameF_valid 22 (by decide) (by decide) false true true (by decide) (by decide) (by decide) valid_22 (by decide) (by rw [hop]; exact h2) (fun j hj => by
    have : j = 0 ∨ j = 1 := by omega
    rcases this with rfl | rfl <;> rw [hop]
    · exact h01.1
    · exact h01.2) (own_look objs ks g.fs) (by rw [openE_none hpf]; simp; omega) (fun f' hf' => by rw [hpf] at hf'; cases hf')).mono ?_
  rintro e w' ⟨he, tg', g', t', b2, f2, m, hW, hF, hok, hfs, hop', hT⟩
  refine ⟨he, b2, f2, ?_⟩
  rcases hT with ⟨hx, hge, ht', hfl'⟩ | ⟨hx, _⟩ | ⟨id, hx, _⟩
  · have hne : f2 ≠ f := by omega
    have htt : t' = .own (putK ks nameF (.held f2)) := by rw [ht']; rfl
    subst htt
    refine ⟨_, g', ⟨⟨tg', hO.moves m, hW.mono (by omega)⟩, hF, hok, ?_, by rw [hfs]; exact hH.brk⟩, by rw [pick_put hH.rising, if_neg nameEF]; exact hpe, by rw [pick_put hH.rising, if_pos rfl], hne, by rw [hfl']; exact updN_same _ _ _, by rw [hfl', updN_other (Ne.symm hne)]; exact hfl, by rw [hfs]; exact hkF, by rw [hop', hop]⟩
    rw [hfl']
    exact flOk_upd hH.fl _ _
  · rw [hpf] at hx; cases hx
  · rw [hpf] at hx; cases hx

theorem write_other : writeB ⟨#[]⟩ otherB 0 = otherB := by decide

theorem h_wrote {W wr : World} {s p f b2 f2 : Nat} {B : WB} {objs : List Ob} {op : Nat → Option (Nat × Nat × Int × Int)} (h : PutSt W wr s p B objs 62000 f (updN op 2 (some (b2, f2, 22, 0))) f2 ⟨#[]⟩) :
    Calls Tryz.prog 12 #[.pointer (some ⟨B.wb, 0, none⟩), .int .i64 ((2 : Nat) : Int), .string otherB] wr fun e w' => e = .returned (.int .i64 0) ∧ ∃ pl, PutSt W w' s p B objs 63000 f (updN op 2 (some (b2, f2, 22, pl))) f2 otherB := by
  obtain ⟨ks, g, hH, hpe, hpf, hne, hf2, hfl, hkF, hop⟩ := h
  obtain ⟨tg, hO, hW0⟩ := hH.inv
  have ho : g.op 2 = some (b2, f2, 22, 0) := by rw [hop]; exact updN_same _ _ _
  obtain ⟨_, c1, _⟩ := open_cell hW0 (by decide) ho
  have hz : otherB.size = 5 := rfl
  refine (write_ws B.wb 2 b2 _ 0 _ wr c1 (by decide) (write_gen hW0 (by omega) hH.fl ho (a := 0) (d := otherB) (by decide) (by omega) (by decide) (by rw [hz]; decide) (bytes_held hf2) rfl (by omega))).mono ?_
  rintro e w' ⟨he, tg', m, hW⟩
  refine ⟨he, ((0 : Nat) : Int) + otherB.size, ks, _, ⟨⟨tg', hO.moves m, hW.mono (by omega)⟩, hH.flat, hH.ok, flOk_upd hH.fl _ _, hH.brk⟩, hpe, hpf, hne, ?_, ?_, hkF, ?_⟩
  · show updN g.fl f2 _ f2 = _
    rw [updN_same, write_other]
  · show updN g.fl f2 _ f = _
    rw [updN_other (Ne.symm hne)]; exact hfl
  · show updN g.op 2 _ = _
    rw [hop, updN_twice]

theorem h_closed {W wr : World} {s p f b2 f2 lim k : Nat} {pl fg : Int} {B : WB} {objs : List Ob} {d : ByteArray} {op : Nat → Option (Nat × Nat × Int × Int)} (hk : k < 8) (h2 : op k = none) (h : PutSt W wr s p B objs lim f (updN op k (some (b2, f2, fg, pl))) f2 d) :
    Calls Tryz.prog 34 #[.pointer (some ⟨B.wb, 0, none⟩), .int .i64 (k : Int)] wr fun e w' => e = .returned (.int .i64 0) ∧ PutSt W w' s p B objs lim f op f2 d := by
  obtain ⟨ks, g, hH, hpe, hpf, hne, hf2, hfl, hkF, hop⟩ := h
  obtain ⟨tg, hO, hW0⟩ := hH.inv
  have ho : g.op k = some (b2, f2, fg, pl) := by rw [hop]; exact updN_same _ _ _
  obtain ⟨c0, c1, c2⟩ := open_cell hW0 hk ho
  refine (close_ws B.wb k b2 wr c0 c1 c2 hk).mono ?_
  rintro e w' ⟨he, rfl⟩
  obtain ⟨m2, hW2⟩ := hW0.close (k := k) hk
  exact ⟨he, ks, _, ⟨⟨tg, hO.moves (m2.mono (fun x hx => .inr (by rw [hx]))), hW2⟩, hH.flat, hH.ok, hH.fl, hH.brk⟩, hpe, hpf, hne, hf2, hfl, hkF, by show updN g.op k none = _; rw [hop, updN_back _ _ _ h2]⟩

theorem h_put {W wr : World} {s p f : Nat} {B : WB} {objs : List Ob} {op : Nat → Option (Nat × Nat × Int × Int)} (h : HeadSt W wr s p B objs 61000 f op) (h2 : op 2 = none) (h01 : op 0 ≠ none ∧ op 1 ≠ none) :
    Calls Tryz.prog 11 #[.pointer (some ⟨B.wb, 0, none⟩), .string nameF, .string otherB] wr fun e w' => e = .returned (.int .i64 0) ∧ ∃ f2, PutSt W w' s p B objs 63000 f op f2 otherB :=
  put_walk B.wb 2 nameF otherB (by decide) _ (fun w2 => ∃ b2 f2 pl, PutSt W w2 s p B objs 63000 f (updN op 2 (some (b2, f2, 22, pl))) f2 otherB) _ wr (h_create h h2 h01)
    (fun w1 ⟨b2, f2, h1⟩ => (h_wrote h1).mono (fun e w' ⟨he, pl, h3⟩ => ⟨he, b2, f2, pl, h3⟩))
    (fun w2 ⟨b2, f2, pl, h3⟩ => (h_closed (by decide) h2 h3).mono (fun e w' ⟨he, h4⟩ => ⟨he, f2, h4⟩))

theorem h_instead {W wr : World} {s p f f2 : Nat} {B : WB} {objs : List Ob} {op : Nat → Option (Nat × Nat × Int × Int)} (h : PutSt W wr s p B objs 63000 f op f2 otherB) :
    Calls Tryz.prog 10 #[.pointer (some ⟨B.wb, 0, none⟩), .string nameF, .string nameE] wr fun e w' => e = .returned (.int .i64 0) ∧ MidSt W w' s p B objs 70000 f op (Other f) := by
  obtain ⟨ks, g, hH, hpe, hpf, hne, hf2, hfl, hkF, hop⟩ := h
  obtain ⟨tg, hO, hW0⟩ := hH.inv
  have hrd : RisingK (dropK ks nameF) := dropK_rising hH.rising
  refine (hrename hW0 (by omega) hH.flat hH.ok nameF_valid nameE_valid (own_rename hpf (Ne.symm nameEF) (.inr ⟨f, hpe⟩))).mono ?_
  rintro e w' ⟨he, tg', ft', m, hW, hF, hok⟩
  exact ⟨he, _, _, ⟨⟨tg', hO.moves m, hW.mono (by omega)⟩, hF, hok, hH.fl, hH.brk⟩, ⟨f2, by rw [pick_put hrd, if_pos rfl], hne, hf2⟩, hfl, hkF, hop⟩
end Go.Proofs.YtehpnebekgahnaaGreat

namespace Go.Proofs.YtehpnebekgahnaaGreat
open Go.RowKit Go.Sort Go.Shelf
set_option linter.unusedVariables false

/-- What does not hang on the bytes of f. -/
def Apart (f : Nat) (C : Kids → WG → Prop) : Prop := ∀ ks (g g' : WG), (∀ f', f' ≠ f → g'.fl f' = g.fl f') → C ks g → C ks g'
theorem apart_gone (f : Nat) : Apart f Gone := fun ks g g' _ h => h
theorem apart_moved (f : Nat) : Apart f (Moved f) := fun ks g g' _ h => h
theorem apart_other (f : Nat) : Apart f (Other f) := fun ks g g' hf ⟨f2, h1, h2, h3⟩ => ⟨f2, h1, h2, by rw [hf f2 h2]; exact h3⟩

/-- f has the bytes X (a fetch may still have to bring them). -/
def FinSt (W wr : World) (s p : Nat) (B : WB) (objs : List Ob) (lim : Nat) (f : Nat) (op : Nat → Option (Nat × Nat × Int × Int)) (C : Kids → WG → Prop) (X : ByteArray) : Prop :=
  ∃ ks g fs1, HSt W wr s p B objs lim ks g ∧ C ks g ∧ (∃ x, g.fl f = some x) ∧ bytesG objs g.fl g.fs f = (fs1, 0, X) ∧ fs1.brk = false ∧ g.op = op

def op2 (b f b1 : Nat) (p0 p1 : Int) : Nat → Option (Nat × Nat × Int × Int) := updN (updN (fun _ => none) 0 (some (b, f, 1, p0))) 1 (some (b1, f, 35, p1))
theorem op2_0 (b f b1 : Nat) (p0 p1 : Int) : op2 b f b1 p0 p1 0 = some (b, f, 1, p0) := rfl
theorem op2_1 (b f b1 : Nat) (p0 p1 : Int) : op2 b f b1 p0 p1 1 = some (b1, f, 35, p1) := rfl
theorem op2_set0 (b f b1 : Nat) (p0 p1 q : Int) : updN (op2 b f b1 p0 p1) 0 (some (b, f, 1, q)) = op2 b f b1 q p1 := by
  funext x
  unfold op2 updN
  by_cases h0 : x = 0
  · subst h0; rfl
  · simp [h0]
theorem op2_set1 (b f b1 : Nat) (p0 p1 q : Int) : updN (op2 b f b1 p0 p1) 1 (some (b1, f, 35, q)) = op2 b f b1 p0 q := updN_twice _ _ _ _

theorem write_one (d : ByteArray) : writeB oneB d 1 = oneB ++ d := by
  apply toL_inj
  simp [toL, writeB, writeL, oneB]
  omega

theorem one_add_nil : oneB ++ (⟨#[]⟩ : ByteArray) = oneB := rfl

theorem h_write {W wr : World} {s p b f b1 : Nat} {B : WB} {objs : List Ob} {C : Kids → WG → Prop} {d : ByteArray} (hC : Apart f C) (hby : bytesOf objs 1 = oneB) (hd : d.size ≤ 200) (h : MidSt W wr s p B objs 70000 f (op2 b f b1 0 0) C) :
    Calls Tryz.prog 12 #[.pointer (some ⟨B.wb, 0, none⟩), .int .i64 ((1 : Nat) : Int), .string d] wr fun e w' => e = .returned (.int .i64 0) ∧ ∃ q, FinSt W w' s p B objs 71000 f (op2 b f b1 0 q) C (oneB ++ d) := by
  obtain ⟨ks, g, hH, hc, hfl, hkF, hop⟩ := h
  obtain ⟨tg, hO, hW0⟩ := hH.inv
  have ho : g.op 1 = some (b1, f, 35, 0) := by rw [hop]; rfl
  obtain ⟨_, c1, _⟩ := open_cell hW0 (by decide) ho
  have hgb := bytes_fetched (objs := objs) (fl := g.fl) hfl hkF hH.brk
  rw [hby] at hgb
  by_cases h0 : d.size = 0
  · have hde : d = ⟨#[]⟩ := by
      apply toL_inj
      have h1 := toL_len d
      rw [h0] at h1
      exact List.length_eq_zero_iff.1 h1
    subst hde
    obtain ⟨_, _, e1, _, _⟩ := opened_cells hW0 ho
    refine (write_ws B.wb 1 b1 _ 0 _ wr c1 (by decide) (write_none b1 35 wr e1 (by decide))).mono ?_
    rintro e w' ⟨he, rfl⟩
    exact ⟨he, 0, ks, g, { g.fs with got := g.fs.got ++ [1], kF := fun x => decide (x = 1) || g.fs.kF x }, ⟨⟨tg, hO, hW0.mono (by omega)⟩, hH.flat, hH.ok, hH.fl, hH.brk⟩, hc, ⟨_, hfl⟩, by rw [one_add_nil]; exact hgb, hH.brk, hop⟩
  · refine (write_ws B.wb 1 b1 _ 0 _ wr c1 (by decide) (write_gen hW0 (by omega) hH.fl ho (a := 1) (by decide) (by omega) (by decide) (by show (0 : Int) + _ ≤ 256; omega) hgb rfl (by omega))).mono ?_
    rintro e w' ⟨he, tg', m, hW⟩
    refine ⟨he, ((1 : Nat) : Int) + d.size, ks, _, _, ⟨⟨tg', hO.moves m, hW.mono (by omega)⟩, hH.flat, hH.ok, flOk_upd hH.fl _ _, hH.brk⟩, hC ks g _ (fun f' hf' => updN_other hf' _) hc, ⟨_, updN_same _ _ _⟩, bytes_held (by show updN g.fl f _ f = _; rw [updN_same, write_one]), hH.brk, ?_⟩
    show updN g.op 1 _ = _
    rw [hop, op2_set1]

/-- What is read of X from a place on. -/
def readB (X : ByteArray) (pl n : Int) : ByteArray := X.extract (min pl.toNat X.size) (min (min pl.toNat X.size + (min n (256 - pl)).toNat) X.size)

/-- f has the bytes X, and they are there. -/
def EndSt (W wr : World) (s p : Nat) (B : WB) (objs : List Ob) (lim : Nat) (f : Nat) (op : Nat → Option (Nat × Nat × Int × Int)) (C : Kids → WG → Prop) (X : ByteArray) : Prop :=
  ∃ ks g, HSt W wr s p B objs lim ks g ∧ C ks g ∧ (∃ x, g.fl f = some x) ∧ bytesG objs g.fl g.fs f = (g.fs, 0, X) ∧ g.op = op
theorem EndSt.fin {W wr : World} {s p f lim : Nat} {B : WB} {objs : List Ob} {op : Nat → Option (Nat × Nat × Int × Int)} {C : Kids → WG → Prop} {X : ByteArray} (h : EndSt W wr s p B objs lim f op C X) : FinSt W wr s p B objs lim f op C X := by
  obtain ⟨ks, g, hH, hc, hx, hb, ho⟩ := h
  exact ⟨ks, g, g.fs, hH, hc, hx, hb, hH.brk, ho⟩

theorem h_read {W wr : World} {s p f lim k b : Nat} {fg pl n : Int} {B : WB} {objs : List Ob} {op : Nat → Option (Nat × Nat × Int × Int)} {C : Kids → WG → Prop} {X : ByteArray} (hl : lim ≤ 100000) (hC : Apart f C) (hk : k < 8) (ho : op k = some (b, f, fg, pl)) (hfg : (bits BinOp.and IntKind.i64 fg 1 == 0) = false) (hn : 1 ≤ n) (hp : pl < 256) (h : FinSt W wr s p B objs lim f op C X) :
    Calls Tryz.prog 13 #[.pointer (some ⟨B.wb, 0, none⟩), .int .i64 (k : Int), .int .i64 n] wr fun e w' => e = .returned (.tuple #[.string (readB X pl n), .int .i64 0]) ∧ EndSt W w' s p B objs (lim + 1) f (updN op k (some (b, f, fg, pl + (readB X pl n).size))) C X := by
  obtain ⟨ks, g, fs1, hH, hc, ⟨x, hx⟩, hb, hbr, hop⟩ := h
  obtain ⟨tg, hO, hW0⟩ := hH.inv
  have ho' : g.op k = some (b, f, fg, pl) := by rw [hop]; exact ho
  obtain ⟨_, c1, _⟩ := open_cell hW0 hk ho'
  refine (read_ws B.wb k b n _ 0 _ wr c1 hk (read_gen hW0 (by omega) hH.fl ho' hfg hn hp hb)).mono ?_
  rintro e w' ⟨he, tg', m, hW⟩
  refine ⟨he, ks, _, ⟨⟨tg', hO.moves m, hW⟩, hH.flat, hH.ok, hH.fl, hbr⟩, hC ks g _ (fun _ _ => rfl) hc, ⟨x, hx⟩, bytes_again hb, ?_⟩
  show updN g.op k _ = _
  rw [hop]; rfl

theorem h_seek {W wr : World} {s p f lim k b : Nat} {fg pl : Int} {B : WB} {objs : List Ob} {op : Nat → Option (Nat × Nat × Int × Int)} {C : Kids → WG → Prop} {X : ByteArray} (hC : Apart f C) (hk : k < 8) (ho : op k = some (b, f, fg, pl)) (h : EndSt W wr s p B objs lim f op C X) :
    Calls Tryz.prog 14 #[.pointer (some ⟨B.wb, 0, none⟩), .int .i64 (k : Int), .int .i64 0] wr fun e w' => e = .returned (.int .i64 0) ∧ EndSt W w' s p B objs lim f (updN op k (some (b, f, fg, 0))) C X := by
  obtain ⟨ks, g, hH, hc, hx, hb, hop⟩ := h
  obtain ⟨tg, hO, hW0⟩ := hH.inv
  have ho' : g.op k = some (b, f, fg, pl) := by rw [hop]; exact ho
  obtain ⟨_, c1, _⟩ := open_cell hW0 hk ho'
  obtain ⟨hbl, _, _, e2, hfz⟩ := opened_cells hW0 ho'
  refine (seek_ws B.wb k b 0 0 _ wr c1 hk (seek_walk b 0 _ wr hbl e2 (hfz 2) (by decide) (by decide))).mono ?_
  rintro e w' ⟨he, rfl⟩
  obtain ⟨m, hW⟩ := hW0.place (pl' := 0) ho' (by decide) (by decide)
  refine ⟨he, ks, _, ⟨⟨tg, hO.moves (m.mono (fun x hx => .inr (by rw [hx]))), hW⟩, hH.flat, hH.ok, hH.fl, hH.brk⟩, hC ks g _ (fun _ _ => rfl) hc, hx, hb, ?_⟩
  show updN g.op k _ = _
  rw [hop]
end Go.Proofs.YtehpnebekgahnaaGreat

namespace Go.Proofs.YtehpnebekgahnaaGreat
open Go.RowKit Go.Sort Go.Shelf
set_option linter.unusedVariables false

theorem toL_cut (s : ByteArray) (a b : Nat) : toL (s.extract a b) = ((toL s).take b).drop a := by
  simp [toL, List.drop_take, List.extract_eq_take_drop]
theorem read_all {X : ByteArray} (h : X.size ≤ 256) : readB X 0 1000 = X := by
  apply toL_inj
  have hl := toL_len X
  unfold readB
  rw [toL_cut, show min ((0 : Int).toNat) X.size = 0 by simp, List.drop_zero]
  exact List.take_of_length_le (by rw [hl]; simp; omega)
theorem read_size (X : ByteArray) (pl n : Int) : (readB X pl n).size ≤ X.size := by
  unfold readB
  rw [← toL_len, toL_cut, ← toL_len]
  simp
  omega
theorem read_parts {X : ByteArray} (h : X.size ≤ 201) {m : Int} (hm : 1 ≤ m) : readB X 0 m ++ readB X (0 + (readB X 0 m).size) 1000 = X := by
  have hs := read_size X 0 m
  have hl := toL_len X
  have hy : toL (readB X 0 m) = (toL X).take (min (min m 256).toNat X.size) := by
    unfold readB
    rw [toL_cut, show min ((0 : Int).toNat) X.size = 0 by simp, List.drop_zero]
    simp
  have hys : (readB X 0 m).size = min (min m 256).toNat X.size := by
    rw [← toL_len, hy, List.length_take, hl]; omega
  apply toL_inj
  rw [toL_append, hy]
  unfold readB at hys ⊢
  rw [hys, toL_cut]
  have h1 : min (0 + ((min (min m 256).toNat X.size : Nat) : Int)).toNat X.size = min (min m 256).toNat X.size := by omega
  rw [h1]
  have h2 : min (min (min m 256).toNat X.size + (min 1000 (256 - (0 + ((min (min m 256).toNat X.size : Nat) : Int)))).toNat) X.size = X.size := by omega
  have ht : (toL X).take X.size = toL X := List.take_of_length_le (by rw [hl]; exact Nat.le_refl _)
  rw [h2, ht]
  exact List.take_append_drop _ _

def At (n : ByteArray) (f : Nat) (ks : Kids) (g : WG) : Prop := pickK ks n = some (.held f)
theorem apart_at (n : ByteArray) (f f' : Nat) : Apart f' (At n f) := fun ks g g' _ h => h
theorem end_moved {W wr : World} {s p f lim : Nat} {B : WB} {objs : List Ob} {op : Nat → Option (Nat × Nat × Int × Int)} {X : ByteArray} (h : EndSt W wr s p B objs lim f op (Moved f) X) : EndSt W wr s p B objs lim f op (At nameF f) X := by
  obtain ⟨ks, g, hH, hc, h⟩ := h
  exact ⟨ks, g, hH, hc.2, h⟩
theorem end_other {W wr : World} {s p f lim : Nat} {B : WB} {objs : List Ob} {op : Nat → Option (Nat × Nat × Int × Int)} {X : ByteArray} (h : EndSt W wr s p B objs lim f op (Other f) X) : ∃ f2, EndSt W wr s p B objs lim f2 op (At nameE f2) otherB := by
  obtain ⟨ks, g, hH, ⟨f2, h1, h2, h3⟩, _, _, ho⟩ := h
  exact ⟨f2, ks, g, hH, h1, ⟨_, h3⟩, bytes_held h3, ho⟩

theorem e_open {W wr : World} {s p f lim : Nat} {B : WB} {objs : List Ob} {op : Nat → Option (Nat × Nat × Int × Int)} {X n : ByteArray} (hl : lim ≤ 100000) (hn : validB n = true) (h2 : op 2 = none) (h01 : op 0 ≠ none ∧ op 1 ≠ none) (h : EndSt W wr s p B objs lim f op (At n f) X) :
    Calls Tryz.prog 7 #[.pointer (some ⟨B.wb, 0, none⟩), .string n, .int .i64 1] wr fun e w' => e = .returned (.tuple #[.int .i64 ((2 : Nat) : Int), .int .i64 0]) ∧ ∃ b2, EndSt W w' s p B objs (lim + 300) f (updN op 2 (some (b2, f, 1, 0))) (At n f) X := by
  obtain ⟨ks, g, hH, hpn, ⟨x, hx⟩, hb, hop⟩ := h
  obtain ⟨tg, hO, hW0⟩ := hH.inv
  have hpn' : pickK ks n = some (.held f) := hpn
  refine (hopen (k := 2) hW0 (by omega) hH.flat hH.ok hn 1 (by decide) (by decide) false false false (by decide) (by decide) (by decide) valid_1 (by decide) (by rw [hop]; exact h2) (fun j hj => by
    have : j = 0 ∨ j = 1 := by omega
    rcases this with rfl | rfl <;> rw [hop]
    · exact h01.1
    · exact h01.2) (own_look objs ks g.fs) (openE_file hpn' rfl) (fun f' hf' => by rw [hpn'] at hf'; cases hf'; exact ⟨x, hx⟩)).mono ?_
  rintro e w' ⟨he, tg', g', t', b2, f2, m, hW, hF, hok, hfs, hop', hT⟩
  refine ⟨he, b2, ?_⟩
  rcases hT with ⟨hq, _⟩ | ⟨hq, ht', hfl'⟩ | ⟨id, hq, _⟩
  · rw [hpn'] at hq; cases hq
  · rw [hpn'] at hq
    cases hq
    rw [if_neg (by decide)] at hfl'
    subst ht'
    exact ⟨ks, g', ⟨⟨tg', hO.moves m, hW⟩, hF, hok, by rw [hfl']; exact hH.fl, by rw [hfs]; exact hH.brk⟩, hpn, ⟨x, by rw [hfl']; exact hx⟩, by rw [hfl', hfs]; exact hb, by rw [hop', hop]⟩
  · rw [hpn'] at hq; cases hq

theorem e_close {W wr : World} {s p f lim k b2 : Nat} {fg pl : Int} {B : WB} {objs : List Ob} {op : Nat → Option (Nat × Nat × Int × Int)} {C : Kids → WG → Prop} {X : ByteArray} (hC : Apart f C) (hk : k < 8) (h2 : op k = none) (h : EndSt W wr s p B objs lim f (updN op k (some (b2, f, fg, pl))) C X) :
    Calls Tryz.prog 34 #[.pointer (some ⟨B.wb, 0, none⟩), .int .i64 (k : Int)] wr fun e w' => e = .returned (.int .i64 0) ∧ EndSt W w' s p B objs lim f op C X := by
  obtain ⟨ks, g, hH, hc, hx, hb, hop⟩ := h
  obtain ⟨tg, hO, hW0⟩ := hH.inv
  have ho : g.op k = some (b2, f, fg, pl) := by rw [hop]; exact updN_same _ _ _
  obtain ⟨c0, c1, c2⟩ := open_cell hW0 hk ho
  refine (close_ws B.wb k b2 wr c0 c1 c2 hk).mono ?_
  rintro e w' ⟨he, rfl⟩
  obtain ⟨m2, hW2⟩ := hW0.close (k := k) hk
  exact ⟨he, ks, _, ⟨⟨tg, hO.moves (m2.mono (fun x hx => .inr (by rw [hx]))), hW2⟩, hH.flat, hH.ok, hH.fl, hH.brk⟩, hC ks g _ (fun _ _ => rfl) hc, hx, hb, by show updN g.op k none = _; rw [hop, updN_back _ _ _ h2]⟩

theorem e_stat {W wr : World} {s p f lim : Nat} {B : WB} {objs : List Ob} {op : Nat → Option (Nat × Nat × Int × Int)} {X n : ByteArray} (hl : lim ≤ 200000) (hn : validB n = true) (h : EndSt W wr s p B objs lim f op (At n f) X) :
    Calls Tryz.prog 15 #[.pointer (some ⟨B.wb, 0, none⟩), .string n] wr fun e w' => e = .returned (.tuple #[.agg #[.int .i64 1, .int .i64 (X.size : Int)], .int .i64 0]) ∧ EndSt W w' s p B objs (lim + 10) f op (At n f) X := by
  obtain ⟨ks, g, hH, hpn, ⟨x, hx⟩, hb, hop⟩ := h
  obtain ⟨tg, hO, hW0⟩ := hH.inv
  refine (hstat_held hW0 (by omega) hH.flat hH.ok hH.fl hn hpn hx hb).mono ?_
  rintro e w' ⟨he, tg', m, hW⟩
  exact ⟨he, ks, g, ⟨⟨tg', hO.moves (m.mono (fun t ht => Fetches.mine ht)), hW⟩, hH.flat, hH.ok, hH.fl, hH.brk⟩, hpn, ⟨x, hx⟩, hb, hop⟩
theorem e_none {W wr : World} {s p f lim : Nat} {B : WB} {objs : List Ob} {op : Nat → Option (Nat × Nat × Int × Int)} {C : Kids → WG → Prop} {X : ByteArray} (hl : lim ≤ 200000) (hg : ∀ ks g, C ks g → pickK ks nameE = none) (h : EndSt W wr s p B objs lim f op C X) :
    Calls Tryz.prog 15 #[.pointer (some ⟨B.wb, 0, none⟩), .string nameE] wr fun e w' => e = .returned (.tuple #[.agg #[.int .i64 0, .int .i64 0], .int .i64 4]) ∧ EndSt W w' s p B objs (lim + 10) f op C X := by
  obtain ⟨ks, g, hH, hc, hx, hb, hop⟩ := h
  obtain ⟨tg, hO, hW0⟩ := hH.inv
  refine (hstat_none hW0 (by omega) hH.flat hH.ok nameE_valid (hg ks g hc)).mono ?_
  rintro e w' ⟨he, tg', m, hW⟩
  exact ⟨he, ks, g, ⟨⟨tg', hO.moves (m.mono (fun t ht => Fetches.mine ht)), hW⟩, hH.flat, hH.ok, hH.fl, hH.brk⟩, hc, hx, hb, hop⟩

theorem e_told {W wr : World} {s p f lim : Nat} {B : WB} {objs : List Ob} {op : Nat → Option (Nat × Nat × Int × Int)} {X n : ByteArray} (hl : lim ≤ 90000) (hX : X.size ≤ 256) (hn : validB n = true) (h2 : op 2 = none) (h01 : op 0 ≠ none ∧ op 1 ≠ none) (h : EndSt W wr s p B objs lim f op (At n f) X) :
    Calls Tryz.prog 16 #[.pointer (some ⟨B.wb, 0, none⟩), .string n] wr fun e w' => e = .returned (.tuple #[.string X, .bool true]) ∧ Below W.heap.size W w' := by
  refine (told_walk B.wb 2 n X _ (fun w2 => ∃ b2 pl, EndSt W w2 s p B objs (lim + 301) f (updN op 2 (some (b2, f, 1, pl))) (At n f) X) (fun w3 => EndSt W w3 s p B objs (lim + 301) f op (At n f) X) (fun w4 => EndSt W w4 s p B objs (lim + 301 + 10) f op (At n f) X) wr (e_open (by omega) hn h2 h01 h)
    (fun w1 ⟨b2, h1⟩ => ?_) (fun w2 ⟨b2, pl, h1⟩ => e_close (apart_at n f f) (by decide) h2 h1) (fun w3 h3 => e_stat (by omega) hn h3)).mono ?_
  · have hr := h_read (n := 1000) (by omega) (apart_at n f f) (by decide) (updN_same _ _ _) (by decide) (by decide) (by decide) h1.fin
    rw [read_all hX] at hr
    refine hr.mono ?_
    rintro e w' ⟨he, h3⟩
    rw [updN_twice] at h3
    exact ⟨he, b2, _, h3⟩
  · rintro e w' ⟨he, w4, ⟨ks, g, hH, _⟩, hb⟩
    obtain ⟨tg, hO, _⟩ := hH.inv
    exact ⟨he, (hO.below hb).1⟩
end Go.Proofs.YtehpnebekgahnaaGreat

namespace Go.Proofs.YtehpnebekgahnaaGreat
open Go.RowKit Go.Sort Go.Shelf
set_option linter.unusedVariables false

section
variable {W wr : World} {s p b f b1 : Nat} {B : WB} {objs : List Ob} {C : Kids → WG → Prop} {X : ByteArray} {p0 q : Int}

theorem l_read0 (hC : Apart f C) (hX : X.size ≤ 201) (h : FinSt W wr s p B objs 71000 f (op2 b f b1 0 q) C X) :
    Calls Tryz.prog 13 #[.pointer (some ⟨B.wb, 0, none⟩), .int .i64 0, .int .i64 1000] wr fun e w' => e = .returned (.tuple #[.string X, .int .i64 0]) ∧ ∃ p0, EndSt W w' s p B objs 71001 f (op2 b f b1 p0 q) C X := by
  have hr := h_read (k := 0) (n := 1000) (by omega) hC (by decide) (op2_0 b f b1 0 q) (by decide) (by decide) (by decide) h
  rw [read_all (by omega), op2_set0] at hr
  exact hr.mono (fun e w' ⟨h1, h2⟩ => ⟨h1, _, h2⟩)
theorem l_seek (hC : Apart f C) (h : EndSt W wr s p B objs 71001 f (op2 b f b1 p0 q) C X) :
    Calls Tryz.prog 14 #[.pointer (some ⟨B.wb, 0, none⟩), .int .i64 1, .int .i64 0] wr fun e w' => e = .returned (.int .i64 0) ∧ EndSt W w' s p B objs 71001 f (op2 b f b1 p0 0) C X := by
  have hr := h_seek (k := 1) hC (by decide) (op2_1 b f b1 p0 q) h
  rw [op2_set1] at hr
  exact hr
theorem l_readA (hC : Apart f C) {m : Int} (hm : 1 ≤ m) (h : EndSt W wr s p B objs 71001 f (op2 b f b1 p0 0) C X) :
    Calls Tryz.prog 13 #[.pointer (some ⟨B.wb, 0, none⟩), .int .i64 1, .int .i64 m] wr fun e w' => e = .returned (.tuple #[.string (readB X 0 m), .int .i64 0]) ∧ EndSt W w' s p B objs 71002 f (op2 b f b1 p0 (0 + (readB X 0 m).size)) C X := by
  have hr := h_read (k := 1) (by omega) hC (by decide) (op2_1 b f b1 p0 0) (by decide) hm (by decide) h.fin
  rw [op2_set1] at hr
  exact hr
theorem l_readB (hC : Apart f C) (hq : q < 256) (h : EndSt W wr s p B objs 71002 f (op2 b f b1 p0 q) C X) :
    Calls Tryz.prog 13 #[.pointer (some ⟨B.wb, 0, none⟩), .int .i64 1, .int .i64 1000] wr fun e w' => e = .returned (.tuple #[.string (readB X q 1000), .int .i64 0]) ∧ ∃ q', EndSt W w' s p B objs 71003 f (op2 b f b1 p0 q') C X := by
  have hr := h_read (k := 1) (n := 1000) (by omega) hC (by decide) (op2_1 b f b1 p0 q) (by decide) (by decide) hq h.fin
  rw [op2_set1] at hr
  exact hr.mono (fun e w' ⟨h1, h2⟩ => ⟨h1, _, h2⟩)

/-- From Write on to the last Read: all that Held asks of the two numbers. -/
theorem l_write {d : ByteArray} (hC : Apart f C) (hby : bytesOf objs 1 = oneB) (hd : d.size ≤ 200) (h : MidSt W wr s p B objs 70000 f (op2 b f b1 0 0) C) :
    Calls Tryz.prog 12 #[.pointer (some ⟨B.wb, 0, none⟩), .int .i64 1, .string d] wr fun e w' => e = .returned (.int .i64 0) ∧ ∃ q, FinSt W w' s p B objs 71000 f (op2 b f b1 0 q) C (oneB ++ d) := h_write hC hby hd h
theorem one_sizeB (d : ByteArray) (hd : d.size ≤ 200) : (oneB ++ d).size ≤ 201 := by
  have h1 : oneB.size = 1 := rfl
  rw [ByteArray.size_append, h1]; omega

theorem e_told_box {lim : Nat} {op : Nat → Option (Nat × Nat × Int × Int)} {n : ByteArray} (hl : lim ≤ 90000) (hX : X.size ≤ 256) (hn : validB n = true) (h2 : op 2 = none) (h01 : op 0 ≠ none ∧ op 1 ≠ none) (h : EndSt W wr s p B objs lim f op (At n f) X) (o : Obj) :
    Calls Tryz.prog 16 #[.pointer (some ⟨B.wb, 0, none⟩), .string n] (wr.alloc o) fun e w' => e = .returned (.tuple #[.string X, .bool true]) ∧ Below W.heap.size W w' := by
  obtain ⟨ks, g, hH, hc, hx, hb, ho⟩ := h
  obtain ⟨tg, hO, hW⟩ := hH.inv
  have hbo : Below wr.heap.size wr (wr.alloc o) := (Below.refl _ _).alloc (Nat.le_refl _) _
  exact e_told hl hX hn h2 h01 ⟨ks, g, ⟨⟨tg, hO.below hbo, hW.below hbo⟩, hH.flat, hH.ok, hH.fl, hH.brk⟩, hc, hx, hb, ho⟩
end
end Go.Proofs.YtehpnebekgahnaaGreat
