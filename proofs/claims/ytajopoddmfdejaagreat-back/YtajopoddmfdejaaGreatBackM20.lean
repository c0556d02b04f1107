/-
  What is proved here: Rename: the maps hold behind it what stands in the tree. what the calls on a tree answer and leave, with what they fetch; and that each answers as if all had been fetched, or that a fetch has failed, and then has changed nothing. what is seen at each path behind something has been put into a directory, or taken out of it. an entry of a directory of the tree's own is written over, in memory and in the maps.
-/
import Derived.Test.YtajopoddmfdejaaGreatBackM19
namespace Go.Proofs.YtajopoddmfdejaaGreat
open Go.RowKit Go.Sort Go.Shelf
set_option linter.unusedVariables false

theorem pre_or {α : Type} [DecidableEq α] (p q : List α) : p <+: q ∨ q <+: p ∨ (¬ p <+: q ∧ ¬ q <+: p) := by
  by_cases h : p <+: q
  · exact .inl h
  · by_cases k : q <+: p
    · exact .inr (.inl k)
    · exact .inr (.inr ⟨h, k⟩)

/-- A directory elsewhere stays one when something is taken away; what it is made of is what it was, or the tree's own. -/
theorem drop_dir {objs : List Ob} {t : LT} {qf qt : List ByteArray} {nf : ByteArray} {df dt : LT} {kf kt : Kids} (hr : RisingK kf) (ha : t.at objs qf = some df) (hk : kids objs df = some kf) (ht : thereK kf nf = true) (hb : t.at objs qt = some dt) (hkt : kids objs dt = some kt) (hnf : ¬ (qf ++ [nf]) <+: qt) :
    ∃ d1 k1, (modG objs (fun ks => dropK ks nf) qf t).at objs qt = some d1 ∧ kids objs d1 = some k1 ∧ ∀ id, d1 = .dir id → dt = .dir id := by
  obtain ⟨m1, m2⟩ := at_mod objs (fun ks => dropK ks nf) qf t df kf ha hk
  by_cases h : qf <+: qt
  · obtain ⟨s, rfl⟩ := h
    cases s with
    | nil => rw [List.append_nil] at hb ⊢; exact ⟨_, _, m2, rfl, fun id e => by cases e⟩
    | cons m r =>
      have hm : m ≠ nf := fun e => hnf (by rw [e]; exact ⟨r, by simp⟩)
      rw [m1, pick_drop hr ht, if_neg hm]
      rw [at_append, ha, Option.bind_some, at_cons, hk, Option.bind_some] at hb
      exact ⟨dt, kt, hb, hkt, fun id e => e⟩
  · by_cases h2 : qt <+: qf
    · obtain ⟨m, hm, hxm⟩ := prefix_get h2 (fun e => h (e ▸ List.prefix_refl _))
      obtain ⟨r, hr'⟩ := hxm
      have hr' : qf = qt ++ m :: r := by rw [← hr']; simp
      rw [hr'] at ha ⊢
      obtain ⟨dq, kq, h1, h2, h3⟩ := at_mod_way objs (fun ks => dropK ks nf) qt m r t df ha
      exact ⟨_, _, h3, rfl, fun id e => by cases e⟩
    · rw [at_mod_other objs _ qf qt t df ha h2 h]
      exact ⟨dt, kt, hb, hkt, fun id e => e⟩

/-- What is stored in the tree behind it was stored there. -/
theorem drop_stored {objs : List Ob} {t : LT} {qf : List ByteArray} {nf : ByteArray} {df : LT} {kf : Kids} (hr : RisingK kf) (ha : t.at objs qf = some df) (hk : kids objs df = some kf) (ht : thereK kf nf = true) {x : List ByteArray} {id : Int} (h : (modG objs (fun ks => dropK ks nf) qf t).at objs x = some (.dir id)) : t.at objs x = some (.dir id) := by
  obtain ⟨m1, m2⟩ := at_mod objs (fun ks => dropK ks nf) qf t df kf ha hk
  by_cases hx : qf <+: x
  · obtain ⟨s, rfl⟩ := hx
    cases s with
    | nil => rw [List.append_nil, m2] at h; cases h
    | cons m r =>
      rw [m1, pick_drop hr ht] at h
      by_cases hm : m = nf
      · rw [if_pos hm] at h; cases h
      · rw [if_neg hm] at h
        rw [at_append, ha, Option.bind_some, at_cons, hk, Option.bind_some]; exact h
  · by_cases h2 : x <+: qf
    · obtain ⟨m, hm, hxm⟩ := prefix_get h2 (fun e => hx (e ▸ List.prefix_refl _))
      obtain ⟨r, hr'⟩ := hxm
      have hr' : qf = x ++ m :: r := by rw [← hr']; simp
      rw [hr'] at ha h
      obtain ⟨dq, kq, h1, h2, h3⟩ := at_mod_way objs (fun ks => dropK ks nf) x m r t df ha
      rw [h3] at h; cases h
    · rw [at_mod_other objs _ qf x t df ha h2 hx] at h; exact h

theorem drop_ok {objs : List Ob} (hS : Sound objs) {k : Nat} {t : LT} (hok : LTok objs k t) {q : List ByteArray} {d : LT} {ks : Kids} (ha : t.at objs q = some d) (hk : kids objs d = some ks) (n : ByteArray) : LTok objs k (modG objs (fun ks => dropK ks n) q t) := by
  obtain ⟨h1, h2, h3⟩ := ok_kids hS (ok_at hS _ hok ha).2.1 hk
  refine ok_mod hS _ q hok ha hk (ok_own ?_ ?_ (fun x hx => h3 x (dropK_mem hx)))
  · unfold dropK; exact List.Pairwise.sublist (List.eraseIdx_sublist _ _) h1
  · unfold dropK; exact Nat.le_trans (List.length_eraseIdx_le _ _) h2

/-- The maps without what hangs at a path and below it. -/
def cutF (ft : FT) (p : List ByteArray) : FT := ⟨ft.root, fun x => if p <+: x then none else ft.od x, fun x => if p <+: x then none else ft.of x⟩
theorem cutF_od (ft : FT) (p x : List ByteArray) : (cutF ft p).od x = if p <+: x then none else ft.od x := rfl
theorem cutF_of (ft : FT) (p x : List ByteArray) : (cutF ft p).of x = if p <+: x then none else ft.of x := rfl

theorem flat_rename {objs : List Ob} {t : LT} {ft : FT} {fs : FS} (hS : Sound objs) (hF : Flat objs t ft) {k : Nat} (hok : LTok objs k t) {qf qt : List ByteArray} {nf nt : ByteArray} {df dt c : LT} {kf kt : Kids}
    (ha : t.at objs qf = some df) (hk : kids objs df = some kf) (hp : pickK kf nf = some c) (hb : t.at objs qt = some dt) (hkt : kids objs dt = some kt) (hwf : KeptWay objs t fs qf) (hwt : KeptWay objs t fs qt)
    (hnf : ¬ (qf ++ [nf]) <+: (qt ++ [nt])) (hnt : ¬ (qt ++ [nt]) <+: (qf ++ [nf])) :
    ∃ d1 k1, (modG objs (fun ks => dropK ks nf) qf t).at objs qt = some d1 ∧ kids objs d1 = some k1 ∧
      Flat objs (modG objs (fun ks => putK ks nt c) qt (modG objs (fun ks => dropK ks nf) qf t)) (carryF (putF objs fs (takeF objs fs ft qf nf) qt nt (c.kind, c.id)) (qf ++ [nf]) (qt ++ [nt])) ∧ OwnWay objs fs (takeF objs fs ft qf nf) (curK objs (modG objs (fun ks => dropK ks nf) qf t)) qt := by
  have hr := (ok_kids hS (ok_at hS _ hok ha).2.1 hk).1
  have ht : thereK kf nf = true := by rw [← pick_there hr, hp]; rfl
  have hnq : ¬ (qf ++ [nf]) <+: qt := fun h => hnf (h.trans (List.prefix_append _ _))
  have hok1 := drop_ok hS hok ha hk nf
  obtain ⟨d1, k1, e1, e2, e3⟩ := drop_dir hr ha hk ht hb hkt hnq
  have Wf := ownWay_flat hS hF hok ha hk hwf
  obtain ⟨t1, t2, t3⟩ := takeF_maps Wf nf
  have hat : ∀ r, t.at objs (qf ++ nf :: r) = c.at objs r := fun r => by rw [at_append, ha, Option.bind_some, at_cons, hk, Option.bind_some, hp, Option.bind_some]
  -- the maps without what hangs below 'from'
  have F1 : Flat objs (modG objs (fun ks => dropK ks nf) qf t) (cutF (takeF objs fs ft qf nf) (qf ++ [nf])) := by
    refine flat_drop hS (fs := fs) hF hok ha hk nf ht t1 (fun x hx => ?_) (fun x hx => ?_) (fun r => ?_) (fun r => ?_)
    · rw [cutF_od, if_neg hx, t2, cur_at ha hk]
    · rw [cutF_of, if_neg hx, t3]
    · rw [cutF_od, if_pos ⟨r, by simp⟩]
    · rw [cutF_of, if_pos ⟨r, by simp⟩]
  have hw1 : KeptWay objs (modG objs (fun ks => dropK ks nf) qf t) fs qt := fun x id hx h => hwt x id hx (drop_stored hr ha hk ht h)
  have W1 := ownWay_flat hS F1 hok1 e1 e2 hw1
  have hpre : ∀ x, x <+: qt → ¬ (qf ++ [nf]) <+: x := fun x hx h => hnq (h.trans hx)
  have W2 : OwnWay objs fs (takeF objs fs ft qf nf) (curK objs (modG objs (fun ks => dropK ks nf) qf t)) qt := W1.congr rfl (fun x hx => by rw [cutF_od, if_neg (hpre x hx)])
  obtain ⟨p1, p2, p3, p4, p5⟩ := putF_maps W2 nt (c.kind, c.id)
  refine ⟨d1, k1, e1, e2, ?_, W2⟩
  have hsrc : ∀ r, (qf ++ nf :: r) ≠ qt ++ [nt] := fun r e => hnf (by rw [← e]; exact ⟨r, by simp⟩)
  have hsq : ∀ r, (qf ++ nf :: r) ≠ qt := fun r e => hnq (by rw [← e]; exact ⟨r, by simp⟩)
  have hsp : ∀ r, ¬ (qf ++ nf :: r) <+: qt := fun r h => hnq (List.IsPrefix.trans ⟨r, by simp⟩ h)
  have hsf : ∀ r, (qf ++ nf :: r) ≠ qf := fun r e => by have := congrArg List.length e; simp at this
  have hsfp : ∀ r, ¬ (qf ++ nf :: r) <+: qf := fun r h => by have := h.length_le; simp at this; omega
  have hdrop : ∀ r, (qt ++ nt :: r).drop (qt ++ [nt]).length = r := fun r => by rw [show qt ++ nt :: r = (qt ++ [nt]) ++ r by simp, List.drop_left]
  refine flat_put hS (fs := fs) F1 hok1 e1 e2 nt c p1 (fun x hx => ?_) (fun x hx => ?_) (fun r => ?_) (fun r => ?_)
  · have hx' : x ≠ qt ++ [nt] := fun e => hx (e ▸ List.prefix_refl _)
    show carryG _ _ _ x = _
    unfold carryG
    rw [if_neg hx]
    by_cases hs : (qf ++ [nf]) <+: x
    · rw [if_pos hs, if_neg (fun e : x = qt => hnq (e ▸ hs)), if_neg (fun h => hpre x h hs), cutF_od, if_pos hs]
    · rw [if_neg hs, p2 x hx', cutF_od, if_neg hs, cur_at e1 e2]
  · have hx' : x ≠ qt ++ [nt] := fun e => hx (e ▸ List.prefix_refl _)
    show carryG _ _ _ x = _
    unfold carryG
    rw [if_neg hx]
    by_cases hs : (qf ++ [nf]) <+: x
    · rw [if_pos hs, cutF_of, if_pos hs]
    · rw [if_neg hs, p3 x hx', cutF_of, if_neg hs]
  · show carryG _ _ _ _ = _
    unfold carryG
    rw [if_pos ⟨r, by simp⟩, hdrop, show (qf ++ [nf]) ++ r = qf ++ nf :: r by simp, p2 _ (hsrc r), if_neg (hsq r), if_neg (hsp r), t2, if_neg (hsf r), if_neg (hsfp r), hF.od, hat]
  · show carryG _ _ _ _ = _
    unfold carryG
    rw [if_pos ⟨r, by simp⟩, hdrop, show (qf ++ [nf]) ++ r = qf ++ nf :: r by simp, p3 _ (hsrc r), t3, hF.of, hat]

/-! ### heights -/
/-- How many stand one below the other. -/
def hgt (objs : List Ob) : Nat → LT → Int
  | _, .file id => highOf objs id
  | _, .held _ => 0
  | _, .dir id => highOf objs id
  | 0, .own _ => 0
  | n + 1, .own es => es.foldl (fun h x => max h (1 + hgt objs n x.2)) 0

theorem foldl_max_le {α : Type} (f : α → Int) : ∀ (l : List α) (a m : Int), l.foldl (fun h x => max h (1 + f x)) a ≤ m ↔ a ≤ m ∧ ∀ x ∈ l, 1 + f x ≤ m
  | [], a, m => by simp
  | y :: r, a, m => by
    rw [List.foldl_cons, foldl_max_le f r]
    constructor
    · rintro ⟨h1, h2⟩
      refine ⟨by omega, fun x hx => ?_⟩
      rcases List.mem_cons.1 hx with rfl | hx
      · omega
      · exact h2 x hx
    · rintro ⟨h1, h2⟩
      have := h2 y (List.mem_cons_self ..)
      exact ⟨by omega, fun x hx => h2 x (List.mem_cons_of_mem _ hx)⟩

theorem ok_hgt {objs : List Ob} (hS : Sound objs) : ∀ (n : Nat) {c : LT} {m : Nat}, LTok objs n c → hgt objs n c ≤ m → LTok objs m c
  | n, .file id, m, h, _ => by
    have : kindOf objs id = 1 := by cases n <;> simpa [LTok] using h
    cases m <;> simpa [LTok] using this
  | n, .held f, m, _, _ => by cases m <;> simp [LTok]
  | n, .dir id, m, h, hm => by
    have h1 : kindOf objs id = 2 := by cases n <;> simp [LTok] at h <;> exact h.1
    have h2 : highOf objs id ≤ m := by cases n <;> simpa [hgt] using hm
    cases m <;> (rw [LTok]; exact ⟨h1, h2⟩)
  | 0, .own es, m, h, _ => by
    rw [LTok] at h
    subst h
    exact ok_own List.Pairwise.nil (by simp) (by simp)
  | n + 1, .own es, m, h, hm => by
    rw [LTok] at h
    rw [hgt, foldl_max_le] at hm
    refine ok_own h.1 h.2.1 (fun x hx => ?_)
    have h1 := hm.2 x hx
    obtain ⟨hv, hx'⟩ := h.2.2 x hx
    have h0 : 0 ≤ hgt objs n x.2 := by
      cases n with
      | zero => cases hc : x.2 <;> simp [hgt] <;> exact hS.1 _
      | succ j =>
        cases hc : x.2 with
        | file i => simp [hgt]; exact hS.1 _
        | held f => simp [hgt]
        | dir i => simp [hgt]; exact hS.1 _
        | own es' =>
          rw [hgt]
          exact ((foldl_max_le (fun x => hgt objs j x.2) es' 0 _).1 (Int.le_refl _)).1
    refine ⟨hv, m - 1, by omega, ok_hgt hS n hx' (by omega)⟩

end Go.Proofs.YtajopoddmfdejaaGreat

namespace Go.Proofs.YtajopoddmfdejaaGreat
open Go.RowKit Go.Sort Go.Shelf
set_option linter.unusedVariables false

/-- Everything has been fetched. -/
def fsAll : FS := ⟨[], false, fun _ => true, fun _ => true⟩

/-- The answer is the one that there is when all has been fetched; or a fetch has failed, and nothing has changed. -/
def Fair {β : Type} (fs fs' : FS) (x all none : β) : Prop := (fs.Next fs' ∧ x = all) ∨ (fs.Fail fs' ∧ x = none)

theorem fair_dir (fs : FS) (id : Int) : Fair fs (fs.dirG id).1 (fs.dirG id).2 true false := by
  rcases fs.dirG_cases id with ⟨h1, h2, _⟩ | ⟨h1, h2⟩
  · exact .inl ⟨h2, h1⟩
  · exact .inr ⟨h2, h1⟩
theorem all_dir (id : Int) : fsAll.dirG id = (fsAll, true) := rfl
theorem all_file (id : Int) : fsAll.fileG id = (fsAll, true) := rfl

theorem all_kids (objs : List Ob) (c : LT) : kidsG objs fsAll c = (fsAll, kidsE objs c) := by
  cases c <;> rfl
theorem fair_kids (objs : List Ob) (fs : FS) (c : LT) : Fair fs (kidsG objs fs c).1 (kidsG objs fs c).2 (kidsG objs fsAll c).2 (14, []) := by
  rw [all_kids]
  rcases kidsG_cases objs fs c with ⟨h1, h2⟩ | ⟨h1, h2⟩
  · exact .inl ⟨h1, h2⟩
  · exact .inr ⟨h1, h2⟩
theorem fsAll_next {fs : FS} (h : fsAll.Fail fs) : False := by
  obtain ⟨h1, _⟩ := h
  cases h1
theorem all_find (objs : List Ob) (t : LT) (r : List ByteArray) : findR objs t fsAll r = (fsAll, findE objs t r) := by
  induction r with
  | nil => rfl
  | cons n r ih =>
    unfold findR findE
    simp only [ih, all_kids]
    by_cases h0 : (findE objs t r).1 ≠ 0
    · simp only [if_pos h0]
    · simp only [if_neg h0]
      by_cases hb : (kidsE objs (findE objs t r).2).1 ≠ 0
      · simp only [if_pos hb]
      · simp only [if_neg hb]
        cases pickK (kidsE objs (findE objs t r).2).2 n <;> rfl
theorem all_look (objs : List Ob) (t : LT) (r : List ByteArray) : lookR objs t fsAll r = (fsAll, lookE objs t r) := by
  unfold lookR lookE
  simp only [all_find, all_kids]
  by_cases h0 : (findE objs t r).1 ≠ 0
  · simp only [if_pos h0]
  · simp only [if_neg h0]
theorem fair_find (objs : List Ob) (t : LT) (fs : FS) (r : List ByteArray) : Fair fs (findR objs t fs r).1 (findR objs t fs r).2 (findR objs t fsAll r).2 (14, .dir 0) := by
  rw [all_find]
  rcases findR_cases objs t fs r with ⟨h1, h2, _⟩ | ⟨h1, h2⟩
  · exact .inl ⟨h1, h2⟩
  · exact .inr ⟨h1, h2⟩
theorem fair_look (objs : List Ob) (t : LT) (fs : FS) (r : List ByteArray) : Fair fs (lookR objs t fs r).1 (lookR objs t fs r).2 (lookR objs t fsAll r).2 (14, []) := by
  rw [all_look]
  rcases lookR_cases objs t fs r with ⟨h1, h2, _⟩ | ⟨h1, h2⟩
  · exact .inl ⟨h1, h2⟩
  · exact .inr ⟨h1, h2⟩

/-- The bytes of a file; ErrStore: they have not come. -/
def bytesG (objs : List Ob) (fl : Nat → Option (Int × ByteArray)) (fs : FS) (f : Nat) : FS × Int × ByteArray :=
  match fl f with
  | none => (fs, 0, ⟨#[]⟩)
  | some (id, d) => if id = 0 then (fs, 0, d) else if (fs.fileG id).2 then ((fs.fileG id).1, 0, bytesOf objs id) else ((fs.fileG id).1, 14, ⟨#[]⟩)
/-- How much is in it. -/
def sizeG (objs : List Ob) (fl : Nat → Option (Int × ByteArray)) (fs : FS) : LT → FS × Int × Int
  | .file id => if (fs.fileG id).2 then ((fs.fileG id).1, 0, ((bytesOf objs id).size : Int)) else ((fs.fileG id).1, 14, 0)
  | .held f => ((bytesG objs fl fs f).1, (bytesG objs fl fs f).2.1, ((bytesG objs fl fs f).2.2.size : Int))
  | c => ((kidsG objs fs c).1, (kidsG objs fs c).2.1, ((kidsG objs fs c).2.2.length : Int))
def statR (objs : List Ob) (fl : Nat → Option (Int × ByteArray)) (t : LT) (fs : FS) (r : List ByteArray) : FS × Int × Int × Int :=
  let a := findR objs t fs r
  if a.2.1 ≠ 0 then (a.1, a.2.1, 0, 0) else
  let b := sizeG objs fl a.1 a.2.2
  if b.2.1 ≠ 0 then (b.1, b.2.1, 0, 0) else (b.1, 0, a.2.2.kind, b.2.2)

def mkdirR (objs : List Ob) (t : LT) (fs : FS) : List ByteArray → FS × Int × LT
  | [] => (fs, 6, t)
  | n :: r =>
    let a := lookR objs t fs r
    if a.2.1 ≠ 0 then (a.1, a.2.1, t) else
    if (pickK a.2.2 n).isSome then (a.1, 6, t) else
    if 16 ≤ a.2.2.length then (a.1, 11, t) else (a.1, 0, modG objs (fun ks => putK ks n (.own [])) r.reverse t)

/-- Why it can't go. -/
def vacantG (objs : List Ob) (fs : FS) (c : LT) : FS × Int :=
  if c.kind = 1 then (fs, 0) else
  let k := kidsG objs fs c
  if k.2.1 = 0 ∧ 0 < k.2.2.length then (k.1, 8) else (k.1, k.2.1)

def removeR (objs : List Ob) (t : LT) (fs : FS) : List ByteArray → FS × Int × LT
  | [] => (fs, 9, t)
  | n :: r =>
    let a := findR objs t fs (n :: r)
    if a.2.1 ≠ 0 then (a.1, a.2.1, t) else
    let v := vacantG objs a.1 a.2.2
    if v.2 ≠ 0 then (v.1, v.2, t) else (v.1, 0, modG objs (fun ks => dropK ks n) r.reverse t)

/-- Why c can't stand in place of e. -/
def yieldsG (objs : List Ob) (fs : FS) (e c : LT) : FS × Int :=
  if e.kind = 2 ∧ c.kind = 1 then (fs, 7) else
  if e.kind = 1 ∧ c.kind = 2 then (fs, 5) else vacantG objs fs e
def roomG (objs : List Ob) (fs : FS) (same : Bool) (ks : Kids) (n : ByteArray) (c : LT) : FS × Int :=
  match pickK ks n with
  | some e => yieldsG objs fs e c
  | none => if 16 ≤ ks.length ∧ same = false then (fs, 11) else (fs, 0)
def renameR (objs : List Ob) (t : LT) (fs : FS) : List ByteArray → List ByteArray → FS × Int × LT
  | nf :: rf, nt :: rt =>
    let a := findR objs t fs (nf :: rf)
    if a.2.1 ≠ 0 then (a.1, a.2.1, t) else
    if (nf :: rf).reverse <+: (nt :: rt).reverse ∧ nf :: rf ≠ nt :: rt then (a.1, 9, t) else
    let b := lookR objs t a.1 rt
    if b.2.1 ≠ 0 ∨ nf :: rf = nt :: rt then (b.1, b.2.1, t) else
    let v := roomG objs b.1 (decide (rf = rt)) b.2.2 nt a.2.2
    if v.2 ≠ 0 then (v.1, v.2, t) else
    if 5 < ((rt.length + 1 : Nat) : Int) + hgt objs 5 a.2.2 then (v.1, 11, t) else
    (v.1, 0, modG objs (fun ks => putK ks nt a.2.2) rt.reverse (modG objs (fun ks => dropK ks nf) rf.reverse t))
  | _, _ => (fs, 9, t)

/-! ### each is fair -/
/-- One thing behind another. -/
theorem Fair.bind {β γ : Type} {fs fs1 fs2 : FS} {x a n : β} {y b m : γ} (h : Fair fs fs1 x a n) (good : fs.Next fs1 → x = a → Fair fs1 fs2 y b m) (bad : fs.Fail fs1 → x = n → fs2 = fs1 ∧ y = m) : Fair fs fs2 y b m := by
  rcases h with ⟨h1, h2⟩ | ⟨h1, h2⟩
  · rcases good h1 h2 with ⟨k1, k2⟩ | ⟨k1, k2⟩
    · exact .inl ⟨h1.trans k1, k2⟩
    · exact .inr ⟨h1.fail k1, k2⟩
  · obtain ⟨rfl, k⟩ := bad h1 h2
    exact .inr ⟨h1, k⟩

theorem fair_same {β : Type} (fs : FS) (x bad : β) : Fair fs fs x x bad := .inl ⟨FS.Next.refl _, rfl⟩

theorem fair_mkdir (objs : List Ob) (t : LT) (fs : FS) (r : List ByteArray) : Fair fs (mkdirR objs t fs r).1 (mkdirR objs t fs r).2 (mkdirR objs t fsAll r).2 (14, t) := by
  cases r with
  | nil => exact fair_same _ _ _
  | cons n r =>
    unfold mkdirR
    rcases fair_look objs t fs r with ⟨h1, h2⟩ | ⟨h1, h2⟩
    · have e1 := congrArg Prod.fst h2
      have e2 := congrArg Prod.snd h2
      simp only [e1, e2]
      refine .inl ⟨?_, ?_⟩
      · split
        · exact h1
        · split
          · exact h1
          · split <;> exact h1
      · split
        · rfl
        · split
          · rfl
          · split <;> rfl
    · have e1 := congrArg Prod.fst h2
      simp only at e1
      simp only [e1]
      exact .inr ⟨h1, rfl⟩

theorem fair_vacant (objs : List Ob) (fs : FS) (c : LT) : Fair fs (vacantG objs fs c).1 (vacantG objs fs c).2 (vacantG objs fsAll c).2 14 := by
  unfold vacantG
  by_cases h1 : c.kind = 1
  · rw [if_pos h1, if_pos h1]; exact fair_same _ _ _
  · rw [if_neg h1, if_neg h1]
    refine (fair_kids objs fs c).bind (fun hn he => ?_) (fun hf he => ?_)
    · simp only [he]
      by_cases h : (kidsG objs fsAll c).2.1 = 0 ∧ 0 < (kidsG objs fsAll c).2.2.length
      · simp only [if_pos h]; exact fair_same _ _ _
      · simp only [if_neg h]; exact fair_same _ _ _
    · simp only [he]; exact ⟨rfl, rfl⟩

theorem fair_remove (objs : List Ob) (t : LT) (fs : FS) (r : List ByteArray) : Fair fs (removeR objs t fs r).1 (removeR objs t fs r).2 (removeR objs t fsAll r).2 (14, t) := by
  cases r with
  | nil => exact fair_same _ _ _
  | cons n r =>
    unfold removeR
    refine (fair_find objs t fs (n :: r)).bind (fun hn he => ?_) (fun hf he => ?_)
    · simp only [he]
      by_cases h0 : (findR objs t fsAll (n :: r)).2.1 ≠ 0
      · simp only [if_pos h0]; exact fair_same _ _ _
      · simp only [if_neg h0]
        have hall : (findR objs t fsAll (n :: r)).1 = fsAll := by rw [all_find]
        rw [hall]
        generalize (findR objs t fsAll (n :: r)).2.2 = c
        refine (fair_vacant objs _ c).bind (fun hn he => ?_) (fun hf he => ?_)
        · simp only [he]
          by_cases hv : (vacantG objs fsAll c).2 ≠ 0
          · simp only [if_pos hv]; exact fair_same _ _ _
          · simp only [if_neg hv]; exact fair_same _ _ _
        · simp only [he]; exact ⟨rfl, rfl⟩
    · simp only [he]; exact ⟨rfl, rfl⟩

theorem fair_room (objs : List Ob) (fs : FS) (b : Bool) (ks : Kids) (n : ByteArray) (c : LT) : Fair fs (roomG objs fs b ks n c).1 (roomG objs fs b ks n c).2 (roomG objs fsAll b ks n c).2 14 := by
  unfold roomG
  cases pickK ks n with
  | none =>
    simp only
    by_cases h : 16 ≤ ks.length ∧ b = false
    · rw [if_pos h, if_pos h]; exact fair_same _ _ _
    · rw [if_neg h, if_neg h]; exact fair_same _ _ _
  | some e =>
    simp only
    unfold yieldsG
    by_cases h : e.kind = 2 ∧ c.kind = 1
    · rw [if_pos h, if_pos h]; exact fair_same _ _ _
    · rw [if_neg h, if_neg h]
      by_cases h : e.kind = 1 ∧ c.kind = 2
      · rw [if_pos h, if_pos h]; exact fair_same _ _ _
      · rw [if_neg h, if_neg h]; exact fair_vacant objs fs e

theorem fair_rename (objs : List Ob) (t : LT) (fs : FS) (rf rt : List ByteArray) : Fair fs (renameR objs t fs rf rt).1 (renameR objs t fs rf rt).2 (renameR objs t fsAll rf rt).2 (14, t) := by
  cases rf with
  | nil => cases rt <;> exact fair_same _ _ _
  | cons nf rf =>
    cases rt with
    | nil => exact fair_same _ _ _
    | cons nt rt =>
      unfold renameR
      refine (fair_find objs t fs (nf :: rf)).bind (fun hn he => ?_) (fun hf he => ?_)
      · simp only [he]
        by_cases h0 : (findR objs t fsAll (nf :: rf)).2.1 ≠ 0
        · simp only [if_pos h0]; exact fair_same _ _ _
        · simp only [if_neg h0]
          by_cases h9 : (nf :: rf).reverse <+: (nt :: rt).reverse ∧ nf :: rf ≠ nt :: rt
          · simp only [if_pos h9]; exact fair_same _ _ _
          · simp only [if_neg h9]
            generalize (findR objs t fs (nf :: rf)).1 = fs1
            have hall : (findR objs t fsAll (nf :: rf)).1 = fsAll := by rw [all_find]
            rw [hall]
            generalize (findR objs t fsAll (nf :: rf)).2.2 = c
            refine (fair_look objs t fs1 rt).bind (fun hn he => ?_) (fun hf he => ?_)
            · simp only [he]
              by_cases h1 : (lookR objs t fsAll rt).2.1 ≠ 0 ∨ nf :: rf = nt :: rt
              · simp only [if_pos h1]; exact fair_same _ _ _
              · simp only [if_neg h1]
                have hall : (lookR objs t fsAll rt).1 = fsAll := by rw [all_look]
                rw [hall]
                generalize (lookR objs t fsAll rt).2.2 = ks
                generalize (lookR objs t fs1 rt).1 = fs2
                refine (fair_room objs fs2 (decide (rf = rt)) ks nt c).bind (fun hn he => ?_) (fun hf he => ?_)
                · simp only [he]
                  by_cases hv : (roomG objs fsAll (decide (rf = rt)) ks nt c).2 ≠ 0
                  · simp only [if_pos hv]; exact fair_same _ _ _
                  · simp only [if_neg hv]
                    by_cases h5 : 5 < ((rt.length + 1 : Nat) : Int) + hgt objs 5 c
                    · simp only [if_pos h5]; exact fair_same _ _ _
                    · simp only [if_neg h5]; exact fair_same _ _ _
                · simp only [he]; exact ⟨rfl, rfl⟩
            · simp only [he]
              rw [if_pos (.inl (by decide))]; exact ⟨rfl, rfl⟩
      · simp only [he]; exact ⟨rfl, rfl⟩

theorem fair_file (fs : FS) (id : Int) : Fair fs (fs.fileG id).1 (fs.fileG id).2 true false := by
  rcases fs.fileG_cases id with ⟨h1, h2, _⟩ | ⟨h1, h2⟩
  · exact .inl ⟨h2, h1⟩
  · exact .inr ⟨h2, h1⟩
theorem fair_bytes (objs : List Ob) (fl : Nat → Option (Int × ByteArray)) (fs : FS) (f : Nat) : Fair fs (bytesG objs fl fs f).1 (bytesG objs fl fs f).2 (bytesG objs fl fsAll f).2 (14, ⟨#[]⟩) := by
  unfold bytesG
  cases fl f with
  | none => exact fair_same _ _ _
  | some x =>
    obtain ⟨id, d⟩ := x
    simp only
    by_cases h : id = 0
    · rw [if_pos h, if_pos h]; exact fair_same _ _ _
    · rw [if_neg h, if_neg h, all_file]
      refine (fair_file fs id).bind (fun hn he => ?_) (fun hf he => ?_)
      · rw [if_pos he]; exact fair_same _ _ _
      · rw [if_neg (by rw [he]; decide)]; exact ⟨rfl, rfl⟩
theorem fair_size (objs : List Ob) (fl : Nat → Option (Int × ByteArray)) (fs : FS) (c : LT) : Fair fs (sizeG objs fl fs c).1 (sizeG objs fl fs c).2 (sizeG objs fl fsAll c).2 (14, 0) := by
  cases c with
  | file id =>
    simp only [sizeG, all_file]
    refine (fair_file fs id).bind (fun hn he => ?_) (fun hf he => ?_)
    · rw [if_pos he]; exact fair_same _ _ _
    · rw [if_neg (by rw [he]; decide)]; exact ⟨rfl, rfl⟩
  | held f =>
    simp only [sizeG]
    refine (fair_bytes objs fl fs f).bind (fun hn he => ?_) (fun hf he => ?_)
    · simp only [he]; exact fair_same _ _ _
    · simp only [he]; exact ⟨trivial, rfl⟩
  | dir id =>
    simp only [sizeG]
    refine (fair_kids objs fs (.dir id)).bind (fun hn he => ?_) (fun hf he => ?_)
    · simp only [he]; exact fair_same _ _ _
    · simp only [he]; exact ⟨trivial, rfl⟩
  | own es =>
    simp only [sizeG]
    refine (fair_kids objs fs (.own es)).bind (fun hn he => ?_) (fun hf he => ?_)
    · simp only [he]; exact fair_same _ _ _
    · simp only [he]; exact ⟨trivial, rfl⟩
theorem fair_stat (objs : List Ob) (fl : Nat → Option (Int × ByteArray)) (t : LT) (fs : FS) (r : List ByteArray) : Fair fs (statR objs fl t fs r).1 (statR objs fl t fs r).2 (statR objs fl t fsAll r).2 (14, 0, 0) := by
  unfold statR
  refine (fair_find objs t fs r).bind (fun hn he => ?_) (fun hf he => ?_)
  · simp only [he]
    by_cases h0 : (findR objs t fsAll r).2.1 ≠ 0
    · simp only [if_pos h0]; exact fair_same _ _ _
    · simp only [if_neg h0]
      have hall : (findR objs t fsAll r).1 = fsAll := by rw [all_find]
      rw [hall]
      generalize (findR objs t fsAll r).2.2 = c
      refine (fair_size objs fl _ c).bind (fun hn he => ?_) (fun hf he => ?_)
      · simp only [he]
        by_cases hv : (sizeG objs fl fsAll c).2.1 ≠ 0
        · simp only [if_pos hv]; exact fair_same _ _ _
        · simp only [if_neg hv]; exact fair_same _ _ _
      · simp only [he]; exact ⟨rfl, rfl⟩
  · simp only [he]; exact ⟨rfl, rfl⟩

end Go.Proofs.YtajopoddmfdejaaGreat

namespace Go.Proofs.YtajopoddmfdejaaGreat
open Go.RowKit Go.Sort Go.Shelf
set_option linter.unusedVariables false

section
variable {objs : List Ob} {fc : FileC} {t d : LT} {q : List ByteArray} {ks : Kids} {n : ByteArray}

theorem sem_below (ha : t.at objs q = some d) (r : List ByteArray) : sem objs fc t (q ++ r) = sem objs fc d r := by
  unfold sem; rw [at_append, ha]; rfl
theorem sem_kid (ha : t.at objs q = some d) (hk : kids objs d = some ks) (m : ByteArray) (r : List ByteArray) : sem objs fc t (q ++ m :: r) = (pickK ks m).bind fun c => sem objs fc c r := by
  rw [sem_below ha, sem_cons, hk, Option.bind_some]

theorem sem_put (hr : RisingK ks) (ha : t.at objs q = some d) (hk : kids objs d = some ks) (c : LT) :
    (∀ r, sem objs fc (modG objs (fun ks => putK ks n c) q t) (q ++ n :: r) = sem objs fc c r) ∧ ∀ x, ¬ (q ++ [n]) <+: x → sem objs fc (modG objs (fun ks => putK ks n c) q t) x = sem objs fc t x := by
  obtain ⟨h1, h2⟩ := sem_mod objs fc (fun ks => putK ks n c) q t d ks ha hk
  refine ⟨fun r => ?_, fun x hx => ?_⟩
  · rw [h1, pick_put hr, if_pos rfl]; rfl
  · by_cases hq : ∃ m r, x = q ++ m :: r
    · obtain ⟨m, r, rfl⟩ := hq
      have hm : m ≠ n := fun e => hx (by rw [e]; exact ⟨r, by simp⟩)
      rw [h1, pick_put hr, if_neg hm, sem_kid ha hk]
    · exact h2 x hq
theorem sem_drop (hr : RisingK ks) (ht : thereK ks n = true) (ha : t.at objs q = some d) (hk : kids objs d = some ks) :
    (∀ r, sem objs fc (modG objs (fun ks => dropK ks n) q t) (q ++ n :: r) = none) ∧ ∀ x, ¬ (q ++ [n]) <+: x → sem objs fc (modG objs (fun ks => dropK ks n) q t) x = sem objs fc t x := by
  obtain ⟨h1, h2⟩ := sem_mod objs fc (fun ks => dropK ks n) q t d ks ha hk
  refine ⟨fun r => ?_, fun x hx => ?_⟩
  · rw [h1, pick_drop hr ht, if_pos rfl]; rfl
  · by_cases hq : ∃ m r, x = q ++ m :: r
    · obtain ⟨m, r, rfl⟩ := hq
      have hm : m ≠ n := fun e => hx (by rw [e]; exact ⟨r, by simp⟩)
      rw [h1, pick_drop hr ht, if_neg hm, sem_kid ha hk]
    · exact h2 x hq
end

/-- Behind Rename. -/
theorem sem_rename {objs : List Ob} {fc : FileC} (hS : Sound objs) {k : Nat} {t : LT} (hok : LTok objs k t) {qf qt : List ByteArray} {nf nt : ByteArray} {df dt c : LT} {kf kt : Kids}
    (ha : t.at objs qf = some df) (hk : kids objs df = some kf) (hp : pickK kf nf = some c) (hb : t.at objs qt = some dt) (hkt : kids objs dt = some kt) (hnf : ¬ (qf ++ [nf]) <+: (qt ++ [nt])) (x : List ByteArray) :
    sem objs fc (modG objs (fun ks => putK ks nt c) qt (modG objs (fun ks => dropK ks nf) qf t)) x =
      if (qt ++ [nt]) <+: x then sem objs fc t ((qf ++ [nf]) ++ x.drop (qt ++ [nt]).length) else if (qf ++ [nf]) <+: x then none else sem objs fc t x := by
  have hr := (ok_kids hS (ok_at hS _ hok ha).2.1 hk).1
  have ht : thereK kf nf = true := by rw [← pick_there hr, hp]; rfl
  have hnq : ¬ (qf ++ [nf]) <+: qt := fun h => hnf (h.trans (List.prefix_append _ _))
  obtain ⟨d1, k1, e1, e2, _⟩ := drop_dir hr ha hk ht hb hkt hnq
  have hok1 := drop_ok hS hok ha hk nf
  have hr1 := (ok_kids hS (ok_at hS _ hok1 e1).2.1 e2).1
  obtain ⟨p1, p2⟩ := sem_put (fc := fc) (n := nt) hr1 e1 e2 c
  obtain ⟨s1, s2⟩ := sem_drop (fc := fc) hr ht ha hk
  by_cases h : (qt ++ [nt]) <+: x
  · rw [if_pos h]
    obtain ⟨r, rfl⟩ := h
    rw [List.drop_left, show (qt ++ [nt]) ++ r = qt ++ nt :: r by simp, p1, show (qf ++ [nf]) ++ r = qf ++ nf :: r by simp, sem_kid ha hk, hp]; rfl
  · rw [if_neg h, p2 x h]
    by_cases h2 : (qf ++ [nf]) <+: x
    · rw [if_pos h2]
      obtain ⟨r, rfl⟩ := h2
      rw [show (qf ++ [nf]) ++ r = qf ++ nf :: r by simp, s1]
    · rw [if_neg h2, s2 x h2]

/-- The way to a path, by what is seen: its error is that of the first on it that is not there, or is no directory. -/
theorem find_sem (objs : List Ob) (fc : FileC) (t : LT) : ∀ r : List ByteArray,
    ((findE objs t r).1 = 0 ∧ t.at objs r.reverse = some (findE objs t r).2) ∨ ((findE objs t r).1 ≠ 0 ∧ sem objs fc t r.reverse = none ∧ ((findE objs t r).1 = 4 ∨ (findE objs t r).1 = 5))
  | [] => .inl ⟨rfl, at_nil _ _⟩
  | n :: r => by
    by_cases h : (findE objs t (n :: r)).1 = 0
    · exact .inl ⟨h, (findE_at objs t (n :: r)).1 h⟩
    · refine .inr ⟨h, ?_, ?_⟩
      · unfold sem; rw [(findE_at objs t (n :: r)).2 h]; rfl
      · rcases find_sem objs fc t r with ⟨h0, ha⟩ | ⟨h0, _, h45⟩
        · rw [findE] at h ⊢
          simp only at h ⊢
          rw [if_neg (by simpa using h0)] at h ⊢
          cases hd : (findE objs t r).2 with
          | file i => rw [hd] at h; simp [kidsE]
          | held f => rw [hd] at h; simp [kidsE]
          | own es => simp only [hd, kidsE] at h ⊢; cases hp : pickK es n <;> simp [hp] at h ⊢
          | dir id => simp only [hd, kidsE] at h ⊢; cases hp : pickK ((entsOf objs id).map kidOf) n <;> simp [hp] at h ⊢
        · rw [findE]
          simp only
          rw [if_pos h0]; exact h45

end Go.Proofs.YtajopoddmfdejaaGreat

namespace Go.Proofs.YtajopoddmfdejaaGreat
open Go.RowKit Go.Sort Go.Shelf
set_option linter.unusedVariables false

theorem fetch_not {i k : Nat} (hi : 2 ≤ i) (h2 : k ≠ 2) (h3 : k ≠ 3) : ¬ Fetches i (i, k) := by
  rintro (h | h | h)
  · have h' : i = 1 := h
    omega
  · cases h; exact h2 rfl
  · cases h; exact h3 rfl

theorem there_at {es : List Ent} {n : ByteArray} (ht : thereK es n = true) : ∃ h : idxK es n < es.length, (es[idxK es n]).1 = n := by
  have hix := thereK_lt ht
  refine ⟨hix, ?_⟩
  unfold thereK at ht
  rw [List.getElem?_eq_getElem hix] at ht
  simpa using ht

theorem putK_there {es : List Ent} {n : ByteArray} (ht : thereK es n = true) (v : Int × Int) : putK es n v = es.set (idxK es n) (n, v) := by
  unfold putK; rw [if_pos ht]

theorem zero_set {es : List Ent} (hr : RisingK es) {n : ByteArray} (ht : thereK es n = true) (hix : idxK es n < es.length) : es.set (idxK es n) (n, (es[idxK es n]).2.1, 0) = zeroK es n := by
  apply List.ext_getElem
  · simp [zeroK]
  · intro j h1 h2
    have hj : j < es.length := by simpa using h1
    rw [List.getElem_set]
    rw [show (zeroK es n)[j]'h2 = (if (es[j]).1 = n then ((es[j]).1, (es[j]).2.1, (0 : Int)) else es[j]) from by simp [zeroK]]
    obtain ⟨_, hn⟩ := there_at ht
    by_cases e : idxK es n = j
    · subst e
      rw [if_pos rfl, if_pos hn, hn]
    · rw [if_neg e, if_neg]
      intro hjn
      rcases Nat.lt_or_gt_of_ne e with h | h
      · have := rising_lt hr (a := idxK es n) (b := j) hj h
        rw [hn, hjn, cmpN_self] at this; omega
      · have := rising_lt hr (a := j) (b := idxK es n) hix h
        rw [hn, hjn, cmpN_self] at this; omega

/-- Entry k's three cells, written. -/
theorem flat_set3 {es : List Ent} {k : Nat} (hk : k < es.length) (e : Ent) : (((flat es).set (k * 3) (.string e.1)).set (k * 3 + 1) (.int .i64 e.2.1)).set (k * 3 + 2) (.int .i64 e.2.2) = flat (es.set k e) := by
  apply List.ext_getElem?
  intro j
  have hlen : (flat es).length = es.length * 3 := flat_len es
  by_cases hj : j < es.length * 3
  · obtain ⟨q, t, ht, rfl⟩ : ∃ q t, t < 3 ∧ j = q * 3 + t := ⟨j / 3, j % 3, Nat.mod_lt _ (by decide), by omega⟩
    have hq : q < es.length := by omega
    rw [flat_get (es.set k e) q t (by simpa using hq) ht, List.getElem_set]
    by_cases e1 : k = q
    · subst e1
      rw [if_pos rfl]
      simp only [List.getElem?_set, List.length_set, hlen]
      rcases (show t = 0 ∨ t = 1 ∨ t = 2 by omega) with rfl | rfl | rfl
      · rw [if_neg (by omega), if_neg (by omega), if_pos (by omega), if_pos (by omega)]; rfl
      · rw [if_neg (by omega), if_pos (by omega), if_pos (by omega)]; rfl
      · rw [if_pos (by omega), if_pos (by omega)]; rfl
    · rw [if_neg e1, List.getElem?_set_ne (by omega), List.getElem?_set_ne (by omega), List.getElem?_set_ne (by omega), flat_get es q t hq ht]
  · rw [List.getElem?_eq_none (by simp only [List.length_set, hlen]; omega), List.getElem?_eq_none (by rw [flat_len, List.length_set]; omega)]

theorem flat_set2 {es : List Ent} {k : Nat} (hk : k < es.length) (id : Int) : (flat es).set (k * 3 + 2) (.int .i64 id) = flat (es.set k ((es[k]).1, (es[k]).2.1, id)) := by
  rw [← flat_set3 hk]
  have h0 : (flat es).set (k * 3) (.string (es[k]).1) = flat es := by
    have := flat_get es k 0 hk (by decide)
    apply List.ext_getElem?
    intro j
    rw [List.getElem?_set]
    by_cases e : k * 3 = j
    · subst e
      rw [if_pos rfl, if_pos (by rw [flat_len]; omega)]
      simpa [encE] using this.symm
    · rw [if_neg e]
  have h1 : (flat es).set (k * 3 + 1) (.int .i64 (es[k]).2.1) = flat es := by
    have := flat_get es k 1 hk (by decide)
    apply List.ext_getElem?
    intro j
    rw [List.getElem?_set]
    by_cases e : k * 3 + 1 = j
    · subst e
      rw [if_pos rfl, if_pos (by rw [flat_len]; omega)]
      simpa [encE] using this.symm
    · rw [if_neg e]
  rw [h0, h1]

section
variable {s i p : Nat} {B : WB} {objs : List Ob}

/-- A directory of the tree's own has other entries, in the same memory. -/
theorem OwnDV.rewrite {tg : Tags} {w w' : World} {od : List ByteArray → Option (List Ent)} {lim : Nat} {vD : List ByteArray → Value} (h : OwnDV tg w i B od lim vD) {q : List ByteArray} {es es' : List Ent} {gb : Nat} (ho : od q = some es) (hgb : (vD q).ownBlock = some gb) (hg : w.grownBy w' (some gb))
    (hrow : w'.ownsRow 0 76 3 (vD q) es'.length (flat es')) (hE : Ents objs es') : OwnDV tg w' i B (upd od q (some es')) lim vD := by
  obtain ⟨n, hn, hm⟩ := h.map
  obtain ⟨e0, ck, hb⟩ := hm.isMap
  have hne : B.oD ≠ gb := fun e => owns_ne_map (h.row q es ho).1 (e ▸ hb) hgb.symm
  refine ⟨h.tag, ⟨n, hn, (hm.keep (hg.block _ hm.lt (fun e => hne (by injection e)))).congr (fun p hp => ?_)⟩, fun p fs hp => ?_, fun p fs hp => ?_, fun p p' fs fs' gc hp hp' hb1 hb2 => ?_⟩
  · by_cases e : p = q
    · subst e; rw [upd_same, ho]; rfl
    · rw [upd_other e]
  · by_cases e : p = q
    · subst e
      rw [upd_same] at hp
      cases hp
      exact ⟨(h.good p es ho).1, hE.rising, hE.len, fun e he => ⟨(hE.ok e he).1, (hE.ok e he).2.1⟩⟩
    · rw [upd_other e] at hp; exact h.good p fs hp
  · by_cases e : p = q
    · subst e
      rw [upd_same] at hp
      cases hp
      exact ⟨hrow, (h.row p es ho).2⟩
    · rw [upd_other e] at hp
      have hr := h.row p fs hp
      exact hr.keep (fun g' hg' hl => ⟨hg.block g' hl (fun e2 => by
        have e3 : g' = gb := by injection e2
        rw [e3] at hg'
        exact e (h.inj p q fs es gb hp ho hg' hgb)), rfl⟩)
  · have hp1 : ∃ f1, od p = some f1 := by
      by_cases e : p = q
      · rw [e]; exact ⟨es, ho⟩
      · rw [upd_other e] at hp; exact ⟨fs, hp⟩
    have hp2 : ∃ f2, od p' = some f2 := by
      by_cases e : p' = q
      · rw [e]; exact ⟨es, ho⟩
      · rw [upd_other e] at hp'; exact ⟨fs', hp'⟩
    obtain ⟨f1, hp1⟩ := hp1
    obtain ⟨f2, hp2⟩ := hp2
    exact h.inj p p' f1 f2 gc hp1 hp2 hb1 hb2

theorem ents_zero {es : List Ent} (h : Ents objs es) (n : ByteArray) : Ents objs (zeroK es n) := by
  refine ⟨?_, by unfold zeroK; rw [List.length_map]; exact h.len, fun e he => ?_⟩
  · unfold RisingK zeroK
    rw [List.pairwise_map]
    refine h.rising.imp fun {a b} hab => ?_
    have e : ∀ x : Ent, (if x.1 = n then (x.1, x.2.1, (0 : Int)) else x).1 = x.1 := fun x => by split <;> rfl
    rw [e, e]; exact hab
  · unfold zeroK at he
    obtain ⟨x, hx, rfl⟩ := List.mem_map.1 he
    obtain ⟨h1, h2⟩ := h.ok x hx
    by_cases e : x.1 = n
    · rw [if_pos e]; exact ⟨h1, h2.1, fun h0 => absurd rfl h0⟩
    · rw [if_neg e]; exact ⟨h1, h2⟩

theorem WInv.entsOf {tg : Tags} {w : World} {g : WG} {lim : Nat} (h : WInv tg w s i p B objs g lim) {q : List ByteArray} {es : List Ent} (ho : g.ft.od q = some es) : Ents objs es := by
  obtain ⟨vD, hD⟩ := h.wp.ownD
  obtain ⟨_, h1, h2, h3⟩ := hD.good q es ho
  exact ⟨h1, h2, fun e he => ⟨(h3 e he).1, h.wp.ok.od q es ho e he⟩⟩

/-- One more entry is the tree's own. -/
theorem zero_cell {tg : Tags} {w : World} {g : WG} {lim : Nat} {vD : List ByteArray → Value} (h : WInv tg w s i p B objs g lim) (hD : OwnDV tg w i B g.ft.od lim vD) {q : List ByteArray} {es : List Ent} {n : ByteArray} {gb ln c : Nat} (ho : g.ft.od q = some es) (hv : vD q = .slice (some ⟨gb, 0, none⟩) ln c) (ht : thereK es n = true) :
    WInv tg (w.setCell ⟨gb, idxK es n * 3 + 2, none⟩ (.int .i64 0)) s i p B objs { g with ft := { g.ft with od := upd g.ft.od q (some (zeroK es n)) } } lim ∧ OwnDV tg (w.setCell ⟨gb, idxK es n * 3 + 2, none⟩ (.int .i64 0)) i B (upd g.ft.od q (some (zeroK es n))) lim vD ∧ Moves (fun t => t = (i, 5)) tg tg w (w.setCell ⟨gb, idxK es n * 3 + 2, none⟩ (.int .i64 0)) := by
  have hE := h.entsOf ho
  obtain ⟨hix, hn⟩ := there_at ht
  have hrow := hD.row q es ho
  have hgb : (vD q).ownBlock = some gb := by rw [hv]; rfl
  have hg : w.grownBy (w.setCell ⟨gb, idxK es n * 3 + 2, none⟩ (.int .i64 0)) (some gb) := grown_set (grown_refl _ _)
  have hE' := ents_zero hE n
  have hr1 := hrow.1
  rw [hv] at hr1
  have hln : ln = es.length := by
    rcases hr1.2 with ⟨e, _⟩ | ⟨g', c', _, e, _⟩
    · cases e
    · cases e; rfl
  subst hln
  have hst := (hr1.stored (idxK es n * 3 + 2) (.int .i64 0)).1
  have hfl : (flat es).set (idxK es n * 3 + 2) (.int .i64 0) = flat (zeroK es n) := by
    rw [flat_set2 hix, hn, zero_set hE.rising ht hix]
  rw [hfl] at hst
  have hD' := hD.rewrite (objs := objs) ho hgb hg (by rw [hv]; unfold zeroK at hst ⊢; rw [List.length_map]; exact hst) hE'
  have m : Moves (fun t => t = (i, 5)) tg tg w (w.setCell ⟨gb, idxK es n * 3 + 2, none⟩ (.int .i64 0)) := moves_grown hg (by simp) (hrow.2 gb hgb)
  refine ⟨h.od m (Nat.le_refl _) hD' (fun q' es' ho' => ?_), hD', m⟩
  by_cases e : q' = q
  · subst e
    have ho'' : upd g.ft.od q' (some (zeroK es n)) q' = some es' := ho'
    rw [upd_same] at ho''
    cases ho''
    exact fun e he => (hE'.ok e he).2
  · have ho'' : upd g.ft.od q (some (zeroK es n)) q' = some es' := ho'
    rw [upd_other e] at ho''
    exact h.wp.ok.od q' es' ho''
end

end Go.Proofs.YtajopoddmfdejaaGreat
