/-
  What is proved here: whatever is looked at, made, removed and renamed below a, nothing is fetched but the root and directories that stood at a or below it. what a store gives of an object (GetFile, GetDir). the objects of the directories on the way to a path, and of what stands there, as canopykeep's allowed looks for them, are those that Stat may fetch; the first ones it must. Fetched of a store: a new list of all that has been fetched; canopykeep's has: is an object in a list, from a place on.
-/
import Derived.Test.YtajopoddmfdejaaGreatNearM36
import Derived.Test.YtajopoddmfdejaaGreatNearM04
import Derived.Shelf.SlicesE.Clone
namespace Go.Proofs.YtajopoddmfdejaaGreat
open Go.RowKit Go.Sort Go.Shelf
set_option linter.unusedVariables false

def nameA : ByteArray := ⟨#[97]⟩

/-- c stands at a path (by whatever entries of the names). -/
def Reach (objs : List Ob) : LT → List ByteArray → LT → Prop
  | t, [], c => t = c
  | t, m :: q, c => ∃ ks, kids objs t = some ks ∧ ∃ x ∈ ks, x.1 = m ∧ Reach objs x.2 q c
theorem reach_cons {objs : List Ob} {t c : LT} {m : ByteArray} {q : List ByteArray} : Reach objs t (m :: q) c ↔ ∃ ks, kids objs t = some ks ∧ ∃ x ∈ ks, x.1 = m ∧ Reach objs x.2 q c := by rw [Reach]
theorem at_reach {objs : List Ob} : ∀ {q : List ByteArray} {t c : LT}, t.at objs q = some c → Reach objs t q c
  | [], t, c, h => by rw [at_nil] at h; cases h; rw [Reach]
  | m :: q, t, c, h => by
    rw [at_cons] at h
    cases hk : kids objs t with
    | none => rw [hk] at h; cases h
    | some ks =>
      rw [hk, Option.bind_some] at h
      cases hp : pickK ks m with
      | none => rw [hp] at h; cases h
      | some x =>
        rw [hp, Option.bind_some] at h
        exact reach_cons.2 ⟨ks, hk, (m, x), pick_mem hp, rfl, at_reach h⟩
theorem reach_append {objs : List Ob} : ∀ {p q : List ByteArray} {t d c : LT}, Reach objs t p d → Reach objs d q c → Reach objs t (p ++ q) c
  | [], q, t, d, c, h, k => by rw [Reach] at h; subst h; exact k
  | m :: p, q, t, d, c, h, k => by
    obtain ⟨ks, hk, x, hx, hm, hr⟩ := reach_cons.1 h
    exact reach_cons.2 ⟨ks, hk, x, hx, hm, reach_append hr k⟩

/-- What stands where behind a change. -/
theorem reach_mod {objs : List Ob} (f : Kids → Kids) : ∀ (p q : List ByteArray) (t c : LT), Reach objs (modG objs f p t) q c → (∃ es, c = .own es) ∨ Reach objs t q c ∨ ∃ d m r, Reach objs t p d ∧ q = p ++ m :: r ∧ ∃ x ∈ f ((kids objs d).getD []), x.1 = m ∧ Reach objs x.2 r c
  | [], q, t, c, h => by
    cases q with
    | nil => rw [Reach, modG] at h; exact .inl ⟨_, h.symm⟩
    | cons m q =>
      obtain ⟨ks, hk, x, hx, hm, hr⟩ := reach_cons.1 h
      rw [modG_kids] at hk
      cases hk
      exact .inr (.inr ⟨t, m, q, by rw [Reach], rfl, x, hx, hm, hr⟩)
  | n :: p, q, t, c, h => by
    cases q with
    | nil => rw [Reach, modG] at h; exact .inl ⟨_, h.symm⟩
    | cons m q =>
      obtain ⟨ks, hk, x, hx, hm, hr⟩ := reach_cons.1 h
      rw [modG_cons] at hk
      cases hk
      obtain ⟨y, hy, hxy⟩ := List.mem_map.1 hx
      cases hkt : kids objs t with
      | none => rw [hkt] at hy; cases hy
      | some ks0 =>
        rw [hkt, Option.getD_some] at hy
        by_cases hn : y.1 = n
        · rw [if_pos hn] at hxy
          subst hxy
          have hmn : m = n := by rw [← hm]; exact hn
          subst hmn
          rcases reach_mod f p q y.2 c hr with h | h | ⟨d, m', r, h1, h2, h3⟩
          · exact .inl h
          · exact .inr (.inl (reach_cons.2 ⟨ks0, hkt, y, hy, hn, h⟩))
          · exact .inr (.inr ⟨d, m', r, reach_cons.2 ⟨ks0, hkt, y, hy, hn, h1⟩, by rw [h2]; rfl, h3⟩)
        · rw [if_neg hn] at hxy
          subst hxy
          exact .inr (.inl (reach_cons.2 ⟨ks0, hkt, y, hy, hm, hr⟩))

theorem mem_put {es : Kids} {n : ByteArray} {c : LT} {x : ByteArray × LT} (h : x ∈ putK es n c) : x = (n, c) ∨ x ∈ es := by
  unfold putK at h
  split at h
  · rcases List.mem_or_eq_of_mem_set h with h | h
    · exact .inr h
    · exact .inl h
  · rcases List.mem_append.1 h with h | h
    · exact .inr (List.mem_of_mem_take h)
    · rcases List.mem_cons.1 h with h | h
      · exact .inl h
      · exact .inr (List.mem_of_mem_drop h)
theorem mem_drop {es : Kids} {n : ByteArray} {x : ByteArray × LT} (h : x ∈ dropK es n) : x ∈ es := List.mem_of_mem_eraseIdx h

/-- What is stored at a, or below it, and at the root, is of S. -/
structure NearT (objs : List Ob) (S : Int → Prop) (t : LT) : Prop where
  root : ∀ i, t = .dir i → S i
  low : ∀ r i, Reach objs t (nameA :: r) (.dir i) → S i

section
variable {objs : List Ob} {S : Int → Prop} {t : LT}
theorem near_mod (hN : NearT objs S t) (f : Kids → Kids) {p : List ByteArray} {p' : List ByteArray} (hp : p = nameA :: p') (hf : ∀ d m r i, Reach objs t p d → (∃ x ∈ f ((kids objs d).getD []), x.1 = m ∧ Reach objs x.2 r (.dir i)) → S i) : NearT objs S (modG objs f p t) := by
  refine ⟨fun i e => ?_, fun r i hr => ?_⟩
  · subst hp; rw [modG] at e; cases e
  · rcases reach_mod f p _ t _ hr with ⟨es, h⟩ | h | ⟨d, m, r', h1, h2, h3⟩
    · cases h
    · exact hN.low r i h
    · exact hf d m r' i h1 h3
theorem near_kid (h : NearT objs S t) {p p' : List ByteArray} (hp : p = nameA :: p') {d : LT} (hd : Reach objs t p d) {x : ByteArray × LT} (hx : x ∈ (kids objs d).getD []) {r : List ByteArray} {i : Int} (hr : Reach objs x.2 r (.dir i)) : S i := by
  cases hk : kids objs d with
  | none => rw [hk] at hx; cases hx
  | some ks =>
    rw [hk] at hx
    have hd' : Reach objs d (x.1 :: r) (.dir i) := reach_cons.2 ⟨ks, hk, x, hx, rfl, hr⟩
    have := reach_append hd hd'
    rw [hp] at this
    exact h.low _ i this
theorem near_drop (h : NearT objs S t) {p p' : List ByteArray} (hp : p = nameA :: p') (n : ByteArray) : NearT objs S (modG objs (fun ks => dropK ks n) p t) :=
  near_mod h _ hp (fun d m r i hd ⟨x, hx, _, hr⟩ => near_kid h hp hd (mem_drop hx) hr)
theorem near_put (h : NearT objs S t) {p p' : List ByteArray} (hp : p = nameA :: p') (n : ByteArray) (c : LT) (hc : ∀ r i, Reach objs c r (.dir i) → S i) : NearT objs S (modG objs (fun ks => putK ks n c) p t) :=
  near_mod h _ hp (fun d m r i hd ⟨x, hx, _, hr⟩ => by
    rcases mem_put hx with rfl | hx
    · exact hc r i hr
    · exact near_kid h hp hd hx hr)
theorem near_way (h : NearT objs S t) {l q : List ByteArray} (hq : q <+: nameA :: l) {i : Int} (ha : t.at objs q = some (.dir i)) : S i := by
  cases q with
  | nil => rw [at_nil] at ha; exact h.root i (Option.some.inj ha)
  | cons a q =>
    have : a = nameA := (List.cons_prefix_cons.1 hq).1
    subst this
    exact h.low q i (at_reach ha)
end

/-! ### what is fetched -/
section
variable {objs : List Ob} {S : Int → Prop} {t : LT} {fs : FS}
theorem gr_kids (hb : fs.brk = false) {c : LT} (hc : ∀ i, c = .dir i → S i ∧ kindOf objs i = 2) : Gr objs S fs (kidsG objs fs c).1 ∧ (∀ i, c = .dir i → (kidsG objs fs c).1.kD i = true) := by
  cases c with
  | file i => exact ⟨Gr.refl hb, fun i e => by cases e⟩
  | held f => exact ⟨Gr.refl hb, fun i e => by cases e⟩
  | own es => exact ⟨Gr.refl hb, fun i e => by cases e⟩
  | dir i =>
    obtain ⟨h1, h2⟩ := hc i rfl
    obtain ⟨g1, g2, g3⟩ := gr_dir hb h2 h1
    have hk : (kidsG objs fs (.dir i)).1 = (fs.dirG i).1 := by simp only [kidsG]; split <;> rfl
    rw [hk]
    exact ⟨g1, fun j e => by cases e; exact g3⟩

/-- On the way to r there are only such directories. -/
def Ways (objs : List Ob) (S : Int → Prop) (t : LT) (r : List ByteArray) : Prop := ∀ q i, q <+: r.reverse → t.at objs q = some (.dir i) → S i ∧ kindOf objs i = 2
theorem Ways.up {n : ByteArray} {r : List ByteArray} (h : Ways objs S t (n :: r)) : Ways objs S t r := fun q i hq ha => h q i (by rw [List.reverse_cons]; exact hq.trans (List.prefix_append _ _)) ha

theorem find_back8 (hb : fs.brk = false) (r : List ByteArray) : (findR objs t fs r).2.1 = 0 → t.at objs r.reverse = some (findR objs t fs r).2.2 := by
  intro h0
  have hnob := find_nobrk (objs := objs) (t := t) hb r
  rw [hnob] at h0 ⊢
  exact (findE_at objs t r).1 h0
theorem gr_find (hb : fs.brk = false) : ∀ r, Ways objs S t r → Gr objs S fs (findR objs t fs r).1 ∧ (r ≠ [] → ∀ i, t = .dir i → (findR objs t fs r).1.kD i = true)
  | [], _ => ⟨Gr.refl hb, fun h => absurd rfl h⟩
  | n :: r, hw => by
    obtain ⟨i1, i2⟩ := gr_find hb r hw.up
    by_cases h0 : (findR objs t fs r).2.1 ≠ 0
    · have hf : (findR objs t fs (n :: r)).1 = (findR objs t fs r).1 := by rw [findR]; simp only [if_pos h0]
      rw [hf]
      refine ⟨i1, fun _ i e => ?_⟩
      refine i2 (fun hr => ?_) i e
      subst hr
      exact h0 rfl
    · have hat := find_back8 hb r (Decidable.not_not.1 h0)
      have hf : (findR objs t fs (n :: r)).1 = (kidsG objs (findR objs t fs r).1 (findR objs t fs r).2.2).1 := by
        rw [findR]; simp only [if_neg h0]
        split
        · rfl
        · split <;> rfl
      rw [hf]
      obtain ⟨k1, k2⟩ := gr_kids (S := S) i1.1 (c := (findR objs t fs r).2.2) (fun i e => hw r.reverse i (by rw [List.reverse_cons]; exact List.prefix_append _ _) (by rw [hat, e]))
      refine ⟨i1.trans k1, fun _ i e => ?_⟩
      by_cases hr : r = []
      · subst hr
        exact k2 i (by show t = _; exact e)
      · exact k1.2.1 i (i2 hr i e)
theorem gr_look (hb : fs.brk = false) {r : List ByteArray} (hw : Ways objs S t r) : Gr objs S fs (lookR objs t fs r).1 ∧ (r ≠ [] → ∀ i, t = .dir i → (lookR objs t fs r).1.kD i = true) := by
  obtain ⟨i1, i2⟩ := gr_find hb r hw
  unfold lookR
  by_cases h0 : (findR objs t fs r).2.1 ≠ 0
  · simp only [if_pos h0]; exact ⟨i1, i2⟩
  · simp only [if_neg h0]
    have hat := find_back8 hb r (Decidable.not_not.1 h0)
    obtain ⟨k1, k2⟩ := gr_kids (S := S) i1.1 (c := (findR objs t fs r).2.2) (fun i e => hw r.reverse i (List.prefix_refl _) (by rw [hat, e]))
    exact ⟨i1.trans k1, fun hr i e => k1.2.1 i (i2 hr i e)⟩
theorem look_not14 (hb : fs.brk = false) (r : List ByteArray) : (lookR objs t fs r).2.1 ≠ 14 := by
  rcases lookR_cases objs t fs r with ⟨_, h2, h3⟩ | ⟨h1, _⟩
  · rw [h2]; exact h3
  · rw [h1.1] at hb; cases hb
theorem gr_vacant (hb : fs.brk = false) {c : LT} (hc : ∀ i, c = .dir i → S i ∧ kindOf objs i = 2) : Gr objs S fs (vacantG objs fs c).1 := by
  unfold vacantG
  split
  · exact Gr.refl hb
  · simp only
    split <;> exact (gr_kids hb hc).1
theorem gr_mkdir (hb : fs.brk = false) {n : ByteArray} {r : List ByteArray} (hr : r ≠ []) (hw : Ways objs S t (n :: r)) : Gr objs S fs (mkdirR objs t fs (n :: r)).1 ∧ ∀ i, t = .dir i → (mkdirR objs t fs (n :: r)).1.kD i = true := by
  obtain ⟨i1, i2⟩ := gr_look hb hw.up
  have he : (mkdirR objs t fs (n :: r)).1 = (lookR objs t fs r).1 := by
    simp only [mkdirR]
    split
    · rfl
    · split
      · rfl
      · split <;> rfl
  rw [he]
  exact ⟨i1, i2 hr⟩
theorem gr_remove (hb : fs.brk = false) {n : ByteArray} {r : List ByteArray} (hw : Ways objs S t (n :: r)) : Gr objs S fs (removeR objs t fs (n :: r)).1 ∧ ∀ i, t = .dir i → (removeR objs t fs (n :: r)).1.kD i = true := by
  obtain ⟨i1, i2⟩ := gr_find hb (n :: r) hw
  by_cases h0 : (findR objs t fs (n :: r)).2.1 ≠ 0
  · have he : (removeR objs t fs (n :: r)).1 = (findR objs t fs (n :: r)).1 := by simp only [removeR, if_pos h0]
    rw [he]; exact ⟨i1, i2 (by simp)⟩
  · have hat := find_back8 hb (n :: r) (Decidable.not_not.1 h0)
    have he : (removeR objs t fs (n :: r)).1 = (vacantG objs (findR objs t fs (n :: r)).1 (findR objs t fs (n :: r)).2.2).1 := by
      simp only [removeR, if_neg h0]
      split <;> rfl
    rw [he]
    have k1 := gr_vacant (S := S) i1.1 (c := (findR objs t fs (n :: r)).2.2) (fun i e => hw (n :: r).reverse i (List.prefix_refl _) (by rw [hat, e]))
    exact ⟨i1.trans k1, fun i e => k1.2.1 i (i2 (by simp) i e)⟩
theorem gr_rename (hb : fs.brk = false) {nf nt : ByteArray} {rf rt : List ByteArray} (hw : Ways objs S t (nf :: rf)) (hv : Ways objs S t (nt :: rt)) : Gr objs S fs (renameR objs t fs (nf :: rf) (nt :: rt)).1 ∧ ∀ i, t = .dir i → (renameR objs t fs (nf :: rf) (nt :: rt)).1.kD i = true := by
  obtain ⟨i1, i2⟩ := gr_find hb (nf :: rf) hw
  have hroot := i2 (by simp)
  suffices h : Gr objs S (findR objs t fs (nf :: rf)).1 (renameR objs t fs (nf :: rf) (nt :: rt)).1 from ⟨i1.trans h, fun i e => h.2.1 i (hroot i e)⟩
  have hb1 := i1.1
  simp only [renameR]
  generalize (findR objs t fs (nf :: rf)).1 = fs1 at hb1
  obtain ⟨j1, _⟩ := gr_look hb1 hv.up
  have hb2 := j1.1
  split
  · exact Gr.refl hb1
  · split
    · exact Gr.refl hb1
    · split
      · exact j1
      · rename_i h0 h1 h2
        have hlk : (lookR objs t fs1 rt).2.1 = 0 := by
          by_cases h : (lookR objs t fs1 rt).2.1 = 0
          · exact h
          · exact absurd (.inl h) h2
        have hroom : Gr objs S (lookR objs t fs1 rt).1 (roomG objs (lookR objs t fs1 rt).1 (decide (rf = rt)) (lookR objs t fs1 rt).2.2 nt (findR objs t fs (nf :: rf)).2.2).1 := by
          unfold roomG
          cases hp : pickK (lookR objs t fs1 rt).2.2 nt with
          | none => simp only; split <;> exact Gr.refl hb2
          | some e =>
            simp only
            unfold yieldsG
            split
            · exact Gr.refl hb2
            · split
              · exact Gr.refl hb2
              · refine gr_vacant hb2 (fun i hi => hv (nt :: rt).reverse i (List.prefix_refl _) ?_)
                obtain ⟨d, ha, hks⟩ := look_at hlk
                rw [List.reverse_cons, at_kid ha hks, hp, Option.bind_some, at_nil, hi]
        split
        · exact j1.trans hroom
        · split <;> exact j1.trans hroom
end

/-! ### what may be fetched -/
/-- The objects of a directory, and of all directories below it (at most n deep). -/
def underR (objs : List Ob) : Nat → Int → List Int
  | 0, id => [id]
  | n + 1, id => id :: (entsOf objs id).flatMap fun e => if e.2.1 = 2 then underR objs n e.2.2 else []
def mayL (objs : List Ob) (id : Int) : List Int := id :: (entsOf objs id).flatMap fun e => if e.1 = nameA ∧ e.2.1 = 2 then underR objs 5 e.2.2 else []

theorem under_head (objs : List Ob) : ∀ (n : Nat) (id : Int), id ∈ underR objs n id
  | 0, id => by rw [underR]; simp
  | n + 1, id => by rw [underR]; simp
theorem under_reach {objs : List Ob} (hS : Sound objs) : ∀ (r : List ByteArray) (n : Nat) (j i : Int), kindOf objs j = 2 → highOf objs j ≤ n → Reach objs (.dir j) r (.dir i) → i ∈ underR objs n j
  | [], n, j, i, _, _, h => by rw [Reach] at h; cases h; exact under_head objs n j
  | m :: r, n, j, i, hk, hh, h => by
    obtain ⟨ks, hks, x, hx, _, hr⟩ := reach_cons.1 h
    have hks' : (entsOf objs j).map kidOf = ks := by simpa [kids] using hks
    rw [← hks'] at hx
    obtain ⟨e, he, rfl⟩ := List.mem_map.1 hx
    obtain ⟨_, h2, h3, h4⟩ := (hS.2 j hk).2.2 e he
    have h0 := hS.1 e.2.2
    obtain ⟨n', rfl⟩ : ∃ n', n = n' + 1 := ⟨n - 1, by omega⟩
    by_cases hd : e.2.1 = 2
    · have hx2 : (kidOf e).2 = .dir e.2.2 := by show ltOf e = _; unfold ltOf; rw [if_pos hd]
      rw [hx2] at hr
      have := under_reach hS r n' e.2.2 i (by rw [h3, hd]) (by omega) hr
      rw [underR]
      refine List.mem_cons_of_mem _ (List.mem_flatMap.2 ⟨e, he, ?_⟩)
      rw [if_pos hd]; exact this
    · have hx2 : (kidOf e).2 = .file e.2.2 := by show ltOf e = _; unfold ltOf; rw [if_neg hd]
      rw [hx2] at hr
      cases r with
      | nil => rw [Reach] at hr; cases hr
      | cons a r => obtain ⟨ks, h, _⟩ := reach_cons.1 hr; simp [kids] at h
theorem under_kind {objs : List Ob} (hS : Sound objs) : ∀ (n : Nat) (j : Int), kindOf objs j = 2 → ∀ i ∈ underR objs n j, kindOf objs i = 2
  | 0, j, hk, i, h => by rw [underR, List.mem_singleton] at h; rw [h]; exact hk
  | n + 1, j, hk, i, h => by
    rw [underR] at h
    rcases List.mem_cons.1 h with h | h
    · rw [h]; exact hk
    · obtain ⟨e, he, hi⟩ := List.mem_flatMap.1 h
      split at hi
      · rename_i hd
        obtain ⟨_, _, h3, _⟩ := (hS.2 j hk).2.2 e he
        exact under_kind hS n e.2.2 (by rw [h3, hd]) i hi
      · cases hi
theorem may_kind {objs : List Ob} (hS : Sound objs) {id : Int} (hk : kindOf objs id = 2) : ∀ i ∈ mayL objs id, kindOf objs i = 2 := by
  intro i h
  rcases List.mem_cons.1 h with h | h
  · rw [h]; exact hk
  · obtain ⟨e, he, hi⟩ := List.mem_flatMap.1 h
    split at hi
    · rename_i hd
      obtain ⟨_, _, h3, _⟩ := (hS.2 id hk).2.2 e he
      exact under_kind hS 5 e.2.2 (by rw [h3, hd.2]) i hi
    · cases hi

/-- A workspace of the tree begins so. -/
theorem near_base {objs : List Ob} (hS : Sound objs) {id : Int} (hok : LTok objs 5 (.dir id)) : NearT objs (· ∈ mayL objs id) (.dir id) := by
  rw [LTok] at hok
  refine ⟨fun i e => by cases e; exact List.mem_cons_self .., fun r i h => ?_⟩
  obtain ⟨ks, hks, x, hx, hn, hr⟩ := reach_cons.1 h
  have hks' : (entsOf objs id).map kidOf = ks := by simpa [kids] using hks
  rw [← hks'] at hx
  obtain ⟨e, he, rfl⟩ := List.mem_map.1 hx
  obtain ⟨_, h2, h3, h4⟩ := (hS.2 id hok.1).2.2 e he
  by_cases hd : e.2.1 = 2
  · have hx2 : (kidOf e).2 = .dir e.2.2 := by show ltOf e = _; unfold ltOf; rw [if_pos hd]
    rw [hx2] at hr
    refine List.mem_cons_of_mem _ (List.mem_flatMap.2 ⟨e, he, ?_⟩)
    rw [if_pos ⟨hn, hd⟩]
    exact under_reach hS r 5 e.2.2 i (by rw [h3, hd]) (by have := hok.2; omega) hr
  · have hx2 : (kidOf e).2 = .file e.2.2 := by show ltOf e = _; unfold ltOf; rw [if_neg hd]
    rw [hx2] at hr
    cases r with
    | nil => rw [Reach] at hr; cases hr
    | cons a r => obtain ⟨ks, h, _⟩ := reach_cons.1 hr; simp [kids] at h

/-- How many they can be. -/
def uBound : Nat → Nat
  | 0 => 1
  | n + 1 => 1 + 16 * uBound n
theorem flat_bound {α : Type} (f : α → List Int) (b : Nat) : ∀ (l : List α), (∀ x ∈ l, (f x).length ≤ b) → (l.flatMap f).length ≤ l.length * b
  | [], _ => by simp
  | x :: r, h => by
    rw [List.flatMap_cons, List.length_append, List.length_cons, Nat.succ_mul]
    have h1 := h x (List.mem_cons_self ..)
    have h2 := flat_bound f b r (fun y hy => h y (List.mem_cons_of_mem _ hy))
    omega
theorem under_bound {objs : List Ob} (hS : Sound objs) : ∀ (n : Nat) (j : Int), kindOf objs j = 2 → (underR objs n j).length ≤ uBound n
  | 0, j, _ => by rw [underR]; simp [uBound]
  | n + 1, j, hk => by
    rw [underR, uBound, List.length_cons]
    obtain ⟨_, h16, hall⟩ := hS.2 j hk
    have := flat_bound (fun e : Ent => if e.2.1 = 2 then underR objs n e.2.2 else []) (uBound n) (entsOf objs j) (fun e he => by
      split
      · rename_i hd
        exact under_bound hS n e.2.2 (by rw [(hall e he).2.2.1, hd])
      · simp)
    have h2 : (entsOf objs j).length * uBound n ≤ 16 * uBound n := Nat.mul_le_mul_right _ h16
    omega

/-! ### the steps -/
/-- A workspace in which only things below a have been touched. -/
structure NearS (objs : List Ob) (id : Int) (t : LT) (fs : FS) : Prop where
  brk : fs.brk = false
  near : NearT objs (· ∈ mayL objs id) t
  base : ∀ i, t = .dir i → i = id
  kept : t = .dir id ∨ fs.kD id = true

section
variable {objs : List Ob} {id : Int} {t : LT} {fs : FS}
theorem NearS.ways (hS : Sound objs) (hk : kindOf objs id = 2) (h : NearS objs id t fs) {r l : List ByteArray} (hr : r.reverse = nameA :: l) : Ways objs (· ∈ mayL objs id) t r := fun q i hq ha => by
  rw [hr] at hq
  have := near_way h.near hq ha
  exact ⟨this, may_kind hS hk i this⟩
theorem NearS.to (h : NearS objs id t fs) {fs' : FS} {t' : LT} (hg : Gr objs (· ∈ mayL objs id) fs fs') (hroot : ∀ i, t = .dir i → fs'.kD i = true) (hn : NearT objs (· ∈ mayL objs id) t') (ht : t' = t ∨ ∃ es, t' = .own es) : NearS objs id t' fs' ∧ fs'.kD id = true := by
  have hk : fs'.kD id = true := by
    rcases h.kept with e | e
    · exact hroot id e
    · exact hg.2.1 id e
  refine ⟨⟨hg.1, hn, fun i e => ?_, .inr hk⟩, hk⟩
  rcases ht with rfl | ⟨es, rfl⟩
  · exact h.base i e
  · cases e
theorem mod_own (objs : List Ob) (f : Kids → Kids) (p : List ByteArray) (t : LT) : ∃ es, modG objs f p t = .own es := by
  cases p <;> (rw [modG]; exact ⟨_, rfl⟩)

/-- One after another. -/
def StepN (objs : List Ob) (id : Int) (fs fs' : FS) (t' : LT) : Prop := NearS objs id t' fs' ∧ fs'.kD id = true ∧ Gr objs (· ∈ mayL objs id) fs fs'
theorem n_look (hS : Sound objs) (hk : kindOf objs id = 2) (h : NearS objs id t fs) {r l : List ByteArray} (hr : r.reverse = nameA :: l) : StepN objs id fs (lookR objs t fs r).1 t := by
  obtain ⟨g1, g2⟩ := gr_look h.brk (h.ways hS hk hr)
  have hne : r ≠ [] := fun e => by rw [e] at hr; cases hr
  obtain ⟨a, b⟩ := h.to g1 (g2 hne) h.near (.inl rfl)
  exact ⟨a, b, g1⟩
theorem n_mkdir (hS : Sound objs) (hk : kindOf objs id = 2) (h : NearS objs id t fs) {n : ByteArray} {r l : List ByteArray} (hr : r.reverse = nameA :: l) : StepN objs id fs (mkdirR objs t fs (n :: r)).1 (mkdirR objs t fs (n :: r)).2.2 := by
  have hne : r ≠ [] := fun e => by rw [e] at hr; cases hr
  obtain ⟨g1, g2⟩ := gr_mkdir h.brk (n := n) hne (h.ways hS hk (r := n :: r) (l := l ++ [n]) (by rw [List.reverse_cons, hr]; rfl))
  have ht : (mkdirR objs t fs (n :: r)).2.2 = t ∨ (mkdirR objs t fs (n :: r)).2.2 = modG objs (fun ks => putK ks n (.own [])) r.reverse t := by
    simp only [mkdirR]
    split
    · exact .inl rfl
    · split
      · exact .inl rfl
      · split
        · exact .inl rfl
        · exact .inr rfl
  have hn : NearT objs (· ∈ mayL objs id) (mkdirR objs t fs (n :: r)).2.2 := by
    rcases ht with e | e
    · rw [e]; exact h.near
    · rw [e]
      refine near_put h.near hr n _ (fun r i hri => ?_)
      cases r with
      | nil => rw [Reach] at hri; cases hri
      | cons a r => obtain ⟨ks, h1, x, h2, _⟩ := reach_cons.1 hri; simp [kids] at h1; subst h1; cases h2
  obtain ⟨a, b⟩ := h.to g1 g2 hn (by
    rcases ht with e | e
    · exact .inl e
    · rw [e]; exact .inr (mod_own _ _ _ _))
  exact ⟨a, b, g1⟩
theorem n_remove (hS : Sound objs) (hk : kindOf objs id = 2) (h : NearS objs id t fs) {n : ByteArray} {r l : List ByteArray} (hr : r.reverse = nameA :: l) : StepN objs id fs (removeR objs t fs (n :: r)).1 (removeR objs t fs (n :: r)).2.2 := by
  obtain ⟨g1, g2⟩ := gr_remove h.brk (n := n) (h.ways hS hk (r := n :: r) (l := l ++ [n]) (by rw [List.reverse_cons, hr]; rfl))
  have ht : (removeR objs t fs (n :: r)).2.2 = t ∨ (removeR objs t fs (n :: r)).2.2 = modG objs (fun ks => dropK ks n) r.reverse t := by
    simp only [removeR]
    split
    · exact .inl rfl
    · split
      · exact .inl rfl
      · exact .inr rfl
  have hn : NearT objs (· ∈ mayL objs id) (removeR objs t fs (n :: r)).2.2 := by
    rcases ht with e | e
    · rw [e]; exact h.near
    · rw [e]; exact near_drop h.near hr n
  obtain ⟨a, b⟩ := h.to g1 g2 hn (by
    rcases ht with e | e
    · exact .inl e
    · rw [e]; exact .inr (mod_own _ _ _ _))
  exact ⟨a, b, g1⟩
theorem n_rename (hS : Sound objs) (hk : kindOf objs id = 2) (h : NearS objs id t fs) {nf nt : ByteArray} {rf rt lf lt : List ByteArray} (hf : rf.reverse = nameA :: lf) (ht : rt.reverse = nameA :: lt) : StepN objs id fs (renameR objs t fs (nf :: rf) (nt :: rt)).1 (renameR objs t fs (nf :: rf) (nt :: rt)).2.2 := by
  obtain ⟨g1, g2⟩ := gr_rename h.brk (h.ways hS hk (r := nf :: rf) (l := lf ++ [nf]) (by rw [List.reverse_cons, hf]; rfl)) (h.ways hS hk (r := nt :: rt) (l := lt ++ [nt]) (by rw [List.reverse_cons, ht]; rfl))
  have he : (renameR objs t fs (nf :: rf) (nt :: rt)).2.2 = t ∨ (findR objs t fs (nf :: rf)).2.1 = 0 ∧ (renameR objs t fs (nf :: rf) (nt :: rt)).2.2 = modG objs (fun ks => putK ks nt (findR objs t fs (nf :: rf)).2.2) rt.reverse (modG objs (fun ks => dropK ks nf) rf.reverse t) := by
    simp only [renameR]
    split
    · exact .inl rfl
    · rename_i h0
      split
      · exact .inl rfl
      · split
        · exact .inl rfl
        · split
          · exact .inl rfl
          · split
            · exact .inl rfl
            · exact .inr ⟨Decidable.not_not.1 h0, rfl⟩
  have hn : NearT objs (· ∈ mayL objs id) (renameR objs t fs (nf :: rf) (nt :: rt)).2.2 := by
    rcases he with e | ⟨h0, e⟩
    · rw [e]; exact h.near
    · rw [e]
      refine near_put (near_drop h.near hf nf) ht nt _ (fun r i hri => ?_)
      have hat := at_reach (find_back8 h.brk (nf :: rf) h0)
      have := reach_append hat hri
      rw [List.reverse_cons, hf] at this
      exact h.near.low _ i this
  obtain ⟨a, b⟩ := h.to g1 g2 hn (by
    rcases he with e | ⟨_, e⟩
    · exact .inl e
    · rw [e]; exact .inr (mod_own _ _ _ _))
  exact ⟨a, b, g1⟩
end

end Go.Proofs.YtajopoddmfdejaaGreat

namespace Go.Proofs.YtajopoddmfdejaaGreat
open Go.RowKit Go.Sort Go.Shelf
set_option linter.unusedVariables false
variable {ft : PTail}

set_option maxRecDepth 100000 in
set_option maxHeartbeats 400000 in
theorem storeGetFile {F : Nat → Prop} {w : World} {s : Nat} {objs : List Ob} (h : Inv ft F w s objs) (id : Int) :
    Calls Tryz.prog 35 #[.pointer (some ⟨s, 0, none⟩), .int .i64 id] w fun e w' => FileGot objs id e ∧ Below w.heap.size w w' := by
  obtain ⟨p, a, cap, bf, bd, Df, Dd, i⟩ := h
  have hcon := file_any p a objs.length cap bf bd objs id w i.pool
  have c0 := i.c0
  clear i
  go_enter Tryz.func35, Tryz.ntmps35
  go_wp2_with fail
  refine hcon.mono ?_
  rintro e w' ⟨hb, hf⟩
  obtain ⟨x, y, hxy⟩ : ∃ x y, e = .returned (.tuple #[.string x, .int .i64 y]) := by
    rcases hf with ⟨_, h⟩ | ⟨_, _, _, _, h⟩ <;> exact ⟨_, _, h⟩
  have HF : Hid (FileGot objs id e) := hf
  have HE : Hid (e = .returned (.tuple #[.string x, .int .i64 y])) := hxy
  clear hf hxy hcon
  rw [HE.out]
  go_wp2
  go_ret2
  exact ⟨HE.out ▸ HF.out, hb⟩

set_option maxRecDepth 100000 in
set_option maxHeartbeats 400000 in
theorem storeGetDir {F : Nat → Prop} {w : World} {s : Nat} {objs : List Ob} (h : Inv ft F w s objs) (id : Int) :
    Calls Tryz.prog 33 #[.pointer (some ⟨s, 0, none⟩), .int .i64 id] w fun e w' => DirGot w w' objs id e ∧ Below w.heap.size w w' := by
  obtain ⟨p, a, cap, bf, bd, Df, Dd, i⟩ := h
  have hcon := poolGetDir i id
  have c0 := i.c0
  clear i
  go_enter Tryz.func33, Tryz.ntmps33
  go_wp2_with fail
  refine hcon.mono ?_
  rintro e w' ⟨hf, hb⟩
  obtain ⟨x, n, c, y, hxy⟩ : ∃ x n c y, e = .returned (.tuple #[.slice x n c, .int .i64 y]) := by
    rcases hf with ⟨_, h⟩ | ⟨_, _, _, _, _, h, _⟩ <;> exact ⟨_, _, _, _, h⟩
  have HF : Hid (DirGot w w' objs id e) := hf
  have HE : Hid (e = .returned (.tuple #[.slice x n c, .int .i64 y])) := hxy
  clear hf hxy hcon
  rw [HE.out]
  go_wp2
  go_ret2
  exact ⟨HE.out ▸ HF.out, hb⟩

end Go.Proofs.YtajopoddmfdejaaGreat

namespace Go.Proofs.YtajopoddmfdejaaGreat
open Go.RowKit Go.Sort Go.Shelf
set_option linter.unusedVariables false

/-- The object of the last entry of that name; 0: there is none. -/
def nextOf (es : List Ent) (n : ByteArray) : Int := es.foldl (fun a e => if e.1 = n then e.2.2 else a) 0
theorem next_fold (n : ByteArray) : ∀ (es : List Ent) (a : Int), (∀ e ∈ es, e.1 ≠ n) → es.foldl (fun a e => if e.1 = n then e.2.2 else a) a = a
  | [], a, _ => rfl
  | e :: r, a, h => by
    rw [List.foldl_cons, if_neg (h e (List.mem_cons_self ..))]
    exact next_fold n r a (fun x hx => h x (List.mem_cons_of_mem _ hx))
theorem next_pick (n : ByteArray) : ∀ (es : List Ent) (a : Int), RisingK es → es.foldl (fun a e => if e.1 = n then e.2.2 else a) a = ((pickK (es.map kidOf) n).map LT.id).getD a
  | [], a, _ => rfl
  | e :: r, a, h => by
    unfold RisingK at h
    rw [List.pairwise_cons] at h
    rw [List.foldl_cons, List.map_cons]
    by_cases hn : e.1 = n
    · rw [if_pos hn]
      have hp : pickK (kidOf e :: r.map kidOf) n = some (ltOf e) := by unfold pickK; rw [List.find?_cons_of_pos (by show decide (e.1 = n) = true; exact decide_eq_true hn)]; rfl
      rw [hp, next_fold n r _ (fun x hx hxn => ?_)]
      · show e.2.2 = (ltOf e).id
        unfold ltOf
        split <;> rfl
      · have := h.1 x hx
        rw [hn, hxn] at this
        rw [cmpN_self] at this
        exact absurd this (by decide)
    · rw [if_neg hn]
      have hp : pickK (kidOf e :: r.map kidOf) n = pickK (r.map kidOf) n := by unfold pickK; rw [List.find?_cons_of_neg (by show ¬ decide (e.1 = n) = true; rw [decide_eq_false hn]; decide)]
      rw [hp]
      exact next_pick n r a h.2
theorem nextOf_pick {es : List Ent} (h : RisingK es) (n : ByteArray) : nextOf es n = ((pickK (es.map kidOf) n).map LT.id).getD 0 := next_pick n es 0 h

/-- What allowed answers. -/
def chainR (objs : List Ob) : Int → List ByteArray → List Int × Nat
  | id, [] => ([id], 1)
  | id, n :: r => if kindOf objs id ≠ 2 then ([id], 0) else if nextOf (entsOf objs id) n = 0 then ([id], 1) else (id :: (chainR objs (nextOf (entsOf objs id) n) r).1, (chainR objs (nextOf (entsOf objs id) n) r).2 + 1)

theorem chain_nil (objs : List Ob) (id : Int) : chainR objs id [] = ([id], 1) := by rw [chainR]
theorem chain_file {objs : List Ob} {id : Int} {n : ByteArray} {r : List ByteArray} (h : kindOf objs id ≠ 2) : chainR objs id (n :: r) = ([id], 0) := by rw [chainR, if_pos h]
theorem chain_none {objs : List Ob} {id : Int} {n : ByteArray} {r : List ByteArray} (h : kindOf objs id = 2) (h0 : nextOf (entsOf objs id) n = 0) : chainR objs id (n :: r) = ([id], 1) := by rw [chainR, if_neg (by simpa using h), if_pos h0]
theorem chain_next {objs : List Ob} {id : Int} {n : ByteArray} {r : List ByteArray} (h : kindOf objs id = 2) (h0 : nextOf (entsOf objs id) n ≠ 0) : chainR objs id (n :: r) = (id :: (chainR objs (nextOf (entsOf objs id) n) r).1, (chainR objs (nextOf (entsOf objs id) n) r).2 + 1) := by rw [chainR, if_neg (by simpa using h), if_neg h0]

theorem chain_way {objs : List Ob} (hS : Sound objs) : ∀ (p : List ByteArray) (m : Nat) (c : LT), LTok objs m c → ((∃ i, c = .file i) ∨ ∃ i, c = .dir i) →
    (∀ q d, q <+: p → c.at objs q = some d → d.id ∈ (chainR objs c.id p).1) ∧
    (∀ k, k < (chainR objs c.id p).2 → ∃ q d, q <+: p ∧ c.at objs q = some d ∧ (d.kind = 2 ∨ q = p) ∧ (chainR objs c.id p).1[k]? = some d.id)
  | [], m, c, hok, hst => by
    rw [chain_nil]
    refine ⟨fun q d hq hd => ?_, fun k hk => ⟨[], c, List.prefix_refl _, at_nil _ _, .inr rfl, ?_⟩⟩
    · rw [List.prefix_nil.1 hq, at_nil] at hd
      cases hd; simp
    · have : k = 0 := by simp only at hk; omega
      subst this; rfl
  | n :: r, m, c, hok, hst => by
    rcases hst with ⟨i, rfl⟩ | ⟨i, rfl⟩
    · rw [LTok] at hok
      have hid : (LT.file i).id = i := rfl
      rw [hid, chain_file (by rw [hok]; decide)]
      refine ⟨fun q d hq hd => ?_, fun k hk => by simp at hk⟩
      cases q with
      | nil => rw [at_nil] at hd; cases hd; simp [LT.id]
      | cons a q => rw [at_cons] at hd; simp [kids] at hd
    · have hok' := hok
      rw [LTok] at hok'
      obtain ⟨hk2, hh⟩ := hok'
      have hid : (LT.dir i).id = i := rfl
      obtain ⟨hr, hl, he⟩ := hS.2 i hk2
      have hnx := nextOf_pick hr n
      rw [hid]
      cases hp : pickK ((entsOf objs i).map kidOf) n with
      | none =>
        rw [hp] at hnx
        rw [chain_none hk2 hnx]
        refine ⟨fun q d hq hd => ?_, fun k hk => ⟨[], .dir i, List.nil_prefix, at_nil _ _, .inl rfl, ?_⟩⟩
        · cases q with
          | nil => rw [at_nil] at hd; cases hd; simp [LT.id]
          | cons a q =>
            have ha : a = n := (List.cons_prefix_cons.1 hq).1
            subst ha
            rw [at_cons] at hd
            simp only [kids, Option.bind_some, hp, Option.bind_none] at hd
            cases hd
        · have : k = 0 := by simp only at hk; omega
          subst this; rfl
      | some c' =>
        rw [hp] at hnx
        have hnx' : nextOf (entsOf objs i) n = c'.id := hnx
        obtain ⟨_, _, hall⟩ := ok_kids hS hok (ks := (entsOf objs i).map kidOf) rfl
        have hmem := pick_mem hp
        obtain ⟨_, m', _, hok2⟩ := hall _ hmem
        obtain ⟨e, hem, hke⟩ := List.mem_map.1 hmem
        have hc' : c' = ltOf e := by have := congrArg Prod.snd hke; exact this.symm
        have hst' : (∃ i, c' = .file i) ∨ ∃ i, c' = .dir i := by
          rw [hc']; unfold ltOf
          split
          · exact .inr ⟨_, rfl⟩
          · exact .inl ⟨_, rfl⟩
        have h0 : nextOf (entsOf objs i) n ≠ 0 := by
          rw [hnx']
          rcases hst' with ⟨j, rfl⟩ | ⟨j, rfl⟩
          · rw [LTok] at hok2
            have := (kindOf_pos (a := objs) (id := j) (by rw [hok2]; decide)).1
            show j ≠ 0
            omega
          · rw [LTok] at hok2
            have := (kindOf_pos (a := objs) (id := j) (by rw [hok2.1]; decide)).1
            show j ≠ 0
            omega
        obtain ⟨i1, i2⟩ := chain_way hS r m' c' hok2 hst'
        rw [chain_next hk2 h0, hnx']
        refine ⟨fun q d hq hd => ?_, fun k hk => ?_⟩
        · cases q with
          | nil => rw [at_nil] at hd; cases hd; exact List.mem_cons_self ..
          | cons a q =>
            obtain ⟨ha, hq'⟩ := List.cons_prefix_cons.1 hq
            subst ha
            rw [at_cons] at hd
            simp only [kids, Option.bind_some, hp] at hd
            exact List.mem_cons_of_mem _ (i1 q d hq' hd)
        · cases k with
          | zero => exact ⟨[], .dir i, List.nil_prefix, at_nil _ _, .inl rfl, rfl⟩
          | succ k =>
            obtain ⟨q, d, hq, hd, hkd, hel⟩ := i2 k (by simp only at hk; omega)
            refine ⟨n :: q, d, List.cons_prefix_cons.2 ⟨rfl, hq⟩, ?_, ?_, hel⟩
            · rw [at_cons]
              simp only [kids, Option.bind_some, hp]
              exact hd
            · rcases hkd with h | h
              · exact .inl h
              · exact .inr (by rw [h])

/-- What stands on the way is in it. -/
theorem way_chain {objs : List Ob} (hS : Sound objs) {id : Int} (hok : LTok objs 5 (.dir id)) {p : List ByteArray} {x : Int} (h : OnWay objs id p x) : x ∈ (chainR objs id p).1 := by
  obtain ⟨q, c, hq, hc, rfl⟩ := h
  exact (chain_way hS p 5 (.dir id) hok (.inr ⟨id, rfl⟩)).1 q c hq hc
/-- What is kept is fetched: the first ones of it. -/
theorem must_chain {objs : List Ob} (hS : Sound objs) {id : Int} (hok : LTok objs 5 (.dir id)) {p : List ByteArray} {fs : FS} {before L : List Int} (hG : GI objs before fs L) (hK : ∀ q c, q <+: p → (LT.dir id).at objs q = some c → (c.kind = 2 ∨ q = p) → Kept objs fs c) : ∀ k, k < (chainR objs id p).2 → ∃ x, (chainR objs id p).1[k]? = some x ∧ x ∈ L := by
  intro k hk
  obtain ⟨q, d, hq, hd, hkd, hel⟩ := (chain_way hS p 5 (.dir id) hok (.inr ⟨id, rfl⟩)).2 k hk
  refine ⟨d.id, hel, ?_⟩
  have hkept := hK q d hq hd hkd
  have hokd := (ok_at hS _ hok hd).2.1
  unfold Kept at hkept
  rcases stored_there hd with ⟨i, rfl⟩ | ⟨i, rfl⟩
  · rw [LTok] at hokd
    rw [if_neg (by simp [LT.kind])] at hkept
    exact (hG.file i hokd).1 hkept
  · rw [LTok] at hokd
    rw [if_pos (show (LT.dir i).kind = 2 from rfl)] at hkept
    exact (hG.dir i hokd.1).1 hkept

end Go.Proofs.YtajopoddmfdejaaGreat

namespace Go.Proofs.YtajopoddmfdejaaGreat
open Go.RowKit Go.Sort Go.Shelf
set_option linter.unusedVariables false

def encN (xs : List Int) : List Value := xs.map (Value.int .i64)
theorem encN_len (xs : List Int) : (encN xs).length = xs.length := by simp [encN]
theorem encN_at {xs : List Int} {k : Nat} (h : k < xs.length) : (encN xs)[k]? = some (.int .i64 xs[k]) := by simp [encN, List.getElem?_eq_getElem h]
theorem sizeOfI (w : World) : (Go.sizeOf 26).run Tryz.prog w = .ok 1 w := by kernel_rfl

/-- A list of objects in memory. -/
def IdRow (w : World) (v : Value) (L : List Int) : Prop := w.ownsRow 0 26 1 v L.length (encN L)
theorem IdRow.shape {w : World} {v : Value} {L : List Int} (h : IdRow w v L) : ∃ a c, v = .slice a L.length c := by
  rcases h.2 with ⟨rfl, h0⟩ | ⟨g, c, cur, rfl, _⟩
  · exact ⟨none, 0, by rw [h0]⟩
  · exact ⟨_, c, rfl⟩
theorem IdRow.at_ {w : World} {a : Option Addr} {n c : Nat} {L : List Int} (h : IdRow w (.slice a n c) L) {k : Nat} (hk : k < L.length) : ∃ g, a = some ⟨g, 0, none⟩ ∧ g < w.heap.size ∧ w.cell? ⟨g, k, none⟩ = some (.int .i64 L[k]) := by
  obtain ⟨g, cap, hv⟩ := slice_of_owns h (by omega)
  have ha := (Value.slice.inj hv).1
  subst ha
  refine ⟨g, rfl, ownsRow_lt h rfl, ?_⟩
  have := World.ownsRow.cells h (g := g) rfl k _ (encN_at hk)
  have e : (⟨g, 0, none⟩ : Addr).add k = ⟨g, k, none⟩ := by
    cases k with
    | zero => rfl
    | succ k => simp [Addr.add]
  rw [e] at this
  exact this

theorem cloneI_all {w : World} {v : Value} {got : List Int} (hrow : IdRow w v got) (hl : got.length ≤ 1099511627776) :
    Calls Tryz.prog 101 #[v] w fun e w' => ∃ v', e = .returned v' ∧ w'.ownsRow w.heap.size 26 1 v' got.length (encN got) ∧ Below w.heap.size w w' := by
  rcases hrow.2 with ⟨rfl, h0⟩ | ⟨g, c, cur, rfl, _⟩
  · refine (AnyE.slices_Clone_nil Tryz.cloneI 0 0 w).mono ?_
    rintro e w' ⟨rfl, rfl⟩
    obtain rfl : got = [] := List.length_eq_zero_iff.1 h0
    exact ⟨_, rfl, World.ownsRow_nil _ _ _ _, Below.refl _ _⟩
  · obtain ⟨i0, hi, hz0, hz1, hz2⟩ := info_parts infoID
    refine (AnyE.slices_Clone Tryz.cloneI i0 _ 1 8 hi hz0 hz1 hz2 rfl (by decide) sizeOfI g 0 got.length c (encN got) w (by simp [encN]) (by unfold maxLen; omega) (by omega) (fun j u hu => by rw [Nat.zero_add]; exact (World.ownsRow.cellAt hrow j (by have := (List.getElem?_eq_some_iff.1 hu).1; simpa [encN] using this)).trans hu) ?_).mono ?_
    · intro u hu
      obtain ⟨x, _, rfl⟩ := List.mem_map.1 hu
      rfl
    · rintro e w' ⟨v', rfl, hr, hne, hb⟩
      exact ⟨_, rfl, hr, hb⟩

set_option maxRecDepth 100000 in
set_option maxHeartbeats 400000 in
theorem pfetched_all (p : Nat) (v : Value) (R : Value → World → Prop) (w : World) (c3 : w.cell? ⟨p, 3, none⟩ = some v)
    (hc : Calls Tryz.prog 101 #[v] w fun e w' => ∃ v', e = .returned v' ∧ R v' w') :
    Calls Tryz.prog 55 #[.pointer (some ⟨p, 0, none⟩)] w fun e w' => ∃ v', e = .returned v' ∧ R v' w' := by
  have HC : Hid _ := hc
  clear hc
  go_enter Tryz.func55, Tryz.ntmps55
  go_wp2_with fail
  refine Calls.mono HC.out ?_
  rintro e w' ⟨v', rfl, hR⟩
  go_wp2
  go_ret
  exact ⟨v', rfl, hR⟩
set_option maxRecDepth 100000 in
set_option maxHeartbeats 400000 in
theorem sfetched_all (s p : Nat) (R : Value → World → Prop) (w : World) (c0 : w.cell? ⟨s, 0, none⟩ = some (.pointer (some ⟨p, 0, none⟩)))
    (hc : Calls Tryz.prog 55 #[.pointer (some ⟨p, 0, none⟩)] w fun e w' => ∃ v', e = .returned v' ∧ R v' w') :
    Calls Tryz.prog 29 #[.pointer (some ⟨s, 0, none⟩)] w fun e w' => ∃ v', e = .returned v' ∧ R v' w' := by
  have HC : Hid _ := hc
  clear hc
  go_enter Tryz.func29, Tryz.ntmps29
  go_wp2_with fail
  refine Calls.mono HC.out ?_
  rintro e w' ⟨v', rfl, hR⟩
  go_wp2
  go_ret
  exact ⟨v', rfl, hR⟩

/-- Fetched. -/
theorem fetched_all {tg : Tags} {w : World} {s p : Nat} {objs : List Ob} {got : List Int} {brk : Bool} {lim : Nat} (h : SInv tg w s p objs got brk lim) (hl : lim ≤ 1099511627776) :
    Calls Tryz.prog 29 #[.pointer (some ⟨s, 0, none⟩)] w fun e w' => ∃ v', e = .returned v' ∧ w'.ownsRow w.heap.size 26 1 v' got.length (encN got) ∧ Below w.heap.size w w' := by
  obtain ⟨hfr, ft, hb, ⟨a, cap, bf, bd, Df, Dd, hI⟩, hg, hs, hgl⟩ := h
  have hat := hI.pool.at_
  have c3 : w.cell? ⟨p, 3, none⟩ = some (.slice ft.a ft.n ft.c) := by unfold PoolAt at hat; simp [World.cell?, hat]
  have hrow := hg.1
  rw [hg.2.1] at hrow c3
  exact sfetched_all s p _ w hI.c0 (pfetched_all p _ _ w c3 (cloneI_all hrow (by omega)))

/-- has. -/
def hasB (L : List Int) (k : Nat) (x : Int) : Bool := decide (x ∈ L.drop k)
set_option maxRecDepth 100000 in
set_option maxHeartbeats 1000000 in
theorem has_any (v : Value) (L : List Int) (k0 : Nat) (x : Int) (w : World) (hrow : IdRow w v L) (hL : L.length ≤ 1099511627776) (hk0 : k0 ≤ L.length) :
    Calls Tryz.prog 31 #[v, .int .i64 (k0 : Int), .int .i64 x] w fun e w' => e = .returned (.bool (hasB L k0 x)) ∧ w' = w := by
  obtain ⟨a, c, rfl⟩ := hrow.shape
  have HR : Hid _ := hrow
  clear hrow
  obtain ⟨n, hn⟩ : ∃ n, n = L.length := ⟨_, rfl⟩
  rw [← hn] at hL hk0
  have HN : Hid _ := hn
  rw [← hn]
  clear hn
  go_enter Tryz.func31, Tryz.ntmps31
  go_wp2
  go_loopw [7] (fun i wr => ∃ k : Nat, k0 ≤ k ∧ k ≤ n ∧ i = .int .i64 (k : Int) ∧ wr = w ∧ Hid (∀ j (hj : j < L.length), k0 ≤ j → j < k → L[j] ≠ x)) (fun i _ => n - (intOf i).toNat)
  case atStart => exact ⟨k0, Nat.le_refl _, hk0, rfl, rfl, fun j hj h1 h2 => by omega⟩
  case round =>
    obtain ⟨k, hk1, hk, rfl, rfl, HV⟩ := hrel
    by_cases hkl : k < n
    · have hkL : k < L.length := by rw [← HN.out]; exact hkl
      obtain ⟨g, rfl, hgl, cc⟩ := IdRow.at_ HR.out hkL
      obtain ⟨y, hy⟩ : ∃ y, y = L[k] := ⟨_, rfl⟩
      rw [← hy] at cc
      cases he : (y == x) with
      | true =>
        have HE : Hid (L[k] = x) := by show _ = _; rw [← hy]; simpa using he
        clear hy
        go_wp2
        go_ret
        refine ⟨?_, rfl⟩
        have : hasB L k0 x = true := by
          unfold hasB
          refine decide_eq_true ?_
          rw [List.mem_drop_iff_getElem]
          exact ⟨k - k0, by omega, by rw [← HE.out]; congr 1; omega⟩
        first | (rw [this]; done) | (rw [this]; rfl)
      | false =>
        have HE : Hid (L[k] ≠ x) := by show _ ≠ _; rw [← hy]; simpa using he
        clear hy
        go_wp2
        go_roundw
        case rel =>
          refine ⟨k + 1, by omega, by omega, by go_num, by trivial, fun j hj h1 h2 => ?_⟩
          by_cases e : j = k
          · subst e; exact HE.out
          · exact HV.out j hj h1 (by omega)
        case measure => simp [intOf]; omega
    · go_wp2
      go_ret
      refine ⟨?_, rfl⟩
      have hkn : k = n := by omega
      have : hasB L k0 x = false := by
        unfold hasB
        refine decide_eq_false fun h => ?_
        rw [List.mem_drop_iff_getElem] at h
        obtain ⟨j, hj, hx⟩ := h
        exact HV.out (k0 + j) (by omega) (by omega) (by rw [HN.out] at hkn; omega) (by first | exact hx | (rw [← hx]; congr 1; omega))
      first | (rw [this]; done) | (rw [this]; rfl)

end Go.Proofs.YtajopoddmfdejaaGreat
