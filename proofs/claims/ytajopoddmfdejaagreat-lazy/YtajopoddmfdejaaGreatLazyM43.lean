/-
  What is proved here: Stat of a tree, and of a workspace, at any path: as the model says. Stat of a tree, and of a workspace, at any path: as the model says. the library's slices.SortFunc over changes is, at its own numbers, that which the shelf's contracts speak of. Status of a tree that is its base: nothing is told.
-/
import Derived.Test.YtajopoddmfdejaaGreatLazyM41
import Derived.Test.YtajopoddmfdejaaGreatLazyM32
import Derived.Test.YtajopoddmfdejaaGreatLazyM40
import Derived.Shelf.Small.Bits
import Derived.Shelf.Small.Strs
import Derived.Shelf.Strconv.Itoa0
import Derived.Shelf.LaysM
import Derived.Shelf.Strconv.Clone
import Derived.Shelf.Strings.Search1
import Derived.Shelf.Strings.Search2
import Derived.Shelf.Strings.Cut
import Derived.Shelf.Strings.Shaped
import Derived.Shelf.SlGeneric
import Derived.Shelf.SlSortCmp.SmallK
import Derived.Ground.SlsfProg
import Derived.Test.YtajopoddmfdejaaGreatProg
import Derived.Deep.RegionHeld3
import Derived.Shelf.SlSortCmp.NoneTotal
namespace Go.Proofs.YtajopoddmfdejaaGreat
open Go.RowKit Go.Sort Go.Shelf
set_option linter.unusedVariables false

section
variable {s i p : Nat} {B : WB} {objs : List Ob}

set_option maxRecDepth 100000 in
set_option maxHeartbeats 1000000 in
theorem tbytes_walk (t sF : Nat) (s0 s1 s2 s3 s4 nm d : ByteArray) (id er : Int) (R : World → Prop) (w : World) (ht : t < w.heap.size) (hid : id ≠ 0) (c1 : w.cell? ⟨t, 1, none⟩ = some (.pointer (some ⟨sF, 0, none⟩)))
    (hg : ∀ W, Below w.heap.size w W → Calls Tryz.prog 157 #[.pointer (some ⟨sF, 0, none⟩), .int .i64 id] W fun e w' => e = .returned (.tuple #[.string d, .int .i64 er]) ∧ R w') :
    Calls Tryz.prog 142 #[.pointer (some ⟨t, 0, none⟩), .agg #[.string s0, .string s1, .string s2, .string s3, .string s4], .agg #[.string nm, .int .i64 1, .int .i64 id]] w fun en w' => en = .returned (.tuple #[.string d, .int .i64 er]) ∧ R w' := by
  have hb0 : Below w.heap.size w ((w.alloc (.cells #[.string s0, .string s1, .string s2, .string s3, .string s4] 104)).alloc (.cells #[.string nm, .int .i64 1, .int .i64 id] 76)).drew := below_drew (((Below.refl _ _).alloc (Nat.le_refl _) _).alloc (by simp) _)
  have hG := hg _ hb0
  have HG : Hid _ := hG
  have hid' : (id == 0) = false := by simpa using hid
  clear hg hG hb0
  go_enter Tryz.func142, Tryz.ntmps142
  go_wp2
  go_region_with (go_at_call 157; refine Calls.mono HG.out ?_; rintro e w2 ⟨rfl, hR⟩)
  all_goals
    go_wp2
    go_ret2
    exact ⟨rfl, hR⟩

set_option maxRecDepth 100000 in
set_option maxHeartbeats 1000000 in
theorem tsize_file (t : Nat) (s0 s1 s2 s3 s4 nm d : ByteArray) (id er : Int) (hd : d.size ≤ 256) (R : World → Prop) (w : World)
    (hby : Calls Tryz.prog 142 #[.pointer (some ⟨t, 0, none⟩), .agg #[.string s0, .string s1, .string s2, .string s3, .string s4], .agg #[.string nm, .int .i64 1, .int .i64 id]] ((w.alloc (.cells #[.string s0, .string s1, .string s2, .string s3, .string s4] 104)).alloc (.cells #[.string nm, .int .i64 1, .int .i64 id] 76)) fun en w' => en = .returned (.tuple #[.string d, .int .i64 er]) ∧ R w') :
    Calls Tryz.prog 100 #[.pointer (some ⟨t, 0, none⟩), .agg #[.string s0, .string s1, .string s2, .string s3, .string s4], .agg #[.string nm, .int .i64 1, .int .i64 id]] w fun en w' => en = .returned (.tuple #[.int .i64 (d.size : Int), .int .i64 er]) ∧ R w' := by
  have HBY : Hid _ := hby
  clear hby
  go_enter Tryz.func100, Tryz.ntmps100
  go_wp2_with fail
  refine Calls.mono HBY.out ?_
  rintro e w2 ⟨rfl, hR⟩
  go_wp2
  go_ret2
  exact ⟨rfl, hR⟩

set_option maxRecDepth 100000 in
set_option maxHeartbeats 1000000 in
theorem tsize_dir (t n : Nat) (s0 s1 s2 s3 s4 nm : ByteArray) (id er : Int) (R : World → Prop) (w : World)
    (hen : Calls Tryz.prog 118 #[.pointer (some ⟨t, 0, none⟩), .agg #[.string s0, .string s1, .string s2, .string s3, .string s4], .agg #[.string nm, .int .i64 2, .int .i64 id]] ((w.alloc (.cells #[.string s0, .string s1, .string s2, .string s3, .string s4] 104)).alloc (.cells #[.string nm, .int .i64 2, .int .i64 id] 76)) fun en w' => ∃ a c, en = .returned (.tuple #[.slice a n c, .int .i64 er]) ∧ R w') :
    Calls Tryz.prog 100 #[.pointer (some ⟨t, 0, none⟩), .agg #[.string s0, .string s1, .string s2, .string s3, .string s4], .agg #[.string nm, .int .i64 2, .int .i64 id]] w fun en w' => en = .returned (.tuple #[.int .i64 (n : Int), .int .i64 er]) ∧ R w' := by
  have HEN : Hid _ := hen
  clear hen
  go_enter Tryz.func100, Tryz.ntmps100
  go_wp2_with fail
  refine Calls.mono HEN.out ?_
  rintro e w2 ⟨a, c, rfl, hR⟩
  go_wp2
  go_ret2
  exact ⟨rfl, hR⟩

set_option maxRecDepth 100000 in
set_option maxHeartbeats 1000000 in
theorem tstat_two (t : Nat) (s0 s1 s2 s3 s4 a : ByteArray) (k id sz er : Int) (R : World → Prop) (R2 : World → Prop) (w : World)
    (hfind : Calls Tryz.prog 80 #[.pointer (some ⟨t, 0, none⟩), .agg #[.string s0, .string s1, .string s2, .string s3, .string s4]] ((w.alloc (.cells #[.string s0, .string s1, .string s2, .string s3, .string s4] 104)).alloc (.cells #[.int .i64 0, .int .i64 0] 60)) fun e w' => e = .returned (.tuple #[.agg #[.string a, .int .i64 k, .int .i64 id], .int .i64 0]) ∧ InfoAt w' (w.heap.size + 1) ∧ (∀ o, w'.cell? ⟨w.heap.size, o, none⟩ = ((w.alloc (.cells #[.string s0, .string s1, .string s2, .string s3, .string s4] 104)).alloc (.cells #[.int .i64 0, .int .i64 0] 60)).cell? ⟨w.heap.size, o, none⟩) ∧ R w')
    (hsize : ∀ w', R w' → InfoAt w' (w.heap.size + 1) → Calls Tryz.prog 100 #[.pointer (some ⟨t, 0, none⟩), .agg #[.string s0, .string s1, .string s2, .string s3, .string s4], .agg #[.string a, .int .i64 k, .int .i64 id]] (w'.alloc (.cells #[.string a, .int .i64 k, .int .i64 id] 76)) fun e w4 => e = .returned (.tuple #[.int .i64 sz, .int .i64 er]) ∧ InfoAt w4 (w.heap.size + 1) ∧ (∀ o, w4.cell? ⟨w'.heap.size, o, none⟩ = (w'.alloc (.cells #[.string a, .int .i64 k, .int .i64 id] 76)).cell? ⟨w'.heap.size, o, none⟩) ∧ w'.heap.size < w4.heap.size ∧ R2 w4) :
    Calls Tryz.prog 54 #[.pointer (some ⟨t, 0, none⟩), .agg #[.string s0, .string s1, .string s2, .string s3, .string s4]] w fun e w' => e = .returned (.tuple #[.agg (if er = 0 then #[.int .i64 k, .int .i64 sz] else #[.int .i64 0, .int .i64 0]), .int .i64 er]) ∧ ∃ w4, R2 w4 ∧ w4.grownBy w' (some (w.heap.size + 1)) := by
  have HF : Hid _ := hfind
  have HSZ : Hid _ := hsize
  clear hfind hsize
  go_enter Tryz.func54, Tryz.ntmps54
  go_wp2_with fail
  refine Calls.mono HF.out ?_
  rintro e w3 ⟨rfl, hblk, hkp, hR⟩
  obtain ⟨hlt, c0, c1, f0⟩ := hblk.cells
  have hz3 : w.heap.size < w3.heap.size := by omega
  have hs := HSZ.out w3 hR hblk
  have HS : Hid _ := hs
  clear hblk hR HF HSZ hs
  go_wp2_with fail
  refine Calls.mono HS.out ?_
  rintro e w4 ⟨rfl, hblk4, hkp4, hlt4, hR4⟩
  obtain ⟨hl4, d0, d1, g0⟩ := hblk4.cells
  have HR4 : Hid _ := hR4
  clear hblk4 hR4 HS
  by_cases her : er = 0
  · subst her
    go_wp2
    refine bodyPost_ret (v := .tuple #[.agg #[.int .i64 k, .int .i64 sz], .int .i64 0]) (by simp [results, Tryz.results54, go_sem, d0, d1]) rfl ?_
    exact ⟨rfl, w4, HR4.out, grown_set (grown_set (grown_refl _ _))⟩
  · have her' : (er == 0) = false := by simpa using her
    have HER : Hid _ := her
    clear her
    go_wp2
    refine bodyPost_ret (v := .tuple #[.agg #[.int .i64 0, .int .i64 0], .int .i64 er]) (by simp [results, Tryz.results54, go_sem, d0, d1]) rfl ?_
    exact ⟨rfl, w4, HR4.out, grown_set (grown_set (grown_refl _ _))⟩

set_option maxRecDepth 100000 in
set_option maxHeartbeats 1000000 in
theorem tbytes_gen {tg : Tags} {w : World} {g : WG} {lim f : Nat} {d nm : ByteArray} {fs1 : FS} {er : Int} (h : WInv tg w s i p B objs g lim) (hl : lim < 1099511627776) (hfl : FlOk objs g.fl) {q : List ByteArray} (hq : Good q) (hf : g.ft.of q = some f) {x : Int × ByteArray} (hx : g.fl f = some x) (hbz : bytesG objs g.fl g.fs f = (fs1, er, d)) :
    Calls Tryz.prog 142 #[.pointer (some ⟨B.bt, 0, none⟩), .agg (pathA q), .agg #[.string nm, .int .i64 1, .int .i64 0]] w fun en w' => en = .returned (.tuple #[.string d, .int .i64 er]) ∧ DidF s i p B objs tg w w' { g with fs := fs1 } (lim + 1) := by
  have hb0 : Below w.heap.size w ((w.alloc (.cells (pathA q) 104)).alloc (.cells #[.string nm, .int .i64 1, .int .i64 0] 76)).drew := below_drew (((Below.refl _ _).alloc (Nat.le_refl _) _).alloc (by simp) _)
  have hlk := h.wp.ownF.look1 hq hb0
  rw [hf] at hlk
  have hby := bytes_any (h.below hb0) hl hfl hx
  rw [hbz] at hby
  obtain ⟨tb, t7, t8⟩ := h.treeAt
  obtain ⟨s0, s1, s2, s3, s4, hP⟩ : ∃ s0 s1 s2 s3 s4, pathA q = #[.string s0, .string s1, .string s2, .string s3, .string s4] := ⟨_, _, _, _, _, rfl⟩
  rw [hP] at hlk hb0 hby ⊢
  simp only [Option.map_some, Option.getD_some, ptr] at hlk
  have HB : Hid _ := hb0
  have HBY : Hid _ := hby
  clear h hb0 hby
  go_enter Tryz.func142, Tryz.ntmps142
  go_wp2
  go_region_with (go_at_call 135; refine Calls.mono HBY.out ?_; rintro e w2 ⟨rfl, hD⟩)
  all_goals
    go_wp2
    go_ret2
    exact ⟨rfl, hD.via HB.out⟩

end
end Go.Proofs.YtajopoddmfdejaaGreat

namespace Go.Proofs.YtajopoddmfdejaaGreat
open Go.RowKit Go.Sort Go.Shelf
set_option linter.unusedVariables false

section
variable {s i p : Nat} {B : WB} {objs : List Ob}

/-- size, whatever is there. -/
theorem tsize_any {tg : Tags} {w : World} {g : WG} {lim : Nat} {t : LT} (h : WInv tg w s i p B objs g lim) (hl : lim + 10 < 1099511627776) (hF : Flat objs t g.ft) (hok : LTok objs 5 t) (hfl : FlOk objs g.fl) {q : List ByteArray} (hq : Good q) {c : LT} (ha : t.at objs q = some c) (nm : ByteArray) :
    Calls Tryz.prog 100 #[.pointer (some ⟨B.bt, 0, none⟩), .agg (pathA q), .agg #[.string nm, .int .i64 c.kind, .int .i64 c.id]] w fun en w' => en = .returned (.tuple #[.int .i64 (sizeG objs g.fl g.fs c).2.2, .int .i64 (sizeG objs g.fl g.fs c).2.1]) ∧ DidF s i p B objs tg w w' { g with fs := (sizeG objs g.fl g.fs c).1 } (lim + 1) := by
  have hS := h.st.sound
  obtain ⟨_, hokc, _⟩ := ok_at hS q hok ha
  have hb0 : ∀ k id : Int, Below w.heap.size w ((w.alloc (.cells (pathA q) 104)).alloc (.cells #[.string nm, .int .i64 k, .int .i64 id] 76)) := fun k id => ((Below.refl _ _).alloc (Nat.le_refl _) _).alloc (by simp) _
  have hdirs : ∀ {m : Nat} (c : LT), c.kind = 2 → LTok objs m c → t.at objs q = some c → (c.id ≠ 0 → kindOf objs c.id = 2) → sizeG objs g.fl g.fs c = ((kidsG objs g.fs c).1, (kidsG objs g.fs c).2.1, ((kidsG objs g.fs c).2.2.length : Int)) →
      Calls Tryz.prog 100 #[.pointer (some ⟨B.bt, 0, none⟩), .agg (pathA q), .agg #[.string nm, .int .i64 2, .int .i64 c.id]] w fun en w' => en = .returned (.tuple #[.int .i64 (sizeG objs g.fl g.fs c).2.2, .int .i64 (sizeG objs g.fl g.fs c).2.1]) ∧ DidF s i p B objs tg w w' { g with fs := (sizeG objs g.fl g.fs c).1 } (lim + 1) := by
    intro m c hk hok' ha' hid hG
    have hent : EntOk objs (nm, 2, c.id) := ⟨.inr rfl, hid⟩
    have hfe := flat_ents hS hF hok' ha' g.fs nm
    rw [hk] at hfe
    have hen := entries_any (h.below (hb0 2 c.id)) (by omega) hq hent
    rw [hfe] at hen
    rw [hG]
    refine tsize_dir B.bt _ _ _ _ _ _ nm c.id _ (fun w' => DidF s i p B objs tg w w' { g with fs := (kidsG objs g.fs c).1 } (lim + 1)) w (hen.mono ?_)
    rintro en w' ⟨v, he, tg', m', hW, hsl⟩
    obtain ⟨la, cc, rfl⟩ := hsl.len
    rw [List.length_map] at he
    exact ⟨la, cc, he, tg', call_moves (hb0 2 c.id) m', hW⟩
  cases c with
  | file id =>
    rw [LTok] at hokc
    have hid : id ≠ 0 := fun e => by have := (kindOf_pos (a := objs) (id := id) (by rw [hokc]; decide)).1; omega
    have hlt : B.bt < w.heap.size := (Array.getElem?_eq_some_iff.1 h.wp.tree.ht).1
    have hsf := fun W (hb : Below w.heap.size w W) => shelfF (h.below hb) (by omega) hokc
    have h1 := h.below (hb0 1 id)
    have c1 : ((w.alloc (.cells (pathA q) 104)).alloc (.cells #[.string nm, .int .i64 1, .int .i64 id] 76)).cell? ⟨B.bt, 1, none⟩ = some (.pointer (some ⟨B.sF, 0, none⟩)) := cell_at h1.wp.tree.ht 1
    have hsz : (if (g.fs.fileG id).2 = true then bytesOf objs id else ⟨#[]⟩).size ≤ 256 := by
      split
      · exact h.st.bytes_size hokc
      · decide
    have := tsize_file B.bt _ _ _ _ _ nm (if (g.fs.fileG id).2 = true then bytesOf objs id else ⟨#[]⟩) id (if (g.fs.fileG id).2 = true then 0 else 14) hsz (fun w' => DidF s i p B objs tg w w' { g with fs := (g.fs.fileG id).1 } (lim + 1)) w (tbytes_walk B.bt B.sF _ _ _ _ _ nm _ id _ _ _ (Nat.lt_of_lt_of_le hlt (hb0 1 id).size) hid c1 (fun W hb => (hsf W (below_via (hb0 1 id) hb)).mono (fun e w' ⟨h1, tg', m, hW⟩ => ⟨h1, tg', call_moves (below_via (hb0 1 id) hb) m, hW⟩)))
    have hG : sizeG objs g.fl g.fs (.file id) = if (g.fs.fileG id).2 then ((g.fs.fileG id).1, 0, ((bytesOf objs id).size : Int)) else ((g.fs.fileG id).1, 14, 0) := rfl
    rw [hG]
    cases hh : (g.fs.fileG id).2 with
    | true => rw [hh] at this; exact this
    | false => rw [hh] at this; exact this
  | held f =>
    have hof : g.ft.of q = some f := by rw [hF.of, ha]; rfl
    obtain ⟨x, hx⟩ := h.wp.held q f hof
    obtain ⟨fs1, er, d, hbz⟩ : ∃ fs1 er d, bytesG objs g.fl g.fs f = (fs1, er, d) := ⟨_, _, _, rfl⟩
    have hG : sizeG objs g.fl g.fs (.held f) = (fs1, er, (d.size : Int)) := by simp only [sizeG, hbz]
    rw [hG]
    have hds := bytes_len h hfl hbz
    exact tsize_file B.bt _ _ _ _ _ nm d 0 er hds _ w ((tbytes_gen (nm := nm) (h.below (hb0 1 0)) (by omega) hfl hq hof hx hbz).mono (fun e w' ⟨h1, h2⟩ => ⟨h1, h2.via (hb0 1 0)⟩))
  | dir id => exact hdirs (.dir id) rfl hokc ha (fun h0 => by rw [LTok] at hokc; exact hokc.1) rfl
  | own es => exact hdirs (.own es) rfl hokc ha (fun h0 => absurd rfl h0) rfl

/-- Stat of the tree. -/
theorem tstat_any {tg : Tags} {w : World} {g : WG} {lim : Nat} {t : LT} (h : WInv tg w s i p B objs g lim) (hl : lim + 100 < 1099511627776) (hF : Flat objs t g.ft) (hok : LTok objs 5 t) (hfl : FlOk objs g.fl) {r : List ByteArray} (hq : Good r.reverse) :
    Calls Tryz.prog 54 #[.pointer (some ⟨B.bt, 0, none⟩), .agg (pathA r.reverse)] w fun e w' => e = .returned (.tuple #[.agg #[.int .i64 (statR objs g.fl t g.fs r).2.2.1, .int .i64 (statR objs g.fl t g.fs r).2.2.2], .int .i64 (statR objs g.fl t g.fs r).2.1]) ∧ DidF s i p B objs tg w w' { g with fs := (statR objs g.fl t g.fs r).1 } (lim + 20) := by
  have hi := h.two
  have hS := h.st.sound
  have hb0 := stat0_below w r.reverse
  have hI0 := stat0_info w r.reverse
  have hfr : tg (w.heap.size + 1) = (0, 0) := h.st.fresh _ (by omega)
  have hfr0 : tg w.heap.size = (0, 0) := h.st.fresh _ (by omega)
  have hr5 : r.length ≤ 5 := by have := hq.len; simpa using this
  have hfind := find_all (s := s) (i := i) (p := p) (B := B) (objs := objs) r tg _ g lim (h.below hb0) (by omega) hq
  obtain ⟨q1, q2, q3⟩ := flat_find hS hF hok g.fs r
  by_cases her : (findR objs t g.fs r).2.1 = 0
  · obtain ⟨q4, hat⟩ := q3 her
    rw [q1, q2, q4, her] at hfind
    have hst : statR objs g.fl t g.fs r = (if (sizeG objs g.fl (findR objs t g.fs r).1 (findR objs t g.fs r).2.2).2.1 ≠ 0 then ((sizeG objs g.fl (findR objs t g.fs r).1 (findR objs t g.fs r).2.2).1, (sizeG objs g.fl (findR objs t g.fs r).1 (findR objs t g.fs r).2.2).2.1, 0, 0) else ((sizeG objs g.fl (findR objs t g.fs r).1 (findR objs t g.fs r).2.2).1, 0, (findR objs t g.fs r).2.2.kind, (sizeG objs g.fl (findR objs t g.fs r).1 (findR objs t g.fs r).2.2).2.2)) := by
      unfold statR
      simp only [her]
      rfl
    generalize (findR objs t g.fs r).2.2 = c at *
    generalize (findR objs t g.fs r).1 = fs1 at *
    have hw := tstat_two B.bt _ _ _ _ _ (r.headD ⟨#[]⟩) c.kind c.id (sizeG objs g.fl fs1 c).2.2 (sizeG objs g.fl fs1 c).2.1 (fun w3 => ∃ tg3, Moves (Fetches i) tg tg3 ((w.alloc (.cells (pathA r.reverse) 104)).alloc (.cells #[.int .i64 0, .int .i64 0] 60)) w3 ∧ WInv tg3 w3 s i p B objs { g with fs := fs1 } (lim + 5) ∧ tg3 (w.heap.size + 1) = (0, 0)) (fun w3 => DidF s i p B objs tg ((w.alloc (.cells (pathA r.reverse) 104)).alloc (.cells #[.int .i64 0, .int .i64 0] 60)) w3 { g with fs := (sizeG objs g.fl fs1 c).1 } (lim + 20)) w (hfind.mono ?_) ?_
    · refine hw.mono ?_
      rintro e w' ⟨he, w3, hd, hg⟩
      rw [hst]
      by_cases hz : (sizeG objs g.fl fs1 c).2.1 = 0
      · rw [if_neg (fun h => h hz)]
        rw [if_pos hz, hz] at he
        exact ⟨he, didF_end h hb0 (by simp) hd hg⟩
      · rw [if_pos hz]
        rw [if_neg hz] at he
        exact ⟨he, didF_end h hb0 (by simp) hd hg⟩
    · rintro e w' ⟨he, tg', m, hW⟩
      obtain ⟨hb1, ht1⟩ := fresh_block (not_fetch0 hi) hfr m hI0
      exact ⟨he, hb1, fun o => World.cell?_of_block (a := ⟨w.heap.size, o, none⟩) (m.block w.heap.size (by simp; omega) (by rw [hfr0]; exact not_fetch0 hi)), tg', m, hW.mono (by omega), ht1⟩
    · rintro w3 ⟨tg3, m3, hW3, ht3⟩ hI3
      have hb3 : Below w3.heap.size w3 (w3.alloc (.cells #[.string (r.headD ⟨#[]⟩), .int .i64 c.kind, .int .i64 c.id] 76)) := (Below.refl _ _).alloc (Nat.le_refl _) _
      refine (tsize_any (g := { g with fs := fs1 }) (hW3.below hb3) (by omega) hF hok hfl hq hat (r.headD ⟨#[]⟩)).mono ?_
      rintro e w4 ⟨he, tg4, m4, hW4⟩
      have hI3' : InfoAt (w3.alloc (.cells #[.string (r.headD ⟨#[]⟩), .int .i64 c.kind, .int .i64 c.id] 76)) (w.heap.size + 1) := by
        unfold InfoAt at hI3 ⊢
        rw [Below.heap_alloc _ _ _ (Array.getElem?_eq_some_iff.1 hI3).1]; exact hI3
      refine ⟨he, (fresh_block (not_fetch0 hi) ht3 m4 hI3').1, fun o => World.cell?_of_block (a := ⟨w3.heap.size, o, none⟩) (m4.block w3.heap.size (by simp) (by rw [hW3.st.fresh _ (Nat.le_refl _)]; exact not_fetch0 hi)), Nat.lt_of_lt_of_le (by simp) m4.size, tg4, m3.trans (call_moves hb3 m4), hW4.mono (by omega)⟩
  · have hst : statR objs g.fl t g.fs r = ((findR objs t g.fs r).1, (findR objs t g.fs r).2.1, 0, 0) := by
      unfold statR
      simp only [if_pos her]
    rw [hst]
    rw [q1, q2] at hfind
    have her' : ((findR objs t g.fs r).2.1 == 0) = false := by simpa using her
    have hw := tstat_err B.bt _ _ _ _ _ (findF objs g.ft g.fs r).2.2.1 (findF objs g.ft g.fs r).2.2.2.1 (findF objs g.ft g.fs r).2.2.2.2 (findR objs t g.fs r).2.1 (fun w3 => DidF s i p B objs tg ((w.alloc (.cells (pathA r.reverse) 104)).alloc (.cells #[.int .i64 0, .int .i64 0] 60)) w3 { g with fs := (findR objs t g.fs r).1 } (lim + 20)) w her' (hfind.mono ?_)
    · refine hw.mono ?_
      rintro e w' ⟨he, w3, hd, hg⟩
      exact ⟨he, didF_end h hb0 (by simp) hd hg⟩
    · rintro e w' ⟨he, tg', m, hW⟩
      obtain ⟨hb1, ht1⟩ := fresh_block (not_fetch0 hi) hfr m hI0
      exact ⟨he, hb1, tg', m, hW.mono (by omega)⟩

/-- Stat of a workspace. -/
theorem qstat {tg : Tags} {w : World} {g : WG} {lim : Nat} {t : LT} (h : QInv tg w s i p B objs g lim t) (hl : lim + 1000 < 1099511627776) {r : List ByteArray} (hL : Good r.reverse) :
    Calls Tryz.prog 28 #[.pointer (some ⟨B.wb, 0, none⟩), .string (joinB r.reverse)] w fun e w' => e = .returned (.tuple #[.agg #[.int .i64 (statR objs g.fl t g.fs r).2.2.1, .int .i64 (statR objs g.fl t g.fs r).2.2.2], .int .i64 (statR objs g.fl t g.fs r).2.1]) ∧ QTo s i p B objs tg w w' (lim + 400) (TreeTo g (statR objs g.fl t g.fs r).1 t) := by
  obtain ⟨htab, c0⟩ := ws_tab h.inv
  have hi := h.inv.two
  have hfr : tg w.heap.size = (0, 0) := h.inv.st.fresh _ (Nat.le_refl _)
  have hw := stat_ws B.wb B.bt r.reverse hL (statR objs g.fl t g.fs r).2.2.1 (statR objs g.fl t g.fs r).2.2.2 (statR objs g.fl t g.fs r).2.1 (fun w2 => ∃ tg', Moves (Fetches i) tg tg' w w2 ∧ WInv tg' w2 s i p B objs { g with fs := (statR objs g.fl t g.fs r).1 } (lim + 20) ∧ tg' w.heap.size = (0, 0)) w htab.1 c0 (fun W hb hI => (tstat_any (h.inv.below hb) (by omega) h.flat h.ok h.fl hL).mono ?_)
  · refine hw.mono ?_
    rintro e w' ⟨he, w2, ⟨tg', m, hW, ht⟩, hg⟩
    obtain ⟨tg2, m2, hW2⟩ := did_grown hi m hW ht hg
    exact ⟨he, tg2, _, t, m2.mono (fun t ht => Fetches.mine ht), ⟨hW2.mono (by omega), h.flat, h.ok, h.fl, h.op⟩, rfl, rfl, rfl, rfl⟩
  · rintro e w' ⟨he, tg', m, hW⟩
    obtain ⟨h1, h2⟩ := fresh_block (not_fetch0 hi) hfr m hI
    exact ⟨he, h1, tg', call_moves hb m, hW, h2⟩

end
end Go.Proofs.YtajopoddmfdejaaGreat

namespace Go.Proofs
open Go.Shelf
def Tryz.sortC_ren : Go.Shelf.Ren := ⟨fun | 6 => 98 | 15 => 141 | 14 => 140 | 28 => 167 | 29 => 168 | 20 => 159 | 21 => 160 | 22 => 161 | 23 => 162 | 24 => 163 | 25 => 164 | 26 => 165 | 27 => 166 | 46 => 187 | 47 => 188 | 48 => 189 | 49 => 190 | 50 => 191 | 57 => 200 | n => n, fun | 22 => 54 | 24 => 58 | 25 => 175 | 3 => 3 | 39 => 215 | 0 => 0 | 53 => 247 | 55 => 249 | 4 => 4 | 46 => 241 | 45 => 240 | 50 => 150 | 5 => 5 | 9 => 9 | 66 => 259 | 70 => 263 | 76 => 278 | 77 => 279 | n => n, fun | n => n⟩
theorem Tryz.sortC : Go.Proofs.SlLaysF0.n6 Tryz.prog Tryz.sortC_ren := {
  mixed := by kernel_rfl
  f6 := ⟨Tryz.f98.name, by decide, Tryz.func98.trans (congrArg some (by kernel_rfl))⟩
  f14 := ⟨Tryz.f140.name, by decide, Tryz.func140.trans (congrArg some (by kernel_rfl))⟩
  f15 := Tryz.func141.trans (congrArg some (by kernel_rfl))
  f20 := ⟨Tryz.f159.name, by decide, Tryz.func159.trans (congrArg some (by kernel_rfl))⟩
  f21 := ⟨Tryz.f160.name, by decide, Tryz.func160.trans (congrArg some (by kernel_rfl))⟩
  f22 := ⟨Tryz.f161.name, by decide, Tryz.func161.trans (congrArg some (by kernel_rfl))⟩
  f23 := ⟨Tryz.f162.name, by decide, Tryz.func162.trans (congrArg some (by kernel_rfl))⟩
  f24 := ⟨Tryz.f163.name, by decide, Tryz.func163.trans (congrArg some (by kernel_rfl))⟩
  f25 := ⟨Tryz.f164.name, by decide, Tryz.func164.trans (congrArg some (by kernel_rfl))⟩
  f26 := ⟨Tryz.f165.name, by decide, Tryz.func165.trans (congrArg some (by kernel_rfl))⟩
  f27 := ⟨Tryz.f166.name, by decide, Tryz.func166.trans (congrArg some (by kernel_rfl))⟩
  f28 := Tryz.func167.trans (congrArg some (by kernel_rfl))
  f29 := Tryz.func168.trans (congrArg some (by kernel_rfl))
  f46 := ⟨Tryz.f187.name, by decide, Tryz.func187.trans (congrArg some (by kernel_rfl))⟩
  f47 := Tryz.func188.trans (congrArg some (by kernel_rfl))
  f48 := Tryz.func189.trans (congrArg some (by kernel_rfl))
  f49 := ⟨Tryz.f190.name, by decide, Tryz.func190.trans (congrArg some (by kernel_rfl))⟩
  f50 := ⟨Tryz.f191.name, by decide, Tryz.func191.trans (congrArg some (by kernel_rfl))⟩
  f57 := ⟨Tryz.f200.name, by decide, Tryz.func200.trans (congrArg some (by kernel_rfl))⟩
  t0 := Tryz.underlying0
  a0 := Tryz.isAgg0
  z0 := Tryz.sizeOf0
  v0 := Tryz.zeroValue0
  t3 := Tryz.underlying3
  a3 := Tryz.isAgg3
  z3 := Tryz.sizeOf3
  v3 := Tryz.zeroValue3
  t4 := Tryz.underlying4
  a4 := Tryz.isAgg4
  z4 := Tryz.sizeOf4
  v4 := Tryz.zeroValue4
  t5 := Tryz.underlying5
  a5 := Tryz.isAgg5
  z5 := Tryz.sizeOf5
  v5 := Tryz.zeroValue5
  t9 := Tryz.underlying9
  a9 := Tryz.isAgg9
  z9 := Tryz.sizeOf9
  v9 := Tryz.zeroValue9
  t22 := Tryz.underlying54
  a22 := Tryz.isAgg54
  z22 := Tryz.sizeOf54
  v22 := Tryz.zeroValue54
  t25 := Tryz.underlying175
  a25 := Tryz.isAgg175
  z25 := Tryz.sizeOf175
  v25 := Tryz.zeroValue175
  t39 := Tryz.underlying215
  a39 := Tryz.isAgg215
  z39 := Tryz.sizeOf215
  v39 := Tryz.zeroValue215
  t45 := Tryz.underlying240
  a45 := Tryz.isAgg240
  z45 := Tryz.sizeOf240
  v45 := Tryz.zeroValue240
  t46 := Tryz.underlying241
  a46 := Tryz.isAgg241
  z46 := Tryz.sizeOf241
  v46 := Tryz.zeroValue241
  t50 := Tryz.underlying150
  a50 := Tryz.isAgg150
  z50 := Tryz.sizeOf150
  v50 := Tryz.zeroValue150
  t53 := Tryz.underlying247
  a53 := Tryz.isAgg247
  z53 := Tryz.sizeOf247
  v53 := Tryz.zeroValue247
  t55 := Tryz.underlying249
  a55 := Tryz.isAgg249
  z55 := Tryz.sizeOf249
  v55 := Tryz.zeroValue249
  t66 := Tryz.underlying259
  a66 := Tryz.isAgg259
  z66 := Tryz.sizeOf259
  v66 := Tryz.zeroValue259
  t70 := Tryz.underlying263
  a70 := Tryz.isAgg263
  z70 := Tryz.sizeOf263
  v70 := Tryz.zeroValue263
  t76 := Tryz.underlying278
  a76 := Tryz.isAgg278
  z76 := Tryz.sizeOf278
  v76 := Tryz.zeroValue278
  t77 := Tryz.underlying279
  a77 := Tryz.isAgg279
  z77 := Tryz.sizeOf279
  v77 := Tryz.zeroValue279 }
end Go.Proofs

namespace Go.Proofs.YtajopoddmfdejaaGreat
open Go.RowKit Go.Sort Go.Shelf
set_option linter.unusedVariables false

theorem heap_three (w : World) (x y z : Obj) : (((w.alloc x).alloc y).alloc z).heap[w.heap.size]? = some x ∧ (((w.alloc x).alloc y).alloc z).heap[w.heap.size + 1]? = some y ∧ (((w.alloc x).alloc y).alloc z).heap[w.heap.size + 2]? = some z := by
  refine ⟨(heap_alloc3 w x y z).1, (heap_alloc3 w x y z).2, ?_⟩
  have := heap_alloc_new ((w.alloc x).alloc y) z
  simpa using this

/-- The cells that compare reads first. -/
def CmpCells (n sv bt dr ow : Nat) (s0 s1 s2 s3 s4 nm nm2 : ByteArray) (k id k2 id2 : Int) (W : World) : Prop :=
  W.cell? ⟨sv, 0, none⟩ = some (.pointer (some ⟨bt, 0, none⟩)) ∧ W.cell? ⟨sv, 1, none⟩ = some (.pointer (some ⟨dr, 0, none⟩)) ∧ W.cell? ⟨sv, 2, none⟩ = some (.map (some ow)) ∧
  W.cell? ⟨n, 0, none⟩ = some (.string s0) ∧ W.cell? ⟨n, 1, none⟩ = some (.string s1) ∧ W.cell? ⟨n, 2, none⟩ = some (.string s2) ∧ W.cell? ⟨n, 3, none⟩ = some (.string s3) ∧ W.cell? ⟨n, 4, none⟩ = some (.string s4) ∧
  W.cell? ⟨n + 1, 0, none⟩ = some (.string nm) ∧ W.cell? ⟨n + 1, 1, none⟩ = some (.int .i64 k) ∧ W.cell? ⟨n + 1, 2, none⟩ = some (.int .i64 id) ∧
  W.cell? ⟨n + 2, 1, none⟩ = some (.int .i64 k2) ∧ W.cell? ⟨n + 2, 2, none⟩ = some (.int .i64 id2)

theorem CmpCells.keep {n sv bt dr ow : Nat} {s0 s1 s2 s3 s4 nm nm2 : ByteArray} {k id k2 id2 : Int} {W W' : World} (h : CmpCells n sv bt dr ow s0 s1 s2 s3 s4 nm nm2 k id k2 id2 W) (h0 : ∀ o, W'.cell? ⟨sv, o, none⟩ = W.cell? ⟨sv, o, none⟩) (h1 : ∀ o, W'.cell? ⟨n, o, none⟩ = W.cell? ⟨n, o, none⟩) (h2 : ∀ o, W'.cell? ⟨n + 1, o, none⟩ = W.cell? ⟨n + 1, o, none⟩) (h3 : ∀ o, W'.cell? ⟨n + 2, o, none⟩ = W.cell? ⟨n + 2, o, none⟩) : CmpCells n sv bt dr ow s0 s1 s2 s3 s4 nm nm2 k id k2 id2 W' := by
  unfold CmpCells at h ⊢
  simp only [h0, h1, h2, h3]
  exact h

set_option maxRecDepth 100000 in
set_option maxHeartbeats 4000000 in
theorem scompare_same (sv bt dr ow : Nat) (s0 s1 s2 s3 s4 nm nm2 : ByteArray) (k id idr : Int) (R : World → Prop) (w : World) (hsv : sv < w.heap.size) (v0 : w.cell? ⟨sv, 0, none⟩ = some (.pointer (some ⟨bt, 0, none⟩))) (v1 : w.cell? ⟨sv, 1, none⟩ = some (.pointer (some ⟨dr, 0, none⟩))) (v2 : w.cell? ⟨sv, 2, none⟩ = some (.map (some ow)))
    (hobj : ∀ W, Below w.heap.size w W → Calls Tryz.prog 65 #[.agg #[.pointer (some ⟨bt, 0, none⟩), .pointer (some ⟨dr, 0, none⟩), .map (some ow)], .agg #[.string s0, .string s1, .string s2, .string s3, .string s4], .agg #[.string nm, .int .i64 k, .int .i64 id]] W fun e w' => e = .returned (.int .i64 idr) ∧ R w' ∧ ∀ j o, (j = sv ∨ w.heap.size ≤ j) → j < W.heap.size → w'.cell? ⟨j, o, none⟩ = W.cell? ⟨j, o, none⟩) :
    Calls Tryz.prog 97 #[.pointer (some ⟨sv, 0, none⟩), .agg #[.string s0, .string s1, .string s2, .string s3, .string s4], .agg #[.string nm, .int .i64 k, .int .i64 id], .agg #[.string nm2, .int .i64 k, .int .i64 idr]] w fun e w' => e = .returned (.int .i64 0) ∧ R w' := by
  have hb : Below w.heap.size w (((w.alloc (.cells #[.string s0, .string s1, .string s2, .string s3, .string s4] 104)).alloc (.cells #[.string nm, .int .i64 k, .int .i64 id] 76)).alloc (.cells #[.string nm2, .int .i64 k, .int .i64 idr] 76)).drew := below_drew ((((Below.refl w.heap.size w).alloc (Nat.le_refl _) _).alloc (by simp) _).alloc (by simp; omega) _)
  obtain ⟨x0, x1, x2⟩ := heap_three w (.cells #[.string s0, .string s1, .string s2, .string s3, .string s4] 104) (.cells #[.string nm, .int .i64 k, .int .i64 id] 76) (.cells #[.string nm2, .int .i64 k, .int .i64 idr] 76)
  have hSa : CmpCells w.heap.size sv bt dr ow s0 s1 s2 s3 s4 nm nm2 k id k idr (((w.alloc (.cells #[.string s0, .string s1, .string s2, .string s3, .string s4] 104)).alloc (.cells #[.string nm, .int .i64 k, .int .i64 id] 76)).alloc (.cells #[.string nm2, .int .i64 k, .int .i64 idr] 76)).drew :=
    ⟨(hb.cell (p := ⟨sv, 0, none⟩) hsv).trans v0, (hb.cell (p := ⟨sv, 1, none⟩) hsv).trans v1, (hb.cell (p := ⟨sv, 2, none⟩) hsv).trans v2, cell_at x0 0, cell_at x0 1, cell_at x0 2, cell_at x0 3, cell_at x0 4, cell_at x1 0, cell_at x1 1, cell_at x1 2, cell_at x2 1, cell_at x2 2⟩
  have hO := hobj _ hb
  have HO : Hid _ := hO
  have hzz : (((w.alloc (.cells #[.string s0, .string s1, .string s2, .string s3, .string s4] 104)).alloc (.cells #[.string nm, .int .i64 k, .int .i64 id] 76)).alloc (.cells #[.string nm2, .int .i64 k, .int .i64 idr] 76)).drew.heap.size = w.heap.size + 3 := by simp
  have HZ : Hid _ := hzz
  clear hobj hO hb x0 x1 x2 hzz
  go_enter Tryz.func97, Tryz.ntmps97
  go_wp2
  unfold CmpCells at hSa
  go_region_held3 (fun W => W.cell? ⟨sv, 0, none⟩ = some (.pointer (some ⟨bt, 0, none⟩)) ∧ W.cell? ⟨sv, 1, none⟩ = some (.pointer (some ⟨dr, 0, none⟩)) ∧ W.cell? ⟨sv, 2, none⟩ = some (.map (some ow)) ∧ W.cell? ⟨w.heap.size, 0, none⟩ = some (.string s0) ∧ W.cell? ⟨w.heap.size, 1, none⟩ = some (.string s1) ∧ W.cell? ⟨w.heap.size, 2, none⟩ = some (.string s2) ∧ W.cell? ⟨w.heap.size, 3, none⟩ = some (.string s3) ∧ W.cell? ⟨w.heap.size, 4, none⟩ = some (.string s4) ∧ W.cell? ⟨w.heap.size + 1, 0, none⟩ = some (.string nm) ∧ W.cell? ⟨w.heap.size + 1, 1, none⟩ = some (.int .i64 k) ∧ W.cell? ⟨w.heap.size + 1, 2, none⟩ = some (.int .i64 id) ∧ W.cell? ⟨w.heap.size + 2, 1, none⟩ = some (.int .i64 k) ∧ W.cell? ⟨w.heap.size + 2, 2, none⟩ = some (.int .i64 idr))
    (first | exact hSa | exact hSc)
    (first
    | (go_at_call 65; refine Calls.mono HO.out ?_; rintro e w3 ⟨rfl, hR, hc3⟩; have hSc := CmpCells.keep (nm2 := nm2) hSa (fun o => hc3 sv o (.inl rfl) (by rw [HZ.out]; omega)) (fun o => hc3 _ o (.inr (Nat.le_refl _)) (by rw [HZ.out]; omega)) (fun o => hc3 _ o (.inr (by omega)) (by rw [HZ.out]; omega)) (fun o => hc3 _ o (.inr (by omega)) (by rw [HZ.out]; omega)); unfold CmpCells at hSc; have HR : Hid _ := hR; clear hR hc3))
  all_goals
    go_wp2
    go_ret
    exact ⟨rfl, HR.out⟩

end Go.Proofs.YtajopoddmfdejaaGreat
