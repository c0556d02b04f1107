/-
  What is proved here: List of a tree and of a workspace, walked: a new list of the names. List of the root, behind the steps: e stands in it; the root has been fetched. behind a broken fetch, e is opened, its first reading fails, and its second brings the byte. canopykeep's Asked, walked: true, whatever steps came in.
-/
import Derived.Test.YtehpnebekgahnaaGreatAskM47
namespace Go.Proofs.YtehpnebekgahnaaGreat
open Go.RowKit Go.Sort Go.Shelf
set_option linter.unusedVariables false

theorem infoStr : (Tryz.prog.info? 9).map (fun i => (i.zero, i.size, i.bytes)) = some (some (.string ByteArray.empty), 1, 16) := by kernel_rfl

/-- The names of the first k entries lie in a row. -/
structure NmsAt (w : World) (nb : Nat) (es : List Ent) (k : Nat) : Prop where
  lt : nb < w.heap.size
  any : ∀ j, j < es.length → ∃ x, w.cell? ⟨nb, j, none⟩ = some (.string x)
  free : ∀ o, w.frozen? ⟨nb, o, none⟩ = false
  nms : ∀ j (hj : j < es.length), j < k → w.cell? ⟨nb, j, none⟩ = some (.string es[j].1)

theorem make_str (n : Nat) (hn : n ≤ 16) (W : World) : ∃ cs : Array Value, (Instr.makeSlice 48 (.int .i64 (n : Int)) (.int .i64 (n : Int))).run Tryz.prog W = .ok (.slice (some ⟨W.heap.size, 0, none⟩) n n) (W.alloc (.cells cs 9)) ∧ cs.size = n ∧ ∀ j, j < n → ∃ x, cs[j]? = some (.string x) := by
  obtain ⟨i0, hi, hz0, hz1, hz2⟩ := info_parts infoStr
  refine ⟨_, run_make W 48 9 i0 _ Tryz.underlying48 hi hz0 .i64 .i64 n n (by omega) (by omega) (by rw [hz2]; omega) (by omega), ?_, ?_⟩
  · simp [madeCells, hz1]
  · intro j hj
    simp [madeCells, hz1, hj, Value.cells, Nat.mod_one]

theorem nms_new {w : World} {cs : Array Value} {es : List Ent} (hs : cs.size = es.length) (hx : ∀ j, j < es.length → ∃ x, cs[j]? = some (.string x)) : NmsAt (w.alloc (.cells cs 9)) w.heap.size es 0 := by
  have hh := heap_alloc_new w (.cells cs 9)
  refine ⟨by simp, fun j hj => ?_, fun o => by simp only [World.frozen?, hh]; simp, fun j _ hj => by omega⟩
  obtain ⟨x, hx⟩ := hx j hj
  exact ⟨x, by simp only [World.cell?, hh]; exact hx⟩
theorem nms_alloc {w : World} {nb k : Nat} {es : List Ent} (h : NmsAt w nb es k) (o : Obj) : NmsAt (w.alloc o) nb es k := by
  have hc : ∀ j, (w.alloc o).cell? ⟨nb, j, none⟩ = w.cell? ⟨nb, j, none⟩ := fun j => by unfold World.cell?; rw [Below.heap_alloc _ _ _ h.lt]
  have hf : ∀ j, (w.alloc o).frozen? ⟨nb, j, none⟩ = w.frozen? ⟨nb, j, none⟩ := fun j => by unfold World.frozen?; rw [Below.heap_alloc _ _ _ h.lt]
  exact ⟨by simp; exact Nat.lt_succ_of_lt h.lt, fun j hj => by rw [hc]; exact h.any j hj, fun o' => by rw [hf]; exact h.free o', fun j hj hk => by rw [hc]; exact h.nms j hj hk⟩
theorem nms_set {w : World} {nb k : Nat} {es : List Ent} (h : NmsAt w nb es k) (hk : k < es.length) : NmsAt (w.setCell ⟨nb, k, none⟩ (.string es[k].1)) nb es (k + 1) := by
  obtain ⟨x, hx⟩ := h.any k hk
  have hsame : (w.setCell ⟨nb, k, none⟩ (.string es[k].1)).cell? ⟨nb, k, none⟩ = some (.string es[k].1) := World.cell?_setCell_same _ _ _ hx
  have hoth : ∀ j, j ≠ k → (w.setCell ⟨nb, k, none⟩ (.string es[k].1)).cell? ⟨nb, j, none⟩ = w.cell? ⟨nb, j, none⟩ := fun j hj => World.cell?_setCell_other _ _ _ _ (fun e => hj (by injection e with _ e2 _; exact e2.symm))
  refine ⟨by simpa using h.lt, fun j hj => ?_, fun o => by rw [World.frozen?_setCell]; exact h.free o, fun j hj hk' => ?_⟩
  · by_cases e : j = k
    · subst e; exact ⟨_, hsame⟩
    · rw [hoth j e]; exact h.any j hj
  · by_cases e : j = k
    · subst e; exact hsame
    · rw [hoth j e]; exact h.nms j hj (by omega)

theorem NmsAt.below {w w' : World} {nb k : Nat} {es : List Ent} (h : NmsAt w nb es k) (hb : Below w.heap.size w w') : NmsAt w' nb es k :=
  ⟨Nat.lt_of_lt_of_le h.lt hb.size, fun j hj => by rw [(bcell hb).1 nb j h.lt]; exact h.any j hj, fun o => by rw [(bcell hb).2 nb o h.lt]; exact h.free o, fun j hj hk => by rw [(bcell hb).1 nb j h.lt]; exact h.nms j hj hk⟩

set_option maxRecDepth 100000 in
set_option maxHeartbeats 4000000 in
theorem tlist_walk (t : Nat) (s0 s1 s2 s3 s4 : ByteArray) (es : List Ent) (R : World → Prop) (w : World) (hn : es.length ≤ 16)
    (hlook : ∀ W, Below w.heap.size w W → Calls Tryz.prog 55 #[.pointer (some ⟨t, 0, none⟩), .agg #[.string s0, .string s1, .string s2, .string s3, .string s4]] W fun e w' => ∃ gb cap, e = .returned (.tuple #[.slice (some ⟨gb, 0, none⟩) es.length cap, .int .i64 0]) ∧ R w' ∧ gb < w'.heap.size ∧ ∀ j u, (flat es)[j]? = some u → w'.cell? ⟨gb, j, none⟩ = some u) :
    Calls Tryz.prog 40 #[.pointer (some ⟨t, 0, none⟩), .agg #[.string s0, .string s1, .string s2, .string s3, .string s4]] w fun e w' => ∃ w3, R w3 ∧ e = .returned (.tuple #[.slice (some ⟨w3.heap.size, 0, none⟩) es.length es.length, .int .i64 0]) ∧ Below w3.heap.size w3 w' ∧ NmsAt w' w3.heap.size es es.length := by
  have hl := hlook _ ((Below.refl w.heap.size w).alloc (Nat.le_refl _) (.cells #[.string s0, .string s1, .string s2, .string s3, .string s4] 67))
  have HL : Hid _ := hl
  clear hlook hl
  go_enter Tryz.func40, Tryz.ntmps40
  go_wp2_with fail
  refine Calls.mono HL.out ?_
  rintro e w3 ⟨gb, cap, rfl, hR, hgb, hc⟩
  obtain ⟨cs, hmk, hcs, hx⟩ := make_str es.length hn w3
  have hN0 := nms_new (w := w3) hcs hx
  have HN0 : Hid _ := hN0
  have HR : Hid _ := hR
  have HC : Hid _ := hc
  clear HL hR hc hN0 hx hcs
  go_wp2
  go_loopw [25] (fun i wr => ∃ k : Nat, k ≤ es.length ∧ i = .int .i64 (k : Int) ∧ Below w3.heap.size w3 wr ∧ Hid (NmsAt wr w3.heap.size es k)) (fun i _ => es.length - (intOf i).toNat)
  case atStart => exact ⟨0, Nat.zero_le _, rfl, (Below.refl _ _).alloc (Nat.le_refl _) _, HN0.out⟩
  case round =>
    obtain ⟨k, hk, rfl, hb, HN⟩ := hrel
    by_cases hlt : k < es.length
    · obtain ⟨d0, d1, d2⟩ := row_at HC.out hlt
      have e0 := (hb.cell (p := ⟨gb, k * 3, none⟩) hgb).trans d0
      have e1 := (hb.cell (p := ⟨gb, k * 3 + 1, none⟩) hgb).trans d1
      have e2 := (hb.cell (p := ⟨gb, k * 3 + 2, none⟩) hgb).trans d2
      have hgb' : gb < wr.heap.size := Nat.lt_of_lt_of_le hgb hb.size
      have hnl := HN.out.lt
      obtain ⟨x, hx⟩ := HN.out.any k hlt
      have hfz := HN.out.free k
      have hnew := fun o => nms_alloc (nms_set HN.out hlt) o
      have HNW : Hid _ := hnew
      clear d0 d1 d2 hnew
      go_wp2
      exact ⟨⟨k + 1, hlt, by simp, (Below.setCell hb (show w3.heap.size ≤ (⟨w3.heap.size, k, none⟩ : Addr).block from Nat.le_refl _) _).alloc (by simpa using hb.size) _, HNW.out _⟩, by simp only [intOf]; omega⟩
    · have hke : k = es.length := by omega
      subst hke
      go_wp2
      go_ret2
      exact ⟨w3, HR.out, rfl, hb, HN.out⟩

set_option maxRecDepth 100000 in
set_option maxHeartbeats 1000000 in
theorem list_ws (wb bt n : Nat) (l : List ByteArray) (hl : Good l) (R : Nat → World → Prop) (w : World) (hwb : wb < w.heap.size) (c0 : w.cell? ⟨wb, 0, none⟩ = some (.pointer (some ⟨bt, 0, none⟩)))
    (hc : ∀ W, Below w.heap.size w W → Calls Tryz.prog 40 #[.pointer (some ⟨bt, 0, none⟩), .agg (pathA l)] W fun e w' => ∃ b, e = .returned (.tuple #[.slice (some ⟨b, 0, none⟩) n n, .int .i64 0]) ∧ R b w') :
    Calls Tryz.prog 17 #[.pointer (some ⟨wb, 0, none⟩), .string (joinB l)] w fun e w' => ∃ b, e = .returned (.tuple #[.slice (some ⟨b, 0, none⟩) n n, .int .i64 0]) ∧ R b w' := by
  have hpa := fun W => parse_any l hl W
  obtain ⟨s0, s1, s2, s3, s4, hP⟩ : ∃ s0 s1 s2 s3 s4, pathA l = #[.string s0, .string s1, .string s2, .string s3, .string s4] := ⟨_, _, _, _, _, rfl⟩
  unfold pathV at hpa
  simp only [hP] at hpa hc
  have HC : Hid _ := hc
  clear hc hP hl
  generalize joinB l = tx at hpa ⊢
  go_enter Tryz.func17, Tryz.ntmps17
  go_wp2_with (go_at_call 26; refine Calls.mono (hpa _) ?_; rintro e w1 ⟨rfl, hb1⟩; have d0 := ((bcell hb1).1 wb 0 hwb).trans c0; have hw1 := Nat.lt_of_lt_of_le hwb hb1.size)
  have hcc := HC.out (w1.alloc (.cells #[.string s0, .string s1, .string s2, .string s3, .string s4] 67)).drew (below_drew (hb1.alloc hb1.size _))
  have HCC : Hid _ := hcc
  clear hcc HC
  go_region_with (go_at_call 40; refine Calls.mono HCC.out ?_; rintro e w2 ⟨b, rfl, hR⟩)
  all_goals
    go_wp2
    go_ret2
    exact ⟨b, rfl, hR⟩
end Go.Proofs.YtehpnebekgahnaaGreat

namespace Go.Proofs.YtehpnebekgahnaaGreat
open Go.RowKit Go.Sort Go.Shelf
set_option linter.unusedVariables false

/-- Whoever looks into the root now fetches nothing. -/
def RootKept (objs : List Ob) (t : LT) (fs : FS) (ks : Kids) : Prop := ∀ b, lookR objs t { fs with brk := b } [] = ({ fs with brk := b }, 0, ks)

theorem look_root {objs : List Ob} {t : LT} {fs : FS} (hR : RootOk objs t) (hb : fs.brk = false) : ∃ fs' ks, lookR objs t fs [] = (fs', 0, ks) ∧ RootKept objs t fs' ks ∧ pickK ks nameE = some (.file 1) := by
  obtain ⟨ks, h1, h2, h3⟩ := hR
  cases t with
  | file id => cases h1
  | held f => cases h1
  | own es =>
    cases h1
    exact ⟨fs, ks, rfl, fun b => rfl, h2⟩
  | dir id =>
    have hk : (entsOf objs id).map kidOf = ks := by simpa [kids] using h1
    by_cases hd : fs.kD id = true
    · have h0 : ∀ f : FS, f.kD id = true → lookR objs (.dir id) f [] = (f, 0, ks) := fun f hf => by
        show kidsG objs f (.dir id) = _
        simp [kidsG, FS.dirG, hf, hk]
      exact ⟨fs, ks, h0 fs hd, fun b => h0 _ hd, h2⟩
    · have h0 : ∀ f : FS, f.kD id = true → lookR objs (.dir id) f [] = (f, 0, ks) := fun f hf => by
        show kidsG objs f (.dir id) = _
        simp [kidsG, FS.dirG, hf, hk]
      refine ⟨{ fs with got := fs.got ++ [id], kD := fun x => decide (x = id) || fs.kD x }, ks, ?_, fun b => h0 _ (by simp), h2⟩
      show kidsG objs fs (.dir id) = _
      simp [kidsG, FS.dirG, hd, hb, hk]

section
variable {s i p : Nat} {B : WB} {objs : List Ob}

/-- What List of the root leaves. -/
def KListed (s i p : Nat) (B : WB) (objs : List Ob) (tg : Tags) (w w' : World) (lim : Nat) (t : LT) (ks : Kids) (b : Nat) : Prop :=
  ∃ tg' g', Moves (Mine i) tg tg' w w' ∧ KInv tg' w' s i p B objs g' lim t ∧ RootKept objs t g'.fs ks ∧ NmsAt w' b (ks.map entOf) ks.length

theorem klist {tg : Tags} {w : World} {g : WG} {lim : Nat} {t : LT} (h : KInv tg w s i p B objs g lim t) (hl : lim + 1000 < 1099511627776) :
    ∃ ks : Kids, pickK ks nameE = some (.file 1) ∧ ks.length ≤ 16 ∧ Calls Tryz.prog 17 #[.pointer (some ⟨B.wb, 0, none⟩), .string ⟨#[]⟩] w fun e w' => ∃ b, e = .returned (.tuple #[.slice (some ⟨b, 0, none⟩) ks.length ks.length, .int .i64 0]) ∧ KListed s i p B objs tg w w' (lim + 10) t ks b := by
  obtain ⟨hwb, c0, _⟩ := h.ws
  obtain ⟨fs', ks, hlk, hkp, hpk⟩ := look_root h.root h.brk
  have hq := q_look objs t g.fs []
  have hlook := fun W (hb : Below w.heap.size w W) => look_all (s := s) (i := i) (p := p) (B := B) (objs := objs) [] tg W g lim (h.inv.below hb) (by omega) Good.nil
  have he16 : (ks.map entOf).length ≤ 16 := by
    have := (h.inv.ents g.fs []).len
    rw [flat_look h.inv.st.sound h.flat h.ok g.fs [], hlk] at this
    exact this
  simp only [flat_look h.inv.st.sound h.flat h.ok g.fs [], hlk] at hlook
  rw [hlk] at hq
  have hne : 0 < (ks.map entOf).length := by
    cases ks with
    | nil => cases hpk
    | cons x r => simp
  have h16 : ks.length ≤ 16 := by simpa using he16
  refine ⟨ks, hpk, h16, ?_⟩
  refine (list_ws B.wb B.bt ks.length [] Good.nil (fun b w' => KListed s i p B objs tg w w' (lim + 10) t ks b) w hwb c0 (fun W hb => ?_))
  have htl := tlist_walk B.bt _ _ _ _ _ (ks.map entOf) (fun w3 => ∃ tg', Moves (Fetches i) tg tg' w w3 ∧ WInv tg' w3 s i p B objs { g with fs := fs' } (lim + 1)) W he16 (fun W' hb' => (hlook W' (below_via hb hb')).mono ?_)
  · refine htl.mono ?_
    rintro e w' ⟨w3, ⟨tg', m, hW⟩, rfl, hb3, hN⟩
    rw [List.length_map] at hN
    refine ⟨w3.heap.size, by rw [List.length_map], tg', { g with fs := fs' }, (m.mono (fun t ht => Fetches.mine ht)).trans (Moves.of_below hb3), ⟨(hW.below hb3).mono (by omega), h.flat, h.ok, h.root, h.fl, h.op, hq.2 h.brk, fun x => ?_⟩, hkp, hN⟩
    show fs'.kF x = false
    have := hq.1
    simp only at this
    rw [this]; exact h.kF x
  · rintro e w' ⟨v, rfl, tg', m, hW, hsl⟩
    obtain ⟨gb, cp, rfl, hgb, _⟩ := hsl.at_ hne
    refine ⟨gb, cp, rfl, ⟨tg', (call_moves (below_via hb hb') m), hW.mono (by simp)⟩, hgb, fun j u hu => ?_⟩
    have := owns_cells hsl.1 j u hu
    rwa [Nat.zero_add] at this
end
end Go.Proofs.YtehpnebekgahnaaGreat

namespace Go.Proofs.YtehpnebekgahnaaGreat
open Go.RowKit Go.Sort Go.Shelf
set_option linter.unusedVariables false

section
variable {s i p : Nat} {B : WB} {objs : List Ob}

theorem nameE_good : Good [nameE] := ⟨fun x hx => by rw [List.mem_singleton.1 hx]; exact nameE_valid, by simp⟩

theorem bytes_broken {fl : Nat → Option (Int × ByteArray)} {fs : FS} {f : Nat} {d : ByteArray} (hf : fl f = some (1, d)) (hk : fs.kF 1 = false) (hb : fs.brk = true) : bytesG objs fl fs f = ({ fs with brk := false }, 14, ⟨#[]⟩) := by
  simp [bytesG, hf, FS.fileG, hk, hb]
theorem bytes_fetched {fl : Nat → Option (Int × ByteArray)} {fs : FS} {f : Nat} {d : ByteArray} (hf : fl f = some (1, d)) (hk : fs.kF 1 = false) (hb : fs.brk = false) : bytesG objs fl fs f = ({ fs with got := fs.got ++ [1], kF := fun x => decide (x = 1) || fs.kF x }, 0, bytesOf objs 1) := by
  simp [bytesG, hf, FS.fileG, hk, hb]

/-- Open behind a break: e, the first number, its bytes not yet fetched. -/
def AskOpen (s i p : Nat) (B : WB) (objs : List Ob) (tg : Tags) (w w' : World) (lim : Nat) (fs : FS) : Prop :=
  ∃ tg' g' b f, Moves (Mine i) tg tg' w w' ∧ WInv tg' w' s i p B objs g' lim ∧ g'.fs = fs ∧ g'.fl f = some (1, ⟨#[]⟩) ∧ FlOk objs g'.fl ∧ g'.op = updN (fun _ => none) 0 (some (b, f, 1, 0))

theorem open_shown {tg : Tags} {w : World} {g : WG} {lim : Nat} {t : LT} {ks : Kids} (h : WInv tg w s i p B objs g lim) (hl : lim + 1000 < 1099511627776) (hF : Flat objs t g.ft) (hok : LTok objs 5 t) (hfl : FlOk objs g.fl) (hop : ∀ k, g.op k = none) (h1 : kindOf objs 1 = 1)
    (hlk : lookR objs t g.fs [] = (g.fs, 0, ks)) (hpk : pickK ks nameE = some (.file 1)) :
    Calls Tryz.prog 7 #[.pointer (some ⟨B.wb, 0, none⟩), .string nameE, .int .i64 1] w fun e w' => e = .returned (.tuple #[.int .i64 0, .int .i64 0]) ∧ AskOpen s i p B objs tg w w' (lim + 300) g.fs := by
  have htab : TabAt w B.wb (fun _ => none) := by
    obtain ⟨h1, h2⟩ := h.wp.opens.tab
    refine ⟨h1.1, fun k hk => ?_, h1.2.2⟩
    rw [h1.2.1 k hk]
    show some (Value.pointer (Option.map _ (Option.map _ (g.op k)))) = _
    rw [hop k]; rfl
  have c0 : w.cell? ⟨B.wb, 0, none⟩ = some (.pointer (some ⟨B.bt, 0, none⟩)) := h.wp.opens.tab.2
  have hoe : openE ks nameE false false = 0 := openE_file hpk rfl
  have hopn := fun W (hb : Below w.heap.size w W) => open_walk (n := nameE) (r := []) (h.below hb) (by omega) hF hok nameE_good 1 false false false (by decide) (by decide) (by decide)
  simp only [hlk] at hopn
  have hw := open_ws_ok B.wb B.bt 0 (fun _ => none) 1 [nameE] nameE_good (fun f w' => ∃ tg' g', Moves (Mine i) tg tg' w w' ∧ WInv tg' w' s i p B objs g' (lim + 300) ∧ g'.fs = g.fs ∧ g'.fl f = some (1, ⟨#[]⟩) ∧ FlOk objs g'.fl ∧ g'.op = g.op) w htab c0 (by decide) rfl (fun j hj => by omega) valid_1 (fun W hb => (hopn W hb).mono ?_) ?_
  · rw [joinB_one] at hw
    refine hw.mono ?_
    rintro e w' ⟨he, f, w1, ⟨tg1, g1, m1, hW1, hs1, hf1, hL1, ho1⟩, rfl⟩
    obtain ⟨m2, hW2⟩ := hW1.open_at (k := 0) (f := f) (fg := 1) (by decide) hf1 (by decide) (by decide)
    refine ⟨he, _, _, w1.heap.size, f, m1.trans (m2.mono (fun x hx => .inr (by rw [hx]))), hW2, hs1, hf1, hL1, ?_⟩
    show updN g1.op 0 _ = _
    rw [ho1, show g.op = fun _ => none from funext hop]
  · rintro e w' (⟨hx, _⟩ | ⟨_, hx, _⟩ | ⟨_, _, f, tg', ft', fl', t', he, m, hW, _, _, hT⟩)
    · exact absurd rfl hx
    · exact absurd hoe hx
    · refine ⟨f, he, tg', _, call_moves hb m, hW, rfl, ?_⟩
      rcases hT with ⟨hx, _⟩ | ⟨hx, _⟩ | ⟨id, hx, _, _, rfl⟩
      · rw [hpk] at hx; cases hx
      · rw [hpk] at hx; cases hx
      · rw [hpk] at hx
        cases hx
        rw [if_neg (by decide)]
        refine ⟨updN_same _ _ _, fun f' id' d' hf hid => ?_, rfl⟩
        by_cases e : f' = f
        · subst e
          have hf' : updN g.fl f' (some (1, ⟨#[]⟩)) f' = some (id', d') := hf
          rw [updN_same] at hf'; cases hf'; exact h1
        · have hf' : updN g.fl f (some (1, ⟨#[]⟩)) f' = some (id', d') := hf
          rw [updN_other e] at hf'; exact hfl f' id' d' hf' hid
  · rintro f w' ⟨tg', g', m, hW, _, _, _, ho⟩
    obtain ⟨h1, h2⟩ := hW.wp.opens.tab
    refine ⟨h1.1, fun k hk => ?_, h1.2.2⟩
    rw [h1.2.1 k hk]
    show some (Value.pointer (Option.map _ (Option.map _ (g'.op k)))) = _
    rw [ho, hop k]; rfl

theorem ask_fails {tg0 : Tags} {w0 w : World} {lim : Nat} {fs : FS} (hl : lim + 10 < 1099511627776) (h : AskOpen s i p B objs tg0 w0 w lim fs) (hk : fs.kF 1 = false) (hb : fs.brk = true) {n : Int} (hn : 1 ≤ n) :
    Calls Tryz.prog 13 #[.pointer (some ⟨B.wb, 0, none⟩), .int .i64 0, .int .i64 n] w fun e w' => e = .returned (.tuple #[.string ⟨#[]⟩, .int .i64 14]) ∧ AskOpen s i p B objs tg0 w0 w' (lim + 1) { fs with brk := false } := by
  obtain ⟨tg, g, b, f, m, hW, hs, hf, hL, hop⟩ := h
  have ho : g.op 0 = some (b, f, 1, 0) := by rw [hop]; exact updN_same _ _ _
  obtain ⟨_, c1, _⟩ := open_cell hW (by decide) ho
  refine (read_ws B.wb 0 b n ⟨#[]⟩ 14 _ w c1 (by decide) (read_fail hW (by omega) hL ho (by decide) hn (by decide) (by rw [hs]; exact bytes_broken hf hk hb) (by decide))).mono ?_
  rintro e w' ⟨he, tg', m', hW'⟩
  exact ⟨he, tg', _, b, f, m.trans (m'.mono (fun t ht => Fetches.mine ht)), hW', rfl, hf, hL, hop⟩

theorem ask_reads {tg0 : Tags} {w0 w : World} {lim : Nat} {fs : FS} (hl : lim + 10 < 1099511627776) (h : AskOpen s i p B objs tg0 w0 w lim fs) (hk : fs.kF 1 = false) (hb : fs.brk = false) (hby : bytesOf objs 1 = oneB) {n : Int} (hn : 1 ≤ n) :
    Calls Tryz.prog 13 #[.pointer (some ⟨B.wb, 0, none⟩), .int .i64 0, .int .i64 n] w fun e w' => e = .returned (.tuple #[.string oneB, .int .i64 0]) ∧ ∃ tg' brk, Moves (Mine i) tg0 tg' w0 w' ∧ SInv tg' w' s p objs (fs.got ++ [1]) brk (lim + 1) := by
  obtain ⟨tg, g, b, f, m, hW, hs, hf, hL, hop⟩ := h
  have ho : g.op 0 = some (b, f, 1, 0) := by rw [hop]; exact updN_same _ _ _
  obtain ⟨_, c1, _⟩ := open_cell hW (by decide) ho
  have hgb := bytes_fetched (objs := objs) (fl := g.fl) hf hk hb
  rw [hby, ← hs] at hgb
  have hx : oneB.extract (min (0 : Int).toNat oneB.size) (min (min (0 : Int).toNat oneB.size + (min n (256 - 0)).toNat) oneB.size) = oneB := by
    have h1 : oneB.size = 1 := rfl
    rw [h1]
    have h2 : min (min (0 : Int).toNat 1 + (min n (256 - 0)).toNat) 1 = 1 := by simp; omega
    rw [h2]
    rfl
  have hr := read_gen hW (by omega) hL ho (by decide) hn (by decide) hgb
  rw [hx] at hr
  refine (read_ws B.wb 0 b n oneB 0 _ w c1 (by decide) hr).mono ?_
  rintro e w' ⟨he, tg', m', hW'⟩
  have hst := hW'.st
  simp only [hs] at hst
  exact ⟨he, tg', _, m.trans m', hst⟩
end
end Go.Proofs.YtehpnebekgahnaaGreat

namespace Go.Proofs.YtehpnebekgahnaaGreat
open Go.RowKit Go.Sort Go.Shelf
set_option linter.unusedVariables false

/-- What was there when the law began stands as it stood. -/
def Old (W wr : World) (tg : Tags) : Prop := Below W.heap.size W wr ∧ ∀ j, j < W.heap.size → tg j = (0, 0)
theorem Old.moves {W wr wr' : World} {tg tg' : Tags} (h : Old W wr tg) (m : Moves (Mine 2) tg tg' wr wr') : Old W wr' tg' :=
  ⟨⟨m.os.trans h.1.os, m.tape.trans h.1.tape, m.output.trans h.1.output, Nat.le_trans h.1.size m.size, fun k hk => (m.block k (Nat.lt_of_lt_of_le hk h.1.size) (by rw [h.2 k hk]; rintro (h | h) <;> cases h)).trans (h.1.block k hk)⟩, fun j hj => (m.tags j (Nat.lt_of_lt_of_le hj h.1.size)).trans (h.2 j hj)⟩
theorem Old.below {W wr wr' : World} {tg : Tags} (h : Old W wr tg) (hb : Below wr.heap.size wr wr') : Old W wr' tg := h.moves (Moves.of_below hb)

def KSt (W wr : World) (s p : Nat) (B : WB) (objs : List Ob) (lim : Nat) : Prop := ∃ tg g t, Old W wr tg ∧ KInv tg wr s 2 p B objs g lim t

/-- The steps that came in. -/
structure StepsAt (W : World) (a : Option Addr) (len : Nat) : Prop where
  at_ : 0 < len → ∃ b o, a = some ⟨b, o, none⟩ ∧ b < W.heap.size ∧ ∀ j, j < len → ∃ kd x y d, i64 kd ∧ i64 x ∧ i64 y ∧ d.size ≤ maxLen ∧ W.cell? ⟨b, o + j * 4, none⟩ = some (.int .i64 kd) ∧ W.cell? ⟨b, o + j * 4 + 1, none⟩ = some (.int .i64 x) ∧ W.cell? ⟨b, o + j * 4 + 2, none⟩ = some (.int .i64 y) ∧ W.cell? ⟨b, o + j * 4 + 3, none⟩ = some (.string d)

theorem kst_do {W wr : World} {s p : Nat} {B : WB} {objs : List Ob} {lim : Nat} (h : KSt W wr s p B objs lim) (hl : lim + 1000 < 1099511627776) {kd a b : Int} {d : ByteArray} (hk : i64 kd) (ha : i64 a) (hb : i64 b) (hd : d.size ≤ maxLen) :
    Calls Tryz.prog 6 #[.pointer (some ⟨B.wb, 0, none⟩), .agg #[.int .i64 kd, .int .i64 a, .int .i64 b, .string d]] wr fun e w' => ∃ er, e = .returned (.int .i64 er) ∧ KSt W w' s p B objs (lim + 500) := by
  obtain ⟨tg, g, t, hO, hK⟩ := h
  refine (do_any hK hl kd a b d hk ha hb hd).mono ?_
  rintro e w' ⟨er, he, tg', g', t', m, hK'⟩
  exact ⟨er, he, tg', g', t', hO.moves m, hK'⟩

/-- Behind List: the list's names, the root fetched. -/
def LSt (W wr : World) (s p : Nat) (B : WB) (objs : List Ob) (ks : Kids) (b : Nat) : Prop :=
  ∃ tg g t, Old W wr tg ∧ KInv tg wr s 2 p B objs g 60000 t ∧ RootKept objs t g.fs ks ∧ NmsAt wr b (ks.map entOf) ks.length

theorem kst_list {W wr : World} {s p : Nat} {B : WB} {objs : List Ob} {lim : Nat} (h : KSt W wr s p B objs lim) (hl : lim ≤ 50000) :
    ∃ ks : Kids, pickK ks nameE = some (.file 1) ∧ ks.length ≤ 16 ∧ Calls Tryz.prog 17 #[.pointer (some ⟨B.wb, 0, none⟩), .string ⟨#[]⟩] wr fun e w' => ∃ b, e = .returned (.tuple #[.slice (some ⟨b, 0, none⟩) ks.length ks.length, .int .i64 0]) ∧ LSt W w' s p B objs ks b := by
  obtain ⟨tg, g, t, hO, hK⟩ := h
  obtain ⟨ks, h1, h2, h3⟩ := klist hK (by omega)
  refine ⟨ks, h1, h2, h3.mono ?_⟩
  rintro e w' ⟨b, he, tg', g', m, hK', hR, hN⟩
  exact ⟨b, he, tg', g', t, hO.moves m, hK'.mono (by omega), hR, hN⟩

/-- .. behind Fetched, which told m. -/
def FSt (W wr : World) (s p : Nat) (B : WB) (objs : List Ob) (ks : Kids) (m : Nat) : Prop :=
  ∃ tg g t, Old W wr tg ∧ KInv tg wr s 2 p B objs g 60000 t ∧ RootKept objs t g.fs ks ∧ g.fs.got.length = m
theorem lst_fetched {W wr : World} {s p b : Nat} {B : WB} {objs : List Ob} {ks : Kids} (h : LSt W wr s p B objs ks b) :
    ∃ m, m ≤ 60000 ∧ Calls Tryz.prog 18 #[.pointer (some ⟨s, 0, none⟩)] wr fun e w' => ∃ a c, e = .returned (.slice a m c) ∧ FSt W w' s p B objs ks m := by
  obtain ⟨tg, g, t, hO, hK, hR, _⟩ := h
  refine ⟨g.fs.got.length, ?_, (fetched_any hK.inv.st (by omega)).mono ?_⟩
  · obtain ⟨_, _, _, _, _, _, h⟩ := hK.inv.st
    exact h
  · rintro e w' ⟨a, c, he, hb⟩
    exact ⟨a, c, he, tg, g, t, hO.below hb, hK.below hb, hR, rfl⟩

/-- .. behind Break. -/
def BSt (W wr : World) (s p : Nat) (B : WB) (objs : List Ob) (ks : Kids) (m : Nat) : Prop :=
  ∃ tg g t fs, Old W wr tg ∧ WInv tg wr s 2 p B objs g 60000 ∧ Flat objs t g.ft ∧ LTok objs 5 t ∧ FlOk objs g.fl ∧ (∀ k, g.op k = none) ∧ lookR objs t g.fs [] = (g.fs, 0, ks) ∧ g.fs = fs ∧ fs.kF 1 = false ∧ fs.brk = true ∧ fs.got.length = m
theorem fst_break {W wr : World} {s p m : Nat} {B : WB} {objs : List Ob} {ks : Kids} (h : FSt W wr s p B objs ks m) {how : Int} (hh : how = 1 ∨ how = 2) :
    Calls Tryz.prog 19 #[.pointer (some ⟨s, 0, none⟩), .int .i64 how] wr fun e w' => e = .returned (.int .i64 0) ∧ BSt W w' s p B objs ks m := by
  obtain ⟨tg, g, t, hO, hK, hR, hm⟩ := h
  refine (sbreak_any hK.inv hh).mono ?_
  rintro e w' ⟨he, mv, hW⟩
  exact ⟨he, tg, _, t, { g.fs with brk := true }, hO.moves mv, hW, hK.flat, hK.ok, hK.fl, hK.op, hR true, rfl, hK.kF 1, rfl, hm⟩

/-- .. behind Open. -/
def OSt (W wr : World) (s p : Nat) (B : WB) (objs : List Ob) (m : Nat) (brk : Bool) : Prop :=
  ∃ tg w0 fs, Old W w0 tg ∧ AskOpen s 2 p B objs tg w0 wr 60400 fs ∧ fs.kF 1 = false ∧ fs.brk = brk ∧ fs.got.length = m
theorem askOpen_mono {s i p : Nat} {B : WB} {objs : List Ob} {tg : Tags} {w w' : World} {lim lim' : Nat} {fs : FS} (h : AskOpen s i p B objs tg w w' lim fs) (hl : lim ≤ lim') : AskOpen s i p B objs tg w w' lim' fs := by
  obtain ⟨tg', g', b, f, h1, h2, h3⟩ := h
  exact ⟨tg', g', b, f, h1, h2.mono hl, h3⟩
theorem bst_open {W wr : World} {s p m : Nat} {B : WB} {objs : List Ob} {ks : Kids} (h : BSt W wr s p B objs ks m) (h1 : kindOf objs 1 = 1) (hpk : pickK ks nameE = some (.file 1)) :
    Calls Tryz.prog 7 #[.pointer (some ⟨B.wb, 0, none⟩), .string nameE, .int .i64 1] wr fun e w' => e = .returned (.tuple #[.int .i64 0, .int .i64 0]) ∧ OSt W w' s p B objs m true := by
  obtain ⟨tg, g, t, fs, hO, hW, hF, hok, hfl, hop, hlk, hfs, hk, hb, hm⟩ := h
  refine (open_shown hW (by omega) hF hok hfl hop h1 hlk hpk).mono ?_
  rintro e w' ⟨he, ho⟩
  exact ⟨he, tg, wr, g.fs, hO, askOpen_mono ho (by omega), by rw [hfs]; exact hk, by rw [hfs]; exact hb, by rw [hfs]; exact hm⟩
theorem ost_fails {W wr : World} {s p m : Nat} {B : WB} {objs : List Ob} (h : OSt W wr s p B objs m true) {n : Int} (hn : 1 ≤ n) :
    Calls Tryz.prog 13 #[.pointer (some ⟨B.wb, 0, none⟩), .int .i64 0, .int .i64 n] wr fun e w' => e = .returned (.tuple #[.string ⟨#[]⟩, .int .i64 14]) ∧ ∃ tg w0 fs, Old W w0 tg ∧ AskOpen s 2 p B objs tg w0 w' 60401 fs ∧ fs.kF 1 = false ∧ fs.brk = false ∧ fs.got.length = m := by
  obtain ⟨tg, w0, fs, hO, ha, hk, hb, hm⟩ := h
  refine (ask_fails (by omega) ha hk hb hn).mono ?_
  rintro e w' ⟨he, ho⟩
  exact ⟨he, tg, w0, _, hO, ho, hk, rfl, hm⟩
theorem ost_reads {W wr : World} {s p m : Nat} {B : WB} {objs : List Ob} (h : ∃ tg w0 fs, Old W w0 tg ∧ AskOpen s 2 p B objs tg w0 wr 60401 fs ∧ fs.kF 1 = false ∧ fs.brk = false ∧ fs.got.length = m) (hby : bytesOf objs 1 = oneB) {n : Int} (hn : 1 ≤ n) :
    Calls Tryz.prog 13 #[.pointer (some ⟨B.wb, 0, none⟩), .int .i64 0, .int .i64 n] wr fun e w' => e = .returned (.tuple #[.string oneB, .int .i64 0]) ∧ ∃ tg got brk, Old W w' tg ∧ SInv tg w' s p objs got brk 60402 ∧ got.length = m + 1 := by
  obtain ⟨tg, w0, fs, hO, ha, hk, hb, hm⟩ := h
  refine (ask_reads (by omega) ha hk hb hby hn).mono ?_
  rintro e w' ⟨he, tg', brk, mv, hS⟩
  exact ⟨he, tg', _, brk, hO.moves mv, hS, by simp [hm]⟩
theorem end_fetched {W wr : World} {s p m : Nat} {objs : List Ob} (h : ∃ tg got brk, Old W wr tg ∧ SInv tg wr s p objs got brk 60402 ∧ got.length = m + 1) :
    Calls Tryz.prog 18 #[.pointer (some ⟨s, 0, none⟩)] wr fun e w' => ∃ a c, e = .returned (.slice a (m + 1) c) ∧ Below W.heap.size W w' := by
  obtain ⟨tg, got, brk, hO, hS, hl⟩ := h
  refine (fetched_any hS (by omega)).mono ?_
  rintro e w' ⟨a, c, he, hb⟩
  exact ⟨a, c, by rw [he, hl], (hO.below hb).1⟩
end Go.Proofs.YtehpnebekgahnaaGreat
