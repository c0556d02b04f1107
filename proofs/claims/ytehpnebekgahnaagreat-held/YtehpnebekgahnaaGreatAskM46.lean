/-
  What is proved here: what has a file open reads and writes it, in a workspace in memory. canopykeep's steps in a workspace, call by call: Mkdir, Remove, Rename, and a file opened for writing. canopykeep's put and do. canopykeep's plain: a store with two objects, and a workspace of the second.
-/
import Derived.Test.YtehpnebekgahnaaGreatAskM45
import Derived.Test.YtehpnebekgahnaaGreatAskM43
import Derived.Test.YtehpnebekgahnaaGreatAskM44
import Derived.Deep.RegionHeld3
namespace Go.Proofs.YtehpnebekgahnaaGreat
open Go.RowKit Go.Sort Go.Shelf
set_option linter.unusedVariables false

theorem SInv.bytes_size {tg : Tags} {w : World} {s p : Nat} {objs : List Ob} {got : List Int} {brk : Bool} {lim : Nat} (h : SInv tg w s p objs got brk lim) {id : Int} (hk : kindOf objs id = 1) : (bytesOf objs id).size ≤ 256 := by
  obtain ⟨h1, h2⟩ := kind_in (objs := objs) (id := id) (by rw [hk]; decide)
  obtain ⟨j, rfl⟩ : ∃ j : Nat, id = (j : Int) + 1 := ⟨(id - 1).toNat, by omega⟩
  have hj : j < objs.length := by omega
  obtain ⟨_, ft, _, ⟨a, cap, bf, bd, Df, Dd, i⟩, _⟩ := h
  rw [bytesOf_in hj]
  rw [kindOf_in hj] at hk
  rcases i.obs objs[j] (List.getElem_mem hj) with ⟨_, _, h3⟩ | ⟨h3, _⟩
  · exact h3
  · rw [hk] at h3; cases h3

theorem bytes_again {objs : List Ob} {fl : Nat → Option (Int × ByteArray)} {fs fs1 : FS} {f : Nat} {d : ByteArray} (h : bytesG objs fl fs f = (fs1, 0, d)) : bytesG objs fl fs1 f = (fs1, 0, d) := by
  unfold bytesG at h ⊢
  cases hf : fl f with
  | none => rw [hf] at h; simp only [Prod.mk.injEq] at h ⊢; exact ⟨trivial, trivial, h.2.2⟩
  | some x =>
    obtain ⟨id, d0⟩ := x
    rw [hf] at h
    simp only at h ⊢
    by_cases hid : id = 0
    · rw [if_pos hid] at h ⊢
      simp only [Prod.mk.injEq] at h ⊢; exact ⟨trivial, trivial, h.2.2⟩
    · rw [if_neg hid] at h ⊢
      rcases FS.fileG_cases fs id with ⟨h1, h2, h3⟩ | ⟨h1, _⟩
      · rw [if_pos h1] at h
        simp only [Prod.mk.injEq] at h
        obtain ⟨e1, _, e2⟩ := h
        rw [e1] at h3
        have hg : fs1.fileG id = (fs1, true) := by unfold FS.fileG; rw [if_pos h3]
        rw [hg, if_pos rfl, e2]
      · rw [if_neg (by rw [h1]; decide)] at h
        simp only [Prod.mk.injEq] at h
        omega

section
variable {s i p : Nat} {B : WB} {objs : List Ob}

theorem bytes_len {tg : Tags} {w : World} {g : WG} {lim : Nat} (h : WInv tg w s i p B objs g lim) (hfl : FlOk objs g.fl) {f : Nat} {fs1 : FS} {er : Int} {d : ByteArray} (hb : bytesG objs g.fl g.fs f = (fs1, er, d)) : d.size ≤ 256 := by
  unfold bytesG at hb
  cases hf : g.fl f with
  | none => rw [hf] at hb; simp only [Prod.mk.injEq] at hb; rw [← hb.2.2]; simp [ByteArray.size]
  | some x =>
    obtain ⟨id, d0⟩ := x
    rw [hf] at hb
    simp only at hb
    by_cases hid : id = 0
    · rw [if_pos hid] at hb
      simp only [Prod.mk.injEq] at hb
      rw [← hb.2.2]; exact (h.wp.files f id d0 hf).2.2
    · rw [if_neg hid] at hb
      split at hb
      · simp only [Prod.mk.injEq] at hb
        rw [← hb.2.2]; exact h.st.bytes_size (hfl f id d0 hf hid)
      · simp only [Prod.mk.injEq] at hb
        rw [← hb.2.2]; simp [ByteArray.size]

theorem opened_cells {tg : Tags} {w : World} {g : WG} {lim : Nat} (h : WInv tg w s i p B objs g lim) {k b f : Nat} {fg pl : Int} (hk : g.op k = some (b, f, fg, pl)) : b < w.heap.size ∧ w.cell? ⟨b, 0, none⟩ = some (.pointer (some ⟨f, 0, none⟩)) ∧ w.cell? ⟨b, 1, none⟩ = some (.int .i64 fg) ∧ w.cell? ⟨b, 2, none⟩ = some (.int .i64 pl) ∧ (∀ o, w.frozen? ⟨b, o, none⟩ = false) := by
  obtain ⟨_, hb, _⟩ := h.wp.opens.at_ k b f fg pl hk
  exact ⟨(Array.getElem?_eq_some_iff.1 hb).1, by simp [World.cell?, hb, ptr], by simp [World.cell?, hb], by simp [World.cell?, hb], fun o => by simp [World.frozen?, hb]⟩

theorem file_cells {tg : Tags} {w : World} {g : WG} {lim : Nat} (h : WInv tg w s i p B objs g lim) {f : Nat} {x : Int × ByteArray} (hf : g.fl f = some x) : f < w.heap.size ∧ (∃ x y z, w.cell? ⟨f, 0, none⟩ = some x ∧ w.cell? ⟨f, 1, none⟩ = some y ∧ w.cell? ⟨f, 2, none⟩ = some z) ∧ ∀ o, w.frozen? ⟨f, o, none⟩ = false := by
  obtain ⟨id, d⟩ := x
  obtain ⟨_, hb, _⟩ := h.wp.files f id d hf
  exact ⟨(Array.getElem?_eq_some_iff.1 hb).1, ⟨_, _, _, by simp [World.cell?, hb]; rfl, by simp [World.cell?, hb]; rfl, by simp [World.cell?, hb]; rfl⟩, fun o => by simp [World.frozen?, hb]⟩

theorem mine7 {i : Nat} (t : Nat × Nat) (h : t = (i, 7)) : Mine i t := .inr (by rw [h])

theorem read_fail {tg : Tags} {w : World} {g : WG} {lim : Nat} (h : WInv tg w s i p B objs g lim) (hl : lim < 1099511627776) (hfl : FlOk objs g.fl) {k b f : Nat} {fg pl n : Int} (hk : g.op k = some (b, f, fg, pl)) (hfg : (bits BinOp.and IntKind.i64 fg 1 == 0) = false) (hn : 1 ≤ n) (hp : pl < 256) {fs1 : FS} {er : Int} {d : ByteArray} (hb : bytesG objs g.fl g.fs f = (fs1, er, d)) (her : er ≠ 0) :
    Calls Tryz.prog 37 #[.pointer (some ⟨b, 0, none⟩), .int .i64 n] w fun e w' => e = .returned (.tuple #[.string ⟨#[]⟩, .int .i64 er]) ∧ DidF s i p B objs tg w w' { g with fs := fs1 } (lim + 1) := by
  obtain ⟨hbl, c0, c1, c2, _⟩ := opened_cells h hk
  obtain ⟨_, _, ⟨x, hx⟩, _, _, hp0, _⟩ := h.wp.opens.at_ k b f fg pl hk
  have hby := bytes_any h hl hfl hx
  rw [hb] at hby
  exact read_err b f fg pl n er d _ w c0 c1 c2 hfg hn hp0 hp her hby

theorem read_gen {tg : Tags} {w : World} {g : WG} {lim : Nat} (h : WInv tg w s i p B objs g lim) (hl : lim < 1099511627776) (hfl : FlOk objs g.fl) {k b f : Nat} {fg pl n : Int} (hk : g.op k = some (b, f, fg, pl)) (hfg : (bits BinOp.and IntKind.i64 fg 1 == 0) = false) (hn : 1 ≤ n) (hp : pl < 256) {fs1 : FS} {d : ByteArray} (hb : bytesG objs g.fl g.fs f = (fs1, 0, d)) :
    Calls Tryz.prog 37 #[.pointer (some ⟨b, 0, none⟩), .int .i64 n] w fun e w' => e = .returned (.tuple #[.string (d.extract (min pl.toNat d.size) (min (min pl.toNat d.size + (min n (256 - pl)).toNat) d.size)), .int .i64 0]) ∧
      ∃ tg', Moves (Mine i) tg tg' w w' ∧ WInv tg' w' s i p B objs { g with fs := fs1, op := updN g.op k (some (b, f, fg, pl + (d.extract (min pl.toNat d.size) (min (min pl.toNat d.size + (min n (256 - pl)).toNat) d.size)).size)) } (lim + 1) := by
  obtain ⟨hbl, c0, c1, c2, _⟩ := opened_cells h hk
  obtain ⟨_, _, ⟨x, hx⟩, _, _, hp0, _⟩ := h.wp.opens.at_ k b f fg pl hk
  have hds := bytes_len h hfl hb
  have hby := bytes_any h hl hfl hx
  rw [hb] at hby
  refine (read_ok b f fg pl n d _ w c0 c1 c2 hfg hn hp0 hp hds hby (fun w1 hR => ?_)).mono ?_
  · obtain ⟨tg1, m1, hW1⟩ := hR
    obtain ⟨e1, _, _, e4, e5⟩ := opened_cells hW1 hk
    exact ⟨e1, e4, e5 2⟩
  · rintro e w' ⟨he, w1, ⟨tg1, m1, hW1⟩, rfl⟩
    have hsz : ((d.extract (min pl.toNat d.size) (min (min pl.toNat d.size + (min n (256 - pl)).toNat) d.size)).size : Int) ≤ 256 - pl := by
      rw [ByteArray.size_extract]; omega
    obtain ⟨m2, hW2⟩ := hW1.place hk (pl' := pl + (d.extract (min pl.toNat d.size) (min (min pl.toNat d.size + (min n (256 - pl)).toNat) d.size)).size) (by omega) (by omega)
    exact ⟨he, tg1, (m1.mono (fun _ h => h.mine)).trans (m2.mono mine7), hW2⟩

theorem write_gen {tg : Tags} {w : World} {g : WG} {lim : Nat} (h : WInv tg w s i p B objs g lim) (hl : lim + 2 < 1099511627776) (hfl : FlOk objs g.fl) {k b f a : Nat} {fg pl : Int} {d old : ByteArray} (hk : g.op k = some (b, f, fg, pl)) (hfg : (bits BinOp.and IntKind.i64 fg 2 == 0) = false) (hd : 1 ≤ d.size) (h0 : 0 ≤ startF fg pl 0) (h1 : startF fg pl 0 + d.size ≤ 256) {fs1 : FS} (hb : bytesG objs g.fl g.fs f = (fs1, 0, old)) (ha : startF fg pl old.size = (a : Int)) (ha1 : a + d.size ≤ 256) :
    Calls Tryz.prog 36 #[.pointer (some ⟨b, 0, none⟩), .string d] w fun e w' => e = .returned (.int .i64 0) ∧
      ∃ tg', Moves (Mine i) tg tg' w w' ∧ WInv tg' w' s i p B objs { g with fs := fs1, fl := updN g.fl f (some (0, writeB old d a)), op := updN g.op k (some (b, f, fg, (a : Int) + d.size)) } (lim + 2) := by
  obtain ⟨hbl, c0, c1, c2, _⟩ := opened_cells h hk
  obtain ⟨_, _, ⟨x, hx⟩, _, _, hp0, _⟩ := h.wp.opens.at_ k b f fg pl hk
  have hds := bytes_len h hfl hb
  have hby := bytes_any h (by omega) hfl hx
  rw [hb] at hby
  have hag := bytes_again hb
  have hwl : (writeB old d a).size ≤ 256 := by
    have : (writeB old d a).size = (writeL old.data.toList d.data.toList a).length := by simp [writeB, ByteArray.size]
    rw [this, writeL_length, ← Lib.size_eq, ← Lib.size_eq]; omega
  refine (write_ok b f fg pl (a : Int) old d (fun w1 => DidF s i p B objs tg w w1 { g with fs := fs1 } (lim + 1)) (fun w2 => ∃ tg', Moves (Mine i) tg tg' w w2 ∧ WInv tg' w2 s i p B objs { g with fs := fs1, fl := updN g.fl f (some (0, writeB old d a)) } (lim + 2)) w c0 c1 c2 hfg hd h0 h1 ha (by omega) (by omega) hby (fun w1 hR => ?_) (fun w1 hR => ?_) (fun w2 hS => ?_)).mono ?_
  · obtain ⟨tg1, m1, hW1⟩ := hR
    obtain ⟨_, e2, e3, e4, _⟩ := opened_cells hW1 hk
    exact ⟨e2, e3, e4⟩
  · obtain ⟨tg1, m1, hW1⟩ := hR
    have hby2 := bytes_any hW1 (by omega) hfl hx
    have hag' : bytesG objs g.fl ({ g with fs := fs1 } : WG).fs f = (fs1, 0, old) := hag
    rw [hag'] at hby2
    refine (fwrite_walk f a old d _ w1 hd (by omega) hds hby2 (fun w2 hR2 => ?_)).mono ?_
    · obtain ⟨tg2, m2, hW2⟩ := hR2
      exact file_cells hW2 hx
    · rintro e w' ⟨he, w2, w3, ⟨tg2, m2, hW2⟩, hb3, rfl⟩
      obtain ⟨m3, hW3⟩ := (hW2.below hb3).set_file hx hwl
      exact ⟨he, tg2, ((m1.mono (fun _ h => h.mine)).trans (m2.mono (fun _ h => h.mine))).trans ((Moves.of_below hb3).trans (m3.mono mine6)), hW3⟩
  · obtain ⟨tg2, m2, hW2⟩ := hS
    obtain ⟨e1, _, _, e4, e5⟩ := opened_cells hW2 hk
    exact ⟨e1, e4, e5 2⟩
  · rintro e w' ⟨he, w2, ⟨tg2, m2, hW2⟩, rfl⟩
    obtain ⟨m3, hW3⟩ := hW2.place hk (pl' := (a : Int) + d.size) (by omega) (by omega)
    exact ⟨he, tg2, m2.trans (m3.mono mine7), hW3⟩
end
end Go.Proofs.YtehpnebekgahnaaGreat

namespace Go.Proofs.YtehpnebekgahnaaGreat
open Go.RowKit Go.Sort Go.Shelf
set_option linter.unusedVariables false

/-- A workspace between two steps. -/
structure KInv (tg : Tags) (w : World) (s i p : Nat) (B : WB) (objs : List Ob) (g : WG) (lim : Nat) (t : LT) : Prop where
  inv : WInv tg w s i p B objs g lim
  flat : Flat objs t g.ft
  ok : LTok objs 5 t
  root : RootOk objs t
  fl : FlOk objs g.fl
  op : ∀ k, g.op k = none
  brk : g.fs.brk = false
  kF : ∀ x, g.fs.kF x = false

def KLeft (s i p : Nat) (B : WB) (objs : List Ob) (tg : Tags) (w w' : World) (lim : Nat) : Prop := ∃ tg' g' t', Moves (Mine i) tg tg' w w' ∧ KInv tg' w' s i p B objs g' lim t'

section
variable {s i p : Nat} {B : WB} {objs : List Ob}

theorem KInv.ws {tg : Tags} {w : World} {g : WG} {lim : Nat} {t : LT} (h : KInv tg w s i p B objs g lim t) : B.wb < w.heap.size ∧ w.cell? ⟨B.wb, 0, none⟩ = some (.pointer (some ⟨B.bt, 0, none⟩)) ∧ TabAt w B.wb (fun _ => none) := by
  obtain ⟨h1, h2⟩ := h.inv.wp.opens.tab
  refine ⟨h1.1, h2, h1.1, fun k hk => ?_, h1.2.2⟩
  rw [h1.2.1 k hk]
  show some (Value.pointer (Option.map _ (Option.map _ (g.op k)))) = _
  rw [h.op k]; rfl
theorem KInv.mono {tg : Tags} {w : World} {g : WG} {lim lim' : Nat} {t : LT} (h : KInv tg w s i p B objs g lim t) (hl : lim ≤ lim') : KInv tg w s i p B objs g lim' t := ⟨h.inv.mono hl, h.flat, h.ok, h.root, h.fl, h.op, h.brk, h.kF⟩
theorem KInv.below {tg : Tags} {w w' : World} {g : WG} {lim : Nat} {t : LT} (h : KInv tg w s i p B objs g lim t) (hb : Below w.heap.size w w') : KInv tg w' s i p B objs g lim t := ⟨h.inv.below hb, h.flat, h.ok, h.root, h.fl, h.op, h.brk, h.kF⟩
theorem KLeft.of {tg : Tags} {w w' : World} {g : WG} {lim lim' : Nat} {t : LT} (h : KInv tg w s i p B objs g lim t) {fs' : FS} {t' : LT} (hL : Left s i p B objs tg w w' g fs' t' lim') (hr : RootOk objs t') (hq : g.fs.Q fs') : KLeft s i p B objs tg w w' lim' := by
  obtain ⟨tg', ft', m, hW, hF, hO⟩ := hL
  exact ⟨tg', _, t', m, hW, hF, hO, hr, h.fl, h.op, hq.2 h.brk, fun x => by show fs'.kF x = false; rw [hq.1]; exact h.kF x⟩
theorem left_via {tg : Tags} {w W w' : World} {g : WG} {fs' : FS} {t' : LT} {lim : Nat} (hb : Below w.heap.size w W) (h : Left s i p B objs tg W w' g fs' t' lim) : Left s i p B objs tg w w' g fs' t' lim := by
  obtain ⟨tg', ft', m, hW, hF, hO⟩ := h
  exact ⟨tg', ft', call_moves hb m, hW, hF, hO⟩

theorem kmkdir {tg : Tags} {w : World} {g : WG} {lim : Nat} {t : LT} (h : KInv tg w s i p B objs g lim t) (hl : lim + 1000 < 1099511627776) {l : List ByteArray} (hL : Letters l) :
    Calls Tryz.prog 25 #[.pointer (some ⟨B.wb, 0, none⟩), .string (joinB l)] w fun e w' => ∃ er, e = .returned (.int .i64 er) ∧ KLeft s i p B objs tg w w' (lim + 400) := by
  obtain ⟨hwb, c0, _⟩ := h.ws
  obtain ⟨n, r, rfl⟩ := hL.split
  refine (mkdir_ws B.wb B.bt _ hL.good _ _ w hwb c0 (fun W hb => (mkdir_walk (h.inv.below hb) (by omega) h.flat h.ok hL.good).mono fun e w' ⟨h1, h2⟩ => ⟨h1, left_via hb h2⟩)).mono ?_
  rintro e w' ⟨h1, h2⟩
  obtain ⟨tg', g', t', a, b⟩ := KLeft.of h h2 (root_mkdir h.inv.st.sound h.ok h.root g.fs hL.all) (q_mkdir objs t g.fs n r)
  exact ⟨_, h1, tg', g', t', a, b.mono (by omega)⟩
theorem kremove {tg : Tags} {w : World} {g : WG} {lim : Nat} {t : LT} (h : KInv tg w s i p B objs g lim t) (hl : lim + 1000 < 1099511627776) {l : List ByteArray} (hL : Letters l) :
    Calls Tryz.prog 9 #[.pointer (some ⟨B.wb, 0, none⟩), .string (joinB l)] w fun e w' => ∃ er, e = .returned (.int .i64 er) ∧ KLeft s i p B objs tg w w' (lim + 400) := by
  obtain ⟨hwb, c0, _⟩ := h.ws
  obtain ⟨n, r, rfl⟩ := hL.split
  refine (remove_ws B.wb B.bt _ hL.good _ _ w hwb c0 (fun W hb => (remove_walk (h.inv.below hb) (by omega) h.flat h.ok hL.good).mono fun e w' ⟨h1, h2⟩ => ⟨h1, left_via hb h2⟩)).mono ?_
  rintro e w' ⟨h1, h2⟩
  obtain ⟨tg', g', t', a, b⟩ := KLeft.of h h2 (root_remove h.inv.st.sound h.ok h.root g.fs hL.all) (q_remove objs t g.fs n r)
  exact ⟨_, h1, tg', g', t', a, b.mono (by omega)⟩
theorem krename {tg : Tags} {w : World} {g : WG} {lim : Nat} {t : LT} (h : KInv tg w s i p B objs g lim t) (hl : lim + 1000 < 1099511627776) {l m : List ByteArray} (hL : Letters l) (hM : Letters m) :
    Calls Tryz.prog 10 #[.pointer (some ⟨B.wb, 0, none⟩), .string (joinB l), .string (joinB m)] w fun e w' => ∃ er, e = .returned (.int .i64 er) ∧ KLeft s i p B objs tg w w' (lim + 400) := by
  obtain ⟨hwb, c0, _⟩ := h.ws
  obtain ⟨n, r, rfl⟩ := hL.split
  obtain ⟨n', r', rfl⟩ := hM.split
  refine (rename_ws B.wb B.bt _ _ hL.good hM.good _ _ w hwb c0 (fun W hb => (rename_walk (h.inv.below hb) (by omega) h.flat h.ok hL.good hM.good).mono fun e w' ⟨h1, h2⟩ => ⟨h1, left_via hb h2⟩)).mono ?_
  rintro e w' ⟨h1, h2⟩
  obtain ⟨tg', g', t', a, b⟩ := KLeft.of h h2 (root_rename h.inv.st.sound h.ok h.root g.fs hL.all hM.all) (q_rename objs t g.fs n n' r r')
  exact ⟨_, h1, tg', g', t', a, b⟩

/-- A file has been opened for writing, and nothing is in it. -/
def KOpen (s i p : Nat) (B : WB) (objs : List Ob) (tg : Tags) (w w' : World) (lim : Nat) : Prop := ∃ tg' g' t' b f, Moves (Mine i) tg tg' w w' ∧ WInv tg' w' s i p B objs g' lim ∧ Flat objs t' g'.ft ∧ LTok objs 5 t' ∧ RootOk objs t' ∧ FlOk objs g'.fl ∧ g'.op = updN (fun _ => none) 0 (some (b, f, 22, 0)) ∧ g'.fl f = some (0, ⟨#[]⟩) ∧ g'.fs.brk = false ∧ ∀ x, g'.fs.kF x = false

theorem flOk_upd {fl : Nat → Option (Int × ByteArray)} (h : FlOk objs fl) (f : Nat) (d : ByteArray) : FlOk objs (updN fl f (some (0, d))) := by
  intro f' id d' hf hid
  by_cases e : f' = f
  · subst e; rw [updN_same] at hf; cases hf; exact absurd rfl hid
  · rw [updN_other e] at hf; exact h f' id d' hf hid
theorem flOk_file {fl : Nat → Option (Int × ByteArray)} (h : FlOk objs fl) (f : Nat) {i0 : Int} (hk : kindOf objs i0 = 1) (d : ByteArray) : FlOk objs (updN fl f (some (i0, d))) := by
  intro f' id d' hf hid
  by_cases e : f' = f
  · subst e; rw [updN_same] at hf; cases hf; exact hk
  · rw [updN_other e] at hf; exact h f' id d' hf hid

theorem kopen {tg : Tags} {w : World} {g : WG} {lim : Nat} {t : LT} (h : KInv tg w s i p B objs g lim t) (hl : lim + 1000 < 1099511627776) {l : List ByteArray} (hL : Letters l) :
    Calls Tryz.prog 7 #[.pointer (some ⟨B.wb, 0, none⟩), .string (joinB l), .int .i64 22] w fun e w' => (∃ er, er ≠ 0 ∧ e = .returned (.tuple #[.int .i64 0, .int .i64 er]) ∧ KLeft s i p B objs tg w w' (lim + 400)) ∨ (e = .returned (.tuple #[.int .i64 0, .int .i64 0]) ∧ KOpen s i p B objs tg w w' (lim + 400)) := by
  have hi := h.inv.two
  obtain ⟨hwb, c0, htab⟩ := h.ws
  obtain ⟨n, r, rfl⟩ := hL.split
  have hS := h.inv.st.sound
  have hop := fun W (hb : Below w.heap.size w W) => open_walk (h.inv.below hb) (by omega) h.flat h.ok hL.good 22 false true true (by decide) (by decide) (by decide)
  have hq := q_look objs t g.fs r
  generalize lookR objs t g.fs r = a at hop hq
  obtain ⟨fs', er, ks⟩ := a
  simp only at hop hq
  have hbrk := hq.2 h.brk
  have hkF : ∀ x, fs'.kF x = false := fun x => by rw [hq.1]; exact h.kF x
  have herr : ∀ er', er' ≠ 0 → (∀ W, Below w.heap.size w W → Calls Tryz.prog 29 #[.pointer (some ⟨B.bt, 0, none⟩), .agg (pathA (r.reverse ++ [n])), .int .i64 22] W fun e w' => e = .returned (.tuple #[.pointer none, .int .i64 er']) ∧ Left s i p B objs tg w w' g fs' t (lim + 300)) →
      Calls Tryz.prog 7 #[.pointer (some ⟨B.wb, 0, none⟩), .string (joinB (r.reverse ++ [n])), .int .i64 22] w fun e w' => (∃ er, er ≠ 0 ∧ e = .returned (.tuple #[.int .i64 0, .int .i64 er]) ∧ KLeft s i p B objs tg w w' (lim + 400)) ∨ (e = .returned (.tuple #[.int .i64 0, .int .i64 0]) ∧ KOpen s i p B objs tg w w' (lim + 400)) := by
    intro er' hne hc
    refine (open_ws_err B.wb B.bt 0 _ 22 _ hL.good er' hne _ w htab c0 (by decide) rfl (fun j hj => by omega) valid_22 hc).mono ?_
    rintro e w' ⟨h1, h2⟩
    obtain ⟨tg', g', t', x, y⟩ := KLeft.of h h2 h.root hq
    exact .inl ⟨er', hne, h1, tg', g', t', x, y.mono (by omega)⟩
  by_cases her : er = 0
  · by_cases hoe : openE ks n false true = 0
    · refine (open_ws_ok B.wb B.bt 0 (fun _ => none) 22 _ hL.good (fun f w' => ∃ tg' ft' fl' t', Moves (Mine i) tg tg' w w' ∧ WInv tg' w' s i p B objs { g with fs := fs', ft := ft', fl := fl' } (lim + 300) ∧ Flat objs t' ft' ∧ LTok objs 5 t' ∧ RootOk objs t' ∧ FlOk objs fl' ∧ fl' f = some (0, ⟨#[]⟩)) w htab c0 (by decide) rfl (fun j hj => by omega) valid_22 (fun W hb => (hop W hb).mono ?_) ?_).mono ?_
      · rintro e w' (⟨hx, _⟩ | ⟨_, hx, _⟩ | ⟨_, _, f, tg', ft', fl', t', he, m, hW, hF, hO, hT⟩)
        · exact absurd her hx
        · exact absurd hoe hx
        · refine ⟨f, he, tg', ft', fl', t', call_moves hb m, hW, hF, hO, ?_⟩
          rcases hT with ⟨_, _, rfl, rfl⟩ | ⟨_, rfl, rfl⟩ | ⟨id, _, _, rfl, rfl⟩
          · exact ⟨root_put hS h.ok h.root hL.all _, flOk_upd h.fl _ _, updN_same _ _ _⟩
          · rw [if_pos rfl]; exact ⟨h.root, flOk_upd h.fl _ _, updN_same _ _ _⟩
          · rw [if_pos rfl]
            refine ⟨root_put hS h.ok h.root hL.all _, ?_, updN_same _ _ _⟩
            intro f' id' d' hf hid
            by_cases e : f' = f
            · subst e; rw [updN_same] at hf; cases hf; exact absurd rfl hid
            · rw [updN_other e, updN_other e] at hf; exact h.fl f' id' d' hf hid
      · rintro f w' ⟨tg', ft', fl', t', m, hW, _⟩
        obtain ⟨h1, h2⟩ := hW.wp.opens.tab
        refine ⟨h1.1, fun k hk => ?_, h1.2.2⟩
        rw [h1.2.1 k hk]
        show some (Value.pointer (Option.map _ (Option.map _ (g.op k)))) = _
        rw [h.op k]; rfl
      · rintro e w' ⟨he, f, w1, ⟨tg1, ft1, fl1, t1, m1, hW1, hF1, hO1, hR1, hL1, hf1⟩, rfl⟩
        obtain ⟨m2, hW2⟩ := hW1.open_at (k := 0) (f := f) (fg := 22) (by decide) hf1 (by decide) (by decide)
        refine .inr ⟨he, _, _, t1, w1.heap.size, f, m1.trans (m2.mono (fun x hx => .inr (by rw [hx]))), hW2.mono (by omega), hF1, hO1, hR1, hL1, ?_, hf1, hbrk, hkF⟩
        show updN g.op 0 _ = _
        rw [show g.op = fun _ => none from funext h.op]
    · refine herr _ hoe (fun W hb => (hop W hb).mono ?_)
      rintro e w' (⟨hx, _⟩ | ⟨_, _, h1, h2⟩ | ⟨_, hx, _⟩)
      · exact absurd her hx
      · exact ⟨h1, left_via hb h2⟩
      · exact absurd hx hoe
  · refine herr er her (fun W hb => (hop W hb).mono ?_)
    rintro e w' (⟨_, h1, h2⟩ | ⟨hx, _⟩ | ⟨hx, _⟩)
    · exact ⟨h1, left_via hb h2⟩
    · exact absurd hx her
    · exact absurd hx her
end
end Go.Proofs.YtehpnebekgahnaaGreat

namespace Go.Proofs.YtehpnebekgahnaaGreat
open Go.RowKit Go.Sort Go.Shelf
set_option linter.unusedVariables false

section
variable {s i p : Nat} {B : WB} {objs : List Ob}

/-- What has been opened is written, and stays open. -/
def KWrote (s i p : Nat) (B : WB) (objs : List Ob) (tg : Tags) (w w' : World) (lim : Nat) : Prop := ∃ tg' g' t' b f pl, Moves (Mine i) tg tg' w w' ∧ WInv tg' w' s i p B objs g' lim ∧ Flat objs t' g'.ft ∧ LTok objs 5 t' ∧ RootOk objs t' ∧ FlOk objs g'.fl ∧ g'.op = updN (fun _ => none) 0 (some (b, f, 22, pl)) ∧ g'.fs.brk = false ∧ ∀ x, g'.fs.kF x = false

theorem open_cell {tg : Tags} {w : World} {g : WG} {lim b f k : Nat} {fg pl : Int} (h : WInv tg w s i p B objs g lim) (hk : k < 8) (ho : g.op k = some (b, f, fg, pl)) : B.wb < w.heap.size ∧ w.cell? ⟨B.wb, 1 + k, none⟩ = some (.pointer (some ⟨b, 0, none⟩)) ∧ w.frozen? ⟨B.wb, 1 + k, none⟩ = false := by
  obtain ⟨h1, _⟩ := h.wp.opens.tab
  refine ⟨h1.1, ?_, h1.2.2 _⟩
  rw [h1.2.1 k hk]
  show some (Value.pointer (Option.map _ (Option.map _ (g.op k)))) = _
  rw [ho]; rfl

theorem kwrite {tg0 : Tags} {w0 w : World} {lim : Nat} (hl : lim + 10 < 1099511627776) (h : KOpen s i p B objs tg0 w0 w lim) {d : ByteArray} (hd : d.size ≤ 256) :
    Calls Tryz.prog 12 #[.pointer (some ⟨B.wb, 0, none⟩), .int .i64 0, .string d] w fun e w' => e = .returned (.int .i64 0) ∧ KWrote s i p B objs tg0 w0 w' (lim + 2) := by
  obtain ⟨tg, g, t, b, f, m, hW, hF, hO, hR, hL, hop, hf, hb, hk⟩ := h
  have ho : g.op 0 = some (b, f, 22, 0) := by rw [hop]; exact updN_same _ _ _
  obtain ⟨_, c1, _⟩ := open_cell hW (by decide) ho
  by_cases h0 : d.size = 0
  · have hde : d = ⟨#[]⟩ := by
      apply toL_inj
      have h1 := toL_len d
      rw [h0] at h1
      exact List.length_eq_zero_iff.1 h1
    subst hde
    obtain ⟨_, _, e1, _, _⟩ := opened_cells hW ho
    refine (write_ws B.wb 0 b _ 0 _ w c1 (by decide) (write_none b 22 w e1 (by decide))).mono ?_
    rintro e w' ⟨he, rfl⟩
    exact ⟨he, tg, g, t, b, f, 0, m, hW.mono (by omega), hF, hO, hR, hL, hop, hb, hk⟩
  · have hby : bytesG objs g.fl g.fs f = (g.fs, 0, ⟨#[]⟩) := by unfold bytesG; rw [hf]; rfl
    refine (write_ws B.wb 0 b _ 0 _ w c1 (by decide) (write_gen hW (by omega) hL ho (a := 0) (by decide) (by omega) (by decide) (by show (0 : Int) + _ ≤ 256; omega) hby rfl (by omega))).mono ?_
    rintro e w' ⟨he, tg', m', hW'⟩
    refine ⟨he, tg', _, t, b, f, ((0 : Nat) : Int) + d.size, m.trans m', hW', hF, hO, hR, flOk_upd hL _ _, ?_, hb, hk⟩
    show updN g.op 0 _ = _
    rw [hop]
    funext x
    by_cases e : x = 0
    · subst e; rw [updN_same, updN_same]
    · rw [updN_other e, updN_other e, updN_other e]

theorem kclose {tg0 : Tags} {w0 w : World} {lim : Nat} (h : KWrote s i p B objs tg0 w0 w lim) :
    Calls Tryz.prog 34 #[.pointer (some ⟨B.wb, 0, none⟩), .int .i64 0] w fun e w' => e = .returned (.int .i64 0) ∧ KLeft s i p B objs tg0 w0 w' lim := by
  obtain ⟨tg, g, t, b, f, pl, m, hW, hF, hO, hR, hL, hop, hb, hk⟩ := h
  have ho : g.op 0 = some (b, f, 22, pl) := by rw [hop]; exact updN_same _ _ _
  obtain ⟨c0, c1, c2⟩ := open_cell hW (by decide) ho
  refine (close_ws B.wb 0 b w c0 c1 c2 (by decide)).mono ?_
  rintro e w' ⟨he, rfl⟩
  obtain ⟨m2, hW2⟩ := hW.close (k := 0) (by decide)
  refine ⟨he, tg, _, t, m.trans (m2.mono (fun x hx => .inr (by rw [hx]))), hW2, hF, hO, hR, hL, fun k => ?_, hb, hk⟩
  show updN g.op 0 none k = none
  rw [hop]
  by_cases e : k = 0
  · subst e; exact updN_same _ _ _
  · rw [updN_other e, updN_other e]

set_option maxRecDepth 100000 in
set_option maxHeartbeats 1000000 in
theorem kput {tg : Tags} {w : World} {g : WG} {lim : Nat} {t : LT} (h : KInv tg w s i p B objs g lim t) (hl : lim + 1000 < 1099511627776) {l : List ByteArray} (hL : Letters l) (d : ByteArray) (hd : d.size ≤ maxLen) :
    Calls Tryz.prog 11 #[.pointer (some ⟨B.wb, 0, none⟩), .string (joinB l), .string d] w fun e w' => ∃ er, e = .returned (.int .i64 er) ∧ KLeft s i p B objs tg w w' (lim + 500) := by
  have hop := kopen h hl hL
  have hsh := fun W => short_any d W hd
  have hss := short_size d
  generalize shortB d = sd at hsh hss
  have hwr := fun W (hk : KOpen s i p B objs tg w W (lim + 400)) => kwrite (by omega) hk hss
  have hcl := fun W (hk : KWrote s i p B objs tg w W (lim + 402)) => kclose hk
  have HOP : Hid _ := hop
  have HWR : Hid _ := hwr
  have HCL : Hid _ := hcl
  clear h hop hwr hcl hL hd
  generalize joinB l = tx at HOP ⊢
  go_enter Tryz.func11, Tryz.ntmps11
  go_wp2_with fail
  refine Calls.mono HOP.out ?_
  rintro e w1 (⟨er, her, rfl, hK⟩ | ⟨rfl, hK⟩)
  · have her' : (er == 0) = false := by simpa using her
    have HK : Hid _ := hK
    clear hK
    go_wp2
    go_ret
    obtain ⟨tg', g', t', a, b⟩ := HK.out
    exact ⟨er, rfl, tg', g', t', a, b.mono (by omega)⟩
  · have HK : Hid _ := hK
    clear hK
    go_wp2_with (first
      | (go_at_call 33; refine Calls.mono (hsh _) ?_; rintro e w2 ⟨rfl, rfl⟩)
      | (go_at_call 12; refine Calls.mono (HWR.out _ HK.out) ?_; rintro e w3 ⟨rfl, hK3⟩; have HK3 : Hid _ := hK3; clear hK3)
      | (go_at_call 34; refine Calls.mono (HCL.out _ HK3.out) ?_; rintro e w4 ⟨rfl, hK4⟩; have HK4 : Hid _ := hK4; clear hK4))
    go_ret
    obtain ⟨tg', g', t', a, b⟩ := HK4.out
    exact ⟨0, rfl, tg', g', t', a, b.mono (by omega)⟩

theorem step_keep {w w' : World} {b : Nat} {c0 c1 c2 c3 : Value} (h : w.cell? ⟨b, 0, none⟩ = some c0 ∧ w.cell? ⟨b, 1, none⟩ = some c1 ∧ w.cell? ⟨b, 2, none⟩ = some c2 ∧ w.cell? ⟨b, 3, none⟩ = some c3) (hk : ∀ o, w'.cell? ⟨b, o, none⟩ = w.cell? ⟨b, o, none⟩) : w'.cell? ⟨b, 0, none⟩ = some c0 ∧ w'.cell? ⟨b, 1, none⟩ = some c1 ∧ w'.cell? ⟨b, 2, none⟩ = some c2 ∧ w'.cell? ⟨b, 3, none⟩ = some c3 := by
  simp only [hk]; exact h

def i64 (x : Int) : Prop := -9223372036854775808 ≤ x ∧ x ≤ 9223372036854775807

theorem kleft_via {tg : Tags} {w W w' : World} {lim : Nat} (hb : Below w.heap.size w W) (h : KLeft s i p B objs tg W w' lim) : KLeft s i p B objs tg w w' lim := by
  obtain ⟨tg', g', t', m, hK⟩ := h
  exact ⟨tg', g', t', call_moves hb m, hK⟩
theorem KLeft.mono {tg : Tags} {w w' : World} {lim lim' : Nat} (h : KLeft s i p B objs tg w w' lim) (hl : lim ≤ lim') : KLeft s i p B objs tg w w' lim' := by
  obtain ⟨tg', g', t', m, hK⟩ := h
  exact ⟨tg', g', t', m, hK.mono hl⟩
theorem step_cells {w : World} {b : Nat} {c0 c1 c2 c3 : Value} {t : TypeId} (h : w.heap[b]? = some (.cells #[c0, c1, c2, c3] t (0, 0))) : w.cell? ⟨b, 0, none⟩ = some c0 ∧ w.cell? ⟨b, 1, none⟩ = some c1 ∧ w.cell? ⟨b, 2, none⟩ = some c2 ∧ w.cell? ⟨b, 3, none⟩ = some c3 :=
  ⟨by simp [World.cell?, h], by simp [World.cell?, h], by simp [World.cell?, h], by simp [World.cell?, h]⟩
theorem KLeft.box {tg : Tags} {w w' : World} {lim : Nat} (hi : 2 ≤ i) {W : World} (hb : Below w.heap.size w W) (ht : tg w.heap.size = (0, 0)) (hz : w.heap.size < W.heap.size) (h : KLeft s i p B objs tg W w' lim) (o : Nat) : w'.cell? ⟨w.heap.size, o, none⟩ = W.cell? ⟨w.heap.size, o, none⟩ := by
  obtain ⟨tg', g', t', m, hK⟩ := h
  exact kept_cell hi m hz ht o

set_option maxRecDepth 100000 in
set_option maxHeartbeats 2000000 in
theorem do_any {tg : Tags} {w : World} {g : WG} {lim : Nat} {t : LT} (h : KInv tg w s i p B objs g lim t) (hl : lim + 1000 < 1099511627776) (kd a b : Int) (d : ByteArray) (hk : i64 kd) (ha : i64 a) (hb : i64 b) (hd : d.size ≤ maxLen) :
    Calls Tryz.prog 6 #[.pointer (some ⟨B.wb, 0, none⟩), .agg #[.int .i64 kd, .int .i64 a, .int .i64 b, .string d]] w fun e w' => ∃ er, e = .returned (.int .i64 er) ∧ KLeft s i p B objs tg w w' (lim + 500) := by
  have hi := h.inv.two
  have hpk := fun W => kpick_any kd 6 W hk (by decide) (by decide)
  obtain ⟨hp0, hp1⟩ := pickN_range (c := kd) (n := 6) (by decide)
  generalize pickN kd 6 = pk at hpk hp0 hp1
  have hpa := fun W => path_any a W ha
  have hpb := fun W => path_any b W hb
  have hb0 : Below w.heap.size w (w.alloc (.cells #[.int .i64 kd, .int .i64 a, .int .i64 b, .string d] 30)) := (Below.refl _ _).alloc (Nat.le_refl _) _
  have hbd : Below w.heap.size w (w.alloc (.cells #[.int .i64 kd, .int .i64 a, .int .i64 b, .string d] 30)).drew := below_drew hb0
  have hput := fun l (hL : Letters l) => kput (h.below hbd) hl hL d hd
  have hmk := fun l (hL : Letters l) => kmkdir (h.below hb0) hl hL
  have hrm := fun l (hL : Letters l) => kremove (h.below hb0) hl hL
  have hrn := fun l m (hL : Letters l) (hM : Letters m) => krename (h.below hbd) hl hL hM
  have ht0 : tg w.heap.size = (0, 0) := h.inv.st.fresh _ (Nat.le_refl _)
  have hz0 : w.heap.size < (w.alloc (.cells #[.int .i64 kd, .int .i64 a, .int .i64 b, .string d] 30)).heap.size := by simp
  have hSD := step_cells (heap_alloc_new w (.cells #[.int .i64 kd, .int .i64 a, .int .i64 b, .string d] 30))
  have HSD : Hid _ := hSD
  have hSDd : (w.alloc (.cells #[.int .i64 kd, .int .i64 a, .int .i64 b, .string d] 30)).drew.cell? ⟨w.heap.size, 0, none⟩ = some (.int .i64 kd) ∧ (w.alloc (.cells #[.int .i64 kd, .int .i64 a, .int .i64 b, .string d] 30)).drew.cell? ⟨w.heap.size, 1, none⟩ = some (.int .i64 a) ∧ (w.alloc (.cells #[.int .i64 kd, .int .i64 a, .int .i64 b, .string d] 30)).drew.cell? ⟨w.heap.size, 2, none⟩ = some (.int .i64 b) ∧ (w.alloc (.cells #[.int .i64 kd, .int .i64 a, .int .i64 b, .string d] 30)).drew.cell? ⟨w.heap.size, 3, none⟩ = some (.string d) := hSD
  obtain ⟨q0, q1, q2, q3⟩ := hSD
  have HPUT : Hid _ := hput
  have HMK : Hid _ := hmk
  have HRM : Hid _ := hrm
  have HRN : Hid _ := hrn
  have HB0 : Hid _ := And.intro hb0 (And.intro hbd (And.intro ht0 hz0))
  clear h hput hmk hrm hrn hk ha hb hb0 hbd ht0 hz0
  have hcase : pk = 0 ∨ pk = 1 ∨ pk = 2 ∨ pk = 3 ∨ pk = 4 ∨ pk = 5 := by omega
  go_enter Tryz.func6, Tryz.ntmps6
  rcases hcase with rfl | rfl | rfl | rfl | rfl | rfl
  · go_wp2_with (go_at_call 8; refine Calls.mono (hpk _) ?_; rintro e w1 ⟨rfl, rfl⟩)
    go_region_held3 (fun w' => w'.cell? ⟨w.heap.size, 0, none⟩ = some (.int .i64 kd) ∧ w'.cell? ⟨w.heap.size, 1, none⟩ = some (.int .i64 a) ∧ w'.cell? ⟨w.heap.size, 2, none⟩ = some (.int .i64 b) ∧ w'.cell? ⟨w.heap.size, 3, none⟩ = some (.string d)) (first | exact hSDd | exact hS4) (first
      | (go_at_call 24; refine Calls.mono (hpa _) ?_; rintro e w2 ⟨l, hL, rfl, rfl⟩)
      | (go_at_call 11; refine Calls.mono (HPUT.out l hL) ?_; rintro e w3 ⟨er, rfl, hK⟩; have hS4 := step_keep hSDd (KLeft.box hi HB0.out.2.1 HB0.out.2.2.1 HB0.out.2.2.2 hK); have HK : Hid _ := hK; clear hK))
    go_wp2
    go_ret
    exact ⟨er, rfl, kleft_via HB0.out.2.1 HK.out⟩
  · go_wp2_with (go_at_call 8; refine Calls.mono (hpk _) ?_; rintro e w1 ⟨rfl, rfl⟩)
    go_region_held3 (fun w' => w'.cell? ⟨w.heap.size, 0, none⟩ = some (.int .i64 kd) ∧ w'.cell? ⟨w.heap.size, 1, none⟩ = some (.int .i64 a) ∧ w'.cell? ⟨w.heap.size, 2, none⟩ = some (.int .i64 b) ∧ w'.cell? ⟨w.heap.size, 3, none⟩ = some (.string d)) (first | exact hSDd | exact hS4) (first
      | (go_at_call 24; refine Calls.mono (hpa _) ?_; rintro e w2 ⟨l, hL, rfl, rfl⟩)
      | (go_at_call 11; refine Calls.mono (HPUT.out l hL) ?_; rintro e w3 ⟨er, rfl, hK⟩; have hS4 := step_keep hSDd (KLeft.box hi HB0.out.2.1 HB0.out.2.2.1 HB0.out.2.2.2 hK); have HK : Hid _ := hK; clear hK))
    go_wp2
    go_ret
    exact ⟨er, rfl, kleft_via HB0.out.2.1 HK.out⟩
  · go_wp2_with (go_at_call 8; refine Calls.mono (hpk _) ?_; rintro e w1 ⟨rfl, rfl⟩)
    go_region_held3 (fun w' => w'.cell? ⟨w.heap.size, 0, none⟩ = some (.int .i64 kd) ∧ w'.cell? ⟨w.heap.size, 1, none⟩ = some (.int .i64 a) ∧ w'.cell? ⟨w.heap.size, 2, none⟩ = some (.int .i64 b) ∧ w'.cell? ⟨w.heap.size, 3, none⟩ = some (.string d)) (first | exact hSDd | exact hS4) (first
      | (go_at_call 24; refine Calls.mono (hpa _) ?_; rintro e w2 ⟨l, hL, rfl, rfl⟩)
      | (go_at_call 11; refine Calls.mono (HPUT.out l hL) ?_; rintro e w3 ⟨er, rfl, hK⟩; have hS4 := step_keep hSDd (KLeft.box hi HB0.out.2.1 HB0.out.2.2.1 HB0.out.2.2.2 hK); have HK : Hid _ := hK; clear hK))
    go_wp2
    go_ret
    exact ⟨er, rfl, kleft_via HB0.out.2.1 HK.out⟩
  · go_wp2_with (first
      | (go_at_call 8; refine Calls.mono (hpk _) ?_; rintro e w1 ⟨rfl, rfl⟩)
      | (go_at_call 24; refine Calls.mono (hpa _) ?_; rintro e w2 ⟨l, hL, rfl, rfl⟩)
      | (go_at_call 25; refine Calls.mono (HMK.out l hL) ?_; rintro e w3 ⟨er, rfl, hK⟩))
    go_ret
    exact ⟨er, rfl, (kleft_via HB0.out.1 hK).mono (by omega)⟩
  · go_wp2_with (first
      | (go_at_call 8; refine Calls.mono (hpk _) ?_; rintro e w1 ⟨rfl, rfl⟩)
      | (go_at_call 24; refine Calls.mono (hpa _) ?_; rintro e w2 ⟨l, hL, rfl, rfl⟩)
      | (go_at_call 9; refine Calls.mono (HRM.out l hL) ?_; rintro e w3 ⟨er, rfl, hK⟩))
    go_ret
    exact ⟨er, rfl, (kleft_via HB0.out.1 hK).mono (by omega)⟩
  · go_wp2_with (go_at_call 8; refine Calls.mono (hpk _) ?_; rintro e w1 ⟨rfl, rfl⟩)
    go_region_held3 (fun w' => w'.cell? ⟨w.heap.size, 0, none⟩ = some (.int .i64 kd) ∧ w'.cell? ⟨w.heap.size, 1, none⟩ = some (.int .i64 a) ∧ w'.cell? ⟨w.heap.size, 2, none⟩ = some (.int .i64 b) ∧ w'.cell? ⟨w.heap.size, 3, none⟩ = some (.string d)) (first | exact hSDd | exact hS4) (first
      | (go_at_call_of 24 (Value.int .i64 a); refine Calls.mono (hpa _) ?_; rintro e w2 ⟨l, hL, rfl, rfl⟩)
      | (go_at_call_of 24 (Value.int .i64 b); refine Calls.mono (hpb _) ?_; rintro e w2 ⟨m, hM, rfl, rfl⟩)
      | (go_at_call 10; refine Calls.mono (HRN.out l m hL hM) ?_; rintro e w3 ⟨er, rfl, hK⟩; have hS4 := step_keep hSDd (KLeft.box hi HB0.out.2.1 HB0.out.2.2.1 HB0.out.2.2.2 hK); have HK : Hid _ := hK; clear hK))
    go_wp2
    go_ret
    exact ⟨er, rfl, (kleft_via HB0.out.2.1 HK.out).mono (by omega)⟩
end
end Go.Proofs.YtehpnebekgahnaaGreat

namespace Go.Proofs.YtehpnebekgahnaaGreat
open Go.RowKit Go.Sort Go.Shelf
set_option linter.unusedVariables false

def oneB : ByteArray := ⟨#[49]⟩
/-- The store's objects: the file of one byte, and the directory in which it is e. -/
def TwoObs (objs : List Ob) : Prop := ∃ o : Ob, o.kind = 2 ∧ o.ents = [(nameE, 1, 1)] ∧ o.high = 1 ∧ objs = [fileOb oneB, o]

theorem two_kind {objs : List Ob} (h : TwoObs objs) (id : Int) : kindOf objs id = if id = 1 then 1 else if id = 2 then 2 else 0 := by
  obtain ⟨o, h1, h2, h3, rfl⟩ := h
  by_cases e1 : id = 1
  · subst e1; rfl
  · rw [if_neg e1]
    by_cases e2 : id = 2
    · subst e2; show o.kind = 2; exact h1
    · rw [if_neg e2]
      exact kindOf_out (by simp; omega)
theorem two_high {objs : List Ob} (h : TwoObs objs) (id : Int) : 0 ≤ highOf objs id ∧ highOf objs id ≤ 1 ∧ (id = 2 → highOf objs id = 1) ∧ (id = 1 → highOf objs id = 0) := by
  obtain ⟨o, h1, h2, h3, rfl⟩ := h
  unfold highOf
  have hc : (id - 1).toNat = 0 ∨ (id - 1).toNat = 1 ∨ 2 ≤ (id - 1).toNat := by omega
  rcases hc with hc | hc | hc
  · rw [hc]
    refine ⟨by show (0 : Int) ≤ 0; omega, by show (0 : Int) ≤ 1; omega, fun e => ?_, fun _ => rfl⟩
    omega
  · rw [hc]
    show 0 ≤ o.high ∧ o.high ≤ 1 ∧ (id = 2 → o.high = 1) ∧ (id = 1 → o.high = 0)
    rw [h3]
    exact ⟨by decide, by decide, fun _ => rfl, fun e => by omega⟩
  · rw [List.getElem?_eq_none (by simpa using hc)]
    refine ⟨Int.le_refl _, by decide, fun e => ?_, fun e => rfl⟩
    omega
theorem two_ents {objs : List Ob} (h : TwoObs objs) : entsOf objs 2 = [(nameE, 1, 1)] := by
  obtain ⟨o, h1, h2, h3, rfl⟩ := h
  exact h2
theorem two_bytes {objs : List Ob} (h : TwoObs objs) : bytesOf objs 1 = oneB := by
  obtain ⟨o, h1, h2, h3, rfl⟩ := h
  rfl
theorem nameE_valid : validB nameE = true := by unfold nameE validB; simp only [ByteArray.toList_eq]; decide
theorem two_sound {objs : List Ob} (h : TwoObs objs) : Sound objs := by
  refine ⟨fun id => (two_high h id).1, fun id hk => ?_⟩
  rw [two_kind h] at hk
  have e : id = 2 := by
    by_cases e1 : id = 1
    · rw [if_pos e1] at hk; cases hk
    · rw [if_neg e1] at hk
      by_cases e2 : id = 2
      · exact e2
      · rw [if_neg e2] at hk; cases hk
  subst e
  rw [two_ents h]
  refine ⟨List.pairwise_singleton _ _, by simp, fun e he => ?_⟩
  simp only [List.mem_singleton] at he
  subst he
  refine ⟨nameE_valid, .inl rfl, by rw [two_kind h]; rfl, ?_⟩
  rw [(two_high h 2).2.2.1 rfl, (two_high h 1).2.2.2 rfl]
  decide
theorem two_root {objs : List Ob} (h : TwoObs objs) : RootOk objs (.dir 2) := by
  refine ⟨_, rfl, ?_, fun x hx => ?_⟩
  · show pickK ((entsOf objs 2).map kidOf) nameE = _
    rw [two_ents h]; rfl
  · rw [two_ents h] at hx
    simp only [List.map_cons, List.map_nil, List.mem_singleton] at hx
    subst hx; exact .inr rfl
theorem two_ok {objs : List Ob} (h : TwoObs objs) : LTok objs 5 (.dir 2) := by
  rw [LTok]
  exact ⟨by rw [two_kind h]; rfl, by have := (two_high h 2).2.1; omega⟩

section
variable {s i p : Nat}
/-- A store by itself is one whose blocks are told by tags. -/
theorem store_tags {ft : PTail} {F : Nat → Prop} {w : World} {objs : List Ob} (h : InvP ft F w s p objs) (hF : ∀ k, F k → k < w.heap.size) (hft : ft = pt0) (hS : Sound objs) : ∃ tg : Tags, (∀ k, ¬ F k → tg k = (0, 0)) ∧ SInv tg w s p objs [] false 0 := by
  classical
  subst hft
  refine ⟨fun k => if F k then (1, 0) else (0, 0), fun k hk => if_neg hk, fun k hk => if_neg (fun hf => by have := hF k hf; omega), pt0, rfl, h.keep (fun k _ _ => rfl) (fun k _ hk => if_pos hk), ⟨World.ownsRow_nil _ _ _ _, rfl, fun g hg => by cases hg⟩, hS, Nat.le_refl _⟩
end
end Go.Proofs.YtehpnebekgahnaaGreat
