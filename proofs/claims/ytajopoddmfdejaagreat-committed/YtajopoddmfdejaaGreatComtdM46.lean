/-
  What is proved here: canopykeep's made, and how much there is in its tree. what is found in a list of all that stands in a tree is what is read at that path; what is renamed does not go to where it came by. canopykeep's find answers the first thing at a path. a commit of one of several workspaces: the object reads as the workspace did. what a store gives of an object (GetFile, GetDir). how many objects a store has, (Objects; GetFile and GetDir: StoreG). Mkdir, Rename, Remove, put of one of several workspaces; Objects and PutDir of nothing of their store; a commit that keeps the workspace where nothing is new.
-/
import Derived.Test.YtajopoddmfdejaaGreatComtdM40
import Derived.Test.YtajopoddmfdejaaGreatComtdM45
import Derived.Test.YtajopoddmfdejaaGreatComtdM04
namespace Go.Proofs.YtajopoddmfdejaaGreat
open Go.RowKit Go.Sort Go.Shelf
set_option linter.unusedVariables false
def Made2 (W w' : World) (s p : Nat) (id : Int) : Prop := ∃ tg objs got, Old W w' tg /\ SInv tg w' s p objs got false 60000 /\ Exact objs /\ Once objs /\ LTok objs 5 (.dir id) /\ objs.length <= 100 /\ 1 <= id /\ big objs 5 (.dir id) <= 95
theorem m_commit2 {W wr : World} {s p : Nat} {B : WB} {objs : List Ob} {N lim : Nat} (h1 : OneOb objs) (hN : N <= 95) (hl : lim <= 60000) (h : MSt W wr s p B objs N lim) :
  Calls Tryz.prog 20 #[.pointer (some ⟨B.wb, 0, none⟩)] wr fun e w' => ∃ id, e = .returned (.tuple #[.int .i64 id, .int .i64 0]) /\ 1 <= id /\ Made2 W w' s p id := by
 obtain ⟨tg, g, t, fE, hO, hQ, hM, hbr, ks, rfl⟩ := h
 obtain ⟨hwb, c0, _⟩ := hQ.ws
 have hX := one_exact h1
 have hB : Base8 tg wr s 2 p B objs g lim (.own ks) := ⟨hQ.inv, hQ.flat, hX, hQ.fl⟩
 have hcb := cnt_big objs 5 (.own ks)
 have hfw := hM.few
 have hlen : objs.length = 1 := by obtain ⟨o, _, _, _, rfl⟩ := h1; rfl
 have hob := objR_ok g.fl 5 (Nat.le_refl _) (.own ks) objs hX hQ.ok hB.flSz
 have hol := hob.len
 have hrd := objR_reads g.fl (fun _ => ⟨#[]⟩) 5 (Nat.le_refl _) (.own ks) objs hX hQ.ok hB.flSz
 refine (commit_ws B.wb B.bt _ _ wr hwb c0 (commit_any hB hQ.ok (by omega) (by omega))).mono ?_
 rintro e w' ⟨he, x', tg', hl', hsame, m, hS⟩
 have hk : kindOf x' (objR g.fl 5 (.own ks) objs).1 = 2 := by rw [hsame.kind]; exact hob.kind
 have hid := (kindOf_pos (by rw [hk]; decide)).1
 have hX' : Exact x' := hsame.exact (hob.dr.exact hX)
 have hok' : LTok x' 5 (.dir (objR g.fl 5 (.own ks) objs).1) := by
  rw [LTok]
  exact ⟨hk, by rw [hsame.high]; exact hob.high⟩
 refine ⟨_, he, hid, tg', x', g.fs.got, hO.any (by simp) m, by rw [hbr] at hS; exact hS.mono hl, hX', hsame.once (hob.dr.once (one_once h1)), hok', by rw [hsame.len]; omega, hid, ?_⟩
 rw [big_sem (fc := fun _ => ⟨#[]⟩) (fc' := fcOf objs g.fl) hX'.sound hX.sound hok' hQ.ok (fun y => (sem_same hX'.sound hsame _ y 5 _ hok').trans (hrd y))]
 omega
set_option maxRecDepth 100000 in
set_option maxHeartbeats 4000000 in
theorem made_walk2 (W : World) (a : Option Addr) (len cap : Nat) (hS : StepsAt W a len) (hlen : len <= maxLen) :
  Calls Tryz.prog 11 #[.slice a len cap] W fun e w' => ∃ s p id, e = .returned (.tuple #[.pointer (some ⟨s, 0, none⟩), .int .i64 id, .bool true]) /\ Made2 W w' s p id := by
 have hst := first_store W
 have HS : Hid _ := hS
 unfold maxLen at hlen
 clear hS
 go_enter Tryz.func11, Tryz.ntmps11
 go_wp2_with fail
 refine Calls.mono hst ?_
 rintro e w1 ⟨s, p, rfl, hF⟩
 have H1 : Hid _ := first_dir hF
 clear hst hF
 go_wp2_with fail
 refine Calls.mono H1.out ?_
 rintro e w2 ⟨rfl, objs, h1, hF⟩
 obtain ⟨tg, hO, hSt⟩ := first_tags hF (one_exact h1).sound
 have hck := qcheckout (i := 2) hSt (Nat.le_refl _) (id := 1) (by rw [LTok]; exact ⟨by rw [one_kind h1]; rfl, by rw [one_high h1]; decide⟩)
 have H2 : Hid _ := hck
 have HO : Hid _ := And.intro h1 hO
 clear hck hSt hF h1 hO H1
 go_wp2_with fail
 refine Calls.mono H2.out ?_
 rintro e w3 ⟨B, rfl, tg', m, hQ⟩
 have H3 : Hid _ := m_e HO.out.1 (HO.out.2.any (fun h => h) m) hQ
 clear H2 m hQ
 go_wp2_with fail
 refine Calls.mono H3.out ?_
 rintro e w4 ⟨rfl, hM⟩
 have HM : Hid _ := hM
 clear H3 hM
 go_wp2
 go_loopw [9] (fun i wr => ∃ k : Nat, k <= len /\ k <= 90 /\ i = .int .i64 (k : Int) /\ Hid (MSt W wr s p B objs (2 + k) (500 + k * 500))) (fun i _ => 90 - (intOf i).toNat)
 case atStart => exact ⟨0, Nat.zero_le _, Nat.zero_le _, rfl, HM⟩
 case round =>
  obtain ⟨k, hk, hk9, rfl, HR⟩ := hrel
  by_cases hlt : k < len
  ·by_cases hl9 : k < 90
   ·obtain ⟨b, o, rfl, hb, hst⟩ := HS.out.at_ (by omega)
    obtain ⟨kd, x, y, d, h1, h2, h3, h4, c0, c1, c2, c3⟩ := hst k hlt
    have hbel : Below W.heap.size W wr := MSt.below HR.out
    have e0 := (hbel.cell (p := ⟨b, o + k * 4, none⟩) hb).trans c0
    have e1 := (hbel.cell (p := ⟨b, o + k * 4 + 1, none⟩) hb).trans c1
    have e2 := (hbel.cell (p := ⟨b, o + k * 4 + 2, none⟩) hb).trans c2
    have e3 := (hbel.cell (p := ⟨b, o + k * 4 + 3, none⟩) hb).trans c3
    have hbr : b < wr.heap.size := Nat.lt_of_lt_of_le hb hbel.size
    have hdo := m_step HR.out (by omega) h1 h2 h3 h4
    have HD : Hid _ := hdo
    clear hdo hst c0 c1 c2 c3 hbel h1 h2 h3 h4 HR
    go_wp2_with (go_at_call 14; refine Calls.mono HD.out ?_; rintro e w5 ⟨er, rfl, hM5⟩; have HM5 : Hid _ := hM5; clear hM5)
    go_roundw
    case rel => exact ⟨k + 1, by omega, by omega, by go_num, by have := HM5.out; rw [show 2 + k + 1 = 2 + (k + 1) by omega, show 500 + k * 500 + 500 = 500 + (k + 1) * 500 by omega] at this; exact this⟩
    case measure => simp [intOf]; omega
   ·have hk90 : k = 90 := by omega
    subst hk90
    have ht := m_told (by omega) HR.out
    have HT : Hid _ := ht
    clear ht HR
    go_wp2_with fail
    refine Calls.mono HT.out ?_
    rintro e w5 ⟨rfl, hM5⟩
    have HC : Hid _ := m_commit2 HO.out.1 (by omega) (by omega) hM5
    clear hM5 HT
    go_wp2_with fail
    refine Calls.mono HC.out ?_
    rintro e w6 ⟨id, rfl, hid, hMd⟩
    have HMD : Hid _ := hMd
    clear HC hMd
    have hid' : (0 : Int) < id := by omega
    go_wp2
    exact bodyPost_ret (v := .tuple #[.pointer (some ⟨s, 0, none⟩), .int .i64 id, .bool true]) (by simp [results, Tryz.results11, go_sem]) rfl ⟨s, p, id, rfl, HMD.out⟩
  ·have ht := m_told (by omega) HR.out
   have HT : Hid _ := ht
   clear ht HR
   go_wp2_with fail
   refine Calls.mono HT.out ?_
   rintro e w5 ⟨rfl, hM5⟩
   have HC : Hid _ := m_commit2 HO.out.1 (by omega) (by omega) hM5
   clear hM5 HT
   go_wp2_with fail
   refine Calls.mono HC.out ?_
   rintro e w6 ⟨id, rfl, hid, hMd⟩
   have HMD : Hid _ := hMd
   clear HC hMd
   have hid' : (0 : Int) < id := by omega
   go_wp2
   exact bodyPost_ret (v := .tuple #[.pointer (some ⟨s, 0, none⟩), .int .i64 id, .bool true]) (by simp [results, Tryz.results11, go_sem]) rfl ⟨s, p, id, rfl, HMD.out⟩
end Go.Proofs.YtajopoddmfdejaaGreat

namespace Go.Proofs.YtajopoddmfdejaaGreat
open Go.RowKit Go.Sort Go.Shelf
set_option linter.unusedVariables false
def ndK : Nd -> Int
 | .dir => 2
 | .file _ => 1
theorem ndK_nd (a : List Ob) (fc : FileC) (t : LT) : ndK (nd a fc t) = t.kind := by cases t <;> rfl
def thingAt (q : List ByteArray) (x : Nd) : Thing8 := (joinB q, ndK x, ndD x)
end Go.Proofs.YtajopoddmfdejaaGreat

namespace Go.Proofs.YtajopoddmfdejaaGreat
open Go.RowKit Go.Sort Go.Shelf
set_option linter.unusedVariables false
end Go.Proofs.YtajopoddmfdejaaGreat

namespace Go.Proofs.YtajopoddmfdejaaGreat
open Go.RowKit Go.Sort Go.Shelf
set_option linter.unusedVariables false
section
variable {W wr : World} {s p : Nat} {objs : List Ob} {lim : Nat} {ws : List Slot} {rows : List (Value × List Thing8)}
theorem many_made2 {id : Int} (h : Made2 W wr s p id) : ∃ objs, Obs8 objs id /\ big objs 5 (.dir id) <= 95 /\ Many W wr s p objs 60000 [] [] := by
 obtain ⟨tg, objs, got, hO, hS, hX, hOn, hok, hlen, hid, hbig⟩ := h
 exact ⟨objs, ⟨hX, hOn, hok, hlen⟩, hbig, tg, got, hO, hS, (fun x hx => by cases hx), List.nodup_nil, (fun r hr => by cases hr)⟩
end
end Go.Proofs.YtajopoddmfdejaaGreat

namespace Go.Proofs.YtajopoddmfdejaaGreat
open Go.RowKit Go.Sort Go.Shelf
set_option linter.unusedVariables false
variable {ft : PTail}
end Go.Proofs.YtajopoddmfdejaaGreat

namespace Go.Proofs.YtajopoddmfdejaaGreat
open Go.RowKit Go.Sort Go.Shelf
set_option linter.unusedVariables false
variable {ft : PTail}
set_option maxRecDepth 100000 in
set_option maxHeartbeats 400000 in
theorem count_st (p : Nat) (a : Option Addr) (n cap : Nat) (w : World) (h0 : w.cell? ⟨p, 0, none⟩ = some (.slice a n cap)) :
  Calls Tryz.prog 44 #[.pointer (some ⟨p, 0, none⟩)] w fun e w' => e = .returned (.int .i64 n) /\ w' = w := by
 go_enter Tryz.func44, Tryz.ntmps44
 go_wp2
 go_ret
 exact ⟨rfl, rfl⟩
set_option maxRecDepth 100000 in
set_option maxHeartbeats 400000 in
theorem storeObjects {F : Nat -> Prop} {w : World} {s : Nat} {objs : List Ob} (h : Inv ft F w s objs) :
  Calls Tryz.prog 21 #[.pointer (some ⟨s, 0, none⟩)] w fun e w' => e = .returned (.int .i64 (objs.length : Int)) /\ w' = w := by
 obtain ⟨p, a, cap, bf, bd, Df, Dd, i⟩ := h
 have hcon := count_st p a objs.length cap w i.pool.at_.c0
 have c0 := i.c0
 clear i
 go_enter Tryz.func21, Tryz.ntmps21
 go_wp2_with (go_at_call 44; refine hcon.mono ?_; rintro e w' ⟨rfl, rfl⟩)
 go_ret
 exact ⟨rfl, rfl⟩
end Go.Proofs.YtajopoddmfdejaaGreat

namespace Go.Proofs.YtajopoddmfdejaaGreat
open Go.RowKit Go.Sort Go.Shelf
set_option linter.unusedVariables false
def Did8 (W w' : World) (s p : Nat) (objs : List Ob) (lim : Nat) (ws : List Slot) (rows : List (Value × List Thing8)) (i : Nat) (B : WB) (g : WG) (t : LT) (k : Int) (na nb : ByteArray) (ra rb : List ByteArray) (d : ByteArray) (er : Int) : Prop :=
 ∃ g' t' g1, g1.fl = g.fl /\ g1.fs.brk = false /\ StepTo objs g1 t k na nb ra rb d er g' t' /\ big objs 5 t' <= big objs 5 t + 1 /\ Many W w' s p objs lim ((i, B, g', t') :: ws) rows
section
variable {W wr : World} {s p : Nat} {objs : List Ob} {lim : Nat} {ws : List Slot} {rows : List (Value × List Thing8)} {i : Nat} {B : WB} {g : WG} {t : LT}
theorem good_len {r : List ByteArray} {n : ByteArray} (h : Good (r.reverse ++ [n])) : r.length <= 4 := by
 have := h.len
 simp at this
 omega
theorem many_did {tg : Tags} {got : List Int} (hQ : QInv tg wr s i p B objs (setGot g got) lim t) (hinj : HeldInj objs t) (hnext : ∀ {tg' : Tags} {w' : World} {g' : WG} {t' : LT} {lim' : Nat}, lim <= lim' -> Moves (Mine i) tg tg' wr w' -> QInv tg' w' s i p B objs g' lim' t' -> g'.fs.brk = false -> HeldInj objs t' -> Many W w' s p objs lim' ((i, B, g', t') :: ws) rows) {k : Int} {na nb : ByteArray} {ra rb : List ByteArray} {d : ByteArray} {er : Int} (ha : Good (ra.reverse ++ [na])) (hb : Good (rb.reverse ++ [nb])) {tg' : Tags} {w' : World} {g' : WG} {t' : LT} {lim' : Nat} (hl : lim <= lim') (m : Moves (Mine i) tg tg' wr w') (hQ' : QInv tg' w' s i p B objs g' lim' t') (hs : StepTo objs (setGot g got) t k na nb ra rb d er g' t') :
  Did8 W w' s p objs lim' ws rows i B g t k na nb ra rb d er := by
 obtain ⟨hi', hbig⟩ := step_inj hQ.inv.st.sound hQ.ok hQ.held hinj (good_len ha) (good_len hb) hs
 exact ⟨g', t', setGot g got, rfl, rfl, hs, hbig, hnext hl m hQ' (step_brk rfl hs) hi'⟩
theorem many_mkdir (h : Many W wr s p objs lim ((i, B, g, t) :: ws) rows) (hl : lim + 1000 < 1099511627776) {n : ByteArray} {r : List ByteArray} (hL : Good (r.reverse ++ [n])) :
  Calls Tryz.prog 23 #[.pointer (some ⟨B.wb, 0, none⟩), .string (joinB (r.reverse ++ [n]))] wr fun e w' => ∃ er, e = .returned (.int .i64 er) /\ Did8 W w' s p objs (lim + 500) ws rows i B g t 3 n n r r ⟨#[]⟩ er := by
 obtain ⟨tg, got, hQ, hinj, hnext⟩ := h.head
 refine (qmkdir hQ hl hL).mono ?_
 rintro e w' ⟨he, tg', g', t', m, hQ', hs⟩
 exact ⟨_, he, many_did hQ hinj (fun a b c d e => (hnext a b c d e).1) hL hL (by omega) m (hQ'.mono (by omega)) (.inr (.inl ⟨rfl, rfl, hs⟩))⟩
theorem many_remove (h : Many W wr s p objs lim ((i, B, g, t) :: ws) rows) (hl : lim + 1000 < 1099511627776) {n : ByteArray} {r : List ByteArray} (hL : Good (r.reverse ++ [n])) :
  Calls Tryz.prog 25 #[.pointer (some ⟨B.wb, 0, none⟩), .string (joinB (r.reverse ++ [n]))] wr fun e w' => ∃ er, e = .returned (.int .i64 er) /\ Did8 W w' s p objs (lim + 500) ws rows i B g t 4 n n r r ⟨#[]⟩ er := by
 obtain ⟨tg, got, hQ, hinj, hnext⟩ := h.head
 refine (qremove hQ hl hL).mono ?_
 rintro e w' ⟨he, tg', g', t', m, hQ', hs⟩
 exact ⟨_, he, many_did hQ hinj (fun a b c d e => (hnext a b c d e).1) hL hL (by omega) m (hQ'.mono (by omega)) (.inr (.inr (.inl ⟨rfl, rfl, hs⟩)))⟩
theorem many_rename (h : Many W wr s p objs lim ((i, B, g, t) :: ws) rows) (hl : lim + 1000 < 1099511627776) {n n' : ByteArray} {r r' : List ByteArray} (hL : Good (r.reverse ++ [n])) (hL' : Good (r'.reverse ++ [n'])) :
  Calls Tryz.prog 24 #[.pointer (some ⟨B.wb, 0, none⟩), .string (joinB (r.reverse ++ [n])), .string (joinB (r'.reverse ++ [n']))] wr fun e w' => ∃ er, e = .returned (.int .i64 er) /\ Did8 W w' s p objs (lim + 500) ws rows i B g t 5 n n' r r' ⟨#[]⟩ er := by
 obtain ⟨tg, got, hQ, hinj, hnext⟩ := h.head
 refine (qrename hQ hl hL hL').mono ?_
 rintro e w' ⟨he, tg', g', t', m, hQ', hs⟩
 exact ⟨_, he, many_did hQ hinj (fun a b c d e => (hnext a b c d e).1) hL hL' (by omega) m (hQ'.mono (by omega)) (.inr (.inr (.inr ⟨rfl, rfl, hs⟩)))⟩
theorem many_put (h : Many W wr s p objs lim ((i, B, g, t) :: ws) rows) (hl : lim + 1000 < 1099511627776) {n : ByteArray} {r : List ByteArray} (hL : Good (r.reverse ++ [n])) (d : ByteArray) (hd : d.size <= maxLen) :
  Calls Tryz.prog 26 #[.pointer (some ⟨B.wb, 0, none⟩), .string (joinB (r.reverse ++ [n])), .string d] wr fun e w' => ∃ er, e = .returned (.int .i64 er) /\ Did8 W w' s p objs (lim + 500) ws rows i B g t 0 n n r r (shortB d) er := by
 obtain ⟨tg, got, hQ, hinj, hnext⟩ := h.head
 refine (qput hQ hl hL d hd).mono ?_
 rintro e w' ⟨er, he, tg', g', t', m, hQ', hs⟩
 exact ⟨er, he, many_did hQ hinj (fun a b c d e => (hnext a b c d e).1) hL hL (by omega) m hQ' (.inl ⟨by decide, hs⟩)⟩
theorem many_objects (h : Many W wr s p objs lim ws rows) : Calls Tryz.prog 21 #[.pointer (some ⟨s, 0, none⟩)] wr fun e w' => e = .returned (.int .i64 (objs.length : Int)) /\ w' = wr := by
 obtain ⟨tg, got, hO, ⟨hfr, ft, hb, hI, _⟩, _⟩ := h
 exact storeObjects hI.inv
theorem entsOf_at8 {objs : List Ob} {j : Nat} (hj : j < objs.length) : entsOf objs ((j : Int) + 1) = objs[j].ents := by
 unfold entsOf
 rw [show ((j : Int) + 1 - 1).toNat = j by omega, List.getElem?_eq_getElem hj]; rfl
theorem objR_dir (fl : Nat -> Option (Int × ByteArray)) (n : Nat) (id : Int) (a : List Ob) : objR fl n (.dir id) a = (id, a) := by cases n <;> rw [objR]
theorem many_commit3 (h : Many W wr s p objs lim ((i, B, g, t) :: ws) rows) (hX : Exact objs) (hOn : Once objs) (hfew : objs.length + 2 * cntO 5 t < 3000) (hroom : (objR g.fl 5 t objs).2.length <= 400) (hk : t.kind = 2) :
  Calls Tryz.prog 20 #[.pointer (some ⟨B.wb, 0, none⟩)] wr fun e w' => ∃ x', e = .returned (.tuple #[.int .i64 (objR g.fl 5 t objs).1, .int .i64 0]) /\ Exact x' /\ Once x' /\ (∃ l, x' = objs ++ l) /\ x'.length = (objR g.fl 5 t objs).2.length /\ LTok x' 5 (.dir (objR g.fl 5 t objs).1) /\ SemEq x' (fun _ => ⟨#[]⟩) (.dir (objR g.fl 5 t objs).1) objs (fcOf objs g.fl) t /\ Many W w' s p x' lim [] rows /\ (x' = objs -> Many W w' s p objs lim ((i, B, g, t) :: ws) rows) := by
 obtain ⟨tg, got, hO, hS, hw, hn, hr⟩ := h
 have hx := hw _ (List.mem_cons_self ..)
 have hQ : QInv tg wr s i p B objs (setGot g got) lim t := ⟨⟨hx.two, hS, ⟨hx.wp.tree, hx.wp.keptF, hx.wp.keptD, hx.wp.ownF, hx.wp.ownD, hx.wp.files, hx.wp.held, hx.wp.opens, hx.wp.ok⟩⟩, hx.flat, hx.ok, hx.fl, hx.op⟩
 obtain ⟨hwb, c0, _⟩ := hQ.ws
 have hB : Base8 tg wr s i p B objs (setGot g got) lim t := ⟨hQ.inv, hQ.flat, hX, hQ.fl⟩
 have hob := objR_ok g.fl 5 (Nat.le_refl _) t objs hX hQ.ok hB.flSz
 have hrd := objR_reads g.fl (fun _ => ⟨#[]⟩) 5 (Nat.le_refl _) t objs hX hQ.ok hB.flSz
 have hca := commit_any hB hQ.ok hfew hroom
 refine (commit_ws B.wb B.bt _ _ wr hwb c0 hca).mono ?_
 rintro e w' ⟨he, x', tg', hl', hsame, m, hS'⟩
 have hk' : kindOf x' (objR g.fl 5 t objs).1 = 2 := by rw [hsame.kind]; exact hob.kind.trans hk
 have hX' : Exact x' := hsame.exact (hob.dr.exact hX)
 have hok' : LTok x' 5 (.dir (objR g.fl 5 t objs).1) := by
  rw [LTok]
  exact ⟨hk', by rw [hsame.high]; exact hob.high⟩
 rw [hk] at hrd
 refine ⟨x', he, hX', hsame.once (hob.dr.once hOn), hl', hsame.len, hok', fun y => (sem_same hX'.sound hsame _ y 5 _ hok').trans (hrd y), ⟨tg', _, hO.any (by simp) m, hS', (fun x hx => by cases hx), List.nodup_nil, hr.any (by simp) m⟩, fun e => ?_⟩
 subst e
 exact ⟨tg', _, hO.any (by simp) m, hS', fun x hx => (hw x hx).moves m (fun k hk => by
  have := (hw x hx).two
  have := congrArg Prod.fst hk
  simp only at this
  omega), hn, hr.any (by simp) m⟩
theorem many_putnil (h : Many W wr s p objs lim ws rows) (hX : Exact objs) (hOn : Once objs) (hlen : objs.length < 400) :
  Calls Tryz.prog 22 #[.pointer (some ⟨s, 0, none⟩), .slice none 0 0] wr fun e w' => ∃ r x' l, e = .returned (.tuple #[.int .i64 r, .int .i64 0]) /\ x' = objs ++ l /\ l.length <= 1 /\ Exact x' /\ Once x' /\ LTok x' 5 (.dir r) /\ entsOf x' r = [] /\ Many W w' s p x' lim [] rows := by
 obtain ⟨tg, got, hO, ⟨hfr, ft, hb, hI, hgot, hsd, hlm⟩, hw, hn, hr⟩ := h
 refine (storePutDirNil hI).mono ?_
 rintro e w' ⟨objs', hf, hI', hk⟩
 obtain ⟨tg', m, hf', htag, hold⟩ := moves_keeps hk hfr
 have hmany : Drafted objs objs' -> Many W w' s p objs' lim [] rows := fun hd =>
  ⟨tg', got, hO.any (by simp) m, ⟨hf', ft, hb, hI'.keep (fun _ _ _ => rfl) (fun k hk hF => htag k hF hk), hgot.moves m (by simp), (hd.exact hX).sound, hlm⟩, (fun x hx => by cases hx), List.nodup_nil, hr.any (by simp) m⟩
 rcases hf with ⟨⟨x, hx, h1⟩, _⟩ | ⟨_, ⟨h1, _⟩ | ⟨_, h1, _⟩ | ⟨_, _, ⟨x, hx, h1⟩, _⟩ | ⟨_, _, _, es', hP, hri, hna, ⟨h1, _⟩ | ⟨h5, rfl, i, h1, rfl⟩ | ⟨_, _, h1, _⟩ | ⟨h5, hno, _, ⟨o, h1, h2, h3, h4⟩, rfl⟩⟩⟩
 ·cases hx
 ·exact absurd (by simp) h1
 ·exact absurd h1 (by simp)
 ·cases hx
 ·have := List.perm_nil.1 hP; subst this; exact absurd h1 (by show ¬ (5 : Int) < 0; decide)
 ·have := List.perm_nil.1 hP; subst this
  obtain ⟨hi, k1, k2⟩ := dirAt_get h1
  have hkd : kindOf objs' ((i : Int) + 1) = 2 := by rw [kindOf_in hi]; exact k1
  have hen : entsOf objs' ((i : Int) + 1) = [] := by rw [entsOf_at8 hi]; exact k2
  refine ⟨_, objs', [], rfl, by simp, by simp, hX, hOn, ?_, hen, hmany .nil⟩
  rw [LTok]
  exact ⟨hkd, by rw [hX.high _ hkd, hen]; show (0 : Int) <= 5; decide⟩
 ·omega
 ·have := List.perm_nil.1 hP; subst this
  have hd : Drafted objs objs' := by
   rw [h4]
   exact .snoc .nil ⟨.inr ⟨h1, by rw [h3, h2], by rw [h2]; show (0 : Int) <= 5; decide, by rw [h2]; exact List.Pairwise.nil, by rw [h2]; simp, (by rw [h2]; exact fun e he => (by cases he)), by rw [h2]; exact hno⟩⟩
  obtain ⟨l1, l2, l3, l4⟩ := last_ob objs o
  rw [<- h4] at l1 l2 l3
  refine ⟨_, objs', [o], rfl, h4, by simp, hd.exact hX, hd.once hOn, ?_, by rw [l3, h2], hmany hd⟩
  rw [LTok]
  exact ⟨by rw [l1, h1], by rw [l2, h3]; show (0 : Int) <= 5; decide⟩
end
end Go.Proofs.YtajopoddmfdejaaGreat
