/-
  What is proved here: the library's functions that this program calls are, at its own numbers, those that the shelf's contracts speak of: strings.Compare, strings.IndexByte, the cloning of a string, slices.SortFunc and slices.Clone over entries. what each small function of the objects' pool does to memory, said of its cells (Count, at, kind, File, NewPool, NewStore, add).
-/
import Derived.Shelf.Small.Bits
import Derived.Shelf.Small.Strs
import Derived.Shelf.Strconv.Itoa0
import Derived.Shelf.LaysM
import Derived.Shelf.Strconv.Clone
import Derived.Shelf.Strings.Search1
import Derived.Shelf.SlGeneric
import Derived.Shelf.SlSortCmp.SmallK
import Derived.Shelf.SlicesE.Clone
import Derived.Ground.SlsfProg
import Derived.Ground.SlgnProg
import Derived.Test.YtehpnebekgahnaaGreatProg
import Derived.WalkKit
import Derived.WalkSpells
import Derived.WalkLawsBesides
import Derived.Maps.OwnSet
import Derived.Maps.AppendAt
import Derived.Deep.RegionLawGrows
namespace Go.Proofs
open Go.Shelf
def Tryz.lays106_ren : Go.Shelf.Ren := ⟨fun | 106 => 95 | 213 => 117 | 265 => 126 | n => n, fun | 9 => 9 | 3 => 3 | n => n, fun | n => n⟩
theorem Tryz.lays106 : Go.Proofs.Lays.n106 Tryz.prog Tryz.lays106_ren := {
  mixed := by kernel_rfl
  f106 := Tryz.func95.trans (congrArg some (by kernel_rfl))
  f213 := Tryz.func117.trans (congrArg some (by kernel_rfl))
  f265 := Tryz.func126.trans (congrArg some (by kernel_rfl))
  t3 := Tryz.underlying3
  a3 := Tryz.isAgg3
  z3 := Tryz.sizeOf3
  v3 := Tryz.zeroValue3
  t9 := Tryz.underlying9
  a9 := Tryz.isAgg9
  z9 := Tryz.sizeOf9
  v9 := Tryz.zeroValue9 }
open Go.RowKit in
theorem Tryz.strings_Compare (a b : ByteArray) (w : World) :
    Calls Tryz.prog 95 #[.string a, .string b] w fun e w' => e = .returned (.int .i64 (Lib.compareBytes a.data.toList b.data.toList)) ∧ w' = w := Any.strings_Compare Tryz.lays106 a b w
def Tryz.lays137_ren : Go.Shelf.Ren := ⟨fun | 137 => 89 | 217 => 115 | 266 => 125 | n => n, fun | 9 => 9 | 5 => 5 | 3 => 3 | n => n, fun | n => n⟩
theorem Tryz.lays137 : Go.Proofs.Lays.n137 Tryz.prog Tryz.lays137_ren := {
  mixed := by kernel_rfl
  f137 := Tryz.func89.trans (congrArg some (by kernel_rfl))
  f217 := Tryz.func115.trans (congrArg some (by kernel_rfl))
  f266 := Tryz.func125.trans (congrArg some (by kernel_rfl))
  t3 := Tryz.underlying3
  a3 := Tryz.isAgg3
  z3 := Tryz.sizeOf3
  v3 := Tryz.zeroValue3
  t5 := Tryz.underlying5
  a5 := Tryz.isAgg5
  z5 := Tryz.sizeOf5
  v5 := Tryz.zeroValue5
  t9 := Tryz.underlying9
  a9 := Tryz.isAgg9
  z9 := Tryz.sizeOf9
  v9 := Tryz.zeroValue9 }
open Go.RowKit in
theorem Tryz.strings_IndexByte (s : ByteArray) (c : Int) (w : World) :
    Calls Tryz.prog 89 #[.string s, .int .u8 c] w fun e w' => e = .returned (.int .i64 (Lib.indexByte s.data.toList c.toNat.toUInt8)) ∧ w' = w := Any.strings_IndexByte Tryz.lays137 s c w
def Tryz.laysM316_ren : Go.Shelf.Ren := ⟨fun | 316 => 90 | n => n, fun | 9 => 9 | 3 => 3 | 4 => 4 | 37 => 171 | 0 => 0 | 127 => 183 | 5 => 5 | n => n, fun | n => n⟩
theorem Tryz.laysM316 : Go.Proofs.LaysM.n316 Tryz.prog Tryz.laysM316_ren := {
  mixed := by kernel_rfl
  f316 := Tryz.func90.trans (congrArg some (by kernel_rfl))
  t0 := Tryz.underlying0
  a0 := Tryz.isAgg0
  z0 := Tryz.sizeOf0
  v0 := Tryz.zeroValue0
  t3 := Tryz.underlying3
  a3 := Tryz.isAgg3
  z3 := Tryz.sizeOf3
  v3 := Tryz.zeroValue3
  t4 := Tryz.underlying4
  a4 := Tryz.isAgg4
  z4 := Tryz.sizeOf4
  v4 := Tryz.zeroValue4
  t9 := Tryz.underlying9
  a9 := Tryz.isAgg9
  z9 := Tryz.sizeOf9
  v9 := Tryz.zeroValue9
  t37 := Tryz.underlying171
  a37 := Tryz.isAgg171
  z37 := Tryz.sizeOf171
  v37 := Tryz.zeroValue171
  t127 := Tryz.underlying183
  a127 := Tryz.isAgg183
  z127 := Tryz.sizeOf183
  v127 := Tryz.zeroValue183
  t5 := Tryz.underlying5
  a5 := Tryz.isAgg5
  z5 := Tryz.sizeOf5
  v5 := Tryz.zeroValue5
  i0 := by kernel_rfl
  i3 := by kernel_rfl
  i4 := by kernel_rfl
  i5 := by kernel_rfl
  i9 := by kernel_rfl
  i37 := by kernel_rfl
  i127 := by kernel_rfl }
open Go.RowKit in
theorem Tryz.stringslite_Clone (s : ByteArray) (w : World) (hlim : s.size ≤ 281474976710656) :
    Calls Tryz.prog 90 #[.string s] w fun e w' => e = .returned (.string s) ∧ Below w.heap.size w w' := Any.stringslite_Clone Tryz.laysM316 s w hlim
def Tryz.lays217_ren : Go.Shelf.Ren := ⟨fun | 217 => 115 | 266 => 125 | n => n, fun | 9 => 9 | 5 => 5 | 3 => 3 | n => n, fun | n => n⟩
theorem Tryz.lays217 : Go.Proofs.Lays.n217 Tryz.prog Tryz.lays217_ren := {
  mixed := by kernel_rfl
  f217 := Tryz.func115.trans (congrArg some (by kernel_rfl))
  f266 := Tryz.func125.trans (congrArg some (by kernel_rfl))
  t3 := Tryz.underlying3
  a3 := Tryz.isAgg3
  z3 := Tryz.sizeOf3
  v3 := Tryz.zeroValue3
  t5 := Tryz.underlying5
  a5 := Tryz.isAgg5
  z5 := Tryz.sizeOf5
  v5 := Tryz.zeroValue5
  t9 := Tryz.underlying9
  a9 := Tryz.isAgg9
  z9 := Tryz.sizeOf9
  v9 := Tryz.zeroValue9 }
open Go.RowKit Go.Lib in
theorem Tryz.stringslite_IndexByte (s : ByteArray) (c : Int) (w : World) :
    Calls Tryz.prog 115 #[.string s, .int .u8 c] w fun e w' => e = .returned (.int .i64 (Lib.indexByte s.data.toList c.toNat.toUInt8)) ∧ w' = w := Any.stringslite_IndexByte Tryz.lays217 s c w
def Tryz.sortE_ren : Go.Shelf.Ren := ⟨fun | 6 => 109 | 15 => 121 | 14 => 120 | 28 => 136 | 29 => 137 | 20 => 128 | 21 => 129 | 22 => 130 | 23 => 131 | 24 => 132 | 25 => 133 | 26 => 134 | 27 => 135 | 46 => 140 | 47 => 141 | 48 => 142 | 49 => 143 | 50 => 144 | 57 => 145 | n => n, fun | 22 => 62 | 24 => 61 | 25 => 175 | 3 => 3 | 39 => 184 | 0 => 0 | 53 => 198 | 55 => 200 | 4 => 4 | 46 => 192 | 45 => 191 | 50 => 107 | 5 => 5 | 9 => 9 | 66 => 204 | 70 => 208 | 76 => 210 | 77 => 211 | n => n, fun | n => n⟩
theorem Tryz.sortE : Go.Proofs.SlLaysF0.n6 Tryz.prog Tryz.sortE_ren := {
  mixed := by kernel_rfl
  f6 := ⟨Tryz.f109.name, by decide, Tryz.func109.trans (congrArg some (by kernel_rfl))⟩
  f14 := ⟨Tryz.f120.name, by decide, Tryz.func120.trans (congrArg some (by kernel_rfl))⟩
  f15 := Tryz.func121.trans (congrArg some (by kernel_rfl))
  f20 := ⟨Tryz.f128.name, by decide, Tryz.func128.trans (congrArg some (by kernel_rfl))⟩
  f21 := ⟨Tryz.f129.name, by decide, Tryz.func129.trans (congrArg some (by kernel_rfl))⟩
  f22 := ⟨Tryz.f130.name, by decide, Tryz.func130.trans (congrArg some (by kernel_rfl))⟩
  f23 := ⟨Tryz.f131.name, by decide, Tryz.func131.trans (congrArg some (by kernel_rfl))⟩
  f24 := ⟨Tryz.f132.name, by decide, Tryz.func132.trans (congrArg some (by kernel_rfl))⟩
  f25 := ⟨Tryz.f133.name, by decide, Tryz.func133.trans (congrArg some (by kernel_rfl))⟩
  f26 := ⟨Tryz.f134.name, by decide, Tryz.func134.trans (congrArg some (by kernel_rfl))⟩
  f27 := ⟨Tryz.f135.name, by decide, Tryz.func135.trans (congrArg some (by kernel_rfl))⟩
  f28 := Tryz.func136.trans (congrArg some (by kernel_rfl))
  f29 := Tryz.func137.trans (congrArg some (by kernel_rfl))
  f46 := ⟨Tryz.f140.name, by decide, Tryz.func140.trans (congrArg some (by kernel_rfl))⟩
  f47 := Tryz.func141.trans (congrArg some (by kernel_rfl))
  f48 := Tryz.func142.trans (congrArg some (by kernel_rfl))
  f49 := ⟨Tryz.f143.name, by decide, Tryz.func143.trans (congrArg some (by kernel_rfl))⟩
  f50 := ⟨Tryz.f144.name, by decide, Tryz.func144.trans (congrArg some (by kernel_rfl))⟩
  f57 := ⟨Tryz.f145.name, by decide, Tryz.func145.trans (congrArg some (by kernel_rfl))⟩
  t0 := Tryz.underlying0
  a0 := Tryz.isAgg0
  z0 := Tryz.sizeOf0
  v0 := Tryz.zeroValue0
  t3 := Tryz.underlying3
  a3 := Tryz.isAgg3
  z3 := Tryz.sizeOf3
  v3 := Tryz.zeroValue3
  t4 := Tryz.underlying4
  a4 := Tryz.isAgg4
  z4 := Tryz.sizeOf4
  v4 := Tryz.zeroValue4
  t5 := Tryz.underlying5
  a5 := Tryz.isAgg5
  z5 := Tryz.sizeOf5
  v5 := Tryz.zeroValue5
  t9 := Tryz.underlying9
  a9 := Tryz.isAgg9
  z9 := Tryz.sizeOf9
  v9 := Tryz.zeroValue9
  t22 := Tryz.underlying62
  a22 := Tryz.isAgg62
  z22 := Tryz.sizeOf62
  v22 := Tryz.zeroValue62
  t25 := Tryz.underlying175
  a25 := Tryz.isAgg175
  z25 := Tryz.sizeOf175
  v25 := Tryz.zeroValue175
  t39 := Tryz.underlying184
  a39 := Tryz.isAgg184
  z39 := Tryz.sizeOf184
  v39 := Tryz.zeroValue184
  t45 := Tryz.underlying191
  a45 := Tryz.isAgg191
  z45 := Tryz.sizeOf191
  v45 := Tryz.zeroValue191
  t46 := Tryz.underlying192
  a46 := Tryz.isAgg192
  z46 := Tryz.sizeOf192
  v46 := Tryz.zeroValue192
  t50 := Tryz.underlying107
  a50 := Tryz.isAgg107
  z50 := Tryz.sizeOf107
  v50 := Tryz.zeroValue107
  t53 := Tryz.underlying198
  a53 := Tryz.isAgg198
  z53 := Tryz.sizeOf198
  v53 := Tryz.zeroValue198
  t55 := Tryz.underlying200
  a55 := Tryz.isAgg200
  z55 := Tryz.sizeOf200
  v55 := Tryz.zeroValue200
  t66 := Tryz.underlying204
  a66 := Tryz.isAgg204
  z66 := Tryz.sizeOf204
  v66 := Tryz.zeroValue204
  t70 := Tryz.underlying208
  a70 := Tryz.isAgg208
  z70 := Tryz.sizeOf208
  v70 := Tryz.zeroValue208
  t76 := Tryz.underlying210
  a76 := Tryz.isAgg210
  z76 := Tryz.sizeOf210
  v76 := Tryz.zeroValue210
  t77 := Tryz.underlying211
  a77 := Tryz.isAgg211
  z77 := Tryz.sizeOf211
  v77 := Tryz.zeroValue211 }
def Tryz.cloneE_ren : Go.Shelf.Ren := ⟨fun | 41 => 108 | n => n, fun | 22 => 62 | 23 => 61 | 4 => 4 | n => n, fun | n => n⟩
theorem Tryz.cloneE : Go.Proofs.SlLaysE0.n41 Tryz.prog Tryz.cloneE_ren := {
  mixed := by kernel_rfl
  f41 := ⟨Tryz.f108.name, by decide, Tryz.func108.trans (congrArg some (by kernel_rfl))⟩
  t4 := Tryz.underlying4
  a4 := Tryz.isAgg4
  z4 := Tryz.sizeOf4
  v4 := Tryz.zeroValue4
  t22 := Tryz.underlying62
  a22 := Tryz.isAgg62
  z22 := Tryz.sizeOf62
  v22 := Tryz.zeroValue62 }
def Tryz.cloneI_ren : Go.Shelf.Ren := ⟨fun | 41 => 78 | n => n, fun | 22 => 51 | 23 => 56 | 4 => 4 | n => n, fun | n => n⟩
theorem Tryz.cloneI : Go.Proofs.SlLaysE0.n41 Tryz.prog Tryz.cloneI_ren := {
  mixed := by kernel_rfl
  f41 := ⟨Tryz.f78.name, by decide, Tryz.func78.trans (congrArg some (by kernel_rfl))⟩
  t4 := Tryz.underlying4
  a4 := Tryz.isAgg4
  z4 := Tryz.sizeOf4
  v4 := Tryz.zeroValue4
  t22 := Tryz.underlying51
  a22 := Tryz.isAgg51
  z22 := Tryz.sizeOf51
  v22 := Tryz.zeroValue51 }
end Go.Proofs

namespace Go.Proofs.YtehpnebekgahnaaGreat
open Go.RowKit
set_option linter.unusedVariables false

theorem fld0 (c0 c1 c2 c3 : Value) (w : World) : (Instr.field 141 (.agg #[c0, c1, c2, c3]) 0).run Tryz.prog w = .ok c0 w := by kernel_rfl
theorem fld1 (c0 c1 c2 c3 : Value) (w : World) : (Instr.field 141 (.agg #[c0, c1, c2, c3]) 1).run Tryz.prog w = .ok c1 w := by kernel_rfl
theorem fld2 (c0 c1 c2 c3 : Value) (w : World) : (Instr.field 141 (.agg #[c0, c1, c2, c3]) 2).run Tryz.prog w = .ok c2 w := by kernel_rfl
theorem fld3 (c0 c1 c2 c3 : Value) (w : World) : (Instr.field 141 (.agg #[c0, c1, c2, c3]) 3).run Tryz.prog w = .ok c3 w := by kernel_rfl

set_option maxRecDepth 100000 in
set_option maxHeartbeats 400000 in
theorem at_any (p g n cap j : Nat) (k : Int) (d : ByteArray) (ea : Option Addr) (el ec : Nat) (h : Int) (w : World) (hp : p < w.heap.size) (hg : g < w.heap.size) (h0 : w.cell? ⟨p, 0, none⟩ = some (.slice (some ⟨g, 0, none⟩) n cap))
    (hn : j < n) (hm : n ≤ 400)
    (k0 : w.cell? ⟨g, j * 4, none⟩ = some (.int .i64 k)) (k1 : w.cell? ⟨g, j * 4 + 1, none⟩ = some (.string d)) (k2 : w.cell? ⟨g, j * 4 + 2, none⟩ = some (.slice ea el ec)) (k3 : w.cell? ⟨g, j * 4 + 3, none⟩ = some (.int .i64 h)) :
    Calls Tryz.prog 83 #[.pointer (some ⟨p, 0, none⟩), .int .i64 ((j : Int) + 1)] w fun e w' => e = .returned (.agg #[.int .i64 k, .string d, .slice ea el ec, .int .i64 h]) ∧ w' = w.alloc (.cells #[.int .i64 k, .string d, .slice ea el ec, .int .i64 h] 141) := by
  have e1 : ((j : Int) + 1 - 1) = j := by omega
  go_enter Tryz.func83, Tryz.ntmps83
  go_wp2
  exact bodyPost_ret (v := .agg #[.int .i64 k, .string d, .slice ea el ec, .int .i64 h]) (by simp [results, Tryz.results83, go_sem]) rfl ⟨rfl, rfl⟩

set_option maxRecDepth 100000 in
set_option maxHeartbeats 400000 in
/-- There is no such object. -/
theorem kind_none (p n cap : Nat) (a : Option Addr) (id : Int) (w : World) (h0 : w.cell? ⟨p, 0, none⟩ = some (.slice a n cap)) (hm : n ≤ 400) (hid : id < 1 ∨ (n : Int) < id) :
    Calls Tryz.prog 46 #[.pointer (some ⟨p, 0, none⟩), .int .i64 id] w fun e w' => e = .returned (.int .i64 0) ∧ w' = w := by
  by_cases h1 : id < 1
  · go_enter Tryz.func46, Tryz.ntmps46
    go_wp2
    go_ret
    exact ⟨rfl, rfl⟩
  · have h2 : (n : Int) < id := by omega
    go_enter Tryz.func46, Tryz.ntmps46
    go_wp2
    go_ret
    exact ⟨rfl, rfl⟩

set_option maxRecDepth 100000 in
set_option maxHeartbeats 400000 in
theorem kind_some (p g n cap j : Nat) (k : Int) (d : ByteArray) (ea : Option Addr) (el ec : Nat) (h : Int) (w : World) (hp : p < w.heap.size) (hg : g < w.heap.size) (h0 : w.cell? ⟨p, 0, none⟩ = some (.slice (some ⟨g, 0, none⟩) n cap))
    (hn : j < n) (hm : n ≤ 400)
    (k0 : w.cell? ⟨g, j * 4, none⟩ = some (.int .i64 k)) (k1 : w.cell? ⟨g, j * 4 + 1, none⟩ = some (.string d)) (k2 : w.cell? ⟨g, j * 4 + 2, none⟩ = some (.slice ea el ec)) (k3 : w.cell? ⟨g, j * 4 + 3, none⟩ = some (.int .i64 h)) :
    Calls Tryz.prog 46 #[.pointer (some ⟨p, 0, none⟩), .int .i64 ((j : Int) + 1)] w fun e w' => e = .returned (.int .i64 k) ∧ w' = w.alloc (.cells #[.int .i64 k, .string d, .slice ea el ec, .int .i64 h] 141) := by
  have hcon := fun W hp hg h0 k0 k1 k2 k3 => at_any p g n cap j k d ea el ec h W hp hg h0 hn hm k0 k1 k2 k3
  have t1 : ¬ ((j : Int) + 1 < 1) := by omega
  have f0 := fld0
  have t2 : ¬ ((n : Int) < (j : Int) + 1) := by omega
  go_enter Tryz.func46, Tryz.ntmps46
  go_wp2_with (go_at_call 83; refine (hcon _ hp hg h0 k0 k1 k2 k3).mono ?_; rintro e w' ⟨rfl, rfl⟩)
  go_ret
  exact ⟨rfl, rfl⟩

set_option maxRecDepth 100000 in
set_option maxHeartbeats 400000 in
theorem file_not (p n cap : Nat) (a : Option Addr) (id : Int) (w : World) (h0 : w.cell? ⟨p, 0, none⟩ = some (.slice a n cap)) (hm : n ≤ 400) (hid : id < 1 ∨ (n : Int) < id) :
    Calls Tryz.prog 112 #[.pointer (some ⟨p, 0, none⟩), .int .i64 id] w fun e w' => e = .returned (.tuple #[.string ByteArray.empty, .int .i64 13]) ∧ w' = w := by
  have hcon := kind_none p n cap a id w h0 hm hid
  go_enter Tryz.func112, Tryz.ntmps112
  go_wp2_with (go_at_call 46; refine hcon.mono ?_; rintro e w' ⟨rfl, rfl⟩)
  go_ret2
  exact ⟨rfl, rfl⟩

set_option maxRecDepth 100000 in
set_option maxHeartbeats 400000 in
theorem file_some (p g n cap j : Nat) (k : Int) (d : ByteArray) (ea : Option Addr) (el ec : Nat) (h : Int) (w : World) (hp : p < w.heap.size) (hg : g < w.heap.size) (h0 : w.cell? ⟨p, 0, none⟩ = some (.slice (some ⟨g, 0, none⟩) n cap))
    (hn : j < n) (hm : n ≤ 400)
    (k0 : w.cell? ⟨g, j * 4, none⟩ = some (.int .i64 k)) (k1 : w.cell? ⟨g, j * 4 + 1, none⟩ = some (.string d)) (k2 : w.cell? ⟨g, j * 4 + 2, none⟩ = some (.slice ea el ec)) (k3 : w.cell? ⟨g, j * 4 + 3, none⟩ = some (.int .i64 h)) :
    Calls Tryz.prog 112 #[.pointer (some ⟨p, 0, none⟩), .int .i64 ((j : Int) + 1)] w fun e w' => e = .returned (if k = 1 then .tuple #[.string d, .int .i64 0] else .tuple #[.string ByteArray.empty, .int .i64 13]) ∧ Below w.heap.size w w' := by
  have hkind := kind_some p g n cap j k d ea el ec h w hp hg h0 hn hm k0 k1 k2 k3
  have hcon := fun W hp hg h0 k0 k1 k2 k3 => at_any p g n cap j k d ea el ec h W hp hg h0 hn hm k0 k1 k2 k3
  by_cases hk : k = 1
  · subst hk
    rw [if_pos rfl]
    have hb : ∀ b o, b < w.heap.size → (w.alloc (.cells #[.int .i64 1, .string d, .slice ea el ec, .int .i64 h] 141)).cell? ⟨b, o, none⟩ = w.cell? ⟨b, o, none⟩ := fun b o hb => World.cell?_alloc_past _ _ _ hb
    have f1 := fld1
    go_enter Tryz.func112, Tryz.ntmps112
    go_wp2_with (first
      | (go_at_call 46; refine hkind.mono ?_; rintro e w' ⟨rfl, rfl⟩)
      | (go_at_call 83; refine (hcon _ (by simp; omega) (by simp; omega) (by rw [hb _ _ hp]; exact h0) (by rw [hb _ _ hg]; exact k0) (by rw [hb _ _ hg]; exact k1) (by rw [hb _ _ hg]; exact k2) (by rw [hb _ _ hg]; exact k3)).mono ?_; rintro e w' ⟨rfl, rfl⟩))
    go_ret2
    exact ⟨rfl, ((Below.refl _ _).alloc (Nat.le_refl _) _).alloc (by simp) _⟩
  · rw [if_neg hk]
    have hk' : (k == 1) = false := by simpa using hk
    go_enter Tryz.func112, Tryz.ntmps112
    go_wp2_with (go_at_call 46; refine hkind.mono ?_; rintro e w' ⟨rfl, rfl⟩)
    go_ret2
    exact ⟨rfl, ((Below.refl _ _).alloc (Nat.le_refl _) _)⟩

set_option maxRecDepth 100000 in
set_option maxHeartbeats 400000 in
theorem newPool_any (w : World) :
    Calls Tryz.prog 43 #[] w fun e w' => e = .returned (.pointer (some ⟨w.heap.size + 2, 0, none⟩)) ∧ w' = ((w.alloc (.map #[] 0)).alloc (.map #[] 0)).alloc (.cells #[.slice none 0 0, .map (some w.heap.size), .map (some (w.heap.size + 1)), .slice none 0 0, .bool false] 137) := by
  have hmm := @run_makeMap Tryz.prog
  go_enter Tryz.func43, Tryz.ntmps43
  go_wp2
  go_ret
  exact ⟨rfl, rfl⟩

set_option maxRecDepth 100000 in
set_option maxHeartbeats 400000 in
theorem newStore_any (w : World) :
    Calls Tryz.prog 20 #[] w fun e w' => e = .returned (.pointer (some ⟨w.heap.size + 3, 0, none⟩)) ∧ w' = (((w.alloc (.map #[] 0)).alloc (.map #[] 0)).alloc (.cells #[.slice none 0 0, .map (some w.heap.size), .map (some (w.heap.size + 1)), .slice none 0 0, .bool false] 137)).alloc (.cells #[.pointer (some ⟨w.heap.size + 2, 0, none⟩)] 93) := by
  go_enter Tryz.func20, Tryz.ntmps20
  go_wp2_with (go_at_call 43; refine (newPool_any _).mono ?_; rintro e w' ⟨rfl, rfl⟩)
  go_ret
  exact ⟨rfl, rfl⟩


theorem step_append_own_at {P : Program} {ops : Array Oper} {o : Oper} {a : Act} {w : World} {K : Act → World → Prop} {Q : Exit → Act → World → Prop} {E : Prop}
    (hg : o.guard = none) (s x : Operand) (t : TypeId) (hop : o.op = Op.call { callee := Callee.builtin Builtin.append, args := #[s, x], argTypes := #[t, t] })
    (base : Nat) (e : TypeId) (i : TypeInfo) (z : Value) (size bytes : Nat) (h1 : P.underlying t = some (.slice e)) (h2 : P.info? e = some i) (h3 : i.zero = some z) (h4 : i.size = size) (h5 : i.bytes = bytes) (h6 : z.cells.size = size) (h7 : 0 < size)
    (v : Value) (n : Nat) (olds : List Value) (hs : a.eval s = v) (hown : w.ownsRow base e size v n olds)
    (ad : Addr) (m c : Nat) (news : List Value) (hx : a.eval x = .slice (some ad) m c) (hn : news.length = m * size) (hc : ∀ j u, news[j]? = some u → w.cell? (ad.add j) = some u) (h1c : ∀ u ∈ news, u.oneCell' = true)
    (b1 : n + m ≤ maxLen) (b2 : (n + m) * bytes ≤ 140737488355328) (hbase : base ≤ w.heap.size)
    (hK : ∀ v' w', w'.ownsRow base e size v' (n + m) (olds ++ news) → w.grownBy w' v.ownBlock → (v'.ownBlock = v.ownBlock ∨ v'.ownBlock = some w.heap.size) → K (a.put o.dst v') w') :
    if Region.wanted o (yielded ops a.tmps) = true then Oper.wp P o a w K Q else E := by
  have hw : Region.wanted o (yielded ops a.tmps) = true := by simp [Region.wanted, hg]
  rw [if_pos hw]
  obtain ⟨v', w', hrun, r1, r2, _, r3⟩ := run_append_own_at (P := P) w base t o.type e i z size bytes h1 h2 h3 h4 h5 h6 h7 v n olds hown ad m c news hn hc h1c b1 b2 hbase
  unfold Oper.wp
  simp [execOp, hop, resolve, invoke, builtin, hs, hx, hrun, Result.andThen]
  exact hK v' w' r1 r2 r3

theorem info51 : (Tryz.prog.info? 141).map (fun i => (i.zero, i.size, i.bytes)) = some (some (.agg #[.int .i64 0, .string ByteArray.empty, .slice none 0 0, .int .i64 0]), 4, 56) := by kernel_rfl


theorem cells4 (w : World) (c0 c1 c2 c3 : Value) (t : TypeId) : ∀ j u, [c0, c1, c2, c3][j]? = some u → (w.alloc (.cells #[c0, c1, c2, c3] t)).drew.cell? ((⟨w.heap.size, 0, none⟩ : Addr).add j) = some u := by
  intro j u h
  match j, h with
  | 0, h => simpa [Addr.add] using h
  | 1, h => simpa [Addr.add] using h
  | 2, h => simpa [Addr.add] using h
  | 3, h => simpa [Addr.add] using h
  | j + 4, h => simp at h

theorem slice_of_owns {w : World} {base : Nat} {e : TypeId} {size : Nat} {v : Value} {n : Nat} {xs : List Value} (h : w.ownsRow base e size v n xs) (hn : 0 < n) : ∃ g cap, v = .slice (some ⟨g, 0, none⟩) n cap := by
  rcases h.2 with ⟨_, h0⟩ | ⟨g, cap, _, hv, _⟩
  · omega
  · exact ⟨g, cap, hv⟩

theorem grown_cell {w w1 : World} {o1 o2 : Obj} {r : Option Nat} (hg : ((w.alloc o1).alloc o2).drew.grownBy w1 r) {p : Nat} (hp : p < w.heap.size) (hr : some p ≠ r) {v : Value} {i : Nat} (h : w.cell? ⟨p, i, none⟩ = some v) : w1.cell? ⟨p, i, none⟩ = some v := by
  rw [World.cell?_of_block (a := ⟨p, i, none⟩) (hg.block p (by simp; omega) hr)]
  show ((w.alloc o1).alloc o2).cell? ⟨p, i, none⟩ = _
  rw [World.cell?_alloc_past _ _ _ (by simp; omega), World.cell?_alloc_past _ _ _ hp, h]

theorem grown_frozen {w w1 : World} {o1 o2 : Obj} {r : Option Nat} (hg : ((w.alloc o1).alloc o2).drew.grownBy w1 r) {p : Nat} (hp : p < w.heap.size) (hr : some p ≠ r) {i : Nat} (h : w.frozen? ⟨p, i, none⟩ = false) : w1.frozen? ⟨p, i, none⟩ = false := by
  rw [World.frozen?_of_block (a := ⟨p, i, none⟩) (hg.block p (by simp; omega) hr)]
  show ((w.alloc o1).alloc o2).frozen? ⟨p, i, none⟩ = _
  rw [World.frozen?_alloc_past _ _ _ (by simp; omega), World.frozen?_alloc_past _ _ _ hp, h]

/-- What 'add' leaves: the row of objects is one longer, and the pool's first cell leads to it. -/
def Added (w w' : World) (p : Nat) (a : Option Addr) (n cap : Nat) (xs news : List Value) : Prop :=
  ∃ g cap' w1, w1.ownsRow 0 141 4 (.slice (some ⟨g, 0, none⟩) (n + 1) cap') (n + 1) (xs ++ news) ∧ (∃ o1 o2, ((w.alloc o1).alloc o2).drew.grownBy w1 (Value.slice a n cap).ownBlock ∧ ((some g : Option Nat) = (Value.slice a n cap).ownBlock ∨ g = w.heap.size + 2)) ∧
    w' = w1.setCell ⟨p, 0, none⟩ (.slice (some ⟨g, 0, none⟩) (n + 1) cap')

set_option maxRecDepth 100000 in
set_option maxHeartbeats 800000 in
theorem add_some (p : Nat) (k h : Int) (d : ByteArray) (a : Option Addr) (n cap : Nat) (xs : List Value) (ea : Option Addr) (el ec : Nat) (w : World) (hp : p < w.heap.size) (hn : n < 400)
    (k0 : w.cell? ⟨p, 0, none⟩ = some (.slice a n cap)) (f0 : w.frozen? ⟨p, 0, none⟩ = false) (hown : w.ownsRow 0 141 4 (.slice a n cap) n xs) (hpa : some p ≠ (Value.slice a n cap).ownBlock) :
    Calls Tryz.prog 79 #[.pointer (some ⟨p, 0, none⟩), .agg #[.int .i64 k, .string d, .slice ea el ec, .int .i64 h]] w fun e w' => e = .returned (.tuple #[.int .i64 ((n : Int) + 1), .int .i64 0]) ∧ Added w w' p a n cap xs [.int .i64 k, .string d, .slice ea el ec, .int .i64 h] := by
  obtain ⟨i0, hi, hz0, hz1, hz2⟩ := info_parts info51
  have h1c : ∀ u ∈ [Value.int .i64 k, .string d, .slice ea el ec, .int .i64 h], u.oneCell' = true := by intro u hu; simp at hu; rcases hu with rfl | rfl | rfl | rfl <;> rfl
  have HO : Hid (w.ownsRow 0 141 4 (.slice a n cap) n xs) := hown
  have HP : Hid (some p ≠ (Value.slice a n cap).ownBlock) := hpa
  have H1 : Hid (∀ u ∈ [Value.int .i64 k, .string d, .slice ea el ec, .int .i64 h], u.oneCell' = true) := h1c
  clear hown hpa h1c
  go_enter Tryz.func79, Tryz.ntmps79
  go_wp2
  go_region_law (refine step_append_own_at rfl (.tmp 16) (.tmp 18) 133 rfl 0 141 i0 _ 4 56 Tryz.underlying133 hi hz0 hz1 hz2 rfl (by decide) (.slice a n cap) n xs (by simp [Act.eval]) ((HO.out.alloc _).alloc _) ⟨w.heap.size + 1, 0, none⟩ 1 1 [.int .i64 k, .string d, .slice ea el ec, .int .i64 h] (by simp [Act.eval]) rfl (by have q := cells4 (w.alloc (.cells #[.int .i64 k, .string d, .slice ea el ec, .int .i64 h] 141)) (.int .i64 k) (.string d) (.slice ea el ec) (.int .i64 h) 141; rw [World.size_alloc] at q; exact q) H1.out (by unfold maxLen; omega) (by omega) (Nat.zero_le _) ?_; intro v' w1 hown' hgrow hloc; obtain ⟨g, cap', rfl⟩ := slice_of_owns hown' (by omega); have k1' := grown_cell hgrow hp HP.out k0; have k2' := grown_frozen hgrow hp HP.out f0)
  all_goals (go_wp2; go_ret2; exact ⟨rfl, g, cap', w1, hown', ⟨_, _, hgrow, by simpa [Value.ownBlock] using hloc⟩, rfl⟩)

theorem Added.facts {w w' : World} {p : Nat} {a : Option Addr} {n cap : Nat} {xs news : List Value} (hA : Added w w' p a n cap xs news) {c1 c2 c3 c4 : Value} (hp : w.heap[p]? = some (.cells #[.slice a n cap, c1, c2, c3, c4] 137 (0, 0))) (hpa : some p ≠ (Value.slice a n cap).ownBlock) :
    ∃ g cap', w'.heap[p]? = some (.cells #[.slice (some ⟨g, 0, none⟩) (n + 1) cap', c1, c2, c3, c4] 137 (0, 0)) ∧ w'.ownsRow 0 141 4 (.slice (some ⟨g, 0, none⟩) (n + 1) cap') (n + 1) (xs ++ news) ∧ ((some g : Option Nat) = (Value.slice a n cap).ownBlock ∨ w.heap.size ≤ g) ∧
      w'.os = w.os ∧ w'.tape = w.tape ∧ w'.output = w.output ∧ w.heap.size ≤ w'.heap.size ∧ ∀ k, k < w.heap.size → k ≠ p → some k ≠ (Value.slice a n cap).ownBlock → w'.heap[k]? = w.heap[k]? := by
  obtain ⟨g, cap', w1, hown, ⟨o1, o2, hg, hloc⟩, rfl⟩ := hA
  have hlt : p < w.heap.size := (Array.getElem?_eq_some_iff.1 hp).1
  have hkeep : ∀ k, k < w.heap.size → some k ≠ (Value.slice a n cap).ownBlock → w1.heap[k]? = w.heap[k]? := by
    intro k hk hne
    rw [hg.block k (by simp; omega) hne]
    show ((w.alloc o1).alloc o2).heap[k]? = _
    rw [Below.heap_alloc _ _ _ (by simp; omega), Below.heap_alloc _ _ _ hk]
  have hw1 : w1.heap[p]? = some (.cells #[.slice a n cap, c1, c2, c3, c4] 137 (0, 0)) := by rw [hkeep p hlt hpa, hp]
  have hgp : g ≠ p := by
    rintro rfl
    rcases hloc with h | h
    · exact hpa h
    · omega
  have hs := hg.size
  simp at hs
  refine ⟨g, cap', ?_, ?_, ?_, ?_, ?_, ?_, ?_, ?_⟩
  · simp [World.setCell, Array.getElem?_modify, hw1]
  · obtain ⟨h1, h2⟩ := hown
    refine ⟨h1, ?_⟩
    rcases h2 with ⟨h, _⟩ | ⟨g0, cap0, cur, hv, hb, hh, r⟩
    · cases h
    · cases hv
      exact Or.inr ⟨g, cap', cur, rfl, hb, by rw [Below.heap_setCell _ _ _ _ hgp]; exact hh, r⟩
  · rcases hloc with h | h
    · exact Or.inl h
    · exact Or.inr (by omega)
  · exact hg.os
  · exact hg.tape
  · exact hg.output
  · simp; omega
  · intro k hk hkp hne
    rw [Below.heap_setCell _ _ _ _ hkp, hkeep k hk hne]

set_option maxRecDepth 100000 in
set_option maxHeartbeats 400000 in
theorem add_full (p : Nat) (k h : Int) (d : ByteArray) (a : Option Addr) (n cap : Nat) (ea : Option Addr) (el ec : Nat) (w : World) (hp : p < w.heap.size) (hn : 400 ≤ n)
    (k0 : w.cell? ⟨p, 0, none⟩ = some (.slice a n cap)) :
    Calls Tryz.prog 79 #[.pointer (some ⟨p, 0, none⟩), .agg #[.int .i64 k, .string d, .slice ea el ec, .int .i64 h]] w fun e w' => e = .returned (.tuple #[.int .i64 0, .int .i64 11]) ∧ w' = w.alloc (.cells #[.int .i64 k, .string d, .slice ea el ec, .int .i64 h] 141) := by
  go_enter Tryz.func79, Tryz.ntmps79
  go_wp2
  go_ret2
  exact ⟨rfl, rfl⟩

set_option maxRecDepth 100000 in
set_option maxHeartbeats 400000 in
theorem clone_any (s : ByteArray) (w : World) (hlim : s.size ≤ 281474976710656) :
    Calls Tryz.prog 52 #[.string s] w fun e w' => e = .returned (.string s) ∧ Below w.heap.size w w' := by
  have hcon := Tryz.stringslite_Clone s w hlim
  go_enter Tryz.func52, Tryz.ntmps52
  go_wp2_with (go_at_call 90; refine hcon.mono ?_; rintro e w' ⟨rfl, hb⟩)
  go_ret
  exact ⟨rfl, hb⟩

end Go.Proofs.YtehpnebekgahnaaGreat
