/- What is proved here: the library's functions that this program calls are. -/
import Derived.Shelf.Strings.Builder1
import Derived.Shelf.Strings.Builder2
import Derived.Shelf.Strings.OnBuilder
import Derived.Shelf.Small.Bits
import Derived.Shelf.Small.Strs
import Derived.Shelf.Strconv.Itoa0
import Derived.Shelf.LaysM
import Derived.Shelf.Strconv.Clone
import Derived.Shelf.Strings.Search1
import Derived.Shelf.Strings.Search2
import Derived.Shelf.Strings.Cut
import Derived.Shelf.Strings.Shaped
import Derived.Shelf.SlGeneric
import Derived.Shelf.SlSortCmp.SmallK
import Derived.Shelf.SlicesE.Clone
import Derived.Ground.SlsfProg
import Derived.Ground.SlgnProg
import Derived.Test.YtlgidcmmgohagaaGreatProg
import Derived.WalkKit
import Derived.WalkSpells
import Derived.WalkLawsBesides
import Derived.Maps.OwnSet
import Derived.Maps.AppendAt
import Derived.Deep.RegionLawGrows
import Derived.Shelf.SlSortCmp.WholeK
import Derived.Sort.OwnSorted
import Derived.Deep.QuietTactic
import Derived.BigQuiet
import Derived.Laws.CopyOwn
import Derived.DeepKeys4
import Derived.StillTailTactics
namespace Go.Proofs.YtlgidcmmgohagaaGreat
theorem cv:type_of% @Nat.lt_of_lt_of_le:=@Nat.lt_of_lt_of_le
theorem ay:type_of% @if_neg:=@if_neg
theorem bA:type_of% @Nat.le_refl:=@Nat.le_refl
theorem aL:type_of% @if_pos:=@if_pos
theorem dY:type_of% @decide_eq_false:=@decide_eq_false
theorem dG:type_of% @Nat.zero_le:=@Nat.zero_le
theorem eU:type_of% @Nat.le_trans:=@Nat.le_trans
theorem kO:type_of% @List.getElem?_eq_getElem:=@List.getElem?_eq_getElem
theorem qX:type_of% @List.take_succ_eq_append_getElem:=@List.take_succ_eq_append_getElem
theorem jk:type_of% @List.getElem_mem:=@List.getElem_mem
end Go.Proofs.YtlgidcmmgohagaaGreat
namespace Go.Proofs
open Go.Shelf
def Tryz.GJ:Go.Shelf.Ren:=⟨fun | 106=>191 | 213=>218 | 265=>247 | n=>n,fun | 9=>9 | 3=>3 | n=>n,fun | n=>n⟩
theorem Tryz.VJ:Go.Proofs.Lays.n106 Tryz.prog Tryz.GJ:={
 mixed:=by kernel_rfl
 f106:=Tryz.func191.trans (congrArg some (by kernel_rfl))
 f213:=Tryz.func218.trans (congrArg some (by kernel_rfl))
 f265:=Tryz.func247.trans (congrArg some (by kernel_rfl))
 t3:=Tryz.underlying3
 a3:=Tryz.isAgg3
 z3:=Tryz.sizeOf3
 v3:=Tryz.zeroValue3
 t9:=Tryz.underlying9
 a9:=Tryz.isAgg9
 z9:=Tryz.sizeOf9
 v9:=Tryz.zeroValue9 }
open Go.RowKit in
theorem Tryz.strings_Compare (a b:ByteArray)(w:World):
  Calls Tryz.prog 191 #[.string a,.string b] w fun e w'=>e=.returned (.int .i64 (Lib.compareBytes a.data.toList b.data.toList))/\w'=w:=Any.strings_Compare Tryz.VJ a b w
def Tryz.GK:Go.Shelf.Ren:=⟨fun | 137=>185 | 217=>216 | 266=>246 | n=>n,fun | 9=>9 | 5=>5 | 3=>3 | n=>n,fun | n=>n⟩
theorem Tryz.VK:Go.Proofs.Lays.n137 Tryz.prog Tryz.GK:={
 mixed:=by kernel_rfl
 f137:=Tryz.func185.trans (congrArg some (by kernel_rfl))
 f217:=Tryz.func216.trans (congrArg some (by kernel_rfl))
 f266:=Tryz.func246.trans (congrArg some (by kernel_rfl))
 t3:=Tryz.underlying3
 a3:=Tryz.isAgg3
 z3:=Tryz.sizeOf3
 v3:=Tryz.zeroValue3
 t5:=Tryz.underlying5
 a5:=Tryz.isAgg5
 z5:=Tryz.sizeOf5
 v5:=Tryz.zeroValue5
 t9:=Tryz.underlying9
 a9:=Tryz.isAgg9
 z9:=Tryz.sizeOf9
 v9:=Tryz.zeroValue9 }
open Go.RowKit in
theorem Tryz.strings_IndexByte (s:ByteArray)(c:Int)(w:World):
  Calls Tryz.prog 185 #[.string s,.int .u8 c] w fun e w'=>e=.returned (.int .i64 (Lib.indexByte s.data.toList c.toNat.toUInt8))/\w'=w:=Any.strings_IndexByte Tryz.VK s c w
def Tryz.EK:Go.Shelf.Ren:=⟨fun | 316=>186 | n=>n,fun | 9=>9 | 3=>3 | 4=>4 | 37=>204 | 0=>0 | 127=>310 | 5=>5 | n=>n,fun | n=>n⟩
theorem Tryz.Rh:Go.Proofs.LaysM.n316 Tryz.prog Tryz.EK:={
 mixed:=by kernel_rfl
 f316:=Tryz.func186.trans (congrArg some (by kernel_rfl))
 t0:=Tryz.underlying0
 a0:=Tryz.isAgg0
 z0:=Tryz.sizeOf0
 v0:=Tryz.zeroValue0
 t3:=Tryz.underlying3
 a3:=Tryz.isAgg3
 z3:=Tryz.sizeOf3
 v3:=Tryz.zeroValue3
 t4:=Tryz.underlying4
 a4:=Tryz.isAgg4
 z4:=Tryz.sizeOf4
 v4:=Tryz.zeroValue4
 t9:=Tryz.underlying9
 a9:=Tryz.isAgg9
 z9:=Tryz.sizeOf9
 v9:=Tryz.zeroValue9
 t37:=Tryz.underlying204
 a37:=Tryz.isAgg204
 z37:=Tryz.sizeOf204
 v37:=Tryz.zeroValue204
 t127:=Tryz.underlying310
 a127:=Tryz.isAgg310
 z127:=Tryz.sizeOf310
 v127:=Tryz.zeroValue310
 t5:=Tryz.underlying5
 a5:=Tryz.isAgg5
 z5:=Tryz.sizeOf5
 v5:=Tryz.zeroValue5
 i0:=by kernel_rfl
 i3:=by kernel_rfl
 i4:=by kernel_rfl
 i5:=by kernel_rfl
 i9:=by kernel_rfl
 i37:=by kernel_rfl
 i127:=by kernel_rfl }
open Go.RowKit in
theorem Tryz.stringslite_Clone (s:ByteArray)(w:World)(vk:s.size<=281474976710656):
  Calls Tryz.prog 186 #[.string s] w fun e w'=>e=.returned (.string s)/\Below w.heap.size w w':=Any.stringslite_Clone Tryz.Rh s w vk
def Tryz.GL:Go.Shelf.Ren:=⟨fun | 217=>216 | 266=>246 | n=>n,fun | 9=>9 | 5=>5 | 3=>3 | n=>n,fun | n=>n⟩
theorem Tryz.VL:Go.Proofs.Lays.n217 Tryz.prog Tryz.GL:={
 mixed:=by kernel_rfl
 f217:=Tryz.func216.trans (congrArg some (by kernel_rfl))
 f266:=Tryz.func246.trans (congrArg some (by kernel_rfl))
 t3:=Tryz.underlying3
 a3:=Tryz.isAgg3
 z3:=Tryz.sizeOf3
 v3:=Tryz.zeroValue3
 t5:=Tryz.underlying5
 a5:=Tryz.isAgg5
 z5:=Tryz.sizeOf5
 v5:=Tryz.zeroValue5
 t9:=Tryz.underlying9
 a9:=Tryz.isAgg9
 z9:=Tryz.sizeOf9
 v9:=Tryz.zeroValue9 }
open Go.RowKit Go.Lib in
theorem Tryz.stringslite_IndexByte (s:ByteArray)(c:Int)(w:World):
  Calls Tryz.prog 216 #[.string s,.int .u8 c] w fun e w'=>e=.returned (.int .i64 (Lib.indexByte s.data.toList c.toNat.toUInt8))/\w'=w:=Any.stringslite_IndexByte Tryz.VL s c w
def Tryz.Og:Go.Shelf.Ren:=⟨fun | 6=>171 | 15=>208 | 14=>209 | 28=>233 | 29=>234 | 20=>235 | 21=>236 | 22=>237 | 23=>238 | 24=>239 | 25=>240 | 26=>241 | 27=>242 | 46=>255 | 47=>251 | 48=>252 | 49=>256 | 50=>257 | 57=>264 | n=>n,fun | 22=>55 | 24=>96 | 25=>264 | 3=>3 | 39=>301 | 0=>0 | 53=>323 | 55=>325 | 4=>4 | 46=>317 | 45=>316 | 50=>232 | 5=>5 | 9=>9 | 66=>332 | 70=>336 | 76=>350 | 77=>98 | n=>n,fun | n=>n⟩
theorem Tryz.abH:Go.Proofs.SlLaysF0.n6 Tryz.prog Tryz.Og:={
 mixed:=by kernel_rfl
 f6:=⟨Tryz.f171.name,by decide,Tryz.func171.trans (congrArg some (by kernel_rfl))⟩
 f14:=⟨Tryz.f209.name,by decide,Tryz.func209.trans (congrArg some (by kernel_rfl))⟩
 f15:=Tryz.func208.trans (congrArg some (by kernel_rfl))
 f20:=⟨Tryz.f235.name,by decide,Tryz.func235.trans (congrArg some (by kernel_rfl))⟩
 f21:=⟨Tryz.f236.name,by decide,Tryz.func236.trans (congrArg some (by kernel_rfl))⟩
 f22:=⟨Tryz.f237.name,by decide,Tryz.func237.trans (congrArg some (by kernel_rfl))⟩
 f23:=⟨Tryz.f238.name,by decide,Tryz.func238.trans (congrArg some (by kernel_rfl))⟩
 f24:=⟨Tryz.f239.name,by decide,Tryz.func239.trans (congrArg some (by kernel_rfl))⟩
 f25:=⟨Tryz.f240.name,by decide,Tryz.func240.trans (congrArg some (by kernel_rfl))⟩
 f26:=⟨Tryz.f241.name,by decide,Tryz.func241.trans (congrArg some (by kernel_rfl))⟩
 f27:=⟨Tryz.f242.name,by decide,Tryz.func242.trans (congrArg some (by kernel_rfl))⟩
 f28:=Tryz.func233.trans (congrArg some (by kernel_rfl))
 f29:=Tryz.func234.trans (congrArg some (by kernel_rfl))
 f46:=⟨Tryz.f255.name,by decide,Tryz.func255.trans (congrArg some (by kernel_rfl))⟩
 f47:=Tryz.func251.trans (congrArg some (by kernel_rfl))
 f48:=Tryz.func252.trans (congrArg some (by kernel_rfl))
 f49:=⟨Tryz.f256.name,by decide,Tryz.func256.trans (congrArg some (by kernel_rfl))⟩
 f50:=⟨Tryz.f257.name,by decide,Tryz.func257.trans (congrArg some (by kernel_rfl))⟩
 f57:=⟨Tryz.f264.name,by decide,Tryz.func264.trans (congrArg some (by kernel_rfl))⟩
 t0:=Tryz.underlying0
 a0:=Tryz.isAgg0
 z0:=Tryz.sizeOf0
 v0:=Tryz.zeroValue0
 t3:=Tryz.underlying3
 a3:=Tryz.isAgg3
 z3:=Tryz.sizeOf3
 v3:=Tryz.zeroValue3
 t4:=Tryz.underlying4
 a4:=Tryz.isAgg4
 z4:=Tryz.sizeOf4
 v4:=Tryz.zeroValue4
 t5:=Tryz.underlying5
 a5:=Tryz.isAgg5
 z5:=Tryz.sizeOf5
 v5:=Tryz.zeroValue5
 t9:=Tryz.underlying9
 a9:=Tryz.isAgg9
 z9:=Tryz.sizeOf9
 v9:=Tryz.zeroValue9
 t22:=Tryz.underlying55
 a22:=Tryz.isAgg55
 z22:=Tryz.sizeOf55
 v22:=Tryz.zeroValue55
 t25:=Tryz.underlying264
 a25:=Tryz.isAgg264
 z25:=Tryz.sizeOf264
 v25:=Tryz.zeroValue264
 t39:=Tryz.underlying301
 a39:=Tryz.isAgg301
 z39:=Tryz.sizeOf301
 v39:=Tryz.zeroValue301
 t45:=Tryz.underlying316
 a45:=Tryz.isAgg316
 z45:=Tryz.sizeOf316
 v45:=Tryz.zeroValue316
 t46:=Tryz.underlying317
 a46:=Tryz.isAgg317
 z46:=Tryz.sizeOf317
 v46:=Tryz.zeroValue317
 t50:=Tryz.underlying232
 a50:=Tryz.isAgg232
 z50:=Tryz.sizeOf232
 v50:=Tryz.zeroValue232
 t53:=Tryz.underlying323
 a53:=Tryz.isAgg323
 z53:=Tryz.sizeOf323
 v53:=Tryz.zeroValue323
 t55:=Tryz.underlying325
 a55:=Tryz.isAgg325
 z55:=Tryz.sizeOf325
 v55:=Tryz.zeroValue325
 t66:=Tryz.underlying332
 a66:=Tryz.isAgg332
 z66:=Tryz.sizeOf332
 v66:=Tryz.zeroValue332
 t70:=Tryz.underlying336
 a70:=Tryz.isAgg336
 z70:=Tryz.sizeOf336
 v70:=Tryz.zeroValue336
 t76:=Tryz.underlying350
 a76:=Tryz.isAgg350
 z76:=Tryz.sizeOf350
 v76:=Tryz.zeroValue350
 t77:=Tryz.underlying98
 a77:=Tryz.isAgg98
 z77:=Tryz.sizeOf98
 v77:=Tryz.zeroValue98 }
def Tryz.Ke:Go.Shelf.Ren:=⟨fun | 41=>170 | n=>n,fun | 22=>55 | 23=>96 | 4=>4 | n=>n,fun | n=>n⟩
theorem Tryz.Ri:Go.Proofs.SlLaysE0.n41 Tryz.prog Tryz.Ke:={
 mixed:=by kernel_rfl
 f41:=⟨Tryz.f170.name,by decide,Tryz.func170.trans (congrArg some (by kernel_rfl))⟩
 t4:=Tryz.underlying4
 a4:=Tryz.isAgg4
 z4:=Tryz.sizeOf4
 v4:=Tryz.zeroValue4
 t22:=Tryz.underlying55
 a22:=Tryz.isAgg55
 z22:=Tryz.sizeOf55
 v22:=Tryz.zeroValue55 }
def Tryz.Kf:Go.Shelf.Ren:=⟨fun | 41=>201 | n=>n,fun | 22=>59 | 23=>29 | 4=>4 | n=>n,fun | n=>n⟩
theorem Tryz.Rj:Go.Proofs.SlLaysE0.n41 Tryz.prog Tryz.Kf:={
 mixed:=by kernel_rfl
 f41:=⟨Tryz.f201.name,by decide,Tryz.func201.trans (congrArg some (by kernel_rfl))⟩
 t4:=Tryz.underlying4
 a4:=Tryz.isAgg4
 z4:=Tryz.sizeOf4
 v4:=Tryz.zeroValue4
 t22:=Tryz.underlying59
 a22:=Tryz.isAgg59
 z22:=Tryz.sizeOf59
 v22:=Tryz.zeroValue59 }
end Go.Proofs
namespace Go.Proofs.YtlgidcmmgohagaaGreat
open Go.RowKit
set_option linter.unusedVariables false
theorem afN (c0 c1 c2 c3:Value)(w:World):(Instr.field 213 (.agg #[c0,c1,c2,c3]) 0).run Tryz.prog w=.ok c0 w:=by kernel_rfl
theorem afO (c0 c1 c2 c3:Value)(w:World):(Instr.field 213 (.agg #[c0,c1,c2,c3]) 1).run Tryz.prog w=.ok c1 w:=by kernel_rfl
theorem abI (c0 c1 c2 c3:Value)(w:World):(Instr.field 213 (.agg #[c0,c1,c2,c3]) 2).run Tryz.prog w=.ok c2 w:=by kernel_rfl
theorem abJ (c0 c1 c2 c3:Value)(w:World):(Instr.field 213 (.agg #[c0,c1,c2,c3]) 3).run Tryz.prog w=.ok c3 w:=by kernel_rfl
set_option maxRecDepth 100000 in
set_option maxHeartbeats 400000 in
theorem Kg (p g n cap j:Nat)(k:Int)(d:ByteArray)(ea:Option Addr)(el ec:Nat)(h:Int)(w:World)(hp:p<w.heap.size)(hg:g<w.heap.size)(h0:w.cell? ⟨p,0,none⟩=some (.slice (some ⟨g,0,none⟩) n cap))
  (hn:j<n)(hm:n<=400)
  (k0:w.cell? ⟨g,j*4,none⟩=some (.int .i64 k))(k1:w.cell? ⟨g,j*4+1,none⟩=some (.string d))(k2:w.cell? ⟨g,j*4+2,none⟩=some (.slice ea el ec))(k3:w.cell? ⟨g,j*4+3,none⟩=some (.int .i64 h)):
  Calls Tryz.prog 113 #[.pointer (some ⟨p,0,none⟩),.int .i64 ((j:Int)+1)] w fun e w'=>e=.returned (.agg #[.int .i64 k,.string d,.slice ea el ec,.int .i64 h])/\w'=w.alloc (.cells #[.int .i64 k,.string d,.slice ea el ec,.int .i64 h] 213):=by
 have e1:((j:Int)+1-1)=j:=by omega
 go_enter Tryz.func113,Tryz.ntmps113;go_wp2;exact bodyPost_ret (v:=.agg #[.int .i64 k,.string d,.slice ea el ec,.int .i64 h]) (by simp[results,Tryz.results113,go_sem]) rfl ⟨rfl,rfl⟩
set_option maxRecDepth 100000 in
set_option maxHeartbeats 400000 in
theorem Dq (p n cap:Nat)(a:Option Addr)(id:Int)(w:World)(h0:w.cell? ⟨p,0,none⟩=some (.slice a n cap))(hm:n<=400)(hid:id<1\/(n:Int)<id):
  Calls Tryz.prog 61 #[.pointer (some ⟨p,0,none⟩),.int .i64 id] w fun e w'=>e=.returned (.int .i64 0)/\w'=w:=by
 by_cases h1:id<1
 ·go_enter Tryz.func61,Tryz.ntmps61
  go_wp2;go_ret;exact⟨rfl,rfl⟩
 ·have h2:(n:Int)<id:=by omega
  go_enter Tryz.func61,Tryz.ntmps61;go_wp2;go_ret;exact⟨rfl,rfl⟩
set_option maxRecDepth 100000 in
set_option maxHeartbeats 400000 in
theorem Dr (p g n cap j:Nat)(k:Int)(d:ByteArray)(ea:Option Addr)(el ec:Nat)(h:Int)(w:World)(hp:p<w.heap.size)(hg:g<w.heap.size)(h0:w.cell? ⟨p,0,none⟩=some (.slice (some ⟨g,0,none⟩) n cap))
  (hn:j<n)(hm:n<=400)
  (k0:w.cell? ⟨g,j*4,none⟩=some (.int .i64 k))(k1:w.cell? ⟨g,j*4+1,none⟩=some (.string d))(k2:w.cell? ⟨g,j*4+2,none⟩=some (.slice ea el ec))(k3:w.cell? ⟨g,j*4+3,none⟩=some (.int .i64 h)):
  Calls Tryz.prog 61 #[.pointer (some ⟨p,0,none⟩),.int .i64 ((j:Int)+1)] w fun e w'=>e=.returned (.int .i64 k)/\w'=w.alloc (.cells #[.int .i64 k,.string d,.slice ea el ec,.int .i64 h] 213):=by
 have hcon:=fun W hp hg h0 k0 k1 k2 k3=>Kg p g n cap j k d ea el ec h W hp hg h0 hn hm k0 k1 k2 k3;have t1:¬((j:Int)+1<1):=by omega
 have f0:=afN;have t2:¬((n:Int)<(j:Int)+1):=by omega
 go_enter Tryz.func61,Tryz.ntmps61;go_wp2_with (go_at_call 113;refine (hcon _ hp hg h0 k0 k1 k2 k3).mono ?_;rintro e w' ⟨rfl,rfl⟩);go_ret;exact⟨rfl,rfl⟩
set_option maxRecDepth 100000 in
set_option maxHeartbeats 400000 in
theorem Rk (p n cap:Nat)(a:Option Addr)(id:Int)(w:World)(h0:w.cell? ⟨p,0,none⟩=some (.slice a n cap))(hm:n<=400)(hid:id<1\/(n:Int)<id):
  Calls Tryz.prog 84 #[.pointer (some ⟨p,0,none⟩),.int .i64 id] w fun e w'=>e=.returned (.tuple #[.string ByteArray.empty,.int .i64 13])/\w'=w:=by
 have hcon:=Dq p n cap a id w h0 hm hid;go_enter Tryz.func84,Tryz.ntmps84;go_wp2_with (go_at_call 61;refine hcon.mono ?_;rintro e w' ⟨rfl,rfl⟩);go_ret2;exact⟨rfl,rfl⟩
set_option maxRecDepth 100000 in
set_option maxHeartbeats 400000 in
theorem Oh (p g n cap j:Nat)(k:Int)(d:ByteArray)(ea:Option Addr)(el ec:Nat)(h:Int)(w:World)(hp:p<w.heap.size)(hg:g<w.heap.size)(h0:w.cell? ⟨p,0,none⟩=some (.slice (some ⟨g,0,none⟩) n cap))
  (hn:j<n)(hm:n<=400)
  (k0:w.cell? ⟨g,j*4,none⟩=some (.int .i64 k))(k1:w.cell? ⟨g,j*4+1,none⟩=some (.string d))(k2:w.cell? ⟨g,j*4+2,none⟩=some (.slice ea el ec))(k3:w.cell? ⟨g,j*4+3,none⟩=some (.int .i64 h)):
  Calls Tryz.prog 84 #[.pointer (some ⟨p,0,none⟩),.int .i64 ((j:Int)+1)] w fun e w'=>e=.returned (if k=1 then .tuple #[.string d,.int .i64 0] else .tuple #[.string ByteArray.empty,.int .i64 13])/\Below w.heap.size w w':=by
 have wA:=Dr p g n cap j k d ea el ec h w hp hg h0 hn hm k0 k1 k2 k3;have hcon:=fun W hp hg h0 k0 k1 k2 k3=>Kg p g n cap j k d ea el ec h W hp hg h0 hn hm k0 k1 k2 k3;by_cases hk:k=1
 ·subst hk
  rw[if_pos rfl];have hb:∀b o,b<w.heap.size->(w.alloc (.cells #[.int .i64 1,.string d,.slice ea el ec,.int .i64 h] 213)).cell? ⟨b,o,none⟩=w.cell? ⟨b,o,none⟩:=fun b o hb=>World.cell?_alloc_past _ _ _ hb
  have f1:=afO;go_enter Tryz.func84,Tryz.ntmps84;go_wp2_with (first
   | (go_at_call 61;refine wA.mono ?_;rintro e w' ⟨rfl,rfl⟩)
   | (go_at_call 113;refine (hcon _ (by simp;omega) (by simp;omega) (by rw[hb _ _ hp];exact h0) (by rw[hb _ _ hg];exact k0) (by rw[hb _ _ hg];exact k1) (by rw[hb _ _ hg];exact k2) (by rw[hb _ _ hg];exact k3)).mono ?_;rintro e w' ⟨rfl,rfl⟩))
  go_ret2;exact⟨rfl,((Below.refl _ _).alloc (Nat.le_refl _) _).alloc (by simp) _⟩
 ·rw[if_neg hk]
  have dy:(k == 1)=false:=by simpa using hk
  go_enter Tryz.func84,Tryz.ntmps84;go_wp2_with (go_at_call 61;refine wA.mono ?_;rintro e w' ⟨rfl,rfl⟩);go_ret2;exact⟨rfl,((Below.refl _ _).alloc (Nat.le_refl _) _)⟩
set_option maxRecDepth 100000 in
set_option maxHeartbeats 400000 in
theorem GM (w:World):
  Calls Tryz.prog 59 #[] w fun e w'=>e=.returned (.pointer (some ⟨w.heap.size+2,0,none⟩))/\w'=((w.alloc (.map #[] 0)).alloc (.map #[] 0)).alloc (.cells #[.slice none 0 0,.map (some w.heap.size),.map (some (w.heap.size+1)),.slice none 0 0,.bool false] 185):=by
 have EL:=@run_makeMap Tryz.prog;go_enter Tryz.func59,Tryz.ntmps59;go_wp2;go_ret;exact⟨rfl,rfl⟩
set_option maxRecDepth 100000 in
set_option maxHeartbeats 400000 in
theorem EM (w:World):
  Calls Tryz.prog 25 #[] w fun e w'=>e=.returned (.pointer (some ⟨w.heap.size+3,0,none⟩))/\w'=(((w.alloc (.map #[] 0)).alloc (.map #[] 0)).alloc (.cells #[.slice none 0 0,.map (some w.heap.size),.map (some (w.heap.size+1)),.slice none 0 0,.bool false] 185)).alloc (.cells #[.pointer (some ⟨w.heap.size+2,0,none⟩)] 119):=by
 go_enter Tryz.func25,Tryz.ntmps25;go_wp2_with (go_at_call 59;refine (GM _).mono ?_;rintro e w' ⟨rfl,rfl⟩);go_ret;exact⟨rfl,rfl⟩
theorem eO {P:Program}{ops:Array Oper}{o:Oper}{a:Act}{w:World}{K:Act->World->Prop}{Q:Exit->Act->World->Prop}{E:Prop}
  (hg:o.guard=none)(s x:Operand)(t:TypeId)(hop:o.op=Op.call { callee:=Callee.builtin Builtin.append,args:=#[s,x],argTypes:=#[t,t] })
  (base:Nat)(e:TypeId)(i:TypeInfo)(z:Value)(size bytes:Nat)(h1:P.underlying t=some (.slice e))(h2:P.info? e=some i)(h3:i.zero=some z)(h4:i.size=size)(h5:i.bytes=bytes)(h6:z.cells.size=size)(h7:0<size)
  (v:Value)(n:Nat)(olds:List Value)(hs:a.eval s=v)(hown:w.ownsRow base e size v n olds)
  (ad:Addr)(m c:Nat)(news:List Value)(hx:a.eval x=.slice (some ad) m c)(hn:news.length=m*size)(hc:∀j u,news[j]? = some u->w.cell? (ad.add j)=some u)(h1c:∀u ∈ news,u.oneCell'=true)
  (b1:n+m<=maxLen)(b2:(n+m)*bytes<=140737488355328)(hbase:base<=w.heap.size)
  (hK:∀v' w',w'.ownsRow base e size v' (n+m) (olds++news)->w.grownBy w' v.ownBlock->(v'.ownBlock=v.ownBlock\/v'.ownBlock=some w.heap.size)->K (a.put o.dst v') w'):
  if Region.wanted o (yielded ops a.tmps)=true then Oper.wp P o a w K Q else E:=by
 have hw:Region.wanted o (yielded ops a.tmps)=true:=by simp[Region.wanted,hg]
 rw[if_pos hw];obtain⟨v',w',hrun,r1,r2,_,r3⟩:=run_append_own_at (P:=P) w base t o.type e i z size bytes h1 h2 h3 h4 h5 h6 h7 v n olds hown ad m c news hn hc h1c b1 b2 hbase;unfold Oper.wp;simp[execOp,hop,resolve,invoke,builtin,hs,hx,hrun,Result.andThen];exact hK v' w' r1 r2 r3
theorem YO:(Tryz.prog.info? 213).map (fun i=>(i.zero,i.size,i.bytes))=some (some (.agg #[.int .i64 0,.string ByteArray.empty,.slice none 0 0,.int .i64 0]),4,56):=by kernel_rfl
theorem Rl (w:World)(c0 c1 c2 c3:Value)(t:TypeId):∀j u,[c0,c1,c2,c3][j]? = some u->(w.alloc (.cells #[c0,c1,c2,c3] t)).drew.cell? ((⟨w.heap.size,0,none⟩:Addr).add j)=some u:=by
 intro j u h
 match j,h with
 | 0,h=>simpa [Addr.add] using h
 | 1,h=>simpa [Addr.add] using h
 | 2,h=>simpa [Addr.add] using h
 | 3,h=>simpa [Addr.add] using h
 | j+4,h=>simp at h
theorem ak {w:World}{base:Nat}{e:TypeId}{size:Nat}{v:Value}{n:Nat}{xs:List Value}(h:w.ownsRow base e size v n xs)(hn:0<n):∃g cap,v=.slice (some ⟨g,0,none⟩) n cap:=by
 rcases h.2 with ⟨_,h0⟩ | ⟨g,cap,_,hv,_⟩
 ·omega
 ·exact⟨g,cap,hv⟩
theorem Kh {w w1:World}{o1 o2:Obj}{r:Option Nat}(hg:((w.alloc o1).alloc o2).drew.grownBy w1 r){p:Nat}(hp:p<w.heap.size)(hr:some p≠r){v:Value}{i:Nat}(h:w.cell? ⟨p,i,none⟩=some v):w1.cell? ⟨p,i,none⟩=some v:=by
 rw[World.cell?_of_block (a:=⟨p,i,none⟩) (hg.block p (by simp;omega) hr)];show ((w.alloc o1).alloc o2).cell? ⟨p,i,none⟩=_;rw[World.cell?_alloc_past _ _ _ (by simp;omega),World.cell?_alloc_past _ _ _ hp,h]
theorem EN {w w1:World}{o1 o2:Obj}{r:Option Nat}(hg:((w.alloc o1).alloc o2).drew.grownBy w1 r){p:Nat}(hp:p<w.heap.size)(hr:some p≠r){i:Nat}(h:w.frozen? ⟨p,i,none⟩=false):w1.frozen? ⟨p,i,none⟩=false:=by
 rw[World.frozen?_of_block (a:=⟨p,i,none⟩) (hg.block p (by simp;omega) hr)];show ((w.alloc o1).alloc o2).frozen? ⟨p,i,none⟩=_;rw[World.frozen?_alloc_past _ _ _ (by simp;omega),World.frozen?_alloc_past _ _ _ hp,h]
def AK (w w':World)(p:Nat)(a:Option Addr)(n cap:Nat)(xs news:List Value):Prop:=
 ∃g cap' w1,w1.ownsRow 0 213 4 (.slice (some ⟨g,0,none⟩) (n+1) cap') (n+1) (xs++news)/\(∃o1 o2,((w.alloc o1).alloc o2).drew.grownBy w1 (Value.slice a n cap).ownBlock/\((some g:Option Nat)=(Value.slice a n cap).ownBlock\/g=w.heap.size+2))/\
  w'=w1.setCell ⟨p,0,none⟩ (.slice (some ⟨g,0,none⟩) (n+1) cap')
set_option maxRecDepth 100000 in
set_option maxHeartbeats 800000 in
theorem GN (p:Nat)(k h:Int)(d:ByteArray)(a:Option Addr)(n cap:Nat)(xs:List Value)(ea:Option Addr)(el ec:Nat)(w:World)(hp:p<w.heap.size)(hn:n<400)
  (k0:w.cell? ⟨p,0,none⟩=some (.slice a n cap))(f0:w.frozen? ⟨p,0,none⟩=false)(hown:w.ownsRow 0 213 4 (.slice a n cap) n xs)(kP:some p≠(Value.slice a n cap).ownBlock):
  Calls Tryz.prog 112 #[.pointer (some ⟨p,0,none⟩),.agg #[.int .i64 k,.string d,.slice ea el ec,.int .i64 h]] w fun e w'=>e=.returned (.tuple #[.int .i64 ((n:Int)+1),.int .i64 0])/\AK w w' p a n cap xs [.int .i64 k,.string d,.slice ea el ec,.int .i64 h]:=by
 obtain⟨i0,hi,hz0,hz1,hz2⟩:=info_parts YO;have h1c:∀u ∈ [Value.int .i64 k,.string d,.slice ea el ec,.int .i64 h],u.oneCell'=true:=by intro u hu;simp at hu;rcases hu with rfl | rfl | rfl | rfl <;> rfl
 have HO:Hid (w.ownsRow 0 213 4 (.slice a n cap) n xs):=hown;have HP:Hid (some p≠(Value.slice a n cap).ownBlock):=kP;have H1:Hid (∀u ∈ [Value.int .i64 k,.string d,.slice ea el ec,.int .i64 h],u.oneCell'=true):=h1c;clear hown kP h1c;go_enter Tryz.func112,Tryz.ntmps112;go_wp2
 go_region_law (refine eO rfl (.tmp 16) (.tmp 18) 181 rfl 0 213 i0 _ 4 56 Tryz.underlying181 hi hz0 hz1 hz2 rfl (by decide) (.slice a n cap) n xs (by simp[Act.eval]) ((HO.out.alloc _).alloc _) ⟨w.heap.size+1,0,none⟩ 1 1 [.int .i64 k,.string d,.slice ea el ec,.int .i64 h] (by simp[Act.eval]) rfl (by have q:=Rl (w.alloc (.cells #[.int .i64 k,.string d,.slice ea el ec,.int .i64 h] 213)) (.int .i64 k) (.string d) (.slice ea el ec) (.int .i64 h) 213;rw[World.size_alloc] at q;exact q) H1.out (by unfold maxLen;omega) (by omega) (Nat.zero_le _) ?_;intro v' w1 hown' hgrow hloc;obtain⟨g,cap',rfl⟩:=ak hown' (by omega);have Vc:=Kh hgrow hp HP.out k0;have XS:=EN hgrow hp HP.out f0)
 all_goals (go_wp2;go_ret2;exact⟨rfl,g,cap',w1,hown',⟨_,_,hgrow,by simpa [Value.ownBlock] using hloc⟩,rfl⟩)
theorem AK.facts {w w':World}{p:Nat}{a:Option Addr}{n cap:Nat}{xs news:List Value}(hA:AK w w' p a n cap xs news){c1 c2 c3 c4:Value}(hp:w.heap[p]? = some (.cells #[.slice a n cap,c1,c2,c3,c4] 185 (0,0)))(kP:some p≠(Value.slice a n cap).ownBlock):
  ∃g cap',w'.heap[p]? = some (.cells #[.slice (some ⟨g,0,none⟩) (n+1) cap',c1,c2,c3,c4] 185 (0,0))/\w'.ownsRow 0 213 4 (.slice (some ⟨g,0,none⟩) (n+1) cap') (n+1) (xs++news)/\((some g:Option Nat)=(Value.slice a n cap).ownBlock\/w.heap.size<=g)/\
   w'.os=w.os/\w'.tape=w.tape/\w'.output=w.output/\w.heap.size<=w'.heap.size/\∀k,k<w.heap.size->k≠p->some k≠(Value.slice a n cap).ownBlock->w'.heap[k]? = w.heap[k]?:=by
 obtain⟨g,cap',w1,hown,⟨o1,o2,hg,hloc⟩,rfl⟩:=hA;have hlt:p<w.heap.size:=(Array.getElem?_eq_some_iff.1 hp).1;have jo:∀k,k<w.heap.size->some k≠(Value.slice a n cap).ownBlock->w1.heap[k]? = w.heap[k]?:=by
  intro k hk hne;rw[hg.block k (by simp;omega) hne];show ((w.alloc o1).alloc o2).heap[k]? = _;rw[Below.heap_alloc _ _ _ (by simp;omega),Below.heap_alloc _ _ _ hk]
 have jb:w1.heap[p]? = some (.cells #[.slice a n cap,c1,c2,c3,c4] 185 (0,0)):=by rw[jo p hlt kP,hp]
 have Oi:g≠p:=by
  rintro rfl;rcases hloc with h | h
  ·exact kP h
  ·omega
 have hs:=hg.size;simp at hs;refine⟨g,cap',?_,?_,?_,?_,?_,?_,?_,?_⟩
 ·simp[World.setCell,Array.getElem?_modify,jb]
 ·obtain⟨h1,h2⟩:=hown
  refine⟨h1,?_⟩;rcases h2 with ⟨h,_⟩ | ⟨g0,abK,cur,hv,hb,hh,r⟩
  ·cases h
  ·cases hv
   exact Or.inr ⟨g,cap',cur,rfl,hb,by rw[Below.heap_setCell _ _ _ _ Oi];exact hh,r⟩
 ·rcases hloc with h | h
  ·exact Or.inl h
  ·exact Or.inr (by omega)
 ·exact hg.os
 ·exact hg.tape
 ·exact hg.output
 ·simp;omega
 ·intro k hk gU hne
  rw[Below.heap_setCell _ _ _ _ gU,jo k hk hne]
set_option maxRecDepth 100000 in
set_option maxHeartbeats 400000 in
theorem GQ (p:Nat)(k h:Int)(d:ByteArray)(a:Option Addr)(n cap:Nat)(ea:Option Addr)(el ec:Nat)(w:World)(hp:p<w.heap.size)(hn:400<=n)
  (k0:w.cell? ⟨p,0,none⟩=some (.slice a n cap)):
  Calls Tryz.prog 112 #[.pointer (some ⟨p,0,none⟩),.agg #[.int .i64 k,.string d,.slice ea el ec,.int .i64 h]] w fun e w'=>e=.returned (.tuple #[.int .i64 0,.int .i64 11])/\w'=w.alloc (.cells #[.int .i64 k,.string d,.slice ea el ec,.int .i64 h] 213):=by
 go_enter Tryz.func112,Tryz.ntmps112;go_wp2;go_ret2;exact⟨rfl,rfl⟩
set_option maxRecDepth 100000 in
set_option maxHeartbeats 400000 in
theorem uh (s:ByteArray)(w:World)(vk:s.size<=281474976710656):
  Calls Tryz.prog 130 #[.string s] w fun e w'=>e=.returned (.string s)/\Below w.heap.size w w':=by
 have hcon:=Tryz.stringslite_Clone s w vk;go_enter Tryz.func130,Tryz.ntmps130;go_wp2_with (go_at_call 186;refine hcon.mono ?_;rintro e w' ⟨rfl,hb⟩);go_ret;exact⟨rfl,hb⟩
end Go.Proofs.YtlgidcmmgohagaaGreat
namespace Go.Proofs.YtlgidcmmgohagaaGreat
open Go.RowKit
set_option linter.unusedVariables false
structure gA where
 a:Option Addr
 n:Nat
 c:Nat
 b:Bool
def pt0:gA:=⟨none,0,0,false⟩
variable {ft:gA}
theorem VM:Maps.Keyed Tryz.prog 9:=Maps.string_keyed Tryz.underlying9
theorem EO (w:World):(zeroValue 29).run Tryz.prog w=.ok (.int .i64 0) w:=by kernel_rfl
def b8 (ft:gA)(w:World)(p:Nat)(a:Option Addr)(n cap bf bd:Nat):Prop:=w.heap[p]? = some (.cells #[.slice a n cap,.map (some bf),.map (some bd),.slice ft.a ft.n ft.c,.bool ft.b] 185 (0,0))
theorem b8.c0 {w:World}{p:Nat}{a:Option Addr}{n cap bf bd:Nat}(h:b8 ft w p a n cap bf bd):w.cell? ⟨p,0,none⟩=some (.slice a n cap):=by unfold b8 at h;simp[World.cell?,h]
theorem b8.c1 {w:World}{p:Nat}{a:Option Addr}{n cap bf bd:Nat}(h:b8 ft w p a n cap bf bd):w.cell? ⟨p,1,none⟩=some (.map (some bf)):=by unfold b8 at h;simp[World.cell?,h]
theorem b8.c2 {w:World}{p:Nat}{a:Option Addr}{n cap bf bd:Nat}(h:b8 ft w p a n cap bf bd):w.cell? ⟨p,2,none⟩=some (.map (some bd)):=by unfold b8 at h;simp[World.cell?,h]
theorem b8.f0 {w:World}{p:Nat}{a:Option Addr}{n cap bf bd:Nat}(h:b8 ft w p a n cap bf bd):w.frozen? ⟨p,0,none⟩=false:=by unfold b8 at h;simp[World.frozen?,h]
theorem b8.lt {w:World}{p:Nat}{a:Option Addr}{n cap bf bd:Nat}(h:b8 ft w p a n cap bf bd):p<w.heap.size:=(Array.getElem?_eq_some_iff.1 h).1
theorem b8.below {w w':World}{p:Nat}{a:Option Addr}{n cap bf bd:Nat}(h:b8 ft w p a n cap bf bd)(hb:Below w.heap.size w w'):b8 ft w' p a n cap bf bd:=by
 unfold b8 at h ⊢;rw[hb.block p (Array.getElem?_eq_some_iff.1 h).1,h]
set_option maxRecDepth 100000 in
set_option maxHeartbeats 400000 in
theorem GU (p:Nat)(d:ByteArray)(w:World)(hd:256<d.size)(hm:d.size<=maxLen):
  Calls Tryz.prog 77 #[.pointer (some ⟨p,0,none⟩),.string d] w fun e w'=>e=.returned (.tuple #[.int .i64 0,.int .i64 11])/\w'=w:=by
 unfold maxLen at hm;go_enter Tryz.func77,Tryz.ntmps77;go_wp2;go_ret2;exact⟨rfl,rfl⟩
set_option maxRecDepth 100000 in
set_option maxHeartbeats 400000 in
theorem GV (p:Nat)(a:Option Addr)(n cap bf bd:Nat)(Df:DataW Unit)(d:ByteArray)(c:Int)(w:World)(hp:b8 ft w p a n cap bf bd)(hd:d.size<=256)
  (hf:w.ownsMap Tryz.prog 9 (plainElem Tryz.prog 29) bf n Df)(hh:Maps.has Df (.string d.data.toList)=true)(hc:Df.atKey (.string d.data.toList) (.lit (.int .i64 0))=.lit (.int .i64 c)):
  Calls Tryz.prog 77 #[.pointer (some ⟨p,0,none⟩),.string d] w fun e w'=>e=.returned (.tuple #[.int .i64 c,.int .i64 0])/\w'=w:=by
 have k1:=hp.c1;have hkey:=WideMaps.keyOf_string_mk (P:=Tryz.prog) Tryz.underlying9 (s:=d) (by unfold maxLen;omega);have HC:Hid (Df.atKey (.string d.data.toList) (.lit (.int .i64 0))=.lit (.int .i64 c)):=hc;have HH:Hid (Maps.has Df (.string d.data.toList)=true):=hh;clear hc hh;go_enter Tryz.func77,Tryz.ntmps77;go_wp2_with (first
  | (at_lookup;refine wpList_lookup_own_ok_int _ rfl _ _ 182 rfl 9 29 .i64 VM Tryz.underlying182 Tryz.underlying29 (EO _) bf n Df rfl hf _ _ rfl hkey ?_;intro c' hat hwc;rw[HH.out];obtain rfl:c'=c:=by (have:=hat.symm.trans HC.out;simpa using this))
  | go_in)
 go_ret2;exact⟨rfl,rfl⟩
set_option maxRecDepth 1000000 in
set_option maxHeartbeats 400000 in
theorem EP (p:Nat)(a:Option Addr)(n cap bf bd:Nat)(Df:DataW Unit)(d:ByteArray)(w:World)(hp:b8 ft w p a n cap bf bd)(hd:d.size<=256)(hn:400<=n)
  (hf:w.ownsMap Tryz.prog 9 (plainElem Tryz.prog 29) bf n Df)(hh:Maps.has Df (.string d.data.toList)=false):
  Calls Tryz.prog 77 #[.pointer (some ⟨p,0,none⟩),.string d] w fun e w'=>e=.returned (.tuple #[.int .i64 0,.int .i64 11])/\Below w.heap.size w w':=by
 have k1:=hp.c1;have hkey:=WideMaps.keyOf_string_mk (P:=Tryz.prog) Tryz.underlying9 (s:=d) (by unfold maxLen;omega);have HH:Hid (Maps.has Df (.string d.data.toList)=false):=hh;have mH:=uh d w (by omega);have AL:=fun (W:World) (hW:b8 ft W p a n cap bf bd)=>GQ p 1 0 d a n cap none 0 0 W hW.lt hn hW.c0;clear hh;go_enter Tryz.func77,Tryz.ntmps77;go_wp2_with (first
  | (at_lookup;refine wpList_lookup_own_ok_int _ rfl _ _ 182 rfl 9 29 .i64 VM Tryz.underlying182 Tryz.underlying29 (EO _) bf n Df rfl hf _ _ rfl hkey ?_;intro c' hat hwc;rw[HH.out])
  | (go_at_call 130;refine mH.mono ?_;rintro e w1 ⟨rfl,hb⟩;have Am:=hp.below hb)
  | (go_at_call 112;refine (AL _ Am).mono ?_;rintro e w2 ⟨rfl,rfl⟩)
  | go_in)
 go_ret2;exact⟨rfl,hb.alloc hb.size _⟩
theorem dQ {H:Type}{P:Program}{k:TypeId}{R:Value->Option (DataW H×List MemPlace)}{w w':World}{b n:Nat}{D:DataW H}(h:w.ownsMap P k R b n D)(e:w'.heap[b]? = w.heap[b]?):w'.ownsMap P k R b n D:=by
 obtain⟨es,clock,hb,r⟩:=h;exact⟨es,clock,e.trans hb,r⟩
theorem dM {H:Type}{P:Program}{k:TypeId}{R:Value->Option (DataW H×List MemPlace)}{w:World}{b n:Nat}{D:DataW H}(h:w.ownsMap P k R b n D):∃es clock,w.heap[b]? = some (.map es clock):=by
 obtain⟨es,clock,hb,r⟩:=h;exact⟨es,clock,hb⟩
theorem dS {w:World}{base:Nat}{e:TypeId}{size n:Nat}{v:Value}{xs:List Value}(h:w.ownsRow base e size v n xs){b:Nat}{es:Array MapEntry}{clock:Nat}(hb:w.heap[b]? = some (.map es clock)):some b≠v.ownBlock:=by
 rcases h.2 with ⟨rfl,_⟩ | ⟨g,cap,cur,rfl,_,hg,_⟩
 ·simp[Value.ownBlock]
 ·simp only[Value.ownBlock,ne_eq,Option.some.injEq]
  rintro rfl;rw[hb] at hg;cases hg
theorem aA {w:World}{base:Nat}{e:TypeId}{size n:Nat}{v:Value}{xs:List Value}(h:w.ownsRow base e size v n xs){b:Nat}{c:Array Value}{t:TypeId}{fz:Nat×Nat}(hb:w.heap[b]? = some (.cells c t fz))(ht:t≠e):some b≠v.ownBlock:=by
 rcases h.2 with ⟨rfl,_⟩ | ⟨g,cap,cur,rfl,_,hg,_⟩
 ·simp[Value.ownBlock]
 ·simp only[Value.ownBlock,ne_eq,Option.some.injEq]
  rintro rfl;rw[hb] at hg;cases hg;exact ht rfl
structure Rm (w w':World)(p b:Nat)(own:Option Nat):Prop where
 os:w'.os=w.os
 tape:w'.tape=w.tape
 output:w'.output=w.output
 size:w.heap.size<=w'.heap.size
 block:∀k,k<w.heap.size->k≠p->k≠b->some k≠own->w'.heap[k]? = w.heap[k]?
theorem ai {w w':World}{base:Nat}{e:TypeId}{size n:Nat}{v:Value}{xs:List Value}(h:w.ownsRow base e size v n xs)(hk:∀g,v.ownBlock=some g->w'.heap[g]? = w.heap[g]?):w'.ownsRow base e size v n xs:=by
 refine⟨h.1,?_⟩;rcases h.2 with h0 | ⟨g,cap,cur,rfl,hb,hg,r⟩
 ·exact Or.inl h0
 ·exact Or.inr ⟨g,cap,cur,rfl,hb,(hk g rfl).trans hg,r⟩
theorem ah {w:World}{base:Nat}{e:TypeId}{size n:Nat}{v:Value}{xs:List Value}(h:w.ownsRow base e size v n xs){g:Nat}(hg:v.ownBlock=some g):g<w.heap.size:=by
 rcases h.2 with ⟨rfl,_⟩ | ⟨g',cap,cur,rfl,_,hh,_⟩
 ·simp[Value.ownBlock] at hg
 ·simp[Value.ownBlock] at hg;subst hg;exact (Array.getElem?_eq_some_iff.1 hh).1
theorem Rn {w w':World}{p:Nat}{a:Option Addr}{n cap:Nat}{xs news:List Value}(hA:AK w w' p a n cap xs news){bf bd:Nat}(hp:b8 ft w p a n cap bf bd)(kP:some p≠(Value.slice a n cap).ownBlock):w'.cell? ⟨p,1,none⟩=some (.map (some bf)):=by
 obtain⟨g,cap',CK,_⟩:=hA.facts hp kP;exact b8.c1 CK
theorem Oj {w w':World}{p:Nat}{a:Option Addr}{n cap:Nat}{xs news:List Value}(hA:AK w w' p a n cap xs news){bf bd:Nat}(hp:b8 ft w p a n cap bf bd)(kP:some p≠(Value.slice a n cap).ownBlock)
  {H:Type}{P:Program}{k:TypeId}{R:Value->Option (DataW H×List MemPlace)}{b m:Nat}{D:DataW H}(h:w.ownsMap P k R b m D)(GX:b≠p)(hne:some b≠(Value.slice a n cap).ownBlock):w'.ownsMap P k R b m D:=by
 obtain⟨g,cap',CK,hr2,hloc,hos,MZ,hout,hsz,jo⟩:=hA.facts hp kP;exact dQ h (jo b h.lt GX hne)
set_option maxRecDepth 100000 in
set_option maxHeartbeats 800000 in
theorem GY (p:Nat)(a:Option Addr)(n cap bf bd:Nat)(xs:List Value)(Df:DataW Unit)(d:ByteArray)(w:World)(hp:b8 ft w p a n cap bf bd)(hd:d.size<=256)(hn:n<400)
  (hrow:w.ownsRow 0 213 4 (.slice a n cap) n xs)(hf:w.ownsMap Tryz.prog 9 (plainElem Tryz.prog 29) bf n Df)(hh:Maps.has Df (.string d.data.toList)=false):
  Calls Tryz.prog 77 #[.pointer (some ⟨p,0,none⟩),.string d] w fun e w'=>e=.returned (.tuple #[.int .i64 ((n:Int)+1),.int .i64 0])/\
   ∃g cap',b8 ft w' p (some ⟨g,0,none⟩) (n+1) cap' bf bd/\w'.ownsRow 0 213 4 (.slice (some ⟨g,0,none⟩) (n+1) cap') (n+1) (xs ++ [.int .i64 1,.string d,.slice none 0 0,.int .i64 0])/\((some g:Option Nat)=(Value.slice a n cap).ownBlock\/w.heap.size<=g)/\
    w'.ownsMap Tryz.prog 9 (plainElem Tryz.prog 29) bf (n+1) (Df.put (.string d.data.toList) (.lit (.int .i64 ((n:Int)+1))))/\Rm w w' p bf (Value.slice a n cap).ownBlock:=by
 have k1:=hp.c1;have hkey:=WideMaps.keyOf_string_mk (P:=Tryz.prog) Tryz.underlying9 (s:=d) (by unfold maxLen;omega);have HH:Hid (Maps.has Df (.string d.data.toList)=false):=hh;have mH:=uh d w (by omega);obtain⟨es,clock,XT⟩:=dM hf;have nf:=dS hrow XT;have np:=aA hrow (b:=p) hp (by decide);have nC:bf≠p:=by rintro rfl;unfold b8 at hp;rw[XT] at hp;cases hp
 have Ds:bf<w.heap.size:=(Array.getElem?_eq_some_iff.1 XT).1;have uS:∀g,(Value.slice a n cap).ownBlock=some g->g<w.heap.size:=fun g hg=>ah hrow hg;have AL:=fun (W:World) (hW:b8 ft W p a n cap bf bd) (hr:W.ownsRow 0 213 4 (.slice a n cap) n xs)=>GN p 1 0 d a n cap xs none 0 0 W hW.lt hn hW.c0 hW.f0 hr np;have NF:Hid (some bf≠(Value.slice a n cap).ownBlock):=nf;have NP:Hid (some p≠(Value.slice a n cap).ownBlock):=np;have HRL:Hid (∀g,(Value.slice a n cap).ownBlock=some g->g<w.heap.size):=uS;have M4:Hid (bf≠p):=nC;have HR:Hid (w.ownsRow 0 213 4 (.slice a n cap) n xs):=hrow;have afQ:Hid (∀(W:World) (hW:b8 ft W p a n cap bf bd) (hr:W.ownsRow 0 213 4 (.slice a n cap) n xs),Calls Tryz.prog 112 #[.pointer (some ⟨p,0,none⟩),.agg #[.int .i64 1,.string d,.slice none 0 0,.int .i64 0]] W fun e w'=>e=.returned (.tuple #[.int .i64 ((n:Int)+1),.int .i64 0])/\AK W w' p a n cap xs [.int .i64 1,.string d,.slice none 0 0,.int .i64 0]):=AL;clear hh nf np XT uS nC hrow AL;go_enter Tryz.func77,Tryz.ntmps77;go_wp2_with (first
  | (at_lookup;refine wpList_lookup_own_ok_int _ rfl _ _ 182 rfl 9 29 .i64 VM Tryz.underlying182 Tryz.underlying29 (EO _) bf n Df rfl hf _ _ rfl hkey ?_;intro c' hat hwc;rw[HH.out])
  | (go_at_call 130;refine mH.mono ?_;rintro e w1 ⟨rfl,hb⟩;have Am:=hp.below hb;have hr1:=ai HR.out (fun g hg=>hb.block g (HRL.out g hg)))
  | (go_at_call 112;refine (afQ.out _ Am hr1).mono ?_;rintro e w2 ⟨rfl,hA⟩;have k2:=Rn hA Am NP.out;have hf2:=Oj hA Am NP.out (dQ hf (hb.block bf Ds)) M4.out NF.out)
  | (at_mapUpdate;refine wpList_mapUpdate_own _ rfl _ _ _ 182 rfl 9 29 VM Tryz.underlying182 _ bf n _ rfl hf2 (by unfold maxLen;omega) _ _ _ rfl rfl hkey _ [] (plainElem_int Tryz.underlying29 (WalkArith.wf_i64 (by omega))) ?_;intro w3 jq hg3)
  | go_in)
 go_ret2;obtain⟨g,cap',CK,hr2,hloc,hos,MZ,hout,hsz,jo⟩:=hA.facts Am NP.out;have nC:=M4.out;have XU:=hb.size;have hpg:(some p:Option Nat)≠some bf:=fun e=>nC (Option.some.inj e).symm
 refine⟨rfl,g,cap',?_,?_,?_,jq,⟨?_,?_,?_,?_,?_⟩⟩
 ·unfold b8;rw[hg3.block p (Nat.lt_of_lt_of_le (b8.lt hp) (Nat.le_trans XU hsz)) hpg];exact CK
 ·refine ai hr2 (fun g' kT=>hg3.block g' (ah hr2 kT) ?_)
  obtain⟨Ro,YP,hb2⟩:=dM hf2
  have:=dS hr2 hb2
  rw[kT] at this;exact fun e=>this e.symm
 ·rcases hloc with h | h
  ·exact Or.inl h
  ·exact Or.inr (by omega)
 ·rw[hg3.os,hos,hb.os]
 ·rw[hg3.tape,MZ,hb.tape]
 ·rw[hg3.output,hout,hb.output]
 ·have:=hg3.size;omega
 ·intro k hk gU hkb hne
  rw[hg3.block k (by omega) (fun e=>hkb (Option.some.inj e)),jo k (by omega) gU hne,hb.block k hk]
end Go.Proofs.YtlgidcmmgohagaaGreat
namespace Go.Proofs.YtlgidcmmgohagaaGreat
open Go.RowKit
set_option linter.unusedVariables false
set_option maxRecDepth 100000 in
set_option maxHeartbeats 400000 in
theorem GZ (s:ByteArray)(w:World)(hm:s.size<=maxLen)(h:s.size<1\/12<s.size):
  Calls Tryz.prog 129 #[.string s] w fun e w'=>e=.returned (.bool false)/\w'=w:=by
 unfold maxLen at hm;rcases h with h | h
 ·go_enter Tryz.func129,Tryz.ntmps129
  go_wp2;go_ret;exact⟨rfl,rfl⟩
 ·have h':¬s.size<1:=by omega
  go_enter Tryz.func129,Tryz.ntmps129;go_wp2;go_ret;exact⟨rfl,rfl⟩
set_option maxRecDepth 100000 in
set_option maxHeartbeats 400000 in
theorem AO (s:ByteArray)(w:World)(h1:1<=s.size)(h2:s.size<=12)(h:(s.toList == [46])=true\/(s.toList == [46])=false/\(s.toList == [46,46])=true):
  Calls Tryz.prog 129 #[.string s] w fun e w'=>e=.returned (.bool false)/\w'=w:=by
 rcases h with h | ⟨h3,h⟩
 ·go_enter Tryz.func129,Tryz.ntmps129
  go_wp2;go_ret;exact⟨rfl,rfl⟩
 ·go_enter Tryz.func129,Tryz.ntmps129
  go_wp2;go_ret;exact⟨rfl,rfl⟩
set_option maxRecDepth 100000 in
set_option maxHeartbeats 400000 in
theorem Ki (s:ByteArray)(w:World)(h1:1<=s.size)(h2:s.size<=12)(h3:(s.toList == [46])=false)(h4:(s.toList == [46,46])=false)(a b:Int)(ha:Lib.indexByte s.data.toList 0=a)(hb:Lib.indexByte s.data.toList 47=b):
  Calls Tryz.prog 129 #[.string s] w fun e w'=>e=.returned (.bool (decide (a<0) && decide (b<0)))/\w'=w:=by
 have hA:∀W,Calls Tryz.prog 185 #[.string s,.int .u8 0] W fun e w'=>e=.returned (.int .i64 a)/\w'=W:=by
  intro W;have h:=Tryz.strings_IndexByte s 0 W;rw[<-ha];exact h
 have hB:∀W,Calls Tryz.prog 185 #[.string s,.int .u8 47] W fun e w'=>e=.returned (.int .i64 b)/\w'=W:=by
  intro W;have h:=Tryz.strings_IndexByte s 47 W;rw[<-hb];exact h
 clear ha hb;by_cases ha0:a<0
 ·by_cases hb0:b<0
  ·go_enter Tryz.func129,Tryz.ntmps129
   go_wp2_with fail;refine (hA _).mono ?_;rintro e w' ⟨rfl,rfl⟩;go_wp2_with fail;refine (hB _).mono ?_;rintro e w' ⟨rfl,rfl⟩;go_wp2;go_ret;exact⟨by simp[ha0,hb0],rfl⟩
  ·have hb1:decide (b<0)=false:=by simpa using hb0
   go_enter Tryz.func129,Tryz.ntmps129;go_wp2_with fail;refine (hA _).mono ?_;rintro e w' ⟨rfl,rfl⟩;go_wp2_with fail;refine (hB _).mono ?_;rintro e w' ⟨rfl,rfl⟩;go_wp2;go_ret;exact⟨by simp[ha0,hb0],rfl⟩
 ·have ha1:decide (a<0)=false:=by simpa using ha0
  go_enter Tryz.func129,Tryz.ntmps129;go_wp2_with fail;refine (hA _).mono ?_;rintro e w' ⟨rfl,rfl⟩;go_wp2;go_ret;exact⟨by simp[ha1],rfl⟩
def aF (s:ByteArray):Bool:=
 decide (1<=s.size) && decide (s.size<=12) && !(s.toList == [46]) && !(s.toList == [46,46]) && decide (Lib.indexByte s.data.toList 0<0) && decide (Lib.indexByte s.data.toList 47<0)
theorem xX (s:ByteArray)(w:World)(hm:s.size<=maxLen):Calls Tryz.prog 129 #[.string s] w fun e w'=>e=.returned (.bool (aF s))/\w'=w:=by
 by_cases h:s.size<1\/12<s.size
 ·have hv:aF s=false:=by
   unfold aF;rcases h with h | h
   ·have:¬1<=s.size:=by omega
    simp[this]
   ·have:¬s.size<=12:=by omega
    simp[this]
  rw[hv];exact GZ s w hm h
 ·have h1:1<=s.size:=by omega
  have h2:s.size<=12:=by omega
  cases h3:s.toList == [46] with
  | true=>
   rw[show aF s=false by unfold aF;simp[h3]];exact AO s w h1 h2 (.inl h3)
  | false=>
   cases h4:s.toList == [46,46] with
   | true=>
    rw[show aF s=false by unfold aF;simp[h4]];exact AO s w h1 h2 (.inr ⟨h3,h4⟩)
   | false=>
    rw[show aF s=(decide (Lib.indexByte s.data.toList 0<0) && decide (Lib.indexByte s.data.toList 47<0)) by unfold aF;simp[h1,h2,h3,h4]];exact Ki s w h1 h2 h3 h4 _ _ rfl rfl
end Go.Proofs.YtlgidcmmgohagaaGreat
namespace Go.Proofs.YtlgidcmmgohagaaGreat
open Go.RowKit Go.Sort Go.Shelf
set_option linter.unusedVariables false
set_option maxRecDepth 100000
set_option maxHeartbeats 16000000
theorem xY (a b:UInt8):a<b\/a=b\/b<a:=by
 rcases Nat.lt_trichotomy a.toNat b.toNat with h | h | h
 ·exact Or.inl (UInt8.lt_iff_toNat_lt.2 h)
 ·exact Or.inr (Or.inl (UInt8.toNat_inj.1 h))
 ·exact Or.inr (Or.inr (UInt8.lt_iff_toNat_lt.2 h))
theorem xZ (a:UInt8):¬a<a:=fun h=>Nat.lt_irrefl _ (UInt8.lt_iff_toNat_lt.1 h)
theorem G1 {a b c:UInt8}(h:a<b)(k:b<c):a<c:=UInt8.lt_iff_toNat_lt.2 (Nat.lt_trans (UInt8.lt_iff_toNat_lt.1 h) (UInt8.lt_iff_toNat_lt.1 k))
theorem oA {a b:UInt8}(h:a<b):¬b<a:=fun k=>xZ _ (G1 h k)
theorem sG:∀a:List UInt8,Lib.compareBytes a a=0
 | []=>rfl
 | x :: r=>by simp[Lib.compareBytes,sG r]
theorem ku:∀a b:List UInt8,Lib.compareBytes a b=0->a=b
 | [],[],_=>rfl
 | [],_ :: _,h=>by simp[Lib.compareBytes] at h
 | _ :: _,[],h=>by simp[Lib.compareBytes] at h
 | x :: r,y :: s,h=>by
  rcases xY x y with k | k | k
  ·simp[Lib.compareBytes,k] at h
  ·subst k;simp[Lib.compareBytes] at h;rw[ku r s h]
  ·simp[Lib.compareBytes,k,oA k] at h
theorem oB:∀a b:List UInt8,Lib.compareBytes b a = - Lib.compareBytes a b
 | [],[]=>rfl
 | [],_ :: _=>rfl
 | _ :: _,[]=>rfl
 | x :: r,y :: s=>by
  rcases xY x y with k | k | k
  ·simp[Lib.compareBytes,k,oA k]
  ·subst k;simp[Lib.compareBytes];exact oB r s
  ·simp[Lib.compareBytes,k,oA k]
theorem lT:∀a b c:List UInt8,Lib.compareBytes a b<0->Lib.compareBytes b c<0->Lib.compareBytes a c<0
 | [],[],_,h,_=>by simp[Lib.compareBytes] at h
 | [],_ :: _,[],_,k=>by simp[Lib.compareBytes] at k
 | [],_ :: _,_ :: _,_,_=>by simp[Lib.compareBytes]
 | _ :: _,[],_,h,_=>by simp[Lib.compareBytes] at h
 | _ :: _,_ :: _,[],_,k=>by simp[Lib.compareBytes] at k
 | x :: r,y :: s,z :: t,h,k=>by
  rcases xY x y with a | a | a
  ·rcases xY y z with b | b | b
   ·simp[Lib.compareBytes,G1 a b]
   ·subst b;simp[Lib.compareBytes,a]
   ·simp[Lib.compareBytes,b,oA b] at k
  ·subst a
   rcases xY x z with b | b | b
   ·simp[Lib.compareBytes,b]
   ·subst b
    simp only[Lib.compareBytes,xZ,if_false] at h k ⊢
    exact lT r s t h k
   ·simp[Lib.compareBytes,b,oA b] at k
  ·simp[Lib.compareBytes,a,oA a] at h
theorem Kj (a b c:List UInt8)(h:¬Lib.compareBytes a b<0)(k:¬Lib.compareBytes b c<0):¬Lib.compareBytes a c<0:=by
 intro m;by_cases h0:Lib.compareBytes a b=0
 ·rw[<-ku a b h0] at k;exact k m
 ·by_cases k0:Lib.compareBytes b c=0
  ·rw[ku b c k0] at h;exact h m
  ·have h1:Lib.compareBytes b a<0:=by rw[oB];omega
   have k1:Lib.compareBytes c b<0:=by rw[oB];omega
   have:=lT c b a k1 h1
   rw[oB] at this;omega
abbrev aK:=ByteArray×Int×Int
def bL (e:aK):List Value:=[.string e.1,.int .i64 e.2.1,.int .i64 e.2.2]
def flat (es:List aK):List Value:=es.flatMap bL
def CL (x y:aK):Int:=Lib.compareBytes x.1.data.toList y.1.data.toList
theorem afR:SWO (ltOf CL) where
 irrefl x:=by simp[ltOf,CL,sG]
 trans x y z h1 h2:=decide_eq_true (lT _ _ _ (of_decide_eq_true h1) (of_decide_eq_true h2))
 ntrans x y z h1 h2:=decide_eq_false (Kj _ _ _ (of_decide_eq_false h1) (of_decide_eq_false h2))
theorem eZ (e:aK):(bL e).length=3:=rfl
theorem bJ (e:aK):∀v ∈ bL e,v.oneCell'=true:=by
 intro v hv;simp[bL] at hv;rcases hv with rfl | rfl | rfl <;> rfl
theorem bl (es:List aK):(flat es).length=es.length*3:=by
 induction es with
 | nil=>rfl
 | cons e r ih=>simp only[flat,List.flatMap_cons,List.length_append,eZ,List.length_cons] at *;rw[ih];omega
theorem iY (es:List aK):∀v ∈ flat es,v.oneCell'=true:=by
 intro v hv;obtain⟨e,_,h⟩:=List.mem_flatMap.1 hv;exact bJ e v h
theorem fZ:∀(es:List aK) (i j:Nat) (hi:i<es.length),j<3->(flat es)[i*3+j]? = (bL es[i])[j]?
 | [],i,j,hi,_=>by simp at hi
 | e :: r,0,j,_,hj=>by
  simp only[flat,List.flatMap_cons,Nat.zero_mul,Nat.zero_add,List.getElem_cons_zero]
  rw[List.getElem?_append_left (by rw[eZ];exact hj)]
 | e :: r,i+1,j,hi,hj=>by
  have ih:=fZ r i j (by simpa using hi) hj
  simp only[flat,List.flatMap_cons,List.getElem_cons_succ] at ih ⊢
  rw[List.getElem?_append_right (by rw[eZ];omega),eZ,<-ih]
  congr 1;omega
theorem AP (d:Array aK):(flatK bL 3 d).toList=flat d.toList:=by
 apply List.ext_getElem?;intro t;by_cases ht:t<d.size*3
 ·have h3:t % 3<3:=Nat.mod_lt _ (by omega)
  have hi:t / 3<d.toList.length:=by simp;omega
  have e1:=fZ d.toList (t / 3) (t % 3) hi h3;rw[show t / 3*3+t % 3=t by omega] at e1;rw[e1];have vn:t / 3<d.size:=by simpa using hi
  simp only[flatK,Array.toList_map,Array.toList_range,List.getElem?_map,List.getElem?_range ht,Option.map_some,Array.getElem_toList];rw[getElem!_pos d (t / 3) vn,List.getElem?_eq_getElem (by rw[eZ];exact h3),getElem!_pos _ _ (by rw[eZ];exact h3)]
 ·rw[List.getElem?_eq_none (by simp[flatK];omega),List.getElem?_eq_none (by rw[bl];simp;omega)]
theorem CM {w:World}{g:Nat}{cur:Array Value}{e:TypeId}{es:List aK}(hb:w.heap[g]? = some (.cells cur e (0,0)))(ht:cur.toList.take (es.length*3)=flat es):HoldsK bL 3 w g 0 es.toArray:=by
 intro j hj;have Vd:j<es.length*3:=by simpa using hj
 refine⟨?_,by simp[World.frozen?,hb]⟩;have h1:(cur.toList.take (es.length*3))[j]? = (flat es)[j]?:=by rw[ht]
 rw[List.getElem?_take_of_lt Vd] at h1;simp only[World.cell?,hb,Nat.zero_add];simp only[Option.isSome_none,Bool.false_eq_true,if_false];rw[<-Array.getElem?_toList,h1];have h2:=AP es.toArray;simp only at h2;rw[<-h2,Array.getElem?_toList,getElem!_pos _ j hj,Array.getElem?_eq_getElem hj];rfl
theorem ER {w:World}{g n:Nat}{os:Array Obj}{cur:Array Value}{e:TypeId}{fr:Nat×Nat}(d:Array aK)(hb:w.heap[g]? = some (.cells cur e fr)):
  (sortWorldK bL 3 w g 0 n d os).heap[g]? = some (.cells (putCells id 0 (flatK bL 3 d) cur) e fr):=by
 have hg:g<w.heap.size:=(Array.getElem?_eq_some_iff.1 hb).1;unfold sortWorldK;rw[heap_grow_old _ _ (by simpa [putRowK] using hg)];simp[putRowK,putRow,mapBlock,Sort.ahead,Array.getElem?_modify,hb,onCells]
theorem zT {w:World}{g n:Nat}{os:Array Obj}(d:Array aK):w.grownBy (sortWorldK bL 3 w g 0 n d os) (some g):=by
 refine⟨rfl,rfl,rfl,by simp[sortWorldK,putRowK],fun k hk hne=>?_⟩;unfold sortWorldK;rw[heap_grow_old _ _ (by simpa [putRowK] using hk)]
 have:g≠k:=fun e=>hne (by rw[e])
 simp[putRowK,putRow,mapBlock,Sort.ahead,Array.getElem?_modify,this]
theorem AQ (cur:Array Value)(d:Array aK)(h:d.size*3<=cur.size):(putCells id 0 (flatK bL 3 d) cur).toList.take (d.size*3)=flat d.toList:=by
 rw[<-AP];apply List.ext_getElem?;intro j;by_cases hj:j<d.size*3
 ·rw[List.getElem?_take_of_lt hj,Array.getElem?_toList,Array.getElem?_toList]
  have hs:j<(flatK bL 3 d).size:=by simpa using hj
  rw[Array.getElem?_eq_getElem hs,<-getElem!_pos (flatK bL 3 d) j hs];simp[putCells,hj,show j<cur.size by omega]
 ·rw[List.getElem?_take_eq_none (by omega),List.getElem?_eq_none (by simp;omega)]
theorem zU {w:World}{base g cap n:Nat}{e:TypeId}{os:Array Obj}{cur:Array Value}{k:Nat}{d:Array aK}(hl:d.size=k)(hbase:base<=g)(hb:w.heap[g]? = some (.cells cur e (0,0)))
  (h1:k<=cap)(h2:cap<=maxLen)(h3:cur.size=cap*3):
  (sortWorldK bL 3 w g 0 n d os).ownsRow base e 3 (.slice (some ⟨g,0,none⟩) k cap) k (flat d.toList):=by
 subst hl;refine⟨by rw[bl];simp,.inr ⟨g,cap,_,rfl,hbase,ER _ hb,h1,h2,by simp[putCells,h3],AQ cur d (by rw[h3];exact Nat.mul_le_mul_right 3 h1)⟩⟩
theorem isAgg34 (w:World):(isAgg 96).run Tryz.prog w=.ok true w:=by kernel_rfl
theorem sizeOf34 (w:World):(Go.sizeOf 96).run Tryz.prog w=.ok 3 w:=by kernel_rfl
theorem Kk (x y:aK)(W:World):Calls Tryz.prog 172 #[.agg #[.string x.1,.int .i64 x.2.1,.int .i64 x.2.2],.agg #[.string y.1,.int .i64 y.2.1,.int .i64 y.2.2]] W fun e w'=>e=.returned (.int .i64 (CL x y))/\∃q os',w'=grow (W.drewN q) os':=by
 have hcon:=fun W'=>Tryz.strings_Compare x.1 y.1 W';unfold CL;generalize Lib.compareBytes x.1.data.toList y.1.data.toList=r at hcon ⊢;go_enter Tryz.func172,Tryz.ntmps172;go_wp2_with (go_at_call 191;refine (hcon _).mono ?_;rintro e w' ⟨rfl,rfl⟩);go_ret;exact⟨rfl,0,_,by rw[alloc_eq_grow,alloc_eq_grow,grow_grow];rfl⟩
theorem VO (blk off size:Nat)(w:World):CmpLays Tryz.prog 172 #[] bL 3 CL blk off size w:=fun _ _ _ _ x y=>Kk x y _
theorem Rp (blk cap:Nat)(d:Array aK)(w:World)(hH:HoldsK bL 3 w blk 0 d)(hblk:blk<w.heap.size)(hsz:d.size<4611686018427387904):
  Calls Tryz.prog 171 #[.slice (some ⟨blk,0,none⟩) d.size cap,.func (.func 172) #[] #[]] w fun e w'=>e=.returned (.tuple #[])/\∃d' n os,PermIn 0 d.size d d'/\SortedIn (ltOf CL) 0 d.size d'/\w'=sortWorldK bL 3 w blk 0 n d' os:=by
 have eg:∀args w,(callFunc 172 args).run Tryz.prog w=.ok (.enter 172 args) w:=enters_of Tryz.func172 (by kernel_rfl) rfl;exact AnyQ.slices_SortFunc Tryz.abH 3 isAgg34 sizeOf34 bL eZ bJ CL afR 172 #[] blk 0 cap d w eg (VO blk 0 d.size w) hH hblk hsz
theorem x7:(Tryz.prog.info? 96).map (fun i=>(i.zero,i.size,i.bytes))=some (some (.agg #[.string ByteArray.empty,.int .i64 0,.int .i64 0]),3,32):=by kernel_rfl
theorem AR (b off n c:Nat)(es:List aK)(w:World)(hl:es.length=n)(jl:n*32<=140737488355328)(hc:∀j u,(flat es)[j]? = some u->w.cell? ⟨b,off+j,none⟩=some u):
  Calls Tryz.prog 170 #[.slice (some ⟨b,off,none⟩) n c] w fun e w'=>∃v',e=.returned v'/\w'.ownsRow w.heap.size 96 3 v' n (flat es)/\v' ≠ .slice none 0 0/\Below w.heap.size w w':=by
 obtain⟨i0,hi,hz0,hz1,hz2⟩:=info_parts x7;exact AnyE.slices_Clone Tryz.Ri i0 _ 3 32 hi hz0 hz1 hz2 rfl (by decide) sizeOf34 b off n c (flat es) w (by rw[bl,hl]) (by unfold maxLen;omega) jl hc (iY es)
theorem bg {w:World}{b off:Nat}{es:List aK}(hc:∀j u,(flat es)[j]? = some u->w.cell? ⟨b,off+j,none⟩=some u){i:Nat}(hi:i<es.length):
  w.cell? ⟨b,off+i*3,none⟩=some (.string es[i].1)/\w.cell? ⟨b,off+i*3+1,none⟩=some (.int .i64 es[i].2.1)/\w.cell? ⟨b,off+i*3+2,none⟩=some (.int .i64 es[i].2.2):=by
 refine⟨?_,?_,?_⟩
 ·exact hc _ _ (by rw[show i*3=i*3+0 from rfl,fZ es i 0 hi (by omega)];rfl)
 ·rw[Nat.add_assoc];exact hc _ _ (by rw[fZ es i 1 hi (by omega)];rfl)
 ·rw[Nat.add_assoc];exact hc _ _ (by rw[fZ es i 2 hi (by omega)];rfl)
theorem qZ {w:World}{a:Addr}{v:Value}(h:w.cell? a=some v):w.setCell a v=w:=by
 have hh:(w.setCell a v).heap=w.heap:=by
  apply Array.ext_getElem?;intro k;simp only[World.setCell,Array.getElem?_modify];by_cases hk:a.block=k
  ·subst hk
   simp only[if_true];unfold World.cell? at h;cases hb:w.heap[a.block]? with
   | none=>rfl
   | some o=>
    rw[hb] at h;cases o with
    | cells c e fr=>
     simp only[Option.map_some];by_cases hs:a.spot.isSome=true
     ·simp[hs]
     ·simp only[hs,if_false,Bool.false_eq_true] at h ⊢
      have hlt:=(Array.getElem?_eq_some_iff.1 h);obtain⟨h1,h2⟩:=hlt
      congr 2
      apply Array.ext_getElem?;intro j;rw[Array.getElem?_setIfInBounds];by_cases hj:a.off=j
      ·subst hj;simp[h1,h2]
      ·simp[hj]
    | _=>simp at h
  ·simp[hk]
 cases w;simp only[World.setCell] at hh ⊢;rw[hh]
def gC (es:List aK):Prop:=es.Pairwise fun x y=>CL x y<0
def Rq (w w':World)(es:List aK)(n:Nat)(e:Ending):Prop:=
 Below w.heap.size w w'/\
 (((∃x ∈ es,aF x.1=false)/\e=.returned (.tuple #[.slice none 0 0,.int .i64 1]))\/
  ((∀x ∈ es,aF x.1=true)/\¬(es.map (·.1)).Nodup/\e=.returned (.tuple #[.slice none 0 0,.int .i64 6]))\/
  ((∀x ∈ es,aF x.1=true)/\(es.map (·.1)).Nodup/\16<es.length/\e=.returned (.tuple #[.slice none 0 0,.int .i64 11]))\/
  ((∀x ∈ es,aF x.1=true)/\(es.map (·.1)).Nodup/\es.length<=16/\∃es' g cap',e=.returned (.tuple #[.slice (some ⟨g,0,none⟩) n cap',.int .i64 0])/\es'.Perm es/\gC es'/\w'.ownsRow w.heap.size 96 3 (.slice (some ⟨g,0,none⟩) n cap') n (flat es')))
theorem VP (es:List aK)(d':Array aK)(h:PermIn 0 es.toArray.size es.toArray d'):d'.toList.Perm es:=by
 obtain⟨h1,_,h3⟩:=h;have e1:(d'.extract 0 es.toArray.size)=d':=by rw[<-h1];simp
 have e2:(es.toArray.extract 0 es.toArray.size)=es.toArray:=by simp
 rw[e1,e2] at h3;simpa using h3
theorem Ol (d:Array aK)(hs:SortedIn (ltOf CL) 0 d.size d)(hd:∀j (hj:j<d.toList.length),1<=j->d.toList[j].1≠(d.toList[j-1]'(by omega)).1):gC d.toList:=by
 unfold gC;rw[List.pairwise_iff_getElem];intro i j hi hj hij;simp only[Array.length_toList] at hi hj;have key:∀k,(hk:k<d.size)->(h1:1<=k)->CL d[k-1] d[k]<0:=by
  intro k hk h1;have h:=hs (k-1) k (Nat.zero_le _) (by omega) hk;rw[getElem!_pos d k hk,getElem!_pos d (k-1) (by omega)] at h;have h2:=of_decide_eq_false h;have hne:=hd k (by simpa using hk) h1;have h3:CL d[k] d[k-1]≠0:=by
   intro h0
   have:=ku _ _ h0
   apply hne;simp only[Array.getElem_toList];have e:∀a b:ByteArray,a.data.toList=b.data.toList->a=b:=by
    intro a b hab;cases a;cases b
    congr 1
    exact Array.toList_inj.1 hab
   exact e _ _ this
  have h4:CL d[k-1] d[k] = - CL d[k] d[k-1]:=oB _ _;omega
 have chain:∀m,(hm:i+1+m<d.size)->CL d[i] d[i+1+m]<0:=by
  intro m
  induction m with
  | zero=>intro hm;exact key (i+1) hm (by omega)
  | succ m ih=>
   intro hm;have a:=ih (by omega);have b:=key (i+1+(m+1)) hm (by omega);exact lT _ _ _ a b
 have:=chain (j-i-1) (by omega)
 simp only[Array.getElem_toList];have e:i+1+(j-i-1)=j:=by omega
 simp only[e] at this;exact this
theorem zV {es:List aK}(h:gC es):(es.map (·.1)).Nodup:=by
 unfold gC at h;rw[List.Nodup,List.pairwise_map];refine h.imp ?_;intro a b hab e;unfold CL at hab;rw[e,sG] at hab;omega
theorem eo {s:ByteArray}(h:aF s=true):1<=s.size/\s.size<=12:=by
 unfold aF at h;simp only[Bool.and_eq_true,decide_eq_true_eq] at h;exact⟨h.1.1.1.1.1,h.1.1.1.1.2⟩
theorem sH {a b:ByteArray}(h:a.toList=b.toList):a=b:=by
 rw[ByteArray.toList_eq,ByteArray.toList_eq] at h;cases a;cases b
 congr 1
 exact Array.toList_inj.1 h
theorem aQ {w:World}{base:Nat}{e:TypeId}{g n cap:Nat}{es:List aK}(h:w.ownsRow base e 3 (.slice (some ⟨g,0,none⟩) n cap) n (flat es)):∀j u,(flat es)[j]? = some u->w.cell? ⟨g,0+j,none⟩=some u:=by
 intro j u hu;rcases h.2 with ⟨h0,_⟩ | ⟨g',cap',cur,hv,_,hg,_,_,_,ht⟩
 ·cases h0
 ·cases hv
  rw[<-ht] at hu;have hj:j<n*3:=by
   have:=(List.getElem?_eq_some_iff.1 hu).1
   simp at this;omega
  rw[List.getElem?_take_of_lt hj,Array.getElem?_toList] at hu;simp[World.cell?,hg,hu]
theorem G2 {w:World}{base:Nat}{e:TypeId}{g n cap size:Nat}{xs:List Value}(h:w.ownsRow base e size (.slice (some ⟨g,0,none⟩) n cap) n xs)(j:Nat):w.frozen? ⟨g,j,none⟩=false:=by
 rcases h.2 with ⟨h0,_⟩ | ⟨g',cap',cur,hv,_,hg,_⟩
 ·cases h0
 ·cases hv
  simp[World.frozen?,hg]
theorem ES (b off n cap:Nat)(es:List aK)(w:World)(hl:es.length=n)(hbl:b<w.heap.size)(jl:n*32<=140737488355328)(hc:∀j u,(flat es)[j]? = some u->w.cell? ⟨b,off+j,none⟩=some u)
  (hsz:∀e ∈ es,e.1.size<=maxLen):
  Calls Tryz.prog 109 #[.slice (some ⟨b,off,none⟩) n cap] w fun e w'=>Rq w w' es n e:=by
 have HC:Hid (∀j u,(flat es)[j]? = some u->w.cell? ⟨b,off+j,none⟩=some u):=hc;have HS:Hid (∀e ∈ es,e.1.size<=maxLen):=hsz;have HL:Hid (es.length=n):=hl;clear hc hsz hl;go_enter Tryz.func109,Tryz.ntmps109;go_wp2
 go_loopw [11] (fun i wr=>∃k:Nat,k<=n/\i=.int .i64 k/\Below w.heap.size w wr/\Hid (∀j (hj:j<es.length),j<k->aF es[j].1=true)) (fun i _=>n-(intOf i).toNat)
 case atStart=>exact⟨0,Nat.zero_le _,rfl,Below.refl _ _,fun j hj h=>by omega⟩
 case round=>
  obtain⟨k,hk,rfl,hb,HV⟩:=hrel;by_cases hlt:k<n
  ·have dy:k<es.length:=by rw[HL.out];exact hlt
   obtain⟨c0,c1,c2⟩:=bg HC.out dy;have d0:=(hb.cell (p:=⟨b,off+k*3,none⟩) hbl).trans c0;have d1:=(hb.cell (p:=⟨b,off+k*3+1,none⟩) hbl).trans c1;have d2:=(hb.cell (p:=⟨b,off+k*3+2,none⟩) hbl).trans c2;have hv:=fun W=>xX es[k].1 W (HS.out es[k] (List.getElem_mem dy));cases J3:aF es[k].1 with
   | false=>
    have YQ:Hid (aF es[k].1=false):=J3;rw[J3] at hv;clear J3;go_wp2_with (go_at_call 129;refine (hv _).mono ?_;rintro e w' ⟨rfl,rfl⟩);go_ret2;exact⟨hb.alloc hb.size _,.inl ⟨⟨es[k],List.getElem_mem dy,YQ.out⟩,rfl⟩⟩
   | true=>
    have YQ:Hid (aF es[k].1=true):=J3;rw[J3] at hv;clear J3;go_wp2_with (go_at_call 129;refine (hv _).mono ?_;rintro e w' ⟨rfl,rfl⟩);go_roundw
    case rel=>
     refine⟨k+1,by omega,by go_num,hb.alloc hb.size _,?_⟩;intro j hj hjk;by_cases e:j=k
     ·subst e;exact YQ.out
     ·exact HV.out j hj (by omega)
    case measure=>simp[intOf];omega
  ·have gP:k=n:=by omega
   have Kl:Hid (∀x ∈ es,aF x.1=true):=by
    intro x hx;obtain⟨j,hj,rfl⟩:=List.getElem_of_mem hx;exact HV.out j hj (by rw[gP,<-HL.out];exact hj)
   have mH:=AR b off n cap es wr HL.out jl (fun j u h=>(hb.cell (p:=⟨b,off+j,none⟩) hbl).trans (HC.out j u h));go_wp2_with fail;refine mH.mono ?_;rintro e w1 ⟨v1,rfl,hown1,Ao,hb1⟩;have hex:∃g cap' cur,v1=.slice (some ⟨g,0,none⟩) n cap'/\wr.heap.size<=g/\w1.heap[g]? = some (.cells cur 96 (0,0))/\n<=cap'/\cap'<=maxLen/\cur.size=cap'*3/\cur.toList.take (n*3)=flat es:=by
    rcases hown1.2 with ⟨h,_⟩ | ⟨g,cap',cur,h,h2,h3,h4,h5,h6,h7⟩
    ·exact absurd h Ao
    ·exact⟨g,cap',cur,h,h2,h3,h4,h5,h6,h7⟩
   obtain⟨g,cap',cur,xQ,hg1,hg2,hg3,hg4,Gt,wk⟩:=hex;rw[xQ];clear mH hown1 Ao xQ;have hH:=CM (es:=es) hg2 (by rw[HL.out];exact wk);have Rs:=Rp g cap' es.toArray w1 hH (Array.getElem?_eq_some_iff.1 hg2).1 (by simp only[List.size_toArray];rw[HL.out];omega);rw[show es.toArray.size=n by simp only[List.size_toArray];exact HL.out] at Rs;go_wp2_with fail;refine Rs.mono ?_;rintro e w2 ⟨rfl,d',nn,os,Rt,XV,hw2⟩;have Ru:d'.size=n:=by have:=Rt.1;simp only[List.size_toArray] at this;rw[this];exact HL.out
   have hown2:w2.ownsRow w.heap.size 96 3 (.slice (some ⟨g,0,none⟩) n cap') n (flat d'.toList):=by
    rw[hw2];exact zU Ru (Nat.le_trans hb.size hg1) hg2 hg3 hg4 Gt
   have hb2:Below w.heap.size w w2:=by
    rw[hw2];exact ((hb.trans (hb1.mono hb.size)).grown (zT d') (Nat.le_trans hb.size hb1.size) (fun k h=>by cases h;exact Nat.le_trans hb.size hg1))
   obtain⟨es',Rv⟩:∃es',es'=d'.toList:=⟨_,rfl⟩;have HP:Hid (es'.Perm es):=by
    rw[Rv];exact VP es d' (by simpa only[List.size_toArray,HL.out] using Rt)
   have HL':Hid (es'.length=n):=by rw[Rv,Array.length_toList];exact Ru
   have HR:Hid ((∀j (hj:j<es'.length),1<=j->es'[j].1≠(es'[j-1]'(by omega)).1)->gC es'):=by
    subst Rv;exact Ol d' (by rw[Ru];exact XV)
   rw[<-Rv] at hown2;clear Rs Rt XV hw2 hH hg2 wk hb1 hg1 hg3 hg4 Gt Ru Rv gP HV HC;go_wp2
   go_loopw [7] (fun i wq=>∃m:Nat,i=.int .i64 ((m:Int)+1)/\m<=n/\Below w.heap.size w wq/\wq.ownsRow w.heap.size 96 3 (.slice (some ⟨g,0,none⟩) n cap') n (flat es')/\Hid (∀j (hj:j<es'.length),1<=j->j<m+1->es'[j].1≠(es'[j-1]'(by omega)).1)) (fun i _=>n-(intOf i).toNat)
   case atStart=>exact⟨0,by go_num,Nat.zero_le _,hb2,hown2,fun j hj h1 h2=>by omega⟩
   case round=>
    obtain⟨m,rfl,hmn,kC,pE,HD⟩:=hrel;by_cases x8:m+1<n
    ·have Om:m+1<es'.length:=by rw[HL'.out];exact x8
     have Oo:m<es'.length:=(by omega);obtain⟨c0,_,_⟩:=bg (off:=0) (aQ pE) Om;obtain⟨e0,_,_⟩:=bg (off:=0) (aQ pE) Oo;rw[Nat.zero_add] at c0 e0;have a1:((m:Int)+1-1)=m:=by omega
     have a2:((m:Int)+1)<n:=(by omega);cases sA:es'[m+1].1.toList == es'[m].1.toList with
     | true=>
      have HN:Hid ((es'[m+1].1.toList == es'[m].1.toList)=true):=sA;go_wp2
      go_quiet (fail)
      go_wp2;go_ret2;refine⟨below_drewN kC _,.inr (.inl ⟨Kl.out,?_,rfl⟩)⟩;intro zW;have afU:=(HP.out.map (·.1)).nodup_iff.2 zW;have hne:=List.pairwise_iff_getElem.1 afU m (m+1) (by simpa using Oo) (by simpa using Om) (by omega);simp only[List.getElem_map] at hne;exact hne (sH (by simpa using HN.out)).symm
     | false=>
      have HN:Hid ((es'[m+1].1.toList == es'[m].1.toList)=false):=sA;go_wp2
      go_quiet (fail)
      go_wp2;go_roundw
      case rel=>
       refine⟨m+1,by go_num,by omega,below_drewN kC _,pE,?_⟩;intro j hj h1 h2;by_cases e:j=m+1
       ·subst e
        intro h;have hn:=HN.out;rw[h] at hn;simp at hn
       ·exact HD.out j hj h1 (by omega)
      case measure=>simp[intOf];omega
    ·have abL:Hid (gC es'):=HR.out (fun j hj h1=>HD.out j hj h1 (by rw[HL'.out] at hj;omega))
     have Gu:Hid ((es.map (·.1)).Nodup):=(List.Perm.nodup_iff (HP.out.map (fun x:aK=>x.1))).1 (zV abL.out);clear HD HR;by_cases jS:16<n
     ·have Rw:(16:Int)<n:=by omega
      go_wp2;go_ret2;exact⟨kC,.inr (.inr (.inl ⟨Kl.out,Gu.out,by rw[HL.out];exact jS,rfl⟩))⟩
     ·have Rw:¬((16:Int)<n):=by omega
      go_wp2
      go_loopw [47] (fun i wq=>∃m:Nat,i=.int .i64 (m:Int)/\m<=n/\Below w.heap.size w wq/\wq.ownsRow w.heap.size 96 3 (.slice (some ⟨g,0,none⟩) n cap') n (flat es')) (fun i _=>n-(intOf i).toNat)
      case atStart=>exact⟨0,rfl,Nat.zero_le _,kC,pE⟩
      case round=>
       obtain⟨q,rfl,Rx,Gv,Dt⟩:=hrel;by_cases YR:q<n
       ·have hq0:q<es'.length:=by rw[HL'.out];exact YR
        obtain⟨c0,_,_⟩:=bg (off:=0) (aQ Dt) hq0;rw[Nat.zero_add] at c0;have hsq:=(eo (Kl.out _ (HP.out.mem_iff.1 (List.getElem_mem hq0)))).2;have hcq:=uh es'[q].1 wr (by omega);have fo:g<wr.heap.size:=ah Dt rfl;have ET:=G2 Dt (q*3);go_wp2_with (go_at_call 130;refine hcq.mono ?_;rintro e w3 ⟨rfl,hb3⟩;have c1:=(hb3.cell (p:=⟨g,q*3,none⟩) fo).trans c0;have f1:=(hb3.frozen (p:=⟨g,q*3,none⟩) fo).trans ET);go_roundw
        case rel=>
         refine⟨q+1,by go_num,by omega,?_,?_⟩
         ·rw[qZ c1];exact Gv.trans (hb3.mono Gv.size)
         ·rw[qZ c1];exact ai Dt (fun g' kT=>hb3.block g' (ah Dt kT))
        case measure=>simp[intOf];omega
       ·go_wp2
        go_ret2;exact⟨Gv,.inr (.inr (.inr ⟨Kl.out,Gu.out,by rw[HL.out];omega,es',_,cap',rfl,HP.out,abL.out,Dt⟩))⟩
theorem nZ {P:Program}(w:World)(dT sT ty elem:TypeId)(size g o vo EU:Nat)(a:Addr)(vp EW:Nat)(cur:Array Value)(t:TypeId)(cs:List Value)
  (hu:P.underlying dT=some (.slice elem))(hs:(P.info? elem).map (·.size)=some size)
  (hg:w.heap[g]? = some (.cells cur t (0,0)))(hn:cs.length=Nat.min vp vo*size)
  (mI:∀j v,cs[j]? = some v->w.cell? (a.add j)=some v)(uO:o+cs.length<=cur.size)(h1:∀v ∈ cs,v.oneCell'=true):
  (Builtin.copy_ #[dT,sT] ty #[.slice (some ⟨g,o,none⟩) vo EU,.slice (some a) vp EW]).run P w =
   .ok (goInt (Nat.min vp vo)) (w.setRow g (cur.toList.take o++cs++cur.toList.drop (o+cs.length)).toArray):=by
 have hl:=run_loadCells_list (P:=P) w a cs mI;have hst:=run_storeCells_at P g o t cs 0 cur w hg (by simpa using uO) h1;cases hq:P.info? elem with
 | none=>simp[hq] at hs
 | some i=>
  have hi:i.size=size:=by simpa [hq] using hs
  simp[Builtin.copy_,run_underlying hu,Builtin.lenOf,Builtin.firstCells,sizeOf,typeInfo,hq,hi,<-hn,hl,hst]
theorem q7 {P:Program}{w:World}{ops:Array Oper}{rest:List Oper}{o:Oper}{a:Act}{Q:Exit->Act->World->Prop}(hgd:o.guard=none)(d s:Operand)(dT sT:TypeId)
  (ho:o.op=.call { callee:=.builtin .copy,args:=#[d,s],argTypes:=#[dT,sT] })(elem:TypeId)(hu:P.underlying dT=some (.slice elem))(size:Nat)(hsz:(P.info? elem).map (·.size)=some size)
  (g off vo EU:Nat)(ad:Addr)(vp EW:Nat)(hd:a.eval d=.slice (some ⟨g,off,none⟩) vo EU)(hs:a.eval s=.slice (some ad) vp EW)
  (cur:Array Value)(t:TypeId)(hg:w.heap[g]? = some (.cells cur t (0,0)))(cs:List Value)(hn:cs.length=Nat.min vp vo*size)
  (mI:∀j v,cs[j]? = some v->w.cell? (ad.add j)=some v)(uO:off+cs.length<=cur.size)(h1:∀v ∈ cs,v.oneCell'=true)
  (new:Array Value)(CN:new.toList=cur.toList.take off++cs++cur.toList.drop (off+cs.length))
  (h:∀w',Hid (w'.heap[g]? = some (.cells new t (0,0)))->w.grownBy w' (some g)->wpList P ops Q rest (a.put o.dst (goInt (Nat.min vp vo))) w'):wpList P ops Q (o :: rest) a w:=by
 refine wpList_plain hgd fun K hK=>?_;have hrun:=nZ (P:=P) w dT sT o.type elem size g off vo EU ad vp EW cur t cs hu hsz hg hn mI uO h1;rw[<-CN,Array.toArray_toList] at hrun;unfold Oper.wp;simp[execOp,ho,resolve,invoke,builtin,hd,hs,hrun,Result.andThen];exact hK _ _ (h _ (setRow_heap w g _ _ t _ hg) ⟨rfl,rfl,rfl,by simp,fun k hk hne=>setRow_other w g k _ (fun e=>hne (by rw[e]))⟩)
def G3:List Value:=(List.replicate 16 (bL (ByteArray.empty,0,0))).flatten
theorem Oq:G3.length=48:=by decide
theorem Ot:∀v ∈ G3,v.oneCell'=true:=by
 intro v hv;obtain⟨l,hl,h⟩:=List.mem_flatten.1 hv;rw[(List.mem_replicate.1 hl).2] at h;exact bJ _ v h
def bM (es:List aK):Array Value:=(flat es++G3.drop (es.length*3)).toArray
theorem nK {es:List aK}(h:es.length<=16):(bM es).size=48:=by
 simp only[bM,List.size_toArray,List.length_append,bl,List.length_drop,Oq];omega
theorem yY (es:List aK):(bM es).all (·.oneCell')=true:=by
 rw[Array.all_eq_true'];intro v hv;simp only[bM,List.mem_toArray,List.mem_append] at hv;rcases hv with h | h
 ·exact iY es v h
 ·exact Ot v (List.mem_of_mem_drop h)
theorem x9:(Tryz.prog.info? 208).map (·.size)=some 48:=by kernel_rfl
theorem EX:(Tryz.prog.info? 96).map (·.size)=some 3:=by kernel_rfl
theorem EY (g n cap:Nat)(es:List aK)(w:World)(hl:es.length=n)(fo:g<w.heap.size)(jS:n<=16)(hc:∀j u,(flat es)[j]? = some u->w.cell? ⟨g,0+j,none⟩=some u):
  Calls Tryz.prog 111 #[.slice (some ⟨g,0,none⟩) n cap] w fun e w'=>e=.returned (.agg (bM es))/\Below w.heap.size w w':=by
 have HC:Hid (∀j u,(flat es)[j]? = some u->w.cell? ⟨g,0+j,none⟩=some u):=hc;have HL:Hid (es.length=n):=hl;have HM:Hid (Nat.min n 16=n):=Nat.min_eq_left jS;have HZ:Hid ((bM es).size=48):=nK (by omega);have afV:Hid (∀A B j v,(flat es)[j]? = some v->((w.alloc A).alloc B).cell? ((⟨g,0,none⟩:Addr).add j)=some v):=by
  intro A B j v h;have h1:=hc j v h;have h2:(⟨g,0,none⟩:Addr).add j=⟨g,0+j,none⟩:=by unfold Addr.add;split <;> simp_all
  rw[h2,World.cell?_alloc_past _ _ _ (by simp;omega),World.cell?_alloc_past _ _ _ fo,h1]
 have ri:Hid ((bM es).toList=G3.take 0++flat es++G3.drop (0+(flat es).length)):=by
  show (bM es).toList=_;simp only[bM,List.take_zero,List.nil_append,Nat.zero_add,bl]
 have HN:Hid ((flat es).length=Nat.min n 16*3):=by
  show (flat es).length=_;rw[bl,hl,HM.out]
 have HF:Hid (0+(flat es).length<=48):=by
  show 0+(flat es).length<=48;rw[bl,hl];omega
 clear hc hl;go_enter Tryz.func111,Tryz.ntmps111;go_wp2_with (first
  | (refine q7 rfl (.tmp 4) (.tmp 5) 55 55 rfl 96 Tryz.underlying55 3 EX (w.heap.size+1) 0 16 16 ⟨g,0,none⟩ n cap rfl rfl _ 208 (heap_alloc2_new _ _ _) (flat es) ?_ ?_ ?_ (iY es) (bM es) ?_ ?_;go_must (exact HN.out);go_must (exact afV.out _ _);go_must (exact HF.out);go_must (exact ri.out);intro w1 H1 hg1)
  | (refine wpList_load_row rfl 208 _ rfl (w.heap.size+1) rfl 208 (bM es) (0,0) _ H1.out Tryz.underlying208 rfl (by rw[HZ.out];exact x9) ?_)
  | (refine wpList_store_row rfl 208 _ _ rfl w.heap.size (bM es) rfl rfl 208 _ ((hg1.block w.heap.size (by simp;omega) (by simp)).trans (heap_alloc2_old _ _ _)) (by rw[HZ.out];exact x9) (by rw[HZ.out];rfl) (yY es) ?_)
  | go_in)
 have h0:(w1.setRow w.heap.size (bM es)).heap[w.heap.size]? = some (.cells (bM es) 208 (0,0)):=setRow_heap w1 w.heap.size _ _ 208 (0,0) ((hg1.block w.heap.size (by simp;omega) (by simp)).trans (heap_alloc2_old _ _ _));refine bodyPost_ret (v:=.agg (bM es)) (results_cell_row Tryz.results111 _ _ w.heap.size 208 (bM es) (0,0) _ rfl h0 Tryz.underlying208 rfl (by rw[HZ.out];exact x9)) rfl ⟨rfl,?_⟩;have hb1:Below w.heap.size w w1:=(((Below.refl _ _).alloc (Nat.le_refl _) _).alloc (by simp) _).grown hg1 (by simp;omega) (fun k h=>by cases h;omega);exact below_setRow hb1 (Nat.le_refl _) _
theorem laidOut:laidOutB Tryz.prog=true:=by kernel_rfl
theorem XW:208<Tryz.prog.types.size:=of_decide_eq_true (by kernel_rfl)
theorem M6:Maps.Keyed Tryz.prog 208:=Maps.Keyed.of_law (deep_law_laid laidOut (m:=9) (by omega) XW (by kernel_rfl) (by rw[Tryz.underlying208]))
theorem M8:Tryz.prog.cellsOf 208=48:=by kernel_rfl
theorem M9:Tryz.prog.cellsOf 96=3:=by kernel_rfl
theorem Ry:Tryz.prog.cellsOf 9=1:=by kernel_rfl
theorem YS:Tryz.prog.cellsOf 3=1:=by kernel_rfl
theorem VQ:Tryz.prog.cellsOf 29=1:=by kernel_rfl
theorem YT:Tryz.prog.keyType 208=true:=by kernel_rfl
def Fits (e:aK):Prop:=e.1.size<=maxLen/\(Lit.int .i64 e.2.1).wf=true/\(Lit.int .i64 e.2.2).wf=true
theorem YU (d:Nat)(e:aK)(h:Fits e):∃ls,Tryz.prog.keyLits (d+2) 96 (bL e)=some ls:=by
 obtain⟨h1,h2,h3⟩:=h;have a1:Tryz.prog.keyLits (d+1) 9 [.string e.1]=some [.string e.1.data.toList]:=by unfold Program.keyLits;simp[Tryz.underlying9,h1]
 have a2:Tryz.prog.keyLits (d+1) 3 [.int .i64 e.2.1]=some [.int .i64 e.2.1]:=by unfold Program.keyLits;simp[Tryz.underlying3,h2]
 have a3:Tryz.prog.keyLits (d+1) 29 [.int .i64 e.2.2]=some [.int .i64 e.2.2]:=by unfold Program.keyLits;simp[Tryz.underlying29,h3]
 unfold Program.keyLits;simp[Tryz.underlying96,bL,M9,Ry,YS,VQ,a1,a2,a3]
theorem mapM_some {α β:Type}(f:α->Option β):∀l:List α,(∀x ∈ l,∃y,f x=some y)->∃ys,l.mapM f=some ys
 | [],_=>⟨[],rfl⟩
 | x :: r,h=>by
  obtain⟨y,hy⟩:=h x (by simp)
  obtain⟨ys,VR⟩:=mapM_some f r (fun z hz=>h z (by simp[hz]))
  exact⟨y :: ys,by simp[List.mapM_cons,hy,VR]⟩
theorem qc (es:List aK)(jS:es.length<=16)(i:Nat)(hi:i<16):((bM es).toList.drop (i*3)).take 3=bL ((es[i]?).getD (ByteArray.empty,0,0)):=by
 have Ds:=bl es;apply List.ext_getElem?;intro j;by_cases hj:j<3
 ·rw[List.getElem?_take_of_lt hj,List.getElem?_drop]
  simp only[bM];by_cases Q2:i<es.length
  ·rw[List.getElem?_append_left (by rw[Ds];omega),fZ es i j Q2 hj,List.getElem?_eq_getElem Q2];rfl
  ·rw[List.getElem?_append_right (by rw[Ds];omega),List.getElem?_drop,Ds,List.getElem?_eq_none (l:=es) (by omega)]
   have e1:es.length*3+(i*3+j-es.length*3)=i*3+j:=by omega
   rw[e1];have hz:=fZ (List.replicate 16 (ByteArray.empty,0,0)) i j (by simp;omega) hj;rw[List.getElem_replicate] at hz;exact hz
 ·rw[List.getElem?_take_eq_none (by omega),List.getElem?_eq_none (by rw[eZ];omega)]
theorem YV (d:Nat)(es:List aK)(jS:es.length<=16)(hf:∀e ∈ es,Fits e):∃ls,Tryz.prog.keyLits (d+3) 208 (bM es).toList=some ls:=by
 have hl:(bM es).toList.length=48:=by simp[nK jS]
 obtain⟨ys,VR⟩:=mapM_some (fun i=>Tryz.prog.keyLits (d+2) 96 (((bM es).toList.drop (i*3)).take 3)) (List.range 16) (by
  intro i hi;rw[List.mem_range] at hi;rw[qc es jS i hi];refine YU d _ ?_;by_cases h:i<es.length
  ·rw[List.getElem?_eq_getElem h];exact hf _ (List.getElem_mem h)
  ·rw[List.getElem?_eq_none (by omega)];exact⟨by decide,by decide,by decide⟩)
 refine⟨ys.flatten,?_⟩;unfold Program.keyLits;simp only[Tryz.underlying208,M8,hl,if_true,M9,VR,Option.map_some]
def gD (P:Program)(es:List aK):Lit:=(keyOf P 208 (.agg (bM es))).getD .nil
theorem mA (es:List aK)(jS:es.length<=16)(hf:∀e ∈ es,Fits e):keyOf Tryz.prog 208 (.agg (bM es))=some (gD Tryz.prog es):=by
 have hx:∃k,keyOf Tryz.prog 208 (.agg (bM es))=some k:=by
  have hfo:Value.formed Tryz.prog 208 (.agg (bM es))=true:=by
   unfold Value.formed;rw[Tryz.underlying208];simp[M8,nK jS]
  obtain⟨n,hn⟩:∃n,Tryz.prog.types.size+1=n+3:=⟨Tryz.prog.types.size-2,by have:=XW;omega⟩;obtain⟨ls,CO⟩:=YV n es jS hf;unfold keyOf;rw[Tryz.underlying208];simp only[YT,hfo,Bool.and_self,if_true,Value.cells,hn,CO,Option.map_some];exact⟨_,rfl⟩
 obtain⟨k,hk⟩:=hx;unfold gD;rw[hk];rfl
theorem G5 {es fs:List aK}(h1:es.length<=16)(h2:fs.length<=16)(n1:∀e ∈ es,1<=e.1.size)(n2:∀e ∈ fs,1<=e.1.size)(h:bM es=bM fs):es=fs:=by
 have key:∀i,i<16->(es[i]?).getD (ByteArray.empty,0,0)=(fs[i]?).getD (ByteArray.empty,0,0):=by
  intro i hi;have a:=qc es h1 i hi;rw[h,qc fs h2 i hi] at a;simp only[bL,List.cons.injEq,Value.string.injEq,Value.int.injEq,true_and,and_true] at a;exact (Prod.ext a.1 (Prod.ext a.2.1 a.2.2)).symm
 have e0:ByteArray.empty.size=0:=rfl;apply List.ext_getElem?;intro i;by_cases hi:i<16
 ·have k:=key i hi
  cases ha:es[i]? with
  | none=>
   cases hb:fs[i]? with
   | none=>rfl
   | some y=>
    rw[ha,hb] at k;simp only[Option.getD_none,Option.getD_some] at k
    have:=n2 y (List.mem_of_getElem? hb)
    rw[<-k,e0] at this;omega
  | some x=>
   cases hb:fs[i]? with
   | none=>
    rw[ha,hb] at k;simp only[Option.getD_none,Option.getD_some] at k
    have:=n1 x (List.mem_of_getElem? ha)
    rw[k,e0] at this;omega
   | some y=>
    rw[ha,hb] at k;simp only[Option.getD_some] at k;rw[k]
 ·rw[List.getElem?_eq_none (by omega),List.getElem?_eq_none (by omega)]
theorem Km {es fs:List aK}(h1:es.length<=16)(h2:fs.length<=16)(f1:∀e ∈ es,Fits e)(f2:∀e ∈ fs,Fits e)(n1:∀e ∈ es,1<=e.1.size)(n2:∀e ∈ fs,1<=e.1.size)
  (h:gD Tryz.prog es=gD Tryz.prog fs):es=fs:=by
 have a:=mA es h1 f1;have b:=mA fs h2 f2;rw[<-h] at b
 have:=M6.inj a b
 exact G5 h1 h2 n1 n2 (by simpa using this)
variable {ft:gA}
structure Ob where
 kind:Int
 data:ByteArray
 ea:Option Addr
 el:Nat
 ec:Nat
 aV:List aK
 high:Int
def Ob.cells (o:Ob):List Value:=[.int .i64 o.kind,.string o.data,.slice o.ea o.el o.ec,.int .i64 o.high]
def dV (ag:List Ob):List Value:=ag.flatMap Ob.cells
theorem sI:∀(es:List Ob) (i j:Nat) (hi:i<es.length),j<4->(dV es)[i*4+j]? = (es[i].cells)[j]?
 | [],i,j,hi,_=>by simp at hi
 | e :: r,0,j,_,hj=>by
  simp only[dV,List.flatMap_cons,Nat.zero_mul,Nat.zero_add,List.getElem_cons_zero]
  rw[List.getElem?_append_left (by simpa [Ob.cells] using hj)]
 | e :: r,i+1,j,hi,hj=>by
  have ih:=sI r i j (by simpa using hi) hj
  have h4:e.cells.length=4:=rfl
  simp only[dV,List.flatMap_cons,List.getElem_cons_succ] at ih ⊢
  rw[List.getElem?_append_right (by rw[h4];omega),h4,<-ih]
  congr 1;omega
structure iF (ft:gA)(w:World)(p:Nat)(a:Option Addr)(n cap bf bd:Nat)(ag:List Ob):Prop where
 at_:b8 ft w p a n cap bf bd
 row:w.ownsRow 0 213 4 (.slice a n cap) n (dV ag)
 len:ag.length=n
 many:n<=400
theorem iF.below {w w':World}{p:Nat}{a:Option Addr}{n cap bf bd:Nat}{ag:List Ob}(h:iF ft w p a n cap bf bd ag)(hb:Below w.heap.size w w'):iF ft w' p a n cap bf bd ag:=
 ⟨h.at_.below hb,ai h.row (fun g hg=>hb.block g (ah h.row hg)),h.len,h.many⟩
theorem iF.cells {w:World}{p:Nat}{a:Option Addr}{n cap bf bd:Nat}{ag:List Ob}(h:iF ft w p a n cap bf bd ag){i:Nat}(hi:i<ag.length):
  ∃g,a=some ⟨g,0,none⟩/\g<w.heap.size/\w.cell? ⟨g,i*4,none⟩=some (.int .i64 ag[i].kind)/\w.cell? ⟨g,i*4+1,none⟩=some (.string ag[i].data)/\
   w.cell? ⟨g,i*4+2,none⟩=some (.slice ag[i].ea ag[i].el ag[i].ec)/\w.cell? ⟨g,i*4+3,none⟩=some (.int .i64 ag[i].high):=by
 have hn:i<n:=by rw[<-h.len];exact hi
 rcases h.row.2 with ⟨_,h0⟩ | ⟨g,cap',cur,hv,_,hg,_,_,zX,ht⟩
 ·omega
 ·cases hv
  have key:∀j u,j<4->(ag[i].cells)[j]? = some u->w.cell? ⟨g,i*4+j,none⟩=some u:=by
   intro j u hj hu;rw[<-sI ag i j hi hj,<-ht,List.getElem?_take_of_lt (by omega),Array.getElem?_toList] at hu;simp[World.cell?,hg,hu]
  exact⟨g,rfl,(Array.getElem?_eq_some_iff.1 hg).1,key 0 _ (by omega) rfl,key 1 _ (by omega) rfl,key 2 _ (by omega) rfl,key 3 _ (by omega) rfl⟩
def aH (ag:List Ob)(id:Int):Int:=if 1<=id then ((ag[(id-1).toNat]?).map (·.kind)).getD 0 else 0
def cC (ag:List Ob)(id:Int):Int:=((ag[(id-1).toNat]?).map (·.high)).getD 0
theorem dL {ag:List Ob}{j:Nat}(hj:j<ag.length):aH ag ((j:Int)+1)=ag[j].kind:=by
 unfold aH;rw[if_pos (by omega),show ((j:Int)+1-1).toNat=j by omega,List.getElem?_eq_getElem hj];rfl
theorem ya {ag:List Ob}{j:Nat}(hj:j<ag.length):cC ag ((j:Int)+1)=ag[j].high:=by
 unfold cC;rw[show ((j:Int)+1-1).toNat=j by omega,List.getElem?_eq_getElem hj];rfl
theorem fD {ag:List Ob}{id:Int}(h:id<1\/(ag.length:Int)<id):aH ag id=0:=by
 unfold aH;rcases h with h | h
 ·rw[if_neg (by omega)]
 ·rw[if_pos (by omega),List.getElem?_eq_none (by omega)];rfl
theorem qp (p:Nat)(a:Option Addr)(n cap bf bd:Nat)(ag:List Ob)(id:Int)(w:World)(h:iF ft w p a n cap bf bd ag):
  Calls Tryz.prog 61 #[.pointer (some ⟨p,0,none⟩),.int .i64 id] w fun e w'=>e=.returned (.int .i64 (aH ag id))/\Below w.heap.size w w':=by
 by_cases hid:id<1\/(n:Int)<id
 ·rw[fD (by rw[h.len];exact hid)]
  exact (Dq p n cap a id w h.at_.c0 h.many hid).mono fun e w' ⟨he,hw⟩=>⟨he,by rw[hw];exact Below.refl _ _⟩
 ·obtain⟨j,rfl⟩:∃j:Nat,id=(j:Int)+1:=⟨(id-1).toNat,by omega⟩
  have hj:j<ag.length:=by rw[h.len];omega
  obtain⟨g,rfl,hg,c0,c1,c2,c3⟩:=h.cells hj;rw[dL hj];exact (Dr p g n cap j _ _ _ _ _ _ w h.at_.lt hg h.at_.c0 (by omega) h.many c0 c1 c2 c3).mono fun e w' ⟨he,hw⟩=>⟨he,by rw[hw];exact (Below.refl _ _).alloc (Nat.le_refl _) _⟩
theorem Rz (p:Nat)(a:Option Addr)(n cap bf bd:Nat)(ag:List Ob)(j:Nat)(hj:j<ag.length)(w:World)(h:iF ft w p a n cap bf bd ag):
  Calls Tryz.prog 113 #[.pointer (some ⟨p,0,none⟩),.int .i64 ((j:Int)+1)] w fun e w'=>e=.returned (.agg #[.int .i64 ag[j].kind,.string ag[j].data,.slice ag[j].ea ag[j].el ag[j].ec,.int .i64 ag[j].high])/\Below w.heap.size w w':=by
 obtain⟨g,rfl,hg,c0,c1,c2,c3⟩:=h.cells hj;exact (Kg p g n cap j _ _ _ _ _ _ w h.at_.lt hg h.at_.c0 (by rw[<-h.len];exact hj) h.many c0 c1 c2 c3).mono fun e w' ⟨he,hw⟩=>⟨he,by rw[hw];exact (Below.refl _ _).alloc (Nat.le_refl _) _⟩
theorem Du (p:Nat)(a:Option Addr)(n cap bf bd:Nat)(ag:List Ob)(j:Nat)(hj:j<ag.length)(w:World)(h:iF ft w p a n cap bf bd ag):
  Calls Tryz.prog 173 #[.pointer (some ⟨p,0,none⟩),.int .i64 ((j:Int)+1)] w fun e w'=>e=.returned (.int .i64 ag[j].high)/\Below w.heap.size w w':=by
 have hcon:=Rz p a n cap bf bd ag j hj w h;have f3:=abJ;go_enter Tryz.func173,Tryz.ntmps173;go_wp2_with (go_at_call 113;refine hcon.mono ?_;rintro e w' ⟨rfl,hb⟩);go_ret;exact⟨rfl,hb⟩
theorem G6 (p:Nat)(a:Option Addr)(n cap bf bd:Nat)(ag:List Ob)(id:Int)(w:World)(h:iF ft w p a n cap bf bd ag):
  Calls Tryz.prog 84 #[.pointer (some ⟨p,0,none⟩),.int .i64 id] w fun e w'=>Below w.heap.size w w'/\
   ((aH ag id≠1/\e=.returned (.tuple #[.string ByteArray.empty,.int .i64 13]))\/∃j,∃hj:j<ag.length,id=(j:Int)+1/\ag[j].kind=1/\e=.returned (.tuple #[.string ag[j].data,.int .i64 0])):=by
 by_cases hid:id<1\/(n:Int)<id
 ·exact (Rk p n cap a id w h.at_.c0 h.many hid).mono fun e w' ⟨he,hw⟩=>⟨by rw[hw];exact Below.refl _ _,.inl ⟨by rw[fD (by rw[h.len];exact hid)];decide,he⟩⟩
 ·obtain⟨j,rfl⟩:∃j:Nat,id=(j:Int)+1:=⟨(id-1).toNat,by omega⟩
  have hj:j<ag.length:=by rw[h.len];omega
  obtain⟨g,rfl,hg,c0,c1,c2,c3⟩:=h.cells hj;refine (Oh p g n cap j _ _ _ _ _ _ w h.at_.lt hg h.at_.c0 (by omega) h.many c0 c1 c2 c3).mono fun e w' ⟨he,hw⟩=>⟨hw,?_⟩;by_cases hk:ag[j].kind=1
  ·rw[if_pos hk] at he;exact .inr ⟨j,hj,rfl,hk,he⟩
  ·rw[if_neg hk] at he;exact .inl ⟨by rw[dL hj];exact hk,he⟩
variable {ft:gA}
def eV (ag:List Ob)(e:aK):Bool:=!(aH ag e.2.2 == 0) && (aH ag e.2.2 == e.2.1)
def dn (ag:List Ob)(es:List aK):Int:=es.foldl (fun h e=>max h (1+cC ag e.2.2)) 0
theorem Kn (ag:List Ob)(es:List aK)(e:aK):dn ag (es ++ [e])=max (dn ag es) (1+cC ag e.2.2):=by
 simp only[dn,List.foldl_append,List.foldl_cons,List.foldl_nil]
def RA (w w':World)(ag:List Ob)(es:List aK)(e:Ending):Prop:=
  Below w.heap.size w w'/\
   (((∃x ∈ es,eV ag x=false)/\e=.returned (.tuple #[.int .i64 0,.int .i64 13]))\/
    ((∀x ∈ es,eV ag x=true)/\5<dn ag es/\e=.returned (.tuple #[.int .i64 0,.int .i64 11]))\/
    ((∀x ∈ es,eV ag x=true)/\dn ag es<=5/\0<=dn ag es/\e=.returned (.tuple #[.int .i64 (dn ag es),.int .i64 0])))
theorem EZ (p g cap':Nat)(a:Option Addr)(n cap bf bd m:Nat)(ag:List Ob)(es:List aK)(w:World)(h:iF ft w p a n cap bf bd ag)(hl:es.length=m)(hm:m<=16)(fo:g<w.heap.size)
  (hc:∀j u,(flat es)[j]? = some u->w.cell? ⟨g,0+j,none⟩=some u)(hh:∀o ∈ ag,0<=o.high/\o.high<=5):
  Calls Tryz.prog 110 #[.pointer (some ⟨p,0,none⟩),.slice (some ⟨g,0,none⟩) m cap'] w fun e w'=>RA w w' ag es e:=by
 have HC:Hid (∀j u,(flat es)[j]? = some u->w.cell? ⟨g,0+j,none⟩=some u):=hc;have HL:Hid (es.length=m):=hl;have HH:Hid (∀o ∈ ag,0<=o.high/\o.high<=5):=hh;clear hc hl hh;go_enter Tryz.func110,Tryz.ntmps110;go_wp2
 go_loopw [6,12] (fun t i wr=>∃k:Nat,k<=m/\i=.int .i64 k/\t=.int .i64 (dn ag (es.take k))/\0<=dn ag (es.take k)/\dn ag (es.take k)<=6/\Below w.heap.size w wr/\Hid (∀j (hj:j<es.length),j<k->eV ag es[j]=true)) (fun _ i _=>m-(intOf i).toNat)
 case atStart=>exact⟨0,Nat.zero_le _,rfl,rfl,Int.le_refl _,by show (0:Int)<=6;decide,Below.refl _ _,fun j hj h=>by omega⟩
 case round=>
  obtain⟨k,hk,rfl,rfl,h0,h6,hb,HV⟩:=hrel;by_cases hlt:k<m
  ·have dy:k<es.length:=by rw[HL.out];exact hlt
   obtain⟨c0,c1,c2⟩:=bg HC.out dy;rw[Nat.zero_add] at c0 c1 c2;have d0:=(hb.cell (p:=⟨g,k*3,none⟩) fo).trans c0;have d1:=(hb.cell (p:=⟨g,k*3+1,none⟩) fo).trans c1;have d2:=(hb.cell (p:=⟨g,k*3+2,none⟩) fo).trans c2;have afX:g<wr.heap.size:=Nat.lt_of_lt_of_le fo hb.size;clear c0 c1 c2;have wA:=fun (W:World) (hW:Below w.heap.size w W)=>qp p a n cap bf bd ag es[k].2.2 W (h.below hW);obtain⟨q,hq⟩:∃q,q=aH ag es[k].2.2:=⟨_,rfl⟩;have HQ:Hid (q=aH ag es[k].2.2):=hq;rw[<-hq] at wA;clear hq;have box:=fun (W1:World) (X:Obj) (hW:Below (wr.alloc X).heap.size (wr.alloc X) W1) (o:Nat)=>hW.cell (p:=⟨wr.heap.size,o,none⟩) (by simp);cases hg1:(q == 0) with
   | true=>
    have HG:Hid (eV ag es[k]=false):=by
     show eV ag es[k]=false;unfold eV;rw[<-HQ.out,hg1];rfl
    go_wp2_with (go_at_call 61;refine (wA _ (hb.alloc hb.size _)).mono ?_;rintro e w1 ⟨rfl,hb1⟩);go_ret2;exact⟨(hb.alloc hb.size _).trans (hb1.mono (by simp;have:=hb.size;omega)),.inl ⟨⟨es[k],List.getElem_mem dy,HG.out⟩,rfl⟩⟩
   | false=>
    cases hg2:(q == es[k].2.1) with
    | false=>
     have HG:Hid (eV ag es[k]=false):=by
      show eV ag es[k]=false;unfold eV;rw[<-HQ.out,hg1,hg2];rfl
     go_wp2_with (go_at_call 61;refine (wA _ (hb.alloc hb.size _)).mono ?_;rintro e w1 ⟨rfl,hb1⟩;have b1:=box _ _ hb1 1;simp at b1);go_ret2;exact⟨(hb.alloc hb.size _).trans (hb1.mono (by simp;have:=hb.size;omega)),.inl ⟨⟨es[k],List.getElem_mem dy,HG.out⟩,rfl⟩⟩
    | true=>
     have HG:Hid (eV ag es[k]=true):=by
      show eV ag es[k]=true;unfold eV;rw[<-HQ.out,hg1,hg2];rfl
     obtain⟨j,hj,he⟩:∃j:Nat,j<ag.length/\es[k].2.2=(j:Int)+1:=by
      by_cases hid:es[k].2.2<1\/(ag.length:Int)<es[k].2.2
      ·have:=HQ.out;rw[fD hid] at this;simp[this] at hg1
      ·exact⟨(es[k].2.2-1).toNat,by omega,by omega⟩
     have HJ:Hid (cC ag es[k].2.2=ag[j].high):=by
      show cC ag es[k].2.2=ag[j].high;rw[he];exact ya hj
     have hat:=fun (W:World) (hW:Below w.heap.size w W)=>Du p a n cap bf bd ag j hj W (h.below hW);rw[<-he] at hat;obtain⟨hj0,RB⟩:=HH.out ag[j] (List.getElem_mem hj);have f3:=abJ;clear he;go_wp2_with (first
      | (go_at_call 61;refine (wA _ (hb.alloc hb.size _)).mono ?_;rintro e w1 ⟨rfl,hb1⟩;have b1:=box _ _ hb1 1;have b2:=box _ _ hb1 2;simp at b1 b2;have iG:=(hb.alloc hb.size _).trans (hb1.mono (by simp;have:=hb.size;omega)))
      | (go_at_call 173;refine (hat _ iG).mono ?_;rintro e w2 ⟨rfl,hb2⟩))
     have hst:dn ag (es.take (k+1))=max (dn ag (es.take k)) (1+ag[j].high):=by
      rw[List.take_succ_eq_append_getElem dy,Kn,HJ.out]
     go_roundw
     case rel=>
      refine⟨k+1,by omega,by go_num,by rw[hst],by rw[hst];omega,by rw[hst];omega,iG.trans (hb2.mono iG.size),?_⟩;intro i hi hik;by_cases e:i=k
      ·subst e;exact HG.out
      ·exact HV.out i hi (by omega)
     case measure=>simp[intOf];omega
  ·have uP:k=m:=by omega
   have Kl:Hid (∀x ∈ es,eV ag x=true):=by
    intro x hx;obtain⟨j,hj,rfl⟩:=List.getElem_of_mem hx;exact HV.out j hj (by rw[uP,<-HL.out];exact hj)
   have HT:Hid (es.take k=es):=List.take_of_length_le (by rw[HL.out];omega);rw[HT.out] at h0 h6 ⊢;by_cases h5:5<dn ag es
   ·go_wp2
    go_ret2;exact⟨hb,.inr (.inl ⟨Kl.out,h5,rfl⟩)⟩
   ·go_wp2
    go_ret2;exact⟨hb,.inr (.inr ⟨Kl.out,by omega,h0,rfl⟩)⟩
variable {ft:gA}
theorem VS (p:Nat)(a:Option Addr)(n cap bf bd:Nat)(ag:List Ob)(id:Int)(w:World)(h:iF ft w p a n cap bf bd ag)(hk:aH ag id≠2):
  Calls Tryz.prog 85 #[.pointer (some ⟨p,0,none⟩),.int .i64 id] w fun e w'=>e=.returned (.tuple #[.slice none 0 0,.int .i64 13])/\Below w.heap.size w w':=by
 have hcon:=qp p a n cap bf bd ag id w h;obtain⟨q,hq⟩:∃q,q=aH ag id:=⟨_,rfl⟩;rw[<-hq] at hcon hk;have dy:(q == 2)=false:=by simpa using hk
 clear hq hk;go_enter Tryz.func85,Tryz.ntmps85;go_wp2_with (go_at_call 61;refine hcon.mono ?_;rintro e w' ⟨rfl,hb⟩);go_ret2;exact⟨rfl,hb⟩
theorem AU {w:World}{g m:Nat}{xs:List Value}(h:w.ownsRow 0 96 3 (.slice (some ⟨g,0,none⟩) m m) m xs):∃cur,Hid (w.heap[g]? = some (.cells cur 96 (0,0)))/\Hid (cur.size=m*3):=by
 rcases h.2 with ⟨h0,_⟩ | ⟨g',cap',cur,hv,_,hg,_,_,zX,_⟩
 ·cases h0
 ·cases hv;exact⟨cur,hg,zX⟩
theorem rj {w w2 w3:World}(hb:Below w.heap.size w w2)(hg:w2.grownBy w3 none):Hid (Below w.heap.size w w3):=hb.grown hg hb.size (fun k h=>by cases h)
theorem Ou {w w3:World}{g:Nat}{es:List aK}(hb:Below w.heap.size w w3)(fo:g<w.heap.size)(hc:∀j u,(flat es)[j]? = some u->w.cell? ⟨g,0+j,none⟩=some u):∀j v,(flat es)[j]? = some v->w3.cell? ((⟨g,0,none⟩:Addr).add j)=some v:=by
 intro j v h;have h2:(⟨g,0,none⟩:Addr).add j=⟨g,0+j,none⟩:=by unfold Addr.add;split <;> simp_all
 rw[h2,hb.cell (p:=⟨g,0+j,none⟩) fo,hc j v h]
theorem RD (p:Nat)(a:Option Addr)(n cap bf bd:Nat)(ag:List Ob)(j g m c:Nat)(es:List aK)(hj:j<ag.length)(w:World)(h:iF ft w p a n cap bf bd ag)(hk:ag[j].kind=2)
  (nu:ag[j].ea=some ⟨g,0,none⟩)(RF:ag[j].el=m)(Ov:ag[j].ec=c)(hm:m<=16)(hl:es.length=m)(fo:g<w.heap.size)(hc:∀j u,(flat es)[j]? = some u->w.cell? ⟨g,0+j,none⟩=some u):
  Calls Tryz.prog 85 #[.pointer (some ⟨p,0,none⟩),.int .i64 ((j:Int)+1)] w fun e w'=>∃g',e=.returned (.tuple #[.slice (some ⟨g',0,none⟩) m m,.int .i64 0])/\w'.ownsRow w.heap.size 96 3 (.slice (some ⟨g',0,none⟩) m m) m (flat es)/\Below w.heap.size w w':=by
 have hcon:=qp p a n cap bf bd ag ((j:Int)+1) w h;rw[dL hj,hk] at hcon;have hat:=fun (W:World) (hW:Below w.heap.size w W)=>Rz p a n cap bf bd ag j hj W (h.below hW);rw[nu,RF,Ov] at hat;have f2:=abI;obtain⟨i0,hi,hz0,hz1,hz2⟩:=info_parts x7;have HC:Hid (∀j u,(flat es)[j]? = some u->w.cell? ⟨g,0+j,none⟩=some u):=hc;have HL:Hid (es.length=m):=hl;clear hc hl nu RF Ov hk;go_enter Tryz.func85,Tryz.ntmps85;go_wp2_with (first
  | (go_at_call 61;refine hcon.mono ?_;rintro e w1 ⟨rfl,hb1⟩)
  | (go_at_call 113;refine (hat _ hb1).mono ?_;rintro e w2 ⟨rfl,hb2⟩)
  | (at_make;refine wpList_make_full _ rfl _ _ 55 rfl 0 96 i0 _ 3 Tryz.underlying55 hi hz0 hz1 .i64 .i64 _ _ m rfl rfl rfl rfl ?_ ?_ (Nat.zero_le _) ?_;go_must (rw[hz2];omega);go_must (unfold maxLen;omega);intro w3 jq hg3;obtain⟨cur,HB,Ve⟩:=AU jq;have iG:=hb1.trans (hb2.mono hb1.size);have Ko:=rj iG hg3)
  | (refine q7 rfl (.tmp 19) (.tmp 20) 55 55 rfl 96 Tryz.underlying55 3 EX w2.heap.size 0 m m ⟨g,0,none⟩ m c rfl rfl cur 96 HB.out (flat es) ?_ ?_ ?_ (iY es) (flat es).toArray ?_ ?_;go_must (rw[bl,HL.out];exact congrArg (· * 3) (Nat.min_self m).symm);go_must (exact Ou (Ko.out) fo HC.out);go_must (rw[bl,HL.out,Ve.out];omega);go_must (simp only[List.take_zero,List.nil_append,Nat.zero_add];rw[List.drop_eq_nil_of_le (by rw[bl,HL.out,Array.length_toList,Ve.out];exact Nat.le_refl _),List.append_nil]);intro w4 H4 hg4))
 go_ret2;have Ow:=iG.size;refine⟨w2.heap.size,rfl,⟨by rw[bl,HL.out],.inr ⟨w2.heap.size,m,(flat es).toArray,rfl,Ow,H4.out,Nat.le_refl _,by unfold maxLen;omega,by simp[bl,HL.out],?_⟩⟩,?_⟩
 ·simp only
  exact List.take_of_length_le (by rw[bl,HL.out];exact Nat.le_refl _)
 ·exact Ko.out.grown hg4 Ko.out.size (fun k h=>by cases h;exact Ow)
variable {ft:gA}
theorem E0 (w:World)(z cs:Array Value)(t:TypeId):(w.alloc (.cells z t)).setRow w.heap.size cs=w.alloc (.cells cs t):=by
 have hh:((w.alloc (.cells z t)).setRow w.heap.size cs).heap=(w.alloc (.cells cs t)).heap:=by
  apply Array.ext_getElem?;intro k;by_cases hk:k=w.heap.size
  ·subst hk
   rw[setRow_heap _ _ _ _ t (0,0) (heap_alloc_new w _),heap_alloc_new]
  ·rw[setRow_other _ _ _ _ hk]
   show (w.heap.push _)[k]? = (w.heap.push _)[k]?;rw[Array.getElem?_push,Array.getElem?_push,if_neg hk,if_neg hk]
 cases w;simp only[World.setRow,World.alloc] at hh ⊢;rw[hh]
theorem RG {W:Nat->World}{bd n:Nat}{Dd:DataW Unit}{key:Value}{kl:Lit}(hd:∀q,(W q).ownsMap Tryz.prog 208 (plainElem Tryz.prog 29) bd n Dd)(hkey:keyOf Tryz.prog 208 key=some kl):
  ∃c:Int,(∀q,(Instr.lookup 183 (.map (some bd)) key true).run Tryz.prog (W q)=.ok (.tuple #[.int .i64 c,.bool (Maps.has Dd kl)]) (W q))/\Dd.atKey kl (.lit (.int .i64 0))=.lit (.int .i64 c)/\(Lit.int .i64 c).wf=true:=by
 have one:∀q,∃c:Int,(Instr.lookup 183 (.map (some bd)) key true).run Tryz.prog (W q)=.ok (.tuple #[.int .i64 c,.bool (Maps.has Dd kl)]) (W q)/\Dd.atKey kl (.lit (.int .i64 0))=.lit (.int .i64 c)/\(Lit.int .i64 c).wf=true:=by
  intro q;obtain⟨v,ps,hrun,hv⟩:=(hd q).look_ok M6 Tryz.underlying183 (EO _) (plainElem_int Tryz.underlying29 (by decide)) hkey;obtain⟨c,rfl,hc,hwc⟩:=plainElem_int_inv Tryz.underlying29 hv;exact⟨c,hrun,congrArg Prod.fst hc,hwc⟩
 obtain⟨c,_,hat,hwc⟩:=one 0;refine⟨c,fun q=>?_,hat,hwc⟩;obtain⟨c',hrun,hat',_⟩:=one q
 have:c'=c:=by have:=hat'.symm.trans hat;simpa using this
 rw[this] at hrun;exact hrun
theorem yb {P:Program}{ops:Array Oper}{C:World->Prop}{Q:Act->Prop}{o:Oper}{rest:List Oper}{a:Act}(hg:o.guard=none)(ty:TypeId)(x:Operand)(h:o.op=.load ty x)(g:Nat)(hx:a.eval x=.pointer (some ⟨g,0,none⟩))
  (cs:Array Value)(hC:∀w,C w->(loadVar ty ⟨g,0,none⟩).run P w=.ok (.agg cs) w)(hk:wpQuiet P ops C Q rest (a.put o.dst (.agg cs))):wpQuiet P ops C Q (o :: rest) a:=by
 have hw:Region.wanted o (yielded ops a.tmps)=true:=by simp[Region.wanted,hg]
 refine wpQuiet_step fun K hK=>?_;rw[if_pos hw];refine⟨_,fun w hw=>?_,hK _ hk⟩;unfold Oper.quietAt execOp;simp only[h,hx,Instr.loadAt,Instr.sureAddr,Sem.run_bind,Sem.run_pure,Result.andThen_ok,hC w hw];exact⟨rfl,rfl⟩
theorem E1 {P:Program}{ops:Array Oper}{C:World->Prop}{Q:Act->Prop}{o:Oper}{rest:List Oper}{a:Act}(hg:o.guard=none)(t:TypeId)(m x:Operand)(c:Bool)(h:o.op=.lookup t m x c)(M V v:Value)(hm:a.eval m=M)(hx:a.eval x=V)
  (hC:∀w,C w->(Instr.lookup t M V c).run P w=.ok v w)(hk:wpQuiet P ops C Q rest (a.put o.dst v)):wpQuiet P ops C Q (o :: rest) a:=by
 have hw:Region.wanted o (yielded ops a.tmps)=true:=by simp[Region.wanted,hg]
 refine wpQuiet_step fun K hK=>?_;rw[if_pos hw];refine⟨_,fun w hw=>?_,hK _ hk⟩;unfold Oper.quietAt execOp;simp only[h,hm,hx,Sem.run_bind,Sem.run_pure,Result.andThen_ok,hC w hw];exact⟨rfl,rfl⟩
theorem yc {P:Program}{ops:Array Oper}{w:World}{Q:Act->Prop}{o:Oper}{rest:List Oper}{a:Act}(hg:o.guard=none)(ty:TypeId)(x:Operand)(h:o.op=.load ty x)(g:Nat)(hx:a.eval x=.pointer (some ⟨g,0,none⟩))
  (cs:Array Value)(hrun:(loadVar ty ⟨g,0,none⟩).run P w=.ok (.agg cs) w)(hk:wpStill P ops w Q rest (a.put o.dst (.agg cs))):wpStill P ops w Q (o :: rest) a:=by
 have hw:Region.wanted o (yielded ops a.tmps)=true:=by simp[Region.wanted,hg]
 refine wpStill_step fun K hK=>?_;rw[if_pos hw];unfold Oper.still execOp;simp only[h,hx,Instr.loadAt,Instr.sureAddr,Sem.run_bind,Sem.run_pure,Result.andThen_ok,hrun];exact⟨rfl,hK _ hk⟩
theorem mJ {w:World}{b b':Nat}{c c':Array Value}{t t':TypeId}{fz fz':Nat×Nat}(h:w.heap[b]? = some (.cells c t fz))(h':w.heap[b']? = some (.cells c' t' fz'))(ht:t≠t'):b≠b':=by
 rintro rfl;rw[h] at h';simp only[Option.some.injEq,Obj.cells.injEq] at h';exact ht h'.2.1
def ye (ft:gA)(w w':World)(p:Nat)(a:Option Addr)(n cap bf bd bm:Nat)(k:TypeId)(cells:List Value)(D:DataW Unit):Prop:=
 ∃g2 zY,b8 ft w' p (some ⟨g2,0,none⟩) (n+1) zY bf bd/\w'.ownsRow 0 213 4 (.slice (some ⟨g2,0,none⟩) (n+1) zY) (n+1) cells/\((some g2:Option Nat)=(Value.slice a n cap).ownBlock\/w.heap.size<=g2)/\
  w'.ownsMap Tryz.prog k (plainElem Tryz.prog 29) bm (n+1) D/\Rm w w' p bm (Value.slice a n cap).ownBlock
theorem Ox {W w5:World}{p:Nat}{a:Option Addr}{n cap bf bd g9:Nat}{ag:List Ob}{Dd:DataW Unit}{L:Array Value}{kl:Lit}{news:List Value}(nq:Nat)(CP:iF ft W p a n cap bf bd ag)(hd:W.ownsMap Tryz.prog 208 (plainElem Tryz.prog 29) bd n Dd)
  (h9:W.heap[g9]? = some (.cells L 208 (0,0)))(hA:AK (W.drewN nq) w5 p a n cap (dV ag) news)(hkey:keyOf Tryz.prog 208 (.agg L)=some kl)(hn:n<400)(hL:L.size=48):
  w5.cell? ⟨p,2,none⟩=some (.map (some bd))/\(loadVar 208 ⟨g9,0,none⟩).run Tryz.prog w5.drew=.ok (.agg L) w5.drew/\
   Hid (w5.drew.ownsMap Tryz.prog 208 (plainElem Tryz.prog 29) bd n Dd)/\Hid (∀w6,w6.ownsMap Tryz.prog 208 (plainElem Tryz.prog 29) bd (n+1) (Dd.put kl (.lit (.int .i64 ((n:Int)+1))))->w5.drew.grownBy w6 (some bd)->ye ft W w6 p a n cap bf bd bd 208 (dV ag++news) (Dd.put kl (.lit (.int .i64 ((n:Int)+1))))):=by
 have np:=aA CP.row (b:=p) CP.at_ (by decide);obtain⟨g2,zY,hp5,RH,hloc,hos,MZ,hout,Kp,jo⟩:=hA.facts (show (W.drewN nq).heap[p]? = _ from CP.at_) np;obtain⟨Vf,Kq,RJ⟩:=dM hd;have nd:=dS CP.row RJ;have n9:=aA CP.row h9 (by decide);have Vg:bd≠p:=by rintro rfl;have:=CP.at_;unfold b8 at this;rw[RJ] at this;cases this
 have h9p:g9≠p:=mJ h9 CP.at_ (by decide);have yZ:w5.ownsMap Tryz.prog 208 (plainElem Tryz.prog 29) bd n Dd:=dQ hd (jo bd hd.lt Vg nd);have h95:w5.heap[g9]? = some (.cells L 208 (0,0)):=(jo _ (Array.getElem?_eq_some_iff.1 h9).1 h9p n9).trans h9;have Kr:=run_loadVar_row (P:=Tryz.prog) w5.drew g9 208 208 L (0,0) _ h95 Tryz.underlying208 rfl (by rw[hL];exact x9);refine⟨b8.c2 hp5,Kr,yZ.drew,fun w6 hd6 wk=>⟨g2,zY,?_,?_,?_,hd6,⟨?_,?_,?_,?_,?_⟩⟩⟩
 ·unfold b8
  rw[wk.block p (Nat.lt_of_lt_of_le CP.at_.lt Kp) (fun e=>Vg (Option.some.inj e).symm)];exact hp5
 ·refine ai RH (fun g' kT=>(wk.block g' (ah RH kT) ?_))
  obtain⟨Ro,YP,hb2⟩:=dM yZ
  have:=dS RH hb2
  rw[kT] at this;exact fun e=>this e.symm
 ·exact hloc
 ·rw[wk.os];exact hos
 ·rw[wk.tape];exact MZ
 ·rw[wk.output];exact hout
 ·exact Nat.le_trans Kp wk.size
 ·intro k hk gU hkb hne
  rw[wk.block k (Nat.lt_of_lt_of_le hk Kp) (fun e=>hkb (Option.some.inj e))];exact jo k hk gU hne
def YW (ft:gA)(w w':World)(p:Nat)(a:Option Addr)(n cap bf bd:Nat)(Dd:DataW Unit)(ag:List Ob)(es:List aK)(m:Nat)(e:Ending):Prop:=
 (Below w.heap.size w w'/\
  (((∃x ∈ es,aF x.1=false)/\e=.returned (.tuple #[.int .i64 0,.int .i64 1]))\/
   ((∀x ∈ es,aF x.1=true)/\
    ((¬(es.map (·.1)).Nodup/\e=.returned (.tuple #[.int .i64 0,.int .i64 6]))\/
    ((es.map (·.1)).Nodup/\16<es.length/\e=.returned (.tuple #[.int .i64 0,.int .i64 11]))\/
    ((es.map (·.1)).Nodup/\es.length<=16/\(∃x ∈ es,eV ag x=false)/\e=.returned (.tuple #[.int .i64 0,.int .i64 13]))\/
    ((es.map (·.1)).Nodup/\es.length<=16/\(∀x ∈ es,eV ag x=true)/\∃es',es'.Perm es/\gC es'/\
     ((5<dn ag es'/\e=.returned (.tuple #[.int .i64 0,.int .i64 11]))\/
      (dn ag es'<=5/\Maps.has Dd (gD Tryz.prog es')=true/\∃c,Dd.atKey (gD Tryz.prog es') (.lit (.int .i64 0))=.lit (.int .i64 c)/\e=.returned (.tuple #[.int .i64 c,.int .i64 0]))\/
      (dn ag es'<=5/\Maps.has Dd (gD Tryz.prog es')=false/\400<=n/\e=.returned (.tuple #[.int .i64 0,.int .i64 11]))))))))\/
 ((∀x ∈ es,aF x.1=true)/\(es.map (·.1)).Nodup/\es.length<=16/\(∀x ∈ es,eV ag x=true)/\n<400/\∃es',es'.Perm es/\gC es'/\dn ag es'<=5/\0<=dn ag es'/\Maps.has Dd (gD Tryz.prog es')=false/\
  e=.returned (.tuple #[.int .i64 ((n:Int)+1),.int .i64 0])/\∃g cap',w'.ownsRow w.heap.size 96 3 (.slice (some ⟨g,0,none⟩) m cap') m (flat es')/\
   ye ft w w' p a n cap bf bd bd 208 (dV ag ++ [.int .i64 2,.string ByteArray.empty,.slice (some ⟨g,0,none⟩) m cap',.int .i64 (dn ag es')]) (Dd.put (gD Tryz.prog es') (.lit (.int .i64 ((n:Int)+1)))))
theorem ye.before {w W w':World}{p:Nat}{a:Option Addr}{n cap bf bd bm:Nat}{k:TypeId}{cells:List Value}{D:DataW Unit}(h:ye ft W w' p a n cap bf bd bm k cells D)(hb:Below w.heap.size w W):ye ft w w' p a n cap bf bd bm k cells D:=by
 obtain⟨g2,zY,h1,h2,h3,h4,h5⟩:=h;refine⟨g2,zY,h1,h2,h3.imp id (fun h=>Nat.le_trans hb.size h),h4,⟨h5.os.trans hb.os,h5.tape.trans hb.tape,h5.output.trans hb.output,Nat.le_trans hb.size h5.size,?_⟩⟩;intro k hk gU hkb hne;rw[h5.block k (Nat.lt_of_lt_of_le hk hb.size) gU hkb hne,hb.block k hk]
theorem ye.keeps {w w':World}{p:Nat}{a:Option Addr}{n cap bf bd bm:Nat}{k:TypeId}{cells:List Value}{D:DataW Unit}{ag:List Ob}(h:ye ft w w' p a n cap bf bd bm k cells D)(hp:iF ft w p a n cap bf bd ag)
  {Vf:Array MapEntry}{clock:Nat}(hm:w.heap[bm]? = some (.map Vf clock)){base:Nat}{e:TypeId}{size m:Nat}{v:Value}{xs:List Value}(hrow:w.ownsRow base e size v m xs)(h51:e≠213)(RL:e≠185):w'.ownsRow base e size v m xs:=by
 obtain⟨g2,zY,_,_,_,_,h5⟩:=h;refine ai hrow (fun g hg=>?_);have abM:=aA hrow (b:=p) hp.at_ (fun e=>RL e.symm);have abN:=dS hrow hm;rw[hg] at abM abN;refine h5.block g (ah hrow hg) (fun e=>abM (by rw[e])) (fun e=>abN (by rw[e])) ?_;rcases hrow.2 with ⟨rfl,_⟩ | ⟨g',c',cur,rfl,_,hh,_⟩
 ·simp[Value.ownBlock] at hg
 ·simp only[Value.ownBlock,Option.some.injEq] at hg
  subst hg;exact aA hp.row hh h51
theorem Na {ag:List Ob}(hk:∀o ∈ ag,o.kind=1\/o.kind=2)(hn:ag.length<=400){e:aK}(hv:aF e.1=true)(hg:eV ag e=true):Fits e:=by
 have hs:=eo hv;unfold eV at hg;simp only[Bool.and_eq_true,Bool.not_eq_true',beq_eq_false_iff_ne,beq_iff_eq] at hg;obtain⟨h0,h1⟩:=hg;have hid:¬(e.2.2<1\/(ag.length:Int)<e.2.2):=fun h=>h0 (fD h);refine⟨by unfold maxLen;omega,?_,WalkArith.wf_i64 (by omega)⟩;obtain⟨j,hj⟩:∃j:Nat,e.2.2=(j:Int)+1:=⟨(e.2.2-1).toNat,by omega⟩;have lU:j<ag.length:=by omega
 rw[hj,dL lU] at h1;rw[<-h1];rcases hk ag[j] (List.getElem_mem lU) with h | h <;> rw[h] <;> exact WalkArith.wf_i64 (by omega)
theorem Ks (p b off m c0:Nat)(a:Option Addr)(n cap bf bd:Nat)(ag:List Ob)(Dd:DataW Unit)(es:List aK)(w:World)(h:iF ft w p a n cap bf bd ag)(hd:w.ownsMap Tryz.prog 208 (plainElem Tryz.prog 29) bd n Dd)
  (hl:es.length=m)(hbl:b<w.heap.size)(jl:m*32<=140737488355328)(hc:∀j u,(flat es)[j]? = some u->w.cell? ⟨b,off+j,none⟩=some u)
  (hsz:∀e ∈ es,e.1.size<=maxLen)(hh:∀o ∈ ag,0<=o.high/\o.high<=5)(hk:∀o ∈ ag,o.kind=1\/o.kind=2):
  Calls Tryz.prog 60 #[.pointer (some ⟨p,0,none⟩),.slice (some ⟨b,off,none⟩) m c0] w fun e w'=>YW ft w w' p a n cap bf bd Dd ag es m e:=by
 have abO:=ES b off m c0 es w hl hbl jl hc hsz;go_enter Tryz.func60,Tryz.ntmps60;go_wp2_with fail;refine abO.mono ?_;rintro e w1 ⟨hb1,⟨hA,rfl⟩ | ⟨hA,hB,rfl⟩ | ⟨hA,hB,hC,rfl⟩ | ⟨hA,hB,hC,es',g,cap',rfl,hP,hR,hown⟩⟩
 ·go_wp2
  go_ret2;exact .inl ⟨hb1,.inl ⟨hA,rfl⟩⟩
 ·go_wp2
  go_ret2;exact .inl ⟨hb1,.inr ⟨hA,.inl ⟨hB,rfl⟩⟩⟩
 ·go_wp2
  go_ret2;exact .inl ⟨hb1,.inr ⟨hA,.inr (.inl ⟨hB,hC,rfl⟩)⟩⟩
 ·have hle:es'.length=m:=by rw[hP.length_eq,hl]
  have wB:m<=16:=by omega
  have abP:=EZ p g cap' a n cap bf bd m ag es' w1 (h.below hb1) hle wB (ah hown rfl) (aQ hown) hh;have HA:Hid (∀x ∈ es,aF x.1=true):=hA;have HB:Hid ((es.map (·.1)).Nodup):=hB;have HC:Hid (es.length<=16):=hC;have HP:Hid (es'.Perm es):=hP;have HR:Hid (gC es'):=hR;have HK:Hid (∀o ∈ ag,o.kind=1\/o.kind=2):=hk;clear abO hc jl hsz hA hB hC hP hR hk;go_wp2_with fail;refine abP.mono ?_;rintro e w2 ⟨hb2,⟨hD,rfl⟩ | ⟨hD,hE,rfl⟩ | ⟨hD,hE,hE0,rfl⟩⟩
  ·go_wp2
   go_ret2;obtain⟨x,hx,hgx⟩:=hD;exact .inl ⟨hb1.trans (hb2.mono hb1.size),.inr ⟨HA.out,.inr (.inr (.inl ⟨HB.out,HC.out,⟨x,HP.out.mem_iff.1 hx,hgx⟩,rfl⟩))⟩⟩
  ·go_wp2
   go_ret2;exact .inl ⟨hb1.trans (hb2.mono hb1.size),.inr ⟨HA.out,.inr (.inr (.inr ⟨HB.out,HC.out,fun x hx=>hD x (HP.out.mem_iff.2 hx),es',HP.out,HR.out,.inl ⟨hE,rfl⟩⟩))⟩⟩
  ·have kQ:Below w.heap.size w w2:=hb1.trans (hb2.mono hb1.size)
   have hown2:w2.ownsRow w.heap.size 96 3 (.slice (some ⟨g,0,none⟩) m cap') m (flat es'):=ai hown (fun g hg=>hb2.block g (ah hown hg));have abQ:=EY g m cap' es' w2 hle (ah hown2 rfl) wB (aQ hown2);have HZ:Hid ((bM es').size=48):=nK (by omega);clear abP;go_wp2_with (first
    | (go_at_call 111;refine abQ.mono ?_;rintro e w3 ⟨rfl,hb3⟩)
    | (refine wpList_store_row rfl 208 _ _ rfl w3.heap.size (bM es') rfl rfl 208 _ (heap_alloc_new w3 _) (by rw[HZ.out];exact x9) (by rw[HZ.out];rfl) (yY es') ?_;rw[E0]))
   have hp3:=(h.below ((kQ.trans (hb3.mono kQ.size)).alloc (by have:=hb3.size;have:=kQ.size;omega) (.cells (bM es') 208))).at_.c2;have RM:(w3.alloc (.cells (bM es') 208)).ownsMap Tryz.prog 208 (plainElem Tryz.prog 29) bd n Dd:=(dQ hd ((kQ.trans (hb3.mono kQ.size)).block bd hd.lt)).alloc _;have hg9:(w3.alloc (.cells (bM es') 208)).heap[w3.heap.size]? = some (.cells (bM es') 208 (0,0)):=heap_alloc_new w3 _;have Kt:Below w.heap.size w (w3.alloc (.cells (bM es') 208)):=(kQ.trans (hb3.mono kQ.size)).alloc (by have:=hb3.size;have:=kQ.size;omega) _;have HRW:Hid ((w3.alloc (.cells (bM es') 208)).ownsRow w.heap.size 96 3 (.slice (some ⟨g,0,none⟩) m cap') m (flat es')):=World.ownsRow.alloc (ai hown2 (fun g hg=>hb3.block g (ah hown2 hg))) _;have uO:∀e ∈ es',Fits e:=fun e he=>Na HK.out (by rw[h.len];exact h.many) (HA.out e (HP.out.mem_iff.1 he)) (hD e he);have HDG:Hid (∀x ∈ es,eV ag x=true):=fun x hx=>hD x (HP.out.mem_iff.2 hx);have hkey:=mA es' (by omega) uO;obtain⟨c,hrun,hat,hwc⟩:=RG (W:=fun q=>(w3.alloc (.cells (bM es') 208)).drewN q) (fun q=>RM) hkey;have XX:=fun q=>run_loadVar_row (P:=Tryz.prog) ((w3.alloc (.cells (bM es') 208)).drewN q) w3.heap.size 208 208 (bM es') (0,0) _ hg9 Tryz.underlying208 rfl (by rw[HZ.out];exact x9)
   go_frame
   have HG9:Hid ((w3.alloc (.cells (bM es') 208)).heap[w3.heap.size]? = some (.cells (bM es') 208 (0,0))):=hg9;clear hg9;generalize w3.alloc (.cells (bM es') 208)=W at *;refine wp_region_quiet_lit (by kernel_rfl) (by kernel_rfl) ?_
   iterate 4 quiet_step (fail)
   refine yb rfl 208 _ rfl w3.heap.size rfl (bM es') (by rintro _ ⟨q,rfl⟩;exact XX q) ?_
   go_frame
   refine E1 rfl 183 _ _ true rfl (.map (some bd)) (.agg (bM es')) (.tuple #[.int .i64 c,.bool (Maps.has Dd (gD Tryz.prog es'))]) rfl rfl (by rintro _ ⟨q,rfl⟩;exact hrun q) ?_
   go_frame
   repeat (quiet_step (fail))
   refine wpQuiet_nil ?_;rintro _ ⟨nq,rfl⟩;have CP:iF ft W p a n cap bf bd ag:=h.below Kt;clear XX hrun abQ;cases YX:Maps.has Dd (gD Tryz.prog es') with
   | true=>
    have HH:Hid (Maps.has Dd (gD Tryz.prog es')=true):=YX;have E2:Hid (Dd.atKey (gD Tryz.prog es') (.lit (.int .i64 0))=.lit (.int .i64 c)):=hat;clear YX hat hwc;go_wp2;go_ret2;exact .inl ⟨below_drewN Kt _,.inr ⟨HA.out,.inr (.inr (.inr ⟨HB.out,HC.out,HDG.out,es',HP.out,HR.out,.inr (.inl ⟨hE,HH.out,c,E2.out,rfl⟩)⟩))⟩⟩
   | false=>
    have HH:Hid (Maps.has Dd (gD Tryz.prog es')=false):=YX;clear hat hwc;by_cases hn:400<=n
    ·have AL:=GQ p 2 (dn ag es') ByteArray.empty a n cap (some ⟨g,0,none⟩) m cap' (W.drewN nq) CP.at_.lt hn CP.at_.c0
     go_wp2_with (go_at_call 112;refine AL.mono ?_;rintro e w5 ⟨rfl,rfl⟩);go_ret2;exact .inl ⟨(below_drewN Kt _).alloc (below_drewN Kt _).size _,.inr ⟨HA.out,.inr (.inr (.inr ⟨HB.out,HC.out,HDG.out,es',HP.out,HR.out,.inr (.inr ⟨hE,HH.out,hn,rfl⟩)⟩))⟩⟩
    ·have CI:n<400:=by omega
     have np:=aA CP.row (b:=p) CP.at_ (by decide);have AL:=GN p 2 (dn ag es') ByteArray.empty a n cap (dV ag) (some ⟨g,0,none⟩) m cap' (W.drewN nq) CP.at_.lt CI CP.at_.c0 CP.at_.f0 CP.row np;go_wp2_with (go_at_call 112;refine AL.mono ?_;rintro e w5 ⟨rfl,hAd⟩);obtain⟨kc,Kr,HD5,HF⟩:=Ox nq CP RM HG9.out hAd hkey CI HZ.out;clear hAd AL np;refine wp_region_still_tail 6 (by kernel_rfl) (by kernel_rfl) ?_;simp only[List.take_succ_cons,List.take_zero,List.drop_succ_cons,List.drop_zero]
     iterate 4 still_step
     refine yc rfl 208 _ rfl w3.heap.size rfl (bM es') Kr ?_
     go_frame
     still_step
     refine wpStill_nil ?_;refine wpList_mapUpdate_own _ rfl _ _ _ 183 rfl 208 29 M6 Tryz.underlying183 _ bd n _ rfl HD5.out (by unfold maxLen;omega) _ _ _ rfl rfl hkey _ [] (plainElem_int Tryz.underlying29 (WalkArith.wf_i64 (by omega))) ?_;intro w6 hd6 wk;have HG:Hid (ye ft W w6 p a n cap bf bd bd 208 (dV ag ++ [.int .i64 2,.string ByteArray.empty,.slice (some ⟨g,0,none⟩) m cap',.int .i64 (dn ag es')]) (Dd.put (gD Tryz.prog es') (.lit (.int .i64 ((n:Int)+1))))):=HF.out w6 hd6 wk;clear hd6 wk;go_wp2;go_ret2;obtain⟨Vf,Kq,RJ⟩:=dM RM;have hrow3:W.ownsRow w.heap.size 96 3 (.slice (some ⟨g,0,none⟩) m cap') m (flat es'):=HRW.out;exact .inr ⟨HA.out,HB.out,HC.out,HDG.out,CI,es',HP.out,HR.out,hE,hE0,HH.out,rfl,g,cap',HG.out.keeps CP RJ hrow3 (by decide) (by decide),HG.out.before Kt⟩
end Go.Proofs.YtlgidcmmgohagaaGreat
