/- What is proved here: the library's functions that this program calls are. -/
import Derived.Shelf.Small.Bits
import Derived.Shelf.Small.Strs
import Derived.Shelf.Strconv.Itoa0
import Derived.Shelf.LaysM
import Derived.Shelf.Strconv.Clone
import Derived.Shelf.Strings.Search1
import Derived.Shelf.Strings.Search2
import Derived.Shelf.Strings.Cut
import Derived.Shelf.Strings.Shaped
import Derived.Shelf.SlGeneric
import Derived.Shelf.SlSortCmp.SmallK
import Derived.Shelf.SlicesE.Clone
import Derived.Ground.SlsfProg
import Derived.Ground.SlgnProg
import Derived.Test.YtlgidcmmgohagaaGreatProg
import Derived.WalkKit
import Derived.WalkSpells
import Derived.WalkLawsBesides
import Derived.Maps.OwnSet
import Derived.Maps.AppendAt
import Derived.Deep.RegionLawGrows
import Derived.Shelf.SlSortCmp.WholeK
import Derived.Sort.OwnSorted
import Derived.Deep.QuietTactic
import Derived.BigQuiet
import Derived.Laws.CopyOwn
import Derived.DeepKeys4
namespace Go.Proofs.YtlgidcmmgohagaaGreat
theorem zzA:type_of% @Nat.lt_of_lt_of_le:=@Nat.lt_of_lt_of_le
theorem zzB:type_of% @if_neg:=@if_neg
theorem zzC:type_of% @Nat.le_refl:=@Nat.le_refl
theorem zzD:type_of% @if_pos:=@if_pos
theorem zzE:type_of% @decide_eq_false:=@decide_eq_false
theorem zzF:type_of% @Nat.zero_le:=@Nat.zero_le
theorem zzG:type_of% @Nat.le_trans:=@Nat.le_trans
theorem zzH:type_of% @List.getElem?_eq_getElem:=@List.getElem?_eq_getElem
theorem zzI:type_of% @List.take_succ_eq_append_getElem:=@List.take_succ_eq_append_getElem
theorem zzJ:type_of% @List.getElem_mem:=@List.getElem_mem
end Go.Proofs.YtlgidcmmgohagaaGreat
namespace Go.Proofs
open Go.Shelf
def Tryz.lays106_ren:Go.Shelf.Ren:=⟨fun | 106=>191 | 213=>218 | 265=>247 | n=>n,fun | 9=>9 | 3=>3 | n=>n,fun | n=>n⟩
theorem Tryz.lays106:Go.Proofs.Lays.n106 Tryz.prog Tryz.lays106_ren:={
 mixed:=by kernel_rfl
 f106:=Tryz.func191.trans (congrArg some (by kernel_rfl))
 f213:=Tryz.func218.trans (congrArg some (by kernel_rfl))
 f265:=Tryz.func247.trans (congrArg some (by kernel_rfl))
 t3:=Tryz.underlying3
 a3:=Tryz.isAgg3
 z3:=Tryz.sizeOf3
 v3:=Tryz.zeroValue3
 t9:=Tryz.underlying9
 a9:=Tryz.isAgg9
 z9:=Tryz.sizeOf9
 v9:=Tryz.zeroValue9 }
open Go.RowKit in
theorem Tryz.strings_Compare (a b:ByteArray)(w:World):
  Calls Tryz.prog 191 #[.string a,.string b] w fun e w'=>e=.returned (.int .i64 (Lib.compareBytes a.data.toList b.data.toList))/\w'=w:=Any.strings_Compare Tryz.lays106 a b w
def Tryz.lays137_ren:Go.Shelf.Ren:=⟨fun | 137=>185 | 217=>216 | 266=>246 | n=>n,fun | 9=>9 | 5=>5 | 3=>3 | n=>n,fun | n=>n⟩
theorem Tryz.lays137:Go.Proofs.Lays.n137 Tryz.prog Tryz.lays137_ren:={
 mixed:=by kernel_rfl
 f137:=Tryz.func185.trans (congrArg some (by kernel_rfl))
 f217:=Tryz.func216.trans (congrArg some (by kernel_rfl))
 f266:=Tryz.func246.trans (congrArg some (by kernel_rfl))
 t3:=Tryz.underlying3
 a3:=Tryz.isAgg3
 z3:=Tryz.sizeOf3
 v3:=Tryz.zeroValue3
 t5:=Tryz.underlying5
 a5:=Tryz.isAgg5
 z5:=Tryz.sizeOf5
 v5:=Tryz.zeroValue5
 t9:=Tryz.underlying9
 a9:=Tryz.isAgg9
 z9:=Tryz.sizeOf9
 v9:=Tryz.zeroValue9 }
open Go.RowKit in
theorem Tryz.strings_IndexByte (s:ByteArray)(c:Int)(w:World):
  Calls Tryz.prog 185 #[.string s,.int .u8 c] w fun e w'=>e=.returned (.int .i64 (Lib.indexByte s.data.toList c.toNat.toUInt8))/\w'=w:=Any.strings_IndexByte Tryz.lays137 s c w
def Tryz.laysM316_ren:Go.Shelf.Ren:=⟨fun | 316=>186 | n=>n,fun | 9=>9 | 3=>3 | 4=>4 | 37=>204 | 0=>0 | 127=>310 | 5=>5 | n=>n,fun | n=>n⟩
theorem Tryz.laysM316:Go.Proofs.LaysM.n316 Tryz.prog Tryz.laysM316_ren:={
 mixed:=by kernel_rfl
 f316:=Tryz.func186.trans (congrArg some (by kernel_rfl))
 t0:=Tryz.underlying0
 a0:=Tryz.isAgg0
 z0:=Tryz.sizeOf0
 v0:=Tryz.zeroValue0
 t3:=Tryz.underlying3
 a3:=Tryz.isAgg3
 z3:=Tryz.sizeOf3
 v3:=Tryz.zeroValue3
 t4:=Tryz.underlying4
 a4:=Tryz.isAgg4
 z4:=Tryz.sizeOf4
 v4:=Tryz.zeroValue4
 t9:=Tryz.underlying9
 a9:=Tryz.isAgg9
 z9:=Tryz.sizeOf9
 v9:=Tryz.zeroValue9
 t37:=Tryz.underlying204
 a37:=Tryz.isAgg204
 z37:=Tryz.sizeOf204
 v37:=Tryz.zeroValue204
 t127:=Tryz.underlying310
 a127:=Tryz.isAgg310
 z127:=Tryz.sizeOf310
 v127:=Tryz.zeroValue310
 t5:=Tryz.underlying5
 a5:=Tryz.isAgg5
 z5:=Tryz.sizeOf5
 v5:=Tryz.zeroValue5
 i0:=by kernel_rfl
 i3:=by kernel_rfl
 i4:=by kernel_rfl
 i5:=by kernel_rfl
 i9:=by kernel_rfl
 i37:=by kernel_rfl
 i127:=by kernel_rfl }
open Go.RowKit in
theorem Tryz.stringslite_Clone (s:ByteArray)(w:World)(hlim:s.size<=281474976710656):
  Calls Tryz.prog 186 #[.string s] w fun e w'=>e=.returned (.string s)/\Below w.heap.size w w':=Any.stringslite_Clone Tryz.laysM316 s w hlim
def Tryz.lays217_ren:Go.Shelf.Ren:=⟨fun | 217=>216 | 266=>246 | n=>n,fun | 9=>9 | 5=>5 | 3=>3 | n=>n,fun | n=>n⟩
theorem Tryz.lays217:Go.Proofs.Lays.n217 Tryz.prog Tryz.lays217_ren:={
 mixed:=by kernel_rfl
 f217:=Tryz.func216.trans (congrArg some (by kernel_rfl))
 f266:=Tryz.func246.trans (congrArg some (by kernel_rfl))
 t3:=Tryz.underlying3
 a3:=Tryz.isAgg3
 z3:=Tryz.sizeOf3
 v3:=Tryz.zeroValue3
 t5:=Tryz.underlying5
 a5:=Tryz.isAgg5
 z5:=Tryz.sizeOf5
 v5:=Tryz.zeroValue5
 t9:=Tryz.underlying9
 a9:=Tryz.isAgg9
 z9:=Tryz.sizeOf9
 v9:=Tryz.zeroValue9 }
open Go.RowKit Go.Lib in
theorem Tryz.stringslite_IndexByte (s:ByteArray)(c:Int)(w:World):
  Calls Tryz.prog 216 #[.string s,.int .u8 c] w fun e w'=>e=.returned (.int .i64 (Lib.indexByte s.data.toList c.toNat.toUInt8))/\w'=w:=Any.stringslite_IndexByte Tryz.lays217 s c w
def Tryz.sortE_ren:Go.Shelf.Ren:=⟨fun | 6=>171 | 15=>208 | 14=>209 | 28=>233 | 29=>234 | 20=>235 | 21=>236 | 22=>237 | 23=>238 | 24=>239 | 25=>240 | 26=>241 | 27=>242 | 46=>255 | 47=>251 | 48=>252 | 49=>256 | 50=>257 | 57=>264 | n=>n,fun | 22=>55 | 24=>96 | 25=>264 | 3=>3 | 39=>301 | 0=>0 | 53=>323 | 55=>325 | 4=>4 | 46=>317 | 45=>316 | 50=>232 | 5=>5 | 9=>9 | 66=>332 | 70=>336 | 76=>350 | 77=>98 | n=>n,fun | n=>n⟩
theorem Tryz.sortE:Go.Proofs.SlLaysF0.n6 Tryz.prog Tryz.sortE_ren:={
 mixed:=by kernel_rfl
 f6:=⟨Tryz.f171.name,by decide,Tryz.func171.trans (congrArg some (by kernel_rfl))⟩
 f14:=⟨Tryz.f209.name,by decide,Tryz.func209.trans (congrArg some (by kernel_rfl))⟩
 f15:=Tryz.func208.trans (congrArg some (by kernel_rfl))
 f20:=⟨Tryz.f235.name,by decide,Tryz.func235.trans (congrArg some (by kernel_rfl))⟩
 f21:=⟨Tryz.f236.name,by decide,Tryz.func236.trans (congrArg some (by kernel_rfl))⟩
 f22:=⟨Tryz.f237.name,by decide,Tryz.func237.trans (congrArg some (by kernel_rfl))⟩
 f23:=⟨Tryz.f238.name,by decide,Tryz.func238.trans (congrArg some (by kernel_rfl))⟩
 f24:=⟨Tryz.f239.name,by decide,Tryz.func239.trans (congrArg some (by kernel_rfl))⟩
 f25:=⟨Tryz.f240.name,by decide,Tryz.func240.trans (congrArg some (by kernel_rfl))⟩
 f26:=⟨Tryz.f241.name,by decide,Tryz.func241.trans (congrArg some (by kernel_rfl))⟩
 f27:=⟨Tryz.f242.name,by decide,Tryz.func242.trans (congrArg some (by kernel_rfl))⟩
 f28:=Tryz.func233.trans (congrArg some (by kernel_rfl))
 f29:=Tryz.func234.trans (congrArg some (by kernel_rfl))
 f46:=⟨Tryz.f255.name,by decide,Tryz.func255.trans (congrArg some (by kernel_rfl))⟩
 f47:=Tryz.func251.trans (congrArg some (by kernel_rfl))
 f48:=Tryz.func252.trans (congrArg some (by kernel_rfl))
 f49:=⟨Tryz.f256.name,by decide,Tryz.func256.trans (congrArg some (by kernel_rfl))⟩
 f50:=⟨Tryz.f257.name,by decide,Tryz.func257.trans (congrArg some (by kernel_rfl))⟩
 f57:=⟨Tryz.f264.name,by decide,Tryz.func264.trans (congrArg some (by kernel_rfl))⟩
 t0:=Tryz.underlying0
 a0:=Tryz.isAgg0
 z0:=Tryz.sizeOf0
 v0:=Tryz.zeroValue0
 t3:=Tryz.underlying3
 a3:=Tryz.isAgg3
 z3:=Tryz.sizeOf3
 v3:=Tryz.zeroValue3
 t4:=Tryz.underlying4
 a4:=Tryz.isAgg4
 z4:=Tryz.sizeOf4
 v4:=Tryz.zeroValue4
 t5:=Tryz.underlying5
 a5:=Tryz.isAgg5
 z5:=Tryz.sizeOf5
 v5:=Tryz.zeroValue5
 t9:=Tryz.underlying9
 a9:=Tryz.isAgg9
 z9:=Tryz.sizeOf9
 v9:=Tryz.zeroValue9
 t22:=Tryz.underlying55
 a22:=Tryz.isAgg55
 z22:=Tryz.sizeOf55
 v22:=Tryz.zeroValue55
 t25:=Tryz.underlying264
 a25:=Tryz.isAgg264
 z25:=Tryz.sizeOf264
 v25:=Tryz.zeroValue264
 t39:=Tryz.underlying301
 a39:=Tryz.isAgg301
 z39:=Tryz.sizeOf301
 v39:=Tryz.zeroValue301
 t45:=Tryz.underlying316
 a45:=Tryz.isAgg316
 z45:=Tryz.sizeOf316
 v45:=Tryz.zeroValue316
 t46:=Tryz.underlying317
 a46:=Tryz.isAgg317
 z46:=Tryz.sizeOf317
 v46:=Tryz.zeroValue317
 t50:=Tryz.underlying232
 a50:=Tryz.isAgg232
 z50:=Tryz.sizeOf232
 v50:=Tryz.zeroValue232
 t53:=Tryz.underlying323
 a53:=Tryz.isAgg323
 z53:=Tryz.sizeOf323
 v53:=Tryz.zeroValue323
 t55:=Tryz.underlying325
 a55:=Tryz.isAgg325
 z55:=Tryz.sizeOf325
 v55:=Tryz.zeroValue325
 t66:=Tryz.underlying332
 a66:=Tryz.isAgg332
 z66:=Tryz.sizeOf332
 v66:=Tryz.zeroValue332
 t70:=Tryz.underlying336
 a70:=Tryz.isAgg336
 z70:=Tryz.sizeOf336
 v70:=Tryz.zeroValue336
 t76:=Tryz.underlying350
 a76:=Tryz.isAgg350
 z76:=Tryz.sizeOf350
 v76:=Tryz.zeroValue350
 t77:=Tryz.underlying98
 a77:=Tryz.isAgg98
 z77:=Tryz.sizeOf98
 v77:=Tryz.zeroValue98 }
def Tryz.cloneE_ren:Go.Shelf.Ren:=⟨fun | 41=>170 | n=>n,fun | 22=>55 | 23=>96 | 4=>4 | n=>n,fun | n=>n⟩
theorem Tryz.cloneE:Go.Proofs.SlLaysE0.n41 Tryz.prog Tryz.cloneE_ren:={
 mixed:=by kernel_rfl
 f41:=⟨Tryz.f170.name,by decide,Tryz.func170.trans (congrArg some (by kernel_rfl))⟩
 t4:=Tryz.underlying4
 a4:=Tryz.isAgg4
 z4:=Tryz.sizeOf4
 v4:=Tryz.zeroValue4
 t22:=Tryz.underlying55
 a22:=Tryz.isAgg55
 z22:=Tryz.sizeOf55
 v22:=Tryz.zeroValue55 }
def Tryz.cloneI_ren:Go.Shelf.Ren:=⟨fun | 41=>201 | n=>n,fun | 22=>59 | 23=>29 | 4=>4 | n=>n,fun | n=>n⟩
theorem Tryz.cloneI:Go.Proofs.SlLaysE0.n41 Tryz.prog Tryz.cloneI_ren:={
 mixed:=by kernel_rfl
 f41:=⟨Tryz.f201.name,by decide,Tryz.func201.trans (congrArg some (by kernel_rfl))⟩
 t4:=Tryz.underlying4
 a4:=Tryz.isAgg4
 z4:=Tryz.sizeOf4
 v4:=Tryz.zeroValue4
 t22:=Tryz.underlying59
 a22:=Tryz.isAgg59
 z22:=Tryz.sizeOf59
 v22:=Tryz.zeroValue59 }
end Go.Proofs
namespace Go.Proofs.YtlgidcmmgohagaaGreat
open Go.RowKit
set_option linter.unusedVariables false
theorem fld0 (c0 c1 c2 c3:Value)(w:World):(Instr.field 213 (.agg #[c0,c1,c2,c3]) 0).run Tryz.prog w=.ok c0 w:=by kernel_rfl
theorem fld1 (c0 c1 c2 c3:Value)(w:World):(Instr.field 213 (.agg #[c0,c1,c2,c3]) 1).run Tryz.prog w=.ok c1 w:=by kernel_rfl
theorem fld2 (c0 c1 c2 c3:Value)(w:World):(Instr.field 213 (.agg #[c0,c1,c2,c3]) 2).run Tryz.prog w=.ok c2 w:=by kernel_rfl
theorem fld3 (c0 c1 c2 c3:Value)(w:World):(Instr.field 213 (.agg #[c0,c1,c2,c3]) 3).run Tryz.prog w=.ok c3 w:=by kernel_rfl
set_option maxRecDepth 100000 in
set_option maxHeartbeats 400000 in
theorem at_any (p g n cap j:Nat)(k:Int)(d:ByteArray)(ea:Option Addr)(el ec:Nat)(h:Int)(w:World)(hp:p<w.heap.size)(hg:g<w.heap.size)(h0:w.cell? ⟨p,0,none⟩=some (.slice (some ⟨g,0,none⟩) n cap))
  (hn:j<n)(hm:n<=400)
  (k0:w.cell? ⟨g,j*4,none⟩=some (.int .i64 k))(k1:w.cell? ⟨g,j*4+1,none⟩=some (.string d))(k2:w.cell? ⟨g,j*4+2,none⟩=some (.slice ea el ec))(k3:w.cell? ⟨g,j*4+3,none⟩=some (.int .i64 h)):
  Calls Tryz.prog 113 #[.pointer (some ⟨p,0,none⟩),.int .i64 ((j:Int)+1)] w fun e w'=>e=.returned (.agg #[.int .i64 k,.string d,.slice ea el ec,.int .i64 h])/\w'=w.alloc (.cells #[.int .i64 k,.string d,.slice ea el ec,.int .i64 h] 213):=by
 have e1:((j:Int)+1-1)=j:=by omega
 go_enter Tryz.func113,Tryz.ntmps113;go_wp2;exact bodyPost_ret (v:=.agg #[.int .i64 k,.string d,.slice ea el ec,.int .i64 h]) (by simp[results,Tryz.results113,go_sem]) rfl ⟨rfl,rfl⟩
set_option maxRecDepth 100000 in
set_option maxHeartbeats 400000 in
theorem kind_none (p n cap:Nat)(a:Option Addr)(id:Int)(w:World)(h0:w.cell? ⟨p,0,none⟩=some (.slice a n cap))(hm:n<=400)(hid:id<1\/(n:Int)<id):
  Calls Tryz.prog 61 #[.pointer (some ⟨p,0,none⟩),.int .i64 id] w fun e w'=>e=.returned (.int .i64 0)/\w'=w:=by
 by_cases h1:id<1
 ·go_enter Tryz.func61,Tryz.ntmps61
  go_wp2;go_ret;exact⟨rfl,rfl⟩
 ·have h2:(n:Int)<id:=by omega
  go_enter Tryz.func61,Tryz.ntmps61;go_wp2;go_ret;exact⟨rfl,rfl⟩
set_option maxRecDepth 100000 in
set_option maxHeartbeats 400000 in
theorem kind_some (p g n cap j:Nat)(k:Int)(d:ByteArray)(ea:Option Addr)(el ec:Nat)(h:Int)(w:World)(hp:p<w.heap.size)(hg:g<w.heap.size)(h0:w.cell? ⟨p,0,none⟩=some (.slice (some ⟨g,0,none⟩) n cap))
  (hn:j<n)(hm:n<=400)
  (k0:w.cell? ⟨g,j*4,none⟩=some (.int .i64 k))(k1:w.cell? ⟨g,j*4+1,none⟩=some (.string d))(k2:w.cell? ⟨g,j*4+2,none⟩=some (.slice ea el ec))(k3:w.cell? ⟨g,j*4+3,none⟩=some (.int .i64 h)):
  Calls Tryz.prog 61 #[.pointer (some ⟨p,0,none⟩),.int .i64 ((j:Int)+1)] w fun e w'=>e=.returned (.int .i64 k)/\w'=w.alloc (.cells #[.int .i64 k,.string d,.slice ea el ec,.int .i64 h] 213):=by
 have hcon:=fun W hp hg h0 k0 k1 k2 k3=>at_any p g n cap j k d ea el ec h W hp hg h0 hn hm k0 k1 k2 k3;have t1:¬((j:Int)+1<1):=by omega
 have f0:=fld0;have t2:¬((n:Int)<(j:Int)+1):=by omega
 go_enter Tryz.func61,Tryz.ntmps61;go_wp2_with (go_at_call 113;refine (hcon _ hp hg h0 k0 k1 k2 k3).mono ?_;rintro e w' ⟨rfl,rfl⟩);go_ret;exact⟨rfl,rfl⟩
set_option maxRecDepth 100000 in
set_option maxHeartbeats 400000 in
theorem file_not (p n cap:Nat)(a:Option Addr)(id:Int)(w:World)(h0:w.cell? ⟨p,0,none⟩=some (.slice a n cap))(hm:n<=400)(hid:id<1\/(n:Int)<id):
  Calls Tryz.prog 84 #[.pointer (some ⟨p,0,none⟩),.int .i64 id] w fun e w'=>e=.returned (.tuple #[.string ByteArray.empty,.int .i64 13])/\w'=w:=by
 have hcon:=kind_none p n cap a id w h0 hm hid;go_enter Tryz.func84,Tryz.ntmps84;go_wp2_with (go_at_call 61;refine hcon.mono ?_;rintro e w' ⟨rfl,rfl⟩);go_ret2;exact⟨rfl,rfl⟩
set_option maxRecDepth 100000 in
set_option maxHeartbeats 400000 in
theorem file_some (p g n cap j:Nat)(k:Int)(d:ByteArray)(ea:Option Addr)(el ec:Nat)(h:Int)(w:World)(hp:p<w.heap.size)(hg:g<w.heap.size)(h0:w.cell? ⟨p,0,none⟩=some (.slice (some ⟨g,0,none⟩) n cap))
  (hn:j<n)(hm:n<=400)
  (k0:w.cell? ⟨g,j*4,none⟩=some (.int .i64 k))(k1:w.cell? ⟨g,j*4+1,none⟩=some (.string d))(k2:w.cell? ⟨g,j*4+2,none⟩=some (.slice ea el ec))(k3:w.cell? ⟨g,j*4+3,none⟩=some (.int .i64 h)):
  Calls Tryz.prog 84 #[.pointer (some ⟨p,0,none⟩),.int .i64 ((j:Int)+1)] w fun e w'=>e=.returned (if k=1 then .tuple #[.string d,.int .i64 0] else .tuple #[.string ByteArray.empty,.int .i64 13])/\Below w.heap.size w w':=by
 have hkind:=kind_some p g n cap j k d ea el ec h w hp hg h0 hn hm k0 k1 k2 k3;have hcon:=fun W hp hg h0 k0 k1 k2 k3=>at_any p g n cap j k d ea el ec h W hp hg h0 hn hm k0 k1 k2 k3;by_cases hk:k=1
 ·subst hk
  rw[if_pos rfl];have hb:∀b o,b<w.heap.size->(w.alloc (.cells #[.int .i64 1,.string d,.slice ea el ec,.int .i64 h] 213)).cell? ⟨b,o,none⟩=w.cell? ⟨b,o,none⟩:=fun b o hb=>World.cell?_alloc_past _ _ _ hb
  have f1:=fld1;go_enter Tryz.func84,Tryz.ntmps84;go_wp2_with (first
   | (go_at_call 61;refine hkind.mono ?_;rintro e w' ⟨rfl,rfl⟩)
   | (go_at_call 113;refine (hcon _ (by simp;omega) (by simp;omega) (by rw[hb _ _ hp];exact h0) (by rw[hb _ _ hg];exact k0) (by rw[hb _ _ hg];exact k1) (by rw[hb _ _ hg];exact k2) (by rw[hb _ _ hg];exact k3)).mono ?_;rintro e w' ⟨rfl,rfl⟩))
  go_ret2;exact⟨rfl,((Below.refl _ _).alloc (Nat.le_refl _) _).alloc (by simp) _⟩
 ·rw[if_neg hk]
  have hk':(k == 1)=false:=by simpa using hk
  go_enter Tryz.func84,Tryz.ntmps84;go_wp2_with (go_at_call 61;refine hkind.mono ?_;rintro e w' ⟨rfl,rfl⟩);go_ret2;exact⟨rfl,((Below.refl _ _).alloc (Nat.le_refl _) _)⟩
set_option maxRecDepth 100000 in
set_option maxHeartbeats 400000 in
theorem newPool_any (w:World):
  Calls Tryz.prog 59 #[] w fun e w'=>e=.returned (.pointer (some ⟨w.heap.size+2,0,none⟩))/\w'=((w.alloc (.map #[] 0)).alloc (.map #[] 0)).alloc (.cells #[.slice none 0 0,.map (some w.heap.size),.map (some (w.heap.size+1)),.slice none 0 0,.bool false] 185):=by
 have hmm:=@run_makeMap Tryz.prog;go_enter Tryz.func59,Tryz.ntmps59;go_wp2;go_ret;exact⟨rfl,rfl⟩
set_option maxRecDepth 100000 in
set_option maxHeartbeats 400000 in
theorem newStore_any (w:World):
  Calls Tryz.prog 25 #[] w fun e w'=>e=.returned (.pointer (some ⟨w.heap.size+3,0,none⟩))/\w'=(((w.alloc (.map #[] 0)).alloc (.map #[] 0)).alloc (.cells #[.slice none 0 0,.map (some w.heap.size),.map (some (w.heap.size+1)),.slice none 0 0,.bool false] 185)).alloc (.cells #[.pointer (some ⟨w.heap.size+2,0,none⟩)] 119):=by
 go_enter Tryz.func25,Tryz.ntmps25;go_wp2_with (go_at_call 59;refine (newPool_any _).mono ?_;rintro e w' ⟨rfl,rfl⟩);go_ret;exact⟨rfl,rfl⟩
theorem step_append_own_at {P:Program}{ops:Array Oper}{o:Oper}{a:Act}{w:World}{K:Act->World->Prop}{Q:Exit->Act->World->Prop}{E:Prop}
  (hg:o.guard=none)(s x:Operand)(t:TypeId)(hop:o.op=Op.call { callee:=Callee.builtin Builtin.append,args:=#[s,x],argTypes:=#[t,t] })
  (base:Nat)(e:TypeId)(i:TypeInfo)(z:Value)(size bytes:Nat)(h1:P.underlying t=some (.slice e))(h2:P.info? e=some i)(h3:i.zero=some z)(h4:i.size=size)(h5:i.bytes=bytes)(h6:z.cells.size=size)(h7:0<size)
  (v:Value)(n:Nat)(olds:List Value)(hs:a.eval s=v)(hown:w.ownsRow base e size v n olds)
  (ad:Addr)(m c:Nat)(news:List Value)(hx:a.eval x=.slice (some ad) m c)(hn:news.length=m*size)(hc:∀j u,news[j]? = some u->w.cell? (ad.add j)=some u)(h1c:∀u ∈ news,u.oneCell'=true)
  (b1:n+m<=maxLen)(b2:(n+m)*bytes<=140737488355328)(hbase:base<=w.heap.size)
  (hK:∀v' w',w'.ownsRow base e size v' (n+m) (olds++news)->w.grownBy w' v.ownBlock->(v'.ownBlock=v.ownBlock\/v'.ownBlock=some w.heap.size)->K (a.put o.dst v') w'):
  if Region.wanted o (yielded ops a.tmps)=true then Oper.wp P o a w K Q else E:=by
 have hw:Region.wanted o (yielded ops a.tmps)=true:=by simp[Region.wanted,hg]
 rw[if_pos hw];obtain⟨v',w',hrun,r1,r2,_,r3⟩:=run_append_own_at (P:=P) w base t o.type e i z size bytes h1 h2 h3 h4 h5 h6 h7 v n olds hown ad m c news hn hc h1c b1 b2 hbase;unfold Oper.wp;simp[execOp,hop,resolve,invoke,builtin,hs,hx,hrun,Result.andThen];exact hK v' w' r1 r2 r3
theorem info51:(Tryz.prog.info? 213).map (fun i=>(i.zero,i.size,i.bytes))=some (some (.agg #[.int .i64 0,.string ByteArray.empty,.slice none 0 0,.int .i64 0]),4,56):=by kernel_rfl
theorem cells4 (w:World)(c0 c1 c2 c3:Value)(t:TypeId):∀j u,[c0,c1,c2,c3][j]? = some u->(w.alloc (.cells #[c0,c1,c2,c3] t)).drew.cell? ((⟨w.heap.size,0,none⟩:Addr).add j)=some u:=by
 intro j u h
 match j,h with
 | 0,h=>simpa [Addr.add] using h
 | 1,h=>simpa [Addr.add] using h
 | 2,h=>simpa [Addr.add] using h
 | 3,h=>simpa [Addr.add] using h
 | j+4,h=>simp at h
theorem slice_of_owns {w:World}{base:Nat}{e:TypeId}{size:Nat}{v:Value}{n:Nat}{xs:List Value}(h:w.ownsRow base e size v n xs)(hn:0<n):∃g cap,v=.slice (some ⟨g,0,none⟩) n cap:=by
 rcases h.2 with ⟨_,h0⟩ | ⟨g,cap,_,hv,_⟩
 ·omega
 ·exact⟨g,cap,hv⟩
theorem grown_cell {w w1:World}{o1 o2:Obj}{r:Option Nat}(hg:((w.alloc o1).alloc o2).drew.grownBy w1 r){p:Nat}(hp:p<w.heap.size)(hr:some p≠r){v:Value}{i:Nat}(h:w.cell? ⟨p,i,none⟩=some v):w1.cell? ⟨p,i,none⟩=some v:=by
 rw[World.cell?_of_block (a:=⟨p,i,none⟩) (hg.block p (by simp;omega) hr)];show ((w.alloc o1).alloc o2).cell? ⟨p,i,none⟩=_;rw[World.cell?_alloc_past _ _ _ (by simp;omega),World.cell?_alloc_past _ _ _ hp,h]
theorem grown_frozen {w w1:World}{o1 o2:Obj}{r:Option Nat}(hg:((w.alloc o1).alloc o2).drew.grownBy w1 r){p:Nat}(hp:p<w.heap.size)(hr:some p≠r){i:Nat}(h:w.frozen? ⟨p,i,none⟩=false):w1.frozen? ⟨p,i,none⟩=false:=by
 rw[World.frozen?_of_block (a:=⟨p,i,none⟩) (hg.block p (by simp;omega) hr)];show ((w.alloc o1).alloc o2).frozen? ⟨p,i,none⟩=_;rw[World.frozen?_alloc_past _ _ _ (by simp;omega),World.frozen?_alloc_past _ _ _ hp,h]
def Added (w w':World)(p:Nat)(a:Option Addr)(n cap:Nat)(xs news:List Value):Prop:=
 ∃g cap' w1,w1.ownsRow 0 213 4 (.slice (some ⟨g,0,none⟩) (n+1) cap') (n+1) (xs++news)/\(∃o1 o2,((w.alloc o1).alloc o2).drew.grownBy w1 (Value.slice a n cap).ownBlock/\((some g:Option Nat)=(Value.slice a n cap).ownBlock\/g=w.heap.size+2))/\
  w'=w1.setCell ⟨p,0,none⟩ (.slice (some ⟨g,0,none⟩) (n+1) cap')
set_option maxRecDepth 100000 in
set_option maxHeartbeats 800000 in
theorem add_some (p:Nat)(k h:Int)(d:ByteArray)(a:Option Addr)(n cap:Nat)(xs:List Value)(ea:Option Addr)(el ec:Nat)(w:World)(hp:p<w.heap.size)(hn:n<400)
  (k0:w.cell? ⟨p,0,none⟩=some (.slice a n cap))(f0:w.frozen? ⟨p,0,none⟩=false)(hown:w.ownsRow 0 213 4 (.slice a n cap) n xs)(hpa:some p≠(Value.slice a n cap).ownBlock):
  Calls Tryz.prog 112 #[.pointer (some ⟨p,0,none⟩),.agg #[.int .i64 k,.string d,.slice ea el ec,.int .i64 h]] w fun e w'=>e=.returned (.tuple #[.int .i64 ((n:Int)+1),.int .i64 0])/\Added w w' p a n cap xs [.int .i64 k,.string d,.slice ea el ec,.int .i64 h]:=by
 obtain⟨i0,hi,hz0,hz1,hz2⟩:=info_parts info51;have h1c:∀u ∈ [Value.int .i64 k,.string d,.slice ea el ec,.int .i64 h],u.oneCell'=true:=by intro u hu;simp at hu;rcases hu with rfl | rfl | rfl | rfl <;> rfl
 have HO:Hid (w.ownsRow 0 213 4 (.slice a n cap) n xs):=hown;have HP:Hid (some p≠(Value.slice a n cap).ownBlock):=hpa;have H1:Hid (∀u ∈ [Value.int .i64 k,.string d,.slice ea el ec,.int .i64 h],u.oneCell'=true):=h1c;clear hown hpa h1c;go_enter Tryz.func112,Tryz.ntmps112;go_wp2
 go_region_law (refine step_append_own_at rfl (.tmp 16) (.tmp 18) 181 rfl 0 213 i0 _ 4 56 Tryz.underlying181 hi hz0 hz1 hz2 rfl (by decide) (.slice a n cap) n xs (by simp[Act.eval]) ((HO.out.alloc _).alloc _) ⟨w.heap.size+1,0,none⟩ 1 1 [.int .i64 k,.string d,.slice ea el ec,.int .i64 h] (by simp[Act.eval]) rfl (by have q:=cells4 (w.alloc (.cells #[.int .i64 k,.string d,.slice ea el ec,.int .i64 h] 213)) (.int .i64 k) (.string d) (.slice ea el ec) (.int .i64 h) 213;rw[World.size_alloc] at q;exact q) H1.out (by unfold maxLen;omega) (by omega) (Nat.zero_le _) ?_;intro v' w1 hown' hgrow hloc;obtain⟨g,cap',rfl⟩:=slice_of_owns hown' (by omega);have k1':=grown_cell hgrow hp HP.out k0;have k2':=grown_frozen hgrow hp HP.out f0)
 all_goals (go_wp2;go_ret2;exact⟨rfl,g,cap',w1,hown',⟨_,_,hgrow,by simpa [Value.ownBlock] using hloc⟩,rfl⟩)
theorem Added.facts {w w':World}{p:Nat}{a:Option Addr}{n cap:Nat}{xs news:List Value}(hA:Added w w' p a n cap xs news){c1 c2 c3 c4:Value}(hp:w.heap[p]? = some (.cells #[.slice a n cap,c1,c2,c3,c4] 185 (0,0)))(hpa:some p≠(Value.slice a n cap).ownBlock):
  ∃g cap',w'.heap[p]? = some (.cells #[.slice (some ⟨g,0,none⟩) (n+1) cap',c1,c2,c3,c4] 185 (0,0))/\w'.ownsRow 0 213 4 (.slice (some ⟨g,0,none⟩) (n+1) cap') (n+1) (xs++news)/\((some g:Option Nat)=(Value.slice a n cap).ownBlock\/w.heap.size<=g)/\
   w'.os=w.os/\w'.tape=w.tape/\w'.output=w.output/\w.heap.size<=w'.heap.size/\∀k,k<w.heap.size->k≠p->some k≠(Value.slice a n cap).ownBlock->w'.heap[k]? = w.heap[k]?:=by
 obtain⟨g,cap',w1,hown,⟨o1,o2,hg,hloc⟩,rfl⟩:=hA;have hlt:p<w.heap.size:=(Array.getElem?_eq_some_iff.1 hp).1;have hkeep:∀k,k<w.heap.size->some k≠(Value.slice a n cap).ownBlock->w1.heap[k]? = w.heap[k]?:=by
  intro k hk hne;rw[hg.block k (by simp;omega) hne];show ((w.alloc o1).alloc o2).heap[k]? = _;rw[Below.heap_alloc _ _ _ (by simp;omega),Below.heap_alloc _ _ _ hk]
 have hw1:w1.heap[p]? = some (.cells #[.slice a n cap,c1,c2,c3,c4] 185 (0,0)):=by rw[hkeep p hlt hpa,hp]
 have hgp:g≠p:=by
  rintro rfl;rcases hloc with h | h
  ·exact hpa h
  ·omega
 have hs:=hg.size;simp at hs;refine⟨g,cap',?_,?_,?_,?_,?_,?_,?_,?_⟩
 ·simp[World.setCell,Array.getElem?_modify,hw1]
 ·obtain⟨h1,h2⟩:=hown
  refine⟨h1,?_⟩;rcases h2 with ⟨h,_⟩ | ⟨g0,cap0,cur,hv,hb,hh,r⟩
  ·cases h
  ·cases hv
   exact Or.inr ⟨g,cap',cur,rfl,hb,by rw[Below.heap_setCell _ _ _ _ hgp];exact hh,r⟩
 ·rcases hloc with h | h
  ·exact Or.inl h
  ·exact Or.inr (by omega)
 ·exact hg.os
 ·exact hg.tape
 ·exact hg.output
 ·simp;omega
 ·intro k hk hkp hne
  rw[Below.heap_setCell _ _ _ _ hkp,hkeep k hk hne]
set_option maxRecDepth 100000 in
set_option maxHeartbeats 400000 in
theorem add_full (p:Nat)(k h:Int)(d:ByteArray)(a:Option Addr)(n cap:Nat)(ea:Option Addr)(el ec:Nat)(w:World)(hp:p<w.heap.size)(hn:400<=n)
  (k0:w.cell? ⟨p,0,none⟩=some (.slice a n cap)):
  Calls Tryz.prog 112 #[.pointer (some ⟨p,0,none⟩),.agg #[.int .i64 k,.string d,.slice ea el ec,.int .i64 h]] w fun e w'=>e=.returned (.tuple #[.int .i64 0,.int .i64 11])/\w'=w.alloc (.cells #[.int .i64 k,.string d,.slice ea el ec,.int .i64 h] 213):=by
 go_enter Tryz.func112,Tryz.ntmps112;go_wp2;go_ret2;exact⟨rfl,rfl⟩
set_option maxRecDepth 100000 in
set_option maxHeartbeats 400000 in
theorem clone_any (s:ByteArray)(w:World)(hlim:s.size<=281474976710656):
  Calls Tryz.prog 130 #[.string s] w fun e w'=>e=.returned (.string s)/\Below w.heap.size w w':=by
 have hcon:=Tryz.stringslite_Clone s w hlim;go_enter Tryz.func130,Tryz.ntmps130;go_wp2_with (go_at_call 186;refine hcon.mono ?_;rintro e w' ⟨rfl,hb⟩);go_ret;exact⟨rfl,hb⟩
end Go.Proofs.YtlgidcmmgohagaaGreat
namespace Go.Proofs.YtlgidcmmgohagaaGreat
open Go.RowKit
set_option linter.unusedVariables false
structure PTail where
 a:Option Addr
 n:Nat
 c:Nat
 b:Bool
def pt0:PTail:=⟨none,0,0,false⟩
variable {ft:PTail}
theorem law9:Maps.Keyed Tryz.prog 9:=Maps.string_keyed Tryz.underlying9
theorem zero25 (w:World):(zeroValue 29).run Tryz.prog w=.ok (.int .i64 0) w:=by kernel_rfl
def PoolAt (ft:PTail)(w:World)(p:Nat)(a:Option Addr)(n cap bf bd:Nat):Prop:=w.heap[p]? = some (.cells #[.slice a n cap,.map (some bf),.map (some bd),.slice ft.a ft.n ft.c,.bool ft.b] 185 (0,0))
theorem PoolAt.c0 {w:World}{p:Nat}{a:Option Addr}{n cap bf bd:Nat}(h:PoolAt ft w p a n cap bf bd):w.cell? ⟨p,0,none⟩=some (.slice a n cap):=by unfold PoolAt at h;simp[World.cell?,h]
theorem PoolAt.c1 {w:World}{p:Nat}{a:Option Addr}{n cap bf bd:Nat}(h:PoolAt ft w p a n cap bf bd):w.cell? ⟨p,1,none⟩=some (.map (some bf)):=by unfold PoolAt at h;simp[World.cell?,h]
theorem PoolAt.c2 {w:World}{p:Nat}{a:Option Addr}{n cap bf bd:Nat}(h:PoolAt ft w p a n cap bf bd):w.cell? ⟨p,2,none⟩=some (.map (some bd)):=by unfold PoolAt at h;simp[World.cell?,h]
theorem PoolAt.f0 {w:World}{p:Nat}{a:Option Addr}{n cap bf bd:Nat}(h:PoolAt ft w p a n cap bf bd):w.frozen? ⟨p,0,none⟩=false:=by unfold PoolAt at h;simp[World.frozen?,h]
theorem PoolAt.lt {w:World}{p:Nat}{a:Option Addr}{n cap bf bd:Nat}(h:PoolAt ft w p a n cap bf bd):p<w.heap.size:=(Array.getElem?_eq_some_iff.1 h).1
theorem PoolAt.below {w w':World}{p:Nat}{a:Option Addr}{n cap bf bd:Nat}(h:PoolAt ft w p a n cap bf bd)(hb:Below w.heap.size w w'):PoolAt ft w' p a n cap bf bd:=by
 unfold PoolAt at h ⊢;rw[hb.block p (Array.getElem?_eq_some_iff.1 h).1,h]
set_option maxRecDepth 100000 in
set_option maxHeartbeats 400000 in
theorem putFile_big (p:Nat)(d:ByteArray)(w:World)(hd:256<d.size)(hm:d.size<=maxLen):
  Calls Tryz.prog 77 #[.pointer (some ⟨p,0,none⟩),.string d] w fun e w'=>e=.returned (.tuple #[.int .i64 0,.int .i64 11])/\w'=w:=by
 unfold maxLen at hm;go_enter Tryz.func77,Tryz.ntmps77;go_wp2;go_ret2;exact⟨rfl,rfl⟩
set_option maxRecDepth 100000 in
set_option maxHeartbeats 400000 in
theorem putFile_hit (p:Nat)(a:Option Addr)(n cap bf bd:Nat)(Df:DataW Unit)(d:ByteArray)(c:Int)(w:World)(hp:PoolAt ft w p a n cap bf bd)(hd:d.size<=256)
  (hf:w.ownsMap Tryz.prog 9 (plainElem Tryz.prog 29) bf n Df)(hh:Maps.has Df (.string d.data.toList)=true)(hc:Df.atKey (.string d.data.toList) (.lit (.int .i64 0))=.lit (.int .i64 c)):
  Calls Tryz.prog 77 #[.pointer (some ⟨p,0,none⟩),.string d] w fun e w'=>e=.returned (.tuple #[.int .i64 c,.int .i64 0])/\w'=w:=by
 have k1:=hp.c1;have hkey:=WideMaps.keyOf_string_mk (P:=Tryz.prog) Tryz.underlying9 (s:=d) (by unfold maxLen;omega);have HC:Hid (Df.atKey (.string d.data.toList) (.lit (.int .i64 0))=.lit (.int .i64 c)):=hc;have HH:Hid (Maps.has Df (.string d.data.toList)=true):=hh;clear hc hh;go_enter Tryz.func77,Tryz.ntmps77;go_wp2_with (first
  | (at_lookup;refine wpList_lookup_own_ok_int _ rfl _ _ 182 rfl 9 29 .i64 law9 Tryz.underlying182 Tryz.underlying29 (zero25 _) bf n Df rfl hf _ _ rfl hkey ?_;intro c' hat hwc;rw[HH.out];obtain rfl:c'=c:=by (have:=hat.symm.trans HC.out;simpa using this))
  | go_in)
 go_ret2;exact⟨rfl,rfl⟩
set_option maxRecDepth 1000000 in
set_option maxHeartbeats 400000 in
theorem putFile_full (p:Nat)(a:Option Addr)(n cap bf bd:Nat)(Df:DataW Unit)(d:ByteArray)(w:World)(hp:PoolAt ft w p a n cap bf bd)(hd:d.size<=256)(hn:400<=n)
  (hf:w.ownsMap Tryz.prog 9 (plainElem Tryz.prog 29) bf n Df)(hh:Maps.has Df (.string d.data.toList)=false):
  Calls Tryz.prog 77 #[.pointer (some ⟨p,0,none⟩),.string d] w fun e w'=>e=.returned (.tuple #[.int .i64 0,.int .i64 11])/\Below w.heap.size w w':=by
 have k1:=hp.c1;have hkey:=WideMaps.keyOf_string_mk (P:=Tryz.prog) Tryz.underlying9 (s:=d) (by unfold maxLen;omega);have HH:Hid (Maps.has Df (.string d.data.toList)=false):=hh;have hcl:=clone_any d w (by omega);have hadd:=fun (W:World) (hW:PoolAt ft W p a n cap bf bd)=>add_full p 1 0 d a n cap none 0 0 W hW.lt hn hW.c0;clear hh;go_enter Tryz.func77,Tryz.ntmps77;go_wp2_with (first
  | (at_lookup;refine wpList_lookup_own_ok_int _ rfl _ _ 182 rfl 9 29 .i64 law9 Tryz.underlying182 Tryz.underlying29 (zero25 _) bf n Df rfl hf _ _ rfl hkey ?_;intro c' hat hwc;rw[HH.out])
  | (go_at_call 130;refine hcl.mono ?_;rintro e w1 ⟨rfl,hb⟩;have hp1:=hp.below hb)
  | (go_at_call 112;refine (hadd _ hp1).mono ?_;rintro e w2 ⟨rfl,rfl⟩)
  | go_in)
 go_ret2;exact⟨rfl,hb.alloc hb.size _⟩
theorem ownsMap_keep {H:Type}{P:Program}{k:TypeId}{R:Value->Option (DataW H×List MemPlace)}{w w':World}{b n:Nat}{D:DataW H}(h:w.ownsMap P k R b n D)(e:w'.heap[b]? = w.heap[b]?):w'.ownsMap P k R b n D:=by
 obtain⟨es,clock,hb,r⟩:=h;exact⟨es,clock,e.trans hb,r⟩
theorem ownsMap_isMap {H:Type}{P:Program}{k:TypeId}{R:Value->Option (DataW H×List MemPlace)}{w:World}{b n:Nat}{D:DataW H}(h:w.ownsMap P k R b n D):∃es clock,w.heap[b]? = some (.map es clock):=by
 obtain⟨es,clock,hb,r⟩:=h;exact⟨es,clock,hb⟩
theorem owns_ne_map {w:World}{base:Nat}{e:TypeId}{size n:Nat}{v:Value}{xs:List Value}(h:w.ownsRow base e size v n xs){b:Nat}{es:Array MapEntry}{clock:Nat}(hb:w.heap[b]? = some (.map es clock)):some b≠v.ownBlock:=by
 rcases h.2 with ⟨rfl,_⟩ | ⟨g,cap,cur,rfl,_,hg,_⟩
 ·simp[Value.ownBlock]
 ·simp only[Value.ownBlock,ne_eq,Option.some.injEq]
  rintro rfl;rw[hb] at hg;cases hg
theorem owns_ne_cells {w:World}{base:Nat}{e:TypeId}{size n:Nat}{v:Value}{xs:List Value}(h:w.ownsRow base e size v n xs){b:Nat}{c:Array Value}{t:TypeId}{fz:Nat×Nat}(hb:w.heap[b]? = some (.cells c t fz))(ht:t≠e):some b≠v.ownBlock:=by
 rcases h.2 with ⟨rfl,_⟩ | ⟨g,cap,cur,rfl,_,hg,_⟩
 ·simp[Value.ownBlock]
 ·simp only[Value.ownBlock,ne_eq,Option.some.injEq]
  rintro rfl;rw[hb] at hg;cases hg;exact ht rfl
structure Turned (w w':World)(p b:Nat)(own:Option Nat):Prop where
 os:w'.os=w.os
 tape:w'.tape=w.tape
 output:w'.output=w.output
 size:w.heap.size<=w'.heap.size
 block:∀k,k<w.heap.size->k≠p->k≠b->some k≠own->w'.heap[k]? = w.heap[k]?
theorem ownsRow_keep {w w':World}{base:Nat}{e:TypeId}{size n:Nat}{v:Value}{xs:List Value}(h:w.ownsRow base e size v n xs)(hk:∀g,v.ownBlock=some g->w'.heap[g]? = w.heap[g]?):w'.ownsRow base e size v n xs:=by
 refine⟨h.1,?_⟩;rcases h.2 with h0 | ⟨g,cap,cur,rfl,hb,hg,r⟩
 ·exact Or.inl h0
 ·exact Or.inr ⟨g,cap,cur,rfl,hb,(hk g rfl).trans hg,r⟩
theorem ownsRow_lt {w:World}{base:Nat}{e:TypeId}{size n:Nat}{v:Value}{xs:List Value}(h:w.ownsRow base e size v n xs){g:Nat}(hg:v.ownBlock=some g):g<w.heap.size:=by
 rcases h.2 with ⟨rfl,_⟩ | ⟨g',cap,cur,rfl,_,hh,_⟩
 ·simp[Value.ownBlock] at hg
 ·simp[Value.ownBlock] at hg;subst hg;exact (Array.getElem?_eq_some_iff.1 hh).1
theorem added_c1 {w w':World}{p:Nat}{a:Option Addr}{n cap:Nat}{xs news:List Value}(hA:Added w w' p a n cap xs news){bf bd:Nat}(hp:PoolAt ft w p a n cap bf bd)(hpa:some p≠(Value.slice a n cap).ownBlock):w'.cell? ⟨p,1,none⟩=some (.map (some bf)):=by
 obtain⟨g,cap',hp2,_⟩:=hA.facts hp hpa;exact PoolAt.c1 hp2
theorem added_map {w w':World}{p:Nat}{a:Option Addr}{n cap:Nat}{xs news:List Value}(hA:Added w w' p a n cap xs news){bf bd:Nat}(hp:PoolAt ft w p a n cap bf bd)(hpa:some p≠(Value.slice a n cap).ownBlock)
  {H:Type}{P:Program}{k:TypeId}{R:Value->Option (DataW H×List MemPlace)}{b m:Nat}{D:DataW H}(h:w.ownsMap P k R b m D)(hbp:b≠p)(hne:some b≠(Value.slice a n cap).ownBlock):w'.ownsMap P k R b m D:=by
 obtain⟨g,cap',hp2,hr2,hloc,hos,htape,hout,hsz,hkeep⟩:=hA.facts hp hpa;exact ownsMap_keep h (hkeep b h.lt hbp hne)
set_option maxRecDepth 100000 in
set_option maxHeartbeats 800000 in
theorem putFile_new (p:Nat)(a:Option Addr)(n cap bf bd:Nat)(xs:List Value)(Df:DataW Unit)(d:ByteArray)(w:World)(hp:PoolAt ft w p a n cap bf bd)(hd:d.size<=256)(hn:n<400)
  (hrow:w.ownsRow 0 213 4 (.slice a n cap) n xs)(hf:w.ownsMap Tryz.prog 9 (plainElem Tryz.prog 29) bf n Df)(hh:Maps.has Df (.string d.data.toList)=false):
  Calls Tryz.prog 77 #[.pointer (some ⟨p,0,none⟩),.string d] w fun e w'=>e=.returned (.tuple #[.int .i64 ((n:Int)+1),.int .i64 0])/\
   ∃g cap',PoolAt ft w' p (some ⟨g,0,none⟩) (n+1) cap' bf bd/\w'.ownsRow 0 213 4 (.slice (some ⟨g,0,none⟩) (n+1) cap') (n+1) (xs ++ [.int .i64 1,.string d,.slice none 0 0,.int .i64 0])/\((some g:Option Nat)=(Value.slice a n cap).ownBlock\/w.heap.size<=g)/\
    w'.ownsMap Tryz.prog 9 (plainElem Tryz.prog 29) bf (n+1) (Df.put (.string d.data.toList) (.lit (.int .i64 ((n:Int)+1))))/\Turned w w' p bf (Value.slice a n cap).ownBlock:=by
 have k1:=hp.c1;have hkey:=WideMaps.keyOf_string_mk (P:=Tryz.prog) Tryz.underlying9 (s:=d) (by unfold maxLen;omega);have HH:Hid (Maps.has Df (.string d.data.toList)=false):=hh;have hcl:=clone_any d w (by omega);obtain⟨es,clock,hbf⟩:=ownsMap_isMap hf;have nf:=owns_ne_map hrow hbf;have np:=owns_ne_cells hrow (b:=p) hp (by decide);have hfp:bf≠p:=by rintro rfl;unfold PoolAt at hp;rw[hbf] at hp;cases hp
 have hfl:bf<w.heap.size:=(Array.getElem?_eq_some_iff.1 hbf).1;have hrl:∀g,(Value.slice a n cap).ownBlock=some g->g<w.heap.size:=fun g hg=>ownsRow_lt hrow hg;have hadd:=fun (W:World) (hW:PoolAt ft W p a n cap bf bd) (hr:W.ownsRow 0 213 4 (.slice a n cap) n xs)=>add_some p 1 0 d a n cap xs none 0 0 W hW.lt hn hW.c0 hW.f0 hr np;have NF:Hid (some bf≠(Value.slice a n cap).ownBlock):=nf;have NP:Hid (some p≠(Value.slice a n cap).ownBlock):=np;have HRL:Hid (∀g,(Value.slice a n cap).ownBlock=some g->g<w.heap.size):=hrl;have HFP:Hid (bf≠p):=hfp;have HR:Hid (w.ownsRow 0 213 4 (.slice a n cap) n xs):=hrow;have HADD:Hid (∀(W:World) (hW:PoolAt ft W p a n cap bf bd) (hr:W.ownsRow 0 213 4 (.slice a n cap) n xs),Calls Tryz.prog 112 #[.pointer (some ⟨p,0,none⟩),.agg #[.int .i64 1,.string d,.slice none 0 0,.int .i64 0]] W fun e w'=>e=.returned (.tuple #[.int .i64 ((n:Int)+1),.int .i64 0])/\Added W w' p a n cap xs [.int .i64 1,.string d,.slice none 0 0,.int .i64 0]):=hadd;clear hh nf np hbf hrl hfp hrow hadd;go_enter Tryz.func77,Tryz.ntmps77;go_wp2_with (first
  | (at_lookup;refine wpList_lookup_own_ok_int _ rfl _ _ 182 rfl 9 29 .i64 law9 Tryz.underlying182 Tryz.underlying29 (zero25 _) bf n Df rfl hf _ _ rfl hkey ?_;intro c' hat hwc;rw[HH.out])
  | (go_at_call 130;refine hcl.mono ?_;rintro e w1 ⟨rfl,hb⟩;have hp1:=hp.below hb;have hr1:=ownsRow_keep HR.out (fun g hg=>hb.block g (HRL.out g hg)))
  | (go_at_call 112;refine (HADD.out _ hp1 hr1).mono ?_;rintro e w2 ⟨rfl,hA⟩;have k2:=added_c1 hA hp1 NP.out;have hf2:=added_map hA hp1 NP.out (ownsMap_keep hf (hb.block bf hfl)) HFP.out NF.out)
  | (at_mapUpdate;refine wpList_mapUpdate_own _ rfl _ _ _ 182 rfl 9 29 law9 Tryz.underlying182 _ bf n _ rfl hf2 (by unfold maxLen;omega) _ _ _ rfl rfl hkey _ [] (plainElem_int Tryz.underlying29 (WalkArith.wf_i64 (by omega))) ?_;intro w3 hown3 hg3)
  | go_in)
 go_ret2;obtain⟨g,cap',hp2,hr2,hloc,hos,htape,hout,hsz,hkeep⟩:=hA.facts hp1 NP.out;have hfp:=HFP.out;have hsb:=hb.size;have hpg:(some p:Option Nat)≠some bf:=fun e=>hfp (Option.some.inj e).symm
 refine⟨rfl,g,cap',?_,?_,?_,hown3,⟨?_,?_,?_,?_,?_⟩⟩
 ·unfold PoolAt;rw[hg3.block p (Nat.lt_of_lt_of_le (PoolAt.lt hp) (Nat.le_trans hsb hsz)) hpg];exact hp2
 ·refine ownsRow_keep hr2 (fun g' hg'=>hg3.block g' (ownsRow_lt hr2 hg') ?_)
  obtain⟨es2,clock2,hb2⟩:=ownsMap_isMap hf2
  have:=owns_ne_map hr2 hb2
  rw[hg'] at this;exact fun e=>this e.symm
 ·rcases hloc with h | h
  ·exact Or.inl h
  ·exact Or.inr (by omega)
 ·rw[hg3.os,hos,hb.os]
 ·rw[hg3.tape,htape,hb.tape]
 ·rw[hg3.output,hout,hb.output]
 ·have:=hg3.size;omega
 ·intro k hk hkp hkb hne
  rw[hg3.block k (by omega) (fun e=>hkb (Option.some.inj e)),hkeep k (by omega) hkp hne,hb.block k hk]
end Go.Proofs.YtlgidcmmgohagaaGreat
namespace Go.Proofs.YtlgidcmmgohagaaGreat
open Go.RowKit
set_option linter.unusedVariables false
set_option maxRecDepth 100000 in
set_option maxHeartbeats 400000 in
theorem valid_short (s:ByteArray)(w:World)(hm:s.size<=maxLen)(h:s.size<1\/12<s.size):
  Calls Tryz.prog 129 #[.string s] w fun e w'=>e=.returned (.bool false)/\w'=w:=by
 unfold maxLen at hm;rcases h with h | h
 ·go_enter Tryz.func129,Tryz.ntmps129
  go_wp2;go_ret;exact⟨rfl,rfl⟩
 ·have h':¬s.size<1:=by omega
  go_enter Tryz.func129,Tryz.ntmps129;go_wp2;go_ret;exact⟨rfl,rfl⟩
set_option maxRecDepth 100000 in
set_option maxHeartbeats 400000 in
theorem valid_dots (s:ByteArray)(w:World)(h1:1<=s.size)(h2:s.size<=12)(h:(s.toList == [46])=true\/(s.toList == [46])=false/\(s.toList == [46,46])=true):
  Calls Tryz.prog 129 #[.string s] w fun e w'=>e=.returned (.bool false)/\w'=w:=by
 rcases h with h | ⟨h3,h⟩
 ·go_enter Tryz.func129,Tryz.ntmps129
  go_wp2;go_ret;exact⟨rfl,rfl⟩
 ·go_enter Tryz.func129,Tryz.ntmps129
  go_wp2;go_ret;exact⟨rfl,rfl⟩
set_option maxRecDepth 100000 in
set_option maxHeartbeats 400000 in
theorem valid_long (s:ByteArray)(w:World)(h1:1<=s.size)(h2:s.size<=12)(h3:(s.toList == [46])=false)(h4:(s.toList == [46,46])=false)(a b:Int)(ha:Lib.indexByte s.data.toList 0=a)(hb:Lib.indexByte s.data.toList 47=b):
  Calls Tryz.prog 129 #[.string s] w fun e w'=>e=.returned (.bool (decide (a<0) && decide (b<0)))/\w'=w:=by
 have hA:∀W,Calls Tryz.prog 185 #[.string s,.int .u8 0] W fun e w'=>e=.returned (.int .i64 a)/\w'=W:=by
  intro W;have h:=Tryz.strings_IndexByte s 0 W;rw[<-ha];exact h
 have hB:∀W,Calls Tryz.prog 185 #[.string s,.int .u8 47] W fun e w'=>e=.returned (.int .i64 b)/\w'=W:=by
  intro W;have h:=Tryz.strings_IndexByte s 47 W;rw[<-hb];exact h
 clear ha hb;by_cases ha0:a<0
 ·by_cases hb0:b<0
  ·go_enter Tryz.func129,Tryz.ntmps129
   go_wp2_with fail;refine (hA _).mono ?_;rintro e w' ⟨rfl,rfl⟩;go_wp2_with fail;refine (hB _).mono ?_;rintro e w' ⟨rfl,rfl⟩;go_wp2;go_ret;exact⟨by simp[ha0,hb0],rfl⟩
  ·have hb1:decide (b<0)=false:=by simpa using hb0
   go_enter Tryz.func129,Tryz.ntmps129;go_wp2_with fail;refine (hA _).mono ?_;rintro e w' ⟨rfl,rfl⟩;go_wp2_with fail;refine (hB _).mono ?_;rintro e w' ⟨rfl,rfl⟩;go_wp2;go_ret;exact⟨by simp[ha0,hb0],rfl⟩
 ·have ha1:decide (a<0)=false:=by simpa using ha0
  go_enter Tryz.func129,Tryz.ntmps129;go_wp2_with fail;refine (hA _).mono ?_;rintro e w' ⟨rfl,rfl⟩;go_wp2;go_ret;exact⟨by simp[ha1],rfl⟩
def validB (s:ByteArray):Bool:=
 decide (1<=s.size) && decide (s.size<=12) && !(s.toList == [46]) && !(s.toList == [46,46]) && decide (Lib.indexByte s.data.toList 0<0) && decide (Lib.indexByte s.data.toList 47<0)
theorem valid_any (s:ByteArray)(w:World)(hm:s.size<=maxLen):Calls Tryz.prog 129 #[.string s] w fun e w'=>e=.returned (.bool (validB s))/\w'=w:=by
 by_cases h:s.size<1\/12<s.size
 ·have hv:validB s=false:=by
   unfold validB;rcases h with h | h
   ·have:¬1<=s.size:=by omega
    simp[this]
   ·have:¬s.size<=12:=by omega
    simp[this]
  rw[hv];exact valid_short s w hm h
 ·have h1:1<=s.size:=by omega
  have h2:s.size<=12:=by omega
  cases h3:s.toList == [46] with
  | true=>
   rw[show validB s=false by unfold validB;simp[h3]];exact valid_dots s w h1 h2 (.inl h3)
  | false=>
   cases h4:s.toList == [46,46] with
   | true=>
    rw[show validB s=false by unfold validB;simp[h4]];exact valid_dots s w h1 h2 (.inr ⟨h3,h4⟩)
   | false=>
    rw[show validB s=(decide (Lib.indexByte s.data.toList 0<0) && decide (Lib.indexByte s.data.toList 47<0)) by unfold validB;simp[h1,h2,h3,h4]];exact valid_long s w h1 h2 h3 h4 _ _ rfl rfl
end Go.Proofs.YtlgidcmmgohagaaGreat
namespace Go.Proofs.YtlgidcmmgohagaaGreat
open Go.RowKit Go.Sort Go.Shelf
set_option linter.unusedVariables false
set_option maxRecDepth 100000
set_option maxHeartbeats 16000000
theorem u8_tri (a b:UInt8):a<b\/a=b\/b<a:=by
 rcases Nat.lt_trichotomy a.toNat b.toNat with h | h | h
 ·exact Or.inl (UInt8.lt_iff_toNat_lt.2 h)
 ·exact Or.inr (Or.inl (UInt8.toNat_inj.1 h))
 ·exact Or.inr (Or.inr (UInt8.lt_iff_toNat_lt.2 h))
theorem u8_irrefl (a:UInt8):¬a<a:=fun h=>Nat.lt_irrefl _ (UInt8.lt_iff_toNat_lt.1 h)
theorem u8_trans {a b c:UInt8}(h:a<b)(k:b<c):a<c:=UInt8.lt_iff_toNat_lt.2 (Nat.lt_trans (UInt8.lt_iff_toNat_lt.1 h) (UInt8.lt_iff_toNat_lt.1 k))
theorem u8_asymm {a b:UInt8}(h:a<b):¬b<a:=fun k=>u8_irrefl _ (u8_trans h k)
theorem cmp_self:∀a:List UInt8,Lib.compareBytes a a=0
 | []=>rfl
 | x :: r=>by simp[Lib.compareBytes,cmp_self r]
theorem cmp_eq_zero:∀a b:List UInt8,Lib.compareBytes a b=0->a=b
 | [],[],_=>rfl
 | [],_ :: _,h=>by simp[Lib.compareBytes] at h
 | _ :: _,[],h=>by simp[Lib.compareBytes] at h
 | x :: r,y :: s,h=>by
  rcases u8_tri x y with k | k | k
  ·simp[Lib.compareBytes,k] at h
  ·subst k;simp[Lib.compareBytes] at h;rw[cmp_eq_zero r s h]
  ·simp[Lib.compareBytes,k,u8_asymm k] at h
theorem cmp_swap:∀a b:List UInt8,Lib.compareBytes b a = - Lib.compareBytes a b
 | [],[]=>rfl
 | [],_ :: _=>rfl
 | _ :: _,[]=>rfl
 | x :: r,y :: s=>by
  rcases u8_tri x y with k | k | k
  ·simp[Lib.compareBytes,k,u8_asymm k]
  ·subst k;simp[Lib.compareBytes];exact cmp_swap r s
  ·simp[Lib.compareBytes,k,u8_asymm k]
theorem cmp_trans:∀a b c:List UInt8,Lib.compareBytes a b<0->Lib.compareBytes b c<0->Lib.compareBytes a c<0
 | [],[],_,h,_=>by simp[Lib.compareBytes] at h
 | [],_ :: _,[],_,k=>by simp[Lib.compareBytes] at k
 | [],_ :: _,_ :: _,_,_=>by simp[Lib.compareBytes]
 | _ :: _,[],_,h,_=>by simp[Lib.compareBytes] at h
 | _ :: _,_ :: _,[],_,k=>by simp[Lib.compareBytes] at k
 | x :: r,y :: s,z :: t,h,k=>by
  rcases u8_tri x y with a | a | a
  ·rcases u8_tri y z with b | b | b
   ·simp[Lib.compareBytes,u8_trans a b]
   ·subst b;simp[Lib.compareBytes,a]
   ·simp[Lib.compareBytes,b,u8_asymm b] at k
  ·subst a
   rcases u8_tri x z with b | b | b
   ·simp[Lib.compareBytes,b]
   ·subst b
    simp only[Lib.compareBytes,u8_irrefl,if_false] at h k ⊢
    exact cmp_trans r s t h k
   ·simp[Lib.compareBytes,b,u8_asymm b] at k
  ·simp[Lib.compareBytes,a,u8_asymm a] at h
theorem cmp_ntrans (a b c:List UInt8)(h:¬Lib.compareBytes a b<0)(k:¬Lib.compareBytes b c<0):¬Lib.compareBytes a c<0:=by
 intro m;by_cases h0:Lib.compareBytes a b=0
 ·rw[<-cmp_eq_zero a b h0] at k;exact k m
 ·by_cases k0:Lib.compareBytes b c=0
  ·rw[cmp_eq_zero b c k0] at h;exact h m
  ·have h1:Lib.compareBytes b a<0:=by rw[cmp_swap];omega
   have k1:Lib.compareBytes c b<0:=by rw[cmp_swap];omega
   have:=cmp_trans c b a k1 h1
   rw[cmp_swap] at this;omega
abbrev Ent:=ByteArray×Int×Int
def encE (e:Ent):List Value:=[.string e.1,.int .i64 e.2.1,.int .i64 e.2.2]
def flat (es:List Ent):List Value:=es.flatMap encE
def cfE (x y:Ent):Int:=Lib.compareBytes x.1.data.toList y.1.data.toList
theorem swoE:SWO (ltOf cfE) where
 irrefl x:=by simp[ltOf,cfE,cmp_self]
 trans x y z h1 h2:=decide_eq_true (cmp_trans _ _ _ (of_decide_eq_true h1) (of_decide_eq_true h2))
 ntrans x y z h1 h2:=decide_eq_false (cmp_ntrans _ _ _ (of_decide_eq_false h1) (of_decide_eq_false h2))
theorem encE_len (e:Ent):(encE e).length=3:=rfl
theorem encE_one (e:Ent):∀v ∈ encE e,v.oneCell'=true:=by
 intro v hv;simp[encE] at hv;rcases hv with rfl | rfl | rfl <;> rfl
theorem flat_len (es:List Ent):(flat es).length=es.length*3:=by
 induction es with
 | nil=>rfl
 | cons e r ih=>simp only[flat,List.flatMap_cons,List.length_append,encE_len,List.length_cons] at *;rw[ih];omega
theorem flat_one (es:List Ent):∀v ∈ flat es,v.oneCell'=true:=by
 intro v hv;obtain⟨e,_,h⟩:=List.mem_flatMap.1 hv;exact encE_one e v h
theorem flat_get:∀(es:List Ent) (i j:Nat) (hi:i<es.length),j<3->(flat es)[i*3+j]? = (encE es[i])[j]?
 | [],i,j,hi,_=>by simp at hi
 | e :: r,0,j,_,hj=>by
  simp only[flat,List.flatMap_cons,Nat.zero_mul,Nat.zero_add,List.getElem_cons_zero]
  rw[List.getElem?_append_left (by rw[encE_len];exact hj)]
 | e :: r,i+1,j,hi,hj=>by
  have ih:=flat_get r i j (by simpa using hi) hj
  simp only[flat,List.flatMap_cons,List.getElem_cons_succ] at ih ⊢
  rw[List.getElem?_append_right (by rw[encE_len];omega),encE_len,<-ih]
  congr 1;omega
theorem flatK_flat (d:Array Ent):(flatK encE 3 d).toList=flat d.toList:=by
 apply List.ext_getElem?;intro t;by_cases ht:t<d.size*3
 ·have h3:t % 3<3:=Nat.mod_lt _ (by omega)
  have hi:t / 3<d.toList.length:=by simp;omega
  have e1:=flat_get d.toList (t / 3) (t % 3) hi h3;rw[show t / 3*3+t % 3=t by omega] at e1;rw[e1];have hi':t / 3<d.size:=by simpa using hi
  simp only[flatK,Array.toList_map,Array.toList_range,List.getElem?_map,List.getElem?_range ht,Option.map_some,Array.getElem_toList];rw[getElem!_pos d (t / 3) hi',List.getElem?_eq_getElem (by rw[encE_len];exact h3),getElem!_pos _ _ (by rw[encE_len];exact h3)]
 ·rw[List.getElem?_eq_none (by simp[flatK];omega),List.getElem?_eq_none (by rw[flat_len];simp;omega)]
theorem holdsK_of_row {w:World}{g:Nat}{cur:Array Value}{e:TypeId}{es:List Ent}(hb:w.heap[g]? = some (.cells cur e (0,0)))(ht:cur.toList.take (es.length*3)=flat es):HoldsK encE 3 w g 0 es.toArray:=by
 intro j hj;have hj':j<es.length*3:=by simpa using hj
 refine⟨?_,by simp[World.frozen?,hb]⟩;have h1:(cur.toList.take (es.length*3))[j]? = (flat es)[j]?:=by rw[ht]
 rw[List.getElem?_take_of_lt hj'] at h1;simp only[World.cell?,hb,Nat.zero_add];simp only[Option.isSome_none,Bool.false_eq_true,if_false];rw[<-Array.getElem?_toList,h1];have h2:=flatK_flat es.toArray;simp only at h2;rw[<-h2,Array.getElem?_toList,getElem!_pos _ j hj,Array.getElem?_eq_getElem hj];rfl
theorem heap_sortedK {w:World}{g n:Nat}{os:Array Obj}{cur:Array Value}{e:TypeId}{fr:Nat×Nat}(d:Array Ent)(hb:w.heap[g]? = some (.cells cur e fr)):
  (sortWorldK encE 3 w g 0 n d os).heap[g]? = some (.cells (putCells id 0 (flatK encE 3 d) cur) e fr):=by
 have hg:g<w.heap.size:=(Array.getElem?_eq_some_iff.1 hb).1;unfold sortWorldK;rw[heap_grow_old _ _ (by simpa [putRowK] using hg)];simp[putRowK,putRow,mapBlock,Sort.ahead,Array.getElem?_modify,hb,onCells]
theorem grownBy_sortedK {w:World}{g n:Nat}{os:Array Obj}(d:Array Ent):w.grownBy (sortWorldK encE 3 w g 0 n d os) (some g):=by
 refine⟨rfl,rfl,rfl,by simp[sortWorldK,putRowK],fun k hk hne=>?_⟩;unfold sortWorldK;rw[heap_grow_old _ _ (by simpa [putRowK] using hk)]
 have:g≠k:=fun e=>hne (by rw[e])
 simp[putRowK,putRow,mapBlock,Sort.ahead,Array.getElem?_modify,this]
theorem take_putCellsK (cur:Array Value)(d:Array Ent)(h:d.size*3<=cur.size):(putCells id 0 (flatK encE 3 d) cur).toList.take (d.size*3)=flat d.toList:=by
 rw[<-flatK_flat];apply List.ext_getElem?;intro j;by_cases hj:j<d.size*3
 ·rw[List.getElem?_take_of_lt hj,Array.getElem?_toList,Array.getElem?_toList]
  have hs:j<(flatK encE 3 d).size:=by simpa using hj
  rw[Array.getElem?_eq_getElem hs,<-getElem!_pos (flatK encE 3 d) j hs];simp[putCells,hj,show j<cur.size by omega]
 ·rw[List.getElem?_take_eq_none (by omega),List.getElem?_eq_none (by simp;omega)]
theorem ownsRow_sortedK {w:World}{base g cap n:Nat}{e:TypeId}{os:Array Obj}{cur:Array Value}{k:Nat}{d:Array Ent}(hl:d.size=k)(hbase:base<=g)(hb:w.heap[g]? = some (.cells cur e (0,0)))
  (h1:k<=cap)(h2:cap<=maxLen)(h3:cur.size=cap*3):
  (sortWorldK encE 3 w g 0 n d os).ownsRow base e 3 (.slice (some ⟨g,0,none⟩) k cap) k (flat d.toList):=by
 subst hl;refine⟨by rw[flat_len];simp,.inr ⟨g,cap,_,rfl,hbase,heap_sortedK _ hb,h1,h2,by simp[putCells,h3],take_putCellsK cur d (by rw[h3];exact Nat.mul_le_mul_right 3 h1)⟩⟩
theorem isAgg34 (w:World):(isAgg 96).run Tryz.prog w=.ok true w:=by kernel_rfl
theorem sizeOf34 (w:World):(Go.sizeOf 96).run Tryz.prog w=.ok 3 w:=by kernel_rfl
theorem byName_any (x y:Ent)(W:World):Calls Tryz.prog 172 #[.agg #[.string x.1,.int .i64 x.2.1,.int .i64 x.2.2],.agg #[.string y.1,.int .i64 y.2.1,.int .i64 y.2.2]] W fun e w'=>e=.returned (.int .i64 (cfE x y))/\∃q os',w'=grow (W.drewN q) os':=by
 have hcon:=fun W'=>Tryz.strings_Compare x.1 y.1 W';unfold cfE;generalize Lib.compareBytes x.1.data.toList y.1.data.toList=r at hcon ⊢;go_enter Tryz.func172,Tryz.ntmps172;go_wp2_with (go_at_call 191;refine (hcon _).mono ?_;rintro e w' ⟨rfl,rfl⟩);go_ret;exact⟨rfl,0,_,by rw[alloc_eq_grow,alloc_eq_grow,grow_grow];rfl⟩
theorem cmpLays (blk off size:Nat)(w:World):CmpLays Tryz.prog 172 #[] encE 3 cfE blk off size w:=fun _ _ _ _ x y=>byName_any x y _
theorem sort_any (blk cap:Nat)(d:Array Ent)(w:World)(hH:HoldsK encE 3 w blk 0 d)(hblk:blk<w.heap.size)(hsz:d.size<4611686018427387904):
  Calls Tryz.prog 171 #[.slice (some ⟨blk,0,none⟩) d.size cap,.func (.func 172) #[] #[]] w fun e w'=>e=.returned (.tuple #[])/\∃d' n os,PermIn 0 d.size d d'/\SortedIn (ltOf cfE) 0 d.size d'/\w'=sortWorldK encE 3 w blk 0 n d' os:=by
 have eg:∀args w,(callFunc 172 args).run Tryz.prog w=.ok (.enter 172 args) w:=enters_of Tryz.func172 (by kernel_rfl) rfl;exact AnyQ.slices_SortFunc Tryz.sortE 3 isAgg34 sizeOf34 encE encE_len encE_one cfE swoE 172 #[] blk 0 cap d w eg (cmpLays blk 0 d.size w) hH hblk hsz
theorem info34:(Tryz.prog.info? 96).map (fun i=>(i.zero,i.size,i.bytes))=some (some (.agg #[.string ByteArray.empty,.int .i64 0,.int .i64 0]),3,32):=by kernel_rfl
theorem cloneE_any (b off n c:Nat)(es:List Ent)(w:World)(hl:es.length=n)(hbig:n*32<=140737488355328)(hc:∀j u,(flat es)[j]? = some u->w.cell? ⟨b,off+j,none⟩=some u):
  Calls Tryz.prog 170 #[.slice (some ⟨b,off,none⟩) n c] w fun e w'=>∃v',e=.returned v'/\w'.ownsRow w.heap.size 96 3 v' n (flat es)/\v' ≠ .slice none 0 0/\Below w.heap.size w w':=by
 obtain⟨i0,hi,hz0,hz1,hz2⟩:=info_parts info34;exact AnyE.slices_Clone Tryz.cloneE i0 _ 3 32 hi hz0 hz1 hz2 rfl (by decide) sizeOf34 b off n c (flat es) w (by rw[flat_len,hl]) (by unfold maxLen;omega) hbig hc (flat_one es)
theorem row_cells {w:World}{b off:Nat}{es:List Ent}(hc:∀j u,(flat es)[j]? = some u->w.cell? ⟨b,off+j,none⟩=some u){i:Nat}(hi:i<es.length):
  w.cell? ⟨b,off+i*3,none⟩=some (.string es[i].1)/\w.cell? ⟨b,off+i*3+1,none⟩=some (.int .i64 es[i].2.1)/\w.cell? ⟨b,off+i*3+2,none⟩=some (.int .i64 es[i].2.2):=by
 refine⟨?_,?_,?_⟩
 ·exact hc _ _ (by rw[show i*3=i*3+0 from rfl,flat_get es i 0 hi (by omega)];rfl)
 ·rw[Nat.add_assoc];exact hc _ _ (by rw[flat_get es i 1 hi (by omega)];rfl)
 ·rw[Nat.add_assoc];exact hc _ _ (by rw[flat_get es i 2 hi (by omega)];rfl)
theorem setCell_self {w:World}{a:Addr}{v:Value}(h:w.cell? a=some v):w.setCell a v=w:=by
 have hh:(w.setCell a v).heap=w.heap:=by
  apply Array.ext_getElem?;intro k;simp only[World.setCell,Array.getElem?_modify];by_cases hk:a.block=k
  ·subst hk
   simp only[if_true];unfold World.cell? at h;cases hb:w.heap[a.block]? with
   | none=>rfl
   | some o=>
    rw[hb] at h;cases o with
    | cells c e fr=>
     simp only[Option.map_some];by_cases hs:a.spot.isSome=true
     ·simp[hs]
     ·simp only[hs,if_false,Bool.false_eq_true] at h ⊢
      have hlt:=(Array.getElem?_eq_some_iff.1 h);obtain⟨h1,h2⟩:=hlt
      congr 2
      apply Array.ext_getElem?;intro j;rw[Array.getElem?_setIfInBounds];by_cases hj:a.off=j
      ·subst hj;simp[h1,h2]
      ·simp[hj]
    | _=>simp at h
  ·simp[hk]
 cases w;simp only[World.setCell] at hh ⊢;rw[hh]
def Rising (es:List Ent):Prop:=es.Pairwise fun x y=>cfE x y<0
def Arranged (w w':World)(es:List Ent)(n:Nat)(e:Ending):Prop:=
 Below w.heap.size w w'/\
 (((∃x ∈ es,validB x.1=false)/\e=.returned (.tuple #[.slice none 0 0,.int .i64 1]))\/
  ((∀x ∈ es,validB x.1=true)/\¬(es.map (·.1)).Nodup/\e=.returned (.tuple #[.slice none 0 0,.int .i64 6]))\/
  ((∀x ∈ es,validB x.1=true)/\(es.map (·.1)).Nodup/\16<es.length/\e=.returned (.tuple #[.slice none 0 0,.int .i64 11]))\/
  ((∀x ∈ es,validB x.1=true)/\(es.map (·.1)).Nodup/\es.length<=16/\∃es' g cap',e=.returned (.tuple #[.slice (some ⟨g,0,none⟩) n cap',.int .i64 0])/\es'.Perm es/\Rising es'/\w'.ownsRow w.heap.size 96 3 (.slice (some ⟨g,0,none⟩) n cap') n (flat es')))
theorem perm_of (es:List Ent)(d':Array Ent)(h:PermIn 0 es.toArray.size es.toArray d'):d'.toList.Perm es:=by
 obtain⟨h1,_,h3⟩:=h;have e1:(d'.extract 0 es.toArray.size)=d':=by rw[<-h1];simp
 have e2:(es.toArray.extract 0 es.toArray.size)=es.toArray:=by simp
 rw[e1,e2] at h3;simpa using h3
theorem rising_of (d:Array Ent)(hs:SortedIn (ltOf cfE) 0 d.size d)(hd:∀j (hj:j<d.toList.length),1<=j->d.toList[j].1≠(d.toList[j-1]'(by omega)).1):Rising d.toList:=by
 unfold Rising;rw[List.pairwise_iff_getElem];intro i j hi hj hij;simp only[Array.length_toList] at hi hj;have key:∀k,(hk:k<d.size)->(h1:1<=k)->cfE d[k-1] d[k]<0:=by
  intro k hk h1;have h:=hs (k-1) k (Nat.zero_le _) (by omega) hk;rw[getElem!_pos d k hk,getElem!_pos d (k-1) (by omega)] at h;have h2:=of_decide_eq_false h;have hne:=hd k (by simpa using hk) h1;have h3:cfE d[k] d[k-1]≠0:=by
   intro h0
   have:=cmp_eq_zero _ _ h0
   apply hne;simp only[Array.getElem_toList];have e:∀a b:ByteArray,a.data.toList=b.data.toList->a=b:=by
    intro a b hab;cases a;cases b
    congr 1
    exact Array.toList_inj.1 hab
   exact e _ _ this
  have h4:cfE d[k-1] d[k] = - cfE d[k] d[k-1]:=cmp_swap _ _;omega
 have chain:∀m,(hm:i+1+m<d.size)->cfE d[i] d[i+1+m]<0:=by
  intro m
  induction m with
  | zero=>intro hm;exact key (i+1) hm (by omega)
  | succ m ih=>
   intro hm;have a:=ih (by omega);have b:=key (i+1+(m+1)) hm (by omega);exact cmp_trans _ _ _ a b
 have:=chain (j-i-1) (by omega)
 simp only[Array.getElem_toList];have e:i+1+(j-i-1)=j:=by omega
 simp only[e] at this;exact this
theorem nodup_of_rising {es:List Ent}(h:Rising es):(es.map (·.1)).Nodup:=by
 unfold Rising at h;rw[List.Nodup,List.pairwise_map];refine h.imp ?_;intro a b hab e;unfold cfE at hab;rw[e,cmp_self] at hab;omega
theorem valid_size {s:ByteArray}(h:validB s=true):1<=s.size/\s.size<=12:=by
 unfold validB at h;simp only[Bool.and_eq_true,decide_eq_true_eq] at h;exact⟨h.1.1.1.1.1,h.1.1.1.1.2⟩
theorem bytes_eq {a b:ByteArray}(h:a.toList=b.toList):a=b:=by
 rw[ByteArray.toList_eq,ByteArray.toList_eq] at h;cases a;cases b
 congr 1
 exact Array.toList_inj.1 h
theorem owns_cells {w:World}{base:Nat}{e:TypeId}{g n cap:Nat}{es:List Ent}(h:w.ownsRow base e 3 (.slice (some ⟨g,0,none⟩) n cap) n (flat es)):∀j u,(flat es)[j]? = some u->w.cell? ⟨g,0+j,none⟩=some u:=by
 intro j u hu;rcases h.2 with ⟨h0,_⟩ | ⟨g',cap',cur,hv,_,hg,_,_,_,ht⟩
 ·cases h0
 ·cases hv
  rw[<-ht] at hu;have hj:j<n*3:=by
   have:=(List.getElem?_eq_some_iff.1 hu).1
   simp at this;omega
  rw[List.getElem?_take_of_lt hj,Array.getElem?_toList] at hu;simp[World.cell?,hg,hu]
theorem owns_frozen {w:World}{base:Nat}{e:TypeId}{g n cap size:Nat}{xs:List Value}(h:w.ownsRow base e size (.slice (some ⟨g,0,none⟩) n cap) n xs)(j:Nat):w.frozen? ⟨g,j,none⟩=false:=by
 rcases h.2 with ⟨h0,_⟩ | ⟨g',cap',cur,hv,_,hg,_⟩
 ·cases h0
 ·cases hv
  simp[World.frozen?,hg]
theorem arrange_some (b off n cap:Nat)(es:List Ent)(w:World)(hl:es.length=n)(hbl:b<w.heap.size)(hbig:n*32<=140737488355328)(hc:∀j u,(flat es)[j]? = some u->w.cell? ⟨b,off+j,none⟩=some u)
  (hsz:∀e ∈ es,e.1.size<=maxLen):
  Calls Tryz.prog 109 #[.slice (some ⟨b,off,none⟩) n cap] w fun e w'=>Arranged w w' es n e:=by
 have HC:Hid (∀j u,(flat es)[j]? = some u->w.cell? ⟨b,off+j,none⟩=some u):=hc;have HS:Hid (∀e ∈ es,e.1.size<=maxLen):=hsz;have HL:Hid (es.length=n):=hl;clear hc hsz hl;go_enter Tryz.func109,Tryz.ntmps109;go_wp2
 go_loopw [11] (fun i wr=>∃k:Nat,k<=n/\i=.int .i64 k/\Below w.heap.size w wr/\Hid (∀j (hj:j<es.length),j<k->validB es[j].1=true)) (fun i _=>n-(intOf i).toNat)
 case atStart=>exact⟨0,Nat.zero_le _,rfl,Below.refl _ _,fun j hj h=>by omega⟩
 case round=>
  obtain⟨k,hk,rfl,hb,HV⟩:=hrel;by_cases hlt:k<n
  ·have hk':k<es.length:=by rw[HL.out];exact hlt
   obtain⟨c0,c1,c2⟩:=row_cells HC.out hk';have d0:=(hb.cell (p:=⟨b,off+k*3,none⟩) hbl).trans c0;have d1:=(hb.cell (p:=⟨b,off+k*3+1,none⟩) hbl).trans c1;have d2:=(hb.cell (p:=⟨b,off+k*3+2,none⟩) hbl).trans c2;have hv:=fun W=>valid_any es[k].1 W (HS.out es[k] (List.getElem_mem hk'));cases hvb:validB es[k].1 with
   | false=>
    have HVB:Hid (validB es[k].1=false):=hvb;rw[hvb] at hv;clear hvb;go_wp2_with (go_at_call 129;refine (hv _).mono ?_;rintro e w' ⟨rfl,rfl⟩);go_ret2;exact⟨hb.alloc hb.size _,.inl ⟨⟨es[k],List.getElem_mem hk',HVB.out⟩,rfl⟩⟩
   | true=>
    have HVB:Hid (validB es[k].1=true):=hvb;rw[hvb] at hv;clear hvb;go_wp2_with (go_at_call 129;refine (hv _).mono ?_;rintro e w' ⟨rfl,rfl⟩);go_roundw
    case rel=>
     refine⟨k+1,by omega,by go_num,hb.alloc hb.size _,?_⟩;intro j hj hjk;by_cases e:j=k
     ·subst e;exact HVB.out
     ·exact HV.out j hj (by omega)
    case measure=>simp[intOf];omega
  ·have hkn:k=n:=by omega
   have HVA:Hid (∀x ∈ es,validB x.1=true):=by
    intro x hx;obtain⟨j,hj,rfl⟩:=List.getElem_of_mem hx;exact HV.out j hj (by rw[hkn,<-HL.out];exact hj)
   have hcl:=cloneE_any b off n cap es wr HL.out hbig (fun j u h=>(hb.cell (p:=⟨b,off+j,none⟩) hbl).trans (HC.out j u h));go_wp2_with fail;refine hcl.mono ?_;rintro e w1 ⟨v1,rfl,hown1,hnn,hb1⟩;have hex:∃g cap' cur,v1=.slice (some ⟨g,0,none⟩) n cap'/\wr.heap.size<=g/\w1.heap[g]? = some (.cells cur 96 (0,0))/\n<=cap'/\cap'<=maxLen/\cur.size=cap'*3/\cur.toList.take (n*3)=flat es:=by
    rcases hown1.2 with ⟨h,_⟩ | ⟨g,cap',cur,h,h2,h3,h4,h5,h6,h7⟩
    ·exact absurd h hnn
    ·exact⟨g,cap',cur,h,h2,h3,h4,h5,h6,h7⟩
   obtain⟨g,cap',cur,hv1,hg1,hg2,hg3,hg4,hg5,hg6⟩:=hex;rw[hv1];clear hcl hown1 hnn hv1;have hH:=holdsK_of_row (es:=es) hg2 (by rw[HL.out];exact hg6);have hso:=sort_any g cap' es.toArray w1 hH (Array.getElem?_eq_some_iff.1 hg2).1 (by simp only[List.size_toArray];rw[HL.out];omega);rw[show es.toArray.size=n by simp only[List.size_toArray];exact HL.out] at hso;go_wp2_with fail;refine hso.mono ?_;rintro e w2 ⟨rfl,d',nn,os,hperm,hsort,hw2⟩;have hds:d'.size=n:=by have:=hperm.1;simp only[List.size_toArray] at this;rw[this];exact HL.out
   have hown2:w2.ownsRow w.heap.size 96 3 (.slice (some ⟨g,0,none⟩) n cap') n (flat d'.toList):=by
    rw[hw2];exact ownsRow_sortedK hds (Nat.le_trans hb.size hg1) hg2 hg3 hg4 hg5
   have hb2:Below w.heap.size w w2:=by
    rw[hw2];exact ((hb.trans (hb1.mono hb.size)).grown (grownBy_sortedK d') (Nat.le_trans hb.size hb1.size) (fun k h=>by cases h;exact Nat.le_trans hb.size hg1))
   obtain⟨es',hes'⟩:∃es',es'=d'.toList:=⟨_,rfl⟩;have HP:Hid (es'.Perm es):=by
    rw[hes'];exact perm_of es d' (by simpa only[List.size_toArray,HL.out] using hperm)
   have HL':Hid (es'.length=n):=by rw[hes',Array.length_toList];exact hds
   have HR:Hid ((∀j (hj:j<es'.length),1<=j->es'[j].1≠(es'[j-1]'(by omega)).1)->Rising es'):=by
    subst hes';exact rising_of d' (by rw[hds];exact hsort)
   rw[<-hes'] at hown2;clear hso hperm hsort hw2 hH hg2 hg6 hb1 hg1 hg3 hg4 hg5 hds hes' hkn HV HC;go_wp2
   go_loopw [7] (fun i wq=>∃m:Nat,i=.int .i64 ((m:Int)+1)/\m<=n/\Below w.heap.size w wq/\wq.ownsRow w.heap.size 96 3 (.slice (some ⟨g,0,none⟩) n cap') n (flat es')/\Hid (∀j (hj:j<es'.length),1<=j->j<m+1->es'[j].1≠(es'[j-1]'(by omega)).1)) (fun i _=>n-(intOf i).toNat)
   case atStart=>exact⟨0,by go_num,Nat.zero_le _,hb2,hown2,fun j hj h1 h2=>by omega⟩
   case round=>
    obtain⟨m,rfl,hmn,hbq,hownq,HD⟩:=hrel;by_cases hlt2:m+1<n
    ·have hm1:m+1<es'.length:=by rw[HL'.out];exact hlt2
     have hm0:m<es'.length:=(by omega);obtain⟨c0,_,_⟩:=row_cells (off:=0) (owns_cells hownq) hm1;obtain⟨e0,_,_⟩:=row_cells (off:=0) (owns_cells hownq) hm0;rw[Nat.zero_add] at c0 e0;have a1:((m:Int)+1-1)=m:=by omega
     have a2:((m:Int)+1)<n:=(by omega);cases hnm:es'[m+1].1.toList == es'[m].1.toList with
     | true=>
      have HN:Hid ((es'[m+1].1.toList == es'[m].1.toList)=true):=hnm;go_wp2
      go_quiet (fail)
      go_wp2;go_ret2;refine⟨below_drewN hbq _,.inr (.inl ⟨HVA.out,?_,rfl⟩)⟩;intro hnd;have hnd':=(HP.out.map (·.1)).nodup_iff.2 hnd;have hne:=List.pairwise_iff_getElem.1 hnd' m (m+1) (by simpa using hm0) (by simpa using hm1) (by omega);simp only[List.getElem_map] at hne;exact hne (bytes_eq (by simpa using HN.out)).symm
     | false=>
      have HN:Hid ((es'[m+1].1.toList == es'[m].1.toList)=false):=hnm;go_wp2
      go_quiet (fail)
      go_wp2;go_roundw
      case rel=>
       refine⟨m+1,by go_num,by omega,below_drewN hbq _,hownq,?_⟩;intro j hj h1 h2;by_cases e:j=m+1
       ·subst e
        intro h;have hn:=HN.out;rw[h] at hn;simp at hn
       ·exact HD.out j hj h1 (by omega)
      case measure=>simp[intOf];omega
    ·have HRis:Hid (Rising es'):=HR.out (fun j hj h1=>HD.out j hj h1 (by rw[HL'.out] at hj;omega))
     have HND:Hid ((es.map (·.1)).Nodup):=(List.Perm.nodup_iff (HP.out.map (fun x:Ent=>x.1))).1 (nodup_of_rising HRis.out);clear HD HR;by_cases h16:16<n
     ·have h16':(16:Int)<n:=by omega
      go_wp2;go_ret2;exact⟨hbq,.inr (.inr (.inl ⟨HVA.out,HND.out,by rw[HL.out];exact h16,rfl⟩))⟩
     ·have h16':¬((16:Int)<n):=by omega
      go_wp2
      go_loopw [47] (fun i wq=>∃m:Nat,i=.int .i64 (m:Int)/\m<=n/\Below w.heap.size w wq/\wq.ownsRow w.heap.size 96 3 (.slice (some ⟨g,0,none⟩) n cap') n (flat es')) (fun i _=>n-(intOf i).toNat)
      case atStart=>exact⟨0,rfl,Nat.zero_le _,hbq,hownq⟩
      case round=>
       obtain⟨q,rfl,hqn,hbz,hownz⟩:=hrel;by_cases hlt3:q<n
       ·have hq0:q<es'.length:=by rw[HL'.out];exact hlt3
        obtain⟨c0,_,_⟩:=row_cells (off:=0) (owns_cells hownz) hq0;rw[Nat.zero_add] at c0;have hsq:=(valid_size (HVA.out _ (HP.out.mem_iff.1 (List.getElem_mem hq0)))).2;have hcq:=clone_any es'[q].1 wr (by omega);have hgl:g<wr.heap.size:=ownsRow_lt hownz rfl;have hfz:=owns_frozen hownz (q*3);go_wp2_with (go_at_call 130;refine hcq.mono ?_;rintro e w3 ⟨rfl,hb3⟩;have c1:=(hb3.cell (p:=⟨g,q*3,none⟩) hgl).trans c0;have f1:=(hb3.frozen (p:=⟨g,q*3,none⟩) hgl).trans hfz);go_roundw
        case rel=>
         refine⟨q+1,by go_num,by omega,?_,?_⟩
         ·rw[setCell_self c1];exact hbz.trans (hb3.mono hbz.size)
         ·rw[setCell_self c1];exact ownsRow_keep hownz (fun g' hg'=>hb3.block g' (ownsRow_lt hownz hg'))
        case measure=>simp[intOf];omega
       ·go_wp2
        go_ret2;exact⟨hbz,.inr (.inr (.inr ⟨HVA.out,HND.out,by rw[HL.out];omega,es',_,cap',rfl,HP.out,HRis.out,hownz⟩))⟩
theorem run_copyK {P:Program}(w:World)(dT sT ty elem:TypeId)(size g o dLen dCap:Nat)(a:Addr)(sLen sCap:Nat)(cur:Array Value)(t:TypeId)(cs:List Value)
  (hu:P.underlying dT=some (.slice elem))(hs:(P.info? elem).map (·.size)=some size)
  (hg:w.heap[g]? = some (.cells cur t (0,0)))(hn:cs.length=Nat.min sLen dLen*size)
  (hsrc:∀j v,cs[j]? = some v->w.cell? (a.add j)=some v)(hfit:o+cs.length<=cur.size)(h1:∀v ∈ cs,v.oneCell'=true):
  (Builtin.copy_ #[dT,sT] ty #[.slice (some ⟨g,o,none⟩) dLen dCap,.slice (some a) sLen sCap]).run P w =
   .ok (goInt (Nat.min sLen dLen)) (w.setRow g (cur.toList.take o++cs++cur.toList.drop (o+cs.length)).toArray):=by
 have hl:=run_loadCells_list (P:=P) w a cs hsrc;have hst:=run_storeCells_at P g o t cs 0 cur w hg (by simpa using hfit) h1;cases hq:P.info? elem with
 | none=>simp[hq] at hs
 | some i=>
  have hi:i.size=size:=by simpa [hq] using hs
  simp[Builtin.copy_,run_underlying hu,Builtin.lenOf,Builtin.firstCells,sizeOf,typeInfo,hq,hi,<-hn,hl,hst]
theorem wpList_copyK {P:Program}{w:World}{ops:Array Oper}{rest:List Oper}{o:Oper}{a:Act}{Q:Exit->Act->World->Prop}(hgd:o.guard=none)(d s:Operand)(dT sT:TypeId)
  (ho:o.op=.call { callee:=.builtin .copy,args:=#[d,s],argTypes:=#[dT,sT] })(elem:TypeId)(hu:P.underlying dT=some (.slice elem))(size:Nat)(hsz:(P.info? elem).map (·.size)=some size)
  (g off dLen dCap:Nat)(ad:Addr)(sLen sCap:Nat)(hd:a.eval d=.slice (some ⟨g,off,none⟩) dLen dCap)(hs:a.eval s=.slice (some ad) sLen sCap)
  (cur:Array Value)(t:TypeId)(hg:w.heap[g]? = some (.cells cur t (0,0)))(cs:List Value)(hn:cs.length=Nat.min sLen dLen*size)
  (hsrc:∀j v,cs[j]? = some v->w.cell? (ad.add j)=some v)(hfit:off+cs.length<=cur.size)(h1:∀v ∈ cs,v.oneCell'=true)
  (new:Array Value)(hnew:new.toList=cur.toList.take off++cs++cur.toList.drop (off+cs.length))
  (h:∀w',Hid (w'.heap[g]? = some (.cells new t (0,0)))->w.grownBy w' (some g)->wpList P ops Q rest (a.put o.dst (goInt (Nat.min sLen dLen))) w'):wpList P ops Q (o :: rest) a w:=by
 refine wpList_plain hgd fun K hK=>?_;have hrun:=run_copyK (P:=P) w dT sT o.type elem size g off dLen dCap ad sLen sCap cur t cs hu hsz hg hn hsrc hfit h1;rw[<-hnew,Array.toArray_toList] at hrun;unfold Oper.wp;simp[execOp,ho,resolve,invoke,builtin,hd,hs,hrun,Result.andThen];exact hK _ _ (h _ (setRow_heap w g _ _ t _ hg) ⟨rfl,rfl,rfl,by simp,fun k hk hne=>setRow_other w g k _ (fun e=>hne (by rw[e]))⟩)
def zeroL:List Value:=(List.replicate 16 (encE (ByteArray.empty,0,0))).flatten
theorem zeroL_len:zeroL.length=48:=by decide
theorem zeroL_one:∀v ∈ zeroL,v.oneCell'=true:=by
 intro v hv;obtain⟨l,hl,h⟩:=List.mem_flatten.1 hv;rw[(List.mem_replicate.1 hl).2] at h;exact encE_one _ v h
def listing (es:List Ent):Array Value:=(flat es++zeroL.drop (es.length*3)).toArray
theorem listing_size {es:List Ent}(h:es.length<=16):(listing es).size=48:=by
 simp only[listing,List.size_toArray,List.length_append,flat_len,List.length_drop,zeroL_len];omega
theorem listing_one (es:List Ent):(listing es).all (·.oneCell')=true:=by
 rw[Array.all_eq_true'];intro v hv;simp only[listing,List.mem_toArray,List.mem_append] at hv;rcases hv with h | h
 ·exact flat_one es v h
 ·exact zeroL_one v (List.mem_of_mem_drop h)
theorem info58:(Tryz.prog.info? 208).map (·.size)=some 48:=by kernel_rfl
theorem info34s:(Tryz.prog.info? 96).map (·.size)=some 3:=by kernel_rfl
theorem listing_some (g n cap:Nat)(es:List Ent)(w:World)(hl:es.length=n)(hgl:g<w.heap.size)(h16:n<=16)(hc:∀j u,(flat es)[j]? = some u->w.cell? ⟨g,0+j,none⟩=some u):
  Calls Tryz.prog 111 #[.slice (some ⟨g,0,none⟩) n cap] w fun e w'=>e=.returned (.agg (listing es))/\Below w.heap.size w w':=by
 have HC:Hid (∀j u,(flat es)[j]? = some u->w.cell? ⟨g,0+j,none⟩=some u):=hc;have HL:Hid (es.length=n):=hl;have HM:Hid (Nat.min n 16=n):=Nat.min_eq_left h16;have HZ:Hid ((listing es).size=48):=listing_size (by omega);have HSRC:Hid (∀A B j v,(flat es)[j]? = some v->((w.alloc A).alloc B).cell? ((⟨g,0,none⟩:Addr).add j)=some v):=by
  intro A B j v h;have h1:=hc j v h;have h2:(⟨g,0,none⟩:Addr).add j=⟨g,0+j,none⟩:=by unfold Addr.add;split <;> simp_all
  rw[h2,World.cell?_alloc_past _ _ _ (by simp;omega),World.cell?_alloc_past _ _ _ hgl,h1]
 have HNEW:Hid ((listing es).toList=zeroL.take 0++flat es++zeroL.drop (0+(flat es).length)):=by
  show (listing es).toList=_;simp only[listing,List.take_zero,List.nil_append,Nat.zero_add,flat_len]
 have HN:Hid ((flat es).length=Nat.min n 16*3):=by
  show (flat es).length=_;rw[flat_len,hl,HM.out]
 have HF:Hid (0+(flat es).length<=48):=by
  show 0+(flat es).length<=48;rw[flat_len,hl];omega
 clear hc hl;go_enter Tryz.func111,Tryz.ntmps111;go_wp2_with (first
  | (refine wpList_copyK rfl (.tmp 4) (.tmp 5) 55 55 rfl 96 Tryz.underlying55 3 info34s (w.heap.size+1) 0 16 16 ⟨g,0,none⟩ n cap rfl rfl _ 208 (heap_alloc2_new _ _ _) (flat es) ?_ ?_ ?_ (flat_one es) (listing es) ?_ ?_;go_must (exact HN.out);go_must (exact HSRC.out _ _);go_must (exact HF.out);go_must (exact HNEW.out);intro w1 H1 hg1)
  | (refine wpList_load_row rfl 208 _ rfl (w.heap.size+1) rfl 208 (listing es) (0,0) _ H1.out Tryz.underlying208 rfl (by rw[HZ.out];exact info58) ?_)
  | (refine wpList_store_row rfl 208 _ _ rfl w.heap.size (listing es) rfl rfl 208 _ ((hg1.block w.heap.size (by simp;omega) (by simp)).trans (heap_alloc2_old _ _ _)) (by rw[HZ.out];exact info58) (by rw[HZ.out];rfl) (listing_one es) ?_)
  | go_in)
 have h0:(w1.setRow w.heap.size (listing es)).heap[w.heap.size]? = some (.cells (listing es) 208 (0,0)):=setRow_heap w1 w.heap.size _ _ 208 (0,0) ((hg1.block w.heap.size (by simp;omega) (by simp)).trans (heap_alloc2_old _ _ _));refine bodyPost_ret (v:=.agg (listing es)) (results_cell_row Tryz.results111 _ _ w.heap.size 208 (listing es) (0,0) _ rfl h0 Tryz.underlying208 rfl (by rw[HZ.out];exact info58)) rfl ⟨rfl,?_⟩;have hb1:Below w.heap.size w w1:=(((Below.refl _ _).alloc (Nat.le_refl _) _).alloc (by simp) _).grown hg1 (by simp;omega) (fun k h=>by cases h;omega);exact below_setRow hb1 (Nat.le_refl _) _
theorem laidOut:laidOutB Tryz.prog=true:=by kernel_rfl
theorem row58:208<Tryz.prog.types.size:=of_decide_eq_true (by kernel_rfl)
theorem law58:Maps.Keyed Tryz.prog 208:=Maps.Keyed.of_law (deep_law_laid laidOut (m:=9) (by omega) row58 (by kernel_rfl) (by rw[Tryz.underlying208]))
theorem cells58:Tryz.prog.cellsOf 208=48:=by kernel_rfl
theorem cells34:Tryz.prog.cellsOf 96=3:=by kernel_rfl
theorem cells9:Tryz.prog.cellsOf 9=1:=by kernel_rfl
theorem cells3:Tryz.prog.cellsOf 3=1:=by kernel_rfl
theorem cells25:Tryz.prog.cellsOf 29=1:=by kernel_rfl
theorem keyT58:Tryz.prog.keyType 208=true:=by kernel_rfl
def Fits (e:Ent):Prop:=e.1.size<=maxLen/\(Lit.int .i64 e.2.1).wf=true/\(Lit.int .i64 e.2.2).wf=true
theorem lits34 (d:Nat)(e:Ent)(h:Fits e):∃ls,Tryz.prog.keyLits (d+2) 96 (encE e)=some ls:=by
 obtain⟨h1,h2,h3⟩:=h;have a1:Tryz.prog.keyLits (d+1) 9 [.string e.1]=some [.string e.1.data.toList]:=by unfold Program.keyLits;simp[Tryz.underlying9,h1]
 have a2:Tryz.prog.keyLits (d+1) 3 [.int .i64 e.2.1]=some [.int .i64 e.2.1]:=by unfold Program.keyLits;simp[Tryz.underlying3,h2]
 have a3:Tryz.prog.keyLits (d+1) 29 [.int .i64 e.2.2]=some [.int .i64 e.2.2]:=by unfold Program.keyLits;simp[Tryz.underlying29,h3]
 unfold Program.keyLits;simp[Tryz.underlying96,encE,cells34,cells9,cells3,cells25,a1,a2,a3]
theorem mapM_some {α β:Type}(f:α->Option β):∀l:List α,(∀x ∈ l,∃y,f x=some y)->∃ys,l.mapM f=some ys
 | [],_=>⟨[],rfl⟩
 | x :: r,h=>by
  obtain⟨y,hy⟩:=h x (by simp)
  obtain⟨ys,hys⟩:=mapM_some f r (fun z hz=>h z (by simp[hz]))
  exact⟨y :: ys,by simp[List.mapM_cons,hy,hys]⟩
theorem listing_place (es:List Ent)(h16:es.length<=16)(i:Nat)(hi:i<16):((listing es).toList.drop (i*3)).take 3=encE ((es[i]?).getD (ByteArray.empty,0,0)):=by
 have hfl:=flat_len es;apply List.ext_getElem?;intro j;by_cases hj:j<3
 ·rw[List.getElem?_take_of_lt hj,List.getElem?_drop]
  simp only[listing];by_cases hi2:i<es.length
  ·rw[List.getElem?_append_left (by rw[hfl];omega),flat_get es i j hi2 hj,List.getElem?_eq_getElem hi2];rfl
  ·rw[List.getElem?_append_right (by rw[hfl];omega),List.getElem?_drop,hfl,List.getElem?_eq_none (l:=es) (by omega)]
   have e1:es.length*3+(i*3+j-es.length*3)=i*3+j:=by omega
   rw[e1];have hz:=flat_get (List.replicate 16 (ByteArray.empty,0,0)) i j (by simp;omega) hj;rw[List.getElem_replicate] at hz;exact hz
 ·rw[List.getElem?_take_eq_none (by omega),List.getElem?_eq_none (by rw[encE_len];omega)]
theorem lits58 (d:Nat)(es:List Ent)(h16:es.length<=16)(hf:∀e ∈ es,Fits e):∃ls,Tryz.prog.keyLits (d+3) 208 (listing es).toList=some ls:=by
 have hl:(listing es).toList.length=48:=by simp[listing_size h16]
 obtain⟨ys,hys⟩:=mapM_some (fun i=>Tryz.prog.keyLits (d+2) 96 (((listing es).toList.drop (i*3)).take 3)) (List.range 16) (by
  intro i hi;rw[List.mem_range] at hi;rw[listing_place es h16 i hi];refine lits34 d _ ?_;by_cases h:i<es.length
  ·rw[List.getElem?_eq_getElem h];exact hf _ (List.getElem_mem h)
  ·rw[List.getElem?_eq_none (by omega)];exact⟨by decide,by decide,by decide⟩)
 refine⟨ys.flatten,?_⟩;unfold Program.keyLits;simp only[Tryz.underlying208,cells58,hl,if_true,cells34,hys,Option.map_some]
def keyFor (P:Program)(es:List Ent):Lit:=(keyOf P 208 (.agg (listing es))).getD .nil
theorem keyOf_listing (es:List Ent)(h16:es.length<=16)(hf:∀e ∈ es,Fits e):keyOf Tryz.prog 208 (.agg (listing es))=some (keyFor Tryz.prog es):=by
 have hx:∃k,keyOf Tryz.prog 208 (.agg (listing es))=some k:=by
  have hfo:Value.formed Tryz.prog 208 (.agg (listing es))=true:=by
   unfold Value.formed;rw[Tryz.underlying208];simp[cells58,listing_size h16]
  obtain⟨n,hn⟩:∃n,Tryz.prog.types.size+1=n+3:=⟨Tryz.prog.types.size-2,by have:=row58;omega⟩;obtain⟨ls,hls⟩:=lits58 n es h16 hf;unfold keyOf;rw[Tryz.underlying208];simp only[keyT58,hfo,Bool.and_self,if_true,Value.cells,hn,hls,Option.map_some];exact⟨_,rfl⟩
 obtain⟨k,hk⟩:=hx;unfold keyFor;rw[hk];rfl
theorem listing_inj {es fs:List Ent}(h1:es.length<=16)(h2:fs.length<=16)(n1:∀e ∈ es,1<=e.1.size)(n2:∀e ∈ fs,1<=e.1.size)(h:listing es=listing fs):es=fs:=by
 have key:∀i,i<16->(es[i]?).getD (ByteArray.empty,0,0)=(fs[i]?).getD (ByteArray.empty,0,0):=by
  intro i hi;have a:=listing_place es h1 i hi;rw[h,listing_place fs h2 i hi] at a;simp only[encE,List.cons.injEq,Value.string.injEq,Value.int.injEq,true_and,and_true] at a;exact (Prod.ext a.1 (Prod.ext a.2.1 a.2.2)).symm
 have e0:ByteArray.empty.size=0:=rfl;apply List.ext_getElem?;intro i;by_cases hi:i<16
 ·have k:=key i hi
  cases ha:es[i]? with
  | none=>
   cases hb:fs[i]? with
   | none=>rfl
   | some y=>
    rw[ha,hb] at k;simp only[Option.getD_none,Option.getD_some] at k
    have:=n2 y (List.mem_of_getElem? hb)
    rw[<-k,e0] at this;omega
  | some x=>
   cases hb:fs[i]? with
   | none=>
    rw[ha,hb] at k;simp only[Option.getD_none,Option.getD_some] at k
    have:=n1 x (List.mem_of_getElem? ha)
    rw[k,e0] at this;omega
   | some y=>
    rw[ha,hb] at k;simp only[Option.getD_some] at k;rw[k]
 ·rw[List.getElem?_eq_none (by omega),List.getElem?_eq_none (by omega)]
theorem keyFor_inj {es fs:List Ent}(h1:es.length<=16)(h2:fs.length<=16)(f1:∀e ∈ es,Fits e)(f2:∀e ∈ fs,Fits e)(n1:∀e ∈ es,1<=e.1.size)(n2:∀e ∈ fs,1<=e.1.size)
  (h:keyFor Tryz.prog es=keyFor Tryz.prog fs):es=fs:=by
 have a:=keyOf_listing es h1 f1;have b:=keyOf_listing fs h2 f2;rw[<-h] at b
 have:=law58.inj a b
 exact listing_inj h1 h2 n1 n2 (by simpa using this)
variable {ft:PTail}
structure Ob where
 kind:Int
 data:ByteArray
 ea:Option Addr
 el:Nat
 ec:Nat
 ents:List Ent
 high:Int
def Ob.cells (o:Ob):List Value:=[.int .i64 o.kind,.string o.data,.slice o.ea o.el o.ec,.int .i64 o.high]
def obCells (objs:List Ob):List Value:=objs.flatMap Ob.cells
theorem obCells_get:∀(es:List Ob) (i j:Nat) (hi:i<es.length),j<4->(obCells es)[i*4+j]? = (es[i].cells)[j]?
 | [],i,j,hi,_=>by simp at hi
 | e :: r,0,j,_,hj=>by
  simp only[obCells,List.flatMap_cons,Nat.zero_mul,Nat.zero_add,List.getElem_cons_zero]
  rw[List.getElem?_append_left (by simpa [Ob.cells] using hj)]
 | e :: r,i+1,j,hi,hj=>by
  have ih:=obCells_get r i j (by simpa using hi) hj
  have h4:e.cells.length=4:=rfl
  simp only[obCells,List.flatMap_cons,List.getElem_cons_succ] at ih ⊢
  rw[List.getElem?_append_right (by rw[h4];omega),h4,<-ih]
  congr 1;omega
structure Pooled (ft:PTail)(w:World)(p:Nat)(a:Option Addr)(n cap bf bd:Nat)(objs:List Ob):Prop where
 at_:PoolAt ft w p a n cap bf bd
 row:w.ownsRow 0 213 4 (.slice a n cap) n (obCells objs)
 len:objs.length=n
 many:n<=400
theorem Pooled.below {w w':World}{p:Nat}{a:Option Addr}{n cap bf bd:Nat}{objs:List Ob}(h:Pooled ft w p a n cap bf bd objs)(hb:Below w.heap.size w w'):Pooled ft w' p a n cap bf bd objs:=
 ⟨h.at_.below hb,ownsRow_keep h.row (fun g hg=>hb.block g (ownsRow_lt h.row hg)),h.len,h.many⟩
theorem Pooled.cells {w:World}{p:Nat}{a:Option Addr}{n cap bf bd:Nat}{objs:List Ob}(h:Pooled ft w p a n cap bf bd objs){i:Nat}(hi:i<objs.length):
  ∃g,a=some ⟨g,0,none⟩/\g<w.heap.size/\w.cell? ⟨g,i*4,none⟩=some (.int .i64 objs[i].kind)/\w.cell? ⟨g,i*4+1,none⟩=some (.string objs[i].data)/\
   w.cell? ⟨g,i*4+2,none⟩=some (.slice objs[i].ea objs[i].el objs[i].ec)/\w.cell? ⟨g,i*4+3,none⟩=some (.int .i64 objs[i].high):=by
 have hn:i<n:=by rw[<-h.len];exact hi
 rcases h.row.2 with ⟨_,h0⟩ | ⟨g,cap',cur,hv,_,hg,_,_,hcur,ht⟩
 ·omega
 ·cases hv
  have key:∀j u,j<4->(objs[i].cells)[j]? = some u->w.cell? ⟨g,i*4+j,none⟩=some u:=by
   intro j u hj hu;rw[<-obCells_get objs i j hi hj,<-ht,List.getElem?_take_of_lt (by omega),Array.getElem?_toList] at hu;simp[World.cell?,hg,hu]
  exact⟨g,rfl,(Array.getElem?_eq_some_iff.1 hg).1,key 0 _ (by omega) rfl,key 1 _ (by omega) rfl,key 2 _ (by omega) rfl,key 3 _ (by omega) rfl⟩
def kindOf (objs:List Ob)(id:Int):Int:=if 1<=id then ((objs[(id-1).toNat]?).map (·.kind)).getD 0 else 0
def highOf (objs:List Ob)(id:Int):Int:=((objs[(id-1).toNat]?).map (·.high)).getD 0
theorem kindOf_in {objs:List Ob}{j:Nat}(hj:j<objs.length):kindOf objs ((j:Int)+1)=objs[j].kind:=by
 unfold kindOf;rw[if_pos (by omega),show ((j:Int)+1-1).toNat=j by omega,List.getElem?_eq_getElem hj];rfl
theorem highOf_in {objs:List Ob}{j:Nat}(hj:j<objs.length):highOf objs ((j:Int)+1)=objs[j].high:=by
 unfold highOf;rw[show ((j:Int)+1-1).toNat=j by omega,List.getElem?_eq_getElem hj];rfl
theorem kindOf_out {objs:List Ob}{id:Int}(h:id<1\/(objs.length:Int)<id):kindOf objs id=0:=by
 unfold kindOf;rcases h with h | h
 ·rw[if_neg (by omega)]
 ·rw[if_pos (by omega),List.getElem?_eq_none (by omega)];rfl
theorem kind_any (p:Nat)(a:Option Addr)(n cap bf bd:Nat)(objs:List Ob)(id:Int)(w:World)(h:Pooled ft w p a n cap bf bd objs):
  Calls Tryz.prog 61 #[.pointer (some ⟨p,0,none⟩),.int .i64 id] w fun e w'=>e=.returned (.int .i64 (kindOf objs id))/\Below w.heap.size w w':=by
 by_cases hid:id<1\/(n:Int)<id
 ·rw[kindOf_out (by rw[h.len];exact hid)]
  exact (kind_none p n cap a id w h.at_.c0 h.many hid).mono fun e w' ⟨he,hw⟩=>⟨he,by rw[hw];exact Below.refl _ _⟩
 ·obtain⟨j,rfl⟩:∃j:Nat,id=(j:Int)+1:=⟨(id-1).toNat,by omega⟩
  have hj:j<objs.length:=by rw[h.len];omega
  obtain⟨g,rfl,hg,c0,c1,c2,c3⟩:=h.cells hj;rw[kindOf_in hj];exact (kind_some p g n cap j _ _ _ _ _ _ w h.at_.lt hg h.at_.c0 (by omega) h.many c0 c1 c2 c3).mono fun e w' ⟨he,hw⟩=>⟨he,by rw[hw];exact (Below.refl _ _).alloc (Nat.le_refl _) _⟩
theorem at_in (p:Nat)(a:Option Addr)(n cap bf bd:Nat)(objs:List Ob)(j:Nat)(hj:j<objs.length)(w:World)(h:Pooled ft w p a n cap bf bd objs):
  Calls Tryz.prog 113 #[.pointer (some ⟨p,0,none⟩),.int .i64 ((j:Int)+1)] w fun e w'=>e=.returned (.agg #[.int .i64 objs[j].kind,.string objs[j].data,.slice objs[j].ea objs[j].el objs[j].ec,.int .i64 objs[j].high])/\Below w.heap.size w w':=by
 obtain⟨g,rfl,hg,c0,c1,c2,c3⟩:=h.cells hj;exact (at_any p g n cap j _ _ _ _ _ _ w h.at_.lt hg h.at_.c0 (by rw[<-h.len];exact hj) h.many c0 c1 c2 c3).mono fun e w' ⟨he,hw⟩=>⟨he,by rw[hw];exact (Below.refl _ _).alloc (Nat.le_refl _) _⟩
theorem height_in (p:Nat)(a:Option Addr)(n cap bf bd:Nat)(objs:List Ob)(j:Nat)(hj:j<objs.length)(w:World)(h:Pooled ft w p a n cap bf bd objs):
  Calls Tryz.prog 173 #[.pointer (some ⟨p,0,none⟩),.int .i64 ((j:Int)+1)] w fun e w'=>e=.returned (.int .i64 objs[j].high)/\Below w.heap.size w w':=by
 have hcon:=at_in p a n cap bf bd objs j hj w h;have f3:=fld3;go_enter Tryz.func173,Tryz.ntmps173;go_wp2_with (go_at_call 113;refine hcon.mono ?_;rintro e w' ⟨rfl,hb⟩);go_ret;exact⟨rfl,hb⟩
theorem file_any (p:Nat)(a:Option Addr)(n cap bf bd:Nat)(objs:List Ob)(id:Int)(w:World)(h:Pooled ft w p a n cap bf bd objs):
  Calls Tryz.prog 84 #[.pointer (some ⟨p,0,none⟩),.int .i64 id] w fun e w'=>Below w.heap.size w w'/\
   ((kindOf objs id≠1/\e=.returned (.tuple #[.string ByteArray.empty,.int .i64 13]))\/∃j,∃hj:j<objs.length,id=(j:Int)+1/\objs[j].kind=1/\e=.returned (.tuple #[.string objs[j].data,.int .i64 0])):=by
 by_cases hid:id<1\/(n:Int)<id
 ·exact (file_not p n cap a id w h.at_.c0 h.many hid).mono fun e w' ⟨he,hw⟩=>⟨by rw[hw];exact Below.refl _ _,.inl ⟨by rw[kindOf_out (by rw[h.len];exact hid)];decide,he⟩⟩
 ·obtain⟨j,rfl⟩:∃j:Nat,id=(j:Int)+1:=⟨(id-1).toNat,by omega⟩
  have hj:j<objs.length:=by rw[h.len];omega
  obtain⟨g,rfl,hg,c0,c1,c2,c3⟩:=h.cells hj;refine (file_some p g n cap j _ _ _ _ _ _ w h.at_.lt hg h.at_.c0 (by omega) h.many c0 c1 c2 c3).mono fun e w' ⟨he,hw⟩=>⟨hw,?_⟩;by_cases hk:objs[j].kind=1
  ·rw[if_pos hk] at he;exact .inr ⟨j,hj,rfl,hk,he⟩
  ·rw[if_neg hk] at he;exact .inl ⟨by rw[kindOf_in hj];exact hk,he⟩
variable {ft:PTail}
def goodE (objs:List Ob)(e:Ent):Bool:=!(kindOf objs e.2.2 == 0) && (kindOf objs e.2.2 == e.2.1)
def highs (objs:List Ob)(es:List Ent):Int:=es.foldl (fun h e=>max h (1+highOf objs e.2.2)) 0
theorem highs_snoc (objs:List Ob)(es:List Ent)(e:Ent):highs objs (es ++ [e])=max (highs objs es) (1+highOf objs e.2.2):=by
 simp only[highs,List.foldl_append,List.foldl_cons,List.foldl_nil]
def Measured (w w':World)(objs:List Ob)(es:List Ent)(e:Ending):Prop:=
  Below w.heap.size w w'/\
   (((∃x ∈ es,goodE objs x=false)/\e=.returned (.tuple #[.int .i64 0,.int .i64 13]))\/
    ((∀x ∈ es,goodE objs x=true)/\5<highs objs es/\e=.returned (.tuple #[.int .i64 0,.int .i64 11]))\/
    ((∀x ∈ es,goodE objs x=true)/\highs objs es<=5/\0<=highs objs es/\e=.returned (.tuple #[.int .i64 (highs objs es),.int .i64 0])))
theorem measure_some (p g cap':Nat)(a:Option Addr)(n cap bf bd m:Nat)(objs:List Ob)(es:List Ent)(w:World)(h:Pooled ft w p a n cap bf bd objs)(hl:es.length=m)(hm:m<=16)(hgl:g<w.heap.size)
  (hc:∀j u,(flat es)[j]? = some u->w.cell? ⟨g,0+j,none⟩=some u)(hh:∀o ∈ objs,0<=o.high/\o.high<=5):
  Calls Tryz.prog 110 #[.pointer (some ⟨p,0,none⟩),.slice (some ⟨g,0,none⟩) m cap'] w fun e w'=>Measured w w' objs es e:=by
 have HC:Hid (∀j u,(flat es)[j]? = some u->w.cell? ⟨g,0+j,none⟩=some u):=hc;have HL:Hid (es.length=m):=hl;have HH:Hid (∀o ∈ objs,0<=o.high/\o.high<=5):=hh;clear hc hl hh;go_enter Tryz.func110,Tryz.ntmps110;go_wp2
 go_loopw [6,12] (fun t i wr=>∃k:Nat,k<=m/\i=.int .i64 k/\t=.int .i64 (highs objs (es.take k))/\0<=highs objs (es.take k)/\highs objs (es.take k)<=6/\Below w.heap.size w wr/\Hid (∀j (hj:j<es.length),j<k->goodE objs es[j]=true)) (fun _ i _=>m-(intOf i).toNat)
 case atStart=>exact⟨0,Nat.zero_le _,rfl,rfl,Int.le_refl _,by show (0:Int)<=6;decide,Below.refl _ _,fun j hj h=>by omega⟩
 case round=>
  obtain⟨k,hk,rfl,rfl,h0,h6,hb,HV⟩:=hrel;by_cases hlt:k<m
  ·have hk':k<es.length:=by rw[HL.out];exact hlt
   obtain⟨c0,c1,c2⟩:=row_cells HC.out hk';rw[Nat.zero_add] at c0 c1 c2;have d0:=(hb.cell (p:=⟨g,k*3,none⟩) hgl).trans c0;have d1:=(hb.cell (p:=⟨g,k*3+1,none⟩) hgl).trans c1;have d2:=(hb.cell (p:=⟨g,k*3+2,none⟩) hgl).trans c2;have hgl':g<wr.heap.size:=Nat.lt_of_lt_of_le hgl hb.size;clear c0 c1 c2;have hkind:=fun (W:World) (hW:Below w.heap.size w W)=>kind_any p a n cap bf bd objs es[k].2.2 W (h.below hW);obtain⟨q,hq⟩:∃q,q=kindOf objs es[k].2.2:=⟨_,rfl⟩;have HQ:Hid (q=kindOf objs es[k].2.2):=hq;rw[<-hq] at hkind;clear hq;have box:=fun (W1:World) (X:Obj) (hW:Below (wr.alloc X).heap.size (wr.alloc X) W1) (o:Nat)=>hW.cell (p:=⟨wr.heap.size,o,none⟩) (by simp);cases hg1:(q == 0) with
   | true=>
    have HG:Hid (goodE objs es[k]=false):=by
     show goodE objs es[k]=false;unfold goodE;rw[<-HQ.out,hg1];rfl
    go_wp2_with (go_at_call 61;refine (hkind _ (hb.alloc hb.size _)).mono ?_;rintro e w1 ⟨rfl,hb1⟩);go_ret2;exact⟨(hb.alloc hb.size _).trans (hb1.mono (by simp;have:=hb.size;omega)),.inl ⟨⟨es[k],List.getElem_mem hk',HG.out⟩,rfl⟩⟩
   | false=>
    cases hg2:(q == es[k].2.1) with
    | false=>
     have HG:Hid (goodE objs es[k]=false):=by
      show goodE objs es[k]=false;unfold goodE;rw[<-HQ.out,hg1,hg2];rfl
     go_wp2_with (go_at_call 61;refine (hkind _ (hb.alloc hb.size _)).mono ?_;rintro e w1 ⟨rfl,hb1⟩;have b1:=box _ _ hb1 1;simp at b1);go_ret2;exact⟨(hb.alloc hb.size _).trans (hb1.mono (by simp;have:=hb.size;omega)),.inl ⟨⟨es[k],List.getElem_mem hk',HG.out⟩,rfl⟩⟩
    | true=>
     have HG:Hid (goodE objs es[k]=true):=by
      show goodE objs es[k]=true;unfold goodE;rw[<-HQ.out,hg1,hg2];rfl
     obtain⟨j,hj,he⟩:∃j:Nat,j<objs.length/\es[k].2.2=(j:Int)+1:=by
      by_cases hid:es[k].2.2<1\/(objs.length:Int)<es[k].2.2
      ·have:=HQ.out;rw[kindOf_out hid] at this;simp[this] at hg1
      ·exact⟨(es[k].2.2-1).toNat,by omega,by omega⟩
     have HJ:Hid (highOf objs es[k].2.2=objs[j].high):=by
      show highOf objs es[k].2.2=objs[j].high;rw[he];exact highOf_in hj
     have hat:=fun (W:World) (hW:Below w.heap.size w W)=>height_in p a n cap bf bd objs j hj W (h.below hW);rw[<-he] at hat;obtain⟨hj0,hj5⟩:=HH.out objs[j] (List.getElem_mem hj);have f3:=fld3;clear he;go_wp2_with (first
      | (go_at_call 61;refine (hkind _ (hb.alloc hb.size _)).mono ?_;rintro e w1 ⟨rfl,hb1⟩;have b1:=box _ _ hb1 1;have b2:=box _ _ hb1 2;simp at b1 b2;have hbw:=(hb.alloc hb.size _).trans (hb1.mono (by simp;have:=hb.size;omega)))
      | (go_at_call 173;refine (hat _ hbw).mono ?_;rintro e w2 ⟨rfl,hb2⟩))
     have hst:highs objs (es.take (k+1))=max (highs objs (es.take k)) (1+objs[j].high):=by
      rw[List.take_succ_eq_append_getElem hk',highs_snoc,HJ.out]
     go_roundw
     case rel=>
      refine⟨k+1,by omega,by go_num,by rw[hst],by rw[hst];omega,by rw[hst];omega,hbw.trans (hb2.mono hbw.size),?_⟩;intro i hi hik;by_cases e:i=k
      ·subst e;exact HG.out
      ·exact HV.out i hi (by omega)
     case measure=>simp[intOf];omega
  ·have hkm:k=m:=by omega
   have HVA:Hid (∀x ∈ es,goodE objs x=true):=by
    intro x hx;obtain⟨j,hj,rfl⟩:=List.getElem_of_mem hx;exact HV.out j hj (by rw[hkm,<-HL.out];exact hj)
   have HT:Hid (es.take k=es):=List.take_of_length_le (by rw[HL.out];omega);rw[HT.out] at h0 h6 ⊢;by_cases h5:5<highs objs es
   ·go_wp2
    go_ret2;exact⟨hb,.inr (.inl ⟨HVA.out,h5,rfl⟩)⟩
   ·go_wp2
    go_ret2;exact⟨hb,.inr (.inr ⟨HVA.out,by omega,h0,rfl⟩)⟩
variable {ft:PTail}
theorem dir_not (p:Nat)(a:Option Addr)(n cap bf bd:Nat)(objs:List Ob)(id:Int)(w:World)(h:Pooled ft w p a n cap bf bd objs)(hk:kindOf objs id≠2):
  Calls Tryz.prog 85 #[.pointer (some ⟨p,0,none⟩),.int .i64 id] w fun e w'=>e=.returned (.tuple #[.slice none 0 0,.int .i64 13])/\Below w.heap.size w w':=by
 have hcon:=kind_any p a n cap bf bd objs id w h;obtain⟨q,hq⟩:∃q,q=kindOf objs id:=⟨_,rfl⟩;rw[<-hq] at hcon hk;have hk':(q == 2)=false:=by simpa using hk
 clear hq hk;go_enter Tryz.func85,Tryz.ntmps85;go_wp2_with (go_at_call 61;refine hcon.mono ?_;rintro e w' ⟨rfl,hb⟩);go_ret2;exact⟨rfl,hb⟩
theorem made_block {w:World}{g m:Nat}{xs:List Value}(h:w.ownsRow 0 96 3 (.slice (some ⟨g,0,none⟩) m m) m xs):∃cur,Hid (w.heap[g]? = some (.cells cur 96 (0,0)))/\Hid (cur.size=m*3):=by
 rcases h.2 with ⟨h0,_⟩ | ⟨g',cap',cur,hv,_,hg,_,_,hcur,_⟩
 ·cases h0
 ·cases hv;exact⟨cur,hg,hcur⟩
theorem grown_none {w w2 w3:World}(hb:Below w.heap.size w w2)(hg:w2.grownBy w3 none):Hid (Below w.heap.size w w3):=hb.grown hg hb.size (fun k h=>by cases h)
theorem src_cells {w w3:World}{g:Nat}{es:List Ent}(hb:Below w.heap.size w w3)(hgl:g<w.heap.size)(hc:∀j u,(flat es)[j]? = some u->w.cell? ⟨g,0+j,none⟩=some u):∀j v,(flat es)[j]? = some v->w3.cell? ((⟨g,0,none⟩:Addr).add j)=some v:=by
 intro j v h;have h2:(⟨g,0,none⟩:Addr).add j=⟨g,0+j,none⟩:=by unfold Addr.add;split <;> simp_all
 rw[h2,hb.cell (p:=⟨g,0+j,none⟩) hgl,hc j v h]
theorem dir_some (p:Nat)(a:Option Addr)(n cap bf bd:Nat)(objs:List Ob)(j g m c:Nat)(es:List Ent)(hj:j<objs.length)(w:World)(h:Pooled ft w p a n cap bf bd objs)(hk:objs[j].kind=2)
  (hea:objs[j].ea=some ⟨g,0,none⟩)(hel:objs[j].el=m)(hec:objs[j].ec=c)(hm:m<=16)(hl:es.length=m)(hgl:g<w.heap.size)(hc:∀j u,(flat es)[j]? = some u->w.cell? ⟨g,0+j,none⟩=some u):
  Calls Tryz.prog 85 #[.pointer (some ⟨p,0,none⟩),.int .i64 ((j:Int)+1)] w fun e w'=>∃g',e=.returned (.tuple #[.slice (some ⟨g',0,none⟩) m m,.int .i64 0])/\w'.ownsRow w.heap.size 96 3 (.slice (some ⟨g',0,none⟩) m m) m (flat es)/\Below w.heap.size w w':=by
 have hcon:=kind_any p a n cap bf bd objs ((j:Int)+1) w h;rw[kindOf_in hj,hk] at hcon;have hat:=fun (W:World) (hW:Below w.heap.size w W)=>at_in p a n cap bf bd objs j hj W (h.below hW);rw[hea,hel,hec] at hat;have f2:=fld2;obtain⟨i0,hi,hz0,hz1,hz2⟩:=info_parts info34;have HC:Hid (∀j u,(flat es)[j]? = some u->w.cell? ⟨g,0+j,none⟩=some u):=hc;have HL:Hid (es.length=m):=hl;clear hc hl hea hel hec hk;go_enter Tryz.func85,Tryz.ntmps85;go_wp2_with (first
  | (go_at_call 61;refine hcon.mono ?_;rintro e w1 ⟨rfl,hb1⟩)
  | (go_at_call 113;refine (hat _ hb1).mono ?_;rintro e w2 ⟨rfl,hb2⟩)
  | (at_make;refine wpList_make_full _ rfl _ _ 55 rfl 0 96 i0 _ 3 Tryz.underlying55 hi hz0 hz1 .i64 .i64 _ _ m rfl rfl rfl rfl ?_ ?_ (Nat.zero_le _) ?_;go_must (rw[hz2];omega);go_must (unfold maxLen;omega);intro w3 hown3 hg3;obtain⟨cur,HB,HCS⟩:=made_block hown3;have hbw:=hb1.trans (hb2.mono hb1.size);have HB3:=grown_none hbw hg3)
  | (refine wpList_copyK rfl (.tmp 19) (.tmp 20) 55 55 rfl 96 Tryz.underlying55 3 info34s w2.heap.size 0 m m ⟨g,0,none⟩ m c rfl rfl cur 96 HB.out (flat es) ?_ ?_ ?_ (flat_one es) (flat es).toArray ?_ ?_;go_must (rw[flat_len,HL.out];exact congrArg (· * 3) (Nat.min_self m).symm);go_must (exact src_cells (HB3.out) hgl HC.out);go_must (rw[flat_len,HL.out,HCS.out];omega);go_must (simp only[List.take_zero,List.nil_append,Nat.zero_add];rw[List.drop_eq_nil_of_le (by rw[flat_len,HL.out,Array.length_toList,HCS.out];exact Nat.le_refl _),List.append_nil]);intro w4 H4 hg4))
 go_ret2;have hsz2:=hbw.size;refine⟨w2.heap.size,rfl,⟨by rw[flat_len,HL.out],.inr ⟨w2.heap.size,m,(flat es).toArray,rfl,hsz2,H4.out,Nat.le_refl _,by unfold maxLen;omega,by simp[flat_len,HL.out],?_⟩⟩,?_⟩
 ·simp only
  exact List.take_of_length_le (by rw[flat_len,HL.out];exact Nat.le_refl _)
 ·exact HB3.out.grown hg4 HB3.out.size (fun k h=>by cases h;exact hsz2)
end Go.Proofs.YtlgidcmmgohagaaGreat
