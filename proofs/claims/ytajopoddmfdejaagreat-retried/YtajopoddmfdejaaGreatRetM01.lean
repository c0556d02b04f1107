/-
  What is proved here: the library's functions that this program calls are, at its own numbers, those that the shelf's contracts speak of: strings.Compare, strings.IndexByte, the cloning of a string, ..
-/
import Derived.Shelf.Small.Bits
import Derived.Shelf.Small.Strs
import Derived.Shelf.Strconv.Itoa0
import Derived.Shelf.LaysM
import Derived.Shelf.Strconv.Clone
import Derived.Shelf.Strings.Search1
import Derived.Shelf.SlGeneric
import Derived.Shelf.SlSortCmp.SmallK
import Derived.Shelf.SlicesE.Clone
import Derived.Ground.SlsfProg
import Derived.Ground.SlgnProg
import Derived.Test.YtajopoddmfdejaaGreatProg
import Derived.WalkKit
import Derived.WalkSpells
import Derived.WalkLawsBesides
import Derived.Maps.OwnSet
import Derived.Maps.AppendAt
import Derived.Deep.RegionLawGrows
import Derived.Shelf.SlSortCmp.WholeK
import Derived.Sort.OwnSorted
import Derived.Deep.QuietTactic
import Derived.BigQuiet
namespace Go.Proofs
open Go.Shelf
def Tryz.lays106_ren:Go.Shelf.Ren:=⟨fun | 106=>122 | 213=>151 | 265=>184 | n=>n,fun | 9=>9 | 3=>3 | n=>n,fun | n=>n⟩
theorem Tryz.lays106:Go.Proofs.Lays.n106 Tryz.prog Tryz.lays106_ren:={
 mixed:=by kernel_rfl
 f106:=Tryz.func122.trans (congrArg some (by kernel_rfl))
 f213:=Tryz.func151.trans (congrArg some (by kernel_rfl))
 f265:=Tryz.func184.trans (congrArg some (by kernel_rfl))
 t3:=Tryz.underlying3
 a3:=Tryz.isAgg3
 z3:=Tryz.sizeOf3
 v3:=Tryz.zeroValue3
 t9:=Tryz.underlying9
 a9:=Tryz.isAgg9
 z9:=Tryz.sizeOf9
 v9:=Tryz.zeroValue9 }
open Go.RowKit in
theorem Tryz.strings_Compare (a b:ByteArray)(w:World):
  Calls Tryz.prog 122 #[.string a,.string b] w fun e w'=>e=.returned (.int .i64 (Lib.compareBytes a.data.toList b.data.toList))/\w'=w:=Any.strings_Compare Tryz.lays106 a b w
def Tryz.lays137_ren:Go.Shelf.Ren:=⟨fun | 137=>116 | 217=>149 | 266=>183 | n=>n,fun | 9=>9 | 5=>5 | 3=>3 | n=>n,fun | n=>n⟩
theorem Tryz.lays137:Go.Proofs.Lays.n137 Tryz.prog Tryz.lays137_ren:={
 mixed:=by kernel_rfl
 f137:=Tryz.func116.trans (congrArg some (by kernel_rfl))
 f217:=Tryz.func149.trans (congrArg some (by kernel_rfl))
 f266:=Tryz.func183.trans (congrArg some (by kernel_rfl))
 t3:=Tryz.underlying3
 a3:=Tryz.isAgg3
 z3:=Tryz.sizeOf3
 v3:=Tryz.zeroValue3
 t5:=Tryz.underlying5
 a5:=Tryz.isAgg5
 z5:=Tryz.sizeOf5
 v5:=Tryz.zeroValue5
 t9:=Tryz.underlying9
 a9:=Tryz.isAgg9
 z9:=Tryz.sizeOf9
 v9:=Tryz.zeroValue9 }
open Go.RowKit in
theorem Tryz.strings_IndexByte (s:ByteArray)(c:Int)(w:World):
  Calls Tryz.prog 116 #[.string s,.int .u8 c] w fun e w'=>e=.returned (.int .i64 (Lib.indexByte s.data.toList c.toNat.toUInt8))/\w'=w:=Any.strings_IndexByte Tryz.lays137 s c w
def Tryz.laysM316_ren:Go.Shelf.Ren:=⟨fun | 316=>117 | n=>n,fun | 9=>9 | 3=>3 | 4=>4 | 37=>228 | 0=>0 | 127=>229 | 5=>5 | n=>n,fun | n=>n⟩
theorem Tryz.laysM316:Go.Proofs.LaysM.n316 Tryz.prog Tryz.laysM316_ren:={
 mixed:=by kernel_rfl
 f316:=Tryz.func117.trans (congrArg some (by kernel_rfl))
 t0:=Tryz.underlying0
 a0:=Tryz.isAgg0
 z0:=Tryz.sizeOf0
 v0:=Tryz.zeroValue0
 t3:=Tryz.underlying3
 a3:=Tryz.isAgg3
 z3:=Tryz.sizeOf3
 v3:=Tryz.zeroValue3
 t4:=Tryz.underlying4
 a4:=Tryz.isAgg4
 z4:=Tryz.sizeOf4
 v4:=Tryz.zeroValue4
 t9:=Tryz.underlying9
 a9:=Tryz.isAgg9
 z9:=Tryz.sizeOf9
 v9:=Tryz.zeroValue9
 t37:=Tryz.underlying228
 a37:=Tryz.isAgg228
 z37:=Tryz.sizeOf228
 v37:=Tryz.zeroValue228
 t127:=Tryz.underlying229
 a127:=Tryz.isAgg229
 z127:=Tryz.sizeOf229
 v127:=Tryz.zeroValue229
 t5:=Tryz.underlying5
 a5:=Tryz.isAgg5
 z5:=Tryz.sizeOf5
 v5:=Tryz.zeroValue5
 i0:=by kernel_rfl
 i3:=by kernel_rfl
 i4:=by kernel_rfl
 i5:=by kernel_rfl
 i9:=by kernel_rfl
 i37:=by kernel_rfl
 i127:=by kernel_rfl }
open Go.RowKit in
theorem Tryz.stringslite_Clone (s:ByteArray)(w:World)(hlim:s.size<=281474976710656):
  Calls Tryz.prog 117 #[.string s] w fun e w'=>e=.returned (.string s)/\Below w.heap.size w w':=Any.stringslite_Clone Tryz.laysM316 s w hlim
def Tryz.lays217_ren:Go.Shelf.Ren:=⟨fun | 217=>149 | 266=>183 | n=>n,fun | 9=>9 | 5=>5 | 3=>3 | n=>n,fun | n=>n⟩
theorem Tryz.lays217:Go.Proofs.Lays.n217 Tryz.prog Tryz.lays217_ren:={
 mixed:=by kernel_rfl
 f217:=Tryz.func149.trans (congrArg some (by kernel_rfl))
 f266:=Tryz.func183.trans (congrArg some (by kernel_rfl))
 t3:=Tryz.underlying3
 a3:=Tryz.isAgg3
 z3:=Tryz.sizeOf3
 v3:=Tryz.zeroValue3
 t5:=Tryz.underlying5
 a5:=Tryz.isAgg5
 z5:=Tryz.sizeOf5
 v5:=Tryz.zeroValue5
 t9:=Tryz.underlying9
 a9:=Tryz.isAgg9
 z9:=Tryz.sizeOf9
 v9:=Tryz.zeroValue9 }
open Go.RowKit Go.Lib in
theorem Tryz.stringslite_IndexByte (s:ByteArray)(c:Int)(w:World):
  Calls Tryz.prog 149 #[.string s,.int .u8 c] w fun e w'=>e=.returned (.int .i64 (Lib.indexByte s.data.toList c.toNat.toUInt8))/\w'=w:=Any.stringslite_IndexByte Tryz.lays217 s c w
def Tryz.sortE_ren:Go.Shelf.Ren:=⟨fun | 6=>112 | 15=>141 | 14=>147 | 28=>167 | 29=>168 | 20=>172 | 21=>173 | 22=>174 | 23=>175 | 24=>176 | 25=>177 | 26=>178 | 27=>179 | 46=>192 | 47=>188 | 48=>189 | 49=>193 | 50=>194 | 57=>201 | n=>n,fun | 22=>72 | 24=>76 | 25=>189 | 3=>3 | 39=>215 | 0=>0 | 53=>247 | 55=>249 | 4=>4 | 46=>241 | 45=>240 | 50=>150 | 5=>5 | 9=>9 | 66=>259 | 70=>263 | 76=>278 | 77=>279 | n=>n,fun | n=>n⟩
theorem Tryz.sortE:Go.Proofs.SlLaysF0.n6 Tryz.prog Tryz.sortE_ren:={
 mixed:=by kernel_rfl
 f6:=⟨Tryz.f112.name,by decide,Tryz.func112.trans (congrArg some (by kernel_rfl))⟩
 f14:=⟨Tryz.f147.name,by decide,Tryz.func147.trans (congrArg some (by kernel_rfl))⟩
 f15:=Tryz.func141.trans (congrArg some (by kernel_rfl))
 f20:=⟨Tryz.f172.name,by decide,Tryz.func172.trans (congrArg some (by kernel_rfl))⟩
 f21:=⟨Tryz.f173.name,by decide,Tryz.func173.trans (congrArg some (by kernel_rfl))⟩
 f22:=⟨Tryz.f174.name,by decide,Tryz.func174.trans (congrArg some (by kernel_rfl))⟩
 f23:=⟨Tryz.f175.name,by decide,Tryz.func175.trans (congrArg some (by kernel_rfl))⟩
 f24:=⟨Tryz.f176.name,by decide,Tryz.func176.trans (congrArg some (by kernel_rfl))⟩
 f25:=⟨Tryz.f177.name,by decide,Tryz.func177.trans (congrArg some (by kernel_rfl))⟩
 f26:=⟨Tryz.f178.name,by decide,Tryz.func178.trans (congrArg some (by kernel_rfl))⟩
 f27:=⟨Tryz.f179.name,by decide,Tryz.func179.trans (congrArg some (by kernel_rfl))⟩
 f28:=Tryz.func167.trans (congrArg some (by kernel_rfl))
 f29:=Tryz.func168.trans (congrArg some (by kernel_rfl))
 f46:=⟨Tryz.f192.name,by decide,Tryz.func192.trans (congrArg some (by kernel_rfl))⟩
 f47:=Tryz.func188.trans (congrArg some (by kernel_rfl))
 f48:=Tryz.func189.trans (congrArg some (by kernel_rfl))
 f49:=⟨Tryz.f193.name,by decide,Tryz.func193.trans (congrArg some (by kernel_rfl))⟩
 f50:=⟨Tryz.f194.name,by decide,Tryz.func194.trans (congrArg some (by kernel_rfl))⟩
 f57:=⟨Tryz.f201.name,by decide,Tryz.func201.trans (congrArg some (by kernel_rfl))⟩
 t0:=Tryz.underlying0
 a0:=Tryz.isAgg0
 z0:=Tryz.sizeOf0
 v0:=Tryz.zeroValue0
 t3:=Tryz.underlying3
 a3:=Tryz.isAgg3
 z3:=Tryz.sizeOf3
 v3:=Tryz.zeroValue3
 t4:=Tryz.underlying4
 a4:=Tryz.isAgg4
 z4:=Tryz.sizeOf4
 v4:=Tryz.zeroValue4
 t5:=Tryz.underlying5
 a5:=Tryz.isAgg5
 z5:=Tryz.sizeOf5
 v5:=Tryz.zeroValue5
 t9:=Tryz.underlying9
 a9:=Tryz.isAgg9
 z9:=Tryz.sizeOf9
 v9:=Tryz.zeroValue9
 t22:=Tryz.underlying72
 a22:=Tryz.isAgg72
 z22:=Tryz.sizeOf72
 v22:=Tryz.zeroValue72
 t25:=Tryz.underlying189
 a25:=Tryz.isAgg189
 z25:=Tryz.sizeOf189
 v25:=Tryz.zeroValue189
 t39:=Tryz.underlying215
 a39:=Tryz.isAgg215
 z39:=Tryz.sizeOf215
 v39:=Tryz.zeroValue215
 t45:=Tryz.underlying240
 a45:=Tryz.isAgg240
 z45:=Tryz.sizeOf240
 v45:=Tryz.zeroValue240
 t46:=Tryz.underlying241
 a46:=Tryz.isAgg241
 z46:=Tryz.sizeOf241
 v46:=Tryz.zeroValue241
 t50:=Tryz.underlying150
 a50:=Tryz.isAgg150
 z50:=Tryz.sizeOf150
 v50:=Tryz.zeroValue150
 t53:=Tryz.underlying247
 a53:=Tryz.isAgg247
 z53:=Tryz.sizeOf247
 v53:=Tryz.zeroValue247
 t55:=Tryz.underlying249
 a55:=Tryz.isAgg249
 z55:=Tryz.sizeOf249
 v55:=Tryz.zeroValue249
 t66:=Tryz.underlying259
 a66:=Tryz.isAgg259
 z66:=Tryz.sizeOf259
 v66:=Tryz.zeroValue259
 t70:=Tryz.underlying263
 a70:=Tryz.isAgg263
 z70:=Tryz.sizeOf263
 v70:=Tryz.zeroValue263
 t76:=Tryz.underlying278
 a76:=Tryz.isAgg278
 z76:=Tryz.sizeOf278
 v76:=Tryz.zeroValue278
 t77:=Tryz.underlying279
 a77:=Tryz.isAgg279
 z77:=Tryz.sizeOf279
 v77:=Tryz.zeroValue279 }
def Tryz.cloneE_ren:Go.Shelf.Ren:=⟨fun | 41=>111 | n=>n,fun | 22=>72 | 23=>76 | 4=>4 | n=>n,fun | n=>n⟩
theorem Tryz.cloneE:Go.Proofs.SlLaysE0.n41 Tryz.prog Tryz.cloneE_ren:={
 mixed:=by kernel_rfl
 f41:=⟨Tryz.f111.name,by decide,Tryz.func111.trans (congrArg some (by kernel_rfl))⟩
 t4:=Tryz.underlying4
 a4:=Tryz.isAgg4
 z4:=Tryz.sizeOf4
 v4:=Tryz.zeroValue4
 t22:=Tryz.underlying72
 a22:=Tryz.isAgg72
 z22:=Tryz.sizeOf72
 v22:=Tryz.zeroValue72 }
def Tryz.cloneI_ren:Go.Shelf.Ren:=⟨fun | 41=>101 | n=>n,fun | 22=>64 | 23=>26 | 4=>4 | n=>n,fun | n=>n⟩
theorem Tryz.cloneI:Go.Proofs.SlLaysE0.n41 Tryz.prog Tryz.cloneI_ren:={
 mixed:=by kernel_rfl
 f41:=⟨Tryz.f101.name,by decide,Tryz.func101.trans (congrArg some (by kernel_rfl))⟩
 t4:=Tryz.underlying4
 a4:=Tryz.isAgg4
 z4:=Tryz.sizeOf4
 v4:=Tryz.zeroValue4
 t22:=Tryz.underlying64
 a22:=Tryz.isAgg64
 z22:=Tryz.sizeOf64
 v22:=Tryz.zeroValue64 }
end Go.Proofs
namespace Go.Proofs.YtajopoddmfdejaaGreat
open Go.RowKit
set_option linter.unusedVariables false
theorem fld0 (c0 c1 c2 c3:Value)(w:World):(Instr.field 145 (.agg #[c0,c1,c2,c3]) 0).run Tryz.prog w=.ok c0 w:=by kernel_rfl
theorem fld1 (c0 c1 c2 c3:Value)(w:World):(Instr.field 145 (.agg #[c0,c1,c2,c3]) 1).run Tryz.prog w=.ok c1 w:=by kernel_rfl
theorem fld2 (c0 c1 c2 c3:Value)(w:World):(Instr.field 145 (.agg #[c0,c1,c2,c3]) 2).run Tryz.prog w=.ok c2 w:=by kernel_rfl
theorem fld3 (c0 c1 c2 c3:Value)(w:World):(Instr.field 145 (.agg #[c0,c1,c2,c3]) 3).run Tryz.prog w=.ok c3 w:=by kernel_rfl
set_option maxRecDepth 100000 in
set_option maxHeartbeats 400000 in
theorem at_any (p g n cap j:Nat)(k:Int)(d:ByteArray)(ea:Option Addr)(el ec:Nat)(h:Int)(w:World)(hp:p<w.heap.size)(hg:g<w.heap.size)(h0:w.cell? ⟨p,0,none⟩=some (.slice (some ⟨g,0,none⟩) n cap))
  (hn:j<n)(hm:n<=400)
  (k0:w.cell? ⟨g,j*4,none⟩=some (.int .i64 k))(k1:w.cell? ⟨g,j*4+1,none⟩=some (.string d))(k2:w.cell? ⟨g,j*4+2,none⟩=some (.slice ea el ec))(k3:w.cell? ⟨g,j*4+3,none⟩=some (.int .i64 h)):
  Calls Tryz.prog 102 #[.pointer (some ⟨p,0,none⟩),.int .i64 ((j:Int)+1)] w fun e w'=>e=.returned (.agg #[.int .i64 k,.string d,.slice ea el ec,.int .i64 h])/\w'=w.alloc (.cells #[.int .i64 k,.string d,.slice ea el ec,.int .i64 h] 145):=by
 have e1:((j:Int)+1-1)=j:=by omega
 go_enter Tryz.func102,Tryz.ntmps102
 go_wp2
 exact bodyPost_ret (v:=.agg #[.int .i64 k,.string d,.slice ea el ec,.int .i64 h]) (by simp[results,Tryz.results102,go_sem]) rfl ⟨rfl,rfl⟩
set_option maxRecDepth 100000 in
set_option maxHeartbeats 400000 in
theorem kind_none (p n cap:Nat)(a:Option Addr)(id:Int)(w:World)(h0:w.cell? ⟨p,0,none⟩=some (.slice a n cap))(hm:n<=400)(hid:id<1\/(n:Int)<id):
  Calls Tryz.prog 61 #[.pointer (some ⟨p,0,none⟩),.int .i64 id] w fun e w'=>e=.returned (.int .i64 0)/\w'=w:=by
 by_cases h1:id<1
 ·go_enter Tryz.func61,Tryz.ntmps61
  go_wp2
  go_ret
  exact⟨rfl,rfl⟩
 ·have h2:(n:Int)<id:=by omega
  go_enter Tryz.func61,Tryz.ntmps61
  go_wp2
  go_ret
  exact⟨rfl,rfl⟩
set_option maxRecDepth 100000 in
set_option maxHeartbeats 400000 in
theorem kind_some (p g n cap j:Nat)(k:Int)(d:ByteArray)(ea:Option Addr)(el ec:Nat)(h:Int)(w:World)(hp:p<w.heap.size)(hg:g<w.heap.size)(h0:w.cell? ⟨p,0,none⟩=some (.slice (some ⟨g,0,none⟩) n cap))
  (hn:j<n)(hm:n<=400)
  (k0:w.cell? ⟨g,j*4,none⟩=some (.int .i64 k))(k1:w.cell? ⟨g,j*4+1,none⟩=some (.string d))(k2:w.cell? ⟨g,j*4+2,none⟩=some (.slice ea el ec))(k3:w.cell? ⟨g,j*4+3,none⟩=some (.int .i64 h)):
  Calls Tryz.prog 61 #[.pointer (some ⟨p,0,none⟩),.int .i64 ((j:Int)+1)] w fun e w'=>e=.returned (.int .i64 k)/\w'=w.alloc (.cells #[.int .i64 k,.string d,.slice ea el ec,.int .i64 h] 145):=by
 have hcon:=fun W hp hg h0 k0 k1 k2 k3=>at_any p g n cap j k d ea el ec h W hp hg h0 hn hm k0 k1 k2 k3
 have t1:¬ ((j:Int)+1<1):=by omega
 have f0:=fld0
 have t2:¬ ((n:Int)<(j:Int)+1):=by omega
 go_enter Tryz.func61,Tryz.ntmps61
 go_wp2_with (go_at_call 102;refine (hcon _ hp hg h0 k0 k1 k2 k3).mono ?_;rintro e w' ⟨rfl,rfl⟩)
 go_ret
 exact⟨rfl,rfl⟩
set_option maxRecDepth 100000 in
set_option maxHeartbeats 400000 in
theorem file_not (p n cap:Nat)(a:Option Addr)(id:Int)(w:World)(h0:w.cell? ⟨p,0,none⟩=some (.slice a n cap))(hm:n<=400)(hid:id<1\/(n:Int)<id):
  Calls Tryz.prog 58 #[.pointer (some ⟨p,0,none⟩),.int .i64 id] w fun e w'=>e=.returned (.tuple #[.string ByteArray.empty,.int .i64 13])/\w'=w:=by
 have hcon:=kind_none p n cap a id w h0 hm hid
 go_enter Tryz.func58,Tryz.ntmps58
 go_wp2_with (go_at_call 61;refine hcon.mono ?_;rintro e w' ⟨rfl,rfl⟩)
 go_ret2
 exact⟨rfl,rfl⟩
set_option maxRecDepth 100000 in
set_option maxHeartbeats 400000 in
theorem file_some (p g n cap j:Nat)(k:Int)(d:ByteArray)(ea:Option Addr)(el ec:Nat)(h:Int)(w:World)(hp:p<w.heap.size)(hg:g<w.heap.size)(h0:w.cell? ⟨p,0,none⟩=some (.slice (some ⟨g,0,none⟩) n cap))
  (hn:j<n)(hm:n<=400)
  (k0:w.cell? ⟨g,j*4,none⟩=some (.int .i64 k))(k1:w.cell? ⟨g,j*4+1,none⟩=some (.string d))(k2:w.cell? ⟨g,j*4+2,none⟩=some (.slice ea el ec))(k3:w.cell? ⟨g,j*4+3,none⟩=some (.int .i64 h)):
  Calls Tryz.prog 58 #[.pointer (some ⟨p,0,none⟩),.int .i64 ((j:Int)+1)] w fun e w'=>e=.returned (if k=1 then .tuple #[.string d,.int .i64 0] else .tuple #[.string ByteArray.empty,.int .i64 13])/\Below w.heap.size w w':=by
 have hkind:=kind_some p g n cap j k d ea el ec h w hp hg h0 hn hm k0 k1 k2 k3
 have hcon:=fun W hp hg h0 k0 k1 k2 k3=>at_any p g n cap j k d ea el ec h W hp hg h0 hn hm k0 k1 k2 k3
 by_cases hk:k=1
 ·subst hk
  rw[if_pos rfl]
  have hb:∀ b o,b<w.heap.size->(w.alloc (.cells #[.int .i64 1,.string d,.slice ea el ec,.int .i64 h] 145)).cell? ⟨b,o,none⟩=w.cell? ⟨b,o,none⟩:=fun b o hb=>World.cell?_alloc_past _ _ _ hb
  have f1:=fld1
  go_enter Tryz.func58,Tryz.ntmps58
  go_wp2_with (first
   | (go_at_call 61;refine hkind.mono ?_;rintro e w' ⟨rfl,rfl⟩)
   | (go_at_call 102;refine (hcon _ (by simp;omega) (by simp;omega) (by rw[hb _ _ hp];exact h0) (by rw[hb _ _ hg];exact k0) (by rw[hb _ _ hg];exact k1) (by rw[hb _ _ hg];exact k2) (by rw[hb _ _ hg];exact k3)).mono ?_;rintro e w' ⟨rfl,rfl⟩))
  go_ret2
  exact⟨rfl,((Below.refl _ _).alloc (Nat.le_refl _) _).alloc (by simp) _⟩
 ·rw[if_neg hk]
  have hk':(k == 1)=false:=by simpa using hk
  go_enter Tryz.func58,Tryz.ntmps58
  go_wp2_with (go_at_call 61;refine hkind.mono ?_;rintro e w' ⟨rfl,rfl⟩)
  go_ret2
  exact⟨rfl,((Below.refl _ _).alloc (Nat.le_refl _) _)⟩
set_option maxRecDepth 100000 in
set_option maxHeartbeats 400000 in
theorem newPool_any (w:World):
  Calls Tryz.prog 60 #[] w fun e w'=>e=.returned (.pointer (some ⟨w.heap.size+2,0,none⟩))/\w'=((w.alloc (.map #[] 0)).alloc (.map #[] 0)).alloc (.cells #[.slice none 0 0,.map (some w.heap.size),.map (some (w.heap.size+1)),.slice none 0 0,.bool false] 136):=by
 have hmm:=@run_makeMap Tryz.prog
 go_enter Tryz.func60,Tryz.ntmps60
 go_wp2
 go_ret
 exact⟨rfl,rfl⟩
set_option maxRecDepth 100000 in
set_option maxHeartbeats 400000 in
theorem newStore_any (w:World):
  Calls Tryz.prog 39 #[] w fun e w'=>e=.returned (.pointer (some ⟨w.heap.size+3,0,none⟩))/\w'=(((w.alloc (.map #[] 0)).alloc (.map #[] 0)).alloc (.cells #[.slice none 0 0,.map (some w.heap.size),.map (some (w.heap.size+1)),.slice none 0 0,.bool false] 136)).alloc (.cells #[.pointer (some ⟨w.heap.size+2,0,none⟩)] 102):=by
 go_enter Tryz.func39,Tryz.ntmps39
 go_wp2_with (go_at_call 60;refine (newPool_any _).mono ?_;rintro e w' ⟨rfl,rfl⟩)
 go_ret
 exact⟨rfl,rfl⟩
theorem step_append_own_at {P:Program}{ops:Array Oper}{o:Oper}{a:Act}{w:World}{K:Act->World->Prop}{Q:Exit->Act->World->Prop}{E:Prop}
  (hg:o.guard=none)(s x:Operand)(t:TypeId)(hop:o.op=Op.call { callee:=Callee.builtin Builtin.append,args:=#[s,x],argTypes:=#[t,t] })
  (base:Nat)(e:TypeId)(i:TypeInfo)(z:Value)(size bytes:Nat)(h1:P.underlying t=some (.slice e))(h2:P.info? e=some i)(h3:i.zero=some z)(h4:i.size=size)(h5:i.bytes=bytes)(h6:z.cells.size=size)(h7:0<size)
  (v:Value)(n:Nat)(olds:List Value)(hs:a.eval s=v)(hown:w.ownsRow base e size v n olds)
  (ad:Addr)(m c:Nat)(news:List Value)(hx:a.eval x=.slice (some ad) m c)(hn:news.length=m*size)(hc:∀ j u,news[j]? = some u->w.cell? (ad.add j)=some u)(h1c:∀ u ∈ news,u.oneCell'=true)
  (b1:n+m<=maxLen)(b2:(n+m)*bytes<=140737488355328)(hbase:base<=w.heap.size)
  (hK:∀ v' w',w'.ownsRow base e size v' (n+m) (olds++news)->w.grownBy w' v.ownBlock->(v'.ownBlock=v.ownBlock\/v'.ownBlock=some w.heap.size)->K (a.put o.dst v') w'):
  if Region.wanted o (yielded ops a.tmps)=true then Oper.wp P o a w K Q else E:=by
 have hw:Region.wanted o (yielded ops a.tmps)=true:=by simp[Region.wanted,hg]
 rw[if_pos hw]
 obtain⟨v',w',hrun,r1,r2,_,r3⟩:=run_append_own_at (P:=P) w base t o.type e i z size bytes h1 h2 h3 h4 h5 h6 h7 v n olds hown ad m c news hn hc h1c b1 b2 hbase
 unfold Oper.wp
 simp[execOp,hop,resolve,invoke,builtin,hs,hx,hrun,Result.andThen]
 exact hK v' w' r1 r2 r3
theorem info51:(Tryz.prog.info? 145).map (fun i=>(i.zero,i.size,i.bytes))=some (some (.agg #[.int .i64 0,.string ByteArray.empty,.slice none 0 0,.int .i64 0]),4,56):=by kernel_rfl
theorem cells4 (w:World)(c0 c1 c2 c3:Value)(t:TypeId):∀ j u,[c0,c1,c2,c3][j]? = some u->(w.alloc (.cells #[c0,c1,c2,c3] t)).drew.cell? ((⟨w.heap.size,0,none⟩:Addr).add j)=some u:=by
 intro j u h
 match j,h with
 | 0,h=>simpa [Addr.add] using h
 | 1,h=>simpa [Addr.add] using h
 | 2,h=>simpa [Addr.add] using h
 | 3,h=>simpa [Addr.add] using h
 | j+4,h=>simp at h
theorem slice_of_owns {w:World}{base:Nat}{e:TypeId}{size:Nat}{v:Value}{n:Nat}{xs:List Value}(h:w.ownsRow base e size v n xs)(hn:0<n):∃ g cap,v=.slice (some ⟨g,0,none⟩) n cap:=by
 rcases h.2 with ⟨_,h0⟩ | ⟨g,cap,_,hv,_⟩
 ·omega
 ·exact⟨g,cap,hv⟩
theorem grown_cell {w w1:World}{o1 o2:Obj}{r:Option Nat}(hg:((w.alloc o1).alloc o2).drew.grownBy w1 r){p:Nat}(hp:p<w.heap.size)(hr:some p≠r){v:Value}{i:Nat}(h:w.cell? ⟨p,i,none⟩=some v):w1.cell? ⟨p,i,none⟩=some v:=by
 rw[World.cell?_of_block (a:=⟨p,i,none⟩) (hg.block p (by simp;omega) hr)]
 show ((w.alloc o1).alloc o2).cell? ⟨p,i,none⟩=_
 rw[World.cell?_alloc_past _ _ _ (by simp;omega),World.cell?_alloc_past _ _ _ hp,h]
theorem grown_frozen {w w1:World}{o1 o2:Obj}{r:Option Nat}(hg:((w.alloc o1).alloc o2).drew.grownBy w1 r){p:Nat}(hp:p<w.heap.size)(hr:some p≠r){i:Nat}(h:w.frozen? ⟨p,i,none⟩=false):w1.frozen? ⟨p,i,none⟩=false:=by
 rw[World.frozen?_of_block (a:=⟨p,i,none⟩) (hg.block p (by simp;omega) hr)]
 show ((w.alloc o1).alloc o2).frozen? ⟨p,i,none⟩=_
 rw[World.frozen?_alloc_past _ _ _ (by simp;omega),World.frozen?_alloc_past _ _ _ hp,h]
def Added (w w':World)(p:Nat)(a:Option Addr)(n cap:Nat)(xs news:List Value):Prop:=
 ∃ g cap' w1,w1.ownsRow 0 145 4 (.slice (some ⟨g,0,none⟩) (n+1) cap') (n+1) (xs++news)/\(∃ o1 o2,((w.alloc o1).alloc o2).drew.grownBy w1 (Value.slice a n cap).ownBlock/\((some g:Option Nat)=(Value.slice a n cap).ownBlock\/g=w.heap.size+2))/\
  w'=w1.setCell ⟨p,0,none⟩ (.slice (some ⟨g,0,none⟩) (n+1) cap')
set_option maxRecDepth 100000 in
set_option maxHeartbeats 800000 in
theorem add_some (p:Nat)(k h:Int)(d:ByteArray)(a:Option Addr)(n cap:Nat)(xs:List Value)(ea:Option Addr)(el ec:Nat)(w:World)(hp:p<w.heap.size)(hn:n<400)
  (k0:w.cell? ⟨p,0,none⟩=some (.slice a n cap))(f0:w.frozen? ⟨p,0,none⟩=false)(hown:w.ownsRow 0 145 4 (.slice a n cap) n xs)(hpa:some p≠(Value.slice a n cap).ownBlock):
  Calls Tryz.prog 71 #[.pointer (some ⟨p,0,none⟩),.agg #[.int .i64 k,.string d,.slice ea el ec,.int .i64 h]] w fun e w'=>e=.returned (.tuple #[.int .i64 ((n:Int)+1),.int .i64 0])/\Added w w' p a n cap xs [.int .i64 k,.string d,.slice ea el ec,.int .i64 h]:=by
 obtain⟨i0,hi,hz0,hz1,hz2⟩:=info_parts info51
 have h1c:∀ u ∈ [Value.int .i64 k,.string d,.slice ea el ec,.int .i64 h],u.oneCell'=true:=by intro u hu;simp at hu;rcases hu with rfl | rfl | rfl | rfl <;> rfl
 have HO:Hid (w.ownsRow 0 145 4 (.slice a n cap) n xs):=hown
 have HP:Hid (some p≠(Value.slice a n cap).ownBlock):=hpa
 have H1:Hid (∀ u ∈ [Value.int .i64 k,.string d,.slice ea el ec,.int .i64 h],u.oneCell'=true):=h1c
 clear hown hpa h1c
 go_enter Tryz.func71,Tryz.ntmps71
 go_wp2
 go_region_law (refine step_append_own_at rfl (.tmp 16) (.tmp 18) 132 rfl 0 145 i0 _ 4 56 Tryz.underlying132 hi hz0 hz1 hz2 rfl (by decide) (.slice a n cap) n xs (by simp[Act.eval]) ((HO.out.alloc _).alloc _) ⟨w.heap.size+1,0,none⟩ 1 1 [.int .i64 k,.string d,.slice ea el ec,.int .i64 h] (by simp[Act.eval]) rfl (by have q:=cells4 (w.alloc (.cells #[.int .i64 k,.string d,.slice ea el ec,.int .i64 h] 145)) (.int .i64 k) (.string d) (.slice ea el ec) (.int .i64 h) 145;rw[World.size_alloc] at q;exact q) H1.out (by unfold maxLen;omega) (by omega) (Nat.zero_le _) ?_;intro v' w1 hown' hgrow hloc;obtain⟨g,cap',rfl⟩:=slice_of_owns hown' (by omega);have k1':=grown_cell hgrow hp HP.out k0;have k2':=grown_frozen hgrow hp HP.out f0)
 all_goals (go_wp2;go_ret2;exact⟨rfl,g,cap',w1,hown',⟨_,_,hgrow,by simpa [Value.ownBlock] using hloc⟩,rfl⟩)
theorem Added.facts {w w':World}{p:Nat}{a:Option Addr}{n cap:Nat}{xs news:List Value}(hA:Added w w' p a n cap xs news){c1 c2 c3 c4:Value}(hp:w.heap[p]? = some (.cells #[.slice a n cap,c1,c2,c3,c4] 136 (0,0)))(hpa:some p≠(Value.slice a n cap).ownBlock):
  ∃ g cap',w'.heap[p]? = some (.cells #[.slice (some ⟨g,0,none⟩) (n+1) cap',c1,c2,c3,c4] 136 (0,0))/\w'.ownsRow 0 145 4 (.slice (some ⟨g,0,none⟩) (n+1) cap') (n+1) (xs++news)/\((some g:Option Nat)=(Value.slice a n cap).ownBlock\/w.heap.size<=g)/\
   w'.os=w.os/\w'.tape=w.tape/\w'.output=w.output/\w.heap.size<=w'.heap.size/\∀ k,k<w.heap.size->k≠p->some k≠(Value.slice a n cap).ownBlock->w'.heap[k]? = w.heap[k]?:=by
 obtain⟨g,cap',w1,hown,⟨o1,o2,hg,hloc⟩,rfl⟩:=hA
 have hlt:p<w.heap.size:=(Array.getElem?_eq_some_iff.1 hp).1
 have hkeep:∀ k,k<w.heap.size->some k≠(Value.slice a n cap).ownBlock->w1.heap[k]? = w.heap[k]?:=by
  intro k hk hne
  rw[hg.block k (by simp;omega) hne]
  show ((w.alloc o1).alloc o2).heap[k]? = _
  rw[Below.heap_alloc _ _ _ (by simp;omega),Below.heap_alloc _ _ _ hk]
 have hw1:w1.heap[p]? = some (.cells #[.slice a n cap,c1,c2,c3,c4] 136 (0,0)):=by rw[hkeep p hlt hpa,hp]
 have hgp:g≠p:=by
  rintro rfl
  rcases hloc with h | h
  ·exact hpa h
  ·omega
 have hs:=hg.size
 simp at hs
 refine⟨g,cap',?_,?_,?_,?_,?_,?_,?_,?_⟩
 ·simp[World.setCell,Array.getElem?_modify,hw1]
 ·obtain⟨h1,h2⟩:=hown
  refine⟨h1,?_⟩
  rcases h2 with ⟨h,_⟩ | ⟨g0,cap0,cur,hv,hb,hh,r⟩
  ·cases h
  ·cases hv
   exact Or.inr ⟨g,cap',cur,rfl,hb,by rw[Below.heap_setCell _ _ _ _ hgp];exact hh,r⟩
 ·rcases hloc with h | h
  ·exact Or.inl h
  ·exact Or.inr (by omega)
 ·exact hg.os
 ·exact hg.tape
 ·exact hg.output
 ·simp;omega
 ·intro k hk hkp hne
  rw[Below.heap_setCell _ _ _ _ hkp,hkeep k hk hne]
set_option maxRecDepth 100000 in
set_option maxHeartbeats 400000 in
theorem add_full (p:Nat)(k h:Int)(d:ByteArray)(a:Option Addr)(n cap:Nat)(ea:Option Addr)(el ec:Nat)(w:World)(hp:p<w.heap.size)(hn:400<=n)
  (k0:w.cell? ⟨p,0,none⟩=some (.slice a n cap)):
  Calls Tryz.prog 71 #[.pointer (some ⟨p,0,none⟩),.agg #[.int .i64 k,.string d,.slice ea el ec,.int .i64 h]] w fun e w'=>e=.returned (.tuple #[.int .i64 0,.int .i64 11])/\w'=w.alloc (.cells #[.int .i64 k,.string d,.slice ea el ec,.int .i64 h] 145):=by
 go_enter Tryz.func71,Tryz.ntmps71
 go_wp2
 go_ret2
 exact⟨rfl,rfl⟩
set_option maxRecDepth 100000 in
set_option maxHeartbeats 400000 in
theorem clone_any (s:ByteArray)(w:World)(hlim:s.size<=281474976710656):
  Calls Tryz.prog 74 #[.string s] w fun e w'=>e=.returned (.string s)/\Below w.heap.size w w':=by
 have hcon:=Tryz.stringslite_Clone s w hlim
 go_enter Tryz.func74,Tryz.ntmps74
 go_wp2_with (go_at_call 117;refine hcon.mono ?_;rintro e w' ⟨rfl,hb⟩)
 go_ret
 exact⟨rfl,hb⟩
end Go.Proofs.YtajopoddmfdejaaGreat
namespace Go.Proofs.YtajopoddmfdejaaGreat
open Go.RowKit
set_option linter.unusedVariables false
structure PTail where
 a:Option Addr
 n:Nat
 c:Nat
 b:Bool
def pt0:PTail:=⟨none,0,0,false⟩
variable {ft:PTail}
theorem law9:Maps.Keyed Tryz.prog 9:=Maps.string_keyed Tryz.underlying9
theorem zero25 (w:World):(zeroValue 26).run Tryz.prog w=.ok (.int .i64 0) w:=by kernel_rfl
def PoolAt (ft:PTail)(w:World)(p:Nat)(a:Option Addr)(n cap bf bd:Nat):Prop:=w.heap[p]? = some (.cells #[.slice a n cap,.map (some bf),.map (some bd),.slice ft.a ft.n ft.c,.bool ft.b] 136 (0,0))
theorem PoolAt.c0 {w:World}{p:Nat}{a:Option Addr}{n cap bf bd:Nat}(h:PoolAt ft w p a n cap bf bd):w.cell? ⟨p,0,none⟩=some (.slice a n cap):=by unfold PoolAt at h;simp[World.cell?,h]
theorem PoolAt.c1 {w:World}{p:Nat}{a:Option Addr}{n cap bf bd:Nat}(h:PoolAt ft w p a n cap bf bd):w.cell? ⟨p,1,none⟩=some (.map (some bf)):=by unfold PoolAt at h;simp[World.cell?,h]
theorem PoolAt.c2 {w:World}{p:Nat}{a:Option Addr}{n cap bf bd:Nat}(h:PoolAt ft w p a n cap bf bd):w.cell? ⟨p,2,none⟩=some (.map (some bd)):=by unfold PoolAt at h;simp[World.cell?,h]
theorem PoolAt.f0 {w:World}{p:Nat}{a:Option Addr}{n cap bf bd:Nat}(h:PoolAt ft w p a n cap bf bd):w.frozen? ⟨p,0,none⟩=false:=by unfold PoolAt at h;simp[World.frozen?,h]
theorem PoolAt.lt {w:World}{p:Nat}{a:Option Addr}{n cap bf bd:Nat}(h:PoolAt ft w p a n cap bf bd):p<w.heap.size:=(Array.getElem?_eq_some_iff.1 h).1
theorem PoolAt.below {w w':World}{p:Nat}{a:Option Addr}{n cap bf bd:Nat}(h:PoolAt ft w p a n cap bf bd)(hb:Below w.heap.size w w'):PoolAt ft w' p a n cap bf bd:=by
 unfold PoolAt at h ⊢
 rw[hb.block p (Array.getElem?_eq_some_iff.1 h).1,h]
set_option maxRecDepth 100000 in
set_option maxHeartbeats 400000 in
theorem putFile_big (p:Nat)(d:ByteArray)(w:World)(hd:256<d.size)(hm:d.size<=maxLen):
  Calls Tryz.prog 146 #[.pointer (some ⟨p,0,none⟩),.string d] w fun e w'=>e=.returned (.tuple #[.int .i64 0,.int .i64 11])/\w'=w:=by
 unfold maxLen at hm
 go_enter Tryz.func146,Tryz.ntmps146
 go_wp2
 go_ret2
 exact⟨rfl,rfl⟩
set_option maxRecDepth 100000 in
set_option maxHeartbeats 400000 in
theorem putFile_hit (p:Nat)(a:Option Addr)(n cap bf bd:Nat)(Df:DataW Unit)(d:ByteArray)(c:Int)(w:World)(hp:PoolAt ft w p a n cap bf bd)(hd:d.size<=256)
  (hf:w.ownsMap Tryz.prog 9 (plainElem Tryz.prog 26) bf n Df)(hh:Maps.has Df (.string d.data.toList)=true)(hc:Df.atKey (.string d.data.toList) (.lit (.int .i64 0))=.lit (.int .i64 c)):
  Calls Tryz.prog 146 #[.pointer (some ⟨p,0,none⟩),.string d] w fun e w'=>e=.returned (.tuple #[.int .i64 c,.int .i64 0])/\w'=w:=by
 have k1:=hp.c1
 have hkey:=WideMaps.keyOf_string_mk (P:=Tryz.prog) Tryz.underlying9 (s:=d) (by unfold maxLen;omega)
 have HC:Hid (Df.atKey (.string d.data.toList) (.lit (.int .i64 0))=.lit (.int .i64 c)):=hc
 have HH:Hid (Maps.has Df (.string d.data.toList)=true):=hh
 clear hc hh
 go_enter Tryz.func146,Tryz.ntmps146
 go_wp2_with (first
  | (at_lookup;refine wpList_lookup_own_ok_int _ rfl _ _ 133 rfl 9 26 .i64 law9 Tryz.underlying133 Tryz.underlying26 (zero25 _) bf n Df rfl hf _ _ rfl hkey ?_;intro c' hat hwc;rw[HH.out];obtain rfl:c'=c:=by (have:=hat.symm.trans HC.out;simpa using this))
  | go_in)
 go_ret2
 exact⟨rfl,rfl⟩
set_option maxRecDepth 1000000 in
set_option maxHeartbeats 400000 in
theorem putFile_full (p:Nat)(a:Option Addr)(n cap bf bd:Nat)(Df:DataW Unit)(d:ByteArray)(w:World)(hp:PoolAt ft w p a n cap bf bd)(hd:d.size<=256)(hn:400<=n)
  (hf:w.ownsMap Tryz.prog 9 (plainElem Tryz.prog 26) bf n Df)(hh:Maps.has Df (.string d.data.toList)=false):
  Calls Tryz.prog 146 #[.pointer (some ⟨p,0,none⟩),.string d] w fun e w'=>e=.returned (.tuple #[.int .i64 0,.int .i64 11])/\Below w.heap.size w w':=by
 have k1:=hp.c1
 have hkey:=WideMaps.keyOf_string_mk (P:=Tryz.prog) Tryz.underlying9 (s:=d) (by unfold maxLen;omega)
 have HH:Hid (Maps.has Df (.string d.data.toList)=false):=hh
 have hcl:=clone_any d w (by omega)
 have hadd:=fun (W:World) (hW:PoolAt ft W p a n cap bf bd)=>add_full p 1 0 d a n cap none 0 0 W hW.lt hn hW.c0
 clear hh
 go_enter Tryz.func146,Tryz.ntmps146
 go_wp2_with (first
  | (at_lookup;refine wpList_lookup_own_ok_int _ rfl _ _ 133 rfl 9 26 .i64 law9 Tryz.underlying133 Tryz.underlying26 (zero25 _) bf n Df rfl hf _ _ rfl hkey ?_;intro c' hat hwc;rw[HH.out])
  | (go_at_call 74;refine hcl.mono ?_;rintro e w1 ⟨rfl,hb⟩;have hp1:=hp.below hb)
  | (go_at_call 71;refine (hadd _ hp1).mono ?_;rintro e w2 ⟨rfl,rfl⟩)
  | go_in)
 go_ret2
 exact⟨rfl,hb.alloc hb.size _⟩
theorem ownsMap_keep {H:Type}{P:Program}{k:TypeId}{R:Value->Option (DataW H×List MemPlace)}{w w':World}{b n:Nat}{D:DataW H}(h:w.ownsMap P k R b n D)(e:w'.heap[b]? = w.heap[b]?):w'.ownsMap P k R b n D:=by
 obtain⟨es,clock,hb,r⟩:=h
 exact⟨es,clock,e.trans hb,r⟩
theorem ownsMap_isMap {H:Type}{P:Program}{k:TypeId}{R:Value->Option (DataW H×List MemPlace)}{w:World}{b n:Nat}{D:DataW H}(h:w.ownsMap P k R b n D):∃ es clock,w.heap[b]? = some (.map es clock):=by
 obtain⟨es,clock,hb,r⟩:=h
 exact⟨es,clock,hb⟩
theorem owns_ne_map {w:World}{base:Nat}{e:TypeId}{size n:Nat}{v:Value}{xs:List Value}(h:w.ownsRow base e size v n xs){b:Nat}{es:Array MapEntry}{clock:Nat}(hb:w.heap[b]? = some (.map es clock)):some b≠v.ownBlock:=by
 rcases h.2 with ⟨rfl,_⟩ | ⟨g,cap,cur,rfl,_,hg,_⟩
 ·simp[Value.ownBlock]
 ·simp only[Value.ownBlock,ne_eq,Option.some.injEq]
  rintro rfl
  rw[hb] at hg;cases hg
theorem owns_ne_cells {w:World}{base:Nat}{e:TypeId}{size n:Nat}{v:Value}{xs:List Value}(h:w.ownsRow base e size v n xs){b:Nat}{c:Array Value}{t:TypeId}{fz:Nat×Nat}(hb:w.heap[b]? = some (.cells c t fz))(ht:t≠e):some b≠v.ownBlock:=by
 rcases h.2 with ⟨rfl,_⟩ | ⟨g,cap,cur,rfl,_,hg,_⟩
 ·simp[Value.ownBlock]
 ·simp only[Value.ownBlock,ne_eq,Option.some.injEq]
  rintro rfl
  rw[hb] at hg
  cases hg;exact ht rfl
structure Turned (w w':World)(p b:Nat)(own:Option Nat):Prop where
 os:w'.os=w.os
 tape:w'.tape=w.tape
 output:w'.output=w.output
 size:w.heap.size<=w'.heap.size
 block:∀ k,k<w.heap.size->k≠p->k≠b->some k≠own->w'.heap[k]? = w.heap[k]?
theorem ownsRow_keep {w w':World}{base:Nat}{e:TypeId}{size n:Nat}{v:Value}{xs:List Value}(h:w.ownsRow base e size v n xs)(hk:∀ g,v.ownBlock=some g->w'.heap[g]? = w.heap[g]?):w'.ownsRow base e size v n xs:=by
 refine⟨h.1,?_⟩
 rcases h.2 with h0 | ⟨g,cap,cur,rfl,hb,hg,r⟩
 ·exact Or.inl h0
 ·exact Or.inr ⟨g,cap,cur,rfl,hb,(hk g rfl).trans hg,r⟩
theorem ownsRow_lt {w:World}{base:Nat}{e:TypeId}{size n:Nat}{v:Value}{xs:List Value}(h:w.ownsRow base e size v n xs){g:Nat}(hg:v.ownBlock=some g):g<w.heap.size:=by
 rcases h.2 with ⟨rfl,_⟩ | ⟨g',cap,cur,rfl,_,hh,_⟩
 ·simp[Value.ownBlock] at hg
 ·simp[Value.ownBlock] at hg;subst hg;exact (Array.getElem?_eq_some_iff.1 hh).1
theorem added_c1 {w w':World}{p:Nat}{a:Option Addr}{n cap:Nat}{xs news:List Value}(hA:Added w w' p a n cap xs news){bf bd:Nat}(hp:PoolAt ft w p a n cap bf bd)(hpa:some p≠(Value.slice a n cap).ownBlock):w'.cell? ⟨p,1,none⟩=some (.map (some bf)):=by
 obtain⟨g,cap',hp2,_⟩:=hA.facts hp hpa
 exact PoolAt.c1 hp2
theorem added_map {w w':World}{p:Nat}{a:Option Addr}{n cap:Nat}{xs news:List Value}(hA:Added w w' p a n cap xs news){bf bd:Nat}(hp:PoolAt ft w p a n cap bf bd)(hpa:some p≠(Value.slice a n cap).ownBlock)
  {H:Type}{P:Program}{k:TypeId}{R:Value->Option (DataW H×List MemPlace)}{b m:Nat}{D:DataW H}(h:w.ownsMap P k R b m D)(hbp:b≠p)(hne:some b≠(Value.slice a n cap).ownBlock):w'.ownsMap P k R b m D:=by
 obtain⟨g,cap',hp2,hr2,hloc,hos,htape,hout,hsz,hkeep⟩:=hA.facts hp hpa
 exact ownsMap_keep h (hkeep b h.lt hbp hne)
set_option maxRecDepth 100000 in
set_option maxHeartbeats 800000 in
theorem putFile_new (p:Nat)(a:Option Addr)(n cap bf bd:Nat)(xs:List Value)(Df:DataW Unit)(d:ByteArray)(w:World)(hp:PoolAt ft w p a n cap bf bd)(hd:d.size<=256)(hn:n<400)
  (hrow:w.ownsRow 0 145 4 (.slice a n cap) n xs)(hf:w.ownsMap Tryz.prog 9 (plainElem Tryz.prog 26) bf n Df)(hh:Maps.has Df (.string d.data.toList)=false):
  Calls Tryz.prog 146 #[.pointer (some ⟨p,0,none⟩),.string d] w fun e w'=>e=.returned (.tuple #[.int .i64 ((n:Int)+1),.int .i64 0])/\
   ∃ g cap',PoolAt ft w' p (some ⟨g,0,none⟩) (n+1) cap' bf bd/\w'.ownsRow 0 145 4 (.slice (some ⟨g,0,none⟩) (n+1) cap') (n+1) (xs ++ [.int .i64 1,.string d,.slice none 0 0,.int .i64 0])/\((some g:Option Nat)=(Value.slice a n cap).ownBlock\/w.heap.size<=g)/\
    w'.ownsMap Tryz.prog 9 (plainElem Tryz.prog 26) bf (n+1) (Df.put (.string d.data.toList) (.lit (.int .i64 ((n:Int)+1))))/\Turned w w' p bf (Value.slice a n cap).ownBlock:=by
 have k1:=hp.c1
 have hkey:=WideMaps.keyOf_string_mk (P:=Tryz.prog) Tryz.underlying9 (s:=d) (by unfold maxLen;omega)
 have HH:Hid (Maps.has Df (.string d.data.toList)=false):=hh
 have hcl:=clone_any d w (by omega)
 obtain⟨es,clock,hbf⟩:=ownsMap_isMap hf
 have nf:=owns_ne_map hrow hbf
 have np:=owns_ne_cells hrow (b:=p) hp (by decide)
 have hfp:bf≠p:=by rintro rfl;unfold PoolAt at hp;rw[hbf] at hp;cases hp
 have hfl:bf<w.heap.size:=(Array.getElem?_eq_some_iff.1 hbf).1
 have hrl:∀ g,(Value.slice a n cap).ownBlock=some g->g<w.heap.size:=fun g hg=>ownsRow_lt hrow hg
 have hadd:=fun (W:World) (hW:PoolAt ft W p a n cap bf bd) (hr:W.ownsRow 0 145 4 (.slice a n cap) n xs)=>add_some p 1 0 d a n cap xs none 0 0 W hW.lt hn hW.c0 hW.f0 hr np
 have NF:Hid (some bf≠(Value.slice a n cap).ownBlock):=nf
 have NP:Hid (some p≠(Value.slice a n cap).ownBlock):=np
 have HRL:Hid (∀ g,(Value.slice a n cap).ownBlock=some g->g<w.heap.size):=hrl
 have HFP:Hid (bf≠p):=hfp
 have HR:Hid (w.ownsRow 0 145 4 (.slice a n cap) n xs):=hrow
 have HADD:Hid (∀ (W:World) (hW:PoolAt ft W p a n cap bf bd) (hr:W.ownsRow 0 145 4 (.slice a n cap) n xs),Calls Tryz.prog 71 #[.pointer (some ⟨p,0,none⟩),.agg #[.int .i64 1,.string d,.slice none 0 0,.int .i64 0]] W fun e w'=>e=.returned (.tuple #[.int .i64 ((n:Int)+1),.int .i64 0])/\Added W w' p a n cap xs [.int .i64 1,.string d,.slice none 0 0,.int .i64 0]):=hadd
 clear hh nf np hbf hrl hfp hrow hadd
 go_enter Tryz.func146,Tryz.ntmps146
 go_wp2_with (first
  | (at_lookup;refine wpList_lookup_own_ok_int _ rfl _ _ 133 rfl 9 26 .i64 law9 Tryz.underlying133 Tryz.underlying26 (zero25 _) bf n Df rfl hf _ _ rfl hkey ?_;intro c' hat hwc;rw[HH.out])
  | (go_at_call 74;refine hcl.mono ?_;rintro e w1 ⟨rfl,hb⟩;have hp1:=hp.below hb;have hr1:=ownsRow_keep HR.out (fun g hg=>hb.block g (HRL.out g hg)))
  | (go_at_call 71;refine (HADD.out _ hp1 hr1).mono ?_;rintro e w2 ⟨rfl,hA⟩;have k2:=added_c1 hA hp1 NP.out;have hf2:=added_map hA hp1 NP.out (ownsMap_keep hf (hb.block bf hfl)) HFP.out NF.out)
  | (at_mapUpdate;refine wpList_mapUpdate_own _ rfl _ _ _ 133 rfl 9 26 law9 Tryz.underlying133 _ bf n _ rfl hf2 (by unfold maxLen;omega) _ _ _ rfl rfl hkey _ [] (plainElem_int Tryz.underlying26 (WalkArith.wf_i64 (by omega))) ?_;intro w3 hown3 hg3)
  | go_in)
 go_ret2
 obtain⟨g,cap',hp2,hr2,hloc,hos,htape,hout,hsz,hkeep⟩:=hA.facts hp1 NP.out
 have hfp:=HFP.out
 have hsb:=hb.size
 have hpg:(some p:Option Nat)≠some bf:=fun e=>hfp (Option.some.inj e).symm
 refine⟨rfl,g,cap',?_,?_,?_,hown3,⟨?_,?_,?_,?_,?_⟩⟩
 ·unfold PoolAt;rw[hg3.block p (Nat.lt_of_lt_of_le (PoolAt.lt hp) (Nat.le_trans hsb hsz)) hpg];exact hp2
 ·refine ownsRow_keep hr2 (fun g' hg'=>hg3.block g' (ownsRow_lt hr2 hg') ?_)
  obtain⟨es2,clock2,hb2⟩:=ownsMap_isMap hf2
  have:=owns_ne_map hr2 hb2
  rw[hg'] at this
  exact fun e=>this e.symm
 ·rcases hloc with h | h
  ·exact Or.inl h
  ·exact Or.inr (by omega)
 ·rw[hg3.os,hos,hb.os]
 ·rw[hg3.tape,htape,hb.tape]
 ·rw[hg3.output,hout,hb.output]
 ·have:=hg3.size;omega
 ·intro k hk hkp hkb hne
  rw[hg3.block k (by omega) (fun e=>hkb (Option.some.inj e)),hkeep k (by omega) hkp hne,hb.block k hk]
end Go.Proofs.YtajopoddmfdejaaGreat
namespace Go.Proofs.YtajopoddmfdejaaGreat
open Go.RowKit
set_option linter.unusedVariables false
set_option maxRecDepth 100000 in
set_option maxHeartbeats 400000 in
theorem valid_short (s:ByteArray)(w:World)(hm:s.size<=maxLen)(h:s.size<1\/12<s.size):
  Calls Tryz.prog 73 #[.string s] w fun e w'=>e=.returned (.bool false)/\w'=w:=by
 unfold maxLen at hm
 rcases h with h | h
 ·go_enter Tryz.func73,Tryz.ntmps73
  go_wp2
  go_ret
  exact⟨rfl,rfl⟩
 ·have h':¬ s.size<1:=by omega
  go_enter Tryz.func73,Tryz.ntmps73
  go_wp2
  go_ret
  exact⟨rfl,rfl⟩
set_option maxRecDepth 100000 in
set_option maxHeartbeats 400000 in
theorem valid_dots (s:ByteArray)(w:World)(h1:1<=s.size)(h2:s.size<=12)(h:(s.toList == [46])=true\/(s.toList == [46])=false/\(s.toList == [46,46])=true):
  Calls Tryz.prog 73 #[.string s] w fun e w'=>e=.returned (.bool false)/\w'=w:=by
 rcases h with h | ⟨h3,h⟩
 ·go_enter Tryz.func73,Tryz.ntmps73
  go_wp2
  go_ret
  exact⟨rfl,rfl⟩
 ·go_enter Tryz.func73,Tryz.ntmps73
  go_wp2
  go_ret
  exact⟨rfl,rfl⟩
set_option maxRecDepth 100000 in
set_option maxHeartbeats 400000 in
theorem valid_long (s:ByteArray)(w:World)(h1:1<=s.size)(h2:s.size<=12)(h3:(s.toList == [46])=false)(h4:(s.toList == [46,46])=false)(a b:Int)(ha:Lib.indexByte s.data.toList 0=a)(hb:Lib.indexByte s.data.toList 47=b):
  Calls Tryz.prog 73 #[.string s] w fun e w'=>e=.returned (.bool (decide (a<0) && decide (b<0)))/\w'=w:=by
 have hA:∀ W,Calls Tryz.prog 116 #[.string s,.int .u8 0] W fun e w'=>e=.returned (.int .i64 a)/\w'=W:=by
  intro W
  have h:=Tryz.strings_IndexByte s 0 W
  rw[<- ha]
  exact h
 have hB:∀ W,Calls Tryz.prog 116 #[.string s,.int .u8 47] W fun e w'=>e=.returned (.int .i64 b)/\w'=W:=by
  intro W
  have h:=Tryz.strings_IndexByte s 47 W
  rw[<- hb]
  exact h
 clear ha hb
 by_cases ha0:a<0
 ·by_cases hb0:b<0
  ·go_enter Tryz.func73,Tryz.ntmps73
   go_wp2_with fail
   refine (hA _).mono ?_
   rintro e w' ⟨rfl,rfl⟩
   go_wp2_with fail
   refine (hB _).mono ?_
   rintro e w' ⟨rfl,rfl⟩
   go_wp2
   go_ret
   exact⟨by simp[ha0,hb0],rfl⟩
  ·have hb1:decide (b<0)=false:=by simpa using hb0
   go_enter Tryz.func73,Tryz.ntmps73
   go_wp2_with fail
   refine (hA _).mono ?_
   rintro e w' ⟨rfl,rfl⟩
   go_wp2_with fail
   refine (hB _).mono ?_
   rintro e w' ⟨rfl,rfl⟩
   go_wp2
   go_ret
   exact⟨by simp[ha0,hb0],rfl⟩
 ·have ha1:decide (a<0)=false:=by simpa using ha0
  go_enter Tryz.func73,Tryz.ntmps73
  go_wp2_with fail
  refine (hA _).mono ?_
  rintro e w' ⟨rfl,rfl⟩
  go_wp2
  go_ret
  exact⟨by simp[ha1],rfl⟩
def validB (s:ByteArray):Bool:=
 decide (1<=s.size) && decide (s.size<=12) && !(s.toList == [46]) && !(s.toList == [46,46]) && decide (Lib.indexByte s.data.toList 0<0) && decide (Lib.indexByte s.data.toList 47<0)
theorem valid_any (s:ByteArray)(w:World)(hm:s.size<=maxLen):Calls Tryz.prog 73 #[.string s] w fun e w'=>e=.returned (.bool (validB s))/\w'=w:=by
 by_cases h:s.size<1\/12<s.size
 ·have hv:validB s=false:=by
   unfold validB
   rcases h with h | h
   ·have:¬ 1<=s.size:=by omega
    simp[this]
   ·have:¬ s.size<=12:=by omega
    simp[this]
  rw[hv]
  exact valid_short s w hm h
 ·have h1:1<=s.size:=by omega
  have h2:s.size<=12:=by omega
  cases h3:s.toList == [46] with
  | true=>
   rw[show validB s=false by unfold validB;simp[h3]]
   exact valid_dots s w h1 h2 (.inl h3)
  | false=>
   cases h4:s.toList == [46,46] with
   | true=>
    rw[show validB s=false by unfold validB;simp[h4]]
    exact valid_dots s w h1 h2 (.inr ⟨h3,h4⟩)
   | false=>
    rw[show validB s=(decide (Lib.indexByte s.data.toList 0<0) && decide (Lib.indexByte s.data.toList 47<0)) by unfold validB;simp[h1,h2,h3,h4]]
    exact valid_long s w h1 h2 h3 h4 _ _ rfl rfl
end Go.Proofs.YtajopoddmfdejaaGreat
namespace Go.Proofs.YtajopoddmfdejaaGreat
open Go.RowKit Go.Sort Go.Shelf
set_option linter.unusedVariables false
set_option maxRecDepth 100000
set_option maxHeartbeats 16000000
theorem u8_tri (a b:UInt8):a<b\/a=b\/b<a:=by
 rcases Nat.lt_trichotomy a.toNat b.toNat with h | h | h
 ·exact Or.inl (UInt8.lt_iff_toNat_lt.2 h)
 ·exact Or.inr (Or.inl (UInt8.toNat_inj.1 h))
 ·exact Or.inr (Or.inr (UInt8.lt_iff_toNat_lt.2 h))
theorem u8_irrefl (a:UInt8):¬ a<a:=fun h=>Nat.lt_irrefl _ (UInt8.lt_iff_toNat_lt.1 h)
theorem u8_trans {a b c:UInt8}(h:a<b)(k:b<c):a<c:=UInt8.lt_iff_toNat_lt.2 (Nat.lt_trans (UInt8.lt_iff_toNat_lt.1 h) (UInt8.lt_iff_toNat_lt.1 k))
theorem u8_asymm {a b:UInt8}(h:a<b):¬ b<a:=fun k=>u8_irrefl _ (u8_trans h k)
theorem cmp_self:∀ a:List UInt8,Lib.compareBytes a a=0
 | []=>rfl
 | x :: r=>by simp[Lib.compareBytes,cmp_self r]
theorem cmp_eq_zero:∀ a b:List UInt8,Lib.compareBytes a b=0->a=b
 | [],[],_=>rfl
 | [],_ :: _,h=>by simp[Lib.compareBytes] at h
 | _ :: _,[],h=>by simp[Lib.compareBytes] at h
 | x :: r,y :: s,h=>by
  rcases u8_tri x y with k | k | k
  ·simp[Lib.compareBytes,k] at h
  ·subst k;simp[Lib.compareBytes] at h;rw[cmp_eq_zero r s h]
  ·simp[Lib.compareBytes,k,u8_asymm k] at h
theorem cmp_swap:∀ a b:List UInt8,Lib.compareBytes b a = - Lib.compareBytes a b
 | [],[]=>rfl
 | [],_ :: _=>rfl
 | _ :: _,[]=>rfl
 | x :: r,y :: s=>by
  rcases u8_tri x y with k | k | k
  ·simp[Lib.compareBytes,k,u8_asymm k]
  ·subst k;simp[Lib.compareBytes];exact cmp_swap r s
  ·simp[Lib.compareBytes,k,u8_asymm k]
theorem cmp_trans:∀ a b c:List UInt8,Lib.compareBytes a b<0->Lib.compareBytes b c<0->Lib.compareBytes a c<0
 | [],[],_,h,_=>by simp[Lib.compareBytes] at h
 | [],_ :: _,[],_,k=>by simp[Lib.compareBytes] at k
 | [],_ :: _,_ :: _,_,_=>by simp[Lib.compareBytes]
 | _ :: _,[],_,h,_=>by simp[Lib.compareBytes] at h
 | _ :: _,_ :: _,[],_,k=>by simp[Lib.compareBytes] at k
 | x :: r,y :: s,z :: t,h,k=>by
  rcases u8_tri x y with a | a | a
  ·rcases u8_tri y z with b | b | b
   ·simp[Lib.compareBytes,u8_trans a b]
   ·subst b;simp[Lib.compareBytes,a]
   ·simp[Lib.compareBytes,b,u8_asymm b] at k
  ·subst a
   rcases u8_tri x z with b | b | b
   ·simp[Lib.compareBytes,b]
   ·subst b
    simp only[Lib.compareBytes,u8_irrefl,if_false] at h k ⊢
    exact cmp_trans r s t h k
   ·simp[Lib.compareBytes,b,u8_asymm b] at k
  ·simp[Lib.compareBytes,a,u8_asymm a] at h
theorem cmp_ntrans (a b c:List UInt8)(h:¬ Lib.compareBytes a b<0)(k:¬ Lib.compareBytes b c<0):¬ Lib.compareBytes a c<0:=by
 intro m
 by_cases h0:Lib.compareBytes a b=0
 ·rw[<- cmp_eq_zero a b h0] at k;exact k m
 ·by_cases k0:Lib.compareBytes b c=0
  ·rw[cmp_eq_zero b c k0] at h;exact h m
  ·have h1:Lib.compareBytes b a<0:=by rw[cmp_swap];omega
   have k1:Lib.compareBytes c b<0:=by rw[cmp_swap];omega
   have:=cmp_trans c b a k1 h1
   rw[cmp_swap] at this;omega
abbrev Ent:=ByteArray×Int×Int
def encE (e:Ent):List Value:=[.string e.1,.int .i64 e.2.1,.int .i64 e.2.2]
def flat (es:List Ent):List Value:=es.flatMap encE
def cfE (x y:Ent):Int:=Lib.compareBytes x.1.data.toList y.1.data.toList
theorem swoE:SWO (ltOf cfE) where
 irrefl x:=by simp[ltOf,cfE,cmp_self]
 trans x y z h1 h2:=decide_eq_true (cmp_trans _ _ _ (of_decide_eq_true h1) (of_decide_eq_true h2))
 ntrans x y z h1 h2:=decide_eq_false (cmp_ntrans _ _ _ (of_decide_eq_false h1) (of_decide_eq_false h2))
theorem encE_len (e:Ent):(encE e).length=3:=rfl
theorem encE_one (e:Ent):∀ v ∈ encE e,v.oneCell'=true:=by
 intro v hv;simp[encE] at hv;rcases hv with rfl | rfl | rfl <;> rfl
theorem flat_len (es:List Ent):(flat es).length=es.length*3:=by
 induction es with
 | nil=>rfl
 | cons e r ih=>simp only[flat,List.flatMap_cons,List.length_append,encE_len,List.length_cons] at *;rw[ih];omega
theorem flat_one (es:List Ent):∀ v ∈ flat es,v.oneCell'=true:=by
 intro v hv
 obtain⟨e,_,h⟩:=List.mem_flatMap.1 hv
 exact encE_one e v h
theorem flat_get:∀ (es:List Ent) (i j:Nat) (hi:i<es.length),j<3->(flat es)[i*3+j]? = (encE es[i])[j]?
 | [],i,j,hi,_=>by simp at hi
 | e :: r,0,j,_,hj=>by
  simp only[flat,List.flatMap_cons,Nat.zero_mul,Nat.zero_add,List.getElem_cons_zero]
  rw[List.getElem?_append_left (by rw[encE_len];exact hj)]
 | e :: r,i+1,j,hi,hj=>by
  have ih:=flat_get r i j (by simpa using hi) hj
  simp only[flat,List.flatMap_cons,List.getElem_cons_succ] at ih ⊢
  rw[List.getElem?_append_right (by rw[encE_len];omega),encE_len,<- ih]
  congr 1;omega
theorem flatK_flat (d:Array Ent):(flatK encE 3 d).toList=flat d.toList:=by
 apply List.ext_getElem?
 intro t
 by_cases ht:t<d.size*3
 ·have h3:t % 3<3:=Nat.mod_lt _ (by omega)
  have hi:t / 3<d.toList.length:=by simp;omega
  have e1:=flat_get d.toList (t / 3) (t % 3) hi h3
  rw[show t / 3*3+t % 3=t by omega] at e1
  rw[e1]
  have hi':t / 3<d.size:=by simpa using hi
  simp only[flatK,Array.toList_map,Array.toList_range,List.getElem?_map,List.getElem?_range ht,Option.map_some,Array.getElem_toList]
  rw[getElem!_pos d (t / 3) hi',List.getElem?_eq_getElem (by rw[encE_len];exact h3),getElem!_pos _ _ (by rw[encE_len];exact h3)]
 ·rw[List.getElem?_eq_none (by simp[flatK];omega),List.getElem?_eq_none (by rw[flat_len];simp;omega)]
theorem holdsK_of_row {w:World}{g:Nat}{cur:Array Value}{e:TypeId}{es:List Ent}(hb:w.heap[g]? = some (.cells cur e (0,0)))(ht:cur.toList.take (es.length*3)=flat es):HoldsK encE 3 w g 0 es.toArray:=by
 intro j hj
 have hj':j<es.length*3:=by simpa using hj
 refine⟨?_,by simp[World.frozen?,hb]⟩
 have h1:(cur.toList.take (es.length*3))[j]? = (flat es)[j]?:=by rw[ht]
 rw[List.getElem?_take_of_lt hj'] at h1
 simp only[World.cell?,hb,Nat.zero_add]
 simp only[Option.isSome_none,Bool.false_eq_true,if_false]
 rw[<- Array.getElem?_toList,h1]
 have h2:=flatK_flat es.toArray
 simp only at h2
 rw[<- h2,Array.getElem?_toList,getElem!_pos _ j hj,Array.getElem?_eq_getElem hj]
 rfl
theorem heap_sortedK {w:World}{g n:Nat}{os:Array Obj}{cur:Array Value}{e:TypeId}{fr:Nat×Nat}(d:Array Ent)(hb:w.heap[g]? = some (.cells cur e fr)):
  (sortWorldK encE 3 w g 0 n d os).heap[g]? = some (.cells (putCells id 0 (flatK encE 3 d) cur) e fr):=by
 have hg:g<w.heap.size:=(Array.getElem?_eq_some_iff.1 hb).1
 unfold sortWorldK
 rw[heap_grow_old _ _ (by simpa [putRowK] using hg)]
 simp[putRowK,putRow,mapBlock,Sort.ahead,Array.getElem?_modify,hb,onCells]
theorem grownBy_sortedK {w:World}{g n:Nat}{os:Array Obj}(d:Array Ent):w.grownBy (sortWorldK encE 3 w g 0 n d os) (some g):=by
 refine⟨rfl,rfl,rfl,by simp[sortWorldK,putRowK],fun k hk hne=>?_⟩
 unfold sortWorldK
 rw[heap_grow_old _ _ (by simpa [putRowK] using hk)]
 have:g≠k:=fun e=>hne (by rw[e])
 simp[putRowK,putRow,mapBlock,Sort.ahead,Array.getElem?_modify,this]
theorem take_putCellsK (cur:Array Value)(d:Array Ent)(h:d.size*3<=cur.size):(putCells id 0 (flatK encE 3 d) cur).toList.take (d.size*3)=flat d.toList:=by
 rw[<- flatK_flat]
 apply List.ext_getElem?
 intro j
 by_cases hj:j<d.size*3
 ·rw[List.getElem?_take_of_lt hj,Array.getElem?_toList,Array.getElem?_toList]
  have hs:j<(flatK encE 3 d).size:=by simpa using hj
  rw[Array.getElem?_eq_getElem hs,<- getElem!_pos (flatK encE 3 d) j hs]
  simp[putCells,hj,show j<cur.size by omega]
 ·rw[List.getElem?_take_eq_none (by omega),List.getElem?_eq_none (by simp;omega)]
theorem ownsRow_sortedK {w:World}{base g cap n:Nat}{e:TypeId}{os:Array Obj}{cur:Array Value}{k:Nat}{d:Array Ent}(hl:d.size=k)(hbase:base<=g)(hb:w.heap[g]? = some (.cells cur e (0,0)))
  (h1:k<=cap)(h2:cap<=maxLen)(h3:cur.size=cap*3):
  (sortWorldK encE 3 w g 0 n d os).ownsRow base e 3 (.slice (some ⟨g,0,none⟩) k cap) k (flat d.toList):=by
 subst hl
 refine⟨by rw[flat_len];simp,.inr ⟨g,cap,_,rfl,hbase,heap_sortedK _ hb,h1,h2,by simp[putCells,h3],take_putCellsK cur d (by rw[h3];exact Nat.mul_le_mul_right 3 h1)⟩⟩
theorem isAgg34 (w:World):(isAgg 76).run Tryz.prog w=.ok true w:=by kernel_rfl
theorem sizeOf34 (w:World):(Go.sizeOf 76).run Tryz.prog w=.ok 3 w:=by kernel_rfl
theorem byName_any (x y:Ent)(W:World):Calls Tryz.prog 113 #[.agg #[.string x.1,.int .i64 x.2.1,.int .i64 x.2.2],.agg #[.string y.1,.int .i64 y.2.1,.int .i64 y.2.2]] W fun e w'=>e=.returned (.int .i64 (cfE x y))/\∃ q os',w'=grow (W.drewN q) os':=by
 have hcon:=fun W'=>Tryz.strings_Compare x.1 y.1 W'
 unfold cfE
 generalize Lib.compareBytes x.1.data.toList y.1.data.toList=r at hcon ⊢
 go_enter Tryz.func113,Tryz.ntmps113
 go_wp2_with (go_at_call 122;refine (hcon _).mono ?_;rintro e w' ⟨rfl,rfl⟩)
 go_ret
 exact⟨rfl,0,_,by rw[alloc_eq_grow,alloc_eq_grow,grow_grow];rfl⟩
theorem cmpLays (blk off size:Nat)(w:World):CmpLays Tryz.prog 113 #[] encE 3 cfE blk off size w:=fun _ _ _ _ x y=>byName_any x y _
theorem sort_any (blk cap:Nat)(d:Array Ent)(w:World)(hH:HoldsK encE 3 w blk 0 d)(hblk:blk<w.heap.size)(hsz:d.size<4611686018427387904):
  Calls Tryz.prog 112 #[.slice (some ⟨blk,0,none⟩) d.size cap,.func (.func 113) #[] #[]] w fun e w'=>e=.returned (.tuple #[])/\∃ d' n os,PermIn 0 d.size d d'/\SortedIn (ltOf cfE) 0 d.size d'/\w'=sortWorldK encE 3 w blk 0 n d' os:=by
 have eg:∀ args w,(callFunc 113 args).run Tryz.prog w=.ok (.enter 113 args) w:=enters_of Tryz.func113 (by kernel_rfl) rfl
 exact AnyQ.slices_SortFunc Tryz.sortE 3 isAgg34 sizeOf34 encE encE_len encE_one cfE swoE 113 #[] blk 0 cap d w eg (cmpLays blk 0 d.size w) hH hblk hsz
theorem info34:(Tryz.prog.info? 76).map (fun i=>(i.zero,i.size,i.bytes))=some (some (.agg #[.string ByteArray.empty,.int .i64 0,.int .i64 0]),3,32):=by kernel_rfl
theorem cloneE_any (b off n c:Nat)(es:List Ent)(w:World)(hl:es.length=n)(hbig:n*32<=140737488355328)(hc:∀ j u,(flat es)[j]? = some u->w.cell? ⟨b,off+j,none⟩=some u):
  Calls Tryz.prog 111 #[.slice (some ⟨b,off,none⟩) n c] w fun e w'=>∃ v',e=.returned v'/\w'.ownsRow w.heap.size 76 3 v' n (flat es)/\v' ≠ .slice none 0 0/\Below w.heap.size w w':=by
 obtain⟨i0,hi,hz0,hz1,hz2⟩:=info_parts info34
 exact AnyE.slices_Clone Tryz.cloneE i0 _ 3 32 hi hz0 hz1 hz2 rfl (by decide) sizeOf34 b off n c (flat es) w (by rw[flat_len,hl]) (by unfold maxLen;omega) hbig hc (flat_one es)
theorem row_cells {w:World}{b off:Nat}{es:List Ent}(hc:∀ j u,(flat es)[j]? = some u->w.cell? ⟨b,off+j,none⟩=some u){i:Nat}(hi:i<es.length):
  w.cell? ⟨b,off+i*3,none⟩=some (.string es[i].1)/\w.cell? ⟨b,off+i*3+1,none⟩=some (.int .i64 es[i].2.1)/\w.cell? ⟨b,off+i*3+2,none⟩=some (.int .i64 es[i].2.2):=by
 refine⟨?_,?_,?_⟩
 ·exact hc _ _ (by rw[show i*3=i*3+0 from rfl,flat_get es i 0 hi (by omega)];rfl)
 ·rw[Nat.add_assoc];exact hc _ _ (by rw[flat_get es i 1 hi (by omega)];rfl)
 ·rw[Nat.add_assoc];exact hc _ _ (by rw[flat_get es i 2 hi (by omega)];rfl)
theorem setCell_self {w:World}{a:Addr}{v:Value}(h:w.cell? a=some v):w.setCell a v=w:=by
 have hh:(w.setCell a v).heap=w.heap:=by
  apply Array.ext_getElem?
  intro k
  simp only[World.setCell,Array.getElem?_modify]
  by_cases hk:a.block=k
  ·subst hk
   simp only[if_true]
   unfold World.cell? at h
   cases hb:w.heap[a.block]? with
   | none=>rfl
   | some o=>
    rw[hb] at h
    cases o with
    | cells c e fr=>
     simp only[Option.map_some]
     by_cases hs:a.spot.isSome=true
     ·simp[hs]
     ·simp only[hs,if_false,Bool.false_eq_true] at h ⊢
      have hlt:=(Array.getElem?_eq_some_iff.1 h)
      obtain⟨h1,h2⟩:=hlt
      congr 2
      apply Array.ext_getElem?
      intro j
      rw[Array.getElem?_setIfInBounds]
      by_cases hj:a.off=j
      ·subst hj;simp[h1,h2]
      ·simp[hj]
    | _=>simp at h
  ·simp[hk]
 cases w
 simp only[World.setCell] at hh ⊢
 rw[hh]
def Rising (es:List Ent):Prop:=es.Pairwise fun x y=>cfE x y<0
def Arranged (w w':World)(es:List Ent)(n:Nat)(e:Ending):Prop:=
 Below w.heap.size w w'/\
 (((∃ x ∈ es,validB x.1=false)/\e=.returned (.tuple #[.slice none 0 0,.int .i64 1]))\/
  ((∀ x ∈ es,validB x.1=true)/\¬ (es.map (·.1)).Nodup/\e=.returned (.tuple #[.slice none 0 0,.int .i64 6]))\/
  ((∀ x ∈ es,validB x.1=true)/\(es.map (·.1)).Nodup/\16<es.length/\e=.returned (.tuple #[.slice none 0 0,.int .i64 11]))\/
  ((∀ x ∈ es,validB x.1=true)/\(es.map (·.1)).Nodup/\es.length<=16/\∃ es' g cap',e=.returned (.tuple #[.slice (some ⟨g,0,none⟩) n cap',.int .i64 0])/\es'.Perm es/\Rising es'/\w'.ownsRow w.heap.size 76 3 (.slice (some ⟨g,0,none⟩) n cap') n (flat es')))
theorem perm_of (es:List Ent)(d':Array Ent)(h:PermIn 0 es.toArray.size es.toArray d'):d'.toList.Perm es:=by
 obtain⟨h1,_,h3⟩:=h
 have e1:(d'.extract 0 es.toArray.size)=d':=by rw[<- h1];simp
 have e2:(es.toArray.extract 0 es.toArray.size)=es.toArray:=by simp
 rw[e1,e2] at h3
 simpa using h3
theorem rising_of (d:Array Ent)(hs:SortedIn (ltOf cfE) 0 d.size d)(hd:∀ j (hj:j<d.toList.length),1<=j->d.toList[j].1≠(d.toList[j-1]'(by omega)).1):Rising d.toList:=by
 unfold Rising
 rw[List.pairwise_iff_getElem]
 intro i j hi hj hij
 simp only[Array.length_toList] at hi hj
 have key:∀ k,(hk:k<d.size)->(h1:1<=k)->cfE d[k-1] d[k]<0:=by
  intro k hk h1
  have h:=hs (k-1) k (Nat.zero_le _) (by omega) hk
  rw[getElem!_pos d k hk,getElem!_pos d (k-1) (by omega)] at h
  have h2:=of_decide_eq_false h
  have hne:=hd k (by simpa using hk) h1
  have h3:cfE d[k] d[k-1]≠0:=by
   intro h0
   have:=cmp_eq_zero _ _ h0
   apply hne
   simp only[Array.getElem_toList]
   have e:∀ a b:ByteArray,a.data.toList=b.data.toList->a=b:=by
    intro a b hab
    cases a;cases b
    congr 1
    exact Array.toList_inj.1 hab
   exact e _ _ this
  have h4:cfE d[k-1] d[k] = - cfE d[k] d[k-1]:=cmp_swap _ _
  omega
 have chain:∀ m,(hm:i+1+m<d.size)->cfE d[i] d[i+1+m]<0:=by
  intro m
  induction m with
  | zero=>intro hm;exact key (i+1) hm (by omega)
  | succ m ih=>
   intro hm
   have a:=ih (by omega)
   have b:=key (i+1+(m+1)) hm (by omega)
   exact cmp_trans _ _ _ a b
 have:=chain (j-i-1) (by omega)
 simp only[Array.getElem_toList]
 have e:i+1+(j-i-1)=j:=by omega
 simp only[e] at this
 exact this
theorem nodup_of_rising {es:List Ent}(h:Rising es):(es.map (·.1)).Nodup:=by
 unfold Rising at h
 rw[List.Nodup,List.pairwise_map]
 refine h.imp ?_
 intro a b hab e
 unfold cfE at hab
 rw[e,cmp_self] at hab
 omega
theorem valid_size {s:ByteArray}(h:validB s=true):1<=s.size/\s.size<=12:=by
 unfold validB at h
 simp only[Bool.and_eq_true,decide_eq_true_eq] at h
 exact⟨h.1.1.1.1.1,h.1.1.1.1.2⟩
end Go.Proofs.YtajopoddmfdejaaGreat
