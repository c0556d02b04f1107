/- What is proved here: the library's functions that this program calls are. -/
import Derived.Shelf.Small.Bits
import Derived.Shelf.Small.Strs
import Derived.Shelf.Strconv.Itoa0
import Derived.Shelf.LaysM
import Derived.Shelf.Strconv.Clone
import Derived.Shelf.Strings.Search1
import Derived.Shelf.Strings.Search2
import Derived.Shelf.Strings.Cut
import Derived.Shelf.Strings.Shaped
import Derived.Shelf.SlGeneric
import Derived.Shelf.SlSortCmp.SmallK
import Derived.Shelf.SlicesE.Clone
import Derived.Ground.SlsfProg
import Derived.Ground.SlgnProg
import Derived.Test.YtlgidcmmgohagaaGreatProg
import Derived.WalkKit
import Derived.WalkSpells
import Derived.WalkLawsBesides
import Derived.Maps.OwnSet
import Derived.Maps.AppendAt
import Derived.Deep.RegionLawGrows
import Derived.Shelf.SlSortCmp.WholeK
import Derived.Sort.OwnSorted
import Derived.Deep.QuietTactic
import Derived.BigQuiet
import Derived.Laws.CopyOwn
import Derived.DeepKeys4
import Derived.StillTailTactics
namespace Go
abbrev World.z (w:World):Nat:=w.heap.size
end Go
namespace Go.Proofs.YtlgidcmmgohagaaGreat
open Go.RowKit
abbrev hh (b:Nat):Value:=.pointer (some ⟨b,0,none⟩)
abbrev eJ (x:Int):Value:=.int .i64 x
abbrev hZ:ByteArray:=⟨#[]⟩
abbrev kq (a b c d e:ByteArray):Array Value:=#[.string a,.string b,.string c,.string d,.string e]
abbrev eI (b o:Nat):Addr:=⟨b,o,none⟩
abbrev ik (w w':World):Prop:=Below w.heap.size w w'
abbrev pB (v:Value)(w:World):Ending->World->Prop:=fun e w'=>e=.returned v/\Below w.heap.size w w'
abbrev Do (v:Value)(w:World):Ending->World->Prop:=fun e w'=>e=.returned v/\w'=w
abbrev gc (f:Nat)(a:Array Value)(w:World)(b:Ending->World->Prop):Prop:=Calls Tryz.prog f a w b
abbrev zyK (w:World)(b o:Nat)(v:Value):Prop:=w.cell? ⟨b,o,none⟩=some v
end Go.Proofs.YtlgidcmmgohagaaGreat
namespace Go.Proofs.YtlgidcmmgohagaaGreat
open Go.RowKit Go.Sort Go.Shelf
abbrev eL:=List ByteArray
abbrev eD:=ByteArray
abbrev fD:=Option Addr
abbrev fQ:=List Value
abbrev gi:=TypeId
theorem lO:type_of% @Nat.lt_of_lt_of_le:=@Nat.lt_of_lt_of_le
theorem fY:type_of% @if_neg:=@if_neg
theorem kx:type_of% @Nat.le_refl:=@Nat.le_refl
theorem ie:type_of% @if_pos:=@if_pos
theorem rk:type_of% @decide_eq_false:=@decide_eq_false
theorem tk:type_of% @Nat.zero_le:=@Nat.zero_le
theorem wl:type_of% @Nat.le_trans:=@Nat.le_trans
theorem jy:type_of% @List.getElem?_eq_getElem:=@List.getElem?_eq_getElem
theorem vZ:type_of% @List.take_succ_eq_append_getElem:=@List.take_succ_eq_append_getElem
theorem kj:type_of% @List.getElem_mem:=@List.getElem_mem
theorem io:type_of% @Calls.mono:=@Calls.mono
theorem qr:type_of% @Option.bind_some:=@Option.bind_some
theorem lh:type_of% @Below.refl:=@Below.refl
theorem nX:type_of% @Array.getElem?_eq_some_iff:=@Array.getElem?_eq_some_iff
theorem mb:type_of% @List.length_append:=@List.length_append
theorem mZ:type_of% @Option.some.injEq:=@Option.some.injEq
theorem nG:type_of% @List.prefix_append:=@List.prefix_append
theorem mq:type_of% @Option.map_some:=@Option.map_some
theorem pE:type_of% @World.ownsRow.alloc:=@World.ownsRow.alloc
theorem wh:type_of% @List.getD_eq_getElem?_getD:=@List.getD_eq_getElem?_getD
theorem wj:type_of% @List.getElem?_eq_some_iff:=@List.getElem?_eq_some_iff
theorem nD:type_of% @List.length_map:=@List.length_map
theorem mz:type_of% @decide_eq_true:=@decide_eq_true
theorem oU:type_of% @List.prefix_refl:=@List.prefix_refl
theorem qh:type_of% @List.reverse_cons:=@List.reverse_cons
theorem qj:type_of% @Option.getD_some:=@Option.getD_some
theorem jP:type_of% @World.cell?_of_block:=@World.cell?_of_block
theorem gT:type_of% @List.length_take:=@List.length_take
theorem lV:type_of% @List.take_of_length_le:=@List.take_of_length_le
theorem oZ:type_of% @List.getElem?_eq_none:=@List.getElem?_eq_none
theorem jQ:type_of% @Below.heap_setCell:=@Below.heap_setCell
theorem jf:type_of% @World.ownsRow_nil:=@World.ownsRow_nil
theorem jS:type_of% @List.mem_cons_self:=@List.mem_cons_self
theorem xr:type_of% @congrArg:=@congrArg
theorem qX:type_of% @List.getElem?_append_left:=@List.getElem?_append_left
theorem ng:type_of% @Array.length_toList:=@Array.length_toList
theorem jA:type_of% @List.length_cons:=@List.length_cons
theorem gU:type_of% @List.mem_cons:=@List.mem_cons
theorem kC:type_of% @List.append_assoc:=@List.append_assoc
theorem iP:type_of% @Nat.zero_add:=@Nat.zero_add
theorem lD:type_of% @Decidable.not_not:=@Decidable.not_not
theorem lz:type_of% @List.length_drop:=@List.length_drop
theorem nh:type_of% @List.mem_singleton:=@List.mem_singleton
theorem ij:type_of% @List.mem_map:=@List.mem_map
theorem pg:type_of% @List.getElem_of_mem:=@List.getElem_of_mem
theorem mA:type_of% @Below.heap_alloc:=@Below.heap_alloc
theorem gV:type_of% @Nat.le_succ:=@Nat.le_succ
theorem pn:type_of% @List.mem_cons_of_mem:=@List.mem_cons_of_mem
theorem jg:type_of% @List.map_cons:=@List.map_cons
theorem qY:type_of% @List.dropLast_concat:=@List.dropLast_concat
theorem lF:type_of% @bodyPost_ret:=@bodyPost_ret
theorem iQ:type_of% @below_drewN:=@below_drewN
theorem pY:type_of% @List.reverse_reverse:=@List.reverse_reverse
theorem iq:type_of% @info_parts:=@info_parts
theorem zO:type_of% @List.findIdx?_eq_some_iff_getElem:=@List.findIdx?_eq_some_iff_getElem
theorem ow:type_of% @Int.toNat_natCast:=@Int.toNat_natCast
theorem nH:type_of% @Value.slice.inj:=@Value.slice.inj
theorem nM:type_of% @List.map_append:=@List.map_append
theorem CJ:type_of% @List.getElem?_append_right:=@List.getElem?_append_right
theorem qZ:type_of% @Below.setCell:=@Below.setCell
theorem sj:type_of% @List.pairwise_cons:=@List.pairwise_cons
theorem Am:type_of% @Array.getElem?_modify:=@Array.getElem?_modify
theorem Zg:type_of% @World.cell?_alloc_past:=@World.cell?_alloc_past
theorem ql:type_of% @List.append_nil:=@List.append_nil
theorem Hg:type_of% @Nat.lt_of_succ_lt:=@Nat.lt_of_succ_lt
theorem sr:type_of% @World.size_alloc:=@World.size_alloc
theorem su:type_of% @heap_alloc_new:=@heap_alloc_new
theorem nN:type_of% @List.getD_nil:=@List.getD_nil
theorem wk:type_of% @List.length_replicate:=@List.length_replicate
theorem wm:type_of% @of_decide_eq_true:=@of_decide_eq_true
theorem uP:type_of% @decide_eq_true_eq:=@decide_eq_true_eq
theorem KI:type_of% @List.getElem?_take_of_lt:=@List.getElem?_take_of_lt
theorem pZ:type_of% @List.drop_left:=@List.drop_left
theorem CK:type_of% @List.eq_nil_of_length_eq_zero:=@List.eq_nil_of_length_eq_zero
theorem xO:type_of% @ByteArray.toList_eq:=@ByteArray.toList_eq
theorem wu:type_of% @List.getElem?_set_ne:=@List.getElem?_set_ne
theorem sB:type_of% @List.mem_append:=@List.mem_append
theorem sG:type_of% @List.cons.injEq:=@List.cons.injEq
theorem vq:type_of% @wpList_append_own:=@wpList_append_own
theorem CL:type_of% @List.size_toArray:=@List.size_toArray
theorem uQ:type_of% @List.cons_append:=@List.cons_append
theorem Ao:type_of% @List.length_eq_zero_iff:=@List.length_eq_zero_iff
theorem zP:type_of% @List.mem_of_mem_take:=@List.mem_of_mem_take
theorem Ww:type_of% @Tryz.underlying9:=@Tryz.underlying9
theorem xP:type_of% @Bool.and_eq_true:=@Bool.and_eq_true
theorem cnf:type_of% @World.frozen?_alloc_past:=@World.frozen?_alloc_past
theorem zQ:type_of% @Option.some.inj:=@Option.some.inj
theorem pq:type_of% @rounds_succ:=@rounds_succ
theorem EU:type_of% @List.mem_of_find?_eq_some:=@List.mem_of_find?_eq_some
theorem xQ:type_of% @Nat.min_eq_left:=@Nat.min_eq_left
theorem zR:type_of% @List.nil_append:=@List.nil_append
theorem wA:type_of% @List.length_nil:=@List.length_nil
theorem xR:type_of% @List.take_length:=@List.take_length
theorem xS:type_of% @IntKind.wrap_i64:=@IntKind.wrap_i64
theorem uR:type_of% @Prod.mk.injEq:=@Prod.mk.injEq
theorem EW:type_of% @List.append_cancel_left:=@List.append_cancel_left
theorem Wx:type_of% @Tryz.underlying131:=@Tryz.underlying131
theorem Ap:type_of% @List.getElem?_take:=@List.getElem?_take
theorem KJ:type_of% @List.getElem_cons_zero:=@List.getElem_cons_zero
theorem Hh:type_of% @List.drop_eq_getElem_cons:=@List.drop_eq_getElem_cons
theorem EX:type_of% @beq_eq_false_iff_ne:=@beq_eq_false_iff_ne
theorem CM:type_of% @List.mem_map_of_mem:=@List.mem_map_of_mem
theorem CN:type_of% @List.length_reverse:=@List.length_reverse
theorem EY:type_of% @List.getLast_concat:=@List.getLast_concat
theorem sH:type_of% @Int.le_refl:=@Int.le_refl
theorem xT:type_of% @Nat.le_of_lt:=@Nat.le_of_lt
theorem CO:type_of% @List.pairwise_map:=@List.pairwise_map
theorem KL:type_of% @List.ext_getElem?:=@List.ext_getElem?
theorem Pd:type_of% @ByteArray.size_append:=@ByteArray.size_append
theorem Zh:type_of% @Array.getElem?_toList:=@Array.getElem?_toList
theorem Aq:type_of% @List.foldl_cons:=@List.foldl_cons
theorem EZ:type_of% @List.replicate_succ':=@List.replicate_succ'
theorem SI:type_of% @Tryz.underlying3:=@Tryz.underlying3
theorem vr:type_of% @List.map_nil:=@List.map_nil
theorem Hi:type_of% @List.find?_cons_of_pos:=@List.find?_cons_of_pos
theorem Hj:type_of% @List.find?_cons_of_neg:=@List.find?_cons_of_neg
theorem SJ:type_of% @List.pairwise_iff_getElem:=@List.pairwise_iff_getElem
theorem Ar:type_of% @List.drop_zero:=@List.drop_zero
theorem Au:type_of% @List.take_left':=@List.take_left'
theorem Hl:type_of% @List.take_append_drop:=@List.take_append_drop
theorem Av:type_of% @List.mem_filter:=@List.mem_filter
theorem KM:type_of% @List.getElem_append_left:=@List.getElem_append_left
theorem Pe:type_of% @List.take_append_of_le_length:=@List.take_append_of_le_length
theorem Fa:type_of% @List.getElem_map:=@List.getElem_map
theorem KN:type_of% @List.mem_of_mem_drop:=@List.mem_of_mem_drop
theorem SK:type_of% @List.mem_of_getElem?:=@List.mem_of_getElem?
theorem Aw:type_of% @setRow_other:=@setRow_other
theorem Fb:type_of% @World.drewN_drewN:=@World.drewN_drewN
theorem Fc:type_of% @Nat.le_succ_of_le:=@Nat.le_succ_of_le
theorem Ho:type_of% @List.length_pos_iff:=@List.length_pos_iff
theorem wB:type_of% @Lib.size_eq:=@Lib.size_eq
theorem Pf:type_of% @List.drop_eq_nil_of_le:=@List.drop_eq_nil_of_le
theorem Pg:type_of% @ByteArray.data_extract:=@ByteArray.data_extract
theorem Fe:type_of% @List.getElem_set:=@List.getElem_set
theorem KO:type_of% @List.set_append_right:=@List.set_append_right
theorem Ph:type_of% @List.getElem?_drop:=@List.getElem?_drop
theorem KP:type_of% @List.cons_prefix_cons:=@List.cons_prefix_cons
theorem Hp:type_of% @List.mem_range:=@List.mem_range
theorem KQ:type_of% @wpList_append_own_at:=@wpList_append_own_at
theorem Wy:type_of% @Result.andThen_ok:=@Result.andThen_ok
theorem CP:type_of% @Nat.lt_trans:=@Nat.lt_trans
theorem Ax:type_of% @Nat.le_of_eq:=@Nat.le_of_eq
theorem Ff:type_of% @setRow_heap:=@setRow_heap
theorem Pj:type_of% @Nat.add_sub_cancel_left:=@Nat.add_sub_cancel_left
theorem Pk:type_of% @List.drop_succ_cons:=@List.drop_succ_cons
theorem SL:type_of% @Below.alloc:=@Below.alloc
theorem SM:type_of% @World.frozen?_of_block:=@World.frozen?_of_block
theorem Pm:type_of% @List.getElem?_set_self:=@List.getElem?_set_self
theorem Wz:type_of% @of_decide_eq_false:=@of_decide_eq_false
theorem SN:type_of% @List.prefix_append_right_inj:=@List.prefix_append_right_inj
theorem KR:type_of% @List.findIdx?_cons:=@List.findIdx?_cons
theorem hhx:type_of% @UInt8.lt_iff_toNat_lt:=@UInt8.lt_iff_toNat_lt
theorem CQ:type_of% @Nat.add_zero:=@Nat.add_zero
theorem coe:type_of% @Tryz.underlying55:=@Tryz.underlying55
theorem Pn:type_of% @List.map_take:=@List.map_take
theorem col:type_of% @List.flatMap_cons:=@List.flatMap_cons
theorem Po:type_of% @World.ownsRow.stored:=@World.ownsRow.stored
theorem SP:type_of% @List.take_zero:=@List.take_zero
theorem wC:type_of% @and_true:=@and_true
theorem KS:type_of% @List.not_mem_nil:=@List.not_mem_nil
theorem SQ:type_of% @List.take_succ_cons:=@List.take_succ_cons
theorem Pp:type_of% @List.map_congr_left:=@List.map_congr_left
theorem hh0:type_of% @Lib.run_clear_slice:=@Lib.run_clear_slice
theorem Fg:type_of% @List.map_map:=@List.map_map
theorem hic:type_of% @Tryz.underlying208:=@Tryz.underlying208
theorem hie:type_of% @Tryz.results188:=@Tryz.results188
theorem SR:type_of% @RowKit.Below.heap_alloc:=@RowKit.Below.heap_alloc
theorem KT:type_of% @List.find?_cons:=@List.find?_cons
theorem SS:type_of% @Option.map_eq_some_iff:=@Option.map_eq_some_iff
theorem SU:type_of% @Option.map_eq_none_iff:=@Option.map_eq_none_iff
theorem cop:type_of% @Tryz.underlying29:=@Tryz.underlying29
theorem WA:type_of% @List.replicate_append_replicate:=@List.replicate_append_replicate
theorem SV:type_of% @List.foldl_append:=@List.foldl_append
theorem KU:type_of% @wp_loop_rounds:=@wp_loop_rounds
theorem SX:type_of% @run_underlying:=@run_underlying
theorem Ay:type_of% @Prod.ext:=@Prod.ext
theorem KV:type_of% @Array.mk.injEq:=@Array.mk.injEq
theorem WC:type_of% @Sem.run_pure:=@Sem.run_pure
theorem WD:type_of% @Sem.run_bind:=@Sem.run_bind
theorem Hq:type_of% @Nat.sub_self:=@Nat.sub_self
theorem SY:type_of% @List.singleton_append:=@List.singleton_append
theorem SZ:type_of% @wpList_make_full:=@wpList_make_full
theorem WE:type_of% @Option.getD_none:=@Option.getD_none
theorem Ta:type_of% @List.reverse_inj:=@List.reverse_inj
theorem WH:type_of% @Array.toList_inj:=@Array.toList_inj
theorem hif:type_of% @Tryz.ntmps188:=@Tryz.ntmps188
theorem hih:type_of% @Tryz.ntmps129:=@Tryz.ntmps129
theorem KW:type_of% @ByteArray.ext:=@ByteArray.ext
theorem Tb:type_of% @UInt8.toNat_inj:=@UInt8.toNat_inj
theorem Tc:type_of% @Obj.cells.injEq:=@Obj.cells.injEq
theorem Pq:type_of% @List.find?_some:=@List.find?_some
theorem Pr:type_of% @wpList_plain:=@wpList_plain
theorem WI:type_of% @Tryz.underlying204:=@Tryz.underlying204
theorem WJ:type_of% @Tryz.underlying147:=@Tryz.underlying147
theorem hii:type_of% @Tryz.func188:=@Tryz.func188
theorem hij:type_of% @Tryz.func129:=@Tryz.func129
theorem Td:type_of% @List.find?_eq_none:=@List.find?_eq_none
theorem Te:type_of% @List.filter_append:=@List.filter_append
theorem KX:type_of% @Addr.add_lit:=@Addr.add_lit
theorem WK:type_of% @List.getElem_append_right:=@List.getElem_append_right
theorem WL:type_of% @List.findIdx?_eq_none_iff:=@List.findIdx?_eq_none_iff
theorem Pt:type_of% @DataW.trod_int:=@DataW.trod_int
theorem Tf:type_of% @heap_setCell_same:=@heap_setCell_same
theorem WM:type_of% @Option.isSome_iff_exists:=@Option.isSome_iff_exists
theorem WN:type_of% @List.getElem?_map:=@List.getElem?_map
theorem Pu:type_of% @Tryz.ntmps142:=@Tryz.ntmps142
theorem Tg:type_of% @beq_self_eq_true:=@beq_self_eq_true
theorem flb:type_of% @WalkArith.wf_i64:=@WalkArith.wf_i64
theorem fma:type_of% @Tryz.underlying5:=@Tryz.underlying5
theorem cos:type_of% @List.getElem_cons_succ:=@List.getElem_cons_succ
theorem WO:type_of% @List.drop_of_length_le:=@List.drop_of_length_le
theorem WQ:type_of% @ByteArray.size_extract:=@ByteArray.size_extract
theorem KY:type_of% @if_true:=@if_true
theorem Zi:type_of% @heap_alloc2_old:=@heap_alloc2_old
theorem hil:type_of% @getElem!_pos:=@getElem!_pos
theorem him:type_of% @Tryz.zeroValue9:=@Tryz.zeroValue9
theorem hir:type_of% @Tryz.zeroValue3:=@Tryz.zeroValue3
theorem Pv:type_of% @Tryz.func142:=@Tryz.func142
theorem Th:type_of% @Nat.not_lt_zero:=@Nat.not_lt_zero
theorem Pw:type_of% @Nat.lt_or_ge:=@Nat.lt_or_ge
theorem Px:type_of% @List.set_set:=@List.set_set
theorem Ti:type_of% @List.nodup_cons:=@List.nodup_cons
theorem WR:type_of% @List.mem_append_right:=@List.mem_append_right
theorem WS:type_of% @List.findSome?_append:=@List.findSome?_append
theorem Tj:type_of% @List.drop_left':=@List.drop_left'
theorem Py:type_of% @if_false:=@if_false
theorem WT:type_of% @World.cell?_alloc_lt:=@World.cell?_alloc_lt
theorem WU:type_of% @Lib.byteCells_length:=@Lib.byteCells_length
theorem Tk:type_of% @Option.map_map:=@Option.map_map
theorem Zj:type_of% @wp_region_quiet_lit:=@wp_region_quiet_lit
theorem WV:type_of% @wpList_append_grows:=@wpList_append_grows
theorem WW:type_of% @List.getElem_append:=@List.getElem_append
theorem cpu:type_of% @Array.getElem?_push:=@Array.getElem?_push
end Go.Proofs.YtlgidcmmgohagaaGreat
namespace Go.Proofs
open Go.Shelf
def Tryz.Hr:Go.Shelf.Ren:=⟨fun|106=>191|213=>218|265=>247|n=>n,fun|9=>9|3=>3|n=>n,fun|n=>n⟩
theorem Tryz.WX:Go.Proofs.Lays.n106 Tryz.prog Tryz.Hr:={
 mixed:=by kernel_rfl
 f106:=Tryz.func191.trans (congrArg some (by kernel_rfl))
 f213:=Tryz.func218.trans (congrArg some (by kernel_rfl))
 f265:=Tryz.func247.trans (congrArg some (by kernel_rfl))
 t3:=Tryz.underlying3
 a3:=Tryz.isAgg3
 z3:=Tryz.sizeOf3
 v3:=Tryz.zeroValue3
 t9:=Tryz.underlying9
 a9:=Tryz.isAgg9
 z9:=Tryz.sizeOf9
 v9:=Tryz.zeroValue9 }
open Go.RowKit in
theorem Tryz.strings_Compare(a b:ByteArray)(w:World):
  Calls Tryz.prog 191 #[.string a,.string b] w fun e w'=>e=.returned (.int .i64 (Lib.compareBytes a.data.toList b.data.toList))/\w'=w:=Any.strings_Compare Tryz.WX a b w
def Tryz.Hs:Go.Shelf.Ren:=⟨fun|137=>185|217=>216|266=>246|n=>n,fun|9=>9|5=>5|3=>3|n=>n,fun|n=>n⟩
theorem Tryz.WY:Go.Proofs.Lays.n137 Tryz.prog Tryz.Hs:={
 mixed:=by kernel_rfl
 f137:=Tryz.func185.trans (congrArg some (by kernel_rfl))
 f217:=Tryz.func216.trans (congrArg some (by kernel_rfl))
 f266:=Tryz.func246.trans (congrArg some (by kernel_rfl))
 t3:=Tryz.underlying3
 a3:=Tryz.isAgg3
 z3:=Tryz.sizeOf3
 v3:=Tryz.zeroValue3
 t5:=Tryz.underlying5
 a5:=Tryz.isAgg5
 z5:=Tryz.sizeOf5
 v5:=Tryz.zeroValue5
 t9:=Tryz.underlying9
 a9:=Tryz.isAgg9
 z9:=Tryz.sizeOf9
 v9:=Tryz.zeroValue9 }
open Go.RowKit in
theorem Tryz.strings_IndexByte(s:ByteArray)(c:Int)(w:World):
  Calls Tryz.prog 185 #[.string s,.int .u8 c] w fun e w'=>e=.returned (.int .i64 (Lib.indexByte s.data.toList c.toNat.toUInt8))/\w'=w:=Any.strings_IndexByte Tryz.WY s c w
def Tryz.Fh:Go.Shelf.Ren:=⟨fun|316=>186|n=>n,fun|9=>9|3=>3|4=>4|37=>204|0=>0|127=>310|5=>5|n=>n,fun|n=>n⟩
theorem Tryz.Tl:Go.Proofs.LaysM.n316 Tryz.prog Tryz.Fh:={
 mixed:=by kernel_rfl
 f316:=Tryz.func186.trans (congrArg some (by kernel_rfl))
 t0:=Tryz.underlying0
 a0:=Tryz.isAgg0
 z0:=Tryz.sizeOf0
 v0:=Tryz.zeroValue0
 t3:=Tryz.underlying3
 a3:=Tryz.isAgg3
 z3:=Tryz.sizeOf3
 v3:=Tryz.zeroValue3
 t4:=Tryz.underlying4
 a4:=Tryz.isAgg4
 z4:=Tryz.sizeOf4
 v4:=Tryz.zeroValue4
 t9:=Tryz.underlying9
 a9:=Tryz.isAgg9
 z9:=Tryz.sizeOf9
 v9:=Tryz.zeroValue9
 t37:=Tryz.underlying204
 a37:=Tryz.isAgg204
 z37:=Tryz.sizeOf204
 v37:=Tryz.zeroValue204
 t127:=Tryz.underlying310
 a127:=Tryz.isAgg310
 z127:=Tryz.sizeOf310
 v127:=Tryz.zeroValue310
 t5:=Tryz.underlying5
 a5:=Tryz.isAgg5
 z5:=Tryz.sizeOf5
 v5:=Tryz.zeroValue5
 i0:=by kernel_rfl
 i3:=by kernel_rfl
 i4:=by kernel_rfl
 i5:=by kernel_rfl
 i9:=by kernel_rfl
 i37:=by kernel_rfl
 i127:=by kernel_rfl }
open Go.RowKit in
theorem Tryz.stringslite_Clone(s:ByteArray)(w:World)(fns:s.size<=281474976710656):
  Calls Tryz.prog 186 #[.string s] w fun e w'=>e=.returned (.string s)/\Below w.heap.size w w':=Any.stringslite_Clone Tryz.Tl s w fns
def Tryz.Ht:Go.Shelf.Ren:=⟨fun|217=>216|266=>246|n=>n,fun|9=>9|5=>5|3=>3|n=>n,fun|n=>n⟩
theorem Tryz.WZ:Go.Proofs.Lays.n217 Tryz.prog Tryz.Ht:={
 mixed:=by kernel_rfl
 f217:=Tryz.func216.trans (congrArg some (by kernel_rfl))
 f266:=Tryz.func246.trans (congrArg some (by kernel_rfl))
 t3:=Tryz.underlying3
 a3:=Tryz.isAgg3
 z3:=Tryz.sizeOf3
 v3:=Tryz.zeroValue3
 t5:=Tryz.underlying5
 a5:=Tryz.isAgg5
 z5:=Tryz.sizeOf5
 v5:=Tryz.zeroValue5
 t9:=Tryz.underlying9
 a9:=Tryz.isAgg9
 z9:=Tryz.sizeOf9
 v9:=Tryz.zeroValue9 }
open Go.RowKit Go.Lib in
theorem Tryz.stringslite_IndexByte(s:ByteArray)(c:Int)(w:World):
  Calls Tryz.prog 216 #[.string s,.int .u8 c] w fun e w'=>e=.returned (.int .i64 (Lib.indexByte s.data.toList c.toNat.toUInt8))/\w'=w:=Any.stringslite_IndexByte Tryz.WZ s c w
def Tryz.Pz:Go.Shelf.Ren:=⟨fun|6=>171|15=>208|14=>209|28=>233|29=>234|20=>235|21=>236|22=>237|23=>238|24=>239|25=>240|26=>241|27=>242|46=>255|47=>251|48=>252|49=>256|50=>257|57=>264|n=>n,fun|22=>55|24=>96|25=>264|3=>3|39=>301|0=>0|53=>323|55=>325|4=>4|46=>317|45=>316|50=>232|5=>5|9=>9|66=>332|70=>336|76=>350|77=>98|n=>n,fun|n=>n⟩
theorem Tryz.aab:Go.Proofs.SlLaysF0.n6 Tryz.prog Tryz.Pz:={
 mixed:=by kernel_rfl
 f6:=⟨Tryz.f171.name,by decide,Tryz.func171.trans (congrArg some (by kernel_rfl))⟩
 f14:=⟨Tryz.f209.name,by decide,Tryz.func209.trans (congrArg some (by kernel_rfl))⟩
 f15:=Tryz.func208.trans (congrArg some (by kernel_rfl))
 f20:=⟨Tryz.f235.name,by decide,Tryz.func235.trans (congrArg some (by kernel_rfl))⟩
 f21:=⟨Tryz.f236.name,by decide,Tryz.func236.trans (congrArg some (by kernel_rfl))⟩
 f22:=⟨Tryz.f237.name,by decide,Tryz.func237.trans (congrArg some (by kernel_rfl))⟩
 f23:=⟨Tryz.f238.name,by decide,Tryz.func238.trans (congrArg some (by kernel_rfl))⟩
 f24:=⟨Tryz.f239.name,by decide,Tryz.func239.trans (congrArg some (by kernel_rfl))⟩
 f25:=⟨Tryz.f240.name,by decide,Tryz.func240.trans (congrArg some (by kernel_rfl))⟩
 f26:=⟨Tryz.f241.name,by decide,Tryz.func241.trans (congrArg some (by kernel_rfl))⟩
 f27:=⟨Tryz.f242.name,by decide,Tryz.func242.trans (congrArg some (by kernel_rfl))⟩
 f28:=Tryz.func233.trans (congrArg some (by kernel_rfl))
 f29:=Tryz.func234.trans (congrArg some (by kernel_rfl))
 f46:=⟨Tryz.f255.name,by decide,Tryz.func255.trans (congrArg some (by kernel_rfl))⟩
 f47:=Tryz.func251.trans (congrArg some (by kernel_rfl))
 f48:=Tryz.func252.trans (congrArg some (by kernel_rfl))
 f49:=⟨Tryz.f256.name,by decide,Tryz.func256.trans (congrArg some (by kernel_rfl))⟩
 f50:=⟨Tryz.f257.name,by decide,Tryz.func257.trans (congrArg some (by kernel_rfl))⟩
 f57:=⟨Tryz.f264.name,by decide,Tryz.func264.trans (congrArg some (by kernel_rfl))⟩
 t0:=Tryz.underlying0
 a0:=Tryz.isAgg0
 z0:=Tryz.sizeOf0
 v0:=Tryz.zeroValue0
 t3:=Tryz.underlying3
 a3:=Tryz.isAgg3
 z3:=Tryz.sizeOf3
 v3:=Tryz.zeroValue3
 t4:=Tryz.underlying4
 a4:=Tryz.isAgg4
 z4:=Tryz.sizeOf4
 v4:=Tryz.zeroValue4
 t5:=Tryz.underlying5
 a5:=Tryz.isAgg5
 z5:=Tryz.sizeOf5
 v5:=Tryz.zeroValue5
 t9:=Tryz.underlying9
 a9:=Tryz.isAgg9
 z9:=Tryz.sizeOf9
 v9:=Tryz.zeroValue9
 t22:=Tryz.underlying55
 a22:=Tryz.isAgg55
 z22:=Tryz.sizeOf55
 v22:=Tryz.zeroValue55
 t25:=Tryz.underlying264
 a25:=Tryz.isAgg264
 z25:=Tryz.sizeOf264
 v25:=Tryz.zeroValue264
 t39:=Tryz.underlying301
 a39:=Tryz.isAgg301
 z39:=Tryz.sizeOf301
 v39:=Tryz.zeroValue301
 t45:=Tryz.underlying316
 a45:=Tryz.isAgg316
 z45:=Tryz.sizeOf316
 v45:=Tryz.zeroValue316
 t46:=Tryz.underlying317
 a46:=Tryz.isAgg317
 z46:=Tryz.sizeOf317
 v46:=Tryz.zeroValue317
 t50:=Tryz.underlying232
 a50:=Tryz.isAgg232
 z50:=Tryz.sizeOf232
 v50:=Tryz.zeroValue232
 t53:=Tryz.underlying323
 a53:=Tryz.isAgg323
 z53:=Tryz.sizeOf323
 v53:=Tryz.zeroValue323
 t55:=Tryz.underlying325
 a55:=Tryz.isAgg325
 z55:=Tryz.sizeOf325
 v55:=Tryz.zeroValue325
 t66:=Tryz.underlying332
 a66:=Tryz.isAgg332
 z66:=Tryz.sizeOf332
 v66:=Tryz.zeroValue332
 t70:=Tryz.underlying336
 a70:=Tryz.isAgg336
 z70:=Tryz.sizeOf336
 v70:=Tryz.zeroValue336
 t76:=Tryz.underlying350
 a76:=Tryz.isAgg350
 z76:=Tryz.sizeOf350
 v76:=Tryz.zeroValue350
 t77:=Tryz.underlying98
 a77:=Tryz.isAgg98
 z77:=Tryz.sizeOf98
 v77:=Tryz.zeroValue98 }
def Tryz.KZ:Go.Shelf.Ren:=⟨fun|41=>170|n=>n,fun|22=>55|23=>96|4=>4|n=>n,fun|n=>n⟩
theorem Tryz.Tm:Go.Proofs.SlLaysE0.n41 Tryz.prog Tryz.KZ:={
 mixed:=by kernel_rfl
 f41:=⟨Tryz.f170.name,by decide,Tryz.func170.trans (congrArg some (by kernel_rfl))⟩
 t4:=Tryz.underlying4
 a4:=Tryz.isAgg4
 z4:=Tryz.sizeOf4
 v4:=Tryz.zeroValue4
 t22:=Tryz.underlying55
 a22:=Tryz.isAgg55
 z22:=Tryz.sizeOf55
 v22:=Tryz.zeroValue55 }
def Tryz.La:Go.Shelf.Ren:=⟨fun|41=>201|n=>n,fun|22=>59|23=>29|4=>4|n=>n,fun|n=>n⟩
theorem Tryz.Tn:Go.Proofs.SlLaysE0.n41 Tryz.prog Tryz.La:={
 mixed:=by kernel_rfl
 f41:=⟨Tryz.f201.name,by decide,Tryz.func201.trans (congrArg some (by kernel_rfl))⟩
 t4:=Tryz.underlying4
 a4:=Tryz.isAgg4
 z4:=Tryz.sizeOf4
 v4:=Tryz.zeroValue4
 t22:=Tryz.underlying59
 a22:=Tryz.isAgg59
 z22:=Tryz.sizeOf59
 v22:=Tryz.zeroValue59 }
end Go.Proofs
namespace Go.Proofs.YtlgidcmmgohagaaGreat
open Go.RowKit
set_option linter.unusedVariables false
theorem fn0(c0 c1 c2 c3:Value)(w:World):(Instr.field 213 (.agg #[c0,c1,c2,c3]) 0).run Tryz.prog w=.ok c0 w:=by kernel_rfl
theorem fwd(c0 c1 c2 c3:Value)(w:World):(Instr.field 213 (.agg #[c0,c1,c2,c3]) 1).run Tryz.prog w=.ok c1 w:=by kernel_rfl
theorem crc(c0 c1 c2 c3:Value)(w:World):(Instr.field 213 (.agg #[c0,c1,c2,c3]) 2).run Tryz.prog w=.ok c2 w:=by kernel_rfl
theorem cse(c0 c1 c2 c3:Value)(w:World):(Instr.field 213 (.agg #[c0,c1,c2,c3]) 3).run Tryz.prog w=.ok c3 w:=by kernel_rfl
set_option maxRecDepth 100000 in
set_option maxHeartbeats 400000 in
theorem Lb(p g n cap j:Nat)(k:Int)(d:ByteArray)(ea:Option Addr)(el ec:Nat)(h:Int)(w:World)(hp:p<w.heap.size)(hg:g<w.heap.size)(h0:w.cell? (eI p 0)=some (.slice (some (eI g 0)) n cap))
  (hn:j<n)(hm:n<=400)
  (a:w.cell? (eI g (j*4))=some (eJ k))(b:w.cell? (eI g (j*4+1))=some (.string d))(c:w.cell? (eI g (j*4+2))=some (.slice ea el ec))(f:w.cell? (eI g (j*4+3))=some (eJ h)):
  gc 113 #[hh p,eJ ((j:Int)+1)] w fun e w'=>e=.returned (.agg #[eJ k,.string d,.slice ea el ec,eJ h])/\w'=w.alloc (.cells #[eJ k,.string d,.slice ea el ec,eJ h] 213):=by
 have i:((j:Int)+1-1)=j:=by omega
 go_enter Tryz.func113,Tryz.ntmps113;go_wp2;exact bodyPost_ret (v:=.agg #[eJ k,.string d,.slice ea el ec,eJ h]) (by simp[results,Tryz.results113,go_sem]) rfl ⟨rfl,rfl⟩
set_option maxRecDepth 100000 in
set_option maxHeartbeats 400000 in
theorem Dx(p n cap:Nat)(a:Option Addr)(id:Int)(w:World)(h0:w.cell? (eI p 0)=some (.slice a n cap))(hm:n<=400)(hid:id<1\/(n:Int)<id):
  gc 61 #[hh p,eJ id] w (Do (eJ 0) w):=by
 by_cases h1:id<1
 ·go_enter Tryz.func61,Tryz.ntmps61
  go_wp2;go_ret;exact⟨rfl,rfl⟩
 ·have h2:(n:Int)<id:=by omega
  go_enter Tryz.func61,Tryz.ntmps61;go_wp2;go_ret;exact⟨rfl,rfl⟩
set_option maxRecDepth 100000 in
set_option maxHeartbeats 400000 in
theorem Dy(p g n cap j:Nat)(k:Int)(d:ByteArray)(ea:Option Addr)(el ec:Nat)(h:Int)(w:World)(hp:p<w.heap.size)(hg:g<w.heap.size)(h0:w.cell? (eI p 0)=some (.slice (some (eI g 0)) n cap))
  (hn:j<n)(hm:n<=400)
  (a:w.cell? (eI g (j*4))=some (eJ k))(b:w.cell? (eI g (j*4+1))=some (.string d))(c:w.cell? (eI g (j*4+2))=some (.slice ea el ec))(f:w.cell? (eI g (j*4+3))=some (eJ h)):
  gc 61 #[hh p,eJ ((j:Int)+1)] w fun e w'=>e=.returned (eJ k)/\w'=w.alloc (.cells #[eJ k,.string d,.slice ea el ec,eJ h] 213):=by
 have i:=fun W hp hg h0 a b c f=>Lb p g n cap j k d ea el ec h W hp hg h0 hn hm a b c f;have t1:¬((j:Int)+1<1):=by omega
 have f0:=fn0;have t2:¬((n:Int)<(j:Int)+1):=by omega
 go_enter Tryz.func61,Tryz.ntmps61;go_wp2_with(go_at_call 113;refine(i _ hp hg h0 a b c f).mono ?_;rintro e w' ⟨rfl,rfl⟩);go_ret;exact⟨rfl,rfl⟩
set_option maxRecDepth 100000 in
set_option maxHeartbeats 400000 in
theorem Tp(p n cap:Nat)(a:Option Addr)(id:Int)(w:World)(h0:w.cell? (eI p 0)=some (.slice a n cap))(hm:n<=400)(hid:id<1\/(n:Int)<id):
  gc 84 #[hh p,eJ id] w (Do (.tuple #[.string ByteArray.empty,eJ 13]) w):=by
 have b:=Dx p n cap a id w h0 hm hid;go_enter Tryz.func84,Tryz.ntmps84;go_wp2_with(go_at_call 61;refine b.mono ?_;rintro e w' ⟨rfl,rfl⟩);go_ret2;exact⟨rfl,rfl⟩
set_option maxRecDepth 100000 in
set_option maxHeartbeats 400000 in
theorem PA(p g n cap j:Nat)(k:Int)(d:ByteArray)(ea:Option Addr)(el ec:Nat)(h:Int)(w:World)(hp:p<w.heap.size)(hg:g<w.heap.size)(h0:w.cell? (eI p 0)=some (.slice (some (eI g 0)) n cap))
  (hn:j<n)(hm:n<=400)
  (c:w.cell? (eI g (j*4))=some (eJ k))(f:w.cell? (eI g (j*4+1))=some (.string d))(i:w.cell? (eI g (j*4+2))=some (.slice ea el ec))(l:w.cell? (eI g (j*4+3))=some (eJ h)):
  gc 84 #[hh p,eJ ((j:Int)+1)] w (pB (if k=1 then .tuple #[.string d,eJ 0]else .tuple #[.string ByteArray.empty,eJ 13]) w):=by
 have m:=Dy p g n cap j k d ea el ec h w hp hg h0 hn hm c f i l;have q:=fun W hp hg h0 c f i l=>Lb p g n cap j k d ea el ec h W hp hg h0 hn hm c f i l;by_cases hk:k=1
 ·subst hk
  rw[if_pos rfl];have a:∀b o,b<w.heap.size->(w.alloc (.cells #[eJ 1,.string d,.slice ea el ec,eJ h] 213)).cell? (eI b o)=w.cell? (eI b o):=fun b o a=>World.cell?_alloc_past _ _ _ a
  have f1:=fwd;go_enter Tryz.func84,Tryz.ntmps84;go_wp2_with(first
   |(go_at_call 61;refine m.mono ?_;rintro e w' ⟨rfl,rfl⟩)
   |(go_at_call 113;refine(q _ (by simp;omega) (by simp;omega) (by rw[a _ _ hp];exact h0) (by rw[a _ _ hg];exact c) (by rw[a _ _ hg];exact f) (by rw[a _ _ hg];exact i) (by rw[a _ _ hg];exact l)).mono ?_;rintro e w' ⟨rfl,rfl⟩))
  go_ret2;exact⟨rfl,((Below.refl _ _).alloc (Nat.le_refl _) _).alloc (by simp) _⟩
 ·rw[if_neg hk]
  have r:(k==1)=false:=by simpa using hk
  go_enter Tryz.func84,Tryz.ntmps84;go_wp2_with(go_at_call 61;refine m.mono ?_;rintro e w' ⟨rfl,rfl⟩);go_ret2;exact⟨rfl,((Below.refl _ _).alloc (Nat.le_refl _) _)⟩
set_option maxRecDepth 100000 in
set_option maxHeartbeats 400000 in
theorem Hu(w:World):
  gc 59 #[] w fun e w'=>e=.returned (.pointer (some (eI (w.heap.size+2) 0)))/\w'=((w.alloc (.map #[] 0)).alloc (.map #[] 0)).alloc (.cells #[.slice none 0 0,.map (some w.heap.size),.map (some (w.heap.size+1)),.slice none 0 0,.bool false] 185):=by
 have a:=@run_makeMap Tryz.prog;go_enter Tryz.func59,Tryz.ntmps59;go_wp2;go_ret;exact⟨rfl,rfl⟩
set_option maxRecDepth 100000 in
set_option maxHeartbeats 400000 in
theorem Fi(w:World):
  gc 25 #[] w fun e w'=>e=.returned (.pointer (some (eI (w.heap.size+3) 0)))/\w'=(((w.alloc (.map #[] 0)).alloc (.map #[] 0)).alloc (.cells #[.slice none 0 0,.map (some w.heap.size),.map (some (w.heap.size+1)),.slice none 0 0,.bool false] 185)).alloc (.cells #[.pointer (some (eI (w.heap.size+2) 0))] 119):=by
 go_enter Tryz.func25,Tryz.ntmps25;go_wp2_with(go_at_call 59;refine(Hu _).mono ?_;rintro e w' ⟨rfl,rfl⟩);go_ret;exact⟨rfl,rfl⟩
theorem tR{P:Program}{ops:Array Oper}{o:Oper}{a:Act}{w:World}{K:Act->World->Prop}{k:Exit->Act->World->Prop}{l:Prop}
  (hg:o.guard=none)(s x:Operand)(t:TypeId)(p:o.op=Op.call { callee:=Callee.builtin Builtin.append,args:=#[s,x],argTypes:=#[t,t] })
  (base:Nat)(e:TypeId)(i:TypeInfo)(z:Value)(size bytes:Nat)(h1:P.underlying t=some (.slice e))(h2:P.info? e=some i)(h3:i.zero=some z)(q:i.size=size)(r:i.bytes=bytes)(h6:z.cells.size=size)(u:0<size)
  (v:Value)(n:Nat)(g:List Value)(hs:a.eval s=v)(y:w.ownsRow base e size v n g)
  (h:Addr)(m c:Nat)(d:List Value)(hx:a.eval x=.slice (some h) m c)(hn:d.length=m*size)(hc:∀j f,d[j]?=some f->w.cell? (h.add j)=some f)(A:∀f∈d,f.oneCell'=true)
  (B:n+m<=maxLen)(C:(n+m)*bytes<=140737488355328)(D:base<=w.heap.size)
  (E:∀b w',w'.ownsRow base e size b (n+m) (g++d)->w.grownBy w' v.ownBlock->(b.ownBlock=v.ownBlock\/b.ownBlock=some w.heap.size)->K (a.put o.dst b) w'):
  if Region.wanted o (yielded ops a.tmps)=true then Oper.wp P o a w K k else l:=by
 have hw:Region.wanted o (yielded ops a.tmps)=true:=by simp[Region.wanted,hg]
 rw[if_pos hw];obtain⟨b,w',F,G,H,_,I⟩:=run_append_own_at (P:=P) w base t o.type e i z size bytes h1 h2 h3 q r h6 u v n g y h m c d hn hc A B C D;unfold Oper.wp;simp[execOp,p,resolve,invoke,builtin,hs,hx,F,Result.andThen];exact E b w' G H I
theorem Zk:(Tryz.prog.info? 213).map (fun i=>(i.zero,i.size,i.bytes))=some (some (.agg #[eJ 0,.string ByteArray.empty,.slice none 0 0,eJ 0]),4,56):=by kernel_rfl
theorem Tq(w:World)(c0 c1 c2 c3:Value)(t:TypeId):∀j a,[c0,c1,c2,c3][j]?=some a->(w.alloc (.cells #[c0,c1,c2,c3] t)).drew.cell? (((eI w.heap.size 0):Addr).add j)=some a:=by
 intro j a h
 match j,h with
 |0,h=>simpa [Addr.add]using h
 |1,h=>simpa [Addr.add]using h
 |2,h=>simpa [Addr.add]using h
 |3,h=>simpa [Addr.add]using h
 |j+4,h=>simp at h
theorem fj{w:World}{base:Nat}{e:TypeId}{size:Nat}{v:Value}{n:Nat}{xs:List Value}(h:w.ownsRow base e size v n xs)(hn:0<n):∃g cap,v=.slice (some (eI g 0)) n cap:=by
 rcases h.2 with⟨_,h0⟩|⟨g,cap,_,hv,_⟩
 ·omega
 ·exact⟨g,cap,hv⟩
theorem Lc{w b:World}{c o2:Obj}{r:Option Nat}(hg:((w.alloc c).alloc o2).drew.grownBy b r){p:Nat}(hp:p<w.heap.size)(hr:some p≠r){v:Value}{i:Nat}(h:w.cell? (eI p i)=some v):b.cell? (eI p i)=some v:=by
 rw[World.cell?_of_block (a:=(eI p i)) (hg.block p (by simp;omega) hr)];show((w.alloc c).alloc o2).cell? (eI p i)=_;rw[World.cell?_alloc_past _ _ _ (by simp;omega),World.cell?_alloc_past _ _ _ hp,h]
theorem Fj{w b:World}{c o2:Obj}{r:Option Nat}(hg:((w.alloc c).alloc o2).drew.grownBy b r){p:Nat}(hp:p<w.heap.size)(hr:some p≠r){i:Nat}(h:w.frozen? (eI p i)=false):b.frozen? (eI p i)=false:=by
 rw[World.frozen?_of_block (a:=(eI p i)) (hg.block p (by simp;omega) hr)];show((w.alloc c).alloc o2).frozen? (eI p i)=_;rw[World.frozen?_alloc_past _ _ _ (by simp;omega),World.frozen?_alloc_past _ _ _ hp,h]
def Az (w w':World)(p:Nat)(a:Option Addr)(n cap:Nat)(xs d:List Value):Prop:=
 ∃g c b,b.ownsRow 0 213 4 (.slice (some ⟨g,0,none⟩) (n+1) c) (n+1) (xs++d)/\(∃e o2,((w.alloc e).alloc o2).drew.grownBy b (Value.slice a n cap).ownBlock/\((some g:Option Nat)=(Value.slice a n cap).ownBlock\/g=w.heap.size+2))/\
  w'=b.setCell ⟨p,0,none⟩ (.slice (some ⟨g,0,none⟩) (n+1) c)
set_option maxRecDepth 100000 in
set_option maxHeartbeats 800000 in
theorem Hv(p:Nat)(k h:Int)(d:ByteArray)(a:Option Addr)(n cap:Nat)(xs:List Value)(ea:Option Addr)(el ec:Nat)(w:World)(hp:p<w.heap.size)(hn:n<400)
  (m:w.cell? (eI p 0)=some (.slice a n cap))(f0:w.frozen? (eI p 0)=false)(f:w.ownsRow 0 213 4 (.slice a n cap) n xs)(iD:some p≠(Value.slice a n cap).ownBlock):
  gc 112 #[hh p,.agg #[eJ k,.string d,.slice ea el ec,eJ h]] w fun e w'=>e=.returned (.tuple #[eJ ((n:Int)+1),eJ 0])/\Az w w' p a n cap xs [eJ k,.string d,.slice ea el ec,eJ h]:=by
 obtain⟨o,hi,r,s,t⟩:=info_parts Zk;have i:∀b∈[Value.int .i64 k,.string d,.slice ea el ec,eJ h],b.oneCell'=true:=by intro b hu;simp at hu;rcases hu with rfl|rfl|rfl|rfl<;>rfl
 have u:Hid (w.ownsRow 0 213 4 (.slice a n cap) n xs):=f;have j:Hid (some p≠(Value.slice a n cap).ownBlock):=iD;have v:Hid (∀b∈[Value.int .i64 k,.string d,.slice ea el ec,eJ h],b.oneCell'=true):=i;clear f iD i;go_enter Tryz.func112,Tryz.ntmps112;go_wp2
 go_region_law(refine tR rfl (.tmp 16) (.tmp 18) 181 rfl 0 213 o _ 4 56 Tryz.underlying181 hi r s t rfl (by decide) (.slice a n cap) n xs (by simp[Act.eval]) ((u.out.alloc _).alloc _) (eI (w.heap.size+1) 0) 1 1 [eJ k,.string d,.slice ea el ec,eJ h] (by simp[Act.eval]) rfl (by have q:=Tq (w.alloc (.cells #[eJ k,.string d,.slice ea el ec,eJ h] 213)) (eJ k) (.string d) (.slice ea el ec) (eJ h) 213;rw[World.size_alloc]at q;exact q) v.out (by unfold maxLen;omega) (by omega) (Nat.zero_le _) ?_;intro A x l c y;obtain⟨g,z,rfl⟩:=fj l (by omega);have B:=Lc c hp j.out m;have C:=Fj c hp j.out f0)
 all_goals(go_wp2;go_ret2;exact⟨rfl,g,z,x,l,⟨_,_,c,by simpa [Value.ownBlock]using y⟩,rfl⟩)
theorem Az.facts{w w':World}{p:Nat}{a:Option Addr}{n cap:Nat}{xs c:List Value}(i:Az w w' p a n cap xs c){c1 c2 c3 c4:Value}(hp:w.heap[p]?=some (.cells #[.slice a n cap,c1,c2,c3,c4] 185 (0,0)))(iD:some p≠(Value.slice a n cap).ownBlock):
  ∃g b,w'.heap[p]?=some (.cells #[.slice (some (eI g 0)) (n+1) b,c1,c2,c3,c4] 185 (0,0))/\w'.ownsRow 0 213 4 (.slice (some (eI g 0)) (n+1) b) (n+1) (xs++c)/\((some g:Option Nat)=(Value.slice a n cap).ownBlock\/w.heap.size<=g)/\
   w'.os=w.os/\w'.tape=w.tape/\w'.output=w.output/\w.heap.size<=w'.heap.size/\∀k,k<w.heap.size->k≠p->some k≠(Value.slice a n cap).ownBlock->w'.heap[k]?=w.heap[k]?:=by
 obtain⟨g,b,d,j,⟨l,o2,hg,e⟩,rfl⟩:=i;have m:p<w.heap.size:=(Array.getElem?_eq_some_iff.1 hp).1;have f:∀k,k<w.heap.size->some k≠(Value.slice a n cap).ownBlock->d.heap[k]?=w.heap[k]?:=by
  intro k hk hne;rw[hg.block k (by simp;omega) hne];show((w.alloc l).alloc o2).heap[k]?=_;rw[Below.heap_alloc _ _ _ (by simp;omega),Below.heap_alloc _ _ _ hk]
 have o:d.heap[p]?=some (.cells #[.slice a n cap,c1,c2,c3,c4] 185 (0,0)):=by rw[f p m iD,hp]
 have q:g≠p:=by
  rintro rfl;rcases e with h|h
  ·exact iD h
  ·omega
 have hs:=hg.size;simp at hs;refine⟨g,b,?_,?_,?_,?_,?_,?_,?_,?_⟩
 ·simp[World.setCell,Array.getElem?_modify,o]
 ·obtain⟨h1,h2⟩:=j
  refine⟨h1,?_⟩;rcases h2 with⟨h,_⟩|⟨x,y,s,hv,t,u,r⟩
  ·cases h
  ·cases hv
   exact Or.inr ⟨g,b,s,rfl,t,by rw[Below.heap_setCell _ _ _ _ q];exact u,r⟩
 ·rcases e with h|h
  ·exact Or.inl h
  ·exact Or.inr (by omega)
 ·exact hg.os
 ·exact hg.tape
 ·exact hg.output
 ·simp;omega
 ·intro k hk v hne
  rw[Below.heap_setCell _ _ _ _ v,f k hk hne]
set_option maxRecDepth 100000 in
set_option maxHeartbeats 400000 in
theorem Hw(p:Nat)(k h:Int)(d:ByteArray)(a:Option Addr)(n cap:Nat)(ea:Option Addr)(el ec:Nat)(w:World)(hp:p<w.heap.size)(hn:400<=n)
  (b:w.cell? (eI p 0)=some (.slice a n cap)):
  gc 112 #[hh p,.agg #[eJ k,.string d,.slice ea el ec,eJ h]] w fun e w'=>e=.returned (.tuple #[eJ 0,eJ 11])/\w'=w.alloc (.cells #[eJ k,.string d,.slice ea el ec,eJ h] 213):=by
 go_enter Tryz.func112,Tryz.ntmps112;go_wp2;go_ret2;exact⟨rfl,rfl⟩
set_option maxRecDepth 100000 in
set_option maxHeartbeats 400000 in
theorem uf(s:ByteArray)(w:World)(a:s.size<=281474976710656):
  gc 130 #[.string s] w (pB (.string s) w):=by
 have b:=Tryz.stringslite_Clone s w a;go_enter Tryz.func130,Tryz.ntmps130;go_wp2_with(go_at_call 186;refine b.mono ?_;rintro e w' ⟨rfl,c⟩);go_ret;exact⟨rfl,c⟩
end Go.Proofs.YtlgidcmmgohagaaGreat
namespace Go.Proofs.YtlgidcmmgohagaaGreat
open Go.RowKit
set_option linter.unusedVariables false
structure gA where
 a:Option Addr
 n:Nat
 c:Nat
 b:Bool
def pt0:gA:=⟨none,0,0,false⟩
variable {ft:gA}
theorem Xa:Maps.Keyed Tryz.prog 9:=Maps.string_keyed Tryz.underlying9
theorem Fk(w:World):(zeroValue 29).run Tryz.prog w=.ok (eJ 0) w:=by kernel_rfl
def fq (ft:gA)(w:World)(p:Nat)(a:Option Addr)(n cap bf bd:Nat):Prop:=w.heap[p]?=some (.cells #[.slice a n cap,.map (some bf),.map (some bd),.slice ft.a ft.n ft.c,.bool ft.b] 185 (0,0))
theorem fq.c0{w:World}{p:Nat}{a:Option Addr}{n cap bf bd:Nat}(h:fq ft w p a n cap bf bd):w.cell? (eI p 0)=some (.slice a n cap):=by unfold fq at h;simp[World.cell?,h]
theorem fq.c1{w:World}{p:Nat}{a:Option Addr}{n cap bf bd:Nat}(h:fq ft w p a n cap bf bd):w.cell? (eI p 1)=some (.map (some bf)):=by unfold fq at h;simp[World.cell?,h]
theorem fq.c2{w:World}{p:Nat}{a:Option Addr}{n cap bf bd:Nat}(h:fq ft w p a n cap bf bd):w.cell? (eI p 2)=some (.map (some bd)):=by unfold fq at h;simp[World.cell?,h]
theorem fq.f0{w:World}{p:Nat}{a:Option Addr}{n cap bf bd:Nat}(h:fq ft w p a n cap bf bd):w.frozen? (eI p 0)=false:=by unfold fq at h;simp[World.frozen?,h]
theorem fq.lt{w:World}{p:Nat}{a:Option Addr}{n cap bf bd:Nat}(h:fq ft w p a n cap bf bd):p<w.heap.size:=(Array.getElem?_eq_some_iff.1 h).1
theorem fq.below{w w':World}{p:Nat}{a:Option Addr}{n cap bf bd:Nat}(h:fq ft w p a n cap bf bd)(b:ik w w'):fq ft w' p a n cap bf bd:=by
 unfold fq at h ⊢;rw[b.block p (Array.getElem?_eq_some_iff.1 h).1,h]
set_option maxRecDepth 100000 in
set_option maxHeartbeats 400000 in
theorem Hx(p:Nat)(d:ByteArray)(w:World)(hd:256<d.size)(hm:d.size<=maxLen):
  gc 77 #[hh p,.string d] w (Do (.tuple #[eJ 0,eJ 11]) w):=by
 unfold maxLen at hm;go_enter Tryz.func77,Tryz.ntmps77;go_wp2;go_ret2;exact⟨rfl,rfl⟩
set_option maxRecDepth 100000 in
set_option maxHeartbeats 400000 in
theorem Hy(p:Nat)(a:Option Addr)(n cap bf bd:Nat)(Df:DataW Unit)(d:ByteArray)(c:Int)(w:World)(hp:fq ft w p a n cap bf bd)(hd:d.size<=256)
  (hf:w.ownsMap Tryz.prog 9 (plainElem Tryz.prog 29) bf n Df)(b:Maps.has Df (.string d.data.toList)=true)(hc:Df.atKey (.string d.data.toList) (.lit (.int .i64 0))=.lit (.int .i64 c)):
  gc 77 #[hh p,.string d] w (Do (.tuple #[eJ c,eJ 0]) w):=by
 have j:=hp.c1;have e:=WideMaps.keyOf_string_mk (P:=Tryz.prog) Tryz.underlying9 (s:=d) (by unfold maxLen;omega);have f:Hid (Df.atKey (.string d.data.toList) (.lit (.int .i64 0))=.lit (.int .i64 c)):=hc;have g:Hid (Maps.has Df (.string d.data.toList)=true):=b;clear hc b;go_enter Tryz.func77,Tryz.ntmps77;go_wp2_with(first
  |(at_lookup;refine wpList_lookup_own_ok_int _ rfl _ _ 182 rfl 9 29 .i64 Xa Tryz.underlying182 Tryz.underlying29 (Fk _) bf n Df rfl hf _ _ rfl e ?_;intro h i k;rw[g.out];obtain rfl:h=c:=by(have:=i.symm.trans f.out;simpa using this))
  |go_in)
 go_ret2;exact⟨rfl,rfl⟩
set_option maxRecDepth 1000000 in
set_option maxHeartbeats 400000 in
theorem Fl(p:Nat)(a:Option Addr)(n cap bf bd:Nat)(Df:DataW Unit)(d:ByteArray)(w:World)(hp:fq ft w p a n cap bf bd)(hd:d.size<=256)(hn:400<=n)
  (hf:w.ownsMap Tryz.prog 9 (plainElem Tryz.prog 29) bf n Df)(c:Maps.has Df (.string d.data.toList)=false):
  gc 77 #[hh p,.string d] w (pB (.tuple #[eJ 0,eJ 11]) w):=by
 have k:=hp.c1;have f:=WideMaps.keyOf_string_mk (P:=Tryz.prog) Tryz.underlying9 (s:=d) (by unfold maxLen;omega);have g:Hid (Maps.has Df (.string d.data.toList)=false):=c;have h:=uf d w (by omega);have i:=fun(W:World) (hW:fq ft W p a n cap bf bd)=>Hw p 1 0 d a n cap none 0 0 W hW.lt hn hW.c0;clear c;go_enter Tryz.func77,Tryz.ntmps77;go_wp2_with(first
  |(at_lookup;refine wpList_lookup_own_ok_int _ rfl _ _ 182 rfl 9 29 .i64 Xa Tryz.underlying182 Tryz.underlying29 (Fk _) bf n Df rfl hf _ _ rfl f ?_;intro l m o;rw[g.out])
  |(go_at_call 130;refine h.mono ?_;rintro e q ⟨rfl,b⟩;have j:=hp.below b)
  |(go_at_call 112;refine(i _ j).mono ?_;rintro e r ⟨rfl,rfl⟩)
  |go_in)
 go_ret2;exact⟨rfl,b.alloc b.size _⟩
theorem tB{a:Type}{P:Program}{k:TypeId}{R:Value->Option (DataW a×List MemPlace)}{w w':World}{b n:Nat}{D:DataW a}(h:w.ownsMap P k R b n D)(e:w'.heap[b]?=w.heap[b]?):w'.ownsMap P k R b n D:=by
 obtain⟨es,c,d,r⟩:=h;exact⟨es,c,e.trans d,r⟩
theorem tz{c:Type}{P:Program}{k:TypeId}{R:Value->Option (DataW c×List MemPlace)}{w:World}{b n:Nat}{D:DataW c}(h:w.ownsMap P k R b n D):∃es a,w.heap[b]?=some (.map es a):=by
 obtain⟨es,a,d,r⟩:=h;exact⟨es,a,d⟩
theorem ul{w:World}{base:Nat}{e:TypeId}{size n:Nat}{v:Value}{xs:List Value}(h:w.ownsRow base e size v n xs){b:Nat}{es:Array MapEntry}{a:Nat}(c:w.heap[b]?=some (.map es a)):some b≠v.ownBlock:=by
 rcases h.2 with⟨rfl,_⟩|⟨g,cap,d,rfl,_,hg,_⟩
 ·simp[Value.ownBlock]
 ·simp only[Value.ownBlock,ne_eq,Option.some.injEq]
  rintro rfl;rw[c]at hg;cases hg
theorem fX{w:World}{base:Nat}{e:TypeId}{size n:Nat}{v:Value}{xs:List Value}(h:w.ownsRow base e size v n xs){b:Nat}{c:Array Value}{t:TypeId}{fz:Nat×Nat}(a:w.heap[b]?=some (.cells c t fz))(ht:t≠e):some b≠v.ownBlock:=by
 rcases h.2 with⟨rfl,_⟩|⟨g,cap,d,rfl,_,hg,_⟩
 ·simp[Value.ownBlock]
 ·simp only[Value.ownBlock,ne_eq,Option.some.injEq]
  rintro rfl;rw[a]at hg;cases hg;exact ht rfl
structure Tr (w w':World)(p b:Nat)(own:Option Nat):Prop where
 os:w'.os=w.os
 tape:w'.tape=w.tape
 output:w'.output=w.output
 size:w.heap.size<=w'.heap.size
 block:∀k,k<w.heap.size->k≠p->k≠b->some k≠own->w'.heap[k]?=w.heap[k]?
theorem eQ{w w':World}{base:Nat}{e:TypeId}{size n:Nat}{v:Value}{xs:List Value}(h:w.ownsRow base e size v n xs)(hk:∀g,v.ownBlock=some g->w'.heap[g]?=w.heap[g]?):w'.ownsRow base e size v n xs:=by
 refine⟨h.1,?_⟩;rcases h.2 with h0|⟨g,cap,a,rfl,b,hg,r⟩
 ·exact Or.inl h0
 ·exact Or.inr ⟨g,cap,a,rfl,b,(hk g rfl).trans hg,r⟩
theorem eK{w:World}{base:Nat}{e:TypeId}{size n:Nat}{v:Value}{xs:List Value}(h:w.ownsRow base e size v n xs){g:Nat}(hg:v.ownBlock=some g):g<w.heap.size:=by
 rcases h.2 with⟨rfl,_⟩|⟨b,cap,c,rfl,_,a,_⟩
 ·simp[Value.ownBlock]at hg
 ·simp[Value.ownBlock]at hg;subst hg;exact(Array.getElem?_eq_some_iff.1 a).1
theorem Ts{w w':World}{p:Nat}{a:Option Addr}{n cap:Nat}{xs b:List Value}(c:Az w w' p a n cap xs b){bf bd:Nat}(hp:fq ft w p a n cap bf bd)(iD:some p≠(Value.slice a n cap).ownBlock):w'.cell? (eI p 1)=some (.map (some bf)):=by
 obtain⟨g,e,d,_⟩:=c.facts hp iD;exact fq.c1 d
theorem PB{w w':World}{p:Nat}{a:Option Addr}{n cap:Nat}{xs d:List Value}(e:Az w w' p a n cap xs d){bf bd:Nat}(hp:fq ft w p a n cap bf bd)(iD:some p≠(Value.slice a n cap).ownBlock)
  {c:Type}{P:Program}{k:TypeId}{R:Value->Option (DataW c×List MemPlace)}{b m:Nat}{D:DataW c}(h:w.ownsMap P k R b m D)(f:b≠p)(hne:some b≠(Value.slice a n cap).ownBlock):w'.ownsMap P k R b m D:=by
 obtain⟨g,j,l,o,q,r,s,t,u,i⟩:=e.facts hp iD;exact tB h (i b h.lt f hne)
set_option maxRecDepth 100000 in
set_option maxHeartbeats 800000 in
theorem Hz(p:Nat)(a:Option Addr)(n cap bf bd:Nat)(xs:List Value)(Df:DataW Unit)(d:ByteArray)(w:World)(hp:fq ft w p a n cap bf bd)(hd:d.size<=256)(hn:n<400)
  (i:w.ownsRow 0 213 4 (.slice a n cap) n xs)(hf:w.ownsMap Tryz.prog 9 (plainElem Tryz.prog 29) bf n Df)(u:Maps.has Df (.string d.data.toList)=false):
  gc 77 #[hh p,.string d] w fun e w'=>e=.returned (.tuple #[eJ ((n:Int)+1),eJ 0])/\
   ∃g j,fq ft w' p (some (eI g 0)) (n+1) j bf bd/\w'.ownsRow 0 213 4 (.slice (some (eI g 0)) (n+1) j) (n+1) (xs++[eJ 1,.string d,.slice none 0 0,eJ 0])/\((some g:Option Nat)=(Value.slice a n cap).ownBlock\/w.heap.size<=g)/\
    w'.ownsMap Tryz.prog 9 (plainElem Tryz.prog 29) bf (n+1) (Df.put (.string d.data.toList) (.lit (.int .i64 ((n:Int)+1))))/\Tr w w' p bf (Value.slice a n cap).ownBlock:=by
 have aa:=hp.c1;have v:=WideMaps.keyOf_string_mk (P:=Tryz.prog) Tryz.underlying9 (s:=d) (by unfold maxLen;omega);have D:Hid (Maps.has Df (.string d.data.toList)=false):=u;have E:=uf d w (by omega);obtain⟨es,ab,l⟩:=tz hf;have x:=ul i l;have o:=fX i (b:=p) hp (by decide);have nK:bf≠p:=by rintro rfl;unfold fq at hp;rw[l]at hp;cases hp
 have F:bf<w.heap.size:=(Array.getElem?_eq_some_iff.1 l).1;have y:∀g,(Value.slice a n cap).ownBlock=some g->g<w.heap.size:=fun g hg=>eK i hg;have z:=fun(W:World) (hW:fq ft W p a n cap bf bd) (hr:W.ownsRow 0 213 4 (.slice a n cap) n xs)=>Hv p 1 0 d a n cap xs none 0 0 W hW.lt hn hW.c0 hW.f0 hr o;have G:Hid (some bf≠(Value.slice a n cap).ownBlock):=x;have q:Hid (some p≠(Value.slice a n cap).ownBlock):=o;have H:Hid (∀g,(Value.slice a n cap).ownBlock=some g->g<w.heap.size):=y;have A:Hid (bf≠p):=nK;have I:Hid (w.ownsRow 0 213 4 (.slice a n cap) n xs):=i;have J:Hid (∀(W:World) (hW:fq ft W p a n cap bf bd) (hr:W.ownsRow 0 213 4 (.slice a n cap) n xs),gc 112 #[hh p,.agg #[eJ 1,.string d,.slice none 0 0,eJ 0]] W fun e w'=>e=.returned (.tuple #[eJ ((n:Int)+1),eJ 0])/\Az W w' p a n cap xs [eJ 1,.string d,.slice none 0 0,eJ 0]):=z;clear u x o l y nK i z;go_enter Tryz.func77,Tryz.ntmps77;go_wp2_with(first
  |(at_lookup;refine wpList_lookup_own_ok_int _ rfl _ _ 182 rfl 9 29 .i64 Xa Tryz.underlying182 Tryz.underlying29 (Fk _) bf n Df rfl hf _ _ rfl v ?_;intro ac ad ae;rw[D.out])
  |(go_at_call 130;refine E.mono ?_;rintro e af ⟨rfl,c⟩;have m:=hp.below c;have K:=eQ I.out (fun g hg=>c.block g (H.out g hg)))
  |(go_at_call 112;refine(J.out _ m K).mono ?_;rintro e ag ⟨rfl,r⟩;have ah:=Ts r m q.out;have B:=PB r m q.out (tB hf (c.block bf F)) A.out G.out)
  |(at_mapUpdate;refine wpList_mapUpdate_own _ rfl _ _ _ 182 rfl 9 29 Xa Tryz.underlying182 _ bf n _ rfl B (by unfold maxLen;omega) _ _ _ rfl rfl v _ [] (plainElem_int Tryz.underlying29 (WalkArith.wf_i64 (by omega))) ?_;intro w3 L f)
  |go_in)
 go_ret2;obtain⟨g,j,M,t,N,O,Q,R,S,T⟩:=r.facts m q.out;have nK:=A.out;have U:=c.size;have V:(some p:Option Nat)≠some bf:=fun e=>nK (Option.some.inj e).symm
 refine⟨rfl,g,j,?_,?_,?_,L,⟨?_,?_,?_,?_,?_⟩⟩
 ·unfold fq;rw[f.block p (Nat.lt_of_lt_of_le (fq.lt hp) (Nat.le_trans U S)) V];exact M
 ·refine eQ t (fun X C=>f.block X (eK t C) ?_)
  obtain⟨ai,aj,Y⟩:=tz B
  have:=ul t Y
  rw[C]at this;exact fun e=>this e.symm
 ·rcases N with h|h
  ·exact Or.inl h
  ·exact Or.inr (by omega)
 ·rw[f.os,O,c.os]
 ·rw[f.tape,Q,c.tape]
 ·rw[f.output,R,c.output]
 ·have:=f.size;omega
 ·intro k hk Z hkb hne
  rw[f.block k (by omega) (fun e=>hkb (Option.some.inj e)),T k (by omega) Z hne,c.block k hk]
end Go.Proofs.YtlgidcmmgohagaaGreat
namespace Go.Proofs.YtlgidcmmgohagaaGreat
open Go.RowKit
set_option linter.unusedVariables false
set_option maxRecDepth 100000 in
set_option maxHeartbeats 400000 in
theorem HA(s:ByteArray)(w:World)(hm:s.size<=maxLen)(h:s.size<1\/12<s.size):
  gc 129 #[.string s] w (Do (.bool false) w):=by
 unfold maxLen at hm;rcases h with h|h
 ·go_enter Tryz.func129,Tryz.ntmps129
  go_wp2;go_ret;exact⟨rfl,rfl⟩
 ·have h':¬s.size<1:=by omega
  go_enter Tryz.func129,Tryz.ntmps129;go_wp2;go_ret;exact⟨rfl,rfl⟩
set_option maxRecDepth 100000 in
set_option maxHeartbeats 400000 in
theorem AA(s:ByteArray)(w:World)(h1:1<=s.size)(h2:s.size<=12)(h:(s.toList==[46])=true\/(s.toList==[46])=false/\(s.toList==[46,46])=true):
  gc 129 #[.string s] w (Do (.bool false) w):=by
 rcases h with h|⟨h3,h⟩
 ·go_enter Tryz.func129,Tryz.ntmps129
  go_wp2;go_ret;exact⟨rfl,rfl⟩
 ·go_enter Tryz.func129,Tryz.ntmps129
  go_wp2;go_ret;exact⟨rfl,rfl⟩
set_option maxRecDepth 100000 in
set_option maxHeartbeats 400000 in
theorem Ld(s:ByteArray)(w:World)(h1:1<=s.size)(h2:s.size<=12)(h3:(s.toList==[46])=false)(l:(s.toList==[46,46])=false)(a b:Int)(g:Lib.indexByte s.data.toList 0=a)(i:Lib.indexByte s.data.toList 47=b):
  gc 129 #[.string s] w (Do (.bool (decide (a<0)&&decide (b<0))) w):=by
 have c:∀W,gc 185 #[.string s,.int .u8 0] W (Do (eJ a) W):=by
  intro W;have h:=Tryz.strings_IndexByte s 0 W;rw[<-g];exact h
 have j:∀W,gc 185 #[.string s,.int .u8 47] W (Do (eJ b) W):=by
  intro W;have h:=Tryz.strings_IndexByte s 47 W;rw[<-i];exact h
 clear g i;by_cases d:a<0
 ·by_cases f:b<0
  ·go_enter Tryz.func129,Tryz.ntmps129
   go_wp2_with fail;refine(c _).mono ?_;rintro e w' ⟨rfl,rfl⟩;go_wp2_with fail;refine(j _).mono ?_;rintro e w' ⟨rfl,rfl⟩;go_wp2;go_ret;exact⟨by simp[d,f],rfl⟩
  ·have m:decide (b<0)=false:=by simpa using f
   go_enter Tryz.func129,Tryz.ntmps129;go_wp2_with fail;refine(c _).mono ?_;rintro e w' ⟨rfl,rfl⟩;go_wp2_with fail;refine(j _).mono ?_;rintro e w' ⟨rfl,rfl⟩;go_wp2;go_ret;exact⟨by simp[d,f],rfl⟩
 ·have k:decide (a<0)=false:=by simpa using d
  go_enter Tryz.func129,Tryz.ntmps129;go_wp2_with fail;refine(c _).mono ?_;rintro e w' ⟨rfl,rfl⟩;go_wp2;go_ret;exact⟨by simp[k],rfl⟩
def eG (s:ByteArray):Bool:=
 decide (1<=s.size)&&decide (s.size<=12)&&!(s.toList==[46])&&!(s.toList==[46,46])&&decide (Lib.indexByte s.data.toList 0<0)&&decide (Lib.indexByte s.data.toList 47<0)
theorem xU(s:ByteArray)(w:World)(hm:s.size<=maxLen):gc 129 #[.string s] w (Do (.bool (eG s)) w):=by
 by_cases h:s.size<1\/12<s.size
 ·have hv:eG s=false:=by
   unfold eG;rcases h with h|h
   ·have:¬1<=s.size:=by omega
    simp[this]
   ·have:¬s.size<=12:=by omega
    simp[this]
  rw[hv];exact HA s w hm h
 ·have h1:1<=s.size:=by omega
  have h2:s.size<=12:=by omega
  cases h3:s.toList==[46] with
  |true=>
   rw[show eG s=false by unfold eG;simp[h3]];exact AA s w h1 h2 (.inl h3)
  |false=>
   cases a:s.toList==[46,46] with
   |true=>
    rw[show eG s=false by unfold eG;simp[a]];exact AA s w h1 h2 (.inr ⟨h3,a⟩)
   |false=>
    rw[show eG s=(decide (Lib.indexByte s.data.toList 0<0)&&decide (Lib.indexByte s.data.toList 47<0)) by unfold eG;simp[h1,h2,h3,a]];exact Ld s w h1 h2 h3 a _ _ rfl rfl
end Go.Proofs.YtlgidcmmgohagaaGreat
namespace Go.Proofs.YtlgidcmmgohagaaGreat
open Go.RowKit Go.Sort Go.Shelf
set_option linter.unusedVariables false
set_option maxRecDepth 100000
set_option maxHeartbeats 16000000
theorem xV(a b:UInt8):a<b\/a=b\/b<a:=by
 rcases Nat.lt_trichotomy a.toNat b.toNat with h|h|h
 ·exact Or.inl (UInt8.lt_iff_toNat_lt.2 h)
 ·exact Or.inr (Or.inl (UInt8.toNat_inj.1 h))
 ·exact Or.inr (Or.inr (UInt8.lt_iff_toNat_lt.2 h))
theorem xW(a:UInt8):¬a<a:=fun h=>Nat.lt_irrefl _ (UInt8.lt_iff_toNat_lt.1 h)
theorem HB{a b c:UInt8}(h:a<b)(k:b<c):a<c:=UInt8.lt_iff_toNat_lt.2 (Nat.lt_trans (UInt8.lt_iff_toNat_lt.1 h) (UInt8.lt_iff_toNat_lt.1 k))
theorem ox{a b:UInt8}(h:a<b):¬b<a:=fun k=>xW _ (HB h k)
theorem sI:∀a:List UInt8,Lib.compareBytes a a=0
 |[]=>rfl
 |x::r=>by simp[Lib.compareBytes,sI r]
theorem kP:∀a b:List UInt8,Lib.compareBytes a b=0->a=b
 |[],[],_=>rfl
 |[],_::_,h=>by simp[Lib.compareBytes]at h
 |_::_,[],h=>by simp[Lib.compareBytes]at h
 |x::r,y::s,h=>by
  rcases xV x y with k|k|k
  ·simp[Lib.compareBytes,k]at h
  ·subst k;simp[Lib.compareBytes]at h;rw[kP r s h]
  ·simp[Lib.compareBytes,k,ox k]at h
theorem oy:∀a b:List UInt8,Lib.compareBytes b a=- Lib.compareBytes a b
 |[],[]=>rfl
 |[],_::_=>rfl
 |_::_,[]=>rfl
 |x::r,y::s=>by
  rcases xV x y with k|k|k
  ·simp[Lib.compareBytes,k,ox k]
  ·subst k;simp[Lib.compareBytes];exact oy r s
  ·simp[Lib.compareBytes,k,ox k]
theorem mB:∀a b c:List UInt8,Lib.compareBytes a b<0->Lib.compareBytes b c<0->Lib.compareBytes a c<0
 |[],[],_,h,_=>by simp[Lib.compareBytes]at h
 |[],_::_,[],_,k=>by simp[Lib.compareBytes]at k
 |[],_::_,_::_,_,_=>by simp[Lib.compareBytes]
 |_::_,[],_,h,_=>by simp[Lib.compareBytes]at h
 |_::_,_::_,[],_,k=>by simp[Lib.compareBytes]at k
 |x::r,y::s,z::t,h,k=>by
  rcases xV x y with a|a|a
  ·rcases xV y z with b|b|b
   ·simp[Lib.compareBytes,HB a b]
   ·subst b;simp[Lib.compareBytes,a]
   ·simp[Lib.compareBytes,b,ox b]at k
  ·subst a
   rcases xV x z with b|b|b
   ·simp[Lib.compareBytes,b]
   ·subst b
    simp only[Lib.compareBytes,xW,if_false]at h k ⊢
    exact mB r s t h k
   ·simp[Lib.compareBytes,b,ox b]at k
  ·simp[Lib.compareBytes,a,ox a]at h
theorem Le(a b c:List UInt8)(h:¬Lib.compareBytes a b<0)(k:¬Lib.compareBytes b c<0):¬Lib.compareBytes a c<0:=by
 intro m;by_cases h0:Lib.compareBytes a b=0
 ·rw[<-kP a b h0]at k;exact k m
 ·by_cases d:Lib.compareBytes b c=0
  ·rw[kP b c d]at h;exact h m
  ·have h1:Lib.compareBytes b a<0:=by rw[oy];omega
   have e:Lib.compareBytes c b<0:=by rw[oy];omega
   have:=mB c b a e h1
   rw[oy]at this;omega
abbrev eN:=ByteArray×Int×Int
def ml (e:eN):List Value:=[.string e.1,.int .i64 e.2.1,.int .i64 e.2.2]
def flat (es:List eN):List Value:=es.flatMap ml
def CR (x y:eN):Int:=Lib.compareBytes x.1.data.toList y.1.data.toList
theorem geq:SWO (ltOf CR) where
 irrefl x:=by simp[ltOf,CR,sI]
 trans x y z h1 h2:=decide_eq_true (mB _ _ _ (of_decide_eq_true h1) (of_decide_eq_true h2))
 ntrans x y z h1 h2:=decide_eq_false (Le _ _ _ (of_decide_eq_false h1) (of_decide_eq_false h2))
theorem Hc(e:eN):(ml e).length=3:=rfl
theorem pp(e:eN):∀v∈ml e,v.oneCell'=true:=by
 intro v hv;simp[ml]at hv;rcases hv with rfl|rfl|rfl<;>rfl
theorem km(es:List eN):(flat es).length=es.length*3:=by
 induction es with
 |nil=>rfl
 |cons e r a=>simp only[flat,List.flatMap_cons,List.length_append,Hc,List.length_cons]at *;rw[a];omega
theorem iR(es:List eN):∀v∈flat es,v.oneCell'=true:=by
 intro v hv;obtain⟨e,_,h⟩:=List.mem_flatMap.1 hv;exact pp e v h
theorem WP:∀(es:List eN) (i j:Nat) (hi:i<es.length),j<3->(flat es)[i*3+j]?=(ml es[i])[j]?
 |[],i,j,hi,_=>by simp at hi
 |e::r,0,j,_,hj=>by
  simp only[flat,List.flatMap_cons,Nat.zero_mul,Nat.zero_add,List.getElem_cons_zero]
  rw[List.getElem?_append_left (by rw[Hc];exact hj)]
 |e::r,i+1,j,hi,hj=>by
  have a:=WP r i j (by simpa using hi) hj
  simp only[flat,List.flatMap_cons,List.getElem_cons_succ]at a ⊢
  rw[List.getElem?_append_right (by rw[Hc];omega),Hc,<-a]
  congr 1;omega
theorem AB(d:Array eN):(flatK ml 3 d).toList=flat d.toList:=by
 apply List.ext_getElem?;intro t;by_cases ht:t<d.size*3
 ·have h3:t % 3<3:=Nat.mod_lt _ (by omega)
  have hi:t / 3<d.toList.length:=by simp;omega
  have a:=WP d.toList (t / 3) (t % 3) hi h3;rw[show t / 3*3+t % 3=t by omega]at a;rw[a];have b:t / 3<d.size:=by simpa using hi
  simp only[flatK,Array.toList_map,Array.toList_range,List.getElem?_map,List.getElem?_range ht,Option.map_some,Array.getElem_toList];rw[getElem!_pos d (t / 3) b,List.getElem?_eq_getElem (by rw[Hc];exact h3),getElem!_pos _ _ (by rw[Hc];exact h3)]
 ·rw[List.getElem?_eq_none (by simp[flatK];omega),List.getElem?_eq_none (by rw[km];simp;omega)]
theorem CS{w:World}{g:Nat}{a:Array Value}{e:TypeId}{es:List eN}(b:w.heap[g]?=some (.cells a e (0,0)))(ht:a.toList.take (es.length*3)=flat es):HoldsK ml 3 w g 0 es.toArray:=by
 intro j hj;have c:j<es.length*3:=by simpa using hj
 refine⟨?_,by simp[World.frozen?,b]⟩;have h1:(a.toList.take (es.length*3))[j]?=(flat es)[j]?:=by rw[ht]
 rw[List.getElem?_take_of_lt c]at h1;simp only[World.cell?,b,Nat.zero_add];simp only[Option.isSome_none,Bool.false_eq_true,if_false];rw[<-Array.getElem?_toList,h1];have h2:=AB es.toArray;simp only at h2;rw[<-h2,Array.getElem?_toList,getElem!_pos _ j hj,Array.getElem?_eq_getElem hj];rfl
theorem Fm{w:World}{g n:Nat}{os:Array Obj}{a:Array Value}{e:TypeId}{fr:Nat×Nat}(d:Array eN)(b:w.heap[g]?=some (.cells a e fr)):
  (sortWorldK ml 3 w g 0 n d os).heap[g]?=some (.cells (putCells id 0 (flatK ml 3 d) a) e fr):=by
 have hg:g<w.heap.size:=(Array.getElem?_eq_some_iff.1 b).1;unfold sortWorldK;rw[heap_grow_old _ _ (by simpa [putRowK]using hg)];simp[putRowK,putRow,mapBlock,Sort.ahead,Array.getElem?_modify,b,onCells]
theorem zS{w:World}{g n:Nat}{os:Array Obj}(d:Array eN):w.grownBy (sortWorldK ml 3 w g 0 n d os) (some g):=by
 refine⟨rfl,rfl,rfl,by simp[sortWorldK,putRowK],fun k hk hne=>?_⟩;unfold sortWorldK;rw[heap_grow_old _ _ (by simpa [putRowK]using hk)]
 have:g≠k:=fun e=>hne (by rw[e])
 simp[putRowK,putRow,mapBlock,Sort.ahead,Array.getElem?_modify,this]
theorem AD(a:Array Value)(d:Array eN)(h:d.size*3<=a.size):(putCells id 0 (flatK ml 3 d) a).toList.take (d.size*3)=flat d.toList:=by
 rw[<-AB];apply List.ext_getElem?;intro j;by_cases hj:j<d.size*3
 ·rw[List.getElem?_take_of_lt hj,Array.getElem?_toList,Array.getElem?_toList]
  have hs:j<(flatK ml 3 d).size:=by simpa using hj
  rw[Array.getElem?_eq_getElem hs,<-getElem!_pos (flatK ml 3 d) j hs];simp[putCells,hj,show j<a.size by omega]
 ·rw[List.getElem?_take_eq_none (by omega),List.getElem?_eq_none (by simp;omega)]
theorem zT{w:World}{base g cap n:Nat}{e:TypeId}{os:Array Obj}{a:Array Value}{k:Nat}{d:Array eN}(hl:d.size=k)(b:base<=g)(c:w.heap[g]?=some (.cells a e (0,0)))
  (h1:k<=cap)(h2:cap<=maxLen)(h3:a.size=cap*3):
  (sortWorldK ml 3 w g 0 n d os).ownsRow base e 3 (.slice (some (eI g 0)) k cap) k (flat d.toList):=by
 subst hl;refine⟨by rw[km];simp,.inr ⟨g,cap,_,rfl,b,Fm _ c,h1,h2,by simp[putCells,h3],AD a d (by rw[h3];exact Nat.mul_le_mul_right 3 h1)⟩⟩
theorem isAgg34(w:World):(isAgg 96).run Tryz.prog w=.ok true w:=by kernel_rfl
theorem sizeOf34(w:World):(Go.sizeOf 96).run Tryz.prog w=.ok 3 w:=by kernel_rfl
theorem Lf(x y:eN)(W:World):gc 172 #[.agg #[.string x.1,eJ x.2.1,eJ x.2.2],.agg #[.string y.1,eJ y.2.1,eJ y.2.2]] W fun e w'=>e=.returned (eJ (CR x y))/\∃q b,w'=grow (W.drewN q) b:=by
 have a:=fun c=>Tryz.strings_Compare x.1 y.1 c;unfold CR;generalize Lib.compareBytes x.1.data.toList y.1.data.toList=r at a ⊢;go_enter Tryz.func172,Tryz.ntmps172;go_wp2_with(go_at_call 191;refine(a _).mono ?_;rintro e w' ⟨rfl,rfl⟩);go_ret;exact⟨rfl,0,_,by rw[alloc_eq_grow,alloc_eq_grow,grow_grow];rfl⟩
theorem Xb(blk off size:Nat)(w:World):CmpLays Tryz.prog 172 #[] ml 3 CR blk off size w:=fun _ _ _ _ x y=>Lf x y _
theorem Tt(blk cap:Nat)(d:Array eN)(w:World)(b:HoldsK ml 3 w blk 0 d)(c:blk<w.heap.size)(f:d.size<4611686018427387904):
  gc 171 #[.slice (some (eI blk 0)) d.size cap,.func (.func 172) #[] #[]] w fun e w'=>e=.returned (.tuple #[])/\∃a n os,PermIn 0 d.size d a/\SortedIn (ltOf CR) 0 d.size a/\w'=sortWorldK ml 3 w blk 0 n a os:=by
 have g:∀args w,(callFunc 172 args).run Tryz.prog w=.ok (.enter 172 args) w:=enters_of Tryz.func172 (by kernel_rfl) rfl;exact AnyQ.slices_SortFunc Tryz.aab 3 isAgg34 sizeOf34 ml Hc pp CR geq 172 #[] blk 0 cap d w g (Xb blk 0 d.size w) b c f
theorem xX:(Tryz.prog.info? 96).map (fun i=>(i.zero,i.size,i.bytes))=some (some (.agg #[.string ByteArray.empty,eJ 0,eJ 0]),3,32):=by kernel_rfl
theorem AE(b off n c:Nat)(es:List eN)(w:World)(hl:es.length=n)(f:n*32<=140737488355328)(hc:∀j d,(flat es)[j]?=some d->w.cell? (eI b (off+j))=some d):
  gc 170 #[.slice (some (eI b off)) n c] w fun e w'=>∃a,e=.returned a/\w'.ownsRow w.heap.size 96 3 a n (flat es)/\a≠.slice none 0 0/\ik w w':=by
 obtain⟨g,hi,h,i,k⟩:=info_parts xX;exact AnyE.slices_Clone Tryz.Tm g _ 3 32 hi h i k rfl (by decide) sizeOf34 b off n c (flat es) w (by rw[km,hl]) (by unfold maxLen;omega) f hc (iR es)
theorem ld{w:World}{b off:Nat}{es:List eN}(hc:∀j a,(flat es)[j]?=some a->w.cell? (eI b (off+j))=some a){i:Nat}(hi:i<es.length):
  w.cell? (eI b (off+i*3))=some (.string es[i].1)/\w.cell? (eI b (off+i*3+1))=some (.int .i64 es[i].2.1)/\w.cell? (eI b (off+i*3+2))=some (.int .i64 es[i].2.2):=by
 refine⟨?_,?_,?_⟩
 ·exact hc _ _ (by rw[show i*3=i*3+0 from rfl,WP es i 0 hi (by omega)];rfl)
 ·rw[Nat.add_assoc];exact hc _ _ (by rw[WP es i 1 hi (by omega)];rfl)
 ·rw[Nat.add_assoc];exact hc _ _ (by rw[WP es i 2 hi (by omega)];rfl)
theorem ri{w:World}{a:Addr}{v:Value}(h:w.cell? a=some v):w.setCell a v=w:=by
 have b:(w.setCell a v).heap=w.heap:=by
  apply Array.ext_getElem?;intro k;simp only[World.setCell,Array.getElem?_modify];by_cases hk:a.block=k
  ·subst hk
   simp only[if_true];unfold World.cell? at h;cases d:w.heap[a.block]? with
   |none=>rfl
   |some o=>
    rw[d]at h;cases o with
    |cells c e fr=>
     simp only[Option.map_some];by_cases hs:a.spot.isSome=true
     ·simp[hs]
     ·simp only[hs,if_false,Bool.false_eq_true]at h ⊢
      have f:=(Array.getElem?_eq_some_iff.1 h);obtain⟨h1,h2⟩:=f
      congr 2
      apply Array.ext_getElem?;intro j;rw[Array.getElem?_setIfInBounds];by_cases hj:a.off=j
      ·subst hj;simp[h1,h2]
      ·simp[hj]
    |_=>simp at h
  ·simp[hk]
 cases w;simp only[World.setCell]at b ⊢;rw[b]
def gC (es:List eN):Prop:=es.Pairwise fun x y=>CR x y<0
def Tu (w w':World)(es:List eN)(n:Nat)(e:Ending):Prop:=
 Below w.heap.size w w'/\
 (((∃x∈es,eG x.1=false)/\e=.returned (.tuple #[.slice none 0 0,.int .i64 1]))\/
  ((∀x∈es,eG x.1=true)/\¬(es.map (·.1)).Nodup/\e=.returned (.tuple #[.slice none 0 0,.int .i64 6]))\/
  ((∀x∈es,eG x.1=true)/\(es.map (·.1)).Nodup/\16<es.length/\e=.returned (.tuple #[.slice none 0 0,.int .i64 11]))\/
  ((∀x∈es,eG x.1=true)/\(es.map (·.1)).Nodup/\es.length<=16/\∃es' g a,e=.returned (.tuple #[.slice (some ⟨g,0,none⟩) n a,.int .i64 0])/\es'.Perm es/\gC es'/\w'.ownsRow w.heap.size 96 3 (.slice (some ⟨g,0,none⟩) n a) n (flat es')))
theorem Xc(es:List eN)(a:Array eN)(h:PermIn 0 es.toArray.size es.toArray a):a.toList.Perm es:=by
 obtain⟨h1,_,h3⟩:=h;have b:(a.extract 0 es.toArray.size)=a:=by rw[<-h1];simp
 have e2:(es.toArray.extract 0 es.toArray.size)=es.toArray:=by simp
 rw[b,e2]at h3;simpa using h3
theorem PC(d:Array eN)(hs:SortedIn (ltOf CR) 0 d.size d)(hd:∀j (hj:j<d.toList.length),1<=j->d.toList[j].1≠(d.toList[j-1]'(by omega)).1):gC d.toList:=by
 unfold gC;rw[List.pairwise_iff_getElem];intro i j hi hj g;simp only[Array.length_toList]at hi hj;have key:∀k,(hk:k<d.size)->(h1:1<=k)->CR d[k-1] d[k]<0:=by
  intro k hk h1;have h:=hs (k-1) k (Nat.zero_le _) (by omega) hk;rw[getElem!_pos d k hk,getElem!_pos d (k-1) (by omega)]at h;have h2:=of_decide_eq_false h;have hne:=hd k (by simpa using hk) h1;have h3:CR d[k] d[k-1]≠0:=by
   intro h0
   have:=kP _ _ h0
   apply hne;simp only[Array.getElem_toList];have e:∀a b:ByteArray,a.data.toList=b.data.toList->a=b:=by
    intro a b hab;cases a;cases b
    congr 1
    exact Array.toList_inj.1 hab
   exact e _ _ this
  have l:CR d[k-1] d[k]=- CR d[k] d[k-1]:=oy _ _;omega
 have c:∀m,(hm:i+1+m<d.size)->CR d[i] d[i+1+m]<0:=by
  intro m
  induction m with
  |zero=>intro hm;exact key (i+1) hm (by omega)
  |succ m f=>
   intro hm;have a:=f (by omega);have b:=key (i+1+(m+1)) hm (by omega);exact mB _ _ _ a b
 have:=c (j-i-1) (by omega)
 simp only[Array.getElem_toList];have e:i+1+(j-i-1)=j:=by omega
 simp only[e]at this;exact this
theorem zU{es:List eN}(h:gC es):(es.map (·.1)).Nodup:=by
 unfold gC at h;rw[List.Nodup,List.pairwise_map];refine h.imp ?_;intro a b hab e;unfold CR at hab;rw[e,sI]at hab;omega
theorem wn{s:ByteArray}(h:eG s=true):1<=s.size/\s.size<=12:=by
 unfold eG at h;simp only[Bool.and_eq_true,decide_eq_true_eq]at h;exact⟨h.1.1.1.1.1,h.1.1.1.1.2⟩
theorem sJ{a b:ByteArray}(h:a.toList=b.toList):a=b:=by
 rw[ByteArray.toList_eq,ByteArray.toList_eq]at h;cases a;cases b
 congr 1
 exact Array.toList_inj.1 h
theorem jn{w:World}{base:Nat}{e:TypeId}{g n cap:Nat}{es:List eN}(h:w.ownsRow base e 3 (.slice (some (eI g 0)) n cap) n (flat es)):∀j a,(flat es)[j]?=some a->w.cell? (eI g (0+j))=some a:=by
 intro j a hu;rcases h.2 with⟨h0,_⟩|⟨b,c,d,hv,_,hg,_,_,_,ht⟩
 ·cases h0
 ·cases hv
  rw[<-ht]at hu;have hj:j<n*3:=by
   have:=(List.getElem?_eq_some_iff.1 hu).1
   simp at this;omega
  rw[List.getElem?_take_of_lt hj,Array.getElem?_toList]at hu;simp[World.cell?,hg,hu]
theorem HI{w:World}{base:Nat}{e:TypeId}{g n cap size:Nat}{xs:List Value}(h:w.ownsRow base e size (.slice (some (eI g 0)) n cap) n xs)(j:Nat):w.frozen? (eI g j)=false:=by
 rcases h.2 with⟨h0,_⟩|⟨a,b,c,hv,_,hg,_⟩
 ·cases h0
 ·cases hv
  simp[World.frozen?,hg]
theorem Fo(b off n cap:Nat)(es:List eN)(w:World)(hl:es.length=n)(u:b<w.heap.size)(ap:n*32<=140737488355328)(hc:∀j f,(flat es)[j]?=some f->w.cell? (eI b (off+j))=some f)
  (R:∀e∈es,e.1.size<=maxLen):
  gc 109 #[.slice (some (eI b off)) n cap] w fun e w'=>Tu w w' es n e:=by
 have E:Hid (∀j f,(flat es)[j]?=some f->w.cell? (eI b (off+j))=some f):=hc;have aq:Hid (∀e∈es,e.1.size<=maxLen):=R;have d:Hid (es.length=n):=hl;clear hc R hl;go_enter Tryz.func109,Tryz.ntmps109;go_wp2
 go_loopw [11] (fun i wr=>∃k:Nat,k<=n/\i=.int .i64 k/\ik w wr/\Hid (∀j (hj:j<es.length),j<k->eG es[j].1=true)) (fun i _=>n-(intOf i).toNat)
 case atStart=>exact⟨0,Nat.zero_le _,rfl,Below.refl _ _,fun j hj h=>by omega⟩
 case round=>
  obtain⟨k,hk,rfl,a,F⟩:=hrel;by_cases ar:k<n
  ·have G:k<es.length:=by rw[d.out];exact ar
   obtain⟨c0,c1,c2⟩:=ld E.out G;have d0:=(a.cell (p:=(eI b (off+k*3))) u).trans c0;have d1:=(a.cell (p:=(eI b (off+k*3+1))) u).trans c1;have d2:=(a.cell (p:=(eI b (off+k*3+2))) u).trans c2;have hv:=fun W=>xU es[k].1 W (aq.out es[k] (List.getElem_mem G));cases l:eG es[k].1 with
   |false=>
    have H:Hid (eG es[k].1=false):=l;rw[l]at hv;clear l;go_wp2_with(go_at_call 129;refine(hv _).mono ?_;rintro e w' ⟨rfl,rfl⟩);go_ret2;exact⟨a.alloc a.size _,.inl ⟨⟨es[k],List.getElem_mem G,H.out⟩,rfl⟩⟩
   |true=>
    have H:Hid (eG es[k].1=true):=l;rw[l]at hv;clear l;go_wp2_with(go_at_call 129;refine(hv _).mono ?_;rintro e w' ⟨rfl,rfl⟩);go_roundw
    case rel=>
     refine⟨k+1,by omega,by go_num,a.alloc a.size _,?_⟩;intro j hj aJ;by_cases e:j=k
     ·subst e;exact H.out
     ·exact F.out j hj (by omega)
    case measure=>simp[intOf];omega
  ·have S:k=n:=by omega
   have v:Hid (∀x∈es,eG x.1=true):=by
    intro x hx;obtain⟨j,hj,rfl⟩:=List.getElem_of_mem hx;exact F.out j hj (by rw[S,<-d.out];exact hj)
   have T:=AE b off n cap es wr d.out ap (fun j f h=>(a.cell (p:=(eI b (off+j))) u).trans (E.out j f h));go_wp2_with fail;refine T.mono ?_;rintro e U ⟨au,rfl,V,X,I⟩;have av:∃g c o,au=.slice (some (eI g 0)) n c/\wr.heap.size<=g/\U.heap[g]?=some (.cells o 96 (0,0))/\n<=c/\c<=maxLen/\o.size=c*3/\o.toList.take (n*3)=flat es:=by
    rcases V.2 with⟨h,_⟩|⟨g,c,o,h,h2,h3,aw,ax,h6,ay⟩
    ·exact absurd h X
    ·exact⟨g,c,o,h,h2,h3,aw,ax,h6,ay⟩
   obtain⟨g,c,o,Y,J,y,Z,aa,ab,ac⟩:=av;rw[Y];clear T V X Y;have ad:=CS (es:=es) y (by rw[d.out];exact ac);have K:=Tt g c es.toArray U ad (Array.getElem?_eq_some_iff.1 y).1 (by simp only[List.size_toArray];rw[d.out];omega);rw[show es.toArray.size=n by simp only[List.size_toArray];exact d.out]at K;go_wp2_with fail;refine K.mono ?_;rintro e ae ⟨rfl,r,aK,os,L,af,M⟩;have z:r.size=n:=by have:=L.1;simp only[List.size_toArray]at this;rw[this];exact d.out
   have ag:ae.ownsRow w.heap.size 96 3 (.slice (some (eI g 0)) n c) n (flat r.toList):=by
    rw[M];exact zT z (Nat.le_trans a.size J) y Z aa ab
   have az:ik w ae:=by
    rw[M];exact((a.trans (I.mono a.size)).grown (zS r) (Nat.le_trans a.size I.size) (fun k h=>by cases h;exact Nat.le_trans a.size J))
   obtain⟨es',t⟩:∃es',es'=r.toList:=⟨_,rfl⟩;have A:Hid (es'.Perm es):=by
    rw[t];exact Xc es r (by simpa only[List.size_toArray,d.out]using L)
   have N:Hid (es'.length=n):=by rw[t,Array.length_toList];exact z
   have ah:Hid ((∀j (hj:j<es'.length),1<=j->es'[j].1≠(es'[j-1]'(by omega)).1)->gC es'):=by
    subst t;exact PC r (by rw[z];exact af)
   rw[<-t]at ag;clear K L af M ad y ac I J Z aa ab z t S F E;go_wp2
   go_loopw [7] (fun i wq=>∃m:Nat,i=.int .i64 ((m:Int)+1)/\m<=n/\ik w wq/\wq.ownsRow w.heap.size 96 3 (.slice (some (eI g 0)) n c) n (flat es')/\Hid (∀j (hj:j<es'.length),1<=j->j<m+1->es'[j].1≠(es'[j-1]'(by omega)).1)) (fun i _=>n-(intOf i).toNat)
   case atStart=>exact⟨0,by go_num,Nat.zero_le _,az,ag,fun j hj h1 h2=>by omega⟩
   case round=>
    obtain⟨m,rfl,aL,B,C,O⟩:=hrel;by_cases aA:m+1<n
    ·have ai:m+1<es'.length:=by rw[N.out];exact aA
     have aj:m<es'.length:=(by omega);obtain⟨c0,_,_⟩:=ld (off:=0) (jn C) ai;obtain⟨aB,_,_⟩:=ld (off:=0) (jn C) aj;rw[Nat.zero_add]at c0 aB;have a1:((m:Int)+1-1)=m:=by omega
     have a2:((m:Int)+1)<n:=(by omega);cases ak:es'[m+1].1.toList==es'[m].1.toList with
     |true=>
      have P:Hid ((es'[m+1].1.toList==es'[m].1.toList)=true):=ak;go_wp2
      go_quiet (fail)
      go_wp2;go_ret2;refine⟨below_drewN B _,.inr (.inl ⟨v.out,?_,rfl⟩)⟩;intro qa;have aC:=(A.out.map (·.1)).nodup_iff.2 qa;have hne:=List.pairwise_iff_getElem.1 aC m (m+1) (by simpa using aj) (by simpa using ai) (by omega);simp only[List.getElem_map]at hne;exact hne (sJ (by simpa using P.out)).symm
     |false=>
      have P:Hid ((es'[m+1].1.toList==es'[m].1.toList)=false):=ak;go_wp2
      go_quiet (fail)
      go_wp2;go_roundw
      case rel=>
       refine⟨m+1,by go_num,by omega,below_drewN B _,C,?_⟩;intro j hj h1 h2;by_cases e:j=m+1
       ·subst e
        intro h;have hn:=P.out;rw[h]at hn;simp at hn
       ·exact O.out j hj h1 (by omega)
      case measure=>simp[intOf];omega
    ·have al:Hid (gC es'):=ah.out (fun j hj h1=>O.out j hj h1 (by rw[N.out]at hj;omega))
     have am:Hid ((es.map (·.1)).Nodup):=(List.Perm.nodup_iff (A.out.map (fun x:eN=>x.1))).1 (zU al.out);clear O ah;by_cases iE:16<n
     ·have aD:(16:Int)<n:=by omega
      go_wp2;go_ret2;exact⟨B,.inr (.inr (.inl ⟨v.out,am.out,by rw[d.out];exact iE,rfl⟩))⟩
     ·have aD:¬((16:Int)<n):=by omega
      go_wp2
      go_loopw [47] (fun i wq=>∃m:Nat,i=.int .i64 (m:Int)/\m<=n/\ik w wq/\wq.ownsRow w.heap.size 96 3 (.slice (some (eI g 0)) n c) n (flat es')) (fun i _=>n-(intOf i).toNat)
      case atStart=>exact⟨0,rfl,Nat.zero_le _,B,C⟩
      case round=>
       obtain⟨q,rfl,Tv,Q,s⟩:=hrel;by_cases aE:q<n
       ·have an:q<es'.length:=by rw[N.out];exact aE
        obtain⟨c0,_,_⟩:=ld (off:=0) (jn s) an;rw[Nat.zero_add]at c0;have aM:=(wn (v.out _ (A.out.mem_iff.1 (List.getElem_mem an)))).2;have aF:=uf es'[q].1 wr (by omega);have ao:g<wr.heap.size:=eK s rfl;have aG:=HI s (q*3);go_wp2_with(go_at_call 130;refine aF.mono ?_;rintro e w3 ⟨rfl,D⟩;have c1:=(D.cell (p:=(eI g (q*3))) ao).trans c0;have f1:=(D.frozen (p:=(eI g (q*3))) ao).trans aG);go_roundw
        case rel=>
         refine⟨q+1,by go_num,by omega,?_,?_⟩
         ·rw[ri c1];exact Q.trans (D.mono Q.size)
         ·rw[ri c1];exact eQ s (fun aH aI=>D.block aH (eK s aI))
        case measure=>simp[intOf];omega
       ·go_wp2
        go_ret2;exact⟨Q,.inr (.inr (.inr ⟨v.out,am.out,by rw[d.out];omega,es',_,c,rfl,A.out,al.out,s⟩))⟩
theorem nY{P:Program}(w:World)(f sT h c:TypeId)(size g o d k:Nat)(a:Addr)(e l:Nat)(b:Array Value)(t:TypeId)(cs:List Value)
  (hu:P.underlying f=some (.slice c))(hs:(P.info? c).map (·.size)=some size)
  (hg:w.heap[g]?=some (.cells b t (0,0)))(hn:cs.length=Nat.min e d*size)
  (m:∀j v,cs[j]?=some v->w.cell? (a.add j)=some v)(n:o+cs.length<=b.size)(h1:∀v∈cs,v.oneCell'=true):
  (Builtin.copy_ #[f,sT] h #[.slice (some (eI g o)) d k,.slice (some a) e l]).run P w =
   .ok (goInt (Nat.min e d)) (w.setRow g (b.toList.take o++cs++b.toList.drop (o+cs.length)).toArray):=by
 have hl:=run_loadCells_list (P:=P) w a cs m;have p:=run_storeCells_at P g o t cs 0 b w hg (by simpa using n) h1;cases hq:P.info? c with
 |none=>simp[hq]at hs
 |some i=>
  have hi:i.size=size:=by simpa [hq]using hs
  simp[Builtin.copy_,run_underlying hu,Builtin.lenOf,Builtin.firstCells,sizeOf,typeInfo,hq,hi,<-hn,hl,p]
theorem rj{P:Program}{w:World}{ops:Array Oper}{rest:List Oper}{o:Oper}{a:Act}{n:Exit->Act->World->Prop}(u:o.guard=none)(d s:Operand)(i sT:TypeId)
  (ho:o.op=.call { callee:=.builtin .copy,args:=#[d,s],argTypes:=#[i,sT] })(l:TypeId)(hu:P.underlying i=some (.slice l))(size:Nat)(x:(P.info? l).map (·.size)=some size)
  (g off c p:Nat)(m:Addr)(f q:Nat)(hd:a.eval d=.slice (some (eI g off)) c p)(hs:a.eval s=.slice (some m) f q)
  (b:Array Value)(t:TypeId)(hg:w.heap[g]?=some (.cells b t (0,0)))(cs:List Value)(hn:cs.length=Nat.min f c*size)
  (y:∀j v,cs[j]?=some v->w.cell? (m.add j)=some v)(z:off+cs.length<=b.size)(h1:∀v∈cs,v.oneCell'=true)
  (new:Array Value)(A:new.toList=b.toList.take off++cs++b.toList.drop (off+cs.length))
  (h:∀w',Hid (w'.heap[g]?=some (.cells new t (0,0)))->w.grownBy w' (some g)->wpList P ops n rest (a.put o.dst (goInt (Nat.min f c))) w'):wpList P ops n (o::rest) a w:=by
 refine wpList_plain u fun K B=>?_;have r:=nY (P:=P) w i sT o.type l size g off c p m f q b t cs hu x hg hn y z h1;rw[<-A,Array.toArray_toList]at r;unfold Oper.wp;simp[execOp,ho,resolve,invoke,builtin,hd,hs,r,Result.andThen];exact B _ _ (h _ (setRow_heap w g _ _ t _ hg) ⟨rfl,rfl,rfl,by simp,fun k hk hne=>setRow_other w g k _ (fun e=>hne (by rw[e]))⟩)
def HJ:List Value:=(List.replicate 16 (ml (ByteArray.empty,0,0))).flatten
theorem PD:HJ.length=48:=by decide
theorem PE:∀v∈HJ,v.oneCell'=true:=by
 intro v hv;obtain⟨l,hl,h⟩:=List.mem_flatten.1 hv;rw[(List.mem_replicate.1 hl).2]at h;exact pp _ v h
def lr (es:List eN):Array Value:=(flat es++HJ.drop (es.length*3)).toArray
theorem nO{es:List eN}(h:es.length<=16):(lr es).size=48:=by
 simp only[lr,List.size_toArray,List.length_append,km,List.length_drop,PD];omega
theorem yT(es:List eN):(lr es).all (·.oneCell')=true:=by
 rw[Array.all_eq_true'];intro v hv;simp only[lr,List.mem_toArray,List.mem_append]at hv;rcases hv with h|h
 ·exact iR es v h
 ·exact PE v (List.mem_of_mem_drop h)
theorem xY:(Tryz.prog.info? 208).map (·.size)=some 48:=by kernel_rfl
theorem Fp:(Tryz.prog.info? 96).map (·.size)=some 3:=by kernel_rfl
theorem Fq(g n cap:Nat)(es:List eN)(w:World)(hl:es.length=n)(f:g<w.heap.size)(iE:n<=16)(hc:∀j a,(flat es)[j]?=some a->w.cell? (eI g (0+j))=some a):
  gc 111 #[.slice (some (eI g 0)) n cap] w (pB (.agg (lr es)) w):=by
 have s:Hid (∀j a,(flat es)[j]?=some a->w.cell? (eI g (0+j))=some a):=hc;have t:Hid (es.length=n):=hl;have i:Hid (Nat.min n 16=n):=Nat.min_eq_left iE;have b:Hid ((lr es).size=48):=nO (by omega);have l:Hid (∀e B j v,(flat es)[j]?=some v->((w.alloc e).alloc B).cell? (((eI g 0):Addr).add j)=some v):=by
  intro e B j v h;have h1:=hc j v h;have h2:((eI g 0):Addr).add j=(eI g (0+j)):=by unfold Addr.add;split<;>simp_all
  rw[h2,World.cell?_alloc_past _ _ _ (by simp;omega),World.cell?_alloc_past _ _ _ f,h1]
 have m:Hid ((lr es).toList=HJ.take 0++flat es++HJ.drop (0+(flat es).length)):=by
  show(lr es).toList=_;simp only[lr,List.take_zero,List.nil_append,Nat.zero_add,km]
 have o:Hid ((flat es).length=Nat.min n 16*3):=by
  show(flat es).length=_;rw[km,hl,i.out]
 have p:Hid (0+(flat es).length<=48):=by
  show 0+(flat es).length<=48;rw[km,hl];omega
 clear hc hl;go_enter Tryz.func111,Tryz.ntmps111;go_wp2_with(first
  |(refine rj rfl (.tmp 4) (.tmp 5) 55 55 rfl 96 Tryz.underlying55 3 Fp (w.heap.size+1) 0 16 16 (eI g 0) n cap rfl rfl _ 208 (heap_alloc2_new _ _ _) (flat es) ?_ ?_ ?_ (iR es) (lr es) ?_ ?_;go_must(exact o.out);go_must(exact l.out _ _);go_must(exact p.out);go_must(exact m.out);intro c q d)
  |(refine wpList_load_row rfl 208 _ rfl (w.heap.size+1) rfl 208 (lr es) (0,0) _ q.out Tryz.underlying208 rfl (by rw[b.out];exact xY) ?_)
  |(refine wpList_store_row rfl 208 _ _ rfl w.heap.size (lr es) rfl rfl 208 _ ((d.block w.heap.size (by simp;omega) (by simp)).trans (heap_alloc2_old _ _ _)) (by rw[b.out];exact xY) (by rw[b.out];rfl) (yT es) ?_)
  |go_in)
 have h0:(c.setRow w.heap.size (lr es)).heap[w.heap.size]?=some (.cells (lr es) 208 (0,0)):=setRow_heap c w.heap.size _ _ 208 (0,0) ((d.block w.heap.size (by simp;omega) (by simp)).trans (heap_alloc2_old _ _ _));refine bodyPost_ret (v:=.agg (lr es)) (results_cell_row Tryz.results111 _ _ w.heap.size 208 (lr es) (0,0) _ rfl h0 Tryz.underlying208 rfl (by rw[b.out];exact xY)) rfl ⟨rfl,?_⟩;have r:ik w c:=(((Below.refl _ _).alloc (Nat.le_refl _) _).alloc (by simp) _).grown d (by simp;omega) (fun k h=>by cases h;omega);exact below_setRow r (Nat.le_refl _) _
theorem laidOut:laidOutB Tryz.prog=true:=by kernel_rfl
theorem YP:208<Tryz.prog.types.size:=of_decide_eq_true (by kernel_rfl)
theorem NW:Maps.Keyed Tryz.prog 208:=Maps.Keyed.of_law (deep_law_laid laidOut (m:=9) (by omega) YP (by kernel_rfl) (by rw[Tryz.underlying208]))
theorem NY:Tryz.prog.cellsOf 208=48:=by kernel_rfl
theorem NZ:Tryz.prog.cellsOf 96=3:=by kernel_rfl
theorem Tw:Tryz.prog.cellsOf 9=1:=by kernel_rfl
theorem Zl:Tryz.prog.cellsOf 3=1:=by kernel_rfl
theorem Xd:Tryz.prog.cellsOf 29=1:=by kernel_rfl
theorem Zm:Tryz.prog.keyType 208=true:=by kernel_rfl
def Fits (e:eN):Prop:=e.1.size<=maxLen/\(Lit.int .i64 e.2.1).wf=true/\(Lit.int .i64 e.2.2).wf=true
theorem Zn(d:Nat)(e:eN)(h:Fits e):∃a,Tryz.prog.keyLits (d+2) 96 (ml e)=some a:=by
 obtain⟨h1,h2,h3⟩:=h;have a1:Tryz.prog.keyLits (d+1) 9 [.string e.1]=some [.string e.1.data.toList]:=by unfold Program.keyLits;simp[Tryz.underlying9,h1]
 have a2:Tryz.prog.keyLits (d+1) 3 [.int .i64 e.2.1]=some [.int .i64 e.2.1]:=by unfold Program.keyLits;simp[Tryz.underlying3,h2]
 have a3:Tryz.prog.keyLits (d+1) 29 [.int .i64 e.2.2]=some [.int .i64 e.2.2]:=by unfold Program.keyLits;simp[Tryz.underlying29,h3]
 unfold Program.keyLits;simp[Tryz.underlying96,ml,NZ,Tw,Zl,Xd,a1,a2,a3]
theorem mapM_some{a b:Type}(f:a->Option b):∀l:List a,(∀x∈l,∃y,f x=some y)->∃ys,l.mapM f=some ys
 |[],_=>⟨[],rfl⟩
 |x::r,h=>by
  obtain⟨y,c⟩:=h x (by simp)
  obtain⟨ys,d⟩:=mapM_some f r (fun z e=>h z (by simp[e]))
  exact⟨y::ys,by simp[List.mapM_cons,c,d]⟩
theorem qb(es:List eN)(iE:es.length<=16)(i:Nat)(hi:i<16):((lr es).toList.drop (i*3)).take 3=ml ((es[i]?).getD (ByteArray.empty,0,0)):=by
 have a:=km es;apply List.ext_getElem?;intro j;by_cases hj:j<3
 ·rw[List.getElem?_take_of_lt hj,List.getElem?_drop]
  simp only[lr];by_cases b:i<es.length
  ·rw[List.getElem?_append_left (by rw[a];omega),WP es i j b hj,List.getElem?_eq_getElem b];rfl
  ·rw[List.getElem?_append_right (by rw[a];omega),List.getElem?_drop,a,List.getElem?_eq_none (l:=es) (by omega)]
   have d:es.length*3+(i*3+j-es.length*3)=i*3+j:=by omega
   rw[d];have c:=WP (List.replicate 16 (ByteArray.empty,0,0)) i j (by simp;omega) hj;rw[List.getElem_replicate]at c;exact c
 ·rw[List.getElem?_take_eq_none (by omega),List.getElem?_eq_none (by rw[Hc];omega)]
theorem Zo(d:Nat)(es:List eN)(iE:es.length<=16)(hf:∀e∈es,Fits e):∃a,Tryz.prog.keyLits (d+3) 208 (lr es).toList=some a:=by
 have hl:(lr es).toList.length=48:=by simp[nO iE]
 obtain⟨ys,b⟩:=mapM_some (fun i=>Tryz.prog.keyLits (d+2) 96 (((lr es).toList.drop (i*3)).take 3)) (List.range 16) (by
  intro i hi;rw[List.mem_range]at hi;rw[qb es iE i hi];refine Zn d _ ?_;by_cases h:i<es.length
  ·rw[List.getElem?_eq_getElem h];exact hf _ (List.getElem_mem h)
  ·rw[List.getElem?_eq_none (by omega)];exact⟨by decide,by decide,by decide⟩)
 refine⟨ys.flatten,?_⟩;unfold Program.keyLits;simp only[Tryz.underlying208,NY,hl,if_true,NZ,b,Option.map_some]
def gD (P:Program)(es:List eN):Lit:=(keyOf P 208 (.agg (lr es))).getD .nil
theorem mW(es:List eN)(iE:es.length<=16)(hf:∀e∈es,Fits e):keyOf Tryz.prog 208 (.agg (lr es))=some (gD Tryz.prog es):=by
 have hx:∃k,keyOf Tryz.prog 208 (.agg (lr es))=some k:=by
  have a:Value.formed Tryz.prog 208 (.agg (lr es))=true:=by
   unfold Value.formed;rw[Tryz.underlying208];simp[NY,nO iE]
  obtain⟨n,hn⟩:∃n,Tryz.prog.types.size+1=n+3:=⟨Tryz.prog.types.size-2,by have:=YP;omega⟩;obtain⟨c,b⟩:=Zo n es iE hf;unfold keyOf;rw[Tryz.underlying208];simp only[Zm,a,Bool.and_self,if_true,Value.cells,hn,b,Option.map_some];exact⟨_,rfl⟩
 obtain⟨k,hk⟩:=hx;unfold gD;rw[hk];rfl
theorem HL{es fs:List eN}(h1:es.length<=16)(h2:fs.length<=16)(n1:∀e∈es,1<=e.1.size)(n2:∀e∈fs,1<=e.1.size)(h:lr es=lr fs):es=fs:=by
 have key:∀i,i<16->(es[i]?).getD (ByteArray.empty,0,0)=(fs[i]?).getD (ByteArray.empty,0,0):=by
  intro i hi;have a:=qb es h1 i hi;rw[h,qb fs h2 i hi]at a;simp only[ml,List.cons.injEq,Value.string.injEq,Value.int.injEq,true_and,and_true]at a;exact(Prod.ext a.1 (Prod.ext a.2.1 a.2.2)).symm
 have d:ByteArray.empty.size=0:=rfl;apply List.ext_getElem?;intro i;by_cases hi:i<16
 ·have k:=key i hi
  cases c:es[i]? with
  |none=>
   cases b:fs[i]? with
   |none=>rfl
   |some y=>
    rw[c,b]at k;simp only[Option.getD_none,Option.getD_some]at k
    have:=n2 y (List.mem_of_getElem? b)
    rw[<-k,d]at this;omega
  |some x=>
   cases b:fs[i]? with
   |none=>
    rw[c,b]at k;simp only[Option.getD_none,Option.getD_some]at k
    have:=n1 x (List.mem_of_getElem? c)
    rw[k,d]at this;omega
   |some y=>
    rw[c,b]at k;simp only[Option.getD_some]at k;rw[k]
 ·rw[List.getElem?_eq_none (by omega),List.getElem?_eq_none (by omega)]
theorem Lg{es fs:List eN}(h1:es.length<=16)(h2:fs.length<=16)(f1:∀e∈es,Fits e)(f2:∀e∈fs,Fits e)(n1:∀e∈es,1<=e.1.size)(n2:∀e∈fs,1<=e.1.size)
  (h:gD Tryz.prog es=gD Tryz.prog fs):es=fs:=by
 have a:=mW es h1 f1;have b:=mW fs h2 f2;rw[<-h]at b
 have:=NW.inj a b
 exact HL h1 h2 n1 n2 (by simpa using this)
variable {ft:gA}
structure Ob where
 kind:Int
 data:ByteArray
 ea:Option Addr
 el:Nat
 ec:Nat
 eR:List eN
 high:Int
def Ob.cells (o:Ob):List Value:=[.int .i64 o.kind,.string o.data,.slice o.ea o.el o.ec,.int .i64 o.high]
def fN (ey:List Ob):List Value:=ey.flatMap Ob.cells
theorem sK:∀(es:List Ob) (i j:Nat) (hi:i<es.length),j<4->(fN es)[i*4+j]?=(es[i].cells)[j]?
 |[],i,j,hi,_=>by simp at hi
 |e::r,0,j,_,hj=>by
  simp only[fN,List.flatMap_cons,Nat.zero_mul,Nat.zero_add,List.getElem_cons_zero]
  rw[List.getElem?_append_left (by simpa [Ob.cells]using hj)]
 |e::r,i+1,j,hi,hj=>by
  have a:=sK r i j (by simpa using hi) hj
  have b:e.cells.length=4:=rfl
  simp only[fN,List.flatMap_cons,List.getElem_cons_succ]at a ⊢
  rw[List.getElem?_append_right (by rw[b];omega),b,<-a]
  congr 1;omega
structure iH (ft:gA)(w:World)(p:Nat)(a:Option Addr)(n cap bf bd:Nat)(ey:List Ob):Prop where
 at_:fq ft w p a n cap bf bd
 row:w.ownsRow 0 213 4 (.slice a n cap) n (fN ey)
 len:ey.length=n
 many:n<=400
theorem iH.below{w w':World}{p:Nat}{a:Option Addr}{n cap bf bd:Nat}{ey:List Ob}(h:iH ft w p a n cap bf bd ey)(b:ik w w'):iH ft w' p a n cap bf bd ey:=
 ⟨h.at_.below b,eQ h.row (fun g hg=>b.block g (eK h.row hg)),h.len,h.many⟩
theorem iH.cells{w:World}{p:Nat}{a:Option Addr}{n cap bf bd:Nat}{ey:List Ob}(h:iH ft w p a n cap bf bd ey){i:Nat}(hi:i<ey.length):
  ∃g,a=some (eI g 0)/\g<w.heap.size/\w.cell? (eI g (i*4))=some (.int .i64 ey[i].kind)/\w.cell? (eI g (i*4+1))=some (.string ey[i].data)/\
   w.cell? (eI g (i*4+2))=some (.slice ey[i].ea ey[i].el ey[i].ec)/\w.cell? (eI g (i*4+3))=some (.int .i64 ey[i].high):=by
 have hn:i<n:=by rw[<-h.len];exact hi
 rcases h.row.2 with⟨_,h0⟩|⟨g,c,d,hv,_,hg,_,_,e,ht⟩
 ·omega
 ·cases hv
  have key:∀j b,j<4->(ey[i].cells)[j]?=some b->w.cell? (eI g (i*4+j))=some b:=by
   intro j b hj hu;rw[<-sK ey i j hi hj,<-ht,List.getElem?_take_of_lt (by omega),Array.getElem?_toList]at hu;simp[World.cell?,hg,hu]
  exact⟨g,rfl,(Array.getElem?_eq_some_iff.1 hg).1,key 0 _ (by omega) rfl,key 1 _ (by omega) rfl,key 2 _ (by omega) rfl,key 3 _ (by omega) rfl⟩
def eM (ey:List Ob)(id:Int):Int:=if 1<=id then((ey[(id-1).toNat]?).map (·.kind)).getD 0 else 0
def fB (ey:List Ob)(id:Int):Int:=((ey[(id-1).toNat]?).map (·.high)).getD 0
theorem tx{ey:List Ob}{j:Nat}(hj:j<ey.length):eM ey ((j:Int)+1)=ey[j].kind:=by
 unfold eM;rw[if_pos (by omega),show((j:Int)+1-1).toNat=j by omega,List.getElem?_eq_getElem hj];rfl
theorem xZ{ey:List Ob}{j:Nat}(hj:j<ey.length):fB ey ((j:Int)+1)=ey[j].high:=by
 unfold fB;rw[show((j:Int)+1-1).toNat=j by omega,List.getElem?_eq_getElem hj];rfl
theorem Pl{ey:List Ob}{id:Int}(h:id<1\/(ey.length:Int)<id):eM ey id=0:=by
 unfold eM;rcases h with h|h
 ·rw[if_neg (by omega)]
 ·rw[if_pos (by omega),List.getElem?_eq_none (by omega)];rfl
theorem qm(p:Nat)(a:Option Addr)(n cap bf bd:Nat)(ey:List Ob)(id:Int)(w:World)(h:iH ft w p a n cap bf bd ey):
  gc 61 #[hh p,eJ id] w (pB (eJ (eM ey id)) w):=by
 by_cases hid:id<1\/(n:Int)<id
 ·rw[Pl (by rw[h.len];exact hid)]
  exact(Dx p n cap a id w h.at_.c0 h.many hid).mono fun e w' ⟨b,hw⟩=>⟨b,by rw[hw];exact Below.refl _ _⟩
 ·obtain⟨j,rfl⟩:∃j:Nat,id=(j:Int)+1:=⟨(id-1).toNat,by omega⟩
  have hj:j<ey.length:=by rw[h.len];omega
  obtain⟨g,rfl,hg,c0,c1,c2,c3⟩:=h.cells hj;rw[tx hj];exact(Dy p g n cap j _ _ _ _ _ _ w h.at_.lt hg h.at_.c0 (by omega) h.many c0 c1 c2 c3).mono fun e w' ⟨b,hw⟩=>⟨b,by rw[hw];exact(Below.refl _ _).alloc (Nat.le_refl _) _⟩
theorem Tx(p:Nat)(a:Option Addr)(n cap bf bd:Nat)(ey:List Ob)(j:Nat)(hj:j<ey.length)(w:World)(h:iH ft w p a n cap bf bd ey):
  gc 113 #[hh p,eJ ((j:Int)+1)] w (pB (.agg #[.int .i64 ey[j].kind,.string ey[j].data,.slice ey[j].ea ey[j].el ey[j].ec,.int .i64 ey[j].high]) w):=by
 obtain⟨g,rfl,hg,c0,c1,c2,c3⟩:=h.cells hj;exact(Lb p g n cap j _ _ _ _ _ _ w h.at_.lt hg h.at_.c0 (by rw[<-h.len];exact hj) h.many c0 c1 c2 c3).mono fun e w' ⟨b,hw⟩=>⟨b,by rw[hw];exact(Below.refl _ _).alloc (Nat.le_refl _) _⟩
theorem Dz(p:Nat)(a:Option Addr)(n cap bf bd:Nat)(ey:List Ob)(j:Nat)(hj:j<ey.length)(w:World)(h:iH ft w p a n cap bf bd ey):
  gc 173 #[hh p,eJ ((j:Int)+1)] w (pB (.int .i64 ey[j].high) w):=by
 have b:=Tx p a n cap bf bd ey j hj w h;have f3:=cse;go_enter Tryz.func173,Tryz.ntmps173;go_wp2_with(go_at_call 113;refine b.mono ?_;rintro e w' ⟨rfl,c⟩);go_ret;exact⟨rfl,c⟩
theorem HN(p:Nat)(a:Option Addr)(n cap bf bd:Nat)(ey:List Ob)(id:Int)(w:World)(h:iH ft w p a n cap bf bd ey):
  gc 84 #[hh p,eJ id] w fun e w'=>ik w w'/\
   ((eM ey id≠1/\e=.returned (.tuple #[.string ByteArray.empty,eJ 13]))\/∃j,∃hj:j<ey.length,id=(j:Int)+1/\ey[j].kind=1/\e=.returned (.tuple #[.string ey[j].data,eJ 0])):=by
 by_cases hid:id<1\/(n:Int)<id
 ·exact(Tp p n cap a id w h.at_.c0 h.many hid).mono fun e w' ⟨b,hw⟩=>⟨by rw[hw];exact Below.refl _ _,.inl ⟨by rw[Pl (by rw[h.len];exact hid)];decide,b⟩⟩
 ·obtain⟨j,rfl⟩:∃j:Nat,id=(j:Int)+1:=⟨(id-1).toNat,by omega⟩
  have hj:j<ey.length:=by rw[h.len];omega
  obtain⟨g,rfl,hg,c0,c1,c2,c3⟩:=h.cells hj;refine(PA p g n cap j _ _ _ _ _ _ w h.at_.lt hg h.at_.c0 (by omega) h.many c0 c1 c2 c3).mono fun e w' ⟨b,hw⟩=>⟨hw,?_⟩;by_cases hk:ey[j].kind=1
  ·rw[if_pos hk]at b;exact .inr ⟨j,hj,rfl,hk,b⟩
  ·rw[if_neg hk]at b;exact .inl ⟨by rw[tx hj];exact hk,b⟩
variable {ft:gA}
def EQ (ey:List Ob)(e:eN):Bool:=!(eM ey e.2.2==0)&&(eM ey e.2.2==e.2.1)
def fI (ey:List Ob)(es:List eN):Int:=es.foldl (fun h e=>max h (1+fB ey e.2.2)) 0
theorem Lh(ey:List Ob)(es:List eN)(e:eN):fI ey (es++[e])=max (fI ey es) (1+fB ey e.2.2):=by
 simp only[fI,List.foldl_append,List.foldl_cons,List.foldl_nil]
def Ty (w w':World)(ey:List Ob)(es:List eN)(e:Ending):Prop:=
  Below w.heap.size w w'/\
   (((∃x∈es,EQ ey x=false)/\e=.returned (.tuple #[.int .i64 0,.int .i64 13]))\/
    ((∀x∈es,EQ ey x=true)/\5<fI ey es/\e=.returned (.tuple #[.int .i64 0,.int .i64 11]))\/
    ((∀x∈es,EQ ey x=true)/\fI ey es<=5/\0<=fI ey es/\e=.returned (.tuple #[.int .i64 (fI ey es),.int .i64 0])))
theorem Fu(p g J:Nat)(a:Option Addr)(n cap bf bd m:Nat)(ey:List Ob)(es:List eN)(w:World)(h:iH ft w p a n cap bf bd ey)(hl:es.length=m)(hm:m<=16)(l:g<w.heap.size)
  (hc:∀j d,(flat es)[j]?=some d->w.cell? (eI g (0+j))=some d)(D:∀o∈ey,0<=o.high/\o.high<=5):
  gc 110 #[hh p,.slice (some (eI g 0)) m J] w fun e w'=>Ty w w' ey es e:=by
 have K:Hid (∀j d,(flat es)[j]?=some d->w.cell? (eI g (0+j))=some d):=hc;have y:Hid (es.length=m):=hl;have L:Hid (∀o∈ey,0<=o.high/\o.high<=5):=D;clear hc hl D;go_enter Tryz.func110,Tryz.ntmps110;go_wp2
 go_loopw [6,12] (fun t i wr=>∃k:Nat,k<=m/\i=.int .i64 k/\t=.int .i64 (fI ey (es.take k))/\0<=fI ey (es.take k)/\fI ey (es.take k)<=6/\ik w wr/\Hid (∀j (hj:j<es.length),j<k->EQ ey es[j]=true)) (fun _ i _=>m-(intOf i).toNat)
 case atStart=>exact⟨0,Nat.zero_le _,rfl,rfl,Int.le_refl _,by show(0:Int)<=6;decide,Below.refl _ _,fun j hj h=>by omega⟩
 case round=>
  obtain⟨k,hk,rfl,rfl,h0,h6,b,E⟩:=hrel;by_cases M:k<m
  ·have r:k<es.length:=by rw[y.out];exact M
   obtain⟨c0,c1,c2⟩:=ld K.out r;rw[Nat.zero_add]at c0 c1 c2;have d0:=(b.cell (p:=(eI g (k*3))) l).trans c0;have d1:=(b.cell (p:=(eI g (k*3+1))) l).trans c1;have d2:=(b.cell (p:=(eI g (k*3+2))) l).trans c2;have U:g<wr.heap.size:=Nat.lt_of_lt_of_le l b.size;clear c0 c1 c2;have s:=fun(W:World) (hW:ik w W)=>qm p a n cap bf bd ey es[k].2.2 W (h.below hW);obtain⟨q,hq⟩:∃q,q=eM ey es[k].2.2:=⟨_,rfl⟩;have u:Hid (q=eM ey es[k].2.2):=hq;rw[<-hq]at s;clear hq;have box:=fun(N:World) (X:Obj) (hW:Below (wr.alloc X).heap.size (wr.alloc X) N) (o:Nat)=>hW.cell (p:=(eI wr.heap.size o)) (by simp);cases v:(q==0) with
   |true=>
    have f:Hid (EQ ey es[k]=false):=by
     show EQ ey es[k]=false;unfold EQ;rw[<-u.out,v];rfl
    go_wp2_with(go_at_call 61;refine(s _ (b.alloc b.size _)).mono ?_;rintro e F ⟨rfl,c⟩);go_ret2;exact⟨(b.alloc b.size _).trans (c.mono (by simp;have:=b.size;omega)),.inl ⟨⟨es[k],List.getElem_mem r,f.out⟩,rfl⟩⟩
   |false=>
    cases G:(q==es[k].2.1) with
    |false=>
     have f:Hid (EQ ey es[k]=false):=by
      show EQ ey es[k]=false;unfold EQ;rw[<-u.out,v,G];rfl
     go_wp2_with(go_at_call 61;refine(s _ (b.alloc b.size _)).mono ?_;rintro e F ⟨rfl,c⟩;have z:=box _ _ c 1;simp at z);go_ret2;exact⟨(b.alloc b.size _).trans (c.mono (by simp;have:=b.size;omega)),.inl ⟨⟨es[k],List.getElem_mem r,f.out⟩,rfl⟩⟩
    |true=>
     have f:Hid (EQ ey es[k]=true):=by
      show EQ ey es[k]=true;unfold EQ;rw[<-u.out,v,G];rfl
     obtain⟨j,hj,A⟩:∃j:Nat,j<ey.length/\es[k].2.2=(j:Int)+1:=by
      by_cases hid:es[k].2.2<1\/(ey.length:Int)<es[k].2.2
      ·have:=u.out;rw[Pl hid]at this;simp[this]at v
      ·exact⟨(es[k].2.2-1).toNat,by omega,by omega⟩
     have O:Hid (fB ey es[k].2.2=ey[j].high):=by
      show fB ey es[k].2.2=ey[j].high;rw[A];exact xZ hj
     have H:=fun(W:World) (hW:ik w W)=>Dz p a n cap bf bd ey j hj W (h.below hW);rw[<-A]at H;obtain⟨V,Y⟩:=L.out ey[j] (List.getElem_mem hj);have f3:=cse;clear A;go_wp2_with(first
      |(go_at_call 61;refine(s _ (b.alloc b.size _)).mono ?_;rintro e F ⟨rfl,c⟩;have z:=box _ _ c 1;have P:=box _ _ c 2;simp at z P;have B:=(b.alloc b.size _).trans (c.mono (by simp;have:=b.size;omega)))
      |(go_at_call 173;refine(H _ B).mono ?_;rintro e Z ⟨rfl,Q⟩))
     have C:fI ey (es.take (k+1))=max (fI ey (es.take k)) (1+ey[j].high):=by
      rw[List.take_succ_eq_append_getElem r,Lh,O.out]
     go_roundw
     case rel=>
      refine⟨k+1,by omega,by go_num,by rw[C],by rw[C];omega,by rw[C];omega,B.trans (Q.mono B.size),?_⟩;intro i hi aa;by_cases e:i=k
      ·subst e;exact f.out
      ·exact E.out i hi (by omega)
     case measure=>simp[intOf];omega
  ·have R:k=m:=by omega
   have I:Hid (∀x∈es,EQ ey x=true):=by
    intro x hx;obtain⟨j,hj,rfl⟩:=List.getElem_of_mem hx;exact E.out j hj (by rw[R,<-y.out];exact hj)
   have S:Hid (es.take k=es):=List.take_of_length_le (by rw[y.out];omega);rw[S.out]at h0 h6 ⊢;by_cases T:5<fI ey es
   ·go_wp2
    go_ret2;exact⟨b,.inr (.inl ⟨I.out,T,rfl⟩)⟩
   ·go_wp2
    go_ret2;exact⟨b,.inr (.inr ⟨I.out,by omega,h0,rfl⟩)⟩
variable {ft:gA}
theorem Xe(p:Nat)(a:Option Addr)(n cap bf bd:Nat)(ey:List Ob)(id:Int)(w:World)(h:iH ft w p a n cap bf bd ey)(hk:eM ey id≠2):
  gc 85 #[hh p,eJ id] w (pB (.tuple #[.slice none 0 0,eJ 13]) w):=by
 have b:=qm p a n cap bf bd ey id w h;obtain⟨q,hq⟩:∃q,q=eM ey id:=⟨_,rfl⟩;rw[<-hq]at b hk;have d:(q==2)=false:=by simpa using hk
 clear hq hk;go_enter Tryz.func85,Tryz.ntmps85;go_wp2_with(go_at_call 61;refine b.mono ?_;rintro e w' ⟨rfl,c⟩);go_ret2;exact⟨rfl,c⟩
theorem AF{w:World}{g m:Nat}{xs:List Value}(h:w.ownsRow 0 96 3 (.slice (some (eI g 0)) m m) m xs):∃a,Hid (w.heap[g]?=some (.cells a 96 (0,0)))/\Hid (a.size=m*3):=by
 rcases h.2 with⟨h0,_⟩|⟨c,d,a,hv,_,hg,_,_,b,_⟩
 ·cases h0
 ·cases hv;exact⟨a,hg,b⟩
theorem mC{w a w3:World}(b:ik w a)(hg:a.grownBy w3 none):Hid (ik w w3):=b.grown hg b.size (fun k h=>by cases h)
theorem PF{w w3:World}{g:Nat}{es:List eN}(b:ik w w3)(c:g<w.heap.size)(hc:∀j a,(flat es)[j]?=some a->w.cell? (eI g (0+j))=some a):∀j v,(flat es)[j]?=some v->w3.cell? (((eI g 0):Addr).add j)=some v:=by
 intro j v h;have h2:((eI g 0):Addr).add j=(eI g (0+j)):=by unfold Addr.add;split<;>simp_all
 rw[h2,b.cell (p:=(eI g (0+j))) c,hc j v h]
theorem Tz(p:Nat)(a:Option Addr)(n cap bf bd:Nat)(ey:List Ob)(j g m c:Nat)(es:List eN)(hj:j<ey.length)(w:World)(h:iH ft w p a n cap bf bd ey)(hk:ey[j].kind=2)
  (o:ey[j].ea=some (eI g 0))(q:ey[j].el=m)(r:ey[j].ec=c)(hm:m<=16)(hl:es.length=m)(z:g<w.heap.size)(hc:∀j d,(flat es)[j]?=some d->w.cell? (eI g (0+j))=some d):
  gc 85 #[hh p,eJ ((j:Int)+1)] w fun e w'=>∃s,e=.returned (.tuple #[.slice (some (eI s 0)) m m,eJ 0])/\w'.ownsRow w.heap.size 96 3 (.slice (some (eI s 0)) m m) m (flat es)/\ik w w':=by
 have t:=qm p a n cap bf bd ey ((j:Int)+1) w h;rw[tx hj,hk]at t;have u:=fun(W:World) (hW:ik w W)=>Tx p a n cap bf bd ey j hj W (h.below hW);rw[o,q,r]at u;have f2:=crc;obtain⟨A,hi,B,C,D⟩:=info_parts xX;have E:Hid (∀j d,(flat es)[j]?=some d->w.cell? (eI g (0+j))=some d):=hc;have b:Hid (es.length=m):=hl;clear hc hl o q r hk;go_enter Tryz.func85,Tryz.ntmps85;go_wp2_with(first
  |(go_at_call 61;refine t.mono ?_;rintro e M ⟨rfl,f⟩)
  |(go_at_call 113;refine(u _ f).mono ?_;rintro e i ⟨rfl,F⟩)
  |(at_make;refine wpList_make_full _ rfl _ _ 55 rfl 0 96 A _ 3 Tryz.underlying55 hi B C .i64 .i64 _ _ m rfl rfl rfl rfl ?_ ?_ (Nat.zero_le _) ?_;go_must(rw[D];omega);go_must(unfold maxLen;omega);intro w3 G H;obtain⟨I,J,v⟩:=AF G;have x:=f.trans (F.mono f.size);have l:=mC x H)
  |(refine rj rfl (.tmp 19) (.tmp 20) 55 55 rfl 96 Tryz.underlying55 3 Fp i.heap.size 0 m m (eI g 0) m c rfl rfl I 96 J.out (flat es) ?_ ?_ ?_ (iR es) (flat es).toArray ?_ ?_;go_must(rw[km,b.out];exact congrArg (· * 3) (Nat.min_self m).symm);go_must(exact PF (l.out) z E.out);go_must(rw[km,b.out,v.out];omega);go_must(simp only[List.take_zero,List.nil_append,Nat.zero_add];rw[List.drop_eq_nil_of_le (by rw[km,b.out,Array.length_toList,v.out];exact Nat.le_refl _),List.append_nil]);intro N K L))
 go_ret2;have y:=x.size;refine⟨i.heap.size,rfl,⟨by rw[km,b.out],.inr ⟨i.heap.size,m,(flat es).toArray,rfl,y,K.out,Nat.le_refl _,by unfold maxLen;omega,by simp[km,b.out],?_⟩⟩,?_⟩
 ·simp only
  exact List.take_of_length_le (by rw[km,b.out];exact Nat.le_refl _)
 ·exact l.out.grown L l.out.size (fun k h=>by cases h;exact y)
variable {ft:gA}
theorem Fv(w:World)(z cs:Array Value)(t:TypeId):(w.alloc (.cells z t)).setRow w.heap.size cs=w.alloc (.cells cs t):=by
 have a:((w.alloc (.cells z t)).setRow w.heap.size cs).heap=(w.alloc (.cells cs t)).heap:=by
  apply Array.ext_getElem?;intro k;by_cases hk:k=w.heap.size
  ·subst hk
   rw[setRow_heap _ _ _ _ t (0,0) (heap_alloc_new w _),heap_alloc_new]
  ·rw[setRow_other _ _ _ _ hk]
   show(w.heap.push _)[k]?=(w.heap.push _)[k]?;rw[Array.getElem?_push,Array.getElem?_push,if_neg hk,if_neg hk]
 cases w;simp only[World.setRow,World.alloc]at a ⊢;rw[a]
theorem TA{W:Nat->World}{bd n:Nat}{Dd:DataW Unit}{key:Value}{kl:Lit}(hd:∀q,(W q).ownsMap Tryz.prog 208 (plainElem Tryz.prog 29) bd n Dd)(e:keyOf Tryz.prog 208 key=some kl):
  ∃c:Int,(∀q,(Instr.lookup 183 (.map (some bd)) key true).run Tryz.prog (W q)=.ok (.tuple #[eJ c,.bool (Maps.has Dd kl)]) (W q))/\Dd.atKey kl (.lit (.int .i64 0))=.lit (.int .i64 c)/\(Lit.int .i64 c).wf=true:=by
 have one:∀q,∃c:Int,(Instr.lookup 183 (.map (some bd)) key true).run Tryz.prog (W q)=.ok (.tuple #[eJ c,.bool (Maps.has Dd kl)]) (W q)/\Dd.atKey kl (.lit (.int .i64 0))=.lit (.int .i64 c)/\(Lit.int .i64 c).wf=true:=by
  intro q;obtain⟨v,ps,a,hv⟩:=(hd q).look_ok NW Tryz.underlying183 (Fk _) (plainElem_int Tryz.underlying29 (by decide)) e;obtain⟨c,rfl,hc,b⟩:=plainElem_int_inv Tryz.underlying29 hv;exact⟨c,a,congrArg Prod.fst hc,b⟩
 obtain⟨c,_,d,b⟩:=one 0;refine⟨c,fun q=>?_,d,b⟩;obtain⟨f,a,g,_⟩:=one q
 have:f=c:=by have:=g.symm.trans d;simpa using this
 rw[this]at a;exact a
theorem ya{P:Program}{ops:Array Oper}{b:World->Prop}{c:Act->Prop}{o:Oper}{rest:List Oper}{a:Act}(hg:o.guard=none)(d:TypeId)(x:Operand)(h:o.op=.load d x)(g:Nat)(hx:a.eval x=(hh g))
  (cs:Array Value)(e:∀w,b w->(loadVar d (eI g 0)).run P w=.ok (.agg cs) w)(hk:wpQuiet P ops b c rest (a.put o.dst (.agg cs))):wpQuiet P ops b c (o::rest) a:=by
 have hw:Region.wanted o (yielded ops a.tmps)=true:=by simp[Region.wanted,hg]
 refine wpQuiet_step fun K f=>?_;rw[if_pos hw];refine⟨_,fun w hw=>?_,f _ hk⟩;unfold Oper.quietAt execOp;simp only[h,hx,Instr.loadAt,Instr.sureAddr,Sem.run_bind,Sem.run_pure,Result.andThen_ok,e w hw];exact⟨rfl,rfl⟩
theorem Fw{P:Program}{ops:Array Oper}{b:World->Prop}{d:Act->Prop}{o:Oper}{rest:List Oper}{a:Act}(hg:o.guard=none)(t:TypeId)(m x:Operand)(c:Bool)(h:o.op=.lookup t m x c)(M V v:Value)(hm:a.eval m=M)(hx:a.eval x=V)
  (e:∀w,b w->(Instr.lookup t M V c).run P w=.ok v w)(hk:wpQuiet P ops b d rest (a.put o.dst v)):wpQuiet P ops b d (o::rest) a:=by
 have hw:Region.wanted o (yielded ops a.tmps)=true:=by simp[Region.wanted,hg]
 refine wpQuiet_step fun K f=>?_;rw[if_pos hw];refine⟨_,fun w hw=>?_,f _ hk⟩;unfold Oper.quietAt execOp;simp only[h,hm,hx,Sem.run_bind,Sem.run_pure,Result.andThen_ok,e w hw];exact⟨rfl,rfl⟩
theorem yb{P:Program}{ops:Array Oper}{w:World}{b:Act->Prop}{o:Oper}{rest:List Oper}{a:Act}(hg:o.guard=none)(c:TypeId)(x:Operand)(h:o.op=.load c x)(g:Nat)(hx:a.eval x=(hh g))
  (cs:Array Value)(d:(loadVar c (eI g 0)).run P w=.ok (.agg cs) w)(hk:wpStill P ops w b rest (a.put o.dst (.agg cs))):wpStill P ops w b (o::rest) a:=by
 have hw:Region.wanted o (yielded ops a.tmps)=true:=by simp[Region.wanted,hg]
 refine wpStill_step fun K e=>?_;rw[if_pos hw];unfold Oper.still execOp;simp only[h,hx,Instr.loadAt,Instr.sureAddr,Sem.run_bind,Sem.run_pure,Result.andThen_ok,d];exact⟨rfl,e _ hk⟩
theorem ni{w:World}{b a:Nat}{c d:Array Value}{t t':TypeId}{fz e:Nat×Nat}(h:w.heap[b]?=some (.cells c t fz))(h':w.heap[a]?=some (.cells d t' e))(ht:t≠t'):b≠a:=by
 rintro rfl;rw[h]at h';simp only[Option.some.injEq,Obj.cells.injEq]at h';exact ht h'.2.1
def yc (ft:gA)(w w':World)(p:Nat)(a:Option Addr)(n cap bf bd c:Nat)(k:TypeId)(cells:List Value)(D:DataW Unit):Prop:=
 ∃b d,fq ft w' p (some ⟨b,0,none⟩) (n+1) d bf bd/\w'.ownsRow 0 213 4 (.slice (some ⟨b,0,none⟩) (n+1) d) (n+1) cells/\((some b:Option Nat)=(Value.slice a n cap).ownBlock\/w.heap.size<=b)/\
  w'.ownsMap Tryz.prog k (plainElem Tryz.prog 29) c (n+1) D/\Tr w w' p c (Value.slice a n cap).ownBlock
theorem PG{W w5:World}{p:Nat}{a:Option Addr}{n cap bf bd f:Nat}{ey:List Ob}{Dd:DataW Unit}{L:Array Value}{kl:Lit}{l:List Value}(nq:Nat)(c:iH ft W p a n cap bf bd ey)(hd:W.ownsMap Tryz.prog 208 (plainElem Tryz.prog 29) bd n Dd)
  (g:W.heap[f]?=some (.cells L 208 (0,0)))(s:Az (W.drewN nq) w5 p a n cap (fN ey) l)(J:keyOf Tryz.prog 208 (.agg L)=some kl)(hn:n<400)(t:L.size=48):
  w5.cell? (eI p 2)=some (.map (some bd))/\(loadVar 208 (eI f 0)).run Tryz.prog w5.drew=.ok (.agg L) w5.drew/\
   Hid (w5.drew.ownsMap Tryz.prog 208 (plainElem Tryz.prog 29) bd n Dd)/\Hid (∀w6,w6.ownsMap Tryz.prog 208 (plainElem Tryz.prog 29) bd (n+1) (Dd.put kl (.lit (.int .i64 ((n:Int)+1))))->w5.drew.grownBy w6 (some bd)->yc ft W w6 p a n cap bf bd bd 208 (fN ey++l) (Dd.put kl (.lit (.int .i64 ((n:Int)+1))))):=by
 have u:=fX c.row (b:=p) c.at_ (by decide);obtain⟨v,w,m,h,x,y,z,A,i,j⟩:=s.facts (show(W.drewN nq).heap[p]?=_ from c.at_) u;obtain⟨K,M,o⟩:=tz hd;have nd:=ul c.row o;have B:=fX c.row g (by decide);have Ws:bd≠p:=by rintro rfl;have:=c.at_;unfold fq at this;rw[o]at this;cases this
 have C:f≠p:=ni g c.at_ (by decide);have q:w5.ownsMap Tryz.prog 208 (plainElem Tryz.prog 29) bd n Dd:=tB hd (j bd hd.lt Ws nd);have D:w5.heap[f]?=some (.cells L 208 (0,0)):=(j _ (Array.getElem?_eq_some_iff.1 g).1 C B).trans g;have E:=run_loadVar_row (P:=Tryz.prog) w5.drew f 208 208 L (0,0) _ D Tryz.underlying208 rfl (by rw[t];exact xY);refine⟨fq.c2 m,E,q.drew,fun w6 F d=>⟨v,w,?_,?_,?_,F,⟨?_,?_,?_,?_,?_⟩⟩⟩
 ·unfold fq
  rw[d.block p (Nat.lt_of_lt_of_le c.at_.lt i) (fun e=>Ws (Option.some.inj e).symm)];exact m
 ·refine eQ h (fun G r=>(d.block G (eK h r) ?_))
  obtain⟨N,O,H⟩:=tz q
  have:=ul h H
  rw[r]at this;exact fun e=>this e.symm
 ·exact x
 ·rw[d.os];exact y
 ·rw[d.tape];exact z
 ·rw[d.output];exact A
 ·exact Nat.le_trans i d.size
 ·intro k hk I hkb hne
  rw[d.block k (Nat.lt_of_lt_of_le hk i) (fun e=>hkb (Option.some.inj e))];exact j k hk I hne
def Zp (ft:gA)(w w':World)(p:Nat)(a:Option Addr)(n cap bf bd:Nat)(Dd:DataW Unit)(ey:List Ob)(es:List eN)(m:Nat)(e:Ending):Prop:=
 (Below w.heap.size w w'/\
  (((∃x∈es,eG x.1=false)/\e=.returned (.tuple #[.int .i64 0,.int .i64 1]))\/
   ((∀x∈es,eG x.1=true)/\
    ((¬(es.map (·.1)).Nodup/\e=.returned (.tuple #[.int .i64 0,.int .i64 6]))\/
    ((es.map (·.1)).Nodup/\16<es.length/\e=.returned (.tuple #[.int .i64 0,.int .i64 11]))\/
    ((es.map (·.1)).Nodup/\es.length<=16/\(∃x∈es,EQ ey x=false)/\e=.returned (.tuple #[.int .i64 0,.int .i64 13]))\/
    ((es.map (·.1)).Nodup/\es.length<=16/\(∀x∈es,EQ ey x=true)/\∃es',es'.Perm es/\gC es'/\
     ((5<fI ey es'/\e=.returned (.tuple #[.int .i64 0,.int .i64 11]))\/
      (fI ey es'<=5/\Maps.has Dd (gD Tryz.prog es')=true/\∃c,Dd.atKey (gD Tryz.prog es') (.lit (.int .i64 0))=.lit (.int .i64 c)/\e=.returned (.tuple #[.int .i64 c,.int .i64 0]))\/
      (fI ey es'<=5/\Maps.has Dd (gD Tryz.prog es')=false/\400<=n/\e=.returned (.tuple #[.int .i64 0,.int .i64 11]))))))))\/
 ((∀x∈es,eG x.1=true)/\(es.map (·.1)).Nodup/\es.length<=16/\(∀x∈es,EQ ey x=true)/\n<400/\∃es',es'.Perm es/\gC es'/\fI ey es'<=5/\0<=fI ey es'/\Maps.has Dd (gD Tryz.prog es')=false/\
  e=.returned (.tuple #[.int .i64 ((n:Int)+1),.int .i64 0])/\∃g b,w'.ownsRow w.heap.size 96 3 (.slice (some ⟨g,0,none⟩) m b) m (flat es')/\
   yc ft w w' p a n cap bf bd bd 208 (fN ey++[.int .i64 2,.string ByteArray.empty,.slice (some ⟨g,0,none⟩) m b,.int .i64 (fI ey es')]) (Dd.put (gD Tryz.prog es') (.lit (.int .i64 ((n:Int)+1)))))
theorem yc.before{w W w':World}{p:Nat}{a:Option Addr}{n cap bf bd d:Nat}{k:TypeId}{cells:List Value}{D:DataW Unit}(h:yc ft W w' p a n cap bf bd d k cells D)(b:ik w W):yc ft w w' p a n cap bf bd d k cells D:=by
 obtain⟨e,f,h1,h2,h3,g,c⟩:=h;refine⟨e,f,h1,h2,h3.imp id (fun h=>Nat.le_trans b.size h),g,⟨c.os.trans b.os,c.tape.trans b.tape,c.output.trans b.output,Nat.le_trans b.size c.size,?_⟩⟩;intro k hk i hkb hne;rw[c.block k (Nat.lt_of_lt_of_le hk b.size) i hkb hne,b.block k hk]
theorem yc.keeps{w w':World}{p:Nat}{a:Option Addr}{n cap bf bd d:Nat}{k:TypeId}{cells:List Value}{D:DataW Unit}{ey:List Ob}(h:yc ft w w' p a n cap bf bd d k cells D)(hp:iH ft w p a n cap bf bd ey)
  {f:Array MapEntry}{i:Nat}(hm:w.heap[d]?=some (.map f i)){base:Nat}{e:TypeId}{size m:Nat}{v:Value}{xs:List Value}(c:w.ownsRow base e size v m xs)(j:e≠213)(TB:e≠185):w'.ownsRow base e size v m xs:=by
 obtain⟨q,r,_,_,_,_,l⟩:=h;refine eQ c (fun g hg=>?_);have css:=fX c (b:=p) hp.at_ (fun e=>TB e.symm);have TC:=ul c hm;rw[hg]at css TC;refine l.block g (eK c hg) (fun e=>css (by rw[e])) (fun e=>TC (by rw[e])) ?_;rcases c.2 with⟨rfl,_⟩|⟨s,t,u,rfl,_,o,_⟩
 ·simp[Value.ownBlock]at hg
 ·simp only[Value.ownBlock,Option.some.injEq]at hg
  subst hg;exact fX hp.row o j
theorem Oa{ey:List Ob}(hk:∀o∈ey,o.kind=1\/o.kind=2)(hn:ey.length<=400){e:eN}(hv:eG e.1=true)(hg:EQ ey e=true):Fits e:=by
 have hs:=wn hv;unfold EQ at hg;simp only[Bool.and_eq_true,Bool.not_eq_true',beq_eq_false_iff_ne,beq_iff_eq]at hg;obtain⟨h0,h1⟩:=hg;have hid:¬(e.2.2<1\/(ey.length:Int)<e.2.2):=fun h=>h0 (Pl h);refine⟨by unfold maxLen;omega,?_,WalkArith.wf_i64 (by omega)⟩;obtain⟨j,hj⟩:∃j:Nat,e.2.2=(j:Int)+1:=⟨(e.2.2-1).toNat,by omega⟩;have a:j<ey.length:=by omega
 rw[hj,tx a]at h1;rw[<-h1];rcases hk ey[j] (List.getElem_mem a)with h|h<;>rw[h]<;>exact WalkArith.wf_i64 (by omega)
theorem Li(p b off m c0:Nat)(a:Option Addr)(n cap bf bd:Nat)(ey:List Ob)(Dd:DataW Unit)(es:List eN)(w:World)(h:iH ft w p a n cap bf bd ey)(hd:w.ownsMap Tryz.prog 208 (plainElem Tryz.prog 29) bd n Dd)
  (hl:es.length=m)(ak:b<w.heap.size)(S:m*32<=140737488355328)(hc:∀j T,(flat es)[j]?=some T->w.cell? (eI b (off+j))=some T)
  (U:∀e∈es,e.1.size<=maxLen)(al:∀o∈ey,0<=o.high/\o.high<=5)(hk:∀o∈ey,o.kind=1\/o.kind=2):
  gc 60 #[hh p,.slice (some (eI b off)) m c0] w fun e w'=>Zp ft w w' p a n cap bf bd Dd ey es m e:=by
 have V:=Fo b off m c0 es w hl ak S hc U;go_enter Tryz.func60,Tryz.ntmps60;go_wp2_with fail;refine V.mono ?_;rintro e am ⟨d,⟨k,rfl⟩|⟨k,s,rfl⟩|⟨k,s,B,rfl⟩|⟨k,s,B,es',g,i,rfl,J,X,C⟩⟩
 ·go_wp2
  go_ret2;exact .inl ⟨d,.inl ⟨k,rfl⟩⟩
 ·go_wp2
  go_ret2;exact .inl ⟨d,.inr ⟨k,.inl ⟨s,rfl⟩⟩⟩
 ·go_wp2
  go_ret2;exact .inl ⟨d,.inr ⟨k,.inr (.inl ⟨s,B,rfl⟩)⟩⟩
 ·have hle:es'.length=m:=by rw[J.length_eq,hl]
  have Y:m<=16:=by omega
  have Z:=Fu p g i a n cap bf bd m ey es' am (h.below d) hle Y (eK C rfl) (jn C) al;have t:Hid (∀x∈es,eG x.1=true):=k;have v:Hid ((es.map (·.1)).Nodup):=s;have y:Hid (es.length<=16):=B;have l:Hid (es'.Perm es):=J;have D:Hid (gC es'):=X;have an:Hid (∀o∈ey,o.kind=1\/o.kind=2):=hk;clear V hc S U k s B J X hk;go_wp2_with fail;refine Z.mono ?_;rintro e K ⟨E,⟨hD,rfl⟩|⟨hD,z,rfl⟩|⟨hD,z,ao,rfl⟩⟩
  ·go_wp2
   go_ret2;obtain⟨x,hx,ap⟩:=hD;exact .inl ⟨d.trans (E.mono d.size),.inr ⟨t.out,.inr (.inr (.inl ⟨v.out,y.out,⟨x,l.out.mem_iff.1 hx,ap⟩,rfl⟩))⟩⟩
  ·go_wp2
   go_ret2;exact .inl ⟨d.trans (E.mono d.size),.inr ⟨t.out,.inr (.inr (.inr ⟨v.out,y.out,fun x hx=>hD x (l.out.mem_iff.2 hx),es',l.out,D.out,.inl ⟨z,rfl⟩⟩))⟩⟩
  ·have r:ik w K:=d.trans (E.mono d.size)
   have F:K.ownsRow w.heap.size 96 3 (.slice (some (eI g 0)) m i) m (flat es'):=eQ C (fun g hg=>E.block g (eK C hg));have aa:=Fq g m i es' K hle (eK F rfl) Y (jn F);have G:Hid ((lr es').size=48):=nO (by omega);clear Z;go_wp2_with(first
    |(go_at_call 111;refine aa.mono ?_;rintro e w3 ⟨rfl,u⟩)
    |(refine wpList_store_row rfl 208 _ _ rfl w3.heap.size (lr es') rfl rfl 208 _ (heap_alloc_new w3 _) (by rw[G.out];exact xY) (by rw[G.out];rfl) (yT es') ?_;rw[Fv]))
   have aB:=(h.below ((r.trans (u.mono r.size)).alloc (by have:=u.size;have:=r.size;omega) (.cells (lr es') 208))).at_.c2;have TD:(w3.alloc (.cells (lr es') 208)).ownsMap Tryz.prog 208 (plainElem Tryz.prog 29) bd n Dd:=(tB hd ((r.trans (u.mono r.size)).block bd hd.lt)).alloc _;have L:(w3.alloc (.cells (lr es') 208)).heap[w3.heap.size]?=some (.cells (lr es') 208 (0,0)):=heap_alloc_new w3 _;have A:ik w (w3.alloc (.cells (lr es') 208)):=(r.trans (u.mono r.size)).alloc (by have:=u.size;have:=r.size;omega) _;have aq:Hid ((w3.alloc (.cells (lr es') 208)).ownsRow w.heap.size 96 3 (.slice (some (eI g 0)) m i) m (flat es')):=World.ownsRow.alloc (eQ F (fun g hg=>u.block g (eK F hg))) _;have ar:∀e∈es',Fits e:=fun e ab=>Oa an.out (by rw[h.len];exact h.many) (t.out e (l.out.mem_iff.1 ab)) (hD e ab);have M:Hid (∀x∈es,EQ ey x=true):=fun x hx=>hD x (l.out.mem_iff.2 hx);have N:=mW es' (by omega) ar;obtain⟨c,ac,O,ad⟩:=TA (W:=fun q=>(w3.alloc (.cells (lr es') 208)).drewN q) (fun q=>TD) N;have ae:=fun q=>run_loadVar_row (P:=Tryz.prog) ((w3.alloc (.cells (lr es') 208)).drewN q) w3.heap.size 208 208 (lr es') (0,0) _ L Tryz.underlying208 rfl (by rw[G.out];exact xY)
   go_frame
   have au:Hid ((w3.alloc (.cells (lr es') 208)).heap[w3.heap.size]?=some (.cells (lr es') 208 (0,0))):=L;clear L;generalize w3.alloc (.cells (lr es') 208)=W at *;refine wp_region_quiet_lit (by kernel_rfl) (by kernel_rfl) ?_
   iterate 4 quiet_step (fail)
   refine ya rfl 208 _ rfl w3.heap.size rfl (lr es') (by rintro _ ⟨q,rfl⟩;exact ae q) ?_
   go_frame
   refine Fw rfl 183 _ _ true rfl (.map (some bd)) (.agg (lr es')) (.tuple #[eJ c,.bool (Maps.has Dd (gD Tryz.prog es'))]) rfl rfl (by rintro _ ⟨q,rfl⟩;exact ac q) ?_
   go_frame
   repeat(quiet_step (fail))
   refine wpQuiet_nil ?_;rintro _ ⟨nq,rfl⟩;have f:iH ft W p a n cap bf bd ey:=h.below A;clear ae ac aa;cases Q:Maps.has Dd (gD Tryz.prog es') with
   |true=>
    have H:Hid (Maps.has Dd (gD Tryz.prog es')=true):=Q;have av:Hid (Dd.atKey (gD Tryz.prog es') (.lit (.int .i64 0))=.lit (.int .i64 c)):=O;clear Q O ad;go_wp2;go_ret2;exact .inl ⟨below_drewN A _,.inr ⟨t.out,.inr (.inr (.inr ⟨v.out,y.out,M.out,es',l.out,D.out,.inr (.inl ⟨z,H.out,c,av.out,rfl⟩)⟩))⟩⟩
   |false=>
    have H:Hid (Maps.has Dd (gD Tryz.prog es')=false):=Q;clear O ad;by_cases hn:400<=n
    ·have I:=Hw p 2 (fI ey es') ByteArray.empty a n cap (some (eI g 0)) m i (W.drewN nq) f.at_.lt hn f.at_.c0
     go_wp2_with(go_at_call 112;refine I.mono ?_;rintro e w5 ⟨rfl,rfl⟩);go_ret2;exact .inl ⟨(below_drewN A _).alloc (below_drewN A _).size _,.inr ⟨t.out,.inr (.inr (.inr ⟨v.out,y.out,M.out,es',l.out,D.out,.inr (.inr ⟨z,H.out,hn,rfl⟩)⟩))⟩⟩
    ·have R:n<400:=by omega
     have af:=fX f.row (b:=p) f.at_ (by decide);have I:=Hv p 2 (fI ey es') ByteArray.empty a n cap (fN ey) (some (eI g 0)) m i (W.drewN nq) f.at_.lt R f.at_.c0 f.at_.f0 f.row af;go_wp2_with(go_at_call 112;refine I.mono ?_;rintro e w5 ⟨rfl,ag⟩);obtain⟨kc,aw,ax,ay⟩:=PG nq f TD au.out ag N R G.out;clear ag I af;refine wp_region_still_tail 6 (by kernel_rfl) (by kernel_rfl) ?_;simp only[List.take_succ_cons,List.take_zero,List.drop_succ_cons,List.drop_zero]
     iterate 4 still_step
     refine yb rfl 208 _ rfl w3.heap.size rfl (lr es') aw ?_
     go_frame
     still_step
     refine wpStill_nil ?_;refine wpList_mapUpdate_own _ rfl _ _ _ 183 rfl 208 29 NW Tryz.underlying183 _ bd n _ rfl ax.out (by unfold maxLen;omega) _ _ _ rfl rfl N _ [] (plainElem_int Tryz.underlying29 (WalkArith.wf_i64 (by omega))) ?_;intro w6 ah ai;have aj:Hid (yc ft W w6 p a n cap bf bd bd 208 (fN ey++[eJ 2,.string ByteArray.empty,.slice (some (eI g 0)) m i,eJ (fI ey es')]) (Dd.put (gD Tryz.prog es') (.lit (.int .i64 ((n:Int)+1))))):=ay.out w6 ah ai;clear ah ai;go_wp2;go_ret2;obtain⟨aC,aD,az⟩:=tz TD;have aA:W.ownsRow w.heap.size 96 3 (.slice (some (eI g 0)) m i) m (flat es'):=aq.out;exact .inr ⟨t.out,v.out,y.out,M.out,R,es',l.out,D.out,z,ao,H.out,rfl,g,i,aj.out.keeps f az aA (by decide) (by decide),aj.out.before A⟩
end Go.Proofs.YtlgidcmmgohagaaGreat
