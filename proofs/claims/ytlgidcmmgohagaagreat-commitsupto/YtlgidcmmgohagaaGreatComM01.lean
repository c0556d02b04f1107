/- A part of the proof. -/
import Derived.Shelf.Strings.OnBuilder
import Derived.Shelf.Small.Strs
import Derived.Shelf.Strings.BuilderK
import Derived.Shelf.Strconv.Clone
import Derived.Shelf.Strings.Shaped
import Derived.Shelf.SlSortCmp.SmallK
import Derived.Shelf.SlicesE.Clone
import Derived.Test.YtlgidcmmgohagaaGreatProg
import Derived.WalkSpells
import Derived.WalkLawsBesides
import Derived.Deep.RegionLawGrows
import Derived.Shelf.SlSortCmp.WholeK
import Derived.Sort.OwnSorted
import Derived.Laws.CopyOwn
import Derived.DeepKeys4
import Derived.StillTailTactics
set_option linter.all false
namespace Go.RowKit
theorem Hid.o {p:Prop} (h:Hid p):p:=h
end Go.RowKit
namespace Go
abbrev World.z (w:World):Nat:=w.heap.size
abbrev World.c (w:World)(b o:Nat):Option Value:=w.cell? ⟨b,o,none⟩
def Calls.via {P:Program}{f:FuncId}{a:Array Value}{w:World}{v:Value}{R:World->Prop}{Q:Ending->World->Prop}(h:Calls P f a w λe H=>e=.returned v/\R H)(k:∀H,R H->Q (.returned v) H):Calls P f a w Q:=h.mono λ_ H⟨he,hr⟩=>he▸k H hr
def Calls.still {P:Program}{f:FuncId}{a:Array Value}{w:World}{v:Value}{Q:Ending->World->Prop}(h:Calls P f a w λe H=>e=.returned v/\H=w)(k:Q (.returned v) w):Calls P f a w Q:=h.mono λ_ _⟨he,hw⟩=>he▸hw▸k
def ol {α:Sort _}(a:α):∃x,x=a:=⟨a,rfl⟩
def fX {α:Sort _}{a:α}:a=a:=rfl
def Fr {p:Prop}(h:p):RowKit.Hid p:=h
def Ar {α:Type _}{x:Option α}{a b:α}(h:x=some a)(e:a=b):x=some b:=e▸h
abbrev World.k (w:World)(a:Array Value)(t:TypeId):World:=w.alloc<|.cells a t
end Go
namespace List
abbrev l {α:Type} (x:List α):Nat:=x.length
end List
namespace Go.Proofs.YtlgidcmmgohagaaGreat
open Go.RowKit
abbrev ie (b:Nat):Value:=.pointer<|some ⟨b,0,none⟩
abbrev fY (x:Int):Value:=.int .i64 x
abbrev kq:ByteArray:=⟨#[]⟩
abbrev ml (a b c d e:ByteArray):Array Value:=#[.string a,.string b,.string c,.string d,.string e]
abbrev ii (b o:Nat):Addr:=⟨b,o,none⟩
abbrev ju (w H:World):Prop:=Below w.heap.size w H
abbrev ut (v:Value)(w:World):Ending->World->Prop:=λe H=>e=.returned v/\Below w.heap.size w H
abbrev PP (v:Value)(a:World):Ending->World->Prop:=λe H=>e=.returned v/\H=a
abbrev ik (b:Nat)(a:Array Value)(w:World)(c:Ending->World->Prop):Prop:=Calls Tryz.prog b a w c
abbrev hh (s:ByteArray):Value:=.string s
abbrev pD (a:Array Value):Ending:=.returned<|.tuple a
abbrev my (b a n c:Nat):Value:=.slice (some ⟨b,a,none⟩) n c
abbrev zyK (a:World)(b c:Nat)(d:Value):Prop:=a.cell? ⟨b,c,none⟩=some d
end Go.Proofs.YtlgidcmmgohagaaGreat
namespace Go.Proofs.YtlgidcmmgohagaaGreat
open Go.RowKit Go.Sort Go.Shelf Go.Proofs.Tryz
open Go.Value renaming slice->fy,string->fA,pointer->fB,tuple->fC,agg->fD,bool->fE
open Go.Ending renaming returned->fF
open Option renaming some->fh,none->fj
open Bool renaming true->fm,false->fo
open Go renaming World->fq,Value->fu
open List renaming length->fv,reverse->fx
open Go.RowKit renaming Hid->fe
abbrev fT:=List ByteArray
abbrev fP:=ByteArray
abbrev ig:=Option Addr
abbrev iN:=List Value
abbrev lV:=TypeId
theorem np:type_of% @Nat.lt_of_lt_of_le:=@Nat.lt_of_lt_of_le
def km:=@if_neg
def lw:=@Nat.le_refl
def lv:=@if_pos
theorem yv:type_of% @decide_eq_false:=@decide_eq_false
def zt:=@Nat.zero_le
def wy:=@Nat.le_trans
theorem jH:type_of% @List.getElem?_eq_getElem:=@List.getElem?_eq_getElem
theorem vk:type_of% @List.take_succ_eq_append_getElem:=@List.take_succ_eq_append_getElem
theorem kN:type_of% @List.getElem_mem:=@List.getElem_mem
def RK:=@Calls.mono
theorem wd:type_of% @Option.bind_some:=@Option.bind_some
theorem mi:type_of% @Below.refl:=@Below.refl
theorem lW:type_of% @Array.getElem?_eq_some_iff:=@Array.getElem?_eq_some_iff
theorem lI:type_of% @List.length_append:=@List.length_append
theorem wH:type_of% @List.getElem?_eq_some_iff:=@List.getElem?_eq_some_iff
theorem pV:type_of% @Option.some.injEq:=@Option.some.injEq
theorem qz:type_of% @List.prefix_append:=@List.prefix_append
theorem oV:type_of% @Option.map_some:=@Option.map_some
theorem oI:type_of% @List.length_map:=@List.length_map
theorem vh:type_of% @Below.heap_setCell:=@Below.heap_setCell
theorem sL:type_of% @List.append_assoc:=@List.append_assoc
theorem wJ:type_of% @World.cell?_of_block:=@World.cell?_of_block
theorem qu:type_of% @decide_eq_true:=@decide_eq_true
theorem sA:type_of% @Option.getD_some:=@Option.getD_some
theorem sM:type_of% @List.prefix_refl:=@List.prefix_refl
theorem oJ:type_of% @List.take_of_length_le:=@List.take_of_length_le
theorem kz:type_of% @List.reverse_cons:=@List.reverse_cons
def kO:=@World.ownsRow_nil
def iO:=@Nat.zero_add
theorem lq:type_of% @List.length_cons:=@List.length_cons
theorem kV:type_of% @List.length_take:=@List.length_take
theorem yQ:type_of% @List.findIdx?_eq_some_iff_getElem:=@List.findIdx?_eq_some_iff_getElem
theorem oW:type_of% @Array.length_toList:=@Array.length_toList
def lJ:=@List.append_nil
theorem wk:type_of% @List.getElem?_append_left:=@List.getElem?_append_left
theorem oK:type_of% @List.mem_cons_self:=@List.mem_cons_self
theorem oa:type_of% @List.mem_singleton:=@List.mem_singleton
theorem ja:type_of% @List.mem_map:=@List.mem_map
theorem wm:type_of% @List.getElem?_eq_none:=@List.getElem?_eq_none
def iP:=@below_drewN
def lK:=@Value.slice.inj
theorem nX:type_of% @heap_alloc_new:=@heap_alloc_new
theorem wK:type_of% @List.getD_eq_getElem?_getD:=@List.getD_eq_getElem?_getD
theorem rD:type_of% @List.getElem_of_mem:=@List.getElem_of_mem
def oL:=@Decidable.not_not
def jh:=@Nat.le_succ
def rE:=@World.ownsRow.alloc
theorem nh:type_of% @List.map_append:=@List.map_append
theorem BU:type_of% @List.getElem?_append_right:=@List.getElem?_append_right
def tP:=@List.reverse_reverse
def wo:=@List.dropLast_concat
theorem qE:type_of% @Int.toNat_natCast:=@Int.toNat_natCast
def lM:=@List.map_cons
def Cbv:=@underlying55
theorem rF:type_of% @Option.some.inj:=@Option.some.inj
theorem mB:type_of% @List.mem_cons:=@List.mem_cons
theorem sB:type_of% @List.pairwise_cons:=@List.pairwise_cons
def wq:=@List.mem_cons_of_mem
theorem rG:type_of% @List.length_drop:=@List.length_drop
def ni:=@bodyPost_ret
def kC:=@info_parts
theorem qw:type_of% @List.mem_append:=@List.mem_append
theorem sG:type_of% @Below.heap_alloc:=@Below.heap_alloc
def abN:=@underlying29
theorem sH:type_of% @List.take_length:=@List.take_length
theorem MW:type_of% @List.getElem?_take_of_lt:=@List.getElem?_take_of_lt
theorem BV:type_of% @Array.getElem?_modify:=@Array.getElem?_modify
def rev:=@underlying9
theorem Au:type_of% @ByteArray.toList_eq:=@ByteArray.toList_eq
theorem wu:type_of% @Nat.le_succ_of_le:=@Nat.le_succ_of_le
theorem wz:type_of% @List.pairwise_map:=@List.pairwise_map
def BW:=@List.size_toArray
def MX:=@Nat.lt_of_succ_lt
theorem wA:type_of% @List.mem_flatMap:=@List.mem_flatMap
theorem DY:type_of% @List.length_eq_zero_iff:=@List.length_eq_zero_iff
theorem Av:type_of% @List.mem_of_mem_take:=@List.mem_of_mem_take
def KL:=@List.eq_nil_of_length_eq_zero
def BX:=@List.length_singleton
def BZ:=@of_decide_eq_true
def yR:=@wpList_append_own
def yS:=@List.getElem_map
theorem Ht:type_of% @List.mem_of_find?_eq_some:=@List.mem_of_find?_eq_some
def tQ:=@List.getD_nil
theorem EC:type_of% @Option.map_eq_some_iff:=@Option.map_eq_some_iff
theorem ED:type_of% @List.getElem_cons_zero:=@List.getElem_cons_zero
def Ca:=@Calls.quiet_of_same
theorem DZ:type_of% @List.mem_map_of_mem:=@List.mem_map_of_mem
theorem zw:type_of% @World.size_alloc:=@World.size_alloc
theorem Hu:type_of% @List.append_cancel_left:=@List.append_cancel_left
theorem KM:type_of% @List.drop_eq_getElem_cons:=@List.drop_eq_getElem_cons
def Ri:=@List.pairwise_iff_getElem
def aek:=@underlying208
def EE:=@beq_eq_false_iff_ne
def wB:=@Below.setCell
theorem vo:type_of% @Prod.mk.injEq:=@Prod.mk.injEq
theorem KN:type_of% @List.getElem_append_left:=@List.getElem_append_left
theorem EF:type_of% @List.getElem?_set_ne:=@List.getElem?_set_ne
theorem EG:type_of% @Nat.mul_le_mul_right:=@Nat.mul_le_mul_right
def bit:=@underlying3
def KO:=@List.ext_getElem?
theorem zx:type_of% @List.mem_filter:=@List.mem_filter
theorem zy:type_of% @List.length_nil:=@List.length_nil
theorem yT:type_of% @List.drop_left:=@List.drop_left
def hwn:=@World.cell?_alloc_past
theorem Cb:type_of% @IntKind.wrap_i64:=@IntKind.wrap_i64
def Cc:=@List.cons.injEq
def Ea:=@World.drewN_drewN
def ble:=@wpList_lookup_own_ok_int
def Clz:=@underlying131
def abO:=@underlying106
theorem KP:type_of% @List.take_append_drop:=@List.take_append_drop
def Rj:=@Option.ne_none_iff_exists'
def KQ:=@List.drop_succ_cons
def KR:=@List.getLast_concat
def Hv:=@List.length_reverse
def EH:=@Bool.and_eq_true
def Eb:=@List.cons_append
def Ce:=@List.drop_zero
theorem Rk:type_of% @World.frozen?_of_block:=@World.frozen?_of_block
def wC:=@Int.le_refl
theorem Rl:type_of% @of_decide_eq_false:=@of_decide_eq_false
def ael:=@underlying182
theorem KS:type_of% @List.map_congr_left:=@List.map_congr_left
theorem Ec:type_of% @List.take_left':=@List.take_left'
def Ws:=@ByteArray.size_append
def Wt:=@Array.getElem?_toList
def Hw:=@decide_eq_true_eq
def aem:=@underlying174
theorem Wu:type_of% @List.drop_eq_nil_of_le:=@List.drop_eq_nil_of_le
theorem Rm:type_of% @List.getElem?_set_self:=@List.getElem?_set_self
theorem EI:type_of% @Nat.min_eq_left:=@Nat.min_eq_left
def Hx:=@List.nil_append
theorem Wv:type_of% @List.findIdx?_eq_none_iff:=@List.findIdx?_eq_none_iff
def Hy:=@List.foldl_cons
theorem blt:type_of% @List.take_append_of_le_length:=@List.take_append_of_le_length
theorem Ww:type_of% @WalkArith.wf_i64:=@WalkArith.wf_i64
def Rn:=@List.take_succ_cons
theorem Ro:type_of% @List.cons_prefix_cons:=@List.cons_prefix_cons
def MZ:=@List.flatMap_cons
def Rp:=@List.length_replicate
def rfg:=@WideMaps.keyOf_string_mk
theorem bol:type_of% @List.prefix_append_right_inj:=@List.prefix_append_right_inj
theorem KT:type_of% @List.mem_range:=@List.mem_range
def KU:=@List.take_zero
def aen:=@underlying204
theorem Rq:type_of% @heap_alloc2_old:=@heap_alloc2_old
def Wx:=@List.getElem?_drop
theorem Wy:type_of% @List.mem_of_mem_drop:=@List.mem_of_mem_drop
def Rs:=@List.mem_append_left
def Cf:=@List.map_nil
theorem EJ:type_of% @setRow_other:=@setRow_other
def bot:=@ByteArray.data_extract
def Wz:=@wp_region_quiet_lit
def Rt:=@List.getElem_append
def hwp:=@Result.andThen_ok
theorem Ed:type_of% @List.map_map:=@List.map_map
def Ee:=@Nat.add_zero
def Ctx:=@ntmps20
def WA:=@List.mem_append_right
theorem Ru:type_of% @heap_alloc2_new:=@heap_alloc2_new
def Ef:=@Nat.le_of_lt
def rip:=@World.frozen?_alloc_past
def abP:=@underlying161
def aeo:=@underlying162
theorem Cg:type_of% @Lib.size_eq:=@Lib.size_eq
def Hz:=@setRow_heap
def EK:=@Nat.sub_self
theorem EL:type_of% @Nat.le_of_eq:=@Nat.le_of_eq
def CNF:=@func20
def Na:=@List.find?_cons
theorem WC:type_of% @List.length_pos_iff:=@List.length_pos_iff
theorem bwd:type_of% @Option.map_eq_none_iff:=@Option.map_eq_none_iff
def aep:=@underlying5
def rlk:=@underlying121
def bws:=@List.singleton_append
theorem WD:type_of% @List.map_take:=@List.map_take
def cat:=@MapKept.stamped_empty
def cbv:=@Nat.lt_of_lt_of_eq
def Nb:=@Option.or_none
def hw1:=@wp_region_still_tail
def cex:=@List.mem_of_getElem?
def cfg:=@wpList_append_own_at
theorem cin:type_of% @Maps.atKey_put_other:=@Maps.atKey_put_other
def rll:=@wpList_mapUpdate_own
def aeq:=@zeroValue3
def aer:=@zeroValue9
def Rv:=@Nat.not_lt_zero
def cls:=@List.foldl_append
def hxl:=@Option.isSome_iff_exists
def Nc:=@Nat.lt_trans
theorem clz:type_of% @Maps.atKey_put_same:=@Maps.atKey_put_same
theorem cmd:type_of% @List.reverse_inj:=@List.reverse_inj
def WE:=@Option.getD_none
def aes:=@underlying4
def cmn:=@wpList_make_full
def WH:=@List.getElem_set
def WI:=@run_underlying
theorem hxs:type_of% @ByteArray.size_extract:=@ByteArray.size_extract
theorem hxy:type_of% @List.drop_of_length_le:=@List.drop_of_length_le
def cnf:=@List.findIdx?_cons
theorem coe:type_of% @List.filter_append:=@List.filter_append
def aet:=@underlying147
def aeu:=@zeroValue4
def aev:=@zeroValue5
def WJ:=@List.nodup_cons
def CSE:=@List.length_filter_lt_length_iff_exists
def hxz:=@List.findSome?_append
def hyp:=@Sem.run_bind
def hys:=@Sem.run_pure
def aew:=@UInt8.lt_iff_toNat_lt
def Rw:=@ByteArray.ext
def col:=@heap_setCell_same
theorem rlr:type_of% @List.findSome?_eq_none_iff:=@List.findSome?_eq_none_iff
theorem rls:type_of% @List.getElem_concat_length:=@List.getElem_concat_length
def abQ:=@List.getElem?_take_eq_none
def hyz:=@List.pairwise_append
theorem hy2:type_of% @List.replicate_succ':=@List.replicate_succ'
def hBg:=@Lib.byteCells_length
def rlv:=@World.cell?_setCell_other
def WK:=@DataW.trod_int
def abR:=@Array.getElem?_eq_getElem
def cop:=@Nat.le_add_right
def cos:=@List.ext_getElem
def rop:=@wpList_store_row
theorem cpu:type_of% @List.not_mem_nil:=@List.not_mem_nil
def Rx:=@wpQuiet_nil
def hBw:=@List.replicate_zero
def aex:=@sizeOf3
def aey:=@sizeOf9
def WL:=@wpList_plain
theorem Ry:type_of% @Nat.succ_mul:=@Nat.succ_mul
def Rz:=@Addr.add_lit
theorem crc:type_of% @List.drop_left':=@List.drop_left'
def Eg:=@and_true
def aez:=@underlying265
def aeA:=@underlying269
def rrs:=@List.getElem?_cons_zero
def hBN:=@Nat.lt_of_le_of_lt
def hBW:=@Maps.has_put_other
def rts:=@plainElem_int
def rws:=@run_loadVar_row
def aeB:=@underlying183
theorem hEq:type_of% @List.find?_eq_none:=@List.find?_eq_none
def hId:=@List.getElem?_take
def cse:=@UInt8.toNat_inj
def aeC:=@ntmps129
def Day:=@Bool.false_eq_true
theorem sat:type_of% @List.prefix_concat_iff:=@List.prefix_concat_iff
theorem scc:type_of% @List.find?_cons_of_pos:=@List.find?_cons_of_pos
theorem scp:type_of% @List.find?_cons_of_neg:=@List.find?_cons_of_neg
def aeD:=@isAgg3
def aeE:=@isAgg9
def sec:=@run_append_own_at
def aeF:=@underlying59
theorem hIn:type_of% @Maps.has_put_same:=@Maps.has_put_same
def hI0:=@World.cells?_some
def hJ0:=@List.getElem?_map
theorem HA:type_of% @Prod.ext:=@Prod.ext
def css:=@Option.map_map
def aeG:=@results90
def seg:=@List.append_inj_left'
def sev:=@List.pairwise_flatMap
def aeH:=@sizeOf4
def aeI:=@sizeOf5
def aeJ:=@ntmps50
def WM:=@List.set_set
def sig:=@World.frozen?_setCell
def sin:=@AnyE.slices_Clone_nil
theorem WN:type_of% @Nat.lt_or_ge:=@Nat.lt_or_ge
def aeK:=@func129
def hLO:=@List.any_eq_true
def aeL:=@underlying0
def hMs:=@List.drop_length
def hNe:=@Nat.succ_le_succ
theorem sle:type_of% @Array.toList_inj:=@Array.toList_inj
def hOr:=@DataW.held.injEq
theorem hPa:type_of% @Nat.min_le_right:=@Nat.min_le_right
def slt:=@World.cell?_alloc_lt
def Def:=@Array.toArray_toList
def ss1:=@World.ownsRow.stored
def Den:=@Array.getElem_toList
def aeM:=@ntmps123
def aeN:=@ntmps101
def ctz:=@List.sum_cons
def hPQ:=@Nat.lt_irrefl
def WO:=@Below.alloc
def aeO:=@zeroValue0
def aeP:=@isAgg4
def aeQ:=@isAgg5
def aeR:=@func50
theorem WQ:type_of% @decide_true:=@decide_true
def hQa:=@Option.map_none
theorem ss2:type_of% @List.reverse_append:=@List.reverse_append
def hRS:=@List.nil_prefix
def aeS:=@results136
theorem hTe:type_of% @Nat.min_le_left:=@Nat.min_le_left
def stk:=@underlying153
def aeT:=@ntmps51
def aeU:=@func123
def aeV:=@func101
def cwd:=@Nat.zero_mul
def stM:=@Nat.eq_zero_or_pos
def aeW:=@ntmps63
def Dom:=@Option.isSome_none
def WR:=@wpAny_take
def hX1:=@List.cons.inj
def hYs:=@ntmps204
def aeX:=@func51
def aeY:=@ntmps103
def aeZ:=@ntmps125
def iff:=@wpStill_nil
def ae0:=@func63
def ae1:=@ntmps136
def ae2:=@ntmps193
def ae3:=@ntmps195
def ae4:=@ntmps141
def abS:=@Nat.add_assoc
def Dup:=@heap_grow_old
def DNS:=@alloc_eq_grow
def dat:=@if_true
def day:=@if_false
end Go.Proofs.YtlgidcmmgohagaaGreat
namespace Go.Proofs
open Go.Shelf
def Tryz.Nf:Go.Shelf.Ren:=⟨λ|106=>191|213=>218|265=>247|n=>n,λ|9=>9|3=>3|n=>n,λ|n=>n⟩
def Tryz.aal:Go.Proofs.Lays.n106 Tryz.prog Tryz.Nf:={
 mixed:=by kernel_rfl
 f106:=Tryz.func191.trans (congrArg some<|by kernel_rfl)
 f213:=Tryz.func218.trans (congrArg some<|by kernel_rfl)
 f265:=Tryz.func247.trans (congrArg some<|by kernel_rfl)
 t3:=Tryz.underlying3
 a3:=Tryz.isAgg3
 z3:=Tryz.sizeOf3
 v3:=Tryz.zeroValue3
 t9:=Tryz.underlying9
 a9:=Tryz.isAgg9
 z9:=Tryz.sizeOf9
 v9:=Tryz.zeroValue9 }
open Go.RowKit in
def Tryz.strings_Compare(a b:ByteArray)(w:World):
  Calls Tryz.prog 191 #[.string a,.string b] w λe H=>e=.returned (.int .i64<|Lib.compareBytes a.data.toList b.data.toList)/\H=w:=Any.strings_Compare Tryz.aal a b w
def Tryz.Ng:Go.Shelf.Ren:=⟨λ|137=>185|217=>216|266=>246|n=>n,λ|9=>9|5=>5|3=>3|n=>n,λ|n=>n⟩
def Tryz.aam:Go.Proofs.Lays.n137 Tryz.prog Tryz.Ng:={
 mixed:=by kernel_rfl
 f137:=Tryz.func185.trans (congrArg some<|by kernel_rfl)
 f217:=Tryz.func216.trans (congrArg some<|by kernel_rfl)
 f266:=Tryz.func246.trans (congrArg some<|by kernel_rfl)
 t3:=Tryz.underlying3
 a3:=Tryz.isAgg3
 z3:=Tryz.sizeOf3
 v3:=Tryz.zeroValue3
 t5:=Tryz.underlying5
 a5:=Tryz.isAgg5
 z5:=Tryz.sizeOf5
 v5:=Tryz.zeroValue5
 t9:=Tryz.underlying9
 a9:=Tryz.isAgg9
 z9:=Tryz.sizeOf9
 v9:=Tryz.zeroValue9 }
open Go.RowKit in
def Tryz.strings_IndexByte(s:ByteArray)(c:Int)(w:World):
  Calls Tryz.prog 185 #[.string s,.int .u8 c] w λe H=>e=.returned (.int .i64<|Lib.indexByte s.data.toList c.toNat.toUInt8)/\H=w:=Any.strings_IndexByte Tryz.aam s c w
def Tryz.KV:Go.Shelf.Ren:=⟨λ|316=>186|n=>n,λ|9=>9|3=>3|4=>4|37=>204|0=>0|127=>310|5=>5|n=>n,λ|n=>n⟩
def Tryz.aac:Go.Proofs.LaysM.n316 Tryz.prog Tryz.KV:={
 mixed:=by kernel_rfl
 f316:=Tryz.func186.trans (congrArg some<|by kernel_rfl)
 t0:=Tryz.underlying0
 a0:=Tryz.isAgg0
 z0:=Tryz.sizeOf0
 v0:=Tryz.zeroValue0
 t3:=Tryz.underlying3
 a3:=Tryz.isAgg3
 z3:=Tryz.sizeOf3
 v3:=Tryz.zeroValue3
 t4:=Tryz.underlying4
 a4:=Tryz.isAgg4
 z4:=Tryz.sizeOf4
 v4:=Tryz.zeroValue4
 t9:=Tryz.underlying9
 a9:=Tryz.isAgg9
 z9:=Tryz.sizeOf9
 v9:=Tryz.zeroValue9
 t37:=Tryz.underlying204
 a37:=Tryz.isAgg204
 z37:=Tryz.sizeOf204
 v37:=Tryz.zeroValue204
 t127:=Tryz.underlying310
 a127:=Tryz.isAgg310
 z127:=Tryz.sizeOf310
 v127:=Tryz.zeroValue310
 t5:=Tryz.underlying5
 a5:=Tryz.isAgg5
 z5:=Tryz.sizeOf5
 v5:=Tryz.zeroValue5
 i0:=by kernel_rfl
 i3:=by kernel_rfl
 i4:=by kernel_rfl
 i5:=by kernel_rfl
 i9:=by kernel_rfl
 i37:=by kernel_rfl
 i127:=by kernel_rfl }
open Go.RowKit in
def Tryz.stringslite_Clone(s:ByteArray)(w:World)(abT:s.size<=281474976710656):
  Calls Tryz.prog 186 #[.string s] w λe H=>e=.returned (.string s)/\Below w.heap.size w H:=Any.stringslite_Clone Tryz.aac s w abT
def Tryz.Nh:Go.Shelf.Ren:=⟨λ|217=>216|266=>246|n=>n,λ|9=>9|5=>5|3=>3|n=>n,λ|n=>n⟩
def Tryz.aan:Go.Proofs.Lays.n217 Tryz.prog Tryz.Nh:={
 mixed:=by kernel_rfl
 f217:=Tryz.func216.trans (congrArg some<|by kernel_rfl)
 f266:=Tryz.func246.trans (congrArg some<|by kernel_rfl)
 t3:=Tryz.underlying3
 a3:=Tryz.isAgg3
 z3:=Tryz.sizeOf3
 v3:=Tryz.zeroValue3
 t5:=Tryz.underlying5
 a5:=Tryz.isAgg5
 z5:=Tryz.sizeOf5
 v5:=Tryz.zeroValue5
 t9:=Tryz.underlying9
 a9:=Tryz.isAgg9
 z9:=Tryz.sizeOf9
 v9:=Tryz.zeroValue9 }
open Go.RowKit Go.Lib in
def Tryz.stringslite_IndexByte(s:ByteArray)(c:Int)(w:World):
  Calls Tryz.prog 216 #[.string s,.int .u8 c] w λe H=>e=.returned (.int .i64<|Lib.indexByte s.data.toList c.toNat.toUInt8)/\H=w:=Any.stringslite_IndexByte Tryz.aan s c w
def Tryz.WS:Go.Shelf.Ren:=⟨λ|6=>171|15=>208|14=>209|28=>233|29=>234|20=>235|21=>236|22=>237|23=>238|24=>239|25=>240|26=>241|27=>242|46=>255|47=>251|48=>252|49=>256|50=>257|57=>264|n=>n,λ|22=>55|24=>96|25=>264|3=>3|39=>301|0=>0|53=>323|55=>325|4=>4|46=>317|45=>316|50=>232|5=>5|9=>9|66=>332|70=>336|76=>350|77=>98|n=>n,λ|n=>n⟩
def Tryz.aaz:Go.Proofs.SlLaysF0.n6 Tryz.prog Tryz.WS:={
 mixed:=by kernel_rfl
 f6:=⟨Tryz.f171.name,by decide,Ar Tryz.func171<|by kernel_rfl⟩
 f14:=⟨Tryz.f209.name,by decide,Ar Tryz.func209<|by kernel_rfl⟩
 f15:=Tryz.func208.trans (congrArg some<|by kernel_rfl)
 f20:=⟨Tryz.f235.name,by decide,Ar Tryz.func235<|by kernel_rfl⟩
 f21:=⟨Tryz.f236.name,by decide,Ar Tryz.func236<|by kernel_rfl⟩
 f22:=⟨Tryz.f237.name,by decide,Ar Tryz.func237<|by kernel_rfl⟩
 f23:=⟨Tryz.f238.name,by decide,Ar Tryz.func238<|by kernel_rfl⟩
 f24:=⟨Tryz.f239.name,by decide,Ar Tryz.func239<|by kernel_rfl⟩
 f25:=⟨Tryz.f240.name,by decide,Ar Tryz.func240<|by kernel_rfl⟩
 f26:=⟨Tryz.f241.name,by decide,Ar Tryz.func241<|by kernel_rfl⟩
 f27:=⟨Tryz.f242.name,by decide,Ar Tryz.func242<|by kernel_rfl⟩
 f28:=Tryz.func233.trans (congrArg some<|by kernel_rfl)
 f29:=Tryz.func234.trans (congrArg some<|by kernel_rfl)
 f46:=⟨Tryz.f255.name,by decide,Ar Tryz.func255<|by kernel_rfl⟩
 f47:=Tryz.func251.trans (congrArg some<|by kernel_rfl)
 f48:=Tryz.func252.trans (congrArg some<|by kernel_rfl)
 f49:=⟨Tryz.f256.name,by decide,Ar Tryz.func256<|by kernel_rfl⟩
 f50:=⟨Tryz.f257.name,by decide,Ar Tryz.func257<|by kernel_rfl⟩
 f57:=⟨Tryz.f264.name,by decide,Ar Tryz.func264<|by kernel_rfl⟩
 t0:=Tryz.underlying0
 a0:=Tryz.isAgg0
 z0:=Tryz.sizeOf0
 v0:=Tryz.zeroValue0
 t3:=Tryz.underlying3
 a3:=Tryz.isAgg3
 z3:=Tryz.sizeOf3
 v3:=Tryz.zeroValue3
 t4:=Tryz.underlying4
 a4:=Tryz.isAgg4
 z4:=Tryz.sizeOf4
 v4:=Tryz.zeroValue4
 t5:=Tryz.underlying5
 a5:=Tryz.isAgg5
 z5:=Tryz.sizeOf5
 v5:=Tryz.zeroValue5
 t9:=Tryz.underlying9
 a9:=Tryz.isAgg9
 z9:=Tryz.sizeOf9
 v9:=Tryz.zeroValue9
 t22:=Tryz.underlying55
 a22:=Tryz.isAgg55
 z22:=Tryz.sizeOf55
 v22:=Tryz.zeroValue55
 t25:=Tryz.underlying264
 a25:=Tryz.isAgg264
 z25:=Tryz.sizeOf264
 v25:=Tryz.zeroValue264
 t39:=Tryz.underlying301
 a39:=Tryz.isAgg301
 z39:=Tryz.sizeOf301
 v39:=Tryz.zeroValue301
 t45:=Tryz.underlying316
 a45:=Tryz.isAgg316
 z45:=Tryz.sizeOf316
 v45:=Tryz.zeroValue316
 t46:=Tryz.underlying317
 a46:=Tryz.isAgg317
 z46:=Tryz.sizeOf317
 v46:=Tryz.zeroValue317
 t50:=Tryz.underlying232
 a50:=Tryz.isAgg232
 z50:=Tryz.sizeOf232
 v50:=Tryz.zeroValue232
 t53:=Tryz.underlying323
 a53:=Tryz.isAgg323
 z53:=Tryz.sizeOf323
 v53:=Tryz.zeroValue323
 t55:=Tryz.underlying325
 a55:=Tryz.isAgg325
 z55:=Tryz.sizeOf325
 v55:=Tryz.zeroValue325
 t66:=Tryz.underlying332
 a66:=Tryz.isAgg332
 z66:=Tryz.sizeOf332
 v66:=Tryz.zeroValue332
 t70:=Tryz.underlying336
 a70:=Tryz.isAgg336
 z70:=Tryz.sizeOf336
 v70:=Tryz.zeroValue336
 t76:=Tryz.underlying350
 a76:=Tryz.isAgg350
 z76:=Tryz.sizeOf350
 v76:=Tryz.zeroValue350
 t77:=Tryz.underlying98
 a77:=Tryz.isAgg98
 z77:=Tryz.sizeOf98
 v77:=Tryz.zeroValue98 }
def Tryz.RA:Go.Shelf.Ren:=⟨λ|41=>170|n=>n,λ|22=>55|23=>96|4=>4|n=>n,λ|n=>n⟩
def Tryz.RB:Go.Proofs.SlLaysE0.n41 Tryz.prog Tryz.RA:={
 mixed:=by kernel_rfl
 f41:=⟨Tryz.f170.name,by decide,Ar Tryz.func170<|by kernel_rfl⟩
 t4:=Tryz.underlying4
 a4:=Tryz.isAgg4
 z4:=Tryz.sizeOf4
 v4:=Tryz.zeroValue4
 t22:=Tryz.underlying55
 a22:=Tryz.isAgg55
 z22:=Tryz.sizeOf55
 v22:=Tryz.zeroValue55 }
def Tryz.RD:Go.Shelf.Ren:=⟨λ|41=>201|n=>n,λ|22=>59|23=>29|4=>4|n=>n,λ|n=>n⟩
def Tryz.aad:Go.Proofs.SlLaysE0.n41 Tryz.prog Tryz.RD:={
 mixed:=by kernel_rfl
 f41:=⟨Tryz.f201.name,by decide,Ar Tryz.func201<|by kernel_rfl⟩
 t4:=Tryz.underlying4
 a4:=Tryz.isAgg4
 z4:=Tryz.sizeOf4
 v4:=Tryz.zeroValue4
 t22:=Tryz.underlying59
 a22:=Tryz.isAgg59
 z22:=Tryz.sizeOf59
 v22:=Tryz.zeroValue59 }
end Go.Proofs
namespace Go.Proofs.YtlgidcmmgohagaaGreat
open Go.RowKit Go.Sort Go.Shelf Go.Proofs.Tryz
open Go.Value renaming slice->fy,string->fA,pointer->fB,tuple->fC,agg->fD,bool->fE
open Go.Ending renaming returned->fF
open Option renaming some->fh,none->fj
open Bool renaming true->fm,false->fo
open Go renaming World->fq,Value->fu
open List renaming length->fv,reverse->fx
open Go.RowKit renaming Hid->fe
set_option maxRecDepth 100000
set_option maxHeartbeats 0
def abU(c0 c1 c2 c3:fu)(a):(Instr.field 213 (fD #[c0,c1,c2,c3]) 0).run prog a=.ok c0 a:=by kernel_rfl
def abV(c0 c1 c2 c3:fu)(a):(Instr.field 213 (fD #[c0,c1,c2,c3]) 1).run prog a=.ok c1 a:=by kernel_rfl
def Env(c0 c1 c2 c3:fu)(a):(Instr.field 213 (fD #[c0,c1,c2,c3]) 2).run prog a=.ok c2 a:=by kernel_rfl
def Era(c0 c1 c2 c3:fu)(a):(Instr.field 213 (fD #[c0,c1,c2,c3]) 3).run prog a=.ok c3 a:=by kernel_rfl
def RF(j b n h c:Nat)(k:Int)(d)(f:Option Addr)(el g)(i:Int)(a:fq)(l:j<a.heap.size)(m:b<a.heap.size)(o:a.cell? (ii j 0)=fh (my b 0 n h))
  (p:c<n)(q:n<=400)
  (r:a.cell? (ii b<|c*4)=fh (fY k))(s:a.cell? (ii b<|c*4+1)=fh (hh d))(t:a.cell? (ii b<|c*4+2)=fh (fy f el g))(u:a.cell? (ii b<|c*4+3)=fh (fY i)):
  ik 113 #[ie j,fY<|(c:Int)+1] a λe H=>e=fF (fD #[fY k,hh d,fy f el g,fY i])/\H=a.k #[fY k,hh d,fy f el g,fY i] 213:=by
 go_enter func113,ntmps113;go_wp2;exact bodyPost_ret (v:=fD #[fY k,hh d,fy f el g,fY i]) (by simp[results,results113,go_sem]) fX ⟨fX,fX⟩
def IP(b n h)(c:Option Addr)(id:Int)(a:fq)(d:a.c b 0=fh (fy c n h))(e:n<=400)(hid:id<1\/(n:Int)<id):
  ik 61 #[ie b,fY id] a (PP (fY 0) a):=by
 by_cases f:id<1
 case' neg=>have g:(n:Int)<id:=by omega
 all_goals
  go_enter func61,ntmps61;go_wp2;go_ret;exact⟨fX,fX⟩
def IQ(f b n h c:Nat)(k:Int)(d)(g:Option Addr)(el i)(j:Int)(a:fq)(l:f<a.heap.size)(m:b<a.heap.size)(o:a.c f 0=fh (my b 0 n h))
  (t:c<n)(u:n<=400)
  (p:a.c b (c*4)=fh (fY k))(q:a.c b (c*4+1)=fh (hh d))(r:a.c b (c*4+2)=fh (fy g el i))(s:a.c b (c*4+3)=fh (fY j)):
  ik 61 #[ie f,fY<|(c:Int)+1] a λe H=>e=fF (fY k)/\H=a.k #[fY k,hh d,fy g el i,fY j] 213:=by
 have v:=λw l m o p q r s=>RF f b n h c k d g el i j w l m o t u p q r s;have f0:=abU;go_enter func61,ntmps61;go_wp2_with(go_at_call 113;refine(v _ l m o p q r s).mono ?_;rintro e H ⟨rfl,rfl⟩);go_ret;exact⟨fX,fX⟩
def dec(b n h)(c:Option Addr)(id:Int)(a:fq)(d:a.c b 0=fh (fy c n h))(e:n<=400)(hid:id<1\/(n:Int)<id):
  ik 84 #[ie b,fY id] a (PP (fC #[hh ByteArray.empty,fY 13]) a):=by
 go_enter func84,ntmps84;go_wp2_with(go_at_call 61;refine(IP b n h c id a d e hid).still ?_);go_ret2;exact⟨fX,fX⟩
def WT(i b n h c:Nat)(k:Int)(d:ByteArray)(j:Option Addr)(el l)(m:Int)(a:fq)(o:i<a.heap.size)(f:b<a.heap.size)(p:a.cell? (ii i 0)=fh (.slice (fh<|ii b 0) n h))
  (w:c<n)(x:n<=400)
  (q:a.cell? (ii b<|c*4)=fh (fY k))(r:a.cell? (ii b<|c*4+1)=fh (.string d))(s:a.cell? (ii b<|c*4+2)=fh (.slice j el l))(t:a.cell? (ii b<|c*4+3)=fh (fY m)):
  ik 84 #[ie i,fY<|(c:Int)+1] a (ut (if k=1 then .tuple #[.string d,fY 0] else .tuple #[.string ByteArray.empty,fY 13]) a):=by
 have y:=IQ i b n h c k d j el l m a o f p w x q r s t;have A:=λB o f p q r s t=>RF i b n h c k d j el l m B o f p w x q r s t;by_cases z:k=1
 ·subst z
  rw[if_pos fX];have g:∀u v,u<a.heap.size->(a.alloc (.cells #[fY 1,.string d,.slice j el l,fY m] 213)).cell? (ii u v)=a.cell? (ii u v):=λu v g=>World.cell?_alloc_past _ _ _ g
  have f1:=abV;go_enter func84,ntmps84;go_wp2_with (first
   | (go_at_call 61;refine y.mono ?_;rintro e H ⟨rfl,rfl⟩)
   | (go_at_call 113;refine (A _ (by simp;omega) (by simp;omega) (by rw[g _ _ o];exact p) (by rw[g _ _ f];exact q) (by rw[g _ _ f];exact r) (by rw[g _ _ f];exact s) (by rw[g _ _ f];exact t)).mono ?_;rintro e H ⟨rfl,rfl⟩))
  go_ret2;exact⟨fX,((Below.refl _ _).alloc (Nat.le_refl _) _).alloc (by simp) _⟩
 rw[if_neg z];go_enter func84,ntmps84;go_wp2_with (go_at_call 61;refine y.mono ?_;rintro e H ⟨rfl,rfl⟩);go_ret2;exact⟨fX,((Below.refl _ _).alloc (Nat.le_refl _) _)⟩
def Ni(a:fq):
  ik 59 #[] a λe H=>e=fF (fB<|fh (ii (a.heap.size+2) 0))/\H=((a.alloc<|.map #[] 0).alloc<|.map #[] 0).k #[fy fj 0 0,.map<|fh a.heap.size,.map<|fh (a.heap.size+1),fy fj 0 0,fE fo] 185:=by
 have b:=@run_makeMap prog;go_enter func59,ntmps59;go_wp2;go_ret;exact⟨fX,fX⟩
def KW(a:fq):
  ik 25 #[] a λe H=>e=fF (fB<|fh (ii (a.heap.size+3) 0))/\H=(((a.alloc<|.map #[] 0).alloc<|.map #[] 0).k #[fy fj 0 0,.map<|fh a.heap.size,.map<|fh (a.heap.size+1),fy fj 0 0,fE fo] 185).k #[fB<|fh (ii (a.heap.size+2) 0)] 119:=by
 go_enter func25,ntmps25;go_wp2_with(go_at_call 59;refine(Ni _).mono ?_;rintro e H ⟨rfl,rfl⟩);go_ret;exact⟨fX,fX⟩
def pu{P:Program}{o:Array Oper}{a:Oper}{f:Act}{b:fq}{p:Act->fq->Prop}{s:Exit->Act->fq->Prop}{u:Prop}
  (v:a.guard=fj)(q x:Operand)(t:TypeId)(w:a.op=Op.call { callee:=Callee.builtin Builtin.append,args:=#[q,x],argTypes:=#[t,t] })
  (j)(e:TypeId)(i:TypeInfo)(z:fu)(d bytes:Nat)(y:P.underlying t=fh (.slice e))(A:P.info? e=fh i)(B:i.zero=fh z)(C:i.size=d)(D:i.bytes=bytes)(E:z.cells.size=d)(F:0<d)
  (h:fu)(n)(olds)(G:f.eval q=h)(I:b.ownsRow j e d h n olds)
  (l:Addr)(m c:Nat)(Y:List fu)(J:f.eval x=fy (fh l) m c)(K:fv Y=m*d)(L:∀r k,Y[r]?=fh k->b.cell? (l.add r)=fh k)(M:∀k∈Y,k.oneCell'=fm)
  (N:n+m<=maxLen)(O:(n+m)*bytes<=140737488355328)(Q:j<=b.heap.size)
  (R:∀g H,H.ownsRow j e d g (n+m) (olds++Y)->b.grownBy H h.ownBlock->(g.ownBlock=h.ownBlock\/g.ownBlock=fh b.heap.size)->p (f.put a.dst g) H):
  if Region.wanted a (yielded o f.tmps)=fm then Oper.wp P a f b p s else u:=by
 have S:Region.wanted a (yielded o f.tmps)=fm:=by simp[Region.wanted,v]
 rw[if_pos S];have⟨g,H,T,U,V,_,W⟩:=run_append_own_at (P:=P) b j t a.type e i z d bytes y A B C D E F h n olds I l m c Y K L M N O Q;unfold Oper.wp;simp[execOp,w,resolve,invoke,builtin,G,J,T,Result.andThen];exact R g H U V W
def den:(prog.info? 213).map (λi=>(i.zero,i.size,i.bytes))=fh (fh<|fD #[fY 0,hh ByteArray.empty,fy fj 0 0,fY 0],4,56):=by kernel_rfl
def RG(d:fq)(c0 c1 c2 c3:fu)(t:TypeId):∀b c,[c0,c1,c2,c3][b]?=fh c->(d.k #[c0,c1,c2,c3] t).drew.cell? (((ii d.heap.size 0):Addr).add b)=fh c:=by
 intro b c a
 match b,a with
 |0,a=>simpa [Addr.add]using a
 |1,a=>simpa [Addr.add]using a
 |2,a=>simpa [Addr.add]using a
 |3,a=>simpa [Addr.add]using a
 |b+4,a=>simp at a
theorem hZ{b:fq}{c}{e}{d}{v}{n}{f}(g:b.ownsRow c e d v n f)(i:0<n):∃a h,v=fy (fh<|ii a 0) n h:=by
 rcases g.2 with⟨_,j⟩|⟨a,h,_,k,_⟩
 all_goals grind
def vp{c O:fq}{d e}{f:Option Nat}(h:((c.alloc d).alloc e).drew.grownBy O f){b:Nat}(j:b<c.heap.size)(k:fh b≠f){g:fu}{i}(l:c.cell? (ii b i)=fh g):O.cell? (ii b i)=fh g:=by
 rw[World.cell?_of_block (a:=(ii b i))<|h.block b (by simp;omega) k];show((c.alloc d).alloc e).cell? (ii b i)=_;rw[World.cell?_alloc_past _ _ _ (by simp;omega),World.cell?_alloc_past _ _ _ j,l]
def Aw{c O:fq}{d e}{f:Option Nat}(g:((c.alloc d).alloc e).drew.grownBy O f){b:Nat}(h:b<c.heap.size)(j:fh b≠f){i}(k:c.frozen? (ii b i)=fo):O.frozen? (ii b i)=fo:=by
 rw[World.frozen?_of_block (a:=(ii b i))<|g.block b (by simp;omega) j];show((c.alloc d).alloc e).frozen? (ii b i)=_;rw[World.frozen?_alloc_past _ _ _ (by simp;omega),World.frozen?_alloc_past _ _ _ h,k]
def IU (b H:fq)(d:Nat)(c:Option Addr)(n h:Nat)(e Y:List fu):Prop:=
 ∃a R O,O.ownsRow 0 213 4 (fy (fh ⟨a,0,fj⟩) (n+1) R) (n+1) (e++Y)/\(∃f g,((b.alloc f).alloc g).drew.grownBy O (Value.slice c n h).ownBlock/\((fh a:Option Nat)=(Value.slice c n h).ownBlock\/a=b.heap.size+2))/\
  H=O.setCell ⟨d,0,fj⟩ (fy (fh ⟨a,0,fj⟩) (n+1) R)
def EM(b:Nat)(k c:Int)(d)(i:Option Addr)(n h:Nat)(j)(f:Option Addr)(el g)(a:fq)(m:b<a.heap.size)(F:n<400)
  (w:a.c b 0=fh (fy i n h))(f0:a.frozen? (ii b 0)=fo)(o:a.ownsRow 0 213 4 (fy i n h) n j)(p:fh b≠(Value.slice i n h).ownBlock):
  ik 112 #[ie b,fD #[fY k,hh d,fy f el g,fY c]] a λe H=>e=pD #[fY<|(n:Int)+1,fY 0]/\IU a H b i n h j [fY k,hh d,fy f el g,fY c]:=by
 have⟨x,U,y,z,A⟩:=info_parts den;have q:∀r∈[Value.int .i64 k,hh d,fy f el g,fY c],r.oneCell'=fm:=by intro r s;simp at s;rcases s with rfl|rfl|rfl|rfl<;>rfl
 have B:=o;have t:=p;have C:=q;clear o p q;go_enter func112,ntmps112;go_wp2
 go_region_law(refine pu fX (.tmp 16) (.tmp 18) 181 fX 0 213 x _ 4 56 underlying181 U y z A fX (by decide) (fy i n h) n j (by simp[Act.eval]) ((B.alloc _).alloc _) (ii (a.heap.size+1) 0) 1 1 [fY k,hh d,fy f el g,fY c] (by simp[Act.eval]) fX (by have u:=RG (a.k #[fY k,hh d,fy f el g,fY c] 213) (fY k) (hh d) (fy f el g) (fY c) 213;rw[World.size_alloc]at u;exact u) C (by unfold maxLen;omega) (by omega) (Nat.zero_le _) ?_;intro G O v l D;obtain⟨E,R,rfl⟩:=hZ v (by omega);have I:=vp l m t w;have J:=Aw l m t f0)
 all_goals(go_wp2;go_ret2;exact⟨fX,E,R,O,v,⟨_,_,l,by simpa [Value.ownBlock]using D⟩,fX⟩)
theorem IU.facts{a H}{b}{c}{n h}{f Y}(i:IU a H b c n h f Y){c1 c2 c3 c4:fu}(g:a.heap[b]?=fh (.cells #[fy c n h,c1,c2,c3,c4] 185 (0,0)))(j:fh b≠(Value.slice c n h).ownBlock):
  ∃d R,H.heap[b]?=fh (.cells #[my d 0 (n+1) R,c1,c2,c3,c4] 185 (0,0))/\H.ownsRow 0 213 4 (my d 0 (n+1) R) (n+1) (f++Y)/\((fh d:Option Nat)=(Value.slice c n h).ownBlock\/a.heap.size<=d)/\
   H.os=a.os/\H.tape=a.tape/\H.output=a.output/\a.heap.size<=H.heap.size/\∀k,k<a.heap.size->k≠b->fh k≠(Value.slice c n h).ownBlock->H.heap[k]?=a.heap[k]?:=by
 obtain⟨d,R,O,l,⟨m,o,e,u⟩,rfl⟩:=i;have p:=(Array.getElem?_eq_some_iff.1 g).1;have q:∀k,k<a.heap.size->fh k≠(Value.slice c n h).ownBlock->O.heap[k]?=a.heap[k]?:=by
  intro k v r;rw[e.block k (by simp;omega) r];show((a.alloc m).alloc o).heap[k]?=_
  grind [Below.heap_alloc]
 have w:O.heap[b]?=fh (.cells #[fy c n h,c1,c2,c3,c4] 185 (0,0)):=by rw[q b p j,g]
 have x:d≠b:=by
  grind
 have s:=e.size;simp at s;refine⟨d,R,?_,?_,?_,e.os,e.tape,e.output,?_,?_⟩
 grind [World.setCell]
 have⟨t,y⟩:=l;refine⟨t,?_⟩
 grind [Below.heap_setCell]
 grind
 simp;omega
 grind [Below.heap_setCell]
def EN(b:Nat)(k c:Int)(d)(i:Option Addr)(n h:Nat)(f:Option Addr)(el g)(a:fq)(j:b<a.heap.size)(l:400<=n)
  (m:a.c b 0=fh (fy i n h)):
  ik 112 #[ie b,fD #[fY k,hh d,fy f el g,fY c]] a λe H=>e=pD #[fY 0,fY 11]/\H=a.k #[fY k,hh d,fy f el g,fY c] 213:=by
 go_enter func112,ntmps112;go_wp2;go_ret2;exact⟨fX,fX⟩
def xZ(a:ByteArray)(b:fq)(c:a.size<=281474976710656):
  ik 130 #[hh a] b (ut (hh a) b):=by
 go_enter func130,ntmps130;go_wp2_with(go_at_call 186;refine(stringslite_Clone a b c).via λH d=>?_);go_ret;exact⟨fX,d⟩
def dep:(prog.info? 133).map (λi=>(i.zero,i.size,i.bytes))=fh (fh<|fD #[hh ByteArray.empty,fY 0],2,24):=by kernel_rfl
structure kI where
 a:Option Addr
 n:Nat
 c:Nat
 b:Bool
def pt0:kI:=⟨fj,0,0,fo⟩
variable {ft:kI}
def HL:Maps.Keyed prog 9:=Maps.string_keyed underlying9
def rH(a):(zeroValue 29).run prog a=.ok (fY 0) a:=by kernel_rfl
def gA (ft:kI)(a:fq)(b:Nat)(c:Option Addr)(n h d e:Nat):Prop:=a.heap[b]?=fh (.cells #[fy c n h,.map<|fh d,.map<|fh e,fy ft.a ft.n ft.c,fE ft.b] 185 (0,0))
def gA.c0{w}{p}{a}{n h c d}(b:gA ft w p a n h c d):w.cell? (ii p 0)=fh (fy a n h):=by unfold gA at b;simp[World.cell?,b]
def gA.c1{b}{p}{a}{n h c e}(d:gA ft b p a n h c e):b.cell? (ii p 1)=fh (.map<|fh c):=by unfold gA at d;simp[World.cell?,d]
def gA.c2{b}{p}{a}{n h e c}(d:gA ft b p a n h e c):b.cell? (ii p 2)=fh (.map<|fh c):=by unfold gA at d;simp[World.cell?,d]
def gA.f0{b}{p}{a}{n h d e}(c:gA ft b p a n h d e):b.frozen? (ii p 0)=fo:=by unfold gA at c;simp[World.frozen?,c]
def gA.lt{w}{p}{a}{n h b c}(d:gA ft w p a n h b c):p<w.heap.size:=(Array.getElem?_eq_some_iff.1 d).1
def gA.below{w H}{p}{a}{n h c d}(b:gA ft w p a n h c d)(e:ju w H):gA ft H p a n h c d:=by
 unfold gA at b |-;rw[e.block p (Array.getElem?_eq_some_iff.1 b).1,b]
def Nj(b)(d:ByteArray)(a:fq)(c:256<d.size)(e:d.size<=maxLen):
  ik 77 #[ie b,hh d] a (PP (fC #[fY 0,fY 11]) a):=by
 go_enter func77,ntmps77;go_wp2;go_ret2;exact⟨fX,fX⟩
def Nk(f)(j)(n h e k)(a:DataW Unit)(d:ByteArray)(c:Int)(b)(l:gA ft b f j n h e k)(u:d.size<=256)
  (m:b.ownsMap prog 9 (plainElem prog 29) e n a)(g:Maps.has a (.string d.data.toList)=fm)(i:a.atKey (.string d.data.toList) (.lit<|.int .i64 0)=.lit (.int .i64 c)):
  ik 77 #[ie f,hh d] b (PP (fC #[fY c,fY 0]) b):=by
 have v:=l.c1;have o:=WideMaps.keyOf_string_mk (P:=prog) underlying9 (s:=d) (by unfold maxLen;omega);have p:fe (a.atKey (.string d.data.toList) (.lit<|.int .i64 0)=.lit (.int .i64 c)):=i;have q:fe (Maps.has a (.string d.data.toList)=fm):=g;clear i g;go_enter func77,ntmps77;go_wp2_with(first
  |(at_lookup;refine wpList_lookup_own_ok_int _ fX _ _ 182 fX 9 29 .i64 HL underlying182 underlying29 (rH _) e n a fX m _ _ fX o ?_;intro r t w;rw[q.o];obtain rfl:r=c:=by(have:=t.symm.trans p;simpa using this))
  |go_in)
 go_ret2;exact⟨fX,fX⟩
def KX(b)(f)(n h c j)(g:DataW Unit)(d:ByteArray)(a)(k:gA ft a b f n h c j)(v:d.size<=256)(p:400<=n)
  (q:a.ownsMap prog 9 (plainElem prog 29) c n g)(l:Maps.has g (.string d.data.toList)=fo):
  ik 77 #[ie b,hh d] a (ut (fC #[fY 0,fY 11]) a):=by
 have w:=k.c1;have r:=WideMaps.keyOf_string_mk (P:=prog) underlying9 (s:=d) (by unfold maxLen;omega);have t:=λ(m:fq)(o:gA ft m b f n h c j)=>EN b 1 0 d f n h fj 0 0 m o.lt p o.c0
 change fe _ at l
 go_enter func77,ntmps77;go_wp2_with(first
  |(at_lookup;refine wpList_lookup_own_ok_int _ fX _ _ 182 fX 9 29 .i64 HL underlying182 underlying29 (rH _) c n g fX q _ _ fX r ?_;intro x y z;rw[l.o])
  |(go_at_call 130;refine(xZ d a<|by omega).mono ?_;rintro e O ⟨rfl,i⟩;have u:=k.below i)
  |(go_at_call 112;refine(t _ u).mono ?_;rintro e A ⟨rfl,rfl⟩)
  |go_in)
 go_ret2;exact⟨fX,i.alloc i.size _⟩
def pB{a:Type}{P}{k}{c:fu->Option (DataW a×List MemPlace)}{d H:fq}{b n}{f:DataW a}(g:d.ownsMap P k c b n f)(e:H.heap[b]?=d.heap[b]?):H.ownsMap P k c b n f:=by
 have⟨h,i,j,l⟩:=g;exact⟨h,i,e.trans j,l⟩
theorem pp{a:Type}{P}{k}{f:fu->Option (DataW a×List MemPlace)}{c:fq}{b n}{g:DataW a}(h:c.ownsMap P k f b n g):∃d e,c.heap[b]?=fh (.map d e):=by
 have⟨d,e,i,j⟩:=h
 grind
theorem rv{a:fq}{d}{e}{f n}{c}{g}(i:a.ownsRow d e f c n g){b:Nat}{j:Array MapEntry}{k}(l:a.heap[b]?=fh (.map j k)):fh b≠c.ownBlock:=by
 rcases i.2 with⟨rfl,_⟩|⟨m,h,o,rfl,_,p,_⟩
 all_goals grind [Value.ownBlock,Option.some.injEq]
theorem io{a:fq}{f}{e}{g n}{d}{xs}(i:a.ownsRow f e g d n xs){b:Nat}{c:Array fu}{t}{fz}(j:a.heap[b]?=fh (.cells c t fz))(k:t≠e):fh b≠d.ownBlock:=by
 rcases i.2 with⟨rfl,_⟩|⟨l,h,m,rfl,_,o,_⟩
 all_goals grind [Value.ownBlock,Option.some.injEq]
structure RH (w w':World)(p b:Nat)(own:Option Nat):Prop where
 os:w'.os=w.os
 tape:w'.tape=w.tape
 output:w'.output=w.output
 size:w.heap.size<=w'.heap.size
 block:∀k,k<w.heap.size->k≠p->k≠b->some k≠own->w'.heap[k]?=w.heap[k]?
theorem gg{w H:fq}{b}{e}{c n}{v}{xs}(d:w.ownsRow b e c v n xs)(f:∀a,v.ownBlock=fh a->H.heap[a]?=w.heap[a]?):H.ownsRow b e c v n xs:=by
 refine⟨d.1,?_⟩;rcases d.2 with g|⟨a,h,i,rfl,j,k,l⟩
 exact Or.inl g;exact Or.inr ⟨a,h,i,fX,j,(f a fX).trans k,l⟩
theorem gc{w:fq}{a}{e}{b n}{v}{c}(d:w.ownsRow a e b v n c){g:Nat}(f:v.ownBlock=fh g):g<w.heap.size:=by
 rcases d.2 with⟨rfl,_⟩|⟨i,h,j,rfl,_,k,_⟩
 all_goals grind [Value.ownBlock,Array.getElem?_eq_some_iff]
def dev{c H}{a}{b}{n h}{e Y}(f:IU c H a b n h e Y){d g}(i:gA ft c a b n h d g)(j:fh a≠(Value.slice b n h).ownBlock):H.c a 1=fh (.map<|fh d):=by
 have⟨l,R,k,_⟩:=f.facts i j;exact gA.c1 k
def WU{d H}{b}{c}{n h}{l Y}(o:IU d H b c n h l Y){p q}(r:gA ft d b c n h p q)(s:fh b≠(Value.slice c n h).ownBlock)
  {e:Type}{f}{k}{g:fu->Option (DataW e×List MemPlace)}{a m}{i:DataW e}(j:d.ownsMap f k g a m i)(t:a≠b)(u:fh a≠(Value.slice c n h).ownBlock):H.ownsMap f k g a m i:=by
 have⟨w,R,x,y,z,A,B,C,D,v⟩:=o.facts r s;exact pB j<|v a j.lt t u
def Nl(f)(g)(n h a v)(o)(q:DataW Unit)(d:ByteArray)(i)(l:gA ft i f g n h a v)(am:d.size<=256)(Q:n<400)
  (p:i.ownsRow 0 213 4 (fy g n h) n o)(w:i.ownsMap prog 9 (plainElem prog 29) a n q)(E:Maps.has q (.string d.data.toList)=fo):
  ik 77 #[ie f,hh d] i λe H=>e=pD #[fY<|(n:Int)+1,fY 0]/\
   ∃c R,gA ft H f (fh<|ii c 0) (n+1) R a v/\H.ownsRow 0 213 4 (my c 0 (n+1) R) (n+1) (o++[fY 1,hh d,fy fj 0 0,fY 0])/\((fh c:Option Nat)=(Value.slice g n h).ownBlock\/i.heap.size<=c)/\
    H.ownsMap prog 9 (plainElem prog 29) a (n+1) (q.put (.string d.data.toList)<|.lit (.int .i64<|(n:Int)+1))/\RH i H f a (Value.slice g n h).ownBlock:=by
 have an:=l.c1;have F:=WideMaps.keyOf_string_mk (P:=prog) underlying9 (s:=d) (by unfold maxLen;omega);obtain⟨ao,ap,r⟩:=pp w;have G:=rv p r;have x:=io p (b:=f) l (by decide);have t:a≠f:=by rintro rfl;unfold gA at l;rw[r]at l;cases l
 have S:a<i.heap.size:=(Array.getElem?_eq_some_iff.1 r).1;have I:∀c,(Value.slice g n h).ownBlock=fh c->c<i.heap.size:=λc y=>gc p y;have J:=λ(z:fq)(A:gA ft z f g n h a v)(T:z.ownsRow 0 213 4 (fy g n h) n o)=>EM f 1 0 d g n h o fj 0 0 z A.lt Q A.c0 A.f0 T x;have B:fe (fh f≠(Value.slice g n h).ownBlock):=x;have K:fe (a≠f):=t;have U:fe (i.ownsRow 0 213 4 (fy g n h) n o):=p
 change fe _ at E G I J
 clear x r t p;go_enter func77,ntmps77;go_wp2_with(first
  |(at_lookup;refine wpList_lookup_own_ok_int _ fX _ _ 182 fX 9 29 .i64 HL underlying182 underlying29 (rH _) a n q fX w _ _ fX F ?_;intro aq ar au;rw[E.o])
  |(go_at_call 130;refine(xZ d i<|by omega).mono ?_;rintro e O ⟨rfl,j⟩;have u:=l.below j;have V:=gg U λc y=>j.block c<|I c y)
  |(go_at_call 112;refine(J _ u V).mono ?_;rintro e av ⟨rfl,C⟩;have aw:=dev C u B;have L:=WU C u B (pB w<|j.block a S) K G)
  |(at_mapUpdate;refine wpList_mapUpdate_own _ fX _ _ _ 182 fX 9 29 HL underlying182 _ a n _ fX L (by unfold maxLen;omega) _ _ _ fX fX F _ [] (plainElem_int underlying29<|WalkArith.wf_i64 (by omega)) ?_;intro ax W m)
  |go_in)
 go_ret2;have⟨c,R,X,D,Y,Z,aa,ab,ac,ad⟩:=C.facts u B;have t:=K.o;have ae:=j.size;have af:(fh f:Option Nat)≠fh a:=λe=>t (Option.some.inj e).symm
 refine⟨fX,c,R,?_,?_,?_,W,⟨?_,?_,?_,?_,?_⟩⟩;unfold gA;rw[m.block f (Nat.lt_of_lt_of_le (gA.lt l)<|Nat.le_trans ae ac) af];exact X;refine gg D λag M=>m.block ag (gc D M) ?_;have⟨ay,az,ah⟩:=pp L
 have:=rv D ah
 rw[M]at this;exact λe=>this e.symm
 rcases Y with N|N
 exact Or.inl N;exact Or.inr (by omega);rw[m.os,Z,j.os];rw[m.tape,aa,j.tape];rw[m.output,ab,j.output]
 have:=m.size
 omega;intro k ai aj ak al;rw[m.block k (by omega) λe=>ak<|Option.some.inj e,ad k (by omega) aj al,j.block k ai]
theorem Nn(a:ByteArray)(c:fq)(d:a.size<=maxLen)(b:a.size<1\/12<a.size):
  ik 129 #[hh a] c (PP (fE fo) c):=by
 rcases b with b|b
 ·go_enter func129,ntmps129
  go_wp2;go_ret;exact⟨fX,fX⟩
 go_enter func129,ntmps129;go_wp2;go_ret;exact⟨fX,fX⟩
theorem EO(a:ByteArray)(c:fq)(d:1<=a.size)(e:a.size<=12)(b:(a.toList==[46])=fm\/(a.toList==[46])=fo/\(a.toList==[46,46])=fm):
  ik 129 #[hh a] c (PP (fE fo) c):=by
 rcases b with b|⟨f,b⟩
 ·go_enter func129,ntmps129
  go_wp2;go_ret;exact⟨fX,fX⟩
 go_enter func129,ntmps129;go_wp2;go_ret;exact⟨fX,fX⟩
def RI(a:ByteArray)(e:fq)(m:1<=a.size)(n:a.size<=12)(o:(a.toList==[46])=fo)(p:(a.toList==[46,46])=fo)(c d:Int)(f:Lib.indexByte a.data.toList 0=c)(g:Lib.indexByte a.data.toList 47=d):
  ik 129 #[hh a] e (PP (fE<|decide (c<0)&&decide (d<0)) e):=by
 have h:∀b,ik 185 #[hh a,.int .u8 0] b (PP (fY c) b):=by
  intro b;have q:=strings_IndexByte a 0 b;rwa [<-f]
 have k:∀b,ik 185 #[hh a,.int .u8 47] b (PP (fY d) b):=by
  intro b;rw[<-g];exact(strings_IndexByte a 47 b)
 clear f g;by_cases i:c<0
 ·by_cases j:d<0
  case' neg=>have r:decide (d<0)=fo:=by simpa using j
  all_goals
   go_enter func129,ntmps129;go_wp2_with fail;refine(h _).still ?_;go_wp2_with fail;refine(k _).still ?_;go_wp2;go_ret;exact⟨by simp[i,j],fX⟩
 have l:decide (c<0)=fo:=by simpa using i
 go_enter func129,ntmps129;go_wp2_with fail;apply (h _).still;go_wp2;go_ret;exact⟨by simp[l],fX⟩
def fN (s:ByteArray):Bool:=
 decide (1<=s.size)&&decide (s.size<=12)&&!(s.toList==[46])&&!(s.toList==[46,46])&&decide (Lib.indexByte s.data.toList 0<0)&&decide (Lib.indexByte s.data.toList 47<0)
theorem Ch(a:ByteArray)(b:fq)(g:a.size<=maxLen):ik 129 #[hh a] b (PP (fE<|fN a) b):=by
 by_cases h:a.size<1\/12<a.size
 grind [fN,Nn]
 have c:1<=a.size:=by omega
 have d:a.size<=12:=by omega
 cases e:a.toList==[46] with
 |true=>
  grind [fN,EO]
 |false=>
  cases f:a.toList==[46,46] with
  |true=>
   grind [fN,EO]
  |false=>
   rw[show fN a=(decide (Lib.indexByte a.data.toList 0<0)&&decide (Lib.indexByte a.data.toList 47<0)) by unfold fN;simp[c,d,e,f]];exact RI a b c d e f _ _ fX fX
theorem Ci(a b:UInt8):a<b\/a=b\/b<a:=by
 grind
def Cj(a:UInt8):¬a<a:=λb=>Nat.lt_irrefl _<|UInt8.lt_iff_toNat_lt.1 b
theorem Np{a b c:UInt8}(d:a<b)(k:b<c):a<c:=UInt8.lt_iff_toNat_lt.2<|Nat.lt_trans (UInt8.lt_iff_toNat_lt.1 d) (UInt8.lt_iff_toNat_lt.1 k)
theorem rI{a b:UInt8}(c:a<b):¬b<a:=λk=>Cj _<|Np c k
theorem rJ:∀a:List UInt8,Lib.compareBytes a a=0
 |[]=>rfl
 |x::b=>by simp[Lib.compareBytes,rJ b]
theorem nA:∀b c:List UInt8,Lib.compareBytes b c=0->b=c
 |[],[],_=>rfl
 |[],_::_,a=>by simp[Lib.compareBytes]at a
 |_::_,[],a=>by simp[Lib.compareBytes]at a
 |x::d,y::e,a=>by
  rcases Ci x y with k|k|k
  grind [Lib.compareBytes]
  subst k
  simp[Lib.compareBytes]at a
  rw[nA d e a]
  grind [Lib.compareBytes,rI]
theorem rK:∀a b:List UInt8,Lib.compareBytes b a=- Lib.compareBytes a b
 |[],[]=>rfl
 |[],_::_=>rfl
 |_::_,[]=>rfl
 |x::c,y::d=>by
  rcases Ci x y with k|k|k
  grind [Lib.compareBytes,rI]
  subst k
  simp[Lib.compareBytes]
  exact rK c d
  grind [Lib.compareBytes,rI]
theorem lX:∀a b c:List UInt8,Lib.compareBytes a b<0->Lib.compareBytes b c<0->Lib.compareBytes a c<0
 |[],[],_,d,_=>by simp[Lib.compareBytes]at d
 |[],_::_,[],_,k=>by simp[Lib.compareBytes]at k
 |[],_::_,_::_,_,_=>by simp[Lib.compareBytes]
 |_::_,[],_,d,_=>by simp[Lib.compareBytes]at d
 |_::_,_::_,[],_,k=>by simp[Lib.compareBytes]at k
 |x::e,y::f,z::t,d,k=>by
  rcases Ci x y with a|a|a
  grind [Ci,Lib.compareBytes,Np,rI]
  subst a
  rcases Ci x z with b|b|b
  grind [Lib.compareBytes]
  subst b
  simp only[Lib.compareBytes,Cj,if_false]at d k |-
  exact lX e f t d k
  grind [Lib.compareBytes,rI]
  grind [Lib.compareBytes,rI]
theorem EP(b a c:List UInt8)(d:¬Lib.compareBytes b a<0)(k:¬Lib.compareBytes a c<0):¬Lib.compareBytes b c<0:=by
 intro m;by_cases e:Lib.compareBytes b a=0
 grind [nA]
 by_cases f:Lib.compareBytes a c=0
 grind [nA]
 have g:Lib.compareBytes a b<0:=by rw[rK];omega
 have h:Lib.compareBytes c a<0:=by rw[rK];omega
 grind [lX,rK]
abbrev fV:=ByteArray×Int×Int
def pA (e:fV):List fu:=[fA e.1,.int .i64 e.2.1,.int .i64 e.2.2]
def flat (es:List fV):List fu:=es.flatMap pA
def IV (x y:fV):Int:=Lib.compareBytes x.1.data.toList y.1.data.toList
def abX:SWO (ltOf IV) where
 irrefl x:=by simp[ltOf,IV,rJ]
 trans x y z h1 h2:=decide_eq_true (lX _ _ _ (of_decide_eq_true h1)<|of_decide_eq_true h2)
 ntrans x y z h1 h2:=decide_eq_false<|EP _ _ _ (of_decide_eq_false h1) (of_decide_eq_false h2)
theorem ji(e):fv (pA e)=3:=fX
theorem rx(e):∀a∈pA e,a.oneCell'=fm:=by
 intro a b;simp[pA]at b;rcases b with rfl|rfl|rfl<;>rfl
theorem ly(a):fv (flat a)=fv a*3:=by
 induction a with
 |nil=>rfl
 |cons e c b=>simp only[flat,List.flatMap_cons,List.length_append,ji,List.length_cons]at *;rw[b];omega
theorem mH(b):∀a∈flat b,a.oneCell'=fm:=by
 intro a c;obtain⟨e,_,d⟩:=List.mem_flatMap.1 c;exact rx e a d
theorem iK:∀(b:List fV)(i a:Nat)(U:i<fv b),a<3->(flat b)[i*3+a]?=(pA b[i])[a]?
 |[],i,a,U,_=>by simp at U
 |e::c,0,a,_,d=>by
  grind [flat,List.getElem?_append_left,ji]
 |e::c,i+1,a,U,d=>by
  have f:=iK c i a (by grind) d
  grind [flat,List.getElem?_append_right,ji]
theorem ER(d:Array fV):(flatK pA 3 d).toList=flat d.toList:=by
 apply List.ext_getElem?;intro t;by_cases b:t<d.size*3;have a:t % 3<3:=Nat.mod_lt _ (by omega);have U:t / 3<fv d.toList:=by simp;omega
 have c:=iK d.toList (t / 3) (t % 3) U a
 grind [flatK,Array.toList_map,Array.toList_range,List.getElem?_range,getElem!,List.getElem?_eq_getElem,ji]
 grind [List.getElem?_eq_none,flatK,ly]
theorem HP{b:fq}{c:Nat}{a:Array fu}{e}{es:List fV}(f:b.heap[c]?=fh (.cells a e (0,0)))(g:a.toList.take (fv es*3)=flat es):HoldsK pA 3 b c 0 es.toArray:=by
 intro d h;refine⟨?_,by simp[World.frozen?,f]⟩;have i:(a.toList.take<|fv es*3)[d]?=(flat es)[d]?:=by rw[g]
 grind [List.getElem?_take_of_lt,World.cell?,Option.isSome_none,Bool.false_eq_true,ER,getElem!,Array.getElem?_eq_getElem]
theorem KY{b:fq}{a n:Nat}{g:Array Obj}{c:Array fu}{e}{f}(d:Array fV)(h:b.heap[a]?=fh (.cells c e f)):
  (sortWorldK pA 3 b a 0 n d g).heap[a]?=fh (.cells (putCells id 0 (flatK pA 3 d) c) e f):=by
 grind [Array.getElem?_eq_some_iff,sortWorldK,heap_grow_old,putRowK,putRow,mapBlock,Sort.ahead,onCells]
theorem Eh{a:fq}{b n}{c:Array Obj}(d:Array fV):a.grownBy (sortWorldK pA 3 a b 0 n d c) (fh b):=by
 refine⟨fX,fX,fX,by simp[sortWorldK,putRowK],λk e f=>?_⟩
 grind [sortWorldK,heap_grow_old,putRowK,putRow,mapBlock,Sort.ahead]
theorem ES(a:Array fu)(d:Array fV)(b:d.size*3<=a.size):(putCells id 0 (flatK pA 3 d) a).toList.take (d.size*3)=flat d.toList:=by
 rw[<-ER];apply List.ext_getElem?
 grind [List.getElem?_take_of_lt,flatK,pA,Array.getElem?_eq_getElem,getElem!,putCells,List.getElem?_take_eq_none,List.getElem?_eq_none]
def Ei{c:fq}{f a h n:Nat}{e}{g:Array Obj}{b:Array fu}{k:Nat}{d:Array fV}(i:d.size=k)(j:f<=a)(l:c.heap[a]?=fh (.cells b e (0,0)))
  (m:k<=h)(o:h<=maxLen)(p:b.size=h*3):
  (sortWorldK pA 3 c a 0 n d g).ownsRow f e 3 (my a 0 k h) k (flat d.toList):=by
 subst i;refine⟨by rw[ly];simp,.inr ⟨a,h,_,fX,j,KY _ l,m,o,by simp[putCells,p],ES b d<|by omega⟩⟩
def isAgg34(a):(isAgg 96).run prog a=.ok fm a:=by kernel_rfl
def sizeOf34(a):(Go.sizeOf 96).run prog a=.ok 3 a:=by kernel_rfl
def RJ(x y:fV)(a:fq):ik 172 #[fD #[hh x.1,fY x.2.1,fY x.2.2],fD #[hh y.1,fY y.2.1,fY y.2.2]] a λe H=>e=fF (fY<|IV x y)/\∃c d,H=grow (a.drewN c) d:=by
 have b:=λf=>strings_Compare x.1 y.1 f;unfold IV;generalize Lib.compareBytes x.1.data.toList y.1.data.toList=g at b |-;go_enter func172,ntmps172;go_wp2_with(go_at_call 191;refine(b _).still ?_);go_ret;exact⟨fX,0,_,by rw[alloc_eq_grow,alloc_eq_grow,grow_grow];rfl⟩
def ifs(a off b)(c:fq):CmpLays prog 172 #[] pA 3 IV a off b c:=λ_ _ _ _ x y=>RJ x y _
def div(a h)(d:Array fV)(b)(f:HoldsK pA 3 b a 0 d)(g:a<b.heap.size)(i:d.size<4611686018427387904):
  ik 171 #[my a 0 d.size h,.func (.func 172) #[] #[]] b λe H=>e=pD #[]/\∃c n j,PermIn 0 d.size d c/\SortedIn (ltOf IV) 0 d.size c/\H=sortWorldK pA 3 b a 0 n c j:=by
 have k:=enters_of func172 (by kernel_rfl) rfl;exact AnyQ.slices_SortFunc aaz 3 isAgg34 sizeOf34 pA ji rx IV abX 172 #[] a 0 h d b k (ifs a 0 d.size b) f g i
def Ck:(prog.info? 96).map (λi=>(i.zero,i.size,i.bytes))=fh (fh<|fD #[hh ByteArray.empty,fY 0,fY 0],3,32):=by kernel_rfl
def ET(b off n c:Nat)(es:List fV)(a:fq)(h:fv es=n)(i:n*32<=140737488355328)(j:∀f g,(flat es)[f]?=fh g->a.c b (off+f)=fh g):
  ik 170 #[my b off n c] a λe H=>∃d,e=fF d/\H.ownsRow a.heap.size 96 3 d n (flat es)/\d≠fy fj 0 0/\ju a H:=by
 have⟨k,U,l,m,o⟩:=info_parts Ck;exact AnyE.slices_Clone RB k _ 3 32 U l m o fX (by decide) sizeOf34 b off n c (flat es) a (by rw[ly,h]) (by unfold maxLen;omega) i j<|mH es
def lr{b:fq}{c off:Nat}{a}(d:∀e f,(flat a)[e]?=fh f->b.c c (off+e)=fh f){i:Nat}(U:i<fv a):
  b.c c (off+i*3)=fh (fA a[i].1)/\b.c c (off+i*3+1)=fh (.int .i64 a[i].2.1)/\b.c c (off+i*3+2)=fh (.int .i64 a[i].2.2):=by
 refine⟨?_,?_,?_⟩;exact d _ _ (by rw[show i*3=i*3+0 from fX,iK a i 0 U<|by omega];rfl);rw[Nat.add_assoc];exact d _ _ (by rw[iK a i 1 U<|by omega];rfl);rw[Nat.add_assoc];exact d _ _ (by rw[iK a i 2 U<|by omega];rfl)
theorem vq{a:fq}{b:Addr}{f:fu}(d:a.cell? b=fh f):a.setCell b f=a:=by
 have m:(a.setCell b f).heap=a.heap:=by
  apply Array.ext_getElem?;intro k;simp only[World.setCell,Array.getElem?_modify];by_cases g:b.block=k;subst g;simp only[if_true];unfold World.cell? at d;rcases i:a.heap[b.block]? with _|j
  rfl;rw[i]at d;cases j with
  |cells c e n=>
   simp only[Option.map_some];by_cases h:b.spot.isSome=fm;simp[h];simp only[h,if_false,Bool.false_eq_true]at d |-;have l:=(Array.getElem?_eq_some_iff.1 d);obtain⟨o,p⟩:=l
   congr 2
   grind
  |_=>simp at d
  simp[g]
 cases a
 grind [World.setCell]
def iD (a:List fV):Prop:=a.Pairwise λx y=>IV x y<0
def dk1 (b H:fq)(a:List fV)(n:Nat)(e:Ending):Prop:=
 Below b.heap.size b H/\
 (((∃x∈a,fN x.1=fo)/\e=fF (fC #[fy fj 0 0,.int .i64 1]))\/
  ((∀x∈a,fN x.1=fm)/\¬(a.map (·.1)).Nodup/\e=fF (fC #[fy fj 0 0,.int .i64 6]))\/
  ((∀x∈a,fN x.1=fm)/\(a.map (·.1)).Nodup/\16<fv a/\e=fF (fC #[fy fj 0 0,.int .i64 11]))\/
  ((∀x∈a,fN x.1=fm)/\(a.map (·.1)).Nodup/\fv a<=16/\∃c d R,e=fF (fC #[fy (fh ⟨d,0,fj⟩) n R,.int .i64 0])/\c.Perm a/\iD c/\H.ownsRow b.heap.size 96 3 (fy (fh ⟨d,0,fj⟩) n R) n (flat c)))
theorem igi(a:List fV)(b:Array fV)(c:PermIn 0 a.toArray.size a.toArray b):b.toList.Perm a:=by
 have⟨d,_⟩:=c;have e:(b.extract 0 a.toArray.size)=b:=by rw[<-d];simp
 grind
theorem WV(d:Array fV)(o:SortedIn (ltOf IV) 0 d.size d)(p:∀a(h:a<fv d.toList),1<=a->d.toList[a].1≠(d.toList[a-1]'(by omega)).1):iD d.toList:=by
 unfold iD;rw[List.pairwise_iff_getElem];intro i a U h u;simp only[Array.length_toList]at U h;have j:∀k,(g:k<d.size)->(l:1<=k)->IV d[k-1] d[k]<0:=by
  intro k g l;have n:=o (k-1) k (Nat.zero_le _) (by omega) g;rw[getElem!_pos d k g,getElem!_pos d (k-1)<|by omega]at n;have v:=of_decide_eq_false n;have q:=p k (by omega) l;have w:IV d[k] d[k-1]≠0:=by
   intro r
   have:=nA _ _ r
   apply q;simp only[Array.getElem_toList];have e:∀b c:ByteArray,b.data.toList=c.data.toList->b=c:=by
    intro b c x;cases b;cases c
    grind [Array.toList_inj]
   grind
  grind [IV,rK]
 have s:∀m,(f:i+1+m<d.size)->IV d[i] d[i+1+m]<0:=by
  intro m
  induction m with
  |zero=>intro f;exact j (i+1) f<|by omega
  |succ m t=>
   intro f;have b:=t (by omega);exact lX _ _ _ b<|j (i+1+(m+1)) f (by omega)
 have:=s (a-i-1)<|by omega
 grind
theorem vX{a}(b:iD a):(a.map (·.1)).Nodup:=by
 grind [iD,List.Nodup,IV,rJ]
theorem xp{a}(b:fN a=fm):1<=a.size/\a.size<=12:=by
 grind [fN]
theorem wL{a b:ByteArray}(c:a.toList=b.toList):a=b:=by
 rw[ByteArray.toList_eq,ByteArray.toList_eq]at c;cases a
 all_goals simp_all
theorem ks{c:fq}{g}{e}{d n h}{f}(i:c.ownsRow g e 3 (my d 0 n h) n (flat f)):∀a b,(flat f)[a]?=fh b->c.c d (0+a)=fh b:=by
 intro a b j;rcases i.2 with⟨k,_⟩|⟨l,R,m,o,_,p,_,_,_,q⟩
 all_goals grind [List.getElem?_eq_some_iff,List.getElem?_take_of_lt,World.cell?]
theorem CZ{a:fq}{c}{e}{b n h d}{f}(g:a.ownsRow c e d (my b 0 n h) n f)(i):a.frozen? (ii b i)=fo:=by
 rcases g.2 with⟨j,_⟩|⟨k,R,l,m,_,o,_⟩
 all_goals grind [World.frozen?]
def KZ(o off n h:Nat)(es:List fV)(g:fq)(Z:fv es=n)(y:o<g.heap.size)(aA:n*32<=140737488355328)(z:∀a A,(flat es)[a]?=fh A->g.c o (off+a)=fh A)
  (aa:∀e∈es,e.1.size<=maxLen):
  ik 109 #[my o off n h] g λe H=>dk1 g H es n e:=by
 have j:fe (fv es=n):=Z
 change fe _ at z aa
 clear Z;go_enter func109,ntmps109;go_wp2
 go_loopw [11] (λi wr=>∃k:Nat,k<=n/\i=.int .i64 k/\ju g wr/\fe (∀a(c:a<fv es),a<k->fN es[a].1=fm)) (λi _=>n-(intOf i).toNat)
 case atStart=>exact⟨0,Nat.zero_le _,rfl,Below.refl _ _,λa c l=>by omega⟩
 case round=>
  obtain⟨k,aW,rfl,d,K⟩:=hrel;by_cases aB:k<n
  ·have L:k<fv es:=by rw[j.o];exact aB
   have⟨c0,c1,c2⟩:=lr z L;have d0:=(d.cell (p:=(ii o<|off+k*3)) y).trans c0;have d1:=(d.cell (p:=(ii o<|off+k*3+1)) y).trans c1;have d2:=(d.cell (p:=(ii o<|off+k*3+2)) y).trans c2;have B:=λaC=>Ch es[k].1 aC<|aa.o es[k] (List.getElem_mem L);cases r:fN es[k].1 with
   |false=>
    have M:fe (fN es[k].1=fo):=r;rw[r]at B;clear r;go_wp2_with(go_at_call 129;apply (B _).still);go_ret2;exact⟨d.alloc d.size _,.inl ⟨⟨es[k],List.getElem_mem L,M⟩,fX⟩⟩
   |true=>
    have M:fe (fN es[k].1=fm):=r;rw[r]at B;clear r;go_wp2_with(go_at_call 129;apply (B _).still);go_roundw
    case rel=>
     refine⟨k+1,by omega,by go_num,d.alloc d.size _,?_⟩;intro a c aX;by_cases e:a=k;subst e;exact M;exact K.o a c<|by omega
    case measure=>simp[intOf];omega
  have ab:k=n:=by omega
  have C:fe (∀x∈es,fN x.1=fm):=by
   intro x aD;obtain⟨a,c,rfl⟩:=List.getElem_of_mem aD;exact K a c (by rw[ab,<-j.o];exact c)
  have ac:=ET o off n h es wr j aA λa A l=>(d.cell (p:=(ii o<|off+a)) y).trans<|z.o a A l;go_wp2_with fail;apply ac.mono;rintro e O ⟨aE,rfl,ad,ae,N⟩;have aF:∃f R s,aE=(my f 0 n R)/\wr.heap.size<=f/\O.heap[f]?=fh (.cells s 96 (0,0))/\n<=R/\R<=maxLen/\s.size=R*3/\s.toList.take (n*3)=flat es:=by
   rcases ad.2 with⟨l,_⟩|⟨f,R,s,l,P,aG,aH,aI,aJ,aK⟩
   exact absurd l ae;exact⟨f,R,s,l,P,aG,aH,aI,aJ,aK⟩
  have⟨f,R,s,af,Q,D,ag,ah,ai,aj⟩:=aF;rw[af];clear ac ad ae af;have ak:=HP (es:=es) D (by rw[j.o];exact aj);have S:=div f R es.toArray O ak (Array.getElem?_eq_some_iff.1 D).1 (by simp only[List.size_toArray];rw[j.o];omega);rw[show es.toArray.size=n by simp only[List.size_toArray];exact j.o]at S;go_wp2_with fail;refine S.via λal⟨t,aY,aZ,T,am,U⟩=>?_;have E:t.size=n:=by have:=T.1;simp only[List.size_toArray]at this;rw[this];exact j
  have an:al.ownsRow g.heap.size 96 3 (my f 0 n R) n (flat t.toList):=by
   rw[U];exact Ei E (Nat.le_trans d.size Q) D ag ah ai
  have aL:ju g al:=by
   rw[U];exact((d.trans<|N.mono d.size).grown (Eh t) (Nat.le_trans d.size N.size) (λk l=>by cases l;exact Nat.le_trans d.size Q))
  obtain⟨b,v⟩:=ol t.toList;have F:fe (b.Perm es):=by
   rw[v];exact igi es t (by simpa only[List.size_toArray,j.o]using T)
  have V:fe (fv b=n):=by rw[v,Array.length_toList];exact E
  have ao:fe ((∀a(c:a<fv b),1<=a->b[a].1≠(b[a-1]'(by omega)).1)->iD b):=by
   subst v;exact WV t (by rw[E];exact am)
  rw[<-v]at an;clear S T am U ak D aj N Q ag ah ai E v ab K z;go_wp2
  go_loopw [7] (λi w=>∃m:Nat,i=.int .i64 ((m:Int)+1)/\m<=n/\ju g w/\w.ownsRow g.heap.size 96 3 (my f 0 n R) n (flat b)/\fe (∀a(c:a<fv b),1<=a->a<m+1->b[a].1≠(b[a-1]'(by omega)).1)) (λi _=>n-(intOf i).toNat)
  case atStart=>exact⟨0,by go_num,Nat.zero_le _,aL,an,λa c G P=>by omega⟩
  case round=>
   obtain⟨m,rfl,bb,I,sN,W⟩:=hrel;by_cases aM:m+1<n
   ·have ap:m+1<fv b:=by rw[V.o];exact aM
    have aq:m<fv b:=(by omega);have⟨c0,_,_⟩:=lr (off:=0) (ks sN) ap;have⟨aN,_,_⟩:=lr (off:=0) (ks sN) aq;rw[Nat.zero_add]at c0 aN;have bc:((m:Int)+1-1)=m:=by omega
    have bd:((m:Int)+1)<n:=(by omega);cases ar:b[m+1].1.toList==b[m].1.toList with
    |true=>
     have X:fe ((b[m+1].1.toList==b[m].1.toList)=fm):=ar;go_wp2
     go_quiet (fail)
     go_wp2;go_ret2;refine⟨below_drewN I _,.inr<|.inl ⟨C,?_,fX⟩⟩;intro nZ;have aO:=(F.o.map (·.1)).nodup_iff.2 nZ;have au:=List.pairwise_iff_getElem.1 aO m (m+1) (by simpa using aq) (by simpa using ap) (by omega);simp only[List.getElem_map]at au;exact au (wL (by simpa using X.o)).symm
    |false=>
     have X:fe ((b[m+1].1.toList==b[m].1.toList)=fo):=ar;go_wp2
     go_quiet (fail)
     go_wp2;go_roundw
     case rel=>
      refine⟨m+1,by go_num,by omega,below_drewN I _,sN,?_⟩;intro a c G P;by_cases e:a=m+1;subst e;intro l;have av:=X.o;rw[l]at av;simp at av;exact W a c G<|by omega
     case measure=>simp[intOf];omega
   have aw:fe (iD b):=ao λa c G=>W.o a c G (by rw[V.o]at c;omega);have ax:fe ((es.map (·.1)).Nodup):=(List.Perm.nodup_iff<|F.map (λx:fV=>x.1)).1<|vX aw;clear W ao;by_cases aP:16<n
   ·have aQ:(16:Int)<n:=by omega
    go_wp2;go_ret2;exact⟨I,.inr<|.inr (.inl ⟨C.o,ax,by rw[j.o];exact aP,fX⟩)⟩
   have aQ:¬((16:Int)<n):=by omega
   go_wp2
   go_loopw [47] (λi w=>∃m:Nat,i=.int .i64 (m:Int)/\m<=n/\ju g w/\w.ownsRow g.heap.size 96 3 (my f 0 n R) n (flat b)) (λi _=>n-(intOf i).toNat)
   case atStart=>exact⟨0,rfl,Nat.zero_le _,I,sN⟩
   case round=>
    obtain⟨q,rfl,be,Y,u⟩:=hrel;by_cases aR:q<n
    ·have ay:q<fv b:=by rw[V.o];exact aR
     have⟨c0,_,_⟩:=lr (off:=0) (ks u) ay;rw[Nat.zero_add]at c0;have bf:=(xp<|C.o _ (F.o.mem_iff.1<|List.getElem_mem ay)).2;have aS:=xZ b[q].1 wr (by omega);have az:f<wr.heap.size:=gc u fX;have aT:=CZ u<|q*3;go_wp2_with(go_at_call 130;refine aS.via λbg J=>?_;have c1:=(J.cell (p:=(ii f<|q*3)) az).trans c0;have f1:=(J.frozen (p:=(ii f<|q*3)) az).trans aT);go_roundw
     case rel=>
      refine⟨q+1,by go_num,by omega,?_,?_⟩;rw[vq c1];exact Y.trans<|J.mono Y.size;rw[vq c1];exact gg u λaU aV=>J.block aU<|gc u aV
     case measure=>simp[intOf];omega
    go_wp2;go_ret2;exact⟨Y,.inr<|.inr (.inr ⟨C,ax.o,by rw[j.o];omega,b,_,R,fX,F,aw,u⟩)⟩
def qT{P:Program}(b:fq)(m p q g:TypeId)(h e c j r:Nat)(a:Addr)(k s)(d:Array fu)(t)(cs:List fu)
  (u:P.underlying m=fh (.slice g))(n:(P.info? g).map (·.size)=fh h)
  (v:b.heap[e]?=fh (.cells d t (0,0)))(w:fv cs=Nat.min k j*h)
  (x:∀o f,cs[o]?=fh f->b.cell? (a.add o)=fh f)(B:c+fv cs<=d.size)(y:∀f∈cs,f.oneCell'=fm):
  (Builtin.copy_ #[m,p] q #[my e c j r,fy (fh a) k s]).run P b =
   .ok (goInt<|Nat.min k j) (b.setRow e (d.toList.take c++cs++d.toList.drop (c+fv cs)).toArray):=by
 have z:=run_loadCells_list (P:=P) b a cs x;have A:=run_storeCells_at P e c t cs 0 d b v (by omega) y;rcases l:P.info? g with _|i
 simp[l]at n;have U:i.size=h:=by simpa [l]using n
 simp[Builtin.copy_,run_underlying u,Builtin.lenOf,Builtin.firstCells,sizeOf,typeInfo,l,U,<-w,z,A]
def vr{P:Program}{a:fq}{p:Array Oper}{rest:List Oper}{c:Oper}{g:Act}{q:Exit->Act->fq->Prop}(z:c.guard=fj)(d r:Operand)(l s:TypeId)
  (A:c.op=.call { callee:=.builtin .copy,args:=#[d,r],argTypes:=#[l,s] })(m:TypeId)(B:P.underlying l=fh (.slice m))(n:Nat)(C:(P.info? m).map (·.size)=fh n)
  (b off h u)(o:Addr)(i v:Nat)(D:g.eval d=my b off h u)(E:g.eval r=fy (fh o) i v)
  (f:Array fu)(t)(w:a.heap[b]?=fh (.cells f t (0,0)))(cs:List fu)(F:fv cs=Nat.min i h*n)
  (G:∀x j,cs[x]?=fh j->a.cell? (o.add x)=fh j)(I:off+fv cs<=f.size)(J:∀j∈cs,j.oneCell'=fm)
  (new:Array fu)(K:new.toList=f.toList.take off++cs++f.toList.drop (off+fv cs))
  (L:∀H,fe (H.heap[b]?=fh (.cells new t (0,0)))->a.grownBy H (fh b)->wpList P p q rest (g.put c.dst<|goInt (Nat.min i h)) H):wpList P p q (c::rest) g a:=by
 refine wpList_plain z λO M=>?_;have y:=qT (P:=P) a l s c.type m n b off h u o i v f t cs B C w F G I J;rw[<-K,Array.toArray_toList]at y;unfold Oper.wp;simp[execOp,A,resolve,invoke,builtin,D,E,y,Result.andThen];exact M _ _ (L _ (setRow_heap a b _ _ t _ w) ⟨fX,fX,fX,by simp,λk Q N=>setRow_other a b k _ λe=>N (by rw[e])⟩)
def EU:List fu:=(List.replicate 16<|pA (ByteArray.empty,0,0)).flatten
theorem WW:fv EU=48:=by decide
theorem WX:∀a∈EU,a.oneCell'=fm:=by
 intro a b;have⟨l,_⟩:=List.mem_flatten.1 b
 grind [rx]
def kv (a:List fV):Array fu:=(flat a++EU.drop (fv a*3)).toArray
theorem kP{a:List fV}(b:fv a<=16):(kv a).size=48:=by
 grind [kv,List.size_toArray,List.length_append,ly,List.length_drop,WW]
theorem qa(a):(kv a).all (·.oneCell')=fm:=by
 grind [Array.all_eq_true',kv,mH,WX,List.mem_of_mem_drop]
theorem oc:(prog.info? 208).map (·.size)=fh 48:=by kernel_rfl
def Er:(prog.info? 96).map (·.size)=fh 3:=by kernel_rfl
theorem Ax(d n h:Nat)(a:List fV)(b:fq)(o:fv a=n)(p:d<b.heap.size)(y:n<=16)(g:∀c e,(flat a)[c]?=fh e->b.cell? (ii d<|0+c)=fh e):
  ik 111 #[my d 0 n h] b (ut (fD<|kv a) b):=by
 have z:fe (∀c e,(flat a)[c]?=fh e->b.cell? (ii d<|0+c)=fh e):=g;have f:fe ((kv a).size=48):=kP (by omega);have q:fe (∀l m c v,(flat a)[c]?=fh v->((b.alloc l).alloc m).cell? (((ii d 0):Addr).add c)=fh v):=by
  intro l m c v i;have r:((ii d 0):Addr).add c=(ii d<|0+c):=by unfold Addr.add;split<;>simp_all
  rw[r,World.cell?_alloc_past _ _ _ (by simp;omega),World.cell?_alloc_past _ _ _ p,(g c v i)]
 have s:fe ((kv a).toList=EU.take 0++flat a++EU.drop (0+fv (flat a))):=by
  grind [kv,ly]
 have t:fe (fv (flat a)=Nat.min n 16*3):=by
  grind [flat,ly]
 have u:fe (0+fv (flat a)<=48):=by
  show 0+fv (flat a)<=48
  grind [ly]
 clear g o;go_enter func111,ntmps111;go_wp2_with(first
  |(refine vr fX (.tmp 4) (.tmp 5) 55 55 fX 96 underlying55 3 Er (b.heap.size+1) 0 16 16 (ii d 0) n h fX fX _ 208 (heap_alloc2_new _ _ _) (flat a) ?_ ?_ ?_ (mH a) (kv a) ?_ ?_;go_must(exact t);go_must(exact q _ _);go_must(exact u);go_must(exact s);intro O w j)
  |(refine wpList_load_row fX 208 _ fX (b.heap.size+1) fX 208 (kv a) (0,0) _ w underlying208 fX (by rw[f.o];exact oc) ?_)
  |(refine wpList_store_row fX 208 _ _ fX b.heap.size (kv a) fX fX 208 _ ((j.block b.heap.size (by simp;omega)<|by simp).trans<|heap_alloc2_old _ _ _) (by rw[f.o];exact oc) (by rw[f.o];rfl) (qa a) ?_)
  |go_in)
 have x:(O.setRow b.heap.size<|kv a).heap[b.heap.size]?=fh (.cells (kv a) 208 (0,0)):=setRow_heap O b.heap.size _ _ 208 (0,0)<|(j.block b.heap.size (by simp;omega) (by simp)).trans (heap_alloc2_old _ _ _);refine bodyPost_ret (v:=fD<|kv a) (results_cell_row results111 _ _ b.heap.size 208 (kv a) (0,0) _ fX x underlying208 fX (by rw[f.o];exact oc)) fX ⟨fX,?_⟩;have A:ju b O:=(((Below.refl _ _).alloc (Nat.le_refl _) _).alloc (by simp) _).grown j (by simp;omega) (λk i=>by cases i;omega)
 grind [below_setRow]
def laidOut:laidOutB prog=fm:=by kernel_rfl
def piv:208<prog.types.size:=of_decide_eq_true<|by kernel_rfl
def EW:Maps.Keyed prog 208:=Maps.Keyed.of_law<|deep_law_laid laidOut (m:=9) (by omega) piv (by kernel_rfl) (by rw[underlying208])
theorem Vg:prog.cellsOf 208=48:=by kernel_rfl
def Vh:prog.cellsOf 96=3:=by kernel_rfl
def dk2:prog.cellsOf 9=1:=by kernel_rfl
def st1:prog.cellsOf 3=1:=by kernel_rfl
def ihi:prog.cellsOf 29=1:=by kernel_rfl
def st2:prog.keyType 208=fm:=by kernel_rfl
def Fits (e:fV):Prop:=e.1.size<=maxLen/\(Lit.int .i64 e.2.1).wf=fm/\(Lit.int .i64 e.2.2).wf=fm
def sup(d:Nat)(e)(a:Fits e):∃M,prog.keyLits (d+2) 96 (pA e)=fh M:=by
 have⟨b,c,f⟩:=a;have g:prog.keyLits (d+1) 9 [hh e.1]=fh [.string e.1.data.toList]:=by unfold Program.keyLits;simp[underlying9,b]
 have h:prog.keyLits (d+1) 3 [.int .i64 e.2.1]=fh [.int .i64 e.2.1]:=by unfold Program.keyLits;simp[underlying3,c]
 have i:prog.keyLits (d+1) 29 [.int .i64 e.2.2]=fh [.int .i64 e.2.2]:=by unfold Program.keyLits;simp[underlying29,f]
 unfold Program.keyLits;simp[underlying96,pA,Vh,dk2,st1,ihi,g,h,i]
def mapM_some{c e:Type}(a:c->Option e):∀l:List c,(∀x∈l,∃y,a x=fh y)->∃b,l.mapM a=fh b
 |[],_=>⟨[],fX⟩
 |x::f,d=>by
  have⟨y,g⟩:=d x<|by simp
  have⟨b,h⟩:=mapM_some a f λz i=>d z (by simp[i])
  exact⟨y::b,by simp[List.mapM_cons,g,h]⟩
theorem tT(a:List fV)(g:fv a<=16)(i:Nat)(U:i<16):((kv a).toList.drop<|i*3).take 3=pA ((a[i]?).getD (ByteArray.empty,0,0)):=by
 have d:=ly a;apply List.ext_getElem?;intro b;by_cases c:b<3;rw[List.getElem?_take_of_lt c,List.getElem?_drop];simp only[kv];by_cases h:i<fv a
 grind [List.getElem?_append_left,iK,List.getElem?_eq_getElem]
 rw[List.getElem?_append_right<|by omega,List.getElem?_drop,d,List.getElem?_eq_none (l:=a)<|by omega];have e:fv a*3+(i*3+b-fv a*3)=i*3+b:=by omega
 rw[e];have f:=iK (List.replicate 16 (ByteArray.empty,0,0)) i b (by simp;omega) c;rwa [List.getElem_replicate]at f
 grind [List.getElem?_take_eq_none,List.getElem?_eq_none,ji]
def swo(d:Nat)(a:List fV)(b:fv a<=16)(f:∀e∈a,Fits e):∃M,prog.keyLits (d+3) 208 (kv a).toList=fh M:=by
 have g:(kv a).toList.length=48:=by simp[kP b]
 have⟨h,j⟩:=mapM_some (λi=>prog.keyLits (d+2) 96<|((kv a).toList.drop (i*3)).take 3) (List.range 16) (by
  intro i U;rw[List.mem_range]at U;rw[tT a b i U];refine sup d _ ?_;by_cases c:i<fv a;rw[List.getElem?_eq_getElem c];exact f _<|List.getElem_mem c;rw[List.getElem?_eq_none<|by omega];exact⟨by decide,by decide,by decide⟩)
 refine⟨h.flatten,?_⟩;unfold Program.keyLits;simp only[underlying208,Vg,g,if_true,Vh,j,Option.map_some]
def pj (a:Program)(b:List fV):Lit:=(keyOf a 208<|fD (kv b)).getD .nil
theorem lg(a:List fV)(b:fv a<=16)(c:∀e∈a,Fits e):keyOf prog 208 (fD<|kv a)=fh (pj prog a):=by
 have h:∃k,keyOf prog 208 (fD<|kv a)=fh k:=by
  have d:Value.formed prog 208 (fD<|kv a)=fm:=by
   unfold Value.formed;rw[underlying208]
   grind [Vg,kP]
  obtain⟨n,f⟩:∃n,prog.types.size+1=n+3:=⟨prog.types.size-2,by have:=piv;omega⟩;have⟨M,g⟩:=swo n a b c;unfold keyOf;rw[underlying208];simp only[st2,d,Bool.and_self,if_true,Value.cells,f,g,Option.map_some]
  grind
 grind [pj]
theorem Nq{a fs:List fV}(b:fv a<=16)(c:fv fs<=16)(d:∀e∈a,1<=e.1.size)(f:∀e∈fs,1<=e.1.size)(g:kv a=kv fs):a=fs:=by
 have h:∀i,i<16->(a[i]?).getD (ByteArray.empty,0,0)=(fs[i]?).getD (ByteArray.empty,0,0):=by
  intro i U;have j:=tT a b i U
  grind [tT,pA,List.cons.injEq,Value.string.injEq,Value.int.injEq,Prod.ext]
 have k:ByteArray.empty.size=0:=fX;apply List.ext_getElem?
 grind
theorem EX{a fs:List fV}(b:fv a<=16)(c:fv fs<=16)(f1:∀e∈a,Fits e)(f2:∀e∈fs,Fits e)(d:∀e∈a,1<=e.1.size)(f:∀e∈fs,1<=e.1.size)
  (g:pj prog a=pj prog fs):a=fs:=by
 grind [lg,EW.inj,Nq]
variable {ft:kI}
structure Ob where
 kind:Int
 data:ByteArray
 ea:Option Addr
 el:Nat
 ec:Nat
 gh:List fV
 high:Int
def Ob.cells (a:Ob):List fu:=[.int .i64 a.kind,fA a.data,fy a.ea a.el a.ec,.int .i64 a.high]
def gD (A:List Ob):List fu:=A.flatMap Ob.cells
theorem sO:∀(b:List Ob)(i a:Nat)(U:i<fv b),a<4->(gD b)[i*4+a]?=(b[i].cells)[a]?
 |[],i,a,U,_=>by simp at U
 |e::c,0,a,_,d=>by
  grind [gD,List.getElem?_append_left,Ob.cells]
 |e::c,i+1,a,U,d=>by
  have f:=sO c i a (by grind) d
  have g:fv e.cells=4:=fX
  grind [gD,List.getElem?_append_right]
structure jR (ft:kI)(w:World)(p:Nat)(a:Option Addr)(n cap bf bd:Nat)(gM:List Ob):Prop where
 at_:gA ft w p a n cap bf bd
 row:w.ownsRow 0 213 4 (.slice a n cap) n (gD gM)
 len:gM.length=n
 many:n<=400
def jR.below{w H}{p}{a}{n h c d}{A}(b:jR ft w p a n h c d A)(e:ju w H):jR ft H p a n h c d A:=
 ⟨b.at_.below e,gg b.row λf g=>e.block f<|gc b.row g,b.len,b.many⟩
theorem jR.cells{w}{p}{a}{n h g j}{A}(f:jR ft w p a n h g j A){i:Nat}(U:i<fv A):
  ∃b,a=fh (ii b 0)/\b<w.heap.size/\w.c b (i*4)=fh (.int .i64 A[i].kind)/\w.c b (i*4+1)=fh (fA A[i].data)/\
   w.c b (i*4+2)=fh (fy A[i].ea A[i].el A[i].ec)/\w.c b (i*4+3)=fh (.int .i64 A[i].high):=by
 have r:i<n:=by rw[<-f.len];exact U
 rcases f.row.2 with⟨_,s⟩|⟨b,R,t,k,_,l,_,_,u,m⟩
 omega;cases k;have d:∀c e,c<4->(A[i].cells)[c]?=fh e->w.c b (i*4+c)=fh e:=by
  intro c e o q;rw[<-sO A i c U o,<-m,List.getElem?_take_of_lt<|by omega,Array.getElem?_toList]at q
  grind [World.cell?]
 exact⟨b,fX,(Array.getElem?_eq_some_iff.1 l).1,d 0 _ (by omega) fX,d 1 _ (by omega) fX,d 2 _ (by omega) fX,d 3 _ (by omega) fX⟩
def fK (A:List Ob)(id:Int):Int:=if 1<=id then((A[(id-1).toNat]?).map (·.kind)).getD 0 else 0
def gu (A:List Ob)(id:Int):Int:=((A[(id-1).toNat]?).map (·.high)).getD 0
theorem xa{A:List Ob}{a:Nat}(b:a<fv A):fK A ((a:Int)+1)=A[a].kind:=by
 grind [fK,Int,List.getElem?_eq_getElem]
theorem Cl{A:List Ob}{a:Nat}(b:a<fv A):gu A ((a:Int)+1)=A[a].high:=by
 grind [gu,Int,List.getElem?_eq_getElem]
theorem iE{A:List Ob}{id:Int}(a:id<1\/(fv A:Int)<id):fK A id=0:=by
 unfold fK;rcases a with a|a
 omega;rw[if_pos<|by omega,List.getElem?_eq_none<|by omega];rfl
def ug(p)(g)(n h j k)(A)(id:Int)(b)(a:jR ft b p g n h j k A):
  ik 61 #[ie p,fY id] b (ut (fY<|fK A id) b):=by
 by_cases hid:id<1\/(n:Int)<id;rw[iE (by rw[a.len];exact hid)];exact(IP p n h g id b a.at_.c0 a.many hid).mono λe H⟨d,f⟩=>⟨d,by rw[f];exact Below.refl _ _⟩
 obtain⟨c,rfl⟩:∃c:Nat,id=(c:Int)+1:=⟨(id-1).toNat,by omega⟩;have i:c<fv A:=by rw[a.len];omega
 obtain⟨l,rfl,m,c0,c1,c2,c3⟩:=a.cells i;rw[xa i];exact(IQ p l n h c _ _ _ _ _ _ b a.at_.lt m a.at_.c0 (by omega) a.many c0 c1 c2 c3).mono λe H⟨d,f⟩=>⟨d,by rw[f];exact(Below.refl _ _).alloc (Nat.le_refl _) _⟩
def dle(d)(g)(n h i j)(A:List Ob)(a:Nat)(f:a<fv A)(c)(b:jR ft c d g n h i j A):
  ik 113 #[ie d,fY<|(a:Int)+1] c (ut (fD #[.int .i64 A[a].kind,fA A[a].data,fy A[a].ea A[a].el A[a].ec,.int .i64 A[a].high]) c):=by
 obtain⟨k,rfl,l,c0,c1,c2,c3⟩:=b.cells f;exact(RF d k n h a _ _ _ _ _ _ c b.at_.lt l b.at_.c0 (by rw[<-b.len];exact f) b.many c0 c1 c2 c3).mono λe H⟨m,o⟩=>⟨m,by rw[o];exact(Below.refl _ _).alloc (Nat.le_refl _) _⟩
def IW(c)(d)(n h f g)(A:List Ob)(a:Nat)(i:a<fv A)(b)(j:jR ft b c d n h f g A):
  ik 173 #[ie c,fY<|(a:Int)+1] b (ut (.int .i64 A[a].high) b):=by
 have f3:=Era;go_enter func173,ntmps173;go_wp2_with(go_at_call 113;refine(dle c d n h f g A a i b j).mono ?_;rintro e H ⟨rfl,k⟩);go_ret;exact⟨fX,k⟩
theorem Nr(d)(g)(n h k l)(A)(id:Int)(c)(b:jR ft c d g n h k l A):
  ik 84 #[ie d,fY id] c λe H=>ju c H/\
   ((fK A id≠1/\e=pD #[hh ByteArray.empty,fY 13])\/∃a,∃i:a<fv A,id=(a:Int)+1/\A[a].kind=1/\e=pD #[fA A[a].data,fY 0]):=by
 by_cases hid:id<1\/(n:Int)<id;exact(dec d n h g id c b.at_.c0 b.many hid).mono λe H⟨j,f⟩=>⟨by rw[f];exact Below.refl _ _,.inl ⟨by rw[iE (by rw[b.len];exact hid)];decide,j⟩⟩
 obtain⟨a,rfl⟩:∃a:Nat,id=(a:Int)+1:=⟨(id-1).toNat,by omega⟩;have i:a<fv A:=by rw[b.len];omega
 obtain⟨m,rfl,o,c0,c1,c2,c3⟩:=b.cells i;refine(WT d m n h a _ _ _ _ _ _ c b.at_.lt o b.at_.c0 (by omega) b.many c0 c1 c2 c3).mono λe H⟨j,f⟩=>⟨f,?_⟩
 grind [xa]
variable {ft:kI}
def EQ (A:List Ob)(e:fV):Bool:=!(fK A e.2.2==0)&&(fK A e.2.2==e.2.1)
def gy (A:List Ob)(es:List fV):Int:=es.foldl (λa e=>max a<|1+gu A e.2.2) 0
def RL(A)(a:List fV)(e:fV):gy A (a++[e])=max (gy A a) (1+gu A e.2.2):=by
 simp only[gy,List.foldl_append,List.foldl_cons,List.foldl_nil]
def doc (b H:fq)(A:List Ob)(a:List fV)(e:Ending):Prop:=
  Below b.heap.size b H/\
   (((∃x∈a,EQ A x=fo)/\e=fF (fC #[.int .i64 0,.int .i64 13]))\/
    ((∀x∈a,EQ A x=fm)/\5<gy A a/\e=fF (fC #[.int .i64 0,.int .i64 11]))\/
    ((∀x∈a,EQ A x=fm)/\gy A a<=5/\0<=gy A a/\e=fF (fC #[.int .i64<|gy A a,.int .i64 0])))
def La(p j R:Nat)(C)(n h D E m:Nat)(A)(a:List fV)(d)(F:jR ft d p C n h D E A)(s:fv a=m)(ah:m<=16)(u:j<d.heap.size)
  (L:∀c M,(flat a)[c]?=fh M->d.c j (0+c)=fh M)(N:∀v∈A,0<=v.high/\v.high<=5):
  ik 110 #[ie p,my j 0 m R] d λe H=>doc d H A a e:=by
 change fe _ at L s N
 go_enter func110,ntmps110;go_wp2
 go_loopw [6,12] (λt i wr=>∃k:Nat,k<=m/\i=.int .i64 k/\t=.int .i64 (gy A<|a.take k)/\0<=gy A (a.take k)/\gy A (a.take k)<=6/\ju d wr/\fe (∀c(f:c<fv a),c<k->EQ A a[c]=fm)) (λ_ i _=>m-(intOf i).toNat)
 case atStart=>exact⟨0,Nat.zero_le _,rfl,rfl,Int.le_refl _,by show(0:Int)<=6;decide,Below.refl _ _,λc f F=>by omega⟩
 case round=>
  obtain⟨k,ai,rfl,rfl,P,X,b,Q⟩:=hrel;by_cases Y:k<m
  ·have w:k<fv a:=by rw[s.o];exact Y
   obtain⟨c0,c1,c2⟩:=lr L w;rw[Nat.zero_add]at c0 c1 c2;have d0:=(b.cell (p:=(ii j<|k*3)) u).trans c0;have d1:=(b.cell (p:=(ii j<|k*3+1)) u).trans c1;have d2:=(b.cell (p:=(ii j<|k*3+2)) u).trans c2;have aj:j<wr.heap.size:=Nat.lt_of_lt_of_le u b.size;clear c0 c1 c2;have y:=λ(o:fq)(q:ju d o)=>ug p C n h D E A a[k].2.2 o<|F.below q;obtain⟨z,l⟩:∃z,z=fK A a[k].2.2:=⟨_,fX⟩;rw[<-l]at y
   change fe _ at l
   have box:=λ(Z:fq)(S:Obj)(q:Below (wr.alloc S).heap.size (wr.alloc S) Z)(v:Nat)=>q.cell (p:=(ii wr.heap.size v)) (by simp);cases B:(z==0) with
   |true=>
    have r:fe (EQ A a[k]=fo):=by
     show EQ A a[k]=fo;unfold EQ;rw[<-l.o,B];rfl
    go_wp2_with(go_at_call 61;refine(y _<|b.alloc b.size _).via λO g=>?_);go_ret2;exact⟨(b.alloc b.size _).trans<|g.mono (by simp;have:=b.size;omega),.inl ⟨⟨a[k],List.getElem_mem w,r⟩,fX⟩⟩
   |false=>
    cases T:(z==a[k].2.1) with
    |false=>
     have r:fe (EQ A a[k]=fo):=by
      show EQ A a[k]=fo;unfold EQ;rw[<-l.o,B,T];rfl
     go_wp2_with(go_at_call 61;refine(y _<|b.alloc b.size _).via λO g=>?_;have G:=box _ _ g 1;simp at G);go_ret2;exact⟨(b.alloc b.size _).trans<|g.mono (by simp;have:=b.size;omega),.inl ⟨⟨a[k],List.getElem_mem w,r⟩,fX⟩⟩
    |true=>
     have r:fe (EQ A a[k]=fm):=by
      show EQ A a[k]=fm;unfold EQ;rw[<-l.o,B,T];rfl
     obtain⟨c,f,I⟩:∃c:Nat,c<fv A/\a[k].2.2=(c:Int)+1:=by
      by_cases hid:a[k].2.2<1\/(fv A:Int)<a[k].2.2
      have:=l.o
      rw[iE hid]at this;simp[this]at B;exact⟨(a[k].2.2-1).toNat,by omega,by omega⟩
     have aa:fe (gu A a[k].2.2=A[c].high):=by
      show gu A a[k].2.2=A[c].high;rw[I];exact Cl f
     have V:=λ(o:fq)(q:ju d o)=>IW p C n h D E A c f o<|F.below q;rw[<-I]at V;obtain⟨ak,al⟩:=N A[c]<|List.getElem_mem f;have f3:=Era;clear I;go_wp2_with(first
      |(go_at_call 61;refine(y _<|b.alloc b.size _).via λO g=>?_;have G:=box _ _ g 1;have ab:=box _ _ g 2;simp at G ab;have J:=(b.alloc b.size _).trans<|g.mono (by simp;have:=b.size;omega))
      |(go_at_call 173;refine(V _ J).via λam ac=>?_))
     have K:gy A (a.take<|k+1)=max (gy A<|a.take k) (1+A[c].high):=by
      rw[List.take_succ_eq_append_getElem w,RL,aa.o]
     go_roundw
     case rel=>
      refine⟨k+1,by omega,by go_num,by rw[K],by rw[K];omega,by rw[K];omega,J.trans<|ac.mono J.size,?_⟩;intro i U an;by_cases e:i=k;subst e;exact r;exact Q i U<|by omega
     case measure=>simp[intOf];omega
  have ad:k=m:=by omega
  have W:fe (∀x∈a,EQ A x=fm):=by
   intro x ae;obtain⟨c,f,rfl⟩:=List.getElem_of_mem ae;exact Q c f (by rw[ad,<-s.o];exact f)
  have af:fe (a.take k=a):=List.take_of_length_le (by rw[s.o];omega);rw[af.o]at P X |-;by_cases ag:5<gy A a
  ·go_wp2
   go_ret2;exact⟨b,.inr<|.inl ⟨W,ag,fX⟩⟩
  go_wp2;go_ret2;exact⟨b,.inr (.inr ⟨W,by omega,P,fX⟩)⟩
variable {ft:kI}
def ihn(b)(d)(n h e f)(A)(id:Int)(a)(j:jR ft a b d n h e f A)(c:fK A id≠2):
  ik 85 #[ie b,fY id] a (ut (fC #[fy fj 0 0,fY 13]) a):=by
 have g:=ug b d n h e f A id a j;obtain⟨k,i⟩:=ol<|fK A id;rw[<-i]at g c;have m:(k==2)=fo:=by simpa using c
 clear i c;go_enter func85,ntmps85;go_wp2_with(go_at_call 61;refine g.via λH l=>?_);go_ret2;exact⟨fX,l⟩
def EY{b:fq}{c m}{d}(e:b.ownsRow 0 96 3 (my c 0 m m) m d):∃a,fe (b.heap[c]?=fh (.cells a 96 (0,0)))/\fe (a.size=m*3):=by
 rcases e.2 with⟨f,_⟩|⟨j,R,a,g,_,h,_,_,i,_⟩
 cases f;cases g;exact⟨a,h,i⟩
def oZ{a b c}(d:ju a b)(e:b.grownBy c fj):fe (ju a c):=d.grown e d.size (λk f=>by cases f)
theorem WY{d e}{b:Nat}{f}(h:ju d e)(i:b<d.heap.size)(j:∀a g,(flat f)[a]?=fh g->d.cell? (ii b<|0+a)=fh g):∀a c,(flat f)[a]?=fh c->e.cell? (((ii b 0):Addr).add a)=fh c:=by
 intro a c k;have l:((ii b 0):Addr).add a=(ii b<|0+a):=by unfold Addr.add;split<;>simp_all
 rw[l,h.cell (p:=(ii b<|0+a)) i,j a c k]
def dot(g)(l)(n h o p)(A:List Ob)(a i m c:Nat)(d:List fV)(t:a<fv A)(b)(j:jR ft b g l n h o p A)(u:A[a].kind=2)
  (v:A[a].ea=fh (ii i 0))(w:A[a].el=m)(x:A[a].ec=c)(Y:m<=16)(f:fv d=m)(J:i<b.heap.size)(y:∀a z,(flat d)[a]?=fh z->b.c i (0+a)=fh z):
  ik 85 #[ie g,fY<|(a:Int)+1] b λe H=>∃B,e=pD #[my B 0 m m,fY 0]/\H.ownsRow b.heap.size 96 3 (my B 0 m m) m (flat d)/\ju b H:=by
 have C:=ug g l n h o p A ((a:Int)+1) b j;rw[xa t,u]at C;have D:=λ(E:fq)(K:ju b E)=>dle g l n h o p A a t E (j.below K);rw[v,w,x]at D;have f2:=Env;have⟨L,U,M,N,P⟩:=info_parts Ck
 change fe _ at y f
 clear v w x u;go_enter func85,ntmps85;go_wp2_with(first
  |(go_at_call 61;refine C.via λO q=>?_)
  |(go_at_call 113;refine(D _ q).via λr Q=>?_)
  |(at_make;refine wpList_make_full _ fX _ _ 55 fX 0 96 L _ 3 underlying55 U M N .i64 .i64 _ _ m fX fX fX fX ?_ ?_ (Nat.zero_le _) ?_;go_must(rw[P];omega);go_must(unfold maxLen;omega);intro Z R S;have⟨T,V,F⟩:=EY R;have G:=q.trans<|Q.mono q.size;have s:=oZ G S)
  |(refine vr fX (.tmp 19) (.tmp 20) 55 55 fX 96 underlying55 3 Er r.heap.size 0 m m (ii i 0) m c fX fX T 96 V (flat d) ?_ ?_ ?_ (mH d) (flat d).toArray ?_ ?_;go_must(rw[ly,f.o];exact congrArg (· * 3) (Nat.min_self m).symm);go_must(exact WY (s) J y);go_must(rw[ly,f.o,F.o];omega);go_must(simp only[List.take_zero,List.nil_append,Nat.zero_add];rw[List.drop_eq_nil_of_le (by rw[ly,f.o,Array.length_toList,F.o];exact Nat.le_refl _),List.append_nil]);intro aa W X))
 go_ret2;have I:=G.size;refine⟨r.heap.size,fX,⟨by rw[ly,f.o],.inr ⟨r.heap.size,m,(flat d).toArray,fX,I,W,Nat.le_refl _,by unfold maxLen;omega,by simp[ly,f.o],?_⟩⟩,?_⟩;simp only;exact List.take_of_length_le (by rw[ly,f.o];exact Nat.le_refl _);exact s.grown X s.size (λk j=>by cases j;exact I)
variable {ft:kI}
theorem vt(a:fq)(z cs)(t):(a.alloc<|.cells z t).setRow a.heap.size cs=a.alloc (.cells cs t):=by
 have c:((a.alloc<|.cells z t).setRow a.heap.size cs).heap=(a.alloc<|.cells cs t).heap:=by
  apply Array.ext_getElem?;intro k;by_cases b:k=a.heap.size
  grind [setRow_heap,heap_alloc_new]
  rw[setRow_other _ _ _ _ b];show(a.heap.push _)[k]?=(a.heap.push _)[k]?
  grind
 grind [World.setRow,World.alloc]
theorem Ay{W:Nat->fq}{e n}{b:DataW Unit}{f}{d:Lit}(h:∀a,(W a).ownsMap prog 208 (plainElem prog 29) e n b)(i:keyOf prog 208 f=fh d):
  ∃c:Int,(∀a,(Instr.lookup 183 (.map<|fh e) f fm).run prog (W a)=.ok (fC #[fY c,fE<|Maps.has b d]) (W a))/\b.atKey d (.lit<|.int .i64 0)=.lit (.int .i64 c)/\(Lit.int .i64 c).wf=fm:=by
 have one:∀a,∃c:Int,(Instr.lookup 183 (.map<|fh e) f fm).run prog (W a)=.ok (fC #[fY c,fE<|Maps.has b d]) (W a)/\b.atKey d (.lit<|.int .i64 0)=.lit (.int .i64 c)/\(Lit.int .i64 c).wf=fm:=by
  intro a;have⟨l,m,o,j⟩:=(h a).look_ok EW underlying183 (rH _) (plainElem_int underlying29<|by decide) i;obtain⟨c,rfl,p,g⟩:=plainElem_int_inv underlying29 j
  grind
 have⟨c,_,k,g⟩:=one 0;refine⟨c,λa=>?_,k,g⟩;have⟨q,_⟩:=one a
 grind
def lY{d}{e:Array Oper}{f:fq->Prop}{h:Act->Prop}{a:Oper}{rest:List Oper}{c:Act}(k:a.guard=fj)(i:TypeId)(x)(l:a.op=.load i x)(j)(m:c.eval x=(ie j))
  (cs:Array fu)(n:∀b,f b->(loadVar i (ii j 0)).run d b=.ok (fD cs) b)(o:wpQuiet d e f h rest (c.put a.dst<|fD cs)):wpQuiet d e f h (a::rest) c:=by
 have g:Region.wanted a (yielded e c.tmps)=fm:=by simp[Region.wanted,k]
 refine wpQuiet_step λq p=>?_;rw[if_pos g];refine⟨_,λb g=>?_,p _ o⟩;unfold Oper.quietAt execOp;simp only[l,m,Instr.loadAt,Instr.sureAddr,Sem.run_bind,Sem.run_pure,Result.andThen_ok,n b g];exact⟨fX,fX⟩
def qF{e}{f:Array Oper}{g:fq->Prop}{i:Act->Prop}{a:Oper}{rest:List Oper}{b:Act}(n:a.guard=fj)(t:TypeId)(m x)(c:Bool)(o:a.op=.lookup t m x c)(j k l:fu)(p:b.eval m=j)(q:b.eval x=k)
  (r:∀d,g d->(Instr.lookup t j k c).run e d=.ok l d)(s:wpQuiet e f g i rest (b.put a.dst l)):wpQuiet e f g i (a::rest) b:=by
 have h:Region.wanted a (yielded f b.tmps)=fm:=by simp[Region.wanted,n]
 refine wpQuiet_step λv u=>?_;rw[if_pos h];refine⟨_,λd h=>?_,u _ s⟩;unfold Oper.quietAt execOp;simp only[o,p,q,Sem.run_bind,Sem.run_pure,Result.andThen_ok,r d h];exact⟨fX,fX⟩
def pg{d}{e:Array Oper}{b}{f:Act->Prop}{a:Oper}{rest:List Oper}{c:Act}(i:a.guard=fj)(g:TypeId)(x)(j:a.op=.load g x)(h)(k:c.eval x=(ie h))
  (cs:Array fu)(l:(loadVar g<|ii h 0).run d b=.ok (fD cs) b)(m:wpStill d e b f rest (c.put a.dst<|fD cs)):wpStill d e b f (a::rest) c:=by
 have n:Region.wanted a (yielded e c.tmps)=fm:=by simp[Region.wanted,i]
 refine wpStill_step λp o=>?_;rw[if_pos n];unfold Oper.still execOp;simp only[j,k,Instr.loadAt,Instr.sureAddr,Sem.run_bind,Sem.run_pure,Result.andThen_ok,l];exact⟨fX,o _ m⟩
theorem og{a:fq}{b d:Nat}{c f:Array fu}{t e}{fz g}(h:a.heap[b]?=fh (.cells c t fz))(i:a.heap[d]?=fh (.cells f e g))(j:t≠e):b≠d:=by
 grind
def Az (ft:kI)(b H:fq)(c:Nat)(d:Option Addr)(n h f g E:Nat)(k:TypeId)(cells:List fu)(i:DataW Unit):Prop:=
 ∃a e,gA ft H c (fh ⟨a,0,fj⟩) (n+1) e f g/\H.ownsRow 0 213 4 (fy (fh ⟨a,0,fj⟩) (n+1) e) (n+1) cells/\((fh a:Option Nat)=(Value.slice d n h).ownBlock\/b.heap.size<=a)/\
  H.ownsMap prog k (plainElem prog 29) E (n+1) i/\RH b H c E (Value.slice d n h).ownBlock
theorem IX{i f}{c}{p}{n h v a q:Nat}{A}{l:DataW Unit}{j:Array fu}{r:Lit}{Y}(nq)(d:jR ft i c p n h v a A)(s:i.ownsMap prog 208 (plainElem prog 29) a n l)
  (m:i.heap[q]?=fh (.cells j 208 (0,0)))(C:IU (i.drewN nq) f c p n h (gD A) Y)(U:keyOf prog 208 (fD j)=fh r)(V:n<400)(W:j.size=48):
  f.c c 2=fh (.map<|fh a)/\(loadVar 208<|ii q 0).run prog f.drew=.ok (fD j) f.drew/\
   fe (f.drew.ownsMap prog 208 (plainElem prog 29) a n l)/\fe (∀o,o.ownsMap prog 208 (plainElem prog 29) a (n+1) (l.put r<|.lit (.int .i64<|(n:Int)+1))->f.drew.grownBy o (fh a)->Az ft i o c p n h v a a 208 (gD A++Y) (l.put r<|.lit (.int .i64<|(n:Int)+1))):=by
 have⟨D,E,w,x,F,G,H,I,t,u⟩:=C.facts (show(i.drewN nq).heap[c]?=_ from d.at_)<|io d.row (b:=c) d.at_ (by decide);have⟨X,Z,y⟩:=pp s;have z:a≠c:=by rintro rfl;have:=d.at_;unfold gA at this;rw[y]at this;cases this
 have J:=og m d.at_ (by decide);have K:=pB s<|u a s.lt z (rv d.row y);have L:=(u _ (Array.getElem?_eq_some_iff.1 m).1 J<|io d.row m (by decide)).trans m;have M:=run_loadVar_row (P:=prog) f.drew q 208 208 j (0,0) _ L underlying208 fX (by grind [oc]);refine⟨gA.c2 w,M,K.drew,λo N g=>⟨D,E,?_,?_,F,N,⟨?_,?_,?_,Nat.le_trans t g.size,?_⟩⟩⟩;unfold gA;rw[g.block c (Nat.lt_of_lt_of_le d.at_.lt t) λe=>z (Option.some.inj e).symm];exact w;refine gg x λO Q=>(g.block O (gc x Q) ?_)
 grind [pp,rv]
 rw[g.os];exact G;rw[g.tape];exact H;rw[g.output];exact I;intro k B R S T;rw[g.block k (Nat.lt_of_lt_of_le B t) λe=>S<|Option.some.inj e];exact u k B R T
def sym (ft:kI)(f H:fq)(j:Nat)(k:Option Addr)(n h l g:Nat)(d:DataW Unit)(A:List Ob)(a:List fV)(m:Nat)(e:Ending):Prop:=
 (Below f.heap.size f H/\
  (((∃x∈a,fN x.1=fo)/\e=fF (fC #[.int .i64 0,.int .i64 1]))\/
   ((∀x∈a,fN x.1=fm)/\
    ((¬(a.map (·.1)).Nodup/\e=fF (fC #[.int .i64 0,.int .i64 6]))\/
    ((a.map (·.1)).Nodup/\16<fv a/\e=fF (fC #[.int .i64 0,.int .i64 11]))\/
    ((a.map (·.1)).Nodup/\fv a<=16/\(∃x∈a,EQ A x=fo)/\e=fF (fC #[.int .i64 0,.int .i64 13]))\/
    ((a.map (·.1)).Nodup/\fv a<=16/\(∀x∈a,EQ A x=fm)/\∃b,b.Perm a/\iD b/\
     ((5<gy A b/\e=fF (fC #[.int .i64 0,.int .i64 11]))\/
      (gy A b<=5/\Maps.has d (pj prog b)=fm/\∃c,d.atKey (pj prog b) (.lit<|.int .i64 0)=.lit (.int .i64 c)/\e=fF (fC #[.int .i64 c,.int .i64 0]))\/
      (gy A b<=5/\Maps.has d (pj prog b)=fo/\400<=n/\e=fF (fC #[.int .i64 0,.int .i64 11]))))))))\/
 ((∀x∈a,fN x.1=fm)/\(a.map (·.1)).Nodup/\fv a<=16/\(∀x∈a,EQ A x=fm)/\n<400/\∃b,b.Perm a/\iD b/\gy A b<=5/\0<=gy A b/\Maps.has d (pj prog b)=fo/\
  e=fF (fC #[.int .i64<|(n:Int)+1,.int .i64 0])/\∃i R,H.ownsRow f.heap.size 96 3 (fy (fh ⟨i,0,fj⟩) m R) m (flat b)/\
   Az ft f H j k n h l g g 208 (gD A++[.int .i64 2,fA ByteArray.empty,fy (fh ⟨i,0,fj⟩) m R,.int .i64<|gy A b]) (d.put (pj prog b)<|.lit (.int .i64<|(n:Int)+1)))
def Az.before{d e H}{f}{g}{n h i j E}{k}{cells}{l:DataW Unit}(c:Az ft e H f g n h i j E k cells l)(a:ju d e):Az ft d H f g n h i j E k cells l:=by
 have⟨o,p,q,r,s,t,b⟩:=c;refine⟨o,p,q,r,s.imp id λc=>Nat.le_trans a.size c,t,⟨b.os.trans a.os,b.tape.trans a.tape,b.output.trans a.output,Nat.le_trans a.size b.size,?_⟩⟩;intro k m u v w;rw[b.block k (Nat.lt_of_lt_of_le m a.size) u v w,a.block k m]
theorem Az.keeps{c H}{f}{g}{n h i j E}{k}{cells}{u:DataW Unit}{A}(v:Az ft c H f g n h i j E k cells u)(l:jR ft c f g n h i j A)
  {w:Array MapEntry}{x}(y:c.heap[E]?=fh (.map w x)){o}{e}{p m}{q}{r}(a:c.ownsRow o e p q m r)(z:e≠213)(B:e≠185):H.ownsRow o e p q m r:=by
 have⟨G,I,_,_,_,_,C⟩:=v;refine gg a λD d=>?_;have s:=io a (b:=f) l.at_ λe=>B e.symm;have t:=rv a y;rw[d]at s t;apply C.block D (gc a d) (λe=>s (by rw[e])) λe=>t (by rw[e]);rcases a.2 with⟨rfl,_⟩|⟨J,K,L,rfl,_,F,_⟩
 grind [Value.ownBlock]
 simp only[Value.ownBlock,Option.some.injEq]at d;subst d;exact io l.row F z
theorem Vi{A:List Ob}(k:∀c∈A,c.kind=1\/c.kind=2)(l:fv A<=400){e:fV}(d:fN e.1=fm)(a:EQ A e=fm):Fits e:=by
 have m:=xp d;unfold EQ at a;simp only[Bool.and_eq_true,Bool.not_eq_true',beq_eq_false_iff_ne,beq_iff_eq]at a;have⟨f,g⟩:=a;have hid:¬(e.2.2<1\/(fv A:Int)<e.2.2):=λh=>f<|iE h;refine⟨by unfold maxLen;omega,?_,WalkArith.wf_i64<|by omega⟩;obtain⟨b,i⟩:∃b:Nat,e.2.2=(b:Int)+1:=⟨(e.2.2-1).toNat,by omega⟩;have j:b<fv A:=by omega
 rw[i,xa j]at g
 grind [List.getElem_mem,WalkArith.wf_i64]
theorem RM(q b off m c0:Nat)(u)(n h z j)(A)(r:DataW Unit)(v:List fV)(i)(B:jR ft i q u n h z j A)(ac:i.ownsMap Tryz.prog 208 (plainElem Tryz.prog 29) j n r)
  (ad:v.length=m)(aA:b<i.heap.size)(ae:m*32<=140737488355328)(af:∀ag ah,(flat v)[ag]? = some ah->i.cell? (ii b<|off+ag)=some ah)
  (ai:∀e ∈ v,e.1.size<=maxLen)(aB:∀C ∈ A,0<=C.high/\C.high<=5)(aj:∀C ∈ A,C.kind=1\/C.kind=2):
  ik 60 #[ie q,.slice (some<|ii b off) m c0] i λe H=>sym ft i H q u n h z j r A v m e:=by
 have ak:=KZ b off m c0 v i ad aA ae af ai;go_enter Tryz.func60,Tryz.ntmps60;go_wp2_with fail;apply ak.mono;rintro e O ⟨k,⟨f,rfl⟩ | ⟨f,l,rfl⟩ | ⟨f,l,s,rfl⟩ | ⟨f,l,s,a,g,R,rfl,o,D,I⟩⟩
 ·go_wp2
  go_ret2;exact .inl ⟨k,.inl ⟨f,fX⟩⟩
 ·go_wp2
  go_ret2;exact .inl ⟨k,.inr ⟨f,.inl ⟨l,fX⟩⟩⟩
 ·go_wp2
  go_ret2;exact .inl ⟨k,.inr ⟨f,.inr<|.inl ⟨l,s,fX⟩⟩⟩
 have al:a.length=m:=by rw[o.length_eq,ad]
 have am:m<=16:=by omega
 have an:=La q g R u n h z j m A a O (B.below k) al am (gc I fX) (ks I) aB
 change Hid _ at f l s o D aj
 clear ak af ae ai;go_wp2_with fail;apply an.mono;rintro e S ⟨J,⟨w,rfl⟩ | ⟨w,E,rfl⟩ | ⟨w,E,aC,rfl⟩⟩
 ·go_wp2
  go_ret2;have⟨x,F,aD⟩:=w;exact .inl ⟨k.trans<|J.mono k.size,.inr ⟨f,.inr<|.inr (.inl ⟨l,s,⟨x,o.mem_iff.1 F,aD⟩,fX⟩)⟩⟩
 ·go_wp2
  go_ret2;exact .inl ⟨k.trans<|J.mono k.size,.inr ⟨f,.inr<|.inr (.inr ⟨l,s,λx F=>w x<|o.mem_iff.2 F,a,o,D,.inl ⟨E,fX⟩⟩)⟩⟩
 have t:ju i S:=k.trans<|J.mono k.size;have K:S.ownsRow i.heap.size 96 3 (.slice (some<|ii g 0) m R) m (flat a):=gg I λg T=>J.block g<|gc I T;have ao:=Ax g m R a S al (gc K fX) am<|ks K;have L:Hid ((kv a).size=48):=kP (by omega);clear an;go_wp2_with (first
  | (go_at_call 111;refine ao.via λd y=>?_)
  | (refine wpList_store_row fX 208 _ _ fX d.heap.size (kv a) fX fX 208 _ (heap_alloc_new d _) (by rw[L.o];exact oc) (by rw[L.o];rfl) (qa a) ?_;rw[vt]))
 have aP:=(B.below<|(t.trans (y.mono t.size)).alloc (by have:=y.size;have:=t.size;omega) (.cells (kv a) 208)).at_.c2;have U:(d.alloc<|.cells (kv a) 208).ownsMap Tryz.prog 208 (plainElem Tryz.prog 29) j n r:=(pB ac<|(t.trans (y.mono t.size)).block j ac.lt).alloc _;have V:(d.alloc<|.cells (kv a) 208).heap[d.heap.size]? = some (.cells (kv a) 208 (0,0)):=heap_alloc_new d _;have G:ju i (d.alloc<|.cells (kv a) 208):=(t.trans<|y.mono t.size).alloc (by have:=y.size;have:=t.size;omega) _;have aE:Hid ((d.alloc<|.cells (kv a) 208).ownsRow i.heap.size 96 3 (.slice (some<|ii g 0) m R) m<|flat a):=World.ownsRow.alloc (gg K λg T=>y.block g<|gc K T) _;have aF:∀e ∈ a,Fits e:=λe ap=>Vi aj (by rw[B.len];exact B.many) (f e<|o.mem_iff.1 ap)<|w e ap;have X:Hid (∀x ∈ v,EQ A x=true):=λx F=>w x<|o.mem_iff.2 F;have Y:=lg a (by omega) aF;have⟨c,aG,Z,aq⟩:=Ay (W:=λM=>(d.alloc (.cells (kv a) 208)).drewN M) (λM=>U) Y;have aH:=λM=>run_loadVar_row (P:=Tryz.prog) ((d.alloc<|.cells (kv a) 208).drewN M) d.heap.size 208 208 (kv a) (0,0) _ V Tryz.underlying208 fX (by rw[L.o];exact oc)
 go_frame
 change Hid _ at V
 generalize d.alloc (.cells (kv a) 208)=W at *;refine wp_region_quiet_lit (by kernel_rfl) (by kernel_rfl) ?_
 iterate 4 quiet_step (fail)
 apply lY fX 208 _ fX d.heap.size fX (kv a) (by grind)
 go_frame
 apply qF fX 183 _ _ true fX (.map<|some j) (.agg<|kv a) (.tuple #[fY c,.bool<|Maps.has r (pj Tryz.prog a)]) fX fX (by grind)
 go_frame
 repeat (quiet_step (fail))
 apply wpQuiet_nil;rintro _ ⟨nq,rfl⟩;have p:jR ft W q u n h z j A:=B.below G;clear aH aG ao;cases aa:Maps.has r (pj Tryz.prog a) with
 | true=>
  have N:Hid (Maps.has r (pj Tryz.prog a)=true):=aa;have aI:Hid (r.atKey (pj Tryz.prog a) (.lit<|.int .i64 0)=.lit (.int .i64 c)):=Z;clear aa Z aq;go_wp2;go_ret2;exact .inl ⟨below_drewN G _,.inr ⟨f,.inr<|.inr (.inr ⟨l,s,X,a,o,D,.inr<|.inl ⟨E,N,c,aI,fX⟩⟩)⟩⟩
 | false=>
  have N:Hid (Maps.has r (pj Tryz.prog a)=false):=aa;clear Z aq;by_cases ar:400<=n
  ·have Q:=EN q 2 (gy A a) ByteArray.empty u n h (some<|ii g 0) m R (W.drewN nq) p.at_.lt ar p.at_.c0
   go_wp2_with (go_at_call 112;refine Q.mono ?_;rintro e aJ ⟨rfl,rfl⟩);go_ret2;exact .inl ⟨(below_drewN G _).alloc (below_drewN G _).size _,.inr ⟨f,.inr<|.inr (.inr ⟨l,s,X,a,o,D,.inr<|.inr ⟨E,N,ar,fX⟩⟩)⟩⟩
  have ab:n<400:=by omega
  have au:=io p.row (b:=q) p.at_ (by decide);have Q:=EM q 2 (gy A a) ByteArray.empty u n h (gD A) (some<|ii g 0) m R (W.drewN nq) p.at_.lt ab p.at_.c0 p.at_.f0 p.row au;go_wp2_with (go_at_call 112;refine Q.via λaJ av=>?_);have⟨aQ,aK,aL,aM⟩:=IX nq p U V av Y ab L;clear av Q au;apply wp_region_still_tail 6 (by kernel_rfl) (by kernel_rfl);simp only[List.take_succ_cons,List.take_zero,List.drop_succ_cons,List.drop_zero]
  iterate 4 still_step
  apply pg fX 208 _ fX d.heap.size fX (kv a) aK
  go_frame
  still_step
  apply wpStill_nil;refine wpList_mapUpdate_own _ fX _ _ _ 183 fX 208 29 EW Tryz.underlying183 _ j n _ fX aL (by unfold maxLen;omega) _ _ _ fX fX Y _ [] (plainElem_int Tryz.underlying29<|WalkArith.wf_i64 (by omega)) ?_;intro aw ax ay;have az:Hid (Az ft W aw q u n h z j j 208 (gD A ++ [fY 2,.string ByteArray.empty,.slice (some<|ii g 0) m R,fY<|gy A a])<|r.put (pj Tryz.prog a) (.lit<|.int .i64 ((n:Int)+1))):=aM aw ax ay;clear ax ay;go_wp2;go_ret2;have⟨aR,aS,aN⟩:=pp U;have aO:W.ownsRow i.heap.size 96 3 (.slice (some<|ii g 0) m R) m (flat a):=aE.o;exact .inr ⟨f,l,s,X,ab,a,o,D,E,aC,N,fX,g,R,az.keeps p aN aO (by decide)<|by decide,az.before G⟩
