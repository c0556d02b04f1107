/- A part of the proof. -/
import Derived.Shelf.Strings.OnBuilder
import Derived.Shelf.Small.Strs
import Derived.Shelf.Strings.BuilderK
import Derived.Shelf.Strconv.Clone
import Derived.Shelf.Strings.Shaped
import Derived.Shelf.SlSortCmp.SmallK
import Derived.Shelf.SlicesE.Clone
import Derived.Test.YtlgidcmmgohagaaGreatProg
import Derived.WalkSpells
import Derived.WalkLawsBesides
import Derived.Deep.RegionLawGrows
import Derived.Sort.OwnSorted
import Derived.Laws.CopyOwn
import Derived.DeepKeys4
import Derived.StillTailTactics
import Derived.Shelf.SlSortCmp.NoneTotal
set_option linter.all false
namespace Go.RowKit
theorem Hid.o {p:Prop} (h:Hid p):p:=h
end Go.RowKit
namespace Go
abbrev World.z (w:World):Nat:=w.heap.size
abbrev World.c (w:World)(b o:Nat):Option Value:=w.cell? ⟨b,o,none⟩
def Calls.via {P:Program}{f:FuncId}{a:Array Value}{w:World}{v:Value}{R:World->Prop}{Q:Ending->World->Prop}(h:Calls P f a w λe J=>e=.returned v/\R J)(k:∀J,R J->Q (.returned v) J):Calls P f a w Q:=h.mono λ_ J⟨he,hr⟩=>he▸k J hr
def Calls.still {P:Program}{f:FuncId}{a:Array Value}{w:World}{v:Value}{Q:Ending->World->Prop}(h:Calls P f a w λe J=>e=.returned v/\J=w)(k:Q (.returned v) w):Calls P f a w Q:=h.mono λ_ _⟨he,hw⟩=>he▸hw▸k
def oX {α:Sort _}(a:α):∃x,x=a:=⟨a,rfl⟩
def fX {α:Sort _}{a:α}:a=a:=rfl
def Hc {p:Prop}(h:p):RowKit.Hid p:=h
def Au {α:Type _}{x:Option α}{a b:α}(h:x=some a)(e:a=b):x=some b:=e▸h
abbrev World.k (w:World)(a:Array Value)(t:TypeId):World:=w.alloc<|.cells a t
end Go
namespace List
abbrev l {α:Type} (x:List α):Nat:=x.length
end List
namespace Go.Proofs.YtlgidcmmgohagaaGreat
open Go.RowKit
abbrev ii (b:Nat):Value:=.pointer<|some ⟨b,0,none⟩
abbrev fY (x:Int):Value:=.int .i64 x
abbrev kq:ByteArray:=⟨#[]⟩
abbrev ml (a b c d e:ByteArray):Array Value:=#[.string a,.string b,.string c,.string d,.string e]
abbrev ie (b o:Nat):Addr:=⟨b,o,none⟩
abbrev ju (w J:World):Prop:=Below w.heap.size w J
abbrev vd (v:Value)(w:World):Ending->World->Prop:=λe J=>e=.returned v/\Below w.heap.size w J
abbrev UV (v:Value)(a:World):Ending->World->Prop:=λe J=>e=.returned v/\J=a
abbrev ik (b:Nat)(a:Array Value)(w:World)(c:Ending->World->Prop):Prop:=Calls Tryz.prog b a w c
abbrev hZ (s:ByteArray):Value:=.string s
abbrev qr (a:Array Value):Ending:=.returned<|.tuple a
abbrev my (b a n c:Nat):Value:=.slice (some ⟨b,a,none⟩) n c
abbrev zyK (a:World)(b c:Nat)(d:Value):Prop:=a.cell? ⟨b,c,none⟩=some d
end Go.Proofs.YtlgidcmmgohagaaGreat
namespace Go.Proofs.YtlgidcmmgohagaaGreat
open Go.RowKit Go.Sort Go.Shelf Go.Proofs.Tryz
open Go.Value renaming slice->fy,string->fA,pointer->fB,tuple->fC,agg->fD,bool->fE
open Go.Ending renaming returned->fF
open Option renaming some->fh,none->fj
open Bool renaming true->fm,false->fo
open Go renaming World->fq,Value->fu
open List renaming length->fv,reverse->fx
open Go.RowKit renaming Hid->fe
abbrev fQ:=List ByteArray
abbrev fO:=ByteArray
abbrev iD:=Option Addr
abbrev gX:=List Value
abbrev ni:=TypeId
theorem nz:type_of% @Nat.lt_of_lt_of_le:=@Nat.lt_of_lt_of_le
def km:=@if_neg
def lw:=@Nat.le_refl
def lv:=@if_pos
theorem yv:type_of% @decide_eq_false:=@decide_eq_false
def Fr:=@Nat.zero_le
def ww:=@Nat.le_trans
theorem jG:type_of% @List.getElem?_eq_getElem:=@List.getElem?_eq_getElem
theorem vv:type_of% @List.take_succ_eq_append_getElem:=@List.take_succ_eq_append_getElem
theorem kK:type_of% @List.getElem_mem:=@List.getElem_mem
theorem mi:type_of% @Below.refl:=@Below.refl
def wy:=@Option.bind_some
theorem lH:type_of% @Array.getElem?_eq_some_iff:=@Array.getElem?_eq_some_iff
def tB:=@Calls.still
theorem lI:type_of% @List.length_append:=@List.length_append
def Ps:=@Calls.mono
theorem wI:type_of% @List.getElem?_eq_some_iff:=@List.getElem?_eq_some_iff
theorem pW:type_of% @Option.some.injEq:=@Option.some.injEq
def Hk:=@Calls.via
theorem qD:type_of% @List.prefix_append:=@List.prefix_append
theorem sI:type_of% @Below.heap_setCell:=@Below.heap_setCell
theorem oL:type_of% @List.length_map:=@List.length_map
def qA:=@Option.map_some
theorem wJ:type_of% @World.cell?_of_block:=@World.cell?_of_block
theorem sP:type_of% @List.append_assoc:=@List.append_assoc
theorem sQ:type_of% @List.prefix_refl:=@List.prefix_refl
theorem iE:type_of% @decide_eq_true:=@decide_eq_true
def jY:=@World.ownsRow_nil
def jI:=@Option.getD_some
theorem oM:type_of% @List.take_of_length_le:=@List.take_of_length_le
theorem kL:type_of% @List.reverse_cons:=@List.reverse_cons
def Ha:=@Nat.le_succ
theorem kT:type_of% @List.length_take:=@List.length_take
theorem lg:type_of% @List.length_cons:=@List.length_cons
theorem pq:type_of% @Array.length_toList:=@Array.length_toList
theorem yM:type_of% @List.findIdx?_eq_some_iff_getElem:=@List.findIdx?_eq_some_iff_getElem
def iR:=@Nat.zero_add
theorem wz:type_of% @List.getElem?_append_left:=@List.getElem?_append_left
def jf:=@below_drewN
theorem om:type_of% @List.mem_singleton:=@List.mem_singleton
def lJ:=@List.append_nil
theorem wA:type_of% @List.getElem?_eq_none:=@List.getElem?_eq_none
theorem oN:type_of% @List.mem_cons_self:=@List.mem_cons_self
def lK:=@Value.slice.inj
theorem oO:type_of% @heap_alloc_new:=@heap_alloc_new
def jC:=@List.mem_map
theorem rI:type_of% @List.getElem_of_mem:=@List.getElem_of_mem
def oP:=@Decidable.not_not
def yN:=@List.getD_eq_getElem?_getD
def rJ:=@World.ownsRow.alloc
theorem BX:type_of% @List.getElem?_append_right:=@List.getElem?_append_right
def nZ:=@List.map_append
def uo:=@List.reverse_reverse
def wB:=@List.dropLast_concat
def lM:=@List.map_cons
def Def:=@underlying55
theorem qI:type_of% @Int.toNat_natCast:=@Int.toNat_natCast
theorem rK:type_of% @Option.some.inj:=@Option.some.inj
theorem sJ:type_of% @List.pairwise_cons:=@List.pairwise_cons
theorem rL:type_of% @List.length_drop:=@List.length_drop
def wC:=@List.mem_cons_of_mem
def oa:=@bodyPost_ret
def kM:=@info_parts
def oc:=@List.mem_cons
theorem sK:type_of% @Below.heap_alloc:=@Below.heap_alloc
def abS:=@underlying29
def qJ:=@List.mem_append
theorem sL:type_of% @List.take_length:=@List.take_length
theorem MU:type_of% @List.getElem?_take_of_lt:=@List.getElem?_take_of_lt
def rls:=@underlying9
theorem Av:type_of% @ByteArray.toList_eq:=@ByteArray.toList_eq
def BZ:=@List.size_toArray
def MV:=@Nat.lt_of_succ_lt
theorem DX:type_of% @List.length_eq_zero_iff:=@List.length_eq_zero_iff
def wK:=@List.pairwise_map
theorem Aw:type_of% @List.mem_of_mem_take:=@List.mem_of_mem_take
def KQ:=@List.eq_nil_of_length_eq_zero
def Ca:=@List.length_singleton
def wL:=@List.mem_flatMap
def Cb:=@of_decide_eq_true
def yO:=@wpList_append_own
def yP:=@List.getElem_map
theorem Hv:type_of% @List.mem_of_find?_eq_some:=@List.mem_of_find?_eq_some
def ED:=@Array.getElem?_modify
def tW:=@List.getD_nil
theorem EE:type_of% @Option.map_eq_some_iff:=@Option.map_eq_some_iff
theorem zu:type_of% @World.size_alloc:=@World.size_alloc
def Cc:=@Calls.quiet_of_same
theorem DY:type_of% @List.mem_map_of_mem:=@List.mem_map_of_mem
theorem Hw:type_of% @List.append_cancel_left:=@List.append_cancel_left
theorem KR:type_of% @List.drop_eq_getElem_cons:=@List.drop_eq_getElem_cons
def Rh:=@List.pairwise_iff_getElem
def aeq:=@underlying208
theorem zv:type_of% @IntKind.wrap_i64:=@IntKind.wrap_i64
def EF:=@beq_eq_false_iff_ne
def wD:=@Below.setCell
def Hx:=@List.getElem_cons_zero
theorem vw:type_of% @Prod.mk.injEq:=@Prod.mk.injEq
theorem KS:type_of% @List.getElem_append_left:=@List.getElem_append_left
theorem EG:type_of% @List.getElem?_set_ne:=@List.getElem?_set_ne
theorem EH:type_of% @Nat.mul_le_mul_right:=@Nat.mul_le_mul_right
def KT:=@List.ext_getElem?
def bit:=@underlying3
theorem zw:type_of% @List.length_nil:=@List.length_nil
theorem yQ:type_of% @List.drop_left:=@List.drop_left
def hyz:=@World.cell?_alloc_past
def Ce:=@List.cons.injEq
def Ax:=@List.mem_filter
def DZ:=@World.drewN_drewN
def ble:=@wpList_lookup_own_ok_int
def abT:=@underlying131
def abU:=@underlying106
theorem KU:type_of% @List.take_append_drop:=@List.take_append_drop
def Ri:=@Option.ne_none_iff_exists'
def MW:=@List.drop_succ_cons
def KV:=@List.getLast_concat
def Hy:=@List.length_reverse
def Ea:=@List.cons_append
def EI:=@Bool.and_eq_true
def Eb:=@List.drop_zero
def wE:=@Int.le_refl
theorem Rj:type_of% @World.frozen?_of_block:=@World.frozen?_of_block
theorem Rk:type_of% @of_decide_eq_false:=@of_decide_eq_false
def aer:=@underlying182
theorem Ec:type_of% @List.take_left':=@List.take_left'
def Wl:=@ByteArray.size_append
theorem KW:type_of% @List.map_congr_left:=@List.map_congr_left
def Hz:=@decide_eq_true_eq
theorem HA:type_of% @Nat.le_succ_of_le:=@Nat.le_succ_of_le
def aes:=@underlying174
theorem Wm:type_of% @List.drop_eq_nil_of_le:=@List.drop_eq_nil_of_le
theorem Rl:type_of% @List.getElem?_set_self:=@List.getElem?_set_self
def HL:=@List.nil_append
theorem HP:type_of% @Nat.min_eq_left:=@Nat.min_eq_left
def HV:=@List.foldl_cons
theorem Wn:type_of% @List.findIdx?_eq_none_iff:=@List.findIdx?_eq_none_iff
theorem blt:type_of% @WalkArith.wf_i64:=@WalkArith.wf_i64
def Wo:=@List.take_succ_cons
def Wp:=@Array.getElem?_toList
def rlv:=@WideMaps.keyOf_string_mk
def Rm:=@List.length_replicate
def MX:=@List.flatMap_cons
theorem bol:type_of% @List.prefix_append_right_inj:=@List.prefix_append_right_inj
def MZ:=@List.take_zero
theorem bot:type_of% @heap_alloc2_old:=@heap_alloc2_old
def Wq:=@List.getElem?_drop
def aet:=@underlying204
theorem Ws:type_of% @List.mem_of_mem_drop:=@List.mem_of_mem_drop
def Rn:=@List.mem_append_left
def Cf:=@List.map_nil
theorem EJ:type_of% @setRow_other:=@setRow_other
def bwd:=@ByteArray.data_extract
def bws:=@wp_region_quiet_lit
def hy2:=@Result.andThen_ok
def Ro:=@List.getElem_append
theorem Ed:type_of% @List.map_map:=@List.map_map
def Wt:=@List.mem_append_right
theorem Wu:type_of% @heap_alloc2_new:=@heap_alloc2_new
def Ee:=@Nat.add_zero
def Ef:=@Nat.le_of_lt
def rop:=@ntmps20
def Wv:=@List.cons_prefix_cons
def abV:=@underlying161
def rrs:=@World.frozen?_alloc_past
def aeu:=@underlying162
def KX:=@setRow_heap
theorem Cg:type_of% @Lib.size_eq:=@Lib.size_eq
def Rp:=@List.mem_range
def EK:=@Nat.sub_self
theorem EL:type_of% @Nat.le_of_eq:=@Nat.le_of_eq
def Na:=@List.find?_cons
theorem Ww:type_of% @List.length_pos_iff:=@List.length_pos_iff
def rts:=@func20
theorem cat:type_of% @Option.map_eq_none_iff:=@Option.map_eq_none_iff
def aev:=@underlying5
def cbv:=@List.singleton_append
theorem Wx:type_of% @List.map_take:=@List.map_take
def cex:=@MapKept.stamped_empty
def rws:=@underlying121
def cfg:=@Nat.lt_of_lt_of_eq
def Nb:=@Option.or_none
def sat:=@wp_region_still_tail
def Den:=@wpList_mapUpdate_own
theorem cin:type_of% @Maps.atKey_put_other:=@Maps.atKey_put_other
def cls:=@List.mem_of_getElem?
def clz:=@wpList_append_own_at
def Rq:=@Nat.not_lt_zero
def cmd:=@List.foldl_append
def hBg:=@Option.isSome_iff_exists
def aew:=@zeroValue3
def aex:=@zeroValue9
def Wy:=@heap_setCell_same
def Nc:=@Nat.lt_trans
theorem cmn:type_of% @Maps.atKey_put_same:=@Maps.atKey_put_same
theorem cnf:type_of% @List.reverse_inj:=@List.reverse_inj
def scc:=@List.take_append_of_le_length
def hBw:=@wpList_make_full
def Wz:=@List.getElem_set
def WA:=@Option.getD_none
def aey:=@underlying4
def coe:=@run_underlying
theorem hBN:type_of% @ByteArray.size_extract:=@ByteArray.size_extract
theorem hBW:type_of% @List.drop_of_length_le:=@List.drop_of_length_le
def col:=@List.findIdx?_cons
def aez:=@underlying147
def WC:=@List.nodup_cons
def Dom:=@List.length_filter_lt_length_iff_exists
def hEq:=@List.findSome?_append
def hId:=@Sem.run_bind
def hIn:=@Sem.run_pure
def aeA:=@zeroValue5
def aeB:=@zeroValue4
def aeC:=@UInt8.lt_iff_toNat_lt
def Rs:=@ByteArray.ext
theorem scp:type_of% @List.findSome?_eq_none_iff:=@List.findSome?_eq_none_iff
theorem sec:type_of% @List.getElem_concat_length:=@List.getElem_concat_length
def abW:=@List.getElem?_take_eq_none
theorem hI0:type_of% @List.replicate_succ':=@List.replicate_succ'
def hJ0:=@List.pairwise_append
def hLO:=@Lib.byteCells_length
def seg:=@World.cell?_setCell_other
def WD:=@DataW.trod_int
def abX:=@Array.getElem?_eq_getElem
def cop:=@Nat.le_add_right
def abY:=@wpList_store_row
def cos:=@List.ext_getElem
def WE:=@wpQuiet_nil
def hMs:=@List.replicate_zero
def cpu:=@wpList_plain
theorem Rt:type_of% @Nat.succ_mul:=@Nat.succ_mul
def Ru:=@Addr.add_lit
def aeD:=@sizeOf3
def aeE:=@sizeOf9
def Dup:=@run_loadVar_row
def aeF:=@underlying183
def DNS:=@plainElem_int
def hNe:=@Maps.has_put_other
def crc:=@UInt8.toNat_inj
theorem EM:type_of% @Prod.ext:=@Prod.ext
theorem hOr:type_of% @List.find?_eq_none:=@List.find?_eq_none
def sev:=@List.getElem?_cons_zero
def aeG:=@ntmps123
def Eg:=@and_true
def Env:=@Bool.false_eq_true
def hPa:=@List.getElem?_take
theorem cse:type_of% @List.drop_left':=@List.drop_left'
def hPQ:=@Nat.lt_of_le_of_lt
def aeH:=@ntmps129
def aeI:=@underlying265
def aeJ:=@underlying269
theorem sig:type_of% @List.prefix_concat_iff:=@List.prefix_concat_iff
theorem sin:type_of% @List.find?_cons_of_pos:=@List.find?_cons_of_pos
theorem sle:type_of% @List.find?_cons_of_neg:=@List.find?_cons_of_neg
def slt:=@run_append_own_at
theorem hQa:type_of% @Maps.has_put_same:=@Maps.has_put_same
def aeK:=@underlying59
def hRS:=@List.getElem?_map
def hTe:=@World.cells?_some
def aeL:=@isAgg3
def aeM:=@isAgg9
def css:=@Option.map_map
def aeN:=@results90
def ss1:=@World.frozen?_setCell
def Era:=@AnyE.slices_Clone_nil
theorem WH:type_of% @Nat.lt_or_ge:=@Nat.lt_or_ge
def WI:=@List.set_set
def aeO:=@func123
def aeP:=@sizeOf5
def aeQ:=@sizeOf4
def aeR:=@func129
def ss2:=@List.append_inj_left'
def stk:=@List.pairwise_flatMap
theorem stM:type_of% @Array.toList_inj:=@Array.toList_inj
def hX1:=@List.drop_length
def hYs:=@DataW.held.injEq
def iff:=@List.any_eq_true
theorem ifs:type_of% @Nat.min_le_right:=@Nat.min_le_right
def aeS:=@underlying0
def Eta:=@Array.toArray_toList
def st1:=@World.ownsRow.stored
def st2:=@World.cell?_alloc_lt
def Ext:=@Array.getElem_toList
def ctz:=@List.sum_cons
def igi:=@Nat.lt_irrefl
def aeT:=@ntmps125
def aeU:=@ntmps101
theorem WJ:type_of% @decide_true:=@decide_true
def ihi:=@Option.map_none
def ihn:=@List.nil_prefix
theorem sup:type_of% @List.reverse_append:=@List.reverse_append
def WK:=@Below.alloc
theorem ih1:type_of% @Nat.min_le_left:=@Nat.min_le_left
def aeV:=@isAgg5
def aeW:=@zeroValue0
def aeX:=@isAgg4
def aeY:=@results136
def abZ:=@underlying153
def swo:=@Nat.eq_zero_or_pos
def cwd:=@Nat.zero_mul
def aeZ:=@ntmps63
def Fix:=@Option.isSome_none
def ae0:=@func125
def ae1:=@func101
def WL:=@wpAny_take
def ih2:=@List.cons.inj
def sym:=@wpStill_nil
def ae2:=@func63
def ih3:=@ntmps204
def ab0:=@Nat.add_assoc
def FFI:=@heap_grow_old
def Gcd:=@alloc_eq_grow
def ae3:=@ntmps193
def ae4:=@ntmps136
def ae5:=@ntmps103
def ae6:=@ntmps195
def ae7:=@ntmps141
def dat:=@if_true
def day:=@if_false
end Go.Proofs.YtlgidcmmgohagaaGreat
namespace Go.Proofs
open Go.Shelf
def Tryz.Nf:Go.Shelf.Ren:=⟨λ|106=>191|213=>218|265=>247|n=>n,λ|9=>9|3=>3|n=>n,λ|n=>n⟩
def Tryz.aan:Go.Proofs.Lays.n106 Tryz.prog Tryz.Nf:={
 mixed:=by kernel_rfl
 f106:=Tryz.func191.trans (congrArg some<|by kernel_rfl)
 f213:=Tryz.func218.trans (congrArg some<|by kernel_rfl)
 f265:=Tryz.func247.trans (congrArg some<|by kernel_rfl)
 t3:=Tryz.underlying3
 a3:=Tryz.isAgg3
 z3:=Tryz.sizeOf3
 v3:=Tryz.zeroValue3
 t9:=Tryz.underlying9
 a9:=Tryz.isAgg9
 z9:=Tryz.sizeOf9
 v9:=Tryz.zeroValue9 }
open Go.RowKit in
def Tryz.strings_Compare(a b:ByteArray)(w:World):
  Calls Tryz.prog 191 #[.string a,.string b] w λe J=>e=.returned (.int .i64<|Lib.compareBytes a.data.toList b.data.toList)/\J=w:=Any.strings_Compare Tryz.aan a b w
def Tryz.Ng:Go.Shelf.Ren:=⟨λ|137=>185|217=>216|266=>246|n=>n,λ|9=>9|5=>5|3=>3|n=>n,λ|n=>n⟩
def Tryz.aao:Go.Proofs.Lays.n137 Tryz.prog Tryz.Ng:={
 mixed:=by kernel_rfl
 f137:=Tryz.func185.trans (congrArg some<|by kernel_rfl)
 f217:=Tryz.func216.trans (congrArg some<|by kernel_rfl)
 f266:=Tryz.func246.trans (congrArg some<|by kernel_rfl)
 t3:=Tryz.underlying3
 a3:=Tryz.isAgg3
 z3:=Tryz.sizeOf3
 v3:=Tryz.zeroValue3
 t5:=Tryz.underlying5
 a5:=Tryz.isAgg5
 z5:=Tryz.sizeOf5
 v5:=Tryz.zeroValue5
 t9:=Tryz.underlying9
 a9:=Tryz.isAgg9
 z9:=Tryz.sizeOf9
 v9:=Tryz.zeroValue9 }
open Go.RowKit in
def Tryz.strings_IndexByte(s:ByteArray)(c:Int)(w:World):
  Calls Tryz.prog 185 #[.string s,.int .u8 c] w λe J=>e=.returned (.int .i64<|Lib.indexByte s.data.toList c.toNat.toUInt8)/\J=w:=Any.strings_IndexByte Tryz.aao s c w
def Tryz.KY:Go.Shelf.Ren:=⟨λ|316=>186|n=>n,λ|9=>9|3=>3|4=>4|37=>204|0=>0|127=>310|5=>5|n=>n,λ|n=>n⟩
def Tryz.aad:Go.Proofs.LaysM.n316 Tryz.prog Tryz.KY:={
 mixed:=by kernel_rfl
 f316:=Tryz.func186.trans (congrArg some<|by kernel_rfl)
 t0:=Tryz.underlying0
 a0:=Tryz.isAgg0
 z0:=Tryz.sizeOf0
 v0:=Tryz.zeroValue0
 t3:=Tryz.underlying3
 a3:=Tryz.isAgg3
 z3:=Tryz.sizeOf3
 v3:=Tryz.zeroValue3
 t4:=Tryz.underlying4
 a4:=Tryz.isAgg4
 z4:=Tryz.sizeOf4
 v4:=Tryz.zeroValue4
 t9:=Tryz.underlying9
 a9:=Tryz.isAgg9
 z9:=Tryz.sizeOf9
 v9:=Tryz.zeroValue9
 t37:=Tryz.underlying204
 a37:=Tryz.isAgg204
 z37:=Tryz.sizeOf204
 v37:=Tryz.zeroValue204
 t127:=Tryz.underlying310
 a127:=Tryz.isAgg310
 z127:=Tryz.sizeOf310
 v127:=Tryz.zeroValue310
 t5:=Tryz.underlying5
 a5:=Tryz.isAgg5
 z5:=Tryz.sizeOf5
 v5:=Tryz.zeroValue5
 i0:=by kernel_rfl
 i3:=by kernel_rfl
 i4:=by kernel_rfl
 i5:=by kernel_rfl
 i9:=by kernel_rfl
 i37:=by kernel_rfl
 i127:=by kernel_rfl }
open Go.RowKit in
def Tryz.stringslite_Clone(s:ByteArray)(w:World)(ab1:s.size<=281474976710656):
  Calls Tryz.prog 186 #[.string s] w λe J=>e=.returned (.string s)/\Below w.heap.size w J:=Any.stringslite_Clone Tryz.aad s w ab1
def Tryz.Nh:Go.Shelf.Ren:=⟨λ|217=>216|266=>246|n=>n,λ|9=>9|5=>5|3=>3|n=>n,λ|n=>n⟩
def Tryz.aap:Go.Proofs.Lays.n217 Tryz.prog Tryz.Nh:={
 mixed:=by kernel_rfl
 f217:=Tryz.func216.trans (congrArg some<|by kernel_rfl)
 f266:=Tryz.func246.trans (congrArg some<|by kernel_rfl)
 t3:=Tryz.underlying3
 a3:=Tryz.isAgg3
 z3:=Tryz.sizeOf3
 v3:=Tryz.zeroValue3
 t5:=Tryz.underlying5
 a5:=Tryz.isAgg5
 z5:=Tryz.sizeOf5
 v5:=Tryz.zeroValue5
 t9:=Tryz.underlying9
 a9:=Tryz.isAgg9
 z9:=Tryz.sizeOf9
 v9:=Tryz.zeroValue9 }
open Go.RowKit Go.Lib in
def Tryz.stringslite_IndexByte(s:ByteArray)(c:Int)(w:World):
  Calls Tryz.prog 216 #[.string s,.int .u8 c] w λe J=>e=.returned (.int .i64<|Lib.indexByte s.data.toList c.toNat.toUInt8)/\J=w:=Any.stringslite_IndexByte Tryz.aap s c w
def Tryz.WM:Go.Shelf.Ren:=⟨λ|6=>171|15=>208|14=>209|28=>233|29=>234|20=>235|21=>236|22=>237|23=>238|24=>239|25=>240|26=>241|27=>242|46=>255|47=>251|48=>252|49=>256|50=>257|57=>264|n=>n,λ|22=>55|24=>96|25=>264|3=>3|39=>301|0=>0|53=>323|55=>325|4=>4|46=>317|45=>316|50=>232|5=>5|9=>9|66=>332|70=>336|76=>350|77=>98|n=>n,λ|n=>n⟩
def Tryz.aaz:Go.Proofs.SlLaysF0.n6 Tryz.prog Tryz.WM:={
 mixed:=by kernel_rfl
 f6:=⟨Tryz.f171.name,by decide,Au Tryz.func171<|by kernel_rfl⟩
 f14:=⟨Tryz.f209.name,by decide,Au Tryz.func209<|by kernel_rfl⟩
 f15:=Tryz.func208.trans (congrArg some<|by kernel_rfl)
 f20:=⟨Tryz.f235.name,by decide,Au Tryz.func235<|by kernel_rfl⟩
 f21:=⟨Tryz.f236.name,by decide,Au Tryz.func236<|by kernel_rfl⟩
 f22:=⟨Tryz.f237.name,by decide,Au Tryz.func237<|by kernel_rfl⟩
 f23:=⟨Tryz.f238.name,by decide,Au Tryz.func238<|by kernel_rfl⟩
 f24:=⟨Tryz.f239.name,by decide,Au Tryz.func239<|by kernel_rfl⟩
 f25:=⟨Tryz.f240.name,by decide,Au Tryz.func240<|by kernel_rfl⟩
 f26:=⟨Tryz.f241.name,by decide,Au Tryz.func241<|by kernel_rfl⟩
 f27:=⟨Tryz.f242.name,by decide,Au Tryz.func242<|by kernel_rfl⟩
 f28:=Tryz.func233.trans (congrArg some<|by kernel_rfl)
 f29:=Tryz.func234.trans (congrArg some<|by kernel_rfl)
 f46:=⟨Tryz.f255.name,by decide,Au Tryz.func255<|by kernel_rfl⟩
 f47:=Tryz.func251.trans (congrArg some<|by kernel_rfl)
 f48:=Tryz.func252.trans (congrArg some<|by kernel_rfl)
 f49:=⟨Tryz.f256.name,by decide,Au Tryz.func256<|by kernel_rfl⟩
 f50:=⟨Tryz.f257.name,by decide,Au Tryz.func257<|by kernel_rfl⟩
 f57:=⟨Tryz.f264.name,by decide,Au Tryz.func264<|by kernel_rfl⟩
 t0:=Tryz.underlying0
 a0:=Tryz.isAgg0
 z0:=Tryz.sizeOf0
 v0:=Tryz.zeroValue0
 t3:=Tryz.underlying3
 a3:=Tryz.isAgg3
 z3:=Tryz.sizeOf3
 v3:=Tryz.zeroValue3
 t4:=Tryz.underlying4
 a4:=Tryz.isAgg4
 z4:=Tryz.sizeOf4
 v4:=Tryz.zeroValue4
 t5:=Tryz.underlying5
 a5:=Tryz.isAgg5
 z5:=Tryz.sizeOf5
 v5:=Tryz.zeroValue5
 t9:=Tryz.underlying9
 a9:=Tryz.isAgg9
 z9:=Tryz.sizeOf9
 v9:=Tryz.zeroValue9
 t22:=Tryz.underlying55
 a22:=Tryz.isAgg55
 z22:=Tryz.sizeOf55
 v22:=Tryz.zeroValue55
 t25:=Tryz.underlying264
 a25:=Tryz.isAgg264
 z25:=Tryz.sizeOf264
 v25:=Tryz.zeroValue264
 t39:=Tryz.underlying301
 a39:=Tryz.isAgg301
 z39:=Tryz.sizeOf301
 v39:=Tryz.zeroValue301
 t45:=Tryz.underlying316
 a45:=Tryz.isAgg316
 z45:=Tryz.sizeOf316
 v45:=Tryz.zeroValue316
 t46:=Tryz.underlying317
 a46:=Tryz.isAgg317
 z46:=Tryz.sizeOf317
 v46:=Tryz.zeroValue317
 t50:=Tryz.underlying232
 a50:=Tryz.isAgg232
 z50:=Tryz.sizeOf232
 v50:=Tryz.zeroValue232
 t53:=Tryz.underlying323
 a53:=Tryz.isAgg323
 z53:=Tryz.sizeOf323
 v53:=Tryz.zeroValue323
 t55:=Tryz.underlying325
 a55:=Tryz.isAgg325
 z55:=Tryz.sizeOf325
 v55:=Tryz.zeroValue325
 t66:=Tryz.underlying332
 a66:=Tryz.isAgg332
 z66:=Tryz.sizeOf332
 v66:=Tryz.zeroValue332
 t70:=Tryz.underlying336
 a70:=Tryz.isAgg336
 z70:=Tryz.sizeOf336
 v70:=Tryz.zeroValue336
 t76:=Tryz.underlying350
 a76:=Tryz.isAgg350
 z76:=Tryz.sizeOf350
 v76:=Tryz.zeroValue350
 t77:=Tryz.underlying98
 a77:=Tryz.isAgg98
 z77:=Tryz.sizeOf98
 v77:=Tryz.zeroValue98 }
def Tryz.Rv:Go.Shelf.Ren:=⟨λ|41=>170|n=>n,λ|22=>55|23=>96|4=>4|n=>n,λ|n=>n⟩
def Tryz.Rw:Go.Proofs.SlLaysE0.n41 Tryz.prog Tryz.Rv:={
 mixed:=by kernel_rfl
 f41:=⟨Tryz.f170.name,by decide,Au Tryz.func170<|by kernel_rfl⟩
 t4:=Tryz.underlying4
 a4:=Tryz.isAgg4
 z4:=Tryz.sizeOf4
 v4:=Tryz.zeroValue4
 t22:=Tryz.underlying55
 a22:=Tryz.isAgg55
 z22:=Tryz.sizeOf55
 v22:=Tryz.zeroValue55 }
def Tryz.Rx:Go.Shelf.Ren:=⟨λ|41=>201|n=>n,λ|22=>59|23=>29|4=>4|n=>n,λ|n=>n⟩
def Tryz.aae:Go.Proofs.SlLaysE0.n41 Tryz.prog Tryz.Rx:={
 mixed:=by kernel_rfl
 f41:=⟨Tryz.f201.name,by decide,Au Tryz.func201<|by kernel_rfl⟩
 t4:=Tryz.underlying4
 a4:=Tryz.isAgg4
 z4:=Tryz.sizeOf4
 v4:=Tryz.zeroValue4
 t22:=Tryz.underlying59
 a22:=Tryz.isAgg59
 z22:=Tryz.sizeOf59
 v22:=Tryz.zeroValue59 }
end Go.Proofs
namespace Go.Proofs.YtlgidcmmgohagaaGreat
open Go.RowKit Go.Sort Go.Shelf Go.Proofs.Tryz
open Go.Value renaming slice->fy,string->fA,pointer->fB,tuple->fC,agg->fD,bool->fE
open Go.Ending renaming returned->fF
open Option renaming some->fh,none->fj
open Bool renaming true->fm,false->fo
open Go renaming World->fq,Value->fu
open List renaming length->fv,reverse->fx
open Go.RowKit renaming Hid->fe
set_option maxRecDepth 100000
set_option maxHeartbeats 0
def ab2(c0 c1 c2 c3:fu)(a):(Instr.field 213 (fD #[c0,c1,c2,c3]) 0).run prog a=.ok c0 a:=by kernel_rfl
def ab3(c0 c1 c2 c3:fu)(a):(Instr.field 213 (fD #[c0,c1,c2,c3]) 1).run prog a=.ok c1 a:=by kernel_rfl
def GMT(c0 c1 c2 c3:fu)(a):(Instr.field 213 (fD #[c0,c1,c2,c3]) 2).run prog a=.ok c2 a:=by kernel_rfl
def Hyp(c0 c1 c2 c3:fu)(a):(Instr.field 213 (fD #[c0,c1,c2,c3]) 3).run prog a=.ok c3 a:=by kernel_rfl
def Ry(j b n h c:Nat)(k:Int)(d)(f:Option Addr)(el g)(i:Int)(a:fq)(l:j<a.heap.size)(m:b<a.heap.size)(o:a.cell? (ie j 0)=fh (my b 0 n h))
  (p:c<n)(q:n<=400)
  (r:a.cell? (ie b<|c*4)=fh (fY k))(s:a.cell? (ie b<|c*4+1)=fh (hZ d))(t:a.cell? (ie b<|c*4+2)=fh (fy f el g))(u:a.cell? (ie b<|c*4+3)=fh (fY i)):
  ik 113 #[ii j,fY<|(c:Int)+1] a λe J=>e=fF (fD #[fY k,hZ d,fy f el g,fY i])/\J=a.k #[fY k,hZ d,fy f el g,fY i] 213:=by
 go_enter func113,ntmps113;go_wp2;exact bodyPost_ret (v:=fD #[fY k,hZ d,fy f el g,fY i]) (by simp[results,results113,go_sem]) fX ⟨fX,fX⟩
def IV(b n h)(c:Option Addr)(id:Int)(a:fq)(d:a.c b 0=fh (fy c n h))(e:n<=400)(hid:id<1\/(n:Int)<id):
  ik 61 #[ii b,fY id] a (UV (fY 0) a):=by
 by_cases f:id<1
 case' neg=>have g:(n:Int)<id:=by omega
 all_goals
  go_enter func61,ntmps61;go_wp2;go_ret;exact⟨fX,fX⟩
def IW(f b n h c:Nat)(k:Int)(d)(g:Option Addr)(el i)(j:Int)(a:fq)(l:f<a.heap.size)(m:b<a.heap.size)(o:a.c f 0=fh (my b 0 n h))
  (t:c<n)(u:n<=400)
  (p:a.c b (c*4)=fh (fY k))(q:a.c b (c*4+1)=fh (hZ d))(r:a.c b (c*4+2)=fh (fy g el i))(s:a.c b (c*4+3)=fh (fY j)):
  ik 61 #[ii f,fY<|(c:Int)+1] a λe J=>e=fF (fY k)/\J=a.k #[fY k,hZ d,fy g el i,fY j] 213:=by
 have v:=λw l m o p q r s=>Ry f b n h c k d g el i j w l m o t u p q r s;have f0:=ab2;go_enter func61,ntmps61;go_wp2_with(go_at_call 113;refine(v _ l m o p q r s).mono ?_;rintro e J ⟨rfl,rfl⟩);go_ret;exact⟨fX,fX⟩
def dec(b n h)(c:Option Addr)(id:Int)(a:fq)(d:a.c b 0=fh (fy c n h))(e:n<=400)(hid:id<1\/(n:Int)<id):
  ik 84 #[ii b,fY id] a (UV (fC #[hZ ByteArray.empty,fY 13]) a):=by
 go_enter func84,ntmps84;go_wp2_with(go_at_call 61;refine(IV b n h c id a d e hid).still ?_);go_ret2;exact⟨fX,fX⟩
def WN(i b n h c:Nat)(k:Int)(d:ByteArray)(j:Option Addr)(el l)(m:Int)(a:fq)(o:i<a.heap.size)(f:b<a.heap.size)(p:a.cell? (ie i 0)=fh (.slice (fh<|ie b 0) n h))
  (w:c<n)(x:n<=400)
  (q:a.cell? (ie b<|c*4)=fh (fY k))(r:a.cell? (ie b<|c*4+1)=fh (.string d))(s:a.cell? (ie b<|c*4+2)=fh (.slice j el l))(t:a.cell? (ie b<|c*4+3)=fh (fY m)):
  ik 84 #[ii i,fY<|(c:Int)+1] a (vd (if k=1 then .tuple #[.string d,fY 0] else .tuple #[.string ByteArray.empty,fY 13]) a):=by
 have y:=IW i b n h c k d j el l m a o f p w x q r s t;have A:=λB o f p q r s t=>Ry i b n h c k d j el l m B o f p w x q r s t;by_cases z:k=1
 ·subst z
  rw[if_pos fX];have g:∀u v,u<a.heap.size->(a.alloc (.cells #[fY 1,.string d,.slice j el l,fY m] 213)).cell? (ie u v)=a.cell? (ie u v):=λu v g=>World.cell?_alloc_past _ _ _ g
  have f1:=ab3;go_enter func84,ntmps84;go_wp2_with (first
   | (go_at_call 61;refine y.mono ?_;rintro e J ⟨rfl,rfl⟩)
   | (go_at_call 113;refine (A _ (by simp;omega) (by simp;omega) (by rw[g _ _ o];exact p) (by rw[g _ _ f];exact q) (by rw[g _ _ f];exact r) (by rw[g _ _ f];exact s) (by rw[g _ _ f];exact t)).mono ?_;rintro e J ⟨rfl,rfl⟩))
  go_ret2;exact⟨fX,((Below.refl _ _).alloc (Nat.le_refl _) _).alloc (by simp) _⟩
 rw[if_neg z];go_enter func84,ntmps84;go_wp2_with (go_at_call 61;refine y.mono ?_;rintro e J ⟨rfl,rfl⟩);go_ret2;exact⟨fX,((Below.refl _ _).alloc (Nat.le_refl _) _)⟩
def Ni(a:fq):
  ik 59 #[] a λe J=>e=fF (fB<|fh (ie (a.heap.size+2) 0))/\J=((a.alloc<|.map #[] 0).alloc<|.map #[] 0).k #[fy fj 0 0,.map<|fh a.heap.size,.map<|fh (a.heap.size+1),fy fj 0 0,fE fo] 185:=by
 have b:=@run_makeMap prog;go_enter func59,ntmps59;go_wp2;go_ret;exact⟨fX,fX⟩
def KZ(a:fq):
  ik 25 #[] a λe J=>e=fF (fB<|fh (ie (a.heap.size+3) 0))/\J=(((a.alloc<|.map #[] 0).alloc<|.map #[] 0).k #[fy fj 0 0,.map<|fh a.heap.size,.map<|fh (a.heap.size+1),fy fj 0 0,fE fo] 185).k #[fB<|fh (ie (a.heap.size+2) 0)] 119:=by
 go_enter func25,ntmps25;go_wp2_with(go_at_call 59;refine(Ni _).mono ?_;rintro e J ⟨rfl,rfl⟩);go_ret;exact⟨fX,fX⟩
def pw{P:Program}{o:Array Oper}{a:Oper}{f:Act}{b:fq}{p:Act->fq->Prop}{s:Exit->Act->fq->Prop}{u:Prop}
  (v:a.guard=fj)(q x:Operand)(t:TypeId)(w:a.op=Op.call { callee:=Callee.builtin Builtin.append,args:=#[q,x],argTypes:=#[t,t] })
  (j)(e:TypeId)(i:TypeInfo)(z:fu)(d bytes:Nat)(y:P.underlying t=fh (.slice e))(A:P.info? e=fh i)(B:i.zero=fh z)(C:i.size=d)(D:i.bytes=bytes)(E:z.cells.size=d)(F:0<d)
  (h:fu)(n)(olds)(G:f.eval q=h)(H:b.ownsRow j e d h n olds)
  (l:Addr)(m c:Nat)(Y:List fu)(I:f.eval x=fy (fh l) m c)(K:fv Y=m*d)(L:∀r k,Y[r]?=fh k->b.cell? (l.add r)=fh k)(M:∀k∈Y,k.oneCell'=fm)
  (N:n+m<=maxLen)(O:(n+m)*bytes<=140737488355328)(Q:j<=b.heap.size)
  (R:∀g J,J.ownsRow j e d g (n+m) (olds++Y)->b.grownBy J h.ownBlock->(g.ownBlock=h.ownBlock\/g.ownBlock=fh b.heap.size)->p (f.put a.dst g) J):
  if Region.wanted a (yielded o f.tmps)=fm then Oper.wp P a f b p s else u:=by
 have S:Region.wanted a (yielded o f.tmps)=fm:=by simp[Region.wanted,v]
 rw[if_pos S];have⟨g,J,T,U,V,_,W⟩:=run_append_own_at (P:=P) b j t a.type e i z d bytes y A B C D E F h n olds H l m c Y K L M N O Q;unfold Oper.wp;simp[execOp,w,resolve,invoke,builtin,G,I,T,Result.andThen];exact R g J U V W
def den:(prog.info? 213).map (λi=>(i.zero,i.size,i.bytes))=fh (fh<|fD #[fY 0,hZ ByteArray.empty,fy fj 0 0,fY 0],4,56):=by kernel_rfl
def Rz(d:fq)(c0 c1 c2 c3:fu)(t:TypeId):∀b c,[c0,c1,c2,c3][b]?=fh c->(d.k #[c0,c1,c2,c3] t).drew.cell? (((ie d.heap.size 0):Addr).add b)=fh c:=by
 intro b c a
 match b,a with
 |0,a=>simpa [Addr.add]using a
 |1,a=>simpa [Addr.add]using a
 |2,a=>simpa [Addr.add]using a
 |3,a=>simpa [Addr.add]using a
 |b+4,a=>simp at a
theorem hh{b:fq}{c}{e}{d}{v}{n}{f}(g:b.ownsRow c e d v n f)(i:0<n):∃a h,v=fy (fh<|ie a 0) n h:=by
 rcases g.2 with⟨_,j⟩|⟨a,h,_,k,_⟩
 all_goals grind
def vz{c d:fq}{e f}{g:Option Nat}(j:((c.alloc e).alloc f).drew.grownBy d g){b:Nat}(k:b<c.heap.size)(l:fh b≠g){h:fu}{i}(m:c.cell? (ie b i)=fh h):d.cell? (ie b i)=fh h:=by
 rw[World.cell?_of_block (a:=(ie b i))<|j.block b (by simp;omega) l];show((c.alloc e).alloc f).cell? (ie b i)=_;rw[World.cell?_alloc_past _ _ _ (by simp;omega),World.cell?_alloc_past _ _ _ k,m]
def Ay{c d:fq}{e f}{g:Option Nat}(h:((c.alloc e).alloc f).drew.grownBy d g){b:Nat}(j:b<c.heap.size)(k:fh b≠g){i}(l:c.frozen? (ie b i)=fo):d.frozen? (ie b i)=fo:=by
 rw[World.frozen?_of_block (a:=(ie b i))<|h.block b (by simp;omega) k];show((c.alloc e).alloc f).frozen? (ie b i)=_;rw[World.frozen?_alloc_past _ _ _ (by simp;omega),World.frozen?_alloc_past _ _ _ j,l]
def IX (c J:fq)(f:Nat)(d:Option Addr)(n h:Nat)(g Y:List fu):Prop:=
 ∃a e b,b.ownsRow 0 213 4 (fy (fh ⟨a,0,fj⟩) (n+1) e) (n+1) (g++Y)/\(∃i j,((c.alloc i).alloc j).drew.grownBy b (Value.slice d n h).ownBlock/\((fh a:Option Nat)=(Value.slice d n h).ownBlock\/a=c.heap.size+2))/\
  J=b.setCell ⟨f,0,fj⟩ (fy (fh ⟨a,0,fj⟩) (n+1) e)
def EN(b:Nat)(k c:Int)(d)(i:Option Addr)(n h:Nat)(j)(f:Option Addr)(el g)(a:fq)(m:b<a.heap.size)(H:n<400)
  (w:a.c b 0=fh (fy i n h))(f0:a.frozen? (ie b 0)=fo)(o:a.ownsRow 0 213 4 (fy i n h) n j)(p:fh b≠(Value.slice i n h).ownBlock):
  ik 112 #[ii b,fD #[fY k,hZ d,fy f el g,fY c]] a λe J=>e=qr #[fY<|(n:Int)+1,fY 0]/\IX a J b i n h j [fY k,hZ d,fy f el g,fY c]:=by
 have⟨x,U,y,z,A⟩:=info_parts den;have q:∀r∈[Value.int .i64 k,hZ d,fy f el g,fY c],r.oneCell'=fm:=by intro r s;simp at s;rcases s with rfl|rfl|rfl|rfl<;>rfl
 have B:=o;have t:=p;have C:=q;clear o p q;go_enter func112,ntmps112;go_wp2
 go_region_law(refine pw fX (.tmp 16) (.tmp 18) 181 fX 0 213 x _ 4 56 underlying181 U y z A fX (by decide) (fy i n h) n j (by simp[Act.eval]) ((B.alloc _).alloc _) (ie (a.heap.size+1) 0) 1 1 [fY k,hZ d,fy f el g,fY c] (by simp[Act.eval]) fX (by have u:=Rz (a.k #[fY k,hZ d,fy f el g,fY c] 213) (fY k) (hZ d) (fy f el g) (fY c) 213;rw[World.size_alloc]at u;exact u) C (by unfold maxLen;omega) (by omega) (Nat.zero_le _) ?_;intro I D v l E;obtain⟨F,G,rfl⟩:=hh v (by omega);have K:=vz l m t w;have L:=Ay l m t f0)
 all_goals(go_wp2;go_ret2;exact⟨fX,F,G,D,v,⟨_,_,l,by simpa [Value.ownBlock]using E⟩,fX⟩)
theorem IX.facts{a J}{b}{c}{n h}{g Y}(l:IX a J b c n h g Y){c1 c2 c3 c4:fu}(i:a.heap[b]?=fh (.cells #[fy c n h,c1,c2,c3,c4] 185 (0,0)))(m:fh b≠(Value.slice c n h).ownBlock):
  ∃d f,J.heap[b]?=fh (.cells #[my d 0 (n+1) f,c1,c2,c3,c4] 185 (0,0))/\J.ownsRow 0 213 4 (my d 0 (n+1) f) (n+1) (g++Y)/\((fh d:Option Nat)=(Value.slice c n h).ownBlock\/a.heap.size<=d)/\
   J.os=a.os/\J.tape=a.tape/\J.output=a.output/\a.heap.size<=J.heap.size/\∀k,k<a.heap.size->k≠b->fh k≠(Value.slice c n h).ownBlock->J.heap[k]?=a.heap[k]?:=by
 obtain⟨d,f,j,o,⟨p,q,e,w⟩,rfl⟩:=l;have r:=(Array.getElem?_eq_some_iff.1 i).1;have s:∀k,k<a.heap.size->fh k≠(Value.slice c n h).ownBlock->j.heap[k]?=a.heap[k]?:=by
  intro k x t;rw[e.block k (by simp;omega) t];show((a.alloc p).alloc q).heap[k]?=_
  grind [Below.heap_alloc]
 have y:j.heap[b]?=fh (.cells #[fy c n h,c1,c2,c3,c4] 185 (0,0)):=by rw[s b r m,i]
 have z:d≠b:=by
  grind
 have u:=e.size;simp at u;refine⟨d,f,?_,?_,?_,e.os,e.tape,e.output,?_,?_⟩
 grind [World.setCell]
 have⟨v,A⟩:=o;refine⟨v,?_⟩
 grind [Below.heap_setCell]
 grind
 simp;omega
 grind [Below.heap_setCell]
def EO(b:Nat)(k c:Int)(d)(i:Option Addr)(n h:Nat)(f:Option Addr)(el g)(a:fq)(j:b<a.heap.size)(l:400<=n)
  (m:a.c b 0=fh (fy i n h)):
  ik 112 #[ii b,fD #[fY k,hZ d,fy f el g,fY c]] a λe J=>e=qr #[fY 0,fY 11]/\J=a.k #[fY k,hZ d,fy f el g,fY c] 213:=by
 go_enter func112,ntmps112;go_wp2;go_ret2;exact⟨fX,fX⟩
def xY(a:ByteArray)(b:fq)(c:a.size<=281474976710656):
  ik 130 #[hZ a] b (vd (hZ a) b):=by
 go_enter func130,ntmps130;go_wp2_with(go_at_call 186;refine(stringslite_Clone a b c).via λJ d=>?_);go_ret;exact⟨fX,d⟩
def dep:(prog.info? 133).map (λi=>(i.zero,i.size,i.bytes))=fh (fh<|fD #[hZ ByteArray.empty,fY 0],2,24):=by kernel_rfl
structure kE where
 a:Option Addr
 n:Nat
 c:Nat
 b:Bool
def pt0:kE:=⟨fj,0,0,fo⟩
variable {ft:kE}
def HY:Maps.Keyed prog 9:=Maps.string_keyed underlying9
def rM(a):(zeroValue 29).run prog a=.ok (fY 0) a:=by kernel_rfl
def gw (ft:kE)(b:fq)(c:Nat)(a:Option Addr)(n h d e:Nat):Prop:=b.heap[c]?=fh (.cells #[fy a n h,.map<|fh d,.map<|fh e,fy ft.a ft.n ft.c,fE ft.b] 185 (0,0))
def gw.c0{w}{p}{a}{n h c d}(b:gw ft w p a n h c d):w.cell? (ie p 0)=fh (fy a n h):=by unfold gw at b;simp[World.cell?,b]
def gw.c1{b}{p}{a}{n h c e}(d:gw ft b p a n h c e):b.cell? (ie p 1)=fh (.map<|fh c):=by unfold gw at d;simp[World.cell?,d]
def gw.c2{b}{p}{a}{n h e c}(d:gw ft b p a n h e c):b.cell? (ie p 2)=fh (.map<|fh c):=by unfold gw at d;simp[World.cell?,d]
def gw.f0{b}{p}{a}{n h d e}(c:gw ft b p a n h d e):b.frozen? (ie p 0)=fo:=by unfold gw at c;simp[World.frozen?,c]
def gw.lt{w}{p}{a}{n h b c}(d:gw ft w p a n h b c):p<w.heap.size:=(Array.getElem?_eq_some_iff.1 d).1
def gw.below{w J}{p}{a}{n h c d}(b:gw ft w p a n h c d)(e:ju w J):gw ft J p a n h c d:=by
 unfold gw at b |-;rw[e.block p (Array.getElem?_eq_some_iff.1 b).1,b]
def Nj(b)(d:ByteArray)(a:fq)(c:256<d.size)(e:d.size<=maxLen):
  ik 77 #[ii b,hZ d] a (UV (fC #[fY 0,fY 11]) a):=by
 go_enter func77,ntmps77;go_wp2;go_ret2;exact⟨fX,fX⟩
def Nk(f)(j)(n h e k)(a:DataW Unit)(d:ByteArray)(c:Int)(b)(l:gw ft b f j n h e k)(u:d.size<=256)
  (m:b.ownsMap prog 9 (plainElem prog 29) e n a)(g:Maps.has a (.string d.data.toList)=fm)(i:a.atKey (.string d.data.toList) (.lit<|.int .i64 0)=.lit (.int .i64 c)):
  ik 77 #[ii f,hZ d] b (UV (fC #[fY c,fY 0]) b):=by
 have v:=l.c1;have o:=WideMaps.keyOf_string_mk (P:=prog) underlying9 (s:=d) (by unfold maxLen;omega);have p:fe (a.atKey (.string d.data.toList) (.lit<|.int .i64 0)=.lit (.int .i64 c)):=i;have q:fe (Maps.has a (.string d.data.toList)=fm):=g;clear i g;go_enter func77,ntmps77;go_wp2_with(first
  |(at_lookup;refine wpList_lookup_own_ok_int _ fX _ _ 182 fX 9 29 .i64 HY underlying182 underlying29 (rM _) e n a fX m _ _ fX o ?_;intro r t w;rw[q.o];obtain rfl:r=c:=by(have:=t.symm.trans p;simpa using this))
  |go_in)
 go_ret2;exact⟨fX,fX⟩
def La(b)(f)(n h c j)(g:DataW Unit)(d:ByteArray)(a)(k:gw ft a b f n h c j)(v:d.size<=256)(p:400<=n)
  (q:a.ownsMap prog 9 (plainElem prog 29) c n g)(l:Maps.has g (.string d.data.toList)=fo):
  ik 77 #[ii b,hZ d] a (vd (fC #[fY 0,fY 11]) a):=by
 have w:=k.c1;have r:=WideMaps.keyOf_string_mk (P:=prog) underlying9 (s:=d) (by unfold maxLen;omega);have t:=λ(m:fq)(o:gw ft m b f n h c j)=>EO b 1 0 d f n h fj 0 0 m o.lt p o.c0
 change fe _ at l
 go_enter func77,ntmps77;go_wp2_with(first
  |(at_lookup;refine wpList_lookup_own_ok_int _ fX _ _ 182 fX 9 29 .i64 HY underlying182 underlying29 (rM _) c n g fX q _ _ fX r ?_;intro x y z;rw[l.o])
  |(go_at_call 130;refine(xY d a<|by omega).mono ?_;rintro e A ⟨rfl,i⟩;have u:=k.below i)
  |(go_at_call 112;refine(t _ u).mono ?_;rintro e B ⟨rfl,rfl⟩)
  |go_in)
 go_ret2;exact⟨fX,i.alloc i.size _⟩
def pC{a:Type}{P}{k}{c:fu->Option (DataW a×List MemPlace)}{d J:fq}{b n}{f:DataW a}(g:d.ownsMap P k c b n f)(e:J.heap[b]?=d.heap[b]?):J.ownsMap P k c b n f:=by
 have⟨h,i,j,l⟩:=g;exact⟨h,i,e.trans j,l⟩
theorem pu{a:Type}{P}{k}{f:fu->Option (DataW a×List MemPlace)}{c:fq}{b n}{g:DataW a}(h:c.ownsMap P k f b n g):∃d e,c.heap[b]?=fh (.map d e):=by
 have⟨d,e,i,j⟩:=h
 grind
theorem rv{a:fq}{d}{e}{f n}{c}{g}(i:a.ownsRow d e f c n g){b:Nat}{j:Array MapEntry}{k}(l:a.heap[b]?=fh (.map j k)):fh b≠c.ownBlock:=by
 rcases i.2 with⟨rfl,_⟩|⟨m,h,o,rfl,_,p,_⟩
 all_goals grind [Value.ownBlock,Option.some.injEq]
theorem il{a:fq}{f}{e}{g n}{d}{xs}(i:a.ownsRow f e g d n xs){b:Nat}{c:Array fu}{t}{fz}(j:a.heap[b]?=fh (.cells c t fz))(k:t≠e):fh b≠d.ownBlock:=by
 rcases i.2 with⟨rfl,_⟩|⟨l,h,m,rfl,_,o,_⟩
 all_goals grind [Value.ownBlock,Option.some.injEq]
structure RA (w w':World)(p b:Nat)(own:Option Nat):Prop where
 os:w'.os=w.os
 tape:w'.tape=w.tape
 output:w'.output=w.output
 size:w.heap.size<=w'.heap.size
 block:∀k,k<w.heap.size->k≠p->k≠b->some k≠own->w'.heap[k]?=w.heap[k]?
theorem gg{w J:fq}{b}{e}{c n}{v}{xs}(d:w.ownsRow b e c v n xs)(f:∀a,v.ownBlock=fh a->J.heap[a]?=w.heap[a]?):J.ownsRow b e c v n xs:=by
 refine⟨d.1,?_⟩;rcases d.2 with g|⟨a,h,i,rfl,j,k,l⟩
 exact Or.inl g;exact Or.inr ⟨a,h,i,fX,j,(f a fX).trans k,l⟩
theorem gc{w:fq}{a}{e}{b n}{v}{c}(d:w.ownsRow a e b v n c){g:Nat}(f:v.ownBlock=fh g):g<w.heap.size:=by
 rcases d.2 with⟨rfl,_⟩|⟨i,h,j,rfl,_,k,_⟩
 all_goals grind [Value.ownBlock,Array.getElem?_eq_some_iff]
def dev{c J}{a}{b}{n h}{e Y}(f:IX c J a b n h e Y){d g}(i:gw ft c a b n h d g)(j:fh a≠(Value.slice b n h).ownBlock):J.c a 1=fh (.map<|fh d):=by
 have⟨l,m,k,_⟩:=f.facts i j;exact gw.c1 k
def WO{d J}{b}{c}{n h}{l Y}(o:IX d J b c n h l Y){p q}(r:gw ft d b c n h p q)(s:fh b≠(Value.slice c n h).ownBlock)
  {e:Type}{f}{k}{g:fu->Option (DataW e×List MemPlace)}{a m}{i:DataW e}(j:d.ownsMap f k g a m i)(t:a≠b)(u:fh a≠(Value.slice c n h).ownBlock):J.ownsMap f k g a m i:=by
 have⟨w,x,y,z,A,B,C,D,E,v⟩:=o.facts r s;exact pC j<|v a j.lt t u
def Nl(f)(g)(n h a w)(o)(q:DataW Unit)(d:ByteArray)(i)(l:gw ft i f g n h a w)(al:d.size<=256)(Q:n<400)
  (p:i.ownsRow 0 213 4 (fy g n h) n o)(x:i.ownsMap prog 9 (plainElem prog 29) a n q)(F:Maps.has q (.string d.data.toList)=fo):
  ik 77 #[ii f,hZ d] i λe J=>e=qr #[fY<|(n:Int)+1,fY 0]/\
   ∃c r,gw ft J f (fh<|ie c 0) (n+1) r a w/\J.ownsRow 0 213 4 (my c 0 (n+1) r) (n+1) (o++[fY 1,hZ d,fy fj 0 0,fY 0])/\((fh c:Option Nat)=(Value.slice g n h).ownBlock\/i.heap.size<=c)/\
    J.ownsMap prog 9 (plainElem prog 29) a (n+1) (q.put (.string d.data.toList)<|.lit (.int .i64<|(n:Int)+1))/\RA i J f a (Value.slice g n h).ownBlock:=by
 have am:=l.c1;have G:=WideMaps.keyOf_string_mk (P:=prog) underlying9 (s:=d) (by unfold maxLen;omega);obtain⟨an,ao,t⟩:=pu x;have N:=rv p t;have y:=il p (b:=f) l (by decide);have u:a≠f:=by rintro rfl;unfold gw at l;rw[t]at l;cases l
 have R:a<i.heap.size:=(Array.getElem?_eq_some_iff.1 t).1;have H:∀c,(Value.slice g n h).ownBlock=fh c->c<i.heap.size:=λc z=>gc p z;have I:=λ(A:fq)(B:gw ft A f g n h a w)(S:A.ownsRow 0 213 4 (fy g n h) n o)=>EN f 1 0 d g n h o fj 0 0 A B.lt Q B.c0 B.f0 S y;have C:fe (fh f≠(Value.slice g n h).ownBlock):=y;have K:fe (a≠f):=u;have T:fe (i.ownsRow 0 213 4 (fy g n h) n o):=p
 change fe _ at F N H I
 clear y t u p;go_enter func77,ntmps77;go_wp2_with(first
  |(at_lookup;refine wpList_lookup_own_ok_int _ fX _ _ 182 fX 9 29 .i64 HY underlying182 underlying29 (rM _) a n q fX x _ _ fX G ?_;intro ap aq ar;rw[F.o])
  |(go_at_call 130;refine(xY d i<|by omega).mono ?_;rintro e au ⟨rfl,j⟩;have v:=l.below j;have U:=gg T λc z=>j.block c<|H c z)
  |(go_at_call 112;refine(I _ v U).mono ?_;rintro e av ⟨rfl,D⟩;have aw:=dev D v C;have L:=WO D v C (pC x<|j.block a R) K N)
  |(at_mapUpdate;refine wpList_mapUpdate_own _ fX _ _ _ 182 fX 9 29 HY underlying182 _ a n _ fX L (by unfold maxLen;omega) _ _ _ fX fX G _ [] (plainElem_int underlying29<|WalkArith.wf_i64 (by omega)) ?_;intro ax V m)
  |go_in)
 go_ret2;have⟨c,r,W,E,X,Y,Z,aa,ab,ac⟩:=D.facts v C;have u:=K.o;have ad:=j.size;have ae:(fh f:Option Nat)≠fh a:=λe=>u (Option.some.inj e).symm
 refine⟨fX,c,r,?_,?_,?_,V,⟨?_,?_,?_,?_,?_⟩⟩;unfold gw;rw[m.block f (Nat.lt_of_lt_of_le (gw.lt l)<|Nat.le_trans ad ab) ae];exact W;refine gg E λaf M=>m.block af (gc E M) ?_;have⟨ay,az,ag⟩:=pu L
 have:=rv E ag
 rw[M]at this;exact λe=>this e.symm
 rcases X with O|O
 exact Or.inl O;exact Or.inr (by omega);rw[m.os,Y,j.os];rw[m.tape,Z,j.tape];rw[m.output,aa,j.output]
 have:=m.size
 omega;intro k ah ai aj ak;rw[m.block k (by omega) λe=>aj<|Option.some.inj e,ac k (by omega) ai ak,j.block k ah]
theorem Nn(a:ByteArray)(c:fq)(d:a.size<=maxLen)(b:a.size<1\/12<a.size):
  ik 129 #[hZ a] c (UV (fE fo) c):=by
 rcases b with b|b
 ·go_enter func129,ntmps129
  go_wp2;go_ret;exact⟨fX,fX⟩
 go_enter func129,ntmps129;go_wp2;go_ret;exact⟨fX,fX⟩
theorem EP(a:ByteArray)(c:fq)(d:1<=a.size)(e:a.size<=12)(b:(a.toList==[46])=fm\/(a.toList==[46])=fo/\(a.toList==[46,46])=fm):
  ik 129 #[hZ a] c (UV (fE fo) c):=by
 rcases b with b|⟨f,b⟩
 ·go_enter func129,ntmps129
  go_wp2;go_ret;exact⟨fX,fX⟩
 go_enter func129,ntmps129;go_wp2;go_ret;exact⟨fX,fX⟩
def RB(a:ByteArray)(e:fq)(m:1<=a.size)(n:a.size<=12)(o:(a.toList==[46])=fo)(p:(a.toList==[46,46])=fo)(c d:Int)(f:Lib.indexByte a.data.toList 0=c)(g:Lib.indexByte a.data.toList 47=d):
  ik 129 #[hZ a] e (UV (fE<|decide (c<0)&&decide (d<0)) e):=by
 have h:∀b,ik 185 #[hZ a,.int .u8 0] b (UV (fY c) b):=by
  intro b;have q:=strings_IndexByte a 0 b;rwa [<-f]
 have k:∀b,ik 185 #[hZ a,.int .u8 47] b (UV (fY d) b):=by
  intro b;rw[<-g];exact(strings_IndexByte a 47 b)
 clear f g;by_cases i:c<0
 ·by_cases j:d<0
  case' neg=>have r:decide (d<0)=fo:=by simpa using j
  all_goals
   go_enter func129,ntmps129;go_wp2_with fail;refine(h _).still ?_;go_wp2_with fail;refine(k _).still ?_;go_wp2;go_ret;exact⟨by simp[i,j],fX⟩
 have l:decide (c<0)=fo:=by simpa using i
 go_enter func129,ntmps129;go_wp2_with fail;apply (h _).still;go_wp2;go_ret;exact⟨by simp[l],fX⟩
def fN (s:ByteArray):Bool:=
 decide (1<=s.size)&&decide (s.size<=12)&&!(s.toList==[46])&&!(s.toList==[46,46])&&decide (Lib.indexByte s.data.toList 0<0)&&decide (Lib.indexByte s.data.toList 47<0)
theorem Ch(a:ByteArray)(b:fq)(g:a.size<=maxLen):ik 129 #[hZ a] b (UV (fE<|fN a) b):=by
 by_cases h:a.size<1\/12<a.size
 grind [fN,Nn]
 have c:1<=a.size:=by omega
 have d:a.size<=12:=by omega
 cases e:a.toList==[46] with
 |true=>
  grind [fN,EP]
 |false=>
  cases f:a.toList==[46,46] with
  |true=>
   grind [fN,EP]
  |false=>
   rw[show fN a=(decide (Lib.indexByte a.data.toList 0<0)&&decide (Lib.indexByte a.data.toList 47<0)) by unfold fN;simp[c,d,e,f]];exact RB a b c d e f _ _ fX fX
theorem Ci(a b:UInt8):a<b\/a=b\/b<a:=by
 grind
def Cj(a:UInt8):¬a<a:=λb=>Nat.lt_irrefl _<|UInt8.lt_iff_toNat_lt.1 b
theorem Np{a b c:UInt8}(d:a<b)(k:b<c):a<c:=UInt8.lt_iff_toNat_lt.2<|Nat.lt_trans (UInt8.lt_iff_toNat_lt.1 d) (UInt8.lt_iff_toNat_lt.1 k)
theorem rN{a b:UInt8}(c:a<b):¬b<a:=λk=>Cj _<|Np c k
theorem rO:∀a:List UInt8,Lib.compareBytes a a=0
 |[]=>rfl
 |x::b=>by simp[Lib.compareBytes,rO b]
theorem nA:∀b c:List UInt8,Lib.compareBytes b c=0->b=c
 |[],[],_=>rfl
 |[],_::_,a=>by simp[Lib.compareBytes]at a
 |_::_,[],a=>by simp[Lib.compareBytes]at a
 |x::d,y::e,a=>by
  rcases Ci x y with k|k|k
  grind [Lib.compareBytes]
  subst k
  simp[Lib.compareBytes]at a
  rw[nA d e a]
  grind [Lib.compareBytes,rN]
theorem rP:∀a b:List UInt8,Lib.compareBytes b a=- Lib.compareBytes a b
 |[],[]=>rfl
 |[],_::_=>rfl
 |_::_,[]=>rfl
 |x::c,y::d=>by
  rcases Ci x y with k|k|k
  grind [Lib.compareBytes,rN]
  subst k
  simp[Lib.compareBytes]
  exact rP c d
  grind [Lib.compareBytes,rN]
theorem lX:∀a b c:List UInt8,Lib.compareBytes a b<0->Lib.compareBytes b c<0->Lib.compareBytes a c<0
 |[],[],_,d,_=>by simp[Lib.compareBytes]at d
 |[],_::_,[],_,k=>by simp[Lib.compareBytes]at k
 |[],_::_,_::_,_,_=>by simp[Lib.compareBytes]
 |_::_,[],_,d,_=>by simp[Lib.compareBytes]at d
 |_::_,_::_,[],_,k=>by simp[Lib.compareBytes]at k
 |x::e,y::f,z::t,d,k=>by
  rcases Ci x y with a|a|a
  grind [Ci,Lib.compareBytes,Np,rN]
  subst a
  rcases Ci x z with b|b|b
  grind [Lib.compareBytes]
  subst b
  simp only[Lib.compareBytes,Cj,if_false]at d k |-
  exact lX e f t d k
  grind [Lib.compareBytes,rN]
  grind [Lib.compareBytes,rN]
theorem ER(b a c:List UInt8)(d:¬Lib.compareBytes b a<0)(k:¬Lib.compareBytes a c<0):¬Lib.compareBytes b c<0:=by
 intro m;by_cases e:Lib.compareBytes b a=0
 grind [nA]
 by_cases f:Lib.compareBytes a c=0
 grind [nA]
 have g:Lib.compareBytes a b<0:=by rw[rP];omega
 have h:Lib.compareBytes c a<0:=by rw[rP];omega
 grind [lX,rP]
abbrev fV:=ByteArray×Int×Int
def pB (e:fV):List fu:=[fA e.1,.int .i64 e.2.1,.int .i64 e.2.2]
def flat (es:List fV):List fu:=es.flatMap pB
def IY (x y:fV):Int:=Lib.compareBytes x.1.data.toList y.1.data.toList
def ab5:SWO (ltOf IY) where
 irrefl x:=by simp[ltOf,IY,rO]
 trans x y z h1 h2:=decide_eq_true (lX _ _ _ (of_decide_eq_true h1)<|of_decide_eq_true h2)
 ntrans x y z h1 h2:=decide_eq_false<|ER _ _ _ (of_decide_eq_false h1) (of_decide_eq_false h2)
theorem jg(e):fv (pB e)=3:=fX
theorem se(e):∀a∈pB e,a.oneCell'=fm:=by
 intro a b;simp[pB]at b;rcases b with rfl|rfl|rfl<;>rfl
theorem ly(a):fv (flat a)=fv a*3:=by
 induction a with
 |nil=>rfl
 |cons e c b=>simp only[flat,List.flatMap_cons,List.length_append,jg,List.length_cons]at *;rw[b];omega
theorem mH(b):∀a∈flat b,a.oneCell'=fm:=by
 intro a c;obtain⟨e,_,d⟩:=List.mem_flatMap.1 c;exact se e a d
theorem iO:∀(b:List fV)(i a:Nat)(U:i<fv b),a<3->(flat b)[i*3+a]?=(pB b[i])[a]?
 |[],i,a,U,_=>by simp at U
 |e::c,0,a,_,d=>by
  grind [flat,List.getElem?_append_left,jg]
 |e::c,i+1,a,U,d=>by
  have f:=iO c i a (by grind) d
  grind [flat,List.getElem?_append_right,jg]
theorem ES(d:Array fV):(flatK pB 3 d).toList=flat d.toList:=by
 apply List.ext_getElem?;intro t;by_cases b:t<d.size*3;have a:t % 3<3:=Nat.mod_lt _ (by omega);have U:t / 3<fv d.toList:=by simp;omega
 have c:=iO d.toList (t / 3) (t % 3) U a
 grind [flatK,Array.toList_map,Array.toList_range,List.getElem?_range,getElem!,List.getElem?_eq_getElem,jg]
 grind [List.getElem?_eq_none,flatK,ly]
theorem Ia{b:fq}{c:Nat}{a:Array fu}{e}{es:List fV}(f:b.heap[c]?=fh (.cells a e (0,0)))(g:a.toList.take (fv es*3)=flat es):HoldsK pB 3 b c 0 es.toArray:=by
 intro d h;refine⟨?_,by simp[World.frozen?,f]⟩;have i:(a.toList.take<|fv es*3)[d]?=(flat es)[d]?:=by rw[g]
 grind [List.getElem?_take_of_lt,World.cell?,Option.isSome_none,Bool.false_eq_true,ES,getElem!,Array.getElem?_eq_getElem]
theorem Lb{b:fq}{a n:Nat}{g:Array Obj}{c:Array fu}{e}{f}(d:Array fV)(h:b.heap[a]?=fh (.cells c e f)):
  (sortWorldK pB 3 b a 0 n d g).heap[a]?=fh (.cells (putCells id 0 (flatK pB 3 d) c) e f):=by
 grind [Array.getElem?_eq_some_iff,sortWorldK,heap_grow_old,putRowK,putRow,mapBlock,Sort.ahead,onCells]
theorem Eh{a:fq}{b n}{c:Array Obj}(d:Array fV):a.grownBy (sortWorldK pB 3 a b 0 n d c) (fh b):=by
 refine⟨fX,fX,fX,by simp[sortWorldK,putRowK],λk e f=>?_⟩
 grind [sortWorldK,heap_grow_old,putRowK,putRow,mapBlock,Sort.ahead]
theorem ET(a:Array fu)(d:Array fV)(b:d.size*3<=a.size):(putCells id 0 (flatK pB 3 d) a).toList.take (d.size*3)=flat d.toList:=by
 rw[<-ES];apply List.ext_getElem?
 grind [List.getElem?_take_of_lt,flatK,pB,Array.getElem?_eq_getElem,getElem!,putCells,List.getElem?_take_eq_none,List.getElem?_eq_none]
def Ei{c:fq}{f a h n:Nat}{e}{g:Array Obj}{b:Array fu}{k:Nat}{d:Array fV}(i:d.size=k)(j:f<=a)(l:c.heap[a]?=fh (.cells b e (0,0)))
  (m:k<=h)(o:h<=maxLen)(p:b.size=h*3):
  (sortWorldK pB 3 c a 0 n d g).ownsRow f e 3 (my a 0 k h) k (flat d.toList):=by
 subst i;refine⟨by rw[ly];simp,.inr ⟨a,h,_,fX,j,Lb _ l,m,o,by simp[putCells,p],ET b d<|by omega⟩⟩
def isAgg34(a):(isAgg 96).run prog a=.ok fm a:=by kernel_rfl
def sizeOf34(a):(Go.sizeOf 96).run prog a=.ok 3 a:=by kernel_rfl
def RD(x y:fV)(a:fq):ik 172 #[fD #[hZ x.1,fY x.2.1,fY x.2.2],fD #[hZ y.1,fY y.2.1,fY y.2.2]] a λe J=>e=fF (fY<|IY x y)/\∃c d,J=grow (a.drewN c) d:=by
 have b:=λf=>strings_Compare x.1 y.1 f;unfold IY;generalize Lib.compareBytes x.1.data.toList y.1.data.toList=g at b |-;go_enter func172,ntmps172;go_wp2_with(go_at_call 191;refine(b _).still ?_);go_ret;exact⟨fX,0,_,by rw[alloc_eq_grow,alloc_eq_grow,grow_grow];rfl⟩
def ih4(a off b)(c:fq):CmpLays prog 172 #[] pB 3 IY a off b c:=λ_ _ _ _ x y=>RD x y _
def div(a h)(d:Array fV)(b)(f:HoldsK pB 3 b a 0 d)(g:a<b.heap.size)(i:d.size<4611686018427387904):
  ik 171 #[my a 0 d.size h,.func (.func 172) #[] #[]] b λe J=>e=qr #[]/\∃c n j,PermIn 0 d.size d c/\SortedIn (ltOf IY) 0 d.size c/\J=sortWorldK pB 3 b a 0 n c j:=by
 have k:=enters_of func172 (by kernel_rfl) rfl;exact AnyQ.slices_SortFunc aaz 3 isAgg34 sizeOf34 pB jg se IY ab5 172 #[] a 0 h d b k (ih4 a 0 d.size b) f g i
def Ck:(prog.info? 96).map (λi=>(i.zero,i.size,i.bytes))=fh (fh<|fD #[hZ ByteArray.empty,fY 0,fY 0],3,32):=by kernel_rfl
def EU(b off n c:Nat)(es:List fV)(a:fq)(h:fv es=n)(i:n*32<=140737488355328)(j:∀f g,(flat es)[f]?=fh g->a.c b (off+f)=fh g):
  ik 170 #[my b off n c] a λe J=>∃d,e=fF d/\J.ownsRow a.heap.size 96 3 d n (flat es)/\d≠fy fj 0 0/\ju a J:=by
 have⟨k,U,l,m,o⟩:=info_parts Ck;exact AnyE.slices_Clone Rw k _ 3 32 U l m o fX (by decide) sizeOf34 b off n c (flat es) a (by rw[ly,h]) (by unfold maxLen;omega) i j<|mH es
def lr{b:fq}{c off:Nat}{a}(d:∀e f,(flat a)[e]?=fh f->b.c c (off+e)=fh f){i:Nat}(U:i<fv a):
  b.c c (off+i*3)=fh (fA a[i].1)/\b.c c (off+i*3+1)=fh (.int .i64 a[i].2.1)/\b.c c (off+i*3+2)=fh (.int .i64 a[i].2.2):=by
 refine⟨?_,?_,?_⟩;exact d _ _ (by rw[show i*3=i*3+0 from fX,iO a i 0 U<|by omega];rfl);rw[Nat.add_assoc];exact d _ _ (by rw[iO a i 1 U<|by omega];rfl);rw[Nat.add_assoc];exact d _ _ (by rw[iO a i 2 U<|by omega];rfl)
theorem vA{a:fq}{b:Addr}{f:fu}(d:a.cell? b=fh f):a.setCell b f=a:=by
 have m:(a.setCell b f).heap=a.heap:=by
  apply Array.ext_getElem?;intro k;simp only[World.setCell,Array.getElem?_modify];by_cases g:b.block=k;subst g;simp only[if_true];unfold World.cell? at d;rcases i:a.heap[b.block]? with _|j
  rfl;rw[i]at d;cases j with
  |cells c e n=>
   simp only[Option.map_some];by_cases h:b.spot.isSome=fm;simp[h];simp only[h,if_false,Bool.false_eq_true]at d |-;have l:=(Array.getElem?_eq_some_iff.1 d);obtain⟨o,p⟩:=l
   congr 2
   grind
  |_=>simp at d
  simp[g]
 cases a
 grind [World.setCell]
def iI (a:List fV):Prop:=a.Pairwise λx y=>IY x y<0
def dk1 (b J:fq)(a:List fV)(n:Nat)(e:Ending):Prop:=
 Below b.heap.size b J/\
 (((∃x∈a,fN x.1=fo)/\e=fF (fC #[fy fj 0 0,.int .i64 1]))\/
  ((∀x∈a,fN x.1=fm)/\¬(a.map (·.1)).Nodup/\e=fF (fC #[fy fj 0 0,.int .i64 6]))\/
  ((∀x∈a,fN x.1=fm)/\(a.map (·.1)).Nodup/\16<fv a/\e=fF (fC #[fy fj 0 0,.int .i64 11]))\/
  ((∀x∈a,fN x.1=fm)/\(a.map (·.1)).Nodup/\fv a<=16/\∃c d f,e=fF (fC #[fy (fh ⟨d,0,fj⟩) n f,.int .i64 0])/\c.Perm a/\iI c/\J.ownsRow b.heap.size 96 3 (fy (fh ⟨d,0,fj⟩) n f) n (flat c)))
theorem ih5(a:List fV)(b:Array fV)(c:PermIn 0 a.toArray.size a.toArray b):b.toList.Perm a:=by
 have⟨d,_⟩:=c;have e:(b.extract 0 a.toArray.size)=b:=by rw[<-d];simp
 grind
theorem WQ(d:Array fV)(o:SortedIn (ltOf IY) 0 d.size d)(p:∀a(h:a<fv d.toList),1<=a->d.toList[a].1≠(d.toList[a-1]'(by omega)).1):iI d.toList:=by
 unfold iI;rw[List.pairwise_iff_getElem];intro i a U h u;simp only[Array.length_toList]at U h;have j:∀k,(g:k<d.size)->(l:1<=k)->IY d[k-1] d[k]<0:=by
  intro k g l;have n:=o (k-1) k (Nat.zero_le _) (by omega) g;rw[getElem!_pos d k g,getElem!_pos d (k-1)<|by omega]at n;have v:=of_decide_eq_false n;have q:=p k (by omega) l;have w:IY d[k] d[k-1]≠0:=by
   intro r
   have:=nA _ _ r
   apply q;simp only[Array.getElem_toList];have e:∀b c:ByteArray,b.data.toList=c.data.toList->b=c:=by
    intro b c x;cases b;cases c
    grind [Array.toList_inj]
   grind
  grind [IY,rP]
 have s:∀m,(f:i+1+m<d.size)->IY d[i] d[i+1+m]<0:=by
  intro m
  induction m with
  |zero=>intro f;exact j (i+1) f<|by omega
  |succ m t=>
   intro f;have b:=t (by omega);exact lX _ _ _ b<|j (i+1+(m+1)) f (by omega)
 have:=s (a-i-1)<|by omega
 grind
theorem wk{a}(b:iI a):(a.map (·.1)).Nodup:=by
 grind [iI,List.Nodup,IY,rO]
theorem xj{a}(b:fN a=fm):1<=a.size/\a.size<=12:=by
 grind [fN]
theorem wM{a b:ByteArray}(c:a.toList=b.toList):a=b:=by
 rw[ByteArray.toList_eq,ByteArray.toList_eq]at c;cases a
 all_goals simp_all
theorem ks{c:fq}{g}{e}{d n h}{f}(i:c.ownsRow g e 3 (my d 0 n h) n (flat f)):∀a b,(flat f)[a]?=fh b->c.c d (0+a)=fh b:=by
 intro a b j;rcases i.2 with⟨k,_⟩|⟨l,m,o,p,_,q,_,_,_,r⟩
 all_goals grind [List.getElem?_eq_some_iff,List.getElem?_take_of_lt,World.cell?]
theorem CZ{a:fq}{c}{e}{b n h d}{f}(g:a.ownsRow c e d (my b 0 n h) n f)(i):a.frozen? (ie b i)=fo:=by
 rcases g.2 with⟨j,_⟩|⟨k,l,m,o,_,p,_⟩
 all_goals grind [World.frozen?]
def Lc(q off n h:Nat)(es:List fV)(j:fq)(Y:fv es=n)(z:q<j.heap.size)(aA:n*32<=140737488355328)(A:∀a B,(flat es)[a]?=fh B->j.c q (off+a)=fh B)
  (Z:∀e∈es,e.1.size<=maxLen):
  ik 109 #[my q off n h] j λe J=>dk1 j J es n e:=by
 have l:fe (fv es=n):=Y
 change fe _ at A Z
 clear Y;go_enter func109,ntmps109;go_wp2
 go_loopw [11] (λi wr=>∃k:Nat,k<=n/\i=.int .i64 k/\ju j wr/\fe (∀a(c:a<fv es),a<k->fN es[a].1=fm)) (λi _=>n-(intOf i).toNat)
 case atStart=>exact⟨0,Nat.zero_le _,rfl,Below.refl _ _,λa c o=>by omega⟩
 case round=>
  obtain⟨k,aW,rfl,d,L⟩:=hrel;by_cases aB:k<n
  ·have M:k<fv es:=by rw[l.o];exact aB
   have⟨c0,c1,c2⟩:=lr A M;have d0:=(d.cell (p:=(ie q<|off+k*3)) z).trans c0;have d1:=(d.cell (p:=(ie q<|off+k*3+1)) z).trans c1;have d2:=(d.cell (p:=(ie q<|off+k*3+2)) z).trans c2;have C:=λaC=>Ch es[k].1 aC<|Z.o es[k] (List.getElem_mem M);cases s:fN es[k].1 with
   |false=>
    have N:fe (fN es[k].1=fo):=s;rw[s]at C;clear s;go_wp2_with(go_at_call 129;apply (C _).still);go_ret2;exact⟨d.alloc d.size _,.inl ⟨⟨es[k],List.getElem_mem M,N⟩,fX⟩⟩
   |true=>
    have N:fe (fN es[k].1=fm):=s;rw[s]at C;clear s;go_wp2_with(go_at_call 129;apply (C _).still);go_roundw
    case rel=>
     refine⟨k+1,by omega,by go_num,d.alloc d.size _,?_⟩;intro a c aX;by_cases e:a=k;subst e;exact N;exact L.o a c<|by omega
    case measure=>simp[intOf];omega
  have aa:k=n:=by omega
  have D:fe (∀x∈es,fN x.1=fm):=by
   intro x aD;obtain⟨a,c,rfl⟩:=List.getElem_of_mem aD;exact L a c (by rw[aa,<-l.o];exact c)
  have ab:=EU q off n h es wr l aA λa B o=>(d.cell (p:=(ie q<|off+a)) z).trans<|A.o a B o;go_wp2_with fail;apply ab.mono;rintro e ac ⟨aE,rfl,ad,ae,O⟩;have aF:∃f g t,aE=(my f 0 n g)/\wr.heap.size<=f/\ac.heap[f]?=fh (.cells t 96 (0,0))/\n<=g/\g<=maxLen/\t.size=g*3/\t.toList.take (n*3)=flat es:=by
   rcases ad.2 with⟨o,_⟩|⟨f,g,t,o,P,aG,aH,aI,aJ,aK⟩
   exact absurd o ae;exact⟨f,g,t,o,P,aG,aH,aI,aJ,aK⟩
  have⟨f,g,t,af,Q,E,ag,ah,ai,aj⟩:=aF;rw[af];clear ab ad ae af;have ak:=Ia (es:=es) E (by rw[l.o];exact aj);have R:=div f g es.toArray ac ak (Array.getElem?_eq_some_iff.1 E).1 (by simp only[List.size_toArray];rw[l.o];omega);rw[show es.toArray.size=n by simp only[List.size_toArray];exact l.o]at R;go_wp2_with fail;refine R.via λal⟨u,aY,aZ,S,am,T⟩=>?_;have F:u.size=n:=by have:=S.1;simp only[List.size_toArray]at this;rw[this];exact l
  have an:al.ownsRow j.heap.size 96 3 (my f 0 n g) n (flat u.toList):=by
   rw[T];exact Ei F (Nat.le_trans d.size Q) E ag ah ai
  have aL:ju j al:=by
   rw[T];exact((d.trans<|O.mono d.size).grown (Eh u) (Nat.le_trans d.size O.size) (λk o=>by cases o;exact Nat.le_trans d.size Q))
  obtain⟨b,w⟩:=oX u.toList;have G:fe (b.Perm es):=by
   rw[w];exact ih5 es u (by simpa only[List.size_toArray,l.o]using S)
  have U:fe (fv b=n):=by rw[w,Array.length_toList];exact F
  have ao:fe ((∀a(c:a<fv b),1<=a->b[a].1≠(b[a-1]'(by omega)).1)->iI b):=by
   subst w;exact WQ u (by rw[F];exact am)
  rw[<-w]at an;clear R S am T ak E aj O Q ag ah ai F w aa L A;go_wp2
  go_loopw [7] (λi y=>∃m:Nat,i=.int .i64 ((m:Int)+1)/\m<=n/\ju j y/\y.ownsRow j.heap.size 96 3 (my f 0 n g) n (flat b)/\fe (∀a(c:a<fv b),1<=a->a<m+1->b[a].1≠(b[a-1]'(by omega)).1)) (λi _=>n-(intOf i).toNat)
  case atStart=>exact⟨0,by go_num,Nat.zero_le _,aL,an,λa c H P=>by omega⟩
  case round=>
   obtain⟨m,rfl,bb,I,sR,V⟩:=hrel;by_cases aM:m+1<n
   ·have ap:m+1<fv b:=by rw[U.o];exact aM
    have aq:m<fv b:=(by omega);have⟨c0,_,_⟩:=lr (off:=0) (ks sR) ap;have⟨aN,_,_⟩:=lr (off:=0) (ks sR) aq;rw[Nat.zero_add]at c0 aN;have bc:((m:Int)+1-1)=m:=by omega
    have bd:((m:Int)+1)<n:=(by omega);cases ar:b[m+1].1.toList==b[m].1.toList with
    |true=>
     have W:fe ((b[m+1].1.toList==b[m].1.toList)=fm):=ar;go_wp2
     go_quiet (fail)
     go_wp2;go_ret2;refine⟨below_drewN I _,.inr<|.inl ⟨D,?_,fX⟩⟩;intro oh;have aO:=(G.o.map (·.1)).nodup_iff.2 oh;have au:=List.pairwise_iff_getElem.1 aO m (m+1) (by simpa using aq) (by simpa using ap) (by omega);simp only[List.getElem_map]at au;exact au (wM (by simpa using W.o)).symm
    |false=>
     have W:fe ((b[m+1].1.toList==b[m].1.toList)=fo):=ar;go_wp2
     go_quiet (fail)
     go_wp2;go_roundw
     case rel=>
      refine⟨m+1,by go_num,by omega,below_drewN I _,sR,?_⟩;intro a c H P;by_cases e:a=m+1;subst e;intro o;have av:=W.o;rw[o]at av;simp at av;exact V a c H<|by omega
     case measure=>simp[intOf];omega
   have aw:fe (iI b):=ao λa c H=>V.o a c H (by rw[U.o]at c;omega);have ax:fe ((es.map (·.1)).Nodup):=(List.Perm.nodup_iff<|G.map (λx:fV=>x.1)).1<|wk aw;clear V ao;by_cases aP:16<n
   ·have aQ:(16:Int)<n:=by omega
    go_wp2;go_ret2;exact⟨I,.inr<|.inr (.inl ⟨D.o,ax,by rw[l.o];exact aP,fX⟩)⟩
   have aQ:¬((16:Int)<n):=by omega
   go_wp2
   go_loopw [47] (λi y=>∃m:Nat,i=.int .i64 (m:Int)/\m<=n/\ju j y/\y.ownsRow j.heap.size 96 3 (my f 0 n g) n (flat b)) (λi _=>n-(intOf i).toNat)
   case atStart=>exact⟨0,rfl,Nat.zero_le _,I,sR⟩
   case round=>
    obtain⟨r,rfl,be,X,v⟩:=hrel;by_cases aR:r<n
    ·have ay:r<fv b:=by rw[U.o];exact aR
     have⟨c0,_,_⟩:=lr (off:=0) (ks v) ay;rw[Nat.zero_add]at c0;have bf:=(xj<|D.o _ (G.o.mem_iff.1<|List.getElem_mem ay)).2;have aS:=xY b[r].1 wr (by omega);have az:f<wr.heap.size:=gc v fX;have aT:=CZ v<|r*3;go_wp2_with(go_at_call 130;refine aS.via λbg K=>?_;have c1:=(K.cell (p:=(ie f<|r*3)) az).trans c0;have f1:=(K.frozen (p:=(ie f<|r*3)) az).trans aT);go_roundw
     case rel=>
      refine⟨r+1,by go_num,by omega,?_,?_⟩;rw[vA c1];exact X.trans<|K.mono X.size;rw[vA c1];exact gg v λaU aV=>K.block aU<|gc v aV
     case measure=>simp[intOf];omega
    go_wp2;go_ret2;exact⟨X,.inr<|.inr (.inr ⟨D,ax.o,by rw[l.o];omega,b,_,g,fX,G,aw,v⟩)⟩
def qZ{P:Program}(b:fq)(m p q g:TypeId)(h e c j r:Nat)(a:Addr)(k s)(d:Array fu)(t)(cs:List fu)
  (u:P.underlying m=fh (.slice g))(n:(P.info? g).map (·.size)=fh h)
  (v:b.heap[e]?=fh (.cells d t (0,0)))(w:fv cs=Nat.min k j*h)
  (x:∀o f,cs[o]?=fh f->b.cell? (a.add o)=fh f)(B:c+fv cs<=d.size)(y:∀f∈cs,f.oneCell'=fm):
  (Builtin.copy_ #[m,p] q #[my e c j r,fy (fh a) k s]).run P b =
   .ok (goInt<|Nat.min k j) (b.setRow e (d.toList.take c++cs++d.toList.drop (c+fv cs)).toArray):=by
 have z:=run_loadCells_list (P:=P) b a cs x;have A:=run_storeCells_at P e c t cs 0 d b v (by omega) y;rcases l:P.info? g with _|i
 simp[l]at n;have U:i.size=h:=by simpa [l]using n
 simp[Builtin.copy_,run_underlying u,Builtin.lenOf,Builtin.firstCells,sizeOf,typeInfo,l,U,<-w,z,A]
def vB{P:Program}{a:fq}{p:Array Oper}{rest:List Oper}{c:Oper}{g:Act}{q:Exit->Act->fq->Prop}(z:c.guard=fj)(d r:Operand)(l s:TypeId)
  (A:c.op=.call { callee:=.builtin .copy,args:=#[d,r],argTypes:=#[l,s] })(m:TypeId)(B:P.underlying l=fh (.slice m))(n:Nat)(C:(P.info? m).map (·.size)=fh n)
  (b off h u)(o:Addr)(i v:Nat)(D:g.eval d=my b off h u)(E:g.eval r=fy (fh o) i v)
  (f:Array fu)(t)(w:a.heap[b]?=fh (.cells f t (0,0)))(cs:List fu)(F:fv cs=Nat.min i h*n)
  (G:∀x j,cs[x]?=fh j->a.cell? (o.add x)=fh j)(H:off+fv cs<=f.size)(I:∀j∈cs,j.oneCell'=fm)
  (new:Array fu)(K:new.toList=f.toList.take off++cs++f.toList.drop (off+fv cs))
  (L:∀J,fe (J.heap[b]?=fh (.cells new t (0,0)))->a.grownBy J (fh b)->wpList P p q rest (g.put c.dst<|goInt (Nat.min i h)) J):wpList P p q (c::rest) g a:=by
 refine wpList_plain z λO M=>?_;have y:=qZ (P:=P) a l s c.type m n b off h u o i v f t cs B C w F G H I;rw[<-K,Array.toArray_toList]at y;unfold Oper.wp;simp[execOp,A,resolve,invoke,builtin,D,E,y,Result.andThen];exact M _ _ (L _ (setRow_heap a b _ _ t _ w) ⟨fX,fX,fX,by simp,λk Q N=>setRow_other a b k _ λe=>N (by rw[e])⟩)
def EW:List fu:=(List.replicate 16<|pB (ByteArray.empty,0,0)).flatten
theorem WR:fv EW=48:=by decide
theorem WS:∀a∈EW,a.oneCell'=fm:=by
 intro a b;have⟨l,_⟩:=List.mem_flatten.1 b
 grind [se]
def kv (a:List fV):Array fu:=(flat a++EW.drop (fv a*3)).toArray
theorem kN{a:List fV}(b:fv a<=16):(kv a).size=48:=by
 grind [kv,List.size_toArray,List.length_append,ly,List.length_drop,WR]
theorem qc(a):(kv a).all (·.oneCell')=fm:=by
 grind [Array.all_eq_true',kv,mH,WS,List.mem_of_mem_drop]
theorem oo:(prog.info? 208).map (·.size)=fh 48:=by kernel_rfl
def Es:(prog.info? 96).map (·.size)=fh 3:=by kernel_rfl
theorem Az(d n h:Nat)(a:List fV)(b:fq)(p:fv a=n)(q:d<b.heap.size)(z:n<=16)(g:∀c e,(flat a)[c]?=fh e->b.cell? (ie d<|0+c)=fh e):
  ik 111 #[my d 0 n h] b (vd (fD<|kv a) b):=by
 have A:fe (∀c e,(flat a)[c]?=fh e->b.cell? (ie d<|0+c)=fh e):=g;have f:fe ((kv a).size=48):=kN (by omega);have r:fe (∀m o c v,(flat a)[c]?=fh v->((b.alloc m).alloc o).cell? (((ie d 0):Addr).add c)=fh v):=by
  intro m o c v i;have s:((ie d 0):Addr).add c=(ie d<|0+c):=by unfold Addr.add;split<;>simp_all
  rw[s,World.cell?_alloc_past _ _ _ (by simp;omega),World.cell?_alloc_past _ _ _ q,(g c v i)]
 have t:fe ((kv a).toList=EW.take 0++flat a++EW.drop (0+fv (flat a))):=by
  grind [kv,ly]
 have u:fe (fv (flat a)=Nat.min n 16*3):=by
  grind [flat,ly]
 have w:fe (0+fv (flat a)<=48):=by
  show 0+fv (flat a)<=48
  grind [ly]
 clear g p;go_enter func111,ntmps111;go_wp2_with(first
  |(refine vB fX (.tmp 4) (.tmp 5) 55 55 fX 96 underlying55 3 Es (b.heap.size+1) 0 16 16 (ie d 0) n h fX fX _ 208 (heap_alloc2_new _ _ _) (flat a) ?_ ?_ ?_ (mH a) (kv a) ?_ ?_;go_must(exact u);go_must(exact r _ _);go_must(exact w);go_must(exact t);intro j x l)
  |(refine wpList_load_row fX 208 _ fX (b.heap.size+1) fX 208 (kv a) (0,0) _ x underlying208 fX (by rw[f.o];exact oo) ?_)
  |(refine wpList_store_row fX 208 _ _ fX b.heap.size (kv a) fX fX 208 _ ((l.block b.heap.size (by simp;omega)<|by simp).trans<|heap_alloc2_old _ _ _) (by rw[f.o];exact oo) (by rw[f.o];rfl) (qc a) ?_)
  |go_in)
 have y:(j.setRow b.heap.size<|kv a).heap[b.heap.size]?=fh (.cells (kv a) 208 (0,0)):=setRow_heap j b.heap.size _ _ 208 (0,0)<|(l.block b.heap.size (by simp;omega) (by simp)).trans (heap_alloc2_old _ _ _);refine bodyPost_ret (v:=fD<|kv a) (results_cell_row results111 _ _ b.heap.size 208 (kv a) (0,0) _ fX y underlying208 fX (by rw[f.o];exact oo)) fX ⟨fX,?_⟩;have B:ju b j:=(((Below.refl _ _).alloc (Nat.le_refl _) _).alloc (by simp) _).grown l (by simp;omega) (λk i=>by cases i;omega)
 grind [below_setRow]
def laidOut:laidOutB prog=fm:=by kernel_rfl
def prt:208<prog.types.size:=of_decide_eq_true<|by kernel_rfl
def EX:Maps.Keyed prog 208:=Maps.Keyed.of_law<|deep_law_laid laidOut (m:=9) (by omega) prt (by kernel_rfl) (by rw[underlying208])
theorem Ve:prog.cellsOf 208=48:=by kernel_rfl
def Vf:prog.cellsOf 96=3:=by kernel_rfl
def dk2:prog.cellsOf 9=1:=by kernel_rfl
def syn:prog.cellsOf 3=1:=by kernel_rfl
def ilo:prog.cellsOf 29=1:=by kernel_rfl
def szl:prog.keyType 208=fm:=by kernel_rfl
def Fits (e:fV):Prop:=e.1.size<=maxLen/\(Lit.int .i64 e.2.1).wf=fm/\(Lit.int .i64 e.2.2).wf=fm
def szr(d:Nat)(e)(a:Fits e):∃Y,prog.keyLits (d+2) 96 (pB e)=fh Y:=by
 have⟨b,c,f⟩:=a;have g:prog.keyLits (d+1) 9 [hZ e.1]=fh [.string e.1.data.toList]:=by unfold Program.keyLits;simp[underlying9,b]
 have h:prog.keyLits (d+1) 3 [.int .i64 e.2.1]=fh [.int .i64 e.2.1]:=by unfold Program.keyLits;simp[underlying3,c]
 have i:prog.keyLits (d+1) 29 [.int .i64 e.2.2]=fh [.int .i64 e.2.2]:=by unfold Program.keyLits;simp[underlying29,f]
 unfold Program.keyLits;simp[underlying96,pB,Vf,dk2,syn,ilo,g,h,i]
def mapM_some{c e:Type}(a:c->Option e):∀l:List c,(∀x∈l,∃y,a x=fh y)->∃b,l.mapM a=fh b
 |[],_=>⟨[],fX⟩
 |x::f,d=>by
  have⟨y,g⟩:=d x<|by simp
  have⟨b,h⟩:=mapM_some a f λz i=>d z (by simp[i])
  exact⟨y::b,by simp[List.mapM_cons,g,h]⟩
theorem tX(a:List fV)(g:fv a<=16)(i:Nat)(U:i<16):((kv a).toList.drop<|i*3).take 3=pB ((a[i]?).getD (ByteArray.empty,0,0)):=by
 have d:=ly a;apply List.ext_getElem?;intro b;by_cases c:b<3;rw[List.getElem?_take_of_lt c,List.getElem?_drop];simp only[kv];by_cases h:i<fv a
 grind [List.getElem?_append_left,iO,List.getElem?_eq_getElem]
 rw[List.getElem?_append_right<|by omega,List.getElem?_drop,d,List.getElem?_eq_none (l:=a)<|by omega];have e:fv a*3+(i*3+b-fv a*3)=i*3+b:=by omega
 rw[e];have f:=iO (List.replicate 16 (ByteArray.empty,0,0)) i b (by simp;omega) c;rwa [List.getElem_replicate]at f
 grind [List.getElem?_take_eq_none,List.getElem?_eq_none,jg]
def tan(d:Nat)(a:List fV)(b:fv a<=16)(f:∀e∈a,Fits e):∃Y,prog.keyLits (d+3) 208 (kv a).toList=fh Y:=by
 have g:(kv a).toList.length=48:=by simp[kN b]
 have⟨h,j⟩:=mapM_some (λi=>prog.keyLits (d+2) 96<|((kv a).toList.drop (i*3)).take 3) (List.range 16) (by
  intro i U;rw[List.mem_range]at U;rw[tX a b i U];refine szr d _ ?_;by_cases c:i<fv a;rw[List.getElem?_eq_getElem c];exact f _<|List.getElem_mem c;rw[List.getElem?_eq_none<|by omega];exact⟨by decide,by decide,by decide⟩)
 refine⟨h.flatten,?_⟩;unfold Program.keyLits;simp only[underlying208,Ve,g,if_true,Vf,j,Option.map_some]
def pj (a:Program)(b:List fV):Lit:=(keyOf a 208<|fD (kv b)).getD .nil
theorem kX(a:List fV)(b:fv a<=16)(c:∀e∈a,Fits e):keyOf prog 208 (fD<|kv a)=fh (pj prog a):=by
 have h:∃k,keyOf prog 208 (fD<|kv a)=fh k:=by
  have d:Value.formed prog 208 (fD<|kv a)=fm:=by
   unfold Value.formed;rw[underlying208]
   grind [Ve,kN]
  obtain⟨n,f⟩:∃n,prog.types.size+1=n+3:=⟨prog.types.size-2,by have:=prt;omega⟩;have⟨Y,g⟩:=tan n a b c;unfold keyOf;rw[underlying208];simp only[szl,d,Bool.and_self,if_true,Value.cells,f,g,Option.map_some]
  grind
 grind [pj]
theorem Nq{a fs:List fV}(b:fv a<=16)(c:fv fs<=16)(d:∀e∈a,1<=e.1.size)(f:∀e∈fs,1<=e.1.size)(g:kv a=kv fs):a=fs:=by
 have h:∀i,i<16->(a[i]?).getD (ByteArray.empty,0,0)=(fs[i]?).getD (ByteArray.empty,0,0):=by
  intro i U;have j:=tX a b i U
  grind [tX,pB,List.cons.injEq,Value.string.injEq,Value.int.injEq,Prod.ext]
 have k:ByteArray.empty.size=0:=fX;apply List.ext_getElem?
 grind
theorem EY{a fs:List fV}(b:fv a<=16)(c:fv fs<=16)(f1:∀e∈a,Fits e)(f2:∀e∈fs,Fits e)(d:∀e∈a,1<=e.1.size)(f:∀e∈fs,1<=e.1.size)
  (g:pj prog a=pj prog fs):a=fs:=by
 grind [kX,EX.inj,Nq]
variable {ft:kE}
structure Ob where
 kind:Int
 data:ByteArray
 ea:Option Addr
 el:Nat
 ec:Nat
 gh:List fV
 high:Int
def Ob.cells (a:Ob):List fu:=[.int .i64 a.kind,fA a.data,fy a.ea a.el a.ec,.int .i64 a.high]
def gB (A:List Ob):List fu:=A.flatMap Ob.cells
theorem sU:∀(b:List Ob)(i a:Nat)(U:i<fv b),a<4->(gB b)[i*4+a]?=(b[i].cells)[a]?
 |[],i,a,U,_=>by simp at U
 |e::c,0,a,_,d=>by
  grind [gB,List.getElem?_append_left,Ob.cells]
 |e::c,i+1,a,U,d=>by
  have f:=sU c i a (by grind) d
  have g:fv e.cells=4:=fX
  grind [gB,List.getElem?_append_right]
structure jP (ft:kE)(w:World)(p:Nat)(a:Option Addr)(n cap bf bd:Nat)(gI:List Ob):Prop where
 at_:gw ft w p a n cap bf bd
 row:w.ownsRow 0 213 4 (.slice a n cap) n (gB gI)
 len:gI.length=n
 many:n<=400
def jP.below{w J}{p}{a}{n h c d}{A}(b:jP ft w p a n h c d A)(e:ju w J):jP ft J p a n h c d A:=
 ⟨b.at_.below e,gg b.row λf g=>e.block f<|gc b.row g,b.len,b.many⟩
theorem jP.cells{w}{p}{a}{n h g j}{A}(f:jP ft w p a n h g j A){i:Nat}(U:i<fv A):
  ∃b,a=fh (ie b 0)/\b<w.heap.size/\w.c b (i*4)=fh (.int .i64 A[i].kind)/\w.c b (i*4+1)=fh (fA A[i].data)/\
   w.c b (i*4+2)=fh (fy A[i].ea A[i].el A[i].ec)/\w.c b (i*4+3)=fh (.int .i64 A[i].high):=by
 have r:i<n:=by rw[<-f.len];exact U
 rcases f.row.2 with⟨_,s⟩|⟨b,t,u,k,_,l,_,_,v,m⟩
 omega;cases k;have d:∀c e,c<4->(A[i].cells)[c]?=fh e->w.c b (i*4+c)=fh e:=by
  intro c e o q;rw[<-sU A i c U o,<-m,List.getElem?_take_of_lt<|by omega,Array.getElem?_toList]at q
  grind [World.cell?]
 exact⟨b,fX,(Array.getElem?_eq_some_iff.1 l).1,d 0 _ (by omega) fX,d 1 _ (by omega) fX,d 2 _ (by omega) fX,d 3 _ (by omega) fX⟩
def fJ (A:List Ob)(id:Int):Int:=if 1<=id then((A[(id-1).toNat]?).map (·.kind)).getD 0 else 0
def gp (A:List Ob)(id:Int):Int:=((A[(id-1).toNat]?).map (·.high)).getD 0
theorem xa{A:List Ob}{a:Nat}(b:a<fv A):fJ A ((a:Int)+1)=A[a].kind:=by
 grind [fJ,Int,List.getElem?_eq_getElem]
theorem Cl{A:List Ob}{a:Nat}(b:a<fv A):gp A ((a:Int)+1)=A[a].high:=by
 grind [gp,Int,List.getElem?_eq_getElem]
theorem iJ{A:List Ob}{id:Int}(a:id<1\/(fv A:Int)<id):fJ A id=0:=by
 unfold fJ;rcases a with a|a
 omega;rw[if_pos<|by omega,List.getElem?_eq_none<|by omega];rfl
def uq(p)(g)(n h j k)(A)(id:Int)(b)(a:jP ft b p g n h j k A):
  ik 61 #[ii p,fY id] b (vd (fY<|fJ A id) b):=by
 by_cases hid:id<1\/(n:Int)<id;rw[iJ (by rw[a.len];exact hid)];exact(IV p n h g id b a.at_.c0 a.many hid).mono λe J⟨d,f⟩=>⟨d,by rw[f];exact Below.refl _ _⟩
 obtain⟨c,rfl⟩:∃c:Nat,id=(c:Int)+1:=⟨(id-1).toNat,by omega⟩;have i:c<fv A:=by rw[a.len];omega
 obtain⟨l,rfl,m,c0,c1,c2,c3⟩:=a.cells i;rw[xa i];exact(IW p l n h c _ _ _ _ _ _ b a.at_.lt m a.at_.c0 (by omega) a.many c0 c1 c2 c3).mono λe J⟨d,f⟩=>⟨d,by rw[f];exact(Below.refl _ _).alloc (Nat.le_refl _) _⟩
def dle(d)(g)(n h i j)(A:List Ob)(a:Nat)(f:a<fv A)(c)(b:jP ft c d g n h i j A):
  ik 113 #[ii d,fY<|(a:Int)+1] c (vd (fD #[.int .i64 A[a].kind,fA A[a].data,fy A[a].ea A[a].el A[a].ec,.int .i64 A[a].high]) c):=by
 obtain⟨k,rfl,l,c0,c1,c2,c3⟩:=b.cells f;exact(Ry d k n h a _ _ _ _ _ _ c b.at_.lt l b.at_.c0 (by rw[<-b.len];exact f) b.many c0 c1 c2 c3).mono λe J⟨m,o⟩=>⟨m,by rw[o];exact(Below.refl _ _).alloc (Nat.le_refl _) _⟩
def IZ(c)(d)(n h f g)(A:List Ob)(a:Nat)(i:a<fv A)(b)(j:jP ft b c d n h f g A):
  ik 173 #[ii c,fY<|(a:Int)+1] b (vd (.int .i64 A[a].high) b):=by
 have f3:=Hyp;go_enter func173,ntmps173;go_wp2_with(go_at_call 113;refine(dle c d n h f g A a i b j).mono ?_;rintro e J ⟨rfl,k⟩);go_ret;exact⟨fX,k⟩
theorem Nr(d)(g)(n h k l)(A)(id:Int)(c)(b:jP ft c d g n h k l A):
  ik 84 #[ii d,fY id] c λe J=>ju c J/\
   ((fJ A id≠1/\e=qr #[hZ ByteArray.empty,fY 13])\/∃a,∃i:a<fv A,id=(a:Int)+1/\A[a].kind=1/\e=qr #[fA A[a].data,fY 0]):=by
 by_cases hid:id<1\/(n:Int)<id;exact(dec d n h g id c b.at_.c0 b.many hid).mono λe J⟨j,f⟩=>⟨by rw[f];exact Below.refl _ _,.inl ⟨by rw[iJ (by rw[b.len];exact hid)];decide,j⟩⟩
 obtain⟨a,rfl⟩:∃a:Nat,id=(a:Int)+1:=⟨(id-1).toNat,by omega⟩;have i:a<fv A:=by rw[b.len];omega
 obtain⟨m,rfl,o,c0,c1,c2,c3⟩:=b.cells i;refine(WN d m n h a _ _ _ _ _ _ c b.at_.lt o b.at_.c0 (by omega) b.many c0 c1 c2 c3).mono λe J⟨j,f⟩=>⟨f,?_⟩
 grind [xa]
variable {ft:kE}
def Hb (A:List Ob)(e:fV):Bool:=!(fJ A e.2.2==0)&&(fJ A e.2.2==e.2.1)
def gy (A:List Ob)(es:List fV):Int:=es.foldl (λa e=>max a<|1+gp A e.2.2) 0
def RF(A)(a:List fV)(e:fV):gy A (a++[e])=max (gy A a) (1+gp A e.2.2):=by
 simp only[gy,List.foldl_append,List.foldl_cons,List.foldl_nil]
def dot (b J:fq)(A:List Ob)(a:List fV)(e:Ending):Prop:=
  Below b.heap.size b J/\
   (((∃x∈a,Hb A x=fo)/\e=fF (fC #[.int .i64 0,.int .i64 13]))\/
    ((∀x∈a,Hb A x=fm)/\5<gy A a/\e=fF (fC #[.int .i64 0,.int .i64 11]))\/
    ((∀x∈a,Hb A x=fm)/\gy A a<=5/\0<=gy A a/\e=fF (fC #[.int .i64<|gy A a,.int .i64 0])))
def Ld(p j W:Nat)(C)(n h D E m:Nat)(A)(a:List fV)(d)(F:jP ft d p C n h D E A)(s:fv a=m)(ah:m<=16)(u:j<d.heap.size)
  (L:∀c M,(flat a)[c]?=fh M->d.c j (0+c)=fh M)(N:∀v∈A,0<=v.high/\v.high<=5):
  ik 110 #[ii p,my j 0 m W] d λe J=>dot d J A a e:=by
 change fe _ at L s N
 go_enter func110,ntmps110;go_wp2
 go_loopw [6,12] (λt i wr=>∃k:Nat,k<=m/\i=.int .i64 k/\t=.int .i64 (gy A<|a.take k)/\0<=gy A (a.take k)/\gy A (a.take k)<=6/\ju d wr/\fe (∀c(f:c<fv a),c<k->Hb A a[c]=fm)) (λ_ i _=>m-(intOf i).toNat)
 case atStart=>exact⟨0,Nat.zero_le _,rfl,rfl,Int.le_refl _,by show(0:Int)<=6;decide,Below.refl _ _,λc f F=>by omega⟩
 case round=>
  obtain⟨k,ai,rfl,rfl,O,X,b,P⟩:=hrel;by_cases Y:k<m
  ·have w:k<fv a:=by rw[s.o];exact Y
   obtain⟨c0,c1,c2⟩:=lr L w;rw[Nat.zero_add]at c0 c1 c2;have d0:=(b.cell (p:=(ie j<|k*3)) u).trans c0;have d1:=(b.cell (p:=(ie j<|k*3+1)) u).trans c1;have d2:=(b.cell (p:=(ie j<|k*3+2)) u).trans c2;have aj:j<wr.heap.size:=Nat.lt_of_lt_of_le u b.size;clear c0 c1 c2;have y:=λ(o:fq)(q:ju d o)=>uq p C n h D E A a[k].2.2 o<|F.below q;obtain⟨z,l⟩:∃z,z=fJ A a[k].2.2:=⟨_,fX⟩;rw[<-l]at y
   change fe _ at l
   have box:=λ(Z:fq)(Q:Obj)(q:Below (wr.alloc Q).heap.size (wr.alloc Q) Z)(v:Nat)=>q.cell (p:=(ie wr.heap.size v)) (by simp);cases B:(z==0) with
   |true=>
    have r:fe (Hb A a[k]=fo):=by
     show Hb A a[k]=fo;unfold Hb;rw[<-l.o,B];rfl
    go_wp2_with(go_at_call 61;refine(y _<|b.alloc b.size _).via λR g=>?_);go_ret2;exact⟨(b.alloc b.size _).trans<|g.mono (by simp;have:=b.size;omega),.inl ⟨⟨a[k],List.getElem_mem w,r⟩,fX⟩⟩
   |false=>
    cases S:(z==a[k].2.1) with
    |false=>
     have r:fe (Hb A a[k]=fo):=by
      show Hb A a[k]=fo;unfold Hb;rw[<-l.o,B,S];rfl
     go_wp2_with(go_at_call 61;refine(y _<|b.alloc b.size _).via λR g=>?_;have G:=box _ _ g 1;simp at G);go_ret2;exact⟨(b.alloc b.size _).trans<|g.mono (by simp;have:=b.size;omega),.inl ⟨⟨a[k],List.getElem_mem w,r⟩,fX⟩⟩
    |true=>
     have r:fe (Hb A a[k]=fm):=by
      show Hb A a[k]=fm;unfold Hb;rw[<-l.o,B,S];rfl
     obtain⟨c,f,H⟩:∃c:Nat,c<fv A/\a[k].2.2=(c:Int)+1:=by
      by_cases hid:a[k].2.2<1\/(fv A:Int)<a[k].2.2
      have:=l.o
      rw[iJ hid]at this;simp[this]at B;exact⟨(a[k].2.2-1).toNat,by omega,by omega⟩
     have aa:fe (gp A a[k].2.2=A[c].high):=by
      show gp A a[k].2.2=A[c].high;rw[H];exact Cl f
     have T:=λ(o:fq)(q:ju d o)=>IZ p C n h D E A c f o<|F.below q;rw[<-H]at T;obtain⟨ak,al⟩:=N A[c]<|List.getElem_mem f;have f3:=Hyp;clear H;go_wp2_with(first
      |(go_at_call 61;refine(y _<|b.alloc b.size _).via λR g=>?_;have G:=box _ _ g 1;have ab:=box _ _ g 2;simp at G ab;have I:=(b.alloc b.size _).trans<|g.mono (by simp;have:=b.size;omega))
      |(go_at_call 173;refine(T _ I).via λam ac=>?_))
     have K:gy A (a.take<|k+1)=max (gy A<|a.take k) (1+A[c].high):=by
      rw[List.take_succ_eq_append_getElem w,RF,aa.o]
     go_roundw
     case rel=>
      refine⟨k+1,by omega,by go_num,by rw[K],by rw[K];omega,by rw[K];omega,I.trans<|ac.mono I.size,?_⟩;intro i U an;by_cases e:i=k;subst e;exact r;exact P i U<|by omega
     case measure=>simp[intOf];omega
  have ad:k=m:=by omega
  have V:fe (∀x∈a,Hb A x=fm):=by
   intro x ae;obtain⟨c,f,rfl⟩:=List.getElem_of_mem ae;exact P c f (by rw[ad,<-s.o];exact f)
  have af:fe (a.take k=a):=List.take_of_length_le (by rw[s.o];omega);rw[af.o]at O X |-;by_cases ag:5<gy A a
  ·go_wp2
   go_ret2;exact⟨b,.inr<|.inl ⟨V,ag,fX⟩⟩
  go_wp2;go_ret2;exact⟨b,.inr (.inr ⟨V,by omega,O,fX⟩)⟩
variable {ft:kE}
def inc(b)(d)(n h e f)(A)(id:Int)(a)(j:jP ft a b d n h e f A)(c:fJ A id≠2):
  ik 85 #[ii b,fY id] a (vd (fC #[fy fj 0 0,fY 13]) a):=by
 have g:=uq b d n h e f A id a j;obtain⟨k,i⟩:=oX<|fJ A id;rw[<-i]at g c;have m:(k==2)=fo:=by simpa using c
 clear i c;go_enter func85,ntmps85;go_wp2_with(go_at_call 61;refine g.via λJ l=>?_);go_ret2;exact⟨fX,l⟩
def EZ{b:fq}{c m}{d}(e:b.ownsRow 0 96 3 (my c 0 m m) m d):∃a,fe (b.heap[c]?=fh (.cells a 96 (0,0)))/\fe (a.size=m*3):=by
 rcases e.2 with⟨f,_⟩|⟨j,k,a,g,_,h,_,_,i,_⟩
 cases f;cases g;exact⟨a,h,i⟩
def pz{a b c}(d:ju a b)(e:b.grownBy c fj):fe (ju a c):=d.grown e d.size (λk f=>by cases f)
theorem WT{d e}{b:Nat}{f}(h:ju d e)(i:b<d.heap.size)(j:∀a g,(flat f)[a]?=fh g->d.cell? (ie b<|0+a)=fh g):∀a c,(flat f)[a]?=fh c->e.cell? (((ie b 0):Addr).add a)=fh c:=by
 intro a c k;have l:((ie b 0):Addr).add a=(ie b<|0+a):=by unfold Addr.add;split<;>simp_all
 rw[l,h.cell (p:=(ie b<|0+a)) i,j a c k]
def dpq(g)(l)(n h o p)(A:List Ob)(a i m c:Nat)(d:List fV)(t:a<fv A)(b)(j:jP ft b g l n h o p A)(u:A[a].kind=2)
  (v:A[a].ea=fh (ie i 0))(w:A[a].el=m)(x:A[a].ec=c)(X:m<=16)(f:fv d=m)(I:i<b.heap.size)(y:∀a z,(flat d)[a]?=fh z->b.c i (0+a)=fh z):
  ik 85 #[ii g,fY<|(a:Int)+1] b λe J=>∃B,e=qr #[my B 0 m m,fY 0]/\J.ownsRow b.heap.size 96 3 (my B 0 m m) m (flat d)/\ju b J:=by
 have C:=uq g l n h o p A ((a:Int)+1) b j;rw[xa t,u]at C;have D:=λ(E:fq)(K:ju b E)=>dle g l n h o p A a t E (j.below K);rw[v,w,x]at D;have f2:=GMT;have⟨L,U,M,N,O⟩:=info_parts Ck
 change fe _ at y f
 clear v w x u;go_enter func85,ntmps85;go_wp2_with(first
  |(go_at_call 61;refine C.via λY q=>?_)
  |(go_at_call 113;refine(D _ q).via λr P=>?_)
  |(at_make;refine wpList_make_full _ fX _ _ 55 fX 0 96 L _ 3 underlying55 U M N .i64 .i64 _ _ m fX fX fX fX ?_ ?_ (Nat.zero_le _) ?_;go_must(rw[O];omega);go_must(unfold maxLen;omega);intro Z Q R;have⟨S,T,F⟩:=EZ Q;have G:=q.trans<|P.mono q.size;have s:=pz G R)
  |(refine vB fX (.tmp 19) (.tmp 20) 55 55 fX 96 underlying55 3 Es r.heap.size 0 m m (ie i 0) m c fX fX S 96 T (flat d) ?_ ?_ ?_ (mH d) (flat d).toArray ?_ ?_;go_must(rw[ly,f.o];exact congrArg (· * 3) (Nat.min_self m).symm);go_must(exact WT (s) I y);go_must(rw[ly,f.o,F.o];omega);go_must(simp only[List.take_zero,List.nil_append,Nat.zero_add];rw[List.drop_eq_nil_of_le (by rw[ly,f.o,Array.length_toList,F.o];exact Nat.le_refl _),List.append_nil]);intro aa V W))
 go_ret2;have H:=G.size;refine⟨r.heap.size,fX,⟨by rw[ly,f.o],.inr ⟨r.heap.size,m,(flat d).toArray,fX,H,V,Nat.le_refl _,by unfold maxLen;omega,by simp[ly,f.o],?_⟩⟩,?_⟩;simp only;exact List.take_of_length_le (by rw[ly,f.o];exact Nat.le_refl _);exact s.grown W s.size (λk j=>by cases j;exact H)
variable {ft:kE}
theorem vC(a:fq)(z cs)(t):(a.alloc<|.cells z t).setRow a.heap.size cs=a.alloc (.cells cs t):=by
 have c:((a.alloc<|.cells z t).setRow a.heap.size cs).heap=(a.alloc<|.cells cs t).heap:=by
  apply Array.ext_getElem?;intro k;by_cases b:k=a.heap.size
  grind [setRow_heap,heap_alloc_new]
  rw[setRow_other _ _ _ _ b];show(a.heap.push _)[k]?=(a.heap.push _)[k]?
  grind
 grind [World.setRow,World.alloc]
theorem AA{W:Nat->fq}{e n}{b:DataW Unit}{f}{d:Lit}(h:∀a,(W a).ownsMap prog 208 (plainElem prog 29) e n b)(i:keyOf prog 208 f=fh d):
  ∃c:Int,(∀a,(Instr.lookup 183 (.map<|fh e) f fm).run prog (W a)=.ok (fC #[fY c,fE<|Maps.has b d]) (W a))/\b.atKey d (.lit<|.int .i64 0)=.lit (.int .i64 c)/\(Lit.int .i64 c).wf=fm:=by
 have one:∀a,∃c:Int,(Instr.lookup 183 (.map<|fh e) f fm).run prog (W a)=.ok (fC #[fY c,fE<|Maps.has b d]) (W a)/\b.atKey d (.lit<|.int .i64 0)=.lit (.int .i64 c)/\(Lit.int .i64 c).wf=fm:=by
  intro a;have⟨l,m,o,j⟩:=(h a).look_ok EX underlying183 (rM _) (plainElem_int underlying29<|by decide) i;obtain⟨c,rfl,p,g⟩:=plainElem_int_inv underlying29 j
  grind
 have⟨c,_,k,g⟩:=one 0;refine⟨c,λa=>?_,k,g⟩;have⟨q,_⟩:=one a
 grind
def lY{d}{e:Array Oper}{f:fq->Prop}{h:Act->Prop}{a:Oper}{rest:List Oper}{c:Act}(k:a.guard=fj)(i:TypeId)(x)(l:a.op=.load i x)(j)(m:c.eval x=(ii j))
  (cs:Array fu)(n:∀b,f b->(loadVar i (ie j 0)).run d b=.ok (fD cs) b)(o:wpQuiet d e f h rest (c.put a.dst<|fD cs)):wpQuiet d e f h (a::rest) c:=by
 have g:Region.wanted a (yielded e c.tmps)=fm:=by simp[Region.wanted,k]
 refine wpQuiet_step λq p=>?_;rw[if_pos g];refine⟨_,λb g=>?_,p _ o⟩;unfold Oper.quietAt execOp;simp only[l,m,Instr.loadAt,Instr.sureAddr,Sem.run_bind,Sem.run_pure,Result.andThen_ok,n b g];exact⟨fX,fX⟩
def qK{e}{f:Array Oper}{g:fq->Prop}{i:Act->Prop}{a:Oper}{rest:List Oper}{b:Act}(n:a.guard=fj)(t:TypeId)(m x)(c:Bool)(o:a.op=.lookup t m x c)(j k l:fu)(p:b.eval m=j)(q:b.eval x=k)
  (r:∀d,g d->(Instr.lookup t j k c).run e d=.ok l d)(s:wpQuiet e f g i rest (b.put a.dst l)):wpQuiet e f g i (a::rest) b:=by
 have h:Region.wanted a (yielded f b.tmps)=fm:=by simp[Region.wanted,n]
 refine wpQuiet_step λv u=>?_;rw[if_pos h];refine⟨_,λd h=>?_,u _ s⟩;unfold Oper.quietAt execOp;simp only[o,p,q,Sem.run_bind,Sem.run_pure,Result.andThen_ok,r d h];exact⟨fX,fX⟩
def pE{d}{e:Array Oper}{b}{f:Act->Prop}{a:Oper}{rest:List Oper}{c:Act}(i:a.guard=fj)(g:TypeId)(x)(j:a.op=.load g x)(h)(k:c.eval x=(ii h))
  (cs:Array fu)(l:(loadVar g<|ie h 0).run d b=.ok (fD cs) b)(m:wpStill d e b f rest (c.put a.dst<|fD cs)):wpStill d e b f (a::rest) c:=by
 have n:Region.wanted a (yielded e c.tmps)=fm:=by simp[Region.wanted,i]
 refine wpStill_step λp o=>?_;rw[if_pos n];unfold Oper.still execOp;simp only[j,k,Instr.loadAt,Instr.sureAddr,Sem.run_bind,Sem.run_pure,Result.andThen_ok,l];exact⟨fX,o _ m⟩
theorem oq{a:fq}{b d:Nat}{c f:Array fu}{t e}{fz g}(h:a.heap[b]?=fh (.cells c t fz))(i:a.heap[d]?=fh (.cells f e g))(j:t≠e):b≠d:=by
 grind
def AB (ft:kE)(b J:fq)(c:Nat)(d:Option Addr)(n h f g R:Nat)(k:TypeId)(cells:List fu)(i:DataW Unit):Prop:=
 ∃a e,gw ft J c (fh ⟨a,0,fj⟩) (n+1) e f g/\J.ownsRow 0 213 4 (fy (fh ⟨a,0,fj⟩) (n+1) e) (n+1) cells/\((fh a:Option Nat)=(Value.slice d n h).ownBlock\/b.heap.size<=a)/\
  J.ownsMap prog k (plainElem prog 29) R (n+1) i/\RA b J c R (Value.slice d n h).ownBlock
theorem Ja{i f}{c}{p}{n h v a q:Nat}{A}{l:DataW Unit}{j:Array fu}{r:Lit}{Y}(nq)(d:jP ft i c p n h v a A)(s:i.ownsMap prog 208 (plainElem prog 29) a n l)
  (m:i.heap[q]?=fh (.cells j 208 (0,0)))(C:IX (i.drewN nq) f c p n h (gB A) Y)(V:keyOf prog 208 (fD j)=fh r)(W:n<400)(X:j.size=48):
  f.c c 2=fh (.map<|fh a)/\(loadVar 208<|ie q 0).run prog f.drew=.ok (fD j) f.drew/\
   fe (f.drew.ownsMap prog 208 (plainElem prog 29) a n l)/\fe (∀o,o.ownsMap prog 208 (plainElem prog 29) a (n+1) (l.put r<|.lit (.int .i64<|(n:Int)+1))->f.drew.grownBy o (fh a)->AB ft i o c p n h v a a 208 (gB A++Y) (l.put r<|.lit (.int .i64<|(n:Int)+1))):=by
 have⟨D,F,w,x,G,H,I,J,t,u⟩:=C.facts (show(i.drewN nq).heap[c]?=_ from d.at_)<|il d.row (b:=c) d.at_ (by decide);have⟨E,Z,y⟩:=pu s;have z:a≠c:=by rintro rfl;have:=d.at_;unfold gw at this;rw[y]at this;cases this
 have K:=oq m d.at_ (by decide);have L:=pC s<|u a s.lt z (rv d.row y);have M:=(u _ (Array.getElem?_eq_some_iff.1 m).1 K<|il d.row m (by decide)).trans m;have N:=run_loadVar_row (P:=prog) f.drew q 208 208 j (0,0) _ M underlying208 fX (by grind [oo]);refine⟨gw.c2 w,N,L.drew,λo O g=>⟨D,F,?_,?_,G,O,⟨?_,?_,?_,Nat.le_trans t g.size,?_⟩⟩⟩;unfold gw;rw[g.block c (Nat.lt_of_lt_of_le d.at_.lt t) λe=>z (Option.some.inj e).symm];exact w;refine gg x λQ R=>(g.block Q (gc x R) ?_)
 grind [pu,rv]
 rw[g.os];exact H;rw[g.tape];exact I;rw[g.output];exact J;intro k B S T U;rw[g.block k (Nat.lt_of_lt_of_le B t) λe=>T<|Option.some.inj e];exact u k B S U
def tcp (ft:kE)(f J:fq)(k:Nat)(l:Option Addr)(n h o g:Nat)(d:DataW Unit)(A:List Ob)(a:List fV)(m:Nat)(e:Ending):Prop:=
 (Below f.heap.size f J/\
  (((∃x∈a,fN x.1=fo)/\e=fF (fC #[.int .i64 0,.int .i64 1]))\/
   ((∀x∈a,fN x.1=fm)/\
    ((¬(a.map (·.1)).Nodup/\e=fF (fC #[.int .i64 0,.int .i64 6]))\/
    ((a.map (·.1)).Nodup/\16<fv a/\e=fF (fC #[.int .i64 0,.int .i64 11]))\/
    ((a.map (·.1)).Nodup/\fv a<=16/\(∃x∈a,Hb A x=fo)/\e=fF (fC #[.int .i64 0,.int .i64 13]))\/
    ((a.map (·.1)).Nodup/\fv a<=16/\(∀x∈a,Hb A x=fm)/\∃b,b.Perm a/\iI b/\
     ((5<gy A b/\e=fF (fC #[.int .i64 0,.int .i64 11]))\/
      (gy A b<=5/\Maps.has d (pj prog b)=fm/\∃c,d.atKey (pj prog b) (.lit<|.int .i64 0)=.lit (.int .i64 c)/\e=fF (fC #[.int .i64 c,.int .i64 0]))\/
      (gy A b<=5/\Maps.has d (pj prog b)=fo/\400<=n/\e=fF (fC #[.int .i64 0,.int .i64 11]))))))))\/
 ((∀x∈a,fN x.1=fm)/\(a.map (·.1)).Nodup/\fv a<=16/\(∀x∈a,Hb A x=fm)/\n<400/\∃b,b.Perm a/\iI b/\gy A b<=5/\0<=gy A b/\Maps.has d (pj prog b)=fo/\
  e=fF (fC #[.int .i64<|(n:Int)+1,.int .i64 0])/\∃i j,J.ownsRow f.heap.size 96 3 (fy (fh ⟨i,0,fj⟩) m j) m (flat b)/\
   AB ft f J k l n h o g g 208 (gB A++[.int .i64 2,fA ByteArray.empty,fy (fh ⟨i,0,fj⟩) m j,.int .i64<|gy A b]) (d.put (pj prog b)<|.lit (.int .i64<|(n:Int)+1)))
def AB.before{d e J}{f}{g}{n h i j R}{k}{cells}{l:DataW Unit}(c:AB ft e J f g n h i j R k cells l)(a:ju d e):AB ft d J f g n h i j R k cells l:=by
 have⟨o,p,q,r,s,t,b⟩:=c;refine⟨o,p,q,r,s.imp id λc=>Nat.le_trans a.size c,t,⟨b.os.trans a.os,b.tape.trans a.tape,b.output.trans a.output,Nat.le_trans a.size b.size,?_⟩⟩;intro k m u v w;rw[b.block k (Nat.lt_of_lt_of_le m a.size) u v w,a.block k m]
theorem AB.keeps{c J}{f}{g}{n h i j R}{k}{cells}{u:DataW Unit}{A}(v:AB ft c J f g n h i j R k cells u)(l:jP ft c f g n h i j A)
  {E:Array MapEntry}{w}(x:c.heap[R]?=fh (.map E w)){o}{e}{p m}{q}{r}(a:c.ownsRow o e p q m r)(y:e≠213)(z:e≠185):J.ownsRow o e p q m r:=by
 have⟨F,G,_,_,_,_,B⟩:=v;refine gg a λC d=>?_;have s:=il a (b:=f) l.at_ λe=>z e.symm;have t:=rv a x;rw[d]at s t;apply B.block C (gc a d) (λe=>s (by rw[e])) λe=>t (by rw[e]);rcases a.2 with⟨rfl,_⟩|⟨H,I,K,rfl,_,D,_⟩
 grind [Value.ownBlock]
 simp only[Value.ownBlock,Option.some.injEq]at d;subst d;exact il l.row D y
theorem Vg{A:List Ob}(k:∀c∈A,c.kind=1\/c.kind=2)(l:fv A<=400){e:fV}(d:fN e.1=fm)(a:Hb A e=fm):Fits e:=by
 have m:=xj d;unfold Hb at a;simp only[Bool.and_eq_true,Bool.not_eq_true',beq_eq_false_iff_ne,beq_iff_eq]at a;have⟨f,g⟩:=a;have hid:¬(e.2.2<1\/(fv A:Int)<e.2.2):=λh=>f<|iJ h;refine⟨by unfold maxLen;omega,?_,WalkArith.wf_i64<|by omega⟩;obtain⟨b,i⟩:∃b:Nat,e.2.2=(b:Int)+1:=⟨(e.2.2-1).toNat,by omega⟩;have j:b<fv A:=by omega
 rw[i,xa j]at g
 grind [List.getElem_mem,WalkArith.wf_i64]
theorem RG(q b off m c0:Nat)(v)(n h B j)(A)(r:DataW Unit)(w:List fV)(i)(C:jP ft i q v n h B j A)(ac:i.ownsMap Tryz.prog 208 (plainElem Tryz.prog 29) j n r)
  (ad:w.length=m)(aA:b<i.heap.size)(ae:m*32<=140737488355328)(af:∀ag ah,(flat w)[ag]? = some ah->i.cell? (ie b<|off+ag)=some ah)
  (ai:∀e ∈ w,e.1.size<=maxLen)(aB:∀D ∈ A,0<=D.high/\D.high<=5)(aj:∀D ∈ A,D.kind=1\/D.kind=2):
  ik 60 #[ii q,.slice (some<|ie b off) m c0] i λe J=>tcp ft i J q v n h B j r A w m e:=by
 have ak:=Lc b off m c0 w i ad aA ae af ai;go_enter Tryz.func60,Tryz.ntmps60;go_wp2_with fail;apply ak.mono;rintro e aC ⟨k,⟨f,rfl⟩ | ⟨f,l,rfl⟩ | ⟨f,l,t,rfl⟩ | ⟨f,l,t,a,g,s,rfl,o,F,K⟩⟩
 ·go_wp2
  go_ret2;exact .inl ⟨k,.inl ⟨f,fX⟩⟩
 ·go_wp2
  go_ret2;exact .inl ⟨k,.inr ⟨f,.inl ⟨l,fX⟩⟩⟩
 ·go_wp2
  go_ret2;exact .inl ⟨k,.inr ⟨f,.inr<|.inl ⟨l,t,fX⟩⟩⟩
 have al:a.length=m:=by rw[o.length_eq,ad]
 have am:m<=16:=by omega
 have an:=Ld q g s v n h B j m A a aC (C.below k) al am (gc K fX) (ks K) aB
 change Hid _ at f l t o F aj
 clear ak af ae ai;go_wp2_with fail;apply an.mono;rintro e S ⟨L,⟨y,rfl⟩ | ⟨y,G,rfl⟩ | ⟨y,G,aD,rfl⟩⟩
 ·go_wp2
  go_ret2;have⟨x,H,aE⟩:=y;exact .inl ⟨k.trans<|L.mono k.size,.inr ⟨f,.inr<|.inr (.inl ⟨l,t,⟨x,o.mem_iff.1 H,aE⟩,fX⟩)⟩⟩
 ·go_wp2
  go_ret2;exact .inl ⟨k.trans<|L.mono k.size,.inr ⟨f,.inr<|.inr (.inr ⟨l,t,λx H=>y x<|o.mem_iff.2 H,a,o,F,.inl ⟨G,fX⟩⟩)⟩⟩
 have u:ju i S:=k.trans<|L.mono k.size;have M:S.ownsRow i.heap.size 96 3 (.slice (some<|ie g 0) m s) m (flat a):=gg K λg T=>L.block g<|gc K T;have ao:=Az g m s a S al (gc M fX) am<|ks M;have N:Hid ((kv a).size=48):=kN (by omega);clear an;go_wp2_with (first
  | (go_at_call 111;refine ao.via λd z=>?_)
  | (refine wpList_store_row fX 208 _ _ fX d.heap.size (kv a) fX fX 208 _ (heap_alloc_new d _) (by rw[N.o];exact oo) (by rw[N.o];rfl) (qc a) ?_;rw[vC]))
 have aQ:=(C.below<|(u.trans (z.mono u.size)).alloc (by have:=z.size;have:=u.size;omega) (.cells (kv a) 208)).at_.c2;have U:(d.alloc<|.cells (kv a) 208).ownsMap Tryz.prog 208 (plainElem Tryz.prog 29) j n r:=(pC ac<|(u.trans (z.mono u.size)).block j ac.lt).alloc _;have V:(d.alloc<|.cells (kv a) 208).heap[d.heap.size]? = some (.cells (kv a) 208 (0,0)):=heap_alloc_new d _;have I:ju i (d.alloc<|.cells (kv a) 208):=(u.trans<|z.mono u.size).alloc (by have:=z.size;have:=u.size;omega) _;have aF:Hid ((d.alloc<|.cells (kv a) 208).ownsRow i.heap.size 96 3 (.slice (some<|ie g 0) m s) m<|flat a):=World.ownsRow.alloc (gg M λg T=>z.block g<|gc M T) _;have aG:∀e ∈ a,Fits e:=λe ap=>Vg aj (by rw[C.len];exact C.many) (f e<|o.mem_iff.1 ap)<|y e ap;have X:Hid (∀x ∈ w,Hb A x=true):=λx H=>y x<|o.mem_iff.2 H;have Y:=kX a (by omega) aG;have⟨c,aH,Z,aq⟩:=AA (W:=λO=>(d.alloc (.cells (kv a) 208)).drewN O) (λO=>U) Y;have aI:=λO=>run_loadVar_row (P:=Tryz.prog) ((d.alloc<|.cells (kv a) 208).drewN O) d.heap.size 208 208 (kv a) (0,0) _ V Tryz.underlying208 fX (by rw[N.o];exact oo)
 go_frame
 change Hid _ at V
 generalize d.alloc (.cells (kv a) 208)=W at *;refine wp_region_quiet_lit (by kernel_rfl) (by kernel_rfl) ?_
 iterate 4 quiet_step (fail)
 apply lY fX 208 _ fX d.heap.size fX (kv a) (by grind)
 go_frame
 apply qK fX 183 _ _ true fX (.map<|some j) (.agg<|kv a) (.tuple #[fY c,.bool<|Maps.has r (pj Tryz.prog a)]) fX fX (by grind)
 go_frame
 repeat (quiet_step (fail))
 apply wpQuiet_nil;rintro _ ⟨nq,rfl⟩;have p:jP ft W q v n h B j A:=C.below I;clear aI aH ao;cases aa:Maps.has r (pj Tryz.prog a) with
 | true=>
  have Q:Hid (Maps.has r (pj Tryz.prog a)=true):=aa;have aJ:Hid (r.atKey (pj Tryz.prog a) (.lit<|.int .i64 0)=.lit (.int .i64 c)):=Z;clear aa Z aq;go_wp2;go_ret2;exact .inl ⟨below_drewN I _,.inr ⟨f,.inr<|.inr (.inr ⟨l,t,X,a,o,F,.inr<|.inl ⟨G,Q,c,aJ,fX⟩⟩)⟩⟩
 | false=>
  have Q:Hid (Maps.has r (pj Tryz.prog a)=false):=aa;clear Z aq;by_cases ar:400<=n
  ·have R:=EO q 2 (gy A a) ByteArray.empty v n h (some<|ie g 0) m s (W.drewN nq) p.at_.lt ar p.at_.c0
   go_wp2_with (go_at_call 112;refine R.mono ?_;rintro e aK ⟨rfl,rfl⟩);go_ret2;exact .inl ⟨(below_drewN I _).alloc (below_drewN I _).size _,.inr ⟨f,.inr<|.inr (.inr ⟨l,t,X,a,o,F,.inr<|.inr ⟨G,Q,ar,fX⟩⟩)⟩⟩
  have ab:n<400:=by omega
  have au:=il p.row (b:=q) p.at_ (by decide);have R:=EN q 2 (gy A a) ByteArray.empty v n h (gB A) (some<|ie g 0) m s (W.drewN nq) p.at_.lt ab p.at_.c0 p.at_.f0 p.row au;go_wp2_with (go_at_call 112;refine R.via λaK av=>?_);have⟨aR,aL,aM,aN⟩:=Ja nq p U V av Y ab N;clear av R au;apply wp_region_still_tail 6 (by kernel_rfl) (by kernel_rfl);simp only[List.take_succ_cons,List.take_zero,List.drop_succ_cons,List.drop_zero]
  iterate 4 still_step
  apply pE fX 208 _ fX d.heap.size fX (kv a) aL
  go_frame
  still_step
  apply wpStill_nil;refine wpList_mapUpdate_own _ fX _ _ _ 183 fX 208 29 EX Tryz.underlying183 _ j n _ fX aM (by unfold maxLen;omega) _ _ _ fX fX Y _ [] (plainElem_int Tryz.underlying29<|WalkArith.wf_i64 (by omega)) ?_;intro aw ax ay;have az:Hid (AB ft W aw q v n h B j j 208 (gB A ++ [fY 2,.string ByteArray.empty,.slice (some<|ie g 0) m s,fY<|gy A a])<|r.put (pj Tryz.prog a) (.lit<|.int .i64 ((n:Int)+1))):=aN aw ax ay;clear ax ay;go_wp2;go_ret2;have⟨E,aS,aO⟩:=pu U;have aP:W.ownsRow i.heap.size 96 3 (.slice (some<|ie g 0) m s) m (flat a):=aF.o;exact .inr ⟨f,l,t,X,ab,a,o,F,G,aD,Q,fX,g,s,az.keeps p aO aP (by decide)<|by decide,az.before I⟩
variable {ft:kE}
def Fa{P:Program}(a)(c j k b:TypeId)(l:Nat)(d e:Option Addr)(f m g n)(o:P.underlying c=fh (.slice b))(p:(P.info? b).map (·.size)=fh l)(q:Nat.min g f=0):
  (Builtin.copy_ #[c,j] k #[fy d f m,fy e g n]).run P a=.ok (goInt 0) a:=by
 rcases h:P.info? b with _|i
 simp[h]at p;have r:∀(x:Addr),(loadCells x 0).run P a=.ok #[] a:=λx=>by simpa using run_loadCells_list (P:=P) a x [] (by simp)
 cases d<;>cases e<;>simp[Builtin.copy_,run_underlying o,Builtin.lenOf,Builtin.firstCells,sizeOf,typeInfo,h,q,storeCells,r]
def sV{P:Program}{c}{i:Array Oper}{rest:List Oper}{a:Oper}{b:Act}{j:Exit->Act->fq->Prop}(r:a.guard=fj)(d k:Operand)(e l:TypeId)
  (s:a.op=.call { callee:=.builtin .copy,args:=#[d,k],argTypes:=#[e,l] })(f:TypeId)(t:P.underlying e=fh (.slice f))(m:Nat)(u:(P.info? f).map (·.size)=fh m)
  (n o:Option Addr)(g p h q)(v:b.eval d=fy n g p)(w:b.eval k=fy o h q)(x:Nat.min h g=0)
  (y:wpList P i j rest (b.put a.dst<|goInt 0) c):wpList P i j (a::rest) b c:=by
 refine wpList_plain r λA z=>?_;unfold Oper.wp;simp[execOp,s,resolve,invoke,builtin,v,w,(Fa (P:=P) c e l a.type f m n o g p h q t u x),Result.andThen];exact z _ _ y
def Ns(a:fq):ik 109 #[fy fj 0 0] a (vd (fC #[fy fj 0 0,fY 0]) a):=by
 have c:=λb=>AnyE.slices_Clone_nil Rw 0 0 b;have d:=λe b=>AnyF.slices_SortFunc_none aaz fj 0 e b;go_enter func109,ntmps109;go_wp2
 go_loopw [11] (λi wr=>i=.int .i64 0/\ju a wr) (λ_ _=>0)
 case atStart=>exact⟨rfl,Below.refl _ _⟩
 case round=>
  obtain⟨rfl,f⟩:=hrel;go_wp2_with fail;apply Calls.still<|c _;go_wp2_with fail;apply Calls.still<|d _ _;go_wp2
  go_loopw [7] (λi wr=>i=.int .i64 1/\ju a wr) (λ_ _=>0)
  case atStart=>exact⟨rfl,f⟩
  case round=>
   obtain⟨rfl,g⟩:=hrel;go_wp2
   go_loopw [47] (λi wr=>i=.int .i64 0/\ju a wr) (λ_ _=>0)
   case atStart=>exact⟨rfl,g⟩
   case round=>
    obtain⟨rfl,h⟩:=hrel;go_wp2;go_ret2;exact⟨fX,h⟩
def Nt(b)(a:fq):ik 110 #[ii b,fy fj 0 0] a (vd (fC #[fY 0,fY 0]) a):=by
 go_enter func110,ntmps110;go_wp2
 go_loopw [6,12] (λt i wr=>i=.int .i64 0/\t=.int .i64 0/\ju a wr) (λ_ _ _=>0)
 case atStart=>exact⟨rfl,rfl,Below.refl _ _⟩
 case round=>
  obtain⟨rfl,rfl,c⟩:=hrel;go_wp2;go_ret2;exact⟨fX,c⟩
def Da(a:fq):ik 111 #[fy fj 0 0] a (vd (fD<|kv []) a):=by
 have b:fe ((kv []).size=48):=kN (by simp);have e:fe (EW.toArray=kv []):=by show EW.toArray=kv [];simp[kv,flat]
 go_enter func111,ntmps111;have f:∀d c:Obj,((a.alloc d).alloc c).heap[a.heap.size+1]?=fh c:=λd c=>heap_alloc2_new _ _ _
 go_wp2_with(first
  |(apply sV fX (.tmp 4) (.tmp 5) 55 55 fX 96 underlying55 3 Es _ _ 16 16 0 0 fX fX fX)
  |(refine wpList_load_row fX 208 _ fX (a.heap.size+1) fX 208 (kv []) (0,0) _ (e.o▸f _ _) underlying208 fX (by rw[b.o];exact oo) ?_)
  |(refine wpList_store_row fX 208 _ _ fX a.heap.size (kv []) fX fX 208 _ (heap_alloc2_old _ _ _) (by rw[b.o];exact oo) (by rw[b.o];rfl) (qc []) ?_)
  |go_in)
 refine bodyPost_ret (v:=fD<|kv []) (results_cell_row results111 _ _ a.heap.size 208 (kv []) (0,0) _ fX (setRow_heap _ a.heap.size _ _ 208 (0,0)<|heap_alloc2_old _ _ _) underlying208 fX (by rw[b.o];exact oo)) fX ⟨fX,?_⟩;exact below_setRow (((Below.refl _ _).alloc (Nat.le_refl _) _).alloc (by simp) _) (Nat.le_refl _) _
def WU (ft:kE)(b J:fq)(f:Nat)(g:Option Addr)(n h i d:Nat)(a:DataW Unit)(A:List Ob)(e:Ending):Prop:=
 (Below b.heap.size b J/\
  ((Maps.has a (pj prog [])=fm/\∃c,a.atKey (pj prog []) (.lit<|.int .i64 0)=.lit (.int .i64 c)/\e=fF (fC #[.int .i64 c,.int .i64 0]))\/
   (Maps.has a (pj prog [])=fo/\400<=n/\e=fF (fC #[.int .i64 0,.int .i64 11]))))\/
 (n<400/\Maps.has a (pj prog [])=fo/\e=fF (fC #[.int .i64<|(n:Int)+1,.int .i64 0])/\
  AB ft b J f g n h i d d 208 (gB A++[.int .i64 2,fA ByteArray.empty,fy fj 0 0,.int .i64 0]) (a.put (pj prog [])<|.lit (.int .i64<|(n:Int)+1)))
def RH(f)(m)(n h q d)(A)(g:DataW Unit)(l)(z:jP ft l f m n h q d A)(B:l.ownsMap prog 208 (plainElem prog 29) d n g):
  ik 60 #[ii f,.slice fj 0 0] l λe J=>WU ft l J f m n h q d g A e:=by
 have C:=Ns l;go_enter func60,ntmps60;go_wp2_with fail;refine C.via λT D=>?_;have E:=Nt f T;clear C;go_wp2_with fail;refine E.via λF U=>?_;have j:ju l F:=D.trans<|U.mono D.size;have G:=Da F;have r:fe ((kv []).size=48):=kN (by simp);clear E;go_wp2_with (first
  | (go_at_call 111;refine G.via λa o=>?_)
  | (refine wpList_store_row fX 208 _ _ fX a.heap.size (kv []) fX fX 208 _ (heap_alloc_new a _) (by rw[r.o];exact oo) (by rw[r.o];rfl) (qc []) ?_;rw[vC]))
 have ae:=(z.below<|(j.trans (o.mono j.size)).alloc (by have:=o.size;have:=j.size;omega) (.cells (kv []) 208)).at_.c2;have H:(a.alloc<|.cells (kv []) 208).ownsMap prog 208 (plainElem prog 29) d n g:=(pC B<|(j.trans (o.mono j.size)).block d B.lt).alloc _;have u:(a.alloc<|.cells (kv []) 208).heap[a.heap.size]? = fh (.cells (kv []) 208 (0,0)):=heap_alloc_new a _;have p:ju l (a.alloc<|.cells (kv []) 208):=(j.trans<|o.mono j.size).alloc (by have:=o.size;have:=j.size;omega) _;have V:∀e ∈ ([]:List fV),Fits e:=λe X=>by cases X
 have v:=kX [] (by simp) V;have⟨c,I,w,K⟩:=AA (W:=λk=>(a.alloc (.cells (kv []) 208)).drewN k) (λk=>H) v;have L:=λk=>run_loadVar_row (P:=prog) ((a.alloc<|.cells (kv []) 208).drewN k) a.heap.size 208 208 (kv []) (0,0) _ u underlying208 fX (by rw[r.o];exact oo)
 go_frame
 change fe _ at u
 generalize a.alloc (.cells (kv []) 208)=W at *;apply wp_region_quiet_lit (by kernel_rfl)<|by kernel_rfl
 iterate 4 quiet_step (fail)
 refine lY fX 208 _ fX a.heap.size fX (kv []) (by rintro _ ⟨k,rfl⟩;exact L k) ?_
 go_frame
 refine qK fX 183 _ _ fm fX (.map<|fh d) (.agg<|kv []) (.tuple #[fY c,.bool<|Maps.has g (pj prog [])]) fX fX (by rintro _ ⟨k,rfl⟩;exact I k) ?_
 go_frame
 repeat (quiet_step (fail))
 apply wpQuiet_nil;rintro _ ⟨nq,rfl⟩;have i:jP ft W f m n h q d A:=z.below p;clear L I G;cases x:Maps.has g (pj prog []) with
 | true=>
  have s:fe (Maps.has g (pj prog [])=fm):=x;have Y:fe (g.atKey (pj prog []) (.lit<|.int .i64 0)=.lit (.int .i64 c)):=w;clear x w K;go_wp2;go_ret2;exact .inl ⟨below_drewN p _,.inl ⟨s,c,Y,fX⟩⟩
 | false=>
  have s:fe (Maps.has g (pj prog [])=fo):=x;clear w K;by_cases M:400<=n
  ·have t:=EO f 2 0 ByteArray.empty m n h fj 0 0 (W.drewN nq) i.at_.lt M i.at_.c0
   go_wp2_with (go_at_call 112;refine t.mono ?_;rintro e Z ⟨rfl,rfl⟩);go_ret2;exact .inl ⟨(below_drewN p _).alloc (below_drewN p _).size _,.inr ⟨s,M,fX⟩⟩
  have y:n<400:=by omega
  have N:=il i.row (b:=f) i.at_ (by decide);have t:=EN f 2 0 ByteArray.empty m n h (gB A) fj 0 0 (W.drewN nq) i.at_.lt y i.at_.c0 i.at_.f0 i.row N;go_wp2_with (go_at_call 112;refine t.via λZ O=>?_);have⟨af,aa,ab,ac⟩:=Ja nq i H u O v y r;clear O t N;apply wp_region_still_tail 6 (by kernel_rfl) (by kernel_rfl);simp only[List.take_succ_cons,List.take_zero,List.drop_succ_cons,List.drop_zero]
  iterate 4 still_step
  apply pE fX 208 _ fX a.heap.size fX (kv []) aa
  go_frame
  still_step
  apply wpStill_nil;refine wpList_mapUpdate_own _ fX _ _ _ 183 fX 208 29 EX underlying183 _ d n _ fX ab (by unfold maxLen;omega) _ _ _ fX fX v _ [] (plainElem_int underlying29<|WalkArith.wf_i64 (by omega)) ?_;intro Q R S;have ad:fe (AB ft W Q f m n h q d d 208 (gB A ++ [fY 2,.string ByteArray.empty,.slice fj 0 0,fY 0])<|g.put (pj prog []) (.lit<|.int .i64 ((n:Int)+1))):=ac Q R S;clear R S;go_wp2;go_ret2;exact .inr ⟨y,s,fX,ad.before p⟩
def inf(c)(d)(n h f g)(A:List Ob)(a:Nat)(k:a<fv A)(b)(l:jP ft b c d n h f g A)(m:A[a].kind=2)
  (o:A[a].ea=fj)(p:A[a].el=0)(q:A[a].ec=0):
  ik 85 #[ii c,fY<|(a:Int)+1] b λe J=>∃i,e=qr #[my i 0 0 0,fY 0]/\J.ownsRow b.heap.size 96 3 (my i 0 0 0) 0 (flat [])/\ju b J:=by
 have r:=uq c d n h f g A ((a:Int)+1) b l;rw[xa k,m]at r;have s:=λ(t:fq)(x:ju b t)=>dle c d n h f g A a k t (l.below x);rw[o,p,q]at s;have f2:=GMT;have⟨y,U,z,B,C⟩:=info_parts Ck;clear o p q m;go_enter func85,ntmps85;go_wp2_with(first
  |(go_at_call 61;refine r.via λP j=>?_)
  |(go_at_call 113;refine(s _ j).via λu D=>?_)
  |(at_make;refine wpList_make_full _ fX _ _ 55 fX 0 96 y _ 3 underlying55 U z B .i64 .i64 _ _ 0 fX fX fX fX ?_ ?_ (Nat.zero_le _) ?_;go_must(rw[C];omega);go_must(unfold maxLen;omega);intro Q v E;have w:=j.trans<|D.mono j.size;have F:=pz w E;have G:fe _:=v;clear v)
  |(apply sV fX (.tmp 19) (.tmp 20) 55 55 fX 96 underlying55 3 Es _ fj 0 0 0 0 fX fX fX))
 go_ret2;refine⟨u.heap.size,fX,⟨fX,?_⟩,F⟩;rcases G.2 with⟨H,_⟩|⟨i,R,I,K,_,L,M,N,O,_⟩
 cases H;cases K;exact .inr ⟨u.heap.size,0,I,fX,w.size,L,M,N,O,by simp[flat]⟩
