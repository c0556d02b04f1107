/-
  What is proved here: the walks of what a survey calls: pick, note, inside.
-/
import Derived.Test.YtajopoddmfdejaaGreatRetM39
import Derived.Test.YtajopoddmfdejaaGreatRetM10
import Derived.Deep.RegionHeld3
namespace Go.Proofs.YtajopoddmfdejaaGreat
open Go.RowKit Go.Sort Go.Shelf
set_option linter.unusedVariables false
set_option maxRecDepth 100000
set_option maxHeartbeats 16000000
def pickE (es:List Ent)(n:ByteArray):Ent:=match getK es n with
 | none=>(⟨#[]⟩,0,0)
 | some c=>(n,c)
theorem tpick_none (la:Option Addr)(ln lc:Nat)(n:ByteArray)(ix:Int)(w:World)
  (hsea:∀ W,Below w.heap.size w W->Calls Tryz.prog 77 #[.slice la ln lc,.string n] W fun e w'=>e=.returned (.tuple #[.int .i64 ix,.bool false])/\Below W.heap.size W w'):
  Calls Tryz.prog 139 #[.slice la ln lc,.string n] w fun e w'=>e=.returned (.agg #[.string ⟨#[]⟩,.int .i64 0,.int .i64 0])/\Below w.heap.size w w':=by
 have hb0:Below w.heap.size w (w.alloc (.cells #[.string ByteArray.empty,.int .i64 0,.int .i64 0] 76)):=(Below.refl _ _).alloc (Nat.le_refl _) _
 have HS:Hid _:=hsea _ hb0
 have HB0:Hid _:=hb0
 clear hsea hb0
 go_enter Tryz.func139,Tryz.ntmps139
 go_wp2_with fail
 refine Calls.mono HS.out ?_
 rintro e w1 ⟨rfl,hb1⟩
 obtain⟨hc1,hf1⟩:=bcell hb1
 have hz1:w.heap.size<w1.heap.size:=Nat.lt_of_lt_of_le (by simp) hb1.size
 have h1:Below w.heap.size w w1:=below_via HB0.out hb1
 clear HS HB0
 go_wp2
 exact bodyPost_ret (v:=.agg #[.string ⟨#[]⟩,.int .i64 0,.int .i64 0]) (by simp[results,Tryz.results139,go_sem,hc1]) rfl ⟨rfl,by
  repeat (first | exact h1 | (refine Below.setCell ?_ (by simp) _))⟩
theorem tpick_some (gb ln lc k:Nat)(n:ByteArray)(y:Ent)(w:World)(hk:k<ln)(hl:ln<=16)(hg:gb<w.heap.size)
  (hc:w.cell? ⟨gb,k*3,none⟩=some (.string y.1)/\w.cell? ⟨gb,k*3+1,none⟩=some (.int .i64 y.2.1)/\w.cell? ⟨gb,k*3+2,none⟩=some (.int .i64 y.2.2))
  (hsea:∀ W,Below w.heap.size w W->Calls Tryz.prog 77 #[.slice (some ⟨gb,0,none⟩) ln lc,.string n] W fun e w'=>e=.returned (.tuple #[.int .i64 (k:Int),.bool true])/\Below W.heap.size W w'):
  Calls Tryz.prog 139 #[.slice (some ⟨gb,0,none⟩) ln lc,.string n] w fun e w'=>e=.returned (.agg #[.string y.1,.int .i64 y.2.1,.int .i64 y.2.2])/\Below w.heap.size w w':=by
 obtain⟨y0,y1,y2⟩:=hc
 have hb0:Below w.heap.size w (w.alloc (.cells #[.string ByteArray.empty,.int .i64 0,.int .i64 0] 76)):=(Below.refl _ _).alloc (Nat.le_refl _) _
 have HS:Hid _:=hsea _ hb0
 have HB0:Hid _:=hb0
 clear hsea hb0
 go_enter Tryz.func139,Tryz.ntmps139
 go_wp2_with fail
 refine Calls.mono HS.out ?_
 rintro e w1 ⟨rfl,hb1⟩
 obtain⟨hc1,hf1⟩:=bcell hb1
 have hz1:w.heap.size<w1.heap.size:=Nat.lt_of_lt_of_le (by simp) hb1.size
 have h1:Below w.heap.size w w1:=below_via HB0.out hb1
 clear HS HB0
 go_wp2
 exact bodyPost_ret (v:=.agg #[.string y.1,.int .i64 y.2.1,.int .i64 y.2.2]) (by simp[results,Tryz.results139,go_sem,hc1]) rfl ⟨rfl,by
  repeat (first | exact h1 | (refine Below.setCell ?_ (by simp) _))⟩
theorem tpick_any {w:World}{v:Value}{es:List Ent}(hrow:w.ownsRow 0 76 3 v es.length (flat es))(n:ByteArray)(hr:RisingK es)(hl:es.length<=16):
  Calls Tryz.prog 139 #[v,.string n] w fun e w'=>e=.returned (entV (pickE es n))/\Below w.heap.size w w':=by
 have hsea:∀ W,Below w.heap.size w W->Calls Tryz.prog 77 #[v,.string n] W fun e w'=>e=.returned (.tuple #[.int .i64 (idxK es n:Nat),.bool (thereK es n)])/\Below W.heap.size W w':=fun W hb=>
  search_any (ownsRow_keep hrow (fun g hg=>hb.block g (ownsRow_lt hrow hg))) n hr hl
 have hget:=getK_there (n:=n) hr
 unfold pickE
 cases ht:thereK es n with
 | false=>
  rw[ht] at hsea hget
  rw[hget]
  obtain⟨la,ln,lc,rfl⟩:∃ la ln lc,v=.slice la ln lc:=by
   rcases hrow.2 with ⟨e,_⟩ | ⟨g',c',_,e,_⟩
   ·exact⟨_,_,_,e⟩
   ·exact⟨_,_,_,e⟩
  exact tpick_none la ln lc n _ w hsea
 | true=>
  rw[ht] at hsea hget
  unfold thereK at ht
  cases hx:es[idxK es n]? with
  | none=>rw[hx] at ht;cases ht
  | some y=>
   rw[hx] at ht hget
   obtain⟨hk,hy⟩:=List.getElem?_eq_some_iff.1 hx
   obtain⟨gb,lc,rfl⟩:=slice_of_owns hrow (by omega)
   have hn:y.1=n:=by simpa using ht
   obtain⟨c0,c1,c2⟩:=row_cells (off:=0) (owns_cells hrow) hk
   rw[Nat.zero_add] at c0 c1 c2
   rw[hy] at c0 c1 c2
   have:=tpick_some gb es.length lc (idxK es n) n y w hk hl (ownsRow_lt hrow rfl) ⟨c0,c1,c2⟩ hsea
   have hp:(match getK es n with
    | none=>((⟨#[]⟩,0,0):Ent)
    | some c=>(n,c))=y:=by
    rw[hget,if_pos rfl,Option.map_some]
    show (n,y.2)=y
    rw[<- hn]
   rw[hp]
   exact this
theorem inside_not (sv:Nat)(s0 s1 s2 s3 s4 nm:ByteArray)(k id:Int)(w:World)(hk:k≠2):
  Calls Tryz.prog 138 #[.pointer (some ⟨sv,0,none⟩),.agg #[.string s0,.string s1,.string s2,.string s3,.string s4],.agg #[.string nm,.int .i64 k,.int .i64 id]] w fun e w'=>e=.returned (.tuple #[.slice none 0 0,.int .i64 0])/\Below w.heap.size w w':=by
 have hk':(k == 2)=false:=by simpa using hk
 have HB:Hid _:=(two_boxes w (.cells #[.string s0,.string s1,.string s2,.string s3,.string s4] 104) (.cells #[.string nm,.int .i64 k,.int .i64 id] 76)).1
 go_enter Tryz.func138,Tryz.ntmps138
 go_wp2
 go_ret2
 exact⟨rfl,HB.out⟩
theorem inside_dir (sv bt:Nat)(s0 s1 s2 s3 s4 nm:ByteArray)(id er:Int)(R:Value->World->World->Prop)(w:World)(hsv:sv<w.heap.size)(c0:w.cell? ⟨sv,0,none⟩=some (.pointer (some ⟨bt,0,none⟩)))
  (hen:∀ W,Below w.heap.size w W->Calls Tryz.prog 118 #[.pointer (some ⟨bt,0,none⟩),.agg #[.string s0,.string s1,.string s2,.string s3,.string s4],.agg #[.string nm,.int .i64 2,.int .i64 id]] W fun e w'=>∃ v,e=.returned (.tuple #[v,.int .i64 er])/\R v W w'):
  Calls Tryz.prog 138 #[.pointer (some ⟨sv,0,none⟩),.agg #[.string s0,.string s1,.string s2,.string s3,.string s4],.agg #[.string nm,.int .i64 2,.int .i64 id]] w fun e w'=>∃ v W,e=.returned (.tuple #[v,.int .i64 er])/\Below w.heap.size w W/\R v W w':=by
 obtain⟨hb0,hb1⟩:=two_boxes w (.cells #[.string s0,.string s1,.string s2,.string s3,.string s4] 104) (.cells #[.string nm,.int .i64 2,.int .i64 id] 76)
 have HE:Hid _:=hen _ hb1
 have HB:Hid _:=hb1
 clear hen hb0 hb1
 go_enter Tryz.func138,Tryz.ntmps138
 go_wp2
 go_region_with (go_at_call 118;refine Calls.mono HE.out ?_;rintro e w1 ⟨v,rfl,hR⟩)
 all_goals
  go_wp2
  go_ret2
  exact⟨v,_,rfl,HB.out,hR⟩
end Go.Proofs.YtajopoddmfdejaaGreat
