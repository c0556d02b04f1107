/-
  What is proved here: the walks of what a survey calls: note. the calls of a survey over a workspace: what they answer, what has been found, and that all else stays.
-/
import Derived.Test.YtajopoddmfdejaaGreatRetM39
import Derived.Test.YtajopoddmfdejaaGreatRetM10
import Derived.Deep.RegionHeld3
import Derived.Test.YtajopoddmfdejaaGreatRetM40
import Derived.Test.YtajopoddmfdejaaGreatRetM13
namespace Go.Proofs.YtajopoddmfdejaaGreat
open Go.RowKit Go.Sort Go.Shelf
set_option linter.unusedVariables false
set_option maxRecDepth 100000
set_option maxHeartbeats 16000000
theorem cells2 (w:World)(c0 c1:Value)(t:TypeId)(n:Nat)(hn:n=w.heap.size):∀ j u,[c0,c1][j]? = some u->(w.alloc (.cells #[c0,c1] t)).cell? ((⟨n,0,none⟩:Addr).add j)=some u:=by
 subst hn
 intro j u h
 match j,h with
 | 0,h=>simpa [Addr.add] using h
 | 1,h=>simpa [Addr.add] using h
 | j+2,h=>simp at h
def Noted (w w':World)(sv:Nat)(a:Option Addr)(n c:Nat)(xs news:List Value):Prop:=
 ∃ g cap' w0 w1,Below w.heap.size w w0/\w1.ownsRow 0 58 2 (.slice (some ⟨g,0,none⟩) (n+1) cap') (n+1) (xs++news)/\w0.grownBy w1 (Value.slice a n c).ownBlock/\((some g:Option Nat)=(Value.slice a n c).ownBlock\/g=w0.heap.size)/\w'=w1.setCell ⟨sv,3,none⟩ (.slice (some ⟨g,0,none⟩) (n+1) cap')
theorem grown_cellB {w w0 w1:World}{r:Option Nat}(hb:Below w.heap.size w w0)(hg:w0.grownBy w1 r){p:Nat}(hp:p<w.heap.size)(hr:some p≠r)(o:Nat):w1.cell? ⟨p,o,none⟩=w.cell? ⟨p,o,none⟩/\w1.frozen? ⟨p,o,none⟩=w.frozen? ⟨p,o,none⟩:=by
 have h:=(hg.block p (Nat.lt_of_lt_of_le hp hb.size) hr).trans (hb.block p hp)
 exact⟨World.cell?_of_block (a:=⟨p,o,none⟩) h,World.frozen?_of_block (a:=⟨p,o,none⟩) h⟩
theorem note_walk (sv:Nat)(a:Option Addr)(n c:Nat)(xs:List Value)(s0 s1 s2 s3 s4 T:ByteArray)(is was:Bool)(what:Int)(hwh:(is=true/\was=true/\what=2)\/(is=true/\was=false/\what=1)\/(is=false/\was=true/\what=3))(w:World)(hsv:sv<w.heap.size)(c3:w.cell? ⟨sv,3,none⟩=some (.slice a n c))(f3:w.frozen? ⟨sv,3,none⟩=false)
  (hown:w.ownsRow 0 58 2 (.slice a n c) n xs)(hpa:some sv≠(Value.slice a n c).ownBlock)(hn:n<1099511627776)
  (htext:∀ W,Calls Tryz.prog 158 #[.agg #[.string s0,.string s1,.string s2,.string s3,.string s4]] W fun e w'=>e=.returned (.string T)/\Below W.heap.size W w'):
  Calls Tryz.prog 137 #[.pointer (some ⟨sv,0,none⟩),.agg #[.string s0,.string s1,.string s2,.string s3,.string s4],.bool is,.bool was] w fun e w'=>e=.returned (.tuple #[])/\Noted w w' sv a n c xs [.string T,.int .i64 what]:=by
 obtain⟨i0,hi,hz0,hz1,hz2⟩:=info_parts infoC
 have hb0:Below w.heap.size w (w.alloc (.cells #[.string s0,.string s1,.string s2,.string s3,.string s4] 104)).drew:=below_drew ((Below.refl _ _).alloc (Nat.le_refl _) _)
 have H1:Hid (∀ u ∈ [Value.string T,.int .i64 what],u.oneCell'=true):=by intro u hu;simp at hu;rcases hu with rfl | rfl <;> rfl
 have HO:Hid (w.ownsRow 0 58 2 (.slice a n c) n xs):=hown
 have HP:Hid (some sv≠(Value.slice a n c).ownBlock):=hpa
 have HB0:Hid _:=hb0
 have HT:Hid _:=htext
 have d3:∀ W,Below w.heap.size w W->W.cell? ⟨sv,3,none⟩=some (.slice a n c)/\W.frozen? ⟨sv,3,none⟩=false:=fun W hb=>⟨(hb.cell (p:=⟨sv,3,none⟩) hsv).trans c3,by rw[World.frozen?_of_block (a:=⟨sv,3,none⟩) (hb.block sv hsv)];exact f3⟩
 have HD3:Hid _:=d3
 clear hown hpa hb0 htext d3
 rcases hwh with ⟨rfl,rfl,rfl⟩ | ⟨rfl,rfl,rfl⟩ | ⟨rfl,rfl,rfl⟩
 ·go_enter Tryz.func137,Tryz.ntmps137
  go_wp2
  go_region_law (first
   | (refine step_append_own_at rfl (.tmp 22) (.tmp 27) 54 rfl 0 58 i0 _ 2 24 Tryz.underlying54 hi hz0 hz1 hz2 rfl (by decide) (.slice a n c) n xs (by simp[Act.eval]) (World.ownsRow.alloc HOW.out (.cells #[.string T,.int .i64 2] 58)) ⟨wt.heap.size,0,none⟩ 1 1 [.string T,.int .i64 2] (by simp[Act.eval]) rfl (cells2 wt (.string T) (.int .i64 2) 58 wt.heap.size rfl) H1.out (by unfold maxLen;omega) (by omega) (Nat.zero_le _) ?_;intro v' w1 hown' hgrow hloc;obtain⟨g,cap',rfl⟩:=slice_of_owns hown' (by omega);have hBw:=below_via HBT.out ((Below.refl wt.heap.size wt).alloc (Nat.le_refl _) (.cells #[.string T,.int .i64 2] 58));have k1':=(grown_cellB hBw hgrow hsv HP.out 3).1.trans c3;have k2':=(grown_cellB hBw hgrow hsv HP.out 3).2.trans f3)
   | (go_simp;go_at_call 158;refine Calls.mono (HT.out _) ?_;rintro e wt ⟨rfl,hbt⟩;have HBT:Hid _:=below_via HB0.out hbt;have e3:=(HD3.out _ HBT.out).1;have HOW:Hid _:=ownsRow_keep HO.out (fun g hg=>HBT.out.block g (ownsRow_lt HO.out hg));have hsw:sv<wt.heap.size:=Nat.lt_of_lt_of_le hsv HBT.out.size))
  all_goals
   go_wp2
   go_end0
   exact⟨rfl,g,cap',_,w1,hBw,hown',hgrow,by simpa [Value.ownBlock] using hloc,rfl⟩
 ·go_enter Tryz.func137,Tryz.ntmps137
  go_wp2
  go_region_law (first
   | (refine step_append_own_at rfl (.tmp 22) (.tmp 27) 54 rfl 0 58 i0 _ 2 24 Tryz.underlying54 hi hz0 hz1 hz2 rfl (by decide) (.slice a n c) n xs (by simp[Act.eval]) (World.ownsRow.alloc HOW.out (.cells #[.string T,.int .i64 1] 58)) ⟨wt.heap.size,0,none⟩ 1 1 [.string T,.int .i64 1] (by simp[Act.eval]) rfl (cells2 wt (.string T) (.int .i64 1) 58 wt.heap.size rfl) H1.out (by unfold maxLen;omega) (by omega) (Nat.zero_le _) ?_;intro v' w1 hown' hgrow hloc;obtain⟨g,cap',rfl⟩:=slice_of_owns hown' (by omega);have hBw:=below_via HBT.out ((Below.refl wt.heap.size wt).alloc (Nat.le_refl _) (.cells #[.string T,.int .i64 1] 58));have k1':=(grown_cellB hBw hgrow hsv HP.out 3).1.trans c3;have k2':=(grown_cellB hBw hgrow hsv HP.out 3).2.trans f3)
   | (go_simp;go_at_call 158;refine Calls.mono (HT.out _) ?_;rintro e wt ⟨rfl,hbt⟩;have HBT:Hid _:=below_via HB0.out hbt;have e3:=(HD3.out _ HBT.out).1;have HOW:Hid _:=ownsRow_keep HO.out (fun g hg=>HBT.out.block g (ownsRow_lt HO.out hg));have hsw:sv<wt.heap.size:=Nat.lt_of_lt_of_le hsv HBT.out.size))
  all_goals
   go_wp2
   go_end0
   exact⟨rfl,g,cap',_,w1,hBw,hown',hgrow,by simpa [Value.ownBlock] using hloc,rfl⟩
 ·go_enter Tryz.func137,Tryz.ntmps137
  go_wp2
  go_region_law (first
   | (refine step_append_own_at rfl (.tmp 22) (.tmp 27) 54 rfl 0 58 i0 _ 2 24 Tryz.underlying54 hi hz0 hz1 hz2 rfl (by decide) (.slice a n c) n xs (by simp[Act.eval]) (World.ownsRow.alloc HOW.out (.cells #[.string T,.int .i64 3] 58)) ⟨wt.heap.size,0,none⟩ 1 1 [.string T,.int .i64 3] (by simp[Act.eval]) rfl (cells2 wt (.string T) (.int .i64 3) 58 wt.heap.size rfl) H1.out (by unfold maxLen;omega) (by omega) (Nat.zero_le _) ?_;intro v' w1 hown' hgrow hloc;obtain⟨g,cap',rfl⟩:=slice_of_owns hown' (by omega);have hBw:=below_via HBT.out ((Below.refl wt.heap.size wt).alloc (Nat.le_refl _) (.cells #[.string T,.int .i64 3] 58));have k1':=(grown_cellB hBw hgrow hsv HP.out 3).1.trans c3;have k2':=(grown_cellB hBw hgrow hsv HP.out 3).2.trans f3)
   | (go_simp;go_at_call 158;refine Calls.mono (HT.out _) ?_;rintro e wt ⟨rfl,hbt⟩;have HBT:Hid _:=below_via HB0.out hbt;have e3:=(HD3.out _ HBT.out).1;have HOW:Hid _:=ownsRow_keep HO.out (fun g hg=>HBT.out.block g (ownsRow_lt HO.out hg));have hsw:sv<wt.heap.size:=Nat.lt_of_lt_of_le hsv HBT.out.size))
  all_goals
   go_wp2
   go_end0
   exact⟨rfl,g,cap',_,w1,hBw,hown',hgrow,by simpa [Value.ownBlock] using hloc,rfl⟩
theorem note_none (sv:Nat)(s0 s1 s2 s3 s4:ByteArray)(w:World):
  Calls Tryz.prog 137 #[.pointer (some ⟨sv,0,none⟩),.agg #[.string s0,.string s1,.string s2,.string s3,.string s4],.bool false,.bool false] w fun e w'=>e=.returned (.tuple #[])/\Below w.heap.size w w':=by
 have HB:Hid (Below w.heap.size w (w.alloc (.cells #[.string s0,.string s1,.string s2,.string s3,.string s4] 104))):=(Below.refl _ _).alloc (Nat.le_refl _) _
 go_enter Tryz.func137,Tryz.ntmps137
 go_wp2
 exact bodyPost_ret (v:=.tuple #[]) (by simp[results,Tryz.results137,go_sem]) rfl ⟨rfl,HB.out⟩
section
variable {s i p:Nat}{B:WB}{objs:List Ob}{sv dr ow:Nat}{t:LT}{a:List Ob}
theorem CSt.cells {tg:Tags}{w:World}{g:WG}{lim:Nat}{L:List Chg8}(h:CSt tg w s i p B objs g lim sv dr ow t a L):sv<w.heap.size/\w.cell? ⟨sv,0,none⟩=some (.pointer (some ⟨B.bt,0,none⟩))/\w.cell? ⟨sv,1,none⟩=some (.pointer (some ⟨dr,0,none⟩))/\w.cell? ⟨sv,2,none⟩=some (.map (some ow)):=by
 obtain⟨_,a,c,hb,_⟩:=h.surv
 exact⟨(Array.getElem?_eq_some_iff.1 hb).1,by simp[World.cell?,hb,ptr],by simp[World.cell?,hb,ptr],by simp[World.cell?,hb]⟩
theorem CSt.turn {tg tg':Tags}{w w':World}{g:WG}{lim lim':Nat}{L L':List Chg8}(h:CSt tg w s i p B objs g lim sv dr ow t a L)(m:Moves (fun t=>t=(0,1)) tg tg' w w')(hs:SurvAt tg' w' sv B.bt dr ow L')(hl:lim<=lim')(hf:L'.length<=lim'):CSt tg' w' s i p B objs g lim' sv dr ow t a L':=by
 have hi:=h.inv.two
 obtain⟨f,n,hm,hM⟩:=h.map
 refine⟨WInv.mono ⟨h.inv.two,h.inv.st.moves m (fun e=>by cases e) (fun e=>by cases e),h.inv.wp.moves m (fun k e=>by cases e;omega)⟩ hl,hs,⟨f,n,hm.keep (m.block ow hm.lt (by rw[h.tow];intro e;cases e)),hM⟩,(m.tags ow hm.lt).trans h.tow,hf⟩
theorem CSt.look {tg tg':Tags}{w w':World}{g g':WG}{lim lim':Nat}{L:List Chg8}(h:CSt tg w s i p B objs g lim sv dr ow t a L)(m:Moves (Fetches i) tg tg' w w')(hW:WInv tg' w' s i p B objs g' lim')(hl:lim<=lim')(hfl:g'.fl=g.fl):CSt tg' w' s i p B objs g' lim' sv dr ow t a L:=by
 have hi:=h.inv.two
 obtain⟨f,n,hm,hM⟩:=h.map
 have h01:¬ Fetches i (0,1):=by
  rintro (h | h | h)
  ·cases h
  ·cases h
  ·cases h
 have h00:¬ Fetches i (0,0):=fun h=>fetchS0 hi (.inl h)
 exact⟨hW,h.surv.moves m h01,⟨f,n,hm.keep (m.block ow hm.lt (by rw[h.tow];exact h00)),by rw[hfl];exact hM⟩,(m.tags ow hm.lt).trans h.tow,Nat.le_trans h.few hl⟩
theorem note_any {tg:Tags}{w:World}{g:WG}{lim:Nat}{L:List Chg8}(h:CSt tg w s i p B objs g lim sv dr ow t a L)(hl:lim<1099511627776){q:List ByteArray}(hq:Good q)(is was:Bool):
  Calls Tryz.prog 137 #[.pointer (some ⟨sv,0,none⟩),.agg (pathA q),.bool is,.bool was] w fun e w'=>e=.returned (.tuple #[])/\∃ tg',Moves (fun t=>t=(0,1)) tg tg' w w'/\CSt tg' w' s i p B objs g (lim+1) sv dr ow t a (L++noteT (joinB q) is was):=by
 obtain⟨hsv,_⟩:=h.cells
 have hsurv:=h.surv
 obtain⟨hts,a',c,hb,hr,htag⟩:=hsurv
 have key:∀ what,((is=true/\was=true/\what=2)\/(is=true/\was=false/\what=1)\/(is=false/\was=true/\what=3))->noteT (joinB q) is was = [(joinB q,what)]->
   Calls Tryz.prog 137 #[.pointer (some ⟨sv,0,none⟩),.agg (pathA q),.bool is,.bool was] w fun e w'=>e=.returned (.tuple #[])/\∃ tg',Moves (fun t=>t=(0,1)) tg tg' w w'/\CSt tg' w' s i p B objs g (lim+1) sv dr ow t a (L++noteT (joinB q) is was):=by
  intro what hwh hno
  have hne:some sv≠(Value.slice a' L.length c).ownBlock:=owns_ne_cells hr hb (by decide)
  have hfew:=h.few
  refine (note_walk sv a' L.length c (flatC L) _ _ _ _ _ (joinB q) is was what hwh w hsv (by simp[World.cell?,hb]) (by simp[World.frozen?,hb]) hr hne (by omega) (fun W=>text_any q hq W)).mono ?_
  rintro e w' ⟨he,gb,cap',w0,w1,hb0,hown,hg,hloc,rfl⟩
  have hgb:gb<w1.heap.size:=ownsRow_lt hown rfl
  have hkeep:∀ k,k<w.heap.size->some k≠(Value.slice a' L.length c).ownBlock->w1.heap[k]? = w.heap[k]?:=fun k hk hn=>(hg.block k (Nat.lt_of_lt_of_le hk hb0.size) hn).trans (hb0.block k hk)
  have hgsv:gb≠sv:=by
   rintro rfl
   rcases hloc with h | h
   ·exact hne h
   ·have:=hb0.size;omega
  have hgtag:gb<w.heap.size->tg gb=(0,1):=fun hlt=>by
   rcases hloc with h | h
   ·exact htag gb h.symm
   ·have:=hb0.size;omega
  have hsz:w.heap.size<=w1.heap.size:=Nat.le_trans hb0.size hg.size
  have m:Moves (fun t=>t=(0,1)) tg (tagAt tg gb (0,1)) w (w1.setCell ⟨sv,3,none⟩ (.slice (some ⟨gb,0,none⟩) (L.length+1) cap')):=by
   refine⟨hg.os.trans hb0.os,hg.tape.trans hb0.tape,hg.output.trans hb0.output,by simpa using hsz,fun k hk=>?_,fun k hk hn=>?_,fun hf k hk=>?_⟩
   ·by_cases e:k=gb
    ·rw[e,tagAt_same,hgtag (by omega)]
    ·exact tagAt_other e _
   ·rw[Below.heap_setCell _ _ _ _ (fun e=>hn (by rw[e];exact hts))]
    exact hkeep k hk (fun e=>hn (htag k e.symm))
   ·have hk':w1.heap.size<=k:=by simpa using hk
    rw[tagAt_other (by omega)]
    exact hf k (by omega)
  have hw1:w1.heap[sv]? = some (.cells #[ptr B.bt,ptr dr,.map (some ow),.slice a' L.length c] 172 (0,0)):=(hkeep sv hsv hne).trans hb
  refine⟨he,_,m,h.turn m ⟨(m.tags sv hsv).trans hts,some ⟨gb,0,none⟩,cap',?_,?_,fun b hbb=>?_⟩ (Nat.le_succ _) ?_⟩
  ·rw[hno,List.length_append,List.length_singleton]
   simp[World.setCell,Array.getElem?_modify,hw1]
  ·rw[hno,List.length_append,List.length_singleton,flatC_app]
   exact ownsRow_keep hown (fun g' hg'=>by cases hg';exact Below.heap_setCell _ _ _ _ hgsv)
  ·cases hbb;exact tagAt_same _ _ _
  ·rw[hno,List.length_append,List.length_singleton];omega
 cases is with
 | true=>
  cases was with
  | true=>exact key 2 (.inl ⟨rfl,rfl,rfl⟩) rfl
  | false=>exact key 1 (.inr (.inl ⟨rfl,rfl,rfl⟩)) rfl
 | false=>
  cases was with
  | true=>exact key 3 (.inr (.inr ⟨rfl,rfl,rfl⟩)) rfl
  | false=>
   refine (note_none sv _ _ _ _ _ w).mono ?_
   rintro e w' ⟨he,hb⟩
   refine⟨he,tg,Moves.of_below hb,?_⟩
   rw[show noteT (joinB q) false false = [] from rfl,List.append_nil]
   exact (h.below hb).mono (Nat.le_succ _)
def Inside (s i p:Nat)(B:WB)(objs:List Ob)(sv dr ow:Nat)(t:LT)(a:List Ob)(tg:Tags)(w w':World)(g:WG)(fs':FS)(lim:Nat)(L:List Chg8)(v:Value)(es:List Ent):Prop:=
 ∃ tg',Moves (Fetches i) tg tg' w w'/\CSt tg' w' s i p B objs { g with fs:=fs' } lim sv dr ow t a L/\Slc tg' w' i v es/\∀ v es,Slc tg w i v es->Slc tg' w' i v es
theorem inside_any {tg:Tags}{w:World}{g:WG}{lim:Nat}{L:List Chg8}(h:CSt tg w s i p B objs g lim sv dr ow t a L)(hF:Flat objs t g.ft)(hl:lim<1099511627776){q:List ByteArray}(hq:Good q){n:Nat}{o:Option LT}(hok:OkO objs n o)(hat:∀ es,o=some (.own es)->t.at objs q=o)(nm:ByteArray):
  Calls Tryz.prog 138 #[.pointer (some ⟨sv,0,none⟩),.agg (pathA q),entV (entO nm o)] w fun e w'=>∃ v,e=.returned (.tuple #[v,.int .i64 (insG objs g.fs o).2.1])/\Inside s i p B objs sv dr ow t a tg w w' g (insG objs g.fs o).1 (lim+1) L v ((insG objs g.fs o).2.2.map entOf):=by
 obtain⟨hsv,c0,_⟩:=h.cells
 by_cases h2:(entO nm o).2.1=2
 ·have hen:=ents_ins h.inv.st.sound hF hok hat g.fs nm h2
  have hek:=entO_ok hok nm h2
  have hshape:entV (entO nm o)=.agg #[.string (entO nm o).1,.int .i64 2,.int .i64 (entO nm o).2.2]:=by unfold entV;rw[h2]
  rw[hshape]
  refine (inside_dir sv B.bt _ _ _ _ _ (entO nm o).1 (entO nm o).2.2 (insG objs g.fs o).2.1 (fun v W w'=>Inside s i p B objs sv dr ow t a tg W w' g (insG objs g.fs o).1 (lim+1) L v ((insG objs g.fs o).2.2.map entOf)) w hsv c0 (fun W hb=>?_)).mono ?_
  ·have:=entries_any9 (h.inv.below hb) hl hq hek
   rw[hen,h2] at this
   refine this.mono ?_
   rintro e w' ⟨v,he,tg',m,hW,hs,hk⟩
   exact⟨v,he,tg',m,(h.below hb).look m hW (Nat.le_succ _) rfl,hs,hk⟩
  ·rintro e w' ⟨v,W,he,hb,tg',m,hC,hs,hk⟩
   exact⟨v,he,tg',call_moves hb m,hC,hs,fun v es hv=>hk v es (hv.below hb)⟩
 ·have hin:insG objs g.fs o=(g.fs,0,[]):=by
   cases o with
   | none=>rfl
   | some c=>
    cases c with
    | file i=>rfl
    | held f=>rfl
    | dir i=>exact absurd rfl h2
    | own es=>exact absurd rfl h2
  rw[hin]
  refine (inside_not sv _ _ _ _ _ (entO nm o).1 (entO nm o).2.1 (entO nm o).2.2 w h2).mono ?_
  rintro e w' ⟨he,hb⟩
  exact⟨_,he,tg,Moves.of_below hb,(h.below hb).mono (Nat.le_succ _),Slc.nil _ _ _,fun v es hv=>hv.below hb⟩
theorem object_c {w W:World}{bt n:Nat}{f:List ByteArray->Option Int}(hp:PMap w ow n (fun q=>(f q).map (Value.int .i64)))(hb:Below w.heap.size w W){q:List ByteArray}(hq:Good q)(c:LT)(hm:c.id=0->∃ r,f q=some r)(nm:ByteArray):
  Calls Tryz.prog 65 #[.agg #[.pointer (some ⟨bt,0,none⟩),.pointer (some ⟨dr,0,none⟩),.map (some ow)],.agg (pathA q),.agg #[.string nm,.int .i64 c.kind,.int .i64 c.id]] W fun e w'=>e=.returned (.int .i64 (objO f q c))/\Below W.heap.size W w':=by
 unfold objO
 by_cases hid:c.id=0
 ·obtain⟨r,hr⟩:=hm hid
  rw[if_neg (fun h=>h hid),hid,hr]
  exact object_hit ⟨n,Nat.le_refl _,hp.keep (hb.block ow hp.lt)⟩ hq hr nm c.kind
 ·rw[if_pos hid]
  exact oobject_stored bt dr ow _ _ _ _ _ nm c.kind c.id W hid
end
end Go.Proofs.YtajopoddmfdejaaGreat
