/-
  What is proved here: the pool's functions over no list at all (nil): arrange, measure, listingOf, PutDir; and Dir of a directory whose list is none. a store as a list of objects in memory ('Inv'), and PutFile, ..
-/
import Derived.Test.YtajopoddmfdejaaGreatRetM03
import Derived.Shelf.SlSortCmp.NoneTotal
import Derived.Maps.RangeWalk
namespace Go.Proofs.YtajopoddmfdejaaGreat
open Go.RowKit Go.Sort Go.Shelf
set_option linter.unusedVariables false
set_option maxRecDepth 100000
set_option maxHeartbeats 16000000
variable {ft:PTail}
theorem run_copyK_none {P:Program}(w:World)(dT sT ty elem:TypeId)(size:Nat)(d a:Option Addr)(dLen dCap sLen sCap:Nat)(hu:P.underlying dT=some (.slice elem))(hs:(P.info? elem).map (·.size)=some size)(hn:Nat.min sLen dLen=0):
  (Builtin.copy_ #[dT,sT] ty #[.slice d dLen dCap,.slice a sLen sCap]).run P w=.ok (goInt 0) w:=by
 cases hq:P.info? elem with
 | none=>simp[hq] at hs
 | some i=>
  have hl:∀ (x:Addr),(loadCells x 0).run P w=.ok #[] w:=fun x=>by simpa using run_loadCells_list (P:=P) w x [] (by simp)
  cases d <;> cases a <;> simp[Builtin.copy_,run_underlying hu,Builtin.lenOf,Builtin.firstCells,sizeOf,typeInfo,hq,hn,storeCells,hl]
theorem wpList_copyK_none {P:Program}{w:World}{ops:Array Oper}{rest:List Oper}{o:Oper}{a:Act}{Q:Exit->Act->World->Prop}(hgd:o.guard=none)(d s:Operand)(dT sT:TypeId)
  (ho:o.op=.call { callee:=.builtin .copy,args:=#[d,s],argTypes:=#[dT,sT] })(elem:TypeId)(hu:P.underlying dT=some (.slice elem))(size:Nat)(hsz:(P.info? elem).map (·.size)=some size)
  (dp sp:Option Addr)(dLen dCap sLen sCap:Nat)(hd:a.eval d=.slice dp dLen dCap)(hs:a.eval s=.slice sp sLen sCap)(hn:Nat.min sLen dLen=0)
  (h:wpList P ops Q rest (a.put o.dst (goInt 0)) w):wpList P ops Q (o :: rest) a w:=by
 refine wpList_plain hgd fun K hK=>?_
 have hrun:=run_copyK_none (P:=P) w dT sT o.type elem size dp sp dLen dCap sLen sCap hu hsz hn
 unfold Oper.wp
 simp[execOp,ho,resolve,invoke,builtin,hd,hs,hrun,Result.andThen]
 exact hK _ _ h
theorem arrange_nil (w:World):Calls Tryz.prog 68 #[.slice none 0 0] w fun e w'=>e=.returned (.tuple #[.slice none 0 0,.int .i64 0])/\Below w.heap.size w w':=by
 have hcl:=fun W=>AnyE.slices_Clone_nil Tryz.cloneE 0 0 W
 have hso:=fun fv W=>AnyF.slices_SortFunc_none Tryz.sortE none 0 fv W
 go_enter Tryz.func68,Tryz.ntmps68
 go_wp2
 go_loopw [11] (fun i wr=>i=.int .i64 0/\Below w.heap.size w wr) (fun _ _=>0)
 case atStart=>exact⟨rfl,Below.refl _ _⟩
 case round=>
  obtain⟨rfl,hb⟩:=hrel
  go_wp2_with fail
  refine Calls.mono (hcl _) ?_
  rintro e w1 ⟨rfl,rfl⟩
  go_wp2_with fail
  refine Calls.mono (hso _ _) ?_
  rintro e w2 ⟨rfl,rfl⟩
  go_wp2
  go_loopw [7] (fun i wr=>i=.int .i64 1/\Below w.heap.size w wr) (fun _ _=>0)
  case atStart=>exact⟨rfl,hb⟩
  case round=>
   obtain⟨rfl,hb2⟩:=hrel
   go_wp2
   go_loopw [47] (fun i wr=>i=.int .i64 0/\Below w.heap.size w wr) (fun _ _=>0)
   case atStart=>exact⟨rfl,hb2⟩
   case round=>
    obtain⟨rfl,hb3⟩:=hrel
    go_wp2
    go_ret2
    exact⟨rfl,hb3⟩
theorem measure_nil (p:Nat)(w:World):Calls Tryz.prog 69 #[.pointer (some ⟨p,0,none⟩),.slice none 0 0] w fun e w'=>e=.returned (.tuple #[.int .i64 0,.int .i64 0])/\Below w.heap.size w w':=by
 go_enter Tryz.func69,Tryz.ntmps69
 go_wp2
 go_loopw [6,12] (fun t i wr=>i=.int .i64 0/\t=.int .i64 0/\Below w.heap.size w wr) (fun _ _ _=>0)
 case atStart=>exact⟨rfl,rfl,Below.refl _ _⟩
 case round=>
  obtain⟨rfl,rfl,hb⟩:=hrel
  go_wp2
  go_ret2
  exact⟨rfl,hb⟩
theorem listing_nil (w:World):Calls Tryz.prog 70 #[.slice none 0 0] w fun e w'=>e=.returned (.agg (listing []))/\Below w.heap.size w w':=by
 have HZ:Hid ((listing []).size=48):=listing_size (by simp)
 have HZL:Hid (zeroL.toArray=listing []):=by show zeroL.toArray=listing [];simp[listing,flat]
 go_enter Tryz.func70,Tryz.ntmps70
 have h1:∀ A B:Obj,((w.alloc A).alloc B).heap[w.heap.size+1]? = some B:=fun A B=>heap_alloc2_new _ _ _
 go_wp2_with (first
  | (refine wpList_copyK_none rfl (.tmp 4) (.tmp 5) 72 72 rfl 76 Tryz.underlying72 3 info34s _ _ 16 16 0 0 rfl rfl rfl ?_)
  | (refine wpList_load_row rfl 140 _ rfl (w.heap.size+1) rfl 140 (listing []) (0,0) _ (HZL.out ▸ h1 _ _) Tryz.underlying140 rfl (by rw[HZ.out];exact info58) ?_)
  | (refine wpList_store_row rfl 140 _ _ rfl w.heap.size (listing []) rfl rfl 140 _ (heap_alloc2_old _ _ _) (by rw[HZ.out];exact info58) (by rw[HZ.out];rfl) (listing_one []) ?_)
  | go_in)
 refine bodyPost_ret (v:=.agg (listing [])) (results_cell_row Tryz.results70 _ _ w.heap.size 140 (listing []) (0,0) _ rfl (setRow_heap _ w.heap.size _ _ 140 (0,0) (heap_alloc2_old _ _ _)) Tryz.underlying140 rfl (by rw[HZ.out];exact info58)) rfl ⟨rfl,?_⟩
 exact below_setRow (((Below.refl _ _).alloc (Nat.le_refl _) _).alloc (by simp) _) (Nat.le_refl _) _
def DirPutNil (ft:PTail)(w w':World)(p:Nat)(a:Option Addr)(n cap bf bd:Nat)(Dd:DataW Unit)(objs:List Ob)(e:Ending):Prop:=
 (Below w.heap.size w w'/\
  ((Maps.has Dd (keyFor Tryz.prog [])=true/\∃ c,Dd.atKey (keyFor Tryz.prog []) (.lit (.int .i64 0))=.lit (.int .i64 c)/\e=.returned (.tuple #[.int .i64 c,.int .i64 0]))\/
   (Maps.has Dd (keyFor Tryz.prog [])=false/\400<=n/\e=.returned (.tuple #[.int .i64 0,.int .i64 11]))))\/
 (n<400/\Maps.has Dd (keyFor Tryz.prog [])=false/\e=.returned (.tuple #[.int .i64 ((n:Int)+1),.int .i64 0])/\
  Grew ft w w' p a n cap bf bd bd 140 (obCells objs ++ [.int .i64 2,.string ByteArray.empty,.slice none 0 0,.int .i64 0]) (Dd.put (keyFor Tryz.prog []) (.lit (.int .i64 ((n:Int)+1)))))
theorem putDir_nil (p:Nat)(a:Option Addr)(n cap bf bd:Nat)(objs:List Ob)(Dd:DataW Unit)(w:World)(h:Pooled ft w p a n cap bf bd objs)(hd:w.ownsMap Tryz.prog 140 (plainElem Tryz.prog 26) bd n Dd):
  Calls Tryz.prog 45 #[.pointer (some ⟨p,0,none⟩),.slice none 0 0] w fun e w'=>DirPutNil ft w w' p a n cap bf bd Dd objs e:=by
 have harr:=arrange_nil w
 go_enter Tryz.func45,Tryz.ntmps45
 go_wp2_with fail
 refine harr.mono ?_
 rintro e w1 ⟨rfl,hb1⟩
 have hmea:=measure_nil p w1
 clear harr
 go_wp2_with fail
 refine hmea.mono ?_
 rintro e w2 ⟨rfl,hb2⟩
 have hbw2:Below w.heap.size w w2:=hb1.trans (hb2.mono hb1.size)
 have hlis:=listing_nil w2
 have HZ:Hid ((listing []).size=48):=listing_size (by simp)
 clear hmea
 go_wp2_with (first
  | (go_at_call 70;refine hlis.mono ?_;rintro e w3 ⟨rfl,hb3⟩)
  | (refine wpList_store_row rfl 140 _ _ rfl w3.heap.size (listing []) rfl rfl 140 _ (heap_alloc_new w3 _) (by rw[HZ.out];exact info58) (by rw[HZ.out];rfl) (listing_one []) ?_;rw[setRow_alloc]))
 have hp3:=(h.below ((hbw2.trans (hb3.mono hbw2.size)).alloc (by have:=hb3.size;have:=hbw2.size;omega) (.cells (listing []) 140))).at_.c2
 have hd3:(w3.alloc (.cells (listing []) 140)).ownsMap Tryz.prog 140 (plainElem Tryz.prog 26) bd n Dd:=(ownsMap_keep hd ((hbw2.trans (hb3.mono hbw2.size)).block bd hd.lt)).alloc _
 have hg9:(w3.alloc (.cells (listing []) 140)).heap[w3.heap.size]? = some (.cells (listing []) 140 (0,0)):=heap_alloc_new w3 _
 have hbw3:Below w.heap.size w (w3.alloc (.cells (listing []) 140)):=(hbw2.trans (hb3.mono hbw2.size)).alloc (by have:=hb3.size;have:=hbw2.size;omega) _
 have hfit:∀ e ∈ ([]:List Ent),Fits e:=fun e he=>by cases he
 have hkey:=keyOf_listing [] (by simp) hfit
 obtain⟨c,hrun,hat,hwc⟩:=look_int (W:=fun q=>(w3.alloc (.cells (listing []) 140)).drewN q) (fun q=>hd3) hkey
 have hload:=fun q=>run_loadVar_row (P:=Tryz.prog) ((w3.alloc (.cells (listing []) 140)).drewN q) w3.heap.size 140 140 (listing []) (0,0) _ hg9 Tryz.underlying140 rfl (by rw[HZ.out];exact info58)
 go_frame
 have HG9:Hid ((w3.alloc (.cells (listing []) 140)).heap[w3.heap.size]? = some (.cells (listing []) 140 (0,0))):=hg9
 clear hg9
 generalize w3.alloc (.cells (listing []) 140)=W at *
 refine wp_region_quiet_lit (by kernel_rfl) (by kernel_rfl) ?_
 iterate 4 quiet_step (fail)
 refine wpQuiet_load_row rfl 140 _ rfl w3.heap.size rfl (listing []) (by rintro _ ⟨q,rfl⟩;exact hload q) ?_
 go_frame
 refine wpQuiet_look rfl 134 _ _ true rfl (.map (some bd)) (.agg (listing [])) (.tuple #[.int .i64 c,.bool (Maps.has Dd (keyFor Tryz.prog []))]) rfl rfl (by rintro _ ⟨q,rfl⟩;exact hrun q) ?_
 go_frame
 repeat (quiet_step (fail))
 refine wpQuiet_nil ?_
 rintro _ ⟨nq,rfl⟩
 have hpw:Pooled ft W p a n cap bf bd objs:=h.below hbw3
 clear hload hrun hlis
 cases hhas:Maps.has Dd (keyFor Tryz.prog []) with
 | true=>
  have HH:Hid (Maps.has Dd (keyFor Tryz.prog [])=true):=hhas
  have HAT:Hid (Dd.atKey (keyFor Tryz.prog []) (.lit (.int .i64 0))=.lit (.int .i64 c)):=hat
  clear hhas hat hwc
  go_wp2
  go_ret2
  exact .inl ⟨below_drewN hbw3 _,.inl ⟨HH.out,c,HAT.out,rfl⟩⟩
 | false=>
  have HH:Hid (Maps.has Dd (keyFor Tryz.prog [])=false):=hhas
  clear hat hwc
  by_cases hn:400<=n
  ·have hadd:=add_full p 2 0 ByteArray.empty a n cap none 0 0 (W.drewN nq) hpw.at_.lt hn hpw.at_.c0
   go_wp2_with (go_at_call 71;refine hadd.mono ?_;rintro e w5 ⟨rfl,rfl⟩)
   go_ret2
   exact .inl ⟨(below_drewN hbw3 _).alloc (below_drewN hbw3 _).size _,.inr ⟨HH.out,hn,rfl⟩⟩
  ·have hn':n<400:=by omega
   have np:=owns_ne_cells hpw.row (b:=p) hpw.at_ (by decide)
   have hadd:=add_some p 2 0 ByteArray.empty a n cap (obCells objs) none 0 0 (W.drewN nq) hpw.at_.lt hn' hpw.at_.c0 hpw.at_.f0 hpw.row np
   go_wp2_with (go_at_call 71;refine hadd.mono ?_;rintro e w5 ⟨rfl,hAd⟩)
   obtain⟨kc,hl5,HD5,HF⟩:=dir_after nq hpw hd3 HG9.out hAd hkey hn' HZ.out
   clear hAd hadd np
   refine wp_region_still_tail 6 (by kernel_rfl) (by kernel_rfl) ?_
   simp only[List.take_succ_cons,List.take_zero,List.drop_succ_cons,List.drop_zero]
   iterate 4 still_step
   refine wpStill_load_row rfl 140 _ rfl w3.heap.size rfl (listing []) hl5 ?_
   go_frame
   still_step
   refine wpStill_nil ?_
   refine wpList_mapUpdate_own _ rfl _ _ _ 134 rfl 140 26 law58 Tryz.underlying134 _ bd n _ rfl HD5.out (by unfold maxLen;omega) _ _ _ rfl rfl hkey _ [] (plainElem_int Tryz.underlying26 (WalkArith.wf_i64 (by omega))) ?_
   intro w6 hd6 hg6
   have HG:Hid (Grew ft W w6 p a n cap bf bd bd 140 (obCells objs ++ [.int .i64 2,.string ByteArray.empty,.slice none 0 0,.int .i64 0]) (Dd.put (keyFor Tryz.prog []) (.lit (.int .i64 ((n:Int)+1))))):=HF.out w6 hd6 hg6
   clear hd6 hg6
   go_wp2
   go_ret2
   exact .inr ⟨hn',HH.out,rfl,HG.out.before hbw3⟩
theorem dir_nil (p:Nat)(a:Option Addr)(n cap bf bd:Nat)(objs:List Ob)(j:Nat)(hj:j<objs.length)(w:World)(h:Pooled ft w p a n cap bf bd objs)(hk:objs[j].kind=2)
  (hea:objs[j].ea=none)(hel:objs[j].el=0)(hec:objs[j].ec=0):
  Calls Tryz.prog 57 #[.pointer (some ⟨p,0,none⟩),.int .i64 ((j:Int)+1)] w fun e w'=>∃ g',e=.returned (.tuple #[.slice (some ⟨g',0,none⟩) 0 0,.int .i64 0])/\w'.ownsRow w.heap.size 76 3 (.slice (some ⟨g',0,none⟩) 0 0) 0 (flat [])/\Below w.heap.size w w':=by
 have hcon:=kind_any p a n cap bf bd objs ((j:Int)+1) w h
 rw[kindOf_in hj,hk] at hcon
 have hat:=fun (W:World) (hW:Below w.heap.size w W)=>at_in p a n cap bf bd objs j hj W (h.below hW)
 rw[hea,hel,hec] at hat
 have f2:=fld2
 obtain⟨i0,hi,hz0,hz1,hz2⟩:=info_parts info34
 clear hea hel hec hk
 go_enter Tryz.func57,Tryz.ntmps57
 go_wp2_with (first
  | (go_at_call 61;refine hcon.mono ?_;rintro e w1 ⟨rfl,hb1⟩)
  | (go_at_call 102;refine (hat _ hb1).mono ?_;rintro e w2 ⟨rfl,hb2⟩)
  | (at_make;refine wpList_make_full _ rfl _ _ 72 rfl 0 76 i0 _ 3 Tryz.underlying72 hi hz0 hz1 .i64 .i64 _ _ 0 rfl rfl rfl rfl ?_ ?_ (Nat.zero_le _) ?_;go_must (rw[hz2];omega);go_must (unfold maxLen;omega);intro w3 hown3 hg3;have hbw:=hb1.trans (hb2.mono hb1.size);have HB3:=grown_none hbw hg3;have HO3:Hid _:=hown3;clear hown3)
  | (refine wpList_copyK_none rfl (.tmp 19) (.tmp 20) 72 72 rfl 76 Tryz.underlying72 3 info34s _ none 0 0 0 0 rfl rfl rfl ?_))
 go_ret2
 have hsz2:=hbw.size
 refine⟨w2.heap.size,rfl,⟨rfl,?_⟩,HB3.out⟩
 rcases HO3.out.2 with ⟨h0,_⟩ | ⟨g',cap',cur,hv,_,r1,r2,r3,r4,_⟩
 ·cases h0
 ·cases hv;exact .inr ⟨w2.heap.size,0,cur,rfl,hsz2,r1,r2,r3,r4,by simp[flat]⟩
variable {ft:PTail}
def fileAt (objs:List Ob)(d:ByteArray):Option Nat:=objs.findIdx? fun o=>decide (o.kind=1) && decide (o.data=d)
def dirAt (objs:List Ob)(es:List Ent):Option Nat:=objs.findIdx? fun o=>decide (o.kind=2) && decide (o.ents=es)
def FilesOk (objs:List Ob)(D:DataW Unit):Prop:=∀ d:ByteArray,Maps.has D (.string d.data.toList)=(fileAt objs d).isSome/\∀ i,fileAt objs d=some i->D.atKey (.string d.data.toList) (.lit (.int .i64 0))=.lit (.int .i64 ((i:Int)+1))
def Named (es:List Ent):Prop:=es.length<=16/\∀ e ∈ es,Fits e/\1<=e.1.size
def DirsOk (objs:List Ob)(D:DataW Unit):Prop:=∀ es:List Ent,Named es->Maps.has D (keyFor Tryz.prog es)=(dirAt objs es).isSome/\∀ i,dirAt objs es=some i->D.atKey (keyFor Tryz.prog es) (.lit (.int .i64 0))=.lit (.int .i64 ((i:Int)+1))
def fileOb (d:ByteArray):Ob:={ kind:=1,data:=d,ea:=none,el:=0,ec:=0,ents:=[],high:=0 }
def dirOb (g m c:Nat)(es:List Ent)(h:Int):Ob:={ kind:=2,data:=ByteArray.empty,ea:=some ⟨g,0,none⟩,el:=m,ec:=c,ents:=es,high:=h }
def ObOk (w:World)(F:Nat->Prop)(o:Ob):Prop:=
 (o.kind=1/\o.high=0/\o.data.size<=256)\/
 (o.kind=2/\o.ents.length=o.el/\Named o.ents/\Rising o.ents/\0<=o.high/\o.high<=5/\(∀ g,(Value.slice o.ea o.el o.ec).ownBlock=some g->F g)/\w.ownsRow 0 76 3 (.slice o.ea o.el o.ec) o.el (flat o.ents))
structure InvAt (ft:PTail)(F:Nat->Prop)(w:World)(s p:Nat)(a:Option Addr)(cap bf bd:Nat)(Df Dd:DataW Unit)(objs:List Ob):Prop where
 fs:F s
 fp:F p
 ff:F bf
 fd:F bd
 fr:∀ g,(Value.slice a objs.length cap).ownBlock=some g->F g
 hs:w.heap[s]? = some (.cells #[.pointer (some ⟨p,0,none⟩)] 102 (0,0))
 pool:Pooled ft w p a objs.length cap bf bd objs
 ne:bf≠bd
 files:w.ownsMap Tryz.prog 9 (plainElem Tryz.prog 26) bf objs.length Df
 filesOk:FilesOk objs Df
 dirs:w.ownsMap Tryz.prog 140 (plainElem Tryz.prog 26) bd objs.length Dd
 dirsOk:DirsOk objs Dd
 obs:∀ o ∈ objs,ObOk w F o
def Inv (ft:PTail)(F:Nat->Prop)(w:World)(s:Nat)(objs:List Ob):Prop:=∃ p a cap bf bd Df Dd,InvAt ft F w s p a cap bf bd Df Dd objs
def InvP (ft:PTail)(F:Nat->Prop)(w:World)(s p:Nat)(objs:List Ob):Prop:=∃ a cap bf bd Df Dd,InvAt ft F w s p a cap bf bd Df Dd objs
structure Keeps (F:Nat->Prop)(w w':World):Prop where
 os:w'.os=w.os
 tape:w'.tape=w.tape
 output:w'.output=w.output
 size:w.heap.size<=w'.heap.size
 block:∀ k,k<w.heap.size->¬ F k->w'.heap[k]? = w.heap[k]?
def NewF (F:Nat->Prop)(w w':World)(k:Nat):Prop:=F k\/(w.heap.size<=k/\k<w'.heap.size)
theorem Keeps.of_below {F:Nat->Prop}{w w':World}(h:Below w.heap.size w w'):Keeps F w w':=⟨h.os,h.tape,h.output,h.size,fun k hk _=>h.block k hk⟩
theorem ObOk.mono {w w':World}{F F':Nat->Prop}{o:Ob}(h:ObOk w F o)(hF:∀ k,k<w.heap.size->F k->F' k)(hk:∀ v m xs,w.ownsRow 0 76 3 v m xs->w'.ownsRow 0 76 3 v m xs):ObOk w' F' o:=by
 rcases h with h | ⟨h1,h2,h3,h4,h5,h6,h8,h9⟩
 ·exact .inl h
 ·exact .inr ⟨h1,h2,h3,h4,h5,h6,fun g hg=>hF g (ownsRow_lt h9 hg) (h8 g hg),hk _ _ _ h9⟩
theorem InvP.keep {F F':Nat->Prop}{w w':World}{s p:Nat}{objs:List Ob}(h:InvP ft F w s p objs)(hk:∀ k,k<w.heap.size->F k->w'.heap[k]? = w.heap[k]?)(hF:∀ k,k<w.heap.size->F k->F' k):InvP ft F' w' s p objs:=by
 obtain⟨a,cap,bf,bd,Df,Dd,i⟩:=h
 have ls:s<w.heap.size:=(Array.getElem?_eq_some_iff.1 i.hs).1
 have hrow:∀ v m t k xs,w.ownsRow 0 t k v m xs->(∀ g,v.ownBlock=some g->F g)->w'.ownsRow 0 t k v m xs:=fun v m t k xs hr hFg=>ownsRow_keep hr (fun g hg=>hk g (ownsRow_lt hr hg) (hFg g hg))
 refine⟨a,cap,bf,bd,Df,Dd,⟨hF _ ls i.fs,hF _ i.pool.at_.lt i.fp,hF _ i.files.lt i.ff,hF _ i.dirs.lt i.fd,fun g hg=>hF g (ownsRow_lt i.pool.row hg) (i.fr g hg),(hk s ls i.fs).trans i.hs,⟨?_,hrow _ _ _ _ _ i.pool.row i.fr,i.pool.len,i.pool.many⟩,i.ne,
  ownsMap_keep i.files (hk _ i.files.lt i.ff),i.filesOk,ownsMap_keep i.dirs (hk _ i.dirs.lt i.fd),i.dirsOk,fun o ho=>?_⟩⟩
 ·have:=i.pool.at_
  unfold PoolAt at this ⊢
  rw[hk p i.pool.at_.lt i.fp];exact this
 ·rcases i.obs o ho with h | ⟨h1,h2,h3,h4,h5,h6,h8,h9⟩
  ·exact .inl h
  ·exact .inr ⟨h1,h2,h3,h4,h5,h6,fun g hg=>hF g (ownsRow_lt h9 hg) (h8 g hg),hrow _ _ _ _ _ h9 h8⟩
theorem InvP.below {F F':Nat->Prop}{w w':World}{s p:Nat}{objs:List Ob}(h:InvP ft F w s p objs)(hb:Below w.heap.size w w')(hF:∀ k,k<w.heap.size->F k->F' k):InvP ft F' w' s p objs:=h.keep (fun k hk _=>hb.block k hk) hF
theorem fileAt_snoc (objs:List Ob)(o:Ob)(d:ByteArray):fileAt (objs ++ [o]) d=(fileAt objs d).or (if o.kind=1/\o.data=d then some objs.length else none):=by
 unfold fileAt
 rw[List.findIdx?_append]
 congr 1
 by_cases h:o.kind=1/\o.data=d
 ·simp[List.findIdx?_cons,h]
 ·rw[if_neg h]
  have:(decide (o.kind=1) && decide (o.data=d))=false:=by
   rw[<- Bool.decide_and];exact decide_eq_false h
  simp only[List.findIdx?_cons,this]
  simp
theorem dirAt_snoc (objs:List Ob)(o:Ob)(es:List Ent):dirAt (objs ++ [o]) es=(dirAt objs es).or (if o.kind=2/\o.ents=es then some objs.length else none):=by
 unfold dirAt
 rw[List.findIdx?_append]
 congr 1
 by_cases h:o.kind=2/\o.ents=es
 ·simp[List.findIdx?_cons,h]
 ·rw[if_neg h]
  have:(decide (o.kind=2) && decide (o.ents=es))=false:=by
   rw[<- Bool.decide_and];exact decide_eq_false h
  simp only[List.findIdx?_cons,this]
  simp
theorem bytes_inj {a b:ByteArray}(h:a.data.toList=b.data.toList):a=b:=by
 cases a;cases b
 congr 1
 exact Array.toList_inj.1 h
theorem FilesOk.put {objs:List Ob}{D:DataW Unit}(h:FilesOk objs D)(hD:Maps.IsMap D)(d:ByteArray)(hd:fileAt objs d=none):FilesOk (objs ++ [fileOb d]) (D.put (.string d.data.toList) (.lit (.int .i64 ((objs.length:Int)+1)))):=by
 intro d'
 rw[fileAt_snoc]
 by_cases e:d=d'
 ·subst e
  rw[hd,if_pos ⟨rfl,rfl⟩]
  refine⟨?_,?_⟩
  ·rw[Maps.has_put_same hD (show WideAt.IsKeyLit (.string d.data.toList) from trivial)];rfl
  ·intro i hi
   simp only[Option.none_or,Option.some.injEq] at hi
   subst hi
   exact Maps.atKey_put_same hD (show WideAt.IsKeyLit (.string d.data.toList) from trivial) _ _
 ·have hne:(Lit.string d'.data.toList) ≠ .string d.data.toList:=fun h=>e (bytes_inj (by simpa using h.symm))
  rw[if_neg (fun h=>e h.2),Option.or_none]
  refine⟨?_,?_⟩
  ·rw[Maps.has_put_other hne];exact (h d').1
  ·intro i hi
   rw[Maps.atKey_put_other hne];exact (h d').2 i hi
theorem FilesOk.other {objs:List Ob}{D:DataW Unit}(h:FilesOk objs D){o:Ob}(ho:o.kind≠1):FilesOk (objs ++ [o]) D:=by
 intro d'
 rw[fileAt_snoc,if_neg (fun h=>ho h.1),Option.or_none]
 exact h d'
theorem DirsOk.put {objs:List Ob}{D:DataW Unit}(h:DirsOk objs D)(hD:Maps.IsMap D){es:List Ent}(hn:Named es)(hd:dirAt objs es=none){o:Ob}(hk:o.kind=2)(he:o.ents=es):
  DirsOk (objs ++ [o]) (D.put (keyFor Tryz.prog es) (.lit (.int .i64 ((objs.length:Int)+1)))):=by
 intro es' hn'
 have k1:=keyOf_listing es hn.1 (fun e he=>(hn.2 e he).1)
 have kl:WideAt.IsKeyLit (keyFor Tryz.prog es):=law58.key k1
 rw[dirAt_snoc,he]
 by_cases e:es=es'
 ·subst e
  rw[hd,if_pos ⟨hk,rfl⟩]
  refine⟨?_,?_⟩
  ·rw[Maps.has_put_same hD kl];rfl
  ·intro i hi
   simp only[Option.none_or,Option.some.injEq] at hi
   subst hi
   exact Maps.atKey_put_same hD kl _ _
 ·have hne:keyFor Tryz.prog es'≠keyFor Tryz.prog es:=fun h=>e (keyFor_inj hn.1 hn'.1 (fun e he=>(hn.2 e he).1) (fun e he=>(hn'.2 e he).1) (fun e he=>(hn.2 e he).2) (fun e he=>(hn'.2 e he).2) h.symm)
  rw[if_neg (fun h=>e h.2),Option.or_none]
  refine⟨?_,?_⟩
  ·rw[Maps.has_put_other hne];exact (h es' hn').1
  ·intro i hi
   rw[Maps.atKey_put_other hne];exact (h es' hn').2 i hi
theorem DirsOk.other {objs:List Ob}{D:DataW Unit}(h:DirsOk objs D){o:Ob}(ho:o.kind≠2):DirsOk (objs ++ [o]) D:=by
 intro es' hn'
 rw[dirAt_snoc,if_neg (fun h=>ho h.1),Option.or_none]
 exact h es' hn'
theorem obCells_snoc (objs:List Ob)(o:Ob):obCells (objs ++ [o])=obCells objs++o.cells:=by simp[obCells]
theorem Grew.other {w w':World}{p:Nat}{a:Option Addr}{n cap bf bd bm:Nat}{k:TypeId}{cells:List Value}{D:DataW Unit}{objs:List Ob}(h:Grew ft w w' p a n cap bf bd bm k cells D)(hp:Pooled ft w p a n cap bf bd objs)
  {P:Program}{k':TypeId}{R:Value->Option (DataW Unit×List MemPlace)}{b m:Nat}{D':DataW Unit}(hm:w.ownsMap P k' R b m D')(hne:b≠bm):w'.ownsMap P k' R b m D':=by
 obtain⟨g2,cap2,_,_,_,_,h5⟩:=h
 obtain⟨es,clock,hb⟩:=ownsMap_isMap hm
 have hbp:b≠p:=by rintro rfl;have:=hp.at_;unfold PoolAt at this;rw[hb] at this;cases this
 exact ownsMap_keep hm (h5.block b hm.lt hbp hne (owns_ne_map hp.row hb))
theorem InvAt.grow {F:Nat->Prop}{w w':World}{s p:Nat}{a:Option Addr}{cap bf bd:Nat}{Df Dd Df' Dd':DataW Unit}{objs:List Ob}(i:InvAt ft F w s p a cap bf bd Df Dd objs){bm:Nat}{k:TypeId}{D:DataW Unit}{o:Ob}
  (hg:Grew ft w w' p a objs.length cap bf bd bm k (obCells objs++o.cells) D)(hn:objs.length<400)(hF:F bm){es0:Array MapEntry}{clock:Nat}(hm:w.heap[bm]? = some (.map es0 clock))(ho:ObOk w' (NewF F w w') o)
  (hf:w'.ownsMap Tryz.prog 9 (plainElem Tryz.prog 26) bf (objs.length+1) Df')(hf2:FilesOk (objs ++ [o]) Df')
  (hd:w'.ownsMap Tryz.prog 140 (plainElem Tryz.prog 26) bd (objs.length+1) Dd')(hd2:DirsOk (objs ++ [o]) Dd'):
  InvP ft (NewF F w w') w' s p (objs ++ [o])/\Keeps F w w':=by
 have hg0:=hg
 obtain⟨g2,cap2,h1,h2,h3,h4,h5⟩:=hg
 have ls:s<w.heap.size:=(Array.getElem?_eq_some_iff.1 i.hs).1
 have hsp:s≠p:=cells_ne i.hs i.pool.at_ (by decide)
 have hsm:s≠bm:=by rintro rfl;have:=i.hs;rw[hm] at this;cases this
 have hso:=owns_ne_cells i.pool.row i.hs (by decide)
 have hl:(objs ++ [o]).length=objs.length+1:=by simp
 refine⟨⟨some ⟨g2,0,none⟩,cap2,bf,bd,Df',Dd',⟨.inl i.fs,.inl i.fp,.inl i.ff,.inl i.fd,?_,?_,⟨?_,?_,?_,?_⟩,i.ne,?_,hf2,?_,hd2,?_⟩⟩,⟨h5.os,h5.tape,h5.output,h5.size,?_⟩⟩
 ·intro g hgg
  rcases h3 with h | h
  ·refine .inl (i.fr g ?_)
   rw[<- h];exact hgg
  ·simp only[Value.ownBlock,Option.some.injEq] at hgg
   subst hgg
   exact .inr ⟨h,ownsRow_lt h2 rfl⟩
 ·rw[h5.block s ls hsp hsm hso];exact i.hs
 ·rw[hl];exact h1
 ·rw[hl,obCells_snoc];exact h2
 ·rfl
 ·rw[hl];omega
 ·rw[hl];exact hf
 ·rw[hl];exact hd
 ·intro x hx
  rcases List.mem_append.1 hx with h | h
  ·exact (i.obs x h).mono (fun k hk hFk=>.inl hFk) (fun v m xs hr=>hg0.keeps i.pool hm hr (by decide) (by decide))
  ·rw[List.mem_singleton.1 h];exact ho
 ·intro k hk hnF
  refine h5.block k hk (fun e=>hnF (e ▸ i.fp)) (fun e=>hnF (e ▸ hF)) (fun e=>hnF (i.fr k e.symm))
theorem InvAt.c0 {F:Nat->Prop}{w:World}{s p:Nat}{a:Option Addr}{cap bf bd:Nat}{Df Dd:DataW Unit}{objs:List Ob}(i:InvAt ft F w s p a cap bf bd Df Dd objs):w.cell? ⟨s,0,none⟩=some (.pointer (some ⟨p,0,none⟩)):=by simp[World.cell?,i.hs]
def FilePut (objs objs':List Ob)(d:ByteArray)(e:Ending):Prop:=
 (256<d.size/\objs'=objs/\e=.returned (.tuple #[.int .i64 0,.int .i64 11]))\/
 (d.size<=256/\objs'=objs/\∃ i,fileAt objs d=some i/\e=.returned (.tuple #[.int .i64 ((i:Int)+1),.int .i64 0]))\/
 (d.size<=256/\fileAt objs d=none/\400<=objs.length/\objs'=objs/\e=.returned (.tuple #[.int .i64 0,.int .i64 11]))\/
 (d.size<=256/\fileAt objs d=none/\objs.length<400/\objs'=objs ++ [fileOb d]/\e=.returned (.tuple #[.int .i64 ((objs.length:Int)+1),.int .i64 0]))
theorem FilePut.shape {objs objs':List Ob}{d:ByteArray}{e:Ending}(h:FilePut objs objs' d e):∃ x y,e=.returned (.tuple #[.int .i64 x,.int .i64 y]):=by
 rcases h with ⟨_,_,h⟩ | ⟨_,_,_,_,h⟩ | ⟨_,_,_,_,h⟩ | ⟨_,_,_,_,h⟩ <;> exact⟨_,_,h⟩
theorem poolFile {F:Nat->Prop}{w:World}{s p:Nat}{a:Option Addr}{cap bf bd:Nat}{Df Dd:DataW Unit}{objs:List Ob}(i:InvAt ft F w s p a cap bf bd Df Dd objs)(d:ByteArray)(hd:d.size<=maxLen):
  Calls Tryz.prog 146 #[.pointer (some ⟨p,0,none⟩),.string d] w fun e w'=>∃ objs',FilePut objs objs' d e/\InvP ft (NewF F w w') w' s p objs'/\Keeps F w w':=by
 have inv:InvP ft F w s p objs:=⟨a,cap,bf,bd,Df,Dd,i⟩
 have same:∀ w',Below w.heap.size w w'->InvP ft (NewF F w w') w' s p objs/\Keeps F w w':=fun w' hb=>⟨inv.below hb (fun k _ h=>.inl h),Keeps.of_below hb⟩
 by_cases hs:d.size<=256
 ·cases hf:fileAt objs d with
  | some j=>
   obtain⟨k1,k2⟩:=i.filesOk d
   rw[hf] at k1
   refine (putFile_hit p a objs.length cap bf bd Df d ((j:Int)+1) w i.pool.at_ hs i.files k1 (k2 j hf)).mono fun e w' ⟨he,hw⟩=>?_
   subst hw
   exact⟨objs,.inr (.inl ⟨hs,rfl,j,hf,he⟩),same _ (Below.refl _ _)⟩
  | none=>
   obtain⟨k1,_⟩:=i.filesOk d
   rw[hf] at k1
   by_cases hn:400<=objs.length
   ·refine (putFile_full p a objs.length cap bf bd Df d w i.pool.at_ hs hn i.files k1).mono fun e w' ⟨he,hb⟩=>?_
    exact⟨objs,.inr (.inr (.inl ⟨hs,hf,hn,rfl,he⟩)),same _ hb⟩
   ·have hn':objs.length<400:=by omega
    refine (putFile_new p a objs.length cap bf bd (obCells objs) Df d w i.pool.at_ hs hn' i.pool.row i.files k1).mono fun e w' ⟨he,hG⟩=>?_
    have hgr:Grew ft w w' p a objs.length cap bf bd bf 9 (obCells objs++(fileOb d).cells) (Df.put (.string d.data.toList) (.lit (.int .i64 ((objs.length:Int)+1)))):=hG
    obtain⟨es0,clock0,hbf⟩:=ownsMap_isMap i.files
    obtain⟨_,_,_,_,_,hfm,_⟩:=hG
    exact⟨_,.inr (.inr (.inr ⟨hs,hf,hn',rfl,he⟩)),i.grow hgr hn' i.ff hbf (.inl ⟨rfl,rfl,hs⟩) hfm (i.filesOk.put i.files.isMap d hf)
     ((hgr.other i.pool i.dirs i.ne.symm).mono (Nat.le_succ _)) (i.dirsOk.other (show (1:Int)≠2 by decide))⟩
 ·refine (putFile_big p d w (by omega) hd).mono fun e w' ⟨he,hw⟩=>?_
  subst hw
  exact⟨objs,.inl ⟨by omega,rfl,he⟩,same _ (Below.refl _ _)⟩
def DirPutG (objs objs':List Ob)(es:List Ent)(e:Ending):Prop:=
 ((∃ x ∈ es,validB x.1=false)/\objs'=objs/\e=.returned (.tuple #[.int .i64 0,.int .i64 1]))\/
 ((∀ x ∈ es,validB x.1=true)/\
  ((¬ (es.map (·.1)).Nodup/\objs'=objs/\e=.returned (.tuple #[.int .i64 0,.int .i64 6]))\/
   ((es.map (·.1)).Nodup/\16<es.length/\objs'=objs/\e=.returned (.tuple #[.int .i64 0,.int .i64 11]))\/
   ((es.map (·.1)).Nodup/\es.length<=16/\(∃ x ∈ es,goodE objs x=false)/\objs'=objs/\e=.returned (.tuple #[.int .i64 0,.int .i64 13]))\/
   ((es.map (·.1)).Nodup/\es.length<=16/\(∀ x ∈ es,goodE objs x=true)/\∃ es',es'.Perm es/\Rising es'/\Named es'/\
    ((5<highs objs es'/\objs'=objs/\e=.returned (.tuple #[.int .i64 0,.int .i64 11]))\/
    (highs objs es'<=5/\objs'=objs/\∃ i,dirAt objs es'=some i/\e=.returned (.tuple #[.int .i64 ((i:Int)+1),.int .i64 0]))\/
    (highs objs es'<=5/\dirAt objs es'=none/\400<=objs.length/\objs'=objs/\e=.returned (.tuple #[.int .i64 0,.int .i64 11]))\/
    (highs objs es'<=5/\dirAt objs es'=none/\objs.length<400/\(∃ o:Ob,o.kind=2/\o.ents=es'/\o.high=highs objs es'/\objs'=objs ++ [o])/\e=.returned (.tuple #[.int .i64 ((objs.length:Int)+1),.int .i64 0]))))))
theorem DirPutG.shape {objs objs':List Ob}{es:List Ent}{e:Ending}(h:DirPutG objs objs' es e):∃ x y,e=.returned (.tuple #[.int .i64 x,.int .i64 y]):=by
 rcases h with ⟨_,_,h⟩ | ⟨_,⟨_,_,h⟩ | ⟨_,_,_,h⟩ | ⟨_,_,_,_,h⟩ | ⟨_,_,_,_,_,_,_,⟨_,_,h⟩ | ⟨_,_,_,_,h⟩ | ⟨_,_,_,_,h⟩ | ⟨_,_,_,_,h⟩⟩⟩ <;> exact⟨_,_,h⟩
theorem InvAt.highs {F:Nat->Prop}{w:World}{s p:Nat}{a:Option Addr}{cap bf bd:Nat}{Df Dd:DataW Unit}{objs:List Ob}(i:InvAt ft F w s p a cap bf bd Df Dd objs):∀ o ∈ objs,0<=o.high/\o.high<=5:=by
 intro o ho
 rcases i.obs o ho with ⟨_,h,_⟩ | ⟨_,_,_,_,h5,h6,_⟩
 ·rw[h];decide
 ·exact⟨h5,h6⟩
theorem InvAt.kinds {F:Nat->Prop}{w:World}{s p:Nat}{a:Option Addr}{cap bf bd:Nat}{Df Dd:DataW Unit}{objs:List Ob}(i:InvAt ft F w s p a cap bf bd Df Dd objs):∀ o ∈ objs,o.kind=1\/o.kind=2:=by
 intro o ho
 rcases i.obs o ho with ⟨h,_⟩ | ⟨h,_⟩
 ·exact .inl h
 ·exact .inr h
theorem poolDir {F:Nat->Prop}{w:World}{s p:Nat}{a:Option Addr}{cap bf bd:Nat}{Df Dd:DataW Unit}{objs:List Ob}(i:InvAt ft F w s p a cap bf bd Df Dd objs)(b off m c0:Nat)(es:List Ent)
  (hl:es.length=m)(hbl:b<w.heap.size)(hbig:m*32<=140737488355328)(hc:∀ j u,(flat es)[j]? = some u->w.cell? ⟨b,off+j,none⟩=some u)(hsz:∀ e ∈ es,e.1.size<=maxLen):
  Calls Tryz.prog 45 #[.pointer (some ⟨p,0,none⟩),.slice (some ⟨b,off,none⟩) m c0] w fun e w'=>∃ objs',DirPutG objs objs' es e/\InvP ft (NewF F w w') w' s p objs'/\Keeps F w w':=by
 have inv:InvP ft F w s p objs:=⟨a,cap,bf,bd,Df,Dd,i⟩
 have same:∀ w',Below w.heap.size w w'->InvP ft (NewF F w w') w' s p objs/\Keeps F w w':=fun w' hb=>⟨inv.below hb (fun k _ h=>.inl h),Keeps.of_below hb⟩
 have named:∀ es',es'.Perm es->(∀ x ∈ es,validB x.1=true)->(∀ x ∈ es,goodE objs x=true)->es.length<=16->Named es':=fun es' hP hv hg h16=>
  ⟨by rw[hP.length_eq];exact h16,fun e he=>⟨fits_of i.kinds i.pool.many (hv e (hP.mem_iff.1 he)) (hg e (hP.mem_iff.1 he)),(valid_size (hv e (hP.mem_iff.1 he))).1⟩⟩
 refine (putDir_any p b off m c0 a objs.length cap bf bd objs Dd es w i.pool i.dirs hl hbl hbig hc hsz i.highs i.kinds).mono fun e w' hD=>?_
 rcases hD with ⟨hb,⟨hA,he⟩ | ⟨hA,⟨hB,he⟩ | ⟨hB,hC,he⟩ | ⟨hB,hC,hD,he⟩ | ⟨hB,hC,hD,es',hP,hR,hE⟩⟩⟩ | ⟨hA,hB,hC,hD,hn,es',hP,hR,hE,hE0,hH,he,g,cap',hrow,hG⟩
 ·exact⟨objs,.inl ⟨hA,rfl,he⟩,same _ hb⟩
 ·exact⟨objs,.inr ⟨hA,.inl ⟨hB,rfl,he⟩⟩,same _ hb⟩
 ·exact⟨objs,.inr ⟨hA,.inr (.inl ⟨hB,hC,rfl,he⟩)⟩,same _ hb⟩
 ·exact⟨objs,.inr ⟨hA,.inr (.inr (.inl ⟨hB,hC,hD,rfl,he⟩))⟩,same _ hb⟩
 ·have hN:=named es' hP hA hD hC
  obtain⟨k1,k2⟩:=i.dirsOk es' hN
  rcases hE with ⟨h5,he⟩ | ⟨h5,hH,c,hat,he⟩ | ⟨h5,hH,hn,he⟩
  ·exact⟨objs,.inr ⟨hA,.inr (.inr (.inr ⟨hB,hC,hD,es',hP,hR,hN,.inl ⟨h5,rfl,he⟩⟩))⟩,same _ hb⟩
  ·rw[hH] at k1
   cases hdi:dirAt objs es' with
   | none=>rw[hdi] at k1;cases k1
   | some j=>
    have hc:=(k2 j hdi).symm.trans hat
    have hcj:c=(j:Int)+1:=by simpa using hc.symm
    subst hcj
    exact⟨objs,.inr ⟨hA,.inr (.inr (.inr ⟨hB,hC,hD,es',hP,hR,hN,.inr (.inl ⟨h5,rfl,j,hdi,he⟩)⟩))⟩,same _ hb⟩
  ·rw[hH] at k1
   have hdi:dirAt objs es'=none:=by simpa using k1.symm
   exact⟨objs,.inr ⟨hA,.inr (.inr (.inr ⟨hB,hC,hD,es',hP,hR,hN,.inr (.inr (.inl ⟨h5,hdi,hn,rfl,he⟩))⟩))⟩,same _ hb⟩
 ·have hN:=named es' hP hA hD hC
  obtain⟨k1,_⟩:=i.dirsOk es' hN
  rw[hH] at k1
  have hdi:dirAt objs es'=none:=by simpa using k1.symm
  have hle:es'.length=m:=by rw[hP.length_eq,hl]
  obtain⟨es0,clock0,hbd⟩:=ownsMap_isMap i.dirs
  have hgr:Grew ft w w' p a objs.length cap bf bd bd 140 (obCells objs++(dirOb g m cap' es' (YtajopoddmfdejaaGreat.highs objs es')).cells) (Dd.put (keyFor Tryz.prog es') (.lit (.int .i64 ((objs.length:Int)+1)))):=hG
  obtain⟨_,_,_,_,_,hdm,_⟩:=hG
  have hg0:w.heap.size<=g/\g<w'.heap.size:=by
   refine⟨?_,ownsRow_lt hrow rfl⟩
   rcases hrow.2 with ⟨h,_⟩ | ⟨g',_,_,hv,hb,_⟩
   ·cases h
   ·cases hv;exact hb
  have hrow0:w'.ownsRow 0 76 3 (.slice (some ⟨g,0,none⟩) m cap') m (flat es'):=by
   refine⟨hrow.1,?_⟩
   rcases hrow.2 with h | ⟨g',c',cur,hv,hb,r⟩
   ·exact .inl h
   ·exact .inr ⟨g',c',cur,hv,Nat.zero_le _,r⟩
  have hob:ObOk w' (NewF F w w') (dirOb g m cap' es' (YtajopoddmfdejaaGreat.highs objs es')):=.inr ⟨rfl,hle,hN,hR,hE0,hE,fun g' hg'=>by (obtain rfl:g=g':=by simpa [dirOb,Value.ownBlock] using hg');exact .inr hg0,hrow0⟩
  exact⟨_,.inr ⟨hA,.inr (.inr (.inr ⟨hB,hC,hD,es',hP,hR,hN,.inr (.inr (.inr ⟨hE,hdi,hn,⟨_,rfl,rfl,rfl,rfl⟩,he⟩))⟩))⟩,
   i.grow hgr hn i.fd hbd hob ((hgr.other i.pool i.files i.ne).mono (Nat.le_succ _)) (i.filesOk.other (show (2:Int)≠1 by decide)) hdm (i.dirsOk.put i.dirs.isMap hN hdi rfl rfl)⟩
theorem poolDirNil {F:Nat->Prop}{w:World}{s p:Nat}{a:Option Addr}{cap bf bd:Nat}{Df Dd:DataW Unit}{objs:List Ob}(i:InvAt ft F w s p a cap bf bd Df Dd objs):
  Calls Tryz.prog 45 #[.pointer (some ⟨p,0,none⟩),.slice none 0 0] w fun e w'=>∃ objs',DirPutG objs objs' [] e/\InvP ft (NewF F w w') w' s p objs'/\Keeps F w w':=by
 have inv:InvP ft F w s p objs:=⟨a,cap,bf,bd,Df,Dd,i⟩
 have same:∀ w',Below w.heap.size w w'->InvP ft (NewF F w w') w' s p objs/\Keeps F w w':=fun w' hb=>⟨inv.below hb (fun k _ h=>.inl h),Keeps.of_below hb⟩
 have hN:Named []:=⟨by simp,fun e he=>by cases he⟩
 obtain⟨k1,k2⟩:=i.dirsOk [] hN
 have h5:YtajopoddmfdejaaGreat.highs objs []<=5:=by show (0:Int)<=5;decide
 refine (putDir_nil p a objs.length cap bf bd objs Dd w i.pool i.dirs).mono fun e w' hD=>?_
 have pre:∀ {objs':List Ob} {X:Prop},(YtajopoddmfdejaaGreat.highs objs []<=5/\objs'=objs/\(∃ i,dirAt objs []=some i/\e=.returned (.tuple #[.int .i64 ((i:Int)+1),.int .i64 0]))\/
    (YtajopoddmfdejaaGreat.highs objs []<=5/\dirAt objs []=none/\400<=objs.length/\objs'=objs/\e=.returned (.tuple #[.int .i64 0,.int .i64 11]))\/
    (YtajopoddmfdejaaGreat.highs objs []<=5/\dirAt objs []=none/\objs.length<400/\(∃ o:Ob,o.kind=2/\o.ents = []/\o.high=YtajopoddmfdejaaGreat.highs objs []/\objs'=objs ++ [o])/\e=.returned (.tuple #[.int .i64 ((objs.length:Int)+1),.int .i64 0])))->DirPutG objs objs' [] e:=by
  intro objs' X h
  exact .inr ⟨(fun x hx=>by cases hx),.inr (.inr (.inr ⟨List.Pairwise.nil,by simp,(fun x hx=>by cases hx),[],List.Perm.refl _,List.Pairwise.nil,hN,.inr h⟩))⟩
 rcases hD with ⟨hb,⟨hH,c,hat,he⟩ | ⟨hH,hn,he⟩⟩ | ⟨hn,hH,he,hG⟩
 ·rw[hH] at k1
  cases hdi:dirAt objs [] with
  | none=>rw[hdi] at k1;cases k1
  | some j=>
   have hc:=(k2 j hdi).symm.trans hat
   have hcj:c=(j:Int)+1:=by simpa using hc.symm
   subst hcj
   exact⟨objs,pre (X:=True) (.inl ⟨h5,rfl,j,hdi,he⟩),same _ hb⟩
 ·rw[hH] at k1
  have hdi:dirAt objs []=none:=by simpa using k1.symm
  exact⟨objs,pre (X:=True) (.inr (.inl ⟨h5,hdi,hn,rfl,he⟩)),same _ hb⟩
 ·rw[hH] at k1
  have hdi:dirAt objs []=none:=by simpa using k1.symm
  obtain⟨es0,clock0,hbd⟩:=ownsMap_isMap i.dirs
  let o:Ob:={ kind:=2,data:=ByteArray.empty,ea:=none,el:=0,ec:=0,ents:=[],high:=0 }
  have hgr:Grew ft w w' p a objs.length cap bf bd bd 140 (obCells objs++o.cells) (Dd.put (keyFor Tryz.prog []) (.lit (.int .i64 ((objs.length:Int)+1)))):=hG
  obtain⟨_,_,_,_,_,hdm,_⟩:=hG
  have hob:ObOk w' (NewF F w w') o:=.inr ⟨rfl,rfl,hN,List.Pairwise.nil,Int.le_refl _,by show (0:Int)<=5;decide,fun g hg=>by simp[o,Value.ownBlock] at hg,World.ownsRow_nil _ _ _ _⟩
  exact⟨objs ++ [o],pre (X:=True) (.inr (.inr ⟨h5,hdi,hn,⟨o,rfl,rfl,rfl,rfl⟩,he⟩)),
   i.grow hgr hn i.fd hbd hob ((hgr.other i.pool i.files i.ne).mono (Nat.le_succ _)) (i.filesOk.other (show (2:Int)≠1 by decide)) hdm (i.dirsOk.put i.dirs.isMap hN hdi rfl rfl)⟩
theorem storePutDirNil {F:Nat->Prop}{w:World}{s p:Nat}{objs:List Ob}(h:InvP ft F w s p objs):
  Calls Tryz.prog 22 #[.pointer (some ⟨s,0,none⟩),.slice none 0 0] w fun e w'=>∃ objs',DirPutG objs objs' [] e/\InvP ft (NewF F w w') w' s p objs'/\Keeps F w w':=by
 obtain⟨a,cap,bf,bd,Df,Dd,i⟩:=h
 have hcon:=poolDirNil i
 have c0:=i.c0
 clear i
 go_enter Tryz.func22,Tryz.ntmps22
 go_wp2_with fail
 refine hcon.mono ?_
 rintro e w' ⟨objs',hfp,hrest⟩
 obtain⟨x,y,hxy⟩:=hfp.shape
 have HF:Hid (DirPutG objs objs' [] e):=hfp
 have HR:Hid (InvP ft (NewF F w w') w' s p objs'/\Keeps F w w'):=hrest
 have HE:Hid (e=.returned (.tuple #[.int .i64 x,.int .i64 y])):=hxy
 clear hfp hrest hxy hcon
 rw[HE.out]
 go_wp2
 go_ret2
 exact⟨objs',HE.out ▸ HF.out,HR.out⟩
def DirGot (w w':World)(objs:List Ob)(id:Int)(e:Ending):Prop:=
 (kindOf objs id≠2/\e=.returned (.tuple #[.slice none 0 0,.int .i64 13]))\/
 ∃ j,∃ hj:j<objs.length,id=(j:Int)+1/\objs[j].kind=2/\∃ g,e=.returned (.tuple #[.slice (some ⟨g,0,none⟩) objs[j].ents.length objs[j].ents.length,.int .i64 0])/\
  w'.ownsRow w.heap.size 76 3 (.slice (some ⟨g,0,none⟩) objs[j].ents.length objs[j].ents.length) objs[j].ents.length (flat objs[j].ents)
theorem poolGetDir {F:Nat->Prop}{w:World}{s p:Nat}{a:Option Addr}{cap bf bd:Nat}{Df Dd:DataW Unit}{objs:List Ob}(i:InvAt ft F w s p a cap bf bd Df Dd objs)(id:Int):
  Calls Tryz.prog 57 #[.pointer (some ⟨p,0,none⟩),.int .i64 id] w fun e w'=>DirGot w w' objs id e/\Below w.heap.size w w':=by
 by_cases hk:kindOf objs id=2
 ·have hid:¬ (id<1\/(objs.length:Int)<id):=fun h=>by rw[kindOf_out h] at hk;cases hk
  obtain⟨j,rfl⟩:∃ j:Nat,id=(j:Int)+1:=⟨(id-1).toNat,by omega⟩
  have hj:j<objs.length:=by omega
  rw[kindOf_in hj] at hk
  rcases i.obs objs[j] (List.getElem_mem hj) with ⟨h1,_⟩ | ⟨_,h2,h3,_,_,_,_,h9⟩
  ·rw[h1] at hk;cases hk
  ·obtain⟨g,h7⟩ | ⟨h7,h70,h7c⟩:(∃ g,objs[j].ea=some ⟨g,0,none⟩)\/(objs[j].ea=none/\objs[j].el=0/\objs[j].ec=0):=by
    rcases h9.2 with ⟨hv,h0⟩ | ⟨g,cc,cur,hv,_⟩
    ·simp only[Value.slice.injEq] at hv;exact .inr hv
    ·simp only[Value.slice.injEq] at hv;exact .inl ⟨g,hv.1⟩
   rotate_left
   ·have he0:objs[j].ents = []:=List.length_eq_zero_iff.1 (h2.trans h70)
    refine (dir_nil p a objs.length cap bf bd objs j hj w i.pool hk h7 h70 h7c).mono fun e w' ⟨g',he,hr,hb⟩=>⟨.inr ⟨j,hj,rfl,hk,g',?_,?_⟩,hb⟩
    ·rw[he0];exact he
    ·rw[he0];exact hr
   rw[h7] at h9
   refine (dir_some p a objs.length cap bf bd objs j g objs[j].el objs[j].ec objs[j].ents hj w i.pool hk h7 rfl rfl (by rw[<- h2];exact h3.1) h2 (ownsRow_lt h9 rfl) (owns_cells h9)).mono fun e w' ⟨g',he,hr,hb⟩=>⟨.inr ⟨j,hj,rfl,hk,g',?_,?_⟩,hb⟩
   ·rw[h2];exact he
   ·rw[h2];exact hr
 ·exact (dir_not p a objs.length cap bf bd objs id w i.pool hk).mono fun e w' ⟨he,hb⟩=>⟨.inl ⟨hk,he⟩,hb⟩
theorem newStore_inv (w:World):Calls Tryz.prog 39 #[] w fun e w'=>∃ s,e=.returned (.pointer (some ⟨s,0,none⟩))/\Inv pt0 (NewF (fun _=>False) w w') w' s []/\Below w.heap.size w w':=by
 refine (newStore_any w).mono fun e w' ⟨he,hw⟩=>?_
 refine⟨_,he,?_,?_⟩
 ·subst hw
  have e3:∀ o1 o2 o3 o4:Obj,((((w.alloc o1).alloc o2).alloc o3).alloc o4).heap[w.heap.size+3]? = some o4:=fun o1 o2 o3 o4=>by
   have:=heap_alloc_new (((w.alloc o1).alloc o2).alloc o3) o4
   simpa using this
  have e2:∀ o1 o2 o3 o4:Obj,((((w.alloc o1).alloc o2).alloc o3).alloc o4).heap[w.heap.size+2]? = some o3:=fun o1 o2 o3 o4=>by
   rw[RowKit.Below.heap_alloc _ _ _ (by simp)]
   have:=heap_alloc_new ((w.alloc o1).alloc o2) o3
   simpa using this
  have e1:∀ o1 o2 o3 o4:Obj,((((w.alloc o1).alloc o2).alloc o3).alloc o4).heap[w.heap.size+1]? = some o2:=fun o1 o2 o3 o4=>by
   rw[RowKit.Below.heap_alloc _ _ _ (by simp),RowKit.Below.heap_alloc _ _ _ (by simp)]
   exact heap_alloc2_new w o1 o2
  have e0:∀ o1 o2 o3 o4:Obj,((((w.alloc o1).alloc o2).alloc o3).alloc o4).heap[w.heap.size]? = some o1:=fun o1 o2 o3 o4=>by
   rw[RowKit.Below.heap_alloc _ _ _ (by simp;omega),RowKit.Below.heap_alloc _ _ _ (by simp;omega)]
   exact heap_alloc2_old w o1 o2
  refine⟨w.heap.size+2,none,0,w.heap.size,w.heap.size+1,.map [],.map [],⟨.inr (by simp),.inr (by simp),.inr (by simp;omega),.inr (by simp),?_,e3 _ _ _ _,⟨e2 _ _ _ _,World.ownsRow_nil _ _ _ _,rfl,by simp⟩,by omega,?_,?_,?_,?_,?_⟩⟩
  ·intro g hg;cases hg
  ·exact⟨#[],0,e0 _ _ _ _,⟨by simp,MapKept.stamped_empty 0,by simp⟩,Nat.le_refl _,rfl⟩
  ·intro d;exact⟨rfl,fun i hi=>by cases hi⟩
  ·exact⟨#[],0,e1 _ _ _ _,⟨by simp,MapKept.stamped_empty 0,by simp⟩,Nat.le_refl _,rfl⟩
  ·intro es _;exact⟨rfl,fun i hi=>by cases hi⟩
  ·intro o ho;cases ho
 ·rw[hw]
  exact ((((Below.refl _ _).alloc (Nat.le_refl _) _).alloc (by simp) _).alloc (by simp;omega) _).alloc (by simp;omega) _
def heldElem (v:Value):Option (DataW Value×List MemPlace):=some (.held v,[])
def VMap (w:World)(k:TypeId)(b n:Nat)(M:Lit->Option Value):Prop:=
 ∃ D:DataW Value,w.ownsMap Tryz.prog k heldElem b n D/\∀ kl,WideAt.IsKeyLit kl->∀ z,D.atKey kl z=((M kl).map DataW.held).getD z
theorem VMap.lt {w:World}{k:TypeId}{b n:Nat}{M:Lit->Option Value}(h:VMap w k b n M):b<w.heap.size:=by
 obtain⟨D,hD,_⟩:=h
 exact hD.lt
theorem VMap.keep {w w':World}{k:TypeId}{b n:Nat}{M:Lit->Option Value}(h:VMap w k b n M)(e:w'.heap[b]? = w.heap[b]?):VMap w' k b n M:=by
 obtain⟨D,hD,hM⟩:=h
 exact⟨D,ownsMap_keep hD e,hM⟩
theorem VMap.isMap {w:World}{k:TypeId}{b n:Nat}{M:Lit->Option Value}(h:VMap w k b n M):∃ es clock,w.heap[b]? = some (.map es clock):=by
 obtain⟨D,hD,_⟩:=h
 exact ownsMap_isMap hD
theorem vmap_at {w:World}{k:TypeId}{b:Nat}(h:w.heap[b]? = some (.map #[] 0)):VMap w k b 0 (fun _=>none):=
 ⟨.map [],⟨#[],0,h,⟨by simp,MapKept.stamped_empty 0,by simp⟩,Nat.le_refl _,rfl⟩,fun kl _ z=>rfl⟩
theorem vmap_has {D:DataW Value}{M:Lit->Option Value}{kl:Lit}(h:∀ z,D.atKey kl z=((M kl).map DataW.held).getD z):Maps.has D kl=(M kl).isSome:=by
 cases hm:M kl with
 | none=>rw[hm] at h;exact Maps.has_false_of_atKey h
 | some v=>rw[hm] at h;exact Maps.has_true_of_atKey h
theorem VMap.look_ok {w:World}{k:TypeId}{b n:Nat}{M:Lit->Option Value}(h:VMap w k b n M)(K:Maps.Keyed Tryz.prog k){t e:TypeId}(ht:Tryz.prog.underlying t=some (.map k e)){z:Value}(hz:(zeroValue e).run Tryz.prog w=.ok z w)
  {key:Value}{kl:Lit}(hkey:keyOf Tryz.prog k key=some kl):(Instr.lookup t (.map (some b)) key true).run Tryz.prog w=.ok (.tuple #[(M kl).getD z,.bool (M kl).isSome]) w:=by
 obtain⟨D,hD,hM⟩:=h
 have hk:=K.key hkey
 obtain⟨v,ps,hrun,hv⟩:=hD.look_ok K ht hz (zd:=.held z) (zp:=[]) rfl hkey
 rw[hM kl hk,] at hv
 rw[hrun,vmap_has (hM kl hk)]
 cases hm:M kl with
 | none=>rw[hm] at hv;simp only[heldElem,Option.map_none,Option.getD_none,Option.some.injEq,Prod.mk.injEq,DataW.held.injEq] at hv;rw[hv.1];rfl
 | some u=>rw[hm] at hv;simp only[heldElem,Option.map_some,Option.getD_some,Option.some.injEq,Prod.mk.injEq,DataW.held.injEq] at hv;rw[hv.1];rfl
theorem VMap.look {w:World}{k:TypeId}{b n:Nat}{M:Lit->Option Value}(h:VMap w k b n M)(K:Maps.Keyed Tryz.prog k){t e:TypeId}(ht:Tryz.prog.underlying t=some (.map k e)){z:Value}(hz:(zeroValue e).run Tryz.prog w=.ok z w)
  {key:Value}{kl:Lit}(hkey:keyOf Tryz.prog k key=some kl):(Instr.lookup t (.map (some b)) key false).run Tryz.prog w=.ok ((M kl).getD z) w:=by
 obtain⟨D,hD,hM⟩:=h
 have hk:=K.key hkey
 obtain⟨v,ps,hrun,hv⟩:=hD.lookup K ht hz (zd:=.held z) (zp:=[]) rfl hkey
 rw[hM kl hk] at hv
 rw[hrun]
 cases hm:M kl with
 | none=>rw[hm] at hv;simp only[heldElem,Option.map_none,Option.getD_none,Option.some.injEq,Prod.mk.injEq,DataW.held.injEq] at hv;rw[hv.1];rfl
 | some u=>rw[hm] at hv;simp only[heldElem,Option.map_some,Option.getD_some,Option.some.injEq,Prod.mk.injEq,DataW.held.injEq] at hv;rw[hv.1];rfl
noncomputable def mset (M:Lit->Option Value)(kl:Lit)(v:Option Value):Lit->Option Value:=fun x=>by
 classical exact if x=kl then v else M x
theorem mset_same (M:Lit->Option Value)(kl:Lit)(v:Option Value):mset M kl v kl=v:=by simp[mset]
theorem mset_other {M:Lit->Option Value}{kl x:Lit}(h:x≠kl)(v:Option Value):mset M kl v x=M x:=by simp[mset,h]
theorem vmap_put {D:DataW Value}{M:Lit->Option Value}(hm:Maps.IsMap D)(hM:∀ kl,WideAt.IsKeyLit kl->∀ z,D.atKey kl z=((M kl).map DataW.held).getD z){kl:Lit}(hk:WideAt.IsKeyLit kl)(v:Value):
  ∀ x,WideAt.IsKeyLit x->∀ z,(D.put kl (.held v)).atKey x z=((mset M kl (some v) x).map DataW.held).getD z:=by
 intro x hx z
 by_cases e:x=kl
 ·subst e;rw[Maps.atKey_put_same hm hk,mset_same];rfl
 ·rw[Maps.atKey_put_other e,mset_other e,hM x hx]
theorem vmap_del {D:DataW Value}{M:Lit->Option Value}(hM:∀ kl,WideAt.IsKeyLit kl->∀ z,D.atKey kl z=((M kl).map DataW.held).getD z)(kl:Lit):
  ∀ x,WideAt.IsKeyLit x->∀ z,(D.del kl).atKey x z=((mset M kl none x).map DataW.held).getD z:=by
 intro x hx z
 by_cases e:x=kl
 ·subst e;rw[Maps.atKey_del_same,mset_same];rfl
 ·rw[Maps.atKey_del_other e,mset_other e,hM x hx]
theorem VMap.store {w:World}{k:TypeId}{b n:Nat}{M:Lit->Option Value}(h:VMap w k b n M)(K:Maps.Keyed Tryz.prog k){t e:TypeId}(ht:Tryz.prog.underlying t=some (.map k e))(hn:n<maxLen)
  {key val:Value}{kl:Lit}(hkey:keyOf Tryz.prog k key=some kl):
  ∃ w',(Instr.mapUpdate t (.map (some b)) key val).run Tryz.prog w=.ok () w'/\VMap w' k b (n+1) (mset M kl (some val))/\w.grownBy w' (some b)/\w'.heap.size=w.heap.size:=by
 obtain⟨D,hD,hM⟩:=h
 have hk:=K.key hkey
 obtain⟨w',hrun,hD',hg⟩:=hD.store K ht hn hkey (val:=val) (d:=.held val) (ps:=[]) rfl
 refine⟨w',hrun,⟨_,hD',vmap_put hD.isMap hM hk val⟩,hg.grown,?_⟩
 obtain⟨es,clock,es',clock',hb,rfl⟩:=hg
 simp[ChangeMaps.setBlock]
theorem VMap.drop {w:World}{k:TypeId}{b n:Nat}{M:Lit->Option Value}(h:VMap w k b n M)(K:Maps.Keyed Tryz.prog k){t e:TypeId}(ht:Tryz.prog.underlying t=some (.map k e))
  {key:Value}{kl:Lit}(hkey:keyOf Tryz.prog k key=some kl)(ty:TypeId):
  ∃ w',(Builtin.delete_ #[t,k] ty #[.map (some b),key]).run Tryz.prog w=.ok (.tuple #[]) w'/\VMap w' k b n (mset M kl none)/\w.grownBy w' (some b)/\w'.heap.size=w.heap.size:=by
 obtain⟨D,hD,hM⟩:=h
 obtain⟨w',hrun,hD',hg⟩:=hD.drop K ht hkey ty
 refine⟨w',hrun,⟨_,hD',vmap_del hM kl⟩,hg.grown,?_⟩
 obtain⟨es,clock,es',clock',hb,rfl⟩:=hg
 simp[ChangeMaps.setBlock]
inductive LT where
 | file (id:Int)
 | held (f:Nat)
 | dir (id:Int)
 | own (es:List (ByteArray×LT))
abbrev Kids:=List (ByteArray×LT)
def LT.kind:LT->Int
 | .file _=>1
 | .held _=>1
 | .dir _=>2
 | .own _=>2
def LT.id:LT->Int
 | .file i=>i
 | .held _=>0
 | .dir i=>i
 | .own _=>0
def entOf (x:ByteArray×LT):Ent:=(x.1,x.2.kind,x.2.id)
def ltOf (e:Ent):LT:=if e.2.1=2 then .dir e.2.2 else .file e.2.2
def kidOf (e:Ent):ByteArray×LT:=(e.1,ltOf e)
def entsOf (objs:List Ob)(id:Int):List Ent:=((objs[(id-1).toNat]?).map (fun o:Ob=>o.ents)).getD []
def bytesOf (objs:List Ob)(id:Int):ByteArray:=((objs[(id-1).toNat]?).map (fun o:Ob=>o.data)).getD ⟨#[]⟩
def kids (objs:List Ob):LT->Option Kids
 | .own es=>some es
 | .dir id=>some ((entsOf objs id).map kidOf)
 | _=>none
def pickK (es:Kids)(n:ByteArray):Option LT:=(es.find? (fun x=>decide (x.1=n))).map (·.2)
def LT.at (objs:List Ob):LT->List ByteArray->Option LT
 | t,[]=>some t
 | t,n :: r=>(kids objs t).bind fun es=>(pickK es n).bind fun c=>c.at objs r
theorem at_cons (objs:List Ob)(t:LT)(n:ByteArray)(r:List ByteArray):t.at objs (n :: r)=(kids objs t).bind fun es=>(pickK es n).bind fun c=>c.at objs r:=by rw[LT.at]
theorem at_nil (objs:List Ob)(t:LT):t.at objs []=some t:=by rw[LT.at]
theorem at_append (objs:List Ob):∀ (p q:List ByteArray) (t:LT),t.at objs (p++q)=(t.at objs p).bind fun c=>c.at objs q
 | [],q,t=>by rw[List.nil_append,at_nil];rfl
 | n :: r,q,t=>by
  rw[List.cons_append,at_cons,at_cons]
  cases kids objs t with
  | none=>rfl
  | some es=>
   simp only[Option.bind_some]
   cases pickK es n with
   | none=>rfl
   | some c=>simp only[Option.bind_some];exact at_append objs r q c
def modG (objs:List Ob)(f:Kids->Kids):List ByteArray->LT->LT
 | [],t=>.own (f ((kids objs t).getD []))
 | n :: r,t=>.own (((kids objs t).getD []).map fun x=>if x.1=n then (x.1,modG objs f r x.2) else x)
theorem modG_kids (objs:List Ob)(f:Kids->Kids)(t:LT):kids objs (modG objs f [] t)=some (f ((kids objs t).getD [])):=by rw[modG];rfl
theorem modG_cons (objs:List Ob)(f:Kids->Kids)(n:ByteArray)(r:List ByteArray)(t:LT):kids objs (modG objs f (n :: r) t)=some (((kids objs t).getD []).map fun x=>if x.1=n then (x.1,modG objs f r x.2) else x):=by rw[modG];rfl
theorem pick_map (n:ByteArray)(g:LT->LT)(m:ByteArray):∀ es:Kids,pickK (es.map fun x=>if x.1=n then (x.1,g x.2) else x) m=if m=n then (pickK es m).map g else pickK es m
 | []=>by split <;> rfl
 | x :: r=>by
  have ih:=pick_map n g m r
  unfold pickK at ih ⊢
  rw[List.map_cons]
  by_cases hx:x.1=n
  ·rw[if_pos hx]
   by_cases hm:x.1=m
   ·have hmn:m=n:=hm.symm.trans hx
    rw[if_pos hmn,List.find?_cons_of_pos (by simpa using hm),List.find?_cons_of_pos (by simpa using hm)];rfl
   ·rw[List.find?_cons_of_neg (by simpa using hm),List.find?_cons_of_neg (by simpa using hm)];exact ih
  ·rw[if_neg hx]
   by_cases hm:x.1=m
   ·have hmn:¬ m=n:=fun e=>hx (hm.trans e)
    rw[if_neg hmn,List.find?_cons_of_pos (by simpa using hm),List.find?_cons_of_pos (by simpa using hm)]
   ·rw[List.find?_cons_of_neg (by simpa using hm),List.find?_cons_of_neg (by simpa using hm)];exact ih
inductive Nd where
 | dir
 | file (d:ByteArray)
 deriving DecidableEq
abbrev FileC:=Nat->ByteArray
def nd (objs:List Ob)(fc:FileC):LT->Nd
 | .file i=>.file (bytesOf objs i)
 | .held f=>.file (fc f)
 | .dir _=>.dir
 | .own _=>.dir
def sem (objs:List Ob)(fc:FileC)(t:LT)(p:List ByteArray):Option Nd:=(t.at objs p).map (nd objs fc)
theorem sem_nil (objs:List Ob)(fc:FileC)(t:LT):sem objs fc t []=some (nd objs fc t):=by unfold sem;rw[at_nil];rfl
theorem sem_cons (objs:List Ob)(fc:FileC)(t:LT)(n:ByteArray)(r:List ByteArray):sem objs fc t (n :: r)=(kids objs t).bind fun es=>(pickK es n).bind fun c=>sem objs fc c r:=by
 unfold sem;rw[at_cons]
 cases kids objs t with
 | none=>rfl
 | some es=>
  simp only[Option.bind_some]
  cases pickK es n <;> rfl
theorem sem_mod (objs:List Ob)(fc:FileC)(f:Kids->Kids):∀ (p:List ByteArray) (t d:LT) (ks:Kids),t.at objs p=some d->kids objs d=some ks->
  (∀ n r,sem objs fc (modG objs f p t) (p++n :: r)=(pickK (f ks) n).bind fun c=>sem objs fc c r)/\
  (∀ q,(¬ ∃ n r,q=p++n :: r)->sem objs fc (modG objs f p t) q=sem objs fc t q)
 | [],t,d,ks,ha,hk=>by
  rw[at_nil] at ha;cases ha
  refine⟨fun n r=>?_,fun q hq=>?_⟩
  ·rw[List.nil_append,sem_cons,modG_kids,hk];rfl
  ·cases q with
   | nil=>
    rw[sem_nil,sem_nil,modG]
    cases t <;> first | rfl | (simp[kids] at hk)
   | cons n r=>exact absurd ⟨n,r,rfl⟩ hq
 | m :: p,t,d,ks,ha,hk=>by
  rw[at_cons] at ha
  cases hkt:kids objs t with
  | none=>rw[hkt] at ha;simp at ha
  | some es=>
   rw[hkt] at ha
   simp only[Option.bind_some] at ha
   cases hc:pickK es m with
   | none=>rw[hc] at ha;simp at ha
   | some c=>
    rw[hc] at ha
    simp only[Option.bind_some] at ha
    obtain⟨i1,i2⟩:=sem_mod objs fc f p c d ks ha hk
    refine⟨fun n r=>?_,fun q hq=>?_⟩
    ·rw[List.cons_append,sem_cons,modG_cons,hkt,Option.getD_some,Option.bind_some,pick_map,if_pos rfl,hc,Option.map_some,Option.bind_some]
     exact i1 n r
    ·cases q with
     | nil=>
      rw[sem_nil,sem_nil,modG]
      cases t <;> first | rfl | (simp[kids] at hkt)
     | cons n r=>
      rw[sem_cons,sem_cons,modG_cons,hkt,Option.getD_some,Option.bind_some,Option.bind_some,pick_map]
      by_cases hn:n=m
      ·subst hn
       rw[if_pos rfl,hc,Option.map_some,Option.bind_some,Option.bind_some]
       exact i2 r (fun⟨x,y,e⟩=>hq ⟨x,y,by rw[e];rfl⟩)
      ·rw[if_neg hn]
structure FS where
 got:List Int
 brk:Bool
 kF:Int->Bool
 kD:Int->Bool
def FS.dirG (s:FS)(id:Int):FS×Bool:=
 if s.kD id then (s,true) else if s.brk then ({ s with brk:=false },false) else ({ s with got:=s.got ++ [id],kD:=fun x=>decide (x=id) || s.kD x },true)
def FS.fileG (s:FS)(id:Int):FS×Bool:=
 if s.kF id then (s,true) else if s.brk then ({ s with brk:=false },false) else ({ s with got:=s.got ++ [id],kF:=fun x=>decide (x=id) || s.kF x },true)
def FS.Next (s s':FS):Prop:=s'.brk=s.brk/\(s.brk=true->s'=s)/\(∃ l,s'.got=s.got++l)/\(∀ x,s.kF x=true->s'.kF x=true)/\(∀ x,s.kD x=true->s'.kD x=true)
def FS.Fail (s s':FS):Prop:=s.brk=true/\s' = { s with brk:=false }
theorem FS.Next.refl (s:FS):s.Next s:=⟨rfl,fun _=>rfl,⟨[],by simp⟩,fun _ h=>h,fun _ h=>h⟩
theorem FS.Next.trans {s s' s'':FS}(h:s.Next s')(k:s'.Next s''):s.Next s'':=by
 obtain⟨h1,h2,⟨l,h3⟩,h4,h5⟩:=h
 obtain⟨k1,k2,⟨m,k3⟩,k4,k5⟩:=k
 refine⟨k1.trans h1,fun hb=>?_,⟨l++m,by rw[k3,h3,List.append_assoc]⟩,fun x hx=>k4 x (h4 x hx),fun x hx=>k5 x (h5 x hx)⟩
 rw[k2 (h1.trans hb),h2 hb]
theorem FS.Next.fail {s s' s'':FS}(h:s.Next s')(k:s'.Fail s''):s.Fail s'':=by
 obtain⟨k1,k2⟩:=k
 have hb:s.brk=true:=h.1.symm.trans k1
 have he:=h.2.1 hb
 subst he
 exact⟨hb,k2⟩
theorem FS.dirG_cases (s:FS)(id:Int):((s.dirG id).2=true/\s.Next (s.dirG id).1/\(s.dirG id).1.kD id=true)\/((s.dirG id).2=false/\s.Fail (s.dirG id).1):=by
 unfold FS.dirG
 by_cases h:s.kD id=true
 ·rw[if_pos h];exact .inl ⟨rfl,FS.Next.refl s,h⟩
 ·rw[if_neg h]
  by_cases hb:s.brk=true
  ·rw[if_pos hb];exact .inr ⟨rfl,hb,rfl⟩
  ·rw[if_neg hb]
   exact .inl ⟨rfl,⟨rfl,fun h=>absurd h hb,⟨[id],rfl⟩,fun _ h=>h,fun x hx=>by simp[hx]⟩,by simp⟩
theorem FS.fileG_cases (s:FS)(id:Int):((s.fileG id).2=true/\s.Next (s.fileG id).1/\(s.fileG id).1.kF id=true)\/((s.fileG id).2=false/\s.Fail (s.fileG id).1):=by
 unfold FS.fileG
 by_cases h:s.kF id=true
 ·rw[if_pos h];exact .inl ⟨rfl,FS.Next.refl s,h⟩
 ·rw[if_neg h]
  by_cases hb:s.brk=true
  ·rw[if_pos hb];exact .inr ⟨rfl,hb,rfl⟩
  ·rw[if_neg hb]
   exact .inl ⟨rfl,⟨rfl,fun h=>absurd h hb,⟨[id],rfl⟩,fun x hx=>by simp[hx],fun _ h=>h⟩,by simp⟩
def kidsG (objs:List Ob)(s:FS):LT->FS×Int×Kids
 | .own es=>(s,0,es)
 | .dir id=>if (s.dirG id).2 then ((s.dirG id).1,0,(entsOf objs id).map kidOf) else ((s.dirG id).1,14,[])
 | _=>(s,5,[])
def kidsE (objs:List Ob):LT->Int×Kids
 | .own es=>(0,es)
 | .dir id=>(0,(entsOf objs id).map kidOf)
 | _=>(5,[])
def findR (objs:List Ob)(t:LT)(s:FS):List ByteArray->FS×Int×LT
 | []=>(s,0,t)
 | n :: r=>
  let a:=findR objs t s r
  if a.2.1≠0 then (a.1,a.2.1,.dir 0) else
  let b:=kidsG objs a.1 a.2.2
  if b.2.1≠0 then (b.1,b.2.1,.dir 0) else
  match pickK b.2.2 n with
  | none=>(b.1,4,.dir 0)
  | some c=>(b.1,0,c)
def findE (objs:List Ob)(t:LT):List ByteArray->Int×LT
 | []=>(0,t)
 | n :: r=>
  let a:=findE objs t r
  if a.1≠0 then (a.1,.dir 0) else
  let b:=kidsE objs a.2
  if b.1≠0 then (b.1,.dir 0) else
  match pickK b.2 n with
  | none=>(4,.dir 0)
  | some c=>(0,c)
def lookR (objs:List Ob)(t:LT)(s:FS)(r:List ByteArray):FS×Int×Kids:=
 let a:=findR objs t s r
 if a.2.1≠0 then (a.1,a.2.1,[]) else kidsG objs a.1 a.2.2
def lookE (objs:List Ob)(t:LT)(r:List ByteArray):Int×Kids:=
 let a:=findE objs t r
 if a.1≠0 then (a.1,[]) else kidsE objs a.2
theorem kidsE_not14 (objs:List Ob)(t:LT):(kidsE objs t).1≠14:=by cases t <;> simp[kidsE]
theorem kidsG_cases (objs:List Ob)(s:FS)(t:LT):(s.Next (kidsG objs s t).1/\(kidsG objs s t).2=kidsE objs t)\/(s.Fail (kidsG objs s t).1/\(kidsG objs s t).2=(14,[])):=by
 cases t with
 | file i=>exact .inl ⟨FS.Next.refl s,rfl⟩
 | held f=>exact .inl ⟨FS.Next.refl s,rfl⟩
 | own es=>exact .inl ⟨FS.Next.refl s,rfl⟩
 | dir id=>
  have e1:kidsG objs s (.dir id)=if (s.dirG id).2 then ((s.dirG id).1,0,(entsOf objs id).map kidOf) else ((s.dirG id).1,14,[]):=rfl
  have e2:kidsE objs (.dir id)=(0,(entsOf objs id).map kidOf):=rfl
  rw[e1,e2]
  rcases s.dirG_cases id with ⟨h,hn,_⟩ | ⟨h,hf⟩
  ·rw[if_pos h];exact .inl ⟨hn,rfl⟩
  ·rw[if_neg (by rw[h];decide)];exact .inr ⟨hf,rfl⟩
theorem findR_cases (objs:List Ob)(t:LT)(s:FS):∀ r,(s.Next (findR objs t s r).1/\(findR objs t s r).2=findE objs t r/\(findE objs t r).1≠14)\/(s.Fail (findR objs t s r).1/\(findR objs t s r).2=(14,.dir 0))
 | []=>.inl ⟨FS.Next.refl s,rfl,by simp[findE]⟩
 | n :: r=>by
  rcases findR_cases objs t s r with ⟨hn,he,h14⟩ | ⟨hf,he⟩
  ·have e1:(findR objs t s r).2.1=(findE objs t r).1:=by rw[he]
   have e2:(findR objs t s r).2.2=(findE objs t r).2:=by rw[he]
   unfold findR findE
   by_cases h0:(findE objs t r).1≠0
   ·simp only[e1,if_pos h0]
    exact .inl ⟨hn,trivial,h14⟩
   ·simp only[e1,e2,if_neg h0]
    rcases kidsG_cases objs (findR objs t s r).1 (findE objs t r).2 with ⟨kn,ke⟩ | ⟨kf,ke⟩
    ·have k1:(kidsG objs (findR objs t s r).1 (findE objs t r).2).2.1=(kidsE objs (findE objs t r).2).1:=by rw[ke]
     have k2:(kidsG objs (findR objs t s r).1 (findE objs t r).2).2.2=(kidsE objs (findE objs t r).2).2:=by rw[ke]
     rw[k1,k2]
     have hk:=kidsE_not14 objs (findE objs t r).2
     by_cases hb:(kidsE objs (findE objs t r).2).1≠0
     ·rw[if_pos hb,if_pos hb];exact .inl ⟨hn.trans kn,rfl,hk⟩
     ·rw[if_neg hb,if_neg hb]
      cases hp:pickK (kidsE objs (findE objs t r).2).2 n with
      | none=>exact .inl ⟨hn.trans kn,rfl,by simp⟩
      | some c=>exact .inl ⟨hn.trans kn,rfl,by simp⟩
    ·have k1:(kidsG objs (findR objs t s r).1 (findE objs t r).2).2.1=14:=by rw[ke]
     rw[k1,if_pos (by decide)]
     exact .inr ⟨hn.fail kf,rfl⟩
  ·have e1:(findR objs t s r).2.1=14:=by rw[he]
   unfold findR
   simp only[e1]
   rw[if_pos (by decide)]
   exact .inr ⟨hf,rfl⟩
theorem lookR_cases (objs:List Ob)(t:LT)(s:FS)(r:List ByteArray):(s.Next (lookR objs t s r).1/\(lookR objs t s r).2=lookE objs t r/\(lookE objs t r).1≠14)\/(s.Fail (lookR objs t s r).1/\(lookR objs t s r).2=(14,[])):=by
 rcases findR_cases objs t s r with ⟨hn,he,h14⟩ | ⟨hf,he⟩
 ·have e1:(findR objs t s r).2.1=(findE objs t r).1:=by rw[he]
  have e2:(findR objs t s r).2.2=(findE objs t r).2:=by rw[he]
  unfold lookR lookE
  by_cases h0:(findE objs t r).1≠0
  ·simp only[e1,if_pos h0];exact .inl ⟨hn,trivial,h14⟩
  ·simp only[e1,e2,if_neg h0]
   rcases kidsG_cases objs (findR objs t s r).1 (findE objs t r).2 with ⟨kn,ke⟩ | ⟨kf,ke⟩
   ·exact .inl ⟨hn.trans kn,ke,kidsE_not14 _ _⟩
   ·exact .inr ⟨hn.fail kf,ke⟩
 ·have e1:(findR objs t s r).2.1=14:=by rw[he]
  unfold lookR
  simp only[e1]
  rw[if_pos (by decide)]
  exact .inr ⟨hf,rfl⟩
theorem findE_at (objs:List Ob)(t:LT):∀ r,((findE objs t r).1=0->t.at objs r.reverse=some (findE objs t r).2)/\((findE objs t r).1≠0->t.at objs r.reverse=none)
 | []=>⟨fun _=>by rw[List.reverse_nil,at_nil];rfl,fun h=>absurd rfl h⟩
 | n :: r=>by
  obtain⟨i1,i2⟩:=findE_at objs t r
  have hsn:t.at objs (n :: r).reverse=(t.at objs r.reverse).bind fun c=>c.at objs [n]:=by rw[List.reverse_cons,at_append]
  have h1:∀ c:LT,c.at objs [n]=(kids objs c).bind fun es=>pickK es n:=by
   intro c;rw[at_cons]
   cases kids objs c with
   | none=>rfl
   | some es=>
    simp only[Option.bind_some]
    cases pickK es n with
    | none=>rfl
    | some x=>simp only[Option.bind_some];rw[at_nil]
  rw[hsn]
  unfold findE
  by_cases h0:(findE objs t r).1≠0
  ·simp only[if_pos h0]
   rw[i2 h0]
   exact⟨fun h=>absurd h h0,fun _=>rfl⟩
  ·simp only[if_neg h0]
   rw[i1 (Decidable.not_not.1 h0),Option.bind_some,h1]
   cases hd:(findE objs t r).2 with
   | file i=>simp[kidsE,kids]
   | held f=>simp[kidsE,kids]
   | own es=>
    simp only[kidsE,kids,Option.bind_some]
    cases hp:pickK es n <;> simp
   | dir id=>
    simp only[kidsE,kids,Option.bind_some]
    cases hp:pickK ((entsOf objs id).map kidOf) n <;> simp
section
variable {α β:Type}
def cmpN (a b:ByteArray):Int:=Lib.compareBytes a.data.toList b.data.toList
theorem cmpN_self (a:ByteArray):cmpN a a=0:=cmp_self _
theorem cmpN_zero {a b:ByteArray}(h:cmpN a b=0):a=b:=bytes_inj (cmp_eq_zero _ _ h)
theorem cmpN_swap (a b:ByteArray):cmpN b a = - cmpN a b:=cmp_swap _ _
theorem cmpN_trans {a b c:ByteArray}(h:cmpN a b<0)(k:cmpN b c<0):cmpN a c<0:=cmp_trans _ _ _ h k
def RisingK (es:List (ByteArray×α)):Prop:=es.Pairwise fun x y=>cmpN x.1 y.1<0
def idxK (es:List (ByteArray×α))(n:ByteArray):Nat:=es.countP fun x=>decide (cmpN x.1 n<0)
def thereK (es:List (ByteArray×α))(n:ByteArray):Bool:=((es[idxK es n]?).map fun x=>decide (x.1=n)).getD false
def getK (es:List (ByteArray×α))(n:ByteArray):Option α:=(es.find? fun x=>decide (x.1=n)).map (·.2)
theorem idxK_le (es:List (ByteArray×α))(n:ByteArray):idxK es n<=es.length:=List.countP_le_length
theorem idxK_cons_lt {x:ByteArray×α}{r:List (ByteArray×α)}{n:ByteArray}(h:cmpN x.1 n<0):idxK (x :: r) n=idxK r n+1:=by unfold idxK;rw[List.countP_cons_of_pos (by simpa using h)]
theorem idxK_cons_ge {x:ByteArray×α}{r:List (ByteArray×α)}{n:ByteArray}(hr:RisingK (x :: r))(h:¬ cmpN x.1 n<0):idxK (x :: r) n=0:=by
 unfold idxK
 rw[List.countP_eq_zero]
 intro y hy
 rcases List.mem_cons.1 hy with rfl | hy
 ·simpa using h
 ·have h1:=(List.pairwise_cons.1 hr).1 y hy
  simp only[decide_eq_true_eq]
  exact fun h2=>h (cmpN_trans h1 h2)
theorem RisingK.tail {x:ByteArray×α}{r:List (ByteArray×α)}(h:RisingK (x :: r)):RisingK r:=(List.pairwise_cons.1 h).2
theorem getK_cons_pos {x:ByteArray×α}{r:List (ByteArray×α)}{n:ByteArray}(h:x.1=n):getK (x :: r) n=some x.2:=by unfold getK;rw[List.find?_cons_of_pos (by simpa using h)];rfl
theorem getK_cons_neg {x:ByteArray×α}{r:List (ByteArray×α)}{n:ByteArray}(h:x.1≠n):getK (x :: r) n=getK r n:=by unfold getK;rw[List.find?_cons_of_neg (by simpa using h)]
theorem getK_none_of {es:List (ByteArray×α)}{n:ByteArray}(h:∀ x ∈ es,x.1≠n):getK es n=none:=by
 unfold getK
 rw[List.find?_eq_none.2 (by intro x hx;simpa using h x hx)];rfl
theorem getK_there:∀ {es:List (ByteArray×α)} {n:ByteArray},RisingK es->getK es n=if thereK es n then (es[idxK es n]?).map (·.2) else none
 | [],n,_=>by simp[getK,thereK,idxK]
 | x :: r,n,h=>by
  by_cases hx:cmpN x.1 n<0
  ·have hne:x.1≠n:=fun e=>by rw[e,cmpN_self] at hx;omega
   have ih:=getK_there (n:=n) h.tail
   rw[getK_cons_neg hne,ih]
   unfold thereK
   rw[idxK_cons_lt hx]
   simp
  ·unfold thereK
   rw[idxK_cons_ge h hx]
   simp only[List.getElem?_cons_zero,Option.map_some,Option.getD_some]
   by_cases hn:x.1=n
   ·rw[getK_cons_pos hn];simp[hn]
   ·rw[getK_cons_neg hn,getK_none_of]
    ·simp[hn]
    ·intro y hy e
     have h1:=(List.pairwise_cons.1 h).1 y hy
     rw[e] at h1
     exact hx h1
def putK (es:List (ByteArray×α))(n:ByteArray)(c:α):List (ByteArray×α):=if thereK es n then es.set (idxK es n) (n,c) else es.take (idxK es n)++(n,c) :: es.drop (idxK es n)
def dropK (es:List (ByteArray×α))(n:ByteArray):List (ByteArray×α):=es.eraseIdx (idxK es n)
theorem thereK_cons_lt {x:ByteArray×α}{r:List (ByteArray×α)}{n:ByteArray}(h:cmpN x.1 n<0):thereK (x :: r) n=thereK r n:=by unfold thereK;rw[idxK_cons_lt h];rfl
theorem putK_cons_lt {x:ByteArray×α}{r:List (ByteArray×α)}{n:ByteArray}{c:α}(h:cmpN x.1 n<0):putK (x :: r) n c=x :: putK r n c:=by
 unfold putK
 rw[thereK_cons_lt h,idxK_cons_lt h]
 split <;> simp
theorem dropK_cons_lt {x:ByteArray×α}{r:List (ByteArray×α)}{n:ByteArray}(h:cmpN x.1 n<0):dropK (x :: r) n=x :: dropK r n:=by unfold dropK;rw[idxK_cons_lt h];rfl
theorem thereK_cons_ge {x:ByteArray×α}{r:List (ByteArray×α)}{n:ByteArray}(hr:RisingK (x :: r))(h:¬ cmpN x.1 n<0):thereK (x :: r) n=decide (x.1=n):=by unfold thereK;rw[idxK_cons_ge hr h];rfl
theorem putK_cons_ge {x:ByteArray×α}{r:List (ByteArray×α)}{n:ByteArray}{c:α}(hr:RisingK (x :: r))(h:¬ cmpN x.1 n<0):putK (x :: r) n c=if x.1=n then (n,c) :: r else (n,c) :: x :: r:=by
 unfold putK
 rw[thereK_cons_ge hr h,idxK_cons_ge hr h]
 by_cases e:x.1=n <;> simp[e]
theorem dropK_cons_ge {x:ByteArray×α}{r:List (ByteArray×α)}{n:ByteArray}(hr:RisingK (x :: r))(h:¬ cmpN x.1 n<0):dropK (x :: r) n=r:=by unfold dropK;rw[idxK_cons_ge hr h];rfl
theorem getK_put:∀ {es:List (ByteArray×α)} {n:ByteArray} {c:α},RisingK es->∀ m,getK (putK es n c) m=if m=n then some c else getK es m
 | [],n,c,_,m=>by
  by_cases e:m=n
  ·subst e;simp[putK,thereK,idxK,getK]
  ·have:¬ n=m:=fun h=>e h.symm
   simp[putK,thereK,idxK,getK,e,this]
 | x :: r,n,c,h,m=>by
  by_cases hx:cmpN x.1 n<0
  ·have hne:x.1≠n:=fun e=>by rw[e,cmpN_self] at hx;omega
   rw[putK_cons_lt hx]
   by_cases hm:x.1=m
   ·rw[getK_cons_pos hm,getK_cons_pos hm,if_neg (fun e=>hne (hm.trans e))]
   ·rw[getK_cons_neg hm,getK_cons_neg hm];exact getK_put h.tail m
  ·rw[putK_cons_ge h hx]
   by_cases hn:x.1=n
   ·rw[if_pos hn]
    by_cases hm:m=n
    ·rw[if_pos hm,getK_cons_pos hm.symm]
    ·rw[if_neg hm,getK_cons_neg (fun e=>hm e.symm),getK_cons_neg (fun e=>hm (e.symm.trans hn))]
   ·rw[if_neg hn]
    by_cases hm:m=n
    ·rw[if_pos hm,getK_cons_pos hm.symm]
    ·rw[if_neg hm,getK_cons_neg (fun e=>hm e.symm)]
theorem getK_drop:∀ {es:List (ByteArray×α)} {n:ByteArray},RisingK es->thereK es n=true->∀ m,getK (dropK es n) m=if m=n then none else getK es m
 | [],n,_,ht,m=>by simp[thereK,idxK] at ht
 | x :: r,n,h,ht,m=>by
  by_cases hx:cmpN x.1 n<0
  ·have hne:x.1≠n:=fun e=>by rw[e,cmpN_self] at hx;omega
   rw[thereK_cons_lt hx] at ht
   rw[dropK_cons_lt hx]
   by_cases hm:x.1=m
   ·rw[getK_cons_pos hm,getK_cons_pos hm,if_neg (fun e=>hne (hm.trans e))]
   ·rw[getK_cons_neg hm,getK_cons_neg hm];exact getK_drop h.tail ht m
  ·rw[thereK_cons_ge h hx] at ht
   have hn:x.1=n:=by simpa using ht
   rw[dropK_cons_ge h hx]
   by_cases hm:m=n
   ·rw[if_pos hm]
    refine getK_none_of fun y hy e=>?_
    have h1:=(List.pairwise_cons.1 h).1 y hy
    rw[e,hm,hn,cmpN_self] at h1;omega
   ·rw[if_neg hm,getK_cons_neg (fun e=>hm (e.symm.trans hn))]
theorem putK_mem:∀ {es:List (ByteArray×α)} {n:ByteArray} {c:α} {y:ByteArray×α},RisingK es->y ∈ putK es n c->y=(n,c)\/y ∈ es:=by
 intro es n c y h hy
 unfold putK at hy
 split at hy
 ·exact (List.mem_or_eq_of_mem_set hy).symm
 ·rw[List.mem_append,List.mem_cons] at hy
  rcases hy with h1 | h1 | h1
  ·exact .inr (List.mem_of_mem_take h1)
  ·exact .inl h1
  ·exact .inr (List.mem_of_mem_drop h1)
theorem putK_rising:∀ {es:List (ByteArray×α)} {n:ByteArray} {c:α},RisingK es->RisingK (putK es n c)
 | [],n,c,_=>by simp[putK,thereK,idxK,RisingK]
 | x :: r,n,c,h=>by
  by_cases hx:cmpN x.1 n<0
  ·rw[putK_cons_lt hx]
   refine List.pairwise_cons.2 ⟨fun y hy=>?_,putK_rising h.tail⟩
   rcases putK_mem h.tail hy with rfl | hy
   ·exact hx
   ·exact (List.pairwise_cons.1 h).1 y hy
  ·rw[putK_cons_ge h hx]
   by_cases hn:x.1=n
   ·rw[if_pos hn]
    exact List.pairwise_cons.2 ⟨fun y hy=>by have:=(List.pairwise_cons.1 h).1 y hy;rw[hn] at this;exact this,h.tail⟩
   ·rw[if_neg hn]
    have hgt:cmpN n x.1<0:=by
     have h1:=cmpN_swap x.1 n
     have h2:cmpN x.1 n≠0:=fun e=>hn (cmpN_zero e)
     omega
    refine List.pairwise_cons.2 ⟨fun y hy=>?_,h⟩
    rcases List.mem_cons.1 hy with rfl | hy
    ·exact hgt
    ·exact cmpN_trans hgt ((List.pairwise_cons.1 h).1 y hy)
theorem putK_length (es:List (ByteArray×α))(n:ByteArray)(c:α):(putK es n c).length=if thereK es n then es.length else es.length+1:=by
 unfold putK
 have:=idxK_le es n
 split <;> simp;omega
theorem thereK_lt {es:List (ByteArray×α)}{n:ByteArray}(h:thereK es n=true):idxK es n<es.length:=by
 unfold thereK at h
 by_cases hi:idxK es n<es.length
 ·exact hi
 ·rw[List.getElem?_eq_none (by omega)] at h;simp at h
theorem dropK_length {es:List (ByteArray×α)}{n:ByteArray}(h:thereK es n=true):(dropK es n).length=es.length-1:=by
 unfold dropK
 rw[List.length_eraseIdx_of_lt (thereK_lt h)]
def mapK (f:ByteArray×α->β)(es:List (ByteArray×α)):List (ByteArray×β):=es.map fun x=>(x.1,f x)
theorem mapK_idx (f:ByteArray×α->β)(es:List (ByteArray×α))(n:ByteArray):idxK (mapK f es) n=idxK es n:=by
 unfold idxK mapK
 rw[List.countP_map];rfl
theorem mapK_there (f:ByteArray×α->β)(es:List (ByteArray×α))(n:ByteArray):thereK (mapK f es) n=thereK es n:=by
 unfold thereK
 rw[mapK_idx]
 unfold mapK
 rw[List.getElem?_map]
 cases es[idxK es n]? <;> rfl
theorem mapK_rising (f:ByteArray×α->β){es:List (ByteArray×α)}(h:RisingK es):RisingK (mapK f es):=by
 unfold RisingK mapK
 rw[List.pairwise_map];exact h
theorem mapK_drop (f:ByteArray×α->β)(es:List (ByteArray×α))(n:ByteArray):mapK f (dropK es n)=dropK (mapK f es) n:=by
 unfold dropK
 rw[mapK_idx]
 unfold mapK
 simp[List.eraseIdx_eq_take_drop_succ,List.map_take,List.map_drop]
end
theorem pickK_getK (es:Kids)(n:ByteArray):pickK es n=getK es n:=rfl
def toL (s:ByteArray):List UInt8:=s.data.toList
theorem toL_inj {a b:ByteArray}(h:toL a=toL b):a=b:=bytes_inj h
theorem toL_len (s:ByteArray):(toL s).length=s.size:=Array.length_toList
theorem toL_eq (s:ByteArray):s.toList=toL s:=by simp only[ByteArray.toList_eq];rfl
def joinL:List (List UInt8)->List UInt8
 | []=>[]
 | [x]=>x
 | x :: y :: r=>x++47 :: joinL (y :: r)
def splitL:List UInt8->List (List UInt8)
 | []=>[[]]
 | c :: r=>if c=47 then [] :: splitL r else ((c :: (splitL r).headD []) :: (splitL r).tail)
theorem split_append:∀ (a b:List UInt8),(∀ c ∈ a,c≠47)->splitL (a++47 :: b)=a :: splitL b
 | [],b,_=>by simp[splitL]
 | c :: r,b,h=>by
  have hc:c≠47:=h c (List.mem_cons_self ..)
  have ih:=split_append r b (fun d hd=>h d (List.mem_cons_of_mem _ hd))
  simp only[List.cons_append,splitL]
  rw[if_neg hc,ih];rfl
theorem split_plain:∀ (a:List UInt8),(∀ c ∈ a,c≠47)->splitL a = [a]
 | [],_=>rfl
 | c :: r,h=>by
  have hc:c≠47:=h c (List.mem_cons_self ..)
  have ih:=split_plain r (fun d hd=>h d (List.mem_cons_of_mem _ hd))
  simp only[splitL]
  rw[if_neg hc,ih];rfl
theorem split_joinL:∀ (l:List (List UInt8)),l ≠ []->(∀ x ∈ l,∀ c ∈ x,c≠47)->splitL (joinL l)=l
 | [],h,_=>absurd rfl h
 | [x],_,h=>by simp only[joinL];exact split_plain x (h x (List.mem_cons_self ..))
 | x :: y :: r,_,h=>by
  simp only[joinL]
  rw[split_append x _ (h x (List.mem_cons_self ..)),split_joinL (y :: r) (by simp) (fun z hz=>h z (List.mem_cons_of_mem _ hz))]
theorem joinL_cons (x:List UInt8){r:List (List UInt8)}(h:r ≠ []):joinL (x :: r)=x++47 :: joinL r:=by
 cases r with
 | nil=>exact absurd rfl h
 | cons y t=>rfl
theorem joinL_snoc (x:List UInt8):∀ (l:List (List UInt8)),l ≠ []->joinL (l ++ [x])=joinL l++47 :: x
 | [],h=>absurd rfl h
 | [y],_=>rfl
 | y :: z :: r,_=>by
  have ih:=joinL_snoc x (z :: r) (by simp)
  show y++47 :: joinL (z :: r ++ [x])=(y++47 :: joinL (z :: r))++47 :: x
  rw[ih];simp
theorem toL_append (a b:ByteArray):toL (a++b)=toL a++toL b:=by
 unfold toL
 simp
def Valids (l:List ByteArray):Prop:=∀ x ∈ l,validB x=true
theorem Valids.append {a b:List ByteArray}(ha:Valids a)(hb:Valids b):Valids (a++b):=fun x hx=>(List.mem_append.1 hx).elim (ha x) (hb x)
end Go.Proofs.YtajopoddmfdejaaGreat
