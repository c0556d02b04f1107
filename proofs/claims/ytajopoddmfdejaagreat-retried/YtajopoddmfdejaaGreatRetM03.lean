/-
  What is proved here: 'measure' over a pool and a list of entries: no such object, too deep, or how much stands one below the other. GetDir of the objects' pool: no such directory, or a new list of its entries. ..
-/
import Derived.Test.YtajopoddmfdejaaGreatRetM02
import Derived.StillTailTactics
namespace Go.Proofs.YtajopoddmfdejaaGreat
open Go.RowKit Go.Sort Go.Shelf
set_option linter.unusedVariables false
set_option maxRecDepth 100000
set_option maxHeartbeats 16000000
variable {ft:PTail}
def goodE (objs:List Ob)(e:Ent):Bool:=!(kindOf objs e.2.2 == 0) && (kindOf objs e.2.2 == e.2.1)
def highs (objs:List Ob)(es:List Ent):Int:=es.foldl (fun h e=>max h (1+highOf objs e.2.2)) 0
theorem highs_snoc (objs:List Ob)(es:List Ent)(e:Ent):highs objs (es ++ [e])=max (highs objs es) (1+highOf objs e.2.2):=by
 simp only[highs,List.foldl_append,List.foldl_cons,List.foldl_nil]
def Measured (w w':World)(objs:List Ob)(es:List Ent)(e:Ending):Prop:=
  Below w.heap.size w w'/\
   (((∃ x ∈ es,goodE objs x=false)/\e=.returned (.tuple #[.int .i64 0,.int .i64 13]))\/
    ((∀ x ∈ es,goodE objs x=true)/\5<highs objs es/\e=.returned (.tuple #[.int .i64 0,.int .i64 11]))\/
    ((∀ x ∈ es,goodE objs x=true)/\highs objs es<=5/\0<=highs objs es/\e=.returned (.tuple #[.int .i64 (highs objs es),.int .i64 0])))
theorem measure_some (p g cap':Nat)(a:Option Addr)(n cap bf bd m:Nat)(objs:List Ob)(es:List Ent)(w:World)(h:Pooled ft w p a n cap bf bd objs)(hl:es.length=m)(hm:m<=16)(hgl:g<w.heap.size)
  (hc:∀ j u,(flat es)[j]? = some u->w.cell? ⟨g,0+j,none⟩=some u)(hh:∀ o ∈ objs,0<=o.high/\o.high<=5):
  Calls Tryz.prog 69 #[.pointer (some ⟨p,0,none⟩),.slice (some ⟨g,0,none⟩) m cap'] w fun e w'=>Measured w w' objs es e:=by
 have HC:Hid (∀ j u,(flat es)[j]? = some u->w.cell? ⟨g,0+j,none⟩=some u):=hc
 have HL:Hid (es.length=m):=hl
 have HH:Hid (∀ o ∈ objs,0<=o.high/\o.high<=5):=hh
 clear hc hl hh
 go_enter Tryz.func69,Tryz.ntmps69
 go_wp2
 go_loopw [6,12] (fun t i wr=>∃ k:Nat,k<=m/\i=.int .i64 k/\t=.int .i64 (highs objs (es.take k))/\0<=highs objs (es.take k)/\highs objs (es.take k)<=6/\Below w.heap.size w wr/\Hid (∀ j (hj:j<es.length),j<k->goodE objs es[j]=true)) (fun _ i _=>m-(intOf i).toNat)
 case atStart=>exact⟨0,Nat.zero_le _,rfl,rfl,Int.le_refl _,by show (0:Int)<=6;decide,Below.refl _ _,fun j hj h=>by omega⟩
 case round=>
  obtain⟨k,hk,rfl,rfl,h0,h6,hb,HV⟩:=hrel
  by_cases hlt:k<m
  ·have hk':k<es.length:=by rw[HL.out];exact hlt
   obtain⟨c0,c1,c2⟩:=row_cells HC.out hk'
   rw[Nat.zero_add] at c0 c1 c2
   have d0:=(hb.cell (p:=⟨g,k*3,none⟩) hgl).trans c0
   have d1:=(hb.cell (p:=⟨g,k*3+1,none⟩) hgl).trans c1
   have d2:=(hb.cell (p:=⟨g,k*3+2,none⟩) hgl).trans c2
   have hgl':g<wr.heap.size:=Nat.lt_of_lt_of_le hgl hb.size
   clear c0 c1 c2
   have hkind:=fun (W:World) (hW:Below w.heap.size w W)=>kind_any p a n cap bf bd objs es[k].2.2 W (h.below hW)
   obtain⟨q,hq⟩:∃ q,q=kindOf objs es[k].2.2:=⟨_,rfl⟩
   have HQ:Hid (q=kindOf objs es[k].2.2):=hq
   rw[<- hq] at hkind
   clear hq
   have box:=fun (W1:World) (X:Obj) (hW:Below (wr.alloc X).heap.size (wr.alloc X) W1) (o:Nat)=>hW.cell (p:=⟨wr.heap.size,o,none⟩) (by simp)
   cases hg1:(q == 0) with
   | true=>
    have HG:Hid (goodE objs es[k]=false):=by
     show goodE objs es[k]=false
     unfold goodE
     rw[<- HQ.out,hg1];rfl
    go_wp2_with (go_at_call 61;refine (hkind _ (hb.alloc hb.size _)).mono ?_;rintro e w1 ⟨rfl,hb1⟩)
    go_ret2
    exact⟨(hb.alloc hb.size _).trans (hb1.mono (by simp;have:=hb.size;omega)),.inl ⟨⟨es[k],List.getElem_mem hk',HG.out⟩,rfl⟩⟩
   | false=>
    cases hg2:(q == es[k].2.1) with
    | false=>
     have HG:Hid (goodE objs es[k]=false):=by
      show goodE objs es[k]=false
      unfold goodE
      rw[<- HQ.out,hg1,hg2];rfl
     go_wp2_with (go_at_call 61;refine (hkind _ (hb.alloc hb.size _)).mono ?_;rintro e w1 ⟨rfl,hb1⟩;have b1:=box _ _ hb1 1;simp at b1)
     go_ret2
     exact⟨(hb.alloc hb.size _).trans (hb1.mono (by simp;have:=hb.size;omega)),.inl ⟨⟨es[k],List.getElem_mem hk',HG.out⟩,rfl⟩⟩
    | true=>
     have HG:Hid (goodE objs es[k]=true):=by
      show goodE objs es[k]=true
      unfold goodE
      rw[<- HQ.out,hg1,hg2];rfl
     obtain⟨j,hj,he⟩:∃ j:Nat,j<objs.length/\es[k].2.2=(j:Int)+1:=by
      by_cases hid:es[k].2.2<1\/(objs.length:Int)<es[k].2.2
      ·have:=HQ.out;rw[kindOf_out hid] at this;simp[this] at hg1
      ·exact⟨(es[k].2.2-1).toNat,by omega,by omega⟩
     have HJ:Hid (highOf objs es[k].2.2=objs[j].high):=by
      show highOf objs es[k].2.2=objs[j].high
      rw[he];exact highOf_in hj
     have hat:=fun (W:World) (hW:Below w.heap.size w W)=>height_in p a n cap bf bd objs j hj W (h.below hW)
     rw[<- he] at hat
     obtain⟨hj0,hj5⟩:=HH.out objs[j] (List.getElem_mem hj)
     have f3:=fld3
     clear he
     go_wp2_with (first
      | (go_at_call 61;refine (hkind _ (hb.alloc hb.size _)).mono ?_;rintro e w1 ⟨rfl,hb1⟩;have b1:=box _ _ hb1 1;have b2:=box _ _ hb1 2;simp at b1 b2;have hbw:=(hb.alloc hb.size _).trans (hb1.mono (by simp;have:=hb.size;omega)))
      | (go_at_call 114;refine (hat _ hbw).mono ?_;rintro e w2 ⟨rfl,hb2⟩))
     have hst:highs objs (es.take (k+1))=max (highs objs (es.take k)) (1+objs[j].high):=by
      rw[List.take_succ_eq_append_getElem hk',highs_snoc,HJ.out]
     go_roundw
     case rel=>
      refine⟨k+1,by omega,by go_num,by rw[hst],by rw[hst];omega,by rw[hst];omega,hbw.trans (hb2.mono hbw.size),?_⟩
      intro i hi hik
      by_cases e:i=k
      ·subst e;exact HG.out
      ·exact HV.out i hi (by omega)
     case measure=>simp[intOf];omega
  ·have hkm:k=m:=by omega
   have HVA:Hid (∀ x ∈ es,goodE objs x=true):=by
    intro x hx
    obtain⟨j,hj,rfl⟩:=List.getElem_of_mem hx
    exact HV.out j hj (by rw[hkm,<- HL.out];exact hj)
   have HT:Hid (es.take k=es):=List.take_of_length_le (by rw[HL.out];omega)
   rw[HT.out] at h0 h6 ⊢
   by_cases h5:5<highs objs es
   ·go_wp2
    go_ret2
    exact⟨hb,.inr (.inl ⟨HVA.out,h5,rfl⟩)⟩
   ·go_wp2
    go_ret2
    exact⟨hb,.inr (.inr ⟨HVA.out,by omega,h0,rfl⟩)⟩
variable {ft:PTail}
theorem dir_not (p:Nat)(a:Option Addr)(n cap bf bd:Nat)(objs:List Ob)(id:Int)(w:World)(h:Pooled ft w p a n cap bf bd objs)(hk:kindOf objs id≠2):
  Calls Tryz.prog 57 #[.pointer (some ⟨p,0,none⟩),.int .i64 id] w fun e w'=>e=.returned (.tuple #[.slice none 0 0,.int .i64 13])/\Below w.heap.size w w':=by
 have hcon:=kind_any p a n cap bf bd objs id w h
 obtain⟨q,hq⟩:∃ q,q=kindOf objs id:=⟨_,rfl⟩
 rw[<- hq] at hcon hk
 have hk':(q == 2)=false:=by simpa using hk
 clear hq hk
 go_enter Tryz.func57,Tryz.ntmps57
 go_wp2_with (go_at_call 61;refine hcon.mono ?_;rintro e w' ⟨rfl,hb⟩)
 go_ret2
 exact⟨rfl,hb⟩
theorem made_block {w:World}{g m:Nat}{xs:List Value}(h:w.ownsRow 0 76 3 (.slice (some ⟨g,0,none⟩) m m) m xs):∃ cur,Hid (w.heap[g]? = some (.cells cur 76 (0,0)))/\Hid (cur.size=m*3):=by
 rcases h.2 with ⟨h0,_⟩ | ⟨g',cap',cur,hv,_,hg,_,_,hcur,_⟩
 ·cases h0
 ·cases hv;exact⟨cur,hg,hcur⟩
theorem grown_none {w w2 w3:World}(hb:Below w.heap.size w w2)(hg:w2.grownBy w3 none):Hid (Below w.heap.size w w3):=hb.grown hg hb.size (fun k h=>by cases h)
theorem src_cells {w w3:World}{g:Nat}{es:List Ent}(hb:Below w.heap.size w w3)(hgl:g<w.heap.size)(hc:∀ j u,(flat es)[j]? = some u->w.cell? ⟨g,0+j,none⟩=some u):∀ j v,(flat es)[j]? = some v->w3.cell? ((⟨g,0,none⟩:Addr).add j)=some v:=by
 intro j v h
 have h2:(⟨g,0,none⟩:Addr).add j=⟨g,0+j,none⟩:=by unfold Addr.add;split <;> simp_all
 rw[h2,hb.cell (p:=⟨g,0+j,none⟩) hgl,hc j v h]
theorem dir_some (p:Nat)(a:Option Addr)(n cap bf bd:Nat)(objs:List Ob)(j g m c:Nat)(es:List Ent)(hj:j<objs.length)(w:World)(h:Pooled ft w p a n cap bf bd objs)(hk:objs[j].kind=2)
  (hea:objs[j].ea=some ⟨g,0,none⟩)(hel:objs[j].el=m)(hec:objs[j].ec=c)(hm:m<=16)(hl:es.length=m)(hgl:g<w.heap.size)(hc:∀ j u,(flat es)[j]? = some u->w.cell? ⟨g,0+j,none⟩=some u):
  Calls Tryz.prog 57 #[.pointer (some ⟨p,0,none⟩),.int .i64 ((j:Int)+1)] w fun e w'=>∃ g',e=.returned (.tuple #[.slice (some ⟨g',0,none⟩) m m,.int .i64 0])/\w'.ownsRow w.heap.size 76 3 (.slice (some ⟨g',0,none⟩) m m) m (flat es)/\Below w.heap.size w w':=by
 have hcon:=kind_any p a n cap bf bd objs ((j:Int)+1) w h
 rw[kindOf_in hj,hk] at hcon
 have hat:=fun (W:World) (hW:Below w.heap.size w W)=>at_in p a n cap bf bd objs j hj W (h.below hW)
 rw[hea,hel,hec] at hat
 have f2:=fld2
 obtain⟨i0,hi,hz0,hz1,hz2⟩:=info_parts info34
 have HC:Hid (∀ j u,(flat es)[j]? = some u->w.cell? ⟨g,0+j,none⟩=some u):=hc
 have HL:Hid (es.length=m):=hl
 clear hc hl hea hel hec hk
 go_enter Tryz.func57,Tryz.ntmps57
 go_wp2_with (first
  | (go_at_call 61;refine hcon.mono ?_;rintro e w1 ⟨rfl,hb1⟩)
  | (go_at_call 102;refine (hat _ hb1).mono ?_;rintro e w2 ⟨rfl,hb2⟩)
  | (at_make;refine wpList_make_full _ rfl _ _ 72 rfl 0 76 i0 _ 3 Tryz.underlying72 hi hz0 hz1 .i64 .i64 _ _ m rfl rfl rfl rfl ?_ ?_ (Nat.zero_le _) ?_;go_must (rw[hz2];omega);go_must (unfold maxLen;omega);intro w3 hown3 hg3;obtain⟨cur,HB,HCS⟩:=made_block hown3;have hbw:=hb1.trans (hb2.mono hb1.size);have HB3:=grown_none hbw hg3)
  | (refine wpList_copyK rfl (.tmp 19) (.tmp 20) 72 72 rfl 76 Tryz.underlying72 3 info34s w2.heap.size 0 m m ⟨g,0,none⟩ m c rfl rfl cur 76 HB.out (flat es) ?_ ?_ ?_ (flat_one es) (flat es).toArray ?_ ?_;go_must (rw[flat_len,HL.out];exact congrArg (· * 3) (Nat.min_self m).symm);go_must (exact src_cells (HB3.out) hgl HC.out);go_must (rw[flat_len,HL.out,HCS.out];omega);go_must (simp only[List.take_zero,List.nil_append,Nat.zero_add];rw[List.drop_eq_nil_of_le (by rw[flat_len,HL.out,Array.length_toList,HCS.out];exact Nat.le_refl _),List.append_nil]);intro w4 H4 hg4))
 go_ret2
 have hsz2:=hbw.size
 refine⟨w2.heap.size,rfl,⟨by rw[flat_len,HL.out],.inr ⟨w2.heap.size,m,(flat es).toArray,rfl,hsz2,H4.out,Nat.le_refl _,by unfold maxLen;omega,by simp[flat_len,HL.out],?_⟩⟩,?_⟩
 ·simp only
  exact List.take_of_length_le (by rw[flat_len,HL.out];exact Nat.le_refl _)
 ·exact HB3.out.grown hg4 HB3.out.size (fun k h=>by cases h;exact hsz2)
variable {ft:PTail}
theorem setRow_alloc (w:World)(z cs:Array Value)(t:TypeId):(w.alloc (.cells z t)).setRow w.heap.size cs=w.alloc (.cells cs t):=by
 have hh:((w.alloc (.cells z t)).setRow w.heap.size cs).heap=(w.alloc (.cells cs t)).heap:=by
  apply Array.ext_getElem?
  intro k
  by_cases hk:k=w.heap.size
  ·subst hk
   rw[setRow_heap _ _ _ _ t (0,0) (heap_alloc_new w _),heap_alloc_new]
  ·rw[setRow_other _ _ _ _ hk]
   show (w.heap.push _)[k]? = (w.heap.push _)[k]?
   rw[Array.getElem?_push,Array.getElem?_push,if_neg hk,if_neg hk]
 cases w
 simp only[World.setRow,World.alloc] at hh ⊢
 rw[hh]
theorem look_int {W:Nat->World}{bd n:Nat}{Dd:DataW Unit}{key:Value}{kl:Lit}(hd:∀ q,(W q).ownsMap Tryz.prog 140 (plainElem Tryz.prog 26) bd n Dd)(hkey:keyOf Tryz.prog 140 key=some kl):
  ∃ c:Int,(∀ q,(Instr.lookup 134 (.map (some bd)) key true).run Tryz.prog (W q)=.ok (.tuple #[.int .i64 c,.bool (Maps.has Dd kl)]) (W q))/\Dd.atKey kl (.lit (.int .i64 0))=.lit (.int .i64 c)/\(Lit.int .i64 c).wf=true:=by
 have one:∀ q,∃ c:Int,(Instr.lookup 134 (.map (some bd)) key true).run Tryz.prog (W q)=.ok (.tuple #[.int .i64 c,.bool (Maps.has Dd kl)]) (W q)/\Dd.atKey kl (.lit (.int .i64 0))=.lit (.int .i64 c)/\(Lit.int .i64 c).wf=true:=by
  intro q
  obtain⟨v,ps,hrun,hv⟩:=(hd q).look_ok law58 Tryz.underlying134 (zero25 _) (plainElem_int Tryz.underlying26 (by decide)) hkey
  obtain⟨c,rfl,hc,hwc⟩:=plainElem_int_inv Tryz.underlying26 hv
  exact⟨c,hrun,congrArg Prod.fst hc,hwc⟩
 obtain⟨c,_,hat,hwc⟩:=one 0
 refine⟨c,fun q=>?_,hat,hwc⟩
 obtain⟨c',hrun,hat',_⟩:=one q
 have:c'=c:=by have:=hat'.symm.trans hat;simpa using this
 rw[this] at hrun
 exact hrun
theorem wpQuiet_load_row {P:Program}{ops:Array Oper}{C:World->Prop}{Q:Act->Prop}{o:Oper}{rest:List Oper}{a:Act}(hg:o.guard=none)(ty:TypeId)(x:Operand)(h:o.op=.load ty x)(g:Nat)(hx:a.eval x=.pointer (some ⟨g,0,none⟩))
  (cs:Array Value)(hC:∀ w,C w->(loadVar ty ⟨g,0,none⟩).run P w=.ok (.agg cs) w)(hk:wpQuiet P ops C Q rest (a.put o.dst (.agg cs))):wpQuiet P ops C Q (o :: rest) a:=by
 have hw:Region.wanted o (yielded ops a.tmps)=true:=by simp[Region.wanted,hg]
 refine wpQuiet_step fun K hK=>?_
 rw[if_pos hw]
 refine⟨_,fun w hw=>?_,hK _ hk⟩
 unfold Oper.quietAt execOp
 simp only[h,hx,Instr.loadAt,Instr.sureAddr,Sem.run_bind,Sem.run_pure,Result.andThen_ok,hC w hw]
 exact⟨rfl,rfl⟩
theorem wpQuiet_look {P:Program}{ops:Array Oper}{C:World->Prop}{Q:Act->Prop}{o:Oper}{rest:List Oper}{a:Act}(hg:o.guard=none)(t:TypeId)(m x:Operand)(c:Bool)(h:o.op=.lookup t m x c)(M V v:Value)(hm:a.eval m=M)(hx:a.eval x=V)
  (hC:∀ w,C w->(Instr.lookup t M V c).run P w=.ok v w)(hk:wpQuiet P ops C Q rest (a.put o.dst v)):wpQuiet P ops C Q (o :: rest) a:=by
 have hw:Region.wanted o (yielded ops a.tmps)=true:=by simp[Region.wanted,hg]
 refine wpQuiet_step fun K hK=>?_
 rw[if_pos hw]
 refine⟨_,fun w hw=>?_,hK _ hk⟩
 unfold Oper.quietAt execOp
 simp only[h,hm,hx,Sem.run_bind,Sem.run_pure,Result.andThen_ok,hC w hw]
 exact⟨rfl,rfl⟩
theorem wpStill_load_row {P:Program}{ops:Array Oper}{w:World}{Q:Act->Prop}{o:Oper}{rest:List Oper}{a:Act}(hg:o.guard=none)(ty:TypeId)(x:Operand)(h:o.op=.load ty x)(g:Nat)(hx:a.eval x=.pointer (some ⟨g,0,none⟩))
  (cs:Array Value)(hrun:(loadVar ty ⟨g,0,none⟩).run P w=.ok (.agg cs) w)(hk:wpStill P ops w Q rest (a.put o.dst (.agg cs))):wpStill P ops w Q (o :: rest) a:=by
 have hw:Region.wanted o (yielded ops a.tmps)=true:=by simp[Region.wanted,hg]
 refine wpStill_step fun K hK=>?_
 rw[if_pos hw]
 unfold Oper.still execOp
 simp only[h,hx,Instr.loadAt,Instr.sureAddr,Sem.run_bind,Sem.run_pure,Result.andThen_ok,hrun]
 exact⟨rfl,hK _ hk⟩
theorem cells_ne {w:World}{b b':Nat}{c c':Array Value}{t t':TypeId}{fz fz':Nat×Nat}(h:w.heap[b]? = some (.cells c t fz))(h':w.heap[b']? = some (.cells c' t' fz'))(ht:t≠t'):b≠b':=by
 rintro rfl
 rw[h] at h'
 simp only[Option.some.injEq,Obj.cells.injEq] at h'
 exact ht h'.2.1
def Grew (ft:PTail)(w w':World)(p:Nat)(a:Option Addr)(n cap bf bd bm:Nat)(k:TypeId)(cells:List Value)(D:DataW Unit):Prop:=
 ∃ g2 cap2,PoolAt ft w' p (some ⟨g2,0,none⟩) (n+1) cap2 bf bd/\w'.ownsRow 0 145 4 (.slice (some ⟨g2,0,none⟩) (n+1) cap2) (n+1) cells/\((some g2:Option Nat)=(Value.slice a n cap).ownBlock\/w.heap.size<=g2)/\
  w'.ownsMap Tryz.prog k (plainElem Tryz.prog 26) bm (n+1) D/\Turned w w' p bm (Value.slice a n cap).ownBlock
theorem dir_after {W w5:World}{p:Nat}{a:Option Addr}{n cap bf bd g9:Nat}{objs:List Ob}{Dd:DataW Unit}{L:Array Value}{kl:Lit}{news:List Value}(nq:Nat)(hpw:Pooled ft W p a n cap bf bd objs)(hd:W.ownsMap Tryz.prog 140 (plainElem Tryz.prog 26) bd n Dd)
  (h9:W.heap[g9]? = some (.cells L 140 (0,0)))(hA:Added (W.drewN nq) w5 p a n cap (obCells objs) news)(hkey:keyOf Tryz.prog 140 (.agg L)=some kl)(hn:n<400)(hL:L.size=48):
  w5.cell? ⟨p,2,none⟩=some (.map (some bd))/\(loadVar 140 ⟨g9,0,none⟩).run Tryz.prog w5.drew=.ok (.agg L) w5.drew/\
   Hid (w5.drew.ownsMap Tryz.prog 140 (plainElem Tryz.prog 26) bd n Dd)/\Hid (∀ w6,w6.ownsMap Tryz.prog 140 (plainElem Tryz.prog 26) bd (n+1) (Dd.put kl (.lit (.int .i64 ((n:Int)+1))))->w5.drew.grownBy w6 (some bd)->Grew ft W w6 p a n cap bf bd bd 140 (obCells objs++news) (Dd.put kl (.lit (.int .i64 ((n:Int)+1))))):=by
 have np:=owns_ne_cells hpw.row (b:=p) hpw.at_ (by decide)
 obtain⟨g2,cap2,hp5,hr5,hloc,hos,htape,hout,hsz5,hkeep⟩:=hA.facts (show (W.drewN nq).heap[p]? = _ from hpw.at_) np
 obtain⟨es0,clock0,hbd⟩:=ownsMap_isMap hd
 have nd:=owns_ne_map hpw.row hbd
 have n9:=owns_ne_cells hpw.row h9 (by decide)
 have hdp:bd≠p:=by rintro rfl;have:=hpw.at_;unfold PoolAt at this;rw[hbd] at this;cases this
 have h9p:g9≠p:=cells_ne h9 hpw.at_ (by decide)
 have hd5:w5.ownsMap Tryz.prog 140 (plainElem Tryz.prog 26) bd n Dd:=ownsMap_keep hd (hkeep bd hd.lt hdp nd)
 have h95:w5.heap[g9]? = some (.cells L 140 (0,0)):=(hkeep _ (Array.getElem?_eq_some_iff.1 h9).1 h9p n9).trans h9
 have hl5:=run_loadVar_row (P:=Tryz.prog) w5.drew g9 140 140 L (0,0) _ h95 Tryz.underlying140 rfl (by rw[hL];exact info58)
 refine⟨PoolAt.c2 hp5,hl5,hd5.drew,fun w6 hd6 hg6=>⟨g2,cap2,?_,?_,?_,hd6,⟨?_,?_,?_,?_,?_⟩⟩⟩
 ·unfold PoolAt
  rw[hg6.block p (Nat.lt_of_lt_of_le hpw.at_.lt hsz5) (fun e=>hdp (Option.some.inj e).symm)]
  exact hp5
 ·refine ownsRow_keep hr5 (fun g' hg'=>(hg6.block g' (ownsRow_lt hr5 hg') ?_))
  obtain⟨es2,clock2,hb2⟩:=ownsMap_isMap hd5
  have:=owns_ne_map hr5 hb2
  rw[hg'] at this
  exact fun e=>this e.symm
 ·exact hloc
 ·rw[hg6.os];exact hos
 ·rw[hg6.tape];exact htape
 ·rw[hg6.output];exact hout
 ·exact Nat.le_trans hsz5 hg6.size
 ·intro k hk hkp hkb hne
  rw[hg6.block k (Nat.lt_of_lt_of_le hk hsz5) (fun e=>hkb (Option.some.inj e))]
  exact hkeep k hk hkp hne
def DirPut (ft:PTail)(w w':World)(p:Nat)(a:Option Addr)(n cap bf bd:Nat)(Dd:DataW Unit)(objs:List Ob)(es:List Ent)(m:Nat)(e:Ending):Prop:=
 (Below w.heap.size w w'/\
  (((∃ x ∈ es,validB x.1=false)/\e=.returned (.tuple #[.int .i64 0,.int .i64 1]))\/
   ((∀ x ∈ es,validB x.1=true)/\
    ((¬ (es.map (·.1)).Nodup/\e=.returned (.tuple #[.int .i64 0,.int .i64 6]))\/
    ((es.map (·.1)).Nodup/\16<es.length/\e=.returned (.tuple #[.int .i64 0,.int .i64 11]))\/
    ((es.map (·.1)).Nodup/\es.length<=16/\(∃ x ∈ es,goodE objs x=false)/\e=.returned (.tuple #[.int .i64 0,.int .i64 13]))\/
    ((es.map (·.1)).Nodup/\es.length<=16/\(∀ x ∈ es,goodE objs x=true)/\∃ es',es'.Perm es/\Rising es'/\
     ((5<highs objs es'/\e=.returned (.tuple #[.int .i64 0,.int .i64 11]))\/
      (highs objs es'<=5/\Maps.has Dd (keyFor Tryz.prog es')=true/\∃ c,Dd.atKey (keyFor Tryz.prog es') (.lit (.int .i64 0))=.lit (.int .i64 c)/\e=.returned (.tuple #[.int .i64 c,.int .i64 0]))\/
      (highs objs es'<=5/\Maps.has Dd (keyFor Tryz.prog es')=false/\400<=n/\e=.returned (.tuple #[.int .i64 0,.int .i64 11]))))))))\/
 ((∀ x ∈ es,validB x.1=true)/\(es.map (·.1)).Nodup/\es.length<=16/\(∀ x ∈ es,goodE objs x=true)/\n<400/\∃ es',es'.Perm es/\Rising es'/\highs objs es'<=5/\0<=highs objs es'/\Maps.has Dd (keyFor Tryz.prog es')=false/\
  e=.returned (.tuple #[.int .i64 ((n:Int)+1),.int .i64 0])/\∃ g cap',w'.ownsRow w.heap.size 76 3 (.slice (some ⟨g,0,none⟩) m cap') m (flat es')/\
   Grew ft w w' p a n cap bf bd bd 140 (obCells objs ++ [.int .i64 2,.string ByteArray.empty,.slice (some ⟨g,0,none⟩) m cap',.int .i64 (highs objs es')]) (Dd.put (keyFor Tryz.prog es') (.lit (.int .i64 ((n:Int)+1)))))
theorem Grew.before {w W w':World}{p:Nat}{a:Option Addr}{n cap bf bd bm:Nat}{k:TypeId}{cells:List Value}{D:DataW Unit}(h:Grew ft W w' p a n cap bf bd bm k cells D)(hb:Below w.heap.size w W):Grew ft w w' p a n cap bf bd bm k cells D:=by
 obtain⟨g2,cap2,h1,h2,h3,h4,h5⟩:=h
 refine⟨g2,cap2,h1,h2,h3.imp id (fun h=>Nat.le_trans hb.size h),h4,⟨h5.os.trans hb.os,h5.tape.trans hb.tape,h5.output.trans hb.output,Nat.le_trans hb.size h5.size,?_⟩⟩
 intro k hk hkp hkb hne
 rw[h5.block k (Nat.lt_of_lt_of_le hk hb.size) hkp hkb hne,hb.block k hk]
theorem Grew.keeps {w w':World}{p:Nat}{a:Option Addr}{n cap bf bd bm:Nat}{k:TypeId}{cells:List Value}{D:DataW Unit}{objs:List Ob}(h:Grew ft w w' p a n cap bf bd bm k cells D)(hp:Pooled ft w p a n cap bf bd objs)
  {es0:Array MapEntry}{clock:Nat}(hm:w.heap[bm]? = some (.map es0 clock)){base:Nat}{e:TypeId}{size m:Nat}{v:Value}{xs:List Value}(hrow:w.ownsRow base e size v m xs)(h51:e≠145)(h47:e≠136):w'.ownsRow base e size v m xs:=by
 obtain⟨g2,cap2,_,_,_,_,h5⟩:=h
 refine ownsRow_keep hrow (fun g hg=>?_)
 have hne1:=owns_ne_cells hrow (b:=p) hp.at_ (fun e=>h47 e.symm)
 have hne2:=owns_ne_map hrow hm
 rw[hg] at hne1 hne2
 refine h5.block g (ownsRow_lt hrow hg) (fun e=>hne1 (by rw[e])) (fun e=>hne2 (by rw[e])) ?_
 rcases hrow.2 with ⟨rfl,_⟩ | ⟨g',c',cur,rfl,_,hh,_⟩
 ·simp[Value.ownBlock] at hg
 ·simp only[Value.ownBlock,Option.some.injEq] at hg
  subst hg
  exact owns_ne_cells hp.row hh h51
theorem fits_of {objs:List Ob}(hk:∀ o ∈ objs,o.kind=1\/o.kind=2)(hn:objs.length<=400){e:Ent}(hv:validB e.1=true)(hg:goodE objs e=true):Fits e:=by
 have hs:=valid_size hv
 unfold goodE at hg
 simp only[Bool.and_eq_true,Bool.not_eq_true',beq_eq_false_iff_ne,beq_iff_eq] at hg
 obtain⟨h0,h1⟩:=hg
 have hid:¬ (e.2.2<1\/(objs.length:Int)<e.2.2):=fun h=>h0 (kindOf_out h)
 refine⟨by unfold maxLen;omega,?_,WalkArith.wf_i64 (by omega)⟩
 obtain⟨j,hj⟩:∃ j:Nat,e.2.2=(j:Int)+1:=⟨(e.2.2-1).toNat,by omega⟩
 have hjl:j<objs.length:=by omega
 rw[hj,kindOf_in hjl] at h1
 rw[<- h1]
 rcases hk objs[j] (List.getElem_mem hjl) with h | h <;> rw[h] <;> exact WalkArith.wf_i64 (by omega)
theorem putDir_any (p b off m c0:Nat)(a:Option Addr)(n cap bf bd:Nat)(objs:List Ob)(Dd:DataW Unit)(es:List Ent)(w:World)(h:Pooled ft w p a n cap bf bd objs)(hd:w.ownsMap Tryz.prog 140 (plainElem Tryz.prog 26) bd n Dd)
  (hl:es.length=m)(hbl:b<w.heap.size)(hbig:m*32<=140737488355328)(hc:∀ j u,(flat es)[j]? = some u->w.cell? ⟨b,off+j,none⟩=some u)
  (hsz:∀ e ∈ es,e.1.size<=maxLen)(hh:∀ o ∈ objs,0<=o.high/\o.high<=5)(hk:∀ o ∈ objs,o.kind=1\/o.kind=2):
  Calls Tryz.prog 45 #[.pointer (some ⟨p,0,none⟩),.slice (some ⟨b,off,none⟩) m c0] w fun e w'=>DirPut ft w w' p a n cap bf bd Dd objs es m e:=by
 have harr:=arrange_some b off m c0 es w hl hbl hbig hc hsz
 go_enter Tryz.func45,Tryz.ntmps45
 go_wp2_with fail
 refine harr.mono ?_
 rintro e w1 ⟨hb1,⟨hA,rfl⟩ | ⟨hA,hB,rfl⟩ | ⟨hA,hB,hC,rfl⟩ | ⟨hA,hB,hC,es',g,cap',rfl,hP,hR,hown⟩⟩
 ·go_wp2
  go_ret2
  exact .inl ⟨hb1,.inl ⟨hA,rfl⟩⟩
 ·go_wp2
  go_ret2
  exact .inl ⟨hb1,.inr ⟨hA,.inl ⟨hB,rfl⟩⟩⟩
 ·go_wp2
  go_ret2
  exact .inl ⟨hb1,.inr ⟨hA,.inr (.inl ⟨hB,hC,rfl⟩)⟩⟩
 ·have hle:es'.length=m:=by rw[hP.length_eq,hl]
  have hm16:m<=16:=by omega
  have hmea:=measure_some p g cap' a n cap bf bd m objs es' w1 (h.below hb1) hle hm16 (ownsRow_lt hown rfl) (owns_cells hown) hh
  have HA:Hid (∀ x ∈ es,validB x.1=true):=hA
  have HB:Hid ((es.map (·.1)).Nodup):=hB
  have HC:Hid (es.length<=16):=hC
  have HP:Hid (es'.Perm es):=hP
  have HR:Hid (Rising es'):=hR
  have HK:Hid (∀ o ∈ objs,o.kind=1\/o.kind=2):=hk
  clear harr hc hbig hsz hA hB hC hP hR hk
  go_wp2_with fail
  refine hmea.mono ?_
  rintro e w2 ⟨hb2,⟨hD,rfl⟩ | ⟨hD,hE,rfl⟩ | ⟨hD,hE,hE0,rfl⟩⟩
  ·go_wp2
   go_ret2
   obtain⟨x,hx,hgx⟩:=hD
   exact .inl ⟨hb1.trans (hb2.mono hb1.size),.inr ⟨HA.out,.inr (.inr (.inl ⟨HB.out,HC.out,⟨x,HP.out.mem_iff.1 hx,hgx⟩,rfl⟩))⟩⟩
  ·go_wp2
   go_ret2
   exact .inl ⟨hb1.trans (hb2.mono hb1.size),.inr ⟨HA.out,.inr (.inr (.inr ⟨HB.out,HC.out,fun x hx=>hD x (HP.out.mem_iff.2 hx),es',HP.out,HR.out,.inl ⟨hE,rfl⟩⟩))⟩⟩
  ·have hbw2:Below w.heap.size w w2:=hb1.trans (hb2.mono hb1.size)
   have hown2:w2.ownsRow w.heap.size 76 3 (.slice (some ⟨g,0,none⟩) m cap') m (flat es'):=ownsRow_keep hown (fun g hg=>hb2.block g (ownsRow_lt hown hg))
   have hlis:=listing_some g m cap' es' w2 hle (ownsRow_lt hown2 rfl) hm16 (owns_cells hown2)
   have HZ:Hid ((listing es').size=48):=listing_size (by omega)
   clear hmea
   go_wp2_with (first
    | (go_at_call 70;refine hlis.mono ?_;rintro e w3 ⟨rfl,hb3⟩)
    | (refine wpList_store_row rfl 140 _ _ rfl w3.heap.size (listing es') rfl rfl 140 _ (heap_alloc_new w3 _) (by rw[HZ.out];exact info58) (by rw[HZ.out];rfl) (listing_one es') ?_;rw[setRow_alloc]))
   have hp3:=(h.below ((hbw2.trans (hb3.mono hbw2.size)).alloc (by have:=hb3.size;have:=hbw2.size;omega) (.cells (listing es') 140))).at_.c2
   have hd3:(w3.alloc (.cells (listing es') 140)).ownsMap Tryz.prog 140 (plainElem Tryz.prog 26) bd n Dd:=(ownsMap_keep hd ((hbw2.trans (hb3.mono hbw2.size)).block bd hd.lt)).alloc _
   have hg9:(w3.alloc (.cells (listing es') 140)).heap[w3.heap.size]? = some (.cells (listing es') 140 (0,0)):=heap_alloc_new w3 _
   have hbw3:Below w.heap.size w (w3.alloc (.cells (listing es') 140)):=(hbw2.trans (hb3.mono hbw2.size)).alloc (by have:=hb3.size;have:=hbw2.size;omega) _
   have HRW:Hid ((w3.alloc (.cells (listing es') 140)).ownsRow w.heap.size 76 3 (.slice (some ⟨g,0,none⟩) m cap') m (flat es')):=World.ownsRow.alloc (ownsRow_keep hown2 (fun g hg=>hb3.block g (ownsRow_lt hown2 hg))) _
   have hfit:∀ e ∈ es',Fits e:=fun e he=>fits_of HK.out (by rw[h.len];exact h.many) (HA.out e (HP.out.mem_iff.1 he)) (hD e he)
   have HDG:Hid (∀ x ∈ es,goodE objs x=true):=fun x hx=>hD x (HP.out.mem_iff.2 hx)
   have hkey:=keyOf_listing es' (by omega) hfit
   obtain⟨c,hrun,hat,hwc⟩:=look_int (W:=fun q=>(w3.alloc (.cells (listing es') 140)).drewN q) (fun q=>hd3) hkey
   have hload:=fun q=>run_loadVar_row (P:=Tryz.prog) ((w3.alloc (.cells (listing es') 140)).drewN q) w3.heap.size 140 140 (listing es') (0,0) _ hg9 Tryz.underlying140 rfl (by rw[HZ.out];exact info58)
   go_frame
   have HG9:Hid ((w3.alloc (.cells (listing es') 140)).heap[w3.heap.size]? = some (.cells (listing es') 140 (0,0))):=hg9
   clear hg9
   generalize w3.alloc (.cells (listing es') 140)=W at *
   refine wp_region_quiet_lit (by kernel_rfl) (by kernel_rfl) ?_
   iterate 4 quiet_step (fail)
   refine wpQuiet_load_row rfl 140 _ rfl w3.heap.size rfl (listing es') (by rintro _ ⟨q,rfl⟩;exact hload q) ?_
   go_frame
   refine wpQuiet_look rfl 134 _ _ true rfl (.map (some bd)) (.agg (listing es')) (.tuple #[.int .i64 c,.bool (Maps.has Dd (keyFor Tryz.prog es'))]) rfl rfl (by rintro _ ⟨q,rfl⟩;exact hrun q) ?_
   go_frame
   repeat (quiet_step (fail))
   refine wpQuiet_nil ?_
   rintro _ ⟨nq,rfl⟩
   have hpw:Pooled ft W p a n cap bf bd objs:=h.below hbw3
   clear hload hrun hlis
   cases hhas:Maps.has Dd (keyFor Tryz.prog es') with
   | true=>
    have HH:Hid (Maps.has Dd (keyFor Tryz.prog es')=true):=hhas
    have HAT:Hid (Dd.atKey (keyFor Tryz.prog es') (.lit (.int .i64 0))=.lit (.int .i64 c)):=hat
    clear hhas hat hwc
    go_wp2
    go_ret2
    exact .inl ⟨below_drewN hbw3 _,.inr ⟨HA.out,.inr (.inr (.inr ⟨HB.out,HC.out,HDG.out,es',HP.out,HR.out,.inr (.inl ⟨hE,HH.out,c,HAT.out,rfl⟩)⟩))⟩⟩
   | false=>
    have HH:Hid (Maps.has Dd (keyFor Tryz.prog es')=false):=hhas
    clear hat hwc
    by_cases hn:400<=n
    ·have hadd:=add_full p 2 (highs objs es') ByteArray.empty a n cap (some ⟨g,0,none⟩) m cap' (W.drewN nq) hpw.at_.lt hn hpw.at_.c0
     go_wp2_with (go_at_call 71;refine hadd.mono ?_;rintro e w5 ⟨rfl,rfl⟩)
     go_ret2
     exact .inl ⟨(below_drewN hbw3 _).alloc (below_drewN hbw3 _).size _,.inr ⟨HA.out,.inr (.inr (.inr ⟨HB.out,HC.out,HDG.out,es',HP.out,HR.out,.inr (.inr ⟨hE,HH.out,hn,rfl⟩)⟩))⟩⟩
    ·have hn':n<400:=by omega
     have np:=owns_ne_cells hpw.row (b:=p) hpw.at_ (by decide)
     have hadd:=add_some p 2 (highs objs es') ByteArray.empty a n cap (obCells objs) (some ⟨g,0,none⟩) m cap' (W.drewN nq) hpw.at_.lt hn' hpw.at_.c0 hpw.at_.f0 hpw.row np
     go_wp2_with (go_at_call 71;refine hadd.mono ?_;rintro e w5 ⟨rfl,hAd⟩)
     obtain⟨kc,hl5,HD5,HF⟩:=dir_after nq hpw hd3 HG9.out hAd hkey hn' HZ.out
     clear hAd hadd np
     refine wp_region_still_tail 6 (by kernel_rfl) (by kernel_rfl) ?_
     simp only[List.take_succ_cons,List.take_zero,List.drop_succ_cons,List.drop_zero]
     iterate 4 still_step
     refine wpStill_load_row rfl 140 _ rfl w3.heap.size rfl (listing es') hl5 ?_
     go_frame
     still_step
     refine wpStill_nil ?_
     refine wpList_mapUpdate_own _ rfl _ _ _ 134 rfl 140 26 law58 Tryz.underlying134 _ bd n _ rfl HD5.out (by unfold maxLen;omega) _ _ _ rfl rfl hkey _ [] (plainElem_int Tryz.underlying26 (WalkArith.wf_i64 (by omega))) ?_
     intro w6 hd6 hg6
     have HG:Hid (Grew ft W w6 p a n cap bf bd bd 140 (obCells objs ++ [.int .i64 2,.string ByteArray.empty,.slice (some ⟨g,0,none⟩) m cap',.int .i64 (highs objs es')]) (Dd.put (keyFor Tryz.prog es') (.lit (.int .i64 ((n:Int)+1))))):=HF.out w6 hd6 hg6
     clear hd6 hg6
     go_wp2
     go_ret2
     obtain⟨es0,clock0,hbd⟩:=ownsMap_isMap hd3
     have hrow3:W.ownsRow w.heap.size 76 3 (.slice (some ⟨g,0,none⟩) m cap') m (flat es'):=HRW.out
     exact .inr ⟨HA.out,HB.out,HC.out,HDG.out,hn',es',HP.out,HR.out,hE,hE0,HH.out,rfl,g,cap',HG.out.keeps hpw hbd hrow3 (by decide) (by decide),HG.out.before hbw3⟩
end Go.Proofs.YtajopoddmfdejaaGreat
