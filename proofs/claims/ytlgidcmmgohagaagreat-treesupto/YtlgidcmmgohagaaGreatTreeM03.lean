/-
  What is proved here: the document's own answer: 'same', 'Find', 'put'. the document's own store in memory ('RefAt'); 'Find'. the document's own store: 'put', 'PutFile'. the document's own store: 'put' over a ..
-/
import Derived.Test.YtlgidcmmgohagaaGreatTreeM02
import Derived.StillTailTactics
namespace Go.Proofs.YtlgidcmmgohagaaGreat
open Go.RowKit Go.Sort Go.Shelf
set_option linter.unusedVariables false
set_option maxRecDepth 100000
set_option maxHeartbeats 16000000
theorem neqRun {t:TypeId}(P:Program)(W:World)(x y:Ent)(h:(binOp .neq t (.agg #[.string x.1,.int .i64 x.2.1,.int .i64 x.2.2]) (.agg #[.string y.1,.int .i64 y.2.1,.int .i64 y.2.2])).run P W=(if x.fst.toList=y.fst.toList then
   if x.snd.fst=y.snd.fst then
    if x.snd.snd=y.snd.snd then Result.ok (Value.bool false) W else Result.ok (Value.bool true) W
   else Result.ok (Value.bool true) W
  else Result.ok (Value.bool true) W)):(binOp .neq t (.agg #[.string x.1,.int .i64 x.2.1,.int .i64 x.2.2]) (.agg #[.string y.1,.int .i64 y.2.1,.int .i64 y.2.2])).run P W=.ok (.bool (!(decide (x=y)))) W:=by
 rw[h]
 by_cases e:x=y
 ·subst e;simp
 ·rw[decide_eq_false e]
  split
  ·next h1=>
   split
   ·next h2=>
    split
    ·next h3=>exact absurd (Prod.ext (bytes_eq h1) (Prod.ext h2 h3)) e
    ·rfl
   ·rfl
  ·rfl
theorem neqItem (W:World)(x y:Ent):(binOp .neq 112 (.agg #[.string x.1,.int .i64 x.2.1,.int .i64 x.2.2]) (.agg #[.string y.1,.int .i64 y.2.1,.int .i64 y.2.2])).run Tryz.prog W=.ok (.bool (!(decide (x=y)))) W:=by
 refine neqRun _ W x y ?_
 go_simp
theorem neqEntry (W:World)(x y:Ent):(binOp .neq 96 (.agg #[.string x.1,.int .i64 x.2.1,.int .i64 x.2.2]) (.agg #[.string y.1,.int .i64 y.2.1,.int .i64 y.2.2])).run Tryz.prog W=.ok (.bool (!(decide (x=y)))) W:=by
 refine neqRun _ W x y ?_
 go_simp
theorem wpQuiet_load_at {P:Program}{ops:Array Oper}{C:World->Prop}{Q:Act->Prop}{o:Oper}{rest:List Oper}{a:Act}(hg:o.guard=none)(ty:TypeId)(x:Operand)(h:o.op=.load ty x)(ad:Addr)(hx:a.eval x=.pointer (some ad))
  (cs:Value)(hC:∀ w,C w->(loadVar ty ad).run P w=.ok cs w)(hk:wpQuiet P ops C Q rest (a.put o.dst cs)):wpQuiet P ops C Q (o :: rest) a:=by
 have hw:Region.wanted o (yielded ops a.tmps)=true:=by simp[Region.wanted,hg]
 refine wpQuiet_step fun K hK=>?_
 rw[if_pos hw]
 refine⟨_,fun w hw=>?_,hK _ hk⟩
 unfold Oper.quietAt execOp
 simp only[h,hx,Instr.loadAt,Instr.sureAddr,Sem.run_bind,Sem.run_pure,Result.andThen_ok,hC w hw]
 exact⟨rfl,rfl⟩
theorem wpQuiet_bin {P:Program}{ops:Array Oper}{C:World->Prop}{Q:Act->Prop}{o:Oper}{rest:List Oper}{a:Act}(hg:o.guard=none)(op:BinOp)(t u:TypeId)(x y:Operand)(h:o.op=.binOp op t x y u)(X Y v:Value)(hx:a.eval x=X)(hy:a.eval y=Y)
  (hG:∀ w,C w->(eqGuard op t x y X Y).run P w=.ok () w)(hC:∀ w,C w->(binOp op t X Y).run P w=.ok v w)(hk:wpQuiet P ops C Q rest (a.put o.dst v)):wpQuiet P ops C Q (o :: rest) a:=by
 have hw:Region.wanted o (yielded ops a.tmps)=true:=by simp[Region.wanted,hg]
 refine wpQuiet_step fun K hK=>?_
 rw[if_pos hw]
 refine⟨_,fun w hw=>?_,hK _ hk⟩
 unfold Oper.quietAt execOp
 simp only[h,hx,hy,Sem.run_bind,Sem.run_pure,Result.andThen_ok,hG w hw,hC w hw]
 exact⟨rfl,rfl⟩
theorem guardRun {P:Program}{t:TypeId}(hp:P.eqGuardType P.depth t=false)(op:BinOp)(W:World)(x y:Operand)(X Y:Array Value):(eqGuard op t x y (.agg X) (.agg Y)).run P W=.ok () W:=by
 have hr:(program).run P W=.ok P W:=rfl
 unfold eqGuard
 cases op <;> simp[Sem.run_bind,hr,Result.andThen_ok,hp,Sem.run_pure]
theorem guardItem (W:World)(x y:Operand)(X Y:Array Value):(eqGuard .neq 112 x y (.agg X) (.agg Y)).run Tryz.prog W=.ok () W:=guardRun (by kernel_rfl) _ W x y X Y
theorem ld3 (W:World)(g o:Nat)(x:Ent)(c0:W.cell? ⟨g,o,none⟩=some (.string x.1))(c1:W.cell? ⟨g,o+1,none⟩=some (.int .i64 x.2.1))(c2:W.cell? ⟨g,o+2,none⟩=some (.int .i64 x.2.2)):(loadVar 112 ⟨g,o,none⟩).run Tryz.prog W=.ok (.agg #[.string x.1,.int .i64 x.2.1,.int .i64 x.2.2]) W:=by
 unfold loadVar
 go_simp
structure RObOk (F:Nat->Prop)(w:World)(o:Ob):Prop where
 kind:o.kind=1\/o.kind=2
 size:o.data.size<=256
 len:o.ents.length=o.el
 few:o.el<=16
 high0:0<=o.high
 high5:o.high<=5
 row:w.ownsRow 0 112 3 (.slice o.ea o.el o.ec) o.el (flat o.ents)
 own:∀ g,(Value.slice o.ea o.el o.ec).ownBlock=some g->F g
theorem RObOk.keep {F F':Nat->Prop}{w w':World}{o:Ob}(h:RObOk F w o)(hF:∀ k,F k->F' k)(hk:∀ k,F k->w'.heap[k]? = w.heap[k]?):RObOk F' w' o:=
 ⟨h.kind,h.size,h.len,h.few,h.high0,h.high5,ownsRow_keep h.row (fun g hg=>hk g (h.own g hg)),fun g hg=>hF g (h.own g hg)⟩
def sameB (o1 o2:Ob):Bool:=decide (o1.kind=o2.kind) && decide (o1.data=o2.data) && decide (o1.ents=o2.ents)
def oAgg (o:Ob):Value:=.agg #[.int .i64 o.kind,.string o.data,.slice o.ea o.el o.ec,.int .i64 o.high]
theorem two_boxesR (w:World)(a b:Obj):Below w.heap.size w ((w.alloc a).alloc b):=((Below.refl _ _).alloc (Nat.le_refl _) _).alloc (by simp) _
theorem same_not (o1 o2:Ob)(w:World)(z1:o1.el<=16)(z2:o2.el<=16)
  (h:(o1.kind != o2.kind)=true\/(o1.kind != o2.kind)=false/\((o1.data.toList == o2.data.toList)=false\/(o1.data.toList == o2.data.toList)=true/\((o1.el:Int) != (o2.el:Int))=true)):
  Calls Tryz.prog 200 #[oAgg o1,oAgg o2] w fun e w'=>e=.returned (.bool false)/\Below w.heap.size w w':=by
 unfold oAgg
 rcases h with h | ⟨h0,h | ⟨h1,h⟩⟩
 all_goals
  go_enter Tryz.func200,Tryz.ntmps200
  go_wp2
  go_ret
  exact⟨rfl,two_boxesR _ _ _⟩
theorem same_loop (k1 k2 n1 n2:Int)(d1 d2:ByteArray)(ea1 ea2:Option Addr)(c1 c2 m:Nat)(es1 es2:List Ent)(w:World)(z1:m<=16)(l1:es1.length=m)(l2:es2.length=m)
  (r1:w.ownsRow 0 112 3 (.slice ea1 m c1) m (flat es1))(r2:w.ownsRow 0 112 3 (.slice ea2 m c2) m (flat es2))
  (h0:(k1 != k2)=false)(h1:(d1.toList == d2.toList)=true):
  Calls Tryz.prog 200 #[.agg #[.int .i64 k1,.string d1,.slice ea1 m c1,.int .i64 n1],.agg #[.int .i64 k2,.string d2,.slice ea2 m c2,.int .i64 n2]] w fun e w'=>e=.returned (.bool (decide (es1=es2)))/\Below w.heap.size w w':=by
 have h2:((m:Int) != (m:Int))=false:=by simp
 go_enter Tryz.func200,Tryz.ntmps200
 go_wp2
 go_loopw [5] (fun i wr=>∃ k:Nat,k<=m/\i=.int .i64 k/\(∃ q,wr=((w.alloc (.cells #[.int .i64 k1,.string d1,.slice ea1 m c1,.int .i64 n1] 108)).alloc (.cells #[.int .i64 k2,.string d2,.slice ea2 m c2,.int .i64 n2] 108)).drewN q)/\Hid (es1.take k=es2.take k)) (fun i _=>m-(intOf i).toNat)
 case atStart=>exact⟨0,Nat.zero_le _,rfl,⟨0,rfl⟩,rfl⟩
 case round=>
  obtain⟨k,hk,rfl,⟨q,rfl⟩,HT⟩:=hrel
  by_cases hlt:k<m
  ·obtain⟨g1,c1',hv1⟩:=slice_of_owns r1 (by omega)
   obtain⟨g2,c2',hv2⟩:=slice_of_owns r2 (by omega)
   obtain⟨rfl,_,_⟩:=Value.slice.inj hv1
   obtain⟨rfl,_,_⟩:=Value.slice.inj hv2
   have k1':k<es1.length:=by omega
   have k2':k<es2.length:=by omega
   have gl1:g1<w.heap.size:=ownsRow_lt r1 rfl
   have gl2:g2<w.heap.size:=ownsRow_lt r2 rfl
   have hbw:∀ a b:Obj,Below w.heap.size w (((w.alloc a).alloc b).drewN q):=fun a b=>below_drewN (two_boxesR w a b) q
   obtain⟨a0,a1,a2⟩:=row_cells (off:=0) (owns_cells r1) k1'
   obtain⟨b0,b1,b2⟩:=row_cells (off:=0) (owns_cells r2) k2'
   rw[Nat.zero_add] at a0 a1 a2 b0 b1 b2
   obtain⟨x,hx⟩:∃ x,x=es1[k]:=⟨_,rfl⟩
   obtain⟨y,hy⟩:∃ y,y=es2[k]:=⟨_,rfl⟩
   rw[<- hx] at a0 a1 a2
   rw[<- hy] at b0 b1 b2
   have p0:=fun a b:Obj=>((hbw a b).cell (p:=⟨g1,k*3,none⟩) gl1).trans a0
   have p1:=fun a b:Obj=>((hbw a b).cell (p:=⟨g1,k*3+1,none⟩) gl1).trans a1
   have p2:=fun a b:Obj=>((hbw a b).cell (p:=⟨g1,k*3+2,none⟩) gl1).trans a2
   have q0:=fun a b:Obj=>((hbw a b).cell (p:=⟨g2,k*3,none⟩) gl2).trans b0
   have q1:=fun a b:Obj=>((hbw a b).cell (p:=⟨g2,k*3+1,none⟩) gl2).trans b1
   have q2:=fun a b:Obj=>((hbw a b).cell (p:=⟨g2,k*3+2,none⟩) gl2).trans b2
   clear a0 a1 a2 b0 b1 b2
   have HX:Hid (x=es1[k]):=hx
   have HY:Hid (y=es2[k]):=hy
   clear hx hy
   go_wp2
   refine wp_region_quiet_lit (by kernel_rfl) (by kernel_rfl) ?_
   iterate 4 quiet_step (fail)
   refine wpQuiet_load_at rfl 112 _ rfl ⟨g1,k*3,none⟩ rfl (.agg #[.string x.1,.int .i64 x.2.1,.int .i64 x.2.2]) (by rintro _ ⟨n,rfl⟩;exact ld3 _ g1 (k*3) x (p0 _ _) (p1 _ _) (p2 _ _)) ?_
   go_frame
   iterate 4 quiet_step (fail)
   refine wpQuiet_load_at rfl 112 _ rfl ⟨g2,k*3,none⟩ rfl (.agg #[.string y.1,.int .i64 y.2.1,.int .i64 y.2.2]) (by rintro _ ⟨n,rfl⟩;exact ld3 _ g2 (k*3) y (q0 _ _) (q1 _ _) (q2 _ _)) ?_
   go_frame
   refine wpQuiet_bin rfl .neq 112 112 _ _ rfl (.agg #[.string x.1,.int .i64 x.2.1,.int .i64 x.2.2]) (.agg #[.string y.1,.int .i64 y.2.1,.int .i64 y.2.2]) (.bool (!(decide (x=y)))) rfl rfl (by rintro _ ⟨n,rfl⟩;exact guardItem _ _ _ _ _) (by rintro _ ⟨n,rfl⟩;exact neqItem _ x y) ?_
   go_frame
   refine wpQuiet_nil ?_
   rintro _ ⟨nq,rfl⟩
   by_cases hxy:x=y
   ·have HD:Hid (x=y):=hxy
    rw[decide_eq_true hxy]
    clear hxy
    go_wp2
    go_roundw
    case rel=>
     refine⟨k+1,by omega,by go_num,⟨q+nq,rfl⟩,?_⟩
     show _=_
     rw[List.take_succ_eq_append_getElem k1',List.take_succ_eq_append_getElem k2',HT.out,<- HX.out,<- HY.out,HD.out]
    case measure=>simp[intOf];omega
   ·have HD:Hid (es1≠es2):=fun h=>hxy (by rw[HX.out,HY.out];simp only[h])
    rw[decide_eq_false hxy]
    clear hxy
    go_wp2
    go_ret
    exact⟨by rw[decide_eq_false HD.out];rfl,below_drewN (below_drewN (two_boxesR _ _ _) q) nq⟩
  ·have hkm:k=m:=by omega
   have HD:Hid (es1=es2):=by
    have:=HT.out
    rwa [hkm,List.take_of_length_le (by omega),List.take_of_length_le (by omega)] at this
   go_wp2
   go_ret
   exact⟨by rw[decide_eq_true HD.out];rfl,below_drewN (two_boxesR _ _ _) q⟩
theorem same_any {F G:Nat->Prop}(o1 o2:Ob)(w:World)(h1:RObOk F w o1)(h2:RObOk G w o2):
  Calls Tryz.prog 200 #[oAgg o1,oAgg o2] w fun e w'=>e=.returned (.bool (sameB o1 o2))/\Below w.heap.size w w':=by
 by_cases hk:o1.kind=o2.kind
 ·by_cases hd:o1.data=o2.data
  ·by_cases hl:o1.el=o2.el
   ·have:=same_loop o1.kind o2.kind o1.high o2.high o1.data o2.data o1.ea o2.ea o1.ec o2.ec o1.el o1.ents o2.ents w h1.few h1.len (by rw[h2.len,hl]) h1.row (by have:=h2.row;rwa [<- hl] at this) (by rw[hk];simp) (by rw[hd];simp)
    have e:sameB o1 o2=decide (o1.ents=o2.ents):=by unfold sameB;simp[hk,hd]
    rw[e]
    unfold oAgg
    rw[<- hl]
    exact this
   ·have e:sameB o1 o2=false:=by
     have:o1.ents≠o2.ents:=fun h=>hl (by rw[<- h1.len,<- h2.len,h])
     unfold sameB;simp[this]
    rw[e]
    exact same_not o1 o2 w h1.few h2.few (.inr ⟨by rw[hk];simp,.inr ⟨by rw[hd];simp,by simp;omega⟩⟩)
  ·have e:sameB o1 o2=false:=by unfold sameB;simp[hd]
   rw[e]
   exact same_not o1 o2 w h1.few h2.few (.inr ⟨by rw[hk];simp,.inl (by simp;exact fun h=>hd (bytes_eq h))⟩)
 ·have e:sameB o1 o2=false:=by unfold sameB;simp[hk]
  rw[e]
  exact same_not o1 o2 w h1.few h2.few (.inl (by simpa using hk))
structure RefAt (F:Nat->Prop)(w:World)(r:Nat)(a:Option Addr)(cap:Nat)(ros:List Ob):Prop where
 fr:F r
 fa:∀ g,(Value.slice a ros.length cap).ownBlock=some g->F g
 hr:w.heap[r]? = some (.cells #[.slice a ros.length cap] 94 (0,0))
 row:w.ownsRow 0 108 4 (.slice a ros.length cap) ros.length (obCells ros)
 many:ros.length<=400
 obs:∀ o ∈ ros,RObOk F w o
theorem RefAt.keep {F F':Nat->Prop}{w w':World}{r:Nat}{a:Option Addr}{cap:Nat}{ros:List Ob}(h:RefAt F w r a cap ros)(hF:∀ k,F k->F' k)(hk:∀ k,F k->w'.heap[k]? = w.heap[k]?):RefAt F' w' r a cap ros:=
 ⟨hF _ h.fr,fun g hg=>hF g (h.fa g hg),(hk r h.fr).trans h.hr,ownsRow_keep h.row (fun g hg=>hk g (h.fa g hg)),h.many,fun o ho=>(h.obs o ho).keep hF hk⟩
theorem RefAt.lt {F:Nat->Prop}{w:World}{r:Nat}{a:Option Addr}{cap:Nat}{ros:List Ob}(h:RefAt F w r a cap ros):r<w.heap.size:=(Array.getElem?_eq_some_iff.1 h.hr).1
theorem RefAt.c0 {F:Nat->Prop}{w:World}{r:Nat}{a:Option Addr}{cap:Nat}{ros:List Ob}(h:RefAt F w r a cap ros):w.cell? ⟨r,0,none⟩=some (.slice a ros.length cap):=by simp[World.cell?,h.hr]
theorem RefAt.f0 {F:Nat->Prop}{w:World}{r:Nat}{a:Option Addr}{cap:Nat}{ros:List Ob}(h:RefAt F w r a cap ros):w.frozen? ⟨r,0,none⟩=false:=by simp[World.frozen?,h.hr]
theorem RObOk.below {F:Nat->Prop}{w w':World}{o:Ob}(h:RObOk F w o)(hb:Below w.heap.size w w'):RObOk F w' o:=
 ⟨h.kind,h.size,h.len,h.few,h.high0,h.high5,ownsRow_keep h.row (fun g hg=>hb.block g (ownsRow_lt h.row hg)),h.own⟩
theorem RefAt.below {F:Nat->Prop}{w w':World}{r:Nat}{a:Option Addr}{cap:Nat}{ros:List Ob}(h:RefAt F w r a cap ros)(hb:Below w.heap.size w w'):RefAt F w' r a cap ros:=
 ⟨h.fr,h.fa,(hb.block r h.lt).trans h.hr,ownsRow_keep h.row (fun g hg=>hb.block g (ownsRow_lt h.row hg)),h.many,fun o ho=>(h.obs o ho).below hb⟩
theorem row_obs {w:World}{t:TypeId}{a:Option Addr}{n cap:Nat}{ros:List Ob}(h:w.ownsRow 0 t 4 (.slice a n cap) n (obCells ros))(hl:ros.length=n){i:Nat}(hi:i<ros.length):
  ∃ g,a=some ⟨g,0,none⟩/\g<w.heap.size/\w.cell? ⟨g,i*4,none⟩=some (.int .i64 ros[i].kind)/\w.cell? ⟨g,i*4+1,none⟩=some (.string ros[i].data)/\
   w.cell? ⟨g,i*4+2,none⟩=some (.slice ros[i].ea ros[i].el ros[i].ec)/\w.cell? ⟨g,i*4+3,none⟩=some (.int .i64 ros[i].high):=by
 have hn:i<n:=by rw[<- hl];exact hi
 rcases h.2 with ⟨_,h0⟩ | ⟨g,cap',cur,hv,_,hg,_,_,hcur,ht⟩
 ·omega
 ·cases hv
  have key:∀ j u,j<4->(ros[i].cells)[j]? = some u->w.cell? ⟨g,i*4+j,none⟩=some u:=by
   intro j u hj hu
   rw[<- obCells_get ros i j hi hj,<- ht,List.getElem?_take_of_lt (by omega),Array.getElem?_toList] at hu
   simp[World.cell?,hg,hu]
  exact⟨g,rfl,(Array.getElem?_eq_some_iff.1 hg).1,key 0 _ (by omega) rfl,key 1 _ (by omega) rfl,key 2 _ (by omega) rfl,key 3 _ (by omega) rfl⟩
theorem wpStill_load_at {P:Program}{ops:Array Oper}{w:World}{Q:Act->Prop}{o:Oper}{rest:List Oper}{a:Act}(hg:o.guard=none)(ty:TypeId)(x:Operand)(h:o.op=.load ty x)(ad:Addr)(hx:a.eval x=.pointer (some ad))
  (cs:Value)(hrun:(loadVar ty ad).run P w=.ok cs w)(hk:wpStill P ops w Q rest (a.put o.dst cs)):wpStill P ops w Q (o :: rest) a:=by
 have hw:Region.wanted o (yielded ops a.tmps)=true:=by simp[Region.wanted,hg]
 refine wpStill_step fun K hK=>?_
 rw[if_pos hw]
 unfold Oper.still execOp
 simp only[h,hx,Instr.loadAt,Instr.sureAddr,Sem.run_bind,Sem.run_pure,Result.andThen_ok,hrun]
 exact⟨rfl,hK _ hk⟩
theorem ld4 (W:World)(g o:Nat)(x:Ob)(c0:W.cell? ⟨g,o,none⟩=some (.int .i64 x.kind))(c1:W.cell? ⟨g,o+1,none⟩=some (.string x.data))(c2:W.cell? ⟨g,o+2,none⟩=some (.slice x.ea x.el x.ec))(c3:W.cell? ⟨g,o+3,none⟩=some (.int .i64 x.high)):
  (loadVar 108 ⟨g,o,none⟩).run Tryz.prog W=.ok (oAgg x) W:=by
 unfold loadVar oAgg
 go_simp
def findAt (ros:List Ob)(o:Ob):Option Nat:=ros.findIdx? fun x=>sameB x o
def placeI (p:Option Nat):Int:=match p with | some i=>i | none=>-1
theorem find_anyR {F G:Nat->Prop}(r:Nat)(a:Option Addr)(cap:Nat)(ros:List Ob)(o:Ob)(w:World)(h:RefAt F w r a cap ros)(ho:RObOk G w o):
  Calls Tryz.prog 149 #[.pointer (some ⟨r,0,none⟩),oAgg o] w fun e w'=>e=.returned (.int .i64 (placeI (findAt ros o)))/\Below w.heap.size w w':=by
 unfold oAgg
 obtain⟨n,hn⟩:∃ n,n=ros.length:=⟨_,rfl⟩
 have hmany:n<=400:=by rw[hn];exact h.many
 have HN:Hid (n=ros.length):=hn
 clear hn
 obtain⟨B,hB⟩:∃ B:Obj,B=.cells #[.int .i64 o.kind,.string o.data,.slice o.ea o.el o.ec,.int .i64 o.high] 108:=⟨_,rfl⟩
 go_enter Tryz.func149,Tryz.ntmps149
 go_wp2
 rw[<- hB]
 go_loopw [5] (fun i wr=>∃ k:Nat,k<=n/\i=.int .i64 k/\Below (w.alloc B).heap.size (w.alloc B) wr/\Hid (∀ j (hj:j<ros.length),j<k->sameB ros[j] o=false)) (fun i _=>n-(intOf i).toNat)
 case atStart=>exact⟨0,Nat.zero_le _,rfl,Below.refl _ _,fun j hj h=>by omega⟩
 case round=>
  obtain⟨k,hk,rfl,hb,HV⟩:=hrel
  have hbw:Below w.heap.size w wr:=((Below.refl _ _).alloc (Nat.le_refl _) B).trans (hb.mono (by simp))
  have hc0:=(h.below hbw).c0
  rw[<- HN.out] at hc0
  by_cases hlt:k<n
  ·have hk':k<ros.length:=by rw[<- HN.out];exact hlt
   obtain⟨g,hga,hgl,c0,c1,c2,c3⟩:=row_obs (h.below hbw).row rfl hk'
   rw[hga] at hc0
   have bx:∀ j,j<4->wr.cell? ⟨w.heap.size,j,none⟩=(oAgg o).cells[j]?:=by
    intro j hj
    rw[hb.cell (p:=⟨w.heap.size,j,none⟩) (by simp)]
    subst hB
    match j,hj with
    | 0,_=>simp[oAgg,Value.cells]
    | 1,_=>simp[oAgg,Value.cells]
    | 2,_=>simp[oAgg,Value.cells]
    | 3,_=>simp[oAgg,Value.cells]
   have hl1:=ld4 wr g (k*4) ros[k] c0 c1 c2 c3
   have hl2:=ld4 wr w.heap.size 0 o (bx 0 (by omega)) (bx 1 (by omega)) (bx 2 (by omega)) (bx 3 (by omega))
   have HL1:Hid ((loadVar 108 ⟨g,k*4,none⟩).run Tryz.prog wr.drew=.ok (oAgg ros[k]) wr.drew):=ld4 wr.drew g (k*4) ros[k] c0 c1 c2 c3
   have HL2:Hid ((loadVar 108 ⟨w.heap.size,0,none⟩).run Tryz.prog wr.drew=.ok (oAgg o) wr.drew):=ld4 wr.drew w.heap.size 0 o (bx 0 (by omega)) (bx 1 (by omega)) (bx 2 (by omega)) (bx 3 (by omega))
   clear c0 c1 c2 c3 bx hl1 hl2
   have hsame:=same_any ros[k] o wr.drew ((h.below (below_drewN hbw 1)).obs _ (List.getElem_mem hk')) (ho.below (below_drewN hbw 1))
   go_wp2
   refine wp_region_still_tail 8 (by kernel_rfl) (by kernel_rfl) ?_
   simp only[List.take_succ_cons,List.take_zero,List.drop_succ_cons,List.drop_zero]
   iterate 6 still_step
   refine wpStill_load_at rfl 108 _ rfl ⟨g,k*4,none⟩ rfl (oAgg ros[k]) HL1.out ?_
   go_frame
   refine wpStill_load_at rfl 108 _ rfl ⟨w.heap.size,0,none⟩ rfl (oAgg o) HL2.out ?_
   go_frame
   refine wpStill_nil ?_
   cases hsb:sameB ros[k] o with
   | true=>
    have HS:Hid (sameB ros[k] o=true):=hsb
    rw[hsb] at hsame
    clear hsb
    go_wp2_with fail
    refine hsame.mono ?_
    rintro e w1 ⟨rfl,hb1⟩
    go_wp2
    go_ret
    refine⟨?_,hbw.trans ((below_drewN (Below.refl wr.heap.size wr) 1).trans hb1 |>.mono hbw.size)⟩
    have e:findAt ros o=some k:=List.findIdx?_eq_some_iff_getElem.2 ⟨hk',HS.out,fun j hj=>by have:=HV.out j (by omega) hj;simp[this]⟩
    rw[e];rfl
   | false=>
    have HS:Hid (sameB ros[k] o=false):=hsb
    rw[hsb] at hsame
    clear hsb
    go_wp2_with fail
    refine hsame.mono ?_
    rintro e w1 ⟨rfl,hb1⟩
    go_wp2
    go_roundw
    case rel=>
     refine⟨k+1,by omega,by go_num,hb.trans ((below_drewN (Below.refl wr.heap.size wr) 1).trans hb1 |>.mono hb.size),?_⟩
     intro j hj hjk
     by_cases e:j=k
     ·subst e;exact HS.out
     ·exact HV.out j hj (by omega)
    case measure=>simp[intOf];omega
  ·go_wp2
   go_ret
   refine⟨?_,hbw⟩
   have e:findAt ros o=none:=List.findIdx?_eq_none_iff.2 fun x hx=>by
    obtain⟨j,hj,rfl⟩:=List.getElem_of_mem hx
    exact HV.out j hj (by rw[<- HN.out] at hj;omega)
   rw[e];rfl
def rhigh (ros:List Ob)(e:Ent):Int:=((ros[e.2.2.toNat]?).map (·.high)).getD 0
def rhighs (ros:List Ob)(es:List Ent):Int:=es.foldl (fun h e=>max h (1+rhigh ros e)) 0
theorem rhighs_snoc (ros:List Ob)(es:List Ent)(e:Ent):rhighs ros (es ++ [e])=max (rhighs ros es) (1+rhigh ros e):=by
 simp only[rhighs,List.foldl_append,List.foldl_cons,List.foldl_nil]
theorem infoObj:(Tryz.prog.info? 108).map (fun i=>(i.zero,i.size,i.bytes))=some (some (.agg #[.int .i64 0,.string ByteArray.empty,.slice none 0 0,.int .i64 0]),4,56):=by kernel_rfl
theorem put_hit {F G:Nat->Prop}(r:Nat)(a:Option Addr)(cap:Nat)(ros:List Ob)(o:Ob)(w:World)(h:RefAt F w r a cap ros)(ho:RObOk G w o)(i:Nat)(hf:findAt ros o=some i):
  Calls Tryz.prog 78 #[.pointer (some ⟨r,0,none⟩),oAgg o] w fun e w'=>e=.returned (.int .i64 i)/\Below w.heap.size w w':=by
 have b1:∀ B,Below w.heap.size w (w.alloc B):=fun B=>(Below.refl _ _).alloc (Nat.le_refl _) _
 have hfind:=fun B:Obj=>find_anyR r a cap ros o (w.alloc B) (h.below (b1 B)) (ho.below (b1 B))
 rw[hf] at hfind
 have hi0:decide ((0:Int)<=(i:Int))=true:=by simp
 unfold oAgg at hfind ⊢
 unfold placeI at hfind
 have hfind':∀ B:Obj,Calls Tryz.prog 149 #[.pointer (some ⟨r,0,none⟩),.agg #[.int .i64 o.kind,.string o.data,.slice o.ea o.el o.ec,.int .i64 o.high]] (w.alloc B) fun e w'=>e=.returned (.int .i64 i)/\Below (w.alloc B).heap.size (w.alloc B) w':=hfind
 clear hfind
 go_enter Tryz.func78,Tryz.ntmps78
 go_wp2_with fail
 refine (hfind' _).mono ?_
 rintro e w1 ⟨rfl,hb1⟩
 go_wp2
 go_ret
 exact⟨rfl,(b1 _).trans (hb1.mono (by simp))⟩
theorem put_full {F G:Nat->Prop}(r:Nat)(a:Option Addr)(cap:Nat)(ros:List Ob)(o:Ob)(w:World)(h:RefAt F w r a cap ros)(ho:RObOk G w o)(hf:findAt ros o=none)(hn:400<=ros.length):
  Calls Tryz.prog 78 #[.pointer (some ⟨r,0,none⟩),oAgg o] w fun e w'=>e=.returned (.int .i64 (-1))/\Below w.heap.size w w':=by
 have b1:∀ B,Below w.heap.size w (w.alloc B):=fun B=>(Below.refl _ _).alloc (Nat.le_refl _) _
 have hfind:=fun B:Obj=>find_anyR r a cap ros o (w.alloc B) (h.below (b1 B)) (ho.below (b1 B))
 rw[hf] at hfind
 unfold oAgg at hfind ⊢
 have hfind':∀ B:Obj,Calls Tryz.prog 149 #[.pointer (some ⟨r,0,none⟩),.agg #[.int .i64 o.kind,.string o.data,.slice o.ea o.el o.ec,.int .i64 o.high]] (w.alloc B) fun e w'=>e=.returned (.int .i64 (-1))/\Below (w.alloc B).heap.size (w.alloc B) w':=hfind
 clear hfind
 go_enter Tryz.func78,Tryz.ntmps78
 go_wp2_with fail
 refine (hfind' _).mono ?_
 rintro e w1 ⟨rfl,hb1⟩
 have hbw:=(b1 _).trans (hb1.mono (by simp))
 have hc0:=(h.below hbw).c0
 go_wp2
 go_ret
 exact⟨rfl,hbw⟩
def Boxed4 (W:World)(b:Nat)(k:Int)(d:ByteArray)(ea:Option Addr)(el ec:Nat)(hi:Int):Prop:=W.heap[b]? = some (.cells #[.int .i64 k,.string d,.slice ea el ec,.int .i64 hi] 108 (0,0))
theorem Boxed4.parts {W:World}{b:Nat}{k:Int}{d:ByteArray}{ea:Option Addr}{el ec:Nat}{hi:Int}(h:Boxed4 W b k d ea el ec hi):W.cell? ⟨b,2,none⟩=some (.slice ea el ec)/\W.cell? ⟨b,3,none⟩=some (.int .i64 hi)/\W.frozen? ⟨b,3,none⟩=false:=by
 unfold Boxed4 at h
 refine⟨?_,?_,?_⟩ <;> simp[World.cell?,World.frozen?,h]
theorem Boxed4.parts2 {W:World}{b:Nat}{k:Int}{d:ByteArray}{ea:Option Addr}{el ec:Nat}{hi:Int}(h:Boxed4 W b k d ea el ec hi):W.cell? ⟨b,0,none⟩=some (.int .i64 k)/\W.cell? ⟨b,1,none⟩=some (.string d):=by
 unfold Boxed4 at h
 refine⟨?_,?_⟩ <;> simp[World.cell?,h]
theorem grown_cell1R {w w1:World}{o1:Obj}{r:Option Nat}(hg:(w.alloc o1).drew.grownBy w1 r){p:Nat}(hp:p<w.heap.size)(hr:some p≠r){v:Value}{i:Nat}(h:w.cell? ⟨p,i,none⟩=some v):w1.cell? ⟨p,i,none⟩=some v:=by
 rw[World.cell?_of_block (a:=⟨p,i,none⟩) (hg.block p (by simp;omega) hr)]
 show (w.alloc o1).cell? ⟨p,i,none⟩=_
 rw[World.cell?_alloc_past _ _ _ hp,h]
theorem grown_frozen1R {w w1:World}{o1:Obj}{r:Option Nat}(hg:(w.alloc o1).drew.grownBy w1 r){p:Nat}(hp:p<w.heap.size)(hr:some p≠r){i:Nat}(h:w.frozen? ⟨p,i,none⟩=false):w1.frozen? ⟨p,i,none⟩=false:=by
 rw[World.frozen?_of_block (a:=⟨p,i,none⟩) (hg.block p (by simp;omega) hr)]
 show (w.alloc o1).frozen? ⟨p,i,none⟩=_
 rw[World.frozen?_alloc_past _ _ _ hp,h]
theorem Boxed4.high {W:World}{b:Nat}{k:Int}{d:ByteArray}{ea:Option Addr}{el ec:Nat}{hi:Int}(h:Boxed4 W b k d ea el ec hi)(x:Int):Boxed4 (W.setCell ⟨b,3,none⟩ (.int .i64 x)) b k d ea el ec x:=by
 unfold Boxed4 at h ⊢
 simp[World.setCell,Array.getElem?_modify,h]
theorem keeps_drewNR {F:Nat->Prop}{w w':World}(h:Keeps F w w')(q:Nat):Keeps F w (w'.drewN q):=⟨h.os,h.tape,h.output,h.size,h.block⟩
theorem keeps_box {w w':World}{b i:Nat}{v:Value}(h:Keeps (fun k=>k=b) w w'):Keeps (fun k=>k=b) w (w'.setCell ⟨b,i,none⟩ v):=
 ⟨h.os,h.tape,h.output,by simpa using h.size,fun k hk hne=>by rw[Below.heap_setCell _ _ _ _ hne];exact h.block k hk hne⟩
theorem put_after {F:Nat->Prop}{w wr w2:World}{r:Nat}{a:Option Addr}{cap:Nat}{ros:List Ob}{o1:Obj}{g cap':Nat}{news:List Value}(h:RefAt F w r a cap ros)(kb:∀ q,q<w.heap.size->wr.heap[q]? = w.heap[q]?)(hsr:w.heap.size<wr.heap.size)
  (hq:wr.os=w.os/\wr.tape=w.tape/\wr.output=w.output)(hpa:some r≠(Value.slice a ros.length cap).ownBlock)(hown:w2.ownsRow 0 108 4 (.slice (some ⟨g,0,none⟩) (ros.length+1) cap') (ros.length+1) (obCells ros++news))
  (hg:(wr.alloc o1).drew.grownBy w2 (Value.slice a ros.length cap).ownBlock)(hloc:(Value.slice (some ⟨g,0,none⟩) (ros.length+1) cap').ownBlock=(Value.slice a ros.length cap).ownBlock\/(Value.slice (some ⟨g,0,none⟩) (ros.length+1) cap').ownBlock=some (wr.alloc o1).drew.heap.size):
  (w2.setCell ⟨r,0,none⟩ (.slice (some ⟨g,0,none⟩) (ros.length+1) cap')).heap[r]? = some (.cells #[.slice (some ⟨g,0,none⟩) (ros.length+1) cap'] 94 (0,0))/\(w2.setCell ⟨r,0,none⟩ (.slice (some ⟨g,0,none⟩) (ros.length+1) cap')).ownsRow 0 108 4 (.slice (some ⟨g,0,none⟩) (ros.length+1) cap') (ros.length+1) (obCells ros++news)/\
    ((some g:Option Nat)=(Value.slice a ros.length cap).ownBlock\/w.heap.size<=g)/\Keeps (fun k=>k=r\/some k=(Value.slice a ros.length cap).ownBlock) w (w2.setCell ⟨r,0,none⟩ (.slice (some ⟨g,0,none⟩) (ros.length+1) cap')):=by
 have hkeep:∀ k,k<w.heap.size->some k≠(Value.slice a ros.length cap).ownBlock->w2.heap[k]? = w.heap[k]?:=by
  intro k hk hne
  rw[hg.block k (by simp;omega) hne]
  show (wr.alloc o1).heap[k]? = _
  rw[Below.heap_alloc _ _ _ (by omega),kb k hk]
 have hw2:w2.heap[r]? = some (.cells #[.slice a ros.length cap] 94 (0,0)):=by rw[hkeep r h.lt hpa,h.hr]
 have hgr:g≠r:=by
  rintro rfl
  rcases hloc with h1 | h1
  ·exact hpa h1
  ·have:=h.lt;simp[Value.ownBlock] at h1;omega
 have hs:=hg.size
 simp at hs
 refine⟨?_,?_,?_,⟨hg.os.trans hq.1,hg.tape.trans hq.2.1,hg.output.trans hq.2.2,by simp;omega,?_⟩⟩
 ·simp[World.setCell,Array.getElem?_modify,hw2]
 ·obtain⟨h1,h2⟩:=hown
  refine⟨h1,?_⟩
  rcases h2 with ⟨h,_⟩ | ⟨g0,cap0,cur,hv,hb,hh,r⟩
  ·cases h
  ·cases hv
   exact Or.inr ⟨g,cap',cur,rfl,hb,by rw[Below.heap_setCell _ _ _ _ hgr];exact hh,r⟩
 ·rcases hloc with h | h
  ·exact Or.inl h
  ·simp[Value.ownBlock] at h;exact Or.inr (by omega)
 ·intro k hk hne
  rw[Below.heap_setCell _ _ _ _ (fun e=>hne (.inl e)),hkeep k hk (fun e=>hne (.inr e))]
theorem put_newR {F G:Nat->Prop}(r:Nat)(a:Option Addr)(cap:Nat)(ros:List Ob)(o:Ob)(w:World)(h:RefAt F w r a cap ros)(ho:RObOk G w o)(hz:o.high=0)(hf:findAt ros o=none)(hn:ros.length<400)
  (hat:∀ e ∈ o.ents,0<=e.2.2/\e.2.2<(ros.length:Int)):
  Calls Tryz.prog 78 #[.pointer (some ⟨r,0,none⟩),oAgg o] w fun e w'=>e=.returned (.int .i64 ros.length)/\
   ∃ g cap',w'.heap[r]? = some (.cells #[.slice (some ⟨g,0,none⟩) (ros.length+1) cap'] 94 (0,0))/\w'.ownsRow 0 108 4 (.slice (some ⟨g,0,none⟩) (ros.length+1) cap') (ros.length+1) (obCells ros++Ob.cells { o with high:=rhighs ros o.ents })/\
    ((some g:Option Nat)=(Value.slice a ros.length cap).ownBlock\/w.heap.size<=g)/\Keeps (fun k=>k=r\/some k=(Value.slice a ros.length cap).ownBlock) w w':=by
 obtain⟨i0,hi,hz0,hz1,hz2⟩:=info_parts infoObj
 have b1:∀ B,Below w.heap.size w (w.alloc B):=fun B=>(Below.refl _ _).alloc (Nat.le_refl _) _
 have hfind:=fun B:Obj=>find_anyR r a cap ros o (w.alloc B) (h.below (b1 B)) (ho.below (b1 B))
 rw[hf] at hfind
 unfold oAgg at hfind ⊢
 have hfind':∀ B:Obj,Calls Tryz.prog 149 #[.pointer (some ⟨r,0,none⟩),.agg #[.int .i64 o.kind,.string o.data,.slice o.ea o.el o.ec,.int .i64 o.high]] (w.alloc B) fun e w'=>e=.returned (.int .i64 (-1))/\Below (w.alloc B).heap.size (w.alloc B) w':=hfind
 clear hfind
 have HH:Hid (∀ x ∈ ros,0<=x.high/\x.high<=5):=fun x hx=>⟨(h.obs x hx).high0,(h.obs x hx).high5⟩
 have HA:Hid (∀ e ∈ o.ents,0<=e.2.2/\e.2.2<(ros.length:Int)):=hat
 have hel:o.el<=16:=ho.few
 have HL:Hid (o.ents.length=o.el):=ho.len
 clear hat
 rw[hz] at hfind' ⊢
 go_enter Tryz.func78,Tryz.ntmps78
 go_wp2_with fail
 refine (hfind' _).mono ?_
 rintro e w1 ⟨rfl,hb1⟩
 have hbw:=(b1 _).trans (hb1.mono (by simp))
 have hc0:=(h.below hbw).c0
 have hrl:r<w.heap.size:=h.lt
 have hbx:Hid (Boxed4 w1 w.heap.size o.kind o.data o.ea o.el o.ec 0):=by
  show w1.heap[w.heap.size]? = _
  rw[hb1.block _ (by simp)]
  exact heap_alloc_new _ _
 have hs1:w.heap.size<w1.heap.size:=by have:=hb1.size;simp at this;omega
 clear hfind'
 go_wp2
 go_loopw [6] (fun i wr=>∃ k:Nat,k<=o.el/\i=.int .i64 k/\Hid (Keeps (fun k=>k=w.heap.size) w1 wr)/\Hid (Boxed4 wr w.heap.size o.kind o.data o.ea o.el o.ec (rhighs ros (o.ents.take k)))/\0<=rhighs ros (o.ents.take k)/\rhighs ros (o.ents.take k)<=6) (fun i _=>o.el-(intOf i).toNat)
 case atStart=>exact⟨0,Nat.zero_le _,rfl,⟨rfl,rfl,rfl,Nat.le_refl _,fun _ _ _=>rfl⟩,hbx,by show (0:Int)<=0;omega,by show (0:Int)<=6;omega⟩
 case round=>
  obtain⟨k,hk,rfl,HK,HB,hh0,hh6⟩:=hrel
  have kb:∀ q,q<w.heap.size->wr.heap[q]? = w.heap[q]?:=fun q hq=>(HK.out.block q (by omega) (by omega)).trans (hbw.block q hq)
  have hsr:w.heap.size<wr.heap.size:=Nat.lt_of_lt_of_le hs1 HK.out.size
  have hcr:wr.cell? ⟨r,0,none⟩=some (.slice a ros.length cap):=(World.cell?_of_block (a:=⟨r,0,none⟩) (kb r hrl)).trans h.c0
  obtain⟨q2,q3,fz⟩:=HB.out.parts
  by_cases hlt:k<o.el
  ·have hk':k<o.ents.length:=by rw[HL.out];exact hlt
   have hrow:=ho.row
   obtain⟨gi,ci,hvi⟩:=slice_of_owns hrow (by omega)
   have hea:=(Value.slice.inj hvi).1
   rw[hea] at hrow q2
   clear hea hvi
   have hgil:gi<w.heap.size:=ownsRow_lt hrow rfl
   obtain⟨_,_,e2⟩:=row_cells (off:=0) (owns_cells hrow) hk'
   rw[Nat.zero_add] at e2
   obtain⟨ha0,ha1⟩:=HA.out _ (List.getElem_mem hk')
   obtain⟨j,hj⟩:∃ j:Nat,o.ents[k].2.2=(j:Int):=⟨o.ents[k].2.2.toNat,by omega⟩
   have hjl:j<ros.length:=by omega
   rw[hj] at e2
   have e2':=(World.cell?_of_block (a:=⟨gi,k*3+2,none⟩) (kb gi hgil)).trans e2
   obtain⟨g,hga,hgl,_,_,_,c3⟩:=row_obs h.row rfl hjl
   rw[hga] at hcr
   clear hga
   have c3':=(World.cell?_of_block (a:=⟨g,j*4+3,none⟩) (kb g hgl)).trans c3
   obtain⟨hj0,hj5⟩:=HH.out ros[j] (List.getElem_mem hjl)
   have HS:Hid (rhighs ros (o.ents.take (k+1))=max (rhighs ros (o.ents.take k)) (1+ros[j].high)):=by
    show _=_
    rw[List.take_succ_eq_append_getElem hk',rhighs_snoc]
    unfold rhigh
    rw[hj,Int.toNat_natCast,List.getElem?_eq_getElem hjl];rfl
   obtain⟨H,hH⟩:∃ H,H=rhighs ros (o.ents.take k):=⟨_,rfl⟩
   rw[<- hH] at hh0 hh6 q3
   have HH2:Hid (H=rhighs ros (o.ents.take k)):=hH
   clear c3 e2 hH hj ha0 ha1
   by_cases hgt:H<1+ros[j].high
   ·go_wp2
    go_quiet (fail)
    go_wp2
    go_roundw
    case rel=>
     refine⟨k+1,by omega,by go_num,keeps_box (keeps_drewNR HK.out nq),?_,by rw[HS.out,<- HH2.out];omega,by rw[HS.out,<- HH2.out];omega⟩
     rw[HS.out,<- HH2.out,Int.max_eq_right (by omega)]
     exact Boxed4.high (W:=wr.drewN nq) HB.out _
    case measure=>simp[intOf];omega
   ·go_wp2
    go_quiet (fail)
    go_wp2
    go_roundw
    case rel=>
     refine⟨k+1,by omega,by go_num,keeps_drewNR HK.out nq,?_,by rw[HS.out,<- HH2.out];omega,by rw[HS.out,<- HH2.out];omega⟩
     rw[HS.out,<- HH2.out,Int.max_eq_left (by omega),HH2.out]
     exact HB.out
    case measure=>simp[intOf];omega
  ·have hke:k=o.el:=by omega
   have HT:Hid (o.ents.take k=o.ents):=List.take_of_length_le (by rw[HL.out];omega)
   rw[HT.out] at q3
   have HB2:Hid (Boxed4 wr w.heap.size o.kind o.data o.ea o.el o.ec (rhighs ros o.ents)):=by have:=HB.out;rwa [HT.out] at this
   obtain⟨q0,q1⟩:=HB2.out.parts2
   obtain⟨H,hH⟩:∃ H,H=rhighs ros o.ents:=⟨_,rfl⟩
   rw[<- hH] at q3 HB2
   have HH3:Hid (H=rhighs ros o.ents):=hH
   clear hh0 hh6 hH HB
   have HO:Hid (wr.ownsRow 0 108 4 (.slice a ros.length cap) ros.length (obCells ros)):=ownsRow_keep h.row (fun g hg=>kb g (ownsRow_lt h.row hg))
   have HP:Hid (some r≠(Value.slice a ros.length cap).ownBlock):=owns_ne_cells h.row h.hr (by decide)
   have H1:Hid (∀ u ∈ [Value.int .i64 o.kind,.string o.data,.slice o.ea o.el o.ec,.int .i64 H],u.oneCell'=true):=by intro u hu;simp at hu;rcases hu with rfl | rfl | rfl | rfl <;> rfl
   have hfr:wr.frozen? ⟨r,0,none⟩=false:=(World.frozen?_of_block (a:=⟨r,0,none⟩) (kb r hrl)).trans h.f0
   have hrl':r<wr.heap.size:=by omega
   go_wp2
   go_region_law (refine step_append_own_at rfl (.tmp 51) (.tmp 53) 92 rfl 0 108 i0 _ 4 56 Tryz.underlying92 hi hz0 hz1 hz2 rfl (by decide) (.slice a ros.length cap) ros.length (obCells ros) (by simp[Act.eval]) (HO.out.alloc _) ⟨wr.heap.size,0,none⟩ 1 1 [.int .i64 o.kind,.string o.data,.slice o.ea o.el o.ec,.int .i64 H] (by simp[Act.eval]) rfl (cells4 wr (.int .i64 o.kind) (.string o.data) (.slice o.ea o.el o.ec) (.int .i64 H) 108) H1.out (by unfold maxLen;omega) (by omega) (Nat.zero_le _) ?_;intro v' w2 hown' hgrow hloc;obtain⟨g,cap',rfl⟩:=slice_of_owns hown' (by omega);have k1':=grown_cell1R hgrow hrl' HP.out hcr;have k2':=grown_frozen1R hgrow hrl' HP.out hfr)
   all_goals
    have HF:Hid _:=put_after h kb hsr ⟨HK.out.os.trans hbw.os,HK.out.tape.trans hbw.tape,HK.out.output.trans hbw.output⟩ HP.out hown' hgrow hloc
    clear hown' hgrow hloc
    go_wp2
    go_ret
    rw[HH3.out] at HF
    exact⟨by simp,g,cap',HF.out⟩
theorem owns_block {w:World}{base:Nat}{e:TypeId}{size n:Nat}{v:Value}{xs:List Value}(h:w.ownsRow base e size v n xs){g:Nat}(hg:v.ownBlock=some g):∃ cur,w.heap[g]? = some (.cells cur e (0,0)):=by
 rcases h.2 with ⟨rfl,_⟩ | ⟨g',cap,cur,rfl,_,hh,_⟩
 ·simp[Value.ownBlock] at hg
 ·simp[Value.ownBlock] at hg;subst hg;exact⟨cur,hh⟩
def RefInv (F:Nat->Prop)(w:World)(r:Nat)(ros:List Ob):Prop:=∃ a cap,RefAt F w r a cap ros
theorem RefInv.keep {F F':Nat->Prop}{w w':World}{r:Nat}{ros:List Ob}(h:RefInv F w r ros)(hF:∀ k,F k->F' k)(hk:∀ k,F k->w'.heap[k]? = w.heap[k]?):RefInv F' w' r ros:=by
 obtain⟨a,cap,h⟩:=h
 exact⟨a,cap,h.keep hF hk⟩
theorem RefInv.below {F F':Nat->Prop}{w w':World}{r:Nat}{ros:List Ob}(h:RefInv F w r ros)(hb:Below w.heap.size w w')(hF:∀ k,F k->F' k):RefInv F' w' r ros:=by
 obtain⟨a,cap,h⟩:=h
 have h':=h.below hb
 exact⟨a,cap,h'.keep hF (fun _ _=>rfl)⟩
theorem foldl_max (f:Ent->Int):∀ (es:List Ent) (h:Int),h<=es.foldl (fun h e=>max h (f e)) h
 | [],_=>Int.le_refl _
 | e :: r,h=>Int.le_trans (Int.le_max_left _ _) (foldl_max f r _)
theorem rhighs_nonneg (ros:List Ob)(es:List Ent):0<=rhighs ros es:=foldl_max (fun e=>1+rhigh ros e) es 0
theorem RefAt.put {F G:Nat->Prop}{w w':World}{r:Nat}{a:Option Addr}{cap:Nat}{ros:List Ob}{o:Ob}(h:RefAt F w r a cap ros)(ho:RObOk G w o)(h5:rhighs ros o.ents<=5)(hn:ros.length<400){g cap':Nat}
  (h1:w'.heap[r]? = some (.cells #[.slice (some ⟨g,0,none⟩) (ros.length+1) cap'] 94 (0,0)))(h2:w'.ownsRow 0 108 4 (.slice (some ⟨g,0,none⟩) (ros.length+1) cap') (ros.length+1) (obCells ros++Ob.cells { o with high:=rhighs ros o.ents }))
  (h3:(some g:Option Nat)=(Value.slice a ros.length cap).ownBlock\/w.heap.size<=g)(h4:Keeps (fun k=>k=r\/some k=(Value.slice a ros.length cap).ownBlock) w w'):
  RefAt (fun k=>F k\/G k\/(w.heap.size<=k/\k<w'.heap.size)) w' r (some ⟨g,0,none⟩) cap' (ros ++ [{ o with high:=rhighs ros o.ents }])/\Keeps F w w':=by
 have hl:(ros ++ [{ o with high:=rhighs ros o.ents }]).length=ros.length+1:=by simp
 have items:∀ {v:Value} {n:Nat} {xs:List Value},w.ownsRow 0 112 3 v n xs->w'.ownsRow 0 112 3 v n xs:=by
  intro v n xs hr
  refine ownsRow_keep hr fun k hk=>?_
  obtain⟨cur,hcur⟩:=owns_block hr hk
  refine h4.block k (ownsRow_lt hr hk) ?_
  rintro (rfl | e)
  ·have:=h.hr;rw[hcur] at this;cases this
  ·exact owns_ne_cells h.row hcur (by decide) e
 refine⟨⟨.inl h.fr,?_,?_,?_,?_,?_⟩,⟨h4.os,h4.tape,h4.output,h4.size,?_⟩⟩
 ·intro k hk
  rcases h3 with e | e
  ·refine .inl (h.fa k ?_)
   rw[<- e];exact hk
  ·simp only[Value.ownBlock,Option.some.injEq] at hk
   subst hk
   exact .inr (.inr ⟨e,ownsRow_lt h2 rfl⟩)
 ·rw[hl];exact h1
 ·rw[hl,obCells_snoc];exact h2
 ·rw[hl];omega
 ·intro x hx
  rcases List.mem_append.1 hx with hx | hx
  ·have:=h.obs x hx
   exact⟨this.kind,this.size,this.len,this.few,this.high0,this.high5,items this.row,fun k hk=>.inl (this.own k hk)⟩
  ·rw[List.mem_singleton.1 hx]
   exact⟨ho.kind,ho.size,ho.len,ho.few,rhighs_nonneg _ _,h5,items ho.row,fun k hk=>.inr (.inl (ho.own k hk))⟩
 ·intro k hk hnF
  refine h4.block k hk ?_
  rintro (rfl | e)
  ·exact hnF h.fr
  ·exact hnF (h.fa k e.symm)
def RPutG (ros ros':List Ob)(o:Ob)(x:Int):Prop:=
 (∃ i:Nat,findAt ros o=some i/\ros'=ros/\x=i)\/(findAt ros o=none/\400<=ros.length/\ros'=ros/\x = -1)\/
 (findAt ros o=none/\ros.length<400/\ros'=ros ++ [{ o with high:=rhighs ros o.ents }]/\x=ros.length)
def Grow (F G:Nat->Prop)(w w':World)(k:Nat):Prop:=F k\/G k\/(w.heap.size<=k/\k<w'.heap.size)
theorem rput_any {F G:Nat->Prop}{w:World}{r:Nat}{ros:List Ob}(h:RefInv F w r ros)(o:Ob)(ho:RObOk G w o)(hz:o.high=0)(h5:rhighs ros o.ents<=5)(hat:∀ e ∈ o.ents,0<=e.2.2/\e.2.2<(ros.length:Int)):
  Calls Tryz.prog 78 #[.pointer (some ⟨r,0,none⟩),oAgg o] w fun e w'=>∃ x ros',e=.returned (.int .i64 x)/\RPutG ros ros' o x/\RefInv (Grow F G w w') w' r ros'/\Keeps F w w':=by
 obtain⟨a,cap,h⟩:=h
 have inv:RefInv F w r ros:=⟨a,cap,h⟩
 cases hf:findAt ros o with
 | some i=>
  refine (put_hit r a cap ros o w h ho i hf).mono fun e w' ⟨he,hb⟩=>?_
  exact⟨_,ros,he,.inl ⟨i,hf,rfl,rfl⟩,inv.below hb (fun k hk=>.inl hk),Keeps.of_below hb⟩
 | none=>
  by_cases hn:400<=ros.length
  ·refine (put_full r a cap ros o w h ho hf hn).mono fun e w' ⟨he,hb⟩=>?_
   exact⟨_,ros,he,.inr (.inl ⟨hf,hn,rfl,rfl⟩),inv.below hb (fun k hk=>.inl hk),Keeps.of_below hb⟩
  ·refine (put_newR r a cap ros o w h ho hz hf (by omega) hat).mono fun e w' ⟨he,g,cap',h1,h2,h3,h4⟩=>?_
   have:=h.put ho h5 (by omega) h1 h2 h3 h4
   exact⟨_,_,he,.inr (.inr ⟨hf,by omega,rfl,rfl⟩),⟨_,_,this.1⟩,this.2⟩
def RFilePut (ros ros':List Ob)(d:ByteArray)(x y:Int):Prop:=
 (256<d.size/\ros'=ros/\x = -1/\y=11)\/
 (d.size<=256/\((∃ i:Nat,findAt ros (fileOb d)=some i/\ros'=ros/\x=i/\y=0)\/(findAt ros (fileOb d)=none/\400<=ros.length/\ros'=ros/\x = -1/\y=11)\/
  (findAt ros (fileOb d)=none/\ros.length<400/\ros'=ros ++ [fileOb d]/\x=ros.length/\y=0)))
theorem rputFile_any {F:Nat->Prop}{w:World}{r:Nat}{ros:List Ob}(h:RefInv F w r ros)(d:ByteArray)(hd:d.size<=maxLen):
  Calls Tryz.prog 36 #[.pointer (some ⟨r,0,none⟩),.string d] w fun e w'=>∃ x y ros',e=.returned (.tuple #[.int .i64 x,.int .i64 y])/\RFilePut ros ros' d x y/\RefInv (NewF F w w') w' r ros'/\Keeps F w w':=by
 unfold maxLen at hd
 by_cases hs:256<d.size
 ·have HI:Hid (RefInv F w r ros):=h
  clear h
  go_enter Tryz.func36,Tryz.ntmps36
  go_wp2
  go_ret2
  exact⟨_,_,ros,rfl,.inl ⟨hs,rfl,rfl,rfl⟩,HI.out.below (Below.refl _ _) (fun k hk=>.inl hk),Keeps.of_below (Below.refl _ _)⟩
 ·have ho:RObOk (fun _=>False) w (fileOb d):=⟨.inl rfl,by show d.size<=256;omega,rfl,by show 0<=16;omega,Int.le_refl _,by show (0:Int)<=5;omega,World.ownsRow_nil _ _ _ _,fun g hg=>by cases hg⟩
  have hcon:=rput_any h (fileOb d) ho rfl (by show (0:Int)<=5;omega) (fun e he=>by cases he)
  have hcon':Calls Tryz.prog 78 #[.pointer (some ⟨r,0,none⟩),.agg #[.int .i64 1,.string d,.slice none 0 0,.int .i64 0]] w fun e w'=>∃ x ros',e=.returned (.int .i64 x)/\RPutG ros ros' (fileOb d) x/\RefInv (Grow F (fun _=>False) w w') w' r ros'/\Keeps F w w':=hcon
  clear hcon h ho
  have hs':d.size<=256:=by omega
  go_enter Tryz.func36,Tryz.ntmps36
  go_wp2_with fail
  refine hcon'.mono ?_
  rintro e w' ⟨x,ros',rfl,hp,hi,hk⟩
  have HI:Hid (RefInv (NewF F w w') w' r ros'/\Keeps F w w'):=⟨hi.keep (fun k hk=>by rcases hk with h | h | h;exact .inl h;exact h.elim;exact .inr h) (fun _ _=>rfl),hk⟩
  have HP:Hid (RPutG ros ros' (fileOb d) x):=hp
  clear hcon' hi hk hp
  by_cases hx:x<0
  ·go_wp2
   go_ret2
   refine⟨_,_,ros',rfl,.inr ⟨hs',?_⟩,HI.out⟩
   rcases HP.out with ⟨i,h1,h2,h3⟩ | ⟨h1,h2,h3,h4⟩ | ⟨h1,h2,h3,h4⟩
   ·omega
   ·exact .inr (.inl ⟨h1,h2,h3,rfl,rfl⟩)
   ·omega
  ·go_wp2
   go_ret2
   refine⟨_,_,ros',rfl,.inr ⟨hs',?_⟩,HI.out⟩
   rcases HP.out with ⟨i,h1,h2,h3⟩ | ⟨h1,h2,h3,h4⟩ | ⟨h1,h2,h3,h4⟩
   ·exact .inl ⟨i,h1,h2,h3,rfl⟩
   ·omega
   ·exact .inr (.inr ⟨h1,h2,h3,h4,rfl⟩)
end Go.Proofs.YtlgidcmmgohagaaGreat
