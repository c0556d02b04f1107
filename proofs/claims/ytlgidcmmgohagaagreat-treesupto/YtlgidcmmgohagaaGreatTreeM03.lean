/- What is proved here: the oH own answer. -/
import Derived.Test.YtlgidcmmgohagaaGreatTreeM02
import Derived.StillTailTactics
namespace Go.Proofs.YtlgidcmmgohagaaGreat
open Go.RowKit Go.Sort Go.Shelf Go.Proofs.Tryz
set_option linter.unusedVariables false
set_option maxRecDepth 100000
set_option maxHeartbeats 16000000
theorem RT {t:TypeId}(P:Program)(W:World)(x y:aK)(h:(binOp .neq t (.agg #[.string x.1,.int .i64 x.2.1,.int .i64 x.2.2]) (.agg #[.string y.1,.int .i64 y.2.1,.int .i64 y.2.2])).run P W=(if x.fst.toList=y.fst.toList then
   if x.snd.fst=y.snd.fst then
    if x.snd.snd=y.snd.snd then Result.ok (Value.bool false) W else Result.ok (Value.bool true) W
   else Result.ok (Value.bool true) W
  else Result.ok (Value.bool true) W)):(binOp .neq t (.agg #[.string x.1,.int .i64 x.2.1,.int .i64 x.2.2]) (.agg #[.string y.1,.int .i64 y.2.1,.int .i64 y.2.2])).run P W=.ok (.bool (!(decide (x=y)))) W:=by
 rw[h];by_cases e:x=y
 ·subst e;simp
 ·rw[dY e]
  split
  ·next h1=>
   split
   ·next h2=>
    split
    ·next h3=>exact absurd (Prod.ext (sH h1) (Prod.ext h2 h3)) e
    ·rfl
   ·rfl
  ·rfl
theorem VV (W:World)(x y:aK):(binOp .neq 112 (.agg #[.string x.1,.int .i64 x.2.1,.int .i64 x.2.2]) (.agg #[.string y.1,.int .i64 y.2.1,.int .i64 y.2.2])).run prog W=.ok (.bool (!(decide (x=y)))) W:=by
 refine RT _ W x y ?_
 go_simp
theorem RU (W:World)(x y:aK):(binOp .neq 96 (.agg #[.string x.1,.int .i64 x.2.1,.int .i64 x.2.2]) (.agg #[.string y.1,.int .i64 y.2.1,.int .i64 y.2.2])).run prog W=.ok (.bool (!(decide (x=y)))) W:=by
 refine RT _ W x y ?_
 go_simp
theorem iZ {P:Program}{ops:Array Oper}{C:World->Prop}{Q:Act->Prop}{o:Oper}{rest:List Oper}{a:Act}(hg:o.guard=none)(ty:TypeId)(x:Operand)(h:o.op=.load ty x)(ad:Addr)(hx:a.eval x=.pointer (some ad))
  (cs:Value)(hC:∀w,C w->(loadVar ty ad).run P w=.ok cs w)(hk:wpQuiet P ops C Q rest (a.put o.dst cs)):wpQuiet P ops C Q (o :: rest) a:=by
 have hw:Region.wanted o (yielded ops a.tmps)=true:=by simp[Region.wanted,hg]
 refine wpQuiet_step fun K hK=>?_;rw[aL hw];refine⟨_,fun w hw=>?_,hK _ hk⟩;unfold Oper.quietAt execOp;simp only[h,hx,Instr.loadAt,Instr.sureAddr,Sem.run_bind,Sem.run_pure,Result.andThen_ok,hC w hw];exact⟨rfl,rfl⟩
theorem sL {P:Program}{ops:Array Oper}{C:World->Prop}{Q:Act->Prop}{o:Oper}{rest:List Oper}{a:Act}(hg:o.guard=none)(op:BinOp)(t u:TypeId)(x y:Operand)(h:o.op=.binOp op t x y u)(X Y v:Value)(hx:a.eval x=X)(hy:a.eval y=Y)
  (hG:∀w,C w->(eqGuard op t x y X Y).run P w=.ok () w)(hC:∀w,C w->(binOp op t X Y).run P w=.ok v w)(hk:wpQuiet P ops C Q rest (a.put o.dst v)):wpQuiet P ops C Q (o :: rest) a:=by
 have hw:Region.wanted o (yielded ops a.tmps)=true:=by simp[Region.wanted,hg]
 refine wpQuiet_step fun K hK=>?_;rw[aL hw];refine⟨_,fun w hw=>?_,hK _ hk⟩;unfold Oper.quietAt execOp;simp only[h,hx,hy,Sem.run_bind,Sem.run_pure,Result.andThen_ok,hG w hw,hC w hw];exact⟨rfl,rfl⟩
theorem G9 {P:Program}{t:TypeId}(hp:P.eqGuardType P.depth t=false)(op:BinOp)(W:World)(x y:Operand)(X Y:Array Value):(eqGuard op t x y (.agg X) (.agg Y)).run P W=.ok () W:=by
 have hr:(program).run P W=.ok P W:=rfl;unfold eqGuard;cases op <;> simp[Sem.run_bind,hr,Result.andThen_ok,hp,Sem.run_pure]
theorem OB (W:World)(x y:Operand)(X Y:Array Value):(eqGuard .neq 112 x y (.agg X) (.agg Y)).run prog W=.ok () W:=G9 (by kernel_rfl) _ W x y X Y
theorem ld3 (W:World)(g o:Nat)(x:aK)(c0:W.cell? ⟨g,o,none⟩=some (.string x.1))(c1:W.cell? ⟨g,o+1,none⟩=some (.int .i64 x.2.1))(c2:W.cell? ⟨g,o+2,none⟩=some (.int .i64 x.2.2)):(loadVar 112 ⟨g,o,none⟩).run prog W=.ok (.agg #[.string x.1,.int .i64 x.2.1,.int .i64 x.2.2]) W:=by
 unfold loadVar
 go_simp
structure mM (F:Nat->Prop)(w:World)(o:Ob):Prop where
 kind:o.kind=1\/o.kind=2
 size:o.data.size<=256
 len:o.aV.length=o.el
 few:o.el<=16
 He:0<=o.high
 Hf:o.high<=5
 row:w.ownsRow 0 112 3 (.slice o.ea o.el o.ec) o.el (flat o.aV)
 own:∀g,(Value.slice o.ea o.el o.ec).ownBlock=some g->F g
theorem mM.keep {F F':Nat->Prop}{w w':World}{o:Ob}(h:mM F w o)(hF:∀k,F k->F' k)(hk:∀k,F k->w'.heap[k]? = w.heap[k]?):mM F' w' o:=
 ⟨h.kind,h.size,h.len,h.few,h.He,h.Hf,ai h.row (fun g hg=>hk g (h.own g hg)),fun g hg=>hF g (h.own g hg)⟩
def nG (o1 o2:Ob):Bool:=decide (o1.kind=o2.kind) && decide (o1.data=o2.data) && decide (o1.aV=o2.aV)
def mN (o:Ob):Value:=.agg #[.int .i64 o.kind,.string o.data,.slice o.ea o.el o.ec,.int .i64 o.high]
theorem ru (w:World)(a b:Obj):Below w.heap.size w ((w.alloc a).alloc b):=((Below.refl _ _).alloc (bA _) _).alloc (by simp) _
theorem AZ (o1 o2:Ob)(w:World)(z1:o1.el<=16)(z2:o2.el<=16)
  (h:(o1.kind != o2.kind)=true\/(o1.kind != o2.kind)=false/\((o1.data.toList == o2.data.toList)=false\/(o1.data.toList == o2.data.toList)=true/\((o1.el:Int) != (o2.el:Int))=true)):
  Calls prog 200 #[mN o1,mN o2] w fun e w'=>e=.returned (.bool false)/\Below w.heap.size w w':=by
 unfold mN;rcases h with h | ⟨h0,h | ⟨h1,h⟩⟩
 all_goals
  go_enter func200,ntmps200;go_wp2;go_ret;exact⟨rfl,ru _ _ _⟩
theorem OC (k1 k2 n1 n2:Int)(d1 d2:ByteArray)(ea1 ea2:Option Addr)(c1 c2 m:Nat)(Vi Ro:List aK)(w:World)(z1:m<=16)(l1:Vi.length=m)(l2:Ro.length=m)
  (r1:w.ownsRow 0 112 3 (.slice ea1 m c1) m (flat Vi))(r2:w.ownsRow 0 112 3 (.slice ea2 m c2) m (flat Ro))
  (h0:(k1 != k2)=false)(h1:(d1.toList == d2.toList)=true):
  Calls prog 200 #[.agg #[.int .i64 k1,.string d1,.slice ea1 m c1,.int .i64 n1],.agg #[.int .i64 k2,.string d2,.slice ea2 m c2,.int .i64 n2]] w fun e w'=>e=.returned (.bool (decide (Vi=Ro)))/\Below w.heap.size w w':=by
 have h2:((m:Int) != (m:Int))=false:=by simp
 go_enter func200,ntmps200;go_wp2
 go_loopw [5] (fun i wr=>∃k:Nat,k<=m/\i=.int .i64 k/\(∃q,wr=((w.alloc (.cells #[.int .i64 k1,.string d1,.slice ea1 m c1,.int .i64 n1] 108)).alloc (.cells #[.int .i64 k2,.string d2,.slice ea2 m c2,.int .i64 n2] 108)).drewN q)/\Hid (Vi.take k=Ro.take k)) (fun i _=>m-(intOf i).toNat)
 case atStart=>exact⟨0,dG _,rfl,⟨0,rfl⟩,rfl⟩
 case round=>
  obtain⟨k,hk,rfl,⟨q,rfl⟩,HT⟩:=hrel;by_cases hlt:k<m
  ·obtain⟨g1,c1',xQ⟩:=ak r1 (by omega)
   obtain⟨g2,c2',hv2⟩:=ak r2 (by omega);obtain⟨rfl,_,_⟩:=Value.slice.inj xQ;obtain⟨rfl,_,_⟩:=Value.slice.inj hv2;have Vc:k<Vi.length:=by omega
   have XS:k<Ro.length:=by omega
   have gl1:g1<w.heap.size:=ah r1 rfl;have gl2:g2<w.heap.size:=ah r2 rfl;have iG:∀a b:Obj,Below w.heap.size w (((w.alloc a).alloc b).drewN q):=fun a b=>below_drewN (ru w a b) q;obtain⟨a0,a1,a2⟩:=bg (off:=0) (aQ r1) Vc;obtain⟨b0,b1,b2⟩:=bg (off:=0) (aQ r2) XS;rw[Nat.zero_add] at a0 a1 a2 b0 b1 b2;obtain⟨x,hx⟩:∃x,x=Vi[k]:=⟨_,rfl⟩;obtain⟨y,hy⟩:∃y,y=Ro[k]:=⟨_,rfl⟩;rw[<-hx] at a0 a1 a2;rw[<-hy] at b0 b1 b2;have p0:=fun a b:Obj=>((iG a b).cell (p:=⟨g1,k*3,none⟩) gl1).trans a0;have p1:=fun a b:Obj=>((iG a b).cell (p:=⟨g1,k*3+1,none⟩) gl1).trans a1;have p2:=fun a b:Obj=>((iG a b).cell (p:=⟨g1,k*3+2,none⟩) gl1).trans a2;have q0:=fun a b:Obj=>((iG a b).cell (p:=⟨g2,k*3,none⟩) gl2).trans b0;have q1:=fun a b:Obj=>((iG a b).cell (p:=⟨g2,k*3+1,none⟩) gl2).trans b1;have q2:=fun a b:Obj=>((iG a b).cell (p:=⟨g2,k*3+2,none⟩) gl2).trans b2;clear a0 a1 a2 b0 b1 b2;have HX:Hid (x=Vi[k]):=hx;have HY:Hid (y=Ro[k]):=hy;clear hx hy;go_wp2;refine wp_region_quiet_lit (by kernel_rfl) (by kernel_rfl) ?_
   iterate 4 quiet_step (fail)
   refine iZ rfl 112 _ rfl ⟨g1,k*3,none⟩ rfl (.agg #[.string x.1,.int .i64 x.2.1,.int .i64 x.2.2]) (by rintro _ ⟨n,rfl⟩;exact ld3 _ g1 (k*3) x (p0 _ _) (p1 _ _) (p2 _ _)) ?_
   go_frame
   iterate 4 quiet_step (fail)
   refine iZ rfl 112 _ rfl ⟨g2,k*3,none⟩ rfl (.agg #[.string y.1,.int .i64 y.2.1,.int .i64 y.2.2]) (by rintro _ ⟨n,rfl⟩;exact ld3 _ g2 (k*3) y (q0 _ _) (q1 _ _) (q2 _ _)) ?_
   go_frame
   refine sL rfl .neq 112 112 _ _ rfl (.agg #[.string x.1,.int .i64 x.2.1,.int .i64 x.2.2]) (.agg #[.string y.1,.int .i64 y.2.1,.int .i64 y.2.2]) (.bool (!(decide (x=y)))) rfl rfl (by rintro _ ⟨n,rfl⟩;exact OB _ _ _ _ _) (by rintro _ ⟨n,rfl⟩;exact VV _ x y) ?_
   go_frame
   refine wpQuiet_nil ?_;rintro _ ⟨nq,rfl⟩;by_cases Ap:x=y
   ·have HD:Hid (x=y):=Ap
    rw[decide_eq_true Ap];clear Ap;go_wp2;go_roundw
    case rel=>
     refine⟨k+1,by omega,by go_num,⟨q+nq,rfl⟩,?_⟩;show _=_;rw[qX Vc,qX XS,HT.out,<-HX.out,<-HY.out,HD.out]
    case measure=>simp[intOf];omega
   ·have HD:Hid (Vi≠Ro):=fun h=>Ap (by rw[HX.out,HY.out];simp only[h])
    rw[dY Ap];clear Ap;go_wp2;go_ret;exact⟨by rw[dY HD.out];rfl,below_drewN (below_drewN (ru _ _ _) q) nq⟩
  ·have uP:k=m:=by omega
   have HD:Hid (Vi=Ro):=by
    have:=HT.out
    rwa [uP,List.take_of_length_le (by omega),List.take_of_length_le (by omega)] at this
   go_wp2;go_ret;exact⟨by rw[decide_eq_true HD.out];rfl,below_drewN (ru _ _ _) q⟩
theorem RV {F G:Nat->Prop}(o1 o2:Ob)(w:World)(h1:mM F w o1)(h2:mM G w o2):
  Calls prog 200 #[mN o1,mN o2] w fun e w'=>e=.returned (.bool (nG o1 o2))/\Below w.heap.size w w':=by
 by_cases hk:o1.kind=o2.kind
 ·by_cases hd:o1.data=o2.data
  ·by_cases hl:o1.el=o2.el
   ·have:=OC o1.kind o2.kind o1.high o2.high o1.data o2.data o1.ea o2.ea o1.ec o2.ec o1.el o1.aV o2.aV w h1.few h1.len (by rw[h2.len,hl]) h1.row (by have:=h2.row;rwa [<-hl] at this) (by rw[hk];simp) (by rw[hd];simp)
    have e:nG o1 o2=decide (o1.aV=o2.aV):=by unfold nG;simp[hk,hd]
    rw[e];unfold mN;rw[<-hl];exact this
   ·have e:nG o1 o2=false:=by
     have:o1.aV≠o2.aV:=fun h=>hl (by rw[<-h1.len,<-h2.len,h])
     unfold nG;simp[this]
    rw[e];exact AZ o1 o2 w h1.few h2.few (.inr ⟨by rw[hk];simp,.inr ⟨by rw[hd];simp,by simp;omega⟩⟩)
  ·have e:nG o1 o2=false:=by unfold nG;simp[hd]
   rw[e];exact AZ o1 o2 w h1.few h2.few (.inr ⟨by rw[hk];simp,.inl (by simp;exact fun h=>hd (sH h))⟩)
 ·have e:nG o1 o2=false:=by unfold nG;simp[hk]
  rw[e];exact AZ o1 o2 w h1.few h2.few (.inl (by simpa using hk))
structure jT (F:Nat->Prop)(w:World)(r:Nat)(a:Option Addr)(cap:Nat)(au:List Ob):Prop where
 fr:F r
 fa:∀g,(Value.slice a au.length cap).ownBlock=some g->F g
 hr:w.heap[r]? = some (.cells #[.slice a au.length cap] 94 (0,0))
 row:w.ownsRow 0 108 4 (.slice a au.length cap) au.length (dV au)
 many:au.length<=400
 zZ:∀o ∈ au,mM F w o
theorem jT.keep {F F':Nat->Prop}{w w':World}{r:Nat}{a:Option Addr}{cap:Nat}{au:List Ob}(h:jT F w r a cap au)(hF:∀k,F k->F' k)(hk:∀k,F k->w'.heap[k]? = w.heap[k]?):jT F' w' r a cap au:=
 ⟨hF _ h.fr,fun g hg=>hF g (h.fa g hg),(hk r h.fr).trans h.hr,ai h.row (fun g hg=>hk g (h.fa g hg)),h.many,fun o ho=>(h.zZ o ho).keep hF hk⟩
theorem jT.lt {F:Nat->Prop}{w:World}{r:Nat}{a:Option Addr}{cap:Nat}{au:List Ob}(h:jT F w r a cap au):r<w.heap.size:=(Array.getElem?_eq_some_iff.1 h.hr).1
theorem jT.c0 {F:Nat->Prop}{w:World}{r:Nat}{a:Option Addr}{cap:Nat}{au:List Ob}(h:jT F w r a cap au):w.cell? ⟨r,0,none⟩=some (.slice a au.length cap):=by simp[World.cell?,h.hr]
theorem jT.f0 {F:Nat->Prop}{w:World}{r:Nat}{a:Option Addr}{cap:Nat}{au:List Ob}(h:jT F w r a cap au):w.frozen? ⟨r,0,none⟩=false:=by simp[World.frozen?,h.hr]
theorem mM.below {F:Nat->Prop}{w w':World}{o:Ob}(h:mM F w o)(hb:Below w.heap.size w w'):mM F w' o:=
 ⟨h.kind,h.size,h.len,h.few,h.He,h.Hf,ai h.row (fun g hg=>hb.block g (ah h.row hg)),h.own⟩
theorem jT.below {F:Nat->Prop}{w w':World}{r:Nat}{a:Option Addr}{cap:Nat}{au:List Ob}(h:jT F w r a cap au)(hb:Below w.heap.size w w'):jT F w' r a cap au:=
 ⟨h.fr,h.fa,(hb.block r h.lt).trans h.hr,ai h.row (fun g hg=>hb.block g (ah h.row hg)),h.many,fun o ho=>(h.zZ o ho).below hb⟩
theorem j0 {w:World}{t:TypeId}{a:Option Addr}{n cap:Nat}{au:List Ob}(h:w.ownsRow 0 t 4 (.slice a n cap) n (dV au))(hl:au.length=n){i:Nat}(hi:i<au.length):
  ∃g,a=some ⟨g,0,none⟩/\g<w.heap.size/\w.cell? ⟨g,i*4,none⟩=some (.int .i64 au[i].kind)/\w.cell? ⟨g,i*4+1,none⟩=some (.string au[i].data)/\
   w.cell? ⟨g,i*4+2,none⟩=some (.slice au[i].ea au[i].el au[i].ec)/\w.cell? ⟨g,i*4+3,none⟩=some (.int .i64 au[i].high):=by
 have hn:i<n:=by rw[<-hl];exact hi
 rcases h.2 with ⟨_,h0⟩ | ⟨g,cap',cur,hv,_,hg,_,_,zX,ht⟩
 ·omega
 ·cases hv
  have key:∀j u,j<4->(au[i].cells)[j]? = some u->w.cell? ⟨g,i*4+j,none⟩=some u:=by
   intro j u hj hu;rw[<-sI au i j hi hj,<-ht,List.getElem?_take_of_lt (by omega),Array.getElem?_toList] at hu;simp[World.cell?,hg,hu]
  exact⟨g,rfl,(Array.getElem?_eq_some_iff.1 hg).1,key 0 _ (by omega) rfl,key 1 _ (by omega) rfl,key 2 _ (by omega) rfl,key 3 _ (by omega) rfl⟩
theorem sj {P:Program}{ops:Array Oper}{w:World}{Q:Act->Prop}{o:Oper}{rest:List Oper}{a:Act}(hg:o.guard=none)(ty:TypeId)(x:Operand)(h:o.op=.load ty x)(ad:Addr)(hx:a.eval x=.pointer (some ad))
  (cs:Value)(hrun:(loadVar ty ad).run P w=.ok cs w)(hk:wpStill P ops w Q rest (a.put o.dst cs)):wpStill P ops w Q (o :: rest) a:=by
 have hw:Region.wanted o (yielded ops a.tmps)=true:=by simp[Region.wanted,hg]
 refine wpStill_step fun K hK=>?_;rw[aL hw];unfold Oper.still execOp;simp only[h,hx,Instr.loadAt,Instr.sureAddr,Sem.run_bind,Sem.run_pure,Result.andThen_ok,hrun];exact⟨rfl,hK _ hk⟩
theorem ld4 (W:World)(g o:Nat)(x:Ob)(c0:W.cell? ⟨g,o,none⟩=some (.int .i64 x.kind))(c1:W.cell? ⟨g,o+1,none⟩=some (.string x.data))(c2:W.cell? ⟨g,o+2,none⟩=some (.slice x.ea x.el x.ec))(c3:W.cell? ⟨g,o+3,none⟩=some (.int .i64 x.high)):
  (loadVar 108 ⟨g,o,none⟩).run prog W=.ok (mN x) W:=by
 unfold loadVar mN
 go_simp
def findAt (au:List Ob)(o:Ob):Option Nat:=au.findIdx? fun x=>nG x o
def Fc (p:Option Nat):Int:=match p with | some i=>i | none=>-1
theorem yh {F G:Nat->Prop}(r:Nat)(a:Option Addr)(cap:Nat)(au:List Ob)(o:Ob)(w:World)(h:jT F w r a cap au)(ho:mM G w o):
  Calls prog 149 #[.pointer (some ⟨r,0,none⟩),mN o] w fun e w'=>e=.returned (.int .i64 (Fc (findAt au o)))/\Below w.heap.size w w':=by
 unfold mN;obtain⟨n,hn⟩:∃n,n=au.length:=⟨_,rfl⟩;have abU:n<=400:=by rw[hn];exact h.many
 have HN:Hid (n=au.length):=hn;clear hn;obtain⟨B,hB⟩:∃B:Obj,B=.cells #[.int .i64 o.kind,.string o.data,.slice o.ea o.el o.ec,.int .i64 o.high] 108:=⟨_,rfl⟩;go_enter func149,ntmps149;go_wp2;rw[<-hB]
 go_loopw [5] (fun i wr=>∃k:Nat,k<=n/\i=.int .i64 k/\Below (w.alloc B).heap.size (w.alloc B) wr/\Hid (∀j (hj:j<au.length),j<k->nG au[j] o=false)) (fun i _=>n-(intOf i).toNat)
 case atStart=>exact⟨0,dG _,rfl,Below.refl _ _,fun j hj h=>by omega⟩
 case round=>
  obtain⟨k,hk,rfl,hb,HV⟩:=hrel;have iG:Below w.heap.size w wr:=((Below.refl _ _).alloc (bA _) B).trans (hb.mono (by simp));have hc0:=(h.below iG).c0;rw[<-HN.out] at hc0;by_cases hlt:k<n
  ·have dy:k<au.length:=by rw[<-HN.out];exact hlt
   obtain⟨g,xR,fo,c0,c1,c2,c3⟩:=j0 (h.below iG).row rfl dy;rw[xR] at hc0;have bx:∀j,j<4->wr.cell? ⟨w.heap.size,j,none⟩=(mN o).cells[j]?:=by
    intro j hj;rw[hb.cell (p:=⟨w.heap.size,j,none⟩) (by simp)];subst hB
    match j,hj with
    | 0,_=>simp[mN,Value.cells]
    | 1,_=>simp[mN,Value.cells]
    | 2,_=>simp[mN,Value.cells]
    | 3,_=>simp[mN,Value.cells]
   have wm:=ld4 wr g (k*4) au[k] c0 c1 c2 c3;have hl2:=ld4 wr w.heap.size 0 o (bx 0 (by omega)) (bx 1 (by omega)) (bx 2 (by omega)) (bx 3 (by omega));have HL1:Hid ((loadVar 108 ⟨g,k*4,none⟩).run prog wr.drew=.ok (mN au[k]) wr.drew):=ld4 wr.drew g (k*4) au[k] c0 c1 c2 c3;have HL2:Hid ((loadVar 108 ⟨w.heap.size,0,none⟩).run prog wr.drew=.ok (mN o) wr.drew):=ld4 wr.drew w.heap.size 0 o (bx 0 (by omega)) (bx 1 (by omega)) (bx 2 (by omega)) (bx 3 (by omega));clear c0 c1 c2 c3 bx wm hl2;have za:=RV au[k] o wr.drew ((h.below (below_drewN iG 1)).zZ _ (jk dy)) (ho.below (below_drewN iG 1));go_wp2;refine wp_region_still_tail 8 (by kernel_rfl) (by kernel_rfl) ?_;simp only[List.take_succ_cons,List.take_zero,List.drop_succ_cons,List.drop_zero]
   iterate 6 still_step
   refine sj rfl 108 _ rfl ⟨g,k*4,none⟩ rfl (mN au[k]) HL1.out ?_
   go_frame
   refine sj rfl 108 _ rfl ⟨w.heap.size,0,none⟩ rfl (mN o) HL2.out ?_
   go_frame
   refine wpStill_nil ?_;cases XU:nG au[k] o with
   | true=>
    have HS:Hid (nG au[k] o=true):=XU;rw[XU] at za;clear XU;go_wp2_with fail;refine za.mono ?_;rintro e w1 ⟨rfl,hb1⟩;go_wp2;go_ret;refine⟨?_,iG.trans ((below_drewN (Below.refl wr.heap.size wr) 1).trans hb1 |>.mono iG.size)⟩;have e:findAt au o=some k:=List.findIdx?_eq_some_iff_getElem.2 ⟨dy,HS.out,fun j hj=>by have:=HV.out j (by omega) hj;simp[this]⟩;rw[e];rfl
   | false=>
    have HS:Hid (nG au[k] o=false):=XU;rw[XU] at za;clear XU;go_wp2_with fail;refine za.mono ?_;rintro e w1 ⟨rfl,hb1⟩;go_wp2;go_roundw
    case rel=>
     refine⟨k+1,by omega,by go_num,hb.trans ((below_drewN (Below.refl wr.heap.size wr) 1).trans hb1 |>.mono hb.size),?_⟩;intro j hj hjk;by_cases e:j=k
     ·subst e;exact HS.out
     ·exact HV.out j hj (by omega)
    case measure=>simp[intOf];omega
  ·go_wp2
   go_ret;refine⟨?_,iG⟩;have e:findAt au o=none:=List.findIdx?_eq_none_iff.2 fun x hx=>by
    obtain⟨j,hj,rfl⟩:=List.getElem_of_mem hx;exact HV.out j hj (by rw[<-HN.out] at hj;omega)
   rw[e];rfl
def ze (au:List Ob)(e:aK):Int:=((au[e.2.2.toNat]?).map (·.high)).getD 0
def dH (au:List Ob)(es:List aK):Int:=es.foldl (fun h e=>max h (1+ze au e)) 0
theorem zf (au:List Ob)(es:List aK)(e:aK):dH au (es ++ [e])=max (dH au es) (1+ze au e):=by
 simp only[dH,List.foldl_append,List.foldl_cons,List.foldl_nil]
theorem VW:(prog.info? 108).map (fun i=>(i.zero,i.size,i.bytes))=some (some (.agg #[.int .i64 0,.string ByteArray.empty,.slice none 0 0,.int .i64 0]),4,56):=by kernel_rfl
theorem VX {F G:Nat->Prop}(r:Nat)(a:Option Addr)(cap:Nat)(au:List Ob)(o:Ob)(w:World)(h:jT F w r a cap au)(ho:mM G w o)(i:Nat)(hf:findAt au o=some i):
  Calls prog 78 #[.pointer (some ⟨r,0,none⟩),mN o] w fun e w'=>e=.returned (.int .i64 i)/\Below w.heap.size w w':=by
 have b1:∀B,Below w.heap.size w (w.alloc B):=fun B=>(Below.refl _ _).alloc (bA _) _;have cV:=fun B:Obj=>yh r a cap au o (w.alloc B) (h.below (b1 B)) (ho.below (b1 B));rw[hf] at cV;have hi0:decide ((0:Int)<=(i:Int))=true:=by simp
 unfold mN at cV ⊢;unfold Fc at cV;have vr:∀B:Obj,Calls prog 149 #[.pointer (some ⟨r,0,none⟩),.agg #[.int .i64 o.kind,.string o.data,.slice o.ea o.el o.ec,.int .i64 o.high]] (w.alloc B) fun e w'=>e=.returned (.int .i64 i)/\Below (w.alloc B).heap.size (w.alloc B) w':=cV
 clear cV;go_enter func78,ntmps78;go_wp2_with fail;refine (vr _).mono ?_;rintro e w1 ⟨rfl,hb1⟩;go_wp2;go_ret;exact⟨rfl,(b1 _).trans (hb1.mono (by simp))⟩
theorem RX {F G:Nat->Prop}(r:Nat)(a:Option Addr)(cap:Nat)(au:List Ob)(o:Ob)(w:World)(h:jT F w r a cap au)(ho:mM G w o)(hf:findAt au o=none)(hn:400<=au.length):
  Calls prog 78 #[.pointer (some ⟨r,0,none⟩),mN o] w fun e w'=>e=.returned (.int .i64 (-1))/\Below w.heap.size w w':=by
 have b1:∀B,Below w.heap.size w (w.alloc B):=fun B=>(Below.refl _ _).alloc (bA _) _;have cV:=fun B:Obj=>yh r a cap au o (w.alloc B) (h.below (b1 B)) (ho.below (b1 B));rw[hf] at cV;unfold mN at cV ⊢;have vr:∀B:Obj,Calls prog 149 #[.pointer (some ⟨r,0,none⟩),.agg #[.int .i64 o.kind,.string o.data,.slice o.ea o.el o.ec,.int .i64 o.high]] (w.alloc B) fun e w'=>e=.returned (.int .i64 (-1))/\Below (w.alloc B).heap.size (w.alloc B) w':=cV;clear cV;go_enter func78,ntmps78;go_wp2_with fail;refine (vr _).mono ?_;rintro e w1 ⟨rfl,hb1⟩;have iG:=(b1 _).trans (hb1.mono (by simp));have hc0:=(h.below iG).c0;go_wp2;go_ret;exact⟨rfl,iG⟩
def kV (W:World)(b:Nat)(k:Int)(d:ByteArray)(ea:Option Addr)(el ec:Nat)(hi:Int):Prop:=W.heap[b]? = some (.cells #[.int .i64 k,.string d,.slice ea el ec,.int .i64 hi] 108 (0,0))
theorem kV.parts {W:World}{b:Nat}{k:Int}{d:ByteArray}{ea:Option Addr}{el ec:Nat}{hi:Int}(h:kV W b k d ea el ec hi):W.cell? ⟨b,2,none⟩=some (.slice ea el ec)/\W.cell? ⟨b,3,none⟩=some (.int .i64 hi)/\W.frozen? ⟨b,3,none⟩=false:=by
 unfold kV at h;refine⟨?_,?_,?_⟩ <;> simp[World.cell?,World.frozen?,h]
theorem kV.Y1 {W:World}{b:Nat}{k:Int}{d:ByteArray}{ea:Option Addr}{el ec:Nat}{hi:Int}(h:kV W b k d ea el ec hi):W.cell? ⟨b,0,none⟩=some (.int .i64 k)/\W.cell? ⟨b,1,none⟩=some (.string d):=by
 unfold kV at h;refine⟨?_,?_⟩ <;> simp[World.cell?,h]
theorem Fe {w w1:World}{o1:Obj}{r:Option Nat}(hg:(w.alloc o1).drew.grownBy w1 r){p:Nat}(hp:p<w.heap.size)(hr:some p≠r){v:Value}{i:Nat}(h:w.cell? ⟨p,i,none⟩=some v):w1.cell? ⟨p,i,none⟩=some v:=by
 rw[World.cell?_of_block (a:=⟨p,i,none⟩) (hg.block p (by simp;omega) hr)];show (w.alloc o1).cell? ⟨p,i,none⟩=_;rw[World.cell?_alloc_past _ _ _ hp,h]
theorem A7 {w w1:World}{o1:Obj}{r:Option Nat}(hg:(w.alloc o1).drew.grownBy w1 r){p:Nat}(hp:p<w.heap.size)(hr:some p≠r){i:Nat}(h:w.frozen? ⟨p,i,none⟩=false):w1.frozen? ⟨p,i,none⟩=false:=by
 rw[World.frozen?_of_block (a:=⟨p,i,none⟩) (hg.block p (by simp;omega) hr)];show (w.alloc o1).frozen? ⟨p,i,none⟩=_;rw[World.frozen?_alloc_past _ _ _ hp,h]
theorem kV.high {W:World}{b:Nat}{k:Int}{d:ByteArray}{ea:Option Addr}{el ec:Nat}{hi:Int}(h:kV W b k d ea el ec hi)(x:Int):kV (W.setCell ⟨b,3,none⟩ (.int .i64 x)) b k d ea el ec x:=by
 unfold kV at h ⊢;simp[World.setCell,Array.getElem?_modify,h]
theorem ry {F:Nat->Prop}{w w':World}(h:ax F w w')(q:Nat):ax F w (w'.drewN q):=⟨h.os,h.tape,h.output,h.size,h.block⟩
theorem OD {w w':World}{b i:Nat}{v:Value}(h:ax (fun k=>k=b) w w'):ax (fun k=>k=b) w (w'.setCell ⟨b,i,none⟩ v):=
 ⟨h.os,h.tape,h.output,by simpa using h.size,fun k hk hne=>by rw[Below.heap_setCell _ _ _ _ hne];exact h.block k hk hne⟩
theorem OE {F:Nat->Prop}{w wr w2:World}{r:Nat}{a:Option Addr}{cap:Nat}{au:List Ob}{o1:Obj}{g cap':Nat}{news:List Value}(h:jT F w r a cap au)(kb:∀q,q<w.heap.size->wr.heap[q]? = w.heap[q]?)(OG:w.heap.size<wr.heap.size)
  (hq:wr.os=w.os/\wr.tape=w.tape/\wr.output=w.output)(kP:some r≠(Value.slice a au.length cap).ownBlock)(hown:w2.ownsRow 0 108 4 (.slice (some ⟨g,0,none⟩) (au.length+1) cap') (au.length+1) (dV au++news))
  (hg:(wr.alloc o1).drew.grownBy w2 (Value.slice a au.length cap).ownBlock)(hloc:(Value.slice (some ⟨g,0,none⟩) (au.length+1) cap').ownBlock=(Value.slice a au.length cap).ownBlock\/(Value.slice (some ⟨g,0,none⟩) (au.length+1) cap').ownBlock=some (wr.alloc o1).drew.heap.size):
  (w2.setCell ⟨r,0,none⟩ (.slice (some ⟨g,0,none⟩) (au.length+1) cap')).heap[r]? = some (.cells #[.slice (some ⟨g,0,none⟩) (au.length+1) cap'] 94 (0,0))/\(w2.setCell ⟨r,0,none⟩ (.slice (some ⟨g,0,none⟩) (au.length+1) cap')).ownsRow 0 108 4 (.slice (some ⟨g,0,none⟩) (au.length+1) cap') (au.length+1) (dV au++news)/\
    ((some g:Option Nat)=(Value.slice a au.length cap).ownBlock\/w.heap.size<=g)/\ax (fun k=>k=r\/some k=(Value.slice a au.length cap).ownBlock) w (w2.setCell ⟨r,0,none⟩ (.slice (some ⟨g,0,none⟩) (au.length+1) cap')):=by
 have jo:∀k,k<w.heap.size->some k≠(Value.slice a au.length cap).ownBlock->w2.heap[k]? = w.heap[k]?:=by
  intro k hk hne;rw[hg.block k (by simp;omega) hne];show (wr.alloc o1).heap[k]? = _;rw[Below.heap_alloc _ _ _ (by omega),kb k hk]
 have hw2:w2.heap[r]? = some (.cells #[.slice a au.length cap] 94 (0,0)):=by rw[jo r h.lt kP,h.hr]
 have hgr:g≠r:=by
  rintro rfl;rcases hloc with h1 | h1
  ·exact kP h1
  ·have:=h.lt;simp[Value.ownBlock] at h1;omega
 have hs:=hg.size;simp at hs;refine⟨?_,?_,?_,⟨hg.os.trans hq.1,hg.tape.trans hq.2.1,hg.output.trans hq.2.2,by simp;omega,?_⟩⟩
 ·simp[World.setCell,Array.getElem?_modify,hw2]
 ·obtain⟨h1,h2⟩:=hown
  refine⟨h1,?_⟩;rcases h2 with ⟨h,_⟩ | ⟨g0,abK,cur,hv,hb,hh,r⟩
  ·cases h
  ·cases hv
   exact Or.inr ⟨g,cap',cur,rfl,hb,by rw[Below.heap_setCell _ _ _ _ hgr];exact hh,r⟩
 ·rcases hloc with h | h
  ·exact Or.inl h
  ·simp[Value.ownBlock] at h;exact Or.inr (by omega)
 ·intro k hk hne
  rw[Below.heap_setCell _ _ _ _ (fun e=>hne (.inl e)),jo k hk (fun e=>hne (.inr e))]
theorem RY {F G:Nat->Prop}(r:Nat)(a:Option Addr)(cap:Nat)(au:List Ob)(o:Ob)(w:World)(h:jT F w r a cap au)(ho:mM G w o)(hz:o.high=0)(hf:findAt au o=none)(hn:au.length<400)
  (hat:∀e ∈ o.aV,0<=e.2.2/\e.2.2<(au.length:Int)):
  Calls prog 78 #[.pointer (some ⟨r,0,none⟩),mN o] w fun e w'=>e=.returned (.int .i64 au.length)/\
   ∃g cap',w'.heap[r]? = some (.cells #[.slice (some ⟨g,0,none⟩) (au.length+1) cap'] 94 (0,0))/\w'.ownsRow 0 108 4 (.slice (some ⟨g,0,none⟩) (au.length+1) cap') (au.length+1) (dV au++Ob.cells { o with high:=dH au o.aV })/\
    ((some g:Option Nat)=(Value.slice a au.length cap).ownBlock\/w.heap.size<=g)/\ax (fun k=>k=r\/some k=(Value.slice a au.length cap).ownBlock) w w':=by
 obtain⟨i0,hi,hz0,hz1,hz2⟩:=info_parts VW;have b1:∀B,Below w.heap.size w (w.alloc B):=fun B=>(Below.refl _ _).alloc (bA _) _;have cV:=fun B:Obj=>yh r a cap au o (w.alloc B) (h.below (b1 B)) (ho.below (b1 B));rw[hf] at cV;unfold mN at cV ⊢;have vr:∀B:Obj,Calls prog 149 #[.pointer (some ⟨r,0,none⟩),.agg #[.int .i64 o.kind,.string o.data,.slice o.ea o.el o.ec,.int .i64 o.high]] (w.alloc B) fun e w'=>e=.returned (.int .i64 (-1))/\Below (w.alloc B).heap.size (w.alloc B) w':=cV;clear cV;have HH:Hid (∀x ∈ au,0<=x.high/\x.high<=5):=fun x hx=>⟨(h.zZ x hx).He,(h.zZ x hx).Hf⟩;have HA:Hid (∀e ∈ o.aV,0<=e.2.2/\e.2.2<(au.length:Int)):=hat;have RF:o.el<=16:=ho.few;have HL:Hid (o.aV.length=o.el):=ho.len;clear hat;rw[hz] at vr ⊢;go_enter func78,ntmps78;go_wp2_with fail;refine (vr _).mono ?_;rintro e w1 ⟨rfl,hb1⟩;have iG:=(b1 _).trans (hb1.mono (by simp));have hc0:=(h.below iG).c0;have uS:r<w.heap.size:=h.lt;have z6:Hid (kV w1 w.heap.size o.kind o.data o.ea o.el o.ec 0):=by
  show w1.heap[w.heap.size]? = _;rw[hb1.block _ (by simp)];exact heap_alloc_new _ _
 have hs1:w.heap.size<w1.heap.size:=by have:=hb1.size;simp at this;omega
 clear vr;go_wp2
 go_loopw [6] (fun i wr=>∃k:Nat,k<=o.el/\i=.int .i64 k/\Hid (ax (fun k=>k=w.heap.size) w1 wr)/\Hid (kV wr w.heap.size o.kind o.data o.ea o.el o.ec (dH au (o.aV.take k)))/\0<=dH au (o.aV.take k)/\dH au (o.aV.take k)<=6) (fun i _=>o.el-(intOf i).toNat)
 case atStart=>exact⟨0,dG _,rfl,⟨rfl,rfl,rfl,bA _,fun _ _ _=>rfl⟩,z6,by show (0:Int)<=0;omega,by show (0:Int)<=6;omega⟩
 case round=>
  obtain⟨k,hk,rfl,HK,HB,hh0,hh6⟩:=hrel;have kb:∀q,q<w.heap.size->wr.heap[q]? = w.heap[q]?:=fun q hq=>(HK.out.block q (by omega) (by omega)).trans (iG.block q hq);have OG:w.heap.size<wr.heap.size:=cv hs1 HK.out.size;have hcr:wr.cell? ⟨r,0,none⟩=some (.slice a au.length cap):=(World.cell?_of_block (a:=⟨r,0,none⟩) (kb r uS)).trans h.c0;obtain⟨q2,q3,fz⟩:=HB.out.parts;by_cases hlt:k<o.el
  ·have dy:k<o.aV.length:=by rw[HL.out];exact hlt
   have hrow:=ho.row;obtain⟨gi,ci,Hg⟩:=ak hrow (by omega);have nu:=(Value.slice.inj Hg).1;rw[nu] at hrow q2;clear nu Hg;have Kz:gi<w.heap.size:=ah hrow rfl;obtain⟨_,_,e2⟩:=bg (off:=0) (aQ hrow) dy;rw[Nat.zero_add] at e2;obtain⟨ha0,ha1⟩:=HA.out _ (jk dy);obtain⟨j,hj⟩:∃j:Nat,o.aV[k].2.2=(j:Int):=⟨o.aV[k].2.2.toNat,by omega⟩;have lU:j<au.length:=by omega
   rw[hj] at e2;have e2':=(World.cell?_of_block (a:=⟨gi,k*3+2,none⟩) (kb gi Kz)).trans e2;obtain⟨g,xR,fo,_,_,_,c3⟩:=j0 h.row rfl lU;rw[xR] at hcr;clear xR;have c3':=(World.cell?_of_block (a:=⟨g,j*4+3,none⟩) (kb g fo)).trans c3;obtain⟨hj0,RB⟩:=HH.out au[j] (jk lU);have HS:Hid (dH au (o.aV.take (k+1))=max (dH au (o.aV.take k)) (1+au[j].high)):=by
    show _=_;rw[qX dy,zf];unfold ze;rw[hj,Int.toNat_natCast,kO lU];rfl
   obtain⟨H,hH⟩:∃H,H=dH au (o.aV.take k):=⟨_,rfl⟩;rw[<-hH] at hh0 hh6 q3;have Y2:Hid (H=dH au (o.aV.take k)):=hH;clear c3 e2 hH hj ha0 ha1;by_cases iX:H<1+au[j].high
   ·go_wp2
    go_quiet (fail)
    go_wp2;go_roundw
    case rel=>
     refine⟨k+1,by omega,by go_num,OD (ry HK.out nq),?_,by rw[HS.out,<-Y2.out];omega,by rw[HS.out,<-Y2.out];omega⟩;rw[HS.out,<-Y2.out,Int.max_eq_right (by omega)];exact kV.high (W:=wr.drewN nq) HB.out _
    case measure=>simp[intOf];omega
   ·go_wp2
    go_quiet (fail)
    go_wp2;go_roundw
    case rel=>
     refine⟨k+1,by omega,by go_num,ry HK.out nq,?_,by rw[HS.out,<-Y2.out];omega,by rw[HS.out,<-Y2.out];omega⟩;rw[HS.out,<-Y2.out,Int.max_eq_left (by omega),Y2.out];exact HB.out
    case measure=>simp[intOf];omega
  ·have j4:k=o.el:=by omega
   have HT:Hid (o.aV.take k=o.aV):=List.take_of_length_le (by rw[HL.out];omega);rw[HT.out] at q3;have zg:Hid (kV wr w.heap.size o.kind o.data o.ea o.el o.ec (dH au o.aV)):=by have:=HB.out;rwa [HT.out] at this
   obtain⟨q0,q1⟩:=zg.out.Y1;obtain⟨H,hH⟩:∃H,H=dH au o.aV:=⟨_,rfl⟩;rw[<-hH] at q3 zg;have HH3:Hid (H=dH au o.aV):=hH;clear hh0 hh6 hH HB;have HO:Hid (wr.ownsRow 0 108 4 (.slice a au.length cap) au.length (dV au)):=ai h.row (fun g hg=>kb g (ah h.row hg));have HP:Hid (some r≠(Value.slice a au.length cap).ownBlock):=aA h.row h.hr (by decide);have H1:Hid (∀u ∈ [Value.int .i64 o.kind,.string o.data,.slice o.ea o.el o.ec,.int .i64 H],u.oneCell'=true):=by intro u hu;simp at hu;rcases hu with rfl | rfl | rfl | rfl <;> rfl
   have xS:wr.frozen? ⟨r,0,none⟩=false:=(World.frozen?_of_block (a:=⟨r,0,none⟩) (kb r uS)).trans h.f0;have abY:r<wr.heap.size:=by omega
   go_wp2
   go_region_law (refine eO rfl (.tmp 51) (.tmp 53) 92 rfl 0 108 i0 _ 4 56 underlying92 hi hz0 hz1 hz2 rfl (by decide) (.slice a au.length cap) au.length (dV au) (by simp[Act.eval]) (HO.out.alloc _) ⟨wr.heap.size,0,none⟩ 1 1 [.int .i64 o.kind,.string o.data,.slice o.ea o.el o.ec,.int .i64 H] (by simp[Act.eval]) rfl (Rl wr (.int .i64 o.kind) (.string o.data) (.slice o.ea o.el o.ec) (.int .i64 H) 108) H1.out (by unfold maxLen;omega) (by omega) (dG _) ?_;intro v' w2 hown' hgrow hloc;obtain⟨g,cap',rfl⟩:=ak hown' (by omega);have Vc:=Fe hgrow abY HP.out hcr;have XS:=A7 hgrow abY HP.out xS)
   all_goals
    have HF:Hid _:=OE h kb OG ⟨HK.out.os.trans iG.os,HK.out.tape.trans iG.tape,HK.out.output.trans iG.output⟩ HP.out hown' hgrow hloc;clear hown' hgrow hloc;go_wp2;go_ret;rw[HH3.out] at HF;exact⟨by simp,g,cap',HF.out⟩
theorem iK {w:World}{base:Nat}{e:TypeId}{size n:Nat}{v:Value}{xs:List Value}(h:w.ownsRow base e size v n xs){g:Nat}(hg:v.ownBlock=some g):∃cur,w.heap[g]? = some (.cells cur e (0,0)):=by
 rcases h.2 with ⟨rfl,_⟩ | ⟨g',cap,cur,rfl,_,hh,_⟩
 ·simp[Value.ownBlock] at hg
 ·simp[Value.ownBlock] at hg;subst hg;exact⟨cur,hh⟩
def bS (F:Nat->Prop)(w:World)(r:Nat)(au:List Ob):Prop:=∃a cap,jT F w r a cap au
theorem bS.keep {F F':Nat->Prop}{w w':World}{r:Nat}{au:List Ob}(h:bS F w r au)(hF:∀k,F k->F' k)(hk:∀k,F k->w'.heap[k]? = w.heap[k]?):bS F' w' r au:=by
 obtain⟨a,cap,h⟩:=h;exact⟨a,cap,h.keep hF hk⟩
theorem bS.below {F F':Nat->Prop}{w w':World}{r:Nat}{au:List Ob}(h:bS F w r au)(hb:Below w.heap.size w w')(hF:∀k,F k->F' k):bS F' w' r au:=by
 obtain⟨a,cap,h⟩:=h;have h':=h.below hb;exact⟨a,cap,h'.keep hF (fun _ _=>rfl)⟩
theorem foldl_max (f:aK->Int):∀(es:List aK) (h:Int),h<=es.foldl (fun h e=>max h (f e)) h
 | [],_=>Int.le_refl _
 | e :: r,h=>Int.le_trans (Int.le_max_left _ _) (foldl_max f r _)
theorem CR (au:List Ob)(es:List aK):0<=dH au es:=foldl_max (fun e=>1+ze au e) es 0
theorem jT.put {F G:Nat->Prop}{w w':World}{r:Nat}{a:Option Addr}{cap:Nat}{au:List Ob}{o:Ob}(h:jT F w r a cap au)(ho:mM G w o)(h5:dH au o.aV<=5)(hn:au.length<400){g cap':Nat}
  (h1:w'.heap[r]? = some (.cells #[.slice (some ⟨g,0,none⟩) (au.length+1) cap'] 94 (0,0)))(h2:w'.ownsRow 0 108 4 (.slice (some ⟨g,0,none⟩) (au.length+1) cap') (au.length+1) (dV au++Ob.cells { o with high:=dH au o.aV }))
  (h3:(some g:Option Nat)=(Value.slice a au.length cap).ownBlock\/w.heap.size<=g)(h4:ax (fun k=>k=r\/some k=(Value.slice a au.length cap).ownBlock) w w'):
  jT (fun k=>F k\/G k\/(w.heap.size<=k/\k<w'.heap.size)) w' r (some ⟨g,0,none⟩) cap' (au ++ [{ o with high:=dH au o.aV }])/\ax F w w':=by
 have hl:(au ++ [{ o with high:=dH au o.aV }]).length=au.length+1:=by simp
 have items:∀{v:Value} {n:Nat} {xs:List Value},w.ownsRow 0 112 3 v n xs->w'.ownsRow 0 112 3 v n xs:=by
  intro v n xs hr;refine ai hr fun k hk=>?_
  obtain⟨cur,zX⟩:=iK hr hk;refine h4.block k (ah hr hk) ?_;rintro (rfl | e)
  ·have:=h.hr;rw[zX] at this;cases this
  ·exact aA h.row zX (by decide) e
 refine⟨⟨.inl h.fr,?_,?_,?_,?_,?_⟩,⟨h4.os,h4.tape,h4.output,h4.size,?_⟩⟩
 ·intro k hk
  rcases h3 with e | e
  ·refine .inl (h.fa k ?_)
   rw[<-e];exact hk
  ·simp only[Value.ownBlock,Option.some.injEq] at hk
   subst hk;exact .inr (.inr ⟨e,ah h2 rfl⟩)
 ·rw[hl];exact h1
 ·rw[hl,wD];exact h2
 ·rw[hl];omega
 ·intro x hx
  rcases List.mem_append.1 hx with hx | hx
  ·have:=h.zZ x hx
   exact⟨this.kind,this.size,this.len,this.few,this.He,this.Hf,items this.row,fun k hk=>.inl (this.own k hk)⟩
  ·rw[List.mem_singleton.1 hx]
   exact⟨ho.kind,ho.size,ho.len,ho.few,CR _ _,h5,items ho.row,fun k hk=>.inr (.inl (ho.own k hk))⟩
 ·intro k hk RP
  refine h4.block k hk ?_;rintro (rfl | e)
  ·exact RP h.fr
  ·exact RP (h.fa k e.symm)
def A8 (au bC:List Ob)(o:Ob)(x:Int):Prop:=
 (∃i:Nat,findAt au o=some i/\bC=au/\x=i)\/(findAt au o=none/\400<=au.length/\bC=au/\x = -1)\/
 (findAt au o=none/\au.length<400/\bC=au ++ [{ o with high:=dH au o.aV }]/\x=au.length)
def Grow (F G:Nat->Prop)(w w':World)(k:Nat):Prop:=F k\/G k\/(w.heap.size<=k/\k<w'.heap.size)
theorem Hh {F G:Nat->Prop}{w:World}{r:Nat}{au:List Ob}(h:bS F w r au)(o:Ob)(ho:mM G w o)(hz:o.high=0)(h5:dH au o.aV<=5)(hat:∀e ∈ o.aV,0<=e.2.2/\e.2.2<(au.length:Int)):
  Calls prog 78 #[.pointer (some ⟨r,0,none⟩),mN o] w fun e w'=>∃x bC,e=.returned (.int .i64 x)/\A8 au bC o x/\bS (Grow F G w w') w' r bC/\ax F w w':=by
 obtain⟨a,cap,h⟩:=h;have inv:bS F w r au:=⟨a,cap,h⟩;cases hf:findAt au o with
 | some i=>
  refine (VX r a cap au o w h ho i hf).mono fun e w' ⟨he,hb⟩=>?_;exact⟨_,au,he,.inl ⟨i,hf,rfl,rfl⟩,inv.below hb (fun k hk=>.inl hk),ax.aM hb⟩
 | none=>
  by_cases hn:400<=au.length
  ·refine (RX r a cap au o w h ho hf hn).mono fun e w' ⟨he,hb⟩=>?_
   exact⟨_,au,he,.inr (.inl ⟨hf,hn,rfl,rfl⟩),inv.below hb (fun k hk=>.inl hk),ax.aM hb⟩
  ·refine (RY r a cap au o w h ho hz hf (by omega) hat).mono fun e w' ⟨he,g,cap',h1,h2,h3,h4⟩=>?_
   have:=h.put ho h5 (by omega) h1 h2 h3 h4
   exact⟨_,_,he,.inr (.inr ⟨hf,by omega,rfl,rfl⟩),⟨_,_,this.1⟩,this.2⟩
def wH (au bC:List Ob)(d:ByteArray)(x y:Int):Prop:=
 (256<d.size/\bC=au/\x = -1/\y=11)\/
 (d.size<=256/\((∃i:Nat,findAt au (eP d)=some i/\bC=au/\x=i/\y=0)\/(findAt au (eP d)=none/\400<=au.length/\bC=au/\x = -1/\y=11)\/
  (findAt au (eP d)=none/\au.length<400/\bC=au ++ [eP d]/\x=au.length/\y=0)))
theorem wI {F:Nat->Prop}{w:World}{r:Nat}{au:List Ob}(h:bS F w r au)(d:ByteArray)(hd:d.size<=maxLen):
  Calls prog 36 #[.pointer (some ⟨r,0,none⟩),.string d] w fun e w'=>∃x y bC,e=.returned (.tuple #[.int .i64 x,.int .i64 y])/\wH au bC d x y/\bS (bq F w w') w' r bC/\ax F w w':=by
 unfold maxLen at hd;by_cases hs:256<d.size
 ·have HI:Hid (bS F w r au):=h
  clear h;go_enter func36,ntmps36;go_wp2;go_ret2;exact⟨_,_,au,rfl,.inl ⟨hs,rfl,rfl,rfl⟩,HI.out.below (Below.refl _ _) (fun k hk=>.inl hk),ax.aM (Below.refl _ _)⟩
 ·have ho:mM (fun _=>False) w (eP d):=⟨.inl rfl,by show d.size<=256;omega,rfl,by show 0<=16;omega,Int.le_refl _,by show (0:Int)<=5;omega,World.ownsRow_nil _ _ _ _,fun g hg=>by cases hg⟩
  have hcon:=Hh h (eP d) ho rfl (by show (0:Int)<=5;omega) (fun e he=>by cases he);have uT:Calls prog 78 #[.pointer (some ⟨r,0,none⟩),.agg #[.int .i64 1,.string d,.slice none 0 0,.int .i64 0]] w fun e w'=>∃x bC,e=.returned (.int .i64 x)/\A8 au bC (eP d) x/\bS (Grow F (fun _=>False) w w') w' r bC/\ax F w w':=hcon;clear hcon h ho;have sw:d.size<=256:=by omega
  go_enter func36,ntmps36;go_wp2_with fail;refine uT.mono ?_;rintro e w' ⟨x,bC,rfl,hp,hi,hk⟩;have HI:Hid (bS (bq F w w') w' r bC/\ax F w w'):=⟨hi.keep (fun k hk=>by rcases hk with h | h | h;exact .inl h;exact h.elim;exact .inr h) (fun _ _=>rfl),hk⟩;have HP:Hid (A8 au bC (eP d) x):=hp;clear uT hi hk hp;by_cases hx:x<0
  ·go_wp2
   go_ret2;refine⟨_,_,bC,rfl,.inr ⟨sw,?_⟩,HI.out⟩;rcases HP.out with ⟨i,h1,h2,h3⟩ | ⟨h1,h2,h3,h4⟩ | ⟨h1,h2,h3,h4⟩
   ·omega
   ·exact .inr (.inl ⟨h1,h2,h3,rfl,rfl⟩)
   ·omega
  ·go_wp2
   go_ret2;refine⟨_,_,bC,rfl,.inr ⟨sw,?_⟩,HI.out⟩;rcases HP.out with ⟨i,h1,h2,h3⟩ | ⟨h1,h2,h3,h4⟩ | ⟨h1,h2,h3,h4⟩
   ·exact .inl ⟨i,h1,h2,h3,rfl⟩
   ·omega
   ·exact .inr (.inr ⟨h1,h2,h3,h4,rfl⟩)
end Go.Proofs.YtlgidcmmgohagaaGreat
