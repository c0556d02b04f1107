/- What is proved here: the Uz functions over no list at all. -/
import Derived.Test.YtlgidcmmgohagaaGreatFileM01
import Derived.Shelf.SlSortCmp.NoneTotal
import Derived.Deep.QuietTactic
import Derived.BigQuiet
import Derived.OwnWalk
import Derived.StillTailTactics
namespace Go.Proofs.YtlgidcmmgohagaaGreat
open Go.RowKit Go.Sort Go.Shelf Go.Proofs.Tryz
set_option linter.unusedVariables false
set_option maxRecDepth 100000
set_option maxHeartbeats 16000000
variable {l:List UInt8}{base bd bf bm cap j k n p r s size:Nat}{ei ip ep:List Ob}{D Dd Df:DataW Unit}{ops:Array Oper}{F F' G:Nat->Prop}{c:UInt8}{w w':World}{e t:fL}{C:World->Prop}{Q:Act->Prop}{v:Value}{es out:List eD}{rest:List Oper}{o:Ob}{a:e5}{xs:fE}
variable {ft:fQ}
theorem xU{P:Program}(w:World)(c sT g b:fL)(size:Nat)(d a:e5)(e h f j:Nat)(hu:P.underlying c=some (.slice b))(hs:(P.info? b).map (·.size)=some size)(hn:Nat.min f e=0):
  (Builtin.copy_ #[c,sT] g #[.slice d e h,.slice a f j]).run P w=.ok (goInt 0) w:=by
 cases hq:P.info? b with
 |none=>simp[hq]at hs
 |some i=>
  have hl:∀(x:Addr),(loadCells x 0).run P w=.ok #[] w:=fun x=>by simpa using run_loadCells_list (P:=P) w x [] (by simp)
  cases d<;>cases a<;>simp[Builtin.copy_,M7 hu,Builtin.lenOf,Builtin.firstCells,sizeOf,typeInfo,hq,hn,storeCells,hl]
theorem tq{P:Program}{o:Oper}{a:Act}{Q:Exit->Act->World->Prop}(l:o.guard=none)(d s:Operand)(b sT:fL)
  (ho:o.op=.call { callee:=.builtin .copy,args:=#[d,s],argTypes:=#[b,sT] })(c:fL)(hu:P.underlying b=some (.slice c))(size:Nat)(m:(P.info? c).map (·.size)=some size)
  (g i:e5)(e j f k:Nat)(hd:a.eval d=.slice g e j)(hs:a.eval s=.slice i f k)(hn:Nat.min f e=0)
  (h:wpList P ops Q rest (a.put o.dst (goInt 0)) w):wpList P ops Q (o::rest) a w:=by
 refine Ki l fun K n=>?_;have p:=xU (P:=P) w b sT o.type c size g i e j f k hu m hn;unfold Oper.wp;simp[execOp,ho,resolve,invoke,builtin,hd,hs,p,Result.andThen];exact n _ _ h
theorem QJ(p:Nat)(a:e5)(n cap bf bd:Nat)(ei:List Ob)(j:Nat)(hj:j<ei.length)(w:World)(h:fV ft w p a n cap bf bd ei)(hk:ei[j].kind=2)
  (d:ei[j].ea=none)(f:ei[j].el=0)(g:ei[j].ec=0):
  eK 85 #[fj p,ed ((j:Int)+1)] w fun e w'=>∃b,e=.returned (.tuple #[.slice (some (eb b 0)) 0 0,ed 0])/\w'.ownsRow w.heap.size 96 3 (.slice (some (eb b 0)) 0 0) 0 (flat [])/\gS w w':=by
 have i:=nI p a n cap bf bd ei ((j:Int)+1) w h;rw[o0 hj,hk]at i;have k:=fun(W:World) (hW:gS w W)=>NA p a n cap bf bd ei j hj W (h.below hW);rw[d,f,g]at k;have f2:=TK;obtain⟨q,hi,r,s,t⟩:=H4 uU;clear d f g hk;go_enter func85,ntmps85;go_wp2_with(first
  |(go_at_call 61;refine i.mono ?_;rintro e F ⟨rfl,c⟩)
  |(go_at_call 113;refine(k _ c).mono ?_;rintro e l ⟨rfl,u⟩)
  |(at_make;refine M9 _ rfl _ _ 55 rfl 0 96 q _ 3 underlying55 hi r s .i64 .i64 _ _ 0 rfl rfl rfl rfl ?_ ?_ (oY _) ?_;go_must(rw[t];omega);go_must(unfold maxLen;omega);intro w3 m v;have o:=c.trans (u.mono c.size);have x:=jW o v;have y:Hid _:=m;clear m)
  |(refine tq rfl (.tmp 19) (.tmp 20) 55 55 rfl 96 underlying55 3 B8 _ none 0 0 0 0 rfl rfl rfl ?_))
 go_ret2;have z:=o.size;refine⟨l.heap.size,rfl,⟨rfl,?_⟩,x.out⟩;rcases y.out.2 with⟨h0,_⟩|⟨b,G,A,hv,_,B,C,D,E,_⟩
 ·cases h0
 ·cases hv;exact .inr ⟨l.heap.size,0,A,rfl,z,B,C,D,E,by simp[flat]⟩
variable {ft:fQ}
def fileAt (ei:List Ob)(d:eu):Option Nat:=ei.findIdx? fun o=>decide (o.kind=1)&&decide (o.data=d)
def kJ (ei:List Ob)(es:List eD):Option Nat:=ei.findIdx? fun o=>decide (o.kind=2)&&decide (o.eG=es)
def mM (ei:List Ob)(D:DataW Unit):Prop:=∀d:eu,Maps.has D (.string d.data.toList)=(fileAt ei d).isSome/\∀i,fileAt ei d=some i->D.atKey (.string d.data.toList) (.lit (.int .i64 0))=.lit (.int .i64 ((i:Int)+1))
def DI (es:List eD):Prop:=es.length<=16/\∀e∈es,Fits e/\1<=e.1.size
def pX (ei:List Ob)(D:DataW Unit):Prop:=∀es:List eD,DI es->Maps.has D (yv prog es)=(kJ ei es).isSome/\∀i,kJ ei es=some i->D.atKey (yv prog es) (.lit (.int .i64 0))=.lit (.int .i64 ((i:Int)+1))
def sq (d:eu):Ob:={ kind:=1,data:=d,ea:=none,el:=0,ec:=0,eG:=[],high:=0 }
def NI (g m c:Nat)(es:List eD)(h:Int):Ob:={ kind:=2,data:=ByteArray.empty,ea:=some ⟨g,0,none⟩,el:=m,ec:=c,eG:=es,high:=h }
def Ky (w:World)(F:Nat->Prop)(o:Ob):Prop:=
 (o.kind=1/\o.high=0/\o.data.size<=256)\/
 (o.kind=2/\o.eG.length=o.el/\DI o.eG/\yr o.eG/\0<=o.high/\o.high<=5/\(∀g,(Value.slice o.ea o.el o.ec).ownBlock=some g->F g)/\w.ownsRow 0 96 3 (.slice o.ea o.el o.ec) o.el (flat o.eG))
structure nJ (ft:fQ)(F:Nat->Prop)(w:World)(s p:Nat)(a:e5)(cap bf bd:Nat)(Df Dd:DataW Unit)(ei:List Ob):Prop where
 fs:F s
 fp:F p
 ff:F bf
 fd:F bd
 fr:∀g,(Value.slice a ei.length cap).ownBlock=some g->F g
 hs:w.heap[s]?=some (.cells #[.pointer (some ⟨p,0,none⟩)] 119 (0,0))
 fZ:fV ft w p a ei.length cap bf bd ei
 ne:bf≠bd
 files:w.ownsMap prog 9 (plainElem prog 29) bf ei.length Df
 qO:mM ei Df
 xV:w.ownsMap prog 208 (plainElem prog 29) bd ei.length Dd
 u5:pX ei Dd
 xe:∀o∈ei,Ky w F o
def Inv (ft:fQ)(F:Nat->Prop)(w:World)(s:Nat)(ei:List Ob):Prop:=∃p a cap bf bd Df Dd,nJ ft F w s p a cap bf bd Df Dd ei
def jt (ft:fQ)(F:Nat->Prop)(w:World)(s p:Nat)(ei:List Ob):Prop:=∃a cap bf bd Df Dd,nJ ft F w s p a cap bf bd Df Dd ei
theorem jt.inv(h:jt ft F w s p ei):Inv ft F w s ei:=⟨p,h⟩
structure en (F:Nat->Prop)(w w':World):Prop where
 os:w'.os=w.os
 tape:w'.tape=w.tape
 output:w'.output=w.output
 size:w.heap.size<=w'.heap.size
 block:∀k,k<w.heap.size->¬F k->w'.heap[k]?=w.heap[k]?
def ie (F:Nat->Prop)(w w':World)(k:Nat):Prop:=F k\/(w.heap.size<=k/\k<w'.heap.size)
theorem en.ew(h:gS w w'):en F w w':=⟨h.os,h.tape,h.output,h.size,fun k hk _=>h.block k hk⟩
theorem Ky.mono(h:Ky w F o)(hF:∀k,k<w.heap.size->F k->F' k)(hk:∀v m xs,w.ownsRow 0 96 3 v m xs->w'.ownsRow 0 96 3 v m xs):Ky w' F' o:=by
 rcases h with h|⟨h1,h2,h3,b,c,h6,h8,a⟩
 ·exact .inl h
 ·exact .inr ⟨h1,h2,h3,b,c,h6,fun g hg=>hF g (ee a hg) (h8 g hg),hk _ _ _ a⟩
theorem jt.keep(h:jt ft F w s p ei)(hk:∀k,k<w.heap.size->F k->w'.heap[k]?=w.heap[k]?)(hF:∀k,k<w.heap.size->F k->F' k):jt ft F' w' s p ei:=by
 obtain⟨a,cap,bf,bd,Df,Dd,i⟩:=h;have b:s<w.heap.size:=(lF.1 i.hs).1;have c:∀v m t k xs,w.ownsRow 0 t k v m xs->(∀g,v.ownBlock=some g->F g)->w'.ownsRow 0 t k v m xs:=fun v m t k xs hr e=>eh hr (fun g hg=>hk g (ee hr hg) (e g hg));refine⟨a,cap,bf,bd,Df,Dd,⟨hF _ b i.fs,hF _ i.fZ.at_.lt i.fp,hF _ i.files.lt i.ff,hF _ i.xV.lt i.fd,fun g hg=>hF g (ee i.fZ.row hg) (i.fr g hg),(hk s b i.fs).trans i.hs,⟨?_,c _ _ _ _ _ i.fZ.row i.fr,i.fZ.len,i.fZ.many⟩,i.ne,
  pk i.files (hk _ i.files.lt i.ff),i.qO,pk i.xV (hk _ i.xV.lt i.fd),i.u5,fun o ho=>?_⟩⟩
 ·have:=i.fZ.at_
  unfold eW at this ⊢;rw[hk p i.fZ.at_.lt i.fp];exact this
 ·rcases i.xe o ho with h|⟨h1,h2,h3,f,j,h6,h8,d⟩
  ·exact .inl h
  ·exact .inr ⟨h1,h2,h3,f,j,h6,fun g hg=>hF g (ee d hg) (h8 g hg),c _ _ _ _ _ d h8⟩
theorem jt.below(h:jt ft F w s p ei)(a:gS w w')(hF:∀k,k<w.heap.size->F k->F' k):jt ft F' w' s p ei:=h.keep (fun k hk _=>a.block k hk) hF
theorem pY(ei:List Ob)(o:Ob)(d:eu):fileAt (ei++[o]) d=(fileAt ei d).or (if o.kind=1/\o.data=d then some ei.length else none):=by
 unfold fileAt;rw[List.findIdx?_append]
 congr 1
 by_cases h:o.kind=1/\o.data=d
 ·simp[Gj,h]
 ·rw[eJ h]
  have:(decide (o.kind=1)&&decide (o.data=d))=false:=by
   rw[<-Bool.decide_and];exact m6 h
  simp only[Gj,this];simp
theorem r8(ei:List Ob)(o:Ob)(es:List eD):kJ (ei++[o]) es=(kJ ei es).or (if o.kind=2/\o.eG=es then some ei.length else none):=by
 unfold kJ;rw[List.findIdx?_append]
 congr 1
 by_cases h:o.kind=2/\o.eG=es
 ·simp[Gj,h]
 ·rw[eJ h]
  have:(decide (o.kind=2)&&decide (o.eG=es))=false:=by
   rw[<-Bool.decide_and];exact m6 h
  simp only[Gj,this];simp
theorem bytes_inj{a b:eu}(h:a.data.toList=b.data.toList):a=b:=by
 cases a;cases b
 congr 1
 exact Qm.1 h
theorem mM.put(h:mM ei D)(hD:Maps.IsMap D)(d:eu)(hd:fileAt ei d=none):mM (ei++[sq d]) (D.put (.string d.data.toList) (.lit (.int .i64 ((ei.length:Int)+1)))):=by
 intro a;rw[pY];by_cases e:d=a
 ·subst e
  rw[hd,fY ⟨rfl,rfl⟩];refine⟨?_,?_⟩
  ·rw[Maps.has_put_same hD (show WideAt.IsKeyLit (.string d.data.toList)from trivial)];rfl
  ·intro i hi
   simp only[Option.none_or,kE]at hi;subst hi;exact Maps.atKey_put_same hD (show WideAt.IsKeyLit (.string d.data.toList)from trivial) _ _
 ·have hne:(Lit.string a.data.toList)≠.string d.data.toList:=fun h=>e (bytes_inj (by simpa using h.symm))
  rw[eJ (fun h=>e h.2),Option.or_none];refine⟨?_,?_⟩
  ·rw[Maps.has_put_other hne];exact(h a).1
  ·intro i hi
   rw[Maps.atKey_put_other hne];exact(h a).2 i hi
theorem mM.other(h:mM ei D)(ho:o.kind≠1):mM (ei++[o]) D:=by
 intro a;rw[pY,eJ (fun h=>ho h.1),Option.or_none];exact h a
theorem pX.put(h:pX ei D)(hD:Maps.IsMap D)(hn:DI es)(hd:kJ ei es=none)(hk:o.kind=2)(a:o.eG=es):
  pX (ei++[o]) (D.put (yv prog es) (.lit (.int .i64 ((ei.length:Int)+1)))):=by
 intro es' b;have c:=ku es hn.1 (fun e a=>(hn.2 e a).1);have kl:WideAt.IsKeyLit (yv prog es):=Jj.key c;rw[r8,a];by_cases e:es=es'
 ·subst e
  rw[hd,fY ⟨hk,rfl⟩];refine⟨?_,?_⟩
  ·rw[Maps.has_put_same hD kl];rfl
  ·intro i hi
   simp only[Option.none_or,kE]at hi;subst hi;exact Maps.atKey_put_same hD kl _ _
 ·have hne:yv prog es'≠yv prog es:=fun h=>e (Gz hn.1 b.1 (fun e a=>(hn.2 e a).1) (fun e a=>(b.2 e a).1) (fun e a=>(hn.2 e a).2) (fun e a=>(b.2 e a).2) h.symm)
  rw[eJ (fun h=>e h.2),Option.or_none];refine⟨?_,?_⟩
  ·rw[Maps.has_put_other hne];exact(h es' b).1
  ·intro i hi
   rw[Maps.atKey_put_other hne];exact(h es' b).2 i hi
theorem pX.other(h:pX ei D)(ho:o.kind≠2):pX (ei++[o]) D:=by
 intro es' a;rw[r8,eJ (fun h=>ho h.1),Option.or_none];exact h es' a
theorem tu(ei:List Ob)(o:Ob):fB (ei++[o])=fB ei++o.cells:=by simp[fB]
theorem uZ.other{k:fL}{cells:fE}(h:uZ ft w w' p a n cap bf bd bm k cells D)(hp:fV ft w p a n cap bf bd ei)
  {P:Program}{c:fL}{R:Value->Option (DataW Unit×List MemPlace)}{b m:Nat}{d:DataW Unit}(hm:w.ownsMap P c R b m d)(hne:b≠bm):w'.ownsMap P c R b m d:=by
 obtain⟨i,j,_,_,_,_,f⟩:=h;obtain⟨es,l,e⟩:=pd hm;have g:b≠p:=by rintro rfl;have:=hp.at_;unfold eW at this;rw[e]at this;cases this
 exact pk hm (f.block b hm.lt g hne (pu hp.row e))
theorem nJ.grow{Df Dd c d:DataW Unit}(i:nJ ft F w s p a cap bf bd Df Dd ei){k:fL}
  (hg:uZ ft w w' p a ei.length cap bf bd bm k (fB ei++o.cells) D)(hn:ei.length<400)(hF:F bm){j:Array MapEntry}{l:Nat}(hm:w.heap[bm]?=some (.map j l))(ho:Ky w' (ie F w w') o)
  (hf:w'.ownsMap prog 9 (plainElem prog 29) bf (ei.length+1) c)(n:mM (ei++[o]) c)
  (hd:w'.ownsMap prog 208 (plainElem prog 29) bd (ei.length+1) d)(q:pX (ei++[o]) d):
  jt ft (ie F w w') w' s p (ei++[o])/\en F w w':=by
 have r:=hg;obtain⟨t,u,h1,h2,h3,E,b⟩:=hg;have y:s<w.heap.size:=(lF.1 i.hs).1;have z:s≠p:=kI i.hs i.fZ.at_ (by decide);have A:s≠bm:=by rintro rfl;have:=i.hs;rw[hm]at this;cases this
 have B:=eI i.fZ.row i.hs (by decide);have hl:(ei++[o]).length=ei.length+1:=by simp
 refine⟨⟨some (eb t 0),u,bf,bd,c,d,⟨.inl i.fs,.inl i.fp,.inl i.ff,.inl i.fd,?_,?_,⟨?_,?_,?_,?_⟩,i.ne,?_,n,?_,q,?_⟩⟩,⟨b.os,b.tape,b.output,b.size,?_⟩⟩
 ·intro g f
  rcases h3 with h|h
  ·refine .inl (i.fr g ?_)
   rw[<-h];exact f
  ·simp only[Value.ownBlock,kE]at f
   subst f;exact .inr ⟨h,ee h2 rfl⟩
 ·rw[b.block s y z A B];exact i.hs
 ·rw[hl];exact h1
 ·rw[hl,tu];exact h2
 ·rfl
 ·rw[hl];omega
 ·rw[hl];exact hf
 ·rw[hl];exact hd
 ·intro x hx
  rcases pR.1 hx with h|h
  ·exact(i.xe x h).mono (fun k hk C=>.inl C) (fun v m xs hr=>r.keeps i.fZ hm hr (by decide) (by decide))
  ·rw[kH.1 h];exact ho
 ·intro k hk NJ
  refine b.block k hk (fun e=>NJ (e▸i.fp)) (fun e=>NJ (e▸hF)) (fun e=>NJ (i.fr k e.symm))
theorem nJ.c0(i:nJ ft F w s p a cap bf bd Df Dd ei):w.cell? (eb s 0)=some (fj p):=by simp[World.cell?,i.hs]
def gL (ei ip:List Ob)(d:eu)(e:Ending):Prop:=
 (256<d.size/\ip=ei/\e=.returned (.tuple #[.int .i64 0,.int .i64 11]))\/
 (d.size<=256/\ip=ei/\∃i,fileAt ei d=some i/\e=.returned (.tuple #[.int .i64 ((i:Int)+1),.int .i64 0]))\/
 (d.size<=256/\fileAt ei d=none/\400<=ei.length/\ip=ei/\e=.returned (.tuple #[.int .i64 0,.int .i64 11]))\/
 (d.size<=256/\fileAt ei d=none/\ei.length<400/\ip=ei++[sq d]/\e=.returned (.tuple #[.int .i64 ((ei.length:Int)+1),.int .i64 0]))
theorem gL.shape{d:eu}{e:Ending}(h:gL ei ip d e):∃x y,e=.returned (.tuple #[ed x,ed y]):=by
 rcases h with⟨_,_,h⟩|⟨_,_,_,_,h⟩|⟨_,_,_,_,h⟩|⟨_,_,_,_,h⟩<;>exact⟨_,_,h⟩
theorem NK(i:nJ ft F w s p a cap bf bd Df Dd ei)(d:eu)(hd:d.size<=maxLen):
  eK 77 #[fj p,.string d] w fun e w'=>∃ip,gL ei ip d e/\jt ft (ie F w w') w' s p ip/\en F w w':=by
 have inv:jt ft F w s p ei:=⟨a,cap,bf,bd,Df,Dd,i⟩;have same:∀w',gS w w'->jt ft (ie F w w') w' s p ei/\en F w w':=fun w' f=>⟨inv.below f (fun k _ h=>.inl h),en.ew f⟩;by_cases hs:d.size<=256
 ·cases hf:fileAt ei d with
  |some j=>
   obtain⟨c,n⟩:=i.qO d;rw[hf]at c;refine(Dy p a ei.length cap bf bd Df d ((j:Int)+1) w i.fZ.at_ hs i.files c (n j hf)).mono fun e w' ⟨b,hw⟩=>?_;subst hw;exact⟨ei,.inr (.inl ⟨hs,rfl,j,hf,b⟩),same _ (i7 _ _)⟩
  |none=>
   obtain⟨c,_⟩:=i.qO d;rw[hf]at c;by_cases hn:400<=ei.length
   ·refine(B5 p a ei.length cap bf bd Df d w i.fZ.at_ hs hn i.files c).mono fun e w' ⟨b,f⟩=>?_
    exact⟨ei,.inr (.inr (.inl ⟨hs,hf,hn,rfl,b⟩)),same _ f⟩
   ·have g:ei.length<400:=by omega
    refine(Dz p a ei.length cap bf bd (fB ei) Df d w i.fZ.at_ hs g i.fZ.row i.files c).mono fun e w' ⟨b,l⟩=>?_;have m:uZ ft w w' p a ei.length cap bf bd bf 9 (fB ei++(sq d).cells) (Df.put (.string d.data.toList) (.lit (.int .i64 ((ei.length:Int)+1)))):=l;obtain⟨q,r,o⟩:=pd i.files;obtain⟨_,_,_,_,_,TA,_⟩:=l;exact⟨_,.inr (.inr (.inr ⟨hs,hf,g,rfl,b⟩)),i.grow m g i.ff o (.inl ⟨rfl,rfl,hs⟩) TA (i.qO.put i.files.isMap d hf)
     ((m.other i.fZ i.xV i.ne.symm).mono (Hk _)) (i.u5.other (show(1:Int)≠2 by decide))⟩
 ·refine(Dx p d w (by omega) hd).mono fun e w' ⟨b,hw⟩=>?_
  subst hw;exact⟨ei,.inl ⟨by omega,rfl,b⟩,same _ (i7 _ _)⟩
def gf (ei ip:List Ob)(es:List eD)(e:Ending):Prop:=
 ((∃x∈es,ez x.1=false)/\ip=ei/\e=.returned (.tuple #[.int .i64 0,.int .i64 1]))\/
 ((∀x∈es,ez x.1=true)/\
  ((¬(es.map (·.1)).Nodup/\ip=ei/\e=.returned (.tuple #[.int .i64 0,.int .i64 6]))\/
   ((es.map (·.1)).Nodup/\16<es.length/\ip=ei/\e=.returned (.tuple #[.int .i64 0,.int .i64 11]))\/
   ((es.map (·.1)).Nodup/\es.length<=16/\(∃x∈es,tA ei x=false)/\ip=ei/\e=.returned (.tuple #[.int .i64 0,.int .i64 13]))\/
   ((es.map (·.1)).Nodup/\es.length<=16/\(∀x∈es,tA ei x=true)/\∃es',es'.Perm es/\yr es'/\DI es'/\
    ((5<fe ei es'/\ip=ei/\e=.returned (.tuple #[.int .i64 0,.int .i64 11]))\/
    (fe ei es'<=5/\ip=ei/\∃i,kJ ei es'=some i/\e=.returned (.tuple #[.int .i64 ((i:Int)+1),.int .i64 0]))\/
    (fe ei es'<=5/\kJ ei es'=none/\400<=ei.length/\ip=ei/\e=.returned (.tuple #[.int .i64 0,.int .i64 11]))\/
    (fe ei es'<=5/\kJ ei es'=none/\ei.length<400/\(∃o:Ob,o.kind=2/\o.eG=es'/\o.high=fe ei es'/\ip=ei++[o])/\e=.returned (.tuple #[.int .i64 ((ei.length:Int)+1),.int .i64 0]))))))
theorem gf.shape{e:Ending}(h:gf ei ip es e):∃x y,e=.returned (.tuple #[ed x,ed y]):=by
 rcases h with⟨_,_,h⟩|⟨_,⟨_,_,h⟩|⟨_,_,_,h⟩|⟨_,_,_,_,h⟩|⟨_,_,_,_,_,_,_,⟨_,_,h⟩|⟨_,_,_,_,h⟩|⟨_,_,_,_,h⟩|⟨_,_,_,_,h⟩⟩⟩<;>exact⟨_,_,h⟩
theorem nJ.fe(i:nJ ft F w s p a cap bf bd Df Dd ei):∀o∈ei,0<=o.high/\o.high<=5:=by
 intro o ho;rcases i.xe o ho with⟨_,h,_⟩|⟨_,_,_,_,b,h6,_⟩
 ·rw[h];decide
 ·exact⟨b,h6⟩
theorem nJ.kinds(i:nJ ft F w s p a cap bf bd Df Dd ei):∀o∈ei,o.kind=1\/o.kind=2:=by
 intro o ho;rcases i.xe o ho with⟨h,_⟩|⟨h,_⟩
 ·exact .inl h
 ·exact .inr h
theorem QK(i:nJ ft F w s p a cap bf bd Df Dd ei)(b off m c0:Nat)(es:List eD)
  (hl:es.length=m)(K:b<w.heap.size)(L:m*32<=140737488355328)(hc:∀j G,(flat es)[j]?=some G->w.cell? (eb b (off+j))=some G)(M:∀e∈es,e.1.size<=maxLen):
  eK 60 #[fj p,.slice (some (eb b off)) m c0] w fun e w'=>∃ip,gf ei ip es e/\jt ft (ie F w w') w' s p ip/\en F w w':=by
 have inv:jt ft F w s p ei:=⟨a,cap,bf,bd,Df,Dd,i⟩;have same:∀w',gS w w'->jt ft (ie F w w') w' s p ei/\en F w w':=fun w' f=>⟨inv.below f (fun k _ h=>.inl h),en.ew f⟩;have H:∀es',es'.Perm es->(∀x∈es,ez x.1=true)->(∀x∈es,tA ei x=true)->es.length<=16->DI es':=fun es' l hv hg NE=>
  ⟨by rw[l.length_eq];exact NE,fun e d=>⟨Jm i.kinds i.fZ.many (hv e (l.mem_iff.1 d)) (hg e (l.mem_iff.1 d)),(p2 (hv e (l.mem_iff.1 d))).1⟩⟩
 refine(GC p b off m c0 a ei.length cap bf bd ei Dd es w i.fZ i.xV hl K L hc M i.fe i.kinds).mono fun e w' hD=>?_;rcases hD with⟨f,⟨n,d⟩|⟨n,⟨o,d⟩|⟨o,q,d⟩|⟨o,q,hD,d⟩|⟨o,q,hD,es',l,y,B⟩⟩⟩|⟨n,o,q,hD,hn,es',l,y,B,N,z,d,g,E,C,I⟩
 ·exact⟨ei,.inl ⟨n,rfl,d⟩,same _ f⟩
 ·exact⟨ei,.inr ⟨n,.inl ⟨o,rfl,d⟩⟩,same _ f⟩
 ·exact⟨ei,.inr ⟨n,.inr (.inl ⟨o,q,rfl,d⟩)⟩,same _ f⟩
 ·exact⟨ei,.inr ⟨n,.inr (.inr (.inl ⟨o,q,hD,rfl,d⟩))⟩,same _ f⟩
 ·have t:=H es' l n hD q
  obtain⟨u,O⟩:=i.u5 es' t;rcases B with⟨A,d⟩|⟨A,z,c,P,d⟩|⟨A,z,hn,d⟩
  ·exact⟨ei,.inr ⟨n,.inr (.inr (.inr ⟨o,q,hD,es',l,y,t,.inl ⟨A,rfl,d⟩⟩))⟩,same _ f⟩
  ·rw[z]at u
   cases v:kJ ei es' with
   |none=>rw[v]at u;cases u
   |some j=>
    have hc:=(O j v).symm.trans P;have Q:c=(j:Int)+1:=by simpa using hc.symm
    subst Q;exact⟨ei,.inr ⟨n,.inr (.inr (.inr ⟨o,q,hD,es',l,y,t,.inr (.inl ⟨A,rfl,j,v,d⟩)⟩))⟩,same _ f⟩
  ·rw[z]at u
   have v:kJ ei es'=none:=by simpa using u.symm
   exact⟨ei,.inr ⟨n,.inr (.inr (.inr ⟨o,q,hD,es',l,y,t,.inr (.inr (.inl ⟨A,v,hn,rfl,d⟩))⟩))⟩,same _ f⟩
 ·have t:=H es' l n hD q
  obtain⟨u,_⟩:=i.u5 es' t;rw[z]at u;have v:kJ ei es'=none:=by simpa using u.symm
  have hle:es'.length=m:=by rw[l.length_eq,hl]
  obtain⟨Z,aa,R⟩:=pd i.xV;have J:uZ ft w w' p a ei.length cap bf bd bd 208 (fB ei++(NI g m E es' (YtlgidcmmgohagaaGreat.fe ei es')).cells) (Dd.put (yv prog es') (.lit (.int .i64 ((ei.length:Int)+1)))):=I;obtain⟨_,_,_,_,_,S,_⟩:=I;have T:w.heap.size<=g/\g<w'.heap.size:=by
   refine⟨?_,ee C rfl⟩;rcases C.2 with⟨h,_⟩|⟨D,_,_,hv,f,_⟩
   ·cases h
   ·cases hv;exact f
  have U:w'.ownsRow 0 96 3 (.slice (some (eb g 0)) m E) m (flat es'):=by
   refine⟨C.1,?_⟩;rcases C.2 with h|⟨D,V,W,hv,f,r⟩
   ·exact .inl h
   ·exact .inr ⟨D,V,W,hv,oY _,r⟩
  have X:Ky w' (ie F w w') (NI g m E es' (YtlgidcmmgohagaaGreat.fe ei es')):=.inr ⟨rfl,hle,t,y,N,B,fun D Y=>by(obtain rfl:g=D:=by simpa [NI,Value.ownBlock]using Y);exact .inr T,U⟩;exact⟨_,.inr ⟨n,.inr (.inr (.inr ⟨o,q,hD,es',l,y,t,.inr (.inr (.inr ⟨B,v,hn,⟨_,rfl,rfl,rfl,rfl⟩,d⟩))⟩))⟩,
   i.grow J hn i.fd R X ((J.other i.fZ i.files i.ne).mono (Hk _)) (i.qO.other (show(2:Int)≠1 by decide)) S (i.u5.put i.xV.isMap t v rfl rfl)⟩
theorem Ce(h:jt ft F w s p ei)(b off m c0:Nat)(es:List eD)
  (hl:es.length=m)(n:b<w.heap.size)(c:m*32<=140737488355328)(hc:∀j d,(flat es)[j]?=some d->w.cell? (eb b (off+j))=some d)(f:∀e∈es,e.1.size<=maxLen):
  eK 26 #[fj s,.slice (some (eb b off)) m c0] w fun e w'=>∃ip,gf ei ip es e/\jt ft (ie F w w') w' s p ip/\en F w w':=by
 obtain⟨a,cap,bf,bd,Df,Dd,i⟩:=h;have g:=QK i b off m c0 es hl n c hc f;have c0:=i.c0;clear i hc f hl c;go_enter func26,ntmps26;go_wp2_with fail;refine g.mono ?_;rintro e w' ⟨ip,kZ,k⟩;obtain⟨x,y,xo⟩:=kZ.shape;have o:Hid (gf ei ip es e):=kZ;have q:Hid (jt ft (ie F w w') w' s p ip/\en F w w'):=k;have l:Hid (e=.returned (.tuple #[ed x,ed y])):=xo;clear kZ k xo g;rw[l.out];go_wp2;go_ret2;exact⟨ip,l.out▸o.out,q.out⟩
def Cf (ei:List Ob)(id:Int)(e:Ending):Prop:=
 (eC ei id≠1/\e=.returned (.tuple #[.string ByteArray.empty,.int .i64 13]))\/∃j,∃hj:j<ei.length,id=(j:Int)+1/\ei[j].kind=1/\e=.returned (.tuple #[.string ei[j].data,.int .i64 0])
def Cg (w w':World)(ei:List Ob)(id:Int)(e:Ending):Prop:=
 (eC ei id≠2/\e=.returned (.tuple #[.slice none 0 0,.int .i64 13]))\/
 ∃j,∃hj:j<ei.length,id=(j:Int)+1/\ei[j].kind=2/\∃g,e=.returned (.tuple #[.slice (some ⟨g,0,none⟩) ei[j].eG.length ei[j].eG.length,.int .i64 0])/\
  w'.ownsRow w.heap.size 96 3 (.slice (some ⟨g,0,none⟩) ei[j].eG.length ei[j].eG.length) ei[j].eG.length (flat ei[j].eG)
theorem xW(i:nJ ft F w s p a cap bf bd Df Dd ei)(id:Int):
  eK 85 #[fj p,ed id] w fun e w'=>Cg w w' ei id e/\gS w w':=by
 by_cases hk:eC ei id=2
 ·have hid:¬(id<1\/(ei.length:Int)<id):=fun h=>by rw[wd h]at hk;cases hk
  obtain⟨j,rfl⟩:∃j:Nat,id=(j:Int)+1:=⟨(id-1).toNat,by omega⟩;have hj:j<ei.length:=by omega
  rw[o0 hj]at hk;rcases i.xe ei[j] (iF hj) with⟨h1,_⟩|⟨_,h2,h3,_,_,_,_,d⟩
  ·rw[h1]at hk;cases hk
  ·obtain⟨g,f⟩|⟨f,l,n⟩:(∃g,ei[j].ea=some (eb g 0))\/(ei[j].ea=none/\ei[j].el=0/\ei[j].ec=0):=by
    rcases d.2 with⟨hv,h0⟩|⟨g,o,q,hv,_⟩
    ·simp only[Value.slice.injEq]at hv;exact .inr hv
    ·simp only[Value.slice.injEq]at hv;exact .inl ⟨g,hv.1⟩
   rotate_left
   ·have m:ei[j].eG=[]:=xF.1 (h2.trans l)
    refine(QJ p a ei.length cap bf bd ei j hj w i.fZ hk f l n).mono fun e w' ⟨k,b,hr,c⟩=>⟨.inr ⟨j,hj,rfl,hk,k,?_,?_⟩,c⟩
    ·rw[m];exact b
    ·rw[m];exact hr
   rw[f]at d;refine(NC p a ei.length cap bf bd ei j g ei[j].el ei[j].ec ei[j].eG hj w i.fZ hk f rfl rfl (by rw[<-h2];exact h3.1) h2 (ee d rfl) (hh d)).mono fun e w' ⟨k,b,hr,c⟩=>⟨.inr ⟨j,hj,rfl,hk,k,?_,?_⟩,c⟩
   ·rw[h2];exact b
   ·rw[h2];exact hr
 ·exact(QI p a ei.length cap bf bd ei id w i.fZ hk).mono fun e w' ⟨b,c⟩=>⟨.inl ⟨hk,b⟩,c⟩
theorem Ch(w:World):eK 25 #[] w fun e w'=>∃s,e=.returned (fj s)/\Inv Ux (ie (fun _=>False) w w') w' s []/\gS w w':=by
 refine(B2 w).mono fun e w' ⟨c,hw⟩=>?_;refine⟨_,c,?_,?_⟩
 ·subst hw
  have f:∀a o2 o3 b:Obj,((((w.alloc a).alloc o2).alloc o3).alloc b).heap[w.heap.size+3]?=some b:=fun a o2 o3 b=>by
   have:=pM (((w.alloc a).alloc o2).alloc o3) b
   simpa using this
  have e2:∀a o2 o3 b:Obj,((((w.alloc a).alloc o2).alloc o3).alloc b).heap[w.heap.size+2]?=some o3:=fun a o2 o3 b=>by
   rw[M3 _ _ _ (by simp)]
   have:=pM ((w.alloc a).alloc o2) o3
   simpa using this
  have h:∀a o2 o3 b:Obj,((((w.alloc a).alloc o2).alloc o3).alloc b).heap[w.heap.size+1]?=some o2:=fun a o2 o3 b=>by
   rw[M3 _ _ _ (by simp),M3 _ _ _ (by simp)];exact heap_alloc2_new w a o2
  have j:∀a o2 o3 b:Obj,((((w.alloc a).alloc o2).alloc o3).alloc b).heap[w.heap.size]?=some a:=fun a o2 o3 b=>by
   rw[M3 _ _ _ (by simp;omega),M3 _ _ _ (by simp;omega)];exact SD w a o2
  refine⟨w.heap.size+2,none,0,w.heap.size,w.heap.size+1,.map [],.map [],⟨.inr (by simp),.inr (by simp),.inr (by simp;omega),.inr (by simp),?_,f _ _ _ _,⟨e2 _ _ _ _,UV _ _ _ _,rfl,by simp⟩,by omega,?_,?_,?_,?_,?_⟩⟩
  ·intro g hg;cases hg
  ·exact⟨#[],0,j _ _ _ _,⟨by simp,MapKept.stamped_empty 0,by simp⟩,io _,rfl⟩
  ·intro d;exact⟨rfl,fun i hi=>by cases hi⟩
  ·exact⟨#[],0,h _ _ _ _,⟨by simp,MapKept.stamped_empty 0,by simp⟩,io _,rfl⟩
  ·intro es _;exact⟨rfl,fun i hi=>by cases hi⟩
  ·intro o ho;cases ho
 ·rw[hw]
  exact((((i7 _ _).alloc (io _) _).alloc (by simp) _).alloc (by simp;omega) _).alloc (by simp;omega) _
variable {ft:fQ}
theorem zW(h:jt ft F w s p ei)(d:eu)(hd:d.size<=maxLen):
  eK 35 #[fj s,.string d] w fun e w'=>∃ip,gL ei ip d e/\jt ft (ie F w w') w' s p ip/\en F w w':=by
 obtain⟨a,cap,bf,bd,Df,Dd,i⟩:=h;have b:=NK i d hd;have c0:=i.c0;clear i hd;go_enter func35,ntmps35;go_wp2_with fail;refine b.mono ?_;rintro e w' ⟨ip,kZ,c⟩;obtain⟨x,y,xo⟩:=kZ.shape;have g:Hid (gL ei ip d e):=kZ;have j:Hid (jt ft (ie F w w') w' s p ip/\en F w w'):=c;have f:Hid (e=.returned (.tuple #[ed x,ed y])):=xo;clear kZ c xo b;rw[f.out];go_wp2;go_ret2;exact⟨ip,f.out▸g.out,j.out⟩
def X1 (a b:eu):Bool:=decide (Lib.compareBytes a.data.toList b.data.toList<0)
theorem xX:∀(k:Nat) (a b:List UInt8),k<=a.length->k<=b.length->a.take k=b.take k->Lib.compareBytes a b=Lib.compareBytes (a.drop k) (b.drop k)
 |0,_,_,_,_,_=>rfl
 |k+1,[],_,h,_,_=>by simp at h
 |k+1,_::_,[],_,h,_=>by simp at h
 |k+1,x::r,y::s,h1,h2,h=>by
  simp only[M0,pS]at h
  obtain⟨rfl,h⟩:=h
  simp only[Lib.compareBytes,uT,Ko,Kb]
  exact xX k r s (by simpa using h1) (by simpa using h2) h
theorem SL{a b:List UInt8}(h1:k<a.length)(h2:k<b.length)(h:a.take k=b.take k)(hne:a[k]≠b[k]):decide (Lib.compareBytes a b<0)=decide (a[k]<b[k]):=by
 rw[xX k a b (by omega) (by omega) h,Dj h1,Dj h2];rcases uS a[k] b[k]with c|c|c
 ·simp[Lib.compareBytes,c]
 ·exact absurd c hne
 ·simp[Lib.compareBytes,c,lW c]
theorem Jn{a b:List UInt8}(h1:k<=a.length)(h2:k<=b.length)(h:a.take k=b.take k)(c:k=a.length\/k=b.length):decide (Lib.compareBytes a b<0)=decide (a.length<b.length):=by
 rw[xX k a b h1 h2 h];rcases c with c|c
 ·subst c
  rw[List.drop_length];cases d:b.drop a.length with
  |nil=>have:=rp List.length d;simp at this;simp[Lib.compareBytes];omega
  |cons x r=>have:=rp List.length d;simp at this;simp[Lib.compareBytes];omega
 ·subst c
  rw[List.drop_length];cases e:a.drop b.length with
  |nil=>have:=rp List.length e;simp at this;simp[Lib.compareBytes];omega
  |cons x r=>have:=rp List.length e;simp at this;simp[Lib.compareBytes];omega
theorem NL(a b:eu)(w:World)(n:a.size<=maxLen)(o:b.size<=maxLen):
  eK 169 #[.string a,.string b] w fun e w'=>e=.returned (.bool (X1 a b))/\∃q,w'=w.drewN q:=by
 unfold maxLen at n o;have la:a.data.toList.length=a.size:=kG;have l:b.data.toList.length=b.size:=kG;have c:Hid (a.data.toList.length=a.size):=la;have d:Hid (b.data.toList.length=b.size):=l;clear la l;go_enter func169,ntmps169;go_wp2
 go_loopw [5] (fun i wr=>∃k:Nat,k<=a.size/\k<=b.size/\i=.int .i64 k/\Hid (∃q,wr=w.drewN q)/\Hid (a.data.toList.take k=b.data.toList.take k)) (fun i _=>a.size-(intOf i).toNat)
 case atStart=>exact⟨0,oY _,oY _,rfl,⟨0,rfl⟩,rfl⟩
 case round=>
  obtain⟨k,m,hk2,rfl,f,g⟩:=hrel;by_cases h1:k<a.size
  ·by_cases h2:k<b.size
   ·by_cases hne:((a[k].toNat:Int)==(b[k].toNat:Int))=true
    ·have j:Hid (a[k]=b[k]):=Nb.1 (by have:=eq_of_beq hne;omega)
     go_wp2
     go_quiet (fail)
     go_wp2;go_roundw
     case rel=>
      refine⟨k+1,by omega,by omega,by go_num,?_,?_⟩
      ·obtain⟨q,hq⟩:=f.out;exact⟨q+nq,by rw[hq,BU]⟩
      ·show _=_
       rw[sZ (by rw[c.out];exact h1),sZ (by rw[d.out];exact h2),g.out];exact rp _ (rp (· :: []) j.out)
     case measure=>simp[intOf];omega
    ·have p:((a[k].toNat:Int)==(b[k].toNat:Int))=false:=by simpa using hne
     have j:Hid (a[k]≠b[k]):=fun h=>hne (by rw[h];exact Ni _);go_wp2
     go_quiet (fail)
     go_wp2
     go_quiet (fail)
     go_wp2;go_ret;obtain⟨q,hq⟩:=f.out;refine⟨?_,by subst hq;exact⟨_,by rw[BU,BU]⟩⟩
     have:=SL (a:=a.data.toList) (b:=b.data.toList) (k:=k) (by rw[c.out];exact h1) (by rw[d.out];exact h2) g.out j.out
     unfold X1;rw[this]
     congr 2
   ·go_wp2
    go_ret;obtain⟨q,hq⟩:=f.out;refine⟨?_,q,hq⟩
    have:=Jn (k:=k) (by rw[c.out];exact m) (by rw[d.out];exact hk2) g.out (.inr (by rw[d.out];omega))
    unfold X1;rw[this,c.out,d.out]
    congr 2
  ·go_wp2
   go_ret;obtain⟨q,hq⟩:=f.out;refine⟨?_,q,hq⟩
   have:=Jn (k:=k) (by rw[c.out];exact m) (by rw[d.out];exact hk2) g.out (.inl (by rw[c.out];omega))
   unfold X1;rw[this,c.out,d.out]
   congr 2
theorem Jo(h:∀j (hj:j<l.length),l[j]≠c):Lib.indexByte l c<0:=by
 have hg:=Lib.indexByte_ge l c;by_cases hn:Lib.indexByte l c<0
 ·exact hn
 ·obtain⟨o,ho⟩:∃o:Nat,Lib.indexByte l c=o:=⟨(Lib.indexByte l c).toNat,by omega⟩
  have:=(Lib.indexByte_some ho).1
  obtain⟨a,b⟩:=s6.1 this;exact absurd b (h o a)
theorem Ci(hj:j<l.length)(h:l[j]=c):¬Lib.indexByte l c<0:=by
 intro hn;have hg:=Lib.indexByte_ge l c
 have:Lib.indexByte l c=-1:=by omega
 exact Lib.indexByte_none this j (by rw[gJ hj,h])
theorem mN(s:eu)(w:World)(hm:s.size<=maxLen)(h:(s.toList==[])=true\/((s.toList==[])=false/\(12<s.size\/¬12<s.size/\((s.toList==[46])=true\/(s.toList==[46])=false/\(s.toList==[46,46])=true)))):
  eK 150 #[.string s] w fun e w'=>e=.returned (.bool false)/\∃q,w'=w.drewN q:=by
 unfold maxLen at hm;rcases h with h|⟨h0,h|⟨h1,h|⟨h2,h3⟩⟩⟩
 all_goals
  go_enter func150,ntmps150;go_wp2;go_ret;exact⟨rfl,0,rfl⟩
theorem GD(s:eu)(w:World)(h0:(s.toList==[])=false)(h1:¬12<s.size)(h2:(s.toList==[46])=false)(h3:(s.toList==[46,46])=false)(r:Bool)
  (hr:Hid ((decide (Lib.indexByte s.data.toList 0<0)&&decide (Lib.indexByte s.data.toList 47<0))=r)):
  eK 150 #[.string s] w fun e w'=>e=.returned (.bool r)/\∃q,w'=w.drewN q:=by
 have d:Hid (s.data.toList.length=s.size):=kG;go_enter func150,ntmps150;go_wp2
 go_loopw [3] (fun i wr=>∃k:Nat,k<=s.size/\i=.int .i64 k/\Hid (∃q,wr=w.drewN q)/\Hid (∀j (hj:j<s.data.toList.length),j<k->s.data.toList[j]≠0/\s.data.toList[j]≠47)) (fun i _=>s.size-(intOf i).toNat)
 case atStart=>exact⟨0,oY _,rfl,⟨0,rfl⟩,fun j hj h=>by omega⟩
 case round=>
  obtain⟨k,hk,rfl,a,f⟩:=hrel;by_cases m:k<s.size
  ·have g:k<s.data.toList.length:=by rw[d.out];exact m
   cases b:((s[k].toNat:Int)==0) with
   |true=>
    go_wp2;go_ret;obtain⟨q,hq⟩:=a.out;refine⟨?_,q,hq⟩
    have:s.data.toList[k]=0:=Nb.1 (by have:=eq_of_beq b;show s[k].toNat=0;omega)
    rw[<-hr.out,m6 (Ci g this)];rfl
   |false=>
    cases c:((s[k].toNat:Int)==47) with
    |true=>
     go_wp2;go_ret;obtain⟨q,hq⟩:=a.out;refine⟨?_,q,hq⟩
     have:s.data.toList[k]=47:=Nb.1 (by have:=eq_of_beq c;show s[k].toNat=47;omega)
     rw[<-hr.out,m6 (Ci g this),Bool.and_false];rfl
    |false=>
     have n:Hid (s.data.toList[k]≠0/\s.data.toList[k]≠47):=by
      refine⟨fun h=>?_,fun h=>?_⟩
      ·have:s[k]=0:=h
       rw[this]at b;simp at b
      ·have:s[k]=47:=h
       rw[this]at c;simp at c
     go_wp2;go_roundw
     case rel=>
      refine⟨k+1,by omega,by go_num,?_,?_⟩
      ·obtain⟨q,hq⟩:=a.out;exact⟨q,hq⟩
      ·intro j hj o
       by_cases e:j=k
       ·subst e;exact n.out
       ·exact f.out j hj (by omega)
     case measure=>simp[intOf];omega
  ·go_wp2
   go_ret;refine⟨?_,a.out⟩;have l:∀j (hj:j<s.data.toList.length),s.data.toList[j]≠0/\s.data.toList[j]≠47:=fun j hj=>f.out j hj (by rw[d.out]at hj;omega)
   rw[<-hr.out,jT (Jo fun j hj=>(l j hj).1),jT (Jo fun j hj=>(l j hj).2)];rfl
theorem Az(s:eu)(w:World)(hm:s.size<=maxLen):eK 150 #[.string s] w fun e w'=>e=.returned (.bool (ez s))/\∃q,w'=w.drewN q:=by
 have a:(s.toList==[])=decide (s.size<1):=by
  rw[uL];by_cases h:s.size<1
  ·have:s.data.toList=[]:=zN (by rw[kG];exact(show s.size=0 by omega))
   simp[this,h]
  ·rw[m6 h]
   cases hl:s.data.toList with
   |nil=>exact absurd (by have:=rp List.length hl;rw[kG]at this;exact(show s.size<1 by have h2:s.size=0:=this;omega)) h
   |cons x r=>rfl
 unfold ez;cases h0:(s.toList==[]) with
 |true=>
  have:¬1<=s.size:=by have h:=a.symm.trans h0;have:=s8 h;omega
  rw[m6 this];exact mN s w hm (.inl h0)
 |false=>
  have:1<=s.size:=by have h:=a.symm.trans h0;have:=Qh h;omega
  rw[jT this];by_cases h1:12<s.size
  ·rw[m6 (show ¬s.size<=12 by omega)]
   exact mN s w hm (.inr ⟨h0,.inl h1⟩)
  ·rw[jT (show s.size<=12 by omega)]
   cases h2:(s.toList==[46]) with
   |true=>exact mN s w hm (.inr ⟨h0,.inr ⟨h1,.inl h2⟩⟩)
   |false=>
    cases h3:(s.toList==[46,46]) with
    |true=>exact mN s w hm (.inr ⟨h0,.inr ⟨h1,.inr ⟨h2,h3⟩⟩⟩)
    |false=>exact GD s w h0 h1 h2 h3 _ (show _=_ by simp)
variable {ft:fQ}
theorem Cj(h:Inv ft F w s ei)(id:Int):
  eK 40 #[fj s,ed id] w fun e w'=>Cf ei id e/\gS w w':=by
 obtain⟨p,a,cap,bf,bd,Df,Dd,i⟩:=h;have b:=DG p a ei.length cap bf bd ei id w i.fZ;have c0:=i.c0;clear i;go_enter func40,ntmps40;go_wp2_with fail;refine b.mono ?_;rintro e w' ⟨d,hf⟩;obtain⟨x,y,xo⟩:∃x y,e=.returned (.tuple #[.string x,ed y]):=by
  rcases hf with⟨_,h⟩|⟨_,_,_,_,h⟩<;>exact⟨_,_,h⟩
 have f:Hid (Cf ei id e):=hf;have c:Hid (e=.returned (.tuple #[.string x,ed y])):=xo;clear hf xo b;rw[c.out];go_wp2;go_ret2;exact⟨c.out▸f.out,d⟩
theorem DJ(h:Inv ft F w s ei)(id:Int):
  eK 43 #[fj s,ed id] w fun e w'=>Cg w w' ei id e/\gS w w':=by
 obtain⟨p,a,cap,bf,bd,Df,Dd,i⟩:=h;have b:=xW i id;have c0:=i.c0;clear i;go_enter func43,ntmps43;go_wp2_with fail;refine b.mono ?_;rintro e w' ⟨hf,f⟩;obtain⟨x,n,c,y,xo⟩:∃x n c y,e=.returned (.tuple #[.slice x n c,ed y]):=by
  rcases hf with⟨_,h⟩|⟨_,_,_,_,_,h,_⟩<;>exact⟨_,_,_,_,h⟩
 have g:Hid (Cg w w' ei id e):=hf;have d:Hid (e=.returned (.tuple #[.slice x n c,ed y])):=xo;clear hf xo b;rw[d.out];go_wp2;go_ret2;exact⟨d.out▸g.out,f⟩
variable {ft:fQ}
theorem NM(p:Nat)(a:e5)(n cap:Nat)(w:World)(h0:w.cell? (eb p 0)=some (.slice a n cap)):
  eK 86 #[fj p] w (tz (ed n) w):=by
 go_enter func86,ntmps86;go_wp2;go_ret;exact⟨rfl,rfl⟩
theorem Ck(h:Inv ft F w s ei):
  eK 45 #[fj s] w (tz (ed (ei.length:Int)) w):=by
 obtain⟨p,a,cap,bf,bd,Df,Dd,i⟩:=h;have b:=NM p a ei.length cap w i.fZ.at_.c0;have c0:=i.c0;clear i;go_enter func45,ntmps45;go_wp2_with(go_at_call 86;refine b.mono ?_;rintro e w' ⟨rfl,rfl⟩);go_ret;exact⟨rfl,rfl⟩
theorem tv:(prog.info? 112).map (fun i=>(i.zero,i.size,i.bytes))=some (some (.agg #[.string ByteArray.empty,ed 0,ed 0]),3,32):=by kernel_rfl
def tC (out:List eD)(x:eD):List eD:=out.takeWhile (fun y=>X1 y.1 x.1)++x::out.dropWhile (fun y=>X1 y.1 x.1)
def wl (a:List eD):List eD:=a.foldl tC []
theorem takeWhile_eq{a:Type}(p:a->Bool):∀(l:List a) (k:Nat),k<=l.length->(∀j (hj:j<l.length),j<k->p l[j]=true)->(∀hk:k<l.length,p l[k]=false)->l.takeWhile p=l.take k/\l.dropWhile p=l.drop k
 |[],0,_,_,_=>⟨rfl,rfl⟩
 |[],k+1,h,_,_=>by simp at h
 |x::r,0,_,_,h=>by have:=h (by simp);simp only[Gc]at this;simp[List.takeWhile,List.dropWhile,this]
 |x::r,k+1,h1,h2,h3=>by
  have hx:=h2 0 (by simp) (by omega)
  simp only[Gc]at hx
  have b:=takeWhile_eq p r k (by simpa using h1) (fun j hj c=>by have:=h2 (j+1) (by simpa using hj) (by omega);simpa using this) (fun hk=>by have:=h3 (by simpa using hk);simpa using this)
  simp[List.takeWhile,List.dropWhile,hx,b.1,b.2]
theorem ld(a b:List eD):flat (a++b)=flat a++flat b:=by simp[flat]
theorem m0(W:World)(x:eD)(t:fL)(n:Nat)(hn:n=W.heap.size):∀j a,(kA x)[j]?=some a->(W.alloc (.cells #[.string x.1,ed x.2.1,ed x.2.2] t)).cell? (((eb n 0):Addr).add j)=some a:=by
 subst hn;intro j a h
 match j,h with
 |0,h=>simpa [Addr.add,kA]using h
 |1,h=>simpa [Addr.add,kA]using h
 |2,h=>simpa [Addr.add,kA]using h
 |j+3,h=>simp[kA]at h
theorem pw{B:Nat}{wo W a:World}(b:Below B wo W)(c:B<=W.heap.size)(d:W.ownsRow B e size v n xs)(hg:W.grownBy a v.ownBlock):Below B wo a:=
 b.grown hg c (fun k h=>(d.lt k h).1)
theorem tE{size g n cap:Nat}(h:w.ownsRow base e size (.slice (some (eb g 0)) n cap) n xs):n<=cap/\cap<=maxLen:=by
 rcases h.2 with⟨h,_⟩|⟨a,b,c,hv,_,_,h1,h2,_⟩
 ·cases h
 ·cases hv;exact⟨h1,h2⟩
theorem Kz(x:eD)(l:List eD):flat (x::l)=kA x++flat l:=rfl
theorem GF{a:Value}(h:(flat (out.drop k))[j]?=some a):(flat out)[k*3+j]?=some a:=by
 by_cases hk:k<=out.length
 ·have e:flat out=flat (out.take k)++flat (out.drop k):=by rw[<-ld,Dm]
  have hl:(flat (out.take k)).length=k*3:=by rw[ib,Hc,uN hk]
  rw[e,zM (by omega),hl,Ka];exact h
 ·rw[J7 (by omega)]at h;simp[flat]at h
theorem lw{base a:Nat}(h:w.ownsRow base e size v n xs)(b:a<=base):w.ownsRow a e size v n xs:=by
 refine⟨h.1,?_⟩;rcases h.2 with h|⟨g,c,d,hv,hg,r⟩
 ·exact .inl h
 ·exact .inr ⟨g,c,d,hv,pD b hg,r⟩
theorem lY(g o j:Nat):((eb g o):Addr).add j=(eb g (o+j)):=by
 unfold Addr.add;split
 ·next h=>subst h;rfl
 ·rfl
theorem AA(out:List eD)(x:eD):(tC out x).Perm (x::out):=by
 unfold tC;refine List.perm_middle.trans ?_;rw[List.takeWhile_append_dropWhile]
theorem pF:∀(a out:List eD),(a.foldl tC out).Perm (a++out)
 |[],out=>List.Perm.refl _
 |x::r,out=>by
  rw[xH]
  refine(pF r (tC out x)).trans ?_
  refine((AA out x).append_left r).trans ?_
  exact List.perm_middle
theorem X2(a:List eD):(wl a).Perm a:=by
 have:=pF a []
 rwa [nH]at this
theorem oC{a:List eD}{y:eD}(h:y∈wl a):y∈a:=(X2 a).mem_iff.1 h
theorem mn(x:eD):flat [x]=kA x:=by simp[flat]
theorem u6(hk:k<out.length):flat (out.take k)++kA out[k]=flat (out.take (k+1)):=by
 rw[sZ hk,ld,mn]
theorem GG(b off m c0:Nat)(c:List eD)(w:World)(hl:c.length=m)(hm:m<=16)(P:b<w.heap.size)(hc:∀j l,(flat c)[j]?=some l->w.cell? (eb b (off+j))=some l)(Y:∀e∈c,e.1.size<=maxLen):
  eK 107 #[.slice (some (eb b off)) m c0] w fun e w'=>∃v,e=.returned v/\w'.ownsRow w.heap.size 112 3 v m (flat (wl c))/\gS w w':=by
 obtain⟨B,hi,C,D,E⟩:=H4 tv;have ag:Hid (∀j l,(flat c)[j]?=some l->w.cell? (eb b (off+j))=some l):=hc;have Z:Hid (∀e∈c,e.1.size<=maxLen):=Y;have aa:Hid (c.length=m):=hl;clear hc Y hl;go_enter func107,ntmps107;go_wp2
 go_loopw [3,4] (fun v i wo=>∃k:Nat,k<=m/\i=.int .i64 k/\gS w wo/\wo.ownsRow w.heap.size 112 3 v k (flat (wl (c.take k)))/\(k=0->v=.slice none 0 0)) (fun _ i _=>m-(intOf i).toNat)
 case atStart=>exact⟨0,oY _,rfl,i7 _ _,UV _ _ _ _,fun _=>rfl⟩
 case round=>
  obtain⟨i,hk,rfl,d,n,ah⟩:=hrel;by_cases ai:i<m
  ·have Q:i<c.length:=by rw[aa.out];exact ai
   obtain⟨c0,c1,c2⟩:=i2 ag.out Q;obtain⟨x,hx⟩:∃x,x=c[i]:=⟨_,rfl⟩;rw[<-hx]at c0 c1 c2;obtain⟨out,F⟩:∃out,out=wl (c.take i):=⟨_,rfl⟩;have R:Hid (wl (c.take (i+1))=tC out x):=by
    show _=_;rw[sZ Q,wl,M6,F,hx];rfl
   have aj:Hid (x.1.size<=maxLen):=by rw[hx];exact Z.out _ (iF Q)
   have ak:Hid (∀y∈out,y.1.size<=maxLen):=by
    intro y ab;rw[F]at ab;exact Z.out y (wY (oC ab))
   have S:out.length=i:=by
    have:=n.1
    rw[ib,<-F]at this;omega
   rw[<-F]at n;clear F hx;have al:=fun(W:World) (hW:gS wr W)=>((d.trans (hW.mono d.size)).cell (p:=(eb b (off+i*3))) P).trans c0
   have am:=fun(W:World) (hW:gS wr W)=>((d.trans (hW.mono d.size)).cell (p:=(eb b (off+i*3+1))) P).trans c1;have an:=fun(W:World) (hW:gS wr W)=>((d.trans (hW.mono d.size)).cell (p:=(eb b (off+i*3+2))) P).trans c2;clear c0 c1 c2;rename World=>wo;go_wp2
   go_loopw [5,6] (fun v j wq=>∃k:Nat,k<=i/\j=.int .i64 k/\gS wo wq/\wq.ownsRow wo.heap.size 112 3 v k (flat (out.take k))/\Hid (∀j (hj:j<out.length),j<k->X1 out[j].1 x.1=true)) (fun _ j _=>i-(intOf j).toNat)
   case atStart=>exact⟨0,oY _,rfl,i7 _ _,UV _ _ _ _,fun j hj h=>by omega⟩
   case round=>
    obtain⟨k,aD,rfl,a,s,I⟩:=hrel;have d0:=al _ a;have d1:=am _ a;have d2:=an _ a;by_cases ao:k<i
    ·obtain⟨g,cap,rfl⟩:=ej n (by omega)
     have J:g<wo.heap.size:=ee n rfl;have T:k<out.length:=by rw[S];exact ao
     obtain⟨K,L,o2⟩:=i2 (off:=0) (hh n) T;rw[PH]at K L o2;have aE:=(a.cell (p:=(eb g (k*3))) J).trans K;have aF:=(a.cell (p:=(eb g (k*3+1))) J).trans L;have aG:=(a.cell (p:=(eb g (k*3+2))) J).trans o2;have M:=fun W=>NL out[k].1 x.1 W (ak.out _ (iF T)) aj.out;cases z:X1 out[k].1 x.1 with
     |true=>
      rw[z]at M;have U:Hid (X1 out[k].1 x.1=true):=z;clear z K L o2;go_wp2
      go_quiet (first|(go_at_call 169;exact Calls.quiet_of (M _)))
      go_wp2_with(at_builtin;refine r6 _ rfl (.tmp 30) (.tmp 35) 106 rfl wo.heap.size 112 B _ 3 32 underlying106 hi C D E rfl (by decide) _ _ _ rfl (s.alloc _) (eb wr.heap.size 0) 1 1 (kA out[k]) rfl rfl ?c1 ?c2 ?c3 ?c4 ?c5 ?_)
      case c1=>exact m0 (wr.drewN nq) out[k] _ _ rfl
      case c2=>exact lL out[k]
      case c3=>unfold maxLen;omega
      case c4=>omega
      case c5=>have:=a.size;simp;omega
      intro N t f o _;have q:wo.heap.size<=((wr.drewN nq).alloc (Obj.cells #[Value.string out[k].fst,Value.int IntKind.i64 out[k].snd.fst,Value.int IntKind.i64 out[k].snd.snd] 112)).heap.size:=by have:=a.size;simp;omega
      have r:=pw ((PP a nq).alloc a.size _) q (s.alloc _) o;have ap:t.ownsRow wo.heap.size 112 3 N (k+1) (flat (out.take (k+1))):=by rw[<-u6 T];exact f
      clear f o q;go_wp2;go_roundw
      case rel=>
       refine⟨k+1,by omega,by go_num,r,ap,?_⟩;intro j hj A;by_cases e:j=k
       ·subst e;exact U.out
       ·exact I.out j hj (by omega)
      case measure=>simp[intOf];omega
     |false=>
      rw[z]at M;have U:Hid (X1 out[k].1 x.1=false):=z;clear z K L o2;go_wp2
      go_quiet (first|(go_at_call 169;exact Calls.quiet_of (M _)))
      go_wp2_with(at_builtin;refine r6 _ rfl (.tmp 39) (.tmp 44) 106 rfl wo.heap.size 112 B _ 3 32 underlying106 hi C D E rfl (by decide) _ _ _ rfl (s.alloc _) (eb wr.heap.size 0) 1 1 (kA x) rfl rfl ?c1 ?c2 ?c3 ?c4 ?c5 ?_)
      case c1=>exact m0 (wr.drewN nq) x _ _ rfl
      case c2=>exact lL x
      case c3=>unfold maxLen;omega
      case c4=>omega
      case c5=>have:=a.size;simp;omega
      intro N t f o _;have q:wo.heap.size<=((wr.drewN nq).alloc (Obj.cells #[Value.string x.fst,Value.int IntKind.i64 x.snd.fst,Value.int IntKind.i64 x.snd.snd] 112)).heap.size:=by have:=a.size;simp;omega
      have r:=pw ((PP a nq).alloc a.size _) q (s.alloc _) o;obtain⟨aq,ar⟩:=tE n;clear o q;have au:(flat (out.drop k)).length=(i-k)*3:=by rw[ib,jl,S]
      have ac:∀j l,(flat (out.drop k))[j]?=some l->t.cell? (((eb g (k*3)):Addr).add j)=some l:=by
       intro j l av;have h1:=GF av;have h2:=hh n _ _ h1;rw[PH]at h2;have h3:=(r.cell (p:=(eb g (k*3+j))) J).trans h2;rw[lY];exact h3
      have ad:Hid (∀j l,(flat (out.drop k))[j]?=some l->t.cell? (((eb g (k*3)):Addr).add j)=some l):=ac;clear ac;go_wp2_with(at_builtin;refine r6 _ rfl (.tmp 46) (.tmp 49) 106 rfl wo.heap.size 112 B _ 3 32 underlying106 hi C D E rfl (by decide) _ _ _ rfl f (eb g (k*3)) (i-k) _ (flat (out.drop k)) rfl au ad.out (PQ _) ?c3 ?c4 ?c5 ?_)
      case c3=>unfold maxLen;omega
      case c4=>omega
      case c5=>exact r.size
      intro aw ax ae af _;have ay:=pw r r.size f af;have G:ax.ownsRow w.heap.size 112 3 aw (i+1) (flat (wl (c.take (i+1)))):=by
       rw[R.out];have u:=takeWhile_eq (fun y:eD=>X1 y.1 x.1) out k (by omega) (fun j hj A=>I.out j hj A) (fun _=>U.out)
       have:=lw ae d.size
       rw[show k+1+(i-k)=i+1 by omega]at this;unfold tC;rw[u.1,u.2,ld,Kz];simpa only[iK]using this
      clear ae af f ad;go_wp2;go_roundw
      case rel=>exact⟨i+1,by omega,by go_num,d.trans (ay.mono d.size),G,fun h=>by omega⟩
      case measure=>simp[intOf];omega
    ·have az:k=i:=by omega
     subst az;have H:Hid (out.take k=out):=jH (by rw[S];exact io _);have aH:decide ((k:Int)<(k:Int))=false:=by simp
     rw[H.out]at s;rcases Nat.eq_zero_or_pos k with O|O
     ·have hn:=ah O
      subst hn;subst O;simp only[Nat.zero_mul,zT]at d0 d1 d2;go_wp2
      go_quiet (fail)
      go_wp2_with(at_builtin;refine r6 _ rfl (.tmp 39) (.tmp 44) 106 rfl wo.heap.size 112 B _ 3 32 underlying106 hi C D E rfl (by decide) _ _ _ rfl (s.alloc _) (eb wr.heap.size 0) 1 1 (kA x) rfl rfl ?c1 ?c2 ?c3 ?c4 ?c5 ?_)
      case c1=>exact m0 (wr.drewN nq) x _ _ rfl
      case c2=>exact lL x
      case c3=>unfold maxLen;omega
      case c4=>omega
      case c5=>have:=a.size;simp;omega
      intro N t f o _;have q:wo.heap.size<=((wr.drewN nq).alloc (Obj.cells #[Value.string x.fst,Value.int IntKind.i64 x.snd.fst,Value.int IntKind.i64 x.snd.snd] 112)).heap.size:=by have:=a.size;simp;omega
      have r:=pw ((PP a nq).alloc a.size _) q (s.alloc _) o;obtain⟨V,X,rfl⟩:=ej f (by omega);obtain⟨aA,aB⟩:=tE f;have G:t.ownsRow w.heap.size 112 3 (.slice (some (eb V 0)) (0+1) X) (0+1) (flat (wl (c.take (0+1)))):=by
       rw[R.out];have u:=takeWhile_eq (fun y:eD=>X1 y.1 x.1) out 0 (by omega) (fun j hj A=>I.out j hj A) (fun h=>by omega)
       have:=lw f d.size
       unfold tC;rw[u.1,u.2,H.out,J7 (by omega),ld,mn];exact this
      clear f o q;go_wp2
      all_goals
       go_roundw
       case rel=>exact⟨0+1,by omega,by go_num,d.trans (r.mono d.size),G,fun h=>by omega⟩
       case measure=>simp[intOf];omega
     ·obtain⟨g,cap,rfl⟩:=ej n O
      obtain⟨aq,ar⟩:=tE n;go_wp2
      go_quiet (fail)
      go_wp2_with(at_builtin;refine r6 _ rfl (.tmp 39) (.tmp 44) 106 rfl wo.heap.size 112 B _ 3 32 underlying106 hi C D E rfl (by decide) _ _ _ rfl (s.alloc _) (eb wr.heap.size 0) 1 1 (kA x) rfl rfl ?c1 ?c2 ?c3 ?c4 ?c5 ?_)
      case c1=>exact m0 (wr.drewN nq) x _ _ rfl
      case c2=>exact lL x
      case c3=>unfold maxLen;omega
      case c4=>omega
      case c5=>have:=a.size;simp;omega
      intro N t f o _;have q:wo.heap.size<=((wr.drewN nq).alloc (Obj.cells #[Value.string x.fst,Value.int IntKind.i64 x.snd.fst,Value.int IntKind.i64 x.snd.snd] 112)).heap.size:=by have:=a.size;simp;omega
      have r:=pw ((PP a nq).alloc a.size _) q (s.alloc _) o;obtain⟨V,X,rfl⟩:=ej f (by omega);obtain⟨aA,aB⟩:=tE f;have G:t.ownsRow w.heap.size 112 3 (.slice (some (eb V 0)) (k+1) X) (k+1) (flat (wl (c.take (k+1)))):=by
       rw[R.out];have u:=takeWhile_eq (fun y:eD=>X1 y.1 x.1) out k (by omega) (fun j hj A=>I.out j hj A) (fun h=>by omega)
       have:=lw f d.size
       unfold tC;rw[u.1,u.2,H.out,J7 (by omega),ld,mn];exact this
      clear f o q;go_wp2
      all_goals
       go_roundw
       case rel=>exact⟨k+1,by omega,by go_num,d.trans (r.mono d.size),G,fun h=>by omega⟩
       case measure=>simp[intOf];omega
  ·have aC:i=m:=by omega
   subst aC;have H:Hid (c.take i=c):=jH (by rw[aa.out];omega);rw[H.out]at n;go_wp2;go_ret;exact⟨_,rfl,n,d⟩
theorem NN(P:Program)(W:World)(x y:eD)(h:(binOp .neq t (.agg #[.string x.1,ed x.2.1,ed x.2.2]) (.agg #[.string y.1,ed y.2.1,ed y.2.2])).run P W=(if x.fst.toList=y.fst.toList then
   if x.snd.fst=y.snd.fst then
    if x.snd.snd=y.snd.snd then Result.ok (Value.bool false) W else Result.ok (Value.bool true) W
   else Result.ok (Value.bool true) W
  else Result.ok (Value.bool true) W)):(binOp .neq t (.agg #[.string x.1,ed x.2.1,ed x.2.2]) (.agg #[.string y.1,ed y.2.1,ed y.2.2])).run P W=.ok (.bool (!(decide (x=y)))) W:=by
 rw[h];by_cases e:x=y
 ·subst e;simp
 ·rw[m6 e]
  split
  ·next h1=>
   split
   ·next h2=>
    split
    ·next h3=>exact absurd (xN (pV h1) (xN h2 h3)) e
    ·rfl
   ·rfl
  ·rfl
theorem QL(W:World)(x y:eD):(binOp .neq 112 (.agg #[.string x.1,ed x.2.1,ed x.2.2]) (.agg #[.string y.1,ed y.2.1,ed y.2.2])).run prog W=.ok (.bool (!(decide (x=y)))) W:=by
 refine NN _ W x y ?_
 go_simp
theorem NP(W:World)(x y:eD):(binOp .neq 96 (.agg #[.string x.1,ed x.2.1,ed x.2.2]) (.agg #[.string y.1,ed y.2.1,ed y.2.2])).run prog W=.ok (.bool (!(decide (x=y)))) W:=by
 refine NN _ W x y ?_
 go_simp
theorem P1{P:Program}{o:Oper}{a:Act}(hg:o.guard=none)(b:fL)(x:Operand)(h:o.op=.load b x)(c:Addr)(hx:a.eval x=.pointer (some c))
  (cs:Value)(d:∀w,C w->(loadVar b c).run P w=.ok cs w)(hk:wpQuiet P ops C Q rest (a.put o.dst cs)):wpQuiet P ops C Q (o::rest) a:=by
 have hw:Region.wanted o (yielded ops a.tmps)=true:=by simp[Region.wanted,hg]
 refine wpQuiet_step fun K e=>?_;rw[fY hw];refine⟨_,fun w hw=>?_,e _ hk⟩;unfold Oper.quietAt execOp;simp only[h,hx,Instr.loadAt,Instr.sureAddr,Qk,Qj,Qg,d w hw];exact⟨rfl,rfl⟩
theorem pZ{P:Program}{o:Oper}{a:Act}(hg:o.guard=none)(op:BinOp)(t c:fL)(x y:Operand)(h:o.op=.binOp op t x y c)(X b v:Value)(hx:a.eval x=X)(d:a.eval y=b)
  (e:∀w,C w->(eqGuard op t x y X b).run P w=.ok () w)(f:∀w,C w->(binOp op t X b).run P w=.ok v w)(hk:wpQuiet P ops C Q rest (a.put o.dst v)):wpQuiet P ops C Q (o::rest) a:=by
 have hw:Region.wanted o (yielded ops a.tmps)=true:=by simp[Region.wanted,hg]
 refine wpQuiet_step fun K g=>?_;rw[fY hw];refine⟨_,fun w hw=>?_,g _ hk⟩;unfold Oper.quietAt execOp;simp only[h,hx,d,Qk,Qj,Qg,e w hw,f w hw];exact⟨rfl,rfl⟩
theorem DK{P:Program}(hp:P.eqGuardType P.depth t=false)(op:BinOp)(W:World)(x y:Operand)(X a:Array Value):(eqGuard op t x y (.agg X) (.agg a)).run P W=.ok () W:=by
 have hr:(program).run P W=.ok P W:=rfl;unfold eqGuard;cases op<;>simp[Sem.run_bind,hr,Result.andThen_ok,hp,Sem.run_pure]
theorem KA(W:World)(x y:Operand)(X a:Array Value):(eqGuard .neq 112 x y (.agg X) (.agg a)).run prog W=.ok () W:=DK (by kernel_rfl) _ W x y X a
theorem UW(W:World)(g o:Nat)(x:eD)(c0:W.cell? (eb g o)=some (.string x.1))(c1:W.cell? (eb g (o+1))=some (ed x.2.1))(c2:W.cell? (eb g (o+2))=some (ed x.2.2)):(loadVar 112 (eb g o)).run prog W=.ok (.agg #[.string x.1,ed x.2.1,ed x.2.2]) W:=by
 unfold loadVar
 go_simp
structure kK (F:Nat->Prop)(w:World)(o:Ob):Prop where
 kind:o.kind=1\/o.kind=2
 size:o.data.size<=256
 len:o.eG.length=o.el
 few:o.el<=16
 DL:0<=o.high
 DM:o.high<=5
 row:w.ownsRow 0 112 3 (.slice o.ea o.el o.ec) o.el (flat o.eG)
 own:∀g,(Value.slice o.ea o.el o.ec).ownBlock=some g->F g
theorem kK.keep(h:kK F w o)(hF:∀k,F k->F' k)(hk:∀k,F k->w'.heap[k]?=w.heap[k]?):kK F' w' o:=
 ⟨h.kind,h.size,h.len,h.few,h.DL,h.DM,eh h.row (fun g hg=>hk g (h.own g hg)),fun g hg=>hF g (h.own g hg)⟩
def k6 (a o2:Ob):Bool:=decide (a.kind=o2.kind)&&decide (a.data=o2.data)&&decide (a.eG=o2.eG)
def kL (o:Ob):Value:=.agg #[.int .i64 o.kind,.string o.data,.slice o.ea o.el o.ec,.int .i64 o.high]
theorem oG(w:World)(a b:Obj):gS w ((w.alloc a).alloc b):=((i7 _ _).alloc (io _) _).alloc (by simp) _
theorem xY(a o2:Ob)(w:World)(b:a.el<=16)(c:o2.el<=16)
  (h:(a.kind != o2.kind)=true\/(a.kind != o2.kind)=false/\((a.data.toList==o2.data.toList)=false\/(a.data.toList==o2.data.toList)=true/\((a.el:Int) != (o2.el:Int))=true)):
  eK 200 #[kL a,kL o2] w (ml (.bool false) w):=by
 unfold kL;rcases h with h|⟨h0,h|⟨h1,h⟩⟩
 all_goals
  go_enter func200,ntmps200;go_wp2;go_ret;exact⟨rfl,oG _ _ _⟩
theorem KB(t u n1 n2:Int)(d1 d2:eu)(v z:e5)(c1 c2 m:Nat)(c d:List eD)(w:World)(S:m<=16)(T:c.length=m)(U:d.length=m)
  (A:w.ownsRow 0 112 3 (.slice v m c1) m (flat c))(B:w.ownsRow 0 112 3 (.slice z m c2) m (flat d))
  (h0:(t != u)=false)(h1:(d1.toList==d2.toList)=true):
  eK 200 #[.agg #[ed t,.string d1,.slice v m c1,ed n1],.agg #[ed u,.string d2,.slice z m c2,ed n2]] w (ml (.bool (decide (c=d))) w):=by
 have h2:((m:Int) != (m:Int))=false:=by simp
 go_enter func200,ntmps200;go_wp2
 go_loopw [5] (fun i wr=>∃k:Nat,k<=m/\i=.int .i64 k/\(∃q,wr=((w.alloc (.cells #[ed t,.string d1,.slice v m c1,ed n1] 108)).alloc (.cells #[ed u,.string d2,.slice z m c2,ed n2] 108)).drewN q)/\Hid (c.take k=d.take k)) (fun i _=>m-(intOf i).toNat)
 case atStart=>exact⟨0,oY _,rfl,⟨0,rfl⟩,rfl⟩
 case round=>
  obtain⟨k,hk,rfl,⟨q,rfl⟩,F⟩:=hrel;by_cases V:k<m
  ·obtain⟨e,W,K⟩:=ej A (by omega)
   obtain⟨f,X,L⟩:=ej B (by omega);obtain⟨rfl,_,_⟩:=kW K;obtain⟨rfl,_,_⟩:=kW L;have G:k<c.length:=by omega
   have H:k<d.length:=by omega
   have C:e<w.heap.size:=ee A rfl;have D:f<w.heap.size:=ee B rfl;have g:∀a b:Obj,gS w (((w.alloc a).alloc b).drewN q):=fun a b=>PP (oG w a b) q;obtain⟨l,a1,a2⟩:=i2 (off:=0) (hh A) G;obtain⟨o,r,s⟩:=i2 (off:=0) (hh B) H;rw[PH]at l a1 a2 o r s;obtain⟨x,hx⟩:∃x,x=c[k]:=⟨_,rfl⟩;obtain⟨y,E⟩:∃y,y=d[k]:=⟨_,rfl⟩;rw[<-hx]at l a1 a2;rw[<-E]at o r s;have M:=fun a b:Obj=>((g a b).cell (p:=(eb e (k*3))) C).trans l;have N:=fun a b:Obj=>((g a b).cell (p:=(eb e (k*3+1))) C).trans a1;have O:=fun a b:Obj=>((g a b).cell (p:=(eb e (k*3+2))) C).trans a2;have q0:=fun a b:Obj=>((g a b).cell (p:=(eb f (k*3))) D).trans o;have P:=fun a b:Obj=>((g a b).cell (p:=(eb f (k*3+1))) D).trans r;have Q:=fun a b:Obj=>((g a b).cell (p:=(eb f (k*3+2))) D).trans s;clear l a1 a2 o r s;have I:Hid (x=c[k]):=hx;have J:Hid (y=d[k]):=E;clear hx E;go_wp2;refine SE (by kernel_rfl) (by kernel_rfl) ?_
   iterate 4 quiet_step (fail)
   refine P1 rfl 112 _ rfl (eb e (k*3)) rfl (.agg #[.string x.1,ed x.2.1,ed x.2.2]) (by rintro _ ⟨n,rfl⟩;exact UW _ e (k*3) x (M _ _) (N _ _) (O _ _)) ?_
   go_frame
   iterate 4 quiet_step (fail)
   refine P1 rfl 112 _ rfl (eb f (k*3)) rfl (.agg #[.string y.1,ed y.2.1,ed y.2.2]) (by rintro _ ⟨n,rfl⟩;exact UW _ f (k*3) y (q0 _ _) (P _ _) (Q _ _)) ?_
   go_frame
   refine pZ rfl .neq 112 112 _ _ rfl (.agg #[.string x.1,ed x.2.1,ed x.2.2]) (.agg #[.string y.1,ed y.2.1,ed y.2.2]) (.bool (!(decide (x=y)))) rfl rfl (by rintro _ ⟨n,rfl⟩;exact KA _ _ _ _ _) (by rintro _ ⟨n,rfl⟩;exact QL _ x y) ?_
   go_frame
   refine wpQuiet_nil ?_;rintro _ ⟨nq,rfl⟩;by_cases xo:x=y
   ·have j:Hid (x=y):=xo
    rw[jT xo];clear xo;go_wp2;go_roundw
    case rel=>
     refine⟨k+1,by omega,by go_num,⟨q+nq,rfl⟩,?_⟩;show _=_;rw[sZ G,sZ H,F.out,<-I.out,<-J.out,j.out]
    case measure=>simp[intOf];omega
   ·have j:Hid (c≠d):=fun h=>xo (by rw[I.out,J.out];simp only[h])
    rw[m6 xo];clear xo;go_wp2;go_ret;exact⟨by rw[m6 j.out];rfl,PP (PP (oG _ _ _) q) nq⟩
  ·have R:k=m:=by omega
   have j:Hid (c=d):=by
    have:=F.out
    rwa [R,jH (by omega),jH (by omega)]at this
   go_wp2;go_ret;exact⟨by rw[jT j.out];rfl,PP (oG _ _ _) q⟩
theorem NQ(a o2:Ob)(w:World)(h1:kK F w a)(h2:kK G w o2):
  eK 200 #[kL a,kL o2] w (ml (.bool (k6 a o2)) w):=by
 by_cases hk:a.kind=o2.kind
 ·by_cases hd:a.data=o2.data
  ·by_cases hl:a.el=o2.el
   ·have:=KB a.kind o2.kind a.high o2.high a.data o2.data a.ea o2.ea a.ec o2.ec a.el a.eG o2.eG w h1.few h1.len (by rw[h2.len,hl]) h1.row (by have:=h2.row;rwa [<-hl]at this) (by rw[hk];simp) (by rw[hd];simp)
    have e:k6 a o2=decide (a.eG=o2.eG):=by unfold k6;simp[hk,hd]
    rw[e];unfold kL;rw[<-hl];exact this
   ·have e:k6 a o2=false:=by
     have:a.eG≠o2.eG:=fun h=>hl (by rw[<-h1.len,<-h2.len,h])
     unfold k6;simp[this]
    rw[e];exact xY a o2 w h1.few h2.few (.inr ⟨by rw[hk];simp,.inr ⟨by rw[hd];simp,by simp;omega⟩⟩)
  ·have e:k6 a o2=false:=by unfold k6;simp[hd]
   rw[e];exact xY a o2 w h1.few h2.few (.inr ⟨by rw[hk];simp,.inl (by simp;exact fun h=>hd (pV h))⟩)
 ·have e:k6 a o2=false:=by unfold k6;simp[hk]
  rw[e];exact xY a o2 w h1.few h2.few (.inl (by simpa using hk))
structure iu (F:Nat->Prop)(w:World)(r:Nat)(a:e5)(cap:Nat)(ep:List Ob):Prop where
 fr:F r
 fa:∀g,(Value.slice a ep.length cap).ownBlock=some g->F g
 hr:w.heap[r]?=some (.cells #[.slice a ep.length cap] 94 (0,0))
 row:w.ownsRow 0 108 4 (.slice a ep.length cap) ep.length (fB ep)
 many:ep.length<=400
 xe:∀o∈ep,kK F w o
theorem iu.keep(h:iu F w r a cap ep)(hF:∀k,F k->F' k)(hk:∀k,F k->w'.heap[k]?=w.heap[k]?):iu F' w' r a cap ep:=
 ⟨hF _ h.fr,fun g hg=>hF g (h.fa g hg),(hk r h.fr).trans h.hr,eh h.row (fun g hg=>hk g (h.fa g hg)),h.many,fun o ho=>(h.xe o ho).keep hF hk⟩
theorem iu.lt(h:iu F w r a cap ep):r<w.heap.size:=(lF.1 h.hr).1
theorem iu.c0(h:iu F w r a cap ep):w.cell? (eb r 0)=some (.slice a ep.length cap):=by simp[World.cell?,h.hr]
theorem iu.f0(h:iu F w r a cap ep):w.frozen? (eb r 0)=false:=by simp[World.frozen?,h.hr]
theorem kK.below(h:kK F w o)(a:gS w w'):kK F w' o:=
 ⟨h.kind,h.size,h.len,h.few,h.DL,h.DM,eh h.row (fun g hg=>a.block g (ee h.row hg)),h.own⟩
theorem iu.below(h:iu F w r a cap ep)(b:gS w w'):iu F w' r a cap ep:=
 ⟨h.fr,h.fa,(b.block r h.lt).trans h.hr,eh h.row (fun g hg=>b.block g (ee h.row hg)),h.many,fun o ho=>(h.xe o ho).below b⟩
theorem iG(h:w.ownsRow 0 t 4 (.slice a n cap) n (fB ep))(hl:ep.length=n){i:Nat}(hi:i<ep.length):
  ∃g,a=some (eb g 0)/\g<w.heap.size/\w.cell? (eb g (i*4))=some (.int .i64 ep[i].kind)/\w.cell? (eb g (i*4+1))=some (.string ep[i].data)/\
   w.cell? (eb g (i*4+2))=some (.slice ep[i].ea ep[i].el ep[i].ec)/\w.cell? (eb g (i*4+3))=some (.int .i64 ep[i].high):=by
 have hn:i<n:=by rw[<-hl];exact hi
 rcases h.2 with⟨_,h0⟩|⟨g,c,d,hv,_,hg,_,_,e,ht⟩
 ·omega
 ·cases hv
  have key:∀j b,j<4->(ep[i].cells)[j]?=some b->w.cell? (eb g (i*4+j))=some b:=by
   intro j b hj hu;rw[<-pW ep i j hi hj,<-ht,Gb (by omega),SC]at hu;simp[World.cell?,hg,hu]
  exact⟨g,rfl,(lF.1 hg).1,key 0 _ (by omega) rfl,key 1 _ (by omega) rfl,key 2 _ (by omega) rfl,key 3 _ (by omega) rfl⟩
theorem pG{P:Program}{o:Oper}{a:Act}(hg:o.guard=none)(b:fL)(x:Operand)(h:o.op=.load b x)(c:Addr)(hx:a.eval x=.pointer (some c))
  (cs:Value)(d:(loadVar b c).run P w=.ok cs w)(hk:wpStill P ops w Q rest (a.put o.dst cs)):wpStill P ops w Q (o::rest) a:=by
 have hw:Region.wanted o (yielded ops a.tmps)=true:=by simp[Region.wanted,hg]
 refine wpStill_step fun K e=>?_;rw[fY hw];unfold Oper.still execOp;simp only[h,hx,Instr.loadAt,Instr.sureAddr,Qk,Qj,Qg,d];exact⟨rfl,e _ hk⟩
theorem Ul(W:World)(g o:Nat)(x:Ob)(c0:W.cell? (eb g o)=some (ed x.kind))(c1:W.cell? (eb g (o+1))=some (.string x.data))(c2:W.cell? (eb g (o+2))=some (.slice x.ea x.el x.ec))(c3:W.cell? (eb g (o+3))=some (ed x.high)):
  (loadVar 108 (eb g o)).run prog W=.ok (kL x) W:=by
 unfold loadVar kL
 go_simp
def findAt (ep:List Ob)(o:Ob):Option Nat:=ep.findIdx? fun x=>k6 x o
def Cl (p:Option Nat):Int:=match p with|some i=>i|none=>-1
theorem u7(r:Nat)(a:e5)(cap:Nat)(ep:List Ob)(o:Ob)(w:World)(h:iu F w r a cap ep)(ho:kK G w o):
  eK 149 #[fj r,kL o] w (ml (ed (Cl (findAt ep o))) w):=by
 unfold kL;obtain⟨n,hn⟩:∃n,n=ep.length:=⟨_,rfl⟩;have J:n<=400:=by rw[hn];exact h.many
 have m:Hid (n=ep.length):=hn;clear hn;obtain⟨B,v⟩:∃B:Obj,B=.cells #[ed o.kind,.string o.data,.slice o.ea o.el o.ec,ed o.high] 108:=⟨_,rfl⟩;go_enter func149,ntmps149;go_wp2;rw[<-v]
 go_loopw [5] (fun i wr=>∃k:Nat,k<=n/\i=.int .i64 k/\Below (w.alloc B).heap.size (w.alloc B) wr/\Hid (∀j (hj:j<ep.length),j<k->k6 ep[j] o=false)) (fun i _=>n-(intOf i).toNat)
 case atStart=>exact⟨0,oY _,rfl,i7 _ _,fun j hj h=>by omega⟩
 case round=>
  obtain⟨k,hk,rfl,f,q⟩:=hrel;have c:gS w wr:=((i7 _ _).alloc (io _) B).trans (f.mono (by simp));have y:=(h.below c).c0;rw[<-m.out]at y;by_cases z:k<n
  ·have s:k<ep.length:=by rw[<-m.out];exact z
   obtain⟨g,A,K,c0,c1,c2,c3⟩:=iG (h.below c).row rfl s;rw[A]at y;have b:∀j,j<4->wr.cell? (eb w.heap.size j)=(kL o).cells[j]?:=by
    intro j hj;rw[f.cell (p:=(eb w.heap.size j)) (by simp)];subst v
    match j,hj with
    |0,_=>simp[kL,Value.cells]
    |1,_=>simp[kL,Value.cells]
    |2,_=>simp[kL,Value.cells]
    |3,_=>simp[kL,Value.cells]
   have C:=Ul wr g (k*4) ep[k] c0 c1 c2 c3;have D:=Ul wr w.heap.size 0 o (b 0 (by omega)) (b 1 (by omega)) (b 2 (by omega)) (b 3 (by omega));have E:Hid ((loadVar 108 (eb g (k*4))).run prog wr.drew=.ok (kL ep[k]) wr.drew):=Ul wr.drew g (k*4) ep[k] c0 c1 c2 c3;have H:Hid ((loadVar 108 (eb w.heap.size 0)).run prog wr.drew=.ok (kL o) wr.drew):=Ul wr.drew w.heap.size 0 o (b 0 (by omega)) (b 1 (by omega)) (b 2 (by omega)) (b 3 (by omega));clear c0 c1 c2 c3 b C D;have l:=NQ ep[k] o wr.drew ((h.below (PP c 1)).xe _ (iF s)) (ho.below (PP c 1));go_wp2;refine wp_region_still_tail 8 (by kernel_rfl) (by kernel_rfl) ?_;simp only[M0,MZ,Kb,xI]
   iterate 6 still_step
   refine pG rfl 108 _ rfl (eb g (k*4)) rfl (kL ep[k]) E.out ?_
   go_frame
   refine pG rfl 108 _ rfl (eb w.heap.size 0) rfl (kL o) H.out ?_
   go_frame
   refine wpStill_nil ?_;cases d:k6 ep[k] o with
   |true=>
    have t:Hid (k6 ep[k] o=true):=d;rw[d]at l;clear d;go_wp2_with fail;refine l.mono ?_;rintro e I ⟨rfl,u⟩;go_wp2;go_ret;refine⟨?_,c.trans ((PP (i7 wr.heap.size wr) 1).trans u |>.mono c.size)⟩;have e:findAt ep o=some k:=wX.2 ⟨s,t.out,fun j hj=>by have:=q.out j (by omega) hj;simp[this]⟩;rw[e];rfl
   |false=>
    have t:Hid (k6 ep[k] o=false):=d;rw[d]at l;clear d;go_wp2_with fail;refine l.mono ?_;rintro e I ⟨rfl,u⟩;go_wp2;go_roundw
    case rel=>
     refine⟨k+1,by omega,by go_num,f.trans ((PP (i7 wr.heap.size wr) 1).trans u |>.mono f.size),?_⟩;intro j hj L;by_cases e:j=k
     ·subst e;exact t.out
     ·exact q.out j hj (by omega)
    case measure=>simp[intOf];omega
  ·go_wp2
   go_ret;refine⟨?_,c⟩;have e:findAt ep o=none:=Qq.2 fun x hx=>by
    obtain⟨j,hj,rfl⟩:=mH hx;exact q.out j hj (by rw[<-m.out]at hj;omega)
   rw[e];rfl
end Go.Proofs.YtlgidcmmgohagaaGreat
