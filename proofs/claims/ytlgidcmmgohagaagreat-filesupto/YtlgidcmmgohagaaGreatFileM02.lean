/- What is proved here: the gid functions over no list at all. -/
import Derived.Test.YtlgidcmmgohagaaGreatFileM01
import Derived.Shelf.SlSortCmp.NoneTotal
import Derived.Deep.QuietTactic
import Derived.BigQuiet
import Derived.OwnWalk
import Derived.StillTailTactics
namespace Go.Proofs.YtlgidcmmgohagaaGreat
open Go.RowKit Go.Sort Go.Shelf Go.Proofs.Tryz
set_option linter.unusedVariables false
set_option maxRecDepth 100000
set_option maxHeartbeats 16000000
variable {v:Value}{base bd bf bm cap j k n p r s size:Nat}{D Dd Df:DataW Unit}{C:World->Prop}{e t:gi}{o:Ob}{Q:Act->Prop}{ey ky eC:List Ob}{F F' G:Nat->Prop}{c:UInt8}{es out:List eN}{l:List UInt8}{w w':World}{rest:List Oper}{a:fD}{xs:fQ}{ops:Array Oper}
variable {ft:gA}
theorem AG{P:Program}(w:World)(c sT g b:gi)(size:Nat)(d a:fD)(e h f j:Nat)(hu:P.underlying c=some (.slice b))(hs:(P.info? b).map (·.size)=some size)(hn:Nat.min f e=0):
  (Builtin.copy_ #[c,sT] g #[.slice d e h,.slice a f j]).run P w=.ok (goInt 0) w:=by
 cases hq:P.info? b with
 |none=>simp[hq]at hs
 |some i=>
  have hl:∀(x:Addr),(loadCells x 0).run P w=.ok #[] w:=fun x=>by simpa using run_loadCells_list (P:=P) w x [] (by simp)
  cases d<;>cases a<;>simp[Builtin.copy_,SX hu,Builtin.lenOf,Builtin.firstCells,sizeOf,typeInfo,hq,hn,storeCells,hl]
theorem wD{P:Program}{o:Oper}{a:Act}{Q:Exit->Act->World->Prop}(l:o.guard=none)(d s:Operand)(b sT:gi)
  (ho:o.op=.call { callee:=.builtin .copy,args:=#[d,s],argTypes:=#[b,sT] })(c:gi)(hu:P.underlying b=some (.slice c))(size:Nat)(m:(P.info? c).map (·.size)=some size)
  (g i:fD)(e j f k:Nat)(hd:a.eval d=.slice g e j)(hs:a.eval s=.slice i f k)(hn:Nat.min f e=0)
  (h:wpList P ops Q rest (a.put o.dst (goInt 0)) w):wpList P ops Q (o::rest) a w:=by
 refine Pr l fun K n=>?_;have p:=AG (P:=P) w b sT o.type c size g i e j f k hu m hn;unfold Oper.wp;simp[execOp,ho,resolve,invoke,builtin,hd,hs,p,Result.andThen];exact n _ _ h
theorem Xf(p:Nat)(a:fD)(n cap bf bd:Nat)(ey:List Ob)(j:Nat)(hj:j<ey.length)(w:World)(h:iH ft w p a n cap bf bd ey)(hk:ey[j].kind=2)
  (d:ey[j].ea=none)(f:ey[j].el=0)(g:ey[j].ec=0):
  gc 85 #[hh p,eJ ((j:Int)+1)] w fun e w'=>∃b,e=.returned (.tuple #[.slice (some (eI b 0)) 0 0,eJ 0])/\w'.ownsRow w.heap.size 96 3 (.slice (some (eI b 0)) 0 0) 0 (flat [])/\ik w w':=by
 have i:=qm p a n cap bf bd ey ((j:Int)+1) w h;rw[tx hj,hk]at i;have k:=fun(W:World) (hW:ik w W)=>Tx p a n cap bf bd ey j hj W (h.below hW);rw[d,f,g]at k;have f2:=crc;obtain⟨q,hi,r,s,t⟩:=iq xX;clear d f g hk;go_enter func85,ntmps85;go_wp2_with(first
  |(go_at_call 61;refine i.mono ?_;rintro e F ⟨rfl,c⟩)
  |(go_at_call 113;refine(k _ c).mono ?_;rintro e l ⟨rfl,u⟩)
  |(at_make;refine SZ _ rfl _ _ 55 rfl 0 96 q _ 3 underlying55 hi r s .i64 .i64 _ _ 0 rfl rfl rfl rfl ?_ ?_ (tk _) ?_;go_must(rw[t];omega);go_must(unfold maxLen;omega);intro w3 m v;have o:=c.trans (u.mono c.size);have x:=mC o v;have y:Hid _:=m;clear m)
  |(refine wD rfl (.tmp 19) (.tmp 20) 55 55 rfl 96 underlying55 3 Fp _ none 0 0 0 0 rfl rfl rfl ?_))
 go_ret2;have z:=o.size;refine⟨l.heap.size,rfl,⟨rfl,?_⟩,x.out⟩;rcases y.out.2 with⟨h0,_⟩|⟨b,G,A,hv,_,B,C,D,E,_⟩
 ·cases h0
 ·cases hv;exact .inr ⟨l.heap.size,0,A,rfl,z,B,C,D,E,by simp[flat]⟩
variable {ft:gA}
def fileAt (ey:List Ob)(d:eD):Option Nat:=ey.findIdx? fun o=>decide (o.kind=1)&&decide (o.data=d)
def nj (ey:List Ob)(es:List eN):Option Nat:=ey.findIdx? fun o=>decide (o.kind=2)&&decide (o.eR=es)
def pF (ey:List Ob)(D:DataW Unit):Prop:=∀d:eD,Maps.has D (.string d.data.toList)=(fileAt ey d).isSome/\∀i,fileAt ey d=some i->D.atKey (.string d.data.toList) (.lit (.int .i64 0))=.lit (.int .i64 ((i:Int)+1))
def HP (es:List eN):Prop:=es.length<=16/\∀e∈es,Fits e/\1<=e.1.size
def sL (ey:List Ob)(D:DataW Unit):Prop:=∀es:List eN,HP es->Maps.has D (gD prog es)=(nj ey es).isSome/\∀i,nj ey es=some i->D.atKey (gD prog es) (.lit (.int .i64 0))=.lit (.int .i64 ((i:Int)+1))
def zr (d:eD):Ob:={ kind:=1,data:=d,ea:=none,el:=0,ec:=0,eR:=[],high:=0 }
def TE (g m c:Nat)(es:List eN)(h:Int):Ob:={ kind:=2,data:=ByteArray.empty,ea:=some ⟨g,0,none⟩,el:=m,ec:=c,eR:=es,high:=h }
def PI (w:World)(F:Nat->Prop)(o:Ob):Prop:=
 (o.kind=1/\o.high=0/\o.data.size<=256)\/
 (o.kind=2/\o.eR.length=o.el/\HP o.eR/\gC o.eR/\0<=o.high/\o.high<=5/\(∀g,(Value.slice o.ea o.el o.ec).ownBlock=some g->F g)/\w.ownsRow 0 96 3 (.slice o.ea o.el o.ec) o.el (flat o.eR))
structure qo (ft:gA)(F:Nat->Prop)(w:World)(s p:Nat)(a:fD)(cap bf bd:Nat)(Df Dd:DataW Unit)(ey:List Ob):Prop where
 fs:F s
 fp:F p
 ff:F bf
 fd:F bd
 fr:∀g,(Value.slice a ey.length cap).ownBlock=some g->F g
 hs:w.heap[s]?=some (.cells #[.pointer (some ⟨p,0,none⟩)] 119 (0,0))
 iI:iH ft w p a ey.length cap bf bd ey
 ne:bf≠bd
 files:w.ownsMap prog 9 (plainElem prog 29) bf ey.length Df
 ug:pF ey Df
 AH:w.ownsMap prog 208 (plainElem prog 29) bd ey.length Dd
 ye:sL ey Dd
 zV:∀o∈ey,PI w F o
def Inv (ft:gA)(F:Nat->Prop)(w:World)(s:Nat)(ey:List Ob):Prop:=∃p a cap bf bd Df Dd,qo ft F w s p a cap bf bd Df Dd ey
def lG (ft:gA)(F:Nat->Prop)(w:World)(s p:Nat)(ey:List Ob):Prop:=∃a cap bf bd Df Dd,qo ft F w s p a cap bf bd Df Dd ey
theorem lG.inv(h:lG ft F w s p ey):Inv ft F w s ey:=⟨p,h⟩
structure eA (F:Nat->Prop)(w w':World):Prop where
 os:w'.os=w.os
 tape:w'.tape=w.tape
 output:w'.output=w.output
 size:w.heap.size<=w'.heap.size
 block:∀k,k<w.heap.size->¬F k->w'.heap[k]?=w.heap[k]?
def kp (F:Nat->Prop)(w w':World)(k:Nat):Prop:=F k\/(w.heap.size<=k/\k<w'.heap.size)
theorem eA.eE(h:ik w w'):eA F w w':=⟨h.os,h.tape,h.output,h.size,fun k hk _=>h.block k hk⟩
theorem PI.mono(h:PI w F o)(hF:∀k,k<w.heap.size->F k->F' k)(hk:∀v m xs,w.ownsRow 0 96 3 v m xs->w'.ownsRow 0 96 3 v m xs):PI w' F' o:=by
 rcases h with h|⟨h1,h2,h3,b,c,h6,h8,a⟩
 ·exact .inl h
 ·exact .inr ⟨h1,h2,h3,b,c,h6,fun g hg=>hF g (eK a hg) (h8 g hg),hk _ _ _ a⟩
theorem lG.keep(h:lG ft F w s p ey)(hk:∀k,k<w.heap.size->F k->w'.heap[k]?=w.heap[k]?)(hF:∀k,k<w.heap.size->F k->F' k):lG ft F' w' s p ey:=by
 obtain⟨a,cap,bf,bd,Df,Dd,i⟩:=h;have b:s<w.heap.size:=(nX.1 i.hs).1;have c:∀v m t k xs,w.ownsRow 0 t k v m xs->(∀g,v.ownBlock=some g->F g)->w'.ownsRow 0 t k v m xs:=fun v m t k xs hr e=>eQ hr (fun g hg=>hk g (eK hr hg) (e g hg));refine⟨a,cap,bf,bd,Df,Dd,⟨hF _ b i.fs,hF _ i.iI.at_.lt i.fp,hF _ i.files.lt i.ff,hF _ i.AH.lt i.fd,fun g hg=>hF g (eK i.iI.row hg) (i.fr g hg),(hk s b i.fs).trans i.hs,⟨?_,c _ _ _ _ _ i.iI.row i.fr,i.iI.len,i.iI.many⟩,i.ne,
  tB i.files (hk _ i.files.lt i.ff),i.ug,tB i.AH (hk _ i.AH.lt i.fd),i.ye,fun o ho=>?_⟩⟩
 ·have:=i.iI.at_
  unfold fq at this ⊢;rw[hk p i.iI.at_.lt i.fp];exact this
 ·rcases i.zV o ho with h|⟨h1,h2,h3,f,j,h6,h8,d⟩
  ·exact .inl h
  ·exact .inr ⟨h1,h2,h3,f,j,h6,fun g hg=>hF g (eK d hg) (h8 g hg),c _ _ _ _ _ d h8⟩
theorem lG.below(h:lG ft F w s p ey)(a:ik w w')(hF:∀k,k<w.heap.size->F k->F' k):lG ft F' w' s p ey:=h.keep (fun k hk _=>a.block k hk) hF
theorem sM(ey:List Ob)(o:Ob)(d:eD):fileAt (ey++[o]) d=(fileAt ey d).or (if o.kind=1/\o.data=d then some ey.length else none):=by
 unfold fileAt;rw[List.findIdx?_append]
 congr 1
 by_cases h:o.kind=1/\o.data=d
 ·simp[KR,h]
 ·rw[fY h]
  have:(decide (o.kind=1)&&decide (o.data=d))=false:=by
   rw[<-Bool.decide_and];exact rk h
  simp only[KR,this];simp
theorem vt(ey:List Ob)(o:Ob)(es:List eN):nj (ey++[o]) es=(nj ey es).or (if o.kind=2/\o.eR=es then some ey.length else none):=by
 unfold nj;rw[List.findIdx?_append]
 congr 1
 by_cases h:o.kind=2/\o.eR=es
 ·simp[KR,h]
 ·rw[fY h]
  have:(decide (o.kind=2)&&decide (o.eR=es))=false:=by
   rw[<-Bool.decide_and];exact rk h
  simp only[KR,this];simp
theorem bytes_inj{a b:eD}(h:a.data.toList=b.data.toList):a=b:=by
 cases a;cases b
 congr 1
 exact WH.1 h
theorem pF.put(h:pF ey D)(hD:Maps.IsMap D)(d:eD)(hd:fileAt ey d=none):pF (ey++[zr d]) (D.put (.string d.data.toList) (.lit (.int .i64 ((ey.length:Int)+1)))):=by
 intro a;rw[sM];by_cases e:d=a
 ·subst e
  rw[hd,ie ⟨rfl,rfl⟩];refine⟨?_,?_⟩
  ·rw[Maps.has_put_same hD (show WideAt.IsKeyLit (.string d.data.toList)from trivial)];rfl
  ·intro i hi
   simp only[Option.none_or,mZ]at hi;subst hi;exact Maps.atKey_put_same hD (show WideAt.IsKeyLit (.string d.data.toList)from trivial) _ _
 ·have hne:(Lit.string a.data.toList)≠.string d.data.toList:=fun h=>e (bytes_inj (by simpa using h.symm))
  rw[fY (fun h=>e h.2),Option.or_none];refine⟨?_,?_⟩
  ·rw[Maps.has_put_other hne];exact(h a).1
  ·intro i hi
   rw[Maps.atKey_put_other hne];exact(h a).2 i hi
theorem pF.other(h:pF ey D)(ho:o.kind≠1):pF (ey++[o]) D:=by
 intro a;rw[sM,fY (fun h=>ho h.1),Option.or_none];exact h a
theorem sL.put(h:sL ey D)(hD:Maps.IsMap D)(hn:HP es)(hd:nj ey es=none)(hk:o.kind=2)(a:o.eR=es):
  sL (ey++[o]) (D.put (gD prog es) (.lit (.int .i64 ((ey.length:Int)+1)))):=by
 intro es' b;have c:=mW es hn.1 (fun e a=>(hn.2 e a).1);have kl:WideAt.IsKeyLit (gD prog es):=NW.key c;rw[vt,a];by_cases e:es=es'
 ·subst e
  rw[hd,ie ⟨hk,rfl⟩];refine⟨?_,?_⟩
  ·rw[Maps.has_put_same hD kl];rfl
  ·intro i hi
   simp only[Option.none_or,mZ]at hi;subst hi;exact Maps.atKey_put_same hD kl _ _
 ·have hne:gD prog es'≠gD prog es:=fun h=>e (Lg hn.1 b.1 (fun e a=>(hn.2 e a).1) (fun e a=>(b.2 e a).1) (fun e a=>(hn.2 e a).2) (fun e a=>(b.2 e a).2) h.symm)
  rw[fY (fun h=>e h.2),Option.or_none];refine⟨?_,?_⟩
  ·rw[Maps.has_put_other hne];exact(h es' b).1
  ·intro i hi
   rw[Maps.atKey_put_other hne];exact(h es' b).2 i hi
theorem sL.other(h:sL ey D)(ho:o.kind≠2):sL (ey++[o]) D:=by
 intro es' a;rw[vt,fY (fun h=>ho h.1),Option.or_none];exact h es' a
theorem wE(ey:List Ob)(o:Ob):fN (ey++[o])=fN ey++o.cells:=by simp[fN]
theorem yc.other{k:gi}{cells:fQ}(h:yc ft w w' p a n cap bf bd bm k cells D)(hp:iH ft w p a n cap bf bd ey)
  {P:Program}{c:gi}{R:Value->Option (DataW Unit×List MemPlace)}{b m:Nat}{d:DataW Unit}(hm:w.ownsMap P c R b m d)(hne:b≠bm):w'.ownsMap P c R b m d:=by
 obtain⟨i,j,_,_,_,_,f⟩:=h;obtain⟨es,l,e⟩:=tz hm;have g:b≠p:=by rintro rfl;have:=hp.at_;unfold fq at this;rw[e]at this;cases this
 exact tB hm (f.block b hm.lt g hne (ul hp.row e))
theorem qo.grow{Df Dd c d:DataW Unit}(i:qo ft F w s p a cap bf bd Df Dd ey){k:gi}
  (hg:yc ft w w' p a ey.length cap bf bd bm k (fN ey++o.cells) D)(hn:ey.length<400)(hF:F bm){j:Array MapEntry}{l:Nat}(hm:w.heap[bm]?=some (.map j l))(ho:PI w' (kp F w w') o)
  (hf:w'.ownsMap prog 9 (plainElem prog 29) bf (ey.length+1) c)(n:pF (ey++[o]) c)
  (hd:w'.ownsMap prog 208 (plainElem prog 29) bd (ey.length+1) d)(q:sL (ey++[o]) d):
  lG ft (kp F w w') w' s p (ey++[o])/\eA F w w':=by
 have r:=hg;obtain⟨t,u,h1,h2,h3,E,b⟩:=hg;have y:s<w.heap.size:=(nX.1 i.hs).1;have z:s≠p:=ni i.hs i.iI.at_ (by decide);have A:s≠bm:=by rintro rfl;have:=i.hs;rw[hm]at this;cases this
 have B:=fX i.iI.row i.hs (by decide);have hl:(ey++[o]).length=ey.length+1:=by simp
 refine⟨⟨some (eI t 0),u,bf,bd,c,d,⟨.inl i.fs,.inl i.fp,.inl i.ff,.inl i.fd,?_,?_,⟨?_,?_,?_,?_⟩,i.ne,?_,n,?_,q,?_⟩⟩,⟨b.os,b.tape,b.output,b.size,?_⟩⟩
 ·intro g f
  rcases h3 with h|h
  ·refine .inl (i.fr g ?_)
   rw[<-h];exact f
  ·simp only[Value.ownBlock,mZ]at f
   subst f;exact .inr ⟨h,eK h2 rfl⟩
 ·rw[b.block s y z A B];exact i.hs
 ·rw[hl];exact h1
 ·rw[hl,wE];exact h2
 ·rfl
 ·rw[hl];omega
 ·rw[hl];exact hf
 ·rw[hl];exact hd
 ·intro x hx
  rcases sB.1 hx with h|h
  ·exact(i.zV x h).mono (fun k hk C=>.inl C) (fun v m xs hr=>r.keeps i.iI hm hr (by decide) (by decide))
  ·rw[nh.1 h];exact ho
 ·intro k hk TF
  refine b.block k hk (fun e=>TF (e▸i.fp)) (fun e=>TF (e▸hF)) (fun e=>TF (i.fr k e.symm))
theorem qo.c0(i:qo ft F w s p a cap bf bd Df Dd ey):w.cell? (eI s 0)=some (hh p):=by simp[World.cell?,i.hs]
def jB (ey ky:List Ob)(d:eD)(e:Ending):Prop:=
 (256<d.size/\ky=ey/\e=.returned (.tuple #[.int .i64 0,.int .i64 11]))\/
 (d.size<=256/\ky=ey/\∃i,fileAt ey d=some i/\e=.returned (.tuple #[.int .i64 ((i:Int)+1),.int .i64 0]))\/
 (d.size<=256/\fileAt ey d=none/\400<=ey.length/\ky=ey/\e=.returned (.tuple #[.int .i64 0,.int .i64 11]))\/
 (d.size<=256/\fileAt ey d=none/\ey.length<400/\ky=ey++[zr d]/\e=.returned (.tuple #[.int .i64 ((ey.length:Int)+1),.int .i64 0]))
theorem jB.shape{d:eD}{e:Ending}(h:jB ey ky d e):∃x y,e=.returned (.tuple #[eJ x,eJ y]):=by
 rcases h with⟨_,_,h⟩|⟨_,_,_,_,h⟩|⟨_,_,_,_,h⟩|⟨_,_,_,_,h⟩<;>exact⟨_,_,h⟩
theorem TG(i:qo ft F w s p a cap bf bd Df Dd ey)(d:eD)(hd:d.size<=maxLen):
  gc 77 #[hh p,.string d] w fun e w'=>∃ky,jB ey ky d e/\lG ft (kp F w w') w' s p ky/\eA F w w':=by
 have inv:lG ft F w s p ey:=⟨a,cap,bf,bd,Df,Dd,i⟩;have same:∀w',ik w w'->lG ft (kp F w w') w' s p ey/\eA F w w':=fun w' f=>⟨inv.below f (fun k _ h=>.inl h),eA.eE f⟩;by_cases hs:d.size<=256
 ·cases hf:fileAt ey d with
  |some j=>
   obtain⟨c,n⟩:=i.ug d;rw[hf]at c;refine(Hy p a ey.length cap bf bd Df d ((j:Int)+1) w i.iI.at_ hs i.files c (n j hf)).mono fun e w' ⟨b,hw⟩=>?_;subst hw;exact⟨ey,.inr (.inl ⟨hs,rfl,j,hf,b⟩),same _ (lh _ _)⟩
  |none=>
   obtain⟨c,_⟩:=i.ug d;rw[hf]at c;by_cases hn:400<=ey.length
   ·refine(Fl p a ey.length cap bf bd Df d w i.iI.at_ hs hn i.files c).mono fun e w' ⟨b,f⟩=>?_
    exact⟨ey,.inr (.inr (.inl ⟨hs,hf,hn,rfl,b⟩)),same _ f⟩
   ·have g:ey.length<400:=by omega
    refine(Hz p a ey.length cap bf bd (fN ey) Df d w i.iI.at_ hs g i.iI.row i.files c).mono fun e w' ⟨b,l⟩=>?_;have m:yc ft w w' p a ey.length cap bf bd bf 9 (fN ey++(zr d).cells) (Df.put (.string d.data.toList) (.lit (.int .i64 ((ey.length:Int)+1)))):=l;obtain⟨q,r,o⟩:=tz i.files;obtain⟨_,_,_,_,_,hfm,_⟩:=l;exact⟨_,.inr (.inr (.inr ⟨hs,hf,g,rfl,b⟩)),i.grow m g i.ff o (.inl ⟨rfl,rfl,hs⟩) hfm (i.ug.put i.files.isMap d hf)
     ((m.other i.iI i.AH i.ne.symm).mono (gV _)) (i.ye.other (show(1:Int)≠2 by decide))⟩
 ·refine(Hx p d w (by omega) hd).mono fun e w' ⟨b,hw⟩=>?_
  subst hw;exact⟨ey,.inl ⟨by omega,rfl,b⟩,same _ (lh _ _)⟩
def iJ (ey ky:List Ob)(es:List eN)(e:Ending):Prop:=
 ((∃x∈es,eG x.1=false)/\ky=ey/\e=.returned (.tuple #[.int .i64 0,.int .i64 1]))\/
 ((∀x∈es,eG x.1=true)/\
  ((¬(es.map (·.1)).Nodup/\ky=ey/\e=.returned (.tuple #[.int .i64 0,.int .i64 6]))\/
   ((es.map (·.1)).Nodup/\16<es.length/\ky=ey/\e=.returned (.tuple #[.int .i64 0,.int .i64 11]))\/
   ((es.map (·.1)).Nodup/\es.length<=16/\(∃x∈es,EQ ey x=false)/\ky=ey/\e=.returned (.tuple #[.int .i64 0,.int .i64 13]))\/
   ((es.map (·.1)).Nodup/\es.length<=16/\(∀x∈es,EQ ey x=true)/\∃es',es'.Perm es/\gC es'/\HP es'/\
    ((5<fI ey es'/\ky=ey/\e=.returned (.tuple #[.int .i64 0,.int .i64 11]))\/
    (fI ey es'<=5/\ky=ey/\∃i,nj ey es'=some i/\e=.returned (.tuple #[.int .i64 ((i:Int)+1),.int .i64 0]))\/
    (fI ey es'<=5/\nj ey es'=none/\400<=ey.length/\ky=ey/\e=.returned (.tuple #[.int .i64 0,.int .i64 11]))\/
    (fI ey es'<=5/\nj ey es'=none/\ey.length<400/\(∃o:Ob,o.kind=2/\o.eR=es'/\o.high=fI ey es'/\ky=ey++[o])/\e=.returned (.tuple #[.int .i64 ((ey.length:Int)+1),.int .i64 0]))))))
theorem iJ.shape{e:Ending}(h:iJ ey ky es e):∃x y,e=.returned (.tuple #[eJ x,eJ y]):=by
 rcases h with⟨_,_,h⟩|⟨_,⟨_,_,h⟩|⟨_,_,_,h⟩|⟨_,_,_,_,h⟩|⟨_,_,_,_,_,_,_,⟨_,_,h⟩|⟨_,_,_,_,h⟩|⟨_,_,_,_,h⟩|⟨_,_,_,_,h⟩⟩⟩<;>exact⟨_,_,h⟩
theorem qo.fI(i:qo ft F w s p a cap bf bd Df Dd ey):∀o∈ey,0<=o.high/\o.high<=5:=by
 intro o ho;rcases i.zV o ho with⟨_,h,_⟩|⟨_,_,_,_,b,h6,_⟩
 ·rw[h];decide
 ·exact⟨b,h6⟩
theorem qo.kinds(i:qo ft F w s p a cap bf bd Df Dd ey):∀o∈ey,o.kind=1\/o.kind=2:=by
 intro o ho;rcases i.zV o ho with⟨h,_⟩|⟨h,_⟩
 ·exact .inl h
 ·exact .inr h
theorem Xg(i:qo ft F w s p a cap bf bd Df Dd ey)(b off m c0:Nat)(es:List eN)
  (hl:es.length=m)(K:b<w.heap.size)(L:m*32<=140737488355328)(hc:∀j G,(flat es)[j]?=some G->w.cell? (eI b (off+j))=some G)(M:∀e∈es,e.1.size<=maxLen):
  gc 60 #[hh p,.slice (some (eI b off)) m c0] w fun e w'=>∃ky,iJ ey ky es e/\lG ft (kp F w w') w' s p ky/\eA F w w':=by
 have inv:lG ft F w s p ey:=⟨a,cap,bf,bd,Df,Dd,i⟩;have same:∀w',ik w w'->lG ft (kp F w w') w' s p ey/\eA F w w':=fun w' f=>⟨inv.below f (fun k _ h=>.inl h),eA.eE f⟩;have H:∀es',es'.Perm es->(∀x∈es,eG x.1=true)->(∀x∈es,EQ ey x=true)->es.length<=16->HP es':=fun es' l hv hg iE=>
  ⟨by rw[l.length_eq];exact iE,fun e d=>⟨Oa i.kinds i.iI.many (hv e (l.mem_iff.1 d)) (hg e (l.mem_iff.1 d)),(wn (hv e (l.mem_iff.1 d))).1⟩⟩
 refine(Li p b off m c0 a ey.length cap bf bd ey Dd es w i.iI i.AH hl K L hc M i.fI i.kinds).mono fun e w' hD=>?_;rcases hD with⟨f,⟨n,d⟩|⟨n,⟨o,d⟩|⟨o,q,d⟩|⟨o,q,hD,d⟩|⟨o,q,hD,es',l,y,B⟩⟩⟩|⟨n,o,q,hD,hn,es',l,y,B,N,z,d,g,E,C,I⟩
 ·exact⟨ey,.inl ⟨n,rfl,d⟩,same _ f⟩
 ·exact⟨ey,.inr ⟨n,.inl ⟨o,rfl,d⟩⟩,same _ f⟩
 ·exact⟨ey,.inr ⟨n,.inr (.inl ⟨o,q,rfl,d⟩)⟩,same _ f⟩
 ·exact⟨ey,.inr ⟨n,.inr (.inr (.inl ⟨o,q,hD,rfl,d⟩))⟩,same _ f⟩
 ·have t:=H es' l n hD q
  obtain⟨u,O⟩:=i.ye es' t;rcases B with⟨A,d⟩|⟨A,z,c,P,d⟩|⟨A,z,hn,d⟩
  ·exact⟨ey,.inr ⟨n,.inr (.inr (.inr ⟨o,q,hD,es',l,y,t,.inl ⟨A,rfl,d⟩⟩))⟩,same _ f⟩
  ·rw[z]at u
   cases v:nj ey es' with
   |none=>rw[v]at u;cases u
   |some j=>
    have hc:=(O j v).symm.trans P;have Q:c=(j:Int)+1:=by simpa using hc.symm
    subst Q;exact⟨ey,.inr ⟨n,.inr (.inr (.inr ⟨o,q,hD,es',l,y,t,.inr (.inl ⟨A,rfl,j,v,d⟩)⟩))⟩,same _ f⟩
  ·rw[z]at u
   have v:nj ey es'=none:=by simpa using u.symm
   exact⟨ey,.inr ⟨n,.inr (.inr (.inr ⟨o,q,hD,es',l,y,t,.inr (.inr (.inl ⟨A,v,hn,rfl,d⟩))⟩))⟩,same _ f⟩
 ·have t:=H es' l n hD q
  obtain⟨u,_⟩:=i.ye es' t;rw[z]at u;have v:nj ey es'=none:=by simpa using u.symm
  have hle:es'.length=m:=by rw[l.length_eq,hl]
  obtain⟨Z,aa,R⟩:=tz i.AH;have J:yc ft w w' p a ey.length cap bf bd bd 208 (fN ey++(TE g m E es' (YtlgidcmmgohagaaGreat.fI ey es')).cells) (Dd.put (gD prog es') (.lit (.int .i64 ((ey.length:Int)+1)))):=I;obtain⟨_,_,_,_,_,S,_⟩:=I;have T:w.heap.size<=g/\g<w'.heap.size:=by
   refine⟨?_,eK C rfl⟩;rcases C.2 with⟨h,_⟩|⟨D,_,_,hv,f,_⟩
   ·cases h
   ·cases hv;exact f
  have U:w'.ownsRow 0 96 3 (.slice (some (eI g 0)) m E) m (flat es'):=by
   refine⟨C.1,?_⟩;rcases C.2 with h|⟨D,V,W,hv,f,r⟩
   ·exact .inl h
   ·exact .inr ⟨D,V,W,hv,tk _,r⟩
  have X:PI w' (kp F w w') (TE g m E es' (YtlgidcmmgohagaaGreat.fI ey es')):=.inr ⟨rfl,hle,t,y,N,B,fun D Y=>by(obtain rfl:g=D:=by simpa [TE,Value.ownBlock]using Y);exact .inr T,U⟩;exact⟨_,.inr ⟨n,.inr (.inr (.inr ⟨o,q,hD,es',l,y,t,.inr (.inr (.inr ⟨B,v,hn,⟨_,rfl,rfl,rfl,rfl⟩,d⟩))⟩))⟩,
   i.grow J hn i.fd R X ((J.other i.iI i.files i.ne).mono (gV _)) (i.ug.other (show(2:Int)≠1 by decide)) S (i.ye.put i.AH.isMap t v rfl rfl)⟩
theorem Fx(h:lG ft F w s p ey)(b off m c0:Nat)(es:List eN)
  (hl:es.length=m)(n:b<w.heap.size)(c:m*32<=140737488355328)(hc:∀j d,(flat es)[j]?=some d->w.cell? (eI b (off+j))=some d)(f:∀e∈es,e.1.size<=maxLen):
  gc 26 #[hh s,.slice (some (eI b off)) m c0] w fun e w'=>∃ky,iJ ey ky es e/\lG ft (kp F w w') w' s p ky/\eA F w w':=by
 obtain⟨a,cap,bf,bd,Df,Dd,i⟩:=h;have g:=Xg i b off m c0 es hl n c hc f;have c0:=i.c0;clear i hc f hl c;go_enter func26,ntmps26;go_wp2_with fail;refine g.mono ?_;rintro e w' ⟨ky,nK,k⟩;obtain⟨x,y,Ab⟩:=nK.shape;have o:Hid (iJ ey ky es e):=nK;have q:Hid (lG ft (kp F w w') w' s p ky/\eA F w w'):=k;have l:Hid (e=.returned (.tuple #[eJ x,eJ y])):=Ab;clear nK k Ab g;rw[l.out];go_wp2;go_ret2;exact⟨ky,l.out▸o.out,q.out⟩
def Fy (ey:List Ob)(id:Int)(e:Ending):Prop:=
 (eM ey id≠1/\e=.returned (.tuple #[.string ByteArray.empty,.int .i64 13]))\/∃j,∃hj:j<ey.length,id=(j:Int)+1/\ey[j].kind=1/\e=.returned (.tuple #[.string ey[j].data,.int .i64 0])
def Fz (w w':World)(ey:List Ob)(id:Int)(e:Ending):Prop:=
 (eM ey id≠2/\e=.returned (.tuple #[.slice none 0 0,.int .i64 13]))\/
 ∃j,∃hj:j<ey.length,id=(j:Int)+1/\ey[j].kind=2/\∃g,e=.returned (.tuple #[.slice (some ⟨g,0,none⟩) ey[j].eR.length ey[j].eR.length,.int .i64 0])/\
  w'.ownsRow w.heap.size 96 3 (.slice (some ⟨g,0,none⟩) ey[j].eR.length ey[j].eR.length) ey[j].eR.length (flat ey[j].eR)
theorem AJ(i:qo ft F w s p a cap bf bd Df Dd ey)(id:Int):
  gc 85 #[hh p,eJ id] w fun e w'=>Fz w w' ey id e/\ik w w':=by
 by_cases hk:eM ey id=2
 ·have hid:¬(id<1\/(ey.length:Int)<id):=fun h=>by rw[Pl h]at hk;cases hk
  obtain⟨j,rfl⟩:∃j:Nat,id=(j:Int)+1:=⟨(id-1).toNat,by omega⟩;have hj:j<ey.length:=by omega
  rw[tx hj]at hk;rcases i.zV ey[j] (kj hj) with⟨h1,_⟩|⟨_,h2,h3,_,_,_,_,d⟩
  ·rw[h1]at hk;cases hk
  ·obtain⟨g,f⟩|⟨f,l,n⟩:(∃g,ey[j].ea=some (eI g 0))\/(ey[j].ea=none/\ey[j].el=0/\ey[j].ec=0):=by
    rcases d.2 with⟨hv,h0⟩|⟨g,o,q,hv,_⟩
    ·simp only[Value.slice.injEq]at hv;exact .inr hv
    ·simp only[Value.slice.injEq]at hv;exact .inl ⟨g,hv.1⟩
   rotate_left
   ·have m:ey[j].eR=[]:=Ao.1 (h2.trans l)
    refine(Xf p a ey.length cap bf bd ey j hj w i.iI hk f l n).mono fun e w' ⟨k,b,hr,c⟩=>⟨.inr ⟨j,hj,rfl,hk,k,?_,?_⟩,c⟩
    ·rw[m];exact b
    ·rw[m];exact hr
   rw[f]at d;refine(Tz p a ey.length cap bf bd ey j g ey[j].el ey[j].ec ey[j].eR hj w i.iI hk f rfl rfl (by rw[<-h2];exact h3.1) h2 (eK d rfl) (jn d)).mono fun e w' ⟨k,b,hr,c⟩=>⟨.inr ⟨j,hj,rfl,hk,k,?_,?_⟩,c⟩
   ·rw[h2];exact b
   ·rw[h2];exact hr
 ·exact(Xe p a ey.length cap bf bd ey id w i.iI hk).mono fun e w' ⟨b,c⟩=>⟨.inl ⟨hk,b⟩,c⟩
theorem FA(w:World):gc 25 #[] w fun e w'=>∃s,e=.returned (hh s)/\Inv pt0 (kp (fun _=>False) w w') w' s []/\ik w w':=by
 refine(Fi w).mono fun e w' ⟨c,hw⟩=>?_;refine⟨_,c,?_,?_⟩
 ·subst hw
  have f:∀a o2 o3 b:Obj,((((w.alloc a).alloc o2).alloc o3).alloc b).heap[w.heap.size+3]?=some b:=fun a o2 o3 b=>by
   have:=su (((w.alloc a).alloc o2).alloc o3) b
   simpa using this
  have e2:∀a o2 o3 b:Obj,((((w.alloc a).alloc o2).alloc o3).alloc b).heap[w.heap.size+2]?=some o3:=fun a o2 o3 b=>by
   rw[SR _ _ _ (by simp)]
   have:=su ((w.alloc a).alloc o2) o3
   simpa using this
  have h:∀a o2 o3 b:Obj,((((w.alloc a).alloc o2).alloc o3).alloc b).heap[w.heap.size+1]?=some o2:=fun a o2 o3 b=>by
   rw[SR _ _ _ (by simp),SR _ _ _ (by simp)];exact heap_alloc2_new w a o2
  have j:∀a o2 o3 b:Obj,((((w.alloc a).alloc o2).alloc o3).alloc b).heap[w.heap.size]?=some a:=fun a o2 o3 b=>by
   rw[SR _ _ _ (by simp;omega),SR _ _ _ (by simp;omega)];exact Zi w a o2
  refine⟨w.heap.size+2,none,0,w.heap.size,w.heap.size+1,.map [],.map [],⟨.inr (by simp),.inr (by simp),.inr (by simp;omega),.inr (by simp),?_,f _ _ _ _,⟨e2 _ _ _ _,jf _ _ _ _,rfl,by simp⟩,by omega,?_,?_,?_,?_,?_⟩⟩
  ·intro g hg;cases hg
  ·exact⟨#[],0,j _ _ _ _,⟨by simp,MapKept.stamped_empty 0,by simp⟩,kx _,rfl⟩
  ·intro d;exact⟨rfl,fun i hi=>by cases hi⟩
  ·exact⟨#[],0,h _ _ _ _,⟨by simp,MapKept.stamped_empty 0,by simp⟩,kx _,rfl⟩
  ·intro es _;exact⟨rfl,fun i hi=>by cases hi⟩
  ·intro o ho;cases ho
 ·rw[hw]
  exact((((lh _ _).alloc (kx _) _).alloc (by simp) _).alloc (by simp;omega) _).alloc (by simp;omega) _
variable {ft:gA}
theorem CT(h:lG ft F w s p ey)(d:eD)(hd:d.size<=maxLen):
  gc 35 #[hh s,.string d] w fun e w'=>∃ky,jB ey ky d e/\lG ft (kp F w w') w' s p ky/\eA F w w':=by
 obtain⟨a,cap,bf,bd,Df,Dd,i⟩:=h;have b:=TG i d hd;have c0:=i.c0;clear i hd;go_enter func35,ntmps35;go_wp2_with fail;refine b.mono ?_;rintro e w' ⟨ky,nK,c⟩;obtain⟨x,y,Ab⟩:=nK.shape;have g:Hid (jB ey ky d e):=nK;have j:Hid (lG ft (kp F w w') w' s p ky/\eA F w w'):=c;have f:Hid (e=.returned (.tuple #[eJ x,eJ y])):=Ab;clear nK c Ab b;rw[f.out];go_wp2;go_ret2;exact⟨ky,f.out▸g.out,j.out⟩
def ji (a b:eD):Bool:=decide (Lib.compareBytes a.data.toList b.data.toList<0)
theorem AK:∀(k:Nat) (a b:List UInt8),k<=a.length->k<=b.length->a.take k=b.take k->Lib.compareBytes a b=Lib.compareBytes (a.drop k) (b.drop k)
 |0,_,_,_,_,_=>rfl
 |k+1,[],_,h,_,_=>by simp at h
 |k+1,_::_,[],_,h,_=>by simp at h
 |k+1,x::r,y::s,h1,h2,h=>by
  simp only[SQ,sG]at h
  obtain⟨rfl,h⟩:=h
  simp only[Lib.compareBytes,xW,Py,Pk]
  exact AK k r s (by simpa using h1) (by simpa using h2) h
theorem Zq{a b:List UInt8}(h1:k<a.length)(h2:k<b.length)(h:a.take k=b.take k)(hne:a[k]≠b[k]):decide (Lib.compareBytes a b<0)=decide (a[k]<b[k]):=by
 rw[AK k a b (by omega) (by omega) h,Hh h1,Hh h2];rcases xV a[k] b[k]with c|c|c
 ·simp[Lib.compareBytes,c]
 ·exact absurd c hne
 ·simp[Lib.compareBytes,c,ox c]
theorem Oc{a b:List UInt8}(h1:k<=a.length)(h2:k<=b.length)(h:a.take k=b.take k)(c:k=a.length\/k=b.length):decide (Lib.compareBytes a b<0)=decide (a.length<b.length):=by
 rw[AK k a b h1 h2 h];rcases c with c|c
 ·subst c
  rw[List.drop_length];cases d:b.drop a.length with
  |nil=>have:=xr List.length d;simp at this;simp[Lib.compareBytes];omega
  |cons x r=>have:=xr List.length d;simp at this;simp[Lib.compareBytes];omega
 ·subst c
  rw[List.drop_length];cases e:a.drop b.length with
  |nil=>have:=xr List.length e;simp at this;simp[Lib.compareBytes];omega
  |cons x r=>have:=xr List.length e;simp at this;simp[Lib.compareBytes];omega
theorem TH(a b:eD)(w:World)(n:a.size<=maxLen)(o:b.size<=maxLen):
  gc 169 #[.string a,.string b] w fun e w'=>e=.returned (.bool (ji a b))/\∃q,w'=w.drewN q:=by
 unfold maxLen at n o;have la:a.data.toList.length=a.size:=ng;have l:b.data.toList.length=b.size:=ng;have c:Hid (a.data.toList.length=a.size):=la;have d:Hid (b.data.toList.length=b.size):=l;clear la l;go_enter func169,ntmps169;go_wp2
 go_loopw [5] (fun i wr=>∃k:Nat,k<=a.size/\k<=b.size/\i=.int .i64 k/\Hid (∃q,wr=w.drewN q)/\Hid (a.data.toList.take k=b.data.toList.take k)) (fun i _=>a.size-(intOf i).toNat)
 case atStart=>exact⟨0,tk _,tk _,rfl,⟨0,rfl⟩,rfl⟩
 case round=>
  obtain⟨k,m,hk2,rfl,f,g⟩:=hrel;by_cases h1:k<a.size
  ·by_cases h2:k<b.size
   ·by_cases hne:((a[k].toNat:Int)==(b[k].toNat:Int))=true
    ·have j:Hid (a[k]=b[k]):=Tb.1 (by have:=eq_of_beq hne;omega)
     go_wp2
     go_quiet (fail)
     go_wp2;go_roundw
     case rel=>
      refine⟨k+1,by omega,by omega,by go_num,?_,?_⟩
      ·obtain⟨q,hq⟩:=f.out;exact⟨q+nq,by rw[hq,Fb]⟩
      ·show _=_
       rw[vZ (by rw[c.out];exact h1),vZ (by rw[d.out];exact h2),g.out];exact xr _ (xr (· :: []) j.out)
     case measure=>simp[intOf];omega
    ·have p:((a[k].toNat:Int)==(b[k].toNat:Int))=false:=by simpa using hne
     have j:Hid (a[k]≠b[k]):=fun h=>hne (by rw[h];exact Tg _);go_wp2
     go_quiet (fail)
     go_wp2
     go_quiet (fail)
     go_wp2;go_ret;obtain⟨q,hq⟩:=f.out;refine⟨?_,by subst hq;exact⟨_,by rw[Fb,Fb]⟩⟩
     have:=Zq (a:=a.data.toList) (b:=b.data.toList) (k:=k) (by rw[c.out];exact h1) (by rw[d.out];exact h2) g.out j.out
     unfold ji;rw[this]
     congr 2
   ·go_wp2
    go_ret;obtain⟨q,hq⟩:=f.out;refine⟨?_,q,hq⟩
    have:=Oc (k:=k) (by rw[c.out];exact m) (by rw[d.out];exact hk2) g.out (.inr (by rw[d.out];omega))
    unfold ji;rw[this,c.out,d.out]
    congr 2
  ·go_wp2
   go_ret;obtain⟨q,hq⟩:=f.out;refine⟨?_,q,hq⟩
   have:=Oc (k:=k) (by rw[c.out];exact m) (by rw[d.out];exact hk2) g.out (.inl (by rw[c.out];omega))
   unfold ji;rw[this,c.out,d.out]
   congr 2
theorem Od(h:∀j (hj:j<l.length),l[j]≠c):Lib.indexByte l c<0:=by
 have hg:=Lib.indexByte_ge l c;by_cases hn:Lib.indexByte l c<0
 ·exact hn
 ·obtain⟨o,ho⟩:∃o:Nat,Lib.indexByte l c=o:=⟨(Lib.indexByte l c).toNat,by omega⟩
  have:=(Lib.indexByte_some ho).1
  obtain⟨a,b⟩:=wj.1 this;exact absurd b (h o a)
theorem FB(hj:j<l.length)(h:l[j]=c):¬Lib.indexByte l c<0:=by
 intro hn;have hg:=Lib.indexByte_ge l c
 have:Lib.indexByte l c=-1:=by omega
 exact Lib.indexByte_none this j (by rw[jy hj,h])
theorem pG(s:eD)(w:World)(hm:s.size<=maxLen)(h:(s.toList==[])=true\/((s.toList==[])=false/\(12<s.size\/¬12<s.size/\((s.toList==[46])=true\/(s.toList==[46])=false/\(s.toList==[46,46])=true)))):
  gc 150 #[.string s] w fun e w'=>e=.returned (.bool false)/\∃q,w'=w.drewN q:=by
 unfold maxLen at hm;rcases h with h|⟨h0,h|⟨h1,h|⟨h2,h3⟩⟩⟩
 all_goals
  go_enter func150,ntmps150;go_wp2;go_ret;exact⟨rfl,0,rfl⟩
theorem Lj(s:eD)(w:World)(h0:(s.toList==[])=false)(h1:¬12<s.size)(h2:(s.toList==[46])=false)(h3:(s.toList==[46,46])=false)(r:Bool)
  (hr:Hid ((decide (Lib.indexByte s.data.toList 0<0)&&decide (Lib.indexByte s.data.toList 47<0))=r)):
  gc 150 #[.string s] w fun e w'=>e=.returned (.bool r)/\∃q,w'=w.drewN q:=by
 have d:Hid (s.data.toList.length=s.size):=ng;go_enter func150,ntmps150;go_wp2
 go_loopw [3] (fun i wr=>∃k:Nat,k<=s.size/\i=.int .i64 k/\Hid (∃q,wr=w.drewN q)/\Hid (∀j (hj:j<s.data.toList.length),j<k->s.data.toList[j]≠0/\s.data.toList[j]≠47)) (fun i _=>s.size-(intOf i).toNat)
 case atStart=>exact⟨0,tk _,rfl,⟨0,rfl⟩,fun j hj h=>by omega⟩
 case round=>
  obtain⟨k,hk,rfl,a,f⟩:=hrel;by_cases m:k<s.size
  ·have g:k<s.data.toList.length:=by rw[d.out];exact m
   cases b:((s[k].toNat:Int)==0) with
   |true=>
    go_wp2;go_ret;obtain⟨q,hq⟩:=a.out;refine⟨?_,q,hq⟩
    have:s.data.toList[k]=0:=Tb.1 (by have:=eq_of_beq b;show s[k].toNat=0;omega)
    rw[<-hr.out,rk (FB g this)];rfl
   |false=>
    cases c:((s[k].toNat:Int)==47) with
    |true=>
     go_wp2;go_ret;obtain⟨q,hq⟩:=a.out;refine⟨?_,q,hq⟩
     have:s.data.toList[k]=47:=Tb.1 (by have:=eq_of_beq c;show s[k].toNat=47;omega)
     rw[<-hr.out,rk (FB g this),Bool.and_false];rfl
    |false=>
     have n:Hid (s.data.toList[k]≠0/\s.data.toList[k]≠47):=by
      refine⟨fun h=>?_,fun h=>?_⟩
      ·have:s[k]=0:=h
       rw[this]at b;simp at b
      ·have:s[k]=47:=h
       rw[this]at c;simp at c
     go_wp2;go_roundw
     case rel=>
      refine⟨k+1,by omega,by go_num,?_,?_⟩
      ·obtain⟨q,hq⟩:=a.out;exact⟨q,hq⟩
      ·intro j hj o
       by_cases e:j=k
       ·subst e;exact n.out
       ·exact f.out j hj (by omega)
     case measure=>simp[intOf];omega
  ·go_wp2
   go_ret;refine⟨?_,a.out⟩;have l:∀j (hj:j<s.data.toList.length),s.data.toList[j]≠0/\s.data.toList[j]≠47:=fun j hj=>f.out j hj (by rw[d.out]at hj;omega)
   rw[<-hr.out,mz (Od fun j hj=>(l j hj).1),mz (Od fun j hj=>(l j hj).2)];rfl
theorem DA(s:eD)(w:World)(hm:s.size<=maxLen):gc 150 #[.string s] w fun e w'=>e=.returned (.bool (eG s))/\∃q,w'=w.drewN q:=by
 have a:(s.toList==[])=decide (s.size<1):=by
  rw[xO];by_cases h:s.size<1
  ·have:s.data.toList=[]:=CK (by rw[ng];exact(show s.size=0 by omega))
   simp[this,h]
  ·rw[rk h]
   cases hl:s.data.toList with
   |nil=>exact absurd (by have:=xr List.length hl;rw[ng]at this;exact(show s.size<1 by have h2:s.size=0:=this;omega)) h
   |cons x r=>rfl
 unfold eG;cases h0:(s.toList==[]) with
 |true=>
  have:¬1<=s.size:=by have h:=a.symm.trans h0;have:=wm h;omega
  rw[rk this];exact pG s w hm (.inl h0)
 |false=>
  have:1<=s.size:=by have h:=a.symm.trans h0;have:=Wz h;omega
  rw[mz this];by_cases h1:12<s.size
  ·rw[rk (show ¬s.size<=12 by omega)]
   exact pG s w hm (.inr ⟨h0,.inl h1⟩)
  ·rw[mz (show s.size<=12 by omega)]
   cases h2:(s.toList==[46]) with
   |true=>exact pG s w hm (.inr ⟨h0,.inr ⟨h1,.inl h2⟩⟩)
   |false=>
    cases h3:(s.toList==[46,46]) with
    |true=>exact pG s w hm (.inr ⟨h0,.inr ⟨h1,.inr ⟨h2,h3⟩⟩⟩)
    |false=>exact Lj s w h0 h1 h2 h3 _ (show _=_ by simp)
variable {ft:gA}
theorem FC(h:Inv ft F w s ey)(id:Int):
  gc 40 #[hh s,eJ id] w fun e w'=>Fy ey id e/\ik w w':=by
 obtain⟨p,a,cap,bf,bd,Df,Dd,i⟩:=h;have b:=HN p a ey.length cap bf bd ey id w i.iI;have c0:=i.c0;clear i;go_enter func40,ntmps40;go_wp2_with fail;refine b.mono ?_;rintro e w' ⟨d,hf⟩;obtain⟨x,y,Ab⟩:∃x y,e=.returned (.tuple #[.string x,eJ y]):=by
  rcases hf with⟨_,h⟩|⟨_,_,_,_,h⟩<;>exact⟨_,_,h⟩
 have f:Hid (Fy ey id e):=hf;have c:Hid (e=.returned (.tuple #[.string x,eJ y])):=Ab;clear hf Ab b;rw[c.out];go_wp2;go_ret2;exact⟨c.out▸f.out,d⟩
theorem HQ(h:Inv ft F w s ey)(id:Int):
  gc 43 #[hh s,eJ id] w fun e w'=>Fz w w' ey id e/\ik w w':=by
 obtain⟨p,a,cap,bf,bd,Df,Dd,i⟩:=h;have b:=AJ i id;have c0:=i.c0;clear i;go_enter func43,ntmps43;go_wp2_with fail;refine b.mono ?_;rintro e w' ⟨hf,f⟩;obtain⟨x,n,c,y,Ab⟩:∃x n c y,e=.returned (.tuple #[.slice x n c,eJ y]):=by
  rcases hf with⟨_,h⟩|⟨_,_,_,_,_,h,_⟩<;>exact⟨_,_,_,_,h⟩
 have g:Hid (Fz w w' ey id e):=hf;have d:Hid (e=.returned (.tuple #[.slice x n c,eJ y])):=Ab;clear hf Ab b;rw[d.out];go_wp2;go_ret2;exact⟨d.out▸g.out,f⟩
variable {ft:gA}
theorem TI(p:Nat)(a:fD)(n cap:Nat)(w:World)(h0:w.cell? (eI p 0)=some (.slice a n cap)):
  gc 86 #[hh p] w (Do (eJ n) w):=by
 go_enter func86,ntmps86;go_wp2;go_ret;exact⟨rfl,rfl⟩
theorem FD(h:Inv ft F w s ey):
  gc 45 #[hh s] w (Do (eJ (ey.length:Int)) w):=by
 obtain⟨p,a,cap,bf,bd,Df,Dd,i⟩:=h;have b:=TI p a ey.length cap w i.iI.at_.c0;have c0:=i.c0;clear i;go_enter func45,ntmps45;go_wp2_with(go_at_call 86;refine b.mono ?_;rintro e w' ⟨rfl,rfl⟩);go_ret;exact⟨rfl,rfl⟩
theorem wF:(prog.info? 112).map (fun i=>(i.zero,i.size,i.bytes))=some (some (.agg #[.string ByteArray.empty,eJ 0,eJ 0]),3,32):=by kernel_rfl
def wG (out:List eN)(x:eN):List eN:=out.takeWhile (fun y=>ji y.1 x.1)++x::out.dropWhile (fun y=>ji y.1 x.1)
def Ps (a:List eN):List eN:=a.foldl wG []
theorem takeWhile_eq{a:Type}(p:a->Bool):∀(l:List a) (k:Nat),k<=l.length->(∀j (hj:j<l.length),j<k->p l[j]=true)->(∀hk:k<l.length,p l[k]=false)->l.takeWhile p=l.take k/\l.dropWhile p=l.drop k
 |[],0,_,_,_=>⟨rfl,rfl⟩
 |[],k+1,h,_,_=>by simp at h
 |x::r,0,_,_,h=>by have:=h (by simp);simp only[KJ]at this;simp[List.takeWhile,List.dropWhile,this]
 |x::r,k+1,h1,h2,h3=>by
  have hx:=h2 0 (by simp) (by omega)
  simp only[KJ]at hx
  have b:=takeWhile_eq p r k (by simpa using h1) (fun j hj c=>by have:=h2 (j+1) (by simpa using hj) (by omega);simpa using this) (fun hk=>by have:=h3 (by simpa using hk);simpa using this)
  simp[List.takeWhile,List.dropWhile,hx,b.1,b.2]
theorem my(a b:List eN):flat (a++b)=flat a++flat b:=by simp[flat]
theorem ra(W:World)(x:eN)(t:gi)(n:Nat)(hn:n=W.heap.size):∀j a,(ml x)[j]?=some a->(W.alloc (.cells #[.string x.1,eJ x.2.1,eJ x.2.2] t)).cell? (((eI n 0):Addr).add j)=some a:=by
 subst hn;intro j a h
 match j,h with
 |0,h=>simpa [Addr.add,ml]using h
 |1,h=>simpa [Addr.add,ml]using h
 |2,h=>simpa [Addr.add,ml]using h
 |j+3,h=>simp[ml]at h
theorem un{B:Nat}{wo W a:World}(b:Below B wo W)(c:B<=W.heap.size)(d:W.ownsRow B e size v n xs)(hg:W.grownBy a v.ownBlock):Below B wo a:=
 b.grown hg c (fun k h=>(d.lt k h).1)
theorem wH{size g n cap:Nat}(h:w.ownsRow base e size (.slice (some (eI g 0)) n cap) n xs):n<=cap/\cap<=maxLen:=by
 rcases h.2 with⟨h,_⟩|⟨a,b,c,hv,_,_,h1,h2,_⟩
 ·cases h
 ·cases hv;exact⟨h1,h2⟩
theorem PJ(x:eN)(l:List eN):flat (x::l)=ml x++flat l:=rfl
theorem Lk{a:Value}(h:(flat (out.drop k))[j]?=some a):(flat out)[k*3+j]?=some a:=by
 by_cases hk:k<=out.length
 ·have e:flat out=flat (out.take k)++flat (out.drop k):=by rw[<-my,Hl]
  have hl:(flat (out.take k)).length=k*3:=by rw[km,gT,xQ hk]
  rw[e,CJ (by omega),hl,Pj];exact h
 ·rw[Pf (by omega)]at h;simp[flat]at h
theorem pj{base a:Nat}(h:w.ownsRow base e size v n xs)(b:a<=base):w.ownsRow a e size v n xs:=by
 refine⟨h.1,?_⟩;rcases h.2 with h|⟨g,c,d,hv,hg,r⟩
 ·exact .inl h
 ·exact .inr ⟨g,c,d,hv,wl b hg,r⟩
theorem oz(g o j:Nat):((eI g o):Addr).add j=(eI g (o+j)):=by
 unfold Addr.add;split
 ·next h=>subst h;rfl
 ·rfl
theorem DB(out:List eN)(x:eN):(wG out x).Perm (x::out):=by
 unfold wG;refine List.perm_middle.trans ?_;rw[List.takeWhile_append_dropWhile]
theorem rX:∀(a out:List eN),(a.foldl wG out).Perm (a++out)
 |[],out=>List.Perm.refl _
 |x::r,out=>by
  rw[Aq]
  refine(rX r (wG out x)).trans ?_
  refine((DB out x).append_left r).trans ?_
  exact List.perm_middle
theorem jk(a:List eN):(Ps a).Perm a:=by
 have:=rX a []
 rwa [ql]at this
theorem rq{a:List eN}{y:eN}(h:y∈Ps a):y∈a:=(jk a).mem_iff.1 h
theorem pC(x:eN):flat [x]=ml x:=by simp[flat]
theorem yf(hk:k<out.length):flat (out.take k)++ml out[k]=flat (out.take (k+1)):=by
 rw[vZ hk,my,pC]
theorem Ll(b off m c0:Nat)(c:List eN)(w:World)(hl:c.length=m)(hm:m<=16)(P:b<w.heap.size)(hc:∀j l,(flat c)[j]?=some l->w.cell? (eI b (off+j))=some l)(Y:∀e∈c,e.1.size<=maxLen):
  gc 107 #[.slice (some (eI b off)) m c0] w fun e w'=>∃v,e=.returned v/\w'.ownsRow w.heap.size 112 3 v m (flat (Ps c))/\ik w w':=by
 obtain⟨B,hi,C,D,E⟩:=iq wF;have ag:Hid (∀j l,(flat c)[j]?=some l->w.cell? (eI b (off+j))=some l):=hc;have Z:Hid (∀e∈c,e.1.size<=maxLen):=Y;have aa:Hid (c.length=m):=hl;clear hc Y hl;go_enter func107,ntmps107;go_wp2
 go_loopw [3,4] (fun v i wo=>∃k:Nat,k<=m/\i=.int .i64 k/\ik w wo/\wo.ownsRow w.heap.size 112 3 v k (flat (Ps (c.take k)))/\(k=0->v=.slice none 0 0)) (fun _ i _=>m-(intOf i).toNat)
 case atStart=>exact⟨0,tk _,rfl,lh _ _,jf _ _ _ _,fun _=>rfl⟩
 case round=>
  obtain⟨i,hk,rfl,d,n,ah⟩:=hrel;by_cases ai:i<m
  ·have Q:i<c.length:=by rw[aa.out];exact ai
   obtain⟨c0,c1,c2⟩:=ld ag.out Q;obtain⟨x,hx⟩:∃x,x=c[i]:=⟨_,rfl⟩;rw[<-hx]at c0 c1 c2;obtain⟨out,F⟩:∃out,out=Ps (c.take i):=⟨_,rfl⟩;have R:Hid (Ps (c.take (i+1))=wG out x):=by
    show _=_;rw[vZ Q,Ps,SV,F,hx];rfl
   have aj:Hid (x.1.size<=maxLen):=by rw[hx];exact Z.out _ (kj Q)
   have ak:Hid (∀y∈out,y.1.size<=maxLen):=by
    intro y ab;rw[F]at ab;exact Z.out y (zP (rq ab))
   have S:out.length=i:=by
    have:=n.1
    rw[km,<-F]at this;omega
   rw[<-F]at n;clear F hx;have al:=fun(W:World) (hW:ik wr W)=>((d.trans (hW.mono d.size)).cell (p:=(eI b (off+i*3))) P).trans c0
   have am:=fun(W:World) (hW:ik wr W)=>((d.trans (hW.mono d.size)).cell (p:=(eI b (off+i*3+1))) P).trans c1;have an:=fun(W:World) (hW:ik wr W)=>((d.trans (hW.mono d.size)).cell (p:=(eI b (off+i*3+2))) P).trans c2;clear c0 c1 c2;rename World=>wo;go_wp2
   go_loopw [5,6] (fun v j wq=>∃k:Nat,k<=i/\j=.int .i64 k/\ik wo wq/\wq.ownsRow wo.heap.size 112 3 v k (flat (out.take k))/\Hid (∀j (hj:j<out.length),j<k->ji out[j].1 x.1=true)) (fun _ j _=>i-(intOf j).toNat)
   case atStart=>exact⟨0,tk _,rfl,lh _ _,jf _ _ _ _,fun j hj h=>by omega⟩
   case round=>
    obtain⟨k,aD,rfl,a,s,I⟩:=hrel;have d0:=al _ a;have d1:=am _ a;have d2:=an _ a;by_cases ao:k<i
    ·obtain⟨g,cap,rfl⟩:=fj n (by omega)
     have J:g<wo.heap.size:=eK n rfl;have T:k<out.length:=by rw[S];exact ao
     obtain⟨K,L,o2⟩:=ld (off:=0) (jn n) T;rw[iP]at K L o2;have aE:=(a.cell (p:=(eI g (k*3))) J).trans K;have aF:=(a.cell (p:=(eI g (k*3+1))) J).trans L;have aG:=(a.cell (p:=(eI g (k*3+2))) J).trans o2;have M:=fun W=>TH out[k].1 x.1 W (ak.out _ (kj T)) aj.out;cases z:ji out[k].1 x.1 with
     |true=>
      rw[z]at M;have U:Hid (ji out[k].1 x.1=true):=z;clear z K L o2;go_wp2
      go_quiet (first|(go_at_call 169;exact Calls.quiet_of (M _)))
      go_wp2_with(at_builtin;refine vq _ rfl (.tmp 30) (.tmp 35) 106 rfl wo.heap.size 112 B _ 3 32 underlying106 hi C D E rfl (by decide) _ _ _ rfl (s.alloc _) (eI wr.heap.size 0) 1 1 (ml out[k]) rfl rfl ?c1 ?c2 ?c3 ?c4 ?c5 ?_)
      case c1=>exact ra (wr.drewN nq) out[k] _ _ rfl
      case c2=>exact pp out[k]
      case c3=>unfold maxLen;omega
      case c4=>omega
      case c5=>have:=a.size;simp;omega
      intro N t f o _;have q:wo.heap.size<=((wr.drewN nq).alloc (Obj.cells #[Value.string out[k].fst,Value.int IntKind.i64 out[k].snd.fst,Value.int IntKind.i64 out[k].snd.snd] 112)).heap.size:=by have:=a.size;simp;omega
      have r:=un ((iQ a nq).alloc a.size _) q (s.alloc _) o;have ap:t.ownsRow wo.heap.size 112 3 N (k+1) (flat (out.take (k+1))):=by rw[<-yf T];exact f
      clear f o q;go_wp2;go_roundw
      case rel=>
       refine⟨k+1,by omega,by go_num,r,ap,?_⟩;intro j hj A;by_cases e:j=k
       ·subst e;exact U.out
       ·exact I.out j hj (by omega)
      case measure=>simp[intOf];omega
     |false=>
      rw[z]at M;have U:Hid (ji out[k].1 x.1=false):=z;clear z K L o2;go_wp2
      go_quiet (first|(go_at_call 169;exact Calls.quiet_of (M _)))
      go_wp2_with(at_builtin;refine vq _ rfl (.tmp 39) (.tmp 44) 106 rfl wo.heap.size 112 B _ 3 32 underlying106 hi C D E rfl (by decide) _ _ _ rfl (s.alloc _) (eI wr.heap.size 0) 1 1 (ml x) rfl rfl ?c1 ?c2 ?c3 ?c4 ?c5 ?_)
      case c1=>exact ra (wr.drewN nq) x _ _ rfl
      case c2=>exact pp x
      case c3=>unfold maxLen;omega
      case c4=>omega
      case c5=>have:=a.size;simp;omega
      intro N t f o _;have q:wo.heap.size<=((wr.drewN nq).alloc (Obj.cells #[Value.string x.fst,Value.int IntKind.i64 x.snd.fst,Value.int IntKind.i64 x.snd.snd] 112)).heap.size:=by have:=a.size;simp;omega
      have r:=un ((iQ a nq).alloc a.size _) q (s.alloc _) o;obtain⟨aq,ar⟩:=wH n;clear o q;have au:(flat (out.drop k)).length=(i-k)*3:=by rw[km,lz,S]
      have ac:∀j l,(flat (out.drop k))[j]?=some l->t.cell? (((eI g (k*3)):Addr).add j)=some l:=by
       intro j l av;have h1:=Lk av;have h2:=jn n _ _ h1;rw[iP]at h2;have h3:=(r.cell (p:=(eI g (k*3+j))) J).trans h2;rw[oz];exact h3
      have ad:Hid (∀j l,(flat (out.drop k))[j]?=some l->t.cell? (((eI g (k*3)):Addr).add j)=some l):=ac;clear ac;go_wp2_with(at_builtin;refine vq _ rfl (.tmp 46) (.tmp 49) 106 rfl wo.heap.size 112 B _ 3 32 underlying106 hi C D E rfl (by decide) _ _ _ rfl f (eI g (k*3)) (i-k) _ (flat (out.drop k)) rfl au ad.out (iR _) ?c3 ?c4 ?c5 ?_)
      case c3=>unfold maxLen;omega
      case c4=>omega
      case c5=>exact r.size
      intro aw ax ae af _;have ay:=un r r.size f af;have G:ax.ownsRow w.heap.size 112 3 aw (i+1) (flat (Ps (c.take (i+1)))):=by
       rw[R.out];have u:=takeWhile_eq (fun y:eN=>ji y.1 x.1) out k (by omega) (fun j hj A=>I.out j hj A) (fun _=>U.out)
       have:=pj ae d.size
       rw[show k+1+(i-k)=i+1 by omega]at this;unfold wG;rw[u.1,u.2,my,PJ];simpa only[kC]using this
      clear ae af f ad;go_wp2;go_roundw
      case rel=>exact⟨i+1,by omega,by go_num,d.trans (ay.mono d.size),G,fun h=>by omega⟩
      case measure=>simp[intOf];omega
    ·have az:k=i:=by omega
     subst az;have H:Hid (out.take k=out):=lV (by rw[S];exact kx _);have aH:decide ((k:Int)<(k:Int))=false:=by simp
     rw[H.out]at s;rcases Nat.eq_zero_or_pos k with O|O
     ·have hn:=ah O
      subst hn;subst O;simp only[Nat.zero_mul,CQ]at d0 d1 d2;go_wp2
      go_quiet (fail)
      go_wp2_with(at_builtin;refine vq _ rfl (.tmp 39) (.tmp 44) 106 rfl wo.heap.size 112 B _ 3 32 underlying106 hi C D E rfl (by decide) _ _ _ rfl (s.alloc _) (eI wr.heap.size 0) 1 1 (ml x) rfl rfl ?c1 ?c2 ?c3 ?c4 ?c5 ?_)
      case c1=>exact ra (wr.drewN nq) x _ _ rfl
      case c2=>exact pp x
      case c3=>unfold maxLen;omega
      case c4=>omega
      case c5=>have:=a.size;simp;omega
      intro N t f o _;have q:wo.heap.size<=((wr.drewN nq).alloc (Obj.cells #[Value.string x.fst,Value.int IntKind.i64 x.snd.fst,Value.int IntKind.i64 x.snd.snd] 112)).heap.size:=by have:=a.size;simp;omega
      have r:=un ((iQ a nq).alloc a.size _) q (s.alloc _) o;obtain⟨V,X,rfl⟩:=fj f (by omega);obtain⟨aA,aB⟩:=wH f;have G:t.ownsRow w.heap.size 112 3 (.slice (some (eI V 0)) (0+1) X) (0+1) (flat (Ps (c.take (0+1)))):=by
       rw[R.out];have u:=takeWhile_eq (fun y:eN=>ji y.1 x.1) out 0 (by omega) (fun j hj A=>I.out j hj A) (fun h=>by omega)
       have:=pj f d.size
       unfold wG;rw[u.1,u.2,H.out,Pf (by omega),my,pC];exact this
      clear f o q;go_wp2
      all_goals
       go_roundw
       case rel=>exact⟨0+1,by omega,by go_num,d.trans (r.mono d.size),G,fun h=>by omega⟩
       case measure=>simp[intOf];omega
     ·obtain⟨g,cap,rfl⟩:=fj n O
      obtain⟨aq,ar⟩:=wH n;go_wp2
      go_quiet (fail)
      go_wp2_with(at_builtin;refine vq _ rfl (.tmp 39) (.tmp 44) 106 rfl wo.heap.size 112 B _ 3 32 underlying106 hi C D E rfl (by decide) _ _ _ rfl (s.alloc _) (eI wr.heap.size 0) 1 1 (ml x) rfl rfl ?c1 ?c2 ?c3 ?c4 ?c5 ?_)
      case c1=>exact ra (wr.drewN nq) x _ _ rfl
      case c2=>exact pp x
      case c3=>unfold maxLen;omega
      case c4=>omega
      case c5=>have:=a.size;simp;omega
      intro N t f o _;have q:wo.heap.size<=((wr.drewN nq).alloc (Obj.cells #[Value.string x.fst,Value.int IntKind.i64 x.snd.fst,Value.int IntKind.i64 x.snd.snd] 112)).heap.size:=by have:=a.size;simp;omega
      have r:=un ((iQ a nq).alloc a.size _) q (s.alloc _) o;obtain⟨V,X,rfl⟩:=fj f (by omega);obtain⟨aA,aB⟩:=wH f;have G:t.ownsRow w.heap.size 112 3 (.slice (some (eI V 0)) (k+1) X) (k+1) (flat (Ps (c.take (k+1)))):=by
       rw[R.out];have u:=takeWhile_eq (fun y:eN=>ji y.1 x.1) out k (by omega) (fun j hj A=>I.out j hj A) (fun h=>by omega)
       have:=pj f d.size
       unfold wG;rw[u.1,u.2,H.out,Pf (by omega),my,pC];exact this
      clear f o q;go_wp2
      all_goals
       go_roundw
       case rel=>exact⟨k+1,by omega,by go_num,d.trans (r.mono d.size),G,fun h=>by omega⟩
       case measure=>simp[intOf];omega
  ·have aC:i=m:=by omega
   subst aC;have H:Hid (c.take i=c):=lV (by rw[aa.out];omega);rw[H.out]at n;go_wp2;go_ret;exact⟨_,rfl,n,d⟩
theorem TJ(P:Program)(W:World)(x y:eN)(h:(binOp .neq t (.agg #[.string x.1,eJ x.2.1,eJ x.2.2]) (.agg #[.string y.1,eJ y.2.1,eJ y.2.2])).run P W=(if x.fst.toList=y.fst.toList then
   if x.snd.fst=y.snd.fst then
    if x.snd.snd=y.snd.snd then Result.ok (Value.bool false) W else Result.ok (Value.bool true) W
   else Result.ok (Value.bool true) W
  else Result.ok (Value.bool true) W)):(binOp .neq t (.agg #[.string x.1,eJ x.2.1,eJ x.2.2]) (.agg #[.string y.1,eJ y.2.1,eJ y.2.2])).run P W=.ok (.bool (!(decide (x=y)))) W:=by
 rw[h];by_cases e:x=y
 ·subst e;simp
 ·rw[rk e]
  split
  ·next h1=>
   split
   ·next h2=>
    split
    ·next h3=>exact absurd (Ay (sJ h1) (Ay h2 h3)) e
    ·rfl
   ·rfl
  ·rfl
theorem Xh(W:World)(x y:eN):(binOp .neq 112 (.agg #[.string x.1,eJ x.2.1,eJ x.2.2]) (.agg #[.string y.1,eJ y.2.1,eJ y.2.2])).run prog W=.ok (.bool (!(decide (x=y)))) W:=by
 refine TJ _ W x y ?_
 go_simp
theorem TK(W:World)(x y:eN):(binOp .neq 96 (.agg #[.string x.1,eJ x.2.1,eJ x.2.2]) (.agg #[.string y.1,eJ y.2.1,eJ y.2.2])).run prog W=.ok (.bool (!(decide (x=y)))) W:=by
 refine TJ _ W x y ?_
 go_simp
theorem iT{P:Program}{o:Oper}{a:Act}(hg:o.guard=none)(b:gi)(x:Operand)(h:o.op=.load b x)(c:Addr)(hx:a.eval x=.pointer (some c))
  (cs:Value)(d:∀w,C w->(loadVar b c).run P w=.ok cs w)(hk:wpQuiet P ops C Q rest (a.put o.dst cs)):wpQuiet P ops C Q (o::rest) a:=by
 have hw:Region.wanted o (yielded ops a.tmps)=true:=by simp[Region.wanted,hg]
 refine wpQuiet_step fun K e=>?_;rw[ie hw];refine⟨_,fun w hw=>?_,e _ hk⟩;unfold Oper.quietAt execOp;simp only[h,hx,Instr.loadAt,Instr.sureAddr,WD,WC,Wy,d w hw];exact⟨rfl,rfl⟩
theorem sN{P:Program}{o:Oper}{a:Act}(hg:o.guard=none)(op:BinOp)(t c:gi)(x y:Operand)(h:o.op=.binOp op t x y c)(X b v:Value)(hx:a.eval x=X)(d:a.eval y=b)
  (e:∀w,C w->(eqGuard op t x y X b).run P w=.ok () w)(f:∀w,C w->(binOp op t X b).run P w=.ok v w)(hk:wpQuiet P ops C Q rest (a.put o.dst v)):wpQuiet P ops C Q (o::rest) a:=by
 have hw:Region.wanted o (yielded ops a.tmps)=true:=by simp[Region.wanted,hg]
 refine wpQuiet_step fun K g=>?_;rw[ie hw];refine⟨_,fun w hw=>?_,g _ hk⟩;unfold Oper.quietAt execOp;simp only[h,hx,d,WD,WC,Wy,e w hw,f w hw];exact⟨rfl,rfl⟩
theorem HR{P:Program}(hp:P.eqGuardType P.depth t=false)(op:BinOp)(W:World)(x y:Operand)(X a:Array Value):(eqGuard op t x y (.agg X) (.agg a)).run P W=.ok () W:=by
 have hr:(program).run P W=.ok P W:=rfl;unfold eqGuard;cases op<;>simp[Sem.run_bind,hr,Result.andThen_ok,hp,Sem.run_pure]
theorem PK(W:World)(x y:Operand)(X a:Array Value):(eqGuard .neq 112 x y (.agg X) (.agg a)).run prog W=.ok () W:=HR (by kernel_rfl) _ W x y X a
theorem ld3(W:World)(g o:Nat)(x:eN)(c0:W.cell? (eI g o)=some (.string x.1))(c1:W.cell? (eI g (o+1))=some (eJ x.2.1))(c2:W.cell? (eI g (o+2))=some (eJ x.2.2)):(loadVar 112 (eI g o)).run prog W=.ok (.agg #[.string x.1,eJ x.2.1,eJ x.2.2]) W:=by
 unfold loadVar
 go_simp
structure nk (F:Nat->Prop)(w:World)(o:Ob):Prop where
 kind:o.kind=1\/o.kind=2
 size:o.data.size<=256
 len:o.eR.length=o.el
 few:o.el<=16
 HT:0<=o.high
 HV:o.high<=5
 row:w.ownsRow 0 112 3 (.slice o.ea o.el o.ec) o.el (flat o.eR)
 own:∀g,(Value.slice o.ea o.el o.ec).ownBlock=some g->F g
theorem nk.keep(h:nk F w o)(hF:∀k,F k->F' k)(hk:∀k,F k->w'.heap[k]?=w.heap[k]?):nk F' w' o:=
 ⟨h.kind,h.size,h.len,h.few,h.HT,h.HV,eQ h.row (fun g hg=>hk g (h.own g hg)),fun g hg=>hF g (h.own g hg)⟩
def nL (a o2:Ob):Bool:=decide (a.kind=o2.kind)&&decide (a.data=o2.data)&&decide (a.eR=o2.eR)
def nr (o:Ob):Value:=.agg #[.int .i64 o.kind,.string o.data,.slice o.ea o.el o.ec,.int .i64 o.high]
theorem ru(w:World)(a b:Obj):ik w ((w.alloc a).alloc b):=((lh _ _).alloc (kx _) _).alloc (by simp) _
theorem AL(a o2:Ob)(w:World)(b:a.el<=16)(c:o2.el<=16)
  (h:(a.kind != o2.kind)=true\/(a.kind != o2.kind)=false/\((a.data.toList==o2.data.toList)=false\/(a.data.toList==o2.data.toList)=true/\((a.el:Int) != (o2.el:Int))=true)):
  gc 200 #[nr a,nr o2] w (pB (.bool false) w):=by
 unfold nr;rcases h with h|⟨h0,h|⟨h1,h⟩⟩
 all_goals
  go_enter func200,ntmps200;go_wp2;go_ret;exact⟨rfl,ru _ _ _⟩
theorem PL(t u n1 n2:Int)(d1 d2:eD)(v z:fD)(c1 c2 m:Nat)(c d:List eN)(w:World)(S:m<=16)(T:c.length=m)(U:d.length=m)
  (A:w.ownsRow 0 112 3 (.slice v m c1) m (flat c))(B:w.ownsRow 0 112 3 (.slice z m c2) m (flat d))
  (h0:(t != u)=false)(h1:(d1.toList==d2.toList)=true):
  gc 200 #[.agg #[eJ t,.string d1,.slice v m c1,eJ n1],.agg #[eJ u,.string d2,.slice z m c2,eJ n2]] w (pB (.bool (decide (c=d))) w):=by
 have h2:((m:Int) != (m:Int))=false:=by simp
 go_enter func200,ntmps200;go_wp2
 go_loopw [5] (fun i wr=>∃k:Nat,k<=m/\i=.int .i64 k/\(∃q,wr=((w.alloc (.cells #[eJ t,.string d1,.slice v m c1,eJ n1] 108)).alloc (.cells #[eJ u,.string d2,.slice z m c2,eJ n2] 108)).drewN q)/\Hid (c.take k=d.take k)) (fun i _=>m-(intOf i).toNat)
 case atStart=>exact⟨0,tk _,rfl,⟨0,rfl⟩,rfl⟩
 case round=>
  obtain⟨k,hk,rfl,⟨q,rfl⟩,F⟩:=hrel;by_cases V:k<m
  ·obtain⟨e,W,K⟩:=fj A (by omega)
   obtain⟨f,X,L⟩:=fj B (by omega);obtain⟨rfl,_,_⟩:=nH K;obtain⟨rfl,_,_⟩:=nH L;have G:k<c.length:=by omega
   have H:k<d.length:=by omega
   have C:e<w.heap.size:=eK A rfl;have D:f<w.heap.size:=eK B rfl;have g:∀a b:Obj,ik w (((w.alloc a).alloc b).drewN q):=fun a b=>iQ (ru w a b) q;obtain⟨l,a1,a2⟩:=ld (off:=0) (jn A) G;obtain⟨o,r,s⟩:=ld (off:=0) (jn B) H;rw[iP]at l a1 a2 o r s;obtain⟨x,hx⟩:∃x,x=c[k]:=⟨_,rfl⟩;obtain⟨y,E⟩:∃y,y=d[k]:=⟨_,rfl⟩;rw[<-hx]at l a1 a2;rw[<-E]at o r s;have M:=fun a b:Obj=>((g a b).cell (p:=(eI e (k*3))) C).trans l;have N:=fun a b:Obj=>((g a b).cell (p:=(eI e (k*3+1))) C).trans a1;have O:=fun a b:Obj=>((g a b).cell (p:=(eI e (k*3+2))) C).trans a2;have q0:=fun a b:Obj=>((g a b).cell (p:=(eI f (k*3))) D).trans o;have P:=fun a b:Obj=>((g a b).cell (p:=(eI f (k*3+1))) D).trans r;have Q:=fun a b:Obj=>((g a b).cell (p:=(eI f (k*3+2))) D).trans s;clear l a1 a2 o r s;have I:Hid (x=c[k]):=hx;have J:Hid (y=d[k]):=E;clear hx E;go_wp2;refine Zj (by kernel_rfl) (by kernel_rfl) ?_
   iterate 4 quiet_step (fail)
   refine iT rfl 112 _ rfl (eI e (k*3)) rfl (.agg #[.string x.1,eJ x.2.1,eJ x.2.2]) (by rintro _ ⟨n,rfl⟩;exact ld3 _ e (k*3) x (M _ _) (N _ _) (O _ _)) ?_
   go_frame
   iterate 4 quiet_step (fail)
   refine iT rfl 112 _ rfl (eI f (k*3)) rfl (.agg #[.string y.1,eJ y.2.1,eJ y.2.2]) (by rintro _ ⟨n,rfl⟩;exact ld3 _ f (k*3) y (q0 _ _) (P _ _) (Q _ _)) ?_
   go_frame
   refine sN rfl .neq 112 112 _ _ rfl (.agg #[.string x.1,eJ x.2.1,eJ x.2.2]) (.agg #[.string y.1,eJ y.2.1,eJ y.2.2]) (.bool (!(decide (x=y)))) rfl rfl (by rintro _ ⟨n,rfl⟩;exact PK _ _ _ _ _) (by rintro _ ⟨n,rfl⟩;exact Xh _ x y) ?_
   go_frame
   refine wpQuiet_nil ?_;rintro _ ⟨nq,rfl⟩;by_cases Ab:x=y
   ·have j:Hid (x=y):=Ab
    rw[mz Ab];clear Ab;go_wp2;go_roundw
    case rel=>
     refine⟨k+1,by omega,by go_num,⟨q+nq,rfl⟩,?_⟩;show _=_;rw[vZ G,vZ H,F.out,<-I.out,<-J.out,j.out]
    case measure=>simp[intOf];omega
   ·have j:Hid (c≠d):=fun h=>Ab (by rw[I.out,J.out];simp only[h])
    rw[rk Ab];clear Ab;go_wp2;go_ret;exact⟨by rw[rk j.out];rfl,iQ (iQ (ru _ _ _) q) nq⟩
  ·have R:k=m:=by omega
   have j:Hid (c=d):=by
    have:=F.out
    rwa [R,lV (by omega),lV (by omega)]at this
   go_wp2;go_ret;exact⟨by rw[mz j.out];rfl,iQ (ru _ _ _) q⟩
theorem TL(a o2:Ob)(w:World)(h1:nk F w a)(h2:nk G w o2):
  gc 200 #[nr a,nr o2] w (pB (.bool (nL a o2)) w):=by
 by_cases hk:a.kind=o2.kind
 ·by_cases hd:a.data=o2.data
  ·by_cases hl:a.el=o2.el
   ·have:=PL a.kind o2.kind a.high o2.high a.data o2.data a.ea o2.ea a.ec o2.ec a.el a.eR o2.eR w h1.few h1.len (by rw[h2.len,hl]) h1.row (by have:=h2.row;rwa [<-hl]at this) (by rw[hk];simp) (by rw[hd];simp)
    have e:nL a o2=decide (a.eR=o2.eR):=by unfold nL;simp[hk,hd]
    rw[e];unfold nr;rw[<-hl];exact this
   ·have e:nL a o2=false:=by
     have:a.eR≠o2.eR:=fun h=>hl (by rw[<-h1.len,<-h2.len,h])
     unfold nL;simp[this]
    rw[e];exact AL a o2 w h1.few h2.few (.inr ⟨by rw[hk];simp,.inr ⟨by rw[hd];simp,by simp;omega⟩⟩)
  ·have e:nL a o2=false:=by unfold nL;simp[hd]
   rw[e];exact AL a o2 w h1.few h2.few (.inr ⟨by rw[hk];simp,.inl (by simp;exact fun h=>hd (sJ h))⟩)
 ·have e:nL a o2=false:=by unfold nL;simp[hk]
  rw[e];exact AL a o2 w h1.few h2.few (.inl (by simpa using hk))
structure jT (F:Nat->Prop)(w:World)(r:Nat)(a:fD)(cap:Nat)(eC:List Ob):Prop where
 fr:F r
 fa:∀g,(Value.slice a eC.length cap).ownBlock=some g->F g
 hr:w.heap[r]?=some (.cells #[.slice a eC.length cap] 94 (0,0))
 row:w.ownsRow 0 108 4 (.slice a eC.length cap) eC.length (fN eC)
 many:eC.length<=400
 zV:∀o∈eC,nk F w o
theorem jT.keep(h:jT F w r a cap eC)(hF:∀k,F k->F' k)(hk:∀k,F k->w'.heap[k]?=w.heap[k]?):jT F' w' r a cap eC:=
 ⟨hF _ h.fr,fun g hg=>hF g (h.fa g hg),(hk r h.fr).trans h.hr,eQ h.row (fun g hg=>hk g (h.fa g hg)),h.many,fun o ho=>(h.zV o ho).keep hF hk⟩
theorem jT.lt(h:jT F w r a cap eC):r<w.heap.size:=(nX.1 h.hr).1
theorem jT.c0(h:jT F w r a cap eC):w.cell? (eI r 0)=some (.slice a eC.length cap):=by simp[World.cell?,h.hr]
theorem jT.f0(h:jT F w r a cap eC):w.frozen? (eI r 0)=false:=by simp[World.frozen?,h.hr]
theorem nk.below(h:nk F w o)(a:ik w w'):nk F w' o:=
 ⟨h.kind,h.size,h.len,h.few,h.HT,h.HV,eQ h.row (fun g hg=>a.block g (eK h.row hg)),h.own⟩
theorem jT.below(h:jT F w r a cap eC)(b:ik w w'):jT F w' r a cap eC:=
 ⟨h.fr,h.fa,(b.block r h.lt).trans h.hr,eQ h.row (fun g hg=>b.block g (eK h.row hg)),h.many,fun o ho=>(h.zV o ho).below b⟩
theorem ko(h:w.ownsRow 0 t 4 (.slice a n cap) n (fN eC))(hl:eC.length=n){i:Nat}(hi:i<eC.length):
  ∃g,a=some (eI g 0)/\g<w.heap.size/\w.cell? (eI g (i*4))=some (.int .i64 eC[i].kind)/\w.cell? (eI g (i*4+1))=some (.string eC[i].data)/\
   w.cell? (eI g (i*4+2))=some (.slice eC[i].ea eC[i].el eC[i].ec)/\w.cell? (eI g (i*4+3))=some (.int .i64 eC[i].high):=by
 have hn:i<n:=by rw[<-hl];exact hi
 rcases h.2 with⟨_,h0⟩|⟨g,c,d,hv,_,hg,_,_,e,ht⟩
 ·omega
 ·cases hv
  have key:∀j b,j<4->(eC[i].cells)[j]?=some b->w.cell? (eI g (i*4+j))=some b:=by
   intro j b hj hu;rw[<-sK eC i j hi hj,<-ht,KI (by omega),Zh]at hu;simp[World.cell?,hg,hu]
  exact⟨g,rfl,(nX.1 hg).1,key 0 _ (by omega) rfl,key 1 _ (by omega) rfl,key 2 _ (by omega) rfl,key 3 _ (by omega) rfl⟩
theorem rY{P:Program}{o:Oper}{a:Act}(hg:o.guard=none)(b:gi)(x:Operand)(h:o.op=.load b x)(c:Addr)(hx:a.eval x=.pointer (some c))
  (cs:Value)(d:(loadVar b c).run P w=.ok cs w)(hk:wpStill P ops w Q rest (a.put o.dst cs)):wpStill P ops w Q (o::rest) a:=by
 have hw:Region.wanted o (yielded ops a.tmps)=true:=by simp[Region.wanted,hg]
 refine wpStill_step fun K e=>?_;rw[ie hw];unfold Oper.still execOp;simp only[h,hx,Instr.loadAt,Instr.sureAddr,WD,WC,Wy,d];exact⟨rfl,e _ hk⟩
theorem ld4(W:World)(g o:Nat)(x:Ob)(c0:W.cell? (eI g o)=some (eJ x.kind))(c1:W.cell? (eI g (o+1))=some (.string x.data))(c2:W.cell? (eI g (o+2))=some (.slice x.ea x.el x.ec))(c3:W.cell? (eI g (o+3))=some (eJ x.high)):
  (loadVar 108 (eI g o)).run prog W=.ok (nr x) W:=by
 unfold loadVar nr
 go_simp
def findAt (eC:List Ob)(o:Ob):Option Nat:=eC.findIdx? fun x=>nL x o
def FF (p:Option Nat):Int:=match p with|some i=>i|none=>-1
theorem yg(r:Nat)(a:fD)(cap:Nat)(eC:List Ob)(o:Ob)(w:World)(h:jT F w r a cap eC)(ho:nk G w o):
  gc 149 #[hh r,nr o] w (pB (eJ (FF (findAt eC o))) w):=by
 unfold nr;obtain⟨n,hn⟩:∃n,n=eC.length:=⟨_,rfl⟩;have J:n<=400:=by rw[hn];exact h.many
 have m:Hid (n=eC.length):=hn;clear hn;obtain⟨B,v⟩:∃B:Obj,B=.cells #[eJ o.kind,.string o.data,.slice o.ea o.el o.ec,eJ o.high] 108:=⟨_,rfl⟩;go_enter func149,ntmps149;go_wp2;rw[<-v]
 go_loopw [5] (fun i wr=>∃k:Nat,k<=n/\i=.int .i64 k/\Below (w.alloc B).heap.size (w.alloc B) wr/\Hid (∀j (hj:j<eC.length),j<k->nL eC[j] o=false)) (fun i _=>n-(intOf i).toNat)
 case atStart=>exact⟨0,tk _,rfl,lh _ _,fun j hj h=>by omega⟩
 case round=>
  obtain⟨k,hk,rfl,f,q⟩:=hrel;have c:ik w wr:=((lh _ _).alloc (kx _) B).trans (f.mono (by simp));have y:=(h.below c).c0;rw[<-m.out]at y;by_cases z:k<n
  ·have s:k<eC.length:=by rw[<-m.out];exact z
   obtain⟨g,A,K,c0,c1,c2,c3⟩:=ko (h.below c).row rfl s;rw[A]at y;have b:∀j,j<4->wr.cell? (eI w.heap.size j)=(nr o).cells[j]?:=by
    intro j hj;rw[f.cell (p:=(eI w.heap.size j)) (by simp)];subst v
    match j,hj with
    |0,_=>simp[nr,Value.cells]
    |1,_=>simp[nr,Value.cells]
    |2,_=>simp[nr,Value.cells]
    |3,_=>simp[nr,Value.cells]
   have C:=ld4 wr g (k*4) eC[k] c0 c1 c2 c3;have D:=ld4 wr w.heap.size 0 o (b 0 (by omega)) (b 1 (by omega)) (b 2 (by omega)) (b 3 (by omega));have E:Hid ((loadVar 108 (eI g (k*4))).run prog wr.drew=.ok (nr eC[k]) wr.drew):=ld4 wr.drew g (k*4) eC[k] c0 c1 c2 c3;have H:Hid ((loadVar 108 (eI w.heap.size 0)).run prog wr.drew=.ok (nr o) wr.drew):=ld4 wr.drew w.heap.size 0 o (b 0 (by omega)) (b 1 (by omega)) (b 2 (by omega)) (b 3 (by omega));clear c0 c1 c2 c3 b C D;have l:=TL eC[k] o wr.drew ((h.below (iQ c 1)).zV _ (kj s)) (ho.below (iQ c 1));go_wp2;refine wp_region_still_tail 8 (by kernel_rfl) (by kernel_rfl) ?_;simp only[SQ,SP,Pk,Ar]
   iterate 6 still_step
   refine rY rfl 108 _ rfl (eI g (k*4)) rfl (nr eC[k]) E.out ?_
   go_frame
   refine rY rfl 108 _ rfl (eI w.heap.size 0) rfl (nr o) H.out ?_
   go_frame
   refine wpStill_nil ?_;cases d:nL eC[k] o with
   |true=>
    have t:Hid (nL eC[k] o=true):=d;rw[d]at l;clear d;go_wp2_with fail;refine l.mono ?_;rintro e I ⟨rfl,u⟩;go_wp2;go_ret;refine⟨?_,c.trans ((iQ (lh wr.heap.size wr) 1).trans u |>.mono c.size)⟩;have e:findAt eC o=some k:=zO.2 ⟨s,t.out,fun j hj=>by have:=q.out j (by omega) hj;simp[this]⟩;rw[e];rfl
   |false=>
    have t:Hid (nL eC[k] o=false):=d;rw[d]at l;clear d;go_wp2_with fail;refine l.mono ?_;rintro e I ⟨rfl,u⟩;go_wp2;go_roundw
    case rel=>
     refine⟨k+1,by omega,by go_num,f.trans ((iQ (lh wr.heap.size wr) 1).trans u |>.mono f.size),?_⟩;intro j hj L;by_cases e:j=k
     ·subst e;exact t.out
     ·exact q.out j hj (by omega)
    case measure=>simp[intOf];omega
  ·go_wp2
   go_ret;refine⟨?_,c⟩;have e:findAt eC o=none:=WL.2 fun x hx=>by
    obtain⟨j,hj,rfl⟩:=pg hx;exact q.out j hj (by rw[<-m.out]at hj;omega)
   rw[e];rfl
end Go.Proofs.YtlgidcmmgohagaaGreat
