/- What is proved here: the af1 functions over no list at all. -/
import Derived.Test.YtlgidcmmgohagaaGreatTreeM01
import Derived.Shelf.SlSortCmp.NoneTotal
import Derived.Deep.QuietTactic
import Derived.BigQuiet
import Derived.OwnWalk
namespace Go.Proofs.YtlgidcmmgohagaaGreat
open Go.RowKit Go.Sort Go.Shelf Go.Proofs.Tryz
set_option linter.unusedVariables false
set_option maxRecDepth 100000
set_option maxHeartbeats 16000000
variable {ft:gA}
theorem AV {P:Program}(w:World)(dT sT ty elem:TypeId)(size:Nat)(d a:Option Addr)(vo EU vp EW:Nat)(hu:P.underlying dT=some (.slice elem))(hs:(P.info? elem).map (·.size)=some size)(hn:Nat.min vp vo=0):
  (Builtin.copy_ #[dT,sT] ty #[.slice d vo EU,.slice a vp EW]).run P w=.ok (goInt 0) w:=by
 cases hq:P.info? elem with
 | none=>simp[hq] at hs
 | some i=>
  have hl:∀(x:Addr),(loadCells x 0).run P w=.ok #[] w:=fun x=>by simpa using run_loadCells_list (P:=P) w x [] (by simp)
  cases d <;> cases a <;> simp[Builtin.copy_,run_underlying hu,Builtin.lenOf,Builtin.firstCells,sizeOf,typeInfo,hq,hn,storeCells,hl]
theorem wC {P:Program}{w:World}{ops:Array Oper}{rest:List Oper}{o:Oper}{a:Act}{Q:Exit->Act->World->Prop}(hgd:o.guard=none)(d s:Operand)(dT sT:TypeId)
  (ho:o.op=.call { callee:=.builtin .copy,args:=#[d,s],argTypes:=#[dT,sT] })(elem:TypeId)(hu:P.underlying dT=some (.slice elem))(size:Nat)(hsz:(P.info? elem).map (·.size)=some size)
  (dp sp:Option Addr)(vo EU vp EW:Nat)(hd:a.eval d=.slice dp vo EU)(hs:a.eval s=.slice sp vp EW)(hn:Nat.min vp vo=0)
  (h:wpList P ops Q rest (a.put o.dst (goInt 0)) w):wpList P ops Q (o :: rest) a w:=by
 refine wpList_plain hgd fun K hK=>?_;have hrun:=AV (P:=P) w dT sT o.type elem size dp sp vo EU vp EW hu hsz hn;unfold Oper.wp;simp[execOp,ho,resolve,invoke,builtin,hd,hs,hrun,Result.andThen];exact hK _ _ h
theorem VT (p:Nat)(a:Option Addr)(n cap bf bd:Nat)(ag:List Ob)(j:Nat)(hj:j<ag.length)(w:World)(h:iF ft w p a n cap bf bd ag)(hk:ag[j].kind=2)
  (nu:ag[j].ea=none)(RF:ag[j].el=0)(Ov:ag[j].ec=0):
  Calls prog 85 #[.pointer (some ⟨p,0,none⟩),.int .i64 ((j:Int)+1)] w fun e w'=>∃g',e=.returned (.tuple #[.slice (some ⟨g',0,none⟩) 0 0,.int .i64 0])/\w'.ownsRow w.heap.size 96 3 (.slice (some ⟨g',0,none⟩) 0 0) 0 (flat [])/\Below w.heap.size w w':=by
 have hcon:=qp p a n cap bf bd ag ((j:Int)+1) w h;rw[dL hj,hk] at hcon;have hat:=fun (W:World) (hW:Below w.heap.size w W)=>Rz p a n cap bf bd ag j hj W (h.below hW);rw[nu,RF,Ov] at hat;have f2:=abI;obtain⟨i0,hi,hz0,hz1,hz2⟩:=info_parts x7;clear nu RF Ov hk;go_enter func85,ntmps85;go_wp2_with (first
  | (go_at_call 61;refine hcon.mono ?_;rintro e w1 ⟨rfl,hb1⟩)
  | (go_at_call 113;refine (hat _ hb1).mono ?_;rintro e w2 ⟨rfl,hb2⟩)
  | (at_make;refine wpList_make_full _ rfl _ _ 55 rfl 0 96 i0 _ 3 underlying55 hi hz0 hz1 .i64 .i64 _ _ 0 rfl rfl rfl rfl ?_ ?_ (dG _) ?_;go_must (rw[hz2];omega);go_must (unfold maxLen;omega);intro w3 jq hg3;have iG:=hb1.trans (hb2.mono hb1.size);have Ko:=rj iG hg3;have XY:Hid _:=jq;clear jq)
  | (refine wC rfl (.tmp 19) (.tmp 20) 55 55 rfl 96 underlying55 3 EX _ none 0 0 0 0 rfl rfl rfl ?_))
 go_ret2;have Ow:=iG.size;refine⟨w2.heap.size,rfl,⟨rfl,?_⟩,Ko.out⟩;rcases XY.out.2 with ⟨h0,_⟩ | ⟨g',cap',cur,hv,_,r1,r2,r3,r4,_⟩
 ·cases h0
 ·cases hv;exact .inr ⟨w2.heap.size,0,cur,rfl,Ow,r1,r2,r3,r4,by simp[flat]⟩
variable {ft:gA}
def fileAt (ag:List Ob)(d:ByteArray):Option Nat:=ag.findIdx? fun o=>decide (o.kind=1) && decide (o.data=d)
def mK (ag:List Ob)(es:List aK):Option Nat:=ag.findIdx? fun o=>decide (o.kind=2) && decide (o.aV=es)
def pF (ag:List Ob)(D:DataW Unit):Prop:=∀d:ByteArray,Maps.has D (.string d.data.toList)=(fileAt ag d).isSome/\∀i,fileAt ag d=some i->D.atKey (.string d.data.toList) (.lit (.int .i64 0))=.lit (.int .i64 ((i:Int)+1))
def G7 (es:List aK):Prop:=es.length<=16/\∀e ∈ es,Fits e/\1<=e.1.size
def sJ (ag:List Ob)(D:DataW Unit):Prop:=∀es:List aK,G7 es->Maps.has D (gD prog es)=(mK ag es).isSome/\∀i,mK ag es=some i->D.atKey (gD prog es) (.lit (.int .i64 0))=.lit (.int .i64 ((i:Int)+1))
def eP (d:ByteArray):Ob:={ kind:=1,data:=d,ea:=none,el:=0,ec:=0,aV:=[],high:=0 }
def RO (g m c:Nat)(es:List aK)(h:Int):Ob:={ kind:=2,data:=ByteArray.empty,ea:=some ⟨g,0,none⟩,el:=m,ec:=c,aV:=es,high:=h }
def Oy (w:World)(F:Nat->Prop)(o:Ob):Prop:=
 (o.kind=1/\o.high=0/\o.data.size<=256)\/
 (o.kind=2/\o.aV.length=o.el/\G7 o.aV/\gC o.aV/\0<=o.high/\o.high<=5/\(∀g,(Value.slice o.ea o.el o.ec).ownBlock=some g->F g)/\w.ownsRow 0 96 3 (.slice o.ea o.el o.ec) o.el (flat o.aV))
structure qq (ft:gA)(F:Nat->Prop)(w:World)(s p:Nat)(a:Option Addr)(cap bf bd:Nat)(Df Dd:DataW Unit)(ag:List Ob):Prop where
 fs:F s
 fp:F p
 ff:F bf
 fd:F bd
 fr:∀g,(Value.slice a ag.length cap).ownBlock=some g->F g
 hs:w.heap[s]? = some (.cells #[.pointer (some ⟨p,0,none⟩)] 119 (0,0))
 iH:iF ft w p a ag.length cap bf bd ag
 ne:bf≠bd
 files:w.ownsMap prog 9 (plainElem prog 29) bf ag.length Df
 uj:pF ag Df
 AW:w.ownsMap prog 208 (plainElem prog 29) bd ag.length Dd
 yf:sJ ag Dd
 zZ:∀o ∈ ag,Oy w F o
def Inv (ft:gA)(F:Nat->Prop)(w:World)(s:Nat)(ag:List Ob):Prop:=∃p a cap bf bd Df Dd,qq ft F w s p a cap bf bd Df Dd ag
def kU (ft:gA)(F:Nat->Prop)(w:World)(s p:Nat)(ag:List Ob):Prop:=∃a cap bf bd Df Dd,qq ft F w s p a cap bf bd Df Dd ag
theorem kU.inv {F:Nat->Prop}{w:World}{s p:Nat}{ag:List Ob}(h:kU ft F w s p ag):Inv ft F w s ag:=⟨p,h⟩
structure ax (F:Nat->Prop)(w w':World):Prop where
 os:w'.os=w.os
 tape:w'.tape=w.tape
 output:w'.output=w.output
 size:w.heap.size<=w'.heap.size
 block:∀k,k<w.heap.size->¬F k->w'.heap[k]? = w.heap[k]?
def bq (F:Nat->Prop)(w w':World)(k:Nat):Prop:=F k\/(w.heap.size<=k/\k<w'.heap.size)
theorem ax.aM {F:Nat->Prop}{w w':World}(h:Below w.heap.size w w'):ax F w w':=⟨h.os,h.tape,h.output,h.size,fun k hk _=>h.block k hk⟩
theorem Oy.mono {w w':World}{F F':Nat->Prop}{o:Ob}(h:Oy w F o)(hF:∀k,k<w.heap.size->F k->F' k)(hk:∀v m xs,w.ownsRow 0 96 3 v m xs->w'.ownsRow 0 96 3 v m xs):Oy w' F' o:=by
 rcases h with h | ⟨h1,h2,h3,h4,h5,h6,h8,h9⟩
 ·exact .inl h
 ·exact .inr ⟨h1,h2,h3,h4,h5,h6,fun g hg=>hF g (ah h9 hg) (h8 g hg),hk _ _ _ h9⟩
theorem kU.keep {F F':Nat->Prop}{w w':World}{s p:Nat}{ag:List Ob}(h:kU ft F w s p ag)(hk:∀k,k<w.heap.size->F k->w'.heap[k]? = w.heap[k]?)(hF:∀k,k<w.heap.size->F k->F' k):kU ft F' w' s p ag:=by
 obtain⟨a,cap,bf,bd,Df,Dd,i⟩:=h;have ls:s<w.heap.size:=(Array.getElem?_eq_some_iff.1 i.hs).1;have hrow:∀v m t k xs,w.ownsRow 0 t k v m xs->(∀g,v.ownBlock=some g->F g)->w'.ownsRow 0 t k v m xs:=fun v m t k xs hr hFg=>ai hr (fun g hg=>hk g (ah hr hg) (hFg g hg));refine⟨a,cap,bf,bd,Df,Dd,⟨hF _ ls i.fs,hF _ i.iH.at_.lt i.fp,hF _ i.files.lt i.ff,hF _ i.AW.lt i.fd,fun g hg=>hF g (ah i.iH.row hg) (i.fr g hg),(hk s ls i.fs).trans i.hs,⟨?_,hrow _ _ _ _ _ i.iH.row i.fr,i.iH.len,i.iH.many⟩,i.ne,
  dQ i.files (hk _ i.files.lt i.ff),i.uj,dQ i.AW (hk _ i.AW.lt i.fd),i.yf,fun o ho=>?_⟩⟩
 ·have:=i.iH.at_
  unfold b8 at this ⊢;rw[hk p i.iH.at_.lt i.fp];exact this
 ·rcases i.zZ o ho with h | ⟨h1,h2,h3,h4,h5,h6,h8,h9⟩
  ·exact .inl h
  ·exact .inr ⟨h1,h2,h3,h4,h5,h6,fun g hg=>hF g (ah h9 hg) (h8 g hg),hrow _ _ _ _ _ h9 h8⟩
theorem kU.below {F F':Nat->Prop}{w w':World}{s p:Nat}{ag:List Ob}(h:kU ft F w s p ag)(hb:Below w.heap.size w w')(hF:∀k,k<w.heap.size->F k->F' k):kU ft F' w' s p ag:=h.keep (fun k hk _=>hb.block k hk) hF
theorem sK (ag:List Ob)(o:Ob)(d:ByteArray):fileAt (ag ++ [o]) d=(fileAt ag d).or (if o.kind=1/\o.data=d then some ag.length else none):=by
 unfold fileAt;rw[List.findIdx?_append]
 congr 1
 by_cases h:o.kind=1/\o.data=d
 ·simp[List.findIdx?_cons,h]
 ·rw[ay h]
  have:(decide (o.kind=1) && decide (o.data=d))=false:=by
   rw[<-Bool.decide_and];exact dY h
  simp only[List.findIdx?_cons,this];simp
theorem vq (ag:List Ob)(o:Ob)(es:List aK):mK (ag ++ [o]) es=(mK ag es).or (if o.kind=2/\o.aV=es then some ag.length else none):=by
 unfold mK;rw[List.findIdx?_append]
 congr 1
 by_cases h:o.kind=2/\o.aV=es
 ·simp[List.findIdx?_cons,h]
 ·rw[ay h]
  have:(decide (o.kind=2) && decide (o.aV=es))=false:=by
   rw[<-Bool.decide_and];exact dY h
  simp only[List.findIdx?_cons,this];simp
theorem bytes_inj {a b:ByteArray}(h:a.data.toList=b.data.toList):a=b:=by
 cases a;cases b
 congr 1
 exact Array.toList_inj.1 h
theorem pF.put {ag:List Ob}{D:DataW Unit}(h:pF ag D)(hD:Maps.IsMap D)(d:ByteArray)(hd:fileAt ag d=none):pF (ag ++ [eP d]) (D.put (.string d.data.toList) (.lit (.int .i64 ((ag.length:Int)+1)))):=by
 intro d';rw[sK];by_cases e:d=d'
 ·subst e
  rw[hd,aL ⟨rfl,rfl⟩];refine⟨?_,?_⟩
  ·rw[Maps.has_put_same hD (show WideAt.IsKeyLit (.string d.data.toList) from trivial)];rfl
  ·intro i hi
   simp only[Option.none_or,Option.some.injEq] at hi;subst hi;exact Maps.atKey_put_same hD (show WideAt.IsKeyLit (.string d.data.toList) from trivial) _ _
 ·have hne:(Lit.string d'.data.toList) ≠ .string d.data.toList:=fun h=>e (bytes_inj (by simpa using h.symm))
  rw[ay (fun h=>e h.2),Option.or_none];refine⟨?_,?_⟩
  ·rw[Maps.has_put_other hne];exact (h d').1
  ·intro i hi
   rw[Maps.atKey_put_other hne];exact (h d').2 i hi
theorem pF.other {ag:List Ob}{D:DataW Unit}(h:pF ag D){o:Ob}(ho:o.kind≠1):pF (ag ++ [o]) D:=by
 intro d';rw[sK,ay (fun h=>ho h.1),Option.or_none];exact h d'
theorem sJ.put {ag:List Ob}{D:DataW Unit}(h:sJ ag D)(hD:Maps.IsMap D){es:List aK}(hn:G7 es)(hd:mK ag es=none){o:Ob}(hk:o.kind=2)(he:o.aV=es):
  sJ (ag ++ [o]) (D.put (gD prog es) (.lit (.int .i64 ((ag.length:Int)+1)))):=by
 intro es' CI;have k1:=mA es hn.1 (fun e he=>(hn.2 e he).1);have kl:WideAt.IsKeyLit (gD prog es):=M6.key k1;rw[vq,he];by_cases e:es=es'
 ·subst e
  rw[hd,aL ⟨hk,rfl⟩];refine⟨?_,?_⟩
  ·rw[Maps.has_put_same hD kl];rfl
  ·intro i hi
   simp only[Option.none_or,Option.some.injEq] at hi;subst hi;exact Maps.atKey_put_same hD kl _ _
 ·have hne:gD prog es'≠gD prog es:=fun h=>e (Km hn.1 CI.1 (fun e he=>(hn.2 e he).1) (fun e he=>(CI.2 e he).1) (fun e he=>(hn.2 e he).2) (fun e he=>(CI.2 e he).2) h.symm)
  rw[ay (fun h=>e h.2),Option.or_none];refine⟨?_,?_⟩
  ·rw[Maps.has_put_other hne];exact (h es' CI).1
  ·intro i hi
   rw[Maps.atKey_put_other hne];exact (h es' CI).2 i hi
theorem sJ.other {ag:List Ob}{D:DataW Unit}(h:sJ ag D){o:Ob}(ho:o.kind≠2):sJ (ag ++ [o]) D:=by
 intro es' CI;rw[vq,ay (fun h=>ho h.1),Option.or_none];exact h es' CI
theorem wD (ag:List Ob)(o:Ob):dV (ag ++ [o])=dV ag++o.cells:=by simp[dV]
theorem ye.other {w w':World}{p:Nat}{a:Option Addr}{n cap bf bd bm:Nat}{k:TypeId}{cells:List Value}{D:DataW Unit}{ag:List Ob}(h:ye ft w w' p a n cap bf bd bm k cells D)(hp:iF ft w p a n cap bf bd ag)
  {P:Program}{k':TypeId}{R:Value->Option (DataW Unit×List MemPlace)}{b m:Nat}{D':DataW Unit}(hm:w.ownsMap P k' R b m D')(hne:b≠bm):w'.ownsMap P k' R b m D':=by
 obtain⟨g2,zY,_,_,_,_,h5⟩:=h;obtain⟨es,clock,hb⟩:=dM hm;have GX:b≠p:=by rintro rfl;have:=hp.at_;unfold b8 at this;rw[hb] at this;cases this
 exact dQ hm (h5.block b hm.lt GX hne (dS hp.row hb))
theorem qq.grow {F:Nat->Prop}{w w':World}{s p:Nat}{a:Option Addr}{cap bf bd:Nat}{Df Dd Df' Dd':DataW Unit}{ag:List Ob}(i:qq ft F w s p a cap bf bd Df Dd ag){bm:Nat}{k:TypeId}{D:DataW Unit}{o:Ob}
  (hg:ye ft w w' p a ag.length cap bf bd bm k (dV ag++o.cells) D)(hn:ag.length<400)(hF:F bm){Vf:Array MapEntry}{clock:Nat}(hm:w.heap[bm]? = some (.map Vf clock))(ho:Oy w' (bq F w w') o)
  (hf:w'.ownsMap prog 9 (plainElem prog 29) bf (ag.length+1) Df')(hf2:pF (ag ++ [o]) Df')
  (hd:w'.ownsMap prog 208 (plainElem prog 29) bd (ag.length+1) Dd')(hd2:sJ (ag ++ [o]) Dd'):
  kU ft (bq F w w') w' s p (ag ++ [o])/\ax F w w':=by
 have hg0:=hg;obtain⟨g2,zY,h1,h2,h3,h4,h5⟩:=hg;have ls:s<w.heap.size:=(Array.getElem?_eq_some_iff.1 i.hs).1;have hsp:s≠p:=mJ i.hs i.iH.at_ (by decide);have hsm:s≠bm:=by rintro rfl;have:=i.hs;rw[hm] at this;cases this
 have Rs:=aA i.iH.row i.hs (by decide);have hl:(ag ++ [o]).length=ag.length+1:=by simp
 refine⟨⟨some ⟨g2,0,none⟩,zY,bf,bd,Df',Dd',⟨.inl i.fs,.inl i.fp,.inl i.ff,.inl i.fd,?_,?_,⟨?_,?_,?_,?_⟩,i.ne,?_,hf2,?_,hd2,?_⟩⟩,⟨h5.os,h5.tape,h5.output,h5.size,?_⟩⟩
 ·intro g Q3
  rcases h3 with h | h
  ·refine .inl (i.fr g ?_)
   rw[<-h];exact Q3
  ·simp only[Value.ownBlock,Option.some.injEq] at Q3
   subst Q3;exact .inr ⟨h,ah h2 rfl⟩
 ·rw[h5.block s ls hsp hsm Rs];exact i.hs
 ·rw[hl];exact h1
 ·rw[hl,wD];exact h2
 ·rfl
 ·rw[hl];omega
 ·rw[hl];exact hf
 ·rw[hl];exact hd
 ·intro x hx
  rcases List.mem_append.1 hx with h | h
  ·exact (i.zZ x h).mono (fun k hk hFk=>.inl hFk) (fun v m xs hr=>hg0.keeps i.iH hm hr (by decide) (by decide))
  ·rw[List.mem_singleton.1 h];exact ho
 ·intro k hk RP
  refine h5.block k hk (fun e=>RP (e ▸ i.fp)) (fun e=>RP (e ▸ hF)) (fun e=>RP (i.fr k e.symm))
theorem qq.c0 {F:Nat->Prop}{w:World}{s p:Nat}{a:Option Addr}{cap bf bd:Nat}{Df Dd:DataW Unit}{ag:List Ob}(i:qq ft F w s p a cap bf bd Df Dd ag):w.cell? ⟨s,0,none⟩=some (.pointer (some ⟨p,0,none⟩)):=by simp[World.cell?,i.hs]
def jI (ag aN:List Ob)(d:ByteArray)(e:Ending):Prop:=
 (256<d.size/\aN=ag/\e=.returned (.tuple #[.int .i64 0,.int .i64 11]))\/
 (d.size<=256/\aN=ag/\∃i,fileAt ag d=some i/\e=.returned (.tuple #[.int .i64 ((i:Int)+1),.int .i64 0]))\/
 (d.size<=256/\fileAt ag d=none/\400<=ag.length/\aN=ag/\e=.returned (.tuple #[.int .i64 0,.int .i64 11]))\/
 (d.size<=256/\fileAt ag d=none/\ag.length<400/\aN=ag ++ [eP d]/\e=.returned (.tuple #[.int .i64 ((ag.length:Int)+1),.int .i64 0]))
theorem jI.shape {ag aN:List Ob}{d:ByteArray}{e:Ending}(h:jI ag aN d e):∃x y,e=.returned (.tuple #[.int .i64 x,.int .i64 y]):=by
 rcases h with ⟨_,_,h⟩ | ⟨_,_,_,_,h⟩ | ⟨_,_,_,_,h⟩ | ⟨_,_,_,_,h⟩ <;> exact⟨_,_,h⟩
theorem RQ {F:Nat->Prop}{w:World}{s p:Nat}{a:Option Addr}{cap bf bd:Nat}{Df Dd:DataW Unit}{ag:List Ob}(i:qq ft F w s p a cap bf bd Df Dd ag)(d:ByteArray)(hd:d.size<=maxLen):
  Calls prog 77 #[.pointer (some ⟨p,0,none⟩),.string d] w fun e w'=>∃aN,jI ag aN d e/\kU ft (bq F w w') w' s p aN/\ax F w w':=by
 have inv:kU ft F w s p ag:=⟨a,cap,bf,bd,Df,Dd,i⟩;have same:∀w',Below w.heap.size w w'->kU ft (bq F w w') w' s p ag/\ax F w w':=fun w' hb=>⟨inv.below hb (fun k _ h=>.inl h),ax.aM hb⟩;by_cases hs:d.size<=256
 ·cases hf:fileAt ag d with
  | some j=>
   obtain⟨k1,k2⟩:=i.uj d;rw[hf] at k1;refine (GV p a ag.length cap bf bd Df d ((j:Int)+1) w i.iH.at_ hs i.files k1 (k2 j hf)).mono fun e w' ⟨he,hw⟩=>?_;subst hw;exact⟨ag,.inr (.inl ⟨hs,rfl,j,hf,he⟩),same _ (Below.refl _ _)⟩
  | none=>
   obtain⟨k1,_⟩:=i.uj d;rw[hf] at k1;by_cases hn:400<=ag.length
   ·refine (EP p a ag.length cap bf bd Df d w i.iH.at_ hs hn i.files k1).mono fun e w' ⟨he,hb⟩=>?_
    exact⟨ag,.inr (.inr (.inl ⟨hs,hf,hn,rfl,he⟩)),same _ hb⟩
   ·have CI:ag.length<400:=by omega
    refine (GY p a ag.length cap bf bd (dV ag) Df d w i.iH.at_ hs CI i.iH.row i.files k1).mono fun e w' ⟨he,hG⟩=>?_;have hgr:ye ft w w' p a ag.length cap bf bd bf 9 (dV ag++(eP d).cells) (Df.put (.string d.data.toList) (.lit (.int .i64 ((ag.length:Int)+1)))):=hG;obtain⟨Vf,Kq,XT⟩:=dM i.files;obtain⟨_,_,_,_,_,hfm,_⟩:=hG;exact⟨_,.inr (.inr (.inr ⟨hs,hf,CI,rfl,he⟩)),i.grow hgr CI i.ff XT (.inl ⟨rfl,rfl,hs⟩) hfm (i.uj.put i.files.isMap d hf)
     ((hgr.other i.iH i.AW i.ne.symm).mono (Nat.le_succ _)) (i.yf.other (show (1:Int)≠2 by decide))⟩
 ·refine (GU p d w (by omega) hd).mono fun e w' ⟨he,hw⟩=>?_
  subst hw;exact⟨ag,.inl ⟨by omega,rfl,he⟩,same _ (Below.refl _ _)⟩
def iJ (ag aN:List Ob)(es:List aK)(e:Ending):Prop:=
 ((∃x ∈ es,aF x.1=false)/\aN=ag/\e=.returned (.tuple #[.int .i64 0,.int .i64 1]))\/
 ((∀x ∈ es,aF x.1=true)/\
  ((¬(es.map (·.1)).Nodup/\aN=ag/\e=.returned (.tuple #[.int .i64 0,.int .i64 6]))\/
   ((es.map (·.1)).Nodup/\16<es.length/\aN=ag/\e=.returned (.tuple #[.int .i64 0,.int .i64 11]))\/
   ((es.map (·.1)).Nodup/\es.length<=16/\(∃x ∈ es,eV ag x=false)/\aN=ag/\e=.returned (.tuple #[.int .i64 0,.int .i64 13]))\/
   ((es.map (·.1)).Nodup/\es.length<=16/\(∀x ∈ es,eV ag x=true)/\∃es',es'.Perm es/\gC es'/\G7 es'/\
    ((5<dn ag es'/\aN=ag/\e=.returned (.tuple #[.int .i64 0,.int .i64 11]))\/
    (dn ag es'<=5/\aN=ag/\∃i,mK ag es'=some i/\e=.returned (.tuple #[.int .i64 ((i:Int)+1),.int .i64 0]))\/
    (dn ag es'<=5/\mK ag es'=none/\400<=ag.length/\aN=ag/\e=.returned (.tuple #[.int .i64 0,.int .i64 11]))\/
    (dn ag es'<=5/\mK ag es'=none/\ag.length<400/\(∃o:Ob,o.kind=2/\o.aV=es'/\o.high=dn ag es'/\aN=ag ++ [o])/\e=.returned (.tuple #[.int .i64 ((ag.length:Int)+1),.int .i64 0]))))))
theorem iJ.shape {ag aN:List Ob}{es:List aK}{e:Ending}(h:iJ ag aN es e):∃x y,e=.returned (.tuple #[.int .i64 x,.int .i64 y]):=by
 rcases h with ⟨_,_,h⟩ | ⟨_,⟨_,_,h⟩ | ⟨_,_,_,h⟩ | ⟨_,_,_,_,h⟩ | ⟨_,_,_,_,_,_,_,⟨_,_,h⟩ | ⟨_,_,_,_,h⟩ | ⟨_,_,_,_,h⟩ | ⟨_,_,_,_,h⟩⟩⟩ <;> exact⟨_,_,h⟩
theorem qq.dn {F:Nat->Prop}{w:World}{s p:Nat}{a:Option Addr}{cap bf bd:Nat}{Df Dd:DataW Unit}{ag:List Ob}(i:qq ft F w s p a cap bf bd Df Dd ag):∀o ∈ ag,0<=o.high/\o.high<=5:=by
 intro o ho;rcases i.zZ o ho with ⟨_,h,_⟩ | ⟨_,_,_,_,h5,h6,_⟩
 ·rw[h];decide
 ·exact⟨h5,h6⟩
theorem qq.kinds {F:Nat->Prop}{w:World}{s p:Nat}{a:Option Addr}{cap bf bd:Nat}{Df Dd:DataW Unit}{ag:List Ob}(i:qq ft F w s p a cap bf bd Df Dd ag):∀o ∈ ag,o.kind=1\/o.kind=2:=by
 intro o ho;rcases i.zZ o ho with ⟨h,_⟩ | ⟨h,_⟩
 ·exact .inl h
 ·exact .inr h
theorem VU {F:Nat->Prop}{w:World}{s p:Nat}{a:Option Addr}{cap bf bd:Nat}{Df Dd:DataW Unit}{ag:List Ob}(i:qq ft F w s p a cap bf bd Df Dd ag)(b off m c0:Nat)(es:List aK)
  (hl:es.length=m)(hbl:b<w.heap.size)(jl:m*32<=140737488355328)(hc:∀j u,(flat es)[j]? = some u->w.cell? ⟨b,off+j,none⟩=some u)(hsz:∀e ∈ es,e.1.size<=maxLen):
  Calls prog 60 #[.pointer (some ⟨p,0,none⟩),.slice (some ⟨b,off,none⟩) m c0] w fun e w'=>∃aN,iJ ag aN es e/\kU ft (bq F w w') w' s p aN/\ax F w w':=by
 have inv:kU ft F w s p ag:=⟨a,cap,bf,bd,Df,Dd,i⟩;have same:∀w',Below w.heap.size w w'->kU ft (bq F w w') w' s p ag/\ax F w w':=fun w' hb=>⟨inv.below hb (fun k _ h=>.inl h),ax.aM hb⟩;have named:∀es',es'.Perm es->(∀x ∈ es,aF x.1=true)->(∀x ∈ es,eV ag x=true)->es.length<=16->G7 es':=fun es' hP hv hg jS=>
  ⟨by rw[hP.length_eq];exact jS,fun e he=>⟨Na i.kinds i.iH.many (hv e (hP.mem_iff.1 he)) (hg e (hP.mem_iff.1 he)),(eo (hv e (hP.mem_iff.1 he))).1⟩⟩
 refine (Ks p b off m c0 a ag.length cap bf bd ag Dd es w i.iH i.AW hl hbl jl hc hsz i.dn i.kinds).mono fun e w' hD=>?_;rcases hD with ⟨hb,⟨hA,he⟩ | ⟨hA,⟨hB,he⟩ | ⟨hB,hC,he⟩ | ⟨hB,hC,hD,he⟩ | ⟨hB,hC,hD,es',hP,hR,hE⟩⟩⟩ | ⟨hA,hB,hC,hD,hn,es',hP,hR,hE,hE0,hH,he,g,cap',hrow,hG⟩
 ·exact⟨ag,.inl ⟨hA,rfl,he⟩,same _ hb⟩
 ·exact⟨ag,.inr ⟨hA,.inl ⟨hB,rfl,he⟩⟩,same _ hb⟩
 ·exact⟨ag,.inr ⟨hA,.inr (.inl ⟨hB,hC,rfl,he⟩)⟩,same _ hb⟩
 ·exact⟨ag,.inr ⟨hA,.inr (.inr (.inl ⟨hB,hC,hD,rfl,he⟩))⟩,same _ hb⟩
 ·have hN:=named es' hP hA hD hC
  obtain⟨k1,k2⟩:=i.yf es' hN;rcases hE with ⟨h5,he⟩ | ⟨h5,hH,c,hat,he⟩ | ⟨h5,hH,hn,he⟩
  ·exact⟨ag,.inr ⟨hA,.inr (.inr (.inr ⟨hB,hC,hD,es',hP,hR,hN,.inl ⟨h5,rfl,he⟩⟩))⟩,same _ hb⟩
  ·rw[hH] at k1
   cases XZ:mK ag es' with
   | none=>rw[XZ] at k1;cases k1
   | some j=>
    have hc:=(k2 j XZ).symm.trans hat;have J4:c=(j:Int)+1:=by simpa using hc.symm
    subst J4;exact⟨ag,.inr ⟨hA,.inr (.inr (.inr ⟨hB,hC,hD,es',hP,hR,hN,.inr (.inl ⟨h5,rfl,j,XZ,he⟩)⟩))⟩,same _ hb⟩
  ·rw[hH] at k1
   have XZ:mK ag es'=none:=by simpa using k1.symm
   exact⟨ag,.inr ⟨hA,.inr (.inr (.inr ⟨hB,hC,hD,es',hP,hR,hN,.inr (.inr (.inl ⟨h5,XZ,hn,rfl,he⟩))⟩))⟩,same _ hb⟩
 ·have hN:=named es' hP hA hD hC
  obtain⟨k1,_⟩:=i.yf es' hN;rw[hH] at k1;have XZ:mK ag es'=none:=by simpa using k1.symm
  have hle:es'.length=m:=by rw[hP.length_eq,hl]
  obtain⟨Vf,Kq,RJ⟩:=dM i.AW;have hgr:ye ft w w' p a ag.length cap bf bd bd 208 (dV ag++(RO g m cap' es' (YtlgidcmmgohagaaGreat.dn ag es')).cells) (Dd.put (gD prog es') (.lit (.int .i64 ((ag.length:Int)+1)))):=hG;obtain⟨_,_,_,_,_,hdm,_⟩:=hG;have hg0:w.heap.size<=g/\g<w'.heap.size:=by
   refine⟨?_,ah hrow rfl⟩;rcases hrow.2 with ⟨h,_⟩ | ⟨g',_,_,hv,hb,_⟩
   ·cases h
   ·cases hv;exact hb
  have Nb:w'.ownsRow 0 96 3 (.slice (some ⟨g,0,none⟩) m cap') m (flat es'):=by
   refine⟨hrow.1,?_⟩;rcases hrow.2 with h | ⟨g',c',cur,hv,hb,r⟩
   ·exact .inl h
   ·exact .inr ⟨g',c',cur,hv,dG _,r⟩
  have pG:Oy w' (bq F w w') (RO g m cap' es' (YtlgidcmmgohagaaGreat.dn ag es')):=.inr ⟨rfl,hle,hN,hR,hE0,hE,fun g' kT=>by (obtain rfl:g=g':=by simpa [RO,Value.ownBlock] using kT);exact .inr hg0,Nb⟩;exact⟨_,.inr ⟨hA,.inr (.inr (.inr ⟨hB,hC,hD,es',hP,hR,hN,.inr (.inr (.inr ⟨hE,XZ,hn,⟨_,rfl,rfl,rfl,rfl⟩,he⟩))⟩))⟩,
   i.grow hgr hn i.fd RJ pG ((hgr.other i.iH i.files i.ne).mono (Nat.le_succ _)) (i.uj.other (show (2:Int)≠1 by decide)) hdm (i.yf.put i.AW.isMap hN XZ rfl rfl)⟩
theorem E3 {F:Nat->Prop}{w:World}{s p:Nat}{ag:List Ob}(h:kU ft F w s p ag)(b off m c0:Nat)(es:List aK)
  (hl:es.length=m)(hbl:b<w.heap.size)(jl:m*32<=140737488355328)(hc:∀j u,(flat es)[j]? = some u->w.cell? ⟨b,off+j,none⟩=some u)(hsz:∀e ∈ es,e.1.size<=maxLen):
  Calls prog 26 #[.pointer (some ⟨s,0,none⟩),.slice (some ⟨b,off,none⟩) m c0] w fun e w'=>∃aN,iJ ag aN es e/\kU ft (bq F w w') w' s p aN/\ax F w w':=by
 obtain⟨a,cap,bf,bd,Df,Dd,i⟩:=h;have hcon:=VU i b off m c0 es hl hbl jl hc hsz;have c0:=i.c0;clear i hc hsz hl jl;go_enter func26,ntmps26;go_wp2_with fail;refine hcon.mono ?_;rintro e w' ⟨aN,nC,kE⟩;obtain⟨x,y,Ap⟩:=nC.shape;have HF:Hid (iJ ag aN es e):=nC;have HR:Hid (kU ft (bq F w w') w' s p aN/\ax F w w'):=kE;have HE:Hid (e=.returned (.tuple #[.int .i64 x,.int .i64 y])):=Ap;clear nC kE Ap hcon;rw[HE.out];go_wp2;go_ret2;exact⟨aN,HE.out ▸ HF.out,HR.out⟩
def E4 (ag:List Ob)(id:Int)(e:Ending):Prop:=
 (aH ag id≠1/\e=.returned (.tuple #[.string ByteArray.empty,.int .i64 13]))\/∃j,∃hj:j<ag.length,id=(j:Int)+1/\ag[j].kind=1/\e=.returned (.tuple #[.string ag[j].data,.int .i64 0])
def E5 (w w':World)(ag:List Ob)(id:Int)(e:Ending):Prop:=
 (aH ag id≠2/\e=.returned (.tuple #[.slice none 0 0,.int .i64 13]))\/
 ∃j,∃hj:j<ag.length,id=(j:Int)+1/\ag[j].kind=2/\∃g,e=.returned (.tuple #[.slice (some ⟨g,0,none⟩) ag[j].aV.length ag[j].aV.length,.int .i64 0])/\
  w'.ownsRow w.heap.size 96 3 (.slice (some ⟨g,0,none⟩) ag[j].aV.length ag[j].aV.length) ag[j].aV.length (flat ag[j].aV)
theorem AX {F:Nat->Prop}{w:World}{s p:Nat}{a:Option Addr}{cap bf bd:Nat}{Df Dd:DataW Unit}{ag:List Ob}(i:qq ft F w s p a cap bf bd Df Dd ag)(id:Int):
  Calls prog 85 #[.pointer (some ⟨p,0,none⟩),.int .i64 id] w fun e w'=>E5 w w' ag id e/\Below w.heap.size w w':=by
 by_cases hk:aH ag id=2
 ·have hid:¬(id<1\/(ag.length:Int)<id):=fun h=>by rw[fD h] at hk;cases hk
  obtain⟨j,rfl⟩:∃j:Nat,id=(j:Int)+1:=⟨(id-1).toNat,by omega⟩;have hj:j<ag.length:=by omega
  rw[dL hj] at hk;rcases i.zZ ag[j] (jk hj) with ⟨h1,_⟩ | ⟨_,h2,h3,_,_,_,_,h9⟩
  ·rw[h1] at hk;cases hk
  ·obtain⟨g,h7⟩ | ⟨h7,h70,h7c⟩:(∃g,ag[j].ea=some ⟨g,0,none⟩)\/(ag[j].ea=none/\ag[j].el=0/\ag[j].ec=0):=by
    rcases h9.2 with ⟨hv,h0⟩ | ⟨g,cc,cur,hv,_⟩
    ·simp only[Value.slice.injEq] at hv;exact .inr hv
    ·simp only[Value.slice.injEq] at hv;exact .inl ⟨g,hv.1⟩
   rotate_left
   ·have he0:ag[j].aV = []:=List.length_eq_zero_iff.1 (h2.trans h70)
    refine (VT p a ag.length cap bf bd ag j hj w i.iH hk h7 h70 h7c).mono fun e w' ⟨g',he,hr,hb⟩=>⟨.inr ⟨j,hj,rfl,hk,g',?_,?_⟩,hb⟩
    ·rw[he0];exact he
    ·rw[he0];exact hr
   rw[h7] at h9;refine (RD p a ag.length cap bf bd ag j g ag[j].el ag[j].ec ag[j].aV hj w i.iH hk h7 rfl rfl (by rw[<-h2];exact h3.1) h2 (ah h9 rfl) (aQ h9)).mono fun e w' ⟨g',he,hr,hb⟩=>⟨.inr ⟨j,hj,rfl,hk,g',?_,?_⟩,hb⟩
   ·rw[h2];exact he
   ·rw[h2];exact hr
 ·exact (VS p a ag.length cap bf bd ag id w i.iH hk).mono fun e w' ⟨he,hb⟩=>⟨.inl ⟨hk,he⟩,hb⟩
theorem E6 (w:World):Calls prog 25 #[] w fun e w'=>∃s,e=.returned (.pointer (some ⟨s,0,none⟩))/\Inv pt0 (bq (fun _=>False) w w') w' s []/\Below w.heap.size w w':=by
 refine (EM w).mono fun e w' ⟨he,hw⟩=>?_;refine⟨_,he,?_,?_⟩
 ·subst hw
  have e3:∀o1 o2 o3 o4:Obj,((((w.alloc o1).alloc o2).alloc o3).alloc o4).heap[w.heap.size+3]? = some o4:=fun o1 o2 o3 o4=>by
   have:=heap_alloc_new (((w.alloc o1).alloc o2).alloc o3) o4
   simpa using this
  have e2:∀o1 o2 o3 o4:Obj,((((w.alloc o1).alloc o2).alloc o3).alloc o4).heap[w.heap.size+2]? = some o3:=fun o1 o2 o3 o4=>by
   rw[RowKit.Below.heap_alloc _ _ _ (by simp)]
   have:=heap_alloc_new ((w.alloc o1).alloc o2) o3
   simpa using this
  have e1:∀o1 o2 o3 o4:Obj,((((w.alloc o1).alloc o2).alloc o3).alloc o4).heap[w.heap.size+1]? = some o2:=fun o1 o2 o3 o4=>by
   rw[RowKit.Below.heap_alloc _ _ _ (by simp),RowKit.Below.heap_alloc _ _ _ (by simp)];exact heap_alloc2_new w o1 o2
  have e0:∀o1 o2 o3 o4:Obj,((((w.alloc o1).alloc o2).alloc o3).alloc o4).heap[w.heap.size]? = some o1:=fun o1 o2 o3 o4=>by
   rw[RowKit.Below.heap_alloc _ _ _ (by simp;omega),RowKit.Below.heap_alloc _ _ _ (by simp;omega)];exact heap_alloc2_old w o1 o2
  refine⟨w.heap.size+2,none,0,w.heap.size,w.heap.size+1,.map [],.map [],⟨.inr (by simp),.inr (by simp),.inr (by simp;omega),.inr (by simp),?_,e3 _ _ _ _,⟨e2 _ _ _ _,World.ownsRow_nil _ _ _ _,rfl,by simp⟩,by omega,?_,?_,?_,?_,?_⟩⟩
  ·intro g hg;cases hg
  ·exact⟨#[],0,e0 _ _ _ _,⟨by simp,MapKept.stamped_empty 0,by simp⟩,bA _,rfl⟩
  ·intro d;exact⟨rfl,fun i hi=>by cases hi⟩
  ·exact⟨#[],0,e1 _ _ _ _,⟨by simp,MapKept.stamped_empty 0,by simp⟩,bA _,rfl⟩
  ·intro es _;exact⟨rfl,fun i hi=>by cases hi⟩
  ·intro o ho;cases ho
 ·rw[hw]
  exact ((((Below.refl _ _).alloc (bA _) _).alloc (by simp) _).alloc (by simp;omega) _).alloc (by simp;omega) _
variable {ft:gA}
theorem CQ {F:Nat->Prop}{w:World}{s p:Nat}{ag:List Ob}(h:kU ft F w s p ag)(d:ByteArray)(hd:d.size<=maxLen):
  Calls prog 35 #[.pointer (some ⟨s,0,none⟩),.string d] w fun e w'=>∃aN,jI ag aN d e/\kU ft (bq F w w') w' s p aN/\ax F w w':=by
 obtain⟨a,cap,bf,bd,Df,Dd,i⟩:=h;have hcon:=RQ i d hd;have c0:=i.c0;clear i hd;go_enter func35,ntmps35;go_wp2_with fail;refine hcon.mono ?_;rintro e w' ⟨aN,nC,kE⟩;obtain⟨x,y,Ap⟩:=nC.shape;have HF:Hid (jI ag aN d e):=nC;have HR:Hid (kU ft (bq F w w') w' s p aN/\ax F w w'):=kE;have HE:Hid (e=.returned (.tuple #[.int .i64 x,.int .i64 y])):=Ap;clear nC kE Ap hcon;rw[HE.out];go_wp2;go_ret2;exact⟨aN,HE.out ▸ HF.out,HR.out⟩
def jr (a b:ByteArray):Bool:=decide (Lib.compareBytes a.data.toList b.data.toList<0)
theorem AY:∀(k:Nat) (a b:List UInt8),k<=a.length->k<=b.length->a.take k=b.take k->Lib.compareBytes a b=Lib.compareBytes (a.drop k) (b.drop k)
 | 0,_,_,_,_,_=>rfl
 | k+1,[],_,h,_,_=>by simp at h
 | k+1,_ :: _,[],_,h,_=>by simp at h
 | k+1,x :: r,y :: s,h1,h2,h=>by
  simp only[List.take_succ_cons,List.cons.injEq] at h
  obtain⟨rfl,h⟩:=h
  simp only[Lib.compareBytes,xZ,if_false,List.drop_succ_cons]
  exact AY k r s (by simpa using h1) (by simpa using h2) h
theorem YY {a b:List UInt8}{k:Nat}(h1:k<a.length)(h2:k<b.length)(h:a.take k=b.take k)(hne:a[k]≠b[k]):decide (Lib.compareBytes a b<0)=decide (a[k]<b[k]):=by
 rw[AY k a b (by omega) (by omega) h,List.drop_eq_getElem_cons h1,List.drop_eq_getElem_cons h2];rcases xY a[k] b[k] with c | c | c
 ·simp[Lib.compareBytes,c]
 ·exact absurd c hne
 ·simp[Lib.compareBytes,c,oA c]
theorem Nc {a b:List UInt8}{k:Nat}(h1:k<=a.length)(h2:k<=b.length)(h:a.take k=b.take k)(he:k=a.length\/k=b.length):decide (Lib.compareBytes a b<0)=decide (a.length<b.length):=by
 rw[AY k a b h1 h2 h];rcases he with he | he
 ·subst he
  rw[List.drop_length];cases hb:b.drop a.length with
  | nil=>have:=congrArg List.length hb;simp at this;simp[Lib.compareBytes];omega
  | cons x r=>have:=congrArg List.length hb;simp at this;simp[Lib.compareBytes];omega
 ·subst he
  rw[List.drop_length];cases ha:a.drop b.length with
  | nil=>have:=congrArg List.length ha;simp at this;simp[Lib.compareBytes];omega
  | cons x r=>have:=congrArg List.length ha;simp at this;simp[Lib.compareBytes];omega
theorem RR (a b:ByteArray)(w:World)(ha:a.size<=maxLen)(hb:b.size<=maxLen):
  Calls prog 169 #[.string a,.string b] w fun e w'=>e=.returned (.bool (jr a b))/\∃q,w'=w.drewN q:=by
 unfold maxLen at ha hb;have la:a.data.toList.length=a.size:=Array.length_toList;have lb:b.data.toList.length=b.size:=Array.length_toList;have Gw:Hid (a.data.toList.length=a.size):=la;have YZ:Hid (b.data.toList.length=b.size):=lb;clear la lb;go_enter func169,ntmps169;go_wp2
 go_loopw [5] (fun i wr=>∃k:Nat,k<=a.size/\k<=b.size/\i=.int .i64 k/\Hid (∃q,wr=w.drewN q)/\Hid (a.data.toList.take k=b.data.toList.take k)) (fun i _=>a.size-(intOf i).toNat)
 case atStart=>exact⟨0,dG _,dG _,rfl,⟨0,rfl⟩,rfl⟩
 case round=>
  obtain⟨k,fM,hk2,rfl,HW,HT⟩:=hrel;by_cases h1:k<a.size
  ·by_cases h2:k<b.size
   ·by_cases hne:((a[k].toNat:Int) == (b[k].toNat:Int))=true
    ·have HE:Hid (a[k]=b[k]):=UInt8.toNat_inj.1 (by have:=eq_of_beq hne;omega)
     go_wp2
     go_quiet (fail)
     go_wp2;go_roundw
     case rel=>
      refine⟨k+1,by omega,by omega,by go_num,?_,?_⟩
      ·obtain⟨q,hq⟩:=HW.out;exact⟨q+nq,by rw[hq,World.drewN_drewN]⟩
      ·show _=_
       rw[qX (by rw[Gw.out];exact h1),qX (by rw[YZ.out];exact h2),HT.out];exact congrArg _ (congrArg (· :: []) HE.out)
     case measure=>simp[intOf];omega
    ·have alI:((a[k].toNat:Int) == (b[k].toNat:Int))=false:=by simpa using hne
     have HE:Hid (a[k]≠b[k]):=fun h=>hne (by rw[h];exact beq_self_eq_true _);go_wp2
     go_quiet (fail)
     go_wp2
     go_quiet (fail)
     go_wp2;go_ret;obtain⟨q,hq⟩:=HW.out;refine⟨?_,by subst hq;exact⟨_,by rw[World.drewN_drewN,World.drewN_drewN]⟩⟩
     have:=YY (a:=a.data.toList) (b:=b.data.toList) (k:=k) (by rw[Gw.out];exact h1) (by rw[YZ.out];exact h2) HT.out HE.out
     unfold jr;rw[this]
     congr 2
   ·go_wp2
    go_ret;obtain⟨q,hq⟩:=HW.out;refine⟨?_,q,hq⟩
    have:=Nc (k:=k) (by rw[Gw.out];exact fM) (by rw[YZ.out];exact hk2) HT.out (.inr (by rw[YZ.out];omega))
    unfold jr;rw[this,Gw.out,YZ.out]
    congr 2
  ·go_wp2
   go_ret;obtain⟨q,hq⟩:=HW.out;refine⟨?_,q,hq⟩
   have:=Nc (k:=k) (by rw[Gw.out];exact fM) (by rw[YZ.out];exact hk2) HT.out (.inl (by rw[Gw.out];omega))
   unfold jr;rw[this,Gw.out,YZ.out]
   congr 2
theorem Nf {l:List UInt8}{c:UInt8}(h:∀j (hj:j<l.length),l[j]≠c):Lib.indexByte l c<0:=by
 have hg:=Lib.indexByte_ge l c;by_cases hn:Lib.indexByte l c<0
 ·exact hn
 ·obtain⟨o,ho⟩:∃o:Nat,Lib.indexByte l c=o:=⟨(Lib.indexByte l c).toNat,by omega⟩
  have:=(Lib.indexByte_some ho).1
  obtain⟨hlt,he⟩:=List.getElem?_eq_some_iff.1 this;exact absurd he (h o hlt)
theorem E7 {l:List UInt8}{c:UInt8}{j:Nat}(hj:j<l.length)(h:l[j]=c):¬Lib.indexByte l c<0:=by
 intro hn;have hg:=Lib.indexByte_ge l c
 have:Lib.indexByte l c = -1:=by omega
 exact Lib.indexByte_none this j (by rw[kO hj,h])
theorem pH (s:ByteArray)(w:World)(hm:s.size<=maxLen)(h:(s.toList == [])=true\/((s.toList == [])=false/\(12<s.size\/¬12<s.size/\((s.toList == [46])=true\/(s.toList == [46])=false/\(s.toList == [46,46])=true)))):
  Calls prog 150 #[.string s] w fun e w'=>e=.returned (.bool false)/\∃q,w'=w.drewN q:=by
 unfold maxLen at hm;rcases h with h | ⟨h0,h | ⟨h1,h | ⟨h2,h3⟩⟩⟩
 all_goals
  go_enter func150,ntmps150;go_wp2;go_ret;exact⟨rfl,0,rfl⟩
theorem Ku (s:ByteArray)(w:World)(h0:(s.toList == [])=false)(h1:¬12<s.size)(h2:(s.toList == [46])=false)(h3:(s.toList == [46,46])=false)(r:Bool)
  (hr:Hid ((decide (Lib.indexByte s.data.toList 0<0) && decide (Lib.indexByte s.data.toList 47<0))=r)):
  Calls prog 150 #[.string s] w fun e w'=>e=.returned (.bool r)/\∃q,w'=w.drewN q:=by
 have Gw:Hid (s.data.toList.length=s.size):=Array.length_toList;go_enter func150,ntmps150;go_wp2
 go_loopw [3] (fun i wr=>∃k:Nat,k<=s.size/\i=.int .i64 k/\Hid (∃q,wr=w.drewN q)/\Hid (∀j (hj:j<s.data.toList.length),j<k->s.data.toList[j]≠0/\s.data.toList[j]≠47)) (fun i _=>s.size-(intOf i).toNat)
 case atStart=>exact⟨0,dG _,rfl,⟨0,rfl⟩,fun j hj h=>by omega⟩
 case round=>
  obtain⟨k,hk,rfl,HW,HV⟩:=hrel;by_cases hlt:k<s.size
  ·have Oz:k<s.data.toList.length:=by rw[Gw.out];exact hlt
   cases h4:((s[k].toNat:Int) == 0) with
   | true=>
    go_wp2;go_ret;obtain⟨q,hq⟩:=HW.out;refine⟨?_,q,hq⟩
    have:s.data.toList[k]=0:=UInt8.toNat_inj.1 (by have:=eq_of_beq h4;show s[k].toNat=0;omega)
    rw[<-hr.out,dY (E7 Oz this)];rfl
   | false=>
    cases h5:((s[k].toNat:Int) == 47) with
    | true=>
     go_wp2;go_ret;obtain⟨q,hq⟩:=HW.out;refine⟨?_,q,hq⟩
     have:s.data.toList[k]=47:=UInt8.toNat_inj.1 (by have:=eq_of_beq h5;show s[k].toNat=47;omega)
     rw[<-hr.out,dY (E7 Oz this),Bool.and_false];rfl
    | false=>
     have HE:Hid (s.data.toList[k]≠0/\s.data.toList[k]≠47):=by
      refine⟨fun h=>?_,fun h=>?_⟩
      ·have:s[k]=0:=h
       rw[this] at h4;simp at h4
      ·have:s[k]=47:=h
       rw[this] at h5;simp at h5
     go_wp2;go_roundw
     case rel=>
      refine⟨k+1,by omega,by go_num,?_,?_⟩
      ·obtain⟨q,hq⟩:=HW.out;exact⟨q,hq⟩
      ·intro j hj hjk
       by_cases e:j=k
       ·subst e;exact HE.out
       ·exact HV.out j hj (by omega)
     case measure=>simp[intOf];omega
  ·go_wp2
   go_ret;refine⟨?_,HW.out⟩;have ha:∀j (hj:j<s.data.toList.length),s.data.toList[j]≠0/\s.data.toList[j]≠47:=fun j hj=>HV.out j hj (by rw[Gw.out] at hj;omega)
   rw[<-hr.out,decide_eq_true (Nf fun j hj=>(ha j hj).1),decide_eq_true (Nf fun j hj=>(ha j hj).2)];rfl
theorem Dv (s:ByteArray)(w:World)(hm:s.size<=maxLen):Calls prog 150 #[.string s] w fun e w'=>e=.returned (.bool (aF s))/\∃q,w'=w.drewN q:=by
 have hz:(s.toList == [])=decide (s.size<1):=by
  rw[ByteArray.toList_eq];by_cases h:s.size<1
  ·have:s.data.toList = []:=List.eq_nil_of_length_eq_zero (by rw[Array.length_toList];exact (show s.size=0 by omega))
   simp[this,h]
  ·rw[dY h]
   cases hl:s.data.toList with
   | nil=>exact absurd (by have:=congrArg List.length hl;rw[Array.length_toList] at this;exact (show s.size<1 by have h2:s.size=0:=this;omega)) h
   | cons x r=>rfl
 unfold aF;cases h0:(s.toList == []) with
 | true=>
  have:¬1<=s.size:=by have h:=hz.symm.trans h0;have:=of_decide_eq_true h;omega
  rw[dY this];exact pH s w hm (.inl h0)
 | false=>
  have:1<=s.size:=by have h:=hz.symm.trans h0;have:=of_decide_eq_false h;omega
  rw[decide_eq_true this];by_cases h1:12<s.size
  ·rw[dY (show ¬s.size<=12 by omega)]
   exact pH s w hm (.inr ⟨h0,.inl h1⟩)
  ·rw[decide_eq_true (show s.size<=12 by omega)]
   cases h2:(s.toList == [46]) with
   | true=>exact pH s w hm (.inr ⟨h0,.inr ⟨h1,.inl h2⟩⟩)
   | false=>
    cases h3:(s.toList == [46,46]) with
    | true=>exact pH s w hm (.inr ⟨h0,.inr ⟨h1,.inr ⟨h2,h3⟩⟩⟩)
    | false=>exact Ku s w h0 h1 h2 h3 _ (show _=_ by simp)
variable {ft:gA}
theorem Fa {F:Nat->Prop}{w:World}{s:Nat}{ag:List Ob}(h:Inv ft F w s ag)(id:Int):
  Calls prog 40 #[.pointer (some ⟨s,0,none⟩),.int .i64 id] w fun e w'=>E4 ag id e/\Below w.heap.size w w':=by
 obtain⟨p,a,cap,bf,bd,Df,Dd,i⟩:=h;have hcon:=G6 p a ag.length cap bf bd ag id w i.iH;have c0:=i.c0;clear i;go_enter func40,ntmps40;go_wp2_with fail;refine hcon.mono ?_;rintro e w' ⟨hb,hf⟩;obtain⟨x,y,Ap⟩:∃x y,e=.returned (.tuple #[.string x,.int .i64 y]):=by
  rcases hf with ⟨_,h⟩ | ⟨_,_,_,_,h⟩ <;> exact⟨_,_,h⟩
 have HF:Hid (E4 ag id e):=hf;have HE:Hid (e=.returned (.tuple #[.string x,.int .i64 y])):=Ap;clear hf Ap hcon;rw[HE.out];go_wp2;go_ret2;exact⟨HE.out ▸ HF.out,hb⟩
theorem G8 {F:Nat->Prop}{w:World}{s:Nat}{ag:List Ob}(h:Inv ft F w s ag)(id:Int):
  Calls prog 43 #[.pointer (some ⟨s,0,none⟩),.int .i64 id] w fun e w'=>E5 w w' ag id e/\Below w.heap.size w w':=by
 obtain⟨p,a,cap,bf,bd,Df,Dd,i⟩:=h;have hcon:=AX i id;have c0:=i.c0;clear i;go_enter func43,ntmps43;go_wp2_with fail;refine hcon.mono ?_;rintro e w' ⟨hf,hb⟩;obtain⟨x,n,c,y,Ap⟩:∃x n c y,e=.returned (.tuple #[.slice x n c,.int .i64 y]):=by
  rcases hf with ⟨_,h⟩ | ⟨_,_,_,_,_,h,_⟩ <;> exact⟨_,_,_,_,h⟩
 have HF:Hid (E5 w w' ag id e):=hf;have HE:Hid (e=.returned (.tuple #[.slice x n c,.int .i64 y])):=Ap;clear hf Ap hcon;rw[HE.out];go_wp2;go_ret2;exact⟨HE.out ▸ HF.out,hb⟩
variable {ft:gA}
theorem RS (p:Nat)(a:Option Addr)(n cap:Nat)(w:World)(h0:w.cell? ⟨p,0,none⟩=some (.slice a n cap)):
  Calls prog 86 #[.pointer (some ⟨p,0,none⟩)] w fun e w'=>e=.returned (.int .i64 n)/\w'=w:=by
 go_enter func86,ntmps86;go_wp2;go_ret;exact⟨rfl,rfl⟩
theorem Fb {F:Nat->Prop}{w:World}{s:Nat}{ag:List Ob}(h:Inv ft F w s ag):
  Calls prog 45 #[.pointer (some ⟨s,0,none⟩)] w fun e w'=>e=.returned (.int .i64 (ag.length:Int))/\w'=w:=by
 obtain⟨p,a,cap,bf,bd,Df,Dd,i⟩:=h;have hcon:=RS p a ag.length cap w i.iH.at_.c0;have c0:=i.c0;clear i;go_enter func45,ntmps45;go_wp2_with (go_at_call 86;refine hcon.mono ?_;rintro e w' ⟨rfl,rfl⟩);go_ret;exact⟨rfl,rfl⟩
theorem wE:(prog.info? 112).map (fun i=>(i.zero,i.size,i.bytes))=some (some (.agg #[.string ByteArray.empty,.int .i64 0,.int .i64 0]),3,32):=by kernel_rfl
def wF (out:List aK)(x:aK):List aK:=out.takeWhile (fun y=>jr y.1 x.1)++x :: out.dropWhile (fun y=>jr y.1 x.1)
def fF (ls:List aK):List aK:=ls.foldl wF []
theorem takeWhile_eq {α:Type}(p:α->Bool):∀(l:List α) (k:Nat),k<=l.length->(∀j (hj:j<l.length),j<k->p l[j]=true)->(∀hk:k<l.length,p l[k]=false)->l.takeWhile p=l.take k/\l.dropWhile p=l.drop k
 | [],0,_,_,_=>⟨rfl,rfl⟩
 | [],k+1,h,_,_=>by simp at h
 | x :: r,0,_,_,h=>by have:=h (by simp);simp only[List.getElem_cons_zero] at this;simp[List.takeWhile,List.dropWhile,this]
 | x :: r,k+1,h1,h2,h3=>by
  have hx:=h2 0 (by simp) (by omega)
  simp only[List.getElem_cons_zero] at hx
  have ih:=takeWhile_eq p r k (by simpa using h1) (fun j hj hjk=>by have:=h2 (j+1) (by simpa using hj) (by omega);simpa using this) (fun hk=>by have:=h3 (by simpa using hk);simpa using this)
  simp[List.takeWhile,List.dropWhile,hx,ih.1,ih.2]
theorem aZ (a b:List aK):flat (a++b)=flat a++flat b:=by simp[flat]
theorem bD (W:World)(x:aK)(t:TypeId)(n:Nat)(hn:n=W.heap.size):∀j u,(bL x)[j]? = some u->(W.alloc (.cells #[.string x.1,.int .i64 x.2.1,.int .i64 x.2.2] t)).cell? ((⟨n,0,none⟩:Addr).add j)=some u:=by
 subst hn;intro j u h
 match j,h with
 | 0,h=>simpa [Addr.add,bL] using h
 | 1,h=>simpa [Addr.add,bL] using h
 | 2,h=>simpa [Addr.add,bL] using h
 | j+3,h=>simp[bL] at h
theorem bX {B:Nat}{wo W W1:World}{e:TypeId}{size n:Nat}{v:Value}{xs:List Value}(hb:Below B wo W)(hB:B<=W.heap.size)(hown:W.ownsRow B e size v n xs)(hg:W.grownBy W1 v.ownBlock):Below B wo W1:=
 hb.grown hg hB (fun k h=>(hown.lt k h).1)
theorem wG {w:World}{base:Nat}{e:TypeId}{size g n cap:Nat}{xs:List Value}(h:w.ownsRow base e size (.slice (some ⟨g,0,none⟩) n cap) n xs):n<=cap/\cap<=maxLen:=by
 rcases h.2 with ⟨h,_⟩ | ⟨g',cap',cur,hv,_,_,h1,h2,_⟩
 ·cases h
 ·cases hv;exact⟨h1,h2⟩
theorem OA (x:aK)(l:List aK):flat (x :: l)=bL x++flat l:=rfl
theorem Kv {out:List aK}{k j:Nat}{u:Value}(h:(flat (out.drop k))[j]? = some u):(flat out)[k*3+j]? = some u:=by
 by_cases hk:k<=out.length
 ·have e:flat out=flat (out.take k)++flat (out.drop k):=by rw[<-aZ,List.take_append_drop]
  have hl:(flat (out.take k)).length=k*3:=by rw[bl,List.length_take,Nat.min_eq_left hk]
  rw[e,List.getElem?_append_right (by omega),hl,Nat.add_sub_cancel_left];exact h
 ·rw[List.drop_eq_nil_of_le (by omega)] at h;simp[flat] at h
theorem cL {w:World}{base base':Nat}{e:TypeId}{size:Nat}{v:Value}{n:Nat}{xs:List Value}(h:w.ownsRow base e size v n xs)(hb:base'<=base):w.ownsRow base' e size v n xs:=by
 refine⟨h.1,?_⟩;rcases h.2 with h | ⟨g,c,cur,hv,hg,r⟩
 ·exact .inl h
 ·exact .inr ⟨g,c,cur,hv,eU hb hg,r⟩
theorem oC (g o j:Nat):(⟨g,o,none⟩:Addr).add j=⟨g,o+j,none⟩:=by
 unfold Addr.add;split
 ·next h=>subst h;rfl
 ·rfl
theorem Dw (out:List aK)(x:aK):(wF out x).Perm (x :: out):=by
 unfold wF;refine List.perm_middle.trans ?_;rw[List.takeWhile_append_dropWhile]
theorem si:∀(ls out:List aK),(ls.foldl wF out).Perm (ls++out)
 | [],out=>List.Perm.refl _
 | x :: r,out=>by
  rw[List.foldl_cons]
  refine (si r (wF out x)).trans ?_
  refine ((Dw out x).append_left r).trans ?_
  exact List.perm_middle
theorem jt (ls:List aK):(fF ls).Perm ls:=by
 have:=si ls []
 rwa [List.append_nil] at this
theorem rq {ls:List aK}{y:aK}(h:y ∈ fF ls):y ∈ ls:=(jt ls).mem_iff.1 h
theorem bp (x:aK):flat [x]=bL x:=by simp[flat]
theorem yg {out:List aK}{k:Nat}(hk:k<out.length):flat (out.take k)++bL out[k]=flat (out.take (k+1)):=by
 rw[qX hk,aZ,bp]
theorem Kw (b off m c0:Nat)(ls:List aK)(w:World)(hl:ls.length=m)(hm:m<=16)(hbl:b<w.heap.size)(hc:∀j u,(flat ls)[j]? = some u->w.cell? ⟨b,off+j,none⟩=some u)(hsz:∀e ∈ ls,e.1.size<=maxLen):
  Calls prog 107 #[.slice (some ⟨b,off,none⟩) m c0] w fun e w'=>∃v,e=.returned v/\w'.ownsRow w.heap.size 112 3 v m (flat (fF ls))/\Below w.heap.size w w':=by
 obtain⟨i0,hi,hz0,hz1,hz2⟩:=info_parts wE;have HC:Hid (∀j u,(flat ls)[j]? = some u->w.cell? ⟨b,off+j,none⟩=some u):=hc;have HS:Hid (∀e ∈ ls,e.1.size<=maxLen):=hsz;have HL:Hid (ls.length=m):=hl;clear hc hsz hl;go_enter func107,ntmps107;go_wp2
 go_loopw [3,4] (fun v i wo=>∃k:Nat,k<=m/\i=.int .i64 k/\Below w.heap.size w wo/\wo.ownsRow w.heap.size 112 3 v k (flat (fF (ls.take k)))/\(k=0->v=.slice none 0 0)) (fun _ i _=>m-(intOf i).toNat)
 case atStart=>exact⟨0,dG _,rfl,Below.refl _ _,World.ownsRow_nil _ _ _ _,fun _=>rfl⟩
 case round=>
  obtain⟨i,hk,rfl,hb,hown,hnil⟩:=hrel;by_cases hlt:i<m
  ·have vn:i<ls.length:=by rw[HL.out];exact hlt
   obtain⟨c0,c1,c2⟩:=bg HC.out vn;obtain⟨x,hx⟩:∃x,x=ls[i]:=⟨_,rfl⟩;rw[<-hx] at c0 c1 c2;obtain⟨out,hout⟩:∃out,out=fF (ls.take i):=⟨_,rfl⟩;have HO:Hid (fF (ls.take (i+1))=wF out x):=by
    show _=_;rw[qX vn,fF,List.foldl_append,hout,hx];rfl
   have HX:Hid (x.1.size<=maxLen):=by rw[hx];exact HS.out _ (jk vn)
   have X0:Hid (∀y ∈ out,y.1.size<=maxLen):=by
    intro y hy;rw[hout] at hy;exact HS.out y (List.mem_of_mem_take (rq hy))
   have hol:out.length=i:=by
    have:=hown.1
    rw[bl,<-hout] at this;omega
   rw[<-hout] at hown;clear hout hx;have x0:=fun (W:World) (hW:Below wr.heap.size wr W)=>((hb.trans (hW.mono hb.size)).cell (p:=⟨b,off+i*3,none⟩) hbl).trans c0
   have x1:=fun (W:World) (hW:Below wr.heap.size wr W)=>((hb.trans (hW.mono hb.size)).cell (p:=⟨b,off+i*3+1,none⟩) hbl).trans c1;have x2:=fun (W:World) (hW:Below wr.heap.size wr W)=>((hb.trans (hW.mono hb.size)).cell (p:=⟨b,off+i*3+2,none⟩) hbl).trans c2;clear c0 c1 c2;rename World=>wo;go_wp2
   go_loopw [5,6] (fun v j wq=>∃k:Nat,k<=i/\j=.int .i64 k/\Below wo.heap.size wo wq/\wq.ownsRow wo.heap.size 112 3 v k (flat (out.take k))/\Hid (∀j (hj:j<out.length),j<k->jr out[j].1 x.1=true)) (fun _ j _=>i-(intOf j).toNat)
   case atStart=>exact⟨0,dG _,rfl,Below.refl _ _,World.ownsRow_nil _ _ _ _,fun j hj h=>by omega⟩
   case round=>
    obtain⟨k,hki,rfl,kC,pE,HV⟩:=hrel;have d0:=x0 _ kC;have d1:=x1 _ kC;have d2:=x2 _ kC;by_cases oG:k<i
    ·obtain⟨g,cap,rfl⟩:=ak hown (by omega)
     have fo:g<wo.heap.size:=ah hown rfl;have X3:k<out.length:=by rw[hol];exact oG
     obtain⟨o0,o1,o2⟩:=bg (off:=0) (aQ hown) X3;rw[Nat.zero_add] at o0 o1 o2;have p0:=(kC.cell (p:=⟨g,k*3,none⟩) fo).trans o0;have p1:=(kC.cell (p:=⟨g,k*3+1,none⟩) fo).trans o1;have p2:=(kC.cell (p:=⟨g,k*3+2,none⟩) fo).trans o2;have Ng:=fun W=>RR out[k].1 x.1 W (X0.out _ (jk X3)) HX.out;cases Ky:jr out[k].1 x.1 with
     | true=>
      rw[Ky] at Ng;have HB:Hid (jr out[k].1 x.1=true):=Ky;clear Ky o0 o1 o2;go_wp2
      go_quiet (first | (go_at_call 169;exact Calls.quiet_of (Ng _)))
      go_wp2_with (at_builtin;refine wpList_append_own _ rfl (.tmp 30) (.tmp 35) 106 rfl wo.heap.size 112 i0 _ 3 32 underlying106 hi hz0 hz1 hz2 rfl (by decide) _ _ _ rfl (pE.alloc _) ⟨wr.heap.size,0,none⟩ 1 1 (bL out[k]) rfl rfl ?c1 ?c2 ?c3 ?c4 ?c5 ?_)
      case c1=>exact bD (wr.drewN nq) out[k] _ _ rfl
      case c2=>exact bJ out[k]
      case c3=>unfold maxLen;omega
      case c4=>omega
      case c5=>have:=kC.size;simp;omega
      intro v' w1 hown' hgrow _;have hB:wo.heap.size<=((wr.drewN nq).alloc (Obj.cells #[Value.string out[k].fst,Value.int IntKind.i64 out[k].snd.fst,Value.int IntKind.i64 out[k].snd.snd] 112)).heap.size:=by have:=kC.size;simp;omega
      have hb1:=bX ((below_drewN kC nq).alloc kC.size _) hB (pE.alloc _) hgrow;have hown1:w1.ownsRow wo.heap.size 112 3 v' (k+1) (flat (out.take (k+1))):=by rw[<-yg X3];exact hown'
      clear hown' hgrow hB;go_wp2;go_roundw
      case rel=>
       refine⟨k+1,by omega,by go_num,hb1,hown1,?_⟩;intro j hj hjk;by_cases e:j=k
       ·subst e;exact HB.out
       ·exact HV.out j hj (by omega)
      case measure=>simp[intOf];omega
     | false=>
      rw[Ky] at Ng;have HB:Hid (jr out[k].1 x.1=false):=Ky;clear Ky o0 o1 o2;go_wp2
      go_quiet (first | (go_at_call 169;exact Calls.quiet_of (Ng _)))
      go_wp2_with (at_builtin;refine wpList_append_own _ rfl (.tmp 39) (.tmp 44) 106 rfl wo.heap.size 112 i0 _ 3 32 underlying106 hi hz0 hz1 hz2 rfl (by decide) _ _ _ rfl (pE.alloc _) ⟨wr.heap.size,0,none⟩ 1 1 (bL x) rfl rfl ?c1 ?c2 ?c3 ?c4 ?c5 ?_)
      case c1=>exact bD (wr.drewN nq) x _ _ rfl
      case c2=>exact bJ x
      case c3=>unfold maxLen;omega
      case c4=>omega
      case c5=>have:=kC.size;simp;omega
      intro v' w1 hown' hgrow _;have hB:wo.heap.size<=((wr.drewN nq).alloc (Obj.cells #[Value.string x.fst,Value.int IntKind.i64 x.snd.fst,Value.int IntKind.i64 x.snd.snd] 112)).heap.size:=by have:=kC.size;simp;omega
      have hb1:=bX ((below_drewN kC nq).alloc kC.size _) hB (pE.alloc _) hgrow;obtain⟨hc1,hc2⟩:=wG hown;clear hgrow hB;have Vh:(flat (out.drop k)).length=(i-k)*3:=by rw[bl,List.length_drop,hol]
      have hdc:∀j u,(flat (out.drop k))[j]? = some u->w1.cell? ((⟨g,k*3,none⟩:Addr).add j)=some u:=by
       intro j u hju;have h1:=Kv hju;have h2:=aQ hown _ _ h1;rw[Nat.zero_add] at h2;have h3:=(hb1.cell (p:=⟨g,k*3+j,none⟩) fo).trans h2;rw[oC];exact h3
      have HDC:Hid (∀j u,(flat (out.drop k))[j]? = some u->w1.cell? ((⟨g,k*3,none⟩:Addr).add j)=some u):=hdc;clear hdc;go_wp2_with (at_builtin;refine wpList_append_own _ rfl (.tmp 46) (.tmp 49) 106 rfl wo.heap.size 112 i0 _ 3 32 underlying106 hi hz0 hz1 hz2 rfl (by decide) _ _ _ rfl hown' ⟨g,k*3,none⟩ (i-k) _ (flat (out.drop k)) rfl Vh HDC.out (iY _) ?c3 ?c4 ?c5 ?_)
      case c3=>unfold maxLen;omega
      case c4=>omega
      case c5=>exact hb1.size
      intro v2 w2 hown2 hgrow2 _;have hb2:=bX hb1 hb1.size hown' hgrow2;have jq:w2.ownsRow w.heap.size 112 3 v2 (i+1) (flat (fF (ls.take (i+1)))):=by
       rw[HO.out];have e1:=takeWhile_eq (fun y:aK=>jr y.1 x.1) out k (by omega) (fun j hj hjk=>HV.out j hj hjk) (fun _=>HB.out)
       have:=cL hown2 hb.size
       rw[show k+1+(i-k)=i+1 by omega] at this;unfold wF;rw[e1.1,e1.2,aZ,OA];simpa only[List.append_assoc] using this
      clear hown2 hgrow2 hown' HDC;go_wp2;go_roundw
      case rel=>exact⟨i+1,by omega,by go_num,hb.trans (hb2.mono hb.size),jq,fun h=>by omega⟩
      case measure=>simp[intOf];omega
    ·have j4:k=i:=by omega
     subst j4;have HT:Hid (out.take k=out):=List.take_of_length_le (by rw[hol];exact bA _);have hdk:decide ((k:Int)<(k:Int))=false:=by simp
     rw[HT.out] at pE;rcases Nat.eq_zero_or_pos k with hz | hz
     ·have hn:=hnil hz
      subst hn;subst hz;simp only[Nat.zero_mul,Nat.add_zero] at d0 d1 d2;go_wp2
      go_quiet (fail)
      go_wp2_with (at_builtin;refine wpList_append_own _ rfl (.tmp 39) (.tmp 44) 106 rfl wo.heap.size 112 i0 _ 3 32 underlying106 hi hz0 hz1 hz2 rfl (by decide) _ _ _ rfl (pE.alloc _) ⟨wr.heap.size,0,none⟩ 1 1 (bL x) rfl rfl ?c1 ?c2 ?c3 ?c4 ?c5 ?_)
      case c1=>exact bD (wr.drewN nq) x _ _ rfl
      case c2=>exact bJ x
      case c3=>unfold maxLen;omega
      case c4=>omega
      case c5=>have:=kC.size;simp;omega
      intro v' w1 hown' hgrow _;have hB:wo.heap.size<=((wr.drewN nq).alloc (Obj.cells #[Value.string x.fst,Value.int IntKind.i64 x.snd.fst,Value.int IntKind.i64 x.snd.snd] 112)).heap.size:=by have:=kC.size;simp;omega
      have hb1:=bX ((below_drewN kC nq).alloc kC.size _) hB (pE.alloc _) hgrow;obtain⟨g',cap',rfl⟩:=ak hown' (by omega);obtain⟨hc3,Y0⟩:=wG hown';have jq:w1.ownsRow w.heap.size 112 3 (.slice (some ⟨g',0,none⟩) (0+1) cap') (0+1) (flat (fF (ls.take (0+1)))):=by
       rw[HO.out];have e1:=takeWhile_eq (fun y:aK=>jr y.1 x.1) out 0 (by omega) (fun j hj hjk=>HV.out j hj hjk) (fun h=>by omega)
       have:=cL hown' hb.size
       unfold wF;rw[e1.1,e1.2,HT.out,List.drop_eq_nil_of_le (by omega),aZ,bp];exact this
      clear hown' hgrow hB;go_wp2
      all_goals
       go_roundw
       case rel=>exact⟨0+1,by omega,by go_num,hb.trans (hb1.mono hb.size),jq,fun h=>by omega⟩
       case measure=>simp[intOf];omega
     ·obtain⟨g,cap,rfl⟩:=ak hown hz
      obtain⟨hc1,hc2⟩:=wG hown;go_wp2
      go_quiet (fail)
      go_wp2_with (at_builtin;refine wpList_append_own _ rfl (.tmp 39) (.tmp 44) 106 rfl wo.heap.size 112 i0 _ 3 32 underlying106 hi hz0 hz1 hz2 rfl (by decide) _ _ _ rfl (pE.alloc _) ⟨wr.heap.size,0,none⟩ 1 1 (bL x) rfl rfl ?c1 ?c2 ?c3 ?c4 ?c5 ?_)
      case c1=>exact bD (wr.drewN nq) x _ _ rfl
      case c2=>exact bJ x
      case c3=>unfold maxLen;omega
      case c4=>omega
      case c5=>have:=kC.size;simp;omega
      intro v' w1 hown' hgrow _;have hB:wo.heap.size<=((wr.drewN nq).alloc (Obj.cells #[Value.string x.fst,Value.int IntKind.i64 x.snd.fst,Value.int IntKind.i64 x.snd.snd] 112)).heap.size:=by have:=kC.size;simp;omega
      have hb1:=bX ((below_drewN kC nq).alloc kC.size _) hB (pE.alloc _) hgrow;obtain⟨g',cap',rfl⟩:=ak hown' (by omega);obtain⟨hc3,Y0⟩:=wG hown';have jq:w1.ownsRow w.heap.size 112 3 (.slice (some ⟨g',0,none⟩) (k+1) cap') (k+1) (flat (fF (ls.take (k+1)))):=by
       rw[HO.out];have e1:=takeWhile_eq (fun y:aK=>jr y.1 x.1) out k (by omega) (fun j hj hjk=>HV.out j hj hjk) (fun h=>by omega)
       have:=cL hown' hb.size
       unfold wF;rw[e1.1,e1.2,HT.out,List.drop_eq_nil_of_le (by omega),aZ,bp];exact this
      clear hown' hgrow hB;go_wp2
      all_goals
       go_roundw
       case rel=>exact⟨k+1,by omega,by go_num,hb.trans (hb1.mono hb.size),jq,fun h=>by omega⟩
       case measure=>simp[intOf];omega
  ·have him:i=m:=by omega
   subst him;have HT:Hid (ls.take i=ls):=List.take_of_length_le (by rw[HL.out];omega);rw[HT.out] at hown;go_wp2;go_ret;exact⟨_,rfl,hown,hb⟩
end Go.Proofs.YtlgidcmmgohagaaGreat
