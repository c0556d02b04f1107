/- What is proved here: the jX own qY. -/
import Derived.Test.YtlgidcmmgohagaaGreatFileM10
namespace Go.Proofs.YtlgidcmmgohagaaGreat
open Go.RowKit Go.Sort Go.Shelf Go.Proofs.Tryz
set_option linter.unusedVariables false
set_option maxRecDepth 100000
set_option maxHeartbeats 16000000
variable {nodes:List eD}
def j2 (f t:eu)(e:eD):eD:=if(e.1.toList==f.toList)=true\/np e.1 f=true then(t++e.1.extract f.size e.1.size,e.2.1,e.2.2)else e
def vx (f:eu)(n m:Nat)(e:eD):Bool:=np e.1 f&&decide (5<((fX e.1).1.length:Int)-(n:Int)+(m:Int))
def lv (nodes:List eD)(f t:eu):List eD×Int:=
 if(fX f).2=false\/(fX t).2=false then(nodes,1)
 else if(fX f).1.length=0\/(fX t).1.length=0 then(nodes,9)
 else if tk nodes (fX f).1≠0 then(nodes,tk nodes (fX f).1)
 else if np t f=true then(nodes,9)
 else if pP nodes (fX t).1≠0 then(nodes,pP nodes (fX t).1)
 else if(f.toList==t.toList)=true then(nodes,0)
 else if kh nodes t=2/\kh nodes f=1 then(nodes,7)
 else if kh nodes t=1/\kh nodes f=2 then(nodes,5)
 else if kh nodes t=2/\0<(eE nodes t).length then(nodes,8)
 else if kh nodes t=0/\16<=(eE nodes (ek ((fX t).1.take ((fX t).1.length-1)))).length/\lA f (ek ((fX t).1.take ((fX t).1.length-1)))=false then(nodes,11)
 else if(nodes.any (vx f (fX f).1.length (fX t).1.length))=true then(nodes,11)
 else((mi nodes t).map (j2 f t),0)
theorem yG{P:eD->Bool}(h:∀j (hj:j<nodes.length),P nodes[j]=false):nodes.any P=false:=by
 rw[List.any_eq_false];intro x hx;obtain⟨j,hj,rfl⟩:=mH hx;rw[h j hj];decide
theorem K7{data:eB}(h:jN nodes data)(p:eu):(mi nodes p).length<=1000000000/\∀e∈mi nodes p,e.1.size<=2097152:=by
 refine⟨pD (List.length_filter_le _ _) h.big,fun e a=>h.small e (xK.1 a).1⟩
theorem Hh{p t:eu}(h:np p t=true):t.size+1<p.size:=by
 unfold np at h;split at h
 ·assumption
 ·cases h
section
variable {F:Nat->Prop}{w:World}{S:Nat}{na da:e5}{nc dc:Nat}{nodes:List eD}{data:eB}{rest:fE}
theorem Ex(h:eV F w S na da nc dc nodes data rest)(hf:jN nodes data)(f t:eu)(cy:f.size<=1048576)(cz:t.size<=1048576):
  eK 97 #[fj S,.string f,.string t] w fun e w'=>e=.returned (ed (lv nodes f t).2)/\eN (ie F w w') w' S (lv nodes f t).1 data rest/\en F w w':=by
 obtain⟨aA,hi,aB,aC,aD⟩:=H4 nT;have ao:Hid _:=QR f w (by omega);have ap:Hid (∀aE,_):=fun aE=>QR t aE (by omega);have bi:Hid (eV F w S na da nc dc nodes data rest):=h;have y:Hid (jN nodes data):=hf;have s:Hid (∀w',gS w w'->eN (ie F w w') w' S nodes data rest/\en F w w'):=fun w' bj=>⟨eN.below ⟨na,nc,da,dc,h⟩ bj,en.ew bj⟩;obtain⟨R,B⟩:∃R,R=lv nodes f t:=⟨_,rfl⟩;rw[<-B];have aF:=Do f;have aG:=Do t;have aH:(fX f).2=true->(fX f).1.length<=5:=EQ;have aI:(fX t).2=true->(fX t).1.length<=5:=EQ;have bk:=nQ f;have bl:=nQ t;unfold lv at B;obtain⟨xs,aJ⟩:∃xs,xs=(fX f).1:=⟨_,rfl⟩;obtain⟨ys,aK⟩:∃ys,ys=(fX t).1:=⟨_,rfl⟩;obtain⟨bI,bm⟩:∃b,b=(fX f).2:=⟨_,rfl⟩;obtain⟨bJ,bn⟩:∃b,b=(fX t).2:=⟨_,rfl⟩;rw[<-aJ,<-bm]at ao B aH;rw[<-aK,<-bn]at ap B aI;rw[<-aJ]at aF bk;rw[<-aK]at aG bl;have bK:Hid (∀x∈xs,x.size<=12):=aF;have bL:Hid (∀x∈ys,x.size<=12):=aG;obtain⟨z,aL⟩:∃z,z=ek (ys.take (ys.length-1)):=⟨_,rfl⟩;rw[<-aL]at B;have bM:Hid (z=ek (ys.take (ys.length-1))):=aL;obtain⟨n,hn⟩:∃n,n=xs.length:=⟨_,rfl⟩;obtain⟨m,hm⟩:∃m,m=ys.length:=⟨_,rfl⟩;rw[<-hn]at ao B aH bk;rw[<-hm]at ap B aI bl;have cA:Hid (n=xs.length):=hn;have cB:Hid (m=ys.length):=hm;have d:Hid (R=_):=B;clear h hf B aF aG aJ aK bm bn aL hn hm;go_enter func97,ntmps97;go_wp2_with fail;refine g7 ao.out ?_;rintro _ aE ⟨cC,rfl,aq,aM⟩;obtain⟨aN,bo,rfl⟩:=lf aq;have bN:=jf aq;have bp:Hid _:=aq;clear aq;go_wp2_with fail;refine g7 (ap.out _) ?_;rintro _ l ⟨cD,rfl,ar,aO⟩;obtain⟨aP,bq,rfl⟩:=lf ar;have bO:=jf ar;have u:gS w l:=aM.trans (aO.mono aM.size);have bQ:Hid (gj l aN n xs):=(rv bp.out).below aO;have bR:Hid (gj l aP m ys):=rv ar;have V:Hid (eV F l S na da nc dc nodes data rest):=bi.out.below u;have br:=u.size;clear ar bp ao ap aM aO;cases bI with
 |false=>
  have c:Hid (R=(nodes,1)):=by show _=_;rw[d.out,fY (Or.inl rfl)]
  go_wp2;go_ret;rw[c.out];exact⟨rfl,s.out _ u⟩
 |true=>
 cases bJ with
 |false=>
  have c:Hid (R=(nodes,1)):=by show _=_;rw[d.out,fY (Or.inr rfl)]
  go_wp2;go_ret;rw[c.out];exact⟨rfl,s.out _ u⟩
 |true=>
 have c0:¬((true:Bool)=false\/(true:Bool)=false):=by decide
 have P:Hid (¬((true:Bool)=false\/(true:Bool)=false)):=c0;have cE:n<=5:=aH rfl;have cF:m<=5:=aI rfl;clear c0;by_cases W:n=0
 ·have c:Hid (R=(nodes,9)):=by show _=_;rw[d.out,eJ P.out,fY (Or.inl W)]
  obtain rfl:=W;go_wp2;go_ret;rw[c.out];exact⟨rfl,s.out _ u⟩
 by_cases ae:m=0
 ·have c:Hid (R=(nodes,9)):=by show _=_;rw[d.out,eJ P.out,fY (Or.inr ae)]
  have bS:((n:Int)==0)=false:=by simp[W]
  obtain rfl:=ae;go_wp2;go_ret;rw[c.out];exact⟨rfl,s.out _ u⟩
 have bS:((n:Int)==0)=false:=by simp[W]
 have cG:((m:Int)==0)=false:=by simp[ae]
 have af:Hid (¬(n=0\/m=0)):=fun h=>h.elim W ae;have bT:0<m:=by omega
 obtain⟨H,aQ⟩:∃H,H=tk nodes xs:=⟨_,rfl⟩;obtain⟨I,aR⟩:∃I,I=pP nodes ys:=⟨_,rfl⟩;obtain⟨Q,aS⟩:∃Q,Q=kh nodes f:=⟨_,rfl⟩;obtain⟨C,aT⟩:∃C,C=kh nodes t:=⟨_,rfl⟩;obtain⟨ag,aU⟩:∃ag,ag=(eE nodes t).length:=⟨_,rfl⟩;obtain⟨X,aV⟩:∃X,X=(eE nodes z).length:=⟨_,rfl⟩;obtain⟨au,aW⟩:∃au,au=np t f:=⟨_,rfl⟩;obtain⟨ah,aX⟩:∃ah,ah=lA f z:=⟨_,rfl⟩;obtain⟨bs,Y⟩:∃b,b=(f.toList==t.toList):=⟨_,rfl⟩;rw[<-aQ,<-aR,<-aS,<-aT,<-aU,<-aV,<-aW,<-aX,<-Y]at d;have bt:Hid (eK 153 #[fj S,.slice aN n bo] l (tz (ed H) l)):=by rw[aQ];exact ug V.out aN n bo xs bQ.out bK.out (by omega) bN y.out.big
 have bU:Hid (eK 161 #[.string t,.string f] l (tz (.bool au) l)):=by rw[aW];exact nS t f l (by omega) (by omega)
 have bV:Hid (eK 158 #[fj S,.slice aP m bq] l (tz (.tuple #[.string z,ed I]) l)):=by rw[aR,bM.out];exact He V.out y.out aP m bq ys bR.out bL.out (by omega) bT bO
 have bW:Hid (eK 155 #[fj S,.string f] l (tz (ed Q) l)):=by rw[aS];exact lJ V.out f y.out.big
 have bX:Hid (eK 155 #[fj S,.string t] l (tz (ed C) l)):=by rw[aT];exact lJ V.out t y.out.big
 have bY:Hid (eK 154 #[fj S,.string t] l (ml (ed (ag:Int)) l)):=by rw[aU];exact nR V.out y.out t
 have bZ:Hid (∀w3,gS l w3->eK 154 #[fj S,.string z] w3 (ml (ed (X:Int)) w3)):=fun w3 Z=>by rw[aV];exact nR (V.out.below Z) y.out z
 have b0:Hid (∀ai,eK 162 #[.string f,.string z] ai (ml (.bool ah) ai)):=fun ai=>by rw[aX];exact wj f z ai (by omega)
 have cH:Hid (bs=(f.toList==t.toList)):=Y;clear aQ aR aS aT aU aV aW aX W ae;by_cases a1:H=0
 case neg=>
  have c:Hid (R=(nodes,H)):=by show _=_;rw[d.out,eJ P.out,eJ af.out,fY a1]
  have b1:(H != 0)=true:=by simp[a1]
  clear a1;go_wp2_with fail;refine g7 bt.out ?_;rintro _ _ ⟨rfl,rfl⟩;go_wp2;go_ret;rw[c.out];exact⟨rfl,s.out _ u⟩
 have av:Hid (¬H≠0):=fun h=>h a1;have b1:(H != 0)=false:=by simp[a1]
 clear a1;go_wp2_with fail;refine g7 bt.out ?_;rintro _ _ ⟨rfl,rfl⟩;go_wp2_with fail;refine g7 bU.out ?_;rintro _ _ ⟨rfl,rfl⟩;cases au with
 |true=>
  have c:Hid (R=(nodes,9)):=by show _=_;rw[d.out,eJ P.out,eJ af.out,eJ av.out,fY rfl]
  go_wp2;go_ret;rw[c.out];exact⟨rfl,s.out _ u⟩
 |false=>
 have aY:Hid (¬(false:Bool)=true):=fun h=>Bool.noConfusion h;go_wp2_with fail;refine g7 bV.out ?_;rintro _ _ ⟨rfl,rfl⟩;by_cases a3:I=0
 case neg=>
  have c:Hid (R=(nodes,I)):=by show _=_;rw[d.out,eJ P.out,eJ af.out,eJ av.out,eJ aY.out,fY a3]
  have b2:(I != 0)=true:=by simp[a3]
  clear a3;go_wp2;go_ret;rw[c.out];exact⟨rfl,s.out _ u⟩
 have bu:Hid (¬I≠0):=fun h=>h a3;have b2:(I != 0)=false:=by simp[a3]
 clear a3;cases bs with
 |true=>
  have c:Hid (R=(nodes,0)):=by show _=_;rw[d.out,eJ P.out,eJ af.out,eJ av.out,eJ aY.out,eJ bu.out,fY rfl]
  have b3:(f.toList==t.toList)=true:=Y.symm;clear Y;go_wp2;go_ret;rw[c.out];exact⟨rfl,s.out _ u⟩
 |false=>
 have b3:(f.toList==t.toList)=false:=Y.symm;clear Y;go_wp2_with fail;refine g7 bW.out ?_;rintro _ _ ⟨rfl,rfl⟩;go_wp2_with fail;refine g7 bX.out ?_;rintro _ _ ⟨rfl,rfl⟩;go_wp2_with fail;refine g7 bY.out ?_;rintro _ w3 ⟨rfl,Z⟩;go_wp2_with fail;refine g7 (bZ.out _ Z) ?_;rintro _ ai ⟨rfl,aZ⟩;go_wp2_with fail;refine g7 (b0.out _) ?_;rintro _ w5 ⟨rfl,a0⟩;have bv:=Z.size;have cI:=aZ.size;have cJ:=a0.size;have b4:Hid (¬(false:Bool)=true):=fun h=>Bool.noConfusion h;have aw:gS w w5:=u.trans (((Z.trans (aZ.mono bv)).trans (a0.mono (by omega))).mono br);rw[eJ P.out,eJ af.out,eJ av.out,eJ aY.out,eJ bu.out,eJ b4.out]at d;by_cases t2:C=2
 case' pos=>
  subst t2;by_cases f1:Q=1
  ·have c:Hid (R=(nodes,7)):=by show _=_;rw[d.out,fY ⟨rfl,f1⟩]
   subst f1;go_wp2;go_ret;rw[c.out];exact⟨rfl,s.out _ aw⟩
  have cK:(Q==1)=false:=by simpa using f1
  by_cases q0:0<ag
  ·have c:Hid (R=(nodes,8)):=by show _=_;rw[d.out,eJ (fun h=>f1 h.2),eJ (fun h=>absurd h.1 (by decide)),fY ⟨rfl,q0⟩]
   clear f1;go_wp2;go_ret;rw[c.out];exact⟨rfl,s.out _ aw⟩
  obtain rfl:ag=0:=by omega
  have aa:Hid (R=if(nodes.any (vx f n m))=true then(nodes,11) else((mi nodes t).map (j2 f t),0)):=by show _=_;rw[d.out,eJ (fun h=>f1 h.2),eJ (fun h=>absurd h.1 (by decide)),eJ (fun h=>q0 h.2),eJ (fun h=>absurd h.1 (by decide))]
  clear f1 q0
 case' neg=>
  have cL:(C==2)=false:=by simpa using t2
  by_cases t1:C=1
  case' pos=>
   subst t1;by_cases f2:Q=2
   ·have c:Hid (R=(nodes,5)):=by show _=_;rw[d.out,eJ (fun h=>t2 h.1),fY ⟨rfl,f2⟩]
    subst f2;go_wp2;go_ret;rw[c.out];exact⟨rfl,s.out _ aw⟩
   have cM:(Q==2)=false:=by simpa using f2
   have aa:Hid (R=if(nodes.any (vx f n m))=true then(nodes,11) else((mi nodes t).map (j2 f t),0)):=by show _=_;rw[d.out,eJ (fun h=>t2 h.1),eJ (fun h=>f2 h.2),eJ (fun h=>t2 h.1),eJ (fun h=>absurd h.1 (by decide))]
   clear f2 t2
  case' neg=>
   have cN:(C==1)=false:=by simpa using t1
   by_cases t0:C=0
   case' neg=>
    have cO:(C==0)=false:=by simpa using t0
    have aa:Hid (R=if(nodes.any (vx f n m))=true then(nodes,11) else((mi nodes t).map (j2 f t),0)):=by show _=_;rw[d.out,eJ (fun h=>t2 h.1),eJ (fun h=>t1 h.1),eJ (fun h=>t2 h.1),eJ (fun h=>t0 h.1)]
    clear t2 t1 t0
   case' pos=>
    subst t0;by_cases UY:16<=X
    case' pos=>
     have b5:(16:Int)<=(X:Int):=(by omega);by_cases a2:ah=true
     case' neg=>
      obtain rfl:ah=false:=by simpa using a2
      clear a2;have c:Hid (R=(nodes,11)):=by show _=_;rw[d.out,eJ (fun h=>t2 h.1),eJ (fun h=>t1 h.1),eJ (fun h=>t2 h.1),fY ⟨rfl,UY,rfl⟩]
      clear t2 t1;go_wp2;go_ret;rw[c.out];exact⟨rfl,s.out _ aw⟩
     subst a2;have aa:Hid (R=if(nodes.any (vx f n m))=true then(nodes,11) else((mi nodes t).map (j2 f t),0)):=by show _=_;rw[d.out,eJ (fun h=>t2 h.1),eJ (fun h=>t1 h.1),eJ (fun h=>t2 h.1),eJ (fun h=>Bool.noConfusion h.2.2)]
     clear t2 t1
    case' neg=>
     have b5:decide ((16:Int)<=(X:Int))=false:=m6 (by omega);have aa:Hid (R=if(nodes.any (vx f n m))=true then(nodes,11) else((mi nodes t).map (j2 f t),0)):=by show _=_;rw[d.out,eJ (fun h=>t2 h.1),eJ (fun h=>t1 h.1),eJ (fun h=>t2 h.1),eJ (fun h=>UY h.2.1)]
     clear t2 t1
 all_goals
  have aj:gS w w5:=u.trans (((Z.trans (aZ.mono bv)).trans (a0.mono (by omega))).mono br);have b6:Hid (eV F w5 S na da nc dc nodes data rest):=bi.out.below aj;obtain⟨D,a4⟩:∃D,D=nodes.length:=⟨_,rfl⟩;have cQ:D<=1000000000:=by rw[a4];exact y.out.big
  have a5:Hid (D=nodes.length):=a4;clear a4;go_wp2
  go_loopw [18] (fun i wr=>∃k:Nat,k<=D/\i=.int .i64 (k:Int)/\gS w5 wr/\Hid (∀j (hj:j<nodes.length),j<k->vx f n m nodes[j]=false)) (fun i _=>D-(intOf i).toNat)
  case atStart=>exact⟨0,oY _,rfl,i7 _ _,fun j hj h=>by omega⟩
  case round=>
   obtain⟨k,hk,rfl,ab,a6⟩:=hrel;have p:=b6.out.below ab;have a7:=p.c0;have b7:=p.lt;rw[<-a5.out]at a7;have bw:=ab.size;by_cases b8:k<D
   ·have E:k<nodes.length:=by rw[<-a5.out];exact b8
    have A:=p.iP;obtain⟨g,b9,hv⟩:=ej A (by omega);have a8:=(kW hv).1;subst a8;obtain⟨c0,_,_⟩:=i2 (off:=0) (hh A) E;rw[PH]at c0;have ca:=ee A rfl;have T:=y.out.small _ (iF E);obtain⟨x,hx⟩:∃x,x=nodes[k]:=⟨_,rfl⟩;rw[<-hx]at c0 T;have U:Hid (x=nodes[k]):=hx;have cb:(k:Int)<(D:Int):=by omega
    cases hu:np x.1 f with
    |false=>
     have G:Hid (eK 161 #[.string x.1,.string f] wr (tz (.bool false) wr)):=by rw[<-hu];exact nS x.1 f wr T (by omega)
     have a9:Hid (vx f n m x=false):=by show _=_;unfold vx;rw[hu];rfl
     clear hv A p hx hu;go_wp2_with fail;refine g7 G.out ?_;rintro _ _ ⟨rfl,rfl⟩;go_wp2;go_roundw
     case rel=>
      refine⟨k+1,by omega,by go_num,ab,fun j hj cc=>?_⟩;by_cases e:j=k
      ·subst e;rw[<-U.out];exact a9.out
      ·exact a6.out j hj (by omega)
     case measure=>simp[intOf];omega
    |true=>
     have G:Hid (eK 161 #[.string x.1,.string f] wr (tz (.bool true) wr)):=by rw[<-hu];exact nS x.1 f wr T (by omega)
     have bb:Hid _:=QR x.1 wr T;obtain⟨sl,bc⟩:∃sl,sl=(fX x.1).1.length:=⟨_,rfl⟩;have cS:sl<=2097153:=by have:=nQ x.1;omega
     have bx:Hid (vx f n m x=decide (5<(sl:Int)-(n:Int)+(m:Int))):=by show _=_;unfold vx;rw[hu,bc];rfl
     rw[<-bc]at bb;clear hv A p hx hu bc;by_cases bz:5<(sl:Int)-(n:Int)+(m:Int)
     ·have c:Hid (R=(nodes,11)):=by
       show _=_;rw[aa.out,fY];rw[List.any_eq_true];exact⟨nodes[k],iF E,by rw[<-U.out,bx.out];exact jT bz⟩
      go_wp2_with fail;refine g7 G.out ?_;rintro _ _ ⟨rfl,rfl⟩;go_wp2_with fail;refine g7 bb.out ?_;rintro _ w6 ⟨v6,rfl,ak,bd⟩;obtain⟨cd,c6,rfl⟩:=lf ak;clear ak;go_wp2;go_ret;rw[c.out];exact⟨rfl,s.out _ (aj.trans ((ab.trans (bd.mono bw)).mono aj.size))⟩
     ·have ce:decide (5<(sl:Int)-(n:Int)+(m:Int))=false:=m6 bz
      have a9:Hid (vx f n m x=false):=by show _=_;rw[bx.out];exact ce
      go_wp2_with fail;refine g7 G.out ?_;rintro _ _ ⟨rfl,rfl⟩;go_wp2_with fail;refine g7 bb.out ?_;rintro _ w6 ⟨v6,rfl,ak,bd⟩;obtain⟨cd,c6,rfl⟩:=lf ak;clear ak;go_wp2;go_roundw
      case rel=>
       refine⟨k+1,by omega,by go_num,ab.trans (bd.mono bw),fun j hj cc=>?_⟩;by_cases e:j=k
       ·subst e;rw[<-U.out];exact a9.out
       ·exact a6.out j hj (by omega)
      case measure=>simp[intOf];omega
   ·have cT:decide ((k:Int)<(D:Int))=false:=m6 (by omega)
    have c:Hid (R=((mi nodes t).map (j2 f t),0)):=by
     show _=_;rw[aa.out,eJ];rw[yG (fun j hj=>a6.out j hj (by have:=a5.out;omega))];decide
    have bA:Hid _:=Et p y.out t (by omega);have bB:gS w wr:=aj.trans (ab.mono aj.size);rename World=>w6;have cU:=bB.size;clear p;go_wp2_with fail;refine g7 bA.out ?_;rintro _ r ⟨rfl,⟨cf,cg,ch,ci,be⟩,bC⟩;obtain⟨ns,bD⟩:∃ns,ns=mi nodes t:=⟨_,rfl⟩;have ax:=K7 y.out t;rw[<-bD]at be ax c;have cj:Hid (∀e∈ns,e.1.size<=2097152):=ax.2;have bE:Hid (eV (ie F w6 r) r S cf ch cg ci ns data rest):=be;have bF:Hid (en F w6 r):=bC;obtain⟨M,bf⟩:∃M,M=ns.length:=⟨_,rfl⟩;have cV:M<=1000000000:=by rw[bf];exact ax.1
    have ay:Hid (M=ns.length):=bf;clear be bC bD ax bf bA;go_wp2
    go_loopw [22,23] (fun o i wr=>∃(a:Nat) (ac:e5) (co:Nat),a<=M/\i=.int .i64 (a:Int)/\o=.slice ac a co/\gS r wr/\Hid (wr.ownsRow r.heap.size 200 3 (.slice ac a co) a (flat ((ns.take a).map (j2 f t))))) (fun _ i _=>M-(intOf i).toNat)
    case atStart=>exact⟨0,none,0,oY _,rfl,rfl,i7 _ _,UV _ _ _ _⟩
    case round=>
     obtain⟨a,ac,co,hk2,rfl,rfl,ad,J⟩:=hrel;have p:=bE.out.below ad;have a7:=p.c0;have b7:=p.lt;rw[<-ay.out]at a7;have bg:=ad.size;by_cases ck:a<M
     ·have E:a<ns.length:=by rw[<-ay.out];exact ck
      have A:=p.iP;obtain⟨g,b9,hv⟩:=ej A (by omega);have a8:=(kW hv).1;subst a8;obtain⟨c0,c1,c2⟩:=i2 (off:=0) (hh A) E;rw[PH]at c0 c1 c2;have ca:=ee A rfl;have T:=cj.out _ (iF E);obtain⟨x,hx⟩:∃x,x=ns[a]:=⟨_,rfl⟩;rw[<-hx]at c0 c1 c2 T;have U:Hid (x=ns[a]):=hx;have cb:(a:Int)<(M:Int):=by omega
      have G:Hid (∀az,eK 161 #[.string x.1,.string f] az (tz (.bool (np x.1 f)) az)):=fun az=>nS x.1 f az T (by omega);clear hv A p hx;rename World=>wq;cases bh:(x.1.toList==f.toList) with
      |true=>
       have al:Hid (j2 f t x=(t++x.1.extract f.size x.1.size,x.2.1,x.2.2)):=by show _=_;unfold j2;rw[fY (Or.inl bh)]
       have cl:f.size<=x.1.size:=by
        have:=rp List.length (eq_of_beq bh)
        simp only[uL,kG]at this;exact xM this.symm
       have cm:(f.size:Int)<=(x.1.size:Int):=(by omega);go_wp2_with(at_builtin;refine r6 _ rfl (.tmp 188) (.tmp 190) 174 rfl r.heap.size 200 aA _ 3 32 underlying174 hi aB aC aD rfl (by decide) _ _ _ rfl ((J.out.alloc _).alloc _) (eb (wq.heap.size+1) 0) 1 1 (kA (t++x.1.extract f.size x.1.size,x.2.1,x.2.2)) rfl rfl (m0 (wq.alloc _) (t++x.1.extract f.size x.1.size,x.2.1,x.2.2) _ _ (by simp)) (lL _) (by unfold maxLen;omega) (by omega) (by simp;omega) ?_);intro bG K v L _;have am:gS r K:=pw ((ad.alloc bg _).alloc (by simp;omega) _) (by simp;omega) ((J.out.alloc _).alloc _) L;obtain⟨N,O,rfl⟩:=lf v;have an:Hid (K.ownsRow r.heap.size 200 3 (.slice N (a+1) O) (a+1) (flat ((ns.take (a+1)).map (j2 f t)))):=by
        show World.ownsRow _ _ _ _ _ _ _;rw[sZ E,k7,WF,r7,ld,mn,<-U.out,al.out,Ke];exact v
       clear v L;go_wp2;go_roundw
       case rel=>exact⟨a+1,N,O,by omega,by go_num,rfl,am,an.out⟩
       case measure=>simp[intOf];omega
      |false=>
       cases hu:np x.1 f with
       |true=>
        have al:Hid (j2 f t x=(t++x.1.extract f.size x.1.size,x.2.1,x.2.2)):=by show _=_;unfold j2;rw[fY (Or.inr hu)]
        have cl:f.size<=x.1.size:=by have:=Hh hu;omega
        have cm:(f.size:Int)<=(x.1.size:Int):=(by omega);rw[hu]at G;clear hu;go_wp2_with fail;refine g7 (G.out _) ?_;rintro _ _ ⟨rfl,rfl⟩;go_wp2_with(at_builtin;refine r6 _ rfl (.tmp 188) (.tmp 190) 174 rfl r.heap.size 200 aA _ 3 32 underlying174 hi aB aC aD rfl (by decide) _ _ _ rfl ((J.out.alloc _).alloc _) (eb (wq.heap.size+1) 0) 1 1 (kA (t++x.1.extract f.size x.1.size,x.2.1,x.2.2)) rfl rfl (m0 (wq.alloc _) (t++x.1.extract f.size x.1.size,x.2.1,x.2.2) _ _ (by simp)) (lL _) (by unfold maxLen;omega) (by omega) (by simp;omega) ?_);intro bG K v L _;have am:gS r K:=pw ((ad.alloc bg _).alloc (by simp;omega) _) (by simp;omega) ((J.out.alloc _).alloc _) L;obtain⟨N,O,rfl⟩:=lf v;have an:Hid (K.ownsRow r.heap.size 200 3 (.slice N (a+1) O) (a+1) (flat ((ns.take (a+1)).map (j2 f t)))):=by
         show World.ownsRow _ _ _ _ _ _ _;rw[sZ E,k7,WF,r7,ld,mn,<-U.out,al.out,Ke];exact v
        clear v L;go_wp2;go_roundw
        case rel=>exact⟨a+1,N,O,by omega,by go_num,rfl,am,an.out⟩
        case measure=>simp[intOf];omega
       |false=>
        have al:Hid (j2 f t x=x):=by show _=_;unfold j2;rw[eJ (by rw[bh,hu];decide)]
        rw[hu]at G;clear hu;go_wp2_with fail;refine g7 (G.out _) ?_;rintro _ _ ⟨rfl,rfl⟩;go_wp2_with(at_builtin;refine r6 _ rfl (.tmp 188) (.tmp 190) 174 rfl r.heap.size 200 aA _ 3 32 underlying174 hi aB aC aD rfl (by decide) _ _ _ rfl ((J.out.alloc _).alloc _) (eb (wq.heap.size+1) 0) 1 1 (kA x) rfl rfl (m0 (wq.alloc _) x _ _ (by simp)) (lL _) (by unfold maxLen;omega) (by omega) (by simp;omega) ?_);intro bG K v L _;have am:gS r K:=pw ((ad.alloc bg _).alloc (by simp;omega) _) (by simp;omega) ((J.out.alloc _).alloc _) L;obtain⟨N,O,rfl⟩:=lf v;have an:Hid (K.ownsRow r.heap.size 200 3 (.slice N (a+1) O) (a+1) (flat ((ns.take (a+1)).map (j2 f t)))):=by
         show World.ownsRow _ _ _ _ _ _ _;rw[sZ E,k7,WF,r7,ld,mn,<-U.out,al.out,Ke];exact v
        clear v L;go_wp2;go_roundw
        case rel=>exact⟨a+1,N,O,by omega,by go_num,rfl,am,an.out⟩
        case measure=>simp[intOf];omega
     ·have cW:decide ((a:Int)<(M:Int))=false:=m6 (by omega)
      have cn:Hid ((ns.take a).map (j2 f t)=ns.map (j2 f t)):=by show _=_;rw[jH (by have:=ay.out;omega)]
      have cp:Hid (a=(ns.map (j2 f t)).length):=by show _=_;rw[kU];have:=ay.out;omega
      rw[cn.out]at J;have cX:wr.frozen? (eb S 0)=false:=by simp[World.frozen?,p.hS]
      have cq:Hid (eN (ie F w (wr.setCell (eb S 0) (.slice ac a co))) (wr.setCell (eb S 0) (.slice ac a co)) S (ns.map (j2 f t)) data rest/\en F w (wr.setCell (eb S 0) (.slice ac a co))):=by
       obtain⟨⟨cr,ct,cu,cv,cw⟩,bH⟩:=bE.out.Es ad cp.out J.out;have cx:=rr bF.out bH;exact⟨⟨cr,ct,cu,cv,cw.keep (fun q hq=>by
        rcases iX bF.out.size bH.size hq with h|h
        ·exact .inl h
        ·exact .inr ⟨by omega,h.2⟩) (fun _ _=>rfl)⟩,en.after cx bB⟩
      clear p;go_wp2;go_ret;rw[c.out];exact⟨rfl,cq.out⟩
end
end Go.Proofs.YtlgidcmmgohagaaGreat
