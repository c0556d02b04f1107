/- What is proved here: the mE own uv. -/
import Derived.Test.YtlgidcmmgohagaaGreatFileM10
namespace Go.Proofs.YtlgidcmmgohagaaGreat
open Go.RowKit Go.Sort Go.Shelf Go.Proofs.Tryz
set_option linter.unusedVariables false
set_option maxRecDepth 100000
set_option maxHeartbeats 16000000
variable {nodes:List eN}
def lw (f t:eD)(e:eN):eN:=if(e.1.toList==f.toList)=true\/rx e.1 f=true then(t++e.1.extract f.size e.1.size,e.2.1,e.2.2)else e
def Lq (f:eD)(n m:Nat)(e:eN):Bool:=rx e.1 f&&decide (5<((ib e.1).1.length:Int)-(n:Int)+(m:Int))
def pd (nodes:List eN)(f t:eD):List eN×Int:=
 if(ib f).2=false\/(ib t).2=false then(nodes,1)
 else if(ib f).1.length=0\/(ib t).1.length=0 then(nodes,9)
 else if zt nodes (ib f).1≠0 then(nodes,zt nodes (ib f).1)
 else if rx t f=true then(nodes,9)
 else if sy nodes (ib t).1≠0 then(nodes,sy nodes (ib t).1)
 else if(f.toList==t.toList)=true then(nodes,0)
 else if lx nodes t=2/\lx nodes f=1 then(nodes,7)
 else if lx nodes t=1/\lx nodes f=2 then(nodes,5)
 else if lx nodes t=2/\0<(eO nodes t).length then(nodes,8)
 else if lx nodes t=0/\16<=(eO nodes (ez ((ib t).1.take ((ib t).1.length-1)))).length/\po f (ez ((ib t).1.take ((ib t).1.length-1)))=false then(nodes,11)
 else if(nodes.any (Lq f (ib f).1.length (ib t).1.length))=true then(nodes,11)
 else((pA nodes t).map (lw f t),0)
theorem Bx{P:eN->Bool}(h:∀j (hj:j<nodes.length),P nodes[j]=false):nodes.any P=false:=by
 rw[List.any_eq_false];intro x hx;obtain⟨j,hj,rfl⟩:=pg hx;rw[h j hj];decide
theorem Qv{data:eL}(h:mg nodes data)(p:eD):(pA nodes p).length<=1000000000/\∀e∈pA nodes p,e.1.size<=2097152:=by
 refine⟨wl (List.length_filter_le _ _) h.big,fun e a=>h.small e (Av.1 a).1⟩
theorem LS{p t:eD}(h:rx p t=true):t.size+1<p.size:=by
 unfold rx at h;split at h
 ·assumption
 ·cases h
section
variable {F:Nat->Prop}{w:World}{S:Nat}{na da:fD}{nc dc:Nat}{nodes:List eN}{data:eL}{rest:fQ}
theorem Ja(h:fo F w S na da nc dc nodes data rest)(hf:mg nodes data)(f t:eD)(cS:f.size<=1048576)(cT:t.size<=1048576):
  gc 97 #[hh S,.string f,.string t] w fun e w'=>e=.returned (eJ (pd nodes f t).2)/\eW (kp F w w') w' S (pd nodes f t).1 data rest/\eA F w w':=by
 obtain⟨aA,hi,aB,aC,aD⟩:=iq qB;have ao:Hid _:=iY f w (by omega);have ap:Hid (∀aE,_):=fun aE=>iY t aE (by omega);have bq:Hid (fo F w S na da nc dc nodes data rest):=h;have y:Hid (mg nodes data):=hf;have s:Hid (∀w',ik w w'->eW (kp F w w') w' S nodes data rest/\eA F w w'):=fun w' br=>⟨eW.below ⟨na,nc,da,dc,h⟩ br,eA.eE br⟩;obtain⟨R,B⟩:∃R,R=pd nodes f t:=⟨_,rfl⟩;rw[<-B];have aF:=gM f;have aG:=gM t;have aH:(ib f).2=true->(ib f).1.length<=5:=gN;have aI:(ib t).2=true->(ib t).1.length<=5:=gN;have bs:=qy f;have bt:=qy t;unfold pd at B;obtain⟨xs,aJ⟩:∃xs,xs=(ib f).1:=⟨_,rfl⟩;obtain⟨ys,aK⟩:∃ys,ys=(ib t).1:=⟨_,rfl⟩;obtain⟨bR,bu⟩:∃b,b=(ib f).2:=⟨_,rfl⟩;obtain⟨bS,bv⟩:∃b,b=(ib t).2:=⟨_,rfl⟩;rw[<-aJ,<-bu]at ao B aH;rw[<-aK,<-bv]at ap B aI;rw[<-aJ]at aF bs;rw[<-aK]at aG bt;have bT:Hid (∀x∈xs,x.size<=12):=aF;have bU:Hid (∀x∈ys,x.size<=12):=aG;obtain⟨z,aL⟩:∃z,z=ez (ys.take (ys.length-1)):=⟨_,rfl⟩;rw[<-aL]at B;have bV:Hid (z=ez (ys.take (ys.length-1))):=aL;obtain⟨n,hn⟩:∃n,n=xs.length:=⟨_,rfl⟩;obtain⟨m,hm⟩:∃m,m=ys.length:=⟨_,rfl⟩;rw[<-hn]at ao B aH bs;rw[<-hm]at ap B aI bt;have cU:Hid (n=xs.length):=hn;have cV:Hid (m=ys.length):=hm;have d:Hid (R=_):=B;clear h hf B aF aG aJ aK bu bv aL hn hm;go_enter func97,ntmps97;go_wp2_with fail;refine io ao.out ?_;rintro _ aE ⟨cW,rfl,aq,aM⟩;obtain⟨aN,bw,rfl⟩:=nl aq;have bW:=kZ aq;have bx:Hid _:=aq;clear aq;go_wp2_with fail;refine io (ap.out _) ?_;rintro _ l ⟨cX,rfl,ar,aO⟩;obtain⟨aP,bz,rfl⟩:=nl ar;have bX:=kZ ar;have u:ik w l:=aM.trans (aO.mono aM.size);have bY:Hid (iM l aN n xs):=(xv bx.out).below aO;have bZ:Hid (iM l aP m ys):=xv ar;have V:Hid (fo F l S na da nc dc nodes data rest):=bq.out.below u;have bA:=u.size;clear ar bx ao ap aM aO;cases bR with
 |false=>
  have c:Hid (R=(nodes,1)):=by show _=_;rw[d.out,ie (Or.inl rfl)]
  go_wp2;go_ret;rw[c.out];exact⟨rfl,s.out _ u⟩
 |true=>
 cases bS with
 |false=>
  have c:Hid (R=(nodes,1)):=by show _=_;rw[d.out,ie (Or.inr rfl)]
  go_wp2;go_ret;rw[c.out];exact⟨rfl,s.out _ u⟩
 |true=>
 have c0:¬((true:Bool)=false\/(true:Bool)=false):=by decide
 have P:Hid (¬((true:Bool)=false\/(true:Bool)=false)):=c0;have cY:n<=5:=aH rfl;have cZ:m<=5:=aI rfl;clear c0;by_cases W:n=0
 ·have c:Hid (R=(nodes,9)):=by show _=_;rw[d.out,fY P.out,ie (Or.inl W)]
  obtain rfl:=W;go_wp2;go_ret;rw[c.out];exact⟨rfl,s.out _ u⟩
 by_cases ae:m=0
 ·have c:Hid (R=(nodes,9)):=by show _=_;rw[d.out,fY P.out,ie (Or.inr ae)]
  have ca:((n:Int)==0)=false:=by simp[W]
  obtain rfl:=ae;go_wp2;go_ret;rw[c.out];exact⟨rfl,s.out _ u⟩
 have ca:((n:Int)==0)=false:=by simp[W]
 have db:((m:Int)==0)=false:=by simp[ae]
 have af:Hid (¬(n=0\/m=0)):=fun h=>h.elim W ae;have cb:0<m:=by omega
 obtain⟨H,aQ⟩:∃H,H=zt nodes xs:=⟨_,rfl⟩;obtain⟨I,aR⟩:∃I,I=sy nodes ys:=⟨_,rfl⟩;obtain⟨Q,aS⟩:∃Q,Q=lx nodes f:=⟨_,rfl⟩;obtain⟨C,aT⟩:∃C,C=lx nodes t:=⟨_,rfl⟩;obtain⟨ag,aU⟩:∃ag,ag=(eO nodes t).length:=⟨_,rfl⟩;obtain⟨X,aV⟩:∃X,X=(eO nodes z).length:=⟨_,rfl⟩;obtain⟨au,aW⟩:∃au,au=rx t f:=⟨_,rfl⟩;obtain⟨ah,aX⟩:∃ah,ah=po f z:=⟨_,rfl⟩;obtain⟨bB,Y⟩:∃b,b=(f.toList==t.toList):=⟨_,rfl⟩;rw[<-aQ,<-aR,<-aS,<-aT,<-aU,<-aV,<-aW,<-aX,<-Y]at d;have bC:Hid (gc 153 #[hh S,.slice aN n bw] l (Do (eJ H) l)):=by rw[aQ];exact xh V.out aN n bw xs bY.out bT.out (by omega) bW y.out.big
 have cc:Hid (gc 161 #[.string t,.string f] l (Do (.bool au) l)):=by rw[aW];exact qA t f l (by omega) (by omega)
 have cd:Hid (gc 158 #[hh S,.slice aP m bz] l (Do (.tuple #[.string z,eJ I]) l)):=by rw[aR,bV.out];exact LP V.out y.out aP m bz ys bZ.out bU.out (by omega) cb bX
 have ce:Hid (gc 155 #[hh S,.string f] l (Do (eJ Q) l)):=by rw[aS];exact oc V.out f y.out.big
 have cf:Hid (gc 155 #[hh S,.string t] l (Do (eJ C) l)):=by rw[aT];exact oc V.out t y.out.big
 have cg:Hid (gc 154 #[hh S,.string t] l (pB (eJ (ag:Int)) l)):=by rw[aU];exact qz V.out y.out t
 have ch:Hid (∀w3,ik l w3->gc 154 #[hh S,.string z] w3 (pB (eJ (X:Int)) w3)):=fun w3 Z=>by rw[aV];exact qz (V.out.below Z) y.out z
 have ci:Hid (∀ai,gc 162 #[.string f,.string z] ai (pB (.bool ah) ai)):=fun ai=>by rw[aX];exact zh f z ai (by omega)
 have dd:Hid (bB=(f.toList==t.toList)):=Y;clear aQ aR aS aT aU aV aW aX W ae;by_cases a1:H=0
 case neg=>
  have c:Hid (R=(nodes,H)):=by show _=_;rw[d.out,fY P.out,fY af.out,ie a1]
  have cj:(H != 0)=true:=by simp[a1]
  clear a1;go_wp2_with fail;refine io bC.out ?_;rintro _ _ ⟨rfl,rfl⟩;go_wp2;go_ret;rw[c.out];exact⟨rfl,s.out _ u⟩
 have av:Hid (¬H≠0):=fun h=>h a1;have cj:(H != 0)=false:=by simp[a1]
 clear a1;go_wp2_with fail;refine io bC.out ?_;rintro _ _ ⟨rfl,rfl⟩;go_wp2_with fail;refine io cc.out ?_;rintro _ _ ⟨rfl,rfl⟩;cases au with
 |true=>
  have c:Hid (R=(nodes,9)):=by show _=_;rw[d.out,fY P.out,fY af.out,fY av.out,ie rfl]
  go_wp2;go_ret;rw[c.out];exact⟨rfl,s.out _ u⟩
 |false=>
 have aY:Hid (¬(false:Bool)=true):=fun h=>Bool.noConfusion h;go_wp2_with fail;refine io cd.out ?_;rintro _ _ ⟨rfl,rfl⟩;by_cases a3:I=0
 case neg=>
  have c:Hid (R=(nodes,I)):=by show _=_;rw[d.out,fY P.out,fY af.out,fY av.out,fY aY.out,ie a3]
  have ck:(I != 0)=true:=by simp[a3]
  clear a3;go_wp2;go_ret;rw[c.out];exact⟨rfl,s.out _ u⟩
 have bD:Hid (¬I≠0):=fun h=>h a3;have ck:(I != 0)=false:=by simp[a3]
 clear a3;cases bB with
 |true=>
  have c:Hid (R=(nodes,0)):=by show _=_;rw[d.out,fY P.out,fY af.out,fY av.out,fY aY.out,fY bD.out,ie rfl]
  have cl:(f.toList==t.toList)=true:=Y.symm;clear Y;go_wp2;go_ret;rw[c.out];exact⟨rfl,s.out _ u⟩
 |false=>
 have cl:(f.toList==t.toList)=false:=Y.symm;clear Y;go_wp2_with fail;refine io ce.out ?_;rintro _ _ ⟨rfl,rfl⟩;go_wp2_with fail;refine io cf.out ?_;rintro _ _ ⟨rfl,rfl⟩;go_wp2_with fail;refine io cg.out ?_;rintro _ w3 ⟨rfl,Z⟩;go_wp2_with fail;refine io (ch.out _ Z) ?_;rintro _ ai ⟨rfl,aZ⟩;go_wp2_with fail;refine io (ci.out _) ?_;rintro _ w5 ⟨rfl,bb⟩;have bE:=Z.size;have de:=aZ.size;have df:=bb.size;have cm:Hid (¬(false:Bool)=true):=fun h=>Bool.noConfusion h;have aw:ik w w5:=u.trans (((Z.trans (aZ.mono bE)).trans (bb.mono (by omega))).mono bA);rw[fY P.out,fY af.out,fY av.out,fY aY.out,fY bD.out,fY cm.out]at d;by_cases t2:C=2
 case' pos=>
  subst t2;by_cases f1:Q=1
  ·have c:Hid (R=(nodes,7)):=by show _=_;rw[d.out,ie ⟨rfl,f1⟩]
   subst f1;go_wp2;go_ret;rw[c.out];exact⟨rfl,s.out _ aw⟩
  have dg:(Q==1)=false:=by simpa using f1
  by_cases q0:0<ag
  ·have c:Hid (R=(nodes,8)):=by show _=_;rw[d.out,fY (fun h=>f1 h.2),fY (fun h=>absurd h.1 (by decide)),ie ⟨rfl,q0⟩]
   clear f1;go_wp2;go_ret;rw[c.out];exact⟨rfl,s.out _ aw⟩
  obtain rfl:ag=0:=by omega
  have aa:Hid (R=if(nodes.any (Lq f n m))=true then(nodes,11) else((pA nodes t).map (lw f t),0)):=by show _=_;rw[d.out,fY (fun h=>f1 h.2),fY (fun h=>absurd h.1 (by decide)),fY (fun h=>q0 h.2),fY (fun h=>absurd h.1 (by decide))]
  clear f1 q0
 case' neg=>
  have dh:(C==2)=false:=by simpa using t2
  by_cases t1:C=1
  case' pos=>
   subst t1;by_cases f2:Q=2
   ·have c:Hid (R=(nodes,5)):=by show _=_;rw[d.out,fY (fun h=>t2 h.1),ie ⟨rfl,f2⟩]
    subst f2;go_wp2;go_ret;rw[c.out];exact⟨rfl,s.out _ aw⟩
   have di:(Q==2)=false:=by simpa using f2
   have aa:Hid (R=if(nodes.any (Lq f n m))=true then(nodes,11) else((pA nodes t).map (lw f t),0)):=by show _=_;rw[d.out,fY (fun h=>t2 h.1),fY (fun h=>f2 h.2),fY (fun h=>t2 h.1),fY (fun h=>absurd h.1 (by decide))]
   clear f2 t2
  case' neg=>
   have dj:(C==1)=false:=by simpa using t1
   by_cases t0:C=0
   case' neg=>
    have dk:(C==0)=false:=by simpa using t0
    have aa:Hid (R=if(nodes.any (Lq f n m))=true then(nodes,11) else((pA nodes t).map (lw f t),0)):=by show _=_;rw[d.out,fY (fun h=>t2 h.1),fY (fun h=>t1 h.1),fY (fun h=>t2 h.1),fY (fun h=>t0 h.1)]
    clear t2 t1 t0
   case' pos=>
    subst t0;by_cases q16:16<=X
    case' pos=>
     have cn:(16:Int)<=(X:Int):=(by omega);by_cases bc:ah=true
     case' neg=>
      obtain rfl:ah=false:=by simpa using bc
      clear bc;have c:Hid (R=(nodes,11)):=by show _=_;rw[d.out,fY (fun h=>t2 h.1),fY (fun h=>t1 h.1),fY (fun h=>t2 h.1),ie ⟨rfl,q16,rfl⟩]
      clear t2 t1;go_wp2;go_ret;rw[c.out];exact⟨rfl,s.out _ aw⟩
     subst bc;have aa:Hid (R=if(nodes.any (Lq f n m))=true then(nodes,11) else((pA nodes t).map (lw f t),0)):=by show _=_;rw[d.out,fY (fun h=>t2 h.1),fY (fun h=>t1 h.1),fY (fun h=>t2 h.1),fY (fun h=>Bool.noConfusion h.2.2)]
     clear t2 t1
    case' neg=>
     have cn:decide ((16:Int)<=(X:Int))=false:=rk (by omega);have aa:Hid (R=if(nodes.any (Lq f n m))=true then(nodes,11) else((pA nodes t).map (lw f t),0)):=by show _=_;rw[d.out,fY (fun h=>t2 h.1),fY (fun h=>t1 h.1),fY (fun h=>t2 h.1),fY (fun h=>q16 h.2.1)]
     clear t2 t1
 all_goals
  have aj:ik w w5:=u.trans (((Z.trans (aZ.mono bE)).trans (bb.mono (by omega))).mono bA);have cp:Hid (fo F w5 S na da nc dc nodes data rest):=bq.out.below aj;obtain⟨D,bd⟩:∃D,D=nodes.length:=⟨_,rfl⟩;have dl:D<=1000000000:=by rw[bd];exact y.out.big
  have be:Hid (D=nodes.length):=bd;clear bd;go_wp2
  go_loopw [18] (fun i wr=>∃k:Nat,k<=D/\i=.int .i64 (k:Int)/\ik w5 wr/\Hid (∀j (hj:j<nodes.length),j<k->Lq f n m nodes[j]=false)) (fun i _=>D-(intOf i).toNat)
  case atStart=>exact⟨0,tk _,rfl,lh _ _,fun j hj h=>by omega⟩
  case round=>
   obtain⟨k,hk,rfl,ab,bf⟩:=hrel;have p:=cp.out.below ab;have bg:=p.c0;have cq:=p.lt;rw[<-be.out]at bg;have bF:=ab.size;by_cases cr:k<D
   ·have E:k<nodes.length:=by rw[<-be.out];exact cr
    have A:=p.kJ;obtain⟨g,ct,hv⟩:=fj A (by omega);have bh:=(nH hv).1;subst bh;obtain⟨c0,_,_⟩:=ld (off:=0) (jn A) E;rw[iP]at c0;have cu:=eK A rfl;have T:=y.out.small _ (kj E);obtain⟨x,hx⟩:∃x,x=nodes[k]:=⟨_,rfl⟩;rw[<-hx]at c0 T;have U:Hid (x=nodes[k]):=hx;have cv:(k:Int)<(D:Int):=by omega
    cases hu:rx x.1 f with
    |false=>
     have G:Hid (gc 161 #[.string x.1,.string f] wr (Do (.bool false) wr)):=by rw[<-hu];exact qA x.1 f wr T (by omega)
     have bi:Hid (Lq f n m x=false):=by show _=_;unfold Lq;rw[hu];rfl
     clear hv A p hx hu;go_wp2_with fail;refine io G.out ?_;rintro _ _ ⟨rfl,rfl⟩;go_wp2;go_roundw
     case rel=>
      refine⟨k+1,by omega,by go_num,ab,fun j hj cw=>?_⟩;by_cases e:j=k
      ·subst e;rw[<-U.out];exact bi.out
      ·exact bf.out j hj (by omega)
     case measure=>simp[intOf];omega
    |true=>
     have G:Hid (gc 161 #[.string x.1,.string f] wr (Do (.bool true) wr)):=by rw[<-hu];exact qA x.1 f wr T (by omega)
     have bj:Hid _:=iY x.1 wr T;obtain⟨sl,bk⟩:∃sl,sl=(ib x.1).1.length:=⟨_,rfl⟩;have dm:sl<=2097153:=by have:=qy x.1;omega
     have bG:Hid (Lq f n m x=decide (5<(sl:Int)-(n:Int)+(m:Int))):=by show _=_;unfold Lq;rw[hu,bk];rfl
     rw[<-bk]at bj;clear hv A p hx hu bk;by_cases bH:5<(sl:Int)-(n:Int)+(m:Int)
     ·have c:Hid (R=(nodes,11)):=by
       show _=_;rw[aa.out,ie];rw[List.any_eq_true];exact⟨nodes[k],kj E,by rw[<-U.out,bG.out];exact mz bH⟩
      go_wp2_with fail;refine io G.out ?_;rintro _ _ ⟨rfl,rfl⟩;go_wp2_with fail;refine io bj.out ?_;rintro _ w6 ⟨v6,rfl,ak,bl⟩;obtain⟨cx,c6,rfl⟩:=nl ak;clear ak;go_wp2;go_ret;rw[c.out];exact⟨rfl,s.out _ (aj.trans ((ab.trans (bl.mono bF)).mono aj.size))⟩
     ·have cy:decide (5<(sl:Int)-(n:Int)+(m:Int))=false:=rk bH
      have bi:Hid (Lq f n m x=false):=by show _=_;rw[bG.out];exact cy
      go_wp2_with fail;refine io G.out ?_;rintro _ _ ⟨rfl,rfl⟩;go_wp2_with fail;refine io bj.out ?_;rintro _ w6 ⟨v6,rfl,ak,bl⟩;obtain⟨cx,c6,rfl⟩:=nl ak;clear ak;go_wp2;go_roundw
      case rel=>
       refine⟨k+1,by omega,by go_num,ab.trans (bl.mono bF),fun j hj cw=>?_⟩;by_cases e:j=k
       ·subst e;rw[<-U.out];exact bi.out
       ·exact bf.out j hj (by omega)
      case measure=>simp[intOf];omega
   ·have dn:decide ((k:Int)<(D:Int))=false:=rk (by omega)
    have c:Hid (R=((pA nodes t).map (lw f t),0)):=by
     show _=_;rw[aa.out,fY];rw[Bx (fun j hj=>bf.out j hj (by have:=be.out;omega))];decide
    have bI:Hid _:=IW p y.out t (by omega);have bJ:ik w wr:=aj.trans (ab.mono aj.size);rename World=>w6;have dp:=bJ.size;clear p;go_wp2_with fail;refine io bI.out ?_;rintro _ r ⟨rfl,⟨cz,cA,cB,cC,bm⟩,bK⟩;obtain⟨ns,bL⟩:∃ns,ns=pA nodes t:=⟨_,rfl⟩;have ax:=Qv y.out t;rw[<-bL]at bm ax c;have cD:Hid (∀e∈ns,e.1.size<=2097152):=ax.2;have bM:Hid (fo (kp F w6 r) r S cz cB cA cC ns data rest):=bm;have bN:Hid (eA F w6 r):=bK;obtain⟨M,bn⟩:∃M,M=ns.length:=⟨_,rfl⟩;have dq:M<=1000000000:=by rw[bn];exact ax.1
    have ay:Hid (M=ns.length):=bn;clear bm bK bL ax bn bI;go_wp2
    go_loopw [22,23] (fun o i wr=>∃(a:Nat) (ac:fD) (co:Nat),a<=M/\i=.int .i64 (a:Int)/\o=.slice ac a co/\ik r wr/\Hid (wr.ownsRow r.heap.size 200 3 (.slice ac a co) a (flat ((ns.take a).map (lw f t))))) (fun _ i _=>M-(intOf i).toNat)
    case atStart=>exact⟨0,none,0,tk _,rfl,rfl,lh _ _,jf _ _ _ _⟩
    case round=>
     obtain⟨a,ac,co,hk2,rfl,rfl,ad,J⟩:=hrel;have p:=bM.out.below ad;have bg:=p.c0;have cq:=p.lt;rw[<-ay.out]at bg;have bo:=ad.size;by_cases cE:a<M
     ·have E:a<ns.length:=by rw[<-ay.out];exact cE
      have A:=p.kJ;obtain⟨g,ct,hv⟩:=fj A (by omega);have bh:=(nH hv).1;subst bh;obtain⟨c0,c1,c2⟩:=ld (off:=0) (jn A) E;rw[iP]at c0 c1 c2;have cu:=eK A rfl;have T:=cD.out _ (kj E);obtain⟨x,hx⟩:∃x,x=ns[a]:=⟨_,rfl⟩;rw[<-hx]at c0 c1 c2 T;have U:Hid (x=ns[a]):=hx;have cv:(a:Int)<(M:Int):=by omega
      have G:Hid (∀az,gc 161 #[.string x.1,.string f] az (Do (.bool (rx x.1 f)) az)):=fun az=>qA x.1 f az T (by omega);clear hv A p hx;rename World=>wq;cases bp:(x.1.toList==f.toList) with
      |true=>
       have al:Hid (lw f t x=(t++x.1.extract f.size x.1.size,x.2.1,x.2.2)):=by show _=_;unfold lw;rw[ie (Or.inl bp)]
       have cF:f.size<=x.1.size:=by
        have:=xr List.length (eq_of_beq bp)
        simp only[xO,ng]at this;exact Ax this.symm
       have cG:(f.size:Int)<=(x.1.size:Int):=(by omega);go_wp2_with(at_builtin;refine vq _ rfl (.tmp 188) (.tmp 190) 174 rfl r.heap.size 200 aA _ 3 32 underlying174 hi aB aC aD rfl (by decide) _ _ _ rfl ((J.out.alloc _).alloc _) (eI (wq.heap.size+1) 0) 1 1 (ml (t++x.1.extract f.size x.1.size,x.2.1,x.2.2)) rfl rfl (ra (wq.alloc _) (t++x.1.extract f.size x.1.size,x.2.1,x.2.2) _ _ (by simp)) (pp _) (by unfold maxLen;omega) (by omega) (by simp;omega) ?_);intro bO K v L _;have am:ik r K:=un ((ad.alloc bo _).alloc (by simp;omega) _) (by simp;omega) ((J.out.alloc _).alloc _) L;obtain⟨N,O,rfl⟩:=nl v;have an:Hid (K.ownsRow r.heap.size 200 3 (.slice N (a+1) O) (a+1) (flat ((ns.take (a+1)).map (lw f t)))):=by
        show World.ownsRow _ _ _ _ _ _ _;rw[vZ E,nM,jg,vr,my,pC,<-U.out,al.out,Pn];exact v
       clear v L;go_wp2;go_roundw
       case rel=>exact⟨a+1,N,O,by omega,by go_num,rfl,am,an.out⟩
       case measure=>simp[intOf];omega
      |false=>
       cases hu:rx x.1 f with
       |true=>
        have al:Hid (lw f t x=(t++x.1.extract f.size x.1.size,x.2.1,x.2.2)):=by show _=_;unfold lw;rw[ie (Or.inr hu)]
        have cF:f.size<=x.1.size:=by have:=LS hu;omega
        have cG:(f.size:Int)<=(x.1.size:Int):=(by omega);rw[hu]at G;clear hu;go_wp2_with fail;refine io (G.out _) ?_;rintro _ _ ⟨rfl,rfl⟩;go_wp2_with(at_builtin;refine vq _ rfl (.tmp 188) (.tmp 190) 174 rfl r.heap.size 200 aA _ 3 32 underlying174 hi aB aC aD rfl (by decide) _ _ _ rfl ((J.out.alloc _).alloc _) (eI (wq.heap.size+1) 0) 1 1 (ml (t++x.1.extract f.size x.1.size,x.2.1,x.2.2)) rfl rfl (ra (wq.alloc _) (t++x.1.extract f.size x.1.size,x.2.1,x.2.2) _ _ (by simp)) (pp _) (by unfold maxLen;omega) (by omega) (by simp;omega) ?_);intro bO K v L _;have am:ik r K:=un ((ad.alloc bo _).alloc (by simp;omega) _) (by simp;omega) ((J.out.alloc _).alloc _) L;obtain⟨N,O,rfl⟩:=nl v;have an:Hid (K.ownsRow r.heap.size 200 3 (.slice N (a+1) O) (a+1) (flat ((ns.take (a+1)).map (lw f t)))):=by
         show World.ownsRow _ _ _ _ _ _ _;rw[vZ E,nM,jg,vr,my,pC,<-U.out,al.out,Pn];exact v
        clear v L;go_wp2;go_roundw
        case rel=>exact⟨a+1,N,O,by omega,by go_num,rfl,am,an.out⟩
        case measure=>simp[intOf];omega
       |false=>
        have al:Hid (lw f t x=x):=by show _=_;unfold lw;rw[fY (by rw[bp,hu];decide)]
        rw[hu]at G;clear hu;go_wp2_with fail;refine io (G.out _) ?_;rintro _ _ ⟨rfl,rfl⟩;go_wp2_with(at_builtin;refine vq _ rfl (.tmp 188) (.tmp 190) 174 rfl r.heap.size 200 aA _ 3 32 underlying174 hi aB aC aD rfl (by decide) _ _ _ rfl ((J.out.alloc _).alloc _) (eI (wq.heap.size+1) 0) 1 1 (ml x) rfl rfl (ra (wq.alloc _) x _ _ (by simp)) (pp _) (by unfold maxLen;omega) (by omega) (by simp;omega) ?_);intro bO K v L _;have am:ik r K:=un ((ad.alloc bo _).alloc (by simp;omega) _) (by simp;omega) ((J.out.alloc _).alloc _) L;obtain⟨N,O,rfl⟩:=nl v;have an:Hid (K.ownsRow r.heap.size 200 3 (.slice N (a+1) O) (a+1) (flat ((ns.take (a+1)).map (lw f t)))):=by
         show World.ownsRow _ _ _ _ _ _ _;rw[vZ E,nM,jg,vr,my,pC,<-U.out,al.out,Pn];exact v
        clear v L;go_wp2;go_roundw
        case rel=>exact⟨a+1,N,O,by omega,by go_num,rfl,am,an.out⟩
        case measure=>simp[intOf];omega
     ·have dr:decide ((a:Int)<(M:Int))=false:=rk (by omega)
      have cH:Hid ((ns.take a).map (lw f t)=ns.map (lw f t)):=by show _=_;rw[lV (by have:=ay.out;omega)]
      have cI:Hid (a=(ns.map (lw f t)).length):=by show _=_;rw[nD];have:=ay.out;omega
      rw[cH.out]at J;have ds:wr.frozen? (eI S 0)=false:=by simp[World.frozen?,p.hS]
      have cJ:Hid (eW (kp F w (wr.setCell (eI S 0) (.slice ac a co))) (wr.setCell (eI S 0) (.slice ac a co)) S (ns.map (lw f t)) data rest/\eA F w (wr.setCell (eI S 0) (.slice ac a co))):=by
       obtain⟨⟨cK,cL,cM,cN,cO⟩,bQ⟩:=bM.out.IV ad cI.out J.out;have cQ:=xt bN.out bQ;exact⟨⟨cK,cL,cM,cN,cO.keep (fun q hq=>by
        rcases kQ bN.out.size bQ.size hq with h|h
        ·exact .inl h
        ·exact .inr ⟨by omega,h.2⟩) (fun _ _=>rfl)⟩,eA.after cQ bJ⟩
      clear p;go_wp2;go_ret;rw[c.out];exact⟨rfl,cJ.out⟩
end
end Go.Proofs.YtlgidcmmgohagaaGreat
