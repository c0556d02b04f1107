/- What is proved here: the oH own uv. -/
import Derived.Test.YtlgidcmmgohagaaGreatTreeM11
namespace Go.Proofs.YtlgidcmmgohagaaGreat
open Go.RowKit Go.Sort Go.Shelf Go.Proofs.Tryz
set_option linter.unusedVariables false
set_option maxRecDepth 100000
set_option maxHeartbeats 16000000
def aD (f t:ByteArray)(e:aK):aK:=if (e.1.toList == f.toList)=true\/cD e.1 f=true then (t++e.1.extract f.size e.1.size,e.2.1,e.2.2) else e
def bQ (f:ByteArray)(n m:Nat)(e:aK):Bool:=cD e.1 f && decide (5<((aG e.1).1.length:Int)-(n:Int)+(m:Int))
def cU (nodes:List aK)(f t:ByteArray):List aK×Int:=
 if (aG f).2=false\/(aG t).2=false then (nodes,1)
 else if (aG f).1.length=0\/(aG t).1.length=0 then (nodes,9)
 else if eT nodes (aG f).1≠0 then (nodes,eT nodes (aG f).1)
 else if cD t f=true then (nodes,9)
 else if xU nodes (aG t).1≠0 then (nodes,xU nodes (aG t).1)
 else if (f.toList == t.toList)=true then (nodes,0)
 else if bU nodes t=2/\bU nodes f=1 then (nodes,7)
 else if bU nodes t=1/\bU nodes f=2 then (nodes,5)
 else if bU nodes t=2/\0<(aT nodes t).length then (nodes,8)
 else if bU nodes t=0/\16<=(aT nodes (aj ((aG t).1.take ((aG t).1.length-1)))).length/\cO f (aj ((aG t).1.take ((aG t).1.length-1)))=false then (nodes,11)
 else if (nodes.any (bQ f (aG f).1.length (aG t).1.length))=true then (nodes,11)
 else ((cF nodes t).map (aD f t),0)
theorem jB {nodes:List aK}{P:aK->Bool}(h:∀j (hj:j<nodes.length),P nodes[j]=false):nodes.any P=false:=by
 rw[List.any_eq_false];intro x hx;obtain⟨j,hj,rfl⟩:=List.getElem_of_mem hx;rw[h j hj];decide
theorem qG {nodes:List aK}{data:List ByteArray}(h:nJ nodes data)(p:ByteArray):(cF nodes p).length<=1000000000/\∀e ∈ cF nodes p,e.1.size<=2097152:=by
 refine⟨eU (List.length_filter_le _ _) h.big,fun e he=>h.small e (List.mem_filter.1 he).1⟩
theorem oZ {p t:ByteArray}(h:cD p t=true):t.size+1<p.size:=by
 unfold cD at h;split at h
 ·assumption
 ·cases h
section
variable {F:Nat->Prop}{w:World}{S:Nat}{na da:Option Addr}{nc dc:Nat}{nodes:List aK}{data:List ByteArray}{rest:List Value}
theorem IL (h:dF F w S na da nc dc nodes data rest)(hf:nJ nodes data)(f t:ByteArray)(hfs:f.size<=1048576)(hts:t.size<=1048576):
  Calls prog 97 #[.pointer (some ⟨S,0,none⟩),.string f,.string t] w fun e w'=>e=.returned (.int .i64 (cU nodes f t).2)/\b9 (bq F w w') w' S (cU nodes f t).1 data rest/\ax F w w':=by
 obtain⟨i0,hi,hz0,hz1,hz2⟩:=info_parts tC;have Vv:Hid _:=fU f w (by omega);have ZE:Hid (∀w1,_):=fun w1=>fU t w1 (by omega);have HST:Hid (dF F w S na da nc dc nodes data rest):=h;have HF:Hid (nJ nodes data):=hf;have gX:Hid (∀w',Below w.heap.size w w'->b9 (bq F w w') w' S nodes data rest/\ax F w w'):=fun w' hb=>⟨b9.below ⟨na,nc,da,dc,h⟩ hb,ax.aM hb⟩;obtain⟨R,hR⟩:∃R,R=cU nodes f t:=⟨_,rfl⟩;rw[<-hR];have HX:=iC f;have HY:=iC t;have h5f:(aG f).2=true->(aG f).1.length<=5:=iR;have h5t:(aG t).2=true->(aG t).1.length<=5:=iR;have HFB:=jM f;have HTB:=jM t;unfold cU at hR;obtain⟨xs,rM⟩:∃xs,xs=(aG f).1:=⟨_,rfl⟩;obtain⟨ys,VR⟩:∃ys,ys=(aG t).1:=⟨_,rfl⟩;obtain⟨ok1,z7⟩:∃b,b=(aG f).2:=⟨_,rfl⟩;obtain⟨ok2,acM⟩:∃b,b=(aG t).2:=⟨_,rfl⟩;rw[<-rM,<-z7] at Vv hR h5f;rw[<-VR,<-acM] at ZE hR h5t;rw[<-rM] at HX HFB;rw[<-VR] at HY HTB;have S7:Hid (∀x ∈ xs,x.size<=12):=HX;have HYY:Hid (∀x ∈ ys,x.size<=12):=HY;obtain⟨pp,NA⟩:∃pp,pp=aj (ys.take (ys.length-1)):=⟨_,rfl⟩;rw[<-NA] at hR;have HPP:Hid (pp=aj (ys.take (ys.length-1))):=NA;obtain⟨n,hn⟩:∃n,n=xs.length:=⟨_,rfl⟩;obtain⟨m,hm⟩:∃m,m=ys.length:=⟨_,rfl⟩;rw[<-hn] at Vv hR h5f HFB;rw[<-hm] at ZE hR h5t HTB;have S8:Hid (n=xs.length):=hn;have HMM:Hid (m=ys.length):=hm;have HR:Hid (R=_):=hR;clear h hf hR HX HY rM VR z7 acM NA hn hm;go_enter func97,ntmps97;go_wp2_with fail;refine Calls.mono Vv.out ?_;rintro _ w1 ⟨v1,rfl,hown1,hb1⟩;obtain⟨al,cl,rfl⟩:=aX hown1;have acN:=lZ hown1;have HO1:Hid _:=hown1;clear hown1;go_wp2_with fail;refine Calls.mono (ZE.out _) ?_;rintro _ w2 ⟨v2,rfl,hown2,hb2⟩;obtain⟨am,cm,rfl⟩:=aX hown2;have acO:=lZ hown2;have kQ:Below w.heap.size w w2:=hb1.trans (hb2.mono hb1.size);have HL1:Hid (iQ w2 al n xs):=(fH HO1.out).below hb2;have HL2:Hid (iQ w2 am m ys):=fH hown2;have HT2:Hid (dF F w2 S na da nc dc nodes data rest):=HST.out.below kQ;have Pn:=kQ.size;clear hown2 HO1 Vv ZE hb1 hb2;cases ok1 with
 | false=>
  have nA:Hid (R=(nodes,1)):=by show _=_;rw[HR.out,aL (Or.inl rfl)]
  go_wp2;go_ret;rw[nA.out];exact⟨rfl,gX.out _ kQ⟩
 | true=>
 cases ok2 with
 | false=>
  have nA:Hid (R=(nodes,1)):=by show _=_;rw[HR.out,aL (Or.inr rfl)]
  go_wp2;go_ret;rw[nA.out];exact⟨rfl,gX.out _ kQ⟩
 | true=>
 have c0:¬((true:Bool)=false\/(true:Bool)=false):=by decide
 have Lg:Hid (¬((true:Bool)=false\/(true:Bool)=false)):=c0;have hn5:n<=5:=h5f rfl;have hm5:m<=5:=h5t rfl;clear c0;by_cases e0:n=0
 ·have nA:Hid (R=(nodes,9)):=by show _=_;rw[HR.out,ay Lg.out,aL (Or.inl e0)]
  obtain rfl:=e0;go_wp2;go_ret;rw[nA.out];exact⟨rfl,gX.out _ kQ⟩
 by_cases e1:m=0
 ·have nA:Hid (R=(nodes,9)):=by show _=_;rw[HR.out,ay Lg.out,aL (Or.inr e1)]
  have hn0:((n:Int) == 0)=false:=by simp[e0]
  obtain rfl:=e1;go_wp2;go_ret;rw[nA.out];exact⟨rfl,gX.out _ kQ⟩
 have hn0:((n:Int) == 0)=false:=by simp[e0]
 have Oo:((m:Int) == 0)=false:=by simp[e1]
 have FA:Hid (¬(n=0\/m=0)):=fun h=>h.elim e0 e1;have Om:0<m:=by omega
 obtain⟨ew,hew⟩:∃ew,ew=eT nodes xs:=⟨_,rfl⟩;obtain⟨eu,heu⟩:∃eu,eu=xU nodes ys:=⟨_,rfl⟩;obtain⟨kf,hkf⟩:∃kf,kf=bU nodes f:=⟨_,rfl⟩;obtain⟨kt,jQ⟩:∃kt,kt=bU nodes t:=⟨_,rfl⟩;obtain⟨it,hit⟩:∃it,it=(aT nodes t).length:=⟨_,rfl⟩;obtain⟨ip,hip⟩:∃ip,ip=(aT nodes pp).length:=⟨_,rfl⟩;obtain⟨un,Ld⟩:∃un,un=cD t f:=⟨_,rfl⟩;obtain⟨ins,yz⟩:∃ins,ins=cO f pp:=⟨_,rfl⟩;obtain⟨eqb,Po⟩:∃b,b=(f.toList == t.toList):=⟨_,rfl⟩;rw[<-hew,<-heu,<-hkf,<-jQ,<-hit,<-hip,<-Ld,<-yz,<-Po] at HR;have HW:Hid (Calls prog 153 #[.pointer (some ⟨S,0,none⟩),.slice al n cl] w2 fun e w'=>e=.returned (.int .i64 ew)/\w'=w2):=by rw[hew];exact xl HT2.out al n cl xs HL1.out S7.out (by omega) acN HF.out.big
 have HU:Hid (Calls prog 161 #[.string t,.string f] w2 fun e w'=>e=.returned (.bool un)/\w'=w2):=by rw[Ld];exact dU t f w2 (by omega) (by omega)
 have HUP:Hid (Calls prog 158 #[.pointer (some ⟨S,0,none⟩),.slice am m cm] w2 fun e w'=>e=.returned (.tuple #[.string pp,.int .i64 eu])/\w'=w2):=by rw[heu,HPP.out];exact Tc HT2.out HF.out am m cm ys HL2.out HYY.out (by omega) Om acO
 have HKF:Hid (Calls prog 155 #[.pointer (some ⟨S,0,none⟩),.string f] w2 fun e w'=>e=.returned (.int .i64 kf)/\w'=w2):=by rw[hkf];exact oq HT2.out f HF.out.big
 have SY:Hid (Calls prog 155 #[.pointer (some ⟨S,0,none⟩),.string t] w2 fun e w'=>e=.returned (.int .i64 kt)/\w'=w2):=by rw[jQ];exact oq HT2.out t HF.out.big
 have HMT:Hid (Calls prog 154 #[.pointer (some ⟨S,0,none⟩),.string t] w2 fun e w'=>e=.returned (.int .i64 (it:Int))/\Below w2.heap.size w2 w'):=by rw[hit];exact tv HT2.out HF.out t
 have HMP:Hid (∀w3,Below w2.heap.size w2 w3->Calls prog 154 #[.pointer (some ⟨S,0,none⟩),.string pp] w3 fun e w'=>e=.returned (.int .i64 (ip:Int))/\Below w3.heap.size w3 w'):=fun w3 hb3=>by rw[hip];exact tv (HT2.out.below hb3) HF.out pp
 have J8:Hid (∀w4,Calls prog 162 #[.string f,.string pp] w4 fun e w'=>e=.returned (.bool ins)/\Below w4.heap.size w4 w'):=fun w4=>by rw[yz];exact zo f pp w4 (by omega)
 have HEQ:Hid (eqb=(f.toList == t.toList)):=Po;clear hew heu hkf jQ hit hip Ld yz e0 e1;by_cases a1:ew=0
 case neg=>
  have nA:Hid (R=(nodes,ew)):=by show _=_;rw[HR.out,ay Lg.out,ay FA.out,aL a1]
  have a1':(ew != 0)=true:=by simp[a1]
  clear a1;go_wp2_with fail;refine Calls.mono HW.out ?_;rintro _ _ ⟨rfl,rfl⟩;go_wp2;go_ret;rw[nA.out];exact⟨rfl,gX.out _ kQ⟩
 have J9:Hid (¬ew≠0):=fun h=>h a1;have a1':(ew != 0)=false:=by simp[a1]
 clear a1;go_wp2_with fail;refine Calls.mono HW.out ?_;rintro _ _ ⟨rfl,rfl⟩;go_wp2_with fail;refine Calls.mono HU.out ?_;rintro _ _ ⟨rfl,rfl⟩;cases un with
 | true=>
  have nA:Hid (R=(nodes,9)):=by show _=_;rw[HR.out,ay Lg.out,ay FA.out,ay J9.out,aL rfl]
  go_wp2;go_ret;rw[nA.out];exact⟨rfl,gX.out _ kQ⟩
 | false=>
 have Te:Hid (¬(false:Bool)=true):=fun h=>Bool.noConfusion h;go_wp2_with fail;refine Calls.mono HUP.out ?_;rintro _ _ ⟨rfl,rfl⟩;by_cases a3:eu=0
 case neg=>
  have nA:Hid (R=(nodes,eu)):=by show _=_;rw[HR.out,ay Lg.out,ay FA.out,ay J9.out,ay Te.out,aL a3]
  have a3':(eu != 0)=true:=by simp[a3]
  clear a3;go_wp2;go_ret;rw[nA.out];exact⟨rfl,gX.out _ kQ⟩
 have Vw:Hid (¬eu≠0):=fun h=>h a3;have a3':(eu != 0)=false:=by simp[a3]
 clear a3;cases eqb with
 | true=>
  have nA:Hid (R=(nodes,0)):=by show _=_;rw[HR.out,ay Lg.out,ay FA.out,ay J9.out,ay Te.out,ay Vw.out,aL rfl]
  have Lh:(f.toList == t.toList)=true:=Po.symm;clear Po;go_wp2;go_ret;rw[nA.out];exact⟨rfl,gX.out _ kQ⟩
 | false=>
 have Lh:(f.toList == t.toList)=false:=Po.symm;clear Po;go_wp2_with fail;refine Calls.mono HKF.out ?_;rintro _ _ ⟨rfl,rfl⟩;go_wp2_with fail;refine Calls.mono SY.out ?_;rintro _ _ ⟨rfl,rfl⟩;go_wp2_with fail;refine Calls.mono HMT.out ?_;rintro _ w3 ⟨rfl,hb3⟩;go_wp2_with fail;refine Calls.mono (HMP.out _ hb3) ?_;rintro _ w4 ⟨rfl,hb4⟩;go_wp2_with fail;refine Calls.mono (J8.out _) ?_;rintro _ w5 ⟨rfl,j3⟩;have hs3:=hb3.size;have S2:=hb4.size;have hs5:=j3.size;have Wd:Hid (¬(false:Bool)=true):=fun h=>Bool.noConfusion h;have NB:Below w.heap.size w w5:=kQ.trans (((hb3.trans (hb4.mono hs3)).trans (j3.mono (by omega))).mono Pn);by_cases t2:kt=2
 ·subst t2
  by_cases f1:kf=1
  ·have nA:Hid (R=(nodes,7)):=by show _=_;rw[HR.out,ay Lg.out,ay FA.out,ay J9.out,ay Te.out,ay Vw.out,ay Wd.out,aL ⟨rfl,f1⟩]
   subst f1;go_wp2;go_ret;rw[nA.out];exact⟨rfl,gX.out _ NB⟩
  have f1':(kf == 1)=false:=by simpa using f1
  by_cases q0:0<it
  ·have nA:Hid (R=(nodes,8)):=by show _=_;rw[HR.out,ay Lg.out,ay FA.out,ay J9.out,ay Te.out,ay Vw.out,ay Wd.out,ay (fun h=>f1 h.2),ay (fun h=>absurd h.1 (by decide)),aL ⟨rfl,q0⟩]
   clear f1;go_wp2;go_ret;rw[nA.out];exact⟨rfl,gX.out _ NB⟩
  obtain rfl:it=0:=by omega
  have NC:Hid (R=if (nodes.any (bQ f n m))=true then (nodes,11) else ((cF nodes t).map (aD f t),0)):=by show _=_;rw[HR.out,ay Lg.out,ay FA.out,ay J9.out,ay Te.out,ay Vw.out,ay Wd.out,ay (fun h=>f1 h.2),ay (fun h=>absurd h.1 (by decide)),ay (fun h=>q0 h.2),ay (fun h=>absurd h.1 (by decide))]
  clear f1 q0;have iO:Below w.heap.size w w5:=kQ.trans (((hb3.trans (hb4.mono hs3)).trans (j3.mono (by omega))).mono Pn);have We:Hid (dF F w5 S na da nc dc nodes data rest):=HST.out.below iO;obtain⟨N,hN⟩:∃N,N=nodes.length:=⟨_,rfl⟩;have hNb:N<=1000000000:=by rw[hN];exact HF.out.big
  have FB:Hid (N=nodes.length):=hN;clear hN;go_wp2
  go_loopw [18] (fun i wr=>∃k:Nat,k<=N/\i=.int .i64 (k:Int)/\Below w5.heap.size w5 wr/\Hid (∀j (hj:j<nodes.length),j<k->bQ f n m nodes[j]=false)) (fun i _=>N-(intOf i).toNat)
  case atStart=>exact⟨0,dG _,rfl,Below.refl _ _,fun j hj h=>by omega⟩
  case round=>
   obtain⟨k,hk,rfl,hbr,HV⟩:=hrel;have hst:=We.out.below hbr;have k0:=hst.c0;have GD:=hst.lt;rw[<-FB.out] at k0;have ql:=hbr.size;by_cases hlt:k<N
   ·have gP:k<nodes.length:=by rw[<-FB.out];exact hlt
    have hrow:=hst.jW;obtain⟨g,c',hv⟩:=ak hrow (by omega);have ha:=(Value.slice.inj hv).1;subst ha;obtain⟨c0,_,_⟩:=bg (off:=0) (aQ hrow) gP;rw[Nat.zero_add] at c0;have fo:=ah hrow rfl;have lJ:=HF.out.small _ (jk gP);obtain⟨x,hx⟩:∃x,x=nodes[k]:=⟨_,rfl⟩;rw[<-hx] at c0 lJ;have qm:Hid (x=nodes[k]):=hx;have uP:(k:Int)<(N:Int):=by omega
    cases hu:cD x.1 f with
    | false=>
     have nQ:Hid (Calls prog 161 #[.string x.1,.string f] wr fun e w'=>e=.returned (.bool false)/\w'=wr):=by rw[<-hu];exact dU x.1 f wr lJ (by omega)
     have FC:Hid (bQ f n m x=false):=by show _=_;unfold bQ;rw[hu];rfl
     clear hv hrow hst hx hu;go_wp2_with fail;refine Calls.mono nQ.out ?_;rintro _ _ ⟨rfl,rfl⟩;go_wp2;go_roundw
     case rel=>
      refine⟨k+1,by omega,by go_num,hbr,fun j hj hjk=>?_⟩;by_cases e:j=k
      ·subst e;rw[<-qm.out];exact FC.out
      ·exact HV.out j hj (by omega)
     case measure=>simp[intOf];omega
    | true=>
     have nQ:Hid (Calls prog 161 #[.string x.1,.string f] wr fun e w'=>e=.returned (.bool true)/\w'=wr):=by rw[<-hu];exact dU x.1 f wr lJ (by omega)
     have FD:Hid _:=fU x.1 wr lJ;obtain⟨sl,nP⟩:∃sl,sl=(aG x.1).1.length:=⟨_,rfl⟩;have Ta:sl<=2097153:=by have:=jM x.1;omega
     have FF:Hid (bQ f n m x=decide (5<(sl:Int)-(n:Int)+(m:Int))):=by show _=_;unfold bQ;rw[hu,nP];rfl
     rw[<-nP] at FD;clear hv hrow hst hx hu nP;by_cases yZ:5<(sl:Int)-(n:Int)+(m:Int)
     ·have nA:Hid (R=(nodes,11)):=by
       show _=_;rw[NC.out,aL];rw[List.any_eq_true];exact⟨nodes[k],jk gP,by rw[<-qm.out,FF.out];exact decide_eq_true yZ⟩
      go_wp2_with fail;refine Calls.mono nQ.out ?_;rintro _ _ ⟨rfl,rfl⟩;go_wp2_with fail;refine Calls.mono FD.out ?_;rintro _ w6 ⟨v6,rfl,eL,rP⟩;obtain⟨a6,c6,rfl⟩:=aX eL;clear eL;go_wp2;go_ret;rw[nA.out];exact⟨rfl,gX.out _ (iO.trans ((hbr.trans (rP.mono ql)).mono iO.size))⟩
     ·have FJ:decide (5<(sl:Int)-(n:Int)+(m:Int))=false:=dY yZ
      have FC:Hid (bQ f n m x=false):=by show _=_;rw[FF.out];exact FJ
      go_wp2_with fail;refine Calls.mono nQ.out ?_;rintro _ _ ⟨rfl,rfl⟩;go_wp2_with fail;refine Calls.mono FD.out ?_;rintro _ w6 ⟨v6,rfl,eL,rP⟩;obtain⟨a6,c6,rfl⟩:=aX eL;clear eL;go_wp2;go_roundw
      case rel=>
       refine⟨k+1,by omega,by go_num,hbr.trans (rP.mono ql),fun j hj hjk=>?_⟩;by_cases e:j=k
       ·subst e;rw[<-qm.out];exact FC.out
       ·exact HV.out j hj (by omega)
      case measure=>simp[intOf];omega
   ·have DR:decide ((k:Int)<(N:Int))=false:=dY (by omega)
    have nA:Hid (R=((cF nodes t).map (aD f t),0)):=by
     show _=_;rw[NC.out,ay];rw[jB (fun j hj=>HV.out j hj (by have:=FB.out;omega))];decide
    have ND:Hid _:=qE hst HF.out t (by omega);have uR:Below w.heap.size w wr:=iO.trans (hbr.mono iO.size);rename World=>w6;have Wh:=uR.size;clear hst;go_wp2_with fail;refine Calls.mono ND.out ?_;rintro _ w7 ⟨rfl,⟨Wi,Wj,Wk,Wl,rQ⟩,Ir⟩;obtain⟨ns,NG⟩:∃ns,ns=cF nodes t:=⟨_,rfl⟩;have qo:=qG HF.out t;rw[<-NG] at rQ qo nA;have Wm:Hid (∀e ∈ ns,e.1.size<=2097152):=qo.2;have NH:Hid (dF (bq F w6 w7) w7 S Wi Wk Wj Wl ns data rest):=rQ;have NI:Hid (ax F w6 w7):=Ir;obtain⟨M,hM⟩:∃M,M=ns.length:=⟨_,rfl⟩;have Vx:M<=1000000000:=by rw[hM];exact qo.1
    have Aw:Hid (M=ns.length):=hM;clear rQ Ir NG qo hM ND;go_wp2
    go_loopw [22,23] (fun o i wr=>∃(k2:Nat) (ao:Option Addr) (co:Nat),k2<=M/\i=.int .i64 (k2:Int)/\o=.slice ao k2 co/\Below w7.heap.size w7 wr/\Hid (wr.ownsRow w7.heap.size 200 3 (.slice ao k2 co) k2 (flat ((ns.take k2).map (aD f t))))) (fun _ i _=>M-(intOf i).toNat)
    case atStart=>exact⟨0,none,0,dG _,rfl,rfl,Below.refl _ _,World.ownsRow_nil _ _ _ _⟩
    case round=>
     obtain⟨k2,ao,co,hk2,rfl,rfl,kC,HO⟩:=hrel;have hst:=NH.out.below kC;have k0:=hst.c0;have GD:=hst.lt;rw[<-Aw.out] at k0;have rR:=kC.size;by_cases x8:k2<M
     ·have gP:k2<ns.length:=by rw[<-Aw.out];exact x8
      have hrow:=hst.jW;obtain⟨g,c',hv⟩:=ak hrow (by omega);have ha:=(Value.slice.inj hv).1;subst ha;obtain⟨c0,c1,c2⟩:=bg (off:=0) (aQ hrow) gP;rw[Nat.zero_add] at c0 c1 c2;have fo:=ah hrow rfl;have lJ:=Wm.out _ (jk gP);obtain⟨x,hx⟩:∃x,x=ns[k2]:=⟨_,rfl⟩;rw[<-hx] at c0 c1 c2 lJ;have qm:Hid (x=ns[k2]):=hx;have uP:(k2:Int)<(M:Int):=by omega
      have nQ:Hid (∀W',Calls prog 161 #[.string x.1,.string f] W' fun e w'=>e=.returned (.bool (cD x.1 f))/\w'=W'):=fun W'=>dU x.1 f W' lJ (by omega);clear hv hrow hst hx;rename World=>wq;cases he:(x.1.toList == f.toList) with
      | true=>
       have u6:Hid (aD f t x=(t++x.1.extract f.size x.1.size,x.2.1,x.2.2)):=by show _=_;unfold aD;rw[aL (Or.inl he)]
       have Wn:f.size<=x.1.size:=by
        have:=congrArg List.length (eq_of_beq he)
        simp only[ByteArray.toList_eq,Array.length_toList] at this;exact Nat.le_of_eq this.symm
       have FK:(f.size:Int)<=(x.1.size:Int):=(by omega);go_wp2_with (at_builtin;refine wpList_append_own _ rfl (.tmp 188) (.tmp 190) 174 rfl w7.heap.size 200 i0 _ 3 32 underlying174 hi hz0 hz1 hz2 rfl (by decide) _ _ _ rfl ((HO.out.alloc _).alloc _) ⟨wq.heap.size+1,0,none⟩ 1 1 (bL (t++x.1.extract f.size x.1.size,x.2.1,x.2.2)) rfl rfl (bD (wq.alloc _) (t++x.1.extract f.size x.1.size,x.2.1,x.2.2) _ _ (by simp)) (bJ _) (by unfold maxLen;omega) (by omega) (by simp;omega) ?_);intro v' w9 hown' hgrow _;have qY:Below w7.heap.size w7 w9:=bX ((kC.alloc rR _).alloc (by simp;omega) _) (by simp;omega) ((HO.out.alloc _).alloc _) hgrow;obtain⟨nH,nI,rfl⟩:=aX hown';have xm:Hid (w9.ownsRow w7.heap.size 200 3 (.slice nH (k2+1) nI) (k2+1) (flat ((ns.take (k2+1)).map (aD f t)))):=by
        show World.ownsRow _ _ _ _ _ _ _;rw[qX gP,List.map_append,List.map_cons,List.map_nil,aZ,bp,<-qm.out,u6.out,List.map_take];exact hown'
       clear hown' hgrow;go_wp2;go_roundw
       case rel=>exact⟨k2+1,nH,nI,by omega,by go_num,rfl,qY,xm.out⟩
       case measure=>simp[intOf];omega
      | false=>
       cases hu:cD x.1 f with
       | true=>
        have u6:Hid (aD f t x=(t++x.1.extract f.size x.1.size,x.2.1,x.2.2)):=by show _=_;unfold aD;rw[aL (Or.inr hu)]
        have Wn:f.size<=x.1.size:=by have:=oZ hu;omega
        have FK:(f.size:Int)<=(x.1.size:Int):=(by omega);rw[hu] at nQ;clear hu;go_wp2_with fail;refine Calls.mono (nQ.out _) ?_;rintro _ _ ⟨rfl,rfl⟩;go_wp2_with (at_builtin;refine wpList_append_own _ rfl (.tmp 188) (.tmp 190) 174 rfl w7.heap.size 200 i0 _ 3 32 underlying174 hi hz0 hz1 hz2 rfl (by decide) _ _ _ rfl ((HO.out.alloc _).alloc _) ⟨wq.heap.size+1,0,none⟩ 1 1 (bL (t++x.1.extract f.size x.1.size,x.2.1,x.2.2)) rfl rfl (bD (wq.alloc _) (t++x.1.extract f.size x.1.size,x.2.1,x.2.2) _ _ (by simp)) (bJ _) (by unfold maxLen;omega) (by omega) (by simp;omega) ?_);intro v' w9 hown' hgrow _;have qY:Below w7.heap.size w7 w9:=bX ((kC.alloc rR _).alloc (by simp;omega) _) (by simp;omega) ((HO.out.alloc _).alloc _) hgrow;obtain⟨nH,nI,rfl⟩:=aX hown';have xm:Hid (w9.ownsRow w7.heap.size 200 3 (.slice nH (k2+1) nI) (k2+1) (flat ((ns.take (k2+1)).map (aD f t)))):=by
         show World.ownsRow _ _ _ _ _ _ _;rw[qX gP,List.map_append,List.map_cons,List.map_nil,aZ,bp,<-qm.out,u6.out,List.map_take];exact hown'
        clear hown' hgrow;go_wp2;go_roundw
        case rel=>exact⟨k2+1,nH,nI,by omega,by go_num,rfl,qY,xm.out⟩
        case measure=>simp[intOf];omega
       | false=>
        have u6:Hid (aD f t x=x):=by show _=_;unfold aD;rw[ay (by rw[he,hu];decide)]
        rw[hu] at nQ;clear hu;go_wp2_with fail;refine Calls.mono (nQ.out _) ?_;rintro _ _ ⟨rfl,rfl⟩;go_wp2_with (at_builtin;refine wpList_append_own _ rfl (.tmp 188) (.tmp 190) 174 rfl w7.heap.size 200 i0 _ 3 32 underlying174 hi hz0 hz1 hz2 rfl (by decide) _ _ _ rfl ((HO.out.alloc _).alloc _) ⟨wq.heap.size+1,0,none⟩ 1 1 (bL x) rfl rfl (bD (wq.alloc _) x _ _ (by simp)) (bJ _) (by unfold maxLen;omega) (by omega) (by simp;omega) ?_);intro v' w9 hown' hgrow _;have qY:Below w7.heap.size w7 w9:=bX ((kC.alloc rR _).alloc (by simp;omega) _) (by simp;omega) ((HO.out.alloc _).alloc _) hgrow;obtain⟨nH,nI,rfl⟩:=aX hown';have xm:Hid (w9.ownsRow w7.heap.size 200 3 (.slice nH (k2+1) nI) (k2+1) (flat ((ns.take (k2+1)).map (aD f t)))):=by
         show World.ownsRow _ _ _ _ _ _ _;rw[qX gP,List.map_append,List.map_cons,List.map_nil,aZ,bp,<-qm.out,u6.out,List.map_take];exact hown'
        clear hown' hgrow;go_wp2;go_roundw
        case rel=>exact⟨k2+1,nH,nI,by omega,by go_num,rfl,qY,xm.out⟩
        case measure=>simp[intOf];omega
     ·have Tb:decide ((k2:Int)<(M:Int))=false:=dY (by omega)
      have Li:Hid ((ns.take k2).map (aD f t)=ns.map (aD f t)):=by show _=_;rw[List.take_of_length_le (by have:=Aw.out;omega)]
      have Wo:Hid (k2=(ns.map (aD f t)).length):=by show _=_;rw[List.length_map];have:=Aw.out;omega
      rw[Li.out] at HO;have ET:wr.frozen? ⟨S,0,none⟩=false:=by simp[World.frozen?,hst.hS]
      have nO:Hid (b9 (bq F w (wr.setCell ⟨S,0,none⟩ (.slice ao k2 co))) (wr.setCell ⟨S,0,none⟩ (.slice ao k2 co)) S (ns.map (aD f t)) data rest/\ax F w (wr.setCell ⟨S,0,none⟩ (.slice ao k2 co))):=by
       obtain⟨⟨Pf,Pg,Ph,Pj,Ab⟩,IM⟩:=NH.out.qD kC Wo.out HO.out;have FM:=dr NI.out IM;exact⟨⟨Pf,Pg,Ph,Pj,Ab.keep (fun q hq=>by
        rcases ig NI.out.size IM.size hq with h | h
        ·exact .inl h
        ·exact .inr ⟨by omega,h.2⟩) (fun _ _=>rfl)⟩,ax.after FM uR⟩
      clear hst;go_wp2;go_ret;rw[nA.out];exact⟨rfl,nO.out⟩
 have t2':(kt == 2)=false:=by simpa using t2
 by_cases t1:kt=1
 ·subst t1
  by_cases f2:kf=2
  ·have nA:Hid (R=(nodes,5)):=by show _=_;rw[HR.out,ay Lg.out,ay FA.out,ay J9.out,ay Te.out,ay Vw.out,ay Wd.out,ay (fun h=>t2 h.1),aL ⟨rfl,f2⟩]
   subst f2;go_wp2;go_ret;rw[nA.out];exact⟨rfl,gX.out _ NB⟩
  have f2':(kf == 2)=false:=by simpa using f2
  have NC:Hid (R=if (nodes.any (bQ f n m))=true then (nodes,11) else ((cF nodes t).map (aD f t),0)):=by show _=_;rw[HR.out,ay Lg.out,ay FA.out,ay J9.out,ay Te.out,ay Vw.out,ay Wd.out,ay (fun h=>t2 h.1),ay (fun h=>f2 h.2),ay (fun h=>t2 h.1),ay (fun h=>absurd h.1 (by decide))]
  clear f2 t2;have iO:Below w.heap.size w w5:=kQ.trans (((hb3.trans (hb4.mono hs3)).trans (j3.mono (by omega))).mono Pn);have We:Hid (dF F w5 S na da nc dc nodes data rest):=HST.out.below iO;obtain⟨N,hN⟩:∃N,N=nodes.length:=⟨_,rfl⟩;have hNb:N<=1000000000:=by rw[hN];exact HF.out.big
  have FB:Hid (N=nodes.length):=hN;clear hN;go_wp2
  go_loopw [18] (fun i wr=>∃k:Nat,k<=N/\i=.int .i64 (k:Int)/\Below w5.heap.size w5 wr/\Hid (∀j (hj:j<nodes.length),j<k->bQ f n m nodes[j]=false)) (fun i _=>N-(intOf i).toNat)
  case atStart=>exact⟨0,dG _,rfl,Below.refl _ _,fun j hj h=>by omega⟩
  case round=>
   obtain⟨k,hk,rfl,hbr,HV⟩:=hrel;have hst:=We.out.below hbr;have k0:=hst.c0;have GD:=hst.lt;rw[<-FB.out] at k0;have ql:=hbr.size;by_cases hlt:k<N
   ·have gP:k<nodes.length:=by rw[<-FB.out];exact hlt
    have hrow:=hst.jW;obtain⟨g,c',hv⟩:=ak hrow (by omega);have ha:=(Value.slice.inj hv).1;subst ha;obtain⟨c0,_,_⟩:=bg (off:=0) (aQ hrow) gP;rw[Nat.zero_add] at c0;have fo:=ah hrow rfl;have lJ:=HF.out.small _ (jk gP);obtain⟨x,hx⟩:∃x,x=nodes[k]:=⟨_,rfl⟩;rw[<-hx] at c0 lJ;have qm:Hid (x=nodes[k]):=hx;have uP:(k:Int)<(N:Int):=by omega
    cases hu:cD x.1 f with
    | false=>
     have nQ:Hid (Calls prog 161 #[.string x.1,.string f] wr fun e w'=>e=.returned (.bool false)/\w'=wr):=by rw[<-hu];exact dU x.1 f wr lJ (by omega)
     have FC:Hid (bQ f n m x=false):=by show _=_;unfold bQ;rw[hu];rfl
     clear hv hrow hst hx hu;go_wp2_with fail;refine Calls.mono nQ.out ?_;rintro _ _ ⟨rfl,rfl⟩;go_wp2;go_roundw
     case rel=>
      refine⟨k+1,by omega,by go_num,hbr,fun j hj hjk=>?_⟩;by_cases e:j=k
      ·subst e;rw[<-qm.out];exact FC.out
      ·exact HV.out j hj (by omega)
     case measure=>simp[intOf];omega
    | true=>
     have nQ:Hid (Calls prog 161 #[.string x.1,.string f] wr fun e w'=>e=.returned (.bool true)/\w'=wr):=by rw[<-hu];exact dU x.1 f wr lJ (by omega)
     have FD:Hid _:=fU x.1 wr lJ;obtain⟨sl,nP⟩:∃sl,sl=(aG x.1).1.length:=⟨_,rfl⟩;have Ta:sl<=2097153:=by have:=jM x.1;omega
     have FF:Hid (bQ f n m x=decide (5<(sl:Int)-(n:Int)+(m:Int))):=by show _=_;unfold bQ;rw[hu,nP];rfl
     rw[<-nP] at FD;clear hv hrow hst hx hu nP;by_cases yZ:5<(sl:Int)-(n:Int)+(m:Int)
     ·have nA:Hid (R=(nodes,11)):=by
       show _=_;rw[NC.out,aL];rw[List.any_eq_true];exact⟨nodes[k],jk gP,by rw[<-qm.out,FF.out];exact decide_eq_true yZ⟩
      go_wp2_with fail;refine Calls.mono nQ.out ?_;rintro _ _ ⟨rfl,rfl⟩;go_wp2_with fail;refine Calls.mono FD.out ?_;rintro _ w6 ⟨v6,rfl,eL,rP⟩;obtain⟨a6,c6,rfl⟩:=aX eL;clear eL;go_wp2;go_ret;rw[nA.out];exact⟨rfl,gX.out _ (iO.trans ((hbr.trans (rP.mono ql)).mono iO.size))⟩
     ·have FJ:decide (5<(sl:Int)-(n:Int)+(m:Int))=false:=dY yZ
      have FC:Hid (bQ f n m x=false):=by show _=_;rw[FF.out];exact FJ
      go_wp2_with fail;refine Calls.mono nQ.out ?_;rintro _ _ ⟨rfl,rfl⟩;go_wp2_with fail;refine Calls.mono FD.out ?_;rintro _ w6 ⟨v6,rfl,eL,rP⟩;obtain⟨a6,c6,rfl⟩:=aX eL;clear eL;go_wp2;go_roundw
      case rel=>
       refine⟨k+1,by omega,by go_num,hbr.trans (rP.mono ql),fun j hj hjk=>?_⟩;by_cases e:j=k
       ·subst e;rw[<-qm.out];exact FC.out
       ·exact HV.out j hj (by omega)
      case measure=>simp[intOf];omega
   ·have DR:decide ((k:Int)<(N:Int))=false:=dY (by omega)
    have nA:Hid (R=((cF nodes t).map (aD f t),0)):=by
     show _=_;rw[NC.out,ay];rw[jB (fun j hj=>HV.out j hj (by have:=FB.out;omega))];decide
    have ND:Hid _:=qE hst HF.out t (by omega);have uR:Below w.heap.size w wr:=iO.trans (hbr.mono iO.size);rename World=>w6;have Wh:=uR.size;clear hst;go_wp2_with fail;refine Calls.mono ND.out ?_;rintro _ w7 ⟨rfl,⟨Wi,Wj,Wk,Wl,rQ⟩,Ir⟩;obtain⟨ns,NG⟩:∃ns,ns=cF nodes t:=⟨_,rfl⟩;have qo:=qG HF.out t;rw[<-NG] at rQ qo nA;have Wm:Hid (∀e ∈ ns,e.1.size<=2097152):=qo.2;have NH:Hid (dF (bq F w6 w7) w7 S Wi Wk Wj Wl ns data rest):=rQ;have NI:Hid (ax F w6 w7):=Ir;obtain⟨M,hM⟩:∃M,M=ns.length:=⟨_,rfl⟩;have Vx:M<=1000000000:=by rw[hM];exact qo.1
    have Aw:Hid (M=ns.length):=hM;clear rQ Ir NG qo hM ND;go_wp2
    go_loopw [22,23] (fun o i wr=>∃(k2:Nat) (ao:Option Addr) (co:Nat),k2<=M/\i=.int .i64 (k2:Int)/\o=.slice ao k2 co/\Below w7.heap.size w7 wr/\Hid (wr.ownsRow w7.heap.size 200 3 (.slice ao k2 co) k2 (flat ((ns.take k2).map (aD f t))))) (fun _ i _=>M-(intOf i).toNat)
    case atStart=>exact⟨0,none,0,dG _,rfl,rfl,Below.refl _ _,World.ownsRow_nil _ _ _ _⟩
    case round=>
     obtain⟨k2,ao,co,hk2,rfl,rfl,kC,HO⟩:=hrel;have hst:=NH.out.below kC;have k0:=hst.c0;have GD:=hst.lt;rw[<-Aw.out] at k0;have rR:=kC.size;by_cases x8:k2<M
     ·have gP:k2<ns.length:=by rw[<-Aw.out];exact x8
      have hrow:=hst.jW;obtain⟨g,c',hv⟩:=ak hrow (by omega);have ha:=(Value.slice.inj hv).1;subst ha;obtain⟨c0,c1,c2⟩:=bg (off:=0) (aQ hrow) gP;rw[Nat.zero_add] at c0 c1 c2;have fo:=ah hrow rfl;have lJ:=Wm.out _ (jk gP);obtain⟨x,hx⟩:∃x,x=ns[k2]:=⟨_,rfl⟩;rw[<-hx] at c0 c1 c2 lJ;have qm:Hid (x=ns[k2]):=hx;have uP:(k2:Int)<(M:Int):=by omega
      have nQ:Hid (∀W',Calls prog 161 #[.string x.1,.string f] W' fun e w'=>e=.returned (.bool (cD x.1 f))/\w'=W'):=fun W'=>dU x.1 f W' lJ (by omega);clear hv hrow hst hx;rename World=>wq;cases he:(x.1.toList == f.toList) with
      | true=>
       have u6:Hid (aD f t x=(t++x.1.extract f.size x.1.size,x.2.1,x.2.2)):=by show _=_;unfold aD;rw[aL (Or.inl he)]
       have Wn:f.size<=x.1.size:=by
        have:=congrArg List.length (eq_of_beq he)
        simp only[ByteArray.toList_eq,Array.length_toList] at this;exact Nat.le_of_eq this.symm
       have FK:(f.size:Int)<=(x.1.size:Int):=(by omega);go_wp2_with (at_builtin;refine wpList_append_own _ rfl (.tmp 188) (.tmp 190) 174 rfl w7.heap.size 200 i0 _ 3 32 underlying174 hi hz0 hz1 hz2 rfl (by decide) _ _ _ rfl ((HO.out.alloc _).alloc _) ⟨wq.heap.size+1,0,none⟩ 1 1 (bL (t++x.1.extract f.size x.1.size,x.2.1,x.2.2)) rfl rfl (bD (wq.alloc _) (t++x.1.extract f.size x.1.size,x.2.1,x.2.2) _ _ (by simp)) (bJ _) (by unfold maxLen;omega) (by omega) (by simp;omega) ?_);intro v' w9 hown' hgrow _;have qY:Below w7.heap.size w7 w9:=bX ((kC.alloc rR _).alloc (by simp;omega) _) (by simp;omega) ((HO.out.alloc _).alloc _) hgrow;obtain⟨nH,nI,rfl⟩:=aX hown';have xm:Hid (w9.ownsRow w7.heap.size 200 3 (.slice nH (k2+1) nI) (k2+1) (flat ((ns.take (k2+1)).map (aD f t)))):=by
        show World.ownsRow _ _ _ _ _ _ _;rw[qX gP,List.map_append,List.map_cons,List.map_nil,aZ,bp,<-qm.out,u6.out,List.map_take];exact hown'
       clear hown' hgrow;go_wp2;go_roundw
       case rel=>exact⟨k2+1,nH,nI,by omega,by go_num,rfl,qY,xm.out⟩
       case measure=>simp[intOf];omega
      | false=>
       cases hu:cD x.1 f with
       | true=>
        have u6:Hid (aD f t x=(t++x.1.extract f.size x.1.size,x.2.1,x.2.2)):=by show _=_;unfold aD;rw[aL (Or.inr hu)]
        have Wn:f.size<=x.1.size:=by have:=oZ hu;omega
        have FK:(f.size:Int)<=(x.1.size:Int):=(by omega);rw[hu] at nQ;clear hu;go_wp2_with fail;refine Calls.mono (nQ.out _) ?_;rintro _ _ ⟨rfl,rfl⟩;go_wp2_with (at_builtin;refine wpList_append_own _ rfl (.tmp 188) (.tmp 190) 174 rfl w7.heap.size 200 i0 _ 3 32 underlying174 hi hz0 hz1 hz2 rfl (by decide) _ _ _ rfl ((HO.out.alloc _).alloc _) ⟨wq.heap.size+1,0,none⟩ 1 1 (bL (t++x.1.extract f.size x.1.size,x.2.1,x.2.2)) rfl rfl (bD (wq.alloc _) (t++x.1.extract f.size x.1.size,x.2.1,x.2.2) _ _ (by simp)) (bJ _) (by unfold maxLen;omega) (by omega) (by simp;omega) ?_);intro v' w9 hown' hgrow _;have qY:Below w7.heap.size w7 w9:=bX ((kC.alloc rR _).alloc (by simp;omega) _) (by simp;omega) ((HO.out.alloc _).alloc _) hgrow;obtain⟨nH,nI,rfl⟩:=aX hown';have xm:Hid (w9.ownsRow w7.heap.size 200 3 (.slice nH (k2+1) nI) (k2+1) (flat ((ns.take (k2+1)).map (aD f t)))):=by
         show World.ownsRow _ _ _ _ _ _ _;rw[qX gP,List.map_append,List.map_cons,List.map_nil,aZ,bp,<-qm.out,u6.out,List.map_take];exact hown'
        clear hown' hgrow;go_wp2;go_roundw
        case rel=>exact⟨k2+1,nH,nI,by omega,by go_num,rfl,qY,xm.out⟩
        case measure=>simp[intOf];omega
       | false=>
        have u6:Hid (aD f t x=x):=by show _=_;unfold aD;rw[ay (by rw[he,hu];decide)]
        rw[hu] at nQ;clear hu;go_wp2_with fail;refine Calls.mono (nQ.out _) ?_;rintro _ _ ⟨rfl,rfl⟩;go_wp2_with (at_builtin;refine wpList_append_own _ rfl (.tmp 188) (.tmp 190) 174 rfl w7.heap.size 200 i0 _ 3 32 underlying174 hi hz0 hz1 hz2 rfl (by decide) _ _ _ rfl ((HO.out.alloc _).alloc _) ⟨wq.heap.size+1,0,none⟩ 1 1 (bL x) rfl rfl (bD (wq.alloc _) x _ _ (by simp)) (bJ _) (by unfold maxLen;omega) (by omega) (by simp;omega) ?_);intro v' w9 hown' hgrow _;have qY:Below w7.heap.size w7 w9:=bX ((kC.alloc rR _).alloc (by simp;omega) _) (by simp;omega) ((HO.out.alloc _).alloc _) hgrow;obtain⟨nH,nI,rfl⟩:=aX hown';have xm:Hid (w9.ownsRow w7.heap.size 200 3 (.slice nH (k2+1) nI) (k2+1) (flat ((ns.take (k2+1)).map (aD f t)))):=by
         show World.ownsRow _ _ _ _ _ _ _;rw[qX gP,List.map_append,List.map_cons,List.map_nil,aZ,bp,<-qm.out,u6.out,List.map_take];exact hown'
        clear hown' hgrow;go_wp2;go_roundw
        case rel=>exact⟨k2+1,nH,nI,by omega,by go_num,rfl,qY,xm.out⟩
        case measure=>simp[intOf];omega
     ·have Tb:decide ((k2:Int)<(M:Int))=false:=dY (by omega)
      have Li:Hid ((ns.take k2).map (aD f t)=ns.map (aD f t)):=by show _=_;rw[List.take_of_length_le (by have:=Aw.out;omega)]
      have Wo:Hid (k2=(ns.map (aD f t)).length):=by show _=_;rw[List.length_map];have:=Aw.out;omega
      rw[Li.out] at HO;have ET:wr.frozen? ⟨S,0,none⟩=false:=by simp[World.frozen?,hst.hS]
      have nO:Hid (b9 (bq F w (wr.setCell ⟨S,0,none⟩ (.slice ao k2 co))) (wr.setCell ⟨S,0,none⟩ (.slice ao k2 co)) S (ns.map (aD f t)) data rest/\ax F w (wr.setCell ⟨S,0,none⟩ (.slice ao k2 co))):=by
       obtain⟨⟨Pf,Pg,Ph,Pj,Ab⟩,IM⟩:=NH.out.qD kC Wo.out HO.out;have FM:=dr NI.out IM;exact⟨⟨Pf,Pg,Ph,Pj,Ab.keep (fun q hq=>by
        rcases ig NI.out.size IM.size hq with h | h
        ·exact .inl h
        ·exact .inr ⟨by omega,h.2⟩) (fun _ _=>rfl)⟩,ax.after FM uR⟩
      clear hst;go_wp2;go_ret;rw[nA.out];exact⟨rfl,nO.out⟩
 have t1':(kt == 1)=false:=by simpa using t1
 by_cases t0:kt=0
 ·subst t0
  by_cases q16:16<=ip
  ·have ahn:(16:Int)<=(ip:Int):=by omega
   cases ins with
   | false=>
    have nA:Hid (R=(nodes,11)):=by show _=_;rw[HR.out,ay Lg.out,ay FA.out,ay J9.out,ay Te.out,ay Vw.out,ay Wd.out,ay (fun h=>t2 h.1),ay (fun h=>t1 h.1),ay (fun h=>t2 h.1),aL ⟨rfl,q16,rfl⟩]
    clear t2 t1;go_wp2;go_ret;rw[nA.out];exact⟨rfl,gX.out _ NB⟩
   | true=>
    have NC:Hid (R=if (nodes.any (bQ f n m))=true then (nodes,11) else ((cF nodes t).map (aD f t),0)):=by show _=_;rw[HR.out,ay Lg.out,ay FA.out,ay J9.out,ay Te.out,ay Vw.out,ay Wd.out,ay (fun h=>t2 h.1),ay (fun h=>t1 h.1),ay (fun h=>t2 h.1),ay (fun h=>Bool.noConfusion h.2.2)]
    clear t2 t1;have iO:Below w.heap.size w w5:=kQ.trans (((hb3.trans (hb4.mono hs3)).trans (j3.mono (by omega))).mono Pn);have We:Hid (dF F w5 S na da nc dc nodes data rest):=HST.out.below iO;obtain⟨N,hN⟩:∃N,N=nodes.length:=⟨_,rfl⟩;have hNb:N<=1000000000:=by rw[hN];exact HF.out.big
    have FB:Hid (N=nodes.length):=hN;clear hN;go_wp2
    go_loopw [18] (fun i wr=>∃k:Nat,k<=N/\i=.int .i64 (k:Int)/\Below w5.heap.size w5 wr/\Hid (∀j (hj:j<nodes.length),j<k->bQ f n m nodes[j]=false)) (fun i _=>N-(intOf i).toNat)
    case atStart=>exact⟨0,dG _,rfl,Below.refl _ _,fun j hj h=>by omega⟩
    case round=>
     obtain⟨k,hk,rfl,hbr,HV⟩:=hrel;have hst:=We.out.below hbr;have k0:=hst.c0;have GD:=hst.lt;rw[<-FB.out] at k0;have ql:=hbr.size;by_cases hlt:k<N
     ·have gP:k<nodes.length:=by rw[<-FB.out];exact hlt
      have hrow:=hst.jW;obtain⟨g,c',hv⟩:=ak hrow (by omega);have ha:=(Value.slice.inj hv).1;subst ha;obtain⟨c0,_,_⟩:=bg (off:=0) (aQ hrow) gP;rw[Nat.zero_add] at c0;have fo:=ah hrow rfl;have lJ:=HF.out.small _ (jk gP);obtain⟨x,hx⟩:∃x,x=nodes[k]:=⟨_,rfl⟩;rw[<-hx] at c0 lJ;have qm:Hid (x=nodes[k]):=hx;have uP:(k:Int)<(N:Int):=by omega
      cases hu:cD x.1 f with
      | false=>
       have nQ:Hid (Calls prog 161 #[.string x.1,.string f] wr fun e w'=>e=.returned (.bool false)/\w'=wr):=by rw[<-hu];exact dU x.1 f wr lJ (by omega)
       have FC:Hid (bQ f n m x=false):=by show _=_;unfold bQ;rw[hu];rfl
       clear hv hrow hst hx hu;go_wp2_with fail;refine Calls.mono nQ.out ?_;rintro _ _ ⟨rfl,rfl⟩;go_wp2;go_roundw
       case rel=>
        refine⟨k+1,by omega,by go_num,hbr,fun j hj hjk=>?_⟩;by_cases e:j=k
        ·subst e;rw[<-qm.out];exact FC.out
        ·exact HV.out j hj (by omega)
       case measure=>simp[intOf];omega
      | true=>
       have nQ:Hid (Calls prog 161 #[.string x.1,.string f] wr fun e w'=>e=.returned (.bool true)/\w'=wr):=by rw[<-hu];exact dU x.1 f wr lJ (by omega)
       have FD:Hid _:=fU x.1 wr lJ;obtain⟨sl,nP⟩:∃sl,sl=(aG x.1).1.length:=⟨_,rfl⟩;have Ta:sl<=2097153:=by have:=jM x.1;omega
       have FF:Hid (bQ f n m x=decide (5<(sl:Int)-(n:Int)+(m:Int))):=by show _=_;unfold bQ;rw[hu,nP];rfl
       rw[<-nP] at FD;clear hv hrow hst hx hu nP;by_cases yZ:5<(sl:Int)-(n:Int)+(m:Int)
       ·have nA:Hid (R=(nodes,11)):=by
         show _=_;rw[NC.out,aL];rw[List.any_eq_true];exact⟨nodes[k],jk gP,by rw[<-qm.out,FF.out];exact decide_eq_true yZ⟩
        go_wp2_with fail;refine Calls.mono nQ.out ?_;rintro _ _ ⟨rfl,rfl⟩;go_wp2_with fail;refine Calls.mono FD.out ?_;rintro _ w6 ⟨v6,rfl,eL,rP⟩;obtain⟨a6,c6,rfl⟩:=aX eL;clear eL;go_wp2;go_ret;rw[nA.out];exact⟨rfl,gX.out _ (iO.trans ((hbr.trans (rP.mono ql)).mono iO.size))⟩
       ·have FJ:decide (5<(sl:Int)-(n:Int)+(m:Int))=false:=dY yZ
        have FC:Hid (bQ f n m x=false):=by show _=_;rw[FF.out];exact FJ
        go_wp2_with fail;refine Calls.mono nQ.out ?_;rintro _ _ ⟨rfl,rfl⟩;go_wp2_with fail;refine Calls.mono FD.out ?_;rintro _ w6 ⟨v6,rfl,eL,rP⟩;obtain⟨a6,c6,rfl⟩:=aX eL;clear eL;go_wp2;go_roundw
        case rel=>
         refine⟨k+1,by omega,by go_num,hbr.trans (rP.mono ql),fun j hj hjk=>?_⟩;by_cases e:j=k
         ·subst e;rw[<-qm.out];exact FC.out
         ·exact HV.out j hj (by omega)
        case measure=>simp[intOf];omega
     ·have DR:decide ((k:Int)<(N:Int))=false:=dY (by omega)
      have nA:Hid (R=((cF nodes t).map (aD f t),0)):=by
       show _=_;rw[NC.out,ay];rw[jB (fun j hj=>HV.out j hj (by have:=FB.out;omega))];decide
      have ND:Hid _:=qE hst HF.out t (by omega);have uR:Below w.heap.size w wr:=iO.trans (hbr.mono iO.size);rename World=>w6;have Wh:=uR.size;clear hst;go_wp2_with fail;refine Calls.mono ND.out ?_;rintro _ w7 ⟨rfl,⟨Wi,Wj,Wk,Wl,rQ⟩,Ir⟩;obtain⟨ns,NG⟩:∃ns,ns=cF nodes t:=⟨_,rfl⟩;have qo:=qG HF.out t;rw[<-NG] at rQ qo nA;have Wm:Hid (∀e ∈ ns,e.1.size<=2097152):=qo.2;have NH:Hid (dF (bq F w6 w7) w7 S Wi Wk Wj Wl ns data rest):=rQ;have NI:Hid (ax F w6 w7):=Ir;obtain⟨M,hM⟩:∃M,M=ns.length:=⟨_,rfl⟩;have Vx:M<=1000000000:=by rw[hM];exact qo.1
      have Aw:Hid (M=ns.length):=hM;clear rQ Ir NG qo hM ND;go_wp2
      go_loopw [22,23] (fun o i wr=>∃(k2:Nat) (ao:Option Addr) (co:Nat),k2<=M/\i=.int .i64 (k2:Int)/\o=.slice ao k2 co/\Below w7.heap.size w7 wr/\Hid (wr.ownsRow w7.heap.size 200 3 (.slice ao k2 co) k2 (flat ((ns.take k2).map (aD f t))))) (fun _ i _=>M-(intOf i).toNat)
      case atStart=>exact⟨0,none,0,dG _,rfl,rfl,Below.refl _ _,World.ownsRow_nil _ _ _ _⟩
      case round=>
       obtain⟨k2,ao,co,hk2,rfl,rfl,kC,HO⟩:=hrel;have hst:=NH.out.below kC;have k0:=hst.c0;have GD:=hst.lt;rw[<-Aw.out] at k0;have rR:=kC.size;by_cases x8:k2<M
       ·have gP:k2<ns.length:=by rw[<-Aw.out];exact x8
        have hrow:=hst.jW;obtain⟨g,c',hv⟩:=ak hrow (by omega);have ha:=(Value.slice.inj hv).1;subst ha;obtain⟨c0,c1,c2⟩:=bg (off:=0) (aQ hrow) gP;rw[Nat.zero_add] at c0 c1 c2;have fo:=ah hrow rfl;have lJ:=Wm.out _ (jk gP);obtain⟨x,hx⟩:∃x,x=ns[k2]:=⟨_,rfl⟩;rw[<-hx] at c0 c1 c2 lJ;have qm:Hid (x=ns[k2]):=hx;have uP:(k2:Int)<(M:Int):=by omega
        have nQ:Hid (∀W',Calls prog 161 #[.string x.1,.string f] W' fun e w'=>e=.returned (.bool (cD x.1 f))/\w'=W'):=fun W'=>dU x.1 f W' lJ (by omega);clear hv hrow hst hx;rename World=>wq;cases he:(x.1.toList == f.toList) with
        | true=>
         have u6:Hid (aD f t x=(t++x.1.extract f.size x.1.size,x.2.1,x.2.2)):=by show _=_;unfold aD;rw[aL (Or.inl he)]
         have Wn:f.size<=x.1.size:=by
          have:=congrArg List.length (eq_of_beq he)
          simp only[ByteArray.toList_eq,Array.length_toList] at this;exact Nat.le_of_eq this.symm
         have FK:(f.size:Int)<=(x.1.size:Int):=(by omega);go_wp2_with (at_builtin;refine wpList_append_own _ rfl (.tmp 188) (.tmp 190) 174 rfl w7.heap.size 200 i0 _ 3 32 underlying174 hi hz0 hz1 hz2 rfl (by decide) _ _ _ rfl ((HO.out.alloc _).alloc _) ⟨wq.heap.size+1,0,none⟩ 1 1 (bL (t++x.1.extract f.size x.1.size,x.2.1,x.2.2)) rfl rfl (bD (wq.alloc _) (t++x.1.extract f.size x.1.size,x.2.1,x.2.2) _ _ (by simp)) (bJ _) (by unfold maxLen;omega) (by omega) (by simp;omega) ?_);intro v' w9 hown' hgrow _;have qY:Below w7.heap.size w7 w9:=bX ((kC.alloc rR _).alloc (by simp;omega) _) (by simp;omega) ((HO.out.alloc _).alloc _) hgrow;obtain⟨nH,nI,rfl⟩:=aX hown';have xm:Hid (w9.ownsRow w7.heap.size 200 3 (.slice nH (k2+1) nI) (k2+1) (flat ((ns.take (k2+1)).map (aD f t)))):=by
          show World.ownsRow _ _ _ _ _ _ _;rw[qX gP,List.map_append,List.map_cons,List.map_nil,aZ,bp,<-qm.out,u6.out,List.map_take];exact hown'
         clear hown' hgrow;go_wp2;go_roundw
         case rel=>exact⟨k2+1,nH,nI,by omega,by go_num,rfl,qY,xm.out⟩
         case measure=>simp[intOf];omega
        | false=>
         cases hu:cD x.1 f with
         | true=>
          have u6:Hid (aD f t x=(t++x.1.extract f.size x.1.size,x.2.1,x.2.2)):=by show _=_;unfold aD;rw[aL (Or.inr hu)]
          have Wn:f.size<=x.1.size:=by have:=oZ hu;omega
          have FK:(f.size:Int)<=(x.1.size:Int):=(by omega);rw[hu] at nQ;clear hu;go_wp2_with fail;refine Calls.mono (nQ.out _) ?_;rintro _ _ ⟨rfl,rfl⟩;go_wp2_with (at_builtin;refine wpList_append_own _ rfl (.tmp 188) (.tmp 190) 174 rfl w7.heap.size 200 i0 _ 3 32 underlying174 hi hz0 hz1 hz2 rfl (by decide) _ _ _ rfl ((HO.out.alloc _).alloc _) ⟨wq.heap.size+1,0,none⟩ 1 1 (bL (t++x.1.extract f.size x.1.size,x.2.1,x.2.2)) rfl rfl (bD (wq.alloc _) (t++x.1.extract f.size x.1.size,x.2.1,x.2.2) _ _ (by simp)) (bJ _) (by unfold maxLen;omega) (by omega) (by simp;omega) ?_);intro v' w9 hown' hgrow _;have qY:Below w7.heap.size w7 w9:=bX ((kC.alloc rR _).alloc (by simp;omega) _) (by simp;omega) ((HO.out.alloc _).alloc _) hgrow;obtain⟨nH,nI,rfl⟩:=aX hown';have xm:Hid (w9.ownsRow w7.heap.size 200 3 (.slice nH (k2+1) nI) (k2+1) (flat ((ns.take (k2+1)).map (aD f t)))):=by
           show World.ownsRow _ _ _ _ _ _ _;rw[qX gP,List.map_append,List.map_cons,List.map_nil,aZ,bp,<-qm.out,u6.out,List.map_take];exact hown'
          clear hown' hgrow;go_wp2;go_roundw
          case rel=>exact⟨k2+1,nH,nI,by omega,by go_num,rfl,qY,xm.out⟩
          case measure=>simp[intOf];omega
         | false=>
          have u6:Hid (aD f t x=x):=by show _=_;unfold aD;rw[ay (by rw[he,hu];decide)]
          rw[hu] at nQ;clear hu;go_wp2_with fail;refine Calls.mono (nQ.out _) ?_;rintro _ _ ⟨rfl,rfl⟩;go_wp2_with (at_builtin;refine wpList_append_own _ rfl (.tmp 188) (.tmp 190) 174 rfl w7.heap.size 200 i0 _ 3 32 underlying174 hi hz0 hz1 hz2 rfl (by decide) _ _ _ rfl ((HO.out.alloc _).alloc _) ⟨wq.heap.size+1,0,none⟩ 1 1 (bL x) rfl rfl (bD (wq.alloc _) x _ _ (by simp)) (bJ _) (by unfold maxLen;omega) (by omega) (by simp;omega) ?_);intro v' w9 hown' hgrow _;have qY:Below w7.heap.size w7 w9:=bX ((kC.alloc rR _).alloc (by simp;omega) _) (by simp;omega) ((HO.out.alloc _).alloc _) hgrow;obtain⟨nH,nI,rfl⟩:=aX hown';have xm:Hid (w9.ownsRow w7.heap.size 200 3 (.slice nH (k2+1) nI) (k2+1) (flat ((ns.take (k2+1)).map (aD f t)))):=by
           show World.ownsRow _ _ _ _ _ _ _;rw[qX gP,List.map_append,List.map_cons,List.map_nil,aZ,bp,<-qm.out,u6.out,List.map_take];exact hown'
          clear hown' hgrow;go_wp2;go_roundw
          case rel=>exact⟨k2+1,nH,nI,by omega,by go_num,rfl,qY,xm.out⟩
          case measure=>simp[intOf];omega
       ·have Tb:decide ((k2:Int)<(M:Int))=false:=dY (by omega)
        have Li:Hid ((ns.take k2).map (aD f t)=ns.map (aD f t)):=by show _=_;rw[List.take_of_length_le (by have:=Aw.out;omega)]
        have Wo:Hid (k2=(ns.map (aD f t)).length):=by show _=_;rw[List.length_map];have:=Aw.out;omega
        rw[Li.out] at HO;have ET:wr.frozen? ⟨S,0,none⟩=false:=by simp[World.frozen?,hst.hS]
        have nO:Hid (b9 (bq F w (wr.setCell ⟨S,0,none⟩ (.slice ao k2 co))) (wr.setCell ⟨S,0,none⟩ (.slice ao k2 co)) S (ns.map (aD f t)) data rest/\ax F w (wr.setCell ⟨S,0,none⟩ (.slice ao k2 co))):=by
         obtain⟨⟨Pf,Pg,Ph,Pj,Ab⟩,IM⟩:=NH.out.qD kC Wo.out HO.out;have FM:=dr NI.out IM;exact⟨⟨Pf,Pg,Ph,Pj,Ab.keep (fun q hq=>by
          rcases ig NI.out.size IM.size hq with h | h
          ·exact .inl h
          ·exact .inr ⟨by omega,h.2⟩) (fun _ _=>rfl)⟩,ax.after FM uR⟩
        clear hst;go_wp2;go_ret;rw[nA.out];exact⟨rfl,nO.out⟩
  have ahn:decide ((16:Int)<=(ip:Int))=false:=dY (by omega);have NC:Hid (R=if (nodes.any (bQ f n m))=true then (nodes,11) else ((cF nodes t).map (aD f t),0)):=by show _=_;rw[HR.out,ay Lg.out,ay FA.out,ay J9.out,ay Te.out,ay Vw.out,ay Wd.out,ay (fun h=>t2 h.1),ay (fun h=>t1 h.1),ay (fun h=>t2 h.1),ay (fun h=>q16 h.2.1)]
  clear t2 t1;have iO:Below w.heap.size w w5:=kQ.trans (((hb3.trans (hb4.mono hs3)).trans (j3.mono (by omega))).mono Pn);have We:Hid (dF F w5 S na da nc dc nodes data rest):=HST.out.below iO;obtain⟨N,hN⟩:∃N,N=nodes.length:=⟨_,rfl⟩;have hNb:N<=1000000000:=by rw[hN];exact HF.out.big
  have FB:Hid (N=nodes.length):=hN;clear hN;go_wp2
  go_loopw [18] (fun i wr=>∃k:Nat,k<=N/\i=.int .i64 (k:Int)/\Below w5.heap.size w5 wr/\Hid (∀j (hj:j<nodes.length),j<k->bQ f n m nodes[j]=false)) (fun i _=>N-(intOf i).toNat)
  case atStart=>exact⟨0,dG _,rfl,Below.refl _ _,fun j hj h=>by omega⟩
  case round=>
   obtain⟨k,hk,rfl,hbr,HV⟩:=hrel;have hst:=We.out.below hbr;have k0:=hst.c0;have GD:=hst.lt;rw[<-FB.out] at k0;have ql:=hbr.size;by_cases hlt:k<N
   ·have gP:k<nodes.length:=by rw[<-FB.out];exact hlt
    have hrow:=hst.jW;obtain⟨g,c',hv⟩:=ak hrow (by omega);have ha:=(Value.slice.inj hv).1;subst ha;obtain⟨c0,_,_⟩:=bg (off:=0) (aQ hrow) gP;rw[Nat.zero_add] at c0;have fo:=ah hrow rfl;have lJ:=HF.out.small _ (jk gP);obtain⟨x,hx⟩:∃x,x=nodes[k]:=⟨_,rfl⟩;rw[<-hx] at c0 lJ;have qm:Hid (x=nodes[k]):=hx;have uP:(k:Int)<(N:Int):=by omega
    cases hu:cD x.1 f with
    | false=>
     have nQ:Hid (Calls prog 161 #[.string x.1,.string f] wr fun e w'=>e=.returned (.bool false)/\w'=wr):=by rw[<-hu];exact dU x.1 f wr lJ (by omega)
     have FC:Hid (bQ f n m x=false):=by show _=_;unfold bQ;rw[hu];rfl
     clear hv hrow hst hx hu;go_wp2_with fail;refine Calls.mono nQ.out ?_;rintro _ _ ⟨rfl,rfl⟩;go_wp2;go_roundw
     case rel=>
      refine⟨k+1,by omega,by go_num,hbr,fun j hj hjk=>?_⟩;by_cases e:j=k
      ·subst e;rw[<-qm.out];exact FC.out
      ·exact HV.out j hj (by omega)
     case measure=>simp[intOf];omega
    | true=>
     have nQ:Hid (Calls prog 161 #[.string x.1,.string f] wr fun e w'=>e=.returned (.bool true)/\w'=wr):=by rw[<-hu];exact dU x.1 f wr lJ (by omega)
     have FD:Hid _:=fU x.1 wr lJ;obtain⟨sl,nP⟩:∃sl,sl=(aG x.1).1.length:=⟨_,rfl⟩;have Ta:sl<=2097153:=by have:=jM x.1;omega
     have FF:Hid (bQ f n m x=decide (5<(sl:Int)-(n:Int)+(m:Int))):=by show _=_;unfold bQ;rw[hu,nP];rfl
     rw[<-nP] at FD;clear hv hrow hst hx hu nP;by_cases yZ:5<(sl:Int)-(n:Int)+(m:Int)
     ·have nA:Hid (R=(nodes,11)):=by
       show _=_;rw[NC.out,aL];rw[List.any_eq_true];exact⟨nodes[k],jk gP,by rw[<-qm.out,FF.out];exact decide_eq_true yZ⟩
      go_wp2_with fail;refine Calls.mono nQ.out ?_;rintro _ _ ⟨rfl,rfl⟩;go_wp2_with fail;refine Calls.mono FD.out ?_;rintro _ w6 ⟨v6,rfl,eL,rP⟩;obtain⟨a6,c6,rfl⟩:=aX eL;clear eL;go_wp2;go_ret;rw[nA.out];exact⟨rfl,gX.out _ (iO.trans ((hbr.trans (rP.mono ql)).mono iO.size))⟩
     ·have FJ:decide (5<(sl:Int)-(n:Int)+(m:Int))=false:=dY yZ
      have FC:Hid (bQ f n m x=false):=by show _=_;rw[FF.out];exact FJ
      go_wp2_with fail;refine Calls.mono nQ.out ?_;rintro _ _ ⟨rfl,rfl⟩;go_wp2_with fail;refine Calls.mono FD.out ?_;rintro _ w6 ⟨v6,rfl,eL,rP⟩;obtain⟨a6,c6,rfl⟩:=aX eL;clear eL;go_wp2;go_roundw
      case rel=>
       refine⟨k+1,by omega,by go_num,hbr.trans (rP.mono ql),fun j hj hjk=>?_⟩;by_cases e:j=k
       ·subst e;rw[<-qm.out];exact FC.out
       ·exact HV.out j hj (by omega)
      case measure=>simp[intOf];omega
   ·have DR:decide ((k:Int)<(N:Int))=false:=dY (by omega)
    have nA:Hid (R=((cF nodes t).map (aD f t),0)):=by
     show _=_;rw[NC.out,ay];rw[jB (fun j hj=>HV.out j hj (by have:=FB.out;omega))];decide
    have ND:Hid _:=qE hst HF.out t (by omega);have uR:Below w.heap.size w wr:=iO.trans (hbr.mono iO.size);rename World=>w6;have Wh:=uR.size;clear hst;go_wp2_with fail;refine Calls.mono ND.out ?_;rintro _ w7 ⟨rfl,⟨Wi,Wj,Wk,Wl,rQ⟩,Ir⟩;obtain⟨ns,NG⟩:∃ns,ns=cF nodes t:=⟨_,rfl⟩;have qo:=qG HF.out t;rw[<-NG] at rQ qo nA;have Wm:Hid (∀e ∈ ns,e.1.size<=2097152):=qo.2;have NH:Hid (dF (bq F w6 w7) w7 S Wi Wk Wj Wl ns data rest):=rQ;have NI:Hid (ax F w6 w7):=Ir;obtain⟨M,hM⟩:∃M,M=ns.length:=⟨_,rfl⟩;have Vx:M<=1000000000:=by rw[hM];exact qo.1
    have Aw:Hid (M=ns.length):=hM;clear rQ Ir NG qo hM ND;go_wp2
    go_loopw [22,23] (fun o i wr=>∃(k2:Nat) (ao:Option Addr) (co:Nat),k2<=M/\i=.int .i64 (k2:Int)/\o=.slice ao k2 co/\Below w7.heap.size w7 wr/\Hid (wr.ownsRow w7.heap.size 200 3 (.slice ao k2 co) k2 (flat ((ns.take k2).map (aD f t))))) (fun _ i _=>M-(intOf i).toNat)
    case atStart=>exact⟨0,none,0,dG _,rfl,rfl,Below.refl _ _,World.ownsRow_nil _ _ _ _⟩
    case round=>
     obtain⟨k2,ao,co,hk2,rfl,rfl,kC,HO⟩:=hrel;have hst:=NH.out.below kC;have k0:=hst.c0;have GD:=hst.lt;rw[<-Aw.out] at k0;have rR:=kC.size;by_cases x8:k2<M
     ·have gP:k2<ns.length:=by rw[<-Aw.out];exact x8
      have hrow:=hst.jW;obtain⟨g,c',hv⟩:=ak hrow (by omega);have ha:=(Value.slice.inj hv).1;subst ha;obtain⟨c0,c1,c2⟩:=bg (off:=0) (aQ hrow) gP;rw[Nat.zero_add] at c0 c1 c2;have fo:=ah hrow rfl;have lJ:=Wm.out _ (jk gP);obtain⟨x,hx⟩:∃x,x=ns[k2]:=⟨_,rfl⟩;rw[<-hx] at c0 c1 c2 lJ;have qm:Hid (x=ns[k2]):=hx;have uP:(k2:Int)<(M:Int):=by omega
      have nQ:Hid (∀W',Calls prog 161 #[.string x.1,.string f] W' fun e w'=>e=.returned (.bool (cD x.1 f))/\w'=W'):=fun W'=>dU x.1 f W' lJ (by omega);clear hv hrow hst hx;rename World=>wq;cases he:(x.1.toList == f.toList) with
      | true=>
       have u6:Hid (aD f t x=(t++x.1.extract f.size x.1.size,x.2.1,x.2.2)):=by show _=_;unfold aD;rw[aL (Or.inl he)]
       have Wn:f.size<=x.1.size:=by
        have:=congrArg List.length (eq_of_beq he)
        simp only[ByteArray.toList_eq,Array.length_toList] at this;exact Nat.le_of_eq this.symm
       have FK:(f.size:Int)<=(x.1.size:Int):=(by omega);go_wp2_with (at_builtin;refine wpList_append_own _ rfl (.tmp 188) (.tmp 190) 174 rfl w7.heap.size 200 i0 _ 3 32 underlying174 hi hz0 hz1 hz2 rfl (by decide) _ _ _ rfl ((HO.out.alloc _).alloc _) ⟨wq.heap.size+1,0,none⟩ 1 1 (bL (t++x.1.extract f.size x.1.size,x.2.1,x.2.2)) rfl rfl (bD (wq.alloc _) (t++x.1.extract f.size x.1.size,x.2.1,x.2.2) _ _ (by simp)) (bJ _) (by unfold maxLen;omega) (by omega) (by simp;omega) ?_);intro v' w9 hown' hgrow _;have qY:Below w7.heap.size w7 w9:=bX ((kC.alloc rR _).alloc (by simp;omega) _) (by simp;omega) ((HO.out.alloc _).alloc _) hgrow;obtain⟨nH,nI,rfl⟩:=aX hown';have xm:Hid (w9.ownsRow w7.heap.size 200 3 (.slice nH (k2+1) nI) (k2+1) (flat ((ns.take (k2+1)).map (aD f t)))):=by
        show World.ownsRow _ _ _ _ _ _ _;rw[qX gP,List.map_append,List.map_cons,List.map_nil,aZ,bp,<-qm.out,u6.out,List.map_take];exact hown'
       clear hown' hgrow;go_wp2;go_roundw
       case rel=>exact⟨k2+1,nH,nI,by omega,by go_num,rfl,qY,xm.out⟩
       case measure=>simp[intOf];omega
      | false=>
       cases hu:cD x.1 f with
       | true=>
        have u6:Hid (aD f t x=(t++x.1.extract f.size x.1.size,x.2.1,x.2.2)):=by show _=_;unfold aD;rw[aL (Or.inr hu)]
        have Wn:f.size<=x.1.size:=by have:=oZ hu;omega
        have FK:(f.size:Int)<=(x.1.size:Int):=(by omega);rw[hu] at nQ;clear hu;go_wp2_with fail;refine Calls.mono (nQ.out _) ?_;rintro _ _ ⟨rfl,rfl⟩;go_wp2_with (at_builtin;refine wpList_append_own _ rfl (.tmp 188) (.tmp 190) 174 rfl w7.heap.size 200 i0 _ 3 32 underlying174 hi hz0 hz1 hz2 rfl (by decide) _ _ _ rfl ((HO.out.alloc _).alloc _) ⟨wq.heap.size+1,0,none⟩ 1 1 (bL (t++x.1.extract f.size x.1.size,x.2.1,x.2.2)) rfl rfl (bD (wq.alloc _) (t++x.1.extract f.size x.1.size,x.2.1,x.2.2) _ _ (by simp)) (bJ _) (by unfold maxLen;omega) (by omega) (by simp;omega) ?_);intro v' w9 hown' hgrow _;have qY:Below w7.heap.size w7 w9:=bX ((kC.alloc rR _).alloc (by simp;omega) _) (by simp;omega) ((HO.out.alloc _).alloc _) hgrow;obtain⟨nH,nI,rfl⟩:=aX hown';have xm:Hid (w9.ownsRow w7.heap.size 200 3 (.slice nH (k2+1) nI) (k2+1) (flat ((ns.take (k2+1)).map (aD f t)))):=by
         show World.ownsRow _ _ _ _ _ _ _;rw[qX gP,List.map_append,List.map_cons,List.map_nil,aZ,bp,<-qm.out,u6.out,List.map_take];exact hown'
        clear hown' hgrow;go_wp2;go_roundw
        case rel=>exact⟨k2+1,nH,nI,by omega,by go_num,rfl,qY,xm.out⟩
        case measure=>simp[intOf];omega
       | false=>
        have u6:Hid (aD f t x=x):=by show _=_;unfold aD;rw[ay (by rw[he,hu];decide)]
        rw[hu] at nQ;clear hu;go_wp2_with fail;refine Calls.mono (nQ.out _) ?_;rintro _ _ ⟨rfl,rfl⟩;go_wp2_with (at_builtin;refine wpList_append_own _ rfl (.tmp 188) (.tmp 190) 174 rfl w7.heap.size 200 i0 _ 3 32 underlying174 hi hz0 hz1 hz2 rfl (by decide) _ _ _ rfl ((HO.out.alloc _).alloc _) ⟨wq.heap.size+1,0,none⟩ 1 1 (bL x) rfl rfl (bD (wq.alloc _) x _ _ (by simp)) (bJ _) (by unfold maxLen;omega) (by omega) (by simp;omega) ?_);intro v' w9 hown' hgrow _;have qY:Below w7.heap.size w7 w9:=bX ((kC.alloc rR _).alloc (by simp;omega) _) (by simp;omega) ((HO.out.alloc _).alloc _) hgrow;obtain⟨nH,nI,rfl⟩:=aX hown';have xm:Hid (w9.ownsRow w7.heap.size 200 3 (.slice nH (k2+1) nI) (k2+1) (flat ((ns.take (k2+1)).map (aD f t)))):=by
         show World.ownsRow _ _ _ _ _ _ _;rw[qX gP,List.map_append,List.map_cons,List.map_nil,aZ,bp,<-qm.out,u6.out,List.map_take];exact hown'
        clear hown' hgrow;go_wp2;go_roundw
        case rel=>exact⟨k2+1,nH,nI,by omega,by go_num,rfl,qY,xm.out⟩
        case measure=>simp[intOf];omega
     ·have Tb:decide ((k2:Int)<(M:Int))=false:=dY (by omega)
      have Li:Hid ((ns.take k2).map (aD f t)=ns.map (aD f t)):=by show _=_;rw[List.take_of_length_le (by have:=Aw.out;omega)]
      have Wo:Hid (k2=(ns.map (aD f t)).length):=by show _=_;rw[List.length_map];have:=Aw.out;omega
      rw[Li.out] at HO;have ET:wr.frozen? ⟨S,0,none⟩=false:=by simp[World.frozen?,hst.hS]
      have nO:Hid (b9 (bq F w (wr.setCell ⟨S,0,none⟩ (.slice ao k2 co))) (wr.setCell ⟨S,0,none⟩ (.slice ao k2 co)) S (ns.map (aD f t)) data rest/\ax F w (wr.setCell ⟨S,0,none⟩ (.slice ao k2 co))):=by
       obtain⟨⟨Pf,Pg,Ph,Pj,Ab⟩,IM⟩:=NH.out.qD kC Wo.out HO.out;have FM:=dr NI.out IM;exact⟨⟨Pf,Pg,Ph,Pj,Ab.keep (fun q hq=>by
        rcases ig NI.out.size IM.size hq with h | h
        ·exact .inl h
        ·exact .inr ⟨by omega,h.2⟩) (fun _ _=>rfl)⟩,ax.after FM uR⟩
      clear hst;go_wp2;go_ret;rw[nA.out];exact⟨rfl,nO.out⟩
 have t0':(kt == 0)=false:=by simpa using t0
 have NC:Hid (R=if (nodes.any (bQ f n m))=true then (nodes,11) else ((cF nodes t).map (aD f t),0)):=by show _=_;rw[HR.out,ay Lg.out,ay FA.out,ay J9.out,ay Te.out,ay Vw.out,ay Wd.out,ay (fun h=>t2 h.1),ay (fun h=>t1 h.1),ay (fun h=>t2 h.1),ay (fun h=>t0 h.1)]
 clear t2 t1 t0;have iO:Below w.heap.size w w5:=kQ.trans (((hb3.trans (hb4.mono hs3)).trans (j3.mono (by omega))).mono Pn);have We:Hid (dF F w5 S na da nc dc nodes data rest):=HST.out.below iO;obtain⟨N,hN⟩:∃N,N=nodes.length:=⟨_,rfl⟩;have hNb:N<=1000000000:=by rw[hN];exact HF.out.big
 have FB:Hid (N=nodes.length):=hN;clear hN;go_wp2
 go_loopw [18] (fun i wr=>∃k:Nat,k<=N/\i=.int .i64 (k:Int)/\Below w5.heap.size w5 wr/\Hid (∀j (hj:j<nodes.length),j<k->bQ f n m nodes[j]=false)) (fun i _=>N-(intOf i).toNat)
 case atStart=>exact⟨0,dG _,rfl,Below.refl _ _,fun j hj h=>by omega⟩
 case round=>
  obtain⟨k,hk,rfl,hbr,HV⟩:=hrel;have hst:=We.out.below hbr;have k0:=hst.c0;have GD:=hst.lt;rw[<-FB.out] at k0;have ql:=hbr.size;by_cases hlt:k<N
  ·have gP:k<nodes.length:=by rw[<-FB.out];exact hlt
   have hrow:=hst.jW;obtain⟨g,c',hv⟩:=ak hrow (by omega);have ha:=(Value.slice.inj hv).1;subst ha;obtain⟨c0,_,_⟩:=bg (off:=0) (aQ hrow) gP;rw[Nat.zero_add] at c0;have fo:=ah hrow rfl;have lJ:=HF.out.small _ (jk gP);obtain⟨x,hx⟩:∃x,x=nodes[k]:=⟨_,rfl⟩;rw[<-hx] at c0 lJ;have qm:Hid (x=nodes[k]):=hx;have uP:(k:Int)<(N:Int):=by omega
   cases hu:cD x.1 f with
   | false=>
    have nQ:Hid (Calls prog 161 #[.string x.1,.string f] wr fun e w'=>e=.returned (.bool false)/\w'=wr):=by rw[<-hu];exact dU x.1 f wr lJ (by omega)
    have FC:Hid (bQ f n m x=false):=by show _=_;unfold bQ;rw[hu];rfl
    clear hv hrow hst hx hu;go_wp2_with fail;refine Calls.mono nQ.out ?_;rintro _ _ ⟨rfl,rfl⟩;go_wp2;go_roundw
    case rel=>
     refine⟨k+1,by omega,by go_num,hbr,fun j hj hjk=>?_⟩;by_cases e:j=k
     ·subst e;rw[<-qm.out];exact FC.out
     ·exact HV.out j hj (by omega)
    case measure=>simp[intOf];omega
   | true=>
    have nQ:Hid (Calls prog 161 #[.string x.1,.string f] wr fun e w'=>e=.returned (.bool true)/\w'=wr):=by rw[<-hu];exact dU x.1 f wr lJ (by omega)
    have FD:Hid _:=fU x.1 wr lJ;obtain⟨sl,nP⟩:∃sl,sl=(aG x.1).1.length:=⟨_,rfl⟩;have Ta:sl<=2097153:=by have:=jM x.1;omega
    have FF:Hid (bQ f n m x=decide (5<(sl:Int)-(n:Int)+(m:Int))):=by show _=_;unfold bQ;rw[hu,nP];rfl
    rw[<-nP] at FD;clear hv hrow hst hx hu nP;by_cases yZ:5<(sl:Int)-(n:Int)+(m:Int)
    ·have nA:Hid (R=(nodes,11)):=by
      show _=_;rw[NC.out,aL];rw[List.any_eq_true];exact⟨nodes[k],jk gP,by rw[<-qm.out,FF.out];exact decide_eq_true yZ⟩
     go_wp2_with fail;refine Calls.mono nQ.out ?_;rintro _ _ ⟨rfl,rfl⟩;go_wp2_with fail;refine Calls.mono FD.out ?_;rintro _ w6 ⟨v6,rfl,eL,rP⟩;obtain⟨a6,c6,rfl⟩:=aX eL;clear eL;go_wp2;go_ret;rw[nA.out];exact⟨rfl,gX.out _ (iO.trans ((hbr.trans (rP.mono ql)).mono iO.size))⟩
    ·have FJ:decide (5<(sl:Int)-(n:Int)+(m:Int))=false:=dY yZ
     have FC:Hid (bQ f n m x=false):=by show _=_;rw[FF.out];exact FJ
     go_wp2_with fail;refine Calls.mono nQ.out ?_;rintro _ _ ⟨rfl,rfl⟩;go_wp2_with fail;refine Calls.mono FD.out ?_;rintro _ w6 ⟨v6,rfl,eL,rP⟩;obtain⟨a6,c6,rfl⟩:=aX eL;clear eL;go_wp2;go_roundw
     case rel=>
      refine⟨k+1,by omega,by go_num,hbr.trans (rP.mono ql),fun j hj hjk=>?_⟩;by_cases e:j=k
      ·subst e;rw[<-qm.out];exact FC.out
      ·exact HV.out j hj (by omega)
     case measure=>simp[intOf];omega
  ·have DR:decide ((k:Int)<(N:Int))=false:=dY (by omega)
   have nA:Hid (R=((cF nodes t).map (aD f t),0)):=by
    show _=_;rw[NC.out,ay];rw[jB (fun j hj=>HV.out j hj (by have:=FB.out;omega))];decide
   have ND:Hid _:=qE hst HF.out t (by omega);have uR:Below w.heap.size w wr:=iO.trans (hbr.mono iO.size);rename World=>w6;have Wh:=uR.size;clear hst;go_wp2_with fail;refine Calls.mono ND.out ?_;rintro _ w7 ⟨rfl,⟨Wi,Wj,Wk,Wl,rQ⟩,Ir⟩;obtain⟨ns,NG⟩:∃ns,ns=cF nodes t:=⟨_,rfl⟩;have qo:=qG HF.out t;rw[<-NG] at rQ qo nA;have Wm:Hid (∀e ∈ ns,e.1.size<=2097152):=qo.2;have NH:Hid (dF (bq F w6 w7) w7 S Wi Wk Wj Wl ns data rest):=rQ;have NI:Hid (ax F w6 w7):=Ir;obtain⟨M,hM⟩:∃M,M=ns.length:=⟨_,rfl⟩;have Vx:M<=1000000000:=by rw[hM];exact qo.1
   have Aw:Hid (M=ns.length):=hM;clear rQ Ir NG qo hM ND;go_wp2
   go_loopw [22,23] (fun o i wr=>∃(k2:Nat) (ao:Option Addr) (co:Nat),k2<=M/\i=.int .i64 (k2:Int)/\o=.slice ao k2 co/\Below w7.heap.size w7 wr/\Hid (wr.ownsRow w7.heap.size 200 3 (.slice ao k2 co) k2 (flat ((ns.take k2).map (aD f t))))) (fun _ i _=>M-(intOf i).toNat)
   case atStart=>exact⟨0,none,0,dG _,rfl,rfl,Below.refl _ _,World.ownsRow_nil _ _ _ _⟩
   case round=>
    obtain⟨k2,ao,co,hk2,rfl,rfl,kC,HO⟩:=hrel;have hst:=NH.out.below kC;have k0:=hst.c0;have GD:=hst.lt;rw[<-Aw.out] at k0;have rR:=kC.size;by_cases x8:k2<M
    ·have gP:k2<ns.length:=by rw[<-Aw.out];exact x8
     have hrow:=hst.jW;obtain⟨g,c',hv⟩:=ak hrow (by omega);have ha:=(Value.slice.inj hv).1;subst ha;obtain⟨c0,c1,c2⟩:=bg (off:=0) (aQ hrow) gP;rw[Nat.zero_add] at c0 c1 c2;have fo:=ah hrow rfl;have lJ:=Wm.out _ (jk gP);obtain⟨x,hx⟩:∃x,x=ns[k2]:=⟨_,rfl⟩;rw[<-hx] at c0 c1 c2 lJ;have qm:Hid (x=ns[k2]):=hx;have uP:(k2:Int)<(M:Int):=by omega
     have nQ:Hid (∀W',Calls prog 161 #[.string x.1,.string f] W' fun e w'=>e=.returned (.bool (cD x.1 f))/\w'=W'):=fun W'=>dU x.1 f W' lJ (by omega);clear hv hrow hst hx;rename World=>wq;cases he:(x.1.toList == f.toList) with
     | true=>
      have u6:Hid (aD f t x=(t++x.1.extract f.size x.1.size,x.2.1,x.2.2)):=by show _=_;unfold aD;rw[aL (Or.inl he)]
      have Wn:f.size<=x.1.size:=by
       have:=congrArg List.length (eq_of_beq he)
       simp only[ByteArray.toList_eq,Array.length_toList] at this;exact Nat.le_of_eq this.symm
      have FK:(f.size:Int)<=(x.1.size:Int):=(by omega);go_wp2_with (at_builtin;refine wpList_append_own _ rfl (.tmp 188) (.tmp 190) 174 rfl w7.heap.size 200 i0 _ 3 32 underlying174 hi hz0 hz1 hz2 rfl (by decide) _ _ _ rfl ((HO.out.alloc _).alloc _) ⟨wq.heap.size+1,0,none⟩ 1 1 (bL (t++x.1.extract f.size x.1.size,x.2.1,x.2.2)) rfl rfl (bD (wq.alloc _) (t++x.1.extract f.size x.1.size,x.2.1,x.2.2) _ _ (by simp)) (bJ _) (by unfold maxLen;omega) (by omega) (by simp;omega) ?_);intro v' w9 hown' hgrow _;have qY:Below w7.heap.size w7 w9:=bX ((kC.alloc rR _).alloc (by simp;omega) _) (by simp;omega) ((HO.out.alloc _).alloc _) hgrow;obtain⟨nH,nI,rfl⟩:=aX hown';have xm:Hid (w9.ownsRow w7.heap.size 200 3 (.slice nH (k2+1) nI) (k2+1) (flat ((ns.take (k2+1)).map (aD f t)))):=by
       show World.ownsRow _ _ _ _ _ _ _;rw[qX gP,List.map_append,List.map_cons,List.map_nil,aZ,bp,<-qm.out,u6.out,List.map_take];exact hown'
      clear hown' hgrow;go_wp2;go_roundw
      case rel=>exact⟨k2+1,nH,nI,by omega,by go_num,rfl,qY,xm.out⟩
      case measure=>simp[intOf];omega
     | false=>
      cases hu:cD x.1 f with
      | true=>
       have u6:Hid (aD f t x=(t++x.1.extract f.size x.1.size,x.2.1,x.2.2)):=by show _=_;unfold aD;rw[aL (Or.inr hu)]
       have Wn:f.size<=x.1.size:=by have:=oZ hu;omega
       have FK:(f.size:Int)<=(x.1.size:Int):=(by omega);rw[hu] at nQ;clear hu;go_wp2_with fail;refine Calls.mono (nQ.out _) ?_;rintro _ _ ⟨rfl,rfl⟩;go_wp2_with (at_builtin;refine wpList_append_own _ rfl (.tmp 188) (.tmp 190) 174 rfl w7.heap.size 200 i0 _ 3 32 underlying174 hi hz0 hz1 hz2 rfl (by decide) _ _ _ rfl ((HO.out.alloc _).alloc _) ⟨wq.heap.size+1,0,none⟩ 1 1 (bL (t++x.1.extract f.size x.1.size,x.2.1,x.2.2)) rfl rfl (bD (wq.alloc _) (t++x.1.extract f.size x.1.size,x.2.1,x.2.2) _ _ (by simp)) (bJ _) (by unfold maxLen;omega) (by omega) (by simp;omega) ?_);intro v' w9 hown' hgrow _;have qY:Below w7.heap.size w7 w9:=bX ((kC.alloc rR _).alloc (by simp;omega) _) (by simp;omega) ((HO.out.alloc _).alloc _) hgrow;obtain⟨nH,nI,rfl⟩:=aX hown';have xm:Hid (w9.ownsRow w7.heap.size 200 3 (.slice nH (k2+1) nI) (k2+1) (flat ((ns.take (k2+1)).map (aD f t)))):=by
        show World.ownsRow _ _ _ _ _ _ _;rw[qX gP,List.map_append,List.map_cons,List.map_nil,aZ,bp,<-qm.out,u6.out,List.map_take];exact hown'
       clear hown' hgrow;go_wp2;go_roundw
       case rel=>exact⟨k2+1,nH,nI,by omega,by go_num,rfl,qY,xm.out⟩
       case measure=>simp[intOf];omega
      | false=>
       have u6:Hid (aD f t x=x):=by show _=_;unfold aD;rw[ay (by rw[he,hu];decide)]
       rw[hu] at nQ;clear hu;go_wp2_with fail;refine Calls.mono (nQ.out _) ?_;rintro _ _ ⟨rfl,rfl⟩;go_wp2_with (at_builtin;refine wpList_append_own _ rfl (.tmp 188) (.tmp 190) 174 rfl w7.heap.size 200 i0 _ 3 32 underlying174 hi hz0 hz1 hz2 rfl (by decide) _ _ _ rfl ((HO.out.alloc _).alloc _) ⟨wq.heap.size+1,0,none⟩ 1 1 (bL x) rfl rfl (bD (wq.alloc _) x _ _ (by simp)) (bJ _) (by unfold maxLen;omega) (by omega) (by simp;omega) ?_);intro v' w9 hown' hgrow _;have qY:Below w7.heap.size w7 w9:=bX ((kC.alloc rR _).alloc (by simp;omega) _) (by simp;omega) ((HO.out.alloc _).alloc _) hgrow;obtain⟨nH,nI,rfl⟩:=aX hown';have xm:Hid (w9.ownsRow w7.heap.size 200 3 (.slice nH (k2+1) nI) (k2+1) (flat ((ns.take (k2+1)).map (aD f t)))):=by
        show World.ownsRow _ _ _ _ _ _ _;rw[qX gP,List.map_append,List.map_cons,List.map_nil,aZ,bp,<-qm.out,u6.out,List.map_take];exact hown'
       clear hown' hgrow;go_wp2;go_roundw
       case rel=>exact⟨k2+1,nH,nI,by omega,by go_num,rfl,qY,xm.out⟩
       case measure=>simp[intOf];omega
    ·have Tb:decide ((k2:Int)<(M:Int))=false:=dY (by omega)
     have Li:Hid ((ns.take k2).map (aD f t)=ns.map (aD f t)):=by show _=_;rw[List.take_of_length_le (by have:=Aw.out;omega)]
     have Wo:Hid (k2=(ns.map (aD f t)).length):=by show _=_;rw[List.length_map];have:=Aw.out;omega
     rw[Li.out] at HO;have ET:wr.frozen? ⟨S,0,none⟩=false:=by simp[World.frozen?,hst.hS]
     have nO:Hid (b9 (bq F w (wr.setCell ⟨S,0,none⟩ (.slice ao k2 co))) (wr.setCell ⟨S,0,none⟩ (.slice ao k2 co)) S (ns.map (aD f t)) data rest/\ax F w (wr.setCell ⟨S,0,none⟩ (.slice ao k2 co))):=by
      obtain⟨⟨Pf,Pg,Ph,Pj,Ab⟩,IM⟩:=NH.out.qD kC Wo.out HO.out;have FM:=dr NI.out IM;exact⟨⟨Pf,Pg,Ph,Pj,Ab.keep (fun q hq=>by
       rcases ig NI.out.size IM.size hq with h | h
       ·exact .inl h
       ·exact .inr ⟨by omega,h.2⟩) (fun _ _=>rfl)⟩,ax.after FM uR⟩
     clear hst;go_wp2;go_ret;rw[nA.out];exact⟨rfl,nO.out⟩
end
end Go.Proofs.YtlgidcmmgohagaaGreat
