/- What is proved here: the oH own uv. -/
import Derived.Test.YtlgidcmmgohagaaGreatTreeM10
namespace Go.Proofs.YtlgidcmmgohagaaGreat
open Go.RowKit Go.Sort Go.Shelf Go.Proofs.Tryz
set_option linter.unusedVariables false
set_option maxRecDepth 100000
set_option maxHeartbeats 16000000
def iw (nodes:List aK)(l:List ByteArray)(i:Nat):Option Int:=if bU nodes (aj (l.take i))≠2 then some 5 else if bU nodes (aj (l.take (i+1)))=0 then some 4 else none
def eT (nodes:List aK)(l:List ByteArray):Int:=((List.range l.length).findSome? (iw nodes l)).getD 0
theorem S9 {nodes:List aK}{l:List ByteArray}(h:∀j,j<l.length->iw nodes l j=none):eT nodes l=0:=by
 unfold eT;rw[List.findSome?_eq_none_iff.2 (fun j hj=>h j (List.mem_range.1 hj))];rfl
theorem IC {nodes:List aK}{l:List ByteArray}{k:Nat}{e:Int}(hk:k<l.length)(h:∀j,j<k->iw nodes l j=none)(he:iw nodes l k=some e):eT nodes l=e:=by
 unfold eT;have e1:List.range l.length=List.range k++k :: (List.range (l.length-k-1)).map (k+1 + ·):=by
  have h1:=@List.range_add k (l.length-k);rw[show k+(l.length-k)=l.length by omega] at h1;rw[h1,show l.length-k=l.length-k-1+1 by omega,List.range_succ_eq_map,List.map_cons,List.map_map];simp only[Nat.add_zero,Nat.add_sub_cancel]
  congr 2
  refine List.map_congr_left fun x _=>?_;simp only[Function.comp];omega
 rw[e1,List.findSome?_append,List.findSome?_eq_none_iff.2 (fun j hj=>h j (List.mem_range.1 hj))];simp[he]
section
variable {F:Nat->Prop}{w:World}{S:Nat}{na da:Option Addr}{nc dc:Nat}{nodes:List aK}{data:List ByteArray}{rest:List Value}
theorem xl (h:dF F w S na da nc dc nodes data rest)(a:Option Addr)(m c:Nat)(l:List ByteArray)(hl:iQ w a m l)(hx:∀x ∈ l,x.size<=12)(hm:m<=2097152)(hc:m<=c)(jl:nodes.length<=1000000000):
  Calls prog 153 #[.pointer (some ⟨S,0,none⟩),.slice a m c] w fun e w'=>e=.returned (.int .i64 (eT nodes l))/\w'=w:=by
 have HL:Hid (iQ w a m l):=hl;have HK:Hid (∀p,Calls prog 155 #[.pointer (some ⟨S,0,none⟩),.string p] w fun e w'=>e=.returned (.int .i64 (bU nodes p))/\w'=w):=fun p=>oq h p jl;have HJ:Hid (∀k,k<=m->Calls prog 202 #[.slice a k c] w fun e w'=>e=.returned (.string (aj (l.take k)))/\w'=w):=fun k hk=>BL a k c (l.take k) w (hl.take k hk) (fun x rA=>hx x (List.mem_of_mem_take rA)) (by omega);clear hl hx h;go_enter func153,ntmps153;go_wp2
 go_loopw [5] (fun i wr=>∃k:Nat,k<=m/\i=.int .i64 (k:Int)/\wr=w/\Hid (∀j,j<k->iw nodes l j=none)) (fun i _=>m-(intOf i).toNat)
 case atStart=>exact⟨0,dG _,rfl,rfl,fun j h=>by omega⟩
 case round=>
  obtain⟨k,hk,rfl,rfl,HV⟩:=hrel;by_cases hlt:k<m
  ·have oG:k<l.length:=by rw[HL.out.1];exact hlt
   obtain⟨b,off,ha,hbl,_⟩:=HL.out.2 (by omega);subst ha;have uP:(k:Int)<(m:Int):=by omega
   have HJ1:=HJ.out k (by omega);have HJ2:=HJ.out (k+1) (by omega);have HK1:=HK.out (aj (l.take k));have ID:=HK.out (aj (l.take (k+1)));obtain⟨p1,Am⟩:∃p1,p1=aj (l.take k):=⟨_,rfl⟩;obtain⟨p2,CK⟩:∃p2,p2=aj (l.take (k+1)):=⟨_,rfl⟩;rw[<-Am] at HJ1 HK1;rw[<-CK] at HJ2 ID;obtain⟨v1,xQ⟩:∃v1,v1=bU nodes p1:=⟨_,rfl⟩;obtain⟨v2,hv2⟩:∃v2,v2=bU nodes p2:=⟨_,rfl⟩;rw[<-xQ] at HK1;rw[<-hv2] at ID;have HW:Hid (iw nodes l k=if v1≠2 then some 5 else if v2=0 then some 4 else none):=by show _=_;unfold iw;rw[xQ,hv2,Am,CK]
   have J1:Hid _:=HJ1;have J2:Hid _:=HJ2;have K1:Hid _:=HK1;have K2:Hid _:=ID;have Nz:(k:Int)<=(c:Int):=by omega
   have amO:(k:Int)+1<=(c:Int):=by omega
   clear Am CK xQ hv2 HJ1 HJ2 HK1 ID;by_cases h1:v1=2
   ·have Gx:(v1 != 2)=false:=by simp[h1]
    by_cases h2:v2=0
    ·have R9:(v2 == 0)=true:=by simp[h2]
     have HR:Hid (eT nodes l=4):=IC oG HV.out (by rw[HW.out,ay (by simp[h1]),aL h2]);clear h1 h2;go_wp2_with fail;refine Calls.mono J1.out ?_;rintro _ _ ⟨rfl,rfl⟩;go_wp2_with fail;refine Calls.mono K1.out ?_;rintro _ _ ⟨rfl,rfl⟩;go_wp2_with fail;refine Calls.mono J2.out ?_;rintro _ _ ⟨rfl,rfl⟩;go_wp2_with fail;refine Calls.mono K2.out ?_;rintro _ _ ⟨rfl,rfl⟩;go_wp2;go_ret;exact⟨by rw[HR.out];rfl,rfl⟩
    ·have R9:(v2 == 0)=false:=by simp[h2]
     have HN:Hid (iw nodes l k=none):=by show _=_;rw[HW.out,ay (by simp[h1]),ay h2]
     clear h1 h2;go_wp2_with fail;refine Calls.mono J1.out ?_;rintro _ _ ⟨rfl,rfl⟩;go_wp2_with fail;refine Calls.mono K1.out ?_;rintro _ _ ⟨rfl,rfl⟩;go_wp2_with fail;refine Calls.mono J2.out ?_;rintro _ _ ⟨rfl,rfl⟩;go_wp2_with fail;refine Calls.mono K2.out ?_;rintro _ _ ⟨rfl,rfl⟩;go_wp2;go_roundw
     case rel=>
      refine⟨k+1,by omega,by go_num,by trivial,fun j hj=>?_⟩;by_cases e:j=k
      ·subst e;exact HN.out
      ·exact HV.out j (by omega)
     case measure=>simp[intOf];omega
   ·have Gx:(v1 != 2)=true:=by simp[h1]
    have HR:Hid (eT nodes l=5):=IC oG HV.out (by rw[HW.out,aL h1]);clear h1;go_wp2_with fail;refine Calls.mono J1.out ?_;rintro _ _ ⟨rfl,rfl⟩;go_wp2_with fail;refine Calls.mono K1.out ?_;rintro _ _ ⟨rfl,rfl⟩;go_wp2;go_ret;exact⟨by rw[HR.out];rfl,rfl⟩
  ·have DR:decide ((k:Int)<(m:Int))=false:=dY (by omega)
   have HR:Hid (eT nodes l=0):=S9 (fun j hj=>HV.out j (by have:=HL.out.1;omega));go_wp2;go_ret;exact⟨by rw[HR.out];rfl,rfl⟩
end
theorem zn (s:ByteArray):∀x ∈ (aG s).1,aF x=true:=by
 unfold aG;split
 ·intro x hx;cases hx
 ·split
  ·next h=>exact h
  ·intro x hx;cases hx
theorem iC (s:ByteArray):∀x ∈ (aG s).1,x.size<=12:=fun x hx=>(eo (zn s x hx)).2
theorem jM (s:ByteArray):(aG s).1.length<=s.size+1:=by
 unfold aG;split
 ·exact dG _
 ·split
  ·exact IA s _
  ·exact dG _
def cO (p d:ByteArray):Bool:=decide (0<(aG p).1.length) && ((aj ((aG p).1.take ((aG p).1.length-1))).toList == d.toList)
theorem lZ {w:World}{b:Nat}{t:TypeId}{z:Nat}{a:Option Addr}{m c:Nat}{xs:List Value}(h:w.ownsRow b t z (.slice a m c) m xs):m<=c:=by
 rcases h.2 with ⟨e,h0⟩ | ⟨g,cap,_,e,_,_,h1,_⟩
 ·omega
 ·rw[(Value.slice.inj e).2.2];exact h1
theorem zo (p d:ByteArray)(w:World)(hp:p.size<=2097152):
  Calls prog 162 #[.string p,.string d] w fun e w'=>e=.returned (.bool (cO p d))/\Below w.heap.size w w':=by
 have hsp:=fU p w hp;have hsm:=iC p;have K4:=jM p;obtain⟨xs,rM⟩:∃xs,xs=(aG p).1:=⟨_,rfl⟩;have HI:Hid (cO p d=(decide (0<xs.length) && ((aj (xs.take (xs.length-1))).toList == d.toList))):=by show _=_;unfold cO;rw[rM]
 rw[<-rM] at hsp hsm K4;have HX:Hid (∀x ∈ xs,x.size<=12):=hsm;obtain⟨n,hn⟩:∃n,n=xs.length:=⟨_,rfl⟩;rw[<-hn] at hsp K4 HI;have HN:Hid (n=xs.length):=hn;have yE:Hid _:=hsp;clear hsp hsm rM hn;go_enter func162,ntmps162;go_wp2_with fail;refine Calls.mono yE.out ?_;rintro _ w1 ⟨v,rfl,hown,hb⟩;obtain⟨al,cl,rfl⟩:=aX hown;have IE:=lZ hown;have HO:Hid _:=hown;clear hown yE;by_cases h0:0<n
 ·have h0':0<(n:Int):=by omega
  obtain⟨m,hm⟩:∃m:Nat,n=m+1:=⟨n-1,by omega⟩;have hj:=BL al m cl (xs.take m) w1 (iQ.take (fH HO.out) m (by omega)) (fun x hx=>HX.out x (List.mem_of_mem_take hx)) (by omega);have HJ:Hid _:=hj;obtain⟨g,c',hv⟩:=ak HO.out h0;have ha:=(Value.slice.inj hv).1;subst ha;have HR:Hid (cO p d=((aj (xs.take m)).toList == d.toList)):=by show _=_;rw[HI.out,decide_eq_true h0,show n-1=m by omega];rfl
  have hmi:(n:Int)-1=(m:Int):=by omega
  have hmc:(m:Int)<=(cl:Int):=by omega
  clear hj hv hm;go_wp2_with fail;refine Calls.mono HJ.out ?_;rintro _ _ ⟨rfl,rfl⟩;go_wp2;go_ret;exact⟨by rw[HR.out];rfl,hb⟩
 ·have h0':decide (0<(n:Int))=false:=dY (by omega)
  have HR:Hid (cO p d=false):=by show _=_;rw[HI.out,dY h0];rfl
  go_wp2;go_ret;exact⟨by rw[HR.out];rfl,hb⟩
def oW (p:ByteArray):ByteArray:=(aG p).1.getD ((aG p).1.length-1) ⟨#[]⟩
def aT (nodes:List aK)(d:ByteArray):List aK:=(nodes.filter (fun e=>cO e.1 d)).map (fun e=>(oW e.1,0,0))
def eB (nodes:List aK)(d:ByteArray):List ByteArray:=(fF (aT nodes d)).map (·.1)
theorem C5 {nodes:List aK}{d:ByteArray}{k:Nat}(hk:k<nodes.length)(h:cO nodes[k].1 d=true):aT (nodes.take (k+1)) d=aT (nodes.take k) d ++ [(oW nodes[k].1,0,0)]:=by
 unfold aT;rw[qX hk,List.filter_append,List.map_append];simp[h]
theorem BM {nodes:List aK}{d:ByteArray}{k:Nat}(hk:k<nodes.length)(h:cO nodes[k].1 d=false):aT (nodes.take (k+1)) d=aT (nodes.take k) d:=by
 unfold aT;rw[qX hk,List.filter_append,List.map_append];simp[h]
theorem IG (nodes:List aK)(d:ByteArray):∀e ∈ aT nodes d,e.1.size<=maxLen:=by
 intro e he;obtain⟨x,_,rfl⟩:=List.mem_map.1 he;show (oW x.1).size<=maxLen;unfold oW;rw[List.getD_eq_getElem?_getD];cases hx:(aG x.1).1[(aG x.1).1.length-1]? with
 | none=>exact dG _
 | some y=>have:=iC x.1 y (List.mem_of_getElem? hx);exact eU this (by decide)
section
variable {F:Nat->Prop}{w:World}{S:Nat}{na da:Option Addr}{nc dc:Nat}{nodes:List aK}{data:List ByteArray}{rest:List Value}
theorem D6 (h:dF F w S na da nc dc nodes data rest)(d:ByteArray)(jl:nodes.length<=1000000000)(hp:∀e ∈ nodes,e.1.size<=2097152)(jS:(aT nodes d).length<=16):
  Calls prog 156 #[.pointer (some ⟨S,0,none⟩),.string d] w fun e w'=>∃v,e=.returned v/\w'.ownsRow w.heap.size 9 1 v (eB nodes d).length (gM (eB nodes d))/\Below w.heap.size w w':=by
 obtain⟨iI,hI,Ho,J5,Si⟩:=info_parts wE;obtain⟨i0,hi,hz0,hz1,hz2⟩:=info_parts tq;have HS:Hid (dF F w S na da nc dc nodes data rest):=h;have HP:Hid (∀e ∈ nodes,e.1.size<=2097152):=hp;have H16:Hid ((aT nodes d).length<=16):=jS;obtain⟨n,hn⟩:∃n,n=nodes.length:=⟨_,rfl⟩;have HN:Hid (n=nodes.length):=hn;rw[<-hn] at jl;clear h hp jS hn;go_enter func156,ntmps156;go_wp2
 go_loopw [5,6] (fun l i wr=>∃(k q:Nat) (al:Option Addr) (cl:Nat),k<=n/\i=.int .i64 (k:Int)/\l=.slice al q cl/\q<=k/\Below w.heap.size w wr/\Hid (q=(aT (nodes.take k) d).length)/\Hid (wr.ownsRow w.heap.size 112 3 (.slice al q cl) q (flat (aT (nodes.take k) d)))) (fun _ i _=>n-(intOf i).toNat)
 case atStart=>exact⟨0,0,none,0,dG _,rfl,rfl,bA _,Below.refl _ _,rfl,World.ownsRow_nil _ _ _ _⟩
 case round=>
  obtain⟨k,q,al,cl,hk,rfl,rfl,hqk,hb,HQ,HO⟩:=hrel;have hst:=HS.out.below hb;have k0:=hst.c0;have GD:=hst.lt;rw[<-HN.out] at k0;have hsz:=hb.size;by_cases hlt:k<n
  ·have gP:k<nodes.length:=by rw[<-HN.out];exact hlt
   have hrow:=hst.jW;obtain⟨g,c',hv⟩:=ak hrow (by omega);have ha:=(Value.slice.inj hv).1;subst ha;obtain⟨c0,_,_⟩:=bg (off:=0) (aQ hrow) gP;rw[Nat.zero_add] at c0;have fo:=ah hrow rfl;have lJ:=HP.out _ (jk gP);obtain⟨p,NA⟩:∃p,p=nodes[k].1:=⟨_,rfl⟩;rw[<-NA] at c0 lJ;have lV:=zo p d wr lJ;have uP:(k:Int)<(n:Int):=by omega
   cases vn:cO p d with
   | false=>
    rw[vn] at lV;have J8:Hid _:=lV;have SR:Hid (aT (nodes.take (k+1)) d=aT (nodes.take k) d):=BM gP (by rw[<-NA];exact vn);clear lV vn NA hv hrow hst;go_wp2_with fail;refine Calls.mono J8.out ?_;rintro _ w2 ⟨rfl,hb2⟩;have iG:Below w.heap.size w w2:=hb.trans (hb2.mono hsz);have X0:Hid (w2.ownsRow w.heap.size 112 3 (.slice al q cl) q (flat (aT (nodes.take (k+1)) d))):=by show World.ownsRow _ _ _ _ _ _ _;rw[SR.out];exact ai HO.out (fun g hg=>hb2.block g (ah HO.out hg))
    go_wp2;go_roundw
    case rel=>exact⟨k+1,q,al,cl,by omega,by go_num,rfl,by omega,iG,by show _=_;rw[SR.out];exact HQ.out,X0.out⟩
    case measure=>simp[intOf];omega
   | true=>
    rw[vn] at lV;have J8:Hid _:=lV;have SR:Hid (aT (nodes.take (k+1)) d=aT (nodes.take k) d ++ [(oW p,0,0)]):=by show _=_;rw[C5 gP (by rw[<-NA];exact vn),NA]
    have h0:0<(aG p).1.length:=by unfold cO at vn;rw[Bool.and_eq_true] at vn;exact of_decide_eq_true vn.1
    have HST:Hid (dF F wr S (some ⟨g,0,none⟩) da nc dc nodes data rest):=hst;clear lV vn NA hv hrow hst;go_wp2_with fail;refine Calls.mono J8.out ?_;rintro _ w2 ⟨rfl,hb2⟩;have iG:Below w.heap.size w w2:=hb.trans (hb2.mono hsz);have k02:=(hb2.cell (p:=⟨S,0,none⟩) GD).trans k0;have c02:=(hb2.cell (p:=⟨g,k*3,none⟩) fo).trans c0;have Ow:=hb2.size;have yE:Hid _:=fU p w2 lJ;go_wp2_with fail;refine Calls.mono yE.out ?_;rintro _ w3 ⟨v,rfl,jq,hb3⟩;obtain⟨asl,csl,rfl⟩:=aX jq;obtain⟨gs,c'',hv⟩:=ak jq h0;have ha:=(Value.slice.inj hv).1;subst ha;obtain⟨m,hm⟩:∃m:Nat,(aG p).1.length=m+1:=⟨(aG p).1.length-1,by omega⟩;have Yi:Hid (oW p=(aG p).1[m]):=by show _=_;unfold oW;rw[List.getD_eq_getElem?_getD,show (aG p).1.length-1=m by omega,kO (by omega)];rfl
    obtain⟨g',e',hgs,cs0,_⟩:=row_one (cL jq (dG _)) (i:=m) (v:=.string (oW p)) (by rw[Yi.out];simp[gM,hm]);cases e';obtain⟨y,hy⟩:∃y,y=oW p:=⟨_,rfl⟩;rw[<-hy] at cs0;have HY:Hid (y=oW p):=hy;obtain⟨sl,nP⟩:∃sl,sl=(aG p).1.length:=⟨_,rfl⟩;have ag5:sl=m+1:=by omega
    have Ta:sl<=2097153:=by have:=jM p;omega
    rw[<-nP];have hmi:(sl:Int)-1=(m:Int):=by omega
    have hms:(m:Int)<(sl:Int):=(by omega);have XY:Hid (w3.ownsRow w.heap.size 112 3 (.slice al q cl) q (flat (aT (nodes.take k) d))):=ai HO.out (fun x hx=>by have:=ah HO.out hx;rw[hb3.block x (by omega),hb2.block x this]);have Kt:Below w.heap.size w w3:=iG.trans (hb3.mono (by omega));have rO:=hb3.size;clear Yi jq hv hm hy nP ag5 yE J8;go_wp2_with (at_builtin;refine wpList_append_own _ rfl (.tmp 44) (.tmp 52) 106 rfl w.heap.size 112 iI _ 3 32 underlying106 hI Ho J5 Si rfl (by decide) _ _ _ rfl (XY.out.alloc _) ⟨w3.heap.size,0,none⟩ 1 1 (bL (y,0,0)) rfl rfl (bD w3 (y,0,0) _ _ rfl) (bJ _) (by unfold maxLen;omega) (by omega) (by simp;omega) ?_);intro v' w4 hown' hgrow _;have hb4:Below w.heap.size w w4:=bX (Kt.alloc (by omega) _) (by simp;omega) (XY.out.alloc _) hgrow;obtain⟨Nw,Nx,rfl⟩:=aX hown';have Zk:Hid (w4.ownsRow w.heap.size 112 3 (.slice Nw (q+1) Nx) (q+1) (flat (aT (nodes.take (k+1)) d))):=by show World.ownsRow _ _ _ _ _ _ _;rw[SR.out,aZ,bp,<-HY.out];exact hown'
    clear hown' hgrow;go_wp2;go_roundw
    case rel=>exact⟨k+1,q+1,Nw,Nx,by omega,by go_num,rfl,by omega,hb4,by show _=_;rw[SR.out,HQ.out];simp,Zk.out⟩
    case measure=>simp[intOf];omega
  ·have qs:k=n:=by omega
   have HT:Hid (nodes.take k=nodes):=List.take_of_length_le (by have:=HN.out;omega);rw[HT.out] at HQ HO;have ag6:q<=16:=by have:=H16.out;rw[<-HQ.out] at this;exact this
   have Rs:=A9 al q cl (aT nodes d) wr (fh HO.out) ag6 (IG nodes d);have HSO:Hid _:=Rs;have DR:decide ((k:Int)<(n:Int))=false:=dY (by omega);rename World=>w5;clear Rs hst qs;go_wp2_with fail;refine Calls.mono HSO.out ?_;rintro _ w6 ⟨v,rfl,eL,rP⟩;obtain⟨asl,csl,rfl⟩:=aX eL;have HO6:Hid _:=eL;have ag7:Below w.heap.size w w6:=hb.trans (rP.mono hsz);have ag8:=rP.size;clear eL HSO;obtain⟨xs,rM⟩:∃xs,xs=fF (aT nodes d):=⟨_,rfl⟩;rw[<-rM] at HO6;have Vr:Hid (eB nodes d=xs.map (·.1)):=by show _=_;unfold eB;rw[rM]
   have HXL:Hid (xs.length=q):=by show _=_;have:=HO6.out.1;rw[bl] at this;omega
   clear rM;go_wp2
   go_loopw [10,11] (fun o i wr=>∃(j:Nat) (ao:Option Addr) (co:Nat),j<=q/\i=.int .i64 (j:Int)/\o=.slice ao j co/\Below w6.heap.size w6 wr/\Hid (wr.ownsRow w6.heap.size 9 1 (.slice ao j co) j (gM ((xs.take j).map (·.1))))) (fun _ i _=>q-(intOf i).toNat)
   case atStart=>exact⟨0,none,0,dG _,rfl,rfl,Below.refl _ _,World.ownsRow_nil _ _ _ _⟩
   case round=>
    obtain⟨j,ao,co,hj,rfl,rfl,hbr,HOO⟩:=hrel;have ql:=hbr.size;by_cases lU:j<q
    ·have hjx:j<xs.length:=by rw[HXL.out];exact lU
     obtain⟨gx,cx,hvx⟩:=ak HO6.out (by omega);have hax:=(Value.slice.inj hvx).1;subst hax;have hgx:gx<w6.heap.size:=ah HO6.out rfl;obtain⟨x0,_,_⟩:=bg (off:=0) (aQ HO6.out) hjx;rw[Nat.zero_add] at x0;have x0r:=(hbr.cell (p:=⟨gx,j*3,none⟩) hgx).trans x0;have amV:gx<wr.heap.size:=by omega
     obtain⟨y,hy⟩:∃y,y=xs[j].1:=⟨_,rfl⟩;rw[<-hy] at x0r;have HY:Hid (y=xs[j].1):=hy;have hjq:(j:Int)<(q:Int):=by omega
     clear x0 hvx hy;go_wp2_with (at_builtin;refine wpList_append_own _ rfl (.tmp 62) (.tmp 68) 131 rfl w6.heap.size 9 i0 _ 1 16 underlying131 hi hz0 hz1 hz2 rfl (by decide) _ _ _ rfl (HOO.out.alloc _) ⟨wr.heap.size,0,none⟩ 1 1 [.string y] rfl rfl (one_cell _ _ _ _ rfl) Av (by unfold maxLen;omega) (by omega) (by simp;omega) ?_);intro v' w7 hown' hgrow _;have Yj:Below w6.heap.size w6 w7:=bX (hbr.alloc ql _) (by simp;omega) (HOO.out.alloc _) hgrow;obtain⟨nH,nI,rfl⟩:=aX hown';have HO7:Hid (w7.ownsRow w6.heap.size 9 1 (.slice nH (j+1) nI) (j+1) (gM ((xs.take (j+1)).map (·.1)))):=by
      show World.ownsRow _ _ _ _ _ _ _;rw[qX hjx,List.map_append,gM,List.map_append,List.map_cons,List.map_nil,List.map_cons,List.map_nil,<-HY.out,List.map_take];exact hown'
     clear hown' hgrow;go_wp2;go_roundw
     case rel=>exact⟨j+1,nH,nI,by omega,by go_num,rfl,Yj,HO7.out⟩
     case measure=>simp[intOf];omega
    ·have Tb:decide ((j:Int)<(q:Int))=false:=dY (by omega)
     have HJQ:Hid (j=q):=by show _=_;omega
     have HTT:Hid ((xs.take j).map (·.1)=eB nodes d):=by show _=_;rw[Vr.out,List.take_of_length_le (by rw[HXL.out];omega)]
     have HLN:Hid ((eB nodes d).length=j):=by show _=_;rw[Vr.out,List.length_map,HXL.out,HJQ.out]
     go_wp2;go_ret;refine⟨.slice ao j co,rfl,?_,ag7.trans (hbr.mono (by omega))⟩;rw[HLN.out,<-HTT.out];exact cL HOO.out (by omega)
end
structure nJ (nodes:List aK)(data:List ByteArray):Prop where
 big:nodes.length<=1000000000
 small:∀e ∈ nodes,e.1.size<=2097152
 few:∀d,(aT nodes d).length<=16
 files:∀e ∈ nodes,e.2.1=1->0<=e.2.2/\e.2.2<(data.length:Int)
theorem Lc (ls:List aK):(fF ls).length=ls.length:=(jt ls).length_eq
theorem ot (nodes:List aK)(d:ByteArray):(eB nodes d).length=(aT nodes d).length:=by
 unfold eB;rw[List.length_map,Lc]
def xU (nodes:List aK)(l:List ByteArray):Int:=
 if eT nodes (l.take (l.length-1))≠0 then eT nodes (l.take (l.length-1)) else if bU nodes (aj (l.take (l.length-1)))≠2 then 5 else 0
def fA (nodes:List aK)(p:ByteArray):List ByteArray×Int:=
 if (aG p).2=false then ([],1) else if eT nodes (aG p).1≠0 then ([],eT nodes (aG p).1) else if bU nodes p≠2 then ([],5) else (eB nodes p,0)
section
variable {F:Nat->Prop}{w:World}{S:Nat}{na da:Option Addr}{nc dc:Nat}{nodes:List aK}{data:List ByteArray}{rest:List Value}
theorem tv (h:dF F w S na da nc dc nodes data rest)(hf:nJ nodes data)(d:ByteArray):
  Calls prog 154 #[.pointer (some ⟨S,0,none⟩),.string d] w fun e w'=>e=.returned (.int .i64 ((aT nodes d).length:Int))/\Below w.heap.size w w':=by
 have hn:=D6 h d hf.big hf.small (hf.few d);rw[ot] at hn;obtain⟨n,Ao⟩:∃n,n=(aT nodes d).length:=⟨_,rfl⟩;rw[<-Ao] at hn ⊢;have HN:Hid _:=hn;clear hn h hf Ao;go_enter func154,ntmps154;go_wp2_with fail;refine Calls.mono HN.out ?_;rintro _ w1 ⟨v,rfl,hown,hb⟩;obtain⟨al,cl,rfl⟩:=aX hown;clear hown;go_wp2;go_ret;exact⟨rfl,hb⟩
theorem Tc (h:dF F w S na da nc dc nodes data rest)(hf:nJ nodes data)(a:Option Addr)(m c:Nat)(l:List ByteArray)(hl:iQ w a m l)(hx:∀x ∈ l,x.size<=12)(hm:m<=2097152)(h0:0<m)(hc:m<=c):
  Calls prog 158 #[.pointer (some ⟨S,0,none⟩),.slice a m c] w fun e w'=>e=.returned (.tuple #[.string (aj (l.take (l.length-1))),.int .i64 (xU nodes l)])/\w'=w:=by
 obtain⟨b,off,ha,hbl,_⟩:=hl.2 h0;subst ha;obtain⟨k,hk⟩:∃k:Nat,m=k+1:=⟨m-1,by omega⟩;have hj:=BL (some ⟨b,off,none⟩) k c (l.take k) w (hl.take k (by omega)) (fun x rA=>hx x (List.mem_of_mem_take rA)) (by omega);have hw:=xl h (some ⟨b,off,none⟩) k c (l.take k) (hl.take k (by omega)) (fun x rA=>hx x (List.mem_of_mem_take rA)) (by omega) (by omega) hf.big;have lM:=oq h (aj (l.take k)) hf.big;have hlk:l.length-1=k:=by have:=hl.1;omega
 have HU:Hid (xU nodes l=if eT nodes (l.take k)≠0 then eT nodes (l.take k) else if bU nodes (aj (l.take k))≠2 then 5 else 0):=by show _=_;unfold xU;rw[hlk]
 rw[hlk];obtain⟨p,hp⟩:∃p,p=aj (l.take k):=⟨_,rfl⟩;obtain⟨e,he⟩:∃e,e=eT nodes (l.take k):=⟨_,rfl⟩;rw[<-hp] at hj lM HU ⊢;obtain⟨v,hv⟩:∃v,v=bU nodes p:=⟨_,rfl⟩;rw[<-he] at hw HU;rw[<-hv] at lM HU;have HJ:Hid _:=hj;have HW:Hid _:=hw;have HK:Hid _:=lM;have hmi:(m:Int)-1=(k:Int):=by omega
 have Nz:(k:Int)<=(c:Int):=by omega
 clear hj hw lM hp he hv hlk hl hx h hf hk;by_cases h1:e=0
 ·have Gx:(e != 0)=false:=by simp[h1]
  by_cases h2:v=2
  ·have R9:(v != 2)=false:=by simp[h2]
   have HR:Hid (xU nodes l=0):=by show _=_;rw[HU.out,ay (by simp[h1]),ay (by simp[h2])]
   clear h1 h2;go_enter func158,ntmps158;go_wp2_with fail;refine Calls.mono HJ.out ?_;rintro _ _ ⟨rfl,rfl⟩;go_wp2_with fail;refine Calls.mono HW.out ?_;rintro _ _ ⟨rfl,rfl⟩;go_wp2_with fail;refine Calls.mono HK.out ?_;rintro _ _ ⟨rfl,rfl⟩;go_wp2;go_ret2;exact⟨by rw[HR.out];rfl,rfl⟩
  ·have R9:(v != 2)=true:=by simp[h2]
   have HR:Hid (xU nodes l=5):=by show _=_;rw[HU.out,ay (by simp[h1]),aL h2]
   clear h1 h2;go_enter func158,ntmps158;go_wp2_with fail;refine Calls.mono HJ.out ?_;rintro _ _ ⟨rfl,rfl⟩;go_wp2_with fail;refine Calls.mono HW.out ?_;rintro _ _ ⟨rfl,rfl⟩;go_wp2_with fail;refine Calls.mono HK.out ?_;rintro _ _ ⟨rfl,rfl⟩;go_wp2;go_ret2;exact⟨by rw[HR.out];rfl,rfl⟩
 ·have Gx:(e != 0)=true:=by simp[h1]
  have HR:Hid (xU nodes l=e):=by show _=_;rw[HU.out,aL h1]
  clear h1;go_enter func158,ntmps158;go_wp2_with fail;refine Calls.mono HJ.out ?_;rintro _ _ ⟨rfl,rfl⟩;go_wp2_with fail;refine Calls.mono HW.out ?_;rintro _ _ ⟨rfl,rfl⟩;go_wp2;go_ret2;exact⟨by rw[HR.out];rfl,rfl⟩
theorem iR {s:ByteArray}(h:(aG s).2=true):(aG s).1.length<=5:=by
 unfold aG at h ⊢;split at h
 ·next h0=>rw[aL h0];exact dG _
 ·next h0=>
  rw[ay h0];split at h
  ·next h1=>rw[aL h1];exact of_decide_eq_true h
  ·cases h
theorem Pd (h:dF F w S na da nc dc nodes data rest)(hf:nJ nodes data)(p:ByteArray)(hp:p.size<=2097152):
  Calls prog 91 #[.pointer (some ⟨S,0,none⟩),.string p] w fun e w'=>∃v,e=.returned (.tuple #[v,.int .i64 (fA nodes p).2])/\w'.ownsRow w.heap.size 9 1 v (fA nodes p).1.length (gM (fA nodes p).1)/\Below w.heap.size w w':=by
 have hsp:=fU p w hp;have HX:=iC p;cases cz:(aG p).2 with
 | false=>
  have HR:Hid (fA nodes p=([],1)):=by show _=_;unfold fA;rw[aL cz]
  rw[cz] at hsp;have yE:Hid _:=hsp;clear hsp cz h hf;go_enter func91,ntmps91;go_wp2_with fail;refine Calls.mono yE.out ?_;rintro _ w1 ⟨v,rfl,hown,hb⟩;clear hown;go_wp2;go_ret2;rw[HR.out];exact⟨_,rfl,World.ownsRow_nil _ _ _ _,hb⟩
 | true=>
  have h5:=iR cz;rw[cz] at hsp;obtain⟨xs,rM⟩:∃xs,xs=(aG p).1:=⟨_,rfl⟩;have HL:Hid (fA nodes p=if eT nodes xs≠0 then ([],eT nodes xs) else if bU nodes p≠2 then ([],5) else (eB nodes p,0)):=by show _=_;unfold fA;rw[ay (by rw[cz];decide),rM]
  rw[<-rM] at hsp HX h5;have S7:Hid (∀x ∈ xs,x.size<=12):=HX;have HST:Hid (dF F w S na da nc dc nodes data rest):=h;have HF:Hid (nJ nodes data):=hf;obtain⟨n,hn⟩:∃n,n=xs.length:=⟨_,rfl⟩;rw[<-hn] at hsp h5;have yE:Hid _:=hsp;clear hsp cz rM HX h hf hn;go_enter func91,ntmps91;go_wp2_with fail;refine Calls.mono yE.out ?_;rintro _ w1 ⟨v,rfl,hown,hb⟩;obtain⟨al,cl,rfl⟩:=aX hown;have IE:=lZ hown;have lK:=HST.out.below hb;have hw:=xl lK al n cl xs (fH hown) S7.out (by omega) IE HF.out.big;have lM:=oq lK p HF.out.big;have hna:=D6 lK p HF.out.big HF.out.small (HF.out.few p);obtain⟨e,he⟩:∃e,e=eT nodes xs:=⟨_,rfl⟩;obtain⟨kd,qs⟩:∃kd,kd=bU nodes p:=⟨_,rfl⟩;rw[<-he] at hw HL;rw[<-qs] at lM HL;have HW:Hid _:=hw;have HK:Hid _:=lM;have HNA:Hid _:=hna;have Rc:=hb.size;clear hw lM hna he qs hown lK yE;by_cases h1:e=0
  ·have Gx:(e != 0)=false:=by simp[h1]
   by_cases h2:kd=2
   ·have R9:(kd != 2)=false:=by simp[h2]
    have HR:Hid (fA nodes p=(eB nodes p,0)):=by show _=_;rw[HL.out,ay (by simp[h1]),ay (by simp[h2])]
    clear h1 h2;go_wp2_with fail;refine Calls.mono HW.out ?_;rintro _ _ ⟨rfl,rfl⟩;go_wp2_with fail;refine Calls.mono HK.out ?_;rintro _ _ ⟨rfl,rfl⟩;go_wp2_with fail;refine Calls.mono HNA.out ?_;rintro _ w2 ⟨v,rfl,hown2,hb2⟩;have X0:Hid _:=hown2;clear hown2;go_wp2;go_ret2;rw[HR.out];exact⟨v,rfl,cL X0.out Rc,hb.trans (hb2.mono Rc)⟩
   ·have R9:(kd != 2)=true:=by simp[h2]
    have HR:Hid (fA nodes p=([],5)):=by show _=_;rw[HL.out,ay (by simp[h1]),aL h2]
    clear h1 h2;go_wp2_with fail;refine Calls.mono HW.out ?_;rintro _ _ ⟨rfl,rfl⟩;go_wp2_with fail;refine Calls.mono HK.out ?_;rintro _ _ ⟨rfl,rfl⟩;go_wp2;go_ret2;rw[HR.out];exact⟨_,rfl,World.ownsRow_nil _ _ _ _,hb⟩
  ·have Gx:(e != 0)=true:=by simp[h1]
   have HR:Hid (fA nodes p=([],e)):=by show _=_;rw[HL.out,aL h1]
   clear h1;go_wp2_with fail;refine Calls.mono HW.out ?_;rintro _ _ ⟨rfl,rfl⟩;go_wp2;go_ret2;rw[HR.out];exact⟨_,rfl,World.ownsRow_nil _ _ _ _,hb⟩
end
def cD (p t:ByteArray):Bool:=if h:t.size+1<p.size then ((p.extract 0 t.size).toList == t.toList) && decide (p[t.size]'(by omega)=47) else false
def cF (nodes:List aK)(p:ByteArray):List aK:=nodes.filter (fun e=>!(e.1.toList == p.toList) && !(cD e.1 p))
theorem dU (p t:ByteArray)(w:World)(hp:p.size<=2097152)(ht:t.size<=2097152):
  Calls prog 161 #[.string p,.string t] w fun e w'=>e=.returned (.bool (cD p t))/\w'=w:=by
 by_cases h1:t.size+1<p.size
 ·have Gx:(t.size:Int)+1<(p.size:Int):=by omega
  have hle:(t.size:Int)<=(p.size:Int):=by omega
  have hlt:(t.size:Int)<(p.size:Int):=by omega
  have amZ:t.size<p.size:=by omega
  cases h2:((p.extract 0 t.size).toList == t.toList) with
  | true=>
   by_cases h3:p[t.size]=47
   ·have V7:((p[t.size].toNat:Int) == 47)=true:=by rw[h3];rfl
    have HR:Hid (cD p t=true):=by show _=_;unfold cD;rw[dif_pos h1,h2,decide_eq_true h3];rfl
    clear h3;go_enter func161,ntmps161;go_wp2;go_ret;exact⟨by rw[HR.out];rfl,rfl⟩
   ·have V7:((p[t.size].toNat:Int) == 47)=false:=beq_eq_false_iff_ne.2 fun e=>h3 (UInt8.toNat_inj.1 (by have:(47:UInt8).toNat=47:=rfl;omega))
    have HR:Hid (cD p t=false):=by show _=_;unfold cD;rw[dif_pos h1,h2,dY h3];rfl
    clear h3;go_enter func161,ntmps161;go_wp2;go_ret;exact⟨by rw[HR.out];rfl,rfl⟩
  | false=>
   have HR:Hid (cD p t=false):=by show _=_;unfold cD;rw[dif_pos h1,h2];rfl
   go_enter func161,ntmps161;go_wp2;go_ret;exact⟨by rw[HR.out];rfl,rfl⟩
 ·have Gx:decide ((t.size:Int)+1<(p.size:Int))=false:=dY (by omega)
  have HR:Hid (cD p t=false):=by show _=_;unfold cD;rw[dif_neg h1]
  go_enter func161,ntmps161;go_wp2;go_ret;exact⟨by rw[HR.out];rfl,rfl⟩
def b9 (F:Nat->Prop)(w:World)(S:Nat)(nodes:List aK)(data:List ByteArray)(rest:List Value):Prop:=∃na nc da dc,dF F w S na da nc dc nodes data rest
theorem Fz {nodes:List aK}{p:ByteArray}{k:Nat}(hk:k<nodes.length)(h:(!(nodes[k].1.toList == p.toList) && !(cD nodes[k].1 p))=true):cF (nodes.take (k+1)) p=cF (nodes.take k) p ++ [nodes[k]]:=by
 unfold cF;rw[qX hk,List.filter_append];simp only[List.filter_cons,h,if_true,List.filter_nil]
theorem u5 {nodes:List aK}{p:ByteArray}{k:Nat}(hk:k<nodes.length)(h:(!(nodes[k].1.toList == p.toList) && !(cD nodes[k].1 p))=false):cF (nodes.take (k+1)) p=cF (nodes.take k) p:=by
 unfold cF;rw[qX hk,List.filter_append];simp[h]
theorem tC:(prog.info? 200).map (fun i=>(i.zero,i.size,i.bytes))=some (some (.agg #[.string ByteArray.empty,.int .i64 0,.int .i64 0]),3,32):=by kernel_rfl
section
variable {F:Nat->Prop}{w:World}{S:Nat}{na da:Option Addr}{nc dc:Nat}{nodes:List aK}{data:List ByteArray}{rest:List Value}
theorem dF.qD (h:dF F w S na da nc dc nodes data rest){wr:World}(hb:Below w.heap.size w wr){ao:Option Addr}{q co:Nat}{ns:List aK}(hq:q=ns.length)(ho:wr.ownsRow w.heap.size 200 3 (.slice ao q co) q (flat ns)):
  b9 (bq F w (wr.setCell ⟨S,0,none⟩ (.slice ao q co))) (wr.setCell ⟨S,0,none⟩ (.slice ao q co)) S ns data rest/\ax F w (wr.setCell ⟨S,0,none⟩ (.slice ao q co)):=by
 subst hq;have hSr:wr.heap[S]? = some (.cells (Value.slice na nodes.length nc :: Value.slice da data.length dc :: rest).toArray 179 (0,0)):=(hb.block S h.lt).trans h.hS;have hz:=hb.size;have hne:∀{t:TypeId} {b z n:Nat} {v:Value} {xs:List Value},wr.ownsRow b t z v n xs->179≠t->∀g,v.ownBlock=some g->g≠S:=fun hr ht g hg e=>aA hr hSr ht (by rw[<-e];exact hg.symm)
 refine⟨⟨ao,co,da,dc,⟨.inl h.fS,?_,?_,?_,?_,?_⟩⟩,⟨hb.os,hb.tape,hb.output,by simpa using hz,fun k hk hn=>?_⟩⟩
 ·simp[World.setCell,Array.getElem?_modify,hSr]
 ·exact cL (ai ho (fun g hg=>Below.heap_setCell _ _ _ _ (hne ho (by decide) g hg))) (dG _)
 ·have hd:=ai h.ny (fun g hg=>hb.block g (ah h.ny hg))
  exact ai hd (fun g hg=>Below.heap_setCell _ _ _ _ (hne hd (by decide) g hg))
 ·intro g hg
  have:=ho.lt g hg
  exact .inr ⟨this.1,by simpa using this.2⟩
 ·intro g hg;exact .inl (h.fd g hg)
 ·rw[Below.heap_setCell _ _ _ _ (fun e=>hn (by rw[show k=S from e];exact h.fS)),hb.block k hk]
theorem qE (h:dF F w S na da nc dc nodes data rest)(hf:nJ nodes data)(p:ByteArray)(hp:p.size<=2097152):
  Calls prog 160 #[.pointer (some ⟨S,0,none⟩),.string p] w fun e w'=>e=.returned (.tuple #[])/\b9 (bq F w w') w' S (cF nodes p) data rest/\ax F w w':=by
 obtain⟨i0,hi,hz0,hz1,hz2⟩:=info_parts tC;have HS:Hid (dF F w S na da nc dc nodes data rest):=h;have HF:Hid (nJ nodes data):=hf;obtain⟨n,hn⟩:∃n,n=nodes.length:=⟨_,rfl⟩;have HN:Hid (n=nodes.length):=hn;have jl:n<=1000000000:=by rw[hn];exact hf.big
 clear h hf hn;go_enter func160,ntmps160;go_wp2
 go_loopw [4,5] (fun o i wr=>∃(k q:Nat) (ao:Option Addr) (co:Nat),k<=n/\i=.int .i64 (k:Int)/\o=.slice ao q co/\q<=k/\Below w.heap.size w wr/\Hid (q=(cF (nodes.take k) p).length)/\Hid (wr.ownsRow w.heap.size 200 3 (.slice ao q co) q (flat (cF (nodes.take k) p)))) (fun _ i _=>n-(intOf i).toNat)
 case atStart=>exact⟨0,0,none,0,dG _,rfl,rfl,bA _,Below.refl _ _,rfl,World.ownsRow_nil _ _ _ _⟩
 case round=>
  obtain⟨k,q,ao,co,hk,rfl,rfl,hqk,hb,HQ,HO⟩:=hrel;have hst:=HS.out.below hb;have k0:=hst.c0;have GD:=hst.lt;rw[<-HN.out] at k0;have hsz:=hb.size;by_cases hlt:k<n
  ·have gP:k<nodes.length:=by rw[<-HN.out];exact hlt
   have hrow:=hst.jW;obtain⟨g,c',hv⟩:=ak hrow (by omega);have ha:=(Value.slice.inj hv).1;subst ha;obtain⟨c0,c1,c2⟩:=bg (off:=0) (aQ hrow) gP;rw[Nat.zero_add] at c0 c1 c2;have fo:=ah hrow rfl;have lJ:=HF.out.small _ (jk gP);obtain⟨x,hx⟩:∃x,x=nodes[k]:=⟨_,rfl⟩;rw[<-hx] at c0 c1 c2 lJ;have HX:Hid (x=nodes[k]):=hx;have Ld:=dU x.1 p wr lJ hp;have uP:(k:Int)<(n:Int):=by omega
   cases he:(x.1.toList == p.toList) with
   | true=>
    have CS:(x.1.toList != p.toList)=false:=by rw[bne,he];rfl
    have HG:Hid (cF (nodes.take (k+1)) p=cF (nodes.take k) p):=u5 gP (by rw[<-hx,he];rfl);clear Ld hx hv hrow hst;go_wp2;go_roundw
    case rel=>exact⟨k+1,q,ao,co,by omega,by go_num,rfl,by omega,hb,by show _=_;rw[HG.out];exact HQ.out,by show World.ownsRow _ _ _ _ _ _ _;rw[HG.out];exact HO.out⟩
    case measure=>simp[intOf];omega
   | false=>
    have CS:(x.1.toList != p.toList)=true:=by rw[bne,he];rfl
    cases hu:cD x.1 p with
    | true=>
     have HG:Hid (cF (nodes.take (k+1)) p=cF (nodes.take k) p):=u5 gP (by rw[<-hx,he,hu];rfl);rw[hu] at Ld;have HU:Hid _:=Ld;clear Ld hx hv hrow hst hu;go_wp2_with fail;refine Calls.mono HU.out ?_;rintro _ _ ⟨rfl,rfl⟩;go_wp2;go_roundw
     case rel=>exact⟨k+1,q,ao,co,by omega,by go_num,rfl,by omega,hb,by show _=_;rw[HG.out];exact HQ.out,by show World.ownsRow _ _ _ _ _ _ _;rw[HG.out];exact HO.out⟩
     case measure=>simp[intOf];omega
    | false=>
     have HG:Hid (cF (nodes.take (k+1)) p=cF (nodes.take k) p ++ [x]):=by show _=_;rw[Fz gP (by rw[<-hx,he,hu];rfl),<-hx]
     rw[hu] at Ld;have HU:Hid _:=Ld;clear Ld hx hv hrow hst hu;go_wp2_with fail;refine Calls.mono HU.out ?_;rintro _ _ ⟨rfl,rfl⟩;rename World=>wq
     go_wp2_with (at_builtin;refine wpList_append_own _ rfl (.tmp 33) (.tmp 41) 174 rfl w.heap.size 200 i0 _ 3 32 underlying174 hi hz0 hz1 hz2 rfl (by decide) _ _ _ rfl (HO.out.alloc _) ⟨wq.heap.size,0,none⟩ 1 1 (bL x) rfl rfl (bD wq x _ _ rfl) (bJ _) (by unfold maxLen;omega) (by omega) (by simp;omega) ?_);intro v' w4 hown' hgrow _;have hb4:Below w.heap.size w w4:=bX (hb.alloc hsz _) (by simp;omega) (HO.out.alloc _) hgrow;obtain⟨nH,nI,rfl⟩:=aX hown';have Zk:Hid (w4.ownsRow w.heap.size 200 3 (.slice nH (q+1) nI) (q+1) (flat (cF (nodes.take (k+1)) p))):=by show World.ownsRow _ _ _ _ _ _ _;rw[HG.out,aZ,bp];exact hown'
     clear hown' hgrow;go_wp2;go_roundw
     case rel=>exact⟨k+1,q+1,nH,nI,by omega,by go_num,rfl,by omega,hb4,by show _=_;rw[HG.out,HQ.out];simp,Zk.out⟩
     case measure=>simp[intOf];omega
  ·have HT:Hid (nodes.take k=nodes):=List.take_of_length_le (by have:=HN.out;omega)
   rw[HT.out] at HQ HO;have DR:decide ((k:Int)<(n:Int))=false:=dY (by omega);have ET:wr.frozen? ⟨S,0,none⟩=false:=by simp[World.frozen?,hst.hS]
   have nO:Hid _:=HS.out.qD hb HQ.out HO.out;clear hst;go_wp2;go_end0;exact⟨rfl,nO.out⟩
end
def cH (nodes:List aK)(p:ByteArray):List aK×Int:=
 if (aG p).2=false then (nodes,1) else if (aG p).1.length=0 then (nodes,9) else if eT nodes (aG p).1≠0 then (nodes,eT nodes (aG p).1) else if 0<(aT nodes p).length then (nodes,8) else (cF nodes p,0)
def dw (nodes:List aK)(p:ByteArray):List aK×Int:=
 if (aG p).2=false then (nodes,1) else if (aG p).1.length=0 then (nodes,6) else if xU nodes (aG p).1≠0 then (nodes,xU nodes (aG p).1) else if bU nodes p≠0 then (nodes,6)
 else if 16<=(aT nodes (aj ((aG p).1.take ((aG p).1.length-1)))).length then (nodes,11) else (nodes ++ [(p,2,0)],0)
section
variable {F:Nat->Prop}{w:World}{S:Nat}{na da:Option Addr}{nc dc:Nat}{nodes:List aK}{data:List ByteArray}{rest:List Value}
theorem b9.below {w':World}(h:b9 F w S nodes data rest)(hb:Below w.heap.size w w'):b9 (bq F w w') w' S nodes data rest:=by
 obtain⟨na,nc,da,dc,h⟩:=h;exact⟨na,nc,da,dc,(h.below hb).keep (fun _ h=>.inl h) (fun _ _=>rfl)⟩
theorem II (h:dF F w S na da nc dc nodes data rest)(hf:nJ nodes data)(p:ByteArray)(hp:p.size<=2097152):
  Calls prog 96 #[.pointer (some ⟨S,0,none⟩),.string p] w fun e w'=>e=.returned (.int .i64 (cH nodes p).2)/\b9 (bq F w w') w' S (cH nodes p).1 data rest/\ax F w w':=by
 have hsp:=fU p w hp;have HX:=iC p;have HST:Hid (dF F w S na da nc dc nodes data rest):=h;have HF:Hid (nJ nodes data):=hf;have gX:Hid (∀w',Below w.heap.size w w'->b9 (bq F w w') w' S nodes data rest/\ax F w w'):=fun w' hb=>⟨b9.below ⟨na,nc,da,dc,h⟩ hb,ax.aM hb⟩;clear h hf;cases cz:(aG p).2 with
 | false=>
  have HR:Hid (cH nodes p=(nodes,1)):=by show _=_;unfold cH;rw[aL cz]
  rw[cz] at hsp;have yE:Hid _:=hsp;clear hsp cz;go_enter func96,ntmps96;go_wp2_with fail;refine Calls.mono yE.out ?_;rintro _ w1 ⟨v,rfl,hown,hb⟩;clear hown;go_wp2;go_ret;rw[HR.out];exact⟨rfl,gX.out _ hb⟩
 | true=>
  have h5:=iR cz;rw[cz] at hsp;obtain⟨xs,rM⟩:∃xs,xs=(aG p).1:=⟨_,rfl⟩;have HL:Hid (cH nodes p=if xs.length=0 then (nodes,9) else if eT nodes xs≠0 then (nodes,eT nodes xs) else if 0<(aT nodes p).length then (nodes,8) else (cF nodes p,0)):=by show _=_;unfold cH;rw[ay (by rw[cz];decide),rM]
  rw[<-rM] at hsp HX h5;have S7:Hid (∀x ∈ xs,x.size<=12):=HX;obtain⟨n,hn⟩:∃n,n=xs.length:=⟨_,rfl⟩;rw[<-hn] at hsp h5 HL;have yE:Hid _:=hsp;clear hsp cz rM HX hn;go_enter func96,ntmps96;go_wp2_with fail;refine Calls.mono yE.out ?_;rintro _ w1 ⟨v,rfl,hown,hb⟩;obtain⟨al,cl,rfl⟩:=aX hown;have IE:=lZ hown;have lK:=HST.out.below hb;have Rc:=hb.size;by_cases h0:n=0
  ·have HR:Hid (cH nodes p=(nodes,9)):=by show _=_;rw[HL.out,aL h0]
   have h0':((n:Int) == 0)=true:=by simp[h0]
   clear h0 hown lK yE;go_wp2;go_ret;rw[HR.out];exact⟨rfl,gX.out _ hb⟩
  ·have h0':((n:Int) == 0)=false:=by simp[h0]
   have hw:=xl lK al n cl xs (fH hown) S7.out (by omega) IE HF.out.big;have Td:=tv lK HF.out p;obtain⟨e,he⟩:∃e,e=eT nodes xs:=⟨_,rfl⟩;obtain⟨q,hq⟩:∃q,q=(aT nodes p).length:=⟨_,rfl⟩;rw[<-he] at hw HL;rw[<-hq] at Td HL;have HW:Hid _:=hw;have HM:Hid _:=Td;have Pe:Hid _:=lK;clear hw Td he hq hown lK yE;by_cases h1:e=0
   ·have Gx:(e != 0)=false:=by simp[h1]
    by_cases h2:0<q
    ·have R9:(0:Int)<(q:Int):=by omega
     have HR:Hid (cH nodes p=(nodes,8)):=by show _=_;rw[HL.out,ay h0,ay (by simp[h1]),aL h2]
     clear h1 h2 h0;go_wp2_with fail;refine Calls.mono HW.out ?_;rintro _ _ ⟨rfl,rfl⟩;go_wp2_with fail;refine Calls.mono HM.out ?_;rintro _ w2 ⟨rfl,hb2⟩;go_wp2;go_ret;rw[HR.out];exact⟨rfl,gX.out _ (hb.trans (hb2.mono Rc))⟩
    ·have R9:decide ((0:Int)<(q:Int))=false:=dY (by omega)
     have HR:Hid (cH nodes p=(cF nodes p,0)):=by show _=_;rw[HL.out,ay h0,ay (by simp[h1]),ay h2]
     obtain rfl:q=0:=by omega
     clear h1 h2 h0 R9;go_wp2_with fail;refine Calls.mono HW.out ?_;rintro _ _ ⟨rfl,rfl⟩;go_wp2_with fail;refine Calls.mono HM.out ?_;rintro _ w2 ⟨rfl,hb2⟩;have iG:Below w.heap.size w w2:=hb.trans (hb2.mono Rc);have HG:Hid _:=qE (dF.below Pe.out hb2) HF.out p hp;go_wp2_with fail;refine Calls.mono HG.out ?_;rintro _ w3 ⟨rfl,Ab,hk3⟩;have kQ:=iG.size;have nO:Hid (b9 (bq F w w3) w3 S (cF nodes p) data rest/\ax F w w3):=by
      obtain⟨Pf,Pg,Ph,Pj,Ab⟩:=Ab;exact⟨⟨Pf,Pg,Ph,Pj,Ab.keep (fun k hk=>by rcases hk with h | h;exact .inl h;exact .inr ⟨by omega,h.2⟩) (fun _ _=>rfl)⟩,ax.after hk3 iG⟩
     clear Ab hk3 HG;go_wp2;go_ret;rw[HR.out];exact⟨rfl,nO.out⟩
   ·have Gx:(e != 0)=true:=by simp[h1]
    have HR:Hid (cH nodes p=(nodes,e)):=by show _=_;rw[HL.out,ay h0,aL h1]
    clear h1 h0;go_wp2_with fail;refine Calls.mono HW.out ?_;rintro _ _ ⟨rfl,rfl⟩;go_wp2;go_ret;rw[HR.out];exact⟨rfl,gX.out _ hb⟩
theorem dF.push (h:dF F w S na da nc dc nodes data rest){w':World}{g cap':Nat}{x:aK}(P:w'.heap[S]? = some (.cells ((Value.slice na nodes.length nc :: Value.slice da data.length dc :: rest).toArray.setIfInBounds 0 (.slice (some ⟨g,0,none⟩) (nodes.length+1) cap')) 179 (0,0))/\
   w'.ownsRow 0 200 3 (.slice (some ⟨g,0,none⟩) (nodes.length+1) cap') (nodes.length+1) (flat nodes++bL x)/\((some g:Option Nat)=(Value.slice na nodes.length nc).ownBlock\/w.heap.size<=g)/\ax (fun k=>k=S\/some k=(Value.slice na nodes.length nc).ownBlock) w w'):
  b9 (bq F w w') w' S (nodes ++ [x]) data rest/\ax F w w':=by
 obtain⟨p1,p2,p3,p4⟩:=P;have hl:(nodes ++ [x]).length=nodes.length+1:=by simp
 refine⟨⟨some ⟨g,0,none⟩,cap',da,dc,⟨.inl h.fS,?_,?_,?_,?_,?_⟩⟩,qw p4 h.fS h.fn⟩
 ·rw[hl,p1];simp
 ·rw[hl,aZ,bp];exact p2
 ·exact jc h.ny p4 h.hS (by decide) (fun g hg=>cS h.ny h.jW (by decide) hg)
 ·rw[hl];exact wK p2 p3 h.fn
 ·intro g hg;exact .inl (h.fd g hg)
theorem Le (h:dF F w S na da nc dc nodes data rest)(hf:nJ nodes data)(p:ByteArray)(hp:p.size<=2097152):
  Calls prog 95 #[.pointer (some ⟨S,0,none⟩),.string p] w fun e w'=>e=.returned (.int .i64 (dw nodes p).2)/\b9 (bq F w w') w' S (dw nodes p).1 data rest/\ax F w w':=by
 obtain⟨i0,hi,hz0,hz1,hz2⟩:=info_parts tC;have hsp:=fU p w hp;have HX:=iC p;have HST:Hid (dF F w S na da nc dc nodes data rest):=h;have HF:Hid (nJ nodes data):=hf;have gX:Hid (∀w',Below w.heap.size w w'->b9 (bq F w w') w' S nodes data rest/\ax F w w'):=fun w' hb=>⟨b9.below ⟨na,nc,da,dc,h⟩ hb,ax.aM hb⟩;clear h hf;cases cz:(aG p).2 with
 | false=>
  have HR:Hid (dw nodes p=(nodes,1)):=by show _=_;unfold dw;rw[aL cz]
  rw[cz] at hsp;have yE:Hid _:=hsp;clear hsp cz;go_enter func95,ntmps95;go_wp2_with fail;refine Calls.mono yE.out ?_;rintro _ w1 ⟨v,rfl,hown,hb⟩;clear hown;go_wp2;go_ret;rw[HR.out];exact⟨rfl,gX.out _ hb⟩
 | true=>
  have h5:=iR cz;rw[cz] at hsp;obtain⟨xs,rM⟩:∃xs,xs=(aG p).1:=⟨_,rfl⟩;have HL:Hid (dw nodes p=if xs.length=0 then (nodes,6) else if xU nodes xs≠0 then (nodes,xU nodes xs) else if bU nodes p≠0 then (nodes,6) else if 16<=(aT nodes (aj (xs.take (xs.length-1)))).length then (nodes,11) else (nodes ++ [(p,2,0)],0)):=by
   show _=_;unfold dw;rw[ay (by rw[cz];decide),rM]
  rw[<-rM] at hsp HX h5;have S7:Hid (∀x ∈ xs,x.size<=12):=HX;obtain⟨pp,NA⟩:∃pp,pp=aj (xs.take (xs.length-1)):=⟨_,rfl⟩;rw[<-NA] at HL;have HPP:Hid (pp=aj (xs.take (xs.length-1))):=NA;obtain⟨n,hn⟩:∃n,n=xs.length:=⟨_,rfl⟩;rw[<-hn] at hsp h5 HL;have yE:Hid _:=hsp;clear hsp cz rM HX hn NA;go_enter func95,ntmps95;go_wp2_with fail;refine Calls.mono yE.out ?_;rintro _ w1 ⟨v,rfl,hown,hb⟩;obtain⟨al,cl,rfl⟩:=aX hown;have IE:=lZ hown;have lK:=HST.out.below hb;have Rc:=hb.size;by_cases h0:n=0
  ·have HR:Hid (dw nodes p=(nodes,6)):=by show _=_;rw[HL.out,aL h0]
   subst h0;clear hown lK yE;go_wp2;go_ret;rw[HR.out];exact⟨rfl,gX.out _ hb⟩
  ·have h0':((n:Int) == 0)=false:=by simp[h0]
   have Vt:=Tc lK HF.out al n cl xs (fH hown) S7.out (by omega) (by omega) IE;rw[<-HPP.out] at Vt;have lM:=oq lK p HF.out.big;have Td:=tv lK HF.out pp;obtain⟨e,he⟩:∃e,e=xU nodes xs:=⟨_,rfl⟩;obtain⟨kd,qs⟩:∃kd,kd=bU nodes p:=⟨_,rfl⟩;obtain⟨q,hq⟩:∃q,q=(aT nodes pp).length:=⟨_,rfl⟩;rw[<-he] at Vt HL;rw[<-qs] at lM HL;rw[<-hq] at Td HL;have HU:Hid _:=Vt;have HK:Hid _:=lM;have HM:Hid _:=Td;have Pe:Hid _:=lK;clear Vt lM Td he qs hq hown lK yE;by_cases h1:e=0
   ·have Gx:(e != 0)=false:=by simp[h1]
    by_cases h2:kd=0
    ·have R9:(kd != 0)=false:=by simp[h2]
     by_cases h3:16<=q
     ·have V7:(16:Int)<=(q:Int):=by omega
      have HR:Hid (dw nodes p=(nodes,11)):=by show _=_;rw[HL.out,ay h0,ay (by simp[h1]),ay (by simp[h2]),aL h3]
      clear h1 h2 h0;go_wp2_with fail;refine Calls.mono HU.out ?_;rintro _ _ ⟨rfl,rfl⟩;go_wp2_with fail;refine Calls.mono HK.out ?_;rintro _ _ ⟨rfl,rfl⟩;go_wp2_with fail;refine Calls.mono HM.out ?_;rintro _ w2 ⟨rfl,hb2⟩;go_wp2;go_ret;rw[HR.out];exact⟨rfl,gX.out _ (hb.trans (hb2.mono Rc))⟩
     ·have V7:decide ((16:Int)<=(q:Int))=false:=dY (by omega)
      have am0:¬(16:Int)<=(q:Int):=(by omega);have HR:Hid (dw nodes p=(nodes ++ [(p,2,0)],0)):=by show _=_;rw[HL.out,ay h0,ay (by simp[h1]),ay (by simp[h2]),ay h3]
      clear h1 h2 h0;go_wp2_with fail;refine Calls.mono HU.out ?_;rintro _ _ ⟨rfl,rfl⟩;go_wp2_with fail;refine Calls.mono HK.out ?_;rintro _ _ ⟨rfl,rfl⟩;go_wp2_with fail;refine Calls.mono HM.out ?_;rintro _ w2 ⟨rfl,hb2⟩;have iG:Below w.heap.size w w2:=hb.trans (hb2.mono Rc);have qF:=dF.below Pe.out hb2;have k0:=qF.c0;have GD:=qF.lt;obtain⟨m,hm⟩:∃m,m=nodes.length:=⟨_,rfl⟩;have hmb:m<=1000000000:=by rw[hm];exact HF.out.big
      have HMM:Hid (m=nodes.length):=hm;have Pk:Hid (w2.ownsRow 0 200 3 (.slice na m nc) m (flat nodes)):=by rw[hm];exact qF.jW
      have ZE:Hid (dF F w2 S na da nc dc nodes data rest):=qF;rw[<-hm] at k0;clear qF hm;go_wp2_with (at_builtin;refine aY rfl (.tmp 44) (.tmp 47) 174 rfl 0 200 i0 _ 3 32 underlying174 hi hz0 hz1 hz2 rfl (by decide) (.slice na m nc) m (flat nodes) rfl (World.ownsRow.alloc Pk.out _) ⟨w2.heap.size,0,none⟩ 1 1 (bL (p,2,0)) rfl rfl (bD w2 (p,2,0) _ _ rfl) (bJ _) (by unfold maxLen;omega) (by omega) (dG _) ?_);intro v3 w3 wL hg3 kG;obtain⟨g3,c3,rfl⟩:=ak wL (by omega);have yy:=ZE.out.hS;have hW3:=dW yy (bh _ _) (by simp) hg3 (aA Pk.out yy (by decide));have hs3:w2.heap.size<=w3.heap.size:=by have:=hg3.size;simp at this;omega
      have p03:w3.cell? ⟨S,0,none⟩=some (.slice na m nc):=by rw[HMM.out];simp[World.cell?,hW3]
      have f03:w3.frozen? ⟨S,0,none⟩=false:=(by simp[World.frozen?,hW3]);have acL:S<w3.heap.size:=by omega
      have P3:=cq (i:=0) yy Pk.out (by decide) (bh _ _) (by simp) ⟨rfl,rfl,rfl⟩ wL hg3 kG (by simp);have nO:Hid (b9 (bq F w (w3.setCell ⟨S,0,none⟩ (.slice (some ⟨g3,0,none⟩) (m+1) c3))) (w3.setCell ⟨S,0,none⟩ (.slice (some ⟨g3,0,none⟩) (m+1) c3)) S (nodes ++ [(p,2,0)]) data rest/\ax F w (w3.setCell ⟨S,0,none⟩ (.slice (some ⟨g3,0,none⟩) (m+1) c3))):=by
       have hm:=HMM.out;subst hm;obtain⟨⟨Pf,Pg,Ph,Pj,Ab⟩,hk3⟩:=ZE.out.push P3
       have:=iG.size
       exact⟨⟨Pf,Pg,Ph,Pj,Ab.keep (fun k hk=>by rcases hk with h | h;exact .inl h;exact .inr ⟨by omega,h.2⟩) (fun _ _=>rfl)⟩,ax.after hk3 iG⟩
      clear wL hg3 kG P3 hW3 yy;go_wp2;go_ret;rw[HR.out];exact⟨rfl,nO.out⟩
    ·have R9:(kd != 0)=true:=by simp[h2]
     have HR:Hid (dw nodes p=(nodes,6)):=by show _=_;rw[HL.out,ay h0,ay (by simp[h1]),aL h2]
     clear h1 h2 h0;go_wp2_with fail;refine Calls.mono HU.out ?_;rintro _ _ ⟨rfl,rfl⟩;go_wp2_with fail;refine Calls.mono HK.out ?_;rintro _ _ ⟨rfl,rfl⟩;go_wp2_with fail;refine Calls.mono HM.out ?_;rintro _ w2 ⟨rfl,hb2⟩;go_wp2;go_ret;rw[HR.out];exact⟨rfl,gX.out _ (hb.trans (hb2.mono Rc))⟩
   ·have Gx:(e != 0)=true:=by simp[h1]
    have HR:Hid (dw nodes p=(nodes,e)):=by show _=_;rw[HL.out,ay h0,aL h1]
    clear h1 h0;go_wp2_with fail;refine Calls.mono HU.out ?_;rintro _ _ ⟨rfl,rfl⟩;go_wp2;go_ret;rw[HR.out];exact⟨rfl,gX.out _ hb⟩
end
def lg (nodes:List aK)(data:List ByteArray)(p:ByteArray):Int×Int:=
 match oV nodes p with
 | some i=>if ((nodes[i]?).map (fun e:aK=>e.2.1)).getD 0=1 then (1,((data.getD (((nodes[i]?).map (fun e:aK=>e.2.2)).getD 0).toNat ⟨#[]⟩).size:Int)) else (2,((aT nodes p).length:Int))
 | none=>(2,((aT nodes p).length:Int))
def ja (nodes:List aK)(data:List ByteArray)(p:ByteArray):(Int×Int)×Int:=
 if (aG p).2=false then ((0,0),1) else if eT nodes (aG p).1≠0 then ((0,0),eT nodes (aG p).1) else (lg nodes data p,0)
theorem IJ {nodes:List aK}{data:List ByteArray}{p:ByteArray}(h:oV nodes p=none):lg nodes data p=(2,((aT nodes p).length:Int)):=by unfold lg;rw[h]
theorem Lf {nodes:List aK}{data:List ByteArray}{p:ByteArray}{i:Nat}(h:oV nodes p=some i)(hi:i<nodes.length)(hk:nodes[i].2.1≠1):lg nodes data p=(2,((aT nodes p).length:Int)):=by
 unfold lg;rw[h];simp only[kO hi,Option.map_some,Option.getD_some];rw[ay hk]
theorem IK {nodes:List aK}{data:List ByteArray}{p:ByteArray}{i j:Nat}(h:oV nodes p=some i)(hi:i<nodes.length)(hk:nodes[i].2.1=1)(hj:nodes[i].2.2=(j:Int))(GF:j<data.length):lg nodes data p=(1,(data[j].size:Int)):=by
 unfold lg;rw[h];simp only[kO hi,Option.map_some,Option.getD_some];rw[aL hk,hj,Int.toNat_natCast,List.getD_eq_getElem?_getD,kO GF];rfl
section
variable {F:Nat->Prop}{w:World}{S:Nat}{na da:Option Addr}{nc dc:Nat}{nodes:List aK}{data:List ByteArray}{rest:List Value}
theorem Pm (h:dF F w S na da nc dc nodes data rest)(hf:nJ nodes data)(p:ByteArray)(hp:p.size<=2097152)(hd:data.length<=1000000000):
  Calls prog 90 #[.pointer (some ⟨S,0,none⟩),.string p] w fun e w'=>e=.returned (.tuple #[.agg #[.int .i64 (ja nodes data p).1.1,.int .i64 (ja nodes data p).1.2],.int .i64 (ja nodes data p).2])/\Below w.heap.size w w':=by
 have b1:∀B,Below w.heap.size w (w.alloc B):=fun B=>(Below.refl _ _).alloc (bA _) _;have hsp:=fun B=>fU p (w.alloc B) hp;have HX:=iC p;cases cz:(aG p).2 with
 | false=>
  have HR:Hid (ja nodes data p=((0,0),1)):=by show _=_;unfold ja;rw[aL cz]
  rw[cz] at hsp;have yE:Hid _:=hsp;clear hsp cz h hf;go_enter func90,ntmps90;go_wp2_with fail;refine Calls.mono (yE.out _) ?_;rintro _ w1 ⟨v,rfl,hown,hb⟩;have iG:=(b1 _).trans (hb.mono (by simp));have y0:=hb.cell (p:=⟨w.heap.size,0,none⟩) (by simp);have y1:=hb.cell (p:=⟨w.heap.size,1,none⟩) (by simp);have f0:=hb.frozen (p:=⟨w.heap.size,0,none⟩) (by simp);have f1:=hb.frozen (p:=⟨w.heap.size,1,none⟩) (by simp);simp at y0 y1 f0 f1;have hbl:=cv (show w.heap.size<w.heap.size+1 by omega) (by have:=hb.size;simpa using this);clear hown;go_wp2;rw[HR.out];exact bodyPost_ret (v:=.tuple #[.agg #[.int .i64 0,.int .i64 0],.int .i64 1]) (by simp[results,results90,go_sem,y0,y1]) rfl ⟨rfl,(iG.setCell (bA _) _).setCell (bA _) _⟩
 | true=>
  have h5:=iR cz;rw[cz] at hsp;obtain⟨xs,rM⟩:∃xs,xs=(aG p).1:=⟨_,rfl⟩;obtain⟨q,hq⟩:∃q,q=(aT nodes p).length:=⟨_,rfl⟩;have HL:Hid (ja nodes data p=if eT nodes xs≠0 then ((0,0),eT nodes xs) else (lg nodes data p,0)):=by show _=_;unfold ja;rw[ay (by rw[cz];decide),rM]
  rw[<-rM] at hsp HX h5;have S7:Hid (∀x ∈ xs,x.size<=12):=HX;have HQ:Hid (q=(aT nodes p).length):=hq;have HST:Hid (dF F w S na da nc dc nodes data rest):=h;have HF:Hid (nJ nodes data):=hf;obtain⟨n,hn⟩:∃n,n=xs.length:=⟨_,rfl⟩;rw[<-hn] at hsp h5;have yE:Hid _:=hsp;clear hsp cz rM HX h hf hn hq;go_enter func90,ntmps90;go_wp2_with fail;refine Calls.mono (yE.out _) ?_;rintro _ w1 ⟨v,rfl,hown,hb⟩;have iG:=(b1 _).trans (hb.mono (by simp));have y0:=hb.cell (p:=⟨w.heap.size,0,none⟩) (by simp);have y1:=hb.cell (p:=⟨w.heap.size,1,none⟩) (by simp);have f0:=hb.frozen (p:=⟨w.heap.size,0,none⟩) (by simp);have f1:=hb.frozen (p:=⟨w.heap.size,1,none⟩) (by simp);simp at y0 y1 f0 f1;have Vu:w.heap.size<w1.heap.size:=cv (show w.heap.size<w.heap.size+1 by omega) (by have:=hb.size;simpa using this);have Rc:=iG.size;obtain⟨al,cl,rfl⟩:=aX hown;have IE:=lZ hown;have lK:=HST.out.below iG;have hw:=xl lK al n cl xs (fH hown) S7.out (by omega) IE HF.out.big;have Td:=tv lK HF.out p;rw[<-HQ.out] at Td;have Yk:=D5 na nodes.length nc nodes p w1 (fh lK.jW) HF.out.big;have k0:=lK.c0;have k1:=lK.c1;have GD:=lK.lt;obtain⟨m,hm⟩:∃m,m=nodes.length:=⟨_,rfl⟩;have hmb:m<=1000000000:=by rw[hm];exact HF.out.big
  have HMM:Hid (m=nodes.length):=hm;rw[<-hm] at k0 Yk;obtain⟨md,hmd⟩:∃md,md=data.length:=⟨_,rfl⟩;have HMD:Hid (md=data.length):=hmd;rw[<-hmd] at k1 hd;obtain⟨e,he⟩:∃e,e=eT nodes xs:=⟨_,rfl⟩;rw[<-he] at hw HL;have HW:Hid _:=hw;have HM:Hid _:=Td;have Pe:Hid (dF F w1 S na da nc dc nodes data rest):=lK;clear hw Td he hown lK yE hb hm hmd;by_cases h1:e=0
  ·have Gx:(e != 0)=false:=by simp[h1]
   cases IB:oV nodes p with
   | none=>
    have HR:Hid (ja nodes data p=((2,(q:Int)),0)):=by show _=_;rw[HL.out,ay (by simp[h1]),IJ IB,HQ.out]
    rw[IB] at Yk;have HFD:Hid (Calls prog 106 #[.slice na m nc,.string p] w1 fun e w'=>e=.returned (.int .i64 (-1))/\w'=w1):=Yk;clear h1 Yk IB;go_wp2_with fail;refine Calls.mono HW.out ?_;rintro _ _ ⟨rfl,rfl⟩;go_wp2_with fail;refine Calls.mono HFD.out ?_;rintro _ _ ⟨rfl,rfl⟩;go_wp2_with fail;refine Calls.mono HM.out ?_;rintro _ w2 ⟨rfl,hb2⟩;have kQ:Below w.heap.size w w2:=iG.trans (hb2.mono Rc);have z0:=(hb2.cell (p:=⟨w.heap.size,0,none⟩) Vu).trans y0;have z1:=(hb2.cell (p:=⟨w.heap.size,1,none⟩) Vu).trans y1;have g0:=(hb2.frozen (p:=⟨w.heap.size,0,none⟩) Vu).trans f0;have g1:=(hb2.frozen (p:=⟨w.heap.size,1,none⟩) Vu).trans f1;have ahd:w.heap.size<w2.heap.size:=cv Vu hb2.size;go_wp2;rw[HR.out];exact bodyPost_ret (v:=.tuple #[.agg #[.int .i64 2,.int .i64 (q:Int)],.int .i64 0]) (by simp[results,results90,go_sem,z0,z1]) rfl ⟨rfl,(kQ.setCell (bA _) _).setCell (bA _) _⟩
   | some i=>
    have Sg:i<nodes.length:=(List.findIdx?_eq_some_iff_getElem.1 IB).1;rw[IB] at Yk;have HFD:Hid (Calls prog 106 #[.slice na m nc,.string p] w1 fun e w'=>e=.returned (.int .i64 (i:Int))/\w'=w1):=Yk;have hrow:=Pe.out.jW;obtain⟨g,c',hv⟩:=ak hrow (by omega);have ha:=(Value.slice.inj hv).1;subst ha;obtain⟨_,x1,x2⟩:=bg (off:=0) (aQ hrow) Sg;rw[Nat.zero_add] at x1 x2;have fo:=ah hrow rfl;have lV:(i:Int)<(m:Int):=by have:=HMM.out;omega
    have hi0:(0:Int)<=(i:Int):=(by omega);by_cases fM:nodes[i].2.1=1
    ·obtain⟨hf0,C6⟩:=HF.out.files _ (jk Sg) fM
     obtain⟨j,hj⟩:∃j:Nat,nodes[i].2.2=(j:Int):=⟨nodes[i].2.2.toNat,by omega⟩;have GF:j<data.length:=by omega
     have Yl:=Pe.out.ny;obtain⟨gd,hgd,am5,xd,_⟩:=row_one Yl (i:=j) (v:=.string data[j]) (by simp[gM,GF]);subst hgd;have HR:Hid (ja nodes data p=((1,(data[j].size:Int)),0)):=by
      show _=_;rw[HL.out,ay (by simp[h1]),IK IB Sg fM hj GF]
     rw[fM] at x1;rw[hj] at x2;obtain⟨dd,hdd⟩:∃dd,dd=data[j]:=⟨_,rfl⟩;rw[<-hdd] at xd HR;have hjm:(j:Int)<(md:Int):=by have:=HMD.out;omega
     clear h1 Yk IB hrow Yl hv fM hj hf0 C6 hdd;go_wp2_with fail;refine Calls.mono HW.out ?_;rintro _ _ ⟨rfl,rfl⟩;go_wp2_with fail;refine Calls.mono HFD.out ?_;rintro _ _ ⟨rfl,rfl⟩;go_wp2
     go_region
     all_goals
      go_wp2;rw[HR.out];exact bodyPost_ret (v:=.tuple #[.agg #[.int .i64 1,.int .i64 (dd.size:Int)],.int .i64 0]) (by simp[results,results90,go_sem,y0,y1]) rfl ⟨rfl,((iG.setCell (bA _) _).setCell (bA _) _).drew⟩
    ·have Wc:(nodes[i].2.1 == 1)=false:=by simpa using fM
     have HR:Hid (ja nodes data p=((2,(q:Int)),0)):=by
      show _=_;rw[HL.out,ay (by simp[h1]),Lf IB Sg fM,HQ.out]
     clear h1 Yk IB hrow hv fM;go_wp2_with fail;refine Calls.mono HW.out ?_;rintro _ _ ⟨rfl,rfl⟩;go_wp2_with fail;refine Calls.mono HFD.out ?_;rintro _ _ ⟨rfl,rfl⟩;go_wp2_with fail;refine Calls.mono HM.out ?_;rintro _ w2 ⟨rfl,hb2⟩;have kQ:Below w.heap.size w w2:=iG.trans (hb2.mono Rc);have z0:=(hb2.cell (p:=⟨w.heap.size,0,none⟩) Vu).trans y0;have z1:=(hb2.cell (p:=⟨w.heap.size,1,none⟩) Vu).trans y1;have g0:=(hb2.frozen (p:=⟨w.heap.size,0,none⟩) Vu).trans f0;have g1:=(hb2.frozen (p:=⟨w.heap.size,1,none⟩) Vu).trans f1;have ahd:w.heap.size<w2.heap.size:=cv Vu hb2.size;go_wp2;rw[HR.out];exact bodyPost_ret (v:=.tuple #[.agg #[.int .i64 2,.int .i64 (q:Int)],.int .i64 0]) (by simp[results,results90,go_sem,z0,z1]) rfl ⟨rfl,(kQ.setCell (bA _) _).setCell (bA _) _⟩
  ·have Gx:(e != 0)=true:=by simp[h1]
   have HR:Hid (ja nodes data p=((0,0),e)):=by show _=_;rw[HL.out,aL h1]
   clear h1;go_wp2_with fail;refine Calls.mono HW.out ?_;rintro _ _ ⟨rfl,rfl⟩;go_wp2;rw[HR.out];exact bodyPost_ret (v:=.tuple #[.agg #[.int .i64 0,.int .i64 0],.int .i64 e]) (by simp[results,results90,go_sem,y0,y1]) rfl ⟨rfl,(iG.setCell (bA _) _).setCell (bA _) _⟩
end
end Go.Proofs.YtlgidcmmgohagaaGreat
