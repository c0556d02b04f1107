/- What is proved here: the jX own qY. -/
import Derived.Test.YtlgidcmmgohagaaGreatFileM09
namespace Go.Proofs.YtlgidcmmgohagaaGreat
open Go.RowKit Go.Sort Go.Shelf Go.Proofs.Tryz
set_option linter.unusedVariables false
set_option maxRecDepth 100000
set_option maxHeartbeats 16000000
variable {data l:eB}{i k:Nat}{d p:eu}{w':World}{nodes:List eD}
def J0 (nodes:List eD)(l:eB)(i:Nat):Option Int:=if kh nodes (ek (l.take i))≠2 then some 5 else if kh nodes (ek (l.take (i+1)))=0 then some 4 else none
def tk (nodes:List eD)(l:eB):Int:=((List.range l.length).findSome? (J0 nodes l)).getD 0
theorem Ol(h:∀j,j<l.length->J0 nodes l j=none):tk nodes l=0:=by
 unfold tk;rw[List.findSome?_eq_none_iff.2 (fun j hj=>h j (Dp.1 hj))];rfl
theorem Ep{e:Int}(hk:k<l.length)(h:∀j,j<k->J0 nodes l j=none)(a:J0 nodes l k=some e):tk nodes l=e:=by
 unfold tk;have b:List.range l.length=List.range k++k::(List.range (l.length-k-1)).map (k+1 + ·):=by
  have h1:=@List.range_add k (l.length-k);rw[show k+(l.length-k)=l.length by omega]at h1;rw[h1,show l.length-k=l.length-k-1+1 by omega,List.range_succ_eq_map,WF,BZ];simp only[zT,Nat.add_sub_cancel]
  congr 2
  refine Kg fun x _=>?_;simp only[Function.comp];omega
 rw[b,Qw,List.findSome?_eq_none_iff.2 (fun j hj=>h j (Dp.1 hj))];simp[a]
section
variable {F:Nat->Prop}{w:World}{S:Nat}{na da:e5}{nc dc:Nat}{nodes:List eD}{data:eB}{rest:fE}
theorem ug(h:eV F w S na da nc dc nodes data rest)(a:e5)(m c:Nat)(l:eB)(hl:gj w a m l)(hx:∀x∈l,x.size<=12)(hm:m<=2097152)(hc:m<=c)(L:nodes.length<=1000000000):
  eK 153 #[fj S,.slice a m c] w (tz (ed (tk nodes l)) w):=by
 have r:Hid (gj w a m l):=hl;have G:Hid (∀p,eK 155 #[fj S,.string p] w (tz (ed (kh nodes p)) w)):=fun p=>lJ h p L;have H:Hid (∀k,k<=m->eK 202 #[.slice a k c] w (tz (.string (ek (l.take k))) w)):=fun k hk=>yE a k c (l.take k) w (hl.take k hk) (fun x kN=>hx x (wY kN)) (by omega);clear hl hx h;go_enter func153,ntmps153;go_wp2
 go_loopw [5] (fun i wr=>∃k:Nat,k<=m/\i=.int .i64 (k:Int)/\wr=w/\Hid (∀j,j<k->J0 nodes l j=none)) (fun i _=>m-(intOf i).toNat)
 case atStart=>exact⟨0,oY _,rfl,rfl,fun j h=>by omega⟩
 case round=>
  obtain⟨k,hk,rfl,rfl,n⟩:=hrel;by_cases M:k<m
  ·have I:k<l.length:=by rw[r.out.1];exact M
   obtain⟨b,off,N,R,_⟩:=r.out.2 (by omega);subst N;have T:(k:Int)<(m:Int):=by omega
   have s:=H.out k (by omega);have t:=H.out (k+1) (by omega);have o:=G.out (ek (l.take k));have q:=G.out (ek (l.take (k+1)));obtain⟨u,v⟩:∃u,u=ek (l.take k):=⟨_,rfl⟩;obtain⟨y,z⟩:∃y,y=ek (l.take (k+1)):=⟨_,rfl⟩;rw[<-v]at s o;rw[<-z]at t q;obtain⟨d,A⟩:∃d,d=kh nodes u:=⟨_,rfl⟩;obtain⟨f,B⟩:∃f,f=kh nodes y:=⟨_,rfl⟩;rw[<-A]at o;rw[<-B]at q;have C:Hid (J0 nodes l k=if d≠2 then some 5 else if f=0 then some 4 else none):=by show _=_;unfold J0;rw[A,B,v,z]
   have D:Hid _:=s;have J:Hid _:=t;have E:Hid _:=o;have K:Hid _:=q;have U:(k:Int)<=(c:Int):=by omega
   have V:(k:Int)+1<=(c:Int):=by omega
   clear v z A B s t o q;by_cases h1:d=2
   ·have O:(d != 2)=false:=by simp[h1]
    by_cases h2:f=0
    ·have P:(f==0)=true:=by simp[h2]
     have g:Hid (tk nodes l=4):=Ep I n.out (by rw[C.out,eJ (by simp[h1]),fY h2]);clear h1 h2;go_wp2_with fail;refine g7 D.out ?_;rintro _ _ ⟨rfl,rfl⟩;go_wp2_with fail;refine g7 E.out ?_;rintro _ _ ⟨rfl,rfl⟩;go_wp2_with fail;refine g7 J.out ?_;rintro _ _ ⟨rfl,rfl⟩;go_wp2_with fail;refine g7 K.out ?_;rintro _ _ ⟨rfl,rfl⟩;go_wp2;go_ret;exact⟨by rw[g.out];rfl,rfl⟩
    ·have P:(f==0)=false:=by simp[h2]
     have Q:Hid (J0 nodes l k=none):=by show _=_;rw[C.out,eJ (by simp[h1]),eJ h2]
     clear h1 h2;go_wp2_with fail;refine g7 D.out ?_;rintro _ _ ⟨rfl,rfl⟩;go_wp2_with fail;refine g7 E.out ?_;rintro _ _ ⟨rfl,rfl⟩;go_wp2_with fail;refine g7 J.out ?_;rintro _ _ ⟨rfl,rfl⟩;go_wp2_with fail;refine g7 K.out ?_;rintro _ _ ⟨rfl,rfl⟩;go_wp2;go_roundw
     case rel=>
      refine⟨k+1,by omega,by go_num,by trivial,fun j hj=>?_⟩;by_cases e:j=k
      ·subst e;exact Q.out
      ·exact n.out j (by omega)
     case measure=>simp[intOf];omega
   ·have O:(d != 2)=true:=by simp[h1]
    have g:Hid (tk nodes l=5):=Ep I n.out (by rw[C.out,fY h1]);clear h1;go_wp2_with fail;refine g7 D.out ?_;rintro _ _ ⟨rfl,rfl⟩;go_wp2_with fail;refine g7 E.out ?_;rintro _ _ ⟨rfl,rfl⟩;go_wp2;go_ret;exact⟨by rw[g.out];rfl,rfl⟩
  ·have W:decide ((k:Int)<(m:Int))=false:=m6 (by omega)
   have g:Hid (tk nodes l=0):=Ol (fun j hj=>n.out j (by have:=r.out.1;omega));go_wp2;go_ret;exact⟨by rw[g.out];rfl,rfl⟩
end
theorem wh(s:eu):∀x∈(fX s).1,ez x=true:=by
 unfold fX;split
 ·intro x hx;cases hx
 ·split
  ·next h=>exact h
  ·intro x hx;cases hx
theorem Do(s:eu):∀x∈(fX s).1,x.size<=12:=fun x hx=>(p2 (wh s x hx)).2
theorem nQ(s:eu):(fX s).1.length<=s.size+1:=by
 unfold fX;split
 ·exact oY _
 ·split
  ·exact En s _
  ·exact oY _
def lA (p d:eu):Bool:=decide (0<(fX p).1.length)&&((ek ((fX p).1.take ((fX p).1.length-1))).toList==d.toList)
theorem jf{w:World}{b:Nat}{t:fL}{z:Nat}{a:e5}{m c:Nat}{xs:fE}(h:w.ownsRow b t z (.slice a m c) m xs):m<=c:=by
 rcases h.2 with⟨e,h0⟩|⟨g,cap,_,e,_,_,h1,_⟩
 ·omega
 ·rw[(kW e).2.2];exact h1
theorem wj(p d:eu)(w:World)(hp:p.size<=2097152):
  eK 162 #[.string p,.string d] w (ml (.bool (lA p d)) w):=by
 have a:=QR p w hp;have c:=Do p;have i:=nQ p;obtain⟨xs,e⟩:∃xs,xs=(fX p).1:=⟨_,rfl⟩;have f:Hid (lA p d=(decide (0<xs.length)&&((ek (xs.take (xs.length-1))).toList==d.toList))):=by show _=_;unfold lA;rw[e]
 rw[<-e]at a c i;have q:Hid (∀x∈xs,x.size<=12):=c;obtain⟨n,hn⟩:∃n,n=xs.length:=⟨_,rfl⟩;rw[<-hn]at a i f;have z:Hid (n=xs.length):=hn;have j:Hid _:=a;clear a c e hn;go_enter func162,ntmps162;go_wp2_with fail;refine g7 j.out ?_;rintro _ r ⟨v,rfl,b,k⟩;obtain⟨s,l,rfl⟩:=lf b;have A:=jf b;have o:Hid _:=b;clear b j;by_cases h0:0<n
 ·have t:0<(n:Int):=by omega
  obtain⟨m,hm⟩:∃m:Nat,n=m+1:=⟨n-1,by omega⟩;have hj:=yE s m l (xs.take m) r (gj.take (rv o.out) m (by omega)) (fun x hx=>q.out x (wY hx)) (by omega);have u:Hid _:=hj;obtain⟨g,B,hv⟩:=ej o.out h0;have y:=(kW hv).1;subst y;have h:Hid (lA p d=((ek (xs.take m)).toList==d.toList)):=by show _=_;rw[f.out,jT h0,show n-1=m by omega];rfl
  have C:(n:Int)-1=(m:Int):=by omega
  have D:(m:Int)<=(l:Int):=by omega
  clear hj hv hm;go_wp2_with fail;refine g7 u.out ?_;rintro _ _ ⟨rfl,rfl⟩;go_wp2;go_ret;exact⟨by rw[h.out];rfl,k⟩
 ·have t:decide (0<(n:Int))=false:=m6 (by omega)
  have h:Hid (lA p d=false):=by show _=_;rw[f.out,m6 h0];rfl
  go_wp2;go_ret;exact⟨by rw[h.out];rfl,k⟩
def mm (p:eu):eu:=(fX p).1.getD ((fX p).1.length-1) ⟨#[]⟩
def eE (nodes:List eD)(d:eu):List eD:=(nodes.filter (fun e=>lA e.1 d)).map (fun e=>(mm e.1,0,0))
def rc (nodes:List eD)(d:eu):eB:=(wl (eE nodes d)).map (·.1)
theorem Ad(hk:k<nodes.length)(h:lA nodes[k].1 d=true):eE (nodes.take (k+1)) d=eE (nodes.take k) d++[(mm nodes[k].1,0,0)]:=by
 unfold eE;rw[sZ hk,Ng,k7];simp[h]
theorem yF(hk:k<nodes.length)(h:lA nodes[k].1 d=false):eE (nodes.take (k+1)) d=eE (nodes.take k) d:=by
 unfold eE;rw[sZ hk,Ng,k7];simp[h]
theorem Er(nodes:List eD)(d:eu):∀e∈eE nodes d,e.1.size<=maxLen:=by
 intro e a;obtain⟨x,_,rfl⟩:=H3.1 a;show(mm x.1).size<=maxLen;unfold mm;rw[s5];cases hx:(fX x.1).1[(fX x.1).1.length-1]? with
 |none=>exact oY _
 |some y=>have:=Do x.1 y (MU hx);exact pD this (by decide)
section
variable {F:Nat->Prop}{w:World}{S:Nat}{na da:e5}{nc dc:Nat}{nodes:List eD}{data:eB}{rest:fE}
theorem A5(h:eV F w S na da nc dc nodes data rest)(d:ByteArray)(au:nodes.length<=1000000000)(hp:∀e∈nodes,e.1.size<=2097152)(NE:(eE nodes d).length<=16):
  eK 156 #[fj S,.string d] w fun e w'=>∃v,e=.returned v/\w'.ownsRow w.heap.size 9 1 v (rc nodes d).length (fG (rc nodes d))/\gS w w':=by
 obtain⟨av,aw,ax,ay,az⟩:=H4 tv;obtain⟨aA,hi,aB,aC,aD⟩:=H4 nP;have aE:Hid (eV F w S na da nc dc nodes data rest):=h;have aF:Hid (∀e∈nodes,e.1.size<=2097152):=hp;have aG:Hid ((eE nodes d).length<=16):=NE;obtain⟨n,hn⟩:∃n,n=nodes.length:=⟨_,rfl⟩;have N:Hid (n=nodes.length):=hn;rw[<-hn]at au;clear h hp NE hn;go_enter func156,ntmps156;go_wp2
 go_loopw [5,6] (fun l i wr=>∃(k q:Nat) (c:(Option Addr)) (f:Nat),k<=n/\i=.int .i64 (k:Int)/\l=.slice c q f/\q<=k/\gS w wr/\Hid (q=(eE (nodes.take k) d).length)/\Hid (wr.ownsRow w.heap.size 112 3 (.slice c q f) q (flat (eE (nodes.take k) d)))) (fun _ i _=>n-(intOf i).toNat)
 case atStart=>exact⟨0,0,none,0,oY _,rfl,rfl,io _,i7 _ _,rfl,UV _ _ _ _⟩
 case round=>
  obtain⟨k,q,c,f,hk,rfl,rfl,a7,A,H,u⟩:=hrel;have r:=aE.out.below A;have ab:=r.c0;have aH:=r.lt;rw[<-N.out]at ab;have O:=A.size;by_cases aI:k<n
  ·have I:k<nodes.length:=by rw[<-N.out];exact aI
   have B:=r.iP;obtain⟨g,a8,hv⟩:=ej B (by omega);have P:=(kW hv).1;subst P;obtain⟨c0,_,_⟩:=i2 (off:=0) (hh B) I;rw[PH]at c0;have aJ:=ee B rfl;have Q:=aF.out _ (iF I);obtain⟨p,z⟩:∃p,p=nodes[k].1:=⟨_,rfl⟩;rw[<-z]at c0 Q;have jY:=wj p d wr Q;have a9:(k:Int)<(n:Int):=by omega
   cases a:lA p d with
   |false=>
    rw[a]at jY;have J:Hid _:=jY;have C:Hid (eE (nodes.take (k+1)) d=eE (nodes.take k) d):=yF I (by rw[<-z];exact a);clear jY a z hv B r;go_wp2_with fail;refine g7 J.out ?_;rintro _ D ⟨rfl,b⟩;have R:gS w D:=A.trans (b.mono O);have aK:Hid (D.ownsRow w.heap.size 112 3 (.slice c q f) q (flat (eE (nodes.take (k+1)) d))):=by show World.ownsRow _ _ _ _ _ _ _;rw[C.out];exact eh u.out (fun g hg=>b.block g (ee u.out hg))
    go_wp2;go_roundw
    case rel=>exact⟨k+1,q,c,f,by omega,by go_num,rfl,by omega,R,by show _=_;rw[C.out];exact H.out,aK.out⟩
    case measure=>simp[intOf];omega
   |true=>
    rw[a]at jY;have J:Hid _:=jY;have C:Hid (eE (nodes.take (k+1)) d=eE (nodes.take k) d++[(mm p,0,0)]):=by show _=_;rw[Ad I (by rw[<-z];exact a),z]
    have h0:0<(fX p).1.length:=by unfold lA at a;rw[uM]at a;exact s8 a.1
    have bb:Hid (eV F wr S (some (eb g 0)) da nc dc nodes data rest):=r;clear jY a z hv B r;go_wp2_with fail;refine g7 J.out ?_;rintro _ D ⟨rfl,b⟩;have R:gS w D:=A.trans (b.mono O);have bc:=(b.cell (p:=(eb S 0)) aH).trans ab;have bd:=(b.cell (p:=(eb g (k*3))) aJ).trans c0;have be:=b.size;have ac:Hid _:=QR p D Q;go_wp2_with fail;refine g7 ac.out ?_;rintro _ w3 ⟨v,rfl,K,T⟩;obtain⟨aL,aM,rfl⟩:=lf K;obtain⟨bf,bg,hv⟩:=ej K h0;have P:=(kW hv).1;subst P;obtain⟨m,hm⟩:∃m:Nat,(fX p).1.length=m+1:=⟨(fX p).1.length-1,by omega⟩;have ad:Hid (mm p=(fX p).1[m]):=by show _=_;unfold mm;rw[s5,show(fX p).1.length-1=m by omega,gJ (by omega)];rfl
    obtain⟨bh,aN,bi,aO,_⟩:=row_one (lw K (oY _)) (i:=m) (v:=.string (mm p)) (by rw[ad.out];simp[fG,hm]);cases aN;obtain⟨y,s⟩:∃y,y=mm p:=⟨_,rfl⟩;rw[<-s]at aO;have U:Hid (y=mm p):=s;obtain⟨sl,ae⟩:∃sl,sl=(fX p).1.length:=⟨_,rfl⟩;have aP:sl=m+1:=by omega
    have bj:sl<=2097153:=by have:=nQ p;omega
    rw[<-ae];have bk:(sl:Int)-1=(m:Int):=by omega
    have bl:(m:Int)<(sl:Int):=(by omega);have af:Hid (w3.ownsRow w.heap.size 112 3 (.slice c q f) q (flat (eE (nodes.take k) d))):=eh u.out (fun x hx=>by have:=ee u.out hx;rw[T.block x (by omega),b.block x this]);have aQ:gS w w3:=R.trans (T.mono (by omega));have bm:=T.size;clear ad K hv hm s ae aP ac J;go_wp2_with(at_builtin;refine r6 _ rfl (.tmp 44) (.tmp 52) 106 rfl w.heap.size 112 av _ 3 32 underlying106 aw ax ay az rfl (by decide) _ _ _ rfl (af.out.alloc _) (eb w3.heap.size 0) 1 1 (kA (y,0,0)) rfl rfl (m0 w3 (y,0,0) _ _ rfl) (lL _) (by unfold maxLen;omega) (by omega) (by simp;omega) ?_);intro aR ag t E _;have aS:gS w ag:=pw (aQ.alloc (by omega) _) (by simp;omega) (af.out.alloc _) E;obtain⟨ah,ai,rfl⟩:=lf t;have aT:Hid (ag.ownsRow w.heap.size 112 3 (.slice ah (q+1) ai) (q+1) (flat (eE (nodes.take (k+1)) d))):=by show World.ownsRow _ _ _ _ _ _ _;rw[C.out,ld,mn,<-U.out];exact t
    clear t E;go_wp2;go_roundw
    case rel=>exact⟨k+1,q+1,ah,ai,by omega,by go_num,rfl,by omega,aS,by show _=_;rw[C.out,H.out];simp,aT.out⟩
    case measure=>simp[intOf];omega
  ·have mC:k=n:=by omega
   have aU:Hid (nodes.take k=nodes):=jH (by have:=N.out;omega);rw[aU.out]at H u;have aV:q<=16:=by have:=aG.out;rw[<-H.out]at this;exact this
   have aj:=x5 c q f (eE nodes d) wr (rb u.out) aV (Er nodes d);have ak:Hid _:=aj;have bn:decide ((k:Int)<(n:Int))=false:=m6 (by omega);rename World=>w5;clear aj r mC;go_wp2_with fail;refine g7 ak.out ?_;rintro _ w6 ⟨v,rfl,V,al⟩;obtain⟨aL,aM,rfl⟩:=lf V;have G:Hid _:=V;have aW:gS w w6:=A.trans (al.mono O);have bo:=al.size;clear V ak;obtain⟨xs,W⟩:∃xs,xs=wl (eE nodes d):=⟨_,rfl⟩;rw[<-W]at G;have am:Hid (rc nodes d=xs.map (·.1)):=by show _=_;unfold rc;rw[W]
   have X:Hid (xs.length=q):=by show _=_;have:=G.out.1;rw[ib]at this;omega
   clear W;go_wp2
   go_loopw [10,11] (fun o i wr=>∃(j:Nat) (L:(Option Addr)) (co:Nat),j<=q/\i=.int .i64 (j:Int)/\o=.slice L j co/\gS w6 wr/\Hid (wr.ownsRow w6.heap.size 9 1 (.slice L j co) j (fG ((xs.take j).map (·.1))))) (fun _ i _=>q-(intOf i).toNat)
   case atStart=>exact⟨0,none,0,oY _,rfl,rfl,i7 _ _,UV _ _ _ _⟩
   case round=>
    obtain⟨j,L,co,hj,rfl,rfl,M,Y⟩:=hrel;have aX:=M.size;by_cases aY:j<q
    ·have an:j<xs.length:=by rw[X.out];exact aY
     obtain⟨Z,bp,ao⟩:=ej G.out (by omega);have aZ:=(kW ao).1;subst aZ;have a0:Z<w6.heap.size:=ee G.out rfl;obtain⟨aa,_,_⟩:=i2 (off:=0) (hh G.out) an;rw[PH]at aa;have a1:=(M.cell (p:=(eb Z (j*3))) a0).trans aa;have bq:Z<wr.heap.size:=by omega
     obtain⟨y,s⟩:∃y,y=xs[j].1:=⟨_,rfl⟩;rw[<-s]at a1;have U:Hid (y=xs[j].1):=s;have br:(j:Int)<(q:Int):=by omega
     clear aa ao s;go_wp2_with(at_builtin;refine r6 _ rfl (.tmp 62) (.tmp 68) 131 rfl w6.heap.size 9 aA _ 1 16 underlying131 hi aB aC aD rfl (by decide) _ _ _ rfl (Y.out.alloc _) (eb wr.heap.size 0) 1 1 [.string y] rfl rfl (one_cell _ _ _ _ rfl) uf (by unfold maxLen;omega) (by omega) (by simp;omega) ?_);intro aR ap t E _;have a2:gS w6 ap:=pw (M.alloc aX _) (by simp;omega) (Y.out.alloc _) E;obtain⟨aq,ar,rfl⟩:=lf t;have a3:Hid (ap.ownsRow w6.heap.size 9 1 (.slice aq (j+1) ar) (j+1) (fG ((xs.take (j+1)).map (·.1)))):=by
      show World.ownsRow _ _ _ _ _ _ _;rw[sZ an,k7,fG,k7,WF,r7,WF,r7,<-U.out,Ke];exact t
     clear t E;go_wp2;go_roundw
     case rel=>exact⟨j+1,aq,ar,by omega,by go_num,rfl,a2,a3.out⟩
     case measure=>simp[intOf];omega
    ·have bs:decide ((j:Int)<(q:Int))=false:=m6 (by omega)
     have a4:Hid (j=q):=by show _=_;omega
     have a5:Hid ((xs.take j).map (·.1)=rc nodes d):=by show _=_;rw[am.out,jH (by rw[X.out];omega)]
     have a6:Hid ((rc nodes d).length=j):=by show _=_;rw[am.out,kU,X.out,a4.out]
     go_wp2;go_ret;refine⟨.slice L j co,rfl,?_,aW.trans (M.mono (by omega))⟩;rw[a6.out,<-a5.out];exact lw Y.out (by omega)
end
structure jN (nodes:List eD)(data:eB):Prop where
 big:nodes.length<=1000000000
 small:∀e∈nodes,e.1.size<=2097152
 few:∀d,(eE nodes d).length<=16
 files:∀e∈nodes,e.2.1=1->0<=e.2.2/\e.2.2<(data.length:Int)
theorem G9(a:List eD):(wl a).length=a.length:=(X2 a).length_eq
theorem lK(nodes:List eD)(d:eu):(rc nodes d).length=(eE nodes d).length:=by
 unfold rc;rw[kU,G9]
def pP (nodes:List eD)(l:eB):Int:=
 if tk nodes (l.take (l.length-1))≠0 then tk nodes (l.take (l.length-1))else if kh nodes (ek (l.take (l.length-1)))≠2 then 5 else 0
def vd (nodes:List eD)(p:eu):eB×Int:=
 if(fX p).2=false then([],1)else if tk nodes (fX p).1≠0 then([],tk nodes (fX p).1)else if kh nodes p≠2 then([],5) else(rc nodes p,0)
section
variable {F:Nat->Prop}{w:World}{S:Nat}{na da:e5}{nc dc:Nat}{nodes:List eD}{data:eB}{rest:fE}
theorem nR(h:eV F w S na da nc dc nodes data rest)(hf:jN nodes data)(d:eu):
  eK 154 #[fj S,.string d] w (ml (ed ((eE nodes d).length:Int)) w):=by
 have hn:=A5 h d hf.big hf.small (hf.few d);rw[lK]at hn;obtain⟨n,a⟩:∃n,n=(eE nodes d).length:=⟨_,rfl⟩;rw[<-a]at hn ⊢;have c:Hid _:=hn;clear hn h hf a;go_enter func154,ntmps154;go_wp2_with fail;refine g7 c.out ?_;rintro _ f ⟨v,rfl,b,e⟩;obtain⟨g,i,rfl⟩:=lf b;clear b;go_wp2;go_ret;exact⟨rfl,e⟩
theorem He(h:eV F w S na da nc dc nodes data rest)(hf:jN nodes data)(a:e5)(m c:Nat)(l:eB)(hl:gj w a m l)(hx:∀x∈l,x.size<=12)(hm:m<=2097152)(h0:0<m)(hc:m<=c):
  eK 158 #[fj S,.slice a m c] w (tz (.tuple #[.string (ek (l.take (l.length-1))),ed (pP nodes l)]) w):=by
 obtain⟨b,off,q,t,_⟩:=hl.2 h0;subst q;obtain⟨k,hk⟩:∃k:Nat,m=k+1:=⟨m-1,by omega⟩;have hj:=yE (some (eb b off)) k c (l.take k) w (hl.take k (by omega)) (fun x kN=>hx x (wY kN)) (by omega);have hw:=ug h (some (eb b off)) k c (l.take k) (hl.take k (by omega)) (fun x kN=>hx x (wY kN)) (by omega) (by omega) hf.big;have g:=lJ h (ek (l.take k)) hf.big;have hlk:l.length-1=k:=by have:=hl.1;omega
 have d:Hid (pP nodes l=if tk nodes (l.take k)≠0 then tk nodes (l.take k)else if kh nodes (ek (l.take k))≠2 then 5 else 0):=by show _=_;unfold pP;rw[hlk]
 rw[hlk];obtain⟨p,hp⟩:∃p,p=ek (l.take k):=⟨_,rfl⟩;obtain⟨e,n⟩:∃e,e=tk nodes (l.take k):=⟨_,rfl⟩;rw[<-hp]at hj g d ⊢;obtain⟨v,hv⟩:∃v,v=kh nodes p:=⟨_,rfl⟩;rw[<-n]at hw d;rw[<-hv]at g d;have i:Hid _:=hj;have j:Hid _:=hw;have o:Hid _:=g;have u:(m:Int)-1=(k:Int):=by omega
 have y:(k:Int)<=(c:Int):=by omega
 clear hj hw g hp n hv hlk hl hx h hf hk;by_cases h1:e=0
 ·have r:(e != 0)=false:=by simp[h1]
  by_cases h2:v=2
  ·have s:(v != 2)=false:=by simp[h2]
   have f:Hid (pP nodes l=0):=by show _=_;rw[d.out,eJ (by simp[h1]),eJ (by simp[h2])]
   clear h1 h2;go_enter func158,ntmps158;go_wp2_with fail;refine g7 i.out ?_;rintro _ _ ⟨rfl,rfl⟩;go_wp2_with fail;refine g7 j.out ?_;rintro _ _ ⟨rfl,rfl⟩;go_wp2_with fail;refine g7 o.out ?_;rintro _ _ ⟨rfl,rfl⟩;go_wp2;go_ret2;exact⟨by rw[f.out];rfl,rfl⟩
  ·have s:(v != 2)=true:=by simp[h2]
   have f:Hid (pP nodes l=5):=by show _=_;rw[d.out,eJ (by simp[h1]),fY h2]
   clear h1 h2;go_enter func158,ntmps158;go_wp2_with fail;refine g7 i.out ?_;rintro _ _ ⟨rfl,rfl⟩;go_wp2_with fail;refine g7 j.out ?_;rintro _ _ ⟨rfl,rfl⟩;go_wp2_with fail;refine g7 o.out ?_;rintro _ _ ⟨rfl,rfl⟩;go_wp2;go_ret2;exact⟨by rw[f.out];rfl,rfl⟩
 ·have r:(e != 0)=true:=by simp[h1]
  have f:Hid (pP nodes l=e):=by show _=_;rw[d.out,fY h1]
  clear h1;go_enter func158,ntmps158;go_wp2_with fail;refine g7 i.out ?_;rintro _ _ ⟨rfl,rfl⟩;go_wp2_with fail;refine g7 j.out ?_;rintro _ _ ⟨rfl,rfl⟩;go_wp2;go_ret2;exact⟨by rw[f.out];rfl,rfl⟩
theorem EQ{s:eu}(h:(fX s).2=true):(fX s).1.length<=5:=by
 unfold fX at h ⊢;split at h
 ·next h0=>rw[fY h0];exact oY _
 ·next h0=>
  rw[eJ h0];split at h
  ·next h1=>rw[fY h1];exact s8 h
  ·cases h
theorem K5(h:eV F w S na da nc dc nodes data rest)(hf:jN nodes data)(p:eu)(hp:p.size<=2097152):
  eK 91 #[fj S,.string p] w fun e w'=>∃v,e=.returned (.tuple #[v,ed (vd nodes p).2])/\w'.ownsRow w.heap.size 9 1 v (vd nodes p).1.length (fG (vd nodes p).1)/\gS w w':=by
 have a:=QR p w hp;have m:=Do p;cases b:(fX p).2 with
 |false=>
  have c:Hid (vd nodes p=([],1)):=by show _=_;unfold vd;rw[fY b]
  rw[b]at a;have k:Hid _:=a;clear a b h hf;go_enter func91,ntmps91;go_wp2_with fail;refine g7 k.out ?_;rintro _ B ⟨v,rfl,f,d⟩;clear f;go_wp2;go_ret2;rw[c.out];exact⟨_,rfl,UV _ _ _ _,d⟩
 |true=>
  have s:=EQ b;rw[b]at a;obtain⟨xs,o⟩:∃xs,xs=(fX p).1:=⟨_,rfl⟩;have g:Hid (vd nodes p=if tk nodes xs≠0 then([],tk nodes xs)else if kh nodes p≠2 then([],5) else(rc nodes p,0)):=by show _=_;unfold vd;rw[eJ (by rw[b];decide),o]
  rw[<-o]at a m s;have C:Hid (∀x∈xs,x.size<=12):=m;have D:Hid (eV F w S na da nc dc nodes data rest):=h;have i:Hid (jN nodes data):=hf;obtain⟨n,hn⟩:∃n,n=xs.length:=⟨_,rfl⟩;rw[<-hn]at a s;have k:Hid _:=a;clear a b o m h hf hn;go_enter func91,ntmps91;go_wp2_with fail;refine g7 k.out ?_;rintro _ B ⟨v,rfl,f,d⟩;obtain⟨E,G,rfl⟩:=lf f;have H:=jf f;have l:=D.out.below d;have hw:=ug l E n G xs (rv f) C.out (by omega) H i.out.big;have q:=lJ l p i.out.big;have t:=A5 l p i.out.big i.out.small (i.out.few p);obtain⟨e,u⟩:∃e,e=tk nodes xs:=⟨_,rfl⟩;obtain⟨j,mC⟩:∃j,j=kh nodes p:=⟨_,rfl⟩;rw[<-u]at hw g;rw[<-mC]at q g;have r:Hid _:=hw;have y:Hid _:=q;have I:Hid _:=t;have z:=d.size;clear hw q t u mC f l k;by_cases h1:e=0
  ·have J:(e != 0)=false:=by simp[h1]
   by_cases h2:j=2
   ·have K:(j != 2)=false:=by simp[h2]
    have c:Hid (vd nodes p=(rc nodes p,0)):=by show _=_;rw[g.out,eJ (by simp[h1]),eJ (by simp[h2])]
    clear h1 h2;go_wp2_with fail;refine g7 r.out ?_;rintro _ _ ⟨rfl,rfl⟩;go_wp2_with fail;refine g7 y.out ?_;rintro _ _ ⟨rfl,rfl⟩;go_wp2_with fail;refine g7 I.out ?_;rintro _ N ⟨v,rfl,A,L⟩;have M:Hid _:=A;clear A;go_wp2;go_ret2;rw[c.out];exact⟨v,rfl,lw M.out z,d.trans (L.mono z)⟩
   ·have K:(j != 2)=true:=by simp[h2]
    have c:Hid (vd nodes p=([],5)):=by show _=_;rw[g.out,eJ (by simp[h1]),fY h2]
    clear h1 h2;go_wp2_with fail;refine g7 r.out ?_;rintro _ _ ⟨rfl,rfl⟩;go_wp2_with fail;refine g7 y.out ?_;rintro _ _ ⟨rfl,rfl⟩;go_wp2;go_ret2;rw[c.out];exact⟨_,rfl,UV _ _ _ _,d⟩
  ·have J:(e != 0)=true:=by simp[h1]
   have c:Hid (vd nodes p=([],e)):=by show _=_;rw[g.out,fY h1]
   clear h1;go_wp2_with fail;refine g7 r.out ?_;rintro _ _ ⟨rfl,rfl⟩;go_wp2;go_ret2;rw[c.out];exact⟨_,rfl,UV _ _ _ _,d⟩
end
def np (p t:eu):Bool:=if h:t.size+1<p.size then((p.extract 0 t.size).toList==t.toList)&&decide (p[t.size]'(by omega)=47)else false
def mi (nodes:List eD)(p:eu):List eD:=nodes.filter (fun e=>!(e.1.toList==p.toList)&&!(np e.1 p))
theorem nS(p t:eu)(w:World)(hp:p.size<=2097152)(ht:t.size<=2097152):
  eK 161 #[.string p,.string t] w (tz (.bool (np p t)) w):=by
 by_cases h1:t.size+1<p.size
 ·have b:(t.size:Int)+1<(p.size:Int):=by omega
  have hle:(t.size:Int)<=(p.size:Int):=by omega
  have d:(t.size:Int)<(p.size:Int):=by omega
  have f:t.size<p.size:=by omega
  cases h2:((p.extract 0 t.size).toList==t.toList) with
  |true=>
   by_cases h3:p[t.size]=47
   ·have c:((p[t.size].toNat:Int)==47)=true:=by rw[h3];rfl
    have a:Hid (np p t=true):=by show _=_;unfold np;rw[dif_pos h1,h2,jT h3];rfl
    clear h3;go_enter func161,ntmps161;go_wp2;go_ret;exact⟨by rw[a.out];rfl,rfl⟩
   ·have c:((p[t.size].toNat:Int)==47)=false:=BP.2 fun e=>h3 (Nb.1 (by have:(47:UInt8).toNat=47:=rfl;omega))
    have a:Hid (np p t=false):=by show _=_;unfold np;rw[dif_pos h1,h2,m6 h3];rfl
    clear h3;go_enter func161,ntmps161;go_wp2;go_ret;exact⟨by rw[a.out];rfl,rfl⟩
  |false=>
   have a:Hid (np p t=false):=by show _=_;unfold np;rw[dif_pos h1,h2];rfl
   go_enter func161,ntmps161;go_wp2;go_ret;exact⟨by rw[a.out];rfl,rfl⟩
 ·have b:decide ((t.size:Int)+1<(p.size:Int))=false:=m6 (by omega)
  have a:Hid (np p t=false):=by show _=_;unfold np;rw[dif_neg h1]
  go_enter func161,ntmps161;go_wp2;go_ret;exact⟨by rw[a.out];rfl,rfl⟩
def eN (F:Nat->Prop)(w:World)(S:Nat)(nodes:List eD)(data:eB)(rest:fE):Prop:=∃na nc da dc,eV F w S na da nc dc nodes data rest
theorem Cw(hk:k<nodes.length)(h:(!(nodes[k].1.toList==p.toList)&&!(np nodes[k].1 p))=true):mi (nodes.take (k+1)) p=mi (nodes.take k) p++[nodes[k]]:=by
 unfold mi;rw[sZ hk,Ng];simp only[List.filter_cons,h,Gr,List.filter_nil]
theorem rV(hk:k<nodes.length)(h:(!(nodes[k].1.toList==p.toList)&&!(np nodes[k].1 p))=false):mi (nodes.take (k+1)) p=mi (nodes.take k) p:=by
 unfold mi;rw[sZ hk,Ng];simp[h]
theorem nT:(prog.info? 200).map (fun i=>(i.zero,i.size,i.bytes))=some (some (.agg #[.string ByteArray.empty,ed 0,ed 0]),3,32):=by kernel_rfl
section
variable {F:Nat->Prop}{w:World}{S:Nat}{na da:e5}{nc dc:Nat}{nodes:List eD}{data:eB}{rest:fE}
theorem eV.Es(h:eV F w S na da nc dc nodes data rest){wr:World}(a:gS w wr){c:e5}{q co:Nat}{ns:List eD}(hq:q=ns.length)(ho:wr.ownsRow w.heap.size 200 3 (.slice c q co) q (flat ns)):
  eN (ie F w (wr.setCell (eb S 0) (.slice c q co))) (wr.setCell (eb S 0) (.slice c q co)) S ns data rest/\en F w (wr.setCell (eb S 0) (.slice c q co)):=by
 subst hq;have d:wr.heap[S]?=some (.cells (Value.slice na nodes.length nc::Value.slice da data.length dc::rest).toArray 179 (0,0)):=(a.block S h.lt).trans h.hS;have f:=a.size;have hne:∀{t:fL} {b z n:Nat} {v:Value} {xs:fE},wr.ownsRow b t z v n xs->179≠t->∀g,v.ownBlock=some g->g≠S:=fun hr ht g hg e=>eI hr d ht (by rw[<-e];exact hg.symm)
 refine⟨⟨c,co,da,dc,⟨.inl h.fS,?_,?_,?_,?_,?_⟩⟩,⟨a.os,a.tape,a.output,by simpa using f,fun k hk hn=>?_⟩⟩
 ·simp[World.setCell,xE,d]
 ·exact lw (eh ho (fun g hg=>ij _ _ _ _ (hne ho (by decide) g hg))) (oY _)
 ·have hd:=eh h.fP (fun g hg=>a.block g (ee h.fP hg))
  exact eh hd (fun g hg=>ij _ _ _ _ (hne hd (by decide) g hg))
 ·intro g hg
  have:=ho.lt g hg
  exact .inr ⟨this.1,by simpa using this.2⟩
 ·intro g hg;exact .inl (h.fd g hg)
 ·rw[ij _ _ _ _ (fun e=>hn (by rw[show k=S from e];exact h.fS)),a.block k hk]
theorem Et(h:eV F w S na da nc dc nodes data rest)(hf:jN nodes data)(p:ByteArray)(hp:p.size<=2097152):
  eK 160 #[fj S,.string p] w fun e w'=>e=.returned (.tuple #[])/\eN (ie F w w') w' S (mi nodes p) data rest/\en F w w':=by
 obtain⟨E,hi,G,H,I⟩:=H4 nT;have y:Hid (eV F w S na da nc dc nodes data rest):=h;have J:Hid (jN nodes data):=hf;obtain⟨n,hn⟩:∃n,n=nodes.length:=⟨_,rfl⟩;have t:Hid (n=nodes.length):=hn;have U:n<=1000000000:=by rw[hn];exact hf.big
 clear h hf hn;go_enter func160,ntmps160;go_wp2
 go_loopw [4,5] (fun o i wr=>∃(k q:Nat) (l:(Option Addr)) (co:Nat),k<=n/\i=.int .i64 (k:Int)/\o=.slice l q co/\q<=k/\gS w wr/\Hid (q=(mi (nodes.take k) p).length)/\Hid (wr.ownsRow w.heap.size 200 3 (.slice l q co) q (flat (mi (nodes.take k) p)))) (fun _ i _=>n-(intOf i).toNat)
 case atStart=>exact⟨0,0,none,0,oY _,rfl,rfl,io _,i7 _ _,rfl,UV _ _ _ _⟩
 case round=>
  obtain⟨k,q,l,co,hk,rfl,rfl,V,d,m,f⟩:=hrel;have a:=y.out.below d;have K:=a.c0;have W:=a.lt;rw[<-t.out]at K;have L:=d.size;by_cases M:k<n
  ·have r:k<nodes.length:=by rw[<-t.out];exact M
   have j:=a.iP;obtain⟨g,X,hv⟩:=ej j (by omega);have N:=(kW hv).1;subst N;obtain⟨c0,c1,c2⟩:=i2 (off:=0) (hh j) r;rw[PH]at c0 c1 c2;have Y:=ee j rfl;have z:=J.out.small _ (iF r);obtain⟨x,hx⟩:∃x,x=nodes[k]:=⟨_,rfl⟩;rw[<-hx]at c0 c1 c2 z;have Z:Hid (x=nodes[k]):=hx;have c:=nS x.1 p wr z hp;have aa:(k:Int)<(n:Int):=by omega
   cases s:(x.1.toList==p.toList) with
   |true=>
    have O:(x.1.toList != p.toList)=false:=by rw[bne,s];rfl
    have b:Hid (mi (nodes.take (k+1)) p=mi (nodes.take k) p):=rV r (by rw[<-hx,s];rfl);clear c hx hv j a;go_wp2;go_roundw
    case rel=>exact⟨k+1,q,l,co,by omega,by go_num,rfl,by omega,d,by show _=_;rw[b.out];exact m.out,by show World.ownsRow _ _ _ _ _ _ _;rw[b.out];exact f.out⟩
    case measure=>simp[intOf];omega
   |false=>
    have O:(x.1.toList != p.toList)=true:=by rw[bne,s];rfl
    cases hu:np x.1 p with
    |true=>
     have b:Hid (mi (nodes.take (k+1)) p=mi (nodes.take k) p):=rV r (by rw[<-hx,s,hu];rfl);rw[hu]at c;have u:Hid _:=c;clear c hx hv j a hu;go_wp2_with fail;refine g7 u.out ?_;rintro _ _ ⟨rfl,rfl⟩;go_wp2;go_roundw
     case rel=>exact⟨k+1,q,l,co,by omega,by go_num,rfl,by omega,d,by show _=_;rw[b.out];exact m.out,by show World.ownsRow _ _ _ _ _ _ _;rw[b.out];exact f.out⟩
     case measure=>simp[intOf];omega
    |false=>
     have b:Hid (mi (nodes.take (k+1)) p=mi (nodes.take k) p++[x]):=by show _=_;rw[Cw r (by rw[<-hx,s,hu];rfl),<-hx]
     rw[hu]at c;have u:Hid _:=c;clear c hx hv j a hu;go_wp2_with fail;refine g7 u.out ?_;rintro _ _ ⟨rfl,rfl⟩;rename World=>wq
     go_wp2_with(at_builtin;refine r6 _ rfl (.tmp 33) (.tmp 41) 174 rfl w.heap.size 200 E _ 3 32 underlying174 hi G H I rfl (by decide) _ _ _ rfl (f.out.alloc _) (eb wq.heap.size 0) 1 1 (kA x) rfl rfl (m0 wq x _ _ rfl) (lL _) (by unfold maxLen;omega) (by omega) (by simp;omega) ?_);intro ab A v B _;have P:gS w A:=pw (d.alloc L _) (by simp;omega) (f.out.alloc _) B;obtain⟨C,D,rfl⟩:=lf v;have Q:Hid (A.ownsRow w.heap.size 200 3 (.slice C (q+1) D) (q+1) (flat (mi (nodes.take (k+1)) p))):=by show World.ownsRow _ _ _ _ _ _ _;rw[b.out,ld,mn];exact v
     clear v B;go_wp2;go_roundw
     case rel=>exact⟨k+1,q+1,C,D,by omega,by go_num,rfl,by omega,P,by show _=_;rw[b.out,m.out];simp,Q.out⟩
     case measure=>simp[intOf];omega
  ·have R:Hid (nodes.take k=nodes):=jH (by have:=t.out;omega)
   rw[R.out]at m f;have ac:decide ((k:Int)<(n:Int))=false:=m6 (by omega);have ad:wr.frozen? (eb S 0)=false:=by simp[World.frozen?,a.hS]
   have T:Hid _:=y.out.Es d m.out f.out;clear a;go_wp2;go_end0;exact⟨rfl,T.out⟩
end
def li (nodes:List eD)(p:eu):List eD×Int:=
 if(fX p).2=false then(nodes,1)else if(fX p).1.length=0 then(nodes,9)else if tk nodes (fX p).1≠0 then(nodes,tk nodes (fX p).1)else if 0<(eE nodes p).length then(nodes,8) else(mi nodes p,0)
def m4 (nodes:List eD)(p:eu):List eD×Int:=
 if(fX p).2=false then(nodes,1)else if(fX p).1.length=0 then(nodes,6)else if pP nodes (fX p).1≠0 then(nodes,pP nodes (fX p).1)else if kh nodes p≠0 then(nodes,6)
 else if 16<=(eE nodes (ek ((fX p).1.take ((fX p).1.length-1)))).length then(nodes,11) else(nodes++[(p,2,0)],0)
section
variable {F:Nat->Prop}{w:World}{S:Nat}{na da:e5}{nc dc:Nat}{nodes:List eD}{data:eB}{rest:fE}
theorem eN.below(h:eN F w S nodes data rest)(a:gS w w'):eN (ie F w w') w' S nodes data rest:=by
 obtain⟨na,nc,da,dc,h⟩:=h;exact⟨na,nc,da,dc,(h.below a).keep (fun _ h=>.inl h) (fun _ _=>rfl)⟩
theorem Eu(h:eV F w S na da nc dc nodes data rest)(hf:jN nodes data)(p:eu)(hp:p.size<=2097152):
  eK 96 #[fj S,.string p] w fun e w'=>e=.returned (ed (li nodes p).2)/\eN (ie F w w') w' S (li nodes p).1 data rest/\en F w w':=by
 have c:=QR p w hp;have r:=Do p;have J:Hid (eV F w S na da nc dc nodes data rest):=h;have s:Hid (jN nodes data):=hf;have l:Hid (∀w',gS w w'->eN (ie F w w') w' S nodes data rest/\en F w w'):=fun w' a=>⟨eN.below ⟨na,nc,da,dc,h⟩ a,en.ew a⟩;clear h hf;cases d:(fX p).2 with
 |false=>
  have b:Hid (li nodes p=(nodes,1)):=by show _=_;unfold li;rw[fY d]
  rw[d]at c;have i:Hid _:=c;clear c d;go_enter func96,ntmps96;go_wp2_with fail;refine g7 i.out ?_;rintro _ K ⟨v,rfl,f,a⟩;clear f;go_wp2;go_ret;rw[b.out];exact⟨rfl,l.out _ a⟩
 |true=>
  have z:=EQ d;rw[d]at c;obtain⟨xs,t⟩:∃xs,xs=(fX p).1:=⟨_,rfl⟩;have g:Hid (li nodes p=if xs.length=0 then(nodes,9)else if tk nodes xs≠0 then(nodes,tk nodes xs)else if 0<(eE nodes p).length then(nodes,8) else(mi nodes p,0)):=by show _=_;unfold li;rw[eJ (by rw[d];decide),t]
  rw[<-t]at c r z;have L:Hid (∀x∈xs,x.size<=12):=r;obtain⟨n,hn⟩:∃n,n=xs.length:=⟨_,rfl⟩;rw[<-hn]at c z g;have i:Hid _:=c;clear c d t r hn;go_enter func96,ntmps96;go_wp2_with fail;refine g7 i.out ?_;rintro _ K ⟨v,rfl,f,a⟩;obtain⟨M,N,rfl⟩:=lf f;have O:=jf f;have j:=J.out.below a;have A:=a.size;by_cases h0:n=0
  ·have b:Hid (li nodes p=(nodes,9)):=by show _=_;rw[g.out,fY h0]
   have P:((n:Int)==0)=true:=by simp[h0]
   clear h0 f j i;go_wp2;go_ret;rw[b.out];exact⟨rfl,l.out _ a⟩
  ·have P:((n:Int)==0)=false:=by simp[h0]
   have hw:=ug j M n N xs (rv f) L.out (by omega) O s.out.big;have u:=nR j s.out p;obtain⟨e,B⟩:∃e,e=tk nodes xs:=⟨_,rfl⟩;obtain⟨q,hq⟩:∃q,q=(eE nodes p).length:=⟨_,rfl⟩;rw[<-B]at hw g;rw[<-hq]at u g;have y:Hid _:=hw;have C:Hid _:=u;have Q:Hid _:=j;clear hw u B hq f j i;by_cases h1:e=0
   ·have R:(e != 0)=false:=by simp[h1]
    by_cases h2:0<q
    ·have D:(0:Int)<(q:Int):=by omega
     have b:Hid (li nodes p=(nodes,8)):=by show _=_;rw[g.out,eJ h0,eJ (by simp[h1]),fY h2]
     clear h1 h2 h0;go_wp2_with fail;refine g7 y.out ?_;rintro _ _ ⟨rfl,rfl⟩;go_wp2_with fail;refine g7 C.out ?_;rintro _ E ⟨rfl,m⟩;go_wp2;go_ret;rw[b.out];exact⟨rfl,l.out _ (a.trans (m.mono A))⟩
    ·have D:decide ((0:Int)<(q:Int))=false:=m6 (by omega)
     have b:Hid (li nodes p=(mi nodes p,0)):=by show _=_;rw[g.out,eJ h0,eJ (by simp[h1]),eJ h2]
     obtain rfl:q=0:=by omega
     clear h1 h2 h0 D;go_wp2_with fail;refine g7 y.out ?_;rintro _ _ ⟨rfl,rfl⟩;go_wp2_with fail;refine g7 C.out ?_;rintro _ E ⟨rfl,m⟩;have G:gS w E:=a.trans (m.mono A);have H:Hid _:=Et (eV.below Q.out m) s.out p hp;go_wp2_with fail;refine g7 H.out ?_;rintro _ w3 ⟨rfl,o,I⟩;have Y:=G.size;have T:Hid (eN (ie F w w3) w3 S (mi nodes p) data rest/\en F w w3):=by
      obtain⟨U,V,W,X,o⟩:=o;exact⟨⟨U,V,W,X,o.keep (fun k hk=>by rcases hk with h|h;exact .inl h;exact .inr ⟨by omega,h.2⟩) (fun _ _=>rfl)⟩,en.after I G⟩
     clear o I H;go_wp2;go_ret;rw[b.out];exact⟨rfl,T.out⟩
   ·have R:(e != 0)=true:=by simp[h1]
    have b:Hid (li nodes p=(nodes,e)):=by show _=_;rw[g.out,eJ h0,fY h1]
    clear h1 h0;go_wp2_with fail;refine g7 y.out ?_;rintro _ _ ⟨rfl,rfl⟩;go_wp2;go_ret;rw[b.out];exact⟨rfl,l.out _ a⟩
theorem eV.push(h:eV F w S na da nc dc nodes data rest){g a:Nat}{x:eD}(P:w'.heap[S]?=some (.cells ((Value.slice na nodes.length nc::Value.slice da data.length dc::rest).toArray.setIfInBounds 0 (.slice (some (eb g 0)) (nodes.length+1) a)) 179 (0,0))/\
   w'.ownsRow 0 200 3 (.slice (some (eb g 0)) (nodes.length+1) a) (nodes.length+1) (flat nodes++kA x)/\((some g:Option Nat)=(Value.slice na nodes.length nc).ownBlock\/w.heap.size<=g)/\en (fun k=>k=S\/some k=(Value.slice na nodes.length nc).ownBlock) w w'):
  eN (ie F w w') w' S (nodes++[x]) data rest/\en F w w':=by
 obtain⟨d,b,e,c⟩:=P;have hl:(nodes++[x]).length=nodes.length+1:=by simp
 refine⟨⟨some (eb g 0),a,da,dc,⟨.inl h.fS,?_,?_,?_,?_,?_⟩⟩,nK c h.fS h.fn⟩
 ·rw[hl,d];simp
 ·rw[hl,ld,mn];exact b
 ·exact QP h.fP c h.hS (by decide) (fun g hg=>ma h.fP h.iP (by decide) hg)
 ·rw[hl];exact tJ b e h.fn
 ·intro g hg;exact .inl (h.fd g hg)
theorem Hf(h:eV F w S na da nc dc nodes data rest)(hf:jN nodes data)(p:eu)(hp:p.size<=2097152):
  eK 95 #[fj S,.string p] w fun e w'=>e=.returned (ed (m4 nodes p).2)/\eN (ie F w w') w' S (m4 nodes p).1 data rest/\en F w w':=by
 obtain⟨Y,hi,Z,aa,ab⟩:=H4 nT;have d:=QR p w hp;have E:=Do p;have ac:Hid (eV F w S na da nc dc nodes data rest):=h;have z:Hid (jN nodes data):=hf;have r:Hid (∀w',gS w w'->eN (ie F w w') w' S nodes data rest/\en F w w'):=fun w' a=>⟨eN.below ⟨na,nc,da,dc,h⟩ a,en.ew a⟩;clear h hf;cases g:(fX p).2 with
 |false=>
  have b:Hid (m4 nodes p=(nodes,1)):=by show _=_;unfold m4;rw[fY g]
  rw[g]at d;have s:Hid _:=d;clear d g;go_enter func95,ntmps95;go_wp2_with fail;refine g7 s.out ?_;rintro _ ad ⟨v,rfl,j,a⟩;clear j;go_wp2;go_ret;rw[b.out];exact⟨rfl,r.out _ a⟩
 |true=>
  have Q:=EQ g;rw[g]at d;obtain⟨xs,G⟩:∃xs,xs=(fX p).1:=⟨_,rfl⟩;have c:Hid (m4 nodes p=if xs.length=0 then(nodes,6)else if pP nodes xs≠0 then(nodes,pP nodes xs)else if kh nodes p≠0 then(nodes,6)else if 16<=(eE nodes (ek (xs.take (xs.length-1)))).length then(nodes,11) else(nodes++[(p,2,0)],0)):=by
   show _=_;unfold m4;rw[eJ (by rw[g];decide),G]
  rw[<-G]at d E Q;have ae:Hid (∀x∈xs,x.size<=12):=E;obtain⟨t,H⟩:∃t,t=ek (xs.take (xs.length-1)):=⟨_,rfl⟩;rw[<-H]at c;have af:Hid (t=ek (xs.take (xs.length-1))):=H;obtain⟨n,hn⟩:∃n,n=xs.length:=⟨_,rfl⟩;rw[<-hn]at d Q c;have s:Hid _:=d;clear d g G E hn H;go_enter func95,ntmps95;go_wp2_with fail;refine g7 s.out ?_;rintro _ ad ⟨v,rfl,j,a⟩;obtain⟨ag,ah,rfl⟩:=lf j;have ai:=jf j;have l:=ac.out.below a;have I:=a.size;by_cases h0:n=0
  ·have b:Hid (m4 nodes p=(nodes,6)):=by show _=_;rw[c.out,fY h0]
   subst h0;clear j l s;go_wp2;go_ret;rw[b.out];exact⟨rfl,r.out _ a⟩
  ·have ax:((n:Int)==0)=false:=by simp[h0]
   have A:=He l z.out ag n ah xs (rv j) ae.out (by omega) (by omega) ai;rw[<-af.out]at A;have J:=lJ l p z.out.big;have K:=nR l z.out t;obtain⟨e,R⟩:∃e,e=pP nodes xs:=⟨_,rfl⟩;obtain⟨u,mC⟩:∃u,u=kh nodes p:=⟨_,rfl⟩;obtain⟨q,hq⟩:∃q,q=(eE nodes t).length:=⟨_,rfl⟩;rw[<-R]at A c;rw[<-mC]at J c;rw[<-hq]at K c;have B:Hid _:=A;have L:Hid _:=J;have M:Hid _:=K;have aj:Hid _:=l;clear A J K R mC hq j l s;by_cases h1:e=0
   ·have ak:(e != 0)=false:=by simp[h1]
    by_cases h2:u=0
    ·have al:(u != 0)=false:=by simp[h2]
     by_cases h3:16<=q
     ·have am:(16:Int)<=(q:Int):=by omega
      have b:Hid (m4 nodes p=(nodes,11)):=by show _=_;rw[c.out,eJ h0,eJ (by simp[h1]),eJ (by simp[h2]),fY h3]
      clear h1 h2 h0;go_wp2_with fail;refine g7 B.out ?_;rintro _ _ ⟨rfl,rfl⟩;go_wp2_with fail;refine g7 L.out ?_;rintro _ _ ⟨rfl,rfl⟩;go_wp2_with fail;refine g7 M.out ?_;rintro _ f ⟨rfl,o⟩;go_wp2;go_ret;rw[b.out];exact⟨rfl,r.out _ (a.trans (o.mono I))⟩
     ·have am:decide ((16:Int)<=(q:Int))=false:=m6 (by omega)
      have ay:¬(16:Int)<=(q:Int):=(by omega);have b:Hid (m4 nodes p=(nodes++[(p,2,0)],0)):=by show _=_;rw[c.out,eJ h0,eJ (by simp[h1]),eJ (by simp[h2]),eJ h3]
      clear h1 h2 h0;go_wp2_with fail;refine g7 B.out ?_;rintro _ _ ⟨rfl,rfl⟩;go_wp2_with fail;refine g7 L.out ?_;rintro _ _ ⟨rfl,rfl⟩;go_wp2_with fail;refine g7 M.out ?_;rintro _ f ⟨rfl,o⟩;have T:gS w f:=a.trans (o.mono I);have y:=eV.below aj.out o;have an:=y.c0;have az:=y.lt;obtain⟨m,hm⟩:∃m,m=nodes.length:=⟨_,rfl⟩;have aA:m<=1000000000:=by rw[hm];exact z.out.big
      have U:Hid (m=nodes.length):=hm;have N:Hid (f.ownsRow 0 200 3 (.slice na m nc) m (flat nodes)):=by rw[hm];exact y.iP
      have V:Hid (eV F f S na da nc dc nodes data rest):=y;rw[<-hm]at an;clear y hm;go_wp2_with(at_builtin;refine hE rfl (.tmp 44) (.tmp 47) 174 rfl 0 200 Y _ 3 32 underlying174 hi Z aa ab rfl (by decide) (.slice na m nc) m (flat nodes) rfl (mL N.out _) (eb f.heap.size 0) 1 1 (kA (p,2,0)) rfl rfl (m0 f (p,2,0) _ _ rfl) (lL _) (by unfold maxLen;omega) (by omega) (oY _) ?_);intro aB w3 O C W;obtain⟨g3,c3,rfl⟩:=ej O (by omega);have D:=V.out.hS;have P:=oX D (hZ _ _) (by simp) C (eI N.out D (by decide));have aC:f.heap.size<=w3.heap.size:=by have:=C.size;simp at this;omega
      have aD:w3.cell? (eb S 0)=some (.slice na m nc):=by rw[U.out];simp[World.cell?,P]
      have aE:w3.frozen? (eb S 0)=false:=(by simp[World.frozen?,P]);have aF:S<w3.heap.size:=by omega
      have X:=kw (i:=0) D N.out (by decide) (hZ _ _) (by simp) ⟨rfl,rfl,rfl⟩ O C W (by simp);have ao:Hid (eN (ie F w (w3.setCell (eb S 0) (.slice (some (eb g3 0)) (m+1) c3))) (w3.setCell (eb S 0) (.slice (some (eb g3 0)) (m+1) c3)) S (nodes++[(p,2,0)]) data rest/\en F w (w3.setCell (eb S 0) (.slice (some (eb g3 0)) (m+1) c3))):=by
       have hm:=U.out;subst hm;obtain⟨⟨ap,aq,ar,au,av⟩,aw⟩:=V.out.push X
       have:=T.size
       exact⟨⟨ap,aq,ar,au,av.keep (fun k hk=>by rcases hk with h|h;exact .inl h;exact .inr ⟨by omega,h.2⟩) (fun _ _=>rfl)⟩,en.after aw T⟩
      clear O C W X P D;go_wp2;go_ret;rw[b.out];exact⟨rfl,ao.out⟩
    ·have al:(u != 0)=true:=by simp[h2]
     have b:Hid (m4 nodes p=(nodes,6)):=by show _=_;rw[c.out,eJ h0,eJ (by simp[h1]),fY h2]
     clear h1 h2 h0;go_wp2_with fail;refine g7 B.out ?_;rintro _ _ ⟨rfl,rfl⟩;go_wp2_with fail;refine g7 L.out ?_;rintro _ _ ⟨rfl,rfl⟩;go_wp2_with fail;refine g7 M.out ?_;rintro _ f ⟨rfl,o⟩;go_wp2;go_ret;rw[b.out];exact⟨rfl,r.out _ (a.trans (o.mono I))⟩
   ·have ak:(e != 0)=true:=by simp[h1]
    have b:Hid (m4 nodes p=(nodes,e)):=by show _=_;rw[c.out,eJ h0,fY h1]
    clear h1 h0;go_wp2_with fail;refine g7 B.out ?_;rintro _ _ ⟨rfl,rfl⟩;go_wp2;go_ret;rw[b.out];exact⟨rfl,r.out _ a⟩
end
def jC (nodes:List eD)(data:eB)(p:eu):Int×Int:=
 match je nodes p with
 |some i=>if((nodes[i]?).map (fun e:eD=>e.2.1)).getD 0=1 then(1,((data.getD (((nodes[i]?).map (fun e:eD=>e.2.2)).getD 0).toNat ⟨#[]⟩).size:Int)) else(2,((eE nodes p).length:Int))
 |none=>(2,((eE nodes p).length:Int))
def P2 (nodes:List eD)(data:eB)(p:eu):(Int×Int)×Int:=
 if(fX p).2=false then((0,0),1)else if tk nodes (fX p).1≠0 then((0,0),tk nodes (fX p).1) else(jC nodes data p,0)
theorem Ev(h:je nodes p=none):jC nodes data p=(2,((eE nodes p).length:Int)):=by unfold jC;rw[h]
theorem Hg(h:je nodes p=some i)(hi:i<nodes.length)(hk:nodes[i].2.1≠1):jC nodes data p=(2,((eE nodes p).length:Int)):=by
 unfold jC;rw[h];simp only[gJ hi,jS,nG];rw[eJ hk]
theorem Ew{i j:Nat}(h:je nodes p=some i)(hi:i<nodes.length)(hk:nodes[i].2.1=1)(hj:nodes[i].2.2=(j:Int))(a:j<data.length):jC nodes data p=(1,(data[j].size:Int)):=by
 unfold jC;rw[h];simp only[gJ hi,jS,nG];rw[fY hk,hj,lV,s5,gJ a];rfl
section
variable {F:Nat->Prop}{w:World}{S:Nat}{na da:e5}{nc dc:Nat}{nodes:List eD}{data:eB}{rest:fE}
theorem K6(h:eV F w S na da nc dc nodes data rest)(hf:jN nodes data)(p:eu)(hp:p.size<=2097152)(hd:data.length<=1000000000):
  eK 90 #[fj S,.string p] w (ml (.tuple #[.agg #[ed (P2 nodes data p).1.1,ed (P2 nodes data p).1.2],ed (P2 nodes data p).2]) w):=by
 have W:∀B,gS w (w.alloc B):=fun B=>(i7 _ _).alloc (io _) _;have k:=fun B=>QR p (w.alloc B) hp;have M:=Do p;cases y:(fX p).2 with
 |false=>
  have c:Hid (P2 nodes data p=((0,0),1)):=by show _=_;unfold P2;rw[fY y]
  rw[y]at k;have H:Hid _:=k;clear k y h hf;go_enter func90,ntmps90;go_wp2_with fail;refine g7 (H.out _) ?_;rintro _ l ⟨v,rfl,A,a⟩;have o:=(W _).trans (a.mono (by simp));have r:=a.cell (p:=(eb w.heap.size 0)) (by simp);have s:=a.cell (p:=(eb w.heap.size 1)) (by simp);have f0:=a.frozen (p:=(eb w.heap.size 0)) (by simp);have f1:=a.frozen (p:=(eb w.heap.size 1)) (by simp);simp at r s f0 f1;have aB:=kv (show w.heap.size<w.heap.size+1 by omega) (by have:=a.size;simpa using this);clear A;go_wp2;rw[c.out];exact jr (v:=.tuple #[.agg #[ed 0,ed 0],ed 1]) (by simp[results,results90,go_sem,r,s]) rfl ⟨rfl,(o.setCell (io _) _).setCell (io _) _⟩
 |true=>
  have X:=EQ y;rw[y]at k;obtain⟨xs,N⟩:∃xs,xs=(fX p).1:=⟨_,rfl⟩;obtain⟨q,hq⟩:∃q,q=(eE nodes p).length:=⟨_,rfl⟩;have C:Hid (P2 nodes data p=if tk nodes xs≠0 then((0,0),tk nodes xs) else(jC nodes data p,0)):=by show _=_;unfold P2;rw[eJ (by rw[y];decide),N]
  rw[<-N]at k M X;have ah:Hid (∀x∈xs,x.size<=12):=M;have O:Hid (q=(eE nodes p).length):=hq;have ai:Hid (eV F w S na da nc dc nodes data rest):=h;have D:Hid (jN nodes data):=hf;obtain⟨n,hn⟩:∃n,n=xs.length:=⟨_,rfl⟩;rw[<-hn]at k X;have H:Hid _:=k;clear k y N M h hf hn hq;go_enter func90,ntmps90;go_wp2_with fail;refine g7 (H.out _) ?_;rintro _ l ⟨v,rfl,A,a⟩;have o:=(W _).trans (a.mono (by simp));have r:=a.cell (p:=(eb w.heap.size 0)) (by simp);have s:=a.cell (p:=(eb w.heap.size 1)) (by simp);have f0:=a.frozen (p:=(eb w.heap.size 0)) (by simp);have f1:=a.frozen (p:=(eb w.heap.size 1)) (by simp);simp at r s f0 f1;have d:w.heap.size<l.heap.size:=kv (show w.heap.size<w.heap.size+1 by omega) (by have:=a.size;simpa using this);have Y:=o.size;obtain⟨aj,ak,rfl⟩:=lf A;have al:=jf A;have t:=ai.out.below o;have hw:=ug t aj n ak xs (rv A) ah.out (by omega) al D.out.big;have P:=nR t D.out p;rw[<-O.out]at P;have u:=vr na nodes.length nc nodes p l (rb t.iP) D.out.big;have am:=t.c0;have an:=t.c1;have aC:=t.lt;obtain⟨m,hm⟩:∃m,m=nodes.length:=⟨_,rfl⟩;have aD:m<=1000000000:=by rw[hm];exact D.out.big
  have ao:Hid (m=nodes.length):=hm;rw[<-hm]at am u;obtain⟨I,Q⟩:∃I,I=data.length:=⟨_,rfl⟩;have ap:Hid (I=data.length):=Q;rw[<-Q]at an hd;obtain⟨e,Z⟩:∃e,e=tk nodes xs:=⟨_,rfl⟩;rw[<-Z]at hw C;have J:Hid _:=hw;have aa:Hid _:=P;have ab:Hid (eV F l S na da nc dc nodes data rest):=t;clear hw P Z A t H a hm Q;by_cases h1:e=0
  ·have aq:(e != 0)=false:=by simp[h1]
   cases f:je nodes p with
   |none=>
    have c:Hid (P2 nodes data p=((2,(q:Int)),0)):=by show _=_;rw[C.out,eJ (by simp[h1]),Ev f,O.out]
    rw[f]at u;have K:Hid (eK 106 #[.slice na m nc,.string p] l (tz (ed (-1)) l)):=u;clear h1 u f;go_wp2_with fail;refine g7 J.out ?_;rintro _ _ ⟨rfl,rfl⟩;go_wp2_with fail;refine g7 K.out ?_;rintro _ _ ⟨rfl,rfl⟩;go_wp2_with fail;refine g7 aa.out ?_;rintro _ E ⟨rfl,b⟩;have R:gS w E:=o.trans (b.mono Y);have T:=(b.cell (p:=(eb w.heap.size 0)) d).trans r;have U:=(b.cell (p:=(eb w.heap.size 1)) d).trans s;have ar:=(b.frozen (p:=(eb w.heap.size 0)) d).trans f0;have au:=(b.frozen (p:=(eb w.heap.size 1)) d).trans f1;have av:w.heap.size<E.heap.size:=kv d b.size;go_wp2;rw[c.out];exact jr (v:=.tuple #[.agg #[ed 2,ed (q:Int)],ed 0]) (by simp[results,results90,go_sem,T,U]) rfl ⟨rfl,(R.setCell (io _) _).setCell (io _) _⟩
   |some i=>
    have L:i<nodes.length:=(wX.1 f).1;rw[f]at u;have K:Hid (eK 106 #[.slice na m nc,.string p] l (tz (ed (i:Int)) l)):=u;have G:=ab.out.iP;obtain⟨g,aE,hv⟩:=ej G (by omega);have aw:=(kW hv).1;subst aw;obtain⟨_,ac,ad⟩:=i2 (off:=0) (hh G) L;rw[PH]at ac ad;have aF:=ee G rfl;have jY:(i:Int)<(m:Int):=by have:=ao.out;omega
    have aG:(0:Int)<=(i:Int):=(by omega);by_cases z:nodes[i].2.1=1
    ·obtain⟨ax,ay⟩:=D.out.files _ (iF L) z
     obtain⟨j,hj⟩:∃j:Nat,nodes[i].2.2=(j:Int):=⟨nodes[i].2.2.toNat,by omega⟩;have ae:j<data.length:=by omega
     have af:=ab.out.fP;obtain⟨aH,az,aI,aA,_⟩:=row_one af (i:=j) (v:=.string data[j]) (by simp[fG,ae]);subst az;have c:Hid (P2 nodes data p=((1,(data[j].size:Int)),0)):=by
      show _=_;rw[C.out,eJ (by simp[h1]),Ew f L z hj ae]
     rw[z]at ac;rw[hj]at ad;obtain⟨V,ag⟩:∃V,V=data[j]:=⟨_,rfl⟩;rw[<-ag]at aA c;have aJ:(j:Int)<(I:Int):=by have:=ap.out;omega
     clear h1 u f G af hv z hj ax ay ag;go_wp2_with fail;refine g7 J.out ?_;rintro _ _ ⟨rfl,rfl⟩;go_wp2_with fail;refine g7 K.out ?_;rintro _ _ ⟨rfl,rfl⟩;go_wp2
     go_region
     all_goals
      go_wp2;rw[c.out];exact jr (v:=.tuple #[.agg #[ed 1,ed (V.size:Int)],ed 0]) (by simp[results,results90,go_sem,r,s]) rfl ⟨rfl,((o.setCell (io _) _).setCell (io _) _).drew⟩
    ·have aK:(nodes[i].2.1==1)=false:=by simpa using z
     have c:Hid (P2 nodes data p=((2,(q:Int)),0)):=by
      show _=_;rw[C.out,eJ (by simp[h1]),Hg f L z,O.out]
     clear h1 u f G hv z;go_wp2_with fail;refine g7 J.out ?_;rintro _ _ ⟨rfl,rfl⟩;go_wp2_with fail;refine g7 K.out ?_;rintro _ _ ⟨rfl,rfl⟩;go_wp2_with fail;refine g7 aa.out ?_;rintro _ E ⟨rfl,b⟩;have R:gS w E:=o.trans (b.mono Y);have T:=(b.cell (p:=(eb w.heap.size 0)) d).trans r;have U:=(b.cell (p:=(eb w.heap.size 1)) d).trans s;have ar:=(b.frozen (p:=(eb w.heap.size 0)) d).trans f0;have au:=(b.frozen (p:=(eb w.heap.size 1)) d).trans f1;have av:w.heap.size<E.heap.size:=kv d b.size;go_wp2;rw[c.out];exact jr (v:=.tuple #[.agg #[ed 2,ed (q:Int)],ed 0]) (by simp[results,results90,go_sem,T,U]) rfl ⟨rfl,(R.setCell (io _) _).setCell (io _) _⟩
  ·have aq:(e != 0)=true:=by simp[h1]
   have c:Hid (P2 nodes data p=((0,0),e)):=by show _=_;rw[C.out,fY h1]
   clear h1;go_wp2_with fail;refine g7 J.out ?_;rintro _ _ ⟨rfl,rfl⟩;go_wp2;rw[c.out];exact jr (v:=.tuple #[.agg #[ed 0,ed 0],ed e]) (by simp[results,results90,go_sem,r,s]) rfl ⟨rfl,(o.setCell (io _) _).setCell (io _) _⟩
end
end Go.Proofs.YtlgidcmmgohagaaGreat
