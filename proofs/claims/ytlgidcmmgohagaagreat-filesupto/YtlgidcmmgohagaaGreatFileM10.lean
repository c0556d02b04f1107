/- What is proved here: the mE own uv. -/
import Derived.Test.YtlgidcmmgohagaaGreatFileM09
namespace Go.Proofs.YtlgidcmmgohagaaGreat
open Go.RowKit Go.Sort Go.Shelf Go.Proofs.Tryz
set_option linter.unusedVariables false
set_option maxRecDepth 100000
set_option maxHeartbeats 16000000
variable {nodes:List eN}{w':World}{data l:eL}{i k:Nat}{d p:eD}
def iA (nodes:List eN)(l:eL)(i:Nat):Option Int:=if lx nodes (ez (l.take i))≠2 then some 5 else if lx nodes (ez (l.take (i+1)))=0 then some 4 else none
def zt (nodes:List eN)(l:eL):Int:=((List.range l.length).findSome? (iA nodes l)).getD 0
theorem Un(h:∀j,j<l.length->iA nodes l j=none):zt nodes l=0:=by
 unfold zt;rw[List.findSome?_eq_none_iff.2 (fun j hj=>h j (Hp.1 hj))];rfl
theorem IQ{e:Int}(hk:k<l.length)(h:∀j,j<k->iA nodes l j=none)(a:iA nodes l k=some e):zt nodes l=e:=by
 unfold zt;have b:List.range l.length=List.range k++k::(List.range (l.length-k-1)).map (k+1 + ·):=by
  have h1:=@List.range_add k (l.length-k);rw[show k+(l.length-k)=l.length by omega]at h1;rw[h1,show l.length-k=l.length-k-1+1 by omega,List.range_succ_eq_map,jg,Fg];simp only[CQ,Nat.add_sub_cancel]
  congr 2
  refine Pp fun x _=>?_;simp only[Function.comp];omega
 rw[b,WS,List.findSome?_eq_none_iff.2 (fun j hj=>h j (Hp.1 hj))];simp[a]
section
variable {F:Nat->Prop}{w:World}{S:Nat}{na da:fD}{nc dc:Nat}{nodes:List eN}{data:eL}{rest:fQ}
theorem xh(h:fo F w S na da nc dc nodes data rest)(a:fD)(m c:Nat)(l:eL)(hl:iM w a m l)(hx:∀x∈l,x.size<=12)(hm:m<=2097152)(hc:m<=c)(L:nodes.length<=1000000000):
  gc 153 #[hh S,.slice a m c] w (Do (eJ (zt nodes l)) w):=by
 have r:Hid (iM w a m l):=hl;have G:Hid (∀p,gc 155 #[hh S,.string p] w (Do (eJ (lx nodes p)) w)):=fun p=>oc h p L;have H:Hid (∀k,k<=m->gc 202 #[.slice a k c] w (Do (.string (ez (l.take k))) w)):=fun k hk=>Bv a k c (l.take k) w (hl.take k hk) (fun x nv=>hx x (zP nv)) (by omega);clear hl hx h;go_enter func153,ntmps153;go_wp2
 go_loopw [5] (fun i wr=>∃k:Nat,k<=m/\i=.int .i64 (k:Int)/\wr=w/\Hid (∀j,j<k->iA nodes l j=none)) (fun i _=>m-(intOf i).toNat)
 case atStart=>exact⟨0,tk _,rfl,rfl,fun j h=>by omega⟩
 case round=>
  obtain⟨k,hk,rfl,rfl,n⟩:=hrel;by_cases M:k<m
  ·have I:k<l.length:=by rw[r.out.1];exact M
   obtain⟨b,off,N,R,_⟩:=r.out.2 (by omega);subst N;have T:(k:Int)<(m:Int):=by omega
   have s:=H.out k (by omega);have t:=H.out (k+1) (by omega);have o:=G.out (ez (l.take k));have q:=G.out (ez (l.take (k+1)));obtain⟨u,v⟩:∃u,u=ez (l.take k):=⟨_,rfl⟩;obtain⟨y,z⟩:∃y,y=ez (l.take (k+1)):=⟨_,rfl⟩;rw[<-v]at s o;rw[<-z]at t q;obtain⟨d,A⟩:∃d,d=lx nodes u:=⟨_,rfl⟩;obtain⟨f,B⟩:∃f,f=lx nodes y:=⟨_,rfl⟩;rw[<-A]at o;rw[<-B]at q;have C:Hid (iA nodes l k=if d≠2 then some 5 else if f=0 then some 4 else none):=by show _=_;unfold iA;rw[A,B,v,z]
   have D:Hid _:=s;have J:Hid _:=t;have E:Hid _:=o;have K:Hid _:=q;have U:(k:Int)<=(c:Int):=by omega
   have V:(k:Int)+1<=(c:Int):=by omega
   clear v z A B s t o q;by_cases h1:d=2
   ·have O:(d != 2)=false:=by simp[h1]
    by_cases h2:f=0
    ·have P:(f==0)=true:=by simp[h2]
     have g:Hid (zt nodes l=4):=IQ I n.out (by rw[C.out,fY (by simp[h1]),ie h2]);clear h1 h2;go_wp2_with fail;refine io D.out ?_;rintro _ _ ⟨rfl,rfl⟩;go_wp2_with fail;refine io E.out ?_;rintro _ _ ⟨rfl,rfl⟩;go_wp2_with fail;refine io J.out ?_;rintro _ _ ⟨rfl,rfl⟩;go_wp2_with fail;refine io K.out ?_;rintro _ _ ⟨rfl,rfl⟩;go_wp2;go_ret;exact⟨by rw[g.out];rfl,rfl⟩
    ·have P:(f==0)=false:=by simp[h2]
     have Q:Hid (iA nodes l k=none):=by show _=_;rw[C.out,fY (by simp[h1]),fY h2]
     clear h1 h2;go_wp2_with fail;refine io D.out ?_;rintro _ _ ⟨rfl,rfl⟩;go_wp2_with fail;refine io E.out ?_;rintro _ _ ⟨rfl,rfl⟩;go_wp2_with fail;refine io J.out ?_;rintro _ _ ⟨rfl,rfl⟩;go_wp2_with fail;refine io K.out ?_;rintro _ _ ⟨rfl,rfl⟩;go_wp2;go_roundw
     case rel=>
      refine⟨k+1,by omega,by go_num,by trivial,fun j hj=>?_⟩;by_cases e:j=k
      ·subst e;exact Q.out
      ·exact n.out j (by omega)
     case measure=>simp[intOf];omega
   ·have O:(d != 2)=true:=by simp[h1]
    have g:Hid (zt nodes l=5):=IQ I n.out (by rw[C.out,ie h1]);clear h1;go_wp2_with fail;refine io D.out ?_;rintro _ _ ⟨rfl,rfl⟩;go_wp2_with fail;refine io E.out ?_;rintro _ _ ⟨rfl,rfl⟩;go_wp2;go_ret;exact⟨by rw[g.out];rfl,rfl⟩
  ·have W:decide ((k:Int)<(m:Int))=false:=rk (by omega)
   have g:Hid (zt nodes l=0):=Un (fun j hj=>n.out j (by have:=r.out.1;omega));go_wp2;go_ret;exact⟨by rw[g.out];rfl,rfl⟩
end
theorem zg(s:eD):∀x∈(ib s).1,eG x=true:=by
 unfold ib;split
 ·intro x hx;cases hx
 ·split
  ·next h=>exact h
  ·intro x hx;cases hx
theorem gM(s:eD):∀x∈(ib s).1,x.size<=12:=fun x hx=>(wn (zg s x hx)).2
theorem qy(s:eD):(ib s).1.length<=s.size+1:=by
 unfold ib;split
 ·exact tk _
 ·split
  ·exact IM s _
  ·exact tk _
def po (p d:eD):Bool:=decide (0<(ib p).1.length)&&((ez ((ib p).1.take ((ib p).1.length-1))).toList==d.toList)
theorem kZ{w:World}{b:Nat}{t:gi}{z:Nat}{a:fD}{m c:Nat}{xs:fQ}(h:w.ownsRow b t z (.slice a m c) m xs):m<=c:=by
 rcases h.2 with⟨e,h0⟩|⟨g,cap,_,e,_,_,h1,_⟩
 ·omega
 ·rw[(nH e).2.2];exact h1
theorem zh(p d:eD)(w:World)(hp:p.size<=2097152):
  gc 162 #[.string p,.string d] w (pB (.bool (po p d)) w):=by
 have a:=iY p w hp;have c:=gM p;have i:=qy p;obtain⟨xs,e⟩:∃xs,xs=(ib p).1:=⟨_,rfl⟩;have f:Hid (po p d=(decide (0<xs.length)&&((ez (xs.take (xs.length-1))).toList==d.toList))):=by show _=_;unfold po;rw[e]
 rw[<-e]at a c i;have q:Hid (∀x∈xs,x.size<=12):=c;obtain⟨n,hn⟩:∃n,n=xs.length:=⟨_,rfl⟩;rw[<-hn]at a i f;have z:Hid (n=xs.length):=hn;have j:Hid _:=a;clear a c e hn;go_enter func162,ntmps162;go_wp2_with fail;refine io j.out ?_;rintro _ r ⟨v,rfl,b,k⟩;obtain⟨s,l,rfl⟩:=nl b;have A:=kZ b;have o:Hid _:=b;clear b j;by_cases h0:0<n
 ·have t:0<(n:Int):=by omega
  obtain⟨m,hm⟩:∃m:Nat,n=m+1:=⟨n-1,by omega⟩;have hj:=Bv s m l (xs.take m) r (iM.take (xv o.out) m (by omega)) (fun x hx=>q.out x (zP hx)) (by omega);have u:Hid _:=hj;obtain⟨g,B,hv⟩:=fj o.out h0;have y:=(nH hv).1;subst y;have h:Hid (po p d=((ez (xs.take m)).toList==d.toList)):=by show _=_;rw[f.out,mz h0,show n-1=m by omega];rfl
  have C:(n:Int)-1=(m:Int):=by omega
  have D:(m:Int)<=(l:Int):=by omega
  clear hj hv hm;go_wp2_with fail;refine io u.out ?_;rintro _ _ ⟨rfl,rfl⟩;go_wp2;go_ret;exact⟨by rw[h.out];rfl,k⟩
 ·have t:decide (0<(n:Int))=false:=rk (by omega)
  have h:Hid (po p d=false):=by show _=_;rw[f.out,rk h0];rfl
  go_wp2;go_ret;exact⟨by rw[h.out];rfl,k⟩
def oN (p:eD):eD:=(ib p).1.getD ((ib p).1.length-1) ⟨#[]⟩
def eO (nodes:List eN)(d:eD):List eN:=(nodes.filter (fun e=>po e.1 d)).map (fun e=>(oN e.1,0,0))
def xi (nodes:List eN)(d:eD):eL:=(Ps (eO nodes d)).map (·.1)
theorem Dg(hk:k<nodes.length)(h:po nodes[k].1 d=true):eO (nodes.take (k+1)) d=eO (nodes.take k) d++[(oN nodes[k].1,0,0)]:=by
 unfold eO;rw[vZ hk,Te,nM];simp[h]
theorem Bw(hk:k<nodes.length)(h:po nodes[k].1 d=false):eO (nodes.take (k+1)) d=eO (nodes.take k) d:=by
 unfold eO;rw[vZ hk,Te,nM];simp[h]
theorem IU(nodes:List eN)(d:eD):∀e∈eO nodes d,e.1.size<=maxLen:=by
 intro e a;obtain⟨x,_,rfl⟩:=ij.1 a;show(oN x.1).size<=maxLen;unfold oN;rw[wh];cases hx:(ib x.1).1[(ib x.1).1.length-1]? with
 |none=>exact tk _
 |some y=>have:=gM x.1 y (SK hx);exact wl this (by decide)
section
variable {F:Nat->Prop}{w:World}{S:Nat}{na da:fD}{nc dc:Nat}{nodes:List eN}{data:eL}{rest:fQ}
theorem Ee(h:fo F w S na da nc dc nodes data rest)(d:ByteArray)(au:nodes.length<=1000000000)(hp:∀e∈nodes,e.1.size<=2097152)(iE:(eO nodes d).length<=16):
  gc 156 #[hh S,.string d] w fun e w'=>∃v,e=.returned v/\w'.ownsRow w.heap.size 9 1 v (xi nodes d).length (fU (xi nodes d))/\ik w w':=by
 obtain⟨av,aw,ax,ay,az⟩:=iq wF;obtain⟨aA,hi,aB,aC,aD⟩:=iq qx;have aE:Hid (fo F w S na da nc dc nodes data rest):=h;have aF:Hid (∀e∈nodes,e.1.size<=2097152):=hp;have aG:Hid ((eO nodes d).length<=16):=iE;obtain⟨n,hn⟩:∃n,n=nodes.length:=⟨_,rfl⟩;have N:Hid (n=nodes.length):=hn;rw[<-hn]at au;clear h hp iE hn;go_enter func156,ntmps156;go_wp2
 go_loopw [5,6] (fun l i wr=>∃(k q:Nat) (c:(Option Addr)) (f:Nat),k<=n/\i=.int .i64 (k:Int)/\l=.slice c q f/\q<=k/\ik w wr/\Hid (q=(eO (nodes.take k) d).length)/\Hid (wr.ownsRow w.heap.size 112 3 (.slice c q f) q (flat (eO (nodes.take k) d)))) (fun _ i _=>n-(intOf i).toNat)
 case atStart=>exact⟨0,0,none,0,tk _,rfl,rfl,kx _,lh _ _,rfl,jf _ _ _ _⟩
 case round=>
  obtain⟨k,q,c,f,hk,rfl,rfl,bi,A,H,u⟩:=hrel;have r:=aE.out.below A;have ab:=r.c0;have aH:=r.lt;rw[<-N.out]at ab;have O:=A.size;by_cases aI:k<n
  ·have I:k<nodes.length:=by rw[<-N.out];exact aI
   have B:=r.kJ;obtain⟨g,bj,hv⟩:=fj B (by omega);have P:=(nH hv).1;subst P;obtain⟨c0,_,_⟩:=ld (off:=0) (jn B) I;rw[iP]at c0;have aJ:=eK B rfl;have Q:=aF.out _ (kj I);obtain⟨p,z⟩:∃p,p=nodes[k].1:=⟨_,rfl⟩;rw[<-z]at c0 Q;have mG:=zh p d wr Q;have bk:(k:Int)<(n:Int):=by omega
   cases a:po p d with
   |false=>
    rw[a]at mG;have J:Hid _:=mG;have C:Hid (eO (nodes.take (k+1)) d=eO (nodes.take k) d):=Bw I (by rw[<-z];exact a);clear mG a z hv B r;go_wp2_with fail;refine io J.out ?_;rintro _ D ⟨rfl,b⟩;have R:ik w D:=A.trans (b.mono O);have aK:Hid (D.ownsRow w.heap.size 112 3 (.slice c q f) q (flat (eO (nodes.take (k+1)) d))):=by show World.ownsRow _ _ _ _ _ _ _;rw[C.out];exact eQ u.out (fun g hg=>b.block g (eK u.out hg))
    go_wp2;go_roundw
    case rel=>exact⟨k+1,q,c,f,by omega,by go_num,rfl,by omega,R,by show _=_;rw[C.out];exact H.out,aK.out⟩
    case measure=>simp[intOf];omega
   |true=>
    rw[a]at mG;have J:Hid _:=mG;have C:Hid (eO (nodes.take (k+1)) d=eO (nodes.take k) d++[(oN p,0,0)]):=by show _=_;rw[Dg I (by rw[<-z];exact a),z]
    have h0:0<(ib p).1.length:=by unfold po at a;rw[xP]at a;exact wm a.1
    have bl:Hid (fo F wr S (some (eI g 0)) da nc dc nodes data rest):=r;clear mG a z hv B r;go_wp2_with fail;refine io J.out ?_;rintro _ D ⟨rfl,b⟩;have R:ik w D:=A.trans (b.mono O);have bm:=(b.cell (p:=(eI S 0)) aH).trans ab;have bn:=(b.cell (p:=(eI g (k*3))) aJ).trans c0;have bo:=b.size;have ac:Hid _:=iY p D Q;go_wp2_with fail;refine io ac.out ?_;rintro _ w3 ⟨v,rfl,K,T⟩;obtain⟨aL,aM,rfl⟩:=nl K;obtain⟨bp,bq,hv⟩:=fj K h0;have P:=(nH hv).1;subst P;obtain⟨m,hm⟩:∃m:Nat,(ib p).1.length=m+1:=⟨(ib p).1.length-1,by omega⟩;have ad:Hid (oN p=(ib p).1[m]):=by show _=_;unfold oN;rw[wh,show(ib p).1.length-1=m by omega,jy (by omega)];rfl
    obtain⟨br,aN,bs,aO,_⟩:=row_one (pj K (tk _)) (i:=m) (v:=.string (oN p)) (by rw[ad.out];simp[fU,hm]);cases aN;obtain⟨y,s⟩:∃y,y=oN p:=⟨_,rfl⟩;rw[<-s]at aO;have U:Hid (y=oN p):=s;obtain⟨sl,ae⟩:∃sl,sl=(ib p).1.length:=⟨_,rfl⟩;have aP:sl=m+1:=by omega
    have bt:sl<=2097153:=by have:=qy p;omega
    rw[<-ae];have bu:(sl:Int)-1=(m:Int):=by omega
    have bv:(m:Int)<(sl:Int):=(by omega);have af:Hid (w3.ownsRow w.heap.size 112 3 (.slice c q f) q (flat (eO (nodes.take k) d))):=eQ u.out (fun x hx=>by have:=eK u.out hx;rw[T.block x (by omega),b.block x this]);have aQ:ik w w3:=R.trans (T.mono (by omega));have bw:=T.size;clear ad K hv hm s ae aP ac J;go_wp2_with(at_builtin;refine vq _ rfl (.tmp 44) (.tmp 52) 106 rfl w.heap.size 112 av _ 3 32 underlying106 aw ax ay az rfl (by decide) _ _ _ rfl (af.out.alloc _) (eI w3.heap.size 0) 1 1 (ml (y,0,0)) rfl rfl (ra w3 (y,0,0) _ _ rfl) (pp _) (by unfold maxLen;omega) (by omega) (by simp;omega) ?_);intro aR ag t E _;have aS:ik w ag:=un (aQ.alloc (by omega) _) (by simp;omega) (af.out.alloc _) E;obtain⟨ah,ai,rfl⟩:=nl t;have aT:Hid (ag.ownsRow w.heap.size 112 3 (.slice ah (q+1) ai) (q+1) (flat (eO (nodes.take (k+1)) d))):=by show World.ownsRow _ _ _ _ _ _ _;rw[C.out,my,pC,<-U.out];exact t
    clear t E;go_wp2;go_roundw
    case rel=>exact⟨k+1,q+1,ah,ai,by omega,by go_num,rfl,by omega,aS,by show _=_;rw[C.out,H.out];simp,aT.out⟩
    case measure=>simp[intOf];omega
  ·have oV:k=n:=by omega
   have aU:Hid (nodes.take k=nodes):=lV (by have:=N.out;omega);rw[aU.out]at H u;have aV:q<=16:=by have:=aG.out;rw[<-H.out]at this;exact this
   have aj:=AQ c q f (eO nodes d) wr (xf u.out) aV (IU nodes d);have ak:Hid _:=aj;have bx:decide ((k:Int)<(n:Int))=false:=rk (by omega);rename World=>w5;clear aj r oV;go_wp2_with fail;refine io ak.out ?_;rintro _ w6 ⟨v,rfl,V,al⟩;obtain⟨aL,aM,rfl⟩:=nl V;have G:Hid _:=V;have aW:ik w w6:=A.trans (al.mono O);have bz:=al.size;clear V ak;obtain⟨xs,W⟩:∃xs,xs=Ps (eO nodes d):=⟨_,rfl⟩;rw[<-W]at G;have am:Hid (xi nodes d=xs.map (·.1)):=by show _=_;unfold xi;rw[W]
   have X:Hid (xs.length=q):=by show _=_;have:=G.out.1;rw[km]at this;omega
   clear W;go_wp2
   go_loopw [10,11] (fun o i wr=>∃(j:Nat) (L:(Option Addr)) (co:Nat),j<=q/\i=.int .i64 (j:Int)/\o=.slice L j co/\ik w6 wr/\Hid (wr.ownsRow w6.heap.size 9 1 (.slice L j co) j (fU ((xs.take j).map (·.1))))) (fun _ i _=>q-(intOf i).toNat)
   case atStart=>exact⟨0,none,0,tk _,rfl,rfl,lh _ _,jf _ _ _ _⟩
   case round=>
    obtain⟨j,L,co,hj,rfl,rfl,M,Y⟩:=hrel;have aX:=M.size;by_cases aY:j<q
    ·have an:j<xs.length:=by rw[X.out];exact aY
     obtain⟨Z,bA,ao⟩:=fj G.out (by omega);have aZ:=(nH ao).1;subst aZ;have bb:Z<w6.heap.size:=eK G.out rfl;obtain⟨aa,_,_⟩:=ld (off:=0) (jn G.out) an;rw[iP]at aa;have bc:=(M.cell (p:=(eI Z (j*3))) bb).trans aa;have bB:Z<wr.heap.size:=by omega
     obtain⟨y,s⟩:∃y,y=xs[j].1:=⟨_,rfl⟩;rw[<-s]at bc;have U:Hid (y=xs[j].1):=s;have bC:(j:Int)<(q:Int):=by omega
     clear aa ao s;go_wp2_with(at_builtin;refine vq _ rfl (.tmp 62) (.tmp 68) 131 rfl w6.heap.size 9 aA _ 1 16 underlying131 hi aB aC aD rfl (by decide) _ _ _ rfl (Y.out.alloc _) (eI wr.heap.size 0) 1 1 [.string y] rfl rfl (one_cell _ _ _ _ rfl) xg (by unfold maxLen;omega) (by omega) (by simp;omega) ?_);intro aR ap t E _;have bd:ik w6 ap:=un (M.alloc aX _) (by simp;omega) (Y.out.alloc _) E;obtain⟨aq,ar,rfl⟩:=nl t;have be:Hid (ap.ownsRow w6.heap.size 9 1 (.slice aq (j+1) ar) (j+1) (fU ((xs.take (j+1)).map (·.1)))):=by
      show World.ownsRow _ _ _ _ _ _ _;rw[vZ an,nM,fU,nM,jg,vr,jg,vr,<-U.out,Pn];exact t
     clear t E;go_wp2;go_roundw
     case rel=>exact⟨j+1,aq,ar,by omega,by go_num,rfl,bd,be.out⟩
     case measure=>simp[intOf];omega
    ·have bD:decide ((j:Int)<(q:Int))=false:=rk (by omega)
     have bf:Hid (j=q):=by show _=_;omega
     have bg:Hid ((xs.take j).map (·.1)=xi nodes d):=by show _=_;rw[am.out,lV (by rw[X.out];omega)]
     have bh:Hid ((xi nodes d).length=j):=by show _=_;rw[am.out,nD,X.out,bf.out]
     go_wp2;go_ret;refine⟨.slice L j co,rfl,?_,aW.trans (M.mono (by omega))⟩;rw[bh.out,<-bg.out];exact pj Y.out (by omega)
end
structure mg (nodes:List eN)(data:eL):Prop where
 big:nodes.length<=1000000000
 small:∀e∈nodes,e.1.size<=2097152
 few:∀d,(eO nodes d).length<=16
 files:∀e∈nodes,e.2.1=1->0<=e.2.2/\e.2.2<(data.length:Int)
theorem LO(a:List eN):(Ps a).length=a.length:=(jk a).length_eq
theorem og(nodes:List eN)(d:eD):(xi nodes d).length=(eO nodes d).length:=by
 unfold xi;rw[nD,LO]
def sy (nodes:List eN)(l:eL):Int:=
 if zt nodes (l.take (l.length-1))≠0 then zt nodes (l.take (l.length-1))else if lx nodes (ez (l.take (l.length-1)))≠2 then 5 else 0
def Kd (nodes:List eN)(p:eD):eL×Int:=
 if(ib p).2=false then([],1)else if zt nodes (ib p).1≠0 then([],zt nodes (ib p).1)else if lx nodes p≠2 then([],5) else(xi nodes p,0)
section
variable {F:Nat->Prop}{w:World}{S:Nat}{na da:fD}{nc dc:Nat}{nodes:List eN}{data:eL}{rest:fQ}
theorem qz(h:fo F w S na da nc dc nodes data rest)(hf:mg nodes data)(d:eD):
  gc 154 #[hh S,.string d] w (pB (eJ ((eO nodes d).length:Int)) w):=by
 have hn:=Ee h d hf.big hf.small (hf.few d);rw[og]at hn;obtain⟨n,a⟩:∃n,n=(eO nodes d).length:=⟨_,rfl⟩;rw[<-a]at hn ⊢;have c:Hid _:=hn;clear hn h hf a;go_enter func154,ntmps154;go_wp2_with fail;refine io c.out ?_;rintro _ f ⟨v,rfl,b,e⟩;obtain⟨g,i,rfl⟩:=nl b;clear b;go_wp2;go_ret;exact⟨rfl,e⟩
theorem LP(h:fo F w S na da nc dc nodes data rest)(hf:mg nodes data)(a:fD)(m c:Nat)(l:eL)(hl:iM w a m l)(hx:∀x∈l,x.size<=12)(hm:m<=2097152)(h0:0<m)(hc:m<=c):
  gc 158 #[hh S,.slice a m c] w (Do (.tuple #[.string (ez (l.take (l.length-1))),eJ (sy nodes l)]) w):=by
 obtain⟨b,off,q,t,_⟩:=hl.2 h0;subst q;obtain⟨k,hk⟩:∃k:Nat,m=k+1:=⟨m-1,by omega⟩;have hj:=Bv (some (eI b off)) k c (l.take k) w (hl.take k (by omega)) (fun x nv=>hx x (zP nv)) (by omega);have hw:=xh h (some (eI b off)) k c (l.take k) (hl.take k (by omega)) (fun x nv=>hx x (zP nv)) (by omega) (by omega) hf.big;have g:=oc h (ez (l.take k)) hf.big;have hlk:l.length-1=k:=by have:=hl.1;omega
 have d:Hid (sy nodes l=if zt nodes (l.take k)≠0 then zt nodes (l.take k)else if lx nodes (ez (l.take k))≠2 then 5 else 0):=by show _=_;unfold sy;rw[hlk]
 rw[hlk];obtain⟨p,hp⟩:∃p,p=ez (l.take k):=⟨_,rfl⟩;obtain⟨e,n⟩:∃e,e=zt nodes (l.take k):=⟨_,rfl⟩;rw[<-hp]at hj g d ⊢;obtain⟨v,hv⟩:∃v,v=lx nodes p:=⟨_,rfl⟩;rw[<-n]at hw d;rw[<-hv]at g d;have i:Hid _:=hj;have j:Hid _:=hw;have o:Hid _:=g;have u:(m:Int)-1=(k:Int):=by omega
 have y:(k:Int)<=(c:Int):=by omega
 clear hj hw g hp n hv hlk hl hx h hf hk;by_cases h1:e=0
 ·have r:(e != 0)=false:=by simp[h1]
  by_cases h2:v=2
  ·have s:(v != 2)=false:=by simp[h2]
   have f:Hid (sy nodes l=0):=by show _=_;rw[d.out,fY (by simp[h1]),fY (by simp[h2])]
   clear h1 h2;go_enter func158,ntmps158;go_wp2_with fail;refine io i.out ?_;rintro _ _ ⟨rfl,rfl⟩;go_wp2_with fail;refine io j.out ?_;rintro _ _ ⟨rfl,rfl⟩;go_wp2_with fail;refine io o.out ?_;rintro _ _ ⟨rfl,rfl⟩;go_wp2;go_ret2;exact⟨by rw[f.out];rfl,rfl⟩
  ·have s:(v != 2)=true:=by simp[h2]
   have f:Hid (sy nodes l=5):=by show _=_;rw[d.out,fY (by simp[h1]),ie h2]
   clear h1 h2;go_enter func158,ntmps158;go_wp2_with fail;refine io i.out ?_;rintro _ _ ⟨rfl,rfl⟩;go_wp2_with fail;refine io j.out ?_;rintro _ _ ⟨rfl,rfl⟩;go_wp2_with fail;refine io o.out ?_;rintro _ _ ⟨rfl,rfl⟩;go_wp2;go_ret2;exact⟨by rw[f.out];rfl,rfl⟩
 ·have r:(e != 0)=true:=by simp[h1]
  have f:Hid (sy nodes l=e):=by show _=_;rw[d.out,ie h1]
  clear h1;go_enter func158,ntmps158;go_wp2_with fail;refine io i.out ?_;rintro _ _ ⟨rfl,rfl⟩;go_wp2_with fail;refine io j.out ?_;rintro _ _ ⟨rfl,rfl⟩;go_wp2;go_ret2;exact⟨by rw[f.out];rfl,rfl⟩
theorem gN{s:eD}(h:(ib s).2=true):(ib s).1.length<=5:=by
 unfold ib at h ⊢;split at h
 ·next h0=>rw[ie h0];exact tk _
 ·next h0=>
  rw[fY h0];split at h
  ·next h1=>rw[ie h1];exact wm h
  ·cases h
theorem Qt(h:fo F w S na da nc dc nodes data rest)(hf:mg nodes data)(p:eD)(hp:p.size<=2097152):
  gc 91 #[hh S,.string p] w fun e w'=>∃v,e=.returned (.tuple #[v,eJ (Kd nodes p).2])/\w'.ownsRow w.heap.size 9 1 v (Kd nodes p).1.length (fU (Kd nodes p).1)/\ik w w':=by
 have a:=iY p w hp;have m:=gM p;cases b:(ib p).2 with
 |false=>
  have c:Hid (Kd nodes p=([],1)):=by show _=_;unfold Kd;rw[ie b]
  rw[b]at a;have k:Hid _:=a;clear a b h hf;go_enter func91,ntmps91;go_wp2_with fail;refine io k.out ?_;rintro _ B ⟨v,rfl,f,d⟩;clear f;go_wp2;go_ret2;rw[c.out];exact⟨_,rfl,jf _ _ _ _,d⟩
 |true=>
  have s:=gN b;rw[b]at a;obtain⟨xs,o⟩:∃xs,xs=(ib p).1:=⟨_,rfl⟩;have g:Hid (Kd nodes p=if zt nodes xs≠0 then([],zt nodes xs)else if lx nodes p≠2 then([],5) else(xi nodes p,0)):=by show _=_;unfold Kd;rw[fY (by rw[b];decide),o]
  rw[<-o]at a m s;have C:Hid (∀x∈xs,x.size<=12):=m;have D:Hid (fo F w S na da nc dc nodes data rest):=h;have i:Hid (mg nodes data):=hf;obtain⟨n,hn⟩:∃n,n=xs.length:=⟨_,rfl⟩;rw[<-hn]at a s;have k:Hid _:=a;clear a b o m h hf hn;go_enter func91,ntmps91;go_wp2_with fail;refine io k.out ?_;rintro _ B ⟨v,rfl,f,d⟩;obtain⟨E,G,rfl⟩:=nl f;have H:=kZ f;have l:=D.out.below d;have hw:=xh l E n G xs (xv f) C.out (by omega) H i.out.big;have q:=oc l p i.out.big;have t:=Ee l p i.out.big i.out.small (i.out.few p);obtain⟨e,u⟩:∃e,e=zt nodes xs:=⟨_,rfl⟩;obtain⟨j,oV⟩:∃j,j=lx nodes p:=⟨_,rfl⟩;rw[<-u]at hw g;rw[<-oV]at q g;have r:Hid _:=hw;have y:Hid _:=q;have I:Hid _:=t;have z:=d.size;clear hw q t u oV f l k;by_cases h1:e=0
  ·have J:(e != 0)=false:=by simp[h1]
   by_cases h2:j=2
   ·have K:(j != 2)=false:=by simp[h2]
    have c:Hid (Kd nodes p=(xi nodes p,0)):=by show _=_;rw[g.out,fY (by simp[h1]),fY (by simp[h2])]
    clear h1 h2;go_wp2_with fail;refine io r.out ?_;rintro _ _ ⟨rfl,rfl⟩;go_wp2_with fail;refine io y.out ?_;rintro _ _ ⟨rfl,rfl⟩;go_wp2_with fail;refine io I.out ?_;rintro _ N ⟨v,rfl,A,L⟩;have M:Hid _:=A;clear A;go_wp2;go_ret2;rw[c.out];exact⟨v,rfl,pj M.out z,d.trans (L.mono z)⟩
   ·have K:(j != 2)=true:=by simp[h2]
    have c:Hid (Kd nodes p=([],5)):=by show _=_;rw[g.out,fY (by simp[h1]),ie h2]
    clear h1 h2;go_wp2_with fail;refine io r.out ?_;rintro _ _ ⟨rfl,rfl⟩;go_wp2_with fail;refine io y.out ?_;rintro _ _ ⟨rfl,rfl⟩;go_wp2;go_ret2;rw[c.out];exact⟨_,rfl,jf _ _ _ _,d⟩
  ·have J:(e != 0)=true:=by simp[h1]
   have c:Hid (Kd nodes p=([],e)):=by show _=_;rw[g.out,ie h1]
   clear h1;go_wp2_with fail;refine io r.out ?_;rintro _ _ ⟨rfl,rfl⟩;go_wp2;go_ret2;rw[c.out];exact⟨_,rfl,jf _ _ _ _,d⟩
end
def rx (p t:eD):Bool:=if h:t.size+1<p.size then((p.extract 0 t.size).toList==t.toList)&&decide (p[t.size]'(by omega)=47)else false
def pA (nodes:List eN)(p:eD):List eN:=nodes.filter (fun e=>!(e.1.toList==p.toList)&&!(rx e.1 p))
theorem qA(p t:eD)(w:World)(hp:p.size<=2097152)(ht:t.size<=2097152):
  gc 161 #[.string p,.string t] w (Do (.bool (rx p t)) w):=by
 by_cases h1:t.size+1<p.size
 ·have b:(t.size:Int)+1<(p.size:Int):=by omega
  have hle:(t.size:Int)<=(p.size:Int):=by omega
  have d:(t.size:Int)<(p.size:Int):=by omega
  have f:t.size<p.size:=by omega
  cases h2:((p.extract 0 t.size).toList==t.toList) with
  |true=>
   by_cases h3:p[t.size]=47
   ·have c:((p[t.size].toNat:Int)==47)=true:=by rw[h3];rfl
    have a:Hid (rx p t=true):=by show _=_;unfold rx;rw[dif_pos h1,h2,mz h3];rfl
    clear h3;go_enter func161,ntmps161;go_wp2;go_ret;exact⟨by rw[a.out];rfl,rfl⟩
   ·have c:((p[t.size].toNat:Int)==47)=false:=EX.2 fun e=>h3 (Tb.1 (by have:(47:UInt8).toNat=47:=rfl;omega))
    have a:Hid (rx p t=false):=by show _=_;unfold rx;rw[dif_pos h1,h2,rk h3];rfl
    clear h3;go_enter func161,ntmps161;go_wp2;go_ret;exact⟨by rw[a.out];rfl,rfl⟩
  |false=>
   have a:Hid (rx p t=false):=by show _=_;unfold rx;rw[dif_pos h1,h2];rfl
   go_enter func161,ntmps161;go_wp2;go_ret;exact⟨by rw[a.out];rfl,rfl⟩
 ·have b:decide ((t.size:Int)+1<(p.size:Int))=false:=rk (by omega)
  have a:Hid (rx p t=false):=by show _=_;unfold rx;rw[dif_neg h1]
  go_enter func161,ntmps161;go_wp2;go_ret;exact⟨by rw[a.out];rfl,rfl⟩
def eW (F:Nat->Prop)(w:World)(S:Nat)(nodes:List eN)(data:eL)(rest:fQ):Prop:=∃na nc da dc,fo F w S na da nc dc nodes data rest
theorem FY(hk:k<nodes.length)(h:(!(nodes[k].1.toList==p.toList)&&!(rx nodes[k].1 p))=true):pA (nodes.take (k+1)) p=pA (nodes.take k) p++[nodes[k]]:=by
 unfold pA;rw[vZ hk,Te];simp only[List.filter_cons,h,KY,List.filter_nil]
theorem ve(hk:k<nodes.length)(h:(!(nodes[k].1.toList==p.toList)&&!(rx nodes[k].1 p))=false):pA (nodes.take (k+1)) p=pA (nodes.take k) p:=by
 unfold pA;rw[vZ hk,Te];simp[h]
theorem qB:(prog.info? 200).map (fun i=>(i.zero,i.size,i.bytes))=some (some (.agg #[.string ByteArray.empty,eJ 0,eJ 0]),3,32):=by kernel_rfl
section
variable {F:Nat->Prop}{w:World}{S:Nat}{na da:fD}{nc dc:Nat}{nodes:List eN}{data:eL}{rest:fQ}
theorem fo.IV(h:fo F w S na da nc dc nodes data rest){wr:World}(a:ik w wr){c:fD}{q co:Nat}{ns:List eN}(hq:q=ns.length)(ho:wr.ownsRow w.heap.size 200 3 (.slice c q co) q (flat ns)):
  eW (kp F w (wr.setCell (eI S 0) (.slice c q co))) (wr.setCell (eI S 0) (.slice c q co)) S ns data rest/\eA F w (wr.setCell (eI S 0) (.slice c q co)):=by
 subst hq;have d:wr.heap[S]?=some (.cells (Value.slice na nodes.length nc::Value.slice da data.length dc::rest).toArray 179 (0,0)):=(a.block S h.lt).trans h.hS;have f:=a.size;have hne:∀{t:gi} {b z n:Nat} {v:Value} {xs:fQ},wr.ownsRow b t z v n xs->179≠t->∀g,v.ownBlock=some g->g≠S:=fun hr ht g hg e=>fX hr d ht (by rw[<-e];exact hg.symm)
 refine⟨⟨c,co,da,dc,⟨.inl h.fS,?_,?_,?_,?_,?_⟩⟩,⟨a.os,a.tape,a.output,by simpa using f,fun k hk hn=>?_⟩⟩
 ·simp[World.setCell,Am,d]
 ·exact pj (eQ ho (fun g hg=>jQ _ _ _ _ (hne ho (by decide) g hg))) (tk _)
 ·have hd:=eQ h.gz (fun g hg=>a.block g (eK h.gz hg))
  exact eQ hd (fun g hg=>jQ _ _ _ _ (hne hd (by decide) g hg))
 ·intro g hg
  have:=ho.lt g hg
  exact .inr ⟨this.1,by simpa using this.2⟩
 ·intro g hg;exact .inl (h.fd g hg)
 ·rw[jQ _ _ _ _ (fun e=>hn (by rw[show k=S from e];exact h.fS)),a.block k hk]
theorem IW(h:fo F w S na da nc dc nodes data rest)(hf:mg nodes data)(p:ByteArray)(hp:p.size<=2097152):
  gc 160 #[hh S,.string p] w fun e w'=>e=.returned (.tuple #[])/\eW (kp F w w') w' S (pA nodes p) data rest/\eA F w w':=by
 obtain⟨E,hi,G,H,I⟩:=iq qB;have y:Hid (fo F w S na da nc dc nodes data rest):=h;have J:Hid (mg nodes data):=hf;obtain⟨n,hn⟩:∃n,n=nodes.length:=⟨_,rfl⟩;have t:Hid (n=nodes.length):=hn;have U:n<=1000000000:=by rw[hn];exact hf.big
 clear h hf hn;go_enter func160,ntmps160;go_wp2
 go_loopw [4,5] (fun o i wr=>∃(k q:Nat) (l:(Option Addr)) (co:Nat),k<=n/\i=.int .i64 (k:Int)/\o=.slice l q co/\q<=k/\ik w wr/\Hid (q=(pA (nodes.take k) p).length)/\Hid (wr.ownsRow w.heap.size 200 3 (.slice l q co) q (flat (pA (nodes.take k) p)))) (fun _ i _=>n-(intOf i).toNat)
 case atStart=>exact⟨0,0,none,0,tk _,rfl,rfl,kx _,lh _ _,rfl,jf _ _ _ _⟩
 case round=>
  obtain⟨k,q,l,co,hk,rfl,rfl,V,d,m,f⟩:=hrel;have a:=y.out.below d;have K:=a.c0;have W:=a.lt;rw[<-t.out]at K;have L:=d.size;by_cases M:k<n
  ·have r:k<nodes.length:=by rw[<-t.out];exact M
   have j:=a.kJ;obtain⟨g,X,hv⟩:=fj j (by omega);have N:=(nH hv).1;subst N;obtain⟨c0,c1,c2⟩:=ld (off:=0) (jn j) r;rw[iP]at c0 c1 c2;have Y:=eK j rfl;have z:=J.out.small _ (kj r);obtain⟨x,hx⟩:∃x,x=nodes[k]:=⟨_,rfl⟩;rw[<-hx]at c0 c1 c2 z;have Z:Hid (x=nodes[k]):=hx;have c:=qA x.1 p wr z hp;have aa:(k:Int)<(n:Int):=by omega
   cases s:(x.1.toList==p.toList) with
   |true=>
    have O:(x.1.toList != p.toList)=false:=by rw[bne,s];rfl
    have b:Hid (pA (nodes.take (k+1)) p=pA (nodes.take k) p):=ve r (by rw[<-hx,s];rfl);clear c hx hv j a;go_wp2;go_roundw
    case rel=>exact⟨k+1,q,l,co,by omega,by go_num,rfl,by omega,d,by show _=_;rw[b.out];exact m.out,by show World.ownsRow _ _ _ _ _ _ _;rw[b.out];exact f.out⟩
    case measure=>simp[intOf];omega
   |false=>
    have O:(x.1.toList != p.toList)=true:=by rw[bne,s];rfl
    cases hu:rx x.1 p with
    |true=>
     have b:Hid (pA (nodes.take (k+1)) p=pA (nodes.take k) p):=ve r (by rw[<-hx,s,hu];rfl);rw[hu]at c;have u:Hid _:=c;clear c hx hv j a hu;go_wp2_with fail;refine io u.out ?_;rintro _ _ ⟨rfl,rfl⟩;go_wp2;go_roundw
     case rel=>exact⟨k+1,q,l,co,by omega,by go_num,rfl,by omega,d,by show _=_;rw[b.out];exact m.out,by show World.ownsRow _ _ _ _ _ _ _;rw[b.out];exact f.out⟩
     case measure=>simp[intOf];omega
    |false=>
     have b:Hid (pA (nodes.take (k+1)) p=pA (nodes.take k) p++[x]):=by show _=_;rw[FY r (by rw[<-hx,s,hu];rfl),<-hx]
     rw[hu]at c;have u:Hid _:=c;clear c hx hv j a hu;go_wp2_with fail;refine io u.out ?_;rintro _ _ ⟨rfl,rfl⟩;rename World=>wq
     go_wp2_with(at_builtin;refine vq _ rfl (.tmp 33) (.tmp 41) 174 rfl w.heap.size 200 E _ 3 32 underlying174 hi G H I rfl (by decide) _ _ _ rfl (f.out.alloc _) (eI wq.heap.size 0) 1 1 (ml x) rfl rfl (ra wq x _ _ rfl) (pp _) (by unfold maxLen;omega) (by omega) (by simp;omega) ?_);intro ab A v B _;have P:ik w A:=un (d.alloc L _) (by simp;omega) (f.out.alloc _) B;obtain⟨C,D,rfl⟩:=nl v;have Q:Hid (A.ownsRow w.heap.size 200 3 (.slice C (q+1) D) (q+1) (flat (pA (nodes.take (k+1)) p))):=by show World.ownsRow _ _ _ _ _ _ _;rw[b.out,my,pC];exact v
     clear v B;go_wp2;go_roundw
     case rel=>exact⟨k+1,q+1,C,D,by omega,by go_num,rfl,by omega,P,by show _=_;rw[b.out,m.out];simp,Q.out⟩
     case measure=>simp[intOf];omega
  ·have R:Hid (nodes.take k=nodes):=lV (by have:=t.out;omega)
   rw[R.out]at m f;have ac:decide ((k:Int)<(n:Int))=false:=rk (by omega);have ad:wr.frozen? (eI S 0)=false:=by simp[World.frozen?,a.hS]
   have T:Hid _:=y.out.IV d m.out f.out;clear a;go_wp2;go_end0;exact⟨rfl,T.out⟩
end
def nz (nodes:List eN)(p:eD):List eN×Int:=
 if(ib p).2=false then(nodes,1)else if(ib p).1.length=0 then(nodes,9)else if zt nodes (ib p).1≠0 then(nodes,zt nodes (ib p).1)else if 0<(eO nodes p).length then(nodes,8) else(pA nodes p,0)
def rc (nodes:List eN)(p:eD):List eN×Int:=
 if(ib p).2=false then(nodes,1)else if(ib p).1.length=0 then(nodes,6)else if sy nodes (ib p).1≠0 then(nodes,sy nodes (ib p).1)else if lx nodes p≠0 then(nodes,6)
 else if 16<=(eO nodes (ez ((ib p).1.take ((ib p).1.length-1)))).length then(nodes,11) else(nodes++[(p,2,0)],0)
section
variable {F:Nat->Prop}{w:World}{S:Nat}{na da:fD}{nc dc:Nat}{nodes:List eN}{data:eL}{rest:fQ}
theorem eW.below(h:eW F w S nodes data rest)(a:ik w w'):eW (kp F w w') w' S nodes data rest:=by
 obtain⟨na,nc,da,dc,h⟩:=h;exact⟨na,nc,da,dc,(h.below a).keep (fun _ h=>.inl h) (fun _ _=>rfl)⟩
theorem IX(h:fo F w S na da nc dc nodes data rest)(hf:mg nodes data)(p:eD)(hp:p.size<=2097152):
  gc 96 #[hh S,.string p] w fun e w'=>e=.returned (eJ (nz nodes p).2)/\eW (kp F w w') w' S (nz nodes p).1 data rest/\eA F w w':=by
 have c:=iY p w hp;have r:=gM p;have J:Hid (fo F w S na da nc dc nodes data rest):=h;have s:Hid (mg nodes data):=hf;have l:Hid (∀w',ik w w'->eW (kp F w w') w' S nodes data rest/\eA F w w'):=fun w' a=>⟨eW.below ⟨na,nc,da,dc,h⟩ a,eA.eE a⟩;clear h hf;cases d:(ib p).2 with
 |false=>
  have b:Hid (nz nodes p=(nodes,1)):=by show _=_;unfold nz;rw[ie d]
  rw[d]at c;have i:Hid _:=c;clear c d;go_enter func96,ntmps96;go_wp2_with fail;refine io i.out ?_;rintro _ K ⟨v,rfl,f,a⟩;clear f;go_wp2;go_ret;rw[b.out];exact⟨rfl,l.out _ a⟩
 |true=>
  have z:=gN d;rw[d]at c;obtain⟨xs,t⟩:∃xs,xs=(ib p).1:=⟨_,rfl⟩;have g:Hid (nz nodes p=if xs.length=0 then(nodes,9)else if zt nodes xs≠0 then(nodes,zt nodes xs)else if 0<(eO nodes p).length then(nodes,8) else(pA nodes p,0)):=by show _=_;unfold nz;rw[fY (by rw[d];decide),t]
  rw[<-t]at c r z;have L:Hid (∀x∈xs,x.size<=12):=r;obtain⟨n,hn⟩:∃n,n=xs.length:=⟨_,rfl⟩;rw[<-hn]at c z g;have i:Hid _:=c;clear c d t r hn;go_enter func96,ntmps96;go_wp2_with fail;refine io i.out ?_;rintro _ K ⟨v,rfl,f,a⟩;obtain⟨M,N,rfl⟩:=nl f;have O:=kZ f;have j:=J.out.below a;have A:=a.size;by_cases h0:n=0
  ·have b:Hid (nz nodes p=(nodes,9)):=by show _=_;rw[g.out,ie h0]
   have P:((n:Int)==0)=true:=by simp[h0]
   clear h0 f j i;go_wp2;go_ret;rw[b.out];exact⟨rfl,l.out _ a⟩
  ·have P:((n:Int)==0)=false:=by simp[h0]
   have hw:=xh j M n N xs (xv f) L.out (by omega) O s.out.big;have u:=qz j s.out p;obtain⟨e,B⟩:∃e,e=zt nodes xs:=⟨_,rfl⟩;obtain⟨q,hq⟩:∃q,q=(eO nodes p).length:=⟨_,rfl⟩;rw[<-B]at hw g;rw[<-hq]at u g;have y:Hid _:=hw;have C:Hid _:=u;have Q:Hid _:=j;clear hw u B hq f j i;by_cases h1:e=0
   ·have R:(e != 0)=false:=by simp[h1]
    by_cases h2:0<q
    ·have D:(0:Int)<(q:Int):=by omega
     have b:Hid (nz nodes p=(nodes,8)):=by show _=_;rw[g.out,fY h0,fY (by simp[h1]),ie h2]
     clear h1 h2 h0;go_wp2_with fail;refine io y.out ?_;rintro _ _ ⟨rfl,rfl⟩;go_wp2_with fail;refine io C.out ?_;rintro _ E ⟨rfl,m⟩;go_wp2;go_ret;rw[b.out];exact⟨rfl,l.out _ (a.trans (m.mono A))⟩
    ·have D:decide ((0:Int)<(q:Int))=false:=rk (by omega)
     have b:Hid (nz nodes p=(pA nodes p,0)):=by show _=_;rw[g.out,fY h0,fY (by simp[h1]),fY h2]
     obtain rfl:q=0:=by omega
     clear h1 h2 h0 D;go_wp2_with fail;refine io y.out ?_;rintro _ _ ⟨rfl,rfl⟩;go_wp2_with fail;refine io C.out ?_;rintro _ E ⟨rfl,m⟩;have G:ik w E:=a.trans (m.mono A);have H:Hid _:=IW (fo.below Q.out m) s.out p hp;go_wp2_with fail;refine io H.out ?_;rintro _ w3 ⟨rfl,o,I⟩;have Y:=G.size;have T:Hid (eW (kp F w w3) w3 S (pA nodes p) data rest/\eA F w w3):=by
      obtain⟨U,V,W,X,o⟩:=o;exact⟨⟨U,V,W,X,o.keep (fun k hk=>by rcases hk with h|h;exact .inl h;exact .inr ⟨by omega,h.2⟩) (fun _ _=>rfl)⟩,eA.after I G⟩
     clear o I H;go_wp2;go_ret;rw[b.out];exact⟨rfl,T.out⟩
   ·have R:(e != 0)=true:=by simp[h1]
    have b:Hid (nz nodes p=(nodes,e)):=by show _=_;rw[g.out,fY h0,ie h1]
    clear h1 h0;go_wp2_with fail;refine io y.out ?_;rintro _ _ ⟨rfl,rfl⟩;go_wp2;go_ret;rw[b.out];exact⟨rfl,l.out _ a⟩
theorem fo.push(h:fo F w S na da nc dc nodes data rest){g a:Nat}{x:eN}(P:w'.heap[S]?=some (.cells ((Value.slice na nodes.length nc::Value.slice da data.length dc::rest).toArray.setIfInBounds 0 (.slice (some (eI g 0)) (nodes.length+1) a)) 179 (0,0))/\
   w'.ownsRow 0 200 3 (.slice (some (eI g 0)) (nodes.length+1) a) (nodes.length+1) (flat nodes++ml x)/\((some g:Option Nat)=(Value.slice na nodes.length nc).ownBlock\/w.heap.size<=g)/\eA (fun k=>k=S\/some k=(Value.slice na nodes.length nc).ownBlock) w w'):
  eW (kp F w w') w' S (nodes++[x]) data rest/\eA F w w':=by
 obtain⟨d,b,e,c⟩:=P;have hl:(nodes++[x]).length=nodes.length+1:=by simp
 refine⟨⟨some (eI g 0),a,da,dc,⟨.inl h.fS,?_,?_,?_,?_,?_⟩⟩,qp c h.fS h.fn⟩
 ·rw[hl,d];simp
 ·rw[hl,my,pC];exact b
 ·exact iW h.gz c h.hS (by decide) (fun g hg=>px h.gz h.kJ (by decide) hg)
 ·rw[hl];exact wL b e h.fn
 ·intro g hg;exact .inl (h.fd g hg)
theorem LQ(h:fo F w S na da nc dc nodes data rest)(hf:mg nodes data)(p:eD)(hp:p.size<=2097152):
  gc 95 #[hh S,.string p] w fun e w'=>e=.returned (eJ (rc nodes p).2)/\eW (kp F w w') w' S (rc nodes p).1 data rest/\eA F w w':=by
 obtain⟨Y,hi,Z,aa,ab⟩:=iq qB;have d:=iY p w hp;have E:=gM p;have ac:Hid (fo F w S na da nc dc nodes data rest):=h;have z:Hid (mg nodes data):=hf;have r:Hid (∀w',ik w w'->eW (kp F w w') w' S nodes data rest/\eA F w w'):=fun w' a=>⟨eW.below ⟨na,nc,da,dc,h⟩ a,eA.eE a⟩;clear h hf;cases g:(ib p).2 with
 |false=>
  have b:Hid (rc nodes p=(nodes,1)):=by show _=_;unfold rc;rw[ie g]
  rw[g]at d;have s:Hid _:=d;clear d g;go_enter func95,ntmps95;go_wp2_with fail;refine io s.out ?_;rintro _ ad ⟨v,rfl,j,a⟩;clear j;go_wp2;go_ret;rw[b.out];exact⟨rfl,r.out _ a⟩
 |true=>
  have Q:=gN g;rw[g]at d;obtain⟨xs,G⟩:∃xs,xs=(ib p).1:=⟨_,rfl⟩;have c:Hid (rc nodes p=if xs.length=0 then(nodes,6)else if sy nodes xs≠0 then(nodes,sy nodes xs)else if lx nodes p≠0 then(nodes,6)else if 16<=(eO nodes (ez (xs.take (xs.length-1)))).length then(nodes,11) else(nodes++[(p,2,0)],0)):=by
   show _=_;unfold rc;rw[fY (by rw[g];decide),G]
  rw[<-G]at d E Q;have ae:Hid (∀x∈xs,x.size<=12):=E;obtain⟨t,H⟩:∃t,t=ez (xs.take (xs.length-1)):=⟨_,rfl⟩;rw[<-H]at c;have af:Hid (t=ez (xs.take (xs.length-1))):=H;obtain⟨n,hn⟩:∃n,n=xs.length:=⟨_,rfl⟩;rw[<-hn]at d Q c;have s:Hid _:=d;clear d g G E hn H;go_enter func95,ntmps95;go_wp2_with fail;refine io s.out ?_;rintro _ ad ⟨v,rfl,j,a⟩;obtain⟨ag,ah,rfl⟩:=nl j;have ai:=kZ j;have l:=ac.out.below a;have I:=a.size;by_cases h0:n=0
  ·have b:Hid (rc nodes p=(nodes,6)):=by show _=_;rw[c.out,ie h0]
   subst h0;clear j l s;go_wp2;go_ret;rw[b.out];exact⟨rfl,r.out _ a⟩
  ·have ax:((n:Int)==0)=false:=by simp[h0]
   have A:=LP l z.out ag n ah xs (xv j) ae.out (by omega) (by omega) ai;rw[<-af.out]at A;have J:=oc l p z.out.big;have K:=qz l z.out t;obtain⟨e,R⟩:∃e,e=sy nodes xs:=⟨_,rfl⟩;obtain⟨u,oV⟩:∃u,u=lx nodes p:=⟨_,rfl⟩;obtain⟨q,hq⟩:∃q,q=(eO nodes t).length:=⟨_,rfl⟩;rw[<-R]at A c;rw[<-oV]at J c;rw[<-hq]at K c;have B:Hid _:=A;have L:Hid _:=J;have M:Hid _:=K;have aj:Hid _:=l;clear A J K R oV hq j l s;by_cases h1:e=0
   ·have ak:(e != 0)=false:=by simp[h1]
    by_cases h2:u=0
    ·have al:(u != 0)=false:=by simp[h2]
     by_cases h3:16<=q
     ·have am:(16:Int)<=(q:Int):=by omega
      have b:Hid (rc nodes p=(nodes,11)):=by show _=_;rw[c.out,fY h0,fY (by simp[h1]),fY (by simp[h2]),ie h3]
      clear h1 h2 h0;go_wp2_with fail;refine io B.out ?_;rintro _ _ ⟨rfl,rfl⟩;go_wp2_with fail;refine io L.out ?_;rintro _ _ ⟨rfl,rfl⟩;go_wp2_with fail;refine io M.out ?_;rintro _ f ⟨rfl,o⟩;go_wp2;go_ret;rw[b.out];exact⟨rfl,r.out _ (a.trans (o.mono I))⟩
     ·have am:decide ((16:Int)<=(q:Int))=false:=rk (by omega)
      have ay:¬(16:Int)<=(q:Int):=(by omega);have b:Hid (rc nodes p=(nodes++[(p,2,0)],0)):=by show _=_;rw[c.out,fY h0,fY (by simp[h1]),fY (by simp[h2]),fY h3]
      clear h1 h2 h0;go_wp2_with fail;refine io B.out ?_;rintro _ _ ⟨rfl,rfl⟩;go_wp2_with fail;refine io L.out ?_;rintro _ _ ⟨rfl,rfl⟩;go_wp2_with fail;refine io M.out ?_;rintro _ f ⟨rfl,o⟩;have T:ik w f:=a.trans (o.mono I);have y:=fo.below aj.out o;have an:=y.c0;have az:=y.lt;obtain⟨m,hm⟩:∃m,m=nodes.length:=⟨_,rfl⟩;have aA:m<=1000000000:=by rw[hm];exact z.out.big
      have U:Hid (m=nodes.length):=hm;have N:Hid (f.ownsRow 0 200 3 (.slice na m nc) m (flat nodes)):=by rw[hm];exact y.kJ
      have V:Hid (fo F f S na da nc dc nodes data rest):=y;rw[<-hm]at an;clear y hm;go_wp2_with(at_builtin;refine jp rfl (.tmp 44) (.tmp 47) 174 rfl 0 200 Y _ 3 32 underlying174 hi Z aa ab rfl (by decide) (.slice na m nc) m (flat nodes) rfl (pE N.out _) (eI f.heap.size 0) 1 1 (ml (p,2,0)) rfl rfl (ra f (p,2,0) _ _ rfl) (pp _) (by unfold maxLen;omega) (by omega) (tk _) ?_);intro aB w3 O C W;obtain⟨g3,c3,rfl⟩:=fj O (by omega);have D:=V.out.hS;have P:=sq D (jz _ _) (by simp) C (fX N.out D (by decide));have aC:f.heap.size<=w3.heap.size:=by have:=C.size;simp at this;omega
      have aD:w3.cell? (eI S 0)=some (.slice na m nc):=by rw[U.out];simp[World.cell?,P]
      have aE:w3.frozen? (eI S 0)=false:=(by simp[World.frozen?,P]);have aF:S<w3.heap.size:=by omega
      have X:=ma (i:=0) D N.out (by decide) (jz _ _) (by simp) ⟨rfl,rfl,rfl⟩ O C W (by simp);have ao:Hid (eW (kp F w (w3.setCell (eI S 0) (.slice (some (eI g3 0)) (m+1) c3))) (w3.setCell (eI S 0) (.slice (some (eI g3 0)) (m+1) c3)) S (nodes++[(p,2,0)]) data rest/\eA F w (w3.setCell (eI S 0) (.slice (some (eI g3 0)) (m+1) c3))):=by
       have hm:=U.out;subst hm;obtain⟨⟨ap,aq,ar,au,av⟩,aw⟩:=V.out.push X
       have:=T.size
       exact⟨⟨ap,aq,ar,au,av.keep (fun k hk=>by rcases hk with h|h;exact .inl h;exact .inr ⟨by omega,h.2⟩) (fun _ _=>rfl)⟩,eA.after aw T⟩
      clear O C W X P D;go_wp2;go_ret;rw[b.out];exact⟨rfl,ao.out⟩
    ·have al:(u != 0)=true:=by simp[h2]
     have b:Hid (rc nodes p=(nodes,6)):=by show _=_;rw[c.out,fY h0,fY (by simp[h1]),ie h2]
     clear h1 h2 h0;go_wp2_with fail;refine io B.out ?_;rintro _ _ ⟨rfl,rfl⟩;go_wp2_with fail;refine io L.out ?_;rintro _ _ ⟨rfl,rfl⟩;go_wp2_with fail;refine io M.out ?_;rintro _ f ⟨rfl,o⟩;go_wp2;go_ret;rw[b.out];exact⟨rfl,r.out _ (a.trans (o.mono I))⟩
   ·have ak:(e != 0)=true:=by simp[h1]
    have b:Hid (rc nodes p=(nodes,e)):=by show _=_;rw[c.out,fY h0,ie h1]
    clear h1 h0;go_wp2_with fail;refine io B.out ?_;rintro _ _ ⟨rfl,rfl⟩;go_wp2;go_ret;rw[b.out];exact⟨rfl,r.out _ a⟩
end
def lQ (nodes:List eN)(data:eL)(p:eD):Int×Int:=
 match kY nodes p with
 |some i=>if((nodes[i]?).map (fun e:eN=>e.2.1)).getD 0=1 then(1,((data.getD (((nodes[i]?).map (fun e:eN=>e.2.2)).getD 0).toNat ⟨#[]⟩).size:Int)) else(2,((eO nodes p).length:Int))
 |none=>(2,((eO nodes p).length:Int))
def iU (nodes:List eN)(data:eL)(p:eD):(Int×Int)×Int:=
 if(ib p).2=false then((0,0),1)else if zt nodes (ib p).1≠0 then((0,0),zt nodes (ib p).1) else(lQ nodes data p,0)
theorem IY(h:kY nodes p=none):lQ nodes data p=(2,((eO nodes p).length:Int)):=by unfold lQ;rw[h]
theorem LR(h:kY nodes p=some i)(hi:i<nodes.length)(hk:nodes[i].2.1≠1):lQ nodes data p=(2,((eO nodes p).length:Int)):=by
 unfold lQ;rw[h];simp only[jy hi,mq,qj];rw[fY hk]
theorem IZ{i j:Nat}(h:kY nodes p=some i)(hi:i<nodes.length)(hk:nodes[i].2.1=1)(hj:nodes[i].2.2=(j:Int))(a:j<data.length):lQ nodes data p=(1,(data[j].size:Int)):=by
 unfold lQ;rw[h];simp only[jy hi,mq,qj];rw[ie hk,hj,ow,wh,jy a];rfl
section
variable {F:Nat->Prop}{w:World}{S:Nat}{na da:fD}{nc dc:Nat}{nodes:List eN}{data:eL}{rest:fQ}
theorem Qu(h:fo F w S na da nc dc nodes data rest)(hf:mg nodes data)(p:eD)(hp:p.size<=2097152)(hd:data.length<=1000000000):
  gc 90 #[hh S,.string p] w (pB (.tuple #[.agg #[eJ (iU nodes data p).1.1,eJ (iU nodes data p).1.2],eJ (iU nodes data p).2]) w):=by
 have W:∀B,ik w (w.alloc B):=fun B=>(lh _ _).alloc (kx _) _;have k:=fun B=>iY p (w.alloc B) hp;have M:=gM p;cases y:(ib p).2 with
 |false=>
  have c:Hid (iU nodes data p=((0,0),1)):=by show _=_;unfold iU;rw[ie y]
  rw[y]at k;have H:Hid _:=k;clear k y h hf;go_enter func90,ntmps90;go_wp2_with fail;refine io (H.out _) ?_;rintro _ l ⟨v,rfl,A,a⟩;have o:=(W _).trans (a.mono (by simp));have r:=a.cell (p:=(eI w.heap.size 0)) (by simp);have s:=a.cell (p:=(eI w.heap.size 1)) (by simp);have f0:=a.frozen (p:=(eI w.heap.size 0)) (by simp);have f1:=a.frozen (p:=(eI w.heap.size 1)) (by simp);simp at r s f0 f1;have aB:=lO (show w.heap.size<w.heap.size+1 by omega) (by have:=a.size;simpa using this);clear A;go_wp2;rw[c.out];exact lF (v:=.tuple #[.agg #[eJ 0,eJ 0],eJ 1]) (by simp[results,results90,go_sem,r,s]) rfl ⟨rfl,(o.setCell (kx _) _).setCell (kx _) _⟩
 |true=>
  have X:=gN y;rw[y]at k;obtain⟨xs,N⟩:∃xs,xs=(ib p).1:=⟨_,rfl⟩;obtain⟨q,hq⟩:∃q,q=(eO nodes p).length:=⟨_,rfl⟩;have C:Hid (iU nodes data p=if zt nodes xs≠0 then((0,0),zt nodes xs) else(lQ nodes data p,0)):=by show _=_;unfold iU;rw[fY (by rw[y];decide),N]
  rw[<-N]at k M X;have ah:Hid (∀x∈xs,x.size<=12):=M;have O:Hid (q=(eO nodes p).length):=hq;have ai:Hid (fo F w S na da nc dc nodes data rest):=h;have D:Hid (mg nodes data):=hf;obtain⟨n,hn⟩:∃n,n=xs.length:=⟨_,rfl⟩;rw[<-hn]at k X;have H:Hid _:=k;clear k y N M h hf hn hq;go_enter func90,ntmps90;go_wp2_with fail;refine io (H.out _) ?_;rintro _ l ⟨v,rfl,A,a⟩;have o:=(W _).trans (a.mono (by simp));have r:=a.cell (p:=(eI w.heap.size 0)) (by simp);have s:=a.cell (p:=(eI w.heap.size 1)) (by simp);have f0:=a.frozen (p:=(eI w.heap.size 0)) (by simp);have f1:=a.frozen (p:=(eI w.heap.size 1)) (by simp);simp at r s f0 f1;have d:w.heap.size<l.heap.size:=lO (show w.heap.size<w.heap.size+1 by omega) (by have:=a.size;simpa using this);have Y:=o.size;obtain⟨aj,ak,rfl⟩:=nl A;have al:=kZ A;have t:=ai.out.below o;have hw:=xh t aj n ak xs (xv A) ah.out (by omega) al D.out.big;have P:=qz t D.out p;rw[<-O.out]at P;have u:=yx na nodes.length nc nodes p l (xf t.kJ) D.out.big;have am:=t.c0;have an:=t.c1;have aC:=t.lt;obtain⟨m,hm⟩:∃m,m=nodes.length:=⟨_,rfl⟩;have aD:m<=1000000000:=by rw[hm];exact D.out.big
  have ao:Hid (m=nodes.length):=hm;rw[<-hm]at am u;obtain⟨I,Q⟩:∃I,I=data.length:=⟨_,rfl⟩;have ap:Hid (I=data.length):=Q;rw[<-Q]at an hd;obtain⟨e,Z⟩:∃e,e=zt nodes xs:=⟨_,rfl⟩;rw[<-Z]at hw C;have J:Hid _:=hw;have aa:Hid _:=P;have ab:Hid (fo F l S na da nc dc nodes data rest):=t;clear hw P Z A t H a hm Q;by_cases h1:e=0
  ·have aq:(e != 0)=false:=by simp[h1]
   cases f:kY nodes p with
   |none=>
    have c:Hid (iU nodes data p=((2,(q:Int)),0)):=by show _=_;rw[C.out,fY (by simp[h1]),IY f,O.out]
    rw[f]at u;have K:Hid (gc 106 #[.slice na m nc,.string p] l (Do (eJ (-1)) l)):=u;clear h1 u f;go_wp2_with fail;refine io J.out ?_;rintro _ _ ⟨rfl,rfl⟩;go_wp2_with fail;refine io K.out ?_;rintro _ _ ⟨rfl,rfl⟩;go_wp2_with fail;refine io aa.out ?_;rintro _ E ⟨rfl,b⟩;have R:ik w E:=o.trans (b.mono Y);have T:=(b.cell (p:=(eI w.heap.size 0)) d).trans r;have U:=(b.cell (p:=(eI w.heap.size 1)) d).trans s;have ar:=(b.frozen (p:=(eI w.heap.size 0)) d).trans f0;have au:=(b.frozen (p:=(eI w.heap.size 1)) d).trans f1;have av:w.heap.size<E.heap.size:=lO d b.size;go_wp2;rw[c.out];exact lF (v:=.tuple #[.agg #[eJ 2,eJ (q:Int)],eJ 0]) (by simp[results,results90,go_sem,T,U]) rfl ⟨rfl,(R.setCell (kx _) _).setCell (kx _) _⟩
   |some i=>
    have L:i<nodes.length:=(zO.1 f).1;rw[f]at u;have K:Hid (gc 106 #[.slice na m nc,.string p] l (Do (eJ (i:Int)) l)):=u;have G:=ab.out.kJ;obtain⟨g,aE,hv⟩:=fj G (by omega);have aw:=(nH hv).1;subst aw;obtain⟨_,ac,ad⟩:=ld (off:=0) (jn G) L;rw[iP]at ac ad;have aF:=eK G rfl;have mG:(i:Int)<(m:Int):=by have:=ao.out;omega
    have aG:(0:Int)<=(i:Int):=(by omega);by_cases z:nodes[i].2.1=1
    ·obtain⟨ax,ay⟩:=D.out.files _ (kj L) z
     obtain⟨j,hj⟩:∃j:Nat,nodes[i].2.2=(j:Int):=⟨nodes[i].2.2.toNat,by omega⟩;have ae:j<data.length:=by omega
     have af:=ab.out.gz;obtain⟨aH,az,aI,aA,_⟩:=row_one af (i:=j) (v:=.string data[j]) (by simp[fU,ae]);subst az;have c:Hid (iU nodes data p=((1,(data[j].size:Int)),0)):=by
      show _=_;rw[C.out,fY (by simp[h1]),IZ f L z hj ae]
     rw[z]at ac;rw[hj]at ad;obtain⟨V,ag⟩:∃V,V=data[j]:=⟨_,rfl⟩;rw[<-ag]at aA c;have aJ:(j:Int)<(I:Int):=by have:=ap.out;omega
     clear h1 u f G af hv z hj ax ay ag;go_wp2_with fail;refine io J.out ?_;rintro _ _ ⟨rfl,rfl⟩;go_wp2_with fail;refine io K.out ?_;rintro _ _ ⟨rfl,rfl⟩;go_wp2
     go_region
     all_goals
      go_wp2;rw[c.out];exact lF (v:=.tuple #[.agg #[eJ 1,eJ (V.size:Int)],eJ 0]) (by simp[results,results90,go_sem,r,s]) rfl ⟨rfl,((o.setCell (kx _) _).setCell (kx _) _).drew⟩
    ·have aK:(nodes[i].2.1==1)=false:=by simpa using z
     have c:Hid (iU nodes data p=((2,(q:Int)),0)):=by
      show _=_;rw[C.out,fY (by simp[h1]),LR f L z,O.out]
     clear h1 u f G hv z;go_wp2_with fail;refine io J.out ?_;rintro _ _ ⟨rfl,rfl⟩;go_wp2_with fail;refine io K.out ?_;rintro _ _ ⟨rfl,rfl⟩;go_wp2_with fail;refine io aa.out ?_;rintro _ E ⟨rfl,b⟩;have R:ik w E:=o.trans (b.mono Y);have T:=(b.cell (p:=(eI w.heap.size 0)) d).trans r;have U:=(b.cell (p:=(eI w.heap.size 1)) d).trans s;have ar:=(b.frozen (p:=(eI w.heap.size 0)) d).trans f0;have au:=(b.frozen (p:=(eI w.heap.size 1)) d).trans f1;have av:w.heap.size<E.heap.size:=lO d b.size;go_wp2;rw[c.out];exact lF (v:=.tuple #[.agg #[eJ 2,eJ (q:Int)],eJ 0]) (by simp[results,results90,go_sem,T,U]) rfl ⟨rfl,(R.setCell (kx _) _).setCell (kx _) _⟩
  ·have aq:(e != 0)=true:=by simp[h1]
   have c:Hid (iU nodes data p=((0,0),e)):=by show _=_;rw[C.out,ie h1]
   clear h1;go_wp2_with fail;refine io J.out ?_;rintro _ _ ⟨rfl,rfl⟩;go_wp2;rw[c.out];exact lF (v:=.tuple #[.agg #[eJ 0,eJ 0],eJ e]) (by simp[results,results90,go_sem,r,s]) rfl ⟨rfl,(o.setCell (kx _) _).setCell (kx _) _⟩
end
end Go.Proofs.YtlgidcmmgohagaaGreat
