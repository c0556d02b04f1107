/- What is proved here: the mE Write that finds no room. -/
import Derived.Test.YtlgidcmmgohagaaGreatFileM30
import Derived.Test.YtlgidcmmgohagaaGreatFileM27
import Derived.Test.YtlgidcmmgohagaaGreatFileM25
import Derived.Test.YtlgidcmmgohagaaGreatFileM21
namespace Go.Proofs.YtlgidcmmgohagaaGreat
open Go.RowKit Go.Sort Go.Shelf Go.Proofs.Tryz
set_option linter.unusedVariables false
set_option maxRecDepth 100000
set_option maxHeartbeats 16000000
variable {w w' w1 w2:World}{Sb a b dc f j k m nc:Nat}{da na:fD}{d x:eD}{F:Nat->Prop}{hs:List rS}
section
variable {F:Nat->Prop}{w:World}{S:Nat}{na da:fD}{nc dc:Nat}{nodes:List eN}{data:eL}{hs:List rS}{more rest:fQ}
theorem Kz(h:fo F w S na da nc dc nodes data (rr hs++more))(h8:hs.length=8){k j a t:Nat}{fg:Int}(hk:hs[k]?=some (true,(j:Int),fg,(a:Int)))(hj:data[j]?=some d)(hf:0<=fg/\fg<=63)(E:a<=256)(hd:d.size<=256)(l:kA fg 2=true)(hx:x.size≠0)(ht:(kA fg 32=true/\t=d.size)\/(kA fg 32=false/\t=a))(G:256<t+x.size)(H:x.size<=1048576)(hl:data.length<=1000000000):
  gc 99 #[hh S,eJ (k:Int),.string x] w (pB (eJ 11) w):=by
 have I:=h.lt;have e:Hid _:=gK h h8 (k:Int);rw[jL h8 hk]at e;have m:Hid (∀W,gc 159 #[eJ fg,eJ 2] W (Do (.bool true) W)):=fun W=>by have:=jK fg 2 W hf ⟨by decide,by decide⟩;rwa [l]at this
 have n:Hid _:=fun W=>jK fg 32 W hf ⟨by decide,by decide⟩;obtain⟨c0,c1,c2,c3,q⟩:=h.qa hk;have r:=(wj.1 hk).1;have J:k<8:=by omega
 have t3:(k:Int)<8:=by omega
 have s:Hid (fo F w S na da nc dc nodes data (rr hs++more)):=h;have K:Hid (hs[k]?=some (true,(j:Int),fg,(a:Int))):=hk;have o:Hid (data[j]?=some d):=hj;have L:(x.toList==[])=false:=oP (by omega);have M:t<=256:=by rcases ht with h|h<;>omega
 have N:256<(t:Int)+(x.size:Int):=by omega
 have p:Hid _:=ht;clear h hk hj q l hf h8 r ht;go_enter func99,ntmps99;go_wp2_with fail;refine io e.out ?_;rintro _ w ⟨rfl,rfl⟩;go_wp2_with fail;refine io (m.out _) ?_;rintro _ w1 ⟨rfl,b⟩;have f:ik w w1:=by rw[b];exact(lh _ _).alloc (kx _) _
 have O:w1.cell? (eI w.heap.size 1)=some (eJ (j:Int)):=by rw[b];simp
 have P:w1.cell? (eI w.heap.size 2)=some (eJ fg):=by rw[b];simp
 have Q:w1.cell? (eI w.heap.size 3)=some (eJ (a:Int)):=by rw[b];simp
 have u:w.heap.size<w1.heap.size:=by rw[b];simp
 have c:=s.out.below f;have y:=c.c1;obtain⟨R,z,T,U,_⟩:=row_one c.gz (i:=j) (v:=.string d) (by simp[fU,o.out]);have V:=c.lt;have A:j<data.length:=(wj.1 o.out).1;obtain⟨g,B⟩:∃g,g=data.length:=⟨_,rfl⟩;rw[<-B]at y A hl;have X:(j:Int)<(g:Int):=by omega
 subst z;have Y:Hid _:=c;have C:Hid _:=f;clear b c0 c1 c2 c3 c f;go_wp2_with fail
 go_region
 go_upto_if 42 with(go_at_call 159;refine io (n.out _) ?_;rintro _ _ ⟨rfl,rfl⟩)
 go_cut [10]from 43 to 44 (fun v wx=>v=.int .i64 (t:Int)/\Hid (ik w1 wx))
 case first=>
  go_wp2
  all_goals
   go_meet;refine⟨?_,(lh _ _).drew⟩;rcases p.out with h|h<;>first|exact absurd (h.1.symm.trans (by assumption)) (by decide)|rw[h.2]
 case rest=>
  obtain⟨rfl,D⟩:=hcut;clear n m e p;go_wp2;go_ret;exact⟨rfl,C.out.trans (D.out.mono (xT u))⟩
def je (d:eD)(m:Nat):eD:=ba ((qW d.data.toList m).take m)
theorem NH(h:fo F w S na da nc dc nodes data (rr hs++more))(h8:hs.length=8){fg a:Int}(hk:hs[k]?=some (true,(j:Int),fg,a))(hj:data[j]?=some d)(hf:0<=fg/\fg<=63)(hd:d.size<=256)(s:kA fg 2=true)(hm:m<=256)(hl:data.length<=1000000000):
  gc 101 #[hh S,eJ (k:Int),eJ (m:Int)] w fun e w'=>e=.returned (eJ 0)/\
   fo F w' S na da nc dc nodes (data.set j (je d m)) (rr hs++more)/\eA F w w':=by
 have U:=h.lt;have l:Hid _:=gK h h8 (k:Int);rw[jL h8 hk]at l;have t:Hid (∀W,gc 159 #[eJ fg,eJ 2] W (Do (.bool true) W)):=fun W=>by have:=jK fg 2 W hf ⟨by decide,by decide⟩;rwa [s]at this
 obtain⟨c0,c1,c2,c3,D⟩:=h.qa hk;have E:=(wj.1 hk).1;have V:k<8:=by omega
 have t3:(k:Int)<8:=by omega
 have t0:decide ((m:Int)<0)=false:=rk (by omega);have t1:decide (256<(m:Int))=false:=rk (by omega);have u:=h.c1;have G:Hid (fo F w S na da nc dc nodes data (rr hs++more)):=h;have H:Hid (hs[k]?=some (true,(j:Int),fg,a)):=hk;have X:Hid (data[j]?=some d):=hj;obtain⟨x,I,y,z,_⟩:=row_one h.gz (i:=j) (v:=.string d) (by simp[fU,hj]);have A:j<data.length:=(wj.1 hj).1;obtain⟨n,o⟩:∃n,n=data.length:=⟨_,rfl⟩;rw[<-o]at u A hl;have Y:(j:Int)<(n:Int):=by omega
 subst I;clear h hk hj D s hf h8 E;go_enter func101,ntmps101;go_wp2_with fail;refine io l.out ?_;rintro _ w ⟨rfl,rfl⟩;go_wp2_with fail;refine io (t.out _) ?_;rintro _ w ⟨rfl,rfl⟩;clear l t;go_wp2
 go_region
 go_wp2
 go_loopw [8] (fun v wr=>∃e:eD,e.size<=600/\v=.string e/\Hid (e=ba (qW d.data.toList e.size)/\d.size<=e.size/\e.size<=max d.size m)/\Hid (ik w wr)) (fun v _=>600-YG v)
 case atStart=>exact⟨d,by omega,rfl,⟨by rw[<-gR,uN (kx _),Wj],kx _,Nat.le_max_left _ _⟩,(lh _ _).drew⟩
 case round=>
  obtain⟨e,Z,rfl,r,c⟩:=hrel;by_cases q:e.size<m
  ·have J:(e.size:Int)<(m:Int):=by omega
   go_wp2;obtain⟨g,B,K⟩:=r.out;have f:(e++(⟨#[0]⟩:eD)).size=e.size+1:=by rw[Pd];rfl
   refine⟨⟨_,by rw[f];omega,rfl,⟨?_,by rw[f];omega,by rw[f];omega⟩,c⟩,by unfold YG;simp only;rw[f];omega⟩;rw[f,<-Ky (by rw[gR];exact B),<-GQ,<-g];rfl
  ·have J:decide ((e.size:Int)<(m:Int))=false:=rk (by omega)
   have aa:(m:Int)<=(e.size:Int):=by omega
   have L:Hid (je d m=e.extract 0 m):=by
    obtain⟨g,B,K⟩:=r.out;show _=_;have M:e=ba (qW d.data.toList m):=by
     by_cases N:m<=d.size
     ·rw[g,show e.size=d.size by omega,uN (by rw[gR];omega),uN (by rw[gR];exact N)]
     ·rw[g,show e.size=m by omega]
    unfold je;rw[M,GR,Ar]
   have b:=G.out.below c.out;obtain⟨ab,ac,ad,g3,O⟩:=b.qa H.out;have P:=b.c1;rw[<-o]at P;have ae:=(c.out.cell (p:=(eI x j)) y).trans z;obtain⟨af,C⟩:=ww b.gz rfl;have fd:wr.frozen? (eI x j)=false:=by simp[World.frozen?,C]
   have ag:=b.lt;have ah:=lO y c.out.size;have Q:Hid _:=b;clear b O z u C c0 c1 c2 c3 r;go_wp2
   go_region
   go_wp2;go_ret;rw[L.out];obtain⟨R,T⟩:=Q.out.YF (by rw[<-o];exact A) (e.extract 0 m);exact⟨rfl,R.below (lh _ _).drew,(T.two (eA.eE (lh _ _).drew)).after c.out⟩
end
def gB (hs:List rS):Nat:=hs.findIdx (fun h=>!h.1)
abbrev Opd:=(Int×Int)×List eN×eL×List rS
def rV (nodes:List eN)(data:eL)(hs:List rS)(p:eD)(fl:Int)(k:Nat)(a:eD):Opd:=
 match kY nodes p with
 |some i=>(match nodes[i]? with
  |none=>((0,0),nodes,data,hs)
  |some x=>if x.2.1=2 then((0,7),nodes,data,hs)else if kA fl 8=true then((0,6),nodes,data,hs) else(((k:Int),0),nodes,if kA fl 16=true then data.set x.2.2.toNat ⟨#[]⟩else data,hs.set k (true,x.2.2,fl,0)))
 |none=>if kA fl 4=false then((0,4),nodes,data,hs)else if 16<=(eO nodes a).length then((0,11),nodes,data,hs)
  else(((k:Int),0),nodes++[(p,1,(data.length:Int))],data++[⟨#[]⟩],hs.set k (true,(data.length:Int),fl,0))
def xp (nodes:List eN)(data:eL)(hs:List rS)(p:eD)(fl:Int):Opd:=
 if(ib p).2=false then((0,1),nodes,data,hs)
 else if tA fl=false then((0,2),nodes,data,hs)
 else if gB hs=8 then((0,10),nodes,data,hs)
 else if(ib p).1.length=0 then((0,7),nodes,data,hs)
 else if sy nodes (ib p).1≠0 then((0,sy nodes (ib p).1),nodes,data,hs)
 else rV nodes data hs p fl (gB hs) (ez ((ib p).1.take ((ib p).1.length-1)))
theorem NI{w1 wr c:World}{S:Nat}{nc dc nd a c4 b:Nat}{ns:List eN}{ds:eL}{rest:fQ}{o:Obj}(h:fo (kp F w1 wr) wr S na da nc dc ns ds rest)(hk:eA F w1 wr)(hn:nd=ds.length)
  (d:c.ownsRow 0 9 1 (.slice (some (eI a 0)) (nd+1) c4) (nd+1) (fU ds++[.string x]))(hg:(wr.alloc o).grownBy c (Value.slice da nd dc).ownBlock)(e:(Value.slice (some (eI a 0)) (nd+1) c4).ownBlock=(Value.slice da nd dc).ownBlock\/(Value.slice (some (eI a 0)) (nd+1) c4).ownBlock=some b)(f:wr.heap.size<=b:=by simp):
  eW (kp F w1 (c.setCell (eI S 1) (.slice (some (eI a 0)) (nd+1) c4))) (c.setCell (eI S 1) (.slice (some (eI a 0)) (nd+1) c4)) S ns (ds++[x]) rest/\eA F w1 (c.setCell (eI S 1) (.slice (some (eI a 0)) (nd+1) c4)):=by
 subst hn;have P:=ma (i:=1) h.hS h.gz (by decide) (jz wr o) (by simp) ⟨rfl,rfl,rfl⟩ d hg e f;obtain⟨g,hk2⟩:=h.Zd P;have j:=xt hk hk2;exact⟨g.zL (fun k l=>kQ hk.size hk2.size l),j⟩
theorem ER(h:kp F w w1 k)(hs:w1.heap.size<=w2.heap.size):kp F w w2 k:=by
 rcases h with h|h
 ·exact .inl h
 ·exact .inr ⟨h.1,lO h.2 hs⟩
theorem ES(h:eA F w w1)(k:eA (kp F w w1) w1 w2):eA F w w2:=by
 refine⟨k.os.trans h.os,k.tape.trans h.tape,k.output.trans h.output,wl h.size k.size,fun x hx hn=>?_⟩;rw[k.block x (lO hx h.size) (fun hf=>?_),h.block x hx hn];rcases hf with hf|⟨hf,_⟩
 ·exact hn hf
 ·omega
theorem YI(hk:k<hs.length)(h0:hs[k].1=false)(h1:∀i (h:i<hs.length),i<k->hs[i].1=true):gB hs=k:=by
 unfold gB;rw[List.findIdx_eq hk];exact⟨by rw[h0];rfl,fun j hj=>by rw[h1 j (by omega) hj];rfl⟩
theorem SB(h8:hs.length=8)(h1:∀i (h:i<hs.length),i<8->hs[i].1=true):gB hs=8:=by
 unfold gB;rw[<-h8,List.findIdx_eq_length];intro x hx;obtain⟨i,hi,rfl⟩:=pg hx;rw[h1 i hi (by omega)];rfl
section
variable {F:Nat->Prop}{w:World}{S:Nat}{na da:fD}{nc dc:Nat}{nodes:List eN}{data:eL}{hs:List rS}{more rest:fQ}
theorem fo.YJ(h:fo F w S na da nc dc nodes data (rr hs++more))(hk:k<hs.length)(b:Bool)(j fg a:Int):
  fo F ((((w.setCell (eI S (2+k*4)) (.bool b)).setCell (eI S (2+k*4+1)) (eJ j)).setCell (eI S (2+k*4+2)) (eJ fg)).setCell (eI S (2+k*4+3)) (eJ a)) S na da nc dc nodes data (rr (hs.set k (b,j,fg,a))++more)/\
   eA F w ((((w.setCell (eI S (2+k*4)) (.bool b)).setCell (eI S (2+k*4+1)) (eJ j)).setCell (eI S (2+k*4+2)) (eJ fg)).setCell (eI S (2+k*4+3)) (eJ a)):=by
 obtain⟨h1,d⟩:=h.Du (f:=0) (v:=.bool b) (x:=(b,hs[k].2.1,hs[k].2.2.1,hs[k].2.2.2)) hk (by omega) rfl;obtain⟨h2,e⟩:=h1.Du (k:=k) (f:=1) (v:=.int .i64 j) (x:=(b,j,hs[k].2.2.1,hs[k].2.2.2)) (by simpa using hk) (by omega) (by simp[jO]);rw[Px]at h2;obtain⟨h3,g⟩:=h2.Du (k:=k) (f:=2) (v:=.int .i64 fg) (x:=(b,j,fg,hs[k].2.2.2)) (by simpa using hk) (by omega) (by simp[jO]);rw[Px]at h3;obtain⟨c,k4⟩:=h3.Du (k:=k) (f:=3) (v:=.int .i64 a) (x:=(b,j,fg,a)) (by simpa using hk) (by omega) (by simp[jO]);rw[Px]at c;exact⟨c,((d.two e).two g).two k4⟩
theorem NJ(h:fo F w S na da nc dc nodes data (rr hs++more))(h8:hs.length=8)(hf:mg nodes data)(bc:∀e∈nodes,e.2.1=1\/e.2.1=2)(bd:data.length<=1000000000)(p:eD)(hp:p.size<=2097152)(fl:Int):
  gc 94 #[hh S,.string p,eJ fl] w fun e w'=>e=.returned (.tuple #[eJ (xp nodes data hs p fl).1.1,eJ (xp nodes data hs p fl).1.2])/\
   eW (kp F w w') w' S (xp nodes data hs p fl).2.1 (xp nodes data hs p fl).2.2.1 (rr (xp nodes data hs p fl).2.2.2++more)/\eA F w w':=by
 have ak:=iY p w hp;have bC:Hid (fo F w S na da nc dc nodes data (rr hs++more)):=h;have ab:Hid (mg nodes data):=hf;have r:Hid (∀w',ik w w'->eW (kp F w w') w' S nodes data (rr hs++more)/\eA F w w'):=fun w' O=>⟨eW.below ⟨na,nc,da,dc,h⟩ O,eA.eE O⟩;have be:Hid (∀x∈(ib p).1,x.size<=12):=gM p;have ax:Hid ((ib p).2=true->(ib p).1.length<=5):=gN;obtain⟨ok,s⟩:∃b,b=(ib p).2:=⟨_,rfl⟩;obtain⟨xs,ay⟩:∃xs,xs=(ib p).1:=⟨_,rfl⟩;obtain⟨k,hk⟩:∃k,k=gB hs:=⟨_,rfl⟩;obtain⟨n,hn⟩:∃n,n=xs.length:=⟨_,rfl⟩;obtain⟨R,D⟩:∃R,R=xp nodes data hs p fl:=⟨_,rfl⟩;rw[<-D];unfold xp at D;rw[<-s,<-ay]at ak D ax;rw[<-ay]at be;rw[<-hk]at D;rw[<-hn]at ak D ax;obtain⟨E,az⟩:∃E,E=ez (xs.take (n-1)):=⟨_,rfl⟩;rw[<-az]at D;have bD:Hid (E=ez (xs.take (xs.length-1))):=by rw[az,hn];rfl
 have cM:Hid (n=xs.length):=hn;have bE:Hid _:=bc;have bf:Hid _:=ak;have P:Hid _:=D;have aA:Hid (k=gB hs):=hk;have d:Hid _:=fun W=>Ku fl W;clear h hf ak s ay D hk hn az bc;go_enter func94,ntmps94;go_wp2_with fail;refine io bf.out ?_;rintro _ w1 ⟨v,rfl,al,O⟩;obtain⟨bF,bG,rfl⟩:=nl al;have bH:=kZ al;have aB:=bC.out.below O;have Y:=O.size;have cN:=aB.lt;have bI:Hid _:=aB;have bg:Hid _:=al;have Z:Hid _:=O;clear bf al O aB;go_wp2
 go_loopw [10] (fun v wr=>∃i:Nat,i<=8/\v=.int .i64 (i:Int)/\Hid (∀j (h:j<hs.length),j<i->hs[j].1=true)/\Hid (ik w1 wr)) (fun v _=>8-(intOf v).toNat)
 case atStart=>exact⟨0,by omega,rfl,fun j h1 h2=>absurd h2 (Th _),lh _ _⟩
 case round=>
  obtain⟨i,hi,rfl,G,z⟩:=hrel;by_cases q:i<8
  ·have cO:(i:Int)<8:=by omega
   have bh:i<hs.length:=by omega
   have am:=bI.out.below z.out;have c0:wr.cell? (eI S (2+i*4))=some (.bool hs[i].1):=am.tab (f:=0) bh (by omega);have cQ:=am.lt;have aa:Hid _:=am;clear am;cases hu:hs[i].1 with
   |true=>
    rw[hu]at c0;go_wp2;exact⟨⟨i+1,by omega,rfl,fun j h1 h2=>by
     rcases Pw j i with h|h
     ·exact G.out j h1 h
     ·rw[<-hu];congr 2;omega,z⟩,by simp[intOf];omega⟩
   |false=>
    rw[hu]at c0;have ac:Hid (k=i):=aA.out.trans (YI bh hu G.out);clear hu;cases s:ok with
    |false=>
     have a:Hid (R=((0,1),nodes,data,hs)):=by show _=_;rw[P.out,s];rfl
     subst s;go_wp2_with(go_at_call 157;refine io (d.out _) ?_;rintro _ _ ⟨rfl,rfl⟩);go_ret2;rw[a.out];exact⟨rfl,r.out _ (Z.out.trans (z.out.mono Y))⟩
    |true=>
     have bJ:=s;subst s;cases l:tA fl with
     |false=>
      have a:Hid (R=((0,2),nodes,data,hs)):=by show _=_;rw[P.out,l];rfl
      rw[l]at d;go_wp2_with(go_at_call 157;refine io (d.out _) ?_;rintro _ _ ⟨rfl,rfl⟩);go_ret2;rw[a.out];exact⟨rfl,r.out _ (Z.out.trans (z.out.mono Y))⟩
     |true=>
      rw[l]at d;have aC:0<=fl/\fl<=63:=by
       unfold tA at l;split at l
       ·cases l
       ·omega
      have cS:n<=5:=ax.out rfl;have a:Hid (R=if n=0 then((0,7),nodes,data,hs)else if sy nodes xs≠0 then((0,sy nodes xs),nodes,data,hs)else rV nodes data hs p fl k E):=by
       show _=_;rw[P.out,fY (by simp),fY (by rw[l];simp),fY (by rw[ac.out];omega)]
      have bK:k=i:=ac.out;subst bK;have ad:Hid (ik w wr):=Z.out.trans (z.out.mono Y);have bi:=ad.out.size;clear P l bJ ac G aA;by_cases h0:n=0
      ·have H:Hid (R=((0,7),nodes,data,hs)):=by show _=_;rw[a.out,ie h0]
       subst h0;go_wp2_with(go_at_call 157;refine io (d.out _) ?_;rintro _ _ ⟨rfl,rfl⟩);go_ret2;rw[H.out];exact⟨rfl,r.out _ ad.out⟩
      ·have cT:((n:Int)==0)=false:=by simp[h0]
       have bj:=eQ bg.out (fun g hg=>z.out.block g (eK bg.out hg));have an:=LP aa.out ab.out bF n bG xs (xv bj) be.out (by omega) (by omega) bH;rw[<-bD.out]at an;obtain⟨e,bk⟩:∃e,e=sy nodes xs:=⟨_,rfl⟩;rw[<-bk]at an a;have G:Hid _:=an;clear an bk bj;by_cases h1:e=0
       ·have bL:(e != 0)=false:=by simp[h1]
        have H:Hid (R=rV nodes data hs p fl k E):=by show _=_;rw[a.out,fY h0,fY (by simp[h1])]
        clear a h1 h0;have Q:=yx na nodes.length nc nodes p wr (xf aa.out.kJ) ab.out.big;have aD:=qz aa.out ab.out E;obtain⟨q,hq⟩:∃q,q=(eO nodes E).length:=⟨_,rfl⟩;obtain⟨m,hm⟩:∃m,m=nodes.length:=⟨_,rfl⟩;have aE:=aa.out.c0;have cU:m<=1000000000:=by rw[hm];exact ab.out.big
        rw[<-hm]at Q aE;rw[<-hq]at aD;have bl:Hid _:=aD;have I:Hid (m=nodes.length):=hm;have bM:Hid (q=(eO nodes E).length):=hq;have J:Hid (∀f,1<=f/\f<=32->kA fl f=true->∀W,gc 159 #[eJ fl,eJ f] W (Do (.bool true) W)):=fun f hf e W=>by have:=jK fl f W aC hf;rwa [e]at this
        have T:Hid (∀f,1<=f/\f<=32->kA fl f=false->∀W,gc 159 #[eJ fl,eJ f] W (Do (.bool false) W)):=fun f hf e W=>by have:=jK fl f W aC hf;rwa [e]at this
        clear aD hm hq aC;cases U:kY nodes p with
        |none=>
         rw[U]at Q;have aF:Hid (gc 106 #[.slice na m nc,.string p] wr (Do (eJ (-1)) wr)):=Q;have K:Hid (R=if kA fl 4=false then((0,4),nodes,data,hs)else if 16<=q then((0,11),nodes,data,hs) else(((k:Int),0),nodes++[(p,1,(data.length:Int))],data++[hZ],hs.set k (true,(data.length:Int),fl,0))):=by
          show _=_;rw[H.out,bM.out];unfold rV;rw[U]
         clear Q U H;go_wp2_with fail;refine io (d.out _) ?_;rintro _ wr ⟨rfl,rfl⟩;go_wp2_with fail;refine io G.out ?_;rintro _ wr ⟨rfl,rfl⟩;go_wp2_with fail;refine io aF.out ?_;rintro _ wr ⟨rfl,rfl⟩;go_wp2_with fail;refine io bl.out ?_;rintro _ w2 ⟨rfl,ae⟩;have A:Hid _:=ad.out.trans (ae.mono bi);have c:=aa.out.below ae;have L:Hid _:=c;have aG:=c.lt;have bN:=A.out.size;clear aE c0;cases aH:kA fl 4 with
         |false=>
          have o:Hid (R=((0,4),nodes,data,hs)):=by show _=_;rw[K.out,ie aH]
          go_wp2_with(go_at_call 159;(first|refine io (J.out _ (by decide) (by assumption) _) ?_|refine io (T.out _ (by decide) (by assumption) _) ?_);rintro _ _ ⟨rfl,rfl⟩);go_ret2;rw[o.out];exact⟨rfl,r.out _ A.out⟩
         |true=>
          by_cases iE:16<=q
          ·have bO:(16:Int)<=(q:Int):=by omega
           have o:Hid (R=((0,11),nodes,data,hs)):=by show _=_;rw[K.out,fY (by rw[aH];simp),ie iE]
           go_wp2_with(go_at_call 159;(first|refine io (J.out _ (by decide) (by assumption) _) ?_|refine io (T.out _ (by decide) (by assumption) _) ?_);rintro _ _ ⟨rfl,rfl⟩);go_ret2;rw[o.out];exact⟨rfl,r.out _ A.out⟩
          ·have bO:decide ((16:Int)<=(q:Int))=false:=rk (by omega)
           have o:Hid (R=(((k:Int),0),nodes++[(p,1,(data.length:Int))],data++[hZ],hs.set k (true,(data.length:Int),fl,0))):=by show _=_;rw[K.out,fY (by rw[aH];simp),fY iE]
           clear K;obtain⟨bQ,bR,bS,bT,bU⟩:=iq qB;obtain⟨bV,bW,bX,bY,bZ⟩:=iq qx;obtain⟨nd,qa⟩:∃nd,nd=data.length:=⟨_,rfl⟩;have ao:=c.c0;have ap:=c.c1;rw[<-I.out]at ao;rw[<-qa]at ap bd;have M:Hid (nd=data.length):=qa;have bm:Hid (w2.ownsRow 0 200 3 (.slice na m nc) m (flat nodes)):=by show World.ownsRow _ _ _ _ _ _ _;rw[I.out];exact c.kJ
           have aI:Hid (fo (kp F w w2) w2 S na da nc dc nodes data (rr hs++more)):=c.keep (fun _ h=>.inl h) (fun _ _=>rfl);have ca:Hid (eA F w w2):=eA.eE A.out;clear c qa iE;go_upto_region 29 with(go_at_call 159;(first|refine io (J.out _ (by decide) (by assumption) _) ?_|refine io (T.out _ (by decide) (by assumption) _) ?_);rintro _ w2 ⟨rfl,rfl⟩)
           go_cut []from 112 to 127 (fun wx=>Hid (eW (kp F w wx) wx S (nodes++[(p,1,(nd:Int))]) data (rr hs++more)/\eA F w wx))
           case first=>
            go_region_law(refine tR rfl (.tmp 116) (.tmp 124) 174 rfl 0 200 bQ _ 3 32 underlying174 bR bS bT bU rfl (by decide) (.slice na m nc) m (flat nodes) (by simp[Act.eval]) (pE (show(w2.drewN 1).ownsRow _ _ _ _ _ _ from bm.out) _) (eI w2.heap.size 0) 1 1 (ml (p,1,(nd:Int))) (by simp[Act.eval]) rfl (ra (w2.drewN 1) (p,1,(nd:Int)) _ _ rfl) (pp _) (by unfold maxLen;omega) (by omega) (tk _) ?_;intro cV aJ bn aK cb;obtain⟨cW,c4,rfl⟩:=fj bn (by omega);have bo:=sq aI.out.hS (lJ w2 1 _) (by simp) aK (fX bm.out aI.out.hS (by decide));have cX:aJ.cell? (eI S 0)=some (.slice na nodes.length nc):=(by simp[World.cell?,bo]);have cY:aJ.frozen? (eI S 0)=false:=(by simp[World.frozen?,bo]);have cZ:S<aJ.heap.size:=(lO aG (by have:=aK.size;simp at this;omega)))
            all_goals
             go_wp2_with fail;go_meet;exact Km aI.out ca.out I.out bn aK cb
           case rest=>
            rename World=>w5;obtain⟨⟨cc,cd,aq,ar,af⟩,bp⟩:=hcut.out;have ce:Hid (eA F w w5):=bp;have aL:Hid (fo (kp F w w5) w5 S cc aq cd ar (nodes++[(p,1,(nd:Int))]) data (rr hs++more)):=af;have bq:=af.c1;have cf:=af.lt;rw[<-M.out]at bq;have br:Hid (w5.ownsRow 0 9 1 (.slice aq nd ar) nd (fU data)):=by show World.ownsRow _ _ _ _ _ _ _;rw[M.out];exact af.gz
            clear hcut af bp ao ap aG;go_wp2_with(at_builtin;refine jp rfl (.tmp 132) (.tmp 133) 131 rfl 0 9 bV _ 1 16 underlying131 bW bX bY bZ rfl (by decide) (.slice aq nd ar) nd (fU data) rfl (pE br.out _) (eI w5.heap.size 0) 1 1 [.string hZ] rfl rfl (one_cell w5 _ _ _ rfl) xg (by unfold maxLen;omega) (by omega) (tk _) ?_);intro v6 w6 aM au bs;obtain⟨cg,c6,rfl⟩:=fj aM (by omega);have aN:=sq aL.out.hS (jz w5 _) (by simp) au (fX br.out aL.out.hS (by decide));have ch:w6.cell? (eI S 1)=some (.slice aq data.length ar):=by simp[World.cell?,aN]
            have f16:w6.frozen? (eI S 1)=false:=(by simp[World.frozen?,aN]);have ci:S<w6.heap.size:=lO cf (by have:=au.size;simp at this;omega);obtain⟨bt,bu⟩:=NI aL.out ce.out M.out aM au bs;have aO:Hid _:=bt;have aP:Hid _:=bu;clear bt bu aM au bs aN bq;go_upto_region 31 with fail;obtain⟨aQ,bv⟩:∃aQ,aQ=w6.setCell (eI S 1) (.slice (some (eI cg 0)) (nd+1) c6):=⟨_,rfl⟩;rw[<-bv]at aO aP ⊢;clear bv ch f16 ci;obtain⟨db,dd,de,df,t⟩:=aO.out;have cj:m<(nodes++[(p,1,(nd:Int))]).length:=by rw[I.out];simp
            have ck:=t.c0;have cl:=t.c1;have bw:(nodes++[(p,1,(nd:Int))]).length=m+1:=by rw[I.out];simp
            have e2:(data++[hZ]).length=nd+1:=by rw[M.out];simp
            rw[bw]at ck;rw[e2]at cl;have B:=t.kJ;obtain⟨g,cm,hv⟩:=fj B (by omega);have aR:=(nH hv).1;subst aR;obtain⟨_,_,ag⟩:=ld (off:=0) (jn B) cj;rw[iP]at ag;have cn:(nodes++[(p,1,(nd:Int))])[m].2.2=(nd:Int):=by
             have cp:=I.out;subst cp;simp
            rw[cn]at ag;have cq:=eK B rfl;have cr:(m:Int)<((m+1:Nat):Int):=by omega
            have dg:(nd:Int)<((nd+1:Nat):Int):=(by omega);have dh:=t.lt;obtain⟨V,aS,ct,bx,_⟩:=row_one t.gz (i:=nd) (v:=.string hZ) (by rw[M.out];simp[fU]);have X:k<hs.length:=by omega
            obtain⟨⟨cu,cv,cw,cx⟩,ah⟩:∃x,hs[k]?=some x:=⟨_,jy X⟩;obtain⟨cy,cz,cA,cB,u⟩:=t.qa ah;have cC:=u (2+k*4);have cD:=u (2+k*4+1);have cE:=u (2+k*4+2);have cF:=u (2+k*4+3);subst aS;obtain⟨cG,ai⟩:=ww t.gz rfl;have fd:aQ.frozen? (eI V nd)=false:=by simp[World.frozen?,ai]
            have hne:V≠S:=fun e=>fX t.gz t.hS (by decide) (by rw[e];rfl);have TC:S≠V:=fun e=>hne e.symm;have bz:Hid _:=t;have cH:Hid _:=e2;clear u ai ah B hv t bw e2 aO;cases aT:kA fl 16 with
            |true=>
             go_wp2_with(go_at_call 159;(first|refine io (J.out _ (by decide) (by assumption) _) ?_|refine io (T.out _ (by decide) (by assumption) _) ?_);rintro _ _ ⟨rfl,rfl⟩);go_ret2;rw[o.out];obtain⟨aU,av⟩:=bz.out.YF (j:=nd) (by rw[cH.out];omega) hZ;obtain⟨N,C⟩:=aU.YJ X true (nd:Int) fl 0;have es:(data++[hZ]).set nd hZ=data++[hZ]:=by rw[M.out];simp
             rw[es]at N;rw[<-M.out];exact⟨rfl,⟨_,_,_,_,N.keep (fun _ h=>ER h (av.two C).size) (fun _ _=>rfl)⟩,ES aP.out (av.two C)⟩
            |false=>
             go_wp2_with(go_at_call 159;(first|refine io (J.out _ (by decide) (by assumption) _) ?_|refine io (T.out _ (by decide) (by assumption) _) ?_);rintro _ _ ⟨rfl,rfl⟩);go_ret2;rw[o.out];obtain⟨N,C⟩:=bz.out.YJ X true (nd:Int) fl 0;rw[<-M.out];exact⟨rfl,⟨_,_,_,_,N.keep (fun _ h=>ER h C.size) (fun _ _=>rfl)⟩,ES aP.out C⟩
        |some y=>
         rw[U]at Q;have aF:Hid (gc 106 #[.slice na m nc,.string p] wr (Do (eJ (y:Int)) wr)):=Q;have aw:y<nodes.length:=(zO.1 U).1;have K:Hid (R=if nodes[y].2.1=2 then((0,7),nodes,data,hs)else if kA fl 8=true then((0,6),nodes,data,hs) else(((k:Int),0),nodes,if kA fl 16=true then data.set nodes[y].2.2.toNat hZ else data,hs.set k (true,nodes[y].2.2,fl,0))):=by
          show _=_;rw[H.out];unfold rV;rw[U];simp only[jy aw]
         clear Q U H;go_wp2_with fail;refine io (d.out _) ?_;rintro _ wr ⟨rfl,rfl⟩;go_wp2_with fail;refine io G.out ?_;rintro _ wr ⟨rfl,rfl⟩;go_wp2_with fail;refine io aF.out ?_;rintro _ wr ⟨rfl,rfl⟩;go_wp2_with fail;refine io bl.out ?_;rintro _ w2 ⟨rfl,ae⟩;have aV:ik w w2:=ad.out.trans (ae.mono bi);have c:=aa.out.below ae;have ao:=c.c0;have ap:=c.c1;rw[<-I.out]at ao;have B:=c.kJ;obtain⟨g,cm,hv⟩:=fj B (by omega);have aR:=(nH hv).1;subst aR;obtain⟨_,aW,ag⟩:=ld (off:=0) (jn B) aw;rw[iP]at aW ag;have cq:=eK B rfl;have cr:(y:Int)<(m:Int):=by have:=I.out;omega
         have aG:=c.lt;have L:Hid _:=c;have A:Hid _:=aV;have bN:=aV.size;clear B hv c aV aE c0;by_cases hk2:nodes[y].2.1=2
         ·have o:Hid (R=((0,7),nodes,data,hs)):=by show _=_;rw[K.out,ie hk2]
          rw[hk2]at aW;clear hk2;go_wp2;go_ret2;rw[o.out];exact⟨rfl,r.out _ A.out⟩
         ·have aX:nodes[y].2.1=1:=(bE.out _ (kj aw)).resolve_right hk2
          obtain⟨cI,cJ⟩:=ab.out.files _ (kj aw) aX;obtain⟨j,hj⟩:∃j:Nat,nodes[y].2.2=(j:Int):=⟨nodes[y].2.2.toNat,by omega⟩;have aY:j<data.length:=by omega
          have o:Hid (R=if kA fl 8=true then((0,6),nodes,data,hs) else(((k:Int),0),nodes,if kA fl 16=true then data.set j hZ else data,hs.set k (true,(j:Int),fl,0))):=by show _=_;rw[K.out,fY hk2,hj,ow]
          rw[aX]at aW;rw[hj]at ag;clear hk2 aX cI cJ hj K;cases aZ:kA fl 8 with
          |true=>
           have aj:Hid (R=((0,6),nodes,data,hs)):=by show _=_;rw[o.out,ie aZ]
           go_wp2_with(go_at_call 159;refine io (J.out _ (by decide) (by assumption) _) ?_;rintro _ _ ⟨rfl,rfl⟩);go_ret2;rw[aj.out];exact⟨rfl,r.out _ A.out⟩
          |false=>
           have X:k<hs.length:=(by omega);obtain⟨V,aS,ct,bx,_⟩:=row_one L.out.gz (i:=j) (v:=.string data[j]) (by simp[fU,aY]);obtain⟨bA,bB⟩:∃bA,bA=data[j]:=⟨_,rfl⟩;rw[<-bB]at bx;obtain⟨bb,cK⟩:∃bb,bb=data.length:=⟨_,rfl⟩;rw[<-cK]at ap bd;have di:(j:Int)<(bb:Int):=by omega
           obtain⟨⟨cu,cv,cw,cx⟩,ah⟩:∃x,hs[k]?=some x:=⟨_,jy X⟩;obtain⟨cy,cz,cA,cB,u⟩:=L.out.qa ah;have cC:=u (2+k*4);have cD:=u (2+k*4+1);have cE:=u (2+k*4+2);have cF:=u (2+k*4+3);subst aS;obtain⟨cG,ai⟩:=ww L.out.gz rfl;have fd:w2.frozen? (eI V j)=false:=by simp[World.frozen?,ai]
           have hne:V≠S:=fun e=>fX L.out.gz L.out.hS (by decide) (by rw[e];rfl);have TC:S≠V:=fun e=>hne e.symm;have cL:Hid (j<data.length):=aY;clear u ai bB ah aY;cases aT:kA fl 16 with
           |true=>
            have aj:Hid (R=(((k:Int),0),nodes,data.set j hZ,hs.set k (true,(j:Int),fl,0))):=by show _=_;rw[o.out,fY (by rw[aZ];simp),ie aT]
            go_wp2_with(go_at_call 159;(first|refine io (J.out _ (by decide) (by assumption) _) ?_|refine io (T.out _ (by decide) (by assumption) _) ?_);rintro _ _ ⟨rfl,rfl⟩);go_ret2;rw[aj.out];obtain⟨aU,av⟩:=L.out.YF cL.out hZ;obtain⟨N,C⟩:=aU.YJ X true (j:Int) fl 0;exact⟨rfl,⟨_,_,_,_,N.keep (fun _ h=>.inl h) (fun _ _=>rfl)⟩,(av.two C).after A.out⟩
           |false=>
            have aj:Hid (R=(((k:Int),0),nodes,data,hs.set k (true,(j:Int),fl,0))):=by show _=_;rw[o.out,fY (by rw[aZ];simp),fY (by rw[aT];simp)]
            go_wp2_with(go_at_call 159;(first|refine io (J.out _ (by decide) (by assumption) _) ?_|refine io (T.out _ (by decide) (by assumption) _) ?_);rintro _ _ ⟨rfl,rfl⟩);go_ret2;rw[aj.out];obtain⟨N,C⟩:=L.out.YJ X true (j:Int) fl 0;exact⟨rfl,⟨_,_,_,_,N.keep (fun _ h=>.inl h) (fun _ _=>rfl)⟩,C.after A.out⟩
       ·have bL:(e != 0)=true:=by simp[h1]
        have H:Hid (R=((0,e),nodes,data,hs)):=by show _=_;rw[a.out,fY h0,ie h1]
        clear h1 h0;go_wp2_with fail;refine io (d.out _) ?_;rintro _ wr ⟨rfl,rfl⟩;go_wp2_with fail;refine io G.out ?_;rintro _ wr ⟨rfl,rfl⟩;go_wp2;go_ret2;rw[H.out];exact⟨rfl,r.out _ ad.out⟩
  ·obtain rfl:i=8:=by omega
   have ac:Hid (k=8):=aA.out.trans (SB h8 G.out);cases s:ok with
   |false=>
    have a:Hid (R=((0,1),nodes,data,hs)):=by show _=_;rw[P.out,s];rfl
    subst s;go_wp2_with(go_at_call 157;refine io (d.out _) ?_;rintro _ _ ⟨rfl,rfl⟩);go_ret2;rw[a.out];exact⟨rfl,r.out _ (Z.out.trans (z.out.mono Y))⟩
   |true=>
    subst s;cases l:tA fl with
    |false=>
     have a:Hid (R=((0,2),nodes,data,hs)):=by show _=_;rw[P.out,l];rfl
     rw[l]at d;go_wp2_with(go_at_call 157;refine io (d.out _) ?_;rintro _ _ ⟨rfl,rfl⟩);go_ret2;rw[a.out];exact⟨rfl,r.out _ (Z.out.trans (z.out.mono Y))⟩
    |true=>
     have a:Hid (R=((0,10),nodes,data,hs)):=by show _=_;rw[P.out,l,ac.out];rfl
     rw[l]at d;go_wp2_with(go_at_call 157;refine io (d.out _) ?_;rintro _ _ ⟨rfl,rfl⟩);go_ret2;rw[a.out];exact⟨rfl,r.out _ (Z.out.trans (z.out.mono Y))⟩
end
theorem Wk(o:Nat)(x:Value)(a:Int)(h0:0<=a)(h1:a<=256)(w:World)(ho:o<w.heap.size)(c2:w.cell? (eI o 2)=some x)(f2:w.frozen? (eI o 2)=false):gc 165 #[hh o,eJ a] w fun e w'=>e=.returned (eJ 0)/\w'=w.setCell (eI o 2) (eJ a):=by
 have t0:decide (a<0)=false:=rk (by omega);have t1:decide (256<a)=false:=rk (by omega);go_enter func165,ntmps165;go_wp2;go_ret;exact⟨rfl,rfl⟩
theorem Pb(wb k o:Nat)(n er:Int)(R:World->Prop)(w:World)(hc:w.cell? (eI wb (1+k))=some (hh o))(hk:k<8)
  (hr:gc 165 #[hh o,eJ n] w fun e w'=>e=.returned (eJ er)/\R w'):
  gc 102 #[hh wb,eJ (k:Int),eJ n] w fun e w'=>e=.returned (eJ er)/\R w':=by
 have a:=tv wb k o w hc hk;go_enter func102,ntmps102;go_wp2_with(first
  |(go_at_call 122;refine a.mono ?_;rintro e w1 ⟨rfl,rfl⟩)
  |(go_at_call 165;refine hr.mono ?_;rintro e w1 ⟨rfl,b⟩))
 go_ret;exact⟨rfl,b⟩
theorem SC(wb k o:Nat)(n er:Int)(R:World->Prop)(w:World)(hc:w.cell? (eI wb (1+k))=some (hh o))(hk:k<8)
  (hr:gc 164 #[hh o,eJ n] w fun e w'=>e=.returned (eJ er)/\R w'):
  gc 100 #[hh wb,eJ (k:Int),eJ n] w fun e w'=>e=.returned (eJ er)/\R w':=by
 have a:=tv wb k o w hc hk;go_enter func100,ntmps100;go_wp2_with(first
  |(go_at_call 122;refine a.mono ?_;rintro e w1 ⟨rfl,rfl⟩)
  |(go_at_call 164;refine hr.mono ?_;rintro e w1 ⟨rfl,b⟩))
 go_ret;exact⟨rfl,b⟩
theorem lZ.used{ey:List Ob}{fl:Sh}{op:Yo}{t:LT}{nodes:List eN}{data:eL}{a:Nat->Nat}(h:lZ ey fl op t nodes data hs a)(n:Int):
  (pU hs n=false/\vY (fun k=>(op k).map (·.1)) n)\/∃(k b f:Nat) (fg pl:Int),k<8/\n=(k:Int)/\op k=some (b,f,fg,pl)/\hs[k]?=some (true,(a f:Int),fg,pl):=by
 by_cases hn:0<=n/\n<8
 ·obtain⟨k,rfl⟩:∃k:Nat,n=(k:Int):=⟨n.toNat,by omega⟩
  have hk:k<8:=by omega
  have ht:=h.tab k hk;cases ho:op k with
  |none=>
   refine .inl ⟨?_,fun j _ hj=>?_⟩
   ·rw[ho]at ht
    obtain⟨hl,e⟩:=wj.1 ht;rw[Cp hl h.h8,e];rfl
   ·obtain rfl:j=k:=by omega
    show(op j).map _=none;rw[ho];rfl
  |some x=>
   obtain⟨b,f,fg,pl⟩:=x;rw[ho]at ht;exact .inr ⟨k,b,f,fg,pl,hk,rfl,ho,ht⟩
 ·exact .inl ⟨xN hn,fun k hk e=>absurd ⟨by omega,by omega⟩ hn⟩
section
variable {s i p:Nat}{B:WB}{ey:List Ob}{tg:eV}{w:World}{g:WG}{lim:Nat}{t:LT}{nodes:List eN}{data:eL}{rest:fQ}
theorem mV{eF:eV}{fs':FS}{yF:Sh}{op':Yo}{a:Nat}{fE:eL}{b:fQ}(h:gO tg w s i p B ey g lim t)(hi:fA ey t)(m:eB (Mine i) tg eF w w')(hW:eT eF w' s i p B ey { g with fs:=fs',fl:=yF,op:=op' } a)(hl:a<=lim+400)(d:tP ey yF)(e:g.fs.brk=false)(c:g.fs.Next fs')(f:iV ey yF op' t nodes fE b):rT s i p B ey tg w w' g (lim+400) nodes fE b:=
 ⟨eF,_,t,m,⟨hW.mono hl,h.flat,h.ok,d⟩,c.1.trans e,c.2.2.1,hi,f⟩
theorem gO.cell(h:gO tg w s i p B ey g lim t){fg pl:Int}(hk:k<8)(ho:g.op k=some (b,f,fg,pl)):w.cell? (eI B.wb (1+k))=some (hh b):=by
 obtain⟨_,_,h1⟩:=h.ws;rw[h1.2.1 k hk];show some (Value.pointer (Option.map _ (Option.map _ (g.op k))))=_;rw[ho];rfl
theorem gO.fg(h:gO tg w s i p B ey g lim t){fg pl:Int}(ho:g.op k=some (b,f,fg,pl)):(∃x,g.fl f=some x)/\(0<=fg/\fg<=63)/\0<=pl/\pl<=256:=by
 obtain⟨_,_,hx,h1,h2,h3,a⟩:=h.inv.wp.opens.at_ k b f fg pl ho;exact⟨hx,⟨h1,by omega⟩,h3,a⟩
theorem rW(h:eW F w1 Sb nodes data rest)(a:ik w1 w'):eW (kp F w1 w') w' Sb nodes data rest/\eA F w1 w':=⟨eW.below h a,eA.eE a⟩
theorem ud(h:fo F w' Sb na da nc dc nodes data rest)(hk:eA F w1 w'):eW (kp F w1 w') w' Sb nodes data rest/\eA F w1 w':=⟨⟨na,nc,da,dc,h.keep (fun _ h=>.inl h) (fun _ _=>rfl)⟩,hk⟩
theorem cex(h:gO tg w s i p B ey g lim t)(j:g.fs.brk=false)(hi:fA ey t)(q:iV ey g.fl g.op t nodes data rest)(Sb:Nat)(n a:Int):
  ∃er r,(gc 102 #[hh B.wb,eJ n,eJ a] w fun e w'=>e=.returned (eJ er)/\rT s i p B ey tg w w' g (lim+400) nodes data r)/\
   ∀{F:Nat->Prop} {w1:World},eW F w1 Sb nodes data rest->gc 103 #[hh Sb,eJ n,eJ a] w1 fun e w'=>e=.returned (eJ er)/\eW (kp F w1 w') w' Sb nodes data r/\eA F w1 w':=by
 have u:=q;obtain⟨⟨v,hs,more,rfl,d⟩,z⟩:=q;obtain⟨G,c0,A⟩:=h.ws;have C:∀{F:Nat->Prop} {w1:World},eW F w1 Sb nodes data (rr hs++more)->gc 103 #[hh Sb,eJ n,eJ a] w1 fun e w'=>e=.returned (eJ (mo hs n a).2)/\eW (kp F w1 w') w' Sb nodes data (rr (mo hs n a).1++more)/\eA F w1 w':=fun l=>by
  obtain⟨na,nc,da,dc,l⟩:=l;exact(Ss l d.h8 n a).mono fun e w' ⟨c,h1,h2⟩=>⟨c,ud h1 h2⟩
 refine⟨_,_,?_,C⟩;rcases d.used n with⟨hu,hn⟩|⟨k,b,f,fg,pl,hk,rfl,ho,y⟩
 ·have e:mo hs n a=(hs,3):=by unfold mo;rw[ie hu]
  rw[e];exact(YC A hn a).mono fun e w' ⟨c,hw⟩=>⟨c,Hn h j hi u (by rw[hw];exact lh _ _)⟩
 ·have hu:=jL d.h8 y
  obtain⟨hx,H,I,J⟩:=h.fg ho;obtain⟨D,_,_,c2,E⟩:=Hb h.inv ho;by_cases o:a<0\/256<a
  ·have e:mo hs (k:Int) a=(hs,2):=by unfold mo;rw[fY (by rw[hu];simp),ie o]
   rw[e];exact(Pb B.wb k b a 2 (fun w'=>w'=w) w (h.cell hk ho) hk (Sy a o w)).mono fun e w' ⟨c,hw⟩=>⟨c,Hn h j hi u (by rw[hw];exact lh _ _)⟩
  ·have e:mo hs (k:Int) a=(hs.set k (true,(v f:Int),fg,a),0):=by unfold mo;rw[fY (by rw[hu];simp),fY o,ow,y]
   rw[e];refine(Pb B.wb k b a 0 _ w (h.cell hk ho) hk (Wk b _ a (by omega) (by omega) w D c2 (E 2))).mono ?_;rintro e w' ⟨c,rfl⟩;obtain⟨m,hW⟩:=h.inv.place ho (KH:=a) (by omega) (by omega);refine⟨c,mV (fs':=g.fs) (yF:=g.fl) h hi (m.mono Vp) hW (by omega) h.fl j (FS.Next.refl _) ⟨⟨v,_,more,rfl,d.opens hk (some (b,f,fg,a)) (fun x hx=>?_)⟩,z⟩⟩;cases hx;exact d.Wv k (b,f,fg,pl) ho
theorem YK(h:gO tg w s i p B ey g lim t)(j:g.fs.brk=false)(hi:fA ey t)(l:iV ey g.fl g.op t nodes data rest)(Sb:Nat)(n:Int):
  ∃er o,(gc 65 #[hh B.wb,eJ n] w fun e w'=>e=.returned (eJ er)/\rT s i p B ey tg w w' g (lim+400) nodes data o)/\
   ∀{F:Nat->Prop} {w1:World},eW F w1 Sb nodes data rest->gc 104 #[hh Sb,eJ n] w1 fun e w'=>e=.returned (eJ er)/\eW (kp F w1 w') w' Sb nodes data o/\eA F w1 w':=by
 have r:=l;obtain⟨⟨u,hs,more,rfl,c⟩,v⟩:=l;obtain⟨y,c0,q⟩:=h.ws;have z:∀{F:Nat->Prop} {w1:World},eW F w1 Sb nodes data (rr hs++more)->gc 104 #[hh Sb,eJ n] w1 fun e w'=>e=.returned (eJ (nJ hs n).2)/\eW (kp F w1 w') w' Sb nodes data (rr (nJ hs n).1++more)/\eA F w1 w':=fun d=>by
  obtain⟨na,nc,da,dc,d⟩:=d;exact(ND d c.h8 n).mono fun e w' ⟨a,h1,h2⟩=>⟨a,ud h1 h2⟩
 refine⟨_,_,?_,z⟩;rcases c.used n with⟨hu,hn⟩|⟨k,b,f,fg,pl,hk,rfl,ho,A⟩
 ·have e:nJ hs n=(hs,3):=by unfold nJ;rw[ie hu]
  rw[e];exact(Wd q hn).mono fun e w' ⟨a,hw⟩=>⟨a,Hn h j hi r (by rw[hw];exact lh _ _)⟩
 ·have hu:=jL c.h8 A
  have e:nJ hs (k:Int)=(hs.set k (false,0,0,0),0):=by unfold nJ;rw[fY (by rw[hu];simp),ow]
  rw[e];refine(Vo B.wb k b w y (h.cell hk ho) (q.2.2 _) hk).mono ?_;rintro e w' ⟨a,rfl⟩;obtain⟨m,hW⟩:=h.inv.close hk;exact⟨a,mV (fs':=g.fs) (yF:=g.fl) h hi (m.mono (fun _ h=>.inr (by rw[h]))) hW (by omega) h.fl j (FS.Next.refl _) ⟨⟨u,_,more,rfl,c.opens hk none (fun x hx=>by cases hx)⟩,v⟩⟩
end
theorem yQ{a x:Nat}(h:d.size<=a):d.extract a x=hZ:=by
 apply KW;rw[Pg];have h2:d.data.size=d.size:=rfl;apply Array.eq_empty_of_size_eq_zero;rw[Array.size_extract];omega
theorem GU(d:eD)(a x:Nat):d.extract a (min x d.size)=d.extract a x:=by
 rcases Nat.le_total x d.size with h|h
 ·rw[xQ h]
 ·rw[Nat.min_eq_right h];exact OZ (kx _) h
theorem Wl(hd:d.size<=256)(b:a<=256):d.extract (min a d.size) (min (min a d.size+min m (256-a)) d.size)=d.extract a (a+m):=by
 rw[GU];rcases Pw a d.size with h|h
 ·rw[xQ (by omega),<-GU,<-GU d a (a+m)]
  congr 1;omega
 ·rw[Nat.min_eq_right h,yQ (kx _),yQ h]
section
variable {s i p:Nat}{B:WB}{ey:List Ob}{tg:eV}{w:World}{g:WG}{lim:Nat}{t:LT}{nodes:List eN}{data:eL}{rest:fQ}
theorem yR(h:gO tg w s i p B ey g lim t)(c:g.fs.brk=false){x:Int×eD}(hf:g.fl f=some x):∃a,ub ey g.fl g.fs f=(a,0,ki ey g.fl f)/\g.fs.Next a/\(ki ey g.fl f).size<=256:=by
 obtain⟨j,b⟩:=mS (Bd ey g.fl g.fs f) c;have e:(ub ey g.fl lv f).2=(0,ki ey g.fl f):=by
  obtain⟨id,d⟩:=x;unfold ub ki;rw[hf];by_cases h0:id=0
  ·simp[h0]
  ·simp[h0,FS.fM,lv]
 rw[e]at b;have e2:ub ey g.fl g.fs f=((ub ey g.fl g.fs f).1,0,ki ey g.fl f):=Ay rfl b;exact⟨_,e2,j,uF h.inv h.fl e2⟩
theorem Wm{x:rS}(h:hs[k]?=some x):hs.set k x=hs:=by
 obtain⟨hl,e⟩:=wj.1 h;rw[<-e,List.set_getElem_self]
theorem cfg(h:gO tg w s i p B ey g lim t)(hl:lim+1000<1099511627776)(q:g.fs.brk=false)(hi:fA ey t)(G:iV ey g.fl g.op t nodes data rest)(P:data.length<=1000000000)(Sb:Nat)(n m:Int):
  ∃a er r,(er==14)=false/\(gc 66 #[hh B.wb,eJ n,eJ m] w fun e w'=>e=.returned (.tuple #[.string a,eJ er])/\rT s i p B ey tg w w' g (lim+400) nodes data r)/\
   ∀{F:Nat->Prop} {w1:World},eW F w1 Sb nodes data rest->gc 98 #[hh Sb,eJ n,eJ m] w1 fun e w'=>e=.returned (.tuple #[.string a,eJ er])/\eW (kp F w1 w') w' Sb nodes data r/\eA F w1 w':=by
 have v:=G;obtain⟨⟨H,hs,more,rfl,j⟩,Q⟩:=G;obtain⟨V,c0,R⟩:=h.ws;rcases j.used n with⟨hu,hn⟩|⟨k,b,f,fg,pl,hk,rfl,ho,y⟩
 ·refine⟨hZ,3,_,rfl,(YB R hn m).mono fun e w' ⟨c,hw⟩=>⟨c,Hn h q hi v (by rw[hw];exact lh _ _)⟩,fun l=>?_⟩
  obtain⟨na,nc,da,dc,u⟩:=l;exact(NG u j.h8 n m hu).mono fun e w' ⟨c,o⟩=>⟨c,rW ⟨na,nc,da,dc,u⟩ o⟩
 ·obtain⟨⟨x,hx⟩,z,I,J⟩:=h.fg ho
  obtain⟨o,_,c1,c2,W⟩:=Hb h.inv ho;obtain⟨K,_⟩:=CF z;have L:∀er:Int,(er==14)=false->((m<0/\er=2)\/(0<=m/\kA fg 1=false/\er=12))->∃a er r,(er==14)=false/\(gc 66 #[hh B.wb,eJ (k:Int),eJ m] w fun e w'=>e=.returned (.tuple #[.string a,eJ er])/\rT s i p B ey tg w w' g (lim+400) nodes data r)/\
   ∀{F:Nat->Prop} {w1:World},eW F w1 Sb nodes data (rr hs++more)->gc 98 #[hh Sb,eJ (k:Int),eJ m] w1 fun e w'=>e=.returned (.tuple #[.string a,eJ er])/\eW (kp F w1 w') w' Sb nodes data r/\eA F w1 w':=fun er S c=>by
   refine⟨hZ,er,_,S,(Gp B.wb k b m hZ er (fun w'=>w'=w) w (h.cell hk ho) hk (EP m o c1 c2 I J (c.elim (fun e=>.inl e) (fun e=>.inr (.inl ⟨e.1,by rw[K,e.2.1];rfl,e.2.2⟩))))).mono fun e w' ⟨c,hw⟩=>⟨c,Hn h q hi v (by rw[hw];exact lh _ _)⟩,fun l=>?_⟩;obtain⟨na,nc,da,dc,u⟩:=l;exact(Sz u j.h8 y z c).mono fun e w' ⟨c,o⟩=>⟨c,rW ⟨na,nc,da,dc,u⟩ o⟩
  by_cases hm:m<0
  ·exact L 2 rfl (.inl ⟨hm,rfl⟩)
  ·cases A:kA fg 1 with
   |false=>exact L 12 rfl (.inr ⟨by omega,A,rfl⟩)
   |true=>
    have M:(bits BinOp.and IntKind.i64 fg 1==0)=false:=by rw[K,A];rfl
    obtain⟨X,N,T,C⟩:=yR h q hx;have O:=j.cont f (by rw[hx];simp);obtain⟨d,hd⟩:∃d,d=ki ey g.fl f:=⟨_,rfl⟩;rw[<-hd]at N C O;obtain⟨a,rfl⟩:∃a:Nat,pl=(a:Int):=⟨pl.toNat,by omega⟩;have D:∀{F:Nat->Prop} {w1:World},eW F w1 Sb nodes data (rr hs++more)->gc 98 #[hh Sb,eJ (k:Int),eJ m] w1 fun e w'=>e=.returned (.tuple #[.string (d.extract a (a+m.toNat)),eJ 0])/\eW (kp F w1 w') w' Sb nodes data (rr (hs.set k (true,(H f:Int),fg,(a:Int)+(d.extract a (a+m.toNat)).size))++more)/\eA F w1 w':=fun l=>by
     obtain⟨na,nc,da,dc,l⟩:=l;exact(Wh l j.h8 y O z (by omega) C (by omega) A P).mono fun e w' ⟨c,h1,h2⟩=>⟨c,ud h1 h2⟩
    by_cases E:m=0\/(a:Int)=256
    ·have e:d.extract a (a+m.toNat)=hZ:=by
      rcases E with rfl|E
      ·exact Kv d a
      ·exact yQ (by omega)
     rw[e,show((a:Int)+(hZ.size:Nat))=(a:Int)from Int.add_zero _,Wm y]at D;exact⟨hZ,0,_,rfl,(Gp B.wb k b m hZ 0 (fun w'=>w'=w) w (h.cell hk ho) hk (EP m o c1 c2 I J (.inr (.inr ⟨by omega,M,E,rfl⟩)))).mono fun e w' ⟨c,hw⟩=>⟨c,Hn h q hi v (by rw[hw];exact lh _ _)⟩,D⟩
    ·refine⟨_,0,_,rfl,?_,D⟩
     have hg:=Vq h.inv (by omega) h.fl ho M (n:=m) (by omega) (by omega) N;have e:d.extract (min (a:Int).toNat d.size) (min (min (a:Int).toNat d.size+(min m (256-(a:Int))).toNat) d.size)=d.extract a (a+m.toNat):=by
      rw[ow,show(min m (256-(a:Int))).toNat=min m.toNat (256-a) by omega];exact Wl C (by omega)
     rw[e]at hg;refine(Gp B.wb k b m _ 0 _ w (h.cell hk ho) hk hg).mono ?_;rintro e w' ⟨c,eF,U,hW⟩;refine⟨c,mV (yF:=g.fl) h hi U hW (by omega) h.fl q T ⟨⟨H,_,more,rfl,j.opens hk (some (b,f,fg,_)) (fun x hx=>?_)⟩,Q⟩⟩;cases hx;exact j.Wv k (b,f,fg,(a:Int)) ho
end
end Go.Proofs.YtlgidcmmgohagaaGreat
