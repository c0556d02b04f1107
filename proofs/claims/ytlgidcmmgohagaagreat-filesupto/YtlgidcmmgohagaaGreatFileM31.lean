/- What is proved here: the jX Write that finds no room. -/
import Derived.Test.YtlgidcmmgohagaaGreatFileM30
import Derived.Test.YtlgidcmmgohagaaGreatFileM27
import Derived.Test.YtlgidcmmgohagaaGreatFileM25
import Derived.Test.YtlgidcmmgohagaaGreatFileM21
namespace Go.Proofs.YtlgidcmmgohagaaGreat
open Go.RowKit Go.Sort Go.Shelf Go.Proofs.Tryz
set_option linter.unusedVariables false
set_option maxRecDepth 100000
set_option maxHeartbeats 16000000
variable {w w' w1 w2:World}{hs:List pg}{da na:e5}{Sb a b dc f j k m nc:Nat}{d x:eu}{F:Nat->Prop}
section
variable {F:Nat->Prop}{w:World}{S:Nat}{na da:e5}{nc dc:Nat}{nodes:List eD}{data:eB}{hs:List pg}{more rest:fE}
theorem F0(h:eV F w S na da nc dc nodes data (m9 hs++more))(h8:hs.length=8){k j a t:Nat}{fg:Int}(hk:hs[k]?=some (true,(j:Int),fg,(a:Int)))(hj:data[j]?=some d)(hf:0<=fg/\fg<=63)(E:a<=256)(hd:d.size<=256)(l:iv fg 2=true)(hx:x.size≠0)(ht:(iv fg 32=true/\t=d.size)\/(iv fg 32=false/\t=a))(G:256<t+x.size)(H:x.size<=1048576)(hl:data.length<=1000000000):
  eK 99 #[fj S,ed (k:Int),.string x] w (ml (ed 11) w):=by
 have I:=h.lt;have e:Hid _:=z2 h h8 (k:Int);rw[gW h8 hk]at e;have m:Hid (∀W,eK 159 #[ed fg,ed 2] W (tz (.bool true) W)):=fun W=>by have:=gV fg 2 W hf ⟨by decide,by decide⟩;rwa [l]at this
 have n:Hid _:=fun W=>gV fg 32 W hf ⟨by decide,by decide⟩;obtain⟨c0,c1,c2,c3,q⟩:=h.nw hk;have r:=(s6.1 hk).1;have J:k<8:=by omega
 have t3:(k:Int)<8:=by omega
 have s:Hid (eV F w S na da nc dc nodes data (m9 hs++more)):=h;have K:Hid (hs[k]?=some (true,(j:Int),fg,(a:Int))):=hk;have o:Hid (data[j]?=some d):=hj;have L:(x.toList==[])=false:=mq (by omega);have M:t<=256:=by rcases ht with h|h<;>omega
 have N:256<(t:Int)+(x.size:Int):=by omega
 have p:Hid _:=ht;clear h hk hj q l hf h8 r ht;go_enter func99,ntmps99;go_wp2_with fail;refine g7 e.out ?_;rintro _ w ⟨rfl,rfl⟩;go_wp2_with fail;refine g7 (m.out _) ?_;rintro _ w1 ⟨rfl,b⟩;have f:gS w w1:=by rw[b];exact(i7 _ _).alloc (io _) _
 have O:w1.cell? (eb w.heap.size 1)=some (ed (j:Int)):=by rw[b];simp
 have P:w1.cell? (eb w.heap.size 2)=some (ed fg):=by rw[b];simp
 have Q:w1.cell? (eb w.heap.size 3)=some (ed (a:Int)):=by rw[b];simp
 have u:w.heap.size<w1.heap.size:=by rw[b];simp
 have c:=s.out.below f;have y:=c.c1;obtain⟨R,z,T,U,_⟩:=row_one c.fP (i:=j) (v:=.string d) (by simp[fG,o.out]);have V:=c.lt;have A:j<data.length:=(s6.1 o.out).1;obtain⟨g,B⟩:∃g,g=data.length:=⟨_,rfl⟩;rw[<-B]at y A hl;have X:(j:Int)<(g:Int):=by omega
 subst z;have Y:Hid _:=c;have C:Hid _:=f;clear b c0 c1 c2 c3 c f;go_wp2_with fail
 go_region
 go_upto_if 42 with(go_at_call 159;refine g7 (n.out _) ?_;rintro _ _ ⟨rfl,rfl⟩)
 go_cut [10]from 43 to 44 (fun v wx=>v=.int .i64 (t:Int)/\Hid (gS w1 wx))
 case first=>
  go_wp2
  all_goals
   go_meet;refine⟨?_,(i7 _ _).drew⟩;rcases p.out with h|h<;>first|exact absurd (h.1.symm.trans (by assumption)) (by decide)|rw[h.2]
 case rest=>
  obtain⟨rfl,D⟩:=hcut;clear n m e p;go_wp2;go_ret;exact⟨rfl,C.out.trans (D.out.mono (uQ u))⟩
def T2 (d:eu)(m:Nat):eu:=ba ((ow d.data.toList m).take m)
theorem I5(h:eV F w S na da nc dc nodes data (m9 hs++more))(h8:hs.length=8){fg a:Int}(hk:hs[k]?=some (true,(j:Int),fg,a))(hj:data[j]?=some d)(hf:0<=fg/\fg<=63)(hd:d.size<=256)(s:iv fg 2=true)(hm:m<=256)(hl:data.length<=1000000000):
  eK 101 #[fj S,ed (k:Int),ed (m:Int)] w fun e w'=>e=.returned (ed 0)/\
   eV F w' S na da nc dc nodes (data.set j (T2 d m)) (m9 hs++more)/\en F w w':=by
 have U:=h.lt;have l:Hid _:=z2 h h8 (k:Int);rw[gW h8 hk]at l;have t:Hid (∀W,eK 159 #[ed fg,ed 2] W (tz (.bool true) W)):=fun W=>by have:=gV fg 2 W hf ⟨by decide,by decide⟩;rwa [s]at this
 obtain⟨c0,c1,c2,c3,D⟩:=h.nw hk;have E:=(s6.1 hk).1;have V:k<8:=by omega
 have t3:(k:Int)<8:=by omega
 have t0:decide ((m:Int)<0)=false:=m6 (by omega);have t1:decide (256<(m:Int))=false:=m6 (by omega);have u:=h.c1;have G:Hid (eV F w S na da nc dc nodes data (m9 hs++more)):=h;have H:Hid (hs[k]?=some (true,(j:Int),fg,a)):=hk;have X:Hid (data[j]?=some d):=hj;obtain⟨x,I,y,z,_⟩:=row_one h.fP (i:=j) (v:=.string d) (by simp[fG,hj]);have A:j<data.length:=(s6.1 hj).1;obtain⟨n,o⟩:∃n,n=data.length:=⟨_,rfl⟩;rw[<-o]at u A hl;have Y:(j:Int)<(n:Int):=by omega
 subst I;clear h hk hj D s hf h8 E;go_enter func101,ntmps101;go_wp2_with fail;refine g7 l.out ?_;rintro _ w ⟨rfl,rfl⟩;go_wp2_with fail;refine g7 (t.out _) ?_;rintro _ w ⟨rfl,rfl⟩;clear l t;go_wp2
 go_region
 go_wp2
 go_loopw [8] (fun v wr=>∃e:eu,e.size<=600/\v=.string e/\Hid (e=ba (ow d.data.toList e.size)/\d.size<=e.size/\e.size<=max d.size m)/\Hid (gS w wr)) (fun v _=>600-R5 v)
 case atStart=>exact⟨d,by omega,rfl,⟨by rw[<-Hb,rJ (io _),PZ],io _,Nat.le_max_left _ _⟩,(i7 _ _).drew⟩
 case round=>
  obtain⟨e,Z,rfl,r,c⟩:=hrel;by_cases q:e.size<m
  ·have J:(e.size:Int)<(m:Int):=by omega
   go_wp2;obtain⟨g,B,K⟩:=r.out;have f:(e++(⟨#[0]⟩:eu)).size=e.size+1:=by rw[J5];rfl
   refine⟨⟨_,by rw[f];omega,rfl,⟨?_,by rw[f];omega,by rw[f];omega⟩,c⟩,by unfold R5;simp only;rw[f];omega⟩;rw[f,<-FZ (by rw[Hb];exact B),<-C7,<-g];rfl
  ·have J:decide ((e.size:Int)<(m:Int))=false:=m6 (by omega)
   have aa:(m:Int)<=(e.size:Int):=by omega
   have L:Hid (T2 d m=e.extract 0 m):=by
    obtain⟨g,B,K⟩:=r.out;show _=_;have M:e=ba (ow d.data.toList m):=by
     by_cases N:m<=d.size
     ·rw[g,show e.size=d.size by omega,rJ (by rw[Hb];omega),rJ (by rw[Hb];exact N)]
     ·rw[g,show e.size=m by omega]
    unfold T2;rw[M,C8,xI]
   have b:=G.out.below c.out;obtain⟨ab,ac,ad,g3,O⟩:=b.nw H.out;have P:=b.c1;rw[<-o]at P;have ae:=(c.out.cell (p:=(eb x j)) y).trans z;obtain⟨af,C⟩:=p3 b.fP rfl;have fd:wr.frozen? (eb x j)=false:=by simp[World.frozen?,C]
   have ag:=b.lt;have ah:=kv y c.out.size;have Q:Hid _:=b;clear b O z u C c0 c1 c2 c3 r;go_wp2
   go_region
   go_wp2;go_ret;rw[L.out];obtain⟨R,T⟩:=Q.out.R4 (by rw[<-o];exact A) (e.extract 0 m);exact⟨rfl,R.below (i7 _ _).drew,(T.two (en.ew (i7 _ _).drew)).after c.out⟩
end
def yn (hs:List pg):Nat:=hs.findIdx (fun h=>!h.1)
abbrev Ui:=(Int×Int)×List eD×eB×List pg
def pz (nodes:List eD)(data:eB)(hs:List pg)(p:eu)(fl:Int)(k:Nat)(a:eu):Ui:=
 match je nodes p with
 |some i=>(match nodes[i]? with
  |none=>((0,0),nodes,data,hs)
  |some x=>if x.2.1=2 then((0,7),nodes,data,hs)else if iv fl 8=true then((0,6),nodes,data,hs) else(((k:Int),0),nodes,if iv fl 16=true then data.set x.2.2.toNat ⟨#[]⟩else data,hs.set k (true,x.2.2,fl,0)))
 |none=>if iv fl 4=false then((0,4),nodes,data,hs)else if 16<=(eE nodes a).length then((0,11),nodes,data,hs)
  else(((k:Int),0),nodes++[(p,1,(data.length:Int))],data++[⟨#[]⟩],hs.set k (true,(data.length:Int),fl,0))
def ro (nodes:List eD)(data:eB)(hs:List pg)(p:eu)(fl:Int):Ui:=
 if(fX p).2=false then((0,1),nodes,data,hs)
 else if pj fl=false then((0,2),nodes,data,hs)
 else if yn hs=8 then((0,10),nodes,data,hs)
 else if(fX p).1.length=0 then((0,7),nodes,data,hs)
 else if pP nodes (fX p).1≠0 then((0,pP nodes (fX p).1),nodes,data,hs)
 else pz nodes data hs p fl (yn hs) (ek ((fX p).1.take ((fX p).1.length-1)))
theorem I6{w1 wr c:World}{S:Nat}{nc dc nd a c4 b:Nat}{ns:List eD}{ds:eB}{rest:fE}{o:Obj}(h:eV (ie F w1 wr) wr S na da nc dc ns ds rest)(hk:en F w1 wr)(hn:nd=ds.length)
  (d:c.ownsRow 0 9 1 (.slice (some (eb a 0)) (nd+1) c4) (nd+1) (fG ds++[.string x]))(hg:(wr.alloc o).grownBy c (Value.slice da nd dc).ownBlock)(e:(Value.slice (some (eb a 0)) (nd+1) c4).ownBlock=(Value.slice da nd dc).ownBlock\/(Value.slice (some (eb a 0)) (nd+1) c4).ownBlock=some b)(f:wr.heap.size<=b:=by simp):
  eN (ie F w1 (c.setCell (eb S 1) (.slice (some (eb a 0)) (nd+1) c4))) (c.setCell (eb S 1) (.slice (some (eb a 0)) (nd+1) c4)) S ns (ds++[x]) rest/\en F w1 (c.setCell (eb S 1) (.slice (some (eb a 0)) (nd+1) c4)):=by
 subst hn;have P:=kw (i:=1) h.hS h.fP (by decide) (hZ wr o) (by simp) ⟨rfl,rfl,rfl⟩ d hg e f;obtain⟨g,hk2⟩:=h.Sy P;have j:=rr hk hk2;exact⟨g.wU (fun k l=>iX hk.size hk2.size l),j⟩
theorem BK(h:ie F w w1 k)(hs:w1.heap.size<=w2.heap.size):ie F w w2 k:=by
 rcases h with h|h
 ·exact .inl h
 ·exact .inr ⟨h.1,kv h.2 hs⟩
theorem BL(h:en F w w1)(k:en (ie F w w1) w1 w2):en F w w2:=by
 refine⟨k.os.trans h.os,k.tape.trans h.tape,k.output.trans h.output,pD h.size k.size,fun x hx hn=>?_⟩;rw[k.block x (kv hx h.size) (fun hf=>?_),h.block x hx hn];rcases hf with hf|⟨hf,_⟩
 ·exact hn hf
 ·omega
theorem R7(hk:k<hs.length)(h0:hs[k].1=false)(h1:∀i (h:i<hs.length),i<k->hs[i].1=true):yn hs=k:=by
 unfold yn;rw[List.findIdx_eq hk];exact⟨by rw[h0];rfl,fun j hj=>by rw[h1 j (by omega) hj];rfl⟩
theorem ML(h8:hs.length=8)(h1:∀i (h:i<hs.length),i<8->hs[i].1=true):yn hs=8:=by
 unfold yn;rw[<-h8,List.findIdx_eq_length];intro x hx;obtain⟨i,hi,rfl⟩:=mH hx;rw[h1 i hi (by omega)];rfl
section
variable {F:Nat->Prop}{w:World}{S:Nat}{na da:e5}{nc dc:Nat}{nodes:List eD}{data:eB}{hs:List pg}{more rest:fE}
theorem eV.R8(h:eV F w S na da nc dc nodes data (m9 hs++more))(hk:k<hs.length)(b:Bool)(j fg a:Int):
  eV F ((((w.setCell (eb S (2+k*4)) (.bool b)).setCell (eb S (2+k*4+1)) (ed j)).setCell (eb S (2+k*4+2)) (ed fg)).setCell (eb S (2+k*4+3)) (ed a)) S na da nc dc nodes data (m9 (hs.set k (b,j,fg,a))++more)/\
   en F w ((((w.setCell (eb S (2+k*4)) (.bool b)).setCell (eb S (2+k*4+1)) (ed j)).setCell (eb S (2+k*4+2)) (ed fg)).setCell (eb S (2+k*4+3)) (ed a)):=by
 obtain⟨h1,d⟩:=h.Ar (f:=0) (v:=.bool b) (x:=(b,hs[k].2.1,hs[k].2.2.1,hs[k].2.2.2)) hk (by omega) rfl;obtain⟨h2,e⟩:=h1.Ar (k:=k) (f:=1) (v:=.int .i64 j) (x:=(b,j,hs[k].2.2.1,hs[k].2.2.2)) (by simpa using hk) (by omega) (by simp[gZ]);rw[Kn]at h2;obtain⟨h3,g⟩:=h2.Ar (k:=k) (f:=2) (v:=.int .i64 fg) (x:=(b,j,fg,hs[k].2.2.2)) (by simpa using hk) (by omega) (by simp[gZ]);rw[Kn]at h3;obtain⟨c,k4⟩:=h3.Ar (k:=k) (f:=3) (v:=.int .i64 a) (x:=(b,j,fg,a)) (by simpa using hk) (by omega) (by simp[gZ]);rw[Kn]at c;exact⟨c,((d.two e).two g).two k4⟩
theorem I7(h:eV F w S na da nc dc nodes data (m9 hs++more))(h8:hs.length=8)(hf:jN nodes data)(a1:∀e∈nodes,e.2.1=1\/e.2.1=2)(a2:data.length<=1000000000)(p:eu)(hp:p.size<=2097152)(fl:Int):
  eK 94 #[fj S,.string p,ed fl] w fun e w'=>e=.returned (.tuple #[ed (ro nodes data hs p fl).1.1,ed (ro nodes data hs p fl).1.2])/\
   eN (ie F w w') w' S (ro nodes data hs p fl).2.1 (ro nodes data hs p fl).2.2.1 (m9 (ro nodes data hs p fl).2.2.2++more)/\en F w w':=by
 have ak:=QR p w hp;have br:Hid (eV F w S na da nc dc nodes data (m9 hs++more)):=h;have ab:Hid (jN nodes data):=hf;have r:Hid (∀w',gS w w'->eN (ie F w w') w' S nodes data (m9 hs++more)/\en F w w'):=fun w' O=>⟨eN.below ⟨na,nc,da,dc,h⟩ O,en.ew O⟩;have a3:Hid (∀x∈(fX p).1,x.size<=12):=Do p;have ax:Hid ((fX p).2=true->(fX p).1.length<=5):=EQ;obtain⟨ok,s⟩:∃b,b=(fX p).2:=⟨_,rfl⟩;obtain⟨xs,ay⟩:∃xs,xs=(fX p).1:=⟨_,rfl⟩;obtain⟨k,hk⟩:∃k,k=yn hs:=⟨_,rfl⟩;obtain⟨n,hn⟩:∃n,n=xs.length:=⟨_,rfl⟩;obtain⟨R,D⟩:∃R,R=ro nodes data hs p fl:=⟨_,rfl⟩;rw[<-D];unfold ro at D;rw[<-s,<-ay]at ak D ax;rw[<-ay]at a3;rw[<-hk]at D;rw[<-hn]at ak D ax;obtain⟨E,az⟩:∃E,E=ek (xs.take (n-1)):=⟨_,rfl⟩;rw[<-az]at D;have bs:Hid (E=ek (xs.take (xs.length-1))):=by rw[az,hn];rfl
 have cr:Hid (n=xs.length):=hn;have bt:Hid _:=a1;have a4:Hid _:=ak;have P:Hid _:=D;have aA:Hid (k=yn hs):=hk;have d:Hid _:=fun W=>FW fl W;clear h hf ak s ay D hk hn az a1;go_enter func94,ntmps94;go_wp2_with fail;refine g7 a4.out ?_;rintro _ w1 ⟨v,rfl,al,O⟩;obtain⟨bu,bv,rfl⟩:=lf al;have bw:=jf al;have aB:=br.out.below O;have Y:=O.size;have ct:=aB.lt;have bx:Hid _:=aB;have a5:Hid _:=al;have Z:Hid _:=O;clear a4 al O aB;go_wp2
 go_loopw [10] (fun v wr=>∃i:Nat,i<=8/\v=.int .i64 (i:Int)/\Hid (∀j (h:j<hs.length),j<i->hs[j].1=true)/\Hid (gS w1 wr)) (fun v _=>8-(intOf v).toNat)
 case atStart=>exact⟨0,by omega,rfl,fun j h1 h2=>absurd h2 (Nj _),i7 _ _⟩
 case round=>
  obtain⟨i,hi,rfl,G,z⟩:=hrel;by_cases q:i<8
  ·have cu:(i:Int)<8:=by omega
   have a6:i<hs.length:=by omega
   have am:=bx.out.below z.out;have c0:wr.cell? (eb S (2+i*4))=some (.bool hs[i].1):=am.tab (f:=0) a6 (by omega);have cv:=am.lt;have aa:Hid _:=am;clear am;cases hu:hs[i].1 with
   |true=>
    rw[hu]at c0;go_wp2;exact⟨⟨i+1,by omega,rfl,fun j h1 h2=>by
     rcases Km j i with h|h
     ·exact G.out j h1 h
     ·rw[<-hu];congr 2;omega,z⟩,by simp[intOf];omega⟩
   |false=>
    rw[hu]at c0;have ac:Hid (k=i):=aA.out.trans (R7 a6 hu G.out);clear hu;cases s:ok with
    |false=>
     have a:Hid (R=((0,1),nodes,data,hs)):=by show _=_;rw[P.out,s];rfl
     subst s;go_wp2_with(go_at_call 157;refine g7 (d.out _) ?_;rintro _ _ ⟨rfl,rfl⟩);go_ret2;rw[a.out];exact⟨rfl,r.out _ (Z.out.trans (z.out.mono Y))⟩
    |true=>
     have bz:=s;subst s;cases l:pj fl with
     |false=>
      have a:Hid (R=((0,2),nodes,data,hs)):=by show _=_;rw[P.out,l];rfl
      rw[l]at d;go_wp2_with(go_at_call 157;refine g7 (d.out _) ?_;rintro _ _ ⟨rfl,rfl⟩);go_ret2;rw[a.out];exact⟨rfl,r.out _ (Z.out.trans (z.out.mono Y))⟩
     |true=>
      rw[l]at d;have aC:0<=fl/\fl<=63:=by
       unfold pj at l;split at l
       ·cases l
       ·omega
      have cw:n<=5:=ax.out rfl;have a:Hid (R=if n=0 then((0,7),nodes,data,hs)else if pP nodes xs≠0 then((0,pP nodes xs),nodes,data,hs)else pz nodes data hs p fl k E):=by
       show _=_;rw[P.out,eJ (by simp),eJ (by rw[l];simp),eJ (by rw[ac.out];omega)]
      have bA:k=i:=ac.out;subst bA;have ad:Hid (gS w wr):=Z.out.trans (z.out.mono Y);have a7:=ad.out.size;clear P l bz ac G aA;by_cases h0:n=0
      ·have H:Hid (R=((0,7),nodes,data,hs)):=by show _=_;rw[a.out,fY h0]
       subst h0;go_wp2_with(go_at_call 157;refine g7 (d.out _) ?_;rintro _ _ ⟨rfl,rfl⟩);go_ret2;rw[H.out];exact⟨rfl,r.out _ ad.out⟩
      ·have cx:((n:Int)==0)=false:=by simp[h0]
       have a8:=eh a5.out (fun g hg=>z.out.block g (ee a5.out hg));have an:=He aa.out ab.out bu n bv xs (rv a8) a3.out (by omega) (by omega) bw;rw[<-bs.out]at an;obtain⟨e,a9⟩:∃e,e=pP nodes xs:=⟨_,rfl⟩;rw[<-a9]at an a;have G:Hid _:=an;clear an a9 a8;by_cases h1:e=0
       ·have bB:(e != 0)=false:=by simp[h1]
        have H:Hid (R=pz nodes data hs p fl k E):=by show _=_;rw[a.out,eJ h0,eJ (by simp[h1])]
        clear a h1 h0;have Q:=vr na nodes.length nc nodes p wr (rb aa.out.iP) ab.out.big;have aD:=nR aa.out ab.out E;obtain⟨q,hq⟩:∃q,q=(eE nodes E).length:=⟨_,rfl⟩;obtain⟨m,hm⟩:∃m,m=nodes.length:=⟨_,rfl⟩;have aE:=aa.out.c0;have cy:m<=1000000000:=by rw[hm];exact ab.out.big
        rw[<-hm]at Q aE;rw[<-hq]at aD;have bb:Hid _:=aD;have I:Hid (m=nodes.length):=hm;have bC:Hid (q=(eE nodes E).length):=hq;have J:Hid (∀f,1<=f/\f<=32->iv fl f=true->∀W,eK 159 #[ed fl,ed f] W (tz (.bool true) W)):=fun f hf e W=>by have:=gV fl f W aC hf;rwa [e]at this
        have T:Hid (∀f,1<=f/\f<=32->iv fl f=false->∀W,eK 159 #[ed fl,ed f] W (tz (.bool false) W)):=fun f hf e W=>by have:=gV fl f W aC hf;rwa [e]at this
        clear aD hm hq aC;cases U:je nodes p with
        |none=>
         rw[U]at Q;have aF:Hid (eK 106 #[.slice na m nc,.string p] wr (tz (ed (-1)) wr)):=Q;have K:Hid (R=if iv fl 4=false then((0,4),nodes,data,hs)else if 16<=q then((0,11),nodes,data,hs) else(((k:Int),0),nodes++[(p,1,(data.length:Int))],data++[fy],hs.set k (true,(data.length:Int),fl,0))):=by
          show _=_;rw[H.out,bC.out];unfold pz;rw[U]
         clear Q U H;go_wp2_with fail;refine g7 (d.out _) ?_;rintro _ wr ⟨rfl,rfl⟩;go_wp2_with fail;refine g7 G.out ?_;rintro _ wr ⟨rfl,rfl⟩;go_wp2_with fail;refine g7 aF.out ?_;rintro _ wr ⟨rfl,rfl⟩;go_wp2_with fail;refine g7 bb.out ?_;rintro _ w2 ⟨rfl,ae⟩;have A:Hid _:=ad.out.trans (ae.mono a7);have c:=aa.out.below ae;have L:Hid _:=c;have aG:=c.lt;have bD:=A.out.size;clear aE c0;cases aH:iv fl 4 with
         |false=>
          have o:Hid (R=((0,4),nodes,data,hs)):=by show _=_;rw[K.out,fY aH]
          go_wp2_with(go_at_call 159;(first|refine g7 (J.out _ (by decide) (by assumption) _) ?_|refine g7 (T.out _ (by decide) (by assumption) _) ?_);rintro _ _ ⟨rfl,rfl⟩);go_ret2;rw[o.out];exact⟨rfl,r.out _ A.out⟩
         |true=>
          by_cases NE:16<=q
          ·have bE:(16:Int)<=(q:Int):=by omega
           have o:Hid (R=((0,11),nodes,data,hs)):=by show _=_;rw[K.out,eJ (by rw[aH];simp),fY NE]
           go_wp2_with(go_at_call 159;(first|refine g7 (J.out _ (by decide) (by assumption) _) ?_|refine g7 (T.out _ (by decide) (by assumption) _) ?_);rintro _ _ ⟨rfl,rfl⟩);go_ret2;rw[o.out];exact⟨rfl,r.out _ A.out⟩
          ·have bE:decide ((16:Int)<=(q:Int))=false:=m6 (by omega)
           have o:Hid (R=(((k:Int),0),nodes++[(p,1,(data.length:Int))],data++[fy],hs.set k (true,(data.length:Int),fl,0))):=by show _=_;rw[K.out,eJ (by rw[aH];simp),eJ NE]
           clear K;obtain⟨bF,bG,bH,bI,bJ⟩:=H4 nT;obtain⟨bK,bL,bM,bN,bO⟩:=H4 nP;obtain⟨nd,nw⟩:∃nd,nd=data.length:=⟨_,rfl⟩;have ao:=c.c0;have ap:=c.c1;rw[<-I.out]at ao;rw[<-nw]at ap a2;have M:Hid (nd=data.length):=nw;have bc:Hid (w2.ownsRow 0 200 3 (.slice na m nc) m (flat nodes)):=by show World.ownsRow _ _ _ _ _ _ _;rw[I.out];exact c.iP
           have aI:Hid (eV (ie F w w2) w2 S na da nc dc nodes data (m9 hs++more)):=c.keep (fun _ h=>.inl h) (fun _ _=>rfl);have bQ:Hid (en F w w2):=en.ew A.out;clear c nw NE;go_upto_region 29 with(go_at_call 159;(first|refine g7 (J.out _ (by decide) (by assumption) _) ?_|refine g7 (T.out _ (by decide) (by assumption) _) ?_);rintro _ w2 ⟨rfl,rfl⟩)
           go_cut []from 112 to 127 (fun wx=>Hid (eN (ie F w wx) wx S (nodes++[(p,1,(nd:Int))]) data (m9 hs++more)/\en F w wx))
           case first=>
            go_region_law(refine pm rfl (.tmp 116) (.tmp 124) 174 rfl 0 200 bF _ 3 32 underlying174 bG bH bI bJ rfl (by decide) (.slice na m nc) m (flat nodes) (by simp[Act.eval]) (mL (show(w2.drewN 1).ownsRow _ _ _ _ _ _ from bc.out) _) (eb w2.heap.size 0) 1 1 (kA (p,1,(nd:Int))) (by simp[Act.eval]) rfl (m0 (w2.drewN 1) (p,1,(nd:Int)) _ _ rfl) (lL _) (by unfold maxLen;omega) (by omega) (oY _) ?_;intro cz aJ bd aK bR;obtain⟨cA,c4,rfl⟩:=ej bd (by omega);have be:=oX aI.out.hS (jx w2 1 _) (by simp) aK (eI bc.out aI.out.hS (by decide));have cB:aJ.cell? (eb S 0)=some (.slice na nodes.length nc):=(by simp[World.cell?,be]);have cC:aJ.frozen? (eb S 0)=false:=(by simp[World.frozen?,be]);have cD:S<aJ.heap.size:=(kv aG (by have:=aK.size;simp at this;omega)))
            all_goals
             go_wp2_with fail;go_meet;exact FJ aI.out bQ.out I.out bd aK bR
           case rest=>
            rename World=>w5;obtain⟨⟨bS,bT,aq,ar,af⟩,bf⟩:=hcut.out;have bU:Hid (en F w w5):=bf;have aL:Hid (eV (ie F w w5) w5 S bS aq bT ar (nodes++[(p,1,(nd:Int))]) data (m9 hs++more)):=af;have bg:=af.c1;have bV:=af.lt;rw[<-M.out]at bg;have bh:Hid (w5.ownsRow 0 9 1 (.slice aq nd ar) nd (fG data)):=by show World.ownsRow _ _ _ _ _ _ _;rw[M.out];exact af.fP
            clear hcut af bf ao ap aG;go_wp2_with(at_builtin;refine hE rfl (.tmp 132) (.tmp 133) 131 rfl 0 9 bK _ 1 16 underlying131 bL bM bN bO rfl (by decide) (.slice aq nd ar) nd (fG data) rfl (mL bh.out _) (eb w5.heap.size 0) 1 1 [.string fy] rfl rfl (one_cell w5 _ _ _ rfl) uf (by unfold maxLen;omega) (by omega) (oY _) ?_);intro v6 w6 aM au bi;obtain⟨bW,c6,rfl⟩:=ej aM (by omega);have aN:=oX aL.out.hS (hZ w5 _) (by simp) au (eI bh.out aL.out.hS (by decide));have bX:w6.cell? (eb S 1)=some (.slice aq data.length ar):=by simp[World.cell?,aN]
            have f16:w6.frozen? (eb S 1)=false:=(by simp[World.frozen?,aN]);have bY:S<w6.heap.size:=kv bV (by have:=au.size;simp at this;omega);obtain⟨bj,bk⟩:=I6 aL.out bU.out M.out aM au bi;have aO:Hid _:=bj;have aP:Hid _:=bk;clear bj bk aM au bi aN bg;go_upto_region 31 with fail;obtain⟨aQ,bl⟩:∃aQ,aQ=w6.setCell (eb S 1) (.slice (some (eb bW 0)) (nd+1) c6):=⟨_,rfl⟩;rw[<-bl]at aO aP ⊢;clear bl bX f16 bY;obtain⟨cE,cF,cG,cH,t⟩:=aO.out;have bZ:m<(nodes++[(p,1,(nd:Int))]).length:=by rw[I.out];simp
            have b0:=t.c0;have b1:=t.c1;have bm:(nodes++[(p,1,(nd:Int))]).length=m+1:=by rw[I.out];simp
            have e2:(data++[fy]).length=nd+1:=by rw[M.out];simp
            rw[bm]at b0;rw[e2]at b1;have B:=t.iP;obtain⟨g,b2,hv⟩:=ej B (by omega);have aR:=(kW hv).1;subst aR;obtain⟨_,_,ag⟩:=i2 (off:=0) (hh B) bZ;rw[PH]at ag;have b3:(nodes++[(p,1,(nd:Int))])[m].2.2=(nd:Int):=by
             have b4:=I.out;subst b4;simp
            rw[b3]at ag;have b5:=ee B rfl;have b6:(m:Int)<((m+1:Nat):Int):=by omega
            have cI:(nd:Int)<((nd+1:Nat):Int):=(by omega);have cJ:=t.lt;obtain⟨V,aS,b7,bn,_⟩:=row_one t.fP (i:=nd) (v:=.string fy) (by rw[M.out];simp[fG]);have X:k<hs.length:=by omega
            obtain⟨⟨b8,b9,ca,cb⟩,ah⟩:∃x,hs[k]?=some x:=⟨_,gJ X⟩;obtain⟨cc,cd,ce,cf,u⟩:=t.nw ah;have cg:=u (2+k*4);have ch:=u (2+k*4+1);have ci:=u (2+k*4+2);have cj:=u (2+k*4+3);subst aS;obtain⟨ck,ai⟩:=p3 t.fP rfl;have fd:aQ.frozen? (eb V nd)=false:=by simp[World.frozen?,ai]
            have hne:V≠S:=fun e=>eI t.fP t.hS (by decide) (by rw[e];rfl);have NG:S≠V:=fun e=>hne e.symm;have bo:Hid _:=t;have cl:Hid _:=e2;clear u ai ah B hv t bm e2 aO;cases aT:iv fl 16 with
            |true=>
             go_wp2_with(go_at_call 159;(first|refine g7 (J.out _ (by decide) (by assumption) _) ?_|refine g7 (T.out _ (by decide) (by assumption) _) ?_);rintro _ _ ⟨rfl,rfl⟩);go_ret2;rw[o.out];obtain⟨aU,av⟩:=bo.out.R4 (j:=nd) (by rw[cl.out];omega) fy;obtain⟨N,C⟩:=aU.R8 X true (nd:Int) fl 0;have es:(data++[fy]).set nd fy=data++[fy]:=by rw[M.out];simp
             rw[es]at N;rw[<-M.out];exact⟨rfl,⟨_,_,_,_,N.keep (fun _ h=>BK h (av.two C).size) (fun _ _=>rfl)⟩,BL aP.out (av.two C)⟩
            |false=>
             go_wp2_with(go_at_call 159;(first|refine g7 (J.out _ (by decide) (by assumption) _) ?_|refine g7 (T.out _ (by decide) (by assumption) _) ?_);rintro _ _ ⟨rfl,rfl⟩);go_ret2;rw[o.out];obtain⟨N,C⟩:=bo.out.R8 X true (nd:Int) fl 0;rw[<-M.out];exact⟨rfl,⟨_,_,_,_,N.keep (fun _ h=>BK h C.size) (fun _ _=>rfl)⟩,BL aP.out C⟩
        |some y=>
         rw[U]at Q;have aF:Hid (eK 106 #[.slice na m nc,.string p] wr (tz (ed (y:Int)) wr)):=Q;have aw:y<nodes.length:=(wX.1 U).1;have K:Hid (R=if nodes[y].2.1=2 then((0,7),nodes,data,hs)else if iv fl 8=true then((0,6),nodes,data,hs) else(((k:Int),0),nodes,if iv fl 16=true then data.set nodes[y].2.2.toNat fy else data,hs.set k (true,nodes[y].2.2,fl,0))):=by
          show _=_;rw[H.out];unfold pz;rw[U];simp only[gJ aw]
         clear Q U H;go_wp2_with fail;refine g7 (d.out _) ?_;rintro _ wr ⟨rfl,rfl⟩;go_wp2_with fail;refine g7 G.out ?_;rintro _ wr ⟨rfl,rfl⟩;go_wp2_with fail;refine g7 aF.out ?_;rintro _ wr ⟨rfl,rfl⟩;go_wp2_with fail;refine g7 bb.out ?_;rintro _ w2 ⟨rfl,ae⟩;have aV:gS w w2:=ad.out.trans (ae.mono a7);have c:=aa.out.below ae;have ao:=c.c0;have ap:=c.c1;rw[<-I.out]at ao;have B:=c.iP;obtain⟨g,b2,hv⟩:=ej B (by omega);have aR:=(kW hv).1;subst aR;obtain⟨_,aW,ag⟩:=i2 (off:=0) (hh B) aw;rw[PH]at aW ag;have b5:=ee B rfl;have b6:(y:Int)<(m:Int):=by have:=I.out;omega
         have aG:=c.lt;have L:Hid _:=c;have A:Hid _:=aV;have bD:=aV.size;clear B hv c aV aE c0;by_cases hk2:nodes[y].2.1=2
         ·have o:Hid (R=((0,7),nodes,data,hs)):=by show _=_;rw[K.out,fY hk2]
          rw[hk2]at aW;clear hk2;go_wp2;go_ret2;rw[o.out];exact⟨rfl,r.out _ A.out⟩
         ·have aX:nodes[y].2.1=1:=(bt.out _ (iF aw)).resolve_right hk2
          obtain⟨cm,cn⟩:=ab.out.files _ (iF aw) aX;obtain⟨j,hj⟩:∃j:Nat,nodes[y].2.2=(j:Int):=⟨nodes[y].2.2.toNat,by omega⟩;have aY:j<data.length:=by omega
          have o:Hid (R=if iv fl 8=true then((0,6),nodes,data,hs) else(((k:Int),0),nodes,if iv fl 16=true then data.set j fy else data,hs.set k (true,(j:Int),fl,0))):=by show _=_;rw[K.out,eJ hk2,hj,lV]
          rw[aX]at aW;rw[hj]at ag;clear hk2 aX cm cn hj K;cases aZ:iv fl 8 with
          |true=>
           have aj:Hid (R=((0,6),nodes,data,hs)):=by show _=_;rw[o.out,fY aZ]
           go_wp2_with(go_at_call 159;refine g7 (J.out _ (by decide) (by assumption) _) ?_;rintro _ _ ⟨rfl,rfl⟩);go_ret2;rw[aj.out];exact⟨rfl,r.out _ A.out⟩
          |false=>
           have X:k<hs.length:=(by omega);obtain⟨V,aS,b7,bn,_⟩:=row_one L.out.fP (i:=j) (v:=.string data[j]) (by simp[fG,aY]);obtain⟨bp,bq⟩:∃bp,bp=data[j]:=⟨_,rfl⟩;rw[<-bq]at bn;obtain⟨a0,cp⟩:∃a0,a0=data.length:=⟨_,rfl⟩;rw[<-cp]at ap a2;have cK:(j:Int)<(a0:Int):=by omega
           obtain⟨⟨b8,b9,ca,cb⟩,ah⟩:∃x,hs[k]?=some x:=⟨_,gJ X⟩;obtain⟨cc,cd,ce,cf,u⟩:=L.out.nw ah;have cg:=u (2+k*4);have ch:=u (2+k*4+1);have ci:=u (2+k*4+2);have cj:=u (2+k*4+3);subst aS;obtain⟨ck,ai⟩:=p3 L.out.fP rfl;have fd:w2.frozen? (eb V j)=false:=by simp[World.frozen?,ai]
           have hne:V≠S:=fun e=>eI L.out.fP L.out.hS (by decide) (by rw[e];rfl);have NG:S≠V:=fun e=>hne e.symm;have cq:Hid (j<data.length):=aY;clear u ai bq ah aY;cases aT:iv fl 16 with
           |true=>
            have aj:Hid (R=(((k:Int),0),nodes,data.set j fy,hs.set k (true,(j:Int),fl,0))):=by show _=_;rw[o.out,eJ (by rw[aZ];simp),fY aT]
            go_wp2_with(go_at_call 159;(first|refine g7 (J.out _ (by decide) (by assumption) _) ?_|refine g7 (T.out _ (by decide) (by assumption) _) ?_);rintro _ _ ⟨rfl,rfl⟩);go_ret2;rw[aj.out];obtain⟨aU,av⟩:=L.out.R4 cq.out fy;obtain⟨N,C⟩:=aU.R8 X true (j:Int) fl 0;exact⟨rfl,⟨_,_,_,_,N.keep (fun _ h=>.inl h) (fun _ _=>rfl)⟩,(av.two C).after A.out⟩
           |false=>
            have aj:Hid (R=(((k:Int),0),nodes,data,hs.set k (true,(j:Int),fl,0))):=by show _=_;rw[o.out,eJ (by rw[aZ];simp),eJ (by rw[aT];simp)]
            go_wp2_with(go_at_call 159;(first|refine g7 (J.out _ (by decide) (by assumption) _) ?_|refine g7 (T.out _ (by decide) (by assumption) _) ?_);rintro _ _ ⟨rfl,rfl⟩);go_ret2;rw[aj.out];obtain⟨N,C⟩:=L.out.R8 X true (j:Int) fl 0;exact⟨rfl,⟨_,_,_,_,N.keep (fun _ h=>.inl h) (fun _ _=>rfl)⟩,C.after A.out⟩
       ·have bB:(e != 0)=true:=by simp[h1]
        have H:Hid (R=((0,e),nodes,data,hs)):=by show _=_;rw[a.out,eJ h0,fY h1]
        clear h1 h0;go_wp2_with fail;refine g7 (d.out _) ?_;rintro _ wr ⟨rfl,rfl⟩;go_wp2_with fail;refine g7 G.out ?_;rintro _ wr ⟨rfl,rfl⟩;go_wp2;go_ret2;rw[H.out];exact⟨rfl,r.out _ ad.out⟩
  ·obtain rfl:i=8:=by omega
   have ac:Hid (k=8):=aA.out.trans (ML h8 G.out);cases s:ok with
   |false=>
    have a:Hid (R=((0,1),nodes,data,hs)):=by show _=_;rw[P.out,s];rfl
    subst s;go_wp2_with(go_at_call 157;refine g7 (d.out _) ?_;rintro _ _ ⟨rfl,rfl⟩);go_ret2;rw[a.out];exact⟨rfl,r.out _ (Z.out.trans (z.out.mono Y))⟩
   |true=>
    subst s;cases l:pj fl with
    |false=>
     have a:Hid (R=((0,2),nodes,data,hs)):=by show _=_;rw[P.out,l];rfl
     rw[l]at d;go_wp2_with(go_at_call 157;refine g7 (d.out _) ?_;rintro _ _ ⟨rfl,rfl⟩);go_ret2;rw[a.out];exact⟨rfl,r.out _ (Z.out.trans (z.out.mono Y))⟩
    |true=>
     have a:Hid (R=((0,10),nodes,data,hs)):=by show _=_;rw[P.out,l,ac.out];rfl
     rw[l]at d;go_wp2_with(go_at_call 157;refine g7 (d.out _) ?_;rintro _ _ ⟨rfl,rfl⟩);go_ret2;rw[a.out];exact⟨rfl,r.out _ (Z.out.trans (z.out.mono Y))⟩
end
theorem P0(o:Nat)(x:Value)(a:Int)(h0:0<=a)(h1:a<=256)(w:World)(ho:o<w.heap.size)(c2:w.cell? (eb o 2)=some x)(f2:w.frozen? (eb o 2)=false):eK 165 #[fj o,ed a] w fun e w'=>e=.returned (ed 0)/\w'=w.setCell (eb o 2) (ed a):=by
 have t0:decide (a<0)=false:=m6 (by omega);have t1:decide (256<a)=false:=m6 (by omega);go_enter func165,ntmps165;go_wp2;go_ret;exact⟨rfl,rfl⟩
theorem J3(wb k o:Nat)(n er:Int)(R:World->Prop)(w:World)(hc:w.cell? (eb wb (1+k))=some (fj o))(hk:k<8)
  (hr:eK 165 #[fj o,ed n] w fun e w'=>e=.returned (ed er)/\R w'):
  eK 102 #[fj wb,ed (k:Int),ed n] w fun e w'=>e=.returned (ed er)/\R w':=by
 have a:=qm wb k o w hc hk;go_enter func102,ntmps102;go_wp2_with(first
  |(go_at_call 122;refine a.mono ?_;rintro e w1 ⟨rfl,rfl⟩)
  |(go_at_call 165;refine hr.mono ?_;rintro e w1 ⟨rfl,b⟩))
 go_ret;exact⟨rfl,b⟩
theorem MM(wb k o:Nat)(n er:Int)(R:World->Prop)(w:World)(hc:w.cell? (eb wb (1+k))=some (fj o))(hk:k<8)
  (hr:eK 164 #[fj o,ed n] w fun e w'=>e=.returned (ed er)/\R w'):
  eK 100 #[fj wb,ed (k:Int),ed n] w fun e w'=>e=.returned (ed er)/\R w':=by
 have a:=qm wb k o w hc hk;go_enter func100,ntmps100;go_wp2_with(first
  |(go_at_call 122;refine a.mono ?_;rintro e w1 ⟨rfl,rfl⟩)
  |(go_at_call 164;refine hr.mono ?_;rintro e w1 ⟨rfl,b⟩))
 go_ret;exact⟨rfl,b⟩
theorem jL.used{ei:List Ob}{fl:Mu}{op:RL}{t:LT}{nodes:List eD}{data:eB}{a:Nat->Nat}(h:jL ei fl op t nodes data hs a)(n:Int):
  (ni hs n=false/\sY (fun k=>(op k).map (·.1)) n)\/∃(k b f:Nat) (fg pl:Int),k<8/\n=(k:Int)/\op k=some (b,f,fg,pl)/\hs[k]?=some (true,(a f:Int),fg,pl):=by
 by_cases hn:0<=n/\n<8
 ·obtain⟨k,rfl⟩:∃k:Nat,n=(k:Int):=⟨n.toNat,by omega⟩
  have hk:k<8:=by omega
  have ht:=h.tab k hk;cases ho:op k with
  |none=>
   refine .inl ⟨?_,fun j _ hj=>?_⟩
   ·rw[ho]at ht
    obtain⟨hl,e⟩:=s6.1 ht;rw[zm hl h.h8,e];rfl
   ·obtain rfl:j=k:=by omega
    show(op j).map _=none;rw[ho];rfl
  |some x=>
   obtain⟨b,f,fg,pl⟩:=x;rw[ho]at ht;exact .inr ⟨k,b,f,fg,pl,hk,rfl,ho,ht⟩
 ·exact .inl ⟨uK hn,fun k hk e=>absurd ⟨by omega,by omega⟩ hn⟩
section
variable {s i p:Nat}{B:WB}{ei:List Ob}{tg:eM}{w:World}{g:WG}{lim:Nat}{t:LT}{nodes:List eD}{data:eB}{rest:fE}
theorem kr{ey:eM}{fs':FS}{vB:Mu}{op':RL}{a:Nat}{e6:eB}{b:fE}(h:fT tg w s i p B ei g lim t)(hi:eX ei t)(m:eo (Mine i) tg ey w w')(hW:eH ey w' s i p B ei { g with fs:=fs',fl:=vB,op:=op' } a)(hl:a<=lim+400)(d:qB ei vB)(e:g.fs.brk=false)(c:g.fs.Next fs')(f:gq ei vB op' t nodes e6 b):pn s i p B ei tg w w' g (lim+400) nodes e6 b:=
 ⟨ey,_,t,m,⟨hW.mono hl,h.flat,h.ok,d⟩,c.1.trans e,c.2.2.1,hi,f⟩
theorem fT.cell(h:fT tg w s i p B ei g lim t){fg pl:Int}(hk:k<8)(ho:g.op k=some (b,f,fg,pl)):w.cell? (eb B.wb (1+k))=some (fj b):=by
 obtain⟨_,_,h1⟩:=h.ws;rw[h1.2.1 k hk];show some (Value.pointer (Option.map _ (Option.map _ (g.op k))))=_;rw[ho];rfl
theorem fT.fg(h:fT tg w s i p B ei g lim t){fg pl:Int}(ho:g.op k=some (b,f,fg,pl)):(∃x,g.fl f=some x)/\(0<=fg/\fg<=63)/\0<=pl/\pl<=256:=by
 obtain⟨_,_,hx,h1,h2,h3,a⟩:=h.inv.wp.opens.at_ k b f fg pl ho;exact⟨hx,⟨h1,by omega⟩,h3,a⟩
theorem pE(h:eN F w1 Sb nodes data rest)(a:gS w1 w'):eN (ie F w1 w') w' Sb nodes data rest/\en F w1 w':=⟨eN.below h a,en.ew a⟩
theorem qL(h:eV F w' Sb na da nc dc nodes data rest)(hk:en F w1 w'):eN (ie F w1 w') w' Sb nodes data rest/\en F w1 w':=⟨⟨na,nc,da,dc,h.keep (fun _ h=>.inl h) (fun _ _=>rfl)⟩,hk⟩
theorem Tw(h:fT tg w s i p B ei g lim t)(j:g.fs.brk=false)(hi:eX ei t)(q:gq ei g.fl g.op t nodes data rest)(Sb:Nat)(n a:Int):
  ∃er r,(eK 102 #[fj B.wb,ed n,ed a] w fun e w'=>e=.returned (ed er)/\pn s i p B ei tg w w' g (lim+400) nodes data r)/\
   ∀{F:Nat->Prop} {w1:World},eN F w1 Sb nodes data rest->eK 103 #[fj Sb,ed n,ed a] w1 fun e w'=>e=.returned (ed er)/\eN (ie F w1 w') w' Sb nodes data r/\en F w1 w':=by
 have u:=q;obtain⟨⟨v,hs,more,rfl,d⟩,z⟩:=q;obtain⟨G,c0,A⟩:=h.ws;have C:∀{F:Nat->Prop} {w1:World},eN F w1 Sb nodes data (m9 hs++more)->eK 103 #[fj Sb,ed n,ed a] w1 fun e w'=>e=.returned (ed (jR hs n a).2)/\eN (ie F w1 w') w' Sb nodes data (m9 (jR hs n a).1++more)/\en F w1 w':=fun l=>by
  obtain⟨na,nc,da,dc,l⟩:=l;exact(ME l d.h8 n a).mono fun e w' ⟨c,h1,h2⟩=>⟨c,qL h1 h2⟩
 refine⟨_,_,?_,C⟩;rcases d.used n with⟨hu,hn⟩|⟨k,b,f,fg,pl,hk,rfl,ho,y⟩
 ·have e:jR hs n a=(hs,3):=by unfold jR;rw[fY hu]
  rw[e];exact(R1 A hn a).mono fun e w' ⟨c,hw⟩=>⟨c,u1 h j hi u (by rw[hw];exact i7 _ _)⟩
 ·have hu:=gW d.h8 y
  obtain⟨hx,H,I,J⟩:=h.fg ho;obtain⟨D,_,_,c2,E⟩:=ub h.inv ho;by_cases o:a<0\/256<a
  ·have e:jR hs (k:Int) a=(hs,2):=by unfold jR;rw[eJ (by rw[hu];simp),fY o]
   rw[e];exact(J3 B.wb k b a 2 (fun w'=>w'=w) w (h.cell hk ho) hk (MI a o w)).mono fun e w' ⟨c,hw⟩=>⟨c,u1 h j hi u (by rw[hw];exact i7 _ _)⟩
  ·have e:jR hs (k:Int) a=(hs.set k (true,(v f:Int),fg,a),0):=by unfold jR;rw[eJ (by rw[hu];simp),eJ o,lV,y]
   rw[e];refine(J3 B.wb k b a 0 _ w (h.cell hk ho) hk (P0 b _ a (by omega) (by omega) w D c2 (E 2))).mono ?_;rintro e w' ⟨c,rfl⟩;obtain⟨m,hW⟩:=h.inv.place ho (Ga:=a) (by omega) (by omega);refine⟨c,kr (fs':=g.fs) (vB:=g.fl) h hi (m.mono O9) hW (by omega) h.fl j (FS.Next.refl _) ⟨⟨v,_,more,rfl,d.opens hk (some (b,f,fg,a)) (fun x hx=>?_)⟩,z⟩⟩;cases hx;exact d.Qd k (b,f,fg,pl) ho
theorem R9(h:fT tg w s i p B ei g lim t)(j:g.fs.brk=false)(hi:eX ei t)(l:gq ei g.fl g.op t nodes data rest)(Sb:Nat)(n:Int):
  ∃er o,(eK 65 #[fj B.wb,ed n] w fun e w'=>e=.returned (ed er)/\pn s i p B ei tg w w' g (lim+400) nodes data o)/\
   ∀{F:Nat->Prop} {w1:World},eN F w1 Sb nodes data rest->eK 104 #[fj Sb,ed n] w1 fun e w'=>e=.returned (ed er)/\eN (ie F w1 w') w' Sb nodes data o/\en F w1 w':=by
 have r:=l;obtain⟨⟨u,hs,more,rfl,c⟩,v⟩:=l;obtain⟨y,c0,q⟩:=h.ws;have z:∀{F:Nat->Prop} {w1:World},eN F w1 Sb nodes data (m9 hs++more)->eK 104 #[fj Sb,ed n] w1 fun e w'=>e=.returned (ed (kY hs n).2)/\eN (ie F w1 w') w' Sb nodes data (m9 (kY hs n).1++more)/\en F w1 w':=fun d=>by
  obtain⟨na,nc,da,dc,d⟩:=d;exact(I2 d c.h8 n).mono fun e w' ⟨a,h1,h2⟩=>⟨a,qL h1 h2⟩
 refine⟨_,_,?_,z⟩;rcases c.used n with⟨hu,hn⟩|⟨k,b,f,fg,pl,hk,rfl,ho,A⟩
 ·have e:kY hs n=(hs,3):=by unfold kY;rw[fY hu]
  rw[e];exact(PU q hn).mono fun e w' ⟨a,hw⟩=>⟨a,u1 h j hi r (by rw[hw];exact i7 _ _)⟩
 ·have hu:=gW c.h8 A
  have e:kY hs (k:Int)=(hs.set k (false,0,0,0),0):=by unfold kY;rw[eJ (by rw[hu];simp),lV]
  rw[e];refine(O8 B.wb k b w y (h.cell hk ho) (q.2.2 _) hk).mono ?_;rintro e w' ⟨a,rfl⟩;obtain⟨m,hW⟩:=h.inv.close hk;exact⟨a,kr (fs':=g.fs) (vB:=g.fl) h hi (m.mono (fun _ h=>.inr (by rw[h]))) hW (by omega) h.fl j (FS.Next.refl _) ⟨⟨u,_,more,rfl,c.opens hk none (fun x hx=>by cases hx)⟩,v⟩⟩
end
theorem vN{a x:Nat}(h:d.size<=a):d.extract a x=fy:=by
 apply Gp;rw[J8];have h2:d.data.size=d.size:=rfl;apply Array.eq_empty_of_size_eq_zero;rw[Array.size_extract];omega
theorem C9(d:eu)(a x:Nat):d.extract a (min x d.size)=d.extract a x:=by
 rcases Nat.le_total x d.size with h|h
 ·rw[uN h]
 ·rw[Nat.min_eq_right h];exact J1 (io _) h
theorem P3(hd:d.size<=256)(b:a<=256):d.extract (min a d.size) (min (min a d.size+min m (256-a)) d.size)=d.extract a (a+m):=by
 rw[C9];rcases Km a d.size with h|h
 ·rw[uN (by omega),<-C9,<-C9 d a (a+m)]
  congr 1;omega
 ·rw[Nat.min_eq_right h,vN (io _),vN h]
section
variable {s i p:Nat}{B:WB}{ei:List Ob}{tg:eM}{w:World}{g:WG}{lim:Nat}{t:LT}{nodes:List eD}{data:eB}{rest:fE}
theorem vO(h:fT tg w s i p B ei g lim t)(c:g.fs.brk=false){x:Int×eu}(hf:g.fl f=some x):∃a,po ei g.fl g.fs f=(a,0,iE ei g.fl f)/\g.fs.Next a/\(iE ei g.fl f).size<=256:=by
 obtain⟨j,b⟩:=kj (yh ei g.fl g.fs f) c;have e:(po ei g.fl j1 f).2=(0,iE ei g.fl f):=by
  obtain⟨id,d⟩:=x;unfold po iE;rw[hf];by_cases h0:id=0
  ·simp[h0]
  ·simp[h0,FS.fA,j1]
 rw[e]at b;have e2:po ei g.fl g.fs f=((po ei g.fl g.fs f).1,0,iE ei g.fl f):=xN rfl b;exact⟨_,e2,j,rB h.inv h.fl e2⟩
theorem P4{x:pg}(h:hs[k]?=some x):hs.set k x=hs:=by
 obtain⟨hl,e⟩:=s6.1 h;rw[<-e,List.set_getElem_self]
theorem Tx(h:fT tg w s i p B ei g lim t)(hl:lim+1000<1099511627776)(q:g.fs.brk=false)(hi:eX ei t)(G:gq ei g.fl g.op t nodes data rest)(P:data.length<=1000000000)(Sb:Nat)(n m:Int):
  ∃a er r,(er==14)=false/\(eK 66 #[fj B.wb,ed n,ed m] w fun e w'=>e=.returned (.tuple #[.string a,ed er])/\pn s i p B ei tg w w' g (lim+400) nodes data r)/\
   ∀{F:Nat->Prop} {w1:World},eN F w1 Sb nodes data rest->eK 98 #[fj Sb,ed n,ed m] w1 fun e w'=>e=.returned (.tuple #[.string a,ed er])/\eN (ie F w1 w') w' Sb nodes data r/\en F w1 w':=by
 have v:=G;obtain⟨⟨H,hs,more,rfl,j⟩,Q⟩:=G;obtain⟨V,c0,R⟩:=h.ws;rcases j.used n with⟨hu,hn⟩|⟨k,b,f,fg,pl,hk,rfl,ho,y⟩
 ·refine⟨fy,3,_,rfl,(RZ R hn m).mono fun e w' ⟨c,hw⟩=>⟨c,u1 h q hi v (by rw[hw];exact i7 _ _)⟩,fun l=>?_⟩
  obtain⟨na,nc,da,dc,u⟩:=l;exact(I4 u j.h8 n m hu).mono fun e w' ⟨c,o⟩=>⟨c,pE ⟨na,nc,da,dc,u⟩ o⟩
 ·obtain⟨⟨x,hx⟩,z,I,J⟩:=h.fg ho
  obtain⟨o,_,c1,c2,W⟩:=ub h.inv ho;obtain⟨K,_⟩:=zH z;have L:∀er:Int,(er==14)=false->((m<0/\er=2)\/(0<=m/\iv fg 1=false/\er=12))->∃a er r,(er==14)=false/\(eK 66 #[fj B.wb,ed (k:Int),ed m] w fun e w'=>e=.returned (.tuple #[.string a,ed er])/\pn s i p B ei tg w w' g (lim+400) nodes data r)/\
   ∀{F:Nat->Prop} {w1:World},eN F w1 Sb nodes data (m9 hs++more)->eK 98 #[fj Sb,ed (k:Int),ed m] w1 fun e w'=>e=.returned (.tuple #[.string a,ed er])/\eN (ie F w1 w') w' Sb nodes data r/\en F w1 w':=fun er S c=>by
   refine⟨fy,er,_,S,(CK B.wb k b m fy er (fun w'=>w'=w) w (h.cell hk ho) hk (BJ m o c1 c2 I J (c.elim (fun e=>.inl e) (fun e=>.inr (.inl ⟨e.1,by rw[K,e.2.1];rfl,e.2.2⟩))))).mono fun e w' ⟨c,hw⟩=>⟨c,u1 h q hi v (by rw[hw];exact i7 _ _)⟩,fun l=>?_⟩;obtain⟨na,nc,da,dc,u⟩:=l;exact(MJ u j.h8 y z c).mono fun e w' ⟨c,o⟩=>⟨c,pE ⟨na,nc,da,dc,u⟩ o⟩
  by_cases hm:m<0
  ·exact L 2 rfl (.inl ⟨hm,rfl⟩)
  ·cases A:iv fg 1 with
   |false=>exact L 12 rfl (.inr ⟨by omega,A,rfl⟩)
   |true=>
    have M:(bits BinOp.and IntKind.i64 fg 1==0)=false:=by rw[K,A];rfl
    obtain⟨X,N,T,C⟩:=vO h q hx;have O:=j.cont f (by rw[hx];simp);obtain⟨d,hd⟩:∃d,d=iE ei g.fl f:=⟨_,rfl⟩;rw[<-hd]at N C O;obtain⟨a,rfl⟩:∃a:Nat,pl=(a:Int):=⟨pl.toNat,by omega⟩;have D:∀{F:Nat->Prop} {w1:World},eN F w1 Sb nodes data (m9 hs++more)->eK 98 #[fj Sb,ed (k:Int),ed m] w1 fun e w'=>e=.returned (.tuple #[.string (d.extract a (a+m.toNat)),ed 0])/\eN (ie F w1 w') w' Sb nodes data (m9 (hs.set k (true,(H f:Int),fg,(a:Int)+(d.extract a (a+m.toNat)).size))++more)/\en F w1 w':=fun l=>by
     obtain⟨na,nc,da,dc,l⟩:=l;exact(PX l j.h8 y O z (by omega) C (by omega) A P).mono fun e w' ⟨c,h1,h2⟩=>⟨c,qL h1 h2⟩
    by_cases E:m=0\/(a:Int)=256
    ·have e:d.extract a (a+m.toNat)=fy:=by
      rcases E with rfl|E
      ·exact FX d a
      ·exact vN (by omega)
     rw[e,show((a:Int)+(fy.size:Nat))=(a:Int)from Int.add_zero _,P4 y]at D;exact⟨fy,0,_,rfl,(CK B.wb k b m fy 0 (fun w'=>w'=w) w (h.cell hk ho) hk (BJ m o c1 c2 I J (.inr (.inr ⟨by omega,M,E,rfl⟩)))).mono fun e w' ⟨c,hw⟩=>⟨c,u1 h q hi v (by rw[hw];exact i7 _ _)⟩,D⟩
    ·refine⟨_,0,_,rfl,?_,D⟩
     have hg:=Pa h.inv (by omega) h.fl ho M (n:=m) (by omega) (by omega) N;have e:d.extract (min (a:Int).toNat d.size) (min (min (a:Int).toNat d.size+(min m (256-(a:Int))).toNat) d.size)=d.extract a (a+m.toNat):=by
      rw[lV,show(min m (256-(a:Int))).toNat=min m.toNat (256-a) by omega];exact P3 C (by omega)
     rw[e]at hg;refine(CK B.wb k b m _ 0 _ w (h.cell hk ho) hk hg).mono ?_;rintro e w' ⟨c,ey,U,hW⟩;refine⟨c,kr (vB:=g.fl) h hi U hW (by omega) h.fl q T ⟨⟨H,_,more,rfl,j.opens hk (some (b,f,fg,_)) (fun x hx=>?_)⟩,Q⟩⟩;cases hx;exact j.Qd k (b,f,fg,(a:Int)) ho
end
end Go.Proofs.YtlgidcmmgohagaaGreat
