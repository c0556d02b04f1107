/- What is proved here: 'Checkout' of the mE own uv. -/
import Derived.Test.YtlgidcmmgohagaaGreatFileM26
import Derived.Test.YtlgidcmmgohagaaGreatFileM27
import Derived.Deep.Cut
import Derived.Deep.CutRange
import Derived.Test.YtlgidcmmgohagaaGreatFileM22
import Derived.Test.YtlgidcmmgohagaaGreatFileM09
namespace Go.Proofs.YtlgidcmmgohagaaGreat
open Go.RowKit Go.Sort Go.Shelf Go.Proofs.Tryz
set_option linter.unusedVariables false
set_option maxRecDepth 100000
set_option maxHeartbeats 16000000
variable {v:Value}{w w1:World}{rest:fQ}{S dc j nc p s:Nat}{nodes:List eN}{id:Int}{data:eL}{da na:fD}{F:Nat->Prop}{ey:List Ob}
def Dt (w w':World)(k:Nat):Prop:=w.heap.size<=k/\k<w'.heap.size
theorem CB{w a w3:World}{S q j:Nat}(hs:eW (Dt w a) a S nodes data rest)(hS:w.heap.size<=S)(b:ik w a)(hg:(a.drewN q).grownBy w3 none):
  eW (Dt w (w3.setCell (eI S (2+j)) v)) (w3.setCell (eI S (2+j)) v) S nodes data (rest.set j v)/\ik w (w3.setCell (eI S (2+j)) v):=by
 obtain⟨na,nc,da,dc,c⟩:=hs;have d:a.heap.size<=w3.heap.size:=hg.size;have h3:fo (Dt w w3) w3 S na da nc dc nodes data rest:=c.keep (fun k hk=>⟨hk.1,lO hk.2 d⟩) (fun k hk=>hg.block k hk.2 (by simp));have e:=(h3.Yv j v).1;refine⟨⟨na,nc,da,dc,e.keep (fun k hk=>⟨hk.1,by simpa using hk.2⟩) (fun _ _=>rfl)⟩,?_⟩;exact((iQ b q).grown hg b.size (fun k h=>by cases h)).setCell hS _
theorem EO{b:Nat}{t:gi}{z n:Nat}{xs:fQ}(h:w.ownsRow b t z v n xs):∃a c,v=.slice a n c:=by
 rcases h.2 with⟨rfl,rfl⟩|⟨g,cap,_,rfl,_⟩
 ·exact⟨none,0,rfl⟩
 ·exact⟨_,_,rfl⟩
def qV:fQ:=[.bool false,.int .i64 0,.int .i64 0,.int .i64 0,.bool false,.int .i64 0,.int .i64 0,.int .i64 0,.bool false,.int .i64 0,.int .i64 0,.int .i64 0,.bool false,.int .i64 0,.int .i64 0,.int .i64 0,.bool false,.int .i64 0,.int .i64 0,.int .i64 0,.bool false,.int .i64 0,.int .i64 0,.int .i64 0,.bool false,.int .i64 0,.int .i64 0,.int .i64 0,.bool false,.int .i64 0,.int .i64 0,.int .i64 0,.slice none 0 0,.slice none 0 0]
theorem Kn(w:World):eW (fun k=>k=w.heap.size) (w.alloc (.cells (Value.slice none 0 0::Value.slice none 0 0::qV).toArray 179)) w.heap.size [] [] qV:=
 ⟨none,0,none,0,⟨rfl,su _ _,jf _ _ _ _,jf _ _ _ _,(fun g hg=>by cases hg),(fun g hg=>by cases hg)⟩⟩
theorem fo.cR(h:fo F w S na da nc dc nodes data rest)(hj:rest[j]?=some v):w.cell? (eI S (2+j))=some v:=by
 have e2:(2+j)=j+1+1:=by omega
 simp[World.cell?,h.hS,e2,hj]
theorem fo.fR(h:fo F w S na da nc dc nodes data rest)(i:Nat):w.frozen? (eI S i)=false:=by simp[World.frozen?,h.hS]
theorem VY(xs:eL):∀a∈fU xs,a.oneCell'=true:=by
 intro a hu;simp only[fU,ij]at hu;obtain⟨x,_,rfl⟩:=hu;rfl
theorem GJ(eC:List Ob)(r at_:Nat)(f:Nat->Prop)(w:World)(A:iL eC)(B:∀o∈eC,∀e∈o.eR,e.1.size<=12)(Q:at_<eC.length)(aw:at_<=5000)(m:(gQ eC (at_+1) at_ hZ ([],[])).1.length<=1000000000)(p:(gQ eC (at_+1) at_ hZ ([],[])).2.length<=1000000000)
  (C:fh f w r eC)(D:∀k,f k->k<w.heap.size):
  gc 47 #[hh r,eJ (at_:Int)] w fun e w'=>∃rest,rest.take 32=qV.take 32/\e=.returned (hh w.heap.size)/\eW (Dt w w') w' w.heap.size (gQ eC (at_+1) at_ hZ ([],[])).1 (gQ eC (at_+1) at_ hZ ([],[])).2 rest/\ik w w':=by
 obtain⟨R,S,T,U,V⟩:=iq qB;obtain⟨W,X,Y,Z,aa⟩:=iq qx;have q:=fun(rest:fQ) (F:Nat->Prop) (w1:World)=>Yw eC rest w.heap.size r A B (at_+1) at_ hZ ([],[]) F f w1 (by omega) Q (by show 0+_<=_;omega) m p;obtain⟨nodes,s⟩:∃x,x=(gQ eC (at_+1) at_ hZ ([],[])).1:=⟨_,rfl⟩;obtain⟨data,t⟩:∃x,x=(gQ eC (at_+1) at_ hZ ([],[])).2:=⟨_,rfl⟩;rw[<-s,<-t]at q ⊢;rw[<-s]at m;rw[<-t]at p;have ab:Hid _:=q;have ac:Hid (fh f w r eC):=C;have E:Hid (∀k,f k->k<w.heap.size):=D;obtain⟨g,u⟩:∃n,n=nodes.length:=⟨_,rfl⟩;obtain⟨nd,qa⟩:∃n,n=data.length:=⟨_,rfl⟩;rw[<-u]at m;rw[<-qa]at p;have G:Hid (g=nodes.length):=u;have H:Hid (nd=data.length):=qa;clear q s t C D u qa A B;go_enter func47,ntmps47;go_wp2_with fail;refine io (ab.out qV (fun k=>k=w.heap.size) _ (Kn w) (ac.out.below ((lh _ _).alloc (kx _) _) (fun _ h=>h)) (fun k hk=>⟨by have:=E.out k hk;simp;omega,by have:=E.out k hk;omega⟩) (fun k hk=>by subst hk;simp)) ?_;rintro _ a ⟨rfl,b,c⟩;have ax:w.heap.size+1<=a.heap.size:=by have:=c.size;simpa using this
 have I:ik w a:=⟨c.os,c.tape,c.output,by omega,fun k hk=>by rw[c.block k (by simp;omega) (by omega),mA _ _ _ hk]⟩;have J:Hid (eW (Dt w a) a w.heap.size nodes data qV):=b.zL (fun k hk=>by
  rcases hk with h|⟨h1,h2⟩
  ·subst h;exact⟨kx _,by omega⟩
  ·simp at h1;exact⟨by omega,h2⟩)
 have ad:Hid (ik w a):=I;clear b c I;obtain⟨na,nc,da,dc,b⟩:=J.out;have K:=b.c0;have ae:a.cell? (eI w.heap.size 34)=some (.slice none 0 0):=b.cR (j:=32) rfl;have af:Hid (fo (Dt w a) a w.heap.size na da nc dc nodes data qV):=b;rw[<-G.out]at K;have ag:Hid (a.ownsRow 0 200 3 (.slice na g nc) g (flat nodes)):=by rw[G.out];exact b.kJ
 clear b;have ay:w.heap.size<a.heap.size:=by omega
 go_upto_region 3 with fail
 go_cut []from 12 to 36 (fun wx=>Hid (∃rest,rest[33]?=some (Value.slice none 0 0)/\rest.take 32=qV.take 32/\eW (Dt w wx) wx w.heap.size nodes data rest/\ik w wx))
 case first=>
  go_region_law(refine qU rfl (.tmp 16) (.tmp 20) 174 rfl 200 R _ 3 32 underlying174 S T U V rfl (by decide) (by simp[Act.eval]) na g nc (flat nodes) (by simp[Act.eval]) (show(a.drewN 1).ownsRow _ _ _ _ _ _ from ag.out) (iR _) (by unfold maxLen;omega) (by omega) ?_;intro az w3 ah L aA;obtain⟨aB,aC,rfl⟩:=EO ah;have i:=af.out.keep (F':=fun _=>True) (w':=w3) (fun _ _=>trivial) (fun k hk=>L.block k hk.2 (by simp));have aD:w3.cell? (eI w.heap.size 34)=some (.slice none 0 0):=i.cR (j:=32) rfl;have f3:=i.fR 34;have aE:=i.lt;clear i)
  all_goals
   go_wp2_with fail;go_meet;exact⟨_,by first|rfl|simp[qV],by first|rfl|simp[qV],CB (j:=32) J.out (kx _) ad.out L⟩
 case rest=>
  rename World=>w5;obtain⟨rest,v,M,N,O⟩:=hcut.out;have ai:Hid _:=M;clear M;have aj:Hid (eW (Dt w w5) w5 w.heap.size nodes data rest):=N;have ak:Hid (ik w w5):=O;have al:Hid (rest[33]?=some (Value.slice none 0 0)):=v;obtain⟨am,an,y,z,d⟩:=N;have ao:=d.c1;have aF:w5.cell? (eI w.heap.size 35)=some (.slice none 0 0):=d.cR (j:=33) v;have aG:=d.lt;have ap:Hid (fo (Dt w w5) w5 w.heap.size am y an z nodes data rest):=d;rw[<-H.out]at ao;have aq:Hid (w5.ownsRow 0 9 1 (.slice y nd z) nd (fU data)):=by rw[H.out];exact d.gz
  clear d O hcut v K ae;go_upto_region 4 with fail
  go_cut []from 12 to 36 (fun wx=>Hid (∃rest,rest.take 32=qV.take 32/\eW (Dt w wx) wx w.heap.size nodes data rest/\ik w wx))
  case first=>
   go_region_law(refine qU rfl (.tmp 28) (.tmp 32) 131 rfl 9 W _ 1 16 underlying131 X Y Z aa rfl (by decide) (by simp[Act.eval]) y nd z (fU data) (by simp[Act.eval]) (show(w5.drewN 1).ownsRow _ _ _ _ _ _ from aq.out) (VY _) (by unfold maxLen;omega) (by omega) ?_;intro v6 w6 ar P aH;obtain⟨aI,aJ,rfl⟩:=EO ar;have l:=ap.out.keep (F':=fun _=>True) (w':=w6) (fun _ _=>trivial) (fun k hk=>P.block k hk.2 (by simp));have aK:w6.cell? (eI w.heap.size 35)=some (.slice none 0 0):=l.cR (j:=33) al.out;have f6:=l.fR 35;have aL:=l.lt;clear l)
   all_goals
    go_wp2_with fail;go_meet;exact⟨_,by rw[List.take_set_of_le (by decide)];exact ai.out,CB (j:=33) aj.out (kx _) ak.out P⟩
  case rest=>
   have au:Hid _:=hcut;clear hcut;go_wp2;go_ret;obtain⟨av,h0,h1,h2⟩:=au.out;exact⟨av,h0,rfl,h1,h2⟩
theorem CC(W n j d f wc tc wb Sb:Nat)(g a1 a2 a3:Int)(S T:eD)(la:fD)(lm lc:Nat)(R:World->Prop)(w:World)(hW:W<w.heap.size)(x:g<=13)(c5:w.cell? (eI W 5)=some (.slice (some (eI d 0)) n wc))(c6:w.cell? (eI W 6)=some (.slice (some (eI f 0)) n tc))
  (k:d<w.heap.size)(ig:f<w.heap.size)(y:j<n)(hn:n<=1000000000)(l:w.cell? (eI d j)=some (hh wb))(m:w.cell? (eI f j)=some (hh Sb))(s:-9223372036854775808<=a1/\a1<=9223372036854775807)(o:lM a1 (n:Int)=(j:Int))
  (h1:∀h,ik w h->gc 50 #[hh W,hh wb,hh Sb,.agg (Hm g a1 a2 a3 S T la lm lc)] h fun e w'=>e=.returned (.bool true)/\R w'):
  gc 23 #[hh W,.agg (Hm g a1 a2 a3 S T la lm lc)] w fun e w'=>e=.returned (.bool true)/\R w':=by
 have i:=fun h=>IP a1 (n:Int) h s (by omega) (by omega);rw[o]at i;unfold Hm at h1 ⊢;obtain⟨r,b⟩:∃B:Obj,B=.cells #[eJ g,eJ a1,eJ a2,eJ a3,.string S,.string T,.slice la lm lc] 57:=⟨_,rfl⟩;obtain⟨w1,a⟩:∃w1,w1=w.alloc r:=⟨_,rfl⟩;have c:ik w w1:=by rw[a];exact(lh _ _).alloc (kx _) r
 have z:w.heap.size<w1.heap.size:=by rw[a];simp
 have A:w1.cell? (eI w.heap.size 0)=some (eJ g):=by rw[a,b];simp
 have C:w1.cell? (eI w.heap.size 1)=some (eJ a1):=by rw[a,b];simp
 have D:w1.cell? (eI w.heap.size 2)=some (eJ a2):=by rw[a,b];simp
 have E:w1.cell? (eI w.heap.size 3)=some (eJ a3):=by rw[a,b];simp
 have F:w1.cell? (eI w.heap.size 4)=some (.string S):=by rw[a,b];simp
 have G:w1.cell? (eI w.heap.size 5)=some (.string T):=by rw[a,b];simp
 have H:w1.cell? (eI w.heap.size 6)=some (.slice la lm lc):=by rw[a,b];simp
 have I:=(c.cell (p:=(eI W 5)) hW).trans c5;have J:=(c.cell (p:=(eI W 6)) hW).trans c6;have K:=(c.cell (p:=(eI d j)) k).trans l;have L:=(c.cell (p:=(eI f j)) ig).trans m;have M:W<w1.heap.size:=lO hW c.size;have N:d<w1.heap.size:=lO k c.size;have O:f<w1.heap.size:=lO ig c.size;have P:(j:Int)<(n:Int):=by omega
 have t:Hid _:=fun q=>h1 (w1.drewN q) (iQ c q);have u:Hid _:=i;clear h1 i c5 c6 l m o;go_enter func23,ntmps23;go_upto_region 1 with fail;rw[<-b,<-a];clear b a c
 go_region_with(go_at_call 49;refine io (u.out _) ?_;rintro _ _ ⟨rfl,rfl⟩)
 all_goals
  go_wp2_with(go_at_call 50;refine io (t.out _) ?_;rintro _ w5 ⟨rfl,v⟩);go_ret;exact⟨rfl,v⟩
section
variable {R:sg}{tg:eV}{w:World}{B0 W s r p lim:Nat}{ey eC:List Ob}{got:List Int}{ws:List Slot}{ds:List Doc}{q8 q9 fV j n:Nat}
theorem mU(M:fF R tg w B0 W s r p lim ey eC got ws ds q8 q9 fV)(a:ik w w1):Below B0 w w1:=a.mono M.size
theorem Yx(hn:n<=1048600)(f:fJ B0 w W s r n)(a a1 a2 a3:Int)(S T:eD)(la:fD)(lm lc:Nat)(hS:S.size<=1048576)(g:T.size<=1048576)(h:-9223372036854775808<=a1/\a1<=9223372036854775807)(hk:8<=a/\a<=12):
  gc 23 #[hh W,.agg (Hm a a1 a2 a3 S T la lm lc)] w fun e w'=>e=.returned (.bool true)/\fJ B0 w' W s r (n+1)/\Below B0 w w':=by
 obtain⟨R,tg,p,lim,ey,eC,got,ws,ds,q8,q9,fV,M,L,k,h8,l,m,o,q⟩:=f;have F:=yw a1 (n:=(ws.length:Int)) (by omega);obtain⟨j,hj⟩:∃j:Nat,lM a1 (ws.length:Int)=(j:Int):=⟨(lM a1 (ws.length:Int)).toNat,by omega⟩;have b:j<ws.length:=by omega
 have c:j<ds.length:=by rw[L.len];exact b
 obtain⟨t,u,x,y,_⟩:=row_one M.Ck (i:=j) (v:=ptr ws[j].2.1.wb) (by simp[b]);obtain⟨z,Zb,ig,A,_⟩:=row_one M.gz (i:=j) (v:=ptr ds[j].1) (by simp[c]);obtain⟨_,_,B,c5,c6⟩:=M.Wu;rw[u]at c5;rw[Zb,L.len]at c6;refine CC W ws.length j t z R.wc R.tc ws[j].2.1.wb ds[j].1 a a1 a2 a3 S T la lm lc _ w B (by omega) c5 c6 x ig b (by omega) y A h hj (fun G d=>?_);refine(Ys hn (M.below d) L k h8 l m o q b c a a1 a2 a3 S T la lm lc hS g hk).mono ?_;rintro e w' ⟨C,D,E⟩;exact⟨C,D,(mU M d).trans E⟩
theorem L4.grow{k:Nat}(M:fF R tg w B0 W s r p lim ey eC got ws ds q8 q9 fV)(L:L4 ey ws ds k)(l:List Ob):L4 (ey++l) ws ds k:=
 ⟨L.len,fun j h h'=>⟨(L.same j h h').1.app M.w3.uu.2.2.1.sound (M.xK _ (kj h)).ok (M.xK _ (kj h)).fl l,(L.same j h h').2⟩⟩
theorem VZ(hn:n<=1048600)(a:fJ B0 w W s r n)(o:Step)(ho:o.Fits w)(hk:1<=o.kind/\o.kind<=5):
  gc 20 #[hh W,o.val] w fun e w'=>e=.returned (.bool true)/\fJ B0 w' W s r (n+1)/\Below B0 w w':=by
 obtain⟨R,tg,p,lim,ey,eC,got,ws,ds,q8,q9,fV,M,L,j,h8,k,m,b,q⟩:=a;refine(M.step (by omega) o ho hk).mono ?_;rintro e w' ⟨c,d,eF,l,f,g,hq',h,i⟩;exact⟨c,⟨d,eF,p,lim,ey++l,f,got,ws,ds,q8,g,fV,h,(L.grow M l).mono (by omega),by omega,by omega,by omega,by omega,b,by omega⟩,i⟩
theorem Zf{x:Slot}(h:zY tg w p ey lim x)(id:Int):x.2.2.1.fs.kn id<=1/\(x.2.2.1.fs.kn id≠0->eM ey id≠0):=by
 obtain⟨_,_,_,_,_,_,kF⟩:=h.wp.lS;obtain⟨_,_,_,_,_,_,_,kD⟩:=h.wp.lT;unfold FS.kn;cases hF:x.2.2.1.fs.kF id<;>cases hD:x.2.2.1.fs.kD id
 ·exact⟨by decide,fun h=>absurd rfl h⟩
 ·exact⟨by decide,fun _=>by rw[(kD id hD).1];decide⟩
 ·exact⟨by decide,fun _=>by rw[kF id hF];decide⟩
 ·exfalso
  have h1:=kF id hF;have h2:=(kD id hD).1;rw[h1]at h2;cases h2
theorem Wa{a:Type}(f:a->Nat):∀(l:List a),(∀x∈l,f x<=1)->(l.map f).sum<=l.length
 |[],_=>kx _
 |x::r,h=>by
  rw[jg,List.sum_cons,jA]
  have:=h x (jS ..)
  have:=Wa f r (fun y b=>h y (pn _ b))
  omega
theorem OX{a:Type}(f:a->Nat):∀(l:List a),(l.map f).sum≠0->∃x∈l,f x≠0
 |[],h=>absurd rfl h
 |x::r,h=>by
  by_cases h0:f x=0
  ·rw[jg,List.sum_cons,h0,iP]at h
   obtain⟨y,b,h1⟩:=OX f r h
   exact⟨y,pn _ b,h1⟩
  ·exact⟨x,jS ..,h0⟩
theorem Nx(hn:n<=1048600)(m:fJ B0 w W s r n)(a1 a2 a3:Int)(S T:eD)(la:fD)(lm lc:Nat):
  gc 20 #[hh W,.agg (Hm 6 a1 a2 a3 S T la lm lc)] w fun e w'=>e=.returned (.bool true)/\fJ B0 w' W s r (n+1)/\Below B0 w w':=by
 obtain⟨R,tg,p,lim,ey,eC,got,ws,ds,q8,q9,fV,f,L,E,h8,F,G,o,H⟩:=m;refine Dr W a1 a2 a3 S T la lm lc (fun w'=>fJ B0 w' W s r (n+1)/\Below B0 w w') w (fun q g=>?_);have M:=f.below g;obtain⟨c0,_,t,c5,_⟩:=M.Wu;have I:=M.Dq;refine GH W s ws.length R.wc R.wa got _ q t c0 c5 (by omega) (by omega) (fun x=>?_) (Kl M.Yf (by omega)) (fun i hi=>?_) (fun w1 la c h j=>?_)
 ·rw[M.cnt x]
  exact Wa _ _ (fun y a=>(Zf (M.xK y a) x).1)
 ·have k:got.count got[i]≠0:=by
   have:=List.count_pos_iff.2 (kj hi)
   omega
  rw[M.cnt]at k;obtain⟨y,a,u⟩:=OX _ _ k;have hk:=(Zf (M.xK y a) got[i]).2 u;obtain⟨J,v⟩:=PH hk;refine⟨(((got[i]-1).toNat:Nat):Int),by omega,fun w' d=>?_⟩
  have:=oM (M.w3.below d) (got[i]-1).toNat v
  rw[show(((got[i]-1).toNat:Nat):Int)+1=got[i] by omega]at this;exact this
 ·have z:=M.below h
  refine(z.aaj (by omega) (by omega) (pj j (tk _)) (fun b d=>?_)).mono ?_
  ·have l:=j.lt b d
   exact⟨M.fresh b l.1,wl M.size l.1,fun hf=>by have:=M.names.lt b hf;omega,fun hf=>by have:=M.eR.lt b hf;omega,fun hf=>by have:=M.ids.lt b hf;omega⟩
  ·rintro e w' ⟨A,B,C,D⟩
   exact⟨A,⟨B,tg,p,lim,ey,eC,got,ws,ds,q8,q9,fV+1,C,L.mono (by omega),by omega,by omega,by omega,by omega,o,by omega⟩,((mU f g).trans (mU M h)).trans D⟩
end
theorem Ko(s p:Nat)(id k:Int)(w:World)(hs:s<w.heap.size)(c0:w.cell? (eI s 0)=some (hh p))(hk2:k≠2)(hk:gc 61 #[hh p,eJ id] w (pB (eJ k) w)):
  gc 27 #[hh s,eJ id] w (pB (.tuple #[.pointer none,eJ 13]) w):=by
 have b:(k != 2)=true:=by simpa using hk2
 go_enter func27,ntmps27;go_wp2_with(go_at_call 61;refine hk.mono ?_;rintro e w1 ⟨rfl,a⟩);go_ret2;exact⟨rfl,a⟩
theorem CD{tg:eV}{got:List Int}{brk:Bool}{lim:Nat}(h:gq tg w s p ey got brk lim)(hk:eM ey id≠2):
  gc 27 #[hh s,eJ id] w (pB (.tuple #[.pointer none,eJ 13]) w):=by
 obtain⟨sw,ft,c,⟨a,cap,bf,bd,Df,Dd,b⟩,d⟩:=h;exact Ko s p id (eM ey id) w (nX.1 b.hs).1 b.c0 hk (qm p a ey.length cap bf bd ey id w b.iI)
theorem GK:∀(L:List (eL×Nd)) (k:Nat),sx (ro k L)/\∀e∈ro k L,e.2.1=1->(k:Int)<=e.2.2
 |[],k=>⟨by intro e f;(cases f),by intro e f;(cases f)⟩
 |(y,.dir)::r,k=>by
  obtain⟨h1,h2⟩:=GK r k
  rw[ro]
  refine⟨fun e f h g a b c=>?_,fun e f a=>?_⟩
  ·rcases gU.1 f with rfl|f
   ·cases a
   ·rcases gU.1 g with rfl|g
    ·cases b
    ·exact h1 e f h g a b c
  ·rcases gU.1 f with rfl|f
   ·cases a
   ·exact h2 e f a
 |(y,.file d)::r,k=>by
  obtain⟨h1,h2⟩:=GK r (k+1)
  rw[ro]
  refine⟨fun e f h g a b c=>?_,fun e f a=>?_⟩
  ·rcases gU.1 f with rfl|f<;>rcases gU.1 g with rfl|g
   ·rfl
   ·have:=h2 h g b
    simp only at c
    omega
   ·have:=h2 e f a
    simp only at c
    omega
   ·exact h1 e f h g a b c
  ·rcases gU.1 f with rfl|f
   ·exact sH _
   ·have:=h2 e f a
    omega
theorem Ny(ey:List Ob)(id:Int)(c a:Hd)(q:eL):UV ey c (.dir id) q=UV ey a (.dir id) q:=by
 have:=(qM ey q id).2
 unfold UV;cases h:(LT.dir id).at ey q with
 |none=>rfl
 |some x=>
  rw[h]at this;cases x<;>first|rfl|cases this
theorem iV.new{a:Int}{c:Hd}(h:Reads ey c (.dir a) nodes data)(hs:eY nodes data)(hn:sx nodes)(hr:rest.take 32=qV.take 32):iV ey (fun _=>none) (fun _=>none) (.dir a) nodes data rest:=by
 refine⟨⟨fun _=>0,List.replicate 8 (false,0,0,0),rest.drop 32,?_,⟨fun f f' hf=>absurd rfl hf,fun f hf=>absurd rfl hf,fun b d ⟨e,_,o3⟩ q hq=>?_,hn,by simp,fun k hk=>?_,(fun k x hx=>by cases hx)⟩⟩,hs⟩
 ·rw[show rr (List.replicate 8 (false,0,0,0))=qV.take 32 from rfl,<-hr,Hl]
 ·obtain rfl:d=data:=KL (fun k=>o3 k (fun f hf=>absurd rfl hf))
  rw[Ny ey a b c];exact h q hq
 ·rw[List.getElem?_replicate,ie hk];rfl
section
variable {R:sg}{tg:eV}{w:World}{B0 W s r p lim:Nat}{ey eC:List Ob}{got:List Int}{ws:List Slot}{ds:List Doc}{q8 q9 fV j n:Nat}
theorem Nz(ey:List Ob)(id:Int):fA ey (.dir id):=fun x y b h1 _=>by
 have:=(qM ey x id).2
 rw[h1]at this
 cases this
theorem bol(M:fF R tg w B0 W s r p lim ey eC got ws ds q8 q9 fV)(hk:eM ey id=2):eU ey 5 (.dir id):=by
 obtain⟨a,cap,bf,bd,Df,Dd,c⟩:=M.w3.uu.1;obtain⟨d,b⟩:=PH (by rw[hk];decide);refine⟨hk,?_⟩;unfold fB;rw[jy b];exact(c.fI _ (kj b)).2
theorem Sp(M:fF R tg w B0 W s r p lim ey eC got ws ds q8 q9 fV):∀o∈eC,∀e∈o.eR,e.1.size<=12:=by
 intro o ho e a;obtain⟨i,hi,rfl⟩:=pg ho;have c:=M.w3.twin;have b:i<ey.length:=by rw[c.1];exact hi
 have d:=c.2.1 i b hi;rcases c.2.2 _ (kj b)with k|k
 ·rw[d.none k]at a;cases a
 ·rw[d.eR k]at a
  obtain⟨f,g,rfl⟩:=ij.1 a;have hs:=M.w3.uu.2.2.1.sound.2 ((i:Int)+1) (by rw[tx b];exact k);have h:eZ ey ((i:Int)+1)=ey[i].eR:=by
   unfold eZ;rw[show((i:Int)+1-1).toNat=i by omega,jy b];rfl
  rw[h]at hs;exact(wn (hs.2.2 f g).1).2
theorem Wb(M:fF R tg w B0 W s r p lim ey eC got ws ds q8 q9 fV)(hj:j<ey.length):∃a pc c,w.cell? (eI W 4)=some (.slice (some (eI a 0)) ey.length pc)/\a<w.heap.size/\w.cell? (eI a j)=some (eJ c):=by
 obtain⟨ia,ka,pa,ic,kc,pc,paths,hl,b,_⟩:=M.w3.law;obtain⟨a,iD,d,hc,_⟩:=row_one hl.qc (i:=j) (v:=.int .i64 (paths[j]'(by rw[b];exact hj))) (by simp[encI,b,hj]);have c4:=hl.c4;rw[iD,b]at c4;exact⟨a,pc,_,c4,d,hc⟩
theorem Kp(hn:n<=1048600)(M:fF R tg w B0 W s r p lim ey eC got ws ds q8 q9 fV)(L:L4 ey ws ds (1200000+n))(hw:ws.length<=n)(a1 a a3:Int)(S T:eD)(la:fD)(lm lc:Nat):
  gc 20 #[hh W,.agg (Hm 7 a1 a a3 S T la lm lc)] w fun e w'=>e=.returned (.bool true)/\Below B0 w w'/\∃t eF f u,fF t eF w' B0 W s r p lim ey eC got f u q8 q9 fV/\L4 ey f u (1200000+n)/\ws.length<=f.length/\f.length<=ws.length+1/\(eM ey a=2->(∀k pc g,w.cell? (eI W 4)=some (.slice (some (eI k 0)) ey.length pc)->w.cell? (eI k ((a-1).toNat))=some (eJ g)->g<=300)->f.length=ws.length+1):=by
 obtain⟨c0,c1,G,_,_⟩:=M.Wu;have A:∀c,ik w c->gc 39 #[hh W,eJ a] c (Do (eJ a) c):=fun c b=>zf (M.w3.below b) a;have same:∀w',ik w w'->(eM ey a=2->False)->Below B0 w w'/\∃t eF f u,fF t eF w' B0 W s r p lim ey eC got f u q8 q9 fV/\L4 ey f u (1200000+n)/\ws.length<=f.length/\f.length<=ws.length+1/\(eM ey a=2->(∀k pc g,w.cell? (eI W 4)=some (.slice (some (eI k 0)) ey.length pc)->w.cell? (eI k ((a-1).toNat))=some (eJ g)->g<=300)->f.length=ws.length+1):=fun w' b hk=>⟨mU M b,R,tg,ws,ds,M.below b,L,kx _,by omega,fun h _=>(hk h).elim⟩;by_cases hk:eM ey a=2
 ·obtain⟨ah,ai⟩:=PH (by rw[hk];decide)
  obtain⟨j,hj⟩:∃j:Nat,a=(j:Int)+1:=⟨(a-1).toNat,by omega⟩;have l:j<ey.length:=by omega
  have P:(a-1).toNat=j:=by omega
  have H:∀c,ik w c->gc 41 #[hh W,eJ a] c (Do (eJ (j:Int)) c):=fun c b=>by rw[hj];exact oM (M.w3.below b) j l
  have I:∀c,ik w c->gc 42 #[hh W,eJ (j:Int)] c (Do (eJ 2) c):=fun c b=>by
   have:=xb (M.w3.below b) j l
   rw[<-tx l,<-hj,hk]at this;exact this
  obtain⟨k,pc,g,c4,J,C⟩:=Wb M l;have aj:=(W3.few M.w3).1;by_cases K:300<g
  ·refine(MZ W j ey.length pc k a1 a a3 g S T la lm lc w G c4 l (by omega) J C K A H I).mono ?_
   rintro e w' ⟨o,b⟩;refine⟨o,mU M b,R,tg,ws,ds,M.below b,L,kx _,by omega,fun _ Q=>?_⟩
   have:=Q k pc g c4 (by rw[P];exact C)
   omega
  ·have q:=bol M hk
   have y:Exact ey:=M.w3.uu.2.2.1;obtain⟨fc,ak⟩:∃fc:Hd,fc=ki ey (fun _=>none):=⟨_,rfl⟩;obtain⟨d,D⟩:∃d,d=mf ey fc 5 [] (.dir a):=⟨_,rfl⟩;have N:=Cx (fc:=fc) M.w3.twin y M.w3.at_ 5 (j+1) j [] ([],[]) (by omega) (fun x hx=>by cases hx) (by rw[<-hj];exact hk) (by rw[<-hj];rw[eU]at q;exact q.2);rw[<-hj,<-D]at N;have E:gQ eC (j+1) j hZ ([],[])=(ro 0 d,mi d):=N.trans (by simp);have F:=Np y.sound (fc:=fc) q;rw[<-D]at F;have al:(ro 0 d).length<=1200000:=by rw[yN];exact F
   have am:(mi d).length<=1200000:=wl (tY _) F;refine(Vz M (by omega) L.len j ey.length pc k a1 a a3 g S T la lm lc c4 l (by omega) J C K (wg0 a got) (.dir a) (fun x=>rfl) (ro 0 d) (mi d) (PR:=fun rest=>rest.take 32=qV.take 32) A H I (fun c b=>?_) (fun U V X Y=>?_)).mono ?_
   ·refine(RO (M.below b).Yf (i:=ws.length+2) (by omega) q).mono ?_
    rintro e w' ⟨B,o,eF,m,hQ⟩;exact⟨B,eF,o,m,hQ.inv.st,⟨hQ.inv.two,hQ.inv.wp,hQ.flat,hQ.ok,hQ.fl,Nz ey a⟩⟩
   ·have Z:=M.w3.twin
    have:=GJ eC r j U V M.w3.at_ (Sp M) (by rw[<-Z.1];exact l) (by omega) (by rw[E];show(ro 0 d).length<=_;omega) (by rw[E];show(mi d).length<=_;omega) X Y
    rw[E]at this;exact this
   ·rintro e w' ⟨o,t,eF,B,an,rest,aa,ab,ac⟩
    refine⟨o,ac,t,eF,_,_,ab,⟨by simp[L.len],fun i hi ao=>?_⟩,by simp,by simp,fun _ _=>by simp⟩;simp only[WW];by_cases v:i<ws.length
    ·have z:i<ds.length:=by rw[L.len];exact v
     simp only[v,z,dite_true];exact L.same i v z
    ·have z:¬i<ds.length:=by rw[L.len];exact v
     have ap:i=ws.length:=by simp at hi;omega
     have ad:i-ws.length=0:=(by omega);have e2:i-ds.length=0:=by rw[L.len];omega
     simp only[v,z,dite_false,ad,e2,KJ];refine⟨?_,by show(ro 0 d).length<=_;omega,by show(mi d).length<=_;omega⟩;have h1:=EM (fc:=fc) y.sound q rfl;have h2:=Sl (fc:=fc) y.sound q rfl;rw[<-D]at h1 h2;exact iV.new h1 h2 (GK d 0).1 aa
 ·obtain⟨ae,af,ag,O⟩:=ID (ft:=⟨R.pt,p,[]⟩) W s r ey eC (.slice R.wa ws.length R.wc) (.slice R.ta ds.length R.tc) (.bool false) (.slice R.na (4*q8) R.nc) (.slice R.ea (4*q9) R.ec) (.slice none 0 0) (.slice R.ia (4*fV) R.ic) a hk
  refine(MX W s a1 a a3 ae af S T la lm lc w G c0 ag A (fun c b=>(O c (M.w3.below b)).1) (fun c b=>(O c (M.w3.below b)).2) (fun c b=>CD (M.below b).Yf hk)).mono ?_;rintro e w' ⟨o,b⟩;exact⟨o,same w' b hk⟩
theorem Wc(hn:n<=1048600)(b:fJ B0 w W s r n)(a1 a a3:Int)(S T:eD)(la:fD)(lm lc:Nat):
  gc 20 #[hh W,.agg (Hm 7 a1 a a3 S T la lm lc)] w fun e w'=>e=.returned (.bool true)/\fJ B0 w' W s r (n+1)/\Below B0 w w':=by
 obtain⟨R,tg,p,lim,ey,eC,got,ws,ds,q8,q9,fV,M,L,l,h8,m,o,q,c⟩:=b;refine(Kp hn M L c a1 a a3 S T la lm lc).mono ?_;rintro e w' ⟨d,f,g,eF,h,i,j,k,h1,h2,_⟩;exact⟨d,⟨g,eF,p,lim,ey,eC,got,h,i,q8,q9,fV,j,k.mono (by omega),by omega,by omega,by omega,by omega,by omega,by omega⟩,f⟩
theorem CE(hn:n<=1048600)(a:fJ B0 w W s r n):gc 24 #[.pointer (some (eI W 8))] w (pB (.bool true) w):=by
 obtain⟨R,tg,p,lim,ey,eC,got,ws,ds,q8,q9,fV,M,L,b,h8,c,d,e,f⟩:=a;exact M.still (by omega) (by omega) (by omega)
theorem fJ.below{w':World}(a:fJ B0 w W s r n)(b:ik w w'):fJ B0 w' W s r n:=by
 obtain⟨R,tg,p,lim,ey,eC,got,ws,ds,q8,q9,fV,M,rest⟩:=a;exact⟨R,tg,p,lim,ey,eC,got,ws,ds,q8,q9,fV,M.below b,rest⟩
theorem fJ.cells(a:fJ B0 w W s r n):w.cell? (eI W 0)=some (hh s)/\W<w.heap.size/\B0<=w.heap.size:=by
 obtain⟨R,tg,p,lim,ey,eC,got,ws,ds,q8,q9,fV,M,rest⟩:=a;exact⟨M.Wu.1,M.Wu.2.2.1,M.size⟩
theorem fJ.mono{m:Nat}(a:fJ B0 w W s r n)(h:n<=m):fJ B0 w W s r m:=by
 obtain⟨R,tg,p,lim,ey,eC,got,ws,ds,q8,q9,fV,M,L,c,h8,d,e,b,f⟩:=a;exact⟨R,tg,p,lim,ey,eC,got,ws,ds,q8,q9,fV,M,L.mono (by omega),by omega,by omega,by omega,by omega,b,by omega⟩
theorem fF.aaa{d:List Ob->Prop}{args:Array Value}(h:fF R tg w B0 W s r p lim ey eC got ws ds q8 q9 fV)
  (hc:gc 20 args w fun e w'=>e=.returned (.bool true)/\qw d ⟨R.pt,p,ey⟩ (fun k=>tg k=(0,1)) (fun k=>tg k=(0,2)) (fun k=>tg k=(1,0)) w w' W s r (.slice R.wa ws.length R.wc) (.slice R.ta ds.length R.tc) (.bool false) (.slice R.na (4*q8) R.nc) (.slice R.ea (4*q9) R.ec) (.slice none 0 0) (.slice R.ia (4*fV) R.ic)):
  gc 20 args w fun e w'=>e=.returned (.bool true)/\∃a eF b c,d b/\fF a eF w' B0 W s r p lim b c got ws ds q8 q9 fV/\Below B0 w w':=by
 refine hc.mono ?_;rintro e w' ⟨i,q,t,u,b,c,h3,f,hk,hq⟩;have n3:∀k,tg k=(0,0)->¬F3 (fun k=>tg k=(0,1)) (fun k=>tg k=(0,2)) (fun k=>tg k=(1,0)) k:=fun k hk e=>by
  rcases e with e|e|e<;>(rw[hk]at e;cases e)
 have g:∀k,R.FE k->¬F3 (fun k=>tg k=(0,1)) (fun k=>tg k=(0,2)) (fun k=>tg k=(1,0)) k:=fun k hk=>n3 k (h.holds k (.inr (.inl hk))).1;obtain⟨a,eF,l,rfl,j,m⟩:=h.ED h3 (h.eR.keep (fun k hf=>hk.block k (h.eR.lt k hf) (g k hf)) hk.size) (fun k hf n=>by
  rcases f.all k n with e|e
  ·exact g k hf e
  ·have:=h.eR.lt k hf;omega) f (fun k hf=>.inl hf) ⟨hk.os,hk.tape,hk.output,hk.size,fun k o hn=>hk.block k o (fun h=>hn (.inl h))⟩
 exact⟨i,a,eF,_,c,hq,j,m⟩
end
theorem bot(hi:lG pt0 (kp (fun _=>False) w w1) w1 s p [])(m:ik w w1):
  ∃R tg,fF R tg ((w1.alloc (.cells #[.slice none 0 0] 94)).alloc (.cells #[hh s,hh w1.heap.size,.slice none 0 0,.slice none 0 0,.slice none 0 0,.slice none 0 0,.slice none 0 0,.bool false,.slice none 0 0,.slice none 0 0,.slice none 0 0,.slice none 0 0] 71)) w.heap.size (w1.heap.size+1) s w1.heap.size p 0 [] [] [] [] [] 0 0 0:=by
 have z:=m.size;obtain⟨c,d⟩:∃c,c=w1.alloc (.cells #[.slice none 0 0] 94):=⟨_,rfl⟩;rw[<-d];obtain⟨w3,a⟩:∃w3,w3=c.alloc (.cells #[hh s,hh w1.heap.size,.slice none 0 0,.slice none 0 0,.slice none 0 0,.slice none 0 0,.slice none 0 0,.bool false,.slice none 0 0,.slice none 0 0,.slice none 0 0,.slice none 0 0] 71):=⟨_,rfl⟩;rw[<-a];have f:c.heap.size=w1.heap.size+1:=by rw[d];simp
 have n:w3.heap.size=w1.heap.size+2:=by rw[a];simp[f]
 have hr:w3.heap[w1.heap.size]?=some (.cells #[.slice none 0 0] 94 (0,0)):=by
  rw[a,mA _ _ _ (by omega),d];exact su _ _
 have hW:w3.heap[w1.heap.size+1]?=some (.cells #[hh s,hh w1.heap.size,.slice none 0 0,.slice none 0 0,.slice none 0 0,.slice none 0 0,.slice none 0 0,.bool false,.slice none 0 0,.slice none 0 0,.slice none 0 0,.slice none 0 0] 71 (0,0)):=by
  rw[a,<-f];exact su _ _
 have hk:∀k,k<w1.heap.size->w3.heap[k]?=w1.heap[k]?:=fun k hk=>by
  rw[a,mA _ _ _ (by omega),d,mA _ _ _ hk]
 obtain⟨tg,b⟩:∃tg:eV,tg=fun k=>if k=w1.heap.size+1 then(0,1)else if k=w1.heap.size then(0,2)else if w.heap.size<=k/\k<w1.heap.size then(1,0) else(0,0):=⟨_,rfl⟩;have t1:tg (w1.heap.size+1)=(0,1):=by rw[b];exact ie rfl
 have t2:tg w1.heap.size=(0,2):=by rw[b];simp
 have t3:∀k,w.heap.size<=k->k<w1.heap.size->tg k=(1,0):=fun k h1 h2=>by
  rw[b];simp only;rw[fY (by omega),fY (by omega),ie ⟨h1,h2⟩]
 have hf:jt tg w3:=fun k e=>by
  rw[b];simp only;rw[fY (by omega),fY (by omega),fY (by omega)]
 have l:∀{t tl:gi} {V:Nat->Value},tT (fun _=>False) t tl V w3 none 0 0 []:=⟨rfl,jf _ _ _ _,(fun g hg=>by cases hg),(fun i hi=>by cases hi),fun k hk=>hk.elim⟩;refine⟨⟨pt0,none,0,none,0,none,0,none,0,none,0,[],[],[],fun _=>False,fun _=>False,fun _=>False⟩,tg,⟨hf,fun k e=>?_,by omega,rfl,⟨jf _ _ _ _,rfl,fun g hg=>by cases hg⟩,kx _,⟨?_,?_,⟨?_,oU _,Qe,TZ⟩,?_,?_,nA hf⟩,jf _ _ _ _,(fun g hg=>by cases hg),jf _ _ _ _,(fun g hg=>by cases hg),l,?_,l,?_,?_,(fun x hx=>by cases hx),(fun j h=>by cases h),(fun j h=>by cases h),fun x=>rfl⟩⟩
 ·rw[b];simp only;rw[fY (by omega),fY (by omega),fY (by omega)]
 ·exact⟨none,none,none,0,0,0,[],⟨t1,hW,jf _ _ _ _,jf _ _ _ _,jf _ _ _ _,(fun g hg=>by cases hg),(fun g hg=>by cases hg),(fun g hg=>by cases hg)⟩,rfl,(fun i hi=>by cases hi)⟩
 ·exact⟨none,0,⟨t2,(fun g hg=>by cases hg),hr,jf _ _ _ _,by simp,(fun o ho=>by cases ho)⟩⟩
 ·exact hi.keep (fun k e hF=>hk k e) (fun k e hF=>by
   rcases hF with h|h
   ·exact h.elim
   ·exact t3 k h.1 h.2)
 ·exact⟨rfl,(fun i h1=>by cases h1),(fun o ho=>by cases ho)⟩
 ·intro i hi;cases hi
 ·exact⟨rfl,jf _ _ _ _,(fun g hg=>by cases hg),(fun i hi=>by cases hi),fun k hk=>hk.elim⟩
 ·rintro k (h|h|h)<;>exact h.elim
 ·exact fun k=>⟨fun h=>h.1,fun h=>h.1,fun h=>h.1⟩
def NA (B0:Nat)(w:World)(W s r:Nat):Prop:=∃R tg p ey eC,fF R tg w B0 W s r p 0 ey eC [] [] [] 0 0 0/\3<=ey.length/\eM ey 3=2
theorem bwd(w:World):gc 19 #[] w fun e w'=>∃W s r,e=.returned (.tuple #[hh W,.bool true])/\NA w.heap.size w' W s r/\ik w w':=by
 go_enter func19,ntmps19;go_wp2_with fail;refine io (FA _) ?_;rintro _ w1 ⟨s,rfl,⟨p,hi⟩,b⟩;obtain⟨J,K,l⟩:=bot hi b;have c:Hid _:=l;have x:=b.size;have L:=b;clear hi l;go_wp2_with fail;refine io (c.out.aaa (Bu c.out.Ai 0 0 0 yt hZ none 0 0 (by decide))) ?_;rintro _ a ⟨rfl,M,N,O,P,⟨Q,m⟩,n,f⟩;have h1:=haj m;subst h1;have g:Hid _:=n;have R:w1.heap.size+2<=a.heap.size:=by have:=f.size;simpa using this
 have y:ik w a:=((b.alloc x _).alloc (by simp;omega) _).trans f;clear n f m c;go_wp2_with fail;have h:∀B,ik a (a.alloc B):=fun B=>(lh _ _).alloc (kx _) _;have f5:=IJ a [Bp] 96 #[.string ⟨#[120]⟩,eJ 1,eJ 1] rfl (by decide) (by decide) 1 rfl;refine io ((g.out.below (h (.cells #[.string ⟨#[120]⟩,eJ 1,eJ 1] 96))).aaa (uZ (g.out.below (h (.cells #[.string ⟨#[120]⟩,eJ 1,eJ 1] 96))).Ai 0 0 0 hZ hZ (some (eI a.heap.size 0)) 1 1 [Bp] f5.list f5.many f5.names)) ?_;rintro _ w5 ⟨rfl,S,T,U,V,⟨e2,o⟩,q,i⟩;obtain⟨d,d1,d2,d3,h2⟩:=hba o;subst h2;have j:Hid _:=q;have X:a.heap.size<=w5.heap.size:=by have:=i.size;simp at this;omega
 have z:ik w w5:=(y.alloc (by omega) _).trans i;clear q i o g f5 h;go_wp2_with fail;have k:∀B,ik w5 (w5.alloc B):=fun B=>(lh _ _).alloc (kx _) _;have f6:=IJ w5 [IG,II] 96 #[.string ⟨#[100]⟩,eJ 2,eJ 2,.string ⟨#[97]⟩,eJ 1,eJ 1] rfl (by decide) (by decide) 2 rfl;refine io ((j.out.below (k (.cells #[.string ⟨#[100]⟩,eJ 2,eJ 2,.string ⟨#[97]⟩,eJ 1,eJ 1] 96))).aaa (uZ (j.out.below (k (.cells #[.string ⟨#[100]⟩,eJ 2,eJ 2,.string ⟨#[97]⟩,eJ 1,eJ 1] 96))).Ai 0 0 0 hZ hZ (some (eI w5.heap.size 0)) 2 2 [IG,II] f6.list f6.many f6.names)) ?_;rintro _ w6 ⟨rfl,A,C,D,E,⟨Y,t⟩,u,v⟩;obtain⟨F,G⟩:=hbc d1 d2 d3 t;have H:Hid _:=u;have I:ik w w6:=(z.alloc (by omega) _).trans v;clear u v t j f6 k;go_wp2;go_ret2;exact⟨_,s,_,rfl,⟨A,C,p,D,E,H.out,F,G⟩,I⟩
end Go.Proofs.YtlgidcmmgohagaaGreat
