/- What is proved here: 'Checkout' of the jX own qY. -/
import Derived.Test.YtlgidcmmgohagaaGreatFileM26
import Derived.Test.YtlgidcmmgohagaaGreatFileM27
import Derived.Deep.Cut
import Derived.Deep.CutRange
import Derived.Test.YtlgidcmmgohagaaGreatFileM22
import Derived.Test.YtlgidcmmgohagaaGreatFileM09
namespace Go.Proofs.YtlgidcmmgohagaaGreat
open Go.RowKit Go.Sort Go.Shelf Go.Proofs.Tryz
set_option linter.unusedVariables false
set_option maxRecDepth 100000
set_option maxHeartbeats 16000000
variable {w w1:World}{S dc j nc p s:Nat}{id:Int}{da na:e5}{ei:List Ob}{v:Value}{data:eB}{rest:fE}{F:Nat->Prop}{nodes:List eD}
def Aq (w w':World)(k:Nat):Prop:=w.heap.size<=k/\k<w'.heap.size
theorem zC{w a w3:World}{S q j:Nat}(hs:eN (Aq w a) a S nodes data rest)(hS:w.heap.size<=S)(b:gS w a)(hg:(a.drewN q).grownBy w3 none):
  eN (Aq w (w3.setCell (eb S (2+j)) v)) (w3.setCell (eb S (2+j)) v) S nodes data (rest.set j v)/\gS w (w3.setCell (eb S (2+j)) v):=by
 obtain⟨na,nc,da,dc,c⟩:=hs;have d:a.heap.size<=w3.heap.size:=hg.size;have h3:eV (Aq w w3) w3 S na da nc dc nodes data rest:=c.keep (fun k hk=>⟨hk.1,kv hk.2 d⟩) (fun k hk=>hg.block k hk.2 (by simp));have e:=(h3.RS j v).1;refine⟨⟨na,nc,da,dc,e.keep (fun k hk=>⟨hk.1,by simpa using hk.2⟩) (fun _ _=>rfl)⟩,?_⟩;exact((PP b q).grown hg b.size (fun k h=>by cases h)).setCell hS _
theorem BI{b:Nat}{t:fL}{z n:Nat}{xs:fE}(h:w.ownsRow b t z v n xs):∃a c,v=.slice a n c:=by
 rcases h.2 with⟨rfl,rfl⟩|⟨g,cap,_,rfl,_⟩
 ·exact⟨none,0,rfl⟩
 ·exact⟨_,_,rfl⟩
def ov:fE:=[.bool false,.int .i64 0,.int .i64 0,.int .i64 0,.bool false,.int .i64 0,.int .i64 0,.int .i64 0,.bool false,.int .i64 0,.int .i64 0,.int .i64 0,.bool false,.int .i64 0,.int .i64 0,.int .i64 0,.bool false,.int .i64 0,.int .i64 0,.int .i64 0,.bool false,.int .i64 0,.int .i64 0,.int .i64 0,.bool false,.int .i64 0,.int .i64 0,.int .i64 0,.bool false,.int .i64 0,.int .i64 0,.int .i64 0,.slice none 0 0,.slice none 0 0]
theorem FK(w:World):eN (fun k=>k=w.heap.size) (w.alloc (.cells (Value.slice none 0 0::Value.slice none 0 0::ov).toArray 179)) w.heap.size [] [] ov:=
 ⟨none,0,none,0,⟨rfl,pM _ _,UV _ _ _ _,UV _ _ _ _,(fun g hg=>by cases hg),(fun g hg=>by cases hg)⟩⟩
theorem eV.cR(h:eV F w S na da nc dc nodes data rest)(hj:rest[j]?=some v):w.cell? (eb S (2+j))=some v:=by
 have e2:(2+j)=j+1+1:=by omega
 simp[World.cell?,h.hS,e2,hj]
theorem eV.fR(h:eV F w S na da nc dc nodes data rest)(i:Nat):w.frozen? (eb S i)=false:=by simp[World.frozen?,h.hS]
theorem PK(xs:eB):∀a∈fG xs,a.oneCell'=true:=by
 intro a hu;simp only[fG,H3]at hu;obtain⟨x,_,rfl⟩:=hu;rfl
theorem C2(ep:List Ob)(r at_:Nat)(f:Nat->Prop)(w:World)(A:gi ep)(B:∀o∈ep,∀e∈o.eG,e.1.size<=12)(Q:at_<ep.length)(aw:at_<=5000)(m:(Ha ep (at_+1) at_ fy ([],[])).1.length<=1000000000)(p:(Ha ep (at_+1) at_ fy ([],[])).2.length<=1000000000)
  (C:eU f w r ep)(D:∀k,f k->k<w.heap.size):
  eK 47 #[fj r,ed (at_:Int)] w fun e w'=>∃rest,rest.take 32=ov.take 32/\e=.returned (fj w.heap.size)/\eN (Aq w w') w' w.heap.size (Ha ep (at_+1) at_ fy ([],[])).1 (Ha ep (at_+1) at_ fy ([],[])).2 rest/\gS w w':=by
 obtain⟨R,S,T,U,V⟩:=H4 nT;obtain⟨W,X,Y,Z,aa⟩:=H4 nP;have q:=fun(rest:fE) (F:Nat->Prop) (w1:World)=>RT ep rest w.heap.size r A B (at_+1) at_ fy ([],[]) F f w1 (by omega) Q (by show 0+_<=_;omega) m p;obtain⟨nodes,s⟩:∃x,x=(Ha ep (at_+1) at_ fy ([],[])).1:=⟨_,rfl⟩;obtain⟨data,t⟩:∃x,x=(Ha ep (at_+1) at_ fy ([],[])).2:=⟨_,rfl⟩;rw[<-s,<-t]at q ⊢;rw[<-s]at m;rw[<-t]at p;have ab:Hid _:=q;have ac:Hid (eU f w r ep):=C;have E:Hid (∀k,f k->k<w.heap.size):=D;obtain⟨g,u⟩:∃n,n=nodes.length:=⟨_,rfl⟩;obtain⟨nd,nw⟩:∃n,n=data.length:=⟨_,rfl⟩;rw[<-u]at m;rw[<-nw]at p;have G:Hid (g=nodes.length):=u;have H:Hid (nd=data.length):=nw;clear q s t C D u nw A B;go_enter func47,ntmps47;go_wp2_with fail;refine g7 (ab.out ov (fun k=>k=w.heap.size) _ (FK w) (ac.out.below ((i7 _ _).alloc (io _) _) (fun _ h=>h)) (fun k hk=>⟨by have:=E.out k hk;simp;omega,by have:=E.out k hk;omega⟩) (fun k hk=>by subst hk;simp)) ?_;rintro _ a ⟨rfl,b,c⟩;have ax:w.heap.size+1<=a.heap.size:=by have:=c.size;simpa using this
 have I:gS w a:=⟨c.os,c.tape,c.output,by omega,fun k hk=>by rw[c.block k (by simp;omega) (by omega),jU _ _ _ hk]⟩;have J:Hid (eN (Aq w a) a w.heap.size nodes data ov):=b.wU (fun k hk=>by
  rcases hk with h|⟨h1,h2⟩
  ·subst h;exact⟨io _,by omega⟩
  ·simp at h1;exact⟨by omega,h2⟩)
 have ad:Hid (gS w a):=I;clear b c I;obtain⟨na,nc,da,dc,b⟩:=J.out;have K:=b.c0;have ae:a.cell? (eb w.heap.size 34)=some (.slice none 0 0):=b.cR (j:=32) rfl;have af:Hid (eV (Aq w a) a w.heap.size na da nc dc nodes data ov):=b;rw[<-G.out]at K;have ag:Hid (a.ownsRow 0 200 3 (.slice na g nc) g (flat nodes)):=by rw[G.out];exact b.iP
 clear b;have ay:w.heap.size<a.heap.size:=by omega
 go_upto_region 3 with fail
 go_cut []from 12 to 36 (fun wx=>Hid (∃rest,rest[33]?=some (Value.slice none 0 0)/\rest.take 32=ov.take 32/\eN (Aq w wx) wx w.heap.size nodes data rest/\gS w wx))
 case first=>
  go_region_law(refine ou rfl (.tmp 16) (.tmp 20) 174 rfl 200 R _ 3 32 underlying174 S T U V rfl (by decide) (by simp[Act.eval]) na g nc (flat nodes) (by simp[Act.eval]) (show(a.drewN 1).ownsRow _ _ _ _ _ _ from ag.out) (PQ _) (by unfold maxLen;omega) (by omega) ?_;intro az w3 ah L aA;obtain⟨aB,aC,rfl⟩:=BI ah;have i:=af.out.keep (F':=fun _=>True) (w':=w3) (fun _ _=>trivial) (fun k hk=>L.block k hk.2 (by simp));have aD:w3.cell? (eb w.heap.size 34)=some (.slice none 0 0):=i.cR (j:=32) rfl;have f3:=i.fR 34;have aE:=i.lt;clear i)
  all_goals
   go_wp2_with fail;go_meet;exact⟨_,by first|rfl|simp[ov],by first|rfl|simp[ov],zC (j:=32) J.out (io _) ad.out L⟩
 case rest=>
  rename World=>w5;obtain⟨rest,v,M,N,O⟩:=hcut.out;have ai:Hid _:=M;clear M;have aj:Hid (eN (Aq w w5) w5 w.heap.size nodes data rest):=N;have ak:Hid (gS w w5):=O;have al:Hid (rest[33]?=some (Value.slice none 0 0)):=v;obtain⟨am,an,y,z,d⟩:=N;have ao:=d.c1;have aF:w5.cell? (eb w.heap.size 35)=some (.slice none 0 0):=d.cR (j:=33) v;have aG:=d.lt;have ap:Hid (eV (Aq w w5) w5 w.heap.size am y an z nodes data rest):=d;rw[<-H.out]at ao;have aq:Hid (w5.ownsRow 0 9 1 (.slice y nd z) nd (fG data)):=by rw[H.out];exact d.fP
  clear d O hcut v K ae;go_upto_region 4 with fail
  go_cut []from 12 to 36 (fun wx=>Hid (∃rest,rest.take 32=ov.take 32/\eN (Aq w wx) wx w.heap.size nodes data rest/\gS w wx))
  case first=>
   go_region_law(refine ou rfl (.tmp 28) (.tmp 32) 131 rfl 9 W _ 1 16 underlying131 X Y Z aa rfl (by decide) (by simp[Act.eval]) y nd z (fG data) (by simp[Act.eval]) (show(w5.drewN 1).ownsRow _ _ _ _ _ _ from aq.out) (PK _) (by unfold maxLen;omega) (by omega) ?_;intro v6 w6 ar P aH;obtain⟨aI,aJ,rfl⟩:=BI ar;have l:=ap.out.keep (F':=fun _=>True) (w':=w6) (fun _ _=>trivial) (fun k hk=>P.block k hk.2 (by simp));have aK:w6.cell? (eb w.heap.size 35)=some (.slice none 0 0):=l.cR (j:=33) al.out;have f6:=l.fR 35;have aL:=l.lt;clear l)
   all_goals
    go_wp2_with fail;go_meet;exact⟨_,by rw[List.take_set_of_le (by decide)];exact ai.out,zC (j:=33) aj.out (io _) ak.out P⟩
  case rest=>
   have au:Hid _:=hcut;clear hcut;go_wp2;go_ret;obtain⟨av,h0,h1,h2⟩:=au.out;exact⟨av,h0,rfl,h1,h2⟩
theorem zD(W n j d f wc tc wb Sb:Nat)(g a1 a2 a3:Int)(S T:eu)(la:e5)(lm lc:Nat)(R:World->Prop)(w:World)(hW:W<w.heap.size)(x:g<=13)(c5:w.cell? (eb W 5)=some (.slice (some (eb d 0)) n wc))(c6:w.cell? (eb W 6)=some (.slice (some (eb f 0)) n tc))
  (k:d<w.heap.size)(H2:f<w.heap.size)(y:j<n)(hn:n<=1000000000)(l:w.cell? (eb d j)=some (fj wb))(m:w.cell? (eb f j)=some (fj Sb))(s:-9223372036854775808<=a1/\a1<=9223372036854775807)(o:jA a1 (n:Int)=(j:Int))
  (h1:∀h,gS w h->eK 50 #[fj W,fj wb,fj Sb,.agg (ut g a1 a2 a3 S T la lm lc)] h fun e w'=>e=.returned (.bool true)/\R w'):
  eK 23 #[fj W,.agg (ut g a1 a2 a3 S T la lm lc)] w fun e w'=>e=.returned (.bool true)/\R w':=by
 have i:=fun h=>Eo a1 (n:Int) h s (by omega) (by omega);rw[o]at i;unfold ut at h1 ⊢;obtain⟨r,b⟩:∃B:Obj,B=.cells #[ed g,ed a1,ed a2,ed a3,.string S,.string T,.slice la lm lc] 57:=⟨_,rfl⟩;obtain⟨w1,a⟩:∃w1,w1=w.alloc r:=⟨_,rfl⟩;have c:gS w w1:=by rw[a];exact(i7 _ _).alloc (io _) r
 have z:w.heap.size<w1.heap.size:=by rw[a];simp
 have A:w1.cell? (eb w.heap.size 0)=some (ed g):=by rw[a,b];simp
 have C:w1.cell? (eb w.heap.size 1)=some (ed a1):=by rw[a,b];simp
 have D:w1.cell? (eb w.heap.size 2)=some (ed a2):=by rw[a,b];simp
 have E:w1.cell? (eb w.heap.size 3)=some (ed a3):=by rw[a,b];simp
 have F:w1.cell? (eb w.heap.size 4)=some (.string S):=by rw[a,b];simp
 have G:w1.cell? (eb w.heap.size 5)=some (.string T):=by rw[a,b];simp
 have H:w1.cell? (eb w.heap.size 6)=some (.slice la lm lc):=by rw[a,b];simp
 have I:=(c.cell (p:=(eb W 5)) hW).trans c5;have J:=(c.cell (p:=(eb W 6)) hW).trans c6;have K:=(c.cell (p:=(eb d j)) k).trans l;have L:=(c.cell (p:=(eb f j)) H2).trans m;have M:W<w1.heap.size:=kv hW c.size;have N:d<w1.heap.size:=kv k c.size;have O:f<w1.heap.size:=kv H2 c.size;have P:(j:Int)<(n:Int):=by omega
 have t:Hid _:=fun q=>h1 (w1.drewN q) (PP c q);have u:Hid _:=i;clear h1 i c5 c6 l m o;go_enter func23,ntmps23;go_upto_region 1 with fail;rw[<-b,<-a];clear b a c
 go_region_with(go_at_call 49;refine g7 (u.out _) ?_;rintro _ _ ⟨rfl,rfl⟩)
 all_goals
  go_wp2_with(go_at_call 50;refine g7 (t.out _) ?_;rintro _ w5 ⟨rfl,v⟩);go_ret;exact⟨rfl,v⟩
section
variable {R:pI}{tg:eM}{w:World}{B0 W s r p lim:Nat}{ei ep:List Ob}{got:List Int}{ws:List Slot}{ds:List Doc}{q8 q9 fH j n:Nat}
theorem ko(M:e7 R tg w B0 W s r p lim ei ep got ws ds q8 q9 fH)(a:gS w w1):Below B0 w w1:=a.mono M.size
theorem RU(hn:n<=1048600)(f:fh B0 w W s r n)(a a1 a2 a3:Int)(S T:eu)(la:e5)(lm lc:Nat)(hS:S.size<=1048576)(g:T.size<=1048576)(h:-9223372036854775808<=a1/\a1<=9223372036854775807)(hk:8<=a/\a<=12):
  eK 23 #[fj W,.agg (ut a a1 a2 a3 S T la lm lc)] w fun e w'=>e=.returned (.bool true)/\fh B0 w' W s r (n+1)/\Below B0 w w':=by
 obtain⟨R,tg,p,lim,ei,ep,got,ws,ds,q8,q9,fH,M,L,k,h8,l,m,o,q⟩:=f;have F:=vq a1 (n:=(ws.length:Int)) (by omega);obtain⟨j,hj⟩:∃j:Nat,jA a1 (ws.length:Int)=(j:Int):=⟨(jA a1 (ws.length:Int)).toNat,by omega⟩;have b:j<ws.length:=by omega
 have c:j<ds.length:=by rw[L.len];exact b
 obtain⟨t,u,x,y,_⟩:=row_one M.zh (i:=j) (v:=ptr ws[j].2.1.wb) (by simp[b]);obtain⟨z,Sv,H2,A,_⟩:=row_one M.fP (i:=j) (v:=ptr ds[j].1) (by simp[c]);obtain⟨_,_,B,c5,c6⟩:=M.Qc;rw[u]at c5;rw[Sv,L.len]at c6;refine zD W ws.length j t z R.wc R.tc ws[j].2.1.wb ds[j].1 a a1 a2 a3 S T la lm lc _ w B (by omega) c5 c6 x H2 b (by omega) y A h hj (fun G d=>?_);refine(RP hn (M.below d) L k h8 l m o q b c a a1 a2 a3 S T la lm lc hS g hk).mono ?_;rintro e w' ⟨C,D,E⟩;exact⟨C,D,(ko M d).trans E⟩
theorem L4.grow{k:Nat}(M:e7 R tg w B0 W s r p lim ei ep got ws ds q8 q9 fH)(L:L4 ei ws ds k)(l:List Ob):L4 (ei++l) ws ds k:=
 ⟨L.len,fun j h h'=>⟨(L.same j h h').1.app M.w3.qX.2.2.1.sound (M.uH _ (iF h)).ok (M.uH _ (iF h)).fl l,(L.same j h h').2⟩⟩
theorem PL(hn:n<=1048600)(a:fh B0 w W s r n)(o:Step)(ho:o.Fits w)(hk:1<=o.kind/\o.kind<=5):
  eK 20 #[fj W,o.val] w fun e w'=>e=.returned (.bool true)/\fh B0 w' W s r (n+1)/\Below B0 w w':=by
 obtain⟨R,tg,p,lim,ei,ep,got,ws,ds,q8,q9,fH,M,L,j,h8,k,m,b,q⟩:=a;refine(M.step (by omega) o ho hk).mono ?_;rintro e w' ⟨c,d,ey,l,f,g,hq',h,i⟩;exact⟨c,⟨d,ey,p,lim,ei++l,f,got,ws,ds,q8,g,fH,h,(L.grow M l).mono (by omega),by omega,by omega,by omega,by omega,b,by omega⟩,i⟩
theorem SA{x:Slot}(h:xk tg w p ei lim x)(id:Int):x.2.2.1.fs.kn id<=1/\(x.2.2.1.fs.kn id≠0->eC ei id≠0):=by
 obtain⟨_,_,_,_,_,_,kF⟩:=h.wp.jE;obtain⟨_,_,_,_,_,_,_,kD⟩:=h.wp.jF;unfold FS.kn;cases hF:x.2.2.1.fs.kF id<;>cases hD:x.2.2.1.fs.kD id
 ·exact⟨by decide,fun h=>absurd rfl h⟩
 ·exact⟨by decide,fun _=>by rw[(kD id hD).1];decide⟩
 ·exact⟨by decide,fun _=>by rw[kF id hF];decide⟩
 ·exfalso
  have h1:=kF id hF;have h2:=(kD id hD).1;rw[h1]at h2;cases h2
theorem PM{a:Type}(f:a->Nat):∀(l:List a),(∀x∈l,f x<=1)->(l.map f).sum<=l.length
 |[],_=>io _
 |x::r,h=>by
  rw[WF,List.sum_cons,gK]
  have:=h x (ir ..)
  have:=PM f r (fun y b=>h y (mI _ b))
  omega
theorem JY{a:Type}(f:a->Nat):∀(l:List a),(l.map f).sum≠0->∃x∈l,f x≠0
 |[],h=>absurd rfl h
 |x::r,h=>by
  by_cases h0:f x=0
  ·rw[WF,List.sum_cons,h0,PH]at h
   obtain⟨y,b,h1⟩:=JY f r h
   exact⟨y,mI _ b,h1⟩
  ·exact⟨x,ir ..,h0⟩
theorem IV(hn:n<=1048600)(m:fh B0 w W s r n)(a1 a2 a3:Int)(S T:eu)(la:e5)(lm lc:Nat):
  eK 20 #[fj W,.agg (ut 6 a1 a2 a3 S T la lm lc)] w fun e w'=>e=.returned (.bool true)/\fh B0 w' W s r (n+1)/\Below B0 w w':=by
 obtain⟨R,tg,p,lim,ei,ep,got,ws,ds,q8,q9,fH,f,L,E,h8,F,G,o,H⟩:=m;refine Ao W a1 a2 a3 S T la lm lc (fun w'=>fh B0 w' W s r (n+1)/\Below B0 w w') w (fun q g=>?_);have M:=f.below g;obtain⟨c0,_,t,c5,_⟩:=M.Qc;have I:=M.Am;refine C0 W s ws.length R.wc R.wa got _ q t c0 c5 (by omega) (by omega) (fun x=>?_) (FF M.Rz (by omega)) (fun i hi=>?_) (fun w1 la c h j=>?_)
 ·rw[M.cnt x]
  exact PM _ _ (fun y a=>(SA (M.uH y a) x).1)
 ·have k:got.count got[i]≠0:=by
   have:=List.count_pos_iff.2 (iF hi)
   omega
  rw[M.cnt]at k;obtain⟨y,a,u⟩:=JY _ _ k;have hk:=(SA (M.uH y a) got[i]).2 u;obtain⟨J,v⟩:=wn hk;refine⟨(((got[i]-1).toNat:Nat):Int),by omega,fun w' d=>?_⟩
  have:=mj (M.w3.below d) (got[i]-1).toNat v
  rw[show(((got[i]-1).toNat:Nat):Int)+1=got[i] by omega]at this;exact this
 ·have z:=M.below h
  refine(z.Uc (by omega) (by omega) (lw j (oY _)) (fun b d=>?_)).mono ?_
  ·have l:=j.lt b d
   exact⟨M.fresh b l.1,pD M.size l.1,fun hf=>by have:=M.names.lt b hf;omega,fun hf=>by have:=M.eG.lt b hf;omega,fun hf=>by have:=M.ids.lt b hf;omega⟩
  ·rintro e w' ⟨A,B,C,D⟩
   exact⟨A,⟨B,tg,p,lim,ei,ep,got,ws,ds,q8,q9,fH+1,C,L.mono (by omega),by omega,by omega,by omega,by omega,o,by omega⟩,((ko f g).trans (ko M h)).trans D⟩
end
theorem FM(s p:Nat)(id k:Int)(w:World)(hs:s<w.heap.size)(c0:w.cell? (eb s 0)=some (fj p))(hk2:k≠2)(hk:eK 61 #[fj p,ed id] w (ml (ed k) w)):
  eK 27 #[fj s,ed id] w (ml (.tuple #[.pointer none,ed 13]) w):=by
 have b:(k != 2)=true:=by simpa using hk2
 go_enter func27,ntmps27;go_wp2_with(go_at_call 61;refine hk.mono ?_;rintro e w1 ⟨rfl,a⟩);go_ret2;exact⟨rfl,a⟩
theorem zF{tg:eM}{got:List Int}{brk:Bool}{lim:Nat}(h:fO tg w s p ei got brk lim)(hk:eC ei id≠2):
  eK 27 #[fj s,ed id] w (ml (.tuple #[.pointer none,ed 13]) w):=by
 obtain⟨pN,ft,c,⟨a,cap,bf,bd,Df,Dd,b⟩,d⟩:=h;exact FM s p id (eC ei id) w (lF.1 b.hs).1 b.c0 hk (nI p a ei.length cap bf bd ei id w b.fZ)
theorem C3:∀(L:List (eB×Nd)) (k:Nat),pO (m7 k L)/\∀e∈m7 k L,e.2.1=1->(k:Int)<=e.2.2
 |[],k=>⟨by intro e f;(cases f),by intro e f;(cases f)⟩
 |(y,.dir)::r,k=>by
  obtain⟨h1,h2⟩:=C3 r k
  rw[m7]
  refine⟨fun e f h g a b c=>?_,fun e f a=>?_⟩
  ·rcases Hd.1 f with rfl|f
   ·cases a
   ·rcases Hd.1 g with rfl|g
    ·cases b
    ·exact h1 e f h g a b c
  ·rcases Hd.1 f with rfl|f
   ·cases a
   ·exact h2 e f a
 |(y,.file d)::r,k=>by
  obtain⟨h1,h2⟩:=C3 r (k+1)
  rw[m7]
  refine⟨fun e f h g a b c=>?_,fun e f a=>?_⟩
  ·rcases Hd.1 f with rfl|f<;>rcases Hd.1 g with rfl|g
   ·rfl
   ·have:=h2 h g b
    simp only at c
    omega
   ·have:=h2 e f a
    simp only at c
    omega
   ·exact h1 e f h g a b c
  ·rcases Hd.1 f with rfl|f
   ·exact pT _
   ·have:=h2 e f a
    omega
theorem IW(ei:List Ob)(id:Int)(c a:ul)(q:eB):xj ei c (.dir id) q=xj ei a (.dir id) q:=by
 have:=(oc ei q id).2
 unfold xj;cases h:(LT.dir id).at ei q with
 |none=>rfl
 |some x=>
  rw[h]at this;cases x<;>first|rfl|cases this
theorem gq.new{a:Int}{c:ul}(h:Reads ei c (.dir a) nodes data)(hs:eP nodes data)(hn:pO nodes)(hr:rest.take 32=ov.take 32):gq ei (fun _=>none) (fun _=>none) (.dir a) nodes data rest:=by
 refine⟨⟨fun _=>0,List.replicate 8 (false,0,0,0),rest.drop 32,?_,⟨fun f f' hf=>absurd rfl hf,fun f hf=>absurd rfl hf,fun b d ⟨e,_,o3⟩ q hq=>?_,hn,by simp,fun k hk=>?_,(fun k x hx=>by cases hx)⟩⟩,hs⟩
 ·rw[show m9 (List.replicate 8 (false,0,0,0))=ov.take 32 from rfl,<-hr,Dm]
 ·obtain rfl:d=data:=Gd (fun k=>o3 k (fun f hf=>absurd rfl hf))
  rw[IW ei a b c];exact h q hq
 ·rw[List.getElem?_replicate,fY hk];rfl
section
variable {R:pI}{tg:eM}{w:World}{B0 W s r p lim:Nat}{ei ep:List Ob}{got:List Int}{ws:List Slot}{ds:List Doc}{q8 q9 fH j n:Nat}
theorem IX(ei:List Ob)(id:Int):eX ei (.dir id):=fun x y b h1 _=>by
 have:=(oc ei x id).2
 rw[h1]at this
 cases this
theorem Tp(M:e7 R tg w B0 W s r p lim ei ep got ws ds q8 q9 fH)(hk:eC ei id=2):eL ei 5 (.dir id):=by
 obtain⟨a,cap,bf,bd,Df,Dd,c⟩:=M.w3.qX.1;obtain⟨d,b⟩:=wn (by rw[hk];decide);refine⟨hk,?_⟩;unfold eY;rw[gJ b];exact(c.fe _ (iF b)).2
theorem MB(M:e7 R tg w B0 W s r p lim ei ep got ws ds q8 q9 fH):∀o∈ep,∀e∈o.eG,e.1.size<=12:=by
 intro o ho e a;obtain⟨i,hi,rfl⟩:=mH ho;have c:=M.w3.twin;have b:i<ei.length:=by rw[c.1];exact hi
 have d:=c.2.1 i b hi;rcases c.2.2 _ (iF b)with k|k
 ·rw[d.none k]at a;cases a
 ·rw[d.eG k]at a
  obtain⟨f,g,rfl⟩:=H3.1 a;have hs:=M.w3.qX.2.2.1.sound.2 ((i:Int)+1) (by rw[o0 b];exact k);have h:eR ei ((i:Int)+1)=ei[i].eG:=by
   unfold eR;rw[show((i:Int)+1-1).toNat=i by omega,gJ b];rfl
  rw[h]at hs;exact(p2 (hs.2.2 f g).1).2
theorem PS(M:e7 R tg w B0 W s r p lim ei ep got ws ds q8 q9 fH)(hj:j<ei.length):∃a pc c,w.cell? (eb W 4)=some (.slice (some (eb a 0)) ei.length pc)/\a<w.heap.size/\w.cell? (eb a j)=some (ed c):=by
 obtain⟨ia,ka,pa,ic,kc,pc,paths,hl,b,_⟩:=M.w3.law;obtain⟨a,M2,d,hc,_⟩:=row_one hl.ny (i:=j) (v:=.int .i64 (paths[j]'(by rw[b];exact hj))) (by simp[encI,b,hj]);have c4:=hl.c4;rw[M2,b]at c4;exact⟨a,pc,_,c4,d,hc⟩
theorem FO(hn:n<=1048600)(M:e7 R tg w B0 W s r p lim ei ep got ws ds q8 q9 fH)(L:L4 ei ws ds (1200000+n))(hw:ws.length<=n)(a1 a a3:Int)(S T:eu)(la:e5)(lm lc:Nat):
  eK 20 #[fj W,.agg (ut 7 a1 a a3 S T la lm lc)] w fun e w'=>e=.returned (.bool true)/\Below B0 w w'/\∃t ey f u,e7 t ey w' B0 W s r p lim ei ep got f u q8 q9 fH/\L4 ei f u (1200000+n)/\ws.length<=f.length/\f.length<=ws.length+1/\(eC ei a=2->(∀k pc g,w.cell? (eb W 4)=some (.slice (some (eb k 0)) ei.length pc)->w.cell? (eb k ((a-1).toNat))=some (ed g)->g<=300)->f.length=ws.length+1):=by
 obtain⟨c0,c1,G,_,_⟩:=M.Qc;have A:∀c,gS w c->eK 39 #[fj W,ed a] c (tz (ed a) c):=fun c b=>vZ (M.w3.below b) a;have same:∀w',gS w w'->(eC ei a=2->False)->Below B0 w w'/\∃t ey f u,e7 t ey w' B0 W s r p lim ei ep got f u q8 q9 fH/\L4 ei f u (1200000+n)/\ws.length<=f.length/\f.length<=ws.length+1/\(eC ei a=2->(∀k pc g,w.cell? (eb W 4)=some (.slice (some (eb k 0)) ei.length pc)->w.cell? (eb k ((a-1).toNat))=some (ed g)->g<=300)->f.length=ws.length+1):=fun w' b hk=>⟨ko M b,R,tg,ws,ds,M.below b,L,io _,by omega,fun h _=>(hk h).elim⟩;by_cases hk:eC ei a=2
 ·obtain⟨ah,ai⟩:=wn (by rw[hk];decide)
  obtain⟨j,hj⟩:∃j:Nat,a=(j:Int)+1:=⟨(a-1).toNat,by omega⟩;have l:j<ei.length:=by omega
  have P:(a-1).toNat=j:=by omega
  have H:∀c,gS w c->eK 41 #[fj W,ed a] c (tz (ed (j:Int)) c):=fun c b=>by rw[hj];exact mj (M.w3.below b) j l
  have I:∀c,gS w c->eK 42 #[fj W,ed (j:Int)] c (tz (ed 2) c):=fun c b=>by
   have:=ua (M.w3.below b) j l
   rw[<-o0 l,<-hj,hk]at this;exact this
  obtain⟨k,pc,g,c4,J,C⟩:=PS M l;have aj:=(W3.few M.w3).1;by_cases K:300<g
  ·refine(Ir W j ei.length pc k a1 a a3 g S T la lm lc w G c4 l (by omega) J C K A H I).mono ?_
   rintro e w' ⟨o,b⟩;refine⟨o,ko M b,R,tg,ws,ds,M.below b,L,io _,by omega,fun _ Q=>?_⟩
   have:=Q k pc g c4 (by rw[P];exact C)
   omega
  ·have q:=Tp M hk
   have y:Exact ei:=M.w3.qX.2.2.1;obtain⟨fc,ak⟩:∃fc:ul,fc=iE ei (fun _=>none):=⟨_,rfl⟩;obtain⟨d,D⟩:∃d,d=kx ei fc 5 [] (.dir a):=⟨_,rfl⟩;have N:=zy (fc:=fc) M.w3.twin y M.w3.at_ 5 (j+1) j [] ([],[]) (by omega) (fun x hx=>by cases hx) (by rw[<-hj];exact hk) (by rw[<-hj];rw[eL]at q;exact q.2);rw[<-hj,<-D]at N;have E:Ha ep (j+1) j fy ([],[])=(m7 0 d,ky d):=N.trans (by simp);have F:=II y.sound (fc:=fc) q;rw[<-D]at F;have al:(m7 0 d).length<=1200000:=by rw[vK];exact F
   have am:(ky d).length<=1200000:=pD (qI _) F;refine(Pk M (by omega) L.len j ei.length pc k a1 a a3 g S T la lm lc c4 l (by omega) J C K (Uo a got) (.dir a) (fun x=>rfl) (m7 0 d) (ky d) (PR:=fun rest=>rest.take 32=ov.take 32) A H I (fun c b=>?_) (fun U V X Y=>?_)).mono ?_
   ·refine(Mf (M.below b).Rz (i:=ws.length+2) (by omega) q).mono ?_
    rintro e w' ⟨B,o,ey,m,hQ⟩;exact⟨B,ey,o,m,hQ.inv.st,⟨hQ.inv.two,hQ.inv.wp,hQ.flat,hQ.ok,hQ.fl,IX ei a⟩⟩
   ·have Z:=M.w3.twin
    have:=C2 ep r j U V M.w3.at_ (MB M) (by rw[<-Z.1];exact l) (by omega) (by rw[E];show(m7 0 d).length<=_;omega) (by rw[E];show(ky d).length<=_;omega) X Y
    rw[E]at this;exact this
   ·rintro e w' ⟨o,t,ey,B,an,rest,aa,ab,ac⟩
    refine⟨o,ac,t,ey,_,_,ab,⟨by simp[L.len],fun i hi ao=>?_⟩,by simp,by simp,fun _ _=>by simp⟩;simp only[QA];by_cases v:i<ws.length
    ·have z:i<ds.length:=by rw[L.len];exact v
     simp only[v,z,dite_true];exact L.same i v z
    ·have z:¬i<ds.length:=by rw[L.len];exact v
     have ap:i=ws.length:=by simp at hi;omega
     have ad:i-ws.length=0:=(by omega);have e2:i-ds.length=0:=by rw[L.len];omega
     simp only[v,z,dite_false,ad,e2,Gc];refine⟨?_,by show(m7 0 d).length<=_;omega,by show(ky d).length<=_;omega⟩;have h1:=BG (fc:=fc) y.sound q rfl;have h2:=My (fc:=fc) y.sound q rfl;rw[<-D]at h1 h2;exact gq.new h1 h2 (C3 d 0).1 aa
 ·obtain⟨ae,af,ag,O⟩:=Eg (ft:=⟨R.pt,p,[]⟩) W s r ei ep (.slice R.wa ws.length R.wc) (.slice R.ta ds.length R.tc) (.bool false) (.slice R.na (4*q8) R.nc) (.slice R.ea (4*q9) R.ec) (.slice none 0 0) (.slice R.ia (4*fH) R.ic) a hk
  refine(Iq W s a1 a a3 ae af S T la lm lc w G c0 ag A (fun c b=>(O c (M.w3.below b)).1) (fun c b=>(O c (M.w3.below b)).2) (fun c b=>zF (M.below b).Rz hk)).mono ?_;rintro e w' ⟨o,b⟩;exact⟨o,same w' b hk⟩
theorem PT(hn:n<=1048600)(b:fh B0 w W s r n)(a1 a a3:Int)(S T:eu)(la:e5)(lm lc:Nat):
  eK 20 #[fj W,.agg (ut 7 a1 a a3 S T la lm lc)] w fun e w'=>e=.returned (.bool true)/\fh B0 w' W s r (n+1)/\Below B0 w w':=by
 obtain⟨R,tg,p,lim,ei,ep,got,ws,ds,q8,q9,fH,M,L,l,h8,m,o,q,c⟩:=b;refine(FO hn M L c a1 a a3 S T la lm lc).mono ?_;rintro e w' ⟨d,f,g,ey,h,i,j,k,h1,h2,_⟩;exact⟨d,⟨g,ey,p,lim,ei,ep,got,h,i,q8,q9,fH,j,k.mono (by omega),by omega,by omega,by omega,by omega,by omega,by omega⟩,f⟩
theorem zG(hn:n<=1048600)(a:fh B0 w W s r n):eK 24 #[.pointer (some (eb W 8))] w (ml (.bool true) w):=by
 obtain⟨R,tg,p,lim,ei,ep,got,ws,ds,q8,q9,fH,M,L,b,h8,c,d,e,f⟩:=a;exact M.still (by omega) (by omega) (by omega)
theorem fh.below{w':World}(a:fh B0 w W s r n)(b:gS w w'):fh B0 w' W s r n:=by
 obtain⟨R,tg,p,lim,ei,ep,got,ws,ds,q8,q9,fH,M,rest⟩:=a;exact⟨R,tg,p,lim,ei,ep,got,ws,ds,q8,q9,fH,M.below b,rest⟩
theorem fh.cells(a:fh B0 w W s r n):w.cell? (eb W 0)=some (fj s)/\W<w.heap.size/\B0<=w.heap.size:=by
 obtain⟨R,tg,p,lim,ei,ep,got,ws,ds,q8,q9,fH,M,rest⟩:=a;exact⟨M.Qc.1,M.Qc.2.2.1,M.size⟩
theorem fh.mono{m:Nat}(a:fh B0 w W s r n)(h:n<=m):fh B0 w W s r m:=by
 obtain⟨R,tg,p,lim,ei,ep,got,ws,ds,q8,q9,fH,M,L,c,h8,d,e,b,f⟩:=a;exact⟨R,tg,p,lim,ei,ep,got,ws,ds,q8,q9,fH,M,L.mono (by omega),by omega,by omega,by omega,by omega,b,by omega⟩
theorem e7.Tq{d:List Ob->Prop}{args:Array Value}(h:e7 R tg w B0 W s r p lim ei ep got ws ds q8 q9 fH)
  (hc:eK 20 args w fun e w'=>e=.returned (.bool true)/\nO d ⟨R.pt,p,ei⟩ (fun k=>tg k=(0,1)) (fun k=>tg k=(0,2)) (fun k=>tg k=(1,0)) w w' W s r (.slice R.wa ws.length R.wc) (.slice R.ta ds.length R.tc) (.bool false) (.slice R.na (4*q8) R.nc) (.slice R.ea (4*q9) R.ec) (.slice none 0 0) (.slice R.ia (4*fH) R.ic)):
  eK 20 args w fun e w'=>e=.returned (.bool true)/\∃a ey b c,d b/\e7 a ey w' B0 W s r p lim b c got ws ds q8 q9 fH/\Below B0 w w':=by
 refine hc.mono ?_;rintro e w' ⟨i,q,t,u,b,c,h3,f,hk,hq⟩;have n3:∀k,tg k=(0,0)->¬F3 (fun k=>tg k=(0,1)) (fun k=>tg k=(0,2)) (fun k=>tg k=(1,0)) k:=fun k hk e=>by
  rcases e with e|e|e<;>(rw[hk]at e;cases e)
 have g:∀k,R.FE k->¬F3 (fun k=>tg k=(0,1)) (fun k=>tg k=(0,2)) (fun k=>tg k=(1,0)) k:=fun k hk=>n3 k (h.holds k (.inr (.inl hk))).1;obtain⟨a,ey,l,rfl,j,m⟩:=h.Bv h3 (h.eG.keep (fun k hf=>hk.block k (h.eG.lt k hf) (g k hf)) hk.size) (fun k hf n=>by
  rcases f.all k n with e|e
  ·exact g k hf e
  ·have:=h.eG.lt k hf;omega) f (fun k hf=>.inl hf) ⟨hk.os,hk.tape,hk.output,hk.size,fun k o hn=>hk.block k o (fun h=>hn (.inl h))⟩
 exact⟨i,a,ey,_,c,hq,j,m⟩
end
theorem Tr(hi:jt Ux (ie (fun _=>False) w w1) w1 s p [])(m:gS w w1):
  ∃R tg,e7 R tg ((w1.alloc (.cells #[.slice none 0 0] 94)).alloc (.cells #[fj s,fj w1.heap.size,.slice none 0 0,.slice none 0 0,.slice none 0 0,.slice none 0 0,.slice none 0 0,.bool false,.slice none 0 0,.slice none 0 0,.slice none 0 0,.slice none 0 0] 71)) w.heap.size (w1.heap.size+1) s w1.heap.size p 0 [] [] [] [] [] 0 0 0:=by
 have z:=m.size;obtain⟨c,d⟩:∃c,c=w1.alloc (.cells #[.slice none 0 0] 94):=⟨_,rfl⟩;rw[<-d];obtain⟨w3,a⟩:∃w3,w3=c.alloc (.cells #[fj s,fj w1.heap.size,.slice none 0 0,.slice none 0 0,.slice none 0 0,.slice none 0 0,.slice none 0 0,.bool false,.slice none 0 0,.slice none 0 0,.slice none 0 0,.slice none 0 0] 71):=⟨_,rfl⟩;rw[<-a];have f:c.heap.size=w1.heap.size+1:=by rw[d];simp
 have n:w3.heap.size=w1.heap.size+2:=by rw[a];simp[f]
 have hr:w3.heap[w1.heap.size]?=some (.cells #[.slice none 0 0] 94 (0,0)):=by
  rw[a,jU _ _ _ (by omega),d];exact pM _ _
 have hW:w3.heap[w1.heap.size+1]?=some (.cells #[fj s,fj w1.heap.size,.slice none 0 0,.slice none 0 0,.slice none 0 0,.slice none 0 0,.slice none 0 0,.bool false,.slice none 0 0,.slice none 0 0,.slice none 0 0,.slice none 0 0] 71 (0,0)):=by
  rw[a,<-f];exact pM _ _
 have hk:∀k,k<w1.heap.size->w3.heap[k]?=w1.heap[k]?:=fun k hk=>by
  rw[a,jU _ _ _ (by omega),d,jU _ _ _ hk]
 obtain⟨tg,b⟩:∃tg:eM,tg=fun k=>if k=w1.heap.size+1 then(0,1)else if k=w1.heap.size then(0,2)else if w.heap.size<=k/\k<w1.heap.size then(1,0) else(0,0):=⟨_,rfl⟩;have t1:tg (w1.heap.size+1)=(0,1):=by rw[b];exact fY rfl
 have t2:tg w1.heap.size=(0,2):=by rw[b];simp
 have t3:∀k,w.heap.size<=k->k<w1.heap.size->tg k=(1,0):=fun k h1 h2=>by
  rw[b];simp only;rw[eJ (by omega),eJ (by omega),fY ⟨h1,h2⟩]
 have hf:gF tg w3:=fun k e=>by
  rw[b];simp only;rw[eJ (by omega),eJ (by omega),eJ (by omega)]
 have l:∀{t tl:fL} {V:Nat->Value},qD (fun _=>False) t tl V w3 none 0 0 []:=⟨rfl,UV _ _ _ _,(fun g hg=>by cases hg),(fun i hi=>by cases hi),fun k hk=>hk.elim⟩;refine⟨⟨Ux,none,0,none,0,none,0,none,0,none,0,[],[],[],fun _=>False,fun _=>False,fun _=>False⟩,tg,⟨hf,fun k e=>?_,by omega,rfl,⟨UV _ _ _ _,rfl,fun g hg=>by cases hg⟩,io _,⟨?_,?_,⟨?_,mB _,KQ,N4⟩,?_,?_,kR hf⟩,UV _ _ _ _,(fun g hg=>by cases hg),UV _ _ _ _,(fun g hg=>by cases hg),l,?_,l,?_,?_,(fun x hx=>by cases hx),(fun j h=>by cases h),(fun j h=>by cases h),fun x=>rfl⟩⟩
 ·rw[b];simp only;rw[eJ (by omega),eJ (by omega),eJ (by omega)]
 ·exact⟨none,none,none,0,0,0,[],⟨t1,hW,UV _ _ _ _,UV _ _ _ _,UV _ _ _ _,(fun g hg=>by cases hg),(fun g hg=>by cases hg),(fun g hg=>by cases hg)⟩,rfl,(fun i hi=>by cases hi)⟩
 ·exact⟨none,0,⟨t2,(fun g hg=>by cases hg),hr,UV _ _ _ _,by simp,(fun o ho=>by cases ho)⟩⟩
 ·exact hi.keep (fun k e hF=>hk k e) (fun k e hF=>by
   rcases hF with h|h
   ·exact h.elim
   ·exact t3 k h.1 h.2)
 ·exact⟨rfl,(fun i h1=>by cases h1),(fun o ho=>by cases ho)⟩
 ·intro i hi;cases hi
 ·exact⟨rfl,UV _ _ _ _,(fun g hg=>by cases hg),(fun i hi=>by cases hi),fun k hk=>hk.elim⟩
 ·rintro k (h|h|h)<;>exact h.elim
 ·exact fun k=>⟨fun h=>h.1,fun h=>h.1,fun h=>h.1⟩
def IY (B0:Nat)(w:World)(W s r:Nat):Prop:=∃R tg p ei ep,e7 R tg w B0 W s r p 0 ei ep [] [] [] 0 0 0/\3<=ei.length/\eC ei 3=2
theorem Ts(w:World):eK 19 #[] w fun e w'=>∃W s r,e=.returned (.tuple #[fj W,.bool true])/\IY w.heap.size w' W s r/\gS w w':=by
 go_enter func19,ntmps19;go_wp2_with fail;refine g7 (Ch _) ?_;rintro _ w1 ⟨s,rfl,⟨p,hi⟩,b⟩;obtain⟨J,K,l⟩:=Tr hi b;have c:Hid _:=l;have x:=b.size;have L:=b;clear hi l;go_wp2_with fail;refine g7 (c.out.Tq (yD c.out.xA 0 0 0 vo fy none 0 0 (by decide))) ?_;rintro _ a ⟨rfl,M,N,O,P,⟨Q,m⟩,n,f⟩;have h1:=UH m;subst h1;have g:Hid _:=n;have R:w1.heap.size+2<=a.heap.size:=by have:=f.size;simpa using this
 have y:gS w a:=((b.alloc x _).alloc (by simp;omega) _).trans f;clear n f m c;go_wp2_with fail;have h:∀B,gS a (a.alloc B):=fun B=>(i7 _ _).alloc (io _) _;have f5:=Ek a [yz] 96 #[.string ⟨#[120]⟩,ed 1,ed 1] rfl (by decide) (by decide) 1 rfl;refine g7 ((g.out.below (h (.cells #[.string ⟨#[120]⟩,ed 1,ed 1] 96))).Tq (rU (g.out.below (h (.cells #[.string ⟨#[120]⟩,ed 1,ed 1] 96))).xA 0 0 0 fy fy (some (eb a.heap.size 0)) 1 1 [yz] f5.list f5.many f5.names)) ?_;rintro _ w5 ⟨rfl,S,T,U,V,⟨e2,o⟩,q,i⟩;obtain⟨d,d1,d2,d3,h2⟩:=UI o;subst h2;have j:Hid _:=q;have X:a.heap.size<=w5.heap.size:=by have:=i.size;simp at this;omega
 have z:gS w w5:=(y.alloc (by omega) _).trans i;clear q i o g f5 h;go_wp2_with fail;have k:∀B,gS w5 (w5.alloc B):=fun B=>(i7 _ _).alloc (io _) _;have f6:=Ek w5 [Ei,Ej] 96 #[.string ⟨#[100]⟩,ed 2,ed 2,.string ⟨#[97]⟩,ed 1,ed 1] rfl (by decide) (by decide) 2 rfl;refine g7 ((j.out.below (k (.cells #[.string ⟨#[100]⟩,ed 2,ed 2,.string ⟨#[97]⟩,ed 1,ed 1] 96))).Tq (rU (j.out.below (k (.cells #[.string ⟨#[100]⟩,ed 2,ed 2,.string ⟨#[97]⟩,ed 1,ed 1] 96))).xA 0 0 0 fy fy (some (eb w5.heap.size 0)) 2 2 [Ei,Ej] f6.list f6.many f6.names)) ?_;rintro _ w6 ⟨rfl,A,C,D,E,⟨Y,t⟩,u,v⟩;obtain⟨F,G⟩:=UJ d1 d2 d3 t;have H:Hid _:=u;have I:gS w w6:=(z.alloc (by omega) _).trans v;clear u v t j f6 k;go_wp2;go_ret2;exact⟨_,s,_,rfl,⟨A,C,p,D,E,H.out,F,G⟩,I⟩
end Go.Proofs.YtlgidcmmgohagaaGreat
