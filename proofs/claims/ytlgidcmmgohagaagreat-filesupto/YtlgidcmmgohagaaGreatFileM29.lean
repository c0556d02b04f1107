/- What is proved here: 'plays'. -/
import Derived.Test.YtlgidcmmgohagaaGreatFileM28
import Derived.Test.YtlgidcmmgohagaaGreatFileM12
import Derived.Test.YtlgidcmmgohagaaGreatFileM25
namespace Go.Proofs.YtlgidcmmgohagaaGreat
open Go.RowKit Go.Sort Go.Shelf Go.Proofs.Tryz
set_option linter.unusedVariables false
set_option maxRecDepth 100000
set_option maxHeartbeats 16000000
variable {B0 W k r s:Nat}{w:World}
theorem Sq{R:sg}{tg:eV}{B0 W s r p lim:Nat}{ey eC:List Ob}{got:List Int}{ws:List Slot}{ds:List Doc}{q8 q9 fV:Nat}(M:fF R tg w B0 W s r p lim ey eC got ws ds q8 q9 fV)(hj:2<ey.length){b pc:Nat}{c:Int}(h1:w.cell? (eI W 4)=some (.slice (some (eI b 0)) ey.length pc))(h2:w.cell? (eI b 2)=some (eJ c)):c<=300:=by
 obtain⟨ia,ka,pa,ic,kc,h,paths,hl,e,f⟩:=M.w3.law;have d:2<paths.length:=by rw[e];exact hj
 obtain⟨g,iD,_,hc,_⟩:=row_one hl.qc (i:=2) (v:=.int .i64 paths[2]) (by simp[encI,d]);have a:=hl.c4.symm.trans h1;rw[iD]at a;injection a with a;injection a with a _ _;injection a with a;injection a with a _ _;subst a;have e2:=hc.symm.trans h2;injection e2 with e2;injection e2 with _ e2
 have:=(f 2 d).2
 rw[e2]at this;exact Int.le_trans this (by decide)
theorem Kq(h:NA B0 w W s r):
  gc 20 #[hh W,.agg (Hm 7 0 3 0 hZ hZ none 0 0)] w fun e w'=>e=.returned (.bool true)/\fJ B0 w' W s r 3/\Below B0 w w':=by
 obtain⟨R,tg,p,ey,eC,M,h3,hk⟩:=h;refine(Kp (n:=3) (by omega) M ⟨rfl,fun j h _=>by cases h⟩ (by simp) 0 3 0 hZ hZ none 0 0).mono ?_;rintro e w' ⟨b,c,d,eF,a,f,g,i,h1,h2,k⟩;have hl:=k hk (fun m pc o c4 l=>Sq M (by omega) c4 l);have q:a.length=1:=hl;exact⟨b,⟨d,eF,p,0,ey,eC,[],a,f,0,0,0,g,i,by omega,by omega,by omega,by omega,by omega,by omega⟩,c⟩
theorem bws{B0 W s r n:Nat}(hn:n<=1048600)(a:fJ B0 w W s r n)(o:Step)(ho:o.Fits w)(hk:1<=o.kind/\o.kind<=7):
  gc 20 #[hh W,o.val] w fun e w'=>e=.returned (.bool true)/\fJ B0 w' W s r (n+1)/\Below B0 w w':=by
 by_cases c:o.kind<=5
 ·exact VZ hn a o ho ⟨hk.1,c⟩
 ·by_cases h6:o.kind=6
  ·obtain⟨kind,a1,a2,a3,S,T,la,lm,lc,es⟩:=o
   simp only at h6;subst h6;exact Nx hn a a1 a2 a3 S T la lm lc
  ·have b:o.kind=7:=by omega
   obtain⟨kind,a1,a2,a3,S,T,la,lm,lc,es⟩:=o;simp only at b;subst b;exact Wc hn a a1 a2 a3 S T la lm lc
theorem Sr(W wb Sb:Nat)(a1 a2 a3:Int)(S T:eD)(la:fD)(lm lc:Nat)(a er:Int)(her:(er==14)=false)(f g:World->Prop)(w d:World)(h:d=w.alloc (.cells (Hm 13 a1 a2 a3 S T la lm lc) 57))
  (h1:gc 63 #[hh wb,.string S,eJ a2] d fun e w'=>e=.returned (.tuple #[eJ a,eJ er])/\xk w.heap.size d w'/\f w')
  (h2:∀i,f i->gc 94 #[hh Sb,.string S,eJ a2] i fun e w'=>e=.returned (.tuple #[eJ a,eJ er])/\g w'):
  gc 50 #[hh W,hh wb,hh Sb,.agg (Hm 13 a1 a2 a3 S T la lm lc)] w fun e w'=>e=.returned (.bool true)/\g w':=by
 unfold Hm at h ⊢;subst h;have k:=fun(b:Bool) (w':World)=>QP W er er b w' her
 have l:=fun(w':World)=>IR er w';have q:(er==er)=true:=by simp
 have r:(a==a)=true:=by simp
 have m:Hid _:=h1;have n:Hid _:=h2;clear h1 h2;go_enter func50,ntmps50;go_wp2_with fail;refine io m.out ?_;rintro e j ⟨rfl,c,o⟩;have s:j.cell? (eI w.heap.size 4)=some (.string S):=(c.2 4).trans (by simp);have t:j.cell? (eI w.heap.size 2)=some (eJ a2):=(c.2 2).trans (by simp);have u:=c.1;clear c;go_wp2_with(first
  |(go_at_call 22;refine io (l _) ?_;rintro _ _ ⟨rfl,rfl⟩)
  |(go_at_call 53;refine io (k _ _) ?_;rintro _ _ ⟨rfl,rfl⟩)
  |(go_at_call 94;refine io (n.out _ o) ?_;rintro e w3 ⟨rfl,p⟩))
 go_ret;exact⟨rfl,p⟩
theorem NB(W wb Sb:Nat)(a1 a2 a3:Int)(S T:eD)(la:fD)(lm lc:Nat)(a:eD)(er:Int)(her:(er==14)=false)(f g:World->Prop)(w d:World)(h:d=w.alloc (.cells (Hm 14 a1 a2 a3 S T la lm lc) 57))
  (h1:gc 66 #[hh wb,eJ a2,eJ a3] d fun e w'=>e=.returned (.tuple #[.string a,eJ er])/\xk w.heap.size d w'/\f w')
  (h2:∀i,f i->gc 98 #[hh Sb,eJ a2,eJ a3] i fun e w'=>e=.returned (.tuple #[.string a,eJ er])/\g w'):
  gc 51 #[hh W,hh wb,hh Sb,.agg (Hm 14 a1 a2 a3 S T la lm lc)] w fun e w'=>e=.returned (.bool true)/\g w':=by
 unfold Hm at h ⊢;subst h;have k:=fun(b:Bool) (w':World)=>QP W er er b w' her
 have l:=fun(w':World)=>IR er w';have q:(er==er)=true:=by simp
 have r:(a.toList==a.toList)=true:=by simp
 have m:Hid _:=h1;have n:Hid _:=h2;clear h1 h2;go_enter func51,ntmps51;go_wp2_with fail;refine io m.out ?_;rintro e j ⟨rfl,c,o⟩;have s:j.cell? (eI w.heap.size 3)=some (eJ a3):=(c.2 3).trans (by simp);have t:j.cell? (eI w.heap.size 2)=some (eJ a2):=(c.2 2).trans (by simp);have u:=c.1;clear c;go_wp2_with(first
  |(go_at_call 22;refine io (l _) ?_;rintro _ _ ⟨rfl,rfl⟩)
  |(go_at_call 53;refine io (k _ _) ?_;rintro _ _ ⟨rfl,rfl⟩)
  |(go_at_call 98;refine io (n.out _ o) ?_;rintro e w3 ⟨rfl,p⟩))
 go_ret;exact⟨rfl,p⟩
theorem Kr(W wb Sb:Nat)(a1 a2 a3:Int)(S T:eD)(la:fD)(lm lc:Nat)(er:Int)(her:(er==14)=false)(c d:World->Prop)(w b:World)(f:b=w.alloc (.cells (Hm 15 a1 a2 a3 S T la lm lc) 57))
  (h1:gc 64 #[hh wb,eJ a2,.string S] b fun e w'=>e=.returned (eJ er)/\xk w.heap.size b w'/\c w')
  (h2:∀g,c g->gc 99 #[hh Sb,eJ a2,.string S] g fun e w'=>e=.returned (eJ er)/\d w'):
  gc 51 #[hh W,hh wb,hh Sb,.agg (Hm 15 a1 a2 a3 S T la lm lc)] w fun e w'=>e=.returned (.bool true)/\d w':=by
 unfold Hm at f ⊢;subst f;have i:=fun(w':World)=>QP W er er true w' her
 have j:=fun(w':World)=>IR er w';have o:(er==er)=true:=by simp
 have k:Hid _:=h1;have l:Hid _:=h2;clear h1 h2;go_enter func51,ntmps51;go_wp2_with fail;refine io k.out ?_;rintro e h ⟨rfl,a,m⟩;have p:h.cell? (eI w.heap.size 4)=some (.string S):=(a.2 4).trans (by simp);have q:h.cell? (eI w.heap.size 2)=some (eJ a2):=(a.2 2).trans (by simp);have r:=a.1;clear a;go_wp2_with(first
  |(go_at_call 22;refine io (j _) ?_;rintro _ _ ⟨rfl,rfl⟩)
  |(go_at_call 53;refine io (i _) ?_;rintro _ _ ⟨rfl,rfl⟩)
  |(go_at_call 99;refine io (l.out _ m) ?_;rintro e w3 ⟨rfl,n⟩))
 go_ret;exact⟨rfl,n⟩
theorem GL(W wb Sb:Nat)(a1 a2 a3:Int)(S T:eD)(la:fD)(lm lc:Nat)(er:Int)(her:(er==14)=false)(c d:World->Prop)(w b:World)(f:b=w.alloc (.cells (Hm 17 a1 a2 a3 S T la lm lc) 57))
  (h1:gc 100 #[hh wb,eJ a2,eJ a3] b fun e w'=>e=.returned (eJ er)/\xk w.heap.size b w'/\c w')
  (h2:∀g,c g->gc 101 #[hh Sb,eJ a2,eJ a3] g fun e w'=>e=.returned (eJ er)/\d w'):
  gc 51 #[hh W,hh wb,hh Sb,.agg (Hm 17 a1 a2 a3 S T la lm lc)] w fun e w'=>e=.returned (.bool true)/\d w':=by
 unfold Hm at f ⊢;subst f;have i:=fun(w':World)=>QP W er er true w' her
 have j:=fun(w':World)=>IR er w';have o:(er==er)=true:=by simp
 have k:Hid _:=h1;have l:Hid _:=h2;clear h1 h2;go_enter func51,ntmps51;go_wp2_with fail;refine io k.out ?_;rintro e h ⟨rfl,a,m⟩;have p:h.cell? (eI w.heap.size 3)=some (eJ a3):=(a.2 3).trans (by simp);have q:h.cell? (eI w.heap.size 2)=some (eJ a2):=(a.2 2).trans (by simp);have r:=a.1;clear a;go_wp2_with(first
  |(go_at_call 22;refine io (j _) ?_;rintro _ _ ⟨rfl,rfl⟩)
  |(go_at_call 53;refine io (i _) ?_;rintro _ _ ⟨rfl,rfl⟩)
  |(go_at_call 101;refine io (l.out _ m) ?_;rintro e w3 ⟨rfl,n⟩))
 go_ret;exact⟨rfl,n⟩
theorem NC(W wb Sb:Nat)(a1 a2 a3:Int)(S T:eD)(la:fD)(lm lc:Nat)(er:Int)(c d:World->Prop)(w b:World)(f:b=w.alloc (.cells (Hm 16 a1 a2 a3 S T la lm lc) 57))
  (h1:gc 102 #[hh wb,eJ a2,eJ a3] b fun e w'=>e=.returned (eJ er)/\xk w.heap.size b w'/\c w')
  (h2:∀g,c g->gc 103 #[hh Sb,eJ a2,eJ a3] g fun e w'=>e=.returned (eJ er)/\d w'):
  gc 51 #[hh W,hh wb,hh Sb,.agg (Hm 16 a1 a2 a3 S T la lm lc)] w fun e w'=>e=.returned (.bool true)/\d w':=by
 unfold Hm at f ⊢;subst f;have i:=fun(w':World)=>IR er w'
 have n:(er==er)=true:=by simp
 have j:Hid _:=h1;have k:Hid _:=h2;clear h1 h2;go_enter func51,ntmps51;go_wp2_with fail;refine io j.out ?_;rintro e h ⟨rfl,a,l⟩;have o:h.cell? (eI w.heap.size 3)=some (eJ a3):=(a.2 3).trans (by simp);have p:h.cell? (eI w.heap.size 2)=some (eJ a2):=(a.2 2).trans (by simp);have q:=a.1;clear a;go_wp2_with(first
  |(go_at_call 22;refine io (i _) ?_;rintro _ _ ⟨rfl,rfl⟩)
  |(go_at_call 103;refine io (k.out _ l) ?_;rintro e w3 ⟨rfl,m⟩))
 go_ret;exact⟨rfl,m⟩
theorem Ks(W wb Sb:Nat)(a1 a2 a3:Int)(S T:eD)(la:fD)(lm lc:Nat)(er:Int)(c d:World->Prop)(w a:World)(f:a=w.alloc (.cells (Hm 18 a1 a2 a3 S T la lm lc) 57))
  (h1:gc 65 #[hh wb,eJ a2] a fun e w'=>e=.returned (eJ er)/\xk w.heap.size a w'/\c w')
  (h2:∀g,c g->gc 104 #[hh Sb,eJ a2] g fun e w'=>e=.returned (eJ er)/\d w'):
  gc 51 #[hh W,hh wb,hh Sb,.agg (Hm 18 a1 a2 a3 S T la lm lc)] w fun e w'=>e=.returned (.bool true)/\d w':=by
 unfold Hm at f ⊢;subst f;have h:=fun(w':World)=>IR er w'
 have n:(er==er)=true:=by simp
 have i:Hid _:=h1;have j:Hid _:=h2;clear h1 h2;go_enter func51,ntmps51;go_wp2_with fail;refine io i.out ?_;rintro e k ⟨rfl,b,l⟩;have o:k.cell? (eI w.heap.size 2)=some (eJ a2):=(b.2 2).trans (by simp);have p:=b.1;clear b;go_wp2_with(first
  |(go_at_call 22;refine io (h _) ?_;rintro _ _ ⟨rfl,rfl⟩)
  |(go_at_call 104;refine io (j.out _ l) ?_;rintro e w3 ⟨rfl,m⟩))
 go_ret;exact⟨rfl,m⟩
theorem Kt:∀(hs:List rS) (k f:Nat) (v:Value) (x:rS) (h:k<hs.length) (hf:f<4),jO x=(jO hs[k]).set f v->rr (hs.set k x)=(rr hs).set (4*k+f) v
 |y::r,0,f,v,x,_,hf,e=>by
  show jO x++rr r=(jO y++rr r).set (4*0+f) v
  rw[List.set_append_left _ _ (by show 4*0+f<4;omega),e]
  simp
 |y::r,k+1,f,v,x,h,hf,e=>by
  show jO y++rr (r.set k x)=(jO y++rr r).set (4*(k+1)+f) v
  rw[KO _ _ (by show 4<=4*(k+1)+f;omega),show 4*(k+1)+f-(jO y).length=4*k+f by show 4*(k+1)+f-4=_;omega,Kt r k f v x (by simpa using h) hf e]
section
variable {F:Nat->Prop}{w:World}{S:Nat}{na da:fD}{nc dc:Nat}{nodes:List eN}{data:eL}{hs:List rS}{more:fQ}
theorem fo.Du(h:fo F w S na da nc dc nodes data (rr hs++more)){k f:Nat}{v:Value}{x:rS}(hk:k<hs.length)(hf:f<4)(e:jO x=(jO hs[k]).set f v):
  fo F (w.setCell (eI S (2+k*4+f)) v) S na da nc dc nodes data (rr (hs.set k x)++more)/\eA F w (w.setCell (eI S (2+k*4+f)) v):=by
 have hl:4*k+f<(rr hs).length:=by rw[OS];omega
 refine⟨⟨h.fS,?_,?_,?_,h.fn,h.fd⟩,⟨rfl,rfl,rfl,by simp,fun q hq hn=>jQ _ _ _ _ (fun e=>hn (by rw[e];exact h.fS))⟩⟩
 ·rw[Kt hs k f v x hk hf e,<-List.set_append_left _ _ hl,show 2+k*4+f=(4*k+f)+2 by omega]
  simp[World.setCell,Am,h.hS]
 ·exact eQ h.kJ (fun g hg=>jQ _ _ _ _ (fun e=>fX h.kJ h.hS (by decide) (by rw[hg,e])))
 ·exact eQ h.gz (fun g hg=>jQ _ _ _ _ (fun e=>fX h.gz h.hS (by decide) (by rw[hg,e])))
def mo (hs:List rS)(n at_:Int):List rS×Int:=
 if pU hs n=false then(hs,3)else if at_<0\/256<at_ then(hs,2) else(match hs[n.toNat]? with|some h=>(hs.set n.toNat (h.1,h.2.1,h.2.2.1,at_),0)|none=>(hs,0))
theorem Ss(h:fo F w S na da nc dc nodes data (rr hs++more))(h8:hs.length=8)(n at_:Int):
  gc 103 #[hh S,eJ n,eJ at_] w fun e w'=>e=.returned (eJ (mo hs n at_).2)/\fo F w' S na da nc dc nodes data (rr (mo hs n at_).1++more)/\eA F w w':=by
 have d:=h.lt;have b:Hid _:=gK h h8 n;cases hu:pU hs n with
 |false=>
  have a:mo hs n at_=(hs,3):=by unfold mo;rw[ie hu]
  rw[a];rw[hu]at b;go_enter func103,ntmps103;go_wp2_with(go_at_call 163;refine io b.out ?_;rintro _ _ ⟨rfl,rfl⟩);go_ret;exact⟨rfl,h,eA.refl _⟩
 |true=>
  rw[hu]at b;have hn:0<=n/\n<8:=by
   by_cases h':0<=n/\n<8
   ·exact h'
   ·rw[xN h']at hu;cases hu
  obtain⟨k,rfl⟩:∃k:Nat,n=(k:Int):=⟨n.toNat,by omega⟩;have hk:k<hs.length:=by omega
  by_cases h0:at_<0
  ·have a:mo hs (k:Int) at_=(hs,2):=by unfold mo;rw[fY (by rw[hu];decide),ie (.inl h0)]
   rw[a];go_enter func103,ntmps103;go_wp2_with(go_at_call 163;refine io b.out ?_;rintro _ _ ⟨rfl,rfl⟩);go_ret;exact⟨rfl,h,eA.refl _⟩
  ·have t0:decide (at_<0)=false:=rk h0
   by_cases h2:256<at_
   ·have a:mo hs (k:Int) at_=(hs,2):=by unfold mo;rw[fY (by rw[hu];decide),ie (.inr h2)]
    rw[a];go_enter func103,ntmps103;go_wp2_with(go_at_call 163;refine io b.out ?_;rintro _ _ ⟨rfl,rfl⟩);go_ret;exact⟨rfl,h,eA.refl _⟩
   ·have t2:decide (256<at_)=false:=rk h2
    have a:mo hs (k:Int) at_=(hs.set k (hs[k].1,hs[k].2.1,hs[k].2.2.1,at_),0):=by
     unfold mo;rw[fY (by rw[hu];decide),fY (by omega),ow,jy hk]
    rw[a];have g:w.frozen? (eI S (2+k*4+3))=false:=by simp[World.frozen?,h.hS]
    have c3:w.cell? (eI S (2+k*4+3))=some (.int .i64 hs[k].2.2.2):=h.tab (f:=3) hk (by omega);have c:Hid _:=h.Du (f:=3) (v:=.int .i64 at_) (x:=(hs[k].1,hs[k].2.1,hs[k].2.2.1,at_)) hk (by omega) rfl;have i:k<8:=by omega
    have t3:(k:Int)<8:=(by omega);go_enter func103,ntmps103;go_wp2_with(go_at_call 163;refine io b.out ?_;rintro _ _ ⟨rfl,rfl⟩);go_ret;exact⟨rfl,c.out⟩
end
def kA (fl f:Int):Bool:=(fl / f).tmod 2==1
theorem jK(fl f:Int)(w:World)(h:0<=fl/\fl<=63)(hf:1<=f/\f<=32):gc 159 #[eJ fl,eJ f] w (Do (.bool (kA fl f)) w):=by
 have a:(f==0)=false:=by simp;omega
 go_enter func159,ntmps159;go_wp2;go_ret;exact⟨rfl,rfl⟩
section
variable {F:Nat->Prop}{w:World}{S:Nat}{na da:fD}{nc dc:Nat}{nodes:List eN}{data:eL}{hs:List rS}{more:fQ}
theorem fo.aam(h:fo F w S na da nc dc nodes data (rr hs++more))(hk:k<hs.length):
  fo F ((((w.setCell (eI S (2+k*4)) (.bool false)).setCell (eI S (2+k*4+1)) (eJ 0)).setCell (eI S (2+k*4+2)) (eJ 0)).setCell (eI S (2+k*4+3)) (eJ 0)) S na da nc dc nodes data (rr (hs.set k (false,0,0,0))++more)/\
   eA F w ((((w.setCell (eI S (2+k*4)) (.bool false)).setCell (eI S (2+k*4+1)) (eJ 0)).setCell (eI S (2+k*4+2)) (eJ 0)).setCell (eI S (2+k*4+3)) (eJ 0)):=by
 obtain⟨h1,b⟩:=h.Du (f:=0) (v:=.bool false) (x:=(false,hs[k].2.1,hs[k].2.2.1,hs[k].2.2.2)) hk (by omega) rfl;obtain⟨h2,c⟩:=h1.Du (k:=k) (f:=1) (v:=.int .i64 0) (x:=(false,0,hs[k].2.2.1,hs[k].2.2.2)) (by simpa using hk) (by omega) (by simp[jO]);rw[Px]at h2;obtain⟨h3,d⟩:=h2.Du (k:=k) (f:=2) (v:=.int .i64 0) (x:=(false,0,0,hs[k].2.2.2)) (by simpa using hk) (by omega) (by simp[jO]);rw[Px]at h3;obtain⟨a,k4⟩:=h3.Du (k:=k) (f:=3) (v:=.int .i64 0) (x:=(false,0,0,0)) (by simpa using hk) (by omega) (by simp[jO]);rw[Px]at a;refine⟨a,⟨rfl,rfl,rfl,by simp,fun q hq hn=>?_⟩⟩;have hne:∀(o:Nat) (v:Value) (w:World),(w.setCell (eI S o) v).heap[q]?=w.heap[q]?:=fun o v w=>jQ _ _ _ _ (fun e=>hn (by rw[e];exact h.fS));rw[hne,hne,hne,hne]
def nJ (hs:List rS)(n:Int):List rS×Int:=
 if pU hs n=false then(hs,3) else(hs.set n.toNat (false,0,0,0),0)
theorem ND(h:fo F w S na da nc dc nodes data (rr hs++more))(h8:hs.length=8)(n:Int):
  gc 104 #[hh S,eJ n] w fun e w'=>e=.returned (eJ (nJ hs n).2)/\fo F w' S na da nc dc nodes data (rr (nJ hs n).1++more)/\eA F w w':=by
 have g:=h.lt;have b:Hid _:=gK h h8 n;cases hu:pU hs n with
 |false=>
  have c:nJ hs n=(hs,3):=by unfold nJ;rw[ie hu]
  rw[c];rw[hu]at b;go_enter func104,ntmps104;go_wp2_with(go_at_call 163;refine io b.out ?_;rintro _ _ ⟨rfl,rfl⟩);go_ret;exact⟨rfl,h,eA.refl _⟩
 |true=>
  rw[hu]at b;have hn:0<=n/\n<8:=by
   by_cases h':0<=n/\n<8
   ·exact h'
   ·rw[xN h']at hu;cases hu
  obtain⟨k,rfl⟩:∃k:Nat,n=(k:Int):=⟨n.toNat,by omega⟩;have hk:k<hs.length:=by omega
  have c:nJ hs (k:Int)=(hs.set k (false,0,0,0),0):=by
   unfold nJ;rw[fY (by rw[hu];decide),ow]
  rw[c];have a:∀o,w.frozen? (eI S o)=false:=fun o=>by simp[World.frozen?,h.hS]
  have f0:=a (2+k*4);have f1:=a (2+k*4+1);have f2:=a (2+k*4+2);have f3:=a (2+k*4+3);have c0:w.cell? (eI S (2+k*4))=some (.bool hs[k].1):=h.tab (f:=0) hk (by omega);have c1:w.cell? (eI S (2+k*4+1))=some (.int .i64 hs[k].2.1):=h.tab (f:=1) hk (by omega);have c2:w.cell? (eI S (2+k*4+2))=some (.int .i64 hs[k].2.2.1):=h.tab (f:=2) hk (by omega);have c3:w.cell? (eI S (2+k*4+3))=some (.int .i64 hs[k].2.2.2):=h.tab (f:=3) hk (by omega);have d:Hid _:=h;have i:k<8:=by omega
  have t3:(k:Int)<8:=by omega
  clear a;go_enter func104,ntmps104;go_wp2_with(go_at_call 163;refine io b.out ?_;rintro _ _ ⟨rfl,rfl⟩);go_ret;exact⟨rfl,d.out.aam hk⟩
end
end Go.Proofs.YtlgidcmmgohagaaGreat
