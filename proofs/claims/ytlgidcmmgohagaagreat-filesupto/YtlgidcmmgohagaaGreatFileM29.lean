/- What is proved here: 'plays'. -/
import Derived.Test.YtlgidcmmgohagaaGreatFileM28
import Derived.Test.YtlgidcmmgohagaaGreatFileM12
import Derived.Test.YtlgidcmmgohagaaGreatFileM25
namespace Go.Proofs.YtlgidcmmgohagaaGreat
open Go.RowKit Go.Sort Go.Shelf Go.Proofs.Tryz
set_option linter.unusedVariables false
set_option maxRecDepth 100000
set_option maxHeartbeats 16000000
variable {B0 W k r s:Nat}{w:World}
theorem MC{R:pI}{tg:eM}{B0 W s r p lim:Nat}{ei ep:List Ob}{got:List Int}{ws:List Slot}{ds:List Doc}{q8 q9 fH:Nat}(M:e7 R tg w B0 W s r p lim ei ep got ws ds q8 q9 fH)(hj:2<ei.length){b pc:Nat}{c:Int}(h1:w.cell? (eb W 4)=some (.slice (some (eb b 0)) ei.length pc))(h2:w.cell? (eb b 2)=some (ed c)):c<=300:=by
 obtain⟨ia,ka,pa,ic,kc,h,paths,hl,e,f⟩:=M.w3.law;have d:2<paths.length:=by rw[e];exact hj
 obtain⟨g,M2,_,hc,_⟩:=row_one hl.ny (i:=2) (v:=.int .i64 paths[2]) (by simp[encI,d]);have a:=hl.c4.symm.trans h1;rw[M2]at a;injection a with a;injection a with a _ _;injection a with a;injection a with a _ _;subst a;have e2:=hc.symm.trans h2;injection e2 with e2;injection e2 with _ e2
 have:=(f 2 d).2
 rw[e2]at this;exact Int.le_trans this (by decide)
theorem FP(h:IY B0 w W s r):
  eK 20 #[fj W,.agg (ut 7 0 3 0 fy fy none 0 0)] w fun e w'=>e=.returned (.bool true)/\fh B0 w' W s r 3/\Below B0 w w':=by
 obtain⟨R,tg,p,ei,ep,M,h3,hk⟩:=h;refine(FO (n:=3) (by omega) M ⟨rfl,fun j h _=>by cases h⟩ (by simp) 0 3 0 fy fy none 0 0).mono ?_;rintro e w' ⟨b,c,d,ey,a,f,g,i,h1,h2,k⟩;have hl:=k hk (fun m pc o c4 l=>MC M (by omega) c4 l);have q:a.length=1:=hl;exact⟨b,⟨d,ey,p,0,ei,ep,[],a,f,0,0,0,g,i,by omega,by omega,by omega,by omega,by omega,by omega⟩,c⟩
theorem Tt{B0 W s r n:Nat}(hn:n<=1048600)(a:fh B0 w W s r n)(o:Step)(ho:o.Fits w)(hk:1<=o.kind/\o.kind<=7):
  eK 20 #[fj W,o.val] w fun e w'=>e=.returned (.bool true)/\fh B0 w' W s r (n+1)/\Below B0 w w':=by
 by_cases c:o.kind<=5
 ·exact PL hn a o ho ⟨hk.1,c⟩
 ·by_cases h6:o.kind=6
  ·obtain⟨kind,a1,a2,a3,S,T,la,lm,lc,es⟩:=o
   simp only at h6;subst h6;exact IV hn a a1 a2 a3 S T la lm lc
  ·have b:o.kind=7:=by omega
   obtain⟨kind,a1,a2,a3,S,T,la,lm,lc,es⟩:=o;simp only at b;subst b;exact PT hn a a1 a2 a3 S T la lm lc
theorem MD(W wb Sb:Nat)(a1 a2 a3:Int)(S T:eu)(la:e5)(lm lc:Nat)(a er:Int)(her:(er==14)=false)(f g:World->Prop)(w d:World)(h:d=w.alloc (.cells (ut 13 a1 a2 a3 S T la lm lc) 57))
  (h1:eK 63 #[fj wb,.string S,ed a2] d fun e w'=>e=.returned (.tuple #[ed a,ed er])/\uh w.heap.size d w'/\f w')
  (h2:∀i,f i->eK 94 #[fj Sb,.string S,ed a2] i fun e w'=>e=.returned (.tuple #[ed a,ed er])/\g w'):
  eK 50 #[fj W,fj wb,fj Sb,.agg (ut 13 a1 a2 a3 S T la lm lc)] w fun e w'=>e=.returned (.bool true)/\g w':=by
 unfold ut at h ⊢;subst h;have k:=fun(b:Bool) (w':World)=>xa W er er b w' her
 have l:=fun(w':World)=>u3 er w';have q:(er==er)=true:=by simp
 have r:(a==a)=true:=by simp
 have m:Hid _:=h1;have n:Hid _:=h2;clear h1 h2;go_enter func50,ntmps50;go_wp2_with fail;refine g7 m.out ?_;rintro e j ⟨rfl,c,o⟩;have s:j.cell? (eb w.heap.size 4)=some (.string S):=(c.2 4).trans (by simp);have t:j.cell? (eb w.heap.size 2)=some (ed a2):=(c.2 2).trans (by simp);have u:=c.1;clear c;go_wp2_with(first
  |(go_at_call 22;refine g7 (l _) ?_;rintro _ _ ⟨rfl,rfl⟩)
  |(go_at_call 53;refine g7 (k _ _) ?_;rintro _ _ ⟨rfl,rfl⟩)
  |(go_at_call 94;refine g7 (n.out _ o) ?_;rintro e w3 ⟨rfl,p⟩))
 go_ret;exact⟨rfl,p⟩
theorem IZ(W wb Sb:Nat)(a1 a2 a3:Int)(S T:eu)(la:e5)(lm lc:Nat)(a:eu)(er:Int)(her:(er==14)=false)(f g:World->Prop)(w d:World)(h:d=w.alloc (.cells (ut 14 a1 a2 a3 S T la lm lc) 57))
  (h1:eK 66 #[fj wb,ed a2,ed a3] d fun e w'=>e=.returned (.tuple #[.string a,ed er])/\uh w.heap.size d w'/\f w')
  (h2:∀i,f i->eK 98 #[fj Sb,ed a2,ed a3] i fun e w'=>e=.returned (.tuple #[.string a,ed er])/\g w'):
  eK 51 #[fj W,fj wb,fj Sb,.agg (ut 14 a1 a2 a3 S T la lm lc)] w fun e w'=>e=.returned (.bool true)/\g w':=by
 unfold ut at h ⊢;subst h;have k:=fun(b:Bool) (w':World)=>xa W er er b w' her
 have l:=fun(w':World)=>u3 er w';have q:(er==er)=true:=by simp
 have r:(a.toList==a.toList)=true:=by simp
 have m:Hid _:=h1;have n:Hid _:=h2;clear h1 h2;go_enter func51,ntmps51;go_wp2_with fail;refine g7 m.out ?_;rintro e j ⟨rfl,c,o⟩;have s:j.cell? (eb w.heap.size 3)=some (ed a3):=(c.2 3).trans (by simp);have t:j.cell? (eb w.heap.size 2)=some (ed a2):=(c.2 2).trans (by simp);have u:=c.1;clear c;go_wp2_with(first
  |(go_at_call 22;refine g7 (l _) ?_;rintro _ _ ⟨rfl,rfl⟩)
  |(go_at_call 53;refine g7 (k _ _) ?_;rintro _ _ ⟨rfl,rfl⟩)
  |(go_at_call 98;refine g7 (n.out _ o) ?_;rintro e w3 ⟨rfl,p⟩))
 go_ret;exact⟨rfl,p⟩
theorem FQ(W wb Sb:Nat)(a1 a2 a3:Int)(S T:eu)(la:e5)(lm lc:Nat)(er:Int)(her:(er==14)=false)(c d:World->Prop)(w b:World)(f:b=w.alloc (.cells (ut 15 a1 a2 a3 S T la lm lc) 57))
  (h1:eK 64 #[fj wb,ed a2,.string S] b fun e w'=>e=.returned (ed er)/\uh w.heap.size b w'/\c w')
  (h2:∀g,c g->eK 99 #[fj Sb,ed a2,.string S] g fun e w'=>e=.returned (ed er)/\d w'):
  eK 51 #[fj W,fj wb,fj Sb,.agg (ut 15 a1 a2 a3 S T la lm lc)] w fun e w'=>e=.returned (.bool true)/\d w':=by
 unfold ut at f ⊢;subst f;have i:=fun(w':World)=>xa W er er true w' her
 have j:=fun(w':World)=>u3 er w';have o:(er==er)=true:=by simp
 have k:Hid _:=h1;have l:Hid _:=h2;clear h1 h2;go_enter func51,ntmps51;go_wp2_with fail;refine g7 k.out ?_;rintro e h ⟨rfl,a,m⟩;have p:h.cell? (eb w.heap.size 4)=some (.string S):=(a.2 4).trans (by simp);have q:h.cell? (eb w.heap.size 2)=some (ed a2):=(a.2 2).trans (by simp);have r:=a.1;clear a;go_wp2_with(first
  |(go_at_call 22;refine g7 (j _) ?_;rintro _ _ ⟨rfl,rfl⟩)
  |(go_at_call 53;refine g7 (i _) ?_;rintro _ _ ⟨rfl,rfl⟩)
  |(go_at_call 99;refine g7 (l.out _ m) ?_;rintro e w3 ⟨rfl,n⟩))
 go_ret;exact⟨rfl,n⟩
theorem C4(W wb Sb:Nat)(a1 a2 a3:Int)(S T:eu)(la:e5)(lm lc:Nat)(er:Int)(her:(er==14)=false)(c d:World->Prop)(w b:World)(f:b=w.alloc (.cells (ut 17 a1 a2 a3 S T la lm lc) 57))
  (h1:eK 100 #[fj wb,ed a2,ed a3] b fun e w'=>e=.returned (ed er)/\uh w.heap.size b w'/\c w')
  (h2:∀g,c g->eK 101 #[fj Sb,ed a2,ed a3] g fun e w'=>e=.returned (ed er)/\d w'):
  eK 51 #[fj W,fj wb,fj Sb,.agg (ut 17 a1 a2 a3 S T la lm lc)] w fun e w'=>e=.returned (.bool true)/\d w':=by
 unfold ut at f ⊢;subst f;have i:=fun(w':World)=>xa W er er true w' her
 have j:=fun(w':World)=>u3 er w';have o:(er==er)=true:=by simp
 have k:Hid _:=h1;have l:Hid _:=h2;clear h1 h2;go_enter func51,ntmps51;go_wp2_with fail;refine g7 k.out ?_;rintro e h ⟨rfl,a,m⟩;have p:h.cell? (eb w.heap.size 3)=some (ed a3):=(a.2 3).trans (by simp);have q:h.cell? (eb w.heap.size 2)=some (ed a2):=(a.2 2).trans (by simp);have r:=a.1;clear a;go_wp2_with(first
  |(go_at_call 22;refine g7 (j _) ?_;rintro _ _ ⟨rfl,rfl⟩)
  |(go_at_call 53;refine g7 (i _) ?_;rintro _ _ ⟨rfl,rfl⟩)
  |(go_at_call 101;refine g7 (l.out _ m) ?_;rintro e w3 ⟨rfl,n⟩))
 go_ret;exact⟨rfl,n⟩
theorem I1(W wb Sb:Nat)(a1 a2 a3:Int)(S T:eu)(la:e5)(lm lc:Nat)(er:Int)(c d:World->Prop)(w b:World)(f:b=w.alloc (.cells (ut 16 a1 a2 a3 S T la lm lc) 57))
  (h1:eK 102 #[fj wb,ed a2,ed a3] b fun e w'=>e=.returned (ed er)/\uh w.heap.size b w'/\c w')
  (h2:∀g,c g->eK 103 #[fj Sb,ed a2,ed a3] g fun e w'=>e=.returned (ed er)/\d w'):
  eK 51 #[fj W,fj wb,fj Sb,.agg (ut 16 a1 a2 a3 S T la lm lc)] w fun e w'=>e=.returned (.bool true)/\d w':=by
 unfold ut at f ⊢;subst f;have i:=fun(w':World)=>u3 er w'
 have n:(er==er)=true:=by simp
 have j:Hid _:=h1;have k:Hid _:=h2;clear h1 h2;go_enter func51,ntmps51;go_wp2_with fail;refine g7 j.out ?_;rintro e h ⟨rfl,a,l⟩;have o:h.cell? (eb w.heap.size 3)=some (ed a3):=(a.2 3).trans (by simp);have p:h.cell? (eb w.heap.size 2)=some (ed a2):=(a.2 2).trans (by simp);have q:=a.1;clear a;go_wp2_with(first
  |(go_at_call 22;refine g7 (i _) ?_;rintro _ _ ⟨rfl,rfl⟩)
  |(go_at_call 103;refine g7 (k.out _ l) ?_;rintro e w3 ⟨rfl,m⟩))
 go_ret;exact⟨rfl,m⟩
theorem FU(W wb Sb:Nat)(a1 a2 a3:Int)(S T:eu)(la:e5)(lm lc:Nat)(er:Int)(c d:World->Prop)(w a:World)(f:a=w.alloc (.cells (ut 18 a1 a2 a3 S T la lm lc) 57))
  (h1:eK 65 #[fj wb,ed a2] a fun e w'=>e=.returned (ed er)/\uh w.heap.size a w'/\c w')
  (h2:∀g,c g->eK 104 #[fj Sb,ed a2] g fun e w'=>e=.returned (ed er)/\d w'):
  eK 51 #[fj W,fj wb,fj Sb,.agg (ut 18 a1 a2 a3 S T la lm lc)] w fun e w'=>e=.returned (.bool true)/\d w':=by
 unfold ut at f ⊢;subst f;have h:=fun(w':World)=>u3 er w'
 have n:(er==er)=true:=by simp
 have i:Hid _:=h1;have j:Hid _:=h2;clear h1 h2;go_enter func51,ntmps51;go_wp2_with fail;refine g7 i.out ?_;rintro e k ⟨rfl,b,l⟩;have o:k.cell? (eb w.heap.size 2)=some (ed a2):=(b.2 2).trans (by simp);have p:=b.1;clear b;go_wp2_with(first
  |(go_at_call 22;refine g7 (h _) ?_;rintro _ _ ⟨rfl,rfl⟩)
  |(go_at_call 104;refine g7 (j.out _ l) ?_;rintro e w3 ⟨rfl,m⟩))
 go_ret;exact⟨rfl,m⟩
theorem FV:∀(hs:List pg) (k f:Nat) (v:Value) (x:pg) (h:k<hs.length) (hf:f<4),gZ x=(gZ hs[k]).set f v->m9 (hs.set k x)=(m9 hs).set (4*k+f) v
 |y::r,0,f,v,x,_,hf,e=>by
  show gZ x++m9 r=(gZ y++m9 r).set (4*0+f) v
  rw[List.set_append_left _ _ (by show 4*0+f<4;omega),e]
  simp
 |y::r,k+1,f,v,x,h,hf,e=>by
  show gZ y++m9 (r.set k x)=(gZ y++m9 r).set (4*(k+1)+f) v
  rw[Gg _ _ (by show 4<=4*(k+1)+f;omega),show 4*(k+1)+f-(gZ y).length=4*k+f by show 4*(k+1)+f-4=_;omega,FV r k f v x (by simpa using h) hf e]
section
variable {F:Nat->Prop}{w:World}{S:Nat}{na da:e5}{nc dc:Nat}{nodes:List eD}{data:eB}{hs:List pg}{more:fE}
theorem eV.Ar(h:eV F w S na da nc dc nodes data (m9 hs++more)){k f:Nat}{v:Value}{x:pg}(hk:k<hs.length)(hf:f<4)(e:gZ x=(gZ hs[k]).set f v):
  eV F (w.setCell (eb S (2+k*4+f)) v) S na da nc dc nodes data (m9 (hs.set k x)++more)/\en F w (w.setCell (eb S (2+k*4+f)) v):=by
 have hl:4*k+f<(m9 hs).length:=by rw[JT];omega
 refine⟨⟨h.fS,?_,?_,?_,h.fn,h.fd⟩,⟨rfl,rfl,rfl,by simp,fun q hq hn=>ij _ _ _ _ (fun e=>hn (by rw[e];exact h.fS))⟩⟩
 ·rw[FV hs k f v x hk hf e,<-List.set_append_left _ _ hl,show 2+k*4+f=(4*k+f)+2 by omega]
  simp[World.setCell,xE,h.hS]
 ·exact eh h.iP (fun g hg=>ij _ _ _ _ (fun e=>eI h.iP h.hS (by decide) (by rw[hg,e])))
 ·exact eh h.fP (fun g hg=>ij _ _ _ _ (fun e=>eI h.fP h.hS (by decide) (by rw[hg,e])))
def jR (hs:List pg)(n at_:Int):List pg×Int:=
 if ni hs n=false then(hs,3)else if at_<0\/256<at_ then(hs,2) else(match hs[n.toNat]? with|some h=>(hs.set n.toNat (h.1,h.2.1,h.2.2.1,at_),0)|none=>(hs,0))
theorem ME(h:eV F w S na da nc dc nodes data (m9 hs++more))(h8:hs.length=8)(n at_:Int):
  eK 103 #[fj S,ed n,ed at_] w fun e w'=>e=.returned (ed (jR hs n at_).2)/\eV F w' S na da nc dc nodes data (m9 (jR hs n at_).1++more)/\en F w w':=by
 have d:=h.lt;have b:Hid _:=z2 h h8 n;cases hu:ni hs n with
 |false=>
  have a:jR hs n at_=(hs,3):=by unfold jR;rw[fY hu]
  rw[a];rw[hu]at b;go_enter func103,ntmps103;go_wp2_with(go_at_call 163;refine g7 b.out ?_;rintro _ _ ⟨rfl,rfl⟩);go_ret;exact⟨rfl,h,en.refl _⟩
 |true=>
  rw[hu]at b;have hn:0<=n/\n<8:=by
   by_cases h':0<=n/\n<8
   ·exact h'
   ·rw[uK h']at hu;cases hu
  obtain⟨k,rfl⟩:∃k:Nat,n=(k:Int):=⟨n.toNat,by omega⟩;have hk:k<hs.length:=by omega
  by_cases h0:at_<0
  ·have a:jR hs (k:Int) at_=(hs,2):=by unfold jR;rw[eJ (by rw[hu];decide),fY (.inl h0)]
   rw[a];go_enter func103,ntmps103;go_wp2_with(go_at_call 163;refine g7 b.out ?_;rintro _ _ ⟨rfl,rfl⟩);go_ret;exact⟨rfl,h,en.refl _⟩
  ·have t0:decide (at_<0)=false:=m6 h0
   by_cases h2:256<at_
   ·have a:jR hs (k:Int) at_=(hs,2):=by unfold jR;rw[eJ (by rw[hu];decide),fY (.inr h2)]
    rw[a];go_enter func103,ntmps103;go_wp2_with(go_at_call 163;refine g7 b.out ?_;rintro _ _ ⟨rfl,rfl⟩);go_ret;exact⟨rfl,h,en.refl _⟩
   ·have t2:decide (256<at_)=false:=m6 h2
    have a:jR hs (k:Int) at_=(hs.set k (hs[k].1,hs[k].2.1,hs[k].2.2.1,at_),0):=by
     unfold jR;rw[eJ (by rw[hu];decide),eJ (by omega),lV,gJ hk]
    rw[a];have g:w.frozen? (eb S (2+k*4+3))=false:=by simp[World.frozen?,h.hS]
    have c3:w.cell? (eb S (2+k*4+3))=some (.int .i64 hs[k].2.2.2):=h.tab (f:=3) hk (by omega);have c:Hid _:=h.Ar (f:=3) (v:=.int .i64 at_) (x:=(hs[k].1,hs[k].2.1,hs[k].2.2.1,at_)) hk (by omega) rfl;have i:k<8:=by omega
    have t3:(k:Int)<8:=(by omega);go_enter func103,ntmps103;go_wp2_with(go_at_call 163;refine g7 b.out ?_;rintro _ _ ⟨rfl,rfl⟩);go_ret;exact⟨rfl,c.out⟩
end
def iv (fl f:Int):Bool:=(fl / f).tmod 2==1
theorem gV(fl f:Int)(w:World)(h:0<=fl/\fl<=63)(hf:1<=f/\f<=32):eK 159 #[ed fl,ed f] w (tz (.bool (iv fl f)) w):=by
 have a:(f==0)=false:=by simp;omega
 go_enter func159,ntmps159;go_wp2;go_ret;exact⟨rfl,rfl⟩
section
variable {F:Nat->Prop}{w:World}{S:Nat}{na da:e5}{nc dc:Nat}{nodes:List eD}{data:eB}{hs:List pg}{more:fE}
theorem eV.Uh(h:eV F w S na da nc dc nodes data (m9 hs++more))(hk:k<hs.length):
  eV F ((((w.setCell (eb S (2+k*4)) (.bool false)).setCell (eb S (2+k*4+1)) (ed 0)).setCell (eb S (2+k*4+2)) (ed 0)).setCell (eb S (2+k*4+3)) (ed 0)) S na da nc dc nodes data (m9 (hs.set k (false,0,0,0))++more)/\
   en F w ((((w.setCell (eb S (2+k*4)) (.bool false)).setCell (eb S (2+k*4+1)) (ed 0)).setCell (eb S (2+k*4+2)) (ed 0)).setCell (eb S (2+k*4+3)) (ed 0)):=by
 obtain⟨h1,b⟩:=h.Ar (f:=0) (v:=.bool false) (x:=(false,hs[k].2.1,hs[k].2.2.1,hs[k].2.2.2)) hk (by omega) rfl;obtain⟨h2,c⟩:=h1.Ar (k:=k) (f:=1) (v:=.int .i64 0) (x:=(false,0,hs[k].2.2.1,hs[k].2.2.2)) (by simpa using hk) (by omega) (by simp[gZ]);rw[Kn]at h2;obtain⟨h3,d⟩:=h2.Ar (k:=k) (f:=2) (v:=.int .i64 0) (x:=(false,0,0,hs[k].2.2.2)) (by simpa using hk) (by omega) (by simp[gZ]);rw[Kn]at h3;obtain⟨a,k4⟩:=h3.Ar (k:=k) (f:=3) (v:=.int .i64 0) (x:=(false,0,0,0)) (by simpa using hk) (by omega) (by simp[gZ]);rw[Kn]at a;refine⟨a,⟨rfl,rfl,rfl,by simp,fun q hq hn=>?_⟩⟩;have hne:∀(o:Nat) (v:Value) (w:World),(w.setCell (eb S o) v).heap[q]?=w.heap[q]?:=fun o v w=>ij _ _ _ _ (fun e=>hn (by rw[e];exact h.fS));rw[hne,hne,hne,hne]
def kY (hs:List pg)(n:Int):List pg×Int:=
 if ni hs n=false then(hs,3) else(hs.set n.toNat (false,0,0,0),0)
theorem I2(h:eV F w S na da nc dc nodes data (m9 hs++more))(h8:hs.length=8)(n:Int):
  eK 104 #[fj S,ed n] w fun e w'=>e=.returned (ed (kY hs n).2)/\eV F w' S na da nc dc nodes data (m9 (kY hs n).1++more)/\en F w w':=by
 have g:=h.lt;have b:Hid _:=z2 h h8 n;cases hu:ni hs n with
 |false=>
  have c:kY hs n=(hs,3):=by unfold kY;rw[fY hu]
  rw[c];rw[hu]at b;go_enter func104,ntmps104;go_wp2_with(go_at_call 163;refine g7 b.out ?_;rintro _ _ ⟨rfl,rfl⟩);go_ret;exact⟨rfl,h,en.refl _⟩
 |true=>
  rw[hu]at b;have hn:0<=n/\n<8:=by
   by_cases h':0<=n/\n<8
   ·exact h'
   ·rw[uK h']at hu;cases hu
  obtain⟨k,rfl⟩:∃k:Nat,n=(k:Int):=⟨n.toNat,by omega⟩;have hk:k<hs.length:=by omega
  have c:kY hs (k:Int)=(hs.set k (false,0,0,0),0):=by
   unfold kY;rw[eJ (by rw[hu];decide),lV]
  rw[c];have a:∀o,w.frozen? (eb S o)=false:=fun o=>by simp[World.frozen?,h.hS]
  have f0:=a (2+k*4);have f1:=a (2+k*4+1);have f2:=a (2+k*4+2);have f3:=a (2+k*4+3);have c0:w.cell? (eb S (2+k*4))=some (.bool hs[k].1):=h.tab (f:=0) hk (by omega);have c1:w.cell? (eb S (2+k*4+1))=some (.int .i64 hs[k].2.1):=h.tab (f:=1) hk (by omega);have c2:w.cell? (eb S (2+k*4+2))=some (.int .i64 hs[k].2.2.1):=h.tab (f:=2) hk (by omega);have c3:w.cell? (eb S (2+k*4+3))=some (.int .i64 hs[k].2.2.2):=h.tab (f:=3) hk (by omega);have d:Hid _:=h;have i:k<8:=by omega
  have t3:(k:Int)<8:=by omega
  clear a;go_enter func104,ntmps104;go_wp2_with(go_at_call 163;refine g7 b.out ?_;rintro _ _ ⟨rfl,rfl⟩);go_ret;exact⟨rfl,d.out.Uh hk⟩
end
end Go.Proofs.YtlgidcmmgohagaaGreat
