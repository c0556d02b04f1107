/- A part of the proof. -/
import Derived.Test.YtlgidcmmgohagaaGreatAllM07
set_option linter.all false
namespace Go.Proofs.YtlgidcmmgohagaaGreat
open Go.RowKit Go.Sort Go.Shelf Go.Proofs.Tryz
open Go.Value renaming slice->fy,string->fA,pointer->fB,tuple->fC,agg->fD,bool->fE
open Go.Ending renaming returned->fF
open Option renaming some->fh,none->fj
open Bool renaming true->fm,false->fo
open Go renaming World->fq,Value->fu
open List renaming length->fv,reverse->fx
open Go.RowKit renaming Hid->fe
set_option maxRecDepth 100000
set_option maxHeartbeats 0
def XF (a:Nat)(c J:fq):Prop:=a<J.heap.size/\∀b,J.cell? ⟨a,b,fj⟩=c.cell? ⟨a,b,fj⟩
def pO (k a b c:Int)(d e:fO)(f:iD)(g h:Nat):Array fu:=#[.int .i64 k,.int .i64 a,.int .i64 b,.int .i64 c,fA d,fA e,fy f g h]
def vP (a:Nat)(c:fq->Prop)(b:fq):Prop:=a<b.heap.size/\b.cell? ⟨a,7,fj⟩=fh (fE fm)/\b.frozen? ⟨a,7,fj⟩=fo/\c (b.setCell ⟨a,7,fj⟩<|fE fo)
def qa{a}{b}{c}(d:vP a b c)(e:Int):
  ik 53 #[fB<|fh ⟨a,0,.none⟩,fY 14,fY e,fE fm] c λf J=>f=qr #[fE fm,fE fm]/\b J:=by
 obtain⟨h,i,j,g⟩:=d;go_enter func53,ntmps53;go_wp2_with(go_at_call 22;refine Ps (mj _ _) ?_;rintro _ _ ⟨rfl,rfl⟩);go_ret2;exact⟨fX,g⟩
def LF (b:Nat)(c:Int)(x:fO)(a:Int):fu:=match b with
 |0=>.int .i64 a
 |1=>fC #[.int .i64 c,.int .i64 a]
 |_=>fC #[fA x,.int .i64 a]
def pts (a b d:Int)(c e:fO)(x:Nat×Nat×Nat×gX×Nat×Bool):Prop:=
 (a,x)=(10,50,31,95,[fA c],0,fm)\/(a,x)=(11,50,32,96,[fA c],0,fm)\/(a,x)=(12,50,33,97,[fA c,fA e],0,fm)\/
 (a,x)=(13,50,63,94,[fA c,.int .i64 b],1,fm)\/(a,x)=(14,51,66,98,[.int .i64 b,.int .i64 d],2,fm)\/(a,x)=(15,51,64,99,[.int .i64 b,fA c],0,fm)\/
 (a,x)=(16,51,102,103,[.int .i64 b,.int .i64 d],0,fo)\/(a,x)=(17,51,100,101,[.int .i64 b,.int .i64 d],0,fm)\/(a,x)=(18,51,65,104,[.int .i64 b],0,fo)
def XG(p y A)(q B g h:Int)(i j)(C)(D E){F G H k:Nat}{l:gX}{z:Bool}(O:pts q g h i j (F,G,H,l,k,z))(m b:Int)(x)(I:(b==14)=fo)(r K s:fq->Prop)(c:fq)
  (L:∀t,t=c.k (pO q B g h i j C D E) 57->Calls prog G ((ii y)::l).toArray t λe J=>XF c.heap.size t J/\((e=fF (LF k m x b)/\K J)\/(z=fm/\e=fF (LF k 0 kq 14)/\r J)))
  (M:∀f,r f->vP p s f)
  (u:∀f,K f->Calls prog H ((ii A)::l).toArray f λe J=>e=fF (LF k m x b)/\s J):
  Calls prog F #[ii p,ii y,ii A,fD<|pO q B g h i j C D E] c λe J=>e=fF (fE fm)/\s J:=by
 have n:=L _ fX;clear L;unfold pO at n |-;have P:=λ(Q:Bool)(J:fq)=>qR p b b Q J I;have N:=λ(J:fq)(a:r J)=>qa (M J a) 14;have v:=λ(e:Int)(J:fq)=>mj e J;have V:(b==b)=fm:=by simp
 have W:(m==m)=fm:=by simp
 have X:(x.toList==x.toList)=fm:=by simp
 clear M I;rcases O with a|a|a|a|a|a|a|a|a
 all_goals
  cases a;simp only[LF]at n u
  change fe _ at n u N
  first
   |go_enter func50,ntmps50
   |go_enter func51,ntmps51
  go_wp2_with fail;refine Ps n ?_;rintro e o ⟨d,⟨rfl,R⟩|⟨S,rfl,T⟩⟩
  all_goals
   have Y:o.c c.heap.size 2=fh (fY g):=(d.2 2).trans (by simp);have Z:o.c c.heap.size 3=fh (fY h):=(d.2 3).trans (by simp);have aa:o.c c.heap.size 4=fh (hZ i):=(d.2 4).trans (by simp);have ab:o.c c.heap.size 5=fh (hZ j):=(d.2 5).trans (by simp);have ac:=d.1;clear d
  ·go_wp2_with(first
    |(go_at_call 22;apply tB<|v _ _)
    |(go_at_call 53;apply tB<|P _ _))
   refine Hk (u _ R) λU w=>?_;go_wp2_with(go_at_call 22;apply tB<|v _ _);go_ret;exact⟨fX,w⟩
  first
   |(exfalso;cases S;done)
   |(go_wp2_with(first
     |(go_at_call 22;apply tB<|v _ _)
     |(go_at_call 53;refine Hk (N _ T) λU w=>?_))
     go_ret;exact⟨fX,w⟩)
def XH(m t u)(A B C:Int)(h D)(E)(F G)(k v a:Int)(H:(a==14)=fo)(n o q:fq->Prop)(d)
  (w:∀i,ju d i->d.heap.size<i.heap.size->ik 67 #[ii t,hZ h] i λe J=>XF d.heap.size i J/\((e=qr #[fD #[fY k,fY v],fY a]/\o J)\/(e=qr #[fD #[fY 0,fY 0],fY 14]/\n J)))
  (x:∀b,o b\/n b->∀c,ju b c->ik 90 #[ii u,hZ h] c (vd (fC #[fD #[fY k,fY v],fY a]) c))
  (r:∀b c,ju b c->(o b->q c)/\(n b->vP m q c)):
  ik 50 #[ii m,ii t,ii u,fD<|pO 8 A B C h D E F G] d λe J=>e=fF (fE fm)/\q J:=by
 unfold pO;have I:=λ(K:Bool)(J:fq)=>qR m a a K J H
 have N:(a==a)=fm:=by simp
 change fe _ at w x r
 go_enter func50,ntmps50;go_wp2_with fail;refine Ps (w _ ((mi _ _).alloc (lw _) _)<|by simp) ?_;rintro e j ⟨s,⟨rfl,f⟩|⟨rfl,f⟩⟩
 all_goals
  have O:j.c d.heap.size 4=fh (hZ h):=(s.2 4).trans (by simp);have P:=s.1;clear s;go_wp2_with fail;refine Hk (x _ (by first|exact .inl f|exact .inr f) _<|(mi _ _).alloc (lw _) _) λy g=>?_;have Q:=(g.cell (p:=(ie j.heap.size 0))<|by simp).trans (by simp;rfl);have R:=(g.cell (p:=(ie j.heap.size 1))<|by simp).trans (by simp;rfl);have S:j.heap.size<y.heap.size:=by have:=g.size;simp at this;omega
  have l:=((mi _ _).alloc (lw _) _).trans<|g.mono (by simp);clear g
 ·go_wp2_with(go_at_call 53;apply tB<|I _ _)
  all_goals
   go_ret;exact⟨fX,(r _ _<|l.alloc l.size _).1 f⟩
 have L:fe _:=λz=>qa ((r _ (y.alloc z)<|l.alloc l.size z).2 f) a;go_wp2_with(go_at_call 53;refine Hk (L _) λT M=>?_);go_ret;exact⟨fX,M⟩
def Oy{b:Nat}(c:b=92\/b=55)(f:iD)(m d:Nat)(h:m<=1000000000)(a:fq):Calls prog b #[fy fj 0 0,fy f m d] a λe J=>∃x,e=fF (fE x)/\ju a J:=by
 by_cases g:m=0
 ·subst g
  rcases c with rfl|rfl
  ·go_enter func92,ntmps92
   go_wp2
   go_loopw [5] (λi wr=>i=.int .i64 0/\wr=a) (λ_ _=>0)
   case atStart=>exact⟨rfl,rfl⟩
   case round=>
    obtain⟨rfl,rfl⟩:=hrel;go_wp2;go_ret;exact⟨_,fX,mi _ _⟩
  go_enter func55,ntmps55;go_wp2
  go_loopw [5] (λi wr=>i=.int .i64 0/\wr=a) (λ_ _=>0)
  case atStart=>exact⟨rfl,rfl⟩
  case round=>
   obtain⟨rfl,rfl⟩:=hrel;go_wp2;go_ret;exact⟨_,fX,mi _ _⟩
 have j:((0:Int) != (m:Int))=fm:=by simp;omega
 rcases c with rfl|rfl
 all_goals
  first
   |go_enter func92,ntmps92
   |go_enter func55,ntmps55
  go_wp2;go_ret;exact⟨_,fX,mi _ _⟩
def XI(h E F)(V W X:Int)(q Y)(Z)(aa ab)(g:Int)(ac:(g==14)=fo)(a:fQ)(t:fv a<=1000000000)(u:fq->Prop)(v:iD->Nat->fq->Prop)(w:fq->Prop)(k)
  (G:∀r,ju k r->k.heap.size<r.heap.size->ik 68 #[ii E,hZ q] r λe J=>XF k.heap.size r J/\((∃b c,e=qr #[fy b (fv a) c,fY g]/\J.ownsRow 0 9 1 (fy b (fv a) c) (fv a) (gN a)/\v b c J)\/(e=qr #[fy fj 0 0,fY 14]/\u J)))
  (y:∀f,(∃b c,v b c f)\/u f->ik 91 #[ii F,hZ q] f λe J=>∃b c,e=qr #[fy b (fv a) c,fY g]/\J.ownsRow 0 9 1 (fy b (fv a) c) (fv a) (gN a)/\ju f J)
  (I:∀b c f,v b c f->∀l,ju f l->ik 93 #[fB<|fh (ie h 8),fy b (fv a) c] l λe J=>e=qr #[]/\w J)
  (K:∀f,u f->∀l,ju f l->vP h (λm=>∀i,ju m i->ik 93 #[fB<|fh (ie h 8),fy fj 0 0] i λe J=>e=qr #[]/\w J) l):
  ik 50 #[ii h,ii E,ii F,fD<|pO 9 V W X q Y Z aa ab] k λe J=>e=fF (fE fm)/\w J:=by
 unfold pO;have ad:=λ(z:Bool)(J:fq)=>qR h g g z J ac
 have au:(g==g)=fm:=by simp
 have ae:fe _:=I;have af:fe _:=K;have L:=λ(b z:iD)(c d:Nat)(ag:fq)ah ai=>Io b z c d a a ag t t ah ai;obtain⟨n,M⟩:=oX<|fv a;have o:fe (n=fv a):=M
 change fe _ at G y L
 clear I K M;go_enter func50,ntmps50;go_wp2_with fail;apply Ps<|G _ ((mi _ _).alloc (lw _) _) (by simp);rintro e m ⟨N,⟨b,c,rfl,O,p⟩|⟨rfl,p⟩⟩
 all_goals
  have av:m.c k.heap.size 4=fh (hZ q):=(N.2 4).trans (by simp);clear N
 ·have P:fe (m.ownsRow 0 9 1 (fy b (fv a) c) (fv a)<|gN a):=O
  clear O;go_wp2_with fail;apply Ps<|y _ (.inl ⟨b,c,p⟩);rintro e i ⟨H,A,rfl,s,j⟩;have Q:i.ownsRow 0 9 1 (fy b (fv a) c) (fv a) (gN a):=gg P λaj ak=>j.block aj<|gc P ak;have B:=L b H c A i Q s;simp only[WJ]at B;have R:fe _:=B;have S:fe (ju m i):=j;clear Q B s j;rw[<-o.o];rw[<-o.o]at R;go_wp2_with(first
   |(go_at_call 53;apply tB<|ad _ _)
   |(go_at_call 92;refine Hk R.o λT al=>?_;have C:=ae _ _ _ p T<|S.trans (al.mono S.size);rw[<-o.o]at C;have am:fe _:=C;clear C)
   |(go_at_call 93;refine Hk am.o λan D=>?_))
  all_goals
   go_ret;exact⟨fX,D⟩
 go_wp2_with fail;apply Ps<|y _ (.inr p);rintro e i ⟨H,A,rfl,s,j⟩;have ao:fe _:=qa (af _ p _ j) g;rw[<-o.o];have ap:=λh=>Oy (.inl fX) H n A (by rw[o.o];exact t) h
 clear s j;go_wp2_with(first
  |(go_at_call 53;refine Hk ao λT U=>?_;have aq:fe _:=U;clear U)
  |(go_at_call 92;refine Ps (ap _) ?_;rintro _ an ⟨x,rfl,ar⟩)
  |(go_at_call 93;refine Hk (aq _ ar) λaw D=>?_))
 all_goals
  go_ret;exact⟨fX,D⟩
def Oz (n:Nat)(a:fO):fO:=if b:n=0 then a else Oz (n / 10) (a++⟨#[UInt8.ofNat<|65+n % 10]⟩)
termination_by n
decreasing_by omega
def JE (n:Nat):fO:=Oz n ⟨#[109]⟩
def gid(a:fq)(n:Int):(convert 204 9<|my a.heap.size 0 1 1).run prog (a.k #[.int .u8 n] 5)=.ok (hZ<|strOfNums [n]) (a.k #[.int .u8 n] 5):=
 run_convert_bytes_arg (P:=prog) (a.k #[.int .u8 n] 5) 204 5 (by kernel_rfl) (by kernel_rfl) a.heap.size 0 1 1 [n] fX (λi U=>by
  have:i=0:=by omega
  subst this
  simp) 9 (by kernel_rfl)
def OA(n:Nat)(a:fq)(h:n<=1000000000):
  ik 58 #[fY (n:Int)] a (vd (hZ<|JE n) a):=by
 go_enter func58,ntmps58;go_wp2
 go_loopw [0,3] (λi f wr=>∃(k:Nat) (t:fO),t.size+k<=n+1/\i=.int .i64 (k:Int)/\f=fA t/\fe (Oz k t=JE n)/\fe (ju a wr)) (λi _ _=>(intOf i).toNat)
 case atStart=>exact⟨n,⟨#[109]⟩,by show 1+n<=n+1;omega,fX,fX,fX,mi _ _⟩
 case round=>
  obtain⟨k,t,j,rfl,rfl,c,b⟩:=hrel;by_cases d:k=0
  ·subst d
   go_wp2;go_ret;refine⟨?_,b⟩
   have:=c.o
   rw[Oz]at this;simp at this;rw[<-this];rfl
  have g:(strOfNums [65+(k:Int) % 10]).size=1:=fX;have l:=gid wr<|65+(k:Int) % 10;go_wp2;refine⟨⟨k / 10,_,?_,by go_num,fX,?_,b.alloc b.size _⟩,by simp[intOf];omega⟩;rw[Wl,g];omega;show _=_;rw[<-c.o];conv=>rhs;rw[Oz]
  rw[dif_neg d];have e:strOfNums [65+(k:Int) % 10]=⟨#[UInt8.ofNat<|65+k % 10]⟩:=by
   unfold strOfNums
   have:(65+(k:Int) % 10).toNat=65+k % 10:=by omega
   simp[this]
  rw[e]
def gmt:(prog.info? 131).map (λi=>(i.zero,i.size,i.bytes))=fh (fh<|fy fj 0 0,1,24):=by kernel_rfl
