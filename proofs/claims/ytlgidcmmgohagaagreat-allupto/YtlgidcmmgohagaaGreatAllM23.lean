/- A part of the proof. -/
import Derived.Test.YtlgidcmmgohagaaGreatAllM22
set_option linter.all false
namespace Go.Proofs.YtlgidcmmgohagaaGreat
open Go.RowKit Go.Sort Go.Shelf Go.Proofs.Tryz
open Go.Value renaming slice->fy,string->fA,pointer->fB,tuple->fC,agg->fD,bool->fE
open Go.Ending renaming returned->fF
open Option renaming some->fh,none->fj
open Bool renaming true->fm,false->fo
open Go renaming World->fq,Value->fu
open List renaming length->fv,reverse->fx
open Go.RowKit renaming Hid->fe
set_option maxRecDepth 100000
set_option maxHeartbeats 0
variable {S nm rH H s1 s2 s3 Z xn:fO}{os:Array Obj}{b c fd j k I jW m n:Nat}{xi xk:Int}{P:Nat×Nat->Prop}{got:List Int}{t t':LT}{W' W1 w J w1 wr:fq}{data kr q y:fQ}{ds:List Doc}{fs fs':b6}{g':WG}{es E iC:List fV}{e ty:ni}{b' z:Bool}{v:fu}{fc:ji}{cur:Array fu}{T M tg0:gC}{rest:gX}{L:List iV}{x:Slot}{ws:List Slot}{a A:List Ob}{Y:Kids}{op:Ops}
variable {s i p sv dr ow n0 I B0 W r j n Sb:Nat}{B:WB}{A a O:List Ob}{t:LT}{g:WG}{K:List (Nat×Obj)}{fc:ji}{fl:Nat->Option (Int×fO)}{L:List iV}{E base:List fV}{data N:fQ}{T:gC}{w:fq}{rest:gX}{f:Bool}{R:vo}{got:List Int}{ws:List Slot}{ds:List Doc}{v:fu}
def qY (n:Nat)(H s1 s2 s3 Z nm rH:fO)(k id a b:Int)(W:fq):Prop:=
 n+2<W.heap.size/\W.cell? ⟨n,0,fj⟩=fh (fA H)/\W.cell? ⟨n,1,fj⟩=fh (fA s1)/\W.cell? ⟨n,2,fj⟩=fh (fA s2)/\W.cell? ⟨n,3,fj⟩=fh (fA s3)/\W.cell? ⟨n,4,fj⟩=fh (fA Z)/\
 W.cell? ⟨n+1,0,fj⟩=fh (fA nm)/\W.cell? ⟨n+1,1,fj⟩=fh (.int .i64 k)/\W.cell? ⟨n+1,2,fj⟩=fh (.int .i64 id)/\
 W.cell? ⟨n+2,0,fj⟩=fh (fA rH)/\W.cell? ⟨n+2,1,fj⟩=fh (.int .i64 a)/\W.cell? ⟨n+2,2,fj⟩=fh (.int .i64 b)
theorem qY.keep{k id b c:Int}{W W':fq}(d:qY n H s1 s2 s3 Z nm rH k id b c W)(f:W.heap.size<=W'.heap.size)(e:∀j,j<=2->∀a,W'.cell? (ie (n+j) a)=W.cell? (ie (n+j) a)):qY n H s1 s2 s3 Z nm rH k id b c W':=by
 have g:∀a,W'.cell? (ie n a)=W.cell? (ie n a):=λa=>e 0 (by omega) a;unfold qY at d |-
 grind
abbrev UDP:=fO×fO×fO×fO×fO
def Qn (x:UDP):fu:=fD #[fA x.1,fA x.2.1,fA x.2.2.1,fA x.2.2.2.1,fA x.2.2.2.2]
def hos (v:fu)(b:List fV)(j:Nat)(W:fq):Prop:=∀x,b[j]?=fh x->∃a c,v=fy (fh ⟨a,0,fj⟩) (fv b) c/\a<W.heap.size/\W.cell? ⟨a,j*3,fj⟩=fh (fA x.1)/\W.cell? ⟨a,j*3+1,fj⟩=fh (.int .i64 x.2.1)/\W.cell? ⟨a,j*3+2,fj⟩=fh (.int .i64 x.2.2)
def Mr (v:fu)(n:Nat):Prop:=∃a c,v=fy a n c
theorem uV.aa4{n sv a dr ow:Nat}{k id b c:Int}{W}(d:qY n H s1 s2 s3 Z nm rH k id b c W)(e:W.c sv 0=fh (ii a))(f:W.c sv 1=fh (ii dr))(g:W.c sv 2=fh (.map<|fh ow)):uV n sv a dr ow H s1 s2 s3 Z nm rH k id b c W:=by
 obtain⟨_,h,i,j,l,m,o,p,q,d0,d1,d2⟩:=d;exact⟨e,f,g,h,i,j,l,m,o,p,q,d1,d2⟩
def iN (n m:Nat)(H s1 s2 s3 Z xn:fO)(xk xi:Int)(W:fq):Prop:=
 W.cell? ⟨n,0,fj⟩=fh (fA H)/\W.cell? ⟨n,1,fj⟩=fh (fA s1)/\W.cell? ⟨n,2,fj⟩=fh (fA s2)/\W.cell? ⟨n,3,fj⟩=fh (fA s3)/\W.cell? ⟨n,4,fj⟩=fh (fA Z)/\W.cell? ⟨m,0,fj⟩=fh (fA xn)/\W.cell? ⟨m,1,fj⟩=fh (.int .i64 xk)/\W.cell? ⟨m,2,fj⟩=fh (.int .i64 xi)
def iN.keep{W W':fq}(b:iN n m H s1 s2 s3 Z xn xk xi W)(c:∀a,W'.c n a=W.c n a)(d:∀a,W'.c m a=W.c m a):iN n m H s1 s2 s3 Z xn xk xi W':=by
 unfold iN at b |-;simp only[c,d];exact b
def iN.at_{W wr:fq}(b:W.c n 0=wr.c n 0)(c:W.c n 1=wr.c n 1)(d:W.c n 2=wr.c n 2)(e:W.c n 3=wr.c n 3)(f:W.c n 4=wr.c n 4)(a:W.heap[m]?=fh (.cells #[hZ xn,fY xk,fY xi] ty (0,0)))(g:wr.c n 0=fh (hZ H))(h:wr.c n 1=fh (hZ s1))(i:wr.c n 2=fh (hZ s2))(j:wr.c n 3=fh (hZ s3))(k:wr.c n 4=fh (hZ Z)):iN n m H s1 s2 s3 Z xn xk xi W:=
 ⟨b.trans g,c.trans h,d.trans i,e.trans j,f.trans k,lf a 0,lf a 1,lf a 2⟩
theorem iN.new(a:n<wr.heap.size)(c:wr.c n 0=fh (hZ H))(d:wr.c n 1=fh (hZ s1))(e:wr.c n 2=fh (hZ s2))(f:wr.c n 3=fh (hZ s3))(g:wr.c n 4=fh (hZ Z)):iN n wr.heap.size H s1 s2 s3 Z xn xk xi (wr.k #[hZ xn,fY xk,fY xi] ty).drew:=by
 have b:ju wr (wr.k #[hZ xn,fY xk,fY xi] ty).drew:=io<|(mi _ _).alloc (lw _) _;exact iN.at_ (b.cell (p:=(ie n 0)) a) (b.cell (p:=(ie n 1)) a) (b.cell (p:=(ie n 2)) a) (b.cell (p:=(ie n 3)) a) (b.cell (p:=(ie n 4)) a) (oO wr _) c d e f g
theorem Ms(sv bt dr ow:Nat)(H s1 s2 s3 Z nm rH:ByteArray)(k id k2 IK r:Int)(sm:Bool)(xs ys:List fV)(acY:xs.length<=16)(acZ:ys.length<=16)(C:ByteArray->UDP)(P:ByteArray->fV)(I:ByteArray->Int)(T:ByteArray->Bool)
  (R0 R1:World->Prop)(R2:Value->World->Prop)(S1 S2:Value->Value->Nat->World->Prop)(Q:Int->World->Prop)(w:World)(hsv:sv<w.heap.size)(v0:w.cell? ⟨sv,0,none⟩=some (.pointer (some ⟨bt,0,none⟩)))(v1:w.cell? ⟨sv,1,none⟩=some (.pointer (some ⟨dr,0,none⟩)))(v2:w.cell? ⟨sv,2,none⟩=some (.map (some ow)))
  (UGT:k=k2->sm=decide (r=IK)/\∀W,Below w.heap.size w W->qY w.heap.size H s1 s2 s3 Z nm rH k id k2 IK W->Calls prog 74 #[.agg #[.pointer (some ⟨bt,0,none⟩),.pointer (some ⟨dr,0,none⟩),.map (some ow)],.agg #[.string H,.string s1,.string s2,.string s3,.string Z],.agg #[.string nm,.int .i64 k,.int .i64 id]] W λe J=>e=.returned (.int .i64 r)/\R0 J/\qY w.heap.size H s1 s2 s3 Z nm rH k id k2 IK J/\∀o,J.cell? ⟨sv,o,none⟩=W.cell? ⟨sv,o,none⟩)
  (hno:k≠k2->sm=false/\∀W,Below w.heap.size w W->qY w.heap.size H s1 s2 s3 Z nm rH k id k2 IK W->R0 W)
  (rcs:∀W q,R0 W->R0 (W.drewN q))
  (hend:sm=true->∀W,R0 W->Q 0 W)
  (rdv:sm=false->∀W,R0 W->qY w.heap.size H s1 s2 s3 Z nm rH k id k2 IK W->Calls prog 204 #[.pointer (some ⟨sv,0,none⟩),.agg #[.string H,.string s1,.string s2,.string s3,.string Z],.bool (k == 1),.bool (k2 == 1)] W λe J=>e=.returned (.tuple #[])/\R1 J/\qY w.heap.size H s1 s2 s3 Z nm rH k id k2 IK J)
  (hin:∀W,R1 W->qY w.heap.size H s1 s2 s3 Z nm rH k id k2 IK W->Calls prog 205 #[.pointer (some ⟨sv,0,none⟩),.agg #[.string H,.string s1,.string s2,.string s3,.string Z],.agg #[.string nm,.int .i64 k,.int .i64 id]] W λe J=>∃v er,e=.returned (.tuple #[v,.int .i64 er])/\((er=0/\Mr v xs.length/\R2 v J/\qY w.heap.size H s1 s2 s3 Z nm rH k id k2 IK J)\/(er=14/\(∃a n c,v=.slice a n c)/\Q 14 J)))
  (hbe:∀v W,R2 v W->qY w.heap.size H s1 s2 s3 Z nm rH k id k2 IK W->Calls prog 205 #[.pointer (some ⟨sv,0,none⟩),.agg #[.string H,.string s1,.string s2,.string s3,.string Z],.agg #[.string rH,.int .i64 k2,.int .i64 IK]] W λe J=>∃u er,e=.returned (.tuple #[u,.int .i64 er])/\((er=0/\Mr u ys.length/\S1 v u 0 J)\/(er=14/\(∃a n c,u=.slice a n c)/\Q 14 J)))
  (URI:∀v u j W,(S1 v u j W\/S2 v u j W)->qY w.heap.size H s1 s2 s3 Z nm rH k id k2 IK W)
  (Kg:∀v u j W,S1 v u j W->hos v xs j W)
  (hrow2:∀v u j W,S2 v u j W->hos u ys j W)
  (hpa:∀x W,((∃e ∈ xs,e.1=x)\/∃e ∈ ys,e.1=x)->Calls prog 196 #[.agg #[.string H,.string s1,.string s2,.string s3,.string Z],.string x] W λe J=>e=.returned (Qn (C x))/\Below W.heap.size W J)
  (red:∀v u j wr,S1 v u j wr->∀x W,Below wr.heap.size wr W->Calls prog 206 #[u,.string x] W λe J=>e=.returned (wH (P x))/\Below W.heap.size W J)
  (UTC:∀v u j wr,S2 v u j wr->∀x W,Below wr.heap.size wr W->Calls prog 133 #[v,.string x] W λe J=>e=.returned (.tuple #[.int .i64 (I x),.bool (T x)])/\Below W.heap.size W J)
  (rem:∀v u j wr,S1 v u j wr->∀x,xs[j]? = some x->∀W,Below wr.heap.size wr W->Calls prog 166 #[.pointer (some ⟨sv,0,none⟩),Qn (C x.1),wH x,wH (P x.1)] W λe J=>∃er,e=.returned (.int .i64 er)/\(∀b o,(b=w.heap.size\/b=wr.heap.size)->b<W.heap.size->J.cell? ⟨b,o,none⟩=W.cell? ⟨b,o,none⟩)/\((er=0/\S1 v u (j+1) J)\/(er=14/\Q 14 J)))
  (rep:∀v u wr,S1 v u xs.length wr->S2 v u 0 wr)
  (req:∀v u j wr,S2 v u j wr->∀x,ys[j]? = some x->T x.1=true->∀W,Below wr.heap.size wr W->S2 v u (j+1) W)
  (rev:∀v u j wr,S2 v u j wr->∀x,ys[j]? = some x->T x.1=false->∀W,Below wr.heap.size wr W->Calls prog 166 #[.pointer (some ⟨sv,0,none⟩),Qn (C x.1),.agg #[.string ByteArray.empty,.int .i64 0,.int .i64 0],wH x] W λe J=>∃er,e=.returned (.int .i64 er)/\(∀b o,(b=w.heap.size\/b=wr.heap.size)->b<W.heap.size->J.cell? ⟨b,o,none⟩=W.cell? ⟨b,o,none⟩)/\((er=0/\S2 v u (j+1) J)\/(er=14/\Q 14 J)))
  (hdone:∀v u wr,S2 v u ys.length wr->Q 0 wr):
  Calls prog 166 #[.pointer (some ⟨sv,0,none⟩),.agg #[.string H,.string s1,.string s2,.string s3,.string Z],.agg #[.string nm,.int .i64 k,.int .i64 id],.agg #[.string rH,.int .i64 k2,.int .i64 IK]] w λe J=>∃er,e=.returned (.int .i64 er)/\Q er J:=by
 have hb:Below w.heap.size w (((w.alloc (.cells #[.string H,.string s1,.string s2,.string s3,.string Z] 147)).alloc (.cells #[.string nm,.int .i64 k,.int .i64 id] 96)).alloc (.cells #[.string rH,.int .i64 k2,.int .i64 IK] 96)).drew:=io ((((Below.refl w.heap.size w).alloc (Nat.le_refl _) _).alloc (by simp) _).alloc (by simp;omega) _);obtain⟨x0,x1,x2⟩:=TL w (.cells #[.string H,.string s1,.string s2,.string s3,.string Z] 147) (.cells #[.string nm,.int .i64 k,.int .i64 id] 96) (.cells #[.string rH,.int .i64 k2,.int .i64 IK] 96);have Ab:uV w.heap.size sv bt dr ow H s1 s2 s3 Z nm rH k id k2 IK (((w.alloc (.cells #[.string H,.string s1,.string s2,.string s3,.string Z] 147)).alloc (.cells #[.string nm,.int .i64 k,.int .i64 id] 96)).alloc (.cells #[.string rH,.int .i64 k2,.int .i64 IK] 96)).drew:=
  ⟨(hb.cell (p:=⟨sv,0,none⟩) hsv).trans v0,(hb.cell (p:=⟨sv,1,none⟩) hsv).trans v1,(hb.cell (p:=⟨sv,2,none⟩) hsv).trans v2,lf x0 0,lf x0 1,lf x0 2,lf x0 3,lf x0 4,lf x1 0,lf x1 1,lf x1 2,lf x2 1,lf x2 2⟩
 have hCB:qY w.heap.size H s1 s2 s3 Z nm rH k id k2 IK (((w.alloc (.cells #[.string H,.string s1,.string s2,.string s3,.string Z] 147)).alloc (.cells #[.string nm,.int .i64 k,.int .i64 id] 96)).alloc (.cells #[.string rH,.int .i64 k2,.int .i64 IK] 96)).drew:=
  ⟨by simp,lf x0 0,lf x0 1,lf x0 2,lf x0 3,lf x0 4,lf x1 0,lf x1 1,lf x1 2,lf x2 0,lf x2 1,lf x2 2⟩
 have HCB:Hid _:=hCB;have HB:Hid _:=hb;have ms1:Hid _:=UGT;have HNO:Hid _:=hno;have Zip:Hid _:=rcs;have Pe:Hid _:=hend;have VW:Hid _:=rdv;have HIN:Hid _:=hin;have HBE:Hid _:=hbe;have ms2:Hid _:=URI;have HR1:Hid _:=Kg;have HR2:Hid _:=hrow2;have HCH:Hid _:=hpa;have HPK:Hid _:=red;have HSE:Hid _:=UTC;have HC1:Hid _:=rem;have HNX:Hid _:=rep;have HSK:Hid _:=req;have HC2:Hid _:=rev;have HDO:Hid _:=hdone;clear hCB hb UGT hno rcs hend rdv hin hbe URI Kg hrow2 hpa red UTC rem rep req rev hdone x0 x1 x2;go_enter func166,ntmps166;go_upto_region 1 with fail
 go_cut [36] from 20 to 112 (λc wx=>c=.bool sm/\Hid (R0 wx/\qY w.heap.size H s1 s2 s3 Z nm rH k id k2 IK wx))
 case first=>
  unfold uV at Ab;by_cases hkk:k=k2
  ·obtain⟨hsm,hO⟩:=ms1.o hkk
   have HO:Hid _:=hO _ HB.o HCB.o;subst hkk;have HSM:Hid _:=hsm;clear hsm hO ms1 HNO Pe VW HIN HBE ms2 HR1 HR2 HCH HPK HSE HC1 HNX HSK HC2 HDO HCB
   go_region_held3 (λW=>W.cell? ⟨sv,0,none⟩=some (.pointer (some ⟨bt,0,none⟩))/\W.cell? ⟨sv,1,none⟩=some (.pointer (some ⟨dr,0,none⟩))/\W.cell? ⟨sv,2,none⟩=some (.map (some ow))/\W.cell? ⟨w.heap.size,0,none⟩=some (.string H)/\W.cell? ⟨w.heap.size,1,none⟩=some (.string s1)/\W.cell? ⟨w.heap.size,2,none⟩=some (.string s2)/\W.cell? ⟨w.heap.size,3,none⟩=some (.string s3)/\W.cell? ⟨w.heap.size,4,none⟩=some (.string Z)/\W.cell? ⟨w.heap.size+1,0,none⟩=some (.string nm)/\W.cell? ⟨w.heap.size+1,1,none⟩=some (.int .i64 k)/\W.cell? ⟨w.heap.size+1,2,none⟩=some (.int .i64 id)/\W.cell? ⟨w.heap.size+2,1,none⟩=some (.int .i64 k)/\W.cell? ⟨w.heap.size+2,2,none⟩=some (.int .i64 IK))
    (first | exact Ab | exact hSc)
    (first
    | (go_at_call 74;refine Calls.mono HO.o ?_;rintro e w3 ⟨rfl,hR,hB3,hc3⟩;have hSc:=uV.aa4 hB3 ((hc3 0).trans Ab.1) ((hc3 1).trans Ab.2.1) ((hc3 2).trans Ab.2.2.1);unfold uV at hSc;have HR:Hid _:=And.intro hR hB3;clear hR hB3 hc3))
   all_goals
    go_wp2_with fail;go_meet;refine⟨?_,?_⟩
    ·rw[HSM.o];first | rfl | (congr 1;simp) | simp
    ·exact HR.o
  ·obtain⟨hsm,hO⟩:=HNO.o hkk
   have HO:Hid _:=λq=>Zip.o _ q (hO (((w.alloc (.cells #[.string H,.string s1,.string s2,.string s3,.string Z] 147)).alloc (.cells #[.string nm,.int .i64 k,.int .i64 id] 96)).alloc (.cells #[.string rH,.int .i64 k2,.int .i64 IK] 96)) ((((Below.refl w.heap.size w).alloc (Nat.le_refl _) _).alloc (by simp) _).alloc (by simp;omega) _) HCB.o);have hkb:(k == k2)=false:=by simpa using hkk
   subst hsm;clear hO ms1 HNO Pe VW HIN HBE ms2 HR1 HR2 HCH HPK HSE HC1 HNX HSK HC2 HDO
   go_quiet (fail)
   all_goals
    go_wp2_with fail;go_meet;exact⟨rfl,HO.o _,HCB.o⟩
 case rest=>
  obtain⟨rfl,HR⟩:=hcut;clear Ab ms1 HNO HCB HB;cases hsm:sm with
  | true=>
   have HQ:Hid _:=Pe.o hsm _ HR.o.1;subst hsm;go_wp2;go_ret;exact⟨0,rfl,HQ.o⟩
  | false=>
   have HN:Hid _:=VW.o hsm _ HR.o.1 HR.o.2;obtain⟨hz,a0,a1,a2,a3,a4,b0,b1,b2,d0,d1,d2⟩:=HR.o.2;subst hsm;clear Pe VW HR;go_wp2_with fail;refine Calls.mono HN.o ?_;rintro e w2 ⟨rfl,hR1,hB1⟩;have HI:Hid _:=HIN.o _ hR1 hB1;clear hz a0 a1 a2 a3 a4 b0 b1 b2 d0 d1 d2 HN HIN hR1;obtain⟨hz,a0,a1,a2,a3,a4,b0,b1,b2,d0,d1,d2⟩:=hB1;go_wp2_with fail;refine Calls.mono HI.o ?_;rintro e w3 ⟨v,er,rfl,⟨rfl,⟨va,vc,rfl⟩,hR2,hB2⟩ | ⟨rfl,⟨va,vn,vc,rfl⟩,hQ⟩⟩
   ·have HBB:Hid _:=HBE.o _ _ hR2 hB2
    clear hz a0 a1 a2 a3 a4 b0 b1 b2 d0 d1 d2 HI HBE hR2;obtain⟨hz,a0,a1,a2,a3,a4,b0,b1,b2,d0,d1,d2⟩:=hB2;go_wp2_with fail;refine Calls.mono HBB.o ?_;rintro e w4 ⟨u,er,rfl,⟨rfl,⟨ua,uc,rfl⟩,hS⟩ | ⟨rfl,⟨ua,un,uc,rfl⟩,hQ⟩⟩
    ·have HS:Hid _:=hS
     clear hz a0 a1 a2 a3 a4 b0 b1 b2 d0 d1 d2 HBB hS;obtain⟨m,hm⟩:∃m,m=xs.length:=⟨_,rfl⟩;obtain⟨m',hm'⟩:∃m',m'=ys.length:=⟨_,rfl⟩;have HM:Hid _:=hm;have HM':Hid _:=hm';rw[<-hm] at acY |-;rw[<-hm'] at acZ |-;rw[<-hm,<-hm'] at HS;clear hm hm';go_wp2
     go_loopw [68] (λiv wr=>∃j:Nat,j<=m/\iv=.int .i64 (j:Int)/\Hid (S1 (.slice va m vc) (.slice ua m' uc) j wr)) (λiv _=>m-(intOf iv).toNat)
     case atStart=>exact⟨0,Nat.zero_le _,rfl,HS⟩
     case round=>
      obtain⟨j,hj,rfl,HJ⟩:=hrel;rename World=>wr;obtain⟨hz,a0,a1,a2,a3,a4,_⟩:=ms2.o _ _ _ _ (.inl HJ.o);by_cases hjm:j<m
      ·have hjx:j<xs.length:=by rw[<-HM.o];exact hjm
       have hxe:xs[j]? = some xs[j]:=List.getElem?_eq_getElem hjx;obtain⟨gb,c,ev,hgb,r0,r1,r2⟩:=HR1.o _ _ _ _ HJ.o _ hxe;cases ev;have IL:Hid _:=λW=>HCH.o (xs[j]).1 W (.inl ⟨_,List.getElem_mem hjx,rfl⟩);have mty:Hid _:=HPK.o _ _ _ _ HJ.o (xs[j]).1;have ZE:Hid _:=HC1.o _ _ _ _ HJ.o _ hxe;clear hxe;generalize C (xs[j]).1=ch at IL ZE;generalize P (xs[j]).1=pk at mty ZE;generalize xs[j]=x at r0 r1 r2 IL mty ZE;obtain⟨xn,xk,xi⟩:=x;obtain⟨c0,c1,c2,c3,c4⟩:=ch;obtain⟨pn,pkk,pid⟩:=pk;simp only[Qn,wH] at r0 r1 r2 IL mty ZE;have b0:Below wr.heap.size wr (wr.alloc (.cells #[.string xn,.int .i64 xk,.int .i64 xi] 96)).drew:=io ((Below.refl _ _).alloc (Nat.le_refl _) _);have hz0:wr.heap.size<(wr.alloc (.cells #[.string xn,.int .i64 xk,.int .i64 xi] 96)).drew.heap.size:=by simp
       have Ab:iN w.heap.size wr.heap.size H s1 s2 s3 Z xn xk xi (wr.alloc (.cells #[.string xn,.int .i64 xk,.int .i64 xi] 96)).drew:=iN.new (by omega) a0 a1 a2 a3 a4;go_wp2;unfold iN at Ab
       go_region_held3 (λW=>W.cell? ⟨w.heap.size,0,none⟩=some (.string H)/\W.cell? ⟨w.heap.size,1,none⟩=some (.string s1)/\W.cell? ⟨w.heap.size,2,none⟩=some (.string s2)/\W.cell? ⟨w.heap.size,3,none⟩=some (.string s3)/\W.cell? ⟨w.heap.size,4,none⟩=some (.string Z)/\W.cell? ⟨wr.heap.size,0,none⟩=some (.string xn)/\W.cell? ⟨wr.heap.size,1,none⟩=some (.int .i64 xk)/\W.cell? ⟨wr.heap.size,2,none⟩=some (.int .i64 xi))
        (first | exact Ab | exact hSc | exact hSb)
        (first
        | (go_at_call 196;refine Calls.mono (IL.o _) ?_;rintro e w5 ⟨rfl,hb5⟩;replace Ab:=iN.keep (n:=w.heap.size) (m:=wr.heap.size) Ab (λo=>(kw hb5).1 _ o (by omega)) (λo=>(kw hb5).1 _ o hz0);unfold iN at Ab;replace b0:=gS b0 hb5;replace hz0:=Nat.lt_of_lt_of_le hz0 hb5.size)
        | (go_at_call 206;refine Calls.mono (mty.o _ b0) ?_;rintro e w6 ⟨rfl,hb6⟩;replace Ab:=iN.keep (n:=w.heap.size) (m:=wr.heap.size) Ab (λo=>(kw hb6).1 _ o (by omega)) (λo=>(kw hb6).1 _ o hz0);unfold iN at Ab;replace b0:=gS b0 hb6;replace hz0:=Nat.lt_of_lt_of_le hz0 hb6.size)
        | (go_at_call 166;refine Calls.mono (ZE.o _ b0) ?_;rintro e w7 ⟨er,rfl,hk7,hE⟩;replace Ab:=iN.keep (n:=w.heap.size) (m:=wr.heap.size) Ab (λo=>hk7 _ o (.inl rfl) (by omega)) (λo=>hk7 _ o (.inr rfl) hz0);unfold iN at Ab;have HE:Hid _:=hE;clear hE hk7))
       all_goals
        rcases HE.o with ⟨rfl,hS7⟩ | ⟨rfl,hQ7⟩
        ·have HS7:Hid _:=hS7
         clear HE hS7;go_wp2;exact⟨⟨j+1,by omega,by simp,HS7⟩,by simp[intOf];omega⟩
        ·have HQ7:Hid _:=hQ7
         clear HE hQ7;go_wp2;go_ret;exact⟨14,rfl,HQ7.o⟩
      ·have hje:j=m:=by omega
       have HS2:Hid _:=HNX.o _ _ _ (show S1 _ _ xs.length wr by rw[<-HM.o,<-hje];exact HJ.o);clear HJ hje HC1 HPK HR1 HNX;go_wp2;clear hjm hj
       go_loopw [89] (λiv wr=>∃j:Nat,j<=m'/\iv=.int .i64 (j:Int)/\Hid (S2 (.slice va m vc) (.slice ua m' uc) j wr)) (λiv _=>m'-(intOf iv).toNat)
       case atStart=>exact⟨0,Nat.zero_le _,rfl,HS2⟩
       case round=>
        obtain⟨j,hj,rfl,HJ⟩:=hrel;rename World=>wr;obtain⟨hz,a0,a1,a2,a3,a4,_⟩:=ms2.o _ _ _ _ (.inr HJ.o);by_cases hjm:j<m'
        ·have hjx:j<ys.length:=by rw[<-HM'.o];exact hjm
         have hxe:ys[j]? = some ys[j]:=List.getElem?_eq_getElem hjx;obtain⟨gb,c,ev,hgb,r0,r1,r2⟩:=HR2.o _ _ _ _ HJ.o _ hxe;cases ev;have IL:Hid _:=λW=>HCH.o (ys[j]).1 W (.inr ⟨_,List.getElem_mem hjx,rfl⟩);have ZF:Hid _:=HSE.o _ _ _ _ HJ.o (ys[j]).1;have ZE:Hid _:=HC2.o _ _ _ _ HJ.o _ hxe;have hpb:Hid _:=HSK.o _ _ _ _ HJ.o _ hxe;clear hxe;generalize T (ys[j]).1=th at ZF ZE hpb;generalize I (ys[j]).1=ix at ZF;generalize C (ys[j]).1=ch at IL ZE;generalize ys[j]=x at r0 r1 r2 IL ZF ZE hpb;obtain⟨xn,xk,xi⟩:=x;obtain⟨c0,c1,c2,c3,c4⟩:=ch;simp only[Qn,wH] at r0 r1 r2 IL ZF ZE;have b0:Below wr.heap.size wr (wr.alloc (.cells #[.string xn,.int .i64 xk,.int .i64 xi] 96)):=(Below.refl _ _).alloc (Nat.le_refl _) _;have hz0:wr.heap.size<(wr.alloc (.cells #[.string xn,.int .i64 xk,.int .i64 xi] 96)).heap.size:=by simp
         have hy0:=heap_alloc_new wr (.cells #[.string xn,.int .i64 xk,.int .i64 xi] 96);have ac8:Hid _:=ZF.o _ b0;clear ZF;go_wp2_with fail;refine Calls.mono ac8.o ?_;rintro e w5 ⟨rfl,hb5⟩;have b5:Below wr.heap.size wr w5:=gS b0 hb5;cases th with
         | true=>
          have HSS:Hid _:=hpb.o rfl _ b5;clear ZE hpb IL;go_wp2;exact⟨⟨j+1,by omega,by simp,HSS⟩,by simp[intOf];omega⟩
         | false=>
          have HCy:Hid _:=ZE.o rfl;clear ZE hpb;have y5:=(hb5.block wr.heap.size hz0).trans hy0;have ac9:wr.heap.size<w5.heap.size:=Nat.lt_of_lt_of_le hz0 hb5.size;have bd:Below w5.heap.size w5 w5.drew:=io (Below.refl _ _);have bw:Below wr.heap.size wr w5.drew:=gS b5 bd;have hwz:w.heap.size<wr.heap.size:=(by omega);have Ab:iN w.heap.size wr.heap.size H s1 s2 s3 Z xn xk xi w5.drew:=iN.at_ (bw.cell (p:=⟨w.heap.size,0,none⟩) hwz) (bw.cell (p:=⟨w.heap.size,1,none⟩) hwz) (bw.cell (p:=⟨w.heap.size,2,none⟩) hwz) (bw.cell (p:=⟨w.heap.size,3,none⟩) hwz) (bw.cell (p:=⟨w.heap.size,4,none⟩) hwz) y5 a0 a1 a2 a3 a4;replace hz0:wr.heap.size<w5.drew.heap.size:=ac9;have hzw:w.heap.size<w5.drew.heap.size:=(by have:=b5.size;show _<w5.heap.size;omega);go_wp2;unfold iN at Ab
          go_region_held3 (λW=>W.cell? ⟨w.heap.size,0,none⟩=some (.string H)/\W.cell? ⟨w.heap.size,1,none⟩=some (.string s1)/\W.cell? ⟨w.heap.size,2,none⟩=some (.string s2)/\W.cell? ⟨w.heap.size,3,none⟩=some (.string s3)/\W.cell? ⟨w.heap.size,4,none⟩=some (.string Z)/\W.cell? ⟨wr.heap.size,0,none⟩=some (.string xn)/\W.cell? ⟨wr.heap.size,1,none⟩=some (.int .i64 xk)/\W.cell? ⟨wr.heap.size,2,none⟩=some (.int .i64 xi))
           (first | exact Ab | exact hSc | exact hSb)
           (first
           | (go_at_call 196;refine Calls.mono (IL.o _) ?_;rintro e w6 ⟨rfl,hb6⟩;replace Ab:=iN.keep (n:=w.heap.size) (m:=wr.heap.size) Ab (λo=>(kw hb6).1 _ o hzw) (λo=>(kw hb6).1 _ o hz0);unfold iN at Ab;replace bw:=gS bw hb6;replace hz0:=Nat.lt_of_lt_of_le hz0 hb6.size;replace hzw:=Nat.lt_of_lt_of_le hzw hb6.size)
           | (go_at_call 166;refine Calls.mono (HCy.o _ bw) ?_;rintro e w7 ⟨er,rfl,hk7,hE⟩;replace Ab:=iN.keep (n:=w.heap.size) (m:=wr.heap.size) Ab (λo=>hk7 _ o (.inl rfl) hzw) (λo=>hk7 _ o (.inr rfl) hz0);unfold iN at Ab;have HE:Hid _:=hE;clear hE hk7))
          all_goals
           rcases HE.o with ⟨rfl,hS7⟩ | ⟨rfl,hQ7⟩
           ·have HS7:Hid _:=hS7
            clear HE hS7;go_wp2;exact⟨⟨j+1,by omega,by simp,HS7⟩,by simp[intOf];omega⟩
           ·have HQ7:Hid _:=hQ7
            clear HE hQ7;go_wp2;go_ret;exact⟨14,rfl,HQ7.o⟩
        ·have hje:j=m':=by omega
         have HQ:Hid _:=HDO.o _ _ _ (show S2 _ _ ys.length wr by rw[<-HM'.o,<-hje];exact HJ.o);clear HJ hje;go_wp2;go_ret;exact⟨0,rfl,HQ.o⟩
    ·go_wp2
     go_ret;exact⟨14,rfl,hQ⟩
   ·go_wp2
    go_ret;exact⟨14,rfl,hQ⟩
theorem GX(b:fP (Y.map lL))(n):kA (Y.map lL) n=(jp Y n).isSome:=by
 have a:=nj (n:=n) b;rw[AR]at a;cases d:kA (Y.map lL) n with
 |false=>rw[d]at a;cases e:jp Y n with
  |none=>rfl
  |some c=>rw[e]at a;cases a
 |true=>
  grind [kA,lL,ui,jp]
def ZG(Y:Kids)(n):VV (Y.map lL) n=jV n (jp Y n):=by
 unfold VV;rw[AR];cases jp Y n<;>rfl
def tO(a:fP Y):fP (Y.map lL):=wK.2 a
def Qo (T:gC)(W:fq)(K:List (Nat×Obj)):Prop:=∀x∈K,W.heap[x.1]?=fh x.2/\T x.1=(0,0)
theorem Qo.moves{K:List (Nat×Obj)}(a:Qo T w K)(m:fI P T M w J)(c:¬P (0,0)):Qo M J K:=λx b=>m.at (a x b).1 (a x b).2 c
def VX (s i p:Nat)(B:WB)(A:List Ob)(sv dr ow:Nat)(t:LT)(a:List Ob)(g:WG)(K:List (Nat×Obj))(T:gC)(w:fq)(fs:b6)(I:Nat)(L d:List iV)(b:Int)(J:fq):Prop:=
 ∃M fs' c,fI (wh i) T M w J/\(∀v es,oZ T w i v es->oZ M J i v es)/\Qo M J K/\CU M J s i p B A { g with fs:=fs' } I sv dr ow t a c/\((b=0/\fs.Next fs'/\c=L++d)\/(b=14/\fs.yR fs'))
structure KE (s i p:Nat)(B:WB)(gI:List Ob)(sv dr ow:Nat)(t:LT)(a:List Ob)(g:WG)(K:List (Nat×Obj))(tg0:gC)(w:World)(n:Nat)(tg:gC)(W:World)(fs:b6)(lim:Nat)(L:List iV):Prop where
 mv:fI (wh i) tg0 tg w W
 slc:∀v es,oZ tg0 w i v es->oZ tg W i v es
 st:CU tg W s i p B gI { g with fs:=fs } lim sv dr ow t a L
 kp:Qo tg W K
 bx:∀j,j<=2->n+j<W.heap.size/\tg (n+j)=(0,0)
theorem KE.below{w W W'}(b:KE s i p B A sv dr ow t a g K tg0 w n0 T W fs I L)(c:ju W W'):KE s i p B A sv dr ow t a g K tg0 w n0 T W' fs I L:=
 ⟨b.mv.trans<|fI.fK c,λv es e=>(b.slc v es e).below c,b.st.below c,b.kp.moves (fI.fK (P:=λ_=>False) c) id,λj d=>⟨nz (b.bx j d).1 c.size,(b.bx j d).2⟩⟩
def KE.mono{w W}(b:KE s i p B A sv dr ow t a g K tg0 w n0 T W fs I L)(c:I<=jW):KE s i p B A sv dr ow t a g K tg0 w n0 T W fs jW L:=⟨b.mv,b.slc,b.st.mono c,b.kp,b.bx⟩
theorem KE.call(f:∀t,P t->wh i t){w W J}{L h:List iV}(c:KE s i p B A sv dr ow t a g K tg0 w n0 T W fs I L)(m:fI P T M W J)(k:∀v es,oZ T W i v es->oZ M J i v es)(l:CU M J s i p B A { g with fs:=fs' } jW sv dr ow t a h):
  KE s i p B A sv dr ow t a g K tg0 w n0 M J fs' jW h/\(∀b,b<W.heap.size->T b=(0,0)->∀d,J.c b d=W.c b d)/\W.heap.size<=J.heap.size:=by
 have n:¬P (0,0):=λo=>Mp c.st.inv.two<|f _ o;exact⟨⟨c.mv.trans<|m.mono f,λv es q=>k v es<|c.slc v es q,l,c.kp.moves m n,λj e=>⟨nz (c.bx j e).1 m.size,(m.tags _ (c.bx j e).1).trans (c.bx j e).2⟩⟩,λb r u d=>wJ (a:=(ie b d))<|m.block b r (by grind),m.size⟩
theorem KE.box{w W J:fq}(d:KE s i p B A sv dr ow t a g K tg0 w n0 T W fs I L){k id e f:Int}(l:qY n0 H s1 s2 s3 Z nm rH k id e f W)(m:∀b,b<W.heap.size->T b=(0,0)->∀c,J.c b c=W.c b c)(n:W.heap.size<=J.heap.size):qY n0 H s1 s2 s3 Z nm rH k id e f J:=
 l.keep n λj h c=>m _ (d.bx j h).1 (d.bx j h).2 c
theorem VY{W}(a:oZ T W i v es)(j):hos v es j W:=by
 intro x b;obtain⟨d,rfl⟩:=wI.1 b;obtain⟨e,c,rfl⟩:=hh a.1 (by omega);have⟨c0,c1,c2⟩:=lr (off:=0) (ks a.1) d;rw[iR]at c0 c1 c2;exact⟨e,c,fX,gc a.1 fX,c0,c1,c2⟩
theorem hpc{W}(a:oZ T W i v es):Mr v (fv es):=by
 rcases a.1.2 with⟨e,b⟩|⟨g',c,_,e,_⟩
 exact⟨fj,0,by rw[e,b]⟩;exact⟨_,_,e⟩
def Um{W}(a:oZ T W i v es)(b:fP es)(c:fv es<=16)(x)(d:ju W W'):
  ik 133 #[v,hZ x] W' (vd (fC #[fY (ui es x:Nat),fE<|kA es x]) W'):=iL (a.below d).1 x b c
theorem wj(ag:Sound A)(U:2<=i)(hF:Flat A t g.ft){n cb:Nat}(hn5:n<=5){now N}(ap:GM A n now)(aq:GM A n N)(aU:BR N)(aV:∀c,now=fh c->t.at A q=fh c)(ar:Good q)(bp:fv q+n<=5)(nm rH)
  (bq:3+(fv (li A now)+fv (li A N))*cb<=cB n)
  {w0 w:fq}(br:I+cB n<1099511627776)(aW:sv<w.heap.size)(aX:w.c sv 0=fh (ii B.bt))(aY:w.c sv 1=fh (ii dr))(aZ:w.c sv 2=fh (.map<|fh ow))
  (r:Int)(htest:NE now=NE N->(r=KB N↔∀y,IR A (gz A g.fl) now y=IR A qX N y))
  (bb:NE now=NE N->∀W,ju w W->qY w.heap.size (comp q 0) (comp q 1) (comp q 2) (comp q 3) (comp q 4) (jV nm now).1 (jV rH N).1 (NE now) (KB now) (NE N) (KB N) W->ik 74 #[fD #[ii B.bt,ii dr,.map<|fh ow],fD<|jn q,fD #[hZ (jV nm now).1,fY<|NE now,fY<|KB now]] W λe J=>e=fF (fY r)/\(∃M,KE s i p B A sv dr ow t a g K T w0 w.heap.size M J fs I L)/\qY w.heap.size (comp q 0) (comp q 1) (comp q 2) (comp q 3) (comp q 4) (jV nm now).1 (jV rH N).1 (NE now) (KB now) (NE N) (KB N) J/\∀h,J.c sv h=W.c sv h)
  (bc:NE now≠NE N->∀W,ju w W->w.heap.size+2<W.heap.size->∃M,KE s i p B A sv dr ow t a g K T w0 w.heap.size M W fs I L)
  (aL:∀x,(jp (li A now) x≠fj\/jp (li A N) x≠fj)->∀T w fs I L,CU T w s i p B A { g with fs:=fs } I sv dr ow t a L->I+cb<1099511627776->
   ik 166 #[ii sv,fD<|jn (q++[x]),wH<|jV x (jp (li A now) x),wH<|jV x (jp (li A N) x)] w λe J=>∃P,e=fF (fY P)/\VX s i p B A sv dr ow t a g [] T w fs (I+cb) L ((cmpL A (gz A g.fl) qX (n-1) (q++[x]) (jp (li A now) x)<|jp (li A N) x).map Ak) P J):
  ik 166 #[ii sv,fD<|jn q,wH<|jV nm now,wH<|jV rH N] w λe J=>∃P,e=fF (fY P)/\VX s i p B A sv dr ow t a g K T w0 fs (I+cB n) L ((cmpL A (gz A g.fl) qX n q now N).map Ak) P J:=by
 have⟨ah,bd⟩:=mS ag ap;have⟨av,be⟩:=mS ag aq;have aM:fv (li A now)<=16:=rG ag ap;have aN:fv (li A N)<=16:=rG ag aq;have bf:∀x,(jp (li A now) x≠fj\/jp (li A N) x≠fj)->fv q<=4:=λx d=>by
  rcases d with d|d
  have⟨c,H⟩:=Ri.1 d;have⟨m,e,_⟩:=bd _<|mU H;omega;have⟨c,H⟩:=Ri.1 d;have⟨m,e,_⟩:=be _<|mU H;omega
 -- what is found,in pieces
 have⟨ac,aw⟩:=oX<|DK (lA q) (decide (NE now=1)) (decide (NE N=1));obtain⟨ai,aO⟩:=oX (λx=>(cmpL A (gz A g.fl) qX (n-1) (q++[x.1]) (fh x.2) (jp (li A N) x.1)).map Ak:fO×LT->List iV);have⟨aj,aP⟩:=oX (λx=>(cmpL A (gz A g.fl) qX (n-1) (q++[x.1]) fj (fh x.2)).map Ak:fO×LT->List iV);have⟨ad,ax⟩:=oX (λx=>(jp (li A now) x.1).isNone:fO×LT->Bool);have aQ:(¬ ∀y,IR A (gz A g.fl) now y=IR A qX N y)->(cmpL A (gz A g.fl) qX n q now N).map Ak=ac++(li A now).flatMap ai++((li A N).filter ad).flatMap aj:=λbg=>by
  rw[hn2 ag ap aq bg,nZ,nZ,Uh,<-aw,List.map_flatMap,List.map_flatMap,<-aO,<-aP,<-ax,sP]
 obtain⟨aR,aS⟩:=oX<|(cmpL A (gz A g.fl) qX n q now N).map Ak;rw[<-aS]at aQ |-;have bh:(∀y,IR A (gz A g.fl) now y=IR A qX N y)->aR=[]:=λo=>by rw[aS,hnt o];rfl
 have bs:fv ac<=1:=by rw[aw];unfold DK;split<;>split<;>simp
 -- the test
 let aa:Bool:=@decide (∀y,IR A (gz A g.fl) now y=IR A qX N y) (Classical.propDecidable _)
 have bi:aa=fm->∀y,IR A (gz A g.fl) now y=IR A qX N y:=λe=>@of_decide_eq_true _ (Classical.propDecidable _) e;have bj:aa=fo->¬ ∀y,IR A (gz A g.fl) now y=IR A qX N y:=λe=>@of_decide_eq_false _ (Classical.propDecidable _) e;have aT:∀t,gA i t->wh i t:=λt Q=>.inl Q;have bk:∀t,t=((0,1):Nat×Nat)->wh i t:=λt Q=>.inr Q;have au:∀(z:fO)(h:Option LT),wH (jV z h)=fD #[hZ (jV z h).1,fY<|NE h,fY<|KB h]:=λz h=>by cases h<;>rfl
 -- of the kids
 have ay:∀(Y:Kids)(j:Nat)x,(Y.map lL)[j]?=fh x->∃S:j<fv Y,x=lL Y[j]:=λY j x d=>by
  have⟨S,e⟩:=wI.1 d;have ab:j<fv Y:=by simpa using S
  exact⟨ab,by rw[<-e,yP]⟩
 rw[au,au];refine(Ms sv B.bt dr ow _ _ _ _ _ (jV nm now).1 (jV rH N).1 (NE now) (KB now) (NE N) (KB N) r aa ((li A now).map lL) ((li A N).map lL) (by simpa using aM) (by simpa using aN)
  (λx=>(comp (q++[x]) 0,comp (q++[x]) 1,comp (q++[x]) 2,comp (q++[x]) 3,comp (q++[x]) 4)) (λx=>jV x<|jp (li A N) x) (λx=>(ui ((li A now).map lL) x:Nat)) (λx=>kA ((li A now).map lL) x)
  (λW=>∃M,KE s i p B A sv dr ow t a g K T w0 w.heap.size M W fs I L)
  (λW=>aa=fo/\∃M,KE s i p B A sv dr ow t a g K T w0 w.heap.size M W fs (I+1)<|L++ac)
  (λv W=>aa=fo/\∃M fs',KE s i p B A sv dr ow t a g K T w0 w.heap.size M W fs' (I+2) (L++ac)/\fs.Next fs'/\oZ M W i v ((li A now).map lL))
  (λv F j W=>aa=fo/\(∃M fs',KE s i p B A sv dr ow t a g K T w0 w.heap.size M W fs' (I+3+j*cb) (L++ac++((li A now).take j).flatMap ai)/\fs.Next fs'/\oZ M W i v ((li A now).map lL)/\oZ M W i F ((li A N).map lL))/\qY w.heap.size (comp q 0) (comp q 1) (comp q 2) (comp q 3) (comp q 4) (jV nm now).1 (jV rH N).1 (NE now) (KB now) (NE N) (KB N) W)
  (λv F j W=>aa=fo/\(∃M fs',KE s i p B A sv dr ow t a g K T w0 w.heap.size M W fs' (I+3+(fv (li A now)+j)*cb) (L++ac++(li A now).flatMap ai++(((li A N).take j).filter ad).flatMap aj)/\fs.Next fs'/\oZ M W i v ((li A now).map lL)/\oZ M W i F ((li A N).map lL))/\qY w.heap.size (comp q 0) (comp q 1) (comp q 2) (comp q 3) (comp q 4) (jV nm now).1 (jV rH N).1 (NE now) (KB now) (NE N) (KB N) W)
  (λP J=>VX s i p B A sv dr ow t a g K T w0 fs (I+cB n) L aR P J) w aW aX aY aZ ?_ ?_ ?_ ?_ ?_ ?_ ?_ ?_ ?_ ?_ ?_ ?_ ?_ ?_ ?_ ?_ ?_ ?_)
 -- object
 intro D;refine⟨?_,λW f C=>bb D W f C⟩;by_cases u:r=KB N;rw[iE u];exact @decide_eq_true _ (Classical.propDecidable _)<|(htest D).1 u;rw[yv u];exact @decide_eq_false _ (Classical.propDecidable _) (λo=>u<|(htest D).2 o)
 -- other kinds
 intro D;refine⟨@decide_eq_false _ (Classical.propDecidable _) λo=>D<|hnn o,λW f C=>bc D W f C.1⟩;rintro W bl ⟨M,d⟩;exact⟨M,d.below<|jf (mi _ _) bl⟩
 -- the same
 rintro o W ⟨M,d⟩;exact⟨M,fs,L,d.mv,d.slc,d.kp,d.st.mono<|cop _ _,.inl ⟨fX,b6.Next.refl _,by rw[bh<|bi o,lJ]⟩⟩
 -- note
 rintro o W ⟨M,d⟩ C
 have:=hon d.st (by omega) ar (decide (NE now=1))<|decide (NE N=1)
 have ak:(NE now==1)=decide (NE now=1):=fX;have ae:(NE N==1)=decide (NE N=1):=fX;rw[<-aw]at this;rw[ak,ae];apply this.mono;rintro e J ⟨u,O,m,H⟩;have⟨k,R,V⟩:=d.call bk m (λv es l=>⟨gg l.1 λb f=>m.block b (gc l.1 f) (λe=>by rcases l.2 b f with X|X<;>(rw[X]at e;cases e)),λb f=>by rw[m.tags b<|gc l.1 f];exact l.2 b f⟩) H;exact⟨u,⟨o,O,k⟩,d.box C R V⟩
 -- what is in what is there
 rintro W ⟨o,M,d⟩ C
 have:=GV d.st hF (by omega) ar ap (λes u=>by rw[u];exact aV _ u) nm
 rw[au]at this;apply this.mono;rintro e J ⟨v,u,O,m,H,l,D⟩;have⟨k,R,V⟩:=d.call aT m D H;refine⟨v,_,u,?_⟩;rcases GU A fs now with⟨c1,c2⟩|⟨c1,c2⟩
 have ak:(sO A fs now).2.1=0:=by rw[c2]
 have ae:(sO A fs now).2.2=li A now:=by rw[c2]
 refine .inl ⟨ak,?_,⟨o,O,_,k,c1,?_⟩,d.box C R V⟩
 have:=hpc l
 rwa [show({ g with fs:=fs }:WG).fs=fs from fX,ae]at this;rw[show({ g with fs:=fs }:WG).fs=fs from fX,ae]at l;exact l;refine .inr ⟨by show(sO A fs now).2.1=14;rw[c2],?_,O,_,_,k.mv,k.slc,k.kp,k.st.mono (by have:=hol n;omega),.inr ⟨fX,c1⟩⟩;have⟨az,aA,aB,e⟩:=l.shape;exact⟨az,aA,aB,e⟩
 -- what N in what N there
 rintro v W ⟨o,M,fs',d,G,l⟩ C
 have:=GV d.st hF (by omega) ar aq (λes u=>by rcases aU _ u with⟨j,X⟩|⟨j,X⟩<;>cases X) rH
 rw[au]at this;apply this.mono;rintro e J ⟨F,u,O,m,H,E,D⟩;have⟨k,R,V⟩:=d.call aT m D H;refine⟨F,_,u,?_⟩;rcases GU A fs' N with⟨c1,c2⟩|⟨c1,c2⟩
 have ak:(sO A fs' N).2.1=0:=by rw[c2]
 have ae:(sO A fs' N).2.2=li A N:=by rw[c2]
 rw[show({ g with fs:=fs' }:WG).fs=fs' from fX,ae]at E;refine .inl ⟨ak,hpc E,o,⟨O,_,?_,G.trans c1,D _ _ l,E⟩,d.box C R V⟩;rwa [MZ,List.flatMap_nil,lJ,cwd];refine .inr ⟨by show(sO A fs' N).2.1=14;rw[c2],?_,O,_,_,k.mv,k.slc,k.kp,k.st.mono (by have:=hol n;omega),.inr ⟨fX,G.fail c1⟩⟩;have⟨az,aA,aB,e⟩:=E.shape;exact⟨az,aA,aB,e⟩;rintro v F j W (⟨_,_,C⟩|⟨_,_,C⟩)<;>exact C;rintro v F j W ⟨_,⟨M,fs',_,_,l,_⟩,_⟩;exact VY l j;rintro v F j W ⟨_,⟨M,fs',_,_,_,E⟩,_⟩;exact VY E j
 -- Child
 intro x W d;have bm:jp (li A now) x≠fj\/jp (li A N) x≠fj:=by
  rcases d with⟨e,u,rfl⟩|⟨e,u,rfl⟩
  obtain⟨y,aC,rfl⟩:=jC.1 u;exact .inl (by rw[show(lL y).1=y.1 from fX,iA ah aC];simp);obtain⟨y,aC,rfl⟩:=jC.1 u;exact .inr (by rw[show(lL y).1=y.1 from fX,iA av aC];simp)
 exact CG q ar (bf x bm) x W
 -- pick
 rintro v F j wr ⟨_,⟨M,fs',_,_,_,E⟩,_⟩ x W f;rw[<-ZG];exact ZA (E.below f).1 x (tO av) (by simpa using aN)
 -- search
 rintro v F j wr ⟨_,⟨M,fs',_,_,l,_⟩,_⟩ x W f;exact Um l (tO ah) (by simpa using aM) x f
 -- compare of what is there
 rintro v F j wr ⟨o,⟨M,fs',d,G,l,E⟩,C⟩ x al W f;obtain⟨S,rfl⟩:=ay _ _ _ al;have am:=iA ah<|kK S;have aD:I+3+j*cb+cb<=I+cB n:=by
  have:(j+1)*cb<=(fv (li A now)+fv (li A N))*cb:=EH cb<|by omega
  rw[Rt]at this;omega
 have an:=aL ((li A now)[j]).1 (.inl (by rw[am];simp)) M W fs' _ _ (d.below f).st (by omega);rw[am]at an;apply Ps an;rintro e J ⟨P,u,O,ao,aE,m,D,_,H,aF⟩;have⟨k,R,V⟩:=(d.below f).call (λ_ X=>X) m D H;have aG:∀b h,(b=w.heap.size\/b=wr.heap.size)->b<W.heap.size->J.c b h=W.c b h:=λb h aH aI=>R b aI (by
  rcases aH with rfl|rfl
  exact(d.bx 0<|by omega).2;exact d.st.inv.st.fresh _<|lw _) h
 refine⟨P,u,aG,?_⟩;rcases aF with⟨rfl,aJ,rfl⟩|⟨rfl,aK⟩
 refine .inl ⟨fX,o,⟨O,ao,?_,G.trans aJ,D _ _<|l.below f,D _ _<|E.below f⟩,(d.below f).box (C.keep f.size λZ ab h=>f.cell (p:=(ie (w.heap.size+Z) h)) (d.bx Z ab).1) R V⟩;rw[Zz ai _ S,Rt,<-sP];rw[show ai (li A now)[j]=(cmpL A (gz A g.fl) qX (n-1) (q++[((li A now)[j]).1]) (fh ((li A now)[j]).2)<|jp (li A N) ((li A now)[j]).1).map Ak by rw[aO]];have e:I+3+(j*cb+cb)=I+3+j*cb+cb:=by omega
 rw[e];exact k;exact .inr ⟨fX,O,ao,aE,k.mv,k.slc,k.kp,k.st.mono aD,.inr ⟨fX,G.fail aK⟩⟩
 -- on to what N there
 rintro v F wr ⟨o,⟨M,fs',d,G,l,E⟩,C⟩;rw[oL]at d;refine⟨o,⟨M,fs',?_,G,l,E⟩,C⟩;rw[sL]at d;rwa [MZ,List.filter_nil,List.flatMap_nil,lJ,Ee]
 -- what is still there
 rintro v F j wr ⟨o,⟨M,fs',d,G,l,E⟩,C⟩ x al Q W f;obtain⟨S,rfl⟩:=ay _ _ _ al;rw[GX<|tO ah]at Q;refine⟨o,⟨M,fs',?_,G,l.below f,E.below f⟩,C.keep f.size λZ ab h=>f.cell (p:=(ie (w.heap.size+Z) h)) (d.bx Z ab).1⟩;have bn:ad (li A N)[j]=fo:=by
  rw[ax];show(jp (li A now) ((li A N)[j]).1).isNone=fo;rcases af:jp (li A now) ((li A N)[j]).1 with _|c
  rw[show(lL (li A N)[j]).1=((li A N)[j]).1 from fX,af]at Q;cases Q;rfl
 rw[DL ad aj _ S,bn];simp only[Env,day,lJ];exact(d.below f).mono (by
  have:(fv (li A now)+j)*cb<=(fv (li A now)+(j+1))*cb:=EH cb<|by omega
  omega)
 -- compare of what is there no more
 rintro v F j wr ⟨o,⟨M,fs',d,G,l,E⟩,C⟩ x al Q W f;obtain⟨S,rfl⟩:=ay _ _ _ al;rw[GX<|tO ah]at Q;have af:jp (li A now) ((li A N)[j]).1=fj:=by
  rcases af:jp (li A now) ((li A N)[j]).1 with _|c
  rfl;rw[show(lL (li A N)[j]).1=((li A N)[j]).1 from fX,af]at Q;cases Q
 have am:=iA av<|kK S;have aD:I+3+(fv (li A now)+j)*cb+cb<=I+cB n:=by
  have:(fv (li A now)+j+1)*cb<=(fv (li A now)+fv (li A N))*cb:=EH cb<|by omega
  rw[Rt]at this;omega
 have an:=aL ((li A N)[j]).1 (.inr (by rw[am];simp)) M W fs' _ _ (d.below f).st (by omega);rw[am,af]at an;apply Ps an;rintro e J ⟨P,u,O,ao,aE,m,D,_,H,aF⟩;have⟨k,R,V⟩:=(d.below f).call (λ_ X=>X) m D H;have aG:∀b h,(b=w.heap.size\/b=wr.heap.size)->b<W.heap.size->J.c b h=W.c b h:=λb h aH aI=>R b aI (by
  rcases aH with rfl|rfl
  exact(d.bx 0<|by omega).2;exact d.st.inv.st.fresh _<|lw _) h
 refine⟨P,u,aG,?_⟩;rcases aF with⟨rfl,aJ,rfl⟩|⟨rfl,aK⟩
 refine .inl ⟨fX,o,⟨O,ao,?_,G.trans aJ,D _ _<|l.below f,D _ _<|E.below f⟩,(d.below f).box (C.keep f.size λZ ab h=>f.cell (p:=(ie (w.heap.size+Z) h)) (d.bx Z ab).1) R V⟩;have bo:ad (li A N)[j]=fm:=by rw[ax];show(jp (li A now) ((li A N)[j]).1).isNone=fm;rw[af];rfl
 rw[DL ad aj _ S,bo,lv fX,<-sP];rw[show aj (li A N)[j]=(cmpL A (gz A g.fl) qX (n-1) (q++[((li A N)[j]).1]) fj<|fh ((li A N)[j]).2).map Ak by rw[aP]];have e:I+3+(fv (li A now)+(j+1))*cb=I+3+(fv (li A now)+j)*cb+cb:=by
  rw[<-ab0,Rt];omega
 rw[e];exact k;exact .inr ⟨fX,O,ao,aE,k.mv,k.slc,k.kp,k.st.mono aD,.inr ⟨fX,G.fail aK⟩⟩
 -- the end
 rintro v F wr ⟨o,⟨M,fs',d,G,_⟩,C⟩;rw[oL,sL]at d;refine⟨M,fs',_,d.mv,d.slc,d.kp,d.st.mono<|by omega,.inl ⟨fX,G,?_⟩⟩;rw[aQ<|bj o];simp only[sP]
theorem Qp{l:List Ob}(ak:a=A++l)(al:Exact a)(am:mL a)(k:Sound A)(hF:Flat A t g.ft):∀(n:Nat),n<=5->∀(q:fQ)(b N:Option LT),GM A n b->GM A n N->BR N->(∀c,b=fh c->t.at A q=fh c)->(b≠fj\/N≠fj)->Good q->fv q+n<=5->∀(nm rH:fO)(T:gC)(w:fq)(fs:b6)(I:Nat)(L:List iV),CU T w s i p B A { g with fs:=fs } I sv dr ow t a L->I+cB n<1099511627776->
  ik 166 #[ii sv,fD<|jn q,wH<|jV nm b,wH<|jV rH N] w λe J=>∃ad,e=fF (fY ad)/\VX s i p B A sv dr ow t a g [] T w fs (I+cB n) L ((cmpL A (gz A g.fl) qX n q b N).map Ak) ad J:=by
 have V:∀{T:gC}{w:fq}{fs:b6}{I:Nat}{L:List iV},CU T w s i p B A { g with fs:=fs } I sv dr ow t a L->∀W,ju w W->w.heap.size+2<W.heap.size->KE s i p B A sv dr ow t a g [] T w w.heap.size T W fs I L:=λd W o O=>
  ⟨fI.fK o,λv es X=>X.below o,d.below o,(λx h=>by cases h),λj an=>⟨by omega,d.inv.st.fresh _<|by omega⟩⟩
 have ae:∀{n:Nat},n<=5->∀{q:fQ}{b N:Option LT},GM A n b->GM A n N->BR N->(∀c,b=fh c->t.at A q=fh c)->(b≠fj\/N≠fj)->Good q->∀(nm rH:fO){T:gC}{w:fq}{fs:b6}{I:Nat}{L:List iV},CU T w s i p B A { g with fs:=fs } I sv dr ow t a L->∃r,(NE b=NE N->(r=KB N↔∀y,IR A (gz A g.fl) b y=IR A qX N y))/\
   (NE b=NE N->∀W,ju w W->qY w.heap.size (comp q 0) (comp q 1) (comp q 2) (comp q 3) (comp q 4) (jV nm b).1 (jV rH N).1 (NE b) (KB b) (NE N) (KB N) W->ik 74 #[fD #[ii B.bt,ii dr,.map<|fh ow],fD<|jn q,fD #[hZ (jV nm b).1,fY<|NE b,fY<|KB b]] W λe J=>e=fF (fY r)/\(∃M,KE s i p B A sv dr ow t a g [] T w w.heap.size M J fs I L)/\qY w.heap.size (comp q 0) (comp q 1) (comp q 2) (comp q 3) (comp q 4) (jV nm b).1 (jV rH N).1 (NE b) (KB b) (NE N) (KB N) J/\∀P,J.c sv P=W.c sv P):=by
  intro n F q b N u z G D K H nm rH T w fs I L d;obtain⟨Q,_⟩:=d.cells;obtain⟨f,m,ao,af⟩:=d.map;cases C:b with
  |none=>
   refine⟨0,λE=>?_,λE=>?_⟩<;>(
    rw[C]at K;cases R:N with
    |none=>rw[R]at K;rcases K with d|d<;>exact absurd fX d
    |some S=>rw[R]at E;have:=mh S;have ap:(0:Int)=S.kind:=E;omega)
  |some c=>
   cases R:N with
   |none=>refine⟨0,λE=>?_,λE=>?_⟩<;>(have:=mh c;have ap:c.kind=(0:Int):=E;omega)
   |some S=>
    refine⟨hnk f q c,λE=>hnm ak al am k (af q) (D c C) (KC F<|u c C) (KC F<|z S R) (G S R) E,λE W o ag=>?_⟩
    have:=hoq (bt:=B.bt) (dr:=dr) ao o H c (λaq=>by obtain⟨r,ar,_⟩:=af q c (D c C) aq;exact⟨r,ar⟩) nm
    refine Ps this ?_;rintro e J ⟨au,U⟩;have O:=ag.1;exact⟨au,⟨T,V d J (gS o U)<|nz O U.size⟩,ag.keep U.size λj an P=>U.cell (p:=(ie (w.heap.size+j) P)) (show w.heap.size+j<W.heap.size by omega),λP=>U.cell (p:=(ie sv P))<|nz Q o.size⟩
 intro n
 induction n with
 |zero=>
  intro F q b N u z G D K H Y nm rH T w fs I L d Z;have av:=yH k u;have aw:=yH k z;obtain⟨r,ah,ai⟩:=ae F u z G D K H nm rH d;obtain⟨Q,aa,ab,ac⟩:=d.cells;refine wj (cb:=0) k d.inv.two hF F u z G D H Y nm rH (by rw[cB];omega) Z Q aa ab ac r ah ai (λ_ W o O=>⟨T,V d W o O⟩) λx h=>?_;rw[av,aw]at h;rcases h with h|h<;>exact absurd fX h
 |succ n ax=>
  intro F q b N u z G D K H Y nm rH T w fs I L d Z;have ah:=rG k u;have ai:=rG k z;obtain⟨r,t1,t2⟩:=ae F u z G D K H nm rH d;obtain⟨Q,aa,ab,ac⟩:=d.cells;refine wj (cb:=cB n) k d.inv.two hF F u z G D H Y nm rH (by
   rw[cB]
   have:(fv (li A b)+fv (li A N))*cB n<=32*cB n:=EH _<|by omega
   omega) Z Q aa ab ac r t1 t2 (λ_ W o O=>⟨T,V d W o O⟩) λx h M J fs' jW ay az aA=>?_
  have X:fN x=fm:=by
   rcases h with h|h
   obtain⟨c,C⟩:=Ri.1 h;exact tN k u _<|mU C;obtain⟨c,C⟩:=Ri.1 h;exact tN k z _<|mU C
  exact ax (by omega) (q++[x]) _ _ (jN k u x) (jN k z x) (DM G x) (λc C=>VU D C) h ⟨H.val.append (λy aj=>by simp at aj;rw[aj];exact X),by simp;omega⟩ (by simp;omega) x x M J fs' jW ay az aA
def clean (T:gC):gC:=λk=>if(T k).1=0 then(0,0)else T k
def yI(a:(T k).1≠0):clean T k=T k:=by unfold clean;rw[km a]
def sG(a:(T k).1=0):clean T k=(0,0):=by unfold clean;rw[lv a]
theorem ZH:clean T k≠(0,1):=by
 unfold clean
 all_goals grind
theorem Qq(a:lD T w):lD (clean T) w:=λk b=>sG (by rw[a k b])
theorem DN(m:fI (wh i) (clean T) M w J)(U:2<=i)(j:lD T w)(e:fZ M J s i p B A g' jW):
  ∃b:gC,fI (gA i) T b w J/\fZ b J s i p B A g' jW/\∀k,M k=(0,1)->w.heap.size<=k/\b k=(0,0):=by
 have hold:∀k,k<w.heap.size->M k=clean T k:=λk a=>m.tags k a;obtain⟨b,f⟩:∃b:gC,b=λk=>if k<w.heap.size then T k else clean M k:=⟨_,fX⟩;have t1:∀k,k<w.heap.size->b k=T k:=λk a=>by rw[f];exact lv a
 have t2:∀k,¬k<w.heap.size->b k=clean M k:=λk a=>by rw[f];exact km a
 have g:lD b J:=λk a=>by
  have:=m.size
  rw[t2 k<|by omega];exact sG (by rw[e.st.fresh k a])
 refine⟨b,⟨m.os,m.tape,m.output,m.size,t1,λk a l=>m.block k a ?_,λ_=>g⟩,e.zg g λk a=>?_,λk a=>?_⟩
 ·by_cases d:(T k).1=0
  rw[sG d];exact Mp U;rw[yI d];rintro(h|h)
  all_goals grind
 by_cases c:k<w.heap.size;rw[t1 k c];rw[hold k c]at a |-;by_cases d:(T k).1=0;rw[sG d]at a;exact absurd fX a;rw[yI d];rw[t2 k c,yI a];by_cases c:k<w.heap.size;rw[hold k c]at a;exact absurd a ZH;exact⟨by omega,by rw[t2 k c];exact sG (by rw[a])⟩
def cfC (x y:iV):Int:=Lib.compareBytes x.1.data.toList y.1.data.toList
theorem ada:SWO (Go.Proofs.ltOf cfC) where
 irrefl x:=by simp[Go.Proofs.ltOf,cfC,rO]
 trans x y z h1 h2:=iE (lX _ _ _ (Cb h1)<|Cb h2)
 ntrans x y z h1 h2:=yv<|ER _ _ _ (Rk h1) (Rk h2)
def vp(e:iV):fv (uk e)=2:=fX
theorem hpf(e:iV):∀v∈uk e,v.oneCell'=fm:=by
 intro v a;simp[uk]at a;rcases a with rfl|rfl<;>rfl
theorem KF:∀(es:List iV)(i j:Nat)(U:i<fv es),j<2->(iB es)[i*2+j]?=(uk es[i])[j]?
 |[],i,j,U,_=>by simp at U
 |e::r,0,j,_,a=>by
  simp only[iB,MX,cwd,iR,Hx]
  rw[wz (by rw[vp];exact a)]
 |e::r,i+1,j,U,a=>by
  have b:=KF r i j (by grind) a
  simp only[iB,MX,List.getElem_cons_succ]at b |-
  rw[BX (by rw[vp];omega),vp,<-b]
  grind
theorem DO(d:Array iV):(flatK uk 2 d).toList=iB d.toList:=by
 apply KT;intro t;by_cases c:t<d.size*2;have a:t % 2<2:=Nat.mod_lt _ (by omega);have U:t / 2<fv d.toList:=by simp;omega
 have b:=KF d.toList (t / 2) (t % 2) U a;rw[show t / 2*2+t % 2=t by omega]at b;rw[b];have e:t / 2<d.size:=by simpa using U
 simp only[flatK,Array.toList_map,Array.toList_range,hRS,List.getElem?_range c,qA,Ext];rw[getElem!_pos d (t / 2) e,jG (by rw[vp];exact a),getElem!_pos _ _ (by rw[vp];exact a)];rw[wA (by simp_all),wA (by rw[KA];simp;omega)]
theorem IM{g:Nat}{es:List iV}(a:w.heap[g]?=fh (.cells cur e (0,0)))(c:cur.toList.take (fv es*2)=iB es):HoldsK uk 2 w g 0 es.toArray:=by
 intro j d;have f:j<fv es*2:=by simpa using d
 refine⟨?_,by simp[World.frozen?,a]⟩;have b:(cur.toList.take<|fv es*2)[j]?=(iB es)[j]?:=by rw[c]
 rw[MU f]at b;simp only[World.cell?,a,iR];simp only[Fix,Env,day];rw[<-Wp,b];have h:=DO es.toArray
 grind
theorem Mt{g n:Nat}{a}(d:Array iV)(b:w.heap[g]?=fh (.cells cur e a)):
  (sortWorldK uk 2 w g 0 n d os).heap[g]?=fh (.cells (putCells id 0 (flatK uk 2 d) cur) e a):=by
 have c:=(lH.1 b).1;unfold sortWorldK;rw[FFI _ _ (by simpa [putRowK]using c)];simp[putRowK,putRow,mapBlock,Sort.ahead,ED,b,onCells]
theorem Ep{g n}(d:Array iV):w.grownBy (sortWorldK uk 2 w g 0 n d os) (fh g):=by
 refine⟨fX,fX,fX,by simp[sortWorldK,putRowK],λk a b=>?_⟩;unfold sortWorldK;rw[FFI _ _ (by simpa [putRowK]using a)]
 have:g≠k:=λe=>b (by rw[e])
 simp[putRowK,putRow,mapBlock,Sort.ahead,ED,this]
theorem GY(cur:Array fu)(d:Array iV)(c:d.size*2<=cur.size):(putCells id 0 (flatK uk 2 d) cur).toList.take (d.size*2)=iB d.toList:=by
 rw[<-DO];apply KT;intro j;by_cases a:j<d.size*2;rw[MU a,Wp,Wp];have b:j<(flatK uk 2 d).size:=by simpa using a
 rw[abX b,<-getElem!_pos (flatK uk 2 d) j b];simp[putCells,a,show j<cur.size by omega];rw[abW<|by omega,wA (by simp;omega)]
def xlt(w):(isAgg 133).run prog w=.ok fm w:=by kernel_rfl
def mwd(w):(Go.sizeOf 133).run prog w=.ok 2 w:=by kernel_rfl
theorem Un(x y:iV)(W:fq):ik 168 #[fD #[hZ x.1,fY x.2],fD #[hZ y.1,fY y.2]] W λe J=>e=fF (fY<|cfC x y)/\∃q b,J=grow (W.drewN q) b:=by
 have a:=λW'=>strings_Compare x.1 y.1 W';unfold cfC;generalize Lib.compareBytes x.1.data.toList y.1.data.toList=r at a |-;go_enter func168,ntmps168;go_wp2_with(go_at_call 191;apply (a _).still);go_ret;exact⟨fX,0,_,by rw[Gcd,Gcd,grow_grow];rfl⟩
theorem hpi(a off b)(w:fq):CmpLays prog 168 #[] uk 2 cfC a off b w:=λ_ _ _ _ x y=>Un x y _
def Mu (l:List iV):Prop:=l.Pairwise λx y=>ja x.1 y.1<=0
theorem ZI{a}(q:w.ownsRow 0 133 2 (fy a n c) n (iB L))(k:n=fv L)(I:n<4611686018427387904):
  ik 167 #[fy a n c,.func (.func 168) #[] #[]] w λe J=>e=qr #[]/\∃l:List iV,l.Perm L/\Mu l/\J.ownsRow 0 133 2 (fy a n c) n (iB l)/\w.grownBy J (Value.slice a n c).ownBlock:=by
 rcases q.2 with⟨m,K⟩|⟨g,h,cur,m,_,o,r,s,d,A⟩
 cases m;apply (AnyF.slices_SortFunc_none aaA fj 0 _ w).mono;rintro e J ⟨p,rfl⟩;have B:L=[]:=DX.1 (by omega);subst B;exact⟨p,[],.refl _,List.Pairwise.nil,q,⟨fX,fX,fX,lw _,λ_ _ _=>rfl⟩⟩;cases m;have C:=IM (es:=L) o (by rw[<-k];exact A);have D:∀t w,(callFunc 168 t).run prog w=.ok (.enter 168 t) w:=enters_of func168 (by kernel_rfl) rfl;have u:=AnyQ.slices_SortFunc aaA 2 xlt mwd uk vp hpf cfC ada 168 #[] g 0 c L.toArray w D (hpi g 0 L.toArray.size w) C (lH.1 o).1 (by simp only[BZ];omega);rw[show L.toArray.size=n by simp only[BZ];exact k.symm]at u;apply u.mono;rintro e J ⟨p,b,M,os,v,E,rfl⟩;have f:b.size=n:=by have:=v.1;simp only[BZ]at this;omega
 refine⟨p,b.toList,?_,?_,⟨by rw[KA];simp[f],.inr ⟨g,c,_,fX,Fr _,Mt _ o,r,s,by simp[putCells,d],by
  have:=GY cur b (by rw[d,f];exact EH 2 r)
  rw[f]at this;exact this⟩⟩,Ep b⟩
 have⟨N,_,x⟩:=v;have F:(b.extract 0 n)=b:=by rw[<-f];simp
 have G:(L.toArray.extract 0 n)=L.toArray:=by rw[k];simp
 rw[F,G]at x;simpa using x;unfold Mu;rw[Rh];intro i j U y H;simp only[pq]at U y;have z:=E i j (Fr _) H (by omega);rw[getElem!_pos b j y,getElem!_pos b i U]at z;have s:=Rk z;have d:ja (b[i]).1 (b[j]).1=- cfC b[j] b[i]:=by
  show ja _ _=- ja _ _;rw[<-Ji]
 simp only[Ext];rw[d];omega
theorem Mv(d:Nat)(h base:Int)(r:(Nat×Nat)->fq->Prop)(R:fq->iD->Nat->Nat->fq->Prop)(s:fu->fq->Prop)(t:fq->Prop)(w:fq)(L:d<w.heap.size)
  (c4:∀W,ju w W->W.c d 3=fh (fY base)/\W.c d 4=fh (hZ kq)/\W.c d 5=fh (fY 2)/\W.c d 6=fh (fY h))
  (u:ik 73 #[ii d] w λe J=>∃b,e=fF (fD #[ii d,ii b.1,.map<|fh b.2])/\r b J/\ju w J)
  (x:∀b W W',r b W->ju W W'->W'.heap[W.heap.size]?=fh (.cells #[ii d,ii b.1,.map<|fh b.2,fy fj 0 0] 259 (0,0))->W'.heap[W.heap.size+1]?=fh (.cells #[hZ kq,fY 2,fY base] 96 (0,0))->
   ik 166 #[ii W.heap.size,fD<|ml kq kq kq kq kq,fD #[hZ kq,fY 2,fY h],fD #[hZ kq,fY 2,fY base]] W' λe J=>∃f,e=fF (fY f)/\J.c d 4=fh (hZ kq)/\J.c d 5=fh (fY 2)/\J.c d 6=fh (fY h)/\J.heap[W.heap.size+1]?=fh (.cells #[hZ kq,fY 2,fY base] 96 (0,0))/\((f=0/\∃a n c,J.c W.heap.size 3=fh (fy a n c)/\R W a n c J)\/(f=14/\t J)))
  (y:∀W a n c J,R W a n c J->ik 167 #[fy a n c,.func (.func 168) #[] #[]] J λe z=>e=qr #[]/\z.c W.heap.size 3=J.c W.heap.size 3/\s (fy a n c) z):
  ik 105 #[ii d] w λe J=>∃v f,e=qr #[v,fY f]/\((f=0/\s v J)\/(f=14/\v=fy fj 0 0/\t J)):=by
 have o:=λW=>gW W;have A:fe _:=u;have M:fe _:=x;have N:fe _:=y;have p:fe _:=c4;clear u x c4 y;unfold ln jn at o;simp at o;go_enter func105,ntmps105;go_wp2_with fail;apply Ps A.o;rintro e w1 ⟨⟨dr,ow⟩,rfl,B,k⟩;simp only;have O:fe _:=B;clear B A;have C:ju w1 ((w1.k #[ii d,ii dr,.map<|fh ow,fy fj 0 0] 259).k #[hZ kq,fY 2,fY base] 96).drew:=io<|((mi _ _).alloc (lw _) _).alloc (by simp) _;have⟨d3,d4,d5,d6⟩:=p.o _<|gS k C;have⟨ac,_,_,_⟩:=p.o _ k;have ad:d<w1.heap.size:=nz L k.size;have D:=bot w1 (.cells #[ii d,ii dr,.map<|fh ow,fy fj 0 0] 259)<|.cells #[hZ kq,fY 2,fY base] 96;have i:=Wu w1 (.cells #[ii d,ii dr,.map<|fh ow,fy fj 0 0] 259)<|.cells #[hZ kq,fY 2,fY base] 96;have E:w1.heap.size+2=((w1.k #[ii d,ii dr,.map<|fh ow,fy fj 0 0] 259).k #[hZ kq,fY 2,fY base] 96).drew.heap.size:=by simp
 have j:fe _:=E;have l:((w1.k #[ii d,ii dr,.map<|fh ow,fy fj 0 0] 259).k #[hZ kq,fY 2,fY base] 96).drew.c (w1.heap.size+1) 0=fh (hZ kq)/\((w1.k #[ii d,ii dr,.map<|fh ow,fy fj 0 0] 259).k #[hZ kq,fY 2,fY base] 96).drew.c (w1.heap.size+1) 1=fh (fY 2)/\((w1.k #[ii d,ii dr,.map<|fh ow,fy fj 0 0] 259).k #[hZ kq,fY 2,fY base] 96).drew.c (w1.heap.size+1) 2=fh (fY base)/\((w1.k #[ii d,ii dr,.map<|fh ow,fy fj 0 0] 259).k #[hZ kq,fY 2,fY base] 96).drew.c d 4=fh (hZ kq)/\((w1.k #[ii d,ii dr,.map<|fh ow,fy fj 0 0] 259).k #[hZ kq,fY 2,fY base] 96).drew.c d 5=fh (fY 2)/\((w1.k #[ii d,ii dr,.map<|fh ow,fy fj 0 0] 259).k #[hZ kq,fY 2,fY base] 96).drew.c d 6=fh (fY h):=⟨lf i 0,lf i 1,lf i 2,d4,d5,d6⟩;have F:fe _:=And.intro D i;clear D i E d3;go_wp2
 go_region_held3 (λW=>W.c (w1.heap.size+1) 0=fh (hZ kq)/\W.c (w1.heap.size+1) 1=fh (fY 2)/\W.c (w1.heap.size+1) 2=fh (fY base)/\W.c d 4=fh (hZ kq)/\W.c d 5=fh (fY 2)/\W.c d 6=fh (fY h))
  (first|exact l|exact P|exact Q)
  (first
  |(go_at_call 75;refine(o _).via λae g=>?_;have G:=gS C g;have⟨_,f4,f5,f6⟩:=p.o _<|gS k G;have P:=And.intro (((kw g).1 (w1.heap.size+1) 0<|cfg (by omega) j.o).trans l.1)<|And.intro (((kw g).1 (w1.heap.size+1) 1<|cfg (by omega) j.o).trans l.2.1) (And.intro (((kw g).1 (w1.heap.size+1) 2<|cfg (by omega) j.o).trans l.2.2.1)<|And.intro f4 (And.intro f5 f6));have S:fe _:=M.o (dr,ow) _ _ O.o G ((g.block w1.heap.size<|cfg (by omega) j.o).trans F.o.1)<|(g.block (w1.heap.size+1) (cfg (by omega) j.o)).trans F.o.2)
  |(go_at_call 166;apply Ps S.o;rintro e af ⟨f,rfl,T,U,V,m,H⟩;have Q:=And.intro (lf m 0)<|And.intro (lf m 1) (And.intro (lf m 2)<|And.intro T (And.intro U V));have q:fe _:=H;clear H m))
 all_goals
  rcases q.o with⟨rfl,ag,fn,ah,X,I⟩|⟨rfl,K⟩
  ·have Y:fe _:=N.o _ _ _ _ _ I
   clear q I;go_wp2_with fail;refine Hk Y.o λai⟨Z,aa⟩=>?_
   rw[X]at Z;go_wp2;go_ret2;exact⟨_,0,fX,.inl ⟨fX,aa⟩⟩
  have ab:fe _:=K;clear q K;go_wp2;go_ret2;exact⟨_,14,fX,.inr ⟨fX,fX,ab.o⟩⟩
def Qr (A:List Ob)(fl:Nat->Option (Int×fO))(t:LT)(base:Int)(L:List iV):Prop:=L.Perm ((cmpL A (gz A fl) qX 5 [] (fh t)<|fh (.dir base)).map Ak)/\Mu L
theorem Uo{g}(f:wq T w s i p B A g I t)(H:fM A 5 t)(aN:mL A)(aO:fv A+2*jd 5 t<3000000)(Q:fM A 5 (.dir g.base))(bB:I+110000000<1099511627776):
  ik 105 #[ii B.bt] w λe J=>∃v R,e=qr #[v,fY R]/\∃M fs',fI (gA i) T M w J/\fZ M J s i p B A { g with fs:=fs' } (I+110000000)/\
   ((R=0/\g.fs.Next fs'/\∃L,Qr A g.fl t g.base L/\J.ownsRow 0 133 2 v (fv L) (iB L)/\∀b,v.ownBlock=fh b->w.heap.size<=b/\M b=(0,0))\/(R=14/\v=fy fj 0 0/\g.fs.yR fs')):=by
 have U:=f.inv.two;have D:=f.exact.sound;have⟨aB,c0,_,_⟩:=f.tree<|mi _ _;have S:=kQ g.fl 5 (lw _) t A f.exact H f.TG;have ak:=S.dr.exact f.exact;have al:=S.dr.once aN;have⟨l,ae⟩:=S.dr.app;have aP:=Gu g.fl qX 5 (lw _) t A f.exact H f.TG;have am:=f.flat.kind;have bC:cB 5<=109999999:=by decide
 -- which object the root is
 have aQ:(mn g.fl 5 t A).1=g.base↔∀y,xc A (gz A g.fl) t y=xc A qX (.dir g.base) y:=by
  have aR:fM (mn g.fl 5 t A).2 5 (.dir g.base):=by rw[ae];exact jl l 5 _ Q
  have:=VT (c:=t) (u:=.dir g.base) ak al (Kl (lw _) S.kind S.high<|mh t) aP aR (.inr ⟨_,fX⟩) am
  rw[show(LT.dir g.base).id=g.base from fX]at this;rw[this];have hsu:∀y,xc (mn g.fl 5 t A).2 qX (.dir g.base) y=xc A qX (.dir g.base) y:=λy=>by rw[ae];exact ng D l qX y 5 _ Q
  exact⟨λan y=>(an y).trans<|hsu y,λan y=>(an y).trans (hsu y).symm⟩
 obtain⟨a,aC⟩:=oX<|(mn g.fl 5 t A).2;rw[<-aC]at ak al ae;refine(Mv B.bt g.ft.root g.base (λb W=>∃V X Y,zl w p A V W ⟨b.1,X,Y⟩ b.2 A (λ_=>fj)<|fv A)
  (λW Z fn aa J=>∃M fs' dr ow L,fI (wh i) (clean T) M w J/\CU M J s i p B A { g with fs:=fs' } (I+cB 5) W.heap.size dr ow t a L/\J.heap[W.heap.size]?=fh (.cells #[ptr B.bt,ptr dr,.map<|fh ow,fy Z fn aa] 259 (0,0))/\g.fs.Next fs'/\L=(cmpL A (gz A g.fl) qX 5 [] (fh t)<|fh (.dir g.base)).map Ak)
  (λv J=>∃M fs',fI (gA i) T M w J/\fZ M J s i p B A { g with fs:=fs' } (I+110000000)/\g.fs.Next fs'/\∃L,Qr A g.fl t g.base L/\J.ownsRow 0 133 2 v (fv L) (iB L)/\∀b,v.ownBlock=fh b->w.heap.size<=b/\M b=(0,0))
  (λJ=>∃M fs',fI (gA i) T M w J/\fZ M J s i p B A { g with fs:=fs' } (I+110000000)/\g.fs.yR fs') w aB (λW r=>?_) ((Dw A aB c0).mono ?_) ?_ ?_).mono ?_
 have E:=(f.inv.below r).wp.tree.ht;exact⟨lf E 3,lf E 4,lf E 5,lf E 6⟩;rintro e J ⟨⟨dr,X,Y⟩,ow,V,O,P,r⟩;exact⟨(dr,ow),O,⟨V,X,Y,P⟩,r⟩
 -- compare at the root
 rintro⟨dr,ow⟩ W W' ⟨V,X,Y,P⟩ r ab aD;have aS:=P.via r;have ao:W.heap.size<W'.heap.size:=(lH.1 ab).1;have aT:W.heap.size+1<W'.heap.size:=(lH.1 aD).1;have bD:w.heap.size<=W.heap.size:=P.below.size;have ap:=f.inv.st.fresh;have aE:=wj (s:=s) (i:=i) (p:=p) (B:=B) (A:=A) (sv:=W.heap.size) (dr:=dr) (ow:=ow) (t:=t) (a:=a) (g:=g) (K:=[(W.heap.size+1,.cells #[hZ kq,fY 2,fY g.base] 96 (0,0))]) (n:=5) (cb:=cB 4) D U f.flat (lw _) (q:=[]) (now:=fh t) (N:=fh<|.dir g.base) (λc d=>by cases d;exact H) (λc d=>by cases d;exact Q) (λc d=>by cases d;exact .inr ⟨_,fX⟩) (λc d=>by cases d;exact pd A t) ⟨(λx z=>by cases z),by simp⟩ (by simp) kq kq (by
   have C:=rG (n:=5) D (show GM A 5 (fh t)from λc d=>by cases d;exact H);have aq:=rG (n:=5) D (show GM A 5 (fh<|LT.dir g.base)from λc d=>by cases d;exact Q)
   have:(fv (li A<|fh t)+fv (li A<|fh (.dir g.base)))*cB 4<=32*cB 4:=EH _<|by omega
   have aU:cB 5=3+32*cB 4:=fX;rw[aU];omega) (T:=clean T) (w0:=w) (w:=W') (fs:=g.fs) (I:=I) (L:=[]) (by omega) ao (lf ab 0) (lf ab 1) (lf ab 2) (mn g.fl 5 t A).1 (λ_=>aQ) (λ_ ac af aF=>?_) (λar=>absurd am ar) λx z M J fs' jW ag aV aW=>?_
 rw[show wH (jV kq<|fh t)=fD #[hZ kq,fY 2,fY g.ft.root] by show Value.agg #[hZ kq,fY t.kind,fY t.id]=_;rw[am,f.flat.root]]at aE;apply Ps aE;rintro e J ⟨R,O,M,fs',ag,m,bE,aX,F,aY⟩;have E:=F.inv.wp.tree.ht;refine⟨R,O,lf E 4,lf E 5,lf E 6,(aX _<|om.2 fX).1,?_⟩;rcases aY with⟨rfl,aG,bF⟩|⟨rfl,aZ⟩
 have⟨bb,Z,aa,ah,au,FN⟩:=F.Ug
 grind [World.cell?]
 have⟨av,aw,bc,_⟩:=DN m U ap F.inv;exact .inr ⟨fX,av,fs',aw,bc.mono<|by omega,aZ⟩
 -- the adb object works all out
 have bd:=aS.via af;have be:=DF f (b:=⟨dr,X,Y⟩) (ow:=ow) 5 (lw _) t [] H (pd A t) ⟨(λx z=>by cases z),by simp⟩ (by simp) kq V ac A (λ_=>fj) (fv A) bd .nil (λ_ _=>rfl) aO;apply Ps be;rintro e ad ⟨O,bG,bf,C,aq,bH,aH⟩;rw[<-aC]at C aH;have ai:∀k,W.heap.size<=k->k<ac.heap.size->ad.heap[k]?=ac.heap[k]?:=λk bI bg=>aq.keeps.block k bg (λbh=>by have:=(P.Kf k bh).2;omega);have bi:ac.heap.size<=ad.heap.size:=aq.keeps.size;have aI:W.heap.size<ac.heap.size:=nz ao af.size;have bJ:=aF.1;have bj:ad.heap[W.heap.size]?=fh (.cells #[ptr B.bt,ptr dr,.map<|fh ow,fy fj 0 0] 259 (0,0)):=by
  rw[ai _ (lw _) aI,af.block _ ao];exact ab
 have aj:lD (clean T) w:=Qq ap;have bk:ow≠W.heap.size:=λe=>by have:=(P.Kf ow<|.inr fX).2;omega
 have⟨bl,_,bm⟩:=C.map;have bn:w.heap.size<=ad.heap.size:=C.below.size;have aJ:lD (kV (clean T) W.heap.size (0,1)) ad:=λk h=>by rw[xt<|by omega];exact aj k<|by omega
 refine⟨O,⟨kV (clean T) W.heap.size (0,1),⟨C.below.os,C.below.tape,C.below.output,bn,λk h=>xt (by omega) _,λk h _=>C.below.block k h,λ_=>aJ⟩,λv es G=>?_,⟨?_,⟨nu _ _ _,fj,0,bj,⟨fX,.inl ⟨fX,fX⟩⟩,λb r=>by cases r⟩,⟨bf,bl,bm,λq=>aH q (ihn) λe=>by cases e⟩,?_,Fr _⟩,λx z=>?_,λj bo=>⟨by omega,?_⟩⟩,aF.keep bi λj bo ax=>wJ (a:=(ie (W'.heap.size+j) ax))<|ai (W'.heap.size+j) (by omega) (by omega),λax=>wJ (a:=(ie W.heap.size ax))<|ai _ (lw _) aI⟩;have bp:=G.below C.below;exact⟨bp.1,λb r=>by rw[xt (by have:=gc G.1 r;omega)];exact G.2 b r⟩;exact(f.inv.below C.below).zg aJ (λk h=>by
  rw[xt (λe=>by rw[e,ap _<|by omega]at h;exact h fX),yI h])
 rw[xt bk];exact aj ow (P.Kf ow<|.inr fX).1;rw[om.1 z];refine⟨?_,?_⟩;rw[ai (W.heap.size+1) (by omega)<|by omega,af.block _ aT];exact aD;rw[xt<|by simp];exact aj _ (by omega);rw[xt<|by omega];exact aj _ (by omega)
 -- below the root
 have G:fN x=fm/\Good ([]++[x]):=by
  have G:fN x=fm:=by
   rcases z with z|z
   have⟨c,d⟩:=Ri.1 z;exact tN (n:=5) D (λc d=>by cases d;exact H) _<|mU d;have⟨c,d⟩:=Ri.1 z;exact tN (n:=5) D (λc d=>by cases d;exact Q) _<|mU d
  exact⟨G,λy aK=>by simp at aK;rw[aK];exact G,by simp⟩
 exact Qp ae ak al D f.flat 4 (by omega) ([]++[x]) _ _ (jN D (λc d=>by cases d;exact H) x) (jN D (λc d=>by cases d;exact Q) x) (DM (λc d=>by cases d;exact .inr ⟨_,fX⟩) x) (λc d=>VU (λc d=>by cases d;exact pd A t) d) z G.2 (by simp) x x M J fs' jW ag aV aW
 -- the sort
 rintro W Z fn aa J ⟨M,fs',dr,ow,L,m,F,ah,aG,rfl⟩;have⟨bb,bq,br,bs,au,FN⟩:=F.Ug;rw[ah]at bs;obtain⟨rfl,rfl,rfl⟩:Z=bq/\fn=fv ((cmpL A (gz A g.fl) qX 5 [] (fh t)<|fh (.dir g.base)).map Ak)/\aa=br:=by
  grind
 have bK:=F.few;have ar:fh W.heap.size≠(Value.slice Z (fv<|(cmpL A (gz A g.fl) qX 5 [] (fh t) (fh<|.dir g.base)).map Ak) aa).ownBlock:=il au ah (by decide);apply (ZI au rfl<|by omega).mono;rintro e ay ⟨O,ag,aL,bt,bu,o⟩;have bv:W.heap.size<J.heap.size:=(lH.1 ah).1;have aw:fI (wh i) M M J ay:=⟨o.os,o.tape,o.output,o.size,λ_ _=>rfl,λk h az=>o.block k h λe=>az<|.inr (FN k e.symm),λaA k h=>aA k<|ww o.size h⟩;have aM:fI (λt=>t=(0,1)) M M J ay:=⟨o.os,o.tape,o.output,o.size,λ_ _=>rfl,λk h az=>o.block k h λe=>az<|FN k e.symm,λaA k h=>aA k<|ww o.size h⟩;have bw:fZ M ay s i p B A { g with fs:=fs' } (I+cB 5):=⟨U,F.inv.st.moves aM (λe=>by cases e) (λe=>by cases e),F.inv.wp.moves aM (λk e=>by cases e;omega)⟩;have⟨av,bx,bz,bA⟩:=DN (m.trans aw) U f.inv.st.fresh bw;refine⟨O,wJ (a:=(ie W.heap.size 3))<|o.block _ bv ar,av,fs',bx,bz.mono<|by omega,aG,ag,⟨aL,bt⟩,?_,λb r=>bA b<|FN b r⟩;rw[aL.length_eq];exact bu
 grind
def xv:Nat->List (fQ×Nd)->List fV
 |_,[]=>[]
 |k,(y,.dir)::r=>(fG y,2,0)::xv k r
 |k,(y,.file d)::r=>(fG y,1,(k:Int))::xv (k+1) r
def rc:List (fQ×Nd)->fQ
 |[]=>[]
 |(_,.dir)::r=>rc r
 |(_,.file d)::r=>d::rc r
theorem yJ:∀(L a:List (fQ×Nd))(k:Nat),xv k (L++a)=xv k L++xv (k+fv (rc L)) a
 |[],a,k=>rfl
 |(y,.dir)::r,a,k=>by
  rw[Ea,xv,xv,yJ r a k,rc]
  rfl
 |(y,.file d)::r,a,k=>by
  rw[Ea,xv,xv,yJ r a<|k+1,rc,lg,show k+(fv (rc r)+1)=k+1+fv (rc r) by omega]
  rfl
theorem tP:∀(L a:List (fQ×Nd)),rc (L++a)=rc L++rc a
 |[],a=>rfl
 |(y,.dir)::r,a=>by rw[Ea,rc,rc,tP r a]
 |(y,.file d)::r,a=>by rw[Ea,rc,rc,tP r a];rfl
theorem CV:∀(L:List (fQ×Nd))(k:Nat),fv (xv k L)=fv L
 |[],k=>rfl
 |(y,.dir)::r,k=>by rw[xv,lg,lg,CV r k]
 |(y,.file d)::r,k=>by rw[xv,lg,lg,CV r<|k+1]
theorem xS:∀(L:List (fQ×Nd)),fv (rc L)<=fv L
 |[]=>lw _
 |(y,.dir)::r=>by rw[rc,lg];exact HA (xS r)
 |(y,.file d)::r=>by rw[rc,lg,lg];exact Nat.succ_le_succ (xS r)
theorem tQ:∀(L:List (fQ×Nd))(k:Nat),(xv k L).map (·.1)=L.map λx=>fG x.1
 |[],k=>rfl
 |(y,.dir)::r,k=>by rw[xv,lM,lM,tQ r k]
 |(y,.file d)::r,k=>by rw[xv,lM,lM,tQ r<|k+1]
theorem tT:∀(L:List (fQ×Nd))(k:Nat),∀e∈xv k L,(e.2.1=1\/e.2.1=2)/\(e.2.1=1->0<=e.2.2/\e.2.2<((k+fv (rc L):Nat):Int))
 |[],k=>by intro e a;cases a
 |(y,.dir)::r,k=>by
  intro e a
  rw[xv]at a
  rcases oc.1 a with rfl|a
  grind
  rw[rc]
  exact tT r k e a
 |(y,.file d)::r,k=>by
  intro e a
  rw[xv]at a
  rw[rc,lg]
  rcases oc.1 a with rfl|a
  grind
  have:=tT r (k+1) e a
  omega
theorem GZ(c:fL q):∀(L:List (fQ×Nd))(ds b:fQ),(∀x∈L,fL x.1)->
  (((xv (fv ds) L).find? λe=>decide (e.1=fG q)).map λe=>IC (ds++rc L++b) e.2)=(L.find? λx=>decide (x.1=q)).map (·.2)
 |[],ds,b,_=>rfl
 |(y,.dir)::r,ds,b,a=>by
  rw[xv,Na,Na]
  have f:=a _<|oN ..
  by_cases e:y=q
  subst e
  simp only[WJ,qA]
  rfl
  have g:¬fG y=fG q:=λa=>e<|tk f c a
  simp only[yv e,yv g]
  exact GZ c r ds b λx h=>a x<|wC _ h
 |(y,.file d)::r,ds,b,a=>by
  rw[xv,Na,Na]
  have f:=a _<|oN ..
  by_cases e:y=q
  grind [WJ,rc,IC,Int,decide]
  have g:¬fG y=fG q:=λa=>e<|tk f c a
  simp only[yv e,yv g]
  have:=GZ c r (ds++[d]) b λx h=>a x<|wC _ h
  rwa [lI,Ca,sP ds,cbv]at this
theorem Al{P}(x)(b:fL P):iU (fG P) x=fG (P++[x]):=by
 apply iF;unfold iU;by_cases a:P=[];subst a;rw[lv (by rw[mE];exact jX []),jX];rfl;have c:¬(fG P).toList=[]:=λe=>a<|(xP b).1 (by grind [PP,mE])
 rw[km c,rW,rW,jX,jX,nZ,List.map_singleton,zB _ _ (by simpa using a)];simp[iT]
def VZ(a:Twin A O){i:Nat}(U:i<fv A):∃b:i<fv O,xg A[i] O[i]:=⟨by rw[<-a.1];exact U,a.2.1 i U (by rw[<-a.1];exact U)⟩
def thX (A:List Ob)(fc:ji)(n:Nat)(P:fQ)(x:fO×LT):List (fQ×Nd):=(P++[x.1],nd A fc x.2)::(if x.2.kind=2 then py A fc n (P++[x.1]) x.2 else [])
theorem hpk(n)(P)(m:fO)(i:Int):thX A fc n P (m,.file i)=[(P++[m],.file (bytesOf A i))]:=fX
theorem nab(n)(P)(m:fO)(i:Int):thX A fc n P (m,.dir i)=(P++[m],.dir)::py A fc n (P++[m]) (.dir i):=fX
theorem Qs{fuel n:Nat}{P}(d:fL P)(b:Nat->fO->St->St)
  (f:∀(e:fV)(a:St),(gF e).2.2.toNat<fuel->fN e.1=fm->e.2.1=2->fJ A e.2.2=2->gp A e.2.2<=n->b (gF e).2.2.toNat (fG<|P++[e.1]) a=(a.1++xv (fv a.2) (py A fc n (P++[e.1])<|.dir e.2.2),a.2++rc (py A fc n (P++[e.1])<|.dir e.2.2)))
  (g:∀e:fV,fJ A e.2.2=1->Ag O (gF e).2.2=bytesOf A e.2.2):
  ∀(es:List fV)(a:St),(∀e∈es,fN e.1=fm/\(e.2.1=1\/e.2.1=2)/\fJ A e.2.2=e.2.1/\gp A e.2.2<=n/\(gF e).2.2.toNat<fuel)->
   (es.map gF).foldl (Kd O b<|fG P) a=(a.1++xv (fv a.2) ((es.map wd).flatMap<|thX A fc n P),a.2++rc ((es.map wd).flatMap<|thX A fc n P))
 |[],a,_=>by simp[xv,rc]
 |e::r,a,c=>by
  obtain⟨o,h,_⟩:=c e<|oN ..
  rw[lM,HV,lM,MX]
  have p:(gF e).1=e.1/\(gF e).2.1=e.2.1:=⟨fX,fX⟩
  have q:=λi=>Qs (fuel:=fuel) d b f g r i λx j=>c x<|wC _ j
  rcases h with k|k
  have l:wd e=(e.1,.file e.2.2):=by unfold wd ltOf;rw[km<|by omega]
  have m:Kd O b (fG P) a (gF e)=(a.1++[(fG<|P++[e.1],1,(fv a.2:Int))],a.2++[bytesOf A e.2.2]):=by
   grind [Kd,Al]
  grind [hpk,yJ,tP,xv,rc,lI,lg,zw,sP]
  have l:wd e=(e.1,.dir e.2.2):=by unfold wd ltOf;rw[lv k]
  have m:Kd O b (fG P) a (gF e)=((a.1++[(fG<|P++[e.1],2,0)])++xv (fv a.2) (py A fc n (P++[e.1])<|.dir e.2.2),a.2++rc (py A fc n (P++[e.1])<|.dir e.2.2)):=by
   grind [Kd,decide,Al]
  grind [nab,yJ,tP,xv,rc,lI,sP]
theorem He(d:Twin A O)(f:Exact A)(g:gR O):∀(n fuel at_:Nat)(P:fQ)(a:St),at_<fuel->fL P->fJ A ((at_:Int)+1)=2->gp A ((at_:Int)+1)<=n->
  jx O fuel at_ (fG P) a=(a.1++xv (fv a.2) (py A fc n P<|.dir ((at_:Int)+1)),a.2++rc (py A fc n P<|.dir ((at_:Int)+1)))
 |n,0,at_,P,a,h,_,_,_=>absurd h<|Rq _
 |n,fuel+1,at_,P,a,h,i,j,E=>by
  have k:at_<fv A:=by
   grind [iJ]
  obtain⟨l,m⟩:=VZ d k;have o:A[at_].kind=2:=by rw[<-xa k];exact j
  have p:fT A ((at_:Int)+1)=A[at_].gh:=by
   grind [fT,Int,jG]
  obtain⟨_,_,s3⟩:=f.sound.2 _ j;rw[p]at s3;have b:EA O at_=A[at_].gh.map gF:=by
   unfold EA;rw[jG l,qA,jI,m.gh o]
  rw[jx,b];have t:∀e:fV,fJ A e.2.2=1->Ag O (gF e).2.2=bytesOf A e.2.2:=λe q=>by
   obtain⟨s,c⟩:=np (by rw[q];decide);obtain⟨u,v⟩:=VZ d c;have w:A[(e.2.2-1).toNat].kind=1:=by
    have:=q
    unfold fJ at this;rw[lv s,jG c]at this;exact this
   unfold Ag bytesOf gF;rw[jG u,jG c,qA,qA,jI,jI,v.data w]
  cases n with
  |zero=>
   have:A[at_].gh=[]:=by
    rcases F:A[at_].gh with _|⟨e,r⟩
    rfl
    have:=(s3 e (by grind)).2.2.2
    have:=f.sound.1 e.2.2
    omega
   grind [py,xv,rc]
  |succ n=>
   rw[py];simp only[kids,jI,p];refine Qs (fuel:=fuel) i (jx O fuel) (λe x y B G C H=>?_) t A[at_].gh a λe b=>?_;obtain⟨s,c⟩:=np (by rw[C];decide);have I:(((gF e).2.2.toNat:Nat):Int)+1=e.2.2:=by unfold gF;simp only;omega
   have:=He d f g n fuel (gF e).2.2.toNat (P++[e.1]) x y (i.append (λz D=>by rw[om.1 D];exact B)) (by grind) (by grind)
   grind
   obtain⟨t1,t2,t3,t4⟩:=s3 e b;have J:=g at_ l (gF e) (by rw[m.gh o];exact DY b)
   grind
theorem ZJ(b:Sound a)(c:fM a 5 t)(e:q≠[]):((py a fc 5 [] t).find? λx=>decide (x.1=q)).map (·.2)=xc a fc t q:=by
 cases f:(py a fc 5 [] t).find? λx=>decide (x.1=q) with
 |some x=>
  grind [Hv,GQ]
 |none=>
  rcases g:xc a fc t q with _|d
  rfl
  have:=hOr.1 f _<|(GQ b c).2 ⟨e,g⟩
  simp at this
theorem yK(d:Sound a)(e:fM a 5 t):∀x∈py a fc 5 [] t,x.1≠[]/\fL x.1/\fv x.1<=5:=λx g=>by
 obtain⟨h,b⟩:=(GQ d e).1<|show(x.1,x.2)∈_ from g
 unfold xc at b
 rcases f:t.at a x.1 with _|c
 rw[f]at b;cases b
 have:=tA d _ e f
 exact⟨h,this.2.2,this.1⟩
theorem KG(c:Sound a)(d:fM a 5 t)(e:t.kind=2):Reads a fc t (xv 0<|py a fc 5 [] t) (rc<|py a fc 5 [] t):=λq f=>by
 unfold gj
 by_cases b:q=[]
 subst b
 rw[lv fX,px]
 cases t<;>first|rfl|cases e
 rw[km b,css,<-ZJ c d b]
 have:=GZ f (py a fc 5 [] t) [] [] λx g=>(yK c d x g).2.1
 simp only[HL,lJ,zw]at this
 rw[<-this]
 rfl
theorem ZK(f:Sound a)(h:fM a 5 t)(G:t.kind=2):gf (xv 0<|py a fc 5 [] t) (rc<|py a fc 5 [] t):=by
 have w:=KG (fc:=fc) f h G;have p:pU (xv 0<|py a fc 5 [] t):=λe g=>by
  have m:e.1∈(xv 0<|py a fc 5 [] t).map (·.1):=DY g;rw[tQ]at m;obtain⟨x,i,H⟩:=jC.1 m;obtain⟨I,J,K⟩:=yK f h x i;exact⟨x.1,I,J,K,H.symm⟩
 have A:oJ (xv 0<|py a fc 5 [] t):=by
  unfold oJ;rw[tQ];refine wK.2 ((GN f (fc:=fc) 5 [] t h).imp_of_mem λ{x y}i L M e=>M ?_)
  have:=tk (yK f h x i).2.1 (yK f h y L).2.1 e
  grind
 have q:∀l x,fL (l++[x])->gj (xv 0<|py a fc 5 [] t) (l++[x])≠fj->∃d Y,t.at a l=fh d/\kids a d=fh Y/\x∈Y.map (·.1):=λl x n j=>by
  have b:xc a fc t (l++[x])≠fj:=λe=>j<|(w.empty n).2 e;unfold xc at b;rcases B:t.at a (l++[x])with _|c
  rw[B]at b;exact absurd fX b;obtain⟨d,Y,s,N,O⟩:=yb B;exact⟨d,Y,s,N,jC.2 ⟨_,rX O,fX⟩⟩
 refine⟨p,A,λd u=>?_,λe g=>(tT _ _ e g).1,λe g b=>?_,λl x n j=>?_⟩;rcases U:fU (xv 0<|py a fc 5 [] t) (fG d)with _|⟨y,r⟩
 simp;rw[<-U];have oh:=xQ p A u;have C:∀z∈(fU (xv 0<|py a fc 5 [] t)<|fG d).map (·.1),fN z=fm/\gj (xv 0<|py a fc 5 [] t) (d++[z])≠fj:=λz k=>by
  obtain⟨e,g,rfl⟩:=jC.1 k;obtain⟨x,i,j,rfl⟩:=(yE p u).1 g;exact⟨i,(rE<|by simp).2 j⟩
 have D:∀z,fN z=fm->fL (d++[z]):=λz k=>u.append (λT P=>by rw[om.1 P];exact k);obtain⟨b,s⟩:=C y.1 (by grind);obtain⟨c,Y,o,v,_⟩:=q d y.1 (D _ b) s;have V:=(lO f (tA f d h o).2.1 v).2.1
 have:=jU oh (ys:=Y.map (·.1)) (λz k=>by
  obtain⟨Q,R⟩:=C z k;obtain⟨W,X,E,F,m⟩:=q d z (D _ Q) R;rw[o]at E;cases E;rw[v]at F;cases F;exact m)
 grind
 have:=(tT _ _ e g).2 b
 omega;obtain⟨c,Y,o,v,_⟩:=q l x n j;have b:=w l n.left;unfold xc at b;rw[o,qA]at b;rcases S:gj (xv 0<|py a fc 5 [] t) l with _|y
 rw[S]at b;cases b
 grind [pW,qW,IC]
theorem Up(c:Sound a)(d:fM a 5 t):fv (py a fc 5 [] t)<=1200000:=by
 have b:=BJ (fc:=fc) c 5 [] t d;rw[DI,oL]at b;exact ww b<|by decide
theorem xf(l):lA l=fG l:=iF (by rw[jX];rfl)
section
variable {b:Int}
theorem hpq(f:Sound A)(g:fM A 5 t)(h:fM A 5 (.dir b))(i:Qr A fl t b L)(x:iV):x∈L↔∃y,x.1=lA y/\nW (xc A (gz A fl) t) (xc A qX<|.dir b) y=fh x.2:=by
 have d:=EB (fc:=gz A fl) (R:=qX) f 5 [] (fh t) (fh<|.dir b) (λc a=>by cases a;exact g) (λc a=>by cases a;exact h);rw[i.1.mem_iff,jC];constructor;rintro⟨z,j,rfl⟩;obtain⟨y,e,a⟩:=(d z.1 z.2).1 j;exact⟨y,by rw[HL]at e;rw[<-e];rfl,a⟩;rintro⟨y,e,a⟩;exact⟨(y,x.2),(d y x.2).2 ⟨y,fX,a⟩,by show(lA y,x.2)=x;rw[<-e]⟩
theorem Qt(a:Sound A)(c:fM A 5 t)(d:fM A 5 (.dir b)){k:Int}(e:nW (xc A (gz A fl) t) (xc A qX<|.dir b) y=fh k):Good y:=by
 grind [hna,hm2]
theorem Qu(d:Sound A)(f:fM A 5 t)(g:fM A 5 (.dir b))(h:Qr A fl t b L):L.Pairwise λx y=>ja x.1 y.1<0:=by
 have j:=EB (fc:=gz A fl) (R:=qX) d 5 [] (fh t) (fh<|.dir b) (λc a=>by cases a;exact f) (λc a=>by cases a;exact g);have i:∀z∈cmpL A (gz A fl) qX 5 [] (fh t) (fh<|.dir b),fL z.1:=λz k=>by
  obtain⟨y,e,a⟩:=(j z.1 z.2).1 k;rw[e,HL];exact(Qt d f g a).val
 have oh:(L.map (·.1)).Nodup:=(h.1.map (·.1)).nodup_iff.2 (by
  rw[Ed];exact wK.2 ((hm0 d 5 [] (fh t) (fh<|.dir b) (λc a=>by cases a;exact f) (λc a=>by cases a;exact g)).imp_of_mem λ{x y}l m n e=>n<|tk (i x l) (i y m) (by rw[<-xf,<-xf];exact e)))
 refine((wK.1 oh).and h.2).imp λ{x y}⟨o,p⟩=>?_
 grind [ja,absurd,Co]
end
def nw (l:List fV)(p:fO):Option Int:=((QQ l p).bind λi=>(l[i]?).map (·.2)).bind λx=>if x.1=1 then fh x.2 else fj
def IP (data:fQ)(f:Int):fO:=(data[f.toNat]?).getD ⟨#[]⟩
def mV (data:fQ)(base:List fV)(N:fQ)(x:fV):List fV:=if x.2.1≠1 then []else match nw base x.1 with
 |none=>[(x.1,1,0)]
 |some f=>if IP N f=IP data x.2.2 then []else [(x.1,2,0)]
def sH (E:List fV)(x:fV):List fV:=if x.2.1=1/\nw E x.1=fj then [(x.1,3,0)]else []
def wu (E:List fV)(data:fQ)(base:List fV)(N:fQ):List fV:=E.flatMap (mV data base N)++base.flatMap (sH E)
def lF (E:List fV)(data:fQ)(base:List fV)(N:fQ):List iV:=(gY<|wu E data base N).map λe=>(e.1,e.2.1)
theorem Wa{e:fV}:∀{l:List fV},oJ l->e∈l->l.find? (λx=>decide (x.1=e.1))=fh e
 |x::r,b,a=>by
  obtain⟨c,d⟩:=WC.1 b
  rcases oc.1 a with rfl|a
  simp
  rw[Na,yv λf=>c (by grind)]
  exact Wa d a
theorem vq{g:fV->List fV}(a:∀x,g x=[]\/∃k,g x=[(x.1,k)]):∀l:List fV,((l.flatMap g).map (·.1)).Sublist (l.map (·.1))
 |[]=>List.Sublist.slnil
 |x::r=>by
  rw[MX,nZ,lM]
  rcases a x with e|⟨k,e⟩
  rw[e]
  exact(vq a r).cons _
  rw[e]
  exact(vq a r).cons_cons _
theorem Qv(data)(base)(N)(x):mV data base N x=[]\/∃k,mV data base N x=[(x.1,k)]:=by
 grind [mV]
theorem Qw(E)(x):sH E x=[]\/∃k,sH E x=[(x.1,k)]:=by
 grind [sH]
def Qx(a:y≠[]):nw E (fG y)=(gj E y).bind λx=>if x.1=1 then fh x.2 else fj:=by
 unfold nw;rw[rD,nh a]
theorem KH(a:gf E data)(b:y≠[]):jB ((gj E y).map<|IC data)=(nw E<|fG y).map (IP data):=by
 rw[Qx b];rcases c:gj E y with _|x
 rfl;obtain⟨k,f⟩:=x;rcases tJ a c with e|e<;>(have e:k=_:=e;subst e;rfl)
theorem Uq(a:gf E data){e:fV}(b:e∈E)(c:e.2.1=1):nw E e.1=fh e.2.2:=by
 unfold nw;rw[rD,Wa a.one b,qA,wy,lv c]
theorem Qy{p}{f:Int}(a:nw E p=fh f):∃e∈E,e.1=p/\e.2=(1,f):=by
 grind [nw,rD,Option.bind_eq_some_iff,EE,Hv]
abbrev rdP (E:List fV)(data:fQ)(y:fQ):Option Nd:=(gj E y).map<|IC data
theorem hps(k:gf E data)(l:gf base N)(x:iV):(∃e∈wu E data base N,(e.1,e.2.1)=x)↔∃y,y≠[]/\fL y/\x.1=fG y/\nW (rdP E data) (rdP base N) y=fh x.2:=by
 have q:∀y,y≠[]->nW (rdP E data) (rdP base N) y=match nw E (fG y),nw base (fG y) with
   |some f,fh g=>if IP data f=IP N g then fj else fh 2
   |some _,fj=>fh 1
   |none,fh _=>fh 3
   |none,fj=>fj:=λy c=>by
  unfold nW rdP;rw[KH k c,KH l c];cases nw E (fG y)<;>cases nw base (fG y)<;>rfl
 constructor;rintro⟨e,a,rfl⟩;rcases qJ.1 a with a|a
 obtain⟨z,i,a⟩:=wL.1 a;obtain⟨y,c,m,_,j⟩:=k.jF z i
 grind [mV,Uq,om]
 obtain⟨z,i,a⟩:=wL.1 a;obtain⟨y,c,m,_,j⟩:=l.jF z i
 grind [sH,om,Uq]
 rintro⟨y,c,m,j,b⟩;rw[q y c,<-j]at b;cases h:nw E x.1 with
 |some f=>
  obtain⟨e,a,n,o⟩:=Qy h;obtain⟨p,_⟩:=e;simp only at n o;cases o;subst n;cases d:nw base x.1 with
  |some g=>
   rw[h,d]at b;simp only at b;split at b;cases b
   rename_i r
   refine⟨(x.1,2,0),Rn _<|wL.2 ⟨_,a,?_⟩,by rw[rK b]⟩
   grind [mV,om]
  |none=>
   rw[h,d]at b;refine⟨(x.1,1,0),Rn _<|wL.2 ⟨_,a,?_⟩,by rw[rK b]⟩
   grind [mV,om]
 |none=>
  cases d:nw base x.1 with
  |some g=>
   obtain⟨e,a,_⟩:=Qy d;rw[h,d]at b;refine⟨(x.1,3,0),Wt _<|wL.2 ⟨_,a,?_⟩,by rw[rK b]⟩
   grind [sH,om]
  |none=>rw[h,d]at b;cases b
theorem Ur(c:gf E data)(d:gf base N):((wu E data base N).map (·.1)).Nodup:=by
 unfold wu;rw[nZ,List.nodup_append];refine⟨(vq (Qv data base N) E).nodup c.one,(vq (Qw E) base).nodup d.one,?_⟩;intro a f b g e;subst e;obtain⟨x,h,rfl⟩:=jC.1 f;obtain⟨i,_⟩:=jC.1 g;obtain⟨z,_⟩:=wL.1 h
 grind [mV,sH,Uq,om]
theorem Qz{fl}{b:Int}(c:Sound A)(d:fM A 5 t)(f:fM A 5 (.dir b))(o:t.kind=2)(i:Qr A fl t b L)(j:gf E data)(k:gf base N)
  (l:Reads A (gz A fl) t E data)(m:Reads A qX (.dir b) base N):lF E data base N=L:=by
 refine CO (·.1) ?_ (Qu c d f i) λx=>?_;exact wK.2<|tY (Ur j k);rw[hpq c d f i x];have p:x∈lF E data base N↔∃e∈wu E data base N,(e.1,e.2.1)=x:=by
  grind [lF,rS,kG]
 rw[p,hps j k x];constructor;rintro⟨y,r,n,g,a⟩;refine⟨y,by rw[xf];exact g,?_⟩;unfold nW at a |-;rw[l y n,m y n];exact a;rintro⟨y,g,a⟩;have h:=Qt c d f a;refine⟨y,λq=>?_,h.val,by rw[<-xf];exact g,?_⟩;rw[q,hnc o fX]at a;cases a;unfold nW at a |-;rw[l y h.val,m y h.val]at a;exact a
theorem Mw(a:(jz S).2=fm):Good (jz S).1:=by
 unfold jz at a |-;split;exact Good.nil
 rename_i c
 rw[km c]at a;split
 rename_i b
 rw[lv b]at a;exact⟨b,Cb a⟩
 grind
theorem nx(b:S.size<=maxLen):((jz S).2=fo/\xR S)\/∃l,Good l/\S=fG l:=by
 cases a:(jz S).2 with
 |false=>
  refine .inl ⟨fX,λW=>Zr S b (λl c e=>?_) W⟩
  grind [xf,iM]
 |true=>exact .inr ⟨_,Mw a,(Gv a).symm⟩
theorem ny(l:fQ):l=[]\/∃(n:fO) (r:fQ),l=fx r++[n]:=by
 rcases a:fx l with _|⟨n,r⟩
 all_goals simp_all
def qz (A:List Ob)(fl:Fls)(op:Ops)(t:LT)(E:List fV)(data:fQ)(rest:gX):Prop:=(∃φ hs more,rest=wn hs++more/\oV A fl op t E data hs φ)/\gf E data
theorem qz.reads{fl:Fls}(a:qz A fl op t E data rest):Reads A (gz A fl) t E data:=by
 have⟨⟨c,d,e,_,b⟩,_⟩:=a;exact b.reads
def gf.len(a:gf E data)(b:fv kr=fv data):gf E kr:=⟨a.jF,a.one,a.few,a.kinds,by rw[b];exact a.files,a.up⟩
theorem qz.tree{fl:Fls}(b:qz A fl op t E data rest)(f:∀c kr,Reads A c t E kr->gf E kr->Reads A c t' iC kr)(g:wG E->wG iC)(h:gf iC data):qz A fl op t' iC data rest:=by
 have⟨⟨i,j,k,e,a⟩,l⟩:=b;exact⟨⟨i,j,k,e,a.tree (λc d m n=>f c d n<|l.len m)<|g a.num⟩,h⟩
theorem vr(E)(l):ig E l=0\/ig E l=4\/ig E l=5:=by
 unfold ig;rcases a:(List.range<|fv l).findSome? (kJ E l)with _|e
 exact .inl fX
 grind [List.findSome?_eq_some_iff,kJ]
theorem Hf(E)(l):xu E l=0\/xu E l=4\/xu E l=5:=by
 grind [xu,vr]
def hpt{e:Int}(a:e=0\/e=4\/e=5):(e==14)=fo:=by
 rcases a with a|a|a<;>(rw[a];rfl)
theorem QA(E)(S):((yr E S).2==14)=fo:=by
 grind [yr,Hf]
theorem Mx(E)(S):((rx E S).2==14)=fo:=by
 grind [rx,vr]
def P9 (x:List fV×Int):Prop:=(x.2==14)=fo
def My(E)(S a):((zt E S a).2==14)=fo:=by
 refine ro P9 (show P9 (E,_)from fX) ?_;refine ro P9 (show P9 (E,_)from fX) ?_;apply ro P9<|show P9 (E,ig E _)from hpt (vr _ _);refine ro P9 (show P9 (E,_)from fX) ?_;apply ro P9<|show P9 (E,xu E _)from hpt (Hf _ _);refine ro P9 (show P9 (E,_)from fX) ?_;refine ro P9 (show P9 (E,_)from fX) ?_;refine ro P9 (show P9 (E,_)from fX) ?_;refine ro P9 (show P9 (E,_)from fX) ?_;refine ro P9 (show P9 (E,_)from fX) ?_;refine ro P9 (show P9 (E,_)from fX) ?_;rfl
theorem Us(E)(data)(S):((lV E data S).2==14)=fo:=by
 grind [lV,vr]
theorem Ut(E)(S):((ki E S).2==14)=fo:=by
 grind [ki,vr]
theorem QB(E)(S):fv (vx E S)<=fv E:=List.length_filter_le _ _
theorem ZL(E)(S):(yr E S).1.length<=fv E+1:=by
 grind [yr,EL]
theorem Uu(E)(S):(rx E S).1.length<=fv E+1:=by
 grind [rx,HA,QB]
def Q9 (n:Nat)(x:List fV×Int):Prop:=fv x.1<=n+1
theorem Uv(E)(S a):(zt E S a).1.length<=fv E+1:=by
 have l:∀e:Int,Q9 (fv E) (E,e):=λe=>Ha _;apply ro (Q9<|fv E)<|l _;apply ro (Q9<|fv E)<|l _;apply ro (Q9<|fv E)<|l _;apply ro (Q9<|fv E)<|l _;apply ro (Q9<|fv E)<|l _;apply ro (Q9<|fv E)<|l _;apply ro (Q9<|fv E)<|l _;apply ro (Q9<|fv E)<|l _;apply ro (Q9<|fv E)<|l _;apply ro (Q9<|fv E)<|l _;apply ro (Q9<|fv E)<|l _;show((vx E a).map<|po S a).length<=_;rw[oL];exact HA<|QB _ _
def Kn (fs fs':b6)(b:Bool):Prop:=fs'.brk=b/\∃l,fs'.got=fs.got++l/\∀x,l.count x+fs.kn x=fs'.kn x
def Kn.next(a:fs.Next fs'):Kn fs fs' fs.brk:=⟨a.1,a.2.2.1⟩
theorem Kn.fail(a:fs.yR fs'):Kn fs fs' fo:=by
 obtain⟨_,rfl⟩:=a;exact⟨fX,[],by simp,λx=>by simp[b6.kn]⟩
def Er (s i p:Nat)(B:WB)(A:List Ob)(T:gC)(w J:fq)(g:WG)(I:Nat)(b:Bool)(v:fu)(E:List fV)(data:fQ)(rest:gX):Prop:=
 ∃M g' t',fI (Mine i) T M w J/\mQ M J s i p B A g' (I+400) t'/\Kn g.fs g'.fs b/\g'.base=g.base/\gL A t'/\qz A g'.fl g'.op t' E data rest/\∀k,v.ownBlock=fh k->w.heap.size<=k/\M k=(0,0)
def ZM (s i p:Nat)(B:WB)(A:List Ob)(T:gC)(w J:fq)(g:WG)(I:Nat)(E:List fV)(data:fQ)(rest:gX)(z:Bool)(v a:fu)(iC:List fV)(kr:fQ)(b:gX)(e:Ending):Prop:=
 (e=fF v/\Er s i p B A T w J g I g.fs.brk (fE fm) iC kr b)\/(z=fm/\g.fs.brk=fm/\e=fF a/\Er s i p B A T w J g I fo (fE fm) E data rest)
def aba (s i p:Nat)(B:WB)(A:List Ob)(T:gC)(w J:fq)(g:WG)(I:Nat)(E:List fV)(data:fQ)(rest:gX)(ty:ni)(z n:Nat)(b:gX)(d:Int)(e:Ending):Prop:=
 (∃a c,e=fF (fC #[fy a n c,.int .i64 d])/\J.ownsRow 0 ty z (fy a n c) n b/\Er s i p B A T w J g I g.fs.brk (fy a n c) E data rest)\/(g.fs.brk=fm/\e=fF (fC #[fy fj 0 0,.int .i64 14])/\Er s i p B A T w J g I fo (fy fj 0 0) E data rest)
structure tU (s i p:Nat)(B:WB)(gI:List Ob)(tg:gC)(w:World)(g:WG)(lim:Nat)(t:LT)(nodes:List fV)(data:fQ)(rest:gX):Prop where
 q:mQ tg w s i p B gI g lim t
 l:lim+1000<1099511627776
 inj:gL gI t
 ex:Exact gI
 tied:qz gI g.fl g.op t nodes data rest
 nl:nodes.length<=1000000000
 dl:data.length<=1000000000
def um (s i p:Nat)(B:WB)(A:List Ob)(T:gC)(w:fq)(g:WG)(I:Nat)(E:List fV)(data:fQ)(rest:gX)(z:Bool)(q h fd:Nat)(f:gX)(Sb:Nat):Prop:=
 ∃b a x iC kr c,(b==14)=fo/\fv iC<=fv E+1/\fv kr<=fv data+1/\c.drop 32=rest.drop 32/\(Calls prog h (fB (fh ⟨B.wb,0,fj⟩)::f).toArray w λe J=>ZM s i p B A T w J g I E data rest z (LF q a x b) (LF q 0 ⟨#[]⟩ 14) iC kr c e)/\
   ∀{d:Nat->Prop}{w1:fq},gl d w1 Sb E data rest->Calls prog fd (fB (fh ⟨Sb,0,fj⟩)::f).toArray w1 λe J=>e=fF (LF q a x b)/\gl (kB d w1 J) J Sb iC kr c/\fH d w1 J
theorem QC(a:mQ T w s i p B A g I t)(U:gL A t)(c:qz A g.fl g.op t E data rest)(b:ju w J)(d:v.ownBlock=fj:=by rfl):Er s i p B A T w J g I g.fs.brk v E data rest:=
 ⟨T,g,t,fI.fK b,(a.below b).mono<|by omega,Kn.next<|b6.Next.refl _,fX,U,c,λk a=>by rw[d]at a;cases a⟩
theorem vt{a}{b:Bool}(c:Rg s i p B A T w J (I+400) (Aa g fs' a))(d:Kn g.fs fs' b)(U:gL A a)(e:qz A g.fl g.op a iC data rest):Er s i p B A T w J g I b (fE fm) iC data rest:=by
 obtain⟨M,g',t',m,f,rfl,h,j,l,n⟩:=c;exact⟨M,g',t',m,f,by rw[h];exact d,l,U,by rw[j,n];exact e,λk c=>by cases c⟩
def js{e:Ending}{v a:fu}(b:mQ T w s i p B A g I t)(U:gL A t)(c:qz A g.fl g.op t E data rest)(d:e=fF v)(f:ju w J):ZM s i p B A T w J g I E data rest z v a E data rest e:=.inl ⟨d,QC b U c f⟩
theorem Hg{e:Ending}{x y:Int×LT}(U:gL A t)(d:qz A g.fl g.op t E data rest)(b:e=fF (fY x.1))(c:Rg s i p B A T w J (I+400) (Aa g fs' x.2))(hF:Fair g.fs fs' x y (14,t))(f:gL A y.2)(h:qz A g.fl g.op y.2 iC data rest):
  ZM s i p B A T w J g I E data rest fm (fY y.1) (fY 14) iC data rest e:=by
 rcases hF with⟨a,rfl⟩|⟨a,rfl⟩
 ·exact .inl ⟨b,vt c (Kn.next a) f h⟩
 exact .inr ⟨fX,a.1,b,vt c (Kn.fail a) U d⟩
theorem nan(q:tU s i p B A T w g I t E data rest)(Sb:Nat)(S:fO)(u:S.size<=1048576):um s i p B A T w g I E data rest fm 0 31 95 [hZ S] Sb:=by
 have⟨a,v,U,k,f,x,_⟩:=q;have j:=f.2;refine⟨(yr E S).2,0,kq,(yr E S).1,data,rest,QA _ _,ZL _ _,Ha _,fX,?_,λ⟨L,M,N,O,y⟩=>Sz y (j.fine x) S<|by omega⟩;have⟨z,c0,_⟩:=a.ws;rcases nx (S:=S) (ww u<|by decide) with⟨C,D⟩|⟨l,m,rfl⟩
 have e:yr E S=(E,1):=by unfold yr;rw[lv C]
 rw[e];exact(Zs B.wb S w D).mono λe J⟨b,h⟩=>js a U f b h
 rcases ny l with rfl|⟨n,r,rfl⟩
 have e:yr E (fG [])=(E,6):=by unfold yr;rw[iM Good.nil];rfl
 rw[e,<-xf];exact(Po B.wb B.bt [] Good.nil 6 (λJ=>ju w J) w z c0 λW o=>(SS B.bt W).mono λe J⟨b,h⟩=>⟨b,o.trans<|h.mono o.size⟩).mono λe J⟨b,h⟩=>js a U f b h
 have⟨F,_,G⟩:=Qh f.reads j k.sound a.ok m;rw[<-F,<-xf];refine(uri a v m).mono λe J⟨b,H⟩=>?_;rw[xf];exact Hg U f b H (RX A t g.fs (n::r)) (YY k.sound a.ok U oY n r)<|f.tree (λc d K j=>(Qh K j k.sound a.ok m).2.1) (λa=>Zw a _) G
theorem hpv(q:tU s i p B A T w g I t E data rest)(Sb:Nat)(S:fO)(u:S.size<=1048576):um s i p B A T w g I E data rest fm 0 32 96 [hZ S] Sb:=by
 have⟨a,v,U,k,f,x,_⟩:=q;have j:=f.2;refine⟨(rx E S).2,0,kq,(rx E S).1,data,rest,Mx _ _,Uu _ _,Ha _,fX,?_,λ⟨L,M,N,O,y⟩=>Ou y (j.fine x) S<|by omega⟩;have⟨z,c0,_⟩:=a.ws;rcases nx (S:=S) (ww u<|by decide) with⟨C,D⟩|⟨l,m,rfl⟩
 have e:rx E S=(E,1):=by unfold rx;rw[lv C]
 rw[e];exact(Ua B.wb S w D).mono λe J⟨b,h⟩=>js a U f b h
 rcases ny l with rfl|⟨n,r,rfl⟩
 have e:rx E (fG [])=(E,9):=by unfold rx;rw[iM Good.nil];rfl
 rw[e,<-xf];exact(Kb B.wb B.bt [] Good.nil 9 (λJ=>ju w J) w z c0 λW o=>(OV B.bt W).mono λe J⟨b,h⟩=>⟨b,o.trans<|h.mono o.size⟩).mono λe J⟨b,h⟩=>js a U f b h
 have⟨F,_,G⟩:=Kv f.reads j k.sound a.ok m;rw[<-F,<-xf];refine(lfp a v m).mono λe J⟨b,H⟩=>?_;rw[xf];exact Hg U f b H (NK A t g.fs (n::r)) (TH k.sound a.ok U oY n r)<|f.tree (λc d K j=>(Kv K j k.sound a.ok m).2.1) (λa=>Ud a _) G
def DR{S a}(b:(jz S).2=fo\/(jz a).2=fo):zt E S a=(E,1):=by unfold zt;rw[lv b]
theorem Mz{l m}(a:Good l)(b:Good m)(c:l=[]\/m=[]):zt E (fG l) (fG m)=(E,9):=by
 grind [zt,iM]
theorem hpx(H:tU s i p B A T w g I t E data rest)(Sb:Nat)(S f:fO)(y:S.size<=1048576)(z:f.size<=1048576):um s i p B A T w g I E data rest fm 0 33 97 [hZ S,hZ f] Sb:=by
 have⟨a,K,U,u,h,L,_⟩:=H;have q:=h.2;refine⟨(zt E S f).2,0,kq,(zt E S f).1,data,rest,My _ _ _,Uv _ _ _,Ha _,fX,?_,λ⟨V,X,Y,Z,M⟩=>Ox M (q.fine L) S f y z⟩;have⟨N,c0,_⟩:=a.ws;rcases nx (S:=S) (ww y<|by decide) with⟨v,x⟩|⟨l,j,rfl⟩
 ·rw[DR<|.inl v]
  exact(Qf B.wb S f w x).mono λe J⟨b,k⟩=>js a U h b k
 ·rcases nx (S:=f) (ww z<|by decide) with⟨v,x⟩|⟨m,o,rfl⟩
  ·rw[DR<|.inr v,<-xf]
   exact(Qg B.wb l j f w x).mono λe J⟨b,k⟩=>js a U h b k
  ·by_cases C:l=[]\/m=[]
   ·rw[Mz j o C,<-xf,<-xf]
    exact(Kc B.wb B.bt l m j o 9 (λJ=>ju w J) w N c0 λW D=>(Qi B.bt l m j o C W).mono λe J⟨b,k⟩=>⟨b,D.trans<|k.mono D.size⟩).mono λe J⟨b,k⟩=>js a U h b k
   ·rcases ny l with rfl|⟨n,r,rfl⟩
    ·grind
    ·rcases ny m with rfl|⟨F,G,rfl⟩
     ·grind
     ·have⟨O,_,P⟩:=Kw h.reads q u a.ok j o
      rw[<-O,<-xf,<-xf];refine(lia a K j o).mono λe J⟨b,Q⟩=>?_
      rw[xf,xf];exact Hg U h b Q (NL A t g.fs (n::r) (F::G)) (TI u.sound a.ok U oY n F r G)<|h.tree (λc d R q=>(Kw R q u a.ok j o).2.1) (λa=>Ue a _ _) P
def hp1 (x:(Int×Int)×Int):fu:=fC #[fD #[.int .i64 x.1.1,.int .i64 x.1.2],.int .i64 x.2]
theorem xno(k:tU s i p B A T w g I t E data rest)(m:t.kind=2)(S:fO)(n:S.size<=maxLen):
  ik 67 #[ii B.wb,hZ S] w λe J=>ZM s i p B A T w J g I E data rest fm (hp1<|lV E data S) (hp1 ((0,0),14)) E data rest e:=by
 obtain⟨c,o,U,q,a,_⟩:=k;rcases nx n with⟨u,v⟩|⟨l,f,rfl⟩
 have e:lV E data S=((0,0),1):=by unfold lV;rw[lv u]
 rw[e];exact(hml B.wb S w v).mono λe J⟨d,x⟩=>js c U a d x
 obtain⟨r,rfl⟩:∃r:fQ,l=fx r:=⟨fx l,by simp⟩;have⟨y,z⟩:=mod g.fl a.reads a.2 q.sound c.ok m f;rw[<-xf];refine(Tag c o f).mono λe J⟨d,h⟩=>?_;rcases Xi A g.fl t g.fs r with⟨b,j⟩|⟨b,j⟩
 ·exact .inl ⟨by unfold hp1;grind [xf],vt h (Kn.next b) U a⟩
 exact .inr ⟨fX,b.1,by rw[d,j];rfl,vt h (Kn.fail b) U a⟩
theorem nes{W}(a:xN W b es (fv es))(f:fv es<=16):W.ownsRow 0 9 1 (my b 0 (fv es)<|fv es) (fv es) (gN (es.map (·.1))):=by
 have⟨cs,d,e⟩:=a.blk;refine⟨by simp[gN],.inr ⟨b,fv es,cs,fX,Fr _,d,lw _,by unfold maxLen;omega,by rw[e,Nat.mul_one],?_⟩⟩;apply KT;intro k;by_cases c:k<fv es;have g:=a.nms k c c
 grind [World.cell?,gN]
 grind [wA,gN]
theorem look_nil{r}(a:(jA A t r).1≠0):(jA A t r).2=[]:=by
 unfold jA at a |-;simp only at a |-;split;rfl
 rename_i b
 rw[km b]at a;cases c:(pm A t r).2<;>rw[c]at a<;>first|rfl|exact absurd fX a
theorem xnz(F:tU s i p B A T w g I t E data rest)(S:fO)(G:S.size<=maxLen):
  ik 68 #[ii B.wb,hZ S] w λe J=>aba s i p B A T w J g I E data rest 9 1 (ki E S).1.length (gN (ki E S).1) (ki E S).2 e:=by
 obtain⟨h,H,U,n,c,_⟩:=F;have K:=c.reads;rcases nx G with⟨L,N⟩|⟨l,y,rfl⟩
 have e:ki E S=([],1):=by unfold ki;rw[lv L]
 rw[e];exact(hme B.wb S w N).mono λe J⟨a,O⟩=>.inl ⟨fj,0,a,jY _ _ _ _,QC h U c O⟩
 obtain⟨r,rfl⟩:∃r:fQ,l=fx r:=⟨fx l,by simp⟩;have⟨z,o⟩:=mps K c.2 n.sound h.ok y;have C:(jA A t r).2.length=(ki E<|fG (fx r)).1.length:=by rw[<-o,oL]
 have V:(jA A t r).2.length<=16:=by
  by_cases h0:(jA A t r).1=0;have⟨d,P,Q⟩:=uX h0;exact(lO n.sound (tA n.sound _ h.ok P).2.1 Q).2.1
  grind [look_nil h0]
 rw[<-xf];apply (win h H y).mono;rintro e J ⟨v,a,M,m,q,j⟩;rcases ye A t g.fs r with⟨f,k⟩|⟨f,k⟩
 ·rw[mK]at k
  rw[k]at a j;rw[xf];rcases j with⟨h0,rfl⟩|⟨h0,b,rfl,R,_⟩
  ·have D:(ki E<|fG (fx r)).1=[]:=by rw[<-o,look_nil h0];rfl
   exact .inl ⟨fj,0,by rw[a,<-z,D];rfl,by rw[D];exact jY _ _ _ _,M,_,t,m,q,Kn.next f,fX,U,c,λb u=>by cases u⟩
  refine .inl ⟨fh<|ie b 0,(ki E<|fG (fx r)).1.length,by rw[a,<-z,C],?_,M,_,t,m,q,Kn.next f,fX,U,c,?_⟩
  have:=nes (es:=(jA A t r).2.map lL) (by rw[oL];exact R) (by grind)
  rwa [oL,C,Ed,show((λx:fV=>x.1)∘lL)=(λx:fO×LT=>x.1)from fX,o]at this
  grind [Value.ownBlock,pW]
 rw[k]at a j;rcases j with⟨_,rfl⟩|⟨h0,_⟩
 exact .inr ⟨f.1,a,M,_,t,m,q,Kn.fail f,fX,U,c,λb u=>by cases u⟩;cases h0
theorem hp2{fl}(b:vV A fl)(l:List Ob):gz (A++l) fl=gz A fl:=by
 funext f
 unfold gz;rcases c:fl f with _|x
 rfl;have⟨id,d⟩:=x;simp only;by_cases a:id≠0;rw[lv a,lv a,tj l (by rw[b f id d c a];decide)]
 grind
theorem Reads.ade{c}(a:Reads A c t E data)(b:Sound A)(d:fM A 5 t)(l:List Ob):Reads (A++l) c t E data:=λq e=>by
 rw[ng b l _ q 5 t d]
 exact a q e
theorem qz.app{fl:Fls}(b:qz A fl op t E data rest)(g:Sound A)(h:fM A 5 t)(i:vV A fl)(l:List Ob):qz (A++l) fl op t E data rest:=by
 have⟨⟨j,k,m,e,a⟩,n⟩:=b;exact⟨⟨j,k,m,e,a.inj,λf o=>by rw[hp2 i l];exact a.cont f o,λc d p=>(a.par c d p).ade g h l,a.num,a.h8,a.tab,a.opf⟩,n⟩
theorem Reads.dir(a:Reads A fc t E data):t.kind=2:=by
 have:=a [] (λx b=>by cases b)
 rw[px]at this;cases t<;>first|rfl|(exfalso;cases this)
structure L4 (gI:List Ob)(ws:List Slot)(ds:List Doc)(k:Nat):Prop where
 len:ds.length=ws.length
 same:∀j (h:j<ws.length) (h':j<ds.length),qz gI ws[j].2.2.1.fl ws[j].2.2.1.op ws[j].2.2.2 ds[j].2.1 ds[j].2.2.1 ds[j].2.2.2/\ds[j].2.1.length<=k/\ds[j].2.2.1.length<=k
def gJ (B0:Nat)(w:fq)(W s r n:Nat):Prop:=∃b R T p I A O got ws ds,gq b b R T w B0 W s r p I A O got ws ds/\L4 A ws ds (1200000+n)/\I<=900*n/\(∀d,R.q d<=n)/\1<=fv ws/\fv ws<=n
theorem L4.mono{k d:Nat}(a:L4 A ws ds k)(e:k<=d):L4 A ws ds d:=⟨a.len,λj b c=>⟨(a.same j b c).1,ww (a.same j b c).2.1 e,ww (a.same j b c).2.2 e⟩⟩
theorem L4.set{d:Doc}(b:L4 A ws ds k)(h:j<fv ws)(l:qz A x.2.2.1.fl x.2.2.1.op x.2.2.2 d.2.1 d.2.2.1 d.2.2.2)(m:fv d.2.1<=k+1)(n:fv d.2.2.1<=k+1):L4 A (ws.set j x) (ds.set j d) (k+1):=by
 refine⟨by simp[b.len],λi U c=>?_⟩;have f:i<fv ws:=by simpa using U
 have g:i<fv ds:=by simpa using c
 simp only[Wz];by_cases e:j=i
 grind
 simp only[km e];have⟨a,_⟩:=b.same i f g
 grind
theorem L4.abb(a:L4 A ws ds k)(f:j<fv ws)(g:j<fv ds)(d:qz A x.2.2.1.fl x.2.2.1.op x.2.2.2 ds[j].2.1 ds[j].2.2.1 ds[j].2.2.2):L4 A (ws.set j x) ds k:=by
 refine⟨by simp[a.len],λi U b=>?_⟩;have c:i<fv ws:=by simpa using U
 simp only[Wz];by_cases e:j=i;subst e;simp only;exact⟨d,(a.same j c b).2⟩;simp only[km e];exact a.same i c b
section
variable {b:Bool}
theorem gq.ZN(a:gq b f R T w B0 W s r p I A O got ws ds)(g:Bool):gq b g R T (w.setCell (ie W 7)<|fE g) B0 W s r p I A O got ws ds/\Below B0 w (w.setCell (ie W 7)<|fE g):=by
 have d:∀k,k≠W->(w.setCell (ie W 7) (fE g)).heap[k]?=w.heap[k]?:=λk d=>sI _ _ _ _ d;have m:fI (λt=>t=(0,1)) T T w (w.setCell (ie W 7)<|fE g):=⟨fX,fX,fX,by simp,λ_ _=>rfl,λk _ l=>d k λe=>l (by rw[e];exact a.fW),λh k d=>h k (by simp_all)⟩;have h:=m.fresh a.fresh;refine⟨⟨h,a.Zo m,by simpa using a.size,a.brk,a.Mn.moves m (λe=>by cases e),a.IG,⟨a.w3.law.reset (λ_ a=>a) (λu v x y z o=>by rw[Wy _ _ _ _ _ _ o];rfl) λk _ q=>d k q,a.Zp m (λe=>by cases e),a.aai m (λe=>by cases e),a.w3.twin,a.w3.at_,qy h⟩,a.Kq m (λe=>by cases e),a.Kr m (λe=>by cases e),a.Qe m (λe=>by cases e),a.CQ m,a.apart,a.wsT m (λi c U e=>by cases e;omega),a.slot,λj n=>a.TX m n λe=>tL j (by decide) e,a.cnt,a.BL,λj n=>a.GG m (λe=>by cases e) n rfl⟩,a.low (X:=λk=>k=W) ⟨fX,fX,fX,by simp,λk _ l=>d k l⟩ λk e=>.inl (by rw[e,a.fW];decide)⟩
theorem gq.c7(a:gq b f R T w B0 W s r p I A O got ws ds):W<w.heap.size/\w.c W 7=fh (fE f)/\w.frozen? (ie W 7)=fo:=by
 have⟨d,e,g,h,i,c⟩:=a.block;exact⟨a.c01.2.2.1,by simp[World.cell?,c],by simp[World.frozen?,c]⟩
structure Pl (b:Bool)(R:vo)(tg:gC)(w:World)(B0 W s r p lim:Nat)(gI RO:List Ob)(got:List Int)(ws:List Slot)(ds:List Doc)(j n:Nat):Prop where
 m:gq b b R tg w B0 W s r p lim gI RO got ws ds
 l4:L4 gI ws ds (1200000+n)
 adf:lim<=900*n
 q_:∀d,R.q d<=n
 w1:1<=ws.length
 w2:ws.length<=n
 j1:j<ws.length
 j2:j<ds.length
 n_:n<=1048600
def hqi (g:WG)(got:List Int)(b:Bool):WG:={ g with fs:={ g.fs with got:=got,brk:=b } }
def Half (b f:Bool)(v:fu)(B0:Nat)(w J:fq)(W s r p I:Nat)(A O:List Ob)(ws:List Slot)(ds:List Doc)(R:vo)(j:Nat)(B:WB)(iC:List fV)(kr:fQ)(a:gX):Prop:=
 ∃pt M g' t' c,gq b f { R with pt:=pt } M J B0 W s r p (I+400) A O c (ws.set j (j+2,B,g',t')) ds/\qz A g'.fl g'.op t' iC kr a/\Below B0 w J/\∀k,v.ownBlock=fh k->M k=(0,0)/\B0<=k/\∀i,¬R.F i k
theorem ZO(c:gq b f R T w B0 W s r p I A O got ws ds)(a:ju w W1)(m:fI (Mine<|j+2) T M W1 J):Below B0 w J:=
 ⟨m.os.trans a.os,m.tape.trans a.tape,m.output.trans a.output,ww a.size m.size,λk d=>(m.block k (nz d<|ww c.size a.size) (by rw[c.old k d];exact rbv<|by omega)).trans<|a.block k (nz d c.size)⟩
theorem ZP(d:gq b f R T w B0 W s r p I A O got ws ds)(c:w.heap.size<W1.heap.size)(m:fI (Mine<|j+2) T M W1 J):XF w.heap.size W1 J:=
 ⟨nz c m.size,λe=>wJ (a:=(ie w.heap.size e))<|m.block w.heap.size c (by rw[d.fresh w.heap.size<|lw _];exact rbv<|by omega)⟩
theorem Half.below{w1 a}(e:Half b f v B0 w w1 W s r p I A O ws ds R j B E data rest)(c:ju w1 a):Half b f v B0 w a W s r p I A O ws ds R j B E data rest:=by
 have⟨g,M,g',t',h,d,i,k,l⟩:=e;exact⟨g,M,g',t',h,d.below c,i,k.trans<|c.mono d.size,l⟩
theorem Half.fail(c:Half b fm v B0 w w1 W s r p I A O ws ds R j B E data rest):vP W (λd=>Half b fo v B0 w d W s r p I A O ws ds R j B E data rest) w1:=by
 have⟨e,M,g',t',f,a,g,h,i⟩:=c;have⟨c1,c2,c3⟩:=a.c7;exact⟨c1,c2,c3,e,M,g',t',f,(a.ZN fo).1,g,h.trans (a.ZN fo).2,i⟩
def vP.imp{R b:fq->Prop}(a:vP W R w)(U:∀w,R w->b w):vP W b w:=⟨a.1,a.2.1,a.2.2.1,U _ a.2.2.2⟩
theorem BS(c:gq b f R T w B0 W s r p I A O got ws ds)(o:j<fv ws)(q:ws[j]=(j+2,B,g,t))(l:ju w W1)(d:Er s (j+2) p B A T W1 J (hqi g got b) I b' v E data rest):
  (w.heap.size<W1.heap.size->XF w.heap.size W1 J)/\Half b' f v B0 w J W s r p I A O ws ds R j B E data rest:=by
 have⟨M,g',t',m,u,a,x,y,z,e⟩:=d;have h:=c.below l;have⟨_,_,C⟩:=h.work o q;have⟨D,n⟩:=C (by omega) m u x a.2 y;rw[a.1]at n;exact⟨λF=>ZP c F m,D,M,g',t',_,n,z,ZO c l m,λk a=>⟨(e k a).2,ww h.size (e k a).1,λi G=>by have:=(h.held i).lt k G;have:=(e k a).1;omega⟩⟩
theorem Pl.open(P:Pl b R T w B0 W s r p I A O got ws ds j n):∃B g t Sb E data rest,ws[j]'P.j1=(j+2,B,g,t)/\ds[j]'P.j2=(Sb,E,data,rest)/\fv E<=1200000+n/\fv data<=1200000+n/\∀W1,ju w W1->tU s (j+2) p B A T W1 (hqi g got b) I t E data rest:=by
 have⟨a,L,o,_,_,_,c,k,q⟩:=P;obtain⟨B,g,t,d⟩:∃B g t,ws[j]=(j+2,B,g,t):=⟨_,_,_,by rw[<-a.slot j c]⟩;obtain⟨Sb,E,data,rest,e⟩:∃Sb E data rest,ds[j]=(Sb,E,data,rest):=⟨_,_,_,_,fX⟩;have⟨i,f,h⟩:=L.same j c k;rw[d,e]at i;rw[e]at f h;refine⟨B,g,t,Sb,E,data,rest,d,e,f,h,λW1 l=>?_⟩;have⟨m,U,_⟩:=(a.below l).work c d;simp only at f h;exact⟨m,by omega,U,a.w3.yl.2.2.1,i,by omega,by omega⟩
theorem Pl.same(P:Pl b R T w B0 W s r p I A O got ws ds j n)(l:ds[j]'P.j2=(Sb,E,data,rest))(a:Half b' b' v B0 w J W s r p I A O ws ds R j B E data rest):gJ B0 J W s r (n+1)/\Below B0 w J:=by
 have⟨m,L,o,c,e,q,f,g,t⟩:=P;have⟨u,M,g',t',h,i,x,k,_⟩:=a;exact⟨⟨b',_,M,p,I+400,A,O,h,_,_,i,(L.abb f g (by grind)).mono<|by omega,by omega,λd=>HA<|c d,by simpa using e,by simp;omega⟩,k⟩
theorem Pl.doc{g}{h:fu}{a:gX}(P:Pl b R T w B0 W s r p I A O got ws ds j n)(l:ds[j]'P.j2=(Sb,E,data,rest))(m:a.drop 32=rest.drop 32)(o:fv iC<=1200000+n+1)(q:fv kr<=1200000+n+1)
  (t:∀{c:Nat->Prop}{w1:fq},gl c w1 Sb E data rest->Calls prog fd g w1 λe J=>e=fF h/\gl (kB c w1 J) J Sb iC kr a/\fH c w1 J)(u:Half b b v B0 w w1 W s r p I A O ws ds R j B iC kr a):
  Calls prog fd g w1 λe J=>e=fF h/\gJ B0 J W s r (n+1)/\Below B0 w J:=by
 have⟨V,L,X,x,y,Y,z,C,Z⟩:=P;have⟨aa,M,g',t',D,i,F,G,_⟩:=u;have⟨H,K⟩:=i.aa0 C l;apply (t H).mono;rintro e J ⟨N,Q,f⟩;have⟨S,U⟩:=K Q m f;exact⟨N,⟨b,_,S,p,I+400,A,O,D,_,_,U,L.set z F o q,by omega,λd=>HA<|x d,by simpa using y,by simp;omega⟩,G.trans (i.low f λk f=>.inl (by grind))⟩
theorem Pl.acts(P:Pl b R T w B0 W s r p I A O got ws ds j n)(f m h i:Int)(S k)(o)(u v){G H fd q:Nat}{l:gX}(N:pts f h i S k (G,H,fd,l,q,z))
  (Q:∀{B:WB}{W1:fq}{g:WG}{t:LT}{E:List fV}{data:fQ}{rest:gX},tU s (j+2) p B A T W1 g I t E data rest->∀Sb,um s (j+2) p B A T W1 g I E data rest z q H fd l Sb):
  Calls prog G #[ii W,ii (ws[j]'P.j1).2.1.wb,ii (ds[j]'P.j2).1,fD<|pO f m h i S k o u v] w λe J=>e=fF (fE fm)/\gJ B0 J W s r (n+1)/\Below B0 w J:=by
 have⟨B,g,t,Sb,E,data,rest,K,y,ad,ae,U⟩:=P.open;rw[K,y];obtain⟨W1,C⟩:=oX<|w.k (pO f m h i S k o u v) 57;have L:ju w W1:=by rw[C];exact(mi _ _).alloc (lw _) _
 have M:w.heap.size<W1.heap.size:=by rw[C];simp
 have⟨V,a,x,iC,kr,X,Y,af,ag,Z,aa,ab⟩:=Q (U W1 L) Sb;refine XG W B.wb Sb f m h i S k o u v N a V x Y (λJ=>Half fo fm (fE fm) B0 w J W s r p I A O ws ds R j B E data rest) (λJ=>Half b b (fE fm) B0 w J W s r p I A O ws ds R j B iC kr X) _ w (λah D=>?_) (λw1 c=>(Half.fail c).imp λai c=>P.same y c) λw1 c=>P.doc y Z (by omega) (by omega) ab c;rw[D,<-C];apply aa.mono;rintro e J (⟨F,d⟩|⟨ac,D,F,d⟩)
 all_goals have⟨d1,d2⟩:=BS P.m P.j1 K L d
 exact⟨d1 M,.inl ⟨F,d2⟩⟩;exact⟨d1 M,.inr ⟨ac,F,(show b=fm from D)▸d2⟩⟩
end
theorem Am{t}{z n}{d}(e:w.ownsRow b t z v n d):∃a c,v=fy a n c:=by
 rcases e.2 with⟨rfl,rfl⟩|⟨g,h,_,rfl,_⟩
 all_goals grind
def Uw{a b:Nat->Nat}{k v n:Nat}(e:b=pD a k v)(c:∀d,a d<=n)(f:v<=n+1):∀d,b d<=n+1:=λd=>by
 rw[e]
 unfold pD
 split
 exact f
 exact HA<|c d
section
variable {b:Bool}
theorem nhi(P:Pl b R T w B0 W s r p I A O got ws ds j n)(k l m:Int)(S o:fO)(q)(u v)(F:S.size<=1048576):
  ik 50 #[ii W,ii (ws[j]'P.j1).2.1.wb,ii (ds[j]'P.j2).1,fD<|pO 8 k l m S o q u v] w λe J=>e=fF (fE fm)/\gJ B0 J W s r (n+1)/\Below B0 w J:=by
 have⟨B,g,t,Sb,E,data,rest,x,h,U,V,y⟩:=P.open;rw[x,h];have⟨_,_,_,_,z,G,H⟩:=y w<|mi _ _;refine XH W B.wb Sb k l m S o q u v (lV E data S).1.1 (lV E data S).1.2 (lV E data S).2 (Us _ _ _) (λJ=>Half fo fm (fE fm) B0 w J W s r p I A O ws ds R j B E data rest) (λJ=>Half b b (fE fm) B0 w J W s r p I A O ws ds R j B E data rest) _ w (λW1 c C=>(xno (y W1 c) z.reads.dir S (ww F<|by decide)).mono ?_) (λw1 a K L=>?_) λw1 K c=>⟨λa=>P.same h<|a.below c,λa=>(Half.fail (a.below c)).imp λX a=>P.same h a⟩
 ·rintro e J (⟨i,d⟩|⟨_,N,i,d⟩)
  all_goals have⟨d1,d2⟩:=BS P.m P.j1 x c d
  exact⟨d1 C,.inl ⟨i,d2⟩⟩;exact⟨d1 C,.inr ⟨i,(show b=fm from N)▸d2⟩⟩
 have:∃b f,Half b f (fE fm) B0 w w1 W s r p I A O ws ds R j B E data rest:=by
  grind
 have⟨_,_,Y,M,g',t',Z,Q,_⟩:=this;have⟨aa,ab,ac,ad,D⟩:=(Q.below L).Zn j P.j2;rw[h]at D;exact XD D (z.2.fine G) S (by omega) H
theorem Pl.kept{B:WB}{Sb k:Nat}{a:vo}{c}(P:Pl b R T w B0 W s r p I A O got ws ds j n)(l:ds[j]'P.j2=(Sb,E,data,rest))(e:a.q=pD R.q k (R.q k+1))(f:gq b' b' a M J B0 W s r p (I+400) A O c (ws.set j (j+2,B,g',t')) ds)(m:qz A g'.fl g'.op t' E data rest):gJ B0 J W s r (n+1):=by
 have⟨o,L,q,d,g,t,h,i,u⟩:=P;exact⟨b',a,M,p,I+400,A,O,c,_,_,f,(L.abb h i (by grind)).mono<|by omega,by omega,Uw e d<|Nat.succ_le_succ (d k),by simpa using g,by simp;omega⟩
theorem nlo(P:Pl b R T w B0 W s r p I A O got ws ds j n)(x y z:Int)(S C:fO)(D)(F G)(V:S.size<=1048576):
  ik 50 #[ii W,ii (ws[j]'P.j1).2.1.wb,ii (ds[j]'P.j2).1,fD<|pO 9 x y z S C D F G] w λe J=>e=fF (fE fm)/\gJ B0 J W s r (n+1)/\Below B0 w J:=by
 obtain⟨B,g,t,Sb,E,data,rest,H,q,an,ao,K⟩:=P.open;rw[H,q];obtain⟨_,_,_,_,X,Y,ap⟩:=K w<|mi _ _;have L:=X.2.fine Y;have aq:=P.n_;have ar:=P.q_ 8;obtain⟨h,N⟩:∃h,h=(ki E S).1:=⟨_,fX⟩;have Z:fv h<=16:=by
  have:=L.few S
  grind [ki,ru]
 have keep:∀{b':Bool}{a:iD}{m c:Nat}{ys:gX}{w1:fq},m<=16->Half b' b' (fy a m c) B0 w w1 W s r p I A O ws ds R j B E data rest->w1.ownsRow 0 9 1 (fy a m c) m ys->ik 93 #[fB<|fh (ie W 8),fy a m c] w1 λe J=>e=qr #[]/\gJ B0 J W s r (n+1)/\Below B0 w J:=by
  rintro b' a m c ys w1 au ⟨aa,M,g',t',ab,u,ac,ad,ae⟩ i;refine(u.aa1 (by grind) (by omega) i ae).mono ?_;rintro e J ⟨o,av,af,ag,ah⟩;exact⟨o,P.kept q af ag ac,ad.trans ah⟩
 refine XI W B.wb Sb x y z S C D F G (ki E S).2 (Ut _ _) h (by omega)
  (λJ=>Half fo fm (fy fj 0 0) B0 w J W s r p I A O ws ds R j B E data rest)
  (λa c J=>Half b b (fy a (fv h) c) B0 w J W s r p I A O ws ds R j B E data rest/\J.ownsRow 0 9 1 (fy a (fv h) c) (fv h) (gN h))
  _ w (λW1 k Q=>(xnz (K W1 k) S (ww V<|by decide)).mono ?_) (λw1 l=>?_) (λa c w1 l ai k=>keep Z (l.1.below k) (gg l.2 λg aj=>k.block g<|gc l.2 aj)) λw1 l ai k=>(Half.fail (l.below k)).imp λaw l ax ak=>keep (ys:=[]) (by decide) (l.below ak)<|jY _ _ _ _
 ·rintro e J (⟨a,c,o,i,d⟩|⟨al,o,d⟩)
  all_goals have⟨d1,d2⟩:=BS P.m P.j1 H k d
  rw[<-N]at o i d2;exact⟨d1 Q,.inl ⟨a,c,o,i,d2,i⟩⟩;exact⟨d1 Q,.inr ⟨o,(show b=fm from al)▸d2⟩⟩
 have:∃b f v,Half b f v B0 w w1 W s r p I A O ws ds R j B E data rest:=by
  grind
 have⟨_,_,_,aa,M,g',t',ab,u,_⟩:=this;have⟨ay,az,aA,aB,U⟩:=u.Zn j P.j2;rw[q]at U;apply (XC U L S<|by omega).mono;rintro e J ⟨v,o,i,k⟩;rw[<-N]at i;have am:=tR i<|Fr _;obtain⟨aC,aD,rfl⟩:=Am am
 all_goals grind
end
def MA (a:List Int):gX:=a.map<|Value.int .i64
def nsh{a:List Int}(b:k<fv a):(MA a)[k]?=fh (.int .i64 a[k]):=by simp[MA,jG b]
def nss(w):(Go.sizeOf 29).run prog w=.ok 1 w:=by kernel_rfl
def Hh (w:fq)(v:fu)(L:List Int):Prop:=w.ownsRow 0 29 1 v (fv L)<|MA L
theorem Hh.shape{L}(b:Hh w v L):∃a c,v=fy a (fv L) c:=by
 rcases b.2 with⟨rfl,d⟩|⟨g,c,cur,rfl,_⟩
 all_goals grind
theorem Hh.at_{a}{L}(b:Hh w (fy a n c) L)(d:k<fv L):∃g,a=fh (ie g 0)/\g<w.heap.size/\w.c g k=fh (.int .i64 L[k]):=by
 have⟨g,h,e⟩:=hh b (by omega);have f:=(lK e).1;subst f;refine⟨g,fX,gc b fX,?_⟩
 have:=World.ownsRow.cells b (g:=g) fX k _<|nsh d
 grind [Addr,Addr.add]
theorem Ux(d:Hh w v got)(p:fv got<=1099511627776):
  ik 201 #[v] w λe J=>∃a,e=fF a/\J.ownsRow w.heap.size 29 1 a (fv got) (MA got)/\ju w J:=by
 rcases d.2 with⟨rfl,f⟩|⟨g,c,cur,rfl,_⟩
 apply (Era aae 0 0 w).still;obtain rfl:got=[]:=DX.1 f;exact⟨_,fX,jY _ _ _ _,mi _ _⟩;have⟨h,U,i,k,l⟩:=kM hca;refine(AnyE.slices_Clone aae h _ 1 8 U i k l fX (by decide) nss g 0 (fv got) c (MA got) w (by simp[MA]) (by omega) (by omega) (λj m b=>by rw[iR];exact(World.ownsRow.cellAt d j (by grind)).trans b) ?_).mono ?_;intro m b;obtain⟨x,_,rfl⟩:=jC.1 b;rfl;rintro e J ⟨a,rfl,n,q,o⟩;exact⟨_,fX,n,o⟩
theorem MB(p)(v:fu)(R:fu->fq->Prop)(w:fq)(c3:w.c p 3=fh v)
  (b:ik 201 #[v] w λe J=>∃a,e=fF a/\R a J):
  ik 151 #[ii p] w λe J=>∃a,e=fF a/\R a J:=by
 change fe _ at b
 go_enter func151,ntmps151;go_wp2_with fail;apply Ps b;rintro e J ⟨a,rfl,c⟩;go_wp2;go_ret;exact⟨a,fX,c⟩
theorem MC(s p)(R:fu->fq->Prop)(w:fq)(c0:w.c s 0=fh (ii p))
  (b:ik 151 #[ii p] w λe J=>∃a,e=fF a/\R a J):
  ik 87 #[ii s] w λe J=>∃a,e=fF a/\R a J:=by
 change fe _ at b
 go_enter func87,ntmps87;go_wp2_with fail;apply Ps b;rintro e J ⟨a,rfl,c⟩;go_wp2;go_ret;exact⟨a,fX,c⟩
theorem QD{s p}{j:Bool}(k:jq T w s p A got j I)(l:I<=1099511627776):
  ik 87 #[ii s] w λe J=>∃c,e=fF c/\J.ownsRow w.heap.size 29 1 c (fv got) (MA got)/\ju w J:=by
 have⟨m,b,n,⟨a,h,o,q,r,t,d⟩,f,_⟩:=k;have g:=d.gQ.at_;have c3:w.c p 3=fh (fy b.a b.n b.c):=by unfold gw at g;simp[World.cell?,g]
 have i:=f.1;rw[f.2.1]at i c3;exact MC s p _ w d.c0<|MB p _ _ w c3 (Ux i<|by omega)
