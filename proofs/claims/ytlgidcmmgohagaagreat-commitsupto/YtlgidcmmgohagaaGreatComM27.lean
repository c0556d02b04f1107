/- A part of the proof. -/
import Derived.Test.YtlgidcmmgohagaaGreatComM26
set_option linter.all false
namespace Go.Proofs.YtlgidcmmgohagaaGreat
open Go.RowKit Go.Sort Go.Shelf Go.Proofs.Tryz
open Go.Value renaming slice->fy,string->fA,pointer->fB,tuple->fC,agg->fD,bool->fE
open Go.Ending renaming returned->fF
open Option renaming some->fh,none->fj
open Bool renaming true->fm,false->fo
open Go renaming World->fq,Value->fu
open List renaming length->fv,reverse->fx
open Go.RowKit renaming Hid->fe
set_option maxRecDepth 100000
set_option maxHeartbeats 0
variable {B0 W k I p r s:Nat}{er fg many:Int}{A J:List Ob}{d:fP}{u:Bool}{Q:List Ob->Prop}{w:fq}{N:gF}
variable {ft:kI}{s i p B0 W r I j S nc dc b o f:Nat}{B:WB}{A J:List Ob}{R:xP}{N:gF}{w H:fq}{got:List Int}{ws:List Slot}{ds:List Doc}{F:Nat->Prop}{na da:ig}{E:List fV}{data:fT}{hs:List BN}{more:iN}{vs:Nat->Option Nat}{fg pl:Int}
theorem ZR{F q}{b}{A e}(f:gQ ft F w s p A)(hDI:yX q w p b A e)(g:400<fv e)(k:fv e<1000000000):
  ik 76 #[ie b.dr] w (ut (fY 11) w):=by
 obtain⟨ds,T,y,h,z,B,rfl,l,j⟩:=hDI;have r:fv T=fv ds:=by have:=congrArg List.length l;simpa using this
 have⟨d,n⟩:=ol<|fv A;have⟨m,o⟩:=ol<|fv T;have C:400<d+m/\d+m<1000000000:=by simp only[lI]at g k;omega
 have⟨D,c0,c1,c2,c3,f1⟩:=j.hd.c;rw[<-o]at c1;have t:∃a c,w.c p 0=fh (fy a d c):=by
  have⟨a,c,E,G,H,I,i⟩:=f;exact⟨a,c,by rw[n];exact i.gR.at_.c0⟩
 have⟨a,c,u⟩:=t;have v:=λW x=>CK p d c a W x;clear f j l r o f1 c2 c3 n g k;go_enter func76,ntmps76;go_wp2
 go_quiet (first|(go_at_call 86;exact Ca<|v _ u))
 go_wp2;go_ret;exact⟨fX,iP (mi _ _) _⟩
def rep (ft:kI)(s p:Nat)(A:List Ob)(r:Int×List Ob)(N:gF)(w H:fq)(e:Ending):Prop:=
 (fv r.2<=400/\e=fF (fC #[.int .i64 r.1,.int .i64 0])/\∃a,(∃l,a=A++l)/\jg a r.2/\gQ ft (kA (λk=>N k=(1,0)) w H) H s p a/\fH (λk=>N k=(1,0)) w H)\/
 (400<fv r.2/\e=fF (fC #[.int .i64 0,.int .i64 11])/\Below w.heap.size w H)
theorem UI{f}{t}(a:wh N w s i p B A f I t)(U:gQ ft (λk=>N k=(1,0)) w s p A)(F:fM A 5 t)(L:fv A+2*je 5 t<3000000)(M:B.wb<w.heap.size)(O:w.c B.wb 0=fh (ie B.bt)):
  ik 18 #[ie B.wb] w λe H=>rep ft s p A (mn f.fl 5 t A) N w H e:=by
 have G:=kT f.fl 5 (lw _) t A a.exact F a.TH;have⟨J,c0,_⟩:=a.tree<|mi _ _;have⟨er,h⟩:=ol (if(mn f.fl 5 t A).2.length<=400 then 0 else 11:Int);have P:er=0\/er=11:=by rw[h];split<;>simp
 refine(YY B.wb B.bt (if er=0 then(mn f.fl 5 t A).1 else 0) er (λH=>(er=0->∃y,(∃l,y=A++l)/\jg y (mn f.fl 5 t A).2/\gQ ft (kA (λk=>N k=(1,0)) w H) H s p y/\fH (λk=>N k=(1,0)) w H)/\(er=11->ju w H)) w M O
  (PA B.bt 0 f.ft.root (λb W=>∃j c d,zn w p A j W ⟨b.1,c,d⟩ b.2 A (λ_=>fj)<|fv A) (λb W=>∃j c d z K,zn w p A j W ⟨b.1,c,d⟩ b.2 (mn f.fl 5 t A).2 z K) _ _ er w J (λW q=>?_) ((Dx A J c0).mono ?_) ?_ ?_ P)).mono ?_
 have E:=(a.inv.below q).wp.tree.ht;exact⟨lf E 4,lf E 5,lf E 6⟩;rintro e H ⟨⟨u,c,d⟩,ow,j,g,v,q⟩;exact⟨(u,ow),g,⟨j,c,d,v⟩,q⟩;rintro⟨u,ow⟩ W Q ⟨j,c,d,v⟩ q
 have:=DG a (b:=⟨u,c,d⟩) (ow:=ow) 5 (lw _) t [] F (oX A t) ⟨(λx R=>by cases R),by simp⟩ (by simp) kq j Q A (λ_=>fj) (fv A) (v.via q) .nil (λ_ _=>rfl) L
 rw[a.flat.kind,<-a.flat.root]at this;apply this.mono;rintro e H ⟨g,S,z,C,D,_⟩;refine⟨g,⟨S,c,d,z,_,C⟩,C.below,D.keeps.size,λk o ab T=>D.cell T (λV=>?_) o⟩
 have:=(v.Ka k V).2
 omega;rintro⟨u,ow⟩ W n ⟨j,c,d,z,K,v⟩;have m:=v.via<|iP (mi _ _) n;by_cases r:(mn f.fl 5 t A).2.length<=400;rw[lv r]at h;subst h;apply (lem (b:=⟨u,c,d⟩) (U.below m.below λ_ _ a=>a) (a.gR m).2 m.Pw G.dr r).mono;rintro e H ⟨g,y,X,Y,Z,aa⟩;exact⟨g,λ_=>⟨y,X,Y,Z.wide λk hF=>BH m.below.size k hF,yC m.below aa⟩,λa=>by cases a⟩;rw[km r]at h;subst h;refine(ZR (b:=⟨u,c,d⟩) (U.below m.below λ_ _ a=>a) m.Pw (by omega) (by have:=G.len;omega)).mono ?_;rintro e H ⟨g,q⟩;exact⟨g,(λa=>by cases a),λ_=>gS m.below q⟩;rintro e H ⟨g,C,D⟩;by_cases r:(mn f.fl 5 t A).2.length<=400;rw[lv r]at h;subst h;exact .inl ⟨r,g,C fX⟩;rw[km r]at h;subst h;exact .inr ⟨by omega,g,D fX⟩
theorem jg.twin{x y J}(f:jg x y)(c:Twin y J):Twin x J:=by
 have g:∀i(a:i<fv x)(b:i<fv y),x[i].core=y[i].core:=λi a b=>by
  have:=f.get i
  rw[jH a,jH b]at this;exact rF this
 have m:=f.len;refine⟨m.trans c.1,λi a b=>?_,λo n=>?_⟩
 ·have e:=g i a (by omega)
  obtain⟨h,j,k,p,a5,l⟩:=c.2.1 i (by omega) b;unfold Ob.core at e;simp only[vo]at e;obtain⟨q,s,t,r⟩:=e;rw[<-q]at h j k a5 l;refine⟨h,λd=>(j d).trans ?_,λd=>(k d).trans ?_,p.trans r.symm,a5,l⟩
  all_goals grind
 obtain⟨i,U,rfl⟩:=rD n;have e:=congrArg Prod.fst<|g i U (by omega);have e:x[i].kind=y[i].kind:=e;rw[e];exact c.2.2 _<|kN _
theorem ZT{f a}{g:Int×List Ob}(j:KD f g)(l:jg a g.2)(c:Nat->Bool)(x:c (g.1-1).toNat=fm)(q:∀i o,c i=fm->fv f<=i->a[i]?=fh o->∀e∈o.gh,o.kind=2->c (e.2.2-1).toNat=fm):∀(d i:Nat),fv a-i=d->fv f<=i->i<fv a->c i=fm:=by
 have r:=l.len;intro d
 induction d using Nat.strongRecOn with
 |_ d s=>
  intro i z t A;by_cases e:i+1=fv a
  have:=j.1<|by omega
  grind
  have⟨k,o,B,m,n,y,C,u⟩:=j.2 i t (by omega);have h:k<fv a:=by rw[r];exact(wH.1 m).1
  have b:=l.get k;rw[m,jH h]at b;have b:=rF b;unfold Ob.core at b;simp only[vo]at b;have⟨v,_,w,_⟩:=b;have p:=v.trans n;rw[lv p,lv n]at w
  have:=q k a[k] (s (fv a-k) (by omega) k fX (by omega) h) (by omega) (jH h) y (by grind) p
  rwa [u,show((i:Int)+1-1).toNat=i by omega]at this
section
variable {n:Nat}
theorem gq.ofQ(b:gq fo fo R N w B0 W s r p I A J got ws ds)
  (j:mN Q ⟨R.pt,p,A⟩ (λk=>N k=(0,1)) (λk=>N k=(0,2)) (λk=>N k=(1,0)) w H W s r (fy R.wa (fv ws) R.wc) (fy R.ta (fv ds) R.tc) (fE fo) (R.sl 8) (R.sl 9) (R.sl 10) (R.sl 11)):
  ∃f M l g,Q (A++l)/\f.q=R.q/\gq fo fo f M H B0 W s r p I (A++l) g got ws ds/\Below B0 w H:=by
 have⟨B,C,Y,Z,g,m,h,a,n⟩:=j;have o:∀k,N k=(0,0)->¬F3 (λk=>N k=(0,1)) (λk=>N k=(0,2)) (λk=>N k=(1,0)) k:=λk a e=>by
  rcases e with e|e|e<;>(rw[a]at e;cases e)
 have i:∀k,R.F 9 k->¬F3 (λk=>N k=(0,1)) (λk=>N k=(0,2)) (λk=>N k=(1,0)) k:=λk a=>o k (b.holds 9 k a).1;obtain⟨f,M,l,rfl,q,t,u⟩:=b.Km m ((b.held 9).keep (λk c=>a.block k ((b.held 9).lt k c)<|i k c) a.size) (λk c v=>by
  rcases h.all k v with e|e
  exact i k c e
  have:=(b.held 9).lt k c;omega) h (λk c=>.inl c) ⟨a.os,a.tape,a.output,a.size,λk x y=>a.block k x λb=>y<|.inl b⟩
 exact⟨f,M,l,g,n,q.trans (funext λd=>by unfold pC;split<;>rename_i z<;>first|rw[z]|rfl),t,u⟩
theorem ZU(bj:n<=1048600)(o:gq fo fo R N w B0 W s r p I A J got ws ds)(aB:L4 A ws ds (1200000+n))(bk:I<=900*n)(aQ:∀d,R.q d<=n)(aR:1<=fv ws)(bl:fv ws<=n)(ac:j<fv ws)(aC:j<fv ds):
  hp1 W ws[j].2.1.wb ds[j].1 (λH=>gK B0 H W s r (n+1)/\Below B0 w H) w:=by
 obtain⟨B,g,t,ad⟩:∃B g t,ws[j]=(j+2,B,g,t):=⟨_,_,_,by rw[<-o.slot j ac]⟩;obtain⟨ai,E,data,rest,aj⟩:∃ai E data rest,ds[j]=(ai,E,data,rest):=⟨_,_,_,_,fX⟩;obtain⟨ae,aD,aE⟩:=aB.same j ac aC;have ak:=(o.DJ j ac).1;have al:=o.Zr j aC;rw[ad,aj]at ae;rw[aj]at aD aE al;rw[ad]at ak;rw[ad,aj];simp only at ae aD aE al ak |-;have X:Exact A:=o.w3.wI.2.2.1;have aF:mL A:=o.w3.wI.2.2.2;have aS:=(W3.few o.w3);have aa:=o.BM;have aT:0<fv J:=by rw[aS.2];have:=(nl (a:=A) (id:=g.base) (by rw[ak.1];decide)).2;omega
 have bm:cM 5=1118481:=by decide
 have mk:∀f,ju w f->fM A 5 t/\nY A g.fl/\ik 18 #[ie B.wb] f λe H=>rep R.pt s p A (mn g.fl 5 t A) N f H e:=λf m=>by
  obtain⟨L,U,_⟩:=(o.below m).work ac ad;obtain⟨aU,c0,_⟩:=L.ws;have bn:=Uy 5 t L.ok;have aG:wh N f s (j+2) p B A (Wf g got) I t:=⟨L.inv,L.flat,X,L.fl⟩;have am:=UI aG (o.below m).w3.wI.1 L.ok (by omega) aU c0;exact⟨L.ok,aG.TH,am⟩
 obtain⟨an,ao,_⟩:=mk w<|mi _ _;have ap:=kT g.fl 5 (lw _) t A X an ao;have hid:=nl (a:=(mn g.fl 5 t A).2) (id:=(mn g.fl 5 t A).1) (by rw[ap.kind];exact ne0<|mh _);have aV:=ZQ (fl:=g.fl) 5 (lw _) t A X an ao<|UD o.w3.twin o.w3.at_;have tags:∀{a b:Nat×Nat},a≠b->∀k,N k=a->¬N k=b:=λc k P C=>c<|P.symm.trans C;have lt:∀{a:Nat×Nat},a≠(0,0)->∀k,N k=a->k<w.heap.size:=λc k h=>o.fresh.lt (by grind);have aH:∀{f O:fq},ju w f->fH (λk=>N k=(1,0)) f O->W<O.heap.size/\O.c W 1=fh (ie r)/\ik 57 #[ie ai,ie r] O λe H=>∃x q,e=pD #[fY x,fY<|if x<0 then 11 else 0]/\UH (mn g.fl 5 t A) J q x/\gj (kA (λk=>N k=(0,2)) O H) H r q/\fH (λk=>N k=(0,2)) O H:=λ{f O}m h=>by
  have bo:=m.size;have bp:=h.size;have same:∀{a:Nat×Nat},a≠(0,0)->a≠(1,0)->∀k,N k=a->O.heap[k]?=w.heap[k]?:=λaW P k D=>(h.block k (by grind) (tags P k D)).trans<|m.block k (lt aW k D);obtain⟨na,nc,da,dc,aX⟩:=al;obtain⟨_,c1,aI,_⟩:=o.c01;have aJ:((0,8+j):Nat×Nat)≠(0,0):=vR j (by decide);refine⟨by omega,(wJ (a:=(ii W 1))<|same (by decide) (by decide) W o.fW).trans c1,QK ae.reads ae.2 X aF an ao (by omega) (by omega) (aX.keep (λ_ c=>c)<|same aJ (λe=>by have:=congrArg Prod.fst e;simp at this)) (o.w3.ref.keep (λ_ c=>c)<|same (by decide) (by decide)) (λk D=>?_) (λk D=>⟨?_,tags (vR j<|by decide) k D⟩) o.w3.twin o.w3.at_ aT⟩
  have:=lt (by decide) k D
  omega
  have:=lt aJ k D
  omega
 have aK:∀{H:fq},mN (λ_=>True) ⟨R.pt,p,A⟩ (λk=>N k=(0,1)) (λk=>N k=(0,2)) (λk=>N k=(1,0)) w H W s r (fy R.wa (fv ws) R.wc) (fy R.ta (fv ds) R.tc) (fE fo) (R.sl 8) (R.sl 9) (R.sl 10) (R.sl 11)->gK B0 H W s r (n+1)/\Below B0 w H:=λc=>by
  obtain⟨aY,M,l,q,_,e,aZ,bb⟩:=o.ofQ c;exact⟨⟨aY,M,p,I,A++l,q,got,ws,ds,aZ,(aB.grow o l).mono<|by omega,by omega,λd=>by rw[e];exact wu<|aQ d,aR,by omega⟩,bb⟩
 by_cases bq:(mn g.fl 5 t A).2.length<=400
 ·refine⟨(mn g.fl 5 t A).1,0,(mn g.fl 5 t A).1-1,0,r,λO=>∃f y,ju w f/\(∃l,y=A++l)/\jg y (mn g.fl 5 t A).2/\gQ R.pt (kA (λk=>N k=(1,0)) f O) O s p y/\fH (λk=>N k=(1,0)) f O,λu=>∃f O y q,(ju w f/\(∃l,y=A++l)/\jg y (mn g.fl 5 t A).2/\gQ R.pt (kA (λk=>N k=(1,0)) f O) O s p y/\fH (λk=>N k=(1,0)) f O)/\Twin (mn g.fl 5 t A).2 q/\gT q/\gj (kA (λk=>N k=(0,2)) O u) u r q/\fH (λk=>N k=(0,2)) O u,λf m=>(mk f m).2.2.mono ?_,?_,.inr ⟨fX,fX,s,(mn g.fl 5 t A).2.length,λS=>∃aq ar Y Z q,W3 ⟨R.pt,p,A⟩ aq ar Y S W s r Z q (fy R.wa (fv ws) R.wc) (fy R.ta (fv ds) R.tc) (fE fo) (R.sl 8) (R.sl 9) (R.sl 10) (R.sl 11)/\zP (λk=>N k=(0,1)) (λk=>N k=(0,2)) (λk=>N k=(1,0)) aq ar Y w.heap.size/\fH (F3 (λk=>N k=(0,1)) (λk=>N k=(0,2)) λk=>N k=(1,0)) w S/\fv Z=(mn g.fl 5 t A).2.length,?_,?_⟩⟩
  ·rintro e O (⟨_,T,y,P,C,K,af⟩|⟨c,_⟩)
   all_goals grind
  ·rintro O ⟨f,y,m,P,C,K,af⟩
   obtain⟨au,av,aw⟩:=aH m af;refine⟨au,av,aw.mono ?_⟩;rintro e u ⟨x,q,T,⟨_,rfl,br,ag,aL⟩|⟨c,_⟩,ab,h⟩
   all_goals grind
  rintro u ⟨f,O,y,q,⟨m,⟨l,rfl⟩,C,K,af⟩,ag,aL,ab,h⟩ V;have v:ju u (u.drewN V):=iP (mi _ _) V;have D:fH (λk=>N k=(0,2)) O (u.drewN V):=⟨v.os.trans h.os,v.tape.trans h.tape,v.output.trans h.output,wy h.size v.size,λk F G=>(v.block k (np F h.size)).trans<|h.block k F G⟩;obtain⟨ax,ay,az,Q,aA⟩:=ym aa m af ⟨K,⟨l,fX⟩,C.exact<|ap.dr.exact X,C.once<|ap.dr.once aF⟩ D;have ah:=C.len
  have:=Cw ax (ab.below v λk c=>c.imp id λc=>⟨c.1,np c.2 v.size⟩) ay az aL (C.twin ag) (by simp) (j:=((mn g.fl 5 t A).1-1).toNat) (by omega) λbc bd am i P F=>ZT aV C bc bd am _ i fX P F
  rw[show((((mn g.fl 5 t A).1-1).toNat:Nat):Int)=(mn g.fl 5 t A).1-1 by omega,Int.sub_add_cancel]at this;refine this.mono ?_;rintro e S ⟨T,F,G⟩;have z:=Q.size;exact⟨T,_,_,_,_,_,F,λk=>⟨λc=>c.imp id λc=>wy z c.1,(aA k).2⟩,⟨G.os.trans Q.os,G.tape.trans Q.tape,G.output.trans Q.output,wy z G.size,λk aM aN=>(G.block k (np aM z) λc=>aN<|.inl c).trans<|Q.block k aM aN⟩,ah⟩;rintro S ⟨aq,ar,Y,Z,q,K,be,h,ah⟩;obtain⟨bf,bg,aI,_⟩:=K.law.cells;obtain⟨bh,bi,aO⟩:=K.ref;have ag:=K.twin.1;refine⟨aI,aO.lt,bf,bg,⟨bh,bi,by rw[<-ah,ag];exact aO.c0⟩,λV=>?_⟩;have v:ju S (S.drewN V):=iP (mi _ _) V;have aP:=K.below v
  have:=zb aP.wI
  rw[ah]at this;exact⟨aK ⟨_,_,_,_,_,aP,be,⟨v.os.trans h.os,v.tape.trans h.tape,v.output.trans h.output,wy h.size v.size,λk F G=>(v.block k (np F h.size)).trans<|h.block k F G⟩,trivial⟩,this⟩
 refine⟨0,11,-1,11,r,λO=>ju w O,λu=>∃O,ju w O/\gj (kA (λk=>N k=(0,2)) O u) u r J/\fH (λk=>N k=(0,2)) O u,λf m=>(mk f m).2.2.mono ?_,λO m=>?_,.inl ⟨by decide,fX,fX,?_⟩⟩
 ·rintro e O (⟨c,_⟩|⟨_,T,c⟩)
  ·all_goals omega
  exact⟨T,m.trans<|c.mono m.size⟩
 ·obtain⟨au,av,aw⟩:=aH m (fH.refl O)
  refine⟨au,av,aw.mono ?_⟩;rintro e u ⟨x,q,T,⟨c,_⟩|⟨_,rfl,rfl⟩,ab,h⟩
  all_goals grind
 rintro u ⟨O,m,ab,h⟩;obtain⟨ax,ay,az,Q,aA⟩:=ym aa m (fH.refl O) (iL.below (aa.wI) m (F':=kA (λk=>N k=(1,0)) O O) λk _ c=>.inl c) h;exact aK ⟨_,_,_,A,J,⟨ax,ab,ay,aa.twin,aa.at_,az⟩,aA,Q,trivial⟩
theorem gq.aaL{b}(d:gq fo fo R N w B0 W s r p I A J got ws ds)
  (f:ik 20 b w λe H=>e=fF (fE fm)/\mN Q ⟨R.pt,p,A⟩ (λk=>N k=(0,1)) (λk=>N k=(0,2)) (λk=>N k=(1,0)) w H W s r (fy R.wa (fv ws) R.wc) (fy R.ta (fv ds) R.tc) (fE fo) (R.sl 8) (R.sl 9) (R.sl 10) (R.sl 11)):
  ik 20 b w λe H=>e=fF (fE fm)/\∃a M Z c,Q Z/\a.q=R.q/\gq fo fo a M H B0 W s r p I Z c got ws ds/\Below B0 w H:=by
 refine f.mono ?_;rintro e H ⟨g,hs⟩;obtain⟨a,M,l,c,h,i,j,m⟩:=d.ofQ hs
 grind
end
theorem xor{w O:fq}(U:gQ pt0 (kA (λ_=>False) w O) O s p [])(u:ju w O):
  ∃R N,R.q=(λ_=>0)/\gq fo fo R N ((O.k #[fy fj 0 0] 94).k #[ie s,ie O.heap.size,fy fj 0 0,fy fj 0 0,fy fj 0 0,fy fj 0 0,fy fj 0 0,fE fo,fy fj 0 0,fy fj 0 0,fy fj 0 0,fy fj 0 0] 71) w.heap.size (O.heap.size+1) s O.heap.size p 0 [] [] [] [] []:=by
 have z:=u.size;obtain⟨f,l⟩:∃f,f=O.k #[fy fj 0 0] 94:=⟨_,fX⟩;rw[<-l];obtain⟨d,m⟩:∃d,d=f.k #[ie s,ie O.heap.size,fy fj 0 0,fy fj 0 0,fy fj 0 0,fy fj 0 0,fy fj 0 0,fE fo,fy fj 0 0,fy fj 0 0,fy fj 0 0,fy fj 0 0] 71:=⟨_,fX⟩;rw[<-m];have v:f.heap.size=O.heap.size+1:=by rw[l];simp
 have G:d.heap.size=O.heap.size+2:=by rw[m];simp[v]
 have y:d.heap[O.heap.size]?=fh (.cells #[fy fj 0 0] 94 (0,0)):=by
  grind [sG,nX]
 have A:d.heap[O.heap.size+1]?=fh (.cells #[ie s,ie O.heap.size,fy fj 0 0,fy fj 0 0,fy fj 0 0,fy fj 0 0,fy fj 0 0,fE fo,fy fj 0 0,fy fj 0 0,fy fj 0 0,fy fj 0 0] 71 (0,0)):=by
  grind [nX]
 have c:∀k,k<O.heap.size->d.heap[k]?=O.heap[k]?:=λk c=>by
  rw[m,sG _ _ _<|by omega,l,sG _ _ _ c]
 obtain⟨N,g⟩:∃N:gF,N=λk=>if k=O.heap.size+1 then(0,1)else if k=O.heap.size then(0,2)else if w.heap.size<=k/\k<O.heap.size then(1,0) else(0,0):=⟨_,fX⟩;have t1:N (O.heap.size+1)=(0,1):=by rw[g];exact lv fX
 have t2:N O.heap.size=(0,2):=by rw[g];simp
 have t3:∀k,w.heap.size<=k->k<O.heap.size->N k=(1,0):=λk n B=>by
  rw[g];simp only;rw[km<|by omega,km<|by omega,lv ⟨n,B⟩]
 have r:lG N d:=λk h=>by
  rw[g];simp only;rw[km<|by omega,km<|by omega,km<|by omega]
 have C:∀{t D:lV}{z:Nat}{E:Nat->iN},zf (λ_=>False) t D z E d fj 0 0 []:=⟨fX,kO _ _ _ _,(λe a=>by cases a),(λi U=>by cases U),λk c=>c.elim⟩;refine⟨⟨pt0,fj,0,fj,0,λ_=>fj,λ_=>0,λ_=>0,λ_=>[],λ_ _=>False,λ_=>([],[])⟩,N,fX,⟨r,λk h=>?_,by omega,fX,⟨kO _ _ _ _,fX,λe a=>by cases a⟩,lw _,⟨?_,?_,⟨?_,sM _,Xq,exs⟩,?_,?_,sw r⟩,⟨kO _ _ _ _,(λe a=>by cases a)⟩,⟨kO _ _ _ _,(λe a=>by cases a)⟩,λ_=>C,λ_ _ c=>c.elim,λ_ _ _ _ c=>c.elim,(λx F=>by cases F),(λj b=>by cases b),(λj b=>by cases b),λx=>rfl,(λj b=>by cases b),(λj b=>by cases b)⟩⟩
 grind
 exact⟨fj,fj,fj,0,0,0,[],⟨t1,A,kO _ _ _ _,kO _ _ _ _,kO _ _ _ _,(λe a=>by cases a),(λe a=>by cases a),(λe a=>by cases a)⟩,rfl,(λi U=>by cases U)⟩;exact⟨fj,0,⟨t2,(λe a=>by cases a),y,kO _ _ _ _,by simp,(λo q=>by cases q)⟩⟩;exact U.keep (λk h hF=>c k h) (λk h hF=>by
  rcases hF with b|b
  exact b.elim;exact t3 k b.1 b.2)
 exact⟨fX,(λi n=>by cases n),(λo q=>by cases q)⟩;intro i U;cases U
def UJ (B0:Nat)(w:fq)(W s r:Nat):Prop:=∃R N p A J,gq fo fo R N w B0 W s r p 0 A J [] [] []/\R.q=(λ_=>0)/\3<=fv A/\fK A 3=2
theorem xss(w:fq):ik 19 #[] w λe H=>∃W s r,e=pD #[ie W,fE fm]/\UJ w.heap.size H W s r/\ju w H:=by
 go_enter func19,ntmps19;go_wp2_with fail;refine RK (Lc _) ?_;rintro _ O ⟨s,rfl,⟨p,U⟩,c⟩;obtain⟨S,T,x,l⟩:=xor U c;have f:fe _:=l;have y:=c.size;have V:=c;clear U l;go_wp2_with fail;refine RK (f.o.aaL<|xl f.o.BM 0 0 0 Cx kq fj 0 0 (by decide)) ?_;rintro _ a ⟨rfl,X,Y,Z,aa,⟨ab,m⟩,z,n,g⟩;have A:=ab4 m;subst A;have h:fe _:=n;have ac:O.heap.size+2<=a.heap.size:=by have:=g.size;simpa using this
 have C:ju w a:=((c.alloc y _).alloc (by simp;omega) _).trans g;clear n g m f;go_wp2_with fail;have a5:∀B,ju a (a.alloc B):=λB=>(mi _ _).alloc (lw _) _;have f5:=Og a [Ij] 96 #[fA ⟨#[120]⟩,fY 1,fY 1] fX (by decide) (by decide) 1 fX;refine RK ((h.o.below<|a5 (.cells #[fA ⟨#[120]⟩,fY 1,fY 1] 96)).aaL<|tV (h.o.below<|a5 (.cells #[fA ⟨#[120]⟩,fY 1,fY 1] 96)).BM 0 0 0 kq kq (fh<|ii a.heap.size 0) 1 1 [Ij] f5.list f5.many f5.names) ?_;rintro _ b ⟨rfl,ad,ae,af,ag,⟨ah,o⟩,D,q,i⟩;obtain⟨d,d1,d2,d3,E⟩:=ab5 o;subst E;have j:fe _:=q;have ai:a.heap.size<=b.heap.size:=by have:=i.size;simp at this;omega
 have F:ju w b:=(C.alloc (by omega) _).trans i;clear q i o h f5 a5;go_wp2_with fail;have k:∀B,ju b (b.alloc B):=λB=>(mi _ _).alloc (lw _) _;have f6:=Og b [Od,Oe] 96 #[fA ⟨#[100]⟩,fY 2,fY 2,fA ⟨#[97]⟩,fY 1,fY 1] fX (by decide) (by decide) 2 fX;refine RK ((j.o.below<|k (.cells #[fA ⟨#[100]⟩,fY 2,fY 2,fA ⟨#[97]⟩,fY 1,fY 1] 96)).aaL<|tV (j.o.below<|k (.cells #[fA ⟨#[100]⟩,fY 2,fY 2,fA ⟨#[97]⟩,fY 1,fY 1] 96)).BM 0 0 0 kq kq (fh<|ii b.heap.size 0) 2 2 [Od,Oe] f6.list f6.many f6.names) ?_;rintro _ G ⟨rfl,I,J,K,L,⟨aj,t⟩,M,u,v⟩;obtain⟨N,P⟩:=ab6 d1 d2 d3 t;have Q:fe _:=u;have R:ju w G:=(F.alloc (by omega) _).trans v;clear u v t j f6 k;go_wp2;go_ret2;exact⟨_,s,_,fX,⟨I,J,p,K,L,Q.o,((M.trans D).trans z).trans x,N,P⟩,R⟩
theorem ZV{R}{got}{ws}{ds}(h:gq fo fo R N w B0 W s r p I A J got ws ds)(j:2<fv A){c k}{d:Int}(l:w.c W 4=fh (my c 0 (fv A) k))(m:w.c c 2=fh (fY d)):d<=300:=by
 have⟨u,x,y,z,B,C,e,f,n,o⟩:=h.w3.law;have g:2<fv e:=by rw[n];exact j
 have⟨D,q,_,t,_⟩:=row_one f.uj (i:=2) (v:=.int .i64 e[2]) (by simp[encI,g]);have a:=f.c4.symm.trans l;rw[q]at a;injection a with a;injection a with a _ _;injection a with a;injection a with a _ _;subst a;have b:=t.symm.trans m;injection b with b;injection b with _ b
 have:=(o 2 g).2
 rw[b]at this;exact Int.le_trans this<|by decide
theorem QL(a:UJ B0 w W s r):
  ik 20 #[ie W,fD<|iT 7 0 3 0 kq kq fj 0 0] w λe H=>e=fF (fE fm)/\gK B0 H W s r 3/\Below B0 w H:=by
 have⟨R,N,p,A,J,b,f,v,g⟩:=a;refine(QE (n:=3) (by omega) b ⟨fX,λj a _=>by cases a⟩ (by simp) 0 3 0 kq kq fj 0 0).mono ?_;rintro e H ⟨h,i,k,M,c,l,m,o,q,x,y,t⟩;have z:fv c=1:=t g λB C D c4 u=>ZV b (by omega) c4 u;exact⟨h,⟨k,M,p,0,A,J,[],c,l,o,q,by omega,λd=>by rw[m,f];exact zt _,by omega,by omega⟩,i⟩
theorem xys{B0 W s r n:Nat}(a:n<=1048600)(b:gK B0 w W s r n)(o:Step)(m:o.Fits w)(p:1<=o.kind/\o.kind<=7):
  ik 20 #[ie W,o.val] w λe H=>e=fF (fE fm)/\gK B0 H W s r (n+1)/\Below B0 w H:=by
 by_cases q:o.kind<=5;exact hq1 a b o m ⟨p.1,q⟩;by_cases k:o.kind=6;have⟨kind,c,d,f,S,g,h,i,j,t⟩:=o;simp only at k;subst k;exact UA a b c d f S g h i j;have l:o.kind=7:=by omega
 have⟨kind,c,d,f,S,g,h,i,j,t⟩:=o;simp only at l;subst l;exact hrf a b c d f S g h i j
theorem ZW(W g h)(i a j:Int)(S k)(l)(m n)(c er:Int)(u:(er==14)=fo)(o p:fq->Prop)(w f:fq)(q:f=w.k (iT 13 i a j S k l m n) 57)
  (r:ik 63 #[ie g,hh S,fY a] f λe H=>e=pD #[fY c,fY er]/\Bj w.heap.size f H/\o H)
  (s:∀O,o O->ik 94 #[ie h,hh S,fY a] O λe H=>e=pD #[fY c,fY er]/\p H):
  ik 50 #[ie W,ie g,ie h,fD<|iT 13 i a j S k l m n] w λe H=>e=fF (fE fm)/\p H:=by
 unfold iT at q |-;subst q;have v:=λ(b:Bool)(H:fq)=>gW W er er b H u
 have x:=λ(H:fq)=>iR er H;have A:(er==er)=fm:=by simp
 have B:(c==c)=fm:=by simp
 change fe _ at r s
 go_enter func50,ntmps50;go_wp2_with fail;refine Calls.via r λt⟨d,y⟩=>?_
 have C:t.c w.heap.size 4=fh (hh S):=(d.2 4).trans (by simp);have D:t.c w.heap.size 2=fh (fY a):=(d.2 2).trans (by simp);have E:=d.1;clear d;go_wp2_with(first
  |(go_at_call 22;apply Calls.still<|x _)
  |(go_at_call 53;apply Calls.still<|v _ _)
  |(go_at_call 94;refine Calls.via (s _ y) λF z=>?_))
 go_ret;exact⟨fX,z⟩
theorem UK(W h i)(j a c:Int)(S k)(l)(m n)(d)(er:Int)(u:(er==14)=fo)(o p:fq->Prop)(w g:fq)(q:g=w.k (iT 14 j a c S k l m n) 57)
  (r:ik 66 #[ie h,fY a,fY c] g λe H=>e=pD #[hh d,fY er]/\Bj w.heap.size g H/\o H)
  (s:∀O,o O->ik 98 #[ie i,fY a,fY c] O λe H=>e=pD #[hh d,fY er]/\p H):
  ik 51 #[ie W,ie h,ie i,fD<|iT 14 j a c S k l m n] w λe H=>e=fF (fE fm)/\p H:=by
 unfold iT at q |-;subst q;have v:=λ(b:Bool)(H:fq)=>gW W er er b H u
 have x:=λ(H:fq)=>iR er H;have A:(er==er)=fm:=by simp
 have B:(d.toList==d.toList)=fm:=by simp
 change fe _ at r s
 go_enter func51,ntmps51;go_wp2_with fail;refine Calls.via r λt⟨f,y⟩=>?_
 have C:t.c w.heap.size 3=fh (fY c):=(f.2 3).trans (by simp);have D:t.c w.heap.size 2=fh (fY a):=(f.2 2).trans (by simp);have E:=f.1;clear f;go_wp2_with(first
  |(go_at_call 22;apply Calls.still<|x _)
  |(go_at_call 53;apply Calls.still<|v _ _)
  |(go_at_call 98;refine Calls.via (s _ y) λF z=>?_))
 go_ret;exact⟨fX,z⟩
theorem QM(W d f)(g a h:Int)(S i)(j)(k l)(er:Int)(s:(er==14)=fo)(m n:fq->Prop)(w c:fq)(o:c=w.k (iT 15 g a h S i j k l) 57)
  (p:ik 64 #[ie d,fY a,hh S] c λe H=>e=fF (fY er)/\Bj w.heap.size c H/\m H)
  (q:∀O,m O->ik 99 #[ie f,fY a,hh S] O λe H=>e=fF (fY er)/\n H):
  ik 51 #[ie W,ie d,ie f,fD<|iT 15 g a h S i j k l] w λe H=>e=fF (fE fm)/\n H:=by
 unfold iT at o |-;subst o;have t:=λ(H:fq)=>gW W er er fm H s
 have u:=λ(H:fq)=>iR er H
 change fe _ at p q
 go_enter func51,ntmps51;go_wp2_with fail;refine Calls.via p λr⟨b,v⟩=>?_
 have y:r.c w.heap.size 4=fh (hh S):=(b.2 4).trans (by simp);have z:r.c w.heap.size 2=fh (fY a):=(b.2 2).trans (by simp);have A:=b.1;clear b;go_wp2_with(first
  |(go_at_call 22;apply Calls.still<|u _)
  |(go_at_call 53;apply Calls.still<|t _)
  |(go_at_call 99;refine Calls.via (q _ v) λB x=>?_))
 go_ret;exact⟨fX,x⟩
theorem MF(W f g)(h a b:Int)(S i)(j)(k l)(er:Int)(s:(er==14)=fo)(m n:fq->Prop)(w d:fq)(o:d=w.k (iT 17 h a b S i j k l) 57)
  (p:ik 100 #[ie f,fY a,fY b] d λe H=>e=fF (fY er)/\Bj w.heap.size d H/\m H)
  (q:∀O,m O->ik 101 #[ie g,fY a,fY b] O λe H=>e=fF (fY er)/\n H):
  ik 51 #[ie W,ie f,ie g,fD<|iT 17 h a b S i j k l] w λe H=>e=fF (fE fm)/\n H:=by
 unfold iT at o |-;subst o;have t:=λ(H:fq)=>gW W er er fm H s
 have u:=λ(H:fq)=>iR er H
 change fe _ at p q
 go_enter func51,ntmps51;go_wp2_with fail;refine Calls.via p λr⟨c,v⟩=>?_
 have y:r.c w.heap.size 3=fh (fY b):=(c.2 3).trans (by simp);have z:r.c w.heap.size 2=fh (fY a):=(c.2 2).trans (by simp);have A:=c.1;clear c;go_wp2_with(first
  |(go_at_call 22;apply Calls.still<|u _)
  |(go_at_call 53;apply Calls.still<|t _)
  |(go_at_call 101;refine Calls.via (q _ v) λB x=>?_))
 go_ret;exact⟨fX,x⟩
theorem UL(W f g)(h a b:Int)(S i)(j)(k l)(er:Int)(m n:fq->Prop)(w d:fq)(o:d=w.k (iT 16 h a b S i j k l) 57)
  (p:ik 102 #[ie f,fY a,fY b] d λe H=>e=fF (fY er)/\Bj w.heap.size d H/\m H)
  (q:∀O,m O->ik 103 #[ie g,fY a,fY b] O λe H=>e=fF (fY er)/\n H):
  ik 51 #[ie W,ie f,ie g,fD<|iT 16 h a b S i j k l] w λe H=>e=fF (fE fm)/\n H:=by
 unfold iT at o |-;subst o;have s:=λ(H:fq)=>iR er H
 change fe _ at p q
 go_enter func51,ntmps51;go_wp2_with fail;refine Calls.via p λr⟨c,t⟩=>?_
 have v:r.c w.heap.size 3=fh (fY b):=(c.2 3).trans (by simp);have x:r.c w.heap.size 2=fh (fY a):=(c.2 2).trans (by simp);have y:=c.1;clear c;go_wp2_with(first
  |(go_at_call 22;apply Calls.still<|s _)
  |(go_at_call 103;refine Calls.via (q _ t) λz u=>?_))
 go_ret;exact⟨fX,u⟩
theorem QN(W c d)(f a g:Int)(S h)(i)(j k)(er:Int)(l m:fq->Prop)(w b:fq)(n:b=w.k (iT 18 f a g S h i j k) 57)
  (o:ik 65 #[ie c,fY a] b λe H=>e=fF (fY er)/\Bj w.heap.size b H/\l H)
  (p:∀O,l O->ik 104 #[ie d,fY a] O λe H=>e=fF (fY er)/\m H):
  ik 51 #[ie W,ie c,ie d,fD<|iT 18 f a g S h i j k] w λe H=>e=fF (fE fm)/\m H:=by
 unfold iT at n |-;subst n;have r:=λ(H:fq)=>iR er H
 change fe _ at o p
 go_enter func51,ntmps51;go_wp2_with fail;refine Calls.via o λs⟨q,t⟩=>?_
 have v:s.c w.heap.size 2=fh (fY a):=(q.2 2).trans (by simp);clear q;go_wp2_with(first
  |(go_at_call 22;apply Calls.still<|r _)
  |(go_at_call 104;refine Calls.via (p _ t) λx u=>?_))
 go_ret;exact⟨fX,u⟩
theorem QS:∀(hs:List BN)(k f:Nat)(a:fu)(x:BN)(c:k<fv hs)(b:f<4),mQ x=(mQ hs[k]).set f a->xf (hs.set k x)=(xf hs).set (4*k+f) a
 |y::r,0,f,a,x,_,b,e=>by
  grind [mQ,xf,List.set_append_left]
 |y::r,k+1,f,a,x,c,b,e=>by
  show mQ y++xf (r.set k x)=(mQ y++xf r).set (4*(k+1)+f) a
  rw[List.set_append_right _ _ (by show 4<=4*(k+1)+f;omega),show 4*(k+1)+f-fv (mQ y)=4*k+f by show 4*(k+1)+f-4=_;omega,QS r k f a x (by simpa using c) b e]
theorem gp.IK(a:gp F w S na da nc dc E data (xf hs++more)){k f:Nat}{v}{x}(c:k<fv hs)(d:f<4)(e:mQ x=(mQ hs[k]).set f v):
  gp F (w.setCell (ii S<|2+k*4+f) v) S na da nc dc E data (xf (hs.set k x)++more)/\fH F w (w.setCell (ii S<|2+k*4+f) v):=by
 have g:4*k+f<fv (xf hs):=by rw[Ml];omega
 refine⟨⟨a.fS,?_,?_,?_,a.fn,a.fd⟩,⟨fX,fX,fX,by simp,λj l h=>vh _ _ _ _ λe=>h (by rw[e];exact a.fS)⟩⟩;rw[QS hs k f v x c d e,<-List.set_append_left _ _ g,show 2+k*4+f=(4*k+f)+2 by omega];simp[World.setCell,BV,a.hS];exact gg a.lT λi b=>vh _ _ _ _ λe=>io a.lT a.hS (by decide) (by rw[b,e]);exact gg a.jq λi b=>vh _ _ _ _ λe=>io a.jq a.hS (by decide) (by rw[b,e])
def oH (hs:List BN)(n at_:Int):List BN×Int:=
 if tI hs n=fo then(hs,3)else if at_<0\/256<at_ then(hs,2) else(match hs[n.toNat]? with|some a=>(hs.set n.toNat (a.1,a.2.1,a.2.2.1,at_),0)|none=>(hs,0))
theorem ZX(a:gp F w S na da nc dc E data (xf hs++more))(j:fv hs=8)(n at_:Int):
  ik 103 #[ie S,fY n,fY at_] w λe H=>e=fF (fY (oH hs n at_).2)/\gp F H S na da nc dc E data (xf (oH hs n at_).1++more)/\fH F w H:=by
 have o:=a.lt;have d:fe _:=jI a j n;cases b:tI hs n with
 |false=>
  have c:oH hs n at_=(hs,3):=by unfold oH;rw[lv b]
  rw[c];rw[b]at d;go_enter func103,ntmps103;go_wp2_with(go_at_call 163;apply Calls.still d.o);go_ret;exact⟨fX,a,fH.refl _⟩
 |true=>
  rw[b]at d;have p:0<=n/\n<8:=by
   by_cases h:0<=n/\n<8;exact h;rw[BO h]at b;cases b
  obtain⟨k,rfl⟩:∃k:Nat,n=(k:Int):=⟨n.toNat,by omega⟩;have g:k<fv hs:=by omega
  by_cases i:at_<0
  ·have c:oH hs (k:Int) at_=(hs,2):=by unfold oH;rw[km (by rw[b];decide),lv<|.inl i]
   rw[c];go_enter func103,ntmps103;go_wp2_with(go_at_call 163;apply Calls.still d.o);go_ret;exact⟨fX,a,fH.refl _⟩
  have t0:decide (at_<0)=fo:=yv i;by_cases l:256<at_
  ·have c:oH hs (k:Int) at_=(hs,2):=by unfold oH;rw[km (by rw[b];decide),lv<|.inr l]
   rw[c];go_enter func103,ntmps103;go_wp2_with(go_at_call 163;apply Calls.still d.o);go_ret;exact⟨fX,a,fH.refl _⟩
  have c:oH hs (k:Int) at_=(hs.set k (hs[k].1,hs[k].2.1,hs[k].2.2.1,at_),0):=by
   unfold oH;rw[km (by rw[b];decide),km<|by omega,qE,jH g]
  rw[c];have q:w.frozen? (ii S<|2+k*4+3)=fo:=by simp[World.frozen?,a.hS]
  have c3:w.c S (2+k*4+3)=fh (.int .i64 hs[k].2.2.2):=a.tab (f:=3) g (by omega);have m:fe _:=a.IK (f:=3) (v:=.int .i64 at_) (x:=(hs[k].1,hs[k].2.1,hs[k].2.2.1,at_)) g (by omega) fX;have t3:(k:Int)<8:=by omega
  go_enter func103,ntmps103;go_wp2_with(go_at_call 163;apply Calls.still d.o);go_ret;exact⟨fX,m⟩
def ma (a f:Int):Bool:=(a / f).tmod 2==1
theorem mo(a f:Int)(w:fq)(b:0<=a/\a<=63)(c:1<=f/\f<=32):ik 159 #[fY a,fY f] w (PP (fE<|ma a f) w):=by
 have d:(f==0)=fo:=by simp;omega
 go_enter func159,ntmps159;go_wp2;go_ret;exact⟨fX,fX⟩
theorem gp.aa8(a:gp F w S na da nc dc E data (xf hs++more))(h:k<fv hs):
  gp F ((((w.setCell (ii S<|2+k*4)<|fE fo).setCell (ii S<|2+k*4+1)<|fY 0).setCell (ii S<|2+k*4+2)<|fY 0).setCell (ii S<|2+k*4+3)<|fY 0) S na da nc dc E data (xf (hs.set k (fo,0,0,0))++more)/\
   fH F w ((((w.setCell (ii S<|2+k*4)<|fE fo).setCell (ii S<|2+k*4+1)<|fY 0).setCell (ii S<|2+k*4+2)<|fY 0).setCell (ii S<|2+k*4+3)<|fY 0):=by
 have⟨i,l⟩:=a.IK (f:=0) (v:=fE fo) (x:=(fo,hs[k].2.1,hs[k].2.2.1,hs[k].2.2.2)) h (by omega) fX;have⟨b,m⟩:=i.IK (k:=k) (f:=1) (v:=.int .i64 0) (x:=(fo,0,hs[k].2.2.1,hs[k].2.2.2)) (by grind) (by omega) (by simp[mQ]);rw[WM]at b;have⟨c,n⟩:=b.IK (k:=k) (f:=2) (v:=.int .i64 0) (x:=(fo,0,0,hs[k].2.2.2)) (by grind) (by omega) (by simp[mQ]);rw[WM]at c;have⟨d,p⟩:=c.IK (k:=k) (f:=3) (v:=.int .i64 0) (x:=(fo,0,0,0)) (by grind) (by omega) (by simp[mQ]);rw[WM]at d;refine⟨d,⟨fX,fX,fX,by simp,λg q j=>?_⟩⟩;have r:∀(o:Nat)(v:fu)(w:fq),(w.setCell (ii S o) v).heap[g]?=w.heap[g]?:=λo v w=>vh _ _ _ _ λe=>j (by rw[e];exact a.fS)
 grind
def pT (hs:List BN)(n:Int):List BN×Int:=
 if tI hs n=fo then(hs,3) else(hs.set n.toNat (fo,0,0,0),0)
theorem UM(a:gp F w S na da nc dc E data (xf hs++more))(j:fv hs=8)(n:Int):
  ik 104 #[ie S,fY n] w λe H=>e=fF (fY (pT hs n).2)/\gp F H S na da nc dc E data (xf (pT hs n).1++more)/\fH F w H:=by
 have m:=a.lt;have g:fe _:=jI a j n;cases b:tI hs n with
 |false=>
  have h:pT hs n=(hs,3):=by unfold pT;rw[lv b]
  rw[h];rw[b]at g;go_enter func104,ntmps104;go_wp2_with(go_at_call 163;refine Calls.still g.o ?_);go_ret;exact⟨fX,a,fH.refl _⟩
 |true=>
  rw[b]at g;have p:0<=n/\n<8:=by
   by_cases i:0<=n/\n<8;exact i;rw[BO i]at b;cases b
  obtain⟨k,rfl⟩:∃k:Nat,n=(k:Int):=⟨n.toNat,by omega⟩;have c:k<fv hs:=by omega
  have h:pT hs (k:Int)=(hs.set k (fo,0,0,0),0):=by
   unfold pT;rw[km (by rw[b];decide),qE]
  rw[h];have d:∀o,w.frozen? (ii S o)=fo:=λo=>by simp[World.frozen?,a.hS]
  have f0:=d<|2+k*4;have f1:=d<|2+k*4+1;have f2:=d<|2+k*4+2;have f3:=d<|2+k*4+3;have c0:w.c S (2+k*4)=fh (fE hs[k].1):=a.tab (f:=0) c (by omega);have c1:w.c S (2+k*4+1)=fh (.int .i64 hs[k].2.1):=a.tab (f:=1) c (by omega);have c2:w.c S (2+k*4+2)=fh (.int .i64 hs[k].2.2.1):=a.tab (f:=2) c (by omega);have c3:w.c S (2+k*4+3)=fh (.int .i64 hs[k].2.2.2):=a.tab (f:=3) c (by omega);have l:fe _:=a;have q:k<8:=by omega
  have t3:(k:Int)<8:=by omega
  clear d;go_enter func104,ntmps104;go_wp2_with(go_at_call 163;refine Calls.still g.o ?_);go_ret;exact⟨fX,l.aa8 c⟩
def Do (a:Int):Bool:=
 if a<0\/63<a then fo
 else if ma a 1=fo/\ma a 2=fo then fo
 else if ma a 2=fo/\(ma a 4=fm\/ma a 16=fm\/ma a 32=fm)then fo
 else !ma a 8 ||ma a 4
theorem QT(a:Int)(w:fq):ik 157 #[fY a] w (PP (fE<|Do a) w):=by
 by_cases i:a<0
 ·have j:Do a=fo:=by unfold Do;rw[lv<|.inl i]
  rw[j];go_enter func157,ntmps157;go_wp2;go_ret;exact⟨fX,fX⟩
 have t0:decide (a<0)=fo:=yv i;by_cases k:63<a
 ·have j:Do a=fo:=by unfold Do;rw[lv<|.inr k]
  rw[j];go_enter func157,ntmps157;go_wp2;go_ret;exact⟨fX,fX⟩
 have t1:decide (63<a)=fo:=yv k;have m:fe (∀f,1<=f/\f<=32->ma a f=fm->∀W,ik 159 #[fY a,fY f] W<|PP (fE fm) W):=λf l e W=>by have:=mo a f W (by omega) l;rwa [e]at this
 have n:fe (∀f,1<=f/\f<=32->ma a f=fo->∀W,ik 159 #[fY a,fY f] W<|PP (fE fo) W):=λf l e W=>by have:=mo a f W (by omega) l;rwa [e]at this
 obtain⟨R,h⟩:∃R,R=Do a:=⟨_,fX⟩;rw[<-h];unfold Do at h;rw[km<|by omega]at h
 change fe _ at h
 have o:(ma a 2=fo/\ma a 1=fo)\/(ma a 2=fo/\ma a 1=fm/\ma a 4=fm)\/(ma a 2=fo/\ma a 1=fm/\ma a 4=fo/\ma a 16=fm)\/(ma a 2=fo/\ma a 1=fm/\ma a 4=fo/\ma a 16=fo/\ma a 32=fm)\/(ma a 2=fo/\ma a 1=fm/\ma a 4=fo/\ma a 16=fo/\ma a 32=fo/\ma a 8=fm)\/(ma a 2=fo/\ma a 1=fm/\ma a 4=fo/\ma a 16=fo/\ma a 32=fo/\ma a 8=fo)\/
   (ma a 2=fm/\ma a 1=fm/\ma a 8=fo)\/(ma a 2=fm/\ma a 1=fm/\ma a 8=fm/\ma a 4=fm)\/(ma a 2=fm/\ma a 1=fm/\ma a 8=fm/\ma a 4=fo)\/(ma a 2=fm/\ma a 1=fo/\ma a 8=fo)\/(ma a 2=fm/\ma a 1=fo/\ma a 8=fm/\ma a 4=fm)\/(ma a 2=fm/\ma a 1=fo/\ma a 8=fm/\ma a 4=fo):=by
  clear m n h;cases ma a 1<;>cases ma a 2<;>cases ma a 4<;>cases ma a 8<;>cases ma a 16<;>cases ma a 32<;>decide
 clear i k;rcases o with⟨g,b⟩|⟨g,b,c⟩|⟨g,b,c,d⟩|⟨g,b,c,d,e⟩|⟨g,b,c,d,e,f⟩|⟨g,b,c,d,e,f⟩|⟨g,b,c⟩|⟨g,b,c,d⟩|⟨g,b,c,d⟩|⟨g,b,c⟩|⟨g,b,c,d⟩|⟨g,b,c,d⟩
 all_goals
  go_enter func157,ntmps157;go_wp2_with(go_at_call 159;(first|refine RK (m _ (by decide) (by assumption) _) ?_|refine RK (n _ (by decide) (by assumption) _) ?_);rintro _ _ ⟨rfl,rfl⟩);go_ret;exact⟨by rw[h.o];simp[*],fX⟩
theorem nlo(b:Int)(h:-9223372036854775808<=b)(j:b<9223372036854775808):(bits BinOp.andNot IntKind.i64 b 63 != 0)=!(decide (0<=b)&&decide (b<=63)):=by
 have k:∀a:BitVec 64,(a &&& ~~~(63#64)).toNat=0↔a.toNat<=63:=by
  intro a;constructor;intro c;have d:a &&& ~~~(63#64)=0#64:=BitVec.eq_of_toNat_eq c;have l:a >>> 6=0#64:=by
   ext i U
   have:=congrArg (λx=>x.getLsbD<|6+i) d
   by_cases e:6+i<64;have f:(63#64).getLsbD (6+i)=fo:=by
    rw[BitVec.getLsbD_ofNat]
    grind
   simp only[BitVec.getLsbD_and,BitVec.getLsbD_not,f,qu e,Bool.not_false,Bool.and_true]at this
   grind
   grind
  grind [BitVec.toNat,Nat.shiftRight_eq_div_pow]
  intro c
  have:a.toNat<2 ^ 6:=by omega
  apply Nat.eq_of_testBit_eq;intro i;rw[BitVec.toNat_and,Nat.testBit_and];by_cases U:i<6
  have:(~~~(63#64)).toNat.testBit i=fo:=by
   have:i=0\/i=1\/i=2\/i=3\/i=4\/i=5:=by omega
   grind
  grind
  have:a.toNat.testBit i=fo:=Nat.testBit_lt_two_pow (by
   have:2 ^ 6<=2 ^ i:=Nat.pow_le_pow_right (by decide)<|by omega
   omega)
  grind
 have g:∀n:Nat,n<18446744073709551616->((IntKind.i64.wrap (n:Int) != 0)=!(decide (n=0))):=by
  grind [Cb,decide,yv]
 show(IntKind.i64.wrap ((BitVec.ofInt 64 b &&& ~~~(BitVec.ofInt 64 63)).toNat:Int) != 0)=_;rw[g _<|BitVec.isLt _]
 grind [BitVec.ofInt,decide,BitVec.toNat_ofInt,qu,yv]
def Wk (a:Int):Int:=if(bits BinOp.and IntKind.i64 a 8 != 0)=fm then 6 else if(bits BinOp.and IntKind.i64 a 52 != 0)=fm then 2 else 0
def ZY:∀n:Fin 64,Do (n.val:Int)=if(bits BinOp.and IntKind.i64 (n.val:Int) 3==0)=fm then fo else(bits BinOp.andNot IntKind.i64 (Wk n.val) n.val==0):=by decide +kernel
def nsh:∀n:Fin 64,(bits BinOp.and IntKind.i64 (n.val:Int) 1==0)=!ma n.val 1/\(bits BinOp.and IntKind.i64 (n.val:Int) 2==0)=!ma n.val 2/\(bits BinOp.and IntKind.i64 (n.val:Int) 4 != 0)=ma n.val 4/\(bits BinOp.and IntKind.i64 (n.val:Int) 8 != 0)=ma n.val 8/\(bits BinOp.and IntKind.i64 (n.val:Int) 16 != 0)=ma n.val 16/\(bits BinOp.and IntKind.i64 (n.val:Int) 32 != 0)=ma n.val 32:=by decide +kernel
theorem Hp{a:Int}(c:0<=a/\a<=63):(bits BinOp.and IntKind.i64 a 1==0)=!ma a 1/\(bits BinOp.and IntKind.i64 a 2==0)=!ma a 2/\(bits BinOp.and IntKind.i64 a 4 != 0)=ma a 4/\(bits BinOp.and IntKind.i64 a 8 != 0)=ma a 8/\(bits BinOp.and IntKind.i64 a 16 != 0)=ma a 16/\(bits BinOp.and IntKind.i64 a 32 != 0)=ma a 32:=by
 obtain⟨n,b,rfl⟩:∃n:Nat,n<64/\a=(n:Int):=⟨a.toNat,by omega,by omega⟩;exact nsh ⟨n,b⟩
theorem UN(a:Int)(w:fq):ik 175 #[fY a] w (PP (fY<|Wk a) w):=by
 unfold Wk;cases b:(bits BinOp.and IntKind.i64 a 8 != 0) with
 |true=>
  go_enter func175,ntmps175;go_wp2;go_ret;exact⟨fX,fX⟩
 |false=>
  cases c:(bits BinOp.and IntKind.i64 a 52 != 0)
  all_goals
   go_enter func175,ntmps175;go_wp2;go_ret;exact⟨fX,fX⟩
theorem ZZ(a:Int)(g:-9223372036854775808<=a/\a<9223372036854775808)(w:fq):ik 118 #[fY a] w (PP (fE<|Do a) w):=by
 have b:=nlo a g.1 g.2;by_cases d:0<=a/\a<=63
 ·rw[qu d.1,qu d.2]at b
  have b:(bits BinOp.andNot IntKind.i64 a 63 != 0)=fo:=b;obtain⟨n,j,rfl⟩:∃n:Nat,n<64/\a=(n:Int):=⟨a.toNat,by omega,by omega⟩;have c:=ZY ⟨n,j⟩;simp only at c;have h:fe _:=UN (n:Int) w;cases i:(bits BinOp.and IntKind.i64 (n:Int) 3==0) with
  |true=>
   rw[c,i];clear c;go_enter func118,ntmps118;go_wp2;go_ret;exact⟨fX,fX⟩
  |false=>
   rw[c,i];generalize Wk (n:Int)=nd at h |-;clear c;go_enter func118,ntmps118;go_wp2_with(go_at_call 175;refine Calls.still h.o ?_);go_ret;exact⟨fX,fX⟩
 have e:Do a=fo:=by unfold Do;rw[lv<|by omega]
 rw[e];have b:(bits BinOp.andNot IntKind.i64 a 63 != 0)=fm:=by
  rw[b];by_cases f:0<=a;rw[qu f,yv λk=>d ⟨f,k⟩];rfl;rw[yv f];rfl
 go_enter func118,ntmps118;go_wp2;go_ret;exact⟨fX,fX⟩
def nss(W):(binOp .eql 86 (fB fj)<|fB fj).run prog W=.ok (fE fm) W:=by kernel_rfl
def Aq (vs:Nat->Option Nat)(n:Int):Prop:=∀k:Nat,k<8->n=(k:Int)->vs k=fj
theorem xU(b)(n:Int)(vs:Nat->Option Nat)(w)(a:nO w b vs)(c:Aq vs n):
  ik 122 #[fB<|fh (ii b 1),fY n] w (PP (fC #[fB fj,fY 3]) w):=by
 by_cases f:n<0
 ·clear a c
  go_enter func122,ntmps122;go_wp2;go_ret2;exact⟨fX,fX⟩
 by_cases e:8<=n
 case' neg=>
  have t8:decide (8<=n)=fo:=yv e;obtain⟨k,rfl⟩:∃k:Nat,n=(k:Int):=⟨n.toNat,by omega⟩;have d:k<8:=by omega
  have g:w.cell? (ii b<|1+k)=fh (fB fj):=by rw[a.2.1 k d,c k d fX];rfl
  have h:(k:Int)<8:=by omega
  have i:=nss
 all_goals
  clear a c;go_enter func122,ntmps122;go_wp2;go_ret2;exact⟨fX,fX⟩
section
variable {n:Int}
theorem hsh(a:nO w b vs)(c:Aq vs n):ik 65 #[ie b,fY n] w (PP (fY 3) w):=by
 have d:fe _:=xU b n vs w a c;have e:fe (ik 124 #[fB<|fh (ii b 1),fY n] w<|PP (fY 3) w):=by
  clear a c;go_enter func124,ntmps124;go_wp2_with(go_at_call 122;refine Calls.still d.o ?_);go_ret;exact⟨fX,fX⟩
 clear a c;go_enter func65,ntmps65;go_wp2_with(go_at_call 124;refine Calls.still e.o ?_);go_ret;exact⟨fX,fX⟩
theorem nys(a:nO w b vs)(c:Aq vs n)(m:Int):ik 66 #[ie b,fY n,fY m] w (PP (fC #[hh kq,fY 3]) w):=by
 have d:fe _:=xU b n vs w a c;clear a c;go_enter func66,ntmps66;go_wp2_with(go_at_call 122;refine Calls.still d.o ?_);go_ret2;exact⟨fX,fX⟩
def hsi(a:nO w b vs)(c:Aq vs n)(d):ik 64 #[ie b,fY n,hh d] w (PP (fY 3) w):=by
 have e:fe _:=xU b n vs w a c;clear a c;go_enter func64,ntmps64;go_wp2_with(go_at_call 122;refine Calls.still e.o ?_);go_ret;exact⟨fX,fX⟩
theorem ofM(a:nO w b vs)(c:Aq vs n)(m:Int):ik 102 #[ie b,fY n,fY m] w (PP (fY 3) w):=by
 have d:fe _:=xU b n vs w a c;clear a c;go_enter func102,ntmps102;go_wp2_with(go_at_call 122;refine Calls.still d.o ?_);go_ret;exact⟨fX,fX⟩
theorem abs(a:nO w b vs)(c:Aq vs n)(m:Int):ik 100 #[ie b,fY n,fY m] w (PP (fY 3) w):=by
 have d:fe _:=xU b n vs w a c;clear a c;go_enter func100,ntmps100;go_wp2_with(go_at_call 122;refine Calls.still d.o ?_);go_ret;exact⟨fX,fX⟩
end
theorem KF(n:Int)(d:o<w.heap.size)(c1:w.c o 1=fh (fY fg))(c2:w.c o 2=fh (fY pl))(e:0<=pl)(f:pl<=256)
  (b:(n<0/\er=2)\/(0<=n/\(bits BinOp.and IntKind.i64 fg 1==0)=fm/\er=12)\/(0<=n/\(bits BinOp.and IntKind.i64 fg 1==0)=fo/\(n=0\/pl=256)/\er=0)):
  ik 125 #[ie o,fY n] w (PP (fC #[hh kq,fY er]) w):=by
 rcases b with⟨a,rfl⟩|⟨a,c,rfl⟩|⟨a,c,g,rfl⟩
 ·go_enter func125,ntmps125
  go_wp2;go_ret2;exact⟨fX,fX⟩
 ·have h:decide (n<0)=fo:=yv (by omega)
  go_enter func125,ntmps125;go_wp2;go_ret2;exact⟨fX,fX⟩
 have i:min n (256-pl)=0:=by omega
 go_enter func125,ntmps125;go_wp2;go_ret2;exact⟨fX,fX⟩
theorem Hq(d:fP)(h:o<w.heap.size)(c1:w.c o 1=fh (fY fg))(c2:w.c o 2=fh (fY pl))(c:0<=iU fg pl 0)(e:iU fg pl 0<=256)(i:d.size<=1048576)
  (a:((bits BinOp.and IntKind.i64 fg 2==0)=fm/\er=12)\/((bits BinOp.and IntKind.i64 fg 2==0)=fo/\1<=d.size/\256<iU fg pl 0+d.size/\er=11)):
  ik 123 #[ie o,hh d] w (PP (fY er) w):=by
 have b:fe _:=uG o fg pl 0 w c1 c2;generalize iU fg pl 0=j at b c e a;rcases a with⟨f,rfl⟩|⟨f,g,k,rfl⟩
 ·go_enter func123,ntmps123
  go_wp2;go_ret;exact⟨fX,fX⟩
 have l:=rZ g;go_enter func123,ntmps123;go_wp2_with(go_at_call 180;refine Calls.still b.o ?_);go_ret;exact⟨fX,fX⟩
theorem DW(m:Int)(e:o<w.heap.size)(c1:w.c o 1=fh (fY fg))
  (a:((m<0\/256<m)/\er=2)\/(0<=m/\m<=256/\(bits BinOp.and IntKind.i64 fg 2==0)=fm/\er=12)):
  ik 164 #[ie o,fY m] w (PP (fY er) w):=by
 by_cases b:m<0
 ·obtain rfl:er=2:=by omega
  clear a;go_enter func164,ntmps164;go_wp2;go_ret;exact⟨fX,fX⟩
 have t0:decide (m<0)=fo:=yv b;by_cases c:256<m
 case' pos=>
  obtain rfl:er=2:=by omega
  clear a
 case' neg=>
  have t1:decide (256<m)=fo:=yv c;obtain⟨f,rfl⟩:(bits BinOp.and IntKind.i64 fg 2==0)=fm/\er=12:=by
   rcases a with d|d
   omega;exact d.2.2
  clear a b c
 all_goals
  go_enter func164,ntmps164;go_wp2;go_ret;exact⟨fX,fX⟩
theorem aca(a:Int)(c:a<0\/256<a)(W:fq):ik 165 #[ie o,fY a] W (PP (fY 2) W):=by
 by_cases b:a<0
 case' neg=>
  have t0:decide (a<0)=fo:=yv b;have t1:256<a:=by omega
 all_goals
  go_enter func165,ntmps165;go_wp2;go_ret;exact⟨fX,fX⟩
theorem mq{hs:List BN}{x:Int×Int×Int}(a:fv hs=8)(b:hs[k]?=fh (fm,x)):tI hs (k:Int)=fm:=by
 grind [wH,GI]
theorem QU(d:fP)(a):d.extract a a=kq:=by
 apply Rw
 all_goals simp_all
theorem Wl{a x y:Nat}(b:d.size<=x)(c:d.size<=y):d.extract a x=d.extract a y:=by
 apply Rw;rw[bot,bot];have e:fv d.data.toList=d.size:=fX
 grind
theorem hss(d:fP){a x:Nat}(b:a<=x):d.extract a x++d.extract x (x+1)=d.extract a (x+1):=by
 all_goals simp_all
theorem gp.nZ(a:gp F w S na da nc dc E data (xf hs++more)){j fg b:Int}(d:hs[k]?=fh (u,j,fg,b)):
  w.c S (2+k*4)=fh (fE u)/\w.c S (2+k*4+1)=fh (fY j)/\w.c S (2+k*4+2)=fh (fY fg)/\w.c S (2+k*4+3)=fh (fY b)/\∀o,w.frozen? (ii S o)=fo:=by
 have⟨g,e⟩:=wH.1 d;have c:=λf(h:f<4)=>a.tab (f:=f) g h;rw[e]at c;exact⟨c 0<|by omega,c 1<|by omega,c 2<|by omega,c 3<|by omega,λo=>by simp[World.frozen?,a.hS]⟩
theorem gp.place(b:gp F w S na da nc dc E data (xf hs++more)){j fg c:Int}(d:hs[k]?=fh (u,j,fg,c))(a:Int):
  gp F (w.setCell (ii S<|2+k*4+3)<|fY a) S na da nc dc E data (xf (hs.set k (u,j,fg,a))++more)/\fH F w (w.setCell (ii S<|2+k*4+3)<|fY a):=by
 have⟨f,e⟩:=wH.1 d;exact b.IK f (by omega) (by rw[e];rfl)
theorem htb(b:gp F w S na da nc dc E data (xf hs++more))(s:fv hs=8){k j a:Nat}(g:hs[k]?=fh (fm,(j:Int),fg,(a:Int)))(B:data[j]?=fh d)(C:0<=fg/\fg<=63)(av:a<=256)(aw:d.size<=256)(ax:0<=many)(D:ma fg 1=fm)(X:fv data<=1000000000):
  ik 98 #[ie S,fY (k:Int),fY many] w λe H=>e=pD #[hh<|d.extract a (a+many.toNat),fY 0]/\
   gp F H S na da nc dc E data (xf (hs.set k (fm,(j:Int),fg,(a:Int)+(d.extract a<|a+many.toNat).size))++more)/\fH F w H:=by
 have ay:=b.lt;have G:fe _:=jI b s (k:Int);rw[mq s g]at G;have Y:fe (∀W,ik 159 #[fY fg,fY 1] W<|PP (fE fm) W):=λW=>by have:=mo fg 1 W C ⟨by decide,by decide⟩;rwa [D]at this
 have⟨c0,c1,c2,c3,n⟩:=b.nZ g;have Z:=(wH.1 g).1;have az:k<8:=by omega
 have t3:(k:Int)<8:=by omega
 have aA:decide (many<0)=fo:=yv (by omega);have aa:fe (gp F w S na da nc dc E data<|xf hs++more):=b;have q:fe (hs[k]?=fh (fm,(j:Int),fg,(a:Int))):=g;have I:fe (data[j]?=fh d):=B;clear b g B n D C s Z;go_enter func98,ntmps98;go_wp2_with fail;refine Calls.still G.o ?_;go_wp2_with fail;refine Calls.via (Y.o _) λO h=>?_;have t:ju w O:=by rw[h];exact(mi _ _).alloc (lw _) _
 have ab:O.c w.heap.size 1=fh (fY (j:Int)):=by rw[h];simp
 have J:O.c w.heap.size 3=fh (fY (a:Int)):=by rw[h];simp
 have K:w.heap.size<O.heap.size:=by rw[h];simp
 have c:=aa.o.below t;have L:=c.c1;have⟨aB,ac,aC,ad,_⟩:=row_one c.jq (i:=j) (v:=fA d) (by simp[gO,I.o]);have⟨ae,af,ag,ah,n⟩:=c.nZ q.o;have f3:=n<|2+k*4+3;have ai:=c.lt;have aj:j<fv data:=(wH.1 I.o).1;obtain⟨ak,al⟩:=ol<|fv data;rw[<-al]at L aj X;have aD:(j:Int)<(ak:Int):=by omega
 subst ac;have am:fe _:=c;have M:fe _:=t;clear h c0 c1 c2 c3 c t n;go_wp2
 go_region
 go_wp2
 go_loopw [10,12] (λan u wr=>∃(x:Nat) (o:fP),x<=512/\o.size<=512/\u=.int .i64 (x:Int)/\an=fA o/\fe (o=d.extract a x)/\fe (o.size+a=x/\(x=a\/x<=d.size))/\fe ((o.size:Int)<=many)/\fe (ju O wr)) (λ_ u _=>512-(intOf u).toNat)
 case atStart=>exact⟨a,kq,by omega,by show 0<=512;omega,fX,fX,(QU d a).symm,⟨by show 0+a=a;omega,.inl fX⟩,by show((0:Nat):Int)<=many;omega,by first|exact(mi _ _).drew|exact mi _ _⟩
 case round=>
  obtain⟨x,o,aE,aF,rfl,rfl,N,P,ao,f⟩:=hrel;by_cases l:x<d.size/\(o.size:Int)<many
  ·have Q:(x:Int)<(d.size:Int):=by omega
   have ap:=l.2;have aG:(x:Int)+1<=(d.size:Int):=by omega
   clear l;go_wp2;have aq:(d.extract x<|x+1).size=1:=by rw[hxs];omega
   have y:(o++d.extract x (x+1)).size=o.size+1:=by rw[Ws,aq]
   have⟨ar,au⟩:=P.o;refine⟨⟨x+1,_,by omega,by rw[y];omega,fX,fX,?_,?_,?_,f⟩,by simp[intOf];omega⟩;show _=_;rw[N.o,hss d<|by omega];exact⟨by rw[y];omega,.inr<|by omega⟩;show(_:Int)<=_;rw[y];omega
  have R:fe (o=d.extract a (a+many.toNat)):=by
   have⟨ar,au⟩:=P.o;have aH:=ao.o;show _=_;rw[N.o];by_cases T:x<d.size;rw[show a+many.toNat=x by omega];exact Wl (by omega)<|by omega
  have r:=am.o.below f.o;have⟨_,_,_,aI,U⟩:=r.nZ q.o;have aJ:=U<|2+k*4+3;have aK:=(f.o.cell (p:=(ii w.heap.size 3)) K).trans J;have aL:=r.lt;have aM:=np K f.o.size;have V:fe _:=r;clear r U ae af ag ah f3 ab J ad L ai;by_cases T:x<d.size
  ·have Q:(x:Int)<(d.size:Int):=by omega
   have ap:decide ((o.size:Int)<many)=fo:=yv λb=>l ⟨T,b⟩;clear l;go_wp2
   go_region
   go_wp2;go_ret2;rw[<-R.o];have m:ju wr wr.drew:=(mi _ _).drew;have⟨z,A⟩:=(V.o.below m).place q.o<|(a:Int)+(o.size:Int);exact⟨fX,z,((A.after m).after f.o).after M.o⟩
  have Q:decide ((x:Int)<(d.size:Int))=fo:=yv (by omega);clear l;go_wp2
  go_region
  go_wp2;go_ret2;rw[<-R.o];have m:ju wr wr.drew:=(mi _ _).drew;have⟨z,A⟩:=(V.o.below m).place q.o<|(a:Int)+(o.size:Int);exact⟨fX,z,((A.after m).after f.o).after M.o⟩
def UO(b:gp F w S na da nc dc E data (xf hs++more))(c:fv hs=8)(n many:Int)(d:tI hs n=fo):
  ik 98 #[ie S,fY n,fY many] w (ut (fC #[hh kq,fY 3]) w):=by
 have a:fe _:=jI b c n;rw[d]at a;go_enter func98,ntmps98;go_wp2_with(go_at_call 163;refine Calls.still a.o ?_);go_ret2;exact⟨fX,mi _ _⟩
def QV(b:gp F w S na da nc dc E data (xf hs++more))(c:fv hs=8)(n:Int)(x)(d:tI hs n=fo):
  ik 99 #[ie S,fY n,hh x] w (ut (fY 3) w):=by
 have a:fe _:=jI b c n;rw[d]at a;go_enter func99,ntmps99;go_wp2_with(go_at_call 163;refine Calls.still a.o ?_);go_ret;exact⟨fX,mi _ _⟩
def MG(b:gp F w S na da nc dc E data (xf hs++more))(c:fv hs=8)(n m:Int)(d:tI hs n=fo):
  ik 101 #[ie S,fY n,fY m] w (ut (fY 3) w):=by
 have a:fe _:=jI b c n;rw[d]at a;go_enter func101,ntmps101;go_wp2_with(go_at_call 163;refine Calls.still a.o ?_);go_ret;exact⟨fX,mi _ _⟩
theorem acb(a:gp F w S na da nc dc E data (xf hs++more))(d:fv hs=8){j fg l many:Int}(b:hs[k]?=fh (fm,j,fg,l))(h:0<=fg/\fg<=63)(e:(many<0/\er=2)\/(0<=many/\ma fg 1=fo/\er=12)):
  ik 98 #[ie S,fY (k:Int),fY many] w (ut (fC #[hh kq,fY er]) w):=by
 have p:=a.lt;have f:fe _:=jI a d (k:Int);rw[mq d b]at f;obtain⟨c0,c1,c2,c3,m⟩:=a.nZ b;have n:=(wH.1 b).1;have q:k<8:=by omega
 have t3:(k:Int)<8:=by omega
 have i:fe (ma fg 1=fo->∀W,ik 159 #[fY fg,fY 1] W<|PP (fE fo) W):=λc W=>by have:=mo fg 1 W h ⟨by decide,by decide⟩;rwa [c]at this
 clear a b m h d n;by_cases g:many<0
 ·obtain rfl:er=2:=by omega
  clear e;go_enter func98,ntmps98;go_wp2_with(go_at_call 163;refine Calls.still f.o ?_);go_ret2;exact⟨fX,(mi _ _).alloc (lw _) _⟩
 obtain⟨c,rfl⟩:ma fg 1=fo/\er=12:=by
  rcases e with a|a
  exact absurd a.1 g;exact a.2
 have r:decide (many<0)=fo:=yv g;have o:fe _:=i.o c;clear e g i c;go_enter func98,ntmps98;go_wp2_with fail;refine Calls.still f.o ?_;go_wp2_with(go_at_call 159;refine Calls.still (o.o _) ?_);go_ret2;exact⟨fX,(mi _ _).alloc (lw _) _⟩
theorem DX(a:gp F w S na da nc dc E data (xf hs++more))(f:fv hs=8){j fg n m:Int}(b:hs[k]?=fh (fm,j,fg,n))(g:0<=fg/\fg<=63)(c:((m<0\/256<m)/\er=2)\/(0<=m/\m<=256/\ma fg 2=fo/\er=12)):
  ik 101 #[ie S,fY (k:Int),fY m] w (ut (fY er) w):=by
 have r:=a.lt;have d:fe _:=jI a f (k:Int);rw[mq f b]at d;have⟨c0,c1,c2,c3,o⟩:=a.nZ b;have p:=(wH.1 b).1;have s:k<8:=by omega
 have h:fe (ma fg 2=fo->∀W,ik 159 #[fY fg,fY 2] W<|PP (fE fo) W):=λe W=>by have:=mo fg 2 W g ⟨by decide,by decide⟩;rwa [e]at this
 clear a b o g f p;by_cases i:m<0
 ·obtain rfl:er=2:=by omega
  clear c;go_enter func101,ntmps101;go_wp2_with(go_at_call 163;refine Calls.still d.o ?_);go_ret;exact⟨fX,mi _ _⟩
 have t0:decide (m<0)=fo:=yv i;by_cases l:256<m
 ·obtain rfl:er=2:=by omega
  clear c;go_enter func101,ntmps101;go_wp2_with(go_at_call 163;refine Calls.still d.o ?_);go_ret;exact⟨fX,mi _ _⟩
 have t1:decide (256<m)=fo:=yv l;obtain⟨e,rfl⟩:ma fg 2=fo/\er=12:=by
  rcases c with a|a
  omega;exact a.2.2
 have q:fe _:=h e;clear c i l h e;go_enter func101,ntmps101;go_wp2_with fail;refine Calls.still d.o ?_;go_wp2_with(go_at_call 159;refine Calls.still (q.o _) ?_);go_ret;exact⟨fX,mi _ _⟩
