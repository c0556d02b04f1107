/- A part of the proof. -/
import Derived.Test.YtlgidcmmgohagaaGreatComM26
import Derived.JoinedCond
set_option linter.all false
namespace Go.Proofs.YtlgidcmmgohagaaGreat
open Go.RowKit Go.Sort Go.Shelf Go.Proofs.Tryz
open Go.Value renaming slice->fy,string->fA,pointer->fB,tuple->fC,agg->fD,bool->fE
open Go.Ending renaming returned->fF
open Option renaming some->fh,none->fj
open Bool renaming true->fm,false->fo
open Go renaming World->fq,Value->fu
open List renaming length->fv,reverse->fx
open Go.RowKit renaming Hid->fe
set_option maxRecDepth 100000
set_option maxHeartbeats 0
variable {F:Nat->Prop}{w:fq}{S nc dc Z wc:Nat}{na da ba wa:ig}{E base:List fV}{data T:fT}{rest:iN}
def Vd(x:jX):∀a∈uf x,a.oneCell'=fm:=by intro a b;simp[uf]at b;rcases b with rfl|rfl<;>rfl
def Ve(l:List jX)(x:jX):iC (l++[x])=iC l++uf x:=by simp[iC]
def Re(az:gp F w S na da nc dc E data rest)(bk:Aj w rest ba wa Z wc base T)(bN:fv E<=100000000)(bO:fv base<=100000000)(bQ:fv data<=1000000000)(bR:fv T<=1000000000)(bl:∀e∈E,e.2.1=1->0<=e.2.2/\e.2.2<(fv data:Int))(bm:∀e∈base,e.2.1=1->0<=e.2.2/\e.2.2<(fv T:Int))(bn:∀e∈wj E data base T,e.1.size<=maxLen):
  ik 54 #[ie S] w λe H=>∃v,e=fF v/\H.ownsRow w.heap.size 133 2 v (fv<|jP E data base T) (iC<|jP E data base T)/\ju w H:=by
 have⟨aK,aL,aM,aN,aO⟩:=kC wO;have⟨bS,bT,bU,bV,bW⟩:=kC dep;have ad:fe (gp F w S na da nc dc E data rest):=az;have ae:fe (Aj w rest ba wa Z wc base T):=bk;have bo:fe (∀e∈E,e.2.1=1->0<=e.2.2/\e.2.2<(fv data:Int)):=bl;have bX:fe (∀e∈base,e.2.1=1->0<=e.2.2/\e.2.2<(fv T:Int)):=bm;have bY:fe (∀e∈wj E data base T,e.1.size<=maxLen):=bn;obtain⟨n,af⟩:=ol<|fv E;obtain⟨m,ag⟩:=ol<|fv base;obtain⟨nd,nZ⟩:=ol<|fv data;obtain⟨aA,aB⟩:=ol<|fv T;have J:fe (n=fv E/\m=fv base/\nd=fv data/\aA=fv T):=⟨af,ag,nZ,aB⟩;rw[<-af]at bN;rw[<-ag]at bO;rw[<-nZ]at bQ;rw[<-aB]at bR;have bp:∀{d:fq},ju w d->d.c S 0=fh (fy na n nc)/\d.c S 1=fh (fy da nd dc)/\d.c S 34=fh (fy ba m Z)/\d.c S 35=fh (fy wa aA wc)/\S<d.heap.size:=λ{d}f=>by
  have I:=ad.o.below f;have bq:=I.c34<|ae.o.below f fX;rw[af,ag,nZ,aB];exact⟨I.c0,I.c1,bq.1,bq.2,I.lt⟩
 have br:fe (∀{d:fq},ju w d->d.c S 0=fh (fy na n nc)/\d.c S 1=fh (fy da nd dc)/\d.c S 34=fh (fy ba m Z)/\d.c S 35=fh (fy wa aA wc)/\S<d.heap.size):=bp;have bZ:fe (∀{d:fq}(p:fP),ju w d->ik 106 #[fy ba m Z,hh p] d (PP (fY<|pz (Pl base p)) d)):=λ{d}p f=>pK ba m Z base p d (by have:=tO (ae.o.below f fX).TX;rw[<-ag]at this;exact this) (by omega);have ca:fe (∀{d:fq}(p:fP),ju w d->ik 106 #[fy na n nc,hh p] d (PP (fY<|pz (Pl E p)) d)):=λ{d}p f=>pK na n nc E p d (by have:=tO (ad.o.below f).lT;rw[<-af]at this;exact this) (by omega);clear az bk bl bm bn af ag nZ aB bp;go_enter func54,ntmps54;go_wp2
 go_loopw [3,4] (λl i wr=>∃(k a:Nat) (o:ig) (q:Nat),k<=n/\i=.int .i64 (k:Int)/\l=fy o a q/\a<=k/\ju w wr/\fe (a=fv ((E.take k).flatMap<|mU data base T))/\fe (wr.ownsRow w.heap.size 112 3 (fy o a q) a<|flat ((E.take k).flatMap<|mU data base T))) (λ_ i _=>n-(intOf i).toNat)
 case atStart=>exact⟨0,0,fj,0,zt _,rfl,rfl,lw _,mi _ _,rfl,kO _ _ _ _⟩
 case round=>
  obtain⟨k,a,o,q,cb,rfl,rfl,bs,f,u,K⟩:=hrel;have ah:=f.size;have⟨aC,aD,aP,aQ,bt⟩:=br.o f;by_cases aR:k<n
  ·have aa:k<fv E:=by rw[<-J.o.1];exact aR
   have x:=(ad.o.below f).lT;have⟨cc,cd,ai⟩:=hZ x (by omega);have aj:=(lK ai).1;obtain⟨p,h,r,R⟩:∃p h r,E[k]=(p,h,r):=⟨_,_,_,fX⟩;have A:=BS (mU data base T) aa;have ak:=bo.o _<|kN aa;rw[R]at A ak;rw[aj]at aC x;have⟨c0,c1,c2⟩:=lr (off:=0) (ks x) aa;rw[iO,R]at c0 c1 c2;have ce:=gc x fX;have cf:(k:Int)<(n:Int):=by omega
   have Wp:fe (∀(t:Obj)(a:Nat),ik 106 #[fy ba m Z,hh p] ((wr.alloc t).drewN a) λe H=>e=fF (fY<|pz (Pl base p))/\H=(wr.alloc t).drewN a):=λt a=>bZ.o p<|iP (f.alloc ah t) a;have V:fe (∀(t:Obj)(a:Nat),ju w<|(wr.alloc t).drewN a):=λt a=>iP (f.alloc ah t) a;have C:fe (∀(t:Obj)(al:Nat),((wr.alloc t).drewN al).ownsRow w.heap.size 112 3 (fy o a q) a<|flat ((E.take k).flatMap<|mU data base T)):=λt al=>K.o.alloc t;clear ai aj x R;simp only at c0 c1 c2 ak A;by_cases I:h=1
   ·subst I
    have⟨cg,ch⟩:=ak fX;obtain⟨fn,ci⟩:∃fn:Nat,r=(fn:Int):=⟨r.toNat,by omega⟩;subst ci;have aS:fn<fv data:=by omega
    obtain⟨z,aT⟩:=ol<|data[fn];have⟨cI,bu,cJ,cK,_⟩:=row_one (ad.o.below f).jq (i:=fn) (v:=fA z) (by simp[gO,aS,aT]);rw[bu]at aD;have cL:(fn:Int)<(nd:Int):=by have:=J.o.2.2.1;omega
    have bv:fe (IJ data (fn:Int)=z):=Fr<|by unfold IJ;rw[qE,jH aS,aT];rfl
    have aU:(pz (Pl base p)=-1/\nw base p=fj)\/(∃i:Nat,∃s,∃B:Int,pz (Pl base p)=(i:Int)/\(i:Int)<(m:Int)/\s<wr.heap.size/\ba=fh (ii s 0)/\wr.c s (i*3+1)=fh (fY B)/\((B≠1/\nw base p=fj)\/B=1/\∃b:Nat,∃ab y,wr.c s (i*3+2)=fh (fY (b:Int))/\(b:Int)<(aA:Int)/\ab<wr.heap.size/\wa=fh (ii ab 0)/\wr.c ab b=fh (hh y)/\nw base p=fh (b:Int)/\IJ T (b:Int)=y)):=by
     rcases Ao base p with⟨g,c⟩|⟨i,U,g,am⟩
     exact .inl ⟨by rw[g];rfl,c⟩;have aE:=(ae.o.below f fX).TX;have⟨s,cj,aV⟩:=hZ aE (by omega);have an:=(lK aV).1;rw[an]at aE;have⟨_,W,aW⟩:=lr (off:=0) (ks aE) U;rw[iO]at W aW;refine .inr ⟨i,s,base[i].2.1,by rw[g];rfl,by have:=J.o.2.1;omega,gc aE fX,an,W,?_⟩;rcases am with am|⟨c,L⟩
     exact .inl am;have⟨cN,O⟩:=bX.o _ (kN U) c;obtain⟨b,aX⟩:∃b:Nat,base[i].2.2=(b:Int):=⟨base[i].2.2.toNat,by omega⟩;have aY:b<fv T:=by omega
     have⟨ab,ck,cl,bw,_⟩:=row_one (ae.o.below f fX).yY (i:=b) (v:=fA T[b]) (by simp[gO,aY]);exact .inr ⟨c,b,ab,T[b],by rw[aW,aX],by have:=J.o.2.2.2;omega,cl,ck,bw,by rw[L,aX],by unfold IJ;rw[qE,jH aY];rfl⟩
    have j:fe ((E.take<|k+1).flatMap (mU data base T)=(E.take k).flatMap (mU data base T)++mU data base T (p,1,(fn:Int))):=A;have M:fe ((nw base p=fj->mU data base T (p,1,(fn:Int))=[(p,1,0)])/\∀r,nw base p=fh r->mU data base T (p,1,(fn:Int))=if IJ T r=z then []else [(p,2,0)]):=by
     refine⟨λe=>?_,λr e=>?_⟩<;>(unfold mU;rw[km<|by simp];simp only[e,bv.o])
    clear A ak cg ch aS aT bu bo bv;rcases aU with⟨g,c⟩|⟨i,s,B,g,cm,cn,rfl,W,aZ⟩
    case' inl=>
     have D:fe ((E.take<|k+1).flatMap (mU data base T)=(E.take k).flatMap (mU data base T)++[(p,1,0)]):=Fr<|by rw[j.o,M.o.1 c]
     rw[g]at Wp;clear g c j M;go_wp2
     go_quiet (first|(go_at_call 106;exact Ca<|Wp.o _ _))
    case' inr=>
     rcases aZ with⟨ao,c⟩|⟨rfl,b,ab,y,aW,aY,cO,rfl,bw,c,L⟩
     case' inl=>
      have D:fe ((E.take<|k+1).flatMap (mU data base T)=(E.take k).flatMap (mU data base T)++[(p,1,0)]):=Fr<|by rw[j.o,M.o.1 c]
      rw[g]at Wp;have cp:(B != 1)=fm:=by simp[ao]
      have bx:decide ((i:Int)<0)=fo:=yv (by omega);clear g c j M ao;go_wp2
      go_quiet (first|(go_at_call 106;exact Ca<|Wp.o _ _))
     case' inr=>
      rw[g]at Wp;have bx:decide ((i:Int)<0)=fo:=yv (by omega);by_cases ac:y=z
      case' pos=>
       have cq:(y.toList==z.toList)=fm:=by rw[ac];simp
       have D:fe ((E.take<|k+1).flatMap (mU data base T)=(E.take k).flatMap (mU data base T)):=Fr<|by rw[j.o,M.o.2 _ c,lv (by rw[L,ac])];simp
       clear g c L j M ac;go_wp2
       go_quiet (first|(go_at_call 106;exact Ca<|Wp.o _ _))
       go_wp2
       go_quiet (fail)
       go_wp2;go_roundw
       case rel=>exact⟨k+1,a,o,q,by omega,by go_num,rfl,by omega,V.o _ _,by show _=_;rw[D.o];exact u.o,by show World.ownsRow _ _ _ _ _ _ _;rw[D.o];exact C.o _ _⟩
       case measure=>simp[intOf];omega
      case' neg=>
       have cq:(y.toList==z.toList)=fo:=EE.2 λe=>ac<|iy (by simpa [iQ,Au]using e);have D:fe ((E.take<|k+1).flatMap (mU data base T)=(E.take k).flatMap (mU data base T)++[(p,2,0)]):=Fr<|by rw[j.o,M.o.2 _ c,km (by rw[L];exact ac)]
       clear g c L j M ac;go_wp2
       go_quiet (first|(go_at_call 106;exact Ca<|Wp.o _ _))
       go_wp2
       go_quiet (fail)
    all_goals
     go_wp2_with(at_builtin;first|(refine yR _ fX (.tmp 50) (.tmp 54) 106 fX w.heap.size 112 aK _ 3 32 underlying106 aL aM aN aO fX (by decide) _ _ _ fX ((C.o _ _).alloc _) (ii (wr.heap.size+1) 0) 1 1 (pA (p,1,0)) fX fX (tS ((wr.alloc _).drewN _) (p,1,0) _ _<|by simp) (rx _) (by unfold maxLen;omega) (by omega) (by simp;omega) ?_)|(refine yR _ fX (.tmp 79) (.tmp 83) 106 fX w.heap.size 112 aK _ 3 32 underlying106 aL aM aN aO fX (by decide) _ _ _ fX ((C.o _ _).alloc _) (ii (wr.heap.size+1) 0) 1 1 (pA (p,2,0)) fX fX (tS ((wr.alloc _).drewN _) (p,2,0) _ _<|by simp) (rx _) (by unfold maxLen;omega) (by omega) (by simp;omega) ?_));intro cr ap X aq _;have bb:ju w ap:=Hb ((V.o _ _).alloc (by simp;omega) _) (by simp;omega) ((C.o _ _).alloc _) aq;obtain⟨ar,au,rfl⟩:=po X;have bc:fe (ap.ownsRow w.heap.size 112 3 (fy ar (a+1) au) (a+1)<|flat ((E.take<|k+1).flatMap<|mU data base T)):=by show World.ownsRow _ _ _ _ _ _ _;rw[D.o,qr,tz];exact X
     clear X aq;go_wp2;go_roundw
     case rel=>exact⟨k+1,a+1,ar,au,by omega,by go_num,rfl,by omega,bb,by show _=_;rw[D.o,u.o];simp,bc.o⟩
     case measure=>simp[intOf];omega
   have D:fe ((E.take<|k+1).flatMap (mU data base T)=(E.take k).flatMap (mU data base T)):=Fr<|by rw[A];unfold mU;rw[lv I];simp
   have cQ:(h != 1)=fm:=by simp[I]
   clear ak A I;go_wp2
   go_quiet (first|(go_at_call 106;exact Ca<|Wp.o _ _))
   go_wp2;go_roundw
   case rel=>exact⟨k+1,a,o,q,by omega,by go_num,rfl,by omega,V.o _ _,by show _=_;rw[D.o];exact u.o,by show World.ownsRow _ _ _ _ _ _ _;rw[D.o];exact C.o _ _⟩
   case measure=>simp[intOf];omega
  obtain⟨N,bd⟩:=ol<|E.flatMap (mU data base T);rw[oJ (by have:=J.o.1;omega),<-bd]at u K;have ct:fe (N=E.flatMap (mU data base T)):=bd;have cu:decide ((k:Int)<(n:Int))=fo:=yv (by omega);have bz:a<=n:=by omega
  rename fq=>cv;clear bd aD aP aQ;go_wp2
  go_loopw [3,7] (λl i wr=>∃(k a:Nat) (o:ig) (q:Nat),k<=m/\i=.int .i64 (k:Int)/\l=fy o a q/\a<=n+k/\ju w wr/\fe (a=fv (N++(base.take k).flatMap (sy E)))/\fe (wr.ownsRow w.heap.size 112 3 (fy o a q) a<|flat (N++(base.take k).flatMap (sy E)))) (λ_ i _=>m-(intOf i).toNat)
  case atStart=>exact⟨0,a,o,q,zt _,rfl,rfl,bz,f,by show a=fv (N++[]);rw[lJ];exact u.o,by show World.ownsRow _ _ _ _ _ _ (flat<|N++[]);rw[lJ];exact K.o⟩
  case round=>
   clear u K f aC bt ah bz bs;obtain⟨k,a,o,q,cb,rfl,rfl,bs,f,u,K⟩:=hrel;have ah:=f.size;have⟨aC,aD,aP,aQ,bt⟩:=br.o f;clear aD aQ;by_cases aR:k<m
   ·have aa:k<fv base:=by rw[<-J.o.2.1];exact aR
    have x:=(ae.o.below f fX).TX;have⟨cc,cd,ai⟩:=hZ x (by omega);have aj:=(lK ai).1;obtain⟨p,h,r,R⟩:∃p h r,base[k]=(p,h,r):=⟨_,_,_,fX⟩;have A:=BS (sy E) aa;rw[R]at A;rw[aj]at aP x;have⟨c0,c1,_⟩:=lr (off:=0) (ks x) aa;rw[iO,R]at c0 c1;have ce:=gc x fX;have cf:(k:Int)<(m:Int):=by omega
    have Wp:fe (∀a:Nat,ik 106 #[fy na n nc,hh p] (wr.drewN a) λe H=>e=fF (fY<|pz (Pl E p))/\H=wr.drewN a):=λa=>ca.o p<|iP f a;have V:fe (∀a:Nat,ju w<|wr.drewN a):=λa=>iP f a;have C:fe (∀al:Nat,(wr.drewN al).ownsRow w.heap.size 112 3 (fy o a q) a<|flat (N++(base.take k).flatMap (sy E))):=λal=>K.o;have aU:(pz (Pl E p)=-1/\nw E p=fj)\/(∃i:Nat,∃s,∃B:Int,pz (Pl E p)=(i:Int)/\(i:Int)<(n:Int)/\s<wr.heap.size/\na=fh (ii s 0)/\wr.c s (i*3+1)=fh (fY B)/\((B≠1/\nw E p=fj)\/B=1/\nw E p≠fj)):=by
     rcases Ao E p with⟨g,c⟩|⟨i,U,g,am⟩
     exact .inl ⟨by rw[g];rfl,c⟩;have aF:=(ad.o.below f).lT;have⟨s,cj,aV⟩:=hZ aF (by omega);have an:=(lK aV).1;rw[an]at aF;have⟨_,W,_⟩:=lr (off:=0) (ks aF) U;rw[iO]at W;exact .inr ⟨i,s,E[i].2.1,by rw[g];rfl,by have:=J.o.1;omega,gc aF fX,an,W,am.imp id λ⟨c,L⟩=>⟨c,by rw[L];simp⟩⟩
    clear ai aj x R;simp only at c0 c1 A;have j:fe ((base.take<|k+1).flatMap (sy E)=(base.take k).flatMap (sy E)++sy E (p,h,r)):=A;clear A;rcases aU with⟨g,c⟩|⟨i,s,B,g,cm,cn,aG,W,aZ⟩
    case' inl=>
     rw[g]at Wp;have P:fe (sy E (p,h,r)=if h=1 then [(p,3,0)]else []):=by show(if h=1/\nw E p=fj then _ else _)=_;simp only[c,Eg]
     clear g c
    case' inr=>
     rw[g,aG]at Wp;rw[aG]at aC;have bx:decide ((i:Int)<0)=fo:=yv (by omega);rcases aZ with⟨ao,c⟩|⟨rfl,c⟩
     case' inl=>
      have cp:(B != 1)=fm:=(by simp[ao]);have P:fe (sy E (p,h,r)=if h=1 then [(p,3,0)]else []):=by show(if h=1/\nw E p=fj then _ else _)=_;simp only[c,Eg]
      clear g c ao aG
     case' inr=>
      have P:fe (sy E (p,h,r)=[]):=by show(if h=1/\nw E p=fj then _ else _)=_;rw[km λaz=>c az.2]
      clear g c aG;cases av:(h==1)
      all_goals
       go_wp2
       go_quiet (first|(go_at_call 106;exact Ca<|Wp.o _))
       go_wp2;go_roundw
       case rel=>exact⟨k+1,a,o,q,by omega,by go_num,rfl,by omega,V.o _,by show _=_;rw[j.o,P.o,lJ];exact u.o,by show World.ownsRow _ _ _ _ _ _ _;rw[j.o,P.o,lJ];exact C.o _⟩
       case measure=>simp[intOf];omega
    all_goals
     by_cases av:h=1
     ·subst av
      have aw:fe ((base.take<|k+1).flatMap (sy E)=(base.take k).flatMap (sy E)++[(p,3,0)]):=Fr<|by rw[j.o,P.o,lv fX]
      clear j P;go_wp2
      go_quiet (first|(go_at_call 106;exact Ca<|Wp.o _))
      go_wp2_with(at_builtin;refine yR _ fX (.tmp 131) (.tmp 141) 106 fX w.heap.size 112 aK _ 3 32 underlying106 aL aM aN aO fX (by decide) _ _ _ fX ((C.o _).alloc _) (ii wr.heap.size 0) 1 1 (pA (p,3,0)) fX fX (tS (wr.drewN _) (p,3,0) _ _<|by simp) (rx _) (by unfold maxLen;omega) (by omega) (by simp;omega) ?_);intro cr ap X aq _;have bb:ju w ap:=Hb ((V.o _).alloc (by simp;omega) _) (by simp;omega) ((C.o _).alloc _) aq;obtain⟨ar,au,rfl⟩:=po X;have bc:fe (ap.ownsRow w.heap.size 112 3 (fy ar (a+1) au) (a+1)<|flat (N++(base.take<|k+1).flatMap (sy E))):=by show World.ownsRow _ _ _ _ _ _ _;rw[aw.o,<-sL,qr,tz];exact X
      clear X aq;go_wp2;go_roundw
      case rel=>exact⟨k+1,a+1,ar,au,by omega,by go_num,rfl,by omega,bb,by show _=_;rw[aw.o,<-sL,lI,<-u.o];rfl,bc.o⟩
      case measure=>simp[intOf];omega
     have aw:fe ((base.take<|k+1).flatMap (sy E)=(base.take k).flatMap (sy E)):=Fr<|by rw[j.o,P.o,km av,lJ]
     have cS:(h==1)=fo:=(by simp[av]);clear j P av;go_wp2
     go_quiet (first|(go_at_call 106;exact Ca<|Wp.o _))
     go_wp2;go_roundw
     case rel=>exact⟨k+1,a,o,q,by omega,by go_num,rfl,by omega,V.o _,by show _=_;rw[aw.o];exact u.o,by show World.ownsRow _ _ _ _ _ _ _;rw[aw.o];exact C.o _⟩
     case measure=>simp[intOf];omega
   have cw:fe (N++(base.take k).flatMap (sy E)=wj E data base T):=Fr<|by rw[ct.o,oJ (by have:=J.o.2.1;omega)];rfl
   rw[cw.o]at u K;have bA:fe _:=zA o a q (wj E data base T) wr (ir K.o) (by omega) bY.o;have cu:decide ((k:Int)<(m:Int))=fo:=yv (by omega);rename fq=>cv
   go_wp2_with fail;apply RK bA.o;rintro _ Y ⟨v,rfl,be,bB⟩;obtain⟨cT,cU,rfl⟩:=po be;have ax:fe _:=be;have bC:fe (ju w Y):=f.trans<|bB.mono ah;have bD:=bC.o.size;obtain⟨G,bf⟩:=ol<|Sx (wj E data base T);rw[<-bf]at ax;have bE:fe (jP E data base T=G.map λe=>(e.1,e.2.1)):=Fr<|by unfold jP;rw[bf]
   have bg:fe (fv G=a):=Fr<|by have:=ax.o.1;rw[ly]at this;omega
   clear bf be bB bA;go_wp2
   go_loopw [9,10] (λcx i wr=>∃(b:Nat) (ay:ig) (co:Nat),b<=a/\i=.int .i64 (b:Int)/\cx=fy ay b co/\ju Y wr/\fe (wr.ownsRow Y.heap.size 133 2 (fy ay b co) b<|iC ((G.take b).map λe=>(e.1,e.2.1)))) (λ_ i _=>a-(intOf i).toNat)
   case atStart=>exact⟨0,fj,0,zt _,rfl,rfl,mi _ _,kO _ _ _ _⟩
   case round=>
    obtain⟨b,ay,co,aX,rfl,rfl,hbr,bh⟩:=hrel;have cy:=hbr.size;by_cases cz:b<a
    ·have bF:b<fv G:=by rw[bg.o];exact cz
     have⟨aH,cV,bG⟩:=hZ ax.o (by omega);have cA:=(lK bG).1;subst cA;have bH:aH<Y.heap.size:=gc ax.o fX;have⟨aI,aJ,_⟩:=lr (off:=0) (ks ax.o) bF;rw[iO]at aI aJ;obtain⟨y,Q,bI,bi⟩:∃y Q bI,G[b]=(y,Q,bI):=⟨_,_,_,fX⟩;rw[bi]at aI aJ;have cC:=(hbr.cell (p:=(ii aH<|b*3)) bH).trans aI;have cD:=(hbr.cell (p:=(ii aH<|b*3+1)) bH).trans aJ;have cW:aH<wr.heap.size:=by omega
     have j:fe ((G.take<|b+1).map (λe:fV=>(e.1,e.2.1))=(G.take b).map (λe=>(e.1,e.2.1))++[(y,Q)]):=Fr<|by rw[vk bF,nh,bi];rfl
     have cX:(b:Int)<(a:Int):=(by omega);simp only at cC cD;clear aI aJ bG bi;go_wp2
     go_region_law(refine pu fX (.tmp 151) (.tmp 163) 121 fX Y.heap.size 133 bS _ 2 24 underlying121 bT bU bV bW fX (by decide) (fy ay b co) b (iC ((G.take b).map λe:fV=>(e.1,e.2.1))) (by simp[Act.eval]) (show(wr.k #[hh y,fY Q] 133).drew.ownsRow _ _ _ _ _ _ from rE bh.o _) (ii wr.heap.size 0) 1 1 [hh y,fY Q] (by simp[Act.eval]) fX (Mn wr (hh y) (fY Q) _ _ fX) (Vd (y,Q)) (by unfold maxLen;omega) (by omega) (by simp;omega) ?_;intro cY bJ bj bK _)
     all_goals
      have cE:ju Y bJ:=Hb (il<|hbr.alloc cy _) (by simp;omega) (show(wr.k #[hh y,fY Q] 133).drew.ownsRow _ _ _ _ _ _ from rE bh.o _) bK;obtain⟨bL,bM,rfl⟩:=po bj;have cF:fe (bJ.ownsRow Y.heap.size 133 2 (fy bL (b+1) bM) (b+1)<|iC ((G.take<|b+1).map λe=>(e.1,e.2.1))):=by show World.ownsRow _ _ _ _ _ _ _;rw[j.o,Ve];exact bj
      clear bj bK;go_wp2;go_roundw
      case rel=>exact⟨b+1,bL,bM,by omega,by go_num,rfl,cE,cF.o⟩
      case measure=>simp[intOf];omega
    have cZ:decide ((b:Int)<(a:Int))=fo:=yv (by omega);have cG:fe ((G.take b).map (λe:fV=>(e.1,e.2.1))=jP E data base T):=Fr<|by rw[bE.o,oJ (by rw[bg.o];omega)]
    have cH:fe (fv (jP E data base T)=b):=Fr<|by rw[bE.o,oI,bg.o];omega
    go_wp2;go_ret;refine⟨fy ay b co,fX,?_,bC.o.trans<|hbr.mono bD⟩;rw[cH.o,<-cG.o];exact tB bh.o bD
def Vc{g}{h:Region.Mode}{a:List Oper}{b:Exit->Act->fq->Prop}{c:Array Bool}{d}{w:fq}(k){fuel:Nat}(i:fv (a.drop k)=fuel)(hs:Region.noSelect a.toArray=fm)(j:Region.lexFrom h a.toArray (fv<|a.drop k) k c=fm)
  (e:wpQuiet g a.toArray (λH=>∃n,H=w.drewN n) (λf=>∀H,(∃n,H=w.drewN n)->b .normal f H) (a.drop k) d):wpAny g h a.toArray b fuel c d w:=by
 subst i;exact wpAny_of_quiet (Q:=λf=>∀H,(∃n,H=w.drewN n)->b .normal f H) (λ_ H l e=>e H l) _ _ _ _ ⟨0,fX⟩<|wpAnyQ_lex hs (a.drop k) k c d (λm=>by simp) j e
theorem huv(d n r y z wc ar ab ac:Nat)(u k K L:Int)(M N)(P)(Q R)(ad)(w:fq)(S:d<w.heap.size)(c5:w.c d 5=fh (my y 0 n wc))(ae:w.c d 6=fh (my z 0 n ar))
  (W:y<w.heap.size)(kQ:z<w.heap.size)(au:r<n)(av:n<=1000000000)(af:w.c y r=fh (ie ab))(ag:w.c z r=fh (ie ac))(ah:-9223372036854775808<=k/\k<=9223372036854775807)(ai:tW k (n:Int)=(r:Int))
  (X:xle d ab ac u (iT u k K L M N P Q R) ad w):
  ik 23 #[ie d,fD<|iT u k K L M N P Q R] w λe H=>e=fF (fE fm)/\ad H:=by
 have Y:=λaw=>fwd k (n:Int) aw ah (by omega) (by omega);rw[ai]at Y;unfold iT at X |-;obtain⟨aj,f⟩:=ol (.cells #[fY u,fY k,fY K,fY L,hh M,hh N,fy P Q R] 57:Obj);obtain⟨O,a⟩:=ol<|w.alloc aj;have g:ju w O:=by rw[a];exact(mi _ _).alloc (lw _) aj
 have ax:w.heap.size<O.heap.size:=by rw[a];simp
 have ay:O.c w.heap.size 0=fh (fY u):=by rw[a,f];simp
 have az:O.c w.heap.size 1=fh (fY k):=by rw[a,f];simp
 have aA:O.c w.heap.size 2=fh (fY K):=by rw[a,f];simp
 have aB:O.c w.heap.size 3=fh (fY L):=by rw[a,f];simp
 have aC:O.c w.heap.size 4=fh (hh M):=by rw[a,f];simp
 have aD:O.c w.heap.size 5=fh (hh N):=by rw[a,f];simp
 have aE:O.c w.heap.size 6=fh (fy P Q R):=by rw[a,f];simp
 have aF:=(g.cell (p:=(ii d 5)) S).trans c5;have aG:=(g.cell (p:=(ii d 6)) S).trans ae;have aH:=(g.cell (p:=(ii y r)) W).trans af;have aI:=(g.cell (p:=(ii z r)) kQ).trans ag;have aJ:d<O.heap.size:=np S g.size;have aK:y<O.heap.size:=np W g.size;have aL:z<O.heap.size:=np kQ g.size;have aM:(r:Int)<(n:Int):=by omega
 have A:fe _:=X;have l:fe _:=λh=>iP g h;have ak:fe _:=Y;clear X Y c5 ae af ag ai;go_enter func23,ntmps23;go_upto_region 1 with fail;rw[<-f,<-a];clear f a g
 go_region_with(go_at_call 49;refine Calls.still (ak.o _) ?_)
 all_goals
  rcases A.o with⟨aN,B⟩|⟨aN,bd,B⟩|⟨rfl,m,aO,aP,aQ,C,D,E,F⟩|⟨rfl,id,Z,x,be,bf,aO,aP,C,D,aR⟩
  ·have j:fe _:=λh=>B _ (l.o h)
   clear B A l;go_wp2_with(go_at_call 50;refine Calls.via (j.o _) λT o=>?_);go_ret;exact⟨fX,o⟩
  ·have j:fe _:=λh=>B _ (l.o h)
   have t13:decide (u<=13)=fo:=yv (by omega);clear B A l;go_wp2_with(go_at_call 51;refine Calls.via (j.o _) λT o=>?_);go_ret;exact⟨fX,o⟩
  ·have j:fe _:=λh=>C _ (l.o h)
   have G:fe _:=D;have U:fe _:=E;have aa:fe _:=F;have aS:fe _:=λ(aT:Bool)(H:fq)=>gW d 0 0 aT H fX;clear C D E F A l;go_wp2_with(first
    |(go_at_call 52;apply RK<|j.o _;rintro _ T ⟨bg,c,rfl,q⟩;have aU:fe _:=q;clear q)
    |(go_at_call 53;refine Calls.still (aS.o _ _) ?_)
    |(go_at_call 54;apply RK<|G.o _ _ _ aU.o;rintro _ al ⟨bh,bi,rfl,t⟩;have aV:fe _:=t;clear t)
    |(go_at_call 55;refine Calls.via (U.o _ _ _ _ _ aV.o) λaW I=>?_;have aX:fe _:=I;clear I)
    |(go_at_call 56;refine Calls.via (aa.o _ _ _ aX.o) λbj o=>?_))
   go_ret;exact⟨fX,o⟩
  have j:fe _:=λh=>C _<|l.o h;have G:fe _:=D;have am:=λ(e:Int)(aY:fq)=>iR e aY;clear C D A l;rcases aR with⟨aZ,rfl,rfl,o⟩|⟨rfl,rfl,s,m,aQ,E,F⟩
  ·have bk:(Z != 0)=fm:=by simpa using aZ
   have bl:(Z==Z)=fm:=by simp
   have bb:fe _:=o;clear o;go_wp2_with(first
    |(go_at_call 18;refine Calls.via (j.o _) λT q=>?_;have⟨an,ao,J⟩:=G.o _ q;have V:fe _:=J;clear J q)
    |(go_at_call 57;refine Calls.via V.o λal t=>?_)
    |(go_at_call 22;refine Calls.still (am _ _) ?_))
   go_ret;exact⟨fX,bb.o _ t⟩
  have U:fe _:=E;have aa:fe _:=F;clear E F az aA aB aC aD aE;go_wp2_with fail;refine Calls.via (j.o _) λT q=>?_;have⟨an,ao,J⟩:=G.o _ q;have V:fe _:=J;clear J q ay aF aG aH aI aJ aK aL S W kQ au av ah aM j ax ak;go_wp2_with fail;refine Calls.via V.o λal t=>?_;have bc:fe _:=U.o _ t;clear t V G U ao an am;go_wp2;apply wp_region_any<|by kernel_rfl
  try(change wpAny _ _ _ _ _ _ _ (World.drew _))
  refine WR (i:=0) (v:=?_) fX (by kernel_rfl) (by kernel_rfl) (by kernel_rfl) (λ_ _ _ b=>b) (Or.inl ⟨by rfl,?_⟩) ?_
  rotate_left
  ·intro w
   go_simp
   try with_reducible rfl
  refine WR (i:=1) (v:=?_) fX (by kernel_rfl) (by kernel_rfl) (by kernel_rfl) (λ_ _ _ b=>b) (Or.inl ⟨by rfl,?_⟩) ?_
  rotate_left
  ·intro w
   go_simp
   try with_reducible rfl
  refine WR (i:=2) (v:=?_) fX (by kernel_rfl) (by kernel_rfl) (by kernel_rfl) (λ_ _ _ b=>b) (Or.inl ⟨by rfl,?_⟩) ?_
  rotate_left
  ·intro w
   go_simp
   try with_reducible rfl
  refine WR (i:=3) (v:=?_) fX (by kernel_rfl) (by kernel_rfl) (by kernel_rfl) (λ_ _ _ b=>b) (Or.inl ⟨by rfl,?_⟩) ?_
  rotate_left
  ·intro w
   go_simp
   try with_reducible rfl
  refine WR (i:=4) (v:=?_) fX (by kernel_rfl) (by kernel_rfl) (by kernel_rfl) (λ_ _ _ b=>b) (Or.inl ⟨by rfl,?_⟩) ?_
  rotate_left
  ·intro w
   go_simp
   try with_reducible rfl
  refine WR (i:=5) (v:=?_) fX (by kernel_rfl) (by kernel_rfl) (by kernel_rfl) (λ_ _ _ b=>b) (Or.inl ⟨by rfl,?_⟩) ?_
  rotate_left
  ·intro w
   go_simp
   try with_reducible rfl
  apply wpAny_ready (rs:=[6]) (by kernel_rfl) (by simp);refine AllReady.cons fX (λbm bn=>?_) AllReady.nil
  go_simp
  go_wp2_with(go_at_call 37;refine Calls.via (bc.o _) λaW I=>?_;have⟨bo,bp,bq,br,⟨bs,bt,bu⟩,ap⟩:=aa.o _ I;have aq:fe _:=ap;clear ap I);apply Vc 7 fX (by kernel_rfl) (by kernel_rfl);simp only[KQ,Ce]
  repeat(go_big_quiet_step (first|(go_at_call 45;exact Ca (aq.o _).2)))
  apply Rx;rintro _ ⟨nq,rfl⟩;go_wp2;go_ret;exact⟨fX,(aq.o _).1⟩
end Go.Proofs.YtlgidcmmgohagaaGreat
namespace Go.Proofs.YtlgidcmmgohagaaGreat
open Go
def MR:(Rows.commitsUptoRow.inPlace==Tryz.pinned.checked.prog.inPlace 5)=true:=by kernel_rfl
def Rf:(Rows.commitsUptoRow.unfollowed==Tryz.pinned.checked.prog.unfollowed 5)=true:=by kernel_rfl
def MS:(Rows.commitsUptoRow.recurses==Tryz.pinned.checked.prog.recurses 5)=true:=by kernel_rfl
def MT:(Rows.commitsUptoRow.named==Tryz.pinned.checked.prog.varsNamed 5)=true:=by kernel_rfl
def MU:joinedFacts Tryz.pinned.checked.prog 5 Tryz.f5 (Rows.OpenSpec.upto Rows.commitsSpec).bare Rows.commitsUptoRow=true:=by
 unfold joinedFacts;rw[MR,Rf,MS,MT]
 kernel_rfl
