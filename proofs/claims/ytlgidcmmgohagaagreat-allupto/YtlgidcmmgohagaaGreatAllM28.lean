/- A part of the proof. -/
import Derived.Test.YtlgidcmmgohagaaGreatAllM24
set_option linter.all false
namespace Go.Proofs.YtlgidcmmgohagaaGreat
open Go.RowKit Go.Sort Go.Shelf Go.Proofs.Tryz
open Go.Value renaming slice->fy,string->fA,pointer->fB,tuple->fC,agg->fD,bool->fE
open Go.Ending renaming returned->fF
open Option renaming some->fh,none->fj
open Bool renaming true->fm,false->fo
open Go renaming World->fq,Value->fu
open List renaming length->fv,reverse->fx
open Go.RowKit renaming Hid->fe
set_option maxRecDepth 100000
set_option maxHeartbeats 0
variable {F:Nat->Prop}{w:fq}{S nc dc bc wc:Nat}{na da ba wa:iD}{E base:List fV}{data N:fQ}{rest:gX}
def Vb(x:iV):∀a∈uk x,a.oneCell'=fm:=by intro a b;simp[uk]at b;rcases b with rfl|rfl<;>rfl
def Vc(l:List iV)(x:iV):iB (l++[x])=iB l++uk x:=by simp[iB]
def Re(ax:gm F w S na da nc dc E data rest)(bj:Aj w rest ba wa bc wc base N)(bM:fv E<=100000000)(bN:fv base<=100000000)(bO:fv data<=1000000000)(bQ:fv N<=1000000000)(bk:∀e∈E,e.2.1=1->0<=e.2.2/\e.2.2<(fv data:Int))(bl:∀e∈base,e.2.1=1->0<=e.2.2/\e.2.2<(fv N:Int))(bm:∀e∈wu E data base N,e.1.size<=maxLen):
  ik 54 #[ii S] w λe J=>∃v,e=fF v/\J.ownsRow w.heap.size 133 2 v (fv<|lF E data base N) (iB<|lF E data base N)/\ju w J:=by
 have⟨aI,aJ,aK,aL,aM⟩:=kM wP;have⟨bR,bS,bT,bU,bV⟩:=kM dep;have ab:fe (gm F w S na da nc dc E data rest):=ax;have ac:fe (Aj w rest ba wa bc wc base N):=bj;have bn:fe (∀e∈E,e.2.1=1->0<=e.2.2/\e.2.2<(fv data:Int)):=bk;have bW:fe (∀e∈base,e.2.1=1->0<=e.2.2/\e.2.2<(fv N:Int)):=bl;have bX:fe (∀e∈wu E data base N,e.1.size<=maxLen):=bm;obtain⟨n,ad⟩:=oX<|fv E;obtain⟨m,ae⟩:=oX<|fv base;obtain⟨nd,oh⟩:=oX<|fv data;obtain⟨ay,az⟩:=oX<|fv N;have I:fe (n=fv E/\m=fv base/\nd=fv data/\ay=fv N):=⟨ad,ae,oh,az⟩;rw[<-ad]at bM;rw[<-ae]at bN;rw[<-oh]at bO;rw[<-az]at bQ;have bo:∀{d:fq},ju w d->d.c S 0=fh (fy na n nc)/\d.c S 1=fh (fy da nd dc)/\d.c S 34=fh (fy ba m bc)/\d.c S 35=fh (fy wa ay wc)/\S<d.heap.size:=λ{d}f=>by
  have H:=ab.o.below f;have bp:=H.c34<|ac.o.below f fX;rw[ad,ae,oh,az];exact⟨H.c0,H.c1,bp.1,bp.2,H.lt⟩
 have bq:fe (∀{d:fq},ju w d->d.c S 0=fh (fy na n nc)/\d.c S 1=fh (fy da nd dc)/\d.c S 34=fh (fy ba m bc)/\d.c S 35=fh (fy wa ay wc)/\S<d.heap.size):=bo;have bY:fe (∀{d:fq}(p:fO),ju w d->ik 106 #[fy ba m bc,hZ p] d (UV (fY<|pF (QQ base p)) d)):=λ{d}p f=>pM ba m bc base p d (by have:=tV (ac.o.below f fX).TW;rw[<-ae]at this;exact this) (by omega);have bZ:fe (∀{d:fq}(p:fO),ju w d->ik 106 #[fy na n nc,hZ p] d (UV (fY<|pF (QQ E p)) d)):=λ{d}p f=>pM na n nc E p d (by have:=tV (ab.o.below f).lU;rw[<-ad]at this;exact this) (by omega);clear ax bj bk bl bm ad ae oh az bo;go_enter func54,ntmps54;go_wp2
 go_loopw [3,4] (λl i wr=>∃(k a:Nat) (o:iD) (q:Nat),k<=n/\i=.int .i64 (k:Int)/\l=fy o a q/\a<=k/\ju w wr/\fe (a=fv ((E.take k).flatMap<|mV data base N))/\fe (wr.ownsRow w.heap.size 112 3 (fy o a q) a<|flat ((E.take k).flatMap<|mV data base N))) (λ_ i _=>n-(intOf i).toNat)
 case atStart=>exact⟨0,0,fj,0,Fr _,rfl,rfl,lw _,mi _ _,rfl,jY _ _ _ _⟩
 case round=>
  obtain⟨k,a,o,q,ca,rfl,rfl,br,f,u,K⟩:=hrel;have af:=f.size;have⟨aA,aB,aN,aO,bs⟩:=bq.o f;by_cases aP:k<n
  ·have Y:k<fv E:=by rw[<-I.o.1];exact aP
   have x:=(ab.o.below f).lU;have⟨cb,cc,ag⟩:=hh x (by omega);have ah:=(lK ag).1;obtain⟨p,h,r,R⟩:∃p h r,E[k]=(p,h,r):=⟨_,_,_,fX⟩;have A:=BV (mV data base N) Y;have ai:=bn.o _<|kK Y;rw[R]at A ai;rw[ah]at aA x;have⟨c0,c1,c2⟩:=lr (off:=0) (ks x) Y;rw[iR,R]at c0 c1 c2;have cd:=gc x fX;have ce:(k:Int)<(n:Int):=by omega
   have Wj:fe (∀(t:Obj)(a:Nat),ik 106 #[fy ba m bc,hZ p] ((wr.alloc t).drewN a) λe J=>e=fF (fY<|pF (QQ base p))/\J=(wr.alloc t).drewN a):=λt a=>bY.o p<|jf (f.alloc af t) a;have T:fe (∀(t:Obj)(a:Nat),ju w<|(wr.alloc t).drewN a):=λt a=>jf (f.alloc af t) a;have C:fe (∀(t:Obj)(aj:Nat),((wr.alloc t).drewN aj).ownsRow w.heap.size 112 3 (fy o a q) a<|flat ((E.take k).flatMap<|mV data base N)):=λt aj=>K.o.alloc t;clear ag ah x R;simp only at c0 c1 c2 ai A;by_cases H:h=1
   ·subst H
    have⟨cf,cg⟩:=ai fX;obtain⟨fn,ch⟩:∃fn:Nat,r=(fn:Int):=⟨r.toNat,by omega⟩;subst ch;have aQ:fn<fv data:=by omega
    obtain⟨z,aR⟩:=oX<|data[fn];have⟨cH,bt,cI,cJ,_⟩:=row_one (ab.o.below f).jm (i:=fn) (v:=fA z) (by simp[gN,aQ,aR]);rw[bt]at aB;have cK:(fn:Int)<(nd:Int):=by have:=I.o.2.2.1;omega
    have bu:fe (IP data (fn:Int)=z):=Hc<|by unfold IP;rw[qI,jG aQ,aR];rfl
    have aS:(pF (QQ base p)=-1/\nw base p=fj)\/(∃i:Nat,∃s,∃B:Int,pF (QQ base p)=(i:Int)/\(i:Int)<(m:Int)/\s<wr.heap.size/\ba=fh (ie s 0)/\wr.c s (i*3+1)=fh (fY B)/\((B≠1/\nw base p=fj)\/B=1/\∃b:Nat,∃Z y,wr.c s (i*3+2)=fh (fY (b:Int))/\(b:Int)<(ay:Int)/\Z<wr.heap.size/\wa=fh (ie Z 0)/\wr.c Z b=fh (hZ y)/\nw base p=fh (b:Int)/\IP N (b:Int)=y)):=by
     rcases Ao base p with⟨g,c⟩|⟨i,U,g,ak⟩
     exact .inl ⟨by rw[g];rfl,c⟩;have aC:=(ac.o.below f fX).TW;have⟨s,ci,aT⟩:=hh aC (by omega);have al:=(lK aT).1;rw[al]at aC;have⟨_,V,aU⟩:=lr (off:=0) (ks aC) U;rw[iR]at V aU;refine .inr ⟨i,s,base[i].2.1,by rw[g];rfl,by have:=I.o.2.1;omega,gc aC fX,al,V,?_⟩;rcases ak with ak|⟨c,L⟩
     exact .inl ak;have⟨cL,cN⟩:=bW.o _ (kK U) c;obtain⟨b,aV⟩:∃b:Nat,base[i].2.2=(b:Int):=⟨base[i].2.2.toNat,by omega⟩;have aW:b<fv N:=by omega
     have⟨Z,cj,ck,bv,_⟩:=row_one (ac.o.below f fX).yV (i:=b) (v:=fA N[b]) (by simp[gN,aW]);exact .inr ⟨c,b,Z,N[b],by rw[aU,aV],by have:=I.o.2.2.2;omega,ck,cj,bv,by rw[L,aV],by unfold IP;rw[qI,jG aW];rfl⟩
    have j:fe ((E.take<|k+1).flatMap (mV data base N)=(E.take k).flatMap (mV data base N)++mV data base N (p,1,(fn:Int))):=A;have M:fe ((nw base p=fj->mV data base N (p,1,(fn:Int))=[(p,1,0)])/\∀r,nw base p=fh r->mV data base N (p,1,(fn:Int))=if IP N r=z then []else [(p,2,0)]):=by
     refine⟨λe=>?_,λr e=>?_⟩<;>(unfold mV;rw[km<|by simp];simp only[e,bu.o])
    clear A ai cf cg aQ aR bt bn bu;rcases aS with⟨g,c⟩|⟨i,s,B,g,cl,cm,rfl,V,aX⟩
    case' inl=>
     have D:fe ((E.take<|k+1).flatMap (mV data base N)=(E.take k).flatMap (mV data base N)++[(p,1,0)]):=Hc<|by rw[j.o,M.o.1 c]
     rw[g]at Wj;clear g c j M;go_wp2
     go_quiet (first|(go_at_call 106;exact Cc<|Wj.o _ _))
    case' inr=>
     rcases aX with⟨am,c⟩|⟨rfl,b,Z,y,aU,aW,cO,rfl,bv,c,L⟩
     case' inl=>
      have D:fe ((E.take<|k+1).flatMap (mV data base N)=(E.take k).flatMap (mV data base N)++[(p,1,0)]):=Hc<|by rw[j.o,M.o.1 c]
      rw[g]at Wj;have cn:(B != 1)=fm:=by simp[am]
      have bw:decide ((i:Int)<0)=fo:=yv (by omega);clear g c j M am;go_wp2
      go_quiet (first|(go_at_call 106;exact Cc<|Wj.o _ _))
     case' inr=>
      rw[g]at Wj;have bw:decide ((i:Int)<0)=fo:=yv (by omega);by_cases aa:y=z
      case' pos=>
       have cp:(y.toList==z.toList)=fm:=by rw[aa];simp
       have D:fe ((E.take<|k+1).flatMap (mV data base N)=(E.take k).flatMap (mV data base N)):=Hc<|by rw[j.o,M.o.2 _ c,lv (by rw[L,aa])];simp
       clear g c L j M aa;go_wp2
       go_quiet (first|(go_at_call 106;exact Cc<|Wj.o _ _))
       go_wp2
       go_quiet (fail)
       go_wp2;go_roundw
       case rel=>exact⟨k+1,a,o,q,by omega,by go_num,rfl,by omega,T.o _ _,by show _=_;rw[D.o];exact u.o,by show World.ownsRow _ _ _ _ _ _ _;rw[D.o];exact C.o _ _⟩
       case measure=>simp[intOf];omega
      case' neg=>
       have cp:(y.toList==z.toList)=fo:=EF.2 λe=>aa<|iF (by simpa [iT,Av]using e);have D:fe ((E.take<|k+1).flatMap (mV data base N)=(E.take k).flatMap (mV data base N)++[(p,2,0)]):=Hc<|by rw[j.o,M.o.2 _ c,km (by rw[L];exact aa)]
       clear g c L j M aa;go_wp2
       go_quiet (first|(go_at_call 106;exact Cc<|Wj.o _ _))
       go_wp2
       go_quiet (fail)
    all_goals
     go_wp2_with(at_builtin;first|(refine yO _ fX (.tmp 50) (.tmp 54) 106 fX w.heap.size 112 aI _ 3 32 underlying106 aJ aK aL aM fX (by decide) _ _ _ fX ((C.o _ _).alloc _) (ie (wr.heap.size+1) 0) 1 1 (pB (p,1,0)) fX fX (ub ((wr.alloc _).drewN _) (p,1,0) _ _<|by simp) (se _) (by unfold maxLen;omega) (by omega) (by simp;omega) ?_)|(refine yO _ fX (.tmp 79) (.tmp 83) 106 fX w.heap.size 112 aI _ 3 32 underlying106 aJ aK aL aM fX (by decide) _ _ _ fX ((C.o _ _).alloc _) (ie (wr.heap.size+1) 0) 1 1 (pB (p,2,0)) fX fX (ub ((wr.alloc _).drewN _) (p,2,0) _ _<|by simp) (se _) (by unfold maxLen;omega) (by omega) (by simp;omega) ?_));intro cq an W ao _;have aY:ju w an:=Hm ((T.o _ _).alloc (by simp;omega) _) (by simp;omega) ((C.o _ _).alloc _) ao;obtain⟨ap,aq,rfl⟩:=pp W;have aZ:fe (an.ownsRow w.heap.size 112 3 (fy ap (a+1) aq) (a+1)<|flat ((E.take<|k+1).flatMap<|mV data base N)):=by show World.ownsRow _ _ _ _ _ _ _;rw[D.o,ra,tz];exact W
     clear W ao;go_wp2;go_roundw
     case rel=>exact⟨k+1,a+1,ap,aq,by omega,by go_num,rfl,by omega,aY,by show _=_;rw[D.o,u.o];simp,aZ.o⟩
     case measure=>simp[intOf];omega
   have D:fe ((E.take<|k+1).flatMap (mV data base N)=(E.take k).flatMap (mV data base N)):=Hc<|by rw[A];unfold mV;rw[lv H];simp
   have cQ:(h != 1)=fm:=by simp[H]
   clear ai A H;go_wp2
   go_quiet (first|(go_at_call 106;exact Cc<|Wj.o _ _))
   go_wp2;go_roundw
   case rel=>exact⟨k+1,a,o,q,by omega,by go_num,rfl,by omega,T.o _ _,by show _=_;rw[D.o];exact u.o,by show World.ownsRow _ _ _ _ _ _ _;rw[D.o];exact C.o _ _⟩
   case measure=>simp[intOf];omega
  obtain⟨O,bb⟩:=oX<|E.flatMap (mV data base N);rw[oM (by have:=I.o.1;omega),<-bb]at u K;have cr:fe (O=E.flatMap (mV data base N)):=bb;have ct:decide ((k:Int)<(n:Int))=fo:=yv (by omega);have bx:a<=n:=by omega
  rename fq=>cu;clear bb aB aN aO;go_wp2
  go_loopw [3,7] (λl i wr=>∃(k a:Nat) (o:iD) (q:Nat),k<=m/\i=.int .i64 (k:Int)/\l=fy o a q/\a<=n+k/\ju w wr/\fe (a=fv (O++(base.take k).flatMap (sH E)))/\fe (wr.ownsRow w.heap.size 112 3 (fy o a q) a<|flat (O++(base.take k).flatMap (sH E)))) (λ_ i _=>m-(intOf i).toNat)
  case atStart=>exact⟨0,a,o,q,Fr _,rfl,rfl,bx,f,by show a=fv (O++[]);rw[lJ];exact u.o,by show World.ownsRow _ _ _ _ _ _ (flat<|O++[]);rw[lJ];exact K.o⟩
  case round=>
   clear u K f aA bs af bx br;obtain⟨k,a,o,q,ca,rfl,rfl,br,f,u,K⟩:=hrel;have af:=f.size;have⟨aA,aB,aN,aO,bs⟩:=bq.o f;clear aB aO;by_cases aP:k<m
   ·have Y:k<fv base:=by rw[<-I.o.2.1];exact aP
    have x:=(ac.o.below f fX).TW;have⟨cb,cc,ag⟩:=hh x (by omega);have ah:=(lK ag).1;obtain⟨p,h,r,R⟩:∃p h r,base[k]=(p,h,r):=⟨_,_,_,fX⟩;have A:=BV (sH E) Y;rw[R]at A;rw[ah]at aN x;have⟨c0,c1,_⟩:=lr (off:=0) (ks x) Y;rw[iR,R]at c0 c1;have cd:=gc x fX;have ce:(k:Int)<(m:Int):=by omega
    have Wj:fe (∀a:Nat,ik 106 #[fy na n nc,hZ p] (wr.drewN a) λe J=>e=fF (fY<|pF (QQ E p))/\J=wr.drewN a):=λa=>bZ.o p<|jf f a;have T:fe (∀a:Nat,ju w<|wr.drewN a):=λa=>jf f a;have C:fe (∀aj:Nat,(wr.drewN aj).ownsRow w.heap.size 112 3 (fy o a q) a<|flat (O++(base.take k).flatMap (sH E))):=λaj=>K.o;have aS:(pF (QQ E p)=-1/\nw E p=fj)\/(∃i:Nat,∃s,∃B:Int,pF (QQ E p)=(i:Int)/\(i:Int)<(n:Int)/\s<wr.heap.size/\na=fh (ie s 0)/\wr.c s (i*3+1)=fh (fY B)/\((B≠1/\nw E p=fj)\/B=1/\nw E p≠fj)):=by
     rcases Ao E p with⟨g,c⟩|⟨i,U,g,ak⟩
     exact .inl ⟨by rw[g];rfl,c⟩;have aD:=(ab.o.below f).lU;have⟨s,ci,aT⟩:=hh aD (by omega);have al:=(lK aT).1;rw[al]at aD;have⟨_,V,_⟩:=lr (off:=0) (ks aD) U;rw[iR]at V;exact .inr ⟨i,s,E[i].2.1,by rw[g];rfl,by have:=I.o.1;omega,gc aD fX,al,V,ak.imp id λ⟨c,L⟩=>⟨c,by rw[L];simp⟩⟩
    clear ag ah x R;simp only at c0 c1 A;have j:fe ((base.take<|k+1).flatMap (sH E)=(base.take k).flatMap (sH E)++sH E (p,h,r)):=A;clear A;rcases aS with⟨g,c⟩|⟨i,s,B,g,cl,cm,aE,V,aX⟩
    case' inl=>
     rw[g]at Wj;have P:fe (sH E (p,h,r)=if h=1 then [(p,3,0)]else []):=by show(if h=1/\nw E p=fj then _ else _)=_;simp only[c,Eg]
     clear g c
    case' inr=>
     rw[g,aE]at Wj;rw[aE]at aA;have bw:decide ((i:Int)<0)=fo:=yv (by omega);rcases aX with⟨am,c⟩|⟨rfl,c⟩
     case' inl=>
      have cn:(B != 1)=fm:=(by simp[am]);have P:fe (sH E (p,h,r)=if h=1 then [(p,3,0)]else []):=by show(if h=1/\nw E p=fj then _ else _)=_;simp only[c,Eg]
      clear g c am aE
     case' inr=>
      have P:fe (sH E (p,h,r)=[]):=by show(if h=1/\nw E p=fj then _ else _)=_;rw[km λax=>c ax.2]
      clear g c aE;cases ar:(h==1)
      all_goals
       go_wp2
       go_quiet (first|(go_at_call 106;exact Cc<|Wj.o _))
       go_wp2;go_roundw
       case rel=>exact⟨k+1,a,o,q,by omega,by go_num,rfl,by omega,T.o _,by show _=_;rw[j.o,P.o,lJ];exact u.o,by show World.ownsRow _ _ _ _ _ _ _;rw[j.o,P.o,lJ];exact C.o _⟩
       case measure=>simp[intOf];omega
    all_goals
     by_cases ar:h=1
     ·subst ar
      have au:fe ((base.take<|k+1).flatMap (sH E)=(base.take k).flatMap (sH E)++[(p,3,0)]):=Hc<|by rw[j.o,P.o,lv fX]
      clear j P;go_wp2
      go_quiet (first|(go_at_call 106;exact Cc<|Wj.o _))
      go_wp2_with(at_builtin;refine yO _ fX (.tmp 131) (.tmp 141) 106 fX w.heap.size 112 aI _ 3 32 underlying106 aJ aK aL aM fX (by decide) _ _ _ fX ((C.o _).alloc _) (ie wr.heap.size 0) 1 1 (pB (p,3,0)) fX fX (ub (wr.drewN _) (p,3,0) _ _<|by simp) (se _) (by unfold maxLen;omega) (by omega) (by simp;omega) ?_);intro cq an W ao _;have aY:ju w an:=Hm ((T.o _).alloc (by simp;omega) _) (by simp;omega) ((C.o _).alloc _) ao;obtain⟨ap,aq,rfl⟩:=pp W;have aZ:fe (an.ownsRow w.heap.size 112 3 (fy ap (a+1) aq) (a+1)<|flat (O++(base.take<|k+1).flatMap (sH E))):=by show World.ownsRow _ _ _ _ _ _ _;rw[au.o,<-sP,ra,tz];exact W
      clear W ao;go_wp2;go_roundw
      case rel=>exact⟨k+1,a+1,ap,aq,by omega,by go_num,rfl,by omega,aY,by show _=_;rw[au.o,<-sP,lI,<-u.o];rfl,aZ.o⟩
      case measure=>simp[intOf];omega
     have au:fe ((base.take<|k+1).flatMap (sH E)=(base.take k).flatMap (sH E)):=Hc<|by rw[j.o,P.o,km ar,lJ]
     have cS:(h==1)=fo:=(by simp[ar]);clear j P ar;go_wp2
     go_quiet (first|(go_at_call 106;exact Cc<|Wj.o _))
     go_wp2;go_roundw
     case rel=>exact⟨k+1,a,o,q,by omega,by go_num,rfl,by omega,T.o _,by show _=_;rw[au.o];exact u.o,by show World.ownsRow _ _ _ _ _ _ _;rw[au.o];exact C.o _⟩
     case measure=>simp[intOf];omega
   have cv:fe (O++(base.take k).flatMap (sH E)=wu E data base N):=Hc<|by rw[cr.o,oM (by have:=I.o.2.1;omega)];rfl
   rw[cv.o]at u K;have bz:fe _:=zy o a q (wu E data base N) wr (iz K.o) (by omega) bX.o;have ct:decide ((k:Int)<(m:Int))=fo:=yv (by omega);rename fq=>cu
   go_wp2_with fail;apply Ps bz.o;rintro _ X ⟨v,rfl,bd,bA⟩;obtain⟨cT,cU,rfl⟩:=pp bd;have av:fe _:=bd;have bB:fe (ju w X):=f.trans<|bA.mono af;have bC:=bB.o.size;obtain⟨G,be⟩:=oX<|gY (wu E data base N);rw[<-be]at av;have bD:fe (lF E data base N=G.map λe=>(e.1,e.2.1)):=Hc<|by unfold lF;rw[be]
   have bf:fe (fv G=a):=Hc<|by have:=av.o.1;rw[ly]at this;omega
   clear be bd bA bz;go_wp2
   go_loopw [9,10] (λcw i wr=>∃(b:Nat) (aw:iD) (co:Nat),b<=a/\i=.int .i64 (b:Int)/\cw=fy aw b co/\ju X wr/\fe (wr.ownsRow X.heap.size 133 2 (fy aw b co) b<|iB ((G.take b).map λe=>(e.1,e.2.1)))) (λ_ i _=>a-(intOf i).toNat)
   case atStart=>exact⟨0,fj,0,Fr _,rfl,rfl,mi _ _,jY _ _ _ _⟩
   case round=>
    obtain⟨b,aw,co,aV,rfl,rfl,hbr,bg⟩:=hrel;have cx:=hbr.size;by_cases cy:b<a
    ·have bE:b<fv G:=by rw[bf.o];exact cy
     have⟨aF,cV,bF⟩:=hh av.o (by omega);have cz:=(lK bF).1;subst cz;have bG:aF<X.heap.size:=gc av.o fX;have⟨aG,aH,_⟩:=lr (off:=0) (ks av.o) bE;rw[iR]at aG aH;obtain⟨y,Q,bH,bh⟩:∃y Q bH,G[b]=(y,Q,bH):=⟨_,_,_,fX⟩;rw[bh]at aG aH;have cA:=(hbr.cell (p:=(ie aF<|b*3)) bG).trans aG;have cC:=(hbr.cell (p:=(ie aF<|b*3+1)) bG).trans aH;have cW:aF<wr.heap.size:=by omega
     have j:fe ((G.take<|b+1).map (λe:fV=>(e.1,e.2.1))=(G.take b).map (λe=>(e.1,e.2.1))++[(y,Q)]):=Hc<|by rw[vv bE,nZ,bh];rfl
     have cX:(b:Int)<(a:Int):=(by omega);simp only at cA cC;clear aG aH bF bh;go_wp2
     go_region_law(refine pw fX (.tmp 151) (.tmp 163) 121 fX X.heap.size 133 bR _ 2 24 underlying121 bS bT bU bV fX (by decide) (fy aw b co) b (iB ((G.take b).map λe:fV=>(e.1,e.2.1))) (by simp[Act.eval]) (show(wr.k #[hZ y,fY Q] 133).drew.ownsRow _ _ _ _ _ _ from rJ bg.o _) (ie wr.heap.size 0) 1 1 [hZ y,fY Q] (by simp[Act.eval]) fX (Mq wr (hZ y) (fY Q) _ _ fX) (Vb (y,Q)) (by unfold maxLen;omega) (by omega) (by simp;omega) ?_;intro cY bI bi bJ _)
     all_goals
      have cD:ju X bI:=Hm (io<|hbr.alloc cx _) (by simp;omega) (show(wr.k #[hZ y,fY Q] 133).drew.ownsRow _ _ _ _ _ _ from rJ bg.o _) bJ;obtain⟨bK,bL,rfl⟩:=pp bi;have cE:fe (bI.ownsRow X.heap.size 133 2 (fy bK (b+1) bL) (b+1)<|iB ((G.take<|b+1).map λe=>(e.1,e.2.1))):=by show World.ownsRow _ _ _ _ _ _ _;rw[j.o,Vc];exact bi
      clear bi bJ;go_wp2;go_roundw
      case rel=>exact⟨b+1,bK,bL,by omega,by go_num,rfl,cD,cE.o⟩
      case measure=>simp[intOf];omega
    have cZ:decide ((b:Int)<(a:Int))=fo:=yv (by omega);have cF:fe ((G.take b).map (λe:fV=>(e.1,e.2.1))=lF E data base N):=Hc<|by rw[bD.o,oM (by rw[bf.o];omega)]
    have cG:fe (fv (lF E data base N)=b):=Hc<|by rw[bD.o,oL,bf.o];omega
    go_wp2;go_ret;refine⟨fy aw b co,fX,?_,bB.o.trans<|hbr.mono bC⟩;rw[cG.o,<-cF.o];exact tR bg.o bC
