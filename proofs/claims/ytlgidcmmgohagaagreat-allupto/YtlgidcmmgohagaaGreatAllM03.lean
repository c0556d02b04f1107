/- A part of the proof. -/
import Derived.Test.YtlgidcmmgohagaaGreatAllM02
import Derived.Maps.RangeWalk
set_option linter.all false
namespace Go.Proofs.YtlgidcmmgohagaaGreat
open Go.RowKit Go.Sort Go.Shelf Go.Proofs.Tryz
open Go.Value renaming slice->fy,string->fA,pointer->fB,tuple->fC,agg->fD,bool->fE
open Go.Ending renaming returned->fF
open Option renaming some->fh,none->fj
open Bool renaming true->fm,false->fo
open Go renaming World->fq,Value->fu
open List renaming length->fv,reverse->fx
open Go.RowKit renaming Hid->fe
set_option maxRecDepth 100000
set_option maxHeartbeats 0
variable {w J w0 w1 w2 E:fq}{ids ps:List Int}{xs:gX}{W b c cap' g i n r s size z:Nat}{R c11 c5 c6 c7 c8 c9 key v:fu}{T e k t:ni}{M:Lit->Option fu}{own:Option Nat}{I:List Bool}{cs:Array fu}{D:DataW fu}{F F' G:Nat->Prop}{O:List Ob}{x:Int}{a:iD}{kl:Lit}
variable {F G:Nat->Prop}{w:fq}{W s r ic kc pc:Nat}{ia ka pa:iD}{ids paths:List Int}{I:List Bool}{c5 c6 c7 c8 c9 R c11:fu}{O:List Ob}
theorem Nx(a:iD)(c0)(w:fq):ik 107 #[fy a 0 c0] w (UV (fy fj 0 0) w):=by
 go_enter func107,ntmps107;go_wp2
 go_loopw [3,4] (λv i E=>v=fy fj 0 0/\i=.int .i64 0/\E=w) (λ_ _ _=>0)
 case atStart=>exact⟨rfl,rfl,rfl⟩
 case round=>
  obtain⟨rfl,rfl,rfl⟩:=hrel;go_wp2;go_ret;exact⟨fX,fX⟩
def jw (w:fq)(a:iD)(m:Nat)(Y:List fV):Prop:=fv Y=m/\(0<m->∃b off,a=fh ⟨b,off,fj⟩/\b<w.heap.size/\∀c d,(flat Y)[c]?=fh d->w.cell? ⟨b,off+c,fj⟩=fh d)
theorem zy(a)(m c0)(Y)(w)(c:jw w a m Y)(f:m<=1000000000)(g:∀e∈Y,e.1.size<=maxLen):
  ik 107 #[fy a m c0] w λe J=>∃v,e=fF v/\J.ownsRow w.heap.size 112 3 v m (flat<|gY Y)/\ju w J:=by
 rcases swo m with rfl|h
 have:Y=[]:=KQ c.1
 subst this;exact(Nx a c0 w).mono λe J⟨i,d⟩=>⟨_,i,by subst d;exact jY _ _ _ _,by subst d;exact mi _ _⟩
 obtain⟨b,off,rfl,j,k⟩:=c.2 h;exact RN b off m c0 Y w c.1 f j k g
def ov (O:List Ob)(e:fV):Bool:=decide (0<=e.2.2)&&decide (((O[e.2.2.toNat]?).map (·.kind)).getD 0=e.2.1)
def Ll (v:iD×Nat)(m:Nat)(a:List fV):Ob:={ kind:=2,data:=ByteArray.empty,ea:=v.1,el:=m,ec:=v.2,gh:=a,high:=0 }
def AG (O Z:List Ob)(Y:List fV)(x y:Int):Prop:=
 ((∃e∈Y,fN e.1=fo)/\Z=O/\x=-1/\y=1)\/
 ((∀e∈Y,fN e.1=fm)/\
  ((¬(Y.map (·.1)).Nodup/\Z=O/\x=-1/\y=6)\/
   ((Y.map (·.1)).Nodup/\16<fv Y/\Z=O/\x=-1/\y=11)\/
   ((Y.map (·.1)).Nodup/\fv Y<=16/\(∃e∈Y,ov O e=fo)/\Z=O/\x=-1/\y=13)\/
   ((Y.map (·.1)).Nodup/\fv Y<=16/\(∀e∈Y,ov O e=fm)/\5<xr O Y/\Z=O/\x=-1/\y=11)\/
   ((Y.map (·.1)).Nodup/\fv Y<=16/\(∀e∈Y,ov O e=fm)/\xr O Y<=5/\∃v z,AD O Z (Ll v (fv Y)<|gY Y) z/\((z<0/\x=-1/\y=11)\/(0<=z/\x=z/\y=0)))))
theorem pp{b}(d:w.ownsRow b e size v n xs):∃a c,v=fy a n c:=by
 rcases d.2 with⟨rfl,rfl⟩|⟨g,h,_,f,_⟩
 all_goals grind
theorem fH.after(b:fH F w1 w2)(a:ju w w1):fH F w w2:=
 ⟨b.os.trans a.os,b.tape.trans a.tape,b.output.trans a.output,ww a.size b.size,λk c d=>(b.block k (nz c a.size) d).trans<|a.block k c⟩
theorem wS(O){a fs:List fV}(b:a.Perm fs):xr O a=xr O fs:=by
 all_goals grind [xr,List.Perm.foldl_eq']
theorem Ny(l:gi F w r O)(a)(m c0)(Y)(ae:jw w a m Y)(bo:m*32<=140737488355328)(av:∀e∈Y,e.1.size<=maxLen)
  (aw:∀e∈Y,-1<=e.2.2/\e.2.2<(fv O:Int)):
  ik 82 #[ii r,fy a m c0] w λe J=>∃x y Z,e=qr #[fY x,fY y]/\AG O Z Y x y/\gi (kB F w J) J r Z/\fH F w J:=by
 have af:fe (gi F w r O):=l;have ax:fe (∀e∈Y,e.1.size<=maxLen):=av;have ay:fe (∀e∈Y,-1<=e.2.2/\e.2.2<(fv O:Int)):=aw;have p:fe (fv Y=m):=ae.1;have S:fe (jw w a m Y):=ae;have A:∀f,fe (gi (kB F w<|w.drewN f) (w.drewN f) r O/\fH F w (w.drewN f)):=λf=>⟨af.o.below (jf (mi _ _) f) λk T=>.inl T,fH.fK<|jf (mi _ _) f⟩;clear l av aw ae;go_enter func82,ntmps82;go_wp2
 go_loopw [6] (λi wr=>∃k:Nat,k<=m/\i=.int .i64 k/\(∃f,wr=w.drewN f)/\fe (∀c(j:c<fv Y),c<k->fN Y[c].1=fm)) (λi _=>m-(intOf i).toNat)
 case atStart=>exact⟨0,Fr _,rfl,⟨0,rfl⟩,λc j l=>by omega⟩
 case round=>
  obtain⟨k,T,rfl,⟨f,rfl⟩,ag⟩:=hrel;by_cases aZ:k<m
  ·have ah:k<fv Y:=by rw[p.o];exact aZ
   obtain⟨b,off,rfl,az,q⟩:=S.o.2 (by omega);obtain⟨d0,_,_⟩:=lr q ah;have aA:fe (∀c H,(flat Y)[c]?=fh H->w.c b (off+c)=fh H):=q;clear q;have bb:(w.drewN f).c b (off+k*3)=fh (fA Y[k].1):=d0;have B:=λW=>Jb Y[k].1 W<|ax.o Y[k] (kK ah);cases C:fN Y[k].1 with
   |false=>
    have ai:fe (fN Y[k].1=fo):=C;rw[C]at B;clear C;go_wp2_with(go_at_call 150;refine(B _).mono ?_;rintro e J ⟨rfl,aj,rfl⟩);go_ret2;exact⟨_,_,O,fX,.inl ⟨⟨Y[k],kK ah,ai.o⟩,fX,fX,fX⟩,(A<|f+aj).out⟩
   |true=>
    have ai:fe (fN Y[k].1=fm):=C;rw[C]at B;clear C;go_wp2_with(go_at_call 150;refine(B _).mono ?_;rintro e J ⟨rfl,aj,rfl⟩);go_roundw
    case rel=>
     refine⟨k+1,by omega,by go_num,⟨f+aj,fX⟩,?_⟩;intro c j bc;by_cases e:c=k;subst e;exact ai.o;exact ag.o c j<|by omega
    case measure=>simp[intOf];omega
  have s:fe (∀x∈Y,fN x.1=fm):=by
   intro x ak;obtain⟨c,j,rfl⟩:=rI ak;exact ag.o c j (by rw[p.o]at j;omega)
  clear ag;go_wp2
  go_loopw [8] (λi wr=>∃k:Nat,k<=m/\i=.int .i64 k/\(∃f,wr=w.drewN f)/\fe (∀i c(U:i<fv Y)(j:c<fv Y),i<k->c<i->Y[i].1≠Y[c].1)) (λi _=>m-(intOf i).toNat)
  case atStart=>exact⟨0,Fr _,rfl,⟨f,rfl⟩,λi c U j I V=>by omega⟩
  case round=>
   obtain⟨n,X,rfl,⟨al,rfl⟩,am⟩:=hrel;by_cases bd:n<m
   ·have aB:n<fv Y:=by rw[p.o];exact bd
    obtain⟨b,off,rfl,az,q⟩:=S.o.2 (by omega);obtain⟨d0,_,_⟩:=lr q aB;have aA:fe (∀c H,(flat Y)[c]?=fh H->w.c b (off+c)=fh H):=q;clear q;have bp:(n:Int)<(m:Int):=by omega
    go_wp2
    go_loopw [9] (λi wr=>∃o:Nat,o<=n/\i=.int .i64 o/\(∃f,wr=w.drewN f)/\fe (∀c(j:c<fv Y),c<o->Y[n].1≠Y[c].1)) (λi _=>n-(intOf i).toNat)
    case atStart=>exact⟨0,Fr _,rfl,⟨al,rfl⟩,λc j l=>by omega⟩
    case round=>
     obtain⟨o,bq,rfl,⟨aa,rfl⟩,aC⟩:=hrel;by_cases be:o<n
     ·have aD:o<fv Y:=by omega
      obtain⟨bf,_,_⟩:=lr aA.o aD;have bb:(w.drewN aa).c b (off+n*3)=fh (fA Y[n].1):=d0;have br:(w.drewN aa).c b (off+o*3)=fh (fA Y[o].1):=bf;have bs:(o:Int)<(m:Int):=by omega
      cases aE:Y[n].1.toList==Y[o].1.toList with
      |true=>
       have an:fe ((Y[n].1.toList==Y[o].1.toList)=fm):=aE;go_wp2
       go_quiet (fail)
       go_wp2;go_ret2;refine⟨_,_,O,fX,.inr ⟨s.o,.inl ⟨?_,fX,fX,fX⟩⟩,by rw[DZ];exact(A _).out⟩;intro oh;have aF:=Rh.1 oh o n (by simpa using aD) (by simpa using aB) be;simp only[yP]at aF;exact aF (wM (by simpa using an.o)).symm
      |false=>
       have an:fe ((Y[n].1.toList==Y[o].1.toList)=fo):=aE;go_wp2
       go_quiet (fail)
       go_wp2;go_roundw
       case rel=>
        refine⟨o+1,by omega,by go_num,⟨aa+nq,fX⟩,?_⟩;intro c j bc;by_cases e:c=o;subst e;intro l;have:=an.o;rw[l]at this;simp at this;exact aC.o c j<|by omega
       case measure=>simp[intOf];omega
     go_wp2;go_roundw
     case rel=>
      refine⟨n+1,by omega,by go_num,⟨aa,fX⟩,?_⟩;intro i c U j I V;by_cases e:i=n;subst e;exact aC.o c j (by omega);exact am.o i c U j (by omega) V
     case measure=>simp[intOf];omega
   have D:fe ((Y.map (·.1)).Nodup):=by
    refine Rh.2 λi c U j bg=>?_;simp only[yP];simp only[oL]at U j;exact(am.o c i j U (by rw[p.o]at j;omega) bg).symm
   clear am;by_cases bh:16<m
   ·go_wp2
    go_ret2;exact⟨_,_,O,fX,.inr ⟨s.o,.inr (.inl ⟨D.o,by rw[p.o];exact bh,fX,fX,fX⟩)⟩,(A al).out⟩
   have ab:m<=16:=by omega
   go_wp2
   go_loopw [10,11] (λt i wr=>∃k:Nat,∃K:Bool,k<=m/\i=.int .i64 k/\t=fE K/\(∃f,wr=w.drewN f)/\fe (K=decide (5<xr O (Y.take k)))/\fe (∀c(j:c<fv Y),c<k->ov O Y[c]=fm)) (λ_ i _=>m-(intOf i).toNat)
   case atStart=>exact⟨0,fo,Fr _,rfl,rfl,⟨al,rfl⟩,rfl,λc j l=>by omega⟩
   case round=>
    obtain⟨d,K,bt,rfl,rfl,⟨E,rfl⟩,L,M⟩:=hrel;by_cases bi:d<m
    ·have N:d<fv Y:=by rw[p.o];exact bi
     obtain⟨b,off,rfl,az,q⟩:=S.o.2 (by omega);obtain⟨_,d1,d2⟩:=lr q N;have bj:(w.drewN E).c b (off+d*3+1)=fh (.int .i64 Y[d].2.1):=d1;have bu:(d:Int)<(m:Int):=by omega
     clear q;obtain⟨aG,aH⟩:=ay.o _<|kK N;by_cases aI:Y[d].2.2<0
     ·have aJ:Y[d].2.2=-1:=by omega
      rw[aJ]at d2;have aK:(w.drewN E).c b (off+d*3+2)=fh (fY<|-1):=d2;have u:fe (ov O Y[d]=fo):=by
       show ov O Y[d]=fo;unfold ov;rw[yv<|by omega];rfl
      clear aJ aI aG aH;go_wp2
      go_quiet (fail)
      go_wp2;go_ret2;exact⟨_,_,O,fX,.inr ⟨s.o,.inr<|.inr (.inl ⟨D.o,by rw[p.o];exact ab,⟨Y[d],kK N,u.o⟩,fX,fX,fX⟩)⟩,by rw[DZ];exact(A _).out⟩
     obtain⟨c,j⟩:∃c:Nat,Y[d].2.2=(c:Int):=⟨Y[d].2.2.toNat,by omega⟩;have G:c<fv O:=by omega
     have bv:(c:Int)<(fv O:Int):=(by omega);rw[j]at d2;have aK:(w.drewN E).c b (off+d*3+2)=fh (fY (c:Int)):=d2;have bw:decide ((c:Int)<0)=fo:=by simp
     obtain⟨bx,h,P⟩:=af.o;obtain⟨g,rfl,bz,c0,_,_,c3⟩:=mW P.row fX G;have bA:=λf=>(show(w.drewN f).c g (c*4)=fh (.int .i64 O[c].kind)from c0);have bB:=λf=>(show(w.drewN f).c g (c*4+3)=fh (.int .i64 O[c].high)from c3);have bC:=λf=>(show(w.drewN f).c r 0=fh (my g 0 (fv O) h)from P.c0);have bD:=λf=>(show(w.drewN f).c b (off+d*3+2)=fh (fY (c:Int))from d2);obtain⟨bE,bF⟩:0<=O[c].high/\O[c].high<=5:=⟨(P.zx _<|kK G).Je,(P.zx _<|kK G).Jf⟩;have bG:=λf=>(show(w.drewN f).c b (off+d*3+1)=fh (.int .i64 Y[d].2.1)from d1);have ao:fe (Y[d].2.2=(c:Int)):=j;clear j aI aG aH P bj aK;cases aL:(O[c].kind != Y[d].2.1) with
     |true=>
      have u:fe (ov O Y[d]=fo):=by
       show ov O Y[d]=fo;unfold ov;rw[ao.o,qI,jG G]
       have:¬O[c].kind=Y[d].2.1:=by simpa using aL
       simp[this]
      go_wp2
      go_quiet (fail)
      go_wp2;go_ret2;exact⟨_,_,O,fX,.inr ⟨s.o,.inr<|.inr (.inl ⟨D.o,by rw[p.o];exact ab,⟨Y[d],kK N,u.o⟩,fX,fX,fX⟩)⟩,by rw[DZ];exact(A _).out⟩
     |false=>
      have u:fe (ov O Y[d]=fm):=by
       show ov O Y[d]=fm;unfold ov;rw[ao.o,qI,jG G]
       have:O[c].kind=Y[d].2.1:=by simpa using aL
       simp[this]
      have ap:fe (xr O (Y.take<|d+1)=max (xr O<|Y.take d) (1+O[c].high)):=by
       show _=_;rw[vv N,Dc];unfold Db;rw[ao.o,qI,jG G];rfl
      cases K with
      |true=>
       go_wp2
       go_quiet (fail)
       go_wp2
       go_quiet (fail)
       go_wp2;go_roundw
       case rel=>
        refine⟨d+1,fm,by omega,by go_num,fX,⟨_,fX⟩,?_,?_⟩
        have:=Cb L.o.symm
        show fm=_;rw[ap.o,iE<|by omega];intro i U aM;by_cases e:i=d;subst e;exact u.o;exact M.o i U<|by omega
       case measure=>simp[intOf];omega
      |false=>
       by_cases aN:5<1+O[c].high
       ·go_wp2
        go_quiet (fail)
        go_wp2
        go_quiet (fail)
        go_wp2;go_roundw
        case rel=>
         refine⟨d+1,fm,by omega,by go_num,by first|rfl|simp[aN],⟨_,fX⟩,?_,?_⟩;show fm=_;rw[ap.o,iE<|by omega];intro i U aM;by_cases e:i=d;subst e;exact u.o;exact M.o i U<|by omega
        case measure=>simp[intOf];omega
       go_wp2
       go_quiet (fail)
       go_wp2
       go_quiet (fail)
       go_wp2;go_roundw
       case rel=>
        refine⟨d+1,fo,by omega,by go_num,by first|rfl|simp[aN],⟨_,fX⟩,?_,?_⟩
        have:=Rk L.o.symm
        show fo=_;rw[ap.o,yv<|by omega];intro i U aM;by_cases e:i=d;subst e;exact u.o;exact M.o i U<|by omega
       case measure=>simp[intOf];omega
    have ac:fe (∀x∈Y,ov O x=fm):=by
     intro x ak;obtain⟨c,j,rfl⟩:=rI ak;exact M.o c j (by rw[p.o]at j;omega)
    have bk:fe (Y.take d=Y):=oM (by rw[p.o];omega);rw[bk.o]at L;have aq:fe (fv Y<=16):=by rw[p.o];exact ab
    clear M;cases K with
    |true=>
     go_wp2;go_ret2;exact⟨_,_,O,fX,.inr ⟨s.o,.inr<|.inr (.inr<|.inl ⟨D.o,aq.o,ac.o,Cb L.o.symm,fX,fX,fX⟩)⟩,(A E).out⟩
    |false=>
     have ar:fe (xr O Y<=5):=by have:=Rk L.o.symm;exact Int.not_lt.1 this
     have aO:=zy a m c0 Y (w.drewN E) S.o (by omega) ax.o;go_wp2_with fail;refine aO.mono ?_;rintro e w1 ⟨v,rfl,ad,aP⟩;have au:ju w w1:=(jf (mi _ _) E).trans aP;obtain⟨Q,R,B⟩:=pp ad;subst B;have aQ:qh (λk=>w.heap.size<=k/\k<w1.heap.size) w1 (Ll (Q,R) m<|gY Y):=
      ⟨.inr fX,by show 0<=256;omega,by show(gY Y).length=m;rw[(kG Y).length_eq,p.o],ab,wE _,by show(0:Int)<=5;omega,tR ad<|Fr _,λg bl=>ad.lt g bl⟩
     have aR:gi F w1 r O:=af.o.below au λ_ l=>l;have aS:=AE aR (Ll (Q,R) m<|gY Y) aQ fX (by show xr O (gY Y)<=5;rw[wS O<|kG Y];exact ar.o) (λe bm=>by
      have aT:e∈Y:=rS bm;have I:=ac.o e aT;have V:=ay.o e aT;unfold ov at I;simp only[EI,Hz]at I;exact⟨I.1,V.2⟩)
     have aU:ik 78 #[ii r,fD #[fY 2,hZ ByteArray.empty,fy Q m R,fY 0]] w1 λe J=>∃x Z,e=fF (fY x)/\AD O Z (Ll (Q,R) m<|gY Y) x/\gi (Grow F (λk=>w.heap.size<=k/\k<w1.heap.size) w1 J) J r Z/\fH F w1 J:=aS;clear aO aS ad aQ aR;go_wp2_with fail;refine aU.mono ?_;rintro e w2 ⟨z,Z,rfl,aV,aW,X⟩;have aX:fe (gi (kB F w w2) w2 r Z/\fH F w w2):=⟨aW.keep (λk T=>by
      rcases T with l|l|l
      exact .inl l;exact .inr ⟨l.1,nz l.2 X.size⟩;exact .inr ⟨ww au.size l.1,l.2⟩) λ_ _=>rfl,X.after au⟩
     have aY:fe (AD O Z (Ll (Q,R) (fv Y)<|gY Y) z):=by rw[p.o];exact aV
     clear aU aW X aV aP;by_cases bn:z<0
     ·go_wp2
      go_ret2;exact⟨_,_,Z,fX,.inr ⟨s.o,.inr<|.inr (.inr<|.inr ⟨D.o,aq.o,ac.o,ar.o,_,z,aY.o,.inl ⟨bn,fX,fX⟩⟩)⟩,aX.o⟩
     go_wp2;go_ret2;exact⟨_,_,Z,fX,.inr ⟨s.o,.inr<|.inr (.inr (.inr ⟨D.o,aq.o,ac.o,ar.o,_,z,aY.o,.inr ⟨by omega,fX,fX⟩⟩))⟩,aX.o⟩
def encI (xs:List Int):gX:=xs.map<|Value.int .i64
def Xa (xs:List Bool):gX:=xs.map Value.bool
structure gH (F:Nat->Prop)(w:World)(W s r:Nat)(ia ka pa:iD)(ic kc pc:Nat)(ids:List Int)(known:List Bool)(paths:List Int)(c5 c6 c7 c8 c9 c10 c11:Value):Prop where
 fw:F W
 hW:w.heap[W]?=some (.cells #[.pointer (some ⟨s,0,none⟩),.pointer (some ⟨r,0,none⟩),.slice ia ids.length ic,.slice ka known.length kc,.slice pa paths.length pc,c5,c6,c7,c8,c9,c10,c11] 71 (0,0))
 rV:w.ownsRow 0 29 1 (.slice ia ids.length ic) ids.length (encI ids)
 ur:w.ownsRow 0 4 1 (.slice ka known.length kc) known.length (Xa known)
 uu:w.ownsRow 0 3 1 (.slice pa paths.length pc) paths.length (encI paths)
 fi:∀g,(Value.slice ia ids.length ic).ownBlock=some g->F g
 fk:∀g,(Value.slice ka known.length kc).ownBlock=some g->F g
 fp:∀g,(Value.slice pa paths.length pc).ownBlock=some g->F g
theorem gH.keep(a:gH F w W s r ia ka pa ic kc pc ids I paths c5 c6 c7 c8 c9 R c11)(hF:∀k,F k->F' k)(c:∀k,F k->J.heap[k]?=w.heap[k]?):gH F' J W s r ia ka pa ic kc pc ids I paths c5 c6 c7 c8 c9 R c11:=
 ⟨hF _ a.fw,(c W a.fw).trans a.hW,gg a.rV λg b=>c g<|a.fi g b,gg a.ur λg b=>c g<|a.fk g b,gg a.uu λg b=>c g<|a.fp g b,λg b=>hF g<|a.fi g b,λg b=>hF g<|a.fk g b,λg b=>hF g<|a.fp g b⟩
def gH.lt(a:gH F w W s r ia ka pa ic kc pc ids I paths c5 c6 c7 c8 c9 R c11):W<w.heap.size:=(lH.1 a.hW).1
theorem gH.below(a:gH F w W s r ia ka pa ic kc pc ids I paths c5 c6 c7 c8 c9 R c11)(c:ju w J):gH F J W s r ia ka pa ic kc pc ids I paths c5 c6 c7 c8 c9 R c11:=
 ⟨a.fw,(c.block W a.lt).trans a.hW,gg a.rV λg b=>c.block g<|gc a.rV b,gg a.ur λg b=>c.block g<|gc a.ur b,gg a.uu λg b=>c.block g<|gc a.uu b,a.fi,a.fk,a.fp⟩
def gH.c0(a:gH F w W s r ia ka pa ic kc pc ids I paths c5 c6 c7 c8 c9 R c11):w.c W 0=fh (ii s):=by simp[World.cell?,a.hW]
def gH.c1(a:gH F w W s r ia ka pa ic kc pc ids I paths c5 c6 c7 c8 c9 R c11):w.c W 1=fh (ii r):=by simp[World.cell?,a.hW]
def gH.c2(a:gH F w W s r ia ka pa ic kc pc ids I paths c5 c6 c7 c8 c9 R c11):w.cell? (ie W 2)=fh (fy ia (fv ids) ic):=by simp[World.cell?,a.hW]
def gH.c3(a:gH F w W s r ia ka pa ic kc pc ids I paths c5 c6 c7 c8 c9 R c11):w.c W 3=fh (fy ka (fv I) kc):=by simp[World.cell?,a.hW]
def gH.c4(a:gH F w W s r ia ka pa ic kc pc ids I paths c5 c6 c7 c8 c9 R c11):w.c W 4=fh (fy pa (fv paths) pc):=by simp[World.cell?,a.hW]
def gH.fz(a:gH F w W s r ia ka pa ic kc pc ids I paths c5 c6 c7 c8 c9 R c11)(i):w.frozen? (ie W i)=fo:=by simp[World.frozen?,a.hW]
theorem row_one(b:w.ownsRow 0 t 1 (fy a n c) n xs)(U:xs[i]?=fh v):∃g,a=fh (ie g 0)/\g<w.heap.size/\w.c g i=fh v/\i<n:=by
 have d:i<n:=by have:=(wI.1 U).1;have:=b.1;omega
 obtain⟨g,h,e⟩:=hh b (by omega);have f:=(lK e).1;subst f;refine⟨g,fX,gc b fX,?_,d⟩
 have:=b.cells (g:=g) fX i v U
 grind [qg]
def Lm (ids:List Int)(n:Int):Int:=if 1<=n/\n<=fv ids then ids.getD (n-1).toNat 0 else n
theorem thm(b:gH F w W s r ia ka pa ic kc pc ids I paths c5 c6 c7 c8 c9 R c11)(n:Int)(k:fv ids<=400):
  ik 39 #[ii W,fY n] w (UV (fY<|Lm ids n) w):=by
 have l:=b.c2;by_cases f:1<=n
 ·by_cases e:n<=(fv ids:Int)
  case' pos=>
   obtain⟨a,j⟩:∃a:Nat,n=(a:Int)+1:=⟨(n-1).toNat,by omega⟩;subst j;have h:a<fv ids:=by omega
   obtain⟨g,rfl,m,c,_⟩:=row_one b.rV (i:=a) (v:=.int .i64 ids[a]) (by simp[encI,jG h]);have d:fe (Lm ids ((a:Int)+1)=ids[a]):=by
    show _=_;unfold Lm;rw[lv ⟨f,e⟩,show((a:Int)+1-1).toNat=a by omega];simp[h]
   have o:(a:Int)+1-1=a:=by omega
   have p:(a:Int)<fv ids:=by omega
  case' neg=>
   have d:fe (Lm ids n=n):=Hc<|by unfold Lm;rw[km λb=>e b.2]
   have q:decide (n<=(fv ids:Int))=fo:=yv e
  all_goals
   clear b;go_enter func39,ntmps39;go_wp2;go_ret;exact⟨by rw[d.o];rfl,fX⟩
 have d:fe (Lm ids n=n):=Hc<|by unfold Lm;rw[km λb=>f b.1]
 clear b;go_enter func39,ntmps39;go_wp2;go_ret;exact⟨by rw[d.o];rfl,fX⟩
def placeOf (ids:List Int)(id:Int):Option Nat:=if 0<id then ids.findIdx? (λx=>x==id)else fj
theorem Cn(f:gH F w W s r ia ka pa ic kc pc ids I paths c5 c6 c7 c8 c9 R c11)(id:Int)(t:fv ids<=400):
  ik 41 #[ii W,fY id] w (UV (fY<|pF (placeOf ids id)) w):=by
 have u:=f.c2;have y:=f.lt;have o:fe (w.ownsRow 0 29 1 (fy ia (fv ids) ic) (fv ids)<|encI ids):=f.rV;clear f;go_enter func41,ntmps41;go_wp2
 go_loopw [5] (λi wr=>∃k:Nat,k<=fv ids/\i=.int .i64 k/\wr=w/\fe (∀a(b:a<fv ids),a<k->0<id->(ids[a]==id)=fo)) (λi _=>fv ids-(intOf i).toNat)
 case atStart=>exact⟨0,Fr _,rfl,rfl,λa b f=>by omega⟩
 case round=>
  obtain⟨k,z,rfl,rfl,h⟩:=hrel;by_cases m:k<fv ids
  ·obtain⟨g,rfl,A,c,_⟩:=row_one o (i:=k) (v:=.int .i64 ids[k]) (by simp[encI,jG m])
   cases n:(ids[k]==id) with
   |true=>
    have j:fe ((ids[k]==id)=fm):=n;by_cases d:0<id
    ·go_wp2
     go_ret;refine⟨?_,fX⟩;have e:placeOf ids id=fh k:=by
      unfold placeOf;rw[lv d];exact yM.2 ⟨m,j,λa b=>by have:=h a (by omega) b d;simp[this]⟩
     rw[e];rfl
    have B:decide (0<id)=fo:=yv d;go_wp2;go_roundw
    case rel=>exact⟨k+1,by omega,by go_num,by trivial,λa b p l=>absurd l d⟩
    case measure=>simp[intOf];omega
   |false=>
    have j:fe ((ids[k]==id)=fo):=n;go_wp2;go_roundw
    case rel=>
     refine⟨k+1,by omega,by go_num,by trivial,λa b p l=>?_⟩;by_cases e:a=k;subst e;exact j;exact h a b (by omega) l
    case measure=>simp[intOf];omega
  go_wp2;go_ret;refine⟨?_,fX⟩;have e:placeOf ids id=fj:=by
   unfold placeOf;split
   ·next d=>
    refine Wn.2 λx q=>?_;obtain⟨a,b,rfl⟩:=rI q;exact h a b (by omega) d
   rfl
  rw[e];rfl
def Jg(at_:Int)(a:at_<0):ik 42 #[ii W,fY at_] w (UV (fY 0) w):=by
 go_enter func42,ntmps42;go_wp2;go_ret;exact⟨fX,fX⟩
theorem eof(d:gH F w W s r ia ka pa ic kc pc ids I paths c5 c6 c7 c8 c9 R c11)(e:gi G w r O)(b:Nat)(f:b<fv O):
  ik 42 #[ii W,fY (b:Int)] w (UV (.int .i64 O[b].kind) w):=by
 have i:=d.c1;obtain⟨a,h,c⟩:=e;have j:=c.c0;obtain⟨g,rfl,_⟩:=mW c.row fX f;clear d c;go_enter func42,ntmps42;go_wp2;go_ret;exact⟨fX,fX⟩
theorem yi{P:Program}{j:Array Oper}{rest:List Oper}{d:Oper}{a:Act}{k:Exit->Act->fq->Prop}(o:d.guard=fj)(s x:Operand)(t:ni)
  (p:d.op=.call { callee:=.builtin .append,args:=#[s,x],argTypes:=#[t,t] })
  (f)(e:ni)(i:TypeInfo)(z:fu)(size bytes:Nat)(q:P.underlying t=fh (.slice e))(U:P.info? e=fh i)(r:i.zero=fh z)
  (u:i.size=size)(y:i.bytes=bytes)(A:z.cells.size=size)(B:0<size)
  (v:fu)(n)(xs)(C:a.eval s=v)(D:w.ownsRow f e size v n xs)
  (h:Addr)(m c:Nat)(Y:gX)(E:a.eval x=fy (fh h) m c)(F:fv Y=m*size)(G:∀l g,Y[l]?=fh g->w.cell? (h.add l)=fh g)(H:∀g∈Y,g.oneCell'=fm)
  (I:n+m<=maxLen)(K:(n+m)*bytes<=140737488355328)(L:f<=w.heap.size)
  (M:∀b J,J.ownsRow f e size b (n+m) (xs++Y)->w.grownBy J v.ownBlock->(b.ownBlock=v.ownBlock\/b.ownBlock=fh w.heap.size)->wpList P j k rest (a.put d.dst b) J):wpList P j k (d::rest) a w:=by
 obtain⟨b,J,N,O,Q,_,R⟩:=slt (P:=P) w f t d.type e i z size bytes q U r u y A B v n xs D h m c Y F G H I K L;refine cpu o λ_ S=>?_;unfold Oper.wp;simp[execOp,p,resolve,invoke,builtin,C,E,N,Result.andThen];exact S _ _<|M b J O Q R
theorem jh{size n m:Nat}{h g cap':Nat}{xs Y:gX}(f:w.heap[W]?=fh (.cells cs T (0,0)))(row:w.ownsRow 0 t size (fy a n h) n xs)(j:T≠t)
  (l:∀d,d<w.heap.size->w0.heap[d]?=w.heap[d]?)(s:w.heap.size<=w0.heap.size)(e:w0.os=w.os/\w0.tape=w.tape/\w0.output=w.output)(o:w2.ownsRow 0 t size (my g 0 (n+m) cap') (n+m) (xs++Y))
  (c:w0.grownBy w2 (Value.slice a n h).ownBlock)(u:(Value.slice (fh<|ie g 0) (n+m) cap').ownBlock=(Value.slice a n h).ownBlock\/(Value.slice (fh<|ie g 0) (n+m) cap').ownBlock=fh b)(v:w.heap.size<=b):
  (w2.setCell (ie W i)<|my g 0 (n+m) cap').heap[W]?=fh (.cells (cs.setIfInBounds i<|my g 0 (n+m) cap') T (0,0))/\(w2.setCell (ie W i)<|my g 0 (n+m) cap').ownsRow 0 t size (my g 0 (n+m) cap') (n+m) (xs++Y)/\
    ((fh g:Option Nat)=(Value.slice a n h).ownBlock\/w.heap.size<=g)/\fH (λk=>k=W\/fh k=(Value.slice a n h).ownBlock) w (w2.setCell (ie W i)<|my g 0 (n+m) cap'):=by
 have x:=(lH.1 f).1;have y:=il row f j;have z:∀k,k<w.heap.size->fh k≠(Value.slice a n h).ownBlock->w2.heap[k]?=w.heap[k]?:=by
  intro k p q;rw[c.block k (by omega) q,l k p]
 have A:g≠W:=by
  all_goals grind [Value.ownBlock]
 have B:=c.size;refine⟨?_,?_,?_,⟨c.os.trans e.1,c.tape.trans e.2.1,c.output.trans e.2.2,by simp;omega,?_⟩⟩
 grind [World.setCell]
 ·obtain⟨r,C⟩:=o
  refine⟨r,?_⟩
  all_goals grind [sI]
 all_goals grind [Value.ownBlock,sI]
theorem PH{b d}{t a}{z e n f}{v c}{xs h}(i:w.ownsRow b t z v n xs)(j:w.ownsRow d a e c f h)(k:t≠a)(l:v.ownBlock=fh g):fh g≠c.ownBlock:=by
 grind [gZ,il]
theorem nC(a:w.ownsRow b t z v n xs)(c:fH (λk=>k=W\/fh k=own) w J)(e:w.heap[W]?=fh (.cells cs T (0,0)))(f:T≠t)(h:∀g,v.ownBlock=fh g->fh g≠own):J.ownsRow b t z v n xs:=by
 refine gg a λg d=>c.block g (gc a d) ?_
 grind [il]
theorem uv(a:fH (λk=>k=W\/fh k=own) w J)(c:F W)(d:∀g,own=fh g->F g):fH F w J:=
 ⟨a.os,a.tape,a.output,a.size,λk f b=>a.block k f (by rintro(rfl|e);exact b c;exact b<|d k e.symm)⟩
theorem AH(b:J.ownsRow 0 t z (my g 0 n c) n xs)(d:(fh g:Option Nat)=own\/w.heap.size<=g)(f:∀g,own=fh g->F g):∀k,(Value.slice (fh<|ie g 0) n c).ownBlock=fh k->kB F w J k:=by
 intro k a;simp only[Value.ownBlock,pW]at a;subst a;rcases d with e|e
 exact .inl<|f _ e.symm;exact .inr ⟨e,gc b fX⟩
theorem gH.aaL(a:gH F w W s r ia ka pa ic kc pc ids I paths c5 c6 c7 c8 c9 R c11)
  (d:J.heap[W]?=fh (.cells (Array.setIfInBounds #[ii s,ii r,fy ia (fv ids) ic,fy ka (fv I) kc,fy pa (fv paths) pc,c5,c6,c7,c8,c9,R,c11] 2<|my g 0 (fv ids+1) cap') 71 (0,0))/\J.ownsRow 0 29 1 (my g 0 (fv ids+1) cap') (fv ids+1) (encI ids++[fY x])/\
    ((fh g:Option Nat)=(Value.slice ia (fv ids) ic).ownBlock\/w.heap.size<=g)/\fH (λk=>k=W\/fh k=(Value.slice ia (fv ids) ic).ownBlock) w J):
  gH (kB F w J) J W s r (fh<|ie g 0) ka pa cap' kc pc (ids++[x]) I paths c5 c6 c7 c8 c9 R c11/\fH F w J:=by
 obtain⟨i,e,f,c⟩:=d;have h:fv (ids++[x])=fv ids+1:=by simp
 refine⟨⟨.inl a.fw,?_,?_,nC a.ur c a.hW (by decide) λg b=>PH a.ur a.rV (by decide) b,nC a.uu c a.hW (by decide) λg b=>PH a.uu a.rV (by decide) b,?_,λg b=>.inl<|a.fk g b,λg b=>.inl<|a.fp g b⟩,uv c a.fw a.fi⟩
 grind
 grind [encI]
 rw[h];exact AH e f a.fi
theorem gH.aaM(a:gH F w W s r ia ka pa ic kc pc ids I paths c5 c6 c7 c8 c9 R c11){x:Bool}
  (d:J.heap[W]?=fh (.cells (Array.setIfInBounds #[ii s,ii r,fy ia (fv ids) ic,fy ka (fv I) kc,fy pa (fv paths) pc,c5,c6,c7,c8,c9,R,c11] 3<|my g 0 (fv I+1) cap') 71 (0,0))/\J.ownsRow 0 4 1 (my g 0 (fv I+1) cap') (fv I+1) (Xa I++[fE x])/\
    ((fh g:Option Nat)=(Value.slice ka (fv I) kc).ownBlock\/w.heap.size<=g)/\fH (λk=>k=W\/fh k=(Value.slice ka (fv I) kc).ownBlock) w J):
  gH (kB F w J) J W s r ia (fh<|ie g 0) pa ic cap' pc ids (I++[x]) paths c5 c6 c7 c8 c9 R c11/\fH F w J:=by
 obtain⟨i,e,f,c⟩:=d;have h:fv (I++[x])=fv I+1:=by simp
 refine⟨⟨.inl a.fw,?_,nC a.rV c a.hW (by decide) λg b=>PH a.rV a.ur (by decide) b,?_,nC a.uu c a.hW (by decide) λg b=>PH a.uu a.ur (by decide) b,λg b=>.inl<|a.fi g b,?_,λg b=>.inl<|a.fp g b⟩,uv c a.fw a.fk⟩
 grind
 grind [Xa]
 rw[h];exact AH e f a.fk
theorem gH.aaN(a:gH F w W s r ia ka pa ic kc pc ids I paths c5 c6 c7 c8 c9 R c11)
  (d:J.heap[W]?=fh (.cells (Array.setIfInBounds #[ii s,ii r,fy ia (fv ids) ic,fy ka (fv I) kc,fy pa (fv paths) pc,c5,c6,c7,c8,c9,R,c11] 4<|my g 0 (fv paths+1) cap') 71 (0,0))/\J.ownsRow 0 3 1 (my g 0 (fv paths+1) cap') (fv paths+1) (encI paths++[fY x])/\
    ((fh g:Option Nat)=(Value.slice pa (fv paths) pc).ownBlock\/w.heap.size<=g)/\fH (λk=>k=W\/fh k=(Value.slice pa (fv paths) pc).ownBlock) w J):
  gH (kB F w J) J W s r ia ka (fh<|ie g 0) ic kc cap' ids I (paths++[x]) c5 c6 c7 c8 c9 R c11/\fH F w J:=by
 obtain⟨i,e,f,c⟩:=d;have h:fv (paths++[x])=fv paths+1:=by simp
 refine⟨⟨.inl a.fw,?_,nC a.rV c a.hW (by decide) λg b=>PH a.rV a.uu (by decide) b,nC a.ur c a.hW (by decide) λg b=>PH a.ur a.uu (by decide) b,?_,λg b=>.inl<|a.fi g b,λg b=>.inl<|a.fk g b,?_⟩,uv c a.fw a.fp⟩
 grind
 grind [encI]
 rw[h];exact AH e f a.fp
def Vl:(prog.info? 29).map (λi=>(i.zero,i.size,i.bytes))=fh (fh<|fY 0,1,8):=by kernel_rfl
def Ipc:(prog.info? 4).map (λi=>(i.zero,i.size,i.bytes))=fh (fh<|fE fo,1,1):=by kernel_rfl
def Kit:(prog.info? 3).map (λi=>(i.zero,i.size,i.bytes))=fh (fh<|fY 0,1,8):=by kernel_rfl
def Fg (W:Nat)(w:fq):Nat:=match w.cell? ⟨W,2,fj⟩ with|some (fy _ n _)=>n|_=>0
theorem one_cell(w:fq)(v:fu)(t:ni)(n:Nat)(d:n=w.heap.size):∀a c,[v][a]?=fh c->(w.k #[v] t).cell? (((ie n 0):Addr).add a)=fh c:=by
 subst d;intro a c b
 match a,b with
 |0,b=>simpa [Addr.add]using b
 |a+1,b=>simp at b
def bP:Nat->Int
 |0=>0
 |1=>16
 |2=>272
 |_+3=>301
def cP:Nat->Int
 |0=>0
 |1=>1
 |2=>17
 |_+3=>302
def pX (ps:List Int):Prop:=∀i(a:i<fv ps),0<=ps[i]/\ps[i]<=bP i
def ps1(n):0<=bP n/\bP n<=301:=by
 match n with
 |0=>decide
 |1=>decide
 |2=>decide
 |_+3=>exact⟨show(0:Int)<=301 by decide,show(301:Int)<=301 by decide⟩
def Lcm{a n:Nat}(b:a<n):1+bP a<=cP n:=by
 match n,b with
 |1,b=>
  obtain rfl:a=0:=by omega
  decide
 |2,b=>
  have:a=0\/a=1:=by omega
  rcases this with rfl|rfl<;>decide
 |_+3,_=>
  have:=(ps1 a).2
  show 1+bP a<=302;omega
def eoi(n):0<=cP n/\cP n<=302:=by
 match n with
 |0=>decide
 |1=>decide
 |2=>decide
 |_+3=>exact⟨show(0:Int)<=302 by decide,show(302:Int)<=302 by decide⟩
theorem epv(a:x<=cP n*16):(300<x->(301:Int)<=bP n)/\(¬300<x->x<=bP n):=by
 match n,a with
 |0,a=>exact⟨λb=>by simp only[cP]at a;omega,λ_=>by simp only[cP,bP]at a |-;omega⟩
 |1,a=>exact⟨λb=>by simp only[cP]at a;omega,λ_=>by simp only[cP,bP]at a |-;omega⟩
 |2,a=>exact⟨λb=>by simp only[cP]at a;omega,λ_=>by simp only[cP,bP]at a |-;omega⟩
 |_+3,a=>exact⟨λ_=>wE _,λb=>by show x<=301;omega⟩
theorem pX.snoc(a:pX ps)(b:0<=x/\x<=bP (fv ps)):pX (ps++[x]):=by
 intro i U;rw[Ro];split;exact a i (by assumption)
 grind
def lz (F:Nat->Prop)(w E:fq)(W s r:Nat)(ids:List Int)(I:List Bool)(a k:Nat)(c5 c6 c7 c8 c9 R c11:fu):Prop:=
 ∃ia ka pa ic kc pc paths,gH (kB F w E) E W s r ia ka pa ic kc pc (ids++List.replicate k 0) (I++List.replicate k fo) paths c5 c6 c7 c8 c9 R c11/\fv paths=a+k/\pX paths/\fH F w E
theorem lz.drewN{b k}(a:lz F w E W s r ids I b k c5 c6 c7 c8 c9 R c11)(c):lz F w (E.drewN c) W s r ids I b k c5 c6 c7 c8 c9 R c11:=by
 have⟨ia,ka,pa,ic,kc,pc,ps,d,e,f,g⟩:=a;exact⟨ia,ka,pa,ic,kc,pc,ps,d.keep (λ_ a=>a) λ_ _=>rfl,e,f,vG g c⟩
theorem Ln:∀a∈[Value.int .i64 x],a.oneCell'=fm:=by intro a b;simp at b;subst b;rfl
theorem eqc{x:Bool}:∀a∈[Value.bool x],a.oneCell'=fm:=by intro a b;simp at b;subst b;rfl
theorem ox(w:fq)(a)(b):∀k,k<w.heap.size->((w.drewN a).alloc b).heap[k]?=w.heap[k]?:=λk c=>sK _ _ _ c
theorem Sx(w:fq)(a):∀k,k<w.heap.size->(w.alloc a).heap[k]?=w.heap[k]?:=λk b=>sK _ _ _ b
theorem mX(a:w.heap[W]?=fh (.cells cs T (0,0)))(b:∀k,k<w.heap.size->w0.heap[k]?=w.heap[k]?)(f:w.heap.size<=w0.heap.size)(c:w0.grownBy w2 own)(d:fh W≠own):w2.heap[W]?=fh (.cells cs T (0,0)):=by
 have e:W<w.heap.size:=(lH.1 a).1;rw[c.block W (by omega) d,b W e,a]
theorem Lp{a b c d e a5 f g h a9 j k:fu}(l:w.heap[W]?=fh (.cells #[a,b,c,d,e,a5,f,g,h,a9,j,k] T (0,0))):
  w.c W 0=fh a/\w.c W 1=fh b/\w.c W 2=fh c/\w.c W 3=fh d/\w.c W 4=fh e/\∀i,w.frozen? (ie W i)=fo:=by
 grind [World.cell?,World.frozen?]
def gH.mono{ia ka pa}{ic kc pc}{paths}(a:gH F w W s r ia ka pa ic kc pc ids I paths c5 c6 c7 c8 c9 R c11)(hF:∀k,F k->F' k):gH F' w W s r ia ka pa ic kc pc ids I paths c5 c6 c7 c8 c9 R c11:=a.keep hF λ_ _=>rfl
theorem nD(b:w.heap.size<=w1.heap.size)(c:w1.heap.size<=w2.heap.size){k}(a:kB (kB F w w1) w1 w2 k):kB F w w2 k:=by
 rcases a with(a|a)|a
 exact .inl a;exact .inr ⟨a.1,nz a.2 c⟩;exact .inr ⟨ww b a.1,a.2⟩
theorem iW(a:fH F w w1)(b:fH (kB F w w1) w1 w2):fH F w w2:=
 ⟨b.os.trans a.os,b.tape.trans a.tape,b.output.trans a.output,ww a.size b.size,λk c d=>(b.block k (nz c a.size) (by rintro(e|e);exact d e;omega)).trans<|a.block k c d⟩
theorem lz.three{w E w1 w2 b}{l m n o p q c d e}{t u v y z A f g h}{i k:Nat}(B:fH F w E)
  (C:gH (kB (kB F w E) E w1) w1 W s r l m n t u v ((ids++List.replicate k 0)++[0]) (I++List.replicate k fo) ps c5 c6 c7 c8 c9 R c11/\fH (kB F w E) E w1)
  (D:gH (kB (kB (kB F w E) E w1) w1 w2) w2 W s r o p q y z A ((ids++List.replicate k 0)++[0]) ((I++List.replicate k fo)++[fo]) ps c5 c6 c7 c8 c9 R c11/\fH (kB (kB F w E) E w1) w1 w2)
  (j:gH (kB (kB (kB (kB F w E) E w1) w1 w2) w2 b) b W s r c d e f g h ((ids++List.replicate k 0)++[0]) ((I++List.replicate k fo)++[fo]) (ps++[x]) c5 c6 c7 c8 c9 R c11/\fH (kB (kB (kB F w E) E w1) w1 w2) w2 b)
  (G:fv ps=i+k)(J:pX ps)(K:0<=x/\x<=bP (fv ps)):lz F w b W s r ids I i (k+1) c5 c6 c7 c8 c9 R c11:=by
 have M:=C.2.size;have N:=D.2.size;have O:=j.2.size;have H:=B.size;refine⟨c,d,e,f,g,h,ps++[x],?_,by simp[G];omega,?_,?_⟩
 have:=j.1.mono (F':=kB F w b) (λP L=>by
  rcases L with((( a|a)|a)|a)|a
  exact .inl a;exact .inr ⟨a.1,by omega⟩;exact .inr ⟨by omega,by omega⟩;exact .inr ⟨by omega,by omega⟩;exact .inr ⟨by omega,a.2⟩)
 grind [sP,hI0]
 exact J.snoc K
 grind [iW,fH,kB,nD]
theorem lz.Fg{a k}(b:lz F w E W s r ids I a k c5 c6 c7 c8 c9 R c11):YtlgidcmmgohagaaGreat.Fg W E=fv ids+k:=by
 have⟨ia,ka,pa,ic,kc,pc,ps,c,d,e,f⟩:=b;unfold YtlgidcmmgohagaaGreat.Fg;rw[c.c2];simp
theorem xZ(c:gi G w r O)(a:∀k,G k->k<w.heap.size/\¬F k)(d:fH F w E):gi G E r O:=
 c.keep (λ_ e=>e) λk b=>d.block k (a k b).1 (a k b).2
theorem Xb(t:gH F w W s r ia ka pa ic kc pc ids I paths c5 c6 c7 c8 c9 R c11)(A:gi G w r O)(af:∀k,G k->k<w.heap.size/\¬F k)(ag:fv I=fv ids)(ah:fv paths=fv ids)(aM:fv ids<=fv O)
  (ai:∀i(U:i<fv O),∀e∈O[i].gh,0<=e.2.2/\e.2.2<(i:Int))(u:pX paths):
  ik 79 #[ii W] w λe J=>e=qr #[]/\lz F w J W s r ids I (fv ids) (fv O-fv ids) c5 c6 c7 c8 c9 R c11:=by
 have aN:fe (gi G w r O):=A;have aO:fe (∀k,G k->k<w.heap.size/\¬F k):=af;have aP:fe (∀i(U:i<fv O),∀e∈O[i].gh,0<=e.2.2/\e.2.2<(i:Int)):=ai;have aQ:fe (fv I=fv ids):=ag;have aR:fe (lz F w w W s r ids I (fv ids) 0 c5 c6 c7 c8 c9 R c11):=⟨ia,ka,pa,ic,kc,pc,paths,by rw[hMs,hMs,lJ,lJ];exact t.keep (λk B=>Or.inl B) λ_ _=>rfl,by simpa using ah,u,⟨fX,fX,fX,lw _,λ_ _ _=>rfl⟩⟩;have bC:fv O<=400:=by have⟨_,_,t⟩:=A;exact t.many
 clear t A af ai u ag ah;go_enter func79,ntmps79;go_wp2
 go_loopw [] (λwr=>∃k:Nat,fv ids+k<=fv O/\fe (lz F w wr W s r ids I (fv ids) k c5 c6 c7 c8 c9 R c11)) (λwr=>fv O-Fg W wr)
 case atStart=>exact⟨0,aM,aR.o⟩
 case round=>
  have⟨k,B,aj⟩:=hrel;have⟨ia,ka,pa,ic,kc,pc,ps,b,f,ak,al⟩:=aj.o;have y:fv (ids++List.replicate k (0:Int))=fv ids+k:=by simp
  have j:fv (I++List.replicate k fo)=fv ids+k:=by simp[aQ.o]
  have bD:=b.c1;have C:=b.c2;have D:=b.c4;rw[y]at C;rw[f]at D;have⟨bE,bF,H⟩:=xZ aN.o aO.o al;have bG:=H.c0;obtain⟨n,l⟩:=oX<|fv ids+k;rw[<-l]at C D B;have a:fe (n=fv ids+k):=l;have aS:fe (Fg W wr=n):=by unfold Fg;rw[C];rfl
  by_cases K:n<fv O
  ·have bH:(n:Int)<(fv O:Int):=by omega
   obtain⟨g,rfl,bI,_,_,L,_⟩:=mW H.row fX K;have m:=H.zx O[n]<|kK K;have M:=aP.o n K;obtain⟨aT,am⟩:=oX<|O[n];rw[<-am]at m M L;have⟨bJ,od,an,el,ao,h,bK⟩:=aT;have N:wr.ownsRow 0 112 3 (fy an el ao) el (flat h):=m.row;have bL:wr.c g (n*4+2)=fh (fy an el ao):=L;have bM:el<=16:=m.few;have aU:fe (fv h=el):=m.len;have aV:fe (∀e∈h,0<=e.2.2/\e.2.2<(n:Int)):=M;have P:fe (fv ps=n):=by rw[l];exact f
   clear am m M L l;go_wp2
   go_quiet (fail)
   go_wp2
   go_quiet (fail)
   go_wp2;rename fq=>E
   go_loopw [3,4] (λv i aW=>∃c:Nat,∃x:Int,c<=el/\i=.int .i64 c/\v=.int .i64 x/\0<=x/\x<=cP n*c/\(∃o,aW=E.drewN o)) (λ_ i _=>el-(intOf i).toNat)
   case atStart=>exact⟨0,0,Fr _,rfl,rfl,by omega,by omega,⟨_,by rw[DZ]⟩⟩
   case round=>
    obtain⟨c,x,bN,rfl,rfl,bO,ap,⟨o,rfl⟩⟩:=hrel;by_cases aX:c<el
    ·have aq:c<fv h:=by rw[aU.o];exact aX
     have⟨aY,bQ,ar⟩:=hh N (by omega);obtain rfl:=(lK ar).1;have bR:aY<E.heap.size:=gc N fX;have⟨_,_,au⟩:=lr (off:=0) (ks N) aq;rw[iR]at au;have⟨aZ,bb⟩:=aV.o _<|kK aq;obtain⟨d,av⟩:∃d:Nat,h[c].2.2=(d:Int):=⟨h[c].2.2.toNat,by omega⟩;have aw:d<n:=by omega
     have bS:(d:Int)<(n:Int):=(by omega);rw[av]at au;have ax:d<fv ps:=by rw[P.o];exact aw
     have⟨bT,ay,bU,bV,_⟩:=row_one b.uu (i:=d) (v:=.int .i64 ps[d]) (by simp[encI,jG ax]);rw[ay]at D;have⟨bW,bX⟩:=ak d ax;have bY:=Lcm aw;have bZ:=(ps1 d).2;have bc:=eoi n;have bd:(cP n)*((c:Int)+1)=cP n*(c:Int)+cP n:=by rw[Int.mul_add,Int.mul_one]
     have ca:cP n*(c:Int)<=302*16:=Int.mul_le_mul bc.2 (by omega) (by omega) (by omega);clear ar ay av aZ bb;go_wp2
     go_quiet (fail)
     go_wp2;go_roundw
     case rel=>exact⟨c+1,x+1+ps[d],by omega,by go_num,rfl,by omega,by push_cast;rw[bd];omega,⟨_,fX⟩⟩
     case measure=>simp[intOf];omega
    have Q:fe (E.ownsRow 0 29 1 (fy ia n ic) n<|encI (ids++List.replicate k 0)):=by have:=b.rV;rw[y,<-a.o]at this;exact this
    have be:=b.c3;rw[j,<-a.o]at be;have fz:=b.fz;have⟨bf,bg,bh,bi,bj⟩:=kM Vl;have⟨bk,bl,bm,bn,bo⟩:=kM Ipc;have⟨bp,u,bq,br,bs⟩:=kM Kit;have cb:W<E.heap.size:=b.lt;by_cases az:300<x
    case' pos=>have aA:(0:Int)<=(301:Int)/\(301:Int)<=bP (fv ps):=⟨by omega,by rw[P.o];exact(epv<|Int.le_trans ap (Int.mul_le_mul_of_nonneg_left (by omega) (eoi n).1)).1 az⟩
    case' neg=>have aA:(0:Int)<=(x:Int)/\(x:Int)<=bP (fv ps):=⟨by omega,by rw[P.o];exact(epv<|Int.le_trans ap (Int.mul_le_mul_of_nonneg_left (by omega) (eoi n).1)).2 az⟩
    all_goals
     go_wp2_with(at_builtin;refine yi fX (.tmp 60) (.tmp 61) 59 fX 0 29 bf _ 1 8 underlying59 bg bh bi bj fX (by decide) (fy ia n ic) n (encI<|ids++List.replicate k 0) fX (Q.o.alloc _) (ie E.heap.size 0) 1 1 [fY 0] fX fX (one_cell (E.drewN o) _ _ _ fX) Ln (by unfold maxLen;omega) (by omega) (Fr _) ?_);intro cc w1 S T aB;obtain⟨cd,ce,rfl⟩:=hh S (by omega);have aC:=mX b.hW (ox E o _) (by simp) T<|il Q.o b.hW (by decide);have aD:=jh (i:=2) b.hW Q.o (by decide) (ox E o _) (by simp) ⟨fX,fX,fX⟩ S T aB (by omega);have z:=b.aaL (x:=0) (by rw[y,<-a.o];exact aD);have⟨f10,f11,f12,f13,f14,bt⟩:=Lp aC;rw[j,<-a.o]at f13;rw[f,<-a.o]at f14;rw[y,<-a.o]at f12;have V:=z.1.ur;rw[j,<-a.o]at V;have cf:E.heap.size<=w1.heap.size:=by have:=z.2.size;simpa using this
     have p:fe _:=z;have X:fe _:=V;clear S T aB aD z V aC;go_wp2_with(at_builtin;refine yi fX (.tmp 69) (.tmp 70) 60 fX 0 4 bk _ 1 1 underlying60 bl bm bn bo fX (by decide) (fy ka n kc) n (Xa<|I++List.replicate k fo) fX (rJ X.o _) (ie w1.heap.size 0) 1 1 [fE fo] fX fX (one_cell _ _ _ _<|by simp) eqc (by unfold maxLen;omega) (by omega) (Fr _) ?_);intro cg w2 Y Z aE;obtain⟨ch,ci,rfl⟩:=hh Y (by omega);have aF:=mX p.o.1.hW (Sx _ _) (by simp) Z<|il X.o p.o.1.hW (by decide);have aG:=jh (i:=3) p.o.1.hW X.o (by decide) (Sx _ _) (by simp) ⟨fX,fX,fX⟩ Y Z aE (by simp);have aa:=p.o.1.aaM (x:=fo) (by rw[j,<-a.o];exact aG);have⟨f20,f21,f22,f23,f24,bu⟩:=Lp aF;rw[j,<-a.o]at f23;rw[f,<-a.o]at f24;have ab:=aa.1.uu;rw[f,<-a.o]at ab;have q:fe _:=aa;have ac:fe _:=ab;clear Y Z aE aG aa ab aF f10 f11 f12 f13 f14 bt;go_wp2_with(at_builtin;refine yi fX (.tmp 78) (.tmp 80) 61 fX 0 3 bp _ 1 8 underlying61 u bq br bs fX (by decide) (fy pa n pc) n (encI ps) fX (rJ ac.o _) (ie w2.heap.size 0) 1 1 [fY _] fX fX (one_cell _ _ _ _<|by simp) Ln (by unfold maxLen;omega) (by omega) (Fr _) ?_);intro cj bv ad ae aH;obtain⟨bw,bx,rfl⟩:=hh ad (by omega);have aI:=mX q.o.1.hW (Sx _ _) (by simp) ae<|il ac.o q.o.1.hW (by decide);have aJ:=jh (i:=4) q.o.1.hW ac.o (by decide) (Sx _ _) (by simp) ⟨fX,fX,fX⟩ ad ae aH (by simp);have aK:=q.o.1.aaN (x:=_) (by rw[f,<-a.o];exact aJ);have⟨f30,f31,f32,f33,f34,ck⟩:=Lp aI;rw[f,<-a.o]at f34;have bz:fe _:=aK;clear ad ae aH aJ aK aI f20 f21 f22 f23 f24 bu;go_wp2;have aL:lz F w (bv.setCell (ie W 4)<|my bw 0 (n+1) bx) W s r ids I (fv ids) (k+1) c5 c6 c7 c8 c9 R c11:=lz.three al p.o q.o bz.o f ak aA;go_roundw
     case rel=>exact⟨k+1,by have:=a.o;omega,aL⟩
     case measure=>
      have e:=aL.Fg;rw[e,aS.o]
      have:=a.o
      omega
  have bA:fe (k=fv O-fv ids):=by have:=a.o;show _=_;omega
  have bB:¬(n:Int)<(fv O:Int):=by omega
  have oh:decide ((n:Int)<(fv O:Int))=fo:=yv bB;clear l;go_wp2
  go_quiet (fail)
  go_wp2;go_end0;refine⟨fX,?_⟩;rw[<-bA.o];exact lz.drewN aj.o nq
def jZ (v:fu):Option (DataW fu×List MemPlace):=fh (.held v,[])
def kz (w:fq)(k:ni)(b n:Nat)(M:Lit->Option fu):Prop:=
 ∃D:DataW fu,w.ownsMap prog k jZ b n D/\∀kl,WideAt.IsKeyLit kl->∀z,D.atKey kl z=((M kl).map DataW.held).getD z
theorem kz.lt(a:kz w k b n M):b<w.heap.size:=by
 have⟨D,c,_⟩:=a;exact c.lt
theorem kz.keep(a:kz w k b n M)(e:J.heap[b]?=w.heap[b]?):kz J k b n M:=by
 have⟨D,c,d⟩:=a;exact⟨D,pC c e,d⟩
theorem kz.isMap(a:kz w k b n M):∃c d,w.heap[b]?=fh (.map c d):=by
 have⟨D,e,_⟩:=a;exact pu e
theorem AJ(a:w.heap[b]?=fh (.map #[] 0)):kz w k b 0 (λ_=>fj):=
 ⟨.map [],⟨#[],0,a,⟨by simp,cex 0,by simp⟩,lw _,fX⟩,λkl _ z=>rfl⟩
theorem Fh(a:∀z,D.atKey kl z=((M kl).map DataW.held).getD z):Maps.has D kl=(M kl).isSome:=by
 rcases b:M kl with _|v
 rw[b]at a;exact Maps.has_false_of_atKey a;rw[b]at a;exact Maps.has_true_of_atKey a
theorem kz.look_ok(i:kz w k b n M)(c:Maps.Keyed prog k)(j:prog.underlying t=fh (.map k e)){z:fu}(l:(zeroValue e).run prog w=.ok z w)
  (d:keyOf prog k key=fh kl):(Instr.lookup t (.map<|fh b) key fm).run prog w=.ok (fC #[(M kl).getD z,fE (M kl).isSome]) w:=by
 have⟨D,m,f⟩:=i;have g:=c.key d;have⟨v,ps,o,a⟩:=m.look_ok c j l (zd:=.held z) (zp:=[]) fX d;rw[f kl g,]at a;rw[o,Fh<|f kl g];rcases h:M kl with _|p
 rw[h]at a;simp only[jZ,ihi,WA,pW,vw,hYs]at a;rw[a.1];rfl;rw[h]at a;simp only[jZ,qA,jI,pW,vw,hYs]at a;rw[a.1];rfl
theorem kz.look(g:kz w k b n M)(c:Maps.Keyed prog k)(h:prog.underlying t=fh (.map k e)){z:fu}(i:(zeroValue e).run prog w=.ok z w)
  (d:keyOf prog k key=fh kl):(Instr.lookup t (.map<|fh b) key fo).run prog w=.ok ((M kl).getD z) w:=by
 have⟨D,j,l⟩:=g;have⟨v,ps,m,a⟩:=j.lookup c h i (zd:=.held z) (zp:=[]) fX d;rw[l kl<|c.key d]at a;rw[m];rcases f:M kl with _|o
 rw[f]at a;simp only[jZ,ihi,WA,pW,vw,hYs]at a;rw[a.1];rfl;rw[f]at a;simp only[jZ,qA,jI,pW,vw,hYs]at a;rw[a.1];rfl
noncomputable def Fi (M:Lit->Option Value)(kl:Lit)(v:Option Value):Lit->Option Value:=fun x=>by
 classical exact if x=kl then v else M x
theorem nG(M)(kl:Lit)(v:Option fu):Fi M kl v kl=v:=by simp[Fi]
theorem jQ{kl x:Lit}(a:x≠kl)(v:Option fu):Fi M kl v x=M x:=by simp[Fi,a]
theorem eqv(a:Maps.IsMap D)(b:∀kl,WideAt.IsKeyLit kl->∀z,D.atKey kl z=((M kl).map DataW.held).getD z)(c:WideAt.IsKeyLit kl)(v):
  ∀x,WideAt.IsKeyLit x->∀z,(D.put kl<|.held v).atKey x z=((Fi M kl (fh v) x).map DataW.held).getD z:=by
 intro x d z;by_cases e:x=kl
 all_goals grind [cmn,nG,cin,jQ]
theorem Nz(a:∀kl,WideAt.IsKeyLit kl->∀z,D.atKey kl z=((M kl).map DataW.held).getD z)(kl:Lit):
  ∀x,WideAt.IsKeyLit x->∀z,(D.del kl).atKey x z=((Fi M kl fj x).map DataW.held).getD z:=by
 intro x b z;by_cases e:x=kl
 all_goals grind [Maps.atKey_del_same,nG,Maps.atKey_del_other,jQ]
theorem kz.store(h:kz w k b n M)(a:Maps.Keyed prog k)(i:prog.underlying t=fh (.map k e))(j:n<maxLen)
  {key val}(c:keyOf prog k key=fh kl):
  ∃J,(Instr.mapUpdate t (.map<|fh b) key val).run prog w=.ok () J/\kz J k b (n+1) (Fi M kl<|fh val)/\w.grownBy J (fh b)/\J.heap.size=w.heap.size:=by
 have⟨D,f,l⟩:=h;have⟨J,m,o,g⟩:=f.store a i j c (val:=val) (d:=.held val) (ps:=[]) fX;refine⟨J,m,⟨_,o,eqv f.isMap l (a.key c) val⟩,g.grown,?_⟩;obtain⟨p,q,r,s,u,rfl⟩:=g;simp[ChangeMaps.setBlock]
theorem kz.drop(d:kz w k b n M)(f:Maps.Keyed prog k)(g:prog.underlying t=fh (.map k e))
  (h:keyOf prog k key=fh kl)(a:ni):
  ∃J,(Builtin.delete_ #[t,k] a #[.map<|fh b,key]).run prog w=.ok (fC #[]) J/\kz J k b n (Fi M kl fj)/\w.grownBy J (fh b)/\J.heap.size=w.heap.size:=by
 have⟨D,i,j⟩:=d;have⟨J,l,m,c⟩:=i.drop f g h a;refine⟨J,l,⟨_,m,Nz j kl⟩,c.grown,?_⟩;obtain⟨o,p,q,r,s,rfl⟩:=c;simp[ChangeMaps.setBlock]
inductive LT where
 |file (id:Int)
 |held (f:Nat)
 |dir (id:Int)
 |own (es:List (fO×LT))
abbrev Kids:=List<|fO×LT
def LT.kind:LT->Int
 |.file _=>1
 |.held _=>1
 |.dir _=>2
 |.own _=>2
def LT.id:LT->Int
 |.file i=>i
 |.held _=>0
 |.dir i=>i
 |.own _=>0
def lL (x:fO×LT):fV:=(x.1,x.2.kind,x.2.id)
def ltOf (e:fV):LT:=if e.2.1=2 then .dir e.2.2 else .file e.2.2
def wd (e:fV):fO×LT:=(e.1,ltOf e)
def fT (A:List Ob)(id:Int):List fV:=((A[(id-1).toNat]?).map (λa:Ob=>a.gh)).getD []
def bytesOf (A:List Ob)(id:Int):fO:=((A[(id-1).toNat]?).map (λa:Ob=>a.data)).getD ⟨#[]⟩
def kids (A:List Ob):LT->Option Kids
 |.own a=>fh a
 |.dir id=>fh<|(fT A id).map wd
 |_=>fj
def jp (a:Kids)(n:fO):Option LT:=(a.find? λx=>decide (x.1=n)).map (·.2)
def LT.at (A:List Ob):LT->fQ->Option LT
 |t,[]=>fh t
 |t,n::r=>(kids A t).bind λa=>(jp a n).bind λc=>c.at A r
theorem lh(A)(t:LT)(n:fO)(r:fQ):t.at A (n::r)=(kids A t).bind λa=>(jp a n).bind λc=>c.at A r:=by rw[LT.at]
theorem pd(A)(t:LT):t.at A []=fh t:=by rw[LT.at]
theorem lx(A):∀(b a:fQ)(t:LT),t.at A (b++a)=(t.at A b).bind λc=>c.at A a
 |[],a,t=>by rw[HL,pd];rfl
 |n::r,a,t=>by
  rw[Ea,lh,lh]
  rcases kids A t with _|d
  rfl
  simp only[wy]
  cases jp d n with
  |none=>rfl
  |some c=>simp only[wy];exact lx A r a c
def vy (A:List Ob)(f:Kids->Kids):fQ->LT->LT
 |[],t=>.own<|f ((kids A t).getD [])
 |n::r,t=>.own (((kids A t).getD []).map λx=>if x.1=n then(x.1,vy A f r x.2)else x)
theorem Jh(A)(a:Kids->Kids)(t:LT):kids A (vy A a [] t)=fh (a<|(kids A t).getD []):=by rw[vy];rfl
def ri(A)(a:Kids->Kids)(n:fO)(r:fQ)(t:LT):kids A (vy A a (n::r) t)=fh (((kids A t).getD []).map λx=>if x.1=n then(x.1,vy A a r x.2)else x):=by rw[vy];rfl
theorem qj(n:fO)(g:LT->LT)(m):∀a:Kids,jp (a.map λx=>if x.1=n then(x.1,g x.2)else x) m=if m=n then(jp a m).map g else jp a m
 |[]=>by split<;>rfl
 |x::r=>by
  have b:=qj n g m r
  grind [jp,sin,sle]
inductive Nd where
 |dir
 |file (d:fO)
 deriving DecidableEq
abbrev ji:=Nat->fO
def nd (A:List Ob)(a:ji):LT->Nd
 |.file i=>.file (bytesOf A i)
 |.held b=>.file<|a b
 |.dir _=>.dir
 |.own _=>.dir
def xc (A:List Ob)(fc:ji)(t:LT)(a:fQ):Option Nd:=(t.at A a).map<|nd A fc
theorem px(A)(fc)(t):xc A fc t []=fh (nd A fc t):=by unfold xc;rw[pd];rfl
theorem ul(A)(b)(t)(n:fO)(r:fQ):xc A b t (n::r)=(kids A t).bind λa=>(jp a n).bind λc=>xc A b c r:=by
 unfold xc;rw[lh];rcases kids A t with _|a
 rfl;simp only[wy];cases jp a n<;>rfl
theorem Lr(A)(f)(h:Kids->Kids):∀(b:fQ)(t d:LT)(Y:Kids),t.at A b=fh d->kids A d=fh Y->
  (∀n r,xc A f (vy A h b t) (b++n::r)=(jp (h Y) n).bind λc=>xc A f c r)/\
  (∀e,(¬ ∃n r,e=b++n::r)->xc A f (vy A h b t) e=xc A f t e)
 |[],t,d,Y,a,i=>by
  rw[pd]at a
  cases a
  refine⟨λn r=>?_,λe k=>?_⟩
  grind [ul,Jh]
  rcases e with _|⟨n,r⟩
  rw[px,px,vy]
  cases t<;>first|rfl|(simp[kids]at i)
  exact absurd ⟨n,r,fX⟩ k
 |m::b,t,d,Y,a,i=>by
  rw[lh]at a
  cases g:kids A t with
  |none=>rw[g]at a;simp at a
  |some l=>
   rw[g]at a
   simp only[wy]at a
   cases j:jp l m with
   |none=>rw[j]at a;simp at a
   |some c=>
    rw[j]at a
    simp only[wy]at a
    have⟨o,p⟩:=Lr A f h b c d Y a i
    refine⟨λn r=>?_,λe k=>?_⟩
    rw[Ea,ul,ri,g,jI,wy,qj,lv fX,j,qA,wy]
    exact o n r
    rcases e with _|⟨n,r⟩
    rw[px,px,vy]
    cases t<;>first|rfl|(simp[kids]at g)
    rw[ul,ul,ri,g,jI,wy,wy,qj]
    grind
structure b6 where
 got:List Int
 brk:Bool
 kF:Int->Bool
 kD:Int->Bool
def b6.iw (s:b6)(id:Int):b6×Bool:=
 if s.kD id then(s,fm)else if s.brk then({ s with brk:=fo },fo) else({ s with got:=s.got++[id],kD:=λx=>decide (x=id) ||s.kD x },fm)
def b6.gO (s:b6)(id:Int):b6×Bool:=
 if s.kF id then(s,fm)else if s.brk then({ s with brk:=fo },fo) else({ s with got:=s.got++[id],kF:=λx=>decide (x=id) ||s.kF x },fm)
def b6.kn (s:b6)(x:Int):Nat:=(s.kF x).toNat+(s.kD x).toNat
def b6.Next (s a:b6):Prop:=a.brk=s.brk/\(s.brk=fm->a=s)/\(∃l,a.got=s.got++l/\∀x,l.count x+s.kn x=a.kn x)/\(∀x,s.kF x=fm->a.kF x=fm)/\(∀x,s.kD x=fm->a.kD x=fm)
def b6.yR (s a:b6):Prop:=s.brk=fm/\a={ s with brk:=fo }
theorem b6.Next.refl(s:b6):s.Next s:=⟨fX,λ_=>rfl,⟨[],by simp,λx=>by simp⟩,λ_ a=>a,λ_ a=>a⟩
theorem b6.Next.trans{s b c:b6}(d:s.Next b)(k:b.Next c):s.Next c:=by
 obtain⟨e,r,⟨l,f,g⟩,h,i⟩:=d;obtain⟨j,t,⟨m,n,o⟩,p,q⟩:=k;refine⟨j.trans e,λu=>?_,⟨l++m,by rw[n,f,sP],λx=>by rw[List.count_append];have:=g x;have:=o x;omega⟩,λx a=>p x<|h x a,λx a=>q x<|i x a⟩
 all_goals grind
theorem b6.Next.fail{s a b:b6}(c:s.Next a)(k:a.yR b):s.yR b:=by
 obtain⟨e,f⟩:=k;have d:=c.1.symm.trans e;have g:=c.2.1 d;subst g;exact⟨d,f⟩
theorem era{a:Int->Bool}{id:Int}(b:¬a id=fm)(x:Int):[id].count x+(n+(a x).toNat)=n+(decide (x=id) ||a x).toNat:=by
 all_goals grind
theorem b6.zz(s:b6)(id:Int):((s.iw id).2=fm/\s.Next (s.iw id).1/\(s.iw id).1.kD id=fm)\/((s.iw id).2=fo/\s.yR (s.iw id).1):=by
 unfold b6.iw;by_cases a:s.kD id=fm
 ·all_goals grind [b6.Next.refl]
 rw[km a];by_cases b:s.brk=fm;rw[lv b];exact .inr ⟨fX,b,fX⟩;rw[km b];exact .inl ⟨fX,⟨fX,λa=>absurd a b,⟨[id],fX,λx=>era a x⟩,λ_ a=>a,λx c=>by simp[c]⟩,by simp⟩
theorem b6.De(s:b6)(id:Int):((s.gO id).2=fm/\s.Next (s.gO id).1/\(s.gO id).1.kF id=fm)\/((s.gO id).2=fo/\s.yR (s.gO id).1):=by
 unfold b6.gO;by_cases a:s.kF id=fm
 ·all_goals grind [b6.Next.refl]
 rw[km a];by_cases b:s.brk=fm;rw[lv b];exact .inr ⟨fX,b,fX⟩;rw[km b];exact .inl ⟨fX,⟨fX,λa=>absurd a b,⟨[id],fX,λx=>by have:=era a (n:=0) x;unfold b6.kn;simp only;omega⟩,λx c=>by simp[c],λ_ a=>a⟩,by simp⟩
def ut (A:List Ob)(s:b6):LT->b6×Int×Kids
 |.own a=>(s,0,a)
 |.dir id=>if(s.iw id).2 then((s.iw id).1,0,(fT A id).map wd) else((s.iw id).1,14,[])
 |_=>(s,5,[])
def jy (A:List Ob):LT->Int×Kids
 |.own a=>(0,a)
 |.dir id=>(0,(fT A id).map wd)
 |_=>(5,[])
def ky (A:List Ob)(t:LT)(s:b6):fQ->b6×Int×LT
 |[]=>(s,0,t)
 |n::r=>
  let a:=ky A t s r
  if a.2.1≠0 then(a.1,a.2.1,.dir 0) else
  let b:=ut A a.1 a.2.2
  if b.2.1≠0 then(b.1,b.2.1,.dir 0) else
  match jp b.2.2 n with
  |none=>(b.1,4,.dir 0)
  |some c=>(b.1,0,c)
def pm (A:List Ob)(t:LT):fQ->Int×LT
 |[]=>(0,t)
 |n::r=>
  let a:=pm A t r
  if a.1≠0 then(a.1,.dir 0) else
  let b:=jy A a.2
  if b.1≠0 then(b.1,.dir 0) else
  match jp b.2 n with
  |none=>(4,.dir 0)
  |some c=>(0,c)
def pA (A:List Ob)(t:LT)(s:b6)(r:fQ):b6×Int×Kids:=
 let a:=ky A t s r
 if a.2.1≠0 then(a.1,a.2.1,[])else ut A a.1 a.2.2
def jA (A:List Ob)(t:LT)(r:fQ):Int×Kids:=
 let a:=pm A t r
 if a.1≠0 then(a.1,[])else jy A a.2
theorem wT(A)(t):(jy A t).1≠14:=by cases t<;>simp[jy]
theorem wU(A)(s:b6)(t):(s.Next (ut A s t).1/\(ut A s t).2=jy A t)\/(s.yR (ut A s t).1/\(ut A s t).2=(14,[])):=by
 cases t with
 |file i=>exact .inl ⟨b6.Next.refl s,fX⟩
 |held d=>exact .inl ⟨b6.Next.refl s,fX⟩
 |own e=>exact .inl ⟨b6.Next.refl s,fX⟩
 |dir id=>
  have a:ut A s (.dir id)=if(s.iw id).2 then((s.iw id).1,0,(fT A id).map wd) else((s.iw id).1,14,[]):=fX;have b:jy A (.dir id)=(0,(fT A id).map wd):=fX;rw[a,b];rcases s.zz id with⟨c,f,_⟩|⟨c,g⟩
  all_goals grind
theorem wV(A)(t)(s:b6):∀r,(s.Next (ky A t s r).1/\(ky A t s r).2=pm A t r/\(pm A t r).1≠14)\/(s.yR (ky A t s r).1/\(ky A t s r).2=(14,.dir 0))
 |[]=>.inl ⟨b6.Next.refl s,fX,by simp[pm]⟩
 |n::r=>by
  rcases wV A t s r with⟨a,e,l⟩|⟨m,e⟩
  ·have g:(ky A t s r).2.1=(pm A t r).1:=by rw[e]
   have h:(ky A t s r).2.2=(pm A t r).2:=by rw[e]
   unfold ky pm
   by_cases i:(pm A t r).1≠0
   ·all_goals grind
   simp only[g,h,km i]
   rcases wU A (ky A t s r).1 (pm A t r).2 with⟨kn,b⟩|⟨j,b⟩
   have f:(ut A (ky A t s r).1 (pm A t r).2).2.1=(jy A (pm A t r).2).1:=by rw[b]
   have k:(ut A (ky A t s r).1 (pm A t r).2).2.2=(jy A (pm A t r).2).2:=by rw[b]
   rw[f,k]
   by_cases d:(jy A (pm A t r).2).1≠0
   rw[lv d,lv d]
   exact .inl ⟨a.trans kn,fX,(wT A (pm A t r).2)⟩
   rw[km d,km d]
   rcases o:jp (jy A (pm A t r).2).2 n with _|c
   exact .inl ⟨a.trans kn,fX,by simp⟩
   exact .inl ⟨a.trans kn,fX,by simp⟩
   have f:(ut A (ky A t s r).1 (pm A t r).2).2.1=14:=by rw[b]
   rw[f,lv<|by decide]
   exact .inr ⟨a.fail j,fX⟩
  all_goals grind [ky,decide]
theorem NA(A)(t)(s:b6)(r):(s.Next (pA A t s r).1/\(pA A t s r).2=jA A t r/\(jA A t r).1≠14)\/(s.yR (pA A t s r).1/\(pA A t s r).2=(14,[])):=by
 rcases wV A t s r with⟨c,a,h⟩|⟨i,a⟩
 ·have d:(ky A t s r).2.1=(pm A t r).1:=by rw[a]
  have e:(ky A t s r).2.2=(pm A t r).2:=by rw[a]
  unfold pA jA;by_cases f:(pm A t r).1≠0
  ·all_goals grind
  simp only[d,e,km f];rcases wU A (ky A t s r).1 (pm A t r).2 with⟨kn,b⟩|⟨g,b⟩
  exact .inl ⟨c.trans kn,b,wT _ _⟩;exact .inr ⟨c.fail g,b⟩
 all_goals grind [ky,pA,decide]
theorem Fj(A)(t):∀r,((pm A t r).1=0->t.at A (fx r)=fh (pm A t r).2)/\((pm A t r).1≠0->t.at A (fx r)=fj)
 |[]=>⟨λ_=>by rw[List.reverse_nil,pd];rfl,λd=>absurd fX d⟩
 |n::r=>by
  obtain⟨e,f⟩:=Fj A t r
  have g:t.at A (fx (n::r))=(t.at A<|fx r).bind λc=>c.at A [n]:=by rw[kL,lx]
  have h:∀c:LT,c.at A [n]=(kids A c).bind λa=>jp a n:=by
   intro c;rw[lh];rcases kids A c with _|a
   rfl;simp only[wy];cases jp a n with
   |none=>rfl
   |some x=>simp only[wy];rw[pd]
  rw[g];unfold pm;by_cases b:(pm A t r).1≠0;simp only[lv b];rw[f b];exact⟨λd=>absurd d b,λ_=>rfl⟩;simp only[km b];rw[e<|oP.1 b,wy,h];cases k:(pm A t r).2 with
  |file i=>simp[jy,kids]
  |held l=>simp[jy,kids]
  |own a=>
   simp only[jy,kids,wy];cases j:jp a n<;>simp
  |dir id=>
   simp only[jy,kids,wy];cases j:jp ((fT A id).map wd) n<;>simp
