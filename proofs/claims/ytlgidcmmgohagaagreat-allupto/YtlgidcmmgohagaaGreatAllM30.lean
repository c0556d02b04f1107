/- A part of the proof. -/
import Derived.Test.YtlgidcmmgohagaaGreatAllM29
import Derived.JoinedCond
set_option linter.all false
namespace Go.Proofs.YtlgidcmmgohagaaGreat
open Go.RowKit Go.Sort Go.Shelf Go.Proofs.Tryz
open Go.Value renaming slice->fy,string->fA,pointer->fB,tuple->fC,agg->fD,bool->fE
open Go.Ending renaming returned->fF
open Option renaming some->fh,none->fj
open Bool renaming true->fm,false->fo
open Go renaming World->fq,Value->fu
open List renaming length->fv,reverse->fx
open Go.RowKit renaming Hid->fe
set_option maxRecDepth 100000
set_option maxHeartbeats 0
def prf(b)(K)(n c)(r:List Step)(L:Bh b K n r):
  ik 8 #[fy K n c,fY 21,fE fm] b (vd (fE fm) b):=by
 have M:fe (Bh b K n r):=L;have aM:=L.many;clear L;go_enter func8,ntmps8;go_wp2_with fail;apply Ps<|zdt b;rintro _ j ⟨d,m,s,rfl,t,ab⟩;have ac:fe (UK b.heap.size j d m s):=t;clear t;go_wp2_with fail;refine Hk (QM ac.o) λad⟨t,ae⟩=>?_;have af:fe (gJ b.heap.size ad d m s 3):=t;have ag:ju b ad:=ab.trans ae;clear t ab ae ac;go_wp2
 go_loopw [8,9] (λau i wr=>∃k:Nat,k<=n/\au=fE fm/\i=.int .i64 (k:Int)/\fe (gJ b.heap.size wr d m s<|3+k)/\ju b wr) (λ_ i _=>n-(intOf i).toNat)
 case atStart=>exact⟨0,Fr _,rfl,rfl,af.o,ag⟩
 case round=>
  obtain⟨k,aN,rfl,rfl,v,hbr⟩:=hrel;clear ag af;have w:=hbr.size;have ah:=(gJ.cells v.o).2.1;by_cases av:k<n
  ·have ai:k<fv r:=by rw[M.o.len];exact av
   have⟨g,off,aw,l,z,A,o,B,C,D,E⟩:=M.o.cells k ai;have q:fe (r[k].Fits b):=M.o.fits _<|kK ai;obtain⟨ax,aj⟩:=oX<|r[k];rw[<-aj]at z A o B C D E q;have⟨kind,N,f,O,P,Q,R,S,T,ay⟩:=ax;simp only at z A o B C D E;have aO:=(hbr.cell (p:=(ie g<|off+k*7)) l).trans z;have aP:=(hbr.cell (p:=(ie g<|off+k*7+1)) l).trans A;have aQ:=(hbr.cell (p:=(ie g<|off+k*7+2)) l).trans o;have aR:=(hbr.cell (p:=(ie g<|off+k*7+3)) l).trans B;have aS:=(hbr.cell (p:=(ie g<|off+k*7+4)) l).trans C;have aT:=(hbr.cell (p:=(ie g<|off+k*7+5)) l).trans D;have aU:=(hbr.cell (p:=(ie g<|off+k*7+6)) l).trans E;have aV:g<wr.heap.size:=by omega
   have aW:(k:Int)<(n:Int):=by omega
   have F:fe (∀a,gJ b.heap.size (wr.alloc a) d m s<|3+k):=λa=>gJ.below v.o<|(mi _ _).alloc (lw _) a;have az:fe (∀a,ik 24 #[fB<|fh (ie d 8)] (wr.alloc a) λe J=>e=fF (fE fm)/\Below (wr.alloc a).heap.size (wr.alloc a) J):=λa=>Hj (by omega)<|F.o a;have aA:fe (∀a,b.heap.size<=(wr.alloc a).heap.size):=λa=>by simp;omega
   subst aw;clear z A o B C D E aj;by_cases aB:1<=kind/\kind<=20
   ·have⟨U,aC⟩:=aB
    have t1:decide (kind<1)=fo:=yv (by omega);have t2:decide (21<kind)=fo:=yv (by omega);have t3:(kind==21)=fo:=by simp;omega
    by_cases ak:kind<=7
    case' pos=>have V:=λa=>zs2 (by omega) (F.o a) ⟨kind,N,f,O,P,Q,R,S,T,ay⟩ (q.o.below<|hbr.alloc w a) ⟨U,ak⟩
    case' neg=>
     have t4:decide (kind<=7)=fo:=yv ak;have t5:7<kind:=by omega
     have V:=λa=>bce (by omega) (F.o a) kind N f O P Q R S T q.o.sS q.o.sT q.o.aaS q.o.aaT ⟨by omega,aC⟩
    all_goals
     change fe _ at V
     go_wp2_with fail;refine Hk (V _) λaD⟨G,al⟩=>?_
     have⟨_,aX,am⟩:=gJ.cells G;have aE:=(hbr.alloc w _).trans al;have aF:fe _:=Hj (by omega) G
     change fe _ at G
     clear al;go_wp2_with(go_at_call 24;refine Hk aF.o λan h=>?_);go_roundw
     case rel=>exact⟨k+1,by omega,rfl,by go_num,gJ.below G h,aE.trans<|h.mono am⟩
     case measure=>simp[intOf];omega
   by_cases ao:kind=21
   ·subst ao
    obtain⟨x,aG⟩:∃x,(f==1)=x:=⟨_,fX⟩;obtain⟨y,aH⟩:∃y,(f==2)=y:=⟨_,fX⟩;have aI:=λ(e:Int)(J:fq)=>mj e J;obtain⟨ap,W⟩:=oX (.cells #[fY 21,fY N,fY f,fY O,hZ P,hZ Q,fy R S T] 57:Obj);obtain⟨j,u⟩:=oX<|wr.alloc ap;have H:ju wr j:=by rw[u];exact(mi _ _).alloc (lw _) ap
    have aJ:wr.heap.size<j.heap.size:=by rw[u];simp
    have o:j.c wr.heap.size 2=fh (fY f):=by rw[u,W];simp
    have c0:=(H.cell (p:=(ie d 0)) ah).trans (gJ.cells v.o).1;have aY:d<j.heap.size:=nz ah H.size;obtain⟨X,Y⟩:=oX<|if(x ||y)=fm then(0:Int)else 2;have aq:fe _:=Y;have aK:fe (∀Z,ik 21 #[ii m,fY f] (j.drewN Z) λe J=>e=fF (fY X)/\J.c wr.heap.size 2=fh (fY f)/\wr.heap.size<J.heap.size/\d<J.heap.size/\∃I,J.c d 7=fh (fE I)/\J.frozen? (ie d 7)=fo/\fe (∀aa,aa=(I ||(x ||y))->gJ b.heap.size (J.setCell (ie d 7)<|fE aa) d m s (3+k)/\Below b.heap.size wr (J.setCell (ie d 7)<|fE aa))):=λZ=>(hwk v.o (jf H Z) (by simpa using aJ) f aG aH).mono λe J⟨aL,ar,rest⟩=>⟨by rw[Y];exact aL,(ar.2 2).trans (by simpa using o),ar.1,rest⟩;go_upto_region 10 with fail;rw[<-W,<-u];clear W u H Y
    go_region_with(go_at_call 21;refine Ps (aK.o _) ?_;rintro _ aD ⟨rfl,aZ,am,bb,I,c7,f7,HG4⟩)
    all_goals
     cases x<;>cases y<;>cases I
    all_goals
     first
      |obtain rfl:X=0:=aq.o
      |obtain rfl:X=2:=aq.o
     go_wp2_with(first
      |(go_at_call 22;apply tB<|aI _ _)
      |(go_at_call 24;refine Hk (Hj (by omega) (HG4.o _ fX).1) λan h=>?_))
     go_roundw
     case rel=>exact⟨k+1,by omega,rfl,by go_num,gJ.mono (gJ.below (HG4.o _ rfl).1 h)<|by omega,(hbr.trans (HG4.o _ rfl).2).trans<|h.mono (ww w (HG4.o _ rfl).2.size)⟩
     case measure=>simp[intOf];omega
   have t3:(kind==21)=fo:=by simpa using ao
   by_cases U:kind<1
   case' neg=>
    have t1:decide (kind<1)=fo:=yv U;have t2:21<kind:=by omega
   all_goals
    go_wp2_with(go_at_call 24;refine Hk (az.o _) λan h=>?_);go_roundw
    case rel=>exact⟨k+1,by omega,rfl,by go_num,gJ.mono (gJ.below (F.o _) h)<|by omega,(hbr.alloc w _).trans<|h.mono (aA.o _)⟩
    case measure=>simp[intOf];omega
  have bc:decide ((k:Int)<(n:Int))=fo:=yv (by omega);go_wp2;go_ret;exact⟨fX,hbr⟩
def hwn(a)(b)(n c)(d:List Step)(e:Bh a b n d):
  ik 7 #[fy b n c] a (vd (fE fm) a):=by
 have f:=prf a b n c d e;clear e;go_enter func7,ntmps7;go_wp2_with fail;refine Hk f λh g=>?_;go_wp2;go_ret;exact⟨fX,g⟩
end Go.Proofs.YtlgidcmmgohagaaGreat
namespace Go.Proofs.YtlgidcmmgohagaaGreat
open Go
def hwp:(Rows.allUptoRow.inPlace==Tryz.pinned.checked.prog.inPlace 7)=true:=by kernel_rfl
def pri:(Rows.allUptoRow.unfollowed==Tryz.pinned.checked.prog.unfollowed 7)=true:=by kernel_rfl
def hw1:(Rows.allUptoRow.recurses==Tryz.pinned.checked.prog.recurses 7)=true:=by kernel_rfl
def hxl:(Rows.allUptoRow.named==Tryz.pinned.checked.prog.varsNamed 7)=true:=by kernel_rfl
def hxs:joinedFacts Tryz.pinned.checked.prog 7 Tryz.f7 (Rows.OpenSpec.upto Rows.allSpec).bare Rows.allUptoRow=true:=by
 unfold joinedFacts;rw[hwp,pri,hw1,hxl]
 kernel_rfl
