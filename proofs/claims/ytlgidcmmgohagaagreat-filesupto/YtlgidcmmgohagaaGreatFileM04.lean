/- What is proved here: 'grows'. -/
import Derived.Test.YtlgidcmmgohagaaGreatFileM03
import Derived.Test.YtlgidcmmgohagaaGreatFileM02
import Derived.Maps.RangeWalk
namespace Go.Proofs.YtlgidcmmgohagaaGreat
open Go.RowKit Go.Sort Go.Shelf Go.Proofs.Tryz
set_option linter.unusedVariables false
set_option maxRecDepth 100000
set_option maxHeartbeats 16000000
variable {D:DataW Value}{W b k n0 r s:Nat}{c10 c11 c5 c6 c7 c8 c9 key z:Value}{K:eL->List eN}{T e t:gi}{o:Ob}{F:Nat->Prop}{p q qf qt:eL}{a ey:List Ob}{w w1 w2 wo:World}{n nf nt:eD}{M:Lit->Option Value}{known:List Bool}{es:List eN}{ids ps:List Int}{x:Int}{kl:Lit}
theorem Oe:(prog.info? 29).map (fun i=>(i.zero,i.size,i.bytes))=some (some (eJ 0),1,8):=by kernel_rfl
theorem ctz:(prog.info? 4).map (fun i=>(i.zero,i.size,i.bytes))=some (some (.bool false),1,1):=by kernel_rfl
theorem cwd:(prog.info? 3).map (fun i=>(i.zero,i.size,i.bytes))=some (some (eJ 0),1,8):=by kernel_rfl
def yY (W:Nat)(w:World):Nat:=match w.cell? ⟨W,2,none⟩ with|some (.slice _ n _)=>n|_=>0
theorem one_cell(w:World)(v:Value)(t:gi)(n:Nat)(hn:n=w.heap.size):∀j a,[v][j]?=some a->(w.alloc (.cells #[v] t)).cell? (((eI n 0):Addr).add j)=some a:=by
 subst hn;intro j a h
 match j,h with
 |0,h=>simpa [Addr.add]using h
 |j+1,h=>simp at h
section
variable {F G:Nat->Prop}{w:World}{W s r:Nat}{ia ka pa:fD}{ic kc pc:Nat}{ids:List Int}{known:List Bool}{paths:List Int}{c5 c6 c7 c8 c9 c10 c11:Value}{eC:List Ob}
def bP:Nat->Int
 |0=>0
 |1=>16
 |2=>272
 |_+3=>301
def cP:Nat->Int
 |0=>0
 |1=>1
 |2=>17
 |_+3=>302
def pH (ps:List Int):Prop:=∀i (h:i<ps.length),0<=ps[i]/\ps[i]<=bP i
theorem YT(n:Nat):0<=bP n/\bP n<=301:=by
 match n with
 |0=>decide
 |1=>decide
 |2=>decide
 |_+3=>exact⟨show(0:Int)<=301 by decide,show(301:Int)<=301 by decide⟩
theorem dat{j n:Nat}(h:j<n):1+bP j<=cP n:=by
 match n,h with
 |1,h=>
  obtain rfl:j=0:=by omega
  decide
 |2,h=>
  have:j=0\/j=1:=by omega
  rcases this with rfl|rfl<;>decide
 |_+3,_=>
  have:=(YT j).2
  show 1+bP j<=302;omega
theorem TQ(n:Nat):0<=cP n/\cP n<=302:=by
 match n with
 |0=>decide
 |1=>decide
 |2=>decide
 |_+3=>exact⟨show(0:Int)<=302 by decide,show(302:Int)<=302 by decide⟩
theorem TR{n:Nat}(h:x<=cP n*16):(300<x->(301:Int)<=bP n)/\(¬300<x->x<=bP n):=by
 match n,h with
 |0,h=>exact⟨fun h1=>by simp only[cP]at h;omega,fun _=>by simp only[cP,bP]at h ⊢;omega⟩
 |1,h=>exact⟨fun h1=>by simp only[cP]at h;omega,fun _=>by simp only[cP,bP]at h ⊢;omega⟩
 |2,h=>exact⟨fun h1=>by simp only[cP]at h;omega,fun _=>by simp only[cP,bP]at h ⊢;omega⟩
 |_+3,h=>exact⟨fun _=>sH _,fun h1=>by show x<=301;omega⟩
theorem pH.snoc(h:pH ps)(hx:0<=x/\x<=bP ps.length):pH (ps++[x]):=by
 intro i hi;rw[WW];split
 ·exact h i (by assumption)
 ·rename_i hn
  have:i=ps.length:=by simp at hi;omega
  subst this;simpa using hx
def iK (F:Nat->Prop)(w wo:World)(W s r:Nat)(ids:List Int)(known:List Bool)(n0 k:Nat)(c5 c6 c7 c8 c9 c10 c11:Value):Prop:=
 ∃ia ka pa ic kc pc paths,fG (kp F w wo) wo W s r ia ka pa ic kc pc (ids++List.replicate k 0) (known++List.replicate k false) paths c5 c6 c7 c8 c9 c10 c11/\paths.length=n0+k/\pH paths/\eA F w wo
theorem iK.drewN(h:iK F w wo W s r ids known n0 k c5 c6 c7 c8 c9 c10 c11)(q:Nat):iK F w (wo.drewN q) W s r ids known n0 k c5 c6 c7 c8 c9 c10 c11:=by
 obtain⟨ia,ka,pa,ic,kc,pc,ps,hl,a,b,c⟩:=h;exact⟨ia,ka,pa,ic,kc,pc,ps,hl.keep (fun _ h=>h) (fun _ _=>rfl),a,b,ry c q⟩
theorem Ac:∀a∈[Value.int .i64 x],a.oneCell'=true:=by intro a hu;simp at hu;subst hu;rfl
theorem Ia{x:Bool}:∀a∈[Value.bool x],a.oneCell'=true:=by intro a hu;simp at hu;subst hu;rfl
theorem lJ(w:World)(q:Nat)(o:Obj):∀k,k<w.heap.size->((w.drewN q).alloc o).heap[k]?=w.heap[k]?:=fun k hk=>mA _ _ _ hk
theorem jz(w:World)(o:Obj):∀k,k<w.heap.size->(w.alloc o).heap[k]?=w.heap[k]?:=fun k hk=>mA _ _ _ hk
theorem sq{w a w2:World}{cs:Array Value}{own:Option Nat}(hW:w.heap[W]?=some (.cells cs T (0,0)))(kb:∀k,k<w.heap.size->a.heap[k]?=w.heap[k]?)(hs:w.heap.size<=a.heap.size)(hg:a.grownBy w2 own)(hne:some W≠own):w2.heap[W]?=some (.cells cs T (0,0)):=by
 have hl:W<w.heap.size:=(nX.1 hW).1;rw[hg.block W (by omega) hne,kb W hl,hW]
theorem uj{a a1 a2 a3 b c d e f g j k:Value}(h:w.heap[W]?=some (.cells #[a,a1,a2,a3,b,c,d,e,f,g,j,k] T (0,0))):
  w.cell? (eI W 0)=some a/\w.cell? (eI W 1)=some a1/\w.cell? (eI W 2)=some a2/\w.cell? (eI W 3)=some a3/\w.cell? (eI W 4)=some b/\∀i,w.frozen? (eI W i)=false:=by
 refine⟨?_,?_,?_,?_,?_,fun i=>?_⟩<;>simp[World.cell?,World.frozen?,h]
theorem fG.mono{F F':Nat->Prop}{ia ka pa:fD}{ic kc pc:Nat}{paths:List Int}(h:fG F w W s r ia ka pa ic kc pc ids known paths c5 c6 c7 c8 c9 c10 c11)(hF:∀k,F k->F' k):fG F' w W s r ia ka pa ic kc pc ids known paths c5 c6 c7 c8 c9 c10 c11:=h.keep hF (fun _ _=>rfl)
theorem kQ(h1:w.heap.size<=w1.heap.size)(h2:w1.heap.size<=w2.heap.size)(h:kp (kp F w w1) w1 w2 k):kp F w w2 k:=by
 rcases h with(h|h)|h
 ·exact .inl h
 ·exact .inr ⟨h.1,lO h.2 h2⟩
 ·exact .inr ⟨wl h1 h.1,h.2⟩
theorem xt(h1:eA F w w1)(h2:eA (kp F w w1) w1 w2):eA F w w2:=
 ⟨h2.os.trans h1.os,h2.tape.trans h1.tape,h2.output.trans h1.output,wl h1.size h2.size,fun k hk hn=>(h2.block k (lO hk h1.size) (by rintro(h|h);exact hn h;omega)).trans (h1.block k hk hn)⟩
theorem iK.three{w wo w1 w2 w3:World}{j l m n o p b c d:fD}{t u v y z A e f g:Nat}(i:eA F w wo)
  (h1:fG (kp (kp F w wo) wo w1) w1 W s r j l m t u v ((ids++List.replicate k 0)++[0]) (known++List.replicate k false) ps c5 c6 c7 c8 c9 c10 c11/\eA (kp F w wo) wo w1)
  (h2:fG (kp (kp (kp F w wo) wo w1) w1 w2) w2 W s r n o p y z A ((ids++List.replicate k 0)++[0]) ((known++List.replicate k false)++[false]) ps c5 c6 c7 c8 c9 c10 c11/\eA (kp (kp F w wo) wo w1) w1 w2)
  (h3:fG (kp (kp (kp (kp F w wo) wo w1) w1 w2) w2 w3) w3 W s r b c d e f g ((ids++List.replicate k 0)++[0]) ((known++List.replicate k false)++[false]) (ps++[x]) c5 c6 c7 c8 c9 c10 c11/\eA (kp (kp (kp F w wo) wo w1) w1 w2) w2 w3)
  (B:ps.length=n0+k)(C:pH ps)(hx:0<=x/\x<=bP ps.length):iK F w w3 W s r ids known n0 (k+1) c5 c6 c7 c8 c9 c10 c11:=by
 have D:=h1.2.size;have E:=h2.2.size;have G:=h3.2.size;have H:=i.size;refine⟨b,c,d,e,f,g,ps++[x],?_,by simp[B];omega,?_,?_⟩
 ·have:=h3.1.mono (F':=kp F w w3) (fun q hq=>by
   rcases hq with((( h|h)|h)|h)|h
   ·exact .inl h
   ·exact .inr ⟨h.1,by omega⟩
   ·exact .inr ⟨by omega,by omega⟩
   ·exact .inr ⟨by omega,by omega⟩
   ·exact .inr ⟨by omega,h.2⟩)
  rw[kC,kC,<-EZ,<-EZ]at this;exact this
 ·exact C.snoc hx
 ·have a:=xt (xt h1.2 h2.2:eA (kp F w wo) wo w2) ((⟨h3.2.os,h3.2.tape,h3.2.output,h3.2.size,fun q hq hn=>h3.2.block q hq (fun h=>hn (kQ D E h))⟩:eA (kp (kp F w wo) wo w2) w2 w3))
  exact xt i a
theorem iK.yY(h:iK F w wo W s r ids known n0 k c5 c6 c7 c8 c9 c10 c11):YtlgidcmmgohagaaGreat.yY W wo=ids.length+k:=by
 obtain⟨ia,ka,pa,ic,kc,pc,ps,hl,a,b,c⟩:=h;unfold YtlgidcmmgohagaaGreat.yY;rw[hl.c2];simp
theorem nZ{F G:Nat->Prop}{eC:List Ob}(hr:fh G w r eC)(a:∀k,G k->k<w.heap.size/\¬F k)(hk:eA F w wo):fh G wo r eC:=
 hr.keep (fun _ h=>h) (fun k b=>hk.block k (a k b).1 (a k b).2)
theorem DD(h:fG F w W s r ia ka pa ic kc pc ids known paths c5 c6 c7 c8 c9 c10 c11)(hr:fh G w r eC)(am:∀k,G k->k<w.heap.size/\¬F k)(hlk:known.length=ids.length)(an:paths.length=ids.length)(hle:ids.length<=eC.length)
  (ao:∀i (hi:i<eC.length),∀e∈eC[i].eR,0<=e.2.2/\e.2.2<(i:Int))(K:pH paths):
  gc 79 #[hh W] w fun e w'=>e=.returned (.tuple #[])/\iK F w w' W s r ids known ids.length (eC.length-ids.length) c5 c6 c7 c8 c9 c10 c11:=by
 have aQ:Hid (fh G w r eC):=hr;have aR:Hid (∀k,G k->k<w.heap.size/\¬F k):=am;have aS:Hid (∀i (hi:i<eC.length),∀e∈eC[i].eR,0<=e.2.2/\e.2.2<(i:Int)):=ao;have aT:Hid (known.length=ids.length):=hlk;have aU:Hid (iK F w w W s r ids known ids.length 0 c5 c6 c7 c8 c9 c10 c11):=⟨ia,ka,pa,ic,kc,pc,paths,by rw[List.replicate_zero,List.replicate_zero,ql,ql];exact h.keep (fun k hk=>Or.inl hk) (fun _ _=>rfl),by simpa using an,K,⟨rfl,rfl,rfl,kx _,fun _ _ _=>rfl⟩⟩;have hm:eC.length<=400:=by obtain⟨_,_,h⟩:=hr;exact h.many
 clear h hr am ao K hlk an;go_enter func79,ntmps79;go_wp2
 go_loopw [] (fun wr=>∃k:Nat,ids.length+k<=eC.length/\Hid (iK F w wr W s r ids known ids.length k c5 c6 c7 c8 c9 c10 c11)) (fun wr=>eC.length-yY W wr)
 case atStart=>exact⟨0,hle,aU.out⟩
 case round=>
  obtain⟨k,hk,ap⟩:=hrel;obtain⟨ia,ka,pa,ic,kc,pc,ps,hl,b,Y,Z⟩:=ap.out;have I:(ids++List.replicate k (0:Int)).length=ids.length+k:=by simp
  have l:(known++List.replicate k false).length=ids.length+k:=by simp[aT.out]
  have bq:=hl.c1;have e2:=hl.c2;have aa:=hl.c4;rw[I]at e2;rw[b]at aa;obtain⟨br,bs,ab⟩:=nZ aQ.out aR.out Z;have bt:=ab.c0;obtain⟨n,hn⟩:∃n,n=ids.length+k:=⟨_,rfl⟩;rw[<-hn]at e2 aa hk;have a:Hid (n=ids.length+k):=hn;have aq:Hid (yY W wr=n):=by unfold yY;rw[e2];rfl
  by_cases ac:n<eC.length
  ·have bu:(n:Int)<(eC.length:Int):=by omega
   obtain⟨g,rfl,bv,_,_,ad,_⟩:=ko ab.row rfl ac;have L:=ab.zV eC[n] (kj ac);have ae:=aS.out n ac;obtain⟨o,ho⟩:∃o,o=eC[n]:=⟨_,rfl⟩;rw[<-ho]at L ae ad;obtain⟨ok,od,ar,el,au,es,bw⟩:=o;have af:wr.ownsRow 0 112 3 (.slice ar el au) el (flat es):=L.row;have bx:wr.cell? (eI g (n*4+2))=some (.slice ar el au):=ad;have bz:el<=16:=L.few;have aV:Hid (es.length=el):=L.len;have aW:Hid (∀e∈es,0<=e.2.2/\e.2.2<(n:Int)):=ae;have ag:Hid (ps.length=n):=by rw[hn];exact b
   clear ho L ae ad hn;go_wp2
   go_quiet (fail)
   go_wp2
   go_quiet (fail)
   go_wp2;rename World=>wo
   go_loopw [3,4] (fun v i wq=>∃j:Nat,∃x:Int,j<=el/\i=.int .i64 j/\v=.int .i64 x/\0<=x/\x<=cP n*j/\(∃q,wq=wo.drewN q)) (fun _ i _=>el-(intOf i).toNat)
   case atStart=>exact⟨0,0,tk _,rfl,rfl,by omega,by omega,⟨_,by rw[Fb]⟩⟩
   case round=>
    obtain⟨j,x,hj,rfl,rfl,bA,av,⟨q,rfl⟩⟩:=hrel;by_cases aX:j<el
    ·have aw:j<es.length:=by rw[aV.out];exact aX
     obtain⟨aY,bB,ax⟩:=fj af (by omega);obtain rfl:=(nH ax).1;have bC:aY<wo.heap.size:=eK af rfl;obtain⟨_,_,a2⟩:=ld (off:=0) (jn af) aw;rw[iP]at a2;obtain⟨aZ,bb⟩:=aW.out _ (kj aw);obtain⟨f,ay⟩:∃f:Nat,es[j].2.2=(f:Int):=⟨es[j].2.2.toNat,by omega⟩;have az:f<n:=by omega
     have bD:(f:Int)<(n:Int):=(by omega);rw[ay]at a2;have aA:f<ps.length:=by rw[ag.out];exact az
     obtain⟨bE,iD,bF,bG,_⟩:=row_one hl.qc (i:=f) (v:=.int .i64 ps[f]) (by simp[encI,jy aA]);rw[iD]at aa;obtain⟨bH,bI⟩:=Y f aA;have bJ:=dat az;have bK:=(YT f).2;have bc:=TQ n;have bd:(cP n)*((j:Int)+1)=cP n*(j:Int)+cP n:=by rw[Int.mul_add,Int.mul_one]
     have bL:cP n*(j:Int)<=302*16:=Int.mul_le_mul bc.2 (by omega) (by omega) (by omega);clear ax iD ay aZ bb;go_wp2
     go_quiet (fail)
     go_wp2;go_roundw
     case rel=>exact⟨j+1,x+1+ps[f],by omega,by go_num,rfl,by omega,by push_cast;rw[bd];omega,⟨_,rfl⟩⟩
     case measure=>simp[intOf];omega
    ·have J:Hid (wo.ownsRow 0 29 1 (.slice ia n ic) n (encI (ids++List.replicate k 0))):=by have:=hl.lW;rw[I,<-a.out]at this;exact this
     have be:=hl.c3;rw[l,<-a.out]at be;have fz:=hl.fz;obtain⟨aB,aC,aD,aE,aF⟩:=iq Oe;obtain⟨aG,aH,aI,aJ,aK⟩:=iq ctz;obtain⟨aL,K,aM,aN,aO⟩:=iq cwd;have bM:W<wo.heap.size:=hl.lt;by_cases aP:300<x
     ·skip
      have ah:(0:Int)<=(301:Int)/\(301:Int)<=bP ps.length:=⟨by omega,by rw[ag.out];exact(TR (Int.le_trans av (Int.mul_le_mul_of_nonneg_left (by omega) (TQ n).1))).1 aP⟩;go_wp2_with(at_builtin;refine jp rfl (.tmp 60) (.tmp 61) 59 rfl 0 29 aB _ 1 8 underlying59 aC aD aE aF rfl (by decide) (.slice ia n ic) n (encI (ids++List.replicate k 0)) rfl (J.out.alloc _) (eI wo.heap.size 0) 1 1 [eJ 0] rfl rfl (one_cell (wo.drewN q) _ _ _ rfl) Ac (by unfold maxLen;omega) (by omega) (tk _) ?_);intro bf w1 p t M;obtain⟨bg,bh,rfl⟩:=fj p (by omega);have N:=sq hl.hW (lJ wo q _) (by simp) t (fX J.out hl.hW (by decide));have O:=ma (i:=2) hl.hW J.out (by decide) (lJ wo q _) (by simp) ⟨rfl,rfl,rfl⟩ p t M (by omega);have m:=hl.YQ (x:=0) (by rw[I,<-a.out];exact O);obtain⟨f10,f11,f12,f13,f14,ai⟩:=uj N;rw[l,<-a.out]at f13;rw[b,<-a.out]at f14;rw[I,<-a.out]at f12;have u:=m.1.pz;rw[l,<-a.out]at u;have bi:wo.heap.size<=w1.heap.size:=by have:=m.2.size;simpa using this
      have c:Hid _:=m;have y:Hid _:=u;clear p t M O m u N;go_wp2_with(at_builtin;refine jp rfl (.tmp 69) (.tmp 70) 60 rfl 0 4 aG _ 1 1 underlying60 aH aI aJ aK rfl (by decide) (.slice ka n kc) n (HZ (known++List.replicate k false)) rfl (pE y.out _) (eI w1.heap.size 0) 1 1 [.bool false] rfl rfl (one_cell _ _ _ _ (by simp)) Ia (by unfold maxLen;omega) (by omega) (tk _) ?_);intro bj w2 z A P;obtain⟨bk,bl,rfl⟩:=fj z (by omega);have Q:=sq c.out.1.hW (jz _ _) (by simp) A (fX y.out c.out.1.hW (by decide));have R:=ma (i:=3) c.out.1.hW y.out (by decide) (jz _ _) (by simp) ⟨rfl,rfl,rfl⟩ z A P (by simp);have B:=c.out.1.YR (x:=false) (by rw[l,<-a.out];exact R);obtain⟨f20,f21,f22,f23,f24,aj⟩:=uj Q;rw[l,<-a.out]at f23;rw[b,<-a.out]at f24;have C:=B.1.qc;rw[b,<-a.out]at C;have d:Hid _:=B;have D:Hid _:=C;clear z A P R B C Q f10 f11 f12 f13 f14 ai;go_wp2_with(at_builtin;refine jp rfl (.tmp 78) (.tmp 80) 61 rfl 0 3 aL _ 1 8 underlying61 K aM aN aO rfl (by decide) (.slice pa n pc) n (encI ps) rfl (pE D.out _) (eI w2.heap.size 0) 1 1 [eJ (301)] rfl rfl (one_cell _ _ _ _ (by simp)) Ac (by unfold maxLen;omega) (by omega) (tk _) ?_);intro bm w3 E H S;obtain⟨g3,ak,rfl⟩:=fj E (by omega);have T:=sq d.out.1.hW (jz _ _) (by simp) H (fX D.out d.out.1.hW (by decide));have U:=ma (i:=4) d.out.1.hW D.out (by decide) (jz _ _) (by simp) ⟨rfl,rfl,rfl⟩ E H S (by simp);have V:=d.out.1.YS (x:=301) (by rw[b,<-a.out];exact U);obtain⟨f30,f31,f32,f33,f34,bn⟩:=uj T;rw[b,<-a.out]at f34;have al:Hid _:=V;clear E H S U V T f20 f21 f22 f23 f24 aj;go_wp2;have X:iK F w (w3.setCell (eI W 4) (.slice (some (eI g3 0)) (n+1) ak)) W s r ids known ids.length (k+1) c5 c6 c7 c8 c9 c10 c11:=iK.three Z c.out d.out al.out b Y ah;go_roundw
      case rel=>exact⟨k+1,by have:=a.out;omega,X⟩
      case measure=>
       have e:=X.yY;rw[e,aq.out]
       have:=a.out
       omega
     ·skip
      have ah:(0:Int)<=(x:Int)/\(x:Int)<=bP ps.length:=⟨by omega,by rw[ag.out];exact(TR (Int.le_trans av (Int.mul_le_mul_of_nonneg_left (by omega) (TQ n).1))).2 aP⟩;go_wp2_with(at_builtin;refine jp rfl (.tmp 60) (.tmp 61) 59 rfl 0 29 aB _ 1 8 underlying59 aC aD aE aF rfl (by decide) (.slice ia n ic) n (encI (ids++List.replicate k 0)) rfl (J.out.alloc _) (eI wo.heap.size 0) 1 1 [eJ 0] rfl rfl (one_cell (wo.drewN q) _ _ _ rfl) Ac (by unfold maxLen;omega) (by omega) (tk _) ?_);intro bf w1 p t M;obtain⟨bg,bh,rfl⟩:=fj p (by omega);have N:=sq hl.hW (lJ wo q _) (by simp) t (fX J.out hl.hW (by decide));have O:=ma (i:=2) hl.hW J.out (by decide) (lJ wo q _) (by simp) ⟨rfl,rfl,rfl⟩ p t M (by omega);have m:=hl.YQ (x:=0) (by rw[I,<-a.out];exact O);obtain⟨f10,f11,f12,f13,f14,ai⟩:=uj N;rw[l,<-a.out]at f13;rw[b,<-a.out]at f14;rw[I,<-a.out]at f12;have u:=m.1.pz;rw[l,<-a.out]at u;have bi:wo.heap.size<=w1.heap.size:=by have:=m.2.size;simpa using this
      have c:Hid _:=m;have y:Hid _:=u;clear p t M O m u N;go_wp2_with(at_builtin;refine jp rfl (.tmp 69) (.tmp 70) 60 rfl 0 4 aG _ 1 1 underlying60 aH aI aJ aK rfl (by decide) (.slice ka n kc) n (HZ (known++List.replicate k false)) rfl (pE y.out _) (eI w1.heap.size 0) 1 1 [.bool false] rfl rfl (one_cell _ _ _ _ (by simp)) Ia (by unfold maxLen;omega) (by omega) (tk _) ?_);intro bj w2 z A P;obtain⟨bk,bl,rfl⟩:=fj z (by omega);have Q:=sq c.out.1.hW (jz _ _) (by simp) A (fX y.out c.out.1.hW (by decide));have R:=ma (i:=3) c.out.1.hW y.out (by decide) (jz _ _) (by simp) ⟨rfl,rfl,rfl⟩ z A P (by simp);have B:=c.out.1.YR (x:=false) (by rw[l,<-a.out];exact R);obtain⟨f20,f21,f22,f23,f24,aj⟩:=uj Q;rw[l,<-a.out]at f23;rw[b,<-a.out]at f24;have C:=B.1.qc;rw[b,<-a.out]at C;have d:Hid _:=B;have D:Hid _:=C;clear z A P R B C Q f10 f11 f12 f13 f14 ai;go_wp2_with(at_builtin;refine jp rfl (.tmp 78) (.tmp 80) 61 rfl 0 3 aL _ 1 8 underlying61 K aM aN aO rfl (by decide) (.slice pa n pc) n (encI ps) rfl (pE D.out _) (eI w2.heap.size 0) 1 1 [eJ (x)] rfl rfl (one_cell _ _ _ _ (by simp)) Ac (by unfold maxLen;omega) (by omega) (tk _) ?_);intro bm w3 E H S;obtain⟨g3,ak,rfl⟩:=fj E (by omega);have T:=sq d.out.1.hW (jz _ _) (by simp) H (fX D.out d.out.1.hW (by decide));have U:=ma (i:=4) d.out.1.hW D.out (by decide) (jz _ _) (by simp) ⟨rfl,rfl,rfl⟩ E H S (by simp);have V:=d.out.1.YS (x:=x) (by rw[b,<-a.out];exact U);obtain⟨f30,f31,f32,f33,f34,bn⟩:=uj T;rw[b,<-a.out]at f34;have al:Hid _:=V;clear E H S U V T f20 f21 f22 f23 f24 aj;go_wp2;have X:iK F w (w3.setCell (eI W 4) (.slice (some (eI g3 0)) (n+1) ak)) W s r ids known ids.length (k+1) c5 c6 c7 c8 c9 c10 c11:=iK.three Z c.out d.out al.out b Y ah;go_roundw
      case rel=>exact⟨k+1,by have:=a.out;omega,X⟩
      case measure=>
       have e:=X.yY;rw[e,aq.out]
       have:=a.out
       omega
  ·have bo:Hid (k=eC.length-ids.length):=by have:=a.out;show _=_;omega
   have bp:¬(n:Int)<(eC.length:Int):=by omega
   have qa:decide ((n:Int)<(eC.length:Int))=false:=rk bp;clear hn;go_wp2
   go_quiet (fail)
   go_wp2;go_end0;refine⟨rfl,?_⟩;rw[<-bo.out];exact iK.drewN ap.out nq
end
def iu (v:Value):Option (DataW Value×List MemPlace):=some (.held v,[])
def iZ (w:World)(k:gi)(b n:Nat)(M:Lit->Option Value):Prop:=
 ∃D:DataW Value,w.ownsMap prog k iu b n D/\∀kl,WideAt.IsKeyLit kl->∀z,D.atKey kl z=((M kl).map DataW.held).getD z
theorem iZ.lt{k:gi}{b n:Nat}(h:iZ w k b n M):b<w.heap.size:=by
 obtain⟨D,hD,_⟩:=h;exact hD.lt
theorem iZ.keep{w w':World}{k:gi}{b n:Nat}(h:iZ w k b n M)(e:w'.heap[b]?=w.heap[b]?):iZ w' k b n M:=by
 obtain⟨D,hD,a⟩:=h;exact⟨D,tB hD e,a⟩
theorem iZ.isMap{k:gi}{b n:Nat}(h:iZ w k b n M):∃es a,w.heap[b]?=some (.map es a):=by
 obtain⟨D,hD,_⟩:=h;exact tz hD
theorem Ad{k:gi}(h:w.heap[b]?=some (.map #[] 0)):iZ w k b 0 (fun _=>none):=
 ⟨.map [],⟨#[],0,h,⟨by simp,MapKept.stamped_empty 0,by simp⟩,kx _,rfl⟩,fun kl _ z=>rfl⟩
theorem AR(h:∀z,D.atKey kl z=((M kl).map DataW.held).getD z):Maps.has D kl=(M kl).isSome:=by
 cases hm:M kl with
 |none=>rw[hm]at h;exact Maps.has_false_of_atKey h
 |some v=>rw[hm]at h;exact Maps.has_true_of_atKey h
theorem iZ.look_ok{k:gi}{b n:Nat}(h:iZ w k b n M)(K:Maps.Keyed prog k)(ht:prog.underlying t=some (.map k e))(d:(zeroValue e).run prog w=.ok z w)
  (a:keyOf prog k key=some kl):(Instr.lookup t (.map (some b)) key true).run prog w=.ok (.tuple #[(M kl).getD z,.bool (M kl).isSome]) w:=by
 obtain⟨D,hD,c⟩:=h;have hk:=K.key a;obtain⟨v,ps,f,hv⟩:=hD.look_ok K ht d (zd:=.held z) (zp:=[]) rfl a;rw[c kl hk,]at hv;rw[f,AR (c kl hk)];cases hm:M kl with
 |none=>rw[hm]at hv;simp only[iu,Option.map_none,WE,mZ,uR,DataW.held.injEq]at hv;rw[hv.1];rfl
 |some g=>rw[hm]at hv;simp only[iu,mq,qj,mZ,uR,DataW.held.injEq]at hv;rw[hv.1];rfl
theorem iZ.look{k:gi}{b n:Nat}(h:iZ w k b n M)(K:Maps.Keyed prog k)(ht:prog.underlying t=some (.map k e))(c:(zeroValue e).run prog w=.ok z w)
  (a:keyOf prog k key=some kl):(Instr.lookup t (.map (some b)) key false).run prog w=.ok ((M kl).getD z) w:=by
 obtain⟨D,hD,d⟩:=h;have hk:=K.key a;obtain⟨v,ps,f,hv⟩:=hD.lookup K ht c (zd:=.held z) (zp:=[]) rfl a;rw[d kl hk]at hv;rw[f];cases hm:M kl with
 |none=>rw[hm]at hv;simp only[iu,Option.map_none,WE,mZ,uR,DataW.held.injEq]at hv;rw[hv.1];rfl
 |some g=>rw[hm]at hv;simp only[iu,mq,qj,mZ,uR,DataW.held.injEq]at hv;rw[hv.1];rfl
noncomputable def AU (M:Lit->Option Value)(kl:Lit)(v:Option Value):Lit->Option Value:=fun x=>by
 classical exact if x=kl then v else M x
theorem kR(M:Lit->Option Value)(kl:Lit)(v:Option Value):AU M kl v kl=v:=by simp[AU]
theorem gW{kl x:Lit}(h:x≠kl)(v:Option Value):AU M kl v x=M x:=by simp[AU,h]
theorem TS(hm:Maps.IsMap D)(a:∀kl,WideAt.IsKeyLit kl->∀z,D.atKey kl z=((M kl).map DataW.held).getD z)(hk:WideAt.IsKeyLit kl)(v:Value):
  ∀x,WideAt.IsKeyLit x->∀z,(D.put kl (.held v)).atKey x z=((AU M kl (some v) x).map DataW.held).getD z:=by
 intro x hx z;by_cases e:x=kl
 ·subst e;rw[Maps.atKey_put_same hm hk,kR];rfl
 ·rw[Maps.atKey_put_other e,gW e,a x hx]
theorem Ib(a:∀kl,WideAt.IsKeyLit kl->∀z,D.atKey kl z=((M kl).map DataW.held).getD z)(kl:Lit):
  ∀x,WideAt.IsKeyLit x->∀z,(D.del kl).atKey x z=((AU M kl none x).map DataW.held).getD z:=by
 intro x hx z;by_cases e:x=kl
 ·subst e;rw[Maps.atKey_del_same,kR];rfl
 ·rw[Maps.atKey_del_other e,gW e,a x hx]
theorem iZ.store{k:gi}{b n:Nat}(h:iZ w k b n M)(K:Maps.Keyed prog k)(ht:prog.underlying t=some (.map k e))(hn:n<maxLen)
  {key val:Value}(a:keyOf prog k key=some kl):
  ∃w',(Instr.mapUpdate t (.map (some b)) key val).run prog w=.ok () w'/\iZ w' k b (n+1) (AU M kl (some val))/\w.grownBy w' (some b)/\w'.heap.size=w.heap.size:=by
 obtain⟨D,hD,c⟩:=h;have hk:=K.key a;obtain⟨w',f,g,hg⟩:=hD.store K ht hn a (val:=val) (d:=.held val) (ps:=[]) rfl;refine⟨w',f,⟨_,g,TS hD.isMap c hk val⟩,hg.grown,?_⟩;obtain⟨es,i,es',j,l,rfl⟩:=hg;simp[ChangeMaps.setBlock]
theorem iZ.drop{k:gi}{b n:Nat}(h:iZ w k b n M)(K:Maps.Keyed prog k)(ht:prog.underlying t=some (.map k e))
  (c:keyOf prog k key=some kl)(a:gi):
  ∃w',(Builtin.delete_ #[t,k] a #[.map (some b),key]).run prog w=.ok (.tuple #[]) w'/\iZ w' k b n (AU M kl none)/\w.grownBy w' (some b)/\w'.heap.size=w.heap.size:=by
 obtain⟨D,hD,d⟩:=h;obtain⟨w',f,g,hg⟩:=hD.drop K ht c a;refine⟨w',f,⟨_,g,Ib d kl⟩,hg.grown,?_⟩;obtain⟨es,i,es',j,l,rfl⟩:=hg;simp[ChangeMaps.setBlock]
inductive LT where
 |file (id:Int)
 |held (f:Nat)
 |dir (id:Int)
 |own (es:List (eD×LT))
abbrev Kids:=List (eD×LT)
def LT.kind:LT->Int
 |.file _=>1
 |.held _=>1
 |.dir _=>2
 |.own _=>2
def LT.id:LT->Int
 |.file i=>i
 |.held _=>0
 |.dir i=>i
 |.own _=>0
def mn (x:eD×LT):eN:=(x.1,x.2.kind,x.2.id)
def ltOf (e:eN):LT:=if e.2.1=2 then .dir e.2.2 else .file e.2.2
def iF (e:eN):eD×LT:=(e.1,ltOf e)
def eZ (ey:List Ob)(id:Int):List eN:=((ey[(id-1).toNat]?).map (fun o:Ob=>o.eR)).getD []
def bytesOf (ey:List Ob)(id:Int):eD:=((ey[(id-1).toNat]?).map (fun o:Ob=>o.data)).getD ⟨#[]⟩
def kids (ey:List Ob):LT->Option Kids
 |.own es=>some es
 |.dir id=>some ((eZ ey id).map iF)
 |_=>none
def ip (es:Kids)(n:eD):Option LT:=(es.find? (fun x=>decide (x.1=n))).map (·.2)
def LT.at (ey:List Ob):LT->eL->Option LT
 |t,[]=>some t
 |t,n::r=>(kids ey t).bind fun es=>(ip es n).bind fun c=>c.at ey r
theorem kh(ey:List Ob)(t:LT)(n:eD)(r:eL):t.at ey (n::r)=(kids ey t).bind fun es=>(ip es n).bind fun c=>c.at ey r:=by rw[LT.at]
theorem mr(ey:List Ob)(t:LT):t.at ey []=some t:=by rw[LT.at]
theorem kB(ey:List Ob):∀(p q:eL) (t:LT),t.at ey (p++q)=(t.at ey p).bind fun c=>c.at ey q
 |[],q,t=>by rw[zR,mr];rfl
 |n::r,q,t=>by
  rw[uQ,kh,kh]
  cases kids ey t with
  |none=>rfl
  |some es=>
   simp only[qr]
   cases ip es n with
   |none=>rfl
   |some c=>simp only[qr];exact kB ey r q c
def rb (ey:List Ob)(f:Kids->Kids):eL->LT->LT
 |[],t=>.own (f ((kids ey t).getD []))
 |n::r,t=>.own (((kids ey t).getD []).map fun x=>if x.1=n then(x.1,rb ey f r x.2)else x)
theorem DF(ey:List Ob)(f:Kids->Kids)(t:LT):kids ey (rb ey f [] t)=some (f ((kids ey t).getD [])):=by rw[rb];rfl
theorem oa(ey:List Ob)(f:Kids->Kids)(n:eD)(r:eL)(t:LT):kids ey (rb ey f (n::r) t)=some (((kids ey t).getD []).map fun x=>if x.1=n then(x.1,rb ey f r x.2)else x):=by rw[rb];rfl
theorem nu(n:eD)(g:LT->LT)(m:eD):∀es:Kids,ip (es.map fun x=>if x.1=n then(x.1,g x.2)else x) m=if m=n then(ip es m).map g else ip es m
 |[]=>by split<;>rfl
 |x::r=>by
  have a:=nu n g m r
  unfold ip at a ⊢
  rw[jg]
  by_cases hx:x.1=n
  ·rw[ie hx]
   by_cases hm:x.1=m
   ·have b:m=n:=hm.symm.trans hx
    rw[ie b,Hi (by simpa using hm),Hi (by simpa using hm)];rfl
   ·rw[Hj (by simpa using hm),Hj (by simpa using hm)];exact a
  ·rw[fY hx]
   by_cases hm:x.1=m
   ·have b:¬m=n:=fun e=>hx (hm.trans e)
    rw[fY b,Hi (by simpa using hm),Hi (by simpa using hm)]
   ·rw[Hj (by simpa using hm),Hj (by simpa using hm)];exact a
inductive Nd where
 |dir
 |file (d:eD)
 deriving DecidableEq
abbrev Hd:=Nat->eD
def nd (ey:List Ob)(fc:Hd):LT->Nd
 |.file i=>.file (bytesOf ey i)
 |.held f=>.file (fc f)
 |.dir _=>.dir
 |.own _=>.dir
def UV (ey:List Ob)(fc:Hd)(t:LT)(p:eL):Option Nd:=(t.at ey p).map (nd ey fc)
theorem gw(ey:List Ob)(fc:Hd)(t:LT):UV ey fc t []=some (nd ey fc t):=by unfold UV;rw[mr];rfl
theorem yv(ey:List Ob)(fc:Hd)(t:LT)(n:eD)(r:eL):UV ey fc t (n::r)=(kids ey t).bind fun es=>(ip es n).bind fun c=>UV ey fc c r:=by
 unfold UV;rw[kh];cases kids ey t with
 |none=>rfl
 |some es=>
  simp only[qr];cases ip es n<;>rfl
theorem FM(ey:List Ob)(fc:Hd)(f:Kids->Kids):∀(p:eL) (t d:LT) (ks:Kids),t.at ey p=some d->kids ey d=some ks->
  (∀n r,UV ey fc (rb ey f p t) (p++n::r)=(ip (f ks) n).bind fun c=>UV ey fc c r)/\
  (∀q,(¬ ∃n r,q=p++n::r)->UV ey fc (rb ey f p t) q=UV ey fc t q)
 |[],t,d,ks,a,hk=>by
  rw[mr]at a;cases a
  refine⟨fun n r=>?_,fun q hq=>?_⟩
  ·rw[zR,yv,DF,hk];rfl
  ·cases q with
   |nil=>
    rw[gw,gw,rb]
    cases t<;>first|rfl|(simp[kids]at hk)
   |cons n r=>exact absurd ⟨n,r,rfl⟩ hq
 |m::p,t,d,ks,a,hk=>by
  rw[kh]at a
  cases b:kids ey t with
  |none=>rw[b]at a;simp at a
  |some es=>
   rw[b]at a
   simp only[qr]at a
   cases hc:ip es m with
   |none=>rw[hc]at a;simp at a
   |some c=>
    rw[hc]at a
    simp only[qr]at a
    obtain⟨g,h⟩:=FM ey fc f p c d ks a hk
    refine⟨fun n r=>?_,fun q hq=>?_⟩
    ·rw[uQ,yv,oa,b,qj,qr,nu,ie rfl,hc,mq,qr]
     exact g n r
    ·cases q with
     |nil=>
      rw[gw,gw,rb]
      cases t<;>first|rfl|(simp[kids]at b)
     |cons n r=>
      rw[yv,yv,oa,b,qj,qr,qr,nu]
      by_cases hn:n=m
      ·subst hn
       rw[ie rfl,hc,mq,qr,qr]
       exact h r (fun⟨x,y,e⟩=>hq ⟨x,y,by rw[e];rfl⟩)
      ·rw[fY hn]
structure FS where
 got:List Int
 brk:Bool
 kF:Int->Bool
 kD:Int->Bool
def FS.gj (s:FS)(id:Int):FS×Bool:=
 if s.kD id then(s,true)else if s.brk then({ s with brk:=false },false) else({ s with got:=s.got++[id],kD:=fun x=>decide (x=id) ||s.kD x },true)
def FS.fM (s:FS)(id:Int):FS×Bool:=
 if s.kF id then(s,true)else if s.brk then({ s with brk:=false },false) else({ s with got:=s.got++[id],kF:=fun x=>decide (x=id) ||s.kF x },true)
def FS.kn (s:FS)(x:Int):Nat:=(s.kF x).toNat+(s.kD x).toNat
def FS.Next (s a:FS):Prop:=a.brk=s.brk/\(s.brk=true->a=s)/\(∃l,a.got=s.got++l/\∀x,l.count x+s.kn x=a.kn x)/\(∀x,s.kF x=true->a.kF x=true)/\(∀x,s.kD x=true->a.kD x=true)
def FS.FO (s a:FS):Prop:=s.brk=true/\a={ s with brk:=false }
theorem FS.Next.refl(s:FS):s.Next s:=⟨rfl,fun _=>rfl,⟨[],by simp,fun x=>by simp⟩,fun _ h=>h,fun _ h=>h⟩
theorem FS.Next.trans{s a b:FS}(h:s.Next a)(k:a.Next b):s.Next b:=by
 obtain⟨h1,h2,⟨l,h3,h6⟩,d,e⟩:=h;obtain⟨f,g,⟨m,i,j⟩,k4,k5⟩:=k;refine⟨f.trans h1,fun c=>?_,⟨l++m,by rw[i,h3,kC],fun x=>by rw[List.count_append];have:=h6 x;have:=j x;omega⟩,fun x hx=>k4 x (d x hx),fun x hx=>k5 x (e x hx)⟩;rw[g (h1.trans c),h2 c]
theorem FS.Next.fail{s a b:FS}(h:s.Next a)(k:a.FO b):s.FO b:=by
 obtain⟨d,e⟩:=k;have c:s.brk=true:=h.1.symm.trans d;have f:=h.2.1 c;subst f;exact⟨c,e⟩
theorem TT{f:Int->Bool}{id:Int}(h:¬f id=true){n:Nat}(x:Int):[id].count x+(n+(f x).toNat)=n+(decide (x=id) ||f x).toNat:=by
 by_cases hx:x=id
 ·subst hx
  have:f x=false:=by simpa using h
  simp[this];omega
 ·have nv:¬id=x:=fun e=>hx e.symm
  simp[hx,nv]
theorem FS.AV(s:FS)(id:Int):((s.gj id).2=true/\s.Next (s.gj id).1/\(s.gj id).1.kD id=true)\/((s.gj id).2=false/\s.FO (s.gj id).1):=by
 unfold FS.gj;by_cases h:s.kD id=true
 ·rw[ie h];exact .inl ⟨rfl,FS.Next.refl s,h⟩
 ·rw[fY h]
  by_cases a:s.brk=true
  ·rw[ie a];exact .inr ⟨rfl,a,rfl⟩
  ·rw[fY a]
   exact .inl ⟨rfl,⟨rfl,fun h=>absurd h a,⟨[id],rfl,fun x=>TT h x⟩,fun _ h=>h,fun x hx=>by simp[hx]⟩,by simp⟩
theorem FS.yZ(s:FS)(id:Int):((s.fM id).2=true/\s.Next (s.fM id).1/\(s.fM id).1.kF id=true)\/((s.fM id).2=false/\s.FO (s.fM id).1):=by
 unfold FS.fM;by_cases h:s.kF id=true
 ·rw[ie h];exact .inl ⟨rfl,FS.Next.refl s,h⟩
 ·rw[fY h]
  by_cases a:s.brk=true
  ·rw[ie a];exact .inr ⟨rfl,a,rfl⟩
  ·rw[fY a]
   exact .inl ⟨rfl,⟨rfl,fun h=>absurd h a,⟨[id],rfl,fun x=>by have:=TT h (n:=0) x;unfold FS.kn;simp only;omega⟩,fun x hx=>by simp[hx],fun _ h=>h⟩,by simp⟩
def pu (ey:List Ob)(s:FS):LT->FS×Int×Kids
 |.own es=>(s,0,es)
 |.dir id=>if(s.gj id).2 then((s.gj id).1,0,(eZ ey id).map iF) else((s.gj id).1,14,[])
 |_=>(s,5,[])
def IH (ey:List Ob):LT->Int×Kids
 |.own es=>(0,es)
 |.dir id=>(0,(eZ ey id).map iF)
 |_=>(5,[])
def il (ey:List Ob)(t:LT)(s:FS):eL->FS×Int×LT
 |[]=>(s,0,t)
 |n::r=>
  let a:=il ey t s r
  if a.2.1≠0 then(a.1,a.2.1,.dir 0) else
  let b:=pu ey a.1 a.2.2
  if b.2.1≠0 then(b.1,b.2.1,.dir 0) else
  match ip b.2.2 n with
  |none=>(b.1,4,.dir 0)
  |some c=>(b.1,0,c)
def ln (ey:List Ob)(t:LT):eL->Int×LT
 |[]=>(0,t)
 |n::r=>
  let a:=ln ey t r
  if a.1≠0 then(a.1,.dir 0) else
  let b:=IH ey a.2
  if b.1≠0 then(b.1,.dir 0) else
  match ip b.2 n with
  |none=>(4,.dir 0)
  |some c=>(0,c)
def lL (ey:List Ob)(t:LT)(s:FS)(r:eL):FS×Int×Kids:=
 let a:=il ey t s r
 if a.2.1≠0 then(a.1,a.2.1,[])else pu ey a.1 a.2.2
def QR (ey:List Ob)(t:LT)(r:eL):Int×Kids:=
 let a:=ln ey t r
 if a.1≠0 then(a.1,[])else IH ey a.2
theorem sP(ey:List Ob)(t:LT):(IH ey t).1≠14:=by cases t<;>simp[IH]
theorem sQ(ey:List Ob)(s:FS)(t:LT):(s.Next (pu ey s t).1/\(pu ey s t).2=IH ey t)\/(s.FO (pu ey s t).1/\(pu ey s t).2=(14,[])):=by
 cases t with
 |file i=>exact .inl ⟨FS.Next.refl s,rfl⟩
 |held f=>exact .inl ⟨FS.Next.refl s,rfl⟩
 |own es=>exact .inl ⟨FS.Next.refl s,rfl⟩
 |dir id=>
  have a:pu ey s (.dir id)=if(s.gj id).2 then((s.gj id).1,0,(eZ ey id).map iF) else((s.gj id).1,14,[]):=rfl;have e2:IH ey (.dir id)=(0,(eZ ey id).map iF):=rfl;rw[a,e2];rcases s.AV id with⟨h,hn,_⟩|⟨h,hf⟩
  ·rw[ie h];exact .inl ⟨hn,rfl⟩
  ·rw[fY (by rw[h];decide)];exact .inr ⟨hf,rfl⟩
theorem sR(ey:List Ob)(t:LT)(s:FS):∀r,(s.Next (il ey t s r).1/\(il ey t s r).2=ln ey t r/\(ln ey t r).1≠14)\/(s.FO (il ey t s r).1/\(il ey t s r).2=(14,.dir 0))
 |[]=>.inl ⟨FS.Next.refl s,rfl,by simp[ln]⟩
 |n::r=>by
  rcases sR ey t s r with⟨hn,a,g⟩|⟨hf,a⟩
  ·have b:(il ey t s r).2.1=(ln ey t r).1:=by rw[a]
   have e2:(il ey t s r).2.2=(ln ey t r).2:=by rw[a]
   unfold il ln
   by_cases h0:(ln ey t r).1≠0
   ·simp only[b,ie h0]
    exact .inl ⟨hn,trivial,g⟩
   ·simp only[b,e2,fY h0]
    rcases sQ ey (il ey t s r).1 (ln ey t r).2 with⟨kn,d⟩|⟨h,d⟩
    ·have f:(pu ey (il ey t s r).1 (ln ey t r).2).2.1=(IH ey (ln ey t r).2).1:=by rw[d]
     have i:(pu ey (il ey t s r).1 (ln ey t r).2).2.2=(IH ey (ln ey t r).2).2:=by rw[d]
     rw[f,i]
     have hk:=sP ey (ln ey t r).2
     by_cases e:(IH ey (ln ey t r).2).1≠0
     ·rw[ie e,ie e];exact .inl ⟨hn.trans kn,rfl,hk⟩
     ·rw[fY e,fY e]
      cases hp:ip (IH ey (ln ey t r).2).2 n with
      |none=>exact .inl ⟨hn.trans kn,rfl,by simp⟩
      |some c=>exact .inl ⟨hn.trans kn,rfl,by simp⟩
    ·have f:(pu ey (il ey t s r).1 (ln ey t r).2).2.1=14:=by rw[d]
     rw[f,ie (by decide)]
     exact .inr ⟨hn.fail h,rfl⟩
  ·have b:(il ey t s r).2.1=14:=by rw[a]
   unfold il
   simp only[b]
   rw[ie (by decide)]
   exact .inr ⟨hf,rfl⟩
theorem Ic(ey:List Ob)(t:LT)(s:FS)(r:eL):(s.Next (lL ey t s r).1/\(lL ey t s r).2=QR ey t r/\(QR ey t r).1≠14)\/(s.FO (lL ey t s r).1/\(lL ey t s r).2=(14,[])):=by
 rcases sR ey t s r with⟨hn,a,d⟩|⟨hf,a⟩
 ·have b:(il ey t s r).2.1=(ln ey t r).1:=by rw[a]
  have e2:(il ey t s r).2.2=(ln ey t r).2:=by rw[a]
  unfold lL QR;by_cases h0:(ln ey t r).1≠0
  ·simp only[b,ie h0];exact .inl ⟨hn,trivial,d⟩
  ·simp only[b,e2,fY h0]
   rcases sQ ey (il ey t s r).1 (ln ey t r).2 with⟨kn,c⟩|⟨e,c⟩
   ·exact .inl ⟨hn.trans kn,c,sP _ _⟩
   ·exact .inr ⟨hn.fail e,c⟩
 ·have b:(il ey t s r).2.1=14:=by rw[a]
  unfold lL;simp only[b];rw[ie (by decide)];exact .inr ⟨hf,rfl⟩
theorem AW(ey:List Ob)(t:LT):∀r,((ln ey t r).1=0->t.at ey r.reverse=some (ln ey t r).2)/\((ln ey t r).1≠0->t.at ey r.reverse=none)
 |[]=>⟨fun _=>by rw[List.reverse_nil,mr];rfl,fun h=>absurd rfl h⟩
 |n::r=>by
  obtain⟨a,b⟩:=AW ey t r
  have d:t.at ey (n::r).reverse=(t.at ey r.reverse).bind fun c=>c.at ey [n]:=by rw[qh,kB]
  have h1:∀c:LT,c.at ey [n]=(kids ey c).bind fun es=>ip es n:=by
   intro c;rw[kh];cases kids ey c with
   |none=>rfl
   |some es=>
    simp only[qr];cases ip es n with
    |none=>rfl
    |some x=>simp only[qr];rw[mr]
  rw[d];unfold ln;by_cases h0:(ln ey t r).1≠0
  ·simp only[ie h0]
   rw[b h0];exact⟨fun h=>absurd h h0,fun _=>rfl⟩
  ·simp only[fY h0]
   rw[a (lD.1 h0),qr,h1];cases hd:(ln ey t r).2 with
   |file i=>simp[IH,kids]
   |held f=>simp[IH,kids]
   |own es=>
    simp only[IH,kids,qr];cases hp:ip es n<;>simp
   |dir id=>
    simp only[IH,kids,qr];cases hp:ip ((eZ ey id).map iF) n<;>simp
section
variable {α β:Type}
def jh (a b:eD):Int:=Lib.compareBytes a.data.toList b.data.toList
theorem iX(a:eD):jh a a=0:=sI _
theorem DG{a b:eD}(h:jh a b=0):a=b:=bytes_inj (kP _ _ h)
theorem PU(a b:eD):jh b a=- jh a b:=oy _ _
theorem oA{a b c:eD}(h:jh a b<0)(k:jh b c<0):jh a c<0:=mB _ _ _ h k
def eP (es:List (eD×α)):Prop:=es.Pairwise fun x y=>jh x.1 y.1<0
def pD (es:List (eD×α))(n:eD):Nat:=es.countP fun x=>decide (jh x.1 n<0)
def iv (es:List (eD×α))(n:eD):Bool:=((es[pD es n]?).map fun x=>decide (x.1=n)).getD false
def oB (es:List (eD×α))(n:eD):Option α:=(es.find? fun x=>decide (x.1=n)).map (·.2)
theorem Og(es:List (eD×α))(n:eD):pD es n<=es.length:=List.countP_le_length
theorem nP{x:eD×α}{r:List (eD×α)}(h:jh x.1 n<0):pD (x::r) n=pD r n+1:=by unfold pD;rw[List.countP_cons_of_pos (by simpa using h)]
theorem nQ{x:eD×α}{r:List (eD×α)}(hr:eP (x::r))(h:¬jh x.1 n<0):pD (x::r) n=0:=by
 unfold pD;rw[List.countP_eq_zero];intro y a;rcases gU.1 a with rfl|a
 ·simpa using h
 ·have h1:=(sj.1 hr).1 y a
  simp only[uP];exact fun h2=>h (oA h1 h2)
theorem eP.tail{x:eD×α}{r:List (eD×α)}(h:eP (x::r)):eP r:=(sj.1 h).2
theorem gX{x:eD×α}{r:List (eD×α)}(h:x.1=n):oB (x::r) n=some x.2:=by unfold oB;rw[Hi (by simpa using h)];rfl
theorem wd{x:eD×α}{r:List (eD×α)}(h:x.1≠n):oB (x::r) n=oB r n:=by unfold oB;rw[Hj (by simpa using h)]
theorem wM{es:List (eD×α)}(h:∀x∈es,x.1≠n):oB es n=none:=by
 unfold oB;rw[Td.2 (by intro x hx;simpa using h x hx)];rfl
theorem oC:∀{es:List (eD×α)} {n:eD},eP es->oB es n=if iv es n then(es[pD es n]?).map (·.2)else none
 |[],n,_=>by simp[oB,iv,pD]
 |x::r,n,h=>by
  by_cases hx:jh x.1 n<0
  ·have hne:x.1≠n:=fun e=>by rw[e,iX]at hx;omega
   have a:=oC (n:=n) h.tail
   rw[wd hne,a]
   unfold iv
   rw[nP hx]
   simp
  ·unfold iv
   rw[nQ h hx]
   simp only[List.getElem?_cons_zero,mq,qj]
   by_cases hn:x.1=n
   ·rw[gX hn];simp[hn]
   ·rw[wd hn,wM]
    ·simp[hn]
    ·intro y b e
     have h1:=(sj.1 h).1 y b
     rw[e]at h1
     exact hx h1
def sf (es:List (eD×α))(n:eD)(c:α):List (eD×α):=if iv es n then es.set (pD es n) (n,c)else es.take (pD es n)++(n,c)::es.drop (pD es n)
def np (es:List (eD×α))(n:eD):List (eD×α):=es.eraseIdx (pD es n)
theorem sU{x:eD×α}{r:List (eD×α)}(h:jh x.1 n<0):iv (x::r) n=iv r n:=by unfold iv;rw[nP h];rfl
theorem wN{x:eD×α}{r:List (eD×α)}{c:α}(h:jh x.1 n<0):sf (x::r) n c=x::sf r n c:=by
 unfold sf;rw[sU h,nP h];split<;>simp
theorem CV{x:eD×α}{r:List (eD×α)}(h:jh x.1 n<0):np (x::r) n=x::np r n:=by unfold np;rw[nP h];rfl
theorem sV{x:eD×α}{r:List (eD×α)}(hr:eP (x::r))(h:¬jh x.1 n<0):iv (x::r) n=decide (x.1=n):=by unfold iv;rw[nQ hr h];rfl
theorem wO{x:eD×α}{r:List (eD×α)}{c:α}(hr:eP (x::r))(h:¬jh x.1 n<0):sf (x::r) n c=if x.1=n then(n,c)::r else(n,c)::x::r:=by
 unfold sf;rw[sV hr h,nQ hr h];by_cases e:x.1=n<;>simp[e]
theorem CW{x:eD×α}{r:List (eD×α)}(hr:eP (x::r))(h:¬jh x.1 n<0):np (x::r) n=r:=by unfold np;rw[nQ hr h];rfl
theorem Ie:∀{es:List (eD×α)} {n:eD} {c:α},eP es->∀m,oB (sf es n c) m=if m=n then some c else oB es m
 |[],n,c,_,m=>by
  by_cases e:m=n
  ·subst e;simp[sf,iv,pD,oB]
  ·have:¬n=m:=fun h=>e h.symm
   simp[sf,iv,pD,oB,e,this]
 |x::r,n,c,h,m=>by
  by_cases hx:jh x.1 n<0
  ·have hne:x.1≠n:=fun e=>by rw[e,iX]at hx;omega
   rw[wN hx]
   by_cases hm:x.1=m
   ·rw[gX hm,gX hm,fY (fun e=>hne (hm.trans e))]
   ·rw[wd hm,wd hm];exact Ie h.tail m
  ·rw[wO h hx]
   by_cases hn:x.1=n
   ·rw[ie hn]
    by_cases hm:m=n
    ·rw[ie hm,gX hm.symm]
    ·rw[fY hm,wd (fun e=>hm e.symm),wd (fun e=>hm (e.symm.trans hn))]
   ·rw[fY hn]
    by_cases hm:m=n
    ·rw[ie hm,gX hm.symm]
    ·rw[fY hm,wd (fun e=>hm e.symm)]
theorem DI:∀{es:List (eD×α)} {n:eD},eP es->iv es n=true->∀m,oB (np es n) m=if m=n then none else oB es m
 |[],n,_,ht,m=>by simp[iv,pD]at ht
 |x::r,n,h,ht,m=>by
  by_cases hx:jh x.1 n<0
  ·have hne:x.1≠n:=fun e=>by rw[e,iX]at hx;omega
   rw[sU hx]at ht
   rw[CV hx]
   by_cases hm:x.1=m
   ·rw[gX hm,gX hm,fY (fun e=>hne (hm.trans e))]
   ·rw[wd hm,wd hm];exact DI h.tail ht m
  ·rw[sV h hx]at ht
   have hn:x.1=n:=by simpa using ht
   rw[CW h hx]
   by_cases hm:m=n
   ·rw[ie hm]
    refine wM fun y a e=>?_
    have h1:=(sj.1 h).1 y a
    rw[e,hm,hn,iX]at h1;omega
   ·rw[fY hm,wd (fun e=>hm (e.symm.trans hn))]
theorem TU:∀{es:List (eD×α)} {n:eD} {c:α} {y:eD×α},eP es->y∈sf es n c->y=(n,c)\/y∈es:=by
 intro es n c y h a;unfold sf at a;split at a
 ·exact(List.mem_or_eq_of_mem_set a).symm
 ·rw[sB,gU]at a
  rcases a with h1|h1|h1
  ·exact .inr (zP h1)
  ·exact .inl h1
  ·exact .inr (KN h1)
theorem sW:∀{es:List (eD×α)} {n:eD} {c:α},eP es->eP (sf es n c)
 |[],n,c,_=>by simp[sf,iv,pD,eP]
 |x::r,n,c,h=>by
  by_cases hx:jh x.1 n<0
  ·rw[wN hx]
   refine sj.2 ⟨fun y a=>?_,sW h.tail⟩
   rcases TU h.tail a with rfl|a
   ·exact hx
   ·exact(sj.1 h).1 y a
  ·rw[wO h hx]
   by_cases hn:x.1=n
   ·rw[ie hn]
    exact sj.2 ⟨fun y a=>by have:=(sj.1 h).1 y a;rw[hn]at this;exact this,h.tail⟩
   ·rw[fY hn]
    have ig:jh n x.1<0:=by
     have h1:=PU x.1 n;have h2:jh x.1 n≠0:=fun e=>hn (DG e);omega
    refine sj.2 ⟨fun y a=>?_,h⟩;rcases gU.1 a with rfl|a
    ·exact ig
    ·exact oA ig ((sj.1 h).1 y a)
theorem pI(es:List (eD×α))(n:eD)(c:α):(sf es n c).length=if iv es n then es.length else es.length+1:=by
 unfold sf
 have:=Og es n
 split<;>simp;omega
theorem qq{es:List (eD×α)}(h:iv es n=true):pD es n<es.length:=by
 unfold iv at h;by_cases hi:pD es n<es.length
 ·exact hi
 ·rw[oZ (by omega)]at h;simp at h
theorem wP{es:List (eD×α)}(h:iv es n=true):(np es n).length=es.length-1:=by
 unfold np;rw[List.length_eraseIdx_of_lt (qq h)]
def yh (f:eD×α->β)(es:List (eD×α)):List (eD×β):=es.map fun x=>(x.1,f x)
theorem AX(f:eD×α->β)(es:List (eD×α))(n:eD):pD (yh f es) n=pD es n:=by
 unfold pD yh;rw[List.countP_map];rfl
theorem AY(f:eD×α->β)(es:List (eD×α))(n:eD):iv (yh f es) n=iv es n:=by
 unfold iv;rw[AX];unfold yh;rw[WN];cases es[pD es n]?<;>rfl
theorem kT(f:eD×α->β){es:List (eD×α)}(h:eP es):eP (yh f es):=by
 unfold eP yh;rw[CO];exact h
theorem PV(f:eD×α->β)(es:List (eD×α))(n:eD):yh f (np es n)=np (yh f es) n:=by
 unfold np;rw[AX];unfold yh;simp[List.eraseIdx_eq_take_drop_succ,List.map_take,List.map_drop]
end
theorem Ln(es:Kids)(n:eD):ip es n=oB es n:=rfl
def zE:eN:=(⟨#[]⟩,0,0)
structure FT where
 root:Int
 od:eL->Option (List eN)
 of:eL->Option Nat
def upd {β:Type}(f:eL->β)(p:eL)(v:β):eL->β:=fun q=>if q=p then v else f q
theorem upd_same{β:Type}(f:eL->β)(p:eL)(v:β):upd f p v p=v:=by unfold upd;rw[ie rfl]
theorem hE{β:Type}{f:eL->β}(h:q≠p)(v:β):upd f p v q=f q:=by unfold upd;rw[fY h]
def kU (ey:List Ob)(ft:FT)(fs:FS)(p:eL)(e:eN):FS×Int×List eN:=
 if e.2.1≠2 then(fs,5,[]) else
 if e.2.2=0 then(fs,0,(ft.od p).getD []) else
 if(fs.gj e.2.2).2 then((fs.gj e.2.2).1,0,eZ ey e.2.2) else((fs.gj e.2.2).1,14,[])
def findF (ey:List Ob)(ft:FT)(fs:FS):eL->FS×Int×eN
 |[]=>(fs,0,(⟨#[]⟩,2,ft.root))
 |n::r=>
  let a:=findF ey ft fs r
  if a.2.1≠0 then(a.1,a.2.1,zE) else
  let b:=kU ey ft a.1 r.reverse a.2.2
  if b.2.1≠0 then(b.1,b.2.1,zE) else
  match oB b.2.2 n with
  |none=>(b.1,4,zE)
  |some c=>(b.1,0,(n,c))
def fe (ey:List Ob)(ft:FT)(fs:FS)(r:eL):FS×Int×List eN:=
 let a:=findF ey ft fs r
 if a.2.1≠0 then(a.1,a.2.1,[])else kU ey ft a.1 r.reverse a.2.2
theorem kE(ey:List Ob)(ft:FT)(fs:FS)(n:eD)(r:eL):findF ey ft fs (n::r) =
  if(fe ey ft fs r).2.1≠0 then((fe ey ft fs r).1,(fe ey ft fs r).2.1,zE) else
  match oB (fe ey ft fs r).2.2 n with
  |none=>((fe ey ft fs r).1,4,zE)
  |some c=>((fe ey ft fs r).1,0,(n,c)):=by
 unfold fe;rw[findF];by_cases h:(findF ey ft fs r).2.1≠0
 ·simp only[ie h]
 ·simp only[fY h]
def vu:Option LT->Option (List eN)
 |some (.own es)=>some (es.map mn)
 |_=>none
def Lp:Option LT->Option Nat
 |some (.held f)=>some f
 |_=>none
structure Flat (ey:List Ob)(t:LT)(ft:FT):Prop where
 kind:t.kind=2
 root:ft.root=t.id
 od:∀p,ft.od p=vu (t.at ey p)
 of:∀p,ft.of p=Lp (t.at ey p)
def PQ (s:eD):List UInt8:=s.data.toList
theorem gy{a b:eD}(h:PQ a=PQ b):a=b:=bytes_inj h
theorem pm(s:eD):(PQ s).length=s.size:=ng
theorem gF(s:eD):s.toList=PQ s:=by simp only[xO];rfl
def iw:List (List UInt8)->List UInt8
 |[]=>[]
 |[x]=>x
 |x::y::r=>x++47::iw (y::r)
def pk:List UInt8->List (List UInt8)
 |[]=>[[]]
 |c::r=>if c=47 then []::pk r else((c::(pk r).headD [])::(pk r).tail)
theorem mH(s:List UInt8):pk s≠[]:=by
 cases s with
 |nil=>simp[pk]
 |cons c r=>simp only[pk];split<;>simp
theorem wQ:∀(a b:List UInt8),(∀c∈a,c≠47)->pk (a++47::b)=a::pk b
 |[],b,_=>by simp[pk]
 |c::r,b,h=>by
  have hc:c≠47:=h c (jS ..)
  have e:=wQ r b (fun d hd=>h d (pn _ hd))
  simp only[uQ,pk]
  rw[fY hc,e];rfl
theorem za:∀(a:List UInt8),(∀c∈a,c≠47)->pk a=[a]
 |[],_=>rfl
 |c::r,h=>by
  have hc:c≠47:=h c (jS ..)
  have b:=za r (fun d hd=>h d (pn _ hd))
  simp only[pk]
  rw[fY hc,b];rfl
theorem pJ:∀(l:List (List UInt8)),l≠[]->(∀x∈l,∀c∈x,c≠47)->pk (iw l)=l
 |[],h,_=>absurd rfl h
 |[x],_,h=>by simp only[iw];exact za x (h x (jS ..))
 |x::y::r,_,h=>by
  simp only[iw]
  rw[wQ x _ (h x (jS ..)),pJ (y::r) (by simp) (fun z a=>h z (pn _ a))]
theorem oG(x:List UInt8){r:List (List UInt8)}(h:r≠[]):iw (x::r)=x++47::iw r:=by
 cases r with
 |nil=>exact absurd rfl h
 |cons y t=>rfl
theorem Lr(c:UInt8)(x:List UInt8)(r:List (List UInt8)):iw ((c::x)::r)=c::iw (x::r):=by
 cases r with
 |nil=>rfl
 |cons y t=>rfl
theorem sX:∀(s:List UInt8),iw (pk s)=s
 |[]=>rfl
 |c::r=>by
  have a:=sX r
  simp only[pk]
  split
  ·next hc=>rw[oG _ (mH r),a,hc];rfl
  ·rw[Lr]
   congr 1
   cases hs:pk r with
   |nil=>exact absurd hs (mH r)
   |cons y t=>rw[hs]at a;exact a
theorem vv(x:List UInt8):∀(l:List (List UInt8)),l≠[]->iw (l++[x])=iw l++47::x
 |[],h=>absurd rfl h
 |[y],_=>rfl
 |y::z::r,_=>by
  have a:=vv x (z::r) (by simp)
  show y++47::iw (z::r++[x])=(y++47::iw (z::r))++47::x
  rw[a];simp
theorem oH(a b:eD):PQ (a++b)=PQ a++PQ b:=by
 unfold PQ;simp
def eH (l:eL):Prop:=∀x∈l,eG x=true
theorem eH.append{a b:eL}(c:eH a)(d:eH b):eH (a++b):=fun x hx=>(sB.1 hx).elim (c x) (d x)
theorem eH.left{a b:eL}(h:eH (a++b)):eH a:=fun x hx=>h x (List.mem_append_left _ hx)
theorem eH.right{a b:eL}(h:eH (a++b)):eH b:=fun x hx=>h x (WR _ hx)
theorem eH.take{a:eL}(h:eH a)(k:Nat):eH (a.take k):=fun x hx=>h x (zP hx)
theorem yj(ey:List Ob)(f:Kids->Kids):∀(p:eL) (t d:LT) (ks:Kids),t.at ey p=some d->kids ey d=some ks->
  (∀n r,(rb ey f p t).at ey (p++n::r)=(ip (f ks) n).bind fun c=>c.at ey r)/\(rb ey f p t).at ey p=some (.own (f ks))
 |[],t,d,ks,a,hk=>by
  rw[mr]at a;cases a
  refine⟨fun n r=>?_,?_⟩
  ·rw[zR,kh,DF,hk];rfl
  ·rw[mr,rb,hk];rfl
 |m::p,t,d,ks,a,hk=>by
  rw[kh]at a
  cases b:kids ey t with
  |none=>rw[b]at a;simp at a
  |some es=>
   rw[b,qr]at a
   cases hc:ip es m with
   |none=>rw[hc]at a;simp at a
   |some c=>
    rw[hc,qr]at a
    obtain⟨e,g⟩:=yj ey f p c d ks a hk
    refine⟨fun n r=>?_,?_⟩
    ·rw[uQ,kh,oa,b,qj,qr,nu,ie rfl,hc,mq,qr]
     exact e n r
    ·rw[kh,oa,b,qj,qr,nu,ie rfl,hc,mq,qr]
     exact g
theorem mI(ey:List Ob)(f:Kids->Kids):∀(q:eL) (m:eD) (r:eL) (t d:LT),t.at ey (q++m::r)=some d->
  ∃e g,t.at ey q=some e/\kids ey e=some g/\(rb ey f (q++m::r) t).at ey q=some (.own (g.map fun x=>if x.1=m then(x.1,rb ey f r x.2)else x))
 |[],m,r,t,d,a=>by
  rw[zR,kh]at a
  cases b:kids ey t with
  |none=>rw[b]at a;simp at a
  |some es=>exact⟨t,es,mr _ _,b,by rw[mr,zR,rb,b];rfl⟩
 |n::q,m,r,t,d,a=>by
  rw[uQ,kh]at a
  cases b:kids ey t with
  |none=>rw[b]at a;simp at a
  |some es=>
   rw[b,qr]at a
   cases hc:ip es n with
   |none=>rw[hc]at a;simp at a
   |some c=>
    rw[hc,qr]at a
    obtain⟨e,g,h1,h2,h3⟩:=mI ey f q m r c d a
    refine⟨e,g,?_,h2,?_⟩
    ·rw[kh,b,qr,hc,qr];exact h1
    ·rw[uQ,kh,oa,b,qj,qr,nu,ie rfl,hc,mq,qr]
     exact h3
theorem jC(ey:List Ob)(f:Kids->Kids):∀(p q:eL) (t d:LT),t.at ey p=some d->¬q <+: p->¬p <+: q->(rb ey f p t).at ey q=t.at ey q
 |[],q,t,d,a,h1,h2=>absurd (List.nil_prefix) h2
 |m::p,[],t,d,a,h1,h2=>absurd (List.nil_prefix) h1
 |m::p,n::q,t,d,a,h1,h2=>by
  rw[kh]at a
  cases b:kids ey t with
  |none=>rw[b]at a;simp at a
  |some es=>
   rw[b,qr]at a
   rw[kh,kh,oa,b,qj,qr,qr,nu]
   by_cases hn:n=m
   ·subst hn
    rw[ie rfl]
    cases hc:ip es n with
    |none=>rfl
    |some c=>
     rw[hc,qr]at a
     rw[mq,qr,qr]
     exact jC ey f p q c d a (fun h=>h1 (KP.2 ⟨rfl,h⟩)) (fun h=>h2 (KP.2 ⟨rfl,h⟩))
   ·rw[fY hn]
def Sound (ey:List Ob):Prop:=(∀id,0<=fB ey id)/\∀id,eM ey id=2->eP (eZ ey id)/\(eZ ey id).length<=16/\∀e∈eZ ey id,eG e.1=true/\(e.2.1=1\/e.2.1=2)/\eM ey e.2.2=e.2.1/\fB ey e.2.2+1<=fB ey id
def eU (ey:List Ob):Nat->LT->Prop
 |_,.file id=>eM ey id=1
 |_,.held _=>True
 |n,.dir id=>eM ey id=2/\fB ey id<=n
 |0,.own es=>es=[]
 |n+1,.own es=>eP es/\es.length<=16/\∀x∈es,eG x.1=true/\eU ey n x.2
theorem lj(hS:Sound ey){n:Nat}{t:LT}(h:eU ey n t){ks:Kids}(hk:kids ey t=some ks):eP ks/\ks.length<=16/\∀x∈ks,eG x.1=true/\∃m,n=m+1/\eU ey m x.2:=by
 cases t with
 |file i=>simp[kids]at hk
 |held f=>simp[kids]at hk
 |own es=>
  simp only[kids,mZ]at hk;subst hk;cases n with
  |zero=>rw[eU]at h;subst h;exact⟨List.Pairwise.nil,by simp,by simp⟩
  |succ m=>rw[eU]at h;exact⟨h.1,h.2.1,fun x hx=>⟨(h.2.2 x hx).1,m,rfl,(h.2.2 x hx).2⟩⟩
 |dir id=>
  have hk2:(eZ ey id).map iF=ks:=by simpa [kids]using hk
  subst hk2;have h':eM ey id=2/\fB ey id<=n:=by cases n<;>simpa [eU]using h
  obtain⟨b,c,d⟩:=hS.2 id h'.1;refine⟨?_,by simpa using c,fun x hx=>?_⟩
  ·unfold eP;rw[CO];exact b
  ·obtain⟨e,g,rfl⟩:=ij.1 hx
   obtain⟨v,j,a,k⟩:=d e g;have h0:=hS.1 e.2.2;refine⟨v,n-1,by omega,?_⟩;show eU ey (n-1) (ltOf e);unfold ltOf;by_cases h2:e.2.1=2
   ·rw[ie h2]
    have:eM ey e.2.2=2/\fB ey e.2.2<=((n-1:Nat):Int):=⟨a.trans h2,by omega⟩
    cases hn:n-1<;>(rw[hn]at this;simpa [eU]using this)
   ·rw[fY h2]
    have:eM ey e.2.2=1:=a.trans (by omega)
    cases hn:n-1<;>simpa [eU]using this
theorem oI{ks:Kids}{c:LT}(h:ip ks n=some c):(n,c)∈ks:=by
 unfold ip at h;cases hf:ks.find? (fun x=>decide (x.1=n)) with
 |none=>rw[hf]at h;simp at h
 |some x=>
  rw[hf]at h;simp only[mq,mZ]at h;have h1:=Pq hf;have h2:=EU hf;simp only[uP]at h1;rw[<-h1,<-h];exact h2
theorem py(hS:Sound ey):∀(p:eL) {n:Nat} {t c:LT},eU ey n t->t.at ey p=some c->p.length<=n/\eU ey (n-p.length) c/\eH p
 |[],n,t,c,h,a=>by rw[mr]at a;cases a;exact⟨by simp,by simpa using h,fun x hx=>by simp at hx⟩
 |m::p,n,t,c,h,a=>by
  rw[kh]at a
  cases b:kids ey t with
  |none=>rw[b]at a;simp at a
  |some ks=>
   rw[b,qr]at a
   cases hc:ip ks m with
   |none=>rw[hc]at a;simp at a
   |some x=>
    rw[hc,qr]at a
    obtain⟨_,_,h3⟩:=lj hS h b
    obtain⟨hv,k,rfl,hx⟩:=h3 _ (oI hc)
    obtain⟨g,e,f⟩:=py hS p hx a
    refine⟨by simp;omega,?_,fun y d=>?_⟩
    ·rw[jA,show k+1-(p.length+1)=k-p.length by omega];exact e
    ·rcases gU.1 d with rfl|d
     ·exact hv
     ·exact f y d
theorem FP{id k:Int}(h:eM ey id=k)(hk:k≠0):1<=id:=by
 unfold eM at h;by_cases h1:1<=id
 ·exact h1
 ·rw[fY h1]at h;exact absurd h.symm hk
theorem PW(h:∀e∈es,e.2.1=1\/e.2.1=2):(es.map iF).map mn=es:=by
 rw[Fg];conv=>rhs;rw[<-List.map_id es]
 refine Pp fun e b=>?_;show mn (iF e)=id e;unfold mn iF ltOf;obtain⟨a,k,i⟩:=e;rcases h _ b with h|h
 ·simp only at h;subst h;rfl
 ·simp only at h;subst h;rfl
theorem Ig(ks:Kids)(n:eD):oB (ks.map mn) n=(ip ks n).map fun c=>(c.kind,c.id):=by
 unfold oB ip;rw[List.find?_map];show((ks.find? _).map mn).map _=_;rw[Tk,Tk];rfl
theorem uk{t c:LT}{ft:FT}(hS:Sound ey)(hF:Flat ey t ft){n:Nat}(hc:eU ey n c)(b:t.at ey p=some c)(fs:FS)(nm:eD):
  kU ey ft fs p (nm,c.kind,c.id)=((pu ey fs c).1,(pu ey fs c).2.1,(pu ey fs c).2.2.map mn):=by
 unfold kU;cases c with
 |file i=>rfl
 |held f=>rfl
 |own es=>
  have a:=hF.od p;rw[b]at a;simp only[LT.kind,LT.id,a];rfl
 |dir id=>
  have h':eM ey id=2:=by cases n<;>simp[eU]at hc<;>exact hc.1
  have h1:=FP h' (by decide);have d:=PW (fun e g=>((hS.2 id h').2.2 e g).2.1);rw[fY (show ¬((nm,(LT.dir id).kind,(LT.dir id).id):eN).2.1≠2 from fun h=>h rfl),fY (show ¬((nm,(LT.dir id).kind,(LT.dir id).id):eN).2.2=0 from by show ¬id=0;omega)];show(if(fs.gj id).2=true then _ else _)=_;have j:pu ey fs (.dir id)=if(fs.gj id).2 then((fs.gj id).1,0,(eZ ey id).map iF) else((fs.gj id).1,14,[]):=rfl;rw[j];by_cases hg:(fs.gj id).2=true
  ·rw[ie hg,ie hg];simp only[d];rfl
  ·rw[fY hg,fY hg];rfl
theorem qs{t:LT}{ft:FT}(hS:Sound ey)(hF:Flat ey t ft){n:Nat}(c:eU ey n t)(fs:FS):∀r:eL,
  (findF ey ft fs r).1=(il ey t fs r).1/\(findF ey ft fs r).2.1=(il ey t fs r).2.1/\
  ((il ey t fs r).2.1=0->(findF ey ft fs r).2.2=(r.headD hZ,(il ey t fs r).2.2.kind,(il ey t fs r).2.2.id)/\t.at ey r.reverse=some (il ey t fs r).2.2)
 |[]=>⟨rfl,rfl,fun _=>⟨by show(_,(2:Int),ft.root)=_;rw[hF.root,<-hF.kind];rfl,mr _ _⟩⟩
 |m::r=>by
  obtain⟨d,e,g⟩:=qs hS hF c fs r
  rw[findF,il]
  simp only[d,e]
  by_cases h0:(il ey t fs r).2.1≠0
  ·simp only[ie h0]
   exact⟨trivial,trivial,fun h=>absurd h h0⟩
  ·simp only[fY h0]
   obtain⟨j,b⟩:=g (lD.1 h0)
   have hc:=(py hS _ c b).2.1
   have k:=uk hS hF hc b (il ey t fs r).1 (r.headD hZ)
   rw[j,k]
   simp only
   by_cases a:(pu ey (il ey t fs r).1 (il ey t fs r).2.2).2.1≠0
   ·rw[ie a,ie a]
    exact⟨rfl,rfl,fun h=>absurd h a⟩
   ·rw[fY a,fY a,Ig]
    have l:(kids ey (il ey t fs r).2.2)=some (pu ey (il ey t fs r).1 (il ey t fs r).2.2).2.2:=by
     generalize (il ey t fs r).2.2=x at a ⊢;generalize (il ey t fs r).1=y at a ⊢;cases x with
     |file i=>simp[pu]at a
     |held f=>simp[pu]at a
     |own es=>rfl
     |dir id=>
      simp only[pu]at a ⊢;by_cases hg:(y.gj id).2=true
      ·rw[ie hg];rfl
      ·rw[fY hg]at a;simp at a
    cases hp:ip (pu ey (il ey t fs r).1 (il ey t fs r).2.2).2.2 m with
    |none=>exact⟨rfl,rfl,fun h=>by simp at h⟩
    |some x=>
     refine⟨rfl,rfl,fun _=>⟨rfl,?_⟩⟩;rw[qh,kB,b,qr,kh,l,qr,hp,qr,mr]
theorem kV{t:LT}{ft:FT}(hS:Sound ey)(hF:Flat ey t ft){n:Nat}(a:eU ey n t)(fs:FS)(r:eL):
  fe ey ft fs r=((lL ey t fs r).1,(lL ey t fs r).2.1,(lL ey t fs r).2.2.map mn):=by
 obtain⟨c,d,e⟩:=qs hS hF a fs r;unfold fe lL;simp only[c,d];by_cases h0:(il ey t fs r).2.1≠0
 ·simp only[ie h0];rfl
 ·simp only[fY h0]
  obtain⟨f,b⟩:=e (lD.1 h0);have hc:=(py hS _ a b).2.1;rw[f,uk hS hF hc b (il ey t fs r).1 (r.headD hZ)]
def jc (es:List eN)(n:eD):List eN:=es.map fun e=>if e.1=n then(e.1,e.2.1,0)else e
def oX (ey:List Ob)(fs:FS)(ft:FT):eL->FT
 |[]=>if(ft.od []).isSome then ft else { ft with od:=upd ft.od [] (some (fe ey ft fs []).2.2),root:=0 }
 |n::r=>
  if(ft.od (n::r).reverse).isSome then ft else
  let a:=oX ey fs { ft with od:=upd ft.od (n::r).reverse (some (fe ey ft fs (n::r)).2.2) } r
  { a with od:=upd a.od r.reverse (some (jc ((a.od r.reverse).getD []) n)) }
theorem vw(ey:List Ob)(fs:FS){ft kG:FT}(hr:kG.root=ft.root):∀r:eL,(∀x,x <+: r.reverse->kG.od x=ft.od x)->findF ey kG fs r=findF ey ft fs r/\fe ey kG fs r=fe ey ft fs r
 |[],h=>by
  have hf:findF ey kG fs []=findF ey ft fs []:=by rw[findF,findF,hr]
  refine⟨hf,?_⟩
  unfold fe
  rw[hf]
  unfold kU
  rw[show kG.od ([]:eL).reverse=ft.od ([]:eL).reverse from h _ (oU _)]
 |n::r,h=>by
  have hp:∀x,x <+: r.reverse->kG.od x=ft.od x:=fun x hx=>h x (hx.trans (by rw[qh];exact nG _ _))
  obtain⟨_,a⟩:=vw ey fs hr r hp
  have hf:findF ey kG fs (n::r)=findF ey ft fs (n::r):=by rw[kE,kE,a]
  refine⟨hf,?_⟩
  unfold fe
  rw[hf]
  unfold kU
  rw[show kG.od (n::r).reverse=ft.od (n::r).reverse from h _ (oU _)]
structure gm (ey:List Ob)(fs:FS)(ft:FT)(K:eL->List eN)(p:eL):Prop where
 look:∀q,q <+: p->fe ey ft fs q.reverse=(fs,0,K q)
 own:∀q,q <+: p->∀es,ft.od q=some es->es=K q
 up:∀q m,(q++[m]) <+: p->(ft.od (q++[m])).isSome=true->(ft.od q).isSome=true/\jc (K q) m=K q
 root:(ft.od []).isSome=true->ft.root=0
def zK (K:eL->List eN)(p x:eL):List eN:=match p[x.length]? with
 |some m=>jc (K x) m
 |none=>K x
theorem sY{α:Type}{x p:List α}{n:α}(h:x <+: p++[n]):x <+: p\/x=p++[n]:=by
 rw[List.prefix_concat_iff]at h;rcases h with h|h
 ·exact .inr h
 ·exact .inl h
theorem kH{α:Type}{x p:List α}(h:x <+: p)(hne:x≠p):∃m,p[x.length]?=some m/\(x++[m]) <+: p:=by
 obtain⟨t,rfl⟩:=h;cases t with
 |nil=>simp at hne
 |cons m r=>exact⟨m,by simp,⟨r,by simp⟩⟩
theorem vz{fs:FS}{ft:FT}:∀{r:eL},gm ey fs ft K r.reverse->(ft.od r.reverse).isSome=true->ft.root=0/\∀x,x <+: r.reverse->ft.od x=some (zK K r.reverse x)
 |[],h,ho=>by
  refine⟨h.root ho,fun x hx=>?_⟩
  have:x=[]:=by simpa using hx
  subst this
  obtain⟨es,a⟩:=WM.1 ho
  have:=h.own [] (oU _) es a
  show ft.od ([]:eL).reverse=_
  rw[a,this];rfl
 |n::r,h,ho=>by
  rw[qh]at h ho ⊢
  obtain⟨hu,c⟩:=h.up r.reverse n (oU _) ho
  have qd:∀x,x <+: r.reverse->x <+: r.reverse++[n]:=fun x hx=>hx.trans (nG _ _)
  have h':gm ey fs ft K r.reverse:=⟨fun q hq=>h.look q (qd q hq),fun q hq=>h.own q (qd q hq),fun q m hq=>h.up q m (qd _ hq),h.root⟩
  obtain⟨d,e⟩:=vz h' hu
  refine⟨d,fun x hx=>?_⟩
  rcases sY hx with hx|rfl
  ·rw[e x hx]
   by_cases b:x=r.reverse
   ·subst b
    have f:zK K r.reverse r.reverse=K r.reverse:=by unfold zK;rw[oZ (kx _)]
    have e2:zK K (r.reverse++[n]) r.reverse=jc (K r.reverse) n:=by unfold zK;rw[CJ (kx _)];simp
    rw[f,e2,c]
   ·obtain⟨m,hm,_⟩:=kH hx b
    have g:x.length<r.reverse.length:=(wj.1 hm).1
    unfold zK
    rw[qX g,hm]
  ·obtain⟨es,a⟩:=WM.1 ho
   have:=h.own _ (oU _) es a
   rw[a,this]
   unfold zK
   rw[oZ (by simp)]
theorem vA{fs:FS}:∀{r:eL} {ft:FT},gm ey fs ft K r.reverse->
  (oX ey fs ft r).root=0/\(oX ey fs ft r).of=ft.of/\∀x,(oX ey fs ft r).od x=if x <+: r.reverse then some (zK K r.reverse x)else ft.od x
 |[],ft,h=>by
  rw[oX]
  by_cases ho:(ft.od []).isSome=true
  ·rw[ie ho]
   obtain⟨h1,h2⟩:=vz (r:=[]) h ho
   refine⟨h1,rfl,fun x=>?_⟩
   split
   ·next hx=>exact h2 x hx
   ·rfl
  ·rw[fY ho]
   refine⟨rfl,rfl,fun x=>?_⟩
   have hl:=h.look [] (oU _)
   show upd ft.od [] _ x=_
   by_cases hx:x=[]
   ·subst hx
    rw[upd_same,ie (by simp),show fe ey ft fs []=(fs,0,K [])from hl];rfl
   ·rw[hE hx,fY (by simpa using hx)]
 |n::r,ft,h=>by
  rw[oX]
  by_cases ho:(ft.od (n::r).reverse).isSome=true
  ·rw[ie ho]
   obtain⟨h1,h2⟩:=vz (r:=n::r) h ho
   refine⟨h1,rfl,fun x=>?_⟩
   split
   ·next hx=>exact h2 x hx
   ·rfl
  ·rw[fY ho]
   have g:(n::r).reverse=r.reverse++[n]:=qh
   rw[g]at h ⊢
   have hl:=h.look (r.reverse++[n]) (oU _)
   rw[List.reverse_append,pY]at hl
   have i:fe ey ft fs (n::r)=(fs,0,K (r.reverse++[n])):=hl
   rw[i]
   have qd:∀x,x <+: r.reverse->x <+: r.reverse++[n]:=fun x hx=>hx.trans (nG _ _)
   have hne:∀x,x <+: r.reverse->x≠r.reverse++[n]:=fun x hx e=>by
    have:=hx.length_le
    rw[e]at this;simp at this;omega
   have h':gm ey fs { ft with od:=upd ft.od (r.reverse++[n]) (some (fs,(0:Int),K (r.reverse++[n])).2.2) } K r.reverse:=by
    refine⟨fun q hq=>?_,fun q hq es j=>?_,fun q m hq hs=>?_,fun hs=>?_⟩
    ·rw[(vw ey fs (ft:=ft) (kG:={ ft with od:=upd ft.od (r.reverse++[n]) (some (fs,(0:Int),K (r.reverse++[n])).2.2) }) rfl q.reverse (fun x hx=>hE (hne x (by rw[pY]at hx;exact hx.trans hq)) _)).2]
     exact h.look q (qd q hq)
    ·exact h.own q (qd q hq) es ((hE (f:=ft.od) (hne q hq) (some (K (r.reverse++[n])))).symm.trans j)
    ·have b:=hE (f:=ft.od) (hne _ hq) (some (K (r.reverse++[n])))
     have k:q <+: r.reverse:=(nG q [m]).trans hq;have e2:=hE (f:=ft.od) (hne _ k) (some (K (r.reverse++[n])));show(upd ft.od _ _ q).isSome=true/\_;rw[e2];exact h.up q m (qd _ hq) (by rw[<-b];exact hs)
    ·exact h.root (by rw[<-hE (f:=ft.od) (hne [] (by simp)) (some (K (r.reverse++[n])))];exact hs)
   obtain⟨l,o,d⟩:=vA h';refine⟨l,o,fun x=>?_⟩;show upd (oX ey fs _ r).od r.reverse _ x=_;rw[d r.reverse,ie (oU _)];have b:zK K r.reverse r.reverse=K r.reverse:=by unfold zK;rw[oZ (kx _)]
   rw[b];by_cases hx:x=r.reverse
   ·subst hx
    rw[upd_same,ie (nG _ _)];have e2:zK K (r.reverse++[n]) r.reverse=jc (K r.reverse) n:=by unfold zK;rw[CJ (kx _)];simp
    rw[e2];rfl
   ·rw[hE hx,d]
    by_cases a:x <+: r.reverse
    ·rw[ie a,ie (qd x a)]
     obtain⟨m,hm,_⟩:=kH a hx;have p:x.length<r.reverse.length:=(wj.1 hm).1;unfold zK;rw[qX p,hm]
    ·rw[fY a]
     show upd ft.od _ _ x=_;by_cases c:x=r.reverse++[n]
     ·subst c
      rw[upd_same,ie (oU _)];unfold zK;rw[oZ (by simp)]
     ·rw[hE c,fY]
      intro s;rcases sY s with h3|h3
      ·exact a h3
      ·exact c h3
def fO (ey:List Ob)(t:LT)(fs:FS)(p:eL):Prop:=∀x id,x <+: p->t.at ey x=some (.dir id)->fs.kD id=true
theorem fO.mono{t:LT}{fs fs':FS}(h:fO ey t fs p)(hk:∀x,fs.kD x=true->fs'.kD x=true):fO ey t fs' p:=fun x id hx a=>hk _ (h x id hx a)
theorem fO.pre{t:LT}{fs:FS}(h:fO ey t fs p)(hq:q <+: p):fO ey t fs q:=fun x id hx a=>h x id (hx.trans hq) a
theorem AZ{fs:FS}{c:LT}{ks:Kids}(hk:kids ey c=some ks)(h:∀id,c=.dir id->fs.kD id=true):pu ey fs c=(fs,0,ks):=by
 cases c with
 |file i=>simp[kids]at hk
 |held f=>simp[kids]at hk
 |own es=>simp only[kids,mZ]at hk;subst hk;rfl
 |dir id=>
  have h1:fs.gj id=(fs,true):=by unfold FS.gj;rw[ie (h id rfl)]
  simp only[kids,mZ]at hk;subst hk;have a:pu ey fs (.dir id)=if(fs.gj id).2 then((fs.gj id).1,0,(eZ ey id).map iF) else((fs.gj id).1,14,[]):=rfl;rw[a,h1];rfl
theorem um{t:LT}{c:LT}(h:t.at ey (q++[n])=some c):∃d ks,t.at ey q=some d/\kids ey d=some ks/\ip ks n=some c:=by
 rw[kB]at h;cases hd:t.at ey q with
 |none=>rw[hd]at h;simp at h
 |some d=>
  rw[hd,qr,kh]at h;cases hk:kids ey d with
  |none=>rw[hk]at h;simp at h
  |some ks=>
   rw[hk,qr]at h;cases hp:ip ks n with
   |none=>rw[hp]at h;simp at h
   |some x=>rw[hp,qr,mr]at h;cases h;exact⟨d,ks,rfl,hk,hp⟩
theorem DJ{t:LT}{fs:FS}:∀{r:eL} {c:LT},t.at ey r.reverse=some c->(∀x id,x <+: r.reverse->x≠r.reverse->t.at ey x=some (.dir id)->fs.kD id=true)->il ey t fs r=(fs,0,c)
 |[],c,a,hk=>by rw[List.reverse_nil,mr]at a;cases a;rfl
 |n::r,c,a,hk=>by
  rw[qh]at a hk
  obtain⟨d,ks,h1,h2,h3⟩:=um a
  have hne:∀x,x <+: r.reverse->x≠r.reverse++[n]:=fun x hx e=>by
   have:=hx.length_le
   rw[e]at this;simp at this;omega
  have b:=DJ h1 (fun x id hx g f=>hk x id (hx.trans (nG _ _)) (hne x hx) f)
  rw[il]
  simp only[b]
  rw[fY (by decide),AZ h2 (fun id hd=>hk r.reverse id (nG _ _) (hne _ (oU _)) (by rw[h1,hd]))]
  simp only
  rw[fY (by decide),h3]
theorem DK{t:LT}{fs:FS}{r:eL}{c:LT}{ks:Kids}(a:t.at ey r.reverse=some c)(hk:kids ey c=some ks)(h:fO ey t fs r.reverse):lL ey t fs r=(fs,0,ks):=by
 unfold lL;simp only[DJ a (fun x id hx _ b=>h x id hx b)];rw[fY (by decide)];exact AZ hk (fun id hd=>h _ id (oU _) (by rw[a,hd]))
theorem vB{fs:FS}{c:LT}(h:(pu ey fs c).2.1=0):kids ey c=some (pu ey fs c).2.2/\fs.Next (pu ey fs c).1/\∀id,c=.dir id->(pu ey fs c).1.kD id=true:=by
 cases c with
 |file i=>simp[pu]at h
 |held f=>simp[pu]at h
 |own es=>exact⟨rfl,FS.Next.refl _,fun id hd=>by cases hd⟩
 |dir id=>
  have a:pu ey fs (.dir id)=if(fs.gj id).2 then((fs.gj id).1,0,(eZ ey id).map iF) else((fs.gj id).1,14,[]):=rfl;rw[a]at h ⊢;rcases fs.AV id with⟨h1,h2,h3⟩|⟨h1,_⟩
  ·rw[ie h1]
   exact⟨rfl,h2,fun b hd=>by cases hd;exact h3⟩
  ·rw[h1]at h;simp at h
theorem rz{t:LT}{fs:FS}:∀{r:eL},(il ey t fs r).2.1=0->t.at ey r.reverse=some (il ey t fs r).2.2/\fs.Next (il ey t fs r).1/\∀x id,x <+: r.reverse->x≠r.reverse->t.at ey x=some (.dir id)->(il ey t fs r).1.kD id=true
 |[],_=>⟨mr _ _,FS.Next.refl _,fun x id hx a=>absurd (by simpa using hx) a⟩
 |n::r,h=>by
  rw[il]at h ⊢
  by_cases h0:(il ey t fs r).2.1≠0
  ·simp only[ie h0]at h;exact absurd h h0
  ·simp only[fY h0]at h ⊢
   obtain⟨e,i,j⟩:=rz (lD.1 h0)
   by_cases b:(pu ey (il ey t fs r).1 (il ey t fs r).2.2).2.1≠0
   ·rw[ie b]at h;exact absurd h b
   ·rw[fY b]at h ⊢
    obtain⟨k,f,l⟩:=vB (lD.1 b)
    cases hp:ip (pu ey (il ey t fs r).1 (il ey t fs r).2.2).2.2 n with
    |none=>rw[hp]at h;simp at h
    |some c=>
     rw[hp]at h
     simp only
     refine⟨?_,i.trans f,fun x id hx a d=>?_⟩
     ·rw[qh,kB,e,qr,kh,k,qr,hp,qr,mr]
     ·rw[qh]at hx a
      rcases sY hx with hx|hx
      ·by_cases g:x=r.reverse
       ·subst g
        rw[e]at d
        exact l id (zQ d)
       ·exact f.2.2.2.2 id (j x id hx g d)
      ·exact absurd hx a
theorem nR{t:LT}{fs:FS}{r:eL}(h:(lL ey t fs r).2.1=0):
  (∃d,t.at ey r.reverse=some d/\kids ey d=some (lL ey t fs r).2.2)/\fs.Next (lL ey t fs r).1/\fO ey t (lL ey t fs r).1 r.reverse:=by
 unfold lL at h ⊢;by_cases h0:(il ey t fs r).2.1≠0
 ·simp only[ie h0]at h;exact absurd h h0
 ·simp only[fY h0]at h ⊢
  obtain⟨b,f,g⟩:=rz (lD.1 h0);obtain⟨i,c,j⟩:=vB h;refine⟨⟨_,b,i⟩,f.trans c,fun x id hx a=>?_⟩;by_cases e:x=r.reverse
  ·subst e
   rw[b]at a;exact j id (zQ a)
  ·exact c.2.2.2.2 id (g x id hx e a)
def lX (ey:List Ob)(t:LT)(q:eL):List eN:=(((t.at ey q).bind (kids ey)).getD []).map mn
theorem PX(h:∀e∈es,e.1=n->e.2.2=0):jc es n=es:=by
 unfold jc;conv=>rhs;rw[<-List.map_id es]
 refine Pp fun e d=>?_;show(if e.1=n then _ else _)=e;split
 ·next hn=>have:=h e d hn;obtain⟨a,b,c⟩:=e;simp only at this;subst this;rfl
 ·rfl
theorem kW{ks:Kids}(hr:eP ks){c:LT}(hp:ip ks n=some c){x:eD×LT}(hx:x∈ks)(hn:x.1=n):x.2=c:=by
 induction ks with
 |nil=>simp at hx
 |cons y r b=>
  unfold ip at hp;by_cases a:y.1=n
  ·rw[Hi (by simpa using a)]at hp
   rcases gU.1 hx with rfl|hx
   ·simpa using hp
   ·have:=(sj.1 hr).1 x hx
    rw[a,hn,iX]at this;omega
  ·rw[Hj (by simpa using a)]at hp
   rcases gU.1 hx with rfl|hx
   ·exact absurd hn a
   ·exact b hr.tail hp hx
theorem Hk{t:LT}{ft:FT}{fs:FS}(hS:Sound ey)(hF:Flat ey t ft){n:Nat}(h:eU ey n t){d:LT}{ks:Kids}(a:t.at ey p=some d)(hk:kids ey d=some ks)(hw:fO ey t fs p):gm ey fs ft (lX ey t) p:=by
 have dir:∀q,q <+: p->∃c b,t.at ey q=some c/\kids ey c=some b:=fun q hq=>by
  obtain⟨s,rfl⟩:=hq;cases s with
  |nil=>rw[ql]at a;exact⟨d,ks,a,hk⟩
  |cons m s=>
   rw[show q++m::s=(q++[m])++s by simp,kB]at a;cases hx:t.at ey (q++[m]) with
   |none=>rw[hx]at a;simp at a
   |some y=>obtain⟨c,b,h1,h2,_⟩:=um hx;exact⟨c,b,h1,h2⟩
 refine⟨fun q hq=>?_,fun q hq es g=>?_,fun q m hq hs=>?_,fun hs=>?_⟩
 ·obtain⟨c,b,h1,h2⟩:=dir q hq
  have:=DK (r:=q.reverse) (by rw[pY];exact h1) h2 (by rw[pY];exact hw.pre hq)
  rw[kV hS hF h fs q.reverse,this];unfold lX;rw[h1,qr,h2];rfl
 ·have:=hF.od q
  rw[g]at this;unfold lX;cases hc:t.at ey q with
  |none=>rw[hc]at this;simp[vu]at this
  |some c=>
   rw[hc]at this;cases c with
   |own es'=>simp only[vu,mZ]at this;rw[this];rfl
   |file i=>simp[vu]at this
   |held f=>simp[vu]at this
   |dir i=>simp[vu]at this
 ·rw[hF.od]at hs
  cases hc:t.at ey (q++[m]) with
  |none=>rw[hc]at hs;simp[vu]at hs
  |some c=>
   rw[hc]at hs;obtain⟨es',rfl⟩:∃es',c=.own es':=by cases c<;>first|exact⟨_,rfl⟩|(simp[vu]at hs)
   obtain⟨j,b,h1,h2,h3⟩:=um hc;have l:=(py hS _ h h1).2.1;have o:=oI h3;obtain⟨k,rfl⟩:∃k,j=.own k:=by
    cases j with
    |own es=>exact⟨es,rfl⟩
    |file i=>simp[kids]at h2
    |held f=>simp[kids]at h2
    |dir i=>
     simp only[kids,mZ]at h2;subst h2;obtain⟨e,_,g⟩:=ij.1 o
     have:=xr Prod.snd g
     unfold iF ltOf at this;by_cases h2:e.2.1=2<;>simp[h2]at this
   simp only[kids,mZ]at h2;subst h2;refine⟨by rw[hF.od,h1];rfl,?_⟩;unfold lX;rw[h1];refine PX fun e g hn=>?_
   obtain⟨x,hx,rfl⟩:=ij.1 g;have hr:=(lj hS l rfl).1
   have:=kW hr h3 hx hn
   show x.2.id=0;rw[this];rfl
 ·rw[hF.od,mr]at hs
  rw[hF.root];cases t<;>first|rfl|(simp[vu]at hs)
theorem Ih{t:LT}{ft kG:FT}{fs:FS}(hS:Sound ey)(hF:Flat ey t ft){n:Nat}(l:eU ey n t){d:LT}{ks:Kids}(h:t.at ey q=some d)(hk:kids ey d=some ks)(f:Kids->Kids)
  (o:kG.root=0)(p:∀x,¬q <+: x->kG.od x=if x <+: q then some (zK (lX ey t) q x)else ft.od x)(KF:∀x,¬q <+: x->kG.of x=ft.of x)
  (hq:kG.od q=some ((f ks).map mn))(hq':kG.of q=none)
  (u:∀m r,kG.od (q++m::r)=vu ((ip (f ks) m).bind fun c=>c.at ey r))(v:∀m r,kG.of (q++m::r)=Lp ((ip (f ks) m).bind fun c=>c.at ey r)):
  Flat ey (rb ey f q t) kG:=by
 obtain⟨w,A⟩:=yj ey f q t d ks h hk;have key:∀x,kG.od x=vu ((rb ey f q t).at ey x)/\kG.of x=Lp ((rb ey f q t).at ey x):=by
  intro x;by_cases Wt:q <+: x
  ·obtain⟨s,rfl⟩:=Wt
   cases s with
   |nil=>rw[ql,A,hq,hq'];exact⟨rfl,rfl⟩
   |cons m r=>rw[w,u,v];exact⟨rfl,rfl⟩
  ·rw[p x Wt,KF x Wt]
   by_cases g:x <+: q
   ·rw[ie g]
    obtain⟨m,hm,B⟩:=kH g (fun e=>Wt (e▸oU _));obtain⟨r,hr⟩:=B;have j:q=x++m::r:=by rw[<-hr];simp
    have a:=h;rw[j]at a;obtain⟨i,k,h1,h2,h3⟩:=mI ey f x m r t d a;rw[<-j]at h3;rw[h3];have F:i.kind=2:=by cases i<;>first|rfl|(simp[kids]at h2)
    refine⟨?_,?_⟩
    ·show some _=some _
     congr 1
     unfold zK lX;rw[hm,h1,qr,h2,qj];show List.map (fun e:eN=>if e.1=m then(e.1,e.2.1,(0:Int))else e) (List.map mn k)=_;rw[Fg,Fg];refine Pp fun y C=>?_
     show(if y.1=m then(y.1,y.2.kind,(0:Int))else mn y)=mn (if y.1=m then(y.1,rb ey f r y.2)else y);by_cases b:y.1=m
     ·rw[ie b,ie b]
      have D:y.2.kind=2:=by
       rw[kB,h1,qr,kh,h2,qr]at a;cases hc:ip k m with
       |none=>rw[hc]at a;simp at a
       |some c=>
        rw[hc,qr]at a;have E:=(py hS _ l h1).2.1;rw[kW (lj hS E h2).1 hc C b];cases r with
        |nil=>rw[mr]at a;obtain rfl:=zQ a;cases c<;>first|rfl|(simp[kids]at hk)
        |cons z r=>
         rw[kh]at a;cases c<;>first|rfl|(simp[kids]at a)
      rw[D];cases r<;>rfl
     ·rw[fY b,fY b]
    ·rw[hF.of x,h1]
     cases i<;>first|rfl|(simp[kids]at h2)
   ·rw[fY g,jC ey f q x t d h g Wt]
    exact⟨hF.od x,hF.of x⟩
 refine⟨?_,?_,fun x=>(key x).1,fun x=>(key x).2⟩
 ·cases q<;>rfl
 ·rw[o];cases q<;>rfl
theorem lK(ks:Kids):ks.map mn=yh (fun x=>(x.2.kind,x.2.id)) ks:=rfl
theorem TV{α β:Type}(f:eD×α->β)(es:List (eD×α))(n:eD)(c:α):yh f (sf es n c)=sf (yh f es) n (f (n,c)):=by
 unfold sf;rw[AY,AX];unfold yh;split
 ·rw[List.map_set]
 ·simp[List.map_take,List.map_drop]
theorem Xk(ks:Kids)(n:eD)(c:LT):(sf ks n c).map mn=sf (ks.map mn) n (c.kind,c.id):=by rw[lK,TV,<-lK]
theorem TW(ks:Kids)(n:eD):(np ks n).map mn=np (ks.map mn) n:=by rw[lK,PV,<-lK]
theorem WF(ks:Kids)(n:eD):iv (ks.map mn) n=iv ks n:=by rw[lK,AY]
theorem sZ{ks:Kids}(h:eP ks)(n:eD)(c:LT)(m:eD):ip (sf ks n c) m=if m=n then some c else ip ks m:=Ie h m
theorem jD{ks:Kids}(h:eP ks)(ht:iv ks n=true)(m:eD):ip (np ks n) m=if m=n then none else ip ks m:=DI h ht m
theorem oY{ks:Kids}(h:eP ks)(n:eD):(ip ks n).isSome=iv ks n:=by
 rw[Ln,oC h];cases ht:iv ks n with
 |false=>simp
 |true=>
  have:=qq ht
  simp[jy this]
theorem jl{t d:LT}{ks:Kids}(a:t.at ey q=some d)(hk:kids ey d=some ks):lX ey t q=ks.map mn:=by
 unfold lX;rw[a,qr,hk];rfl
theorem pK{q x:eL}(h:q++[n] <+: x):q <+: x:=(nG q [n]).trans h
theorem wR{t:LT}{ft kG:FT}{fs:FS}(hS:Sound ey)(hF:Flat ey t ft)(f:eU ey k t){d:LT}{ks:Kids}(a:t.at ey q=some d)(hk:kids ey d=some ks)(n:eD)(c:LT)
  (g:kG.root=0)(b:∀x,¬(q++[n]) <+: x->kG.od x=if x=q then some (sf (ks.map mn) n (c.kind,c.id))else if x <+: q then some (zK (lX ey t) q x)else ft.od x)
  (KF:∀x,¬(q++[n]) <+: x->kG.of x=ft.of x)(i:∀r,kG.od (q++n::r)=vu (c.at ey r))(j:∀r,kG.of (q++n::r)=Lp (c.at ey r)):
  Flat ey (rb ey (fun ks=>sf ks n c) q t) kG:=by
 have hr:=(lj hS (py hS _ f a).2.1 hk).1;have Tv:¬(q++[n]) <+: q:=fun h=>by have:=h.length_le;simp at this;omega
 have l:ft.of q=none:=by rw[hF.of,a];cases d<;>first|rfl|(simp[kids]at hk)
 refine Ih hS (fs:=fs) hF f a hk _ g (fun x hx=>?_) (fun x hx=>KF x (fun h=>hx (pK h))) ?_ ?_ (fun m r=>?_) (fun m r=>?_)
 ·rw[b x (fun h=>hx (pK h)),fY (fun e:x=q=>hx (by rw[e];exact oU _))]
 ·rw[b q Tv,ie rfl,Xk]
 ·rw[KF q Tv,l]
 ·rw[sZ hr]
  by_cases hm:m=n
  ·subst hm;rw[ie rfl,qr];exact i r
  ·have hx:¬(q++[n]) <+: (q++m::r):=fun h=>by
    rw[SN,KP]at h;exact hm h.1.symm
   rw[fY hm,b _ hx,fY (by simp),fY (fun h=>by have:=h.length_le;simp at this;omega),hF.od,kB,a,qr,kh,hk,qr]
 ·rw[sZ hr]
  by_cases hm:m=n
  ·subst hm;rw[ie rfl,qr];exact j r
  ·have hx:¬(q++[n]) <+: (q++m::r):=fun h=>by
    rw[SN,KP]at h;exact hm h.1.symm
   rw[fY hm,KF _ hx,hF.of,kB,a,qr,kh,hk,qr]
theorem DL{t:LT}{ft kG:FT}{fs:FS}(hS:Sound ey)(hF:Flat ey t ft)(c:eU ey k t){d:LT}{ks:Kids}(a:t.at ey q=some d)(hk:kids ey d=some ks)(n:eD)(ht:iv ks n=true)
  (f:kG.root=0)(b:∀x,¬(q++[n]) <+: x->kG.od x=if x=q then some (np (ks.map mn) n)else if x <+: q then some (zK (lX ey t) q x)else ft.od x)
  (KF:∀x,¬(q++[n]) <+: x->kG.of x=ft.of x)(g:∀r,kG.od (q++n::r)=none)(i:∀r,kG.of (q++n::r)=none):
  Flat ey (rb ey (fun ks=>np ks n) q t) kG:=by
 have hr:=(lj hS (py hS _ c a).2.1 hk).1;have Tv:¬(q++[n]) <+: q:=fun h=>by have:=h.length_le;simp at this;omega
 have j:ft.of q=none:=by rw[hF.of,a];cases d<;>first|rfl|(simp[kids]at hk)
 refine Ih hS (fs:=fs) hF c a hk _ f (fun x hx=>?_) (fun x hx=>KF x (fun h=>hx (pK h))) ?_ ?_ (fun m r=>?_) (fun m r=>?_)
 ·rw[b x (fun h=>hx (pK h)),fY (fun e:x=q=>hx (by rw[e];exact oU _))]
 ·rw[b q Tv,ie rfl,TW]
 ·rw[KF q Tv,j]
 ·rw[jD hr ht]
  by_cases hm:m=n
  ·subst hm;rw[ie rfl];exact g r
  ·have hx:¬(q++[n]) <+: (q++m::r):=fun h=>by
    rw[SN,KP]at h;exact hm h.1.symm
   rw[fY hm,b _ hx,fY (by simp),fY (fun h=>by have:=h.length_le;simp at this;omega),hF.od,kB,a,qr,kh,hk,qr]
 ·rw[jD hr ht]
  by_cases hm:m=n
  ·subst hm;rw[ie rfl];exact i r
  ·have hx:¬(q++[n]) <+: (q++m::r):=fun h=>by
    rw[SN,KP]at h;exact hm h.1.symm
   rw[fY hm,KF _ hx,hF.of,kB,a,qr,kh,hk,qr]
theorem Ii{α:Type}{es:List (eD×α)}{c:α}{x:eD×α}(h:x∈sf es n c):x=(n,c)\/x∈es:=by
 unfold sf at h;split at h
 ·rcases List.mem_or_eq_of_mem_set h with h|h
  ·exact .inr h
  ·exact .inl h
 ·rcases sB.1 h with h|h
  ·exact .inr (zP h)
  ·rcases gU.1 h with h|h
   ·exact .inl h
   ·exact .inr (KN h)
theorem DM{α:Type}{es:List (eD×α)}{x:eD×α}(h:x∈np es n):x∈es:=List.mem_of_mem_eraseIdx h
theorem vC{n:Nat}{es:Kids}(hr:eP es)(hl:es.length<=16)(h:∀x∈es,eG x.1=true/\∃m,n=m+1/\eU ey m x.2):eU ey n (.own es):=by
 cases n with
 |zero=>
  rw[eU];cases es with
  |nil=>rfl
  |cons x r=>obtain⟨_,m,hm,_⟩:=h x (jS ..);omega
 |succ k=>
  rw[eU];refine⟨hr,hl,fun x hx=>?_⟩;obtain⟨hv,m,hm,hx⟩:=h x hx;obtain rfl:k=m:=by omega
  exact⟨hv,hx⟩
theorem Ls{ks:Kids}(h:eP ks)(n:eD)(g:LT->LT):eP (ks.map fun x=>if x.1=n then(x.1,g x.2)else x):=by
 unfold eP at h ⊢;rw[CO];refine h.imp fun {a b} hab=>?_
 have e:∀x:eD×LT,(if x.1=n then(x.1,g x.2)else x).1=x.1:=fun x=>by split<;>rfl
 rw[e,e];exact hab
theorem Lt(hS:Sound ey)(f:Kids->Kids):∀(q:eL) {n:Nat} {t d:LT} {ks:Kids},eU ey n t->t.at ey q=some d->kids ey d=some ks->eU ey (n-q.length) (.own (f ks))->eU ey n (rb ey f q t)
 |[],n,t,d,ks,g,a,hk,h=>by
  rw[mr]at a;cases a
  rw[rb,hk];simpa using h
 |m::q,n,t,d,ks,g,a,hk,h=>by
  rw[kh]at a
  cases b:kids ey t with
  |none=>rw[b]at a;simp at a
  |some es=>
   rw[b,qr]at a
   cases hc:ip es m with
   |none=>rw[hc]at a;simp at a
   |some c=>
    rw[hc,qr]at a
    obtain⟨h1,h2,h3⟩:=lj hS g b
    rw[rb,b,qj]
    refine vC (Ls h1 m _) (by simpa using h2) (fun x hx=>?_)
    obtain⟨y,i,rfl⟩:=ij.1 hx
    obtain⟨hv,j,rfl,hj⟩:=h3 y i
    by_cases e:y.1=m
    ·rw[ie e]
     refine⟨hv,j,rfl,?_⟩
     have k:=kW h1 hc i e
     rw[k]at hj ⊢
     exact Lt hS f q hj a hk (by rw[jA,show j+1-(q.length+1)=j-q.length by omega]at h;exact h)
    ·rw[fY e];exact⟨hv,j,rfl,hj⟩
theorem Ij(f:Kids->Kids){t d:LT}{ks:Kids}(a:t.at ey q=some d)(hk:kids ey d=some ks){x:eL}(h:(rb ey f q t).at ey x=some (.held b)):
  (∃m r,x=q++m::r/\((ip (f ks) m).bind fun c=>c.at ey r)=some (.held b))\/(¬q <+: x/\t.at ey x=some (.held b)):=by
 obtain⟨i,j⟩:=yj ey f q t d ks a hk;by_cases Wt:q <+: x
 ·obtain⟨s,rfl⟩:=Wt
  cases s with
  |nil=>rw[ql,j]at h;cases h
  |cons m r=>rw[i]at h;exact .inl ⟨m,r,rfl,h⟩
 ·refine .inr ⟨Wt,?_⟩
  by_cases g:x <+: q
  ·obtain⟨m,hm,k⟩:=kH g (fun e=>Wt (e▸oU _))
   obtain⟨r,hr⟩:=k;have l:q=x++m::r:=by rw[<-hr];simp
   rw[l]at a h;obtain⟨n,o,h1,h2,h3⟩:=mI ey f x m r t d a;rw[h3]at h;cases h
  ·rw[jC ey f q x t d a g Wt]at h;exact h
def lB (ey:List Ob)(fs:FS)(ft:FT)(q:eL)(n:eD)(v:Int×Int):FT:=
 let a:=oX ey fs ft q.reverse
 let es:=(a.od q).getD []
 if iv es n then { root:=a.root,od:=upd (upd a.od q (some (sf es n v))) (q++[n]) none,of:=upd a.of (q++[n]) none }
 else { a with od:=upd a.od q (some (sf es n v)) }
def jU (ey:List Ob)(fs:FS)(ft:FT)(q:eL)(n:eD):FT:=
 let a:=oX ey fs ft q.reverse
 { a with od:=upd a.od q (some (np ((a.od q).getD []) n)) }
def wS (ft:FT)(p:eL):FT:={ ft with od:=upd ft.od p none,of:=upd ft.of p none }
def xa {β:Type}(f:eL->Option β)(src a:eL):eL->Option β:=fun x=>if a <+: x then f (src++x.drop a.length)else if src <+: x then none else f x
def Zt (ft:FT)(src a:eL):FT:={ ft with od:=xa ft.od src a,of:=xa ft.of src a }
theorem Oh(q:eL)(n:eD):q++[n]≠q:=fun e=>by have:=xr List.length e;simp at this
theorem oJ{fs:FS}{ft:FT}(hw:gm ey fs ft K q):
  (oX ey fs ft q.reverse).root=0/\(oX ey fs ft q.reverse).of=ft.of/\(oX ey fs ft q.reverse).od q=some (K q)/\∀x,x≠q->(oX ey fs ft q.reverse).od x=if x <+: q then some (zK K q x)else ft.od x:=by
 obtain⟨h1,h2,h3⟩:=vA (r:=q.reverse) (by rw[pY];exact hw);rw[pY]at h3;refine⟨h1,h2,?_,fun x _=>h3 x⟩;rw[h3,ie (oU _)];unfold zK;rw[oZ (kx _)]
theorem uo{fs:FS}{ft:FT}(hw:gm ey fs ft K q)(n:eD)(v:Int×Int):
  (lB ey fs ft q n v).root=0/\(∀x,x≠q++[n]->(lB ey fs ft q n v).od x=if x=q then some (sf (K q) n v)else if x <+: q then some (zK K q x)else ft.od x)/\(∀x,x≠q++[n]->(lB ey fs ft q n v).of x=ft.of x)/\
  (lB ey fs ft q n v).od (q++[n])=(if iv (K q) n then none else ft.od (q++[n]))/\(lB ey fs ft q n v).of (q++[n])=(if iv (K q) n then none else ft.of (q++[n])):=by
 obtain⟨h1,h2,h3,a⟩:=oJ hw;have Ik:¬(q++[n]) <+: q:=fun h=>by have:=h.length_le;simp at this;omega
 unfold lB;simp only[h3,qj];by_cases ht:iv (K q) n=true
 ·rw[ie ht,ie ht,ie ht]
  refine⟨h1,fun x hx=>?_,fun x hx=>?_,upd_same _ _ _,upd_same _ _ _⟩
  ·show upd (upd _ _ _) _ _ x=_
   rw[hE hx];by_cases hq:x=q
   ·subst hq;rw[upd_same,ie rfl]
   ·rw[hE hq,fY hq,a x hq]
  ·show upd _ _ _ x=_
   rw[hE hx,h2]
 ·rw[fY ht,fY ht,fY ht]
  refine⟨h1,fun x hx=>?_,fun x hx=>by show(oX ey fs ft q.reverse).of x=_;rw[h2],?_,by show(oX ey fs ft q.reverse).of _=_;rw[h2]⟩
  ·show upd _ _ _ x=_
   by_cases hq:x=q
   ·subst hq;rw[upd_same,ie rfl]
   ·rw[hE hq,fY hq,a x hq]
  ·show upd _ _ _ (q++[n])=_
   rw[hE (Oh q n),a _ (Oh q n),fY Ik]
theorem vE{fs:FS}{ft:FT}(hw:gm ey fs ft K q)(n:eD):
  (jU ey fs ft q n).root=0/\(∀x,(jU ey fs ft q n).od x=if x=q then some (np (K q) n)else if x <+: q then some (zK K q x)else ft.od x)/\(jU ey fs ft q n).of=ft.of:=by
 obtain⟨h1,h2,h3,a⟩:=oJ hw;unfold jU;simp only[h3,qj];refine⟨h1,fun x=>?_,h2⟩;by_cases hq:x=q
 ·subst hq;rw[upd_same,ie rfl]
 ·rw[hE hq,fY hq,a x hq]
theorem gm.congr{fs:FS}{ft kG:FT}(h:gm ey fs ft K q)(hr:kG.root=ft.root)(ho:∀x,x <+: q->kG.od x=ft.od x):gm ey fs kG K q:=by
 refine⟨fun x hx=>?_,fun x hx es b=>h.own x hx es (by rw[<-ho x hx];exact b),fun x m hx hs=>?_,fun hs=>?_⟩
 ·rw[(vw ey fs hr x.reverse (fun y a=>ho y (by rw[pY]at a;exact a.trans hx))).2]
  exact h.look x hx
 ·rw[ho x ((nG x [m]).trans hx)]
  exact h.up x m hx (by rw[<-ho _ hx];exact hs)
 ·rw[hr];exact h.root (by rw[<-ho [] (List.nil_prefix)];exact hs)
section
variable {ey:List Ob}{t:LT}{ft:FT}{fs:FS}{q:eL}{d:LT}{ks:Kids}{n:eD}
theorem kX(hF:Flat ey t ft)(a:t.at ey q=some d)(hk:kids ey d=some ks)(hp:ip ks n=none)(r:eL):ft.od (q++n::r)=none/\ft.of (q++n::r)=none:=by
 have:t.at ey (q++n::r)=none:=by rw[kB,a,qr,kh,hk,qr,hp];rfl
 rw[hF.od,hF.of,this];exact⟨rfl,rfl⟩
theorem mJ{c:LT}(a:t.at ey p=some c)(hc:kids ey c=none\/kids ey c=some [])(m:eD)(r:eL):t.at ey (p++m::r)=none:=by
 rw[kB,a,qr,kh];rcases hc with h|h
 ·rw[h];rfl
 ·rw[h];rfl
theorem Lu(hS:Sound ey)(hF:Flat ey t ft)(b:eU ey k t)(a:t.at ey q=some d)(hk:kids ey d=some ks)(hw:fO ey t fs q)(hp:ip ks n=none):
  Flat ey (rb ey (fun ks=>sf ks n (.own [])) q t) { lB ey fs ft q n (2,0)with od:=upd (lB ey fs ft q n (2,0)).od (q++[n]) (some []) }:=by
 have W:=Hk hS hF b a hk hw;have hr:=(lj hS (py hS _ b a).2.1 hk).1;have ht:iv (lX ey t q) n=false:=by rw[jl a hk,WF,<-oY hr,hp];rfl
 obtain⟨h1,h2,h3,f,c⟩:=uo W n (2,0);rw[ht,fY (by decide)]at c;refine wR hS (fs:=fs) hF b a hk n (.own []) h1 (fun x hx=>?_) (fun x hx=>?_) (fun r=>?_) (fun r=>?_)
 ·have nv:x≠q++[n]:=fun e=>hx (e▸oU _)
  show upd _ _ _ x=_;rw[hE nv,h2 x nv,jl a hk];rfl
 ·exact h3 x (fun e=>hx (e▸oU _))
 ·show upd _ _ _ _=_
  cases r with
  |nil=>rw[upd_same,mr];rfl
  |cons m r=>
   have hne:q++n::m::r≠q++[n]:=by simp
   rw[hE hne,h2 _ hne,fY (by simp),fY (fun h=>by have:=h.length_le;simp at this;omega),(kX hF a hk hp _).1,kh];rfl
 ·show(lB ey fs ft q n (2,0)).of _=_
  cases r with
  |nil=>rw[c,(kX hF a hk hp []).2,mr];rfl
  |cons m r=>rw[h3 _ (by simp),(kX hF a hk hp _).2,kh];rfl
theorem Il(hS:Sound ey)(hF:Flat ey t ft)(b:eU ey k t)(a:t.at ey q=some d)(hk:kids ey d=some ks)(hw:fO ey t fs q)(hp:ip ks n=none)(f:Nat):
  Flat ey (rb ey (fun ks=>sf ks n (.held f)) q t) { lB ey fs ft q n (1,0)with of:=upd (lB ey fs ft q n (1,0)).of (q++[n]) (some f) }:=by
 have W:=Hk hS hF b a hk hw;have hr:=(lj hS (py hS _ b a).2.1 hk).1;have ht:iv (lX ey t q) n=false:=by rw[jl a hk,WF,<-oY hr,hp];rfl
 obtain⟨h1,h2,h3,c,g⟩:=uo W n (1,0);rw[ht,fY (by decide)]at c;refine wR hS (fs:=fs) hF b a hk n (.held f) h1 (fun x hx=>?_) (fun x hx=>?_) (fun r=>?_) (fun r=>?_)
 ·have nv:x≠q++[n]:=fun e=>hx (e▸oU _)
  show(lB ey fs ft q n (1,0)).od x=_;rw[h2 x nv,jl a hk];rfl
 ·show upd _ _ _ x=_
  have nv:x≠q++[n]:=fun e=>hx (e▸oU _);rw[hE nv,h3 x nv]
 ·show(lB ey fs ft q n (1,0)).od _=_
  cases r with
  |nil=>rw[c,(kX hF a hk hp []).1,mr];rfl
  |cons m r=>
   have hne:q++n::m::r≠q++[n]:=by simp
   rw[h2 _ hne,fY (by simp),fY (fun h=>by have:=h.length_le;simp at this;omega),(kX hF a hk hp _).1,kh];rfl
 ·show upd _ _ _ _=_
  cases r with
  |nil=>rw[upd_same,mr];rfl
  |cons m r=>rw[hE (by simp),h3 _ (by simp),(kX hF a hk hp _).2,kh];rfl
theorem PY(hS:Sound ey)(hF:Flat ey t ft)(c:eU ey k t)(a:t.at ey q=some d)(hk:kids ey d=some ks)(hw:fO ey t fs q){id:Int}(hp:ip ks n=some (.file id))(f:Nat):
  Flat ey (rb ey (fun ks=>sf ks n (.held f)) q t) { oX ey fs ft q.reverse with od:=upd (oX ey fs ft q.reverse).od q (some (sf (((oX ey fs ft q.reverse).od q).getD []) n (1,0))),of:=upd (oX ey fs ft q.reverse).of (q++[n]) (some f) }:=by
 have W:=Hk hS hF c a hk hw;obtain⟨h1,h2,h3,g⟩:=oJ W;have b:t.at ey (q++[n])=some (.file id):=by rw[kB,a,qr,kh,hk,qr,hp,qr,mr]
 have Ik:¬(q++[n]) <+: q:=fun h=>by have:=h.length_le;simp at this;omega
 refine wR hS (fs:=fs) hF c a hk n (.held f) h1 (fun x hx=>?_) (fun x hx=>?_) (fun r=>?_) (fun r=>?_)
 ·show upd _ _ _ x=_
  by_cases hq:x=q
  ·subst hq;rw[upd_same,ie rfl,h3,qj,jl a hk];rfl
  ·rw[hE hq,fY hq,g x hq]
 ·show upd _ _ _ x=_
  rw[hE (fun e:x=q++[n]=>hx (by rw[e];exact oU _)),h2]
 ·show upd _ _ _ _=_
  have hne:q++n::r≠q:=fun e=>by have:=xr List.length e;simp at this
  rw[hE hne,g _ hne,fY (fun h=>by have:=h.length_le;simp at this;omega),hF.od];cases r with
  |nil=>rw[b,mr];rfl
  |cons m r=>rw[show q++n::m::r=(q++[n])++m::r by simp,mJ b (.inl rfl),kh];rfl
 ·show upd _ _ _ _=_
  cases r with
  |nil=>rw[upd_same,mr];rfl
  |cons m r=>
   rw[hE (by simp),h2,hF.of,show q++n::m::r=(q++[n])++m::r by simp,mJ b (.inl rfl),kh];rfl
theorem Im(hS:Sound ey)(hF:Flat ey t ft)(b:eU ey k t)(a:t.at ey q=some d)(hk:kids ey d=some ks)(hw:fO ey t fs q){c:LT}(hp:ip ks n=some c)(hc:kids ey c=none\/kids ey c=some []):
  Flat ey (rb ey (fun ks=>np ks n) q t) (wS (jU ey fs ft q n) (q++[n])):=by
 have W:=Hk hS hF b a hk hw;have hr:=(lj hS (py hS _ b a).2.1 hk).1;have ht:iv ks n=true:=by rw[<-oY hr,hp];rfl
 obtain⟨h1,h2,h3⟩:=vE W n;have f:t.at ey (q++[n])=some c:=by rw[kB,a,qr,kh,hk,qr,hp,qr,mr]
 refine DL hS (fs:=fs) hF b a hk n ht h1 (fun x hx=>?_) (fun x hx=>?_) (fun r=>?_) (fun r=>?_)
 ·show upd _ _ _ x=_
  rw[hE (fun e:x=q++[n]=>hx (by rw[e];exact oU _)),h2,jl a hk]
 ·show upd _ _ _ x=_
  rw[hE (fun e:x=q++[n]=>hx (by rw[e];exact oU _)),h3]
 ·show upd _ _ _ _=_
  cases r with
  |nil=>rw[upd_same]
  |cons m r=>
   rw[hE (by simp),h2,fY (by simp),fY (fun h=>by have:=h.length_le;simp at this;omega),hF.od,show q++n::m::r=(q++[n])++m::r by simp,mJ f hc];rfl
 ·show upd _ _ _ _=_
  cases r with
  |nil=>rw[upd_same]
  |cons m r=>
   rw[hE (by simp),h3,hF.of,show q++n::m::r=(q++[n])++m::r by simp,mJ f hc];rfl
end
theorem Ba{t:LT}{a b:LT}{d g:Kids}(hr:eP d)(c:t.at ey qf=some a)(hk:kids ey a=some d)(ht:iv d nf=true)(f:t.at ey qt=some b)(j:kids ey b=some g)(PZ:¬(qf++[nf]) <+: qt):
  ∃d1 k,(rb ey (fun ks=>np ks nf) qf t).at ey qt=some d1/\kids ey d1=some k/\∀id,d1=.dir id->b=.dir id:=by
 obtain⟨l,n⟩:=yj ey (fun ks=>np ks nf) qf t a d c hk;by_cases h:qf <+: qt
 ·obtain⟨s,rfl⟩:=h
  cases s with
  |nil=>rw[ql]at f ⊢;exact⟨_,_,n,rfl,fun id e=>by cases e⟩
  |cons m r=>
   have hm:m≠nf:=fun e=>PZ (by rw[e];exact⟨r,by simp⟩);rw[l,jD hr ht,fY hm];rw[kB,c,qr,kh,hk,qr]at f;exact⟨b,g,f,j,fun id e=>e⟩
 ·by_cases h2:qt <+: qf
  ·obtain⟨m,hm,o⟩:=kH h2 (fun e=>h (e▸oU _))
   obtain⟨r,i⟩:=o;have i:qf=qt++m::r:=by rw[<-i];simp
   rw[i]at c ⊢;obtain⟨p,q,h1,h2,h3⟩:=mI ey (fun ks=>np ks nf) qt m r t a c;exact⟨_,_,h3,rfl,fun id e=>by cases e⟩
  ·rw[jC ey _ qf qt t a c h2 h]
   exact⟨b,g,f,j,fun id e=>e⟩
theorem Io{t:LT}{a:LT}{c:Kids}(hr:eP c)(b:t.at ey qf=some a)(hk:kids ey a=some c)(ht:iv c nf=true){x:eL}{id:Int}(h:(rb ey (fun ks=>np ks nf) qf t).at ey x=some (.dir id)):t.at ey x=some (.dir id):=by
 obtain⟨f,g⟩:=yj ey (fun ks=>np ks nf) qf t a c b hk;by_cases hx:qf <+: x
 ·obtain⟨s,rfl⟩:=hx
  cases s with
  |nil=>rw[ql,g]at h;cases h
  |cons m r=>
   rw[f,jD hr ht]at h;by_cases hm:m=nf
   ·rw[ie hm]at h;cases h
   ·rw[fY hm]at h
    rw[kB,b,qr,kh,hk,qr];exact h
 ·by_cases h2:x <+: qf
  ·obtain⟨m,hm,i⟩:=kH h2 (fun e=>hx (e▸oU _))
   obtain⟨r,d⟩:=i;have d:qf=x++m::r:=by rw[<-d];simp
   rw[d]at b h;obtain⟨j,k,h1,h2,h3⟩:=mI ey (fun ks=>np ks nf) x m r t a b;rw[h3]at h;cases h
  ·rw[jC ey _ qf x t a b h2 hx]at h;exact h
theorem wT(hS:Sound ey){t:LT}(a:eU ey k t){d:LT}{ks:Kids}(b:t.at ey q=some d)(hk:kids ey d=some ks)(n:eD):eU ey k (rb ey (fun ks=>np ks n) q t):=by
 obtain⟨h1,h2,h3⟩:=lj hS (py hS _ a b).2.1 hk;refine Lt hS _ q a b hk (vC ?_ ?_ (fun x hx=>h3 x (DM hx)))
 ·unfold np;exact List.Pairwise.sublist (List.eraseIdx_sublist _ _) h1
 ·unfold np;exact wl (List.length_eraseIdx_le _ _) h2
def Zu (ft:FT)(p:eL):FT:=⟨ft.root,fun x=>if p <+: x then none else ft.od x,fun x=>if p <+: x then none else ft.of x⟩
theorem wU(ft:FT)(p x:eL):(Zu ft p).od x=if p <+: x then none else ft.od x:=rfl
theorem Ae(ft:FT)(p x:eL):(Zu ft p).of x=if p <+: x then none else ft.of x:=rfl
theorem Ip{t:LT}{ft:FT}{fs:FS}(hS:Sound ey)(hF:Flat ey t ft)(b:eU ey k t){i j c:LT}{f u:Kids}
  (a:t.at ey qf=some i)(hk:kids ey i=some f)(hp:ip f nf=some c)(v:t.at ey qt=some j)(w:kids ey j=some u)(y:fO ey t fs qf)(hwt:fO ey t fs qt)
  (PZ:¬(qf++[nf]) <+: (qt++[nt]))(hnt:¬(qt++[nt]) <+: (qf++[nf])):
  ∃d1 g,(rb ey (fun ks=>np ks nf) qf t).at ey qt=some d1/\kids ey d1=some g/\
   Flat ey (rb ey (fun ks=>sf ks nt c) qt (rb ey (fun ks=>np ks nf) qf t)) (Zt (lB ey fs (jU ey fs ft qf nf) qt nt (c.kind,c.id)) (qf++[nf]) (qt++[nt]))/\gm ey fs (jU ey fs ft qf nf) (lX ey (rb ey (fun ks=>np ks nf) qf t)) qt:=by
 have hr:=(lj hS (py hS _ b a).2.1 hk).1;have ht:iv f nf=true:=by rw[<-oY hr,hp];rfl
 have Oi:¬(qf++[nf]) <+: qt:=fun h=>PZ (h.trans (nG _ _));have l:=wT hS b a hk nf;obtain⟨d1,g,d,e2,H⟩:=Ba hr a hk ht v w Oi;have z:=Hk hS hF b a hk y;obtain⟨t1,t2,t3⟩:=vE z nf;have m:∀r,t.at ey (qf++nf::r)=c.at ey r:=fun r=>by rw[kB,a,qr,kh,hk,qr,hp,qr]
 -- I J K L M below 'from'
 have n:Flat ey (rb ey (fun ks=>np ks nf) qf t) (Zu (jU ey fs ft qf nf) (qf++[nf])):=by
  refine DL hS (fs:=fs) hF b a hk nf ht t1 (fun x hx=>?_) (fun x hx=>?_) (fun r=>?_) (fun r=>?_)
  ·rw[wU,fY hx,t2,jl a hk]
  ·rw[Ae,fY hx,t3]
  ·rw[wU,ie ⟨r,by simp⟩]
  ·rw[Ae,ie ⟨r,by simp⟩]
 have A:fO ey (rb ey (fun ks=>np ks nf) qf t) fs qt:=fun x id hx h=>hwt x id hx (Io hr a hk ht h);have B:=Hk hS n l d e2 A;have qd:∀x,x <+: qt->¬(qf++[nf]) <+: x:=fun x hx h=>Oi (h.trans hx);have W2:gm ey fs (jU ey fs ft qf nf) (lX ey (rb ey (fun ks=>np ks nf) qf t)) qt:=B.congr rfl (fun x hx=>by rw[wU,fY (qd x hx)]);obtain⟨C,o,p,N,O⟩:=uo W2 nt (c.kind,c.id);refine⟨d1,g,d,e2,?_,W2⟩;have q:∀r,(qf++nf::r)≠qt++[nt]:=fun r e=>PZ (by rw[<-e];exact⟨r,by simp⟩);have D:∀r,(qf++nf::r)≠qt:=fun r e=>Oi (by rw[<-e];exact⟨r,by simp⟩);have E:∀r,¬(qf++nf::r) <+: qt:=fun r h=>Oi (List.IsPrefix.trans ⟨r,by simp⟩ h);have F:∀r,(qf++nf::r)≠qf:=fun r e=>by have:=xr List.length e;simp at this
 have G:∀r,¬(qf++nf::r) <+: qf:=fun r h=>by have:=h.length_le;simp at this;omega
 have s:∀r,(qt++nt::r).drop (qt++[nt]).length=r:=fun r=>by rw[show qt++nt::r=(qt++[nt])++r by simp,pZ]
 refine wR hS (fs:=fs) n l d e2 nt c C (fun x hx=>?_) (fun x hx=>?_) (fun r=>?_) (fun r=>?_)
 ·have nv:x≠qt++[nt]:=fun e=>hx (e▸oU _)
  show xa _ _ _ x=_;unfold xa;rw[fY hx];by_cases hs:(qf++[nf]) <+: x
  ·rw[ie hs,fY (fun e:x=qt=>Oi (e▸hs)),fY (fun h=>qd x h hs),wU,ie hs]
  ·rw[fY hs,o x nv,wU,fY hs,jl d e2]
 ·have nv:x≠qt++[nt]:=fun e=>hx (e▸oU _)
  show xa _ _ _ x=_;unfold xa;rw[fY hx];by_cases hs:(qf++[nf]) <+: x
  ·rw[ie hs,Ae,ie hs]
  ·rw[fY hs,p x nv,Ae,fY hs]
 ·show xa _ _ _ _=_
  unfold xa;rw[ie ⟨r,by simp⟩,s,show(qf++[nf])++r=qf++nf::r by simp,o _ (q r),fY (D r),fY (E r),t2,fY (F r),fY (G r),hF.od,m]
 ·show xa _ _ _ _=_
  unfold xa;rw[ie ⟨r,by simp⟩,s,show(qf++[nf])++r=qf++nf::r by simp,p _ (q r),t3,hF.of,m]
def ig (ey:List Ob):Nat->LT->Int
 |_,.file id=>fB ey id
 |_,.held _=>0
 |_,.dir id=>fB ey id
 |0,.own _=>0
 |n+1,.own es=>es.foldl (fun h x=>max h (1+ig ey n x.2)) 0
theorem Fr{α:Type}(f:α->Int):∀(l:List α) (a m:Int),l.foldl (fun h x=>max h (1+f x)) a<=m↔a<=m/\∀x∈l,1+f x<=m
 |[],a,m=>by simp
 |y::r,a,m=>by
  rw[Aq,Fr f r]
  constructor
  ·rintro⟨h1,h2⟩
   refine⟨by omega,fun x hx=>?_⟩
   rcases gU.1 hx with rfl|hx
   ·omega
   ·exact h2 x hx
  ·rintro⟨h1,h2⟩
   have:=h2 y (jS ..)
   exact⟨by omega,fun x hx=>h2 x (pn _ hx)⟩
theorem TX(hS:Sound ey):∀(n:Nat) {c:LT} {m:Nat},eU ey n c->ig ey n c<=m->eU ey m c
 |n,.file id,m,h,_=>by
  have:eM ey id=1:=by cases n<;>simpa [eU]using h
  cases m<;>simpa [eU]using this
 |n,.held f,m,_,_=>by cases m<;>simp[eU]
 |n,.dir id,m,h,hm=>by
  have h1:eM ey id=2:=by cases n<;>simp[eU]at h<;>exact h.1
  have h2:fB ey id<=m:=by cases n<;>simpa [ig]using hm
  cases m<;>(rw[eU];exact⟨h1,h2⟩)
 |0,.own es,m,h,_=>by
  rw[eU]at h
  subst h
  exact vC List.Pairwise.nil (by simp) (by simp)
 |n+1,.own es,m,h,hm=>by
  rw[eU]at h
  rw[ig,Fr]at hm
  refine vC h.1 h.2.1 (fun x hx=>?_)
  have h1:=hm.2 x hx
  obtain⟨hv,nv⟩:=h.2.2 x hx
  have h0:0<=ig ey n x.2:=by
   cases n with
   |zero=>cases hc:x.2<;>simp[ig]<;>exact hS.1 _
   |succ j=>
    cases hc:x.2 with
    |file i=>simp[ig];exact hS.1 _
    |held f=>simp[ig]
    |dir i=>simp[ig];exact hS.1 _
    |own es'=>
     rw[ig];exact((Fr (fun x=>ig ey j x.2) es' 0 _).1 (sH _)).1
  refine⟨hv,m-1,by omega,TX hS n nv (by omega)⟩
theorem PH{id:Int}(h:eM a id≠0):1<=id/\(id-1).toNat<a.length:=by
 unfold eM at h;by_cases h1:1<=id
 ·rw[ie h1]at h
  refine⟨h1,?_⟩;by_cases h2:(id-1).toNat<a.length
  ·exact h2
  ·rw[oZ (by omega)]at h;exact absurd rfl h
 ·rw[fY h1]at h;exact absurd rfl h
theorem jm(l:List Ob){id:Int}(h:eM a id≠0):eM (a++l) id=eM a id:=by
 obtain⟨h1,h2⟩:=PH h;unfold eM;rw[ie h1,ie h1,qX h2]
theorem kI(l:List Ob){id:Int}(h:eM a id≠0):fB (a++l) id=fB a id:=by
 obtain⟨h1,h2⟩:=PH h;unfold fB;rw[qX h2]
theorem oK(l:List Ob){id:Int}(h:eM a id≠0):eZ (a++l) id=eZ a id:=by
 obtain⟨h1,h2⟩:=PH h;unfold eZ;rw[qX h2]
theorem td(l:List Ob){id:Int}(h:eM a id≠0):bytesOf (a++l) id=bytesOf a id:=by
 obtain⟨h1,h2⟩:=PH h;unfold bytesOf;rw[qX h2]
theorem Xl(a:List Ob)(o:Ob):eM (a++[o]) ((a.length:Int)+1)=o.kind/\fB (a++[o]) ((a.length:Int)+1)=o.high/\eZ (a++[o]) ((a.length:Int)+1)=o.eR/\bytesOf (a++[o]) ((a.length:Int)+1)=o.data:=by
 have e:(((a.length:Int)+1)-1).toNat=a.length:=by omega
 refine⟨?_,?_,?_,?_⟩
 ·unfold eM;rw[ie (by omega),e];simp
 ·unfold fB;rw[e];simp
 ·unfold eZ;rw[e];simp
 ·unfold bytesOf;rw[e];simp
theorem Qa{id:Int}(h:eM (a++[o]) id≠0):eM a id≠0\/id=(a.length:Int)+1\/((id-1).toNat<a.length/\eM a id=0/\1<=id):=by
 obtain⟨h1,h2⟩:=PH h;by_cases h3:(id-1).toNat<a.length
 ·by_cases b:eM a id=0
  ·exact .inr (.inr ⟨h3,b,h1⟩)
  ·exact .inl b
 ·refine .inr (.inl ?_)
  simp only[mb,List.length_singleton]at h2;omega
structure Exact (a:List Ob):Prop where
 sound:Sound a
 kinds:∀o∈a,o.kind=1\/o.kind=2
 low:∀id,eM a id=1->fB a id=0
 high:∀id,eM a id=2->fB a id=fI a (eZ a id)
theorem Bb(hk:∀o∈a,o.kind=1\/o.kind=2){id:Int}(h1:1<=id)(h2:(id-1).toNat<a.length):eM a id=1\/eM a id=2:=by
 unfold eM;rw[ie h1,jy h2];exact hk _ (kj h2)
structure Iq (a:List Ob)(o:Ob):Prop where
 or:(o.kind=1/\o.high=0/\o.data.size<=256/\fileAt a o.data=none)\/
  (o.kind=2/\o.high=fI a o.eR/\fI a o.eR<=5/\eP o.eR/\o.eR.length<=16/\(∀e∈o.eR,eG e.1=true/\(e.2.1=1\/e.2.1=2)/\eM a e.2.2=e.2.1)/\nj a o.eR=none)
theorem DN(l:List Ob)(h:∀e∈es,eM a e.2.2≠0):fI (a++l) es=fI a es:=by
 unfold fI;have key:∀(xs:List eN) (b:Int),(∀e∈xs,eM a e.2.2≠0)->xs.foldl (fun h e=>max h (1+fB (a++l) e.2.2)) b=xs.foldl (fun h e=>max h (1+fB a e.2.2)) b:=by
  intro xs
  induction xs with
  |nil=>intro b _;rfl
  |cons x r c=>
   intro b hx;rw[Aq,Aq,kI l (hx x (by simp))];exact c _ (fun e d=>hx e (by simp[d]))
 exact key es 0 h
theorem Bc{m:Int}:fI a es<=m↔0<=m/\∀e∈es,1+fB a e.2.2<=m:=Fr (fun e:eN=>fB a e.2.2) es 0 m
theorem FQ(a:List Ob)(es:List eN):0<=fI a es:=(Bc.1 (sH _)).1
theorem ne0{k:Int}(h:k=1\/k=2):k≠0:=by omega
theorem Exact.snoc(h:Exact a)(ho:Iq a o):Exact (a++[o]):=by
 obtain⟨c,d,g,w⟩:=Xl a o;have hc:∀id,eM (a++[o]) id≠0->eM a id≠0\/id=(a.length:Int)+1:=by
  intro id hid;rcases Qa hid with h1|h1|⟨h1,h2,h3⟩
  ·exact .inl h1
  ·exact .inr h1
  ·rcases Bb h.kinds h3 h1 with k|k<;>(rw[k]at h2;cases h2)
 have m:∀id,eM a id=2->∀e∈eZ a id,eM a e.2.2≠0:=by
  intro id hid e b;obtain⟨_,n,hk,_⟩:=(h.sound.2 id hid).2.2 e b;rw[hk];exact ne0 n
 have i:o.kind=2->∀e∈o.eR,eM a e.2.2≠0:=by
  intro hk e b;rcases ho.or with⟨k,_⟩|⟨_,_,_,_,_,q,_⟩
  ·rw[k]at hk;cases hk
  ·rw[(q e b).2.2];exact ne0 (q e b).2.1
 refine⟨⟨?_,?_⟩,?_,?_,?_⟩
 ·intro id
  unfold fB;by_cases h1:(id-1).toNat<a.length
  ·rw[qX h1];exact h.sound.1 id
  ·by_cases h2:(id-1).toNat=a.length
   ·rw[h2]
    simp only[CJ (kx _),Hq,List.getElem?_cons_zero,mq,qj];rcases ho.or with⟨_,k,_⟩|⟨_,k,_⟩
    ·rw[k];exact sH _
    ·rw[k];exact FQ _ _
   ·rw[oZ (by simp;omega)];exact sH _
 ·intro id hid
  rcases hc id (by rw[hid];decide)with h1|h1
  ·rw[jm _ h1]at hid
   obtain⟨p,r,s⟩:=h.sound.2 id hid;rw[oK _ h1];refine⟨p,r,fun e b=>?_⟩;obtain⟨t,j,l,u⟩:=s e b;have hne:eM a e.2.2≠0:=by rw[l];exact ne0 j
   rw[jm _ hne,kI _ hne,kI _ h1];exact⟨t,j,l,u⟩
  ·subst h1
   rw[c]at hid;rw[g,d];rcases ho.or with⟨k,_⟩|⟨_,v,y,k4,k5,f,_⟩
   ·rw[k]at hid;cases hid
   ·refine⟨k4,k5,fun e b=>?_⟩
    have hne:=i hid e b;rw[jm _ hne,kI _ hne,v]
    have:=(Bc.1 (sH (fI a o.eR))).2 e b
    exact⟨(f e b).1,(f e b).2.1,(f e b).2.2,by omega⟩
 ·intro x hx
  rcases sB.1 hx with hx|hx
  ·exact h.kinds x hx
  ·rw[nh.1 hx]
   rcases ho.or with⟨k,_⟩|⟨k,_⟩
   ·exact .inl k
   ·exact .inr k
 ·intro id hid
  rcases hc id (by rw[hid];decide)with h1|h1
  ·rw[jm _ h1]at hid
   rw[kI _ h1];exact h.low id hid
  ·subst h1
   rw[c]at hid;rw[d];rcases ho.or with⟨_,k,_⟩|⟨k,_⟩
   ·exact k
   ·rw[k]at hid;cases hid
 ·intro id hid
  rcases hc id (by rw[hid];decide)with h1|h1
  ·rw[jm _ h1]at hid
   rw[kI _ h1,oK _ h1,DN _ (m id hid)];exact h.high id hid
  ·subst h1
   rw[c]at hid;rw[d,g,DN _ (i hid)];rcases ho.or with⟨k,_⟩|⟨_,k,_⟩
   ·rw[k]at hid;cases hid
   ·exact k
theorem Ir(l:List Ob):∀(n:Nat) (t:LT),eU a n t->eU (a++l) n t
 |n,.file id,h=>by
  rw[eU]at h ⊢
  rw[jm l (by rw[h];decide)];exact h
 |n,.held f,h=>by rw[eU];trivial
 |n,.dir id,h=>by
  rw[eU]at h ⊢
  have hne:eM a id≠0:=by rw[h.1];decide
  rw[jm l hne,kI l hne];exact h
 |0,.own es,h=>by rw[eU]at h ⊢;exact h
 |n+1,.own es,h=>by
  rw[eU]at h ⊢
  exact⟨h.1,h.2.1,fun x hx=>⟨(h.2.2 x hx).1,Ir l n x.2 (h.2.2 x hx).2⟩⟩
def day:Nat->LT->Nat
 |_,.file _=>0
 |_,.dir _=>0
 |_,.held _=>1
 |0,.own _=>1
 |n+1,.own es=>1+(es.map fun x=>day n x.2).sum
def lv:FS:=⟨[],false,fun _=>true,fun _=>true⟩
def Fair {β:Type}(fs fs':FS)(x all none:β):Prop:=(fs.Next fs'/\x=all)\/(fs.FO fs'/\x=none)
theorem wV(id:Int):lv.fM id=(lv,true):=rfl
theorem oL(ey:List Ob)(c:LT):pu ey lv c=(lv,IH ey c):=by
 cases c<;>rfl
theorem yl(ey:List Ob)(fs:FS)(c:LT):Fair fs (pu ey fs c).1 (pu ey fs c).2 (pu ey lv c).2 (14,[]):=by
 rw[oL];rcases sQ ey fs c with⟨h1,h2⟩|⟨h1,h2⟩
 ·exact .inl ⟨h1,h2⟩
 ·exact .inr ⟨h1,h2⟩
theorem jV(ey:List Ob)(t:LT)(r:eL):il ey t lv r=(lv,ln ey t r):=by
 induction r with
 |nil=>rfl
 |cons n r b=>
  unfold il ln;simp only[b,oL];by_cases h0:(ln ey t r).1≠0
  ·simp only[ie h0]
  ·simp only[fY h0]
   by_cases a:(IH ey (ln ey t r).2).1≠0
   ·simp only[ie a]
   ·simp only[fY a]
    cases ip (IH ey (ln ey t r).2).2 n<;>rfl
theorem jW(ey:List Ob)(t:LT)(r:eL):lL ey t lv r=(lv,QR ey t r):=by
 unfold lL QR;simp only[jV,oL];by_cases h0:(ln ey t r).1≠0
 ·simp only[ie h0]
 ·simp only[fY h0]
theorem ym(ey:List Ob)(t:LT)(fs:FS)(r:eL):Fair fs (il ey t fs r).1 (il ey t fs r).2 (il ey t lv r).2 (14,.dir 0):=by
 rw[jV];rcases sR ey t fs r with⟨h1,h2,_⟩|⟨h1,h2⟩
 ·exact .inl ⟨h1,h2⟩
 ·exact .inr ⟨h1,h2⟩
theorem uq(ey:List Ob)(t:LT)(fs:FS)(r:eL):Fair fs (lL ey t fs r).1 (lL ey t fs r).2 (lL ey t lv r).2 (14,[]):=by
 rw[jW];rcases Ic ey t fs r with⟨h1,h2,_⟩|⟨h1,h2⟩
 ·exact .inl ⟨h1,h2⟩
 ·exact .inr ⟨h1,h2⟩
def ub (ey:List Ob)(fl:Nat->Option (Int×eD))(fs:FS)(f:Nat):FS×Int×eD:=
 match fl f with
 |none=>(fs,0,⟨#[]⟩)
 |some (id,d)=>if id=0 then(fs,0,d)else if(fs.fM id).2 then((fs.fM id).1,0,bytesOf ey id) else((fs.fM id).1,14,⟨#[]⟩)
def RK (ey:List Ob)(fl:Nat->Option (Int×eD))(fs:FS):LT->FS×Int×Int
 |.file id=>if(fs.fM id).2 then((fs.fM id).1,0,((bytesOf ey id).size:Int)) else((fs.fM id).1,14,0)
 |.held f=>((ub ey fl fs f).1,(ub ey fl fs f).2.1,((ub ey fl fs f).2.2.size:Int))
 |c=>((pu ey fs c).1,(pu ey fs c).2.1,((pu ey fs c).2.2.length:Int))
def jo (ey:List Ob)(fl:Nat->Option (Int×eD))(t:LT)(fs:FS)(r:eL):FS×Int×Int×Int:=
 let a:=il ey t fs r
 if a.2.1≠0 then(a.1,a.2.1,0,0) else
 let b:=RK ey fl a.1 a.2.2
 if b.2.1≠0 then(b.1,b.2.1,0,0) else(b.1,0,a.2.2.kind,b.2.2)
def gG (ey:List Ob)(t:LT)(fs:FS):eL->FS×Int×LT
 |[]=>(fs,6,t)
 |n::r=>
  let a:=lL ey t fs r
  if a.2.1≠0 then(a.1,a.2.1,t) else
  if(ip a.2.2 n).isSome then(a.1,6,t) else
  if 16<=a.2.2.length then(a.1,11,t) else(a.1,0,rb ey (fun ks=>sf ks n (.own [])) r.reverse t)
def rv (ey:List Ob)(fs:FS)(c:LT):FS×Int:=
 if c.kind=1 then(fs,0) else
 let k:=pu ey fs c
 if k.2.1=0/\0<k.2.2.length then(k.1,8) else(k.1,k.2.1)
def yn (ey:List Ob)(t:LT)(fs:FS):eL->FS×Int×LT
 |[]=>(fs,9,t)
 |n::r=>
  let a:=il ey t fs (n::r)
  if a.2.1≠0 then(a.1,a.2.1,t) else
  let v:=rv ey a.1 a.2.2
  if v.2≠0 then(v.1,v.2,t) else(v.1,0,rb ey (fun ks=>np ks n) r.reverse t)
def jd (ey:List Ob)(fs:FS)(e c:LT):FS×Int:=
 if e.kind=2/\c.kind=1 then(fs,7) else
 if e.kind=1/\c.kind=2 then(fs,5)else rv ey fs e
def jM (ey:List Ob)(fs:FS)(same:Bool)(ks:Kids)(n:eD)(c:LT):FS×Int:=
 match ip ks n with
 |some e=>jd ey fs e c
 |none=>if 16<=ks.length/\same=false then(fs,11) else(fs,0)
def xc (ey:List Ob)(t:LT)(fs:FS):eL->eL->FS×Int×LT
 |nf::d,nt::c=>
  let a:=il ey t fs (nf::d)
  if a.2.1≠0 then(a.1,a.2.1,t) else
  if(nf::d).reverse <+: (nt::c).reverse/\nf::d≠nt::c then(a.1,9,t) else
  let b:=lL ey t a.1 c
  if b.2.1≠0\/nf::d=nt::c then(b.1,b.2.1,t) else
  let v:=jM ey b.1 (decide (d=c)) b.2.2 nt a.2.2
  if v.2≠0 then(v.1,v.2,t) else
  if 5<((c.length+1:Nat):Int)+ig ey 5 a.2.2 then(v.1,11,t) else
  (v.1,0,rb ey (fun ks=>sf ks nt a.2.2) c.reverse (rb ey (fun ks=>np ks nf) d.reverse t))
 |_,_=>(fs,9,t)
theorem Fair.bind{β g:Type}{fs c d:FS}{x a n:β}{y b m:g}(h:Fair fs c x a n)(good:fs.Next c->x=a->Fair c d y b m)(i:fs.FO c->x=n->d=c/\y=m):Fair fs d y b m:=by
 rcases h with⟨h1,h2⟩|⟨h1,h2⟩
 ·rcases good h1 h2 with⟨e,f⟩|⟨e,f⟩
  ·exact .inl ⟨h1.trans e,f⟩
  ·exact .inr ⟨h1.fail e,f⟩
 ·obtain⟨rfl,k⟩:=i h1 h2
  exact .inr ⟨h1,k⟩
theorem lA{β:Type}(fs:FS)(x a:β):Fair fs fs x x a:=.inl ⟨FS.Next.refl _,rfl⟩
theorem Lv(ey:List Ob)(t:LT)(fs:FS)(r:eL):Fair fs (gG ey t fs r).1 (gG ey t fs r).2 (gG ey t lv r).2 (14,t):=by
 cases r with
 |nil=>exact lA _ _ _
 |cons n r=>
  unfold gG;rcases uq ey t fs r with⟨h1,h2⟩|⟨h1,h2⟩
  ·have a:=xr Prod.fst h2
   have e2:=xr Prod.snd h2;simp only[a,e2];refine .inl ⟨?_,?_⟩
   ·split
    ·exact h1
    ·split
     ·exact h1
     ·split<;>exact h1
   ·split
    ·rfl
    ·split
     ·rfl
     ·split<;>rfl
  ·have a:=xr Prod.fst h2
   simp only at a;simp only[a];exact .inr ⟨h1,rfl⟩
theorem zb(ey:List Ob)(fs:FS)(c:LT):Fair fs (rv ey fs c).1 (rv ey fs c).2 (rv ey lv c).2 14:=by
 unfold rv;by_cases h1:c.kind=1
 ·rw[ie h1,ie h1];exact lA _ _ _
 ·rw[fY h1,fY h1]
  refine(yl ey fs c).bind (fun hn a=>?_) (fun hf a=>?_)
  ·simp only[a]
   by_cases h:(pu ey lv c).2.1=0/\0<(pu ey lv c).2.2.length
   ·simp only[ie h];exact lA _ _ _
   ·simp only[fY h];exact lA _ _ _
  ·simp only[a];exact⟨rfl,rfl⟩
theorem Iu(ey:List Ob)(t:LT)(fs:FS)(r:eL):Fair fs (yn ey t fs r).1 (yn ey t fs r).2 (yn ey t lv r).2 (14,t):=by
 cases r with
 |nil=>exact lA _ _ _
 |cons n r=>
  unfold yn;refine(ym ey t fs (n::r)).bind (fun hn a=>?_) (fun hf a=>?_)
  ·simp only[a]
   by_cases h0:(il ey t lv (n::r)).2.1≠0
   ·simp only[ie h0];exact lA _ _ _
   ·simp only[fY h0]
    have b:(il ey t lv (n::r)).1=lv:=(by rw[jV]);rw[b];generalize (il ey t lv (n::r)).2.2=c;refine(zb ey _ c).bind (fun hn a=>?_) (fun hf a=>?_)
    ·simp only[a]
     by_cases hv:(rv ey lv c).2≠0
     ·simp only[ie hv];exact lA _ _ _
     ·simp only[fY hv];exact lA _ _ _
    ·simp only[a];exact⟨rfl,rfl⟩
  ·simp only[a];exact⟨rfl,rfl⟩
theorem Qb(ey:List Ob)(fs:FS)(b:Bool)(ks:Kids)(n:eD)(c:LT):Fair fs (jM ey fs b ks n c).1 (jM ey fs b ks n c).2 (jM ey lv b ks n c).2 14:=by
 unfold jM;cases ip ks n with
 |none=>
  simp only;by_cases h:16<=ks.length/\b=false
  ·rw[ie h,ie h];exact lA _ _ _
  ·rw[fY h,fY h];exact lA _ _ _
 |some e=>
  simp only;unfold jd;by_cases h:e.kind=2/\c.kind=1
  ·rw[ie h,ie h];exact lA _ _ _
  ·rw[fY h,fY h]
   by_cases h:e.kind=1/\c.kind=2
   ·rw[ie h,ie h];exact lA _ _ _
   ·rw[fY h,fY h];exact zb ey fs e
theorem Iw(ey:List Ob)(t:LT)(fs:FS)(b a:eL):Fair fs (xc ey t fs b a).1 (xc ey t fs b a).2 (xc ey t lv b a).2 (14,t):=by
 cases b with
 |nil=>cases a<;>exact lA _ _ _
 |cons nf b=>
  cases a with
  |nil=>exact lA _ _ _
  |cons nt a=>
   unfold xc;refine(ym ey t fs (nf::b)).bind (fun hn d=>?_) (fun hf d=>?_)
   ·simp only[d]
    by_cases h0:(il ey t lv (nf::b)).2.1≠0
    ·simp only[ie h0];exact lA _ _ _
    ·simp only[fY h0]
     by_cases f:(nf::b).reverse <+: (nt::a).reverse/\nf::b≠nt::a
     ·simp only[ie f];exact lA _ _ _
     ·simp only[fY f]
      generalize (il ey t fs (nf::b)).1=g;have e:(il ey t lv (nf::b)).1=lv:=by rw[jV]
      rw[e];generalize (il ey t lv (nf::b)).2.2=c;refine(uq ey t g a).bind (fun hn d=>?_) (fun hf d=>?_)
      ·simp only[d]
       by_cases h1:(lL ey t lv a).2.1≠0\/nf::b=nt::a
       ·simp only[ie h1];exact lA _ _ _
       ·simp only[fY h1]
        have e:(lL ey t lv a).1=lv:=(by rw[jW]);rw[e];generalize (lL ey t lv a).2.2=ks;generalize (lL ey t g a).1=i;refine(Qb ey i (decide (b=a)) ks nt c).bind (fun hn d=>?_) (fun hf d=>?_)
        ·simp only[d]
         by_cases hv:(jM ey lv (decide (b=a)) ks nt c).2≠0
         ·simp only[ie hv];exact lA _ _ _
         ·simp only[fY hv]
          by_cases h:5<((a.length+1:Nat):Int)+ig ey 5 c
          ·simp only[ie h];exact lA _ _ _
          ·simp only[fY h];exact lA _ _ _
        ·simp only[d];exact⟨rfl,rfl⟩
      ·simp only[d]
       rw[ie (.inl (by decide))];exact⟨rfl,rfl⟩
   ·simp only[d];exact⟨rfl,rfl⟩
theorem DO(fs:FS)(id:Int):Fair fs (fs.fM id).1 (fs.fM id).2 true false:=by
 rcases fs.yZ id with⟨h1,h2,_⟩|⟨h1,h2⟩
 ·exact .inl ⟨h2,h1⟩
 ·exact .inr ⟨h2,h1⟩
theorem Bd(ey:List Ob)(fl:Nat->Option (Int×eD))(fs:FS)(f:Nat):Fair fs (ub ey fl fs f).1 (ub ey fl fs f).2 (ub ey fl lv f).2 (14,hZ):=by
 unfold ub;cases fl f with
 |none=>exact lA _ _ _
 |some x=>
  obtain⟨id,d⟩:=x;simp only;by_cases h:id=0
  ·rw[ie h,ie h];exact lA _ _ _
  ·rw[fY h,fY h,wV]
   refine(DO fs id).bind (fun hn a=>?_) (fun hf a=>?_)
   ·rw[ie a];exact lA _ _ _
   ·rw[fY (by rw[a];decide)];exact⟨rfl,rfl⟩
theorem Qc(ey:List Ob)(fl:Nat->Option (Int×eD))(fs:FS)(c:LT):Fair fs (RK ey fl fs c).1 (RK ey fl fs c).2 (RK ey fl lv c).2 (14,0):=by
 cases c with
 |file id=>
  simp only[RK,wV];refine(DO fs id).bind (fun hn a=>?_) (fun hf a=>?_)
  ·rw[ie a];exact lA _ _ _
  ·rw[fY (by rw[a];decide)];exact⟨rfl,rfl⟩
 |held f=>
  simp only[RK];refine(Bd ey fl fs f).bind (fun hn a=>?_) (fun hf a=>?_)
  ·simp only[a];exact lA _ _ _
  ·simp only[a];exact⟨trivial,rfl⟩
 |dir id=>
  simp only[RK];refine(yl ey fs (.dir id)).bind (fun hn a=>?_) (fun hf a=>?_)
  ·simp only[a];exact lA _ _ _
  ·simp only[a];exact⟨trivial,rfl⟩
 |own es=>
  simp only[RK];refine(yl ey fs (.own es)).bind (fun hn a=>?_) (fun hf a=>?_)
  ·simp only[a];exact lA _ _ _
  ·simp only[a];exact⟨trivial,rfl⟩
theorem Qd(ey:List Ob)(fl:Nat->Option (Int×eD))(t:LT)(fs:FS)(r:eL):Fair fs (jo ey fl t fs r).1 (jo ey fl t fs r).2 (jo ey fl t lv r).2 (14,0,0):=by
 unfold jo;refine(ym ey t fs r).bind (fun hn a=>?_) (fun hf a=>?_)
 ·simp only[a]
  by_cases h0:(il ey t lv r).2.1≠0
  ·simp only[ie h0];exact lA _ _ _
  ·simp only[fY h0]
   have b:(il ey t lv r).1=lv:=by rw[jV]
   rw[b];generalize (il ey t lv r).2.2=c;refine(Qc ey fl _ c).bind (fun hn a=>?_) (fun hf a=>?_)
   ·simp only[a]
    by_cases hv:(RK ey fl lv c).2.1≠0
    ·simp only[ie hv];exact lA _ _ _
    ·simp only[fY hv];exact lA _ _ _
   ·simp only[a];exact⟨rfl,rfl⟩
 ·simp only[a];exact⟨rfl,rfl⟩
section
variable {ey:List Ob}{fc:Hd}{t d:LT}{q:eL}{ks:Kids}{n:eD}
theorem yo(a:t.at ey q=some d)(r:eL):UV ey fc t (q++r)=UV ey fc d r:=by
 unfold UV;rw[kB,a];rfl
theorem kr(a:t.at ey q=some d)(hk:kids ey d=some ks)(m:eD)(r:eL):UV ey fc t (q++m::r)=(ip ks m).bind fun c=>UV ey fc c r:=by
 rw[yo a,yv,hk,qr]
theorem Af(hr:eP ks)(a:t.at ey q=some d)(hk:kids ey d=some ks)(c:LT):
  (∀r,UV ey fc (rb ey (fun ks=>sf ks n c) q t) (q++n::r)=UV ey fc c r)/\∀x,¬(q++[n]) <+: x->UV ey fc (rb ey (fun ks=>sf ks n c) q t) x=UV ey fc t x:=by
 obtain⟨h1,h2⟩:=FM ey fc (fun ks=>sf ks n c) q t d ks a hk;refine⟨fun r=>?_,fun x hx=>?_⟩
 ·rw[h1,sZ hr,ie rfl];rfl
 ·by_cases hq:∃m r,x=q++m::r
  ·obtain⟨m,r,rfl⟩:=hq
   have hm:m≠n:=fun e=>hx (by rw[e];exact⟨r,by simp⟩);rw[h1,sZ hr,fY hm,kr a hk]
  ·exact h2 x hq
theorem Ix(hr:eP ks)(ht:iv ks n=true)(a:t.at ey q=some d)(hk:kids ey d=some ks):
  (∀r,UV ey fc (rb ey (fun ks=>np ks n) q t) (q++n::r)=none)/\∀x,¬(q++[n]) <+: x->UV ey fc (rb ey (fun ks=>np ks n) q t) x=UV ey fc t x:=by
 obtain⟨h1,h2⟩:=FM ey fc (fun ks=>np ks n) q t d ks a hk;refine⟨fun r=>?_,fun x hx=>?_⟩
 ·rw[h1,jD hr ht,ie rfl];rfl
 ·by_cases hq:∃m r,x=q++m::r
  ·obtain⟨m,r,rfl⟩:=hq
   have hm:m≠n:=fun e=>hx (by rw[e];exact⟨r,by simp⟩);rw[h1,jD hr ht,fY hm,kr a hk]
  ·exact h2 x hq
end
theorem Lx{fc:Hd}(hS:Sound ey){t:LT}(d:eU ey k t){e f c:LT}{b i:Kids}
  (a:t.at ey qf=some e)(hk:kids ey e=some b)(hp:ip b nf=some c)(j:t.at ey qt=some f)(l:kids ey f=some i)(PZ:¬(qf++[nf]) <+: (qt++[nt]))(x:eL):
  UV ey fc (rb ey (fun ks=>sf ks nt c) qt (rb ey (fun ks=>np ks nf) qf t)) x =
   if(qt++[nt]) <+: x then UV ey fc t ((qf++[nf])++x.drop (qt++[nt]).length)else if(qf++[nf]) <+: x then none else UV ey fc t x:=by
 have hr:=(lj hS (py hS _ d a).2.1 hk).1;have ht:iv b nf=true:=by rw[<-oY hr,hp];rfl
 have Oi:¬(qf++[nf]) <+: qt:=fun h=>PZ (h.trans (nG _ _));obtain⟨d1,v,g,e2,_⟩:=Ba hr a hk ht j l Oi;have m:=wT hS d a hk nf;have o:=(lj hS (py hS _ m g).2.1 e2).1;obtain⟨p,q⟩:=Af (fc:=fc) (n:=nt) o g e2 c;obtain⟨s,u⟩:=Ix (fc:=fc) hr ht a hk;by_cases h:(qt++[nt]) <+: x
 ·rw[ie h]
  obtain⟨r,rfl⟩:=h;rw[pZ,show(qt++[nt])++r=qt++nt::r by simp,p,show(qf++[nf])++r=qf++nf::r by simp,kr a hk,hp];rfl
 ·rw[fY h,q x h]
  by_cases h2:(qf++[nf]) <+: x
  ·rw[ie h2]
   obtain⟨r,rfl⟩:=h2;rw[show(qf++[nf])++r=qf++nf::r by simp,s]
  ·rw[fY h2,u x h2]
theorem wW(ey:List Ob)(fc:Hd)(t:LT):∀r:eL,
  ((ln ey t r).1=0/\t.at ey r.reverse=some (ln ey t r).2)\/((ln ey t r).1≠0/\UV ey fc t r.reverse=none/\((ln ey t r).1=4\/(ln ey t r).1=5))
 |[]=>.inl ⟨rfl,mr _ _⟩
 |n::r=>by
  by_cases h:(ln ey t (n::r)).1=0
  ·exact .inl ⟨h,(AW ey t (n::r)).1 h⟩
  ·refine .inr ⟨h,?_,?_⟩
   ·unfold UV;rw[(AW ey t (n::r)).2 h];rfl
   ·rcases wW ey fc t r with⟨h0,b⟩|⟨h0,_,a⟩
    ·rw[ln]at h ⊢
     simp only at h ⊢
     rw[fY (by simpa using h0)]at h ⊢
     cases hd:(ln ey t r).2 with
     |file i=>rw[hd]at h;simp[IH]
     |held f=>rw[hd]at h;simp[IH]
     |own es=>simp only[hd,IH]at h ⊢;cases hp:ip es n<;>simp[hp]at h ⊢
     |dir id=>simp only[hd,IH]at h ⊢;cases hp:ip ((eZ ey id).map iF) n<;>simp[hp]at h ⊢
    ·rw[ln]
     simp only
     rw[ie h0];exact a
structure TY (a:List Ob):Prop where
 file:∀i (h:i<a.length),a[i].kind=1->fileAt a a[i].data=some i
 dir:∀i (h:i<a.length),a[i].kind=2->nj a a[i].eR=some i
theorem TY.snoc(h:TY a)(ho:Iq a o):TY (a++[o]):=by
 refine⟨fun i hi hk=>?_,fun i hi hk=>?_⟩
 ·rw[sM]
  by_cases h1:i<a.length
  ·rw[KM h1]at hk ⊢
   rw[h.file i h1 hk];rfl
  ·have h2:i=a.length:=by simp at hi;omega
   subst h2;simp only[List.getElem_concat_length]at hk ⊢;rcases ho.or with⟨_,_,_,hf⟩|⟨hk2,_⟩
   ·rw[hf,ie ⟨hk,trivial⟩];rfl
   ·rw[hk]at hk2;cases hk2
 ·rw[vt]
  by_cases h1:i<a.length
  ·rw[KM h1]at hk ⊢
   rw[h.dir i h1 hk];rfl
  ·have h2:i=a.length:=by simp at hi;omega
   subst h2;simp only[List.getElem_concat_length]at hk ⊢;rcases ho.or with⟨hk2,_⟩|⟨_,_,_,_,_,_,hf⟩
   ·rw[hk]at hk2;cases hk2
   ·rw[hf,ie ⟨hk,trivial⟩];rfl
theorem DR{ks:Kids}(hr:eP ks)(hk:k<ks.length):ip ks (ks[k]).1=some (ks[k]).2:=by
 cases h:ip ks (ks[k]).1 with
 |none=>
  exfalso;unfold ip at h;rw[SU,Td]at h;exact h _ (kj hk) (by simp)
 |some c=>rw[kW hr h (kj hk) rfl]
structure CX where
 t:gA
 p:Nat
 base:List Ob
def gh (ft:CX)(F:Nat->Prop)(w:World)(s:Nat)(ey:List Ob):Prop:=lG ft.t F w s ft.p ey/\ft.base <+: ey/\Exact ey/\TY ey
section
variable {ft:CX}{F F':Nat->Prop}{w w':World}{s:Nat}{ey ky:List Ob}
theorem gh.inv(h:gh ft F w s ey):Inv ft.t F w s ey:=h.1.inv
theorem gh.keep(h:gh ft F w s ey)(hF:∀k,F k->F' k)(hk:∀k,F k->w'.heap[k]?=w.heap[k]?):gh ft F' w' s ey:=⟨h.1.keep (fun k _=>hk k) (fun k _=>hF k),h.2⟩
theorem gh.below(h:gh ft F w s ey)(a:ik w w')(hF:∀k,k<w.heap.size->F k->F' k):gh ft F' w' s ey:=⟨h.1.below a hF,h.2⟩
theorem Iy{d:eD}{e:Ending}(h:jB ey ky d e):ky=ey\/∃o,Iq ey o/\ky=ey++[o]:=by
 rcases h with⟨_,h,_⟩|⟨_,h,_⟩|⟨_,_,_,h,_⟩|⟨h1,h2,_,h,_⟩
 ·exact .inl h
 ·exact .inl h
 ·exact .inl h
 ·exact .inr ⟨zr d,⟨.inl ⟨rfl,rfl,h1,h2⟩⟩,h⟩
theorem Lz{e:Ending}(f:Exact ey)(h:iJ ey ky es e):ky=ey\/∃o,Iq ey o/\ky=ey++[o]:=by
 rcases h with⟨_,h,_⟩|⟨hv,⟨_,h,_⟩|⟨_,_,h,_⟩|⟨_,_,_,h,_⟩|⟨_,iE,hg,es',c,g,_,⟨_,h,_⟩|⟨_,h,_⟩|⟨_,_,_,h,_⟩|⟨i,hd,_,⟨o,hk,a,j,h⟩,_⟩⟩⟩
 ·exact .inl h
 ·exact .inl h
 ·exact .inl h
 ·exact .inl h
 ·exact .inl h
 ·exact .inl h
 ·exact .inl h
 ·refine .inr ⟨o,⟨.inr ⟨hk,by rw[a];exact j,by rw[a];exact i,by rw[a];exact g,by rw[a,c.length_eq];exact iE,fun e d=>?_,by rw[a];exact hd⟩⟩,h⟩
  rw[a]at d;have hm:=c.mem_iff.1 d;have b:=hg e hm;unfold EQ at b;simp only[xP,Bool.not_eq_true',EX,beq_iff_eq]at b;refine⟨hv e hm,?_,b.2⟩;obtain⟨k,l⟩:=PH b.1
  have:=Bb f.kinds k l
  rw[b.2]at this;exact this
theorem gh.put(h:gh ft F w s ey)(hp:lG ft.t F' w' s ft.p ky)(ho:ky=ey\/∃o,Iq ey o/\ky=ey++[o]):gh ft F' w' s ky:=by
 obtain⟨_,h2,h3,a⟩:=h;rcases ho with rfl|⟨o,ho,rfl⟩
 ·exact⟨hp,h2,h3,a⟩
 ·exact⟨hp,h2.trans (nG _ _),h3.snoc ho,a.snoc ho⟩
theorem uU(h:gh ft F w s ey)(d:eD)(hd:d.size<=maxLen):
  gc 35 #[hh s,.string d] w fun e w'=>∃ky,jB ey ky d e/\gh ft (kp F w w') w' s ky/\eA F w w':=
 (CT h.1 d hd).mono fun e w' ⟨ky,h1,h2,h3⟩=>⟨ky,h1,h.put h2 (Iy h1),h3⟩
theorem wX(h:gh ft F w s ey)(b off m c0:Nat)(es:List eN)
  (hl:es.length=m)(c:b<w.heap.size)(d:m*32<=140737488355328)(hc:∀j a,(flat es)[j]?=some a->w.cell? (eI b (off+j))=some a)(f:∀e∈es,e.1.size<=maxLen):
  gc 26 #[hh s,.slice (some (eI b off)) m c0] w fun e w'=>∃ky,iJ ey ky es e/\gh ft (kp F w w') w' s ky/\eA F w w':=
 (Fx h.1 b off m c0 es hl c d hc f).mono fun e w' ⟨ky,h1,h2,h3⟩=>⟨ky,h1,h.put h2 (Lz h.2.2.1 h1),h3⟩
theorem uV(h:gh ft F w s ey)(id:Int):
  gc 40 #[hh s,eJ id] w fun e w'=>Fy ey id e/\ik w w':=FC h.inv id
theorem wY(h:gh ft F w s ey)(id:Int):
  gc 43 #[hh s,eJ id] w fun e w'=>Fz w w' ey id e/\ik w w':=HQ h.inv id
theorem CY(h:gh ft F w s ey):
  gc 45 #[hh s] w (Do (eJ (ey.length:Int)) w):=FD h.inv
end
theorem Be(id:Int):eM [] id=0:=Pl (by simp;omega)
theorem Qe:Exact []:=⟨⟨fun id=>by unfold fB;simp,fun id hk=>by rw[Be]at hk;cases hk⟩,fun o ho=>(by cases ho),fun id hk=>(by rw[Be]at hk;cases hk),fun id hk=>(by rw[Be]at hk;cases hk)⟩
theorem TZ:TY []:=⟨fun i h=>(by cases h),fun i h=>(by cases h)⟩
end Go.Proofs.YtlgidcmmgohagaaGreat
