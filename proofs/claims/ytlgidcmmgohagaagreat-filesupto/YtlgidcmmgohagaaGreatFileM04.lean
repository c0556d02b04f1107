/- What is proved here: 'grows'. -/
import Derived.Test.YtlgidcmmgohagaaGreatFileM03
import Derived.Test.YtlgidcmmgohagaaGreatFileM02
import Derived.Maps.RangeWalk
namespace Go.Proofs.YtlgidcmmgohagaaGreat
open Go.RowKit Go.Sort Go.Shelf Go.Proofs.Tryz
set_option linter.unusedVariables false
set_option maxRecDepth 100000
set_option maxHeartbeats 16000000
variable {p q qf qt:eB}{W b k n0 r s:Nat}{ids ps:List Int}{known:List Bool}{c10 c11 c5 c6 c7 c8 c9 key z:Value}{a ei:List Ob}{kl:Lit}{n nf nt:eu}{M:Lit->Option Value}{F:Nat->Prop}{T e t:fL}{w w1 w2 wo:World}{es:List eD}{o:Ob}{K:eB->List eD}{D:DataW Value}{x:Int}
theorem Jp:(prog.info? 29).map (fun i=>(i.zero,i.size,i.bytes))=some (some (ed 0),1,8):=by kernel_rfl
theorem TN:(prog.info? 4).map (fun i=>(i.zero,i.size,i.bytes))=some (some (.bool false),1,1):=by kernel_rfl
theorem TP:(prog.info? 3).map (fun i=>(i.zero,i.size,i.bytes))=some (some (ed 0),1,8):=by kernel_rfl
def vU (W:Nat)(w:World):Nat:=match w.cell? ⟨W,2,none⟩ with|some (.slice _ n _)=>n|_=>0
theorem one_cell(w:World)(v:Value)(t:fL)(n:Nat)(hn:n=w.heap.size):∀j a,[v][j]?=some a->(w.alloc (.cells #[v] t)).cell? (((eb n 0):Addr).add j)=some a:=by
 subst hn;intro j a h
 match j,h with
 |0,h=>simpa [Addr.add]using h
 |j+1,h=>simp at h
section
variable {F G:Nat->Prop}{w:World}{W s r:Nat}{ia ka pa:e5}{ic kc pc:Nat}{ids:List Int}{known:List Bool}{paths:List Int}{c5 c6 c7 c8 c9 c10 c11:Value}{ep:List Ob}
def bP:Nat->Int
 |0=>0
 |1=>16
 |2=>272
 |_+3=>301
def cP:Nat->Int
 |0=>0
 |1=>1
 |2=>17
 |_+3=>302
def mO (ps:List Int):Prop:=∀i (h:i<ps.length),0<=ps[i]/\ps[i]<=bP i
theorem Sl(n:Nat):0<=bP n/\bP n<=301:=by
 match n with
 |0=>decide
 |1=>decide
 |2=>decide
 |_+3=>exact⟨show(0:Int)<=301 by decide,show(301:Int)<=301 by decide⟩
theorem TQ{j n:Nat}(h:j<n):1+bP j<=cP n:=by
 match n,h with
 |1,h=>
  obtain rfl:j=0:=by omega
  decide
 |2,h=>
  have:j=0\/j=1:=by omega
  rcases this with rfl|rfl<;>decide
 |_+3,_=>
  have:=(Sl j).2
  show 1+bP j<=302;omega
theorem NU(n:Nat):0<=cP n/\cP n<=302:=by
 match n with
 |0=>decide
 |1=>decide
 |2=>decide
 |_+3=>exact⟨show(0:Int)<=302 by decide,show(302:Int)<=302 by decide⟩
theorem NV{n:Nat}(h:x<=cP n*16):(300<x->(301:Int)<=bP n)/\(¬300<x->x<=bP n):=by
 match n,h with
 |0,h=>exact⟨fun h1=>by simp only[cP]at h;omega,fun _=>by simp only[cP,bP]at h ⊢;omega⟩
 |1,h=>exact⟨fun h1=>by simp only[cP]at h;omega,fun _=>by simp only[cP,bP]at h ⊢;omega⟩
 |2,h=>exact⟨fun h1=>by simp only[cP]at h;omega,fun _=>by simp only[cP,bP]at h ⊢;omega⟩
 |_+3,h=>exact⟨fun _=>pT _,fun h1=>by show x<=301;omega⟩
theorem mO.snoc(h:mO ps)(hx:0<=x/\x<=bP ps.length):mO (ps++[x]):=by
 intro i hi;rw[QA];split
 ·exact h i (by assumption)
 ·rename_i hn
  have:i=ps.length:=by simp at hi;omega
  subst this;simpa using hx
def gh (F:Nat->Prop)(w wo:World)(W s r:Nat)(ids:List Int)(known:List Bool)(n0 k:Nat)(c5 c6 c7 c8 c9 c10 c11:Value):Prop:=
 ∃ia ka pa ic kc pc paths,e8 (ie F w wo) wo W s r ia ka pa ic kc pc (ids++List.replicate k 0) (known++List.replicate k false) paths c5 c6 c7 c8 c9 c10 c11/\paths.length=n0+k/\mO paths/\en F w wo
theorem gh.drewN(h:gh F w wo W s r ids known n0 k c5 c6 c7 c8 c9 c10 c11)(q:Nat):gh F w (wo.drewN q) W s r ids known n0 k c5 c6 c7 c8 c9 c10 c11:=by
 obtain⟨ia,ka,pa,ic,kc,pc,ps,hl,a,b,c⟩:=h;exact⟨ia,ka,pa,ic,kc,pc,ps,hl.keep (fun _ h=>h) (fun _ _=>rfl),a,b,oH c q⟩
theorem xq:∀a∈[Value.int .i64 x],a.oneCell'=true:=by intro a hu;simp at hu;subst hu;rfl
theorem DS{x:Bool}:∀a∈[Value.bool x],a.oneCell'=true:=by intro a hu;simp at hu;subst hu;rfl
theorem jx(w:World)(q:Nat)(o:Obj):∀k,k<w.heap.size->((w.drewN q).alloc o).heap[k]?=w.heap[k]?:=fun k hk=>jU _ _ _ hk
theorem hZ(w:World)(o:Obj):∀k,k<w.heap.size->(w.alloc o).heap[k]?=w.heap[k]?:=fun k hk=>jU _ _ _ hk
theorem oX{w a w2:World}{cs:Array Value}{own:Option Nat}(hW:w.heap[W]?=some (.cells cs T (0,0)))(kb:∀k,k<w.heap.size->a.heap[k]?=w.heap[k]?)(hs:w.heap.size<=a.heap.size)(hg:a.grownBy w2 own)(hne:some W≠own):w2.heap[W]?=some (.cells cs T (0,0)):=by
 have hl:W<w.heap.size:=(lF.1 hW).1;rw[hg.block W (by omega) hne,kb W hl,hW]
theorem qQ{a a1 a2 a3 b c d e f g j k:Value}(h:w.heap[W]?=some (.cells #[a,a1,a2,a3,b,c,d,e,f,g,j,k] T (0,0))):
  w.cell? (eb W 0)=some a/\w.cell? (eb W 1)=some a1/\w.cell? (eb W 2)=some a2/\w.cell? (eb W 3)=some a3/\w.cell? (eb W 4)=some b/\∀i,w.frozen? (eb W i)=false:=by
 refine⟨?_,?_,?_,?_,?_,fun i=>?_⟩<;>simp[World.cell?,World.frozen?,h]
theorem e8.mono{F F':Nat->Prop}{ia ka pa:e5}{ic kc pc:Nat}{paths:List Int}(h:e8 F w W s r ia ka pa ic kc pc ids known paths c5 c6 c7 c8 c9 c10 c11)(hF:∀k,F k->F' k):e8 F' w W s r ia ka pa ic kc pc ids known paths c5 c6 c7 c8 c9 c10 c11:=h.keep hF (fun _ _=>rfl)
theorem iX(h1:w.heap.size<=w1.heap.size)(h2:w1.heap.size<=w2.heap.size)(h:ie (ie F w w1) w1 w2 k):ie F w w2 k:=by
 rcases h with(h|h)|h
 ·exact .inl h
 ·exact .inr ⟨h.1,kv h.2 h2⟩
 ·exact .inr ⟨pD h1 h.1,h.2⟩
theorem rr(h1:en F w w1)(h2:en (ie F w w1) w1 w2):en F w w2:=
 ⟨h2.os.trans h1.os,h2.tape.trans h1.tape,h2.output.trans h1.output,pD h1.size h2.size,fun k hk hn=>(h2.block k (kv hk h1.size) (by rintro(h|h);exact hn h;omega)).trans (h1.block k hk hn)⟩
theorem gh.three{w wo w1 w2 w3:World}{j l m n o p b c d:e5}{t u v y z A e f g:Nat}(i:en F w wo)
  (h1:e8 (ie (ie F w wo) wo w1) w1 W s r j l m t u v ((ids++List.replicate k 0)++[0]) (known++List.replicate k false) ps c5 c6 c7 c8 c9 c10 c11/\en (ie F w wo) wo w1)
  (h2:e8 (ie (ie (ie F w wo) wo w1) w1 w2) w2 W s r n o p y z A ((ids++List.replicate k 0)++[0]) ((known++List.replicate k false)++[false]) ps c5 c6 c7 c8 c9 c10 c11/\en (ie (ie F w wo) wo w1) w1 w2)
  (h3:e8 (ie (ie (ie (ie F w wo) wo w1) w1 w2) w2 w3) w3 W s r b c d e f g ((ids++List.replicate k 0)++[0]) ((known++List.replicate k false)++[false]) (ps++[x]) c5 c6 c7 c8 c9 c10 c11/\en (ie (ie (ie F w wo) wo w1) w1 w2) w2 w3)
  (B:ps.length=n0+k)(C:mO ps)(hx:0<=x/\x<=bP ps.length):gh F w w3 W s r ids known n0 (k+1) c5 c6 c7 c8 c9 c10 c11:=by
 have D:=h1.2.size;have E:=h2.2.size;have G:=h3.2.size;have H:=i.size;refine⟨b,c,d,e,f,g,ps++[x],?_,by simp[B];omega,?_,?_⟩
 ·have:=h3.1.mono (F':=ie F w w3) (fun q hq=>by
   rcases hq with((( h|h)|h)|h)|h
   ·exact .inl h
   ·exact .inr ⟨h.1,by omega⟩
   ·exact .inr ⟨by omega,by omega⟩
   ·exact .inr ⟨by omega,by omega⟩
   ·exact .inr ⟨by omega,h.2⟩)
  rw[iK,iK,<-BR,<-BR]at this;exact this
 ·exact C.snoc hx
 ·have a:=rr (rr h1.2 h2.2:en (ie F w wo) wo w2) ((⟨h3.2.os,h3.2.tape,h3.2.output,h3.2.size,fun q hq hn=>h3.2.block q hq (fun h=>hn (iX D E h))⟩:en (ie (ie F w wo) wo w2) w2 w3))
  exact rr i a
theorem gh.vU(h:gh F w wo W s r ids known n0 k c5 c6 c7 c8 c9 c10 c11):YtlgidcmmgohagaaGreat.vU W wo=ids.length+k:=by
 obtain⟨ia,ka,pa,ic,kc,pc,ps,hl,a,b,c⟩:=h;unfold YtlgidcmmgohagaaGreat.vU;rw[hl.c2];simp
theorem lH{F G:Nat->Prop}{ep:List Ob}(hr:eU G w r ep)(a:∀k,G k->k<w.heap.size/\¬F k)(hk:en F w wo):eU G wo r ep:=
 hr.keep (fun _ h=>h) (fun k b=>hk.block k (a k b).1 (a k b).2)
theorem AD(h:e8 F w W s r ia ka pa ic kc pc ids known paths c5 c6 c7 c8 c9 c10 c11)(hr:eU G w r ep)(am:∀k,G k->k<w.heap.size/\¬F k)(hlk:known.length=ids.length)(an:paths.length=ids.length)(hle:ids.length<=ep.length)
  (ao:∀i (hi:i<ep.length),∀e∈ep[i].eG,0<=e.2.2/\e.2.2<(i:Int))(K:mO paths):
  eK 79 #[fj W] w fun e w'=>e=.returned (.tuple #[])/\gh F w w' W s r ids known ids.length (ep.length-ids.length) c5 c6 c7 c8 c9 c10 c11:=by
 have aQ:Hid (eU G w r ep):=hr;have aR:Hid (∀k,G k->k<w.heap.size/\¬F k):=am;have aS:Hid (∀i (hi:i<ep.length),∀e∈ep[i].eG,0<=e.2.2/\e.2.2<(i:Int)):=ao;have aT:Hid (known.length=ids.length):=hlk;have aU:Hid (gh F w w W s r ids known ids.length 0 c5 c6 c7 c8 c9 c10 c11):=⟨ia,ka,pa,ic,kc,pc,paths,by rw[List.replicate_zero,List.replicate_zero,nH,nH];exact h.keep (fun k hk=>Or.inl hk) (fun _ _=>rfl),by simpa using an,K,⟨rfl,rfl,rfl,io _,fun _ _ _=>rfl⟩⟩;have hm:ep.length<=400:=by obtain⟨_,_,h⟩:=hr;exact h.many
 clear h hr am ao K hlk an;go_enter func79,ntmps79;go_wp2
 go_loopw [] (fun wr=>∃k:Nat,ids.length+k<=ep.length/\Hid (gh F w wr W s r ids known ids.length k c5 c6 c7 c8 c9 c10 c11)) (fun wr=>ep.length-vU W wr)
 case atStart=>exact⟨0,hle,aU.out⟩
 case round=>
  obtain⟨k,hk,ap⟩:=hrel;obtain⟨ia,ka,pa,ic,kc,pc,ps,hl,b,Y,Z⟩:=ap.out;have I:(ids++List.replicate k (0:Int)).length=ids.length+k:=by simp
  have l:(known++List.replicate k false).length=ids.length+k:=by simp[aT.out]
  have bh:=hl.c1;have e2:=hl.c2;have aa:=hl.c4;rw[I]at e2;rw[b]at aa;obtain⟨bi,bj,ab⟩:=lH aQ.out aR.out Z;have bk:=ab.c0;obtain⟨n,hn⟩:∃n,n=ids.length+k:=⟨_,rfl⟩;rw[<-hn]at e2 aa hk;have a:Hid (n=ids.length+k):=hn;have aq:Hid (vU W wr=n):=by unfold vU;rw[e2];rfl
  by_cases ac:n<ep.length
  ·have bl:(n:Int)<(ep.length:Int):=by omega
   obtain⟨g,rfl,bm,_,_,ad,_⟩:=iG ab.row rfl ac;have L:=ab.xe ep[n] (iF ac);have ae:=aS.out n ac;obtain⟨o,ho⟩:∃o,o=ep[n]:=⟨_,rfl⟩;rw[<-ho]at L ae ad;obtain⟨ok,od,ar,el,au,es,bn⟩:=o;have af:wr.ownsRow 0 112 3 (.slice ar el au) el (flat es):=L.row;have bo:wr.cell? (eb g (n*4+2))=some (.slice ar el au):=ad;have bp:el<=16:=L.few;have aV:Hid (es.length=el):=L.len;have aW:Hid (∀e∈es,0<=e.2.2/\e.2.2<(n:Int)):=ae;have ag:Hid (ps.length=n):=by rw[hn];exact b
   clear ho L ae ad hn;go_wp2
   go_quiet (fail)
   go_wp2
   go_quiet (fail)
   go_wp2;rename World=>wo
   go_loopw [3,4] (fun v i wq=>∃j:Nat,∃x:Int,j<=el/\i=.int .i64 j/\v=.int .i64 x/\0<=x/\x<=cP n*j/\(∃q,wq=wo.drewN q)) (fun _ i _=>el-(intOf i).toNat)
   case atStart=>exact⟨0,0,oY _,rfl,rfl,by omega,by omega,⟨_,by rw[BU]⟩⟩
   case round=>
    obtain⟨j,x,hj,rfl,rfl,bq,av,⟨q,rfl⟩⟩:=hrel;by_cases aX:j<el
    ·have aw:j<es.length:=by rw[aV.out];exact aX
     obtain⟨aY,br,ax⟩:=ej af (by omega);obtain rfl:=(kW ax).1;have bs:aY<wo.heap.size:=ee af rfl;obtain⟨_,_,a2⟩:=i2 (off:=0) (hh af) aw;rw[PH]at a2;obtain⟨aZ,a0⟩:=aW.out _ (iF aw);obtain⟨f,ay⟩:∃f:Nat,es[j].2.2=(f:Int):=⟨es[j].2.2.toNat,by omega⟩;have az:f<n:=by omega
     have bt:(f:Int)<(n:Int):=(by omega);rw[ay]at a2;have aA:f<ps.length:=by rw[ag.out];exact az
     obtain⟨bu,M2,bv,bw,_⟩:=row_one hl.ny (i:=f) (v:=.int .i64 ps[f]) (by simp[encI,gJ aA]);rw[M2]at aa;obtain⟨bx,bz⟩:=Y f aA;have bA:=TQ az;have bB:=(Sl f).2;have a1:=NU n;have a3:(cP n)*((j:Int)+1)=cP n*(j:Int)+cP n:=by rw[Int.mul_add,Int.mul_one]
     have bC:cP n*(j:Int)<=302*16:=Int.mul_le_mul a1.2 (by omega) (by omega) (by omega);clear ax M2 ay aZ a0;go_wp2
     go_quiet (fail)
     go_wp2;go_roundw
     case rel=>exact⟨j+1,x+1+ps[f],by omega,by go_num,rfl,by omega,by push_cast;rw[a3];omega,⟨_,rfl⟩⟩
     case measure=>simp[intOf];omega
    ·have J:Hid (wo.ownsRow 0 29 1 (.slice ia n ic) n (encI (ids++List.replicate k 0))):=by have:=hl.jI;rw[I,<-a.out]at this;exact this
     have a4:=hl.c3;rw[l,<-a.out]at a4;have fz:=hl.fz;obtain⟨aB,aC,aD,aE,aF⟩:=H4 Jp;obtain⟨aG,aH,aI,aJ,aK⟩:=H4 TN;obtain⟨aL,K,aM,aN,aO⟩:=H4 TP;have bD:W<wo.heap.size:=hl.lt;by_cases aP:300<x
     ·skip
      have ah:(0:Int)<=(301:Int)/\(301:Int)<=bP ps.length:=⟨by omega,by rw[ag.out];exact(NV (Int.le_trans av (Int.mul_le_mul_of_nonneg_left (by omega) (NU n).1))).1 aP⟩;go_wp2_with(at_builtin;refine hE rfl (.tmp 60) (.tmp 61) 59 rfl 0 29 aB _ 1 8 underlying59 aC aD aE aF rfl (by decide) (.slice ia n ic) n (encI (ids++List.replicate k 0)) rfl (J.out.alloc _) (eb wo.heap.size 0) 1 1 [ed 0] rfl rfl (one_cell (wo.drewN q) _ _ _ rfl) xq (by unfold maxLen;omega) (by omega) (oY _) ?_);intro a5 w1 p t M;obtain⟨a6,a7,rfl⟩:=ej p (by omega);have N:=oX hl.hW (jx wo q _) (by simp) t (eI J.out hl.hW (by decide));have O:=kw (i:=2) hl.hW J.out (by decide) (jx wo q _) (by simp) ⟨rfl,rfl,rfl⟩ p t M (by omega);have m:=hl.Si (x:=0) (by rw[I,<-a.out];exact O);obtain⟨f10,f11,f12,f13,f14,ai⟩:=qQ N;rw[l,<-a.out]at f13;rw[b,<-a.out]at f14;rw[I,<-a.out]at f12;have u:=m.1.mK;rw[l,<-a.out]at u;have a8:wo.heap.size<=w1.heap.size:=by have:=m.2.size;simpa using this
      have c:Hid _:=m;have y:Hid _:=u;clear p t M O m u N;go_wp2_with(at_builtin;refine hE rfl (.tmp 69) (.tmp 70) 60 rfl 0 4 aG _ 1 1 underlying60 aH aI aJ aK rfl (by decide) (.slice ka n kc) n (DR (known++List.replicate k false)) rfl (mL y.out _) (eb w1.heap.size 0) 1 1 [.bool false] rfl rfl (one_cell _ _ _ _ (by simp)) DS (by unfold maxLen;omega) (by omega) (oY _) ?_);intro a9 w2 z A P;obtain⟨bb,bc,rfl⟩:=ej z (by omega);have Q:=oX c.out.1.hW (hZ _ _) (by simp) A (eI y.out c.out.1.hW (by decide));have R:=kw (i:=3) c.out.1.hW y.out (by decide) (hZ _ _) (by simp) ⟨rfl,rfl,rfl⟩ z A P (by simp);have B:=c.out.1.Sj (x:=false) (by rw[l,<-a.out];exact R);obtain⟨f20,f21,f22,f23,f24,aj⟩:=qQ Q;rw[l,<-a.out]at f23;rw[b,<-a.out]at f24;have C:=B.1.ny;rw[b,<-a.out]at C;have d:Hid _:=B;have D:Hid _:=C;clear z A P R B C Q f10 f11 f12 f13 f14 ai;go_wp2_with(at_builtin;refine hE rfl (.tmp 78) (.tmp 80) 61 rfl 0 3 aL _ 1 8 underlying61 K aM aN aO rfl (by decide) (.slice pa n pc) n (encI ps) rfl (mL D.out _) (eb w2.heap.size 0) 1 1 [ed (301)] rfl rfl (one_cell _ _ _ _ (by simp)) xq (by unfold maxLen;omega) (by omega) (oY _) ?_);intro bd w3 E H S;obtain⟨g3,ak,rfl⟩:=ej E (by omega);have T:=oX d.out.1.hW (hZ _ _) (by simp) H (eI D.out d.out.1.hW (by decide));have U:=kw (i:=4) d.out.1.hW D.out (by decide) (hZ _ _) (by simp) ⟨rfl,rfl,rfl⟩ E H S (by simp);have V:=d.out.1.Sk (x:=301) (by rw[b,<-a.out];exact U);obtain⟨f30,f31,f32,f33,f34,be⟩:=qQ T;rw[b,<-a.out]at f34;have al:Hid _:=V;clear E H S U V T f20 f21 f22 f23 f24 aj;go_wp2;have X:gh F w (w3.setCell (eb W 4) (.slice (some (eb g3 0)) (n+1) ak)) W s r ids known ids.length (k+1) c5 c6 c7 c8 c9 c10 c11:=gh.three Z c.out d.out al.out b Y ah;go_roundw
      case rel=>exact⟨k+1,by have:=a.out;omega,X⟩
      case measure=>
       have e:=X.vU;rw[e,aq.out]
       have:=a.out
       omega
     ·skip
      have ah:(0:Int)<=(x:Int)/\(x:Int)<=bP ps.length:=⟨by omega,by rw[ag.out];exact(NV (Int.le_trans av (Int.mul_le_mul_of_nonneg_left (by omega) (NU n).1))).2 aP⟩;go_wp2_with(at_builtin;refine hE rfl (.tmp 60) (.tmp 61) 59 rfl 0 29 aB _ 1 8 underlying59 aC aD aE aF rfl (by decide) (.slice ia n ic) n (encI (ids++List.replicate k 0)) rfl (J.out.alloc _) (eb wo.heap.size 0) 1 1 [ed 0] rfl rfl (one_cell (wo.drewN q) _ _ _ rfl) xq (by unfold maxLen;omega) (by omega) (oY _) ?_);intro a5 w1 p t M;obtain⟨a6,a7,rfl⟩:=ej p (by omega);have N:=oX hl.hW (jx wo q _) (by simp) t (eI J.out hl.hW (by decide));have O:=kw (i:=2) hl.hW J.out (by decide) (jx wo q _) (by simp) ⟨rfl,rfl,rfl⟩ p t M (by omega);have m:=hl.Si (x:=0) (by rw[I,<-a.out];exact O);obtain⟨f10,f11,f12,f13,f14,ai⟩:=qQ N;rw[l,<-a.out]at f13;rw[b,<-a.out]at f14;rw[I,<-a.out]at f12;have u:=m.1.mK;rw[l,<-a.out]at u;have a8:wo.heap.size<=w1.heap.size:=by have:=m.2.size;simpa using this
      have c:Hid _:=m;have y:Hid _:=u;clear p t M O m u N;go_wp2_with(at_builtin;refine hE rfl (.tmp 69) (.tmp 70) 60 rfl 0 4 aG _ 1 1 underlying60 aH aI aJ aK rfl (by decide) (.slice ka n kc) n (DR (known++List.replicate k false)) rfl (mL y.out _) (eb w1.heap.size 0) 1 1 [.bool false] rfl rfl (one_cell _ _ _ _ (by simp)) DS (by unfold maxLen;omega) (by omega) (oY _) ?_);intro a9 w2 z A P;obtain⟨bb,bc,rfl⟩:=ej z (by omega);have Q:=oX c.out.1.hW (hZ _ _) (by simp) A (eI y.out c.out.1.hW (by decide));have R:=kw (i:=3) c.out.1.hW y.out (by decide) (hZ _ _) (by simp) ⟨rfl,rfl,rfl⟩ z A P (by simp);have B:=c.out.1.Sj (x:=false) (by rw[l,<-a.out];exact R);obtain⟨f20,f21,f22,f23,f24,aj⟩:=qQ Q;rw[l,<-a.out]at f23;rw[b,<-a.out]at f24;have C:=B.1.ny;rw[b,<-a.out]at C;have d:Hid _:=B;have D:Hid _:=C;clear z A P R B C Q f10 f11 f12 f13 f14 ai;go_wp2_with(at_builtin;refine hE rfl (.tmp 78) (.tmp 80) 61 rfl 0 3 aL _ 1 8 underlying61 K aM aN aO rfl (by decide) (.slice pa n pc) n (encI ps) rfl (mL D.out _) (eb w2.heap.size 0) 1 1 [ed (x)] rfl rfl (one_cell _ _ _ _ (by simp)) xq (by unfold maxLen;omega) (by omega) (oY _) ?_);intro bd w3 E H S;obtain⟨g3,ak,rfl⟩:=ej E (by omega);have T:=oX d.out.1.hW (hZ _ _) (by simp) H (eI D.out d.out.1.hW (by decide));have U:=kw (i:=4) d.out.1.hW D.out (by decide) (hZ _ _) (by simp) ⟨rfl,rfl,rfl⟩ E H S (by simp);have V:=d.out.1.Sk (x:=x) (by rw[b,<-a.out];exact U);obtain⟨f30,f31,f32,f33,f34,be⟩:=qQ T;rw[b,<-a.out]at f34;have al:Hid _:=V;clear E H S U V T f20 f21 f22 f23 f24 aj;go_wp2;have X:gh F w (w3.setCell (eb W 4) (.slice (some (eb g3 0)) (n+1) ak)) W s r ids known ids.length (k+1) c5 c6 c7 c8 c9 c10 c11:=gh.three Z c.out d.out al.out b Y ah;go_roundw
      case rel=>exact⟨k+1,by have:=a.out;omega,X⟩
      case measure=>
       have e:=X.vU;rw[e,aq.out]
       have:=a.out
       omega
  ·have bf:Hid (k=ep.length-ids.length):=by have:=a.out;show _=_;omega
   have bg:¬(n:Int)<(ep.length:Int):=by omega
   have nw:decide ((n:Int)<(ep.length:Int))=false:=m6 bg;clear hn;go_wp2
   go_quiet (fail)
   go_wp2;go_end0;refine⟨rfl,?_⟩;rw[<-bf.out];exact gh.drewN ap.out nq
end
def fU (v:Value):Option (DataW Value×List MemPlace):=some (.held v,[])
def gu (w:World)(k:fL)(b n:Nat)(M:Lit->Option Value):Prop:=
 ∃D:DataW Value,w.ownsMap prog k fU b n D/\∀kl,WideAt.IsKeyLit kl->∀z,D.atKey kl z=((M kl).map DataW.held).getD z
theorem gu.lt{k:fL}{b n:Nat}(h:gu w k b n M):b<w.heap.size:=by
 obtain⟨D,hD,_⟩:=h;exact hD.lt
theorem gu.keep{w w':World}{k:fL}{b n:Nat}(h:gu w k b n M)(e:w'.heap[b]?=w.heap[b]?):gu w' k b n M:=by
 obtain⟨D,hD,a⟩:=h;exact⟨D,pk hD e,a⟩
theorem gu.isMap{k:fL}{b n:Nat}(h:gu w k b n M):∃es a,w.heap[b]?=some (.map es a):=by
 obtain⟨D,hD,_⟩:=h;exact pd hD
theorem xu{k:fL}(h:w.heap[b]?=some (.map #[] 0)):gu w k b 0 (fun _=>none):=
 ⟨.map [],⟨#[],0,h,⟨by simp,MapKept.stamped_empty 0,by simp⟩,io _,rfl⟩,fun kl _ z=>rfl⟩
theorem x6(h:∀z,D.atKey kl z=((M kl).map DataW.held).getD z):Maps.has D kl=(M kl).isSome:=by
 cases hm:M kl with
 |none=>rw[hm]at h;exact Maps.has_false_of_atKey h
 |some v=>rw[hm]at h;exact Maps.has_true_of_atKey h
theorem gu.look_ok{k:fL}{b n:Nat}(h:gu w k b n M)(K:Maps.Keyed prog k)(ht:prog.underlying t=some (.map k e))(d:(zeroValue e).run prog w=.ok z w)
  (a:keyOf prog k key=some kl):(Instr.lookup t (.map (some b)) key true).run prog w=.ok (.tuple #[(M kl).getD z,.bool (M kl).isSome]) w:=by
 obtain⟨D,hD,c⟩:=h;have hk:=K.key a;obtain⟨v,ps,f,hv⟩:=hD.look_ok K ht d (zd:=.held z) (zp:=[]) rfl a;rw[c kl hk,]at hv;rw[f,x6 (c kl hk)];cases hm:M kl with
 |none=>rw[hm]at hv;simp only[fU,Option.map_none,Ql,kE,rN,DataW.held.injEq]at hv;rw[hv.1];rfl
 |some g=>rw[hm]at hv;simp only[fU,jS,nG,kE,rN,DataW.held.injEq]at hv;rw[hv.1];rfl
theorem gu.look{k:fL}{b n:Nat}(h:gu w k b n M)(K:Maps.Keyed prog k)(ht:prog.underlying t=some (.map k e))(c:(zeroValue e).run prog w=.ok z w)
  (a:keyOf prog k key=some kl):(Instr.lookup t (.map (some b)) key false).run prog w=.ok ((M kl).getD z) w:=by
 obtain⟨D,hD,d⟩:=h;have hk:=K.key a;obtain⟨v,ps,f,hv⟩:=hD.lookup K ht c (zd:=.held z) (zp:=[]) rfl a;rw[d kl hk]at hv;rw[f];cases hm:M kl with
 |none=>rw[hm]at hv;simp only[fU,Option.map_none,Ql,kE,rN,DataW.held.injEq]at hv;rw[hv.1];rfl
 |some g=>rw[hm]at hv;simp only[fU,jS,nG,kE,rN,DataW.held.injEq]at hv;rw[hv.1];rfl
noncomputable def x7 (M:Lit->Option Value)(kl:Lit)(v:Option Value):Lit->Option Value:=fun x=>by
 classical exact if x=kl then v else M x
theorem iY(M:Lit->Option Value)(kl:Lit)(v:Option Value):x7 M kl v kl=v:=by simp[x7]
theorem Hm{kl x:Lit}(h:x≠kl)(v:Option Value):x7 M kl v x=M x:=by simp[x7,h]
theorem NW(hm:Maps.IsMap D)(a:∀kl,WideAt.IsKeyLit kl->∀z,D.atKey kl z=((M kl).map DataW.held).getD z)(hk:WideAt.IsKeyLit kl)(v:Value):
  ∀x,WideAt.IsKeyLit x->∀z,(D.put kl (.held v)).atKey x z=((x7 M kl (some v) x).map DataW.held).getD z:=by
 intro x hx z;by_cases e:x=kl
 ·subst e;rw[Maps.atKey_put_same hm hk,iY];rfl
 ·rw[Maps.atKey_put_other e,Hm e,a x hx]
theorem DT(a:∀kl,WideAt.IsKeyLit kl->∀z,D.atKey kl z=((M kl).map DataW.held).getD z)(kl:Lit):
  ∀x,WideAt.IsKeyLit x->∀z,(D.del kl).atKey x z=((x7 M kl none x).map DataW.held).getD z:=by
 intro x hx z;by_cases e:x=kl
 ·subst e;rw[Maps.atKey_del_same,iY];rfl
 ·rw[Maps.atKey_del_other e,Hm e,a x hx]
theorem gu.store{k:fL}{b n:Nat}(h:gu w k b n M)(K:Maps.Keyed prog k)(ht:prog.underlying t=some (.map k e))(hn:n<maxLen)
  {key val:Value}(a:keyOf prog k key=some kl):
  ∃w',(Instr.mapUpdate t (.map (some b)) key val).run prog w=.ok () w'/\gu w' k b (n+1) (x7 M kl (some val))/\w.grownBy w' (some b)/\w'.heap.size=w.heap.size:=by
 obtain⟨D,hD,c⟩:=h;have hk:=K.key a;obtain⟨w',f,g,hg⟩:=hD.store K ht hn a (val:=val) (d:=.held val) (ps:=[]) rfl;refine⟨w',f,⟨_,g,NW hD.isMap c hk val⟩,hg.grown,?_⟩;obtain⟨es,i,es',j,l,rfl⟩:=hg;simp[ChangeMaps.setBlock]
theorem gu.drop{k:fL}{b n:Nat}(h:gu w k b n M)(K:Maps.Keyed prog k)(ht:prog.underlying t=some (.map k e))
  (c:keyOf prog k key=some kl)(a:fL):
  ∃w',(Builtin.delete_ #[t,k] a #[.map (some b),key]).run prog w=.ok (.tuple #[]) w'/\gu w' k b n (x7 M kl none)/\w.grownBy w' (some b)/\w'.heap.size=w.heap.size:=by
 obtain⟨D,hD,d⟩:=h;obtain⟨w',f,g,hg⟩:=hD.drop K ht c a;refine⟨w',f,⟨_,g,DT d kl⟩,hg.grown,?_⟩;obtain⟨es,i,es',j,l,rfl⟩:=hg;simp[ChangeMaps.setBlock]
inductive LT where
 |file (id:Int)
 |held (f:Nat)
 |dir (id:Int)
 |own (es:List (eu×LT))
abbrev Kids:=List (eu×LT)
def LT.kind:LT->Int
 |.file _=>1
 |.held _=>1
 |.dir _=>2
 |.own _=>2
def LT.id:LT->Int
 |.file i=>i
 |.held _=>0
 |.dir i=>i
 |.own _=>0
def kB (x:eu×LT):eD:=(x.1,x.2.kind,x.2.id)
def ltOf (e:eD):LT:=if e.2.1=2 then .dir e.2.2 else .file e.2.2
def Pl (e:eD):eu×LT:=(e.1,ltOf e)
def eR (ei:List Ob)(id:Int):List eD:=((ei[(id-1).toNat]?).map (fun o:Ob=>o.eG)).getD []
def bytesOf (ei:List Ob)(id:Int):eu:=((ei[(id-1).toNat]?).map (fun o:Ob=>o.data)).getD ⟨#[]⟩
def kids (ei:List Ob):LT->Option Kids
 |.own es=>some es
 |.dir id=>some ((eR ei id).map Pl)
 |_=>none
def g8 (es:Kids)(n:eu):Option LT:=(es.find? (fun x=>decide (x.1=n))).map (·.2)
def LT.at (ei:List Ob):LT->eB->Option LT
 |t,[]=>some t
 |t,n::r=>(kids ei t).bind fun es=>(g8 es n).bind fun c=>c.at ei r
theorem h9(ei:List Ob)(t:LT)(n:eu)(r:eB):t.at ei (n::r)=(kids ei t).bind fun es=>(g8 es n).bind fun c=>c.at ei r:=by rw[LT.at]
theorem k0(ei:List Ob)(t:LT):t.at ei []=some t:=by rw[LT.at]
theorem i1(ei:List Ob):∀(p q:eB) (t:LT),t.at ei (p++q)=(t.at ei p).bind fun c=>c.at ei q
 |[],q,t=>by rw[w8,k0];rfl
 |n::r,q,t=>by
  rw[rM,h9,h9]
  cases kids ei t with
  |none=>rfl
  |some es=>
   simp only[my]
   cases g8 es n with
   |none=>rfl
   |some c=>simp only[my];exact i1 ei r q c
def m1 (ei:List Ob)(f:Kids->Kids):eB->LT->LT
 |[],t=>.own (f ((kids ei t).getD []))
 |n::r,t=>.own (((kids ei t).getD []).map fun x=>if x.1=n then(x.1,m1 ei f r x.2)else x)
theorem AE(ei:List Ob)(f:Kids->Kids)(t:LT):kids ei (m1 ei f [] t)=some (f ((kids ei t).getD [])):=by rw[m1];rfl
theorem lI(ei:List Ob)(f:Kids->Kids)(n:eu)(r:eB)(t:LT):kids ei (m1 ei f (n::r) t)=some (((kids ei t).getD []).map fun x=>if x.1=n then(x.1,m1 ei f r x.2)else x):=by rw[m1];rfl
theorem kM(n:eu)(g:LT->LT)(m:eu):∀es:Kids,g8 (es.map fun x=>if x.1=n then(x.1,g x.2)else x) m=if m=n then(g8 es m).map g else g8 es m
 |[]=>by split<;>rfl
 |x::r=>by
  have a:=kM n g m r
  unfold g8 at a ⊢
  rw[WF]
  by_cases hx:x.1=n
  ·rw[fY hx]
   by_cases hm:x.1=m
   ·have b:m=n:=hm.symm.trans hx
    rw[fY b,Dk (by simpa using hm),Dk (by simpa using hm)];rfl
   ·rw[Dl (by simpa using hm),Dl (by simpa using hm)];exact a
  ·rw[eJ hx]
   by_cases hm:x.1=m
   ·have b:¬m=n:=fun e=>hx (hm.trans e)
    rw[eJ b,Dk (by simpa using hm),Dk (by simpa using hm)]
   ·rw[Dl (by simpa using hm),Dl (by simpa using hm)];exact a
inductive Nd where
 |dir
 |file (d:eu)
 deriving DecidableEq
abbrev ul:=Nat->eu
def nd (ei:List Ob)(fc:ul):LT->Nd
 |.file i=>.file (bytesOf ei i)
 |.held f=>.file (fc f)
 |.dir _=>.dir
 |.own _=>.dir
def xj (ei:List Ob)(fc:ul)(t:LT)(p:eB):Option Nd:=(t.at ei p).map (nd ei fc)
theorem xv(ei:List Ob)(fc:ul)(t:LT):xj ei fc t []=some (nd ei fc t):=by unfold xj;rw[k0];rfl
theorem sk(ei:List Ob)(fc:ul)(t:LT)(n:eu)(r:eB):xj ei fc t (n::r)=(kids ei t).bind fun es=>(g8 es n).bind fun c=>xj ei fc c r:=by
 unfold xj;rw[h9];cases kids ei t with
 |none=>rfl
 |some es=>
  simp only[my];cases g8 es n<;>rfl
theorem Co(ei:List Ob)(fc:ul)(f:Kids->Kids):∀(p:eB) (t d:LT) (ks:Kids),t.at ei p=some d->kids ei d=some ks->
  (∀n r,xj ei fc (m1 ei f p t) (p++n::r)=(g8 (f ks) n).bind fun c=>xj ei fc c r)/\
  (∀q,(¬ ∃n r,q=p++n::r)->xj ei fc (m1 ei f p t) q=xj ei fc t q)
 |[],t,d,ks,a,hk=>by
  rw[k0]at a;cases a
  refine⟨fun n r=>?_,fun q hq=>?_⟩
  ·rw[w8,sk,AE,hk];rfl
  ·cases q with
   |nil=>
    rw[xv,xv,m1]
    cases t<;>first|rfl|(simp[kids]at hk)
   |cons n r=>exact absurd ⟨n,r,rfl⟩ hq
 |m::p,t,d,ks,a,hk=>by
  rw[h9]at a
  cases b:kids ei t with
  |none=>rw[b]at a;simp at a
  |some es=>
   rw[b]at a
   simp only[my]at a
   cases hc:g8 es m with
   |none=>rw[hc]at a;simp at a
   |some c=>
    rw[hc]at a
    simp only[my]at a
    obtain⟨g,h⟩:=Co ei fc f p c d ks a hk
    refine⟨fun n r=>?_,fun q hq=>?_⟩
    ·rw[rM,sk,lI,b,nG,my,kM,fY rfl,hc,jS,my]
     exact g n r
    ·cases q with
     |nil=>
      rw[xv,xv,m1]
      cases t<;>first|rfl|(simp[kids]at b)
     |cons n r=>
      rw[sk,sk,lI,b,nG,my,my,kM]
      by_cases hn:n=m
      ·subst hn
       rw[fY rfl,hc,jS,my,my]
       exact h r (fun⟨x,y,e⟩=>hq ⟨x,y,by rw[e];rfl⟩)
      ·rw[eJ hn]
structure FS where
 got:List Int
 brk:Bool
 kF:Int->Bool
 kD:Int->Bool
def FS.fM (s:FS)(id:Int):FS×Bool:=
 if s.kD id then(s,true)else if s.brk then({ s with brk:=false },false) else({ s with got:=s.got++[id],kD:=fun x=>decide (x=id) ||s.kD x },true)
def FS.fA (s:FS)(id:Int):FS×Bool:=
 if s.kF id then(s,true)else if s.brk then({ s with brk:=false },false) else({ s with got:=s.got++[id],kF:=fun x=>decide (x=id) ||s.kF x },true)
def FS.kn (s:FS)(x:Int):Nat:=(s.kF x).toNat+(s.kD x).toNat
def FS.Next (s a:FS):Prop:=a.brk=s.brk/\(s.brk=true->a=s)/\(∃l,a.got=s.got++l/\∀x,l.count x+s.kn x=a.kn x)/\(∀x,s.kF x=true->a.kF x=true)/\(∀x,s.kD x=true->a.kD x=true)
def FS.Cp (s a:FS):Prop:=s.brk=true/\a={ s with brk:=false }
theorem FS.Next.refl(s:FS):s.Next s:=⟨rfl,fun _=>rfl,⟨[],by simp,fun x=>by simp⟩,fun _ h=>h,fun _ h=>h⟩
theorem FS.Next.trans{s a b:FS}(h:s.Next a)(k:a.Next b):s.Next b:=by
 obtain⟨h1,h2,⟨l,h3,h6⟩,d,e⟩:=h;obtain⟨f,g,⟨m,i,j⟩,k4,k5⟩:=k;refine⟨f.trans h1,fun c=>?_,⟨l++m,by rw[i,h3,iK],fun x=>by rw[List.count_append];have:=h6 x;have:=j x;omega⟩,fun x hx=>k4 x (d x hx),fun x hx=>k5 x (e x hx)⟩;rw[g (h1.trans c),h2 c]
theorem FS.Next.fail{s a b:FS}(h:s.Next a)(k:a.Cp b):s.Cp b:=by
 obtain⟨d,e⟩:=k;have c:s.brk=true:=h.1.symm.trans d;have f:=h.2.1 c;subst f;exact⟨c,e⟩
theorem NY{f:Int->Bool}{id:Int}(h:¬f id=true){n:Nat}(x:Int):[id].count x+(n+(f x).toNat)=n+(decide (x=id) ||f x).toNat:=by
 by_cases hx:x=id
 ·subst hx
  have:f x=false:=by simpa using h
  simp[this];omega
 ·have kN:¬id=x:=fun e=>hx e.symm
  simp[hx,kN]
theorem FS.x8(s:FS)(id:Int):((s.fM id).2=true/\s.Next (s.fM id).1/\(s.fM id).1.kD id=true)\/((s.fM id).2=false/\s.Cp (s.fM id).1):=by
 unfold FS.fM;by_cases h:s.kD id=true
 ·rw[fY h];exact .inl ⟨rfl,FS.Next.refl s,h⟩
 ·rw[eJ h]
  by_cases a:s.brk=true
  ·rw[fY a];exact .inr ⟨rfl,a,rfl⟩
  ·rw[eJ a]
   exact .inl ⟨rfl,⟨rfl,fun h=>absurd h a,⟨[id],rfl,fun x=>NY h x⟩,fun _ h=>h,fun x hx=>by simp[hx]⟩,by simp⟩
theorem FS.vV(s:FS)(id:Int):((s.fA id).2=true/\s.Next (s.fA id).1/\(s.fA id).1.kF id=true)\/((s.fA id).2=false/\s.Cp (s.fA id).1):=by
 unfold FS.fA;by_cases h:s.kF id=true
 ·rw[fY h];exact .inl ⟨rfl,FS.Next.refl s,h⟩
 ·rw[eJ h]
  by_cases a:s.brk=true
  ·rw[fY a];exact .inr ⟨rfl,a,rfl⟩
  ·rw[eJ a]
   exact .inl ⟨rfl,⟨rfl,fun h=>absurd h a,⟨[id],rfl,fun x=>by have:=NY h (n:=0) x;unfold FS.kn;simp only;omega⟩,fun x hx=>by simp[hx],fun _ h=>h⟩,by simp⟩
def lO (ei:List Ob)(s:FS):LT->FS×Int×Kids
 |.own es=>(s,0,es)
 |.dir id=>if(s.fM id).2 then((s.fM id).1,0,(eR ei id).map Pl) else((s.fM id).1,14,[])
 |_=>(s,5,[])
def u2 (ei:List Ob):LT->Int×Kids
 |.own es=>(0,es)
 |.dir id=>(0,(eR ei id).map Pl)
 |_=>(5,[])
def g5 (ei:List Ob)(t:LT)(s:FS):eB->FS×Int×LT
 |[]=>(s,0,t)
 |n::r=>
  let a:=g5 ei t s r
  if a.2.1≠0 then(a.1,a.2.1,.dir 0) else
  let b:=lO ei a.1 a.2.2
  if b.2.1≠0 then(b.1,b.2.1,.dir 0) else
  match g8 b.2.2 n with
  |none=>(b.1,4,.dir 0)
  |some c=>(b.1,0,c)
def ju (ei:List Ob)(t:LT):eB->Int×LT
 |[]=>(0,t)
 |n::r=>
  let a:=ju ei t r
  if a.1≠0 then(a.1,.dir 0) else
  let b:=u2 ei a.2
  if b.1≠0 then(b.1,.dir 0) else
  match g8 b.2 n with
  |none=>(4,.dir 0)
  |some c=>(0,c)
def kq (ei:List Ob)(t:LT)(s:FS)(r:eB):FS×Int×Kids:=
 let a:=g5 ei t s r
 if a.2.1≠0 then(a.1,a.2.1,[])else lO ei a.1 a.2.2
def xf (ei:List Ob)(t:LT)(r:eB):Int×Kids:=
 let a:=ju ei t r
 if a.1≠0 then(a.1,[])else u2 ei a.2
theorem p5(ei:List Ob)(t:LT):(u2 ei t).1≠14:=by cases t<;>simp[u2]
theorem p6(ei:List Ob)(s:FS)(t:LT):(s.Next (lO ei s t).1/\(lO ei s t).2=u2 ei t)\/(s.Cp (lO ei s t).1/\(lO ei s t).2=(14,[])):=by
 cases t with
 |file i=>exact .inl ⟨FS.Next.refl s,rfl⟩
 |held f=>exact .inl ⟨FS.Next.refl s,rfl⟩
 |own es=>exact .inl ⟨FS.Next.refl s,rfl⟩
 |dir id=>
  have a:lO ei s (.dir id)=if(s.fM id).2 then((s.fM id).1,0,(eR ei id).map Pl) else((s.fM id).1,14,[]):=rfl;have e2:u2 ei (.dir id)=(0,(eR ei id).map Pl):=rfl;rw[a,e2];rcases s.x8 id with⟨h,hn,_⟩|⟨h,hf⟩
  ·rw[fY h];exact .inl ⟨hn,rfl⟩
  ·rw[eJ (by rw[h];decide)];exact .inr ⟨hf,rfl⟩
theorem p7(ei:List Ob)(t:LT)(s:FS):∀r,(s.Next (g5 ei t s r).1/\(g5 ei t s r).2=ju ei t r/\(ju ei t r).1≠14)\/(s.Cp (g5 ei t s r).1/\(g5 ei t s r).2=(14,.dir 0))
 |[]=>.inl ⟨FS.Next.refl s,rfl,by simp[ju]⟩
 |n::r=>by
  rcases p7 ei t s r with⟨hn,a,g⟩|⟨hf,a⟩
  ·have b:(g5 ei t s r).2.1=(ju ei t r).1:=by rw[a]
   have e2:(g5 ei t s r).2.2=(ju ei t r).2:=by rw[a]
   unfold g5 ju
   by_cases h0:(ju ei t r).1≠0
   ·simp only[b,fY h0]
    exact .inl ⟨hn,trivial,g⟩
   ·simp only[b,e2,eJ h0]
    rcases p6 ei (g5 ei t s r).1 (ju ei t r).2 with⟨kn,d⟩|⟨h,d⟩
    ·have f:(lO ei (g5 ei t s r).1 (ju ei t r).2).2.1=(u2 ei (ju ei t r).2).1:=by rw[d]
     have i:(lO ei (g5 ei t s r).1 (ju ei t r).2).2.2=(u2 ei (ju ei t r).2).2:=by rw[d]
     rw[f,i]
     have hk:=p5 ei (ju ei t r).2
     by_cases e:(u2 ei (ju ei t r).2).1≠0
     ·rw[fY e,fY e];exact .inl ⟨hn.trans kn,rfl,hk⟩
     ·rw[eJ e,eJ e]
      cases hp:g8 (u2 ei (ju ei t r).2).2 n with
      |none=>exact .inl ⟨hn.trans kn,rfl,by simp⟩
      |some c=>exact .inl ⟨hn.trans kn,rfl,by simp⟩
    ·have f:(lO ei (g5 ei t s r).1 (ju ei t r).2).2.1=14:=by rw[d]
     rw[f,fY (by decide)]
     exact .inr ⟨hn.fail h,rfl⟩
  ·have b:(g5 ei t s r).2.1=14:=by rw[a]
   unfold g5
   simp only[b]
   rw[fY (by decide)]
   exact .inr ⟨hf,rfl⟩
theorem DU(ei:List Ob)(t:LT)(s:FS)(r:eB):(s.Next (kq ei t s r).1/\(kq ei t s r).2=xf ei t r/\(xf ei t r).1≠14)\/(s.Cp (kq ei t s r).1/\(kq ei t s r).2=(14,[])):=by
 rcases p7 ei t s r with⟨hn,a,d⟩|⟨hf,a⟩
 ·have b:(g5 ei t s r).2.1=(ju ei t r).1:=by rw[a]
  have e2:(g5 ei t s r).2.2=(ju ei t r).2:=by rw[a]
  unfold kq xf;by_cases h0:(ju ei t r).1≠0
  ·simp only[b,fY h0];exact .inl ⟨hn,trivial,d⟩
  ·simp only[b,e2,eJ h0]
   rcases p6 ei (g5 ei t s r).1 (ju ei t r).2 with⟨kn,c⟩|⟨e,c⟩
   ·exact .inl ⟨hn.trans kn,c,p5 _ _⟩
   ·exact .inr ⟨hn.fail e,c⟩
 ·have b:(g5 ei t s r).2.1=14:=by rw[a]
  unfold kq;simp only[b];rw[fY (by decide)];exact .inr ⟨hf,rfl⟩
theorem x9(ei:List Ob)(t:LT):∀r,((ju ei t r).1=0->t.at ei r.reverse=some (ju ei t r).2)/\((ju ei t r).1≠0->t.at ei r.reverse=none)
 |[]=>⟨fun _=>by rw[List.reverse_nil,k0];rfl,fun h=>absurd rfl h⟩
 |n::r=>by
  obtain⟨a,b⟩:=x9 ei t r
  have d:t.at ei (n::r).reverse=(t.at ei r.reverse).bind fun c=>c.at ei [n]:=by rw[nC,i1]
  have h1:∀c:LT,c.at ei [n]=(kids ei c).bind fun es=>g8 es n:=by
   intro c;rw[h9];cases kids ei c with
   |none=>rfl
   |some es=>
    simp only[my];cases g8 es n with
    |none=>rfl
    |some x=>simp only[my];rw[k0]
  rw[d];unfold ju;by_cases h0:(ju ei t r).1≠0
  ·simp only[fY h0]
   rw[b h0];exact⟨fun h=>absurd h h0,fun _=>rfl⟩
  ·simp only[eJ h0]
   rw[a (jq.1 h0),my,h1];cases hd:(ju ei t r).2 with
   |file i=>simp[u2,kids]
   |held f=>simp[u2,kids]
   |own es=>
    simp only[u2,kids,my];cases hp:g8 es n<;>simp
   |dir id=>
    simp only[u2,kids,my];cases hp:g8 ((eR ei id).map Pl) n<;>simp
section
variable {α β:Type}
def WP (a b:eu):Int:=Lib.compareBytes a.data.toList b.data.toList
theorem QQ(a:eu):WP a a=0:=pU _
theorem AF{a b:eu}(h:WP a b=0):a=b:=bytes_inj (iW _ _ h)
theorem KF(a b:eu):WP b a=- WP a b:=lX _ _
theorem lZ{a b c:eu}(h:WP a b<0)(k:WP b c<0):WP a c<0:=jV _ _ _ h k
def eF (es:List (eu×α)):Prop:=es.Pairwise fun x y=>WP x.1 y.1<0
def mr (es:List (eu×α))(n:eu):Nat:=es.countP fun x=>decide (WP x.1 n<0)
def g9 (es:List (eu×α))(n:eu):Bool:=((es[mr es n]?).map fun x=>decide (x.1=n)).getD false
def l5 (es:List (eu×α))(n:eu):Option α:=(es.find? fun x=>decide (x.1=n)).map (·.2)
theorem Jq(es:List (eu×α))(n:eu):mr es n<=es.length:=List.countP_le_length
theorem lg{x:eu×α}{r:List (eu×α)}(h:WP x.1 n<0):mr (x::r) n=mr r n+1:=by unfold mr;rw[List.countP_cons_of_pos (by simpa using h)]
theorem lp{x:eu×α}{r:List (eu×α)}(hr:eF (x::r))(h:¬WP x.1 n<0):mr (x::r) n=0:=by
 unfold mr;rw[List.countP_eq_zero];intro y a;rcases Hd.1 a with rfl|a
 ·simpa using h
 ·have h1:=(pK.1 hr).1 y a
  simp only[rL];exact fun h2=>h (lZ h1 h2)
theorem eF.tail{x:eu×α}{r:List (eu×α)}(h:eF (x::r)):eF r:=(pK.1 h).2
theorem Hn{x:eu×α}{r:List (eu×α)}(h:x.1=n):l5 (x::r) n=some x.2:=by unfold l5;rw[Dk (by simpa using h)];rfl
theorem pC{x:eu×α}{r:List (eu×α)}(h:x.1≠n):l5 (x::r) n=l5 r n:=by unfold l5;rw[Dl (by simpa using h)]
theorem tK{es:List (eu×α)}(h:∀x∈es,x.1≠n):l5 es n=none:=by
 unfold l5;rw[Nf.2 (by intro x hx;simpa using h x hx)];rfl
theorem l6:∀{es:List (eu×α)} {n:eu},eF es->l5 es n=if g9 es n then(es[mr es n]?).map (·.2)else none
 |[],n,_=>by simp[l5,g9,mr]
 |x::r,n,h=>by
  by_cases hx:WP x.1 n<0
  ·have hne:x.1≠n:=fun e=>by rw[e,QQ]at hx;omega
   have a:=l6 (n:=n) h.tail
   rw[pC hne,a]
   unfold g9
   rw[lg hx]
   simp
  ·unfold g9
   rw[lp h hx]
   simp only[List.getElem?_cons_zero,jS,nG]
   by_cases hn:x.1=n
   ·rw[Hn hn];simp[hn]
   ·rw[pC hn,tK]
    ·simp[hn]
    ·intro y b e
     have h1:=(pK.1 h).1 y b
     rw[e]at h1
     exact hx h1
def n7 (es:List (eu×α))(n:eu)(c:α):List (eu×α):=if g9 es n then es.set (mr es n) (n,c)else es.take (mr es n)++(n,c)::es.drop (mr es n)
def lh (es:List (eu×α))(n:eu):List (eu×α):=es.eraseIdx (mr es n)
theorem p8{x:eu×α}{r:List (eu×α)}(h:WP x.1 n<0):g9 (x::r) n=g9 r n:=by unfold g9;rw[lg h];rfl
theorem tL{x:eu×α}{r:List (eu×α)}{c:α}(h:WP x.1 n<0):n7 (x::r) n c=x::n7 r n c:=by
 unfold n7;rw[p8 h,lg h];split<;>simp
theorem zY{x:eu×α}{r:List (eu×α)}(h:WP x.1 n<0):lh (x::r) n=x::lh r n:=by unfold lh;rw[lg h];rfl
theorem p9{x:eu×α}{r:List (eu×α)}(hr:eF (x::r))(h:¬WP x.1 n<0):g9 (x::r) n=decide (x.1=n):=by unfold g9;rw[lp hr h];rfl
theorem tM{x:eu×α}{r:List (eu×α)}{c:α}(hr:eF (x::r))(h:¬WP x.1 n<0):n7 (x::r) n c=if x.1=n then(n,c)::r else(n,c)::x::r:=by
 unfold n7;rw[p9 hr h,lp hr h];by_cases e:x.1=n<;>simp[e]
theorem zZ{x:eu×α}{r:List (eu×α)}(hr:eF (x::r))(h:¬WP x.1 n<0):lh (x::r) n=r:=by unfold lh;rw[lp hr h];rfl
theorem DV:∀{es:List (eu×α)} {n:eu} {c:α},eF es->∀m,l5 (n7 es n c) m=if m=n then some c else l5 es m
 |[],n,c,_,m=>by
  by_cases e:m=n
  ·subst e;simp[n7,g9,mr,l5]
  ·have:¬n=m:=fun h=>e h.symm
   simp[n7,g9,mr,l5,e,this]
 |x::r,n,c,h,m=>by
  by_cases hx:WP x.1 n<0
  ·have hne:x.1≠n:=fun e=>by rw[e,QQ]at hx;omega
   rw[tL hx]
   by_cases hm:x.1=m
   ·rw[Hn hm,Hn hm,eJ (fun e=>hne (hm.trans e))]
   ·rw[pC hm,pC hm];exact DV h.tail m
  ·rw[tM h hx]
   by_cases hn:x.1=n
   ·rw[fY hn]
    by_cases hm:m=n
    ·rw[fY hm,Hn hm.symm]
    ·rw[eJ hm,pC (fun e=>hm e.symm),pC (fun e=>hm (e.symm.trans hn))]
   ·rw[eJ hn]
    by_cases hm:m=n
    ·rw[fY hm,Hn hm.symm]
    ·rw[eJ hm,pC (fun e=>hm e.symm)]
theorem AG:∀{es:List (eu×α)} {n:eu},eF es->g9 es n=true->∀m,l5 (lh es n) m=if m=n then none else l5 es m
 |[],n,_,ht,m=>by simp[g9,mr]at ht
 |x::r,n,h,ht,m=>by
  by_cases hx:WP x.1 n<0
  ·have hne:x.1≠n:=fun e=>by rw[e,QQ]at hx;omega
   rw[p8 hx]at ht
   rw[zY hx]
   by_cases hm:x.1=m
   ·rw[Hn hm,Hn hm,eJ (fun e=>hne (hm.trans e))]
   ·rw[pC hm,pC hm];exact AG h.tail ht m
  ·rw[p9 h hx]at ht
   have hn:x.1=n:=by simpa using ht
   rw[zZ h hx]
   by_cases hm:m=n
   ·rw[fY hm]
    refine tK fun y a e=>?_
    have h1:=(pK.1 h).1 y a
    rw[e,hm,hn,QQ]at h1;omega
   ·rw[eJ hm,pC (fun e=>hm (e.symm.trans hn))]
theorem NZ:∀{es:List (eu×α)} {n:eu} {c:α} {y:eu×α},eF es->y∈n7 es n c->y=(n,c)\/y∈es:=by
 intro es n c y h a;unfold n7 at a;split at a
 ·exact(List.mem_or_eq_of_mem_set a).symm
 ·rw[pR,Hd]at a
  rcases a with h1|h1|h1
  ·exact .inr (wY h1)
  ·exact .inl h1
  ·exact .inr (Gf h1)
theorem qa:∀{es:List (eu×α)} {n:eu} {c:α},eF es->eF (n7 es n c)
 |[],n,c,_=>by simp[n7,g9,mr,eF]
 |x::r,n,c,h=>by
  by_cases hx:WP x.1 n<0
  ·rw[tL hx]
   refine pK.2 ⟨fun y a=>?_,qa h.tail⟩
   rcases NZ h.tail a with rfl|a
   ·exact hx
   ·exact(pK.1 h).1 y a
  ·rw[tM h hx]
   by_cases hn:x.1=n
   ·rw[fY hn]
    exact pK.2 ⟨fun y a=>by have:=(pK.1 h).1 y a;rw[hn]at this;exact this,h.tail⟩
   ·rw[eJ hn]
    have H2:WP n x.1<0:=by
     have h1:=KF x.1 n;have h2:WP x.1 n≠0:=fun e=>hn (AF e);omega
    refine pK.2 ⟨fun y a=>?_,h⟩;rcases Hd.1 a with rfl|a
    ·exact H2
    ·exact lZ H2 ((pK.1 h).1 y a)
theorem mP(es:List (eu×α))(n:eu)(c:α):(n7 es n c).length=if g9 es n then es.length else es.length+1:=by
 unfold n7
 have:=Jq es n
 split<;>simp;omega
theorem nL{es:List (eu×α)}(h:g9 es n=true):mr es n<es.length:=by
 unfold g9 at h;by_cases hi:mr es n<es.length
 ·exact hi
 ·rw[mG (by omega)]at h;simp at h
theorem tN{es:List (eu×α)}(h:g9 es n=true):(lh es n).length=es.length-1:=by
 unfold lh;rw[List.length_eraseIdx_of_lt (nL h)]
def u9 (f:eu×α->β)(es:List (eu×α)):List (eu×β):=es.map fun x=>(x.1,f x)
theorem ya(f:eu×α->β)(es:List (eu×α))(n:eu):mr (u9 f es) n=mr es n:=by
 unfold mr u9;rw[List.countP_map];rfl
theorem yb(f:eu×α->β)(es:List (eu×α))(n:eu):g9 (u9 f es) n=g9 es n:=by
 unfold g9;rw[ya];unfold u9;rw[Qs];cases es[mr es n]?<;>rfl
theorem iZ(f:eu×α->β){es:List (eu×α)}(h:eF es):eF (u9 f es):=by
 unfold eF u9;rw[zR];exact h
theorem KG(f:eu×α->β)(es:List (eu×α))(n:eu):u9 f (lh es n)=lh (u9 f es) n:=by
 unfold lh;rw[ya];unfold u9;simp[List.eraseIdx_eq_take_drop_succ,List.map_take,List.map_drop]
end
theorem GI(es:Kids)(n:eu):g8 es n=l5 es n:=rfl
def zE:eD:=(⟨#[]⟩,0,0)
structure FT where
 root:Int
 od:eB->Option (List eD)
 of:eB->Option Nat
def upd {β:Type}(f:eB->β)(p:eB)(v:β):eB->β:=fun q=>if q=p then v else f q
theorem upd_same{β:Type}(f:eB->β)(p:eB)(v:β):upd f p v p=v:=by unfold upd;rw[fY rfl]
theorem fx{β:Type}{f:eB->β}(h:q≠p)(v:β):upd f p v q=f q:=by unfold upd;rw[eJ h]
def ja (ei:List Ob)(ft:FT)(fs:FS)(p:eB)(e:eD):FS×Int×List eD:=
 if e.2.1≠2 then(fs,5,[]) else
 if e.2.2=0 then(fs,0,(ft.od p).getD []) else
 if(fs.fM e.2.2).2 then((fs.fM e.2.2).1,0,eR ei e.2.2) else((fs.fM e.2.2).1,14,[])
def findF (ei:List Ob)(ft:FT)(fs:FS):eB->FS×Int×eD
 |[]=>(fs,0,(⟨#[]⟩,2,ft.root))
 |n::r=>
  let a:=findF ei ft fs r
  if a.2.1≠0 then(a.1,a.2.1,zE) else
  let b:=ja ei ft a.1 r.reverse a.2.2
  if b.2.1≠0 then(b.1,b.2.1,zE) else
  match l5 b.2.2 n with
  |none=>(b.1,4,zE)
  |some c=>(b.1,0,(n,c))
def eT (ei:List Ob)(ft:FT)(fs:FS)(r:eB):FS×Int×List eD:=
 let a:=findF ei ft fs r
 if a.2.1≠0 then(a.1,a.2.1,[])else ja ei ft a.1 r.reverse a.2.2
theorem iL(ei:List Ob)(ft:FT)(fs:FS)(n:eu)(r:eB):findF ei ft fs (n::r) =
  if(eT ei ft fs r).2.1≠0 then((eT ei ft fs r).1,(eT ei ft fs r).2.1,zE) else
  match l5 (eT ei ft fs r).2.2 n with
  |none=>((eT ei ft fs r).1,4,zE)
  |some c=>((eT ei ft fs r).1,0,(n,c)):=by
 unfold eT;rw[findF];by_cases h:(findF ei ft fs r).2.1≠0
 ·simp only[fY h]
 ·simp only[eJ h]
def r9:Option LT->Option (List eD)
 |some (.own es)=>some (es.map kB)
 |_=>none
def GJ:Option LT->Option Nat
 |some (.held f)=>some f
 |_=>none
structure Flat (ei:List Ob)(t:LT)(ft:FT):Prop where
 kind:t.kind=2
 root:ft.root=t.id
 od:∀p,ft.od p=r9 (t.at ei p)
 of:∀p,ft.of p=GJ (t.at ei p)
def w7 (s:eu):List UInt8:=s.data.toList
theorem yi{a b:eu}(h:w7 a=w7 b):a=b:=bytes_inj h
theorem ly(s:eu):(w7 s).length=s.size:=kG
theorem y0(s:eu):s.toList=w7 s:=by simp only[uL];rfl
def IH:List (List UInt8)->List UInt8
 |[]=>[]
 |[x]=>x
 |x::y::r=>x++47::IH (y::r)
def lx:List UInt8->List (List UInt8)
 |[]=>[[]]
 |c::r=>if c=47 then []::lx r else((c::(lx r).headD [])::(lx r).tail)
theorem jZ(s:List UInt8):lx s≠[]:=by
 cases s with
 |nil=>simp[lx]
 |cons c r=>simp only[lx];split<;>simp
theorem tO:∀(a b:List UInt8),(∀c∈a,c≠47)->lx (a++47::b)=a::lx b
 |[],b,_=>by simp[lx]
 |c::r,b,h=>by
  have hc:c≠47:=h c (ir ..)
  have e:=tO r b (fun d hd=>h d (mI _ hd))
  simp only[rM,lx]
  rw[eJ hc,e];rfl
theorem vW:∀(a:List UInt8),(∀c∈a,c≠47)->lx a=[a]
 |[],_=>rfl
 |c::r,h=>by
  have hc:c≠47:=h c (ir ..)
  have b:=vW r (fun d hd=>h d (mI _ hd))
  simp only[lx]
  rw[eJ hc,b];rfl
theorem mQ:∀(l:List (List UInt8)),l≠[]->(∀x∈l,∀c∈x,c≠47)->lx (IH l)=l
 |[],h,_=>absurd rfl h
 |[x],_,h=>by simp only[IH];exact vW x (h x (ir ..))
 |x::y::r,_,h=>by
  simp only[IH]
  rw[tO x _ (h x (ir ..)),mQ (y::r) (by simp) (fun z a=>h z (mI _ a))]
theorem l7(x:List UInt8){r:List (List UInt8)}(h:r≠[]):IH (x::r)=x++47::IH r:=by
 cases r with
 |nil=>exact absurd rfl h
 |cons y t=>rfl
theorem GK(c:UInt8)(x:List UInt8)(r:List (List UInt8)):IH ((c::x)::r)=c::IH (x::r):=by
 cases r with
 |nil=>rfl
 |cons y t=>rfl
theorem qb:∀(s:List UInt8),IH (lx s)=s
 |[]=>rfl
 |c::r=>by
  have a:=qb r
  simp only[lx]
  split
  ·next hc=>rw[l7 _ (jZ r),a,hc];rfl
  ·rw[GK]
   congr 1
   cases hs:lx r with
   |nil=>exact absurd hs (jZ r)
   |cons y t=>rw[hs]at a;exact a
theorem sg(x:List UInt8):∀(l:List (List UInt8)),l≠[]->IH (l++[x])=IH l++47::x
 |[],h=>absurd rfl h
 |[y],_=>rfl
 |y::z::r,_=>by
  have a:=sg x (z::r) (by simp)
  show y++47::IH (z::r++[x])=(y++47::IH (z::r))++47::x
  rw[a];simp
theorem l8(a b:eu):w7 (a++b)=w7 a++w7 b:=by
 unfold w7;simp
def eA (l:eB):Prop:=∀x∈l,ez x=true
theorem eA.append{a b:eB}(c:eA a)(d:eA b):eA (a++b):=fun x hx=>(pR.1 hx).elim (c x) (d x)
theorem eA.left{a b:eB}(h:eA (a++b)):eA a:=fun x hx=>h x (List.mem_append_left _ hx)
theorem eA.right{a b:eB}(h:eA (a++b)):eA b:=fun x hx=>h x (Qv _ hx)
theorem eA.take{a:eB}(h:eA a)(k:Nat):eA (a.take k):=fun x hx=>h x (wY hx)
theorem ve(ei:List Ob)(f:Kids->Kids):∀(p:eB) (t d:LT) (ks:Kids),t.at ei p=some d->kids ei d=some ks->
  (∀n r,(m1 ei f p t).at ei (p++n::r)=(g8 (f ks) n).bind fun c=>c.at ei r)/\(m1 ei f p t).at ei p=some (.own (f ks))
 |[],t,d,ks,a,hk=>by
  rw[k0]at a;cases a
  refine⟨fun n r=>?_,?_⟩
  ·rw[w8,h9,AE,hk];rfl
  ·rw[k0,m1,hk];rfl
 |m::p,t,d,ks,a,hk=>by
  rw[h9]at a
  cases b:kids ei t with
  |none=>rw[b]at a;simp at a
  |some es=>
   rw[b,my]at a
   cases hc:g8 es m with
   |none=>rw[hc]at a;simp at a
   |some c=>
    rw[hc,my]at a
    obtain⟨e,g⟩:=ve ei f p c d ks a hk
    refine⟨fun n r=>?_,?_⟩
    ·rw[rM,h9,lI,b,nG,my,kM,fY rfl,hc,jS,my]
     exact e n r
    ·rw[h9,lI,b,nG,my,kM,fY rfl,hc,jS,my]
     exact g
theorem j0(ei:List Ob)(f:Kids->Kids):∀(q:eB) (m:eu) (r:eB) (t d:LT),t.at ei (q++m::r)=some d->
  ∃e g,t.at ei q=some e/\kids ei e=some g/\(m1 ei f (q++m::r) t).at ei q=some (.own (g.map fun x=>if x.1=m then(x.1,m1 ei f r x.2)else x))
 |[],m,r,t,d,a=>by
  rw[w8,h9]at a
  cases b:kids ei t with
  |none=>rw[b]at a;simp at a
  |some es=>exact⟨t,es,k0 _ _,b,by rw[k0,w8,m1,b];rfl⟩
 |n::q,m,r,t,d,a=>by
  rw[rM,h9]at a
  cases b:kids ei t with
  |none=>rw[b]at a;simp at a
  |some es=>
   rw[b,my]at a
   cases hc:g8 es n with
   |none=>rw[hc]at a;simp at a
   |some c=>
    rw[hc,my]at a
    obtain⟨e,g,h1,h2,h3⟩:=j0 ei f q m r c d a
    refine⟨e,g,?_,h2,?_⟩
    ·rw[h9,b,my,hc,my];exact h1
    ·rw[rM,h9,lI,b,nG,my,kM,fY rfl,hc,jS,my]
     exact h3
theorem gM(ei:List Ob)(f:Kids->Kids):∀(p q:eB) (t d:LT),t.at ei p=some d->¬q <+: p->¬p <+: q->(m1 ei f p t).at ei q=t.at ei q
 |[],q,t,d,a,h1,h2=>absurd (List.nil_prefix) h2
 |m::p,[],t,d,a,h1,h2=>absurd (List.nil_prefix) h1
 |m::p,n::q,t,d,a,h1,h2=>by
  rw[h9]at a
  cases b:kids ei t with
  |none=>rw[b]at a;simp at a
  |some es=>
   rw[b,my]at a
   rw[h9,h9,lI,b,nG,my,my,kM]
   by_cases hn:n=m
   ·subst hn
    rw[fY rfl]
    cases hc:g8 es n with
    |none=>rfl
    |some c=>
     rw[hc,my]at a
     rw[jS,my,my]
     exact gM ei f p q c d a (fun h=>h1 (Gh.2 ⟨rfl,h⟩)) (fun h=>h2 (Gh.2 ⟨rfl,h⟩))
   ·rw[eJ hn]
def Sound (ei:List Ob):Prop:=(∀id,0<=eY ei id)/\∀id,eC ei id=2->eF (eR ei id)/\(eR ei id).length<=16/\∀e∈eR ei id,ez e.1=true/\(e.2.1=1\/e.2.1=2)/\eC ei e.2.2=e.2.1/\eY ei e.2.2+1<=eY ei id
def eL (ei:List Ob):Nat->LT->Prop
 |_,.file id=>eC ei id=1
 |_,.held _=>True
 |n,.dir id=>eC ei id=2/\eY ei id<=n
 |0,.own es=>es=[]
 |n+1,.own es=>eF es/\es.length<=16/\∀x∈es,ez x.1=true/\eL ei n x.2
theorem jp(hS:Sound ei){n:Nat}{t:LT}(h:eL ei n t){ks:Kids}(hk:kids ei t=some ks):eF ks/\ks.length<=16/\∀x∈ks,ez x.1=true/\∃m,n=m+1/\eL ei m x.2:=by
 cases t with
 |file i=>simp[kids]at hk
 |held f=>simp[kids]at hk
 |own es=>
  simp only[kids,kE]at hk;subst hk;cases n with
  |zero=>rw[eL]at h;subst h;exact⟨List.Pairwise.nil,by simp,by simp⟩
  |succ m=>rw[eL]at h;exact⟨h.1,h.2.1,fun x hx=>⟨(h.2.2 x hx).1,m,rfl,(h.2.2 x hx).2⟩⟩
 |dir id=>
  have hk2:(eR ei id).map Pl=ks:=by simpa [kids]using hk
  subst hk2;have h':eC ei id=2/\eY ei id<=n:=by cases n<;>simpa [eL]using h
  obtain⟨b,c,d⟩:=hS.2 id h'.1;refine⟨?_,by simpa using c,fun x hx=>?_⟩
  ·unfold eF;rw[zR];exact b
  ·obtain⟨e,g,rfl⟩:=H3.1 hx
   obtain⟨v,j,a,k⟩:=d e g;have h0:=hS.1 e.2.2;refine⟨v,n-1,by omega,?_⟩;show eL ei (n-1) (ltOf e);unfold ltOf;by_cases h2:e.2.1=2
   ·rw[fY h2]
    have:eC ei e.2.2=2/\eY ei e.2.2<=((n-1:Nat):Int):=⟨a.trans h2,by omega⟩
    cases hn:n-1<;>(rw[hn]at this;simpa [eL]using this)
   ·rw[eJ h2]
    have:eC ei e.2.2=1:=a.trans (by omega)
    cases hn:n-1<;>simpa [eL]using this
theorem l9{ks:Kids}{c:LT}(h:g8 ks n=some c):(n,c)∈ks:=by
 unfold g8 at h;cases hf:ks.find? (fun x=>decide (x.1=n)) with
 |none=>rw[hf]at h;simp at h
 |some x=>
  rw[hf]at h;simp only[jS,kE]at h;have h1:=Kh hf;have h2:=BN hf;simp only[rL]at h1;rw[<-h1,<-h];exact h2
theorem mf(hS:Sound ei):∀(p:eB) {n:Nat} {t c:LT},eL ei n t->t.at ei p=some c->p.length<=n/\eL ei (n-p.length) c/\eA p
 |[],n,t,c,h,a=>by rw[k0]at a;cases a;exact⟨by simp,by simpa using h,fun x hx=>by simp at hx⟩
 |m::p,n,t,c,h,a=>by
  rw[h9]at a
  cases b:kids ei t with
  |none=>rw[b]at a;simp at a
  |some ks=>
   rw[b,my]at a
   cases hc:g8 ks m with
   |none=>rw[hc]at a;simp at a
   |some x=>
    rw[hc,my]at a
    obtain⟨_,_,h3⟩:=jp hS h b
    obtain⟨hv,k,rfl,hx⟩:=h3 _ (l9 hc)
    obtain⟨g,e,f⟩:=mf hS p hx a
    refine⟨by simp;omega,?_,fun y d=>?_⟩
    ·rw[gK,show k+1-(p.length+1)=k-p.length by omega];exact e
    ·rcases Hd.1 d with rfl|d
     ·exact hv
     ·exact f y d
theorem Cq{id k:Int}(h:eC ei id=k)(hk:k≠0):1<=id:=by
 unfold eC at h;by_cases h1:1<=id
 ·exact h1
 ·rw[eJ h1]at h;exact absurd h.symm hk
theorem KH(h:∀e∈es,e.2.1=1\/e.2.1=2):(es.map Pl).map kB=es:=by
 rw[BZ];conv=>rhs;rw[<-List.map_id es]
 refine Kg fun e b=>?_;show kB (Pl e)=id e;unfold kB Pl ltOf;obtain⟨a,k,i⟩:=e;rcases h _ b with h|h
 ·simp only at h;subst h;rfl
 ·simp only at h;subst h;rfl
theorem DW(ks:Kids)(n:eu):l5 (ks.map kB) n=(g8 ks n).map fun c=>(c.kind,c.id):=by
 unfold l5 g8;rw[List.find?_map];show((ks.find? _).map kB).map _=_;rw[Nn,Nn];rfl
theorem qR{t c:LT}{ft:FT}(hS:Sound ei)(hF:Flat ei t ft){n:Nat}(hc:eL ei n c)(b:t.at ei p=some c)(fs:FS)(nm:eu):
  ja ei ft fs p (nm,c.kind,c.id)=((lO ei fs c).1,(lO ei fs c).2.1,(lO ei fs c).2.2.map kB):=by
 unfold ja;cases c with
 |file i=>rfl
 |held f=>rfl
 |own es=>
  have a:=hF.od p;rw[b]at a;simp only[LT.kind,LT.id,a];rfl
 |dir id=>
  have h':eC ei id=2:=by cases n<;>simp[eL]at hc<;>exact hc.1
  have h1:=Cq h' (by decide);have d:=KH (fun e g=>((hS.2 id h').2.2 e g).2.1);rw[eJ (show ¬((nm,(LT.dir id).kind,(LT.dir id).id):eD).2.1≠2 from fun h=>h rfl),eJ (show ¬((nm,(LT.dir id).kind,(LT.dir id).id):eD).2.2=0 from by show ¬id=0;omega)];show(if(fs.fM id).2=true then _ else _)=_;have j:lO ei fs (.dir id)=if(fs.fM id).2 then((fs.fM id).1,0,(eR ei id).map Pl) else((fs.fM id).1,14,[]):=rfl;rw[j];by_cases hg:(fs.fM id).2=true
  ·rw[fY hg,fY hg];simp only[d];rfl
  ·rw[eJ hg,eJ hg];rfl
theorem nM{t:LT}{ft:FT}(hS:Sound ei)(hF:Flat ei t ft){n:Nat}(c:eL ei n t)(fs:FS):∀r:eB,
  (findF ei ft fs r).1=(g5 ei t fs r).1/\(findF ei ft fs r).2.1=(g5 ei t fs r).2.1/\
  ((g5 ei t fs r).2.1=0->(findF ei ft fs r).2.2=(r.headD fy,(g5 ei t fs r).2.2.kind,(g5 ei t fs r).2.2.id)/\t.at ei r.reverse=some (g5 ei t fs r).2.2)
 |[]=>⟨rfl,rfl,fun _=>⟨by show(_,(2:Int),ft.root)=_;rw[hF.root,<-hF.kind];rfl,k0 _ _⟩⟩
 |m::r=>by
  obtain⟨d,e,g⟩:=nM hS hF c fs r
  rw[findF,g5]
  simp only[d,e]
  by_cases h0:(g5 ei t fs r).2.1≠0
  ·simp only[fY h0]
   exact⟨trivial,trivial,fun h=>absurd h h0⟩
  ·simp only[eJ h0]
   obtain⟨j,b⟩:=g (jq.1 h0)
   have hc:=(mf hS _ c b).2.1
   have k:=qR hS hF hc b (g5 ei t fs r).1 (r.headD fy)
   rw[j,k]
   simp only
   by_cases a:(lO ei (g5 ei t fs r).1 (g5 ei t fs r).2.2).2.1≠0
   ·rw[fY a,fY a]
    exact⟨rfl,rfl,fun h=>absurd h a⟩
   ·rw[eJ a,eJ a,DW]
    have l:(kids ei (g5 ei t fs r).2.2)=some (lO ei (g5 ei t fs r).1 (g5 ei t fs r).2.2).2.2:=by
     generalize (g5 ei t fs r).2.2=x at a ⊢;generalize (g5 ei t fs r).1=y at a ⊢;cases x with
     |file i=>simp[lO]at a
     |held f=>simp[lO]at a
     |own es=>rfl
     |dir id=>
      simp only[lO]at a ⊢;by_cases hg:(y.fM id).2=true
      ·rw[fY hg];rfl
      ·rw[eJ hg]at a;simp at a
    cases hp:g8 (lO ei (g5 ei t fs r).1 (g5 ei t fs r).2.2).2.2 m with
    |none=>exact⟨rfl,rfl,fun h=>by simp at h⟩
    |some x=>
     refine⟨rfl,rfl,fun _=>⟨rfl,?_⟩⟩;rw[nC,i1,b,my,h9,l,my,hp,my,k0]
theorem jb{t:LT}{ft:FT}(hS:Sound ei)(hF:Flat ei t ft){n:Nat}(a:eL ei n t)(fs:FS)(r:eB):
  eT ei ft fs r=((kq ei t fs r).1,(kq ei t fs r).2.1,(kq ei t fs r).2.2.map kB):=by
 obtain⟨c,d,e⟩:=nM hS hF a fs r;unfold eT kq;simp only[c,d];by_cases h0:(g5 ei t fs r).2.1≠0
 ·simp only[fY h0];rfl
 ·simp only[eJ h0]
  obtain⟨f,b⟩:=e (jq.1 h0);have hc:=(mf hS _ a b).2.1;rw[f,qR hS hF hc b (g5 ei t fs r).1 (r.headD fy)]
def gy (es:List eD)(n:eu):List eD:=es.map fun e=>if e.1=n then(e.1,e.2.1,0)else e
def ln (ei:List Ob)(fs:FS)(ft:FT):eB->FT
 |[]=>if(ft.od []).isSome then ft else { ft with od:=upd ft.od [] (some (eT ei ft fs []).2.2),root:=0 }
 |n::r=>
  if(ft.od (n::r).reverse).isSome then ft else
  let a:=ln ei fs { ft with od:=upd ft.od (n::r).reverse (some (eT ei ft fs (n::r)).2.2) } r
  { a with od:=upd a.od r.reverse (some (gy ((a.od r.reverse).getD []) n)) }
theorem si(ei:List Ob)(fs:FS){ft iM:FT}(hr:iM.root=ft.root):∀r:eB,(∀x,x <+: r.reverse->iM.od x=ft.od x)->findF ei iM fs r=findF ei ft fs r/\eT ei iM fs r=eT ei ft fs r
 |[],h=>by
  have hf:findF ei iM fs []=findF ei ft fs []:=by rw[findF,findF,hr]
  refine⟨hf,?_⟩
  unfold eT
  rw[hf]
  unfold ja
  rw[show iM.od ([]:eB).reverse=ft.od ([]:eB).reverse from h _ (mB _)]
 |n::r,h=>by
  have hp:∀x,x <+: r.reverse->iM.od x=ft.od x:=fun x hx=>h x (hx.trans (by rw[nC];exact kV _ _))
  obtain⟨_,a⟩:=si ei fs hr r hp
  have hf:findF ei iM fs (n::r)=findF ei ft fs (n::r):=by rw[iL,iL,a]
  refine⟨hf,?_⟩
  unfold eT
  rw[hf]
  unfold ja
  rw[show iM.od (n::r).reverse=ft.od (n::r).reverse from h _ (mB _)]
structure fN (ei:List Ob)(fs:FS)(ft:FT)(K:eB->List eD)(p:eB):Prop where
 look:∀q,q <+: p->eT ei ft fs q.reverse=(fs,0,K q)
 own:∀q,q <+: p->∀es,ft.od q=some es->es=K q
 up:∀q m,(q++[m]) <+: p->(ft.od (q++[m])).isSome=true->(ft.od q).isSome=true/\gy (K q) m=K q
 root:(ft.od []).isSome=true->ft.root=0
def zK (K:eB->List eD)(p x:eB):List eD:=match p[x.length]? with
 |some m=>gy (K x) m
 |none=>K x
theorem qc{α:Type}{x p:List α}{n:α}(h:x <+: p++[n]):x <+: p\/x=p++[n]:=by
 rw[List.prefix_concat_iff]at h;rcases h with h|h
 ·exact .inr h
 ·exact .inl h
theorem iN{α:Type}{x p:List α}(h:x <+: p)(hne:x≠p):∃m,p[x.length]?=some m/\(x++[m]) <+: p:=by
 obtain⟨t,rfl⟩:=h;cases t with
 |nil=>simp at hne
 |cons m r=>exact⟨m,by simp,⟨r,by simp⟩⟩
theorem sj{fs:FS}{ft:FT}:∀{r:eB},fN ei fs ft K r.reverse->(ft.od r.reverse).isSome=true->ft.root=0/\∀x,x <+: r.reverse->ft.od x=some (zK K r.reverse x)
 |[],h,ho=>by
  refine⟨h.root ho,fun x hx=>?_⟩
  have:x=[]:=by simpa using hx
  subst this
  obtain⟨es,a⟩:=Qr.1 ho
  have:=h.own [] (mB _) es a
  show ft.od ([]:eB).reverse=_
  rw[a,this];rfl
 |n::r,h,ho=>by
  rw[nC]at h ho ⊢
  obtain⟨hu,c⟩:=h.up r.reverse n (mB _) ho
  have nA:∀x,x <+: r.reverse->x <+: r.reverse++[n]:=fun x hx=>hx.trans (kV _ _)
  have h':fN ei fs ft K r.reverse:=⟨fun q hq=>h.look q (nA q hq),fun q hq=>h.own q (nA q hq),fun q m hq=>h.up q m (nA _ hq),h.root⟩
  obtain⟨d,e⟩:=sj h' hu
  refine⟨d,fun x hx=>?_⟩
  rcases qc hx with hx|rfl
  ·rw[e x hx]
   by_cases b:x=r.reverse
   ·subst b
    have f:zK K r.reverse r.reverse=K r.reverse:=by unfold zK;rw[mG (io _)]
    have e2:zK K (r.reverse++[n]) r.reverse=gy (K r.reverse) n:=by unfold zK;rw[zM (io _)];simp
    rw[f,e2,c]
   ·obtain⟨m,hm,_⟩:=iN hx b
    have g:x.length<r.reverse.length:=(s6.1 hm).1
    unfold zK
    rw[ox g,hm]
  ·obtain⟨es,a⟩:=Qr.1 ho
   have:=h.own _ (mB _) es a
   rw[a,this]
   unfold zK
   rw[mG (by simp)]
theorem sr{fs:FS}:∀{r:eB} {ft:FT},fN ei fs ft K r.reverse->
  (ln ei fs ft r).root=0/\(ln ei fs ft r).of=ft.of/\∀x,(ln ei fs ft r).od x=if x <+: r.reverse then some (zK K r.reverse x)else ft.od x
 |[],ft,h=>by
  rw[ln]
  by_cases ho:(ft.od []).isSome=true
  ·rw[fY ho]
   obtain⟨h1,h2⟩:=sj (r:=[]) h ho
   refine⟨h1,rfl,fun x=>?_⟩
   split
   ·next hx=>exact h2 x hx
   ·rfl
  ·rw[eJ ho]
   refine⟨rfl,rfl,fun x=>?_⟩
   have hl:=h.look [] (mB _)
   show upd ft.od [] _ x=_
   by_cases hx:x=[]
   ·subst hx
    rw[upd_same,fY (by simp),show eT ei ft fs []=(fs,0,K [])from hl];rfl
   ·rw[fx hx,eJ (by simpa using hx)]
 |n::r,ft,h=>by
  rw[ln]
  by_cases ho:(ft.od (n::r).reverse).isSome=true
  ·rw[fY ho]
   obtain⟨h1,h2⟩:=sj (r:=n::r) h ho
   refine⟨h1,rfl,fun x=>?_⟩
   split
   ·next hx=>exact h2 x hx
   ·rfl
  ·rw[eJ ho]
   have g:(n::r).reverse=r.reverse++[n]:=nC
   rw[g]at h ⊢
   have hl:=h.look (r.reverse++[n]) (mB _)
   rw[List.reverse_append,nu]at hl
   have i:eT ei ft fs (n::r)=(fs,0,K (r.reverse++[n])):=hl
   rw[i]
   have nA:∀x,x <+: r.reverse->x <+: r.reverse++[n]:=fun x hx=>hx.trans (kV _ _)
   have hne:∀x,x <+: r.reverse->x≠r.reverse++[n]:=fun x hx e=>by
    have:=hx.length_le
    rw[e]at this;simp at this;omega
   have h':fN ei fs { ft with od:=upd ft.od (r.reverse++[n]) (some (fs,(0:Int),K (r.reverse++[n])).2.2) } K r.reverse:=by
    refine⟨fun q hq=>?_,fun q hq es j=>?_,fun q m hq hs=>?_,fun hs=>?_⟩
    ·rw[(si ei fs (ft:=ft) (iM:={ ft with od:=upd ft.od (r.reverse++[n]) (some (fs,(0:Int),K (r.reverse++[n])).2.2) }) rfl q.reverse (fun x hx=>fx (hne x (by rw[nu]at hx;exact hx.trans hq)) _)).2]
     exact h.look q (nA q hq)
    ·exact h.own q (nA q hq) es ((fx (f:=ft.od) (hne q hq) (some (K (r.reverse++[n])))).symm.trans j)
    ·have b:=fx (f:=ft.od) (hne _ hq) (some (K (r.reverse++[n])))
     have k:q <+: r.reverse:=(kV q [m]).trans hq;have e2:=fx (f:=ft.od) (hne _ k) (some (K (r.reverse++[n])));show(upd ft.od _ _ q).isSome=true/\_;rw[e2];exact h.up q m (nA _ hq) (by rw[<-b];exact hs)
    ·exact h.root (by rw[<-fx (f:=ft.od) (hne [] (by simp)) (some (K (r.reverse++[n])))];exact hs)
   obtain⟨l,o,d⟩:=sr h';refine⟨l,o,fun x=>?_⟩;show upd (ln ei fs _ r).od r.reverse _ x=_;rw[d r.reverse,fY (mB _)];have b:zK K r.reverse r.reverse=K r.reverse:=by unfold zK;rw[mG (io _)]
   rw[b];by_cases hx:x=r.reverse
   ·subst hx
    rw[upd_same,fY (kV _ _)];have e2:zK K (r.reverse++[n]) r.reverse=gy (K r.reverse) n:=by unfold zK;rw[zM (io _)];simp
    rw[e2];rfl
   ·rw[fx hx,d]
    by_cases a:x <+: r.reverse
    ·rw[fY a,fY (nA x a)]
     obtain⟨m,hm,_⟩:=iN a hx;have p:x.length<r.reverse.length:=(s6.1 hm).1;unfold zK;rw[ox p,hm]
    ·rw[eJ a]
     show upd ft.od _ _ x=_;by_cases c:x=r.reverse++[n]
     ·subst c
      rw[upd_same,fY (mB _)];unfold zK;rw[mG (by simp)]
     ·rw[fx c,eJ]
      intro s;rcases qc s with h3|h3
      ·exact a h3
      ·exact c h3
def fC (ei:List Ob)(t:LT)(fs:FS)(p:eB):Prop:=∀x id,x <+: p->t.at ei x=some (.dir id)->fs.kD id=true
theorem fC.mono{t:LT}{fs fs':FS}(h:fC ei t fs p)(hk:∀x,fs.kD x=true->fs'.kD x=true):fC ei t fs' p:=fun x id hx a=>hk _ (h x id hx a)
theorem fC.pre{t:LT}{fs:FS}(h:fC ei t fs p)(hq:q <+: p):fC ei t fs q:=fun x id hx a=>h x id (hx.trans hq) a
theorem yc{fs:FS}{c:LT}{ks:Kids}(hk:kids ei c=some ks)(h:∀id,c=.dir id->fs.kD id=true):lO ei fs c=(fs,0,ks):=by
 cases c with
 |file i=>simp[kids]at hk
 |held f=>simp[kids]at hk
 |own es=>simp only[kids,kE]at hk;subst hk;rfl
 |dir id=>
  have h1:fs.fM id=(fs,true):=by unfold FS.fM;rw[fY (h id rfl)]
  simp only[kids,kE]at hk;subst hk;have a:lO ei fs (.dir id)=if(fs.fM id).2 then((fs.fM id).1,0,(eR ei id).map Pl) else((fs.fM id).1,14,[]):=rfl;rw[a,h1];rfl
theorem qT{t:LT}{c:LT}(h:t.at ei (q++[n])=some c):∃d ks,t.at ei q=some d/\kids ei d=some ks/\g8 ks n=some c:=by
 rw[i1]at h;cases hd:t.at ei q with
 |none=>rw[hd]at h;simp at h
 |some d=>
  rw[hd,my,h9]at h;cases hk:kids ei d with
  |none=>rw[hk]at h;simp at h
  |some ks=>
   rw[hk,my]at h;cases hp:g8 ks n with
   |none=>rw[hp]at h;simp at h
   |some x=>rw[hp,my,k0]at h;cases h;exact⟨d,ks,rfl,hk,hp⟩
theorem AH{t:LT}{fs:FS}:∀{r:eB} {c:LT},t.at ei r.reverse=some c->(∀x id,x <+: r.reverse->x≠r.reverse->t.at ei x=some (.dir id)->fs.kD id=true)->g5 ei t fs r=(fs,0,c)
 |[],c,a,hk=>by rw[List.reverse_nil,k0]at a;cases a;rfl
 |n::r,c,a,hk=>by
  rw[nC]at a hk
  obtain⟨d,ks,h1,h2,h3⟩:=qT a
  have hne:∀x,x <+: r.reverse->x≠r.reverse++[n]:=fun x hx e=>by
   have:=hx.length_le
   rw[e]at this;simp at this;omega
  have b:=AH h1 (fun x id hx g f=>hk x id (hx.trans (kV _ _)) (hne x hx) f)
  rw[g5]
  simp only[b]
  rw[eJ (by decide),yc h2 (fun id hd=>hk r.reverse id (kV _ _) (hne _ (mB _)) (by rw[h1,hd]))]
  simp only
  rw[eJ (by decide),h3]
theorem AJ{t:LT}{fs:FS}{r:eB}{c:LT}{ks:Kids}(a:t.at ei r.reverse=some c)(hk:kids ei c=some ks)(h:fC ei t fs r.reverse):kq ei t fs r=(fs,0,ks):=by
 unfold kq;simp only[AH a (fun x id hx _ b=>h x id hx b)];rw[eJ (by decide)];exact yc hk (fun id hd=>h _ id (mB _) (by rw[a,hd]))
theorem su{fs:FS}{c:LT}(h:(lO ei fs c).2.1=0):kids ei c=some (lO ei fs c).2.2/\fs.Next (lO ei fs c).1/\∀id,c=.dir id->(lO ei fs c).1.kD id=true:=by
 cases c with
 |file i=>simp[lO]at h
 |held f=>simp[lO]at h
 |own es=>exact⟨rfl,FS.Next.refl _,fun id hd=>by cases hd⟩
 |dir id=>
  have a:lO ei fs (.dir id)=if(fs.fM id).2 then((fs.fM id).1,0,(eR ei id).map Pl) else((fs.fM id).1,14,[]):=rfl;rw[a]at h ⊢;rcases fs.x8 id with⟨h1,h2,h3⟩|⟨h1,_⟩
  ·rw[fY h1]
   exact⟨rfl,h2,fun b hd=>by cases hd;exact h3⟩
  ·rw[h1]at h;simp at h
theorem oI{t:LT}{fs:FS}:∀{r:eB},(g5 ei t fs r).2.1=0->t.at ei r.reverse=some (g5 ei t fs r).2.2/\fs.Next (g5 ei t fs r).1/\∀x id,x <+: r.reverse->x≠r.reverse->t.at ei x=some (.dir id)->(g5 ei t fs r).1.kD id=true
 |[],_=>⟨k0 _ _,FS.Next.refl _,fun x id hx a=>absurd (by simpa using hx) a⟩
 |n::r,h=>by
  rw[g5]at h ⊢
  by_cases h0:(g5 ei t fs r).2.1≠0
  ·simp only[fY h0]at h;exact absurd h h0
  ·simp only[eJ h0]at h ⊢
   obtain⟨e,i,j⟩:=oI (jq.1 h0)
   by_cases b:(lO ei (g5 ei t fs r).1 (g5 ei t fs r).2.2).2.1≠0
   ·rw[fY b]at h;exact absurd h b
   ·rw[eJ b]at h ⊢
    obtain⟨k,f,l⟩:=su (jq.1 b)
    cases hp:g8 (lO ei (g5 ei t fs r).1 (g5 ei t fs r).2.2).2.2 n with
    |none=>rw[hp]at h;simp at h
    |some c=>
     rw[hp]at h
     simp only
     refine⟨?_,i.trans f,fun x id hx a d=>?_⟩
     ·rw[nC,i1,e,my,h9,k,my,hp,my,k0]
     ·rw[nC]at hx a
      rcases qc hx with hx|hx
      ·by_cases g:x=r.reverse
       ·subst g
        rw[e]at d
        exact l id (wZ d)
       ·exact f.2.2.2.2 id (j x id hx g d)
      ·exact absurd hx a
theorem lq{t:LT}{fs:FS}{r:eB}(h:(kq ei t fs r).2.1=0):
  (∃d,t.at ei r.reverse=some d/\kids ei d=some (kq ei t fs r).2.2)/\fs.Next (kq ei t fs r).1/\fC ei t (kq ei t fs r).1 r.reverse:=by
 unfold kq at h ⊢;by_cases h0:(g5 ei t fs r).2.1≠0
 ·simp only[fY h0]at h;exact absurd h h0
 ·simp only[eJ h0]at h ⊢
  obtain⟨b,f,g⟩:=oI (jq.1 h0);obtain⟨i,c,j⟩:=su h;refine⟨⟨_,b,i⟩,f.trans c,fun x id hx a=>?_⟩;by_cases e:x=r.reverse
  ·subst e
   rw[b]at a;exact j id (wZ a)
  ·exact c.2.2.2.2 id (g x id hx e a)
def jJ (ei:List Ob)(t:LT)(q:eB):List eD:=(((t.at ei q).bind (kids ei)).getD []).map kB
theorem KI(h:∀e∈es,e.1=n->e.2.2=0):gy es n=es:=by
 unfold gy;conv=>rhs;rw[<-List.map_id es]
 refine Kg fun e d=>?_;show(if e.1=n then _ else _)=e;split
 ·next hn=>have:=h e d hn;obtain⟨a,b,c⟩:=e;simp only at this;subst this;rfl
 ·rfl
theorem jc{ks:Kids}(hr:eF ks){c:LT}(hp:g8 ks n=some c){x:eu×LT}(hx:x∈ks)(hn:x.1=n):x.2=c:=by
 induction ks with
 |nil=>simp at hx
 |cons y r b=>
  unfold g8 at hp;by_cases a:y.1=n
  ·rw[Dk (by simpa using a)]at hp
   rcases Hd.1 hx with rfl|hx
   ·simpa using hp
   ·have:=(pK.1 hr).1 x hx
    rw[a,hn,QQ]at this;omega
  ·rw[Dl (by simpa using a)]at hp
   rcases Hd.1 hx with rfl|hx
   ·exact absurd hn a
   ·exact b hr.tail hp hx
theorem un{t:LT}{ft:FT}{fs:FS}(hS:Sound ei)(hF:Flat ei t ft){n:Nat}(h:eL ei n t){d:LT}{ks:Kids}(a:t.at ei p=some d)(hk:kids ei d=some ks)(hw:fC ei t fs p):fN ei fs ft (jJ ei t) p:=by
 have dir:∀q,q <+: p->∃c b,t.at ei q=some c/\kids ei c=some b:=fun q hq=>by
  obtain⟨s,rfl⟩:=hq;cases s with
  |nil=>rw[nH]at a;exact⟨d,ks,a,hk⟩
  |cons m s=>
   rw[show q++m::s=(q++[m])++s by simp,i1]at a;cases hx:t.at ei (q++[m]) with
   |none=>rw[hx]at a;simp at a
   |some y=>obtain⟨c,b,h1,h2,_⟩:=qT hx;exact⟨c,b,h1,h2⟩
 refine⟨fun q hq=>?_,fun q hq es g=>?_,fun q m hq hs=>?_,fun hs=>?_⟩
 ·obtain⟨c,b,h1,h2⟩:=dir q hq
  have:=AJ (r:=q.reverse) (by rw[nu];exact h1) h2 (by rw[nu];exact hw.pre hq)
  rw[jb hS hF h fs q.reverse,this];unfold jJ;rw[h1,my,h2];rfl
 ·have:=hF.od q
  rw[g]at this;unfold jJ;cases hc:t.at ei q with
  |none=>rw[hc]at this;simp[r9]at this
  |some c=>
   rw[hc]at this;cases c with
   |own es'=>simp only[r9,kE]at this;rw[this];rfl
   |file i=>simp[r9]at this
   |held f=>simp[r9]at this
   |dir i=>simp[r9]at this
 ·rw[hF.od]at hs
  cases hc:t.at ei (q++[m]) with
  |none=>rw[hc]at hs;simp[r9]at hs
  |some c=>
   rw[hc]at hs;obtain⟨es',rfl⟩:∃es',c=.own es':=by cases c<;>first|exact⟨_,rfl⟩|(simp[r9]at hs)
   obtain⟨j,b,h1,h2,h3⟩:=qT hc;have l:=(mf hS _ h h1).2.1;have o:=l9 h3;obtain⟨k,rfl⟩:∃k,j=.own k:=by
    cases j with
    |own es=>exact⟨es,rfl⟩
    |file i=>simp[kids]at h2
    |held f=>simp[kids]at h2
    |dir i=>
     simp only[kids,kE]at h2;subst h2;obtain⟨e,_,g⟩:=H3.1 o
     have:=rp Prod.snd g
     unfold Pl ltOf at this;by_cases h2:e.2.1=2<;>simp[h2]at this
   simp only[kids,kE]at h2;subst h2;refine⟨by rw[hF.od,h1];rfl,?_⟩;unfold jJ;rw[h1];refine KI fun e g hn=>?_
   obtain⟨x,hx,rfl⟩:=H3.1 g;have hr:=(jp hS l rfl).1
   have:=jc hr h3 hx hn
   show x.2.id=0;rw[this];rfl
 ·rw[hF.od,k0]at hs
  rw[hF.root];cases t<;>first|rfl|(simp[r9]at hs)
theorem DX{t:LT}{ft iM:FT}{fs:FS}(hS:Sound ei)(hF:Flat ei t ft){n:Nat}(l:eL ei n t){d:LT}{ks:Kids}(h:t.at ei q=some d)(hk:kids ei d=some ks)(f:Kids->Kids)
  (o:iM.root=0)(p:∀x,¬q <+: x->iM.od x=if x <+: q then some (zK (jJ ei t) q x)else ft.od x)(F8:∀x,¬q <+: x->iM.of x=ft.of x)
  (hq:iM.od q=some ((f ks).map kB))(hq':iM.of q=none)
  (u:∀m r,iM.od (q++m::r)=r9 ((g8 (f ks) m).bind fun c=>c.at ei r))(v:∀m r,iM.of (q++m::r)=GJ ((g8 (f ks) m).bind fun c=>c.at ei r)):
  Flat ei (m1 ei f q t) iM:=by
 obtain⟨w,A⟩:=ve ei f q t d ks h hk;have key:∀x,iM.od x=r9 ((m1 ei f q t).at ei x)/\iM.of x=GJ ((m1 ei f q t).at ei x):=by
  intro x;by_cases Qb:q <+: x
  ·obtain⟨s,rfl⟩:=Qb
   cases s with
   |nil=>rw[nH,A,hq,hq'];exact⟨rfl,rfl⟩
   |cons m r=>rw[w,u,v];exact⟨rfl,rfl⟩
  ·rw[p x Qb,F8 x Qb]
   by_cases g:x <+: q
   ·rw[fY g]
    obtain⟨m,hm,B⟩:=iN g (fun e=>Qb (e▸mB _));obtain⟨r,hr⟩:=B;have j:q=x++m::r:=by rw[<-hr];simp
    have a:=h;rw[j]at a;obtain⟨i,k,h1,h2,h3⟩:=j0 ei f x m r t d a;rw[<-j]at h3;rw[h3];have F:i.kind=2:=by cases i<;>first|rfl|(simp[kids]at h2)
    refine⟨?_,?_⟩
    ·show some _=some _
     congr 1
     unfold zK jJ;rw[hm,h1,my,h2,nG];show List.map (fun e:eD=>if e.1=m then(e.1,e.2.1,(0:Int))else e) (List.map kB k)=_;rw[BZ,BZ];refine Kg fun y C=>?_
     show(if y.1=m then(y.1,y.2.kind,(0:Int))else kB y)=kB (if y.1=m then(y.1,m1 ei f r y.2)else y);by_cases b:y.1=m
     ·rw[fY b,fY b]
      have D:y.2.kind=2:=by
       rw[i1,h1,my,h9,h2,my]at a;cases hc:g8 k m with
       |none=>rw[hc]at a;simp at a
       |some c=>
        rw[hc,my]at a;have E:=(mf hS _ l h1).2.1;rw[jc (jp hS E h2).1 hc C b];cases r with
        |nil=>rw[k0]at a;obtain rfl:=wZ a;cases c<;>first|rfl|(simp[kids]at hk)
        |cons z r=>
         rw[h9]at a;cases c<;>first|rfl|(simp[kids]at a)
      rw[D];cases r<;>rfl
     ·rw[eJ b,eJ b]
    ·rw[hF.of x,h1]
     cases i<;>first|rfl|(simp[kids]at h2)
   ·rw[eJ g,gM ei f q x t d h g Qb]
    exact⟨hF.od x,hF.of x⟩
 refine⟨?_,?_,fun x=>(key x).1,fun x=>(key x).2⟩
 ·cases q<;>rfl
 ·rw[o];cases q<;>rfl
theorem jy(ks:Kids):ks.map kB=u9 (fun x=>(x.2.kind,x.2.id)) ks:=rfl
theorem N0{α β:Type}(f:eu×α->β)(es:List (eu×α))(n:eu)(c:α):u9 f (n7 es n c)=n7 (u9 f es) n (f (n,c)):=by
 unfold n7;rw[yb,ya];unfold u9;split
 ·rw[List.map_set]
 ·simp[List.map_take,List.map_drop]
theorem QS(ks:Kids)(n:eu)(c:LT):(n7 ks n c).map kB=n7 (ks.map kB) n (c.kind,c.id):=by rw[jy,N0,<-jy]
theorem N1(ks:Kids)(n:eu):(lh ks n).map kB=lh (ks.map kB) n:=by rw[jy,KG,<-jy]
theorem xn(ks:Kids)(n:eu):g9 (ks.map kB) n=g9 ks n:=by rw[jy,yb]
theorem qd{ks:Kids}(h:eF ks)(n:eu)(c:LT)(m:eu):g8 (n7 ks n c) m=if m=n then some c else g8 ks m:=DV h m
theorem gN{ks:Kids}(h:eF ks)(ht:g9 ks n=true)(m:eu):g8 (lh ks n) m=if m=n then none else g8 ks m:=AG h ht m
theorem lr{ks:Kids}(h:eF ks)(n:eu):(g8 ks n).isSome=g9 ks n:=by
 rw[GI,l6 h];cases ht:g9 ks n with
 |false=>simp
 |true=>
  have:=nL ht
  simp[gJ this]
theorem gz{t d:LT}{ks:Kids}(a:t.at ei q=some d)(hk:kids ei d=some ks):jJ ei t q=ks.map kB:=by
 unfold jJ;rw[a,my,hk];rfl
theorem mR{q x:eB}(h:q++[n] <+: x):q <+: x:=(kV q [n]).trans h
theorem tP{t:LT}{ft iM:FT}{fs:FS}(hS:Sound ei)(hF:Flat ei t ft)(f:eL ei k t){d:LT}{ks:Kids}(a:t.at ei q=some d)(hk:kids ei d=some ks)(n:eu)(c:LT)
  (g:iM.root=0)(b:∀x,¬(q++[n]) <+: x->iM.od x=if x=q then some (n7 (ks.map kB) n (c.kind,c.id))else if x <+: q then some (zK (jJ ei t) q x)else ft.od x)
  (F8:∀x,¬(q++[n]) <+: x->iM.of x=ft.of x)(i:∀r,iM.od (q++n::r)=r9 (c.at ei r))(j:∀r,iM.of (q++n::r)=GJ (c.at ei r)):
  Flat ei (m1 ei (fun ks=>n7 ks n c) q t) iM:=by
 have hr:=(jp hS (mf hS _ f a).2.1 hk).1;have Ny:¬(q++[n]) <+: q:=fun h=>by have:=h.length_le;simp at this;omega
 have l:ft.of q=none:=by rw[hF.of,a];cases d<;>first|rfl|(simp[kids]at hk)
 refine DX hS (fs:=fs) hF f a hk _ g (fun x hx=>?_) (fun x hx=>F8 x (fun h=>hx (mR h))) ?_ ?_ (fun m r=>?_) (fun m r=>?_)
 ·rw[b x (fun h=>hx (mR h)),eJ (fun e:x=q=>hx (by rw[e];exact mB _))]
 ·rw[b q Ny,fY rfl,QS]
 ·rw[F8 q Ny,l]
 ·rw[qd hr]
  by_cases hm:m=n
  ·subst hm;rw[fY rfl,my];exact i r
  ·have hx:¬(q++[n]) <+: (q++m::r):=fun h=>by
    rw[MX,Gh]at h;exact hm h.1.symm
   rw[eJ hm,b _ hx,eJ (by simp),eJ (fun h=>by have:=h.length_le;simp at this;omega),hF.od,i1,a,my,h9,hk,my]
 ·rw[qd hr]
  by_cases hm:m=n
  ·subst hm;rw[fY rfl,my];exact j r
  ·have hx:¬(q++[n]) <+: (q++m::r):=fun h=>by
    rw[MX,Gh]at h;exact hm h.1.symm
   rw[eJ hm,F8 _ hx,hF.of,i1,a,my,h9,hk,my]
theorem AK{t:LT}{ft iM:FT}{fs:FS}(hS:Sound ei)(hF:Flat ei t ft)(c:eL ei k t){d:LT}{ks:Kids}(a:t.at ei q=some d)(hk:kids ei d=some ks)(n:eu)(ht:g9 ks n=true)
  (f:iM.root=0)(b:∀x,¬(q++[n]) <+: x->iM.od x=if x=q then some (lh (ks.map kB) n)else if x <+: q then some (zK (jJ ei t) q x)else ft.od x)
  (F8:∀x,¬(q++[n]) <+: x->iM.of x=ft.of x)(g:∀r,iM.od (q++n::r)=none)(i:∀r,iM.of (q++n::r)=none):
  Flat ei (m1 ei (fun ks=>lh ks n) q t) iM:=by
 have hr:=(jp hS (mf hS _ c a).2.1 hk).1;have Ny:¬(q++[n]) <+: q:=fun h=>by have:=h.length_le;simp at this;omega
 have j:ft.of q=none:=by rw[hF.of,a];cases d<;>first|rfl|(simp[kids]at hk)
 refine DX hS (fs:=fs) hF c a hk _ f (fun x hx=>?_) (fun x hx=>F8 x (fun h=>hx (mR h))) ?_ ?_ (fun m r=>?_) (fun m r=>?_)
 ·rw[b x (fun h=>hx (mR h)),eJ (fun e:x=q=>hx (by rw[e];exact mB _))]
 ·rw[b q Ny,fY rfl,N1]
 ·rw[F8 q Ny,j]
 ·rw[gN hr ht]
  by_cases hm:m=n
  ·subst hm;rw[fY rfl];exact g r
  ·have hx:¬(q++[n]) <+: (q++m::r):=fun h=>by
    rw[MX,Gh]at h;exact hm h.1.symm
   rw[eJ hm,b _ hx,eJ (by simp),eJ (fun h=>by have:=h.length_le;simp at this;omega),hF.od,i1,a,my,h9,hk,my]
 ·rw[gN hr ht]
  by_cases hm:m=n
  ·subst hm;rw[fY rfl];exact i r
  ·have hx:¬(q++[n]) <+: (q++m::r):=fun h=>by
    rw[MX,Gh]at h;exact hm h.1.symm
   rw[eJ hm,F8 _ hx,hF.of,i1,a,my,h9,hk,my]
theorem DY{α:Type}{es:List (eu×α)}{c:α}{x:eu×α}(h:x∈n7 es n c):x=(n,c)\/x∈es:=by
 unfold n7 at h;split at h
 ·rcases List.mem_or_eq_of_mem_set h with h|h
  ·exact .inr h
  ·exact .inl h
 ·rcases pR.1 h with h|h
  ·exact .inr (wY h)
  ·rcases Hd.1 h with h|h
   ·exact .inl h
   ·exact .inr (Gf h)
theorem AL{α:Type}{es:List (eu×α)}{x:eu×α}(h:x∈lh es n):x∈es:=List.mem_of_mem_eraseIdx h
theorem sw{n:Nat}{es:Kids}(hr:eF es)(hl:es.length<=16)(h:∀x∈es,ez x.1=true/\∃m,n=m+1/\eL ei m x.2):eL ei n (.own es):=by
 cases n with
 |zero=>
  rw[eL];cases es with
  |nil=>rfl
  |cons x r=>obtain⟨_,m,hm,_⟩:=h x (ir ..);omega
 |succ k=>
  rw[eL];refine⟨hr,hl,fun x hx=>?_⟩;obtain⟨hv,m,hm,hx⟩:=h x hx;obtain rfl:k=m:=by omega
  exact⟨hv,hx⟩
theorem GL{ks:Kids}(h:eF ks)(n:eu)(g:LT->LT):eF (ks.map fun x=>if x.1=n then(x.1,g x.2)else x):=by
 unfold eF at h ⊢;rw[zR];refine h.imp fun {a b} hab=>?_
 have e:∀x:eu×LT,(if x.1=n then(x.1,g x.2)else x).1=x.1:=fun x=>by split<;>rfl
 rw[e,e];exact hab
theorem GM(hS:Sound ei)(f:Kids->Kids):∀(q:eB) {n:Nat} {t d:LT} {ks:Kids},eL ei n t->t.at ei q=some d->kids ei d=some ks->eL ei (n-q.length) (.own (f ks))->eL ei n (m1 ei f q t)
 |[],n,t,d,ks,g,a,hk,h=>by
  rw[k0]at a;cases a
  rw[m1,hk];simpa using h
 |m::q,n,t,d,ks,g,a,hk,h=>by
  rw[h9]at a
  cases b:kids ei t with
  |none=>rw[b]at a;simp at a
  |some es=>
   rw[b,my]at a
   cases hc:g8 es m with
   |none=>rw[hc]at a;simp at a
   |some c=>
    rw[hc,my]at a
    obtain⟨h1,h2,h3⟩:=jp hS g b
    rw[m1,b,nG]
    refine sw (GL h1 m _) (by simpa using h2) (fun x hx=>?_)
    obtain⟨y,i,rfl⟩:=H3.1 hx
    obtain⟨hv,j,rfl,hj⟩:=h3 y i
    by_cases e:y.1=m
    ·rw[fY e]
     refine⟨hv,j,rfl,?_⟩
     have k:=jc h1 hc i e
     rw[k]at hj ⊢
     exact GM hS f q hj a hk (by rw[gK,show j+1-(q.length+1)=j-q.length by omega]at h;exact h)
    ·rw[eJ e];exact⟨hv,j,rfl,hj⟩
theorem DZ(f:Kids->Kids){t d:LT}{ks:Kids}(a:t.at ei q=some d)(hk:kids ei d=some ks){x:eB}(h:(m1 ei f q t).at ei x=some (.held b)):
  (∃m r,x=q++m::r/\((g8 (f ks) m).bind fun c=>c.at ei r)=some (.held b))\/(¬q <+: x/\t.at ei x=some (.held b)):=by
 obtain⟨i,j⟩:=ve ei f q t d ks a hk;by_cases Qb:q <+: x
 ·obtain⟨s,rfl⟩:=Qb
  cases s with
  |nil=>rw[nH,j]at h;cases h
  |cons m r=>rw[i]at h;exact .inl ⟨m,r,rfl,h⟩
 ·refine .inr ⟨Qb,?_⟩
  by_cases g:x <+: q
  ·obtain⟨m,hm,k⟩:=iN g (fun e=>Qb (e▸mB _))
   obtain⟨r,hr⟩:=k;have l:q=x++m::r:=by rw[<-hr];simp
   rw[l]at a h;obtain⟨n,o,h1,h2,h3⟩:=j0 ei f x m r t d a;rw[h3]at h;cases h
  ·rw[gM ei f q x t d a g Qb]at h;exact h
def jm (ei:List Ob)(fs:FS)(ft:FT)(q:eB)(n:eu)(v:Int×Int):FT:=
 let a:=ln ei fs ft q.reverse
 let es:=(a.od q).getD []
 if g9 es n then { root:=a.root,od:=upd (upd a.od q (some (n7 es n v))) (q++[n]) none,of:=upd a.of (q++[n]) none }
 else { a with od:=upd a.od q (some (n7 es n v)) }
def iw (ei:List Ob)(fs:FS)(ft:FT)(q:eB)(n:eu):FT:=
 let a:=ln ei fs ft q.reverse
 { a with od:=upd a.od q (some (lh ((a.od q).getD []) n)) }
def tQ (ft:FT)(p:eB):FT:={ ft with od:=upd ft.od p none,of:=upd ft.of p none }
def qr {β:Type}(f:eB->Option β)(src a:eB):eB->Option β:=fun x=>if a <+: x then f (src++x.drop a.length)else if src <+: x then none else f x
def SP (ft:FT)(src a:eB):FT:={ ft with od:=qr ft.od src a,of:=qr ft.of src a }
theorem Jr(q:eB)(n:eu):q++[n]≠q:=fun e=>by have:=rp List.length e;simp at this
theorem mb{fs:FS}{ft:FT}(hw:fN ei fs ft K q):
  (ln ei fs ft q.reverse).root=0/\(ln ei fs ft q.reverse).of=ft.of/\(ln ei fs ft q.reverse).od q=some (K q)/\∀x,x≠q->(ln ei fs ft q.reverse).od x=if x <+: q then some (zK K q x)else ft.od x:=by
 obtain⟨h1,h2,h3⟩:=sr (r:=q.reverse) (by rw[nu];exact hw);rw[nu]at h3;refine⟨h1,h2,?_,fun x _=>h3 x⟩;rw[h3,fY (mB _)];unfold zK;rw[mG (io _)]
theorem qU{fs:FS}{ft:FT}(hw:fN ei fs ft K q)(n:eu)(v:Int×Int):
  (jm ei fs ft q n v).root=0/\(∀x,x≠q++[n]->(jm ei fs ft q n v).od x=if x=q then some (n7 (K q) n v)else if x <+: q then some (zK K q x)else ft.od x)/\(∀x,x≠q++[n]->(jm ei fs ft q n v).of x=ft.of x)/\
  (jm ei fs ft q n v).od (q++[n])=(if g9 (K q) n then none else ft.od (q++[n]))/\(jm ei fs ft q n v).of (q++[n])=(if g9 (K q) n then none else ft.of (q++[n])):=by
 obtain⟨h1,h2,h3,a⟩:=mb hw;have D1:¬(q++[n]) <+: q:=fun h=>by have:=h.length_le;simp at this;omega
 unfold jm;simp only[h3,nG];by_cases ht:g9 (K q) n=true
 ·rw[fY ht,fY ht,fY ht]
  refine⟨h1,fun x hx=>?_,fun x hx=>?_,upd_same _ _ _,upd_same _ _ _⟩
  ·show upd (upd _ _ _) _ _ x=_
   rw[fx hx];by_cases hq:x=q
   ·subst hq;rw[upd_same,fY rfl]
   ·rw[fx hq,eJ hq,a x hq]
  ·show upd _ _ _ x=_
   rw[fx hx,h2]
 ·rw[eJ ht,eJ ht,eJ ht]
  refine⟨h1,fun x hx=>?_,fun x hx=>by show(ln ei fs ft q.reverse).of x=_;rw[h2],?_,by show(ln ei fs ft q.reverse).of _=_;rw[h2]⟩
  ·show upd _ _ _ x=_
   by_cases hq:x=q
   ·subst hq;rw[upd_same,fY rfl]
   ·rw[fx hq,eJ hq,a x hq]
  ·show upd _ _ _ (q++[n])=_
   rw[fx (Jr q n),a _ (Jr q n),eJ D1]
theorem sx{fs:FS}{ft:FT}(hw:fN ei fs ft K q)(n:eu):
  (iw ei fs ft q n).root=0/\(∀x,(iw ei fs ft q n).od x=if x=q then some (lh (K q) n)else if x <+: q then some (zK K q x)else ft.od x)/\(iw ei fs ft q n).of=ft.of:=by
 obtain⟨h1,h2,h3,a⟩:=mb hw;unfold iw;simp only[h3,nG];refine⟨h1,fun x=>?_,h2⟩;by_cases hq:x=q
 ·subst hq;rw[upd_same,fY rfl]
 ·rw[fx hq,eJ hq,a x hq]
theorem fN.congr{fs:FS}{ft iM:FT}(h:fN ei fs ft K q)(hr:iM.root=ft.root)(ho:∀x,x <+: q->iM.od x=ft.od x):fN ei fs iM K q:=by
 refine⟨fun x hx=>?_,fun x hx es b=>h.own x hx es (by rw[<-ho x hx];exact b),fun x m hx hs=>?_,fun hs=>?_⟩
 ·rw[(si ei fs hr x.reverse (fun y a=>ho y (by rw[nu]at a;exact a.trans hx))).2]
  exact h.look x hx
 ·rw[ho x ((kV x [m]).trans hx)]
  exact h.up x m hx (by rw[<-ho _ hx];exact hs)
 ·rw[hr];exact h.root (by rw[<-ho [] (List.nil_prefix)];exact hs)
section
variable {ei:List Ob}{t:LT}{ft:FT}{fs:FS}{q:eB}{d:LT}{ks:Kids}{n:eu}
theorem jd(hF:Flat ei t ft)(a:t.at ei q=some d)(hk:kids ei d=some ks)(hp:g8 ks n=none)(r:eB):ft.od (q++n::r)=none/\ft.of (q++n::r)=none:=by
 have:t.at ei (q++n::r)=none:=by rw[i1,a,my,h9,hk,my,hp];rfl
 rw[hF.od,hF.of,this];exact⟨rfl,rfl⟩
theorem j3{c:LT}(a:t.at ei p=some c)(hc:kids ei c=none\/kids ei c=some [])(m:eu)(r:eB):t.at ei (p++m::r)=none:=by
 rw[i1,a,my,h9];rcases hc with h|h
 ·rw[h];rfl
 ·rw[h];rfl
theorem GN(hS:Sound ei)(hF:Flat ei t ft)(b:eL ei k t)(a:t.at ei q=some d)(hk:kids ei d=some ks)(hw:fC ei t fs q)(hp:g8 ks n=none):
  Flat ei (m1 ei (fun ks=>n7 ks n (.own [])) q t) { jm ei fs ft q n (2,0)with od:=upd (jm ei fs ft q n (2,0)).od (q++[n]) (some []) }:=by
 have W:=un hS hF b a hk hw;have hr:=(jp hS (mf hS _ b a).2.1 hk).1;have ht:g9 (jJ ei t q) n=false:=by rw[gz a hk,xn,<-lr hr,hp];rfl
 obtain⟨h1,h2,h3,f,c⟩:=qU W n (2,0);rw[ht,eJ (by decide)]at c;refine tP hS (fs:=fs) hF b a hk n (.own []) h1 (fun x hx=>?_) (fun x hx=>?_) (fun r=>?_) (fun r=>?_)
 ·have kN:x≠q++[n]:=fun e=>hx (e▸mB _)
  show upd _ _ _ x=_;rw[fx kN,h2 x kN,gz a hk];rfl
 ·exact h3 x (fun e=>hx (e▸mB _))
 ·show upd _ _ _ _=_
  cases r with
  |nil=>rw[upd_same,k0];rfl
  |cons m r=>
   have hne:q++n::m::r≠q++[n]:=by simp
   rw[fx hne,h2 _ hne,eJ (by simp),eJ (fun h=>by have:=h.length_le;simp at this;omega),(jd hF a hk hp _).1,h9];rfl
 ·show(jm ei fs ft q n (2,0)).of _=_
  cases r with
  |nil=>rw[c,(jd hF a hk hp []).2,k0];rfl
  |cons m r=>rw[h3 _ (by simp),(jd hF a hk hp _).2,h9];rfl
theorem D2(hS:Sound ei)(hF:Flat ei t ft)(b:eL ei k t)(a:t.at ei q=some d)(hk:kids ei d=some ks)(hw:fC ei t fs q)(hp:g8 ks n=none)(f:Nat):
  Flat ei (m1 ei (fun ks=>n7 ks n (.held f)) q t) { jm ei fs ft q n (1,0)with of:=upd (jm ei fs ft q n (1,0)).of (q++[n]) (some f) }:=by
 have W:=un hS hF b a hk hw;have hr:=(jp hS (mf hS _ b a).2.1 hk).1;have ht:g9 (jJ ei t q) n=false:=by rw[gz a hk,xn,<-lr hr,hp];rfl
 obtain⟨h1,h2,h3,c,g⟩:=qU W n (1,0);rw[ht,eJ (by decide)]at c;refine tP hS (fs:=fs) hF b a hk n (.held f) h1 (fun x hx=>?_) (fun x hx=>?_) (fun r=>?_) (fun r=>?_)
 ·have kN:x≠q++[n]:=fun e=>hx (e▸mB _)
  show(jm ei fs ft q n (1,0)).od x=_;rw[h2 x kN,gz a hk];rfl
 ·show upd _ _ _ x=_
  have kN:x≠q++[n]:=fun e=>hx (e▸mB _);rw[fx kN,h3 x kN]
 ·show(jm ei fs ft q n (1,0)).od _=_
  cases r with
  |nil=>rw[c,(jd hF a hk hp []).1,k0];rfl
  |cons m r=>
   have hne:q++n::m::r≠q++[n]:=by simp
   rw[h2 _ hne,eJ (by simp),eJ (fun h=>by have:=h.length_le;simp at this;omega),(jd hF a hk hp _).1,h9];rfl
 ·show upd _ _ _ _=_
  cases r with
  |nil=>rw[upd_same,k0];rfl
  |cons m r=>rw[fx (by simp),h3 _ (by simp),(jd hF a hk hp _).2,h9];rfl
theorem KJ(hS:Sound ei)(hF:Flat ei t ft)(c:eL ei k t)(a:t.at ei q=some d)(hk:kids ei d=some ks)(hw:fC ei t fs q){id:Int}(hp:g8 ks n=some (.file id))(f:Nat):
  Flat ei (m1 ei (fun ks=>n7 ks n (.held f)) q t) { ln ei fs ft q.reverse with od:=upd (ln ei fs ft q.reverse).od q (some (n7 (((ln ei fs ft q.reverse).od q).getD []) n (1,0))),of:=upd (ln ei fs ft q.reverse).of (q++[n]) (some f) }:=by
 have W:=un hS hF c a hk hw;obtain⟨h1,h2,h3,g⟩:=mb W;have b:t.at ei (q++[n])=some (.file id):=by rw[i1,a,my,h9,hk,my,hp,my,k0]
 have D1:¬(q++[n]) <+: q:=fun h=>by have:=h.length_le;simp at this;omega
 refine tP hS (fs:=fs) hF c a hk n (.held f) h1 (fun x hx=>?_) (fun x hx=>?_) (fun r=>?_) (fun r=>?_)
 ·show upd _ _ _ x=_
  by_cases hq:x=q
  ·subst hq;rw[upd_same,fY rfl,h3,nG,gz a hk];rfl
  ·rw[fx hq,eJ hq,g x hq]
 ·show upd _ _ _ x=_
  rw[fx (fun e:x=q++[n]=>hx (by rw[e];exact mB _)),h2]
 ·show upd _ _ _ _=_
  have hne:q++n::r≠q:=fun e=>by have:=rp List.length e;simp at this
  rw[fx hne,g _ hne,eJ (fun h=>by have:=h.length_le;simp at this;omega),hF.od];cases r with
  |nil=>rw[b,k0];rfl
  |cons m r=>rw[show q++n::m::r=(q++[n])++m::r by simp,j3 b (.inl rfl),h9];rfl
 ·show upd _ _ _ _=_
  cases r with
  |nil=>rw[upd_same,k0];rfl
  |cons m r=>
   rw[fx (by simp),h2,hF.of,show q++n::m::r=(q++[n])++m::r by simp,j3 b (.inl rfl),h9];rfl
theorem D3(hS:Sound ei)(hF:Flat ei t ft)(b:eL ei k t)(a:t.at ei q=some d)(hk:kids ei d=some ks)(hw:fC ei t fs q){c:LT}(hp:g8 ks n=some c)(hc:kids ei c=none\/kids ei c=some []):
  Flat ei (m1 ei (fun ks=>lh ks n) q t) (tQ (iw ei fs ft q n) (q++[n])):=by
 have W:=un hS hF b a hk hw;have hr:=(jp hS (mf hS _ b a).2.1 hk).1;have ht:g9 ks n=true:=by rw[<-lr hr,hp];rfl
 obtain⟨h1,h2,h3⟩:=sx W n;have f:t.at ei (q++[n])=some c:=by rw[i1,a,my,h9,hk,my,hp,my,k0]
 refine AK hS (fs:=fs) hF b a hk n ht h1 (fun x hx=>?_) (fun x hx=>?_) (fun r=>?_) (fun r=>?_)
 ·show upd _ _ _ x=_
  rw[fx (fun e:x=q++[n]=>hx (by rw[e];exact mB _)),h2,gz a hk]
 ·show upd _ _ _ x=_
  rw[fx (fun e:x=q++[n]=>hx (by rw[e];exact mB _)),h3]
 ·show upd _ _ _ _=_
  cases r with
  |nil=>rw[upd_same]
  |cons m r=>
   rw[fx (by simp),h2,eJ (by simp),eJ (fun h=>by have:=h.length_le;simp at this;omega),hF.od,show q++n::m::r=(q++[n])++m::r by simp,j3 f hc];rfl
 ·show upd _ _ _ _=_
  cases r with
  |nil=>rw[upd_same]
  |cons m r=>
   rw[fx (by simp),h3,hF.of,show q++n::m::r=(q++[n])++m::r by simp,j3 f hc];rfl
end
theorem ye{t:LT}{a b:LT}{d g:Kids}(hr:eF d)(c:t.at ei qf=some a)(hk:kids ei a=some d)(ht:g9 d nf=true)(f:t.at ei qt=some b)(j:kids ei b=some g)(KL:¬(qf++[nf]) <+: qt):
  ∃d1 k,(m1 ei (fun ks=>lh ks nf) qf t).at ei qt=some d1/\kids ei d1=some k/\∀id,d1=.dir id->b=.dir id:=by
 obtain⟨l,n⟩:=ve ei (fun ks=>lh ks nf) qf t a d c hk;by_cases h:qf <+: qt
 ·obtain⟨s,rfl⟩:=h
  cases s with
  |nil=>rw[nH]at f ⊢;exact⟨_,_,n,rfl,fun id e=>by cases e⟩
  |cons m r=>
   have hm:m≠nf:=fun e=>KL (by rw[e];exact⟨r,by simp⟩);rw[l,gN hr ht,eJ hm];rw[i1,c,my,h9,hk,my]at f;exact⟨b,g,f,j,fun id e=>e⟩
 ·by_cases h2:qt <+: qf
  ·obtain⟨m,hm,o⟩:=iN h2 (fun e=>h (e▸mB _))
   obtain⟨r,i⟩:=o;have i:qf=qt++m::r:=by rw[<-i];simp
   rw[i]at c ⊢;obtain⟨p,q,h1,h2,h3⟩:=j0 ei (fun ks=>lh ks nf) qt m r t a c;exact⟨_,_,h3,rfl,fun id e=>by cases e⟩
  ·rw[gM ei _ qf qt t a c h2 h]
   exact⟨b,g,f,j,fun id e=>e⟩
theorem D4{t:LT}{a:LT}{c:Kids}(hr:eF c)(b:t.at ei qf=some a)(hk:kids ei a=some c)(ht:g9 c nf=true){x:eB}{id:Int}(h:(m1 ei (fun ks=>lh ks nf) qf t).at ei x=some (.dir id)):t.at ei x=some (.dir id):=by
 obtain⟨f,g⟩:=ve ei (fun ks=>lh ks nf) qf t a c b hk;by_cases hx:qf <+: x
 ·obtain⟨s,rfl⟩:=hx
  cases s with
  |nil=>rw[nH,g]at h;cases h
  |cons m r=>
   rw[f,gN hr ht]at h;by_cases hm:m=nf
   ·rw[fY hm]at h;cases h
   ·rw[eJ hm]at h
    rw[i1,b,my,h9,hk,my];exact h
 ·by_cases h2:x <+: qf
  ·obtain⟨m,hm,i⟩:=iN h2 (fun e=>hx (e▸mB _))
   obtain⟨r,d⟩:=i;have d:qf=x++m::r:=by rw[<-d];simp
   rw[d]at b h;obtain⟨j,k,h1,h2,h3⟩:=j0 ei (fun ks=>lh ks nf) x m r t a b;rw[h3]at h;cases h
  ·rw[gM ei _ qf x t a b h2 hx]at h;exact h
theorem tT(hS:Sound ei){t:LT}(a:eL ei k t){d:LT}{ks:Kids}(b:t.at ei q=some d)(hk:kids ei d=some ks)(n:eu):eL ei k (m1 ei (fun ks=>lh ks n) q t):=by
 obtain⟨h1,h2,h3⟩:=jp hS (mf hS _ a b).2.1 hk;refine GM hS _ q a b hk (sw ?_ ?_ (fun x hx=>h3 x (AL hx)))
 ·unfold lh;exact List.Pairwise.sublist (List.eraseIdx_sublist _ _) h1
 ·unfold lh;exact pD (List.length_eraseIdx_le _ _) h2
def SQ (ft:FT)(p:eB):FT:=⟨ft.root,fun x=>if p <+: x then none else ft.od x,fun x=>if p <+: x then none else ft.of x⟩
theorem tU(ft:FT)(p x:eB):(SQ ft p).od x=if p <+: x then none else ft.od x:=rfl
theorem xw(ft:FT)(p x:eB):(SQ ft p).of x=if p <+: x then none else ft.of x:=rfl
theorem D5{t:LT}{ft:FT}{fs:FS}(hS:Sound ei)(hF:Flat ei t ft)(b:eL ei k t){i j c:LT}{f u:Kids}
  (a:t.at ei qf=some i)(hk:kids ei i=some f)(hp:g8 f nf=some c)(v:t.at ei qt=some j)(w:kids ei j=some u)(y:fC ei t fs qf)(hwt:fC ei t fs qt)
  (KL:¬(qf++[nf]) <+: (qt++[nt]))(Um:¬(qt++[nt]) <+: (qf++[nf])):
  ∃d1 g,(m1 ei (fun ks=>lh ks nf) qf t).at ei qt=some d1/\kids ei d1=some g/\
   Flat ei (m1 ei (fun ks=>n7 ks nt c) qt (m1 ei (fun ks=>lh ks nf) qf t)) (SP (jm ei fs (iw ei fs ft qf nf) qt nt (c.kind,c.id)) (qf++[nf]) (qt++[nt]))/\fN ei fs (iw ei fs ft qf nf) (jJ ei (m1 ei (fun ks=>lh ks nf) qf t)) qt:=by
 have hr:=(jp hS (mf hS _ b a).2.1 hk).1;have ht:g9 f nf=true:=by rw[<-lr hr,hp];rfl
 have Js:¬(qf++[nf]) <+: qt:=fun h=>KL (h.trans (kV _ _));have l:=tT hS b a hk nf;obtain⟨d1,g,d,e2,H⟩:=ye hr a hk ht v w Js;have z:=un hS hF b a hk y;obtain⟨t1,t2,t3⟩:=sx z nf;have m:∀r,t.at ei (qf++nf::r)=c.at ei r:=fun r=>by rw[i1,a,my,h9,hk,my,hp,my]
 -- I J K L M below 'from'
 have n:Flat ei (m1 ei (fun ks=>lh ks nf) qf t) (SQ (iw ei fs ft qf nf) (qf++[nf])):=by
  refine AK hS (fs:=fs) hF b a hk nf ht t1 (fun x hx=>?_) (fun x hx=>?_) (fun r=>?_) (fun r=>?_)
  ·rw[tU,eJ hx,t2,gz a hk]
  ·rw[xw,eJ hx,t3]
  ·rw[tU,fY ⟨r,by simp⟩]
  ·rw[xw,fY ⟨r,by simp⟩]
 have A:fC ei (m1 ei (fun ks=>lh ks nf) qf t) fs qt:=fun x id hx h=>hwt x id hx (D4 hr a hk ht h);have B:=un hS n l d e2 A;have nA:∀x,x <+: qt->¬(qf++[nf]) <+: x:=fun x hx h=>Js (h.trans hx);have W2:fN ei fs (iw ei fs ft qf nf) (jJ ei (m1 ei (fun ks=>lh ks nf) qf t)) qt:=B.congr rfl (fun x hx=>by rw[tU,eJ (nA x hx)]);obtain⟨C,o,p,N,O⟩:=qU W2 nt (c.kind,c.id);refine⟨d1,g,d,e2,?_,W2⟩;have q:∀r,(qf++nf::r)≠qt++[nt]:=fun r e=>KL (by rw[<-e];exact⟨r,by simp⟩);have D:∀r,(qf++nf::r)≠qt:=fun r e=>Js (by rw[<-e];exact⟨r,by simp⟩);have E:∀r,¬(qf++nf::r) <+: qt:=fun r h=>Js (List.IsPrefix.trans ⟨r,by simp⟩ h);have F:∀r,(qf++nf::r)≠qf:=fun r e=>by have:=rp List.length e;simp at this
 have G:∀r,¬(qf++nf::r) <+: qf:=fun r h=>by have:=h.length_le;simp at this;omega
 have s:∀r,(qt++nt::r).drop (qt++[nt]).length=r:=fun r=>by rw[show qt++nt::r=(qt++[nt])++r by simp,nv]
 refine tP hS (fs:=fs) n l d e2 nt c C (fun x hx=>?_) (fun x hx=>?_) (fun r=>?_) (fun r=>?_)
 ·have kN:x≠qt++[nt]:=fun e=>hx (e▸mB _)
  show qr _ _ _ x=_;unfold qr;rw[eJ hx];by_cases hs:(qf++[nf]) <+: x
  ·rw[fY hs,eJ (fun e:x=qt=>Js (e▸hs)),eJ (fun h=>nA x h hs),tU,fY hs]
  ·rw[eJ hs,o x kN,tU,eJ hs,gz d e2]
 ·have kN:x≠qt++[nt]:=fun e=>hx (e▸mB _)
  show qr _ _ _ x=_;unfold qr;rw[eJ hx];by_cases hs:(qf++[nf]) <+: x
  ·rw[fY hs,xw,fY hs]
  ·rw[eJ hs,p x kN,xw,eJ hs]
 ·show qr _ _ _ _=_
  unfold qr;rw[fY ⟨r,by simp⟩,s,show(qf++[nf])++r=qf++nf::r by simp,o _ (q r),eJ (D r),eJ (E r),t2,eJ (F r),eJ (G r),hF.od,m]
 ·show qr _ _ _ _=_
  unfold qr;rw[fY ⟨r,by simp⟩,s,show(qf++[nf])++r=qf++nf::r by simp,p _ (q r),t3,hF.of,m]
def H2 (ei:List Ob):Nat->LT->Int
 |_,.file id=>eY ei id
 |_,.held _=>0
 |_,.dir id=>eY ei id
 |0,.own _=>0
 |n+1,.own es=>es.foldl (fun h x=>max h (1+H2 ei n x.2)) 0
theorem tB{α:Type}(f:α->Int):∀(l:List α) (a m:Int),l.foldl (fun h x=>max h (1+f x)) a<=m↔a<=m/\∀x∈l,1+f x<=m
 |[],a,m=>by simp
 |y::r,a,m=>by
  rw[xH,tB f r]
  constructor
  ·rintro⟨h1,h2⟩
   refine⟨by omega,fun x hx=>?_⟩
   rcases Hd.1 hx with rfl|hx
   ·omega
   ·exact h2 x hx
  ·rintro⟨h1,h2⟩
   have:=h2 y (ir ..)
   exact⟨by omega,fun x hx=>h2 x (mI _ hx)⟩
theorem N2(hS:Sound ei):∀(n:Nat) {c:LT} {m:Nat},eL ei n c->H2 ei n c<=m->eL ei m c
 |n,.file id,m,h,_=>by
  have:eC ei id=1:=by cases n<;>simpa [eL]using h
  cases m<;>simpa [eL]using this
 |n,.held f,m,_,_=>by cases m<;>simp[eL]
 |n,.dir id,m,h,hm=>by
  have h1:eC ei id=2:=by cases n<;>simp[eL]at h<;>exact h.1
  have h2:eY ei id<=m:=by cases n<;>simpa [H2]using hm
  cases m<;>(rw[eL];exact⟨h1,h2⟩)
 |0,.own es,m,h,_=>by
  rw[eL]at h
  subst h
  exact sw List.Pairwise.nil (by simp) (by simp)
 |n+1,.own es,m,h,hm=>by
  rw[eL]at h
  rw[H2,tB]at hm
  refine sw h.1 h.2.1 (fun x hx=>?_)
  have h1:=hm.2 x hx
  obtain⟨hv,kN⟩:=h.2.2 x hx
  have h0:0<=H2 ei n x.2:=by
   cases n with
   |zero=>cases hc:x.2<;>simp[H2]<;>exact hS.1 _
   |succ j=>
    cases hc:x.2 with
    |file i=>simp[H2];exact hS.1 _
    |held f=>simp[H2]
    |dir i=>simp[H2];exact hS.1 _
    |own es'=>
     rw[H2];exact((tB (fun x=>H2 ei j x.2) es' 0 _).1 (pT _)).1
  refine⟨hv,m-1,by omega,N2 hS n kN (by omega)⟩
theorem wn{id:Int}(h:eC a id≠0):1<=id/\(id-1).toNat<a.length:=by
 unfold eC at h;by_cases h1:1<=id
 ·rw[fY h1]at h
  refine⟨h1,?_⟩;by_cases h2:(id-1).toNat<a.length
  ·exact h2
  ·rw[mG (by omega)]at h;exact absurd rfl h
 ·rw[eJ h1]at h;exact absurd rfl h
theorem gA(l:List Ob){id:Int}(h:eC a id≠0):eC (a++l) id=eC a id:=by
 obtain⟨h1,h2⟩:=wn h;unfold eC;rw[fY h1,fY h1,ox h2]
theorem iO(l:List Ob){id:Int}(h:eC a id≠0):eY (a++l) id=eY a id:=by
 obtain⟨h1,h2⟩:=wn h;unfold eY;rw[ox h2]
theorem mg(l:List Ob){id:Int}(h:eC a id≠0):eR (a++l) id=eR a id:=by
 obtain⟨h1,h2⟩:=wn h;unfold eR;rw[ox h2]
theorem qg(l:List Ob){id:Int}(h:eC a id≠0):bytesOf (a++l) id=bytesOf a id:=by
 obtain⟨h1,h2⟩:=wn h;unfold bytesOf;rw[ox h2]
theorem QT(a:List Ob)(o:Ob):eC (a++[o]) ((a.length:Int)+1)=o.kind/\eY (a++[o]) ((a.length:Int)+1)=o.high/\eR (a++[o]) ((a.length:Int)+1)=o.eG/\bytesOf (a++[o]) ((a.length:Int)+1)=o.data:=by
 have e:(((a.length:Int)+1)-1).toNat=a.length:=by omega
 refine⟨?_,?_,?_,?_⟩
 ·unfold eC;rw[fY (by omega),e];simp
 ·unfold eY;rw[e];simp
 ·unfold eR;rw[e];simp
 ·unfold bytesOf;rw[e];simp
theorem KM{id:Int}(h:eC (a++[o]) id≠0):eC a id≠0\/id=(a.length:Int)+1\/((id-1).toNat<a.length/\eC a id=0/\1<=id):=by
 obtain⟨h1,h2⟩:=wn h;by_cases h3:(id-1).toNat<a.length
 ·by_cases b:eC a id=0
  ·exact .inr (.inr ⟨h3,b,h1⟩)
  ·exact .inl b
 ·refine .inr (.inl ?_)
  simp only[jM,List.length_singleton]at h2;omega
structure Exact (a:List Ob):Prop where
 sound:Sound a
 kinds:∀o∈a,o.kind=1\/o.kind=2
 low:∀id,eC a id=1->eY a id=0
 high:∀id,eC a id=2->eY a id=fe a (eR a id)
theorem yf(hk:∀o∈a,o.kind=1\/o.kind=2){id:Int}(h1:1<=id)(h2:(id-1).toNat<a.length):eC a id=1\/eC a id=2:=by
 unfold eC;rw[fY h1,gJ h2];exact hk _ (iF h2)
structure D6 (a:List Ob)(o:Ob):Prop where
 or:(o.kind=1/\o.high=0/\o.data.size<=256/\fileAt a o.data=none)\/
  (o.kind=2/\o.high=fe a o.eG/\fe a o.eG<=5/\eF o.eG/\o.eG.length<=16/\(∀e∈o.eG,ez e.1=true/\(e.2.1=1\/e.2.1=2)/\eC a e.2.2=e.2.1)/\kJ a o.eG=none)
theorem AO(l:List Ob)(h:∀e∈es,eC a e.2.2≠0):fe (a++l) es=fe a es:=by
 unfold fe;have key:∀(xs:List eD) (b:Int),(∀e∈xs,eC a e.2.2≠0)->xs.foldl (fun h e=>max h (1+eY (a++l) e.2.2)) b=xs.foldl (fun h e=>max h (1+eY a e.2.2)) b:=by
  intro xs
  induction xs with
  |nil=>intro b _;rfl
  |cons x r c=>
   intro b hx;rw[xH,xH,iO l (hx x (by simp))];exact c _ (fun e d=>hx e (by simp[d]))
 exact key es 0 h
theorem yg{m:Int}:fe a es<=m↔0<=m/\∀e∈es,1+eY a e.2.2<=m:=tB (fun e:eD=>eY a e.2.2) es 0 m
theorem Cr(a:List Ob)(es:List eD):0<=fe a es:=(yg.1 (pT _)).1
theorem UA{k:Int}(h:k=1\/k=2):k≠0:=by omega
theorem Exact.snoc(h:Exact a)(ho:D6 a o):Exact (a++[o]):=by
 obtain⟨c,d,g,w⟩:=QT a o;have hc:∀id,eC (a++[o]) id≠0->eC a id≠0\/id=(a.length:Int)+1:=by
  intro id hid;rcases KM hid with h1|h1|⟨h1,h2,h3⟩
  ·exact .inl h1
  ·exact .inr h1
  ·rcases yf h.kinds h3 h1 with k|k<;>(rw[k]at h2;cases h2)
 have m:∀id,eC a id=2->∀e∈eR a id,eC a e.2.2≠0:=by
  intro id hid e b;obtain⟨_,n,hk,_⟩:=(h.sound.2 id hid).2.2 e b;rw[hk];exact UA n
 have i:o.kind=2->∀e∈o.eG,eC a e.2.2≠0:=by
  intro hk e b;rcases ho.or with⟨k,_⟩|⟨_,_,_,_,_,q,_⟩
  ·rw[k]at hk;cases hk
  ·rw[(q e b).2.2];exact UA (q e b).2.1
 refine⟨⟨?_,?_⟩,?_,?_,?_⟩
 ·intro id
  unfold eY;by_cases h1:(id-1).toNat<a.length
  ·rw[ox h1];exact h.sound.1 id
  ·by_cases h2:(id-1).toNat=a.length
   ·rw[h2]
    simp only[zM (io _),Dq,List.getElem?_cons_zero,jS,nG];rcases ho.or with⟨_,k,_⟩|⟨_,k,_⟩
    ·rw[k];exact pT _
    ·rw[k];exact Cr _ _
   ·rw[mG (by simp;omega)];exact pT _
 ·intro id hid
  rcases hc id (by rw[hid];decide)with h1|h1
  ·rw[gA _ h1]at hid
   obtain⟨p,r,s⟩:=h.sound.2 id hid;rw[mg _ h1];refine⟨p,r,fun e b=>?_⟩;obtain⟨t,j,l,u⟩:=s e b;have hne:eC a e.2.2≠0:=by rw[l];exact UA j
   rw[gA _ hne,iO _ hne,iO _ h1];exact⟨t,j,l,u⟩
  ·subst h1
   rw[c]at hid;rw[g,d];rcases ho.or with⟨k,_⟩|⟨_,v,y,k4,k5,f,_⟩
   ·rw[k]at hid;cases hid
   ·refine⟨k4,k5,fun e b=>?_⟩
    have hne:=i hid e b;rw[gA _ hne,iO _ hne,v]
    have:=(yg.1 (pT (fe a o.eG))).2 e b
    exact⟨(f e b).1,(f e b).2.1,(f e b).2.2,by omega⟩
 ·intro x hx
  rcases pR.1 hx with hx|hx
  ·exact h.kinds x hx
  ·rw[kH.1 hx]
   rcases ho.or with⟨k,_⟩|⟨k,_⟩
   ·exact .inl k
   ·exact .inr k
 ·intro id hid
  rcases hc id (by rw[hid];decide)with h1|h1
  ·rw[gA _ h1]at hid
   rw[iO _ h1];exact h.low id hid
  ·subst h1
   rw[c]at hid;rw[d];rcases ho.or with⟨_,k,_⟩|⟨k,_⟩
   ·exact k
   ·rw[k]at hid;cases hid
 ·intro id hid
  rcases hc id (by rw[hid];decide)with h1|h1
  ·rw[gA _ h1]at hid
   rw[iO _ h1,mg _ h1,AO _ (m id hid)];exact h.high id hid
  ·subst h1
   rw[c]at hid;rw[d,g,AO _ (i hid)];rcases ho.or with⟨k,_⟩|⟨_,k,_⟩
   ·rw[k]at hid;cases hid
   ·exact k
theorem D7(l:List Ob):∀(n:Nat) (t:LT),eL a n t->eL (a++l) n t
 |n,.file id,h=>by
  rw[eL]at h ⊢
  rw[gA l (by rw[h];decide)];exact h
 |n,.held f,h=>by rw[eL];trivial
 |n,.dir id,h=>by
  rw[eL]at h ⊢
  have hne:eC a id≠0:=by rw[h.1];decide
  rw[gA l hne,iO l hne];exact h
 |0,.own es,h=>by rw[eL]at h ⊢;exact h
 |n+1,.own es,h=>by
  rw[eL]at h ⊢
  exact⟨h.1,h.2.1,fun x hx=>⟨(h.2.2 x hx).1,D7 l n x.2 (h.2.2 x hx).2⟩⟩
def TR:Nat->LT->Nat
 |_,.file _=>0
 |_,.dir _=>0
 |_,.held _=>1
 |0,.own _=>1
 |n+1,.own es=>1+(es.map fun x=>TR n x.2).sum
def j1:FS:=⟨[],false,fun _=>true,fun _=>true⟩
def Fair {β:Type}(fs fs':FS)(x all none:β):Prop:=(fs.Next fs'/\x=all)\/(fs.Cp fs'/\x=none)
theorem tV(id:Int):j1.fA id=(j1,true):=rfl
theorem mh(ei:List Ob)(c:LT):lO ei j1 c=(j1,u2 ei c):=by
 cases c<;>rfl
theorem vg(ei:List Ob)(fs:FS)(c:LT):Fair fs (lO ei fs c).1 (lO ei fs c).2 (lO ei j1 c).2 (14,[]):=by
 rw[mh];rcases p6 ei fs c with⟨h1,h2⟩|⟨h1,h2⟩
 ·exact .inl ⟨h1,h2⟩
 ·exact .inr ⟨h1,h2⟩
theorem iy(ei:List Ob)(t:LT)(r:eB):g5 ei t j1 r=(j1,ju ei t r):=by
 induction r with
 |nil=>rfl
 |cons n r b=>
  unfold g5 ju;simp only[b,mh];by_cases h0:(ju ei t r).1≠0
  ·simp only[fY h0]
  ·simp only[eJ h0]
   by_cases a:(u2 ei (ju ei t r).2).1≠0
   ·simp only[fY a]
   ·simp only[eJ a]
    cases g8 (u2 ei (ju ei t r).2).2 n<;>rfl
theorem iz(ei:List Ob)(t:LT)(r:eB):kq ei t j1 r=(j1,xf ei t r):=by
 unfold kq xf;simp only[iy,mh];by_cases h0:(ju ei t r).1≠0
 ·simp only[fY h0]
 ·simp only[eJ h0]
theorem vh(ei:List Ob)(t:LT)(fs:FS)(r:eB):Fair fs (g5 ei t fs r).1 (g5 ei t fs r).2 (g5 ei t j1 r).2 (14,.dir 0):=by
 rw[iy];rcases p7 ei t fs r with⟨h1,h2,_⟩|⟨h1,h2⟩
 ·exact .inl ⟨h1,h2⟩
 ·exact .inr ⟨h1,h2⟩
theorem qV(ei:List Ob)(t:LT)(fs:FS)(r:eB):Fair fs (kq ei t fs r).1 (kq ei t fs r).2 (kq ei t j1 r).2 (14,[]):=by
 rw[iz];rcases DU ei t fs r with⟨h1,h2,_⟩|⟨h1,h2⟩
 ·exact .inl ⟨h1,h2⟩
 ·exact .inr ⟨h1,h2⟩
def po (ei:List Ob)(fl:Nat->Option (Int×eu))(fs:FS)(f:Nat):FS×Int×eu:=
 match fl f with
 |none=>(fs,0,⟨#[]⟩)
 |some (id,d)=>if id=0 then(fs,0,d)else if(fs.fA id).2 then((fs.fA id).1,0,bytesOf ei id) else((fs.fA id).1,14,⟨#[]⟩)
def xi (ei:List Ob)(fl:Nat->Option (Int×eu))(fs:FS):LT->FS×Int×Int
 |.file id=>if(fs.fA id).2 then((fs.fA id).1,0,((bytesOf ei id).size:Int)) else((fs.fA id).1,14,0)
 |.held f=>((po ei fl fs f).1,(po ei fl fs f).2.1,((po ei fl fs f).2.2.size:Int))
 |c=>((lO ei fs c).1,(lO ei fs c).2.1,((lO ei fs c).2.2.length:Int))
def gB (ei:List Ob)(fl:Nat->Option (Int×eu))(t:LT)(fs:FS)(r:eB):FS×Int×Int×Int:=
 let a:=g5 ei t fs r
 if a.2.1≠0 then(a.1,a.2.1,0,0) else
 let b:=xi ei fl a.1 a.2.2
 if b.2.1≠0 then(b.1,b.2.1,0,0) else(b.1,0,a.2.2.kind,b.2.2)
def y1 (ei:List Ob)(t:LT)(fs:FS):eB->FS×Int×LT
 |[]=>(fs,6,t)
 |n::r=>
  let a:=kq ei t fs r
  if a.2.1≠0 then(a.1,a.2.1,t) else
  if(g8 a.2.2 n).isSome then(a.1,6,t) else
  if 16<=a.2.2.length then(a.1,11,t) else(a.1,0,m1 ei (fun ks=>n7 ks n (.own [])) r.reverse t)
def nl (ei:List Ob)(fs:FS)(c:LT):FS×Int:=
 if c.kind=1 then(fs,0) else
 let k:=lO ei fs c
 if k.2.1=0/\0<k.2.2.length then(k.1,8) else(k.1,k.2.1)
def se (ei:List Ob)(t:LT)(fs:FS):eB->FS×Int×LT
 |[]=>(fs,9,t)
 |n::r=>
  let a:=g5 ei t fs (n::r)
  if a.2.1≠0 then(a.1,a.2.1,t) else
  let v:=nl ei a.1 a.2.2
  if v.2≠0 then(v.1,v.2,t) else(v.1,0,m1 ei (fun ks=>lh ks n) r.reverse t)
def T1 (ei:List Ob)(fs:FS)(e c:LT):FS×Int:=
 if e.kind=2/\c.kind=1 then(fs,7) else
 if e.kind=1/\c.kind=2 then(fs,5)else nl ei fs e
def gX (ei:List Ob)(fs:FS)(same:Bool)(ks:Kids)(n:eu)(c:LT):FS×Int:=
 match g8 ks n with
 |some e=>T1 ei fs e c
 |none=>if 16<=ks.length/\same=false then(fs,11) else(fs,0)
def ra (ei:List Ob)(t:LT)(fs:FS):eB->eB->FS×Int×LT
 |nf::d,nt::c=>
  let a:=g5 ei t fs (nf::d)
  if a.2.1≠0 then(a.1,a.2.1,t) else
  if(nf::d).reverse <+: (nt::c).reverse/\nf::d≠nt::c then(a.1,9,t) else
  let b:=kq ei t a.1 c
  if b.2.1≠0\/nf::d=nt::c then(b.1,b.2.1,t) else
  let v:=gX ei b.1 (decide (d=c)) b.2.2 nt a.2.2
  if v.2≠0 then(v.1,v.2,t) else
  if 5<((c.length+1:Nat):Int)+H2 ei 5 a.2.2 then(v.1,11,t) else
  (v.1,0,m1 ei (fun ks=>n7 ks nt a.2.2) c.reverse (m1 ei (fun ks=>lh ks nf) d.reverse t))
 |_,_=>(fs,9,t)
theorem Fair.bind{β g:Type}{fs c d:FS}{x a n:β}{y b m:g}(h:Fair fs c x a n)(good:fs.Next c->x=a->Fair c d y b m)(i:fs.Cp c->x=n->d=c/\y=m):Fair fs d y b m:=by
 rcases h with⟨h1,h2⟩|⟨h1,h2⟩
 ·rcases good h1 h2 with⟨e,f⟩|⟨e,f⟩
  ·exact .inl ⟨h1.trans e,f⟩
  ·exact .inr ⟨h1.fail e,f⟩
 ·obtain⟨rfl,k⟩:=i h1 h2
  exact .inr ⟨h1,k⟩
theorem kp{β:Type}(fs:FS)(x a:β):Fair fs fs x x a:=.inl ⟨FS.Next.refl _,rfl⟩
theorem GQ(ei:List Ob)(t:LT)(fs:FS)(r:eB):Fair fs (y1 ei t fs r).1 (y1 ei t fs r).2 (y1 ei t j1 r).2 (14,t):=by
 cases r with
 |nil=>exact kp _ _ _
 |cons n r=>
  unfold y1;rcases qV ei t fs r with⟨h1,h2⟩|⟨h1,h2⟩
  ·have a:=rp Prod.fst h2
   have e2:=rp Prod.snd h2;simp only[a,e2];refine .inl ⟨?_,?_⟩
   ·split
    ·exact h1
    ·split
     ·exact h1
     ·split<;>exact h1
   ·split
    ·rfl
    ·split
     ·rfl
     ·split<;>rfl
  ·have a:=rp Prod.fst h2
   simp only at a;simp only[a];exact .inr ⟨h1,rfl⟩
theorem vX(ei:List Ob)(fs:FS)(c:LT):Fair fs (nl ei fs c).1 (nl ei fs c).2 (nl ei j1 c).2 14:=by
 unfold nl;by_cases h1:c.kind=1
 ·rw[fY h1,fY h1];exact kp _ _ _
 ·rw[eJ h1,eJ h1]
  refine(vg ei fs c).bind (fun hn a=>?_) (fun hf a=>?_)
  ·simp only[a]
   by_cases h:(lO ei j1 c).2.1=0/\0<(lO ei j1 c).2.2.length
   ·simp only[fY h];exact kp _ _ _
   ·simp only[eJ h];exact kp _ _ _
  ·simp only[a];exact⟨rfl,rfl⟩
theorem D8(ei:List Ob)(t:LT)(fs:FS)(r:eB):Fair fs (se ei t fs r).1 (se ei t fs r).2 (se ei t j1 r).2 (14,t):=by
 cases r with
 |nil=>exact kp _ _ _
 |cons n r=>
  unfold se;refine(vh ei t fs (n::r)).bind (fun hn a=>?_) (fun hf a=>?_)
  ·simp only[a]
   by_cases h0:(g5 ei t j1 (n::r)).2.1≠0
   ·simp only[fY h0];exact kp _ _ _
   ·simp only[eJ h0]
    have b:(g5 ei t j1 (n::r)).1=j1:=(by rw[iy]);rw[b];generalize (g5 ei t j1 (n::r)).2.2=c;refine(vX ei _ c).bind (fun hn a=>?_) (fun hf a=>?_)
    ·simp only[a]
     by_cases hv:(nl ei j1 c).2≠0
     ·simp only[fY hv];exact kp _ _ _
     ·simp only[eJ hv];exact kp _ _ _
    ·simp only[a];exact⟨rfl,rfl⟩
  ·simp only[a];exact⟨rfl,rfl⟩
theorem KN(ei:List Ob)(fs:FS)(b:Bool)(ks:Kids)(n:eu)(c:LT):Fair fs (gX ei fs b ks n c).1 (gX ei fs b ks n c).2 (gX ei j1 b ks n c).2 14:=by
 unfold gX;cases g8 ks n with
 |none=>
  simp only;by_cases h:16<=ks.length/\b=false
  ·rw[fY h,fY h];exact kp _ _ _
  ·rw[eJ h,eJ h];exact kp _ _ _
 |some e=>
  simp only;unfold T1;by_cases h:e.kind=2/\c.kind=1
  ·rw[fY h,fY h];exact kp _ _ _
  ·rw[eJ h,eJ h]
   by_cases h:e.kind=1/\c.kind=2
   ·rw[fY h,fY h];exact kp _ _ _
   ·rw[eJ h,eJ h];exact vX ei fs e
theorem D9(ei:List Ob)(t:LT)(fs:FS)(b a:eB):Fair fs (ra ei t fs b a).1 (ra ei t fs b a).2 (ra ei t j1 b a).2 (14,t):=by
 cases b with
 |nil=>cases a<;>exact kp _ _ _
 |cons nf b=>
  cases a with
  |nil=>exact kp _ _ _
  |cons nt a=>
   unfold ra;refine(vh ei t fs (nf::b)).bind (fun hn d=>?_) (fun hf d=>?_)
   ·simp only[d]
    by_cases h0:(g5 ei t j1 (nf::b)).2.1≠0
    ·simp only[fY h0];exact kp _ _ _
    ·simp only[eJ h0]
     by_cases f:(nf::b).reverse <+: (nt::a).reverse/\nf::b≠nt::a
     ·simp only[fY f];exact kp _ _ _
     ·simp only[eJ f]
      generalize (g5 ei t fs (nf::b)).1=g;have e:(g5 ei t j1 (nf::b)).1=j1:=by rw[iy]
      rw[e];generalize (g5 ei t j1 (nf::b)).2.2=c;refine(qV ei t g a).bind (fun hn d=>?_) (fun hf d=>?_)
      ·simp only[d]
       by_cases h1:(kq ei t j1 a).2.1≠0\/nf::b=nt::a
       ·simp only[fY h1];exact kp _ _ _
       ·simp only[eJ h1]
        have e:(kq ei t j1 a).1=j1:=(by rw[iz]);rw[e];generalize (kq ei t j1 a).2.2=ks;generalize (kq ei t g a).1=i;refine(KN ei i (decide (b=a)) ks nt c).bind (fun hn d=>?_) (fun hf d=>?_)
        ·simp only[d]
         by_cases hv:(gX ei j1 (decide (b=a)) ks nt c).2≠0
         ·simp only[fY hv];exact kp _ _ _
         ·simp only[eJ hv]
          by_cases h:5<((a.length+1:Nat):Int)+H2 ei 5 c
          ·simp only[fY h];exact kp _ _ _
          ·simp only[eJ h];exact kp _ _ _
        ·simp only[d];exact⟨rfl,rfl⟩
      ·simp only[d]
       rw[fY (.inl (by decide))];exact⟨rfl,rfl⟩
   ·simp only[d];exact⟨rfl,rfl⟩
theorem AP(fs:FS)(id:Int):Fair fs (fs.fA id).1 (fs.fA id).2 true false:=by
 rcases fs.vV id with⟨h1,h2,_⟩|⟨h1,h2⟩
 ·exact .inl ⟨h2,h1⟩
 ·exact .inr ⟨h2,h1⟩
theorem yh(ei:List Ob)(fl:Nat->Option (Int×eu))(fs:FS)(f:Nat):Fair fs (po ei fl fs f).1 (po ei fl fs f).2 (po ei fl j1 f).2 (14,fy):=by
 unfold po;cases fl f with
 |none=>exact kp _ _ _
 |some x=>
  obtain⟨id,d⟩:=x;simp only;by_cases h:id=0
  ·rw[fY h,fY h];exact kp _ _ _
  ·rw[eJ h,eJ h,tV]
   refine(AP fs id).bind (fun hn a=>?_) (fun hf a=>?_)
   ·rw[fY a];exact kp _ _ _
   ·rw[eJ (by rw[a];decide)];exact⟨rfl,rfl⟩
theorem KO(ei:List Ob)(fl:Nat->Option (Int×eu))(fs:FS)(c:LT):Fair fs (xi ei fl fs c).1 (xi ei fl fs c).2 (xi ei fl j1 c).2 (14,0):=by
 cases c with
 |file id=>
  simp only[xi,tV];refine(AP fs id).bind (fun hn a=>?_) (fun hf a=>?_)
  ·rw[fY a];exact kp _ _ _
  ·rw[eJ (by rw[a];decide)];exact⟨rfl,rfl⟩
 |held f=>
  simp only[xi];refine(yh ei fl fs f).bind (fun hn a=>?_) (fun hf a=>?_)
  ·simp only[a];exact kp _ _ _
  ·simp only[a];exact⟨trivial,rfl⟩
 |dir id=>
  simp only[xi];refine(vg ei fs (.dir id)).bind (fun hn a=>?_) (fun hf a=>?_)
  ·simp only[a];exact kp _ _ _
  ·simp only[a];exact⟨trivial,rfl⟩
 |own es=>
  simp only[xi];refine(vg ei fs (.own es)).bind (fun hn a=>?_) (fun hf a=>?_)
  ·simp only[a];exact kp _ _ _
  ·simp only[a];exact⟨trivial,rfl⟩
theorem KP(ei:List Ob)(fl:Nat->Option (Int×eu))(t:LT)(fs:FS)(r:eB):Fair fs (gB ei fl t fs r).1 (gB ei fl t fs r).2 (gB ei fl t j1 r).2 (14,0,0):=by
 unfold gB;refine(vh ei t fs r).bind (fun hn a=>?_) (fun hf a=>?_)
 ·simp only[a]
  by_cases h0:(g5 ei t j1 r).2.1≠0
  ·simp only[fY h0];exact kp _ _ _
  ·simp only[eJ h0]
   have b:(g5 ei t j1 r).1=j1:=by rw[iy]
   rw[b];generalize (g5 ei t j1 r).2.2=c;refine(KO ei fl _ c).bind (fun hn a=>?_) (fun hf a=>?_)
   ·simp only[a]
    by_cases hv:(xi ei fl j1 c).2.1≠0
    ·simp only[fY hv];exact kp _ _ _
    ·simp only[eJ hv];exact kp _ _ _
   ·simp only[a];exact⟨rfl,rfl⟩
 ·simp only[a];exact⟨rfl,rfl⟩
section
variable {ei:List Ob}{fc:ul}{t d:LT}{q:eB}{ks:Kids}{n:eu}
theorem vk(a:t.at ei q=some d)(r:eB):xj ei fc t (q++r)=xj ei fc d r:=by
 unfold xj;rw[i1,a];rfl
theorem iH(a:t.at ei q=some d)(hk:kids ei d=some ks)(m:eu)(r:eB):xj ei fc t (q++m::r)=(g8 ks m).bind fun c=>xj ei fc c r:=by
 rw[vk a,sk,hk,my]
theorem xx(hr:eF ks)(a:t.at ei q=some d)(hk:kids ei d=some ks)(c:LT):
  (∀r,xj ei fc (m1 ei (fun ks=>n7 ks n c) q t) (q++n::r)=xj ei fc c r)/\∀x,¬(q++[n]) <+: x->xj ei fc (m1 ei (fun ks=>n7 ks n c) q t) x=xj ei fc t x:=by
 obtain⟨h1,h2⟩:=Co ei fc (fun ks=>n7 ks n c) q t d ks a hk;refine⟨fun r=>?_,fun x hx=>?_⟩
 ·rw[h1,qd hr,fY rfl];rfl
 ·by_cases hq:∃m r,x=q++m::r
  ·obtain⟨m,r,rfl⟩:=hq
   have hm:m≠n:=fun e=>hx (by rw[e];exact⟨r,by simp⟩);rw[h1,qd hr,eJ hm,iH a hk]
  ·exact h2 x hq
theorem Ea(hr:eF ks)(ht:g9 ks n=true)(a:t.at ei q=some d)(hk:kids ei d=some ks):
  (∀r,xj ei fc (m1 ei (fun ks=>lh ks n) q t) (q++n::r)=none)/\∀x,¬(q++[n]) <+: x->xj ei fc (m1 ei (fun ks=>lh ks n) q t) x=xj ei fc t x:=by
 obtain⟨h1,h2⟩:=Co ei fc (fun ks=>lh ks n) q t d ks a hk;refine⟨fun r=>?_,fun x hx=>?_⟩
 ·rw[h1,gN hr ht,fY rfl];rfl
 ·by_cases hq:∃m r,x=q++m::r
  ·obtain⟨m,r,rfl⟩:=hq
   have hm:m≠n:=fun e=>hx (by rw[e];exact⟨r,by simp⟩);rw[h1,gN hr ht,eJ hm,iH a hk]
  ·exact h2 x hq
end
theorem GR{fc:ul}(hS:Sound ei){t:LT}(d:eL ei k t){e f c:LT}{b i:Kids}
  (a:t.at ei qf=some e)(hk:kids ei e=some b)(hp:g8 b nf=some c)(j:t.at ei qt=some f)(l:kids ei f=some i)(KL:¬(qf++[nf]) <+: (qt++[nt]))(x:eB):
  xj ei fc (m1 ei (fun ks=>n7 ks nt c) qt (m1 ei (fun ks=>lh ks nf) qf t)) x =
   if(qt++[nt]) <+: x then xj ei fc t ((qf++[nf])++x.drop (qt++[nt]).length)else if(qf++[nf]) <+: x then none else xj ei fc t x:=by
 have hr:=(jp hS (mf hS _ d a).2.1 hk).1;have ht:g9 b nf=true:=by rw[<-lr hr,hp];rfl
 have Js:¬(qf++[nf]) <+: qt:=fun h=>KL (h.trans (kV _ _));obtain⟨d1,v,g,e2,_⟩:=ye hr a hk ht j l Js;have m:=tT hS d a hk nf;have o:=(jp hS (mf hS _ m g).2.1 e2).1;obtain⟨p,q⟩:=xx (fc:=fc) (n:=nt) o g e2 c;obtain⟨s,u⟩:=Ea (fc:=fc) hr ht a hk;by_cases h:(qt++[nt]) <+: x
 ·rw[fY h]
  obtain⟨r,rfl⟩:=h;rw[nv,show(qt++[nt])++r=qt++nt::r by simp,p,show(qf++[nf])++r=qf++nf::r by simp,iH a hk,hp];rfl
 ·rw[eJ h,q x h]
  by_cases h2:(qf++[nf]) <+: x
  ·rw[fY h2]
   obtain⟨r,rfl⟩:=h2;rw[show(qf++[nf])++r=qf++nf::r by simp,s]
  ·rw[eJ h2,u x h2]
theorem tW(ei:List Ob)(fc:ul)(t:LT):∀r:eB,
  ((ju ei t r).1=0/\t.at ei r.reverse=some (ju ei t r).2)\/((ju ei t r).1≠0/\xj ei fc t r.reverse=none/\((ju ei t r).1=4\/(ju ei t r).1=5))
 |[]=>.inl ⟨rfl,k0 _ _⟩
 |n::r=>by
  by_cases h:(ju ei t (n::r)).1=0
  ·exact .inl ⟨h,(x9 ei t (n::r)).1 h⟩
  ·refine .inr ⟨h,?_,?_⟩
   ·unfold xj;rw[(x9 ei t (n::r)).2 h];rfl
   ·rcases tW ei fc t r with⟨h0,b⟩|⟨h0,_,a⟩
    ·rw[ju]at h ⊢
     simp only at h ⊢
     rw[eJ (by simpa using h0)]at h ⊢
     cases hd:(ju ei t r).2 with
     |file i=>rw[hd]at h;simp[u2]
     |held f=>rw[hd]at h;simp[u2]
     |own es=>simp only[hd,u2]at h ⊢;cases hp:g8 es n<;>simp[hp]at h ⊢
     |dir id=>simp only[hd,u2]at h ⊢;cases hp:g8 ((eR ei id).map Pl) n<;>simp[hp]at h ⊢
    ·rw[ju]
     simp only
     rw[fY h0];exact a
structure N3 (a:List Ob):Prop where
 file:∀i (h:i<a.length),a[i].kind=1->fileAt a a[i].data=some i
 dir:∀i (h:i<a.length),a[i].kind=2->kJ a a[i].eG=some i
theorem N3.snoc(h:N3 a)(ho:D6 a o):N3 (a++[o]):=by
 refine⟨fun i hi hk=>?_,fun i hi hk=>?_⟩
 ·rw[pY]
  by_cases h1:i<a.length
  ·rw[Ge h1]at hk ⊢
   rw[h.file i h1 hk];rfl
  ·have h2:i=a.length:=by simp at hi;omega
   subst h2;simp only[List.getElem_concat_length]at hk ⊢;rcases ho.or with⟨_,_,_,hf⟩|⟨hk2,_⟩
   ·rw[hf,fY ⟨hk,trivial⟩];rfl
   ·rw[hk]at hk2;cases hk2
 ·rw[r8]
  by_cases h1:i<a.length
  ·rw[Ge h1]at hk ⊢
   rw[h.dir i h1 hk];rfl
  ·have h2:i=a.length:=by simp at hi;omega
   subst h2;simp only[List.getElem_concat_length]at hk ⊢;rcases ho.or with⟨hk2,_⟩|⟨_,_,_,_,_,_,hf⟩
   ·rw[hk]at hk2;cases hk2
   ·rw[hf,fY ⟨hk,trivial⟩];rfl
theorem AQ{ks:Kids}(hr:eF ks)(hk:k<ks.length):g8 ks (ks[k]).1=some (ks[k]).2:=by
 cases h:g8 ks (ks[k]).1 with
 |none=>
  exfalso;unfold g8 at h;rw[M5,Nf]at h;exact h _ (iF hk) (by simp)
 |some c=>rw[jc hr h (iF hk) rfl]
structure z1 where
 t:fQ
 p:Nat
 base:List Ob
def fK (ft:z1)(F:Nat->Prop)(w:World)(s:Nat)(ei:List Ob):Prop:=jt ft.t F w s ft.p ei/\ft.base <+: ei/\Exact ei/\N3 ei
section
variable {ft:z1}{F F':Nat->Prop}{w w':World}{s:Nat}{ei ip:List Ob}
theorem fK.inv(h:fK ft F w s ei):Inv ft.t F w s ei:=h.1.inv
theorem fK.keep(h:fK ft F w s ei)(hF:∀k,F k->F' k)(hk:∀k,F k->w'.heap[k]?=w.heap[k]?):fK ft F' w' s ei:=⟨h.1.keep (fun k _=>hk k) (fun k _=>hF k),h.2⟩
theorem fK.below(h:fK ft F w s ei)(a:gS w w')(hF:∀k,k<w.heap.size->F k->F' k):fK ft F' w' s ei:=⟨h.1.below a hF,h.2⟩
theorem Eb{d:eu}{e:Ending}(h:gL ei ip d e):ip=ei\/∃o,D6 ei o/\ip=ei++[o]:=by
 rcases h with⟨_,h,_⟩|⟨_,h,_⟩|⟨_,_,_,h,_⟩|⟨h1,h2,_,h,_⟩
 ·exact .inl h
 ·exact .inl h
 ·exact .inl h
 ·exact .inr ⟨sq d,⟨.inl ⟨rfl,rfl,h1,h2⟩⟩,h⟩
theorem GU{e:Ending}(f:Exact ei)(h:gf ei ip es e):ip=ei\/∃o,D6 ei o/\ip=ei++[o]:=by
 rcases h with⟨_,h,_⟩|⟨hv,⟨_,h,_⟩|⟨_,_,h,_⟩|⟨_,_,_,h,_⟩|⟨_,NE,hg,es',c,g,_,⟨_,h,_⟩|⟨_,h,_⟩|⟨_,_,_,h,_⟩|⟨i,hd,_,⟨o,hk,a,j,h⟩,_⟩⟩⟩
 ·exact .inl h
 ·exact .inl h
 ·exact .inl h
 ·exact .inl h
 ·exact .inl h
 ·exact .inl h
 ·exact .inl h
 ·refine .inr ⟨o,⟨.inr ⟨hk,by rw[a];exact j,by rw[a];exact i,by rw[a];exact g,by rw[a,c.length_eq];exact NE,fun e d=>?_,by rw[a];exact hd⟩⟩,h⟩
  rw[a]at d;have hm:=c.mem_iff.1 d;have b:=hg e hm;unfold tA at b;simp only[uM,Bool.not_eq_true',BP,beq_iff_eq]at b;refine⟨hv e hm,?_,b.2⟩;obtain⟨k,l⟩:=wn b.1
  have:=yf f.kinds k l
  rw[b.2]at this;exact this
theorem fK.put(h:fK ft F w s ei)(hp:jt ft.t F' w' s ft.p ip)(ho:ip=ei\/∃o,D6 ei o/\ip=ei++[o]):fK ft F' w' s ip:=by
 obtain⟨_,h2,h3,a⟩:=h;rcases ho with rfl|⟨o,ho,rfl⟩
 ·exact⟨hp,h2,h3,a⟩
 ·exact⟨hp,h2.trans (kV _ _),h3.snoc ho,a.snoc ho⟩
theorem rP(h:fK ft F w s ei)(d:eu)(hd:d.size<=maxLen):
  eK 35 #[fj s,.string d] w fun e w'=>∃ip,gL ei ip d e/\fK ft (ie F w w') w' s ip/\en F w w':=
 (zW h.1 d hd).mono fun e w' ⟨ip,h1,h2,h3⟩=>⟨ip,h1,h.put h2 (Eb h1),h3⟩
theorem tX(h:fK ft F w s ei)(b off m c0:Nat)(es:List eD)
  (hl:es.length=m)(c:b<w.heap.size)(d:m*32<=140737488355328)(hc:∀j a,(flat es)[j]?=some a->w.cell? (eb b (off+j))=some a)(f:∀e∈es,e.1.size<=maxLen):
  eK 26 #[fj s,.slice (some (eb b off)) m c0] w fun e w'=>∃ip,gf ei ip es e/\fK ft (ie F w w') w' s ip/\en F w w':=
 (Ce h.1 b off m c0 es hl c d hc f).mono fun e w' ⟨ip,h1,h2,h3⟩=>⟨ip,h1,h.put h2 (GU h.2.2.1 h1),h3⟩
theorem rQ(h:fK ft F w s ei)(id:Int):
  eK 40 #[fj s,ed id] w fun e w'=>Cf ei id e/\gS w w':=Cj h.inv id
theorem tY(h:fK ft F w s ei)(id:Int):
  eK 43 #[fj s,ed id] w fun e w'=>Cg w w' ei id e/\gS w w':=DJ h.inv id
theorem z6(h:fK ft F w s ei):
  eK 45 #[fj s] w (tz (ed (ei.length:Int)) w):=Ck h.inv
end
theorem yj(id:Int):eC [] id=0:=wd (by simp;omega)
theorem KQ:Exact []:=⟨⟨fun id=>by unfold eY;simp,fun id hk=>by rw[yj]at hk;cases hk⟩,fun o ho=>(by cases ho),fun id hk=>(by rw[yj]at hk;cases hk),fun id hk=>(by rw[yj]at hk;cases hk)⟩
theorem N4:N3 []:=⟨fun i h=>(by cases h),fun i h=>(by cases h)⟩
end Go.Proofs.YtlgidcmmgohagaaGreat
