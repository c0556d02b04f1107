/- What is proved here: 'holds'. -/
import Derived.Test.YtlgidcmmgohagaaGreatFileM04
import Derived.Laws.OwnMore
import Derived.ArgAppend
namespace Go.Proofs.YtlgidcmmgohagaaGreat
open Go.RowKit Go.Sort Go.Shelf Go.Proofs.Tryz
set_option linter.unusedVariables false
set_option maxRecDepth 100000
set_option maxHeartbeats 16000000
variable {c10 c11 c5 c6 c7 c8 c9 v:Value}{w:World}{W c g j n r s:Nat}{t:gi}{xs:fQ}{a:fD}{F:Nat->Prop}{ey:List Ob}
variable {ft:CX}
def fH (e:eN):eN:=(e.1,e.2.1,e.2.2-1)
structure vF (o x:Ob):Prop where
 kind:x.kind=o.kind
 data:o.kind=1->x.data=o.data
 eR:o.kind=2->x.eR=o.eR.map fH
 high:x.high=o.high
 none:o.kind=1->x.eR=[]
 empty:o.kind=2->x.data=ByteArray.empty
theorem Bf(h:gh ft F w s ey)(j:Nat)(hj:j<ey.length)(hk:ey[j].kind=1):
  gc 40 #[hh s,eJ ((j:Int)+1)] w (pB (.tuple #[.string ey[j].data,eJ 0]) w):=by
 refine(uV h ((j:Int)+1)).mono fun e w' ⟨hf,a⟩=>⟨?_,a⟩;rcases hf with⟨h1,_⟩|⟨b,c,d,_,h2⟩
 ·rw[tx hj]at h1;exact absurd hk h1
 ·have:b=j:=by omega
  subst this;exact h2
theorem DS(h:gh ft F w s ey)(j:Nat)(hj:j<ey.length)(hk:ey[j].kind=2):
  gc 43 #[hh s,eJ ((j:Int)+1)] w fun e w'=>∃g,e=.returned (.tuple #[.slice (some (eI g 0)) ey[j].eR.length ey[j].eR.length,eJ 0])/\
   w'.ownsRow w.heap.size 96 3 (.slice (some (eI g 0)) ey[j].eR.length ey[j].eR.length) ey[j].eR.length (flat ey[j].eR)/\ik w w':=by
 refine(wY h ((j:Int)+1)).mono fun e w' ⟨hf,a⟩=>?_;rcases hf with⟨h1,_⟩|⟨b,c,d,_,g,h2,h3⟩
 ·rw[tx hj]at h1;exact absurd hk h1
 ·have:b=j:=by omega
  subst this;exact⟨g,h2,h3,a⟩
section
variable {F G Fs:Nat->Prop}{w:World}{W s r:Nat}{ia ka pa:fD}{ic kc pc:Nat}{ids:List Int}{known:List Bool}{paths:List Int}{c5 c6 c7 c8 c9 c10 c11:Value}{eC ey:List Ob}
theorem LA(h:fG F w W s r ia ka pa ic kc pc ids known paths c5 c6 c7 c8 c9 c10 c11)(hr:fh G w r eC)(hs:gh ft Fs w s ey)(j:Nat)(hj:j<ey.length)(f:j<eC.length)(hk:ey[j].kind=1)(hx:vF ey[j] eC[j]):
  gc 80 #[hh W,eJ (j:Int),eJ ((j:Int)+1)] w (pB (.tuple #[.slice none 0 0,.bool true]) w):=by
 have n:=h.c0;have o:=h.c1;have q:=h.lt;obtain⟨t,u,a⟩:=hr;have v:=a.c0;have x:=a.lt;have hm:=a.many;obtain⟨g,rfl,y,q0,i,z,A⟩:=ko a.row rfl f;have hd:=hx.data hk;have oV:=hx.kind;rw[oV,hk]at q0;rw[hd]at i;have b:∀B,ik w (w.alloc B):=fun B=>(lh _ _).alloc (kx _) _;have c:=fun(B:Obj)=>Bf (hs.below (b B) (fun _ _ h=>h)) j hj hk;have k:Hid (∀B:Obj,gc 40 #[hh s,eJ ((j:Int)+1)] (w.alloc B) fun e w'=>e=.returned (.tuple #[.string ey[j].data,eJ 0])/\Below (w.alloc B).heap.size (w.alloc B) w'):=c;clear h a hd oV hx hs hk c;go_enter func80,ntmps80;go_wp2_with fail;refine(k.out _).mono ?_;rintro e C ⟨rfl,d⟩;have l:=d.cell (p:=(eI w.heap.size 1)) (by simp);have m:=(b _).trans (d.mono (by simp));simp at l;go_wp2;go_ret2;exact⟨rfl,m⟩
theorem Qf(h:fG F w W s r ia ka pa ic kc pc ids known paths c5 c6 c7 c8 c9 c10 c11)(hr:fh G w r eC)(hs:gh ft Fs w s ey)(j:Nat)(hj:j<ey.length)(J:j<eC.length)(hk:ey[j].kind=2)(hx:vF ey[j] eC[j]):
  gc 80 #[hh W,eJ (j:Int),eJ ((j:Int)+1)] w fun e w'=>∃g,e=.returned (.tuple #[.slice (some (eI g 0)) ey[j].eR.length ey[j].eR.length,.bool true])/\
   w'.ownsRow w.heap.size 96 3 (.slice (some (eI g 0)) ey[j].eR.length ey[j].eR.length) ey[j].eR.length (flat ey[j].eR)/\ik w w':=by
 have aa:=h.c0;have ab:=h.c1;have ac:=h.lt;obtain⟨ad,ae,b⟩:=hr;have af:=b.c0;have ag:=b.lt;have hm:=b.many;obtain⟨g,rfl,ah,q0,ai,u,aj⟩:=ko b.row rfl J;have f:=b.zV _ (kj J);have v:=hx.eR hk;have oV:=hx.kind;rw[oV,hk]at q0;have K:∀B,ik w (w.alloc B):=fun B=>(lh _ _).alloc (kx _) _;have l:=fun(B:Obj)=>DS (hs.below (K B) (fun _ _ h=>h)) j hj hk;obtain⟨es,L⟩:∃es,es=ey[j].eR:=⟨_,rfl⟩;rw[<-L]at l v ⊢;have c:=f.row;have n:=f.len;have M:=f.few;rw[v]at c n;rw[nD]at n;rw[<-n]at c u M;obtain⟨x,N⟩:∃x,x=eC[j].ea:=⟨_,rfl⟩;obtain⟨o,O⟩:∃o,o=eC[j].ec:=⟨_,rfl⟩;rw[<-N,<-O]at c u;obtain⟨m,y⟩:∃m,m=es.length:=⟨_,rfl⟩;rw[<-y]at c u M l ⊢;have X:Hid (m=es.length):=y;have P:Hid (∀B:Obj,gc 43 #[hh s,eJ ((j:Int)+1)] (w.alloc B) fun e w'=>∃g,e=.returned (.tuple #[.slice (some (eI g 0)) m m,eJ 0])/\w'.ownsRow (w.alloc B).heap.size 96 3 (.slice (some (eI g 0)) m m) m (flat es)/\Below (w.alloc B).heap.size (w.alloc B) w'):=l;have z:Hid (w.ownsRow 0 112 3 (.slice x m o) m (flat (es.map fH))):=c;clear h b oV hx hs hk l L v f n N O y c;go_enter func80,ntmps80;go_wp2_with fail;refine(P.out _).mono ?_;rintro e a ⟨t,rfl,Q,A⟩;have R:=A.cell (p:=(eI w.heap.size 2)) (by simp);have C:=(K _).trans (A.mono (by simp));simp at R;have S:Hid (a.ownsRow w.heap.size 96 3 (.slice (some (eI t 0)) m m) m (flat es)):=pj Q (by simp);have ak:((m:Int) != (m:Int))=false:=by simp
 clear Q A P;go_wp2
 go_loopw [13] (fun i wr=>∃k:Nat,k<=m/\i=.int .i64 k/\(∃q,wr=a.drewN q)) (fun i _=>m-(intOf i).toNat)
 case atStart=>exact⟨0,tk _,rfl,⟨0,rfl⟩⟩
 case round=>
  obtain⟨k,hk,rfl,⟨q,rfl⟩⟩:=hrel;by_cases Y:k<m
  ·have T:k<es.length:=by rw[<-X.out];exact Y
   have Z:k<(es.map fH).length:=by simpa using T
   obtain⟨d,al,U⟩:=fj z.out (by omega);obtain rfl:=(nH U).1;have V:d<w.heap.size:=eK z.out rfl;obtain⟨t0,t1,_⟩:=ld (off:=0) (jn z.out) Z;obtain⟨D,E,_⟩:=ld (off:=0) (jn S.out) T;rw[iP]at t0 t1 D E;have H:=(C.cell (p:=(eI d (k*3))) V).trans t0;have I:=(C.cell (p:=(eI d (k*3+1))) V).trans t1;have am:=fun q=>(show(a.drewN q).cell? (eI d (k*3))=some (.string es[k].1) by rw[Fa]at H;exact H);have an:=fun q=>(show(a.drewN q).cell? (eI d (k*3+1))=some (.int .i64 es[k].2.1) by rw[Fa]at I;exact I);have ao:=fun q=>(show(a.drewN q).cell? (eI t (k*3))=some (.string es[k].1)from D);have ap:=fun q=>(show(a.drewN q).cell? (eI t (k*3+1))=some (.int .i64 es[k].2.1)from E);have aq:=fun q=>(show(a.drewN q).cell? (eI w.heap.size 2)=some (.slice (some (eI d 0)) m o)from R);have ar:(k:Int)<(m:Int):=by omega
   have au:(es[k].1.toList==es[k].1.toList)=true:=by simp
   have oV:(es[k].2.1 != es[k].2.1)=false:=by simp
   clear t0 t1 H I D E U;go_wp2
   go_quiet (fail)
   go_wp2;go_roundw
   case rel=>exact⟨k+1,by omega,by go_num,⟨_,rfl⟩⟩
   case measure=>simp[intOf];omega
  ·go_wp2
   go_ret2;exact⟨t,rfl,S.out,iQ C q⟩
end
variable {ft:CX}
def qg (n:Nat):List Int:=(List.range n).map fun i:Nat=>(i:Int)+1
theorem rh(n:Nat):(qg n).length=n:=by simp[qg]
theorem th(h:j<n):(qg n)[j]?=some ((j:Int)+1):=by simp[qg,h]
theorem Qg(n:Nat):qg (n+1)=qg n++[(n:Int)+1]:=by simp[qg,List.range_succ]
theorem Bg(h:j<n)(a:List Int):placeOf (qg n++a) ((j:Int)+1)=some j:=by
 unfold placeOf;rw[ie (by omega)];have hl:j<(qg n++a).length:=by simp[rh];omega
 refine zO.2 ⟨hl,?_,fun i hi=>?_⟩
 ·have:(qg n++a)[j]?=some ((j:Int)+1):=by rw[qX (by rw[rh];exact h)];exact th h
  obtain⟨_,e⟩:=wj.1 this;rw[e];simp
 ·have:(qg n++a)[i]?=some ((i:Int)+1):=by rw[qX (by rw[rh];omega)];exact th (by omega)
  obtain⟨_,e⟩:=wj.1 this;rw[e];simp;omega
theorem DT{id:Int}(h:id<1\/(n:Int)<id)(a:List Int)(b:∀z∈a,z=0):placeOf (qg n++a) id=none:=by
 unfold placeOf;split
 ·next hp=>
  refine WL.2 fun x hx=>?_;rcases sB.1 hx with hx|hx
  ·simp only[qg,ij,Hp]at hx
   obtain⟨i,hi,rfl⟩:=hx;simp;omega
  ·rw[b x hx];simp;omega
 ·rfl
section
variable {F G Fs:Nat->Prop}{w:World}{W s r:Nat}{ia ka pa:fD}{ic kc pc:Nat}{ids:List Int}{known:List Bool}{paths:List Int}{c5 c6 c7 c8 c9 c10 c11:Value}{eC ey:List Ob}
theorem jE(hg:F g):eA F w (w.setCell (eI g j) v):=
 ⟨rfl,rfl,rfl,by simp,fun k hk hn=>jQ _ _ _ _ (fun e=>hn (by cases e;exact hg))⟩
theorem jX{b:Nat}{t t':gi}{z n:Nat}{v a:Value}{c:Array Value}(h:w.ownsRow b t z v n xs)(hg:w.heap[g]?=some (.cells c t' (0,0)))(ht:t'≠t):(w.setCell (eI g j) a).ownsRow b t z v n xs:=
 eQ h (fun k hk=>jQ _ _ _ _ (fun e=>fX h hg ht (by cases e;exact hk.symm)))
theorem fG.aan(h:fG F w W s r (some (eI g 0)) ka pa ic kc pc ids known paths c5 c6 c7 c8 c9 c10 c11)(j:Nat)(x:Int):
  fG F (w.setCell (eI g j) (eJ x)) W s r (some (eI g 0)) ka pa ic kc pc (ids.set j x) known paths c5 c6 c7 c8 c9 c10 c11/\eA F w (w.setCell (eI g j) (eJ x)):=by
 obtain⟨a,hc⟩:=ww h.lW rfl;have hl:(ids.set j x).length=ids.length:=by simp
 refine⟨⟨h.fw,?_,?_,jX h.pz hc (by decide),jX h.qc hc (by decide),?_,h.fk,h.fp⟩,jE (h.fi g rfl)⟩
 ·rw[hl,jQ _ _ _ _ (fun e=>fX h.lW h.hW (by decide) (by rw[show W=g from e];rfl))];exact h.hW
 ·rw[hl]
  have:=(h.lW.stored j (eJ x)).1
  rw[encI,List.map_set];exact this
 ·rw[hl];exact h.fi
theorem fG.aao(h:fG F w W s r ia (some (eI g 0)) pa ic kc pc ids known paths c5 c6 c7 c8 c9 c10 c11)(j:Nat)(x:Bool):
  fG F (w.setCell (eI g j) (.bool x)) W s r ia (some (eI g 0)) pa ic kc pc ids (known.set j x) paths c5 c6 c7 c8 c9 c10 c11/\eA F w (w.setCell (eI g j) (.bool x)):=by
 obtain⟨a,hc⟩:=ww h.pz rfl;have hl:(known.set j x).length=known.length:=by simp
 refine⟨⟨h.fw,?_,jX h.lW hc (by decide),?_,jX h.qc hc (by decide),h.fi,?_,h.fp⟩,jE (h.fk g rfl)⟩
 ·rw[hl,jQ _ _ _ _ (fun e=>fX h.pz h.hW (by decide) (by rw[show W=g from e];rfl))];exact h.hW
 ·rw[hl]
  have:=(h.pz.stored j (.bool x)).1
  rw[HZ,List.map_set];exact this
 ·rw[hl];exact h.fk
def fZ (F:Nat->Prop)(w:World)(W s r n:Nat)(c5 c6 c7 c8 c9 c10 c11:Value):Prop:=
 ∃ia ka pa ic kc pc paths,fG F w W s r ia ka pa ic kc pc (qg n) (List.replicate n true) paths c5 c6 c7 c8 c9 c10 c11/\paths.length=n/\pH paths
def iL (eC:List Ob):Prop:=∀i (hi:i<eC.length),∀e∈eC[i].eR,0<=e.2.2/\e.2.2<(i:Int)
theorem rA(h:fZ F w W s r n c5 c6 c7 c8 c9 c10 c11)(hr:fh G w r eC)(m:∀k,G k->k<w.heap.size/\¬F k)(hn:eC.length=n)(o:iL eC)(j:Nat)(hj:j<n):
  gc 37 #[hh W,eJ (j:Int),eJ ((j:Int)+1)] w fun e w'=>e=.returned (.bool true)/\fZ (kp F w w') w' W s r n c5 c6 c7 c8 c9 c10 c11/\eA F w w':=by
 obtain⟨ia,ka,pa,ic,kc,pc,paths,hl,b,c⟩:=h;have hm:n<=400:=by obtain⟨_,_,h⟩:=hr;rw[<-hn];exact h.many
 have d:=DD hl hr m (by simp[rh]) (by rw[b,rh]) (by rw[rh];omega) o c;rw[rh,hn,Hq]at d;clear hl hr b c;go_enter func37,ntmps37;go_wp2_with fail;refine d.mono ?_;rintro e a ⟨rfl,ia,ka,pa,ic,kc,pc,paths,hl,b,c,l⟩;simp only[List.replicate_zero,ql,CQ]at hl b;clear d;have f:=uh hl ((j:Int)+1) (by rw[rh];exact hm);have e:=Bg hj [];rw[ql]at e;rw[e]at f;have p:gc 41 #[hh W,eJ ((j:Int)+1)] a (Do (eJ (j:Int)) a):=f;clear f e;have q:=hl.c2;have t:=hl.c3;rw[rh]at q;rw[wk]at t;have A:=hl.lt;obtain⟨g,u,B,x,_⟩:=row_one hl.lW (i:=j) (v:=.int .i64 ((j:Int)+1)) (by simp[encI,th hj]);subst u;obtain⟨gk,y,C,D,_⟩:=row_one hl.pz (i:=j) (v:=.bool true) (by simp[HZ,hj]);subst y;have E:a.frozen? (eI g j)=false:=by have:=hl.lW;rw[rh]at this;exact this.frozenAt j
 have H:=ri x;have n1:¬(j:Int)+1<1:=by omega
 have I:decide ((j:Int)+1<1)=false:=rk n1;have n2:((j:Int)+1 != 0)=true:=by simp;omega
 have n3:((j:Int)+1 != (j:Int)+1)=false:=by simp
 have J:((j:Int) != (j:Int))=false:=by simp
 have z:Hid (fZ (kp F w a) a W s r n c5 c6 c7 c8 c9 c10 c11/\eA F w a):=⟨⟨_,_,pa,ic,kc,pc,paths,hl,b,c⟩,l⟩;clear hl c l;go_wp2_with fail;refine p.mono ?_;rintro e K ⟨rfl,rfl⟩;go_wp2;go_ret;exact⟨rfl,z.out⟩
theorem ze{w b c:World}(h:eA F w b)(a:ik b c):eA F w c:=
 ⟨a.os.trans h.os,a.tape.trans h.tape,a.output.trans h.output,wl h.size a.size,fun k hk hn=>(a.block k (lO hk h.size)).trans (h.block k hk hn)⟩
theorem fZ.mono{F F':Nat->Prop}(h:fZ F w W s r n c5 c6 c7 c8 c9 c10 c11)(hF:∀k,F k->F' k):fZ F' w W s r n c5 c6 c7 c8 c9 c10 c11:=by
 obtain⟨ia,ka,pa,ic,kc,pc,paths,hl,hp⟩:=h;exact⟨ia,ka,pa,ic,kc,pc,paths,hl.mono hF,hp⟩
theorem fZ.drew(h:fZ F w W s r n c5 c6 c7 c8 c9 c10 c11):fZ F w.drew W s r n c5 c6 c7 c8 c9 c10 c11:=by
 obtain⟨ia,ka,pa,ic,kc,pc,paths,hl,hp⟩:=h;exact⟨ia,ka,pa,ic,kc,pc,paths,hl.keep (fun _ h=>h) (fun _ _=>rfl),hp⟩
theorem Ua(n:Nat)(x:Int):(qg n++[(0:Int)]).set n x=qg n++[x]:=by
 rw[KO _ _ (by rw[rh];exact kx _),rh,Hq];rfl
theorem Qh(n:Nat):(List.replicate n true++[false]).set n true=List.replicate (n+1) true:=by
 rw[KO _ _ (by simp),wk,Hq,EZ];rfl
theorem LB(h:fZ F w W s r n c5 c6 c7 c8 c9 c10 c11)(hr:fh G w r eC)(hs:gh ft Fs w s ey)(O:∀k,G k->k<w.heap.size/\¬F k)(ai:∀k,Fs k->k<w.heap.size/\¬F k)(aj:∀k,F k->k<w.heap.size)
  (hn:eC.length=n+1)(ho:ey.length=n+1)(P:iL eC)(hx:vF (ey[n]'(by omega)) (eC[n]'(by omega))):
  gc 37 #[hh W,eJ (n:Int),eJ ((n:Int)+1)] w fun e w'=>e=.returned (.bool true)/\fZ (kp F w w') w' W s r (n+1) c5 c6 c7 c8 c9 c10 c11/\eA F w w':=by
 obtain⟨ia,ka,pa,ic,kc,pc,paths,hl,C,D⟩:=h;have hm:n+1<=400:=by obtain⟨_,_,h⟩:=hr;rw[<-hn];exact h.many
 have Q:=DD hl hr O (by simp[rh]) (by rw[C,rh]) (by rw[rh];omega) P D;rw[rh,hn,Pj]at Q;have aH:Hid (fh G w r eC):=hr;have aI:Hid (gh ft Fs w s ey):=hs;have H:Hid (∀k,G k->k<w.heap.size/\¬F k):=O;have ak:Hid (∀k,Fs k->k<w.heap.size/\¬F k):=ai;have aJ:Hid (∀k,F k->k<w.heap.size):=aj;have al:Hid (iL eC):=P;have am:Hid (eC.length=n+1):=hn;have bp:Hid (ey.length=n+1):=ho;have l:n<eC.length:=by omega
 have R:n<ey.length:=by omega
 have S:Hid (vF ey[n] eC[n]):=hx;clear hl hr C D hs O ai aj P hx hn ho;go_enter func37,ntmps37;go_wp2_with fail;refine Q.mono ?_;rintro e f ⟨rfl,ia,ka,pa,ic,kc,pc,paths,hl,C,D,c⟩;simp only[List.replicate_one]at hl;clear Q;have T:=uh hl ((n:Int)+1) (by simp[rh];omega);rw[DT (.inr (by omega)) [0] (fun z aK=>nh.1 aK)]at T;have an:gc 41 #[hh W,eJ ((n:Int)+1)] f (Do (eJ (-1)) f):=T;clear T;have ao:=hl.c2;have ap:=hl.c3;have U:(qg n++[(0:Int)]).length=n+1:=by simp[rh]
 have V:(List.replicate n true++[false]).length=n+1:=by simp
 rw[U]at ao;rw[V]at ap;have aL:=hl.lt;obtain⟨g,aM,aN,aO,_⟩:=row_one hl.lW (i:=n) (v:=.int .i64 0) (by simp[encI,rh]);subst aM;obtain⟨gk,aP,aQ,aR,_⟩:=row_one hl.pz (i:=n) (v:=.bool false) (by simp[HZ]);subst aP;have aS:f.frozen? (eI g n)=false:=by have:=hl.lW;rw[U]at this;exact this.frozenAt n
 have aT:f.frozen? (eI gk n)=false:=by have:=hl.pz;rw[V]at this;exact this.frozenAt n
 have bq:g≠gk:=by
  obtain⟨_,h1⟩:=ww hl.lW rfl;obtain⟨_,h2⟩:=ww hl.pz rfl;exact ni h1 h2 (by decide)
 have br:g≠W:=by
  obtain⟨_,h1⟩:=ww hl.lW rfl;exact ni h1 hl.hW (by decide)
 have bs:gk≠W:=by
  obtain⟨_,h1⟩:=ww hl.pz rfl;exact ni h1 hl.hW (by decide)
 have bt:decide ((n:Int)+1<1)=false:=rk (by omega);have bu:(n:Int)<(n:Int)+1:=by omega
 have X:=hl.aan n ((n:Int)+1);have I:=X.1.aao n true;rw[Ua,<-Qg,Qh]at I;have Y:Hid _:=I;have j:Hid (eA F w ((f.setCell (eI g n) (eJ ((n:Int)+1))).setCell (eI gk n) (.bool true))):=by
  have a:eA (kp F w f) f ((f.setCell (eI g n) (eJ ((n:Int)+1))).setCell (eI gk n) (.bool true)):=⟨rfl,rfl,rfl,by simp,fun k hk TF=>(I.2.block k (by simpa using hk) TF).trans (X.2.block k hk TF)⟩;exact xt c a
 have aq:Hid (paths.length=n+1/\pH paths):=⟨C,D⟩;clear hl D c X I C;go_wp2_with fail;refine an.mono ?_;rintro e Z ⟨rfl,rfl⟩;clear an;go_wp2_with fail;have aU:Z.heap.size=((Z.setCell (eI g n) (eJ ((n:Int)+1))).setCell (eI gk n) (.bool true)).heap.size:=by simp
 obtain⟨w3,ar⟩:∃w3,w3=(Z.setCell (eI g n) (eJ ((n:Int)+1))).setCell (eI gk n) (.bool true):=⟨_,rfl⟩;rw[<-ar]at Y j aU ⊢;have au:fG (kp F w w3) w3 W s r (some (eI g 0)) (some (eI gk 0)) pa ic kc pc (qg (n+1)) (List.replicate (n+1) true) paths c5 c6 c7 c8 c9 c10 c11:=Y.out.1.mono (fun k hk=>by rcases hk with h|h;exact .inl h;exact .inr ⟨h.1,by omega⟩);have J:Hid (fG (kp F w w3) w3 W s r (some (eI g 0)) (some (eI gk 0)) pa ic kc pc (qg (n+1)) (List.replicate (n+1) true) paths c5 c6 c7 c8 c9 c10 c11):=au;have K:Hid (fh G w3 r eC):=nZ aH.out H.out j.out;have aa:Hid (gh ft Fs w3 s ey):=aI.out.keep (fun _ h=>h) (fun k hk=>j.out.block k (ak.out k hk).1 (ak.out k hk).2);clear au aO aR aS aT ao ap aN aQ ar Y aL U V;have aV:ey[n].kind=1\/ey[n].kind=2:=by exact aa.out.2.2.1.kinds _ (kj R)
 rcases aV with y|y
 ·have p:=LA J.out K.out aa.out n R l y S.out
  clear y;refine p.mono ?_;rintro e b ⟨rfl,d⟩;clear p;have aW:Hid (fZ (kp F w b) b W s r (n+1) c5 c6 c7 c8 c9 c10 c11/\eA F w b):=⟨⟨_,_,pa,ic,kc,pc,paths,(J.out.below d).mono (fun k hk=>by rcases hk with h|h;exact .inl h;exact .inr ⟨h.1,lO h.2 d.size⟩),aq.out⟩,ze j.out d⟩;go_wp2
  go_loopw [9,10] (fun o i wr=>o=.bool true/\i=.int .i64 0/\wr=b) (fun _ _ _=>0)
  case atStart=>exact⟨rfl,rfl,rfl⟩
  case round=>
   obtain⟨rfl,rfl,rfl⟩:=hrel;go_wp2;go_ret;exact⟨rfl,aW.out⟩
 ·have p:=Qf J.out K.out aa.out n R l y S.out
  have E:=S.out.eR y;obtain⟨es,av⟩:∃es,es=ey[n].eR:=⟨_,rfl⟩;rw[<-av]at p E;have ab:=al.out n l;rw[E]at ab;have aX:Hid (∀e∈es,1<=e.2.2/\e.2.2<=(n:Int)):=fun e aY=>by
   have:0<=e.2.2-1/\e.2.2-1<(n:Int):=ab (fH e) (CM aY)
   omega
  have aw:Hid (es.length<=16):=by
   obtain⟨_,_,t⟩:=K.out;have h1:=(t.zV _ (kj l)).len;have h2:=(t.zV _ (kj l)).few;rw[E,nD]at h1;show _<=_;omega
  have aZ:Hid (eC[n].eR=es.map fH):=E;clear y E ab av;obtain⟨m,ac⟩:∃m,m=es.length:=⟨_,rfl⟩;rw[<-ac]at p aw;have bv:m<=16:=aw.out;have ax:Hid (m=es.length):=ac;clear ac;refine p.mono ?_;rintro e b ⟨u,rfl,ad,d⟩;clear p;have ay:Hid (u<b.heap.size/\w3.heap.size<=u):=by have:=ad.lt u rfl;exact⟨this.2,this.1⟩
  have bb:Hid (b.ownsRow w3.heap.size 96 3 (.slice (some (eI u 0)) m m) m (flat es)):=ad;have bc:Hid (∀k,kp F w w3 k->k<w3.heap.size):=fun k hk=>by rcases hk with h|h;exact lO (aJ.out k h) j.out.size;exact h.2
  have bd:Hid (fZ (kp F w w3) b W s r (n+1) c5 c6 c7 c8 c9 c10 c11):=⟨_,_,pa,ic,kc,pc,paths,J.out.below d,aq.out⟩;have be:Hid (fh G b r eC):=K.out.below d (fun _ h=>h);have L:Hid (∀k,G k->k<b.heap.size/\¬kp F w w3 k):=fun k hk=>⟨lO (H.out k hk).1 (wl j.out.size d.size),fun h=>by rcases h with h|h;exact(H.out k hk).2 h;have:=(H.out k hk).1;omega⟩;clear ad;go_wp2
  go_loopw [9,10] (fun o i wr=>∃k:Nat,k<=m/\o=.bool true/\i=.int .i64 k/\Hid (fZ (kp (kp F w w3) b wr) wr W s r (n+1) c5 c6 c7 c8 c9 c10 c11/\eA (kp F w w3) b wr)) (fun _ i _=>m-(intOf i).toNat)
  case atStart=>exact⟨0,tk _,rfl,rfl,fZ.mono bd.out (fun k hk=>.inl hk),⟨rfl,rfl,rfl,kx _,fun _ _ _=>rfl⟩⟩
  case round=>
   obtain⟨k,hk,rfl,rfl,M⟩:=hrel;have c:=M.out.2;by_cases bf:k<m
   ·have ae:k<es.length:=by rw[<-ax.out];exact bf
    have az:=nZ be.out L.out c;have aA:=rA (w:=wr.drew) (fZ.drew M.out.1) (az.keep (fun _ h=>h) (fun _ _=>rfl)) (fun q hq=>⟨lO (L.out q hq).1 c.size,fun h=>by rcases h with h|h;exact(L.out q hq).2 h;have:=(L.out q hq).1;omega⟩) am.out al.out;obtain⟨_,_,_,_,_,_,_,aB,_⟩:=M.out.1;have bw:=aB.c1;obtain⟨bx,bz,t⟩:=az;have bg:=t.c0;rw[am.out]at bg;obtain⟨gr,bh,bA,_,_,aC,_⟩:=ko t.row rfl l;subst bh;have af:=t.zV _ (kj l);have A:=af.row;have N:=af.len;rw[aZ.out]at A N;rw[nD,<-ax.out]at N;rw[<-N]at A aC;obtain⟨bi,bB,aD⟩:=fj A (by omega);rw[(nH aD).1]at A aC;obtain⟨_,_,ag⟩:=ld (off:=0) (jn A) (i:=k) (by simpa using ae);rw[iP,Fa]at ag;obtain⟨bj,bk⟩:=aX.out es[k] (kj ae);obtain⟨B,ah⟩:∃B:Nat,es[k].2.2=(B:Int)+1:=⟨(es[k].2.2-1).toNat,by omega⟩;have bC:wr.cell? (eI bi (k*3+2))=some (eJ (B:Int)):=by rw[ag];unfold fH;rw[ah];simp
    have aE:wr.ownsRow 0 96 3 (.slice (some (eI u 0)) m m) m (flat es):=eQ (pj bb.out (tk _)) (fun q hq=>by
     cases hq;exact c.block u ay.out.1 (fun h=>by have:=bc.out u h;have:=ay.out.2;omega))
    obtain⟨_,_,bl⟩:=ld (off:=0) (jn aE) ae;rw[iP,ah]at bl;have aF:=aA B (by omega);have bD:(k:Int)<(m:Int):=by omega
    have bm:Hid (gc 37 #[hh W,eJ (B:Int),eJ ((B:Int)+1)] wr.drew fun e w'=>e=.returned (.bool true)/\fZ (kp (kp (kp F w w3) b wr) wr.drew w') w' W s r (n+1) c5 c6 c7 c8 c9 c10 c11/\eA (kp (kp F w w3) b wr) wr.drew w'):=aF;clear aA aF aB t af N A aD ag aE bj bk ah;go_wp2;refine wp_region_still_tail 21 (by kernel_rfl) (by kernel_rfl) ?_;simp only[SQ,SP,Pk,Ar]
    iterate 21 still_step
    refine wpStill_nil ?_;go_wp2_with fail;refine bm.out.mono ?_;rintro e w5 ⟨rfl,aG,x⟩;have bn:Hid (fZ (kp (kp F w w3) b w5) w5 W s r (n+1) c5 c6 c7 c8 c9 c10 c11/\eA (kp F w w3) b w5):=⟨fZ.mono aG (fun q hq=>kQ c.size x.size hq),xt c ⟨x.os,x.tape,x.output,x.size,x.block⟩⟩;clear aG x;go_wp2;go_roundw
    case rel=>exact⟨k+1,by omega,rfl,by go_num,bn.out⟩
    case measure=>simp[intOf];omega
   ·have bo:Hid (fZ (kp F w wr) wr W s r (n+1) c5 c6 c7 c8 c9 c10 c11/\eA F w wr):=by
     have bE:=j.out.size;have bF:=d.size;have bG:=c.size;refine⟨fZ.mono M.out.1 (fun q hq=>?_),?_⟩
     ·rcases hq with(h|h)|h
      ·exact .inl h
      ·exact .inr ⟨h.1,by omega⟩
      ·exact .inr ⟨by omega,h.2⟩
     ·refine xt (ze j.out d) ⟨c.os,c.tape,c.output,c.size,fun q hq TF=>c.block q hq (fun h=>TF ?_)⟩
      rcases h with h|h
      ·exact .inl h
      ·exact .inr ⟨h.1,by omega⟩
    have bH:decide ((k:Int)<(m:Int))=false:=rk (by omega);go_wp2;go_ret;exact⟨rfl,bo.out⟩
end
theorem DU{p:Prop}(h:Hid p):p:=h.out
def vG:eN:=(ByteArray.empty,-77,0)
theorem Iz:(prog.info? 96).map (fun i=>(i.zero,i.size,i.bytes))=some (some (.agg #[.string ByteArray.empty,eJ 0,eJ 0]),3,32):=by kernel_rfl
theorem Oj:(prog.info? 96).map (·.size)=some 3:=by kernel_rfl
theorem goN(pre:fQ)(a b c:Value):∀(rest:fQ),3<=rest.length->(((pre++rest).set pre.length a).set (pre.length+1) b).set (pre.length+2) c=pre++[a,b,c]++rest.drop 3
 |[],h=>by simp at h
 |[_],h=>by simp at h
 |[_,_],h=>by simp at h
 |d::e::f::g,_=>by
  rw[KO _ _ (kx _),Hq,KO _ _ (by omega),Pj,KO _ _ (by omega),Pj]
  simp
theorem Zv{base:Nat}{g n b c:Nat}{a:List eN}{rest:fQ}(h:w.ownsRow base t 3 (.slice (some (eI g 0)) b c) b (flat a++rest))(f:a.length=n)(hr:3<=rest.length)(e:eN):
  (((w.setCell (eI g (n*3)) (.string e.1)).setCell (eI g (n*3+1)) (eJ e.2.1)).setCell (eI g (n*3+2)) (eJ e.2.2)).ownsRow base t 3 (.slice (some (eI g 0)) b c) b (flat (a++[e])++rest.drop 3):=by
 have h1:=(h.stored (n*3) (.string e.1)).1;have h2:=(h1.stored (n*3+1) (eJ e.2.1)).1;have h3:=(h2.stored (n*3+2) (eJ e.2.2)).1;have hl:(flat a).length=n*3:=by rw[km,f]
 have d:=goN (flat a) (.string e.1) (eJ e.2.1) (eJ e.2.2) rest hr;rw[hl]at d;rw[d]at h3;rw[my,pC];exact h3
theorem Qi(b off m c0:Nat)(es:List eN)(w:World)(hl:es.length=m)(F:b<w.heap.size)(R:(m+3)*32<=140737488355328)(hc:∀j l,(flat es)[j]?=some l->w.cell? (eI b (off+j))=some l):
  gc 81 #[.slice (some (eI b off)) m c0] w fun e w'=>∃g,e=.returned (.slice (some (eI g 0)) (m+3) (m+3))/\w'.ownsRow w.heap.size 96 3 (.slice (some (eI g 0)) (m+3) (m+3)) (m+3) (flat (es++List.replicate 3 vG))/\ik w w':=by
 obtain⟨G,hi,H,I,J⟩:=iq Iz;have K:Hid (∀j l,(flat es)[j]?=some l->w.cell? (eI b (off+j))=some l):=hc;have a:Hid (es.length=m):=hl;clear hc hl;go_enter func81,ntmps81;go_wp2_with(at_make;refine SZ _ rfl _ _ 55 rfl 0 96 G _ 3 underlying55 hi H I .i64 .i64 _ _ (m+3) rfl rfl rfl rfl ?_ ?_ (tk _) ?_;go_must(rw[J];omega);go_must(unfold maxLen;omega);intro w3 x y;obtain⟨c,z,r⟩:=AF x;have o:=mC (lh w.heap.size w) y;refine DU ?_);refine(show Hid _ from(?_:wpList _ _ _ _ _ _));clear x y;have c1:Hid ((flat es).length=Nat.min m (m+3)*3):=by show _=_;rw[km,a.out,show Nat.min m (m+3)=m from xQ (by omega)]
 have c2:Hid (∀j v,(flat es)[j]?=some v->w3.cell? (((eI b off):Addr).add j)=some v):=fun j v hv=>by rw[oz,o.out.cell (p:=(eI b (off+j))) F];exact K.out j v hv
 have c3:Hid (0+(flat es).length<=c.size):=by show _<=_;rw[km,a.out,r.out];omega
 have c4:Hid ((flat es++c.toList.drop (m*3)).toArray.toList=c.toList.take 0++flat es++c.toList.drop (0+(flat es).length)):=by show _=_;rw[km,a.out];simp
 go_wp2_with(refine rj rfl (.tmp 9) (.tmp 10) 55 55 rfl 96 underlying55 3 Oj w.heap.size 0 (m+3) (m+3) (eI b off) m c0 rfl rfl c 96 z.out (flat es) c1.out c2.out c3.out (iR es) (flat es++c.toList.drop (m*3)).toArray c4.out ?_;intro s A B);have L:ik w s:=o.out.grown B o.out.size (fun k h=>by cases h;exact kx _);have d:(c.toList.drop (m*3)).length=9:=by rw[lz,ng,r.out];omega
 have C:s.ownsRow w.heap.size 96 3 (.slice (some (eI w.heap.size 0)) (m+3) (m+3)) (m+3) (flat es++c.toList.drop (m*3)):=by
  refine⟨by rw[mb,km,a.out,d];omega,.inr ⟨w.heap.size,m+3,_,rfl,kx _,A.out,kx _,by unfold maxLen;omega,?_,?_⟩⟩
  ·simp only[CL,mb,km,a.out,d];omega
  ·simp only
   exact lV (by rw[mb,km,a.out,d];omega)
 have M:Hid (∃rest:fQ,rest.length=9/\s.ownsRow w.heap.size 96 3 (.slice (some (eI w.heap.size 0)) (m+3) (m+3)) (m+3) (flat (es++List.replicate 0 vG)++rest)):=⟨_,d,by simpa using C⟩;clear C d c1 c2 c3 c4 z r A B o;go_wp2
 go_loopw [4] (fun i wr=>∃k:Nat,k<=3/\i=.int .i64 ((m:Int)+k)/\ik w wr/\Hid (∃rest:fQ,rest.length=(3-k)*3/\wr.ownsRow w.heap.size 96 3 (.slice (some (eI w.heap.size 0)) (m+3) (m+3)) (m+3) (flat (es++List.replicate k vG)++rest))) (fun i _=>m+3-(intOf i).toNat)
 case atStart=>exact⟨0,by omega,by simp,L,M.out⟩
 case round=>
  obtain⟨k,hk,rfl,D,t⟩:=hrel;obtain⟨rest,d,f⟩:=t.out;by_cases S:k<3
  ·have T:=fun j=>f.frozenAt j
   obtain⟨n,hn⟩:∃n:Nat,n=m+k:=⟨_,rfl⟩;have N:(m:Int)+(k:Int)=(n:Int):=by omega
   have q:∀j,j<3->∃v,wr.cell? (eI w.heap.size (n*3+j))=some v:=fun j hj=>by
    rw[f.cellAt (n*3+j) (by omega)];exact⟨_,jy (by rw[mb,km,mb,a.out,wk,d];omega)⟩
   obtain⟨U,O⟩:=q 0 (by omega);obtain⟨V,W⟩:=q 1 (by omega);obtain⟨X,e2⟩:=q 2 (by omega);rw[CQ]at O;have Y:(n:Int)<(m:Int)+3:=by omega
   have Z:w.heap.size<wr.heap.size:=eK f rfl;have E:Hid (n=m+k):=hn;have u:Hid _:=f;clear q hn t f;rw[N];go_wp2;refine⟨⟨k+1,by omega,by have:=E.out;go_num,((D.setCell (kx _) _).setCell (kx _) _).setCell (kx _) _,rest.drop 3,by rw[lz,d];omega,?_⟩,by simp[intOf];omega⟩
   have:=Zv (n:=n) u.out (by rw[mb,a.out,wk,E.out]) (by omega) vG
   rw[kC,<-EZ]at this;exact this
  ·have P:k=3:=by omega
   subst P;have Q:rest=[]:=CK (by omega);subst Q;rw[ql]at f;have u:Hid _:=f;clear f t;go_wp2;go_ret;exact⟨_,rfl,u.out,D⟩
theorem Ub(w:World)(g n:Nat):(Builtin.copy_ #[55,55] 3 #[.slice (some (eI g 0)) n n,.slice none 0 0]).run prog w=.ok (eJ 0) w:=by
 have hu:prog.underlying 55=some (.slice 96):=underlying55;have hl:=run_loadCells_list (P:=prog) w;cases hq:prog.info? 96 with
 |none=>have:=Oj;simp[hq]at this
 |some i=>
  simp[Builtin.copy_,SX hu,Builtin.lenOf,Builtin.firstCells,sizeOf,typeInfo,hq];rfl
theorem Uc(w:World):
  gc 81 #[.slice none 0 0] w fun e w'=>∃g,e=.returned (.slice (some (eI g 0)) 3 3)/\w'.ownsRow w.heap.size 96 3 (.slice (some (eI g 0)) 3 3) 3 (flat (List.replicate 3 vG))/\ik w w':=by
 obtain⟨q,hi,s,t,u⟩:=iq Iz;go_enter func81,ntmps81;go_wp2_with(at_make;refine SZ _ rfl _ _ 55 rfl 0 96 q _ 3 underlying55 hi s t .i64 .i64 _ _ 3 rfl rfl rfl rfl ?_ ?_ (tk _) ?_;go_must(rw[u];omega);go_must(unfold maxLen;omega);intro w3 l m;refine DU ?_);refine(show Hid _ from(?_:wpList _ _ _ _ _ _));have x:ik w w3:=(mC (lh w.heap.size w) m).out;have D:=Ub w3 w.heap.size 3;have y:Hid (∃rest:fQ,rest.length=9/\w3.ownsRow w.heap.size 96 3 (.slice (some (eI w.heap.size 0)) 3 3) 3 (flat ([]++List.replicate 0 vG)++rest)):=by
  obtain⟨h1,h2⟩:=l;exact⟨_,h1,h1,by rcases h2 with⟨h,_⟩|⟨g,c,z,hv,_,r⟩;cases h;cases hv;exact .inr ⟨_,_,z,rfl,kx _,r⟩⟩
 clear l m;go_wp2
 go_loopw [4] (fun i wr=>∃k:Nat,k<=3/\i=.int .i64 (k:Int)/\ik w wr/\Hid (∃rest:fQ,rest.length=(3-k)*3/\wr.ownsRow w.heap.size 96 3 (.slice (some (eI w.heap.size 0)) 3 3) 3 (flat ([]++List.replicate k vG)++rest))) (fun i _=>3-(intOf i).toNat)
 case atStart=>exact⟨0,by omega,by simp,x,y.out⟩
 case round=>
  obtain⟨n,hk,rfl,o,d⟩:=hrel;obtain⟨rest,p,a⟩:=d.out;by_cases E:n<3
  ·have F:=fun j=>a.frozenAt j
   have b:∀j,j<3->∃v,wr.cell? (eI w.heap.size (n*3+j))=some v:=fun j hj=>by
    rw[a.cellAt (n*3+j) (by omega)];exact⟨_,jy (by rw[mb,km,mb,wk,p];simp;omega)⟩
   obtain⟨G,A⟩:=b 0 (by omega);obtain⟨H,I⟩:=b 1 (by omega);obtain⟨J,e2⟩:=b 2 (by omega);rw[CQ]at A;have K:(n:Int)<3:=by omega
   have L:w.heap.size<wr.heap.size:=eK a rfl;have f:Hid _:=a;clear b d a;go_wp2;refine⟨⟨n+1,by omega,by go_num,((o.setCell (kx _) _).setCell (kx _) _).setCell (kx _) _,rest.drop 3,by rw[lz,p];omega,?_⟩,by simp[intOf];omega⟩
   have:=Zv (n:=n) f.out (by simp) (by omega) vG
   rw[kC,<-EZ]at this;exact this
  ·have B:n=3:=by omega
   subst B;have C:rest=[]:=CK (by omega);subst C;rw[ql,zR]at a;have f:Hid _:=a;clear a d;go_wp2;go_ret;exact⟨_,rfl,f.out,o⟩
theorem Bh(a:fD)(m c0:Nat)(es:List eN)(w:World)(hl:fT w a m es)(c:(m+3)*32<=140737488355328)(d:m=0->a=none/\c0=0):
  gc 81 #[.slice a m c0] w fun e w'=>∃g,e=.returned (.slice (some (eI g 0)) (m+3) (m+3))/\w'.ownsRow w.heap.size 96 3 (.slice (some (eI g 0)) (m+3) (m+3)) (m+3) (flat (es++List.replicate 3 vG))/\ik w w':=by
 rcases Nat.eq_zero_or_pos m with rfl|hp
 ·obtain⟨rfl,rfl⟩:=d rfl
  have:es=[]:=CK hl.1
  subst this;exact Uc w
 ·obtain⟨b,off,rfl,f,hc⟩:=hl.2 hp
  exact Qi b off m c0 es w hl.1 f c hc
theorem ldE(W:World)(g o:Nat)(x:eN)(c0:W.cell? (eI g o)=some (.string x.1))(c1:W.cell? (eI g (o+1))=some (eJ x.2.1))(c2:W.cell? (eI g (o+2))=some (eJ x.2.2)):(loadVar 96 (eI g o)).run prog W=.ok (.agg #[.string x.1,eJ x.2.1,eJ x.2.2]) W:=by
 unfold loadVar
 go_simp
theorem Ud(op:BinOp)(W:World)(x y:Operand)(X a:Array Value):(eqGuard op 96 x y (.agg X) (.agg a)).run prog W=.ok () W:=HR (by kernel_rfl) op W x y X a
theorem Ue(g:Nat)(a:fD)(m c0:Nat)(es:List eN)(w:World)(hl:fT w a m es)(B:(m+3)*32<=140737488355328)(v:m=0->a=none/\c0=0)(y:Nat)
  (mG:w.ownsRow y 96 3 (.slice (some (eI g 0)) (m+3) (m+3)) (m+3) (flat (es++List.replicate 3 vG))):
  gc 83 #[.slice (some (eI g 0)) (m+3) (m+3),.slice a m c0] w (pB (.bool true) w):=by
 have s:=Bh a m c0 es w hl B v;obtain⟨b,t⟩:∃b,b=es++List.replicate 3 vG:=⟨_,rfl⟩;have C:Hid (b.length=m+3):=by rw[t,mb,hl.1,wk];rfl
 rw[<-t]at mG s;have D:Hid (w.ownsRow y 96 3 (.slice (some (eI g 0)) (m+3) (m+3)) (m+3) (flat b)):=mG;have u:g<w.heap.size:=eK mG rfl;clear mG t hl v;go_enter func83,ntmps83;go_wp2_with fail;refine s.mono ?_;rintro e c ⟨d,rfl,z,f⟩;have E:Hid (c.ownsRow w.heap.size 96 3 (.slice (some (eI d 0)) (m+3) (m+3)) (m+3) (flat b)):=z;clear s z;go_wp2
 go_loopw [6] (fun i wr=>∃k:Nat,k<=m+3/\i=.int .i64 (k:Int)/\(∃q,wr=c.drewN q)) (fun i _=>m+3-(intOf i).toNat)
 case atStart=>exact⟨0,by omega,rfl,⟨0,rfl⟩⟩
 case round=>
  obtain⟨k,hk,rfl,⟨q,rfl⟩⟩:=hrel;by_cases F:k<m+3
  ·have A:k<b.length:=by rw[C.out];exact F
   obtain⟨h,j,l⟩:=ld (off:=0) (jn D.out) A;obtain⟨q0,o,r⟩:=ld (off:=0) (jn E.out) A;rw[iP]at h j l q0 o r;obtain⟨x,hx⟩:∃x,x=b[k]:=⟨_,rfl⟩;rw[<-hx]at h j l q0 o r;have G:Hid (∀q,(loadVar 96 (eI g (k*3))).run prog (c.drewN q)=.ok (.agg #[.string x.1,eJ x.2.1,eJ x.2.2]) (c.drewN q)):=fun q=>ldE _ g (k*3) x ((f.cell (p:=(eI g (k*3))) u).trans h) ((f.cell (p:=(eI g (k*3+1))) u).trans j) ((f.cell (p:=(eI g (k*3+2))) u).trans l);have H:Hid (∀q,(loadVar 96 (eI d (k*3))).run prog (c.drewN q)=.ok (.agg #[.string x.1,eJ x.2.1,eJ x.2.2]) (c.drewN q)):=fun q=>ldE _ d (k*3) x q0 o r;have I:(k:Int)<(m:Int)+3:=by omega
   clear h j l q0 o r hx;go_wp2;refine Zj (by kernel_rfl) (by kernel_rfl) ?_
   iterate 3 quiet_step (fail)
   refine iT rfl 96 _ rfl (eI g (k*3)) rfl (.agg #[.string x.1,eJ x.2.1,eJ x.2.2]) (by rintro _ ⟨n,rfl⟩;rw[Fb];exact G.out _) ?_
   go_frame
   iterate 3 quiet_step (fail)
   refine iT rfl 96 _ rfl (eI d (k*3)) rfl (.agg #[.string x.1,eJ x.2.1,eJ x.2.2]) (by rintro _ ⟨n,rfl⟩;rw[Fb];exact H.out _) ?_
   go_frame
   refine sN rfl .neq 96 96 _ _ rfl (.agg #[.string x.1,eJ x.2.1,eJ x.2.2]) (.agg #[.string x.1,eJ x.2.1,eJ x.2.2]) (.bool (!(decide (x=x)))) rfl rfl (by rintro _ ⟨n,rfl⟩;exact Ud _ _ _ _ _ _) (by rintro _ ⟨n,rfl⟩;exact TK _ x x) ?_
   go_frame
   refine wpQuiet_nil ?_;rintro _ ⟨nq,rfl⟩;simp only[decide_true,Bool.not_true];go_wp2;go_roundw
   case rel=>exact⟨k+1,by omega,by go_num,⟨_,rfl⟩⟩
   case measure=>simp[intOf];omega
  ·go_wp2
   go_ret;exact⟨rfl,iQ f q⟩
theorem IR(e:Int)(w:World):gc 22 #[eJ e] w fun r w'=>r=.returned (eJ e)/\w'=w:=by
 go_enter func22,ntmps22;go_wp2;go_ret;exact⟨rfl,rfl⟩
abbrev gf:=fD×Nat×Nat
def fP (h:gf):Value:=.slice h.1 h.2.1 h.2.2
def Bi (i:Nat):eN:=(ByteArray.empty,-1000-((i / 4:Nat):Int),0)
def Full (w:World)(i:Nat)(h:gf):Prop:=∀j,j<h.2.1->∃g,h.1=some ⟨g,0,none⟩/\w.cell? ⟨g,j*3,none⟩=some (.string (Bi i).1)/\w.cell? ⟨g,j*3+1,none⟩=some (.int .i64 (Bi i).2.1)/\w.cell? ⟨g,j*3+2,none⟩=some (.int .i64 (Bi i).2.2)
theorem Zw:(prog.info? 55).map (fun i=>(i.zero,i.size,i.bytes))=some (some (.slice none 0 0),1,24):=by kernel_rfl
def Zx (w:World)(la:fD)(m:Nat):Prop:=(la=none->m=0)/\∀b,la=some b->∃g xs,b=⟨g,0,none⟩/\w.ownsRow 0 96 3 (.slice la m m) m xs
theorem jF(W:World)(cs:fQ)(t:gi):∀j a,cs[j]?=some a->(W.alloc (.cells cs.toArray t)).cell? (((eI W.heap.size 0):Addr).add j)=some a:=by
 intro j a h;rw[oz,iP]
 have:=su W (.cells cs.toArray t)
 unfold World.cell?;rw[this];simpa using h
theorem gI:∀b∈[Value.slice a n c],b.oneCell'=true:=by intro b hu;simp at hu;subst hu;rfl
def vH (q:Nat):eN:=(⟨#[]⟩,-1000-(q:Int),0)
def dec (w:World)(la:fD)(m k q:Nat):Prop:=∀b,la=some b->∃g rest,b=⟨g,0,none⟩/\rest.length=(m-k)*3/\w.ownsRow 0 96 3 (.slice la m m) m (flat (List.replicate k (vH q))++rest)
theorem eA.refl(w:World):eA F w w:=⟨rfl,rfl,rfl,kx _,fun _ _ _=>rfl⟩
def ur (w w':World)(W q:Nat)(cs:Array Value)(ea:fD)(ec:Nat)(la:fD)(m:Nat)(hs:List gf):Prop:=
 ∃a c4 ga c d e f h,w'.heap[W]?=some (.cells (cs.setIfInBounds 9 (.slice (some ⟨a,0,none⟩) (4*q+4) c4)) 71 (0,0))/\
  w'.ownsRow 0 55 1 (.slice (some ⟨a,0,none⟩) (4*q+4) c4) (4*q+4) ((hs++[(la,m,m),(some ⟨ga,0,none⟩,m+1,c),(some ⟨d,0,none⟩,m+2,e),(some ⟨f,0,none⟩,m+3,h)]).map fP)/\
  (∀b,la=some b->∃g,b=⟨g,0,none⟩/\w'.ownsRow 0 96 3 (.slice la m m) m (flat (List.replicate m (vH q))))/\
  w'.ownsRow w.heap.size 96 3 (.slice (some ⟨ga,0,none⟩) (m+1) c) (m+1) (flat (List.replicate (m+1) (vH q)))/\
  w'.ownsRow w.heap.size 96 3 (.slice (some ⟨d,0,none⟩) (m+2) e) (m+2) (flat (List.replicate (m+2) (vH q)))/\
  w'.ownsRow w.heap.size 96 3 (.slice (some ⟨f,0,none⟩) (m+3) h) (m+3) (flat (List.replicate (m+3) (vH q)))/\
  ((some a:Option Nat)=(Value.slice ea (4*q) ec).ownBlock\/w.heap.size<=a)/\
  eA (fun x=>x=W\/some x=(Value.slice ea (4*q) ec).ownBlock\/some x=(Value.slice la m m).ownBlock) w w'
theorem rB{w S f:World}{cs q:Array Value}{i m:Option Nat}{n c g j o:Nat}{xs r:fQ}(hW:S.heap[W]?=some (.cells cs 71 (0,0)))(row:S.ownsRow 0 55 1 (.slice a n c) n xs)
  (p:∀x,(Value.slice a n c).ownBlock=some x->some x=i\/w.heap.size<=x)(hk:eA (fun x=>x=W\/some x=i\/some x=m) w S)
  (P:f.heap[W]?=some (.cells q 71 (0,0))/\f.ownsRow 0 55 1 (.slice (some (eI g 0)) j o) j r/\((some g:Option Nat)=(Value.slice a n c).ownBlock\/S.heap.size<=g)/\eA (fun k=>k=W\/some k=(Value.slice a n c).ownBlock) S f):
  (∀x,(Value.slice (some (eI g 0)) j o).ownBlock=some x->some x=i\/w.heap.size<=x)/\eA (fun x=>x=W\/some x=i\/some x=m) w f/\
   ∀{b:Nat} {v:Value} {l:Nat} {ys:fQ},S.ownsRow b 96 3 v l ys->f.ownsRow b 96 3 v l ys:=by
 obtain⟨t,u,s,d⟩:=P;refine⟨fun x hx=>?_,⟨d.os.trans hk.os,d.tape.trans hk.tape,d.output.trans hk.output,wl hk.size d.size,fun x hx hn=>?_⟩,fun hr=>iW hr d hW (by decide) (fun g hg=>px hr row (by decide) hg)⟩
 ·simp only[Value.ownBlock,mZ]at hx
  subst hx;rcases s with e|e
  ·exact p _ e.symm
  ·exact .inr (wl hk.size e)
 ·rw[d.block x (lO hx hk.size) ?_]
  ·exact hk.block x hx hn
  ·rintro(e|e)
   ·exact hn (.inl e)
   ·rcases p x e.symm with h|h
    ·exact hn (.inr (.inl h))
    ·omega
theorem rZ(W q:Nat)(cs:Array Value)(ea:fD)(ec m:Nat)(la:fD)(hs:List gf)(w:World)(hW:w.heap[W]?=some (.cells cs 71 (0,0)))(K:cs[9]?=some (.slice ea (4*q) ec))(hn:hs.length=4*q)(bI:4*q<=1000000000)
  (row:w.ownsRow 0 55 1 (.slice ea (4*q) ec) (4*q) (hs.map fP))(hm:m<=16)(hl:Zx w la m):
  gc 44 #[.pointer (some (eI W 8)),.slice la m m] w fun e w'=>e=.returned (.tuple #[])/\ur w w' W q cs ea ec la m hs:=by
 obtain⟨ai,hi,aj,ak,al⟩:=iq Iz;obtain⟨L,hS,M,N,O⟩:=iq Zw;have be:W<w.heap.size:=(nX.1 hW).1;have bJ:w.cell? (eI W 9)=some (.slice ea (4*q) ec):=by simp[World.cell?,hW,K]
 have P:Hid (Zx w la m):=hl;have Q:Hid (w.ownsRow 0 55 1 (.slice ea (4*q) ec) (4*q) (hs.map fP)):=row;have bf:Hid (∀B:Obj,dec (w.alloc B) la m 0 q):=fun B b c=>by
  obtain⟨g,xs,h1,h2⟩:=hl.2 b c;exact⟨g,xs,h1,by rw[h2.1,Nat.sub_zero],by simpa [flat]using h2.alloc B⟩
 have R:Hid (∀g,(Value.slice la m m).ownBlock=some g->g<w.heap.size/\g≠W):=fun g hg=>by
  cases la with
  |none=>cases hg
  |some b=>
   obtain⟨bg,xs,h1,h2⟩:=hl.2 b rfl;refine⟨eK h2 hg,fun e=>?_⟩;subst e;exact fX h2 hW (by decide) hg.symm
 have am:9<cs.size:=(nX.1 K).1;have bh:∀v:Value,(cs.setIfInBounds 9 v)[9]?=some v:=fun v=>by simp[am]
 clear hl row;go_enter func44,ntmps44;go_wp2
 go_loopw [5] (fun i wr=>∃k:Nat,k<=m/\i=.int .i64 (k:Int)/\Hid (eA (fun x=>some x=(Value.slice la m m).ownBlock) (w.alloc (.cells #[.string hZ,eJ (-1000-(q:Int)),eJ 0] 96)) wr)/\Hid (dec wr la m k q)) (fun i _=>m-(intOf i).toNat)
 case atStart=>exact⟨0,tk _,rfl,eA.refl _,bf.out _⟩
 case round=>
  obtain⟨k,hk,rfl,d,aJ⟩:=hrel;have hkb:∀x,x<w.heap.size+1->some x≠(Value.slice la m m).ownBlock->wr.heap[x]?=(w.alloc (.cells #[.string hZ,eJ (-1000-(q:Int)),eJ 0] 96)).heap[x]?:=fun x hx hne=>d.out.block x (by simpa using hx) hne;have H:wr.heap[w.heap.size]?=some (.cells #[.string hZ,eJ (-1000-(q:Int)),eJ 0] 96 (0,0)):=by
   rw[hkb w.heap.size (by omega) (fun e=>by have:=(R.out _ e.symm).1;omega)];exact su _ _
  have bi:wr.cell? (eI w.heap.size 0)=some (.string hZ):=by simp[World.cell?,H]
  have bj:wr.cell? (eI w.heap.size 1)=some (eJ (-1000-(q:Int))):=by simp[World.cell?,H]
  have bk:wr.cell? (eI w.heap.size 2)=some (eJ 0):=by simp[World.cell?,H]
  have bl:Hid _:=H;clear H;by_cases bK:k<m
  ·cases la with
   |none=>have:=P.out.1 rfl;omega
   |some b=>
    obtain⟨g,rest,rfl,aK,S⟩:=aJ.out b rfl;have bL:=fun j=>S.frozenAt j;have T:∀j,j<3->∃v,wr.cell? (eI g (k*3+j))=some v:=fun j hj=>by
     rw[S.cellAt (k*3+j) (by omega)];exact⟨_,jy (by rw[mb,km,wk,aK];omega)⟩
    obtain⟨bM,bm⟩:=T 0 (by omega);obtain⟨bn,bN⟩:=T 1 (by omega);obtain⟨bo,bO⟩:=T 2 (by omega);rw[CQ]at bm;have bQ:(k:Int)<(m:Int):=by omega
    have bp:Hid _:=S;have bR:g≠w.heap.size:=fun e=>by have:=(R.out g rfl).1;omega
    clear T S hkb;go_wp2;go_roundw
    case rel=>
     refine⟨k+1,by omega,by go_num,?_,?_⟩
     ·exact⟨d.out.os,d.out.tape,d.out.output,by simpa using d.out.size,fun x hx hne=>by
       have an:x≠g:=fun e=>hne (by rw[e];rfl);rw[jQ _ _ _ _ an,jQ _ _ _ _ an,jQ _ _ _ _ an];exact d.out.block x hx hne⟩
     ·intro b c
      cases c;refine⟨g,rest.drop 3,rfl,by rw[lz,aK];omega,?_⟩
      have:=Zv (n:=k) bp.out (by simp) (by omega) (vH q)
      rw[<-EZ]at this;exact this
    case measure=>simp[intOf];omega
  ·have bq:k=m:=by omega
   subst bq;have ao:Hid (∀b,la=some b->∃g,b=(eI g 0)/\wr.ownsRow 0 96 3 (.slice la k k) k (flat (List.replicate k (vH q)))):=fun b c=>by
    obtain⟨g,rest,h1,h2,h3⟩:=aJ.out b c
    have:rest=[]:=CK (by rw[h2];omega)
    subst this;exact⟨g,h1,by simpa using h3⟩
   have ap:Hid (la=none->k=0/\k=0):=fun h=>⟨P.out.1 h,P.out.1 h⟩;have aq:Hid ((flat (List.replicate k (vH q))).length=k*3):=by show _=_;rw[km,wk]
   have ar:Hid (∀au:World,(∀x,x<wr.heap.size->au.heap[x]?=wr.heap[x]?)->∀b,la=some b->∀j U,(flat (List.replicate k (vH q)))[j]?=some U->au.cell? (b.add j)=some U):=fun au br b c j U hu=>by
    obtain⟨g,rfl,ho⟩:=ao.out b c;subst c;have h1:=ho.cells (g:=g) rfl j U hu;rw[oz]at h1 ⊢;rw[jP (a:=(eI g (0+j))) (br g (eK ho rfl))];exact h1
   have bS:((k:Int)<(k:Int))=False:=by simp
   go_wp2_with(at_builtin;refine WV _ rfl (.tmp 27) (.tmp 29) 55 rfl 96 ai _ 3 32 underlying55 hi aj ak al rfl (by decide) la k k (flat (List.replicate k (vH q))) rfl ap.out aq.out (ar.out _ (jz _ _)) (eI wr.heap.size 0) 1 1 (ml (vH q)) rfl rfl (ra wr (vH q) _ _ rfl) (pp _) (by omega) (by unfold maxLen;omega) (by omega) ?_);intro bT wa av aL;obtain⟨ga,t,rfl⟩:=fj av (by omega);have aw:w.heap.size<wr.heap.size:=(nX.1 bl.out).1;have y:Hid (ik wr wa):=((lh _ _).alloc (kx _) _).grown aL (by simp) (fun k h=>by cases h);have bs:Hid (wa.ownsRow (wr.heap.size+1) 96 3 (.slice (some (eI ga 0)) (k+1) t) (k+1) (flat (List.replicate (k+1) (vH q)))):=by rw[EZ,my,pC];exact av
   have aM:=(y.out.cell (p:=(eI w.heap.size 0)) aw).trans bi;have aN:=(y.out.cell (p:=(eI w.heap.size 1)) aw).trans bj;have aO:=(y.out.cell (p:=(eI w.heap.size 2)) aw).trans bk;have bt:wr.heap.size<=wa.heap.size:=y.out.size;have bu:Hid (∀o:Obj,∀x,x<wr.heap.size->(wa.alloc o).heap[x]?=wr.heap[x]?):=fun o x hx=>(jz wa o x (by omega)).trans (y.out.block x hx);clear aL av;go_wp2_with(at_builtin;refine WV _ rfl (.tmp 31) (.tmp 34) 55 rfl 96 ai _ 3 32 underlying55 hi aj ak al rfl (by decide) la k k (flat (List.replicate k (vH q))) rfl ap.out aq.out (ar.out _ (bu.out _)) (eI wa.heap.size 0) 2 2 (flat [vH q,vH q]) rfl rfl (jF wa (flat [vH q,vH q]) 96) (iR _) (by omega) (by unfold maxLen;omega) (by omega) ?_);intro bU wb ax aP;obtain⟨D,E,rfl⟩:=fj ax (by omega);have A:Hid (ik wa wb):=((lh _ _).alloc (kx _) _).grown aP (by simp) (fun k h=>by cases h);have bv:Hid (wb.ownsRow (wa.heap.size+1) 96 3 (.slice (some (eI D 0)) (k+2) E) (k+2) (flat (List.replicate (k+2) (vH q)))):=by rw[<-WA,my];exact ax
   have bw:=(A.out.cell (p:=(eI w.heap.size 0)) (by show w.heap.size<_;omega)).trans aM;have bx:=(A.out.cell (p:=(eI w.heap.size 1)) (by show w.heap.size<_;omega)).trans aN;have bz:=(A.out.cell (p:=(eI w.heap.size 2)) (by show w.heap.size<_;omega)).trans aO;have bV:wa.heap.size<=wb.heap.size:=A.out.size;have bA:Hid (∀o:Obj,∀x,x<wr.heap.size->(wb.alloc o).heap[x]?=wr.heap[x]?):=fun o x hx=>(jz wb o x (by omega)).trans ((A.out.block x (by omega)).trans (y.out.block x hx));clear aP ax aM aN aO;go_wp2_with(at_builtin;refine WV _ rfl (.tmp 36) (.tmp 40) 55 rfl 96 ai _ 3 32 underlying55 hi aj ak al rfl (by decide) la k k (flat (List.replicate k (vH q))) rfl ap.out aq.out (ar.out _ (bA.out _)) (eI wb.heap.size 0) 3 3 (flat [vH q,vH q,vH q]) rfl rfl (jF wb (flat [vH q,vH q,vH q]) 96) (iR _) (by omega) (by unfold maxLen;omega) (by omega) ?_);intro bW wc ay aQ;obtain⟨V,X,rfl⟩:=fj ay (by omega);have Y:Hid (ik wb wc):=((lh _ _).alloc (kx _) _).grown aQ (by simp) (fun k h=>by cases h);have bB:Hid (wc.ownsRow (wb.heap.size+1) 96 3 (.slice (some (eI V 0)) (k+3) X) (k+3) (flat (List.replicate (k+3) (vH q)))):=by rw[<-WA,my];exact ay
   have bX:wb.heap.size<=wc.heap.size:=Y.out.size;clear aQ ay bw bx bz;have u:Hid (ik wr wc):=(y.out.trans (A.out.mono bt)).trans (Y.out.mono (by omega));have F:wc.heap[W]?=some (.cells cs 71 (0,0)):=by
    rw[u.out.block W (by omega),hkb W (by omega) (fun e=>(R.out W e.symm).2 rfl),mA _ _ _ be];exact hW
   have Z:Hid (wc.ownsRow 0 55 1 (.slice ea (4*q) ec) (4*q) (hs.map fP)):=eQ Q.out (fun g hg=>by
    have hl:=eK Q.out hg;rw[u.out.block g (by omega),hkb g (by omega) (fun e=>?_),mA _ _ _ hl];cases la with
    |none=>cases e
    |some b=>
     obtain⟨bg,_,ho⟩:=ao.out b rfl;obtain⟨bY,bZ⟩:=ww Q.out hg;have ca:=R.out g e.symm;obtain⟨aa,cb,h1,h2⟩:=P.out.2 b rfl;exact px Q.out h2 (by decide) hg e)
   have cc:W<wc.heap.size:=by omega
   have bC:wc.cell? (eI W 9)=some (.slice ea (4*q) ec):=by simp[World.cell?,F,K]
   have f9:wc.frozen? (eI W 9)=false:=by simp[World.frozen?,F]
   go_wp2_with(at_builtin;refine jp rfl (.tmp 46) (.tmp 48) 65 rfl 0 55 L _ 1 24 underlying65 hS M N O rfl (by decide) (.slice ea (4*q) ec) (4*q) (hs.map fP) rfl (pE Z.out _) (eI wc.heap.size 0) 1 1 [.slice la k k] rfl rfl (one_cell _ _ _ _ rfl) gI (by unfold maxLen;omega) (by omega) (tk _) ?_);intro bn G az ab aR;obtain⟨aS,c1,rfl⟩:=fj az (by omega);have aT:=ma (i:=9) F Z.out (by decide) (jz _ _) (by simp) ⟨rfl,rfl,rfl⟩ az ab aR (by omega);have aA:=sq F (jz _ _) (by simp) ab (fX Z.out F (by decide));have cd:wc.heap.size<=G.heap.size:=by have:=ab.size;simp at this;omega
   have bD:G.cell? (eI W 9)=some (.slice ea (4*q) ec):=by simp[World.cell?,aA,K]
   have f91:G.frozen? (eI W 9)=false:=by simp[World.frozen?,aA]
   have f:Hid _:=aT;have ce:W<G.heap.size:=by omega
   clear az ab aR aT aA bC f9;go_wp2_with(at_builtin;refine jp rfl (.tmp 56) (.tmp 58) 65 rfl 0 55 L _ 1 24 underlying65 hS M N O rfl (by decide) (.slice (some (eI aS 0)) (4*q+1) c1) (4*q+1) (hs.map fP++[.slice la k k]) rfl (pE f.out.2.1 _) (eI G.heap.size 0) 1 1 [.slice (some (eI ga 0)) (k+1) t] rfl rfl (one_cell _ _ _ _ (by simp)) gI (by unfold maxLen;omega) (by omega) (tk _) ?_);intro bo C aB ac aU;obtain⟨aa,c2,rfl⟩:=fj aB (by omega);have aV:C.ownsRow 0 55 1 (.slice (some (eI aa 0)) (4*q+1+1) c2) (4*q+1+1) (hs.map fP++[.slice la k k]++[.slice (some (eI ga 0)) (k+1) t]):=by simpa using aB
   have aW:=ma (i:=9) f.out.1 f.out.2.1 (by decide) (jz _ _) (by simp) ⟨rfl,rfl,rfl⟩ aV ac aU (by simp);have aC:=sq f.out.1 (jz _ _) (by simp) ac (fX f.out.2.1 f.out.1 (by decide));have cf:G.heap.size<=C.heap.size:=by have:=ac.size;simp at this;omega
   have bE:C.cell? (eI W 9)=some (.slice (some (eI aS 0)) (4*q+1) c1):=by simp[World.cell?,aC,bh]
   have f92:C.frozen? (eI W 9)=false:=by simp[World.frozen?,aC]
   have r:Hid _:=aW;have cg:W<C.heap.size:=by omega
   clear aB aV ac aU aW aC bD f91;go_wp2_with(at_builtin;refine jp rfl (.tmp 66) (.tmp 68) 65 rfl 0 55 L _ 1 24 underlying65 hS M N O rfl (by decide) (.slice (some (eI aa 0)) (4*q+1+1) c2) (4*q+1+1) (hs.map fP++[.slice la k k]++[.slice (some (eI ga 0)) (k+1) t]) rfl (pE r.out.2.1 _) (eI C.heap.size 0) 1 1 [.slice (some (eI D 0)) (k+2) E] rfl rfl (one_cell _ _ _ _ (by simp)) gI (by unfold maxLen;omega) (by omega) (tk _) ?_);intro ch w3 aD ad aX;obtain⟨g3,c3,rfl⟩:=fj aD (by omega);have aY:w3.ownsRow 0 55 1 (.slice (some (eI g3 0)) (4*q+1+1+1) c3) (4*q+1+1+1) (hs.map fP++[.slice la k k]++[.slice (some (eI ga 0)) (k+1) t]++[.slice (some (eI D 0)) (k+2) E]):=by simpa using aD
   have aZ:=ma (i:=9) r.out.1 r.out.2.1 (by decide) (jz _ _) (by simp) ⟨rfl,rfl,rfl⟩ aY ad aX (by simp);have aE:=sq r.out.1 (jz _ _) (by simp) ad (fX r.out.2.1 r.out.1 (by decide));have ci:C.heap.size<=w3.heap.size:=by have:=ad.size;simp at this;omega
   have bF:w3.cell? (eI W 9)=some (.slice (some (eI aa 0)) (4*q+1+1) c2):=by simp[World.cell?,aE,am]
   have f93:w3.frozen? (eI W 9)=false:=by simp[World.frozen?,aE]
   have s:Hid _:=aZ;have cj:W<w3.heap.size:=by omega
   clear aD aY ad aX aZ aE bE f92;go_wp2_with(at_builtin;refine jp rfl (.tmp 76) (.tmp 78) 65 rfl 0 55 L _ 1 24 underlying65 hS M N O rfl (by decide) (.slice (some (eI g3 0)) (4*q+1+1+1) c3) (4*q+1+1+1) (hs.map fP++[.slice la k k]++[.slice (some (eI ga 0)) (k+1) t]++[.slice (some (eI D 0)) (k+2) E]) rfl (pE s.out.2.1 _) (eI w3.heap.size 0) 1 1 [.slice (some (eI V 0)) (k+3) X] rfl rfl (one_cell _ _ _ _ (by simp)) gI (by unfold maxLen;omega) (by omega) (tk _) ?_);intro ck I aF aG bb;obtain⟨J,c4,rfl⟩:=fj aF (by omega);have bc:I.ownsRow 0 55 1 (.slice (some (eI J 0)) (4*q+1+1+1+1) c4) (4*q+1+1+1+1) (hs.map fP++[.slice la k k]++[.slice (some (eI ga 0)) (k+1) t]++[.slice (some (eI D 0)) (k+2) E]++[.slice (some (eI V 0)) (k+3) X]):=by simpa using aF
   have bd:=ma (i:=9) s.out.1 s.out.2.1 (by decide) (jz _ _) (by simp) ⟨rfl,rfl,rfl⟩ bc aG bb (by simp);have aH:=sq s.out.1 (jz _ _) (by simp) aG (fX s.out.2.1 s.out.1 (by decide));have cl:I.cell? (eI W 9)=some (.slice (some (eI g3 0)) (4*q+1+1+1) c3):=by simp[World.cell?,aH,am]
   have f94:I.frozen? (eI W 9)=false:=by simp[World.frozen?,aH]
   have aI:Hid _:=bd;clear aF bc aG bb bd aH bF f93;have bG:Hid (eA (fun x=>x=W\/some x=(Value.slice ea (4*q) ec).ownBlock\/some x=(Value.slice la k k).ownBlock) w wc):=by
    have z:=d.out.size;simp at z;exact⟨u.out.os.trans d.out.os,u.out.tape.trans d.out.tape,u.out.output.trans d.out.output,by have:=u.out.size;omega,fun x hx hne=>by rw[u.out.block x (by omega),hkb x (by omega) (fun e=>hne (.inr (.inr e))),mA _ _ _ hx]⟩
   have ae:=rB F Z.out (fun x hx=>.inl hx.symm) bG.out f.out;have af:=rB f.out.1 f.out.2.1 ae.1 ae.2.1 r.out;have ag:=rB r.out.1 r.out.2.1 af.1 af.2.1 s.out;have ah:=rB s.out.1 s.out.2.1 ag.1 ag.2.1 aI.out;have bH:Hid (ur w (I.setCell (eI W 9) (.slice (some (eI J 0)) (4*q+1+1+1+1) c4)) W q cs ea ec la k hs):=by
    have all:∀{b:Nat} {v:Value} {l:Nat} {ys:fQ},wc.ownsRow b 96 3 v l ys->(I.setCell (eI W 9) (.slice (some (eI J 0)) (4*q+1+1+1+1) c4)).ownsRow b 96 3 v l ys:=fun h=>ah.2.2 (ag.2.2 (af.2.2 (ae.2.2 h)));refine⟨J,c4,ga,t,D,E,V,X,?_,?_,fun b c=>?_,?_,?_,?_,ah.1 J rfl,ah.2.1⟩
    ·have:=aI.out.1
     simpa using this
    ·have:=aI.out.2.1
     simpa [fP]using this
    ·obtain⟨g,h1,h2⟩:=ao.out b c
     exact⟨g,h1,all (eQ h2 (fun x hx=>u.out.block x (eK h2 hx)))⟩
    ·have h:=bs.out
     exact pj (all (eQ h (fun x hx=>by
      have hl:=eK h hx;rw[Y.out.block x (by omega),A.out.block x hl]))) (by omega)
    ·have h:=bv.out
     exact pj (all (eQ h (fun x hx=>Y.out.block x (eK h hx)))) (by omega)
    ·exact pj (all bB.out) (by omega)
   clear ae af ag ah;go_wp2;go_end0;exact⟨rfl,bH.out⟩
end Go.Proofs.YtlgidcmmgohagaaGreat
