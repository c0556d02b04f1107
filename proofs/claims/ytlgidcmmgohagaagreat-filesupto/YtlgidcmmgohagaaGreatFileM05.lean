/- What is proved here: 'holds'. -/
import Derived.Test.YtlgidcmmgohagaaGreatFileM04
import Derived.Laws.OwnMore
import Derived.ArgAppend
namespace Go.Proofs.YtlgidcmmgohagaaGreat
open Go.RowKit Go.Sort Go.Shelf Go.Proofs.Tryz
set_option linter.unusedVariables false
set_option maxRecDepth 100000
set_option maxHeartbeats 16000000
variable {W c g j n r s:Nat}{ei:List Ob}{c10 c11 c5 c6 c7 c8 c9 v:Value}{a:e5}{F:Nat->Prop}{xs:fE}{t:fL}{w:World}
variable {ft:z1}
def e9 (e:eD):eD:=(e.1,e.2.1,e.2.2-1)
structure sy (o x:Ob):Prop where
 kind:x.kind=o.kind
 data:o.kind=1->x.data=o.data
 eG:o.kind=2->x.eG=o.eG.map e9
 high:x.high=o.high
 none:o.kind=1->x.eG=[]
 empty:o.kind=2->x.data=ByteArray.empty
theorem yl(h:fK ft F w s ei)(j:Nat)(hj:j<ei.length)(hk:ei[j].kind=1):
  eK 40 #[fj s,ed ((j:Int)+1)] w (ml (.tuple #[.string ei[j].data,ed 0]) w):=by
 refine(rQ h ((j:Int)+1)).mono fun e w' ⟨hf,a⟩=>⟨?_,a⟩;rcases hf with⟨h1,_⟩|⟨b,c,d,_,h2⟩
 ·rw[o0 hj]at h1;exact absurd hk h1
 ·have:b=j:=by omega
  subst this;exact h2
theorem AR(h:fK ft F w s ei)(j:Nat)(hj:j<ei.length)(hk:ei[j].kind=2):
  eK 43 #[fj s,ed ((j:Int)+1)] w fun e w'=>∃g,e=.returned (.tuple #[.slice (some (eb g 0)) ei[j].eG.length ei[j].eG.length,ed 0])/\
   w'.ownsRow w.heap.size 96 3 (.slice (some (eb g 0)) ei[j].eG.length ei[j].eG.length) ei[j].eG.length (flat ei[j].eG)/\gS w w':=by
 refine(tY h ((j:Int)+1)).mono fun e w' ⟨hf,a⟩=>?_;rcases hf with⟨h1,_⟩|⟨b,c,d,_,g,h2,h3⟩
 ·rw[o0 hj]at h1;exact absurd hk h1
 ·have:b=j:=by omega
  subst this;exact⟨g,h2,h3,a⟩
section
variable {F G Fs:Nat->Prop}{w:World}{W s r:Nat}{ia ka pa:e5}{ic kc pc:Nat}{ids:List Int}{known:List Bool}{paths:List Int}{c5 c6 c7 c8 c9 c10 c11:Value}{ep ei:List Ob}
theorem GV(h:e8 F w W s r ia ka pa ic kc pc ids known paths c5 c6 c7 c8 c9 c10 c11)(hr:eU G w r ep)(hs:fK ft Fs w s ei)(j:Nat)(hj:j<ei.length)(f:j<ep.length)(hk:ei[j].kind=1)(hx:sy ei[j] ep[j]):
  eK 80 #[fj W,ed (j:Int),ed ((j:Int)+1)] w (ml (.tuple #[.slice none 0 0,.bool true]) w):=by
 have n:=h.c0;have o:=h.c1;have q:=h.lt;obtain⟨t,u,a⟩:=hr;have v:=a.c0;have x:=a.lt;have hm:=a.many;obtain⟨g,rfl,y,q0,i,z,A⟩:=iG a.row rfl f;have hd:=hx.data hk;have mC:=hx.kind;rw[mC,hk]at q0;rw[hd]at i;have b:∀B,gS w (w.alloc B):=fun B=>(i7 _ _).alloc (io _) _;have c:=fun(B:Obj)=>yl (hs.below (b B) (fun _ _ h=>h)) j hj hk;have k:Hid (∀B:Obj,eK 40 #[fj s,ed ((j:Int)+1)] (w.alloc B) fun e w'=>e=.returned (.tuple #[.string ei[j].data,ed 0])/\Below (w.alloc B).heap.size (w.alloc B) w'):=c;clear h a hd mC hx hs hk c;go_enter func80,ntmps80;go_wp2_with fail;refine(k.out _).mono ?_;rintro e C ⟨rfl,d⟩;have l:=d.cell (p:=(eb w.heap.size 1)) (by simp);have m:=(b _).trans (d.mono (by simp));simp at l;go_wp2;go_ret2;exact⟨rfl,m⟩
theorem KR(h:e8 F w W s r ia ka pa ic kc pc ids known paths c5 c6 c7 c8 c9 c10 c11)(hr:eU G w r ep)(hs:fK ft Fs w s ei)(j:Nat)(hj:j<ei.length)(J:j<ep.length)(hk:ei[j].kind=2)(hx:sy ei[j] ep[j]):
  eK 80 #[fj W,ed (j:Int),ed ((j:Int)+1)] w fun e w'=>∃g,e=.returned (.tuple #[.slice (some (eb g 0)) ei[j].eG.length ei[j].eG.length,.bool true])/\
   w'.ownsRow w.heap.size 96 3 (.slice (some (eb g 0)) ei[j].eG.length ei[j].eG.length) ei[j].eG.length (flat ei[j].eG)/\gS w w':=by
 have aa:=h.c0;have ab:=h.c1;have ac:=h.lt;obtain⟨ad,ae,b⟩:=hr;have af:=b.c0;have ag:=b.lt;have hm:=b.many;obtain⟨g,rfl,ah,q0,ai,u,aj⟩:=iG b.row rfl J;have f:=b.xe _ (iF J);have v:=hx.eG hk;have mC:=hx.kind;rw[mC,hk]at q0;have K:∀B,gS w (w.alloc B):=fun B=>(i7 _ _).alloc (io _) _;have l:=fun(B:Obj)=>AR (hs.below (K B) (fun _ _ h=>h)) j hj hk;obtain⟨es,L⟩:∃es,es=ei[j].eG:=⟨_,rfl⟩;rw[<-L]at l v ⊢;have c:=f.row;have n:=f.len;have M:=f.few;rw[v]at c n;rw[kU]at n;rw[<-n]at c u M;obtain⟨x,N⟩:∃x,x=ep[j].ea:=⟨_,rfl⟩;obtain⟨o,O⟩:∃o,o=ep[j].ec:=⟨_,rfl⟩;rw[<-N,<-O]at c u;obtain⟨m,y⟩:∃m,m=es.length:=⟨_,rfl⟩;rw[<-y]at c u M l ⊢;have X:Hid (m=es.length):=y;have P:Hid (∀B:Obj,eK 43 #[fj s,ed ((j:Int)+1)] (w.alloc B) fun e w'=>∃g,e=.returned (.tuple #[.slice (some (eb g 0)) m m,ed 0])/\w'.ownsRow (w.alloc B).heap.size 96 3 (.slice (some (eb g 0)) m m) m (flat es)/\Below (w.alloc B).heap.size (w.alloc B) w'):=l;have z:Hid (w.ownsRow 0 112 3 (.slice x m o) m (flat (es.map e9))):=c;clear h b mC hx hs hk l L v f n N O y c;go_enter func80,ntmps80;go_wp2_with fail;refine(P.out _).mono ?_;rintro e a ⟨t,rfl,Q,A⟩;have R:=A.cell (p:=(eb w.heap.size 2)) (by simp);have C:=(K _).trans (A.mono (by simp));simp at R;have S:Hid (a.ownsRow w.heap.size 96 3 (.slice (some (eb t 0)) m m) m (flat es)):=lw Q (by simp);have ak:((m:Int) != (m:Int))=false:=by simp
 clear Q A P;go_wp2
 go_loopw [13] (fun i wr=>∃k:Nat,k<=m/\i=.int .i64 k/\(∃q,wr=a.drewN q)) (fun i _=>m-(intOf i).toNat)
 case atStart=>exact⟨0,oY _,rfl,⟨0,rfl⟩⟩
 case round=>
  obtain⟨k,hk,rfl,⟨q,rfl⟩⟩:=hrel;by_cases Y:k<m
  ·have T:k<es.length:=by rw[<-X.out];exact Y
   have Z:k<(es.map e9).length:=by simpa using T
   obtain⟨d,al,U⟩:=ej z.out (by omega);obtain rfl:=(kW U).1;have V:d<w.heap.size:=ee z.out rfl;obtain⟨t0,t1,_⟩:=i2 (off:=0) (hh z.out) Z;obtain⟨D,E,_⟩:=i2 (off:=0) (hh S.out) T;rw[PH]at t0 t1 D E;have H:=(C.cell (p:=(eb d (k*3))) V).trans t0;have I:=(C.cell (p:=(eb d (k*3+1))) V).trans t1;have am:=fun q=>(show(a.drewN q).cell? (eb d (k*3))=some (.string es[k].1) by rw[BS]at H;exact H);have an:=fun q=>(show(a.drewN q).cell? (eb d (k*3+1))=some (.int .i64 es[k].2.1) by rw[BS]at I;exact I);have ao:=fun q=>(show(a.drewN q).cell? (eb t (k*3))=some (.string es[k].1)from D);have ap:=fun q=>(show(a.drewN q).cell? (eb t (k*3+1))=some (.int .i64 es[k].2.1)from E);have aq:=fun q=>(show(a.drewN q).cell? (eb w.heap.size 2)=some (.slice (some (eb d 0)) m o)from R);have ar:(k:Int)<(m:Int):=by omega
   have au:(es[k].1.toList==es[k].1.toList)=true:=by simp
   have mC:(es[k].2.1 != es[k].2.1)=false:=by simp
   clear t0 t1 H I D E U;go_wp2
   go_quiet (fail)
   go_wp2;go_roundw
   case rel=>exact⟨k+1,by omega,by go_num,⟨_,rfl⟩⟩
   case measure=>simp[intOf];omega
  ·go_wp2
   go_ret2;exact⟨t,rfl,S.out,PP C q⟩
end
variable {ft:z1}
def nB (n:Nat):List Int:=(List.range n).map fun i:Nat=>(i:Int)+1
theorem m5(n:Nat):(nB n).length=n:=by simp[nB]
theorem qh(h:j<n):(nB n)[j]?=some ((j:Int)+1):=by simp[nB,h]
theorem KS(n:Nat):nB (n+1)=nB n++[(n:Int)+1]:=by simp[nB,List.range_succ]
theorem ym(h:j<n)(a:List Int):placeOf (nB n++a) ((j:Int)+1)=some j:=by
 unfold placeOf;rw[fY (by omega)];have hl:j<(nB n++a).length:=by simp[m5];omega
 refine wX.2 ⟨hl,?_,fun i hi=>?_⟩
 ·have:(nB n++a)[j]?=some ((j:Int)+1):=by rw[ox (by rw[m5];exact h)];exact qh h
  obtain⟨_,e⟩:=s6.1 this;rw[e];simp
 ·have:(nB n++a)[i]?=some ((i:Int)+1):=by rw[ox (by rw[m5];omega)];exact qh (by omega)
  obtain⟨_,e⟩:=s6.1 this;rw[e];simp;omega
theorem AU{id:Int}(h:id<1\/(n:Int)<id)(a:List Int)(b:∀z∈a,z=0):placeOf (nB n++a) id=none:=by
 unfold placeOf;split
 ·next hp=>
  refine Qq.2 fun x hx=>?_;rcases pR.1 hx with hx|hx
  ·simp only[nB,H3,Dp]at hx
   obtain⟨i,hi,rfl⟩:=hx;simp;omega
  ·rw[b x hx];simp;omega
 ·rfl
section
variable {F G Fs:Nat->Prop}{w:World}{W s r:Nat}{ia ka pa:e5}{ic kc pc:Nat}{ids:List Int}{known:List Bool}{paths:List Int}{c5 c6 c7 c8 c9 c10 c11:Value}{ep ei:List Ob}
theorem gO(hg:F g):en F w (w.setCell (eb g j) v):=
 ⟨rfl,rfl,rfl,by simp,fun k hk hn=>ij _ _ _ _ (fun e=>hn (by cases e;exact hg))⟩
theorem iA{b:Nat}{t t':fL}{z n:Nat}{v a:Value}{c:Array Value}(h:w.ownsRow b t z v n xs)(hg:w.heap[g]?=some (.cells c t' (0,0)))(ht:t'≠t):(w.setCell (eb g j) a).ownsRow b t z v n xs:=
 eh h (fun k hk=>ij _ _ _ _ (fun e=>eI h hg ht (by cases e;exact hk.symm)))
theorem e8.UB(h:e8 F w W s r (some (eb g 0)) ka pa ic kc pc ids known paths c5 c6 c7 c8 c9 c10 c11)(j:Nat)(x:Int):
  e8 F (w.setCell (eb g j) (ed x)) W s r (some (eb g 0)) ka pa ic kc pc (ids.set j x) known paths c5 c6 c7 c8 c9 c10 c11/\en F w (w.setCell (eb g j) (ed x)):=by
 obtain⟨a,hc⟩:=p3 h.jI rfl;have hl:(ids.set j x).length=ids.length:=by simp
 refine⟨⟨h.fw,?_,?_,iA h.mK hc (by decide),iA h.ny hc (by decide),?_,h.fk,h.fp⟩,gO (h.fi g rfl)⟩
 ·rw[hl,ij _ _ _ _ (fun e=>eI h.jI h.hW (by decide) (by rw[show W=g from e];rfl))];exact h.hW
 ·rw[hl]
  have:=(h.jI.stored j (ed x)).1
  rw[encI,List.map_set];exact this
 ·rw[hl];exact h.fi
theorem e8.UC(h:e8 F w W s r ia (some (eb g 0)) pa ic kc pc ids known paths c5 c6 c7 c8 c9 c10 c11)(j:Nat)(x:Bool):
  e8 F (w.setCell (eb g j) (.bool x)) W s r ia (some (eb g 0)) pa ic kc pc ids (known.set j x) paths c5 c6 c7 c8 c9 c10 c11/\en F w (w.setCell (eb g j) (.bool x)):=by
 obtain⟨a,hc⟩:=p3 h.mK rfl;have hl:(known.set j x).length=known.length:=by simp
 refine⟨⟨h.fw,?_,iA h.jI hc (by decide),?_,iA h.ny hc (by decide),h.fi,?_,h.fp⟩,gO (h.fk g rfl)⟩
 ·rw[hl,ij _ _ _ _ (fun e=>eI h.mK h.hW (by decide) (by rw[show W=g from e];rfl))];exact h.hW
 ·rw[hl]
  have:=(h.mK.stored j (.bool x)).1
  rw[DR,List.map_set];exact this
 ·rw[hl];exact h.fk
def fI (F:Nat->Prop)(w:World)(W s r n:Nat)(c5 c6 c7 c8 c9 c10 c11:Value):Prop:=
 ∃ia ka pa ic kc pc paths,e8 F w W s r ia ka pa ic kc pc (nB n) (List.replicate n true) paths c5 c6 c7 c8 c9 c10 c11/\paths.length=n/\mO paths
def gi (ep:List Ob):Prop:=∀i (hi:i<ep.length),∀e∈ep[i].eG,0<=e.2.2/\e.2.2<(i:Int)
theorem oJ(h:fI F w W s r n c5 c6 c7 c8 c9 c10 c11)(hr:eU G w r ep)(m:∀k,G k->k<w.heap.size/\¬F k)(hn:ep.length=n)(o:gi ep)(j:Nat)(hj:j<n):
  eK 37 #[fj W,ed (j:Int),ed ((j:Int)+1)] w fun e w'=>e=.returned (.bool true)/\fI (ie F w w') w' W s r n c5 c6 c7 c8 c9 c10 c11/\en F w w':=by
 obtain⟨ia,ka,pa,ic,kc,pc,paths,hl,b,c⟩:=h;have hm:n<=400:=by obtain⟨_,_,h⟩:=hr;rw[<-hn];exact h.many
 have d:=AD hl hr m (by simp[m5]) (by rw[b,m5]) (by rw[m5];omega) o c;rw[m5,hn,Dq]at d;clear hl hr b c;go_enter func37,ntmps37;go_wp2_with fail;refine d.mono ?_;rintro e a ⟨rfl,ia,ka,pa,ic,kc,pc,paths,hl,b,c,l⟩;simp only[List.replicate_zero,nH,zT]at hl b;clear d;have f:=qP hl ((j:Int)+1) (by rw[m5];exact hm);have e:=ym hj [];rw[nH]at e;rw[e]at f;have p:eK 41 #[fj W,ed ((j:Int)+1)] a (tz (ed (j:Int)) a):=f;clear f e;have q:=hl.c2;have t:=hl.c3;rw[m5]at q;rw[s7]at t;have A:=hl.lt;obtain⟨g,u,B,x,_⟩:=row_one hl.jI (i:=j) (v:=.int .i64 ((j:Int)+1)) (by simp[encI,qh hj]);subst u;obtain⟨gk,y,C,D,_⟩:=row_one hl.mK (i:=j) (v:=.bool true) (by simp[DR,hj]);subst y;have E:a.frozen? (eb g j)=false:=by have:=hl.jI;rw[m5]at this;exact this.frozenAt j
 have H:=oA x;have n1:¬(j:Int)+1<1:=by omega
 have I:decide ((j:Int)+1<1)=false:=m6 n1;have n2:((j:Int)+1 != 0)=true:=by simp;omega
 have n3:((j:Int)+1 != (j:Int)+1)=false:=by simp
 have J:((j:Int) != (j:Int))=false:=by simp
 have z:Hid (fI (ie F w a) a W s r n c5 c6 c7 c8 c9 c10 c11/\en F w a):=⟨⟨_,_,pa,ic,kc,pc,paths,hl,b,c⟩,l⟩;clear hl c l;go_wp2_with fail;refine p.mono ?_;rintro e K ⟨rfl,rfl⟩;go_wp2;go_ret;exact⟨rfl,z.out⟩
theorem vY{w b c:World}(h:en F w b)(a:gS b c):en F w c:=
 ⟨a.os.trans h.os,a.tape.trans h.tape,a.output.trans h.output,pD h.size a.size,fun k hk hn=>(a.block k (kv hk h.size)).trans (h.block k hk hn)⟩
theorem fI.mono{F F':Nat->Prop}(h:fI F w W s r n c5 c6 c7 c8 c9 c10 c11)(hF:∀k,F k->F' k):fI F' w W s r n c5 c6 c7 c8 c9 c10 c11:=by
 obtain⟨ia,ka,pa,ic,kc,pc,paths,hl,hp⟩:=h;exact⟨ia,ka,pa,ic,kc,pc,paths,hl.mono hF,hp⟩
theorem fI.drew(h:fI F w W s r n c5 c6 c7 c8 c9 c10 c11):fI F w.drew W s r n c5 c6 c7 c8 c9 c10 c11:=by
 obtain⟨ia,ka,pa,ic,kc,pc,paths,hl,hp⟩:=h;exact⟨ia,ka,pa,ic,kc,pc,paths,hl.keep (fun _ h=>h) (fun _ _=>rfl),hp⟩
theorem N5(n:Nat)(x:Int):(nB n++[(0:Int)]).set n x=nB n++[x]:=by
 rw[Gg _ _ (by rw[m5];exact io _),m5,Dq];rfl
theorem KT(n:Nat):(List.replicate n true++[false]).set n true=List.replicate (n+1) true:=by
 rw[Gg _ _ (by simp),s7,Dq,BR];rfl
theorem GX(h:fI F w W s r n c5 c6 c7 c8 c9 c10 c11)(hr:eU G w r ep)(hs:fK ft Fs w s ei)(O:∀k,G k->k<w.heap.size/\¬F k)(ai:∀k,Fs k->k<w.heap.size/\¬F k)(aj:∀k,F k->k<w.heap.size)
  (hn:ep.length=n+1)(ho:ei.length=n+1)(P:gi ep)(hx:sy (ei[n]'(by omega)) (ep[n]'(by omega))):
  eK 37 #[fj W,ed (n:Int),ed ((n:Int)+1)] w fun e w'=>e=.returned (.bool true)/\fI (ie F w w') w' W s r (n+1) c5 c6 c7 c8 c9 c10 c11/\en F w w':=by
 obtain⟨ia,ka,pa,ic,kc,pc,paths,hl,C,D⟩:=h;have hm:n+1<=400:=by obtain⟨_,_,h⟩:=hr;rw[<-hn];exact h.many
 have Q:=AD hl hr O (by simp[m5]) (by rw[C,m5]) (by rw[m5];omega) P D;rw[m5,hn,Ka]at Q;have aH:Hid (eU G w r ep):=hr;have aI:Hid (fK ft Fs w s ei):=hs;have H:Hid (∀k,G k->k<w.heap.size/\¬F k):=O;have ak:Hid (∀k,Fs k->k<w.heap.size/\¬F k):=ai;have aJ:Hid (∀k,F k->k<w.heap.size):=aj;have al:Hid (gi ep):=P;have am:Hid (ep.length=n+1):=hn;have bf:Hid (ei.length=n+1):=ho;have l:n<ep.length:=by omega
 have R:n<ei.length:=by omega
 have S:Hid (sy ei[n] ep[n]):=hx;clear hl hr C D hs O ai aj P hx hn ho;go_enter func37,ntmps37;go_wp2_with fail;refine Q.mono ?_;rintro e f ⟨rfl,ia,ka,pa,ic,kc,pc,paths,hl,C,D,c⟩;simp only[List.replicate_one]at hl;clear Q;have T:=qP hl ((n:Int)+1) (by simp[m5];omega);rw[AU (.inr (by omega)) [0] (fun z aK=>kH.1 aK)]at T;have an:eK 41 #[fj W,ed ((n:Int)+1)] f (tz (ed (-1)) f):=T;clear T;have ao:=hl.c2;have ap:=hl.c3;have U:(nB n++[(0:Int)]).length=n+1:=by simp[m5]
 have V:(List.replicate n true++[false]).length=n+1:=by simp
 rw[U]at ao;rw[V]at ap;have aL:=hl.lt;obtain⟨g,aM,aN,aO,_⟩:=row_one hl.jI (i:=n) (v:=.int .i64 0) (by simp[encI,m5]);subst aM;obtain⟨gk,aP,aQ,aR,_⟩:=row_one hl.mK (i:=n) (v:=.bool false) (by simp[DR]);subst aP;have aS:f.frozen? (eb g n)=false:=by have:=hl.jI;rw[U]at this;exact this.frozenAt n
 have aT:f.frozen? (eb gk n)=false:=by have:=hl.mK;rw[V]at this;exact this.frozenAt n
 have bg:g≠gk:=by
  obtain⟨_,h1⟩:=p3 hl.jI rfl;obtain⟨_,h2⟩:=p3 hl.mK rfl;exact kI h1 h2 (by decide)
 have bh:g≠W:=by
  obtain⟨_,h1⟩:=p3 hl.jI rfl;exact kI h1 hl.hW (by decide)
 have bi:gk≠W:=by
  obtain⟨_,h1⟩:=p3 hl.mK rfl;exact kI h1 hl.hW (by decide)
 have bj:decide ((n:Int)+1<1)=false:=m6 (by omega);have bk:(n:Int)<(n:Int)+1:=by omega
 have X:=hl.UB n ((n:Int)+1);have I:=X.1.UC n true;rw[N5,<-KS,KT]at I;have Y:Hid _:=I;have j:Hid (en F w ((f.setCell (eb g n) (ed ((n:Int)+1))).setCell (eb gk n) (.bool true))):=by
  have a:en (ie F w f) f ((f.setCell (eb g n) (ed ((n:Int)+1))).setCell (eb gk n) (.bool true)):=⟨rfl,rfl,rfl,by simp,fun k hk NJ=>(I.2.block k (by simpa using hk) NJ).trans (X.2.block k hk NJ)⟩;exact rr c a
 have aq:Hid (paths.length=n+1/\mO paths):=⟨C,D⟩;clear hl D c X I C;go_wp2_with fail;refine an.mono ?_;rintro e Z ⟨rfl,rfl⟩;clear an;go_wp2_with fail;have aU:Z.heap.size=((Z.setCell (eb g n) (ed ((n:Int)+1))).setCell (eb gk n) (.bool true)).heap.size:=by simp
 obtain⟨w3,ar⟩:∃w3,w3=(Z.setCell (eb g n) (ed ((n:Int)+1))).setCell (eb gk n) (.bool true):=⟨_,rfl⟩;rw[<-ar]at Y j aU ⊢;have au:e8 (ie F w w3) w3 W s r (some (eb g 0)) (some (eb gk 0)) pa ic kc pc (nB (n+1)) (List.replicate (n+1) true) paths c5 c6 c7 c8 c9 c10 c11:=Y.out.1.mono (fun k hk=>by rcases hk with h|h;exact .inl h;exact .inr ⟨h.1,by omega⟩);have J:Hid (e8 (ie F w w3) w3 W s r (some (eb g 0)) (some (eb gk 0)) pa ic kc pc (nB (n+1)) (List.replicate (n+1) true) paths c5 c6 c7 c8 c9 c10 c11):=au;have K:Hid (eU G w3 r ep):=lH aH.out H.out j.out;have aa:Hid (fK ft Fs w3 s ei):=aI.out.keep (fun _ h=>h) (fun k hk=>j.out.block k (ak.out k hk).1 (ak.out k hk).2);clear au aO aR aS aT ao ap aN aQ ar Y aL U V;have aV:ei[n].kind=1\/ei[n].kind=2:=by exact aa.out.2.2.1.kinds _ (iF R)
 rcases aV with y|y
 ·have p:=GV J.out K.out aa.out n R l y S.out
  clear y;refine p.mono ?_;rintro e b ⟨rfl,d⟩;clear p;have aW:Hid (fI (ie F w b) b W s r (n+1) c5 c6 c7 c8 c9 c10 c11/\en F w b):=⟨⟨_,_,pa,ic,kc,pc,paths,(J.out.below d).mono (fun k hk=>by rcases hk with h|h;exact .inl h;exact .inr ⟨h.1,kv h.2 d.size⟩),aq.out⟩,vY j.out d⟩;go_wp2
  go_loopw [9,10] (fun o i wr=>o=.bool true/\i=.int .i64 0/\wr=b) (fun _ _ _=>0)
  case atStart=>exact⟨rfl,rfl,rfl⟩
  case round=>
   obtain⟨rfl,rfl,rfl⟩:=hrel;go_wp2;go_ret;exact⟨rfl,aW.out⟩
 ·have p:=KR J.out K.out aa.out n R l y S.out
  have E:=S.out.eG y;obtain⟨es,av⟩:∃es,es=ei[n].eG:=⟨_,rfl⟩;rw[<-av]at p E;have ab:=al.out n l;rw[E]at ab;have aX:Hid (∀e∈es,1<=e.2.2/\e.2.2<=(n:Int)):=fun e aY=>by
   have:0<=e.2.2-1/\e.2.2-1<(n:Int):=ab (e9 e) (zP aY)
   omega
  have aw:Hid (es.length<=16):=by
   obtain⟨_,_,t⟩:=K.out;have h1:=(t.xe _ (iF l)).len;have h2:=(t.xe _ (iF l)).few;rw[E,kU]at h1;show _<=_;omega
  have aZ:Hid (ep[n].eG=es.map e9):=E;clear y E ab av;obtain⟨m,ac⟩:∃m,m=es.length:=⟨_,rfl⟩;rw[<-ac]at p aw;have bl:m<=16:=aw.out;have ax:Hid (m=es.length):=ac;clear ac;refine p.mono ?_;rintro e b ⟨u,rfl,ad,d⟩;clear p;have ay:Hid (u<b.heap.size/\w3.heap.size<=u):=by have:=ad.lt u rfl;exact⟨this.2,this.1⟩
  have a0:Hid (b.ownsRow w3.heap.size 96 3 (.slice (some (eb u 0)) m m) m (flat es)):=ad;have a1:Hid (∀k,ie F w w3 k->k<w3.heap.size):=fun k hk=>by rcases hk with h|h;exact kv (aJ.out k h) j.out.size;exact h.2
  have a2:Hid (fI (ie F w w3) b W s r (n+1) c5 c6 c7 c8 c9 c10 c11):=⟨_,_,pa,ic,kc,pc,paths,J.out.below d,aq.out⟩;have a3:Hid (eU G b r ep):=K.out.below d (fun _ h=>h);have L:Hid (∀k,G k->k<b.heap.size/\¬ie F w w3 k):=fun k hk=>⟨kv (H.out k hk).1 (pD j.out.size d.size),fun h=>by rcases h with h|h;exact(H.out k hk).2 h;have:=(H.out k hk).1;omega⟩;clear ad;go_wp2
  go_loopw [9,10] (fun o i wr=>∃k:Nat,k<=m/\o=.bool true/\i=.int .i64 k/\Hid (fI (ie (ie F w w3) b wr) wr W s r (n+1) c5 c6 c7 c8 c9 c10 c11/\en (ie F w w3) b wr)) (fun _ i _=>m-(intOf i).toNat)
  case atStart=>exact⟨0,oY _,rfl,rfl,fI.mono a2.out (fun k hk=>.inl hk),⟨rfl,rfl,rfl,io _,fun _ _ _=>rfl⟩⟩
  case round=>
   obtain⟨k,hk,rfl,rfl,M⟩:=hrel;have c:=M.out.2;by_cases a4:k<m
   ·have ae:k<es.length:=by rw[<-ax.out];exact a4
    have az:=lH a3.out L.out c;have aA:=oJ (w:=wr.drew) (fI.drew M.out.1) (az.keep (fun _ h=>h) (fun _ _=>rfl)) (fun q hq=>⟨kv (L.out q hq).1 c.size,fun h=>by rcases h with h|h;exact(L.out q hq).2 h;have:=(L.out q hq).1;omega⟩) am.out al.out;obtain⟨_,_,_,_,_,_,_,aB,_⟩:=M.out.1;have bm:=aB.c1;obtain⟨bn,bo,t⟩:=az;have a5:=t.c0;rw[am.out]at a5;obtain⟨gr,a6,bp,_,_,aC,_⟩:=iG t.row rfl l;subst a6;have af:=t.xe _ (iF l);have A:=af.row;have N:=af.len;rw[aZ.out]at A N;rw[kU,<-ax.out]at N;rw[<-N]at A aC;obtain⟨a7,bq,aD⟩:=ej A (by omega);rw[(kW aD).1]at A aC;obtain⟨_,_,ag⟩:=i2 (off:=0) (hh A) (i:=k) (by simpa using ae);rw[PH,BS]at ag;obtain⟨a8,a9⟩:=aX.out es[k] (iF ae);obtain⟨B,ah⟩:∃B:Nat,es[k].2.2=(B:Int)+1:=⟨(es[k].2.2-1).toNat,by omega⟩;have br:wr.cell? (eb a7 (k*3+2))=some (ed (B:Int)):=by rw[ag];unfold e9;rw[ah];simp
    have aE:wr.ownsRow 0 96 3 (.slice (some (eb u 0)) m m) m (flat es):=eh (lw a0.out (oY _)) (fun q hq=>by
     cases hq;exact c.block u ay.out.1 (fun h=>by have:=a1.out u h;have:=ay.out.2;omega))
    obtain⟨_,_,bb⟩:=i2 (off:=0) (hh aE) ae;rw[PH,ah]at bb;have aF:=aA B (by omega);have bs:(k:Int)<(m:Int):=by omega
    have bc:Hid (eK 37 #[fj W,ed (B:Int),ed ((B:Int)+1)] wr.drew fun e w'=>e=.returned (.bool true)/\fI (ie (ie (ie F w w3) b wr) wr.drew w') w' W s r (n+1) c5 c6 c7 c8 c9 c10 c11/\en (ie (ie F w w3) b wr) wr.drew w'):=aF;clear aA aF aB t af N A aD ag aE a8 a9 ah;go_wp2;refine wp_region_still_tail 21 (by kernel_rfl) (by kernel_rfl) ?_;simp only[M0,MZ,Kb,xI]
    iterate 21 still_step
    refine wpStill_nil ?_;go_wp2_with fail;refine bc.out.mono ?_;rintro e w5 ⟨rfl,aG,x⟩;have bd:Hid (fI (ie (ie F w w3) b w5) w5 W s r (n+1) c5 c6 c7 c8 c9 c10 c11/\en (ie F w w3) b w5):=⟨fI.mono aG (fun q hq=>iX c.size x.size hq),rr c ⟨x.os,x.tape,x.output,x.size,x.block⟩⟩;clear aG x;go_wp2;go_roundw
    case rel=>exact⟨k+1,by omega,rfl,by go_num,bd.out⟩
    case measure=>simp[intOf];omega
   ·have be:Hid (fI (ie F w wr) wr W s r (n+1) c5 c6 c7 c8 c9 c10 c11/\en F w wr):=by
     have bt:=j.out.size;have bu:=d.size;have bv:=c.size;refine⟨fI.mono M.out.1 (fun q hq=>?_),?_⟩
     ·rcases hq with(h|h)|h
      ·exact .inl h
      ·exact .inr ⟨h.1,by omega⟩
      ·exact .inr ⟨by omega,h.2⟩
     ·refine rr (vY j.out d) ⟨c.os,c.tape,c.output,c.size,fun q hq NJ=>c.block q hq (fun h=>NJ ?_)⟩
      rcases h with h|h
      ·exact .inl h
      ·exact .inr ⟨h.1,by omega⟩
    have bw:decide ((k:Int)<(m:Int))=false:=m6 (by omega);go_wp2;go_ret;exact⟨rfl,be.out⟩
end
theorem AV{p:Prop}(h:Hid p):p:=h.out
def sA:eD:=(ByteArray.empty,-77,0)
theorem Ec:(prog.info? 96).map (fun i=>(i.zero,i.size,i.bytes))=some (some (.agg #[.string ByteArray.empty,ed 0,ed 0]),3,32):=by kernel_rfl
theorem Jt:(prog.info? 96).map (·.size)=some 3:=by kernel_rfl
theorem UD(pre:fE)(a b c:Value):∀(rest:fE),3<=rest.length->(((pre++rest).set pre.length a).set (pre.length+1) b).set (pre.length+2) c=pre++[a,b,c]++rest.drop 3
 |[],h=>by simp at h
 |[_],h=>by simp at h
 |[_,_],h=>by simp at h
 |d::e::f::g,_=>by
  rw[Gg _ _ (io _),Dq,Gg _ _ (by omega),Ka,Gg _ _ (by omega),Ka]
  simp
theorem SR{base:Nat}{g n b c:Nat}{a:List eD}{rest:fE}(h:w.ownsRow base t 3 (.slice (some (eb g 0)) b c) b (flat a++rest))(f:a.length=n)(hr:3<=rest.length)(e:eD):
  (((w.setCell (eb g (n*3)) (.string e.1)).setCell (eb g (n*3+1)) (ed e.2.1)).setCell (eb g (n*3+2)) (ed e.2.2)).ownsRow base t 3 (.slice (some (eb g 0)) b c) b (flat (a++[e])++rest.drop 3):=by
 have h1:=(h.stored (n*3) (.string e.1)).1;have h2:=(h1.stored (n*3+1) (ed e.2.1)).1;have h3:=(h2.stored (n*3+2) (ed e.2.2)).1;have hl:(flat a).length=n*3:=by rw[ib,f]
 have d:=UD (flat a) (.string e.1) (ed e.2.1) (ed e.2.2) rest hr;rw[hl]at d;rw[d]at h3;rw[ld,mn];exact h3
theorem KU(b off m c0:Nat)(es:List eD)(w:World)(hl:es.length=m)(F:b<w.heap.size)(R:(m+3)*32<=140737488355328)(hc:∀j l,(flat es)[j]?=some l->w.cell? (eb b (off+j))=some l):
  eK 81 #[.slice (some (eb b off)) m c0] w fun e w'=>∃g,e=.returned (.slice (some (eb g 0)) (m+3) (m+3))/\w'.ownsRow w.heap.size 96 3 (.slice (some (eb g 0)) (m+3) (m+3)) (m+3) (flat (es++List.replicate 3 sA))/\gS w w':=by
 obtain⟨G,hi,H,I,J⟩:=H4 Ec;have K:Hid (∀j l,(flat es)[j]?=some l->w.cell? (eb b (off+j))=some l):=hc;have a:Hid (es.length=m):=hl;clear hc hl;go_enter func81,ntmps81;go_wp2_with(at_make;refine M9 _ rfl _ _ 55 rfl 0 96 G _ 3 underlying55 hi H I .i64 .i64 _ _ (m+3) rfl rfl rfl rfl ?_ ?_ (oY _) ?_;go_must(rw[J];omega);go_must(unfold maxLen;omega);intro w3 x y;obtain⟨c,z,r⟩:=xT x;have o:=jW (i7 w.heap.size w) y;refine AV ?_);refine(show Hid _ from(?_:wpList _ _ _ _ _ _));clear x y;have c1:Hid ((flat es).length=Nat.min m (m+3)*3):=by show _=_;rw[ib,a.out,show Nat.min m (m+3)=m from uN (by omega)]
 have c2:Hid (∀j v,(flat es)[j]?=some v->w3.cell? (((eb b off):Addr).add j)=some v):=fun j v hv=>by rw[lY,o.out.cell (p:=(eb b (off+j))) F];exact K.out j v hv
 have c3:Hid (0+(flat es).length<=c.size):=by show _<=_;rw[ib,a.out,r.out];omega
 have c4:Hid ((flat es++c.toList.drop (m*3)).toArray.toList=c.toList.take 0++flat es++c.toList.drop (0+(flat es).length)):=by show _=_;rw[ib,a.out];simp
 go_wp2_with(refine oB rfl (.tmp 9) (.tmp 10) 55 55 rfl 96 underlying55 3 Jt w.heap.size 0 (m+3) (m+3) (eb b off) m c0 rfl rfl c 96 z.out (flat es) c1.out c2.out c3.out (PQ es) (flat es++c.toList.drop (m*3)).toArray c4.out ?_;intro s A B);have L:gS w s:=o.out.grown B o.out.size (fun k h=>by cases h;exact io _);have d:(c.toList.drop (m*3)).length=9:=by rw[jl,kG,r.out];omega
 have C:s.ownsRow w.heap.size 96 3 (.slice (some (eb w.heap.size 0)) (m+3) (m+3)) (m+3) (flat es++c.toList.drop (m*3)):=by
  refine⟨by rw[jM,ib,a.out,d];omega,.inr ⟨w.heap.size,m+3,_,rfl,io _,A.out,io _,by unfold maxLen;omega,?_,?_⟩⟩
  ·simp only[zO,jM,ib,a.out,d];omega
  ·simp only
   exact jH (by rw[jM,ib,a.out,d];omega)
 have M:Hid (∃rest:fE,rest.length=9/\s.ownsRow w.heap.size 96 3 (.slice (some (eb w.heap.size 0)) (m+3) (m+3)) (m+3) (flat (es++List.replicate 0 sA)++rest)):=⟨_,d,by simpa using C⟩;clear C d c1 c2 c3 c4 z r A B o;go_wp2
 go_loopw [4] (fun i wr=>∃k:Nat,k<=3/\i=.int .i64 ((m:Int)+k)/\gS w wr/\Hid (∃rest:fE,rest.length=(3-k)*3/\wr.ownsRow w.heap.size 96 3 (.slice (some (eb w.heap.size 0)) (m+3) (m+3)) (m+3) (flat (es++List.replicate k sA)++rest))) (fun i _=>m+3-(intOf i).toNat)
 case atStart=>exact⟨0,by omega,by simp,L,M.out⟩
 case round=>
  obtain⟨k,hk,rfl,D,t⟩:=hrel;obtain⟨rest,d,f⟩:=t.out;by_cases S:k<3
  ·have T:=fun j=>f.frozenAt j
   obtain⟨n,hn⟩:∃n:Nat,n=m+k:=⟨_,rfl⟩;have N:(m:Int)+(k:Int)=(n:Int):=by omega
   have q:∀j,j<3->∃v,wr.cell? (eb w.heap.size (n*3+j))=some v:=fun j hj=>by
    rw[f.cellAt (n*3+j) (by omega)];exact⟨_,gJ (by rw[jM,ib,jM,a.out,s7,d];omega)⟩
   obtain⟨U,O⟩:=q 0 (by omega);obtain⟨V,W⟩:=q 1 (by omega);obtain⟨X,e2⟩:=q 2 (by omega);rw[zT]at O;have Y:(n:Int)<(m:Int)+3:=by omega
   have Z:w.heap.size<wr.heap.size:=ee f rfl;have E:Hid (n=m+k):=hn;have u:Hid _:=f;clear q hn t f;rw[N];go_wp2;refine⟨⟨k+1,by omega,by have:=E.out;go_num,((D.setCell (io _) _).setCell (io _) _).setCell (io _) _,rest.drop 3,by rw[jl,d];omega,?_⟩,by simp[intOf];omega⟩
   have:=SR (n:=n) u.out (by rw[jM,a.out,s7,E.out]) (by omega) sA
   rw[iK,<-BR]at this;exact this
  ·have P:k=3:=by omega
   subst P;have Q:rest=[]:=zN (by omega);subst Q;rw[nH]at f;have u:Hid _:=f;clear f t;go_wp2;go_ret;exact⟨_,rfl,u.out,D⟩
theorem N6(w:World)(g n:Nat):(Builtin.copy_ #[55,55] 3 #[.slice (some (eb g 0)) n n,.slice none 0 0]).run prog w=.ok (ed 0) w:=by
 have hu:prog.underlying 55=some (.slice 96):=underlying55;have hl:=run_loadCells_list (P:=prog) w;cases hq:prog.info? 96 with
 |none=>have:=Jt;simp[hq]at this
 |some i=>
  simp[Builtin.copy_,M7 hu,Builtin.lenOf,Builtin.firstCells,sizeOf,typeInfo,hq];rfl
theorem N7(w:World):
  eK 81 #[.slice none 0 0] w fun e w'=>∃g,e=.returned (.slice (some (eb g 0)) 3 3)/\w'.ownsRow w.heap.size 96 3 (.slice (some (eb g 0)) 3 3) 3 (flat (List.replicate 3 sA))/\gS w w':=by
 obtain⟨q,hi,s,t,u⟩:=H4 Ec;go_enter func81,ntmps81;go_wp2_with(at_make;refine M9 _ rfl _ _ 55 rfl 0 96 q _ 3 underlying55 hi s t .i64 .i64 _ _ 3 rfl rfl rfl rfl ?_ ?_ (oY _) ?_;go_must(rw[u];omega);go_must(unfold maxLen;omega);intro w3 l m;refine AV ?_);refine(show Hid _ from(?_:wpList _ _ _ _ _ _));have x:gS w w3:=(jW (i7 w.heap.size w) m).out;have D:=N6 w3 w.heap.size 3;have y:Hid (∃rest:fE,rest.length=9/\w3.ownsRow w.heap.size 96 3 (.slice (some (eb w.heap.size 0)) 3 3) 3 (flat ([]++List.replicate 0 sA)++rest)):=by
  obtain⟨h1,h2⟩:=l;exact⟨_,h1,h1,by rcases h2 with⟨h,_⟩|⟨g,c,z,hv,_,r⟩;cases h;cases hv;exact .inr ⟨_,_,z,rfl,io _,r⟩⟩
 clear l m;go_wp2
 go_loopw [4] (fun i wr=>∃k:Nat,k<=3/\i=.int .i64 (k:Int)/\gS w wr/\Hid (∃rest:fE,rest.length=(3-k)*3/\wr.ownsRow w.heap.size 96 3 (.slice (some (eb w.heap.size 0)) 3 3) 3 (flat ([]++List.replicate k sA)++rest))) (fun i _=>3-(intOf i).toNat)
 case atStart=>exact⟨0,by omega,by simp,x,y.out⟩
 case round=>
  obtain⟨n,hk,rfl,o,d⟩:=hrel;obtain⟨rest,p,a⟩:=d.out;by_cases E:n<3
  ·have F:=fun j=>a.frozenAt j
   have b:∀j,j<3->∃v,wr.cell? (eb w.heap.size (n*3+j))=some v:=fun j hj=>by
    rw[a.cellAt (n*3+j) (by omega)];exact⟨_,gJ (by rw[jM,ib,jM,s7,p];simp;omega)⟩
   obtain⟨G,A⟩:=b 0 (by omega);obtain⟨H,I⟩:=b 1 (by omega);obtain⟨J,e2⟩:=b 2 (by omega);rw[zT]at A;have K:(n:Int)<3:=by omega
   have L:w.heap.size<wr.heap.size:=ee a rfl;have f:Hid _:=a;clear b d a;go_wp2;refine⟨⟨n+1,by omega,by go_num,((o.setCell (io _) _).setCell (io _) _).setCell (io _) _,rest.drop 3,by rw[jl,p];omega,?_⟩,by simp[intOf];omega⟩
   have:=SR (n:=n) f.out (by simp) (by omega) sA
   rw[iK,<-BR]at this;exact this
  ·have B:n=3:=by omega
   subst B;have C:rest=[]:=zN (by omega);subst C;rw[nH,w8]at a;have f:Hid _:=a;clear a d;go_wp2;go_ret;exact⟨_,rfl,f.out,o⟩
theorem yo(a:e5)(m c0:Nat)(es:List eD)(w:World)(hl:fF w a m es)(c:(m+3)*32<=140737488355328)(d:m=0->a=none/\c0=0):
  eK 81 #[.slice a m c0] w fun e w'=>∃g,e=.returned (.slice (some (eb g 0)) (m+3) (m+3))/\w'.ownsRow w.heap.size 96 3 (.slice (some (eb g 0)) (m+3) (m+3)) (m+3) (flat (es++List.replicate 3 sA))/\gS w w':=by
 rcases Nat.eq_zero_or_pos m with rfl|hp
 ·obtain⟨rfl,rfl⟩:=d rfl
  have:es=[]:=zN hl.1
  subst this;exact N7 w
 ·obtain⟨b,off,rfl,f,hc⟩:=hl.2 hp
  exact KU b off m c0 es w hl.1 f c hc
theorem UE(W:World)(g o:Nat)(x:eD)(c0:W.cell? (eb g o)=some (.string x.1))(c1:W.cell? (eb g (o+1))=some (ed x.2.1))(c2:W.cell? (eb g (o+2))=some (ed x.2.2)):(loadVar 96 (eb g o)).run prog W=.ok (.agg #[.string x.1,ed x.2.1,ed x.2.2]) W:=by
 unfold loadVar
 go_simp
theorem N8(op:BinOp)(W:World)(x y:Operand)(X a:Array Value):(eqGuard op 96 x y (.agg X) (.agg a)).run prog W=.ok () W:=DK (by kernel_rfl) op W x y X a
theorem N9(g:Nat)(a:e5)(m c0:Nat)(es:List eD)(w:World)(hl:fF w a m es)(B:(m+3)*32<=140737488355328)(v:m=0->a=none/\c0=0)(y:Nat)
  (jY:w.ownsRow y 96 3 (.slice (some (eb g 0)) (m+3) (m+3)) (m+3) (flat (es++List.replicate 3 sA))):
  eK 83 #[.slice (some (eb g 0)) (m+3) (m+3),.slice a m c0] w (ml (.bool true) w):=by
 have s:=yo a m c0 es w hl B v;obtain⟨b,t⟩:∃b,b=es++List.replicate 3 sA:=⟨_,rfl⟩;have C:Hid (b.length=m+3):=by rw[t,jM,hl.1,s7];rfl
 rw[<-t]at jY s;have D:Hid (w.ownsRow y 96 3 (.slice (some (eb g 0)) (m+3) (m+3)) (m+3) (flat b)):=jY;have u:g<w.heap.size:=ee jY rfl;clear jY t hl v;go_enter func83,ntmps83;go_wp2_with fail;refine s.mono ?_;rintro e c ⟨d,rfl,z,f⟩;have E:Hid (c.ownsRow w.heap.size 96 3 (.slice (some (eb d 0)) (m+3) (m+3)) (m+3) (flat b)):=z;clear s z;go_wp2
 go_loopw [6] (fun i wr=>∃k:Nat,k<=m+3/\i=.int .i64 (k:Int)/\(∃q,wr=c.drewN q)) (fun i _=>m+3-(intOf i).toNat)
 case atStart=>exact⟨0,by omega,rfl,⟨0,rfl⟩⟩
 case round=>
  obtain⟨k,hk,rfl,⟨q,rfl⟩⟩:=hrel;by_cases F:k<m+3
  ·have A:k<b.length:=by rw[C.out];exact F
   obtain⟨h,j,l⟩:=i2 (off:=0) (hh D.out) A;obtain⟨q0,o,r⟩:=i2 (off:=0) (hh E.out) A;rw[PH]at h j l q0 o r;obtain⟨x,hx⟩:∃x,x=b[k]:=⟨_,rfl⟩;rw[<-hx]at h j l q0 o r;have G:Hid (∀q,(loadVar 96 (eb g (k*3))).run prog (c.drewN q)=.ok (.agg #[.string x.1,ed x.2.1,ed x.2.2]) (c.drewN q)):=fun q=>UE _ g (k*3) x ((f.cell (p:=(eb g (k*3))) u).trans h) ((f.cell (p:=(eb g (k*3+1))) u).trans j) ((f.cell (p:=(eb g (k*3+2))) u).trans l);have H:Hid (∀q,(loadVar 96 (eb d (k*3))).run prog (c.drewN q)=.ok (.agg #[.string x.1,ed x.2.1,ed x.2.2]) (c.drewN q)):=fun q=>UE _ d (k*3) x q0 o r;have I:(k:Int)<(m:Int)+3:=by omega
   clear h j l q0 o r hx;go_wp2;refine SE (by kernel_rfl) (by kernel_rfl) ?_
   iterate 3 quiet_step (fail)
   refine P1 rfl 96 _ rfl (eb g (k*3)) rfl (.agg #[.string x.1,ed x.2.1,ed x.2.2]) (by rintro _ ⟨n,rfl⟩;rw[BU];exact G.out _) ?_
   go_frame
   iterate 3 quiet_step (fail)
   refine P1 rfl 96 _ rfl (eb d (k*3)) rfl (.agg #[.string x.1,ed x.2.1,ed x.2.2]) (by rintro _ ⟨n,rfl⟩;rw[BU];exact H.out _) ?_
   go_frame
   refine pZ rfl .neq 96 96 _ _ rfl (.agg #[.string x.1,ed x.2.1,ed x.2.2]) (.agg #[.string x.1,ed x.2.1,ed x.2.2]) (.bool (!(decide (x=x)))) rfl rfl (by rintro _ ⟨n,rfl⟩;exact N8 _ _ _ _ _ _) (by rintro _ ⟨n,rfl⟩;exact NP _ x x) ?_
   go_frame
   refine wpQuiet_nil ?_;rintro _ ⟨nq,rfl⟩;simp only[decide_true,Bool.not_true];go_wp2;go_roundw
   case rel=>exact⟨k+1,by omega,by go_num,⟨_,rfl⟩⟩
   case measure=>simp[intOf];omega
  ·go_wp2
   go_ret;exact⟨rfl,PP f q⟩
theorem u3(e:Int)(w:World):eK 22 #[ed e] w fun r w'=>r=.returned (ed e)/\w'=w:=by
 go_enter func22,ntmps22;go_wp2;go_ret;exact⟨rfl,rfl⟩
abbrev fJ:=e5×Nat×Nat
def fD (h:fJ):Value:=.slice h.1 h.2.1 h.2.2
def yq (i:Nat):eD:=(ByteArray.empty,-1000-((i / 4:Nat):Int),0)
def Full (w:World)(i:Nat)(h:fJ):Prop:=∀j,j<h.2.1->∃g,h.1=some ⟨g,0,none⟩/\w.cell? ⟨g,j*3,none⟩=some (.string (yq i).1)/\w.cell? ⟨g,j*3+1,none⟩=some (.int .i64 (yq i).2.1)/\w.cell? ⟨g,j*3+2,none⟩=some (.int .i64 (yq i).2.2)
theorem SS:(prog.info? 55).map (fun i=>(i.zero,i.size,i.bytes))=some (some (.slice none 0 0),1,24):=by kernel_rfl
def SU (w:World)(la:e5)(m:Nat):Prop:=(la=none->m=0)/\∀b,la=some b->∃g xs,b=⟨g,0,none⟩/\w.ownsRow 0 96 3 (.slice la m m) m xs
theorem gP(W:World)(cs:fE)(t:fL):∀j a,cs[j]?=some a->(W.alloc (.cells cs.toArray t)).cell? (((eb W.heap.size 0):Addr).add j)=some a:=by
 intro j a h;rw[lY,PH]
 have:=pM W (.cells cs.toArray t)
 unfold World.cell?;rw[this];simpa using h
theorem zr:∀b∈[Value.slice a n c],b.oneCell'=true:=by intro b hu;simp at hu;subst hu;rfl
def sB (q:Nat):eD:=(⟨#[]⟩,-1000-(q:Int),0)
def TS (w:World)(la:e5)(m k q:Nat):Prop:=∀b,la=some b->∃g rest,b=⟨g,0,none⟩/\rest.length=(m-k)*3/\w.ownsRow 0 96 3 (.slice la m m) m (flat (List.replicate k (sB q))++rest)
theorem en.refl(w:World):en F w w:=⟨rfl,rfl,rfl,io _,fun _ _ _=>rfl⟩
def qW (w w':World)(W q:Nat)(cs:Array Value)(ea:e5)(ec:Nat)(la:e5)(m:Nat)(hs:List fJ):Prop:=
 ∃a c4 ga c d e f h,w'.heap[W]?=some (.cells (cs.setIfInBounds 9 (.slice (some ⟨a,0,none⟩) (4*q+4) c4)) 71 (0,0))/\
  w'.ownsRow 0 55 1 (.slice (some ⟨a,0,none⟩) (4*q+4) c4) (4*q+4) ((hs++[(la,m,m),(some ⟨ga,0,none⟩,m+1,c),(some ⟨d,0,none⟩,m+2,e),(some ⟨f,0,none⟩,m+3,h)]).map fD)/\
  (∀b,la=some b->∃g,b=⟨g,0,none⟩/\w'.ownsRow 0 96 3 (.slice la m m) m (flat (List.replicate m (sB q))))/\
  w'.ownsRow w.heap.size 96 3 (.slice (some ⟨ga,0,none⟩) (m+1) c) (m+1) (flat (List.replicate (m+1) (sB q)))/\
  w'.ownsRow w.heap.size 96 3 (.slice (some ⟨d,0,none⟩) (m+2) e) (m+2) (flat (List.replicate (m+2) (sB q)))/\
  w'.ownsRow w.heap.size 96 3 (.slice (some ⟨f,0,none⟩) (m+3) h) (m+3) (flat (List.replicate (m+3) (sB q)))/\
  ((some a:Option Nat)=(Value.slice ea (4*q) ec).ownBlock\/w.heap.size<=a)/\
  en (fun x=>x=W\/some x=(Value.slice ea (4*q) ec).ownBlock\/some x=(Value.slice la m m).ownBlock) w w'
theorem oK{w S f:World}{cs q:Array Value}{i m:Option Nat}{n c g j o:Nat}{xs r:fE}(hW:S.heap[W]?=some (.cells cs 71 (0,0)))(row:S.ownsRow 0 55 1 (.slice a n c) n xs)
  (p:∀x,(Value.slice a n c).ownBlock=some x->some x=i\/w.heap.size<=x)(hk:en (fun x=>x=W\/some x=i\/some x=m) w S)
  (P:f.heap[W]?=some (.cells q 71 (0,0))/\f.ownsRow 0 55 1 (.slice (some (eb g 0)) j o) j r/\((some g:Option Nat)=(Value.slice a n c).ownBlock\/S.heap.size<=g)/\en (fun k=>k=W\/some k=(Value.slice a n c).ownBlock) S f):
  (∀x,(Value.slice (some (eb g 0)) j o).ownBlock=some x->some x=i\/w.heap.size<=x)/\en (fun x=>x=W\/some x=i\/some x=m) w f/\
   ∀{b:Nat} {v:Value} {l:Nat} {ys:fE},S.ownsRow b 96 3 v l ys->f.ownsRow b 96 3 v l ys:=by
 obtain⟨t,u,s,d⟩:=P;refine⟨fun x hx=>?_,⟨d.os.trans hk.os,d.tape.trans hk.tape,d.output.trans hk.output,pD hk.size d.size,fun x hx hn=>?_⟩,fun hr=>QP hr d hW (by decide) (fun g hg=>ma hr row (by decide) hg)⟩
 ·simp only[Value.ownBlock,kE]at hx
  subst hx;rcases s with e|e
  ·exact p _ e.symm
  ·exact .inr (pD hk.size e)
 ·rw[d.block x (kv hx hk.size) ?_]
  ·exact hk.block x hx hn
  ·rintro(e|e)
   ·exact hn (.inl e)
   ·rcases p x e.symm with h|h
    ·exact hn (.inr (.inl h))
    ·omega
theorem pH(W q:Nat)(cs:Array Value)(ea:e5)(ec m:Nat)(la:e5)(hs:List fJ)(w:World)(hW:w.heap[W]?=some (.cells cs 71 (0,0)))(K:cs[9]?=some (.slice ea (4*q) ec))(hn:hs.length=4*q)(bx:4*q<=1000000000)
  (row:w.ownsRow 0 55 1 (.slice ea (4*q) ec) (4*q) (hs.map fD))(hm:m<=16)(hl:SU w la m):
  eK 44 #[.pointer (some (eb W 8)),.slice la m m] w fun e w'=>e=.returned (.tuple #[])/\qW w w' W q cs ea ec la m hs:=by
 obtain⟨ai,hi,aj,ak,al⟩:=H4 Ec;obtain⟨L,hS,M,N,O⟩:=H4 SS;have a3:W<w.heap.size:=(lF.1 hW).1;have bz:w.cell? (eb W 9)=some (.slice ea (4*q) ec):=by simp[World.cell?,hW,K]
 have P:Hid (SU w la m):=hl;have Q:Hid (w.ownsRow 0 55 1 (.slice ea (4*q) ec) (4*q) (hs.map fD)):=row;have a4:Hid (∀B:Obj,TS (w.alloc B) la m 0 q):=fun B b c=>by
  obtain⟨g,xs,h1,h2⟩:=hl.2 b c;exact⟨g,xs,h1,by rw[h2.1,Nat.sub_zero],by simpa [flat]using h2.alloc B⟩
 have R:Hid (∀g,(Value.slice la m m).ownBlock=some g->g<w.heap.size/\g≠W):=fun g hg=>by
  cases la with
  |none=>cases hg
  |some b=>
   obtain⟨a5,xs,h1,h2⟩:=hl.2 b rfl;refine⟨ee h2 hg,fun e=>?_⟩;subst e;exact eI h2 hW (by decide) hg.symm
 have am:9<cs.size:=(lF.1 K).1;have a6:∀v:Value,(cs.setIfInBounds 9 v)[9]?=some v:=fun v=>by simp[am]
 clear hl row;go_enter func44,ntmps44;go_wp2
 go_loopw [5] (fun i wr=>∃k:Nat,k<=m/\i=.int .i64 (k:Int)/\Hid (en (fun x=>some x=(Value.slice la m m).ownBlock) (w.alloc (.cells #[.string fy,ed (-1000-(q:Int)),ed 0] 96)) wr)/\Hid (TS wr la m k q)) (fun i _=>m-(intOf i).toNat)
 case atStart=>exact⟨0,oY _,rfl,en.refl _,a4.out _⟩
 case round=>
  obtain⟨k,hk,rfl,d,aJ⟩:=hrel;have hkb:∀x,x<w.heap.size+1->some x≠(Value.slice la m m).ownBlock->wr.heap[x]?=(w.alloc (.cells #[.string fy,ed (-1000-(q:Int)),ed 0] 96)).heap[x]?:=fun x hx hne=>d.out.block x (by simpa using hx) hne;have H:wr.heap[w.heap.size]?=some (.cells #[.string fy,ed (-1000-(q:Int)),ed 0] 96 (0,0)):=by
   rw[hkb w.heap.size (by omega) (fun e=>by have:=(R.out _ e.symm).1;omega)];exact pM _ _
  have a7:wr.cell? (eb w.heap.size 0)=some (.string fy):=by simp[World.cell?,H]
  have a8:wr.cell? (eb w.heap.size 1)=some (ed (-1000-(q:Int))):=by simp[World.cell?,H]
  have a9:wr.cell? (eb w.heap.size 2)=some (ed 0):=by simp[World.cell?,H]
  have bb:Hid _:=H;clear H;by_cases bA:k<m
  ·cases la with
   |none=>have:=P.out.1 rfl;omega
   |some b=>
    obtain⟨g,rest,rfl,aK,S⟩:=aJ.out b rfl;have bB:=fun j=>S.frozenAt j;have T:∀j,j<3->∃v,wr.cell? (eb g (k*3+j))=some v:=fun j hj=>by
     rw[S.cellAt (k*3+j) (by omega)];exact⟨_,gJ (by rw[jM,ib,s7,aK];omega)⟩
    obtain⟨bC,bc⟩:=T 0 (by omega);obtain⟨bd,bD⟩:=T 1 (by omega);obtain⟨be,bE⟩:=T 2 (by omega);rw[zT]at bc;have bF:(k:Int)<(m:Int):=by omega
    have bf:Hid _:=S;have bG:g≠w.heap.size:=fun e=>by have:=(R.out g rfl).1;omega
    clear T S hkb;go_wp2;go_roundw
    case rel=>
     refine⟨k+1,by omega,by go_num,?_,?_⟩
     ·exact⟨d.out.os,d.out.tape,d.out.output,by simpa using d.out.size,fun x hx hne=>by
       have an:x≠g:=fun e=>hne (by rw[e];rfl);rw[ij _ _ _ _ an,ij _ _ _ _ an,ij _ _ _ _ an];exact d.out.block x hx hne⟩
     ·intro b c
      cases c;refine⟨g,rest.drop 3,rfl,by rw[jl,aK];omega,?_⟩
      have:=SR (n:=k) bf.out (by simp) (by omega) (sB q)
      rw[<-BR]at this;exact this
    case measure=>simp[intOf];omega
  ·have bg:k=m:=by omega
   subst bg;have ao:Hid (∀b,la=some b->∃g,b=(eb g 0)/\wr.ownsRow 0 96 3 (.slice la k k) k (flat (List.replicate k (sB q)))):=fun b c=>by
    obtain⟨g,rest,h1,h2,h3⟩:=aJ.out b c
    have:rest=[]:=zN (by rw[h2];omega)
    subst this;exact⟨g,h1,by simpa using h3⟩
   have ap:Hid (la=none->k=0/\k=0):=fun h=>⟨P.out.1 h,P.out.1 h⟩;have aq:Hid ((flat (List.replicate k (sB q))).length=k*3):=by show _=_;rw[ib,s7]
   have ar:Hid (∀au:World,(∀x,x<wr.heap.size->au.heap[x]?=wr.heap[x]?)->∀b,la=some b->∀j U,(flat (List.replicate k (sB q)))[j]?=some U->au.cell? (b.add j)=some U):=fun au bh b c j U hu=>by
    obtain⟨g,rfl,ho⟩:=ao.out b c;subst c;have h1:=ho.cells (g:=g) rfl j U hu;rw[lY]at h1 ⊢;rw[ig (a:=(eb g (0+j))) (bh g (ee ho rfl))];exact h1
   have bH:((k:Int)<(k:Int))=False:=by simp
   go_wp2_with(at_builtin;refine Qz _ rfl (.tmp 27) (.tmp 29) 55 rfl 96 ai _ 3 32 underlying55 hi aj ak al rfl (by decide) la k k (flat (List.replicate k (sB q))) rfl ap.out aq.out (ar.out _ (hZ _ _)) (eb wr.heap.size 0) 1 1 (kA (sB q)) rfl rfl (m0 wr (sB q) _ _ rfl) (lL _) (by omega) (by unfold maxLen;omega) (by omega) ?_);intro bI wa av aL;obtain⟨ga,t,rfl⟩:=ej av (by omega);have aw:w.heap.size<wr.heap.size:=(lF.1 bb.out).1;have y:Hid (gS wr wa):=((i7 _ _).alloc (io _) _).grown aL (by simp) (fun k h=>by cases h);have bi:Hid (wa.ownsRow (wr.heap.size+1) 96 3 (.slice (some (eb ga 0)) (k+1) t) (k+1) (flat (List.replicate (k+1) (sB q)))):=by rw[BR,ld,mn];exact av
   have aM:=(y.out.cell (p:=(eb w.heap.size 0)) aw).trans a7;have aN:=(y.out.cell (p:=(eb w.heap.size 1)) aw).trans a8;have aO:=(y.out.cell (p:=(eb w.heap.size 2)) aw).trans a9;have bj:wr.heap.size<=wa.heap.size:=y.out.size;have bk:Hid (∀o:Obj,∀x,x<wr.heap.size->(wa.alloc o).heap[x]?=wr.heap[x]?):=fun o x hx=>(hZ wa o x (by omega)).trans (y.out.block x hx);clear aL av;go_wp2_with(at_builtin;refine Qz _ rfl (.tmp 31) (.tmp 34) 55 rfl 96 ai _ 3 32 underlying55 hi aj ak al rfl (by decide) la k k (flat (List.replicate k (sB q))) rfl ap.out aq.out (ar.out _ (bk.out _)) (eb wa.heap.size 0) 2 2 (flat [sB q,sB q]) rfl rfl (gP wa (flat [sB q,sB q]) 96) (PQ _) (by omega) (by unfold maxLen;omega) (by omega) ?_);intro bJ wb ax aP;obtain⟨D,E,rfl⟩:=ej ax (by omega);have A:Hid (gS wa wb):=((i7 _ _).alloc (io _) _).grown aP (by simp) (fun k h=>by cases h);have bl:Hid (wb.ownsRow (wa.heap.size+1) 96 3 (.slice (some (eb D 0)) (k+2) E) (k+2) (flat (List.replicate (k+2) (sB q)))):=by rw[<-Qi,ld];exact ax
   have bm:=(A.out.cell (p:=(eb w.heap.size 0)) (by show w.heap.size<_;omega)).trans aM;have bn:=(A.out.cell (p:=(eb w.heap.size 1)) (by show w.heap.size<_;omega)).trans aN;have bo:=(A.out.cell (p:=(eb w.heap.size 2)) (by show w.heap.size<_;omega)).trans aO;have bK:wa.heap.size<=wb.heap.size:=A.out.size;have bp:Hid (∀o:Obj,∀x,x<wr.heap.size->(wb.alloc o).heap[x]?=wr.heap[x]?):=fun o x hx=>(hZ wb o x (by omega)).trans ((A.out.block x (by omega)).trans (y.out.block x hx));clear aP ax aM aN aO;go_wp2_with(at_builtin;refine Qz _ rfl (.tmp 36) (.tmp 40) 55 rfl 96 ai _ 3 32 underlying55 hi aj ak al rfl (by decide) la k k (flat (List.replicate k (sB q))) rfl ap.out aq.out (ar.out _ (bp.out _)) (eb wb.heap.size 0) 3 3 (flat [sB q,sB q,sB q]) rfl rfl (gP wb (flat [sB q,sB q,sB q]) 96) (PQ _) (by omega) (by unfold maxLen;omega) (by omega) ?_);intro bL wc ay aQ;obtain⟨V,X,rfl⟩:=ej ay (by omega);have Y:Hid (gS wb wc):=((i7 _ _).alloc (io _) _).grown aQ (by simp) (fun k h=>by cases h);have bq:Hid (wc.ownsRow (wb.heap.size+1) 96 3 (.slice (some (eb V 0)) (k+3) X) (k+3) (flat (List.replicate (k+3) (sB q)))):=by rw[<-Qi,ld];exact ay
   have bM:wb.heap.size<=wc.heap.size:=Y.out.size;clear aQ ay bm bn bo;have u:Hid (gS wr wc):=(y.out.trans (A.out.mono bj)).trans (Y.out.mono (by omega));have F:wc.heap[W]?=some (.cells cs 71 (0,0)):=by
    rw[u.out.block W (by omega),hkb W (by omega) (fun e=>(R.out W e.symm).2 rfl),jU _ _ _ a3];exact hW
   have Z:Hid (wc.ownsRow 0 55 1 (.slice ea (4*q) ec) (4*q) (hs.map fD)):=eh Q.out (fun g hg=>by
    have hl:=ee Q.out hg;rw[u.out.block g (by omega),hkb g (by omega) (fun e=>?_),jU _ _ _ hl];cases la with
    |none=>cases e
    |some b=>
     obtain⟨a5,_,ho⟩:=ao.out b rfl;obtain⟨bN,bO⟩:=p3 Q.out hg;have bQ:=R.out g e.symm;obtain⟨aa,bR,h1,h2⟩:=P.out.2 b rfl;exact ma Q.out h2 (by decide) hg e)
   have bS:W<wc.heap.size:=by omega
   have br:wc.cell? (eb W 9)=some (.slice ea (4*q) ec):=by simp[World.cell?,F,K]
   have f9:wc.frozen? (eb W 9)=false:=by simp[World.frozen?,F]
   go_wp2_with(at_builtin;refine hE rfl (.tmp 46) (.tmp 48) 65 rfl 0 55 L _ 1 24 underlying65 hS M N O rfl (by decide) (.slice ea (4*q) ec) (4*q) (hs.map fD) rfl (mL Z.out _) (eb wc.heap.size 0) 1 1 [.slice la k k] rfl rfl (one_cell _ _ _ _ rfl) zr (by unfold maxLen;omega) (by omega) (oY _) ?_);intro bd G az ab aR;obtain⟨aS,c1,rfl⟩:=ej az (by omega);have aT:=kw (i:=9) F Z.out (by decide) (hZ _ _) (by simp) ⟨rfl,rfl,rfl⟩ az ab aR (by omega);have aA:=oX F (hZ _ _) (by simp) ab (eI Z.out F (by decide));have bT:wc.heap.size<=G.heap.size:=by have:=ab.size;simp at this;omega
   have bs:G.cell? (eb W 9)=some (.slice ea (4*q) ec):=by simp[World.cell?,aA,K]
   have f91:G.frozen? (eb W 9)=false:=by simp[World.frozen?,aA]
   have f:Hid _:=aT;have bU:W<G.heap.size:=by omega
   clear az ab aR aT aA br f9;go_wp2_with(at_builtin;refine hE rfl (.tmp 56) (.tmp 58) 65 rfl 0 55 L _ 1 24 underlying65 hS M N O rfl (by decide) (.slice (some (eb aS 0)) (4*q+1) c1) (4*q+1) (hs.map fD++[.slice la k k]) rfl (mL f.out.2.1 _) (eb G.heap.size 0) 1 1 [.slice (some (eb ga 0)) (k+1) t] rfl rfl (one_cell _ _ _ _ (by simp)) zr (by unfold maxLen;omega) (by omega) (oY _) ?_);intro be C aB ac aU;obtain⟨aa,c2,rfl⟩:=ej aB (by omega);have aV:C.ownsRow 0 55 1 (.slice (some (eb aa 0)) (4*q+1+1) c2) (4*q+1+1) (hs.map fD++[.slice la k k]++[.slice (some (eb ga 0)) (k+1) t]):=by simpa using aB
   have aW:=kw (i:=9) f.out.1 f.out.2.1 (by decide) (hZ _ _) (by simp) ⟨rfl,rfl,rfl⟩ aV ac aU (by simp);have aC:=oX f.out.1 (hZ _ _) (by simp) ac (eI f.out.2.1 f.out.1 (by decide));have bV:G.heap.size<=C.heap.size:=by have:=ac.size;simp at this;omega
   have bt:C.cell? (eb W 9)=some (.slice (some (eb aS 0)) (4*q+1) c1):=by simp[World.cell?,aC,a6]
   have f92:C.frozen? (eb W 9)=false:=by simp[World.frozen?,aC]
   have r:Hid _:=aW;have bW:W<C.heap.size:=by omega
   clear aB aV ac aU aW aC bs f91;go_wp2_with(at_builtin;refine hE rfl (.tmp 66) (.tmp 68) 65 rfl 0 55 L _ 1 24 underlying65 hS M N O rfl (by decide) (.slice (some (eb aa 0)) (4*q+1+1) c2) (4*q+1+1) (hs.map fD++[.slice la k k]++[.slice (some (eb ga 0)) (k+1) t]) rfl (mL r.out.2.1 _) (eb C.heap.size 0) 1 1 [.slice (some (eb D 0)) (k+2) E] rfl rfl (one_cell _ _ _ _ (by simp)) zr (by unfold maxLen;omega) (by omega) (oY _) ?_);intro bX w3 aD ad aX;obtain⟨g3,c3,rfl⟩:=ej aD (by omega);have aY:w3.ownsRow 0 55 1 (.slice (some (eb g3 0)) (4*q+1+1+1) c3) (4*q+1+1+1) (hs.map fD++[.slice la k k]++[.slice (some (eb ga 0)) (k+1) t]++[.slice (some (eb D 0)) (k+2) E]):=by simpa using aD
   have aZ:=kw (i:=9) r.out.1 r.out.2.1 (by decide) (hZ _ _) (by simp) ⟨rfl,rfl,rfl⟩ aY ad aX (by simp);have aE:=oX r.out.1 (hZ _ _) (by simp) ad (eI r.out.2.1 r.out.1 (by decide));have bY:C.heap.size<=w3.heap.size:=by have:=ad.size;simp at this;omega
   have bu:w3.cell? (eb W 9)=some (.slice (some (eb aa 0)) (4*q+1+1) c2):=by simp[World.cell?,aE,am]
   have f93:w3.frozen? (eb W 9)=false:=by simp[World.frozen?,aE]
   have s:Hid _:=aZ;have bZ:W<w3.heap.size:=by omega
   clear aD aY ad aX aZ aE bt f92;go_wp2_with(at_builtin;refine hE rfl (.tmp 76) (.tmp 78) 65 rfl 0 55 L _ 1 24 underlying65 hS M N O rfl (by decide) (.slice (some (eb g3 0)) (4*q+1+1+1) c3) (4*q+1+1+1) (hs.map fD++[.slice la k k]++[.slice (some (eb ga 0)) (k+1) t]++[.slice (some (eb D 0)) (k+2) E]) rfl (mL s.out.2.1 _) (eb w3.heap.size 0) 1 1 [.slice (some (eb V 0)) (k+3) X] rfl rfl (one_cell _ _ _ _ (by simp)) zr (by unfold maxLen;omega) (by omega) (oY _) ?_);intro b0 I aF aG a0;obtain⟨J,c4,rfl⟩:=ej aF (by omega);have a1:I.ownsRow 0 55 1 (.slice (some (eb J 0)) (4*q+1+1+1+1) c4) (4*q+1+1+1+1) (hs.map fD++[.slice la k k]++[.slice (some (eb ga 0)) (k+1) t]++[.slice (some (eb D 0)) (k+2) E]++[.slice (some (eb V 0)) (k+3) X]):=by simpa using aF
   have a2:=kw (i:=9) s.out.1 s.out.2.1 (by decide) (hZ _ _) (by simp) ⟨rfl,rfl,rfl⟩ a1 aG a0 (by simp);have aH:=oX s.out.1 (hZ _ _) (by simp) aG (eI s.out.2.1 s.out.1 (by decide));have b1:I.cell? (eb W 9)=some (.slice (some (eb g3 0)) (4*q+1+1+1) c3):=by simp[World.cell?,aH,am]
   have f94:I.frozen? (eb W 9)=false:=by simp[World.frozen?,aH]
   have aI:Hid _:=a2;clear aF a1 aG a0 a2 aH bu f93;have bv:Hid (en (fun x=>x=W\/some x=(Value.slice ea (4*q) ec).ownBlock\/some x=(Value.slice la k k).ownBlock) w wc):=by
    have z:=d.out.size;simp at z;exact⟨u.out.os.trans d.out.os,u.out.tape.trans d.out.tape,u.out.output.trans d.out.output,by have:=u.out.size;omega,fun x hx hne=>by rw[u.out.block x (by omega),hkb x (by omega) (fun e=>hne (.inr (.inr e))),jU _ _ _ hx]⟩
   have ae:=oK F Z.out (fun x hx=>.inl hx.symm) bv.out f.out;have af:=oK f.out.1 f.out.2.1 ae.1 ae.2.1 r.out;have ag:=oK r.out.1 r.out.2.1 af.1 af.2.1 s.out;have ah:=oK s.out.1 s.out.2.1 ag.1 ag.2.1 aI.out;have bw:Hid (qW w (I.setCell (eb W 9) (.slice (some (eb J 0)) (4*q+1+1+1+1) c4)) W q cs ea ec la k hs):=by
    have all:∀{b:Nat} {v:Value} {l:Nat} {ys:fE},wc.ownsRow b 96 3 v l ys->(I.setCell (eb W 9) (.slice (some (eb J 0)) (4*q+1+1+1+1) c4)).ownsRow b 96 3 v l ys:=fun h=>ah.2.2 (ag.2.2 (af.2.2 (ae.2.2 h)));refine⟨J,c4,ga,t,D,E,V,X,?_,?_,fun b c=>?_,?_,?_,?_,ah.1 J rfl,ah.2.1⟩
    ·have:=aI.out.1
     simpa using this
    ·have:=aI.out.2.1
     simpa [fD]using this
    ·obtain⟨g,h1,h2⟩:=ao.out b c
     exact⟨g,h1,all (eh h2 (fun x hx=>u.out.block x (ee h2 hx)))⟩
    ·have h:=bi.out
     exact lw (all (eh h (fun x hx=>by
      have hl:=ee h hx;rw[Y.out.block x (by omega),A.out.block x hl]))) (by omega)
    ·have h:=bl.out
     exact lw (all (eh h (fun x hx=>Y.out.block x (ee h hx)))) (by omega)
    ·exact lw (all bq.out) (by omega)
   clear ae af ag ah;go_wp2;go_end0;exact⟨rfl,bw.out⟩
end Go.Proofs.YtlgidcmmgohagaaGreat
