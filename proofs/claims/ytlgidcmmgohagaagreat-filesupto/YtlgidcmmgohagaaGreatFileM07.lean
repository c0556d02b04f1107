/- What is proved here: the law's step gtr at a Qq that is there. -/
import Derived.Test.YtlgidcmmgohagaaGreatFileM06
import Derived.Deep.RegionLaw
namespace Go.Proofs.YtlgidcmmgohagaaGreat
open Go.RowKit Go.Sort Go.Shelf Go.Proofs.Tryz
set_option linter.unusedVariables false
set_option maxRecDepth 100000
set_option maxHeartbeats 16000000
variable {gl m:Nat}{w2 w3 w4:World}{ky iy:List Ob}{es:List eN}
variable {ft:CX}
section
variable {FL FR FS FH:Nat->Prop}{w:World}{W s r:Nat}{ey eC:List Ob}{c5 c6 c7 c8 c9 c10 c11:Value}{ea:fD}{ec q:Nat}{hs:List gf}
theorem LJ{w2 w3 wr w4:World}{j a1 a2 a3 l:Value}(h:W3 ft FL FR FS w W s r ey eC c5 c6 c7 c8 (.slice ea (4*q) ec) c10 c11)(f:Held FH w ea ec q hs)(hap:∀k,FH k->¬F3 FL FR FS k)(hm:m<=16)
  (b:ik w w2)(n:w.heap.size<=gl/\gl<w2.heap.size)(h3:W3 ft (kp FL w2 w3) FR FS w3 W s r ey eC c5 c6 c7 c8 (.slice ea (4*q) ec) c10 c11)(c:eA FL w2 w3)(a:ik w3 wr)
  (hW:wr.heap[W]?=some (.cells #[j,a1,a2,a3,l,c5,c6,c7,c8,.slice ea (4*q) ec,c10,c11] 71 (0,0)))(hk:ur wr w4 W q #[j,a1,a2,a3,l,c5,c6,c7,c8,.slice ea (4*q) ec,c10,c11] ea ec (some (eI gl 0)) m hs):
  rE ft FL FR FS FH w w4 W s r (q+1) c5 c6 c7 c8 c10 c11:=by
 have z:=b.size;have A:=c.size;have B:=a.size;have fW:FL W:=by obtain⟨_,_,_,_,_,_,_,hl,_⟩:=h.law;exact hl.fw
 have i:∀k,F3 FL FR FS k->k<w.heap.size:=fun k hk=>by
  rcases hk with h1|h1|h1
  ·exact h.sep.ll k h1
  ·exact(h.sep.rl k h1).1
  ·exact(h.sep.sl k h1).1
 have o:∀k,FH k->¬F3 (kp FL w2 w3) FR FS k:=fun k hk hf=>by
  have:=f.lt k hk
  rcases hf with(h1|h1)|h1|h1
  ·exact hap k hk (.inl h1)
  ·have:=h1.1;omega
  ·exact hap k hk (.inr (.inl h1))
  ·exact hap k hk (.inr (.inr h1))
 have p:Held FH wr ea ec q hs:=f.keep (fun k hk=>by
  have:=f.lt k hk
  rw[a.block k (by omega),c.block k (by omega) (fun hf=>hap k hk (.inl hf)),b.block k this]) (by omega)
 obtain⟨t,u,v,x,n1,n2,n3,y,d⟩:=DY (la:=some (eI gl 0)) (m:=m) (h3.below a) p o hm (fun g hg=>by
  obtain rfl:gl=g:=by simpa [Value.ownBlock]using hg
  refine⟨fun hf=>?_,fun hf=>by have:=f.lt gl hf;omega,by omega⟩;rcases hf with(h1|h1)|h1|h1
  ·have:=i gl (.inl h1);omega
  ·have:=h1.1;omega
  ·have:=i gl (.inr (.inl h1));omega
  ·have:=i gl (.inr (.inr h1));omega) (fun e=>by cases e) hW hk
 refine⟨kp FL w2 w3,FR,FS,t,ey,eC,u,v,x,n1,n2,n3,fun k=>⟨fun h1=>?_,.inl,.inl⟩,fun k e=>?_,⟨d.os.trans (a.os.trans (c.os.trans b.os)),d.tape.trans (a.tape.trans (c.tape.trans b.tape)),d.output.trans (a.output.trans (c.output.trans b.output)),by have:=d.size;omega,fun k hk hn=>?_⟩⟩
 ·rcases h1 with h1|h1
  ·exact .inl h1
  ·exact .inr (by have:=h1.1;omega)
 ·rcases y k e with e|e|e
  ·exact .inl e
  ·exact .inr (by omega)
  ·obtain rfl:k=gl:=by simpa [Value.ownBlock]using e
   exact .inr n.1
 ·rw[d.block k (by omega) ?_,a.block k (by omega),c.block k (by omega) (fun hf=>hn (.inl (.inl hf))),b.block k hk]
  rintro(e|e|e)
  ·exact hn (.inl (.inl (e▸fW)))
  ·exact hn (.inr e)
  ·have:k=gl:=by simpa [Value.ownBlock]using e
   omega
theorem LK{gl m base:Nat}(h:W3 ft FL FR FS w W s r ey eC c5 c6 c7 c8 c9 c10 c11)(ho:w2.ownsRow base 96 3 (.slice (some (eI gl 0)) m m) m (flat es))(b:ik w w2)(h3:W3 ft (kp FL w2 w3) FR FS w3 W s r ey eC c5 c6 c7 c8 c9 c10 c11)(hk:eA FL w2 w3)(c:w.heap.size<=base:=by simp):
  w3.ownsRow 0 96 3 (.slice (some (eI gl 0)) m m) m (flat es)/\∃w2,ik w w2/\(w.heap.size<=gl/\gl<w2.heap.size)/\W3 ft (kp FL w2 w3) FR FS w3 W s r ey eC c5 c6 c7 c8 c9 c10 c11/\eA FL w2 w3:=by
 obtain⟨d,a⟩:=ho.lt gl rfl;refine⟨eQ (pj ho (tk _)) (fun x hx=>?_),w2,b,⟨by omega,a⟩,h3,hk⟩;obtain rfl:gl=x:=by simpa [Value.ownBlock]using hx
 exact hk.block gl a (fun hf=>by have:=h.sep.ll gl hf;omega)
theorem LL(h:W3 ft FL FR FS w W s r ey eC c5 c6 c7 c8 (.slice ea (4*q) ec) c10 c11)(ab:Held FH w ea ec q hs)(hap:∀k,FH k->¬F3 FL FR FS k)(hq:4*q<=1000000000)(a1 a3:Int)(S T:eD)(la:fD)(lm lc:Nat)(j:Nat)(hj:j<ey.length)(hk:ey[j].kind=2):
  gc 20 #[hh W,.agg #[eJ 4,eJ a1,eJ ((j:Int)+1),eJ a3,.string S,.string T,.slice la lm lc]] w fun e w'=>e=.returned (.bool true)/\rE ft FL FR FS FH w w' W s r (q+1) c5 c6 c7 c8 c10 c11:=by
 obtain⟨aH,aI,bk,bl⟩:=h.law.cells;obtain⟨D,K⟩:=h.aac j hj hk;have aJ:=h.few.1;have f:∀B,ik w (w.alloc B):=fun B=>(lh _ _).alloc (kx _) _;have y:∀B W2,Below (w.alloc B).heap.size (w.alloc B) W2->ik w W2:=fun B W2 a=>(f B).trans (a.mono (by simp));have hid:=fun B=>zf (h.below (f B)) ((j:Int)+1);have E:=fun B=>DS (h.below (f B)).uu j hj hk;have ac:=fun B W2 (a:Below (w.alloc B).heap.size (w.alloc B) W2)=>oM (h.below (y B W2 a)) j hj;have L:=fun B W2 (a:Below (w.alloc B).heap.size (w.alloc B) W2)=>xb (h.below (y B W2 a)) j hj;rw[hk]at L;have ad:=fun B W2 (a:Below (w.alloc B).heap.size (w.alloc B) W2)=>Uk (h.below (y B W2 a)) j hj;have ae:=fun(e:Int) (aK:World)=>IR e aK;have z:Hid (∀{FL FR FS:Nat->Prop} (w:World),W3 ft FL FR FS w W s r ey eC c5 c6 c7 c8 (.slice ea (4*q) ec) c10 c11->_):=fun w h=>W3.items h j hj hk;have af:Hid (∀{FL FR FS:Nat->Prop} (w:World),W3 ft FL FR FS w W s r ey eC c5 c6 c7 c8 (.slice ea (4*q) ec) c10 c11->∀i,i<ey.length->_):=fun w h i hi=>W3.ids h i hi;have A:Hid (Held FH w ea ec q hs):=ab;have ag:Hid (∀k,FH k->¬F3 FL FR FS k):=hap;have ah:Hid (W3 ft FL FR FS w W s r ey eC c5 c6 c7 c8 (.slice ea (4*q) ec) c10 c11):=h;obtain⟨es,ai⟩:∃es,es=ey[j].eR:=⟨_,rfl⟩;rw[<-ai]at E D K z;obtain⟨m,M⟩:∃m,m=es.length:=⟨_,rfl⟩;rw[<-M]at E D z;obtain⟨n,aj⟩:∃n,n=ey.length:=⟨_,rfl⟩;rw[<-aj]at z af aJ;have bm:(j:Int)<(n:Int):=by omega
 have bn:j<n:=by omega
 have aL:Hid (m=es.length):=M;have aM:Hid (∀e∈es,1<=e.2.2/\e.2.2<=(j:Int)):=K;have ak:Hid _:=hid;have al:Hid _:=E;have am:Hid _:=ac;have an:Hid _:=L;have ao:Hid _:=ae;have ap:Hid _:=ad;have aq:Hid (∀B W2,Below (w.alloc B).heap.size (w.alloc B) W2->ik w W2):=y;clear hid E ac L ae h ab hap ad ai M aj K hk hj y;go_enter func20,ntmps20;go_wp2_with(first
  |(go_at_call 39;refine io (ak.out _) ?_;rintro _ _ ⟨rfl,rfl⟩)
  |(go_at_call 43;refine io (al.out _) ?_;rintro _ w2 ⟨gl,rfl,ar,d⟩;have au:Hid _:=ar;clear ar;have av:Hid (ik w w2):=aq.out _ _ d)
  |(go_at_call 41;refine io (am.out _ _ d) ?_;rintro _ _ ⟨rfl,rfl⟩)
  |(go_at_call 42;refine io (an.out _ _ d) ?_;rintro _ _ ⟨rfl,rfl⟩)
  |(go_at_call 22;refine io (ao.out _ _) ?_;rintro _ _ ⟨rfl,rfl⟩)
  |(go_at_call 37;refine io (ap.out _ _ d) ?_;rintro _ w3 ⟨rfl,h3,l⟩;have u:Hid _:=LK ah.out au.out av.out h3 l;have aN:Hid (∃N,W3 ft N FR FS w3 W s r ey eC c5 c6 c7 c8 (.slice ea (4*q) ec) c10 c11):=⟨_,h3⟩;obtain⟨aO,aw,bo,_⟩:=fZ.cells h3.law;obtain⟨g,cap,ia,ic,O,ax,ay,o2,aP⟩:=z.out _ h3;clear h3 l))
 clear au av d ak al am an ao ap aq f aH aI O o2 ax ay aP aO aw
 go_loopw [19,20] (fun o i wr=>∃k:Nat,k<=m/\o=.bool true/\i=.int .i64 (k:Int)/\ik w3 wr) (fun _ i _=>m-(intOf i).toNat)
 case atStart=>exact⟨0,tk _,rfl,rfl,lh _ _⟩
 case round=>
  obtain⟨k,hk,rfl,rfl,a⟩:=hrel;obtain⟨N,h3⟩:=aN.out;have hr:=h3.below a;have aQ:Hid (W3 ft N FR FS wr W s r ey eC c5 c6 c7 c8 (.slice ea (4*q) ec) c10 c11):=hr;obtain⟨_,aw,aR,_⟩:=fZ.cells hr.law;by_cases aS:k<m
  ·have v:k<es.length:=by rw[<-aL.out];exact aS
   obtain⟨g,cap,ia,ic,O,ax,ay,o2,o3⟩:=z.out _ hr;obtain⟨P,bp,az⟩:=fj o3 (by omega);rw[(nH az).1]at o2 o3;have bq:=eK o3 rfl;obtain⟨F,G,H⟩:=ld (off:=0) (jn o3) (i:=k) (by simpa using v);rw[iP,Fa]at F G H;obtain⟨x,hx⟩:∃x,x=es[k]:=⟨_,rfl⟩;have aT:Hid (x=es[k]):=hx;rw[<-hx]at F G H;obtain⟨aU,aV⟩:=aM.out x (by rw[hx];exact kj v);obtain⟨c,Q⟩:∃c:Nat,x.2.2=(c:Int)+1:=⟨(x.2.2-1).toNat,by omega⟩;have aW:wr.cell? (eI P (k*3+2))=some (eJ (c:Int)):=by rw[H];unfold fH;rw[Q];simp
   have aX:wr.cell? (eI P (k*3))=some (.string x.1):=F;have aY:wr.cell? (eI P (k*3+1))=some (eJ x.2.1):=G;have aZ:(k:Int)<(m:Int):=by omega
   have bb:Hid (x.2.2=(c:Int)+1):=Q;have br:(c:Int)<(n:Int):=by omega
   have bc:c<n:=by omega
   clear hr h3 F G H o3 az hx aU aV Q;go_wp2;obtain⟨X,C⟩:∃X:Obj,X=.cells #[.string x.1,eJ x.2.1,eJ (c:Int)] 112:=⟨_,rfl⟩;obtain⟨w5,t⟩:∃w5,w5=wr.alloc X:=⟨_,rfl⟩;have R:ik wr w5:=by rw[t];exact(lh _ _).alloc (kx _) X
   have I:ik w3 w5:=a.trans (R.mono a.size);have bs:w5.cell? (eI wr.heap.size 0)=some (.string x.1):=by rw[t,C];simp
   have bt:w5.cell? (eI wr.heap.size 1)=some (eJ x.2.1):=by rw[t,C];simp
   have bu:w5.cell? (eI wr.heap.size 2)=some (eJ (c:Int)):=by rw[t,C];simp
   have bv:w5.heap.size=wr.heap.size+1:=by rw[t];simp
   obtain⟨U,V,Y⟩:=ld (off:=0) (jn u.out.1) v;rw[iP,<-aT.out]at U V Y;have Z:gl<w3.heap.size:=eK u.out.1 rfl;have bd:Hid (∀q,(loadVar 96 (eI gl (k*3))).run prog (w5.drewN q)=.ok (.agg #[.string x.1,eJ x.2.1,eJ x.2.2]) (w5.drewN q)):=fun q=>ldE _ gl (k*3) x ((I.cell (p:=(eI gl (k*3))) Z).trans U) ((I.cell (p:=(eI gl (k*3+1))) Z).trans V) ((I.cell (p:=(eI gl (k*3+2))) Z).trans Y);obtain⟨aA,bw,d0,be,d1⟩:=af.out _ aQ.out c bc;have bx:=(R.cell (p:=(eI W 2)) aR).trans d0;have d15:=(R.cell (p:=(eI aA c)) be).trans d1;have bz:W<w5.heap.size:=by omega
   have bA:aA<w5.heap.size:=by omega
   rw[<-C,<-t];clear C t U V Y d0 d1 aX aY aW O o2;refine Zj (by kernel_rfl) (by kernel_rfl) ?_
   iterate 3 quiet_step (fail)
   refine iT rfl 96 _ rfl (eI gl (k*3)) rfl (.agg #[.string x.1,eJ x.2.1,eJ x.2.2]) (by rintro _ ⟨n,rfl⟩;exact bd.out _) ?_
   go_frame
   iterate 13 quiet_step (fail)
   refine sN rfl .eql 96 96 _ _ rfl (.agg #[.string x.1,eJ x.2.1,eJ x.2.2]) (.agg #[.string x.1,eJ x.2.1,eJ ((c:Int)+1)]) (.bool (decide (x=(x.1,x.2.1,(c:Int)+1)))) rfl rfl (by rintro _ ⟨n,rfl⟩;exact Ud _ _ _ _ _ _) (by rintro _ ⟨n,rfl⟩;exact Uj _ x (x.1,x.2.1,(c:Int)+1)) ?_
   go_frame
   iterate 1 quiet_step (fail)
   refine wpQuiet_nil ?_;rintro _ ⟨nq,rfl⟩;have hd:decide (x=(x.1,x.2.1,(c:Int)+1))=true:=mz (Ay rfl (Ay rfl bb.out));rw[hd];clear hd;go_wp2;go_roundw
   case rel=>exact⟨k+1,by omega,rfl,by go_num,iQ I nq⟩
   case measure=>simp[intOf];omega
  ·have aZ:k=m:=by omega
   have bB:decide ((k:Int)<(m:Int))=false:=rk (by omega);obtain⟨aB,f,aC,aD,aE,aa⟩:=hr.block;have aF:wr.ownsRow 0 55 1 (.slice ea (4*q) ec) (4*q) (hs.map fP):=by
    obtain⟨_,w2,d,_,_,l⟩:=u.out;have bC:=d.size;have bD:=l.size;refine eQ A.out.row (fun x hx=>?_);have hf:=A.out.own x hx
    have:=A.out.lt x hf
    rw[a.block x (by omega),l.block x (by omega) (fun h=>ag.out x hf (.inl h)),d.block x this]
   have aG:Zx wr (some (eI gl 0)) m:=⟨(fun e=>by cases e),fun b e=>⟨gl,_,(zQ e).symm,eQ u.out.1 (fun x hx=>a.block x (eK u.out.1 hx))⟩⟩;have v:=rZ W q #[aB,f,aC,aD,aE,c5,c6,c7,c8,.slice ea (4*q) ec,c10,c11] ea ec m (some (eI gl 0)) hs wr aa rfl A.out.len hq aF D aG;have bf:Hid _:=v;have bg:Hid (∀w4,ur wr w4 W q #[aB,f,aC,aD,aE,c5,c6,c7,c8,.slice ea (4*q) ec,c10,c11] ea ec (some (eI gl 0)) m hs->rE ft FL FR FS FH w w4 W s r (q+1) c5 c6 c7 c8 c10 c11):=fun w4 J=>by
    obtain⟨_,w2,d,bh,bi,l⟩:=u.out;exact LJ ah.out A.out ag.out D d bh bi l a aa J
   clear hr h3 aF aG v aa;go_wp2_with(go_at_call 44;refine io bf.out ?_;rintro _ w4 ⟨rfl,J⟩;have bj:Hid _:=bg.out _ J;clear J);go_ret;exact⟨rfl,bj.out⟩
theorem FV(h:W3 ft FL FR FS w W s r ey eC c5 c6 c7 c8 (.slice ea (4*q) ec) c10 c11)(b:Held FH w ea ec q hs)(hap:∀k,FH k->¬F3 FL FR FS k)(hq:4*q<=1000000000)(a1 a a3:Int)(S T:eD)(la:fD)(lm lc:Nat):
  gc 20 #[hh W,.agg #[eJ 4,eJ a1,eJ a,eJ a3,.string S,.string T,.slice la lm lc]] w fun e w'=>e=.returned (.bool true)/\rE ft FL FR FS FH w w' W s r (q+1) c5 c6 c7 c8 c10 c11:=by
 by_cases hk:eM ey a=2
 ·have hid:¬(a<1\/(ey.length:Int)<a):=fun h=>by rw[Pl h]at hk;cases hk
  obtain⟨j,rfl⟩:∃j:Nat,a=(j:Int)+1:=⟨(a-1).toNat,by omega⟩;have hj:j<ey.length:=by omega
  rw[tx hj]at hk;exact LL h b hap hq a1 a3 S T la lm lc j hj hk
 ·exact IE h b hap hq a1 a a3 S T la lm lc hk
end
variable {ft:CX}
section
variable {FL FR FS FH:Nat->Prop}{w:World}{W s r:Nat}{ey eC:List Ob}{c5 c6 c7 c8 c9 c10 c11:Value}
theorem uY{c w2 w3:World}{e:Ending}{id ec x y:Int}(h:W3 ft FL FR FS w W s r ey eC c5 c6 c7 c8 c9 c10 c11)(b:ik w c)(hk:eA FS c w2)(hi:gh ft (kp FS c w2) w2 s ky)
  (d:eA FR w2 w3)(j:fh (kp FR w2 w3) w3 r iy)(nK:iJ ey ky es e)(g:wK eC iy (es.map (gL ey.length)) x y)(f:e=.returned (.tuple #[eJ id,eJ ec])):
  vI ey ky eC iy id ec x y/\fZ FL w3 W s r ey.length c5 c6 c7 c8 c9 c10 c11/\gh ft (kp FS c w2) w3 s ky/\fh (kp FR w2 w3) w3 r iy/\Sep w3 FL (kp FR w2 w3) (kp FS c w2)/\iL iy/\eA (F3 FL FR FS) w w3:=by
 have t:=b.size;have u:=hk.size;have v:w2.heap.size<=w3.heap.size:=d.size;obtain⟨l,m,i,n⟩:=Qm h.twin nK g;rw[f]at i;have o:id=l/\ec=m:=by simpa using i
 obtain⟨rfl,rfl⟩:=o;have Zy:∀k,k<w2.heap.size->¬FR k->w3.heap[k]?=w2.heap[k]?:=fun k hk hn=>d.block k hk hn;have hl:fZ FL w2 W s r ey.length c5 c6 c7 c8 c9 c10 c11:=h.law.keep (fun _ h=>h) (fun k a=>by
  have p:=h.sep.ll k a;rw[hk.block k (by omega) (fun hf=>(h.sep.sl k hf).2 a),b.block k p])
 refine⟨n,hl.keep (fun _ h=>h) (fun k a=>Zy k (by have:=h.sep.ll k a;omega) (fun hr=>(h.sep.rl k hr).2 a)),gh.keep hi (fun _ h=>h) (fun k a=>Zy k ?_ (fun hr=>?_)),j,⟨fun k a=>by have:=h.sep.ll k a;omega,fun k a=>?_,fun k a=>?_,fun k a hs=>?_⟩,Qn h.at_ (fun e f=>?_) g,⟨?_,?_,?_,by omega,fun k a hn=>?_⟩⟩
 ·rcases a with h'|h'
  ·have:=(h.sep.sl k h').1;omega
  ·exact h'.2
 ·rcases a with h'|h'
  ·exact h.sep.rs k hr h'
  ·have:=(h.sep.rl k hr).1;omega
 ·rcases a with h'|h'
  ·exact⟨by have:=(h.sep.rl k h').1;omega,(h.sep.rl k h').2⟩
  ·exact⟨h'.2,fun hf=>by have:=h.sep.ll k hf;have:=h'.1;omega⟩
 ·rcases a with h'|h'
  ·exact⟨by have:=(h.sep.sl k h').1;omega,(h.sep.sl k h').2⟩
  ·exact⟨by have:=h'.2;omega,fun hf=>by have:=h.sep.ll k hf;have:=h'.1;omega⟩
 ·rcases a with h'|h'
  ·rcases hs with h2|h2
   ·exact h.sep.rs k h' h2
   ·have:=(h.sep.rl k h').1;have:=h2.1;omega
  ·rcases hs with h2|h2
   ·have:=(h.sep.sl k h2).1;have:=h'.1;omega
   ·have:=h'.1;have:=h2.2;omega
 ·obtain⟨q,_,rfl⟩:=ij.1 f
  have:=h.twin.1
  unfold gL;split
  ·next z=>show q.2.2-1<_;omega
  ·show(-1:Int)<_;omega
 ·exact d.os.trans (hk.os.trans b.os)
 ·exact d.tape.trans (hk.tape.trans b.tape)
 ·exact d.output.trans (hk.output.trans b.output)
 ·rw[Zy k (by omega) (fun hr=>hn (.inr (.inl hr))),hk.block k (by omega) (fun hr=>hn (.inr (.inr hr))),b.block k a]
theorem Bo{c d:Nat->Prop}{f:Nat}(hl:fZ FL w3 W s r ey.length c5 c6 c7 c8 c9 c10 c11)(hi:gh ft d w3 s ky)(hr:fh c w3 r iy)(hs:Sep w3 FL c d)(hk:eA (F3 FL FR FS) w w3)
  (a:eA (fun k=>k=f) w3 w4)(n1:¬FL f)(n2:¬c f)(n3:¬d f)(hg:w.heap.size<=f):
  fZ FL w4 W s r ey.length c5 c6 c7 c8 c9 c10 c11/\gh ft d w4 s ky/\fh c w4 r iy/\Sep w4 FL c d/\eA (F3 FL FR FS) w w4:=
 ⟨hl.keep (fun _ h=>h) (fun k b=>a.block k (hs.ll k b) (fun e=>n1 (e▸b))),gh.keep hi (fun _ h=>h) (fun k b=>a.block k (hs.sl k b).1 (fun e=>n3 (e▸b))),hr.keep (fun _ h=>h) (fun k b=>a.block k (hs.rl k b).1 (fun e=>n2 (e▸b))),hs.below a.size,
  ⟨a.os.trans hk.os,a.tape.trans hk.tape,a.output.trans hk.output,wl hk.size a.size,fun k g hn=>(a.block k (lO g hk.size) (fun e=>by omega)).trans (hk.block k g hn)⟩⟩
end
end Go.Proofs.YtlgidcmmgohagaaGreat
