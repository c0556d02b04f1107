/- What is proved here: the law's step UF at a K2 that is there. -/
import Derived.Test.YtlgidcmmgohagaaGreatFileM06
import Derived.Deep.RegionLaw
namespace Go.Proofs.YtlgidcmmgohagaaGreat
open Go.RowKit Go.Sort Go.Shelf Go.Proofs.Tryz
set_option linter.unusedVariables false
set_option maxRecDepth 100000
set_option maxHeartbeats 16000000
variable {es:List eD}{w2 w3 w4:World}{ip IR:List Ob}{gl m:Nat}
variable {ft:z1}
section
variable {FL FR FS FH:Nat->Prop}{w:World}{W s r:Nat}{ei ep:List Ob}{c5 c6 c7 c8 c9 c10 c11:Value}{ea:e5}{ec q:Nat}{hs:List fJ}
theorem G4{w2 w3 wr w4:World}{j a1 a2 a3 l:Value}(h:W3 ft FL FR FS w W s r ei ep c5 c6 c7 c8 (.slice ea (4*q) ec) c10 c11)(f:Held FH w ea ec q hs)(hap:∀k,FH k->¬F3 FL FR FS k)(hm:m<=16)
  (b:gS w w2)(n:w.heap.size<=gl/\gl<w2.heap.size)(h3:W3 ft (ie FL w2 w3) FR FS w3 W s r ei ep c5 c6 c7 c8 (.slice ea (4*q) ec) c10 c11)(c:en FL w2 w3)(a:gS w3 wr)
  (hW:wr.heap[W]?=some (.cells #[j,a1,a2,a3,l,c5,c6,c7,c8,.slice ea (4*q) ec,c10,c11] 71 (0,0)))(hk:qW wr w4 W q #[j,a1,a2,a3,l,c5,c6,c7,c8,.slice ea (4*q) ec,c10,c11] ea ec (some (eb gl 0)) m hs):
  oN ft FL FR FS FH w w4 W s r (q+1) c5 c6 c7 c8 c10 c11:=by
 have z:=b.size;have A:=c.size;have B:=a.size;have fW:FL W:=by obtain⟨_,_,_,_,_,_,_,hl,_⟩:=h.law;exact hl.fw
 have i:∀k,F3 FL FR FS k->k<w.heap.size:=fun k hk=>by
  rcases hk with h1|h1|h1
  ·exact h.sep.ll k h1
  ·exact(h.sep.rl k h1).1
  ·exact(h.sep.sl k h1).1
 have o:∀k,FH k->¬F3 (ie FL w2 w3) FR FS k:=fun k hk hf=>by
  have:=f.lt k hk
  rcases hf with(h1|h1)|h1|h1
  ·exact hap k hk (.inl h1)
  ·have:=h1.1;omega
  ·exact hap k hk (.inr (.inl h1))
  ·exact hap k hk (.inr (.inr h1))
 have p:Held FH wr ea ec q hs:=f.keep (fun k hk=>by
  have:=f.lt k hk
  rw[a.block k (by omega),c.block k (by omega) (fun hf=>hap k hk (.inl hf)),b.block k this]) (by omega)
 obtain⟨t,u,v,x,n1,n2,n3,y,d⟩:=AZ (la:=some (eb gl 0)) (m:=m) (h3.below a) p o hm (fun g hg=>by
  obtain rfl:gl=g:=by simpa [Value.ownBlock]using hg
  refine⟨fun hf=>?_,fun hf=>by have:=f.lt gl hf;omega,by omega⟩;rcases hf with(h1|h1)|h1|h1
  ·have:=i gl (.inl h1);omega
  ·have:=h1.1;omega
  ·have:=i gl (.inr (.inl h1));omega
  ·have:=i gl (.inr (.inr h1));omega) (fun e=>by cases e) hW hk
 refine⟨ie FL w2 w3,FR,FS,t,ei,ep,u,v,x,n1,n2,n3,fun k=>⟨fun h1=>?_,.inl,.inl⟩,fun k e=>?_,⟨d.os.trans (a.os.trans (c.os.trans b.os)),d.tape.trans (a.tape.trans (c.tape.trans b.tape)),d.output.trans (a.output.trans (c.output.trans b.output)),by have:=d.size;omega,fun k hk hn=>?_⟩⟩
 ·rcases h1 with h1|h1
  ·exact .inl h1
  ·exact .inr (by have:=h1.1;omega)
 ·rcases y k e with e|e|e
  ·exact .inl e
  ·exact .inr (by omega)
  ·obtain rfl:k=gl:=by simpa [Value.ownBlock]using e
   exact .inr n.1
 ·rw[d.block k (by omega) ?_,a.block k (by omega),c.block k (by omega) (fun hf=>hn (.inl (.inl hf))),b.block k hk]
  rintro(e|e|e)
  ·exact hn (.inl (.inl (e▸fW)))
  ·exact hn (.inr e)
  ·have:k=gl:=by simpa [Value.ownBlock]using e
   omega
theorem G5{gl m base:Nat}(h:W3 ft FL FR FS w W s r ei ep c5 c6 c7 c8 c9 c10 c11)(ho:w2.ownsRow base 96 3 (.slice (some (eb gl 0)) m m) m (flat es))(b:gS w w2)(h3:W3 ft (ie FL w2 w3) FR FS w3 W s r ei ep c5 c6 c7 c8 c9 c10 c11)(hk:en FL w2 w3)(c:w.heap.size<=base:=by simp):
  w3.ownsRow 0 96 3 (.slice (some (eb gl 0)) m m) m (flat es)/\∃w2,gS w w2/\(w.heap.size<=gl/\gl<w2.heap.size)/\W3 ft (ie FL w2 w3) FR FS w3 W s r ei ep c5 c6 c7 c8 c9 c10 c11/\en FL w2 w3:=by
 obtain⟨d,a⟩:=ho.lt gl rfl;refine⟨eh (lw ho (oY _)) (fun x hx=>?_),w2,b,⟨by omega,a⟩,h3,hk⟩;obtain rfl:gl=x:=by simpa [Value.ownBlock]using hx
 exact hk.block gl a (fun hf=>by have:=h.sep.ll gl hf;omega)
theorem G6(h:W3 ft FL FR FS w W s r ei ep c5 c6 c7 c8 (.slice ea (4*q) ec) c10 c11)(ab:Held FH w ea ec q hs)(hap:∀k,FH k->¬F3 FL FR FS k)(hq:4*q<=1000000000)(a1 a3:Int)(S T:eu)(la:e5)(lm lc:Nat)(j:Nat)(hj:j<ei.length)(hk:ei[j].kind=2):
  eK 20 #[fj W,.agg #[ed 4,ed a1,ed ((j:Int)+1),ed a3,.string S,.string T,.slice la lm lc]] w fun e w'=>e=.returned (.bool true)/\oN ft FL FR FS FH w w' W s r (q+1) c5 c6 c7 c8 c10 c11:=by
 obtain⟨aH,aI,bc,bd⟩:=h.law.cells;obtain⟨D,K⟩:=h.TT j hj hk;have aJ:=h.few.1;have f:∀B,gS w (w.alloc B):=fun B=>(i7 _ _).alloc (io _) _;have y:∀B W2,Below (w.alloc B).heap.size (w.alloc B) W2->gS w W2:=fun B W2 a=>(f B).trans (a.mono (by simp));have hid:=fun B=>vZ (h.below (f B)) ((j:Int)+1);have E:=fun B=>AR (h.below (f B)).qX j hj hk;have ac:=fun B W2 (a:Below (w.alloc B).heap.size (w.alloc B) W2)=>mj (h.below (y B W2 a)) j hj;have L:=fun B W2 (a:Below (w.alloc B).heap.size (w.alloc B) W2)=>ua (h.below (y B W2 a)) j hj;rw[hk]at L;have ad:=fun B W2 (a:Below (w.alloc B).heap.size (w.alloc B) W2)=>Oh (h.below (y B W2 a)) j hj;have ae:=fun(e:Int) (aK:World)=>u3 e aK;have z:Hid (∀{FL FR FS:Nat->Prop} (w:World),W3 ft FL FR FS w W s r ei ep c5 c6 c7 c8 (.slice ea (4*q) ec) c10 c11->_):=fun w h=>W3.items h j hj hk;have af:Hid (∀{FL FR FS:Nat->Prop} (w:World),W3 ft FL FR FS w W s r ei ep c5 c6 c7 c8 (.slice ea (4*q) ec) c10 c11->∀i,i<ei.length->_):=fun w h i hi=>W3.ids h i hi;have A:Hid (Held FH w ea ec q hs):=ab;have ag:Hid (∀k,FH k->¬F3 FL FR FS k):=hap;have ah:Hid (W3 ft FL FR FS w W s r ei ep c5 c6 c7 c8 (.slice ea (4*q) ec) c10 c11):=h;obtain⟨es,ai⟩:∃es,es=ei[j].eG:=⟨_,rfl⟩;rw[<-ai]at E D K z;obtain⟨m,M⟩:∃m,m=es.length:=⟨_,rfl⟩;rw[<-M]at E D z;obtain⟨n,aj⟩:∃n,n=ei.length:=⟨_,rfl⟩;rw[<-aj]at z af aJ;have be:(j:Int)<(n:Int):=by omega
 have bf:j<n:=by omega
 have aL:Hid (m=es.length):=M;have aM:Hid (∀e∈es,1<=e.2.2/\e.2.2<=(j:Int)):=K;have ak:Hid _:=hid;have al:Hid _:=E;have am:Hid _:=ac;have an:Hid _:=L;have ao:Hid _:=ae;have ap:Hid _:=ad;have aq:Hid (∀B W2,Below (w.alloc B).heap.size (w.alloc B) W2->gS w W2):=y;clear hid E ac L ae h ab hap ad ai M aj K hk hj y;go_enter func20,ntmps20;go_wp2_with(first
  |(go_at_call 39;refine g7 (ak.out _) ?_;rintro _ _ ⟨rfl,rfl⟩)
  |(go_at_call 43;refine g7 (al.out _) ?_;rintro _ w2 ⟨gl,rfl,ar,d⟩;have au:Hid _:=ar;clear ar;have av:Hid (gS w w2):=aq.out _ _ d)
  |(go_at_call 41;refine g7 (am.out _ _ d) ?_;rintro _ _ ⟨rfl,rfl⟩)
  |(go_at_call 42;refine g7 (an.out _ _ d) ?_;rintro _ _ ⟨rfl,rfl⟩)
  |(go_at_call 22;refine g7 (ao.out _ _) ?_;rintro _ _ ⟨rfl,rfl⟩)
  |(go_at_call 37;refine g7 (ap.out _ _ d) ?_;rintro _ w3 ⟨rfl,h3,l⟩;have u:Hid _:=G5 ah.out au.out av.out h3 l;have aN:Hid (∃N,W3 ft N FR FS w3 W s r ei ep c5 c6 c7 c8 (.slice ea (4*q) ec) c10 c11):=⟨_,h3⟩;obtain⟨aO,aw,bg,_⟩:=fI.cells h3.law;obtain⟨g,cap,ia,ic,O,ax,ay,o2,aP⟩:=z.out _ h3;clear h3 l))
 clear au av d ak al am an ao ap aq f aH aI O o2 ax ay aP aO aw
 go_loopw [19,20] (fun o i wr=>∃k:Nat,k<=m/\o=.bool true/\i=.int .i64 (k:Int)/\gS w3 wr) (fun _ i _=>m-(intOf i).toNat)
 case atStart=>exact⟨0,oY _,rfl,rfl,i7 _ _⟩
 case round=>
  obtain⟨k,hk,rfl,rfl,a⟩:=hrel;obtain⟨N,h3⟩:=aN.out;have hr:=h3.below a;have aQ:Hid (W3 ft N FR FS wr W s r ei ep c5 c6 c7 c8 (.slice ea (4*q) ec) c10 c11):=hr;obtain⟨_,aw,aR,_⟩:=fI.cells hr.law;by_cases aS:k<m
  ·have v:k<es.length:=by rw[<-aL.out];exact aS
   obtain⟨g,cap,ia,ic,O,ax,ay,o2,o3⟩:=z.out _ hr;obtain⟨P,bh,az⟩:=ej o3 (by omega);rw[(kW az).1]at o2 o3;have bi:=ee o3 rfl;obtain⟨F,G,H⟩:=i2 (off:=0) (hh o3) (i:=k) (by simpa using v);rw[PH,BS]at F G H;obtain⟨x,hx⟩:∃x,x=es[k]:=⟨_,rfl⟩;have aT:Hid (x=es[k]):=hx;rw[<-hx]at F G H;obtain⟨aU,aV⟩:=aM.out x (by rw[hx];exact iF v);obtain⟨c,Q⟩:∃c:Nat,x.2.2=(c:Int)+1:=⟨(x.2.2-1).toNat,by omega⟩;have aW:wr.cell? (eb P (k*3+2))=some (ed (c:Int)):=by rw[H];unfold e9;rw[Q];simp
   have aX:wr.cell? (eb P (k*3))=some (.string x.1):=F;have aY:wr.cell? (eb P (k*3+1))=some (ed x.2.1):=G;have aZ:(k:Int)<(m:Int):=by omega
   have a0:Hid (x.2.2=(c:Int)+1):=Q;have bj:(c:Int)<(n:Int):=by omega
   have a2:c<n:=by omega
   clear hr h3 F G H o3 az hx aU aV Q;go_wp2;obtain⟨X,C⟩:∃X:Obj,X=.cells #[.string x.1,ed x.2.1,ed (c:Int)] 112:=⟨_,rfl⟩;obtain⟨w5,t⟩:∃w5,w5=wr.alloc X:=⟨_,rfl⟩;have R:gS wr w5:=by rw[t];exact(i7 _ _).alloc (io _) X
   have I:gS w3 w5:=a.trans (R.mono a.size);have bk:w5.cell? (eb wr.heap.size 0)=some (.string x.1):=by rw[t,C];simp
   have bl:w5.cell? (eb wr.heap.size 1)=some (ed x.2.1):=by rw[t,C];simp
   have bm:w5.cell? (eb wr.heap.size 2)=some (ed (c:Int)):=by rw[t,C];simp
   have bn:w5.heap.size=wr.heap.size+1:=by rw[t];simp
   obtain⟨U,V,Y⟩:=i2 (off:=0) (hh u.out.1) v;rw[PH,<-aT.out]at U V Y;have Z:gl<w3.heap.size:=ee u.out.1 rfl;have a4:Hid (∀q,(loadVar 96 (eb gl (k*3))).run prog (w5.drewN q)=.ok (.agg #[.string x.1,ed x.2.1,ed x.2.2]) (w5.drewN q)):=fun q=>UE _ gl (k*3) x ((I.cell (p:=(eb gl (k*3))) Z).trans U) ((I.cell (p:=(eb gl (k*3+1))) Z).trans V) ((I.cell (p:=(eb gl (k*3+2))) Z).trans Y);obtain⟨aA,bo,d0,a5,d1⟩:=af.out _ aQ.out c a2;have bp:=(R.cell (p:=(eb W 2)) aR).trans d0;have d15:=(R.cell (p:=(eb aA c)) a5).trans d1;have bq:W<w5.heap.size:=by omega
   have br:aA<w5.heap.size:=by omega
   rw[<-C,<-t];clear C t U V Y d0 d1 aX aY aW O o2;refine SE (by kernel_rfl) (by kernel_rfl) ?_
   iterate 3 quiet_step (fail)
   refine P1 rfl 96 _ rfl (eb gl (k*3)) rfl (.agg #[.string x.1,ed x.2.1,ed x.2.2]) (by rintro _ ⟨n,rfl⟩;exact a4.out _) ?_
   go_frame
   iterate 13 quiet_step (fail)
   refine pZ rfl .eql 96 96 _ _ rfl (.agg #[.string x.1,ed x.2.1,ed x.2.2]) (.agg #[.string x.1,ed x.2.1,ed ((c:Int)+1)]) (.bool (decide (x=(x.1,x.2.1,(c:Int)+1)))) rfl rfl (by rintro _ ⟨n,rfl⟩;exact N8 _ _ _ _ _ _) (by rintro _ ⟨n,rfl⟩;exact Og _ x (x.1,x.2.1,(c:Int)+1)) ?_
   go_frame
   iterate 1 quiet_step (fail)
   refine wpQuiet_nil ?_;rintro _ ⟨nq,rfl⟩;have hd:decide (x=(x.1,x.2.1,(c:Int)+1))=true:=jT (xN rfl (xN rfl a0.out));rw[hd];clear hd;go_wp2;go_roundw
   case rel=>exact⟨k+1,by omega,rfl,by go_num,PP I nq⟩
   case measure=>simp[intOf];omega
  ·have aZ:k=m:=by omega
   have bs:decide ((k:Int)<(m:Int))=false:=m6 (by omega);obtain⟨aB,f,aC,aD,aE,aa⟩:=hr.block;have aF:wr.ownsRow 0 55 1 (.slice ea (4*q) ec) (4*q) (hs.map fD):=by
    obtain⟨_,w2,d,_,_,l⟩:=u.out;have bt:=d.size;have bu:=l.size;refine eh A.out.row (fun x hx=>?_);have hf:=A.out.own x hx
    have:=A.out.lt x hf
    rw[a.block x (by omega),l.block x (by omega) (fun h=>ag.out x hf (.inl h)),d.block x this]
   have aG:SU wr (some (eb gl 0)) m:=⟨(fun e=>by cases e),fun b e=>⟨gl,_,(wZ e).symm,eh u.out.1 (fun x hx=>a.block x (ee u.out.1 hx))⟩⟩;have v:=pH W q #[aB,f,aC,aD,aE,c5,c6,c7,c8,.slice ea (4*q) ec,c10,c11] ea ec m (some (eb gl 0)) hs wr aa rfl A.out.len hq aF D aG;have a6:Hid _:=v;have a7:Hid (∀w4,qW wr w4 W q #[aB,f,aC,aD,aE,c5,c6,c7,c8,.slice ea (4*q) ec,c10,c11] ea ec (some (eb gl 0)) m hs->oN ft FL FR FS FH w w4 W s r (q+1) c5 c6 c7 c8 c10 c11):=fun w4 J=>by
    obtain⟨_,w2,d,a8,a9,l⟩:=u.out;exact G4 ah.out A.out ag.out D d a8 a9 l a aa J
   clear hr h3 aF aG v aa;go_wp2_with(go_at_call 44;refine g7 a6.out ?_;rintro _ w4 ⟨rfl,J⟩;have bb:Hid _:=a7.out _ J;clear J);go_ret;exact⟨rfl,bb.out⟩
theorem Ct(h:W3 ft FL FR FS w W s r ei ep c5 c6 c7 c8 (.slice ea (4*q) ec) c10 c11)(b:Held FH w ea ec q hs)(hap:∀k,FH k->¬F3 FL FR FS k)(hq:4*q<=1000000000)(a1 a a3:Int)(S T:eu)(la:e5)(lm lc:Nat):
  eK 20 #[fj W,.agg #[ed 4,ed a1,ed a,ed a3,.string S,.string T,.slice la lm lc]] w fun e w'=>e=.returned (.bool true)/\oN ft FL FR FS FH w w' W s r (q+1) c5 c6 c7 c8 c10 c11:=by
 by_cases hk:eC ei a=2
 ·have hid:¬(a<1\/(ei.length:Int)<a):=fun h=>by rw[wd h]at hk;cases hk
  obtain⟨j,rfl⟩:∃j:Nat,a=(j:Int)+1:=⟨(a-1).toNat,by omega⟩;have hj:j<ei.length:=by omega
  rw[o0 hj]at hk;exact G6 h b hap hq a1 a3 S T la lm lc j hj hk
 ·exact Eh h b hap hq a1 a a3 S T la lm lc hk
end
variable {ft:z1}
section
variable {FL FR FS FH:Nat->Prop}{w:World}{W s r:Nat}{ei ep:List Ob}{c5 c6 c7 c8 c9 c10 c11:Value}
theorem rT{c w2 w3:World}{e:Ending}{id ec x y:Int}(h:W3 ft FL FR FS w W s r ei ep c5 c6 c7 c8 c9 c10 c11)(b:gS w c)(hk:en FS c w2)(hi:fK ft (ie FS c w2) w2 s ip)
  (d:en FR w2 w3)(j:eU (ie FR w2 w3) w3 r IR)(kZ:gf ei ip es e)(g:tI ep IR (es.map (AC ei.length)) x y)(f:e=.returned (.tuple #[ed id,ed ec])):
  sG ei ip ep IR id ec x y/\fI FL w3 W s r ei.length c5 c6 c7 c8 c9 c10 c11/\fK ft (ie FS c w2) w3 s ip/\eU (ie FR w2 w3) w3 r IR/\Sep w3 FL (ie FR w2 w3) (ie FS c w2)/\gi IR/\en (F3 FL FR FS) w w3:=by
 have t:=b.size;have u:=hk.size;have v:w2.heap.size<=w3.heap.size:=d.size;obtain⟨l,m,i,n⟩:=KY h.twin kZ g;rw[f]at i;have o:id=l/\ec=m:=by simpa using i
 obtain⟨rfl,rfl⟩:=o;have SV:∀k,k<w2.heap.size->¬FR k->w3.heap[k]?=w2.heap[k]?:=fun k hk hn=>d.block k hk hn;have hl:fI FL w2 W s r ei.length c5 c6 c7 c8 c9 c10 c11:=h.law.keep (fun _ h=>h) (fun k a=>by
  have p:=h.sep.ll k a;rw[hk.block k (by omega) (fun hf=>(h.sep.sl k hf).2 a),b.block k p])
 refine⟨n,hl.keep (fun _ h=>h) (fun k a=>SV k (by have:=h.sep.ll k a;omega) (fun hr=>(h.sep.rl k hr).2 a)),fK.keep hi (fun _ h=>h) (fun k a=>SV k ?_ (fun hr=>?_)),j,⟨fun k a=>by have:=h.sep.ll k a;omega,fun k a=>?_,fun k a=>?_,fun k a hs=>?_⟩,KZ h.at_ (fun e f=>?_) g,⟨?_,?_,?_,by omega,fun k a hn=>?_⟩⟩
 ·rcases a with h'|h'
  ·have:=(h.sep.sl k h').1;omega
  ·exact h'.2
 ·rcases a with h'|h'
  ·exact h.sep.rs k hr h'
  ·have:=(h.sep.rl k hr).1;omega
 ·rcases a with h'|h'
  ·exact⟨by have:=(h.sep.rl k h').1;omega,(h.sep.rl k h').2⟩
  ·exact⟨h'.2,fun hf=>by have:=h.sep.ll k hf;have:=h'.1;omega⟩
 ·rcases a with h'|h'
  ·exact⟨by have:=(h.sep.sl k h').1;omega,(h.sep.sl k h').2⟩
  ·exact⟨by have:=h'.2;omega,fun hf=>by have:=h.sep.ll k hf;have:=h'.1;omega⟩
 ·rcases a with h'|h'
  ·rcases hs with h2|h2
   ·exact h.sep.rs k h' h2
   ·have:=(h.sep.rl k h').1;have:=h2.1;omega
  ·rcases hs with h2|h2
   ·have:=(h.sep.sl k h2).1;have:=h'.1;omega
   ·have:=h'.1;have:=h2.2;omega
 ·obtain⟨q,_,rfl⟩:=H3.1 f
  have:=h.twin.1
  unfold AC;split
  ·next z=>show q.2.2-1<_;omega
  ·show(-1:Int)<_;omega
 ·exact d.os.trans (hk.os.trans b.os)
 ·exact d.tape.trans (hk.tape.trans b.tape)
 ·exact d.output.trans (hk.output.trans b.output)
 ·rw[SV k (by omega) (fun hr=>hn (.inr (.inl hr))),hk.block k (by omega) (fun hr=>hn (.inr (.inr hr))),b.block k a]
theorem yy{c d:Nat->Prop}{f:Nat}(hl:fI FL w3 W s r ei.length c5 c6 c7 c8 c9 c10 c11)(hi:fK ft d w3 s ip)(hr:eU c w3 r IR)(hs:Sep w3 FL c d)(hk:en (F3 FL FR FS) w w3)
  (a:en (fun k=>k=f) w3 w4)(n1:¬FL f)(n2:¬c f)(n3:¬d f)(hg:w.heap.size<=f):
  fI FL w4 W s r ei.length c5 c6 c7 c8 c9 c10 c11/\fK ft d w4 s ip/\eU c w4 r IR/\Sep w4 FL c d/\en (F3 FL FR FS) w w4:=
 ⟨hl.keep (fun _ h=>h) (fun k b=>a.block k (hs.ll k b) (fun e=>n1 (e▸b))),fK.keep hi (fun _ h=>h) (fun k b=>a.block k (hs.sl k b).1 (fun e=>n3 (e▸b))),hr.keep (fun _ h=>h) (fun k b=>a.block k (hs.rl k b).1 (fun e=>n2 (e▸b))),hs.below a.size,
  ⟨a.os.trans hk.os,a.tape.trans hk.tape,a.output.trans hk.output,pD hk.size a.size,fun k g hn=>(a.block k (kv g hk.size) (fun e=>by omega)).trans (hk.block k g hn)⟩⟩
end
end Go.Proofs.YtlgidcmmgohagaaGreat
