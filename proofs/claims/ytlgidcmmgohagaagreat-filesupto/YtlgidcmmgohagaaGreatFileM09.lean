/- What is proved here: fas and hac of the law's 'store' once more. -/
import Derived.Test.YtlgidcmmgohagaaGreatFileM08
import Derived.Deep.RegionLaw
import Derived.Test.YtlgidcmmgohagaaGreatFileM05
namespace Go.Proofs.YtlgidcmmgohagaaGreat
open Go.RowKit Go.Sort Go.Shelf Go.Proofs.Tryz
set_option linter.unusedVariables false
set_option maxRecDepth 100000
set_option maxHeartbeats 16000000
variable {w w':World}{a:fD}{xs:eL}{m:Nat}{e:Ending}{o':List Ob}
variable {ft:CX}
def qw (e:List Ob->Prop)(ft:CX)(FL FR FS:Nat->Prop)(w w':World)(W s r:Nat)(c5 c6 c7 c8 c9 c10 c11:Value):Prop:=
 ∃a b c d f,W3 ft a b c w' W s r d f c5 c6 c7 c8 c9 c10 c11/\yq FL FR FS a b c w.heap.size/\eA (F3 FL FR FS) w w'/\e d
section
variable {FL FR FS:Nat->Prop}{w:World}{W s r:Nat}{ey eC:List Ob}{c5 c6 c7 c8 c9 c10 c11:Value}
theorem Bt{a:List Ob->Prop}{b w':World}(c:ik w b)(h:qw a ft FL FR FS b w' W s r c5 c6 c7 c8 c9 c10 c11):qw a ft FL FR FS w w' W s r c5 c6 c7 c8 c9 c10 c11:=by
 obtain⟨d,e,f,g,i,h3,hs,hk,hq⟩:=h;exact⟨d,e,f,g,i,h3,hs.mono c.size,eA.after hk c,hq⟩
theorem Bu(h:W3 ft FL FR FS w W s r ey eC c5 c6 c7 c8 c9 c10 c11)(a1 a2 a3:Int)(S T:eD)(la:fD)(lm lc:Nat)(hS:S.size<=maxLen):
  gc 20 #[hh W,.agg #[eJ 1,eJ a1,eJ a2,eJ a3,.string S,.string T,.slice la lm lc]] w fun e w'=>e=.returned (.bool true)/\qw (fun o'=>∃e,jB ey o' S e) ft FL FR FS w w' W s r c5 c6 c7 c8 c9 c10 c11:=by
 have d:Hid (W3 ft FL FR FS w W s r ey eC c5 c6 c7 c8 c9 c10 c11):=h;obtain⟨O,P,C,Q⟩:=h.law.cells;obtain⟨B,o⟩:∃B:Obj,B=.cells #[eJ 1,eJ a1,eJ a2,eJ a3,.string S,.string T,.slice la lm lc] 57:=⟨_,rfl⟩;obtain⟨b,g⟩:∃b,b=w.alloc B:=⟨_,rfl⟩;have i:ik w b:=by rw[g];exact(lh _ _).alloc (kx _) B
 have R:ik w b.drew:=iQ i 1;have h1:=h.below R;have D:=uU h1.uu S hS;have E:Hid _:=D;have U:b.cell? (eI w.heap.size 4)=some (.string S):=by rw[g,o];simp
 have V:=(i.cell (p:=(eI W 0)) C).trans O;have X:=(i.cell (p:=(eI W 1)) C).trans P;have ak:b.heap.size=w.heap.size+1:=by rw[g];simp
 have Y:Hid (W3 ft FL FR FS b.drew W s r ey eC c5 c6 c7 c8 c9 c10 c11):=h1;clear h D h1;go_enter func20,ntmps20;go_wp2;rw[<-o,<-g];have al:Hid (B=.cells #[eJ 1,eJ a1,eJ a2,eJ a3,.string S,.string T,.slice la lm lc] 57):=o;have am:Hid (b=w.alloc B):=g;clear o g
 go_region_with(first|(go_at_call 35;refine io E.out ?_;rintro e f ⟨m,nK,F,j⟩;obtain⟨id,ec,u⟩:=nK.shape;have v:Hid (jB ey m S e):=nK;have Z:Hid (e=.returned (.tuple #[eJ id,eJ ec])):=u;rw[u];clear nK u))
 all_goals
  have q:eA FS b f:=⟨j.os,j.tape,j.output,j.size,j.block⟩;have hkb:∀x,x<b.heap.size->¬FS x->f.heap[x]?=b.heap[x]?:=fun x hx hn=>q.block x hx hn;have G:¬FS W:=fun hf=>(Y.out.sep.sl W hf).2 Q;have aa:¬FS w.heap.size:=fun hf=>by have:=(d.out.sep.sl _ hf).1;omega
  have an:=(jP (a:=(eI W 0)) (hkb W (by omega) G)).trans V;have ao:=(jP (a:=(eI W 1)) (hkb W (by omega) G)).trans X;have ap:=(jP (a:=(eI w.heap.size 4)) (hkb w.heap.size (by omega) aa)).trans U;have aq:b.heap.size<=f.heap.size:=q.size;have H:fh FR f.drew r eC:=d.out.ref.keep (fun _ h=>h) (fun k hk=>(hkb k (by have:=(d.out.sep.rl k hk).1;omega) (d.out.sep.rs k hk)).trans (i.block k (d.out.sep.rl k hk).1));have ab:Hid (fZ FL f W s r ey.length c5 c6 c7 c8 c9 c10 c11):=d.out.law.keep (fun _ h=>h) (fun k hk=>(hkb k (by have:=d.out.sep.ll k hk;omega) (fun hf=>(d.out.sep.sl k hf).2 hk)).trans (i.block k (d.out.sep.ll k hk)));have ac:Hid (gh ft (kp FS b f) f s m):=F;have ad:Hid (eA FS b f):=q;have I:=wJ H S hS;have ae:Hid _:=I;clear E F j q I H
  go_frame
  go_wp2
  go_region_with(first|(go_at_call 36;refine io ae.out ?_;rintro ar w3 ⟨x,y,z,rfl,J,K,L⟩))
  all_goals
   have M:=DX d.out (show ik w b from i) ad.out ac.out ab.out L K v.out J Z.out;have c:Hid _:=M;clear M J K L
   go_frame
   have N:=fun(e:Int) (af:World)=>IR e af;obtain⟨ag,_,A⟩:=c.out.1;subst ag;by_cases t:ec=0
   ·have ah:=rD c.out.2.1 c.out.2.2.2.1 c.out.2.2.1 c.out.2.2.2.2.1 c.out.2.2.2.2.2.1 c.out.1 t d.out.twin.1
    subst t;clear A;have au:((0:Int) != 0)=false:=by simp
    go_wp2_with(first
     |(go_at_call 22;refine io (N _ _) ?_;rintro _ _ ⟨rfl,rfl⟩)
     |(go_at_call 37;refine io ah ?_;rintro _ av ⟨rfl,ai,n⟩))
    go_ret;refine⟨rfl,_,_,_,m,z,ai,?_,?_,⟨_,v.out⟩⟩
    ·have aj:=c.out.2.2.2.2.2.2.size
     refine fun k=>⟨?_,?_,?_⟩<;>rintro(h|h)
     ·exact .inl h
     ·exact .inr (wl aj h.1)
     ·exact .inl h
     ·have:=h.1;exact .inr (by omega)
     ·exact .inl h
     ·have:=h.1;exact .inr (by omega)
    ·have l:=c.out.2.2.2.2.2.2
     exact⟨n.os.trans l.os,n.tape.trans l.tape,n.output.trans l.output,wl l.size n.size,fun k hk hn=>(n.block k (lO hk l.size) (fun h=>hn (.inl h))).trans (l.block k hk hn)⟩
   ·have hid:id=0/\m=ey/\z=eC:=by
     rcases A with h|h
     ·exact h.2
     ·exact absurd h.1 t
    have aw:(ec != 0)=true:=by simpa using t
    have ax:(ec==ec)=true:=(by simp);obtain⟨rfl,rfl,rfl⟩:=hid;clear A;go_wp2_with(go_at_call 22;refine io (N _ _) ?_;rintro _ _ ⟨rfl,rfl⟩);go_ret;refine⟨rfl,_,_,_,m,z,⟨c.out.2.1,c.out.2.2.2.1,c.out.2.2.1,d.out.twin,d.out.at_,c.out.2.2.2.2.1⟩,?_,c.out.2.2.2.2.2.2,⟨_,v.out⟩⟩
    ·refine fun k=>⟨.inl,?_,?_⟩<;>rintro(h|h)
     ·exact .inl h
     ·have:=h.1;exact .inr (by omega)
     ·exact .inl h
     ·have:=h.1;exact .inr (by omega)
theorem Um(h:W3 ft FL FR FS w W s r ey eC c5 c6 c7 c8 c9 c10 c11)(aA a1 a2 a3:Int)(S T:eD)(la:fD)(lm lc:Nat)(es:List eN)(hl:fT w la lm es)(bo:lm<=2097152)(aB:∀e∈es,e.1.size<=maxLen):
  gc 38 #[hh W,.agg #[eJ aA,eJ a1,eJ a2,eJ a3,.string S,.string T,.slice la lm lc]] w fun e w'=>e=.returned (.bool true)/\qw (fun o'=>∃e,iJ ey o' es e) ft FL FR FS w w' W s r c5 c6 c7 c8 c9 c10 c11:=by
 obtain⟨bp,hi,bq,br,bs⟩:=iq Iz;obtain⟨bt,bu,bv,bw,bx⟩:=iq wF;have f:Hid (W3 ft FL FR FS w W s r ey eC c5 c6 c7 c8 c9 c10 c11):=h;obtain⟨cj,ck,cl,bz⟩:=h.law.cells;obtain⟨B,I⟩:∃B:Obj,B=.cells #[eJ aA,eJ a1,eJ a2,eJ a3,.string S,.string T,.slice la lm lc] 57:=⟨_,rfl⟩;obtain⟨c,O⟩:∃c,c=w.alloc B:=⟨_,rfl⟩;have af:ik w c:=by rw[O];exact(lh _ _).alloc (kx _) B
 have aC:c.cell? (eI w.heap.size 6)=some (.slice la lm lc):=by rw[O,I];simp
 have aD:w.heap.size<c.heap.size:=by rw[O];simp
 have P:Hid (W3 ft FL FR FS c W s r ey eC c5 c6 c7 c8 c9 c10 c11):=h.below af;have Z:Hid (fT w la lm es):=hl;have aE:Hid (∀e∈es,e.1.size<=maxLen):=aB;obtain⟨n,hn⟩:∃n,n=ey.length:=⟨_,rfl⟩;have ag:Hid (n=ey.length):=hn;clear h hl aB hn;go_enter func38,ntmps38;go_wp2;rw[<-I,<-O];clear I O
 go_loopw [5,6,7] (fun l m i wr=>∃(k:Nat) (C:fD) (D:Nat) (E:fD) (F:Nat),k<=lm/\i=.int .i64 (k:Int)/\l=.slice C k D/\m=.slice E k F/\ik c wr/\Hid (wr.ownsRow c.heap.size 96 3 (.slice C k D) k (flat (es.take k)))/\Hid (wr.ownsRow c.heap.size 112 3 (.slice E k F) k (flat ((es.take k).map (gL n))))/\Hid (k=0->C=none/\D=0)) (fun _ _ i _=>lm-(intOf i).toNat)
 case atStart=>exact⟨0,none,0,none,0,tk _,rfl,rfl,rfl,lh _ _,jf _ _ _ _,jf _ _ _ _,fun _=>⟨rfl,rfl⟩⟩
 case round=>
  obtain⟨k,C,D,E,F,hk,rfl,rfl,rfl,u,A,G,aF⟩:=hrel;have cm:=u.size;have aG:=(u.cell (p:=(eI w.heap.size 6)) (by show w.heap.size<_;omega)).trans aC;by_cases bA:k<lm
  ·obtain⟨b,off,aH,ah,hc⟩:=Z.out.2 (by omega)
   have ai:k<es.length:=by rw[Z.out.1];exact bA
   obtain⟨c0,c1,c2⟩:=ld hc ai;obtain⟨x,hx⟩:∃x,x=es[k]:=⟨_,rfl⟩;rw[<-hx]at c0 c1 c2;have aj:ik w wr:=af.trans (u.mono (by omega));have bB:=(aj.cell (p:=(eI b (off+k*3))) ah).trans c0;have bC:=(aj.cell (p:=(eI b (off+k*3+1))) ah).trans c1;have bD:=(aj.cell (p:=(eI b (off+k*3+2))) ah).trans c2;have cn:b<wr.heap.size:=by omega
   rw[aH]at aG;have aI:Hid (x=es[k]):=hx;have aJ:Hid (∀X,gc 39 #[hh W,eJ x.2.2] (wr.alloc X) fun e w'=>e=.returned (eJ x.2.2)/\w'=wr.alloc X):=fun X=>zf (P.out.below (u.alloc u.size X)) x.2.2
   have cp:(k:Int)<(lm:Int):=by omega
   clear hc c0 c1 c2 hx aH;go_wp2_with(first|(go_at_call 39;refine io (aJ.out _) ?_;rintro _ _ ⟨rfl,rfl⟩)|(at_builtin;refine vq _ rfl (.tmp 33) (.tmp 40) 55 rfl c.heap.size 96 bp _ 3 32 underlying55 hi bq br bs rfl (by decide) _ _ _ rfl ((A.out.alloc _).alloc _) (eI (wr.heap.size+1) 0) 1 1 (ml x) rfl rfl (ra (wr.alloc _) x _ _ (by simp)) (pp x) (by unfold maxLen;omega) (by omega) (by simp;omega) ?_));intro bE t ak Q _;have I:c.heap.size<=((wr.alloc (Obj.cells #[Value.string x.fst,Value.int IntKind.i64 x.snd.fst,Value.int IntKind.i64 x.snd.snd] 96)).alloc (Obj.cells #[Value.string x.fst,Value.int IntKind.i64 x.snd.fst,Value.int IntKind.i64 x.snd.snd] 96)).heap.size:=by simp;omega
   have R:ik c t:=un ((u.alloc u.size _).alloc (by simp;omega) _) I ((A.out.alloc _).alloc _) Q;have aK:some wr.heap.size≠(Value.slice C k D).ownBlock:=fun e=>by have:=eK A.out e.symm;omega
   have al:=Q.block wr.heap.size (by simp;omega) aK;have aL:t.cell? (eI wr.heap.size 0)=some (.string x.1):=(jP (a:=(eI wr.heap.size 0)) al).trans (by simp);have bF:t.cell? (eI wr.heap.size 1)=some (eJ x.2.1):=(jP (a:=(eI wr.heap.size 1)) al).trans (by simp);have am:Hid (t.ownsRow c.heap.size 96 3 bE (k+1) (flat (es.take (k+1)))):=by show World.ownsRow _ _ _ _ _ _ _;rw[<-yf ai,<-aI.out];exact ak
   have an:Hid (t.ownsRow c.heap.size 112 3 (.slice E k F) k (flat ((es.take k).map (gL n)))):=eQ G.out (fun g hg=>by
    have hl:=eK G.out hg;rw[Q.block g (by simp;omega) (px G.out A.out (by decide) hg),mA _ _ _ (by simp;omega),mA _ _ _ hl])
   have cq:wr.heap.size<t.heap.size:=by have:=Q.size;simp at this;omega
   have bG:Hid (∀q,gc 41 #[hh W,eJ x.2.2] (t.drewN q) fun e w'=>e=.returned (eJ (gL n x).2.2)/\w'=t.drewN q):=fun q=>by rw[ag.out];exact Ea (P.out.below (iQ R q)) x
   obtain⟨aM,aN,rfl⟩:=nl ak;clear ak Q I al aK aJ bB bC bD;go_wp2
   go_region_law(first
    |(refine tR rfl (.tmp 42) (.tmp 51) 106 rfl c.heap.size 112 bt _ 3 32 underlying106 bu bv bw bx rfl (by decide) (.slice E k F) k (flat ((es.take k).map (gL n))) (by simp[Act.eval]) (pE (show t.drew.ownsRow _ _ _ _ _ _ from an.out) _) (eI t.heap.size 0) 1 1 (ml (gL n x)) (by simp[Act.eval]) rfl (ra t.drew (gL n x) _ _ rfl) (pp _) (by unfold maxLen;omega) (by omega) (by have:=R.size;simp;omega) ?_;intro bH w3 ao ap _)
    |(go_simp;go_at_call 41;refine io (bG.out 1) ?_;rintro _ _ ⟨rfl,rfl⟩))
   all_goals
    have bI:ik c w3:=un ((iQ R 1).alloc R.size _) (by have:=R.size;simp;omega) (pE (show(t.drewN 1).ownsRow _ _ _ _ _ _ from an.out) _) ap;have bJ:Hid (w3.ownsRow c.heap.size 112 3 bH (k+1) (flat ((es.take (k+1)).map (gL n)))):=by
     show World.ownsRow _ _ _ _ _ _ _;rw[vZ ai,nM,jg,vr,my,pC,<-aI.out];exact ao
    have bK:Hid (w3.ownsRow c.heap.size 96 3 (.slice aM (k+1) aN) (k+1) (flat (es.take (k+1)))):=eQ am.out (fun g hg=>by
     have hl:=eK am.out hg;rw[ap.block g (by simp;omega) (px am.out an.out (by decide) hg),mA _ _ _ (show g<(t.drewN 1).heap.size from hl)];rfl)
    obtain⟨bL,bM,rfl⟩:=nl ao;clear ao ap;go_wp2;go_roundw
    case rel=>exact⟨k+1,aM,aN,bL,bM,by omega,by go_num,rfl,rfl,bI,bK.out,bJ.out,fun e=>by omega⟩
    case measure=>simp[intOf];omega
  ·have bN:k=lm:=by omega
   subst bN;have bO:decide ((k:Int)<(k:Int))=false:=rk (by omega);have ht:es.take k=es:=lV (by rw[Z.out.1];exact kx _);rw[ht]at A G;have aO:=Bh C k D es wr (xf A.out) (by omega) aF.out;have bQ:Hid _:=aO;clear aO ht;go_wp2_with(go_at_call 81;refine io bQ.out ?_;rintro _ w5 ⟨o,rfl,mG,aq⟩;have aa:Hid _:=mG;clear mG;have U:ik c w5:=u.trans (aq.mono u.size);have bR:=(fZ.cells (P.out.below U).law).1;have bS:=(fZ.cells (P.out.below U).law).2.2.1);have ar:ik w w5:=af.trans (U.mono (by omega));have bT:Hid (W3 ft FL FR FS w5 W s r ey eC c5 c6 c7 c8 c9 c10 c11):=P.out.below U;have aP:Hid (w5.ownsRow c.heap.size 96 3 (.slice C k D) k (flat es)):=eQ A.out (fun g hg=>aq.block g (eK A.out hg));have aQ:Hid (w5.ownsRow c.heap.size 112 3 (.slice E k F) k (flat (es.map (gL n)))):=eQ G.out (fun g hg=>aq.block g (eK G.out hg));have bU:c.heap.size<=o/\o<w5.heap.size:=by have:=World.ownsRow.lt aa.out o rfl;exact⟨wl u.size this.1,this.2⟩
   have aR:=wX (f.out.below (iQ ar 1)).uu o 0 k (k+3) es Z.out.1 bU.2 (by omega) (fun j bV hu=>jn aa.out j bV (DZ hu)) aE.out;have aS:Hid _:=aR;have cr:c.heap.size<=w5.heap.size:=U.size;have ct:c.heap.size<=wr.heap.size:=u.size;clear aR A G aG aC
   go_region_with(first|(go_at_call 26;refine io aS.out ?_;rintro e w6 ⟨J,nK,aT,K⟩;obtain⟨id,L,au⟩:=nK.shape;have av:Hid (iJ ey J es e):=nK;have bW:Hid (e=.returned (.tuple #[eJ id,eJ L])):=au;rw[au];clear nK au))
   all_goals
    have M:eA FS w5 w6:=⟨K.os,K.tape,K.output,K.size,K.block⟩;have bX:Hid (gh ft (kp FS w5 w6) w6 s J):=aT;have aU:Hid (eA FS w5 w6):=M;have cu:w5.heap.size<=w6.heap.size:=M.size;have bY:w6.cell? (eI W 1)=some (hh r):=(jP (a:=(eI W 1)) (M.block W bS (fun hf=>(f.out.sep.sl W hf).2 bz))).trans (fZ.cells bT.out.law).2.1;have cv:W<w6.heap.size:=by omega
    have aV:fh FR w6 r eC:=f.out.ref.keep (fun _ h=>h) (fun q hq=>(M.block q (by have:=(f.out.sep.rl q hq).1;omega) (f.out.sep.rs q hq)).trans (ar.block q (f.out.sep.rl q hq).1));have aW:=qu (fun q hq=>(f.out.sep.sl q hq).1) M aQ.out (xT aD);have aw:=Om (n:=n) aE.out;have aX:=yX aV E k F (es.map (gL n)) (xf aW) (by omega) aw.1 (by rw[<-f.out.twin.1,<-ag.out];exact aw.2);have aY:Hid _:=aX;clear aX aw aW aV M K aT aS
    go_frame
    go_wp2_with(first
     |(go_at_call 82;refine io aY.out ?_;rintro _ bZ ⟨x,y,V,rfl,aZ,bb,ab⟩;have bc:Hid _:=uY f.out ar aU.out bX.out ab bb av.out (by rw[<-ag.out];exact aZ) bW.out;have ac:Hid _:=YU f.out aU.out ab aP.out aa.out (xT aD) (by omega) bo aF.out;have cw:=ab.size;clear aZ bb ab)
     |(go_at_call 83;refine io ac.out.1 ?_;rintro _ bd ⟨rfl,be⟩))
    have ca:Hid (bd.ownsRow 0 96 3 (.slice (some (eI o 0)) (k+3) (k+3)) (k+3) (flat (es++List.replicate 3 vG))):=eQ (pj ac.out.2 (tk _)) (fun g hg=>be.block g (eK ac.out.2 hg));clear aY aP aQ aa ac bR bY
    go_loopw [16] (fun i wq=>∃d:Nat,d<=k+3/\i=.int .i64 (d:Int)/\Hid (eA (fun q=>q=o) bd wq)/\Hid (∃xs,wq.ownsRow 0 96 3 (.slice (some (eI o 0)) (k+3) (k+3)) (k+3) xs)) (fun i _=>k+3-(intOf i).toNat)
    case atStart=>exact⟨0,tk _,rfl,eA.refl _,⟨_,ca.out⟩⟩
    case round=>
     obtain⟨d,hd,rfl,ax,ay⟩:=hrel;obtain⟨xs,H⟩:=ay.out;by_cases cx:d<k+3
     ·have cy:=fun j=>H.frozenAt j
      have ad:∀j,j<3->∃v,wr.cell? (eI o (d*3+j))=some v:=fun j hj=>by
       rw[H.cellAt (d*3+j) (by omega)];exact⟨_,jy (by rw[H.1];omega)⟩
      obtain⟨cz,aL⟩:=ad 0 (by omega);obtain⟨cA,bF⟩:=ad 1 (by omega);obtain⟨cB,e2⟩:=ad 2 (by omega);rw[CQ]at aL;have cC:(d:Int)<(k:Int)+3:=by omega
      have cD:o<wr.heap.size:=eK H rfl;have cb:Hid (wr.ownsRow 0 96 3 (.slice (some (eI o 0)) (k+3) (k+3)) (k+3) xs):=H;clear ad ay H;go_wp2;refine⟨⟨d+1,by omega,by go_num,jq (jq (jq ax.out (jE rfl)) (jE rfl)) (jE rfl),⟨_,(Po (Po (Po cb.out _ _).1 _ _).1 _ _).1⟩⟩,by simp[intOf];omega⟩
     ·have bO:decide ((d:Int)<(k:Int)+3)=false:=rk (by omega)
      obtain⟨bf,bg,bh,bi,bj,bk,bl⟩:=bc.out;have bm:eA (fun q=>q=o) bZ wr:=jq (eA.eE be) ax.out;have hF:=Bo bg bh bi bj bl bm (fun hf=>by have:=f.out.sep.ll o hf;omega) (fun hf=>by
       rcases hf with hf|hf
       ·have:=(f.out.sep.rl o hf).1;omega
       ·have:=hf.1;omega) (fun hf=>by
       rcases hf with hf|hf
       ·have:=(f.out.sep.sl o hf).1;omega
       ·have:=hf.1;omega) (by omega)
      have z:Hid _:=hF;have cc:Hid (iL V):=bk;have cd:Hid (vI ey J eC V id L x y):=bf;have bn:=fun(e:Int) (ce:World)=>IR e ce;obtain⟨cf,_,az⟩:=bf;subst cf;clear H ay hF bg bh bi bj bk bl bm ax bc;by_cases ae:L=0
      ·have cg:=rD z.out.1 z.out.2.2.1 z.out.2.1 z.out.2.2.2.1 cc.out cd.out ae f.out.twin.1
       subst ae;clear az;have cE:((0:Int) != 0)=false:=by simp
       go_wp2_with(first
        |(go_at_call 22;refine io (bn _ _) ?_;rintro _ _ ⟨rfl,rfl⟩)
        |(go_at_call 37;refine io cg ?_;rintro _ cF ⟨rfl,ch,Y⟩))
       go_ret;refine⟨rfl,_,_,_,J,V,ch,?_,?_,⟨_,av.out⟩⟩
       ·have ci:=z.out.2.2.2.2.size
        refine fun q=>⟨?_,?_,?_⟩<;>rintro(h|h)
        ·exact .inl h
        ·exact .inr (wl ci h.1)
        ·exact .inl h
        ·have:=h.1;exact .inr (by omega)
        ·exact .inl h
        ·have:=h.1;exact .inr (by omega)
       ·have N:=z.out.2.2.2.2
        exact⟨Y.os.trans N.os,Y.tape.trans N.tape,Y.output.trans N.output,wl N.size Y.size,fun q hq hn=>(Y.block q (lO hq N.size) (fun h=>hn (.inl h))).trans (N.block q hq hn)⟩
      ·have hid:id=0/\J=ey/\V=eC:=by
        rcases az with h|h
        ·exact h.2
        ·exact absurd h.1 ae
       have cG:(L != 0)=true:=by simpa using ae
       have cH:(L != L)=false:=(by simp);obtain⟨rfl,rfl,rfl⟩:=hid;clear az;go_wp2_with(go_at_call 22;refine io (bn _ _) ?_;rintro _ _ ⟨rfl,rfl⟩);go_ret;refine⟨rfl,_,_,_,J,V,⟨z.out.1,z.out.2.2.1,z.out.2.1,f.out.twin,f.out.at_,z.out.2.2.2.1⟩,?_,z.out.2.2.2.2,⟨_,av.out⟩⟩
       ·refine fun q=>⟨.inl,?_,?_⟩<;>rintro(h|h)
        ·exact .inl h
        ·have:=h.1;exact .inr (by omega)
        ·exact .inl h
        ·have:=h.1;exact .inr (by omega)
theorem uZ(h:W3 ft FL FR FS w W s r ey eC c5 c6 c7 c8 c9 c10 c11)(a1 a2 a3:Int)(S T:eD)(la:fD)(lm lc:Nat)(es:List eN)(hl:fT w la lm es)(f:lm<=2097152)(b:∀e∈es,e.1.size<=maxLen):
  gc 20 #[hh W,.agg #[eJ 2,eJ a1,eJ a2,eJ a3,.string S,.string T,.slice la lm lc]] w fun e w'=>e=.returned (.bool true)/\qw (fun o'=>∃e,iJ ey o' es e) ft FL FR FS w w' W s r c5 c6 c7 c8 c9 c10 c11:=by
 have a:∀B,ik w (w.alloc B):=fun B=>(lh _ _).alloc (kx _) _;have c:=fun B=>Um (h.below (a B)) 2 a1 a2 a3 S T la lm lc es (hl.below (a B)) f b;have g:Hid _:=c;clear c h hl b;go_enter func20,ntmps20;go_wp2_with(go_at_call 38;refine io (g.out _) ?_;rintro _ j ⟨rfl,d⟩;have i:Hid _:=Bt (a _) d;clear d);go_ret;exact⟨rfl,i.out⟩
end
def yt:eD:=⟨#[97,98,99]⟩
theorem Xo:eG Bp.1=true:=by unfold eG Bp;simp only[xO];decide
theorem Xp:eG IG.1=true:=by unfold eG IG;simp only[xO];decide
theorem Xq:eG II.1=true:=by unfold eG II;simp only[xO];decide
theorem haj(h:jB [] o' yt e):o'=[zr yt]:=by
 rcases h with⟨h,_⟩|⟨_,_,i,h,_⟩|⟨_,_,h,_⟩|⟨_,_,_,h,_⟩
 ·exact absurd h (by decide)
 ·cases h
 ·exact absurd h (by decide)
 ·exact h
theorem hba(h:iJ [zr yt] o' [Bp] e):∃d:Ob,d.kind=2/\d.eR=[Bp]/\d.high=1/\o'=[zr yt,d]:=by
 have hv:eG Bp.1=true:=Xo;have a:EQ [zr yt] Bp=true:=by decide
 rcases h with⟨⟨x,hx,h⟩,_⟩|⟨_,⟨h,_⟩|⟨_,h,_⟩|⟨_,_,⟨x,hx,h⟩,_⟩|⟨_,_,_,es',b,_,_,h⟩⟩
 ·rw[nh.1 hx,hv]at h;cases h
 ·exact absurd (by simp) h
 ·exact absurd h (by decide)
 ·rw[nh.1 hx,a]at h;cases h
 ·obtain rfl:es'=[Bp]:=List.perm_singleton.1 b
  have c:fI [zr yt] [Bp]=1:=by decide
  rw[c]at h;rcases h with⟨h,_⟩|⟨_,_,i,h,_⟩|⟨_,_,h,_⟩|⟨_,_,_,⟨o,f,g,j,k4⟩,_⟩
  ·exact absurd h (by decide)
  ·unfold nj at h
   simp[zr]at h
  ·exact absurd h (by simp)
  ·exact⟨o,f,g,j,by rw[k4];rfl⟩
theorem hbc{d:Ob}(hk:d.kind=2)(b:d.eR=[Bp])(c:d.high=1)(h:iJ [zr yt,d] o' [IG,II] e):3<=o'.length/\eM o' 3=2:=by
 have hv:∀x∈[IG,II],eG x.1=true:=by
  intro x hx;simp only[gU,KS,or_false]at hx;rcases hx with rfl|rfl
  ·exact Xp
  ·exact Xq
 have f:eM [zr yt,d] 2=2:=by
  show d.kind=2;exact hk
 have g:eM [zr yt,d] 1=1:=rfl;have j:∀x∈[IG,II],EQ [zr yt,d] x=true:=by
  intro x hx;simp only[gU,KS,or_false]at hx;rcases hx with rfl|rfl
  ·unfold EQ IG
   simp only[f];decide
  ·unfold EQ II
   simp only[g];decide
 rcases h with⟨⟨x,hx,h⟩,_⟩|⟨_,⟨h,_⟩|⟨_,h,_⟩|⟨_,_,⟨x,hx,h⟩,_⟩|⟨_,_,_,es',a,_,_,h⟩⟩
 ·rw[hv x hx]at h;cases h
 ·exact absurd (by decide) h
 ·exact absurd h (by decide)
 ·rw[j x hx]at h;cases h
 ·have l:fI [zr yt,d] es'<=5:=by
   refine Bc.2 ⟨by decide,fun x hx=>?_⟩;have nv:=a.mem_iff.1 hx;simp only[gU,KS,or_false]at nv;rcases nv with rfl|rfl
   ·show 1+d.high<=5
    rw[c];decide
   ·show 1+(zr yt).high<=5
    decide
  rcases h with⟨h,_⟩|⟨_,_,i,h,_⟩|⟨_,_,h,_⟩|⟨_,_,_,⟨o,k,m,n,k4⟩,_⟩
  ·omega
  ·exfalso
   unfold nj at h;obtain⟨hi,h1,_⟩:=zO.1 h
   have:i=0\/i=1:=by simp at hi;omega
   rcases this with rfl|rfl
   ·simp[zr]at h1
   ·simp only[cos,KJ,xP,uP]at h1
    have:=a.length_eq
    rw[<-h1.2,b]at this;cases this
  ·exact absurd h (by simp)
  ·rw[k4]
   exact⟨by simp,k⟩
def fU (xs:eL):fQ:=xs.map Value.string
theorem qx:(prog.info? 9).map (fun i=>(i.zero,i.size,i.bytes))=some (some (.string ByteArray.empty),1,16):=by kernel_rfl
def cutAt (s:eD)(i:Nat):Bool:=if h:i<s.size then decide (s[i]=47)else true
def iz (s:eD):Nat->eL×Nat
 |0=>([],0)
 |i+1=>if cutAt s i=true then((iz s i).1++[s.extract (iz s i).2 i],i+1) else((iz s i).1,(iz s i).2)
def ib (s:eD):eL×Bool:=
 if s.size=0 then([],true)else if ∀x∈(iz s (s.size+1)).1,eG x=true then((iz s (s.size+1)).1,decide ((iz s (s.size+1)).1.length<=5)) else([],false)
theorem Ed(s:eD):∀i,(iz s i).2<=i
 |0=>kx _
 |i+1=>by
  have:=Ed s i
  simp only[iz]
  split
  ·exact kx _
  ·exact Fc this
theorem IM(s:eD):∀i,(iz s i).1.length<=i
 |0=>kx _
 |i+1=>by
  have:=IM s i
  simp only[iz]
  split
  ·simpa using this
  ·exact Fc this
theorem yu(s:eD)(hs:s.size<=2097152):∀i,∀x∈(iz s i).1,x.size<=maxLen
 |0,x,h=>by cases h
 |i+1,x,h=>by
  simp only[iz]at h
  split at h
  ·rcases sB.1 h with h|h
   ·exact yu s hs i x h
   ·rw[nh.1 h]
    simp only[WQ]
    unfold maxLen
    omega
  ·exact yu s hs i x h
theorem xg{x:eD}:∀a∈[Value.string x],a.oneCell'=true:=by intro a hu;simp at hu;subst hu;rfl
theorem iY(s:ByteArray)(w:World)(hs:s.size<=2097152):
  gc 152 #[.string s] w fun e w'=>∃v,e=.returned (.tuple #[v,.bool (ib s).2])/\w'.ownsRow w.heap.size 9 1 v (ib s).1.length (fU (ib s).1)/\ik w w':=by
 obtain⟨P,hi,Q,R,S⟩:=iq qx;by_cases h0:s.size=0
 ·have T:s=hZ:=by
   obtain⟨d⟩:=s;simp only[ByteArray.size]at h0;rw[Array.size_eq_zero_iff.1 h0]
  have t:Hid (ib s=([],true)):=by show _=_;unfold ib;rw[ie h0]
  rw[t.out];subst T;clear h0 t hs;go_enter func152,ntmps152;go_wp2;go_ret2;exact⟨_,rfl,jf _ _ _ _,lh _ _⟩
 ·have T:(s.toList==[])=false:=EX.2 fun h=>h0 (by
   have:=xr List.length h
   simp only[xO,ng,wA]at this;exact this)
  go_enter func152,ntmps152;go_wp2
  go_loopw [4,5,6] (fun l f i wr=>∃(k fr n:Nat) (u:(Option Addr)) (y:Nat),k<=s.size+1/\i=.int .i64 (k:Int)/\f=.int .i64 (fr:Int)/\l=.slice u n y/\fr<=k/\n<=k/\ik w wr/\Hid (fr=(iz s k).2)/\Hid (n=(iz s k).1.length)/\Hid (wr.ownsRow w.heap.size 9 1 (.slice u n y) n (fU (iz s k).1))) (fun _ _ i _=>s.size+1-(intOf i).toNat)
  case atStart=>exact⟨0,0,0,none,0,tk _,rfl,rfl,rfl,kx _,kx _,lh _ _,rfl,rfl,jf _ _ _ _⟩
  case round=>
   obtain⟨k,fr,n,u,y,hk,rfl,rfl,rfl,Z,ai,a,G,m,o⟩:=hrel;by_cases hle:k<=s.size
   ·by_cases hcut:cutAt s k=true
    ·have b:Hid (iz s (k+1)=((iz s k).1++[s.extract fr k],k+1)):=by show _=_;rw[G.out];simp only[iz];rw[ie hcut]
     by_cases z:k<s.size
     ·have TB:s[k]=47:=by unfold cutAt at hcut;rw[dif_pos z]at hcut;exact wm hcut
      have A:((k:Int)==(s.size:Int))=false:=by simp;omega
      have aa:((s[k].toNat:Int)==47)=true:=by rw[TB];rfl
      clear hcut TB;go_wp2_with(at_builtin;refine vq _ rfl (.tmp 27) (.tmp 32) 131 rfl w.heap.size 9 P _ 1 16 underlying131 hi Q R S rfl (by decide) _ _ _ rfl (o.out.alloc _) (eI wr.heap.size 0) 1 1 [.string (s.extract fr k)] rfl rfl (one_cell _ _ _ _ rfl) xg (by unfold maxLen;omega) (by omega) (by have:=a.size;simp;omega) ?_);intro ab H p B _;have I:=un (a.alloc a.size _) (by have:=a.size;simp;omega) (o.out.alloc _) B;obtain⟨C,D,rfl⟩:=nl p;have J:Hid (H.ownsRow w.heap.size 9 1 (.slice C (n+1) D) (n+1) (fU (iz s (k+1)).1)):=by show World.ownsRow _ _ _ _ _ _ _;rw[b.out];simp only[fU,nM,jg,vr];exact p
      have K:Hid (n+1=(iz s (k+1)).1.length):=by show _=_;rw[b.out,m.out];simp
      have L:Hid (k+1=(iz s (k+1)).2):=by show _=_;rw[b.out]
      clear p B;go_wp2;go_roundw
      case rel=>exact⟨k+1,k+1,n+1,C,D,by omega,by go_num,by go_num,rfl,kx _,by omega,I,L.out,K.out,J.out⟩
      case measure=>simp[intOf];omega
     ·have A:k=s.size:=by omega
      have aj:((k:Int)==(s.size:Int))=true:=by rw[A];simp
      have ak:Hid (k=s.size):=A;clear hcut A;go_wp2_with(at_builtin;refine vq _ rfl (.tmp 27) (.tmp 32) 131 rfl w.heap.size 9 P _ 1 16 underlying131 hi Q R S rfl (by decide) _ _ _ rfl (o.out.alloc _) (eI wr.heap.size 0) 1 1 [.string (s.extract fr k)] rfl rfl (one_cell _ _ _ _ rfl) xg (by unfold maxLen;omega) (by omega) (by have:=a.size;simp;omega) ?_);intro ab H p B _;have I:=un (a.alloc a.size _) (by have:=a.size;simp;omega) (o.out.alloc _) B;obtain⟨C,D,rfl⟩:=nl p;have J:Hid (H.ownsRow w.heap.size 9 1 (.slice C (n+1) D) (n+1) (fU (iz s (k+1)).1)):=by show World.ownsRow _ _ _ _ _ _ _;rw[b.out];simp only[fU,nM,jg,vr];exact p
      have K:Hid (n+1=(iz s (k+1)).1.length):=by show _=_;rw[b.out,m.out];simp
      have L:Hid (k+1=(iz s (k+1)).2):=by show _=_;rw[b.out]
      clear p B;go_wp2;go_roundw
      case rel=>exact⟨k+1,k+1,n+1,C,D,by omega,by go_num,by go_num,rfl,kx _,by omega,I,L.out,K.out,J.out⟩
      case measure=>simp[intOf];omega
    ·have b:Hid (iz s (k+1)=((iz s k).1,(iz s k).2)):=by show _=_;simp only[iz];rw[fY hcut]
     have z:k<s.size:=by
      rcases Pw k s.size with h|h
      ·exact h
      ·exact absurd (by unfold cutAt;rw[dif_neg (by omega)]) hcut
     have TB:s[k]≠47:=fun e=>hcut (by unfold cutAt;rw[dif_pos z];exact mz e);have A:((k:Int)==(s.size:Int))=false:=by simp;omega
     have aa:((s[k].toNat:Int)==47)=false:=EX.2 fun e=>TB (Tb.1 (by have:(47:UInt8).toNat=47:=rfl;omega));clear hcut TB;go_wp2;go_roundw
     case rel=>exact⟨k+1,fr,n,u,y,by omega,by go_num,rfl,rfl,by omega,by omega,a,by show _=_;rw[b.out];exact G.out,by show _=_;rw[b.out];exact m.out,by show World.ownsRow _ _ _ _ _ _ _;rw[b.out];exact o.out⟩
     case measure=>simp[intOf];omega
   ·have ac:Hid (k=s.size+1):=by show _=_;omega
    obtain⟨xs,F⟩:∃xs,xs=(iz s k).1:=⟨_,rfl⟩;rw[<-F]at m o;have U:Hid (xs=(iz s (s.size+1)).1):=by show _=_;rw[<-ac.out];exact F
    have ad:Hid (∀x∈xs,x.size<=maxLen):=by rw[F];exact yu s hs _
    rename World=>wq;obtain⟨M,V⟩:∃M,M=k:=⟨_,rfl⟩;rw[<-V]at hle ⊢;clear F V;have ae:decide ((M:Int)<=(s.size:Int))=false:=rk (by omega);have t:Hid (ib s=if ∀x∈xs,eG x=true then(xs,decide (xs.length<=5)) else([],false)):=by show _=_;unfold ib;rw[fY h0,<-U.out]
    clear U G Z;go_wp2
    go_loopw [7] (fun i wr=>∃k:Nat,k<=n/\i=.int .i64 (k:Int)/\(∃q,wr=wq.drewN q)/\Hid (∀j (hj:j<xs.length),j<k->eG xs[j]=true)) (fun i _=>n-(intOf i).toNat)
    case atStart=>exact⟨0,tk _,rfl,⟨0,rfl⟩,fun j hj h=>by omega⟩
    case round=>
     obtain⟨k,al,rfl,⟨q,rfl⟩,X⟩:=hrel;by_cases z:k<n
     ·have N:k<xs.length:=by rw[<-m.out];exact z
      obtain⟨g,af,am,c,_⟩:=row_one (pj o.out (tk _)) (i:=k) (v:=.string xs[k]) (by simp[fU,N]);subst af;have r:=fun W=>DA xs[k] W (ad.out _ (kj N));have an:(k:Int)<(n:Int):=by omega
      cases hv:eG xs[k] with
      |true=>
       rw[hv]at r;have E:Hid (eG xs[k]=true):=hv;have O:Hid _:=r;clear hv r;go_wp2_with(go_at_call 150;refine io (O.out _) ?_;rintro _ _ ⟨rfl,ag,rfl⟩);go_roundw
       case rel=>
        refine⟨k+1,by omega,by go_num,⟨_,rfl⟩,fun j hj ao=>?_⟩;by_cases e:j=k
        ·subst e;exact E.out
        ·exact X.out j hj (by omega)
       case measure=>simp[intOf];omega
      |false=>
       rw[hv]at r;have E:Hid (ib s=([],false)):=by
        show _=_;rw[t.out,fY];intro h
        have:=h _ (kj N)
        rw[hv]at this;cases this
       have O:Hid _:=r;clear hv r;go_wp2_with(go_at_call 150;refine io (O.out _) ?_;rintro _ _ ⟨rfl,ag,rfl⟩);go_ret2;rw[E.out];exact⟨_,rfl,jf _ _ _ _,iQ a _⟩
     ·have E:Hid (ib s=(xs,decide (xs.length<=5))):=by
       show _=_;rw[t.out,ie];intro x hx;obtain⟨j,hj,rfl⟩:=pg hx;exact X.out j hj (by have:=m.out;omega)
      have ae:decide ((k:Int)<(n:Int))=false:=rk (by omega);have ah:Hid (decide ((n:Int)<=5)=decide (xs.length<=5)):=by
       show _=_;rw[m.out];by_cases Y:xs.length<=5
       ·rw[mz Y,mz (by omega)]
       ·rw[rk Y,rk (by omega)]
      go_wp2;go_ret2;rw[E.out];refine⟨.slice u n y,by rw[<-ah.out];rfl,?_,iQ a q⟩;rw[<-m.out];exact o.out
def lM (c n:Int):Int:=(if c<0 then -(c+1)else c).tmod n
theorem yw(c:Int){n:Int}(hn:0<n):0<=lM c n/\lM c n<n:=by
 unfold lM;have h0:0<=(if c<0 then -(c+1)else c):=by split<;>omega
 exact⟨Int.tmod_nonneg _ h0,Int.tmod_lt_of_pos _ hn⟩
theorem IP(c n:Int)(w:World)(hc:-9223372036854775808<=c/\c<=9223372036854775807)(hn:0<n)(d:n<=1000000000):
  gc 49 #[eJ c,eJ n] w (Do (eJ (lM c n)) w):=by
 have b:=yw c hn;by_cases h:c<0
 ·have a:Hid (lM c n=(-(c+1)).tmod n):=by show _=_;unfold lM;rw[ie h]
  rw[a.out]at b;go_enter func49,ntmps49;go_wp2;go_ret;exact⟨by rw[a.out,Int.neg_tmod];rfl,rfl⟩
 ·have a:Hid (lM c n=c.tmod n):=by show _=_;unfold lM;rw[fY h]
  rw[a.out]at b;have h':decide (c<0)=false:=rk h;go_enter func49,ntmps49;go_wp2;go_ret;exact⟨by rw[a.out,Int.tmod_eq_emod_of_nonneg h];rfl,rfl⟩
theorem De(a b:fD)(c d:Nat)(xs ys:eL)(w:World)(G:xs.length<=1000000000)(H:ys.length<=1000000000)
  (g:w.ownsRow 0 9 1 (.slice a xs.length c) xs.length (fU xs))(j:w.ownsRow 0 9 1 (.slice b ys.length d) ys.length (fU ys)):
  gc 92 #[.slice a xs.length c,.slice b ys.length d] w (pB (.bool (decide (xs=ys))) w):=by
 by_cases hl:xs.length=ys.length
 ·obtain⟨m,hm⟩:∃m,m=xs.length:=⟨_,rfl⟩
  have n:Hid (xs.length=m):=hm.symm;have o:Hid (ys.length=m):=by rw[hm];exact hl.symm
  rw[<-hl,<-hm]at j;rw[<-hl,<-hm];rw[<-hm]at g G;have I:Hid (w.ownsRow 0 9 1 (.slice a m c) m (fU xs)):=g;have J:Hid (w.ownsRow 0 9 1 (.slice b m d) m (fU ys)):=j;clear g j hl hm H;have h2:((m:Int) != (m:Int))=false:=by simp
  go_enter func92,ntmps92;go_wp2
  go_loopw [5] (fun i wr=>∃k:Nat,k<=m/\i=.int .i64 k/\Hid (∃q,wr=w.drewN q)/\Hid (xs.take k=ys.take k)) (fun i _=>m-(intOf i).toNat)
  case atStart=>exact⟨0,tk _,rfl,⟨0,by first|rfl|trivial⟩,rfl⟩
  case round=>
   obtain⟨k,hk,rfl,e,r⟩:=hrel;by_cases s:k<m
   ·have t:k<xs.length:=by rw[n.out];exact s
    have u:k<ys.length:=by rw[o.out];exact s
    obtain⟨x,hx⟩:∃x,x=xs[k]:=⟨_,rfl⟩;obtain⟨y,l⟩:∃y,y=ys[k]:=⟨_,rfl⟩;obtain⟨z,rfl,A,p,_⟩:=row_one I.out (i:=k) (v:=.string x) (by simp[fU,jy t,hx]);obtain⟨B,rfl,C,D,_⟩:=row_one J.out (i:=k) (v:=.string y) (by simp[fU,jy u,l]);have L:wr.cell? (eI z k)=some (.string x):=by obtain⟨q,hq⟩:=e.out;rw[hq];exact p
    have M:wr.cell? (eI B k)=some (.string y):=by obtain⟨q,hq⟩:=e.out;rw[hq];exact D
    have N:z<wr.heap.size:=by obtain⟨q,hq⟩:=e.out;rw[hq];exact A
    have O:B<wr.heap.size:=by obtain⟨q,hq⟩:=e.out;rw[hq];exact C
    clear p D A C;have E:Hid (x=xs[k]):=hx;have F:Hid (y=ys[k]):=l;clear hx l;cases Ab:(x.toList==y.toList) with
    |true=>
     have f:Hid (x=y):=KW (WH.1 (by simpa [xO]using Ab));go_wp2
     go_quiet (fail)
     go_wp2;go_roundw
     case rel=>
      refine⟨k+1,by omega,by go_num,(by obtain⟨q,hq⟩:=e.out;exact⟨q+nq,by rw[hq];simp⟩),?_⟩;show _=_;rw[vZ t,vZ u,r.out,<-E.out,<-F.out,f.out]
     case measure=>simp[intOf];omega
    |false=>
     have f:Hid (xs≠ys):=fun h=>by
      have:x=y:=by rw[E.out,F.out];simp only[h]
      rw[this]at Ab;simp at Ab
     go_wp2
     go_quiet (fail)
     go_wp2;go_ret;exact⟨by rw[rk f.out];rfl,by obtain⟨q,hq⟩:=e.out;rw[hq];exact iQ (iQ (lh _ _) _) _⟩
   ·have K:k=m:=by omega
    have f:Hid (xs=ys):=by
     have:=r.out
     rwa [K,lV (by rw[n.out];exact kx _),lV (by rw[o.out];exact kx _)]at this
    go_wp2;go_ret;exact⟨by rw[mz f.out];rfl,by obtain⟨q,hq⟩:=e.out;rw[hq];exact iQ (lh _ _) _⟩
 ·have f:Hid (xs≠ys):=fun h=>hl (by rw[h])
  have h2:((xs.length:Int) != (ys.length:Int))=true:=by simp;omega
  clear hl;go_enter func92,ntmps92;go_wp2;go_ret;exact⟨by rw[rk f.out];rfl,lh _ _⟩
theorem QP(W:Nat)(e f:Int)(none:Bool)(w:World)(b:(e==14)=false):
  gc 53 #[.pointer (some ⟨W,0,.none⟩),eJ e,eJ f,.bool none] w fun r w'=>r=.returned (.tuple #[.bool false,.bool (e==f)])/\w'=w:=by
 have a:=IR;go_enter func53,ntmps53;go_wp2_with(go_at_call 22;refine io (a _ _) ?_;rintro _ _ ⟨rfl,rfl⟩);go_ret2;exact⟨rfl,rfl⟩
def iM (w:World)(a:fD)(m:Nat)(xs:eL):Prop:=xs.length=m/\(0<m->∃b off,a=some ⟨b,off,none⟩/\b<w.heap.size/\∀j (hj:j<xs.length),w.cell? ⟨b,off+j,none⟩=some (.string xs[j]))
theorem xv{b:Nat}{m c:Nat}(h:w.ownsRow b 9 1 (.slice a m c) m (fU xs)):iM w a m xs:=by
 have hl:xs.length=m:=by have:=h.1;simp only[fU,nD]at this;omega
 refine⟨hl,fun hp=>?_⟩;obtain⟨g,_,d,_⟩:=row_one (pj h (tk _)) (i:=0) (v:=.string xs[0]) (by simp[fU])
 subst_vars
 refine⟨g,0,rfl,d,fun j hj=>?_⟩;obtain⟨f,e,_,hc,_⟩:=row_one (pj h (tk _)) (i:=j) (v:=.string xs[j]) (by simp[fU,hj]);cases e;rw[iP];exact hc
theorem iM.below(h:iM w a m xs)(c:ik w w'):iM w' a m xs:=
 ⟨h.1,fun hp=>by
  obtain⟨b,off,e,d,hc⟩:=h.2 hp
  exact⟨b,off,e,lO d c.size,fun j hj=>(c.cell (p:=(eI b (off+j))) d).trans (hc j hj)⟩⟩
theorem iM.take(h:iM w a m xs)(k:Nat)(hk:k<=m):iM w a k (xs.take k):=by
 refine⟨by rw[gT,h.1];omega,fun hp=>?_⟩;obtain⟨b,off,c,d,hc⟩:=h.2 (by omega);refine⟨b,off,c,d,fun j hj=>?_⟩;rw[List.getElem_take];exact hc j (by rw[gT]at hj;omega)
def lN (xs:eL):Nat->eD
 |0=>⟨#[]⟩
 |k+1=>(if 0<k then lN xs k++⟨#[47]⟩else lN xs k)++xs.getD k ⟨#[]⟩
def ez (xs:eL):eD:=lN xs xs.length
theorem tq(xs:(List ByteArray))(h:∀x ∈ xs,x.size<=12):∀k,(lN xs k).size<=13*k
 | 0=>Nat.le_refl _
 | k+1=>by
  have a:=tq xs h k
  have hg:(xs.getD k ⟨#[]⟩).size<=12:=by
   rw[List.getD_eq_getElem?_getD];cases hx:xs[k]? with
   | none=>exact Nat.zero_le _
   | some x=>exact h x (List.mem_of_getElem? hx)
  simp only[lN];split
  ·rw[ByteArray.size_append,ByteArray.size_append]
   have:(⟨#[47]⟩:ByteArray).size=1:=rfl
   omega
  ·rw[ByteArray.size_append]
   omega
theorem Bv(a:fD)(m c:Nat)(xs:eL)(w:World)(hl:iM w a m xs)(hx:∀x∈xs,x.size<=12)(hm:m<=2097153):
  gc 202 #[.slice a m c] w (Do (.string (ez xs)) w):=by
 have e:Hid (iM w a m xs):=hl;have j:Hid (∀k,(lN xs k).size<=13*k):=tq xs hx;have n:Hid (∀x∈xs,x.size<=12):=hx;clear hl hx;go_enter func202,ntmps202;go_wp2
 go_loopw [3,4] (fun t i wr=>∃(k:Nat) (s:eD),k<=m/\i=.int .i64 (k:Int)/\t=.string s/\s.size<=13*k/\wr=w/\Hid (s=lN xs k)) (fun _ i _=>m-(intOf i).toNat)
 case atStart=>exact⟨0,hZ,tk _,rfl,rfl,kx _,rfl,rfl⟩
 case round=>
  obtain⟨k,s,hk,rfl,rfl,v,rfl,f⟩:=hrel;by_cases o:k<m
  ·have g:k<xs.length:=by rw[e.out.1];exact o
   obtain⟨b,off,p,y,hc⟩:=e.out.2 (by omega);have c0:=hc k g;subst p;have q:=n.out _ (kj g);obtain⟨x,h⟩:∃x,x=xs[k]:=⟨_,rfl⟩;rw[<-h]at c0 q;have r:Hid (x=xs[k]):=h;have z:(k:Int)<(m:Int):=by omega
   clear hc h;have l:Hid (xs.getD k hZ=x):=by show _=_;rw[r.out,wh,jy g];rfl
   by_cases h0:0<k
   ·have u:0<(k:Int):=by omega
    have d:Hid (s++⟨#[47]⟩++x=lN xs (k+1)):=by show _=_;rw[f.out];simp only[lN];rw[ie h0,l.out]
    go_wp2;refine⟨⟨k+1,_,by omega,by go_num,rfl,?_,by trivial,d.out⟩,by simp[intOf];omega⟩;rw[d.out];exact j.out _
   ·have u:decide (0<(k:Int))=false:=rk (by omega)
    have d:Hid (s++x=lN xs (k+1)):=by show _=_;rw[f.out];simp only[lN];rw[fY h0,l.out]
    go_wp2;refine⟨⟨k+1,_,by omega,by go_num,rfl,?_,by trivial,d.out⟩,by simp[intOf];omega⟩;rw[d.out];exact j.out _
  ·have A:decide ((k:Int)<(m:Int))=false:=rk (by omega)
   have d:Hid (s=ez xs):=by show _=_;rw[f.out];unfold ez;rw[e.out.1];congr 1;omega
   go_wp2;go_ret;exact⟨by rw[<-d.out];rfl,rfl⟩
structure fo (F:Nat->Prop)(w:World)(S:Nat)(na da:fD)(nc dc:Nat)(nodes:List eN)(data:eL)(rest:fQ):Prop where
 fS:F S
 hS:w.heap[S]?=some (.cells (Value.slice na nodes.length nc::Value.slice da data.length dc::rest).toArray 179 (0,0))
 kJ:w.ownsRow 0 200 3 (.slice na nodes.length nc) nodes.length (flat nodes)
 gz:w.ownsRow 0 9 1 (.slice da data.length dc) data.length (fU data)
 fn:∀g,(Value.slice na nodes.length nc).ownBlock=some g->F g
 fd:∀g,(Value.slice da data.length dc).ownBlock=some g->F g
section
variable {F:Nat->Prop}{w:World}{S:Nat}{na da:fD}{nc dc:Nat}{nodes:List eN}{data:eL}{rest:fQ}
theorem fo.lt(h:fo F w S na da nc dc nodes data rest):S<w.heap.size:=(nX.1 h.hS).1
theorem fo.c0(h:fo F w S na da nc dc nodes data rest):w.cell? (eI S 0)=some (.slice na nodes.length nc):=by simp[World.cell?,h.hS]
theorem fo.c1(h:fo F w S na da nc dc nodes data rest):w.cell? (eI S 1)=some (.slice da data.length dc):=by simp[World.cell?,h.hS]
theorem fo.keep{F':Nat->Prop}(h:fo F w S na da nc dc nodes data rest)(hF:∀k,F k->F' k)(hk:∀k,F k->w'.heap[k]?=w.heap[k]?):fo F' w' S na da nc dc nodes data rest:=
 ⟨hF _ h.fS,(hk S h.fS).trans h.hS,eQ h.kJ (fun g hg=>hk g (h.fn g hg)),eQ h.gz (fun g hg=>hk g (h.fd g hg)),fun g hg=>hF g (h.fn g hg),fun g hg=>hF g (h.fd g hg)⟩
theorem fo.below(h:fo F w S na da nc dc nodes data rest)(a:ik w w'):fo F w' S na da nc dc nodes data rest:=
 ⟨h.fS,(a.block S h.lt).trans h.hS,eQ h.kJ (fun g hg=>a.block g (eK h.kJ hg)),eQ h.gz (fun g hg=>a.block g (eK h.gz hg)),h.fn,h.fd⟩
def kY (nodes:List eN)(p:eD):Option Nat:=nodes.findIdx? (fun e=>decide (e.1.toList=p.toList))
def lx (nodes:List eN)(p:eD):Int:=if p.toList=[]then 2 else match kY nodes p with|some i=>((nodes[i]?).map (·.2.1)).getD 0|none=>0
theorem yx(a:fD)(m c:Nat)(nodes:List eN)(p:eD)(w:World)(hl:fT w a m nodes)(hm:m<=1000000000):
  gc 106 #[.slice a m c,.string p] w (Do (eJ (FF (kY nodes p))) w):=by
 have f:Hid (fT w a m nodes):=hl;clear hl;go_enter func106,ntmps106;go_wp2
 go_loopw [5] (fun i wr=>∃k:Nat,k<=m/\i=.int .i64 k/\wr=w/\Hid (∀j (hj:j<nodes.length),j<k->decide (nodes[j].1.toList=p.toList)=false)) (fun i _=>m-(intOf i).toNat)
 case atStart=>exact⟨0,tk _,rfl,rfl,fun j hj h=>by omega⟩
 case round=>
  obtain⟨k,hk,rfl,rfl,g⟩:=hrel;by_cases o:k<m
  ·have n:k<nodes.length:=by rw[f.out.1];exact o
   obtain⟨b,off,q,s,hc⟩:=f.out.2 (by omega);obtain⟨c0,_,_⟩:=ld hc n;subst q;have t:(k:Int)<(m:Int):=by omega
   clear hc;by_cases d:nodes[k].1.toList=p.toList
   ·have l:Hid (nodes[k].1.toList=p.toList):=d
    have r:(nodes[k].1.toList==p.toList)=true:=by rw[d];exact Tg _
    clear d;go_wp2;go_ret;refine⟨?_,rfl⟩;have e:kY nodes p=some k:=zO.2 ⟨n,mz l.out,fun j hj=>by have:=g.out j (by omega) hj;simp[this]⟩;rw[e];rfl
   ·have l:Hid (decide (nodes[k].1.toList=p.toList)=false):=rk d
    have r:(nodes[k].1.toList==p.toList)=false:=EX.2 d;clear d;go_wp2;go_roundw
    case rel=>
     refine⟨k+1,by omega,by go_num,by trivial,fun j hj u=>?_⟩;by_cases e:j=k
     ·subst e;exact l.out
     ·exact g.out j hj (by omega)
    case measure=>simp[intOf];omega
  ·go_wp2
   go_ret;refine⟨?_,rfl⟩;have e:kY nodes p=none:=WL.2 fun x hx=>by
    obtain⟨j,hj,rfl⟩:=pg hx;exact g.out j hj (by have:=f.out.1;omega)
   rw[e];rfl
theorem oc(h:fo F w S na da nc dc nodes data rest)(p:eD)(f:nodes.length<=1000000000):
  gc 155 #[hh S,.string p] w (Do (eJ (lx nodes p)) w):=by
 have j:=h.c0;have m:=h.lt;have hf:=yx na nodes.length nc nodes p w (xf h.kJ) f;have d:Hid (w.ownsRow 0 200 3 (.slice na nodes.length nc) nodes.length (flat nodes)):=h.kJ;have a:Hid _:=hf;obtain⟨n,hn⟩:∃n,n=nodes.length:=⟨_,rfl⟩;have o:Hid (n=nodes.length):=hn;rw[<-hn]at j a f;clear h hf;by_cases hp:p.toList=[]
 ·have c:Hid (lx nodes p=2):=by show _=_;unfold lx;rw[ie hp]
  have k:(p.toList==[])=true:=by rw[hp];rfl
  clear hp;rw[c.out];clear hn;go_enter func155,ntmps155;go_wp2;go_ret;exact⟨rfl,rfl⟩
 ·have k:(p.toList==[])=false:=EX.2 hp
  cases b:kY nodes p with
  |none=>
   have c:Hid (lx nodes p=0):=by show _=_;unfold lx;rw[fY hp,b]
   rw[b]at a;have e:Hid (gc 106 #[.slice na n nc,.string p] w (Do (eJ (-1)) w)):=a.out;rw[c.out];clear hn b a hp;go_enter func155,ntmps155;go_wp2_with(go_at_call 106;refine io e.out ?_;rintro _ _ ⟨rfl,rfl⟩);go_ret;exact⟨rfl,rfl⟩
  |some i=>
   have hi:i<nodes.length:=(zO.1 b).1;have c:Hid (lx nodes p=nodes[i].2.1):=by show _=_;unfold lx;rw[fY hp,b];simp[hi]
   rw[b]at a;have e:Hid (gc 106 #[.slice na n nc,.string p] w (Do (eJ (i:Int)) w)):=a.out;rw[c.out];obtain⟨g,q,hv⟩:=fj d.out (by omega);have l:=(nH hv).1;subst l;obtain⟨_,c1,_⟩:=ld (off:=0) (jn d.out) hi;rw[iP]at c1;have r:=eK d.out rfl;have mG:(i:Int)<(n:Int):=by omega
   have s:decide ((i:Int)<0)=false:=rk (by omega);clear hn b a hv hp;go_enter func155,ntmps155;go_wp2_with(go_at_call 106;refine io e.out ?_;rintro _ _ ⟨rfl,rfl⟩);go_ret;exact⟨rfl,rfl⟩
end
end Go.Proofs.YtlgidcmmgohagaaGreat
