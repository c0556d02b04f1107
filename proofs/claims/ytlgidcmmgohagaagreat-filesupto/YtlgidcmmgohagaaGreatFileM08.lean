/- What is proved here: 'putDir' of the law's world. -/
import Derived.Test.YtlgidcmmgohagaaGreatFileM07
import Derived.Test.YtlgidcmmgohagaaGreatRows
import Derived.Deep.Slices
import Derived.Deep.Strs
namespace Go.Proofs.YtlgidcmmgohagaaGreat
open Go.RowKit Go.Sort Go.Shelf
set_option linter.unusedVariables false
set_option maxRecDepth 100000
set_option maxHeartbeats 16000000
variable {ft:CX}
theorem xf{w:World}{b:Nat}{t:gi}{a:fD}{m c:Nat}{es:List eN}(h:w.ownsRow b t 3 (.slice a m c) m (flat es)):fT w a m es:=by
 have hl:es.length=m:=by have:=h.1;rw[km]at this;omega
 refine⟨hl,fun hp=>?_⟩;obtain⟨g,e,hv⟩:=fj h hp;have d:=(nH hv).1;subst d;exact⟨g,0,rfl,eK h rfl,jn h⟩
theorem qu{F:Nat->Prop}{B:Nat}{w w':World}(hF:∀k,F k->k<B)(hk:eA F w w'){b:Nat}{t:gi}{sz n:Nat}{v:Value}{xs:fQ}(hr:w.ownsRow b t sz v n xs)(a:B<=b):w'.ownsRow b t sz v n xs:=
 eQ hr (fun g hg=>hk.block g (hr.lt g hg).2 (fun hf=>by have:=hF g hf;have:=(hr.lt g hg).1;omega))
theorem jq{F:Nat->Prop}{w c d:World}(a:eA F w c)(b:eA F c d):eA F w d:=
 ⟨b.os.trans a.os,b.tape.trans a.tape,b.output.trans a.output,wl a.size b.size,fun q hq hn=>(b.block q (lO hq a.size) hn).trans (a.block q hq hn)⟩
theorem DZ{es b:List eN}{j:Nat}{a:Value}(h:(flat es)[j]?=some a):(flat (es++b))[j]?=some a:=by
 rw[my,qX (wj.1 h).1];exact h
section
variable {FL FR FS FH:Nat->Prop}{w:World}{W s r:Nat}{ey eC:List Ob}{c5 c6 c7 c8 c9 c10 c11:Value}
theorem Ea(h:W3 ft FL FR FS w W s r ey eC c5 c6 c7 c8 c9 c10 c11)(x:eN):gc 41 #[hh W,eJ x.2.2] w (Do (eJ (gL ey.length x).2.2) w):=by
 by_cases a:1<=x.2.2/\x.2.2<=(ey.length:Int)
 ·obtain⟨j,hj⟩:∃j:Nat,x.2.2=(j:Int)+1:=⟨(x.2.2-1).toNat,by omega⟩
  have e:(gL ey.length x).2.2=(j:Int):=by unfold gL;rw[ie a];show x.2.2-1=_;omega
  rw[e,hj];exact oM h j (by omega)
 ·have e:(gL ey.length x).2.2=-1:=by unfold gL;rw[fY a]
  rw[e];exact vJ h _ (by omega)
theorem YU{w5 w6 a:World}{f b c k d:Nat}{e:fD}{es:List eN}(h:W3 ft FL FR FS w W s r ey eC c5 c6 c7 c8 c9 c10 c11)(g:eA FS w5 w6)(i:eA FR w6 a)(n:w5.ownsRow f 96 3 (.slice e k d) k (flat es))(mG:w5.ownsRow b 96 3 (.slice (some (eI c 0)) (k+3) (k+3)) (k+3) (flat (es++List.replicate 3 vG)))
  (j:w.heap.size<=f)(l:w.heap.size<=b)(p:k<=2097152)(o:k=0->e=none/\d=0):
  gc 83 #[.slice (some (eI c 0)) (k+3) (k+3),.slice e k d] a ((pB (.bool true) a))/\a.ownsRow b 96 3 (.slice (some (eI c 0)) (k+3) (k+3)) (k+3) (flat (es++List.replicate 3 vG)):=by
 have f6:∀k,FS k->k<w.heap.size:=fun k hk=>(h.sep.sl k hk).1;have f7:∀k,FR k->k<w.heap.size:=fun k hk=>(h.sep.rl k hk).1;have m:=qu f7 i (qu f6 g mG l) l;exact⟨Ue c e k d es a (xf (qu f7 i (qu f6 g n j) j)) (by omega) o b m,m⟩
theorem Om{n:Nat}{es:List eN}(hs:∀e∈es,e.1.size<=maxLen):(∀e∈es.map (gL n),e.1.size<=maxLen)/\∀e∈es.map (gL n),-1<=e.2.2/\e.2.2<(n:Int):=by
 constructor
 ·intro e b
  obtain⟨a,h0,rfl⟩:=ij.1 b;exact hs a h0
 ·intro e b
  obtain⟨a,h0,rfl⟩:=ij.1 b;unfold gL;split
  ·next c=>exact⟨show -1<=a.2.2-1 by omega,show a.2.2-1<(n:Int) by omega⟩
  ·exact⟨show(-1:Int)<=-1 by omega,show(-1:Int)<(n:Int) by omega⟩
theorem Xn(h:W3 ft FL FR FS w W s r ey eC c5 c6 c7 c8 c9 c10 c11)(az a1 a2 a3:Int)(S T:eD)(la:fD)(lm lc:Nat)(es:List eN)(hl:fT w la lm es)(bn:lm<=2097152)(aA:∀e∈es,e.1.size<=maxLen):
  gc 38 #[hh W,.agg #[eJ az,eJ a1,eJ a2,eJ a3,.string S,.string T,.slice la lm lc]] w fun e w'=>e=.returned (.bool true)/\Stepped ft FL FR FS w w' W s r c5 c6 c7 c8 c9 c10 c11:=by
 obtain⟨bo,hi,bp,bq,br⟩:=iq Iz;obtain⟨bs,bt,bu,bv,bw⟩:=iq wF;have f:Hid (W3 ft FL FR FS w W s r ey eC c5 c6 c7 c8 c9 c10 c11):=h;obtain⟨cj,ck,cl,bx⟩:=h.law.cells;obtain⟨B,I⟩:∃B:Obj,B=.cells #[eJ az,eJ a1,eJ a2,eJ a3,.string S,.string T,.slice la lm lc] 57:=⟨_,rfl⟩;obtain⟨c,O⟩:∃c,c=w.alloc B:=⟨_,rfl⟩;have af:ik w c:=by rw[O];exact(lh _ _).alloc (kx _) B
 have aB:c.cell? (eI w.heap.size 6)=some (.slice la lm lc):=by rw[O,I];simp
 have aC:w.heap.size<c.heap.size:=by rw[O];simp
 have P:Hid (W3 ft FL FR FS c W s r ey eC c5 c6 c7 c8 c9 c10 c11):=h.below af;have Z:Hid (fT w la lm es):=hl;have aD:Hid (∀e∈es,e.1.size<=maxLen):=aA;obtain⟨n,hn⟩:∃n,n=ey.length:=⟨_,rfl⟩;have ag:Hid (n=ey.length):=hn;clear h hl aA hn;go_enter Tryz.func38,Tryz.ntmps38;go_wp2;rw[<-I,<-O];clear I O
 go_loopw [5,6,7] (fun l m i wr=>∃(k:Nat) (C:fD) (D:Nat) (E:fD) (F:Nat),k<=lm/\i=.int .i64 (k:Int)/\l=.slice C k D/\m=.slice E k F/\ik c wr/\Hid (wr.ownsRow c.heap.size 96 3 (.slice C k D) k (flat (es.take k)))/\Hid (wr.ownsRow c.heap.size 112 3 (.slice E k F) k (flat ((es.take k).map (gL n))))/\Hid (k=0->C=none/\D=0)) (fun _ _ i _=>lm-(intOf i).toNat)
 case atStart=>exact⟨0,none,0,none,0,tk _,rfl,rfl,rfl,lh _ _,jf _ _ _ _,jf _ _ _ _,fun _=>⟨rfl,rfl⟩⟩
 case round=>
  obtain⟨k,C,D,E,F,hk,rfl,rfl,rfl,u,A,G,aE⟩:=hrel;have cm:=u.size;have aF:=(u.cell (p:=(eI w.heap.size 6)) (by show w.heap.size<_;omega)).trans aB;by_cases bz:k<lm
  ·obtain⟨b,off,aG,ah,hc⟩:=Z.out.2 (by omega)
   have ai:k<es.length:=by rw[Z.out.1];exact bz
   obtain⟨c0,c1,c2⟩:=ld hc ai;obtain⟨x,hx⟩:∃x,x=es[k]:=⟨_,rfl⟩;rw[<-hx]at c0 c1 c2;have aj:ik w wr:=af.trans (u.mono (by omega));have bA:=(aj.cell (p:=(eI b (off+k*3))) ah).trans c0;have bB:=(aj.cell (p:=(eI b (off+k*3+1))) ah).trans c1;have bC:=(aj.cell (p:=(eI b (off+k*3+2))) ah).trans c2;have cn:b<wr.heap.size:=by omega
   rw[aG]at aF;have aH:Hid (x=es[k]):=hx;have aI:Hid (∀X,gc 39 #[hh W,eJ x.2.2] (wr.alloc X) fun e w'=>e=.returned (eJ x.2.2)/\w'=wr.alloc X):=fun X=>zf (P.out.below (u.alloc u.size X)) x.2.2
   have cp:(k:Int)<(lm:Int):=by omega
   clear hc c0 c1 c2 hx aG;go_wp2_with(first|(go_at_call 39;refine io (aI.out _) ?_;rintro _ _ ⟨rfl,rfl⟩)|(at_builtin;refine vq _ rfl (.tmp 33) (.tmp 40) 55 rfl c.heap.size 96 bo _ 3 32 coe hi bp bq br rfl (by decide) _ _ _ rfl ((A.out.alloc _).alloc _) (eI (wr.heap.size+1) 0) 1 1 (ml x) rfl rfl (ra (wr.alloc _) x _ _ (by simp)) (pp x) (by unfold maxLen;omega) (by omega) (by simp;omega) ?_));intro bD t ak Q _;have I:c.heap.size<=((wr.alloc (Obj.cells #[Value.string x.fst,Value.int IntKind.i64 x.snd.fst,Value.int IntKind.i64 x.snd.snd] 96)).alloc (Obj.cells #[Value.string x.fst,Value.int IntKind.i64 x.snd.fst,Value.int IntKind.i64 x.snd.snd] 96)).heap.size:=by simp;omega
   have R:ik c t:=un ((u.alloc u.size _).alloc (by simp;omega) _) I ((A.out.alloc _).alloc _) Q;have aJ:some wr.heap.size≠(Value.slice C k D).ownBlock:=fun e=>by have:=eK A.out e.symm;omega
   have al:=Q.block wr.heap.size (by simp;omega) aJ;have aK:t.cell? (eI wr.heap.size 0)=some (.string x.1):=(jP (a:=(eI wr.heap.size 0)) al).trans (by simp);have bE:t.cell? (eI wr.heap.size 1)=some (eJ x.2.1):=(jP (a:=(eI wr.heap.size 1)) al).trans (by simp);have am:Hid (t.ownsRow c.heap.size 96 3 bD (k+1) (flat (es.take (k+1)))):=by show World.ownsRow _ _ _ _ _ _ _;rw[<-yf ai,<-aH.out];exact ak
   have an:Hid (t.ownsRow c.heap.size 112 3 (.slice E k F) k (flat ((es.take k).map (gL n)))):=eQ G.out (fun g hg=>by
    have hl:=eK G.out hg;rw[Q.block g (by simp;omega) (px G.out A.out (by decide) hg),mA _ _ _ (by simp;omega),mA _ _ _ hl])
   have cq:wr.heap.size<t.heap.size:=by have:=Q.size;simp at this;omega
   have bF:Hid (∀q,gc 41 #[hh W,eJ x.2.2] (t.drewN q) fun e w'=>e=.returned (eJ (gL n x).2.2)/\w'=t.drewN q):=fun q=>by rw[ag.out];exact Ea (P.out.below (iQ R q)) x
   obtain⟨aL,aM,rfl⟩:=nl ak;clear ak Q I al aJ aI bA bB bC;go_wp2
   go_region_law(first
    |(refine tR rfl (.tmp 42) (.tmp 51) 106 rfl c.heap.size 112 bs _ 3 32 Tryz.underlying106 bt bu bv bw rfl (by decide) (.slice E k F) k (flat ((es.take k).map (gL n))) (by simp[Act.eval]) (pE (show t.drew.ownsRow _ _ _ _ _ _ from an.out) _) (eI t.heap.size 0) 1 1 (ml (gL n x)) (by simp[Act.eval]) rfl (ra t.drew (gL n x) _ _ rfl) (pp _) (by unfold maxLen;omega) (by omega) (by have:=R.size;simp;omega) ?_;intro bG w3 ao ap _)
    |(go_simp;go_at_call 41;refine io (bF.out 1) ?_;rintro _ _ ⟨rfl,rfl⟩))
   all_goals
    have bH:ik c w3:=un ((iQ R 1).alloc R.size _) (by have:=R.size;simp;omega) (pE (show(t.drewN 1).ownsRow _ _ _ _ _ _ from an.out) _) ap;have bI:Hid (w3.ownsRow c.heap.size 112 3 bG (k+1) (flat ((es.take (k+1)).map (gL n)))):=by
     show World.ownsRow _ _ _ _ _ _ _;rw[vZ ai,nM,jg,vr,my,pC,<-aH.out];exact ao
    have bJ:Hid (w3.ownsRow c.heap.size 96 3 (.slice aL (k+1) aM) (k+1) (flat (es.take (k+1)))):=eQ am.out (fun g hg=>by
     have hl:=eK am.out hg;rw[ap.block g (by simp;omega) (px am.out an.out (by decide) hg),mA _ _ _ (show g<(t.drewN 1).heap.size from hl)];rfl)
    obtain⟨bK,bL,rfl⟩:=nl ao;clear ao ap;go_wp2;go_roundw
    case rel=>exact⟨k+1,aL,aM,bK,bL,by omega,by go_num,rfl,rfl,bH,bJ.out,bI.out,fun e=>by omega⟩
    case measure=>simp[intOf];omega
  ·have bM:k=lm:=by omega
   subst bM;have bN:decide ((k:Int)<(k:Int))=false:=rk (by omega);have ht:es.take k=es:=lV (by rw[Z.out.1];exact kx _);rw[ht]at A G;have aN:=Bh C k D es wr (xf A.out) (by omega) aE.out;have bO:Hid _:=aN;clear aN ht;go_wp2_with(go_at_call 81;refine io bO.out ?_;rintro _ w5 ⟨o,rfl,mG,aq⟩;have aa:Hid _:=mG;clear mG;have U:ik c w5:=u.trans (aq.mono u.size);have bQ:=(fZ.cells (P.out.below U).law).1;have bR:=(fZ.cells (P.out.below U).law).2.2.1);have ar:ik w w5:=af.trans (U.mono (by omega));have bS:Hid (W3 ft FL FR FS w5 W s r ey eC c5 c6 c7 c8 c9 c10 c11):=P.out.below U;have aO:Hid (w5.ownsRow c.heap.size 96 3 (.slice C k D) k (flat es)):=eQ A.out (fun g hg=>aq.block g (eK A.out hg));have aP:Hid (w5.ownsRow c.heap.size 112 3 (.slice E k F) k (flat (es.map (gL n)))):=eQ G.out (fun g hg=>aq.block g (eK G.out hg));have bT:c.heap.size<=o/\o<w5.heap.size:=by have:=World.ownsRow.lt aa.out o rfl;exact⟨wl u.size this.1,this.2⟩
   have aQ:=wX (f.out.below (iQ ar 1)).uu o 0 k (k+3) es Z.out.1 bT.2 (by omega) (fun j bU hu=>jn aa.out j bU (DZ hu)) aD.out;have aR:Hid _:=aQ;have cr:c.heap.size<=w5.heap.size:=U.size;have ct:c.heap.size<=wr.heap.size:=u.size;clear aQ A G aF aB
   go_region_with(first|(go_at_call 26;refine io aR.out ?_;rintro e w6 ⟨J,nK,aS,K⟩;obtain⟨id,L,au⟩:=nK.shape;have bV:Hid (iJ ey J es e):=nK;have bW:Hid (e=.returned (.tuple #[eJ id,eJ L])):=au;rw[au];clear nK au))
   all_goals
    have M:eA FS w5 w6:=⟨K.os,K.tape,K.output,K.size,K.block⟩;have bX:Hid (gh ft (kp FS w5 w6) w6 s J):=aS;have aT:Hid (eA FS w5 w6):=M;have cu:w5.heap.size<=w6.heap.size:=M.size;have bY:w6.cell? (eI W 1)=some (hh r):=(jP (a:=(eI W 1)) (M.block W bR (fun hf=>(f.out.sep.sl W hf).2 bx))).trans (fZ.cells bS.out.law).2.1;have cv:W<w6.heap.size:=by omega
    have aU:fh FR w6 r eC:=f.out.ref.keep (fun _ h=>h) (fun q hq=>(M.block q (by have:=(f.out.sep.rl q hq).1;omega) (f.out.sep.rs q hq)).trans (ar.block q (f.out.sep.rl q hq).1));have aV:=qu (fun q hq=>(f.out.sep.sl q hq).1) M aP.out (xT aC);have av:=Om (n:=n) aD.out;have aW:=yX aU E k F (es.map (gL n)) (xf aV) (by omega) av.1 (by rw[<-f.out.twin.1,<-ag.out];exact av.2);have aX:Hid _:=aW;clear aW av aV aU M K aS aR
    go_frame
    go_wp2_with(first
     |(go_at_call 82;refine io aX.out ?_;rintro _ bZ ⟨x,y,V,rfl,aY,aZ,ab⟩;have bb:Hid _:=uY f.out ar aT.out bX.out ab aZ bV.out (by rw[<-ag.out];exact aY) bW.out;have ac:Hid _:=YU f.out aT.out ab aO.out aa.out (xT aC) (by omega) bn aE.out;have cw:=ab.size;clear aY aZ ab)
     |(go_at_call 83;refine io ac.out.1 ?_;rintro _ bc ⟨rfl,bd⟩))
    have ca:Hid (bc.ownsRow 0 96 3 (.slice (some (eI o 0)) (k+3) (k+3)) (k+3) (flat (es++List.replicate 3 vG))):=eQ (pj ac.out.2 (tk _)) (fun g hg=>bd.block g (eK ac.out.2 hg));clear aX aO aP aa ac bQ bY
    go_loopw [16] (fun i wq=>∃d:Nat,d<=k+3/\i=.int .i64 (d:Int)/\Hid (eA (fun q=>q=o) bc wq)/\Hid (∃xs,wq.ownsRow 0 96 3 (.slice (some (eI o 0)) (k+3) (k+3)) (k+3) xs)) (fun i _=>k+3-(intOf i).toNat)
    case atStart=>exact⟨0,tk _,rfl,eA.refl _,⟨_,ca.out⟩⟩
    case round=>
     obtain⟨d,hd,rfl,aw,ax⟩:=hrel;obtain⟨xs,H⟩:=ax.out;by_cases cx:d<k+3
     ·have cy:=fun j=>H.frozenAt j
      have ad:∀j,j<3->∃v,wr.cell? (eI o (d*3+j))=some v:=fun j hj=>by
       rw[H.cellAt (d*3+j) (by omega)];exact⟨_,jy (by rw[H.1];omega)⟩
      obtain⟨cz,aK⟩:=ad 0 (by omega);obtain⟨cA,bE⟩:=ad 1 (by omega);obtain⟨cB,e2⟩:=ad 2 (by omega);rw[CQ]at aK;have cC:(d:Int)<(k:Int)+3:=by omega
      have cD:o<wr.heap.size:=eK H rfl;have cb:Hid (wr.ownsRow 0 96 3 (.slice (some (eI o 0)) (k+3) (k+3)) (k+3) xs):=H;clear ad ax H;go_wp2;refine⟨⟨d+1,by omega,by go_num,jq (jq (jq aw.out (jE rfl)) (jE rfl)) (jE rfl),⟨_,(Po (Po (Po cb.out _ _).1 _ _).1 _ _).1⟩⟩,by simp[intOf];omega⟩
     ·have bN:decide ((d:Int)<(k:Int)+3)=false:=rk (by omega)
      obtain⟨be,bf,bg,bh,bi,bj,bk⟩:=bb.out;have bl:eA (fun q=>q=o) bZ wr:=jq (eA.eE bd) aw.out;have hF:=Bo bf bg bh bi bk bl (fun hf=>by have:=f.out.sep.ll o hf;omega) (fun hf=>by
       rcases hf with hf|hf
       ·have:=(f.out.sep.rl o hf).1;omega
       ·have:=hf.1;omega) (fun hf=>by
       rcases hf with hf|hf
       ·have:=(f.out.sep.sl o hf).1;omega
       ·have:=hf.1;omega) (by omega)
      have z:Hid _:=hF;have cc:Hid (iL V):=bj;have cd:Hid (vI ey J eC V id L x y):=be;have bm:=fun(e:Int) (ce:World)=>IR e ce;obtain⟨cf,_,ay⟩:=be;subst cf;clear H ax hF bf bg bh bi bj bk bl aw bb;by_cases ae:L=0
      ·have cg:=rD z.out.1 z.out.2.2.1 z.out.2.1 z.out.2.2.2.1 cc.out cd.out ae f.out.twin.1
       subst ae;clear ay;have cE:((0:Int) != 0)=false:=by simp
       go_wp2_with(first
        |(go_at_call 22;refine io (bm _ _) ?_;rintro _ _ ⟨rfl,rfl⟩)
        |(go_at_call 37;refine io cg ?_;rintro _ cF ⟨rfl,ch,Y⟩))
       go_ret;refine⟨rfl,_,_,_,J,V,ch,?_,?_⟩
       ·have ci:=z.out.2.2.2.2.size
        refine fun q=>⟨?_,?_,?_⟩<;>rintro(h|h)
        ·exact .inl h
        ·exact .inr (wl ci h.1)
        ·exact .inl h
        ·have:=h.1;exact .inr (by omega)
        ·exact .inl h
        ·have:=h.1;exact .inr (by omega)
       ·have N:=z.out.2.2.2.2
        exact⟨Y.os.trans N.os,Y.tape.trans N.tape,Y.output.trans N.output,wl N.size Y.size,fun q hq hn=>(Y.block q (lO hq N.size) (fun h=>hn (.inl h))).trans (N.block q hq hn)⟩
      ·have hid:id=0/\J=ey/\V=eC:=by
        rcases ay with h|h
        ·exact h.2
        ·exact absurd h.1 ae
       have cG:(L != 0)=true:=by simpa using ae
       have cH:(L != L)=false:=(by simp);obtain⟨rfl,rfl,rfl⟩:=hid;clear ay;go_wp2_with(go_at_call 22;refine io (bm _ _) ?_;rintro _ _ ⟨rfl,rfl⟩);go_ret;refine⟨rfl,_,_,_,J,V,⟨z.out.1,z.out.2.2.1,z.out.2.1,f.out.twin,f.out.at_,z.out.2.2.2.1⟩,?_,z.out.2.2.2.2⟩
       ·refine fun q=>⟨.inl,?_,?_⟩<;>rintro(h|h)
        ·exact .inl h
        ·have:=h.1;exact .inr (by omega)
        ·exact .inl h
        ·have:=h.1;exact .inr (by omega)
end
variable {ft:CX}
theorem fT.below{w w':World}{a:fD}{m:Nat}{es:List eN}(h:fT w a m es)(c:ik w w'):fT w' a m es:=
 ⟨h.1,fun hp=>by
  obtain⟨b,off,e,d,hc⟩:=h.2 hp
  exact⟨b,off,e,lO d c.size,fun j f hu=>(c.cell (p:=(eI b (off+j))) d).trans (hc j f hu)⟩⟩
section
variable {FL FR FS FH:Nat->Prop}{w:World}{W s r:Nat}{ey eC:List Ob}{c5 c6 c7 c8 c9 c10 c11:Value}{ea:fD}{ec q:Nat}{hs:List gf}
theorem Dc{a w':World}(b:ik w a)(h:Stepped ft FL FR FS a w' W s r c5 c6 c7 c8 c9 c10 c11):Stepped ft FL FR FS w w' W s r c5 c6 c7 c8 c9 c10 c11:=by
 obtain⟨c,d,e,f,g,h3,hs,hk⟩:=h;exact⟨c,d,e,f,g,h3,hs.mono b.size,eA.after hk b⟩
theorem FW(h:W3 ft FL FR FS w W s r ey eC c5 c6 c7 c8 c9 c10 c11)(a1 a2 a3:Int)(S T:eD)(la:fD)(lm lc:Nat)(es:List eN)(hl:fT w la lm es)(f:lm<=2097152)(b:∀e∈es,e.1.size<=maxLen):
  gc 20 #[hh W,.agg #[eJ 2,eJ a1,eJ a2,eJ a3,.string S,.string T,.slice la lm lc]] w fun e w'=>e=.returned (.bool true)/\Stepped ft FL FR FS w w' W s r c5 c6 c7 c8 c9 c10 c11:=by
 have a:∀B,ik w (w.alloc B):=fun B=>(lh _ _).alloc (kx _) _;have c:=fun B=>Xn (h.below (a B)) 2 a1 a2 a3 S T la lm lc es (hl.below (a B)) f b;have g:Hid _:=c;clear c h hl b;go_enter Tryz.func20,Tryz.ntmps20;go_wp2_with(go_at_call 38;refine io (g.out _) ?_;rintro _ j ⟨rfl,d⟩;have i:Hid _:=Dc (a _) d;clear d);go_ret;exact⟨rfl,i.out⟩
structure Step where
 kind:Int
 a1:Int
 a2:Int
 a3:Int
 S:eD
 T:eD
 la:fD
 lm:Nat
 lc:Nat
 es:List eN
def Step.val (o:Step):Value:=.agg #[.int .i64 o.kind,.int .i64 o.a1,.int .i64 o.a2,.int .i64 o.a3,.string o.S,.string o.T,.slice o.la o.lm o.lc]
structure Step.Fits (o:Step)(w:World):Prop where
 S:o.S.size<=maxLen
 list:fT w o.la o.lm o.es
 many:o.lm<=2097152
 names:∀e∈o.es,e.1.size<=maxLen
 sS:o.S.size<=1048576
 sT:o.T.size<=1048576
 aad:-9223372036854775808<=o.a1/\o.a1<=9223372036854775807
 aae:-9223372036854775808<=o.a2/\o.a2<9223372036854775808
theorem LM(h:W3 ft FL FR FS w W s r ey eC c5 c6 c7 c8 (.slice ea (4*q) ec) c10 c11)(c:Held FH w ea ec q hs)(hap:∀k,FH k->¬F3 FL FR FS k)(hq:4*q<=1000000000)(o:Step)(ho:o.Fits w)(hk:1<=o.kind/\o.kind<=5):
  gc 20 #[hh W,o.val] w fun e w'=>e=.returned (.bool true)/\∃b,b<=q+1/\rE ft FL FR FS FH w w' W s r b c5 c6 c7 c8 c10 c11:=by
 obtain⟨kind,a1,a2,a3,S,T,la,lm,lc,es⟩:=o;have of:∀{w'},Stepped ft FL FR FS w w' W s r c5 c6 c7 c8 (.slice ea (4*q) ec) c10 c11->∃b,b<=q+1/\rE ft FL FR FS FH w w' W s r b c5 c6 c7 c8 c10 c11:=fun hs=>⟨q,gV _,xd h c hap hs⟩;have hc:kind=1\/kind=2\/kind=3\/kind=4\/kind=5:=by simp only at hk;omega
 rcases hc with rfl|rfl|rfl|rfl|rfl
 ·exact(CZ h a1 a2 a3 S T la lm lc ho.S).mono fun e w' ⟨a,hs⟩=>⟨a,of hs⟩
 ·exact(FW h a1 a2 a3 S T la lm lc es ho.list ho.many ho.names).mono fun e w' ⟨a,hs⟩=>⟨a,of hs⟩
 ·exact(Da h a1 a2 a3 S T la lm lc).mono fun e w' ⟨a,hs⟩=>⟨a,of hs⟩
 ·exact(FV h c hap hq a1 a2 a3 S T la lm lc).mono fun e w' ⟨a,hs⟩=>⟨a,q+1,kx _,hs⟩
 ·exact(Db h a1 a2 a3 S T la lm lc).mono fun e w' ⟨a,hs⟩=>⟨a,of hs⟩
end
variable {ft:CX}
variable {ft:CX}
theorem LN(W:World)(es:List eN)(t:gi)(cs:Array Value)(a:cs=(flat es).toArray):fT (W.alloc (.cells cs t)) (some (eI W.heap.size 0)) es.length es:=by
 refine⟨rfl,fun _=>⟨W.heap.size,0,rfl,by simp,fun j b hu=>?_⟩⟩
 have:=jF W (flat es) t j b hu
 rw[oz]at this;rw[a];exact this
def Bp:eN:=(⟨#[120]⟩,1,1)
def IG:eN:=(⟨#[100]⟩,2,2)
def II:eN:=(⟨#[97]⟩,1,1)
theorem IJ(W:World)(es:List eN)(t:gi)(cs:Array Value)(a:cs=(flat es).toArray)(hl:es.length<=16)(hs:∀e∈es,e.1.size<=12)(n:Nat)(hn:n=es.length):(Step.mk 2 0 0 0 hZ hZ (some (eI W.heap.size 0)) n n es).Fits (W.alloc (.cells cs t)):=by
 subst hn;exact⟨show ByteArray.size hZ<=maxLen by decide,LN W es t cs a,wl hl (by decide),fun e b=>wl (hs e b) (by decide),show ByteArray.size hZ<=1048576 by decide,show ByteArray.size hZ<=1048576 by decide,⟨show(-9223372036854775808:Int)<=0 by decide,show(0:Int)<=9223372036854775807 by decide⟩,⟨show(-9223372036854775808:Int)<=0 by decide,show(0:Int)<9223372036854775808 by decide⟩⟩
variable {ft:CX}
structure xe (w:World)(a:fD)(n:Nat)(ops:List Step):Prop where
 len:ops.length=n
 many:n<=1048576
 cells:∀i (hi:i<ops.length),∃b off,a=some ⟨b,off,none⟩/\b<w.heap.size/\w.cell? ⟨b,off+i*7,none⟩=some (.int .i64 ops[i].kind)/\w.cell? ⟨b,off+i*7+1,none⟩=some (.int .i64 ops[i].a1)/\w.cell? ⟨b,off+i*7+2,none⟩=some (.int .i64 ops[i].a2)/\w.cell? ⟨b,off+i*7+3,none⟩=some (.int .i64 ops[i].a3)/\
  w.cell? ⟨b,off+i*7+4,none⟩=some (.string ops[i].S)/\w.cell? ⟨b,off+i*7+5,none⟩=some (.string ops[i].T)/\w.cell? ⟨b,off+i*7+6,none⟩=some (.slice ops[i].la ops[i].lm ops[i].lc)
 fits:∀o∈ops,o.Fits w
theorem Step.Fits.below{o:Step}{w w':World}(h:o.Fits w)(a:ik w w'):o.Fits w':=⟨h.S,h.list.below a,h.many,h.names,h.sS,h.sT,h.aad,h.aae⟩
end Go.Proofs.YtlgidcmmgohagaaGreat
namespace Go.Proofs.YtlgidcmmgohagaaGreat
open Go.RowKit Go.Sort Go.Shelf Go.ChangeShapes Go.WideShapes Go.Deep
set_option linter.unusedVariables false
theorem nE:Tryz.prog.cellsOf 96=3:=by kernel_rfl
theorem nOp:Tryz.prog.cellsOf 57=7:=by kernel_rfl
theorem den:Tryz.prog.cellsOf 9=1:=by kernel_rfl
theorem dep:Tryz.prog.cellsOf 3=1:=by kernel_rfl
theorem nID:Tryz.prog.cellsOf 29=1:=by kernel_rfl
theorem nEs:Tryz.prog.cellsOf 55=1:=by kernel_rfl
theorem Ul{H:Type}(d:DataW H):1<=Rows.uptoBulk d:=by
 cases d with
 |lit l=>cases l<;>simp[Rows.uptoBulk]
 |_=>simp[Rows.uptoBulk]
theorem tj{H:Type}{d:DataW H}:∀{l:List (DataW H)},d∈l->Rows.uptoBulk d<=Rows.uptoBulkAll l
 |x::r,h=>by
  simp only[Rows.uptoBulkAll]
  rcases gU.1 h with e|e
  ·rw[e];omega
  ·have:=tj e;omega
theorem Eb{H:Type}:∀(l:List (DataW H)),l.length<=Rows.uptoBulkAll l
 |[]=>tk _
 |x::r=>by
  have:=Eb r
  have:=Ul x
  simp only[Rows.uptoBulkAll,jA];omega
theorem Bq{H:Type}(es sp:List (DataW H)):es.length<=Rows.uptoBulk (.slice es sp)/\∀d∈es,Rows.uptoBulk d<=Rows.uptoBulk (.slice es sp):=by
 have h1:=Eb es;simp only[Rows.uptoBulk];exact⟨by omega,fun d hd=>by have:=tj hd;omega⟩
theorem Br{H:Type}(ps:List (DataW H)):∀d∈ps,Rows.uptoBulk d<=Rows.uptoBulk (.agg ps):=fun d hd=>by
 have:=tj hd
 simp only[Rows.uptoBulk]
 omega
theorem Ec{w:World}{a:Addr}{i:Nat}{v:Value}(hs:a.spot=none)(h:w.cell? (a.add i)=some v):w.cell? (eI a.block (a.off+i))=some v:=by
 obtain⟨b,o,sp⟩:=a;simp only at hs;subst hs;rw[oz]at h;exact h
theorem add_block(a:Addr)(n:Nat):(a.add n).block=a.block:=by unfold Addr.add;split<;>rfl
section
variable {H:Type}{enc:gi×Value->H}{w:World}{base:Nat}{sp:Nat->Bool}{held:Bool}
set_option maxRecDepth 100000 in
theorem IK{n:Nat}{cs:fQ}{x:DataW H×List MemPlace}(h:DataW.trod enc Tryz.prog w base sp held n 96 cs=some x):∃e:eN,cs=ml e/\e.1.size<=maxLen:=by
 obtain⟨c,d,f,g,_,hl,h0,h1,h2⟩:=trod_struct3 Tryz.underlying96 h;rw[nE]at hl
 match cs,hl with
 |[j,l,m],_=>
  simp only[den,dep,nID,Ar,Pk,SQ,SP]at h0 h1 h2;obtain⟨s,a,_,hs⟩:=DataW.trod_string Ww h0;obtain⟨k,b,_,_⟩:=Pt SI h1;obtain⟨i,e2,_,_⟩:=Pt cop h2;simp only[sG,wC]at a b e2;subst a;subst b;subst e2;exact⟨(s,k,i),rfl,hs⟩
theorem Qr{a:Addr}{len:Nat}(f:Nat->eN)(hs:0<len->a.spot=none/\a.block<w.heap.size)(hc:∀i,i<len->∀j,j<3->w.cell? (eI a.block (a.off+(i*3+j)))=(ml (f i))[j]?):fT w (some a) len ((List.range len).map f):=by
 refine⟨by simp,fun hp=>⟨a.block,a.off,?_,(hs hp).2,fun j c hu=>?_⟩⟩
 ·have:=(hs hp).1
  obtain⟨b,o,s⟩:=a;simp only at this;subst this;rfl
 ·have hj:j<len*3:=by
   have:=(wj.1 hu).1
   rw[km]at this;simpa using this
  have hi:j / 3<len:=by omega
  have e:j=j / 3*3+j % 3:=by omega
  rw[e]at hu ⊢;rw[WP _ (j / 3) (j % 3) (by simpa using hi) (by omega)]at hu;rw[hc (j / 3) hi (j % 3) (by omega),<-hu];simp
theorem Qs{n:Nat}{v:Value}{x:DataW H×List MemPlace}(h:DataW.trod enc Tryz.prog w base sp held n 55 [v]=some x):
  ∃la lm lc es,v=.slice la lm lc/\fT w la lm es/\(∀e∈es,e.1.size<=maxLen)/\lm<=Rows.uptoBulk x.1:=by
 rcases open_slice coe h with⟨hc,hx⟩|⟨a,len,cap,m,s,D,t,hc,u,hl,hm,l,hx,b⟩
 ·simp only[sG,wC]at hc
  exact⟨none,0,0,[],hc,⟨rfl,fun h=>absurd h (Nat.lt_irrefl _)⟩,(fun e c=>by cases c),tk _⟩
 ·simp only[sG,wC]at hc
  have y:len<=m:=by rw[l];split<;>omega
  rw[nE]at b;have o:∀i,i<len->a.spot=none:=fun i hi=>by
   obtain⟨cs,h1,h2⟩:=b 0 (by omega);obtain⟨e,rfl,_⟩:=IK h2;obtain⟨_,_,d⟩:=World.cells?_some h1
   have:=World.cell?_spot (v:=.string e.1) (by rw[d 0 (by omega)];rfl)
   simpa [Addr.add]using this
  have p:∀i,i<len->∃e:eN,e.1.size<=maxLen/\a.spot=none/\a.block<w.heap.size/\∀j,j<3->w.cell? (eI a.block (a.off+(i*3+j)))=(ml e)[j]?:=fun i hi=>by
   obtain⟨cs,h1,h2⟩:=b i (by omega);obtain⟨e,rfl,q⟩:=IK h2;obtain⟨_,_,d⟩:=World.cells?_some h1;have r:a.block<w.heap.size:=by
    have:=World.cells?_block h1 (by omega)
    rw[add_block]at this;exact this
   have g:=o i hi;refine⟨e,q,g,r,fun j hj=>?_⟩;have k:j<(ml e).length:=by simpa [ml]using hj
   have:=d j hj
   rw[add_add,jy k]at this;rw[jy k];exact Ec g this
  obtain⟨f,hf⟩:=choose_lt p;refine⟨some a,len,cap,(List.range len).map f,hc,Qr f (fun hp=>⟨(hf 0 hp).2.1,(hf 0 hp).2.2.1⟩) (fun i hi=>(hf i hi).2.2.2),fun e c=>?_,?_⟩
  ·obtain⟨i,hi,rfl⟩:=ij.1 c
   exact(hf i (Hp.1 hi)).1
  ·rw[hx]
   have:=(Bq ((List.range len).map D) ((List.range (m-len)).map fun j=>D (len+j))).1
   simpa using this
instance:Inhabited Step:=⟨⟨0,0,0,0,ByteArray.empty,ByteArray.empty,none,0,0,[]⟩⟩
def Step.cells (o:Step):fQ:=[.int .i64 o.kind,.int .i64 o.a1,.int .i64 o.a2,.int .i64 o.a3,.string o.S,.string o.T,.slice o.la o.lm o.lc]
theorem FX{P:Program}{t:gi}{f0 f1 f2 f3 f4 f5 f6:Field}{fuel:Nat}{cs:fQ}{x:DataW H×List MemPlace}(ht:P.underlying t=some (.struct #[f0,f1,f2,f3,f4,f5,f6]))(h:DataW.trod enc P w base sp held fuel t cs=some x):
  ∃a b c d e f g n,x.1=.agg [a.1,b.1,c.1,d.1,e.1,f.1,g.1]/\cs.length=P.cellsOf t/\DataW.trod enc P w base sp held n f0.type ((cs.drop f0.offset).take (P.cellsOf f0.type))=some a/\DataW.trod enc P w base sp held n f1.type ((cs.drop f1.offset).take (P.cellsOf f1.type))=some b/\
   DataW.trod enc P w base sp held n f2.type ((cs.drop f2.offset).take (P.cellsOf f2.type))=some c/\DataW.trod enc P w base sp held n f3.type ((cs.drop f3.offset).take (P.cellsOf f3.type))=some d/\DataW.trod enc P w base sp held n f4.type ((cs.drop f4.offset).take (P.cellsOf f4.type))=some e/\
   DataW.trod enc P w base sp held n f5.type ((cs.drop f5.offset).take (P.cellsOf f5.type))=some f/\DataW.trod enc P w base sp held n f6.type ((cs.drop f6.offset).take (P.cellsOf f6.type))=some g:=by
 obtain⟨xs,n,_,rfl,hl,i,hf⟩:=DataW.trod_struct ht h
 match xs,i with
 |[a,b,c,d,e,f,g],_=>exact⟨a,b,c,d,e,f,g,n,by simp,hl,by simpa using hf 0 f0 rfl,by simpa using hf 1 f1 rfl,by simpa using hf 2 f2 rfl,by simpa using hf 3 f3 rfl,by simpa using hf 4 f4 rfl,by simpa using hf 5 f5 rfl,by simpa using hf 6 f6 rfl⟩
set_option maxRecDepth 100000 in
theorem Oo{n:Nat}{cs:fQ}{x:DataW H×List MemPlace}(h:DataW.trod enc Tryz.prog w base sp held n 57 cs=some x)(hx:Rows.uptoBulk x.1<=1048576):∃o:Step,cs=o.cells/\o.Fits w:=by
 obtain⟨J,K,L,M,u,v,y,N,c,hl,f,g,i,g3,j,k,l⟩:=FX Tryz.underlying57 h;rw[nOp]at hl
 match cs,hl with
 |[O,P,Q,R,S,T,v6],_=>
  simp only[den,dep,nEs,Ar,Pk,SQ,SP]at f g i g3 j k l;obtain⟨z,m,_,_⟩:=Pt SI f;obtain⟨A,p,_,q⟩:=Pt SI g;obtain⟨B,e2,_,d⟩:=Pt SI i;obtain⟨C,r,_,_⟩:=Pt SI g3;obtain⟨a,s,D,E⟩:=DataW.trod_string Ww j;obtain⟨b,t,F,U⟩:=DataW.trod_string Ww k;obtain⟨la,lm,lc,es,G,I,hS,V⟩:=Qs l;simp only[sG,wC]at m p e2 r s t;subst m;subst p;subst e2;subst r;subst s;subst t;subst G;refine⟨⟨z,A,B,C,a,b,la,lm,lc,es⟩,rfl,⟨E,I,?_,hS,?_,?_,?_,?_⟩⟩
  ·have h6:Rows.uptoBulk y.1<=Rows.uptoBulk x.1:=by
    rw[c];exact Br _ _ (by simp)
   show lm<=2097152;omega
  ·have h6:Rows.uptoBulk u.1<=Rows.uptoBulk x.1:=by
    rw[c];exact Br _ _ (by simp)
   rw[D]at h6;have e:a.data.toList.length=a.size:=ng;simp only[Rows.uptoBulk,e]at h6;show a.size<=1048576;omega
  ·have h6:Rows.uptoBulk v.1<=Rows.uptoBulk x.1:=by
    rw[c];exact Br _ _ (by simp)
   rw[F]at h6;have e:b.data.toList.length=b.size:=ng;simp only[Rows.uptoBulk,e]at h6;show b.size<=1048576;omega
  ·simp[Lit.wf]at q
   exact q
  ·simp[Lit.wf]at d
   exact⟨d.1,Int.lt_of_le_of_lt d.2 (by decide)⟩
theorem IL{n:Nat}{v:Value}{x:DataW H×List MemPlace}(h:DataW.trod enc Tryz.prog w base sp held n 22 [v]=some x)(hx:Rows.uptoBulk x.1<=1048576):∃a len c ops,v=.slice a len c/\xe w a len ops:=by
 rcases open_slice Tryz.underlying22 h with⟨hc,_⟩|⟨a,len,cap,m,E,D,F,hc,G,hl,hm,r,t,g⟩
 ·simp only[sG,wC]at hc
  exact⟨none,0,0,[],hc,⟨rfl,tk _,(fun i hi=>by cases hi),(fun o ho=>by cases ho)⟩⟩
 ·simp only[sG,wC]at hc
  have I:len<=m:=by rw[r];split<;>omega
  rw[nOp]at g;have k:=Bq ((List.range len).map D) ((List.range (m-len)).map fun j=>D (len+j));rw[t]at hx;have u:len<=1048576:=by
   have:=k.1
   simp only[nD,List.length_range]at this;have h2:Rows.uptoBulk (DataW.slice ((List.range len).map D) ((List.range (m-len)).map fun j=>D (len+j)))<=1048576:=hx;omega
  have y:∀i,i<len->a.spot=none:=fun i hi=>by
   obtain⟨cs,h1,h2⟩:=g 0 (by omega);obtain⟨o,rfl,_⟩:=Oo h2 (wl (k.2 (D 0) (CM (Hp.2 (by omega)))) hx);obtain⟨_,_,l⟩:=World.cells?_some h1
   have:=World.cell?_spot (v:=.int .i64 o.kind) (by rw[l 0 (by omega)];rfl)
   simpa [Addr.add]using this
  have z:∀i,i<len->∃o:Step,o.Fits w/\a.spot=none/\a.block<w.heap.size/\∀j,j<7->w.cell? ⟨a.block,a.off+(i*7+j),none⟩=(o.cells)[j]?:=fun i hi=>by
   obtain⟨cs,h1,h2⟩:=g i (by omega);obtain⟨o,rfl,A⟩:=Oo h2 (wl (k.2 (D i) (CM (Hp.2 hi))) hx);obtain⟨_,_,l⟩:=World.cells?_some h1;have p:a.block<w.heap.size:=by
    have:=World.cells?_block h1 (by omega)
    rw[add_block]at this;exact this
   have e:=y i hi;refine⟨o,A,e,p,fun j hj=>?_⟩;have q:j<(o.cells).length:=by simpa [Step.cells]using hj
   have:=l j hj
   rw[add_add,jy q]at this;rw[jy q];exact Ec e this
  obtain⟨f,hf⟩:=choose_lt z;refine⟨some a,len,cap,(List.range len).map f,hc,⟨by simp,u,fun i hi=>?_,fun o ho=>?_⟩⟩
  ·have B:i<len:=by simpa using hi
   obtain⟨_,e,p,d⟩:=hf i B;have C:a=⟨a.block,a.off,none⟩:=by
    obtain⟨b,o,s⟩:=a;simp only at e;subst e;rfl
   have hg:((List.range len).map f)[i]=f i:=by simp
   rw[hg];exact⟨a.block,a.off,by rw[<-C],p,d 0 (by omega),d 1 (by omega),d 2 (by omega),d 3 (by omega),d 4 (by omega),d 5 (by omega),d 6 (by omega)⟩
  ·obtain⟨i,hi,rfl⟩:=ij.1 ho
   exact(hf i (Hp.1 hi)).1
end
end Go.Proofs.YtlgidcmmgohagaaGreat
