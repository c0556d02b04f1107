/- What is proved here: 'putDir' of the law's world. -/
import Derived.Test.YtlgidcmmgohagaaGreatFileM07
import Derived.Test.YtlgidcmmgohagaaGreatRows
import Derived.Deep.Slices
import Derived.Deep.Strs
namespace Go.Proofs.YtlgidcmmgohagaaGreat
open Go.RowKit Go.Sort Go.Shelf
set_option linter.unusedVariables false
set_option maxRecDepth 100000
set_option maxHeartbeats 16000000
variable {ft:z1}
theorem rb{w:World}{b:Nat}{t:fL}{a:e5}{m c:Nat}{es:List eD}(h:w.ownsRow b t 3 (.slice a m c) m (flat es)):fF w a m es:=by
 have hl:es.length=m:=by have:=h.1;rw[ib]at this;omega
 refine⟨hl,fun hp=>?_⟩;obtain⟨g,e,hv⟩:=ej h hp;have d:=(kW hv).1;subst d;exact⟨g,0,rfl,ee h rfl,hh h⟩
theorem nN{F:Nat->Prop}{B:Nat}{w w':World}(hF:∀k,F k->k<B)(hk:en F w w'){b:Nat}{t:fL}{sz n:Nat}{v:Value}{xs:fE}(hr:w.ownsRow b t sz v n xs)(a:B<=b):w'.ownsRow b t sz v n xs:=
 eh hr (fun g hg=>hk.block g (hr.lt g hg).2 (fun hf=>by have:=hF g hf;have:=(hr.lt g hg).1;omega))
theorem gC{F:Nat->Prop}{w c d:World}(a:en F w c)(b:en F c d):en F w d:=
 ⟨b.os.trans a.os,b.tape.trans a.tape,b.output.trans a.output,pD a.size b.size,fun q hq hn=>(b.block q (kv hq a.size) hn).trans (a.block q hq hn)⟩
theorem A0{es b:List eD}{j:Nat}{a:Value}(h:(flat es)[j]?=some a):(flat (es++b))[j]?=some a:=by
 rw[ld,ox (s6.1 h).1];exact h
section
variable {FL FR FS FH:Nat->Prop}{w:World}{W s r:Nat}{ei ep:List Ob}{c5 c6 c7 c8 c9 c10 c11:Value}
theorem A1(h:W3 ft FL FR FS w W s r ei ep c5 c6 c7 c8 c9 c10 c11)(x:eD):eK 41 #[fj W,ed x.2.2] w (tz (ed (AC ei.length x).2.2) w):=by
 by_cases a:1<=x.2.2/\x.2.2<=(ei.length:Int)
 ·obtain⟨j,hj⟩:∃j:Nat,x.2.2=(j:Int)+1:=⟨(x.2.2-1).toNat,by omega⟩
  have e:(AC ei.length x).2.2=(j:Int):=by unfold AC;rw[fY a];show x.2.2-1=_;omega
  rw[e,hj];exact mj h j (by omega)
 ·have e:(AC ei.length x).2.2=-1:=by unfold AC;rw[eJ a]
  rw[e];exact sH h _ (by omega)
theorem Sm{w5 w6 a:World}{f b c k d:Nat}{e:e5}{es:List eD}(h:W3 ft FL FR FS w W s r ei ep c5 c6 c7 c8 c9 c10 c11)(g:en FS w5 w6)(i:en FR w6 a)(n:w5.ownsRow f 96 3 (.slice e k d) k (flat es))(jY:w5.ownsRow b 96 3 (.slice (some (eb c 0)) (k+3) (k+3)) (k+3) (flat (es++List.replicate 3 sA)))
  (j:w.heap.size<=f)(l:w.heap.size<=b)(p:k<=2097152)(o:k=0->e=none/\d=0):
  eK 83 #[.slice (some (eb c 0)) (k+3) (k+3),.slice e k d] a ((ml (.bool true) a))/\a.ownsRow b 96 3 (.slice (some (eb c 0)) (k+3) (k+3)) (k+3) (flat (es++List.replicate 3 sA)):=by
 have f6:∀k,FS k->k<w.heap.size:=fun k hk=>(h.sep.sl k hk).1;have f7:∀k,FR k->k<w.heap.size:=fun k hk=>(h.sep.rl k hk).1;have m:=nN f7 i (nN f6 g jY l) l;exact⟨N9 c e k d es a (rb (nN f7 i (nN f6 g n j) j)) (by omega) o b m,m⟩
theorem Jv{n:Nat}{es:List eD}(hs:∀e∈es,e.1.size<=maxLen):(∀e∈es.map (AC n),e.1.size<=maxLen)/\∀e∈es.map (AC n),-1<=e.2.2/\e.2.2<(n:Int):=by
 constructor
 ·intro e b
  obtain⟨a,h0,rfl⟩:=H3.1 b;exact hs a h0
 ·intro e b
  obtain⟨a,h0,rfl⟩:=H3.1 b;unfold AC;split
  ·next c=>exact⟨show -1<=a.2.2-1 by omega,show a.2.2-1<(n:Int) by omega⟩
  ·exact⟨show(-1:Int)<=-1 by omega,show(-1:Int)<(n:Int) by omega⟩
theorem QV(h:W3 ft FL FR FS w W s r ei ep c5 c6 c7 c8 c9 c10 c11)(az a1 a2 a3:Int)(S T:eu)(la:e5)(lm lc:Nat)(es:List eD)(hl:fF w la lm es)(bg:lm<=2097152)(aA:∀e∈es,e.1.size<=maxLen):
  eK 38 #[fj W,.agg #[ed az,ed a1,ed a2,ed a3,.string S,.string T,.slice la lm lc]] w fun e w'=>e=.returned (.bool true)/\Stepped ft FL FR FS w w' W s r c5 c6 c7 c8 c9 c10 c11:=by
 obtain⟨bh,hi,bi,bj,bk⟩:=H4 Ec;obtain⟨bl,bm,bn,bo,bp⟩:=H4 tv;have f:Hid (W3 ft FL FR FS w W s r ei ep c5 c6 c7 c8 c9 c10 c11):=h;obtain⟨b2,b3,b4,bq⟩:=h.law.cells;obtain⟨B,I⟩:∃B:Obj,B=.cells #[ed az,ed a1,ed a2,ed a3,.string S,.string T,.slice la lm lc] 57:=⟨_,rfl⟩;obtain⟨c,O⟩:∃c,c=w.alloc B:=⟨_,rfl⟩;have af:gS w c:=by rw[O];exact(i7 _ _).alloc (io _) B
 have aB:c.cell? (eb w.heap.size 6)=some (.slice la lm lc):=by rw[O,I];simp
 have aC:w.heap.size<c.heap.size:=by rw[O];simp
 have P:Hid (W3 ft FL FR FS c W s r ei ep c5 c6 c7 c8 c9 c10 c11):=h.below af;have Z:Hid (fF w la lm es):=hl;have aD:Hid (∀e∈es,e.1.size<=maxLen):=aA;obtain⟨n,hn⟩:∃n,n=ei.length:=⟨_,rfl⟩;have ag:Hid (n=ei.length):=hn;clear h hl aA hn;go_enter Tryz.func38,Tryz.ntmps38;go_wp2;rw[<-I,<-O];clear I O
 go_loopw [5,6,7] (fun l m i wr=>∃(k:Nat) (C:e5) (D:Nat) (E:e5) (F:Nat),k<=lm/\i=.int .i64 (k:Int)/\l=.slice C k D/\m=.slice E k F/\gS c wr/\Hid (wr.ownsRow c.heap.size 96 3 (.slice C k D) k (flat (es.take k)))/\Hid (wr.ownsRow c.heap.size 112 3 (.slice E k F) k (flat ((es.take k).map (AC n))))/\Hid (k=0->C=none/\D=0)) (fun _ _ i _=>lm-(intOf i).toNat)
 case atStart=>exact⟨0,none,0,none,0,oY _,rfl,rfl,rfl,i7 _ _,UV _ _ _ _,UV _ _ _ _,fun _=>⟨rfl,rfl⟩⟩
 case round=>
  obtain⟨k,C,D,E,F,hk,rfl,rfl,rfl,u,A,G,aE⟩:=hrel;have b5:=u.size;have aF:=(u.cell (p:=(eb w.heap.size 6)) (by show w.heap.size<_;omega)).trans aB;by_cases br:k<lm
  ·obtain⟨b,off,aG,ah,hc⟩:=Z.out.2 (by omega)
   have ai:k<es.length:=by rw[Z.out.1];exact br
   obtain⟨c0,c1,c2⟩:=i2 hc ai;obtain⟨x,hx⟩:∃x,x=es[k]:=⟨_,rfl⟩;rw[<-hx]at c0 c1 c2;have aj:gS w wr:=af.trans (u.mono (by omega));have bs:=(aj.cell (p:=(eb b (off+k*3))) ah).trans c0;have bt:=(aj.cell (p:=(eb b (off+k*3+1))) ah).trans c1;have bu:=(aj.cell (p:=(eb b (off+k*3+2))) ah).trans c2;have b6:b<wr.heap.size:=by omega
   rw[aG]at aF;have aH:Hid (x=es[k]):=hx;have aI:Hid (∀X,eK 39 #[fj W,ed x.2.2] (wr.alloc X) fun e w'=>e=.returned (ed x.2.2)/\w'=wr.alloc X):=fun X=>vZ (P.out.below (u.alloc u.size X)) x.2.2
   have b7:(k:Int)<(lm:Int):=by omega
   clear hc c0 c1 c2 hx aG;go_wp2_with(first|(go_at_call 39;refine g7 (aI.out _) ?_;rintro _ _ ⟨rfl,rfl⟩)|(at_builtin;refine r6 _ rfl (.tmp 33) (.tmp 40) 55 rfl c.heap.size 96 bh _ 3 32 TE hi bi bj bk rfl (by decide) _ _ _ rfl ((A.out.alloc _).alloc _) (eb (wr.heap.size+1) 0) 1 1 (kA x) rfl rfl (m0 (wr.alloc _) x _ _ (by simp)) (lL x) (by unfold maxLen;omega) (by omega) (by simp;omega) ?_));intro bv t ak Q _;have I:c.heap.size<=((wr.alloc (Obj.cells #[Value.string x.fst,Value.int IntKind.i64 x.snd.fst,Value.int IntKind.i64 x.snd.snd] 96)).alloc (Obj.cells #[Value.string x.fst,Value.int IntKind.i64 x.snd.fst,Value.int IntKind.i64 x.snd.snd] 96)).heap.size:=by simp;omega
   have R:gS c t:=pw ((u.alloc u.size _).alloc (by simp;omega) _) I ((A.out.alloc _).alloc _) Q;have aJ:some wr.heap.size≠(Value.slice C k D).ownBlock:=fun e=>by have:=ee A.out e.symm;omega
   have al:=Q.block wr.heap.size (by simp;omega) aJ;have aK:t.cell? (eb wr.heap.size 0)=some (.string x.1):=(ig (a:=(eb wr.heap.size 0)) al).trans (by simp);have bw:t.cell? (eb wr.heap.size 1)=some (ed x.2.1):=(ig (a:=(eb wr.heap.size 1)) al).trans (by simp);have am:Hid (t.ownsRow c.heap.size 96 3 bv (k+1) (flat (es.take (k+1)))):=by show World.ownsRow _ _ _ _ _ _ _;rw[<-u6 ai,<-aH.out];exact ak
   have an:Hid (t.ownsRow c.heap.size 112 3 (.slice E k F) k (flat ((es.take k).map (AC n)))):=eh G.out (fun g hg=>by
    have hl:=ee G.out hg;rw[Q.block g (by simp;omega) (ma G.out A.out (by decide) hg),jU _ _ _ (by simp;omega),jU _ _ _ hl])
   have b8:wr.heap.size<t.heap.size:=by have:=Q.size;simp at this;omega
   have bx:Hid (∀q,eK 41 #[fj W,ed x.2.2] (t.drewN q) fun e w'=>e=.returned (ed (AC n x).2.2)/\w'=t.drewN q):=fun q=>by rw[ag.out];exact A1 (P.out.below (PP R q)) x
   obtain⟨aL,aM,rfl⟩:=lf ak;clear ak Q I al aJ aI bs bt bu;go_wp2
   go_region_law(first
    |(refine pm rfl (.tmp 42) (.tmp 51) 106 rfl c.heap.size 112 bl _ 3 32 Tryz.underlying106 bm bn bo bp rfl (by decide) (.slice E k F) k (flat ((es.take k).map (AC n))) (by simp[Act.eval]) (mL (show t.drew.ownsRow _ _ _ _ _ _ from an.out) _) (eb t.heap.size 0) 1 1 (kA (AC n x)) (by simp[Act.eval]) rfl (m0 t.drew (AC n x) _ _ rfl) (lL _) (by unfold maxLen;omega) (by omega) (by have:=R.size;simp;omega) ?_;intro bz w3 ao ap _)
    |(go_simp;go_at_call 41;refine g7 (bx.out 1) ?_;rintro _ _ ⟨rfl,rfl⟩))
   all_goals
    have bA:gS c w3:=pw ((PP R 1).alloc R.size _) (by have:=R.size;simp;omega) (mL (show(t.drewN 1).ownsRow _ _ _ _ _ _ from an.out) _) ap;have bB:Hid (w3.ownsRow c.heap.size 112 3 bz (k+1) (flat ((es.take (k+1)).map (AC n)))):=by
     show World.ownsRow _ _ _ _ _ _ _;rw[sZ ai,k7,WF,r7,ld,mn,<-aH.out];exact ao
    have bC:Hid (w3.ownsRow c.heap.size 96 3 (.slice aL (k+1) aM) (k+1) (flat (es.take (k+1)))):=eh am.out (fun g hg=>by
     have hl:=ee am.out hg;rw[ap.block g (by simp;omega) (ma am.out an.out (by decide) hg),jU _ _ _ (show g<(t.drewN 1).heap.size from hl)];rfl)
    obtain⟨bD,bE,rfl⟩:=lf ao;clear ao ap;go_wp2;go_roundw
    case rel=>exact⟨k+1,aL,aM,bD,bE,by omega,by go_num,rfl,rfl,bA,bC.out,bB.out,fun e=>by omega⟩
    case measure=>simp[intOf];omega
  ·have bF:k=lm:=by omega
   subst bF;have bG:decide ((k:Int)<(k:Int))=false:=m6 (by omega);have ht:es.take k=es:=jH (by rw[Z.out.1];exact io _);rw[ht]at A G;have aN:=yo C k D es wr (rb A.out) (by omega) aE.out;have bH:Hid _:=aN;clear aN ht;go_wp2_with(go_at_call 81;refine g7 bH.out ?_;rintro _ w5 ⟨o,rfl,jY,aq⟩;have aa:Hid _:=jY;clear jY;have U:gS c w5:=u.trans (aq.mono u.size);have bI:=(fI.cells (P.out.below U).law).1;have bJ:=(fI.cells (P.out.below U).law).2.2.1);have ar:gS w w5:=af.trans (U.mono (by omega));have bK:Hid (W3 ft FL FR FS w5 W s r ei ep c5 c6 c7 c8 c9 c10 c11):=P.out.below U;have aO:Hid (w5.ownsRow c.heap.size 96 3 (.slice C k D) k (flat es)):=eh A.out (fun g hg=>aq.block g (ee A.out hg));have aP:Hid (w5.ownsRow c.heap.size 112 3 (.slice E k F) k (flat (es.map (AC n)))):=eh G.out (fun g hg=>aq.block g (ee G.out hg));have bL:c.heap.size<=o/\o<w5.heap.size:=by have:=World.ownsRow.lt aa.out o rfl;exact⟨pD u.size this.1,this.2⟩
   have aQ:=tX (f.out.below (PP ar 1)).qX o 0 k (k+3) es Z.out.1 bL.2 (by omega) (fun j bM hu=>hh aa.out j bM (A0 hu)) aD.out;have aR:Hid _:=aQ;have b9:c.heap.size<=w5.heap.size:=U.size;have ca:c.heap.size<=wr.heap.size:=u.size;clear aQ A G aF aB
   go_region_with(first|(go_at_call 26;refine g7 aR.out ?_;rintro e w6 ⟨J,kZ,aS,K⟩;obtain⟨id,L,au⟩:=kZ.shape;have bN:Hid (gf ei J es e):=kZ;have bO:Hid (e=.returned (.tuple #[ed id,ed L])):=au;rw[au];clear kZ au))
   all_goals
    have M:en FS w5 w6:=⟨K.os,K.tape,K.output,K.size,K.block⟩;have bQ:Hid (fK ft (ie FS w5 w6) w6 s J):=aS;have aT:Hid (en FS w5 w6):=M;have cb:w5.heap.size<=w6.heap.size:=M.size;have bR:w6.cell? (eb W 1)=some (fj r):=(ig (a:=(eb W 1)) (M.block W bJ (fun hf=>(f.out.sep.sl W hf).2 bq))).trans (fI.cells bK.out.law).2.1;have cc:W<w6.heap.size:=by omega
    have aU:eU FR w6 r ep:=f.out.ref.keep (fun _ h=>h) (fun q hq=>(M.block q (by have:=(f.out.sep.rl q hq).1;omega) (f.out.sep.rs q hq)).trans (ar.block q (f.out.sep.rl q hq).1));have aV:=nN (fun q hq=>(f.out.sep.sl q hq).1) M aP.out (uQ aC);have av:=Jv (n:=n) aD.out;have aW:=vT aU E k F (es.map (AC n)) (rb aV) (by omega) av.1 (by rw[<-f.out.twin.1,<-ag.out];exact av.2);have aX:Hid _:=aW;clear aW av aV aU M K aS aR
    go_frame
    go_wp2_with(first
     |(go_at_call 82;refine g7 aX.out ?_;rintro _ bS ⟨x,y,V,rfl,aY,aZ,ab⟩;have a0:Hid _:=rT f.out ar aT.out bQ.out ab aZ bN.out (by rw[<-ag.out];exact aY) bO.out;have ac:Hid _:=Sm f.out aT.out ab aO.out aa.out (uQ aC) (by omega) bg aE.out;have cd:=ab.size;clear aY aZ ab)
     |(go_at_call 83;refine g7 ac.out.1 ?_;rintro _ a4 ⟨rfl,a5⟩))
    have bT:Hid (a4.ownsRow 0 96 3 (.slice (some (eb o 0)) (k+3) (k+3)) (k+3) (flat (es++List.replicate 3 sA))):=eh (lw ac.out.2 (oY _)) (fun g hg=>a5.block g (ee ac.out.2 hg));clear aX aO aP aa ac bI bR
    go_loopw [16] (fun i wq=>∃d:Nat,d<=k+3/\i=.int .i64 (d:Int)/\Hid (en (fun q=>q=o) a4 wq)/\Hid (∃xs,wq.ownsRow 0 96 3 (.slice (some (eb o 0)) (k+3) (k+3)) (k+3) xs)) (fun i _=>k+3-(intOf i).toNat)
    case atStart=>exact⟨0,oY _,rfl,en.refl _,⟨_,bT.out⟩⟩
    case round=>
     obtain⟨d,hd,rfl,aw,ax⟩:=hrel;obtain⟨xs,H⟩:=ax.out;by_cases ce:d<k+3
     ·have cf:=fun j=>H.frozenAt j
      have ad:∀j,j<3->∃v,wr.cell? (eb o (d*3+j))=some v:=fun j hj=>by
       rw[H.cellAt (d*3+j) (by omega)];exact⟨_,gJ (by rw[H.1];omega)⟩
      obtain⟨cg,aK⟩:=ad 0 (by omega);obtain⟨ch,bw⟩:=ad 1 (by omega);obtain⟨ci,e2⟩:=ad 2 (by omega);rw[zT]at aK;have cj:(d:Int)<(k:Int)+3:=by omega
      have ck:o<wr.heap.size:=ee H rfl;have bU:Hid (wr.ownsRow 0 96 3 (.slice (some (eb o 0)) (k+3) (k+3)) (k+3) xs):=H;clear ad ax H;go_wp2;refine⟨⟨d+1,by omega,by go_num,gC (gC (gC aw.out (gO rfl)) (gO rfl)) (gO rfl),⟨_,(Kf (Kf (Kf bU.out _ _).1 _ _).1 _ _).1⟩⟩,by simp[intOf];omega⟩
     ·have bG:decide ((d:Int)<(k:Int)+3)=false:=m6 (by omega)
      obtain⟨a6,a7,a8,a9,bb,bc,bd⟩:=a0.out;have be:en (fun q=>q=o) bS wr:=gC (en.ew a5) aw.out;have hF:=yy a7 a8 a9 bb bd be (fun hf=>by have:=f.out.sep.ll o hf;omega) (fun hf=>by
       rcases hf with hf|hf
       ·have:=(f.out.sep.rl o hf).1;omega
       ·have:=hf.1;omega) (fun hf=>by
       rcases hf with hf|hf
       ·have:=(f.out.sep.sl o hf).1;omega
       ·have:=hf.1;omega) (by omega)
      have z:Hid _:=hF;have bV:Hid (gi V):=bc;have bW:Hid (sG ei J ep V id L x y):=a6;have bf:=fun(e:Int) (bX:World)=>u3 e bX;obtain⟨bY,_,ay⟩:=a6;subst bY;clear H ax hF a7 a8 a9 bb bc bd be aw a0;by_cases ae:L=0
      ·have bZ:=oM z.out.1 z.out.2.2.1 z.out.2.1 z.out.2.2.2.1 bV.out bW.out ae f.out.twin.1
       subst ae;clear ay;have cl:((0:Int) != 0)=false:=by simp
       go_wp2_with(first
        |(go_at_call 22;refine g7 (bf _ _) ?_;rintro _ _ ⟨rfl,rfl⟩)
        |(go_at_call 37;refine g7 bZ ?_;rintro _ cm ⟨rfl,b0,Y⟩))
       go_ret;refine⟨rfl,_,_,_,J,V,b0,?_,?_⟩
       ·have b1:=z.out.2.2.2.2.size
        refine fun q=>⟨?_,?_,?_⟩<;>rintro(h|h)
        ·exact .inl h
        ·exact .inr (pD b1 h.1)
        ·exact .inl h
        ·have:=h.1;exact .inr (by omega)
        ·exact .inl h
        ·have:=h.1;exact .inr (by omega)
       ·have N:=z.out.2.2.2.2
        exact⟨Y.os.trans N.os,Y.tape.trans N.tape,Y.output.trans N.output,pD N.size Y.size,fun q hq hn=>(Y.block q (kv hq N.size) (fun h=>hn (.inl h))).trans (N.block q hq hn)⟩
      ·have hid:id=0/\J=ei/\V=ep:=by
        rcases ay with h|h
        ·exact h.2
        ·exact absurd h.1 ae
       have cn:(L != 0)=true:=by simpa using ae
       have cp:(L != L)=false:=(by simp);obtain⟨rfl,rfl,rfl⟩:=hid;clear ay;go_wp2_with(go_at_call 22;refine g7 (bf _ _) ?_;rintro _ _ ⟨rfl,rfl⟩);go_ret;refine⟨rfl,_,_,_,J,V,⟨z.out.1,z.out.2.2.1,z.out.2.1,f.out.twin,f.out.at_,z.out.2.2.2.1⟩,?_,z.out.2.2.2.2⟩
       ·refine fun q=>⟨.inl,?_,?_⟩<;>rintro(h|h)
        ·exact .inl h
        ·have:=h.1;exact .inr (by omega)
        ·exact .inl h
        ·have:=h.1;exact .inr (by omega)
end
variable {ft:z1}
theorem fF.below{w w':World}{a:e5}{m:Nat}{es:List eD}(h:fF w a m es)(c:gS w w'):fF w' a m es:=
 ⟨h.1,fun hp=>by
  obtain⟨b,off,e,d,hc⟩:=h.2 hp
  exact⟨b,off,e,kv d c.size,fun j f hu=>(c.cell (p:=(eb b (off+j))) d).trans (hc j f hu)⟩⟩
section
variable {FL FR FS FH:Nat->Prop}{w:World}{W s r:Nat}{ei ep:List Ob}{c5 c6 c7 c8 c9 c10 c11:Value}{ea:e5}{ec q:Nat}{hs:List fJ}
theorem Ab{a w':World}(b:gS w a)(h:Stepped ft FL FR FS a w' W s r c5 c6 c7 c8 c9 c10 c11):Stepped ft FL FR FS w w' W s r c5 c6 c7 c8 c9 c10 c11:=by
 obtain⟨c,d,e,f,g,h3,hs,hk⟩:=h;exact⟨c,d,e,f,g,h3,hs.mono b.size,en.after hk b⟩
theorem Cu(h:W3 ft FL FR FS w W s r ei ep c5 c6 c7 c8 c9 c10 c11)(a1 a2 a3:Int)(S T:eu)(la:e5)(lm lc:Nat)(es:List eD)(hl:fF w la lm es)(f:lm<=2097152)(b:∀e∈es,e.1.size<=maxLen):
  eK 20 #[fj W,.agg #[ed 2,ed a1,ed a2,ed a3,.string S,.string T,.slice la lm lc]] w fun e w'=>e=.returned (.bool true)/\Stepped ft FL FR FS w w' W s r c5 c6 c7 c8 c9 c10 c11:=by
 have a:∀B,gS w (w.alloc B):=fun B=>(i7 _ _).alloc (io _) _;have c:=fun B=>QV (h.below (a B)) 2 a1 a2 a3 S T la lm lc es (hl.below (a B)) f b;have g:Hid _:=c;clear c h hl b;go_enter Tryz.func20,Tryz.ntmps20;go_wp2_with(go_at_call 38;refine g7 (g.out _) ?_;rintro _ j ⟨rfl,d⟩;have i:Hid _:=Ab (a _) d;clear d);go_ret;exact⟨rfl,i.out⟩
structure Step where
 kind:Int
 a1:Int
 a2:Int
 a3:Int
 S:eu
 T:eu
 la:e5
 lm:Nat
 lc:Nat
 es:List eD
def Step.val (o:Step):Value:=.agg #[.int .i64 o.kind,.int .i64 o.a1,.int .i64 o.a2,.int .i64 o.a3,.string o.S,.string o.T,.slice o.la o.lm o.lc]
structure Step.Fits (o:Step)(w:World):Prop where
 S:o.S.size<=maxLen
 list:fF w o.la o.lm o.es
 many:o.lm<=2097152
 names:∀e∈o.es,e.1.size<=maxLen
 sS:o.S.size<=1048576
 sT:o.T.size<=1048576
 TU:-9223372036854775808<=o.a1/\o.a1<=9223372036854775807
 TV:-9223372036854775808<=o.a2/\o.a2<9223372036854775808
theorem G7(h:W3 ft FL FR FS w W s r ei ep c5 c6 c7 c8 (.slice ea (4*q) ec) c10 c11)(c:Held FH w ea ec q hs)(hap:∀k,FH k->¬F3 FL FR FS k)(hq:4*q<=1000000000)(o:Step)(ho:o.Fits w)(hk:1<=o.kind/\o.kind<=5):
  eK 20 #[fj W,o.val] w fun e w'=>e=.returned (.bool true)/\∃b,b<=q+1/\oN ft FL FR FS FH w w' W s r b c5 c6 c7 c8 c10 c11:=by
 obtain⟨kind,a1,a2,a3,S,T,la,lm,lc,es⟩:=o;have of:∀{w'},Stepped ft FL FR FS w w' W s r c5 c6 c7 c8 (.slice ea (4*q) ec) c10 c11->∃b,b<=q+1/\oN ft FL FR FS FH w w' W s r b c5 c6 c7 c8 c10 c11:=fun hs=>⟨q,Hk _,ud h c hap hs⟩;have hc:kind=1\/kind=2\/kind=3\/kind=4\/kind=5:=by simp only at hk;omega
 rcases hc with rfl|rfl|rfl|rfl|rfl
 ·exact(z7 h a1 a2 a3 S T la lm lc ho.S).mono fun e w' ⟨a,hs⟩=>⟨a,of hs⟩
 ·exact(Cu h a1 a2 a3 S T la lm lc es ho.list ho.many ho.names).mono fun e w' ⟨a,hs⟩=>⟨a,of hs⟩
 ·exact(z8 h a1 a2 a3 S T la lm lc).mono fun e w' ⟨a,hs⟩=>⟨a,of hs⟩
 ·exact(Ct h c hap hq a1 a2 a3 S T la lm lc).mono fun e w' ⟨a,hs⟩=>⟨a,q+1,io _,hs⟩
 ·exact(Aa h a1 a2 a3 S T la lm lc).mono fun e w' ⟨a,hs⟩=>⟨a,of hs⟩
end
variable {ft:z1}
variable {ft:z1}
theorem G8(W:World)(es:List eD)(t:fL)(cs:Array Value)(a:cs=(flat es).toArray):fF (W.alloc (.cells cs t)) (some (eb W.heap.size 0)) es.length es:=by
 refine⟨rfl,fun _=>⟨W.heap.size,0,rfl,by simp,fun j b hu=>?_⟩⟩
 have:=gP W (flat es) t j b hu
 rw[lY]at this;rw[a];exact this
def yz:eD:=(⟨#[120]⟩,1,1)
def Ei:eD:=(⟨#[100]⟩,2,2)
def Ej:eD:=(⟨#[97]⟩,1,1)
theorem Ek(W:World)(es:List eD)(t:fL)(cs:Array Value)(a:cs=(flat es).toArray)(hl:es.length<=16)(hs:∀e∈es,e.1.size<=12)(n:Nat)(hn:n=es.length):(Step.mk 2 0 0 0 fy fy (some (eb W.heap.size 0)) n n es).Fits (W.alloc (.cells cs t)):=by
 subst hn;exact⟨show ByteArray.size fy<=maxLen by decide,G8 W es t cs a,pD hl (by decide),fun e b=>pD (hs e b) (by decide),show ByteArray.size fy<=1048576 by decide,show ByteArray.size fy<=1048576 by decide,⟨show(-9223372036854775808:Int)<=0 by decide,show(0:Int)<=9223372036854775807 by decide⟩,⟨show(-9223372036854775808:Int)<=0 by decide,show(0:Int)<9223372036854775808 by decide⟩⟩
variable {ft:z1}
structure ue (w:World)(a:e5)(n:Nat)(ops:List Step):Prop where
 len:ops.length=n
 many:n<=1048576
 cells:∀i (hi:i<ops.length),∃b off,a=some ⟨b,off,none⟩/\b<w.heap.size/\w.cell? ⟨b,off+i*7,none⟩=some (.int .i64 ops[i].kind)/\w.cell? ⟨b,off+i*7+1,none⟩=some (.int .i64 ops[i].a1)/\w.cell? ⟨b,off+i*7+2,none⟩=some (.int .i64 ops[i].a2)/\w.cell? ⟨b,off+i*7+3,none⟩=some (.int .i64 ops[i].a3)/\
  w.cell? ⟨b,off+i*7+4,none⟩=some (.string ops[i].S)/\w.cell? ⟨b,off+i*7+5,none⟩=some (.string ops[i].T)/\w.cell? ⟨b,off+i*7+6,none⟩=some (.slice ops[i].la ops[i].lm ops[i].lc)
 fits:∀o∈ops,o.Fits w
theorem Step.Fits.below{o:Step}{w w':World}(h:o.Fits w)(a:gS w w'):o.Fits w':=⟨h.S,h.list.below a,h.many,h.names,h.sS,h.sT,h.TU,h.TV⟩
end Go.Proofs.YtlgidcmmgohagaaGreat
namespace Go.Proofs.YtlgidcmmgohagaaGreat
open Go.RowKit Go.Sort Go.Shelf Go.ChangeShapes Go.WideShapes Go.Deep
set_option linter.unusedVariables false
theorem nE:Tryz.prog.cellsOf 96=3:=by kernel_rfl
theorem UX:Tryz.prog.cellsOf 57=7:=by kernel_rfl
theorem TW:Tryz.prog.cellsOf 9=1:=by kernel_rfl
theorem TX:Tryz.prog.cellsOf 3=1:=by kernel_rfl
theorem Vi:Tryz.prog.cellsOf 29=1:=by kernel_rfl
theorem Vj:Tryz.prog.cellsOf 55=1:=by kernel_rfl
theorem Oi{H:Type}(d:DataW H):1<=Rows.uptoBulk d:=by
 cases d with
 |lit l=>cases l<;>simp[Rows.uptoBulk]
 |_=>simp[Rows.uptoBulk]
theorem qi{H:Type}{d:DataW H}:∀{l:List (DataW H)},d∈l->Rows.uptoBulk d<=Rows.uptoBulkAll l
 |x::r,h=>by
  simp only[Rows.uptoBulkAll]
  rcases Hd.1 h with e|e
  ·rw[e];omega
  ·have:=qi e;omega
theorem A2{H:Type}:∀(l:List (DataW H)),l.length<=Rows.uptoBulkAll l
 |[]=>oY _
 |x::r=>by
  have:=A2 r
  have:=Oi x
  simp only[Rows.uptoBulkAll,gK];omega
theorem yA{H:Type}(es sp:List (DataW H)):es.length<=Rows.uptoBulk (.slice es sp)/\∀d∈es,Rows.uptoBulk d<=Rows.uptoBulk (.slice es sp):=by
 have h1:=A2 es;simp only[Rows.uptoBulk];exact⟨by omega,fun d hd=>by have:=qi hd;omega⟩
theorem yB{H:Type}(ps:List (DataW H)):∀d∈ps,Rows.uptoBulk d<=Rows.uptoBulk (.agg ps):=fun d hd=>by
 have:=qi hd
 simp only[Rows.uptoBulk]
 omega
theorem A3{w:World}{a:Addr}{i:Nat}{v:Value}(hs:a.spot=none)(h:w.cell? (a.add i)=some v):w.cell? (eb a.block (a.off+i))=some v:=by
 obtain⟨b,o,sp⟩:=a;simp only at hs;subst hs;rw[lY]at h;exact h
theorem add_block(a:Addr)(n:Nat):(a.add n).block=a.block:=by unfold Addr.add;split<;>rfl
section
variable {H:Type}{enc:fL×Value->H}{w:World}{base:Nat}{sp:Nat->Bool}{held:Bool}
set_option maxRecDepth 100000 in
theorem El{n:Nat}{cs:fE}{x:DataW H×List MemPlace}(h:DataW.trod enc Tryz.prog w base sp held n 96 cs=some x):∃e:eD,cs=kA e/\e.1.size<=maxLen:=by
 obtain⟨c,d,f,g,_,hl,h0,h1,h2⟩:=trod_struct3 Tryz.underlying96 h;rw[nE]at hl
 match cs,hl with
 |[j,l,m],_=>
  simp only[TW,TX,Vi,xI,Kb,M0,MZ]at h0 h1 h2;obtain⟨s,a,_,hs⟩:=DataW.trod_string Qe h0;obtain⟨k,b,_,_⟩:=Kj MS h1;obtain⟨i,e2,_,_⟩:=Kj TG h2;simp only[pS,tj]at a b e2;subst a;subst b;subst e2;exact⟨(s,k,i),rfl,hs⟩
theorem K3{a:Addr}{len:Nat}(f:Nat->eD)(hs:0<len->a.spot=none/\a.block<w.heap.size)(hc:∀i,i<len->∀j,j<3->w.cell? (eb a.block (a.off+(i*3+j)))=(kA (f i))[j]?):fF w (some a) len ((List.range len).map f):=by
 refine⟨by simp,fun hp=>⟨a.block,a.off,?_,(hs hp).2,fun j c hu=>?_⟩⟩
 ·have:=(hs hp).1
  obtain⟨b,o,s⟩:=a;simp only at this;subst this;rfl
 ·have hj:j<len*3:=by
   have:=(s6.1 hu).1
   rw[ib]at this;simpa using this
  have hi:j / 3<len:=by omega
  have e:j=j / 3*3+j % 3:=by omega
  rw[e]at hu ⊢;rw[xp _ (j / 3) (j % 3) (by simpa using hi) (by omega)]at hu;rw[hc (j / 3) hi (j % 3) (by omega),<-hu];simp
theorem K4{n:Nat}{v:Value}{x:DataW H×List MemPlace}(h:DataW.trod enc Tryz.prog w base sp held n 55 [v]=some x):
  ∃la lm lc es,v=.slice la lm lc/\fF w la lm es/\(∀e∈es,e.1.size<=maxLen)/\lm<=Rows.uptoBulk x.1:=by
 rcases open_slice TE h with⟨hc,hx⟩|⟨a,len,cap,m,s,D,t,hc,u,hl,hm,l,hx,b⟩
 ·simp only[pS,tj]at hc
  exact⟨none,0,0,[],hc,⟨rfl,fun h=>absurd h (Nat.lt_irrefl _)⟩,(fun e c=>by cases c),oY _⟩
 ·simp only[pS,tj]at hc
  have y:len<=m:=by rw[l];split<;>omega
  rw[nE]at b;have o:∀i,i<len->a.spot=none:=fun i hi=>by
   obtain⟨cs,h1,h2⟩:=b 0 (by omega);obtain⟨e,rfl,_⟩:=El h2;obtain⟨_,_,d⟩:=World.cells?_some h1
   have:=World.cell?_spot (v:=.string e.1) (by rw[d 0 (by omega)];rfl)
   simpa [Addr.add]using this
  have p:∀i,i<len->∃e:eD,e.1.size<=maxLen/\a.spot=none/\a.block<w.heap.size/\∀j,j<3->w.cell? (eb a.block (a.off+(i*3+j)))=(kA e)[j]?:=fun i hi=>by
   obtain⟨cs,h1,h2⟩:=b i (by omega);obtain⟨e,rfl,q⟩:=El h2;obtain⟨_,_,d⟩:=World.cells?_some h1;have r:a.block<w.heap.size:=by
    have:=World.cells?_block h1 (by omega)
    rw[add_block]at this;exact this
   have g:=o i hi;refine⟨e,q,g,r,fun j hj=>?_⟩;have k:j<(kA e).length:=by simpa [kA]using hj
   have:=d j hj
   rw[add_add,gJ k]at this;rw[gJ k];exact A3 g this
  obtain⟨f,hf⟩:=choose_lt p;refine⟨some a,len,cap,(List.range len).map f,hc,K3 f (fun hp=>⟨(hf 0 hp).2.1,(hf 0 hp).2.2.1⟩) (fun i hi=>(hf i hi).2.2.2),fun e c=>?_,?_⟩
  ·obtain⟨i,hi,rfl⟩:=H3.1 c
   exact(hf i (Dp.1 hi)).1
  ·rw[hx]
   have:=(yA ((List.range len).map D) ((List.range (m-len)).map fun j=>D (len+j))).1
   simpa using this
instance:Inhabited Step:=⟨⟨0,0,0,0,ByteArray.empty,ByteArray.empty,none,0,0,[]⟩⟩
def Step.cells (o:Step):fE:=[.int .i64 o.kind,.int .i64 o.a1,.int .i64 o.a2,.int .i64 o.a3,.string o.S,.string o.T,.slice o.la o.lm o.lc]
theorem Cv{P:Program}{t:fL}{f0 f1 f2 f3 f4 f5 f6:Field}{fuel:Nat}{cs:fE}{x:DataW H×List MemPlace}(ht:P.underlying t=some (.struct #[f0,f1,f2,f3,f4,f5,f6]))(h:DataW.trod enc P w base sp held fuel t cs=some x):
  ∃a b c d e f g n,x.1=.agg [a.1,b.1,c.1,d.1,e.1,f.1,g.1]/\cs.length=P.cellsOf t/\DataW.trod enc P w base sp held n f0.type ((cs.drop f0.offset).take (P.cellsOf f0.type))=some a/\DataW.trod enc P w base sp held n f1.type ((cs.drop f1.offset).take (P.cellsOf f1.type))=some b/\
   DataW.trod enc P w base sp held n f2.type ((cs.drop f2.offset).take (P.cellsOf f2.type))=some c/\DataW.trod enc P w base sp held n f3.type ((cs.drop f3.offset).take (P.cellsOf f3.type))=some d/\DataW.trod enc P w base sp held n f4.type ((cs.drop f4.offset).take (P.cellsOf f4.type))=some e/\
   DataW.trod enc P w base sp held n f5.type ((cs.drop f5.offset).take (P.cellsOf f5.type))=some f/\DataW.trod enc P w base sp held n f6.type ((cs.drop f6.offset).take (P.cellsOf f6.type))=some g:=by
 obtain⟨xs,n,_,rfl,hl,i,hf⟩:=DataW.trod_struct ht h
 match xs,i with
 |[a,b,c,d,e,f,g],_=>exact⟨a,b,c,d,e,f,g,n,by simp,hl,by simpa using hf 0 f0 rfl,by simpa using hf 1 f1 rfl,by simpa using hf 2 f2 rfl,by simpa using hf 3 f3 rfl,by simpa using hf 4 f4 rfl,by simpa using hf 5 f5 rfl,by simpa using hf 6 f6 rfl⟩
set_option maxRecDepth 100000 in
theorem Jw{n:Nat}{cs:fE}{x:DataW H×List MemPlace}(h:DataW.trod enc Tryz.prog w base sp held n 57 cs=some x)(hx:Rows.uptoBulk x.1<=1048576):∃o:Step,cs=o.cells/\o.Fits w:=by
 obtain⟨J,K,L,M,u,v,y,N,c,hl,f,g,i,g3,j,k,l⟩:=Cv Tryz.underlying57 h;rw[UX]at hl
 match cs,hl with
 |[O,P,Q,R,S,T,v6],_=>
  simp only[TW,TX,Vj,xI,Kb,M0,MZ]at f g i g3 j k l;obtain⟨z,m,_,_⟩:=Kj MS f;obtain⟨A,p,_,q⟩:=Kj MS g;obtain⟨B,e2,_,d⟩:=Kj MS i;obtain⟨C,r,_,_⟩:=Kj MS g3;obtain⟨a,s,D,E⟩:=DataW.trod_string Qe j;obtain⟨b,t,F,U⟩:=DataW.trod_string Qe k;obtain⟨la,lm,lc,es,G,I,hS,V⟩:=K4 l;simp only[pS,tj]at m p e2 r s t;subst m;subst p;subst e2;subst r;subst s;subst t;subst G;refine⟨⟨z,A,B,C,a,b,la,lm,lc,es⟩,rfl,⟨E,I,?_,hS,?_,?_,?_,?_⟩⟩
  ·have h6:Rows.uptoBulk y.1<=Rows.uptoBulk x.1:=by
    rw[c];exact yB _ _ (by simp)
   show lm<=2097152;omega
  ·have h6:Rows.uptoBulk u.1<=Rows.uptoBulk x.1:=by
    rw[c];exact yB _ _ (by simp)
   rw[D]at h6;have e:a.data.toList.length=a.size:=kG;simp only[Rows.uptoBulk,e]at h6;show a.size<=1048576;omega
  ·have h6:Rows.uptoBulk v.1<=Rows.uptoBulk x.1:=by
    rw[c];exact yB _ _ (by simp)
   rw[F]at h6;have e:b.data.toList.length=b.size:=kG;simp only[Rows.uptoBulk,e]at h6;show b.size<=1048576;omega
  ·simp[Lit.wf]at q
   exact q
  ·simp[Lit.wf]at d
   exact⟨d.1,Int.lt_of_le_of_lt d.2 (by decide)⟩
theorem Em{n:Nat}{v:Value}{x:DataW H×List MemPlace}(h:DataW.trod enc Tryz.prog w base sp held n 22 [v]=some x)(hx:Rows.uptoBulk x.1<=1048576):∃a len c ops,v=.slice a len c/\ue w a len ops:=by
 rcases open_slice Tryz.underlying22 h with⟨hc,_⟩|⟨a,len,cap,m,E,D,F,hc,G,hl,hm,r,t,g⟩
 ·simp only[pS,tj]at hc
  exact⟨none,0,0,[],hc,⟨rfl,oY _,(fun i hi=>by cases hi),(fun o ho=>by cases ho)⟩⟩
 ·simp only[pS,tj]at hc
  have I:len<=m:=by rw[r];split<;>omega
  rw[UX]at g;have k:=yA ((List.range len).map D) ((List.range (m-len)).map fun j=>D (len+j));rw[t]at hx;have u:len<=1048576:=by
   have:=k.1
   simp only[kU,List.length_range]at this;have h2:Rows.uptoBulk (DataW.slice ((List.range len).map D) ((List.range (m-len)).map fun j=>D (len+j)))<=1048576:=hx;omega
  have y:∀i,i<len->a.spot=none:=fun i hi=>by
   obtain⟨cs,h1,h2⟩:=g 0 (by omega);obtain⟨o,rfl,_⟩:=Jw h2 (pD (k.2 (D 0) (zP (Dp.2 (by omega)))) hx);obtain⟨_,_,l⟩:=World.cells?_some h1
   have:=World.cell?_spot (v:=.int .i64 o.kind) (by rw[l 0 (by omega)];rfl)
   simpa [Addr.add]using this
  have z:∀i,i<len->∃o:Step,o.Fits w/\a.spot=none/\a.block<w.heap.size/\∀j,j<7->w.cell? ⟨a.block,a.off+(i*7+j),none⟩=(o.cells)[j]?:=fun i hi=>by
   obtain⟨cs,h1,h2⟩:=g i (by omega);obtain⟨o,rfl,A⟩:=Jw h2 (pD (k.2 (D i) (zP (Dp.2 hi))) hx);obtain⟨_,_,l⟩:=World.cells?_some h1;have p:a.block<w.heap.size:=by
    have:=World.cells?_block h1 (by omega)
    rw[add_block]at this;exact this
   have e:=y i hi;refine⟨o,A,e,p,fun j hj=>?_⟩;have q:j<(o.cells).length:=by simpa [Step.cells]using hj
   have:=l j hj
   rw[add_add,gJ q]at this;rw[gJ q];exact A3 e this
  obtain⟨f,hf⟩:=choose_lt z;refine⟨some a,len,cap,(List.range len).map f,hc,⟨by simp,u,fun i hi=>?_,fun o ho=>?_⟩⟩
  ·have B:i<len:=by simpa using hi
   obtain⟨_,e,p,d⟩:=hf i B;have C:a=⟨a.block,a.off,none⟩:=by
    obtain⟨b,o,s⟩:=a;simp only at e;subst e;rfl
   have hg:((List.range len).map f)[i]=f i:=by simp
   rw[hg];exact⟨a.block,a.off,by rw[<-C],p,d 0 (by omega),d 1 (by omega),d 2 (by omega),d 3 (by omega),d 4 (by omega),d 5 (by omega),d 6 (by omega)⟩
  ·obtain⟨i,hi,rfl⟩:=H3.1 ho
   exact(hf i (Dp.1 hi)).1
end
end Go.Proofs.YtlgidcmmgohagaaGreat
