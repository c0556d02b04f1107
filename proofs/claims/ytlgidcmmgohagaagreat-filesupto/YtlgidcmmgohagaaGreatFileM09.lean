/- What is proved here: Un and UG of the law's 'store' once more. -/
import Derived.Test.YtlgidcmmgohagaaGreatFileM08
import Derived.Deep.RegionLaw
import Derived.Test.YtlgidcmmgohagaaGreatFileM05
namespace Go.Proofs.YtlgidcmmgohagaaGreat
open Go.RowKit Go.Sort Go.Shelf Go.Proofs.Tryz
set_option linter.unusedVariables false
set_option maxRecDepth 100000
set_option maxHeartbeats 16000000
variable {w w':World}{o':List Ob}{xs:eB}{e:Ending}{m:Nat}{a:e5}
variable {ft:z1}
def nO (e:List Ob->Prop)(ft:z1)(FL FR FS:Nat->Prop)(w w':World)(W s r:Nat)(c5 c6 c7 c8 c9 c10 c11:Value):Prop:=
 ∃a b c d f,W3 ft a b c w' W s r d f c5 c6 c7 c8 c9 c10 c11/\vn FL FR FS a b c w.heap.size/\en (F3 FL FR FS) w w'/\e d
section
variable {FL FR FS:Nat->Prop}{w:World}{W s r:Nat}{ei ep:List Ob}{c5 c6 c7 c8 c9 c10 c11:Value}
theorem yC{a:List Ob->Prop}{b w':World}(c:gS w b)(h:nO a ft FL FR FS b w' W s r c5 c6 c7 c8 c9 c10 c11):nO a ft FL FR FS w w' W s r c5 c6 c7 c8 c9 c10 c11:=by
 obtain⟨d,e,f,g,i,h3,hs,hk,hq⟩:=h;exact⟨d,e,f,g,i,h3,hs.mono c.size,en.after hk c,hq⟩
theorem yD(h:W3 ft FL FR FS w W s r ei ep c5 c6 c7 c8 c9 c10 c11)(a1 a2 a3:Int)(S T:eu)(la:e5)(lm lc:Nat)(hS:S.size<=maxLen):
  eK 20 #[fj W,.agg #[ed 1,ed a1,ed a2,ed a3,.string S,.string T,.slice la lm lc]] w fun e w'=>e=.returned (.bool true)/\nO (fun o'=>∃e,gL ei o' S e) ft FL FR FS w w' W s r c5 c6 c7 c8 c9 c10 c11:=by
 have d:Hid (W3 ft FL FR FS w W s r ei ep c5 c6 c7 c8 c9 c10 c11):=h;obtain⟨O,P,C,Q⟩:=h.law.cells;obtain⟨B,o⟩:∃B:Obj,B=.cells #[ed 1,ed a1,ed a2,ed a3,.string S,.string T,.slice la lm lc] 57:=⟨_,rfl⟩;obtain⟨b,g⟩:∃b,b=w.alloc B:=⟨_,rfl⟩;have i:gS w b:=by rw[g];exact(i7 _ _).alloc (io _) B
 have R:gS w b.drew:=PP i 1;have h1:=h.below R;have D:=rP h1.qX S hS;have E:Hid _:=D;have U:b.cell? (eb w.heap.size 4)=some (.string S):=by rw[g,o];simp
 have V:=(i.cell (p:=(eb W 0)) C).trans O;have X:=(i.cell (p:=(eb W 1)) C).trans P;have ak:b.heap.size=w.heap.size+1:=by rw[g];simp
 have Y:Hid (W3 ft FL FR FS b.drew W s r ei ep c5 c6 c7 c8 c9 c10 c11):=h1;clear h D h1;go_enter func20,ntmps20;go_wp2;rw[<-o,<-g];have al:Hid (B=.cells #[ed 1,ed a1,ed a2,ed a3,.string S,.string T,.slice la lm lc] 57):=o;have am:Hid (b=w.alloc B):=g;clear o g
 go_region_with(first|(go_at_call 35;refine g7 E.out ?_;rintro e f ⟨m,kZ,F,j⟩;obtain⟨id,ec,u⟩:=kZ.shape;have v:Hid (gL ei m S e):=kZ;have Z:Hid (e=.returned (.tuple #[ed id,ed ec])):=u;rw[u];clear kZ u))
 all_goals
  have q:en FS b f:=⟨j.os,j.tape,j.output,j.size,j.block⟩;have hkb:∀x,x<b.heap.size->¬FS x->f.heap[x]?=b.heap[x]?:=fun x hx hn=>q.block x hx hn;have G:¬FS W:=fun hf=>(Y.out.sep.sl W hf).2 Q;have aa:¬FS w.heap.size:=fun hf=>by have:=(d.out.sep.sl _ hf).1;omega
  have an:=(ig (a:=(eb W 0)) (hkb W (by omega) G)).trans V;have ao:=(ig (a:=(eb W 1)) (hkb W (by omega) G)).trans X;have ap:=(ig (a:=(eb w.heap.size 4)) (hkb w.heap.size (by omega) aa)).trans U;have aq:b.heap.size<=f.heap.size:=q.size;have H:eU FR f.drew r ep:=d.out.ref.keep (fun _ h=>h) (fun k hk=>(hkb k (by have:=(d.out.sep.rl k hk).1;omega) (d.out.sep.rs k hk)).trans (i.block k (d.out.sep.rl k hk).1));have ab:Hid (fI FL f W s r ei.length c5 c6 c7 c8 c9 c10 c11):=d.out.law.keep (fun _ h=>h) (fun k hk=>(hkb k (by have:=d.out.sep.ll k hk;omega) (fun hf=>(d.out.sep.sl k hf).2 hk)).trans (i.block k (d.out.sep.ll k hk)));have ac:Hid (fK ft (ie FS b f) f s m):=F;have ad:Hid (en FS b f):=q;have I:=tH H S hS;have ae:Hid _:=I;clear E F j q I H
  go_frame
  go_wp2
  go_region_with(first|(go_at_call 36;refine g7 ae.out ?_;rintro ar w3 ⟨x,y,z,rfl,J,K,L⟩))
  all_goals
   have M:=AY d.out (show gS w b from i) ad.out ac.out ab.out L K v.out J Z.out;have c:Hid _:=M;clear M J K L
   go_frame
   have N:=fun(e:Int) (af:World)=>u3 e af;obtain⟨ag,_,A⟩:=c.out.1;subst ag;by_cases t:ec=0
   ·have ah:=oM c.out.2.1 c.out.2.2.2.1 c.out.2.2.1 c.out.2.2.2.2.1 c.out.2.2.2.2.2.1 c.out.1 t d.out.twin.1
    subst t;clear A;have au:((0:Int) != 0)=false:=by simp
    go_wp2_with(first
     |(go_at_call 22;refine g7 (N _ _) ?_;rintro _ _ ⟨rfl,rfl⟩)
     |(go_at_call 37;refine g7 ah ?_;rintro _ av ⟨rfl,ai,n⟩))
    go_ret;refine⟨rfl,_,_,_,m,z,ai,?_,?_,⟨_,v.out⟩⟩
    ·have aj:=c.out.2.2.2.2.2.2.size
     refine fun k=>⟨?_,?_,?_⟩<;>rintro(h|h)
     ·exact .inl h
     ·exact .inr (pD aj h.1)
     ·exact .inl h
     ·have:=h.1;exact .inr (by omega)
     ·exact .inl h
     ·have:=h.1;exact .inr (by omega)
    ·have l:=c.out.2.2.2.2.2.2
     exact⟨n.os.trans l.os,n.tape.trans l.tape,n.output.trans l.output,pD l.size n.size,fun k hk hn=>(n.block k (kv hk l.size) (fun h=>hn (.inl h))).trans (l.block k hk hn)⟩
   ·have hid:id=0/\m=ei/\z=ep:=by
     rcases A with h|h
     ·exact h.2
     ·exact absurd h.1 t
    have aw:(ec != 0)=true:=by simpa using t
    have ax:(ec==ec)=true:=(by simp);obtain⟨rfl,rfl,rfl⟩:=hid;clear A;go_wp2_with(go_at_call 22;refine g7 (N _ _) ?_;rintro _ _ ⟨rfl,rfl⟩);go_ret;refine⟨rfl,_,_,_,m,z,⟨c.out.2.1,c.out.2.2.2.1,c.out.2.2.1,d.out.twin,d.out.at_,c.out.2.2.2.2.1⟩,?_,c.out.2.2.2.2.2.2,⟨_,v.out⟩⟩
    ·refine fun k=>⟨.inl,?_,?_⟩<;>rintro(h|h)
     ·exact .inl h
     ·have:=h.1;exact .inr (by omega)
     ·exact .inl h
     ·have:=h.1;exact .inr (by omega)
theorem Oj(h:W3 ft FL FR FS w W s r ei ep c5 c6 c7 c8 c9 c10 c11)(aA a1 a2 a3:Int)(S T:eu)(la:e5)(lm lc:Nat)(es:List eD)(hl:fF w la lm es)(bh:lm<=2097152)(aB:∀e∈es,e.1.size<=maxLen):
  eK 38 #[fj W,.agg #[ed aA,ed a1,ed a2,ed a3,.string S,.string T,.slice la lm lc]] w fun e w'=>e=.returned (.bool true)/\nO (fun o'=>∃e,gf ei o' es e) ft FL FR FS w w' W s r c5 c6 c7 c8 c9 c10 c11:=by
 obtain⟨bi,hi,bj,bk,bl⟩:=H4 Ec;obtain⟨bm,bn,bo,bp,bq⟩:=H4 tv;have f:Hid (W3 ft FL FR FS w W s r ei ep c5 c6 c7 c8 c9 c10 c11):=h;obtain⟨b2,b3,b4,br⟩:=h.law.cells;obtain⟨B,I⟩:∃B:Obj,B=.cells #[ed aA,ed a1,ed a2,ed a3,.string S,.string T,.slice la lm lc] 57:=⟨_,rfl⟩;obtain⟨c,O⟩:∃c,c=w.alloc B:=⟨_,rfl⟩;have af:gS w c:=by rw[O];exact(i7 _ _).alloc (io _) B
 have aC:c.cell? (eb w.heap.size 6)=some (.slice la lm lc):=by rw[O,I];simp
 have aD:w.heap.size<c.heap.size:=by rw[O];simp
 have P:Hid (W3 ft FL FR FS c W s r ei ep c5 c6 c7 c8 c9 c10 c11):=h.below af;have Z:Hid (fF w la lm es):=hl;have aE:Hid (∀e∈es,e.1.size<=maxLen):=aB;obtain⟨n,hn⟩:∃n,n=ei.length:=⟨_,rfl⟩;have ag:Hid (n=ei.length):=hn;clear h hl aB hn;go_enter func38,ntmps38;go_wp2;rw[<-I,<-O];clear I O
 go_loopw [5,6,7] (fun l m i wr=>∃(k:Nat) (C:e5) (D:Nat) (E:e5) (F:Nat),k<=lm/\i=.int .i64 (k:Int)/\l=.slice C k D/\m=.slice E k F/\gS c wr/\Hid (wr.ownsRow c.heap.size 96 3 (.slice C k D) k (flat (es.take k)))/\Hid (wr.ownsRow c.heap.size 112 3 (.slice E k F) k (flat ((es.take k).map (AC n))))/\Hid (k=0->C=none/\D=0)) (fun _ _ i _=>lm-(intOf i).toNat)
 case atStart=>exact⟨0,none,0,none,0,oY _,rfl,rfl,rfl,i7 _ _,UV _ _ _ _,UV _ _ _ _,fun _=>⟨rfl,rfl⟩⟩
 case round=>
  obtain⟨k,C,D,E,F,hk,rfl,rfl,rfl,u,A,G,aF⟩:=hrel;have b5:=u.size;have aG:=(u.cell (p:=(eb w.heap.size 6)) (by show w.heap.size<_;omega)).trans aC;by_cases bs:k<lm
  ·obtain⟨b,off,aH,ah,hc⟩:=Z.out.2 (by omega)
   have ai:k<es.length:=by rw[Z.out.1];exact bs
   obtain⟨c0,c1,c2⟩:=i2 hc ai;obtain⟨x,hx⟩:∃x,x=es[k]:=⟨_,rfl⟩;rw[<-hx]at c0 c1 c2;have aj:gS w wr:=af.trans (u.mono (by omega));have bt:=(aj.cell (p:=(eb b (off+k*3))) ah).trans c0;have bu:=(aj.cell (p:=(eb b (off+k*3+1))) ah).trans c1;have bv:=(aj.cell (p:=(eb b (off+k*3+2))) ah).trans c2;have b6:b<wr.heap.size:=by omega
   rw[aH]at aG;have aI:Hid (x=es[k]):=hx;have aJ:Hid (∀X,eK 39 #[fj W,ed x.2.2] (wr.alloc X) fun e w'=>e=.returned (ed x.2.2)/\w'=wr.alloc X):=fun X=>vZ (P.out.below (u.alloc u.size X)) x.2.2
   have b7:(k:Int)<(lm:Int):=by omega
   clear hc c0 c1 c2 hx aH;go_wp2_with(first|(go_at_call 39;refine g7 (aJ.out _) ?_;rintro _ _ ⟨rfl,rfl⟩)|(at_builtin;refine r6 _ rfl (.tmp 33) (.tmp 40) 55 rfl c.heap.size 96 bi _ 3 32 underlying55 hi bj bk bl rfl (by decide) _ _ _ rfl ((A.out.alloc _).alloc _) (eb (wr.heap.size+1) 0) 1 1 (kA x) rfl rfl (m0 (wr.alloc _) x _ _ (by simp)) (lL x) (by unfold maxLen;omega) (by omega) (by simp;omega) ?_));intro bw t ak Q _;have I:c.heap.size<=((wr.alloc (Obj.cells #[Value.string x.fst,Value.int IntKind.i64 x.snd.fst,Value.int IntKind.i64 x.snd.snd] 96)).alloc (Obj.cells #[Value.string x.fst,Value.int IntKind.i64 x.snd.fst,Value.int IntKind.i64 x.snd.snd] 96)).heap.size:=by simp;omega
   have R:gS c t:=pw ((u.alloc u.size _).alloc (by simp;omega) _) I ((A.out.alloc _).alloc _) Q;have aK:some wr.heap.size≠(Value.slice C k D).ownBlock:=fun e=>by have:=ee A.out e.symm;omega
   have al:=Q.block wr.heap.size (by simp;omega) aK;have aL:t.cell? (eb wr.heap.size 0)=some (.string x.1):=(ig (a:=(eb wr.heap.size 0)) al).trans (by simp);have bx:t.cell? (eb wr.heap.size 1)=some (ed x.2.1):=(ig (a:=(eb wr.heap.size 1)) al).trans (by simp);have am:Hid (t.ownsRow c.heap.size 96 3 bw (k+1) (flat (es.take (k+1)))):=by show World.ownsRow _ _ _ _ _ _ _;rw[<-u6 ai,<-aI.out];exact ak
   have an:Hid (t.ownsRow c.heap.size 112 3 (.slice E k F) k (flat ((es.take k).map (AC n)))):=eh G.out (fun g hg=>by
    have hl:=ee G.out hg;rw[Q.block g (by simp;omega) (ma G.out A.out (by decide) hg),jU _ _ _ (by simp;omega),jU _ _ _ hl])
   have b8:wr.heap.size<t.heap.size:=by have:=Q.size;simp at this;omega
   have bz:Hid (∀q,eK 41 #[fj W,ed x.2.2] (t.drewN q) fun e w'=>e=.returned (ed (AC n x).2.2)/\w'=t.drewN q):=fun q=>by rw[ag.out];exact A1 (P.out.below (PP R q)) x
   obtain⟨aM,aN,rfl⟩:=lf ak;clear ak Q I al aK aJ bt bu bv;go_wp2
   go_region_law(first
    |(refine pm rfl (.tmp 42) (.tmp 51) 106 rfl c.heap.size 112 bm _ 3 32 underlying106 bn bo bp bq rfl (by decide) (.slice E k F) k (flat ((es.take k).map (AC n))) (by simp[Act.eval]) (mL (show t.drew.ownsRow _ _ _ _ _ _ from an.out) _) (eb t.heap.size 0) 1 1 (kA (AC n x)) (by simp[Act.eval]) rfl (m0 t.drew (AC n x) _ _ rfl) (lL _) (by unfold maxLen;omega) (by omega) (by have:=R.size;simp;omega) ?_;intro bA w3 ao ap _)
    |(go_simp;go_at_call 41;refine g7 (bz.out 1) ?_;rintro _ _ ⟨rfl,rfl⟩))
   all_goals
    have bB:gS c w3:=pw ((PP R 1).alloc R.size _) (by have:=R.size;simp;omega) (mL (show(t.drewN 1).ownsRow _ _ _ _ _ _ from an.out) _) ap;have bC:Hid (w3.ownsRow c.heap.size 112 3 bA (k+1) (flat ((es.take (k+1)).map (AC n)))):=by
     show World.ownsRow _ _ _ _ _ _ _;rw[sZ ai,k7,WF,r7,ld,mn,<-aI.out];exact ao
    have bD:Hid (w3.ownsRow c.heap.size 96 3 (.slice aM (k+1) aN) (k+1) (flat (es.take (k+1)))):=eh am.out (fun g hg=>by
     have hl:=ee am.out hg;rw[ap.block g (by simp;omega) (ma am.out an.out (by decide) hg),jU _ _ _ (show g<(t.drewN 1).heap.size from hl)];rfl)
    obtain⟨bE,bF,rfl⟩:=lf ao;clear ao ap;go_wp2;go_roundw
    case rel=>exact⟨k+1,aM,aN,bE,bF,by omega,by go_num,rfl,rfl,bB,bD.out,bC.out,fun e=>by omega⟩
    case measure=>simp[intOf];omega
  ·have bG:k=lm:=by omega
   subst bG;have bH:decide ((k:Int)<(k:Int))=false:=m6 (by omega);have ht:es.take k=es:=jH (by rw[Z.out.1];exact io _);rw[ht]at A G;have aO:=yo C k D es wr (rb A.out) (by omega) aF.out;have bI:Hid _:=aO;clear aO ht;go_wp2_with(go_at_call 81;refine g7 bI.out ?_;rintro _ w5 ⟨o,rfl,jY,aq⟩;have aa:Hid _:=jY;clear jY;have U:gS c w5:=u.trans (aq.mono u.size);have bJ:=(fI.cells (P.out.below U).law).1;have bK:=(fI.cells (P.out.below U).law).2.2.1);have ar:gS w w5:=af.trans (U.mono (by omega));have bL:Hid (W3 ft FL FR FS w5 W s r ei ep c5 c6 c7 c8 c9 c10 c11):=P.out.below U;have aP:Hid (w5.ownsRow c.heap.size 96 3 (.slice C k D) k (flat es)):=eh A.out (fun g hg=>aq.block g (ee A.out hg));have aQ:Hid (w5.ownsRow c.heap.size 112 3 (.slice E k F) k (flat (es.map (AC n)))):=eh G.out (fun g hg=>aq.block g (ee G.out hg));have bM:c.heap.size<=o/\o<w5.heap.size:=by have:=World.ownsRow.lt aa.out o rfl;exact⟨pD u.size this.1,this.2⟩
   have aR:=tX (f.out.below (PP ar 1)).qX o 0 k (k+3) es Z.out.1 bM.2 (by omega) (fun j bN hu=>hh aa.out j bN (A0 hu)) aE.out;have aS:Hid _:=aR;have b9:c.heap.size<=w5.heap.size:=U.size;have ca:c.heap.size<=wr.heap.size:=u.size;clear aR A G aG aC
   go_region_with(first|(go_at_call 26;refine g7 aS.out ?_;rintro e w6 ⟨J,kZ,aT,K⟩;obtain⟨id,L,au⟩:=kZ.shape;have av:Hid (gf ei J es e):=kZ;have bO:Hid (e=.returned (.tuple #[ed id,ed L])):=au;rw[au];clear kZ au))
   all_goals
    have M:en FS w5 w6:=⟨K.os,K.tape,K.output,K.size,K.block⟩;have bQ:Hid (fK ft (ie FS w5 w6) w6 s J):=aT;have aU:Hid (en FS w5 w6):=M;have cb:w5.heap.size<=w6.heap.size:=M.size;have bR:w6.cell? (eb W 1)=some (fj r):=(ig (a:=(eb W 1)) (M.block W bK (fun hf=>(f.out.sep.sl W hf).2 br))).trans (fI.cells bL.out.law).2.1;have cc:W<w6.heap.size:=by omega
    have aV:eU FR w6 r ep:=f.out.ref.keep (fun _ h=>h) (fun q hq=>(M.block q (by have:=(f.out.sep.rl q hq).1;omega) (f.out.sep.rs q hq)).trans (ar.block q (f.out.sep.rl q hq).1));have aW:=nN (fun q hq=>(f.out.sep.sl q hq).1) M aQ.out (uQ aD);have aw:=Jv (n:=n) aE.out;have aX:=vT aV E k F (es.map (AC n)) (rb aW) (by omega) aw.1 (by rw[<-f.out.twin.1,<-ag.out];exact aw.2);have aY:Hid _:=aX;clear aX aw aW aV M K aT aS
    go_frame
    go_wp2_with(first
     |(go_at_call 82;refine g7 aY.out ?_;rintro _ bS ⟨x,y,V,rfl,aZ,a0,ab⟩;have a4:Hid _:=rT f.out ar aU.out bQ.out ab a0 av.out (by rw[<-ag.out];exact aZ) bO.out;have ac:Hid _:=Sm f.out aU.out ab aP.out aa.out (uQ aD) (by omega) bh aF.out;have cd:=ab.size;clear aZ a0 ab)
     |(go_at_call 83;refine g7 ac.out.1 ?_;rintro _ a5 ⟨rfl,a6⟩))
    have bT:Hid (a5.ownsRow 0 96 3 (.slice (some (eb o 0)) (k+3) (k+3)) (k+3) (flat (es++List.replicate 3 sA))):=eh (lw ac.out.2 (oY _)) (fun g hg=>a6.block g (ee ac.out.2 hg));clear aY aP aQ aa ac bJ bR
    go_loopw [16] (fun i wq=>∃d:Nat,d<=k+3/\i=.int .i64 (d:Int)/\Hid (en (fun q=>q=o) a5 wq)/\Hid (∃xs,wq.ownsRow 0 96 3 (.slice (some (eb o 0)) (k+3) (k+3)) (k+3) xs)) (fun i _=>k+3-(intOf i).toNat)
    case atStart=>exact⟨0,oY _,rfl,en.refl _,⟨_,bT.out⟩⟩
    case round=>
     obtain⟨d,hd,rfl,ax,ay⟩:=hrel;obtain⟨xs,H⟩:=ay.out;by_cases ce:d<k+3
     ·have cf:=fun j=>H.frozenAt j
      have ad:∀j,j<3->∃v,wr.cell? (eb o (d*3+j))=some v:=fun j hj=>by
       rw[H.cellAt (d*3+j) (by omega)];exact⟨_,gJ (by rw[H.1];omega)⟩
      obtain⟨cg,aL⟩:=ad 0 (by omega);obtain⟨ch,bx⟩:=ad 1 (by omega);obtain⟨ci,e2⟩:=ad 2 (by omega);rw[zT]at aL;have cj:(d:Int)<(k:Int)+3:=by omega
      have ck:o<wr.heap.size:=ee H rfl;have bU:Hid (wr.ownsRow 0 96 3 (.slice (some (eb o 0)) (k+3) (k+3)) (k+3) xs):=H;clear ad ay H;go_wp2;refine⟨⟨d+1,by omega,by go_num,gC (gC (gC ax.out (gO rfl)) (gO rfl)) (gO rfl),⟨_,(Kf (Kf (Kf bU.out _ _).1 _ _).1 _ _).1⟩⟩,by simp[intOf];omega⟩
     ·have bH:decide ((d:Int)<(k:Int)+3)=false:=m6 (by omega)
      obtain⟨a7,a8,a9,bb,bc,bd,be⟩:=a4.out;have bf:en (fun q=>q=o) bS wr:=gC (en.ew a6) ax.out;have hF:=yy a8 a9 bb bc be bf (fun hf=>by have:=f.out.sep.ll o hf;omega) (fun hf=>by
       rcases hf with hf|hf
       ·have:=(f.out.sep.rl o hf).1;omega
       ·have:=hf.1;omega) (fun hf=>by
       rcases hf with hf|hf
       ·have:=(f.out.sep.sl o hf).1;omega
       ·have:=hf.1;omega) (by omega)
      have z:Hid _:=hF;have bV:Hid (gi V):=bd;have bW:Hid (sG ei J ep V id L x y):=a7;have bg:=fun(e:Int) (bX:World)=>u3 e bX;obtain⟨bY,_,az⟩:=a7;subst bY;clear H ay hF a8 a9 bb bc bd be bf ax a4;by_cases ae:L=0
      ·have bZ:=oM z.out.1 z.out.2.2.1 z.out.2.1 z.out.2.2.2.1 bV.out bW.out ae f.out.twin.1
       subst ae;clear az;have cl:((0:Int) != 0)=false:=by simp
       go_wp2_with(first
        |(go_at_call 22;refine g7 (bg _ _) ?_;rintro _ _ ⟨rfl,rfl⟩)
        |(go_at_call 37;refine g7 bZ ?_;rintro _ cm ⟨rfl,b0,Y⟩))
       go_ret;refine⟨rfl,_,_,_,J,V,b0,?_,?_,⟨_,av.out⟩⟩
       ·have b1:=z.out.2.2.2.2.size
        refine fun q=>⟨?_,?_,?_⟩<;>rintro(h|h)
        ·exact .inl h
        ·exact .inr (pD b1 h.1)
        ·exact .inl h
        ·have:=h.1;exact .inr (by omega)
        ·exact .inl h
        ·have:=h.1;exact .inr (by omega)
       ·have N:=z.out.2.2.2.2
        exact⟨Y.os.trans N.os,Y.tape.trans N.tape,Y.output.trans N.output,pD N.size Y.size,fun q hq hn=>(Y.block q (kv hq N.size) (fun h=>hn (.inl h))).trans (N.block q hq hn)⟩
      ·have hid:id=0/\J=ei/\V=ep:=by
        rcases az with h|h
        ·exact h.2
        ·exact absurd h.1 ae
       have cn:(L != 0)=true:=by simpa using ae
       have cp:(L != L)=false:=(by simp);obtain⟨rfl,rfl,rfl⟩:=hid;clear az;go_wp2_with(go_at_call 22;refine g7 (bg _ _) ?_;rintro _ _ ⟨rfl,rfl⟩);go_ret;refine⟨rfl,_,_,_,J,V,⟨z.out.1,z.out.2.2.1,z.out.2.1,f.out.twin,f.out.at_,z.out.2.2.2.1⟩,?_,z.out.2.2.2.2,⟨_,av.out⟩⟩
       ·refine fun q=>⟨.inl,?_,?_⟩<;>rintro(h|h)
        ·exact .inl h
        ·have:=h.1;exact .inr (by omega)
        ·exact .inl h
        ·have:=h.1;exact .inr (by omega)
theorem rU(h:W3 ft FL FR FS w W s r ei ep c5 c6 c7 c8 c9 c10 c11)(a1 a2 a3:Int)(S T:eu)(la:e5)(lm lc:Nat)(es:List eD)(hl:fF w la lm es)(f:lm<=2097152)(b:∀e∈es,e.1.size<=maxLen):
  eK 20 #[fj W,.agg #[ed 2,ed a1,ed a2,ed a3,.string S,.string T,.slice la lm lc]] w fun e w'=>e=.returned (.bool true)/\nO (fun o'=>∃e,gf ei o' es e) ft FL FR FS w w' W s r c5 c6 c7 c8 c9 c10 c11:=by
 have a:∀B,gS w (w.alloc B):=fun B=>(i7 _ _).alloc (io _) _;have c:=fun B=>Oj (h.below (a B)) 2 a1 a2 a3 S T la lm lc es (hl.below (a B)) f b;have g:Hid _:=c;clear c h hl b;go_enter func20,ntmps20;go_wp2_with(go_at_call 38;refine g7 (g.out _) ?_;rintro _ j ⟨rfl,d⟩;have i:Hid _:=yC (a _) d;clear d);go_ret;exact⟨rfl,i.out⟩
end
def vo:eu:=⟨#[97,98,99]⟩
theorem QW:ez yz.1=true:=by unfold ez yz;simp only[uL];decide
theorem QX:ez Ei.1=true:=by unfold ez Ei;simp only[uL];decide
theorem QY:ez Ej.1=true:=by unfold ez Ej;simp only[uL];decide
theorem UH(h:gL [] o' vo e):o'=[sq vo]:=by
 rcases h with⟨h,_⟩|⟨_,_,i,h,_⟩|⟨_,_,h,_⟩|⟨_,_,_,h,_⟩
 ·exact absurd h (by decide)
 ·cases h
 ·exact absurd h (by decide)
 ·exact h
theorem UI(h:gf [sq vo] o' [yz] e):∃d:Ob,d.kind=2/\d.eG=[yz]/\d.high=1/\o'=[sq vo,d]:=by
 have hv:ez yz.1=true:=QW;have a:tA [sq vo] yz=true:=by decide
 rcases h with⟨⟨x,hx,h⟩,_⟩|⟨_,⟨h,_⟩|⟨_,h,_⟩|⟨_,_,⟨x,hx,h⟩,_⟩|⟨_,_,_,es',b,_,_,h⟩⟩
 ·rw[kH.1 hx,hv]at h;cases h
 ·exact absurd (by simp) h
 ·exact absurd h (by decide)
 ·rw[kH.1 hx,a]at h;cases h
 ·obtain rfl:es'=[yz]:=List.perm_singleton.1 b
  have c:fe [sq vo] [yz]=1:=by decide
  rw[c]at h;rcases h with⟨h,_⟩|⟨_,_,i,h,_⟩|⟨_,_,h,_⟩|⟨_,_,_,⟨o,f,g,j,k4⟩,_⟩
  ·exact absurd h (by decide)
  ·unfold kJ at h
   simp[sq]at h
  ·exact absurd h (by simp)
  ·exact⟨o,f,g,j,by rw[k4];rfl⟩
theorem UJ{d:Ob}(hk:d.kind=2)(b:d.eG=[yz])(c:d.high=1)(h:gf [sq vo,d] o' [Ei,Ej] e):3<=o'.length/\eC o' 3=2:=by
 have hv:∀x∈[Ei,Ej],ez x.1=true:=by
  intro x hx;simp only[Hd,Gk,or_false]at hx;rcases hx with rfl|rfl
  ·exact QX
  ·exact QY
 have f:eC [sq vo,d] 2=2:=by
  show d.kind=2;exact hk
 have g:eC [sq vo,d] 1=1:=rfl;have j:∀x∈[Ei,Ej],tA [sq vo,d] x=true:=by
  intro x hx;simp only[Hd,Gk,or_false]at hx;rcases hx with rfl|rfl
  ·unfold tA Ei
   simp only[f];decide
  ·unfold tA Ej
   simp only[g];decide
 rcases h with⟨⟨x,hx,h⟩,_⟩|⟨_,⟨h,_⟩|⟨_,h,_⟩|⟨_,_,⟨x,hx,h⟩,_⟩|⟨_,_,_,es',a,_,_,h⟩⟩
 ·rw[hv x hx]at h;cases h
 ·exact absurd (by decide) h
 ·exact absurd h (by decide)
 ·rw[j x hx]at h;cases h
 ·have l:fe [sq vo,d] es'<=5:=by
   refine yg.2 ⟨by decide,fun x hx=>?_⟩;have kN:=a.mem_iff.1 hx;simp only[Hd,Gk,or_false]at kN;rcases kN with rfl|rfl
   ·show 1+d.high<=5
    rw[c];decide
   ·show 1+(sq vo).high<=5
    decide
  rcases h with⟨h,_⟩|⟨_,_,i,h,_⟩|⟨_,_,h,_⟩|⟨_,_,_,⟨o,k,m,n,k4⟩,_⟩
  ·omega
  ·exfalso
   unfold kJ at h;obtain⟨hi,h1,_⟩:=wX.1 h
   have:i=0\/i=1:=by simp at hi;omega
   rcases this with rfl|rfl
   ·simp[sq]at h1
   ·simp only[TH,Gc,uM,rL]at h1
    have:=a.length_eq
    rw[<-h1.2,b]at this;cases this
  ·exact absurd h (by simp)
  ·rw[k4]
   exact⟨by simp,k⟩
def fG (xs:eB):fE:=xs.map Value.string
theorem nP:(prog.info? 9).map (fun i=>(i.zero,i.size,i.bytes))=some (some (.string ByteArray.empty),1,16):=by kernel_rfl
def cutAt (s:eu)(i:Nat):Bool:=if h:i<s.size then decide (s[i]=47)else true
def I0 (s:eu):Nat->eB×Nat
 |0=>([],0)
 |i+1=>if cutAt s i=true then((I0 s i).1++[s.extract (I0 s i).2 i],i+1) else((I0 s i).1,(I0 s i).2)
def fX (s:eu):eB×Bool:=
 if s.size=0 then([],true)else if ∀x∈(I0 s (s.size+1)).1,ez x=true then((I0 s (s.size+1)).1,decide ((I0 s (s.size+1)).1.length<=5)) else([],false)
theorem A4(s:eu):∀i,(I0 s i).2<=i
 |0=>io _
 |i+1=>by
  have:=A4 s i
  simp only[I0]
  split
  ·exact io _
  ·exact BV this
theorem En(s:eu):∀i,(I0 s i).1.length<=i
 |0=>io _
 |i+1=>by
  have:=En s i
  simp only[I0]
  split
  ·simpa using this
  ·exact BV this
theorem vp(s:eu)(hs:s.size<=2097152):∀i,∀x∈(I0 s i).1,x.size<=maxLen
 |0,x,h=>by cases h
 |i+1,x,h=>by
  simp only[I0]at h
  split at h
  ·rcases pR.1 h with h|h
   ·exact vp s hs i x h
   ·rw[kH.1 h]
    simp only[Qu]
    unfold maxLen
    omega
  ·exact vp s hs i x h
theorem uf{x:eu}:∀a∈[Value.string x],a.oneCell'=true:=by intro a hu;simp at hu;subst hu;rfl
theorem QR(s:ByteArray)(w:World)(hs:s.size<=2097152):
  eK 152 #[.string s] w fun e w'=>∃v,e=.returned (.tuple #[v,.bool (fX s).2])/\w'.ownsRow w.heap.size 9 1 v (fX s).1.length (fG (fX s).1)/\gS w w':=by
 obtain⟨P,hi,Q,R,S⟩:=H4 nP;by_cases h0:s.size=0
 ·have T:s=fy:=by
   obtain⟨d⟩:=s;simp only[ByteArray.size]at h0;rw[Array.size_eq_zero_iff.1 h0]
  have t:Hid (fX s=([],true)):=by show _=_;unfold fX;rw[fY h0]
  rw[t.out];subst T;clear h0 t hs;go_enter func152,ntmps152;go_wp2;go_ret2;exact⟨_,rfl,UV _ _ _ _,i7 _ _⟩
 ·have T:(s.toList==[])=false:=BP.2 fun h=>h0 (by
   have:=rp List.length h
   simp only[uL,kG,td]at this;exact this)
  go_enter func152,ntmps152;go_wp2
  go_loopw [4,5,6] (fun l f i wr=>∃(k fr n:Nat) (u:(Option Addr)) (y:Nat),k<=s.size+1/\i=.int .i64 (k:Int)/\f=.int .i64 (fr:Int)/\l=.slice u n y/\fr<=k/\n<=k/\gS w wr/\Hid (fr=(I0 s k).2)/\Hid (n=(I0 s k).1.length)/\Hid (wr.ownsRow w.heap.size 9 1 (.slice u n y) n (fG (I0 s k).1))) (fun _ _ i _=>s.size+1-(intOf i).toNat)
  case atStart=>exact⟨0,0,0,none,0,oY _,rfl,rfl,rfl,io _,io _,i7 _ _,rfl,rfl,UV _ _ _ _⟩
  case round=>
   obtain⟨k,fr,n,u,y,hk,rfl,rfl,rfl,Z,ai,a,G,m,o⟩:=hrel;by_cases hle:k<=s.size
   ·by_cases hcut:cutAt s k=true
    ·have b:Hid (I0 s (k+1)=((I0 s k).1++[s.extract fr k],k+1)):=by show _=_;rw[G.out];simp only[I0];rw[fY hcut]
     by_cases z:k<s.size
     ·have NF:s[k]=47:=by unfold cutAt at hcut;rw[dif_pos z]at hcut;exact s8 hcut
      have A:((k:Int)==(s.size:Int))=false:=by simp;omega
      have aa:((s[k].toNat:Int)==47)=true:=by rw[NF];rfl
      clear hcut NF;go_wp2_with(at_builtin;refine r6 _ rfl (.tmp 27) (.tmp 32) 131 rfl w.heap.size 9 P _ 1 16 underlying131 hi Q R S rfl (by decide) _ _ _ rfl (o.out.alloc _) (eb wr.heap.size 0) 1 1 [.string (s.extract fr k)] rfl rfl (one_cell _ _ _ _ rfl) uf (by unfold maxLen;omega) (by omega) (by have:=a.size;simp;omega) ?_);intro ab H p B _;have I:=pw (a.alloc a.size _) (by have:=a.size;simp;omega) (o.out.alloc _) B;obtain⟨C,D,rfl⟩:=lf p;have J:Hid (H.ownsRow w.heap.size 9 1 (.slice C (n+1) D) (n+1) (fG (I0 s (k+1)).1)):=by show World.ownsRow _ _ _ _ _ _ _;rw[b.out];simp only[fG,k7,WF,r7];exact p
      have K:Hid (n+1=(I0 s (k+1)).1.length):=by show _=_;rw[b.out,m.out];simp
      have L:Hid (k+1=(I0 s (k+1)).2):=by show _=_;rw[b.out]
      clear p B;go_wp2;go_roundw
      case rel=>exact⟨k+1,k+1,n+1,C,D,by omega,by go_num,by go_num,rfl,io _,by omega,I,L.out,K.out,J.out⟩
      case measure=>simp[intOf];omega
     ·have A:k=s.size:=by omega
      have aj:((k:Int)==(s.size:Int))=true:=by rw[A];simp
      have ak:Hid (k=s.size):=A;clear hcut A;go_wp2_with(at_builtin;refine r6 _ rfl (.tmp 27) (.tmp 32) 131 rfl w.heap.size 9 P _ 1 16 underlying131 hi Q R S rfl (by decide) _ _ _ rfl (o.out.alloc _) (eb wr.heap.size 0) 1 1 [.string (s.extract fr k)] rfl rfl (one_cell _ _ _ _ rfl) uf (by unfold maxLen;omega) (by omega) (by have:=a.size;simp;omega) ?_);intro ab H p B _;have I:=pw (a.alloc a.size _) (by have:=a.size;simp;omega) (o.out.alloc _) B;obtain⟨C,D,rfl⟩:=lf p;have J:Hid (H.ownsRow w.heap.size 9 1 (.slice C (n+1) D) (n+1) (fG (I0 s (k+1)).1)):=by show World.ownsRow _ _ _ _ _ _ _;rw[b.out];simp only[fG,k7,WF,r7];exact p
      have K:Hid (n+1=(I0 s (k+1)).1.length):=by show _=_;rw[b.out,m.out];simp
      have L:Hid (k+1=(I0 s (k+1)).2):=by show _=_;rw[b.out]
      clear p B;go_wp2;go_roundw
      case rel=>exact⟨k+1,k+1,n+1,C,D,by omega,by go_num,by go_num,rfl,io _,by omega,I,L.out,K.out,J.out⟩
      case measure=>simp[intOf];omega
    ·have b:Hid (I0 s (k+1)=((I0 s k).1,(I0 s k).2)):=by show _=_;simp only[I0];rw[eJ hcut]
     have z:k<s.size:=by
      rcases Km k s.size with h|h
      ·exact h
      ·exact absurd (by unfold cutAt;rw[dif_neg (by omega)]) hcut
     have NF:s[k]≠47:=fun e=>hcut (by unfold cutAt;rw[dif_pos z];exact jT e);have A:((k:Int)==(s.size:Int))=false:=by simp;omega
     have aa:((s[k].toNat:Int)==47)=false:=BP.2 fun e=>NF (Nb.1 (by have:(47:UInt8).toNat=47:=rfl;omega));clear hcut NF;go_wp2;go_roundw
     case rel=>exact⟨k+1,fr,n,u,y,by omega,by go_num,rfl,rfl,by omega,by omega,a,by show _=_;rw[b.out];exact G.out,by show _=_;rw[b.out];exact m.out,by show World.ownsRow _ _ _ _ _ _ _;rw[b.out];exact o.out⟩
     case measure=>simp[intOf];omega
   ·have ac:Hid (k=s.size+1):=by show _=_;omega
    obtain⟨xs,F⟩:∃xs,xs=(I0 s k).1:=⟨_,rfl⟩;rw[<-F]at m o;have U:Hid (xs=(I0 s (s.size+1)).1):=by show _=_;rw[<-ac.out];exact F
    have ad:Hid (∀x∈xs,x.size<=maxLen):=by rw[F];exact vp s hs _
    rename World=>wq;obtain⟨M,V⟩:∃M,M=k:=⟨_,rfl⟩;rw[<-V]at hle ⊢;clear F V;have ae:decide ((M:Int)<=(s.size:Int))=false:=m6 (by omega);have t:Hid (fX s=if ∀x∈xs,ez x=true then(xs,decide (xs.length<=5)) else([],false)):=by show _=_;unfold fX;rw[eJ h0,<-U.out]
    clear U G Z;go_wp2
    go_loopw [7] (fun i wr=>∃k:Nat,k<=n/\i=.int .i64 (k:Int)/\(∃q,wr=wq.drewN q)/\Hid (∀j (hj:j<xs.length),j<k->ez xs[j]=true)) (fun i _=>n-(intOf i).toNat)
    case atStart=>exact⟨0,oY _,rfl,⟨0,rfl⟩,fun j hj h=>by omega⟩
    case round=>
     obtain⟨k,al,rfl,⟨q,rfl⟩,X⟩:=hrel;by_cases z:k<n
     ·have N:k<xs.length:=by rw[<-m.out];exact z
      obtain⟨g,af,am,c,_⟩:=row_one (lw o.out (oY _)) (i:=k) (v:=.string xs[k]) (by simp[fG,N]);subst af;have r:=fun W=>Az xs[k] W (ad.out _ (iF N));have an:(k:Int)<(n:Int):=by omega
      cases hv:ez xs[k] with
      |true=>
       rw[hv]at r;have E:Hid (ez xs[k]=true):=hv;have O:Hid _:=r;clear hv r;go_wp2_with(go_at_call 150;refine g7 (O.out _) ?_;rintro _ _ ⟨rfl,ag,rfl⟩);go_roundw
       case rel=>
        refine⟨k+1,by omega,by go_num,⟨_,rfl⟩,fun j hj ao=>?_⟩;by_cases e:j=k
        ·subst e;exact E.out
        ·exact X.out j hj (by omega)
       case measure=>simp[intOf];omega
      |false=>
       rw[hv]at r;have E:Hid (fX s=([],false)):=by
        show _=_;rw[t.out,eJ];intro h
        have:=h _ (iF N)
        rw[hv]at this;cases this
       have O:Hid _:=r;clear hv r;go_wp2_with(go_at_call 150;refine g7 (O.out _) ?_;rintro _ _ ⟨rfl,ag,rfl⟩);go_ret2;rw[E.out];exact⟨_,rfl,UV _ _ _ _,PP a _⟩
     ·have E:Hid (fX s=(xs,decide (xs.length<=5))):=by
       show _=_;rw[t.out,fY];intro x hx;obtain⟨j,hj,rfl⟩:=mH hx;exact X.out j hj (by have:=m.out;omega)
      have ae:decide ((k:Int)<(n:Int))=false:=m6 (by omega);have ah:Hid (decide ((n:Int)<=5)=decide (xs.length<=5)):=by
       show _=_;rw[m.out];by_cases Y:xs.length<=5
       ·rw[jT Y,jT (by omega)]
       ·rw[m6 Y,m6 (by omega)]
      go_wp2;go_ret2;rw[E.out];refine⟨.slice u n y,by rw[<-ah.out];rfl,?_,PP a q⟩;rw[<-m.out];exact o.out
def jA (c n:Int):Int:=(if c<0 then -(c+1)else c).tmod n
theorem vq(c:Int){n:Int}(hn:0<n):0<=jA c n/\jA c n<n:=by
 unfold jA;have h0:0<=(if c<0 then -(c+1)else c):=by split<;>omega
 exact⟨Int.tmod_nonneg _ h0,Int.tmod_lt_of_pos _ hn⟩
theorem Eo(c n:Int)(w:World)(hc:-9223372036854775808<=c/\c<=9223372036854775807)(hn:0<n)(d:n<=1000000000):
  eK 49 #[ed c,ed n] w (tz (ed (jA c n)) w):=by
 have b:=vq c hn;by_cases h:c<0
 ·have a:Hid (jA c n=(-(c+1)).tmod n):=by show _=_;unfold jA;rw[fY h]
  rw[a.out]at b;go_enter func49,ntmps49;go_wp2;go_ret;exact⟨by rw[a.out,Int.neg_tmod];rfl,rfl⟩
 ·have a:Hid (jA c n=c.tmod n):=by show _=_;unfold jA;rw[eJ h]
  rw[a.out]at b;have h':decide (c<0)=false:=m6 h;go_enter func49,ntmps49;go_wp2;go_ret;exact⟨by rw[a.out,Int.tmod_eq_emod_of_nonneg h];rfl,rfl⟩
theorem Ac(a b:e5)(c d:Nat)(xs ys:eB)(w:World)(G:xs.length<=1000000000)(H:ys.length<=1000000000)
  (g:w.ownsRow 0 9 1 (.slice a xs.length c) xs.length (fG xs))(j:w.ownsRow 0 9 1 (.slice b ys.length d) ys.length (fG ys)):
  eK 92 #[.slice a xs.length c,.slice b ys.length d] w (ml (.bool (decide (xs=ys))) w):=by
 by_cases hl:xs.length=ys.length
 ·obtain⟨m,hm⟩:∃m,m=xs.length:=⟨_,rfl⟩
  have n:Hid (xs.length=m):=hm.symm;have o:Hid (ys.length=m):=by rw[hm];exact hl.symm
  rw[<-hl,<-hm]at j;rw[<-hl,<-hm];rw[<-hm]at g G;have I:Hid (w.ownsRow 0 9 1 (.slice a m c) m (fG xs)):=g;have J:Hid (w.ownsRow 0 9 1 (.slice b m d) m (fG ys)):=j;clear g j hl hm H;have h2:((m:Int) != (m:Int))=false:=by simp
  go_enter func92,ntmps92;go_wp2
  go_loopw [5] (fun i wr=>∃k:Nat,k<=m/\i=.int .i64 k/\Hid (∃q,wr=w.drewN q)/\Hid (xs.take k=ys.take k)) (fun i _=>m-(intOf i).toNat)
  case atStart=>exact⟨0,oY _,rfl,⟨0,by first|rfl|trivial⟩,rfl⟩
  case round=>
   obtain⟨k,hk,rfl,e,r⟩:=hrel;by_cases s:k<m
   ·have t:k<xs.length:=by rw[n.out];exact s
    have u:k<ys.length:=by rw[o.out];exact s
    obtain⟨x,hx⟩:∃x,x=xs[k]:=⟨_,rfl⟩;obtain⟨y,l⟩:∃y,y=ys[k]:=⟨_,rfl⟩;obtain⟨z,rfl,A,p,_⟩:=row_one I.out (i:=k) (v:=.string x) (by simp[fG,gJ t,hx]);obtain⟨B,rfl,C,D,_⟩:=row_one J.out (i:=k) (v:=.string y) (by simp[fG,gJ u,l]);have L:wr.cell? (eb z k)=some (.string x):=by obtain⟨q,hq⟩:=e.out;rw[hq];exact p
    have M:wr.cell? (eb B k)=some (.string y):=by obtain⟨q,hq⟩:=e.out;rw[hq];exact D
    have N:z<wr.heap.size:=by obtain⟨q,hq⟩:=e.out;rw[hq];exact A
    have O:B<wr.heap.size:=by obtain⟨q,hq⟩:=e.out;rw[hq];exact C
    clear p D A C;have E:Hid (x=xs[k]):=hx;have F:Hid (y=ys[k]):=l;clear hx l;cases xo:(x.toList==y.toList) with
    |true=>
     have f:Hid (x=y):=Gp (Qm.1 (by simpa [uL]using xo));go_wp2
     go_quiet (fail)
     go_wp2;go_roundw
     case rel=>
      refine⟨k+1,by omega,by go_num,(by obtain⟨q,hq⟩:=e.out;exact⟨q+nq,by rw[hq];simp⟩),?_⟩;show _=_;rw[sZ t,sZ u,r.out,<-E.out,<-F.out,f.out]
     case measure=>simp[intOf];omega
    |false=>
     have f:Hid (xs≠ys):=fun h=>by
      have:x=y:=by rw[E.out,F.out];simp only[h]
      rw[this]at xo;simp at xo
     go_wp2
     go_quiet (fail)
     go_wp2;go_ret;exact⟨by rw[m6 f.out];rfl,by obtain⟨q,hq⟩:=e.out;rw[hq];exact PP (PP (i7 _ _) _) _⟩
   ·have K:k=m:=by omega
    have f:Hid (xs=ys):=by
     have:=r.out
     rwa [K,jH (by rw[n.out];exact io _),jH (by rw[o.out];exact io _)]at this
    go_wp2;go_ret;exact⟨by rw[jT f.out];rfl,by obtain⟨q,hq⟩:=e.out;rw[hq];exact PP (i7 _ _) _⟩
 ·have f:Hid (xs≠ys):=fun h=>hl (by rw[h])
  have h2:((xs.length:Int) != (ys.length:Int))=true:=by simp;omega
  clear hl;go_enter func92,ntmps92;go_wp2;go_ret;exact⟨by rw[m6 f.out];rfl,i7 _ _⟩
theorem xa(W:Nat)(e f:Int)(none:Bool)(w:World)(b:(e==14)=false):
  eK 53 #[.pointer (some ⟨W,0,.none⟩),ed e,ed f,.bool none] w fun r w'=>r=.returned (.tuple #[.bool false,.bool (e==f)])/\w'=w:=by
 have a:=u3;go_enter func53,ntmps53;go_wp2_with(go_at_call 22;refine g7 (a _ _) ?_;rintro _ _ ⟨rfl,rfl⟩);go_ret2;exact⟨rfl,rfl⟩
def gj (w:World)(a:e5)(m:Nat)(xs:eB):Prop:=xs.length=m/\(0<m->∃b off,a=some ⟨b,off,none⟩/\b<w.heap.size/\∀j (hj:j<xs.length),w.cell? ⟨b,off+j,none⟩=some (.string xs[j]))
theorem rv{b:Nat}{m c:Nat}(h:w.ownsRow b 9 1 (.slice a m c) m (fG xs)):gj w a m xs:=by
 have hl:xs.length=m:=by have:=h.1;simp only[fG,kU]at this;omega
 refine⟨hl,fun hp=>?_⟩;obtain⟨g,_,d,_⟩:=row_one (lw h (oY _)) (i:=0) (v:=.string xs[0]) (by simp[fG])
 subst_vars
 refine⟨g,0,rfl,d,fun j hj=>?_⟩;obtain⟨f,e,_,hc,_⟩:=row_one (lw h (oY _)) (i:=j) (v:=.string xs[j]) (by simp[fG,hj]);cases e;rw[PH];exact hc
theorem gj.below(h:gj w a m xs)(c:gS w w'):gj w' a m xs:=
 ⟨h.1,fun hp=>by
  obtain⟨b,off,e,d,hc⟩:=h.2 hp
  exact⟨b,off,e,kv d c.size,fun j hj=>(c.cell (p:=(eb b (off+j))) d).trans (hc j hj)⟩⟩
theorem gj.take(h:gj w a m xs)(k:Nat)(hk:k<=m):gj w a k (xs.take k):=by
 refine⟨by rw[Hc,h.1];omega,fun hp=>?_⟩;obtain⟨b,off,c,d,hc⟩:=h.2 (by omega);refine⟨b,off,c,d,fun j hj=>?_⟩;rw[List.getElem_take];exact hc j (by rw[Hc]at hj;omega)
def jB (xs:eB):Nat->eu
 |0=>⟨#[]⟩
 |k+1=>(if 0<k then jB xs k++⟨#[47]⟩else jB xs k)++xs.getD k ⟨#[]⟩
def ek (xs:eB):eu:=jB xs xs.length
theorem qj(xs:(List ByteArray))(h:∀x ∈ xs,x.size<=12):∀k,(jB xs k).size<=13*k
 | 0=>Nat.le_refl _
 | k+1=>by
  have a:=qj xs h k
  have hg:(xs.getD k ⟨#[]⟩).size<=12:=by
   rw[List.getD_eq_getElem?_getD];cases hx:xs[k]? with
   | none=>exact Nat.zero_le _
   | some x=>exact h x (List.mem_of_getElem? hx)
  simp only[jB];split
  ·rw[ByteArray.size_append,ByteArray.size_append]
   have:(⟨#[47]⟩:ByteArray).size=1:=rfl
   omega
  ·rw[ByteArray.size_append]
   omega
theorem yE(a:e5)(m c:Nat)(xs:eB)(w:World)(hl:gj w a m xs)(hx:∀x∈xs,x.size<=12)(hm:m<=2097153):
  eK 202 #[.slice a m c] w (tz (.string (ek xs)) w):=by
 have e:Hid (gj w a m xs):=hl;have j:Hid (∀k,(jB xs k).size<=13*k):=qj xs hx;have n:Hid (∀x∈xs,x.size<=12):=hx;clear hl hx;go_enter func202,ntmps202;go_wp2
 go_loopw [3,4] (fun t i wr=>∃(k:Nat) (s:eu),k<=m/\i=.int .i64 (k:Int)/\t=.string s/\s.size<=13*k/\wr=w/\Hid (s=jB xs k)) (fun _ i _=>m-(intOf i).toNat)
 case atStart=>exact⟨0,fy,oY _,rfl,rfl,io _,rfl,rfl⟩
 case round=>
  obtain⟨k,s,hk,rfl,rfl,v,rfl,f⟩:=hrel;by_cases o:k<m
  ·have g:k<xs.length:=by rw[e.out.1];exact o
   obtain⟨b,off,p,y,hc⟩:=e.out.2 (by omega);have c0:=hc k g;subst p;have q:=n.out _ (iF g);obtain⟨x,h⟩:∃x,x=xs[k]:=⟨_,rfl⟩;rw[<-h]at c0 q;have r:Hid (x=xs[k]):=h;have z:(k:Int)<(m:Int):=by omega
   clear hc h;have l:Hid (xs.getD k fy=x):=by show _=_;rw[r.out,s5,gJ g];rfl
   by_cases h0:0<k
   ·have u:0<(k:Int):=by omega
    have d:Hid (s++⟨#[47]⟩++x=jB xs (k+1)):=by show _=_;rw[f.out];simp only[jB];rw[fY h0,l.out]
    go_wp2;refine⟨⟨k+1,_,by omega,by go_num,rfl,?_,by trivial,d.out⟩,by simp[intOf];omega⟩;rw[d.out];exact j.out _
   ·have u:decide (0<(k:Int))=false:=m6 (by omega)
    have d:Hid (s++x=jB xs (k+1)):=by show _=_;rw[f.out];simp only[jB];rw[eJ h0,l.out]
    go_wp2;refine⟨⟨k+1,_,by omega,by go_num,rfl,?_,by trivial,d.out⟩,by simp[intOf];omega⟩;rw[d.out];exact j.out _
  ·have A:decide ((k:Int)<(m:Int))=false:=m6 (by omega)
   have d:Hid (s=ek xs):=by show _=_;rw[f.out];unfold ek;rw[e.out.1];congr 1;omega
   go_wp2;go_ret;exact⟨by rw[<-d.out];rfl,rfl⟩
structure eV (F:Nat->Prop)(w:World)(S:Nat)(na da:e5)(nc dc:Nat)(nodes:List eD)(data:eB)(rest:fE):Prop where
 fS:F S
 hS:w.heap[S]?=some (.cells (Value.slice na nodes.length nc::Value.slice da data.length dc::rest).toArray 179 (0,0))
 iP:w.ownsRow 0 200 3 (.slice na nodes.length nc) nodes.length (flat nodes)
 fP:w.ownsRow 0 9 1 (.slice da data.length dc) data.length (fG data)
 fn:∀g,(Value.slice na nodes.length nc).ownBlock=some g->F g
 fd:∀g,(Value.slice da data.length dc).ownBlock=some g->F g
section
variable {F:Nat->Prop}{w:World}{S:Nat}{na da:e5}{nc dc:Nat}{nodes:List eD}{data:eB}{rest:fE}
theorem eV.lt(h:eV F w S na da nc dc nodes data rest):S<w.heap.size:=(lF.1 h.hS).1
theorem eV.c0(h:eV F w S na da nc dc nodes data rest):w.cell? (eb S 0)=some (.slice na nodes.length nc):=by simp[World.cell?,h.hS]
theorem eV.c1(h:eV F w S na da nc dc nodes data rest):w.cell? (eb S 1)=some (.slice da data.length dc):=by simp[World.cell?,h.hS]
theorem eV.keep{F':Nat->Prop}(h:eV F w S na da nc dc nodes data rest)(hF:∀k,F k->F' k)(hk:∀k,F k->w'.heap[k]?=w.heap[k]?):eV F' w' S na da nc dc nodes data rest:=
 ⟨hF _ h.fS,(hk S h.fS).trans h.hS,eh h.iP (fun g hg=>hk g (h.fn g hg)),eh h.fP (fun g hg=>hk g (h.fd g hg)),fun g hg=>hF g (h.fn g hg),fun g hg=>hF g (h.fd g hg)⟩
theorem eV.below(h:eV F w S na da nc dc nodes data rest)(a:gS w w'):eV F w' S na da nc dc nodes data rest:=
 ⟨h.fS,(a.block S h.lt).trans h.hS,eh h.iP (fun g hg=>a.block g (ee h.iP hg)),eh h.fP (fun g hg=>a.block g (ee h.fP hg)),h.fn,h.fd⟩
def je (nodes:List eD)(p:eu):Option Nat:=nodes.findIdx? (fun e=>decide (e.1.toList=p.toList))
def kh (nodes:List eD)(p:eu):Int:=if p.toList=[]then 2 else match je nodes p with|some i=>((nodes[i]?).map (·.2.1)).getD 0|none=>0
theorem vr(a:e5)(m c:Nat)(nodes:List eD)(p:eu)(w:World)(hl:fF w a m nodes)(hm:m<=1000000000):
  eK 106 #[.slice a m c,.string p] w (tz (ed (Cl (je nodes p))) w):=by
 have f:Hid (fF w a m nodes):=hl;clear hl;go_enter func106,ntmps106;go_wp2
 go_loopw [5] (fun i wr=>∃k:Nat,k<=m/\i=.int .i64 k/\wr=w/\Hid (∀j (hj:j<nodes.length),j<k->decide (nodes[j].1.toList=p.toList)=false)) (fun i _=>m-(intOf i).toNat)
 case atStart=>exact⟨0,oY _,rfl,rfl,fun j hj h=>by omega⟩
 case round=>
  obtain⟨k,hk,rfl,rfl,g⟩:=hrel;by_cases o:k<m
  ·have n:k<nodes.length:=by rw[f.out.1];exact o
   obtain⟨b,off,q,s,hc⟩:=f.out.2 (by omega);obtain⟨c0,_,_⟩:=i2 hc n;subst q;have t:(k:Int)<(m:Int):=by omega
   clear hc;by_cases d:nodes[k].1.toList=p.toList
   ·have l:Hid (nodes[k].1.toList=p.toList):=d
    have r:(nodes[k].1.toList==p.toList)=true:=by rw[d];exact Ni _
    clear d;go_wp2;go_ret;refine⟨?_,rfl⟩;have e:je nodes p=some k:=wX.2 ⟨n,jT l.out,fun j hj=>by have:=g.out j (by omega) hj;simp[this]⟩;rw[e];rfl
   ·have l:Hid (decide (nodes[k].1.toList=p.toList)=false):=m6 d
    have r:(nodes[k].1.toList==p.toList)=false:=BP.2 d;clear d;go_wp2;go_roundw
    case rel=>
     refine⟨k+1,by omega,by go_num,by trivial,fun j hj u=>?_⟩;by_cases e:j=k
     ·subst e;exact l.out
     ·exact g.out j hj (by omega)
    case measure=>simp[intOf];omega
  ·go_wp2
   go_ret;refine⟨?_,rfl⟩;have e:je nodes p=none:=Qq.2 fun x hx=>by
    obtain⟨j,hj,rfl⟩:=mH hx;exact g.out j hj (by have:=f.out.1;omega)
   rw[e];rfl
theorem lJ(h:eV F w S na da nc dc nodes data rest)(p:eu)(f:nodes.length<=1000000000):
  eK 155 #[fj S,.string p] w (tz (ed (kh nodes p)) w):=by
 have j:=h.c0;have m:=h.lt;have hf:=vr na nodes.length nc nodes p w (rb h.iP) f;have d:Hid (w.ownsRow 0 200 3 (.slice na nodes.length nc) nodes.length (flat nodes)):=h.iP;have a:Hid _:=hf;obtain⟨n,hn⟩:∃n,n=nodes.length:=⟨_,rfl⟩;have o:Hid (n=nodes.length):=hn;rw[<-hn]at j a f;clear h hf;by_cases hp:p.toList=[]
 ·have c:Hid (kh nodes p=2):=by show _=_;unfold kh;rw[fY hp]
  have k:(p.toList==[])=true:=by rw[hp];rfl
  clear hp;rw[c.out];clear hn;go_enter func155,ntmps155;go_wp2;go_ret;exact⟨rfl,rfl⟩
 ·have k:(p.toList==[])=false:=BP.2 hp
  cases b:je nodes p with
  |none=>
   have c:Hid (kh nodes p=0):=by show _=_;unfold kh;rw[eJ hp,b]
   rw[b]at a;have e:Hid (eK 106 #[.slice na n nc,.string p] w (tz (ed (-1)) w)):=a.out;rw[c.out];clear hn b a hp;go_enter func155,ntmps155;go_wp2_with(go_at_call 106;refine g7 e.out ?_;rintro _ _ ⟨rfl,rfl⟩);go_ret;exact⟨rfl,rfl⟩
  |some i=>
   have hi:i<nodes.length:=(wX.1 b).1;have c:Hid (kh nodes p=nodes[i].2.1):=by show _=_;unfold kh;rw[eJ hp,b];simp[hi]
   rw[b]at a;have e:Hid (eK 106 #[.slice na n nc,.string p] w (tz (ed (i:Int)) w)):=a.out;rw[c.out];obtain⟨g,q,hv⟩:=ej d.out (by omega);have l:=(kW hv).1;subst l;obtain⟨_,c1,_⟩:=i2 (off:=0) (hh d.out) hi;rw[PH]at c1;have r:=ee d.out rfl;have jY:(i:Int)<(n:Int):=by omega
   have s:decide ((i:Int)<0)=false:=m6 (by omega);clear hn b a hv hp;go_enter func155,ntmps155;go_wp2_with(go_at_call 106;refine g7 e.out ?_;rintro _ _ ⟨rfl,rfl⟩);go_ret;exact⟨rfl,rfl⟩
end
end Go.Proofs.YtlgidcmmgohagaaGreat
