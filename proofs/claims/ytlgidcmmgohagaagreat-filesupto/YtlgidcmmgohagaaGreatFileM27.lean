/- What is proved here: the mE own uv. -/
import Derived.Test.YtlgidcmmgohagaaGreatFileM25
import Derived.Deep.Cut
import Derived.Deep.CutRange
namespace Go.Proofs.YtlgidcmmgohagaaGreat
open Go.RowKit Go.Sort Go.Shelf Go.Proofs.Tryz
set_option linter.unusedVariables false
set_option maxRecDepth 100000
set_option maxHeartbeats 16000000
variable {rest:fQ}{S b c4 dc g4 nc nn q:Nat}{w1 w4 wr:World}{o:Obj}{da na:fD}{F:Nat->Prop}{x:eD}{ds:eL}{ns:List eN}
section
variable {F:Nat->Prop}{w:World}{S:Nat}{na da:fD}{nc dc:Nat}{nodes:List eN}{data:eL}{rest:fQ}
theorem fo.Zd(h:fo F w S na da nc dc nodes data rest){w':World}{g a:Nat}(P:w'.heap[S]?=some (.cells ((Value.slice na nodes.length nc::Value.slice da data.length dc::rest).toArray.setIfInBounds 1 (.slice (some (eI g 0)) (data.length+1) a)) 179 (0,0))/\
   w'.ownsRow 0 9 1 (.slice (some (eI g 0)) (data.length+1) a) (data.length+1) (fU data++[.string x])/\((some g:Option Nat)=(Value.slice da data.length dc).ownBlock\/w.heap.size<=g)/\eA (fun k=>k=S\/some k=(Value.slice da data.length dc).ownBlock) w w'):
  eW (kp F w w') w' S nodes (data++[x]) rest/\eA F w w':=by
 obtain⟨d,b,e,c⟩:=P;have hl:(data++[x]).length=data.length+1:=by simp
 refine⟨⟨na,nc,some (eI g 0),a,⟨.inl h.fS,?_,?_,?_,?_,?_⟩⟩,qp c h.fS h.fd⟩
 ·rw[hl,d];simp
 ·exact iW h.kJ c h.hS (by decide) (fun g hg=>px h.kJ h.gz (by decide) hg)
 ·rw[hl];simpa [fU]using b
 ·intro g hg;exact .inl (h.fn g hg)
 ·rw[hl];exact wL b e h.fd
end
theorem eW.zL{F F':Nat->Prop}{w:World}{nodes:List eN}{data:eL}(h:eW F w S nodes data rest)(hF:∀k,F k->F' k):eW F' w S nodes data rest:=by
 obtain⟨na,nc,da,dc,h⟩:=h;exact⟨na,nc,da,dc,h.keep hF (fun _ _=>rfl)⟩
theorem Km{x:eN}(h:fo (kp F w1 wr) wr S na da nc dc ns ds rest)(hk:eA F w1 wr)(hn:nn=ns.length)
  (a:w4.ownsRow 0 200 3 (.slice (some (eI g4 0)) (nn+1) c4) (nn+1) (flat ns++ml x))(hg:((wr.drewN q).alloc o).grownBy w4 (Value.slice na nn nc).ownBlock)(c:(Value.slice (some (eI g4 0)) (nn+1) c4).ownBlock=(Value.slice na nn nc).ownBlock\/(Value.slice (some (eI g4 0)) (nn+1) c4).ownBlock=some b)(d:wr.heap.size<=b:=by simp):
  eW (kp F w1 (w4.setCell (eI S 0) (.slice (some (eI g4 0)) (nn+1) c4))) (w4.setCell (eI S 0) (.slice (some (eI g4 0)) (nn+1) c4)) S (ns++[x]) ds rest/\eA F w1 (w4.setCell (eI S 0) (.slice (some (eI g4 0)) (nn+1) c4)):=by
 subst hn;have P:=ma (i:=0) h.hS h.kJ (by decide) (lJ wr q o) (by simp) ⟨rfl,rfl,rfl⟩ a hg c d;obtain⟨e,hk2⟩:=h.push P;have f:=xt hk hk2;exact⟨e.zL (fun k g=>kQ hk.size hk2.size g),f⟩
theorem EN{nc dc nd g4 c4 b:Nat}(h:fo (kp F w1 wr) wr S na da nc dc ns ds rest)(hk:eA F w1 wr)(hn:nd=ds.length)
  (a:w4.ownsRow 0 9 1 (.slice (some (eI g4 0)) (nd+1) c4) (nd+1) (fU ds++[.string x]))(hg:((wr.drewN q).alloc o).grownBy w4 (Value.slice da nd dc).ownBlock)(c:(Value.slice (some (eI g4 0)) (nd+1) c4).ownBlock=(Value.slice da nd dc).ownBlock\/(Value.slice (some (eI g4 0)) (nd+1) c4).ownBlock=some b)(d:wr.heap.size<=b:=by simp):
  eW (kp F w1 (w4.setCell (eI S 1) (.slice (some (eI g4 0)) (nd+1) c4))) (w4.setCell (eI S 1) (.slice (some (eI g4 0)) (nd+1) c4)) S ns (ds++[x]) rest/\eA F w1 (w4.setCell (eI S 1) (.slice (some (eI g4 0)) (nd+1) c4)):=by
 subst hn;have P:=ma (i:=1) h.hS h.gz (by decide) (lJ wr q o) (by simp) ⟨rfl,rfl,rfl⟩ a hg c d;obtain⟨e,hk2⟩:=h.Zd P;have f:=xt hk hk2;exact⟨e.zL (fun k g=>kQ hk.size hk2.size g),f⟩
theorem Sn{x:eN}(h:fo (kp F w1 wr) wr S na da nc dc ns ds rest)(hk:eA F w1 wr)(hn:nn=ns.length)
  (a:w4.ownsRow 0 200 3 (.slice (some (eI g4 0)) (nn+1) c4) (nn+1) (flat ns++ml x))(hg:(wr.alloc o).grownBy w4 (Value.slice na nn nc).ownBlock)(c:(Value.slice (some (eI g4 0)) (nn+1) c4).ownBlock=(Value.slice na nn nc).ownBlock\/(Value.slice (some (eI g4 0)) (nn+1) c4).ownBlock=some b)(d:wr.heap.size<=b:=by simp):
  eW (kp F w1 (w4.setCell (eI S 0) (.slice (some (eI g4 0)) (nn+1) c4))) (w4.setCell (eI S 0) (.slice (some (eI g4 0)) (nn+1) c4)) S (ns++[x]) ds rest/\eA F w1 (w4.setCell (eI S 0) (.slice (some (eI g4 0)) (nn+1) c4)):=by
 subst hn;have P:=ma (i:=0) h.hS h.kJ (by decide) (jz wr o) (by simp) ⟨rfl,rfl,rfl⟩ a hg c d;obtain⟨e,hk2⟩:=h.push P;have f:=xt hk hk2;exact⟨e.zL (fun k g=>kQ hk.size hk2.size g),f⟩
theorem GI(a b:eD):(jJ a b).size<=a.size+1+b.size:=by
 unfold jJ;split
 ·omega
 ·rw[Pd,Pd];exact kx _
def Ze (eC:List Ob)(rest:fQ)(S r fuel:Nat):Prop:=∀(at_:Nat) (a:eD) (st:St) (F b:Nat->Prop) (w:World),at_<fuel->at_<eC.length->a.size+13*fuel<=100000->
  (gQ eC fuel at_ a st).1.length<=1000000000->(gQ eC fuel at_ a st).2.length<=1000000000->eW F w S st.1 st.2 rest->fh b w r eC->(∀k,b k->k<w.heap.size/\¬F k)->(∀k,F k->k<w.heap.size)->
  Calls prog 89 #[.pointer (some ⟨S,0,none⟩),.pointer (some ⟨r,0,none⟩),.int .i64 (at_:Int),.string a] w fun e w'=>e=.returned (.tuple #[])/\eW (kp F w w') w' S (gQ eC fuel at_ a st).1 (gQ eC fuel at_ a st).2 rest/\eA F w w'
theorem VX(eC:List Ob)(rest:fQ)(S r:Nat)(bw:iL eC)(bx:∀o∈eC,∀e∈o.eR,e.1.size<=12)(fuel:Nat)(aC:Ze eC rest S r fuel):Ze eC rest S r (fuel+1):=by
 intro at_ d st F s w cn H cp bz bA aD bB aE aF;obtain⟨aG,aH,aI,aJ,aK⟩:=iq qB;obtain⟨bC,bD,bE,bF,I⟩:=iq qx;obtain⟨cq,cr,v⟩:=bB;have aL:=v.c0;have ct:=v.lt;have bG:=v.many;obtain⟨gr,bH,cu,q0,aM,aN,aO⟩:=ko v.row rfl H;subst bH;have J:=v.zV _ (kj H);obtain⟨es,y⟩:∃es,es=eC[at_].eR:=⟨_,rfl⟩;have aj:es.length=eC[at_].el:=by rw[y];exact J.len
 have bI:eC[at_].el<=16:=J.few;have aP:Hid (gQ eC (fuel+1) at_ d st=es.foldl (vy eC (gQ eC fuel) d) st):=by
  show _=_;simp only[gQ,Aj,jy H,mq,qj];rw[y]
 have bJ:Hid (∀e∈es,0<=e.2.2/\e.2.2<(at_:Int)):=by rw[y];exact bw at_ H
 have bK:Hid (∀e∈es,e.1.size<=12):=by rw[y];exact bx _ (kj H)
 have ak:Hid (fh s w r eC):=⟨_,_,v⟩;have f:Hid (∀k,s k->k<w.heap.size/\¬F k):=aE;have bL:Hid (eW F w S st.1 st.2 rest):=aD;have z:Hid (∀k,F k->k<w.heap.size):=aF;have bM:Hid _:=aC;have aQ:Hid ((es.foldl (vy eC (gQ eC fuel) d) st).1.length<=1000000000/\(es.foldl (vy eC (gQ eC fuel) d) st).2.length<=1000000000):=by rw[<-aP.out];exact⟨bz,bA⟩
 have aR:Hid (w.ownsRow 0 112 3 (.slice eC[at_].ea eC[at_].el eC[at_].ec) eC[at_].el (flat es)):=by rw[y];exact J.row
 have A:Hid (∀g,(Value.slice eC[at_].ea eC[at_].el eC[at_].ec).ownBlock=some g->s g):=J.own;obtain⟨n,hn⟩:∃n,n=eC[at_].el:=⟨_,rfl⟩;obtain⟨ia,aS⟩:∃ia,ia=eC[at_].ea:=⟨_,rfl⟩;obtain⟨ic,aT⟩:∃ic,ic=eC[at_].ec:=⟨_,rfl⟩;obtain⟨bN,aU⟩:∃k,k=eC[at_].kind:=⟨_,rfl⟩;obtain⟨bO,aV⟩:∃k,k=eC[at_].data:=⟨_,rfl⟩;obtain⟨bQ,aW⟩:∃k,k=eC[at_].high:=⟨_,rfl⟩;rw[<-hn,<-aS,<-aT]at aR A aN;rw[<-hn]at aj bI;rw[<-aU]at q0;rw[<-aV]at aM;rw[<-aW]at aO;have aX:Hid (es.length=n):=aj;obtain⟨L,al⟩:∃L,L=eC.length:=⟨_,rfl⟩;have bR:Hid (L=eC.length):=al;rw[<-al]at aL bG;have cv:(at_:Int)<(L:Int):=by omega
 clear aC aF v J y aj aD aE hn aS aT aU aV aW al;go_enter func89,ntmps89;go_wp2;obtain⟨B,C⟩:∃B:Obj,B=.cells #[eJ bN,.string bO,.slice ia n ic,eJ bQ] 108:=⟨_,rfl⟩;obtain⟨w1,K⟩:∃w1,w1=w.alloc B:=⟨_,rfl⟩;have t:ik w w1:=by rw[K];exact(lh _ _).alloc (kx _) B
 have aY:w1.cell? (eI w.heap.size 2)=some (.slice ia n ic):=by rw[K,C];simp
 have M:w.heap.size<w1.heap.size:=by rw[K];simp
 rw[<-C,<-K];clear C K;have bS:Hid (eW F w1 S st.1 st.2 rest):=by
  obtain⟨na,nc,da,dc,h⟩:=bL.out;exact⟨na,nc,da,dc,h.below t⟩
 go_loopw [9] (fun i wr=>∃(k:Nat) (b:St),k<=n/\i=.int .i64 (k:Int)/\Hid (b=(es.take k).foldl (vy eC (gQ eC fuel) d) st)/\Hid (eW (kp F w1 wr) wr S b.1 b.2 rest)/\Hid (eA F w1 wr)) (fun i _=>n-(intOf i).toNat)
 case atStart=>exact⟨0,st,tk _,rfl,rfl,bS.out.zL (fun _ h=>.inl h),eA.refl _⟩
 case round=>
  obtain⟨k,b,hk,rfl,aZ,bb,m⟩:=hrel;have cw:w1.heap.size<=wr.heap.size:=m.out.size;have am:wr.cell? (eI w.heap.size 2)=some (.slice ia n ic):=(jP (a:=(eI w.heap.size 2)) (m.out.block w.heap.size M (fun hf=>by have:=z.out _ hf;omega))).trans aY;have bT:fh s wr r eC:=ak.out.keep (fun _ h=>h) (fun q hq=>(m.out.block q (by have:=(f.out q hq).1;omega) (f.out q hq).2).trans (t.block q (f.out q hq).1));have cx:Hid (fh s wr r eC):=bT;by_cases bU:k<n
  ·have W:k<es.length:=by rw[aX.out];exact bU
   have X:=eQ aR.out (w':=wr) (fun g hg=>(m.out.block g (by have:=(f.out g (A.out g hg)).1;omega) (f.out g (A.out g hg)).2).trans (t.block g (f.out g (A.out g hg)).1));obtain⟨c,cy,bc⟩:=fj X (by omega);have bV:=(nH bc).1;subst bV;have cz:=eK X rfl;obtain⟨Y,N,O⟩:=ld (off:=0) (jn X) W;rw[iP]at Y N O;obtain⟨e,P⟩:∃e,e=es[k]:=⟨_,rfl⟩;rw[<-P]at Y N O;obtain⟨cA,cB⟩:=bJ.out e (by rw[P];exact kj W);have cC:=bK.out e (by rw[P];exact kj W);obtain⟨j,hj⟩:∃j:Nat,e.2.2=(j:Int):=⟨e.2.2.toNat,by omega⟩;rw[hj]at O;have cD:j<at_:=by omega
   have an:Hid ((es.take (k+1)).foldl (vy eC (gQ eC fuel) d) st=vy eC (gQ eC fuel) d b e):=by
    show _=_;rw[vZ W,SV,<-aZ.out,<-P];rfl
   have bd:Hid (oT (vy eC (gQ eC fuel) d b e) (es.foldl (vy eC (gQ eC fuel) d) st)):=by
    have Z:es=es.take (k+1)++es.drop (k+1):=(Hl _ _).symm
    have:=vW eC (gQ eC fuel) (vX eC fuel) d (es.drop (k+1)) (vy eC (gQ eC fuel) d b e)
    show oT _ _;rw[<-an.out]at this ⊢;rw[<-SV,<-Z]at this;exact this
   have be:Hid (e.2.2=(j:Int)):=hj;have bf:(k:Int)<(n:Int):=by omega
   obtain⟨na,nc,da,dc,Q⟩:=bb.out;have x:=Q.c0;have R:=Q.c1;have ao:=Q.lt;have D:Hid (fo (kp F w1 wr) wr S na da nc dc b.1 b.2 rest):=Q;obtain⟨nn,ap⟩:∃nn,nn=b.1.length:=⟨_,rfl⟩;obtain⟨nd,qa⟩:∃nd,nd=b.2.length:=⟨_,rfl⟩;have aa:Hid (nn=b.1.length):=ap;have T:Hid (nd=b.2.length):=qa;rw[<-ap]at x;rw[<-qa]at R;have cE:nn<=1000000000/\nd<=1000000000:=by
    have bW:=vp eC (gQ eC fuel) (vX eC fuel) d b e;have bg:=bW.trans bd.out
    have:=aQ.out
    exact⟨by have:=bg.1;omega,by have:=bg.2;omega⟩
   clear X bc Q P hj ap qa;obtain⟨pt,bh⟩:∃pt,pt=jJ d e.1:=⟨_,rfl⟩;have U:Hid (pt=jJ d e.1):=bh;have bi:Hid (wr.cell? (eI c (k*3+2))=some (eJ (j:Int))):=O;have ab:Hid (wr.ownsRow 0 200 3 (.slice na nn nc) nn (flat b.1)):=by show World.ownsRow _ _ _ _ _ _ _;rw[aa.out];exact D.out.kJ
   have bj:Hid (wr.cell? (eI S 0)=some (.slice na nn nc)):=x;have bX:Hid (wr.cell? (eI S 1)=some (.slice da nd dc)):=R;clear O bh q0 aM aN aO aL x R aY;go_upto_if 32 with fail
   go_cut [10]from 18 to 102 (fun bY wx=>bY=.string pt/\wx=wr)
   case first=>
    cases V:(d.toList==[]) with
    |true=>
     have aq:Hid (pt=e.1):=by show _=_;rw[U.out];unfold jJ;rw[ie (eq_of_beq V)]
     have ar:(!d.toList.isEmpty)=false:=by rw[eq_of_beq V];rfl
     go_wp2_with fail
     all_goals first
      |(exfalso;rename (! _)=_=>Gt;rw[ar]at Gt;cases Gt;done)
      |(go_meet;exact⟨by rw[aq.out],rfl⟩)
    |false=>
     have aq:Hid (pt=d++⟨#[47]⟩++e.1):=by show _=_;rw[U.out];unfold jJ;rw[fY (EX.1 V)]
     have ar:(!d.toList.isEmpty)=true:=by
      cases hc:d.toList with
      |nil=>rw[hc]at V;cases V
      |cons _ _=>rfl
     go_wp2_with fail
     all_goals first
      |(exfalso;rename (! _)=_=>Gt;rw[ar]at Gt;cases Gt;done)
      |(go_meet;exact⟨by rw[aq.out],rfl⟩)
   case rest=>
    obtain⟨rfl,au⟩:=hcut;have cF:Hid (wc=wr):=au;rw[au];clear au;have bk:Hid (wr.cell? (eI w.heap.size 2)=some (.slice (some (eI c 0)) n ic)):=am;by_cases E:e.2.1=1
    ·rw[E]at N
     have ac:Hid (vy eC (gQ eC fuel) d b e=(b.1++[(pt,1,(nd:Int))],b.2++[vV eC (j:Int)])):=by show _=_;unfold vy;rw[ie E,<-U.out,be.out,T.out]
     clear E;go_upto_region 8 with fail;have x:=bj.out;have R:=bX.out;clear Y N am
     go_cut []from 18 to 102 (fun wx=>Hid (eW (kp F w1 wx) wx S (b.1++[(pt,1,(nd:Int))]) b.2 rest/\eA F w1 wx))
     case first=>
      go_region_law(refine tR rfl (.tmp 48) (.tmp 56) 174 rfl 0 200 aG _ 3 32 underlying174 aH aI aJ aK rfl (by decide) (.slice na nn nc) nn (flat b.1) (by simp[Act.eval]) (pE (show(wr.drewN 1).ownsRow _ _ _ _ _ _ from ab.out) _) (eI wr.heap.size 0) 1 1 (ml (pt,1,(nd:Int))) (by simp[Act.eval]) rfl (ra (wr.drewN 1) (pt,1,(nd:Int)) _ _ rfl) (pp _) (by unfold maxLen;omega) (by omega) (tk _) ?_;intro cG w4 bl av bZ;obtain⟨g4,c4,rfl⟩:=fj bl (by omega);have bm:=sq D.out.hS (lJ wr 1 _) (by simp) av (fX ab.out D.out.hS (by decide));have cH:w4.cell? (eI S 0)=some (.slice na b.1.length nc):=(by simp[World.cell?,bm]);have cI:w4.frozen? (eI S 0)=false:=(by simp[World.frozen?,bm]);have cJ:S<w4.heap.size:=(lO ao (by have:=av.size;simp at this;omega)))
      all_goals
       go_wp2_with fail;go_meet;exact Km D.out m.out aa.out bl av bZ
     case rest=>
      rename World=>w5;obtain⟨⟨ca,cb,ad,ae,u⟩,hk2⟩:=hcut.out;have l:Hid (eA F w1 w5):=hk2;have af:Hid (fo (kp F w1 w5) w5 S ca ad cb ae (b.1++[(pt,1,(nd:Int))]) b.2 rest):=u;have cc:=u.c1;have cd:=u.lt;rw[<-T.out]at cc;have kb:∀q,s q->w5.heap[q]?=w.heap[q]?:=fun q hq=>(l.out.block q (by have:=(f.out q hq).1;omega) (f.out q hq).2).trans (t.block q (f.out q hq).1);obtain⟨cK,cL,ag⟩:=ak.out.keep (w':=w5) (fun _ h=>h) kb;have ce:=ag.c0;have cM:=ag.lt;rw[<-bR.out]at ce;have bn:j<eC.length:=by omega
      obtain⟨cN,cf,cO,_,d1,_,_⟩:=ko ag.row rfl bn;subst cf;have bo:Hid (vV eC (j:Int)=eC[j].data):=by show _=_;unfold vV;rw[ow,jy bn];rfl
      obtain⟨aw,bp⟩:∃aw,aw=eC[j].data:=⟨_,rfl⟩;rw[<-bp]at d1 bo;have cg:w5.cell? (eI w.heap.size 2)=some (.slice (some (eI c 0)) n ic):=(jP (a:=(eI w.heap.size 2)) ((l.out.block w.heap.size M (fun hf=>by have:=z.out _ hf;omega)).trans (m.out.block w.heap.size M (fun hf=>by have:=z.out _ hf;omega)).symm)).trans bk.out;have p:s c:=A.out c rfl;have ch:w5.cell? (eI c (k*3+2))=some (eJ (j:Int)):=(jP (a:=(eI c (k*3+2))) ((kb c p).trans ((m.out.block c (by have:=(f.out c p).1;omega) (f.out c p).2).trans (t.block c (f.out c p).1)).symm)).trans bi.out;have ci:c<w5.heap.size:=by have:=(f.out c p).1;have:=l.out.size;omega
      have bq:w.heap.size<w5.heap.size:=by have:=l.out.size;omega
      have cQ:(j:Int)<(L:Int):=(by omega);have br:Hid (w5.ownsRow 0 9 1 (.slice ad nd ae) nd (fU b.2)):=by show World.ownsRow _ _ _ _ _ _ _;rw[T.out];exact u.gz
      clear hcut u hk2 ag bp x R ao;go_upto_region 9 with fail
      go_region_law(refine tR rfl (.tmp 64) (.tmp 78) 131 rfl 0 9 bC _ 1 16 underlying131 bD bE bF I rfl (by decide) (.slice ad nd ae) nd (fU b.2) (by simp[Act.eval]) (pE (show(w5.drewN 1).ownsRow _ _ _ _ _ _ from br.out) _) (eI w5.heap.size 0) 1 1 [.string aw] (by simp[Act.eval]) rfl (one_cell (w5.drewN 1) _ _ _ rfl) xg (by unfold maxLen;omega) (by omega) (tk _) ?_;intro v6 w6 ax ah bs;obtain⟨cS,c6,rfl⟩:=fj ax (by omega);have bt:=sq af.out.hS (lJ w5 1 _) (by simp) ah (fX br.out af.out.hS (by decide));have cT:w6.cell? (eI S 1)=some (.slice ad b.2.length ae):=(by simp[World.cell?,bt]);have f16:w6.frozen? (eI S 1)=false:=(by simp[World.frozen?,bt]);have cU:S<w6.heap.size:=(lO cd (by have:=ah.size;simp at this;omega)))
      all_goals
       go_wp2_with fail;refine⟨⟨k+1,vy eC (gQ eC fuel) d b e,by omega,by go_num,an.out.symm,?_,?_⟩,by simp[intOf];omega⟩
       ·show eW _ _ _ _ _ _
        rw[ac.out,bo.out];exact(EN af.out l.out T.out ax ah bs).1
       ·exact(EN af.out l.out T.out ax ah bs).2
    ·have cj:(e.2.1==1)=false:=by simp[E]
     have ac:Hid (vy eC (gQ eC fuel) d b e=gQ eC fuel j pt (b.1++[(pt,2,0)],b.2)):=by show _=_;unfold vy;rw[fY E,be.out,ow,<-U.out]
     have x:=bj.out;go_upto_region 10 with fail
     go_cut []from 18 to 102 (fun wx=>Hid (eW (kp F w1 wx) wx S (b.1++[(pt,2,0)]) b.2 rest/\eA F w1 wx))
     case first=>
      go_wp2_with(at_builtin;refine jp rfl (.tmp 86) (.tmp 89) 174 rfl 0 200 aG _ 3 32 underlying174 aH aI aJ aK rfl (by decide) (.slice na nn nc) nn (flat b.1) rfl (pE ab.out _) (eI wr.heap.size 0) 1 1 (ml (pt,2,0)) rfl rfl (ra wr (pt,2,0) _ _ rfl) (pp _) (by unfold maxLen;omega) (by omega) (tk _) ?_);intro cV w3 ay ai bu;obtain⟨g3,c3,rfl⟩:=fj ay (by omega);have I:=D.out.hS;have az:=sq I (jz _ _) (by simp) ai (fX ab.out I (by decide));have cW:wr.heap.size<=w3.heap.size:=by have:=ai.size;simp at this;omega
      have cX:w3.cell? (eI S 0)=some (.slice na nn nc):=by rw[aa.out];simp[World.cell?,az]
      have cY:w3.frozen? (eI S 0)=false:=(by simp[World.frozen?,az]);have cZ:S<w3.heap.size:=by omega
      have G:Hid _:=Sn D.out m.out aa.out ay ai bu;clear ay ai bu az I;go_wp2_with fail;go_meet;exact G.out
     case rest=>
      rename World=>w5;obtain⟨u,hk2⟩:=hcut.out;have l:Hid (eA F w1 w5):=hk2;have kb:∀q,s q->w5.heap[q]?=w.heap[q]?:=fun q hq=>(l.out.block q (by have:=(f.out q hq).1;omega) (f.out q hq).2).trans (t.block q (f.out q hq).1);have db:w1.heap.size<=w5.heap.size:=l.out.size;have cg:w5.cell? (eI w.heap.size 2)=some (.slice (some (eI c 0)) n ic):=(jP (a:=(eI w.heap.size 2)) ((l.out.block w.heap.size M (fun hf=>by have:=z.out _ hf;omega)).trans (m.out.block w.heap.size M (fun hf=>by have:=z.out _ hf;omega)).symm)).trans bk.out;have p:s c:=A.out c rfl;have ch:w5.cell? (eI c (k*3+2))=some (eJ (j:Int)):=(jP (a:=(eI c (k*3+2))) ((kb c p).trans ((m.out.block c (by have:=(f.out c p).1;omega) (f.out c p).2).trans (t.block c (f.out c p).1)).symm)).trans bi.out;have ci:c<w5.heap.size:=by have:=(f.out c p).1;omega
      have bq:w.heap.size<w5.heap.size:=(by omega);have ck:Hid (gc 89 #[hh S,hh r,eJ (j:Int),.string pt] w5 fun cl w'=>cl=.returned (.tuple #[])/\eW (kp (kp F w1 w5) w5 w') w' S (gQ eC fuel j pt (b.1++[(pt,2,0)],b.2)).1 (gQ eC fuel j pt (b.1++[(pt,2,0)],b.2)).2 rest/\eA (kp F w1 w5) w5 w'):=by
       have C:=aQ.out;have aA:=bd.out;rw[ac.out]at aA;have cm:=GI d e.1;rw[<-U.out]at cm;refine bM.out j pt (b.1++[(pt,2,0)],b.2) (kp F w1 w5) s w5 (by omega) (by omega) (by omega) (wl aA.1 C.1) (wl aA.2 C.2) u (ak.out.keep (fun _ h=>h) kb) (fun q hq=>⟨by have:=(f.out q hq).1;omega,?_⟩) (fun q hq=>?_)
       ·rintro(h|⟨h,_⟩)
        ·exact(f.out q hq).2 h
        ·have:=(f.out q hq).1;omega
       ·rcases hq with h|⟨_,h⟩
        ·have:=z.out q h;omega
        ·exact h
      clear hcut u hk2 x ao am Y N E cj;go_wp2_with fail;refine io ck.out ?_;rintro _ w6 ⟨rfl,bv,aB⟩;have G:Hid (eW (kp F w1 w6) w6 S (gQ eC fuel j pt (b.1++[(pt,2,0)],b.2)).1 (gQ eC fuel j pt (b.1++[(pt,2,0)],b.2)).2 rest/\eA F w1 w6):=⟨bv.zL (fun q hq=>kQ l.out.size aB.size hq),xt l.out aB⟩;clear bv aB;go_wp2;refine⟨⟨k+1,vy eC (gQ eC fuel) d b e,by omega,by go_num,an.out.symm,?_,G.out.2⟩,by simp[intOf];omega⟩;show eW _ _ _ _ _ _;rw[ac.out];exact G.out.1
  ·have bf:k=n:=by omega
   subst bf;have dd:decide ((k:Int)<(k:Int))=false:=by simp
   have G:Hid (eW (kp F w wr) wr S (gQ eC (fuel+1) at_ d st).1 (gQ eC (fuel+1) at_ d st).2 rest/\eA F w wr):=by
    have Z:=aZ.out;rw[lV (by rw[aX.out];exact kx _),<-aP.out]at Z;rw[<-Z];exact⟨bb.out.zL (fun q hq=>by rcases hq with h|h;exact .inl h;exact .inr ⟨by omega,h.2⟩),eA.after m.out t⟩
   have bq:w.heap.size<wr.heap.size:=by omega
   go_wp2;go_end0;exact⟨rfl,G.out⟩
theorem Yw(eC:List Ob)(rest:fQ)(S r:Nat)(c:iL eC)(d:∀o∈eC,∀e∈o.eR,e.1.size<=12):∀(fuel at_:Nat) (a:eD) (st:St) (F b:Nat->Prop) (w:World),at_<fuel->at_<eC.length->a.size+13*fuel<=100000->
  (gQ eC fuel at_ a st).1.length<=1000000000->(gQ eC fuel at_ a st).2.length<=1000000000->eW F w S st.1 st.2 rest->fh b w r eC->(∀k,b k->k<w.heap.size/\¬F k)->(∀k,F k->k<w.heap.size)->
  gc 89 #[hh S,hh r,eJ (at_:Int),.string a] w fun e w'=>e=.returned (.tuple #[])/\eW (kp F w w') w' S (gQ eC fuel at_ a st).1 (gQ eC fuel at_ a st).2 rest/\eA F w w':=by
 intro fuel
 induction fuel with
 |zero=>intro at_ a st F b w h;exact absurd h (Th _)
 |succ fuel f=>exact VX eC rest S r c d fuel f
end Go.Proofs.YtlgidcmmgohagaaGreat
