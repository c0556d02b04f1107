/- What is proved here: the jX own qY. -/
import Derived.Test.YtlgidcmmgohagaaGreatFileM25
import Derived.Deep.Cut
import Derived.Deep.CutRange
namespace Go.Proofs.YtlgidcmmgohagaaGreat
open Go.RowKit Go.Sort Go.Shelf Go.Proofs.Tryz
set_option linter.unusedVariables false
set_option maxRecDepth 100000
set_option maxHeartbeats 16000000
variable {w1 w4 wr:World}{S b c4 dc g4 nc nn q:Nat}{da na:e5}{ds:eB}{ns:List eD}{rest:fE}{o:Obj}{F:Nat->Prop}{x:eu}
section
variable {F:Nat->Prop}{w:World}{S:Nat}{na da:e5}{nc dc:Nat}{nodes:List eD}{data:eB}{rest:fE}
theorem eV.Sy(h:eV F w S na da nc dc nodes data rest){w':World}{g a:Nat}(P:w'.heap[S]?=some (.cells ((Value.slice na nodes.length nc::Value.slice da data.length dc::rest).toArray.setIfInBounds 1 (.slice (some (eb g 0)) (data.length+1) a)) 179 (0,0))/\
   w'.ownsRow 0 9 1 (.slice (some (eb g 0)) (data.length+1) a) (data.length+1) (fG data++[.string x])/\((some g:Option Nat)=(Value.slice da data.length dc).ownBlock\/w.heap.size<=g)/\en (fun k=>k=S\/some k=(Value.slice da data.length dc).ownBlock) w w'):
  eN (ie F w w') w' S nodes (data++[x]) rest/\en F w w':=by
 obtain⟨d,b,e,c⟩:=P;have hl:(data++[x]).length=data.length+1:=by simp
 refine⟨⟨na,nc,some (eb g 0),a,⟨.inl h.fS,?_,?_,?_,?_,?_⟩⟩,nK c h.fS h.fd⟩
 ·rw[hl,d];simp
 ·exact QP h.iP c h.hS (by decide) (fun g hg=>ma h.iP h.fP (by decide) hg)
 ·rw[hl];simpa [fG]using b
 ·intro g hg;exact .inl (h.fn g hg)
 ·rw[hl];exact tJ b e h.fd
end
theorem eN.wU{F F':Nat->Prop}{w:World}{nodes:List eD}{data:eB}(h:eN F w S nodes data rest)(hF:∀k,F k->F' k):eN F' w S nodes data rest:=by
 obtain⟨na,nc,da,dc,h⟩:=h;exact⟨na,nc,da,dc,h.keep hF (fun _ _=>rfl)⟩
theorem FJ{x:eD}(h:eV (ie F w1 wr) wr S na da nc dc ns ds rest)(hk:en F w1 wr)(hn:nn=ns.length)
  (a:w4.ownsRow 0 200 3 (.slice (some (eb g4 0)) (nn+1) c4) (nn+1) (flat ns++kA x))(hg:((wr.drewN q).alloc o).grownBy w4 (Value.slice na nn nc).ownBlock)(c:(Value.slice (some (eb g4 0)) (nn+1) c4).ownBlock=(Value.slice na nn nc).ownBlock\/(Value.slice (some (eb g4 0)) (nn+1) c4).ownBlock=some b)(d:wr.heap.size<=b:=by simp):
  eN (ie F w1 (w4.setCell (eb S 0) (.slice (some (eb g4 0)) (nn+1) c4))) (w4.setCell (eb S 0) (.slice (some (eb g4 0)) (nn+1) c4)) S (ns++[x]) ds rest/\en F w1 (w4.setCell (eb S 0) (.slice (some (eb g4 0)) (nn+1) c4)):=by
 subst hn;have P:=kw (i:=0) h.hS h.iP (by decide) (jx wr q o) (by simp) ⟨rfl,rfl,rfl⟩ a hg c d;obtain⟨e,hk2⟩:=h.push P;have f:=rr hk hk2;exact⟨e.wU (fun k g=>iX hk.size hk2.size g),f⟩
theorem BH{nc dc nd g4 c4 b:Nat}(h:eV (ie F w1 wr) wr S na da nc dc ns ds rest)(hk:en F w1 wr)(hn:nd=ds.length)
  (a:w4.ownsRow 0 9 1 (.slice (some (eb g4 0)) (nd+1) c4) (nd+1) (fG ds++[.string x]))(hg:((wr.drewN q).alloc o).grownBy w4 (Value.slice da nd dc).ownBlock)(c:(Value.slice (some (eb g4 0)) (nd+1) c4).ownBlock=(Value.slice da nd dc).ownBlock\/(Value.slice (some (eb g4 0)) (nd+1) c4).ownBlock=some b)(d:wr.heap.size<=b:=by simp):
  eN (ie F w1 (w4.setCell (eb S 1) (.slice (some (eb g4 0)) (nd+1) c4))) (w4.setCell (eb S 1) (.slice (some (eb g4 0)) (nd+1) c4)) S ns (ds++[x]) rest/\en F w1 (w4.setCell (eb S 1) (.slice (some (eb g4 0)) (nd+1) c4)):=by
 subst hn;have P:=kw (i:=1) h.hS h.fP (by decide) (jx wr q o) (by simp) ⟨rfl,rfl,rfl⟩ a hg c d;obtain⟨e,hk2⟩:=h.Sy P;have f:=rr hk hk2;exact⟨e.wU (fun k g=>iX hk.size hk2.size g),f⟩
theorem MA{x:eD}(h:eV (ie F w1 wr) wr S na da nc dc ns ds rest)(hk:en F w1 wr)(hn:nn=ns.length)
  (a:w4.ownsRow 0 200 3 (.slice (some (eb g4 0)) (nn+1) c4) (nn+1) (flat ns++kA x))(hg:(wr.alloc o).grownBy w4 (Value.slice na nn nc).ownBlock)(c:(Value.slice (some (eb g4 0)) (nn+1) c4).ownBlock=(Value.slice na nn nc).ownBlock\/(Value.slice (some (eb g4 0)) (nn+1) c4).ownBlock=some b)(d:wr.heap.size<=b:=by simp):
  eN (ie F w1 (w4.setCell (eb S 0) (.slice (some (eb g4 0)) (nn+1) c4))) (w4.setCell (eb S 0) (.slice (some (eb g4 0)) (nn+1) c4)) S (ns++[x]) ds rest/\en F w1 (w4.setCell (eb S 0) (.slice (some (eb g4 0)) (nn+1) c4)):=by
 subst hn;have P:=kw (i:=0) h.hS h.iP (by decide) (hZ wr o) (by simp) ⟨rfl,rfl,rfl⟩ a hg c d;obtain⟨e,hk2⟩:=h.push P;have f:=rr hk hk2;exact⟨e.wU (fun k g=>iX hk.size hk2.size g),f⟩
theorem C1(a b:eu):(gU a b).size<=a.size+1+b.size:=by
 unfold gU;split
 ·omega
 ·rw[J5,J5];exact io _
def Sz (ep:List Ob)(rest:fE)(S r fuel:Nat):Prop:=∀(at_:Nat) (a:eu) (st:St) (F b:Nat->Prop) (w:World),at_<fuel->at_<ep.length->a.size+13*fuel<=100000->
  (Ha ep fuel at_ a st).1.length<=1000000000->(Ha ep fuel at_ a st).2.length<=1000000000->eN F w S st.1 st.2 rest->eU b w r ep->(∀k,b k->k<w.heap.size/\¬F k)->(∀k,F k->k<w.heap.size)->
  Calls prog 89 #[.pointer (some ⟨S,0,none⟩),.pointer (some ⟨r,0,none⟩),.int .i64 (at_:Int),.string a] w fun e w'=>e=.returned (.tuple #[])/\eN (ie F w w') w' S (Ha ep fuel at_ a st).1 (Ha ep fuel at_ a st).2 rest/\en F w w'
theorem PJ(ep:List Ob)(rest:fE)(S r:Nat)(bm:gi ep)(bn:∀o∈ep,∀e∈o.eG,e.1.size<=12)(fuel:Nat)(aC:Sz ep rest S r fuel):Sz ep rest S r (fuel+1):=by
 intro at_ d st F s w b3 H b4 bo bp aD bq aE aF;obtain⟨aG,aH,aI,aJ,aK⟩:=H4 nT;obtain⟨br,bs,bt,bu,I⟩:=H4 nP;obtain⟨b5,b6,v⟩:=bq;have aL:=v.c0;have b7:=v.lt;have bv:=v.many;obtain⟨gr,bw,b8,q0,aM,aN,aO⟩:=iG v.row rfl H;subst bw;have J:=v.xe _ (iF H);obtain⟨es,y⟩:∃es,es=ep[at_].eG:=⟨_,rfl⟩;have aj:es.length=ep[at_].el:=by rw[y];exact J.len
 have bx:ep[at_].el<=16:=J.few;have aP:Hid (Ha ep (fuel+1) at_ d st=es.foldl (pB ep (Ha ep fuel) d) st):=by
  show _=_;simp only[Ha,xB,gJ H,jS,nG];rw[y]
 have bz:Hid (∀e∈es,0<=e.2.2/\e.2.2<(at_:Int)):=by rw[y];exact bm at_ H
 have bA:Hid (∀e∈es,e.1.size<=12):=by rw[y];exact bn _ (iF H)
 have ak:Hid (eU s w r ep):=⟨_,_,v⟩;have f:Hid (∀k,s k->k<w.heap.size/\¬F k):=aE;have bB:Hid (eN F w S st.1 st.2 rest):=aD;have z:Hid (∀k,F k->k<w.heap.size):=aF;have bC:Hid _:=aC;have aQ:Hid ((es.foldl (pB ep (Ha ep fuel) d) st).1.length<=1000000000/\(es.foldl (pB ep (Ha ep fuel) d) st).2.length<=1000000000):=by rw[<-aP.out];exact⟨bo,bp⟩
 have aR:Hid (w.ownsRow 0 112 3 (.slice ep[at_].ea ep[at_].el ep[at_].ec) ep[at_].el (flat es)):=by rw[y];exact J.row
 have A:Hid (∀g,(Value.slice ep[at_].ea ep[at_].el ep[at_].ec).ownBlock=some g->s g):=J.own;obtain⟨n,hn⟩:∃n,n=ep[at_].el:=⟨_,rfl⟩;obtain⟨ia,aS⟩:∃ia,ia=ep[at_].ea:=⟨_,rfl⟩;obtain⟨ic,aT⟩:∃ic,ic=ep[at_].ec:=⟨_,rfl⟩;obtain⟨bD,aU⟩:∃k,k=ep[at_].kind:=⟨_,rfl⟩;obtain⟨bE,aV⟩:∃k,k=ep[at_].data:=⟨_,rfl⟩;obtain⟨bF,aW⟩:∃k,k=ep[at_].high:=⟨_,rfl⟩;rw[<-hn,<-aS,<-aT]at aR A aN;rw[<-hn]at aj bx;rw[<-aU]at q0;rw[<-aV]at aM;rw[<-aW]at aO;have aX:Hid (es.length=n):=aj;obtain⟨L,al⟩:∃L,L=ep.length:=⟨_,rfl⟩;have bG:Hid (L=ep.length):=al;rw[<-al]at aL bv;have b9:(at_:Int)<(L:Int):=by omega
 clear aC aF v J y aj aD aE hn aS aT aU aV aW al;go_enter func89,ntmps89;go_wp2;obtain⟨B,C⟩:∃B:Obj,B=.cells #[ed bD,.string bE,.slice ia n ic,ed bF] 108:=⟨_,rfl⟩;obtain⟨w1,K⟩:∃w1,w1=w.alloc B:=⟨_,rfl⟩;have t:gS w w1:=by rw[K];exact(i7 _ _).alloc (io _) B
 have aY:w1.cell? (eb w.heap.size 2)=some (.slice ia n ic):=by rw[K,C];simp
 have M:w.heap.size<w1.heap.size:=by rw[K];simp
 rw[<-C,<-K];clear C K;have bH:Hid (eN F w1 S st.1 st.2 rest):=by
  obtain⟨na,nc,da,dc,h⟩:=bB.out;exact⟨na,nc,da,dc,h.below t⟩
 go_loopw [9] (fun i wr=>∃(k:Nat) (b:St),k<=n/\i=.int .i64 (k:Int)/\Hid (b=(es.take k).foldl (pB ep (Ha ep fuel) d) st)/\Hid (eN (ie F w1 wr) wr S b.1 b.2 rest)/\Hid (en F w1 wr)) (fun i _=>n-(intOf i).toNat)
 case atStart=>exact⟨0,st,oY _,rfl,rfl,bH.out.wU (fun _ h=>.inl h),en.refl _⟩
 case round=>
  obtain⟨k,b,hk,rfl,aZ,a0,m⟩:=hrel;have ca:w1.heap.size<=wr.heap.size:=m.out.size;have am:wr.cell? (eb w.heap.size 2)=some (.slice ia n ic):=(ig (a:=(eb w.heap.size 2)) (m.out.block w.heap.size M (fun hf=>by have:=z.out _ hf;omega))).trans aY;have bI:eU s wr r ep:=ak.out.keep (fun _ h=>h) (fun q hq=>(m.out.block q (by have:=(f.out q hq).1;omega) (f.out q hq).2).trans (t.block q (f.out q hq).1));have cb:Hid (eU s wr r ep):=bI;by_cases bJ:k<n
  ·have W:k<es.length:=by rw[aX.out];exact bJ
   have X:=eh aR.out (w':=wr) (fun g hg=>(m.out.block g (by have:=(f.out g (A.out g hg)).1;omega) (f.out g (A.out g hg)).2).trans (t.block g (f.out g (A.out g hg)).1));obtain⟨c,cc,a1⟩:=ej X (by omega);have bK:=(kW a1).1;subst bK;have cd:=ee X rfl;obtain⟨Y,N,O⟩:=i2 (off:=0) (hh X) W;rw[PH]at Y N O;obtain⟨e,P⟩:∃e,e=es[k]:=⟨_,rfl⟩;rw[<-P]at Y N O;obtain⟨ce,cf⟩:=bz.out e (by rw[P];exact iF W);have cg:=bA.out e (by rw[P];exact iF W);obtain⟨j,hj⟩:∃j:Nat,e.2.2=(j:Int):=⟨e.2.2.toNat,by omega⟩;rw[hj]at O;have ch:j<at_:=by omega
   have an:Hid ((es.take (k+1)).foldl (pB ep (Ha ep fuel) d) st=pB ep (Ha ep fuel) d b e):=by
    show _=_;rw[sZ W,M6,<-aZ.out,<-P];rfl
   have a2:Hid (mA (pB ep (Ha ep fuel) d b e) (es.foldl (pB ep (Ha ep fuel) d) st)):=by
    have Z:es=es.take (k+1)++es.drop (k+1):=(Dm _ _).symm
    have:=sW ep (Ha ep fuel) (sX ep fuel) d (es.drop (k+1)) (pB ep (Ha ep fuel) d b e)
    show mA _ _;rw[<-an.out]at this ⊢;rw[<-M6,<-Z]at this;exact this
   have a3:Hid (e.2.2=(j:Int)):=hj;have a4:(k:Int)<(n:Int):=by omega
   obtain⟨na,nc,da,dc,Q⟩:=a0.out;have x:=Q.c0;have R:=Q.c1;have ao:=Q.lt;have D:Hid (eV (ie F w1 wr) wr S na da nc dc b.1 b.2 rest):=Q;obtain⟨nn,ap⟩:∃nn,nn=b.1.length:=⟨_,rfl⟩;obtain⟨nd,nw⟩:∃nd,nd=b.2.length:=⟨_,rfl⟩;have aa:Hid (nn=b.1.length):=ap;have T:Hid (nd=b.2.length):=nw;rw[<-ap]at x;rw[<-nw]at R;have ci:nn<=1000000000/\nd<=1000000000:=by
    have bL:=r5 ep (Ha ep fuel) (sX ep fuel) d b e;have a5:=bL.trans a2.out
    have:=aQ.out
    exact⟨by have:=a5.1;omega,by have:=a5.2;omega⟩
   clear X a1 Q P hj ap nw;obtain⟨pt,a6⟩:∃pt,pt=gU d e.1:=⟨_,rfl⟩;have U:Hid (pt=gU d e.1):=a6;have a7:Hid (wr.cell? (eb c (k*3+2))=some (ed (j:Int))):=O;have ab:Hid (wr.ownsRow 0 200 3 (.slice na nn nc) nn (flat b.1)):=by show World.ownsRow _ _ _ _ _ _ _;rw[aa.out];exact D.out.iP
   have a8:Hid (wr.cell? (eb S 0)=some (.slice na nn nc)):=x;have bM:Hid (wr.cell? (eb S 1)=some (.slice da nd dc)):=R;clear O a6 q0 aM aN aO aL x R aY;go_upto_if 32 with fail
   go_cut [10]from 18 to 102 (fun bN wx=>bN=.string pt/\wx=wr)
   case first=>
    cases V:(d.toList==[]) with
    |true=>
     have aq:Hid (pt=e.1):=by show _=_;rw[U.out];unfold gU;rw[fY (eq_of_beq V)]
     have ar:(!d.toList.isEmpty)=false:=by rw[eq_of_beq V];rfl
     go_wp2_with fail
     all_goals first
      |(exfalso;rename (! _)=_=>CO;rw[ar]at CO;cases CO;done)
      |(go_meet;exact⟨by rw[aq.out],rfl⟩)
    |false=>
     have aq:Hid (pt=d++⟨#[47]⟩++e.1):=by show _=_;rw[U.out];unfold gU;rw[eJ (BP.1 V)]
     have ar:(!d.toList.isEmpty)=true:=by
      cases hc:d.toList with
      |nil=>rw[hc]at V;cases V
      |cons _ _=>rfl
     go_wp2_with fail
     all_goals first
      |(exfalso;rename (! _)=_=>CO;rw[ar]at CO;cases CO;done)
      |(go_meet;exact⟨by rw[aq.out],rfl⟩)
   case rest=>
    obtain⟨rfl,au⟩:=hcut;have cj:Hid (wc=wr):=au;rw[au];clear au;have a9:Hid (wr.cell? (eb w.heap.size 2)=some (.slice (some (eb c 0)) n ic)):=am;by_cases E:e.2.1=1
    ·rw[E]at N
     have ac:Hid (pB ep (Ha ep fuel) d b e=(b.1++[(pt,1,(nd:Int))],b.2++[sV ep (j:Int)])):=by show _=_;unfold pB;rw[fY E,<-U.out,a3.out,T.out]
     clear E;go_upto_region 8 with fail;have x:=a8.out;have R:=bM.out;clear Y N am
     go_cut []from 18 to 102 (fun wx=>Hid (eN (ie F w1 wx) wx S (b.1++[(pt,1,(nd:Int))]) b.2 rest/\en F w1 wx))
     case first=>
      go_region_law(refine pm rfl (.tmp 48) (.tmp 56) 174 rfl 0 200 aG _ 3 32 underlying174 aH aI aJ aK rfl (by decide) (.slice na nn nc) nn (flat b.1) (by simp[Act.eval]) (mL (show(wr.drewN 1).ownsRow _ _ _ _ _ _ from ab.out) _) (eb wr.heap.size 0) 1 1 (kA (pt,1,(nd:Int))) (by simp[Act.eval]) rfl (m0 (wr.drewN 1) (pt,1,(nd:Int)) _ _ rfl) (lL _) (by unfold maxLen;omega) (by omega) (oY _) ?_;intro ck w4 bb av bO;obtain⟨g4,c4,rfl⟩:=ej bb (by omega);have bc:=oX D.out.hS (jx wr 1 _) (by simp) av (eI ab.out D.out.hS (by decide));have cl:w4.cell? (eb S 0)=some (.slice na b.1.length nc):=(by simp[World.cell?,bc]);have cm:w4.frozen? (eb S 0)=false:=(by simp[World.frozen?,bc]);have cn:S<w4.heap.size:=(kv ao (by have:=av.size;simp at this;omega)))
      all_goals
       go_wp2_with fail;go_meet;exact FJ D.out m.out aa.out bb av bO
     case rest=>
      rename World=>w5;obtain⟨⟨bQ,bR,ad,ae,u⟩,hk2⟩:=hcut.out;have l:Hid (en F w1 w5):=hk2;have af:Hid (eV (ie F w1 w5) w5 S bQ ad bR ae (b.1++[(pt,1,(nd:Int))]) b.2 rest):=u;have bS:=u.c1;have bT:=u.lt;rw[<-T.out]at bS;have kb:∀q,s q->w5.heap[q]?=w.heap[q]?:=fun q hq=>(l.out.block q (by have:=(f.out q hq).1;omega) (f.out q hq).2).trans (t.block q (f.out q hq).1);obtain⟨cp,cq,ag⟩:=ak.out.keep (w':=w5) (fun _ h=>h) kb;have bU:=ag.c0;have cr:=ag.lt;rw[<-bG.out]at bU;have bd:j<ep.length:=by omega
      obtain⟨ct,bV,cu,_,d1,_,_⟩:=iG ag.row rfl bd;subst bV;have be:Hid (sV ep (j:Int)=ep[j].data):=by show _=_;unfold sV;rw[lV,gJ bd];rfl
      obtain⟨aw,bf⟩:∃aw,aw=ep[j].data:=⟨_,rfl⟩;rw[<-bf]at d1 be;have bW:w5.cell? (eb w.heap.size 2)=some (.slice (some (eb c 0)) n ic):=(ig (a:=(eb w.heap.size 2)) ((l.out.block w.heap.size M (fun hf=>by have:=z.out _ hf;omega)).trans (m.out.block w.heap.size M (fun hf=>by have:=z.out _ hf;omega)).symm)).trans a9.out;have p:s c:=A.out c rfl;have bX:w5.cell? (eb c (k*3+2))=some (ed (j:Int)):=(ig (a:=(eb c (k*3+2))) ((kb c p).trans ((m.out.block c (by have:=(f.out c p).1;omega) (f.out c p).2).trans (t.block c (f.out c p).1)).symm)).trans a7.out;have bY:c<w5.heap.size:=by have:=(f.out c p).1;have:=l.out.size;omega
      have bg:w.heap.size<w5.heap.size:=by have:=l.out.size;omega
      have cv:(j:Int)<(L:Int):=(by omega);have bh:Hid (w5.ownsRow 0 9 1 (.slice ad nd ae) nd (fG b.2)):=by show World.ownsRow _ _ _ _ _ _ _;rw[T.out];exact u.fP
      clear hcut u hk2 ag bf x R ao;go_upto_region 9 with fail
      go_region_law(refine pm rfl (.tmp 64) (.tmp 78) 131 rfl 0 9 br _ 1 16 underlying131 bs bt bu I rfl (by decide) (.slice ad nd ae) nd (fG b.2) (by simp[Act.eval]) (mL (show(w5.drewN 1).ownsRow _ _ _ _ _ _ from bh.out) _) (eb w5.heap.size 0) 1 1 [.string aw] (by simp[Act.eval]) rfl (one_cell (w5.drewN 1) _ _ _ rfl) uf (by unfold maxLen;omega) (by omega) (oY _) ?_;intro v6 w6 ax ah bi;obtain⟨cw,c6,rfl⟩:=ej ax (by omega);have bj:=oX af.out.hS (jx w5 1 _) (by simp) ah (eI bh.out af.out.hS (by decide));have cx:w6.cell? (eb S 1)=some (.slice ad b.2.length ae):=(by simp[World.cell?,bj]);have f16:w6.frozen? (eb S 1)=false:=(by simp[World.frozen?,bj]);have cy:S<w6.heap.size:=(kv bT (by have:=ah.size;simp at this;omega)))
      all_goals
       go_wp2_with fail;refine⟨⟨k+1,pB ep (Ha ep fuel) d b e,by omega,by go_num,an.out.symm,?_,?_⟩,by simp[intOf];omega⟩
       ·show eN _ _ _ _ _ _
        rw[ac.out,be.out];exact(BH af.out l.out T.out ax ah bi).1
       ·exact(BH af.out l.out T.out ax ah bi).2
    ·have bZ:(e.2.1==1)=false:=by simp[E]
     have ac:Hid (pB ep (Ha ep fuel) d b e=Ha ep fuel j pt (b.1++[(pt,2,0)],b.2)):=by show _=_;unfold pB;rw[eJ E,a3.out,lV,<-U.out]
     have x:=a8.out;go_upto_region 10 with fail
     go_cut []from 18 to 102 (fun wx=>Hid (eN (ie F w1 wx) wx S (b.1++[(pt,2,0)]) b.2 rest/\en F w1 wx))
     case first=>
      go_wp2_with(at_builtin;refine hE rfl (.tmp 86) (.tmp 89) 174 rfl 0 200 aG _ 3 32 underlying174 aH aI aJ aK rfl (by decide) (.slice na nn nc) nn (flat b.1) rfl (mL ab.out _) (eb wr.heap.size 0) 1 1 (kA (pt,2,0)) rfl rfl (m0 wr (pt,2,0) _ _ rfl) (lL _) (by unfold maxLen;omega) (by omega) (oY _) ?_);intro cz w3 ay ai bk;obtain⟨g3,c3,rfl⟩:=ej ay (by omega);have I:=D.out.hS;have az:=oX I (hZ _ _) (by simp) ai (eI ab.out I (by decide));have cA:wr.heap.size<=w3.heap.size:=by have:=ai.size;simp at this;omega
      have cB:w3.cell? (eb S 0)=some (.slice na nn nc):=by rw[aa.out];simp[World.cell?,az]
      have cC:w3.frozen? (eb S 0)=false:=(by simp[World.frozen?,az]);have cD:S<w3.heap.size:=by omega
      have G:Hid _:=MA D.out m.out aa.out ay ai bk;clear ay ai bk az I;go_wp2_with fail;go_meet;exact G.out
     case rest=>
      rename World=>w5;obtain⟨u,hk2⟩:=hcut.out;have l:Hid (en F w1 w5):=hk2;have kb:∀q,s q->w5.heap[q]?=w.heap[q]?:=fun q hq=>(l.out.block q (by have:=(f.out q hq).1;omega) (f.out q hq).2).trans (t.block q (f.out q hq).1);have cE:w1.heap.size<=w5.heap.size:=l.out.size;have bW:w5.cell? (eb w.heap.size 2)=some (.slice (some (eb c 0)) n ic):=(ig (a:=(eb w.heap.size 2)) ((l.out.block w.heap.size M (fun hf=>by have:=z.out _ hf;omega)).trans (m.out.block w.heap.size M (fun hf=>by have:=z.out _ hf;omega)).symm)).trans a9.out;have p:s c:=A.out c rfl;have bX:w5.cell? (eb c (k*3+2))=some (ed (j:Int)):=(ig (a:=(eb c (k*3+2))) ((kb c p).trans ((m.out.block c (by have:=(f.out c p).1;omega) (f.out c p).2).trans (t.block c (f.out c p).1)).symm)).trans a7.out;have bY:c<w5.heap.size:=by have:=(f.out c p).1;omega
      have bg:w.heap.size<w5.heap.size:=(by omega);have b0:Hid (eK 89 #[fj S,fj r,ed (j:Int),.string pt] w5 fun b1 w'=>b1=.returned (.tuple #[])/\eN (ie (ie F w1 w5) w5 w') w' S (Ha ep fuel j pt (b.1++[(pt,2,0)],b.2)).1 (Ha ep fuel j pt (b.1++[(pt,2,0)],b.2)).2 rest/\en (ie F w1 w5) w5 w'):=by
       have C:=aQ.out;have aA:=a2.out;rw[ac.out]at aA;have b2:=C1 d e.1;rw[<-U.out]at b2;refine bC.out j pt (b.1++[(pt,2,0)],b.2) (ie F w1 w5) s w5 (by omega) (by omega) (by omega) (pD aA.1 C.1) (pD aA.2 C.2) u (ak.out.keep (fun _ h=>h) kb) (fun q hq=>⟨by have:=(f.out q hq).1;omega,?_⟩) (fun q hq=>?_)
       ·rintro(h|⟨h,_⟩)
        ·exact(f.out q hq).2 h
        ·have:=(f.out q hq).1;omega
       ·rcases hq with h|⟨_,h⟩
        ·have:=z.out q h;omega
        ·exact h
      clear hcut u hk2 x ao am Y N E bZ;go_wp2_with fail;refine g7 b0.out ?_;rintro _ w6 ⟨rfl,bl,aB⟩;have G:Hid (eN (ie F w1 w6) w6 S (Ha ep fuel j pt (b.1++[(pt,2,0)],b.2)).1 (Ha ep fuel j pt (b.1++[(pt,2,0)],b.2)).2 rest/\en F w1 w6):=⟨bl.wU (fun q hq=>iX l.out.size aB.size hq),rr l.out aB⟩;clear bl aB;go_wp2;refine⟨⟨k+1,pB ep (Ha ep fuel) d b e,by omega,by go_num,an.out.symm,?_,G.out.2⟩,by simp[intOf];omega⟩;show eN _ _ _ _ _ _;rw[ac.out];exact G.out.1
  ·have a4:k=n:=by omega
   subst a4;have cF:decide ((k:Int)<(k:Int))=false:=by simp
   have G:Hid (eN (ie F w wr) wr S (Ha ep (fuel+1) at_ d st).1 (Ha ep (fuel+1) at_ d st).2 rest/\en F w wr):=by
    have Z:=aZ.out;rw[jH (by rw[aX.out];exact io _),<-aP.out]at Z;rw[<-Z];exact⟨a0.out.wU (fun q hq=>by rcases hq with h|h;exact .inl h;exact .inr ⟨by omega,h.2⟩),en.after m.out t⟩
   have bg:w.heap.size<wr.heap.size:=by omega
   go_wp2;go_end0;exact⟨rfl,G.out⟩
theorem RT(ep:List Ob)(rest:fE)(S r:Nat)(c:gi ep)(d:∀o∈ep,∀e∈o.eG,e.1.size<=12):∀(fuel at_:Nat) (a:eu) (st:St) (F b:Nat->Prop) (w:World),at_<fuel->at_<ep.length->a.size+13*fuel<=100000->
  (Ha ep fuel at_ a st).1.length<=1000000000->(Ha ep fuel at_ a st).2.length<=1000000000->eN F w S st.1 st.2 rest->eU b w r ep->(∀k,b k->k<w.heap.size/\¬F k)->(∀k,F k->k<w.heap.size)->
  eK 89 #[fj S,fj r,ed (at_:Int),.string a] w fun e w'=>e=.returned (.tuple #[])/\eN (ie F w w') w' S (Ha ep fuel at_ a st).1 (Ha ep fuel at_ a st).2 rest/\en F w w':=by
 intro fuel
 induction fuel with
 |zero=>intro at_ a st F b w h;exact absurd h (Nj _)
 |succ fuel f=>exact PJ ep rest S r c d fuel f
end Go.Proofs.YtlgidcmmgohagaaGreat
