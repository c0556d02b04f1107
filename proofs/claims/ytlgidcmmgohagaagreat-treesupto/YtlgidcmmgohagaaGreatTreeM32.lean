/- What is proved here: the oI own uw. -/
import Derived.Test.YtlgidcmmgohagaaGreatTreeM30
import Derived.Deep.Cut
import Derived.Deep.CutRange
namespace Go.Proofs.YtlgidcmmgohagaaGreat
open Go.RowKit Go.Sort Go.Shelf Tryz
set_option linter.unusedVariables false
set_option maxRecDepth 100000
set_option maxHeartbeats 16000000
section
variable {F:Nat->Prop}{w:World}{S:Nat}{na da:Option Addr}{nc dc:Nat}{nodes:List aK}{data:List ByteArray}{rest:List Value}
theorem dF.aeD (h:dF F w S na da nc dc nodes data rest){w':World}{g cap':Nat}{x:ByteArray}(P:w'.heap[S]? = some (.cells ((Value.slice na nodes.length nc :: Value.slice da data.length dc :: rest).toArray.setIfInBounds 1 (.slice (some ⟨g,0,none⟩) (data.length+1) cap')) 179 (0,0))/\
   w'.ownsRow 0 9 1 (.slice (some ⟨g,0,none⟩) (data.length+1) cap') (data.length+1) (gM data ++ [.string x])/\((some g:Option Nat)=(Value.slice da data.length dc).ownBlock\/w.heap.size<=g)/\ax (fun k=>k=S\/some k=(Value.slice da data.length dc).ownBlock) w w'):
  b9 (bq F w w') w' S nodes (data ++ [x]) rest/\ax F w w':=by
 obtain⟨p1,p2,p3,p4⟩:=P;have hl:(data ++ [x]).length=data.length+1:=by simp
 refine⟨⟨na,nc,some ⟨g,0,none⟩,cap',⟨.inl h.fS,?_,?_,?_,?_,?_⟩⟩,qx p4 h.fS h.fd⟩
 ·rw[hl,p1];simp
 ·exact jc h.jW p4 h.hS (by decide) (fun g hg=>cS h.jW h.ny (by decide) hg)
 ·rw[hl];simpa [gM] using p2
 ·intro g hg;exact .inl (h.fn g hg)
 ·rw[hl];exact wL p2 p3 h.fd
end
theorem b9.CD {F F':Nat->Prop}{w:World}{S:Nat}{nodes:List aK}{data:List ByteArray}{rest:List Value}(h:b9 F w S nodes data rest)(hF:∀k,F k->F' k):b9 F' w S nodes data rest:=by
 obtain⟨na,nc,da,dc,h⟩:=h;exact⟨na,nc,da,dc,h.keep hF (fun _ _=>rfl)⟩
theorem U3 {F:Nat->Prop}{w1 wr w4:World}{S:Nat}{na da:Option Addr}{nc dc nn g4 c4 b:Nat}{ns:List aK}{ds:List ByteArray}{rest:List Value}{x:aK}{o:Obj}{q:Nat}(h:dF (bq F w1 wr) wr S na da nc dc ns ds rest)(hk:ax F w1 wr)(hn:nn=ns.length)
  (hown:w4.ownsRow 0 200 3 (.slice (some ⟨g4,0,none⟩) (nn+1) c4) (nn+1) (flat ns++bL x))(hg:((wr.drewN q).alloc o).grownBy w4 (Value.slice na nn nc).ownBlock)(hloc:(Value.slice (some ⟨g4,0,none⟩) (nn+1) c4).ownBlock=(Value.slice na nn nc).ownBlock\/(Value.slice (some ⟨g4,0,none⟩) (nn+1) c4).ownBlock=some b)(hb:wr.heap.size<=b:=by simp):
  b9 (bq F w1 (w4.setCell ⟨S,0,none⟩ (.slice (some ⟨g4,0,none⟩) (nn+1) c4))) (w4.setCell ⟨S,0,none⟩ (.slice (some ⟨g4,0,none⟩) (nn+1) c4)) S (ns ++ [x]) ds rest/\ax F w1 (w4.setCell ⟨S,0,none⟩ (.slice (some ⟨g4,0,none⟩) (nn+1) c4)):=by
 subst hn;have P:=cq (i:=0) h.hS h.jW (by decide) (mO wr q o) (by simp) ⟨rfl,rfl,rfl⟩ hown hg hloc hb;obtain⟨Ac,hk2⟩:=h.push P;have hk3:=dr hk hk2;exact⟨Ac.CD (fun k dy=>ig hk.size hk2.size dy),hk3⟩
theorem EI {F:Nat->Prop}{w1 wr w4:World}{S:Nat}{na da:Option Addr}{nc dc nd g4 c4 b:Nat}{ns:List aK}{ds:List ByteArray}{rest:List Value}{x:ByteArray}{o:Obj}{q:Nat}(h:dF (bq F w1 wr) wr S na da nc dc ns ds rest)(hk:ax F w1 wr)(hn:nd=ds.length)
  (hown:w4.ownsRow 0 9 1 (.slice (some ⟨g4,0,none⟩) (nd+1) c4) (nd+1) (gM ds ++ [.string x]))(hg:((wr.drewN q).alloc o).grownBy w4 (Value.slice da nd dc).ownBlock)(hloc:(Value.slice (some ⟨g4,0,none⟩) (nd+1) c4).ownBlock=(Value.slice da nd dc).ownBlock\/(Value.slice (some ⟨g4,0,none⟩) (nd+1) c4).ownBlock=some b)(hb:wr.heap.size<=b:=by simp):
  b9 (bq F w1 (w4.setCell ⟨S,1,none⟩ (.slice (some ⟨g4,0,none⟩) (nd+1) c4))) (w4.setCell ⟨S,1,none⟩ (.slice (some ⟨g4,0,none⟩) (nd+1) c4)) S ns (ds ++ [x]) rest/\ax F w1 (w4.setCell ⟨S,1,none⟩ (.slice (some ⟨g4,0,none⟩) (nd+1) c4)):=by
 subst hn;have P:=cq (i:=1) h.hS h.ny (by decide) (mO wr q o) (by simp) ⟨rfl,rfl,rfl⟩ hown hg hloc hb;obtain⟨Ac,hk2⟩:=h.aeD P;have hk3:=dr hk hk2;exact⟨Ac.CD (fun k dy=>ig hk.size hk2.size dy),hk3⟩
theorem QY {F:Nat->Prop}{w1 wr w4:World}{S:Nat}{na da:Option Addr}{nc dc nn g4 c4 b:Nat}{ns:List aK}{ds:List ByteArray}{rest:List Value}{x:aK}{o:Obj}(h:dF (bq F w1 wr) wr S na da nc dc ns ds rest)(hk:ax F w1 wr)(hn:nn=ns.length)
  (hown:w4.ownsRow 0 200 3 (.slice (some ⟨g4,0,none⟩) (nn+1) c4) (nn+1) (flat ns++bL x))(hg:(wr.alloc o).grownBy w4 (Value.slice na nn nc).ownBlock)(hloc:(Value.slice (some ⟨g4,0,none⟩) (nn+1) c4).ownBlock=(Value.slice na nn nc).ownBlock\/(Value.slice (some ⟨g4,0,none⟩) (nn+1) c4).ownBlock=some b)(hb:wr.heap.size<=b:=by simp):
  b9 (bq F w1 (w4.setCell ⟨S,0,none⟩ (.slice (some ⟨g4,0,none⟩) (nn+1) c4))) (w4.setCell ⟨S,0,none⟩ (.slice (some ⟨g4,0,none⟩) (nn+1) c4)) S (ns ++ [x]) ds rest/\ax F w1 (w4.setCell ⟨S,0,none⟩ (.slice (some ⟨g4,0,none⟩) (nn+1) c4)):=by
 subst hn;have P:=cq (i:=0) h.hS h.jW (by decide) (bh wr o) (by simp) ⟨rfl,rfl,rfl⟩ hown hg hloc hb;obtain⟨Ac,hk2⟩:=h.push P;have hk3:=dr hk hk2;exact⟨Ac.CD (fun k dy=>ig hk.size hk2.size dy),hk3⟩
theorem Gr (path name:ByteArray):(jP path name).size<=path.size+1+name.size:=by
 unfold jP;split
 ·omega
 ·rw[ByteArray.size_append,ByteArray.size_append];exact bA _
def YN (au:List Ob)(rest:List Value)(S r fuel:Nat):Prop:=∀(at_:Nat) (path:ByteArray) (st:St) (F G:Nat->Prop) (w:World),at_<fuel->at_<au.length->path.size+13*fuel<=100000->
  (gO au fuel at_ path st).1.length<=1000000000->(gO au fuel at_ path st).2.length<=1000000000->b9 F w S st.1 st.2 rest->bS G w r au->(∀k,G k->k<w.heap.size/\¬F k)->(∀k,F k->k<w.heap.size)->
  Calls prog 89 #[.pointer (some ⟨S,0,none⟩),.pointer (some ⟨r,0,none⟩),.int .i64 (at_:Int),.string path] w fun e w'=>e=.returned (.tuple #[])/\b9 (bq F w w') w' S (gO au fuel at_ path st).1 (gO au fuel at_ path st).2 rest/\ax F w w'
theorem U4 (au:List Ob)(rest:List Value)(S r:Nat)(hat:iM au)(sB:∀o ∈ au,∀e ∈ o.aV,e.1.size<=12)(fuel:Nat)(IH:YN au rest S r fuel):YN au rest S r (fuel+1):=by
 intro at_ path st F G w hfu QU hps hb1 hb2 Ac CK Nj Zh;obtain⟨iN,hiN,hN0,hN1,hN2⟩:=info_parts tE;obtain⟨iS,hiS,GA,hS1,yz⟩:=info_parts tu;obtain⟨ra,Sj,qg⟩:=CK;have r0:=qg.c0;have uT:=qg.lt;have hrm:=qg.many;obtain⟨gr,xS,agu,q0,q1,q2,q3⟩:=j0 qg.row rfl QU;subst xS;have pH:=qg.z6 _ (jk QU);obtain⟨es,hes⟩:∃es,es=au[at_].aV:=⟨_,rfl⟩;have RH:es.length=au[at_].el:=by rw[hes];exact pH.len
 have Fo:au[at_].el<=16:=pH.few;have HE:Hid (gO au (fuel+1) at_ path st=es.foldl (dX au (gO au fuel) path) st):=by
  show _=_;simp only[gO,AJ,kO QU,Option.map_some,Option.getD_some];rw[hes]
 have E3:Hid (∀e ∈ es,0<=e.2.2/\e.2.2<(at_:Int)):=by rw[hes];exact hat at_ QU
 have HNM:Hid (∀e ∈ es,e.1.size<=12):=by rw[hes];exact sB _ (jk QU)
 have HRA:Hid (bS G w r au):=⟨_,_,qg⟩;have Ak:Hid (∀k,G k->k<w.heap.size/\¬F k):=Nj;have HSI:Hid (b9 F w S st.1 st.2 rest):=Ac;have HFL:Hid (∀k,F k->k<w.heap.size):=Zh;have HIH:Hid _:=IH;have HB1:Hid ((es.foldl (dX au (gO au fuel) path) st).1.length<=1000000000/\(es.foldl (dX au (gO au fuel) path) st).2.length<=1000000000):=by rw[<-HE.out];exact⟨hb1,hb2⟩
 have l6:Hid (w.ownsRow 0 112 3 (.slice au[at_].ea au[at_].el au[at_].ec) au[at_].el (flat es)):=by rw[hes];exact pH.row
 have xH:Hid (∀g,(Value.slice au[at_].ea au[at_].el au[at_].ec).ownBlock=some g->G g):=pH.own;obtain⟨n,hn⟩:∃n,n=au[at_].el:=⟨_,rfl⟩;obtain⟨ia,hia⟩:∃ia,ia=au[at_].ea:=⟨_,rfl⟩;obtain⟨ic,hic⟩:∃ic,ic=au[at_].ec:=⟨_,rfl⟩;obtain⟨okd,XD⟩:∃k,k=au[at_].kind:=⟨_,rfl⟩;obtain⟨oda,aeE⟩:∃k,k=au[at_].data:=⟨_,rfl⟩;obtain⟨ohi,aeF⟩:∃k,k=au[at_].high:=⟨_,rfl⟩;rw[<-hn,<-hia,<-hic] at l6 xH q2;rw[<-hn] at RH Fo;rw[<-XD] at q0;rw[<-aeE] at q1;rw[<-aeF] at q3;have HEL:Hid (es.length=n):=RH;obtain⟨L,hL⟩:∃L,L=au.length:=⟨_,rfl⟩;have HLL:Hid (L=au.length):=hL;rw[<-hL] at r0 hrm;have aph:(at_:Int)<(L:Int):=by omega
 clear IH Zh qg pH hes RH Ac Nj hn hia hic XD aeE aeF hL;go_enter func89,ntmps89;go_wp2;obtain⟨B,hB⟩:∃B:Obj,B=.cells #[.int .i64 okd,.string oda,.slice ia n ic,.int .i64 ohi] 108:=⟨_,rfl⟩;obtain⟨w1,jb⟩:∃w1,w1=w.alloc B:=⟨_,rfl⟩;have hb0:Below w.heap.size w w1:=by rw[jb];exact (Below.refl _ _).alloc (bA _) B
 have y2:w1.cell? ⟨w.heap.size,2,none⟩=some (.slice ia n ic):=by rw[jb,hB];simp
 have hs1:w.heap.size<w1.heap.size:=by rw[jb];simp
 rw[<-hB,<-jb];clear hB jb;have ajb:Hid (b9 F w1 S st.1 st.2 rest):=by
  obtain⟨na,nc,da,dc,h⟩:=HSI.out;exact⟨na,nc,da,dc,h.below hb0⟩
 go_loopw [9] (fun i wr=>∃(k:Nat) (sk:St),k<=n/\i=.int .i64 (k:Int)/\Hid (sk=(es.take k).foldl (dX au (gO au fuel) path) st)/\Hid (b9 (bq F w1 wr) wr S sk.1 sk.2 rest)/\Hid (ax F w1 wr)) (fun i _=>n-(intOf i).toNat)
 case atStart=>exact⟨0,st,dG _,rfl,rfl,ajb.out.CD (fun _ h=>.inl h),ax.refl _⟩
 case round=>
  obtain⟨k,sk,hk,rfl,HSK,HST,Bw⟩:=hrel;have qm:w1.heap.size<=wr.heap.size:=Bw.out.size;have y2r:wr.cell? ⟨w.heap.size,2,none⟩=some (.slice ia n ic):=(World.cell?_of_block (a:=⟨w.heap.size,2,none⟩) (Bw.out.block w.heap.size hs1 (fun hf=>by have:=HFL.out _ hf;omega))).trans y2;have hrr:bS G wr r au:=HRA.out.keep (fun _ h=>h) (fun q hq=>(Bw.out.block q (by have:=(Ak.out q hq).1;omega) (Ak.out q hq).2).trans (hb0.block q (Ak.out q hq).1));have nA:Hid (bS G wr r au):=hrr;by_cases hlt:k<n
  ·have j4:k<es.length:=by rw[HEL.out];exact hlt
   have hrow:=ai l6.out (w':=wr) (fun g hg=>(Bw.out.block g (by have:=(Ak.out g (xH.out g hg)).1;omega) (Ak.out g (xH.out g hg)).2).trans (hb0.block g (Ak.out g (xH.out g hg)).1));obtain⟨gi,ci,Hh⟩:=ak hrow (by omega);have hai:=(Value.slice.inj Hh).1;subst hai;have KA:=ah hrow rfl;obtain⟨i0,i1,i2⟩:=bg (off:=0) (aQ hrow) j4;rw[Nat.zero_add] at i0 i1 i2;obtain⟨e,he⟩:∃e,e=es[k]:=⟨_,rfl⟩;rw[<-he] at i0 i1 i2;obtain⟨ha0,ha1⟩:=E3.out e (by rw[he];exact jk j4);have alp:=HNM.out e (by rw[he];exact jk j4);obtain⟨j,hj⟩:∃j:Nat,e.2.2=(j:Int):=⟨e.2.2.toNat,by omega⟩;rw[hj] at i2;have api:j<at_:=by omega
   have U5:Hid ((es.take (k+1)).foldl (dX au (gO au fuel) path) st=dX au (gO au fuel) path sk e):=by
    show _=_;rw[qY j4,List.foldl_append,<-HSK.out,<-he];rfl
   have YA:Hid (pg (dX au (gO au fuel) path sk e) (es.foldl (dX au (gO au fuel) path) st)):=by
    have e1:es=es.take (k+1)++es.drop (k+1):=(List.take_append_drop _ _).symm
    have:=wj au (gO au fuel) (wk au fuel) path (es.drop (k+1)) (dX au (gO au fuel) path sk e)
    show pg _ _;rw[<-U5.out] at this ⊢;rw[<-List.foldl_append,<-e1] at this;exact this
   have HJ:Hid (e.2.2=(j:Int)):=hj;have gP:(k:Int)<(n:Int):=by omega
   obtain⟨na,nc,da,dc,hst⟩:=HST.out;have k0:=hst.c0;have k1:=hst.c1;have GF:=hst.lt;have QZ:Hid (dF (bq F w1 wr) wr S na da nc dc sk.1 sk.2 rest):=hst;obtain⟨nn,Ap⟩:∃nn,nn=sk.1.length:=⟨_,rfl⟩;obtain⟨nd,zX⟩:∃nd,nd=sk.2.length:=⟨_,rfl⟩;have Ta:Hid (nn=sk.1.length):=Ap;have Gv:Hid (nd=sk.2.length):=zX;rw[<-Ap] at k0;rw[<-zX] at k1;have apj:nn<=1000000000/\nd<=1000000000:=by
    have g1:=vk au (gO au fuel) (wk au fuel) path sk e;have g2:=g1.trans YA.out
    have:=HB1.out
    exact⟨by have:=g2.1;omega,by have:=g2.2;omega⟩
   clear hrow Hh hst he hj Ap zX;obtain⟨pt,Tr⟩:∃pt,pt=jP path e.1:=⟨_,rfl⟩;have HPT:Hid (pt=jP path e.1):=Tr;have HIJ:Hid (wr.cell? ⟨gi,k*3+2,none⟩=some (.int .i64 (j:Int))):=i2;have YD:Hid (wr.ownsRow 0 200 3 (.slice na nn nc) nn (flat sk.1)):=by show World.ownsRow _ _ _ _ _ _ _;rw[Ta.out];exact QZ.out.jW
   have HK0:Hid (wr.cell? ⟨S,0,none⟩=some (.slice na nn nc)):=k0;have HK1:Hid (wr.cell? ⟨S,1,none⟩=some (.slice da nd dc)):=k1;clear i2 Tr q0 q1 q2 q3 r0 k0 k1 y2;go_upto_if 32 with fail
   go_cut [10] from 18 to 102 (fun sp wx=>sp=.string pt/\wx=wr)
   case first=>
    cases hpe:(path.toList == []) with
    | true=>
     have HP:Hid (pt=e.1):=by show _=_;rw[HPT.out];unfold jP;rw[aL (eq_of_beq hpe)]
     have hpi:(!path.toList.isEmpty)=false:=by rw[eq_of_beq hpe];rfl
     go_wp2_with fail
     all_goals first
      | (exfalso;rename (! _)=_=>Ge;rw[hpi] at Ge;cases Ge;done)
      | (go_meet;exact⟨by rw[HP.out],rfl⟩)
    | false=>
     have HP:Hid (pt=path++⟨#[47]⟩++e.1):=by show _=_;rw[HPT.out];unfold jP;rw[ay (beq_eq_false_iff_ne.1 hpe)]
     have hpi:(!path.toList.isEmpty)=true:=by
      cases hc:path.toList with
      | nil=>rw[hc] at hpe;cases hpe
      | cons _ _=>rfl
     go_wp2_with fail
     all_goals first
      | (exfalso;rename (! _)=_=>Ge;rw[hpi] at Ge;cases Ge;done)
      | (go_meet;exact⟨by rw[HP.out],rfl⟩)
   case rest=>
    obtain⟨rfl,hwc⟩:=hcut;have HWC:Hid (wc=wr):=hwc;rw[hwc];clear hwc;have HY2:Hid (wr.cell? ⟨w.heap.size,2,none⟩=some (.slice (some ⟨gi,0,none⟩) n ic)):=y2r;by_cases fM:e.2.1=1
    ·rw[fM] at i1
     have Oe:Hid (dX au (gO au fuel) path sk e=(sk.1 ++ [(pt,1,(nd:Int))],sk.2 ++ [wh au (j:Int)])):=by show _=_;unfold dX;rw[aL fM,<-HPT.out,HJ.out,Gv.out]
     clear fM;go_upto_region 8 with fail;have k0:=HK0.out;have k1:=HK1.out;clear i0 i1 y2r
     go_cut [] from 18 to 102 (fun wx=>Hid (b9 (bq F w1 wx) wx S (sk.1 ++ [(pt,1,(nd:Int))]) sk.2 rest/\ax F w1 wx))
     case first=>
      go_region_law (refine eO rfl (.tmp 48) (.tmp 56) 174 rfl 0 200 iN _ 3 32 underlying174 hiN hN0 hN1 hN2 rfl (by decide) (.slice na nn nc) nn (flat sk.1) (by simp[Act.eval]) (World.ownsRow.alloc (show (wr.drewN 1).ownsRow _ _ _ _ _ _ from YD.out) _) ⟨wr.heap.size,0,none⟩ 1 1 (bL (pt,1,(nd:Int))) (by simp[Act.eval]) rfl (bD (wr.drewN 1) (pt,1,(nd:Int)) _ _ rfl) (bJ _) (by unfold maxLen;omega) (by omega) (dG _) ?_;intro v4 w4 wZ MN qA;obtain⟨g4,c4,rfl⟩:=ak wZ (by omega);have Br:=dW QZ.out.hS (mO wr 1 _) (by simp) MN (aA YD.out QZ.out.hS (by decide));have p04:w4.cell? ⟨S,0,none⟩=some (.slice na sk.1.length nc):=(by simp[World.cell?,Br]);have f04:w4.frozen? ⟨S,0,none⟩=false:=(by simp[World.frozen?,Br]);have apk:S<w4.heap.size:=(cv GF (by have:=MN.size;simp at this;omega)))
      all_goals
       go_wp2_with fail;go_meet;exact U3 QZ.out Bw.out Ta.out wZ MN qA
     case rest=>
      rename World=>w5;obtain⟨⟨na2,nc2,da2,dc2,qG⟩,hk2⟩:=hcut.out;have IE:Hid (ax F w1 w5):=hk2;have XP:Hid (dF (bq F w1 w5) w5 S na2 da2 nc2 dc2 (sk.1 ++ [(pt,1,(nd:Int))]) sk.2 rest):=qG;have Ve:=qG.c1;have aeH:=qG.lt;rw[<-Gv.out] at Ve;have kb:∀q,G q->w5.heap[q]? = w.heap[q]?:=fun q hq=>(IE.out.block q (by have:=(Ak.out q hq).1;omega) (Ak.out q hq).2).trans (hb0.block q (Ak.out q hq).1);obtain⟨ra5,rc5,XQ⟩:=HRA.out.keep (w':=w5) (fun _ h=>h) kb;have r05:=XQ.c0;have apo:=XQ.lt;rw[<-HLL.out] at r05;have Gz:j<au.length:=by omega
      obtain⟨g5,Gu,apq,_,d1,_,_⟩:=j0 XQ.row rfl Gz;subst Gu;have HDA:Hid (wh au (j:Int)=au[j].data):=by show _=_;unfold wh;rw[Int.toNat_natCast,kO Gz];rfl
      obtain⟨dd,hdd⟩:∃dd,dd=au[j].data:=⟨_,rfl⟩;rw[<-hdd] at d1 HDA;have y25:w5.cell? ⟨w.heap.size,2,none⟩=some (.slice (some ⟨gi,0,none⟩) n ic):=(World.cell?_of_block (a:=⟨w.heap.size,2,none⟩) ((IE.out.block w.heap.size hs1 (fun hf=>by have:=HFL.out _ hf;omega)).trans (Bw.out.block w.heap.size hs1 (fun hf=>by have:=HFL.out _ hf;omega)).symm)).trans HY2.out;have CF:G gi:=xH.out gi rfl;have i25:w5.cell? ⟨gi,k*3+2,none⟩=some (.int .i64 (j:Int)):=(World.cell?_of_block (a:=⟨gi,k*3+2,none⟩) ((kb gi CF).trans ((Bw.out.block gi (by have:=(Ak.out gi CF).1;omega) (Ak.out gi CF).2).trans (hb0.block gi (Ak.out gi CF).1)).symm)).trans HIJ.out;have aje:gi<w5.heap.size:=by have:=(Ak.out gi CF).1;have:=IE.out.size;omega
      have aeI:w.heap.size<w5.heap.size:=by have:=IE.out.size;omega
      have hjL:(j:Int)<(L:Int):=(by omega);have Vr:Hid (w5.ownsRow 0 9 1 (.slice da2 nd dc2) nd (gM sk.2)):=by show World.ownsRow _ _ _ _ _ _ _;rw[Gv.out];exact qG.ny
      clear hcut qG hk2 XQ hdd k0 k1 GF;go_upto_region 9 with fail
      go_region_law (refine eO rfl (.tmp 64) (.tmp 78) 131 rfl 0 9 iS _ 1 16 underlying131 hiS GA hS1 yz rfl (by decide) (.slice da2 nd dc2) nd (gM sk.2) (by simp[Act.eval]) (World.ownsRow.alloc (show (w5.drewN 1).ownsRow _ _ _ _ _ _ from Vr.out) _) ⟨w5.heap.size,0,none⟩ 1 1 [.string dd] (by simp[Act.eval]) rfl (one_cell (w5.drewN 1) _ _ _ rfl) Aw (by unfold maxLen;omega) (by omega) (dG _) ?_;intro v6 w6 eL Gs JD;obtain⟨g6,c6,rfl⟩:=ak eL (by omega);have Db:=dW XP.out.hS (mO w5 1 _) (by simp) Gs (aA Vr.out XP.out.hS (by decide));have p16:w6.cell? ⟨S,1,none⟩=some (.slice da2 sk.2.length dc2):=(by simp[World.cell?,Db]);have f16:w6.frozen? ⟨S,1,none⟩=false:=(by simp[World.frozen?,Db]);have ajf:S<w6.heap.size:=(cv aeH (by have:=Gs.size;simp at this;omega)))
      all_goals
       go_wp2_with fail;refine⟨⟨k+1,dX au (gO au fuel) path sk e,by omega,by go_num,U5.out.symm,?_,?_⟩,by simp[intOf];omega⟩
       ·show b9 _ _ _ _ _ _
        rw[Oe.out,HDA.out];exact (EI XP.out IE.out Gv.out eL Gs JD).1
       ·exact (EI XP.out IE.out Gv.out eL Gs JD).2
    ·have We:(e.2.1 == 1)=false:=by simp[fM]
     have Oe:Hid (dX au (gO au fuel) path sk e=gO au fuel j pt (sk.1 ++ [(pt,2,0)],sk.2)):=by show _=_;unfold dX;rw[ay fM,HJ.out,Int.toNat_natCast,<-HPT.out]
     have k0:=HK0.out;go_upto_region 10 with fail
     go_cut [] from 18 to 102 (fun wx=>Hid (b9 (bq F w1 wx) wx S (sk.1 ++ [(pt,2,0)]) sk.2 rest/\ax F w1 wx))
     case first=>
      go_wp2_with (at_builtin;refine aY rfl (.tmp 86) (.tmp 89) 174 rfl 0 200 iN _ 3 32 underlying174 hiN hN0 hN1 hN2 rfl (by decide) (.slice na nn nc) nn (flat sk.1) rfl (World.ownsRow.alloc YD.out _) ⟨wr.heap.size,0,none⟩ 1 1 (bL (pt,2,0)) rfl rfl (bD wr (pt,2,0) _ _ rfl) (bJ _) (by unfold maxLen;omega) (by omega) (dG _) ?_);intro v3 w3 wM hg3 kG;obtain⟨g3,c3,rfl⟩:=ak wM (by omega);have yz:=QZ.out.hS;have hW3:=dW yz (bh _ _) (by simp) hg3 (aA YD.out yz (by decide));have hs3:wr.heap.size<=w3.heap.size:=by have:=hg3.size;simp at this;omega
      have p03:w3.cell? ⟨S,0,none⟩=some (.slice na nn nc):=by rw[Ta.out];simp[World.cell?,hW3]
      have f03:w3.frozen? ⟨S,0,none⟩=false:=(by simp[World.frozen?,hW3]);have acO:S<w3.heap.size:=by omega
      have nP:Hid _:=QY QZ.out Bw.out Ta.out wM hg3 kG;clear wM hg3 kG hW3 yz;go_wp2_with fail;go_meet;exact nP.out
     case rest=>
      rename World=>w5;obtain⟨qG,hk2⟩:=hcut.out;have IE:Hid (ax F w1 w5):=hk2;have kb:∀q,G q->w5.heap[q]? = w.heap[q]?:=fun q hq=>(IE.out.block q (by have:=(Ak.out q hq).1;omega) (Ak.out q hq).2).trans (hb0.block q (Ak.out q hq).1);have hs5:w1.heap.size<=w5.heap.size:=IE.out.size;have y25:w5.cell? ⟨w.heap.size,2,none⟩=some (.slice (some ⟨gi,0,none⟩) n ic):=(World.cell?_of_block (a:=⟨w.heap.size,2,none⟩) ((IE.out.block w.heap.size hs1 (fun hf=>by have:=HFL.out _ hf;omega)).trans (Bw.out.block w.heap.size hs1 (fun hf=>by have:=HFL.out _ hf;omega)).symm)).trans HY2.out;have CF:G gi:=xH.out gi rfl;have i25:w5.cell? ⟨gi,k*3+2,none⟩=some (.int .i64 (j:Int)):=(World.cell?_of_block (a:=⟨gi,k*3+2,none⟩) ((kb gi CF).trans ((Bw.out.block gi (by have:=(Ak.out gi CF).1;omega) (Ak.out gi CF).2).trans (hb0.block gi (Ak.out gi CF).1)).symm)).trans HIJ.out;have aje:gi<w5.heap.size:=by have:=(Ak.out gi CF).1;omega
      have aeI:w.heap.size<w5.heap.size:=(by omega);have HC5:Hid (Calls prog 89 #[.pointer (some ⟨S,0,none⟩),.pointer (some ⟨r,0,none⟩),.int .i64 (j:Int),.string pt] w5 fun e' w'=>e'=.returned (.tuple #[])/\b9 (bq (bq F w1 w5) w5 w') w' S (gO au fuel j pt (sk.1 ++ [(pt,2,0)],sk.2)).1 (gO au fuel j pt (sk.1 ++ [(pt,2,0)],sk.2)).2 rest/\ax (bq F w1 w5) w5 w'):=by
       have hB:=HB1.out;have hG:=YA.out;rw[Oe.out] at hG;have hpz:=Gr path e.1;rw[<-HPT.out] at hpz;refine HIH.out j pt (sk.1 ++ [(pt,2,0)],sk.2) (bq F w1 w5) G w5 (by omega) (by omega) (by omega) (eU hG.1 hB.1) (eU hG.2 hB.2) qG (HRA.out.keep (fun _ h=>h) kb) (fun q hq=>⟨by have:=(Ak.out q hq).1;omega,?_⟩) (fun q hq=>?_)
       ·rintro (h | ⟨h,_⟩)
        ·exact (Ak.out q hq).2 h
        ·have:=(Ak.out q hq).1;omega
       ·rcases hq with h | ⟨_,h⟩
        ·have:=HFL.out q h;omega
        ·exact h
      clear hcut qG hk2 k0 GF y2r i0 i1 fM We;go_wp2_with fail;refine Calls.mono HC5.out ?_;rintro _ w6 ⟨rfl,MO,hk6⟩;have nP:Hid (b9 (bq F w1 w6) w6 S (gO au fuel j pt (sk.1 ++ [(pt,2,0)],sk.2)).1 (gO au fuel j pt (sk.1 ++ [(pt,2,0)],sk.2)).2 rest/\ax F w1 w6):=⟨MO.CD (fun q hq=>ig IE.out.size hk6.size hq),dr IE.out hk6⟩;clear MO hk6;go_wp2;refine⟨⟨k+1,dX au (gO au fuel) path sk e,by omega,by go_num,U5.out.symm,?_,nP.out.2⟩,by simp[intOf];omega⟩;show b9 _ _ _ _ _ _;rw[Oe.out];exact nP.out.1
  ·have gP:k=n:=by omega
   subst gP;have hdk:decide ((k:Int)<(k:Int))=false:=by simp
   have nP:Hid (b9 (bq F w wr) wr S (gO au (fuel+1) at_ path st).1 (gO au (fuel+1) at_ path st).2 rest/\ax F w wr):=by
    have e1:=HSK.out;rw[List.take_of_length_le (by rw[HEL.out];exact bA _),<-HE.out] at e1;rw[<-e1];exact⟨HST.out.CD (fun q hq=>by rcases hq with h | h;exact .inl h;exact .inr ⟨by omega,h.2⟩),ax.after Bw.out hb0⟩
   have aeI:w.heap.size<wr.heap.size:=by omega
   go_wp2;go_end0;exact⟨rfl,nP.out⟩
theorem XR (au:List Ob)(rest:List Value)(S r:Nat)(hat:iM au)(sB:∀o ∈ au,∀e ∈ o.aV,e.1.size<=12):∀(fuel at_:Nat) (path:ByteArray) (st:St) (F G:Nat->Prop) (w:World),at_<fuel->at_<au.length->path.size+13*fuel<=100000->
  (gO au fuel at_ path st).1.length<=1000000000->(gO au fuel at_ path st).2.length<=1000000000->b9 F w S st.1 st.2 rest->bS G w r au->(∀k,G k->k<w.heap.size/\¬F k)->(∀k,F k->k<w.heap.size)->
  Calls prog 89 #[.pointer (some ⟨S,0,none⟩),.pointer (some ⟨r,0,none⟩),.int .i64 (at_:Int),.string path] w fun e w'=>e=.returned (.tuple #[])/\b9 (bq F w w') w' S (gO au fuel at_ path st).1 (gO au fuel at_ path st).2 rest/\ax F w w':=by
 intro fuel
 induction fuel with
 | zero=>intro at_ path st F G w h;exact absurd h (Nat.not_lt_zero _)
 | succ fuel ih=>exact U4 au rest S r hat sB fuel ih
end Go.Proofs.YtlgidcmmgohagaaGreat
