/- What is proved here: the oH own uv. -/
import Derived.Test.YtlgidcmmgohagaaGreatTreeM30
import Derived.Deep.Cut
import Derived.Deep.CutRange
namespace Go.Proofs.YtlgidcmmgohagaaGreat
open Go.RowKit Go.Sort Go.Shelf Go.Proofs.Tryz
set_option linter.unusedVariables false
set_option maxRecDepth 100000
set_option maxHeartbeats 16000000
section
variable {F:Nat->Prop}{w:World}{S:Nat}{na da:Option Addr}{nc dc:Nat}{nodes:List aK}{data:List ByteArray}{rest:List Value}
theorem dF.aeA (h:dF F w S na da nc dc nodes data rest){w':World}{g cap':Nat}{x:ByteArray}(P:w'.heap[S]? = some (.cells ((Value.slice na nodes.length nc :: Value.slice da data.length dc :: rest).toArray.setIfInBounds 1 (.slice (some ⟨g,0,none⟩) (data.length+1) cap')) 179 (0,0))/\
   w'.ownsRow 0 9 1 (.slice (some ⟨g,0,none⟩) (data.length+1) cap') (data.length+1) (gM data ++ [.string x])/\((some g:Option Nat)=(Value.slice da data.length dc).ownBlock\/w.heap.size<=g)/\ax (fun k=>k=S\/some k=(Value.slice da data.length dc).ownBlock) w w'):
  b9 (bq F w w') w' S nodes (data ++ [x]) rest/\ax F w w':=by
 obtain⟨p1,p2,p3,p4⟩:=P;have hl:(data ++ [x]).length=data.length+1:=by simp
 refine⟨⟨na,nc,some ⟨g,0,none⟩,cap',⟨.inl h.fS,?_,?_,?_,?_,?_⟩⟩,qw p4 h.fS h.fd⟩
 ·rw[hl,p1];simp
 ·exact jc h.jW p4 h.hS (by decide) (fun g hg=>cS h.jW h.ny (by decide) hg)
 ·rw[hl];simpa [gM] using p2
 ·intro g hg;exact .inl (h.fn g hg)
 ·rw[hl];exact wK p2 p3 h.fd
end
theorem b9.CC {F F':Nat->Prop}{w:World}{S:Nat}{nodes:List aK}{data:List ByteArray}{rest:List Value}(h:b9 F w S nodes data rest)(hF:∀k,F k->F' k):b9 F' w S nodes data rest:=by
 obtain⟨na,nc,da,dc,h⟩:=h;exact⟨na,nc,da,dc,h.keep hF (fun _ _=>rfl)⟩
theorem U1 {F:Nat->Prop}{w1 wr w4:World}{S:Nat}{na da:Option Addr}{nc dc nn g4 c4 b:Nat}{ns:List aK}{ds:List ByteArray}{rest:List Value}{x:aK}{o:Obj}{q:Nat}(h:dF (bq F w1 wr) wr S na da nc dc ns ds rest)(hk:ax F w1 wr)(hn:nn=ns.length)
  (hown:w4.ownsRow 0 200 3 (.slice (some ⟨g4,0,none⟩) (nn+1) c4) (nn+1) (flat ns++bL x))(hg:((wr.drewN q).alloc o).grownBy w4 (Value.slice na nn nc).ownBlock)(hloc:(Value.slice (some ⟨g4,0,none⟩) (nn+1) c4).ownBlock=(Value.slice na nn nc).ownBlock\/(Value.slice (some ⟨g4,0,none⟩) (nn+1) c4).ownBlock=some b)(hb:wr.heap.size<=b:=by simp):
  b9 (bq F w1 (w4.setCell ⟨S,0,none⟩ (.slice (some ⟨g4,0,none⟩) (nn+1) c4))) (w4.setCell ⟨S,0,none⟩ (.slice (some ⟨g4,0,none⟩) (nn+1) c4)) S (ns ++ [x]) ds rest/\ax F w1 (w4.setCell ⟨S,0,none⟩ (.slice (some ⟨g4,0,none⟩) (nn+1) c4)):=by
 subst hn;have P:=cq (i:=0) h.hS h.jW (by decide) (mO wr q o) (by simp) ⟨rfl,rfl,rfl⟩ hown hg hloc hb;obtain⟨Ab,hk2⟩:=h.push P;have hk3:=dr hk hk2;exact⟨Ab.CC (fun k dy=>ig hk.size hk2.size dy),hk3⟩
theorem EH {F:Nat->Prop}{w1 wr w4:World}{S:Nat}{na da:Option Addr}{nc dc nd g4 c4 b:Nat}{ns:List aK}{ds:List ByteArray}{rest:List Value}{x:ByteArray}{o:Obj}{q:Nat}(h:dF (bq F w1 wr) wr S na da nc dc ns ds rest)(hk:ax F w1 wr)(hn:nd=ds.length)
  (hown:w4.ownsRow 0 9 1 (.slice (some ⟨g4,0,none⟩) (nd+1) c4) (nd+1) (gM ds ++ [.string x]))(hg:((wr.drewN q).alloc o).grownBy w4 (Value.slice da nd dc).ownBlock)(hloc:(Value.slice (some ⟨g4,0,none⟩) (nd+1) c4).ownBlock=(Value.slice da nd dc).ownBlock\/(Value.slice (some ⟨g4,0,none⟩) (nd+1) c4).ownBlock=some b)(hb:wr.heap.size<=b:=by simp):
  b9 (bq F w1 (w4.setCell ⟨S,1,none⟩ (.slice (some ⟨g4,0,none⟩) (nd+1) c4))) (w4.setCell ⟨S,1,none⟩ (.slice (some ⟨g4,0,none⟩) (nd+1) c4)) S ns (ds ++ [x]) rest/\ax F w1 (w4.setCell ⟨S,1,none⟩ (.slice (some ⟨g4,0,none⟩) (nd+1) c4)):=by
 subst hn;have P:=cq (i:=1) h.hS h.ny (by decide) (mO wr q o) (by simp) ⟨rfl,rfl,rfl⟩ hown hg hloc hb;obtain⟨Ab,hk2⟩:=h.aeA P;have hk3:=dr hk hk2;exact⟨Ab.CC (fun k dy=>ig hk.size hk2.size dy),hk3⟩
theorem QW {F:Nat->Prop}{w1 wr w4:World}{S:Nat}{na da:Option Addr}{nc dc nn g4 c4 b:Nat}{ns:List aK}{ds:List ByteArray}{rest:List Value}{x:aK}{o:Obj}(h:dF (bq F w1 wr) wr S na da nc dc ns ds rest)(hk:ax F w1 wr)(hn:nn=ns.length)
  (hown:w4.ownsRow 0 200 3 (.slice (some ⟨g4,0,none⟩) (nn+1) c4) (nn+1) (flat ns++bL x))(hg:(wr.alloc o).grownBy w4 (Value.slice na nn nc).ownBlock)(hloc:(Value.slice (some ⟨g4,0,none⟩) (nn+1) c4).ownBlock=(Value.slice na nn nc).ownBlock\/(Value.slice (some ⟨g4,0,none⟩) (nn+1) c4).ownBlock=some b)(hb:wr.heap.size<=b:=by simp):
  b9 (bq F w1 (w4.setCell ⟨S,0,none⟩ (.slice (some ⟨g4,0,none⟩) (nn+1) c4))) (w4.setCell ⟨S,0,none⟩ (.slice (some ⟨g4,0,none⟩) (nn+1) c4)) S (ns ++ [x]) ds rest/\ax F w1 (w4.setCell ⟨S,0,none⟩ (.slice (some ⟨g4,0,none⟩) (nn+1) c4)):=by
 subst hn;have P:=cq (i:=0) h.hS h.jW (by decide) (bh wr o) (by simp) ⟨rfl,rfl,rfl⟩ hown hg hloc hb;obtain⟨Ab,hk2⟩:=h.push P;have hk3:=dr hk hk2;exact⟨Ab.CC (fun k dy=>ig hk.size hk2.size dy),hk3⟩
theorem Gq (path name:ByteArray):(jP path name).size<=path.size+1+name.size:=by
 unfold jP;split
 ·omega
 ·rw[ByteArray.size_append,ByteArray.size_append];exact bA _
def YL (au:List Ob)(rest:List Value)(S r fuel:Nat):Prop:=∀(at_:Nat) (path:ByteArray) (st:St) (F G:Nat->Prop) (w:World),at_<fuel->at_<au.length->path.size+13*fuel<=100000->
  (gO au fuel at_ path st).1.length<=1000000000->(gO au fuel at_ path st).2.length<=1000000000->b9 F w S st.1 st.2 rest->bS G w r au->(∀k,G k->k<w.heap.size/\¬F k)->(∀k,F k->k<w.heap.size)->
  Calls prog 89 #[.pointer (some ⟨S,0,none⟩),.pointer (some ⟨r,0,none⟩),.int .i64 (at_:Int),.string path] w fun e w'=>e=.returned (.tuple #[])/\b9 (bq F w w') w' S (gO au fuel at_ path st).1 (gO au fuel at_ path st).2 rest/\ax F w w'
theorem U2 (au:List Ob)(rest:List Value)(S r:Nat)(hat:iM au)(sA:∀o ∈ au,∀e ∈ o.aV,e.1.size<=12)(fuel:Nat)(IH:YL au rest S r fuel):YL au rest S r (fuel+1):=by
 intro at_ path st F G w hfu QS hps hb1 hb2 Ab CJ Ni Zf;obtain⟨iN,hiN,hN0,hN1,hN2⟩:=info_parts tC;obtain⟨iS,hiS,Gz,hS1,yy⟩:=info_parts tq;obtain⟨ra,Sh,qd⟩:=CJ;have r0:=qd.c0;have uS:=qd.lt;have hrm:=qd.many;obtain⟨gr,xR,agr,q0,q1,q2,q3⟩:=j0 qd.row rfl QS;subst xR;have pG:=qd.zZ _ (jk QS);obtain⟨es,hes⟩:∃es,es=au[at_].aV:=⟨_,rfl⟩;have RF:es.length=au[at_].el:=by rw[hes];exact pG.len
 have Fm:au[at_].el<=16:=pG.few;have HE:Hid (gO au (fuel+1) at_ path st=es.foldl (dX au (gO au fuel) path) st):=by
  show _=_;simp only[gO,AH,kO QS,Option.map_some,Option.getD_some];rw[hes]
 have E2:Hid (∀e ∈ es,0<=e.2.2/\e.2.2<(at_:Int)):=by rw[hes];exact hat at_ QS
 have HNM:Hid (∀e ∈ es,e.1.size<=12):=by rw[hes];exact sA _ (jk QS)
 have HRA:Hid (bS G w r au):=⟨_,_,qd⟩;have Aj:Hid (∀k,G k->k<w.heap.size/\¬F k):=Ni;have HSI:Hid (b9 F w S st.1 st.2 rest):=Ab;have HFL:Hid (∀k,F k->k<w.heap.size):=Zf;have HIH:Hid _:=IH;have HB1:Hid ((es.foldl (dX au (gO au fuel) path) st).1.length<=1000000000/\(es.foldl (dX au (gO au fuel) path) st).2.length<=1000000000):=by rw[<-HE.out];exact⟨hb1,hb2⟩
 have l6:Hid (w.ownsRow 0 112 3 (.slice au[at_].ea au[at_].el au[at_].ec) au[at_].el (flat es)):=by rw[hes];exact pG.row
 have xG:Hid (∀g,(Value.slice au[at_].ea au[at_].el au[at_].ec).ownBlock=some g->G g):=pG.own;obtain⟨n,hn⟩:∃n,n=au[at_].el:=⟨_,rfl⟩;obtain⟨ia,hia⟩:∃ia,ia=au[at_].ea:=⟨_,rfl⟩;obtain⟨ic,hic⟩:∃ic,ic=au[at_].ec:=⟨_,rfl⟩;obtain⟨okd,XB⟩:∃k,k=au[at_].kind:=⟨_,rfl⟩;obtain⟨oda,aeB⟩:∃k,k=au[at_].data:=⟨_,rfl⟩;obtain⟨ohi,aeC⟩:∃k,k=au[at_].high:=⟨_,rfl⟩;rw[<-hn,<-hia,<-hic] at l6 xG q2;rw[<-hn] at RF Fm;rw[<-XB] at q0;rw[<-aeB] at q1;rw[<-aeC] at q3;have HEL:Hid (es.length=n):=RF;obtain⟨L,hL⟩:∃L,L=au.length:=⟨_,rfl⟩;have HLL:Hid (L=au.length):=hL;rw[<-hL] at r0 hrm;have ape:(at_:Int)<(L:Int):=by omega
 clear IH Zf qd pG hes RF Ab Ni hn hia hic XB aeB aeC hL;go_enter func89,ntmps89;go_wp2;obtain⟨B,hB⟩:∃B:Obj,B=.cells #[.int .i64 okd,.string oda,.slice ia n ic,.int .i64 ohi] 108:=⟨_,rfl⟩;obtain⟨w1,jb⟩:∃w1,w1=w.alloc B:=⟨_,rfl⟩;have hb0:Below w.heap.size w w1:=by rw[jb];exact (Below.refl _ _).alloc (bA _) B
 have y2:w1.cell? ⟨w.heap.size,2,none⟩=some (.slice ia n ic):=by rw[jb,hB];simp
 have hs1:w.heap.size<w1.heap.size:=by rw[jb];simp
 rw[<-hB,<-jb];clear hB jb;have ai8:Hid (b9 F w1 S st.1 st.2 rest):=by
  obtain⟨na,nc,da,dc,h⟩:=HSI.out;exact⟨na,nc,da,dc,h.below hb0⟩
 go_loopw [9] (fun i wr=>∃(k:Nat) (sk:St),k<=n/\i=.int .i64 (k:Int)/\Hid (sk=(es.take k).foldl (dX au (gO au fuel) path) st)/\Hid (b9 (bq F w1 wr) wr S sk.1 sk.2 rest)/\Hid (ax F w1 wr)) (fun i _=>n-(intOf i).toNat)
 case atStart=>exact⟨0,st,dG _,rfl,rfl,ai8.out.CC (fun _ h=>.inl h),ax.refl _⟩
 case round=>
  obtain⟨k,sk,hk,rfl,HSK,HST,Bv⟩:=hrel;have ql:w1.heap.size<=wr.heap.size:=Bv.out.size;have y2r:wr.cell? ⟨w.heap.size,2,none⟩=some (.slice ia n ic):=(World.cell?_of_block (a:=⟨w.heap.size,2,none⟩) (Bv.out.block w.heap.size hs1 (fun hf=>by have:=HFL.out _ hf;omega))).trans y2;have hrr:bS G wr r au:=HRA.out.keep (fun _ h=>h) (fun q hq=>(Bv.out.block q (by have:=(Aj.out q hq).1;omega) (Aj.out q hq).2).trans (hb0.block q (Aj.out q hq).1));have nA:Hid (bS G wr r au):=hrr;by_cases hlt:k<n
  ·have j4:k<es.length:=by rw[HEL.out];exact hlt
   have hrow:=ai l6.out (w':=wr) (fun g hg=>(Bv.out.block g (by have:=(Aj.out g (xG.out g hg)).1;omega) (Aj.out g (xG.out g hg)).2).trans (hb0.block g (Aj.out g (xG.out g hg)).1));obtain⟨gi,ci,Hg⟩:=ak hrow (by omega);have hai:=(Value.slice.inj Hg).1;subst hai;have Kz:=ah hrow rfl;obtain⟨i0,i1,i2⟩:=bg (off:=0) (aQ hrow) j4;rw[Nat.zero_add] at i0 i1 i2;obtain⟨e,he⟩:∃e,e=es[k]:=⟨_,rfl⟩;rw[<-he] at i0 i1 i2;obtain⟨ha0,ha1⟩:=E2.out e (by rw[he];exact jk j4);have alm:=HNM.out e (by rw[he];exact jk j4);obtain⟨j,hj⟩:∃j:Nat,e.2.2=(j:Int):=⟨e.2.2.toNat,by omega⟩;rw[hj] at i2;have apf:j<at_:=by omega
   have U3:Hid ((es.take (k+1)).foldl (dX au (gO au fuel) path) st=dX au (gO au fuel) path sk e):=by
    show _=_;rw[qX j4,List.foldl_append,<-HSK.out,<-he];rfl
   have Yy:Hid (o8 (dX au (gO au fuel) path sk e) (es.foldl (dX au (gO au fuel) path) st)):=by
    have e1:es=es.take (k+1)++es.drop (k+1):=(List.take_append_drop _ _).symm
    have:=wh au (gO au fuel) (wj au fuel) path (es.drop (k+1)) (dX au (gO au fuel) path sk e)
    show o8 _ _;rw[<-U3.out] at this ⊢;rw[<-List.foldl_append,<-e1] at this;exact this
   have HJ:Hid (e.2.2=(j:Int)):=hj;have gP:(k:Int)<(n:Int):=by omega
   obtain⟨na,nc,da,dc,hst⟩:=HST.out;have k0:=hst.c0;have k1:=hst.c1;have GD:=hst.lt;have QX:Hid (dF (bq F w1 wr) wr S na da nc dc sk.1 sk.2 rest):=hst;obtain⟨nn,Ao⟩:∃nn,nn=sk.1.length:=⟨_,rfl⟩;obtain⟨nd,zW⟩:∃nd,nd=sk.2.length:=⟨_,rfl⟩;have S8:Hid (nn=sk.1.length):=Ao;have Gu:Hid (nd=sk.2.length):=zW;rw[<-Ao] at k0;rw[<-zW] at k1;have apg:nn<=1000000000/\nd<=1000000000:=by
    have g1:=vh au (gO au fuel) (wj au fuel) path sk e;have g2:=g1.trans Yy.out
    have:=HB1.out
    exact⟨by have:=g2.1;omega,by have:=g2.2;omega⟩
   clear hrow Hg hst he hj Ao zW;obtain⟨pt,Tp⟩:∃pt,pt=jP path e.1:=⟨_,rfl⟩;have HPT:Hid (pt=jP path e.1):=Tp;have HIJ:Hid (wr.cell? ⟨gi,k*3+2,none⟩=some (.int .i64 (j:Int))):=i2;have YB:Hid (wr.ownsRow 0 200 3 (.slice na nn nc) nn (flat sk.1)):=by show World.ownsRow _ _ _ _ _ _ _;rw[S8.out];exact QX.out.jW
   have HK0:Hid (wr.cell? ⟨S,0,none⟩=some (.slice na nn nc)):=k0;have HK1:Hid (wr.cell? ⟨S,1,none⟩=some (.slice da nd dc)):=k1;clear i2 Tp q0 q1 q2 q3 r0 k0 k1 y2;go_upto_if 32 with fail
   go_cut [10] from 18 to 102 (fun sp wx=>sp=.string pt/\wx=wr)
   case first=>
    cases hpe:(path.toList == []) with
    | true=>
     have HP:Hid (pt=e.1):=by show _=_;rw[HPT.out];unfold jP;rw[aL (eq_of_beq hpe)]
     have hpi:(!path.toList.isEmpty)=false:=by rw[eq_of_beq hpe];rfl
     go_wp2_with fail
     all_goals first
      | (exfalso;rename (! _)=_=>Gd;rw[hpi] at Gd;cases Gd;done)
      | (go_meet;exact⟨by rw[HP.out],rfl⟩)
    | false=>
     have HP:Hid (pt=path++⟨#[47]⟩++e.1):=by show _=_;rw[HPT.out];unfold jP;rw[ay (beq_eq_false_iff_ne.1 hpe)]
     have hpi:(!path.toList.isEmpty)=true:=by
      cases hc:path.toList with
      | nil=>rw[hc] at hpe;cases hpe
      | cons _ _=>rfl
     go_wp2_with fail
     all_goals first
      | (exfalso;rename (! _)=_=>Gd;rw[hpi] at Gd;cases Gd;done)
      | (go_meet;exact⟨by rw[HP.out],rfl⟩)
   case rest=>
    obtain⟨rfl,hwc⟩:=hcut;have HWC:Hid (wc=wr):=hwc;rw[hwc];clear hwc;have HY2:Hid (wr.cell? ⟨w.heap.size,2,none⟩=some (.slice (some ⟨gi,0,none⟩) n ic)):=y2r;by_cases fM:e.2.1=1
    ·rw[fM] at i1
     have Od:Hid (dX au (gO au fuel) path sk e=(sk.1 ++ [(pt,1,(nd:Int))],sk.2 ++ [vZ au (j:Int)])):=by show _=_;unfold dX;rw[aL fM,<-HPT.out,HJ.out,Gu.out]
     clear fM;go_upto_region 8 with fail;have k0:=HK0.out;have k1:=HK1.out;clear i0 i1 y2r
     go_cut [] from 18 to 102 (fun wx=>Hid (b9 (bq F w1 wx) wx S (sk.1 ++ [(pt,1,(nd:Int))]) sk.2 rest/\ax F w1 wx))
     case first=>
      go_region_law (refine eO rfl (.tmp 48) (.tmp 56) 174 rfl 0 200 iN _ 3 32 underlying174 hiN hN0 hN1 hN2 rfl (by decide) (.slice na nn nc) nn (flat sk.1) (by simp[Act.eval]) (World.ownsRow.alloc (show (wr.drewN 1).ownsRow _ _ _ _ _ _ from YB.out) _) ⟨wr.heap.size,0,none⟩ 1 1 (bL (pt,1,(nd:Int))) (by simp[Act.eval]) rfl (bD (wr.drewN 1) (pt,1,(nd:Int)) _ _ rfl) (bJ _) (by unfold maxLen;omega) (by omega) (dG _) ?_;intro v4 w4 wY MM qz;obtain⟨g4,c4,rfl⟩:=ak wY (by omega);have Bq:=dW QX.out.hS (mO wr 1 _) (by simp) MM (aA YB.out QX.out.hS (by decide));have p04:w4.cell? ⟨S,0,none⟩=some (.slice na sk.1.length nc):=(by simp[World.cell?,Bq]);have f04:w4.frozen? ⟨S,0,none⟩=false:=(by simp[World.frozen?,Bq]);have aph:S<w4.heap.size:=(cv GD (by have:=MM.size;simp at this;omega)))
      all_goals
       go_wp2_with fail;go_meet;exact U1 QX.out Bv.out S8.out wY MM qz
     case rest=>
      rename World=>w5;obtain⟨⟨na2,nc2,da2,dc2,qF⟩,hk2⟩:=hcut.out;have ID:Hid (ax F w1 w5):=hk2;have XN:Hid (dF (bq F w1 w5) w5 S na2 da2 nc2 dc2 (sk.1 ++ [(pt,1,(nd:Int))]) sk.2 rest):=qF;have Vc:=qF.c1;have aeE:=qF.lt;rw[<-Gu.out] at Vc;have kb:∀q,G q->w5.heap[q]? = w.heap[q]?:=fun q hq=>(ID.out.block q (by have:=(Aj.out q hq).1;omega) (Aj.out q hq).2).trans (hb0.block q (Aj.out q hq).1);obtain⟨ra5,rc5,XO⟩:=HRA.out.keep (w':=w5) (fun _ h=>h) kb;have r05:=XO.c0;have apl:=XO.lt;rw[<-HLL.out] at r05;have Gy:j<au.length:=by omega
      obtain⟨g5,Gt,apm,_,d1,_,_⟩:=j0 XO.row rfl Gy;subst Gt;have HDA:Hid (vZ au (j:Int)=au[j].data):=by show _=_;unfold vZ;rw[Int.toNat_natCast,kO Gy];rfl
      obtain⟨dd,hdd⟩:∃dd,dd=au[j].data:=⟨_,rfl⟩;rw[<-hdd] at d1 HDA;have y25:w5.cell? ⟨w.heap.size,2,none⟩=some (.slice (some ⟨gi,0,none⟩) n ic):=(World.cell?_of_block (a:=⟨w.heap.size,2,none⟩) ((ID.out.block w.heap.size hs1 (fun hf=>by have:=HFL.out _ hf;omega)).trans (Bv.out.block w.heap.size hs1 (fun hf=>by have:=HFL.out _ hf;omega)).symm)).trans HY2.out;have CD:G gi:=xG.out gi rfl;have i25:w5.cell? ⟨gi,k*3+2,none⟩=some (.int .i64 (j:Int)):=(World.cell?_of_block (a:=⟨gi,k*3+2,none⟩) ((kb gi CD).trans ((Bv.out.block gi (by have:=(Aj.out gi CD).1;omega) (Aj.out gi CD).2).trans (hb0.block gi (Aj.out gi CD).1)).symm)).trans HIJ.out;have ajb:gi<w5.heap.size:=by have:=(Aj.out gi CD).1;have:=ID.out.size;omega
      have aeF:w.heap.size<w5.heap.size:=by have:=ID.out.size;omega
      have hjL:(j:Int)<(L:Int):=(by omega);have Vp:Hid (w5.ownsRow 0 9 1 (.slice da2 nd dc2) nd (gM sk.2)):=by show World.ownsRow _ _ _ _ _ _ _;rw[Gu.out];exact qF.ny
      clear hcut qF hk2 XO hdd k0 k1 GD;go_upto_region 9 with fail
      go_region_law (refine eO rfl (.tmp 64) (.tmp 78) 131 rfl 0 9 iS _ 1 16 underlying131 hiS Gz hS1 yy rfl (by decide) (.slice da2 nd dc2) nd (gM sk.2) (by simp[Act.eval]) (World.ownsRow.alloc (show (w5.drewN 1).ownsRow _ _ _ _ _ _ from Vp.out) _) ⟨w5.heap.size,0,none⟩ 1 1 [.string dd] (by simp[Act.eval]) rfl (one_cell (w5.drewN 1) _ _ _ rfl) Av (by unfold maxLen;omega) (by omega) (dG _) ?_;intro v6 w6 eL Gr JC;obtain⟨g6,c6,rfl⟩:=ak eL (by omega);have Da:=dW XN.out.hS (mO w5 1 _) (by simp) Gr (aA Vp.out XN.out.hS (by decide));have p16:w6.cell? ⟨S,1,none⟩=some (.slice da2 sk.2.length dc2):=(by simp[World.cell?,Da]);have f16:w6.frozen? ⟨S,1,none⟩=false:=(by simp[World.frozen?,Da]);have ajc:S<w6.heap.size:=(cv aeE (by have:=Gr.size;simp at this;omega)))
      all_goals
       go_wp2_with fail;refine⟨⟨k+1,dX au (gO au fuel) path sk e,by omega,by go_num,U3.out.symm,?_,?_⟩,by simp[intOf];omega⟩
       ·show b9 _ _ _ _ _ _
        rw[Od.out,HDA.out];exact (EH XN.out ID.out Gu.out eL Gr JC).1
       ·exact (EH XN.out ID.out Gu.out eL Gr JC).2
    ·have Wc:(e.2.1 == 1)=false:=by simp[fM]
     have Od:Hid (dX au (gO au fuel) path sk e=gO au fuel j pt (sk.1 ++ [(pt,2,0)],sk.2)):=by show _=_;unfold dX;rw[ay fM,HJ.out,Int.toNat_natCast,<-HPT.out]
     have k0:=HK0.out;go_upto_region 10 with fail
     go_cut [] from 18 to 102 (fun wx=>Hid (b9 (bq F w1 wx) wx S (sk.1 ++ [(pt,2,0)]) sk.2 rest/\ax F w1 wx))
     case first=>
      go_wp2_with (at_builtin;refine aY rfl (.tmp 86) (.tmp 89) 174 rfl 0 200 iN _ 3 32 underlying174 hiN hN0 hN1 hN2 rfl (by decide) (.slice na nn nc) nn (flat sk.1) rfl (World.ownsRow.alloc YB.out _) ⟨wr.heap.size,0,none⟩ 1 1 (bL (pt,2,0)) rfl rfl (bD wr (pt,2,0) _ _ rfl) (bJ _) (by unfold maxLen;omega) (by omega) (dG _) ?_);intro v3 w3 wL hg3 kG;obtain⟨g3,c3,rfl⟩:=ak wL (by omega);have yy:=QX.out.hS;have hW3:=dW yy (bh _ _) (by simp) hg3 (aA YB.out yy (by decide));have hs3:wr.heap.size<=w3.heap.size:=by have:=hg3.size;simp at this;omega
      have p03:w3.cell? ⟨S,0,none⟩=some (.slice na nn nc):=by rw[S8.out];simp[World.cell?,hW3]
      have f03:w3.frozen? ⟨S,0,none⟩=false:=(by simp[World.frozen?,hW3]);have acL:S<w3.heap.size:=by omega
      have nO:Hid _:=QW QX.out Bv.out S8.out wL hg3 kG;clear wL hg3 kG hW3 yy;go_wp2_with fail;go_meet;exact nO.out
     case rest=>
      rename World=>w5;obtain⟨qF,hk2⟩:=hcut.out;have ID:Hid (ax F w1 w5):=hk2;have kb:∀q,G q->w5.heap[q]? = w.heap[q]?:=fun q hq=>(ID.out.block q (by have:=(Aj.out q hq).1;omega) (Aj.out q hq).2).trans (hb0.block q (Aj.out q hq).1);have hs5:w1.heap.size<=w5.heap.size:=ID.out.size;have y25:w5.cell? ⟨w.heap.size,2,none⟩=some (.slice (some ⟨gi,0,none⟩) n ic):=(World.cell?_of_block (a:=⟨w.heap.size,2,none⟩) ((ID.out.block w.heap.size hs1 (fun hf=>by have:=HFL.out _ hf;omega)).trans (Bv.out.block w.heap.size hs1 (fun hf=>by have:=HFL.out _ hf;omega)).symm)).trans HY2.out;have CD:G gi:=xG.out gi rfl;have i25:w5.cell? ⟨gi,k*3+2,none⟩=some (.int .i64 (j:Int)):=(World.cell?_of_block (a:=⟨gi,k*3+2,none⟩) ((kb gi CD).trans ((Bv.out.block gi (by have:=(Aj.out gi CD).1;omega) (Aj.out gi CD).2).trans (hb0.block gi (Aj.out gi CD).1)).symm)).trans HIJ.out;have ajb:gi<w5.heap.size:=by have:=(Aj.out gi CD).1;omega
      have aeF:w.heap.size<w5.heap.size:=(by omega);have HC5:Hid (Calls prog 89 #[.pointer (some ⟨S,0,none⟩),.pointer (some ⟨r,0,none⟩),.int .i64 (j:Int),.string pt] w5 fun e' w'=>e'=.returned (.tuple #[])/\b9 (bq (bq F w1 w5) w5 w') w' S (gO au fuel j pt (sk.1 ++ [(pt,2,0)],sk.2)).1 (gO au fuel j pt (sk.1 ++ [(pt,2,0)],sk.2)).2 rest/\ax (bq F w1 w5) w5 w'):=by
       have hB:=HB1.out;have hG:=Yy.out;rw[Od.out] at hG;have hpz:=Gq path e.1;rw[<-HPT.out] at hpz;refine HIH.out j pt (sk.1 ++ [(pt,2,0)],sk.2) (bq F w1 w5) G w5 (by omega) (by omega) (by omega) (eU hG.1 hB.1) (eU hG.2 hB.2) qF (HRA.out.keep (fun _ h=>h) kb) (fun q hq=>⟨by have:=(Aj.out q hq).1;omega,?_⟩) (fun q hq=>?_)
       ·rintro (h | ⟨h,_⟩)
        ·exact (Aj.out q hq).2 h
        ·have:=(Aj.out q hq).1;omega
       ·rcases hq with h | ⟨_,h⟩
        ·have:=HFL.out q h;omega
        ·exact h
      clear hcut qF hk2 k0 GD y2r i0 i1 fM Wc;go_wp2_with fail;refine Calls.mono HC5.out ?_;rintro _ w6 ⟨rfl,MN,hk6⟩;have nO:Hid (b9 (bq F w1 w6) w6 S (gO au fuel j pt (sk.1 ++ [(pt,2,0)],sk.2)).1 (gO au fuel j pt (sk.1 ++ [(pt,2,0)],sk.2)).2 rest/\ax F w1 w6):=⟨MN.CC (fun q hq=>ig ID.out.size hk6.size hq),dr ID.out hk6⟩;clear MN hk6;go_wp2;refine⟨⟨k+1,dX au (gO au fuel) path sk e,by omega,by go_num,U3.out.symm,?_,nO.out.2⟩,by simp[intOf];omega⟩;show b9 _ _ _ _ _ _;rw[Od.out];exact nO.out.1
  ·have gP:k=n:=by omega
   subst gP;have hdk:decide ((k:Int)<(k:Int))=false:=by simp
   have nO:Hid (b9 (bq F w wr) wr S (gO au (fuel+1) at_ path st).1 (gO au (fuel+1) at_ path st).2 rest/\ax F w wr):=by
    have e1:=HSK.out;rw[List.take_of_length_le (by rw[HEL.out];exact bA _),<-HE.out] at e1;rw[<-e1];exact⟨HST.out.CC (fun q hq=>by rcases hq with h | h;exact .inl h;exact .inr ⟨by omega,h.2⟩),ax.after Bv.out hb0⟩
   have aeF:w.heap.size<wr.heap.size:=by omega
   go_wp2;go_end0;exact⟨rfl,nO.out⟩
theorem XP (au:List Ob)(rest:List Value)(S r:Nat)(hat:iM au)(sA:∀o ∈ au,∀e ∈ o.aV,e.1.size<=12):∀(fuel at_:Nat) (path:ByteArray) (st:St) (F G:Nat->Prop) (w:World),at_<fuel->at_<au.length->path.size+13*fuel<=100000->
  (gO au fuel at_ path st).1.length<=1000000000->(gO au fuel at_ path st).2.length<=1000000000->b9 F w S st.1 st.2 rest->bS G w r au->(∀k,G k->k<w.heap.size/\¬F k)->(∀k,F k->k<w.heap.size)->
  Calls prog 89 #[.pointer (some ⟨S,0,none⟩),.pointer (some ⟨r,0,none⟩),.int .i64 (at_:Int),.string path] w fun e w'=>e=.returned (.tuple #[])/\b9 (bq F w w') w' S (gO au fuel at_ path st).1 (gO au fuel at_ path st).2 rest/\ax F w w':=by
 intro fuel
 induction fuel with
 | zero=>intro at_ path st F G w h;exact absurd h (Nat.not_lt_zero _)
 | succ fuel ih=>exact U2 au rest S r hat sA fuel ih
end Go.Proofs.YtlgidcmmgohagaaGreat
