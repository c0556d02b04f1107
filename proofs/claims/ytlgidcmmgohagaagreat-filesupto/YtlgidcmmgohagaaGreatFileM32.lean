/- What is proved here: the document's own workspace. -/
import Derived.Test.YtlgidcmmgohagaaGreatFileM30
import Derived.Deep.Cut
import Derived.Deep.CutRange
namespace Go.Proofs.YtlgidcmmgohagaaGreat
open Go.RowKit Go.Sort Go.Shelf Go.Proofs.Tryz
set_option linter.unusedVariables false
set_option maxRecDepth 100000
set_option maxHeartbeats 16000000
section
variable {F:Nat->Prop}{w:World}{S:Nat}{na da:Option Addr}{nc dc:Nat}{nodes:List Ent}{data:List ByteArray}{rest:List Value}
theorem StAt.pushD (h:StAt F w S na da nc dc nodes data rest){w':World}{g cap':Nat}{x:ByteArray}(P:w'.heap[S]? = some (.cells ((Value.slice na nodes.length nc :: Value.slice da data.length dc :: rest).toArray.setIfInBounds 1 (.slice (some ⟨g,0,none⟩) (data.length+1) cap')) 179 (0,0))/\
   w'.ownsRow 0 9 1 (.slice (some ⟨g,0,none⟩) (data.length+1) cap') (data.length+1) (encS data ++ [.string x])/\((some g:Option Nat)=(Value.slice da data.length dc).ownBlock\/w.heap.size<=g)/\Keeps (fun k=>k=S\/some k=(Value.slice da data.length dc).ownBlock) w w'):
  StInv (NewF F w w') w' S nodes (data ++ [x]) rest/\Keeps F w w':=by
 obtain⟨p1,p2,p3,p4⟩:=P;have hl:(data ++ [x]).length=data.length+1:=by simp
 refine⟨⟨na,nc,some ⟨g,0,none⟩,cap',⟨.inl h.fS,?_,?_,?_,?_,?_⟩⟩,keeps_sub p4 h.fS h.fd⟩
 ·rw[hl,p1];simp
 ·exact row_stays h.rowN p4 h.hS (by decide) (fun g hg=>rows_apart h.rowN h.rowD (by decide) hg)
 ·rw[hl];simpa [encS] using p2
 ·intro g hg;exact .inl (h.fn g hg)
 ·rw[hl];exact newF_of p2 p3 h.fd
end
theorem StInv.widen {F F':Nat->Prop}{w:World}{S:Nat}{nodes:List Ent}{data:List ByteArray}{rest:List Value}(h:StInv F w S nodes data rest)(hF:∀k,F k->F' k):StInv F' w S nodes data rest:=by
 obtain⟨na,nc,da,dc,h⟩:=h;exact⟨na,nc,da,dc,h.keep hF (fun _ _=>rfl)⟩
theorem out_push {F:Nat->Prop}{w1 wr w4:World}{S:Nat}{na da:Option Addr}{nc dc nn g4 c4 b:Nat}{ns:List Ent}{ds:List ByteArray}{rest:List Value}{x:Ent}{o:Obj}{q:Nat}(h:StAt (NewF F w1 wr) wr S na da nc dc ns ds rest)(hk:Keeps F w1 wr)(hn:nn=ns.length)
  (hown:w4.ownsRow 0 200 3 (.slice (some ⟨g4,0,none⟩) (nn+1) c4) (nn+1) (flat ns++encE x))(hg:((wr.drewN q).alloc o).grownBy w4 (Value.slice na nn nc).ownBlock)(hloc:(Value.slice (some ⟨g4,0,none⟩) (nn+1) c4).ownBlock=(Value.slice na nn nc).ownBlock\/(Value.slice (some ⟨g4,0,none⟩) (nn+1) c4).ownBlock=some b)(hb:wr.heap.size<=b:=by simp):
  StInv (NewF F w1 (w4.setCell ⟨S,0,none⟩ (.slice (some ⟨g4,0,none⟩) (nn+1) c4))) (w4.setCell ⟨S,0,none⟩ (.slice (some ⟨g4,0,none⟩) (nn+1) c4)) S (ns ++ [x]) ds rest/\Keeps F w1 (w4.setCell ⟨S,0,none⟩ (.slice (some ⟨g4,0,none⟩) (nn+1) c4)):=by
 subst hn;have P:=push_after (i:=0) h.hS h.rowN (by decide) (kb_alloc wr q o) (by simp) ⟨rfl,rfl,rfl⟩ hown hg hloc hb;obtain⟨hsi,hk2⟩:=h.push P;have hk3:=keeps_trans hk hk2;exact⟨hsi.widen (fun k hk'=>newF_newF hk.size hk2.size hk'),hk3⟩
theorem out_pushD {F:Nat->Prop}{w1 wr w4:World}{S:Nat}{na da:Option Addr}{nc dc nd g4 c4 b:Nat}{ns:List Ent}{ds:List ByteArray}{rest:List Value}{x:ByteArray}{o:Obj}{q:Nat}(h:StAt (NewF F w1 wr) wr S na da nc dc ns ds rest)(hk:Keeps F w1 wr)(hn:nd=ds.length)
  (hown:w4.ownsRow 0 9 1 (.slice (some ⟨g4,0,none⟩) (nd+1) c4) (nd+1) (encS ds ++ [.string x]))(hg:((wr.drewN q).alloc o).grownBy w4 (Value.slice da nd dc).ownBlock)(hloc:(Value.slice (some ⟨g4,0,none⟩) (nd+1) c4).ownBlock=(Value.slice da nd dc).ownBlock\/(Value.slice (some ⟨g4,0,none⟩) (nd+1) c4).ownBlock=some b)(hb:wr.heap.size<=b:=by simp):
  StInv (NewF F w1 (w4.setCell ⟨S,1,none⟩ (.slice (some ⟨g4,0,none⟩) (nd+1) c4))) (w4.setCell ⟨S,1,none⟩ (.slice (some ⟨g4,0,none⟩) (nd+1) c4)) S ns (ds ++ [x]) rest/\Keeps F w1 (w4.setCell ⟨S,1,none⟩ (.slice (some ⟨g4,0,none⟩) (nd+1) c4)):=by
 subst hn;have P:=push_after (i:=1) h.hS h.rowD (by decide) (kb_alloc wr q o) (by simp) ⟨rfl,rfl,rfl⟩ hown hg hloc hb;obtain⟨hsi,hk2⟩:=h.pushD P;have hk3:=keeps_trans hk hk2;exact⟨hsi.widen (fun k hk'=>newF_newF hk.size hk2.size hk'),hk3⟩
theorem out_push0 {F:Nat->Prop}{w1 wr w4:World}{S:Nat}{na da:Option Addr}{nc dc nn g4 c4 b:Nat}{ns:List Ent}{ds:List ByteArray}{rest:List Value}{x:Ent}{o:Obj}(h:StAt (NewF F w1 wr) wr S na da nc dc ns ds rest)(hk:Keeps F w1 wr)(hn:nn=ns.length)
  (hown:w4.ownsRow 0 200 3 (.slice (some ⟨g4,0,none⟩) (nn+1) c4) (nn+1) (flat ns++encE x))(hg:(wr.alloc o).grownBy w4 (Value.slice na nn nc).ownBlock)(hloc:(Value.slice (some ⟨g4,0,none⟩) (nn+1) c4).ownBlock=(Value.slice na nn nc).ownBlock\/(Value.slice (some ⟨g4,0,none⟩) (nn+1) c4).ownBlock=some b)(hb:wr.heap.size<=b:=by simp):
  StInv (NewF F w1 (w4.setCell ⟨S,0,none⟩ (.slice (some ⟨g4,0,none⟩) (nn+1) c4))) (w4.setCell ⟨S,0,none⟩ (.slice (some ⟨g4,0,none⟩) (nn+1) c4)) S (ns ++ [x]) ds rest/\Keeps F w1 (w4.setCell ⟨S,0,none⟩ (.slice (some ⟨g4,0,none⟩) (nn+1) c4)):=by
 subst hn;have P:=push_after (i:=0) h.hS h.rowN (by decide) (kb_alloc0 wr o) (by simp) ⟨rfl,rfl,rfl⟩ hown hg hloc hb;obtain⟨hsi,hk2⟩:=h.push P;have hk3:=keeps_trans hk hk2;exact⟨hsi.widen (fun k hk'=>newF_newF hk.size hk2.size hk'),hk3⟩
theorem outPath_size (path name:ByteArray):(outPath path name).size<=path.size+1+name.size:=by
 unfold outPath;split
 ·omega
 ·rw[ByteArray.size_append,ByteArray.size_append];exact zzC _
def OutSt (ros:List Ob)(rest:List Value)(S r fuel:Nat):Prop:=∀(at_:Nat) (path:ByteArray) (st:St) (F G:Nat->Prop) (w:World),at_<fuel->at_<ros.length->path.size+13*fuel<=100000->
  (outP ros fuel at_ path st).1.length<=1000000000->(outP ros fuel at_ path st).2.length<=1000000000->StInv F w S st.1 st.2 rest->RefInv G w r ros->(∀k,G k->k<w.heap.size/\¬F k)->(∀k,F k->k<w.heap.size)->
  Calls prog 89 #[.pointer (some ⟨S,0,none⟩),.pointer (some ⟨r,0,none⟩),.int .i64 (at_:Int),.string path] w fun e w'=>e=.returned (.tuple #[])/\StInv (NewF F w w') w' S (outP ros fuel at_ path st).1 (outP ros fuel at_ path st).2 rest/\Keeps F w w'
theorem out_next (ros:List Ob)(rest:List Value)(S r:Nat)(hat:Below0 ros)(hnm:∀o ∈ ros,∀e ∈ o.ents,e.1.size<=12)(fuel:Nat)(IH:OutSt ros rest S r fuel):OutSt ros rest S r (fuel+1):=by
 intro at_ path st F G w hfu hal hps hb1 hb2 hsi hri hGF hFl;obtain⟨iN,hiN,hN0,hN1,hN2⟩:=info_parts infoNode;obtain⟨iS,hiS,hS0,hS1,hS2⟩:=info_parts infoStrR;obtain⟨ra,rcap,hra⟩:=hri;have r0:=hra.c0;have hrl:=hra.lt;have hrm:=hra.many;obtain⟨gr,hga,hgrl,q0,q1,q2,q3⟩:=row_obs hra.row rfl hal;subst hga;have hob:=hra.obs _ (zzJ hal);obtain⟨es,hes⟩:∃es,es=ros[at_].ents:=⟨_,rfl⟩;have hel:es.length=ros[at_].el:=by rw[hes];exact hob.len
 have hfew:ros[at_].el<=16:=hob.few;have HE:Hid (outP ros (fuel+1) at_ path st=es.foldl (outStep ros (outP ros fuel) path) st):=by
  show _=_;simp only[outP,entsAtR,zzH hal,Option.map_some,Option.getD_some];rw[hes]
 have HAT:Hid (∀e ∈ es,0<=e.2.2/\e.2.2<(at_:Int)):=by rw[hes];exact hat at_ hal
 have HNM:Hid (∀e ∈ es,e.1.size<=12):=by rw[hes];exact hnm _ (zzJ hal)
 have HRA:Hid (RefInv G w r ros):=⟨_,_,hra⟩;have HGF:Hid (∀k,G k->k<w.heap.size/\¬F k):=hGF;have HSI:Hid (StInv F w S st.1 st.2 rest):=hsi;have HFL:Hid (∀k,F k->k<w.heap.size):=hFl;have HIH:Hid _:=IH;have HB1:Hid ((es.foldl (outStep ros (outP ros fuel) path) st).1.length<=1000000000/\(es.foldl (outStep ros (outP ros fuel) path) st).2.length<=1000000000):=by rw[<-HE.out];exact⟨hb1,hb2⟩
 have HROW:Hid (w.ownsRow 0 112 3 (.slice ros[at_].ea ros[at_].el ros[at_].ec) ros[at_].el (flat es)):=by rw[hes];exact hob.row
 have HOWN:Hid (∀g,(Value.slice ros[at_].ea ros[at_].el ros[at_].ec).ownBlock=some g->G g):=hob.own;obtain⟨n,hn⟩:∃n,n=ros[at_].el:=⟨_,rfl⟩;obtain⟨ia,hia⟩:∃ia,ia=ros[at_].ea:=⟨_,rfl⟩;obtain⟨ic,hic⟩:∃ic,ic=ros[at_].ec:=⟨_,rfl⟩;obtain⟨okd,hokd⟩:∃k,k=ros[at_].kind:=⟨_,rfl⟩;obtain⟨oda,hoda⟩:∃k,k=ros[at_].data:=⟨_,rfl⟩;obtain⟨ohi,hohi⟩:∃k,k=ros[at_].high:=⟨_,rfl⟩;rw[<-hn,<-hia,<-hic] at HROW HOWN q2;rw[<-hn] at hel hfew;rw[<-hokd] at q0;rw[<-hoda] at q1;rw[<-hohi] at q3;have HEL:Hid (es.length=n):=hel;obtain⟨L,hL⟩:∃L,L=ros.length:=⟨_,rfl⟩;have HLL:Hid (L=ros.length):=hL;rw[<-hL] at r0 hrm;have hatL:(at_:Int)<(L:Int):=by omega
 clear IH hFl hra hob hes hel hsi hGF hn hia hic hokd hoda hohi hL;go_enter func89,ntmps89;go_wp2;obtain⟨B,hB⟩:∃B:Obj,B=.cells #[.int .i64 okd,.string oda,.slice ia n ic,.int .i64 ohi] 108:=⟨_,rfl⟩;obtain⟨w1,hw1⟩:∃w1,w1=w.alloc B:=⟨_,rfl⟩;have hb0:Below w.heap.size w w1:=by rw[hw1];exact (Below.refl _ _).alloc (zzC _) B
 have y2:w1.cell? ⟨w.heap.size,2,none⟩=some (.slice ia n ic):=by rw[hw1,hB];simp
 have hs1:w.heap.size<w1.heap.size:=by rw[hw1];simp
 rw[<-hB,<-hw1];clear hB hw1;have HSI1:Hid (StInv F w1 S st.1 st.2 rest):=by
  obtain⟨na,nc,da,dc,h⟩:=HSI.out;exact⟨na,nc,da,dc,h.below hb0⟩
 go_loopw [9] (fun i wr=>∃(k:Nat) (sk:St),k<=n/\i=.int .i64 (k:Int)/\Hid (sk=(es.take k).foldl (outStep ros (outP ros fuel) path) st)/\Hid (StInv (NewF F w1 wr) wr S sk.1 sk.2 rest)/\Hid (Keeps F w1 wr)) (fun i _=>n-(intOf i).toNat)
 case atStart=>exact⟨0,st,zzF _,rfl,rfl,HSI1.out.widen (fun _ h=>.inl h),Keeps.refl _⟩
 case round=>
  obtain⟨k,sk,hk,rfl,HSK,HST,HKP⟩:=hrel;have hszr:w1.heap.size<=wr.heap.size:=HKP.out.size;have y2r:wr.cell? ⟨w.heap.size,2,none⟩=some (.slice ia n ic):=(World.cell?_of_block (a:=⟨w.heap.size,2,none⟩) (HKP.out.block w.heap.size hs1 (fun hf=>by have:=HFL.out _ hf;omega))).trans y2;have hrr:RefInv G wr r ros:=HRA.out.keep (fun _ h=>h) (fun q hq=>(HKP.out.block q (by have:=(HGF.out q hq).1;omega) (HGF.out q hq).2).trans (hb0.block q (HGF.out q hq).1));have HRR:Hid (RefInv G wr r ros):=hrr;by_cases hlt:k<n
  ·have hke:k<es.length:=by rw[HEL.out];exact hlt
   have hrow:=ownsRow_keep HROW.out (w':=wr) (fun g hg=>(HKP.out.block g (by have:=(HGF.out g (HOWN.out g hg)).1;omega) (HGF.out g (HOWN.out g hg)).2).trans (hb0.block g (HGF.out g (HOWN.out g hg)).1));obtain⟨gi,ci,hvi⟩:=slice_of_owns hrow (by omega);have hai:=(Value.slice.inj hvi).1;subst hai;have hgil:=ownsRow_lt hrow rfl;obtain⟨i0,i1,i2⟩:=row_cells (off:=0) (owns_cells hrow) hke;rw[Nat.zero_add] at i0 i1 i2;obtain⟨e,he⟩:∃e,e=es[k]:=⟨_,rfl⟩;rw[<-he] at i0 i1 i2;obtain⟨ha0,ha1⟩:=HAT.out e (by rw[he];exact zzJ hke);have hnm12:=HNM.out e (by rw[he];exact zzJ hke);obtain⟨j,hj⟩:∃j:Nat,e.2.2=(j:Int):=⟨e.2.2.toNat,by omega⟩;rw[hj] at i2;have hjat:j<at_:=by omega
   have HNEXT:Hid ((es.take (k+1)).foldl (outStep ros (outP ros fuel) path) st=outStep ros (outP ros fuel) path sk e):=by
    show _=_;rw[zzI hke,List.foldl_append,<-HSK.out,<-he];rfl
   have HGR:Hid (Grows2 (outStep ros (outP ros fuel) path sk e) (es.foldl (outStep ros (outP ros fuel) path) st)):=by
    have e1:es=es.take (k+1)++es.drop (k+1):=(List.take_append_drop _ _).symm
    have:=fold_grows ros (outP ros fuel) (outP_grows ros fuel) path (es.drop (k+1)) (outStep ros (outP ros fuel) path sk e)
    show Grows2 _ _;rw[<-HNEXT.out] at this ⊢;rw[<-List.foldl_append,<-e1] at this;exact this
   have HJ:Hid (e.2.2=(j:Int)):=hj;have hkn:(k:Int)<(n:Int):=by omega
   obtain⟨na,nc,da,dc,hst⟩:=HST.out;have k0:=hst.c0;have k1:=hst.c1;have hSl:=hst.lt;have HAT2:Hid (StAt (NewF F w1 wr) wr S na da nc dc sk.1 sk.2 rest):=hst;obtain⟨nn,hnn⟩:∃nn,nn=sk.1.length:=⟨_,rfl⟩;obtain⟨nd,hnd⟩:∃nd,nd=sk.2.length:=⟨_,rfl⟩;have HNN:Hid (nn=sk.1.length):=hnn;have HND:Hid (nd=sk.2.length):=hnd;rw[<-hnn] at k0;rw[<-hnd] at k1;have hskb:nn<=1000000000/\nd<=1000000000:=by
    have g1:=outStep_grows ros (outP ros fuel) (outP_grows ros fuel) path sk e;have g2:=g1.trans HGR.out
    have:=HB1.out
    exact⟨by have:=g2.1;omega,by have:=g2.2;omega⟩
   clear hrow hvi hst he hj hnn hnd;obtain⟨pt,hpt⟩:∃pt,pt=outPath path e.1:=⟨_,rfl⟩;have HPT:Hid (pt=outPath path e.1):=hpt;have HIJ:Hid (wr.cell? ⟨gi,k*3+2,none⟩=some (.int .i64 (j:Int))):=i2;have HRN:Hid (wr.ownsRow 0 200 3 (.slice na nn nc) nn (flat sk.1)):=by show World.ownsRow _ _ _ _ _ _ _;rw[HNN.out];exact HAT2.out.rowN
   have HK0:Hid (wr.cell? ⟨S,0,none⟩=some (.slice na nn nc)):=k0;have HK1:Hid (wr.cell? ⟨S,1,none⟩=some (.slice da nd dc)):=k1;clear i2 hpt q0 q1 q2 q3 r0 k0 k1 y2;go_upto_if 32 with fail
   go_cut [10] from 18 to 102 (fun sp wx=>sp=.string pt/\wx=wr)
   case first=>
    cases hpe:(path.toList == []) with
    | true=>
     have HP:Hid (pt=e.1):=by show _=_;rw[HPT.out];unfold outPath;rw[zzD (eq_of_beq hpe)]
     have hpi:(!path.toList.isEmpty)=false:=by rw[eq_of_beq hpe];rfl
     go_wp2_with fail
     all_goals first
      | (exfalso;rename (! _)=_=>hbad;rw[hpi] at hbad;cases hbad;done)
      | (go_meet;exact⟨by rw[HP.out],rfl⟩)
    | false=>
     have HP:Hid (pt=path++⟨#[47]⟩++e.1):=by show _=_;rw[HPT.out];unfold outPath;rw[zzB (beq_eq_false_iff_ne.1 hpe)]
     have hpi:(!path.toList.isEmpty)=true:=by
      cases hc:path.toList with
      | nil=>rw[hc] at hpe;cases hpe
      | cons _ _=>rfl
     go_wp2_with fail
     all_goals first
      | (exfalso;rename (! _)=_=>hbad;rw[hpi] at hbad;cases hbad;done)
      | (go_meet;exact⟨by rw[HP.out],rfl⟩)
   case rest=>
    obtain⟨rfl,hwc⟩:=hcut;have HWC:Hid (wc=wr):=hwc;rw[hwc];clear hwc;have HY2:Hid (wr.cell? ⟨w.heap.size,2,none⟩=some (.slice (some ⟨gi,0,none⟩) n ic)):=y2r;by_cases hk1:e.2.1=1
    ·rw[hk1] at i1
     have HSTEP:Hid (outStep ros (outP ros fuel) path sk e=(sk.1 ++ [(pt,1,(nd:Int))],sk.2 ++ [dataAt ros (j:Int)])):=by show _=_;unfold outStep;rw[zzD hk1,<-HPT.out,HJ.out,HND.out]
     clear hk1;go_upto_region 8 with fail;have k0:=HK0.out;have k1:=HK1.out;clear i0 i1 y2r
     go_cut [] from 18 to 102 (fun wx=>Hid (StInv (NewF F w1 wx) wx S (sk.1 ++ [(pt,1,(nd:Int))]) sk.2 rest/\Keeps F w1 wx))
     case first=>
      go_region_law (refine step_append_own_at rfl (.tmp 48) (.tmp 56) 174 rfl 0 200 iN _ 3 32 underlying174 hiN hN0 hN1 hN2 rfl (by decide) (.slice na nn nc) nn (flat sk.1) (by simp[Act.eval]) (World.ownsRow.alloc (show (wr.drewN 1).ownsRow _ _ _ _ _ _ from HRN.out) _) ⟨wr.heap.size,0,none⟩ 1 1 (encE (pt,1,(nd:Int))) (by simp[Act.eval]) rfl (item_cells (wr.drewN 1) (pt,1,(nd:Int)) _ _ rfl) (encE_one _) (by unfold maxLen;omega) (by omega) (zzF _) ?_;intro v4 w4 hown4 hgrow4 hloc4;obtain⟨g4,c4,rfl⟩:=slice_of_owns hown4 (by omega);have hW4:=grown_W HAT2.out.hS (kb_alloc wr 1 _) (by simp) hgrow4 (owns_ne_cells HRN.out HAT2.out.hS (by decide));have p04:w4.cell? ⟨S,0,none⟩=some (.slice na sk.1.length nc):=(by simp[World.cell?,hW4]);have f04:w4.frozen? ⟨S,0,none⟩=false:=(by simp[World.frozen?,hW4]);have hSl4:S<w4.heap.size:=(zzA hSl (by have:=hgrow4.size;simp at this;omega)))
      all_goals
       go_wp2_with fail;go_meet;exact out_push HAT2.out HKP.out HNN.out hown4 hgrow4 hloc4
     case rest=>
      rename World=>w5;obtain⟨⟨na2,nc2,da2,dc2,hst2⟩,hk2⟩:=hcut.out;have HK2:Hid (Keeps F w1 w5):=hk2;have HAT3:Hid (StAt (NewF F w1 w5) w5 S na2 da2 nc2 dc2 (sk.1 ++ [(pt,1,(nd:Int))]) sk.2 rest):=hst2;have k1':=hst2.c1;have hSl5:=hst2.lt;rw[<-HND.out] at k1';have kb:∀q,G q->w5.heap[q]? = w.heap[q]?:=fun q hq=>(HK2.out.block q (by have:=(HGF.out q hq).1;omega) (HGF.out q hq).2).trans (hb0.block q (HGF.out q hq).1);obtain⟨ra5,rc5,hra5⟩:=HRA.out.keep (w':=w5) (fun _ h=>h) kb;have r05:=hra5.c0;have hrl5:=hra5.lt;rw[<-HLL.out] at r05;have hjr:j<ros.length:=by omega
      obtain⟨g5,hg5,hg5l,_,d1,_,_⟩:=row_obs hra5.row rfl hjr;subst hg5;have HDA:Hid (dataAt ros (j:Int)=ros[j].data):=by show _=_;unfold dataAt;rw[Int.toNat_natCast,zzH hjr];rfl
      obtain⟨dd,hdd⟩:∃dd,dd=ros[j].data:=⟨_,rfl⟩;rw[<-hdd] at d1 HDA;have y25:w5.cell? ⟨w.heap.size,2,none⟩=some (.slice (some ⟨gi,0,none⟩) n ic):=(World.cell?_of_block (a:=⟨w.heap.size,2,none⟩) ((HK2.out.block w.heap.size hs1 (fun hf=>by have:=HFL.out _ hf;omega)).trans (HKP.out.block w.heap.size hs1 (fun hf=>by have:=HFL.out _ hf;omega)).symm)).trans HY2.out;have hgiG:G gi:=HOWN.out gi rfl;have i25:w5.cell? ⟨gi,k*3+2,none⟩=some (.int .i64 (j:Int)):=(World.cell?_of_block (a:=⟨gi,k*3+2,none⟩) ((kb gi hgiG).trans ((HKP.out.block gi (by have:=(HGF.out gi hgiG).1;omega) (HGF.out gi hgiG).2).trans (hb0.block gi (HGF.out gi hgiG).1)).symm)).trans HIJ.out;have hgi5:gi<w5.heap.size:=by have:=(HGF.out gi hgiG).1;have:=HK2.out.size;omega
      have hbx5:w.heap.size<w5.heap.size:=by have:=HK2.out.size;omega
      have hjL:(j:Int)<(L:Int):=(by omega);have HRD:Hid (w5.ownsRow 0 9 1 (.slice da2 nd dc2) nd (encS sk.2)):=by show World.ownsRow _ _ _ _ _ _ _;rw[HND.out];exact hst2.rowD
      clear hcut hst2 hk2 hra5 hdd k0 k1 hSl;go_upto_region 9 with fail
      go_region_law (refine step_append_own_at rfl (.tmp 64) (.tmp 78) 131 rfl 0 9 iS _ 1 16 underlying131 hiS hS0 hS1 hS2 rfl (by decide) (.slice da2 nd dc2) nd (encS sk.2) (by simp[Act.eval]) (World.ownsRow.alloc (show (w5.drewN 1).ownsRow _ _ _ _ _ _ from HRD.out) _) ⟨w5.heap.size,0,none⟩ 1 1 [.string dd] (by simp[Act.eval]) rfl (one_cell (w5.drewN 1) _ _ _ rfl) one_str (by unfold maxLen;omega) (by omega) (zzF _) ?_;intro v6 w6 hown6 hgrow6 hloc6;obtain⟨g6,c6,rfl⟩:=slice_of_owns hown6 (by omega);have hW6:=grown_W HAT3.out.hS (kb_alloc w5 1 _) (by simp) hgrow6 (owns_ne_cells HRD.out HAT3.out.hS (by decide));have p16:w6.cell? ⟨S,1,none⟩=some (.slice da2 sk.2.length dc2):=(by simp[World.cell?,hW6]);have f16:w6.frozen? ⟨S,1,none⟩=false:=(by simp[World.frozen?,hW6]);have hSl6:S<w6.heap.size:=(zzA hSl5 (by have:=hgrow6.size;simp at this;omega)))
      all_goals
       go_wp2_with fail;refine⟨⟨k+1,outStep ros (outP ros fuel) path sk e,by omega,by go_num,HNEXT.out.symm,?_,?_⟩,by simp[intOf];omega⟩
       ·show StInv _ _ _ _ _ _
        rw[HSTEP.out,HDA.out];exact (out_pushD HAT3.out HK2.out HND.out hown6 hgrow6 hloc6).1
       ·exact (out_pushD HAT3.out HK2.out HND.out hown6 hgrow6 hloc6).2
    ·have hk1':(e.2.1 == 1)=false:=by simp[hk1]
     have HSTEP:Hid (outStep ros (outP ros fuel) path sk e=outP ros fuel j pt (sk.1 ++ [(pt,2,0)],sk.2)):=by show _=_;unfold outStep;rw[zzB hk1,HJ.out,Int.toNat_natCast,<-HPT.out]
     have k0:=HK0.out;go_upto_region 10 with fail
     go_cut [] from 18 to 102 (fun wx=>Hid (StInv (NewF F w1 wx) wx S (sk.1 ++ [(pt,2,0)]) sk.2 rest/\Keeps F w1 wx))
     case first=>
      go_wp2_with (at_builtin;refine wpList_append_at rfl (.tmp 86) (.tmp 89) 174 rfl 0 200 iN _ 3 32 underlying174 hiN hN0 hN1 hN2 rfl (by decide) (.slice na nn nc) nn (flat sk.1) rfl (World.ownsRow.alloc HRN.out _) ⟨wr.heap.size,0,none⟩ 1 1 (encE (pt,2,0)) rfl rfl (item_cells wr (pt,2,0) _ _ rfl) (encE_one _) (by unfold maxLen;omega) (by omega) (zzF _) ?_);intro v3 w3 ho3 hg3 hloc3;obtain⟨g3,c3,rfl⟩:=slice_of_owns ho3 (by omega);have hS2:=HAT2.out.hS;have hW3:=grown_W hS2 (kb_alloc0 _ _) (by simp) hg3 (owns_ne_cells HRN.out hS2 (by decide));have hs3:wr.heap.size<=w3.heap.size:=by have:=hg3.size;simp at this;omega
      have p03:w3.cell? ⟨S,0,none⟩=some (.slice na nn nc):=by rw[HNN.out];simp[World.cell?,hW3]
      have f03:w3.frozen? ⟨S,0,none⟩=false:=(by simp[World.frozen?,hW3]);have hSl3:S<w3.heap.size:=by omega
      have HFIN:Hid _:=out_push0 HAT2.out HKP.out HNN.out ho3 hg3 hloc3;clear ho3 hg3 hloc3 hW3 hS2;go_wp2_with fail;go_meet;exact HFIN.out
     case rest=>
      rename World=>w5;obtain⟨hst2,hk2⟩:=hcut.out;have HK2:Hid (Keeps F w1 w5):=hk2;have kb:∀q,G q->w5.heap[q]? = w.heap[q]?:=fun q hq=>(HK2.out.block q (by have:=(HGF.out q hq).1;omega) (HGF.out q hq).2).trans (hb0.block q (HGF.out q hq).1);have hs5:w1.heap.size<=w5.heap.size:=HK2.out.size;have y25:w5.cell? ⟨w.heap.size,2,none⟩=some (.slice (some ⟨gi,0,none⟩) n ic):=(World.cell?_of_block (a:=⟨w.heap.size,2,none⟩) ((HK2.out.block w.heap.size hs1 (fun hf=>by have:=HFL.out _ hf;omega)).trans (HKP.out.block w.heap.size hs1 (fun hf=>by have:=HFL.out _ hf;omega)).symm)).trans HY2.out;have hgiG:G gi:=HOWN.out gi rfl;have i25:w5.cell? ⟨gi,k*3+2,none⟩=some (.int .i64 (j:Int)):=(World.cell?_of_block (a:=⟨gi,k*3+2,none⟩) ((kb gi hgiG).trans ((HKP.out.block gi (by have:=(HGF.out gi hgiG).1;omega) (HGF.out gi hgiG).2).trans (hb0.block gi (HGF.out gi hgiG).1)).symm)).trans HIJ.out;have hgi5:gi<w5.heap.size:=by have:=(HGF.out gi hgiG).1;omega
      have hbx5:w.heap.size<w5.heap.size:=(by omega);have HC5:Hid (Calls prog 89 #[.pointer (some ⟨S,0,none⟩),.pointer (some ⟨r,0,none⟩),.int .i64 (j:Int),.string pt] w5 fun e' w'=>e'=.returned (.tuple #[])/\StInv (NewF (NewF F w1 w5) w5 w') w' S (outP ros fuel j pt (sk.1 ++ [(pt,2,0)],sk.2)).1 (outP ros fuel j pt (sk.1 ++ [(pt,2,0)],sk.2)).2 rest/\Keeps (NewF F w1 w5) w5 w'):=by
       have hB:=HB1.out;have hG:=HGR.out;rw[HSTEP.out] at hG;have hpz:=outPath_size path e.1;rw[<-HPT.out] at hpz;refine HIH.out j pt (sk.1 ++ [(pt,2,0)],sk.2) (NewF F w1 w5) G w5 (by omega) (by omega) (by omega) (zzG hG.1 hB.1) (zzG hG.2 hB.2) hst2 (HRA.out.keep (fun _ h=>h) kb) (fun q hq=>⟨by have:=(HGF.out q hq).1;omega,?_⟩) (fun q hq=>?_)
       ·rintro (h | ⟨h,_⟩)
        ·exact (HGF.out q hq).2 h
        ·have:=(HGF.out q hq).1;omega
       ·rcases hq with h | ⟨_,h⟩
        ·have:=HFL.out q h;omega
        ·exact h
      clear hcut hst2 hk2 k0 hSl y2r i0 i1 hk1 hk1';go_wp2_with fail;refine Calls.mono HC5.out ?_;rintro _ w6 ⟨rfl,hst6,hk6⟩;have HFIN:Hid (StInv (NewF F w1 w6) w6 S (outP ros fuel j pt (sk.1 ++ [(pt,2,0)],sk.2)).1 (outP ros fuel j pt (sk.1 ++ [(pt,2,0)],sk.2)).2 rest/\Keeps F w1 w6):=⟨hst6.widen (fun q hq=>newF_newF HK2.out.size hk6.size hq),keeps_trans HK2.out hk6⟩;clear hst6 hk6;go_wp2;refine⟨⟨k+1,outStep ros (outP ros fuel) path sk e,by omega,by go_num,HNEXT.out.symm,?_,HFIN.out.2⟩,by simp[intOf];omega⟩;show StInv _ _ _ _ _ _;rw[HSTEP.out];exact HFIN.out.1
  ·have hkn:k=n:=by omega
   subst hkn;have hdk:decide ((k:Int)<(k:Int))=false:=by simp
   have HFIN:Hid (StInv (NewF F w wr) wr S (outP ros (fuel+1) at_ path st).1 (outP ros (fuel+1) at_ path st).2 rest/\Keeps F w wr):=by
    have e1:=HSK.out;rw[List.take_of_length_le (by rw[HEL.out];exact zzC _),<-HE.out] at e1;rw[<-e1];exact⟨HST.out.widen (fun q hq=>by rcases hq with h | h;exact .inl h;exact .inr ⟨by omega,h.2⟩),Keeps.after HKP.out hb0⟩
   have hbx5:w.heap.size<wr.heap.size:=by omega
   go_wp2;go_end0;exact⟨rfl,HFIN.out⟩
theorem out_any (ros:List Ob)(rest:List Value)(S r:Nat)(hat:Below0 ros)(hnm:∀o ∈ ros,∀e ∈ o.ents,e.1.size<=12):∀(fuel at_:Nat) (path:ByteArray) (st:St) (F G:Nat->Prop) (w:World),at_<fuel->at_<ros.length->path.size+13*fuel<=100000->
  (outP ros fuel at_ path st).1.length<=1000000000->(outP ros fuel at_ path st).2.length<=1000000000->StInv F w S st.1 st.2 rest->RefInv G w r ros->(∀k,G k->k<w.heap.size/\¬F k)->(∀k,F k->k<w.heap.size)->
  Calls prog 89 #[.pointer (some ⟨S,0,none⟩),.pointer (some ⟨r,0,none⟩),.int .i64 (at_:Int),.string path] w fun e w'=>e=.returned (.tuple #[])/\StInv (NewF F w w') w' S (outP ros fuel at_ path st).1 (outP ros fuel at_ path st).2 rest/\Keeps F w w':=by
 intro fuel
 induction fuel with
 | zero=>intro at_ path st F G w h;exact absurd h (Nat.not_lt_zero _)
 | succ fuel ih=>exact out_next ros rest S r hat hnm fuel ih
end Go.Proofs.YtlgidcmmgohagaaGreat
