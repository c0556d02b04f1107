/- What is proved here: 'putDir' of the law's world. -/
import Derived.Test.YtlgidcmmgohagaaGreatTreeM08
import Derived.Test.YtlgidcmmgohagaaGreatRows
import Derived.Deep.Slices
import Derived.Deep.Strs
namespace Go.Proofs.YtlgidcmmgohagaaGreat
open Go.RowKit Go.Sort Go.Shelf
set_option linter.unusedVariables false
set_option maxRecDepth 100000
set_option maxHeartbeats 16000000
variable {ft:CX}
theorem fh {w:World}{b:Nat}{t:TypeId}{a:Option Addr}{m c:Nat}{es:List aK}(h:w.ownsRow b t 3 (.slice a m c) m (flat es)):eW w a m es:=by
 have hl:es.length=m:=by have:=h.1;rw[bl] at this;omega
 refine⟨hl,fun hp=>?_⟩;obtain⟨g,c',hv⟩:=ak h hp;have ha:=(Value.slice.inj hv).1;subst ha;exact⟨g,0,rfl,ah h rfl,aQ h⟩
theorem qB {F:Nat->Prop}{B:Nat}{w w':World}(hF:∀k,F k->k<B)(hk:ax F w w'){b:Nat}{t:TypeId}{sz n:Nat}{v:Value}{xs:List Value}(hr:w.ownsRow b t sz v n xs)(hb:B<=b):w'.ownsRow b t sz v n xs:=
 ai hr (fun g hg=>hk.block g (hr.lt g hg).2 (fun hf=>by have:=hF g hf;have:=(hr.lt g hg).1;omega))
theorem jA {F:Nat->Prop}{w w1 w2:World}(a:ax F w w1)(b:ax F w1 w2):ax F w w2:=
 ⟨b.os.trans a.os,b.tape.trans a.tape,b.output.trans a.output,eU a.size b.size,fun q hq hn=>(b.block q (cv hq a.size) hn).trans (a.block q hq hn)⟩
theorem DY {es zs:List aK}{j:Nat}{u:Value}(h:(flat es)[j]? = some u):(flat (es++zs))[j]? = some u:=by
 rw[aZ,List.getElem?_append_left (List.getElem?_eq_some_iff.1 h).1];exact h
section
variable {FL FR FS FH:Nat->Prop}{w:World}{W s r:Nat}{ag au:List Ob}{c5 c6 c7 c8 c9 c10 c11:Value}
theorem DZ (h:W3 ft FL FR FS w W s r ag au c5 c6 c7 c8 c9 c10 c11)(x:aK):Calls Tryz.prog 41 #[.pointer (some ⟨W,0,none⟩),.int .i64 x.2.2] w fun e w'=>e=.returned (.int .i64 (gL ag.length x).2.2)/\w'=w:=by
 by_cases hN:1<=x.2.2/\x.2.2<=(ag.length:Int)
 ·obtain⟨j,hj⟩:∃j:Nat,x.2.2=(j:Int)+1:=⟨(x.2.2-1).toNat,by omega⟩
  have e:(gL ag.length x).2.2=(j:Int):=by unfold gL;rw[aL hN];show x.2.2-1=_;omega
  rw[e,hj];exact oT h j (by omega)
 ·have e:(gL ag.length x).2.2 = -1:=by unfold gL;rw[ay hN]
  rw[e];exact vJ h _ (by omega)
theorem Yh {w5 w6 w7:World}{b1 b2 uu k cl:Nat}{al:Option Addr}{es:List aK}(h:W3 ft FL FR FS w W s r ag au c5 c6 c7 c8 c9 c10 c11)(hk6:ax FS w5 w6)(Ir:ax FR w6 w7)(hol:w5.ownsRow b1 96 3 (.slice al k cl) k (flat es))(lV:w5.ownsRow b2 96 3 (.slice (some ⟨uu,0,none⟩) (k+3) (k+3)) (k+3) (flat (es++List.replicate 3 vG)))
  (hb1:w.heap.size<=b1)(hb2:w.heap.size<=b2)(jl:k<=2097152)(hnil:k=0->al=none/\cl=0):
  Calls Tryz.prog 83 #[.slice (some ⟨uu,0,none⟩) (k+3) (k+3),.slice al k cl] w7 (fun e w'=>e=.returned (.bool true)/\Below w7.heap.size w7 w')/\w7.ownsRow b2 96 3 (.slice (some ⟨uu,0,none⟩) (k+3) (k+3)) (k+3) (flat (es++List.replicate 3 vG)):=by
 have f6:∀k,FS k->k<w.heap.size:=fun k hk=>(h.sep.sl k hk).1;have f7:∀k,FR k->k<w.heap.size:=fun k hk=>(h.sep.rl k hk).1;have h7:=qB f7 Ir (qB f6 hk6 lV hb2) hb2;exact⟨SD uu al k cl es w7 (fh (qB f7 Ir (qB f6 hk6 hol hb1) hb1)) (by omega) hnil b2 h7,h7⟩
theorem Nv {n:Nat}{es:List aK}(hs:∀e ∈ es,e.1.size<=maxLen):(∀e ∈ es.map (gL n),e.1.size<=maxLen)/\∀e ∈ es.map (gL n),-1<=e.2.2/\e.2.2<(n:Int):=by
 constructor
 ·intro e he
  obtain⟨e0,h0,rfl⟩:=List.mem_map.1 he;exact hs e0 h0
 ·intro e he
  obtain⟨e0,h0,rfl⟩:=List.mem_map.1 he;unfold gL;split
  ·next hh=>exact⟨show -1<=e0.2.2-1 by omega,show e0.2.2-1<(n:Int) by omega⟩
  ·exact⟨show (-1:Int)<=-1 by omega,show (-1:Int)<(n:Int) by omega⟩
theorem V8 (h:W3 ft FL FR FS w W s r ag au c5 c6 c7 c8 c9 c10 c11)(k0 a1 a2 a3:Int)(S T:ByteArray)(la:Option Addr)(lm lc:Nat)(es:List aK)(hl:eW w la lm es)(jl:lm<=2097152)(hsz:∀e ∈ es,e.1.size<=maxLen):
  Calls Tryz.prog 38 #[.pointer (some ⟨W,0,none⟩),.agg #[.int .i64 k0,.int .i64 a1,.int .i64 a2,.int .i64 a3,.string S,.string T,.slice la lm lc]] w fun e w'=>e=.returned (.bool true)/\Stepped ft FL FR FS w w' W s r c5 c6 c7 c8 c9 c10 c11:=by
 obtain⟨i0,hi,hz0,hz1,hz2⟩:=info_parts Ig;obtain⟨iI,hI,Ho,J5,Si⟩:=info_parts wE;have HW:Hid (W3 ft FL FR FS w W s r ag au c5 c6 c7 c8 c9 c10 c11):=h;obtain⟨p0,p1,qu,Nt⟩:=h.law.cells;obtain⟨B,hB⟩:∃B:Obj,B=.cells #[.int .i64 k0,.int .i64 a1,.int .i64 a2,.int .i64 a3,.string S,.string T,.slice la lm lc] 57:=⟨_,rfl⟩;obtain⟨w1,jb⟩:∃w1,w1=w.alloc B:=⟨_,rfl⟩;have hb0:Below w.heap.size w w1:=by rw[jb];exact (Below.refl _ _).alloc (bA _) B
 have b6:w1.cell? ⟨w.heap.size,6,none⟩=some (.slice la lm lc):=by rw[jb,hB];simp
 have hs1:w.heap.size<w1.heap.size:=by rw[jb];simp
 have H1:Hid (W3 ft FL FR FS w1 W s r ag au c5 c6 c7 c8 c9 c10 c11):=h.below hb0;have HL:Hid (eW w la lm es):=hl;have HS:Hid (∀e ∈ es,e.1.size<=maxLen):=hsz;obtain⟨n,hn⟩:∃n,n=ag.length:=⟨_,rfl⟩;have HN:Hid (n=ag.length):=hn;clear h hl hsz hn;go_enter Tryz.func38,Tryz.ntmps38;go_wp2;rw[<-hB,<-jb];clear hB jb
 go_loopw [5,6,7] (fun l m i wr=>∃(k:Nat) (al:Option Addr) (cl:Nat) (am:Option Addr) (cm:Nat),k<=lm/\i=.int .i64 (k:Int)/\l=.slice al k cl/\m=.slice am k cm/\Below w1.heap.size w1 wr/\Hid (wr.ownsRow w1.heap.size 96 3 (.slice al k cl) k (flat (es.take k)))/\Hid (wr.ownsRow w1.heap.size 112 3 (.slice am k cm) k (flat ((es.take k).map (gL n))))/\Hid (k=0->al=none/\cl=0)) (fun _ _ i _=>lm-(intOf i).toNat)
 case atStart=>exact⟨0,none,0,none,0,dG _,rfl,rfl,rfl,Below.refl _ _,World.ownsRow_nil _ _ _ _,World.ownsRow_nil _ _ _ _,fun _=>⟨rfl,rfl⟩⟩
 case round=>
  obtain⟨k,al,cl,am,cm,hk,rfl,rfl,rfl,hb,xT,K6,SS⟩:=hrel;have Fu:=hb.size;have b6r:=(hb.cell (p:=⟨w.heap.size,6,none⟩) (by show w.heap.size<_;omega)).trans b6;by_cases hlt:k<lm
  ·obtain⟨b,off,pQ,hbl,hc⟩:=HL.out.2 (by omega)
   have j4:k<es.length:=by rw[HL.out.1];exact hlt
   obtain⟨c0,c1,c2⟩:=bg hc j4;obtain⟨x,hx⟩:∃x,x=es[k]:=⟨_,rfl⟩;rw[<-hx] at c0 c1 c2;have iG:Below w.heap.size w wr:=hb0.trans (hb.mono (by omega));have x0:=(iG.cell (p:=⟨b,off+k*3,none⟩) hbl).trans c0;have x1:=(iG.cell (p:=⟨b,off+k*3+1,none⟩) hbl).trans c1;have x2:=(iG.cell (p:=⟨b,off+k*3+2,none⟩) hbl).trans c2;have acz:b<wr.heap.size:=by omega
   rw[pQ] at b6r;have HX:Hid (x=es[k]):=hx;have K5:Hid (∀X,Calls Tryz.prog 39 #[.pointer (some ⟨W,0,none⟩),.int .i64 x.2.2] (wr.alloc X) fun e w'=>e=.returned (.int .i64 x.2.2)/\w'=wr.alloc X):=fun X=>zm (H1.out.below (hb.alloc hb.size X)) x.2.2
   have uP:(k:Int)<(lm:Int):=by omega
   clear hc c0 c1 c2 hx pQ;go_wp2_with (first | (go_at_call 39;refine Calls.mono (K5.out _) ?_;rintro _ _ ⟨rfl,rfl⟩) | (at_builtin;refine wpList_append_own _ rfl (.tmp 33) (.tmp 40) 55 rfl w1.heap.size 96 i0 _ 3 32 Tryz.underlying55 hi hz0 hz1 hz2 rfl (by decide) _ _ _ rfl ((xT.out.alloc _).alloc _) ⟨wr.heap.size+1,0,none⟩ 1 1 (bL x) rfl rfl (bD (wr.alloc _) x _ _ (by simp)) (bJ x) (by unfold maxLen;omega) (by omega) (by simp;omega) ?_));intro v' w2 hown' hgrow _;have hB:w1.heap.size<=((wr.alloc (Obj.cells #[Value.string x.fst,Value.int IntKind.i64 x.snd.fst,Value.int IntKind.i64 x.snd.snd] 96)).alloc (Obj.cells #[Value.string x.fst,Value.int IntKind.i64 x.snd.fst,Value.int IntKind.i64 x.snd.snd] 96)).heap.size:=by simp;omega
   have hb2:Below w1.heap.size w1 w2:=bX ((hb.alloc hb.size _).alloc (by simp;omega) _) hB ((xT.out.alloc _).alloc _) hgrow;have K7:some wr.heap.size≠(Value.slice al k cl).ownBlock:=fun e=>by have:=ah xT.out e.symm;omega
   have hblk:=hgrow.block wr.heap.size (by simp;omega) K7;have e0:w2.cell? ⟨wr.heap.size,0,none⟩=some (.string x.1):=(World.cell?_of_block (a:=⟨wr.heap.size,0,none⟩) hblk).trans (by simp);have e1:w2.cell? ⟨wr.heap.size,1,none⟩=some (.int .i64 x.2.1):=(World.cell?_of_block (a:=⟨wr.heap.size,1,none⟩) hblk).trans (by simp);have K8:Hid (w2.ownsRow w1.heap.size 96 3 v' (k+1) (flat (es.take (k+1)))):=by show World.ownsRow _ _ _ _ _ _ _;rw[<-yg j4,<-HX.out];exact hown'
   have K9:Hid (w2.ownsRow w1.heap.size 112 3 (.slice am k cm) k (flat ((es.take k).map (gL n)))):=ai K6.out (fun g hg=>by
    have hl:=ah K6.out hg;rw[hgrow.block g (by simp;omega) (cS K6.out xT.out (by decide) hg),Below.heap_alloc _ _ _ (by simp;omega),Below.heap_alloc _ _ _ hl])
   have hs2:wr.heap.size<w2.heap.size:=by have:=hgrow.size;simp at this;omega
   have J7:Hid (∀q,Calls Tryz.prog 41 #[.pointer (some ⟨W,0,none⟩),.int .i64 x.2.2] (w2.drewN q) fun e w'=>e=.returned (.int .i64 (gL n x).2.2)/\w'=w2.drewN q):=fun q=>by rw[HN.out];exact DZ (H1.out.below (below_drewN hb2 q)) x
   obtain⟨Nw,Nx,rfl⟩:=aX hown';clear hown' hgrow hB hblk K7 K5 x0 x1 x2;go_wp2
   go_region_law (first
    | (refine eO rfl (.tmp 42) (.tmp 51) 106 rfl w1.heap.size 112 iI _ 3 32 Tryz.underlying106 hI Ho J5 Si rfl (by decide) (.slice am k cm) k (flat ((es.take k).map (gL n))) (by simp[Act.eval]) (World.ownsRow.alloc (show w2.drew.ownsRow _ _ _ _ _ _ from K9.out) _) ⟨w2.heap.size,0,none⟩ 1 1 (bL (gL n x)) (by simp[Act.eval]) rfl (bD w2.drew (gL n x) _ _ rfl) (bJ _) (by unfold maxLen;omega) (by omega) (by have:=hb2.size;simp;omega) ?_;intro v'' w3 vL rL _)
    | (go_simp;go_at_call 41;refine Calls.mono (J7.out 1) ?_;rintro _ _ ⟨rfl,rfl⟩))
   all_goals
    have hb3:Below w1.heap.size w1 w3:=bX ((below_drewN hb2 1).alloc hb2.size _) (by have:=hb2.size;simp;omega) (World.ownsRow.alloc (show (w2.drewN 1).ownsRow _ _ _ _ _ _ from K9.out) _) rL;have Zy:Hid (w3.ownsRow w1.heap.size 112 3 v'' (k+1) (flat ((es.take (k+1)).map (gL n)))):=by
     show World.ownsRow _ _ _ _ _ _ _;rw[qX j4,List.map_append,List.map_cons,List.map_nil,aZ,bp,<-HX.out];exact vL
    have Zz:Hid (w3.ownsRow w1.heap.size 96 3 (.slice Nw (k+1) Nx) (k+1) (flat (es.take (k+1)))):=ai K8.out (fun g hg=>by
     have hl:=ah K8.out hg;rw[rL.block g (by simp;omega) (cS K8.out K9.out (by decide) hg),Below.heap_alloc _ _ _ (show g<(w2.drewN 1).heap.size from hl)];rfl)
    obtain⟨am',cm',rfl⟩:=aX vL;clear vL rL;go_wp2;go_roundw
    case rel=>exact⟨k+1,Nw,Nx,am',cm',by omega,by go_num,rfl,rfl,hb3,Zz.out,Zy.out,fun e=>by omega⟩
    case measure=>simp[intOf];omega
  ·have oG:k=lm:=by omega
   subst oG;have DR:decide ((k:Int)<(k:Int))=false:=dY (by omega);have ht:es.take k=es:=List.take_of_length_le (by rw[HL.out.1];exact bA _);rw[ht] at xT K6;have wZ:=Bo al k cl es wr (fh xT.out) (by omega) SS.out;have HLE:Hid _:=wZ;clear wZ ht;go_wp2_with (go_at_call 81;refine Calls.mono HLE.out ?_;rintro _ w5 ⟨uu,rfl,lV,j3⟩;have J8:Hid _:=lV;clear lV;have BD:Below w1.heap.size w1 w5:=hb.trans (j3.mono hb.size);have m0:=(fJ.cells (H1.out.below BD).law).1;have mW:=(fJ.cells (H1.out.below BD).law).2.2.1);have iO:Below w.heap.size w w5:=hb0.trans (BD.mono (by omega));have H5:Hid (W3 ft FL FR FS w5 W s r ag au c5 c6 c7 c8 c9 c10 c11):=H1.out.below BD;have SU:Hid (w5.ownsRow w1.heap.size 96 3 (.slice al k cl) k (flat es)):=ai xT.out (fun g hg=>j3.block g (ah xT.out hg));have SV:Hid (w5.ownsRow w1.heap.size 112 3 (.slice am k cm) k (flat (es.map (gL n)))):=ai K6.out (fun g hg=>j3.block g (ah K6.out hg));have ZA:w1.heap.size<=uu/\uu<w5.heap.size:=by have:=World.ownsRow.lt J8.out uu rfl;exact⟨eU hb.size this.1,this.2⟩
   have hpd:=wW (HW.out.below (below_drewN iO 1)).uQ uu 0 k (k+3) es HL.out.1 ZA.2 (by omega) (fun j u hu=>aQ J8.out j u (DY hu)) HS.out;have HPD:Hid _:=hpd;have hs5:w1.heap.size<=w5.heap.size:=BD.size;have agN:w1.heap.size<=wr.heap.size:=hb.size;clear hpd xT K6 b6r b6
   go_region_with (first | (go_at_call 26;refine Calls.mono HPD.out ?_;rintro e w6 ⟨aN,nC,hinv,gU⟩;obtain⟨id,Pa,he⟩:=nC.shape;have M4:Hid (iJ ag aN es e):=nC;have HE:Hid (e=.returned (.tuple #[.int .i64 id,.int .i64 Pa])):=he;rw[he];clear nC he))
   all_goals
    have oQ:ax FS w5 w6:=⟨gU.os,gU.tape,gU.output,gU.size,gU.block⟩;have HI6:Hid (fT ft (bq FS w5 w6) w6 s aN):=hinv;have Bv:Hid (ax FS w5 w6):=oQ;have hs6:w5.heap.size<=w6.heap.size:=oQ.size;have m1:w6.cell? ⟨W,1,none⟩=some (.pointer (some ⟨r,0,none⟩)):=(World.cell?_of_block (a:=⟨W,1,none⟩) (oQ.block W mW (fun hf=>(HW.out.sep.sl W hf).2 Nt))).trans (fJ.cells H5.out.law).2.1;have mW6:W<w6.heap.size:=by omega
    have R6:bS FR w6 r au:=HW.out.ref.keep (fun _ h=>h) (fun q hq=>(oQ.block q (by have:=(HW.out.sep.rl q hq).1;omega) (HW.out.sep.rs q hq)).trans (iO.block q (HW.out.sep.rl q hq).1));have SX:=qB (fun q hq=>(HW.out.sep.sl q hq).1) oQ SV.out (Nat.le_of_lt hs1);have ZB:=Nv (n:=n) HS.out;have hrd:=zh R6 am k cm (es.map (gL n)) (fh SX) (by omega) ZB.1 (by rw[<-HW.out.twin.1,<-HN.out];exact ZB.2);have Vp:Hid _:=hrd;clear hrd ZB SX R6 oQ gU hinv HPD
    go_frame
    go_wp2_with (first
     | (go_at_call 82;refine Calls.mono Vp.out ?_;rintro _ w7 ⟨x,y,bC,rfl,Il,CJ,yB⟩;have td:Hid _:=uY HW.out iO Bv.out HI6.out yB CJ M4.out (by rw[<-HN.out];exact Il) HE.out;have SY:Hid _:=Yh HW.out Bv.out yB SU.out J8.out (Nat.le_of_lt hs1) (by omega) jl SS.out;have hs7:=yB.size;clear Il CJ yB)
     | (go_at_call 83;refine Calls.mono SY.out.1 ?_;rintro _ w8 ⟨rfl,Vq⟩))
    have C2:Hid (w8.ownsRow 0 96 3 (.slice (some ⟨uu,0,none⟩) (k+3) (k+3)) (k+3) (flat (es++List.replicate 3 vG))):=ai (cL SY.out.2 (dG _)) (fun g hg=>Vq.block g (ah SY.out.2 hg));clear Vp SU SV J8 SY m0 m1
    go_loopw [16] (fun i wq=>∃d:Nat,d<=k+3/\i=.int .i64 (d:Int)/\Hid (ax (fun q=>q=uu) w8 wq)/\Hid (∃xs,wq.ownsRow 0 96 3 (.slice (some ⟨uu,0,none⟩) (k+3) (k+3)) (k+3) xs)) (fun i _=>k+3-(intOf i).toNat)
    case atStart=>exact⟨0,dG _,rfl,ax.refl _,⟨_,C2.out⟩⟩
    case round=>
     obtain⟨d,hd,rfl,HK,Vr⟩:=hrel;obtain⟨xs,hown⟩:=Vr.out;by_cases Vh:d<k+3
     ·have ET:=fun j=>hown.frozenAt j
      have hcs:∀j,j<3->∃v,wr.cell? ⟨uu,d*3+j,none⟩=some v:=fun j hj=>by
       rw[hown.cellAt (d*3+j) (by omega)];exact⟨_,kO (by rw[hown.1];omega)⟩
      obtain⟨v0,e0⟩:=hcs 0 (by omega);obtain⟨v1,e1⟩:=hcs 1 (by omega);obtain⟨v2,e2⟩:=hcs 2 (by omega);rw[Nat.add_zero] at e0;have sA:(d:Int)<(k:Int)+3:=by omega
      have fo:uu<wr.heap.size:=ah hown rfl;have HO:Hid (wr.ownsRow 0 96 3 (.slice (some ⟨uu,0,none⟩) (k+3) (k+3)) (k+3) xs):=hown;clear hcs Vr hown;go_wp2;refine⟨⟨d+1,by omega,by go_num,jA (jA (jA HK.out (kK rfl)) (kK rfl)) (kK rfl),⟨_,(World.ownsRow.stored (World.ownsRow.stored (World.ownsRow.stored HO.out _ _).1 _ _).1 _ _).1⟩⟩,by simp[intOf];omega⟩
     ·have DR:decide ((d:Int)<(k:Int)+3)=false:=dY (by omega)
      obtain⟨hA,A1,A2,A3,A4,A5,A6⟩:=td.out;have hK9:ax (fun q=>q=uu) w7 wr:=jA (ax.aM Vq) HK.out;have hF:=Bz A1 A2 A3 A4 A6 hK9 (fun hf=>by have:=HW.out.sep.ll uu hf;omega) (fun hf=>by
       rcases hf with hf | hf
       ·have:=(HW.out.sep.rl uu hf).1;omega
       ·have:=hf.1;omega) (fun hf=>by
       rcases hf with hf | hf
       ·have:=(HW.out.sep.sl uu hf).1;omega
       ·have:=hf.1;omega) (by omega)
      have Aa:Hid _:=hF;have HA5:Hid (iM bC):=A5;have HAG:Hid (vI ag aN au bC id Pa x y):=hA;have lH:=fun (e:Int) (W':World)=>ji e W';obtain⟨Ov,_,mV⟩:=hA;subst Ov;clear hown Vr hF A1 A2 A3 A4 A5 A6 hK9 HK td;by_cases hy:Pa=0
      ·have CO:=rJ Aa.out.1 Aa.out.2.2.1 Aa.out.2.1 Aa.out.2.2.2.1 HA5.out HAG.out hy HW.out.twin.1
       subst hy;clear mV;have hz:((0:Int) != 0)=false:=by simp
       go_wp2_with (first
        | (go_at_call 22;refine Calls.mono (lH _ _) ?_;rintro _ _ ⟨rfl,rfl⟩)
        | (go_at_call 37;refine Calls.mono CO ?_;rintro _ w9 ⟨rfl,hw9,SZ⟩))
       go_ret;refine⟨rfl,_,_,_,aN,bC,hw9,?_,?_⟩
       ·have zw:=Aa.out.2.2.2.2.size
        refine fun q=>⟨?_,?_,?_⟩ <;> rintro (h | h)
        ·exact .inl h
        ·exact .inr (eU zw h.1)
        ·exact .inl h
        ·have:=h.1;exact .inr (by omega)
        ·exact .inl h
        ·have:=h.1;exact .inr (by omega)
       ·have kk:=Aa.out.2.2.2.2
        exact⟨SZ.os.trans kk.os,SZ.tape.trans kk.tape,SZ.output.trans kk.output,eU kk.size SZ.size,fun q hq hn=>(SZ.block q (cv hq kk.size) (fun h=>hn (.inl h))).trans (kk.block q hq hn)⟩
      ·have hid:id=0/\aN=ag/\bC=au:=by
        rcases mV with h | h
        ·exact h.2
        ·exact absurd h.1 hy
       have hyb:(Pa != 0)=true:=by simpa using hy
       have Sy:(Pa != Pa)=false:=(by simp);obtain⟨rfl,rfl,rfl⟩:=hid;clear mV;go_wp2_with (go_at_call 22;refine Calls.mono (lH _ _) ?_;rintro _ _ ⟨rfl,rfl⟩);go_ret;refine⟨rfl,_,_,_,aN,bC,⟨Aa.out.1,Aa.out.2.2.1,Aa.out.2.1,HW.out.twin,HW.out.at_,Aa.out.2.2.2.1⟩,?_,Aa.out.2.2.2.2⟩
       ·refine fun q=>⟨.inl,?_,?_⟩ <;> rintro (h | h)
        ·exact .inl h
        ·have:=h.1;exact .inr (by omega)
        ·exact .inl h
        ·have:=h.1;exact .inr (by omega)
end
variable {ft:CX}
theorem eW.below {w w':World}{a:Option Addr}{m:Nat}{es:List aK}(h:eW w a m es)(hb:Below w.heap.size w w'):eW w' a m es:=
 ⟨h.1,fun hp=>by
  obtain⟨b,off,ha,hbl,hc⟩:=h.2 hp
  exact⟨b,off,ha,cv hbl hb.size,fun j u hu=>(hb.cell (p:=⟨b,off+j,none⟩) hbl).trans (hc j u hu)⟩⟩
section
variable {FL FR FS FH:Nat->Prop}{w:World}{W s r:Nat}{ag au:List Ob}{c5 c6 c7 c8 c9 c10 c11:Value}{ea:Option Addr}{ec q:Nat}{hs:List fK}
theorem C3 {w1 w':World}(hb:Below w.heap.size w w1)(h:Stepped ft FL FR FS w1 w' W s r c5 c6 c7 c8 c9 c10 c11):Stepped ft FL FR FS w w' W s r c5 c6 c7 c8 c9 c10 c11:=by
 obtain⟨s8,sx,sy,aN,bC,h3,hs,hk⟩:=h;exact⟨s8,sx,sy,aN,bC,h3,hs.mono hb.size,ax.after hk hb⟩
theorem Fv (h:W3 ft FL FR FS w W s r ag au c5 c6 c7 c8 c9 c10 c11)(a1 a2 a3:Int)(S T:ByteArray)(la:Option Addr)(lm lc:Nat)(es:List aK)(hl:eW w la lm es)(jl:lm<=2097152)(hsz:∀e ∈ es,e.1.size<=maxLen):
  Calls Tryz.prog 20 #[.pointer (some ⟨W,0,none⟩),.agg #[.int .i64 2,.int .i64 a1,.int .i64 a2,.int .i64 a3,.string S,.string T,.slice la lm lc]] w fun e w'=>e=.returned (.bool true)/\Stepped ft FL FR FS w w' W s r c5 c6 c7 c8 c9 c10 c11:=by
 have b1:∀B,Below w.heap.size w (w.alloc B):=fun B=>(Below.refl _ _).alloc (bA _) _;have hput:=fun B=>V8 (h.below (b1 B)) 2 a1 a2 a3 S T la lm lc es (hl.below (b1 B)) jl hsz;have HP:Hid _:=hput;clear hput h hl hsz;go_enter Tryz.func20,Tryz.ntmps20;go_wp2_with (go_at_call 38;refine Calls.mono (HP.out _) ?_;rintro _ w4 ⟨rfl,hk4⟩;have Zu:Hid _:=C3 (b1 _) hk4;clear hk4);go_ret;exact⟨rfl,Zu.out⟩
structure Step where
 kind:Int
 a1:Int
 a2:Int
 a3:Int
 S:ByteArray
 T:ByteArray
 la:Option Addr
 lm:Nat
 lc:Nat
 es:List aK
def Step.val (o:Step):Value:=.agg #[.int .i64 o.kind,.int .i64 o.a1,.int .i64 o.a2,.int .i64 o.a3,.string o.S,.string o.T,.slice o.la o.lm o.lc]
structure Step.Fits (o:Step)(w:World):Prop where
 S:o.S.size<=maxLen
 list:eW w o.la o.lm o.es
 many:o.lm<=2097152
 names:∀e ∈ o.es,e.1.size<=maxLen
 sS:o.S.size<=1048576
 sT:o.T.size<=1048576
 acE:-9223372036854775808<=o.a1/\o.a1<=9223372036854775807
theorem La (h:W3 ft FL FR FS w W s r ag au c5 c6 c7 c8 (.slice ea (4*q) ec) c10 c11)(hh:Held FH w ea ec q hs)(hap:∀k,FH k->¬F3 FL FR FS k)(hq:4*q<=1000000000)(o:Step)(ho:o.Fits w)(hk:1<=o.kind/\o.kind<=5):
  Calls Tryz.prog 20 #[.pointer (some ⟨W,0,none⟩),o.val] w fun e w'=>e=.returned (.bool true)/\∃q',q'<=q+1/\rK ft FL FR FS FH w w' W s r q' c5 c6 c7 c8 c10 c11:=by
 obtain⟨kind,a1,a2,a3,S,T,la,lm,lc,es⟩:=o;have of:∀{w'},Stepped ft FL FR FS w w' W s r c5 c6 c7 c8 (.slice ea (4*q) ec) c10 c11->∃q',q'<=q+1/\rK ft FL FR FS FH w w' W s r q' c5 c6 c7 c8 c10 c11:=fun hs=>⟨q,Nat.le_succ _,xg h hh hap hs⟩;have hc:kind=1\/kind=2\/kind=3\/kind=4\/kind=5:=by simp only at hk;omega
 rcases hc with rfl | rfl | rfl | rfl | rfl
 ·exact (CZ h a1 a2 a3 S T la lm lc ho.S).mono fun e w' ⟨he,hs⟩=>⟨he,of hs⟩
 ·exact (Fv h a1 a2 a3 S T la lm lc es ho.list ho.many ho.names).mono fun e w' ⟨he,hs⟩=>⟨he,of hs⟩
 ·exact (C0 h a1 a2 a3 S T la lm lc).mono fun e w' ⟨he,hs⟩=>⟨he,of hs⟩
 ·exact (Fq h hh hap hq a1 a2 a3 S T la lm lc).mono fun e w' ⟨he,hs⟩=>⟨he,q+1,bA _,hs⟩
 ·exact (C1 h a1 a2 a3 S T la lm lc).mono fun e w' ⟨he,hs⟩=>⟨he,of hs⟩
end
variable {ft:CX}
variable {ft:CX}
theorem Lb (W:World)(es:List aK)(t:TypeId)(cs:Array Value)(hcs:cs=(flat es).toArray):eW (W.alloc (.cells cs t)) (some ⟨W.heap.size,0,none⟩) es.length es:=by
 refine⟨rfl,fun _=>⟨W.heap.size,0,rfl,by simp,fun j u hu=>?_⟩⟩
 have:=jL W (flat es) t j u hu
 rw[oC] at this;rw[hcs];exact this
def BF:aK:=(⟨#[120]⟩,1,1)
def Iu:aK:=(⟨#[100]⟩,2,2)
def Iw:aK:=(⟨#[97]⟩,1,1)
theorem Ix (W:World)(es:List aK)(t:TypeId)(cs:Array Value)(hcs:cs=(flat es).toArray)(hl:es.length<=16)(hs:∀e ∈ es,e.1.size<=12)(n:Nat)(hn:n=es.length):(Step.mk 2 0 0 0 ⟨#[]⟩ ⟨#[]⟩ (some ⟨W.heap.size,0,none⟩) n n es).Fits (W.alloc (.cells cs t)):=by
 subst hn;exact⟨show ByteArray.size ⟨#[]⟩<=maxLen by decide,Lb W es t cs hcs,eU hl (by decide),fun e he=>eU (hs e he) (by decide),show ByteArray.size ⟨#[]⟩<=1048576 by decide,show ByteArray.size ⟨#[]⟩<=1048576 by decide,⟨show (-9223372036854775808:Int)<=0 by decide,show (0:Int)<=9223372036854775807 by decide⟩⟩
variable {ft:CX}
structure xh (w:World)(a:Option Addr)(n:Nat)(ops:List Step):Prop where
 len:ops.length=n
 many:n<=1048576
 cells:∀i (hi:i<ops.length),∃b off,a=some ⟨b,off,none⟩/\b<w.heap.size/\w.cell? ⟨b,off+i*7,none⟩=some (.int .i64 ops[i].kind)/\w.cell? ⟨b,off+i*7+1,none⟩=some (.int .i64 ops[i].a1)/\w.cell? ⟨b,off+i*7+2,none⟩=some (.int .i64 ops[i].a2)/\w.cell? ⟨b,off+i*7+3,none⟩=some (.int .i64 ops[i].a3)/\
  w.cell? ⟨b,off+i*7+4,none⟩=some (.string ops[i].S)/\w.cell? ⟨b,off+i*7+5,none⟩=some (.string ops[i].T)/\w.cell? ⟨b,off+i*7+6,none⟩=some (.slice ops[i].la ops[i].lm ops[i].lc)
 fits:∀o ∈ ops,o.Fits w
theorem Step.Fits.below {o:Step}{w w':World}(h:o.Fits w)(hb:Below w.heap.size w w'):o.Fits w':=⟨h.S,h.list.below hb,h.many,h.names,h.sS,h.sT,h.acE⟩
end Go.Proofs.YtlgidcmmgohagaaGreat
namespace Go.Proofs.YtlgidcmmgohagaaGreat
open Go.RowKit Go.Sort Go.Shelf Go.ChangeShapes Go.WideShapes Go.Deep
set_option linter.unusedVariables false
theorem nE:Tryz.prog.cellsOf 96=3:=by kernel_rfl
theorem nOp:Tryz.prog.cellsOf 57=7:=by kernel_rfl
theorem acF:Tryz.prog.cellsOf 9=1:=by kernel_rfl
theorem acG:Tryz.prog.cellsOf 3=1:=by kernel_rfl
theorem nID:Tryz.prog.cellsOf 29=1:=by kernel_rfl
theorem nEs:Tryz.prog.cellsOf 55=1:=by kernel_rfl
theorem S0 {H:Type}(d:DataW H):1<=Rows.uptoBulk d:=by
 cases d with
 | lit l=>cases l <;> simp[Rows.uptoBulk]
 | _=>simp[Rows.uptoBulk]
theorem tj {H:Type}{d:DataW H}:∀{l:List (DataW H)},d ∈ l->Rows.uptoBulk d<=Rows.uptoBulkAll l
 | x :: r,h=>by
  simp only[Rows.uptoBulkAll]
  rcases List.mem_cons.1 h with e | e
  ·rw[e];omega
  ·have:=tj e;omega
theorem D1 {H:Type}:∀(l:List (DataW H)),l.length<=Rows.uptoBulkAll l
 | []=>dG _
 | x :: r=>by
  have:=D1 r
  have:=S0 x
  simp only[Rows.uptoBulkAll,List.length_cons];omega
theorem BG {H:Type}(es sp:List (DataW H)):es.length<=Rows.uptoBulk (.slice es sp)/\∀d ∈ es,Rows.uptoBulk d<=Rows.uptoBulk (.slice es sp):=by
 have h1:=D1 es;simp only[Rows.uptoBulk];exact⟨by omega,fun d hd=>by have:=tj hd;omega⟩
theorem BH {H:Type}(ps:List (DataW H)):∀d ∈ ps,Rows.uptoBulk d<=Rows.uptoBulk (.agg ps):=fun d hd=>by
 have:=tj hd
 simp only[Rows.uptoBulk]
 omega
theorem D2 {w:World}{a:Addr}{i:Nat}{v:Value}(hs:a.spot=none)(h:w.cell? (a.add i)=some v):w.cell? ⟨a.block,a.off+i,none⟩=some v:=by
 obtain⟨b,o,sp⟩:=a;simp only at hs;subst hs;rw[oC] at h;exact h
theorem add_block (a:Addr)(n:Nat):(a.add n).block=a.block:=by unfold Addr.add;split <;> rfl
section
variable {H:Type}{enc:TypeId×Value->H}{w:World}{base:Nat}{sp:Nat->Bool}{held:Bool}
set_option maxRecDepth 100000 in
theorem Iy {n:Nat}{cs:List Value}{x:DataW H×List MemPlace}(h:DataW.trod enc Tryz.prog w base sp held n 96 cs=some x):∃e:aK,cs=bL e/\e.1.size<=maxLen:=by
 obtain⟨y0,y1,y2,n',_,hl,h0,h1,h2⟩:=trod_struct3 Tryz.underlying96 h;rw[nE] at hl
 match cs,hl with
 | [v0,v1,v2],_=>
  simp only[acF,acG,nID,List.drop_zero,List.drop_succ_cons,List.take_succ_cons,List.take_zero] at h0 h1 h2;obtain⟨s,e0,_,hs⟩:=DataW.trod_string Tryz.underlying9 h0;obtain⟨k,e1,_,_⟩:=DataW.trod_int Tryz.underlying3 h1;obtain⟨i,e2,_,_⟩:=DataW.trod_int Tryz.underlying29 h2;simp only[List.cons.injEq,and_true] at e0 e1 e2;subst e0;subst e1;subst e2;exact⟨(s,k,i),rfl,hs⟩
theorem Pb {a:Addr}{len:Nat}(f:Nat->aK)(hs:0<len->a.spot=none/\a.block<w.heap.size)(hc:∀i,i<len->∀j,j<3->w.cell? ⟨a.block,a.off+(i*3+j),none⟩=(bL (f i))[j]?):eW w (some a) len ((List.range len).map f):=by
 refine⟨by simp,fun hp=>⟨a.block,a.off,?_,(hs hp).2,fun j u hu=>?_⟩⟩
 ·have:=(hs hp).1
  obtain⟨b,o,s⟩:=a;simp only at this;subst this;rfl
 ·have hj:j<len*3:=by
   have:=(List.getElem?_eq_some_iff.1 hu).1
   rw[bl] at this;simpa using this
  have hi:j / 3<len:=by omega
  have e:j=j / 3*3+j % 3:=by omega
  rw[e] at hu ⊢;rw[fZ _ (j / 3) (j % 3) (by simpa using hi) (by omega)] at hu;rw[hc (j / 3) hi (j % 3) (by omega),<-hu];simp
theorem Pc {n:Nat}{v:Value}{x:DataW H×List MemPlace}(h:DataW.trod enc Tryz.prog w base sp held n 55 [v]=some x):
  ∃la lm lc es,v=.slice la lm lc/\eW w la lm es/\(∀e ∈ es,e.1.size<=maxLen)/\lm<=Rows.uptoBulk x.1:=by
 rcases open_slice Tryz.underlying55 h with ⟨hc,hx⟩ | ⟨a,len,cap,m,n',D,Pl,hc,hb,hl,hm,EL,hx,hall⟩
 ·simp only[List.cons.injEq,and_true] at hc
  exact⟨none,0,0,[],hc,⟨rfl,fun h=>absurd h (Nat.lt_irrefl _)⟩,(fun e he=>by cases he),dG _⟩
 ·simp only[List.cons.injEq,and_true] at hc
  have O0:len<=m:=by rw[EL];split <;> omega
  rw[nE] at hall;have ZC:∀i,i<len->a.spot=none:=fun i hi=>by
   obtain⟨cs,h1,h2⟩:=hall 0 (by omega);obtain⟨e,rfl,_⟩:=Iy h2;obtain⟨_,_,hcell⟩:=World.cells?_some h1
   have:=World.cell?_spot (v:=.string e.1) (by rw[hcell 0 (by omega)];rfl)
   simpa [Addr.add] using this
  have each:∀i,i<len->∃e:aK,e.1.size<=maxLen/\a.spot=none/\a.block<w.heap.size/\∀j,j<3->w.cell? ⟨a.block,a.off+(i*3+j),none⟩=(bL e)[j]?:=fun i hi=>by
   obtain⟨cs,h1,h2⟩:=hall i (by omega);obtain⟨e,rfl,hes⟩:=Iy h2;obtain⟨_,_,hcell⟩:=World.cells?_some h1;have hbl:a.block<w.heap.size:=by
    have:=World.cells?_block h1 (by omega)
    rw[add_block] at this;exact this
   have hsp:=ZC i hi;refine⟨e,hes,hsp,hbl,fun j hj=>?_⟩;have Vd:j<(bL e).length:=by simpa [bL] using hj
   have:=hcell j hj
   rw[add_add,kO Vd] at this;rw[kO Vd];exact D2 hsp this
  obtain⟨f,hf⟩:=choose_lt each;refine⟨some a,len,cap,(List.range len).map f,hc,Pb f (fun hp=>⟨(hf 0 hp).2.1,(hf 0 hp).2.2.1⟩) (fun i hi=>(hf i hi).2.2.2),fun e he=>?_,?_⟩
  ·obtain⟨i,hi,rfl⟩:=List.mem_map.1 he
   exact (hf i (List.mem_range.1 hi)).1
  ·rw[hx]
   have:=(BG ((List.range len).map D) ((List.range (m-len)).map fun j=>D (len+j))).1
   simpa using this
instance:Inhabited Step:=⟨⟨0,0,0,0,ByteArray.empty,ByteArray.empty,none,0,0,[]⟩⟩
def Step.cells (o:Step):List Value:=[.int .i64 o.kind,.int .i64 o.a1,.int .i64 o.a2,.int .i64 o.a3,.string o.S,.string o.T,.slice o.la o.lm o.lc]
theorem Fw {P:Program}{t:TypeId}{f0 f1 f2 f3 f4 f5 f6:Field}{fuel:Nat}{cs:List Value}{x:DataW H×List MemPlace}(ht:P.underlying t=some (.struct #[f0,f1,f2,f3,f4,f5,f6]))(h:DataW.trod enc P w base sp held fuel t cs=some x):
  ∃y0 y1 y2 y3 y4 y5 y6 n,x.1=.agg [y0.1,y1.1,y2.1,y3.1,y4.1,y5.1,y6.1]/\cs.length=P.cellsOf t/\DataW.trod enc P w base sp held n f0.type ((cs.drop f0.offset).take (P.cellsOf f0.type))=some y0/\DataW.trod enc P w base sp held n f1.type ((cs.drop f1.offset).take (P.cellsOf f1.type))=some y1/\
   DataW.trod enc P w base sp held n f2.type ((cs.drop f2.offset).take (P.cellsOf f2.type))=some y2/\DataW.trod enc P w base sp held n f3.type ((cs.drop f3.offset).take (P.cellsOf f3.type))=some y3/\DataW.trod enc P w base sp held n f4.type ((cs.drop f4.offset).take (P.cellsOf f4.type))=some y4/\
   DataW.trod enc P w base sp held n f5.type ((cs.drop f5.offset).take (P.cellsOf f5.type))=some y5/\DataW.trod enc P w base sp held n f6.type ((cs.drop f6.offset).take (P.cellsOf f6.type))=some y6:=by
 obtain⟨xs,n,_,rfl,hl,hlen,hf⟩:=DataW.trod_struct ht h
 match xs,hlen with
 | [y0,y1,y2,y3,y4,y5,y6],_=>exact⟨y0,y1,y2,y3,y4,y5,y6,n,by simp,hl,by simpa using hf 0 f0 rfl,by simpa using hf 1 f1 rfl,by simpa using hf 2 f2 rfl,by simpa using hf 3 f3 rfl,by simpa using hf 4 f4 rfl,by simpa using hf 5 f5 rfl,by simpa using hf 6 f6 rfl⟩
set_option maxRecDepth 100000 in
theorem Ny {n:Nat}{cs:List Value}{x:DataW H×List MemPlace}(h:DataW.trod enc Tryz.prog w base sp held n 57 cs=some x)(hx:Rows.uptoBulk x.1<=1048576):∃o:Step,cs=o.cells/\o.Fits w:=by
 obtain⟨y0,y1,y2,y3,y4,y5,y6,n',Fx,hl,g0,g1,g2,g3,g4,g5,g6⟩:=Fw Tryz.underlying57 h;rw[nOp] at hl
 match cs,hl with
 | [v0,v1,v2,v3,v4,v5,v6],_=>
  simp only[acF,acG,nEs,List.drop_zero,List.drop_succ_cons,List.take_succ_cons,List.take_zero] at g0 g1 g2 g3 g4 g5 g6;obtain⟨i0,e0,_,_⟩:=DataW.trod_int Tryz.underlying3 g0;obtain⟨i1,e1,_,w1⟩:=DataW.trod_int Tryz.underlying3 g1;obtain⟨i2,e2,_,_⟩:=DataW.trod_int Tryz.underlying3 g2;obtain⟨i3,e3,_,_⟩:=DataW.trod_int Tryz.underlying3 g3;obtain⟨s4,e4,x4,S2⟩:=DataW.trod_string Tryz.underlying9 g4;obtain⟨s5,e5,x5,hs5⟩:=DataW.trod_string Tryz.underlying9 g5;obtain⟨la,lm,lc,es,e6,hL,hS,hB⟩:=Pc g6;simp only[List.cons.injEq,and_true] at e0 e1 e2 e3 e4 e5;subst e0;subst e1;subst e2;subst e3;subst e4;subst e5;subst e6;refine⟨⟨i0,i1,i2,i3,s4,s5,la,lm,lc,es⟩,rfl,⟨S2,hL,?_,hS,?_,?_,?_⟩⟩
  ·have h6:Rows.uptoBulk y6.1<=Rows.uptoBulk x.1:=by
    rw[Fx];exact BH _ _ (by simp)
   show lm<=2097152;omega
  ·have h6:Rows.uptoBulk y4.1<=Rows.uptoBulk x.1:=by
    rw[Fx];exact BH _ _ (by simp)
   rw[x4] at h6;have e:s4.data.toList.length=s4.size:=Array.length_toList;simp only[Rows.uptoBulk,e] at h6;show s4.size<=1048576;omega
  ·have h6:Rows.uptoBulk y5.1<=Rows.uptoBulk x.1:=by
    rw[Fx];exact BH _ _ (by simp)
   rw[x5] at h6;have e:s5.data.toList.length=s5.size:=Array.length_toList;simp only[Rows.uptoBulk,e] at h6;show s5.size<=1048576;omega
  ·simp[Lit.wf] at w1
   exact w1
theorem Iz {n:Nat}{v:Value}{x:DataW H×List MemPlace}(h:DataW.trod enc Tryz.prog w base sp held n 22 [v]=some x)(hx:Rows.uptoBulk x.1<=1048576):∃a len c ops,v=.slice a len c/\xh w a len ops:=by
 rcases open_slice Tryz.underlying22 h with ⟨hc,_⟩ | ⟨a,len,cap,m,n',D,Pl,hc,hb,hl,hm,EL,Fx,hall⟩
 ·simp only[List.cons.injEq,and_true] at hc
  exact⟨none,0,0,[],hc,⟨rfl,dG _,(fun i hi=>by cases hi),(fun o ho=>by cases ho)⟩⟩
 ·simp only[List.cons.injEq,and_true] at hc
  have O0:len<=m:=by rw[EL];split <;> omega
  rw[nOp] at hall;have S3:=BG ((List.range len).map D) ((List.range (m-len)).map fun j=>D (len+j));rw[Fx] at hx;have hlen:len<=1048576:=by
   have:=S3.1
   simp only[List.length_map,List.length_range] at this;have h2:Rows.uptoBulk (DataW.slice ((List.range len).map D) ((List.range (m-len)).map fun j=>D (len+j)))<=1048576:=hx;omega
  have ZC:∀i,i<len->a.spot=none:=fun i hi=>by
   obtain⟨cs,h1,h2⟩:=hall 0 (by omega);obtain⟨o,rfl,_⟩:=Ny h2 (eU (S3.2 (D 0) (List.mem_map_of_mem (List.mem_range.2 (by omega)))) hx);obtain⟨_,_,hcell⟩:=World.cells?_some h1
   have:=World.cell?_spot (v:=.int .i64 o.kind) (by rw[hcell 0 (by omega)];rfl)
   simpa [Addr.add] using this
  have each:∀i,i<len->∃o:Step,o.Fits w/\a.spot=none/\a.block<w.heap.size/\∀j,j<7->w.cell? ⟨a.block,a.off+(i*7+j),none⟩=(o.cells)[j]?:=fun i hi=>by
   obtain⟨cs,h1,h2⟩:=hall i (by omega);obtain⟨o,rfl,uO⟩:=Ny h2 (eU (S3.2 (D i) (List.mem_map_of_mem (List.mem_range.2 hi))) hx);obtain⟨_,_,hcell⟩:=World.cells?_some h1;have hbl:a.block<w.heap.size:=by
    have:=World.cells?_block h1 (by omega)
    rw[add_block] at this;exact this
   have hsp:=ZC i hi;refine⟨o,uO,hsp,hbl,fun j hj=>?_⟩;have Vd:j<(o.cells).length:=by simpa [Step.cells] using hj
   have:=hcell j hj
   rw[add_add,kO Vd] at this;rw[kO Vd];exact D2 hsp this
  obtain⟨f,hf⟩:=choose_lt each;refine⟨some a,len,cap,(List.range len).map f,hc,⟨by simp,hlen,fun i hi=>?_,fun o ho=>?_⟩⟩
  ·have vn:i<len:=by simpa using hi
   obtain⟨_,hsp,hbl,mH⟩:=hf i vn;have ha:a=⟨a.block,a.off,none⟩:=by
    obtain⟨b,o,s⟩:=a;simp only at hsp;subst hsp;rfl
   have hg:((List.range len).map f)[i]=f i:=by simp
   rw[hg];exact⟨a.block,a.off,by rw[<-ha],hbl,mH 0 (by omega),mH 1 (by omega),mH 2 (by omega),mH 3 (by omega),mH 4 (by omega),mH 5 (by omega),mH 6 (by omega)⟩
  ·obtain⟨i,hi,rfl⟩:=List.mem_map.1 ho
   exact (hf i (List.mem_range.1 hi)).1
end
end Go.Proofs.YtlgidcmmgohagaaGreat
