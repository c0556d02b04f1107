/- What is proved here: 'putDir' of the law's world. -/
import Derived.Test.YtlgidcmmgohagaaGreatFileM09
import Derived.Test.YtlgidcmmgohagaaGreatRows
import Derived.Deep.Slices
import Derived.Deep.Strs
namespace Go.Proofs.YtlgidcmmgohagaaGreat
open Go.RowKit Go.Sort Go.Shelf
set_option linter.unusedVariables false
set_option maxRecDepth 100000
set_option maxHeartbeats 16000000
variable {ft:PTp}
theorem listed_of_owns {w:World}{b:Nat}{t:TypeId}{a:Option Addr}{m c:Nat}{es:List Ent}(h:w.ownsRow b t 3 (.slice a m c) m (flat es)):ListedR w a m es:=by
 have hl:es.length=m:=by have:=h.1;rw[flat_len] at this;omega
 refine⟨hl,fun hp=>?_⟩;obtain⟨g,c',hv⟩:=slice_of_owns h hp;have ha:=(Value.slice.inj hv).1;subst ha;exact⟨g,0,rfl,ownsRow_lt h rfl,owns_cells h⟩
theorem row_past {F:Nat->Prop}{B:Nat}{w w':World}(hF:∀k,F k->k<B)(hk:Keeps F w w'){b:Nat}{t:TypeId}{sz n:Nat}{v:Value}{xs:List Value}(hr:w.ownsRow b t sz v n xs)(hb:B<=b):w'.ownsRow b t sz v n xs:=
 ownsRow_keep hr (fun g hg=>hk.block g (hr.lt g hg).2 (fun hf=>by have:=hF g hf;have:=(hr.lt g hg).1;omega))
theorem keeps_then {F:Nat->Prop}{w w1 w2:World}(a:Keeps F w w1)(b:Keeps F w1 w2):Keeps F w w2:=
 ⟨b.os.trans a.os,b.tape.trans a.tape,b.output.trans a.output,zzG a.size b.size,fun q hq hn=>(b.block q (zzA hq a.size) hn).trans (a.block q hq hn)⟩
theorem flat_left {es zs:List Ent}{j:Nat}{u:Value}(h:(flat es)[j]? = some u):(flat (es++zs))[j]? = some u:=by
 rw[flat_appendR,List.getElem?_append_left (List.getElem?_eq_some_iff.1 h).1];exact h
section
variable {FL FR FS FH:Nat->Prop}{w:World}{W s r:Nat}{objs ros:List Ob}{c5 c6 c7 c8 c9 c10 c11:Value}
theorem w3_placeZ (h:W3 ft FL FR FS w W s r objs ros c5 c6 c7 c8 c9 c10 c11)(x:Ent):Calls Tryz.prog 41 #[.pointer (some ⟨W,0,none⟩),.int .i64 x.2.2] w fun e w'=>e=.returned (.int .i64 (toAt objs.length x).2.2)/\w'=w:=by
 by_cases hN:1<=x.2.2/\x.2.2<=(objs.length:Int)
 ·obtain⟨j,hj⟩:∃j:Nat,x.2.2=(j:Int)+1:=⟨(x.2.2-1).toNat,by omega⟩
  have e:(toAt objs.length x).2.2=(j:Int):=by unfold toAt;rw[zzD hN];show x.2.2-1=_;omega
  rw[e,hj];exact w3_place h j (by omega)
 ·have e:(toAt objs.length x).2.2 = -1:=by unfold toAt;rw[zzB hN]
  rw[e];exact w3_noplace h _ (by omega)
theorem kept7 {w5 w6 w7:World}{b1 b2 gin k cl:Nat}{al:Option Addr}{es:List Ent}(h:W3 ft FL FR FS w W s r objs ros c5 c6 c7 c8 c9 c10 c11)(hk6:Keeps FS w5 w6)(hk7:Keeps FR w6 w7)(hol:w5.ownsRow b1 96 3 (.slice al k cl) k (flat es))(hin:w5.ownsRow b2 96 3 (.slice (some ⟨gin,0,none⟩) (k+3) (k+3)) (k+3) (flat (es++List.replicate 3 mk77)))
  (hb1:w.heap.size<=b1)(hb2:w.heap.size<=b2)(hbig:k<=2097152)(hnil:k=0->al=none/\cl=0):
  Calls Tryz.prog 83 #[.slice (some ⟨gin,0,none⟩) (k+3) (k+3),.slice al k cl] w7 (fun e w'=>e=.returned (.bool true)/\Below w7.heap.size w7 w')/\w7.ownsRow b2 96 3 (.slice (some ⟨gin,0,none⟩) (k+3) (k+3)) (k+3) (flat (es++List.replicate 3 mk77)):=by
 have f6:∀k,FS k->k<w.heap.size:=fun k hk=>(h.sep.sl k hk).1;have f7:∀k,FR k->k<w.heap.size:=fun k hk=>(h.sep.rl k hk).1;have h7:=row_past f7 hk7 (row_past f6 hk6 hin hb2) hb2;exact⟨kept_gen gin al k cl es w7 (listed_of_owns (row_past f7 hk7 (row_past f6 hk6 hol hb1) hb1)) (by omega) hnil b2 h7,h7⟩
theorem toAt_ok {n:Nat}{es:List Ent}(hs:∀e ∈ es,e.1.size<=maxLen):(∀e ∈ es.map (toAt n),e.1.size<=maxLen)/\∀e ∈ es.map (toAt n),-1<=e.2.2/\e.2.2<(n:Int):=by
 constructor
 ·intro e he
  obtain⟨e0,h0,rfl⟩:=List.mem_map.1 he;exact hs e0 h0
 ·intro e he
  obtain⟨e0,h0,rfl⟩:=List.mem_map.1 he;unfold toAt;split
  ·next hh=>exact⟨show -1<=e0.2.2-1 by omega,show e0.2.2-1<(n:Int) by omega⟩
  ·exact⟨show (-1:Int)<=-1 by omega,show (-1:Int)<(n:Int) by omega⟩
theorem wputDir (h:W3 ft FL FR FS w W s r objs ros c5 c6 c7 c8 c9 c10 c11)(k0 a1 a2 a3:Int)(S T:ByteArray)(la:Option Addr)(lm lc:Nat)(es:List Ent)(hl:ListedR w la lm es)(hbig:lm<=2097152)(hsz:∀e ∈ es,e.1.size<=maxLen):
  Calls Tryz.prog 38 #[.pointer (some ⟨W,0,none⟩),.agg #[.int .i64 k0,.int .i64 a1,.int .i64 a2,.int .i64 a3,.string S,.string T,.slice la lm lc]] w fun e w'=>e=.returned (.bool true)/\Stepped ft FL FR FS w w' W s r c5 c6 c7 c8 c9 c10 c11:=by
 obtain⟨i0,hi,hz0,hz1,hz2⟩:=info_parts infoE;obtain⟨iI,hI,hI0,hI1,hI2⟩:=info_parts infoItem;have HW:Hid (W3 ft FL FR FS w W s r objs ros c5 c6 c7 c8 c9 c10 c11):=h;obtain⟨p0,p1,hWl,hFW⟩:=h.law.cells;obtain⟨B,hB⟩:∃B:Obj,B=.cells #[.int .i64 k0,.int .i64 a1,.int .i64 a2,.int .i64 a3,.string S,.string T,.slice la lm lc] 57:=⟨_,rfl⟩;obtain⟨w1,hw1⟩:∃w1,w1=w.alloc B:=⟨_,rfl⟩;have hb0:Below w.heap.size w w1:=by rw[hw1];exact (Below.refl _ _).alloc (zzC _) B
 have b6:w1.cell? ⟨w.heap.size,6,none⟩=some (.slice la lm lc):=by rw[hw1,hB];simp
 have hs1:w.heap.size<w1.heap.size:=by rw[hw1];simp
 have H1:Hid (W3 ft FL FR FS w1 W s r objs ros c5 c6 c7 c8 c9 c10 c11):=h.below hb0;have HL:Hid (ListedR w la lm es):=hl;have HS:Hid (∀e ∈ es,e.1.size<=maxLen):=hsz;obtain⟨n,hn⟩:∃n,n=objs.length:=⟨_,rfl⟩;have HN:Hid (n=objs.length):=hn;clear h hl hsz hn;go_enter Tryz.func38,Tryz.ntmps38;go_wp2;rw[<-hB,<-hw1];clear hB hw1
 go_loopw [5,6,7] (fun l m i wr=>∃(k:Nat) (al:Option Addr) (cl:Nat) (am:Option Addr) (cm:Nat),k<=lm/\i=.int .i64 (k:Int)/\l=.slice al k cl/\m=.slice am k cm/\Below w1.heap.size w1 wr/\Hid (wr.ownsRow w1.heap.size 96 3 (.slice al k cl) k (flat (es.take k)))/\Hid (wr.ownsRow w1.heap.size 112 3 (.slice am k cm) k (flat ((es.take k).map (toAt n))))/\Hid (k=0->al=none/\cl=0)) (fun _ _ i _=>lm-(intOf i).toNat)
 case atStart=>exact⟨0,none,0,none,0,zzF _,rfl,rfl,rfl,Below.refl _ _,World.ownsRow_nil _ _ _ _,World.ownsRow_nil _ _ _ _,fun _=>⟨rfl,rfl⟩⟩
 case round=>
  obtain⟨k,al,cl,am,cm,hk,rfl,rfl,rfl,hb,HOL,HOM,HNIL⟩:=hrel;have hsz1:=hb.size;have b6r:=(hb.cell (p:=⟨w.heap.size,6,none⟩) (by show w.heap.size<_;omega)).trans b6;by_cases hlt:k<lm
  ·obtain⟨b,off,hla,hbl,hc⟩:=HL.out.2 (by omega)
   have hke:k<es.length:=by rw[HL.out.1];exact hlt
   obtain⟨c0,c1,c2⟩:=row_cells hc hke;obtain⟨x,hx⟩:∃x,x=es[k]:=⟨_,rfl⟩;rw[<-hx] at c0 c1 c2;have hbw:Below w.heap.size w wr:=hb0.trans (hb.mono (by omega));have x0:=(hbw.cell (p:=⟨b,off+k*3,none⟩) hbl).trans c0;have x1:=(hbw.cell (p:=⟨b,off+k*3+1,none⟩) hbl).trans c1;have x2:=(hbw.cell (p:=⟨b,off+k*3+2,none⟩) hbl).trans c2;have hblr:b<wr.heap.size:=by omega
   rw[hla] at b6r;have HX:Hid (x=es[k]):=hx;have HID:Hid (∀X,Calls Tryz.prog 39 #[.pointer (some ⟨W,0,none⟩),.int .i64 x.2.2] (wr.alloc X) fun e w'=>e=.returned (.int .i64 x.2.2)/\w'=wr.alloc X):=fun X=>w3_id (H1.out.below (hb.alloc hb.size X)) x.2.2
   have hkm:(k:Int)<(lm:Int):=by omega
   clear hc c0 c1 c2 hx hla;go_wp2_with (first | (go_at_call 39;refine Calls.mono (HID.out _) ?_;rintro _ _ ⟨rfl,rfl⟩) | (at_builtin;refine wpList_append_own _ rfl (.tmp 33) (.tmp 40) 55 rfl w1.heap.size 96 i0 _ 3 32 Tryz.underlying55 hi hz0 hz1 hz2 rfl (by decide) _ _ _ rfl ((HOL.out.alloc _).alloc _) ⟨wr.heap.size+1,0,none⟩ 1 1 (encE x) rfl rfl (item_cells (wr.alloc _) x _ _ (by simp)) (encE_one x) (by unfold maxLen;omega) (by omega) (by simp;omega) ?_));intro v' w2 hown' hgrow _;have hB:w1.heap.size<=((wr.alloc (Obj.cells #[Value.string x.fst,Value.int IntKind.i64 x.snd.fst,Value.int IntKind.i64 x.snd.snd] 96)).alloc (Obj.cells #[Value.string x.fst,Value.int IntKind.i64 x.snd.fst,Value.int IntKind.i64 x.snd.snd] 96)).heap.size:=by simp;omega
   have hb2:Below w1.heap.size w1 w2:=grown_own ((hb.alloc hb.size _).alloc (by simp;omega) _) hB ((HOL.out.alloc _).alloc _) hgrow;have hnb:some wr.heap.size≠(Value.slice al k cl).ownBlock:=fun e=>by have:=ownsRow_lt HOL.out e.symm;omega
   have hblk:=hgrow.block wr.heap.size (by simp;omega) hnb;have e0:w2.cell? ⟨wr.heap.size,0,none⟩=some (.string x.1):=(World.cell?_of_block (a:=⟨wr.heap.size,0,none⟩) hblk).trans (by simp);have e1:w2.cell? ⟨wr.heap.size,1,none⟩=some (.int .i64 x.2.1):=(World.cell?_of_block (a:=⟨wr.heap.size,1,none⟩) hblk).trans (by simp);have HOL2:Hid (w2.ownsRow w1.heap.size 96 3 v' (k+1) (flat (es.take (k+1)))):=by show World.ownsRow _ _ _ _ _ _ _;rw[<-take_snoc hke,<-HX.out];exact hown'
   have HOM2:Hid (w2.ownsRow w1.heap.size 112 3 (.slice am k cm) k (flat ((es.take k).map (toAt n)))):=ownsRow_keep HOM.out (fun g hg=>by
    have hl:=ownsRow_lt HOM.out hg;rw[hgrow.block g (by simp;omega) (rows_apart HOM.out HOL.out (by decide) hg),Below.heap_alloc _ _ _ (by simp;omega),Below.heap_alloc _ _ _ hl])
   have hs2:wr.heap.size<w2.heap.size:=by have:=hgrow.size;simp at this;omega
   have HPL:Hid (∀q,Calls Tryz.prog 41 #[.pointer (some ⟨W,0,none⟩),.int .i64 x.2.2] (w2.drewN q) fun e w'=>e=.returned (.int .i64 (toAt n x).2.2)/\w'=w2.drewN q):=fun q=>by rw[HN.out];exact w3_placeZ (H1.out.below (below_drewN hb2 q)) x
   obtain⟨al',cl',rfl⟩:=owns_form hown';clear hown' hgrow hB hblk hnb HID x0 x1 x2;go_wp2
   go_region_law (first
    | (refine step_append_own_at rfl (.tmp 42) (.tmp 51) 106 rfl w1.heap.size 112 iI _ 3 32 Tryz.underlying106 hI hI0 hI1 hI2 rfl (by decide) (.slice am k cm) k (flat ((es.take k).map (toAt n))) (by simp[Act.eval]) (World.ownsRow.alloc (show w2.drew.ownsRow _ _ _ _ _ _ from HOM2.out) _) ⟨w2.heap.size,0,none⟩ 1 1 (encE (toAt n x)) (by simp[Act.eval]) rfl (item_cells w2.drew (toAt n x) _ _ rfl) (encE_one _) (by unfold maxLen;omega) (by omega) (by have:=hb2.size;simp;omega) ?_;intro v'' w3 hown'' hgrow'' _)
    | (go_simp;go_at_call 41;refine Calls.mono (HPL.out 1) ?_;rintro _ _ ⟨rfl,rfl⟩))
   all_goals
    have hb3:Below w1.heap.size w1 w3:=grown_own ((below_drewN hb2 1).alloc hb2.size _) (by have:=hb2.size;simp;omega) (World.ownsRow.alloc (show (w2.drewN 1).ownsRow _ _ _ _ _ _ from HOM2.out) _) hgrow'';have HOM3:Hid (w3.ownsRow w1.heap.size 112 3 v'' (k+1) (flat ((es.take (k+1)).map (toAt n)))):=by
     show World.ownsRow _ _ _ _ _ _ _;rw[zzI hke,List.map_append,List.map_cons,List.map_nil,flat_appendR,flat_one_item,<-HX.out];exact hown''
    have HOL3:Hid (w3.ownsRow w1.heap.size 96 3 (.slice al' (k+1) cl') (k+1) (flat (es.take (k+1)))):=ownsRow_keep HOL2.out (fun g hg=>by
     have hl:=ownsRow_lt HOL2.out hg;rw[hgrow''.block g (by simp;omega) (rows_apart HOL2.out HOM2.out (by decide) hg),Below.heap_alloc _ _ _ (show g<(w2.drewN 1).heap.size from hl)];rfl)
    obtain⟨am',cm',rfl⟩:=owns_form hown'';clear hown'' hgrow'';go_wp2;go_roundw
    case rel=>exact⟨k+1,al',cl',am',cm',by omega,by go_num,rfl,rfl,hb3,HOL3.out,HOM3.out,fun e=>by omega⟩
    case measure=>simp[intOf];omega
  ·have hkl:k=lm:=by omega
   subst hkl;have hnl:decide ((k:Int)<(k:Int))=false:=zzE (by omega);have ht:es.take k=es:=List.take_of_length_le (by rw[HL.out.1];exact zzC _);rw[ht] at HOL HOM;have hlent:=lent_gen al k cl es wr (listed_of_owns HOL.out) (by omega) HNIL.out;have HLE:Hid _:=hlent;clear hlent ht;go_wp2_with (go_at_call 81;refine Calls.mono HLE.out ?_;rintro _ w5 ⟨gin,rfl,hin,hb5⟩;have HIN:Hid _:=hin;clear hin;have hb51:Below w1.heap.size w1 w5:=hb.trans (hb5.mono hb.size);have m0:=(LawS.cells (H1.out.below hb51).law).1;have mW:=(LawS.cells (H1.out.below hb51).law).2.2.1);have hbw5:Below w.heap.size w w5:=hb0.trans (hb51.mono (by omega));have H5:Hid (W3 ft FL FR FS w5 W s r objs ros c5 c6 c7 c8 c9 c10 c11):=H1.out.below hb51;have HOL5:Hid (w5.ownsRow w1.heap.size 96 3 (.slice al k cl) k (flat es)):=ownsRow_keep HOL.out (fun g hg=>hb5.block g (ownsRow_lt HOL.out hg));have HOM5:Hid (w5.ownsRow w1.heap.size 112 3 (.slice am k cm) k (flat (es.map (toAt n)))):=ownsRow_keep HOM.out (fun g hg=>hb5.block g (ownsRow_lt HOM.out hg));have hgin:w1.heap.size<=gin/\gin<w5.heap.size:=by have:=World.ownsRow.lt HIN.out gin rfl;exact⟨zzG hb.size this.1,this.2⟩
   have hpd:=storePutDirQ (HW.out.below (below_drewN hbw5 1)).sto gin 0 k (k+3) es HL.out.1 hgin.2 (by omega) (fun j u hu=>owns_cells HIN.out j u (flat_left hu)) HS.out;have HPD:Hid _:=hpd;have hs5:w1.heap.size<=w5.heap.size:=hb51.size;have hwr1:w1.heap.size<=wr.heap.size:=hb.size;clear hpd HOL HOM b6r b6
   go_region_with (first | (go_at_call 26;refine Calls.mono HPD.out ?_;rintro e w6 ⟨objs',hfp,hinv,hkp⟩;obtain⟨id,ecc,he⟩:=hfp.shape;have HFP:Hid (DirPutG objs objs' es e):=hfp;have HE:Hid (e=.returned (.tuple #[.int .i64 id,.int .i64 ecc])):=he;rw[he];clear hfp he))
   all_goals
    have hkp':Keeps FS w5 w6:=⟨hkp.os,hkp.tape,hkp.output,hkp.size,hkp.block⟩;have HI6:Hid (InvQ ft (NewF FS w5 w6) w6 s objs'):=hinv;have HKP:Hid (Keeps FS w5 w6):=hkp';have hs6:w5.heap.size<=w6.heap.size:=hkp'.size;have m1:w6.cell? ⟨W,1,none⟩=some (.pointer (some ⟨r,0,none⟩)):=(World.cell?_of_block (a:=⟨W,1,none⟩) (hkp'.block W mW (fun hf=>(HW.out.sep.sl W hf).2 hFW))).trans (LawS.cells H5.out.law).2.1;have mW6:W<w6.heap.size:=by omega
    have R6:RefInv FR w6 r ros:=HW.out.ref.keep (fun _ h=>h) (fun q hq=>(hkp'.block q (by have:=(HW.out.sep.rl q hq).1;omega) (HW.out.sep.rs q hq)).trans (hbw5.block q (HW.out.sep.rl q hq).1));have HOM6:=row_past (fun q hq=>(HW.out.sep.sl q hq).1) hkp' HOM5.out (Nat.le_of_lt hs1);have hto:=toAt_ok (n:=n) HS.out;have hrd:=rputDir_any R6 am k cm (es.map (toAt n)) (listed_of_owns HOM6) (by omega) hto.1 (by rw[<-HW.out.twin.1,<-HN.out];exact hto.2);have HRD:Hid _:=hrd;clear hrd hto HOM6 R6 hkp' hkp hinv HPD
    go_frame
    go_wp2_with (first
     | (go_at_call 82;refine Calls.mono HRD.out ?_;rintro _ w7 ⟨x,y,ros',rfl,hrp,hri,hrk⟩;have HAF:Hid _:=put_dir_facts HW.out hbw5 HKP.out HI6.out hrk hri HFP.out (by rw[<-HN.out];exact hrp) HE.out;have HKT:Hid _:=kept7 HW.out HKP.out hrk HOL5.out HIN.out (Nat.le_of_lt hs1) (by omega) hbig HNIL.out;have hs7:=hrk.size;clear hrp hri hrk)
     | (go_at_call 83;refine Calls.mono HKT.out.1 ?_;rintro _ w8 ⟨rfl,hb8⟩))
    have HR8:Hid (w8.ownsRow 0 96 3 (.slice (some ⟨gin,0,none⟩) (k+3) (k+3)) (k+3) (flat (es++List.replicate 3 mk77))):=ownsRow_keep (owns_mono HKT.out.2 (zzF _)) (fun g hg=>hb8.block g (ownsRow_lt HKT.out.2 hg));clear HRD HOL5 HOM5 HIN HKT m0 m1
    go_loopw [16] (fun i wq=>∃d:Nat,d<=k+3/\i=.int .i64 (d:Int)/\Hid (Keeps (fun q=>q=gin) w8 wq)/\Hid (∃xs,wq.ownsRow 0 96 3 (.slice (some ⟨gin,0,none⟩) (k+3) (k+3)) (k+3) xs)) (fun i _=>k+3-(intOf i).toNat)
    case atStart=>exact⟨0,zzF _,rfl,Keeps.refl _,⟨_,HR8.out⟩⟩
    case round=>
     obtain⟨d,hd,rfl,HK,HXS⟩:=hrel;obtain⟨xs,hown⟩:=HXS.out;by_cases hdl:d<k+3
     ·have hfz:=fun j=>hown.frozenAt j
      have hcs:∀j,j<3->∃v,wr.cell? ⟨gin,d*3+j,none⟩=some v:=fun j hj=>by
       rw[hown.cellAt (d*3+j) (by omega)];exact⟨_,zzH (by rw[hown.1];omega)⟩
      obtain⟨v0,e0⟩:=hcs 0 (by omega);obtain⟨v1,e1⟩:=hcs 1 (by omega);obtain⟨v2,e2⟩:=hcs 2 (by omega);rw[Nat.add_zero] at e0;have hnm:(d:Int)<(k:Int)+3:=by omega
      have hgl:gin<wr.heap.size:=ownsRow_lt hown rfl;have HO:Hid (wr.ownsRow 0 96 3 (.slice (some ⟨gin,0,none⟩) (k+3) (k+3)) (k+3) xs):=hown;clear hcs HXS hown;go_wp2;refine⟨⟨d+1,by omega,by go_num,keeps_then (keeps_then (keeps_then HK.out (keeps_set rfl)) (keeps_set rfl)) (keeps_set rfl),⟨_,(World.ownsRow.stored (World.ownsRow.stored (World.ownsRow.stored HO.out _ _).1 _ _).1 _ _).1⟩⟩,by simp[intOf];omega⟩
     ·have hnl:decide ((d:Int)<(k:Int)+3)=false:=zzE (by omega)
      obtain⟨hA,A1,A2,A3,A4,A5,A6⟩:=HAF.out;have hK9:Keeps (fun q=>q=gin) w7 wr:=keeps_then (Keeps.of_below hb8) HK.out;have hF:=facts_stay A1 A2 A3 A4 A6 hK9 (fun hf=>by have:=HW.out.sep.ll gin hf;omega) (fun hf=>by
       rcases hf with hf | hf
       ·have:=(HW.out.sep.rl gin hf).1;omega
       ·have:=hf.1;omega) (fun hf=>by
       rcases hf with hf | hf
       ·have:=(HW.out.sep.sl gin hf).1;omega
       ·have:=hf.1;omega) (by omega)
      have HFF:Hid _:=hF;have HA5:Hid (Below0 ros'):=A5;have HAG:Hid (Agreed objs objs' ros ros' id ecc x y):=hA;have hnum:=fun (e:Int) (W':World)=>num_any e W';obtain⟨hec,_,hcase⟩:=hA;subst hec;clear hown HXS hF A1 A2 A3 A4 A5 A6 hK9 HK HAF;by_cases hy:ecc=0
      ·have hls:=learn_step HFF.out.1 HFF.out.2.2.1 HFF.out.2.1 HFF.out.2.2.2.1 HA5.out HAG.out hy HW.out.twin.1
       subst hy;clear hcase;have hz:((0:Int) != 0)=false:=by simp
       go_wp2_with (first
        | (go_at_call 22;refine Calls.mono (hnum _ _) ?_;rintro _ _ ⟨rfl,rfl⟩)
        | (go_at_call 37;refine Calls.mono hls ?_;rintro _ w9 ⟨rfl,hw9,hk9⟩))
       go_ret;refine⟨rfl,_,_,_,objs',ros',hw9,?_,?_⟩
       ·have zw:=HFF.out.2.2.2.2.size
        refine fun q=>⟨?_,?_,?_⟩ <;> rintro (h | h)
        ·exact .inl h
        ·exact .inr (zzG zw h.1)
        ·exact .inl h
        ·have:=h.1;exact .inr (by omega)
        ·exact .inl h
        ·have:=h.1;exact .inr (by omega)
       ·have kk:=HFF.out.2.2.2.2
        exact⟨hk9.os.trans kk.os,hk9.tape.trans kk.tape,hk9.output.trans kk.output,zzG kk.size hk9.size,fun q hq hn=>(hk9.block q (zzA hq kk.size) (fun h=>hn (.inl h))).trans (kk.block q hq hn)⟩
      ·have hid:id=0/\objs'=objs/\ros'=ros:=by
        rcases hcase with h | h
        ·exact h.2
        ·exact absurd h.1 hy
       have hyb:(ecc != 0)=true:=by simpa using hy
       have hee:(ecc != ecc)=false:=(by simp);obtain⟨rfl,rfl,rfl⟩:=hid;clear hcase;go_wp2_with (go_at_call 22;refine Calls.mono (hnum _ _) ?_;rintro _ _ ⟨rfl,rfl⟩);go_ret;refine⟨rfl,_,_,_,objs',ros',⟨HFF.out.1,HFF.out.2.2.1,HFF.out.2.1,HW.out.twin,HW.out.at_,HFF.out.2.2.2.1⟩,?_,HFF.out.2.2.2.2⟩
       ·refine fun q=>⟨.inl,?_,?_⟩ <;> rintro (h | h)
        ·exact .inl h
        ·have:=h.1;exact .inr (by omega)
        ·exact .inl h
        ·have:=h.1;exact .inr (by omega)
end
variable {ft:PTp}
theorem ListedR.below {w w':World}{a:Option Addr}{m:Nat}{es:List Ent}(h:ListedR w a m es)(hb:Below w.heap.size w w'):ListedR w' a m es:=
 ⟨h.1,fun hp=>by
  obtain⟨b,off,ha,hbl,hc⟩:=h.2 hp
  exact⟨b,off,ha,zzA hbl hb.size,fun j u hu=>(hb.cell (p:=⟨b,off+j,none⟩) hbl).trans (hc j u hu)⟩⟩
section
variable {FL FR FS FH:Nat->Prop}{w:World}{W s r:Nat}{objs ros:List Ob}{c5 c6 c7 c8 c9 c10 c11:Value}{ea:Option Addr}{ec q:Nat}{hs:List HeldL}
theorem stepped_after {w1 w':World}(hb:Below w.heap.size w w1)(h:Stepped ft FL FR FS w1 w' W s r c5 c6 c7 c8 c9 c10 c11):Stepped ft FL FR FS w w' W s r c5 c6 c7 c8 c9 c10 c11:=by
 obtain⟨FL',FR',FS',objs',ros',h3,hs,hk⟩:=h;exact⟨FL',FR',FS',objs',ros',h3,hs.mono hb.size,Keeps.after hk hb⟩
theorem store_putDir (h:W3 ft FL FR FS w W s r objs ros c5 c6 c7 c8 c9 c10 c11)(a1 a2 a3:Int)(S T:ByteArray)(la:Option Addr)(lm lc:Nat)(es:List Ent)(hl:ListedR w la lm es)(hbig:lm<=2097152)(hsz:∀e ∈ es,e.1.size<=maxLen):
  Calls Tryz.prog 20 #[.pointer (some ⟨W,0,none⟩),.agg #[.int .i64 2,.int .i64 a1,.int .i64 a2,.int .i64 a3,.string S,.string T,.slice la lm lc]] w fun e w'=>e=.returned (.bool true)/\Stepped ft FL FR FS w w' W s r c5 c6 c7 c8 c9 c10 c11:=by
 have b1:∀B,Below w.heap.size w (w.alloc B):=fun B=>(Below.refl _ _).alloc (zzC _) _;have hput:=fun B=>wputDir (h.below (b1 B)) 2 a1 a2 a3 S T la lm lc es (hl.below (b1 B)) hbig hsz;have HP:Hid _:=hput;clear hput h hl hsz;go_enter Tryz.func20,Tryz.ntmps20;go_wp2_with (go_at_call 38;refine Calls.mono (HP.out _) ?_;rintro _ w4 ⟨rfl,hk4⟩;have HK5:Hid _:=stepped_after (b1 _) hk4;clear hk4);go_ret;exact⟨rfl,HK5.out⟩
structure Step where
 kind:Int
 a1:Int
 a2:Int
 a3:Int
 S:ByteArray
 T:ByteArray
 la:Option Addr
 lm:Nat
 lc:Nat
 es:List Ent
def Step.val (o:Step):Value:=.agg #[.int .i64 o.kind,.int .i64 o.a1,.int .i64 o.a2,.int .i64 o.a3,.string o.S,.string o.T,.slice o.la o.lm o.lc]
structure Step.Fits (o:Step)(w:World):Prop where
 S:o.S.size<=maxLen
 list:ListedR w o.la o.lm o.es
 many:o.lm<=2097152
 names:∀e ∈ o.es,e.1.size<=maxLen
 sS:o.S.size<=1048576
 sT:o.T.size<=1048576
 at64:-9223372036854775808<=o.a1/\o.a1<=9223372036854775807
 an64:-9223372036854775808<=o.a2/\o.a2<9223372036854775808
theorem store_step (h:W3 ft FL FR FS w W s r objs ros c5 c6 c7 c8 (.slice ea (4*q) ec) c10 c11)(hh:Held FH w ea ec q hs)(hap:∀k,FH k->¬F3 FL FR FS k)(hq:4*q<=1000000000)(o:Step)(ho:o.Fits w)(hk:1<=o.kind/\o.kind<=5):
  Calls Tryz.prog 20 #[.pointer (some ⟨W,0,none⟩),o.val] w fun e w'=>e=.returned (.bool true)/\∃q',q'<=q+1/\Played ft FL FR FS FH w w' W s r q' c5 c6 c7 c8 c10 c11:=by
 obtain⟨kind,a1,a2,a3,S,T,la,lm,lc,es⟩:=o;have of:∀{w'},Stepped ft FL FR FS w w' W s r c5 c6 c7 c8 (.slice ea (4*q) ec) c10 c11->∃q',q'<=q+1/\Played ft FL FR FS FH w w' W s r q' c5 c6 c7 c8 c10 c11:=fun hs=>⟨q,Nat.le_succ _,played_of_stepped h hh hap hs⟩;have hc:kind=1\/kind=2\/kind=3\/kind=4\/kind=5:=by simp only at hk;omega
 rcases hc with rfl | rfl | rfl | rfl | rfl
 ·exact (store_putFile h a1 a2 a3 S T la lm lc ho.S).mono fun e w' ⟨he,hs⟩=>⟨he,of hs⟩
 ·exact (store_putDir h a1 a2 a3 S T la lm lc es ho.list ho.many ho.names).mono fun e w' ⟨he,hs⟩=>⟨he,of hs⟩
 ·exact (store_getFile h a1 a2 a3 S T la lm lc).mono fun e w' ⟨he,hs⟩=>⟨he,of hs⟩
 ·exact (store_getDir h hh hap hq a1 a2 a3 S T la lm lc).mono fun e w' ⟨he,hs⟩=>⟨he,q+1,zzC _,hs⟩
 ·exact (store_objects h a1 a2 a3 S T la lm lc).mono fun e w' ⟨he,hs⟩=>⟨he,of hs⟩
end
variable {ft:PTp}
variable {ft:PTp}
theorem listed_lit (W:World)(es:List Ent)(t:TypeId)(cs:Array Value)(hcs:cs=(flat es).toArray):ListedR (W.alloc (.cells cs t)) (some ⟨W.heap.size,0,none⟩) es.length es:=by
 refine⟨rfl,fun _=>⟨W.heap.size,0,rfl,by simp,fun j u hu=>?_⟩⟩
 have:=lit_cells W (flat es) t j u hu
 rw[add_flat] at this;rw[hcs];exact this
def entX:Ent:=(⟨#[120]⟩,1,1)
def entD:Ent:=(⟨#[100]⟩,2,2)
def entA:Ent:=(⟨#[97]⟩,1,1)
theorem fits_lit (W:World)(es:List Ent)(t:TypeId)(cs:Array Value)(hcs:cs=(flat es).toArray)(hl:es.length<=16)(hs:∀e ∈ es,e.1.size<=12)(n:Nat)(hn:n=es.length):(Step.mk 2 0 0 0 ⟨#[]⟩ ⟨#[]⟩ (some ⟨W.heap.size,0,none⟩) n n es).Fits (W.alloc (.cells cs t)):=by
 subst hn;exact⟨show ByteArray.size ⟨#[]⟩<=maxLen by decide,listed_lit W es t cs hcs,zzG hl (by decide),fun e he=>zzG (hs e he) (by decide),show ByteArray.size ⟨#[]⟩<=1048576 by decide,show ByteArray.size ⟨#[]⟩<=1048576 by decide,⟨show (-9223372036854775808:Int)<=0 by decide,show (0:Int)<=9223372036854775807 by decide⟩,⟨show (-9223372036854775808:Int)<=0 by decide,show (0:Int)<9223372036854775808 by decide⟩⟩
variable {ft:PTp}
structure Scripted (w:World)(a:Option Addr)(n:Nat)(ops:List Step):Prop where
 len:ops.length=n
 many:n<=1048576
 cells:∀i (hi:i<ops.length),∃b off,a=some ⟨b,off,none⟩/\b<w.heap.size/\w.cell? ⟨b,off+i*7,none⟩=some (.int .i64 ops[i].kind)/\w.cell? ⟨b,off+i*7+1,none⟩=some (.int .i64 ops[i].a1)/\w.cell? ⟨b,off+i*7+2,none⟩=some (.int .i64 ops[i].a2)/\w.cell? ⟨b,off+i*7+3,none⟩=some (.int .i64 ops[i].a3)/\
  w.cell? ⟨b,off+i*7+4,none⟩=some (.string ops[i].S)/\w.cell? ⟨b,off+i*7+5,none⟩=some (.string ops[i].T)/\w.cell? ⟨b,off+i*7+6,none⟩=some (.slice ops[i].la ops[i].lm ops[i].lc)
 fits:∀o ∈ ops,o.Fits w
theorem Step.Fits.below {o:Step}{w w':World}(h:o.Fits w)(hb:Below w.heap.size w w'):o.Fits w':=⟨h.S,h.list.below hb,h.many,h.names,h.sS,h.sT,h.at64,h.an64⟩
end Go.Proofs.YtlgidcmmgohagaaGreat
namespace Go.Proofs.YtlgidcmmgohagaaGreat
open Go.RowKit Go.Sort Go.Shelf Go.ChangeShapes Go.WideShapes Go.Deep
set_option linter.unusedVariables false
theorem nE:Tryz.prog.cellsOf 96=3:=by kernel_rfl
theorem nOp:Tryz.prog.cellsOf 57=7:=by kernel_rfl
theorem nStr:Tryz.prog.cellsOf 9=1:=by kernel_rfl
theorem nInt:Tryz.prog.cellsOf 3=1:=by kernel_rfl
theorem nID:Tryz.prog.cellsOf 29=1:=by kernel_rfl
theorem nEs:Tryz.prog.cellsOf 55=1:=by kernel_rfl
theorem bulk_pos {H:Type}(d:DataW H):1<=Rows.uptoBulk d:=by
 cases d with
 | lit l=>cases l <;> simp[Rows.uptoBulk]
 | _=>simp[Rows.uptoBulk]
theorem bulk_of_mem {H:Type}{d:DataW H}:∀{l:List (DataW H)},d ∈ l->Rows.uptoBulk d<=Rows.uptoBulkAll l
 | x :: r,h=>by
  simp only[Rows.uptoBulkAll]
  rcases List.mem_cons.1 h with e | e
  ·rw[e];omega
  ·have:=bulk_of_mem e;omega
theorem bulk_many {H:Type}:∀(l:List (DataW H)),l.length<=Rows.uptoBulkAll l
 | []=>zzF _
 | x :: r=>by
  have:=bulk_many r
  have:=bulk_pos x
  simp only[Rows.uptoBulkAll,List.length_cons];omega
theorem bulk_slice {H:Type}(es sp:List (DataW H)):es.length<=Rows.uptoBulk (.slice es sp)/\∀d ∈ es,Rows.uptoBulk d<=Rows.uptoBulk (.slice es sp):=by
 have h1:=bulk_many es;simp only[Rows.uptoBulk];exact⟨by omega,fun d hd=>by have:=bulk_of_mem hd;omega⟩
theorem bulk_agg {H:Type}(ps:List (DataW H)):∀d ∈ ps,Rows.uptoBulk d<=Rows.uptoBulk (.agg ps):=fun d hd=>by
 have:=bulk_of_mem hd
 simp only[Rows.uptoBulk]
 omega
theorem addr_cell {w:World}{a:Addr}{i:Nat}{v:Value}(hs:a.spot=none)(h:w.cell? (a.add i)=some v):w.cell? ⟨a.block,a.off+i,none⟩=some v:=by
 obtain⟨b,o,sp⟩:=a;simp only at hs;subst hs;rw[add_flat] at h;exact h
theorem add_block (a:Addr)(n:Nat):(a.add n).block=a.block:=by unfold Addr.add;split <;> rfl
section
variable {H:Type}{enc:TypeId×Value->H}{w:World}{base:Nat}{sp:Nat->Bool}{held:Bool}
set_option maxRecDepth 100000 in
theorem open_ent {n:Nat}{cs:List Value}{x:DataW H×List MemPlace}(h:DataW.trod enc Tryz.prog w base sp held n 96 cs=some x):∃e:Ent,cs=encE e/\e.1.size<=maxLen:=by
 obtain⟨y0,y1,y2,n',_,hl,h0,h1,h2⟩:=trod_struct3 Tryz.underlying96 h;rw[nE] at hl
 match cs,hl with
 | [v0,v1,v2],_=>
  simp only[nStr,nInt,nID,List.drop_zero,List.drop_succ_cons,List.take_succ_cons,List.take_zero] at h0 h1 h2;obtain⟨s,e0,_,hs⟩:=DataW.trod_string Tryz.underlying9 h0;obtain⟨k,e1,_,_⟩:=DataW.trod_int Tryz.underlying3 h1;obtain⟨i,e2,_,_⟩:=DataW.trod_int Tryz.underlying29 h2;simp only[List.cons.injEq,and_true] at e0 e1 e2;subst e0;subst e1;subst e2;exact⟨(s,k,i),rfl,hs⟩
theorem listed_mk {a:Addr}{len:Nat}(f:Nat->Ent)(hs:0<len->a.spot=none/\a.block<w.heap.size)(hc:∀i,i<len->∀j,j<3->w.cell? ⟨a.block,a.off+(i*3+j),none⟩=(encE (f i))[j]?):ListedR w (some a) len ((List.range len).map f):=by
 refine⟨by simp,fun hp=>⟨a.block,a.off,?_,(hs hp).2,fun j u hu=>?_⟩⟩
 ·have:=(hs hp).1
  obtain⟨b,o,s⟩:=a;simp only at this;subst this;rfl
 ·have hj:j<len*3:=by
   have:=(List.getElem?_eq_some_iff.1 hu).1
   rw[flat_len] at this;simpa using this
  have hi:j / 3<len:=by omega
  have e:j=j / 3*3+j % 3:=by omega
  rw[e] at hu ⊢;rw[flat_get _ (j / 3) (j % 3) (by simpa using hi) (by omega)] at hu;rw[hc (j / 3) hi (j % 3) (by omega),<-hu];simp
theorem open_ents {n:Nat}{v:Value}{x:DataW H×List MemPlace}(h:DataW.trod enc Tryz.prog w base sp held n 55 [v]=some x):
  ∃la lm lc es,v=.slice la lm lc/\ListedR w la lm es/\(∀e ∈ es,e.1.size<=maxLen)/\lm<=Rows.uptoBulk x.1:=by
 rcases open_slice Tryz.underlying55 h with ⟨hc,hx⟩ | ⟨a,len,cap,m,n',D,Pl,hc,hb,hl,hm,hmm,hx,hall⟩
 ·simp only[List.cons.injEq,and_true] at hc
  exact⟨none,0,0,[],hc,⟨rfl,fun h=>absurd h (Nat.lt_irrefl _)⟩,(fun e he=>by cases he),zzF _⟩
 ·simp only[List.cons.injEq,and_true] at hc
  have hlm:len<=m:=by rw[hmm];split <;> omega
  rw[nE] at hall;have hsp0:∀i,i<len->a.spot=none:=fun i hi=>by
   obtain⟨cs,h1,h2⟩:=hall 0 (by omega);obtain⟨e,rfl,_⟩:=open_ent h2;obtain⟨_,_,hcell⟩:=World.cells?_some h1
   have:=World.cell?_spot (v:=.string e.1) (by rw[hcell 0 (by omega)];rfl)
   simpa [Addr.add] using this
  have each:∀i,i<len->∃e:Ent,e.1.size<=maxLen/\a.spot=none/\a.block<w.heap.size/\∀j,j<3->w.cell? ⟨a.block,a.off+(i*3+j),none⟩=(encE e)[j]?:=fun i hi=>by
   obtain⟨cs,h1,h2⟩:=hall i (by omega);obtain⟨e,rfl,hes⟩:=open_ent h2;obtain⟨_,_,hcell⟩:=World.cells?_some h1;have hbl:a.block<w.heap.size:=by
    have:=World.cells?_block h1 (by omega)
    rw[add_block] at this;exact this
   have hsp:=hsp0 i hi;refine⟨e,hes,hsp,hbl,fun j hj=>?_⟩;have hj':j<(encE e).length:=by simpa [encE] using hj
   have:=hcell j hj
   rw[add_add,zzH hj'] at this;rw[zzH hj'];exact addr_cell hsp this
  obtain⟨f,hf⟩:=choose_lt each;refine⟨some a,len,cap,(List.range len).map f,hc,listed_mk f (fun hp=>⟨(hf 0 hp).2.1,(hf 0 hp).2.2.1⟩) (fun i hi=>(hf i hi).2.2.2),fun e he=>?_,?_⟩
  ·obtain⟨i,hi,rfl⟩:=List.mem_map.1 he
   exact (hf i (List.mem_range.1 hi)).1
  ·rw[hx]
   have:=(bulk_slice ((List.range len).map D) ((List.range (m-len)).map fun j=>D (len+j))).1
   simpa using this
instance:Inhabited Step:=⟨⟨0,0,0,0,ByteArray.empty,ByteArray.empty,none,0,0,[]⟩⟩
def Step.cells (o:Step):List Value:=[.int .i64 o.kind,.int .i64 o.a1,.int .i64 o.a2,.int .i64 o.a3,.string o.S,.string o.T,.slice o.la o.lm o.lc]
theorem trod_struct7 {P:Program}{t:TypeId}{f0 f1 f2 f3 f4 f5 f6:Field}{fuel:Nat}{cs:List Value}{x:DataW H×List MemPlace}(ht:P.underlying t=some (.struct #[f0,f1,f2,f3,f4,f5,f6]))(h:DataW.trod enc P w base sp held fuel t cs=some x):
  ∃y0 y1 y2 y3 y4 y5 y6 n,x.1=.agg [y0.1,y1.1,y2.1,y3.1,y4.1,y5.1,y6.1]/\cs.length=P.cellsOf t/\DataW.trod enc P w base sp held n f0.type ((cs.drop f0.offset).take (P.cellsOf f0.type))=some y0/\DataW.trod enc P w base sp held n f1.type ((cs.drop f1.offset).take (P.cellsOf f1.type))=some y1/\
   DataW.trod enc P w base sp held n f2.type ((cs.drop f2.offset).take (P.cellsOf f2.type))=some y2/\DataW.trod enc P w base sp held n f3.type ((cs.drop f3.offset).take (P.cellsOf f3.type))=some y3/\DataW.trod enc P w base sp held n f4.type ((cs.drop f4.offset).take (P.cellsOf f4.type))=some y4/\
   DataW.trod enc P w base sp held n f5.type ((cs.drop f5.offset).take (P.cellsOf f5.type))=some y5/\DataW.trod enc P w base sp held n f6.type ((cs.drop f6.offset).take (P.cellsOf f6.type))=some y6:=by
 obtain⟨xs,n,_,rfl,hl,hlen,hf⟩:=DataW.trod_struct ht h
 match xs,hlen with
 | [y0,y1,y2,y3,y4,y5,y6],_=>exact⟨y0,y1,y2,y3,y4,y5,y6,n,by simp,hl,by simpa using hf 0 f0 rfl,by simpa using hf 1 f1 rfl,by simpa using hf 2 f2 rfl,by simpa using hf 3 f3 rfl,by simpa using hf 4 f4 rfl,by simpa using hf 5 f5 rfl,by simpa using hf 6 f6 rfl⟩
set_option maxRecDepth 100000 in
theorem open_op {n:Nat}{cs:List Value}{x:DataW H×List MemPlace}(h:DataW.trod enc Tryz.prog w base sp held n 57 cs=some x)(hx:Rows.uptoBulk x.1<=1048576):∃o:Step,cs=o.cells/\o.Fits w:=by
 obtain⟨y0,y1,y2,y3,y4,y5,y6,n',hxx,hl,g0,g1,g2,g3,g4,g5,g6⟩:=trod_struct7 Tryz.underlying57 h;rw[nOp] at hl
 match cs,hl with
 | [v0,v1,v2,v3,v4,v5,v6],_=>
  simp only[nStr,nInt,nEs,List.drop_zero,List.drop_succ_cons,List.take_succ_cons,List.take_zero] at g0 g1 g2 g3 g4 g5 g6;obtain⟨i0,e0,_,_⟩:=DataW.trod_int Tryz.underlying3 g0;obtain⟨i1,e1,_,w1⟩:=DataW.trod_int Tryz.underlying3 g1;obtain⟨i2,e2,_,w2⟩:=DataW.trod_int Tryz.underlying3 g2;obtain⟨i3,e3,_,_⟩:=DataW.trod_int Tryz.underlying3 g3;obtain⟨s4,e4,x4,hs4⟩:=DataW.trod_string Tryz.underlying9 g4;obtain⟨s5,e5,x5,hs5⟩:=DataW.trod_string Tryz.underlying9 g5;obtain⟨la,lm,lc,es,e6,hL,hS,hB⟩:=open_ents g6;simp only[List.cons.injEq,and_true] at e0 e1 e2 e3 e4 e5;subst e0;subst e1;subst e2;subst e3;subst e4;subst e5;subst e6;refine⟨⟨i0,i1,i2,i3,s4,s5,la,lm,lc,es⟩,rfl,⟨hs4,hL,?_,hS,?_,?_,?_,?_⟩⟩
  ·have h6:Rows.uptoBulk y6.1<=Rows.uptoBulk x.1:=by
    rw[hxx];exact bulk_agg _ _ (by simp)
   show lm<=2097152;omega
  ·have h6:Rows.uptoBulk y4.1<=Rows.uptoBulk x.1:=by
    rw[hxx];exact bulk_agg _ _ (by simp)
   rw[x4] at h6;have e:s4.data.toList.length=s4.size:=Array.length_toList;simp only[Rows.uptoBulk,e] at h6;show s4.size<=1048576;omega
  ·have h6:Rows.uptoBulk y5.1<=Rows.uptoBulk x.1:=by
    rw[hxx];exact bulk_agg _ _ (by simp)
   rw[x5] at h6;have e:s5.data.toList.length=s5.size:=Array.length_toList;simp only[Rows.uptoBulk,e] at h6;show s5.size<=1048576;omega
  ·simp[Lit.wf] at w1
   exact w1
  ·simp[Lit.wf] at w2
   exact⟨w2.1,Int.lt_of_le_of_lt w2.2 (by decide)⟩
theorem open_script {n:Nat}{v:Value}{x:DataW H×List MemPlace}(h:DataW.trod enc Tryz.prog w base sp held n 22 [v]=some x)(hx:Rows.uptoBulk x.1<=1048576):∃a len c ops,v=.slice a len c/\Scripted w a len ops:=by
 rcases open_slice Tryz.underlying22 h with ⟨hc,_⟩ | ⟨a,len,cap,m,n',D,Pl,hc,hb,hl,hm,hmm,hxx,hall⟩
 ·simp only[List.cons.injEq,and_true] at hc
  exact⟨none,0,0,[],hc,⟨rfl,zzF _,(fun i hi=>by cases hi),(fun o ho=>by cases ho)⟩⟩
 ·simp only[List.cons.injEq,and_true] at hc
  have hlm:len<=m:=by rw[hmm];split <;> omega
  rw[nOp] at hall;have hbk:=bulk_slice ((List.range len).map D) ((List.range (m-len)).map fun j=>D (len+j));rw[hxx] at hx;have hlen:len<=1048576:=by
   have:=hbk.1
   simp only[List.length_map,List.length_range] at this;have h2:Rows.uptoBulk (DataW.slice ((List.range len).map D) ((List.range (m-len)).map fun j=>D (len+j)))<=1048576:=hx;omega
  have hsp0:∀i,i<len->a.spot=none:=fun i hi=>by
   obtain⟨cs,h1,h2⟩:=hall 0 (by omega);obtain⟨o,rfl,_⟩:=open_op h2 (zzG (hbk.2 (D 0) (List.mem_map_of_mem (List.mem_range.2 (by omega)))) hx);obtain⟨_,_,hcell⟩:=World.cells?_some h1
   have:=World.cell?_spot (v:=.int .i64 o.kind) (by rw[hcell 0 (by omega)];rfl)
   simpa [Addr.add] using this
  have each:∀i,i<len->∃o:Step,o.Fits w/\a.spot=none/\a.block<w.heap.size/\∀j,j<7->w.cell? ⟨a.block,a.off+(i*7+j),none⟩=(o.cells)[j]?:=fun i hi=>by
   obtain⟨cs,h1,h2⟩:=hall i (by omega);obtain⟨o,rfl,hfit⟩:=open_op h2 (zzG (hbk.2 (D i) (List.mem_map_of_mem (List.mem_range.2 hi))) hx);obtain⟨_,_,hcell⟩:=World.cells?_some h1;have hbl:a.block<w.heap.size:=by
    have:=World.cells?_block h1 (by omega)
    rw[add_block] at this;exact this
   have hsp:=hsp0 i hi;refine⟨o,hfit,hsp,hbl,fun j hj=>?_⟩;have hj':j<(o.cells).length:=by simpa [Step.cells] using hj
   have:=hcell j hj
   rw[add_add,zzH hj'] at this;rw[zzH hj'];exact addr_cell hsp this
  obtain⟨f,hf⟩:=choose_lt each;refine⟨some a,len,cap,(List.range len).map f,hc,⟨by simp,hlen,fun i hi=>?_,fun o ho=>?_⟩⟩
  ·have hi':i<len:=by simpa using hi
   obtain⟨_,hsp,hbl,hcl⟩:=hf i hi';have ha:a=⟨a.block,a.off,none⟩:=by
    obtain⟨b,o,s⟩:=a;simp only at hsp;subst hsp;rfl
   have hg:((List.range len).map f)[i]=f i:=by simp
   rw[hg];exact⟨a.block,a.off,by rw[<-ha],hbl,hcl 0 (by omega),hcl 1 (by omega),hcl 2 (by omega),hcl 3 (by omega),hcl 4 (by omega),hcl 5 (by omega),hcl 6 (by omega)⟩
  ·obtain⟨i,hi,rfl⟩:=List.mem_map.1 ho
   exact (hf i (List.mem_range.1 hi)).1
end
end Go.Proofs.YtlgidcmmgohagaaGreat
