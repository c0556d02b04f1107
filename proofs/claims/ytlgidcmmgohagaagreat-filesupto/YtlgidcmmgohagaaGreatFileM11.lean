/- What is proved here: PutFile and PutDir of the law's 'store' once more. -/
import Derived.Test.YtlgidcmmgohagaaGreatFileM10
import Derived.Deep.RegionLaw
namespace Go.Proofs.YtlgidcmmgohagaaGreat
open Go.RowKit Go.Sort Go.Shelf Go.Proofs.Tryz
set_option linter.unusedVariables false
set_option maxRecDepth 100000
set_option maxHeartbeats 16000000
variable {ft:PTp}
def SteppedQ (Q:List Ob->Prop)(ft:PTp)(FL FR FS:Nat->Prop)(w w':World)(W s r:Nat)(c5 c6 c7 c8 c9 c10 c11:Value):Prop:=
 ∃FL' FR' FS' objs' ros',W3 ft FL' FR' FS' w' W s r objs' ros' c5 c6 c7 c8 c9 c10 c11/\Sub3 FL FR FS FL' FR' FS' w.heap.size/\Keeps (F3 FL FR FS) w w'/\Q objs'
section
variable {FL FR FS:Nat->Prop}{w:World}{W s r:Nat}{objs ros:List Ob}{c5 c6 c7 c8 c9 c10 c11:Value}
theorem steppedQ_after {Q:List Ob->Prop}{w1 w':World}(hb:Below w.heap.size w w1)(h:SteppedQ Q ft FL FR FS w1 w' W s r c5 c6 c7 c8 c9 c10 c11):SteppedQ Q ft FL FR FS w w' W s r c5 c6 c7 c8 c9 c10 c11:=by
 obtain⟨FL',FR',FS',objs',ros',h3,hs,hk,hq⟩:=h;exact⟨FL',FR',FS',objs',ros',h3,hs.mono hb.size,Keeps.after hk hb,hq⟩
theorem store_putFile2 (h:W3 ft FL FR FS w W s r objs ros c5 c6 c7 c8 c9 c10 c11)(a1 a2 a3:Int)(S T:ByteArray)(la:Option Addr)(lm lc:Nat)(hS:S.size<=maxLen):
  Calls prog 20 #[.pointer (some ⟨W,0,none⟩),.agg #[.int .i64 1,.int .i64 a1,.int .i64 a2,.int .i64 a3,.string S,.string T,.slice la lm lc]] w fun e w'=>e=.returned (.bool true)/\SteppedQ (fun o'=>∃e,FilePut objs o' S e) ft FL FR FS w w' W s r c5 c6 c7 c8 c9 c10 c11:=by
 have HW:Hid (W3 ft FL FR FS w W s r objs ros c5 c6 c7 c8 c9 c10 c11):=h;obtain⟨k0,k1,hWl,hFW⟩:=h.law.cells;obtain⟨B,hB⟩:∃B:Obj,B=.cells #[.int .i64 1,.int .i64 a1,.int .i64 a2,.int .i64 a3,.string S,.string T,.slice la lm lc] 57:=⟨_,rfl⟩;obtain⟨w1,hw1⟩:∃w1,w1=w.alloc B:=⟨_,rfl⟩;have hb0:Below w.heap.size w w1:=by rw[hw1];exact (Below.refl _ _).alloc (zzC _) B
 have hb1:Below w.heap.size w w1.drew:=below_drewN hb0 1;have h1:=h.below hb1;have hpf:=storePutFileQ h1.sto S hS;have HPF:Hid _:=hpf;have b4:w1.cell? ⟨w.heap.size,4,none⟩=some (.string S):=by rw[hw1,hB];simp
 have k01:=(hb0.cell (p:=⟨W,0,none⟩) hWl).trans k0;have k11:=(hb0.cell (p:=⟨W,1,none⟩) hWl).trans k1;have hs1:w1.heap.size=w.heap.size+1:=by rw[hw1];simp
 have H1:Hid (W3 ft FL FR FS w1.drew W s r objs ros c5 c6 c7 c8 c9 c10 c11):=h1;clear h hpf h1;go_enter func20,ntmps20;go_wp2;rw[<-hB,<-hw1];have HB:Hid (B=.cells #[.int .i64 1,.int .i64 a1,.int .i64 a2,.int .i64 a3,.string S,.string T,.slice la lm lc] 57):=hB;have HW1:Hid (w1=w.alloc B):=hw1;clear hB hw1
 go_region_with (first | (go_at_call 35;refine Calls.mono HPF.out ?_;rintro e w2 ⟨objs',hfp,hinv,hkp⟩;obtain⟨id,ec,he⟩:=hfp.shape;have HFP:Hid (FilePut objs objs' S e):=hfp;have HE:Hid (e=.returned (.tuple #[.int .i64 id,.int .i64 ec])):=he;rw[he];clear hfp he))
 all_goals
  have hkp':Keeps FS w1 w2:=⟨hkp.os,hkp.tape,hkp.output,hkp.size,hkp.block⟩;have hkb:∀x,x<w1.heap.size->¬FS x->w2.heap[x]? = w1.heap[x]?:=fun x hx hn=>hkp'.block x hx hn;have nW:¬FS W:=fun hf=>(H1.out.sep.sl W hf).2 hFW;have nB:¬FS w.heap.size:=fun hf=>by have:=(HW.out.sep.sl _ hf).1;omega
  have k02:=(World.cell?_of_block (a:=⟨W,0,none⟩) (hkb W (by omega) nW)).trans k01;have k12:=(World.cell?_of_block (a:=⟨W,1,none⟩) (hkb W (by omega) nW)).trans k11;have b42:=(World.cell?_of_block (a:=⟨w.heap.size,4,none⟩) (hkb w.heap.size (by omega) nB)).trans b4;have hs2:w1.heap.size<=w2.heap.size:=hkp'.size;have R2:RefInv FR w2.drew r ros:=HW.out.ref.keep (fun _ h=>h) (fun k hk=>(hkb k (by have:=(HW.out.sep.rl k hk).1;omega) (HW.out.sep.rs k hk)).trans (hb0.block k (HW.out.sep.rl k hk).1));have L2:Hid (LawS FL w2 W s r objs.length c5 c6 c7 c8 c9 c10 c11):=HW.out.law.keep (fun _ h=>h) (fun k hk=>(hkb k (by have:=HW.out.sep.ll k hk;omega) (fun hf=>(HW.out.sep.sl k hf).2 hk)).trans (hb0.block k (HW.out.sep.ll k hk)));have I2:Hid (InvQ ft (NewF FS w1 w2) w2 s objs'):=hinv;have HKP:Hid (Keeps FS w1 w2):=hkp';have hrf:=rputFile_any R2 S hS;have HRF:Hid _:=hrf;clear HPF hinv hkp hkp' hrf R2
  go_frame
  go_wp2
  go_region_with (first | (go_at_call 36;refine Calls.mono HRF.out ?_;rintro e3 w3 ⟨x,y,ros',rfl,hrp,hri,hrk⟩))
  all_goals
   have AF:=put_facts HW.out (show Below w.heap.size w w1 from hb0) HKP.out I2.out L2.out hrk hri HFP.out hrp HE.out;have HAF:Hid _:=AF;clear AF hrp hri hrk
   go_frame
   have hnum:=fun (e:Int) (W':World)=>num_any e W';obtain⟨hec,_,hcase⟩:=HAF.out.1;subst hec;by_cases hy:ec=0
   ·have hls:=learn_step HAF.out.2.1 HAF.out.2.2.2.1 HAF.out.2.2.1 HAF.out.2.2.2.2.1 HAF.out.2.2.2.2.2.1 HAF.out.1 hy HW.out.twin.1
    subst hy;clear hcase;have hz:((0:Int) != 0)=false:=by simp
    go_wp2_with (first
     | (go_at_call 22;refine Calls.mono (hnum _ _) ?_;rintro _ _ ⟨rfl,rfl⟩)
     | (go_at_call 37;refine Calls.mono hls ?_;rintro _ w4 ⟨rfl,hw4,hk4⟩))
    go_ret;refine⟨rfl,_,_,_,objs',ros',hw4,?_,?_,⟨_,HFP.out⟩⟩
    ·have zw:=HAF.out.2.2.2.2.2.2.size
     refine fun k=>⟨?_,?_,?_⟩ <;> rintro (h | h)
     ·exact .inl h
     ·exact .inr (zzG zw h.1)
     ·exact .inl h
     ·have:=h.1;exact .inr (by omega)
     ·exact .inl h
     ·have:=h.1;exact .inr (by omega)
    ·have kk:=HAF.out.2.2.2.2.2.2
     exact⟨hk4.os.trans kk.os,hk4.tape.trans kk.tape,hk4.output.trans kk.output,zzG kk.size hk4.size,fun k hk hn=>(hk4.block k (zzA hk kk.size) (fun h=>hn (.inl h))).trans (kk.block k hk hn)⟩
   ·have hid:id=0/\objs'=objs/\ros'=ros:=by
     rcases hcase with h | h
     ·exact h.2
     ·exact absurd h.1 hy
    have hyb:(ec != 0)=true:=by simpa using hy
    have hee:(ec == ec)=true:=(by simp);obtain⟨rfl,rfl,rfl⟩:=hid;clear hcase;go_wp2_with (go_at_call 22;refine Calls.mono (hnum _ _) ?_;rintro _ _ ⟨rfl,rfl⟩);go_ret;refine⟨rfl,_,_,_,objs',ros',⟨HAF.out.2.1,HAF.out.2.2.2.1,HAF.out.2.2.1,HW.out.twin,HW.out.at_,HAF.out.2.2.2.2.1⟩,?_,HAF.out.2.2.2.2.2.2,⟨_,HFP.out⟩⟩
    ·refine fun k=>⟨.inl,?_,?_⟩ <;> rintro (h | h)
     ·exact .inl h
     ·have:=h.1;exact .inr (by omega)
     ·exact .inl h
     ·have:=h.1;exact .inr (by omega)
theorem wputDir2 (h:W3 ft FL FR FS w W s r objs ros c5 c6 c7 c8 c9 c10 c11)(k0 a1 a2 a3:Int)(S T:ByteArray)(la:Option Addr)(lm lc:Nat)(es:List Ent)(hl:ListedR w la lm es)(hbig:lm<=2097152)(hsz:∀e ∈ es,e.1.size<=maxLen):
  Calls prog 38 #[.pointer (some ⟨W,0,none⟩),.agg #[.int .i64 k0,.int .i64 a1,.int .i64 a2,.int .i64 a3,.string S,.string T,.slice la lm lc]] w fun e w'=>e=.returned (.bool true)/\SteppedQ (fun o'=>∃e,DirPutG objs o' es e) ft FL FR FS w w' W s r c5 c6 c7 c8 c9 c10 c11:=by
 obtain⟨i0,hi,hz0,hz1,hz2⟩:=info_parts infoE;obtain⟨iI,hI,hI0,hI1,hI2⟩:=info_parts infoItem;have HW:Hid (W3 ft FL FR FS w W s r objs ros c5 c6 c7 c8 c9 c10 c11):=h;obtain⟨p0,p1,hWl,hFW⟩:=h.law.cells;obtain⟨B,hB⟩:∃B:Obj,B=.cells #[.int .i64 k0,.int .i64 a1,.int .i64 a2,.int .i64 a3,.string S,.string T,.slice la lm lc] 57:=⟨_,rfl⟩;obtain⟨w1,hw1⟩:∃w1,w1=w.alloc B:=⟨_,rfl⟩;have hb0:Below w.heap.size w w1:=by rw[hw1];exact (Below.refl _ _).alloc (zzC _) B
 have b6:w1.cell? ⟨w.heap.size,6,none⟩=some (.slice la lm lc):=by rw[hw1,hB];simp
 have hs1:w.heap.size<w1.heap.size:=by rw[hw1];simp
 have H1:Hid (W3 ft FL FR FS w1 W s r objs ros c5 c6 c7 c8 c9 c10 c11):=h.below hb0;have HL:Hid (ListedR w la lm es):=hl;have HS:Hid (∀e ∈ es,e.1.size<=maxLen):=hsz;obtain⟨n,hn⟩:∃n,n=objs.length:=⟨_,rfl⟩;have HN:Hid (n=objs.length):=hn;clear h hl hsz hn;go_enter func38,ntmps38;go_wp2;rw[<-hB,<-hw1];clear hB hw1
 go_loopw [5,6,7] (fun l m i wr=>∃(k:Nat) (al:Option Addr) (cl:Nat) (am:Option Addr) (cm:Nat),k<=lm/\i=.int .i64 (k:Int)/\l=.slice al k cl/\m=.slice am k cm/\Below w1.heap.size w1 wr/\Hid (wr.ownsRow w1.heap.size 96 3 (.slice al k cl) k (flat (es.take k)))/\Hid (wr.ownsRow w1.heap.size 112 3 (.slice am k cm) k (flat ((es.take k).map (toAt n))))/\Hid (k=0->al=none/\cl=0)) (fun _ _ i _=>lm-(intOf i).toNat)
 case atStart=>exact⟨0,none,0,none,0,zzF _,rfl,rfl,rfl,Below.refl _ _,World.ownsRow_nil _ _ _ _,World.ownsRow_nil _ _ _ _,fun _=>⟨rfl,rfl⟩⟩
 case round=>
  obtain⟨k,al,cl,am,cm,hk,rfl,rfl,rfl,hb,HOL,HOM,HNIL⟩:=hrel;have hsz1:=hb.size;have b6r:=(hb.cell (p:=⟨w.heap.size,6,none⟩) (by show w.heap.size<_;omega)).trans b6;by_cases hlt:k<lm
  ·obtain⟨b,off,hla,hbl,hc⟩:=HL.out.2 (by omega)
   have hke:k<es.length:=by rw[HL.out.1];exact hlt
   obtain⟨c0,c1,c2⟩:=row_cells hc hke;obtain⟨x,hx⟩:∃x,x=es[k]:=⟨_,rfl⟩;rw[<-hx] at c0 c1 c2;have hbw:Below w.heap.size w wr:=hb0.trans (hb.mono (by omega));have x0:=(hbw.cell (p:=⟨b,off+k*3,none⟩) hbl).trans c0;have x1:=(hbw.cell (p:=⟨b,off+k*3+1,none⟩) hbl).trans c1;have x2:=(hbw.cell (p:=⟨b,off+k*3+2,none⟩) hbl).trans c2;have hblr:b<wr.heap.size:=by omega
   rw[hla] at b6r;have HX:Hid (x=es[k]):=hx;have HID:Hid (∀X,Calls prog 39 #[.pointer (some ⟨W,0,none⟩),.int .i64 x.2.2] (wr.alloc X) fun e w'=>e=.returned (.int .i64 x.2.2)/\w'=wr.alloc X):=fun X=>w3_id (H1.out.below (hb.alloc hb.size X)) x.2.2
   have hkm:(k:Int)<(lm:Int):=by omega
   clear hc c0 c1 c2 hx hla;go_wp2_with (first | (go_at_call 39;refine Calls.mono (HID.out _) ?_;rintro _ _ ⟨rfl,rfl⟩) | (at_builtin;refine wpList_append_own _ rfl (.tmp 33) (.tmp 40) 55 rfl w1.heap.size 96 i0 _ 3 32 underlying55 hi hz0 hz1 hz2 rfl (by decide) _ _ _ rfl ((HOL.out.alloc _).alloc _) ⟨wr.heap.size+1,0,none⟩ 1 1 (encE x) rfl rfl (item_cells (wr.alloc _) x _ _ (by simp)) (encE_one x) (by unfold maxLen;omega) (by omega) (by simp;omega) ?_));intro v' w2 hown' hgrow _;have hB:w1.heap.size<=((wr.alloc (Obj.cells #[Value.string x.fst,Value.int IntKind.i64 x.snd.fst,Value.int IntKind.i64 x.snd.snd] 96)).alloc (Obj.cells #[Value.string x.fst,Value.int IntKind.i64 x.snd.fst,Value.int IntKind.i64 x.snd.snd] 96)).heap.size:=by simp;omega
   have hb2:Below w1.heap.size w1 w2:=grown_own ((hb.alloc hb.size _).alloc (by simp;omega) _) hB ((HOL.out.alloc _).alloc _) hgrow;have hnb:some wr.heap.size≠(Value.slice al k cl).ownBlock:=fun e=>by have:=ownsRow_lt HOL.out e.symm;omega
   have hblk:=hgrow.block wr.heap.size (by simp;omega) hnb;have e0:w2.cell? ⟨wr.heap.size,0,none⟩=some (.string x.1):=(World.cell?_of_block (a:=⟨wr.heap.size,0,none⟩) hblk).trans (by simp);have e1:w2.cell? ⟨wr.heap.size,1,none⟩=some (.int .i64 x.2.1):=(World.cell?_of_block (a:=⟨wr.heap.size,1,none⟩) hblk).trans (by simp);have HOL2:Hid (w2.ownsRow w1.heap.size 96 3 v' (k+1) (flat (es.take (k+1)))):=by show World.ownsRow _ _ _ _ _ _ _;rw[<-take_snoc hke,<-HX.out];exact hown'
   have HOM2:Hid (w2.ownsRow w1.heap.size 112 3 (.slice am k cm) k (flat ((es.take k).map (toAt n)))):=ownsRow_keep HOM.out (fun g hg=>by
    have hl:=ownsRow_lt HOM.out hg;rw[hgrow.block g (by simp;omega) (rows_apart HOM.out HOL.out (by decide) hg),Below.heap_alloc _ _ _ (by simp;omega),Below.heap_alloc _ _ _ hl])
   have hs2:wr.heap.size<w2.heap.size:=by have:=hgrow.size;simp at this;omega
   have HPL:Hid (∀q,Calls prog 41 #[.pointer (some ⟨W,0,none⟩),.int .i64 x.2.2] (w2.drewN q) fun e w'=>e=.returned (.int .i64 (toAt n x).2.2)/\w'=w2.drewN q):=fun q=>by rw[HN.out];exact w3_placeZ (H1.out.below (below_drewN hb2 q)) x
   obtain⟨al',cl',rfl⟩:=owns_form hown';clear hown' hgrow hB hblk hnb HID x0 x1 x2;go_wp2
   go_region_law (first
    | (refine step_append_own_at rfl (.tmp 42) (.tmp 51) 106 rfl w1.heap.size 112 iI _ 3 32 underlying106 hI hI0 hI1 hI2 rfl (by decide) (.slice am k cm) k (flat ((es.take k).map (toAt n))) (by simp[Act.eval]) (World.ownsRow.alloc (show w2.drew.ownsRow _ _ _ _ _ _ from HOM2.out) _) ⟨w2.heap.size,0,none⟩ 1 1 (encE (toAt n x)) (by simp[Act.eval]) rfl (item_cells w2.drew (toAt n x) _ _ rfl) (encE_one _) (by unfold maxLen;omega) (by omega) (by have:=hb2.size;simp;omega) ?_;intro v'' w3 hown'' hgrow'' _)
    | (go_simp;go_at_call 41;refine Calls.mono (HPL.out 1) ?_;rintro _ _ ⟨rfl,rfl⟩))
   all_goals
    have hb3:Below w1.heap.size w1 w3:=grown_own ((below_drewN hb2 1).alloc hb2.size _) (by have:=hb2.size;simp;omega) (World.ownsRow.alloc (show (w2.drewN 1).ownsRow _ _ _ _ _ _ from HOM2.out) _) hgrow'';have HOM3:Hid (w3.ownsRow w1.heap.size 112 3 v'' (k+1) (flat ((es.take (k+1)).map (toAt n)))):=by
     show World.ownsRow _ _ _ _ _ _ _;rw[zzI hke,List.map_append,List.map_cons,List.map_nil,flat_appendR,flat_one_item,<-HX.out];exact hown''
    have HOL3:Hid (w3.ownsRow w1.heap.size 96 3 (.slice al' (k+1) cl') (k+1) (flat (es.take (k+1)))):=ownsRow_keep HOL2.out (fun g hg=>by
     have hl:=ownsRow_lt HOL2.out hg;rw[hgrow''.block g (by simp;omega) (rows_apart HOL2.out HOM2.out (by decide) hg),Below.heap_alloc _ _ _ (show g<(w2.drewN 1).heap.size from hl)];rfl)
    obtain⟨am',cm',rfl⟩:=owns_form hown'';clear hown'' hgrow'';go_wp2;go_roundw
    case rel=>exact⟨k+1,al',cl',am',cm',by omega,by go_num,rfl,rfl,hb3,HOL3.out,HOM3.out,fun e=>by omega⟩
    case measure=>simp[intOf];omega
  ·have hkl:k=lm:=by omega
   subst hkl;have hnl:decide ((k:Int)<(k:Int))=false:=zzE (by omega);have ht:es.take k=es:=List.take_of_length_le (by rw[HL.out.1];exact zzC _);rw[ht] at HOL HOM;have hlent:=lent_gen al k cl es wr (listed_of_owns HOL.out) (by omega) HNIL.out;have HLE:Hid _:=hlent;clear hlent ht;go_wp2_with (go_at_call 81;refine Calls.mono HLE.out ?_;rintro _ w5 ⟨gin,rfl,hin,hb5⟩;have HIN:Hid _:=hin;clear hin;have hb51:Below w1.heap.size w1 w5:=hb.trans (hb5.mono hb.size);have m0:=(LawS.cells (H1.out.below hb51).law).1;have mW:=(LawS.cells (H1.out.below hb51).law).2.2.1);have hbw5:Below w.heap.size w w5:=hb0.trans (hb51.mono (by omega));have H5:Hid (W3 ft FL FR FS w5 W s r objs ros c5 c6 c7 c8 c9 c10 c11):=H1.out.below hb51;have HOL5:Hid (w5.ownsRow w1.heap.size 96 3 (.slice al k cl) k (flat es)):=ownsRow_keep HOL.out (fun g hg=>hb5.block g (ownsRow_lt HOL.out hg));have HOM5:Hid (w5.ownsRow w1.heap.size 112 3 (.slice am k cm) k (flat (es.map (toAt n)))):=ownsRow_keep HOM.out (fun g hg=>hb5.block g (ownsRow_lt HOM.out hg));have hgin:w1.heap.size<=gin/\gin<w5.heap.size:=by have:=World.ownsRow.lt HIN.out gin rfl;exact⟨zzG hb.size this.1,this.2⟩
   have hpd:=storePutDirQ (HW.out.below (below_drewN hbw5 1)).sto gin 0 k (k+3) es HL.out.1 hgin.2 (by omega) (fun j u hu=>owns_cells HIN.out j u (flat_left hu)) HS.out;have HPD:Hid _:=hpd;have hs5:w1.heap.size<=w5.heap.size:=hb51.size;have hwr1:w1.heap.size<=wr.heap.size:=hb.size;clear hpd HOL HOM b6r b6
   go_region_with (first | (go_at_call 26;refine Calls.mono HPD.out ?_;rintro e w6 ⟨objs',hfp,hinv,hkp⟩;obtain⟨id,ecc,he⟩:=hfp.shape;have HFP:Hid (DirPutG objs objs' es e):=hfp;have HE:Hid (e=.returned (.tuple #[.int .i64 id,.int .i64 ecc])):=he;rw[he];clear hfp he))
   all_goals
    have hkp':Keeps FS w5 w6:=⟨hkp.os,hkp.tape,hkp.output,hkp.size,hkp.block⟩;have HI6:Hid (InvQ ft (NewF FS w5 w6) w6 s objs'):=hinv;have HKP:Hid (Keeps FS w5 w6):=hkp';have hs6:w5.heap.size<=w6.heap.size:=hkp'.size;have m1:w6.cell? ⟨W,1,none⟩=some (.pointer (some ⟨r,0,none⟩)):=(World.cell?_of_block (a:=⟨W,1,none⟩) (hkp'.block W mW (fun hf=>(HW.out.sep.sl W hf).2 hFW))).trans (LawS.cells H5.out.law).2.1;have mW6:W<w6.heap.size:=by omega
    have R6:RefInv FR w6 r ros:=HW.out.ref.keep (fun _ h=>h) (fun q hq=>(hkp'.block q (by have:=(HW.out.sep.rl q hq).1;omega) (HW.out.sep.rs q hq)).trans (hbw5.block q (HW.out.sep.rl q hq).1));have HOM6:=row_past (fun q hq=>(HW.out.sep.sl q hq).1) hkp' HOM5.out (Nat.le_of_lt hs1);have hto:=toAt_ok (n:=n) HS.out;have hrd:=rputDir_any R6 am k cm (es.map (toAt n)) (listed_of_owns HOM6) (by omega) hto.1 (by rw[<-HW.out.twin.1,<-HN.out];exact hto.2);have HRD:Hid _:=hrd;clear hrd hto HOM6 R6 hkp' hkp hinv HPD
    go_frame
    go_wp2_with (first
     | (go_at_call 82;refine Calls.mono HRD.out ?_;rintro _ w7 ⟨x,y,ros',rfl,hrp,hri,hrk⟩;have HAF:Hid _:=put_dir_facts HW.out hbw5 HKP.out HI6.out hrk hri HFP.out (by rw[<-HN.out];exact hrp) HE.out;have HKT:Hid _:=kept7 HW.out HKP.out hrk HOL5.out HIN.out (Nat.le_of_lt hs1) (by omega) hbig HNIL.out;have hs7:=hrk.size;clear hrp hri hrk)
     | (go_at_call 83;refine Calls.mono HKT.out.1 ?_;rintro _ w8 ⟨rfl,hb8⟩))
    have HR8:Hid (w8.ownsRow 0 96 3 (.slice (some ⟨gin,0,none⟩) (k+3) (k+3)) (k+3) (flat (es++List.replicate 3 mk77))):=ownsRow_keep (owns_mono HKT.out.2 (zzF _)) (fun g hg=>hb8.block g (ownsRow_lt HKT.out.2 hg));clear HRD HOL5 HOM5 HIN HKT m0 m1
    go_loopw [16] (fun i wq=>∃d:Nat,d<=k+3/\i=.int .i64 (d:Int)/\Hid (Keeps (fun q=>q=gin) w8 wq)/\Hid (∃xs,wq.ownsRow 0 96 3 (.slice (some ⟨gin,0,none⟩) (k+3) (k+3)) (k+3) xs)) (fun i _=>k+3-(intOf i).toNat)
    case atStart=>exact⟨0,zzF _,rfl,Keeps.refl _,⟨_,HR8.out⟩⟩
    case round=>
     obtain⟨d,hd,rfl,HK,HXS⟩:=hrel;obtain⟨xs,hown⟩:=HXS.out;by_cases hdl:d<k+3
     ·have hfz:=fun j=>hown.frozenAt j
      have hcs:∀j,j<3->∃v,wr.cell? ⟨gin,d*3+j,none⟩=some v:=fun j hj=>by
       rw[hown.cellAt (d*3+j) (by omega)];exact⟨_,zzH (by rw[hown.1];omega)⟩
      obtain⟨v0,e0⟩:=hcs 0 (by omega);obtain⟨v1,e1⟩:=hcs 1 (by omega);obtain⟨v2,e2⟩:=hcs 2 (by omega);rw[Nat.add_zero] at e0;have hnm:(d:Int)<(k:Int)+3:=by omega
      have hgl:gin<wr.heap.size:=ownsRow_lt hown rfl;have HO:Hid (wr.ownsRow 0 96 3 (.slice (some ⟨gin,0,none⟩) (k+3) (k+3)) (k+3) xs):=hown;clear hcs HXS hown;go_wp2;refine⟨⟨d+1,by omega,by go_num,keeps_then (keeps_then (keeps_then HK.out (keeps_set rfl)) (keeps_set rfl)) (keeps_set rfl),⟨_,(World.ownsRow.stored (World.ownsRow.stored (World.ownsRow.stored HO.out _ _).1 _ _).1 _ _).1⟩⟩,by simp[intOf];omega⟩
     ·have hnl:decide ((d:Int)<(k:Int)+3)=false:=zzE (by omega)
      obtain⟨hA,A1,A2,A3,A4,A5,A6⟩:=HAF.out;have hK9:Keeps (fun q=>q=gin) w7 wr:=keeps_then (Keeps.of_below hb8) HK.out;have hF:=facts_stay A1 A2 A3 A4 A6 hK9 (fun hf=>by have:=HW.out.sep.ll gin hf;omega) (fun hf=>by
       rcases hf with hf | hf
       ·have:=(HW.out.sep.rl gin hf).1;omega
       ·have:=hf.1;omega) (fun hf=>by
       rcases hf with hf | hf
       ·have:=(HW.out.sep.sl gin hf).1;omega
       ·have:=hf.1;omega) (by omega)
      have HFF:Hid _:=hF;have HA5:Hid (Below0 ros'):=A5;have HAG:Hid (Agreed objs objs' ros ros' id ecc x y):=hA;have hnum:=fun (e:Int) (W':World)=>num_any e W';obtain⟨hec,_,hcase⟩:=hA;subst hec;clear hown HXS hF A1 A2 A3 A4 A5 A6 hK9 HK HAF;by_cases hy:ecc=0
      ·have hls:=learn_step HFF.out.1 HFF.out.2.2.1 HFF.out.2.1 HFF.out.2.2.2.1 HA5.out HAG.out hy HW.out.twin.1
       subst hy;clear hcase;have hz:((0:Int) != 0)=false:=by simp
       go_wp2_with (first
        | (go_at_call 22;refine Calls.mono (hnum _ _) ?_;rintro _ _ ⟨rfl,rfl⟩)
        | (go_at_call 37;refine Calls.mono hls ?_;rintro _ w9 ⟨rfl,hw9,hk9⟩))
       go_ret;refine⟨rfl,_,_,_,objs',ros',hw9,?_,?_,⟨_,HFP.out⟩⟩
       ·have zw:=HFF.out.2.2.2.2.size
        refine fun q=>⟨?_,?_,?_⟩ <;> rintro (h | h)
        ·exact .inl h
        ·exact .inr (zzG zw h.1)
        ·exact .inl h
        ·have:=h.1;exact .inr (by omega)
        ·exact .inl h
        ·have:=h.1;exact .inr (by omega)
       ·have kk:=HFF.out.2.2.2.2
        exact⟨hk9.os.trans kk.os,hk9.tape.trans kk.tape,hk9.output.trans kk.output,zzG kk.size hk9.size,fun q hq hn=>(hk9.block q (zzA hq kk.size) (fun h=>hn (.inl h))).trans (kk.block q hq hn)⟩
      ·have hid:id=0/\objs'=objs/\ros'=ros:=by
        rcases hcase with h | h
        ·exact h.2
        ·exact absurd h.1 hy
       have hyb:(ecc != 0)=true:=by simpa using hy
       have hee:(ecc != ecc)=false:=(by simp);obtain⟨rfl,rfl,rfl⟩:=hid;clear hcase;go_wp2_with (go_at_call 22;refine Calls.mono (hnum _ _) ?_;rintro _ _ ⟨rfl,rfl⟩);go_ret;refine⟨rfl,_,_,_,objs',ros',⟨HFF.out.1,HFF.out.2.2.1,HFF.out.2.1,HW.out.twin,HW.out.at_,HFF.out.2.2.2.1⟩,?_,HFF.out.2.2.2.2,⟨_,HFP.out⟩⟩
       ·refine fun q=>⟨.inl,?_,?_⟩ <;> rintro (h | h)
        ·exact .inl h
        ·have:=h.1;exact .inr (by omega)
        ·exact .inl h
        ·have:=h.1;exact .inr (by omega)
theorem store_putDir2 (h:W3 ft FL FR FS w W s r objs ros c5 c6 c7 c8 c9 c10 c11)(a1 a2 a3:Int)(S T:ByteArray)(la:Option Addr)(lm lc:Nat)(es:List Ent)(hl:ListedR w la lm es)(hbig:lm<=2097152)(hsz:∀e ∈ es,e.1.size<=maxLen):
  Calls prog 20 #[.pointer (some ⟨W,0,none⟩),.agg #[.int .i64 2,.int .i64 a1,.int .i64 a2,.int .i64 a3,.string S,.string T,.slice la lm lc]] w fun e w'=>e=.returned (.bool true)/\SteppedQ (fun o'=>∃e,DirPutG objs o' es e) ft FL FR FS w w' W s r c5 c6 c7 c8 c9 c10 c11:=by
 have b1:∀B,Below w.heap.size w (w.alloc B):=fun B=>(Below.refl _ _).alloc (zzC _) _;have hput:=fun B=>wputDir2 (h.below (b1 B)) 2 a1 a2 a3 S T la lm lc es (hl.below (b1 B)) hbig hsz;have HP:Hid _:=hput;clear hput h hl hsz;go_enter func20,ntmps20;go_wp2_with (go_at_call 38;refine Calls.mono (HP.out _) ?_;rintro _ w4 ⟨rfl,hk4⟩;have HK5:Hid _:=steppedQ_after (b1 _) hk4;clear hk4);go_ret;exact⟨rfl,HK5.out⟩
end
def abcB:ByteArray:=⟨#[97,98,99]⟩
theorem valid_x:validB entX.1=true:=by unfold validB entX;simp only[ByteArray.toList_eq];decide
theorem valid_d:validB entD.1=true:=by unfold validB entD;simp only[ByteArray.toList_eq];decide
theorem valid_a:validB entA.1=true:=by unfold validB entA;simp only[ByteArray.toList_eq];decide
theorem putA {o':List Ob}{e:Ending}(h:FilePut [] o' abcB e):o' = [fileOb abcB]:=by
 rcases h with ⟨h,_⟩ | ⟨_,_,i,h,_⟩ | ⟨_,_,h,_⟩ | ⟨_,_,_,h,_⟩
 ·exact absurd h (by decide)
 ·cases h
 ·exact absurd h (by decide)
 ·exact h
theorem putB {o':List Ob}{e:Ending}(h:DirPutG [fileOb abcB] o' [entX] e):∃d:Ob,d.kind=2/\d.ents = [entX]/\d.high=1/\o' = [fileOb abcB,d]:=by
 have hv:validB entX.1=true:=valid_x;have hgood:goodE [fileOb abcB] entX=true:=by decide
 rcases h with ⟨⟨x,hx,h⟩,_⟩ | ⟨_,⟨h,_⟩ | ⟨_,h,_⟩ | ⟨_,_,⟨x,hx,h⟩,_⟩ | ⟨_,_,_,es',hP,_,_,h⟩⟩
 ·rw[List.mem_singleton.1 hx,hv] at h;cases h
 ·exact absurd (by simp) h
 ·exact absurd h (by decide)
 ·rw[List.mem_singleton.1 hx,hgood] at h;cases h
 ·obtain rfl:es' = [entX]:=List.perm_singleton.1 hP
  have hh:highs [fileOb abcB] [entX]=1:=by decide
  rw[hh] at h;rcases h with ⟨h,_⟩ | ⟨_,_,i,h,_⟩ | ⟨_,_,h,_⟩ | ⟨_,_,_,⟨o,k1,k2,k3,k4⟩,_⟩
  ·exact absurd h (by decide)
  ·unfold dirAt at h
   simp[fileOb] at h
  ·exact absurd h (by simp)
  ·exact⟨o,k1,k2,k3,by rw[k4];rfl⟩
theorem putC {o':List Ob}{e:Ending}{d:Ob}(hk:d.kind=2)(he:d.ents = [entX])(hh:d.high=1)(h:DirPutG [fileOb abcB,d] o' [entD,entA] e):3<=o'.length/\kindOf o' 3=2:=by
 have hv:∀x ∈ [entD,entA],validB x.1=true:=by
  intro x hx;simp only[List.mem_cons,List.not_mem_nil,or_false] at hx;rcases hx with rfl | rfl
  ·exact valid_d
  ·exact valid_a
 have g1:kindOf [fileOb abcB,d] 2=2:=by
  show d.kind=2;exact hk
 have g2:kindOf [fileOb abcB,d] 1=1:=rfl;have hgood:∀x ∈ [entD,entA],goodE [fileOb abcB,d] x=true:=by
  intro x hx;simp only[List.mem_cons,List.not_mem_nil,or_false] at hx;rcases hx with rfl | rfl
  ·unfold goodE entD
   simp only[g1];decide
  ·unfold goodE entA
   simp only[g2];decide
 rcases h with ⟨⟨x,hx,h⟩,_⟩ | ⟨_,⟨h,_⟩ | ⟨_,h,_⟩ | ⟨_,_,⟨x,hx,h⟩,_⟩ | ⟨_,_,_,es',hP,_,_,h⟩⟩
 ·rw[hv x hx] at h;cases h
 ·exact absurd (by decide) h
 ·exact absurd h (by decide)
 ·rw[hgood x hx] at h;cases h
 ·have hhi:highs [fileOb abcB,d] es'<=5:=by
   refine highs_le.2 ⟨by decide,fun x hx=>?_⟩;have hx':=hP.mem_iff.1 hx;simp only[List.mem_cons,List.not_mem_nil,or_false] at hx';rcases hx' with rfl | rfl
   ·show 1+d.high<=5
    rw[hh];decide
   ·show 1+(fileOb abcB).high<=5
    decide
  rcases h with ⟨h,_⟩ | ⟨_,_,i,h,_⟩ | ⟨_,_,h,_⟩ | ⟨_,_,_,⟨o,k1,k2,k3,k4⟩,_⟩
  ·omega
  ·exfalso
   unfold dirAt at h;obtain⟨hi,h1,_⟩:=List.findIdx?_eq_some_iff_getElem.1 h
   have:i=0\/i=1:=by simp at hi;omega
   rcases this with rfl | rfl
   ·simp[fileOb] at h1
   ·simp only[List.getElem_cons_succ,List.getElem_cons_zero,Bool.and_eq_true,decide_eq_true_eq] at h1
    have:=hP.length_eq
    rw[<-h1.2,he] at this;cases this
  ·exact absurd h (by simp)
  ·rw[k4]
   exact⟨by simp,k1⟩
def encS (xs:List ByteArray):List Value:=xs.map Value.string
theorem infoStrR:(prog.info? 9).map (fun i=>(i.zero,i.size,i.bytes))=some (some (.string ByteArray.empty),1,16):=by kernel_rfl
def cutAt (s:ByteArray)(i:Nat):Bool:=if h:i<s.size then decide (s[i]=47) else true
def segs (s:ByteArray):Nat->List ByteArray×Nat
 | 0=>([],0)
 | i+1=>if cutAt s i=true then ((segs s i).1 ++ [s.extract (segs s i).2 i],i+1) else ((segs s i).1,(segs s i).2)
def splitP (s:ByteArray):List ByteArray×Bool:=
 if s.size=0 then ([],true) else if ∀x ∈ (segs s (s.size+1)).1,validB x=true then ((segs s (s.size+1)).1,decide ((segs s (s.size+1)).1.length<=5)) else ([],false)
theorem segs_from (s:ByteArray):∀i,(segs s i).2<=i
 | 0=>zzC _
 | i+1=>by
  have:=segs_from s i
  simp only[segs]
  split
  ·exact zzC _
  ·exact Nat.le_succ_of_le this
theorem segs_len (s:ByteArray):∀i,(segs s i).1.length<=i
 | 0=>zzC _
 | i+1=>by
  have:=segs_len s i
  simp only[segs]
  split
  ·simpa using this
  ·exact Nat.le_succ_of_le this
theorem segs_size (s:ByteArray)(hs:s.size<=2097152):∀i,∀x ∈ (segs s i).1,x.size<=maxLen
 | 0,x,h=>by cases h
 | i+1,x,h=>by
  simp only[segs] at h
  split at h
  ·rcases List.mem_append.1 h with h | h
   ·exact segs_size s hs i x h
   ·rw[List.mem_singleton.1 h]
    simp only[ByteArray.size_extract]
    unfold maxLen
    omega
  ·exact segs_size s hs i x h
theorem one_str {x:ByteArray}:∀u ∈ [Value.string x],u.oneCell'=true:=by intro u hu;simp at hu;subst hu;rfl
theorem split_any (s:ByteArray)(w:World)(hs:s.size<=2097152):
  Calls prog 152 #[.string s] w fun e w'=>∃v,e=.returned (.tuple #[v,.bool (splitP s).2])/\w'.ownsRow w.heap.size 9 1 v (splitP s).1.length (encS (splitP s).1)/\Below w.heap.size w w':=by
 obtain⟨i0,hi,hz0,hz1,hz2⟩:=info_parts infoStrR;by_cases h0:s.size=0
 ·have hse:s=⟨#[]⟩:=by
   obtain⟨d⟩:=s;simp only[ByteArray.size] at h0;rw[Array.size_eq_zero_iff.1 h0]
  have HP:Hid (splitP s=([],true)):=by show _=_;unfold splitP;rw[zzD h0]
  rw[HP.out];subst hse;clear h0 HP hs;go_enter func152,ntmps152;go_wp2;go_ret2;exact⟨_,rfl,World.ownsRow_nil _ _ _ _,Below.refl _ _⟩
 ·have hse:(s.toList == [])=false:=beq_eq_false_iff_ne.2 fun h=>h0 (by
   have:=congrArg List.length h
   simp only[ByteArray.toList_eq,Array.length_toList,List.length_nil] at this;exact this)
  go_enter func152,ntmps152;go_wp2
  go_loopw [4,5,6] (fun l f i wr=>∃(k fr n:Nat) (al:Option Addr) (cl:Nat),k<=s.size+1/\i=.int .i64 (k:Int)/\f=.int .i64 (fr:Int)/\l=.slice al n cl/\fr<=k/\n<=k/\Below w.heap.size w wr/\Hid (fr=(segs s k).2)/\Hid (n=(segs s k).1.length)/\Hid (wr.ownsRow w.heap.size 9 1 (.slice al n cl) n (encS (segs s k).1))) (fun _ _ i _=>s.size+1-(intOf i).toNat)
  case atStart=>exact⟨0,0,0,none,0,zzF _,rfl,rfl,rfl,zzC _,zzC _,Below.refl _ _,rfl,rfl,World.ownsRow_nil _ _ _ _⟩
  case round=>
   obtain⟨k,fr,n,al,cl,hk,rfl,rfl,rfl,hfk,hnk,hb,HFR,HN,HO⟩:=hrel;by_cases hle:k<=s.size
   ·by_cases hcut:cutAt s k=true
    ·have HS:Hid (segs s (k+1)=((segs s k).1 ++ [s.extract fr k],k+1)):=by show _=_;rw[HFR.out];simp only[segs];rw[zzD hcut]
     by_cases hlt:k<s.size
     ·have h47:s[k]=47:=by unfold cutAt at hcut;rw[dif_pos hlt] at hcut;exact of_decide_eq_true hcut
      have hkz:((k:Int) == (s.size:Int))=false:=by simp;omega
      have h47':((s[k].toNat:Int) == 47)=true:=by rw[h47];rfl
      clear hcut h47;go_wp2_with (at_builtin;refine wpList_append_own _ rfl (.tmp 27) (.tmp 32) 131 rfl w.heap.size 9 i0 _ 1 16 underlying131 hi hz0 hz1 hz2 rfl (by decide) _ _ _ rfl (HO.out.alloc _) ⟨wr.heap.size,0,none⟩ 1 1 [.string (s.extract fr k)] rfl rfl (one_cell _ _ _ _ rfl) one_str (by unfold maxLen;omega) (by omega) (by have:=hb.size;simp;omega) ?_);intro v' w1 hown' hgrow _;have hb1:=grown_own (hb.alloc hb.size _) (by have:=hb.size;simp;omega) (HO.out.alloc _) hgrow;obtain⟨al',cl',rfl⟩:=owns_form hown';have HO1:Hid (w1.ownsRow w.heap.size 9 1 (.slice al' (n+1) cl') (n+1) (encS (segs s (k+1)).1)):=by show World.ownsRow _ _ _ _ _ _ _;rw[HS.out];simp only[encS,List.map_append,List.map_cons,List.map_nil];exact hown'
      have HN1:Hid (n+1=(segs s (k+1)).1.length):=by show _=_;rw[HS.out,HN.out];simp
      have HF1:Hid (k+1=(segs s (k+1)).2):=by show _=_;rw[HS.out]
      clear hown' hgrow;go_wp2;go_roundw
      case rel=>exact⟨k+1,k+1,n+1,al',cl',by omega,by go_num,by go_num,rfl,zzC _,by omega,hb1,HF1.out,HN1.out,HO1.out⟩
      case measure=>simp[intOf];omega
     ·have hkz:k=s.size:=by omega
      have hke:((k:Int) == (s.size:Int))=true:=by rw[hkz];simp
      have HKZ:Hid (k=s.size):=hkz;clear hcut hkz;go_wp2_with (at_builtin;refine wpList_append_own _ rfl (.tmp 27) (.tmp 32) 131 rfl w.heap.size 9 i0 _ 1 16 underlying131 hi hz0 hz1 hz2 rfl (by decide) _ _ _ rfl (HO.out.alloc _) ⟨wr.heap.size,0,none⟩ 1 1 [.string (s.extract fr k)] rfl rfl (one_cell _ _ _ _ rfl) one_str (by unfold maxLen;omega) (by omega) (by have:=hb.size;simp;omega) ?_);intro v' w1 hown' hgrow _;have hb1:=grown_own (hb.alloc hb.size _) (by have:=hb.size;simp;omega) (HO.out.alloc _) hgrow;obtain⟨al',cl',rfl⟩:=owns_form hown';have HO1:Hid (w1.ownsRow w.heap.size 9 1 (.slice al' (n+1) cl') (n+1) (encS (segs s (k+1)).1)):=by show World.ownsRow _ _ _ _ _ _ _;rw[HS.out];simp only[encS,List.map_append,List.map_cons,List.map_nil];exact hown'
      have HN1:Hid (n+1=(segs s (k+1)).1.length):=by show _=_;rw[HS.out,HN.out];simp
      have HF1:Hid (k+1=(segs s (k+1)).2):=by show _=_;rw[HS.out]
      clear hown' hgrow;go_wp2;go_roundw
      case rel=>exact⟨k+1,k+1,n+1,al',cl',by omega,by go_num,by go_num,rfl,zzC _,by omega,hb1,HF1.out,HN1.out,HO1.out⟩
      case measure=>simp[intOf];omega
    ·have HS:Hid (segs s (k+1)=((segs s k).1,(segs s k).2)):=by show _=_;simp only[segs];rw[zzB hcut]
     have hlt:k<s.size:=by
      rcases Nat.lt_or_ge k s.size with h | h
      ·exact h
      ·exact absurd (by unfold cutAt;rw[dif_neg (by omega)]) hcut
     have h47:s[k]≠47:=fun e=>hcut (by unfold cutAt;rw[dif_pos hlt];exact decide_eq_true e);have hkz:((k:Int) == (s.size:Int))=false:=by simp;omega
     have h47':((s[k].toNat:Int) == 47)=false:=beq_eq_false_iff_ne.2 fun e=>h47 (UInt8.toNat_inj.1 (by have:(47:UInt8).toNat=47:=rfl;omega));clear hcut h47;go_wp2;go_roundw
     case rel=>exact⟨k+1,fr,n,al,cl,by omega,by go_num,rfl,rfl,by omega,by omega,hb,by show _=_;rw[HS.out];exact HFR.out,by show _=_;rw[HS.out];exact HN.out,by show World.ownsRow _ _ _ _ _ _ _;rw[HS.out];exact HO.out⟩
     case measure=>simp[intOf];omega
   ·have HKK:Hid (k=s.size+1):=by show _=_;omega
    obtain⟨xs,hxs⟩:∃xs,xs=(segs s k).1:=⟨_,rfl⟩;rw[<-hxs] at HN HO;have HX:Hid (xs=(segs s (s.size+1)).1):=by show _=_;rw[<-HKK.out];exact hxs
    have HSZ:Hid (∀x ∈ xs,x.size<=maxLen):=by rw[hxs];exact segs_size s hs _
    rename World=>wq;obtain⟨k1,hk1⟩:∃k1,k1=k:=⟨_,rfl⟩;rw[<-hk1] at hle ⊢;clear hxs hk1;have hnl:decide ((k1:Int)<=(s.size:Int))=false:=zzE (by omega);have HP:Hid (splitP s=if ∀x ∈ xs,validB x=true then (xs,decide (xs.length<=5)) else ([],false)):=by show _=_;unfold splitP;rw[zzB h0,<-HX.out]
    clear HX HFR hfk;go_wp2
    go_loopw [7] (fun i wr=>∃k:Nat,k<=n/\i=.int .i64 (k:Int)/\(∃q,wr=wq.drewN q)/\Hid (∀j (hj:j<xs.length),j<k->validB xs[j]=true)) (fun i _=>n-(intOf i).toNat)
    case atStart=>exact⟨0,zzF _,rfl,⟨0,rfl⟩,fun j hj h=>by omega⟩
    case round=>
     obtain⟨k,hk',rfl,⟨q,rfl⟩,HV⟩:=hrel;by_cases hlt:k<n
     ·have hkx:k<xs.length:=by rw[<-HN.out];exact hlt
      obtain⟨g,hga,hgl,c,_⟩:=row_one (owns_mono HO.out (zzF _)) (i:=k) (v:=.string xs[k]) (by simp[encS,hkx]);subst hga;have hnm:=fun W=>named_any xs[k] W (HSZ.out _ (zzJ hkx));have hkn:(k:Int)<(n:Int):=by omega
      cases hv:validB xs[k] with
      | true=>
       rw[hv] at hnm;have HB:Hid (validB xs[k]=true):=hv;have HNM:Hid _:=hnm;clear hv hnm;go_wp2_with (go_at_call 150;refine Calls.mono (HNM.out _) ?_;rintro _ _ ⟨rfl,q',rfl⟩);go_roundw
       case rel=>
        refine⟨k+1,by omega,by go_num,⟨_,rfl⟩,fun j hj hjk=>?_⟩;by_cases e:j=k
        ·subst e;exact HB.out
        ·exact HV.out j hj (by omega)
       case measure=>simp[intOf];omega
      | false=>
       rw[hv] at hnm;have HB:Hid (splitP s=([],false)):=by
        show _=_;rw[HP.out,zzB];intro h
        have:=h _ (zzJ hkx)
        rw[hv] at this;cases this
       have HNM:Hid _:=hnm;clear hv hnm;go_wp2_with (go_at_call 150;refine Calls.mono (HNM.out _) ?_;rintro _ _ ⟨rfl,q',rfl⟩);go_ret2;rw[HB.out];exact⟨_,rfl,World.ownsRow_nil _ _ _ _,below_drewN hb _⟩
     ·have HB:Hid (splitP s=(xs,decide (xs.length<=5))):=by
       show _=_;rw[HP.out,zzD];intro x hx;obtain⟨j,hj,rfl⟩:=List.getElem_of_mem hx;exact HV.out j hj (by have:=HN.out;omega)
      have hnl:decide ((k:Int)<(n:Int))=false:=zzE (by omega);have HD:Hid (decide ((n:Int)<=5)=decide (xs.length<=5)):=by
       show _=_;rw[HN.out];by_cases h5:xs.length<=5
       ·rw[decide_eq_true h5,decide_eq_true (by omega)]
       ·rw[zzE h5,zzE (by omega)]
      go_wp2;go_ret2;rw[HB.out];refine⟨.slice al n cl,by rw[<-HD.out];rfl,?_,below_drewN hb q⟩;rw[<-HN.out];exact HO.out
end Go.Proofs.YtlgidcmmgohagaaGreat
