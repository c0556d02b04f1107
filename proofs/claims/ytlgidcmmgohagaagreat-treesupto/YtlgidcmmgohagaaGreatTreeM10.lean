/- What is proved here: afa and agT of the law's 'store' once more. -/
import Derived.Test.YtlgidcmmgohagaaGreatTreeM09
import Derived.Deep.RegionLaw
import Derived.Test.YtlgidcmmgohagaaGreatTreeM07
namespace Go.Proofs.YtlgidcmmgohagaaGreat
open Go.RowKit Go.Sort Go.Shelf Go.Proofs.Tryz
set_option linter.unusedVariables false
set_option maxRecDepth 100000
set_option maxHeartbeats 16000000
variable {ft:CX}
def qC (Q:List Ob->Prop)(ft:CX)(FL FR FS:Nat->Prop)(w w':World)(W s r:Nat)(c5 c6 c7 c8 c9 c10 c11:Value):Prop:=
 ∃s8 sx sy aN bC,W3 ft s8 sx sy w' W s r aN bC c5 c6 c7 c8 c9 c10 c11/\yA FL FR FS s8 sx sy w.heap.size/\ax (F3 FL FR FS) w w'/\Q aN
section
variable {FL FR FS:Nat->Prop}{w:World}{W s r:Nat}{ag au:List Ob}{c5 c6 c7 c8 c9 c10 c11:Value}
theorem BJ {Q:List Ob->Prop}{w1 w':World}(hb:Below w.heap.size w w1)(h:qC Q ft FL FR FS w1 w' W s r c5 c6 c7 c8 c9 c10 c11):qC Q ft FL FR FS w w' W s r c5 c6 c7 c8 c9 c10 c11:=by
 obtain⟨s8,sx,sy,aN,bC,h3,hs,hk,hq⟩:=h;exact⟨s8,sx,sy,aN,bC,h3,hs.mono hb.size,ax.after hk hb,hq⟩
theorem BK (h:W3 ft FL FR FS w W s r ag au c5 c6 c7 c8 c9 c10 c11)(a1 a2 a3:Int)(S T:ByteArray)(la:Option Addr)(lm lc:Nat)(hS:S.size<=maxLen):
  Calls prog 20 #[.pointer (some ⟨W,0,none⟩),.agg #[.int .i64 1,.int .i64 a1,.int .i64 a2,.int .i64 a3,.string S,.string T,.slice la lm lc]] w fun e w'=>e=.returned (.bool true)/\qC (fun o'=>∃e,jI ag o' S e) ft FL FR FS w w' W s r c5 c6 c7 c8 c9 c10 c11:=by
 have HW:Hid (W3 ft FL FR FS w W s r ag au c5 c6 c7 c8 c9 c10 c11):=h;obtain⟨k0,k1,qu,Nt⟩:=h.law.cells;obtain⟨B,hB⟩:∃B:Obj,B=.cells #[.int .i64 1,.int .i64 a1,.int .i64 a2,.int .i64 a3,.string S,.string T,.slice la lm lc] 57:=⟨_,rfl⟩;obtain⟨w1,jb⟩:∃w1,w1=w.alloc B:=⟨_,rfl⟩;have hb0:Below w.heap.size w w1:=by rw[jb];exact (Below.refl _ _).alloc (bA _) B
 have hb1:Below w.heap.size w w1.drew:=below_drewN hb0 1;have h1:=h.below hb1;have SL:=uU h1.uQ S hS;have HPF:Hid _:=SL;have b4:w1.cell? ⟨w.heap.size,4,none⟩=some (.string S):=by rw[jb,hB];simp
 have k01:=(hb0.cell (p:=⟨W,0,none⟩) qu).trans k0;have Yf:=(hb0.cell (p:=⟨W,1,none⟩) qu).trans k1;have hs1:w1.heap.size=w.heap.size+1:=by rw[jb];simp
 have H1:Hid (W3 ft FL FR FS w1.drew W s r ag au c5 c6 c7 c8 c9 c10 c11):=h1;clear h SL h1;go_enter func20,ntmps20;go_wp2;rw[<-hB,<-jb];have HB:Hid (B=.cells #[.int .i64 1,.int .i64 a1,.int .i64 a2,.int .i64 a3,.string S,.string T,.slice la lm lc] 57):=hB;have O6:Hid (w1=w.alloc B):=jb;clear hB jb
 go_region_with (first | (go_at_call 35;refine Calls.mono HPF.out ?_;rintro e w2 ⟨aN,nC,hinv,gU⟩;obtain⟨id,ec,he⟩:=nC.shape;have M4:Hid (jI ag aN S e):=nC;have HE:Hid (e=.returned (.tuple #[.int .i64 id,.int .i64 ec])):=he;rw[he];clear nC he))
 all_goals
  have oQ:ax FS w1 w2:=⟨gU.os,gU.tape,gU.output,gU.size,gU.block⟩;have hkb:∀x,x<w1.heap.size->¬FS x->w2.heap[x]? = w1.heap[x]?:=fun x hx hn=>oQ.block x hx hn;have nW:¬FS W:=fun hf=>(H1.out.sep.sl W hf).2 Nt;have nB:¬FS w.heap.size:=fun hf=>by have:=(HW.out.sep.sl _ hf).1;omega
  have k02:=(World.cell?_of_block (a:=⟨W,0,none⟩) (hkb W (by omega) nW)).trans k01;have k12:=(World.cell?_of_block (a:=⟨W,1,none⟩) (hkb W (by omega) nW)).trans Yf;have b42:=(World.cell?_of_block (a:=⟨w.heap.size,4,none⟩) (hkb w.heap.size (by omega) nB)).trans b4;have hs2:w1.heap.size<=w2.heap.size:=oQ.size;have R2:bS FR w2.drew r au:=HW.out.ref.keep (fun _ h=>h) (fun k hk=>(hkb k (by have:=(HW.out.sep.rl k hk).1;omega) (HW.out.sep.rs k hk)).trans (hb0.block k (HW.out.sep.rl k hk).1));have L2:Hid (fJ FL w2 W s r ag.length c5 c6 c7 c8 c9 c10 c11):=HW.out.law.keep (fun _ h=>h) (fun k hk=>(hkb k (by have:=HW.out.sep.ll k hk;omega) (fun hf=>(HW.out.sep.sl k hf).2 hk)).trans (hb0.block k (HW.out.sep.ll k hk)));have I2:Hid (fT ft (bq FS w1 w2) w2 s aN):=hinv;have Bv:Hid (ax FS w1 w2):=oQ;have hrf:=wI R2 S hS;have HRF:Hid _:=hrf;clear HPF hinv gU oQ hrf R2
  go_frame
  go_wp2
  go_region_with (first | (go_at_call 36;refine Calls.mono HRF.out ?_;rintro e3 w3 ⟨x,y,bC,rfl,Il,CJ,yB⟩))
  all_goals
   have AF:=DW HW.out (show Below w.heap.size w w1 from hb0) Bv.out I2.out L2.out yB CJ M4.out Il HE.out;have td:Hid _:=AF;clear AF Il CJ yB
   go_frame
   have lH:=fun (e:Int) (W':World)=>ji e W';obtain⟨Ov,_,mV⟩:=td.out.1;subst Ov;by_cases hy:ec=0
   ·have CO:=rJ td.out.2.1 td.out.2.2.2.1 td.out.2.2.1 td.out.2.2.2.2.1 td.out.2.2.2.2.2.1 td.out.1 hy HW.out.twin.1
    subst hy;clear mV;have hz:((0:Int) != 0)=false:=by simp
    go_wp2_with (first
     | (go_at_call 22;refine Calls.mono (lH _ _) ?_;rintro _ _ ⟨rfl,rfl⟩)
     | (go_at_call 37;refine Calls.mono CO ?_;rintro _ w4 ⟨rfl,hw4,hk4⟩))
    go_ret;refine⟨rfl,_,_,_,aN,bC,hw4,?_,?_,⟨_,M4.out⟩⟩
    ·have zw:=td.out.2.2.2.2.2.2.size
     refine fun k=>⟨?_,?_,?_⟩ <;> rintro (h | h)
     ·exact .inl h
     ·exact .inr (eU zw h.1)
     ·exact .inl h
     ·have:=h.1;exact .inr (by omega)
     ·exact .inl h
     ·have:=h.1;exact .inr (by omega)
    ·have kk:=td.out.2.2.2.2.2.2
     exact⟨hk4.os.trans kk.os,hk4.tape.trans kk.tape,hk4.output.trans kk.output,eU kk.size hk4.size,fun k hk hn=>(hk4.block k (cv hk kk.size) (fun h=>hn (.inl h))).trans (kk.block k hk hn)⟩
   ·have hid:id=0/\aN=ag/\bC=au:=by
     rcases mV with h | h
     ·exact h.2
     ·exact absurd h.1 hy
    have hyb:(ec != 0)=true:=by simpa using hy
    have Sy:(ec == ec)=true:=(by simp);obtain⟨rfl,rfl,rfl⟩:=hid;clear mV;go_wp2_with (go_at_call 22;refine Calls.mono (lH _ _) ?_;rintro _ _ ⟨rfl,rfl⟩);go_ret;refine⟨rfl,_,_,_,aN,bC,⟨td.out.2.1,td.out.2.2.2.1,td.out.2.2.1,HW.out.twin,HW.out.at_,td.out.2.2.2.2.1⟩,?_,td.out.2.2.2.2.2.2,⟨_,M4.out⟩⟩
    ·refine fun k=>⟨.inl,?_,?_⟩ <;> rintro (h | h)
     ·exact .inl h
     ·have:=h.1;exact .inr (by omega)
     ·exact .inl h
     ·have:=h.1;exact .inr (by omega)
theorem S4 (h:W3 ft FL FR FS w W s r ag au c5 c6 c7 c8 c9 c10 c11)(k0 a1 a2 a3:Int)(S T:ByteArray)(la:Option Addr)(lm lc:Nat)(es:List aK)(hl:eW w la lm es)(jl:lm<=2097152)(hsz:∀e ∈ es,e.1.size<=maxLen):
  Calls prog 38 #[.pointer (some ⟨W,0,none⟩),.agg #[.int .i64 k0,.int .i64 a1,.int .i64 a2,.int .i64 a3,.string S,.string T,.slice la lm lc]] w fun e w'=>e=.returned (.bool true)/\qC (fun o'=>∃e,iJ ag o' es e) ft FL FR FS w w' W s r c5 c6 c7 c8 c9 c10 c11:=by
 obtain⟨i0,hi,hz0,hz1,hz2⟩:=info_parts Ig;obtain⟨iI,hI,Ho,J5,Si⟩:=info_parts wE;have HW:Hid (W3 ft FL FR FS w W s r ag au c5 c6 c7 c8 c9 c10 c11):=h;obtain⟨p0,p1,qu,Nt⟩:=h.law.cells;obtain⟨B,hB⟩:∃B:Obj,B=.cells #[.int .i64 k0,.int .i64 a1,.int .i64 a2,.int .i64 a3,.string S,.string T,.slice la lm lc] 57:=⟨_,rfl⟩;obtain⟨w1,jb⟩:∃w1,w1=w.alloc B:=⟨_,rfl⟩;have hb0:Below w.heap.size w w1:=by rw[jb];exact (Below.refl _ _).alloc (bA _) B
 have b6:w1.cell? ⟨w.heap.size,6,none⟩=some (.slice la lm lc):=by rw[jb,hB];simp
 have hs1:w.heap.size<w1.heap.size:=by rw[jb];simp
 have H1:Hid (W3 ft FL FR FS w1 W s r ag au c5 c6 c7 c8 c9 c10 c11):=h.below hb0;have HL:Hid (eW w la lm es):=hl;have HS:Hid (∀e ∈ es,e.1.size<=maxLen):=hsz;obtain⟨n,hn⟩:∃n,n=ag.length:=⟨_,rfl⟩;have HN:Hid (n=ag.length):=hn;clear h hl hsz hn;go_enter func38,ntmps38;go_wp2;rw[<-hB,<-jb];clear hB jb
 go_loopw [5,6,7] (fun l m i wr=>∃(k:Nat) (al:Option Addr) (cl:Nat) (am:Option Addr) (cm:Nat),k<=lm/\i=.int .i64 (k:Int)/\l=.slice al k cl/\m=.slice am k cm/\Below w1.heap.size w1 wr/\Hid (wr.ownsRow w1.heap.size 96 3 (.slice al k cl) k (flat (es.take k)))/\Hid (wr.ownsRow w1.heap.size 112 3 (.slice am k cm) k (flat ((es.take k).map (gL n))))/\Hid (k=0->al=none/\cl=0)) (fun _ _ i _=>lm-(intOf i).toNat)
 case atStart=>exact⟨0,none,0,none,0,dG _,rfl,rfl,rfl,Below.refl _ _,World.ownsRow_nil _ _ _ _,World.ownsRow_nil _ _ _ _,fun _=>⟨rfl,rfl⟩⟩
 case round=>
  obtain⟨k,al,cl,am,cm,hk,rfl,rfl,rfl,hb,xT,K6,SS⟩:=hrel;have Fu:=hb.size;have b6r:=(hb.cell (p:=⟨w.heap.size,6,none⟩) (by show w.heap.size<_;omega)).trans b6;by_cases hlt:k<lm
  ·obtain⟨b,off,pQ,hbl,hc⟩:=HL.out.2 (by omega)
   have j4:k<es.length:=by rw[HL.out.1];exact hlt
   obtain⟨c0,c1,c2⟩:=bg hc j4;obtain⟨x,hx⟩:∃x,x=es[k]:=⟨_,rfl⟩;rw[<-hx] at c0 c1 c2;have iG:Below w.heap.size w wr:=hb0.trans (hb.mono (by omega));have x0:=(iG.cell (p:=⟨b,off+k*3,none⟩) hbl).trans c0;have x1:=(iG.cell (p:=⟨b,off+k*3+1,none⟩) hbl).trans c1;have x2:=(iG.cell (p:=⟨b,off+k*3+2,none⟩) hbl).trans c2;have acz:b<wr.heap.size:=by omega
   rw[pQ] at b6r;have HX:Hid (x=es[k]):=hx;have K5:Hid (∀X,Calls prog 39 #[.pointer (some ⟨W,0,none⟩),.int .i64 x.2.2] (wr.alloc X) fun e w'=>e=.returned (.int .i64 x.2.2)/\w'=wr.alloc X):=fun X=>zm (H1.out.below (hb.alloc hb.size X)) x.2.2
   have uP:(k:Int)<(lm:Int):=by omega
   clear hc c0 c1 c2 hx pQ;go_wp2_with (first | (go_at_call 39;refine Calls.mono (K5.out _) ?_;rintro _ _ ⟨rfl,rfl⟩) | (at_builtin;refine wpList_append_own _ rfl (.tmp 33) (.tmp 40) 55 rfl w1.heap.size 96 i0 _ 3 32 underlying55 hi hz0 hz1 hz2 rfl (by decide) _ _ _ rfl ((xT.out.alloc _).alloc _) ⟨wr.heap.size+1,0,none⟩ 1 1 (bL x) rfl rfl (bD (wr.alloc _) x _ _ (by simp)) (bJ x) (by unfold maxLen;omega) (by omega) (by simp;omega) ?_));intro v' w2 hown' hgrow _;have hB:w1.heap.size<=((wr.alloc (Obj.cells #[Value.string x.fst,Value.int IntKind.i64 x.snd.fst,Value.int IntKind.i64 x.snd.snd] 96)).alloc (Obj.cells #[Value.string x.fst,Value.int IntKind.i64 x.snd.fst,Value.int IntKind.i64 x.snd.snd] 96)).heap.size:=by simp;omega
   have hb2:Below w1.heap.size w1 w2:=bX ((hb.alloc hb.size _).alloc (by simp;omega) _) hB ((xT.out.alloc _).alloc _) hgrow;have K7:some wr.heap.size≠(Value.slice al k cl).ownBlock:=fun e=>by have:=ah xT.out e.symm;omega
   have hblk:=hgrow.block wr.heap.size (by simp;omega) K7;have e0:w2.cell? ⟨wr.heap.size,0,none⟩=some (.string x.1):=(World.cell?_of_block (a:=⟨wr.heap.size,0,none⟩) hblk).trans (by simp);have e1:w2.cell? ⟨wr.heap.size,1,none⟩=some (.int .i64 x.2.1):=(World.cell?_of_block (a:=⟨wr.heap.size,1,none⟩) hblk).trans (by simp);have K8:Hid (w2.ownsRow w1.heap.size 96 3 v' (k+1) (flat (es.take (k+1)))):=by show World.ownsRow _ _ _ _ _ _ _;rw[<-yg j4,<-HX.out];exact hown'
   have K9:Hid (w2.ownsRow w1.heap.size 112 3 (.slice am k cm) k (flat ((es.take k).map (gL n)))):=ai K6.out (fun g hg=>by
    have hl:=ah K6.out hg;rw[hgrow.block g (by simp;omega) (cS K6.out xT.out (by decide) hg),Below.heap_alloc _ _ _ (by simp;omega),Below.heap_alloc _ _ _ hl])
   have hs2:wr.heap.size<w2.heap.size:=by have:=hgrow.size;simp at this;omega
   have J7:Hid (∀q,Calls prog 41 #[.pointer (some ⟨W,0,none⟩),.int .i64 x.2.2] (w2.drewN q) fun e w'=>e=.returned (.int .i64 (gL n x).2.2)/\w'=w2.drewN q):=fun q=>by rw[HN.out];exact DZ (H1.out.below (below_drewN hb2 q)) x
   obtain⟨Nw,Nx,rfl⟩:=aX hown';clear hown' hgrow hB hblk K7 K5 x0 x1 x2;go_wp2
   go_region_law (first
    | (refine eO rfl (.tmp 42) (.tmp 51) 106 rfl w1.heap.size 112 iI _ 3 32 underlying106 hI Ho J5 Si rfl (by decide) (.slice am k cm) k (flat ((es.take k).map (gL n))) (by simp[Act.eval]) (World.ownsRow.alloc (show w2.drew.ownsRow _ _ _ _ _ _ from K9.out) _) ⟨w2.heap.size,0,none⟩ 1 1 (bL (gL n x)) (by simp[Act.eval]) rfl (bD w2.drew (gL n x) _ _ rfl) (bJ _) (by unfold maxLen;omega) (by omega) (by have:=hb2.size;simp;omega) ?_;intro v'' w3 vL rL _)
    | (go_simp;go_at_call 41;refine Calls.mono (J7.out 1) ?_;rintro _ _ ⟨rfl,rfl⟩))
   all_goals
    have hb3:Below w1.heap.size w1 w3:=bX ((below_drewN hb2 1).alloc hb2.size _) (by have:=hb2.size;simp;omega) (World.ownsRow.alloc (show (w2.drewN 1).ownsRow _ _ _ _ _ _ from K9.out) _) rL;have Zy:Hid (w3.ownsRow w1.heap.size 112 3 v'' (k+1) (flat ((es.take (k+1)).map (gL n)))):=by
     show World.ownsRow _ _ _ _ _ _ _;rw[qX j4,List.map_append,List.map_cons,List.map_nil,aZ,bp,<-HX.out];exact vL
    have Zz:Hid (w3.ownsRow w1.heap.size 96 3 (.slice Nw (k+1) Nx) (k+1) (flat (es.take (k+1)))):=ai K8.out (fun g hg=>by
     have hl:=ah K8.out hg;rw[rL.block g (by simp;omega) (cS K8.out K9.out (by decide) hg),Below.heap_alloc _ _ _ (show g<(w2.drewN 1).heap.size from hl)];rfl)
    obtain⟨am',cm',rfl⟩:=aX vL;clear vL rL;go_wp2;go_roundw
    case rel=>exact⟨k+1,Nw,Nx,am',cm',by omega,by go_num,rfl,rfl,hb3,Zz.out,Zy.out,fun e=>by omega⟩
    case measure=>simp[intOf];omega
  ·have oG:k=lm:=by omega
   subst oG;have DR:decide ((k:Int)<(k:Int))=false:=dY (by omega);have ht:es.take k=es:=List.take_of_length_le (by rw[HL.out.1];exact bA _);rw[ht] at xT K6;have wZ:=Bo al k cl es wr (fh xT.out) (by omega) SS.out;have HLE:Hid _:=wZ;clear wZ ht;go_wp2_with (go_at_call 81;refine Calls.mono HLE.out ?_;rintro _ w5 ⟨uu,rfl,lV,j3⟩;have J8:Hid _:=lV;clear lV;have BD:Below w1.heap.size w1 w5:=hb.trans (j3.mono hb.size);have m0:=(fJ.cells (H1.out.below BD).law).1;have mW:=(fJ.cells (H1.out.below BD).law).2.2.1);have iO:Below w.heap.size w w5:=hb0.trans (BD.mono (by omega));have H5:Hid (W3 ft FL FR FS w5 W s r ag au c5 c6 c7 c8 c9 c10 c11):=H1.out.below BD;have SU:Hid (w5.ownsRow w1.heap.size 96 3 (.slice al k cl) k (flat es)):=ai xT.out (fun g hg=>j3.block g (ah xT.out hg));have SV:Hid (w5.ownsRow w1.heap.size 112 3 (.slice am k cm) k (flat (es.map (gL n)))):=ai K6.out (fun g hg=>j3.block g (ah K6.out hg));have ZA:w1.heap.size<=uu/\uu<w5.heap.size:=by have:=World.ownsRow.lt J8.out uu rfl;exact⟨eU hb.size this.1,this.2⟩
   have hpd:=wW (HW.out.below (below_drewN iO 1)).uQ uu 0 k (k+3) es HL.out.1 ZA.2 (by omega) (fun j u hu=>aQ J8.out j u (DY hu)) HS.out;have HPD:Hid _:=hpd;have hs5:w1.heap.size<=w5.heap.size:=BD.size;have agN:w1.heap.size<=wr.heap.size:=hb.size;clear hpd xT K6 b6r b6
   go_region_with (first | (go_at_call 26;refine Calls.mono HPD.out ?_;rintro e w6 ⟨aN,nC,hinv,gU⟩;obtain⟨id,Pa,he⟩:=nC.shape;have M4:Hid (iJ ag aN es e):=nC;have HE:Hid (e=.returned (.tuple #[.int .i64 id,.int .i64 Pa])):=he;rw[he];clear nC he))
   all_goals
    have oQ:ax FS w5 w6:=⟨gU.os,gU.tape,gU.output,gU.size,gU.block⟩;have HI6:Hid (fT ft (bq FS w5 w6) w6 s aN):=hinv;have Bv:Hid (ax FS w5 w6):=oQ;have hs6:w5.heap.size<=w6.heap.size:=oQ.size;have m1:w6.cell? ⟨W,1,none⟩=some (.pointer (some ⟨r,0,none⟩)):=(World.cell?_of_block (a:=⟨W,1,none⟩) (oQ.block W mW (fun hf=>(HW.out.sep.sl W hf).2 Nt))).trans (fJ.cells H5.out.law).2.1;have mW6:W<w6.heap.size:=by omega
    have R6:bS FR w6 r au:=HW.out.ref.keep (fun _ h=>h) (fun q hq=>(oQ.block q (by have:=(HW.out.sep.rl q hq).1;omega) (HW.out.sep.rs q hq)).trans (iO.block q (HW.out.sep.rl q hq).1));have SX:=qB (fun q hq=>(HW.out.sep.sl q hq).1) oQ SV.out (Nat.le_of_lt hs1);have ZB:=Nv (n:=n) HS.out;have hrd:=zh R6 am k cm (es.map (gL n)) (fh SX) (by omega) ZB.1 (by rw[<-HW.out.twin.1,<-HN.out];exact ZB.2);have Vp:Hid _:=hrd;clear hrd ZB SX R6 oQ gU hinv HPD
    go_frame
    go_wp2_with (first
     | (go_at_call 82;refine Calls.mono Vp.out ?_;rintro _ w7 ⟨x,y,bC,rfl,Il,CJ,yB⟩;have td:Hid _:=uY HW.out iO Bv.out HI6.out yB CJ M4.out (by rw[<-HN.out];exact Il) HE.out;have SY:Hid _:=Yh HW.out Bv.out yB SU.out J8.out (Nat.le_of_lt hs1) (by omega) jl SS.out;have hs7:=yB.size;clear Il CJ yB)
     | (go_at_call 83;refine Calls.mono SY.out.1 ?_;rintro _ w8 ⟨rfl,Vq⟩))
    have C2:Hid (w8.ownsRow 0 96 3 (.slice (some ⟨uu,0,none⟩) (k+3) (k+3)) (k+3) (flat (es++List.replicate 3 vG))):=ai (cL SY.out.2 (dG _)) (fun g hg=>Vq.block g (ah SY.out.2 hg));clear Vp SU SV J8 SY m0 m1
    go_loopw [16] (fun i wq=>∃d:Nat,d<=k+3/\i=.int .i64 (d:Int)/\Hid (ax (fun q=>q=uu) w8 wq)/\Hid (∃xs,wq.ownsRow 0 96 3 (.slice (some ⟨uu,0,none⟩) (k+3) (k+3)) (k+3) xs)) (fun i _=>k+3-(intOf i).toNat)
    case atStart=>exact⟨0,dG _,rfl,ax.refl _,⟨_,C2.out⟩⟩
    case round=>
     obtain⟨d,hd,rfl,HK,Vr⟩:=hrel;obtain⟨xs,hown⟩:=Vr.out;by_cases Vh:d<k+3
     ·have ET:=fun j=>hown.frozenAt j
      have hcs:∀j,j<3->∃v,wr.cell? ⟨uu,d*3+j,none⟩=some v:=fun j hj=>by
       rw[hown.cellAt (d*3+j) (by omega)];exact⟨_,kO (by rw[hown.1];omega)⟩
      obtain⟨v0,e0⟩:=hcs 0 (by omega);obtain⟨v1,e1⟩:=hcs 1 (by omega);obtain⟨v2,e2⟩:=hcs 2 (by omega);rw[Nat.add_zero] at e0;have sA:(d:Int)<(k:Int)+3:=by omega
      have fo:uu<wr.heap.size:=ah hown rfl;have HO:Hid (wr.ownsRow 0 96 3 (.slice (some ⟨uu,0,none⟩) (k+3) (k+3)) (k+3) xs):=hown;clear hcs Vr hown;go_wp2;refine⟨⟨d+1,by omega,by go_num,jA (jA (jA HK.out (kK rfl)) (kK rfl)) (kK rfl),⟨_,(World.ownsRow.stored (World.ownsRow.stored (World.ownsRow.stored HO.out _ _).1 _ _).1 _ _).1⟩⟩,by simp[intOf];omega⟩
     ·have DR:decide ((d:Int)<(k:Int)+3)=false:=dY (by omega)
      obtain⟨hA,A1,A2,A3,A4,A5,A6⟩:=td.out;have hK9:ax (fun q=>q=uu) w7 wr:=jA (ax.aM Vq) HK.out;have hF:=Bz A1 A2 A3 A4 A6 hK9 (fun hf=>by have:=HW.out.sep.ll uu hf;omega) (fun hf=>by
       rcases hf with hf | hf
       ·have:=(HW.out.sep.rl uu hf).1;omega
       ·have:=hf.1;omega) (fun hf=>by
       rcases hf with hf | hf
       ·have:=(HW.out.sep.sl uu hf).1;omega
       ·have:=hf.1;omega) (by omega)
      have Aa:Hid _:=hF;have HA5:Hid (iM bC):=A5;have HAG:Hid (vI ag aN au bC id Pa x y):=hA;have lH:=fun (e:Int) (W':World)=>ji e W';obtain⟨Ov,_,mV⟩:=hA;subst Ov;clear hown Vr hF A1 A2 A3 A4 A5 A6 hK9 HK td;by_cases hy:Pa=0
      ·have CO:=rJ Aa.out.1 Aa.out.2.2.1 Aa.out.2.1 Aa.out.2.2.2.1 HA5.out HAG.out hy HW.out.twin.1
       subst hy;clear mV;have hz:((0:Int) != 0)=false:=by simp
       go_wp2_with (first
        | (go_at_call 22;refine Calls.mono (lH _ _) ?_;rintro _ _ ⟨rfl,rfl⟩)
        | (go_at_call 37;refine Calls.mono CO ?_;rintro _ w9 ⟨rfl,hw9,SZ⟩))
       go_ret;refine⟨rfl,_,_,_,aN,bC,hw9,?_,?_,⟨_,M4.out⟩⟩
       ·have zw:=Aa.out.2.2.2.2.size
        refine fun q=>⟨?_,?_,?_⟩ <;> rintro (h | h)
        ·exact .inl h
        ·exact .inr (eU zw h.1)
        ·exact .inl h
        ·have:=h.1;exact .inr (by omega)
        ·exact .inl h
        ·have:=h.1;exact .inr (by omega)
       ·have kk:=Aa.out.2.2.2.2
        exact⟨SZ.os.trans kk.os,SZ.tape.trans kk.tape,SZ.output.trans kk.output,eU kk.size SZ.size,fun q hq hn=>(SZ.block q (cv hq kk.size) (fun h=>hn (.inl h))).trans (kk.block q hq hn)⟩
      ·have hid:id=0/\aN=ag/\bC=au:=by
        rcases mV with h | h
        ·exact h.2
        ·exact absurd h.1 hy
       have hyb:(Pa != 0)=true:=by simpa using hy
       have Sy:(Pa != Pa)=false:=(by simp);obtain⟨rfl,rfl,rfl⟩:=hid;clear mV;go_wp2_with (go_at_call 22;refine Calls.mono (lH _ _) ?_;rintro _ _ ⟨rfl,rfl⟩);go_ret;refine⟨rfl,_,_,_,aN,bC,⟨Aa.out.1,Aa.out.2.2.1,Aa.out.2.1,HW.out.twin,HW.out.at_,Aa.out.2.2.2.1⟩,?_,Aa.out.2.2.2.2,⟨_,M4.out⟩⟩
       ·refine fun q=>⟨.inl,?_,?_⟩ <;> rintro (h | h)
        ·exact .inl h
        ·have:=h.1;exact .inr (by omega)
        ·exact .inl h
        ·have:=h.1;exact .inr (by omega)
theorem uZ (h:W3 ft FL FR FS w W s r ag au c5 c6 c7 c8 c9 c10 c11)(a1 a2 a3:Int)(S T:ByteArray)(la:Option Addr)(lm lc:Nat)(es:List aK)(hl:eW w la lm es)(jl:lm<=2097152)(hsz:∀e ∈ es,e.1.size<=maxLen):
  Calls prog 20 #[.pointer (some ⟨W,0,none⟩),.agg #[.int .i64 2,.int .i64 a1,.int .i64 a2,.int .i64 a3,.string S,.string T,.slice la lm lc]] w fun e w'=>e=.returned (.bool true)/\qC (fun o'=>∃e,iJ ag o' es e) ft FL FR FS w w' W s r c5 c6 c7 c8 c9 c10 c11:=by
 have b1:∀B,Below w.heap.size w (w.alloc B):=fun B=>(Below.refl _ _).alloc (bA _) _;have hput:=fun B=>S4 (h.below (b1 B)) 2 a1 a2 a3 S T la lm lc es (hl.below (b1 B)) jl hsz;have HP:Hid _:=hput;clear hput h hl hsz;go_enter func20,ntmps20;go_wp2_with (go_at_call 38;refine Calls.mono (HP.out _) ?_;rintro _ w4 ⟨rfl,hk4⟩;have Zu:Hid _:=BJ (b1 _) hk4;clear hk4);go_ret;exact⟨rfl,Zu.out⟩
end
def yC:ByteArray:=⟨#[97,98,99]⟩
theorem V9:aF BF.1=true:=by unfold aF BF;simp only[ByteArray.toList_eq];decide
theorem Wa:aF Iu.1=true:=by unfold aF Iu;simp only[ByteArray.toList_eq];decide
theorem Wb:aF Iw.1=true:=by unfold aF Iw;simp only[ByteArray.toList_eq];decide
theorem agU {o':List Ob}{e:Ending}(h:jI [] o' yC e):o' = [eP yC]:=by
 rcases h with ⟨h,_⟩ | ⟨_,_,i,h,_⟩ | ⟨_,_,h,_⟩ | ⟨_,_,_,h,_⟩
 ·exact absurd h (by decide)
 ·cases h
 ·exact absurd h (by decide)
 ·exact h
theorem agV {o':List Ob}{e:Ending}(h:iJ [eP yC] o' [BF] e):∃d:Ob,d.kind=2/\d.aV = [BF]/\d.high=1/\o' = [eP yC,d]:=by
 have hv:aF BF.1=true:=V9;have S5:eV [eP yC] BF=true:=by decide
 rcases h with ⟨⟨x,hx,h⟩,_⟩ | ⟨_,⟨h,_⟩ | ⟨_,h,_⟩ | ⟨_,_,⟨x,hx,h⟩,_⟩ | ⟨_,_,_,es',hP,_,_,h⟩⟩
 ·rw[List.mem_singleton.1 hx,hv] at h;cases h
 ·exact absurd (by simp) h
 ·exact absurd h (by decide)
 ·rw[List.mem_singleton.1 hx,S5] at h;cases h
 ·obtain rfl:es' = [BF]:=List.perm_singleton.1 hP
  have hh:dn [eP yC] [BF]=1:=by decide
  rw[hh] at h;rcases h with ⟨h,_⟩ | ⟨_,_,i,h,_⟩ | ⟨_,_,h,_⟩ | ⟨_,_,_,⟨o,k1,k2,k3,k4⟩,_⟩
  ·exact absurd h (by decide)
  ·unfold mK at h
   simp[eP] at h
  ·exact absurd h (by simp)
  ·exact⟨o,k1,k2,k3,by rw[k4];rfl⟩
theorem agW {o':List Ob}{e:Ending}{d:Ob}(hk:d.kind=2)(he:d.aV = [BF])(hh:d.high=1)(h:iJ [eP yC,d] o' [Iu,Iw] e):3<=o'.length/\aH o' 3=2:=by
 have hv:∀x ∈ [Iu,Iw],aF x.1=true:=by
  intro x hx;simp only[List.mem_cons,List.not_mem_nil,or_false] at hx;rcases hx with rfl | rfl
  ·exact Wa
  ·exact Wb
 have g1:aH [eP yC,d] 2=2:=by
  show d.kind=2;exact hk
 have g2:aH [eP yC,d] 1=1:=rfl;have S5:∀x ∈ [Iu,Iw],eV [eP yC,d] x=true:=by
  intro x hx;simp only[List.mem_cons,List.not_mem_nil,or_false] at hx;rcases hx with rfl | rfl
  ·unfold eV Iu
   simp only[g1];decide
  ·unfold eV Iw
   simp only[g2];decide
 rcases h with ⟨⟨x,hx,h⟩,_⟩ | ⟨_,⟨h,_⟩ | ⟨_,h,_⟩ | ⟨_,_,⟨x,hx,h⟩,_⟩ | ⟨_,_,_,es',hP,_,_,h⟩⟩
 ·rw[hv x hx] at h;cases h
 ·exact absurd (by decide) h
 ·exact absurd h (by decide)
 ·rw[S5 x hx] at h;cases h
 ·have hhi:dn [eP yC,d] es'<=5:=by
   refine Bj.2 ⟨by decide,fun x hx=>?_⟩;have rA:=hP.mem_iff.1 hx;simp only[List.mem_cons,List.not_mem_nil,or_false] at rA;rcases rA with rfl | rfl
   ·show 1+d.high<=5
    rw[hh];decide
   ·show 1+(eP yC).high<=5
    decide
  rcases h with ⟨h,_⟩ | ⟨_,_,i,h,_⟩ | ⟨_,_,h,_⟩ | ⟨_,_,_,⟨o,k1,k2,k3,k4⟩,_⟩
  ·omega
  ·exfalso
   unfold mK at h;obtain⟨hi,h1,_⟩:=List.findIdx?_eq_some_iff_getElem.1 h
   have:i=0\/i=1:=by simp at hi;omega
   rcases this with rfl | rfl
   ·simp[eP] at h1
   ·simp only[List.getElem_cons_succ,List.getElem_cons_zero,Bool.and_eq_true,decide_eq_true_eq] at h1
    have:=hP.length_eq
    rw[<-h1.2,he] at this;cases this
  ·exact absurd h (by simp)
  ·rw[k4]
   exact⟨by simp,k1⟩
def gM (xs:List ByteArray):List Value:=xs.map Value.string
theorem tq:(prog.info? 9).map (fun i=>(i.zero,i.size,i.bytes))=some (some (.string ByteArray.empty),1,16):=by kernel_rfl
def cutAt (s:ByteArray)(i:Nat):Bool:=if h:i<s.size then decide (s[i]=47) else true
def iu (s:ByteArray):Nat->List ByteArray×Nat
 | 0=>([],0)
 | i+1=>if cutAt s i=true then ((iu s i).1 ++ [s.extract (iu s i).2 i],i+1) else ((iu s i).1,(iu s i).2)
def aG (s:ByteArray):List ByteArray×Bool:=
 if s.size=0 then ([],true) else if ∀x ∈ (iu s (s.size+1)).1,aF x=true then ((iu s (s.size+1)).1,decide ((iu s (s.size+1)).1.length<=5)) else ([],false)
theorem D3 (s:ByteArray):∀i,(iu s i).2<=i
 | 0=>bA _
 | i+1=>by
  have:=D3 s i
  simp only[iu]
  split
  ·exact bA _
  ·exact Nat.le_succ_of_le this
theorem IA (s:ByteArray):∀i,(iu s i).1.length<=i
 | 0=>bA _
 | i+1=>by
  have:=IA s i
  simp only[iu]
  split
  ·simpa using this
  ·exact Nat.le_succ_of_le this
theorem yD (s:ByteArray)(hs:s.size<=2097152):∀i,∀x ∈ (iu s i).1,x.size<=maxLen
 | 0,x,h=>by cases h
 | i+1,x,h=>by
  simp only[iu] at h
  split at h
  ·rcases List.mem_append.1 h with h | h
   ·exact yD s hs i x h
   ·rw[List.mem_singleton.1 h]
    simp only[ByteArray.size_extract]
    unfold maxLen
    omega
  ·exact yD s hs i x h
theorem Av {x:ByteArray}:∀u ∈ [Value.string x],u.oneCell'=true:=by intro u hu;simp at hu;subst hu;rfl
theorem fU (s:ByteArray)(w:World)(hs:s.size<=2097152):
  Calls prog 152 #[.string s] w fun e w'=>∃v,e=.returned (.tuple #[v,.bool (aG s).2])/\w'.ownsRow w.heap.size 9 1 v (aG s).1.length (gM (aG s).1)/\Below w.heap.size w w':=by
 obtain⟨i0,hi,hz0,hz1,hz2⟩:=info_parts tq;by_cases h0:s.size=0
 ·have hse:s=⟨#[]⟩:=by
   obtain⟨d⟩:=s;simp only[ByteArray.size] at h0;rw[Array.size_eq_zero_iff.1 h0]
  have HP:Hid (aG s=([],true)):=by show _=_;unfold aG;rw[aL h0]
  rw[HP.out];subst hse;clear h0 HP hs;go_enter func152,ntmps152;go_wp2;go_ret2;exact⟨_,rfl,World.ownsRow_nil _ _ _ _,Below.refl _ _⟩
 ·have hse:(s.toList == [])=false:=beq_eq_false_iff_ne.2 fun h=>h0 (by
   have:=congrArg List.length h
   simp only[ByteArray.toList_eq,Array.length_toList,List.length_nil] at this;exact this)
  go_enter func152,ntmps152;go_wp2
  go_loopw [4,5,6] (fun l f i wr=>∃(k fr n:Nat) (al:Option Addr) (cl:Nat),k<=s.size+1/\i=.int .i64 (k:Int)/\f=.int .i64 (fr:Int)/\l=.slice al n cl/\fr<=k/\n<=k/\Below w.heap.size w wr/\Hid (fr=(iu s k).2)/\Hid (n=(iu s k).1.length)/\Hid (wr.ownsRow w.heap.size 9 1 (.slice al n cl) n (gM (iu s k).1))) (fun _ _ i _=>s.size+1-(intOf i).toNat)
  case atStart=>exact⟨0,0,0,none,0,dG _,rfl,rfl,rfl,bA _,bA _,Below.refl _ _,rfl,rfl,World.ownsRow_nil _ _ _ _⟩
  case round=>
   obtain⟨k,fr,n,al,cl,hk,rfl,rfl,rfl,hfk,hnk,hb,Fy,HN,HO⟩:=hrel;by_cases hle:k<=s.size
   ·by_cases hcut:cutAt s k=true
    ·have HS:Hid (iu s (k+1)=((iu s k).1 ++ [s.extract fr k],k+1)):=by show _=_;rw[Fy.out];simp only[iu];rw[aL hcut]
     by_cases hlt:k<s.size
     ·have RL:s[k]=47:=by unfold cutAt at hcut;rw[dif_pos hlt] at hcut;exact of_decide_eq_true hcut
      have O9:((k:Int) == (s.size:Int))=false:=by simp;omega
      have agX:((s[k].toNat:Int) == 47)=true:=by rw[RL];rfl
      clear hcut RL;go_wp2_with (at_builtin;refine wpList_append_own _ rfl (.tmp 27) (.tmp 32) 131 rfl w.heap.size 9 i0 _ 1 16 underlying131 hi hz0 hz1 hz2 rfl (by decide) _ _ _ rfl (HO.out.alloc _) ⟨wr.heap.size,0,none⟩ 1 1 [.string (s.extract fr k)] rfl rfl (one_cell _ _ _ _ rfl) Av (by unfold maxLen;omega) (by omega) (by have:=hb.size;simp;omega) ?_);intro v' w1 hown' hgrow _;have hb1:=bX (hb.alloc hb.size _) (by have:=hb.size;simp;omega) (HO.out.alloc _) hgrow;obtain⟨Nw,Nx,rfl⟩:=aX hown';have HO1:Hid (w1.ownsRow w.heap.size 9 1 (.slice Nw (n+1) Nx) (n+1) (gM (iu s (k+1)).1)):=by show World.ownsRow _ _ _ _ _ _ _;rw[HS.out];simp only[gM,List.map_append,List.map_cons,List.map_nil];exact hown'
      have HN1:Hid (n+1=(iu s (k+1)).1.length):=by show _=_;rw[HS.out,HN.out];simp
      have HF1:Hid (k+1=(iu s (k+1)).2):=by show _=_;rw[HS.out]
      clear hown' hgrow;go_wp2;go_roundw
      case rel=>exact⟨k+1,k+1,n+1,Nw,Nx,by omega,by go_num,by go_num,rfl,bA _,by omega,hb1,HF1.out,HN1.out,HO1.out⟩
      case measure=>simp[intOf];omega
     ·have O9:k=s.size:=by omega
      have j4:((k:Int) == (s.size:Int))=true:=by rw[O9];simp
      have HKZ:Hid (k=s.size):=O9;clear hcut O9;go_wp2_with (at_builtin;refine wpList_append_own _ rfl (.tmp 27) (.tmp 32) 131 rfl w.heap.size 9 i0 _ 1 16 underlying131 hi hz0 hz1 hz2 rfl (by decide) _ _ _ rfl (HO.out.alloc _) ⟨wr.heap.size,0,none⟩ 1 1 [.string (s.extract fr k)] rfl rfl (one_cell _ _ _ _ rfl) Av (by unfold maxLen;omega) (by omega) (by have:=hb.size;simp;omega) ?_);intro v' w1 hown' hgrow _;have hb1:=bX (hb.alloc hb.size _) (by have:=hb.size;simp;omega) (HO.out.alloc _) hgrow;obtain⟨Nw,Nx,rfl⟩:=aX hown';have HO1:Hid (w1.ownsRow w.heap.size 9 1 (.slice Nw (n+1) Nx) (n+1) (gM (iu s (k+1)).1)):=by show World.ownsRow _ _ _ _ _ _ _;rw[HS.out];simp only[gM,List.map_append,List.map_cons,List.map_nil];exact hown'
      have HN1:Hid (n+1=(iu s (k+1)).1.length):=by show _=_;rw[HS.out,HN.out];simp
      have HF1:Hid (k+1=(iu s (k+1)).2):=by show _=_;rw[HS.out]
      clear hown' hgrow;go_wp2;go_roundw
      case rel=>exact⟨k+1,k+1,n+1,Nw,Nx,by omega,by go_num,by go_num,rfl,bA _,by omega,hb1,HF1.out,HN1.out,HO1.out⟩
      case measure=>simp[intOf];omega
    ·have HS:Hid (iu s (k+1)=((iu s k).1,(iu s k).2)):=by show _=_;simp only[iu];rw[ay hcut]
     have hlt:k<s.size:=by
      rcases Nat.lt_or_ge k s.size with h | h
      ·exact h
      ·exact absurd (by unfold cutAt;rw[dif_neg (by omega)]) hcut
     have RL:s[k]≠47:=fun e=>hcut (by unfold cutAt;rw[dif_pos hlt];exact decide_eq_true e);have O9:((k:Int) == (s.size:Int))=false:=by simp;omega
     have agX:((s[k].toNat:Int) == 47)=false:=beq_eq_false_iff_ne.2 fun e=>RL (UInt8.toNat_inj.1 (by have:(47:UInt8).toNat=47:=rfl;omega));clear hcut RL;go_wp2;go_roundw
     case rel=>exact⟨k+1,fr,n,al,cl,by omega,by go_num,rfl,rfl,by omega,by omega,hb,by show _=_;rw[HS.out];exact Fy.out,by show _=_;rw[HS.out];exact HN.out,by show World.ownsRow _ _ _ _ _ _ _;rw[HS.out];exact HO.out⟩
     case measure=>simp[intOf];omega
   ·have HKK:Hid (k=s.size+1):=by show _=_;omega
    obtain⟨xs,rM⟩:∃xs,xs=(iu s k).1:=⟨_,rfl⟩;rw[<-rM] at HN HO;have HX:Hid (xs=(iu s (s.size+1)).1):=by show _=_;rw[<-HKK.out];exact rM
    have Rb:Hid (∀x ∈ xs,x.size<=maxLen):=by rw[rM];exact yD s hs _
    rename World=>wq;obtain⟨k1,fM⟩:∃k1,k1=k:=⟨_,rfl⟩;rw[<-fM] at hle ⊢;clear rM fM;have DR:decide ((k1:Int)<=(s.size:Int))=false:=dY (by omega);have HP:Hid (aG s=if ∀x ∈ xs,aF x=true then (xs,decide (xs.length<=5)) else ([],false)):=by show _=_;unfold aG;rw[ay h0,<-HX.out]
    clear HX Fy hfk;go_wp2
    go_loopw [7] (fun i wr=>∃k:Nat,k<=n/\i=.int .i64 (k:Int)/\(∃q,wr=wq.drewN q)/\Hid (∀j (hj:j<xs.length),j<k->aF xs[j]=true)) (fun i _=>n-(intOf i).toNat)
    case atStart=>exact⟨0,dG _,rfl,⟨0,rfl⟩,fun j hj h=>by omega⟩
    case round=>
     obtain⟨k,dy,rfl,⟨q,rfl⟩,HV⟩:=hrel;by_cases hlt:k<n
     ·have Vs:k<xs.length:=by rw[<-HN.out];exact hlt
      obtain⟨g,xR,fo,c,_⟩:=row_one (cL HO.out (dG _)) (i:=k) (v:=.string xs[k]) (by simp[gM,Vs]);subst xR;have sA:=fun W=>Dv xs[k] W (Rb.out _ (jk Vs));have gP:(k:Int)<(n:Int):=by omega
      cases hv:aF xs[k] with
      | true=>
       rw[hv] at sA;have HB:Hid (aF xs[k]=true):=hv;have HNM:Hid _:=sA;clear hv sA;go_wp2_with (go_at_call 150;refine Calls.mono (HNM.out _) ?_;rintro _ _ ⟨rfl,q',rfl⟩);go_roundw
       case rel=>
        refine⟨k+1,by omega,by go_num,⟨_,rfl⟩,fun j hj hjk=>?_⟩;by_cases e:j=k
        ·subst e;exact HB.out
        ·exact HV.out j hj (by omega)
       case measure=>simp[intOf];omega
      | false=>
       rw[hv] at sA;have HB:Hid (aG s=([],false)):=by
        show _=_;rw[HP.out,ay];intro h
        have:=h _ (jk Vs)
        rw[hv] at this;cases this
       have HNM:Hid _:=sA;clear hv sA;go_wp2_with (go_at_call 150;refine Calls.mono (HNM.out _) ?_;rintro _ _ ⟨rfl,q',rfl⟩);go_ret2;rw[HB.out];exact⟨_,rfl,World.ownsRow_nil _ _ _ _,below_drewN hb _⟩
     ·have HB:Hid (aG s=(xs,decide (xs.length<=5))):=by
       show _=_;rw[HP.out,aL];intro x hx;obtain⟨j,hj,rfl⟩:=List.getElem_of_mem hx;exact HV.out j hj (by have:=HN.out;omega)
      have DR:decide ((k:Int)<(n:Int))=false:=dY (by omega);have HD:Hid (decide ((n:Int)<=5)=decide (xs.length<=5)):=by
       show _=_;rw[HN.out];by_cases h5:xs.length<=5
       ·rw[decide_eq_true h5,decide_eq_true (by omega)]
       ·rw[dY h5,dY (by omega)]
      go_wp2;go_ret2;rw[HB.out];refine⟨.slice al n cl,by rw[<-HD.out];rfl,?_,below_drewN hb q⟩;rw[<-HN.out];exact HO.out
def oU (c n:Int):Int:=(if c<0 then -(c+1) else c).tmod n
theorem D4 (c:Int){n:Int}(hn:0<n):0<=oU c n/\oU c n<n:=by
 unfold oU;have h0:0<=(if c<0 then -(c+1) else c):=by split <;> omega
 exact⟨Int.tmod_nonneg _ h0,Int.tmod_lt_of_pos _ hn⟩
theorem S6 (c n:Int)(w:World)(hc:-9223372036854775808<=c/\c<=9223372036854775807)(hn:0<n)(hn2:n<=1000000000):
  Calls prog 49 #[.int .i64 c,.int .i64 n] w fun e w'=>e=.returned (.int .i64 (oU c n))/\w'=w:=by
 have hb:=D4 c hn;by_cases h:c<0
 ·have HE:Hid (oU c n=(-(c+1)).tmod n):=by show _=_;unfold oU;rw[aL h]
  rw[HE.out] at hb;go_enter func49,ntmps49;go_wp2;go_ret;exact⟨by rw[HE.out,Int.neg_tmod];rfl,rfl⟩
 ·have HE:Hid (oU c n=c.tmod n):=by show _=_;unfold oU;rw[ay h]
  rw[HE.out] at hb;have h':decide (c<0)=false:=dY h;go_enter func49,ntmps49;go_wp2;go_ret;exact⟨by rw[HE.out,Int.tmod_eq_emod_of_nonneg h];rfl,rfl⟩
theorem C4 (a b:Option Addr)(c d:Nat)(xs ys:List ByteArray)(w:World)(z1:xs.length<=1000000000)(z2:ys.length<=1000000000)
  (r1:w.ownsRow 0 9 1 (.slice a xs.length c) xs.length (gM xs))(r2:w.ownsRow 0 9 1 (.slice b ys.length d) ys.length (gM ys)):
  Calls prog 92 #[.slice a xs.length c,.slice b ys.length d] w fun e w'=>e=.returned (.bool (decide (xs=ys)))/\Below w.heap.size w w':=by
 by_cases hl:xs.length=ys.length
 ·obtain⟨m,hm⟩:∃m,m=xs.length:=⟨_,rfl⟩
  have l1:Hid (xs.length=m):=hm.symm;have l2:Hid (ys.length=m):=by rw[hm];exact hl.symm
  rw[<-hl,<-hm] at r2;rw[<-hl,<-hm];rw[<-hm] at r1 z1;have R1:Hid (w.ownsRow 0 9 1 (.slice a m c) m (gM xs)):=r1;have R2:Hid (w.ownsRow 0 9 1 (.slice b m d) m (gM ys)):=r2;clear r1 r2 hl hm z2;have h2:((m:Int) != (m:Int))=false:=by simp
  go_enter func92,ntmps92;go_wp2
  go_loopw [5] (fun i wr=>∃k:Nat,k<=m/\i=.int .i64 k/\Hid (∃q,wr=w.drewN q)/\Hid (xs.take k=ys.take k)) (fun i _=>m-(intOf i).toNat)
  case atStart=>exact⟨0,dG _,rfl,⟨0,by first | rfl | trivial⟩,rfl⟩
  case round=>
   obtain⟨k,hk,rfl,HQ,HT⟩:=hrel;by_cases hlt:k<m
   ·have Vc:k<xs.length:=by rw[l1.out];exact hlt
    have XS:k<ys.length:=by rw[l2.out];exact hlt
    obtain⟨x,hx⟩:∃x,x=xs[k]:=⟨_,rfl⟩;obtain⟨y,hy⟩:∃y,y=ys[k]:=⟨_,rfl⟩;obtain⟨g1,rfl,gl1,p,_⟩:=row_one R1.out (i:=k) (v:=.string x) (by simp[gM,kO Vc,hx]);obtain⟨g2,rfl,gl2,p',_⟩:=row_one R2.out (i:=k) (v:=.string y) (by simp[gM,kO XS,hy]);have p1:wr.cell? ⟨g1,k,none⟩=some (.string x):=by obtain⟨q,hq⟩:=HQ.out;rw[hq];exact p
    have p2:wr.cell? ⟨g2,k,none⟩=some (.string y):=by obtain⟨q,hq⟩:=HQ.out;rw[hq];exact p'
    have s1:g1<wr.heap.size:=by obtain⟨q,hq⟩:=HQ.out;rw[hq];exact gl1
    have s2:g2<wr.heap.size:=by obtain⟨q,hq⟩:=HQ.out;rw[hq];exact gl2
    clear p p' gl1 gl2;have HX:Hid (x=xs[k]):=hx;have HY:Hid (y=ys[k]):=hy;clear hx hy;cases Ap:(x.toList == y.toList) with
    | true=>
     have HD:Hid (x=y):=ByteArray.ext (Array.toList_inj.1 (by simpa [ByteArray.toList_eq] using Ap));go_wp2
     go_quiet (fail)
     go_wp2;go_roundw
     case rel=>
      refine⟨k+1,by omega,by go_num,(by obtain⟨q,hq⟩:=HQ.out;exact⟨q+nq,by rw[hq];simp⟩),?_⟩;show _=_;rw[qX Vc,qX XS,HT.out,<-HX.out,<-HY.out,HD.out]
     case measure=>simp[intOf];omega
    | false=>
     have HD:Hid (xs≠ys):=fun h=>by
      have:x=y:=by rw[HX.out,HY.out];simp only[h]
      rw[this] at Ap;simp at Ap
     go_wp2
     go_quiet (fail)
     go_wp2;go_ret;exact⟨by rw[dY HD.out];rfl,by obtain⟨q,hq⟩:=HQ.out;rw[hq];exact below_drewN (below_drewN (Below.refl _ _) _) _⟩
   ·have uP:k=m:=by omega
    have HD:Hid (xs=ys):=by
     have:=HT.out
     rwa [uP,List.take_of_length_le (by rw[l1.out];exact bA _),List.take_of_length_le (by rw[l2.out];exact bA _)] at this
    go_wp2;go_ret;exact⟨by rw[decide_eq_true HD.out];rfl,by obtain⟨q,hq⟩:=HQ.out;rw[hq];exact below_drewN (Below.refl _ _) _⟩
 ·have HD:Hid (xs≠ys):=fun h=>hl (by rw[h])
  have h2:((xs.length:Int) != (ys.length:Int))=true:=by simp;omega
  clear hl;go_enter func92,ntmps92;go_wp2;go_ret;exact⟨by rw[dY HD.out];rfl,Below.refl _ _⟩
theorem kY (W:Nat)(e f:Int)(none:Bool)(w:World)(he:(e == 14)=false):
  Calls prog 53 #[.pointer (some ⟨W,0,.none⟩),.int .i64 e,.int .i64 f,.bool none] w fun r w'=>r=.returned (.tuple #[.bool false,.bool (e == f)])/\w'=w:=by
 have lH:=ji;go_enter func53,ntmps53;go_wp2_with (go_at_call 22;refine Calls.mono (lH _ _) ?_;rintro _ _ ⟨rfl,rfl⟩);go_ret2;exact⟨rfl,rfl⟩
def iQ (w:World)(a:Option Addr)(m:Nat)(xs:List ByteArray):Prop:=xs.length=m/\(0<m->∃b off,a=some ⟨b,off,none⟩/\b<w.heap.size/\∀j (hj:j<xs.length),w.cell? ⟨b,off+j,none⟩=some (.string xs[j]))
theorem fH {w:World}{b:Nat}{a:Option Addr}{m c:Nat}{xs:List ByteArray}(h:w.ownsRow b 9 1 (.slice a m c) m (gM xs)):iQ w a m xs:=by
 have hl:xs.length=m:=by have:=h.1;simp only[gM,List.length_map] at this;omega
 refine⟨hl,fun hp=>?_⟩;obtain⟨g,_,fo,_⟩:=row_one (cL h (dG _)) (i:=0) (v:=.string xs[0]) (by simp[gM])
 subst_vars
 refine⟨g,0,rfl,fo,fun j hj=>?_⟩;obtain⟨g',e,_,hc,_⟩:=row_one (cL h (dG _)) (i:=j) (v:=.string xs[j]) (by simp[gM,hj]);cases e;rw[Nat.zero_add];exact hc
theorem iQ.below {w w':World}{a:Option Addr}{m:Nat}{xs:List ByteArray}(h:iQ w a m xs)(hb:Below w.heap.size w w'):iQ w' a m xs:=
 ⟨h.1,fun hp=>by
  obtain⟨b,off,ha,hbl,hc⟩:=h.2 hp
  exact⟨b,off,ha,cv hbl hb.size,fun j hj=>(hb.cell (p:=⟨b,off+j,none⟩) hbl).trans (hc j hj)⟩⟩
theorem iQ.take {w:World}{a:Option Addr}{m:Nat}{xs:List ByteArray}(h:iQ w a m xs)(k:Nat)(hk:k<=m):iQ w a k (xs.take k):=by
 refine⟨by rw[List.length_take,h.1];omega,fun hp=>?_⟩;obtain⟨b,off,ha,hbl,hc⟩:=h.2 (by omega);refine⟨b,off,ha,hbl,fun j hj=>?_⟩;rw[List.getElem_take];exact hc j (by rw[List.length_take] at hj;omega)
def kZ (xs:List ByteArray):Nat->ByteArray
 | 0=>⟨#[]⟩
 | k+1=>(if 0<k then kZ xs k++⟨#[47]⟩ else kZ xs k)++xs.getD k ⟨#[]⟩
def aj (xs:List ByteArray):ByteArray:=kZ xs xs.length
theorem tu (xs:List ByteArray)(h:∀x ∈ xs,x.size<=12):∀k,(kZ xs k).size<=13*k
 | 0=>bA _
 | k+1=>by
  have ih:=tu xs h k
  have hg:(xs.getD k ⟨#[]⟩).size<=12:=by
   rw[List.getD_eq_getElem?_getD];cases hx:xs[k]? with
   | none=>exact dG _
   | some x=>exact h x (List.mem_of_getElem? hx)
  simp only[kZ];split
  ·rw[ByteArray.size_append,ByteArray.size_append]
   have:(⟨#[47]⟩:ByteArray).size=1:=rfl
   omega
  ·rw[ByteArray.size_append]
   omega
theorem BL (a:Option Addr)(m c:Nat)(xs:List ByteArray)(w:World)(hl:iQ w a m xs)(hx:∀x ∈ xs,x.size<=12)(hm:m<=2097153):
  Calls prog 202 #[.slice a m c] w fun e w'=>e=.returned (.string (aj xs))/\w'=w:=by
 have HL:Hid (iQ w a m xs):=hl;have HX:Hid (∀k,(kZ xs k).size<=13*k):=tu xs hx;have HX2:Hid (∀x ∈ xs,x.size<=12):=hx;clear hl hx;go_enter func202,ntmps202;go_wp2
 go_loopw [3,4] (fun t i wr=>∃(k:Nat) (s:ByteArray),k<=m/\i=.int .i64 (k:Int)/\t=.string s/\s.size<=13*k/\wr=w/\Hid (s=kZ xs k)) (fun _ i _=>m-(intOf i).toNat)
 case atStart=>exact⟨0,⟨#[]⟩,dG _,rfl,rfl,bA _,rfl,rfl⟩
 case round=>
  obtain⟨k,s,hk,rfl,rfl,hsz,rfl,HS⟩:=hrel;by_cases hlt:k<m
  ·have Vs:k<xs.length:=by rw[HL.out.1];exact hlt
   obtain⟨b,off,ha,hbl,hc⟩:=HL.out.2 (by omega);have c0:=hc k Vs;subst ha;have ag0:=HX2.out _ (jk Vs);obtain⟨x,Fx⟩:∃x,x=xs[k]:=⟨_,rfl⟩;rw[<-Fx] at c0 ag0;have S7:Hid (x=xs[k]):=Fx;have uP:(k:Int)<(m:Int):=by omega
   clear hc Fx;have HG:Hid (xs.getD k ⟨#[]⟩=x):=by show _=_;rw[S7.out,List.getD_eq_getElem?_getD,kO Vs];rfl
   by_cases h0:0<k
   ·have h0':0<(k:Int):=by omega
    have HJ:Hid (s++⟨#[47]⟩++x=kZ xs (k+1)):=by show _=_;rw[HS.out];simp only[kZ];rw[aL h0,HG.out]
    go_wp2;refine⟨⟨k+1,_,by omega,by go_num,rfl,?_,by trivial,HJ.out⟩,by simp[intOf];omega⟩;rw[HJ.out];exact HX.out _
   ·have h0':decide (0<(k:Int))=false:=dY (by omega)
    have HJ:Hid (s++x=kZ xs (k+1)):=by show _=_;rw[HS.out];simp only[kZ];rw[ay h0,HG.out]
    go_wp2;refine⟨⟨k+1,_,by omega,by go_num,rfl,?_,by trivial,HJ.out⟩,by simp[intOf];omega⟩;rw[HJ.out];exact HX.out _
  ·have DR:decide ((k:Int)<(m:Int))=false:=dY (by omega)
   have HJ:Hid (s=aj xs):=by show _=_;rw[HS.out];unfold aj;rw[HL.out.1];congr 1;omega
   go_wp2;go_ret;exact⟨by rw[<-HJ.out];rfl,rfl⟩
structure dF (F:Nat->Prop)(w:World)(S:Nat)(na da:Option Addr)(nc dc:Nat)(nodes:List aK)(data:List ByteArray)(rest:List Value):Prop where
 fS:F S
 hS:w.heap[S]? = some (.cells (Value.slice na nodes.length nc :: Value.slice da data.length dc :: rest).toArray 179 (0,0))
 jW:w.ownsRow 0 200 3 (.slice na nodes.length nc) nodes.length (flat nodes)
 ny:w.ownsRow 0 9 1 (.slice da data.length dc) data.length (gM data)
 fn:∀g,(Value.slice na nodes.length nc).ownBlock=some g->F g
 fd:∀g,(Value.slice da data.length dc).ownBlock=some g->F g
section
variable {F:Nat->Prop}{w:World}{S:Nat}{na da:Option Addr}{nc dc:Nat}{nodes:List aK}{data:List ByteArray}{rest:List Value}
theorem dF.lt (h:dF F w S na da nc dc nodes data rest):S<w.heap.size:=(Array.getElem?_eq_some_iff.1 h.hS).1
theorem dF.c0 (h:dF F w S na da nc dc nodes data rest):w.cell? ⟨S,0,none⟩=some (.slice na nodes.length nc):=by simp[World.cell?,h.hS]
theorem dF.c1 (h:dF F w S na da nc dc nodes data rest):w.cell? ⟨S,1,none⟩=some (.slice da data.length dc):=by simp[World.cell?,h.hS]
theorem dF.keep {F':Nat->Prop}{w':World}(h:dF F w S na da nc dc nodes data rest)(hF:∀k,F k->F' k)(hk:∀k,F k->w'.heap[k]? = w.heap[k]?):dF F' w' S na da nc dc nodes data rest:=
 ⟨hF _ h.fS,(hk S h.fS).trans h.hS,ai h.jW (fun g hg=>hk g (h.fn g hg)),ai h.ny (fun g hg=>hk g (h.fd g hg)),fun g hg=>hF g (h.fn g hg),fun g hg=>hF g (h.fd g hg)⟩
theorem dF.below {w':World}(h:dF F w S na da nc dc nodes data rest)(hb:Below w.heap.size w w'):dF F w' S na da nc dc nodes data rest:=
 ⟨h.fS,(hb.block S h.lt).trans h.hS,ai h.jW (fun g hg=>hb.block g (ah h.jW hg)),ai h.ny (fun g hg=>hb.block g (ah h.ny hg)),h.fn,h.fd⟩
def oV (nodes:List aK)(p:ByteArray):Option Nat:=nodes.findIdx? (fun e=>decide (e.1.toList=p.toList))
def bU (nodes:List aK)(p:ByteArray):Int:=if p.toList = [] then 2 else match oV nodes p with | some i=>((nodes[i]?).map (·.2.1)).getD 0 | none=>0
theorem D5 (a:Option Addr)(m c:Nat)(nodes:List aK)(p:ByteArray)(w:World)(hl:eW w a m nodes)(hm:m<=1000000000):
  Calls prog 106 #[.slice a m c,.string p] w fun e w'=>e=.returned (.int .i64 (Fc (oV nodes p)))/\w'=w:=by
 have HL:Hid (eW w a m nodes):=hl;clear hl;go_enter func106,ntmps106;go_wp2
 go_loopw [5] (fun i wr=>∃k:Nat,k<=m/\i=.int .i64 k/\wr=w/\Hid (∀j (hj:j<nodes.length),j<k->decide (nodes[j].1.toList=p.toList)=false)) (fun i _=>m-(intOf i).toNat)
 case atStart=>exact⟨0,dG _,rfl,rfl,fun j hj h=>by omega⟩
 case round=>
  obtain⟨k,hk,rfl,rfl,HV⟩:=hrel;by_cases oG:k<m
  ·have gP:k<nodes.length:=by rw[HL.out.1];exact oG
   obtain⟨b,off,ha,hbl,hc⟩:=HL.out.2 (by omega);obtain⟨c0,_,_⟩:=bg hc gP;subst ha;have uP:(k:Int)<(m:Int):=by omega
   clear hc;by_cases he:nodes[k].1.toList=p.toList
   ·have HE:Hid (nodes[k].1.toList=p.toList):=he
    have CS:(nodes[k].1.toList == p.toList)=true:=by rw[he];exact beq_self_eq_true _
    clear he;go_wp2;go_ret;refine⟨?_,rfl⟩;have e:oV nodes p=some k:=List.findIdx?_eq_some_iff_getElem.2 ⟨gP,decide_eq_true HE.out,fun j hj=>by have:=HV.out j (by omega) hj;simp[this]⟩;rw[e];rfl
   ·have HE:Hid (decide (nodes[k].1.toList=p.toList)=false):=dY he
    have CS:(nodes[k].1.toList == p.toList)=false:=beq_eq_false_iff_ne.2 he;clear he;go_wp2;go_roundw
    case rel=>
     refine⟨k+1,by omega,by go_num,by trivial,fun j hj hjk=>?_⟩;by_cases e:j=k
     ·subst e;exact HE.out
     ·exact HV.out j hj (by omega)
    case measure=>simp[intOf];omega
  ·go_wp2
   go_ret;refine⟨?_,rfl⟩;have e:oV nodes p=none:=List.findIdx?_eq_none_iff.2 fun x hx=>by
    obtain⟨j,hj,rfl⟩:=List.getElem_of_mem hx;exact HV.out j hj (by have:=HL.out.1;omega)
   rw[e];rfl
theorem oq (h:dF F w S na da nc dc nodes data rest)(p:ByteArray)(jl:nodes.length<=1000000000):
  Calls prog 155 #[.pointer (some ⟨S,0,none⟩),.string p] w fun e w'=>e=.returned (.int .i64 (bU nodes p))/\w'=w:=by
 have k0:=h.c0;have hlt:=h.lt;have hf:=D5 na nodes.length nc nodes p w (fh h.jW) jl;have HR:Hid (w.ownsRow 0 200 3 (.slice na nodes.length nc) nodes.length (flat nodes)):=h.jW;have HF:Hid _:=hf;obtain⟨n,hn⟩:∃n,n=nodes.length:=⟨_,rfl⟩;have S8:Hid (n=nodes.length):=hn;rw[<-hn] at k0 HF jl;clear h hf;by_cases hp:p.toList = []
 ·have HE:Hid (bU nodes p=2):=by show _=_;unfold bU;rw[aL hp]
  have Vj:(p.toList == [])=true:=by rw[hp];rfl
  clear hp;rw[HE.out];clear hn;go_enter func155,ntmps155;go_wp2;go_ret;exact⟨rfl,rfl⟩
 ·have Vj:(p.toList == [])=false:=beq_eq_false_iff_ne.2 hp
  cases IB:oV nodes p with
  | none=>
   have HE:Hid (bU nodes p=0):=by show _=_;unfold bU;rw[ay hp,IB]
   rw[IB] at HF;have HF':Hid (Calls prog 106 #[.slice na n nc,.string p] w fun e w'=>e=.returned (.int .i64 (-1))/\w'=w):=HF.out;rw[HE.out];clear hn IB HF hp;go_enter func155,ntmps155;go_wp2_with (go_at_call 106;refine Calls.mono HF'.out ?_;rintro _ _ ⟨rfl,rfl⟩);go_ret;exact⟨rfl,rfl⟩
  | some i=>
   have hi:i<nodes.length:=(List.findIdx?_eq_some_iff_getElem.1 IB).1;have HE:Hid (bU nodes p=nodes[i].2.1):=by show _=_;unfold bU;rw[ay hp,IB];simp[hi]
   rw[IB] at HF;have HF':Hid (Calls prog 106 #[.slice na n nc,.string p] w fun e w'=>e=.returned (.int .i64 (i:Int))/\w'=w):=HF.out;rw[HE.out];obtain⟨g,c',hv⟩:=ak HR.out (by omega);have ha:=(Value.slice.inj hv).1;subst ha;obtain⟨_,c1,_⟩:=bg (off:=0) (aQ HR.out) hi;rw[Nat.zero_add] at c1;have fo:=ah HR.out rfl;have lV:(i:Int)<(n:Int):=by omega
   have hi0:decide ((i:Int)<0)=false:=dY (by omega);clear hn IB HF hv hp;go_enter func155,ntmps155;go_wp2_with (go_at_call 106;refine Calls.mono HF'.out ?_;rintro _ _ ⟨rfl,rfl⟩);go_ret;exact⟨rfl,rfl⟩
end
end Go.Proofs.YtlgidcmmgohagaaGreat
