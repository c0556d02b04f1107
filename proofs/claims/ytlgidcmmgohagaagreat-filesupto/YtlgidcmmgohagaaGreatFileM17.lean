/- What is proved here: 'keepNames'. -/
import Derived.Test.YtlgidcmmgohagaaGreatFileM16
import Derived.Test.YtlgidcmmgohagaaGreatFileM06
import Derived.Lib.SliceRun
import Derived.Test.YtlgidcmmgohagaaGreatFileM01
namespace Go.Proofs.YtlgidcmmgohagaaGreat
open Go.RowKit Go.Sort Go.Shelf
set_option linter.unusedVariables false
set_option maxRecDepth 100000
set_option maxHeartbeats 16000000
theorem keepNames_two (W q:Nat)(cs:Array Value)(ea:Option Addr)(ec m c:Nat)(la:Option Addr)(hs:List HeldL)(xs:List Value)(w:World)(hW:w.heap[W]? = some (.cells cs 71 (0,0)))(h11:cs[8]? = some (.slice ea (4*q) ec))(hn:hs.length=4*q)(hlen:4*q<=1000000000)
  (row:w.ownsRow 0 131 1 (.slice ea (4*q) ec) (4*q) (hs.map encH))(hm:m<=1000000000)(hl:w.ownsRow 0 9 1 (.slice la m c) m xs):
  Calls Tryz.prog 93 #[.pointer (some ⟨W,8,none⟩),.slice la m c] w fun e w'=>e=.returned (.tuple #[])/\Kept2 9 131 (.string (markS q)) 8 w w' W q cs ea ec la m c hs:=by
 obtain⟨i0,hi,hz0,hz1,hz2⟩:=info_parts infoStrR;obtain⟨iS,hS,hS0,hS1,hS2⟩:=info_parts infoStrs;have hWl:W<w.heap.size:=(Array.getElem?_eq_some_iff.1 hW).1;have e11:w.cell? ⟨W,8,none⟩=some (.slice ea (4*q) ec):=by simp[World.cell?,hW,h11]
 have HC:Hid (w.ownsRow 0 9 1 (.slice la m c) m xs):=hl;have HR:Hid (w.ownsRow 0 131 1 (.slice ea (4*q) ec) (4*q) (hs.map encH)):=row;have HOL:Hid (∀g,(Value.slice la m c).ownBlock=some g->g<w.heap.size/\g≠W):=fun g hg=>⟨ownsRow_lt hl hg,fun e=>by subst e;exact owns_ne_cells hl hW (by decide) hg.symm⟩;have h11l:8<cs.size:=(Array.getElem?_eq_some_iff.1 h11).1;have h11s:∀v:Value,(cs.setIfInBounds 8 v)[8]? = some v:=fun v=>by simp[h11l]
 have hq4:((4*q:Nat):Int) / 4=(q:Int):=by omega
 have hq4':(4*(q:Int)) / 4=(q:Int):=by omega
 have HLA:Hid (∀g,la=some ⟨g,0,none⟩->g<w.heap.size):=fun g hg=>by subst hg;exact ownsRow_lt hl rfl
 obtain⟨M,hM⟩:∃M,M=markS q:=⟨_,rfl⟩;have HMK:Hid (Calls Tryz.prog 58 #[.int .i64 (q:Int)] w fun e w'=>e=.returned (.string M)/\Below w.heap.size w w'):=by rw[hM];exact mark_any q w (by omega)
 rw[<-hM];clear hM;clear hl row;go_enter Tryz.func93,Tryz.ntmps93;go_wp2_with fail;refine Calls.mono HMK.out ?_;rintro _ w0 ⟨rfl,hb00⟩;have HB0:Hid (Below w.heap.size w w0):=hb00;have hs0:w.heap.size<=w0.heap.size:=hb00.size;have HFI:Hid (∃rest:List Value,rest.length=m-0/\w0.ownsRow 0 9 1 (.slice la m c) m (List.replicate 0 (Value.string M)++rest)):=⟨xs,by have:=HC.out.1;omega,by simpa using ownsRow_keep HC.out (fun x hx=>HB0.out.block x (ownsRow_lt HC.out hx))⟩;have HK0:Hid (Keeps (fun x=>some x=(Value.slice la m c).ownBlock) w w0):=Keeps.of_below hb00;clear hb00 e11;go_wp2
 go_loopw [5] (fun i wr=>∃k:Nat,k<=m/\i=.int .i64 (k:Int)/\Hid (Keeps (fun x=>some x=(Value.slice la m c).ownBlock) w wr)/\Hid (∃rest:List Value,rest.length=m-k/\wr.ownsRow 0 9 1 (.slice la m c) m (List.replicate k (Value.string M)++rest))) (fun i _=>m-(intOf i).toNat)
 case atStart=>exact⟨0,zzF _,rfl,HK0.out,HFI.out⟩
 case round=>
  obtain⟨k,hk,rfl,HK,HF⟩:=hrel;have hsz:w.heap.size<=wr.heap.size:=HK.out.size;by_cases hlt:k<m
  ·obtain⟨rest,hrl,hown⟩:=HF.out
   obtain⟨g,cg,hvg⟩:=slice_of_owns hown (by omega);have hga:=(Value.slice.inj hvg).1;subst hga;have hfz:=fun j=>hown.frozenAt j;have hcs:∃v,wr.cell? ⟨g,k,none⟩=some v:=by
    rw[hown.cellAt k (by omega)];exact⟨_,zzH (by rw[List.length_append,List.length_replicate,hrl];omega)⟩
   obtain⟨v0,y0⟩:=hcs;have hkm:(k:Int)<(m:Int):=by omega
   have hgl:g<wr.heap.size:=ownsRow_lt hown rfl;have HO:Hid _:=hown;clear hown hvg;go_wp2;go_roundw
   case rel=>
    refine⟨k+1,by omega,by go_num,?_,?_⟩
    ·exact⟨HK.out.os,HK.out.tape,HK.out.output,by simpa using HK.out.size,fun x hx hne=>by
      have hxg:x≠g:=fun e=>hne (by rw[e];rfl);rw[Below.heap_setCell _ _ _ _ hxg];exact HK.out.block x hx hne⟩
    ·exact⟨rest.drop 1,by rw[List.length_drop,hrl];omega,put1 HO.out (by omega)⟩
   case measure=>simp[intOf];omega
  ·have hke:k=m:=by omega
   subst hke;have HFm:Hid (wr.ownsRow 0 9 1 (.slice la k c) k (List.replicate k (.string M))):=by
    obtain⟨rest,h2,h3⟩:=HF.out
    have:rest = []:=List.eq_nil_of_length_eq_zero (by rw[h2];omega)
    subst this;show World.ownsRow _ _ _ _ _ _ _;simpa using h3
   have hlm:((k:Int)<(k:Int))=False:=by simp
   clear HF;have hsz0:w.heap.size<=wr.heap.size:=hsz;go_wp2_with (at_builtin;refine wpList_append_V rfl (.tmp 26) (.tmp 28) 131 rfl 9 i0 _ 16 Tryz.underlying131 hi hz0 hz1 hz2 rfl (.string M) rfl la k c rfl (World.ownsRow.alloc HFm.out _) ⟨wr.heap.size,0,none⟩ 1 1 (by decide) rfl (lit_cells wr [.string M] 9) (by unfold maxLen;omega) (by omega) ?_);intro va0 wa hoa hla hRa;obtain⟨aa,ca,rfl,hNa⟩:=near_of_room hRa (base:=w.heap.size) (by simp;omega);have sa:=room_size hRa;have HKa:Hid (Keeps (fun x=>some x=(Value.slice la k c).ownBlock) w wa):=room_keeps HK.out hRa;have HLa:Hid (wa.ownsRow 0 9 1 (.slice la k c) k (List.replicate k (.string M))):=hla;have HSa:Hid (SeesV 9 (.string M) wa (aa,k+1,ca)):=hoa;have HNa:Hid (NearL la c w.heap.size (aa,k+1,ca)):=hNa;clear hoa hla hRa hNa;go_wp2_with (at_builtin;refine wpList_append_V rfl (.tmp 30) (.tmp 33) 131 rfl 9 i0 _ 16 Tryz.underlying131 hi hz0 hz1 hz2 rfl (.string M) rfl la k c rfl (World.ownsRow.alloc HLa.out _) ⟨wa.heap.size,0,none⟩ 2 2 (by decide) rfl (lit_cells wa [.string M,.string M] 9) (by unfold maxLen;omega) (by omega) ?_);intro vb0 wb hob hlb hRb;obtain⟨ab,cb,rfl,hNb⟩:=near_of_room hRb (base:=w.heap.size) (by simp;omega);have sb:=room_size hRb;have HKb:Hid (Keeps (fun x=>some x=(Value.slice la k c).ownBlock) w wb):=room_keeps HKa.out hRb;have HLb:Hid (wb.ownsRow 0 9 1 (.slice la k c) k (List.replicate k (.string M))):=hlb;have HSab:Hid (SeesV 9 (.string M) wb (aa,k+1,ca)):=sees_step (World.ownsRow.alloc HSa.out _) HNa.out HLA.out hRb hob (by show k+1<=_;omega);have HSb:Hid (SeesV 9 (.string M) wb (ab,k+2,cb)):=hob;have HNb:Hid (NearL la c w.heap.size (ab,k+2,cb)):=hNb;clear hob hlb hRb hNb;go_wp2_with (at_builtin;refine wpList_append_V rfl (.tmp 35) (.tmp 39) 131 rfl 9 i0 _ 16 Tryz.underlying131 hi hz0 hz1 hz2 rfl (.string M) rfl la k c rfl (World.ownsRow.alloc HLb.out _) ⟨wb.heap.size,0,none⟩ 3 3 (by decide) rfl (lit_cells wb [.string M,.string M,.string M] 9) (by unfold maxLen;omega) (by omega) ?_);intro vc0 wc hoc hlc hRc;obtain⟨ac,cc,rfl,hNc⟩:=near_of_room hRc (base:=w.heap.size) (by simp;omega);have sc:=room_size hRc;have HKc:Hid (Keeps (fun x=>some x=(Value.slice la k c).ownBlock) w wc):=room_keeps HKb.out hRc;have HLc:Hid (wc.ownsRow 0 9 1 (.slice la k c) k (List.replicate k (.string M))):=hlc;have HSac:Hid (SeesV 9 (.string M) wc (aa,k+1,ca)):=sees_step (World.ownsRow.alloc HSab.out _) HNa.out HLA.out hRc hoc (by show k+1<=_;omega);have HSbc:Hid (SeesV 9 (.string M) wc (ab,k+2,cb)):=sees_step (World.ownsRow.alloc HSb.out _) HNb.out HLA.out hRc hoc (by show k+2<=_;omega);have HSc:Hid (SeesV 9 (.string M) wc (ac,k+3,cc)):=hoc;have HNc:Hid (NearL la c w.heap.size (ac,k+3,cc)):=hNc;clear hoc hlc hRc hNc;have hWc:wc.heap[W]? = some (.cells cs 71 (0,0)):=by
    rw[HKc.out.block W (by omega) (fun e=>(HOL.out W e.symm).2 rfl)];exact hW
   have HRc:Hid (wc.ownsRow 0 131 1 (.slice ea (4*q) ec) (4*q) (hs.map encH)):=ownsRow_keep HR.out (fun g hg=>by
    have hl:=ownsRow_lt HR.out hg;exact HKc.out.block g (by omega) (fun e=>rows_apart HR.out HC.out (by decide) hg e))
   have hWcl:W<wc.heap.size:=by omega
   have p8:wc.cell? ⟨W,8,none⟩=some (.slice ea (4*q) ec):=by simp[World.cell?,hWc,h11]
   have f8:wc.frozen? ⟨W,8,none⟩=false:=by simp[World.frozen?,hWc]
   go_wp2_with (at_builtin;refine wpList_append_at rfl (.tmp 45) (.tmp 47) 64 rfl 0 131 iS _ 1 24 Tryz.underlying64 hS hS0 hS1 hS2 rfl (by decide) (.slice ea (4*q) ec) (4*q) (hs.map encH) rfl (World.ownsRow.alloc HRc.out _) ⟨wc.heap.size,0,none⟩ 1 1 [.slice la k c] rfl rfl (one_cell _ _ _ _ rfl) one_slice (by unfold maxLen;omega) (by omega) (zzF _) ?_);intro v1 w1 ho1 hg1 hloc1;obtain⟨g1,c1,rfl⟩:=slice_of_owns ho1 (by omega);have P1:=push_after (i:=8) hWc HRc.out (by decide) (kb_alloc0 _ _) (by simp) ⟨rfl,rfl,rfl⟩ ho1 hg1 hloc1 (by omega);have hW1:=grown_W hWc (kb_alloc0 _ _) (by simp) hg1 (owns_ne_cells HRc.out hWc (by decide));have s1:wc.heap.size<=w1.heap.size:=by have:=hg1.size;simp at this;omega
   have p81:w1.cell? ⟨W,8,none⟩=some (.slice ea (4*q) ec):=by simp[World.cell?,hW1,h11]
   have f81:w1.frozen? ⟨W,8,none⟩=false:=by simp[World.frozen?,hW1]
   have H1:Hid _:=P1;have hWl1:W<w1.heap.size:=by omega
   clear ho1 hg1 hloc1 P1 hW1 p8 f8;go_wp2_with (at_builtin;refine wpList_append_at rfl (.tmp 55) (.tmp 57) 64 rfl 0 131 iS _ 1 24 Tryz.underlying64 hS hS0 hS1 hS2 rfl (by decide) (.slice (some ⟨g1,0,none⟩) (4*q+1) c1) (4*q+1) (hs.map encH ++ [.slice la k c]) rfl (World.ownsRow.alloc H1.out.2.1 _) ⟨w1.heap.size,0,none⟩ 1 1 [.slice aa (k+1) ca] rfl rfl (one_cell _ _ _ _ (by simp)) one_slice (by unfold maxLen;omega) (by omega) (zzF _) ?_);intro v2 w2 ho2 hg2 hloc2;obtain⟨g2,c2,rfl⟩:=slice_of_owns ho2 (by omega);have ho2':w2.ownsRow 0 131 1 (.slice (some ⟨g2,0,none⟩) (4*q+1+1) c2) (4*q+1+1) (hs.map encH ++ [.slice la k c] ++ [.slice aa (k+1) ca]):=by simpa using ho2
   have P2:=push_after (i:=8) H1.out.1 H1.out.2.1 (by decide) (kb_alloc0 _ _) (by simp) ⟨rfl,rfl,rfl⟩ ho2' hg2 hloc2 (by simp);have hW2:=grown_W H1.out.1 (kb_alloc0 _ _) (by simp) hg2 (owns_ne_cells H1.out.2.1 H1.out.1 (by decide));have s2:w1.heap.size<=w2.heap.size:=by have:=hg2.size;simp at this;omega
   have p82:w2.cell? ⟨W,8,none⟩=some (.slice (some ⟨g1,0,none⟩) (4*q+1) c1):=by simp[World.cell?,hW2,h11s]
   have f82:w2.frozen? ⟨W,8,none⟩=false:=by simp[World.frozen?,hW2]
   have H2:Hid _:=P2;have hWl2:W<w2.heap.size:=by omega
   clear ho2 ho2' hg2 hloc2 P2 hW2 p81 f81;go_wp2_with (at_builtin;refine wpList_append_at rfl (.tmp 65) (.tmp 67) 64 rfl 0 131 iS _ 1 24 Tryz.underlying64 hS hS0 hS1 hS2 rfl (by decide) (.slice (some ⟨g2,0,none⟩) (4*q+1+1) c2) (4*q+1+1) (hs.map encH ++ [.slice la k c] ++ [.slice aa (k+1) ca]) rfl (World.ownsRow.alloc H2.out.2.1 _) ⟨w2.heap.size,0,none⟩ 1 1 [.slice ab (k+2) cb] rfl rfl (one_cell _ _ _ _ (by simp)) one_slice (by unfold maxLen;omega) (by omega) (zzF _) ?_);intro v3 w3 ho3 hg3 hloc3;obtain⟨g3,c3,rfl⟩:=slice_of_owns ho3 (by omega);have ho3':w3.ownsRow 0 131 1 (.slice (some ⟨g3,0,none⟩) (4*q+1+1+1) c3) (4*q+1+1+1) (hs.map encH ++ [.slice la k c] ++ [.slice aa (k+1) ca] ++ [.slice ab (k+2) cb]):=by simpa using ho3
   have P3:=push_after (i:=8) H2.out.1 H2.out.2.1 (by decide) (kb_alloc0 _ _) (by simp) ⟨rfl,rfl,rfl⟩ ho3' hg3 hloc3 (by simp);have hW3:=grown_W H2.out.1 (kb_alloc0 _ _) (by simp) hg3 (owns_ne_cells H2.out.2.1 H2.out.1 (by decide));have s3:w2.heap.size<=w3.heap.size:=by have:=hg3.size;simp at this;omega
   have p83:w3.cell? ⟨W,8,none⟩=some (.slice (some ⟨g2,0,none⟩) (4*q+1+1) c2):=by simp[World.cell?,hW3,h11l]
   have f83:w3.frozen? ⟨W,8,none⟩=false:=by simp[World.frozen?,hW3]
   have H3:Hid _:=P3;have hWl3:W<w3.heap.size:=by omega
   clear ho3 ho3' hg3 hloc3 P3 hW3 p82 f82;go_wp2_with (at_builtin;refine wpList_append_at rfl (.tmp 75) (.tmp 77) 64 rfl 0 131 iS _ 1 24 Tryz.underlying64 hS hS0 hS1 hS2 rfl (by decide) (.slice (some ⟨g3,0,none⟩) (4*q+1+1+1) c3) (4*q+1+1+1) (hs.map encH ++ [.slice la k c] ++ [.slice aa (k+1) ca] ++ [.slice ab (k+2) cb]) rfl (World.ownsRow.alloc H3.out.2.1 _) ⟨w3.heap.size,0,none⟩ 1 1 [.slice ac (k+3) cc] rfl rfl (one_cell _ _ _ _ (by simp)) one_slice (by unfold maxLen;omega) (by omega) (zzF _) ?_);intro v4 w4 ho4 hg4 hloc4;obtain⟨g4,c4,rfl⟩:=slice_of_owns ho4 (by omega);have ho4':w4.ownsRow 0 131 1 (.slice (some ⟨g4,0,none⟩) (4*q+1+1+1+1) c4) (4*q+1+1+1+1) (hs.map encH ++ [.slice la k c] ++ [.slice aa (k+1) ca] ++ [.slice ab (k+2) cb] ++ [.slice ac (k+3) cc]):=by simpa using ho4
   have P4:=push_after (i:=8) H3.out.1 H3.out.2.1 (by decide) (kb_alloc0 _ _) (by simp) ⟨rfl,rfl,rfl⟩ ho4' hg4 hloc4 (by simp);have hW4:=grown_W H3.out.1 (kb_alloc0 _ _) (by simp) hg4 (owns_ne_cells H3.out.2.1 H3.out.1 (by decide));have p84:w4.cell? ⟨W,8,none⟩=some (.slice (some ⟨g3,0,none⟩) (4*q+1+1+1) c3):=by simp[World.cell?,hW4,h11l]
   have f84:w4.frozen? ⟨W,8,none⟩=false:=by simp[World.frozen?,hW4]
   have H4:Hid _:=P4;clear ho4 ho4' hg4 hloc4 P4 hW4 p83 f83;have HKC:Hid (Keeps (fun x=>x=W\/some x=(Value.slice ea (4*q) ec).ownBlock\/some x=(Value.slice la k c).ownBlock) w wc):=
    ⟨HKc.out.os,HKc.out.tape,HKc.out.output,HKc.out.size,fun x hx hne=>HKc.out.block x hx (fun e=>hne (.inr (.inr e)))⟩
   have T1:=stage1_next (t:=9) (by decide) (by decide) (by decide) hWc HRc.out (fun x hx=>.inl hx.symm) HKC.out H1.out;have T2:=stage1_next (t:=9) (by decide) (by decide) (by decide) H1.out.1 H1.out.2.1 T1.1 T1.2.1 H2.out;have T3:=stage1_next (t:=9) (by decide) (by decide) (by decide) H2.out.1 H2.out.2.1 T2.1 T2.2.1 H3.out;have T4:=stage1_next (t:=9) (by decide) (by decide) (by decide) H3.out.1 H3.out.2.1 T3.1 T3.2.1 H4.out;have HALL:Hid (Kept2 9 131 (.string M) 8 w (w4.setCell ⟨W,8,none⟩ (.slice (some ⟨g4,0,none⟩) (4*q+1+1+1+1) c4)) W q cs ea ec la k c hs):=by
    have all:∀{b:Nat} {v:Value} {l:Nat} {ys:List Value},wc.ownsRow b 9 1 v l ys->(w4.setCell ⟨W,8,none⟩ (.slice (some ⟨g4,0,none⟩) (4*q+1+1+1+1) c4)).ownsRow b 9 1 v l ys:=fun h=>T4.2.2 (T3.2.2 (T2.2.2 (T1.2.2 h)));refine⟨g4,c4,(aa,k+1,ca),(ab,k+2,cb),(ac,k+3,cc),?_,?_,rfl,rfl,rfl,?_,T4.1 g4 rfl,T4.2.1⟩
    ·have:=H4.out.1
     simpa using this
    ·have:=H4.out.2.1
     simpa [encH] using this
    ·intro h hh
     simp only[List.mem_cons,List.not_mem_nil,or_false] at hh;rcases hh with rfl | rfl | rfl | rfl
     ·exact⟨all HLc.out,.inl ⟨rfl,rfl⟩⟩
     ·exact⟨all HSac.out,HNa.out⟩
     ·exact⟨all HSbc.out,HNb.out⟩
     ·exact⟨all HSc.out,HNc.out⟩
   clear T1 T2 T3 T4;go_wp2;go_end0;exact⟨rfl,HALL.out⟩
def pathA (l:List ByteArray):Array Value:=#[.string (l.getD 0 ⟨#[]⟩),.string (l.getD 1 ⟨#[]⟩),.string (l.getD 2 ⟨#[]⟩),.string (l.getD 3 ⟨#[]⟩),.string (l.getD 4 ⟨#[]⟩)]
def pathV (l:List ByteArray):Value:=.agg (pathA l)
structure Good (l:List ByteArray):Prop where
 val:Valids l
 len:l.length<=5
theorem Good.nil:Good []:=⟨fun x hx=>by simp at hx,by simp⟩
theorem Good.take {l:List ByteArray}(h:Good l)(k:Nat):Good (l.take k):=⟨fun x hx=>h.val x (List.mem_of_mem_take hx),by have:=h.len;rw[List.length_take];omega⟩
theorem Good.dropLast {l:List ByteArray}(h:Good l):Good l.dropLast:=by rw[List.dropLast_eq_take];exact h.take _
theorem rowP:147<Tryz.prog.types.size:=of_decide_eq_true (by kernel_rfl)
theorem keyAtP:Tryz.prog.keyTypeAt 9 147=true:=by kernel_rfl
theorem lawP:Maps.Keyed Tryz.prog 147:=Maps.Keyed.of_law (deep_law_laid laidOut (m:=9) (by omega) rowP keyAtP (by rw[Tryz.underlying147]))
theorem cellsP:Tryz.prog.cellsOf 147=5:=by kernel_rfl
theorem keyTP:Tryz.prog.keyType 147=true:=by kernel_rfl
theorem getD_size {l:List ByteArray}(h:Valids l)(i:Nat):(l.getD i ⟨#[]⟩).size<=maxLen:=by
 rw[List.getD_eq_getElem?_getD];by_cases hi:i<l.length
 ·rw[zzH hi]
  have:=(valid_size (h _ (zzJ hi))).2
  show (l[i]).size<=maxLen;unfold maxLen;omega
 ·rw[List.getElem?_eq_none (by omega)];decide
theorem litsP (d:Nat)(l:List ByteArray)(h:Valids l):∃ls,Tryz.prog.keyLits (d+2) 147 (pathA l).toList=some ls:=by
 have a:∀i,Tryz.prog.keyLits (d+1) 9 [.string (l.getD i ⟨#[]⟩)]=some [.string (l.getD i ⟨#[]⟩).data.toList]:=fun i=>by
  have:=getD_size h i
  generalize l.getD i ⟨#[]⟩=x at this;unfold Program.keyLits;simp[Tryz.underlying9,this]
 obtain⟨ys,hys⟩:=mapM_some (fun i=>Tryz.prog.keyLits (d+1) 9 (((pathA l).toList.drop (i*1)).take 1)) (List.range 5) (by
  intro i hi;rw[List.mem_range] at hi;have key:((pathA l).toList.drop (i*1)).take 1 = [.string (l.getD i ⟨#[]⟩)]:=by
   rcases (show i=0\/i=1\/i=2\/i=3\/i=4 by omega) with rfl | rfl | rfl | rfl | rfl <;> rfl
  rw[key];exact⟨_,a i⟩)
 refine⟨ys.flatten,?_⟩;have hl:(pathA l).toList.length=5:=rfl;unfold Program.keyLits;simp only[Tryz.underlying147,cellsP,hl,if_true,cells9,hys,Option.map_some]
def keyP (P:Program)(l:List ByteArray):Lit:=(keyOf P 147 (pathV l)).getD .nil
theorem keyOf_path {l:List ByteArray}(h:Valids l):keyOf Tryz.prog 147 (pathV l)=some (keyP Tryz.prog l):=by
 have hx:∃k,keyOf Tryz.prog 147 (pathV l)=some k:=by
  have hfo:Value.formed Tryz.prog 147 (.agg (pathA l))=true:=by
   unfold Value.formed;rw[Tryz.underlying147];simp[cellsP,pathA]
  obtain⟨n,hn⟩:∃n,Tryz.prog.types.size+1=n+2:=⟨Tryz.prog.types.size-1,by have:=rowP;omega⟩;obtain⟨ls,hls⟩:=litsP n l h;unfold keyOf pathV;rw[Tryz.underlying147];simp only[keyTP,hfo,Bool.and_self,if_true,Value.cells,hn,hls,Option.map_some];exact⟨_,rfl⟩
 obtain⟨k,hk⟩:=hx;unfold keyP;rw[hk];rfl
theorem valid_pos {x:ByteArray}(h:validB x=true):x≠⟨#[]⟩:=fun e=>by
 have:=(valid_size h).1
 rw[e] at this
 exact absurd this (by decide)
theorem pathA_inj {p q:List ByteArray}(hp:Good p)(hq:Good q)(h:pathA p=pathA q):p=q:=by
 have key:∀i,i<5->p.getD i ⟨#[]⟩=q.getD i ⟨#[]⟩:=by
  intro i hi;unfold pathA at h;simp only[Array.mk.injEq,List.cons.injEq,Value.string.injEq,and_true] at h;rcases (show i=0\/i=1\/i=2\/i=3\/i=4 by omega) with rfl | rfl | rfl | rfl | rfl
  ·exact h.1
  ·exact h.2.1
  ·exact h.2.2.1
  ·exact h.2.2.2.1
  ·exact h.2.2.2.2
 have h5:=hp.len;have k5:=hq.len;apply List.ext_getElem?;intro i;by_cases hi:i<5
 ·have k:=key i hi
  rw[List.getD_eq_getElem?_getD,List.getD_eq_getElem?_getD] at k;cases ha:p[i]? with
  | none=>
   cases hb:q[i]? with
   | none=>rfl
   | some y=>rw[ha,hb] at k;exact absurd k.symm (valid_pos (hq.val y (List.mem_of_getElem? hb)))
  | some x=>
   cases hb:q[i]? with
   | none=>rw[ha,hb] at k;exact absurd k (valid_pos (hp.val x (List.mem_of_getElem? ha)))
   | some y=>rw[ha,hb] at k;exact congrArg some k
 ·rw[List.getElem?_eq_none (by omega),List.getElem?_eq_none (by omega)]
theorem keyP_inj {p q:List ByteArray}(hp:Good p)(hq:Good q)(h:keyP Tryz.prog p=keyP Tryz.prog q):p=q:=by
 have a:=keyOf_path hp.val;have b:=keyOf_path hq.val;rw[<-h] at b
 have:=lawP.inj a b
 exact pathA_inj hp hq (Value.agg.inj this)
theorem keyP_is {p:List ByteArray}(hp:Good p):WideAt.IsKeyLit (keyP Tryz.prog p):=lawP.key (keyOf_path hp.val)
theorem run_eqP {p q:List ByteArray}(hp:Good p)(hq:Good q)(w:World):(Op.equal 147 (pathV p) (pathV q)).run Tryz.prog w=.ok (decide (p=q)) w:=by
 obtain⟨r,hr,hiff⟩:=run_equal_deep w (m:=9) (by omega) keyAtP (by rw[Tryz.underlying147]) (keyOf_path hp.val) (keyOf_path hq.val);rw[hr]
 have:r=decide (p=q):=by
  by_cases e:p=q
  ·subst e;rw[decide_eq_true rfl];exact hiff.2 rfl
  ·rw[zzE e]
   cases hr':r with
   | false=>rfl
   | true=>exact absurd (keyP_inj hp hq (hiff.1 hr')) e
 rw[this]
theorem valid_ne {x:ByteArray}(h:validB x=true):(x.toList == [])=false:=beq_eq_false_iff_ne.2 fun e=>by
 have h1:=(valid_size h).1
 rw[toL_eq] at e
 have h2:=congrArg List.length e
 rw[toL_len,List.length_nil] at h2
 omega
theorem root_any (w:World):Calls Tryz.prog 75 #[] w fun e w'=>e=.returned (pathV [])/\Below w.heap.size w w':=by
 go_enter Tryz.func75,Tryz.ntmps75;go_wp2;exact bodyPost_ret (v:=pathV []) (by simp[results,Tryz.results75,go_sem,pathV,pathA]) rfl ⟨rfl,by repeat (first | exact Below.refl _ _ | (refine Below.alloc ?_ (by simp) _) | (refine Below.setCell ?_ (by simp) _))⟩
theorem pix0 (c0 c1 c2 c3 c4:Value)(w:World):(Instr.index 147 (.agg #[c0,c1,c2,c3,c4]) (.int .i64 0)).run Tryz.prog w=.ok c0 w:=by kernel_rfl
theorem pix1 (c0 c1 c2 c3 c4:Value)(w:World):(Instr.index 147 (.agg #[c0,c1,c2,c3,c4]) (.int .i64 1)).run Tryz.prog w=.ok c1 w:=by kernel_rfl
theorem pix2 (c0 c1 c2 c3 c4:Value)(w:World):(Instr.index 147 (.agg #[c0,c1,c2,c3,c4]) (.int .i64 2)).run Tryz.prog w=.ok c2 w:=by kernel_rfl
theorem pix3 (c0 c1 c2 c3 c4:Value)(w:World):(Instr.index 147 (.agg #[c0,c1,c2,c3,c4]) (.int .i64 3)).run Tryz.prog w=.ok c3 w:=by kernel_rfl
theorem pix4 (c0 c1 c2 c3 c4:Value)(w:World):(Instr.index 147 (.agg #[c0,c1,c2,c3,c4]) (.int .i64 4)).run Tryz.prog w=.ok c4 w:=by kernel_rfl
theorem depth_0  (w:World):Calls Tryz.prog 142 #[.agg #[.string ⟨#[]⟩,.string ⟨#[]⟩,.string ⟨#[]⟩,.string ⟨#[]⟩,.string ⟨#[]⟩]] w fun e w'=>e=.returned (.int .i64 0)/\Below w.heap.size w w':=by
 have x0:=pix0;have x1:=pix1;have x2:=pix2;have x3:=pix3;have x4:=pix4;go_enter Tryz.func142,Tryz.ntmps142;go_wp2;refine wp_loop_rounds 7 ?_;rw[rounds_succ];go_wp2;go_ret;exact⟨rfl,(Below.refl _ _).alloc (zzC _) _⟩
theorem depth_1 (s0:ByteArray)(h0:validB s0=true)(w:World):Calls Tryz.prog 142 #[.agg #[.string s0,.string ⟨#[]⟩,.string ⟨#[]⟩,.string ⟨#[]⟩,.string ⟨#[]⟩]] w fun e w'=>e=.returned (.int .i64 1)/\Below w.heap.size w w':=by
 have e0:=valid_ne h0;have x0:=pix0;have x1:=pix1;have x2:=pix2;have x3:=pix3;have x4:=pix4;clear h0;go_enter Tryz.func142,Tryz.ntmps142;go_wp2;refine wp_loop_rounds 7 ?_;rw[rounds_succ];go_wp2;rw[rounds_succ];go_wp2;go_ret;exact⟨rfl,(Below.refl _ _).alloc (zzC _) _⟩
theorem depth_2 (s0 s1:ByteArray)(h0:validB s0=true)(h1:validB s1=true)(w:World):Calls Tryz.prog 142 #[.agg #[.string s0,.string s1,.string ⟨#[]⟩,.string ⟨#[]⟩,.string ⟨#[]⟩]] w fun e w'=>e=.returned (.int .i64 2)/\Below w.heap.size w w':=by
 have e0:=valid_ne h0;have e1:=valid_ne h1;have x0:=pix0;have x1:=pix1;have x2:=pix2;have x3:=pix3;have x4:=pix4;clear h0 h1;go_enter Tryz.func142,Tryz.ntmps142;go_wp2;refine wp_loop_rounds 7 ?_;rw[rounds_succ];go_wp2;rw[rounds_succ];go_wp2;rw[rounds_succ];go_wp2;go_ret;exact⟨rfl,(Below.refl _ _).alloc (zzC _) _⟩
theorem depth_3 (s0 s1 s2:ByteArray)(h0:validB s0=true)(h1:validB s1=true)(h2:validB s2=true)(w:World):Calls Tryz.prog 142 #[.agg #[.string s0,.string s1,.string s2,.string ⟨#[]⟩,.string ⟨#[]⟩]] w fun e w'=>e=.returned (.int .i64 3)/\Below w.heap.size w w':=by
 have e0:=valid_ne h0;have e1:=valid_ne h1;have e2:=valid_ne h2;have x0:=pix0;have x1:=pix1;have x2:=pix2;have x3:=pix3;have x4:=pix4;clear h0 h1 h2;go_enter Tryz.func142,Tryz.ntmps142;go_wp2;refine wp_loop_rounds 7 ?_;rw[rounds_succ];go_wp2;rw[rounds_succ];go_wp2;rw[rounds_succ];go_wp2;rw[rounds_succ];go_wp2;go_ret;exact⟨rfl,(Below.refl _ _).alloc (zzC _) _⟩
theorem depth_4 (s0 s1 s2 s3:ByteArray)(h0:validB s0=true)(h1:validB s1=true)(h2:validB s2=true)(h3:validB s3=true)(w:World):Calls Tryz.prog 142 #[.agg #[.string s0,.string s1,.string s2,.string s3,.string ⟨#[]⟩]] w fun e w'=>e=.returned (.int .i64 4)/\Below w.heap.size w w':=by
 have e0:=valid_ne h0;have e1:=valid_ne h1;have e2:=valid_ne h2;have e3:=valid_ne h3;have x0:=pix0;have x1:=pix1;have x2:=pix2;have x3:=pix3;have x4:=pix4;clear h0 h1 h2 h3;go_enter Tryz.func142,Tryz.ntmps142;go_wp2;refine wp_loop_rounds 7 ?_;rw[rounds_succ];go_wp2;rw[rounds_succ];go_wp2;rw[rounds_succ];go_wp2;rw[rounds_succ];go_wp2;rw[rounds_succ];go_wp2;go_ret;exact⟨rfl,(Below.refl _ _).alloc (zzC _) _⟩
theorem depth_5 (s0 s1 s2 s3 s4:ByteArray)(h0:validB s0=true)(h1:validB s1=true)(h2:validB s2=true)(h3:validB s3=true)(h4:validB s4=true)(w:World):Calls Tryz.prog 142 #[.agg #[.string s0,.string s1,.string s2,.string s3,.string s4]] w fun e w'=>e=.returned (.int .i64 5)/\Below w.heap.size w w':=by
 have e0:=valid_ne h0;have e1:=valid_ne h1;have e2:=valid_ne h2;have e3:=valid_ne h3;have e4:=valid_ne h4;have x0:=pix0;have x1:=pix1;have x2:=pix2;have x3:=pix3;have x4:=pix4;clear h0 h1 h2 h3 h4;go_enter Tryz.func142,Tryz.ntmps142;go_wp2;refine wp_loop_rounds 7 ?_;rw[rounds_succ];go_wp2;rw[rounds_succ];go_wp2;rw[rounds_succ];go_wp2;rw[rounds_succ];go_wp2;rw[rounds_succ];go_wp2;rw[rounds_succ];go_wp2;go_ret;exact⟨rfl,(Below.refl _ _).alloc (zzC _) _⟩
theorem depth_any (l:List ByteArray)(hv:Valids l)(h5:l.length<=5)(w:World):Calls Tryz.prog 142 #[pathV l] w fun e w'=>e=.returned (.int .i64 (l.length:Int))/\Below w.heap.size w w':=by
 match l,hv,h5 with
 | [],hv,_=>exact depth_0  w
 | [s0],hv,_=>exact depth_1 s0 (hv s0 (by simp)) w
 | [s0,s1],hv,_=>exact depth_2 s0 s1 (hv s0 (by simp)) (hv s1 (by simp)) w
 | [s0,s1,s2],hv,_=>exact depth_3 s0 s1 s2 (hv s0 (by simp)) (hv s1 (by simp)) (hv s2 (by simp)) w
 | [s0,s1,s2,s3],hv,_=>exact depth_4 s0 s1 s2 s3 (hv s0 (by simp)) (hv s1 (by simp)) (hv s2 (by simp)) (hv s3 (by simp)) w
 | [s0,s1,s2,s3,s4],hv,_=>exact depth_5 s0 s1 s2 s3 s4 (hv s0 (by simp)) (hv s1 (by simp)) (hv s2 (by simp)) (hv s3 (by simp)) (hv s4 (by simp)) w
 | _ :: _ :: _ :: _ :: _ :: _ :: _,_,h5=>exact absurd h5 (by simp)
theorem zeroStr (w:World):(zeroValue 9).run Tryz.prog w=.ok (.string ⟨#[]⟩) w:=by kernel_rfl
theorem head_neg (s0 s1 s2 s3 s4:ByteArray)(w:World):Calls Tryz.prog 188 #[.agg #[.string s0,.string s1,.string s2,.string s3,.string s4],.int .i64 (-1)] w fun e w'=>e=.returned (.agg #[.string ⟨#[]⟩,.string ⟨#[]⟩,.string ⟨#[]⟩,.string ⟨#[]⟩,.string ⟨#[]⟩])/\Below w.heap.size w w':=by
 have hcl:∀ty,(Builtin.clear_ #[131] ty #[.slice (some ⟨w.heap.size,0,none⟩) 5 5]).run Tryz.prog ((w.alloc (.cells #[.string s0,.string s1,.string s2,.string s3,.string s4] 147)).alloc (.cells #[.string ⟨#[]⟩,.string ⟨#[]⟩,.string ⟨#[]⟩,.string ⟨#[]⟩,.string ⟨#[]⟩] 147))=.ok (.tuple #[]) (((((((w.alloc (.cells #[.string s0,.string s1,.string s2,.string s3,.string s4] 147)).alloc (.cells #[.string ⟨#[]⟩,.string ⟨#[]⟩,.string ⟨#[]⟩,.string ⟨#[]⟩,.string ⟨#[]⟩] 147)).setCell ⟨w.heap.size,0,none⟩ (.string ⟨#[]⟩)).setCell ⟨w.heap.size,1,none⟩ (.string ⟨#[]⟩)).setCell ⟨w.heap.size,2,none⟩ (.string ⟨#[]⟩)).setCell ⟨w.heap.size,3,none⟩ (.string ⟨#[]⟩)).setCell ⟨w.heap.size,4,none⟩ (.string ⟨#[]⟩)):=
  fun ty=>Lib.run_clear_slice _ 131 9 ty (.string ⟨#[]⟩) Tryz.underlying131 zeroStr rfl rfl w.heap.size 0 5 5 (by omega)
   (fun j hj=>by rcases (show j=0\/j=1\/j=2\/j=3\/j=4 by omega) with rfl | rfl | rfl | rfl | rfl <;> first | omega | simp[World.cell?_alloc_past])
   (fun j hj=>by rcases (show j=0\/j=1\/j=2\/j=3\/j=4 by omega) with rfl | rfl | rfl | rfl | rfl <;> first | omega | simp[World.frozen?_alloc_past])
 have hmx:max (-1:Int) 0=0:=rfl;have hsl:∀(b:Nat) (W:World),(Instr.sliceAt 147 (.pointer (some ⟨b,0,none⟩)) (some (.int .i64 0)) none none).run Tryz.prog W=.ok (.slice (some ⟨b,0,none⟩) 5 5) W:=fun b W=>by kernel_rfl
 go_enter Tryz.func188,Tryz.ntmps188;go_wp2_with (first | simp only[hmx] | simp only[hsl] | simp only[hcl]);exact bodyPost_ret (v:=.agg #[.string ⟨#[]⟩,.string ⟨#[]⟩,.string ⟨#[]⟩,.string ⟨#[]⟩,.string ⟨#[]⟩]) (by simp[results,Tryz.results188,go_sem]) rfl ⟨rfl,by repeat (first | exact Below.refl _ _ | (refine Below.alloc ?_ (by simp) _) | (refine Below.setCell ?_ (by simp) _))⟩
theorem head_0 (s0 s1 s2 s3 s4:ByteArray)(w:World):Calls Tryz.prog 188 #[.agg #[.string s0,.string s1,.string s2,.string s3,.string s4],.int .i64 0] w fun e w'=>e=.returned (.agg #[.string ⟨#[]⟩,.string ⟨#[]⟩,.string ⟨#[]⟩,.string ⟨#[]⟩,.string ⟨#[]⟩])/\Below w.heap.size w w':=by
 have hcl:∀ty,(Builtin.clear_ #[131] ty #[.slice (some ⟨w.heap.size,0,none⟩) 5 5]).run Tryz.prog ((w.alloc (.cells #[.string s0,.string s1,.string s2,.string s3,.string s4] 147)).alloc (.cells #[.string ⟨#[]⟩,.string ⟨#[]⟩,.string ⟨#[]⟩,.string ⟨#[]⟩,.string ⟨#[]⟩] 147))=.ok (.tuple #[]) (((((((w.alloc (.cells #[.string s0,.string s1,.string s2,.string s3,.string s4] 147)).alloc (.cells #[.string ⟨#[]⟩,.string ⟨#[]⟩,.string ⟨#[]⟩,.string ⟨#[]⟩,.string ⟨#[]⟩] 147)).setCell ⟨w.heap.size,0,none⟩ (.string ⟨#[]⟩)).setCell ⟨w.heap.size,1,none⟩ (.string ⟨#[]⟩)).setCell ⟨w.heap.size,2,none⟩ (.string ⟨#[]⟩)).setCell ⟨w.heap.size,3,none⟩ (.string ⟨#[]⟩)).setCell ⟨w.heap.size,4,none⟩ (.string ⟨#[]⟩)):=
  fun ty=>Lib.run_clear_slice _ 131 9 ty (.string ⟨#[]⟩) Tryz.underlying131 zeroStr rfl rfl w.heap.size 0 5 5 (by omega)
   (fun j hj=>by rcases (show j=0\/j=1\/j=2\/j=3\/j=4 by omega) with rfl | rfl | rfl | rfl | rfl <;> first | omega | simp[World.cell?_alloc_past])
   (fun j hj=>by rcases (show j=0\/j=1\/j=2\/j=3\/j=4 by omega) with rfl | rfl | rfl | rfl | rfl <;> first | omega | simp[World.frozen?_alloc_past])
 have hmx:max (0:Int) 0=0:=rfl;have hsl:∀(b:Nat) (W:World),(Instr.sliceAt 147 (.pointer (some ⟨b,0,none⟩)) (some (.int .i64 0)) none none).run Tryz.prog W=.ok (.slice (some ⟨b,0,none⟩) 5 5) W:=fun b W=>by kernel_rfl
 go_enter Tryz.func188,Tryz.ntmps188;go_wp2_with (first | simp only[hmx] | simp only[hsl] | simp only[hcl]);exact bodyPost_ret (v:=.agg #[.string ⟨#[]⟩,.string ⟨#[]⟩,.string ⟨#[]⟩,.string ⟨#[]⟩,.string ⟨#[]⟩]) (by simp[results,Tryz.results188,go_sem]) rfl ⟨rfl,by repeat (first | exact Below.refl _ _ | (refine Below.alloc ?_ (by simp) _) | (refine Below.setCell ?_ (by simp) _))⟩
theorem head_1 (s0 s1 s2 s3 s4:ByteArray)(w:World):Calls Tryz.prog 188 #[.agg #[.string s0,.string s1,.string s2,.string s3,.string s4],.int .i64 1] w fun e w'=>e=.returned (.agg #[.string s0,.string ⟨#[]⟩,.string ⟨#[]⟩,.string ⟨#[]⟩,.string ⟨#[]⟩])/\Below w.heap.size w w':=by
 have hcl:∀ty,(Builtin.clear_ #[131] ty #[.slice (some ⟨w.heap.size,1,none⟩) 4 4]).run Tryz.prog ((w.alloc (.cells #[.string s0,.string s1,.string s2,.string s3,.string s4] 147)).alloc (.cells #[.string ⟨#[]⟩,.string ⟨#[]⟩,.string ⟨#[]⟩,.string ⟨#[]⟩,.string ⟨#[]⟩] 147))=.ok (.tuple #[]) ((((((w.alloc (.cells #[.string s0,.string s1,.string s2,.string s3,.string s4] 147)).alloc (.cells #[.string ⟨#[]⟩,.string ⟨#[]⟩,.string ⟨#[]⟩,.string ⟨#[]⟩,.string ⟨#[]⟩] 147)).setCell ⟨w.heap.size,1,none⟩ (.string ⟨#[]⟩)).setCell ⟨w.heap.size,2,none⟩ (.string ⟨#[]⟩)).setCell ⟨w.heap.size,3,none⟩ (.string ⟨#[]⟩)).setCell ⟨w.heap.size,4,none⟩ (.string ⟨#[]⟩)):=
  fun ty=>Lib.run_clear_slice _ 131 9 ty (.string ⟨#[]⟩) Tryz.underlying131 zeroStr rfl rfl w.heap.size 1 4 4 (by omega)
   (fun j hj=>by rcases (show j=0\/j=1\/j=2\/j=3\/j=4 by omega) with rfl | rfl | rfl | rfl | rfl <;> first | omega | simp[World.cell?_alloc_past])
   (fun j hj=>by rcases (show j=0\/j=1\/j=2\/j=3\/j=4 by omega) with rfl | rfl | rfl | rfl | rfl <;> first | omega | simp[World.frozen?_alloc_past])
 have hmx:max (1:Int) 0=1:=rfl;have hsl:∀(b:Nat) (W:World),(Instr.sliceAt 147 (.pointer (some ⟨b,0,none⟩)) (some (.int .i64 1)) none none).run Tryz.prog W=.ok (.slice (some ⟨b,1,none⟩) 4 4) W:=fun b W=>by kernel_rfl
 go_enter Tryz.func188,Tryz.ntmps188;go_wp2_with (first | simp only[hmx] | simp only[hsl] | simp only[hcl]);exact bodyPost_ret (v:=.agg #[.string s0,.string ⟨#[]⟩,.string ⟨#[]⟩,.string ⟨#[]⟩,.string ⟨#[]⟩]) (by simp[results,Tryz.results188,go_sem]) rfl ⟨rfl,by repeat (first | exact Below.refl _ _ | (refine Below.alloc ?_ (by simp) _) | (refine Below.setCell ?_ (by simp) _))⟩
theorem head_2 (s0 s1 s2 s3 s4:ByteArray)(w:World):Calls Tryz.prog 188 #[.agg #[.string s0,.string s1,.string s2,.string s3,.string s4],.int .i64 2] w fun e w'=>e=.returned (.agg #[.string s0,.string s1,.string ⟨#[]⟩,.string ⟨#[]⟩,.string ⟨#[]⟩])/\Below w.heap.size w w':=by
 have hcl:∀ty,(Builtin.clear_ #[131] ty #[.slice (some ⟨w.heap.size,2,none⟩) 3 3]).run Tryz.prog ((w.alloc (.cells #[.string s0,.string s1,.string s2,.string s3,.string s4] 147)).alloc (.cells #[.string ⟨#[]⟩,.string ⟨#[]⟩,.string ⟨#[]⟩,.string ⟨#[]⟩,.string ⟨#[]⟩] 147))=.ok (.tuple #[]) (((((w.alloc (.cells #[.string s0,.string s1,.string s2,.string s3,.string s4] 147)).alloc (.cells #[.string ⟨#[]⟩,.string ⟨#[]⟩,.string ⟨#[]⟩,.string ⟨#[]⟩,.string ⟨#[]⟩] 147)).setCell ⟨w.heap.size,2,none⟩ (.string ⟨#[]⟩)).setCell ⟨w.heap.size,3,none⟩ (.string ⟨#[]⟩)).setCell ⟨w.heap.size,4,none⟩ (.string ⟨#[]⟩)):=
  fun ty=>Lib.run_clear_slice _ 131 9 ty (.string ⟨#[]⟩) Tryz.underlying131 zeroStr rfl rfl w.heap.size 2 3 3 (by omega)
   (fun j hj=>by rcases (show j=0\/j=1\/j=2\/j=3\/j=4 by omega) with rfl | rfl | rfl | rfl | rfl <;> first | omega | simp[World.cell?_alloc_past])
   (fun j hj=>by rcases (show j=0\/j=1\/j=2\/j=3\/j=4 by omega) with rfl | rfl | rfl | rfl | rfl <;> first | omega | simp[World.frozen?_alloc_past])
 have hmx:max (2:Int) 0=2:=rfl;have hsl:∀(b:Nat) (W:World),(Instr.sliceAt 147 (.pointer (some ⟨b,0,none⟩)) (some (.int .i64 2)) none none).run Tryz.prog W=.ok (.slice (some ⟨b,2,none⟩) 3 3) W:=fun b W=>by kernel_rfl
 go_enter Tryz.func188,Tryz.ntmps188;go_wp2_with (first | simp only[hmx] | simp only[hsl] | simp only[hcl]);exact bodyPost_ret (v:=.agg #[.string s0,.string s1,.string ⟨#[]⟩,.string ⟨#[]⟩,.string ⟨#[]⟩]) (by simp[results,Tryz.results188,go_sem]) rfl ⟨rfl,by repeat (first | exact Below.refl _ _ | (refine Below.alloc ?_ (by simp) _) | (refine Below.setCell ?_ (by simp) _))⟩
theorem head_3 (s0 s1 s2 s3 s4:ByteArray)(w:World):Calls Tryz.prog 188 #[.agg #[.string s0,.string s1,.string s2,.string s3,.string s4],.int .i64 3] w fun e w'=>e=.returned (.agg #[.string s0,.string s1,.string s2,.string ⟨#[]⟩,.string ⟨#[]⟩])/\Below w.heap.size w w':=by
 have hcl:∀ty,(Builtin.clear_ #[131] ty #[.slice (some ⟨w.heap.size,3,none⟩) 2 2]).run Tryz.prog ((w.alloc (.cells #[.string s0,.string s1,.string s2,.string s3,.string s4] 147)).alloc (.cells #[.string ⟨#[]⟩,.string ⟨#[]⟩,.string ⟨#[]⟩,.string ⟨#[]⟩,.string ⟨#[]⟩] 147))=.ok (.tuple #[]) ((((w.alloc (.cells #[.string s0,.string s1,.string s2,.string s3,.string s4] 147)).alloc (.cells #[.string ⟨#[]⟩,.string ⟨#[]⟩,.string ⟨#[]⟩,.string ⟨#[]⟩,.string ⟨#[]⟩] 147)).setCell ⟨w.heap.size,3,none⟩ (.string ⟨#[]⟩)).setCell ⟨w.heap.size,4,none⟩ (.string ⟨#[]⟩)):=
  fun ty=>Lib.run_clear_slice _ 131 9 ty (.string ⟨#[]⟩) Tryz.underlying131 zeroStr rfl rfl w.heap.size 3 2 2 (by omega)
   (fun j hj=>by rcases (show j=0\/j=1\/j=2\/j=3\/j=4 by omega) with rfl | rfl | rfl | rfl | rfl <;> first | omega | simp[World.cell?_alloc_past])
   (fun j hj=>by rcases (show j=0\/j=1\/j=2\/j=3\/j=4 by omega) with rfl | rfl | rfl | rfl | rfl <;> first | omega | simp[World.frozen?_alloc_past])
 have hmx:max (3:Int) 0=3:=rfl;have hsl:∀(b:Nat) (W:World),(Instr.sliceAt 147 (.pointer (some ⟨b,0,none⟩)) (some (.int .i64 3)) none none).run Tryz.prog W=.ok (.slice (some ⟨b,3,none⟩) 2 2) W:=fun b W=>by kernel_rfl
 go_enter Tryz.func188,Tryz.ntmps188;go_wp2_with (first | simp only[hmx] | simp only[hsl] | simp only[hcl]);exact bodyPost_ret (v:=.agg #[.string s0,.string s1,.string s2,.string ⟨#[]⟩,.string ⟨#[]⟩]) (by simp[results,Tryz.results188,go_sem]) rfl ⟨rfl,by repeat (first | exact Below.refl _ _ | (refine Below.alloc ?_ (by simp) _) | (refine Below.setCell ?_ (by simp) _))⟩
theorem head_4 (s0 s1 s2 s3 s4:ByteArray)(w:World):Calls Tryz.prog 188 #[.agg #[.string s0,.string s1,.string s2,.string s3,.string s4],.int .i64 4] w fun e w'=>e=.returned (.agg #[.string s0,.string s1,.string s2,.string s3,.string ⟨#[]⟩])/\Below w.heap.size w w':=by
 have hcl:∀ty,(Builtin.clear_ #[131] ty #[.slice (some ⟨w.heap.size,4,none⟩) 1 1]).run Tryz.prog ((w.alloc (.cells #[.string s0,.string s1,.string s2,.string s3,.string s4] 147)).alloc (.cells #[.string ⟨#[]⟩,.string ⟨#[]⟩,.string ⟨#[]⟩,.string ⟨#[]⟩,.string ⟨#[]⟩] 147))=.ok (.tuple #[]) (((w.alloc (.cells #[.string s0,.string s1,.string s2,.string s3,.string s4] 147)).alloc (.cells #[.string ⟨#[]⟩,.string ⟨#[]⟩,.string ⟨#[]⟩,.string ⟨#[]⟩,.string ⟨#[]⟩] 147)).setCell ⟨w.heap.size,4,none⟩ (.string ⟨#[]⟩)):=
  fun ty=>Lib.run_clear_slice _ 131 9 ty (.string ⟨#[]⟩) Tryz.underlying131 zeroStr rfl rfl w.heap.size 4 1 1 (by omega)
   (fun j hj=>by rcases (show j=0\/j=1\/j=2\/j=3\/j=4 by omega) with rfl | rfl | rfl | rfl | rfl <;> first | omega | simp[World.cell?_alloc_past])
   (fun j hj=>by rcases (show j=0\/j=1\/j=2\/j=3\/j=4 by omega) with rfl | rfl | rfl | rfl | rfl <;> first | omega | simp[World.frozen?_alloc_past])
 have hmx:max (4:Int) 0=4:=rfl;have hsl:∀(b:Nat) (W:World),(Instr.sliceAt 147 (.pointer (some ⟨b,0,none⟩)) (some (.int .i64 4)) none none).run Tryz.prog W=.ok (.slice (some ⟨b,4,none⟩) 1 1) W:=fun b W=>by kernel_rfl
 go_enter Tryz.func188,Tryz.ntmps188;go_wp2_with (first | simp only[hmx] | simp only[hsl] | simp only[hcl]);exact bodyPost_ret (v:=.agg #[.string s0,.string s1,.string s2,.string s3,.string ⟨#[]⟩]) (by simp[results,Tryz.results188,go_sem]) rfl ⟨rfl,by repeat (first | exact Below.refl _ _ | (refine Below.alloc ?_ (by simp) _) | (refine Below.setCell ?_ (by simp) _))⟩
theorem head_5 (s0 s1 s2 s3 s4:ByteArray)(w:World):Calls Tryz.prog 188 #[.agg #[.string s0,.string s1,.string s2,.string s3,.string s4],.int .i64 5] w fun e w'=>e=.returned (.agg #[.string s0,.string s1,.string s2,.string s3,.string s4])/\Below w.heap.size w w':=by
 have hcl:∀ty W,(Builtin.clear_ #[131] ty #[.slice (some ⟨w.heap.size,0,none⟩) 0 0]).run Tryz.prog W=.ok (.tuple #[]) W:=fun ty W=>by simp[Builtin.clear_,run_underlying Tryz.underlying131]
 have hmx:max (5:Int) 0=5:=rfl;have hsl:∀(b:Nat) (W:World),(Instr.sliceAt 147 (.pointer (some ⟨b,0,none⟩)) (some (.int .i64 5)) none none).run Tryz.prog W=.ok (.slice (some ⟨b,0,none⟩) 0 0) W:=fun b W=>by kernel_rfl
 go_enter Tryz.func188,Tryz.ntmps188;go_wp2_with (first | simp only[hmx] | simp only[hsl] | simp only[hcl]);exact bodyPost_ret (v:=.agg #[.string s0,.string s1,.string s2,.string s3,.string s4]) (by simp[results,Tryz.results188,go_sem]) rfl ⟨rfl,by repeat (first | exact Below.refl _ _ | (refine Below.alloc ?_ (by simp) _) | (refine Below.setCell ?_ (by simp) _))⟩
theorem head_any (l:List ByteArray)(h5:l.length<=5)(n:Nat)(hn:n<=5)(w:World):Calls Tryz.prog 188 #[pathV l,.int .i64 (n:Int)] w fun e w'=>e=.returned (pathV (l.take n))/\Below w.heap.size w w':=by
 have key:∀i,(l.take n).getD i ⟨#[]⟩=if i<n then l.getD i ⟨#[]⟩ else ⟨#[]⟩:=by
  intro i;rw[List.getD_eq_getElem?_getD,List.getD_eq_getElem?_getD,List.getElem?_take];split <;> rfl
 unfold pathV pathA;simp only[key];rcases (show n=0\/n=1\/n=2\/n=3\/n=4\/n=5 by omega) with rfl | rfl | rfl | rfl | rfl | rfl
 ·exact head_0 _ _ _ _ _ w
 ·exact head_1 _ _ _ _ _ w
 ·exact head_2 _ _ _ _ _ w
 ·exact head_3 _ _ _ _ _ w
 ·exact head_4 _ _ _ _ _ w
 ·exact head_5 _ _ _ _ _ w
theorem head_less (l:List ByteArray)(w:World):Calls Tryz.prog 188 #[pathV l,.int .i64 (-1)] w fun e w'=>e=.returned (pathV [])/\Below w.heap.size w w':=head_neg _ _ _ _ _ w
theorem bcell {W w1:World}(hb:Below W.heap.size W w1):(∀b o,b<W.heap.size->w1.cell? ⟨b,o,none⟩=W.cell? ⟨b,o,none⟩)/\(∀b o,b<W.heap.size->w1.frozen? ⟨b,o,none⟩=W.frozen? ⟨b,o,none⟩):=
 ⟨fun b o h=>hb.cell (p:=⟨b,o,none⟩) h,fun b o h=>hb.frozen (p:=⟨b,o,none⟩) h⟩
theorem below_drew {n:Nat}{w W:World}(h:Below n w W):Below n w W.drew:=⟨h.os,h.tape,h.output,h.size,h.block⟩
theorem below_via {w W w1:World}(h0:Below w.heap.size w W)(h:Below W.heap.size W w1):Below w.heap.size w w1:=h0.trans (h.mono h0.size)
theorem two_size {w w1:World}{o1 o2:Obj}(h:Below ((w.alloc o1).alloc o2).drew.heap.size ((w.alloc o1).alloc o2).drew w1):w.heap.size<w1.heap.size/\w.heap.size+1<w1.heap.size:=by
 have h2:((w.alloc o1).alloc o2).heap.size<=w1.heap.size:=h.size;rw[World.size_alloc,World.size_alloc] at h2;omega
theorem parent_walk (s0 s1 s2 s3 s4 r0 r1 r2 r3 r4:ByteArray)(n m:Int)(w:World)(hm:IntKind.i64.wrap (n-1)=m)
  (hd:∀W,Calls Tryz.prog 142 #[.agg #[.string s0,.string s1,.string s2,.string s3,.string s4]] W fun e w'=>e=.returned (.int .i64 n)/\Below W.heap.size W w')
  (hh:∀W,Calls Tryz.prog 188 #[.agg #[.string s0,.string s1,.string s2,.string s3,.string s4],.int .i64 m] W fun e w'=>e=.returned (.agg #[.string r0,.string r1,.string r2,.string r3,.string r4])/\Below W.heap.size W w'):
  Calls Tryz.prog 132 #[.agg #[.string s0,.string s1,.string s2,.string s3,.string s4]] w fun e w'=>e=.returned (.agg #[.string r0,.string r1,.string r2,.string r3,.string r4])/\Below w.heap.size w w':=by
 go_enter Tryz.func132,Tryz.ntmps132;go_wp2
 go_region_with (first
  | (go_at_call 142;refine (hd _).mono ?_;rintro e w1 ⟨rfl,hb1⟩;obtain⟨hc1,hf1⟩:=bcell hb1;obtain⟨hz0,hz1⟩:=two_size hb1)
  | (go_at_call 188;refine (hh _).mono ?_;rintro e w2 ⟨rfl,hb2⟩;obtain⟨hc2,hf2⟩:=bcell hb2))
 all_goals
  go_wp2;exact bodyPost_ret (v:=.agg #[.string r0,.string r1,.string r2,.string r3,.string r4]) (by simp[results,Tryz.results132,go_sem,hc1,hc2,hz1]) rfl ⟨rfl,by
   have h1:Below w.heap.size w w1:=below_via (below_drew (((Below.refl _ _).alloc (zzC _) _).alloc (by simp) _)) hb1;have h2:Below w.heap.size w w2:=h1.trans (hb2.mono (by omega))
   repeat (first | exact h2 | (refine Below.setCell ?_ (by simp) _))⟩
theorem one_size {w w1:World}{o1:Obj}(h:Below (w.alloc o1).drew.heap.size (w.alloc o1).drew w1):w.heap.size<w1.heap.size:=by
 have h2:(w.alloc o1).heap.size<=w1.heap.size:=h.size;rw[World.size_alloc] at h2;omega
theorem name_1 (s0 s1 s2 s3 s4:ByteArray)(w:World)
  (heq:∀W,(Op.equalIn 10000 147 (.agg #[.string s0,.string s1,.string s2,.string s3,.string s4]) (.agg #[.string ⟨#[]⟩,.string ⟨#[]⟩,.string ⟨#[]⟩,.string ⟨#[]⟩,.string ⟨#[]⟩])).run Tryz.prog W=.ok false W)
  (hd:∀W,Calls Tryz.prog 142 #[.agg #[.string s0,.string s1,.string s2,.string s3,.string s4]] W fun e w'=>e=.returned (.int .i64 1)/\Below W.heap.size W w'):
  Calls Tryz.prog 134 #[.agg #[.string s0,.string s1,.string s2,.string s3,.string s4]] w fun e w'=>e=.returned (.string s0)/\Below w.heap.size w w':=by
 have hroot:=fun W=>root_any W;unfold pathV pathA at hroot;simp only[List.getD_nil] at hroot;go_enter Tryz.func134,Tryz.ntmps134;go_wp2
 go_region_with (first
  | (go_at_call 75;refine (hroot _).mono ?_;rintro e w1 ⟨rfl,hb1⟩;obtain⟨hc1,hf1⟩:=bcell hb1;have hz1:=one_size hb1))
 all_goals
  go_wp2_with (go_at_call 142;refine (hd _).mono ?_;rintro e w2 ⟨rfl,hb2⟩;obtain⟨hc2,hf2⟩:=bcell hb2);go_ret;exact⟨rfl,below_via (below_via (below_drew ((Below.refl _ _).alloc (zzC _) _)) hb1) hb2⟩
theorem name_2 (s0 s1 s2 s3 s4:ByteArray)(w:World)
  (heq:∀W,(Op.equalIn 10000 147 (.agg #[.string s0,.string s1,.string s2,.string s3,.string s4]) (.agg #[.string ⟨#[]⟩,.string ⟨#[]⟩,.string ⟨#[]⟩,.string ⟨#[]⟩,.string ⟨#[]⟩])).run Tryz.prog W=.ok false W)
  (hd:∀W,Calls Tryz.prog 142 #[.agg #[.string s0,.string s1,.string s2,.string s3,.string s4]] W fun e w'=>e=.returned (.int .i64 2)/\Below W.heap.size W w'):
  Calls Tryz.prog 134 #[.agg #[.string s0,.string s1,.string s2,.string s3,.string s4]] w fun e w'=>e=.returned (.string s1)/\Below w.heap.size w w':=by
 have hroot:=fun W=>root_any W;unfold pathV pathA at hroot;simp only[List.getD_nil] at hroot;go_enter Tryz.func134,Tryz.ntmps134;go_wp2
 go_region_with (first
  | (go_at_call 75;refine (hroot _).mono ?_;rintro e w1 ⟨rfl,hb1⟩;obtain⟨hc1,hf1⟩:=bcell hb1;have hz1:=one_size hb1))
 all_goals
  go_wp2_with (go_at_call 142;refine (hd _).mono ?_;rintro e w2 ⟨rfl,hb2⟩;obtain⟨hc2,hf2⟩:=bcell hb2);go_ret;exact⟨rfl,below_via (below_via (below_drew ((Below.refl _ _).alloc (zzC _) _)) hb1) hb2⟩
theorem name_3 (s0 s1 s2 s3 s4:ByteArray)(w:World)
  (heq:∀W,(Op.equalIn 10000 147 (.agg #[.string s0,.string s1,.string s2,.string s3,.string s4]) (.agg #[.string ⟨#[]⟩,.string ⟨#[]⟩,.string ⟨#[]⟩,.string ⟨#[]⟩,.string ⟨#[]⟩])).run Tryz.prog W=.ok false W)
  (hd:∀W,Calls Tryz.prog 142 #[.agg #[.string s0,.string s1,.string s2,.string s3,.string s4]] W fun e w'=>e=.returned (.int .i64 3)/\Below W.heap.size W w'):
  Calls Tryz.prog 134 #[.agg #[.string s0,.string s1,.string s2,.string s3,.string s4]] w fun e w'=>e=.returned (.string s2)/\Below w.heap.size w w':=by
 have hroot:=fun W=>root_any W;unfold pathV pathA at hroot;simp only[List.getD_nil] at hroot;go_enter Tryz.func134,Tryz.ntmps134;go_wp2
 go_region_with (first
  | (go_at_call 75;refine (hroot _).mono ?_;rintro e w1 ⟨rfl,hb1⟩;obtain⟨hc1,hf1⟩:=bcell hb1;have hz1:=one_size hb1))
 all_goals
  go_wp2_with (go_at_call 142;refine (hd _).mono ?_;rintro e w2 ⟨rfl,hb2⟩;obtain⟨hc2,hf2⟩:=bcell hb2);go_ret;exact⟨rfl,below_via (below_via (below_drew ((Below.refl _ _).alloc (zzC _) _)) hb1) hb2⟩
theorem name_4 (s0 s1 s2 s3 s4:ByteArray)(w:World)
  (heq:∀W,(Op.equalIn 10000 147 (.agg #[.string s0,.string s1,.string s2,.string s3,.string s4]) (.agg #[.string ⟨#[]⟩,.string ⟨#[]⟩,.string ⟨#[]⟩,.string ⟨#[]⟩,.string ⟨#[]⟩])).run Tryz.prog W=.ok false W)
  (hd:∀W,Calls Tryz.prog 142 #[.agg #[.string s0,.string s1,.string s2,.string s3,.string s4]] W fun e w'=>e=.returned (.int .i64 4)/\Below W.heap.size W w'):
  Calls Tryz.prog 134 #[.agg #[.string s0,.string s1,.string s2,.string s3,.string s4]] w fun e w'=>e=.returned (.string s3)/\Below w.heap.size w w':=by
 have hroot:=fun W=>root_any W;unfold pathV pathA at hroot;simp only[List.getD_nil] at hroot;go_enter Tryz.func134,Tryz.ntmps134;go_wp2
 go_region_with (first
  | (go_at_call 75;refine (hroot _).mono ?_;rintro e w1 ⟨rfl,hb1⟩;obtain⟨hc1,hf1⟩:=bcell hb1;have hz1:=one_size hb1))
 all_goals
  go_wp2_with (go_at_call 142;refine (hd _).mono ?_;rintro e w2 ⟨rfl,hb2⟩;obtain⟨hc2,hf2⟩:=bcell hb2);go_ret;exact⟨rfl,below_via (below_via (below_drew ((Below.refl _ _).alloc (zzC _) _)) hb1) hb2⟩
theorem name_5 (s0 s1 s2 s3 s4:ByteArray)(w:World)
  (heq:∀W,(Op.equalIn 10000 147 (.agg #[.string s0,.string s1,.string s2,.string s3,.string s4]) (.agg #[.string ⟨#[]⟩,.string ⟨#[]⟩,.string ⟨#[]⟩,.string ⟨#[]⟩,.string ⟨#[]⟩])).run Tryz.prog W=.ok false W)
  (hd:∀W,Calls Tryz.prog 142 #[.agg #[.string s0,.string s1,.string s2,.string s3,.string s4]] W fun e w'=>e=.returned (.int .i64 5)/\Below W.heap.size W w'):
  Calls Tryz.prog 134 #[.agg #[.string s0,.string s1,.string s2,.string s3,.string s4]] w fun e w'=>e=.returned (.string s4)/\Below w.heap.size w w':=by
 have hroot:=fun W=>root_any W;unfold pathV pathA at hroot;simp only[List.getD_nil] at hroot;go_enter Tryz.func134,Tryz.ntmps134;go_wp2
 go_region_with (first
  | (go_at_call 75;refine (hroot _).mono ?_;rintro e w1 ⟨rfl,hb1⟩;obtain⟨hc1,hf1⟩:=bcell hb1;have hz1:=one_size hb1))
 all_goals
  go_wp2_with (go_at_call 142;refine (hd _).mono ?_;rintro e w2 ⟨rfl,hb2⟩;obtain⟨hc2,hf2⟩:=bcell hb2);go_ret;exact⟨rfl,below_via (below_via (below_drew ((Below.refl _ _).alloc (zzC _) _)) hb1) hb2⟩
theorem getD_last (l:List ByteArray)(h:l ≠ []):l.getD (l.length-1) ⟨#[]⟩=l.getLast h:=by
 rw[List.getLast_eq_getElem,List.getD_eq_getElem?_getD,zzH (by have:=List.length_pos_iff.2 h;omega)];rfl
theorem name_any (l:List ByteArray)(hg:Good l)(h:l ≠ [])(w:World):Calls Tryz.prog 134 #[pathV l] w fun e w'=>e=.returned (.string (l.getLast h))/\Below w.heap.size w w':=by
 have heq:∀W,(Op.equalIn 10000 147 (pathV l) (pathV [])).run Tryz.prog W=.ok false W:=fun W=>by
  have:=run_eqP hg Good.nil W
  rw[zzE h] at this;exact this
 have hd:=fun W=>depth_any l hg.val hg.len W;have h5:=hg.len;have hl:=List.length_pos_iff.2 h;rw[<-getD_last l h];generalize hn:l.length=k at hd h5 hl ⊢;unfold pathV pathA at heq hd ⊢;simp only[List.getD_nil] at heq;rcases (show k=1\/k=2\/k=3\/k=4\/k=5 by omega) with rfl | rfl | rfl | rfl | rfl
 ·exact name_1 _ _ _ _ _ w heq hd
 ·exact name_2 _ _ _ _ _ w heq hd
 ·exact name_3 _ _ _ _ _ w heq hd
 ·exact name_4 _ _ _ _ _ w heq hd
 ·exact name_5 _ _ _ _ _ w heq hd
theorem parent_any (l:List ByteArray)(hg:Good l)(w:World):Calls Tryz.prog 132 #[pathV l] w fun e w'=>e=.returned (pathV l.dropLast)/\Below w.heap.size w w':=by
 have hd:=fun W=>depth_any l hg.val hg.len W;have h5:=hg.len;by_cases hl:l = []
 ·subst hl
  have hh:=fun W=>head_less [] W;exact parent_walk _ _ _ _ _ _ _ _ _ _ 0 (-1) w (by decide) hd hh
 ·have hp:=List.length_pos_iff.2 hl
  have hh:=fun W=>head_any l hg.len (l.length-1) (by omega) W;rw[<-List.dropLast_eq_take] at hh;refine parent_walk _ _ _ _ _ _ _ _ _ _ (l.length:Int) ((l.length-1:Nat):Int) w ?_ hd hh;rcases (show l.length=1\/l.length=2\/l.length=3\/l.length=4\/l.length=5 by omega) with e | e | e | e | e <;> (rw[e];decide)
end Go.Proofs.YtlgidcmmgohagaaGreat
namespace Go.Proofs.YtlgidcmmgohagaaGreat
open Go.RowKit
set_option linter.unusedVariables false
set_option maxRecDepth 100000 in
set_option maxHeartbeats 400000 in
theorem stored_walk (b:Nat)(id:Int)(w:World):
  Calls Tryz.prog 211 #[.pointer (some ⟨b,0,none⟩),.int .i64 id] w fun e w'=>e=.returned (.pointer (some ⟨w.heap.size,0,none⟩))/\w'=w.alloc (.cells #[.pointer (some ⟨b,0,none⟩),.int .i64 id,.string ⟨#[]⟩] 308):=by
 go_enter Tryz.func211,Tryz.ntmps211;go_wp2;go_ret;exact⟨rfl,rfl⟩
set_option maxRecDepth 100000 in
set_option maxHeartbeats 400000 in
theorem empty_walk (w:World):
  Calls Tryz.prog 210 #[] w fun e w'=>e=.returned (.pointer (some ⟨w.heap.size,0,none⟩))/\w'=w.alloc (.cells #[.pointer none,.int .i64 0,.string ⟨#[]⟩] 308):=by
 go_enter Tryz.func210,Tryz.ntmps210;go_wp2;go_ret;exact⟨rfl,rfl⟩
set_option maxRecDepth 100000 in
set_option maxHeartbeats 400000 in
theorem set_walk (f:Nat)(v:Value)(d:ByteArray)(x y z:Value)(w:World)(hf:f<w.heap.size)(c0:w.cell? ⟨f,0,none⟩=some x)(c1:w.cell? ⟨f,1,none⟩=some y)(c2:w.cell? ⟨f,2,none⟩=some z)(f0:∀o,w.frozen? ⟨f,o,none⟩=false)
  (hc:(convert 204 9 v).run Tryz.prog w=.ok (.string d) w):
  Calls Tryz.prog 212 #[.pointer (some ⟨f,0,none⟩),v] w fun e w'=>e=.returned (.tuple #[])/\w'=((w.setCell ⟨f,0,none⟩ (.pointer none)).setCell ⟨f,1,none⟩ (.int .i64 0)).setCell ⟨f,2,none⟩ (.string d):=by
 go_enter Tryz.func212,Tryz.ntmps212;go_wp2;go_end0;exact⟨rfl,rfl⟩
set_option maxRecDepth 100000 in
set_option maxHeartbeats 400000 in
theorem start_app (o:Nat)(fg pl n:Int)(w:World)(c1:w.cell? ⟨o,1,none⟩=some (.int .i64 fg))(hand:(bits BinOp.and IntKind.i64 fg 32 != 0)=true):
  Calls Tryz.prog 180 #[.pointer (some ⟨o,0,none⟩),.int .i64 n] w fun e w'=>e=.returned (.int .i64 n)/\w'=w:=by
 go_enter Tryz.func180,Tryz.ntmps180;go_wp2;go_ret;exact⟨rfl,rfl⟩
end Go.Proofs.YtlgidcmmgohagaaGreat
