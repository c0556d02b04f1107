/- What is proved here: 'keepEntries'. -/
import Derived.Test.YtlgidcmmgohagaaGreatFileM07
import Derived.ArgAppend
import Derived.Test.YtlgidcmmgohagaaGreatFileM02
import Derived.BigQuiet
namespace Go.Proofs.YtlgidcmmgohagaaGreat
open Go.RowKit Go.Sort Go.Shelf Go.Proofs.Tryz
set_option linter.unusedVariables false
set_option maxRecDepth 100000
set_option maxHeartbeats 16000000
theorem infoEs:(prog.info? 55).map (fun i=>(i.zero,i.size,i.bytes))=some (some (.slice none 0 0),1,24):=by kernel_rfl
def Came (w:World)(la:Option Addr)(m:Nat):Prop:=(la=none->m=0)/\∀b,la=some b->∃g xs,b=⟨g,0,none⟩/\w.ownsRow 0 96 3 (.slice la m m) m xs
theorem lit_cells (W:World)(cs:List Value)(t:TypeId):∀j u,cs[j]? = some u->(W.alloc (.cells cs.toArray t)).cell? ((⟨W.heap.size,0,none⟩:Addr).add j)=some u:=by
 intro j u h;rw[add_flat,Nat.zero_add]
 have:=heap_alloc_new W (.cells cs.toArray t)
 unfold World.cell?;rw[this];simpa using h
theorem one_slice {a:Option Addr}{n c:Nat}:∀u ∈ [Value.slice a n c],u.oneCell'=true:=by intro u hu;simp at hu;subst hu;rfl
def mkQ (q:Nat):Ent:=(⟨#[]⟩,-1000-(q:Int),0)
def Fill (w:World)(la:Option Addr)(m k q:Nat):Prop:=∀b,la=some b->∃g rest,b=⟨g,0,none⟩/\rest.length=(m-k)*3/\w.ownsRow 0 96 3 (.slice la m m) m (flat (List.replicate k (mkQ q))++rest)
theorem Keeps.refl {F:Nat->Prop}(w:World):Keeps F w w:=⟨rfl,rfl,rfl,zzC _,fun _ _ _=>rfl⟩
def KeptOne (w w':World)(W q:Nat)(cs:Array Value)(ea:Option Addr)(ec:Nat)(la:Option Addr)(m:Nat)(hs:List HeldL):Prop:=
 ∃g4 c4 ga ca gb cb gc cc,w'.heap[W]? = some (.cells (cs.setIfInBounds 9 (.slice (some ⟨g4,0,none⟩) (4*q+4) c4)) 71 (0,0))/\
  w'.ownsRow 0 55 1 (.slice (some ⟨g4,0,none⟩) (4*q+4) c4) (4*q+4) ((hs ++ [(la,m,m),(some ⟨ga,0,none⟩,m+1,ca),(some ⟨gb,0,none⟩,m+2,cb),(some ⟨gc,0,none⟩,m+3,cc)]).map encH)/\
  (∀b,la=some b->∃g,b=⟨g,0,none⟩/\w'.ownsRow 0 96 3 (.slice la m m) m (flat (List.replicate m (mkQ q))))/\
  w'.ownsRow w.heap.size 96 3 (.slice (some ⟨ga,0,none⟩) (m+1) ca) (m+1) (flat (List.replicate (m+1) (mkQ q)))/\
  w'.ownsRow w.heap.size 96 3 (.slice (some ⟨gb,0,none⟩) (m+2) cb) (m+2) (flat (List.replicate (m+2) (mkQ q)))/\
  w'.ownsRow w.heap.size 96 3 (.slice (some ⟨gc,0,none⟩) (m+3) cc) (m+3) (flat (List.replicate (m+3) (mkQ q)))/\
  ((some g4:Option Nat)=(Value.slice ea (4*q) ec).ownBlock\/w.heap.size<=g4)/\
  Keeps (fun x=>x=W\/some x=(Value.slice ea (4*q) ec).ownBlock\/some x=(Value.slice la m m).ownBlock) w w'
theorem stage_next {w S S':World}{W:Nat}{cs cs':Array Value}{own0 ownl:Option Nat}{a:Option Addr}{n c g n' c':Nat}{xs xs':List Value}(hW:S.heap[W]? = some (.cells cs 71 (0,0)))(row:S.ownsRow 0 55 1 (.slice a n c) n xs)
  (loc:∀x,(Value.slice a n c).ownBlock=some x->some x=own0\/w.heap.size<=x)(hk:Keeps (fun x=>x=W\/some x=own0\/some x=ownl) w S)
  (P:S'.heap[W]? = some (.cells cs' 71 (0,0))/\S'.ownsRow 0 55 1 (.slice (some ⟨g,0,none⟩) n' c') n' xs'/\((some g:Option Nat)=(Value.slice a n c).ownBlock\/S.heap.size<=g)/\Keeps (fun k=>k=W\/some k=(Value.slice a n c).ownBlock) S S'):
  (∀x,(Value.slice (some ⟨g,0,none⟩) n' c').ownBlock=some x->some x=own0\/w.heap.size<=x)/\Keeps (fun x=>x=W\/some x=own0\/some x=ownl) w S'/\
   ∀{b:Nat} {v:Value} {l:Nat} {ys:List Value},S.ownsRow b 96 3 v l ys->S'.ownsRow b 96 3 v l ys:=by
 obtain⟨p1,p2,p3,p4⟩:=P;refine⟨fun x hx=>?_,⟨p4.os.trans hk.os,p4.tape.trans hk.tape,p4.output.trans hk.output,zzG hk.size p4.size,fun x hx hn=>?_⟩,fun hr=>row_stays hr p4 hW (by decide) (fun g hg=>rows_apart hr row (by decide) hg)⟩
 ·simp only[Value.ownBlock,Option.some.injEq] at hx
  subst hx;rcases p3 with e | e
  ·exact loc _ e.symm
  ·exact .inr (zzG hk.size e)
 ·rw[p4.block x (zzA hx hk.size) ?_]
  ·exact hk.block x hx hn
  ·rintro (e | e)
   ·exact hn (.inl e)
   ·rcases loc x e.symm with h | h
    ·exact hn (.inr (.inl h))
    ·omega
theorem keepEntries_any (W q:Nat)(cs:Array Value)(ea:Option Addr)(ec m:Nat)(la:Option Addr)(hs:List HeldL)(w:World)(hW:w.heap[W]? = some (.cells cs 71 (0,0)))(h9:cs[9]? = some (.slice ea (4*q) ec))(hn:hs.length=4*q)(hlen:4*q<=1000000000)
  (row:w.ownsRow 0 55 1 (.slice ea (4*q) ec) (4*q) (hs.map encH))(hm:m<=16)(hl:Came w la m):
  Calls prog 44 #[.pointer (some ⟨W,8,none⟩),.slice la m m] w fun e w'=>e=.returned (.tuple #[])/\KeptOne w w' W q cs ea ec la m hs:=by
 obtain⟨i0,hi,hz0,hz1,hz2⟩:=info_parts infoE;obtain⟨iS,hS,hS0,hS1,hS2⟩:=info_parts infoEs;have hWl:W<w.heap.size:=(Array.getElem?_eq_some_iff.1 hW).1;have e9:w.cell? ⟨W,9,none⟩=some (.slice ea (4*q) ec):=by simp[World.cell?,hW,h9]
 have HC:Hid (Came w la m):=hl;have HR:Hid (w.ownsRow 0 55 1 (.slice ea (4*q) ec) (4*q) (hs.map encH)):=row;have HFI:Hid (∀B:Obj,Fill (w.alloc B) la m 0 q):=fun B b hb=>by
  obtain⟨g,xs,h1,h2⟩:=hl.2 b hb;exact⟨g,xs,h1,by rw[h2.1,Nat.sub_zero],by simpa [flat] using h2.alloc B⟩
 have HOL:Hid (∀g,(Value.slice la m m).ownBlock=some g->g<w.heap.size/\g≠W):=fun g hg=>by
  cases la with
  | none=>cases hg
  | some b=>
   obtain⟨g',xs,h1,h2⟩:=hl.2 b rfl;refine⟨ownsRow_lt h2 hg,fun e=>?_⟩;subst e;exact owns_ne_cells h2 hW (by decide) hg.symm
 have h9l:9<cs.size:=(Array.getElem?_eq_some_iff.1 h9).1;have h9s:∀v:Value,(cs.setIfInBounds 9 v)[9]? = some v:=fun v=>by simp[h9l]
 clear hl row;go_enter func44,ntmps44;go_wp2
 go_loopw [5] (fun i wr=>∃k:Nat,k<=m/\i=.int .i64 (k:Int)/\Hid (Keeps (fun x=>some x=(Value.slice la m m).ownBlock) (w.alloc (.cells #[.string ⟨#[]⟩,.int .i64 (-1000-(q:Int)),.int .i64 0] 96)) wr)/\Hid (Fill wr la m k q)) (fun i _=>m-(intOf i).toNat)
 case atStart=>exact⟨0,zzF _,rfl,Keeps.refl _,HFI.out _⟩
 case round=>
  obtain⟨k,hk,rfl,HK,HF⟩:=hrel;have hkb:∀x,x<w.heap.size+1->some x≠(Value.slice la m m).ownBlock->wr.heap[x]? = (w.alloc (.cells #[.string ⟨#[]⟩,.int .i64 (-1000-(q:Int)),.int .i64 0] 96)).heap[x]?:=fun x hx hne=>HK.out.block x (by simpa using hx) hne;have hbox:wr.heap[w.heap.size]? = some (.cells #[.string ⟨#[]⟩,.int .i64 (-1000-(q:Int)),.int .i64 0] 96 (0,0)):=by
   rw[hkb w.heap.size (by omega) (fun e=>by have:=(HOL.out _ e.symm).1;omega)];exact heap_alloc_new _ _
  have x0:wr.cell? ⟨w.heap.size,0,none⟩=some (.string ⟨#[]⟩):=by simp[World.cell?,hbox]
  have x1:wr.cell? ⟨w.heap.size,1,none⟩=some (.int .i64 (-1000-(q:Int))):=by simp[World.cell?,hbox]
  have x2:wr.cell? ⟨w.heap.size,2,none⟩=some (.int .i64 0):=by simp[World.cell?,hbox]
  have HBX:Hid _:=hbox;clear hbox;by_cases hlt:k<m
  ·cases la with
   | none=>have:=HC.out.1 rfl;omega
   | some b=>
    obtain⟨g,rest,rfl,hrl,hown⟩:=HF.out b rfl;have hfz:=fun j=>hown.frozenAt j;have hcs:∀j,j<3->∃v,wr.cell? ⟨g,k*3+j,none⟩=some v:=fun j hj=>by
     rw[hown.cellAt (k*3+j) (by omega)];exact⟨_,zzH (by rw[List.length_append,flat_len,List.length_replicate,hrl];omega)⟩
    obtain⟨v0,y0⟩:=hcs 0 (by omega);obtain⟨v1,y1⟩:=hcs 1 (by omega);obtain⟨v2,y2⟩:=hcs 2 (by omega);rw[Nat.add_zero] at y0;have hkm:(k:Int)<(m:Int):=by omega
    have HO:Hid _:=hown;have hgw:g≠w.heap.size:=fun e=>by have:=(HOL.out g rfl).1;omega
    clear hcs hown hkb;go_wp2;go_roundw
    case rel=>
     refine⟨k+1,by omega,by go_num,?_,?_⟩
     ·exact⟨HK.out.os,HK.out.tape,HK.out.output,by simpa using HK.out.size,fun x hx hne=>by
       have hxg:x≠g:=fun e=>hne (by rw[e];rfl);rw[Below.heap_setCell _ _ _ _ hxg,Below.heap_setCell _ _ _ _ hxg,Below.heap_setCell _ _ _ _ hxg];exact HK.out.block x hx hne⟩
     ·intro b hb
      cases hb;refine⟨g,rest.drop 3,rfl,by rw[List.length_drop,hrl];omega,?_⟩
      have:=put3 (n:=k) HO.out (by simp) (by omega) (mkQ q)
      rw[<-List.replicate_succ'] at this;exact this
    case measure=>simp[intOf];omega
  ·have hke:k=m:=by omega
   subst hke;have HFm:Hid (∀b,la=some b->∃g,b=⟨g,0,none⟩/\wr.ownsRow 0 96 3 (.slice la k k) k (flat (List.replicate k (mkQ q)))):=fun b hb=>by
    obtain⟨g,rest,h1,h2,h3⟩:=HF.out b hb
    have:rest = []:=List.eq_nil_of_length_eq_zero (by rw[h2];omega)
    subst this;exact⟨g,h1,by simpa using h3⟩
   have HNO:Hid (la=none->k=0/\k=0):=fun h=>⟨HC.out.1 h,HC.out.1 h⟩;have HLO:Hid ((flat (List.replicate k (mkQ q))).length=k*3):=by show _=_;rw[flat_len,List.length_replicate]
   have HH:Hid (∀W':World,(∀x,x<wr.heap.size->W'.heap[x]? = wr.heap[x]?)->∀b,la=some b->∀j u,(flat (List.replicate k (mkQ q)))[j]? = some u->W'.cell? (b.add j)=some u):=fun W' hW' b hb j u hu=>by
    obtain⟨g,rfl,ho⟩:=HFm.out b hb;subst hb;have h1:=ho.cells (g:=g) rfl j u hu;rw[add_flat] at h1 ⊢;rw[World.cell?_of_block (a:=⟨g,0+j,none⟩) (hW' g (ownsRow_lt ho rfl))];exact h1
   have hlm:((k:Int)<(k:Int))=False:=by simp
   go_wp2_with (at_builtin;refine wpList_append_grows _ rfl (.tmp 27) (.tmp 29) 55 rfl 96 i0 _ 3 32 underlying55 hi hz0 hz1 hz2 rfl (by decide) la k k (flat (List.replicate k (mkQ q))) rfl HNO.out HLO.out (HH.out _ (kb_alloc0 _ _)) ⟨wr.heap.size,0,none⟩ 1 1 (encE (mkQ q)) rfl rfl (item_cells wr (mkQ q) _ _ rfl) (encE_one _) (by omega) (by unfold maxLen;omega) (by omega) ?_);intro va wa hoa hga;obtain⟨ga,ca,rfl⟩:=slice_of_owns hoa (by omega);have hsz:w.heap.size<wr.heap.size:=(Array.getElem?_eq_some_iff.1 HBX.out).1;have BA:Hid (Below wr.heap.size wr wa):=((Below.refl _ _).alloc (zzC _) _).grown hga (by simp) (fun k h=>by cases h);have HOA:Hid (wa.ownsRow (wr.heap.size+1) 96 3 (.slice (some ⟨ga,0,none⟩) (k+1) ca) (k+1) (flat (List.replicate (k+1) (mkQ q)))):=by rw[List.replicate_succ',flat_appendR,flat_one_item];exact hoa
   have xa0:=(BA.out.cell (p:=⟨w.heap.size,0,none⟩) hsz).trans x0;have xa1:=(BA.out.cell (p:=⟨w.heap.size,1,none⟩) hsz).trans x1;have xa2:=(BA.out.cell (p:=⟨w.heap.size,2,none⟩) hsz).trans x2;have sa:wr.heap.size<=wa.heap.size:=BA.out.size;have HWA:Hid (∀o:Obj,∀x,x<wr.heap.size->(wa.alloc o).heap[x]? = wr.heap[x]?):=fun o x hx=>(kb_alloc0 wa o x (by omega)).trans (BA.out.block x hx);clear hga hoa;go_wp2_with (at_builtin;refine wpList_append_grows _ rfl (.tmp 31) (.tmp 34) 55 rfl 96 i0 _ 3 32 underlying55 hi hz0 hz1 hz2 rfl (by decide) la k k (flat (List.replicate k (mkQ q))) rfl HNO.out HLO.out (HH.out _ (HWA.out _)) ⟨wa.heap.size,0,none⟩ 2 2 (flat [mkQ q,mkQ q]) rfl rfl (lit_cells wa (flat [mkQ q,mkQ q]) 96) (flat_one _) (by omega) (by unfold maxLen;omega) (by omega) ?_);intro vb wb hob hgb;obtain⟨gb,cb,rfl⟩:=slice_of_owns hob (by omega);have BB:Hid (Below wa.heap.size wa wb):=((Below.refl _ _).alloc (zzC _) _).grown hgb (by simp) (fun k h=>by cases h);have HOB:Hid (wb.ownsRow (wa.heap.size+1) 96 3 (.slice (some ⟨gb,0,none⟩) (k+2) cb) (k+2) (flat (List.replicate (k+2) (mkQ q)))):=by rw[<-List.replicate_append_replicate,flat_appendR];exact hob
   have xb0:=(BB.out.cell (p:=⟨w.heap.size,0,none⟩) (by show w.heap.size<_;omega)).trans xa0;have xb1:=(BB.out.cell (p:=⟨w.heap.size,1,none⟩) (by show w.heap.size<_;omega)).trans xa1;have xb2:=(BB.out.cell (p:=⟨w.heap.size,2,none⟩) (by show w.heap.size<_;omega)).trans xa2;have sb:wa.heap.size<=wb.heap.size:=BB.out.size;have HWB:Hid (∀o:Obj,∀x,x<wr.heap.size->(wb.alloc o).heap[x]? = wr.heap[x]?):=fun o x hx=>(kb_alloc0 wb o x (by omega)).trans ((BB.out.block x (by omega)).trans (BA.out.block x hx));clear hgb hob xa0 xa1 xa2;go_wp2_with (at_builtin;refine wpList_append_grows _ rfl (.tmp 36) (.tmp 40) 55 rfl 96 i0 _ 3 32 underlying55 hi hz0 hz1 hz2 rfl (by decide) la k k (flat (List.replicate k (mkQ q))) rfl HNO.out HLO.out (HH.out _ (HWB.out _)) ⟨wb.heap.size,0,none⟩ 3 3 (flat [mkQ q,mkQ q,mkQ q]) rfl rfl (lit_cells wb (flat [mkQ q,mkQ q,mkQ q]) 96) (flat_one _) (by omega) (by unfold maxLen;omega) (by omega) ?_);intro vc wc hoc hgc;obtain⟨gc,cc,rfl⟩:=slice_of_owns hoc (by omega);have BC:Hid (Below wb.heap.size wb wc):=((Below.refl _ _).alloc (zzC _) _).grown hgc (by simp) (fun k h=>by cases h);have HOC:Hid (wc.ownsRow (wb.heap.size+1) 96 3 (.slice (some ⟨gc,0,none⟩) (k+3) cc) (k+3) (flat (List.replicate (k+3) (mkQ q)))):=by rw[<-List.replicate_append_replicate,flat_appendR];exact hoc
   have sc:wb.heap.size<=wc.heap.size:=BC.out.size;clear hgc hoc xb0 xb1 xb2;have BR:Hid (Below wr.heap.size wr wc):=(BA.out.trans (BB.out.mono sa)).trans (BC.out.mono (by omega));have hWc:wc.heap[W]? = some (.cells cs 71 (0,0)):=by
    rw[BR.out.block W (by omega),hkb W (by omega) (fun e=>(HOL.out W e.symm).2 rfl),Below.heap_alloc _ _ _ hWl];exact hW
   have HRc:Hid (wc.ownsRow 0 55 1 (.slice ea (4*q) ec) (4*q) (hs.map encH)):=ownsRow_keep HR.out (fun g hg=>by
    have hl:=ownsRow_lt HR.out hg;rw[BR.out.block g (by omega),hkb g (by omega) (fun e=>?_),Below.heap_alloc _ _ _ hl];cases la with
    | none=>cases e
    | some b=>
     obtain⟨g',_,ho⟩:=HFm.out b rfl;obtain⟨cur,hcur⟩:=owns_block HR.out hg;have hlt':=HOL.out g e.symm;obtain⟨g2,xs2,h1,h2⟩:=HC.out.2 b rfl;exact rows_apart HR.out h2 (by decide) hg e)
   have hWcl:W<wc.heap.size:=by omega
   have p9:wc.cell? ⟨W,9,none⟩=some (.slice ea (4*q) ec):=by simp[World.cell?,hWc,h9]
   have f9:wc.frozen? ⟨W,9,none⟩=false:=by simp[World.frozen?,hWc]
   go_wp2_with (at_builtin;refine wpList_append_at rfl (.tmp 46) (.tmp 48) 65 rfl 0 55 iS _ 1 24 underlying65 hS hS0 hS1 hS2 rfl (by decide) (.slice ea (4*q) ec) (4*q) (hs.map encH) rfl (World.ownsRow.alloc HRc.out _) ⟨wc.heap.size,0,none⟩ 1 1 [.slice la k k] rfl rfl (one_cell _ _ _ _ rfl) one_slice (by unfold maxLen;omega) (by omega) (zzF _) ?_);intro v1 w1 ho1 hg1 hloc1;obtain⟨g1,c1,rfl⟩:=slice_of_owns ho1 (by omega);have P1:=push_after (i:=9) hWc HRc.out (by decide) (kb_alloc0 _ _) (by simp) ⟨rfl,rfl,rfl⟩ ho1 hg1 hloc1 (by omega);have hW1:=grown_W hWc (kb_alloc0 _ _) (by simp) hg1 (owns_ne_cells HRc.out hWc (by decide));have s1:wc.heap.size<=w1.heap.size:=by have:=hg1.size;simp at this;omega
   have p91:w1.cell? ⟨W,9,none⟩=some (.slice ea (4*q) ec):=by simp[World.cell?,hW1,h9]
   have f91:w1.frozen? ⟨W,9,none⟩=false:=by simp[World.frozen?,hW1]
   have H1:Hid _:=P1;have hWl1:W<w1.heap.size:=by omega
   clear ho1 hg1 hloc1 P1 hW1 p9 f9;go_wp2_with (at_builtin;refine wpList_append_at rfl (.tmp 56) (.tmp 58) 65 rfl 0 55 iS _ 1 24 underlying65 hS hS0 hS1 hS2 rfl (by decide) (.slice (some ⟨g1,0,none⟩) (4*q+1) c1) (4*q+1) (hs.map encH ++ [.slice la k k]) rfl (World.ownsRow.alloc H1.out.2.1 _) ⟨w1.heap.size,0,none⟩ 1 1 [.slice (some ⟨ga,0,none⟩) (k+1) ca] rfl rfl (one_cell _ _ _ _ (by simp)) one_slice (by unfold maxLen;omega) (by omega) (zzF _) ?_);intro v2 w2 ho2 hg2 hloc2;obtain⟨g2,c2,rfl⟩:=slice_of_owns ho2 (by omega);have ho2':w2.ownsRow 0 55 1 (.slice (some ⟨g2,0,none⟩) (4*q+1+1) c2) (4*q+1+1) (hs.map encH ++ [.slice la k k] ++ [.slice (some ⟨ga,0,none⟩) (k+1) ca]):=by simpa using ho2
   have P2:=push_after (i:=9) H1.out.1 H1.out.2.1 (by decide) (kb_alloc0 _ _) (by simp) ⟨rfl,rfl,rfl⟩ ho2' hg2 hloc2 (by simp);have hW2:=grown_W H1.out.1 (kb_alloc0 _ _) (by simp) hg2 (owns_ne_cells H1.out.2.1 H1.out.1 (by decide));have s2:w1.heap.size<=w2.heap.size:=by have:=hg2.size;simp at this;omega
   have p92:w2.cell? ⟨W,9,none⟩=some (.slice (some ⟨g1,0,none⟩) (4*q+1) c1):=by simp[World.cell?,hW2,h9s]
   have f92:w2.frozen? ⟨W,9,none⟩=false:=by simp[World.frozen?,hW2]
   have H2:Hid _:=P2;have hWl2:W<w2.heap.size:=by omega
   clear ho2 ho2' hg2 hloc2 P2 hW2 p91 f91;go_wp2_with (at_builtin;refine wpList_append_at rfl (.tmp 66) (.tmp 68) 65 rfl 0 55 iS _ 1 24 underlying65 hS hS0 hS1 hS2 rfl (by decide) (.slice (some ⟨g2,0,none⟩) (4*q+1+1) c2) (4*q+1+1) (hs.map encH ++ [.slice la k k] ++ [.slice (some ⟨ga,0,none⟩) (k+1) ca]) rfl (World.ownsRow.alloc H2.out.2.1 _) ⟨w2.heap.size,0,none⟩ 1 1 [.slice (some ⟨gb,0,none⟩) (k+2) cb] rfl rfl (one_cell _ _ _ _ (by simp)) one_slice (by unfold maxLen;omega) (by omega) (zzF _) ?_);intro v3 w3 ho3 hg3 hloc3;obtain⟨g3,c3,rfl⟩:=slice_of_owns ho3 (by omega);have ho3':w3.ownsRow 0 55 1 (.slice (some ⟨g3,0,none⟩) (4*q+1+1+1) c3) (4*q+1+1+1) (hs.map encH ++ [.slice la k k] ++ [.slice (some ⟨ga,0,none⟩) (k+1) ca] ++ [.slice (some ⟨gb,0,none⟩) (k+2) cb]):=by simpa using ho3
   have P3:=push_after (i:=9) H2.out.1 H2.out.2.1 (by decide) (kb_alloc0 _ _) (by simp) ⟨rfl,rfl,rfl⟩ ho3' hg3 hloc3 (by simp);have hW3:=grown_W H2.out.1 (kb_alloc0 _ _) (by simp) hg3 (owns_ne_cells H2.out.2.1 H2.out.1 (by decide));have s3:w2.heap.size<=w3.heap.size:=by have:=hg3.size;simp at this;omega
   have p93:w3.cell? ⟨W,9,none⟩=some (.slice (some ⟨g2,0,none⟩) (4*q+1+1) c2):=by simp[World.cell?,hW3,h9l]
   have f93:w3.frozen? ⟨W,9,none⟩=false:=by simp[World.frozen?,hW3]
   have H3:Hid _:=P3;have hWl3:W<w3.heap.size:=by omega
   clear ho3 ho3' hg3 hloc3 P3 hW3 p92 f92;go_wp2_with (at_builtin;refine wpList_append_at rfl (.tmp 76) (.tmp 78) 65 rfl 0 55 iS _ 1 24 underlying65 hS hS0 hS1 hS2 rfl (by decide) (.slice (some ⟨g3,0,none⟩) (4*q+1+1+1) c3) (4*q+1+1+1) (hs.map encH ++ [.slice la k k] ++ [.slice (some ⟨ga,0,none⟩) (k+1) ca] ++ [.slice (some ⟨gb,0,none⟩) (k+2) cb]) rfl (World.ownsRow.alloc H3.out.2.1 _) ⟨w3.heap.size,0,none⟩ 1 1 [.slice (some ⟨gc,0,none⟩) (k+3) cc] rfl rfl (one_cell _ _ _ _ (by simp)) one_slice (by unfold maxLen;omega) (by omega) (zzF _) ?_);intro v4 w4 ho4 hg4 hloc4;obtain⟨g4,c4,rfl⟩:=slice_of_owns ho4 (by omega);have ho4':w4.ownsRow 0 55 1 (.slice (some ⟨g4,0,none⟩) (4*q+1+1+1+1) c4) (4*q+1+1+1+1) (hs.map encH ++ [.slice la k k] ++ [.slice (some ⟨ga,0,none⟩) (k+1) ca] ++ [.slice (some ⟨gb,0,none⟩) (k+2) cb] ++ [.slice (some ⟨gc,0,none⟩) (k+3) cc]):=by simpa using ho4
   have P4:=push_after (i:=9) H3.out.1 H3.out.2.1 (by decide) (kb_alloc0 _ _) (by simp) ⟨rfl,rfl,rfl⟩ ho4' hg4 hloc4 (by simp);have hW4:=grown_W H3.out.1 (kb_alloc0 _ _) (by simp) hg4 (owns_ne_cells H3.out.2.1 H3.out.1 (by decide));have p94:w4.cell? ⟨W,9,none⟩=some (.slice (some ⟨g3,0,none⟩) (4*q+1+1+1) c3):=by simp[World.cell?,hW4,h9l]
   have f94:w4.frozen? ⟨W,9,none⟩=false:=by simp[World.frozen?,hW4]
   have H4:Hid _:=P4;clear ho4 ho4' hg4 hloc4 P4 hW4 p93 f93;have HKC:Hid (Keeps (fun x=>x=W\/some x=(Value.slice ea (4*q) ec).ownBlock\/some x=(Value.slice la k k).ownBlock) w wc):=by
    have z:=HK.out.size;simp at z;exact⟨BR.out.os.trans HK.out.os,BR.out.tape.trans HK.out.tape,BR.out.output.trans HK.out.output,by have:=BR.out.size;omega,fun x hx hne=>by rw[BR.out.block x (by omega),hkb x (by omega) (fun e=>hne (.inr (.inr e))),Below.heap_alloc _ _ _ hx]⟩
   have T1:=stage_next hWc HRc.out (fun x hx=>.inl hx.symm) HKC.out H1.out;have T2:=stage_next H1.out.1 H1.out.2.1 T1.1 T1.2.1 H2.out;have T3:=stage_next H2.out.1 H2.out.2.1 T2.1 T2.2.1 H3.out;have T4:=stage_next H3.out.1 H3.out.2.1 T3.1 T3.2.1 H4.out;have HALL:Hid (KeptOne w (w4.setCell ⟨W,9,none⟩ (.slice (some ⟨g4,0,none⟩) (4*q+1+1+1+1) c4)) W q cs ea ec la k hs):=by
    have all:∀{b:Nat} {v:Value} {l:Nat} {ys:List Value},wc.ownsRow b 96 3 v l ys->(w4.setCell ⟨W,9,none⟩ (.slice (some ⟨g4,0,none⟩) (4*q+1+1+1+1) c4)).ownsRow b 96 3 v l ys:=fun h=>T4.2.2 (T3.2.2 (T2.2.2 (T1.2.2 h)));refine⟨g4,c4,ga,ca,gb,cb,gc,cc,?_,?_,fun b hb=>?_,?_,?_,?_,T4.1 g4 rfl,T4.2.1⟩
    ·have:=H4.out.1
     simpa using this
    ·have:=H4.out.2.1
     simpa [encH] using this
    ·obtain⟨g,h1,h2⟩:=HFm.out b hb
     exact⟨g,h1,all (ownsRow_keep h2 (fun x hx=>BR.out.block x (ownsRow_lt h2 hx)))⟩
    ·have h:=HOA.out
     exact owns_mono (all (ownsRow_keep h (fun x hx=>by
      have hl:=ownsRow_lt h hx;rw[BC.out.block x (by omega),BB.out.block x hl]))) (by omega)
    ·have h:=HOB.out
     exact owns_mono (all (ownsRow_keep h (fun x hx=>BC.out.block x (ownsRow_lt h hx)))) (by omega)
    ·exact owns_mono (all HOC.out) (by omega)
   clear T1 T2 T3 T4;go_wp2;go_end0;exact⟨rfl,HALL.out⟩
def Twin (objs ros:List Ob):Prop:=objs.length=ros.length/\(∀i (h1:i<objs.length) (h2:i<ros.length),AlikeR objs[i] ros[i])/\∀o ∈ objs,o.kind=1\/o.kind=2
theorem findIdx_twin {α β:Type}(p:α->Bool)(q:β->Bool):∀(xs:List α) (ys:List β),xs.length=ys.length->(∀i (h1:i<xs.length) (h2:i<ys.length),p xs[i]=q ys[i])->xs.findIdx? p=ys.findIdx? q
 | [],[],_,_=>rfl
 | [],_ :: _,h,_=>by simp at h
 | _ :: _,[],h,_=>by simp at h
 | x :: xs,y :: ys,h,hp=>by
  have h0:=hp 0 (by simp) (by simp)
  simp only[List.getElem_cons_zero] at h0
  rw[List.findIdx?_cons,List.findIdx?_cons,h0,findIdx_twin p q xs ys (by simpa using h) (fun i h1 h2=>by have:=hp (i+1) (by simpa using h1) (by simpa using h2);simpa using this)]
theorem toItem_inj {a b:Ent}(h:toItem a=toItem b):a=b:=by
 unfold toItem at h;simp only[Prod.mk.injEq] at h;obtain⟨h1,h2,h3⟩:=h;exact Prod.ext h1 (Prod.ext h2 (by omega))
theorem map_inj_list {α β:Type}(f:α->β)(hf:∀a b,f a=f b->a=b):∀(xs ys:List α),xs.map f=ys.map f->xs=ys
 | [],[],_=>rfl
 | [],_ :: _,h=>by simp at h
 | _ :: _,[],h=>by simp at h
 | x :: xs,y :: ys,h=>by
  simp only[List.map_cons,List.cons.injEq] at h
  rw[hf x y h.1,map_inj_list f hf xs ys h.2]
theorem file_twin {objs ros:List Ob}(h:Twin objs ros)(d:ByteArray):findAt ros (fileOb d)=fileAt objs d:=by
 refine (findIdx_twin _ _ objs ros h.1 fun i h1 h2=>?_).symm;have a:=h.2.1 i h1 h2;unfold sameB fileOb;by_cases hk:objs[i].kind=1
 ·rw[a.kind,hk,a.data hk,a.none hk];simp
 ·rw[a.kind];simp[hk]
theorem dir_twin {objs ros:List Ob}(h:Twin objs ros)(v:Option Addr×Nat)(m:Nat)(es:List Ent):findAt ros (dirR v m (es.map toItem))=dirAt objs es:=by
 refine (findIdx_twin _ _ objs ros h.1 fun i h1 h2=>?_).symm;have a:=h.2.1 i h1 h2;unfold sameB dirR;by_cases hk:objs[i].kind=2
 ·rw[a.kind,hk,a.empty hk,a.ents hk]
  have:decide (objs[i].ents.map toItem=es.map toItem)=decide (objs[i].ents=es):=by
   by_cases e:objs[i].ents=es
   ·rw[e];simp
   ·rw[zzE e,zzE (fun h=>e (map_inj_list toItem (fun a b=>toItem_inj) _ _ h))]
  rw[this];simp
 ·rw[a.kind];simp[hk]
theorem mem_tw {α:Type}(p:α->Bool):∀(l:List α) {y:α},y ∈ l.takeWhile p->p y=true
 | [],y,h=>by cases h
 | x :: l,y,h=>by
  cases hx:p x with
  | true=>
   rw[List.takeWhile_cons_of_pos hx] at h
   rcases List.mem_cons.1 h with rfl | h
   ·exact hx
   ·exact mem_tw p l h
  | false=>
   rw[List.takeWhile_cons_of_neg (by simp[hx])] at h
   cases h
theorem rising_insE {out:List Ent}{x:Ent}(h:Rising out)(hx:∀y ∈ out,y.1≠x.1):Rising (insE out x):=by
 unfold insE;have hsplit:=List.takeWhile_append_dropWhile (p:=fun y:Ent=>lessB y.1 x.1) (l:=out);have hpw:Rising (out.takeWhile (fun y=>lessB y.1 x.1)++out.dropWhile (fun y=>lessB y.1 x.1)):=by rw[hsplit];exact h
 obtain⟨p1,p2,p3⟩:=List.pairwise_append.1 hpw;have low:∀y ∈ out.takeWhile (fun y=>lessB y.1 x.1),cfE y x<0:=fun y hy=>by
  have:=mem_tw _ _ hy
  unfold lessB at this;exact of_decide_eq_true this
 have high:∀y ∈ out.dropWhile (fun y=>lessB y.1 x.1),cfE x y<0:=by
  cases hd:out.dropWhile (fun y=>lessB y.1 x.1) with
  | nil=>intro y hy;cases hy
  | cons z zs=>
   have hz:lessB z.1 x.1=false:=by
    have:=List.head?_dropWhile_not (p:=fun y:Ent=>lessB y.1 x.1) out
    rw[hd] at this;simpa using this
   have hzm:z ∈ out:=by rw[<-hsplit,hd];simp
   have hxz:cfE x z<0:=by
    unfold cfE;unfold lessB at hz;have hn:=of_decide_eq_false hz;have hsw:=cmp_swap z.1.data.toList x.1.data.toList;by_cases h0:Lib.compareBytes z.1.data.toList x.1.data.toList=0
    ·exact absurd (bytes_inj (cmp_eq_zero _ _ h0)) (hx z hzm)
    ·omega
   intro y hy;rcases List.mem_cons.1 hy with rfl | hy
   ·exact hxz
   ·rw[hd] at p2
    exact cmp_trans _ _ _ hxz ((List.pairwise_cons.1 p2).1 y hy)
 refine List.pairwise_append.2 ⟨p1,List.pairwise_cons.2 ⟨high,p2⟩,fun a ha b hb=>?_⟩;rcases List.mem_cons.1 hb with rfl | hb
 ·exact low a ha
 ·exact p3 a ha b hb
theorem rising_insAll_aux:∀(ls out:List Ent),Rising out->((ls++out).map (·.1)).Nodup->Rising (ls.foldl insE out)
 | [],out,h,_=>h
 | x :: r,out,h,hn=>by
  rw[List.foldl_cons]
  have hn':(x.1 :: ((r++out).map (·.1))).Nodup:=by simpa using hn
  obtain⟨n1,n2⟩:=List.nodup_cons.1 hn'
  refine rising_insAll_aux r (insE out x) (rising_insE h fun y hy e=>n1 (by rw[<-e];exact List.mem_map_of_mem (List.mem_append_right _ hy))) ?_
  have hp:(r++insE out x).Perm (x :: (r++out)):=((insE_perm out x).append_left r).trans List.perm_middle
  exact (hp.map (·.1)).nodup_iff.2 (by simpa using hn')
theorem rising_insAll {ls:List Ent}(hn:(ls.map (·.1)).Nodup):Rising (insAll ls):=rising_insAll_aux ls [] List.Pairwise.nil (by simpa using hn)
theorem rising_unique:∀{xs ys:List Ent},Rising xs->Rising ys->xs.Perm ys->xs=ys
 | [],ys,_,_,h=>(List.nil_perm.1 h).symm ▸ rfl
 | x :: xs,[],_,_,h=>by have:=h.length_eq;simp at this
 | x :: xs,y :: ys,hx,hy,h=>by
  have irr:∀a:Ent,¬cfE a a<0:=fun a=>by unfold cfE;rw[cmp_self];omega
  obtain⟨x1,x2⟩:=List.pairwise_cons.1 hx
  obtain⟨y1,y2⟩:=List.pairwise_cons.1 hy
  have e:x=y:=by
   have hxm:x ∈ y :: ys:=h.mem_iff.1 (List.mem_cons_self ..);have hym:y ∈ x :: xs:=h.mem_iff.2 (List.mem_cons_self ..);rcases List.mem_cons.1 hxm with e | hxm
   ·exact e
   ·rcases List.mem_cons.1 hym with e | hym
    ·exact e.symm
    ·have a:=y1 x hxm
     have b:=x1 y hym;exact absurd (cmp_trans _ _ _ a b) (irr y)
  subst e;rw[rising_unique x2 y2 (List.Perm.cons_inv h)]
def toAt (n:Nat)(e:Ent):Ent:=(e.1,e.2.1,if 1<=e.2.2/\e.2.2<=(n:Int) then e.2.2-1 else -1)
theorem toAt_in {n:Nat}{e:Ent}(h:1<=e.2.2/\e.2.2<=(n:Int)):toAt n e=toItem e:=by unfold toAt toItem;rw[zzD h]
theorem kinds_pos {objs ros:List Ob}(h:Twin objs ros){j:Nat}(hj:j<objs.length):objs[j].kind≠0:=by
 rcases h.2.2 _ (zzJ hj) with e | e <;> rw[e] <;> decide
theorem good_twin {objs ros:List Ob}(h:Twin objs ros)(e:Ent):rgood ros (toAt objs.length e)=goodE objs e:=by
 unfold rgood goodE toAt;by_cases hr:1<=e.2.2/\e.2.2<=(objs.length:Int)
 ·obtain⟨j,hj⟩:∃j:Nat,e.2.2=(j:Int)+1:=⟨(e.2.2-1).toNat,by omega⟩
  have hjl:j<objs.length:=by omega
  have hjr:j<ros.length:=by rw[<-h.1];exact hjl
  simp only[hr,and_self,if_true];rw[hj,kindOf_in hjl,show ((j:Int)+1-1)=(j:Int) by omega,Int.toNat_natCast,zzH hjr];have hk:=(h.2.1 j hjl hjr).kind;have h0:=kinds_pos h hjl;simp only[Option.map_some,Option.getD_some,hk];rw[decide_eq_true (by omega)];have hz:(objs[j].kind == 0)=false:=by simpa using h0
  rw[hz];by_cases hke:objs[j].kind=e.2.1
  ·rw[decide_eq_true hke,beq_iff_eq.2 hke];rfl
  ·rw[zzE hke,beq_false_of_ne hke];rfl
 ·rw[zzB hr,kindOf_out (by omega)]
  simp
theorem good_range {objs:List Ob}{e:Ent}(h:goodE objs e=true):1<=e.2.2/\e.2.2<=(objs.length:Int):=by
 by_cases hid:e.2.2<1\/(objs.length:Int)<e.2.2
 ·unfold goodE at h;rw[kindOf_out hid] at h;simp at h
 ·omega
theorem high_twin {objs ros:List Ob}(h:Twin objs ros){e:Ent}(hg:goodE objs e=true):rhigh ros (toAt objs.length e)=highOf objs e.2.2:=by
 have hr:=good_range hg;obtain⟨j,hj⟩:∃j:Nat,e.2.2=(j:Int)+1:=⟨(e.2.2-1).toNat,by omega⟩;have hjl:j<objs.length:=by omega
 have hjr:j<ros.length:=by rw[<-h.1];exact hjl
 unfold rhigh toAt;simp only[hr,and_self,if_true];rw[hj,highOf_in hjl,show ((j:Int)+1-1)=(j:Int) by omega,Int.toNat_natCast,zzH hjr];exact (h.2.1 j hjl hjr).high
theorem highs_twin {objs ros:List Ob}(h:Twin objs ros):∀(es:List Ent) (a:Int),(∀e ∈ es,goodE objs e=true)->(es.map (toAt objs.length)).foldl (fun h e=>max h (1+rhigh ros e)) a=es.foldl (fun h e=>max h (1+highOf objs e.2.2)) a
 | [],_,_=>rfl
 | e :: r,a,hg=>by
  simp only[List.map_cons,List.foldl_cons]
  rw[high_twin h (hg e (List.mem_cons_self ..))]
  exact highs_twin h r _ (fun x hx=>hg x (List.mem_cons_of_mem _ hx))
theorem names_at (n:Nat)(ls:List Ent):(ls.map (toAt n)).map (·.1)=ls.map (·.1):=by
 rw[List.map_map];rfl
def Agreed (objs objs' ros ros':List Ob)(id ec x y:Int):Prop:=
 ec=y/\Twin objs' ros'/\((y≠0/\id=0/\objs'=objs/\ros'=ros)\/(y=0/\∃j:Nat,x=(j:Int)/\id=(j:Int)+1/\((objs'=objs/\ros'=ros/\j<objs.length)\/(j=objs.length/\objs'.length=objs.length+1))))
theorem twin_snoc {objs ros:List Ob}(h:Twin objs ros){o x:Ob}(ha:AlikeR o x)(hk:o.kind=1\/o.kind=2):Twin (objs ++ [o]) (ros ++ [x]):=by
 refine⟨by simp[h.1],fun i h1 h2=>?_,fun y hy=>?_⟩
 ·by_cases hi:i<objs.length
  ·rw[List.getElem_append_left hi,List.getElem_append_left (by rw[<-h.1];exact hi)]
   exact h.2.1 i hi _
  ·have e:i=objs.length:=by simp at h1;omega
   subst e;have e1:(objs ++ [o])[objs.length]=o:=by simp
   have e2:(ros ++ [x])[objs.length]'h2=x:=by simp[h.1]
   rw[e1,e2];exact ha
 ·rcases List.mem_append.1 hy with hy | hy
  ·exact h.2.2 y hy
  ·rw[List.mem_singleton.1 hy];exact hk
theorem find_lt {objs:List Ob}{p:Ob->Bool}{i:Nat}(h:objs.findIdx? p=some i):i<objs.length:=(List.findIdx?_eq_some_iff_getElem.1 h).1
theorem agree_file {objs objs' ros ros':List Ob}{d:ByteArray}{e:Ending}{x y:Int}(h:Twin objs ros)(hf:FilePut objs objs' d e)(hr:RFilePut ros ros' d x y):
  ∃id ec,e=.returned (.tuple #[.int .i64 id,.int .i64 ec])/\Agreed objs objs' ros ros' id ec x y:=by
 have ht:=file_twin h d;rcases hf with ⟨h1,h2,h3⟩ | ⟨h1,h2,i,h3,h4⟩ | ⟨h1,h2,h3,h4,h5⟩ | ⟨h1,h2,h3,h4,h5⟩
 ·rcases hr with ⟨_,r2,r3,r4⟩ | ⟨r1,_⟩
  ·subst h2 r2 r3 r4
   exact⟨_,_,h3,rfl,h,.inl ⟨by decide,rfl,rfl,rfl⟩⟩
  ·omega
 ·rcases hr with ⟨r1,_⟩ | ⟨_,⟨k,r1,r2,r3,r4⟩ | ⟨r1,_⟩ | ⟨r1,_⟩⟩
  ·omega
  ·rw[ht,h3] at r1
   cases r1;subst h2 r2 r3 r4;exact⟨_,_,h4,rfl,h,.inr ⟨rfl,i,rfl,rfl,.inl ⟨rfl,rfl,find_lt h3⟩⟩⟩
  ·rw[ht,h3] at r1;cases r1
  ·rw[ht,h3] at r1;cases r1
 ·rcases hr with ⟨r1,_⟩ | ⟨_,⟨k,r1,r2,r3,r4⟩ | ⟨r1,r2,r3,r4,r5⟩ | ⟨r1,r2,_⟩⟩
  ·omega
  ·rw[ht,h2] at r1;cases r1
  ·subst h4 r3 r4 r5
   exact⟨_,_,h5,rfl,h,.inl ⟨by decide,rfl,rfl,rfl⟩⟩
  ·have:=h.1;omega
 ·rcases hr with ⟨r1,_⟩ | ⟨_,⟨k,r1,r2,r3,r4⟩ | ⟨r1,r2,_⟩ | ⟨r1,r2,r3,r4,r5⟩⟩
  ·omega
  ·rw[ht,h2] at r1;cases r1
  ·have:=h.1;omega
  ·subst h4 r3 r4 r5
   refine⟨_,_,h5,rfl,twin_snoc h ⟨rfl,fun _=>rfl,fun h=>absurd h (show ¬(1:Int)=2 by decide),rfl,fun _=>rfl,fun h=>absurd h (show ¬(1:Int)=2 by decide)⟩ (.inl rfl),.inr ⟨rfl,objs.length,by rw[h.1],rfl,.inr ⟨rfl,by simp⟩⟩⟩
theorem agree_dir {objs objs' ros ros':List Ob}{ls:List Ent}{e:Ending}{x y:Int}(h:Twin objs ros)(hf:DirPutG objs objs' ls e)(hr:RDirPut ros ros' (ls.map (toAt objs.length)) x y):
  ∃id ec,e=.returned (.tuple #[.int .i64 id,.int .i64 ec])/\Agreed objs objs' ros ros' id ec x y:=by
 have nm:=names_at objs.length ls;have val:(∃e ∈ ls.map (toAt objs.length),validB e.1=false) ↔ ∃e ∈ ls,validB e.1=false:=by
  constructor
  ·rintro ⟨e,he,hv⟩
   obtain⟨a,ha,rfl⟩:=List.mem_map.1 he;exact⟨a,ha,hv⟩
  ·rintro ⟨a,ha,hv⟩
   exact⟨_,List.mem_map_of_mem ha,hv⟩
 have gd:(∃e ∈ ls.map (toAt objs.length),rgood ros e=false) ↔ ∃e ∈ ls,goodE objs e=false:=by
  constructor
  ·rintro ⟨e,he,hv⟩
   obtain⟨a,ha,rfl⟩:=List.mem_map.1 he;exact⟨a,ha,by rw[<-good_twin h];exact hv⟩
  ·rintro ⟨a,ha,hv⟩
   exact⟨_,List.mem_map_of_mem ha,by rw[good_twin h];exact hv⟩
 have ln:(ls.map (toAt objs.length)).length=ls.length:=List.length_map ..;have nov:∀{P:Ent->Bool} {l:List Ent},(∀e ∈ l,P e=true)->¬ ∃e ∈ l,P e=false:=fun h1 ⟨e,he,hv⟩=>by rw[h1 e he] at hv;cases hv
 unfold RDirPut at hr;rw[nm,ln,val,gd] at hr;rcases hf with ⟨f1,f2,f3⟩ | ⟨f1,hf⟩
 ·rcases hr with ⟨_,r2,r3,r4⟩ | ⟨r1,_⟩
  ·subst f2 r2 r3 r4
   exact⟨_,_,f3,rfl,h,.inl ⟨by decide,rfl,rfl,rfl⟩⟩
  ·exact absurd (val.2 f1) (nov r1)
 ·rcases hr with ⟨r1,_⟩ | ⟨_,hr⟩
  ·exact absurd r1 (nov f1)
  ·rcases hf with ⟨g1,g2,g3⟩ | ⟨g1,g2,g3,g4⟩ | ⟨g1,g2,g3,g4,g5⟩ | ⟨g1,g2,g3,es',gp,grs,gnm,hg⟩
   ·rcases hr with ⟨_,r2,r3,r4⟩ | ⟨r1,_⟩ | ⟨r1,_⟩ | ⟨r1,_⟩ | ⟨r1,_⟩
    ·subst g2 r2 r3 r4
     exact⟨_,_,g3,rfl,h,.inl ⟨by decide,rfl,rfl,rfl⟩⟩
    all_goals exact absurd r1 g1
   ·rcases hr with ⟨r1,_⟩ | ⟨_,_,r2,r3,r4⟩ | ⟨_,r1,_⟩ | ⟨_,r1,_⟩ | ⟨_,r1,_⟩
    ·exact absurd g1 r1
    ·subst g3 r2 r3 r4
     exact⟨_,_,g4,rfl,h,.inl ⟨by decide,rfl,rfl,rfl⟩⟩
    all_goals omega
   ·rcases hr with ⟨r1,_⟩ | ⟨_,r1,_⟩ | ⟨_,_,_,r2,r3,r4⟩ | ⟨_,_,r1,_⟩ | ⟨_,_,r1,_⟩
    ·exact absurd g1 r1
    ·omega
    ·subst g4 r2 r3 r4
     exact⟨_,_,g5,rfl,h,.inl ⟨by decide,rfl,rfl,rfl⟩⟩
    all_goals exact absurd (gd.2 g3) (nov r1)
   ·have hgp:∀z ∈ es',goodE objs z=true:=fun z hz=>g3 z (gp.mem_iff.1 hz)
    have hhi:rhighs ros (ls.map (toAt objs.length))=highs objs es':=by
     rw[rhighs_perm ros (gp.map (toAt objs.length)).symm];exact highs_twin h es' 0 hgp
    have hmap:es'.map (toAt objs.length)=es'.map toItem:=List.map_congr_left fun z hz=>toAt_in (good_range (hgp z hz));have hris:Rising (es'.map toItem):=List.pairwise_map.2 (grs.imp fun h=>h);have hins:insAll (ls.map (toAt objs.length))=es'.map toItem:=by
     refine rising_unique (rising_insAll (by rw[nm];exact g1)) hris ?_;rw[<-hmap];exact (insAll_perm _).trans (gp.map _).symm
    have hdt:=fun v m=>dir_twin h v m es';rcases hr with ⟨r1,_⟩ | ⟨_,r1,_⟩ | ⟨_,_,r1,_⟩ | ⟨_,_,_,r1,r2,r3,r4⟩ | ⟨_,_,_,r1,v,z,rp,rz⟩
    ·exact absurd g1 r1
    ·omega
    ·exact absurd r1 (nov g3)
    ·rw[hhi] at r1
     rcases hg with ⟨k1,k2,k3⟩ | ⟨k1,_⟩ | ⟨k1,_⟩ | ⟨k1,_⟩
     ·subst k2 r2 r3 r4
      exact⟨_,_,k3,rfl,h,.inl ⟨by decide,rfl,rfl,rfl⟩⟩
     all_goals omega
    ·rw[hhi] at r1
     rw[hins] at rp;unfold RPutG at rp;rw[hdt] at rp;rcases hg with ⟨k1,_⟩ | ⟨k1,k2,i,k3,k4⟩ | ⟨k1,k2,k3,k4,k5⟩ | ⟨k1,k2,k3,⟨o,o1,o2,o3,o4⟩,k5⟩
     ·omega
     ·rcases rp with ⟨j,p1,p2,p3⟩ | ⟨p1,_⟩ | ⟨p1,_⟩
      ·rw[k3] at p1
       cases p1;rcases rz with ⟨z1,_⟩ | ⟨_,z2,z3⟩
       ·omega
       ·subst k2 p2 z3
        exact⟨_,_,k4,rfl,h,.inr ⟨rfl,i,by omega,rfl,.inl ⟨rfl,rfl,find_lt k3⟩⟩⟩
      ·rw[k3] at p1;cases p1
      ·rw[k3] at p1;cases p1
     ·rcases rp with ⟨j,p1,_⟩ | ⟨p1,p2,p3,p4⟩ | ⟨p1,p2,_⟩
      ·rw[k2] at p1;cases p1
      ·rcases rz with ⟨_,z2,z3⟩ | ⟨z1,_⟩
       ·subst k4 p3 z2 z3
        exact⟨_,_,k5,rfl,h,.inl ⟨by decide,rfl,rfl,rfl⟩⟩
       ·omega
      ·have:=h.1;omega
     ·rcases rp with ⟨j,p1,_⟩ | ⟨p1,p2,_⟩ | ⟨p1,p2,p3,p4⟩
      ·rw[k2] at p1;cases p1
      ·have:=h.1;omega
      ·rcases rz with ⟨z1,_⟩ | ⟨_,z2,z3⟩
       ·omega
       ·subst o4 p3 z3
        refine⟨_,_,k5,rfl,twin_snoc h ⟨o1.symm,fun h=>by rw[o1] at h;exact absurd h (by decide),fun _=>by rw[o2];rfl,?_,fun h=>by rw[o1] at h;exact absurd h (by decide),fun _=>rfl⟩ (.inr o1),.inr ⟨rfl,objs.length,by rw[z2,p4,h.1],rfl,.inr ⟨rfl,by simp⟩⟩⟩;show rhighs ros (es'.map toItem)=o.high;rw[o3,<-hhi,<-hmap];exact rhighs_perm ros (gp.map _)
variable {ft:PTp}
structure Sep (w:World)(FL FR FS:Nat->Prop):Prop where
 ll:∀k,FL k->k<w.heap.size
 rl:∀k,FR k->k<w.heap.size/\¬FL k
 sl:∀k,FS k->k<w.heap.size/\¬FL k
 rs:∀k,FR k->¬FS k
structure W3 (ft:PTp)(FL FR FS:Nat->Prop)(w:World)(W s r:Nat)(objs ros:List Ob)(c5 c6 c7 c8 c9 c10 c11:Value):Prop where
 law:LawS FL w W s r objs.length c5 c6 c7 c8 c9 c10 c11
 ref:RefInv FR w r ros
 sto:InvQ ft FS w s objs
 twin:Twin objs ros
 at_:Below0 ros
 sep:Sep w FL FR FS
theorem Sep.below {w w':World}{FL FR FS:Nat->Prop}(h:Sep w FL FR FS)(hb:w.heap.size<=w'.heap.size):Sep w' FL FR FS:=
 ⟨fun k hk=>zzA (h.ll k hk) hb,fun k hk=>⟨zzA (h.rl k hk).1 hb,(h.rl k hk).2⟩,fun k hk=>⟨zzA (h.sl k hk).1 hb,(h.sl k hk).2⟩,h.rs⟩
theorem LawS.keep {F F':Nat->Prop}{w w':World}{W s r n:Nat}{c5 c6 c7 c8 c9 c10 c11:Value}(h:LawS F w W s r n c5 c6 c7 c8 c9 c10 c11)(hF:∀k,F k->F' k)(hk:∀k,F k->w'.heap[k]? = w.heap[k]?):LawS F' w' W s r n c5 c6 c7 c8 c9 c10 c11:=by
 obtain⟨ia,ka,pa,ic,kc,pc,paths,hl,hp⟩:=h;exact⟨ia,ka,pa,ic,kc,pc,paths,hl.keep hF hk,hp⟩
section
variable {FL FR FS:Nat->Prop}{w:World}{W s r:Nat}{objs ros objs' ros':List Ob}{c5 c6 c7 c8 c9 c10 c11:Value}
theorem W3.below {w':World}(h:W3 ft FL FR FS w W s r objs ros c5 c6 c7 c8 c9 c10 c11)(hb:Below w.heap.size w w'):W3 ft FL FR FS w' W s r objs ros c5 c6 c7 c8 c9 c10 c11:=
 ⟨h.law.keep (fun _ h=>h) (fun k hk=>hb.block k (h.sep.ll k hk)),h.ref.keep (fun _ h=>h) (fun k hk=>hb.block k (h.sep.rl k hk).1),InvQ.keep h.sto (fun _ h=>h) (fun k hk=>hb.block k (h.sep.sl k hk).1),h.twin,h.at_,h.sep.below hb.size⟩
def F3 (FL FR FS:Nat->Prop)(k:Nat):Prop:=FL k\/FR k\/FS k
def Sub3 (FL FR FS FL' FR' FS':Nat->Prop)(n:Nat):Prop:=∀k,(FL' k->FL k\/n<=k)/\(FR' k->FR k\/n<=k)/\(FS' k->FS k\/n<=k)
theorem Sub3.all {FL FR FS FL' FR' FS':Nat->Prop}{n:Nat}(h:Sub3 FL FR FS FL' FR' FS' n):∀k,F3 FL' FR' FS' k->F3 FL FR FS k\/n<=k:=by
 rintro k (e | e | e)
 ·exact ((h k).1 e).imp .inl id
 ·exact ((h k).2.1 e).imp (fun x=>.inr (.inl x)) id
 ·exact ((h k).2.2 e).imp (fun x=>.inr (.inr x)) id
theorem Sub3.refl {FL FR FS:Nat->Prop}{n:Nat}:Sub3 FL FR FS FL FR FS n:=fun k=>⟨.inl,.inl,.inl⟩
theorem Sub3.mono {FL FR FS FL' FR' FS':Nat->Prop}{n m:Nat}(h:Sub3 FL FR FS FL' FR' FS' n)(hm:m<=n):Sub3 FL FR FS FL' FR' FS' m:=fun k=>⟨fun e=>((h k).1 e).imp id (zzG hm),fun e=>((h k).2.1 e).imp id (zzG hm),fun e=>((h k).2.2 e).imp id (zzG hm)⟩
theorem learn_step (hl:LawS FL w W s r objs.length c5 c6 c7 c8 c9 c10 c11)(hr:RefInv FR w r ros')(hs:InvQ ft FS w s objs')(hsep:Sep w FL FR FS)(hat:Below0 ros'){id ec x y:Int}(ha:Agreed objs objs' ros ros' id ec x y)(hy:y=0)(hlen:objs.length=ros.length):
  Calls prog 37 #[.pointer (some ⟨W,0,none⟩),.int .i64 x,.int .i64 id] w fun e w'=>e=.returned (.bool true)/\W3 ft (NewF FL w w') FR FS w' W s r objs' ros' c5 c6 c7 c8 c9 c10 c11/\Keeps FL w w':=by
 obtain⟨_,ht,h | ⟨_,j,rfl,rfl,h⟩⟩:=ha
 ·exact absurd hy h.1
 ·have sep':∀w':World,Keeps FL w w'->Sep w' (NewF FL w w') FR FS:=fun w' hk=>⟨fun k hk'=>by rcases hk' with h | h;exact zzA (hsep.ll k h) hk.size;exact h.2,
   fun k hk'=>⟨zzA (hsep.rl k hk').1 hk.size,fun h=>by rcases h with h | h;exact (hsep.rl k hk').2 h;have:=(hsep.rl k hk').1;omega⟩,
   fun k hk'=>⟨zzA (hsep.sl k hk').1 hk.size,fun h=>by rcases h with h | h;exact (hsep.sl k hk').2 h;have:=(hsep.sl k hk').1;omega⟩,hsep.rs⟩
  rcases h with ⟨rfl,rfl,hj⟩ | ⟨rfl,hl'⟩
  ·refine (learns_known hl hr hsep.rl hlen.symm hat j hj).mono fun e w' ⟨he,hls,hk⟩=>⟨he,⟨hls,ref_stays hr hsep.rl hk,InvQ.keep hs (fun _ h=>h) (fun k hk'=>hk.block k (hsep.sl k hk').1 (hsep.sl k hk').2),ht,hat,sep' w' hk⟩,hk⟩
  ·have hrl:ros'.length=objs.length+1:=by rw[<-ht.1,hl']
   refine (learns_new hl hr hs hsep.rl hsep.sl hsep.ll hrl hl' hat (ht.2.1 objs.length (by omega) (by omega))).mono fun e w' ⟨he,hls,hk⟩=>⟨he,⟨?_,ref_stays hr hsep.rl hk,InvQ.keep hs (fun _ h=>h) (fun k hk'=>hk.block k (hsep.sl k hk').1 (hsep.sl k hk').2),ht,hat,sep' w' hk⟩,hk⟩;rw[hl'];exact hls
theorem below_snoc {ros:List Ob}{x:Ob}(h:Below0 ros)(hx:∀e ∈ x.ents,0<=e.2.2/\e.2.2<(ros.length:Int)):Below0 (ros ++ [x]):=by
 intro i hi e he;by_cases hlt:i<ros.length
 ·rw[List.getElem_append_left hlt] at he
  exact h i hlt e he
 ·have ei:i=ros.length:=by simp at hi;omega
  subst ei;rw[List.getElem_append_right (zzC _)] at he;simp at he;exact hx e he
theorem below_file {ros ros':List Ob}{d:ByteArray}{x y:Int}(h:Below0 ros)(hr:RFilePut ros ros' d x y):Below0 ros':=by
 rcases hr with ⟨_,rfl,_⟩ | ⟨_,⟨_,_,rfl,_⟩ | ⟨_,_,rfl,_⟩ | ⟨_,_,rfl,_⟩⟩
 ·exact h
 ·exact h
 ·exact h
 ·exact below_snoc h (fun e he=>by cases he)
theorem below_dir {ros ros':List Ob}{ms:List Ent}{x y:Int}(h:Below0 ros)(hm:∀e ∈ ms,e.2.2<(ros.length:Int))(hr:RDirPut ros ros' ms x y):Below0 ros':=by
 rcases hr with ⟨_,rfl,_⟩ | ⟨_,⟨_,rfl,_⟩ | ⟨_,_,rfl,_⟩ | ⟨_,_,_,rfl,_⟩ | ⟨_,_,_,_,rfl,_⟩ | ⟨_,_,hg,_,v,z,hp,_⟩⟩
 ·exact h
 ·exact h
 ·exact h
 ·exact h
 ·exact h
 ·rcases hp with ⟨_,_,rfl,_⟩ | ⟨_,_,rfl,_⟩ | ⟨_,_,rfl,_⟩
  ·exact h
  ·exact h
  ·refine below_snoc h (fun e he=>?_)
   have he':e ∈ ms:=mem_insAll he;have h1:=hg e he';unfold rgood at h1;simp only[Bool.and_eq_true,decide_eq_true_eq] at h1;exact⟨h1.1,hm e he'⟩
end
variable {ft:PTp}
def Stepped (ft:PTp)(FL FR FS:Nat->Prop)(w w':World)(W s r:Nat)(c5 c6 c7 c8 c9 c10 c11:Value):Prop:=
 ∃FL' FR' FS' objs' ros',W3 ft FL' FR' FS' w' W s r objs' ros' c5 c6 c7 c8 c9 c10 c11/\Sub3 FL FR FS FL' FR' FS' w.heap.size/\Keeps (F3 FL FR FS) w w'
section
variable {FL FR FS:Nat->Prop}{w:World}{W s r:Nat}{objs ros:List Ob}{c5 c6 c7 c8 c9 c10 c11:Value}
theorem LawS.cells {n:Nat}(h:LawS FL w W s r n c5 c6 c7 c8 c9 c10 c11):w.cell? ⟨W,0,none⟩=some (.pointer (some ⟨s,0,none⟩))/\w.cell? ⟨W,1,none⟩=some (.pointer (some ⟨r,0,none⟩))/\W<w.heap.size/\FL W:=by
 obtain⟨_,_,_,_,_,_,_,hl,_⟩:=h;exact⟨hl.c0,hl.c1,hl.lt,hl.fw⟩
theorem put_facts {w1 w2 w3:World}{objs' ros':List Ob}{S:ByteArray}{e:Ending}{id ec x y:Int}(h:W3 ft FL FR FS w W s r objs ros c5 c6 c7 c8 c9 c10 c11)(hb:Below w.heap.size w w1)(hk:Keeps FS w1 w2)(hi:InvQ ft (NewF FS w1 w2) w2 s objs')(hl:LawS FL w2 W s r objs.length c5 c6 c7 c8 c9 c10 c11)
  (hrk:Keeps FR w2.drew w3)(hri:RefInv (NewF FR w2.drew w3) w3 r ros')(hfp:FilePut objs objs' S e)(hrp:RFilePut ros ros' S x y)(he:e=.returned (.tuple #[.int .i64 id,.int .i64 ec])):
  Agreed objs objs' ros ros' id ec x y/\LawS FL w3 W s r objs.length c5 c6 c7 c8 c9 c10 c11/\InvQ ft (NewF FS w1 w2) w3 s objs'/\RefInv (NewF FR w2 w3) w3 r ros'/\Sep w3 FL (NewF FR w2 w3) (NewF FS w1 w2)/\Below0 ros'/\Keeps (F3 FL FR FS) w w3:=by
 have z1:=hb.size;have z2:=hk.size;have z3:w2.heap.size<=w3.heap.size:=hrk.size;obtain⟨id',ec',he',hA⟩:=agree_file h.twin hfp hrp;rw[he] at he';have e1:id=id'/\ec=ec':=by simpa using he'
 obtain⟨rfl,rfl⟩:=e1;have hrb:∀k,k<w2.heap.size->¬FR k->w3.heap[k]? = w2.heap[k]?:=fun k hk hn=>hrk.block k hk hn;refine⟨hA,hl.keep (fun _ h=>h) (fun k hk'=>hrb k (by have:=h.sep.ll k hk';omega) (fun hr=>(h.sep.rl k hr).2 hk')),InvQ.keep hi (fun _ h=>h) (fun k hk'=>hrb k ?_ (fun hr=>?_)),hri,⟨fun k hk'=>by have:=h.sep.ll k hk';omega,fun k hk'=>?_,fun k hk'=>?_,fun k hk' hs=>?_⟩,below_file h.at_ hrp,⟨?_,?_,?_,by omega,fun k hk' hn=>?_⟩⟩
 ·rcases hk' with h' | h'
  ·have:=(h.sep.sl k h').1;omega
  ·exact h'.2
 ·rcases hk' with h' | h'
  ·exact h.sep.rs k hr h'
  ·have:=(h.sep.rl k hr).1;omega
 ·rcases hk' with h' | h'
  ·exact⟨by have:=(h.sep.rl k h').1;omega,(h.sep.rl k h').2⟩
  ·exact⟨h'.2,fun hf=>by have:=h.sep.ll k hf;have:=h'.1;omega⟩
 ·rcases hk' with h' | h'
  ·exact⟨by have:=(h.sep.sl k h').1;omega,(h.sep.sl k h').2⟩
  ·exact⟨by have:=h'.2;omega,fun hf=>by have:=h.sep.ll k hf;have:=h'.1;omega⟩
 ·rcases hk' with h' | h'
  ·rcases hs with h2 | h2
   ·exact h.sep.rs k h' h2
   ·have:=(h.sep.rl k h').1;have:=h2.1;omega
  ·rcases hs with h2 | h2
   ·have:=(h.sep.sl k h2).1;have:=h'.1;omega
   ·have:=h'.1;have:=h2.2;omega
 ·exact hrk.os.trans (hk.os.trans hb.os)
 ·exact hrk.tape.trans (hk.tape.trans hb.tape)
 ·exact hrk.output.trans (hk.output.trans hb.output)
 ·rw[hrb k (by omega) (fun hr=>hn (.inr (.inl hr))),hk.block k (by omega) (fun hr=>hn (.inr (.inr hr))),hb.block k hk']
theorem store_putFile (h:W3 ft FL FR FS w W s r objs ros c5 c6 c7 c8 c9 c10 c11)(a1 a2 a3:Int)(S T:ByteArray)(la:Option Addr)(lm lc:Nat)(hS:S.size<=maxLen):
  Calls prog 20 #[.pointer (some ⟨W,0,none⟩),.agg #[.int .i64 1,.int .i64 a1,.int .i64 a2,.int .i64 a3,.string S,.string T,.slice la lm lc]] w fun e w'=>e=.returned (.bool true)/\Stepped ft FL FR FS w w' W s r c5 c6 c7 c8 c9 c10 c11:=by
 have HW:Hid (W3 ft FL FR FS w W s r objs ros c5 c6 c7 c8 c9 c10 c11):=h;obtain⟨k0,k1,hWl,hFW⟩:=h.law.cells;obtain⟨B,hB⟩:∃B:Obj,B=.cells #[.int .i64 1,.int .i64 a1,.int .i64 a2,.int .i64 a3,.string S,.string T,.slice la lm lc] 57:=⟨_,rfl⟩;obtain⟨w1,hw1⟩:∃w1,w1=w.alloc B:=⟨_,rfl⟩;have hb0:Below w.heap.size w w1:=by rw[hw1];exact (Below.refl _ _).alloc (zzC _) B
 have hb1:Below w.heap.size w w1.drew:=below_drewN hb0 1;have h1:=h.below hb1;have hpf:=storePutFileQ h1.sto S hS;have HPF:Hid _:=hpf;have b4:w1.cell? ⟨w.heap.size,4,none⟩=some (.string S):=by rw[hw1,hB];simp
 have k01:=(hb0.cell (p:=⟨W,0,none⟩) hWl).trans k0;have k11:=(hb0.cell (p:=⟨W,1,none⟩) hWl).trans k1;have hs1:w1.heap.size=w.heap.size+1:=by rw[hw1];simp
 have H1:Hid (W3 ft FL FR FS w1.drew W s r objs ros c5 c6 c7 c8 c9 c10 c11):=h1;clear h hpf h1;go_enter func20,ntmps20;go_wp2;rw[<-hB,<-hw1];have HB:Hid (B=.cells #[.int .i64 1,.int .i64 a1,.int .i64 a2,.int .i64 a3,.string S,.string T,.slice la lm lc] 57):=hB;have HW1:Hid (w1=w.alloc B):=hw1;clear hB hw1
 go_region_with (first | (go_at_call 35;refine Calls.mono HPF.out ?_;rintro e w2 ⟨objs',hfp,hinv,hkp⟩;obtain⟨id,ec,he⟩:=hfp.shape;have HFP:Hid (FilePut objs objs' S e):=hfp;have HE:Hid (e=.returned (.tuple #[.int .i64 id,.int .i64 ec])):=he;rw[he];clear hfp he))
 all_goals
  have hkp':Keeps FS w1 w2:=⟨hkp.os,hkp.tape,hkp.output,hkp.size,hkp.block⟩;have hkb:∀x,x<w1.heap.size->¬FS x->w2.heap[x]? = w1.heap[x]?:=fun x hx hn=>hkp'.block x hx hn;have nW:¬FS W:=fun hf=>(H1.out.sep.sl W hf).2 hFW;have nB:¬FS w.heap.size:=fun hf=>by have:=(HW.out.sep.sl _ hf).1;omega
  have k02:=(World.cell?_of_block (a:=⟨W,0,none⟩) (hkb W (by omega) nW)).trans k01;have k12:=(World.cell?_of_block (a:=⟨W,1,none⟩) (hkb W (by omega) nW)).trans k11;have b42:=(World.cell?_of_block (a:=⟨w.heap.size,4,none⟩) (hkb w.heap.size (by omega) nB)).trans b4;have hs2:w1.heap.size<=w2.heap.size:=hkp'.size;have R2:RefInv FR w2.drew r ros:=HW.out.ref.keep (fun _ h=>h) (fun k hk=>(hkb k (by have:=(HW.out.sep.rl k hk).1;omega) (HW.out.sep.rs k hk)).trans (hb0.block k (HW.out.sep.rl k hk).1));have L2:Hid (LawS FL w2 W s r objs.length c5 c6 c7 c8 c9 c10 c11):=HW.out.law.keep (fun _ h=>h) (fun k hk=>(hkb k (by have:=HW.out.sep.ll k hk;omega) (fun hf=>(HW.out.sep.sl k hf).2 hk)).trans (hb0.block k (HW.out.sep.ll k hk)));have I2:Hid (InvQ ft (NewF FS w1 w2) w2 s objs'):=hinv;have HKP:Hid (Keeps FS w1 w2):=hkp';have hrf:=rputFile_any R2 S hS;have HRF:Hid _:=hrf;clear HPF hinv hkp hkp' hrf R2
  go_frame
  go_wp2
  go_region_with (first | (go_at_call 36;refine Calls.mono HRF.out ?_;rintro e3 w3 ⟨x,y,ros',rfl,hrp,hri,hrk⟩))
  all_goals
   have AF:=put_facts HW.out (show Below w.heap.size w w1 from hb0) HKP.out I2.out L2.out hrk hri HFP.out hrp HE.out;have HAF:Hid _:=AF;clear AF hrp hri hrk
   go_frame
   have hnum:=fun (e:Int) (W':World)=>num_any e W';obtain⟨hec,_,hcase⟩:=HAF.out.1;subst hec;by_cases hy:ec=0
   ·have hls:=learn_step HAF.out.2.1 HAF.out.2.2.2.1 HAF.out.2.2.1 HAF.out.2.2.2.2.1 HAF.out.2.2.2.2.2.1 HAF.out.1 hy HW.out.twin.1
    subst hy;clear hcase;have hz:((0:Int) != 0)=false:=by simp
    go_wp2_with (first
     | (go_at_call 22;refine Calls.mono (hnum _ _) ?_;rintro _ _ ⟨rfl,rfl⟩)
     | (go_at_call 37;refine Calls.mono hls ?_;rintro _ w4 ⟨rfl,hw4,hk4⟩))
    go_ret;refine⟨rfl,_,_,_,objs',ros',hw4,?_,?_⟩
    ·have zw:=HAF.out.2.2.2.2.2.2.size
     refine fun k=>⟨?_,?_,?_⟩ <;> rintro (h | h)
     ·exact .inl h
     ·exact .inr (zzG zw h.1)
     ·exact .inl h
     ·have:=h.1;exact .inr (by omega)
     ·exact .inl h
     ·have:=h.1;exact .inr (by omega)
    ·have kk:=HAF.out.2.2.2.2.2.2
     exact⟨hk4.os.trans kk.os,hk4.tape.trans kk.tape,hk4.output.trans kk.output,zzG kk.size hk4.size,fun k hk hn=>(hk4.block k (zzA hk kk.size) (fun h=>hn (.inl h))).trans (kk.block k hk hn)⟩
   ·have hid:id=0/\objs'=objs/\ros'=ros:=by
     rcases hcase with h | h
     ·exact h.2
     ·exact absurd h.1 hy
    have hyb:(ec != 0)=true:=by simpa using hy
    have hee:(ec == ec)=true:=(by simp);obtain⟨rfl,rfl,rfl⟩:=hid;clear hcase;go_wp2_with (go_at_call 22;refine Calls.mono (hnum _ _) ?_;rintro _ _ ⟨rfl,rfl⟩);go_ret;refine⟨rfl,_,_,_,objs',ros',⟨HAF.out.2.1,HAF.out.2.2.2.1,HAF.out.2.2.1,HW.out.twin,HW.out.at_,HAF.out.2.2.2.2.1⟩,?_,HAF.out.2.2.2.2.2.2⟩
    ·refine fun k=>⟨.inl,?_,?_⟩ <;> rintro (h | h)
     ·exact .inl h
     ·have:=h.1;exact .inr (by omega)
     ·exact .inl h
     ·have:=h.1;exact .inr (by omega)
end
variable {ft:PTp}
theorem idOf_idsN (n:Nat)(x:Int):idOf (idsN n) x=x:=by
 unfold idOf;split
 ·next h=>
  rw[idsN_len] at h;have hj:(x-1).toNat<n:=by omega
  have:(idsN n)[(x-1).toNat]? = some (((x-1).toNat:Int)+1):=idsN_get hj
  rw[List.getD_eq_getElem?_getD,this];show (((x-1).toNat:Int)+1)=x;omega
 ·rfl
section
variable {FL FR FS:Nat->Prop}{w:World}{W s r:Nat}{objs ros:List Ob}{c5 c6 c7 c8 c9 c10 c11:Value}
theorem W3.few (h:W3 ft FL FR FS w W s r objs ros c5 c6 c7 c8 c9 c10 c11):objs.length<=400/\ros.length=objs.length:=by
 obtain⟨_,_,hr⟩:=h.ref
 have:=hr.many
 have:=h.twin.1
 omega
theorem w3_id (h:W3 ft FL FR FS w W s r objs ros c5 c6 c7 c8 c9 c10 c11)(x:Int):Calls prog 39 #[.pointer (some ⟨W,0,none⟩),.int .i64 x] w fun e w'=>e=.returned (.int .i64 x)/\w'=w:=by
 have hf:=h.few;obtain⟨_,_,_,_,_,_,_,hl,_⟩:=h.law
 have:=id_any hl x (by rw[idsN_len];exact hf.1)
 rw[idOf_idsN] at this;exact this
theorem w3_place (h:W3 ft FL FR FS w W s r objs ros c5 c6 c7 c8 c9 c10 c11)(j:Nat)(hj:j<objs.length):Calls prog 41 #[.pointer (some ⟨W,0,none⟩),.int .i64 ((j:Int)+1)] w fun e w'=>e=.returned (.int .i64 (j:Int))/\w'=w:=by
 have hf:=h.few;obtain⟨_,_,_,_,_,_,_,hl,_⟩:=h.law
 have:=place_any hl ((j:Int)+1) (by rw[idsN_len];exact hf.1)
 have e:=place_idsN hj [];rw[List.append_nil] at e;rw[e] at this;exact this
theorem w3_noplace (h:W3 ft FL FR FS w W s r objs ros c5 c6 c7 c8 c9 c10 c11)(x:Int)(hx:x<1\/(objs.length:Int)<x):Calls prog 41 #[.pointer (some ⟨W,0,none⟩),.int .i64 x] w fun e w'=>e=.returned (.int .i64 (-1))/\w'=w:=by
 have hf:=h.few;obtain⟨_,_,_,_,_,_,_,hl,_⟩:=h.law
 have:=place_any hl x (by rw[idsN_len];exact hf.1)
 have e:=place_out hx [] (fun _ h=>by cases h);rw[List.append_nil] at e;rw[e] at this;exact this
theorem w3_kind (h:W3 ft FL FR FS w W s r objs ros c5 c6 c7 c8 c9 c10 c11)(j:Nat)(hj:j<objs.length):Calls prog 42 #[.pointer (some ⟨W,0,none⟩),.int .i64 (j:Int)] w fun e w'=>e=.returned (.int .i64 objs[j].kind)/\w'=w:=by
 have hf:=h.few;obtain⟨_,_,_,_,_,_,_,hl,_⟩:=h.law
 have:=wkind_at hl h.ref j (by omega)
 rw[(h.twin.2.1 j hj (by omega)).kind] at this;exact this
theorem getFile_no {F:Nat->Prop}(h:InvQ ft F w s objs)(x:Int)(hk:kindOf objs x≠1):
  Calls prog 40 #[.pointer (some ⟨s,0,none⟩),.int .i64 x] w fun e w'=>e=.returned (.tuple #[.string ByteArray.empty,.int .i64 13])/\Below w.heap.size w w':=by
 refine (storeGetFileQ h x).mono fun e w' ⟨hf,hb⟩=>⟨?_,hb⟩;rcases hf with ⟨_,h1⟩ | ⟨j,hj,he,h2,_⟩
 ·exact h1
 ·rw[he,kindOf_in hj] at hk;exact absurd h2 hk
theorem W3.obj (h:W3 ft FL FR FS w W s r objs ros c5 c6 c7 c8 c9 c10 c11)(j:Nat)(hj:j<objs.length)(hk:objs[j].kind=1):∃g cap,w.cell? ⟨r,0,none⟩=some (.slice (some ⟨g,0,none⟩) objs.length cap)/\r<w.heap.size/\g<w.heap.size/\w.cell? ⟨g,j*4+1,none⟩=some (.string objs[j].data):=by
 have hf:=h.few;have hda:=(h.twin.2.1 j hj (by omega)).data hk;obtain⟨a,cap,hr⟩:=h.ref;have hl:ros.length=objs.length:=hf.2;obtain⟨g,rfl,hg,q0,q1,q2,q3⟩:=row_obs hr.row rfl (show j<ros.length by omega);refine⟨g,cap,?_,hr.lt,hg,?_⟩
 ·rw[<-hl];exact hr.c0
 ·rw[<-hda];exact q1
theorem getFile_out (h:W3 ft FL FR FS w W s r objs ros c5 c6 c7 c8 c9 c10 c11)(a1 N a3:Int)(S T:ByteArray)(la:Option Addr)(lm lc:Nat)(hN:N<1\/(objs.length:Int)<N):
  Calls prog 20 #[.pointer (some ⟨W,0,none⟩),.agg #[.int .i64 3,.int .i64 a1,.int .i64 N,.int .i64 a3,.string S,.string T,.slice la lm lc]] w fun e w'=>e=.returned (.bool true)/\Below w.heap.size w w':=by
 obtain⟨k0,k1,hWl,hFW⟩:=h.law.cells;have b1:∀B,Below w.heap.size w (w.alloc B):=fun B=>(Below.refl _ _).alloc (zzC _) _;have hid:=fun B=>w3_id (h.below (b1 B)) N;have hget:=fun B=>getFile_no (h.below (b1 B)).sto N (by rw[kindOf_out hN];decide);have hpl:=fun B W2 (hb:Below (w.alloc B).heap.size (w.alloc B) W2)=>w3_noplace ((h.below (b1 B)).below hb) N hN;have hkd:=fun (W2:World)=>wkind_neg (W:=W) (w:=W2) (-1) (by decide);have hnum:=fun (e:Int) (W':World)=>num_any e W';have HI:Hid _:=hid;have HG:Hid _:=hget;have HP:Hid _:=hpl;have HK:Hid _:=hkd;have HN:Hid _:=hnum;clear hid hget hpl hkd hnum h hN;go_enter func20,ntmps20;go_wp2_with (first
  | (go_at_call 39;refine Calls.mono (HI.out _) ?_;rintro _ _ ⟨rfl,rfl⟩)
  | (go_at_call 40;refine Calls.mono (HG.out _) ?_;rintro _ w2 ⟨rfl,hb2⟩)
  | (go_at_call 41;refine Calls.mono (HP.out _ _ hb2) ?_;rintro _ _ ⟨rfl,rfl⟩)
  | (go_at_call 42;refine Calls.mono (HK.out _) ?_;rintro _ _ ⟨rfl,rfl⟩)
  | (go_at_call 22;refine Calls.mono (HN.out _ _) ?_;rintro _ _ ⟨rfl,rfl⟩))
 go_ret;exact⟨rfl,(b1 _).trans (hb2.mono (by simp))⟩
theorem getFile_dir (h:W3 ft FL FR FS w W s r objs ros c5 c6 c7 c8 c9 c10 c11)(a1 a3:Int)(S T:ByteArray)(la:Option Addr)(lm lc:Nat)(j:Nat)(hj:j<objs.length)(hk:objs[j].kind≠1):
  Calls prog 20 #[.pointer (some ⟨W,0,none⟩),.agg #[.int .i64 3,.int .i64 a1,.int .i64 ((j:Int)+1),.int .i64 a3,.string S,.string T,.slice la lm lc]] w fun e w'=>e=.returned (.bool true)/\Below w.heap.size w w':=by
 obtain⟨k0,k1,hWl,hFW⟩:=h.law.cells;have b1:∀B,Below w.heap.size w (w.alloc B):=fun B=>(Below.refl _ _).alloc (zzC _) _;have hid:=fun B=>w3_id (h.below (b1 B)) ((j:Int)+1);have hget:=fun B=>getFile_no (h.below (b1 B)).sto ((j:Int)+1) (by rw[kindOf_in hj];exact hk);have hpl:=fun B W2 (hb:Below (w.alloc B).heap.size (w.alloc B) W2)=>w3_place ((h.below (b1 B)).below hb) j hj;have hkd:=fun B W2 (hb:Below (w.alloc B).heap.size (w.alloc B) W2)=>w3_kind ((h.below (b1 B)).below hb) j hj;have hnum:=fun (e:Int) (W':World)=>num_any e W';obtain⟨kk,hkk⟩:∃kk,kk=objs[j].kind:=⟨_,rfl⟩;rw[<-hkk] at hk hkd;have hk':(kk != 1)=true:=by simpa using hk
 have HI:Hid _:=hid;have HG:Hid _:=hget;have HP:Hid _:=hpl;have HK:Hid _:=hkd;have HN:Hid _:=hnum;clear hid hget hpl hkd hnum h hkk;go_enter func20,ntmps20;go_wp2_with (first
  | (go_at_call 39;refine Calls.mono (HI.out _) ?_;rintro _ _ ⟨rfl,rfl⟩)
  | (go_at_call 40;refine Calls.mono (HG.out _) ?_;rintro _ w2 ⟨rfl,hb2⟩)
  | (go_at_call 41;refine Calls.mono (HP.out _ _ hb2) ?_;rintro _ _ ⟨rfl,rfl⟩)
  | (go_at_call 42;refine Calls.mono (HK.out _ _ hb2) ?_;rintro _ _ ⟨rfl,rfl⟩)
  | (go_at_call 22;refine Calls.mono (HN.out _ _) ?_;rintro _ _ ⟨rfl,rfl⟩))
 go_ret;exact⟨rfl,(b1 _).trans (hb2.mono (by simp))⟩
theorem getFile_file (h:W3 ft FL FR FS w W s r objs ros c5 c6 c7 c8 c9 c10 c11)(a1 a3:Int)(S T:ByteArray)(la:Option Addr)(lm lc:Nat)(j:Nat)(hj:j<objs.length)(hk:objs[j].kind=1):
  Calls prog 20 #[.pointer (some ⟨W,0,none⟩),.agg #[.int .i64 3,.int .i64 a1,.int .i64 ((j:Int)+1),.int .i64 a3,.string S,.string T,.slice la lm lc]] w fun e w'=>e=.returned (.bool true)/\Below w.heap.size w w':=by
 obtain⟨k0,k1,hWl,hFW⟩:=h.law.cells;have hf:=h.few;have b1:∀B,Below w.heap.size w (w.alloc B):=fun B=>(Below.refl _ _).alloc (zzC _) _;have hid:=fun B=>w3_id (h.below (b1 B)) ((j:Int)+1);have hget:=fun B=>getFile_at (h.below (b1 B)).sto j hj hk;have hpl:=fun B W2 (hb:Below (w.alloc B).heap.size (w.alloc B) W2)=>w3_place ((h.below (b1 B)).below hb) j hj;have hkd:=fun B W2 (hb:Below (w.alloc B).heap.size (w.alloc B) W2)=>w3_kind ((h.below (b1 B)).below hb) j hj;rw[hk] at hkd;have hob:=fun B W2 (hb:Below (w.alloc B).heap.size (w.alloc B) W2)=>W3.obj ((h.below (b1 B)).below hb) j hj hk;have hw:=fun B W2 (hb:Below (w.alloc B).heap.size (w.alloc B) W2)=>LawS.cells ((h.below (b1 B)).below hb).law;have hnum:=fun (e:Int) (W':World)=>num_any e W';obtain⟨dd,hdd⟩:∃dd,dd=objs[j].data:=⟨_,rfl⟩;rw[<-hdd] at hob hget;have HI:Hid _:=hid;have HG:Hid _:=hget;have HP:Hid _:=hpl;have HK:Hid _:=hkd;have HN:Hid _:=hnum;have HO:Hid _:=hob;have HW:Hid _:=hw;obtain⟨n,hn⟩:∃n,n=objs.length:=⟨_,rfl⟩;have hjn:(j:Int)<(n:Int):=by omega
 have HNn:Hid (n=objs.length):=hn;clear hid hget hpl hkd hnum h hob hw hn hk hdd;go_enter func20,ntmps20;go_wp2_with (first
  | (go_at_call 39;refine Calls.mono (HI.out _) ?_;rintro _ _ ⟨rfl,rfl⟩)
  | (go_at_call 40;refine Calls.mono (HG.out _) ?_;rintro _ w2 ⟨rfl,hb2⟩;obtain⟨_,m1,mW,_⟩:=HW.out _ _ hb2;obtain⟨g,cap,o0,orl,ogl,o1⟩:=HO.out _ _ hb2;rw[<-HNn.out] at o0)
  | (go_at_call 41;refine Calls.mono (HP.out _ _ hb2) ?_;rintro _ _ ⟨rfl,rfl⟩)
  | (go_at_call 42;refine Calls.mono (HK.out _ _ hb2) ?_;rintro _ _ ⟨rfl,rfl⟩)
  | (go_at_call 22;refine Calls.mono (HN.out _ _) ?_;rintro _ _ ⟨rfl,rfl⟩))
 go_ret;exact⟨rfl,(b1 _).trans (hb2.mono (by simp))⟩
theorem stepped_below {w':World}(h:W3 ft FL FR FS w W s r objs ros c5 c6 c7 c8 c9 c10 c11)(hb:Below w.heap.size w w'):Stepped ft FL FR FS w w' W s r c5 c6 c7 c8 c9 c10 c11:=
 ⟨FL,FR,FS,objs,ros,h.below hb,Sub3.refl,Keeps.of_below hb⟩
theorem store_getFile (h:W3 ft FL FR FS w W s r objs ros c5 c6 c7 c8 c9 c10 c11)(a1 N a3:Int)(S T:ByteArray)(la:Option Addr)(lm lc:Nat):
  Calls prog 20 #[.pointer (some ⟨W,0,none⟩),.agg #[.int .i64 3,.int .i64 a1,.int .i64 N,.int .i64 a3,.string S,.string T,.slice la lm lc]] w fun e w'=>e=.returned (.bool true)/\Stepped ft FL FR FS w w' W s r c5 c6 c7 c8 c9 c10 c11:=by
 by_cases hN:N<1\/(objs.length:Int)<N
 ·exact (getFile_out h a1 N a3 S T la lm lc hN).mono fun e w' ⟨he,hb⟩=>⟨he,stepped_below h hb⟩
 ·obtain⟨j,rfl⟩:∃j:Nat,N=(j:Int)+1:=⟨(N-1).toNat,by omega⟩
  have hj:j<objs.length:=by omega
  by_cases hk:objs[j].kind=1
  ·exact (getFile_file h a1 a3 S T la lm lc j hj hk).mono fun e w' ⟨he,hb⟩=>⟨he,stepped_below h hb⟩
  ·exact (getFile_dir h a1 a3 S T la lm lc j hj hk).mono fun e w' ⟨he,hb⟩=>⟨he,stepped_below h hb⟩
theorem store_objects (h:W3 ft FL FR FS w W s r objs ros c5 c6 c7 c8 c9 c10 c11)(a1 N a3:Int)(S T:ByteArray)(la:Option Addr)(lm lc:Nat):
  Calls prog 20 #[.pointer (some ⟨W,0,none⟩),.agg #[.int .i64 5,.int .i64 a1,.int .i64 N,.int .i64 a3,.string S,.string T,.slice la lm lc]] w fun e w'=>e=.returned (.bool true)/\Stepped ft FL FR FS w w' W s r c5 c6 c7 c8 c9 c10 c11:=by
 obtain⟨k0,k1,hWl,hFW⟩:=h.law.cells;obtain⟨B,hB⟩:∃B:Obj,B=.cells #[.int .i64 5,.int .i64 a1,.int .i64 N,.int .i64 a3,.string S,.string T,.slice la lm lc] 57:=⟨_,rfl⟩;obtain⟨w1,hw1⟩:∃w1,w1=w.alloc B:=⟨_,rfl⟩;have hb0:Below w.heap.size w w1:=by rw[hw1];exact (Below.refl _ _).alloc (zzC _) B
 have hobj:=fun q=>storeObjectsQ (h.below (below_drewN hb0 q)).sto;have HO:Hid _:=hobj;have k01:=(hb0.cell (p:=⟨W,0,none⟩) hWl).trans k0;have k11:=(hb0.cell (p:=⟨W,1,none⟩) hWl).trans k1;have hf:=h.few;have r01:∃a cap,w1.cell? ⟨r,0,none⟩=some (.slice a objs.length cap)/\r<w1.heap.size:=by
  obtain⟨a,cap,hr⟩:=(h.below hb0).ref;exact⟨a,cap,by rw[<-hf.2];exact hr.c0,hr.lt⟩
 obtain⟨ra,rcap,r01,hrl⟩:=r01;have hWl1:W<w1.heap.size:=zzA hWl hb0.size;have HS:Hid (∀q,Stepped ft FL FR FS w (w1.drewN q) W s r c5 c6 c7 c8 c9 c10 c11):=fun q=>stepped_below h (below_drewN hb0 q);obtain⟨n,hn⟩:∃n,n=objs.length:=⟨_,rfl⟩;rw[<-hn] at HO r01;clear hobj h hf hn;go_enter func20,ntmps20;go_wp2;rw[<-hB,<-hw1];clear hB hw1
 go_quiet (first | (go_at_call 45;exact Calls.quiet_of_same (HO.out _)))
 go_wp2;go_ret;exact⟨rfl,HS.out _⟩
end
variable {ft:PTp}
theorem mkQ_mark (i:Nat):mkQ (i / 4)=markE i:=rfl
structure Held (FH:Nat->Prop)(w:World)(ea:Option Addr)(ec q:Nat)(hs:List HeldL):Prop where
 len:hs.length=4*q
 row:w.ownsRow 0 55 1 (.slice ea (4*q) ec) (4*q) (hs.map encH)
 own:∀g,(Value.slice ea (4*q) ec).ownBlock=some g->FH g
 lists:∀i (hi:i<hs.length),hs[i].2.1<=19/\((hs[i].1=none/\hs[i].2.1=0)\/∃g,hs[i].1=some ⟨g,0,none⟩/\FH g/\w.ownsRow 0 96 3 (encH hs[i]) hs[i].2.1 (flat (List.replicate hs[i].2.1 (mkQ (i / 4)))))
 lt:∀k,FH k->k<w.heap.size
theorem Held.keep {FH:Nat->Prop}{w w':World}{ea:Option Addr}{ec q:Nat}{hs:List HeldL}(h:Held FH w ea ec q hs)(hk:∀k,FH k->w'.heap[k]? = w.heap[k]?)(hz:w.heap.size<=w'.heap.size):Held FH w' ea ec q hs:=
 ⟨h.len,ownsRow_keep h.row (fun g hg=>hk g (h.own g hg)),h.own,fun i hi=>⟨(h.lists i hi).1,by
  rcases (h.lists i hi).2 with e | ⟨g,e1,e2,e3⟩
  ·exact .inl e
  ·exact .inr ⟨g,e1,e2,ownsRow_keep e3 (fun x hx=>by
    have:x=g:=by unfold encH at hx;rw[e1] at hx;exact (Option.some.inj hx).symm
    rw[this];exact hk g e2)⟩⟩,fun k hk'=>zzA (h.lt k hk') hz⟩
theorem Held.full {FH:Nat->Prop}{w:World}{ea:Option Addr}{ec q:Nat}{hs:List HeldL}(h:Held FH w ea ec q hs):∀i (hi:i<hs.length),Full w i hs[i]:=by
 intro i hi j hj;rcases (h.lists i hi).2 with ⟨_,e⟩ | ⟨g,e1,_,e3⟩
 ·omega
 ·unfold encH at e3
  rw[e1] at e3;obtain⟨p0,p1,p2⟩:=row_cells (off:=0) (owns_cells e3) (i:=j) (by simpa using hj);rw[Nat.zero_add,List.getElem_replicate,mkQ_mark] at p0 p1 p2;exact⟨g,e1,p0,p1,p2⟩
section
variable {FL FR FS FH:Nat->Prop}{w:World}{W s r:Nat}{objs ros:List Ob}{c5 c6 c7 c8 c9 c10 c11:Value}{ea:Option Addr}{ec q:Nat}{hs:List HeldL}
theorem W3.block (h:W3 ft FL FR FS w W s r objs ros c5 c6 c7 c8 c9 c10 c11):∃a0 a1 a2 a3 a4,w.heap[W]? = some (.cells #[a0,a1,a2,a3,a4,c5,c6,c7,c8,c9,c10,c11] 71 (0,0)):=by
 obtain⟨_,_,_,_,_,_,_,hl,_⟩:=h.law;exact⟨_,_,_,_,_,hl.hW⟩
theorem kept_next {w':World}{a0 a1 a2 a3 a4:Value}{la:Option Addr}{m:Nat}(h:W3 ft FL FR FS w W s r objs ros c5 c6 c7 c8 (.slice ea (4*q) ec) c10 c11)(hh:Held FH w ea ec q hs)(hap:∀k,FH k->¬F3 FL FR FS k)(hm:m<=16)
  (hla:∀g,(Value.slice la m m).ownBlock=some g->¬F3 FL FR FS g/\¬FH g/\g<w.heap.size)(hnil:la=none->m=0)(hW:w.heap[W]? = some (.cells #[a0,a1,a2,a3,a4,c5,c6,c7,c8,.slice ea (4*q) ec,c10,c11] 71 (0,0)))
  (hk:KeptOne w w' W q #[a0,a1,a2,a3,a4,c5,c6,c7,c8,.slice ea (4*q) ec,c10,c11] ea ec la m hs):
  ∃FH' ea' ec' hs',W3 ft FL FR FS w' W s r objs ros c5 c6 c7 c8 (.slice ea' (4*(q+1)) ec') c10 c11/\Held FH' w' ea' ec' (q+1) hs'/\(∀k,FH' k->¬F3 FL FR FS k)/\(∀k,FH' k->FH k\/w.heap.size<=k\/some k=(Value.slice la m m).ownBlock)/\
   Keeps (fun k=>k=W\/FH k\/some k=(Value.slice la m m).ownBlock) w w':=by
 obtain⟨g4,c4,ga,ca,gb,cb,gc,cc,k1,k2,k3,k4,k5,k6,k7,k8⟩:=hk;have z:=k8.size;have fW:FL W:=by obtain⟨_,_,_,_,_,_,_,hl,_⟩:=h.law;exact hl.fw
 have keep:∀k,k<w.heap.size->k≠W->¬FH k->(∀g,(Value.slice la m m).ownBlock=some g->k≠g)->w'.heap[k]? = w.heap[k]?:=fun k hk1 hk2 hk3 hk4=>k8.block k hk1 (by
  rintro (e | e | e)
  ·exact hk2 e
  ·exact hk3 (hh.own k e.symm)
  ·exact hk4 k e.symm rfl)
 have n3:∀k,F3 FL FR FS k->¬FH k:=fun k hk hf=>hap k hf hk;have nla:∀k,F3 FL FR FS k->∀g,(Value.slice la m m).ownBlock=some g->k≠g:=fun k hk g hg e=>(hla g hg).1 (e ▸ hk);have law':LawS FL w' W s r objs.length c5 c6 c7 c8 (.slice (some ⟨g4,0,none⟩) (4*(q+1)) c4) c10 c11:=by
  obtain⟨ia,ka,pa,ic,kc,pc,paths,hl,hp⟩:=h.law;have row:∀{t:TypeId} {v:Value} {n:Nat} {xs:List Value},w.ownsRow 0 t 1 v n xs->71≠t->(∀g,v.ownBlock=some g->FL g)->w'.ownsRow 0 t 1 v n xs:=fun hr ht hf=>ownsRow_keep hr (fun g hg=>keep g (ownsRow_lt hr hg) (fun e=>owns_ne_cells hr hl.hW ht (by rw[<-e];exact hg.symm)) (n3 g (.inl (hf g hg))) (nla g (.inl (hf g hg))));refine⟨ia,ka,pa,ic,kc,pc,paths,⟨hl.fw,?_,row hl.rowI (by decide) hl.fi,row hl.rowK (by decide) hl.fk,row hl.rowP (by decide) hl.fp,hl.fi,hl.fk,hl.fp⟩,hp⟩;have e:=hW.symm.trans hl.hW;simp only[Option.some.injEq,Obj.cells.injEq,Array.mk.injEq,List.cons.injEq,and_true] at e;obtain⟨e0,e1,e2,e3,e4⟩:=e;rw[k1,e0,e1,e2,e3,e4];rfl
 have nW:∀k,FR k\/FS k->k≠W:=fun k hk e=>by
  rcases hk with h1 | h1
  ·exact (h.sep.rl k h1).2 (e ▸ fW)
  ·exact (h.sep.sl k h1).2 (e ▸ fW)
 refine⟨fun k=>FH k\/(some k=(Value.slice la m m).ownBlock)\/(w.heap.size<=k/\k<w'.heap.size),some ⟨g4,0,none⟩,c4,_,⟨law',h.ref.keep (fun _ h=>h) (fun k hk=>keep k (h.sep.rl k hk).1 (nW k (.inl hk)) (n3 k (.inr (.inl hk))) (nla k (.inr (.inl hk)))),InvQ.keep h.sto (fun _ h=>h) (fun k hk=>keep k (h.sep.sl k hk).1 (nW k (.inr hk)) (n3 k (.inr (.inr hk))) (nla k (.inr (.inr hk)))),h.twin,h.at_,h.sep.below z⟩,
  ⟨?_,k2,?_,?_,?_⟩,?_,?_,⟨k8.os,k8.tape,k8.output,k8.size,fun k hk1 hn=>k8.block k hk1 (by rintro (e | e | e);exact hn (.inl e);exact hn (.inr (.inl (hh.own k e.symm)));exact hn (.inr (.inr e)))⟩⟩
 ·simp[hh.len];omega
 ·intro g hg
  simp only[Value.ownBlock,Option.some.injEq] at hg;subst hg;rcases k7 with e | e
  ·exact .inl (hh.own _ e.symm)
  ·exact .inr (.inr ⟨e,ownsRow_lt k2 rfl⟩)
 ·intro i hi
  by_cases hlt:i<hs.length
  ·rw[List.getElem_append_left hlt]
   refine⟨(hh.lists i hlt).1,?_⟩;rcases (hh.lists i hlt).2 with e | ⟨g,e1,e2,e3⟩
   ·exact .inl e
   ·refine .inr ⟨g,e1,.inl e2,ownsRow_keep e3 (fun x hx=>?_)⟩
    have hxg:x=g:=by unfold encH at hx;rw[e1] at hx;exact (Option.some.inj hx).symm
    subst hxg;refine k8.block x (hh.lt x e2) ?_;rintro (e | e | e)
    ·subst e;exact hap _ e2 (.inl fW)
    ·exact rows_apart e3 hh.row (by decide) hx e
    ·exact (hla x e.symm).2.1 e2
  ·obtain⟨d,rfl⟩:∃d,i=hs.length+d:=⟨i-hs.length,by omega⟩
   have hd:d<4:=by simp at hi;omega
   rw[List.getElem_append_right (by omega)];have hq:(hs.length+d) / 4=q:=by rw[hh.len];omega
   simp only[Nat.add_sub_cancel_left,hq];have new:∀{g n c:Nat},w'.ownsRow w.heap.size 96 3 (.slice (some ⟨g,0,none⟩) n c) n (flat (List.replicate n (mkQ q)))->∃g',(some ⟨g,0,none⟩:Option Addr)=some ⟨g',0,none⟩/\(FH g'\/(some g'=(Value.slice la m m).ownBlock)\/(w.heap.size<=g'/\g'<w'.heap.size))/\w'.ownsRow 0 96 3 (.slice (some ⟨g,0,none⟩) n c) n (flat (List.replicate n (mkQ q))):=fun {g n c} hr=>⟨g,rfl,.inr (.inr (hr.lt g rfl)),owns_mono hr (zzF _)⟩
   match d,hd with
   | 0,_=>
    refine⟨show m<=19 by omega,?_⟩;cases la with
    | none=>exact .inl ⟨rfl,hnil rfl⟩
    | some b=>
     obtain⟨g,rfl,hr⟩:=k3 b rfl;exact .inr ⟨g,rfl,.inr (.inl rfl),hr⟩
   | 1,_=>exact⟨show m+1<=19 by omega,.inr (new k4)⟩
   | 2,_=>exact⟨show m+2<=19 by omega,.inr (new k5)⟩
   | 3,_=>exact⟨show m+3<=19 by omega,.inr (new k6)⟩
 ·rintro k (hk | hk | hk)
  ·exact zzA (hh.lt k hk) z
  ·exact zzA (hla k hk.symm).2.2 z
  ·exact hk.2
 ·rintro k (hk | hk | hk) hf
  ·exact hap k hk hf
  ·exact (hla k hk.symm).1 hf
  ·have:k<w.heap.size:=by
    rcases hf with h1 | h1 | h1
    ·exact h.sep.ll k h1
    ·exact (h.sep.rl k h1).1
    ·exact (h.sep.sl k h1).1
   omega
 ·rintro k (hk | hk | hk)
  ·exact .inl hk
  ·exact .inr (.inr hk)
  ·exact .inr (.inl hk.1)
def Played (ft:PTp)(FL FR FS FH:Nat->Prop)(w w':World)(W s r q:Nat)(c5 c6 c7 c8 c10 c11:Value):Prop:=
 ∃FL' FR' FS' FH' objs' ros' ea' ec' hs',W3 ft FL' FR' FS' w' W s r objs' ros' c5 c6 c7 c8 (.slice ea' (4*q) ec') c10 c11/\Held FH' w' ea' ec' q hs'/\(∀k,FH' k->¬F3 FL' FR' FS' k)/\
  Sub3 FL FR FS FL' FR' FS' w.heap.size/\(∀k,FH' k->FH k\/w.heap.size<=k)/\Keeps (fun k=>F3 FL FR FS k\/FH k) w w'
theorem played_of_stepped {w':World}(h:W3 ft FL FR FS w W s r objs ros c5 c6 c7 c8 (.slice ea (4*q) ec) c10 c11)(hh:Held FH w ea ec q hs)(hap:∀k,FH k->¬F3 FL FR FS k)(hs':Stepped ft FL FR FS w w' W s r c5 c6 c7 c8 (.slice ea (4*q) ec) c10 c11):Played ft FL FR FS FH w w' W s r q c5 c6 c7 c8 c10 c11:=by
 obtain⟨FL',FR',FS',objs',ros',h3,hsub,hk⟩:=hs';refine⟨FL',FR',FS',FH,objs',ros',ea,ec,hs,h3,hh.keep (fun k hf=>hk.block k (hh.lt k hf) (hap k hf)) hk.size,fun k hf h3'=>?_,hsub,fun k hk'=>.inl hk',⟨hk.os,hk.tape,hk.output,hk.size,fun k hk1 hn=>hk.block k hk1 (fun h=>hn (.inl h))⟩⟩
 ·rcases hsub.all k h3' with e | e
  ·exact hap k hf e
  ·have:=hh.lt k hf;omega
end
end Go.Proofs.YtlgidcmmgohagaaGreat
