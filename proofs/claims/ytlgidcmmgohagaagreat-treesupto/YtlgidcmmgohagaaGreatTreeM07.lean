/- What is proved here: 'num'. -/
import Derived.Test.YtlgidcmmgohagaaGreatTreeM06
import Derived.ArgAppend
import Derived.Test.YtlgidcmmgohagaaGreatTreeM02
namespace Go.Proofs.YtlgidcmmgohagaaGreat
open Go.RowKit Go.Sort Go.Shelf Go.Proofs.Tryz
set_option linter.unusedVariables false
set_option maxRecDepth 100000
set_option maxHeartbeats 16000000
theorem ji (e:Int)(w:World):Calls prog 22 #[.int .i64 e] w fun r w'=>r=.returned (.int .i64 e)/\w'=w:=by
 go_enter func22,ntmps22;go_wp2;go_ret;exact⟨rfl,rfl⟩
abbrev fK:=Option Addr×Nat×Nat
def eR (h:fK):Value:=.slice h.1 h.2.1 h.2.2
def Bp (i:Nat):aK:=(ByteArray.empty,-1000-((i / 4:Nat):Int),0)
def Full (w:World)(i:Nat)(h:fK):Prop:=∀j,j<h.2.1->∃g,h.1=some ⟨g,0,none⟩/\w.cell? ⟨g,j*3,none⟩=some (.string (Bp i).1)/\w.cell? ⟨g,j*3+1,none⟩=some (.int .i64 (Bp i).2.1)/\w.cell? ⟨g,j*3+2,none⟩=some (.int .i64 (Bp i).2.2)
theorem Zm:(prog.info? 55).map (fun i=>(i.zero,i.size,i.bytes))=some (some (.slice none 0 0),1,24):=by kernel_rfl
def Zn (w:World)(la:Option Addr)(m:Nat):Prop:=(la=none->m=0)/\∀b,la=some b->∃g xs,b=⟨g,0,none⟩/\w.ownsRow 0 96 3 (.slice la m m) m xs
theorem jL (W:World)(cs:List Value)(t:TypeId):∀j u,cs[j]? = some u->(W.alloc (.cells cs.toArray t)).cell? ((⟨W.heap.size,0,none⟩:Addr).add j)=some u:=by
 intro j u h;rw[oC,Nat.zero_add]
 have:=heap_alloc_new W (.cells cs.toArray t)
 unfold World.cell?;rw[this];simpa using h
theorem gI {a:Option Addr}{n c:Nat}:∀u ∈ [Value.slice a n c],u.oneCell'=true:=by intro u hu;simp at hu;subst hu;rfl
def vH (q:Nat):aK:=(⟨#[]⟩,-1000-(q:Int),0)
def aci (w:World)(la:Option Addr)(m k q:Nat):Prop:=∀b,la=some b->∃g rest,b=⟨g,0,none⟩/\rest.length=(m-k)*3/\w.ownsRow 0 96 3 (.slice la m m) m (flat (List.replicate k (vH q))++rest)
theorem ax.refl {F:Nat->Prop}(w:World):ax F w w:=⟨rfl,rfl,rfl,bA _,fun _ _ _=>rfl⟩
def ur (w w':World)(W q:Nat)(cs:Array Value)(ea:Option Addr)(ec:Nat)(la:Option Addr)(m:Nat)(hs:List fK):Prop:=
 ∃g4 c4 ga ca gb cb gc cc,w'.heap[W]? = some (.cells (cs.setIfInBounds 9 (.slice (some ⟨g4,0,none⟩) (4*q+4) c4)) 71 (0,0))/\
  w'.ownsRow 0 55 1 (.slice (some ⟨g4,0,none⟩) (4*q+4) c4) (4*q+4) ((hs ++ [(la,m,m),(some ⟨ga,0,none⟩,m+1,ca),(some ⟨gb,0,none⟩,m+2,cb),(some ⟨gc,0,none⟩,m+3,cc)]).map eR)/\
  (∀b,la=some b->∃g,b=⟨g,0,none⟩/\w'.ownsRow 0 96 3 (.slice la m m) m (flat (List.replicate m (vH q))))/\
  w'.ownsRow w.heap.size 96 3 (.slice (some ⟨ga,0,none⟩) (m+1) ca) (m+1) (flat (List.replicate (m+1) (vH q)))/\
  w'.ownsRow w.heap.size 96 3 (.slice (some ⟨gb,0,none⟩) (m+2) cb) (m+2) (flat (List.replicate (m+2) (vH q)))/\
  w'.ownsRow w.heap.size 96 3 (.slice (some ⟨gc,0,none⟩) (m+3) cc) (m+3) (flat (List.replicate (m+3) (vH q)))/\
  ((some g4:Option Nat)=(Value.slice ea (4*q) ec).ownBlock\/w.heap.size<=g4)/\
  ax (fun x=>x=W\/some x=(Value.slice ea (4*q) ec).ownBlock\/some x=(Value.slice la m m).ownBlock) w w'
theorem rG {w S S':World}{W:Nat}{cs cs':Array Value}{Fo SE:Option Nat}{a:Option Addr}{n c g n' c':Nat}{xs xs':List Value}(hW:S.heap[W]? = some (.cells cs 71 (0,0)))(row:S.ownsRow 0 55 1 (.slice a n c) n xs)
  (loc:∀x,(Value.slice a n c).ownBlock=some x->some x=Fo\/w.heap.size<=x)(hk:ax (fun x=>x=W\/some x=Fo\/some x=SE) w S)
  (P:S'.heap[W]? = some (.cells cs' 71 (0,0))/\S'.ownsRow 0 55 1 (.slice (some ⟨g,0,none⟩) n' c') n' xs'/\((some g:Option Nat)=(Value.slice a n c).ownBlock\/S.heap.size<=g)/\ax (fun k=>k=W\/some k=(Value.slice a n c).ownBlock) S S'):
  (∀x,(Value.slice (some ⟨g,0,none⟩) n' c').ownBlock=some x->some x=Fo\/w.heap.size<=x)/\ax (fun x=>x=W\/some x=Fo\/some x=SE) w S'/\
   ∀{b:Nat} {v:Value} {l:Nat} {ys:List Value},S.ownsRow b 96 3 v l ys->S'.ownsRow b 96 3 v l ys:=by
 obtain⟨p1,p2,p3,p4⟩:=P;refine⟨fun x hx=>?_,⟨p4.os.trans hk.os,p4.tape.trans hk.tape,p4.output.trans hk.output,eU hk.size p4.size,fun x hx hn=>?_⟩,fun hr=>jc hr p4 hW (by decide) (fun g hg=>cS hr row (by decide) hg)⟩
 ·simp only[Value.ownBlock,Option.some.injEq] at hx
  subst hx;rcases p3 with e | e
  ·exact loc _ e.symm
  ·exact .inr (eU hk.size e)
 ·rw[p4.block x (cv hx hk.size) ?_]
  ·exact hk.block x hx hn
  ·rintro (e | e)
   ·exact hn (.inl e)
   ·rcases loc x e.symm with h | h
    ·exact hn (.inr (.inl h))
    ·omega
theorem su (W q:Nat)(cs:Array Value)(ea:Option Addr)(ec m:Nat)(la:Option Addr)(hs:List fK)(w:World)(hW:w.heap[W]? = some (.cells cs 71 (0,0)))(h9:cs[9]? = some (.slice ea (4*q) ec))(hn:hs.length=4*q)(hlen:4*q<=1000000000)
  (row:w.ownsRow 0 55 1 (.slice ea (4*q) ec) (4*q) (hs.map eR))(hm:m<=16)(hl:Zn w la m):
  Calls prog 44 #[.pointer (some ⟨W,8,none⟩),.slice la m m] w fun e w'=>e=.returned (.tuple #[])/\ur w w' W q cs ea ec la m hs:=by
 obtain⟨i0,hi,hz0,hz1,hz2⟩:=info_parts Ig;obtain⟨iS,hS,Gz,hS1,yy⟩:=info_parts Zm;have qu:W<w.heap.size:=(Array.getElem?_eq_some_iff.1 hW).1;have e9:w.cell? ⟨W,9,none⟩=some (.slice ea (4*q) ec):=by simp[World.cell?,hW,h9]
 have HC:Hid (Zn w la m):=hl;have HR:Hid (w.ownsRow 0 55 1 (.slice ea (4*q) ec) (4*q) (hs.map eR)):=row;have HFI:Hid (∀B:Obj,aci (w.alloc B) la m 0 q):=fun B b hb=>by
  obtain⟨g,xs,h1,h2⟩:=hl.2 b hb;exact⟨g,xs,h1,by rw[h2.1,Nat.sub_zero],by simpa [flat] using h2.alloc B⟩
 have xT:Hid (∀g,(Value.slice la m m).ownBlock=some g->g<w.heap.size/\g≠W):=fun g hg=>by
  cases la with
  | none=>cases hg
  | some b=>
   obtain⟨g',xs,h1,h2⟩:=hl.2 b rfl;refine⟨ah h2 hg,fun e=>?_⟩;subst e;exact aA h2 hW (by decide) hg.symm
 have h9l:9<cs.size:=(Array.getElem?_eq_some_iff.1 h9).1;have h9s:∀v:Value,(cs.setIfInBounds 9 v)[9]? = some v:=fun v=>by simp[h9l]
 clear hl row;go_enter func44,ntmps44;go_wp2
 go_loopw [5] (fun i wr=>∃k:Nat,k<=m/\i=.int .i64 (k:Int)/\Hid (ax (fun x=>some x=(Value.slice la m m).ownBlock) (w.alloc (.cells #[.string ⟨#[]⟩,.int .i64 (-1000-(q:Int)),.int .i64 0] 96)) wr)/\Hid (aci wr la m k q)) (fun i _=>m-(intOf i).toNat)
 case atStart=>exact⟨0,dG _,rfl,ax.refl _,HFI.out _⟩
 case round=>
  obtain⟨k,hk,rfl,HK,HF⟩:=hrel;have hkb:∀x,x<w.heap.size+1->some x≠(Value.slice la m m).ownBlock->wr.heap[x]? = (w.alloc (.cells #[.string ⟨#[]⟩,.int .i64 (-1000-(q:Int)),.int .i64 0] 96)).heap[x]?:=fun x hx hne=>HK.out.block x (by simpa using hx) hne;have SF:wr.heap[w.heap.size]? = some (.cells #[.string ⟨#[]⟩,.int .i64 (-1000-(q:Int)),.int .i64 0] 96 (0,0)):=by
   rw[hkb w.heap.size (by omega) (fun e=>by have:=(xT.out _ e.symm).1;omega)];exact heap_alloc_new _ _
  have x0:wr.cell? ⟨w.heap.size,0,none⟩=some (.string ⟨#[]⟩):=by simp[World.cell?,SF]
  have x1:wr.cell? ⟨w.heap.size,1,none⟩=some (.int .i64 (-1000-(q:Int))):=by simp[World.cell?,SF]
  have x2:wr.cell? ⟨w.heap.size,2,none⟩=some (.int .i64 0):=by simp[World.cell?,SF]
  have HBX:Hid _:=SF;clear SF;by_cases hlt:k<m
  ·cases la with
   | none=>have:=HC.out.1 rfl;omega
   | some b=>
    obtain⟨g,rest,rfl,uS,hown⟩:=HF.out b rfl;have ET:=fun j=>hown.frozenAt j;have hcs:∀j,j<3->∃v,wr.cell? ⟨g,k*3+j,none⟩=some v:=fun j hj=>by
     rw[hown.cellAt (k*3+j) (by omega)];exact⟨_,kO (by rw[List.length_append,bl,List.length_replicate,uS];omega)⟩
    obtain⟨v0,y0⟩:=hcs 0 (by omega);obtain⟨v1,y1⟩:=hcs 1 (by omega);obtain⟨v2,y2⟩:=hcs 2 (by omega);rw[Nat.add_zero] at y0;have uP:(k:Int)<(m:Int):=by omega
    have HO:Hid _:=hown;have hgw:g≠w.heap.size:=fun e=>by have:=(xT.out g rfl).1;omega
    clear hcs hown hkb;go_wp2;go_roundw
    case rel=>
     refine⟨k+1,by omega,by go_num,?_,?_⟩
     ·exact⟨HK.out.os,HK.out.tape,HK.out.output,by simpa using HK.out.size,fun x hx hne=>by
       have Ra:x≠g:=fun e=>hne (by rw[e];rfl);rw[Below.heap_setCell _ _ _ _ Ra,Below.heap_setCell _ _ _ _ Ra,Below.heap_setCell _ _ _ _ Ra];exact HK.out.block x hx hne⟩
     ·intro b hb
      cases hb;refine⟨g,rest.drop 3,rfl,by rw[List.length_drop,uS];omega,?_⟩
      have:=Zl (n:=k) HO.out (by simp) (by omega) (vH q)
      rw[<-List.replicate_succ'] at this;exact this
    case measure=>simp[intOf];omega
  ·have j4:k=m:=by omega
   subst j4;have Zo:Hid (∀b,la=some b->∃g,b=⟨g,0,none⟩/\wr.ownsRow 0 96 3 (.slice la k k) k (flat (List.replicate k (vH q)))):=fun b hb=>by
    obtain⟨g,rest,h1,h2,h3⟩:=HF.out b hb
    have:rest = []:=List.eq_nil_of_length_eq_zero (by rw[h2];omega)
    subst this;exact⟨g,h1,by simpa using h3⟩
   have Zp:Hid (la=none->k=0/\k=0):=fun h=>⟨HC.out.1 h,HC.out.1 h⟩;have HLO:Hid ((flat (List.replicate k (vH q))).length=k*3):=by show _=_;rw[bl,List.length_replicate]
   have HH:Hid (∀W':World,(∀x,x<wr.heap.size->W'.heap[x]? = wr.heap[x]?)->∀b,la=some b->∀j u,(flat (List.replicate k (vH q)))[j]? = some u->W'.cell? (b.add j)=some u):=fun W' SG b hb j u hu=>by
    obtain⟨g,rfl,ho⟩:=Zo.out b hb;subst hb;have h1:=ho.cells (g:=g) rfl j u hu;rw[oC] at h1 ⊢;rw[World.cell?_of_block (a:=⟨g,0+j,none⟩) (SG g (ah ho rfl))];exact h1
   have O0:((k:Int)<(k:Int))=False:=by simp
   go_wp2_with (at_builtin;refine wpList_append_grows _ rfl (.tmp 27) (.tmp 29) 55 rfl 96 i0 _ 3 32 underlying55 hi hz0 hz1 hz2 rfl (by decide) la k k (flat (List.replicate k (vH q))) rfl Zp.out HLO.out (HH.out _ (bh _ _)) ⟨wr.heap.size,0,none⟩ 1 1 (bL (vH q)) rfl rfl (bD wr (vH q) _ _ rfl) (bJ _) (by omega) (by unfold maxLen;omega) (by omega) ?_);intro va wa Q8 xR;obtain⟨ga,ca,rfl⟩:=ak Q8 (by omega);have hsz:w.heap.size<wr.heap.size:=(Array.getElem?_eq_some_iff.1 HBX.out).1;have BA:Hid (Below wr.heap.size wr wa):=((Below.refl _ _).alloc (bA _) _).grown xR (by simp) (fun k h=>by cases h);have HOA:Hid (wa.ownsRow (wr.heap.size+1) 96 3 (.slice (some ⟨ga,0,none⟩) (k+1) ca) (k+1) (flat (List.replicate (k+1) (vH q)))):=by rw[List.replicate_succ',aZ,bp];exact Q8
   have xa0:=(BA.out.cell (p:=⟨w.heap.size,0,none⟩) hsz).trans x0;have xa1:=(BA.out.cell (p:=⟨w.heap.size,1,none⟩) hsz).trans x1;have xa2:=(BA.out.cell (p:=⟨w.heap.size,2,none⟩) hsz).trans x2;have sa:wr.heap.size<=wa.heap.size:=BA.out.size;have HWA:Hid (∀o:Obj,∀x,x<wr.heap.size->(wa.alloc o).heap[x]? = wr.heap[x]?):=fun o x hx=>(bh wa o x (by omega)).trans (BA.out.block x hx);clear xR Q8;go_wp2_with (at_builtin;refine wpList_append_grows _ rfl (.tmp 31) (.tmp 34) 55 rfl 96 i0 _ 3 32 underlying55 hi hz0 hz1 hz2 rfl (by decide) la k k (flat (List.replicate k (vH q))) rfl Zp.out HLO.out (HH.out _ (HWA.out _)) ⟨wa.heap.size,0,none⟩ 2 2 (flat [vH q,vH q]) rfl rfl (jL wa (flat [vH q,vH q]) 96) (iY _) (by omega) (by unfold maxLen;omega) (by omega) ?_);intro vb wb pG hgb;obtain⟨gb,cb,rfl⟩:=ak pG (by omega);have BB:Hid (Below wa.heap.size wa wb):=((Below.refl _ _).alloc (bA _) _).grown hgb (by simp) (fun k h=>by cases h);have HOB:Hid (wb.ownsRow (wa.heap.size+1) 96 3 (.slice (some ⟨gb,0,none⟩) (k+2) cb) (k+2) (flat (List.replicate (k+2) (vH q)))):=by rw[<-List.replicate_append_replicate,aZ];exact pG
   have xb0:=(BB.out.cell (p:=⟨w.heap.size,0,none⟩) (by show w.heap.size<_;omega)).trans xa0;have xb1:=(BB.out.cell (p:=⟨w.heap.size,1,none⟩) (by show w.heap.size<_;omega)).trans xa1;have xb2:=(BB.out.cell (p:=⟨w.heap.size,2,none⟩) (by show w.heap.size<_;omega)).trans xa2;have sb:wa.heap.size<=wb.heap.size:=BB.out.size;have HWB:Hid (∀o:Obj,∀x,x<wr.heap.size->(wb.alloc o).heap[x]? = wr.heap[x]?):=fun o x hx=>(bh wb o x (by omega)).trans ((BB.out.block x (by omega)).trans (BA.out.block x hx));clear hgb pG xa0 xa1 xa2;go_wp2_with (at_builtin;refine wpList_append_grows _ rfl (.tmp 36) (.tmp 40) 55 rfl 96 i0 _ 3 32 underlying55 hi hz0 hz1 hz2 rfl (by decide) la k k (flat (List.replicate k (vH q))) rfl Zp.out HLO.out (HH.out _ (HWB.out _)) ⟨wb.heap.size,0,none⟩ 3 3 (flat [vH q,vH q,vH q]) rfl rfl (jL wb (flat [vH q,vH q,vH q]) 96) (iY _) (by omega) (by unfold maxLen;omega) (by omega) ?_);intro vc wc J6 hgc;obtain⟨gc,cc,rfl⟩:=ak J6 (by omega);have BC:Hid (Below wb.heap.size wb wc):=((Below.refl _ _).alloc (bA _) _).grown hgc (by simp) (fun k h=>by cases h);have HOC:Hid (wc.ownsRow (wb.heap.size+1) 96 3 (.slice (some ⟨gc,0,none⟩) (k+3) cc) (k+3) (flat (List.replicate (k+3) (vH q)))):=by rw[<-List.replicate_append_replicate,aZ];exact J6
   have sc:wb.heap.size<=wc.heap.size:=BC.out.size;clear hgc J6 xb0 xb1 xb2;have BR:Hid (Below wr.heap.size wr wc):=(BA.out.trans (BB.out.mono sa)).trans (BC.out.mono (by omega));have DT:wc.heap[W]? = some (.cells cs 71 (0,0)):=by
    rw[BR.out.block W (by omega),hkb W (by omega) (fun e=>(xT.out W e.symm).2 rfl),Below.heap_alloc _ _ _ qu];exact hW
   have Nr:Hid (wc.ownsRow 0 55 1 (.slice ea (4*q) ec) (4*q) (hs.map eR)):=ai HR.out (fun g hg=>by
    have hl:=ah HR.out hg;rw[BR.out.block g (by omega),hkb g (by omega) (fun e=>?_),Below.heap_alloc _ _ _ hl];cases la with
    | none=>cases e
    | some b=>
     obtain⟨g',_,ho⟩:=Zo.out b rfl;obtain⟨cur,zX⟩:=iK HR.out hg;have Oz:=xT.out g e.symm;obtain⟨g2,xs2,h1,h2⟩:=HC.out.2 b rfl;exact cS HR.out h2 (by decide) hg e)
   have acn:W<wc.heap.size:=by omega
   have p9:wc.cell? ⟨W,9,none⟩=some (.slice ea (4*q) ec):=by simp[World.cell?,DT,h9]
   have f9:wc.frozen? ⟨W,9,none⟩=false:=by simp[World.frozen?,DT]
   go_wp2_with (at_builtin;refine aY rfl (.tmp 46) (.tmp 48) 65 rfl 0 55 iS _ 1 24 underlying65 hS Gz hS1 yy rfl (by decide) (.slice ea (4*q) ec) (4*q) (hs.map eR) rfl (World.ownsRow.alloc Nr.out _) ⟨wc.heap.size,0,none⟩ 1 1 [.slice la k k] rfl rfl (one_cell _ _ _ _ rfl) gI (by unfold maxLen;omega) (by omega) (dG _) ?_);intro v1 w1 Fg hg1 pJ;obtain⟨g1,c1,rfl⟩:=ak Fg (by omega);have P1:=cq (i:=9) DT Nr.out (by decide) (bh _ _) (by simp) ⟨rfl,rfl,rfl⟩ Fg hg1 pJ (by omega);have hW1:=dW DT (bh _ _) (by simp) hg1 (aA Nr.out DT (by decide));have s1:wc.heap.size<=w1.heap.size:=by have:=hg1.size;simp at this;omega
   have p91:w1.cell? ⟨W,9,none⟩=some (.slice ea (4*q) ec):=by simp[World.cell?,hW1,h9]
   have f91:w1.frozen? ⟨W,9,none⟩=false:=by simp[World.frozen?,hW1]
   have H1:Hid _:=P1;have Zq:W<w1.heap.size:=by omega
   clear Fg hg1 pJ P1 hW1 p9 f9;go_wp2_with (at_builtin;refine aY rfl (.tmp 56) (.tmp 58) 65 rfl 0 55 iS _ 1 24 underlying65 hS Gz hS1 yy rfl (by decide) (.slice (some ⟨g1,0,none⟩) (4*q+1) c1) (4*q+1) (hs.map eR ++ [.slice la k k]) rfl (World.ownsRow.alloc H1.out.2.1 _) ⟨w1.heap.size,0,none⟩ 1 1 [.slice (some ⟨ga,0,none⟩) (k+1) ca] rfl rfl (one_cell _ _ _ _ (by simp)) gI (by unfold maxLen;omega) (by omega) (dG _) ?_);intro v2 w2 Fh hg2 pK;obtain⟨g2,c2,rfl⟩:=ak Fh (by omega);have Ih:w2.ownsRow 0 55 1 (.slice (some ⟨g2,0,none⟩) (4*q+1+1) c2) (4*q+1+1) (hs.map eR ++ [.slice la k k] ++ [.slice (some ⟨ga,0,none⟩) (k+1) ca]):=by simpa using Fh
   have P2:=cq (i:=9) H1.out.1 H1.out.2.1 (by decide) (bh _ _) (by simp) ⟨rfl,rfl,rfl⟩ Ih hg2 pK (by simp);have hW2:=dW H1.out.1 (bh _ _) (by simp) hg2 (aA H1.out.2.1 H1.out.1 (by decide));have s2:w1.heap.size<=w2.heap.size:=by have:=hg2.size;simp at this;omega
   have p92:w2.cell? ⟨W,9,none⟩=some (.slice (some ⟨g1,0,none⟩) (4*q+1) c1):=by simp[World.cell?,hW2,h9s]
   have f92:w2.frozen? ⟨W,9,none⟩=false:=by simp[World.frozen?,hW2]
   have H2:Hid _:=P2;have V4:W<w2.heap.size:=by omega
   clear Fh Ih hg2 pK P2 hW2 p91 f91;go_wp2_with (at_builtin;refine aY rfl (.tmp 66) (.tmp 68) 65 rfl 0 55 iS _ 1 24 underlying65 hS Gz hS1 yy rfl (by decide) (.slice (some ⟨g2,0,none⟩) (4*q+1+1) c2) (4*q+1+1) (hs.map eR ++ [.slice la k k] ++ [.slice (some ⟨ga,0,none⟩) (k+1) ca]) rfl (World.ownsRow.alloc H2.out.2.1 _) ⟨w2.heap.size,0,none⟩ 1 1 [.slice (some ⟨gb,0,none⟩) (k+2) cb] rfl rfl (one_cell _ _ _ _ (by simp)) gI (by unfold maxLen;omega) (by omega) (dG _) ?_);intro v3 w3 wL hg3 kG;obtain⟨g3,c3,rfl⟩:=ak wL (by omega);have Ii:w3.ownsRow 0 55 1 (.slice (some ⟨g3,0,none⟩) (4*q+1+1+1) c3) (4*q+1+1+1) (hs.map eR ++ [.slice la k k] ++ [.slice (some ⟨ga,0,none⟩) (k+1) ca] ++ [.slice (some ⟨gb,0,none⟩) (k+2) cb]):=by simpa using wL
   have P3:=cq (i:=9) H2.out.1 H2.out.2.1 (by decide) (bh _ _) (by simp) ⟨rfl,rfl,rfl⟩ Ii hg3 kG (by simp);have hW3:=dW H2.out.1 (bh _ _) (by simp) hg3 (aA H2.out.2.1 H2.out.1 (by decide));have s3:w2.heap.size<=w3.heap.size:=by have:=hg3.size;simp at this;omega
   have p93:w3.cell? ⟨W,9,none⟩=some (.slice (some ⟨g2,0,none⟩) (4*q+1+1) c2):=by simp[World.cell?,hW3,h9l]
   have f93:w3.frozen? ⟨W,9,none⟩=false:=by simp[World.frozen?,hW3]
   have H3:Hid _:=P3;have Zr:W<w3.heap.size:=by omega
   clear wL Ii hg3 kG P3 hW3 p92 f92;go_wp2_with (at_builtin;refine aY rfl (.tmp 76) (.tmp 78) 65 rfl 0 55 iS _ 1 24 underlying65 hS Gz hS1 yy rfl (by decide) (.slice (some ⟨g3,0,none⟩) (4*q+1+1+1) c3) (4*q+1+1+1) (hs.map eR ++ [.slice la k k] ++ [.slice (some ⟨ga,0,none⟩) (k+1) ca] ++ [.slice (some ⟨gb,0,none⟩) (k+2) cb]) rfl (World.ownsRow.alloc H3.out.2.1 _) ⟨w3.heap.size,0,none⟩ 1 1 [.slice (some ⟨gc,0,none⟩) (k+3) cc] rfl rfl (one_cell _ _ _ _ (by simp)) gI (by unfold maxLen;omega) (by omega) (dG _) ?_);intro v4 w4 KV hg4 qz;obtain⟨g4,c4,rfl⟩:=ak KV (by omega);have Ij:w4.ownsRow 0 55 1 (.slice (some ⟨g4,0,none⟩) (4*q+1+1+1+1) c4) (4*q+1+1+1+1) (hs.map eR ++ [.slice la k k] ++ [.slice (some ⟨ga,0,none⟩) (k+1) ca] ++ [.slice (some ⟨gb,0,none⟩) (k+2) cb] ++ [.slice (some ⟨gc,0,none⟩) (k+3) cc]):=by simpa using KV
   have P4:=cq (i:=9) H3.out.1 H3.out.2.1 (by decide) (bh _ _) (by simp) ⟨rfl,rfl,rfl⟩ Ij hg4 qz (by simp);have Bq:=dW H3.out.1 (bh _ _) (by simp) hg4 (aA H3.out.2.1 H3.out.1 (by decide));have p94:w4.cell? ⟨W,9,none⟩=some (.slice (some ⟨g3,0,none⟩) (4*q+1+1+1) c3):=by simp[World.cell?,Bq,h9l]
   have f94:w4.frozen? ⟨W,9,none⟩=false:=by simp[World.frozen?,Bq]
   have H4:Hid _:=P4;clear KV Ij hg4 qz P4 Bq p93 f93;have HKC:Hid (ax (fun x=>x=W\/some x=(Value.slice ea (4*q) ec).ownBlock\/some x=(Value.slice la k k).ownBlock) w wc):=by
    have z:=HK.out.size;simp at z;exact⟨BR.out.os.trans HK.out.os,BR.out.tape.trans HK.out.tape,BR.out.output.trans HK.out.output,by have:=BR.out.size;omega,fun x hx hne=>by rw[BR.out.block x (by omega),hkb x (by omega) (fun e=>hne (.inr (.inr e))),Below.heap_alloc _ _ _ hx]⟩
   have T1:=rG DT Nr.out (fun x hx=>.inl hx.symm) HKC.out H1.out;have T2:=rG H1.out.1 H1.out.2.1 T1.1 T1.2.1 H2.out;have T3:=rG H2.out.1 H2.out.2.1 T2.1 T2.2.1 H3.out;have T4:=rG H3.out.1 H3.out.2.1 T3.1 T3.2.1 H4.out;have qA:Hid (ur w (w4.setCell ⟨W,9,none⟩ (.slice (some ⟨g4,0,none⟩) (4*q+1+1+1+1) c4)) W q cs ea ec la k hs):=by
    have all:∀{b:Nat} {v:Value} {l:Nat} {ys:List Value},wc.ownsRow b 96 3 v l ys->(w4.setCell ⟨W,9,none⟩ (.slice (some ⟨g4,0,none⟩) (4*q+1+1+1+1) c4)).ownsRow b 96 3 v l ys:=fun h=>T4.2.2 (T3.2.2 (T2.2.2 (T1.2.2 h)));refine⟨g4,c4,ga,ca,gb,cb,gc,cc,?_,?_,fun b hb=>?_,?_,?_,?_,T4.1 g4 rfl,T4.2.1⟩
    ·have:=H4.out.1
     simpa using this
    ·have:=H4.out.2.1
     simpa [eR] using this
    ·obtain⟨g,h1,h2⟩:=Zo.out b hb
     exact⟨g,h1,all (ai h2 (fun x hx=>BR.out.block x (ah h2 hx)))⟩
    ·have h:=HOA.out
     exact cL (all (ai h (fun x hx=>by
      have hl:=ah h hx;rw[BC.out.block x (by omega),BB.out.block x hl]))) (by omega)
    ·have h:=HOB.out
     exact cL (all (ai h (fun x hx=>BC.out.block x (ah h hx)))) (by omega)
    ·exact cL (all HOC.out) (by omega)
   clear T1 T2 T3 T4;go_wp2;go_end0;exact⟨rfl,qA.out⟩
def Twin (ag au:List Ob):Prop:=ag.length=au.length/\(∀i (h1:i<ag.length) (h2:i<au.length),vE ag[i] au[i])/\∀o ∈ ag,o.kind=1\/o.kind=2
theorem rH {α β:Type}(p:α->Bool)(q:β->Bool):∀(xs:List α) (ys:List β),xs.length=ys.length->(∀i (h1:i<xs.length) (h2:i<ys.length),p xs[i]=q ys[i])->xs.findIdx? p=ys.findIdx? q
 | [],[],_,_=>rfl
 | [],_ :: _,h,_=>by simp at h
 | _ :: _,[],h,_=>by simp at h
 | x :: xs,y :: ys,h,hp=>by
  have h0:=hp 0 (by simp) (by simp)
  simp only[List.getElem_cons_zero] at h0
  rw[List.findIdx?_cons,List.findIdx?_cons,h0,rH p q xs ys (by simpa using h) (fun i h1 h2=>by have:=hp (i+1) (by simpa using h1) (by simpa using h2);simpa using this)]
theorem KW {a b:aK}(h:dg a=dg b):a=b:=by
 unfold dg at h;simp only[Prod.mk.injEq] at h;obtain⟨h1,h2,h3⟩:=h;exact Prod.ext h1 (Prod.ext h2 (by omega))
theorem xb {α β:Type}(f:α->β)(hf:∀a b,f a=f b->a=b):∀(xs ys:List α),xs.map f=ys.map f->xs=ys
 | [],[],_=>rfl
 | [],_ :: _,h=>by simp at h
 | _ :: _,[],h=>by simp at h
 | x :: xs,y :: ys,h=>by
  simp only[List.map_cons,List.cons.injEq] at h
  rw[hf x y h.1,xb f hf xs ys h.2]
theorem O1 {ag au:List Ob}(h:Twin ag au)(d:ByteArray):findAt au (eP d)=fileAt ag d:=by
 refine (rH _ _ ag au h.1 fun i h1 h2=>?_).symm;have a:=h.2.1 i h1 h2;unfold nG eP;by_cases hk:ag[i].kind=1
 ·rw[a.kind,hk,a.data hk,a.none hk];simp
 ·rw[a.kind];simp[hk]
theorem SH {ag au:List Ob}(h:Twin ag au)(v:Option Addr×Nat)(m:Nat)(es:List aK):findAt au (KA v m (es.map dg))=mK ag es:=by
 refine (rH _ _ ag au h.1 fun i h1 h2=>?_).symm;have a:=h.2.1 i h1 h2;unfold nG KA;by_cases hk:ag[i].kind=2
 ·rw[a.kind,hk,a.empty hk,a.aV hk]
  have:decide (ag[i].aV.map dg=es.map dg)=decide (ag[i].aV=es):=by
   by_cases e:ag[i].aV=es
   ·rw[e];simp
   ·rw[dY e,dY (fun h=>e (xb dg (fun a b=>KW) _ _ h))]
  rw[this];simp
 ·rw[a.kind];simp[hk]
theorem SI {α:Type}(p:α->Bool):∀(l:List α) {y:α},y ∈ l.takeWhile p->p y=true
 | [],y,h=>by cases h
 | x :: l,y,h=>by
  cases hx:p x with
  | true=>
   rw[List.takeWhile_cons_of_pos hx] at h
   rcases List.mem_cons.1 h with rfl | h
   ·exact hx
   ·exact SI p l h
  | false=>
   rw[List.takeWhile_cons_of_neg (by simp[hx])] at h
   cases h
theorem Ik {out:List aK}{x:aK}(h:gC out)(hx:∀y ∈ out,y.1≠x.1):gC (wF out x):=by
 unfold wF;have SJ:=List.takeWhile_append_dropWhile (p:=fun y:aK=>jr y.1 x.1) (l:=out);have CP:gC (out.takeWhile (fun y=>jr y.1 x.1)++out.dropWhile (fun y=>jr y.1 x.1)):=by rw[SJ];exact h
 obtain⟨p1,p2,p3⟩:=List.pairwise_append.1 CP;have low:∀y ∈ out.takeWhile (fun y=>jr y.1 x.1),CL y x<0:=fun y hy=>by
  have:=SI _ _ hy
  unfold jr at this;exact of_decide_eq_true this
 have high:∀y ∈ out.dropWhile (fun y=>jr y.1 x.1),CL x y<0:=by
  cases hd:out.dropWhile (fun y=>jr y.1 x.1) with
  | nil=>intro y hy;cases hy
  | cons z zs=>
   have hz:jr z.1 x.1=false:=by
    have:=List.head?_dropWhile_not (p:=fun y:aK=>jr y.1 x.1) out
    rw[hd] at this;simpa using this
   have hzm:z ∈ out:=by rw[<-SJ,hd];simp
   have hxz:CL x z<0:=by
    unfold CL;unfold jr at hz;have hn:=of_decide_eq_false hz;have hsw:=oB z.1.data.toList x.1.data.toList;by_cases h0:Lib.compareBytes z.1.data.toList x.1.data.toList=0
    ·exact absurd (bytes_inj (ku _ _ h0)) (hx z hzm)
    ·omega
   intro y hy;rcases List.mem_cons.1 hy with rfl | hy
   ·exact hxz
   ·rw[hd] at p2
    exact lT _ _ _ hxz ((List.pairwise_cons.1 p2).1 y hy)
 refine List.pairwise_append.2 ⟨p1,List.pairwise_cons.2 ⟨high,p2⟩,fun a ha b hb=>?_⟩;rcases List.mem_cons.1 hb with rfl | hb
 ·exact low a ha
 ·exact p3 a ha b hb
theorem pP:∀(ls out:List aK),gC out->((ls++out).map (·.1)).Nodup->gC (ls.foldl wF out)
 | [],out,h,_=>h
 | x :: r,out,h,hn=>by
  rw[List.foldl_cons]
  have CI:(x.1 :: ((r++out).map (·.1))).Nodup:=by simpa using hn
  obtain⟨n1,n2⟩:=List.nodup_cons.1 CI
  refine pP r (wF out x) (Ik h fun y hy e=>n1 (by rw[<-e];exact List.mem_map_of_mem (List.mem_append_right _ hy))) ?_
  have hp:(r++wF out x).Perm (x :: (r++out)):=((Dw out x).append_left r).trans List.perm_middle
  exact (hp.map (·.1)).nodup_iff.2 (by simpa using CI)
theorem uW {ls:List aK}(hn:(ls.map (·.1)).Nodup):gC (fF ls):=pP ls [] List.Pairwise.nil (by simpa using hn)
theorem uX:∀{xs ys:List aK},gC xs->gC ys->xs.Perm ys->xs=ys
 | [],ys,_,_,h=>(List.nil_perm.1 h).symm ▸ rfl
 | x :: xs,[],_,_,h=>by have:=h.length_eq;simp at this
 | x :: xs,y :: ys,hx,hy,h=>by
  have irr:∀a:aK,¬CL a a<0:=fun a=>by unfold CL;rw[sG];omega
  obtain⟨x1,x2⟩:=List.pairwise_cons.1 hx
  obtain⟨y1,y2⟩:=List.pairwise_cons.1 hy
  have e:x=y:=by
   have KH:x ∈ y :: ys:=h.mem_iff.1 (List.mem_cons_self ..);have OO:y ∈ x :: xs:=h.mem_iff.2 (List.mem_cons_self ..);rcases List.mem_cons.1 KH with e | KH
   ·exact e
   ·rcases List.mem_cons.1 OO with e | OO
    ·exact e.symm
    ·have a:=y1 x KH
     have b:=x1 y OO;exact absurd (lT _ _ _ a b) (irr y)
  subst e;rw[uX x2 y2 (List.Perm.cons_inv h)]
def gL (n:Nat)(e:aK):aK:=(e.1,e.2.1,if 1<=e.2.2/\e.2.2<=(n:Int) then e.2.2-1 else -1)
theorem V5 {n:Nat}{e:aK}(h:1<=e.2.2/\e.2.2<=(n:Int)):gL n e=dg e:=by unfold gL dg;rw[aL h]
theorem O2 {ag au:List Ob}(h:Twin ag au){j:Nat}(hj:j<ag.length):ag[j].kind≠0:=by
 rcases h.2.2 _ (jk hj) with e | e <;> rw[e] <;> decide
theorem DU {ag au:List Ob}(h:Twin ag au)(e:aK):kW au (gL ag.length e)=eV ag e:=by
 unfold kW eV gL;by_cases hr:1<=e.2.2/\e.2.2<=(ag.length:Int)
 ·obtain⟨j,hj⟩:∃j:Nat,e.2.2=(j:Int)+1:=⟨(e.2.2-1).toNat,by omega⟩
  have lU:j<ag.length:=by omega
  have Gy:j<au.length:=by rw[<-h.1];exact lU
  simp only[hr,and_self,if_true];rw[hj,dL lU,show ((j:Int)+1-1)=(j:Int) by omega,Int.toNat_natCast,kO Gy];have hk:=(h.2.1 j lU Gy).kind;have h0:=O2 h lU;simp only[Option.map_some,Option.getD_some,hk];rw[decide_eq_true (by omega)];have hz:(ag[j].kind == 0)=false:=by simpa using h0
  rw[hz];by_cases j4:ag[j].kind=e.2.1
  ·rw[decide_eq_true j4,beq_iff_eq.2 j4];rfl
  ·rw[dY j4,beq_false_of_ne j4];rfl
 ·rw[ay hr,fD (by omega)]
  simp
theorem Br {ag:List Ob}{e:aK}(h:eV ag e=true):1<=e.2.2/\e.2.2<=(ag.length:Int):=by
 by_cases hid:e.2.2<1\/(ag.length:Int)<e.2.2
 ·unfold eV at h;rw[fD hid] at h;simp at h
 ·omega
theorem O3 {ag au:List Ob}(h:Twin ag au){e:aK}(hg:eV ag e=true):ze au (gL ag.length e)=cC ag e.2.2:=by
 have hr:=Br hg;obtain⟨j,hj⟩:∃j:Nat,e.2.2=(j:Int)+1:=⟨(e.2.2-1).toNat,by omega⟩;have lU:j<ag.length:=by omega
 have Gy:j<au.length:=by rw[<-h.1];exact lU
 unfold ze gL;simp only[hr,and_self,if_true];rw[hj,ya lU,show ((j:Int)+1-1)=(j:Int) by omega,Int.toNat_natCast,kO Gy];exact (h.2.1 j lU Gy).high
theorem Bt {ag au:List Ob}(h:Twin ag au):∀(es:List aK) (a:Int),(∀e ∈ es,eV ag e=true)->(es.map (gL ag.length)).foldl (fun h e=>max h (1+ze au e)) a=es.foldl (fun h e=>max h (1+cC ag e.2.2)) a
 | [],_,_=>rfl
 | e :: r,a,hg=>by
  simp only[List.map_cons,List.foldl_cons]
  rw[O3 h (hg e (List.mem_cons_self ..))]
  exact Bt h r _ (fun x hx=>hg x (List.mem_cons_of_mem _ hx))
theorem SK (n:Nat)(ls:List aK):(ls.map (gL n)).map (·.1)=ls.map (·.1):=by
 rw[List.map_map];rfl
def vI (ag aN au bC:List Ob)(id ec x y:Int):Prop:=
 ec=y/\Twin aN bC/\((y≠0/\id=0/\aN=ag/\bC=au)\/(y=0/\∃j:Nat,x=(j:Int)/\id=(j:Int)+1/\((aN=ag/\bC=au/\j<ag.length)\/(j=ag.length/\aN.length=ag.length+1))))
theorem DV {ag au:List Ob}(h:Twin ag au){o x:Ob}(ha:vE o x)(hk:o.kind=1\/o.kind=2):Twin (ag ++ [o]) (au ++ [x]):=by
 refine⟨by simp[h.1],fun i h1 h2=>?_,fun y hy=>?_⟩
 ·by_cases hi:i<ag.length
  ·rw[List.getElem_append_left hi,List.getElem_append_left (by rw[<-h.1];exact hi)]
   exact h.2.1 i hi _
  ·have e:i=ag.length:=by simp at h1;omega
   subst e;have e1:(ag ++ [o])[ag.length]=o:=by simp
   have e2:(au ++ [x])[ag.length]'h2=x:=by simp[h.1]
   rw[e1,e2];exact ha
 ·rcases List.mem_append.1 hy with hy | hy
  ·exact h.2.2 y hy
  ·rw[List.mem_singleton.1 hy];exact hk
theorem Ns {ag:List Ob}{p:Ob->Bool}{i:Nat}(h:ag.findIdx? p=some i):i<ag.length:=(List.findIdx?_eq_some_iff_getElem.1 h).1
theorem KX {ag aN au bC:List Ob}{d:ByteArray}{e:Ending}{x y:Int}(h:Twin ag au)(hf:jI ag aN d e)(hr:wH au bC d x y):
  ∃id ec,e=.returned (.tuple #[.int .i64 id,.int .i64 ec])/\vI ag aN au bC id ec x y:=by
 have ht:=O1 h d;rcases hf with ⟨h1,h2,h3⟩ | ⟨h1,h2,i,h3,h4⟩ | ⟨h1,h2,h3,h4,h5⟩ | ⟨h1,h2,h3,h4,h5⟩
 ·rcases hr with ⟨_,r2,r3,r4⟩ | ⟨r1,_⟩
  ·subst h2 r2 r3 r4
   exact⟨_,_,h3,rfl,h,.inl ⟨by decide,rfl,rfl,rfl⟩⟩
  ·omega
 ·rcases hr with ⟨r1,_⟩ | ⟨_,⟨k,r1,r2,r3,r4⟩ | ⟨r1,_⟩ | ⟨r1,_⟩⟩
  ·omega
  ·rw[ht,h3] at r1
   cases r1;subst h2 r2 r3 r4;exact⟨_,_,h4,rfl,h,.inr ⟨rfl,i,rfl,rfl,.inl ⟨rfl,rfl,Ns h3⟩⟩⟩
  ·rw[ht,h3] at r1;cases r1
  ·rw[ht,h3] at r1;cases r1
 ·rcases hr with ⟨r1,_⟩ | ⟨_,⟨k,r1,r2,r3,r4⟩ | ⟨r1,r2,r3,r4,r5⟩ | ⟨r1,r2,_⟩⟩
  ·omega
  ·rw[ht,h2] at r1;cases r1
  ·subst h4 r3 r4 r5
   exact⟨_,_,h5,rfl,h,.inl ⟨by decide,rfl,rfl,rfl⟩⟩
  ·have:=h.1;omega
 ·rcases hr with ⟨r1,_⟩ | ⟨_,⟨k,r1,r2,r3,r4⟩ | ⟨r1,r2,_⟩ | ⟨r1,r2,r3,r4,r5⟩⟩
  ·omega
  ·rw[ht,h2] at r1;cases r1
  ·have:=h.1;omega
  ·subst h4 r3 r4 r5
   refine⟨_,_,h5,rfl,DV h ⟨rfl,fun _=>rfl,fun h=>absurd h (show ¬(1:Int)=2 by decide),rfl,fun _=>rfl,fun h=>absurd h (show ¬(1:Int)=2 by decide)⟩ (.inl rfl),.inr ⟨rfl,ag.length,by rw[h.1],rfl,.inr ⟨rfl,by simp⟩⟩⟩
theorem O4 {ag aN au bC:List Ob}{ls:List aK}{e:Ending}{x y:Int}(h:Twin ag au)(hf:iJ ag aN ls e)(hr:wJ au bC (ls.map (gL ag.length)) x y):
  ∃id ec,e=.returned (.tuple #[.int .i64 id,.int .i64 ec])/\vI ag aN au bC id ec x y:=by
 have nm:=SK ag.length ls;have val:(∃e ∈ ls.map (gL ag.length),aF e.1=false) ↔ ∃e ∈ ls,aF e.1=false:=by
  constructor
  ·rintro ⟨e,he,hv⟩
   obtain⟨a,ha,rfl⟩:=List.mem_map.1 he;exact⟨a,ha,hv⟩
  ·rintro ⟨a,ha,hv⟩
   exact⟨_,List.mem_map_of_mem ha,hv⟩
 have gd:(∃e ∈ ls.map (gL ag.length),kW au e=false) ↔ ∃e ∈ ls,eV ag e=false:=by
  constructor
  ·rintro ⟨e,he,hv⟩
   obtain⟨a,ha,rfl⟩:=List.mem_map.1 he;exact⟨a,ha,by rw[<-DU h];exact hv⟩
  ·rintro ⟨a,ha,hv⟩
   exact⟨_,List.mem_map_of_mem ha,by rw[DU h];exact hv⟩
 have ln:(ls.map (gL ag.length)).length=ls.length:=List.length_map ..;have nov:∀{P:aK->Bool} {l:List aK},(∀e ∈ l,P e=true)->¬ ∃e ∈ l,P e=false:=fun h1 ⟨e,he,hv⟩=>by rw[h1 e he] at hv;cases hv
 unfold wJ at hr;rw[nm,ln,val,gd] at hr;rcases hf with ⟨f1,f2,f3⟩ | ⟨f1,hf⟩
 ·rcases hr with ⟨_,r2,r3,r4⟩ | ⟨r1,_⟩
  ·subst f2 r2 r3 r4
   exact⟨_,_,f3,rfl,h,.inl ⟨by decide,rfl,rfl,rfl⟩⟩
  ·exact absurd (val.2 f1) (nov r1)
 ·rcases hr with ⟨r1,_⟩ | ⟨_,hr⟩
  ·exact absurd r1 (nov f1)
  ·rcases hf with ⟨g1,g2,g3⟩ | ⟨g1,g2,g3,g4⟩ | ⟨g1,g2,g3,g4,g5⟩ | ⟨g1,g2,g3,es',gp,grs,gnm,hg⟩
   ·rcases hr with ⟨_,r2,r3,r4⟩ | ⟨r1,_⟩ | ⟨r1,_⟩ | ⟨r1,_⟩ | ⟨r1,_⟩
    ·subst g2 r2 r3 r4
     exact⟨_,_,g3,rfl,h,.inl ⟨by decide,rfl,rfl,rfl⟩⟩
    all_goals exact absurd r1 g1
   ·rcases hr with ⟨r1,_⟩ | ⟨_,_,r2,r3,r4⟩ | ⟨_,r1,_⟩ | ⟨_,r1,_⟩ | ⟨_,r1,_⟩
    ·exact absurd g1 r1
    ·subst g3 r2 r3 r4
     exact⟨_,_,g4,rfl,h,.inl ⟨by decide,rfl,rfl,rfl⟩⟩
    all_goals omega
   ·rcases hr with ⟨r1,_⟩ | ⟨_,r1,_⟩ | ⟨_,_,_,r2,r3,r4⟩ | ⟨_,_,r1,_⟩ | ⟨_,_,r1,_⟩
    ·exact absurd g1 r1
    ·omega
    ·subst g4 r2 r3 r4
     exact⟨_,_,g5,rfl,h,.inl ⟨by decide,rfl,rfl,rfl⟩⟩
    all_goals exact absurd (gd.2 g3) (nov r1)
   ·have Oi:∀z ∈ es',eV ag z=true:=fun z hz=>g3 z (gp.mem_iff.1 hz)
    have hhi:dH au (ls.map (gL ag.length))=dn ag es':=by
     rw[sM au (gp.map (gL ag.length)).symm];exact Bt h es' 0 Oi
    have hmap:es'.map (gL ag.length)=es'.map dg:=List.map_congr_left fun z hz=>V5 (Br (Oi z hz));have agz:gC (es'.map dg):=List.pairwise_map.2 (grs.imp fun h=>h);have yz:fF (ls.map (gL ag.length))=es'.map dg:=by
     refine uX (uW (by rw[nm];exact g1)) agz ?_;rw[<-hmap];exact (jt _).trans (gp.map _).symm
    have hdt:=fun v m=>SH h v m es';rcases hr with ⟨r1,_⟩ | ⟨_,r1,_⟩ | ⟨_,_,r1,_⟩ | ⟨_,_,_,r1,r2,r3,r4⟩ | ⟨_,_,_,r1,v,z,rp,rz⟩
    ·exact absurd g1 r1
    ·omega
    ·exact absurd r1 (nov g3)
    ·rw[hhi] at r1
     rcases hg with ⟨k1,k2,k3⟩ | ⟨k1,_⟩ | ⟨k1,_⟩ | ⟨k1,_⟩
     ·subst k2 r2 r3 r4
      exact⟨_,_,k3,rfl,h,.inl ⟨by decide,rfl,rfl,rfl⟩⟩
     all_goals omega
    ·rw[hhi] at r1
     rw[yz] at rp;unfold A8 at rp;rw[hdt] at rp;rcases hg with ⟨k1,_⟩ | ⟨k1,k2,i,k3,k4⟩ | ⟨k1,k2,k3,k4,k5⟩ | ⟨k1,k2,k3,⟨o,o1,o2,o3,o4⟩,k5⟩
     ·omega
     ·rcases rp with ⟨j,p1,p2,p3⟩ | ⟨p1,_⟩ | ⟨p1,_⟩
      ·rw[k3] at p1
       cases p1;rcases rz with ⟨z1,_⟩ | ⟨_,z2,z3⟩
       ·omega
       ·subst k2 p2 z3
        exact⟨_,_,k4,rfl,h,.inr ⟨rfl,i,by omega,rfl,.inl ⟨rfl,rfl,Ns k3⟩⟩⟩
      ·rw[k3] at p1;cases p1
      ·rw[k3] at p1;cases p1
     ·rcases rp with ⟨j,p1,_⟩ | ⟨p1,p2,p3,p4⟩ | ⟨p1,p2,_⟩
      ·rw[k2] at p1;cases p1
      ·rcases rz with ⟨_,z2,z3⟩ | ⟨z1,_⟩
       ·subst k4 p3 z2 z3
        exact⟨_,_,k5,rfl,h,.inl ⟨by decide,rfl,rfl,rfl⟩⟩
       ·omega
      ·have:=h.1;omega
     ·rcases rp with ⟨j,p1,_⟩ | ⟨p1,p2,_⟩ | ⟨p1,p2,p3,p4⟩
      ·rw[k2] at p1;cases p1
      ·have:=h.1;omega
      ·rcases rz with ⟨z1,_⟩ | ⟨_,z2,z3⟩
       ·omega
       ·subst o4 p3 z3
        refine⟨_,_,k5,rfl,DV h ⟨o1.symm,fun h=>by rw[o1] at h;exact absurd h (by decide),fun _=>by rw[o2];rfl,?_,fun h=>by rw[o1] at h;exact absurd h (by decide),fun _=>rfl⟩ (.inr o1),.inr ⟨rfl,ag.length,by rw[z2,p4,h.1],rfl,.inr ⟨rfl,by simp⟩⟩⟩;show dH au (es'.map dg)=o.high;rw[o3,<-hhi,<-hmap];exact sM au (gp.map _)
variable {ft:CX}
structure Sep (w:World)(FL FR FS:Nat->Prop):Prop where
 ll:∀k,FL k->k<w.heap.size
 rl:∀k,FR k->k<w.heap.size/\¬FL k
 sl:∀k,FS k->k<w.heap.size/\¬FL k
 rs:∀k,FR k->¬FS k
structure W3 (ft:CX)(FL FR FS:Nat->Prop)(w:World)(W s r:Nat)(ag au:List Ob)(c5 c6 c7 c8 c9 c10 c11:Value):Prop where
 law:fJ FL w W s r ag.length c5 c6 c7 c8 c9 c10 c11
 ref:bS FR w r au
 uQ:fT ft FS w s ag
 twin:Twin ag au
 at_:iM au
 sep:Sep w FL FR FS
theorem Sep.below {w w':World}{FL FR FS:Nat->Prop}(h:Sep w FL FR FS)(hb:w.heap.size<=w'.heap.size):Sep w' FL FR FS:=
 ⟨fun k hk=>cv (h.ll k hk) hb,fun k hk=>⟨cv (h.rl k hk).1 hb,(h.rl k hk).2⟩,fun k hk=>⟨cv (h.sl k hk).1 hb,(h.sl k hk).2⟩,h.rs⟩
theorem fJ.keep {F F':Nat->Prop}{w w':World}{W s r n:Nat}{c5 c6 c7 c8 c9 c10 c11:Value}(h:fJ F w W s r n c5 c6 c7 c8 c9 c10 c11)(hF:∀k,F k->F' k)(hk:∀k,F k->w'.heap[k]? = w.heap[k]?):fJ F' w' W s r n c5 c6 c7 c8 c9 c10 c11:=by
 obtain⟨ia,ka,pa,ic,kc,pc,paths,hl,hp⟩:=h;exact⟨ia,ka,pa,ic,kc,pc,paths,hl.keep hF hk,hp⟩
section
variable {FL FR FS:Nat->Prop}{w:World}{W s r:Nat}{ag au aN bC:List Ob}{c5 c6 c7 c8 c9 c10 c11:Value}
theorem W3.below {w':World}(h:W3 ft FL FR FS w W s r ag au c5 c6 c7 c8 c9 c10 c11)(hb:Below w.heap.size w w'):W3 ft FL FR FS w' W s r ag au c5 c6 c7 c8 c9 c10 c11:=
 ⟨h.law.keep (fun _ h=>h) (fun k hk=>hb.block k (h.sep.ll k hk)),h.ref.keep (fun _ h=>h) (fun k hk=>hb.block k (h.sep.rl k hk).1),fT.keep h.uQ (fun _ h=>h) (fun k hk=>hb.block k (h.sep.sl k hk).1),h.twin,h.at_,h.sep.below hb.size⟩
def F3 (FL FR FS:Nat->Prop)(k:Nat):Prop:=FL k\/FR k\/FS k
def yA (FL FR FS s8 sx sy:Nat->Prop)(n:Nat):Prop:=∀k,(s8 k->FL k\/n<=k)/\(sx k->FR k\/n<=k)/\(sy k->FS k\/n<=k)
theorem yA.all {FL FR FS s8 sx sy:Nat->Prop}{n:Nat}(h:yA FL FR FS s8 sx sy n):∀k,F3 s8 sx sy k->F3 FL FR FS k\/n<=k:=by
 rintro k (e | e | e)
 ·exact ((h k).1 e).imp .inl id
 ·exact ((h k).2.1 e).imp (fun x=>.inr (.inl x)) id
 ·exact ((h k).2.2 e).imp (fun x=>.inr (.inr x)) id
theorem yA.refl {FL FR FS:Nat->Prop}{n:Nat}:yA FL FR FS FL FR FS n:=fun k=>⟨.inl,.inl,.inl⟩
theorem yA.mono {FL FR FS s8 sx sy:Nat->Prop}{n m:Nat}(h:yA FL FR FS s8 sx sy n)(hm:m<=n):yA FL FR FS s8 sx sy m:=fun k=>⟨fun e=>((h k).1 e).imp id (eU hm),fun e=>((h k).2.1 e).imp id (eU hm),fun e=>((h k).2.2 e).imp id (eU hm)⟩
theorem rJ (hl:fJ FL w W s r ag.length c5 c6 c7 c8 c9 c10 c11)(hr:bS FR w r bC)(hs:fT ft FS w s aN)(j8:Sep w FL FR FS)(hat:iM bC){id ec x y:Int}(ha:vI ag aN au bC id ec x y)(hy:y=0)(hlen:ag.length=au.length):
  Calls prog 37 #[.pointer (some ⟨W,0,none⟩),.int .i64 x,.int .i64 id] w fun e w'=>e=.returned (.bool true)/\W3 ft (bq FL w w') FR FS w' W s r aN bC c5 c6 c7 c8 c9 c10 c11/\ax FL w w':=by
 obtain⟨_,ht,h | ⟨_,j,rfl,rfl,h⟩⟩:=ha
 ·exact absurd hy h.1
 ·have V6:∀w':World,ax FL w w'->Sep w' (bq FL w w') FR FS:=fun w' hk=>⟨fun k dy=>by rcases dy with h | h;exact cv (j8.ll k h) hk.size;exact h.2,
   fun k dy=>⟨cv (j8.rl k dy).1 hk.size,fun h=>by rcases h with h | h;exact (j8.rl k dy).2 h;have:=(j8.rl k dy).1;omega⟩,
   fun k dy=>⟨cv (j8.sl k dy).1 hk.size,fun h=>by rcases h with h | h;exact (j8.sl k dy).2 h;have:=(j8.sl k dy).1;omega⟩,j8.rs⟩
  rcases h with ⟨rfl,rfl,hj⟩ | ⟨rfl,hl'⟩
  ·refine (rF hl hr j8.rl hlen.symm hat j hj).mono fun e w' ⟨he,CO,hk⟩=>⟨he,⟨CO,og hr j8.rl hk,fT.keep hs (fun _ h=>h) (fun k dy=>hk.block k (j8.sl k dy).1 (j8.sl k dy).2),ht,hat,V6 w' hk⟩,hk⟩
  ·have uS:bC.length=ag.length+1:=by rw[<-ht.1,hl']
   refine (KT hl hr hs j8.rl j8.sl j8.ll uS hl' hat (ht.2.1 ag.length (by omega) (by omega))).mono fun e w' ⟨he,CO,hk⟩=>⟨he,⟨?_,og hr j8.rl hk,fT.keep hs (fun _ h=>h) (fun k dy=>hk.block k (j8.sl k dy).1 (j8.sl k dy).2),ht,hat,V6 w' hk⟩,hk⟩;rw[hl'];exact CO
theorem Bu {au:List Ob}{x:Ob}(h:iM au)(hx:∀e ∈ x.aV,0<=e.2.2/\e.2.2<(au.length:Int)):iM (au ++ [x]):=by
 intro i hi e he;by_cases hlt:i<au.length
 ·rw[List.getElem_append_left hlt] at he
  exact h i hlt e he
 ·have ei:i=au.length:=by simp at hi;omega
  subst ei;rw[List.getElem_append_right (bA _)] at he;simp at he;exact hx e he
theorem KY {au bC:List Ob}{d:ByteArray}{x y:Int}(h:iM au)(hr:wH au bC d x y):iM bC:=by
 rcases hr with ⟨_,rfl,_⟩ | ⟨_,⟨_,_,rfl,_⟩ | ⟨_,_,rfl,_⟩ | ⟨_,_,rfl,_⟩⟩
 ·exact h
 ·exact h
 ·exact h
 ·exact Bu h (fun e he=>by cases he)
theorem O5 {au bC:List Ob}{ms:List aK}{x y:Int}(h:iM au)(hm:∀e ∈ ms,e.2.2<(au.length:Int))(hr:wJ au bC ms x y):iM bC:=by
 rcases hr with ⟨_,rfl,_⟩ | ⟨_,⟨_,rfl,_⟩ | ⟨_,_,rfl,_⟩ | ⟨_,_,_,rfl,_⟩ | ⟨_,_,_,_,rfl,_⟩ | ⟨_,_,hg,_,v,z,hp,_⟩⟩
 ·exact h
 ·exact h
 ·exact h
 ·exact h
 ·exact h
 ·rcases hp with ⟨_,_,rfl,_⟩ | ⟨_,_,rfl,_⟩ | ⟨_,_,rfl,_⟩
  ·exact h
  ·exact h
  ·refine Bu h (fun e he=>?_)
   have CS:e ∈ ms:=rq he;have h1:=hg e CS;unfold kW at h1;simp only[Bool.and_eq_true,decide_eq_true_eq] at h1;exact⟨h1.1,hm e CS⟩
end
variable {ft:CX}
def Stepped (ft:CX)(FL FR FS:Nat->Prop)(w w':World)(W s r:Nat)(c5 c6 c7 c8 c9 c10 c11:Value):Prop:=
 ∃s8 sx sy aN bC,W3 ft s8 sx sy w' W s r aN bC c5 c6 c7 c8 c9 c10 c11/\yA FL FR FS s8 sx sy w.heap.size/\ax (F3 FL FR FS) w w'
section
variable {FL FR FS:Nat->Prop}{w:World}{W s r:Nat}{ag au:List Ob}{c5 c6 c7 c8 c9 c10 c11:Value}
theorem fJ.cells {n:Nat}(h:fJ FL w W s r n c5 c6 c7 c8 c9 c10 c11):w.cell? ⟨W,0,none⟩=some (.pointer (some ⟨s,0,none⟩))/\w.cell? ⟨W,1,none⟩=some (.pointer (some ⟨r,0,none⟩))/\W<w.heap.size/\FL W:=by
 obtain⟨_,_,_,_,_,_,_,hl,_⟩:=h;exact⟨hl.c0,hl.c1,hl.lt,hl.fw⟩
theorem DW {w1 w2 w3:World}{aN bC:List Ob}{S:ByteArray}{e:Ending}{id ec x y:Int}(h:W3 ft FL FR FS w W s r ag au c5 c6 c7 c8 c9 c10 c11)(hb:Below w.heap.size w w1)(hk:ax FS w1 w2)(hi:fT ft (bq FS w1 w2) w2 s aN)(hl:fJ FL w2 W s r ag.length c5 c6 c7 c8 c9 c10 c11)
  (yB:ax FR w2.drew w3)(CJ:bS (bq FR w2.drew w3) w3 r bC)(nC:jI ag aN S e)(Il:wH au bC S x y)(he:e=.returned (.tuple #[.int .i64 id,.int .i64 ec])):
  vI ag aN au bC id ec x y/\fJ FL w3 W s r ag.length c5 c6 c7 c8 c9 c10 c11/\fT ft (bq FS w1 w2) w3 s aN/\bS (bq FR w2 w3) w3 r bC/\Sep w3 FL (bq FR w2 w3) (bq FS w1 w2)/\iM bC/\ax (F3 FL FR FS) w w3:=by
 have z1:=hb.size;have z2:=hk.size;have z3:w2.heap.size<=w3.heap.size:=yB.size;obtain⟨id',GA,CS,hA⟩:=KX h.twin nC Il;rw[he] at CS;have e1:id=id'/\ec=GA:=by simpa using CS
 obtain⟨rfl,rfl⟩:=e1;have Zs:∀k,k<w2.heap.size->¬FR k->w3.heap[k]? = w2.heap[k]?:=fun k hk hn=>yB.block k hk hn;refine⟨hA,hl.keep (fun _ h=>h) (fun k dy=>Zs k (by have:=h.sep.ll k dy;omega) (fun hr=>(h.sep.rl k hr).2 dy)),fT.keep hi (fun _ h=>h) (fun k dy=>Zs k ?_ (fun hr=>?_)),CJ,⟨fun k dy=>by have:=h.sep.ll k dy;omega,fun k dy=>?_,fun k dy=>?_,fun k dy hs=>?_⟩,KY h.at_ Il,⟨?_,?_,?_,by omega,fun k dy hn=>?_⟩⟩
 ·rcases dy with h' | h'
  ·have:=(h.sep.sl k h').1;omega
  ·exact h'.2
 ·rcases dy with h' | h'
  ·exact h.sep.rs k hr h'
  ·have:=(h.sep.rl k hr).1;omega
 ·rcases dy with h' | h'
  ·exact⟨by have:=(h.sep.rl k h').1;omega,(h.sep.rl k h').2⟩
  ·exact⟨h'.2,fun hf=>by have:=h.sep.ll k hf;have:=h'.1;omega⟩
 ·rcases dy with h' | h'
  ·exact⟨by have:=(h.sep.sl k h').1;omega,(h.sep.sl k h').2⟩
  ·exact⟨by have:=h'.2;omega,fun hf=>by have:=h.sep.ll k hf;have:=h'.1;omega⟩
 ·rcases dy with h' | h'
  ·rcases hs with h2 | h2
   ·exact h.sep.rs k h' h2
   ·have:=(h.sep.rl k h').1;have:=h2.1;omega
  ·rcases hs with h2 | h2
   ·have:=(h.sep.sl k h2).1;have:=h'.1;omega
   ·have:=h'.1;have:=h2.2;omega
 ·exact yB.os.trans (hk.os.trans hb.os)
 ·exact yB.tape.trans (hk.tape.trans hb.tape)
 ·exact yB.output.trans (hk.output.trans hb.output)
 ·rw[Zs k (by omega) (fun hr=>hn (.inr (.inl hr))),hk.block k (by omega) (fun hr=>hn (.inr (.inr hr))),hb.block k dy]
theorem CZ (h:W3 ft FL FR FS w W s r ag au c5 c6 c7 c8 c9 c10 c11)(a1 a2 a3:Int)(S T:ByteArray)(la:Option Addr)(lm lc:Nat)(hS:S.size<=maxLen):
  Calls prog 20 #[.pointer (some ⟨W,0,none⟩),.agg #[.int .i64 1,.int .i64 a1,.int .i64 a2,.int .i64 a3,.string S,.string T,.slice la lm lc]] w fun e w'=>e=.returned (.bool true)/\Stepped ft FL FR FS w w' W s r c5 c6 c7 c8 c9 c10 c11:=by
 have HW:Hid (W3 ft FL FR FS w W s r ag au c5 c6 c7 c8 c9 c10 c11):=h;obtain⟨k0,k1,qu,Nt⟩:=h.law.cells;obtain⟨B,hB⟩:∃B:Obj,B=.cells #[.int .i64 1,.int .i64 a1,.int .i64 a2,.int .i64 a3,.string S,.string T,.slice la lm lc] 57:=⟨_,rfl⟩;obtain⟨w1,jb⟩:∃w1,w1=w.alloc B:=⟨_,rfl⟩;have hb0:Below w.heap.size w w1:=by rw[jb];exact (Below.refl _ _).alloc (bA _) B
 have hb1:Below w.heap.size w w1.drew:=below_drewN hb0 1;have h1:=h.below hb1;have SL:=uU h1.uQ S hS;have HPF:Hid _:=SL;have b4:w1.cell? ⟨w.heap.size,4,none⟩=some (.string S):=by rw[jb,hB];simp
 have k01:=(hb0.cell (p:=⟨W,0,none⟩) qu).trans k0;have Yf:=(hb0.cell (p:=⟨W,1,none⟩) qu).trans k1;have hs1:w1.heap.size=w.heap.size+1:=by rw[jb];simp
 have H1:Hid (W3 ft FL FR FS w1.drew W s r ag au c5 c6 c7 c8 c9 c10 c11):=h1;clear h SL h1;go_enter func20,ntmps20;go_wp2;rw[<-hB,<-jb];have HB:Hid (B=.cells #[.int .i64 1,.int .i64 a1,.int .i64 a2,.int .i64 a3,.string S,.string T,.slice la lm lc] 57):=hB;have O6:Hid (w1=w.alloc B):=jb;clear hB jb
 go_region_with (first | (go_at_call 35;refine Calls.mono HPF.out ?_;rintro e w2 ⟨aN,nC,hinv,gU⟩;obtain⟨id,ec,he⟩:=nC.shape;have M4:Hid (jI ag aN S e):=nC;have HE:Hid (e=.returned (.tuple #[.int .i64 id,.int .i64 ec])):=he;rw[he];clear nC he))
 all_goals
  have oQ:ax FS w1 w2:=⟨gU.os,gU.tape,gU.output,gU.size,gU.block⟩;have hkb:∀x,x<w1.heap.size->¬FS x->w2.heap[x]? = w1.heap[x]?:=fun x hx hn=>oQ.block x hx hn;have nW:¬FS W:=fun hf=>(H1.out.sep.sl W hf).2 Nt;have nB:¬FS w.heap.size:=fun hf=>by have:=(HW.out.sep.sl _ hf).1;omega
  have k02:=(World.cell?_of_block (a:=⟨W,0,none⟩) (hkb W (by omega) nW)).trans k01;have k12:=(World.cell?_of_block (a:=⟨W,1,none⟩) (hkb W (by omega) nW)).trans Yf;have b42:=(World.cell?_of_block (a:=⟨w.heap.size,4,none⟩) (hkb w.heap.size (by omega) nB)).trans b4;have hs2:w1.heap.size<=w2.heap.size:=oQ.size;have R2:bS FR w2.drew r au:=HW.out.ref.keep (fun _ h=>h) (fun k hk=>(hkb k (by have:=(HW.out.sep.rl k hk).1;omega) (HW.out.sep.rs k hk)).trans (hb0.block k (HW.out.sep.rl k hk).1));have L2:Hid (fJ FL w2 W s r ag.length c5 c6 c7 c8 c9 c10 c11):=HW.out.law.keep (fun _ h=>h) (fun k hk=>(hkb k (by have:=HW.out.sep.ll k hk;omega) (fun hf=>(HW.out.sep.sl k hf).2 hk)).trans (hb0.block k (HW.out.sep.ll k hk)));have I2:Hid (fT ft (bq FS w1 w2) w2 s aN):=hinv;have Bv:Hid (ax FS w1 w2):=oQ;have hrf:=wI R2 S hS;have HRF:Hid _:=hrf;clear HPF hinv gU oQ hrf R2
  go_frame
  go_wp2
  go_region_with (first | (go_at_call 36;refine Calls.mono HRF.out ?_;rintro e3 w3 ⟨x,y,bC,rfl,Il,CJ,yB⟩))
  all_goals
   have AF:=DW HW.out (show Below w.heap.size w w1 from hb0) Bv.out I2.out L2.out yB CJ M4.out Il HE.out;have td:Hid _:=AF;clear AF Il CJ yB
   go_frame
   have lH:=fun (e:Int) (W':World)=>ji e W';obtain⟨Ov,_,mV⟩:=td.out.1;subst Ov;by_cases hy:ec=0
   ·have CO:=rJ td.out.2.1 td.out.2.2.2.1 td.out.2.2.1 td.out.2.2.2.2.1 td.out.2.2.2.2.2.1 td.out.1 hy HW.out.twin.1
    subst hy;clear mV;have hz:((0:Int) != 0)=false:=by simp
    go_wp2_with (first
     | (go_at_call 22;refine Calls.mono (lH _ _) ?_;rintro _ _ ⟨rfl,rfl⟩)
     | (go_at_call 37;refine Calls.mono CO ?_;rintro _ w4 ⟨rfl,hw4,hk4⟩))
    go_ret;refine⟨rfl,_,_,_,aN,bC,hw4,?_,?_⟩
    ·have zw:=td.out.2.2.2.2.2.2.size
     refine fun k=>⟨?_,?_,?_⟩ <;> rintro (h | h)
     ·exact .inl h
     ·exact .inr (eU zw h.1)
     ·exact .inl h
     ·have:=h.1;exact .inr (by omega)
     ·exact .inl h
     ·have:=h.1;exact .inr (by omega)
    ·have kk:=td.out.2.2.2.2.2.2
     exact⟨hk4.os.trans kk.os,hk4.tape.trans kk.tape,hk4.output.trans kk.output,eU kk.size hk4.size,fun k hk hn=>(hk4.block k (cv hk kk.size) (fun h=>hn (.inl h))).trans (kk.block k hk hn)⟩
   ·have hid:id=0/\aN=ag/\bC=au:=by
     rcases mV with h | h
     ·exact h.2
     ·exact absurd h.1 hy
    have hyb:(ec != 0)=true:=by simpa using hy
    have Sy:(ec == ec)=true:=(by simp);obtain⟨rfl,rfl,rfl⟩:=hid;clear mV;go_wp2_with (go_at_call 22;refine Calls.mono (lH _ _) ?_;rintro _ _ ⟨rfl,rfl⟩);go_ret;refine⟨rfl,_,_,_,aN,bC,⟨td.out.2.1,td.out.2.2.2.1,td.out.2.2.1,HW.out.twin,HW.out.at_,td.out.2.2.2.2.1⟩,?_,td.out.2.2.2.2.2.2⟩
    ·refine fun k=>⟨.inl,?_,?_⟩ <;> rintro (h | h)
     ·exact .inl h
     ·have:=h.1;exact .inr (by omega)
     ·exact .inl h
     ·have:=h.1;exact .inr (by omega)
end
end Go.Proofs.YtlgidcmmgohagaaGreat
