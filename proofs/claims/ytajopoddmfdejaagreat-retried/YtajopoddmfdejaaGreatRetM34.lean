/-
  What is proved here: the walk of an outline's work of a directory: what is in it, one by one, then the directory. an outline's object, whatever is at a path: the object that the model says, and the draft that ..
-/
import Derived.Test.YtajopoddmfdejaaGreatRetM33
import Derived.Deep.RegionHeld3
import Derived.Test.YtajopoddmfdejaaGreatRetM21
import Derived.Test.YtajopoddmfdejaaGreatRetM25
namespace Go.Proofs.YtajopoddmfdejaaGreat
open Go.RowKit Go.Sort Go.Shelf
set_option linter.unusedVariables false
set_option maxRecDepth 100000
set_option maxHeartbeats 16000000
structure KeepOut (D:Nat->Prop)(n:Nat)(W W':World):Prop where
 os:W'.os=W.os
 tape:W'.tape=W.tape
 output:W'.output=W.output
 size:W.heap.size<=W'.heap.size
 block:∀ x,x<W.heap.size->(x<n\/D x)->W'.heap[x]? = W.heap[x]?
theorem KeepOut.of_below {D:Nat->Prop}{n:Nat}{W W':World}(h:Below W.heap.size W W'):KeepOut D n W W':=⟨h.os,h.tape,h.output,h.size,fun x hx _=>h.block x hx⟩
def boxO (bt dr ow:Nat):Obj:=.cells #[.pointer (some ⟨bt,0,none⟩),.pointer (some ⟨dr,0,none⟩),.map (some ow)] 121
def boxP (s0 s1 s2 s3 s4:ByteArray):Obj:=.cells #[.string s0,.string s1,.string s2,.string s3,.string s4] 104
theorem boxO_cells {w:World}{b bt dr ow:Nat}(h:w.heap[b]? = some (boxO bt dr ow)):b<w.heap.size/\w.cell? ⟨b,0,none⟩=some (.pointer (some ⟨bt,0,none⟩))/\w.cell? ⟨b,1,none⟩=some (.pointer (some ⟨dr,0,none⟩))/\w.cell? ⟨b,2,none⟩=some (.map (some ow)):=⟨(Array.getElem?_eq_some_iff.1 h).1,cell_at h 0,cell_at h 1,cell_at h 2⟩
theorem boxP_cells {w:World}{b:Nat}{s0 s1 s2 s3 s4:ByteArray}(h:w.heap[b]? = some (boxP s0 s1 s2 s3 s4)):b<w.heap.size/\w.cell? ⟨b,0,none⟩=some (.string s0)/\w.cell? ⟨b,1,none⟩=some (.string s1)/\w.cell? ⟨b,2,none⟩=some (.string s2)/\w.cell? ⟨b,3,none⟩=some (.string s3)/\w.cell? ⟨b,4,none⟩=some (.string s4):=⟨(Array.getElem?_eq_some_iff.1 h).1,cell_at h 0,cell_at h 1,cell_at h 2,cell_at h 3,cell_at h 4⟩
structure WorkAt (S:Nat->(Nat->Prop)->World->Prop)(n:Nat)(bo bp:Obj)(gE cE len:Nat)(E:Nat->List Ent)(k:Nat)(D:Nat->Prop)(W:World):Prop where
 st:S k D W
 b0:W.heap[n]? = some bo
 b1:W.heap[n+1]? = some bp
 row:W.ownsRow 0 76 3 (.slice (some ⟨gE,0,none⟩) len cE) len (flat (E k))
 out:¬ D n/\¬ D (n+1)/\¬ D gE
 ge:n+2<=gE
theorem WorkAt.below {S:Nat->(Nat->Prop)->World->Prop}{n:Nat}{bo bp:Obj}{gE cE len:Nat}{E:Nat->List Ent}{k:Nat}{D:Nat->Prop}{W W':World}(h:WorkAt S n bo bp gE cE len E k D W)(hk:∀ k D W W',S k D W->KeepOut D n W W'->S k D W')(hb:Below W.heap.size W W'):WorkAt S n bo bp gE cE len E k D W':=
 ⟨hk _ _ _ _ h.st (.of_below hb),(hb.block n (Array.getElem?_eq_some_iff.1 h.b0).1).trans h.b0,(hb.block _ (Array.getElem?_eq_some_iff.1 h.b1).1).trans h.b1,ownsRow_keep h.row (fun g hg=>hb.block g (ownsRow_lt h.row hg)),h.out,h.ge⟩
theorem WorkAt.turn {S:Nat->(Nat->Prop)->World->Prop}{n:Nat}{bo bp:Obj}{gE cE len:Nat}{E:Nat->List Ent}{k:Nat}{D D':Nat->Prop}{W W':World}(h:WorkAt S n bo bp gE cE len E k D W)(hk:∀ k D W W',S k D W->KeepOut D n W W'->S k D W')(hT:Turn D D' W W')(hS:S (k+1) D' W')(hkl:k<len)(hlen:(E k).length=len){id:Int}(hE:E (k+1)=(E k).set k (((E k)[k]?).getD default |>.1,((E k)[k]?).getD default |>.2.1,id)):
  gE<W'.heap.size/\(∃ x,W'.cell? ⟨gE,k*3+2,none⟩=some x)/\W'.frozen? ⟨gE,k*3+2,none⟩=false/\∀ q,WorkAt S n bo bp gE cE len E (k+1) D' ((W'.setCell ⟨gE,k*3+2,none⟩ (.int .i64 id)).drewN q):=by
 have l0:=(Array.getElem?_eq_some_iff.1 h.b0).1
 have l1:=(Array.getElem?_eq_some_iff.1 h.b1).1
 have lg:gE<W.heap.size:=ownsRow_lt h.row rfl
 have hrow:W'.ownsRow 0 76 3 (.slice (some ⟨gE,0,none⟩) len cE) len (flat (E k)):=ownsRow_keep h.row (fun g hg=>by
  obtain rfl:gE=g:=by simpa [Value.ownBlock] using hg
  exact hT.keeps.block gE lg h.out.2.2)
 have hk':k<(E k).length:=by omega
 have hst:=(hrow.stored (k*3+2) (.int .i64 id)).1
 rw[flat_set2 hk'] at hst
 rw[List.getElem?_eq_getElem hk',Option.getD_some] at hE
 rw[<- hE] at hst
 have hcell:W'.cell? ⟨gE,k*3+2,none⟩=some (.int .i64 ((E k)[k]).2.2):=by
  have:=owns_cells hrow (k*3+2) (.int .i64 ((E k)[k]).2.2) (by rw[flat_get _ _ _ hk' (by decide)];rfl)
  rwa [Nat.zero_add] at this
 have hge:=h.ge
 refine⟨Nat.lt_of_lt_of_le lg hT.keeps.size,⟨_,hcell⟩,owns_frozen hrow _,fun q=>⟨?_,?_,?_,?_,⟨fun hd=>h.out.1 (hT.own _ l0 hd),fun hd=>h.out.2.1 (hT.own _ l1 hd),fun hd=>h.out.2.2 (hT.own _ lg hd)⟩,h.ge⟩⟩
 ·refine hk _ _ _ _ hS ⟨rfl,rfl,rfl,?_,fun x hx hxx=>?_⟩
  ·show W'.heap.size<=(W'.setCell _ _).heap.size
   simp
  ·show (W'.setCell _ _).heap[x]? = _
   refine Below.heap_setCell _ _ _ _ (show x≠gE from fun e=>?_)
   rcases hxx with h1 | h1
   ·omega
   ·exact h.out.2.2 (hT.own _ lg (e ▸ h1))
 ·show (W'.setCell _ _).heap[n]? = _
  rw[Below.heap_setCell _ _ _ _ (show n≠gE by omega),hT.keeps.block n l0 h.out.1];exact h.b0
 ·show (W'.setCell _ _).heap[n+1]? = _
  rw[Below.heap_setCell _ _ _ _ (show n+1≠gE by omega),hT.keeps.block _ l1 h.out.2.1];exact h.b1
 ·exact ownsRow_keep hst (fun g hg=>rfl)
def Cells3 (n m:Nat)(bt dr ow:Nat)(s0 s1 s2 s3 s4 xn:ByteArray)(xk xi:Int)(W:World):Prop:=
 W.cell? ⟨n,0,none⟩=some (.pointer (some ⟨bt,0,none⟩))/\W.cell? ⟨n,1,none⟩=some (.pointer (some ⟨dr,0,none⟩))/\W.cell? ⟨n,2,none⟩=some (.map (some ow))/\
 W.cell? ⟨n+1,0,none⟩=some (.string s0)/\W.cell? ⟨n+1,1,none⟩=some (.string s1)/\W.cell? ⟨n+1,2,none⟩=some (.string s2)/\W.cell? ⟨n+1,3,none⟩=some (.string s3)/\W.cell? ⟨n+1,4,none⟩=some (.string s4)/\
 W.cell? ⟨m,0,none⟩=some (.string xn)/\W.cell? ⟨m,1,none⟩=some (.int .i64 xk)/\W.cell? ⟨m,2,none⟩=some (.int .i64 xi)
theorem Cells3.keep {n m bt dr ow:Nat}{s0 s1 s2 s3 s4 xn:ByteArray}{xk xi:Int}{W W':World}(h:Cells3 n m bt dr ow s0 s1 s2 s3 s4 xn xk xi W)(h0:∀ o,W'.cell? ⟨n,o,none⟩=W.cell? ⟨n,o,none⟩)(h1:∀ o,W'.cell? ⟨n+1,o,none⟩=W.cell? ⟨n+1,o,none⟩)(h2:∀ o,W'.cell? ⟨m,o,none⟩=W.cell? ⟨m,o,none⟩):Cells3 n m bt dr ow s0 s1 s2 s3 s4 xn xk xi W':=by
 unfold Cells3 at h ⊢
 simp only[h0,h1,h2]
 exact h
theorem work_cells {S:Nat->(Nat->Prop)->World->Prop}{n:Nat}{bt dr ow:Nat}{s0 s1 s2 s3 s4:ByteArray}{gE cE len:Nat}{E:Nat->List Ent}{k:Nat}{D:Nat->Prop}{W:World}(h:WorkAt S n (boxO bt dr ow) (boxP s0 s1 s2 s3 s4) gE cE len E k D W)(hk:k<(E k).length):
  gE<W.heap.size/\W.cell? ⟨gE,k*3,none⟩=some (.string ((E k)[k]).1)/\W.cell? ⟨gE,k*3+1,none⟩=some (.int .i64 ((E k)[k]).2.1)/\W.cell? ⟨gE,k*3+2,none⟩=some (.int .i64 ((E k)[k]).2.2):=by
 have hc:=owns_cells h.row
 obtain⟨c0,c1,c2⟩:=row_cells (off:=0) hc hk
 rw[Nat.zero_add] at c0 c1 c2
 exact⟨ownsRow_lt h.row rfl,c0,c1,c2⟩
theorem owork_dir (bt oD dr ow:Nat)(s0 s1 s2 s3 s4:ByteArray)(q:List ByteArray)(v:Value)(es:List Ent)(E:Nat->List Ent)(r:Nat->Int)(rr:Int)(S:Nat->(Nat->Prop)->World->Prop)(R:World->Prop)(D0:Nat->Prop)(w:World)
  (hbt:bt<w.heap.size)(c8:w.cell? ⟨bt,8,none⟩=some (.map (some oD)))
  (hlk:∀ W,Below w.heap.size w W->(Instr.lookup 128 (.map (some oD)) (.agg #[.string s0,.string s1,.string s2,.string s3,.string s4]) false).run Tryz.prog W=.ok v W)
  (hrow:w.ownsRow 0 76 3 v es.length (flat es))(h16:es.length<=16)(hE0:E 0=es)(hEl:∀ k,k<=es.length->(E k).length=es.length)(hEk:∀ k (hk:k<es.length),(E k)[k]? = some es[k])(hEs:∀ k (hk:k<es.length),E (k+1)=(E k).set k ((es[k]).1,(es[k]).2.1,r k))
  (hch:∀ (x:ByteArray) W,x ∈ es.map (·.1)->Calls Tryz.prog 126 #[.agg #[.string s0,.string s1,.string s2,.string s3,.string s4],.string x] W fun e w'=>e=.returned (.agg (pathA (q ++ [x])))/\Below W.heap.size W w')
  (hS0:S 0 D0 w)(hD0:∀ x,D0 x->x<w.heap.size)(hkeep:∀ k D W W',S k D W->KeepOut D w.heap.size W W'->S k D W')(hinb:∀ k D W,S k D W->∀ x,D x->x<W.heap.size)
  (hrec:∀ k (hk:k<es.length) D W,S k D W->Calls Tryz.prog 65 #[.agg #[.pointer (some ⟨bt,0,none⟩),.pointer (some ⟨dr,0,none⟩),.map (some ow)],.agg (pathA (q ++ [(es[k]).1])),.agg #[.string (es[k]).1,.int .i64 (es[k]).2.1,.int .i64 (es[k]).2.2]] W fun e w'=>e=.returned (.int .i64 (r k))/\∃ D',S (k+1) D' w'/\Turn D D' W w')
  (hdir:∀ D W v',S es.length D W->W.ownsRow 0 76 3 v' es.length (flat (E es.length))->Calls Tryz.prog 145 #[.pointer (some ⟨dr,0,none⟩),v'] W fun e w'=>e=.returned (.int .i64 rr)/\R w'):
  Calls Tryz.prog 109 #[.agg #[.pointer (some ⟨bt,0,none⟩),.pointer (some ⟨dr,0,none⟩),.map (some ow)],.agg #[.string s0,.string s1,.string s2,.string s3,.string s4],.int .i64 2] w fun e w'=>e=.returned (.int .i64 rr)/\R w':=by
 obtain⟨hb0,hb1⟩:=two_boxes w (.cells #[.pointer (some ⟨bt,0,none⟩),.pointer (some ⟨dr,0,none⟩),.map (some ow)] 121) (.cells #[.string s0,.string s1,.string s2,.string s3,.string s4] 104)
 have hx0:=heap_alloc2_old w (.cells #[.pointer (some ⟨bt,0,none⟩),.pointer (some ⟨dr,0,none⟩),.map (some ow)] 121) (.cells #[.string s0,.string s1,.string s2,.string s3,.string s4] 104)
 have hx1:=heap_alloc2_new w (.cells #[.pointer (some ⟨bt,0,none⟩),.pointer (some ⟨dr,0,none⟩),.map (some ow)] 121) (.cells #[.string s0,.string s1,.string s2,.string s3,.string s4] 104)
 have hl:=hlk _ hb1
 have hcl:=cloneE_row (w:=((w.alloc (.cells #[.pointer (some ⟨bt,0,none⟩),.pointer (some ⟨dr,0,none⟩),.map (some ow)] 121)).alloc (.cells #[.string s0,.string s1,.string s2,.string s3,.string s4] 104)).drew) (ownsRow_keep hrow (fun g hg=>hb1.block g (ownsRow_lt hrow hg))) h16
 have HCL:Hid _:=hcl
 have HX:Hid _:=And.intro hx0 (And.intro hx1 (And.intro hb0 hb1))
 have HCH:Hid _:=hch
 have HREC:Hid _:=hrec
 have HDIR:Hid _:=hdir
 have HKEEP:Hid (∀ k D W W',S k D W->KeepOut D w.heap.size W W'->S k D W'):=hkeep
 have HINB:Hid (∀ k D W,S k D W->∀ x,D x->x<W.heap.size):=hinb
 have HE:Hid _:=And.intro hE0 (And.intro hEl (And.intro hEk hEs))
 have HS0:Hid _:=And.intro hS0 hD0
 clear hlk hrow hcl hx0 hx1 hb0 hb1 hch hrec hdir hkeep hinb hE0 hEl hEk hEs hS0 hD0
 go_enter Tryz.func109,Tryz.ntmps109
 go_wp2
 go_region_with (go_at_call 111;refine Calls.mono HCL.out ?_;rintro e w1 ⟨v',rfl,hrow1,hfr1,hbc⟩)
 all_goals
  obtain⟨hE0,hEl,hEk,hEs⟩:=HE.out
  obtain⟨hx0,hx1,hb0,hb1⟩:=HX.out
  obtain⟨hS0,hD0⟩:=HS0.out
  have hbw:Below w.heap.size w w1:=below_via hb1 hbc
  have hSw:S 0 D0 w1:=HKEEP.out _ _ _ _ hS0 (.of_below hbw)
  have hz2:w.heap.size+2<=w1.heap.size:=by have:=hbc.size;simpa using this
  have hk0:w1.heap[w.heap.size]? = some (boxO bt dr ow):=(hbc.block w.heap.size (by simp;omega)).trans hx0
  have hk1:w1.heap[w.heap.size+1]? = some (boxP s0 s1 s2 s3 s4):=(hbc.block (w.heap.size+1) (by simp)).trans hx1
  have hn0:¬ D0 w.heap.size/\¬ D0 (w.heap.size+1):=⟨fun h=>by have:=hD0 _ h;omega,fun h=>by have:=hD0 _ h;omega⟩
  have hcase:(v'=.slice none 0 0/\es.length=0)\/∃ gE cE,v'=.slice (some ⟨gE,0,none⟩) es.length cE/\w.heap.size+2<=gE:=by
   rcases hrow1.2 with ⟨e1,e2⟩ | ⟨g,c,cur,e1,_⟩
   ·exact .inl ⟨e1,e2⟩
   ·refine .inr ⟨g,c,e1,?_⟩
    have:=hfr1 g (by rw[e1];rfl)
    simpa using this
  have HD0:Hid (∀ x,w.heap.size<=x->¬ D0 x):=fun x hx h=>by have:=hD0 _ h;omega
  have HROW1:Hid _:=hrow1
  have HK:Hid _:=And.intro hbw (And.intro hSw (And.intro hz2 (And.intro hk0 (And.intro hk1 hn0))))
  have HEE:Hid _:=And.intro hE0 (And.intro hEl (And.intro hEk hEs))
  clear hE0 hEl hEk hEs hx0 hx1 hb0 hb1 hS0 hD0 hbw hSw hz2 hk0 hk1 hn0 hrow1 hfr1 hbc HX HCL HE HS0
  rcases hcase with ⟨rfl,hlen0⟩ | ⟨gE,cE,rfl,hgE⟩
  ·obtain⟨q0,q1,q2,q3⟩:=boxO_cells HK.out.2.2.2.1
   have hd:=HDIR.out D0 w1 (.slice none 0 0) (by rw[hlen0];exact HK.out.2.1) (by
    have h1:=HROW1.out
    have h2:E es.length=es:=by rw[hlen0];exact HEE.out.1
    rw[h2];exact h1)
   have HD:Hid _:=hd
   clear hd HEE HREC HCH
   go_wp2
   go_loopw [25] (fun i wr=>i=.int .i64 0/\wr=w1) (fun _ _=>0)
   case atStart=>exact⟨rfl,rfl⟩
   case round=>
    obtain⟨rfl,rfl⟩:=hrel
    go_wp2_with (go_at_call 145;refine Calls.mono HD.out ?_;rintro e w2 ⟨rfl,hR⟩)
    go_ret
    exact⟨rfl,hR⟩
  ·have hst:WorkAt S w.heap.size (boxO bt dr ow) (boxP s0 s1 s2 s3 s4) gE cE es.length E 0 D0 w1:=⟨HK.out.2.1,HK.out.2.2.2.1,HK.out.2.2.2.2.1,by rw[HEE.out.1];exact HROW1.out,⟨HK.out.2.2.2.2.2.1,HK.out.2.2.2.2.2.2,HD0.out gE (by omega)⟩,hgE⟩
   have HST:Hid _:=hst
   clear hst HROW1 HK
   go_wp2
   go_loopw [25] (fun i wr=>∃ k:Nat,k<=es.length/\i=.int .i64 k/\Hid (∃ D,WorkAt S w.heap.size (boxO bt dr ow) (boxP s0 s1 s2 s3 s4) gE cE es.length E k D wr)) (fun i _=>es.length-(intOf i).toNat)
   case atStart=>exact⟨0,Nat.zero_le _,rfl,D0,HST.out⟩
   case round=>
    obtain⟨k,hk,rfl,HW⟩:=hrel
    obtain⟨D,hW⟩:=HW.out
    obtain⟨q0,q1,q2,q3⟩:=boxO_cells hW.b0
    obtain⟨p0,p1,p2,p3,p4,p5⟩:=boxP_cells hW.b1
    by_cases hlt:k<es.length
    ·have hkl:k<(E k).length:=by rw[HEE.out.2.1 k hk];exact hlt
     obtain⟨hgl,e0,e1,e2⟩:=work_cells hW hkl
     have hek:(E k)[k]=es[k]:=by
      have:=HEE.out.2.2.1 k hlt
      rw[List.getElem?_eq_getElem hkl] at this
      exact Option.some.inj this
     rw[hek] at e0 e1 e2
     have hcx:=fun W=>HCH.out (es[k]).1 W (List.mem_map_of_mem (List.getElem_mem hlt))
     have hrx:=fun W D hs=>HREC.out k hlt D W hs
     have hturn:∀ W W' D',Below wr.heap.size wr W->S (k+1) D' W'->Turn D D' W W'->gE<W'.heap.size/\(∃ x,W'.cell? ⟨gE,k*3+2,none⟩=some x)/\W'.frozen? ⟨gE,k*3+2,none⟩=false/\∀ q,WorkAt S w.heap.size (boxO bt dr ow) (boxP s0 s1 s2 s3 s4) gE cE es.length E (k+1) D' ((W'.setCell ⟨gE,k*3+2,none⟩ (.int .i64 (r k))).drewN q):=by
      intro W W' D' hb hs hT
      refine WorkAt.turn (hW.below HKEEP.out hb) HKEEP.out hT hs hlt (HEE.out.2.1 k hk) ?_
      rw[HEE.out.2.2.1 k hlt]
      exact HEE.out.2.2.2 k hlt
     have hSat:∀ W,Below wr.heap.size wr W->S k D W:=fun W hb=>(hW.below HKEEP.out hb).st
     have hzr:w.heap.size+2<=wr.heap.size:=by have:=hgl;have:=hW.ge;omega
     have hnD:¬ D w.heap.size/\¬ D (w.heap.size+1)/\¬ D wr.heap.size:=⟨hW.out.1,hW.out.2.1,fun h=>by have:=HINB.out _ _ _ hW.st _ h;omega⟩
     have hge:=hW.ge
     have HRX:Hid _:=hrx
     have HT:Hid _:=And.intro hturn (And.intro hSat hnD)
     clear hrx hturn hSat hek hW hnD
     generalize r k=rk at HRX HT
     generalize es[k]=x at e0 e1 e2 hcx HRX
     obtain⟨xn,xk,xi⟩:=x
     simp only at e0 e1 e2 hcx HRX
     obtain⟨r0,r1,r2,r3,r4,hP'⟩:∃ s0 s1 s2 s3 s4,pathA (q ++ [xn]) = #[.string s0,.string s1,.string s2,.string s3,.string s4]:=⟨_,_,_,_,_,rfl⟩
     rw[hP'] at hcx HRX
     clear hP'
     have b0:Below wr.heap.size wr (wr.alloc (.cells #[.string xn,.int .i64 xk,.int .i64 xi] 76)).drew:=below_drew ((Below.refl _ _).alloc (Nat.le_refl _) _)
     have hSa:Cells3 w.heap.size wr.heap.size bt dr ow s0 s1 s2 s3 s4 xn xk xi (wr.alloc (.cells #[.string xn,.int .i64 xk,.int .i64 xi] 76)).drew:=by
      refine⟨(b0.cell (p:=⟨w.heap.size,0,none⟩) q0).trans q1,(b0.cell (p:=⟨w.heap.size,1,none⟩) q0).trans q2,(b0.cell (p:=⟨w.heap.size,2,none⟩) q0).trans q3,(b0.cell (p:=⟨w.heap.size+1,0,none⟩) p0).trans p1,(b0.cell (p:=⟨w.heap.size+1,1,none⟩) p0).trans p2,(b0.cell (p:=⟨w.heap.size+1,2,none⟩) p0).trans p3,(b0.cell (p:=⟨w.heap.size+1,3,none⟩) p0).trans p4,(b0.cell (p:=⟨w.heap.size+1,4,none⟩) p0).trans p5,?_,?_,?_⟩
      ·exact cell_at (heap_alloc_new wr _) 0
      ·exact cell_at (heap_alloc_new wr _) 1
      ·exact cell_at (heap_alloc_new wr _) 2
     have hz0:wr.heap.size<(wr.alloc (.cells #[.string xn,.int .i64 xk,.int .i64 xi] 76)).drew.heap.size:=by simp
     go_wp2
     unfold Cells3 at hSa
     go_region_held3 (fun W=>W.cell? ⟨w.heap.size,0,none⟩=some (.pointer (some ⟨bt,0,none⟩))/\W.cell? ⟨w.heap.size,1,none⟩=some (.pointer (some ⟨dr,0,none⟩))/\W.cell? ⟨w.heap.size,2,none⟩=some (.map (some ow))/\W.cell? ⟨w.heap.size+1,0,none⟩=some (.string s0)/\W.cell? ⟨w.heap.size+1,1,none⟩=some (.string s1)/\W.cell? ⟨w.heap.size+1,2,none⟩=some (.string s2)/\W.cell? ⟨w.heap.size+1,3,none⟩=some (.string s3)/\W.cell? ⟨w.heap.size+1,4,none⟩=some (.string s4)/\W.cell? ⟨wr.heap.size,0,none⟩=some (.string xn)/\W.cell? ⟨wr.heap.size,1,none⟩=some (.int .i64 xk)/\W.cell? ⟨wr.heap.size,2,none⟩=some (.int .i64 xi))
      (first | exact hSa | exact hSb | exact hSc | exact hSd _ | exact hSd2)
      (first
      | (go_at_call 126;refine (hcx _).mono ?_;rintro e w2 ⟨rfl,hb2⟩;have b1:=below_via b0 hb2;have hSb:=Cells3.keep hSa (fun o=>(bcell hb2).1 w.heap.size o (by omega)) (fun o=>(bcell hb2).1 (w.heap.size+1) o (by omega)) (fun o=>(bcell hb2).1 wr.heap.size o hz0);unfold Cells3 at hSb;have hz2:=Nat.lt_of_lt_of_le hz0 hb2.size)
      | (go_at_call 65;refine Calls.mono (HRX.out _ _ (HT.out.2.1 _ b1)) ?_;rintro e w3 ⟨rfl,D',hS',hTn⟩;obtain⟨t0,⟨tx,t1⟩,t2,t3⟩:=HT.out.1 _ _ _ b1 hS' hTn;have hSc:=Cells3.keep hSb (fun o=>hTn.cell (by omega) HT.out.2.2.1 o) (fun o=>hTn.cell (by omega) HT.out.2.2.2.1 o) (fun o=>hTn.cell hz2 HT.out.2.2.2.2 o);have hSd2:=Cells3.keep hSc (fun o=>cell_set_other (b:=gE) (o:=k*3+2) (v:=.int .i64 rk) (show w.heap.size≠gE by omega)) (fun o=>cell_set_other (b:=gE) (o:=k*3+2) (v:=.int .i64 rk) (show w.heap.size+1≠gE by omega)) (fun o=>cell_set_other (b:=gE) (o:=k*3+2) (v:=.int .i64 rk) (show wr.heap.size≠gE by omega));unfold Cells3 at hSc hSd2;have HT3:Hid _:=t3;clear t3 hS' hTn))
     all_goals
      go_wp2
      go_roundw
      case rel=>exact⟨k+1,by omega,by go_num,D',HT3.out 0⟩
      case measure=>simp[intOf];omega
    ·have hkm:k=es.length:=by omega
     subst hkm
     have hd:=HDIR.out D wr (.slice (some ⟨gE,0,none⟩) es.length cE) hW.st hW.row
     have HD:Hid _:=hd
     clear hd hW
     go_wp2_with (go_at_call 145;refine Calls.mono HD.out ?_;rintro e w2 ⟨rfl,hR⟩)
     go_ret
     exact⟨rfl,hR⟩
theorem OwnF.look {tg:Tags}{w:World}{i:Nat}{B:WB}{of:List ByteArray->Option Nat}{lim:Nat}(h:OwnF tg w i B of lim){q:List ByteArray}(hq:Good q){f:Nat}(hf:of q=some f){W:World}(hb:Below w.heap.size w W):
  (Instr.lookup 127 (.map (some B.oF)) (.agg (pathA q)) false).run Tryz.prog W=.ok (.pointer (some ⟨f,0,none⟩)) W:=by
 obtain⟨_,⟨n,_,hp⟩,_⟩:=h
 have:=PMap.look (hp.keep (hb.block B.oF hp.lt)) Tryz.underlying127 (zeroFp W) hq
 rw[hf] at this
 exact this
section
variable {s i p:Nat}{B:WB}{objs:List Ob}
theorem OSt.keepOut {w0 W W':World}{D:Nat->Prop}{b:DB}{ow n:Nat}{a:List Ob}{f:List ByteArray->Option Int}{N:Nat}(h:OSt w0 p objs D W b ow a f N)(hn:w0.heap.size<=n)(hk:KeepOut (Dow D ow) n W W'):OSt w0 p objs D W' b ow a f N:=by
 obtain⟨m,hm,hp⟩:=h.map
 have hb:∀ k,Dow D ow k->W'.heap[k]? = W.heap[k]?:=fun k hd=>hk.block k (h.inb k hd).2 (.inr hd)
 refine⟨⟨hk.os.trans h.below.os,hk.tape.trans h.below.tape,hk.output.trans h.below.output,Nat.le_trans h.below.size hk.size,fun k hkk=>?_⟩,fun k hd=>⟨(h.inb k hd).1,Nat.lt_of_lt_of_le (h.inb k hd).2 hk.size⟩,h.dinv.keep (fun k _ hd=>hb k (.inl hd)) (fun _ _ h=>h),h.nin,⟨m,hm,hp.keep (hb ow (.inr rfl))⟩,h.few⟩
 rw[hk.block k (Nat.lt_of_lt_of_le hkk h.below.size) (.inl (by omega)),h.below.block k hkk]
def Left8 (w0:World)(p:Nat)(objs:List Ob)(D:Nat->Prop)(W w':World)(b:DB)(ow:Nat)(a':List Ob)(f:List ByteArray->Option Int)(q:List ByteArray)(N':Nat):Prop:=
 ∃ D' f',OSt w0 p objs D' w' b ow a' f' N'/\Turn (Dow D ow) (Dow D' ow) W w'/\∀ q',¬ q <+: q'->f' q'=f q'
def entsAt (fl:Nat->Option (Int×ByteArray))(n:Nat)(es:Kids)(a:List Ob)(k:Nat):List Ent:=(kidsR fl n (es.take k) a).1++(es.drop k).map entOf
theorem kidsR_len (fl:Nat->Option (Int×ByteArray))(n:Nat):∀ (es:Kids) (a:List Ob),(kidsR fl n es a).1.length=es.length:=by
 intro es a
 have h:∀ l:Kids,(kidsR fl n l.reverse a).1.length=l.reverse.length:=by
  intro l
  induction l with
  | nil=>rfl
  | cons x r ih=>rw[List.reverse_cons,kidsR_snoc,List.length_append,ih];simp
 have:=h es.reverse
 rwa [List.reverse_reverse] at this
theorem entsAt_facts (fl:Nat->Option (Int×ByteArray))(n:Nat)(es:Kids)(a:List Ob):entsAt fl n es a 0=es.map entOf/\entsAt fl n es a es.length=(kidsR fl n es a).1/\(∀ k,k<=es.length->(entsAt fl n es a k).length=es.length)/\
  (∀ k (hk:k<es.length),(entsAt fl n es a k)[k]? = some (entOf es[k]))/\∀ k (hk:k<es.length),entsAt fl n es a (k+1)=(entsAt fl n es a k).set k ((es[k]).1,(es[k]).2.kind,(objR fl n (es[k]).2 (kidsR fl n (es.take k) a).2).1):=by
 refine⟨by simp[entsAt,kidsR],by simp[entsAt],fun k hk=>?_,fun k hk=>?_,fun k hk=>?_⟩
 ·unfold entsAt
  rw[List.length_append,kidsR_len,List.length_take,List.length_map,List.length_drop];omega
 ·unfold entsAt
  have hl:(kidsR fl n (es.take k) a).1.length=k:=by rw[kidsR_len,List.length_take];omega
  rw[List.getElem?_append_right (by omega),hl,Nat.sub_self,List.getElem?_map,List.getElem?_drop,Nat.add_zero,List.getElem?_eq_getElem hk];rfl
 ·unfold entsAt
  have hl:(kidsR fl n (es.take k) a).1.length=k:=by rw[kidsR_len,List.length_take];omega
  rw[List.take_succ_eq_append_getElem hk,kidsR_snoc,List.drop_eq_getElem_cons hk,List.map_cons,List.set_append_right _ _ (by omega),hl,Nat.sub_self,List.set_cons_zero,List.append_assoc]
  rfl
structure Base8 (tg:Tags)(w0:World)(s i p:Nat)(B:WB)(objs:List Ob)(g:WG)(lim:Nat)(t:LT):Prop where
 inv:WInv tg w0 s i p B objs g lim
 flat:Flat objs t g.ft
 exact:Exact objs
 fl:FlOk objs g.fl
theorem Base8.flSz {tg:Tags}{w0:World}{g:WG}{lim:Nat}{t:LT}(h:Base8 tg w0 s i p B objs g lim t):FlSz objs g.fl:=fun f id d hf=>⟨fun h0=>h.fl f id d hf h0,fun _=>(h.inv.wp.files f id d hf).2.2⟩
theorem Base8.pool {tg:Tags}{w0 W:World}{g:WG}{lim:Nat}{t:LT}(h:Base8 tg w0 s i p B objs g lim t){D:Nat->Prop}{b:DB}{ow:Nat}{a:List Ob}{f:List ByteArray->Option Int}{N:Nat}(hO:OSt w0 p objs D W b ow a f N):(∃ ft,InvP ft (fun k=>tg k=(1,0)) W s p objs)/\∀ k,tg k=(1,0)->¬ D k:=by
 obtain⟨hfr,ft,_,hi,_⟩:=h.inv.st
 refine⟨⟨ft,hi.below hO.below (fun _ _ h=>h)⟩,fun k hk hd=>?_⟩
 have:=hfr k (hO.inb k (.inl hd)).1
 rw[this] at hk
 cases hk
theorem Base8.tree {tg:Tags}{w0 W:World}{g:WG}{lim:Nat}{t:LT}(h:Base8 tg w0 s i p B objs g lim t)(hb:Below w0.heap.size w0 W):B.bt<W.heap.size/\W.cell? ⟨B.bt,0,none⟩=some (.pointer (some ⟨p,0,none⟩))/\W.cell? ⟨B.bt,7,none⟩=some (.map (some B.oF))/\W.cell? ⟨B.bt,8,none⟩=some (.map (some B.oD)):=by
 have ht:=(h.inv.below hb).wp.tree.ht
 exact⟨(Array.getElem?_eq_some_iff.1 ht).1,cell_at ht 0,cell_at ht 7,cell_at ht 8⟩
theorem Left8.of_below {w0 W w':World}{D:Nat->Prop}{b:DB}{ow:Nat}{a:List Ob}{f:List ByteArray->Option Int}{q:List ByteArray}{N N':Nat}(hO:OSt w0 p objs D W b ow a f N)(hb:Below W.heap.size W w')(hN:N<=N'):Left8 w0 p objs D W w' b ow a f q N':=
 ⟨D,f,(hO.via hb).mono hN,Turn.of_below hb,fun _ _=>rfl⟩
theorem file_all {tg:Tags}{w0 W:World}{g:WG}{lim:Nat}{t:LT}(h:Base8 tg w0 s i p B objs g lim t){D:Nat->Prop}{b:DB}{ow:Nat}{a:List Ob}{f:List ByteArray->Option Int}{N:Nat}(hO:OSt w0 p objs D W b ow a f N)(hN:N<3000){q:List ByteArray}(hq:Good q){fb:Nat}(ha:t.at objs q=some (.held fb)):
  Calls Tryz.prog 144 #[.agg #[.pointer (some ⟨B.bt,0,none⟩),.pointer (some ⟨b.dr,0,none⟩),.map (some ow)],.agg (pathA q)] W fun e w'=>e=.returned (.int .i64 (heldR (g.fl fb) a).1)/\Left8 w0 p objs D W w' b ow (heldR (g.fl fb) a).2 f q (N+1):=by
 have hof:g.ft.of q=some fb:=by rw[h.flat.of,ha];rfl
 obtain⟨⟨id,d⟩,hx⟩:=h.inv.wp.held q fb hof
 obtain⟨hbt,_,c7,_⟩:=h.tree hO.below
 have hWf:=(h.inv.below hO.below).wp.files fb id d hx
 have hfl:=(Array.getElem?_eq_some_iff.1 hWf.2.1).1
 have cf:W.cell? ⟨fb,1,none⟩=some (.int .i64 id):=cell_at hWf.2.1 1
 have cd:W.cell? ⟨fb,2,none⟩=some (.string d):=cell_at hWf.2.1 2
 have hlk:∀ W',Below W.heap.size W W'->(Instr.lookup 127 (.map (some B.oF)) (.agg (pathA q)) false).run Tryz.prog W'=.ok (.pointer (some ⟨fb,0,none⟩)) W':=fun W' hb=>h.inv.wp.ownF.look hq hof (below_via hO.below hb)
 rw[hx]
 by_cases hid:id=0
 ·subst hid
  have e:heldR (some ((0:Int),d)) a=fileD a d:=by simp[heldR]
  rw[e]
  obtain⟨⟨ft,hP⟩,hdis⟩:=h.pool hO
  refine ofile_own B.bt B.oF b.dr ow fb _ _ _ _ _ d _ _ W hbt hfl c7 cf cd hlk (fun W' hb=>?_)
  have hO':=hO.via hb
  refine (dfile_any (hP.below hb (fun _ _ h=>h)) hdis hO'.dinv (by have:=hO.few;omega) d hWf.2.2).mono ?_
  rintro e w' ⟨he,hd,hk⟩
  have hl:(fileD a d).2.length<=N+1:=by
   have:=hO.few
   unfold fileD
   cases fileAt a d with
   | none=>simp;omega
   | some _=>simp;omega
  obtain⟨h1,h2⟩:=hO'.draft hd hk (Nat.le_succ N) hl
  exact⟨he,_,f,h1,h2.via hb,fun _ _=>rfl⟩
 ·have e:heldR (some (id,d)) a=(id,a):=by simp[heldR,hid]
  rw[e]
  refine (ofile_stored B.bt B.oF b.dr ow fb _ _ _ _ _ id W hbt hfl c7 cf hid hlk).mono ?_
  rintro e w' ⟨he,hb⟩
  exact⟨he,Left8.of_below hO hb (Nat.le_succ N)⟩
end
abbrev comp (l:List ByteArray)(k:Nat):ByteArray:=l.getD k ⟨#[]⟩
section
variable {s i p:Nat}{B:WB}{objs:List Ob}
theorem object_own {tg:Tags}{w0 W:World}{g:WG}{lim:Nat}{t:LT}{D:Nat->Prop}{b:DB}{ow:Nat}{a a':List Ob}{f:List ByteArray->Option Int}{N N':Nat}(hO:OSt w0 p objs D W b ow a f N){q:List ByteArray}(hq:Good q)(hf:f q=none)(nm:ByteArray)(k r:Int)(hN:N'<50000)
  (hw:∀ W1,Below W.heap.size W W1->Calls Tryz.prog 109 #[.agg #[.pointer (some ⟨B.bt,0,none⟩),.pointer (some ⟨b.dr,0,none⟩),.map (some ow)],.agg (pathA q),.int .i64 k] W1 fun e w'=>e=.returned (.int .i64 r)/\Left8 w0 p objs D W1 w' b ow a' f q N'):
  Calls Tryz.prog 65 #[.agg #[.pointer (some ⟨B.bt,0,none⟩),.pointer (some ⟨b.dr,0,none⟩),.map (some ow)],.agg (pathA q),.agg #[.string nm,.int .i64 k,.int .i64 0]] W fun e w'=>e=.returned (.int .i64 r)/\Left8 w0 p objs D W w' b ow a' f q (N'+1):=by
 have hb:=objBoxes_below W B.bt b.dr ow (comp q 0) (comp q 1) (comp q 2) (comp q 3) (comp q 4) nm k 0
 have hsz3:(objBoxes W B.bt b.dr ow (comp q 0) (comp q 1) (comp q 2) (comp q 3) (comp q 4) nm k 0).heap.size=W.heap.size+3:=by unfold objBoxes;simp
 refine oobject_own B.bt b.dr ow _ _ _ _ _ nm k r (fun w'=>Left8 w0 p objs D (objBoxes W B.bt b.dr ow (comp q 0) (comp q 1) (comp q 2) (comp q 3) (comp q 4) nm k 0) w' b ow a' f q N') (fun w'=>Left8 w0 p objs D W w' b ow a' f q (N'+1)) W (fun W1 hb1=>?_) (hw _ hb) (fun w' ⟨D',f',h1,h2,h3⟩ j o hj1 hj2=>?_) (fun w' ⟨D',f',h1,h2,h3⟩=>?_) (fun w' ⟨D',f',h1,h2,h3⟩=>?_)
 ·obtain⟨n,_,hp⟩:=(hO.via hb1).map
  have:=PMap.look_ok hp Tryz.underlying119 (zero25 W1) hq
  rw[hf] at this
  exact this
 ·refine h2.cell (by rw[hsz3];omega) (fun hd=>?_) o
  have:=(hO.inb j hd).2
  omega
 ·have:=h2.keeps.size
  rw[hsz3] at this
  exact this
 ·obtain⟨w'',hrun,h4,h5,_⟩:=h1.note (by omega) hq r
  refine⟨w'',hrun,D',_,h4,(h2.via hb).trans h5,fun q' hq'=>?_⟩
  rw[upd_other (fun e=>hq' (by rw[e];exact List.prefix_refl _))]
  exact h3 q' hq'
theorem cnt_take (n:Nat)(es:Kids)(k:Nat)(hk:k<es.length):((es.take (k+1)).map fun x=>cntO n x.2).sum=((es.take k).map fun x=>cntO n x.2).sum+cntO n (es[k]).2:=by
 rw[List.take_succ_eq_append_getElem hk,List.map_append,List.sum_append];simp
theorem cnt_take_le (n:Nat)(es:Kids)(k:Nat):((es.take k).map fun x=>cntO n x.2).sum<=(es.map fun x=>cntO n x.2).sum:=by
 conv=>rhs;rw[<- List.take_append_drop k es]
 rw[List.map_append,List.sum_append];omega
theorem apart {q q':List ByteArray}{x y:ByteArray}(h:x≠y)(h1:q ++ [x] <+: q'):¬ q ++ [y] <+: q':=by
 rintro ⟨l,rfl⟩
 obtain⟨l2,h2⟩:=h1
 rw[List.append_assoc,List.append_assoc] at h2
 have:=List.append_cancel_left h2
 simp at this
 exact h this.1
def DirSt (w0:World)(p:Nat)(objs:List Ob)(D0:Nat->Prop)(w:World)(b:DB)(ow:Nat)(fl:Nat->Option (Int×ByteArray))(n:Nat)(es:Kids)(a:List Ob)(f:List ByteArray->Option Int)(q:List ByteArray)(N:Nat)(k:Nat)(D:Nat->Prop)(W:World):Prop:=
 ∃ D1 f1,D=Dow D1 ow/\OSt w0 p objs D1 W b ow (kidsR fl n (es.take k) a).2 f1 (N+2*((es.take k).map fun x=>cntO n x.2).sum)/\Turn (Dow D0 ow) D w W/\(∀ q',¬ q <+: q'->f1 q'=f q')/\∀ j (hj:j<es.length),k<=j->∀ q',q ++ [(es[j]).1] <+: q'->f1 q'=none
theorem fits_id {a:List Ob}(hl:a.length<100000){e:Ent}(hv:validB e.1=true)(h12:e.2.1=1\/e.2.1=2)(hk:kindOf a e.2.2=e.2.1):Fits e/\1<=e.1.size:=by
 have hs:=valid_size hv
 obtain⟨h1,h2⟩:=kindOf_pos (a:=a) (id:=e.2.2) (by rw[hk];exact ne0 h12)
 exact⟨⟨by unfold maxLen;omega,WalkArith.wf_i64 (by omega),WalkArith.wf_i64 (by omega)⟩,hs.1⟩
theorem work_dir {tg:Tags}{w0:World}{g:WG}{lim:Nat}{t:LT}(h:Base8 tg w0 s i p B objs g lim t)(n:Nat)(hn:n<=5)
  {es:Kids}{q:List ByteArray}(hr:RisingK es)(h16:es.length<=16)(hks:∀ x ∈ es,validB x.1=true/\LTok objs n x.2)(ha:t.at objs q=some (.own es))(hq:Good q)(h4:∀ x ∈ es,q.length<=4)
  {D:Nat->Prop}{W:World}{b:DB}{ow:Nat}{a:List Ob}{f:List ByteArray->Option Int}{N:Nat}(hO:OSt w0 p objs D W b ow a f N)(hdr:Drafted objs a)(hf:∀ q',q <+: q'->f q'=none)(hN:N+2*(es.map fun x=>cntO n x.2).sum<3000)
  (ih:∀ x ∈ es,∀ (D:Nat->Prop) (W:World) (a:List Ob) (f:List ByteArray->Option Int) (N:Nat),OSt w0 p objs D W b ow a f N->Drafted objs a->(∀ q',q ++ [x.1] <+: q'->f q'=none)->N+2*cntO n x.2<3000->
   Calls Tryz.prog 65 #[.agg #[.pointer (some ⟨B.bt,0,none⟩),.pointer (some ⟨b.dr,0,none⟩),.map (some ow)],.agg (pathA (q ++ [x.1])),.agg #[.string x.1,.int .i64 x.2.kind,.int .i64 x.2.id]] W fun e w'=>e=.returned (.int .i64 (objR g.fl n x.2 a).1)/\Left8 w0 p objs D W w' b ow (objR g.fl n x.2 a).2 f (q ++ [x.1]) (N+2*cntO n x.2)):
  Calls Tryz.prog 109 #[.agg #[.pointer (some ⟨B.bt,0,none⟩),.pointer (some ⟨b.dr,0,none⟩),.map (some ow)],.agg (pathA q),.int .i64 2] W fun e w'=>e=.returned (.int .i64 (dirD (kidsR g.fl n es a).2 (kidsR g.fl n es a).1).1)/\Left8 w0 p objs D W w' b ow (dirD (kidsR g.fl n es a).2 (kidsR g.fl n es a).1).2 f q (N+2*(es.map fun x=>cntO n x.2).sum+1):=by
 obtain⟨hbt,_,_,c8⟩:=h.tree hO.below
 obtain⟨vD,hD⟩:=h.inv.wp.ownD
 have ho:g.ft.od q=some (es.map entOf):=by rw[h.flat.od,ha];rfl
 have hrow:=hD.row q _ ho
 have hlk:∀ W',Below W.heap.size W W'->(Instr.lookup 128 (.map (some B.oD)) (.agg (pathA q)) false).run Tryz.prog W'=.ok (vD q) W':=fun W' hb=>by
  have:=hD.look hq (below_via hO.below hb)
  rw[ho] at this
  exact this
 have hrowW:W.ownsRow 0 76 3 (vD q) (es.map entOf).length (flat (es.map entOf)):=ownsRow_keep hrow.1 (fun k hk=>hO.below.block k (ownsRow_lt hrow.1 hk))
 obtain⟨x0,x1,x2,x3,x4⟩:=entsAt_facts g.fl n es a
 have hfl0:=h.flSz
 obtain⟨l0,hl0⟩:=hdr.app
 have hfa:FlSz a g.fl:=by rw[hl0];exact hfl0.app l0
 have hka:∀ x ∈ es,validB x.1=true/\LTok a n x.2:=fun x hx=>⟨(hks x hx).1,by rw[hl0];exact LTok_app l0 n _ (hks x hx).2⟩
 have hall:=fun k:Nat=>kidsR_ok g.fl n (fun c a' he hok hfz=>objR_ok g.fl n hn c a' he hok hfz) (es.take k) a (hdr.exact h.exact) hfa (fun x hx=>hka x (List.mem_of_mem_take hx))
 have hlen:(es.map entOf).length=es.length:=by simp
 refine owork_dir B.bt B.oD b.dr ow _ _ _ _ _ q (vD q) (es.map entOf) (entsAt g.fl n es a) (fun k=>(objR g.fl n ((es[k]?).getD (⟨#[]⟩,.file 0)).2 (kidsR g.fl n (es.take k) a).2).1) _ (DirSt w0 p objs D W b ow g.fl n es a f q N) (fun w'=>Left8 w0 p objs D W w' b ow (dirD (kidsR g.fl n es a).2 (kidsR g.fl n es a).1).2 f q (N+2*(es.map fun x=>cntO n x.2).sum+1)) (Dow D ow) W hbt c8 hlk hrowW (by rw[hlen];exact h16) x0 (fun k hk=>by rw[hlen] at hk ⊢;exact x2 k hk) (fun k hk=>?_) (fun k hk=>?_) (fun x W' hx=>?_) ?_ (fun x hx=>(hO.inb x hx).2) ?_ ?_ ?_ ?_
 ·have hk':k<es.length:=by rw[hlen] at hk;exact hk
  rw[x3 k hk',List.getElem_map]
 ·have hk':k<es.length:=by rw[hlen] at hk;exact hk
  rw[x4 k hk',List.getElem?_eq_getElem hk',Option.getD_some,List.getElem_map]
  rfl
 ·rw[List.map_map] at hx
  obtain⟨y,hy,rfl⟩:=List.mem_map.1 hx
  exact child_any q hq (h4 y hy) y.1 W'
 ·exact⟨D,f,rfl,by simpa [kidsR] using hO,Turn.of_below (Below.refl _ _),fun _ _=>rfl,fun j hj _ q' hq'=>hf q' ((List.prefix_append _ _).trans hq')⟩
 ·rintro k D2 W2 W3 ⟨D1,f1,rfl,h1,h2,h3,h4'⟩ hk
  exact⟨D1,f1,rfl,h1.keepOut hO.below.size hk,⟨⟨hk.os.trans h2.keeps.os,hk.tape.trans h2.keeps.tape,hk.output.trans h2.keeps.output,Nat.le_trans h2.keeps.size hk.size,fun x hx hnx=>(hk.block x (Nat.lt_of_lt_of_le hx h2.keeps.size) (.inl hx)).trans (h2.keeps.block x hx hnx)⟩,h2.own⟩,h3,h4'⟩
 ·rintro k D2 W2 ⟨D1,f1,rfl,h1,_⟩ x hx
  exact (h1.inb x hx).2
 ·rintro k hk D2 W2 ⟨D1,f1,rfl,h1,h2,h3,h4'⟩
  have hk':k<es.length:=by rw[hlen] at hk;exact hk
  have hm:=List.getElem_mem hk'
  obtain⟨hd1,_⟩:=hall k
  have hcnt:=cnt_take n es k hk'
  have hcl:=cnt_take_le n es (k+1)
  have:=ih es[k] hm D1 W2 _ f1 _ h1 (hdr.trans hd1) (h4' k hk' (Nat.le_refl _)) (by omega)
  rw[List.getElem_map,List.getElem?_eq_getElem hk',Option.getD_some]
  refine this.mono ?_
  rintro e w' ⟨he,D3,f3,k1,k2,k3⟩
  refine⟨he,Dow D3 ow,⟨D3,f3,rfl,?_,h2.trans k2,fun q' hq'=>?_,fun j hj hkj q' hq'=>?_⟩,k2⟩
  ·rw[hcnt,List.take_succ_eq_append_getElem hk',kidsR_snoc]
   have e1:N+2*((es.take k).map fun x=>cntO n x.2).sum+2*cntO n (es[k]).2=N+2*(((es.take k).map fun x=>cntO n x.2).sum+cntO n (es[k]).2):=by omega
   rw[<- e1];exact k1
  ·rw[k3 q' (fun h=>hq' ((List.prefix_append _ _).trans h)),h3 q' hq']
  ·have hne:(es[j]).1≠(es[k]).1:=by
    intro e
    have:=List.pairwise_iff_getElem.1 hr k j hk' hj (by omega)
    rw[e,cmpN_self] at this
    omega
   rw[k3 q' (apart hne hq')]
   exact h4' j hj (by omega) q' hq'
 ·rintro D2 W2 v' ⟨D1,f1,rfl,h1,h2,h3,h4'⟩ hrv
  rw[hlen] at h1 hrv
  rw[List.take_length] at h1
  obtain⟨hd1,hd2,hd3,hd4⟩:=hall es.length
  rw[List.take_length] at hd1 hd2 hd3 hd4
  rw[x1] at hrv
  have hl1:=kidsR_len g.fl n es a
  have hfew:=h1.few
  obtain⟨⟨ft,hP⟩,hdis⟩:=h.pool h1
  have hNm:Named (kidsR g.fl n es a).1:=⟨by rw[hl1];exact h16,fun e he=>fits_id (a:=(kidsR g.fl n es a).2) (by omega) (hd3 e he).1 (hd3 e he).2.1 (hd3 e he).2.2.1⟩
  rw[<- hl1] at hrv
  refine (ddir_any hP hdis h1.dinv (by omega) v' _ hrv hNm (rising_of_K (rising_names hd2 hr))).mono ?_
  rintro e w' ⟨he,hdi,hk⟩
  have hl:(dirD (kidsR g.fl n es a).2 (kidsR g.fl n es a).1).2.length<=N+2*(es.map fun x=>cntO n x.2).sum+1:=by
   unfold dirD
   cases dirAt (kidsR g.fl n es a).2 (kidsR g.fl n es a).1 with
   | none=>simp;omega
   | some _=>simp;omega
  obtain⟨k1,k2⟩:=h1.draft hdi hk (Nat.le_succ _) hl
  exact⟨he,_,f1,k1,h2.trans k2,h3⟩
theorem Left8.via {w0 W W1 w':World}{D:Nat->Prop}{b:DB}{ow:Nat}{a':List Ob}{f:List ByteArray->Option Int}{q:List ByteArray}{N':Nat}(hb:Below W.heap.size W W1)(h:Left8 w0 p objs D W1 w' b ow a' f q N'):Left8 w0 p objs D W w' b ow a' f q N':=by
 obtain⟨D',f',h1,h2,h3⟩:=h
 exact⟨D',f',h1,h2.via hb,h3⟩
theorem object_all {tg:Tags}{w0:World}{g:WG}{lim:Nat}{t:LT}(h:Base8 tg w0 s i p B objs g lim t){b:DB}{ow:Nat}:∀ (n:Nat),n<=5->∀ (c:LT) (q:List ByteArray),LTok objs n c->t.at objs q=some c->Good q->q.length+n<=5->∀ (nm:ByteArray) (D:Nat->Prop) (W:World) (a:List Ob) (f:List ByteArray->Option Int) (N:Nat),OSt w0 p objs D W b ow a f N->Drafted objs a->(∀ q',q <+: q'->f q'=none)->N+2*cntO n c<3000->
  Calls Tryz.prog 65 #[.agg #[.pointer (some ⟨B.bt,0,none⟩),.pointer (some ⟨b.dr,0,none⟩),.map (some ow)],.agg (pathA q),.agg #[.string nm,.int .i64 c.kind,.int .i64 c.id]] W fun e w'=>e=.returned (.int .i64 (objR g.fl n c a).1)/\Left8 w0 p objs D W w' b ow (objR g.fl n c a).2 f q (N+2*cntO n c):=by
 have hst:∀ (n:Nat) (c:LT) (q:List ByteArray) (nm:ByteArray) (D:Nat->Prop) (W:World) (a:List Ob) (f:List ByteArray->Option Int) (N:Nat),OSt w0 p objs D W b ow a f N->kindOf objs c.id≠0->objR g.fl n c a=(c.id,a)->
   Calls Tryz.prog 65 #[.agg #[.pointer (some ⟨B.bt,0,none⟩),.pointer (some ⟨b.dr,0,none⟩),.map (some ow)],.agg (pathA q),.agg #[.string nm,.int .i64 c.kind,.int .i64 c.id]] W fun e w'=>e=.returned (.int .i64 (objR g.fl n c a).1)/\Left8 w0 p objs D W w' b ow (objR g.fl n c a).2 f q (N+2*cntO n c):=by
  intro n c q nm D W a f N hO hk he
  rw[he]
  have hid:c.id≠0:=fun e=>by have:=(kindOf_pos hk).1;omega
  refine (oobject_stored B.bt b.dr ow _ _ _ _ _ nm c.kind c.id W hid).mono ?_
  rintro e w' ⟨h1,h2⟩
  exact⟨h1,Left8.of_below hO h2 (Nat.le_add_right _ _)⟩
 have hheld:∀ (n:Nat) (fb:Nat) (q:List ByteArray),t.at objs q=some (.held fb)->Good q->∀ (nm:ByteArray) (D:Nat->Prop) (W:World) (a:List Ob) (f:List ByteArray->Option Int) (N:Nat),OSt w0 p objs D W b ow a f N->(∀ q',q <+: q'->f q'=none)->N+2<3000->objR g.fl n (.held fb) a=heldR (g.fl fb) a->cntO n (.held fb)=1->
   Calls Tryz.prog 65 #[.agg #[.pointer (some ⟨B.bt,0,none⟩),.pointer (some ⟨b.dr,0,none⟩),.map (some ow)],.agg (pathA q),.agg #[.string nm,.int .i64 1,.int .i64 0]] W fun e w'=>e=.returned (.int .i64 (objR g.fl n (.held fb) a).1)/\Left8 w0 p objs D W w' b ow (objR g.fl n (.held fb) a).2 f q (N+2*cntO n (.held fb)):=by
  intro n fb q ha hq nm D W a f N hO hf hN he hc
  rw[he,hc]
  refine object_own (tg:=tg) (g:=g) (lim:=lim) (t:=t) hO hq (hf q (List.prefix_refl _)) nm 1 _ (N':=N+1) (by omega) (fun W1 hb1=>?_)
  refine owork_file B.bt b.dr ow _ _ _ _ _ _ _ W1 (fun W2 hb2=>?_)
  refine (file_all h ((hO.via hb1).via hb2) (by omega) hq ha).mono ?_
  rintro e w' ⟨h1,h2⟩
  exact⟨h1,h2.via hb2⟩
 have hdir:∀ (n:Nat) (es:Kids) (q:List ByteArray) (nm:ByteArray) (D:Nat->Prop) (W:World) (a:List Ob) (f:List ByteArray->Option Int) (N N':Nat) (rr:Int×List Ob),OSt w0 p objs D W b ow a f N->Good q->(∀ q',q <+: q'->f q'=none)->N'<3000->
   (∀ W1,Below W.heap.size W W1->Calls Tryz.prog 109 #[.agg #[.pointer (some ⟨B.bt,0,none⟩),.pointer (some ⟨b.dr,0,none⟩),.map (some ow)],.agg (pathA q),.int .i64 2] W1 fun e w'=>e=.returned (.int .i64 rr.1)/\Left8 w0 p objs D W1 w' b ow rr.2 f q N')->
   Calls Tryz.prog 65 #[.agg #[.pointer (some ⟨B.bt,0,none⟩),.pointer (some ⟨b.dr,0,none⟩),.map (some ow)],.agg (pathA q),.agg #[.string nm,.int .i64 2,.int .i64 0]] W fun e w'=>e=.returned (.int .i64 rr.1)/\Left8 w0 p objs D W w' b ow rr.2 f q (N'+1):=by
  intro n es q nm D W a f N N' rr hO hq hf hN hw
  exact object_own (tg:=tg) (g:=g) (lim:=lim) (t:=t) hO hq (hf q (List.prefix_refl _)) nm 2 _ (by omega) hw
 intro n
 induction n with
 | zero=>
  intro hn c q hc ha hq hlen nm D W a f N hO hdr hf hN
  cases c with
  | file id=>exact hst 0 (.file id) q nm D W a f N hO (by rw[LTok] at hc;show kindOf objs id≠0;rw[hc];decide) (by rw[objR];rfl)
  | dir id=>exact hst 0 (.dir id) q nm D W a f N hO (by rw[LTok] at hc;show kindOf objs id≠0;rw[hc.1];decide) (by rw[objR];rfl)
  | held fb=>exact hheld 0 fb q ha hq nm D W a f N hO hf (by rw[cntO] at hN;omega) (by rw[objR]) (by rw[cntO])
  | own es=>
   rw[LTok] at hc
   subst hc
   have hcn:cntO 0 (.own [])=1:=by rw[cntO]
   rw[hcn] at hN ⊢
   have hob:objR g.fl 0 (.own []) a=dirD a []:=by rw[objR]
   rw[hob]
   refine hdir 0 [] q nm D W a f N (N+1) (dirD a []) hO hq hf (by omega) (fun W1 hb1=>?_)
   exact work_dir h 0 (by omega) (es:=[]) List.Pairwise.nil (by simp) (fun x hx=>by cases hx) ha hq (fun x hx=>by cases hx) (hO.via hb1) hdr hf (by simp;omega) (fun x hx=>by cases hx)
 | succ n ih=>
  intro hn c q hc ha hq hlen nm D W a f N hO hdr hf hN
  cases c with
  | file id=>exact hst _ (.file id) q nm D W a f N hO (by rw[LTok] at hc;show kindOf objs id≠0;rw[hc];decide) (by rw[objR];rfl)
  | dir id=>exact hst _ (.dir id) q nm D W a f N hO (by rw[LTok] at hc;show kindOf objs id≠0;rw[hc.1];decide) (by rw[objR];rfl)
  | held fb=>exact hheld _ fb q ha hq nm D W a f N hO hf (by rw[cntO] at hN;omega) (by rw[objR]) (by rw[cntO])
  | own es=>
   rw[LTok] at hc
   have hcn:cntO (n+1) (.own es)=1+(es.map fun x=>cntO n x.2).sum:=by rw[cntO]
   rw[hcn] at hN ⊢
   rw[objR_own]
   have e1:N+2*(1+(es.map fun x=>cntO n x.2).sum)=N+2*(es.map fun x=>cntO n x.2).sum+1+1:=by omega
   rw[e1]
   refine hdir n es q nm D W a f N _ (dirD (kidsR g.fl n es a).2 (kidsR g.fl n es a).1) hO hq hf (by omega) (fun W1 hb1=>?_)
   refine work_dir h n (by omega) (es:=es) hc.1 hc.2.1 hc.2.2 ha hq (fun x hx=>by omega) (hO.via hb1) hdr hf (by omega) (fun x hx D W a f N hO' hdr' hf' hN'=>?_)
   have hg:Good (q ++ [x.1]):=⟨hq.val.append (fun y hy=>by simp at hy;rw[hy];exact (hc.2.2 x hx).1),by simp;omega⟩
   exact ih (by omega) x.2 (q ++ [x.1]) (hc.2.2 x hx).2 (at_own ha hc.1 hx) hg (by simp;omega) x.1 D W a f N hO' hdr' hf' hN'
end
end Go.Proofs.YtajopoddmfdejaaGreat
