/-
  What is proved here: a new draft and a new outline; Commit of a tree: the object that the model says, and the objects that are in the store then. Commit of a workspace's tree, and of a workspace: the object ..
-/
import Derived.Test.YtajopoddmfdejaaGreatRetM34
import Derived.Deep.RegionHeld3
import Derived.Test.YtajopoddmfdejaaGreatRetM31
import Derived.Test.YtajopoddmfdejaaGreatRetM08
import Derived.Test.YtajopoddmfdejaaGreatRetM30
namespace Go.Proofs.YtajopoddmfdejaaGreat
open Go.RowKit Go.Sort Go.Shelf
set_option linter.unusedVariables false
set_option maxRecDepth 100000
set_option maxHeartbeats 16000000
theorem newdraft_any (p:Nat)(w:World):
  Calls Tryz.prog 108 #[.pointer (some ⟨p,0,none⟩)] w fun e w'=>e=.returned (.pointer (some ⟨w.heap.size+2,0,none⟩))/\w'=((w.alloc (.map #[] 0)).alloc (.map #[] 0)).alloc (.cells #[.pointer (some ⟨p,0,none⟩),.slice none 0 0,.map (some w.heap.size),.map (some (w.heap.size+1))] 185):=by
 have hmm:=@run_makeMap Tryz.prog
 go_enter Tryz.func108,Tryz.ntmps108
 go_wp2
 go_ret
 exact⟨rfl,rfl⟩
theorem outline_walk (bt p:Nat)(w:World)(hbt:bt<w.heap.size)(c0:w.cell? ⟨bt,0,none⟩=some (.pointer (some ⟨p,0,none⟩))):
  Calls Tryz.prog 64 #[.pointer (some ⟨bt,0,none⟩)] w fun e w'=>e=.returned (.agg #[.pointer (some ⟨bt,0,none⟩),.pointer (some ⟨w.heap.size+3,0,none⟩),.map (some (w.heap.size+4))])/\
   ∃ X,w'=((((w.alloc X).alloc (.map #[] 0)).alloc (.map #[] 0)).alloc (.cells #[.pointer (some ⟨p,0,none⟩),.slice none 0 0,.map (some (w.heap.size+1)),.map (some (w.heap.size+2))] 185)).alloc (.map #[] 0):=by
 have hmm:=@run_makeMap Tryz.prog
 have hnd:=fun W=>newdraft_any p W
 go_enter Tryz.func64,Tryz.ntmps64
 go_wp2_with (go_at_call 108;refine Calls.mono (hnd _) ?_;rintro e w1 ⟨rfl,rfl⟩)
 exact bodyPost_ret (v:=.agg #[.pointer (some ⟨bt,0,none⟩),.pointer (some ⟨w.heap.size+3,0,none⟩),.map (some (w.heap.size+4))]) (by simp[results,Tryz.results64,go_sem]) rfl ⟨rfl,_,rfl⟩
theorem heap5 (w:World)(x1 x2 x3 x4 x5:Obj):(((((w.alloc x1).alloc x2).alloc x3).alloc x4).alloc x5).heap[w.heap.size+1]? = some x2/\(((((w.alloc x1).alloc x2).alloc x3).alloc x4).alloc x5).heap[w.heap.size+2]? = some x3/\(((((w.alloc x1).alloc x2).alloc x3).alloc x4).alloc x5).heap[w.heap.size+3]? = some x4/\(((((w.alloc x1).alloc x2).alloc x3).alloc x4).alloc x5).heap[w.heap.size+4]? = some x5:=by
 refine⟨?_,?_,?_,?_⟩
 ·rw[RowKit.Below.heap_alloc _ _ _ (by first | (simp;done) | (simp;omega)),RowKit.Below.heap_alloc _ _ _ (by first | (simp;done) | (simp;omega)),RowKit.Below.heap_alloc _ _ _ (by first | (simp;done) | (simp;omega))]
  exact heap_alloc2_new w x1 x2
 ·rw[RowKit.Below.heap_alloc _ _ _ (by first | (simp;done) | (simp;omega)),RowKit.Below.heap_alloc _ _ _ (by first | (simp;done) | (simp;omega))]
  have:=heap_alloc_new ((w.alloc x1).alloc x2) x3
  simpa using this
 ·rw[RowKit.Below.heap_alloc _ _ _ (by first | (simp;done) | (simp;omega))]
  have:=heap_alloc_new (((w.alloc x1).alloc x2).alloc x3) x4
  simpa using this
 ·have:=heap_alloc_new ((((w.alloc x1).alloc x2).alloc x3).alloc x4) x5
  simpa using this
theorem below5 (w:World)(x1 x2 x3 x4 x5:Obj):Below w.heap.size w (((((w.alloc x1).alloc x2).alloc x3).alloc x4).alloc x5):=
 (((((Below.refl _ _).alloc (Nat.le_refl _) _).alloc (by first | (simp;done) | (simp;omega)) _).alloc (by first | (simp;done) | (simp;omega)) _).alloc (by first | (simp;done) | (simp;omega)) _).alloc (by first | (simp;done) | (simp;omega)) _
theorem outline_any {w:World}{bt p:Nat}(objs:List Ob)(hbt:bt<w.heap.size)(c0:w.cell? ⟨bt,0,none⟩=some (.pointer (some ⟨p,0,none⟩))):
  Calls Tryz.prog 64 #[.pointer (some ⟨bt,0,none⟩)] w fun e w'=>∃ b ow D,e=.returned (.agg #[.pointer (some ⟨bt,0,none⟩),.pointer (some ⟨b.dr,0,none⟩),.map (some ow)])/\OSt w p objs D w' b ow objs (fun _=>none) objs.length/\Below w.heap.size w w':=by
 refine (outline_walk bt p w hbt c0).mono ?_
 rintro e w' ⟨he,X,hw⟩
 obtain⟨h1,h2,h3,h4⟩:=heap5 w X (.map #[] 0) (.map #[] 0) (.cells #[.pointer (some ⟨p,0,none⟩),.slice none 0 0,.map (some (w.heap.size+1)),.map (some (w.heap.size+2))] 185) (.map #[] 0)
 have hb:=below5 w X (.map #[] 0) (.map #[] 0) (.cells #[.pointer (some ⟨p,0,none⟩),.slice none 0 0,.map (some (w.heap.size+1)),.map (some (w.heap.size+2))] 185) (.map #[] 0)
 rw[<- hw] at h1 h2 h3 h4 hb
 have l4:=(Array.getElem?_eq_some_iff.1 h4).1
 refine⟨⟨w.heap.size+3,w.heap.size+1,w.heap.size+2⟩,w.heap.size+4,fun k=>w.heap.size<=k/\k<w.heap.size+4,he,⟨hb,?_,⟨[],[],none,0,.map [],.map [],by simp,rfl,⟨⟨by simp,by simp⟩,⟨by simp,by simp⟩,⟨by simp,by simp⟩,fun g hg=>by simp[Value.ownBlock] at hg,h3,World.ownsRow_nil _ _ _ _,?_,?_,?_,?_,by simp,(fun o ho=>by cases ho),(fun o ho=>by cases ho)⟩⟩,by simp,⟨0,Nat.zero_le _,?_⟩,Nat.le_refl _⟩,hb⟩
 ·rintro k (⟨k1,k2⟩ | rfl)
  ·exact⟨k1,by omega⟩
  ·exact⟨by omega,l4⟩
 ·exact⟨#[],0,h1,⟨by simp,MapKept.stamped_empty 0,by simp⟩,Nat.le_refl _,rfl⟩
 ·intro d;exact⟨rfl,fun i hi=>by cases hi⟩
 ·exact⟨#[],0,h2,⟨by simp,MapKept.stamped_empty 0,by simp⟩,Nat.le_refl _,rfl⟩
 ·intro es _;exact⟨rfl,fun i hi=>by cases hi⟩
 ·exact⟨_,vmap_at h4,fun _ _=>rfl,fun kl _ hn=>absurd rfl hn⟩
section
variable {s i p:Nat}{B:WB}{objs:List Ob}
theorem commit_walk (bt dr0:Nat)(root:Int)(X:(Nat×Nat)->World->Prop)(Y:(Nat×Nat)->World->Prop)(R:World->Prop)(rr:Int)(w:World)(hbt:bt<w.heap.size)
  (c4:∀ W,Below w.heap.size w W->W.cell? ⟨bt,4,none⟩=some (.string ⟨#[]⟩)/\W.cell? ⟨bt,5,none⟩=some (.int .i64 2)/\W.cell? ⟨bt,6,none⟩=some (.int .i64 root))
  (hout:Calls Tryz.prog 64 #[.pointer (some ⟨bt,0,none⟩)] w fun e w'=>∃ b,e=.returned (.agg #[.pointer (some ⟨bt,0,none⟩),.pointer (some ⟨b.1,0,none⟩),.map (some b.2)])/\X b w'/\Below w.heap.size w w')
  (hobj:∀ b W W',X b W->Below W.heap.size W W'->Calls Tryz.prog 65 #[.agg #[.pointer (some ⟨bt,0,none⟩),.pointer (some ⟨b.1,0,none⟩),.map (some b.2)],.agg #[.string ⟨#[]⟩,.string ⟨#[]⟩,.string ⟨#[]⟩,.string ⟨#[]⟩,.string ⟨#[]⟩],.agg #[.string ⟨#[]⟩,.int .i64 2,.int .i64 root]] W' fun e w'=>e=.returned (.int .i64 rr)/\Y b w'/\Below w.heap.size w w'/\W'.heap.size<=w'.heap.size/\∀ k o,W.heap.size<=k->k<W'.heap.size->w'.cell? ⟨k,o,none⟩=W'.cell? ⟨k,o,none⟩)
  (hkeep:∀ b W n,Y b W->Calls Tryz.prog 67 #[.pointer (some ⟨b.1,0,none⟩)] (W.drewN n) fun e w'=>e=.returned (.int .i64 0)/\R w'):
  Calls Tryz.prog 43 #[.pointer (some ⟨bt,0,none⟩)] w fun e w'=>e=.returned (.tuple #[.int .i64 rr,.int .i64 0])/\R w':=by
 have hrt:=fun W=>root_any W
 have HOUT:Hid _:=hout
 have HOBJ:Hid _:=hobj
 have HKEEP:Hid _:=hkeep
 have HC:Hid _:=c4
 clear hout hobj hkeep c4
 unfold pathV pathA at hrt
 simp at hrt
 go_enter Tryz.func43,Tryz.ntmps43
 go_wp2_with fail
 refine Calls.mono HOUT.out ?_
 rintro e w1 ⟨⟨dr,ow⟩,rfl,hX,hb1⟩
 simp only
 have HX:Hid _:=hX
 clear hX HOUT
 have hb2:Below w1.heap.size w1 (w1.alloc (.cells #[.pointer (some ⟨bt,0,none⟩),.pointer (some ⟨dr,0,none⟩),.map (some ow)] 121)).drew:=below_drew ((Below.refl _ _).alloc (Nat.le_refl _) _)
 obtain⟨d4,d5,d6⟩:=HC.out _ (below_via hb1 hb2)
 have hbx0:=cell_at (heap_alloc_new w1 (.cells #[.pointer (some ⟨bt,0,none⟩),.pointer (some ⟨dr,0,none⟩),.map (some ow)] 121)) 0
 have hbx1:=cell_at (heap_alloc_new w1 (.cells #[.pointer (some ⟨bt,0,none⟩),.pointer (some ⟨dr,0,none⟩),.map (some ow)] 121)) 1
 have hbx2:=cell_at (heap_alloc_new w1 (.cells #[.pointer (some ⟨bt,0,none⟩),.pointer (some ⟨dr,0,none⟩),.map (some ow)] 121)) 2
 have hz:w1.heap.size<(w1.alloc (.cells #[.pointer (some ⟨bt,0,none⟩),.pointer (some ⟨dr,0,none⟩),.map (some ow)] 121)).drew.heap.size:=by simp
 have hSa:(w1.alloc (.cells #[.pointer (some ⟨bt,0,none⟩),.pointer (some ⟨dr,0,none⟩),.map (some ow)] 121)).drew.cell? ⟨w1.heap.size,0,none⟩=some (.pointer (some ⟨bt,0,none⟩))/\(w1.alloc (.cells #[.pointer (some ⟨bt,0,none⟩),.pointer (some ⟨dr,0,none⟩),.map (some ow)] 121)).drew.cell? ⟨w1.heap.size,1,none⟩=some (.pointer (some ⟨dr,0,none⟩))/\(w1.alloc (.cells #[.pointer (some ⟨bt,0,none⟩),.pointer (some ⟨dr,0,none⟩),.map (some ow)] 121)).drew.cell? ⟨w1.heap.size,2,none⟩=some (.map (some ow))/\(w1.alloc (.cells #[.pointer (some ⟨bt,0,none⟩),.pointer (some ⟨dr,0,none⟩),.map (some ow)] 121)).drew.cell? ⟨bt,4,none⟩=some (.string ⟨#[]⟩)/\(w1.alloc (.cells #[.pointer (some ⟨bt,0,none⟩),.pointer (some ⟨dr,0,none⟩),.map (some ow)] 121)).drew.cell? ⟨bt,5,none⟩=some (.int .i64 2)/\(w1.alloc (.cells #[.pointer (some ⟨bt,0,none⟩),.pointer (some ⟨dr,0,none⟩),.map (some ow)] 121)).drew.cell? ⟨bt,6,none⟩=some (.int .i64 root):=⟨hbx0,hbx1,hbx2,d4,d5,d6⟩
 go_wp2
 go_region_held3 (fun W=>W.cell? ⟨w1.heap.size,0,none⟩=some (.pointer (some ⟨bt,0,none⟩))/\W.cell? ⟨w1.heap.size,1,none⟩=some (.pointer (some ⟨dr,0,none⟩))/\W.cell? ⟨w1.heap.size,2,none⟩=some (.map (some ow))/\W.cell? ⟨bt,4,none⟩=some (.string ⟨#[]⟩)/\W.cell? ⟨bt,5,none⟩=some (.int .i64 2)/\W.cell? ⟨bt,6,none⟩=some (.int .i64 root))
  (first | exact hSa | exact hSb | exact hSc)
  (first
  | (go_at_call 66;refine (hrt _).mono ?_;rintro e w2 ⟨rfl,hb3⟩;have hb23:=below_via hb2 hb3;obtain⟨f4,f5,f6⟩:=HC.out _ (below_via hb1 hb23);have hSb:=And.intro (((bcell hb3).1 w1.heap.size 0 hz).trans hSa.1) (And.intro (((bcell hb3).1 w1.heap.size 1 hz).trans hSa.2.1) (And.intro (((bcell hb3).1 w1.heap.size 2 hz).trans hSa.2.2.1) (And.intro f4 (And.intro f5 f6))));have hz2:=Nat.lt_of_lt_of_le hz hb3.size)
  | (go_at_call 65;refine Calls.mono (HOBJ.out (dr,ow) _ _ HX.out hb23) ?_;rintro e w3 ⟨rfl,hY,hbw,hs3,hc3⟩;obtain⟨f4',f5',f6'⟩:=HC.out _ hbw;have hSc:=And.intro ((hc3 w1.heap.size 0 (Nat.le_refl _) hz2).trans hSb.1) (And.intro ((hc3 w1.heap.size 1 (Nat.le_refl _) hz2).trans hSb.2.1) (And.intro ((hc3 w1.heap.size 2 (Nat.le_refl _) hz2).trans hSb.2.2.1) (And.intro f4' (And.intro f5' f6'))));have hz3:=Nat.lt_of_lt_of_le hz2 hs3;have HY:Hid _:=hY;clear hY hc3))
 all_goals
  go_wp2_with (go_at_call 67;refine Calls.mono (HKEEP.out (dr,ow) w3 0 HY.out) ?_;rintro e w4 ⟨rfl,hR⟩)
  go_ret2
  exact⟨rfl,hR⟩
end
section
variable {s i p:Nat}{B:WB}{objs:List Ob}
theorem moves_keeps {tg:Tags}{w w':World}(h:Keeps (fun k=>tg k=(1,0)) w w')(hf:Fresh tg w):∃ tg':Tags,Moves (fun t=>t=(1,0)) tg tg' w w'/\Fresh tg' w'/\(∀ k,NewF (fun k=>tg k=(1,0)) w w' k->k<w'.heap.size->tg' k=(1,0))/\∀ k,k<w.heap.size->tg' k=tg k:=by
 refine⟨fun k=>if k<w.heap.size then tg k else if k<w'.heap.size then (1,0) else (0,0),⟨h.os,h.tape,h.output,h.size,fun k hk=>if_pos hk,fun k hk hn=>h.block k hk hn,fun _ k hk=>?_⟩,fun k hk=>?_,fun k hk hl=>?_,fun k hk=>if_pos hk⟩
 ·show (if k<w.heap.size then tg k else if k<w'.heap.size then (1,0) else (0,0))=(0,0)
  rw[if_neg (by have:=h.size;omega),if_neg (by omega)]
 ·show (if k<w.heap.size then tg k else if k<w'.heap.size then (1,0) else (0,0))=(0,0)
  rw[if_neg (by have:=h.size;omega),if_neg (by omega)]
 ·show (if k<w.heap.size then tg k else if k<w'.heap.size then (1,0) else (0,0))=(1,0)
  by_cases h1:k<w.heap.size
  ·rw[if_pos h1]
   rcases hk with hk | ⟨hk,_⟩
   ·exact hk
   ·omega
  ·rw[if_neg h1,if_pos hl]
def ComLeft (s p:Nat)(objs a:List Ob)(tg:Tags)(w w':World)(got:List Int)(brk:Bool)(lim:Nat):Prop:=
 ∃ x' tg',(∃ l,x'=objs++l)/\Same x' a/\Moves (fun t=>t=(1,0)) tg tg' w w'/\SInv tg' w' s p x' got brk lim
theorem commit_any {tg:Tags}{w:World}{g:WG}{lim:Nat}{t:LT}(h:Base8 tg w s i p B objs g lim t)(hok:LTok objs 5 t)(hfew:objs.length+2*cntO 5 t<3000)(hroom:(objR g.fl 5 t objs).2.length<=400):
  Calls Tryz.prog 43 #[.pointer (some ⟨B.bt,0,none⟩)] w fun e w'=>e=.returned (.tuple #[.int .i64 (objR g.fl 5 t objs).1,.int .i64 0])/\ComLeft s p objs (objR g.fl 5 t objs).2 tg w w' g.fs.got g.fs.brk lim:=by
 have hobjs:=objR_ok g.fl 5 (Nat.le_refl _) t objs h.exact hok h.flSz
 obtain⟨hfr,ft,hbk,hi,hgot,hs,hlm⟩:=h.inv.st
 obtain⟨hbt,c0,_,_⟩:=h.tree (Below.refl _ _)
 have hdisj:∀ {D:Nat->Prop} {W:World} {b:DB} {ow:Nat} {a:List Ob} {f:List ByteArray->Option Int} {N:Nat},OSt w p objs D W b ow a f N->∀ k,tg k=(1,0)->¬ D k:=fun hO=>(h.pool hO).2
 refine commit_walk B.bt 0 g.ft.root (fun b W=>∃ D mf md,OSt w p objs D W ⟨b.1,mf,md⟩ b.2 objs (fun _=>none) objs.length) (fun b W=>∃ D mf md f' N',OSt w p objs D W ⟨b.1,mf,md⟩ b.2 (objR g.fl 5 t objs).2 f' N') _ _ w hbt (fun W hb=>?_) ((outline_any objs hbt c0).mono ?_) ?_ ?_
 ·have ht:=(h.inv.below hb).wp.tree.ht
  exact⟨cell_at ht 4,cell_at ht 5,cell_at ht 6⟩
 ·rintro e w' ⟨⟨dr,mf,md⟩,ow,D,he,hO,hb⟩
  exact⟨(dr,ow),he,⟨D,mf,md,hO⟩,hb⟩
 ·rintro ⟨dr,ow⟩ W W' ⟨D,mf,md,hO⟩ hb
  have hO':=hO.via hb
  have:=object_all h (b:=⟨dr,mf,md⟩) (ow:=ow) 5 (Nat.le_refl _) t [] hok (at_nil objs t) ⟨(fun x hx=>by cases hx),by simp⟩ (by simp) ⟨#[]⟩ D W' objs (fun _=>none) objs.length hO' .nil (fun _ _=>rfl) hfew
  rw[h.flat.kind,<- h.flat.root] at this
  refine this.mono ?_
  rintro e w' ⟨he,D',f',h1,h2,h3⟩
  refine⟨he,⟨D',mf,md,f',_,h1⟩,h1.below,h2.keeps.size,fun k o hk1 hk2=>h2.cell hk2 (fun hd=>?_) o⟩
  have:=(hO.inb k hd).2
  omega
 ·rintro ⟨dr,ow⟩ W n ⟨D,mf,md,f',N',hO⟩
  have hOn:OSt w p objs D (W.drewN n) ⟨dr,mf,md⟩ ow (objR g.fl 5 t objs).2 f' N':=hO.via (below_drewN (Below.refl _ _) n)
  refine (keep_ok (b:=⟨dr,mf,md⟩) (hi.below hOn.below (fun _ _ h=>h)) (hdisj hOn) hOn.dinv hobjs.dr hroom).mono ?_
  rintro e w' ⟨he,x',hl,hsame,hinv,hk⟩
  refine⟨he,?_⟩
  have hkw:=keeps_via hOn.below hk
  obtain⟨tg',hm,hf',htag,hold⟩:=moves_keeps hkw hfr
  refine⟨x',tg',hl,hsame,hm,hf',ft,hbk,?_,hgot.moves hm (by simp),hsame.sound (hobjs.dr.exact h.exact).sound,hlm⟩
  exact hinv.keep (fun _ _ _=>rfl) (fun k hk hF=>htag k (newF_via hOn.below.size k hF) hk)
theorem commit_ws (wb bt:Nat)(rr:Int)(R:World->Prop)(w:World)(hwb:wb<w.heap.size)(c0:w.cell? ⟨wb,0,none⟩=some (.pointer (some ⟨bt,0,none⟩)))
  (hc:Calls Tryz.prog 43 #[.pointer (some ⟨bt,0,none⟩)] w fun e w'=>e=.returned (.tuple #[.int .i64 rr,.int .i64 0])/\R w'):
  Calls Tryz.prog 20 #[.pointer (some ⟨wb,0,none⟩)] w fun e w'=>e=.returned (.tuple #[.int .i64 rr,.int .i64 0])/\R w':=by
 have HC:Hid _:=hc
 clear hc
 go_enter Tryz.func20,Tryz.ntmps20
 go_wp2_with (go_at_call 43;refine Calls.mono HC.out ?_;rintro e w1 ⟨rfl,hR⟩)
 go_ret2
 exact⟨rfl,hR⟩
end
section
variable {s i p:Nat}{B:WB}{objs:List Ob}
end
def pathG:Nat->Int->List ByteArray
 | 0,_=>[]
 | n+1,x=>(⟨#[97,98,99,100]⟩:ByteArray).extract (x % 4).toNat (x % 4+1).toNat :: (if x / 4-1<0 then [] else pathG n (x / 4-1))
theorem pathG_end {n:Nat}{x:Int}(h:x / 4-1<0):pathG (n+1) x = [(⟨#[97,98,99,100]⟩:ByteArray).extract (x % 4).toNat (x % 4+1).toNat]:=by rw[pathG,if_pos h]
theorem pathG_more {n:Nat}{x:Int}(h:¬ x / 4-1<0):pathG (n+1) x=(⟨#[97,98,99,100]⟩:ByteArray).extract (x % 4).toNat (x % 4+1).toNat :: pathG n (x / 4-1):=by rw[pathG,if_neg h]
def pathL (c:Int):List ByteArray:=pathG 3 (pickN c 84)
theorem pathG_letters:∀ (n:Nat) (x:Int),(∀ y ∈ pathG n x,y ∈ letters)/\(pathG n x).length<=n
 | 0,_=>⟨fun y hy=>by simp[pathG] at hy,by simp[pathG]⟩
 | n+1,x=>by
  have hl:=letter_at (i:=x % 4) (by omega) (by omega)
  by_cases h:x / 4-1<0
  ·rw[pathG_end h]
   exact⟨fun y hy=>by rw[List.mem_singleton.1 hy];exact hl,by simp⟩
  ·rw[pathG_more h]
   obtain⟨i1,i2⟩:=pathG_letters n (x / 4-1)
   refine⟨fun y hy=>?_,by simp;omega⟩
   rcases List.mem_cons.1 hy with h | h
   ·rw[h];exact hl
   ·exact i1 y h
theorem pathL_letters (c:Int):Letters (pathL c):=by
 obtain⟨h1,h2⟩:=pathG_letters 3 (pickN c 84)
 refine⟨h1,?_,h2⟩
 unfold pathL
 by_cases h:pickN c 84 / 4-1<0
 ·rw[pathG_end h];simp
 ·rw[pathG_more h];simp
theorem path_exact (c:Int)(w:World)(hc:-9223372036854775808<=c/\c<=9223372036854775807):
  Calls Tryz.prog 16 #[.int .i64 c] w fun e w'=>e=.returned (.string (joinB (pathL c)))/\w'=w:=by
 unfold pathL
 have hpk:=kpick_any c 84 w hc (by decide) (by decide)
 obtain⟨hp0,hp1⟩:=pickN_range (c:=c) (n:=84) (by decide)
 generalize pickN c 84=c0 at hpk hp0 hp1
 go_enter Tryz.func16,Tryz.ntmps16
 go_wp2_with (go_at_call 18;refine hpk.mono ?_;rintro e w1 ⟨rfl,rfl⟩)
 go_loopw [0,3] (fun cv sv wr=>∃ (x:Int) (l:List ByteArray),cv=.int .i64 x/\sv=.string (joinB l)/\wr=w1/\(∀ y ∈ l,y ∈ letters)/\0<=x/\((l = []/\x<84)\/(l.length=1/\x<20)\/(l.length=2/\x<4))/\Hid (l++pathG (3-l.length) x=pathG 3 c0)) (fun cv _ _=>(intOf cv).toNat)
 case atStart=>exact⟨c0,[],rfl,rfl,rfl,by simp,hp0,.inl ⟨rfl,hp1⟩,by show []++pathG 3 c0=_;rfl⟩
 case round=>
  obtain⟨x,l,rfl,rfl,rfl,hl,hx0,hxx,HP⟩:=hrel
  have h84:x<84:=by rcases hxx with h | h | h <;> omega
  have t1:Int.tmod x 4=x % 4:=Int.tmod_eq_emod_of_nonneg hx0
  have t2:Int.tdiv x 4=x / 4:=Int.tdiv_eq_ediv_of_nonneg hx0
  obtain⟨i,hi⟩:∃ i,i=x % 4:=⟨_,rfl⟩
  have hi0:0<=i:=by omega
  have hi1:i<4:=by omega
  rw[<- hi] at t1
  have HI:Hid _:=hi
  have hw1:IntKind.i64.wrap i=i:=by rw[IntKind.wrap_i64] <;> omega
  have hw2:IntKind.i64.wrap (i+1)=i+1:=by rw[IntKind.wrap_i64] <;> omega
  have hw3:IntKind.i64.wrap (x / 4)=x / 4:=by rw[IntKind.wrap_i64] <;> omega
  have hw4:IntKind.i64.wrap (x / 4-1)=x / 4-1:=by rw[IntKind.wrap_i64] <;> omega
  have hlt:=letter_at hi0 hi1
  clear hi
  generalize hxl:(⟨#[97,98,99,100]⟩:ByteArray).extract i.toNat (i+1).toNat=xl at hlt
  have HX:Hid _:=hxl
  have hxs:xl.size=1:=by
   simp only[letters,List.mem_cons,List.not_mem_nil,or_false] at hlt
   rcases hlt with rfl | rfl | rfl | rfl <;> rfl
  by_cases hl0:l = []
  ·subst hl0
   rw[joinB_nil]
   by_cases hend:x / 4-1<0
   ·go_wp2
    go_ret
    have hg:pathG 3 c0 = [xl]:=by rw[<- HP.out];show []++pathG 3 x=_;rw[pathG_end hend,<- HI.out,HX.out];rfl
    refine⟨?_,rfl⟩
    rw[hg,<- nil_snoc]
    rfl
   ·go_wp2
    go_roundw
    case rel=>exact⟨x / 4-1,[xl],rfl,by rw[<- nil_snoc],trivial,by simpa using hlt,by omega,.inr (.inl ⟨rfl,by omega⟩),by show [xl]++pathG 2 (x / 4-1)=_;rw[<- HP.out];show _ = []++pathG 3 x;rw[pathG_more hend,<- HI.out,HX.out];rfl⟩
    case measure=>simp[intOf];omega
  ·have hne:=join_ne hl0 hl
   have hne1:((joinB l).toList == [])=false:=by simpa using hne
   have hne2:(!(joinB l).toList.isEmpty)=true:=by
    cases h:(joinB l).toList with
    | nil=>exact absurd h hne
    | cons a b=>rfl
   have hjs:(joinB l).size<=26:=by
    have h1:=join_size (l:=l) (fun x hx=>(letter_valid (hl x hx)).1)
    rcases hxx with h | h | h
    ·exact absurd h.1 hl0
    ·omega
    ·omega
   generalize hjl:joinB l=jl at hne hne1 hne2 hjs ⊢
   have HJ:Hid _:=hjl
   clear hjl
   by_cases hend:x / 4-1<0
   ·go_wp2
    go_ret
    have hg:pathG 3 c0=l ++ [xl]:=by
     rw[<- HP.out]
     have h3:∃ m,3-l.length=m+1:=by
      rcases hxx with h | h | h
      ·exact absurd h.1 hl0
      ·exact⟨1,by omega⟩
      ·exact⟨0,by omega⟩
     obtain⟨m,hm⟩:=h3
     rw[hm,pathG_end hend,<- HI.out,HX.out]
    refine⟨?_,rfl⟩
    rw[hg,<- joinB_snoc hl0,HJ.out];rfl
   ·go_wp2
    go_roundw
    case rel=>
     rcases hxx with h | h | h
     ·exact absurd h.1 hl0
     ·refine⟨x / 4-1,l ++ [xl],rfl,by rw[<- joinB_snoc hl0,HJ.out],trivial,fun y hy=>?_,by omega,.inr (.inr ⟨by simp;omega,by omega⟩),?_⟩
      ·rcases List.mem_append.1 hy with h | h
       ·exact hl y h
       ·simp at h;rw[h];exact hlt
      ·show (l ++ [xl])++pathG (3-(l ++ [xl]).length) (x / 4-1)=_
       have e1:3-(l ++ [xl]).length=1:=by simp;omega
       have e2:3-l.length=1+1:=by omega
       have hp:=HP.out
       rw[e2,pathG_more hend,<- HI.out,HX.out] at hp
       rw[e1,<- hp,List.append_assoc];rfl
     ·omega
    case measure=>simp[intOf];omega
section
variable {s i p:Nat}{B:WB}{objs:List Ob}
theorem opens_cell {tg:Tags}{w:World}{g:WG}{lim b f k:Nat}{fg pl:Int}(h:WInv tg w s i p B objs g lim)(hk:k<8)(ho:g.op k=some (b,f,fg,pl)):B.wb<w.heap.size/\w.cell? ⟨B.wb,1+k,none⟩=some (.pointer (some ⟨b,0,none⟩))/\w.frozen? ⟨B.wb,1+k,none⟩=false:=by
 obtain⟨h1,_⟩:=h.wp.opens.tab
 refine⟨h1.1,?_,h1.2.2 _⟩
 rw[h1.2.1 k hk]
 show some (Value.pointer (Option.map _ (Option.map _ (g.op k))))=_
 rw[ho];rfl
theorem write_new (d:ByteArray):writeB ⟨#[]⟩ d 0=d:=by
 unfold writeB writeL
 simp
theorem qwrite {tg0:Tags}{w0 w:World}{lim:Nat}{g0:WG}{fs':FS}{ks:Kids}{t0:LT}{q:List ByteArray}{n:ByteArray}(hl:lim+10<1099511627776)(h:QOpen s i p B objs tg0 w0 w lim g0 fs' ks t0 q n ⟨#[]⟩){d:ByteArray}(hd:d.size<=256):
  Calls Tryz.prog 51 #[.pointer (some ⟨B.wb,0,none⟩),.int .i64 0,.string d] w fun e w'=>e=.returned (.int .i64 0)/\QOpen s i p B objs tg0 w0 w' (lim+2) g0 fs' ks t0 q n d:=by
 obtain⟨tg,g,t,b,f,pl,m,hW,hF,hO,hL,hop,hpl,hf,hx,hfs,hba,hh⟩:=h
 obtain rfl:=hpl rfl
 have ho:g.op 0=some (b,f,22,0):=by rw[hop];exact updN_same _ _ _
 obtain⟨_,c1,_⟩:=opens_cell hW (by decide) ho
 by_cases h0:d.size=0
 ·have hde:d=⟨#[]⟩:=by
   apply toL_inj
   have h1:=toL_len d
   rw[h0] at h1
   exact List.length_eq_zero_iff.1 h1
  subst hde
  obtain⟨_,_,e1,_,_⟩:=opened_cells hW ho
  refine (write_ws B.wb 0 b _ 0 _ w c1 (by decide) (write_none b 22 w e1 (by decide))).mono ?_
  rintro e w' ⟨he,rfl⟩
  exact⟨he,tg,g,t,b,f,0,m,hW.mono (by omega),hF,hO,hL,hop,fun _=>rfl,hf,hx,hfs,hba,hh⟩
 ·have hby:bytesG objs g.fl g.fs f=(g.fs,0,⟨#[]⟩):=by unfold bytesG;rw[hf];rfl
  refine (write_ws B.wb 0 b _ 0 _ w c1 (by decide) (write_gen hW (by omega) hL ho (a:=0) (by decide) (by omega) (by decide) (by show (0:Int)+_<=256;omega) hby rfl (by omega))).mono ?_
  rintro e w' ⟨he,tg',m',hW'⟩
  refine⟨he,tg',_,t,b,f,((0:Nat):Int)+d.size,m.trans m',hW',hF,hO,flOk_upd' hL _ _,?_,fun e=>?_,?_,fun x hxf=>?_,hfs,hba,hh⟩
  ·show updN g.op 0 _=_
   rw[hop]
   funext x
   by_cases e:x=0
   ·subst e;rw[updN_same,updN_same]
   ·rw[updN_other e,updN_other e,updN_other e]
  ·exact absurd (by rw[e];rfl) h0
  ·show updN g.fl f _ f=_
   rw[updN_same,write_new]
  ·show updN g.fl f _ x=_
   rw[updN_other hxf];exact hx x hxf
theorem qclose {tg0:Tags}{w0 w:World}{lim:Nat}{g0:WG}{fs':FS}{ks:Kids}{t0:LT}{q:List ByteArray}{n d:ByteArray}(h:QOpen s i p B objs tg0 w0 w lim g0 fs' ks t0 q n d):
  Calls Tryz.prog 52 #[.pointer (some ⟨B.wb,0,none⟩),.int .i64 0] w fun e w'=>e=.returned (.int .i64 0)/\QTo s i p B objs tg0 w0 w' lim (fun g' t'=>g'.fs=fs'/\g'.base=g0.base/\∃ f,g'.fl f=some (0,d)/\(∀ x,x≠f->g'.fl x=g0.fl x)/\HeldTo objs g0.fl ks t0 q n f t'):=by
 obtain⟨tg,g,t,b,f,pl,m,hW,hF,hO,hL,hop,hpl,hf,hx,hfs,hba,hh⟩:=h
 have ho:g.op 0=some (b,f,22,pl):=by rw[hop];exact updN_same _ _ _
 obtain⟨c0,c1,c2⟩:=opens_cell hW (by decide) ho
 refine (close_ws B.wb 0 b w c0 c1 c2 (by decide)).mono ?_
 rintro e w' ⟨he,rfl⟩
 obtain⟨m2,hW2⟩:=hW.close (k:=0) (by decide)
 refine⟨he,tg,_,t,m.trans (m2.mono (fun x hx=>.inr (by rw[hx]))),⟨hW2,hF,hO,hL,fun k=>?_⟩,hfs,hba,f,hf,hx,hh⟩
 show updN g.op 0 none k=none
 rw[hop]
 by_cases e:k=0
 ·subst e;exact updN_same _ _ _
 ·rw[updN_other e,updN_other e]
def PutTo (objs:List Ob)(g:WG)(t:LT)(n:ByteArray)(r:List ByteArray)(d:ByteArray)(er:Int)(g':WG)(t':LT):Prop:=
 g'.fs=(lookR objs t g.fs r).1/\g'.base=g.base/\
 (((lookR objs t g.fs r).2.1≠0/\er=(lookR objs t g.fs r).2.1/\t'=t/\g'.fl=g.fl)\/
  ((lookR objs t g.fs r).2.1=0/\openE (lookR objs t g.fs r).2.2 n false true≠0/\er=openE (lookR objs t g.fs r).2.2 n false true/\t'=t/\g'.fl=g.fl)\/
  ((lookR objs t g.fs r).2.1=0/\openE (lookR objs t g.fs r).2.2 n false true=0/\er=0/\∃ f,g'.fl f=some (0,d)/\(∀ x,x≠f->g'.fl x=g.fl x)/\HeldTo objs g.fl (lookR objs t g.fs r).2.2 t r.reverse n f t'))
theorem qput {tg:Tags}{w:World}{g:WG}{lim:Nat}{t:LT}(h:QInv tg w s i p B objs g lim t)(hl:lim+1000<1099511627776){n:ByteArray}{r:List ByteArray}(hL:Good (r.reverse ++ [n]))(d:ByteArray)(hd:d.size<=maxLen):
  Calls Tryz.prog 26 #[.pointer (some ⟨B.wb,0,none⟩),.string (joinB (r.reverse ++ [n])),.string d] w fun e w'=>∃ er,e=.returned (.int .i64 er)/\QTo s i p B objs tg w w' (lim+500) (PutTo objs g t n r (shortB d) er):=by
 obtain⟨fs',er,ks,hlk⟩:∃ fs' er ks,lookR objs t g.fs r=(fs',er,ks):=⟨_,_,_,rfl⟩
 have hop:=qopen h hl hL hlk
 have hsh:=fun W=>short_any d W hd
 have hss:=short_size d
 generalize shortB d=sd at hsh hss
 unfold PutTo
 rw[hlk]
 obtain⟨P1,hP1⟩:∃ P1:World->Prop,∀ W,P1 W↔QOpen s i p B objs tg w W (lim+400) g fs' ks t r.reverse n ⟨#[]⟩:=⟨_,fun W=>Iff.rfl⟩
 obtain⟨P2,hP2⟩:∃ P2:World->Prop,∀ W,P2 W↔QOpen s i p B objs tg w W (lim+402) g fs' ks t r.reverse n sd:=⟨_,fun W=>Iff.rfl⟩
 have hwr:∀ W,P1 W->Calls Tryz.prog 51 #[.pointer (some ⟨B.wb,0,none⟩),.int .i64 0,.string sd] W fun e w'=>e=.returned (.int .i64 0)/\P2 w':=fun W hk=>(qwrite (by omega) ((hP1 W).1 hk) hss).mono (fun e w' ⟨h1,h2⟩=>⟨h1,(hP2 w').2 h2⟩)
 have hcl:=fun W (hk:P2 W)=>qclose ((hP2 W).1 hk)
 have hop':=hop.mono (R':=fun e w'=>(er≠0/\e=.returned (.tuple #[.int .i64 0,.int .i64 er])/\QTo s i p B objs tg w w' (lim+400) (TreeTo g fs' t))\/(er=0/\openE ks n false true≠0/\e=.returned (.tuple #[.int .i64 0,.int .i64 (openE ks n false true)])/\QTo s i p B objs tg w w' (lim+400) (TreeTo g fs' t))\/(er=0/\openE ks n false true=0/\e=.returned (.tuple #[.int .i64 0,.int .i64 0])/\P1 w')) (by
  rintro e w' (h | h | ⟨h1,h2,h3,h4⟩)
  ·exact .inl h
  ·exact .inr (.inl h)
  ·exact .inr (.inr ⟨h1,h2,h3,(hP1 w').2 h4⟩))
 have HOP:Hid _:=hop'
 have HWR:Hid _:=hwr
 have HCL:Hid _:=hcl
 clear hop' hP1 hP2
 clear h hop hwr hcl hL hd hlk
 generalize joinB (r.reverse ++ [n])=tx at HOP ⊢
 go_enter Tryz.func26,Tryz.ntmps26
 go_wp2_with fail
 refine Calls.mono HOP.out ?_
 rintro e w1 (⟨her,rfl,hK⟩ | ⟨her,hoe,rfl,hK⟩ | ⟨her,hoe,rfl,hK⟩)
 ·have her':(er == 0)=false:=by simpa using her
  have HK:Hid _:=hK
  have HER:Hid _:=her
  clear hK her
  go_wp2
  go_ret
  exact⟨er,rfl,QTo.imp (QTo.mono HK.out (by omega)) (fun g' t' ⟨h1,h2,h3,h4⟩=>⟨h2,h4,.inl ⟨HER.out,rfl,h1,h3⟩⟩)⟩
 ·have hoe':(openE ks n false true == 0)=false:=by simpa using hoe
  have HK:Hid _:=hK
  have HER:Hid _:=And.intro her hoe
  clear hK her hoe
  obtain⟨oe,hoo⟩:∃ oe,oe=openE ks n false true:=⟨_,rfl⟩
  rw[<- hoo] at hoe' ⊢
  have HOO:Hid _:=hoo
  clear hoo
  go_wp2
  go_ret
  obtain rfl:=HOO.out
  exact⟨_,rfl,QTo.imp (QTo.mono HK.out (by omega)) (fun g' t' ⟨h1,h2,h3,h4⟩=>⟨h2,h4,.inr (.inl ⟨HER.out.1,HER.out.2,rfl,h1,h3⟩)⟩)⟩
 ·have HK:Hid _:=hK
  have HER:Hid _:=And.intro her hoe
  clear hK her hoe
  go_wp2_with (first
   | (go_at_call 19;refine Calls.mono (hsh _) ?_;rintro e w2 ⟨rfl,rfl⟩)
   | (go_at_call 51;refine Calls.mono (HWR.out _ HK.out) ?_;rintro e w3 ⟨rfl,hK3⟩;have HK3:Hid _:=hK3;clear hK3)
   | (go_at_call 52;refine Calls.mono (HCL.out _ HK3.out) ?_;rintro e w4 ⟨rfl,hK4⟩;have HK4:Hid _:=hK4;clear hK4))
  go_ret
  exact⟨0,rfl,QTo.imp (QTo.mono HK4.out (by omega)) (fun g' t' ⟨h1,h2,f,h3,h4,h5⟩=>⟨h1,h2,.inr (.inr ⟨HER.out.1,HER.out.2,rfl,f,h3,h4,h5⟩)⟩)⟩
end
end Go.Proofs.YtajopoddmfdejaaGreat
