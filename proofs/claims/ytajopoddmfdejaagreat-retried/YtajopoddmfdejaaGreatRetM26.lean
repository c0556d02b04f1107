/-
  What is proved here: a workspace in memory: a file is made, noted under a path, opened under a number, closed; a place is moved. 'hold': the file at a path is the tree's own, one for all that have it open. ..
-/
import Derived.Test.YtajopoddmfdejaaGreatRetM25
import Derived.Deep.RegionHeld3
namespace Go.Proofs.YtajopoddmfdejaaGreat
open Go.RowKit Go.Sort Go.Shelf
set_option linter.unusedVariables false
set_option maxRecDepth 100000
set_option maxHeartbeats 16000000
section
variable {s i p:Nat}{B:WB}{objs:List Ob}
theorem moves_new {P:Nat×Nat->Prop}{tg:Tags}{w:World}(o:Obj)(t:Nat×Nat):Moves P tg (tagAt tg w.heap.size t) w (w.alloc o):=by
 have hb:Below w.heap.size w (w.alloc o):=(Below.refl _ _).alloc (Nat.le_refl _) _
 refine⟨hb.os,hb.tape,hb.output,hb.size,fun k hk=>tagAt_other (by omega) _,fun k hk _=>hb.block k hk,fun hf k hk=>?_⟩
 rw[World.size_alloc] at hk
 rw[tagAt_other (by omega)]
 exact hf k (by omega)
theorem WInv.new_file {tg:Tags}{w:World}{g:WG}{lim:Nat}(h:WInv tg w s i p B objs g lim)(id:Int):
  Moves (fun _=>False) tg (tagAt tg w.heap.size (i,6)) w (w.alloc (.cells #[.pointer (if id=0 then none else some ⟨B.sF,0,none⟩),.int .i64 id,.string ⟨#[]⟩] 238))/\
  WInv (tagAt tg w.heap.size (i,6)) (w.alloc (.cells #[.pointer (if id=0 then none else some ⟨B.sF,0,none⟩),.int .i64 id,.string ⟨#[]⟩] 238)) s i p B objs { g with fl:=updN g.fl w.heap.size (some (id,⟨#[]⟩)) } lim:=by
 have m:Moves (fun _=>False) tg (tagAt tg w.heap.size (i,6)) w (w.alloc (.cells #[.pointer (if id=0 then none else some ⟨B.sF,0,none⟩),.int .i64 id,.string ⟨#[]⟩] 238)):=moves_new _ _
 have hp:=h.wp
 have hW:=hp.moves m (fun _ x=>x)
 have hsome:∀ f',(∃ x,g.fl f'=some x)->∃ x,updN g.fl w.heap.size (some (id,(⟨#[]⟩:ByteArray))) f'=some x:=fun f' ⟨x,hx⟩=>by
  by_cases e:f'=w.heap.size
  ·subst e;exact⟨_,updN_same _ _ _⟩
  ·exact⟨x,by rw[updN_other e];exact hx⟩
 refine⟨m,h.two,h.st.moves m (fun x=>x) (fun x=>x),⟨hW.tree,hW.keptF,hW.keptD,hW.ownF,hW.ownD,fun f' id' d' hf'=>?_,fun q f' hq=>hsome f' (hp.held q f' hq),⟨hW.opens.tw,hW.opens.hw,hW.opens.past,fun k b f' fg pl hk=>?_,hW.opens.inj⟩,hW.ok⟩⟩
 ·by_cases e:f'=w.heap.size
  ·subst e
   have hf'':updN g.fl w.heap.size (some (id,(⟨#[]⟩:ByteArray))) w.heap.size=some (id',d'):=hf'
   rw[updN_same] at hf''
   cases hf''
   exact⟨tagAt_same _ _ _,heap_alloc_new w _,by simp[ByteArray.size]⟩
  ·have hf'':updN g.fl w.heap.size (some (id,(⟨#[]⟩:ByteArray))) f'=some (id',d'):=hf'
   rw[updN_other e] at hf''
   exact hW.files f' id' d' hf''
 ·obtain⟨a1,a2,a3,a4⟩:=hW.opens.at_ k b f' fg pl hk
  exact⟨a1,a2,hsome f' a3,a4⟩
theorem WInv.note_file {tg:Tags}{w:World}{g:WG}{lim:Nat}(h:WInv tg w s i p B objs g lim)(hl:lim<maxLen){q:List ByteArray}(hq:Good q){f:Nat}{x:Int×ByteArray}(hf:g.fl f=some x):
  ∃ w',(Instr.mapUpdate 127 (.map (some B.oF)) (.agg (pathA q)) (.pointer (some ⟨f,0,none⟩))).run Tryz.prog w=.ok () w'/\Moves (fun t=>t=(i,4)) tg tg w w'/\WInv tg w' s i p B objs { g with ft:={ g.ft with of:=upd g.ft.of q (some f) } } (lim+1):=by
 have hi:=h.two
 obtain⟨ht,⟨n,hn,hm⟩,hg⟩:=h.wp.ownF
 obtain⟨w',hrun,hm',hgr,hs⟩:=hm.store hq (by omega) Tryz.underlying127 (.pointer (some ⟨f,0,none⟩))
 have m:Moves (fun t=>t=(i,4)) tg tg w w':=moves_grown hgr hs ht
 have hp:=(h.mono (Nat.le_succ lim)).wp
 obtain⟨vD,hD⟩:=hp.ownD
 refine⟨w',hrun,m,h.two,(h.st.mono (Nat.le_succ lim)).moves m (fun e=>by cases e) (fun e=>by cases e),⟨hp.tree.moves m (fun e=>by cases e),hp.keptF.moves m (fun e=>by cases e),hp.keptD.moves m (fun e=>by cases e),⟨ht,⟨n+1,by omega,hm'.congr (fun x hx=>?_)⟩,fun x f hx=>?_⟩,⟨vD,hD.moves m (fun e=>by cases e)⟩,hp.files.moves m (fun e=>by cases e),fun x f' hx=>?_,hp.opens.moves m (fun e=>by cases e) (fun e=>by cases e),⟨hp.ok.root,hp.ok.od⟩⟩⟩
 ·show upd (fun y=>(g.ft.of y).map ptr) q (some _) x=Option.map ptr (upd g.ft.of q (some f) x)
  by_cases e:x=q
  ·subst e;rw[upd_same,upd_same];rfl
  ·rw[upd_other e,upd_other e]
 ·by_cases e:x=q
  ·rw[e];exact hq
  ·have hx':upd g.ft.of q _ x=some f:=hx
   rw[upd_other e] at hx';exact hg x f hx'
 ·by_cases e:x=q
  ·subst e
   have hx':upd g.ft.of x (some f) x=some f':=hx
   rw[upd_same] at hx';cases hx';exact⟨_,hf⟩
  ·have hx':upd g.ft.of q _ x=some f':=hx
   rw[upd_other e] at hx';exact hp.held x f' hx'
theorem eight_cases {k:Nat}(h:k<8):k=0\/k=1\/k=2\/k=3\/k=4\/k=5\/k=6\/k=7:=by omega
theorem OpensAt.tab {tg:Tags}{w:World}{fl:Nat->Option (Int×ByteArray)}{op:Nat->Option (Nat×Nat×Int×Int)}(h:OpensAt tg w i B fl op):TabAt w B.wb (fun k=>(op k).map (·.1))/\w.cell? ⟨B.wb,0,none⟩=some (ptr B.bt):=by
 have hw:=h.hw
 refine⟨⟨(Array.getElem?_eq_some_iff.1 hw).1,fun k hk=>?_,fun o=>by simp[World.frozen?,hw]⟩,by simp[World.cell?,hw]⟩
 rcases eight_cases hk with rfl | rfl | rfl | rfl | rfl | rfl | rfl | rfl <;> simp[World.cell?,hw,opV,Function.comp_def]
theorem tab_set {w:World}{b0:Nat}{op:Nat->Option (Nat×Nat×Int×Int)}{x:Value}{t:TypeId}(h:w.heap[b0]? = some (.cells #[x,opV (op 0),opV (op 1),opV (op 2),opV (op 3),opV (op 4),opV (op 5),opV (op 6),opV (op 7)] t (0,0))){k:Nat}(hk:k<8)(v:Option (Nat×Nat×Int×Int)):
  (w.setCell ⟨b0,1+k,none⟩ (opV v)).heap[b0]? = some (.cells #[x,opV (updN op k v 0),opV (updN op k v 1),opV (updN op k v 2),opV (updN op k v 3),opV (updN op k v 4),opV (updN op k v 5),opV (updN op k v 6),opV (updN op k v 7)] t (0,0)):=by
 rw[heap_setCell_same w b0 (1+k) _ t (opV v) h]
 rcases eight_cases hk with rfl | rfl | rfl | rfl | rfl | rfl | rfl | rfl <;> simp[updN]
theorem WInv.close {tg:Tags}{w:World}{g:WG}{lim:Nat}(h:WInv tg w s i p B objs g lim){k:Nat}(hk:k<8):
  Moves (fun t=>t=(i,0)) tg tg w (w.setCell ⟨B.wb,1+k,none⟩ (.pointer none))/\WInv tg (w.setCell ⟨B.wb,1+k,none⟩ (.pointer none)) s i p B objs { g with op:=updN g.op k none } lim:=by
 have hi:=h.two
 have hp:=h.wp
 have hgr:w.grownBy (w.setCell ⟨B.wb,1+k,none⟩ (.pointer none)) (some B.wb):=grown_set (grown_refl w _)
 have m:Moves (fun t=>t=(i,0)) tg tg w (w.setCell ⟨B.wb,1+k,none⟩ (.pointer none)):=moves_grown hgr (by simp) hp.opens.tw
 have hsub:∀ j x,updN g.op k none j=some x->j≠k/\g.op j=some x:=fun j x hj=>by
  by_cases e:j=k
  ·subst e;rw[updN_same] at hj;cases hj
  ·rw[updN_other e] at hj;exact⟨e,hj⟩
 obtain⟨vD,hD⟩:=hp.ownD
 refine⟨m,h.two,h.st.moves m (fun e=>by cases e;omega) (fun e=>by cases e),⟨hp.tree.moves m (fun e=>by cases e),hp.keptF.moves m (fun e=>by cases e),hp.keptD.moves m (fun e=>by cases e),hp.ownF.moves m (fun e=>by cases e),⟨vD,hD.moves m (fun e=>by cases e)⟩,hp.files.moves m (fun e=>by cases e),hp.held,⟨hp.opens.tw,tab_set hp.opens.hw hk none,fun j hj=>?_,fun j b f fg pl hj=>?_,fun j l x y hj hl e=>hp.opens.inj j l x y (hsub j x hj).2 (hsub l y hl).2 e⟩,hp.ok⟩⟩
 ·show updN g.op k none j=none
  rw[updN_other (by omega)];exact hp.opens.past j hj
 ·obtain⟨e,h1⟩:=hsub j _ hj
  obtain⟨a1,a2,a3⟩:=hp.opens.at_ j b f fg pl h1
  obtain⟨b1,b2⟩:=m.at a2 a1 (fun e=>by cases e)
  exact⟨b2,b1,a3⟩
theorem WInv.place {tg:Tags}{w:World}{g:WG}{lim:Nat}(h:WInv tg w s i p B objs g lim){k b f:Nat}{fg pl pl':Int}(hk:g.op k=some (b,f,fg,pl))(h0:0<=pl')(h1:pl'<=256):
  Moves (fun t=>t=(i,7)) tg tg w (w.setCell ⟨b,2,none⟩ (.int .i64 pl'))/\WInv tg (w.setCell ⟨b,2,none⟩ (.int .i64 pl')) s i p B objs { g with op:=updN g.op k (some (b,f,fg,pl')) } lim:=by
 have hi:=h.two
 have hp:=h.wp
 obtain⟨ht,hb,hfl,hfg0,hfg1,_⟩:=hp.opens.at_ k b f fg pl hk
 have hgr:w.grownBy (w.setCell ⟨b,2,none⟩ (.int .i64 pl')) (some b):=grown_set (grown_refl w _)
 have m:Moves (fun t=>t=(i,7)) tg tg w (w.setCell ⟨b,2,none⟩ (.int .i64 pl')):=moves_grown hgr (by simp) ht
 obtain⟨vD,hD⟩:=hp.ownD
 have hopv:∀ j,opV (updN g.op k (some (b,f,fg,pl')) j)=opV (g.op j):=fun j=>by
  by_cases e:j=k
  ·subst e;rw[updN_same,hk];rfl
  ·rw[updN_other e]
 have hw:=(m.at hp.opens.hw hp.opens.tw (fun e=>by cases e)).1
 refine⟨m,h.two,h.st.moves m (fun e=>by cases e) (fun e=>by cases e),⟨hp.tree.moves m (fun e=>by cases e),hp.keptF.moves m (fun e=>by cases e),hp.keptD.moves m (fun e=>by cases e),hp.ownF.moves m (fun e=>by cases e),⟨vD,hD.moves m (fun e=>by cases e)⟩,hp.files.moves m (fun e=>by cases e),hp.held,⟨hp.opens.tw,?_,fun j hj=>?_,fun j b' f' fg' pl'' hj=>?_,fun j l x y hj hl e=>?_⟩,hp.ok⟩⟩
 ·simp only[hopv];exact hw
 ·show updN g.op k _ j=none
  have hne:j≠k:=fun e=>by rw[<- e,hp.opens.past j hj] at hk;cases hk
  rw[updN_other hne];exact hp.opens.past j hj
 ·by_cases e:j=k
  ·subst e
   have hj':updN g.op j (some (b,f,fg,pl')) j=some (b',f',fg',pl''):=hj
   rw[updN_same] at hj'
   cases hj'
   refine⟨ht,?_,hfl,hfg0,hfg1,h0,h1⟩
   have:=heap_setCell_same w b 2 _ 208 (.int .i64 pl') hb
   simpa using this
  ·have hj':updN g.op k _ j=some (b',f',fg',pl''):=hj
   rw[updN_other e] at hj'
   obtain⟨a1,a2,a3⟩:=hp.opens.at_ j b' f' fg' pl'' hj'
   refine⟨a1,?_,a3⟩
   have hne:b'≠b:=fun e'=>e (hp.opens.inj j k _ _ hj' hk e')
   rw[hgr.block b' (Array.getElem?_eq_some_iff.1 a2).1 (fun e'=>hne (by cases e';rfl))]
   exact a2
 ·have key:∀ j x,updN g.op k (some (b,f,fg,pl')) j=some x->∃ x',g.op j=some x'/\x'.1=x.1:=fun j x hj=>by
   by_cases e:j=k
   ·subst e;rw[updN_same] at hj;cases hj;exact⟨_,hk,rfl⟩
   ·rw[updN_other e] at hj;exact⟨x,hj,rfl⟩
  obtain⟨x',a1,a2⟩:=key j x hj
  obtain⟨y',b1,b2⟩:=key l y hl
  exact hp.opens.inj j l x' y' a1 b1 (by rw[a2,b2,e])
theorem WInv.open_at {tg:Tags}{w:World}{g:WG}{lim:Nat}(h:WInv tg w s i p B objs g lim){k f:Nat}{fg:Int}{x:Int×ByteArray}(hk:k<8)(hf:g.fl f=some x)(h0:0<=fg)(h1:fg<64):
  Moves (fun t=>t=(i,0)) tg (tagAt tg w.heap.size (i,7)) w ((w.setCell ⟨B.wb,1+k,none⟩ (.pointer (some ⟨w.heap.size,0,none⟩))).alloc (.cells #[.pointer (some ⟨f,0,none⟩),.int .i64 fg,.int .i64 0] 208))/\
  WInv (tagAt tg w.heap.size (i,7)) ((w.setCell ⟨B.wb,1+k,none⟩ (.pointer (some ⟨w.heap.size,0,none⟩))).alloc (.cells #[.pointer (some ⟨f,0,none⟩),.int .i64 fg,.int .i64 0] 208)) s i p B objs { g with op:=updN g.op k (some (w.heap.size,f,fg,0)) } lim:=by
 have hi:=h.two
 have hp:=h.wp
 have hgr:w.grownBy (w.setCell ⟨B.wb,1+k,none⟩ (.pointer (some ⟨w.heap.size,0,none⟩))) (some B.wb):=grown_set (grown_refl w _)
 have hsz:(w.setCell ⟨B.wb,1+k,none⟩ (.pointer (some ⟨w.heap.size,0,none⟩))).heap.size=w.heap.size:=by simp
 have m1:Moves (fun t=>t=(i,0)) tg tg w (w.setCell ⟨B.wb,1+k,none⟩ (.pointer (some ⟨w.heap.size,0,none⟩))):=moves_grown hgr hsz hp.opens.tw
 have m2:Moves (fun t=>t=(i,0)) tg (tagAt tg w.heap.size (i,7)) (w.setCell ⟨B.wb,1+k,none⟩ (.pointer (some ⟨w.heap.size,0,none⟩))) ((w.setCell ⟨B.wb,1+k,none⟩ (.pointer (some ⟨w.heap.size,0,none⟩))).alloc (.cells #[.pointer (some ⟨f,0,none⟩),.int .i64 fg,.int .i64 0] 208)):=by
  have:=moves_new (P:=fun t=>t=(i,0)) (tg:=tg) (w:=w.setCell ⟨B.wb,1+k,none⟩ (.pointer (some ⟨w.heap.size,0,none⟩))) (.cells #[.pointer (some ⟨f,0,none⟩),.int .i64 fg,.int .i64 0] 208) (i,7)
  rwa [hsz] at this
 have m:=m1.trans m2
 have hnew:((w.setCell ⟨B.wb,1+k,none⟩ (.pointer (some ⟨w.heap.size,0,none⟩))).alloc (.cells #[.pointer (some ⟨f,0,none⟩),.int .i64 fg,.int .i64 0] 208)).heap[w.heap.size]? = some (.cells #[.pointer (some ⟨f,0,none⟩),.int .i64 fg,.int .i64 0] 208 (0,0)):=by
  have:=heap_alloc_new (w.setCell ⟨B.wb,1+k,none⟩ (.pointer (some ⟨w.heap.size,0,none⟩))) (.cells #[.pointer (some ⟨f,0,none⟩),.int .i64 fg,.int .i64 0] 208)
  rwa [hsz] at this
 have hwb:=(Array.getElem?_eq_some_iff.1 hp.opens.hw).1
 obtain⟨vD,hD⟩:=hp.ownD
 have hlt:∀ j x,g.op j=some x->x.1<w.heap.size:=fun j x hj=>by
  obtain⟨b',f',fg',pl'⟩:=x
  exact (Array.getElem?_eq_some_iff.1 (hp.opens.at_ j b' f' fg' pl' hj).2.1).1
 refine⟨m,h.two,h.st.moves m (fun e=>by cases e;omega) (fun e=>by cases e),⟨hp.tree.moves m (fun e=>by cases e),hp.keptF.moves m (fun e=>by cases e),hp.keptD.moves m (fun e=>by cases e),hp.ownF.moves m (fun e=>by cases e),⟨vD,hD.moves m (fun e=>by cases e)⟩,hp.files.moves m (fun e=>by cases e),hp.held,⟨?_,?_,fun j hj=>?_,fun j b' f' fg' pl'' hj=>?_,fun j l x y hj hl e=>?_⟩,hp.ok⟩⟩
 ·exact (m.tags _ hwb).trans hp.opens.tw
 ·have hset:=tab_set hp.opens.hw hk (some (w.heap.size,f,fg,0))
  rw[<- hset]
  exact ((Below.refl _ _).alloc (Nat.le_refl _) _:Below (w.setCell ⟨B.wb,1+k,none⟩ (.pointer (some ⟨w.heap.size,0,none⟩))).heap.size _ _).block B.wb (by rw[hsz];exact hwb)
 ·show updN g.op k _ j=none
  rw[updN_other (by omega)];exact hp.opens.past j hj
 ·by_cases e:j=k
  ·subst e
   have hj':updN g.op j (some (w.heap.size,f,fg,0)) j=some (b',f',fg',pl''):=hj
   rw[updN_same] at hj'
   cases hj'
   exact⟨tagAt_same _ _ _,hnew,⟨_,hf⟩,h0,h1,Int.le_refl _,by decide⟩
  ·have hj':updN g.op k _ j=some (b',f',fg',pl''):=hj
   rw[updN_other e] at hj'
   obtain⟨a1,a2,a3⟩:=hp.opens.at_ j b' f' fg' pl'' hj'
   obtain⟨b1,b2⟩:=m.at a2 a1 (fun e=>by cases e)
   exact⟨b2,b1,a3⟩
 ·have key:∀ j x,updN g.op k (some (w.heap.size,f,fg,0)) j=some x->(j=k/\x.1=w.heap.size)\/(j≠k/\g.op j=some x):=fun j x hj=>by
   by_cases e:j=k
   ·subst e;rw[updN_same] at hj;cases hj;exact .inl ⟨rfl,rfl⟩
   ·rw[updN_other e] at hj;exact .inr ⟨e,hj⟩
  rcases key j x hj with ⟨a1,a2⟩ | ⟨a1,a2⟩ <;> rcases key l y hl with ⟨b1,b2⟩ | ⟨b1,b2⟩
  ·rw[a1,b1]
  ·have:=hlt l y b2;omega
  ·have:=hlt j x a2;omega
  ·exact hp.opens.inj j l x y a2 b2 e
end
section
variable {s i p:Nat}{B:WB}{objs:List Ob}
theorem OwnF.look_ok {tg:Tags}{w:World}{of:List ByteArray->Option Nat}{lim:Nat}(h:OwnF tg w i B of lim){q:List ByteArray}(hq:Good q){W:World}(hb:Below w.heap.size w W):
  (Instr.lookup 127 (.map (some B.oF)) (.agg (pathA q)) true).run Tryz.prog W=.ok (.tuple #[((of q).map ptr).getD (.pointer none),.bool (of q).isSome]) W:=by
 obtain⟨_,⟨n,_,M,hV,hM,_⟩,_⟩:=h
 have:=(hV.keep (w':=W) (hb.block _ hV.lt)).look_ok lawP Tryz.underlying127 (zeroFp W) (keyVP hq)
 have hMq:M (keyP Tryz.prog q)=(of q).map ptr:=hM q hq
 rw[hMq] at this
 rw[this]
 cases of q <;> rfl
theorem hold_held {tg:Tags}{w:World}{g:WG}{lim f:Nat}(h:WInv tg w s i p B objs g lim){q:List ByteArray}(hq:Good q)(hf:g.ft.of q=some f):
  Calls Tryz.prog 132 #[.pointer (some ⟨B.bt,0,none⟩),.agg (pathA q)] w fun en w'=>en=.returned (.pointer (some ⟨f,0,none⟩))/\Below w.heap.size w w':=by
 have hb0:Below w.heap.size w (w.alloc (.cells (pathA q) 104)).drew:=below_drew ((Below.refl _ _).alloc (Nat.le_refl _) _)
 have hlk:=h.wp.ownF.look_ok hq hb0
 rw[hf] at hlk
 obtain⟨tb,t7,t8⟩:=h.treeAt
 obtain⟨s0,s1,s2,s3,s4,hP⟩:∃ s0 s1 s2 s3 s4,pathA q = #[.string s0,.string s1,.string s2,.string s3,.string s4]:=⟨_,_,_,_,_,rfl⟩
 rw[hP] at hlk hb0 ⊢
 simp only[Option.map_some,Option.getD_some,Option.isSome_some,ptr] at hlk
 have HB:Hid _:=hb0
 clear h hb0
 go_enter Tryz.func132,Tryz.ntmps132
 go_wp2
 go_region
 all_goals
  go_wp2
  go_ret
  exact⟨rfl,HB.out⟩
theorem zero_put {es:List Ent}(hr:RisingK es){n:ByteArray}(ht:thereK es n=true){hix:idxK es n<es.length}(hk:(es[idxK es n]).2.1=1):zeroK es n=putK es n (1,0):=by
 rw[putK_there ht,<- zero_set hr ht hix,hk]
theorem hold_end {tg:Tags}{w:World}{g:WG}{lim:Nat}{vD:List ByteArray->Value}(h:WInv tg w s i p B objs g lim)(hD:OwnDV tg w i B g.ft.od lim vD)(hl:lim<maxLen){q:List ByteArray}{n:ByteArray}(hp:Good (q ++ [n])){es:List Ent}{gb c ix:Nat}(ho:g.ft.od q=some es)(hv:vD q=.slice (some ⟨gb,0,none⟩) es.length c)(ht:thereK es n=true)(hixe:idxK es n=ix)(hk:∀ e ∈ es,e.1=n->e.2.1=1){id:Int}(hid:id≠0):
  ∃ w9 tg9,(Instr.mapUpdate 127 (.map (some B.oF)) (.agg (pathA (q ++ [n]))) (.pointer (some ⟨w.heap.size,0,none⟩))).run Tryz.prog ((w.alloc (.cells #[.pointer (some ⟨B.sF,0,none⟩),.int .i64 id,.string ⟨#[]⟩] 238)).setCell ⟨gb,ix*3+2,none⟩ (.int .i64 0)).drew=.ok () w9/\Moves (Mine i) tg tg9 w w9/\
   WInv tg9 w9 s i p B objs { g with ft:={ g.ft with od:=upd g.ft.od q (some (putK es n (1,0))),of:=upd g.ft.of (q ++ [n]) (some w.heap.size) },fl:=updN g.fl w.heap.size (some (id,⟨#[]⟩)) } (lim+1):=by
 obtain⟨m1,hW1⟩:=h.new_file id
 rw[if_neg hid] at m1 hW1
 have hD1:=hD.moves m1 (fun x=>x)
 obtain⟨hW2,hD2,m2⟩:=zero_cell hW1 hD1 ho hv ht
 have hE:=h.entsOf ho
 obtain⟨hix,hnm⟩:=there_at ht
 rw[hixe] at hW2 m2
 rw[zero_put hE.rising ht (hix:=hix) (hk _ (List.getElem_mem hix) hnm)] at hW2
 have hb:Below ((w.alloc (.cells #[.pointer (some ⟨B.sF,0,none⟩),.int .i64 id,.string ⟨#[]⟩] 238)).setCell ⟨gb,ix*3+2,none⟩ (.int .i64 0)).heap.size _ ((w.alloc (.cells #[.pointer (some ⟨B.sF,0,none⟩),.int .i64 id,.string ⟨#[]⟩] 238)).setCell ⟨gb,ix*3+2,none⟩ (.int .i64 0)).drew:=below_drew (Below.refl _ _)
 obtain⟨w9,hrun,m3,hW3⟩:=(hW2.below hb).note_file hl hp (f:=w.heap.size) (x:=(id,⟨#[]⟩)) (updN_same _ _ _)
 exact⟨w9,_,hrun,(m1.mono (fun _ x=>x.elim)).trans ((m2.mono mine5).trans ((Moves.of_below hb).trans (m3.mono mine4))),hW3⟩
theorem hold_file {tg:Tags}{w:World}{g:WG}{lim:Nat}{t d:LT}(h:WInv tg w s i p B objs g lim)(hl:lim+300<1099511627776)(hF:Flat objs t g.ft)(hok:LTok objs 5 t){q:List ByteArray}{n:ByteArray}(hp:Good (q ++ [n])){ks:Kids}(ha:t.at objs q=some d)(hk:kids objs d=some ks)(hkw:KeptWay objs t g.fs q){id:Int}(hpk:pickK ks n=some (.file id)):
  Calls Tryz.prog 132 #[.pointer (some ⟨B.bt,0,none⟩),.agg (pathA (q ++ [n]))] w fun en w'=>∃ f tg' ft',en=.returned (.pointer (some ⟨f,0,none⟩))/\w.heap.size<=f/\Moves (Mine i) tg tg' w w'/\
   WInv tg' w' s i p B objs { g with ft:=ft',fl:=updN g.fl f (some (id,⟨#[]⟩)) } (lim+200)/\Flat objs (modG objs (fun ks=>putK ks n (.held f)) q t) ft':=by
 have hS:=h.st.sound
 have hi:=h.two
 have hq:Good q:=by have:=hp.dropLast;rwa [List.dropLast_concat] at this
 have hq4:q.length<=4:=by have:=hp.len;simp at this;omega
 have hdok:=(ok_at hS _ hok ha).2.1
 have q1:=(ok_kids hS hdok hk).1
 have hway:=ownWay_flat hS hF hok ha hk hkw
 have hcur:=cur_at ha hk
 have hE:Ents objs (curK objs t q):=by rw[hcur];exact ents_kids hS hdok hk
 have hth:thereK (curK objs t q) n=true:=by rw[hcur,there_ent,<- pick_there q1,hpk];rfl
 obtain⟨hixk,hatk⟩:=pick_at q1 hpk
 have hac:t.at objs (q ++ [n])=some (.file id):=by rw[at_append,ha,Option.bind_some,at_cons,hk,Option.bind_some,hpk,Option.bind_some,at_nil]
 have hid:id≠0:=by
  have hc:=(ok_at hS _ hok hac).2.1
  have hkd:kindOf objs id=1:=by cases hn:5-(q ++ [n]).length <;> (rw[hn] at hc;simpa [LTok] using hc)
  have:=kind_id hkd (by decide);omega
 have hofn:g.ft.of (q ++ [n])=none:=by rw[hF.of,hac];rfl
 have hFl:=fun f=>flat_hold hS hF hok ha hk hkw hpk f
 obtain⟨m1,m2,m3,m4⟩:=claim_at hway
 have hb0:Below w.heap.size w (w.alloc (.cells (pathA (q ++ [n])) 104)).drew:=below_drew ((Below.refl _ _).alloc (Nat.le_refl _) _)
 have hlk:=h.wp.ownF.look_ok hp hb0
 rw[hofn] at hlk
 simp only[Option.map_none,Option.getD_none,Option.isSome_none] at hlk
 obtain⟨vD,hD⟩:=h.wp.ownD
 have hcl:=fun W (hb:Below w.heap.size w W)=>claim_all (s:=s) (i:=i) (p:=p) (B:=B) (objs:=objs) q.reverse tg W g lim (curK objs t) vD (h.below hb) (hD.moves (Moves.of_below (P:=fun _=>False) hb) (fun x=>x)) (by rw[List.length_reverse];omega) (by rw[List.reverse_reverse];exact hq) (by rw[List.reverse_reverse];exact hway)
 rw[List.reverse_reverse,List.length_reverse] at hcl
 have hpar:=fun W=>parent_any (q ++ [n]) hp W
 have hname:=fun W=>name_any (q ++ [n]) hp (by simp) W
 rw[List.dropLast_concat] at hpar
 simp only[List.getLast_concat] at hname
 obtain⟨s0,s1,s2,s3,s4,hP⟩:∃ s0 s1 s2 s3 s4,pathA (q ++ [n]) = #[.string s0,.string s1,.string s2,.string s3,.string s4]:=⟨_,_,_,_,_,rfl⟩
 obtain⟨r0,r1,r2,r3,r4,hP'⟩:∃ s0 s1 s2 s3 s4,pathA q = #[.string s0,.string s1,.string s2,.string s3,.string s4]:=⟨_,_,_,_,_,rfl⟩
 unfold pathV at hpar hname
 simp only[hP,hP'] at hpar hname hcl hlk hb0
 rw[hP]
 obtain⟨tb,t7,_⟩:=h.treeAt
 have hlm:lim+20*(q.length+1)<maxLen:=by unfold maxLen;omega
 rw[hcur] at hE hth m3
 generalize hixe:idxK (ks.map entOf) n=ix at hixk
 have hat2:(ks.map entOf)[ix]'hixk=(n,1,id):=hatk
 have hk1:∀ e ∈ ks.map entOf,e.1=n->e.2.1=1:=by
  intro e he hen
  obtain⟨x,hx,rfl⟩:=List.mem_map.1 he
  have:=pick_unique q1 hpk hx hen
  show x.2.kind=1
  rw[this];rfl
 have HIX:Hid _:=hixe
 have HAT:Hid ((ks.map entOf)[ix]'hixk=(n,1,id)):=hat2
 have HK1:Hid _:=hk1
 have HP':Hid _:=hP'
 have HPn:Hid _:=hP
 have H0:Hid _:=h
 have HCL:Hid _:=hcl
 have HOD:Hid _:=m3
 have HE:Hid _:=hE
 have HTH:Hid _:=hth
 have HGP:Hid _:=hp
 have HFR:Hid _:=h.st.fresh
 have HFL:Hid _:=hFl
 clear hixe h hD hcl m1 m2 m3 m4 hE hth hP hP' hway hF hok ha hk hkw hpk hFl hS hdok q1 hcur hac hofn hatk hat2 hk1 hp
 go_enter Tryz.func132,Tryz.ntmps132
 go_wp2
 go_region
 have HB0:Hid _:=hb0
 have z0:w.heap.size<(w.alloc (.cells #[.string s0,.string s1,.string s2,.string s3,.string s4] 104)).drew.heap.size:=by simp
 have HC0:Hid (cell5 (w.alloc (.cells #[.string s0,.string s1,.string s2,.string s3,.string s4] 104)).drew w.heap.size s0 s1 s2 s3 s4):=by
  obtain⟨_,b0,b1,b2,b3,b4,_⟩:=cells5 (heap_alloc_new w (.cells #[.string s0,.string s1,.string s2,.string s3,.string s4] 104))
  exact⟨b0,b1,b2,b3,b4⟩
 clear hb0 hlk
 go_wp2_with (first
  | (go_at_call 76;refine (hpar _).mono ?_;rintro e w1 ⟨rfl,hb1⟩;have b1:=below_via HB0.out hb1;have hz1:=Nat.lt_of_lt_of_le z0 hb1.size;have HC1:Hid _:=cell5.keep HC0.out (fun o=>(bcell hb1).1 w.heap.size o z0)))
 refine Calls.mono (HCL.out w1 b1) ?_
 rintro e w3 ⟨v3,rfl,tg3,vD3,mv3,hW3,hD3,hv3,hq3⟩
 have HC3:Hid _:=cell5.keep HC1.out (kept_cell (b:=w.heap.size) hi mv3 hz1 (HFR.out _ (Nat.le_refl _)))
 have tz3:tg3 w.heap.size=(0,0):=(mv3.tags _ hz1).trans (HFR.out _ (Nat.le_refl _))
 have hz3:w.heap.size<w3.heap.size:=Nat.lt_of_lt_of_le hz1 mv3.size
 have hr8:=hD3.row _ _ HOD.out
 obtain⟨gb,cc,hgb⟩:=slice_of_owns hr8.1 (by omega)
 rw[hgb] at hv3 hr8
 subst hv3
 have hgl:gb<w3.heap.size:=ownsRow_lt hr8.1 rfl
 have hnp:=tag_ne tz3 (hr8.2 gb rfl) (ne05 i)
 have hnb:=tag_ne hW3.wp.tree.tt (hr8.2 gb rfl) (ne15 i)
 have ht3:=hW3.treeAt
 have hsF:w3.cell? ⟨B.bt,1,none⟩=some (.pointer (some ⟨B.sF,0,none⟩)):=by simp[World.cell?,hW3.wp.tree.ht,ptr]
 have HRID:Hid (w3.cell? ⟨gb,ix*3+2,none⟩=some (.int .i64 id)):=by
  have:=row_cell2 hr8.1 hixk
  rw[HAT.out] at this
  exact this
 have HW3:Hid _:=hW3
 have HM3:Hid _:=call_moves b1 mv3
 have HD3:Hid _:=hD3
 have HR8:Hid _:=hr8
 have HG8:Hid _:=hgb
 have HTR:Hid _:=And.intro ht3 hsF
 have hixl:ix<ks.length:=by simpa using hixk
 clear hW3 mv3 hD3 hr8 hgb hq3 hb1 b1 ht3 hsF
 rw[List.length_map]
 obtain⟨a0,a1,a2,a3,a4⟩:=HC3.out
 have hse:=fun W (hb:Below w3.heap.size w3 W)=>search_any (ownsRow_keep HR8.out.1 (fun g' hg'=>hb.block g' (ownsRow_lt HR8.out.1 hg'))) n HE.out.rising HE.out.len
 rw[List.length_map] at hse
 have HSE:Hid _:=hse
 clear hse
 go_wp2_with (first
  | (go_at_call 78;refine (hname _).mono ?_;rintro e w4 ⟨rfl,hb4⟩)
  | (go_at_call 77;go_loud (refine Calls.mono (HSE.out _ hb4) ?_;rintro e w5 ⟨rfl,hb5⟩;rw[HIX.out,HTH.out];have b35:=below_via hb4 hb5)))
 have b35d:=below_drew b35
 have hzd:w.heap.size<w5.heap.size:=Nat.lt_of_lt_of_le hz3 b35.size
 have htb:B.bt<w5.heap.size:=Nat.lt_of_lt_of_le HTR.out.1.1 b35.size
 have hgl5:gb<w5.heap.size:=Nat.lt_of_lt_of_le hgl b35.size
 have HC5:Hid (cell5 w5 w.heap.size s0 s1 s2 s3 s4):=cell5.keep HC3.out (fun o=>(bcell b35).1 w.heap.size o hz3)
 have d1:w5.cell? ⟨B.bt,1,none⟩=some (.pointer (some ⟨B.sF,0,none⟩)):=((bcell b35).1 _ _ HTR.out.1.1).trans HTR.out.2
 have d7:w5.cell? ⟨B.bt,7,none⟩=some (.map (some B.oF)):=((bcell b35).1 _ _ HTR.out.1.1).trans HTR.out.1.2.1
 have dg:w5.cell? ⟨gb,ix*3+2,none⟩=some (.int .i64 id):=((bcell b35).1 _ _ hgl).trans HRID.out
 have fg:∀ o,w5.frozen? ⟨gb,o,none⟩=false:=fun o=>((bcell b35).2 _ _ hgl).trans (row_frozen HR8.out.1 o)
 have dg0:∃ x,w5.cell? ⟨gb,ix*3,none⟩=some x:=⟨_,((bcell b35).1 _ _ hgl).trans (row_cells3 HR8.out.1 hixk).1⟩
 obtain⟨w9,tg9,hmu,m9,hW9⟩:=hold_end (HW3.out.below b35d) (HD3.out.moves (Moves.of_below (P:=fun _=>False) b35d) (fun x=>x)) hlm HGP.out HOD.out HG8.out HTH.out HIX.out HK1.out hid
 rw[HPn.out] at hmu
 have hsw:=stored_walk B.sF id w5.drew
 have HEND:Hid _:=And.intro ((HM3.out.trans (Moves.of_below b35d)).trans m9) hW9
 have hfge:w.heap.size<=w5.heap.size:=Nat.le_of_lt hzd
 clear a0 a1 a2 a3 a4 m9 hW9 b35d hb4 hb5
 obtain⟨a0,a1,a2,a3,a4⟩:=HC5.out
 have hS0:w5.drew.cell? ⟨B.bt,1,none⟩=some (.pointer (some ⟨B.sF,0,none⟩))/\w5.drew.cell? ⟨gb,ix*3+2,none⟩=some (.int .i64 id):=⟨d1,dg⟩
 have hS1:(w5.drew.alloc (.cells #[.pointer (some ⟨B.sF,0,none⟩),.int .i64 id,.string ⟨#[]⟩] 238)).cell? ⟨B.bt,1,none⟩=some (.pointer (some ⟨B.sF,0,none⟩))/\(w5.drew.alloc (.cells #[.pointer (some ⟨B.sF,0,none⟩),.int .i64 id,.string ⟨#[]⟩] 238)).cell? ⟨gb,ix*3+2,none⟩=some (.int .i64 id):=⟨by rw[World.cell?_alloc_lt _ _ _ (by exact htb)];exact d1,by rw[World.cell?_alloc_lt _ _ _ (by exact hgl5)];exact dg⟩
 go_region_held3 (fun w'=>w'.cell? ⟨B.bt,1,none⟩=some (.pointer (some ⟨B.sF,0,none⟩))/\w'.cell? ⟨gb,ix*3+2,none⟩=some (.int .i64 id)) (first | exact hS0 | exact hS1) (first
  | (go_at_call 155;refine Calls.mono hsw ?_;rintro e w6 ⟨rfl,rfl⟩))
 have hwe:((w5.drew.alloc (.cells #[.pointer (some ⟨B.sF,0,none⟩),.int .i64 id,.string ⟨#[]⟩] 238)).setCell ⟨gb,ix*3+2,none⟩ (.int .i64 0)).drew=((w5.setCell ⟨gb,ix*3+2,none⟩ (.int .i64 0)).alloc (.cells #[.pointer (some ⟨B.sF,0,none⟩),.int .i64 id,.string ⟨#[]⟩] 238)).drew.drew:=by simp[go_sem,hgl5]
 rw[hwe] at hmu
 replace hmu:(Instr.mapUpdate 127 (.map (some B.oF)) (.agg #[.string s0,.string s1,.string s2,.string s3,.string s4]) (.pointer (some ⟨w5.heap.size,0,none⟩))).run Tryz.prog ((w5.setCell ⟨gb,ix*3+2,none⟩ (.int .i64 0)).alloc (.cells #[.pointer (some ⟨B.sF,0,none⟩),.int .i64 id,.string ⟨#[]⟩] 238)).drew.drew=.ok () w9:=hmu
 go_wp2
 go_region
 all_goals
  go_wp2
  go_ret
  exact⟨w5.heap.size,tg9,_,rfl,hfge,HEND.out.1,HEND.out.2.mono (by omega),by have hfl:=HFL.out w5.heap.size;rw[HOD.out,Option.getD_some] at hfl;exact hfl⟩
end
section
variable {s i p:Nat}{B:WB}{objs:List Ob}
theorem create_full (bt:Nat)(s0 s1 s2 s3 s4:ByteArray)(m:Int)(w:World)(hm:16<=m):
  Calls Tryz.prog 131 #[.pointer (some ⟨bt,0,none⟩),.agg #[.string s0,.string s1,.string s2,.string s3,.string s4],.int .i64 m] w fun en w'=>en=.returned (.tuple #[.pointer none,.int .i64 11])/\Below w.heap.size w w':=by
 go_enter Tryz.func131,Tryz.ntmps131
 go_wp2
 go_ret2
 exact⟨rfl,(Below.refl _ _).alloc (Nat.le_refl _) _⟩
theorem held_ok (objs:List Ob)(n f:Nat):LTok objs n (.held f):=by cases n <;> simp[LTok]
theorem create_new {tg:Tags}{w:World}{g:WG}{lim:Nat}{t d:LT}(h:WInv tg w s i p B objs g lim)(hl:lim+500<1099511627776)(hF:Flat objs t g.ft)(hok:LTok objs 5 t){q:List ByteArray}{n:ByteArray}(hp:Good (q ++ [n])){ks:Kids}(ha:t.at objs q=some d)(hk:kids objs d=some ks)(hkw:KeptWay objs t g.fs q)(hpk:pickK ks n=none)(h16:ks.length<16)(m:Int)(hm:m<16):
  Calls Tryz.prog 131 #[.pointer (some ⟨B.bt,0,none⟩),.agg (pathA (q ++ [n])),.int .i64 m] w fun en w'=>∃ f tg' ft',en=.returned (.tuple #[.pointer (some ⟨f,0,none⟩),.int .i64 0])/\w.heap.size<=f/\Moves (Mine i) tg tg' w w'/\
   WInv tg' w' s i p B objs { g with ft:=ft',fl:=updN g.fl f (some (0,⟨#[]⟩)) } (lim+200)/\Flat objs (modG objs (fun ks=>putK ks n (.held f)) q t) ft':=by
 have hS:=h.st.sound
 have hi:=h.two
 have hdok:=(ok_at hS _ hok ha).2.1
 have q1:=(ok_kids hS hdok hk).1
 have hway:=ownWay_flat hS hF hok ha hk hkw
 have hcur:=cur_at ha hk
 have hE:Ents objs (curK objs t q):=by rw[hcur];exact ents_kids hS hdok hk
 have hth:thereK (curK objs t q) n=false:=by rw[hcur,there_ent,<- pick_there q1,hpk];rfl
 have h16':(curK objs t q).length<16:=by rw[hcur,List.length_map];exact h16
 have hFl:=fun f=>flat_create hS hF hok ha hk hkw hpk f
 obtain⟨vD,hD⟩:=h.wp.ownD
 have hput:=fun W (hb:Below w.heap.size w W)=>put_new (h.below hb) (hD.moves (Moves.of_below (P:=fun _=>False) hb) (fun x=>x)) (by omega) hp hway hE hth h16' ⟨#[]⟩ 1 0 ⟨.inl rfl,fun hx=>absurd rfl hx⟩
 obtain⟨s0,s1,s2,s3,s4,hP⟩:∃ s0 s1 s2 s3 s4,pathA (q ++ [n]) = #[.string s0,.string s1,.string s2,.string s3,.string s4]:=⟨_,_,_,_,_,rfl⟩
 simp only[hP] at hput
 rw[hP]
 have HPn:Hid _:=hP
 have HPUT:Hid _:=hput
 have HFR:Hid _:=h.st.fresh
 have HGP:Hid _:=hp
 have HFL:Hid _:=hFl
 have hlm:lim+150<maxLen:=by unfold maxLen;omega
 clear hput hFl hP h hD hF hok hway hcur hE hth h16' ha hk hkw hpk hS hdok q1 hp
 have hem:=fun W=>empty_walk W
 go_enter Tryz.func131,Tryz.ntmps131
 go_wp2_with fail
 refine Calls.mono (HPUT.out _ ((Below.refl w.heap.size w).alloc (Nat.le_refl _) _)) ?_
 rintro e w2 ⟨rfl,tg2,vD2,m2,hW2,hD2⟩
 have HC0:Hid (cell5 (w.alloc (.cells #[.string s0,.string s1,.string s2,.string s3,.string s4] 104)) w.heap.size s0 s1 s2 s3 s4):=by
  obtain⟨_,b0,b1,b2,b3,b4,_⟩:=cells5 (heap_alloc_new w (.cells #[.string s0,.string s1,.string s2,.string s3,.string s4] 104))
  exact⟨b0,b1,b2,b3,b4⟩
 have HC2:Hid _:=cell5.keep HC0.out (kept_cell (b:=w.heap.size) hi m2 (self_alloc _ _) (HFR.out _ (Nat.le_refl _)))
 have hz2:w.heap.size<w2.heap.size:=Nat.lt_of_lt_of_le (self_alloc _ _) m2.size
 obtain⟨m3,hW3⟩:=hW2.new_file 0
 rw[if_pos rfl] at m3 hW3
 have hb3:Below (w2.alloc (.cells #[.pointer none,.int .i64 0,.string ⟨#[]⟩] 238)).heap.size _ (w2.alloc (.cells #[.pointer none,.int .i64 0,.string ⟨#[]⟩] 238)).drew:=below_drew (Below.refl _ _)
 obtain⟨w9,hmu,m9,hW9⟩:=(hW3.below hb3).note_file hlm HGP.out (f:=w2.heap.size) (x:=(0,⟨#[]⟩)) (updN_same _ _ _)
 rw[HPn.out] at hmu
 have HEND:Hid _:=And.intro ((call_moves ((Below.refl w.heap.size w).alloc (Nat.le_refl _) _) m2).trans ((m3.mono (fun _ x=>x.elim)).trans ((Moves.of_below hb3).trans (m9.mono mine4)))) hW9
 obtain⟨tb,t7,_⟩:=hW2.treeAt
 obtain⟨a0,a1,a2,a3,a4⟩:=HC2.out
 clear m2 hW2 hD2 m3 hW3 hb3 m9 hW9
 go_wp2_with (go_at_call 154;refine Calls.mono (hem _) ?_;rintro e w4 ⟨rfl,rfl⟩)
 go_region
 all_goals
  go_wp2
  go_ret2
  exact⟨w2.heap.size,_,_,rfl,Nat.le_of_lt hz2,HEND.out.1,HEND.out.2.mono (by omega),HFL.out _⟩
end
end Go.Proofs.YtajopoddmfdejaaGreat
