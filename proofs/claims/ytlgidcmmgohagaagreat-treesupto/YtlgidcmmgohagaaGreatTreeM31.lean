/-
  What is proved here: the law's world between two steps: each of the program's workspaces reads as the document's; a step on what stands in a workspace. a step on a workspace: 'tree', 'work'. Fetched of a store: ..
-/
import Derived.Test.YtlgidcmmgohagaaGreatTreeM29
import Derived.Test.YtlgidcmmgohagaaGreatTreeM30
import Derived.Test.YtlgidcmmgohagaaGreatTreeM16
import Derived.Shelf.SlicesE.Clone
import Derived.Test.YtlgidcmmgohagaaGreatTreeM11
namespace Go.Proofs.YtlgidcmmgohagaaGreat
open Go.RowKit Go.Sort Go.Shelf
set_option linter.unusedVariables false
set_option maxRecDepth 100000
set_option maxHeartbeats 16000000
theorem fcOf_app {objs:List Ob}{fl:Nat->Option (Int×ByteArray)}(h:FlOk objs fl)(l:List Ob):fcOf (objs++l) fl=fcOf objs fl:=by
 funext f
 unfold fcOf
 cases hf:fl f with
 | none=>rfl
 | some x=>
  obtain⟨id,d⟩:=x
  simp only
  by_cases h0:id≠0
  ·rw[if_pos h0,if_pos h0,bytesOf_app l (by rw[h f id d hf h0];decide)]
  ·rw[if_neg h0,if_neg h0]
theorem Reads.app {objs:List Ob}{fl:Nat->Option (Int×ByteArray)}{t:LT}{nodes:List Ent}{data:List ByteArray}(h:Reads objs (fcOf objs fl) t nodes data)(hS:Sound objs)(hok:LTok objs 5 t)(hfl:FlOk objs fl)(l:List Ob):Reads (objs++l) (fcOf (objs++l) fl) t nodes data:=fun q hq=>by
 rw[fcOf_app hfl l,sem_app hS l _ q 5 t hok]
 exact h q hq
theorem Reads.dir {objs:List Ob}{fc:FileC}{t:LT}{nodes:List Ent}{data:List ByteArray}(h:Reads objs fc t nodes data):t.kind=2:=by
 have:=h [] (fun x hx=>by cases hx)
 rw[sem_nil] at this
 cases t <;> first | rfl | (exfalso;cases this)
theorem way_codes (nodes:List Ent)(l:List ByteArray):wayP nodes l=0\/wayP nodes l=4\/wayP nodes l=5:=by
 unfold wayP
 cases hf:(List.range l.length).findSome? (wayAt nodes l) with
 | none=>exact .inl rfl
 | some e=>
  obtain⟨_,j,_,_,hj,_⟩:=List.findSome?_eq_some_iff.1 hf
  unfold wayAt at hj
  split at hj
  ·cases hj;exact .inr (.inr rfl)
  ·split at hj
   ·cases hj;exact .inr (.inl rfl)
   ·cases hj
theorem up_codes (nodes:List Ent)(l:List ByteArray):upP nodes l=0\/upP nodes l=4\/upP nodes l=5:=by
 unfold upP
 split
 ·exact way_codes _ _
 ·split
  ·exact .inr (.inr rfl)
  ·exact .inl rfl
theorem not14 {e:Int}(h:e=0\/e=4\/e=5):(e == 14)=false:=by
 rcases h with h | h | h <;> (rw[h];rfl)
theorem mkdir_not14 (nodes:List Ent)(S:ByteArray):((mkdirP nodes S).2 == 14)=false:=by
 unfold mkdirP
 repeat (first | exact not14 (up_codes _ _) | rfl | split)
theorem remove_not14 (nodes:List Ent)(S:ByteArray):((removeP nodes S).2 == 14)=false:=by
 unfold removeP
 repeat (first | exact not14 (way_codes _ _) | rfl | split)
theorem ite_all {α:Type}(P:α->Prop){c:Prop}[Decidable c]{a b:α}(ha:P a)(hb:P b):P (if c then a else b):=by
 by_cases h:c
 ·rw[if_pos h];exact ha
 ·rw[if_neg h];exact hb
def P9 (x:List Ent×Int):Prop:=(x.2 == 14)=false
theorem rename_not14 (nodes:List Ent)(S T:ByteArray):((renameP nodes S T).2 == 14)=false:=by
 show P9 (renameP nodes S T)
 unfold renameP
 refine ite_all P9 (show P9 (nodes,_) from rfl) ?_
 refine ite_all P9 (show P9 (nodes,_) from rfl) ?_
 refine ite_all P9 (show P9 (nodes,wayP nodes _) from not14 (way_codes _ _)) ?_
 refine ite_all P9 (show P9 (nodes,_) from rfl) ?_
 refine ite_all P9 (show P9 (nodes,upP nodes _) from not14 (up_codes _ _)) ?_
 refine ite_all P9 (show P9 (nodes,_) from rfl) ?_
 refine ite_all P9 (show P9 (nodes,_) from rfl) ?_
 refine ite_all P9 (show P9 (nodes,_) from rfl) ?_
 refine ite_all P9 (show P9 (nodes,_) from rfl) ?_
 refine ite_all P9 (show P9 (nodes,_) from rfl) ?_
 refine ite_all P9 (show P9 (nodes,_) from rfl) ?_
 rfl
theorem stat_not14 (nodes:List Ent)(data:List ByteArray)(S:ByteArray):((statP nodes data S).2 == 14)=false:=by
 unfold statP
 repeat (first | exact not14 (way_codes _ _) | rfl | split)
theorem list_not14 (nodes:List Ent)(S:ByteArray):((listP nodes S).2 == 14)=false:=by
 unfold listP
 repeat (first | exact not14 (way_codes _ _) | rfl | split)
theorem gone_len (nodes:List Ent)(S:ByteArray):(goneP nodes S).length<=nodes.length:=List.length_filter_le _ _
theorem mkdir_len (nodes:List Ent)(S:ByteArray):(mkdirP nodes S).1.length<=nodes.length+1:=by
 unfold mkdirP
 split
 ·exact Nat.le_succ _
 ·skip
  split
  ·exact Nat.le_succ _
  ·skip
   split
   ·exact Nat.le_succ _
   ·skip
    split
    ·exact Nat.le_succ _
    ·skip
     split
     ·exact Nat.le_succ _
     ·skip
      exact Nat.le_of_eq (by simp)
theorem remove_len (nodes:List Ent)(S:ByteArray):(removeP nodes S).1.length<=nodes.length+1:=by
 unfold removeP
 repeat (first | exact Nat.le_succ_of_le (gone_len _ _) | exact Nat.le_succ _ | split)
def Q9 (n:Nat)(x:List Ent×Int):Prop:=x.1.length<=n+1
theorem rename_len (nodes:List Ent)(S T:ByteArray):(renameP nodes S T).1.length<=nodes.length+1:=by
 have l:∀ e:Int,Q9 nodes.length (nodes,e):=fun e=>Nat.le_succ _
 show Q9 nodes.length (renameP nodes S T)
 unfold renameP
 refine ite_all (Q9 nodes.length) (l _) ?_
 refine ite_all (Q9 nodes.length) (l _) ?_
 refine ite_all (Q9 nodes.length) (l _) ?_
 refine ite_all (Q9 nodes.length) (l _) ?_
 refine ite_all (Q9 nodes.length) (l _) ?_
 refine ite_all (Q9 nodes.length) (l _) ?_
 refine ite_all (Q9 nodes.length) (l _) ?_
 refine ite_all (Q9 nodes.length) (l _) ?_
 refine ite_all (Q9 nodes.length) (l _) ?_
 refine ite_all (Q9 nodes.length) (l _) ?_
 refine ite_all (Q9 nodes.length) (l _) ?_
 show ((goneP nodes T).map (movedPR S T)).length<=_
 rw[List.length_map]
 exact Nat.le_succ_of_le (gone_len _ _)
structure L4 (objs:List Ob)(ws:List Slot)(ds:List Doc)(k:Nat):Prop where
 len:ds.length=ws.length
 same:∀ j (h:j<ws.length) (h':j<ds.length),Reads objs (fcOf objs ws[j].2.2.1.fl) ws[j].2.2.2 ds[j].2.1 ds[j].2.2.1/\SoundR ds[j].2.1 ds[j].2.2.1/\ds[j].2.1.length<=k/\ds[j].2.2.1.length<=1200000
def Game4 (B0:Nat)(w:World)(W s r n:Nat):Prop:=∃ R tg p lim objs ros got ws ds q8 q9 q11,M4At R tg w B0 W s r p lim objs ros got ws ds q8 q9 q11/\L4 objs ws ds (1200000+n)/\lim<=900*n/\q8<=n/\q9<=n/\q11<=n/\1<=ws.length/\ws.length<=n
theorem L4.mono {objs:List Ob}{ws:List Slot}{ds:List Doc}{k k':Nat}(h:L4 objs ws ds k)(hk:k<=k'):L4 objs ws ds k':=⟨h.len,fun j h1 h2=>⟨(h.same j h1 h2).1,(h.same j h1 h2).2.1,Nat.le_trans (h.same j h1 h2).2.2.1 hk,(h.same j h1 h2).2.2.2⟩⟩
theorem L4.set {objs:List Ob}{ws:List Slot}{ds:List Doc}{k j:Nat}{x:Slot}{d:Doc}(h:L4 objs ws ds k)(hj:j<ws.length)(hR:Reads objs (fcOf objs x.2.2.1.fl) x.2.2.2 d.2.1 d.2.2.1)(hs:SoundR d.2.1 d.2.2.1)(h1:d.2.1.length<=k+1)(h2:d.2.2.1.length<=1200000):L4 objs (ws.set j x) (ds.set j d) (k+1):=by
 refine⟨by simp[h.len],fun i hi hi'=>?_⟩
 have hi1:i<ws.length:=by simpa using hi
 have hi2:i<ds.length:=by simpa using hi'
 simp only[List.getElem_set]
 by_cases e:j=i
 ·subst e
  simp only
  exact⟨hR,hs,h1,h2⟩
 ·simp only[if_neg e]
  obtain⟨a,b,c,d⟩:=h.same i hi1 hi2
  exact⟨a,b,by omega,d⟩
theorem L4.setW {objs:List Ob}{ws:List Slot}{ds:List Doc}{k j:Nat}{x:Slot}(h:L4 objs ws ds k)(hj:j<ws.length)(hj':j<ds.length)(hR:Reads objs (fcOf objs x.2.2.1.fl) x.2.2.2 ds[j].2.1 ds[j].2.2.1):L4 objs (ws.set j x) ds k:=by
 refine⟨by simp[h.len],fun i hi hi'=>?_⟩
 have hi1:i<ws.length:=by simpa using hi
 simp only[List.getElem_set]
 by_cases e:j=i
 ·subst e
  simp only
  exact⟨hR,(h.same j hi1 hi').2⟩
 ·simp only[if_neg e]
  exact h.same i hi1 hi'
section
variable {R:Rows4}{tg:Tags}{w:World}{B0 W s r p lim:Nat}{objs ros:List Ob}{got:List Int}{ws:List Slot}{ds:List Doc}{q8 q9 q11 j:Nat}{B:WB}{g:WG}{t:LT}{Sb:Nat}{nodes:List Ent}{data:List ByteArray}{rest:List Value}
def with9 (g:WG)(got:List Int):WG:={ g with fs:={ g.fs with got:=got,brk:=false } }
def Half (B0:Nat)(w w':World)(W s r p lim:Nat)(objs ros:List Ob)(ws:List Slot)(ds:List Doc)(q8 q9 q11 j:Nat)(B:WB)(nodes':List Ent)(data:List ByteArray):Prop:=
 ∃ R' tg' g' t' got',M4At R' tg' w' B0 W s r p (lim+400) objs ros got' (ws.set j (j+2,B,g',t')) ds q8 q9 q11/\Reads objs (fcOf objs g'.fl) t' nodes' data/\SoundR nodes' data/\Below B0 w w'
theorem low_moves {tg':Tags}{W1 w':World}(M:M4At R tg w B0 W s r p lim objs ros got ws ds q8 q9 q11)(hb:Below w.heap.size w W1)(m:Moves (Mine (j+2)) tg tg' W1 w'):Below B0 w w':=
 ⟨m.os.trans hb.os,m.tape.trans hb.tape,m.output.trans hb.output,Nat.le_trans (Nat.le_trans M.size hb.size) m.size |> fun h=>Nat.le_trans hb.size m.size,fun k hk=>(m.block k (Nat.lt_of_lt_of_le hk (Nat.le_trans M.size hb.size)) (by rw[M.old k hk];exact mine0 (by omega))).trans (hb.block k (Nat.lt_of_lt_of_le hk M.size))⟩
theorem box_moves {tg':Tags}{W1 w':World}(M:M4At R tg w B0 W s r p lim objs ros got ws ds q8 q9 q11)(hz:w.heap.size<W1.heap.size)(m:Moves (Mine (j+2)) tg tg' W1 w'):BoxK w.heap.size W1 w':=
 ⟨Nat.lt_of_lt_of_le hz m.size,fun o=>World.cell?_of_block (a:=⟨w.heap.size,o,none⟩) (m.block w.heap.size hz (by rw[M.fresh w.heap.size (Nat.le_refl _)];exact mine0 (by omega)))⟩
theorem g4_prog {f:Nat}{args:Array Value}{v:Value}{nodes':List Ent}(M:M4At R tg w B0 W s r p lim objs ros got ws ds q8 q9 q11)(hj:j<ws.length)(hx:ws[j]=(j+2,B,g,t))
  (hp:∀ {W1:World},QInv tg W1 s (j+2) p B objs (with9 g got) lim t->HeldInj objs t->Calls Tryz.prog f args W1 fun e w'=>e=.returned v/\Did9 s (j+2) p B objs tg W1 w' (with9 g got) (lim+400) nodes' data):
  ∀ W1,Below w.heap.size w W1->w.heap.size<W1.heap.size->Calls Tryz.prog f args W1 fun e w'=>e=.returned v/\BoxK w.heap.size W1 w'/\Half B0 w w' W s r p lim objs ros ws ds q8 q9 q11 j B nodes' data:=by
 intro W1 hb hz
 obtain⟨hQ,hi,hnext⟩:=(M.below hb).work hj hx
 refine (hp hQ hi).mono ?_
 rintro e w' ⟨he,tg',g',t',m,hQ',hbk,hg,hi',hR,hs⟩
 obtain⟨pt,M'⟩:=hnext (by omega) m hQ' hbk hg hi'
 exact⟨he,box_moves M hz m,_,tg',g',t',_,M',hR,hs,low_moves M hb m⟩
theorem g4_doc {f:Nat}{args:Array Value}{v:Value}{nodes':List Ent}(hjd:j<ds.length)(hd:ds[j]=(Sb,nodes,data,rest))
  (hc:∀ {F:Nat->Prop} {w1:World},StInv F w1 Sb nodes data rest->Calls Tryz.prog f args w1 fun e w'=>e=.returned v/\StInv (NewF F w1 w') w' Sb nodes' data rest/\Keeps F w1 w'):
  ∀ w1,Half B0 w w1 W s r p lim objs ros ws ds q8 q9 q11 j B nodes' data->Calls Tryz.prog f args w1 fun e w'=>e=.returned v/\
   ∃ R' tg' g' t' got',M4At R' tg' w' B0 W s r p (lim+400) objs ros got' (ws.set j (j+2,B,g',t')) (ds.set j (Sb,nodes',data,rest)) q8 q9 q11/\Reads objs (fcOf objs g'.fl) t' nodes' data/\SoundR nodes' data/\Below B0 w w':=by
 rintro w1 ⟨R',tg',g',t',got',M',hR,hs,hB⟩
 obtain⟨hst,hnext⟩:=M'.docs_ hjd hd
 refine (hc hst).mono ?_
 rintro e w' ⟨he,hst',hk⟩
 obtain⟨tg2,M2⟩:=hnext hst' hk
 exact⟨he,R',tg2,g',t',got',M2,hR,hs,hB.trans (M'.low hk (fun k hk=>.inl (by rw[hk];intro e;have:=congrArg Prod.snd e;simp only at this;omega)))⟩
end
theorem slice_any9 {w:World}{b:Nat}{t:TypeId}{z n:Nat}{v:Value}{xs:List Value}(h:w.ownsRow b t z v n xs):∃ a c,v=.slice a n c:=by
 rcases h.2 with ⟨rfl,rfl⟩ | ⟨g,cap,_,rfl,_⟩
 ·exact⟨none,0,rfl⟩
 ·exact⟨_,_,rfl⟩
section
variable {R:Rows4}{tg:Tags}{w:World}{B0 W s r p lim:Nat}{objs ros:List Ob}{got:List Int}{ws:List Slot}{ds:List Doc}{q8 q9 q11 j n:Nat}
theorem game_set {w':World}{R':Rows4}{tg':Tags}{got':List Int}{B:WB}{g':WG}{t':LT}{d:Doc}{q8':Nat}(L:L4 objs ws ds (1200000+n))(hlim:lim<=900*n)(h8:q8'<=n+1)(h9:q9<=n)(h11:q11<=n)(hw1:1<=ws.length)(hw2:ws.length<=n)(hj:j<ws.length)
  (M:M4At R' tg' w' B0 W s r p (lim+400) objs ros got' (ws.set j (j+2,B,g',t')) (ds.set j d) q8' q9 q11)(hR:Reads objs (fcOf objs g'.fl) t' d.2.1 d.2.2.1)(hs:SoundR d.2.1 d.2.2.1)(h1:d.2.1.length<=1200000+n+1)(h2:d.2.2.1.length<=1200000):Game4 B0 w' W s r (n+1):=
 ⟨R',tg',p,lim+400,objs,ros,got',_,_,q8',q9,q11,M,L.set hj hR hs h1 h2,by omega,h8,by omega,by omega,by simpa using hw1,by simp;omega⟩
theorem g4_tree (hn:n<=1048600)(M:M4At R tg w B0 W s r p lim objs ros got ws ds q8 q9 q11)(L:L4 objs ws ds (1200000+n))(hlim:lim<=900*n)(h8:q8<=n)(h9:q9<=n)(h11:q11<=n)(hw1:1<=ws.length)(hw2:ws.length<=n)(hj:j<ws.length)(hjd:j<ds.length)(kd a1 a2 a3:Int)(S T:ByteArray)(la:Option Addr)(lm lc:Nat)(hS:S.size<=1048576)(hT:T.size<=1048576)(hk:8<=kd/\kd<=12):
  Calls Tryz.prog 50 #[.pointer (some ⟨W,0,none⟩),.pointer (some ⟨ws[j].2.1.wb,0,none⟩),.pointer (some ⟨ds[j].1,0,none⟩),.agg (opV9 kd a1 a2 a3 S T la lm lc)] w fun e w'=>e=.returned (.bool true)/\Game4 B0 w' W s r (n+1)/\Below B0 w w':=by
 obtain⟨B,g,t,hx⟩:∃ B g t,ws[j]=(j+2,B,g,t):=⟨_,_,_,by rw[<- M.slot j hj]⟩
 obtain⟨Sb,nodes,data,rest,hd⟩:∃ Sb nodes data rest,ds[j]=(Sb,nodes,data,rest):=⟨_,_,_,_,rfl⟩
 obtain⟨hR,hs,hl1,hl2⟩:=L.same j hj hjd
 rw[hx,hd] at hR
 rw[hd] at hs hl1 hl2
 rw[hx,hd]
 simp only at hR hs hl1 hl2 ⊢
 have hX:Exact objs:=M.w3.sto.2.2.1
 have hfine:=hs.fine (by omega)
 have hSm:S.size<=maxLen:=Nat.le_trans hS (by decide)
 have hTm:T.size<=maxLen:=Nat.le_trans hT (by decide)
 have hll:lim+1000<1099511627776:=by omega
 have hcase:kd=8\/kd=9\/kd=10\/kd=11\/kd=12:=by omega
 rcases hcase with rfl | rfl | rfl | rfl | rfl
 ·refine (tree_stat W B.wb Sb a1 a2 a3 S T la lm lc (statP nodes data S).1.1 (statP nodes data S).1.2 (statP nodes data S).2 (stat_not14 _ _ _) _ w
   (g4_prog M hj hx (fun hQ hi=>p_stat hQ hll rfl hi hX hR.dir hR hs S hSm)) ?_).mono ?_
  ·rintro w1 ⟨R',tg',g',t',got',M',_,_,_⟩ W2 hb2
   obtain⟨na,nc,da,dc,hst⟩:=(M'.below hb2).docs j hjd
   rw[hd] at hst
   exact sstat_any hst hfine S (by omega) (show data.length<=1000000000 by omega)
  ·rintro e w' ⟨he,w1,⟨R',tg',g',t',got',M',hR',hs',hB⟩,hb⟩
   refine⟨he,⟨R',tg',p,lim+400,objs,ros,got',_,_,q8,q9,q11,M'.below hb,(L.setW hj hjd (by rw[hd];exact hR')).mono (by omega),by omega,by omega,by omega,by omega,by simpa using hw1,by simp;omega⟩,hB.trans (hb.mono M'.size)⟩
 ·obtain⟨xs,hxs⟩:∃ xs,xs=(listP nodes S).1:=⟨_,rfl⟩
  have hx16:xs.length<=16:=by
   rw[hxs]
   unfold listP
   split
   ·exact Nat.zero_le _
   ·split
    ·exact Nat.zero_le _
    ·split
     ·exact Nat.zero_le _
     ·show (namesP nodes S).length<=16
      rw[names_len]
      exact hfine.few S
  refine (tree_list W B.wb Sb a1 a2 a3 S T la lm lc (listP nodes S).2 (list_not14 _ _) xs (by omega)
   (fun a c w'=>∃ R' tg' g' t' got',M4At R' tg' w' B0 W s r p (lim+400) objs ros got' (ws.set j (j+2,B,g',t')) ds q8 q9 q11/\Reads objs (fcOf objs g'.fl) t' nodes data/\Below B0 w w'/\w'.ownsRow 0 9 1 (.slice a xs.length c) xs.length (encS xs)/\∀ b,(Value.slice a xs.length c).ownBlock=some b->tg' b=(0,0)/\B0<=b/\¬ R'.FN b/\¬ R'.FE b/\¬ R'.FI b)
   (fun w'=>Game4 B0 w' W s r (n+1)/\Below B0 w w') w ?_ ?_ ?_)
  ·intro W1 hb hz
   obtain⟨hQ,hi,hnext⟩:=(M.below hb).work hj hx
   refine (p_list hQ hll rfl hi hX hR hs S hSm).mono ?_
   rintro e w' ⟨a,c,he,hrow,tg',g',t',m,hQ',hbk,hg,hi',hR',_,hbb⟩
   rw[<- hxs] at he hrow hbb
   obtain⟨pt,M'⟩:=hnext (by omega) m hQ' hbk hg hi'
   have M1:=M.below hb
   refine⟨a,c,he,box_moves M hz m,hrow,_,tg',g',t',_,M',hR',low_moves M hb m,hrow,fun b hb'=>?_⟩
   obtain⟨b1,b2⟩:=hbb b hb'
   exact⟨b2,Nat.le_trans M1.size b1,fun hf=>by have:=M1.names.lt b hf;omega,fun hf=>by have:=M1.ents.lt b hf;omega,fun hf=>by have:=M1.ids.lt b hf;omega⟩
  ·rintro a c w1 ⟨R',tg',g',t',got',M',_,_,_,_⟩ W2 hb2
   obtain⟨na,nc,da,dc,hst⟩:=(M'.below hb2).docs j hjd
   rw[hd] at hst
   refine (slist_any hst hfine S (by omega)).mono ?_
   rintro e w' ⟨v,he,hrow,hb⟩
   rw[<- hxs] at hrow
   have hrow0:=owns_mono hrow (Nat.zero_le _)
   obtain⟨xa,xc,rfl⟩:=slice_any9 hrow0
   exact⟨xa,xc,he,hrow0,hb⟩
  ·rintro a c w1 ⟨R',tg',g',t',got',M',hR',hB,hrow,hbb⟩ W2 hb2
   have M2:=M'.below hb2
   refine (M2.keepN (by omega) (by omega) (ownsRow_keep hrow (fun g hg=>hb2.block g (ownsRow_lt hrow hg))) hbb).mono ?_
   rintro e w' ⟨he,R2,M3,hB3⟩
   refine⟨he,⟨R2,tg',p,lim+400,objs,ros,got',_,_,q8+1,q9,q11,M3,(L.setW hj hjd (by rw[hd];exact hR')).mono (by omega),by omega,by omega,by omega,by omega,by simpa using hw1,by simp;omega⟩,(hB.trans (hb2.mono M'.size)).trans hB3⟩
 ·refine (tree_mkdir W B.wb Sb a1 a2 a3 S T la lm lc (mkdirP nodes S).2 (mkdir_not14 _ _) _ _ w
   (g4_prog M hj hx (fun hQ hi=>p_mkdir hQ hll rfl hi hX hR hs S hSm))
   (g4_doc hjd hd (fun hst=>by obtain⟨na,nc,da,dc,h⟩:=hst;exact smkdir_any h hfine S (by omega)))).mono ?_
  rintro e w' ⟨he,R',tg',g',t',got',M',hR',hs',hB⟩
  exact⟨he,game_set L hlim (by omega) h9 h11 hw1 hw2 hj M' hR' hs' (by have:=mkdir_len nodes S;show (mkdirP nodes S).1.length<=_;omega) hl2,hB⟩
 ·refine (tree_remove W B.wb Sb a1 a2 a3 S T la lm lc (removeP nodes S).2 (remove_not14 _ _) _ _ w
   (g4_prog M hj hx (fun hQ hi=>p_remove hQ hll rfl hi hX hR hs S hSm))
   (g4_doc hjd hd (fun hst=>by obtain⟨na,nc,da,dc,h⟩:=hst;exact sremove_any h hfine S (by omega)))).mono ?_
  rintro e w' ⟨he,R',tg',g',t',got',M',hR',hs',hB⟩
  exact⟨he,game_set L hlim (by omega) h9 h11 hw1 hw2 hj M' hR' hs' (by have:=remove_len nodes S;show (removeP nodes S).1.length<=_;omega) hl2,hB⟩
 ·refine (tree_rename W B.wb Sb a1 a2 a3 S T la lm lc (renameP nodes S T).2 (rename_not14 _ _ _) _ _ w
   (g4_prog M hj hx (fun hQ hi=>p_rename hQ hll rfl hi hX hR hs S T hSm hTm))
   (g4_doc hjd hd (fun hst=>by obtain⟨na,nc,da,dc,h⟩:=hst;exact srename_any h hfine S T hS hT))).mono ?_
  rintro e w' ⟨he,R',tg',g',t',got',M',hR',hs',hB⟩
  exact⟨he,game_set L hlim (by omega) h9 h11 hw1 hw2 hj M' hR' hs' (by have:=rename_len nodes S T;show (renameP nodes S T).1.length<=_;omega) hl2,hB⟩
end
def encN (xs:List Int):List Value:=xs.map (Value.int .i64)
theorem encN_at {xs:List Int}{k:Nat}(h:k<xs.length):(encN xs)[k]? = some (.int .i64 xs[k]):=by simp[encN,List.getElem?_eq_getElem h]
theorem sizeOfI (w:World):(Go.sizeOf 29).run Tryz.prog w=.ok 1 w:=by kernel_rfl
def IdRow (w:World)(v:Value)(L:List Int):Prop:=w.ownsRow 0 29 1 v L.length (encN L)
theorem IdRow.shape {w:World}{v:Value}{L:List Int}(h:IdRow w v L):∃ a c,v=.slice a L.length c:=by
 rcases h.2 with ⟨rfl,h0⟩ | ⟨g,c,cur,rfl,_⟩
 ·exact⟨none,0,by rw[h0]⟩
 ·exact⟨_,c,rfl⟩
theorem IdRow.at_ {w:World}{a:Option Addr}{n c:Nat}{L:List Int}(h:IdRow w (.slice a n c) L){k:Nat}(hk:k<L.length):∃ g,a=some ⟨g,0,none⟩/\g<w.heap.size/\w.cell? ⟨g,k,none⟩=some (.int .i64 L[k]):=by
 obtain⟨g,cap,hv⟩:=slice_of_owns h (by omega)
 have ha:=(Value.slice.inj hv).1
 subst ha
 refine⟨g,rfl,ownsRow_lt h rfl,?_⟩
 have:=World.ownsRow.cells h (g:=g) rfl k _ (encN_at hk)
 have e:(⟨g,0,none⟩:Addr).add k=⟨g,k,none⟩:=by
  cases k with
  | zero=>rfl
  | succ k=>simp[Addr.add]
 rw[e] at this
 exact this
theorem cloneI_all {w:World}{v:Value}{got:List Int}(hrow:IdRow w v got)(hl:got.length<=1099511627776):
  Calls Tryz.prog 201 #[v] w fun e w'=>∃ v',e=.returned v'/\w'.ownsRow w.heap.size 29 1 v' got.length (encN got)/\Below w.heap.size w w':=by
 rcases hrow.2 with ⟨rfl,h0⟩ | ⟨g,c,cur,rfl,_⟩
 ·refine (AnyE.slices_Clone_nil Tryz.cloneI 0 0 w).mono ?_
  rintro e w' ⟨rfl,rfl⟩
  obtain rfl:got = []:=List.length_eq_zero_iff.1 h0
  exact⟨_,rfl,World.ownsRow_nil _ _ _ _,Below.refl _ _⟩
 ·obtain⟨i0,hi,hz0,hz1,hz2⟩:=info_parts infoID
  refine (AnyE.slices_Clone Tryz.cloneI i0 _ 1 8 hi hz0 hz1 hz2 rfl (by decide) sizeOfI g 0 got.length c (encN got) w (by simp[encN]) (by unfold maxLen;omega) (by omega) (fun j u hu=>by rw[Nat.zero_add];exact (World.ownsRow.cellAt hrow j (by have:=(List.getElem?_eq_some_iff.1 hu).1;simpa [encN] using this)).trans hu) ?_).mono ?_
  ·intro u hu
   obtain⟨x,_,rfl⟩:=List.mem_map.1 hu
   rfl
  ·rintro e w' ⟨v',rfl,hr,hne,hb⟩
   exact⟨_,rfl,hr,hb⟩
theorem pfetched_all (p:Nat)(v:Value)(R:Value->World->Prop)(w:World)(c3:w.cell? ⟨p,3,none⟩=some v)
  (hc:Calls Tryz.prog 201 #[v] w fun e w'=>∃ v',e=.returned v'/\R v' w'):
  Calls Tryz.prog 151 #[.pointer (some ⟨p,0,none⟩)] w fun e w'=>∃ v',e=.returned v'/\R v' w':=by
 have HC:Hid _:=hc
 clear hc
 go_enter Tryz.func151,Tryz.ntmps151
 go_wp2_with fail
 refine Calls.mono HC.out ?_
 rintro e w' ⟨v',rfl,hR⟩
 go_wp2
 go_ret
 exact⟨v',rfl,hR⟩
theorem sfetched_all (s p:Nat)(R:Value->World->Prop)(w:World)(c0:w.cell? ⟨s,0,none⟩=some (.pointer (some ⟨p,0,none⟩)))
  (hc:Calls Tryz.prog 151 #[.pointer (some ⟨p,0,none⟩)] w fun e w'=>∃ v',e=.returned v'/\R v' w'):
  Calls Tryz.prog 87 #[.pointer (some ⟨s,0,none⟩)] w fun e w'=>∃ v',e=.returned v'/\R v' w':=by
 have HC:Hid _:=hc
 clear hc
 go_enter Tryz.func87,Tryz.ntmps87
 go_wp2_with fail
 refine Calls.mono HC.out ?_
 rintro e w' ⟨v',rfl,hR⟩
 go_wp2
 go_ret
 exact⟨v',rfl,hR⟩
theorem fetched_all {tg:Tags}{w:World}{s p:Nat}{objs:List Ob}{got:List Int}{brk:Bool}{lim:Nat}(h:SInv tg w s p objs got brk lim)(hl:lim<=1099511627776):
  Calls Tryz.prog 87 #[.pointer (some ⟨s,0,none⟩)] w fun e w'=>∃ v',e=.returned v'/\w'.ownsRow w.heap.size 29 1 v' got.length (encN got)/\Below w.heap.size w w':=by
 obtain⟨hfr,ft,hb,⟨a,cap,bf,bd,Df,Dd,hI⟩,hg,hs,hgl⟩:=h
 have hat:=hI.pool.at_
 have c3:w.cell? ⟨p,3,none⟩=some (.slice ft.a ft.n ft.c):=by unfold PoolAt at hat;simp[World.cell?,hat]
 have hrow:=hg.1
 rw[hg.2.1] at hrow c3
 exact sfetched_all s p _ w hI.c0 (pfetched_all p _ _ w c3 (cloneI_all hrow (by omega)))
theorem count_take {got:List Int}{x:Int}{m:Nat}(h:m<got.length):(got.take (m+1)).count x=(got.take m).count x+if got[m]=x then 1 else 0:=by
 rw[List.take_succ_eq_append_getElem h,List.count_append,List.count_singleton]
 by_cases e:got[m]=x <;> simp[e]
theorem fetched_walk (W s k wc:Nat)(wa:Option Addr)(got:List Int)(R:World->Prop)(w:World)(hW:W<w.heap.size)(c0:w.cell? ⟨W,0,none⟩=some (.pointer (some ⟨s,0,none⟩)))(c5:w.cell? ⟨W,5,none⟩=some (.slice wa k wc))
  (hlen:got.length<=1000000000)(hk:k<=1000000000)(hcnt:∀ x,got.count x<=k)
  (hf:Calls Tryz.prog 87 #[.pointer (some ⟨s,0,none⟩)] w fun e w'=>∃ v',e=.returned v'/\w'.ownsRow w.heap.size 29 1 v' got.length (encN got)/\Below w.heap.size w w')
  (hpl:∀ j (hj:j<got.length),∃ pz:Int,0<=pz/\∀ w',Below w.heap.size w w'->Calls Tryz.prog 41 #[.pointer (some ⟨W,0,none⟩),.int .i64 got[j]] w' fun e w''=>e=.returned (.int .i64 pz)/\w''=w')
  (hkeep:∀ w1 la c,Below w.heap.size w w1->w1.ownsRow w.heap.size 29 1 (.slice la got.length c) got.length (encN got)->Calls Tryz.prog 88 #[.pointer (some ⟨W,8,none⟩),.slice la got.length c] w1 fun e w'=>e=.returned (.tuple #[])/\R w'):
  Calls Tryz.prog 46 #[.pointer (some ⟨W,0,none⟩)] w fun e w'=>e=.returned (.bool true)/\R w':=by
 have HF:Hid _:=hf
 have HPL:Hid _:=hpl
 have HKEEP:Hid _:=hkeep
 have HCNT:Hid _:=hcnt
 obtain⟨n,hn⟩:∃ n,n=got.length:=⟨_,rfl⟩
 have HN:Hid (n=got.length):=hn
 rw[<- hn] at hlen
 clear hf hpl hkeep hcnt hn
 go_enter Tryz.func46,Tryz.ntmps46
 go_wp2_with fail
 refine Calls.mono HF.out ?_
 rintro _ w1 ⟨v,rfl,hrow,hb⟩
 obtain⟨a,c,rfl⟩:=IdRow.shape (row_base0 hrow)
 have HROW:Hid (w1.ownsRow w.heap.size 29 1 (.slice a got.length c) got.length (encN got)):=hrow
 have HB:Hid (Below w.heap.size w w1):=hb
 have hW1:W<w1.heap.size:=Nat.lt_of_lt_of_le hW hb.size
 have d5:=(hb.cell (p:=⟨W,5,none⟩) hW).trans c5
 rw[<- HN.out]
 have hcell:∀ j (hj:j<got.length),∃ g,a=some ⟨g,0,none⟩/\g<w1.heap.size/\w1.cell? ⟨g,j,none⟩=some (.int .i64 got[j]):=fun j hj=>IdRow.at_ (row_base0 hrow) hj
 have HCELL:Hid _:=hcell
 clear hrow hb hcell c0 c5
 go_wp2
 go_loopw [4] (fun i wr=>∃ j:Nat,j<=n/\i=.int .i64 (j:Int)/\Hid (Below w1.heap.size w1 wr)) (fun i _=>n-(intOf i).toNat)
 case atStart=>exact⟨0,Nat.zero_le _,rfl,Below.refl _ _⟩
 case round=>
  obtain⟨j,hj,rfl,HBR⟩:=hrel
  by_cases hlt:j<n
  ·have hij:(j:Int)<(n:Int):=by omega
   have hjg:j<got.length:=by rw[<- HN.out];exact hlt
   obtain⟨g,hga,hgl,hgc⟩:=HCELL.out j hjg
   obtain⟨pz,hpz,hplc⟩:=HPL.out j hjg
   have HPC:Hid _:=hplc
   obtain⟨x,hx⟩:∃ x,x=got[j]:=⟨_,rfl⟩
   rw[<- hx] at hgc
   have HX:Hid (x=got[j]):=hx
   subst hga
   clear hx hplc
   go_wp2
   go_loopw [5,6] (fun cn ki wr2=>∃ m:Nat,m<=n/\ki=.int .i64 (m:Int)/\cn=.int .i64 (((got.take m).count x:Nat):Int)/\Hid (Below w1.heap.size w1 wr2)) (fun _ ki _=>n-(intOf ki).toNat)
   case atStart=>exact⟨0,Nat.zero_le _,rfl,rfl,HBR⟩
   case round=>
    obtain⟨m,hm,rfl,rfl,HB2⟩:=hrel
    have hgl2:g<wr.heap.size:=Nat.lt_of_lt_of_le hgl HB2.out.size
    have hgc2:wr.cell? ⟨g,j,none⟩=some (.int .i64 x):=(HB2.out.cell (p:=⟨g,j,none⟩) hgl).trans hgc
    by_cases hml:m<n
    ·have hmi:(m:Int)<(n:Int):=by omega
     have hmg:m<got.length:=by rw[<- HN.out];exact hml
     obtain⟨g',hg',hgl',hgm⟩:=HCELL.out m hmg
     cases hg'
     have hgm2:wr.cell? ⟨g,m,none⟩=some (.int .i64 got[m]):=(HB2.out.cell (p:=⟨g,m,none⟩) hgl).trans hgm
     obtain⟨y,hy⟩:∃ y,y=got[m]:=⟨_,rfl⟩
     rw[<- hy] at hgm2
     have HY:Hid (y=got[m]):=hy
     have HCT:Hid _:=count_take (x:=x) hmg
     have hcb:(got.take m).count x<=n:=by have:=List.count_le_length (a:=x) (l:=got.take m);rw[List.length_take] at this;omega
     obtain⟨cn,hcn⟩:∃ cn,cn=(got.take m).count x:=⟨_,rfl⟩
     rw[<- hcn] at hcb
     rw[<- hcn]
     have HCN:Hid (cn=(got.take m).count x):=hcn
     clear hy hcn hgm
     cases hyx:(y == x) with
     | true=>
      have hyx':=eq_of_beq hyx
      go_wp2
      go_region
      all_goals
       go_wp2
       go_roundw
       case rel=>exact⟨m+1,by omega,by go_num,by rw[HCT.out,if_pos (by rw[<- HY.out];exact hyx'),<- HCN.out];go_num,below_drewN HB2.out _⟩
       case measure=>simp[intOf];omega
     | false=>
      have hyx':=ne_of_beq_false hyx
      go_wp2
      go_region
      all_goals
       go_wp2
       go_roundw
       case rel=>exact⟨m+1,by omega,by go_num,by rw[HCT.out,if_neg (by rw[<- HY.out];exact hyx'),<- HCN.out];rfl,below_drewN HB2.out _⟩
       case measure=>simp[intOf];omega
    ·have hme:m=n:=by omega
     have hnl:decide ((m:Int)<(n:Int))=false:=decide_eq_false (by omega)
     have hfull:(got.take m).count x=got.count x:=by rw[List.take_of_length_le (by rw[<- HN.out];omega)]
     have hck:=HCNT.out x
     rw[hfull]
     obtain⟨cn,hcn⟩:∃ cn,cn=got.count x:=⟨_,rfl⟩
     rw[<- hcn] at hck ⊢
     have hW2:W<wr.heap.size:=Nat.lt_of_lt_of_le hW1 HB2.out.size
     have e5:=(HB2.out.cell (p:=⟨W,5,none⟩) hW1).trans d5
     have hpz':decide (pz<0)=false:=decide_eq_false (by omega)
     have hck':decide ((k:Int)<(cn:Int))=false:=decide_eq_false (by omega)
     have hplc:=HPC.out wr (HB.out.trans (HB2.out.mono HB.out.size))
     rw[<- HX.out] at hplc
     clear hfull hcn HCELL
     go_wp2_with (go_at_call 41;refine Calls.mono hplc ?_;rintro _ _ ⟨rfl,rfl⟩)
     go_roundw
     case rel=>exact⟨j+1,by omega,by go_num,HB2⟩
     case measure=>simp[intOf];omega
  ·have hje:j=n:=by omega
   have hnl:decide ((j:Int)<(n:Int))=false:=decide_eq_false (by omega)
   have hW2:W<wr.heap.size:=Nat.lt_of_lt_of_le hW1 HBR.out.size
   have hrow2:wr.ownsRow w.heap.size 29 1 (.slice a got.length c) got.length (encN got):=ownsRow_keep HROW.out (fun g hg=>HBR.out.block g (ownsRow_lt HROW.out hg))
   have hkp:=HKEEP.out wr a c (HB.out.trans (HBR.out.mono HB.out.size)) hrow2
   rw[<- HN.out] at hkp
   have HKP:Hid _:=hkp
   clear hrow2 hkp
   go_wp2_with (go_at_call 88;refine Calls.mono HKP.out ?_;rintro _ w5 ⟨rfl,hR⟩)
   go_ret
   exact⟨rfl,hR⟩
theorem run_append_none {P:Program}(w:World)(t ty e:TypeId)(i:TypeInfo)(ht:P.underlying t=some (.slice e))(hi:P.info? e=some i):(Builtin.append_ #[t,t] ty #[.slice none 0 0,.slice none 0 0]).run P w=.ok (.slice none 0 0) w:=by
 simp[Builtin.append_,run_underlying ht,sizeOf,typeInfo,hi,Builtin.lenOf,Builtin.firstCells]
theorem step_append_copy {P:Program}{ops:Array Oper}{o:Oper}{a:Act}{w:World}{K:Act->World->Prop}{Q:Exit->Act->World->Prop}{E:Prop}
  (hg:o.guard=none)(s x:Operand)(t:TypeId)(hop:o.op=Op.call { callee:=Callee.builtin Builtin.append,args:=#[s,x],argTypes:=#[t,t] })
  (e:TypeId)(i:TypeInfo)(z:Value)(size bytes:Nat)(h1:P.underlying t=some (.slice e))(h2:P.info? e=some i)(h3:i.zero=some z)(h4:i.size=size)(h5:i.bytes=bytes)(h6:z.cells.size=size)(h7:0<size)
  (hs:a.eval s=.slice none 0 0)(xa:Option Addr)(n c:Nat)(xs:List Value)(hx:a.eval x=.slice xa n c)(hrow:w.ownsRow 0 e size (.slice xa n c) n xs)(h1c:∀ u ∈ xs,u.oneCell'=true)
  (b1:n<=maxLen)(b2:n*bytes<=140737488355328)
  (hK:∀ v' w',w'.ownsRow 0 e size v' n xs->w.grownBy w' none->(v'.ownBlock=none\/v'.ownBlock=some w.heap.size)->K (a.put o.dst v') w'):
  if Region.wanted o (yielded ops a.tmps)=true then Oper.wp P o a w K Q else E:=by
 have hw:Region.wanted o (yielded ops a.tmps)=true:=by simp[Region.wanted,hg]
 rw[if_pos hw]
 rcases hrow.2 with ⟨hv,hn⟩ | ⟨g,cap,cur,hv,_⟩
 ·cases hv
  have hrun:=run_append_none (P:=P) w t o.type e i h1 h2
  unfold Oper.wp
  simp[execOp,hop,resolve,invoke,builtin,hs,hx,hrun,Result.andThen]
  exact hK _ _ hrow ⟨rfl,rfl,rfl,Nat.le_refl _,fun _ _ _=>rfl⟩ (.inl rfl)
 ·cases hv
  obtain⟨v',w',hrun,r1,r2,_,r3⟩:=run_append_own_at (P:=P) w 0 t o.type e i z size bytes h1 h2 h3 h4 h5 h6 h7 (.slice none 0 0) 0 [] (World.ownsRow_nil w _ e size) ⟨g,0,none⟩ n c xs hrow.1 (hrow.cells (g:=g) rfl) h1c (by omega) (by rw[Nat.zero_add];exact b2) (Nat.zero_le _)
  rw[Nat.zero_add,List.nil_append] at r1
  unfold Oper.wp
  simp[execOp,hop,resolve,invoke,builtin,hs,hx,hrun,Result.andThen]
  exact hK _ _ r1 r2 r3
theorem StAt.setRest {F:Nat->Prop}{w:World}{S:Nat}{na da:Option Addr}{nc dc:Nat}{nodes:List Ent}{data:List ByteArray}{rest:List Value}(h:StAt F w S na da nc dc nodes data rest)(j:Nat)(v:Value):
  StAt F (w.setCell ⟨S,2+j,none⟩ v) S na da nc dc nodes data (rest.set j v)/\Keeps F w (w.setCell ⟨S,2+j,none⟩ v):=by
 have hne:∀ g,g≠S->(w.setCell ⟨S,2+j,none⟩ v).heap[g]? = w.heap[g]?:=fun g hg=>Below.heap_setCell _ _ _ _ hg
 refine⟨⟨h.fS,?_,ownsRow_keep h.rowN (fun g hg=>hne g (fun e=>?_)),ownsRow_keep h.rowD (fun g hg=>hne g (fun e=>?_)),h.fn,h.fd⟩,⟨rfl,rfl,rfl,by simp,fun k hk hn=>hne k (fun e=>hn (by rw[e];exact h.fS))⟩⟩
 ·have e2:(2+j)=j+1+1:=by omega
  simp[World.setCell,Array.getElem?_modify,h.hS,e2]
 ·subst e;exact owns_ne_cells h.rowN h.hS (by decide) hg.symm
 ·subst e;exact owns_ne_cells h.rowD h.hS (by decide) hg.symm
end Go.Proofs.YtlgidcmmgohagaaGreat
