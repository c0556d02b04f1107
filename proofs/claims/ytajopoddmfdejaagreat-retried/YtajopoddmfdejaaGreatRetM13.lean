/-
  What is proved here: slices.Insert of one entry where there is no room: a new row; and at every place of whatever row. the maps by paths: written, struck; the tree's own directories in memory, one more, or one ..
-/
import Derived.Test.YtajopoddmfdejaaGreatRetM12
import Derived.Test.YtajopoddmfdejaaGreatRetM08
namespace Go.Proofs.YtajopoddmfdejaaGreat
open Go.RowKit Go.Sort Go.Shelf
set_option linter.unusedVariables false
set_option maxRecDepth 100000
set_option maxHeartbeats 16000000
theorem wp_append_run (w:World){ops:Array Oper}{rest:List Oper}{o:Oper}{a:Act}{Q:Exit->Act->World->Prop}(hgd:o.guard=none)(d s:Operand)(t t':TypeId)
  (ho:o.op=.call { callee:=.builtin .append,args:=#[d,s],argTypes:=#[t,t'] })(v u:Value)(hd:a.eval d=v)(hs:a.eval s=u){v':Value}{w':World}
  (hr:(Builtin.append_ #[t,t'] o.type #[v,u]).run Tryz.prog w=.ok v' w')(h:wpList Tryz.prog ops Q rest (a.put o.dst v') w'):wpList Tryz.prog ops Q (o :: rest) a w:=by
 refine wpList_plain hgd fun K hK=>?_
 unfold Oper.wp execOp
 simp only[ho,resolve,invoke,builtin,Sem.run_bind,Sem.run_pure,Result.andThen_ok,List.map_toArray,List.map_cons,List.map_nil,hd,hs,hr]
 exact hK _ _ h
theorem zeroCells_size (m:Nat):(Builtin.zeroCells (Value.agg #[.string ByteArray.empty,.int .i64 0,.int .i64 0]).cells m).size=m*3:=by
 rw[size_zeroCells];rfl
theorem ins_grow (g n k vb:Nat)(es:List Ent)(x:Ent)(cur:Array Value)(w:World)(hg:w.heap[g]? = some (.cells cur 76 (0,0)))(hn:es.length=n)(hk:k<n)(h16:n<=16)(hcs:cur.size=n*3)(ht:cur.toList.take (n*3)=flat es)
  (hv:w.heap[vb]? = some (.cells #[.string x.1,.int .i64 x.2.1,.int .i64 x.2.2] 76 (0,0))):
  Calls Tryz.prog 124 #[.slice (some ⟨g,0,none⟩) n n,.int .i64 (k:Int),.slice (some ⟨vb,0,none⟩) 1 1] w fun e w'=>Inserted w w' (some g) n (es.take k++x :: es.drop k) e:=by
 obtain⟨i0,hi,hz0,hz1,hz2⟩:=info_parts info34
 have hgl:g<w.heap.size:=(Array.getElem?_eq_some_iff.1 hg).1
 have hvl:vb<w.heap.size:=(Array.getElem?_eq_some_iff.1 hv).1
 have hcell:∀ j u,(flat es)[j]? = some u->w.cell? ⟨g,j,none⟩=some u:=fun j u hu=>by
  rw[<- ht,List.getElem?_take] at hu
  split at hu
  ·simp[World.cell?,hg];simpa using hu
  ·cases hu
 have hold:(Builtin.firstCells i0.size k (.slice (some ⟨g,0,none⟩) k n)).run Tryz.prog w.drew=.ok (flat (es.take k)).toArray w.drew:=by
  rw[hz1]
  exact run_firstCells_some w.drew 3 k ⟨g,0,none⟩ k n (flat (es.take k)) (by rw[flat_len,List.length_take];omega) (fun j v hj=>by
   rw[Addr.add_lit,Nat.zero_add]
   rw[cells_take es k (by omega),List.getElem?_take] at hj
   split at hj
   ·exact hcell j v hj
   ·cases hj)
 obtain⟨G,hG⟩:∃ G,G=grownCap w (n+1) n 76:=⟨_,rfl⟩
 have hGn:n+1<=G:=by rw[hG];exact grownCap_ge w _ _ _
 have hG63:G<=maxLen:=by rw[hG];exact grownCap_le_maxLen w (n+1) n 76 (by unfold maxLen;omega)
 obtain⟨ROW,hROW⟩:∃ ROW:Array Value,ROW=(flat (es.take k)).toArray++Builtin.zeroCells (Value.agg #[.string ByteArray.empty,.int .i64 0,.int .i64 0]).cells (n+1-k)++Builtin.zeroCells (Value.agg #[.string ByteArray.empty,.int .i64 0,.int .i64 0]).cells (G-(n+1)):=⟨_,rfl⟩
 have hRs:ROW.size=G*3:=by
  rw[hROW,Array.size_append,Array.size_append,zeroCells_size,zeroCells_size,List.size_toArray,flat_len,List.length_take];omega
 have hRt:ROW.toList.take (k*3)=flat (es.take k):=by
  rw[hROW,Array.append_assoc,Array.toList_append]
  show List.take (k*3) (flat (es.take k)++_)=_
  rw[List.take_left' (by rw[flat_len,List.length_take];omega)]
 obtain⟨W1,hW1⟩:∃ W1,W1=w.drew.alloc (.cells ROW 76):=⟨_,rfl⟩
 have hrz:∀ ty,(Builtin.append_ #[72,3] ty #[.slice (some ⟨g,0,none⟩) k n,.int .i64 ((n:Int)+1-(k:Int))]).run Tryz.prog w=.ok (.slice (some ⟨w.heap.size,0,none⟩) (n+1) G) W1:=fun ty=>by
  have hik:k+(n+1-k)=n+1:=by omega
  have h:=Lib.run_append_grow_zeros w 72 3 ty 76 i0 _ .i64 .i64 Tryz.underlying72 Tryz.underlying3 hi hz0 (some ⟨g,0,none⟩) k n (flat (es.take k)) hold (n+1-k) (by omega) (by omega) (by omega) (by omega) (by rw[hz2];omega) (by rw[hz2,hik];exact growslice_fits (by omega) (by omega))
  rw[hik] at h
  rw[show (n:Int)+1-(k:Int)=((n+1-k:Nat):Int) by omega,h,hW1,hROW,hG]
 have hg0:W1.heap[w.heap.size]? = some (.cells ROW 76 (0,0)):=by rw[hW1];exact Array.getElem?_push_size
 have hold1:∀ b,b<w.heap.size->W1.heap[b]? = w.heap[b]?:=fun b hb=>by rw[hW1];exact Below.heap_alloc _ _ _ hb
 obtain⟨cur1,hcur1⟩:∃ cur1:Array Value,cur1=(ROW.toList.take (k*3)++encE x++ROW.toList.drop (k*3+(encE x).length)).toArray:=⟨_,rfl⟩
 have hs1:cur1.size=G*3:=by
  rw[hcur1]
  simp only[List.size_toArray,List.length_append,List.length_take,List.length_drop,Array.length_toList,hRs,encE_len];omega
 obtain⟨W2,hW2⟩:∃ W2,W2=W1.setRow w.heap.size cur1:=⟨_,rfl⟩
 have hcpA:∀ ty dc,(Builtin.copy_ #[72,72] ty #[.slice (some ⟨w.heap.size,k*3,none⟩) (n+1-k) dc,.slice (some ⟨vb,0,none⟩) 1 1]).run Tryz.prog W1=.ok (goInt ((1:Nat):Int)) W2:=fun ty dc=>by
  have hm:Nat.min 1 (n+1-k)=1:=by simp only[Nat.min_def];split <;> omega
  have hv1:=(hold1 vb hvl).trans hv
  have:=run_copyK (P:=Tryz.prog) W1 72 72 ty 76 3 w.heap.size (k*3) (n+1-k) dc ⟨vb,0,none⟩ 1 1 ROW 76 (encE x) Tryz.underlying72 infoE3 hg0 (by rw[hm];rfl)
   (fun j v hj=>by rw[Addr.add_lit];match j,hj with
    | 0,hj=>simpa [World.cell?,hv1,encE] using hj
    | 1,hj=>simpa [World.cell?,hv1,encE] using hj
    | 2,hj=>simpa [World.cell?,hv1,encE] using hj
    | j+3,hj=>simp[encE] at hj) (by rw[encE_len,hRs];omega) (encE_one x)
  rw[hm] at this
  rw[this,hW2,hcur1]
 have hg2:W2.heap[w.heap.size]? = some (.cells cur1 76 (0,0)):=by rw[hW2];exact setRow_heap W1 _ _ _ 76 _ hg0
 obtain⟨n1,hn1⟩:∃ n1,n1=flat (es.drop k):=⟨_,rfl⟩
 have hl1:n1.length=(n-k)*3:=by rw[hn1,flat_len,List.length_drop,hn]
 obtain⟨cur2,hcur2⟩:∃ cur2:Array Value,cur2=(cur1.toList.take ((k+1)*3)++n1++cur1.toList.drop ((k+1)*3+n1.length)).toArray:=⟨_,rfl⟩
 have hcpB:∀ ty dc sc,(Builtin.copy_ #[72,72] ty #[.slice (some ⟨w.heap.size,(k+1)*3,none⟩) (n-k) dc,.slice (some ⟨g,k*3,none⟩) (n-k) sc]).run Tryz.prog W2.drew=.ok (goInt ((n-k:Nat):Int)) (W2.drew.setRow w.heap.size cur2):=fun ty dc sc=>by
  have hm:Nat.min (n-k) (n-k)=n-k:=Nat.min_self _
  have hgg:W2.heap[g]? = w.heap[g]?:=by rw[hW2,setRow_other W1 _ g _ (by omega),hold1 g hgl]
  have:=run_copyK (P:=Tryz.prog) W2.drew 72 72 ty 76 3 w.heap.size ((k+1)*3) (n-k) dc ⟨g,k*3,none⟩ (n-k) sc cur1 76 n1 Tryz.underlying72 infoE3 hg2 (by rw[hm];exact hl1)
   (fun j v hj=>by
    rw[Addr.add_lit]
    show W2.cell? _=_
    rw[World.cell?_of_block (a:=⟨g,k*3+j,none⟩) hgg]
    refine hcell _ _ ?_
    rw[hn1,cells_drop es k (by omega),List.getElem?_drop] at hj;exact hj) (by rw[hl1,hs1];omega) (by rw[hn1];exact flat_one _)
  rw[hm] at this
  rw[this,hcur2]
 have hfin:cur2.size=G*3/\cur2.toList.take ((n+1)*3)=flat (es.take k++x :: es.drop k):=by
  have hl:(cur1.toList.take ((k+1)*3)).length=(k+1)*3:=by rw[List.length_take,Array.length_toList,hs1];omega
  have h1:cur1.toList.take ((k+1)*3)=flat (es.take k)++encE x:=by
   rw[hcur1]
   show List.take ((k+1)*3) (ROW.toList.take (k*3)++encE x++ROW.toList.drop (k*3+(encE x).length))=_
   rw[hRt,List.take_left' (by rw[List.length_append,flat_len,encE_len,List.length_take];omega)]
  rw[hcur2]
  refine⟨by simp only[List.size_toArray,List.length_append,hl,List.length_drop,Array.length_toList,hs1,hl1];omega,?_⟩
  show List.take ((n+1)*3) (cur1.toList.take ((k+1)*3)++n1++cur1.toList.drop ((k+1)*3+n1.length))=_
  rw[List.take_left' (by rw[List.length_append,hl,hl1];omega),h1,hn1,flat_append,List.append_assoc];rfl
 have hb0:¬ ((k:Int)=(n:Int)):=by omega
 have hw1:IntKind.i64.wrap ((k:Int)+1)=(k:Int)+1:=by rw[IntKind.wrap_i64];omega
 have hb1:(0:Int)<=(k:Int)+1:=by omega
 have hb2:(k:Int)+1<=(n:Int)+1:=by omega
 have hb3:(k:Int)<=(n:Int)+1:=by omega
 have hb4:¬ G=k+1:=by omega
 have hb5:¬ G=k:=by omega
 have hb6:((k:Int)+1).toNat=k+1:=by omega
 have hb7:¬ n=k:=by omega
 have hin:k<=n:=by omega
 have hG2:G<=9223372036854775807:=by unfold maxLen at hG63;omega
 have HW1:Hid (W1=w.drew.alloc (.cells ROW 76)):=hW1
 have HW2:Hid (W2=W1.setRow w.heap.size cur1):=hW2
 have HG2:Hid (W2.heap[w.heap.size]? = some (.cells cur1 76 (0,0))):=hg2
 have HF:Hid _:=hfin
 have HGM:Hid (G<=maxLen):=hG63
 have HES:Hid (es.length=n):=hn
 clear hW1 hW2 hcur1 hcur2 hn1 hl1 hg0 hg2 hfin hROW hRs hRt hold hold1 hG hcell ht hcs hs1 hv hg hG63 hi hz0 hz1 hz2 hn
 go_enter Tryz.func124,Tryz.ntmps124
 go_wp2_with (first
  | (at_builtin;refine wp_append_run _ rfl _ _ _ _ rfl _ _ rfl rfl (hrz _) ?_)
  | (at_builtin;refine wp_copy_row _ rfl _ _ 72 72 rfl _ _ rfl rfl (hcpA _ _) ?_))
 go_region_law (refine step_copy_row rfl _ _ 72 72 rfl _ _ (by simp[Act.eval,Act.put]) (by simp[Act.eval,Act.put]) (hcpB _ _ _) ?_)
 all_goals
  go_wp2
  go_ret
  have hes:=HES.out
  have hsz:∀ (W:World) (r:Array Value),(W.setRow w.heap.size r).heap.size=W.heap.size:=fun W r=>by simp
  refine⟨w.heap.size,G,rfl,⟨by rw[flat_len];simp;omega,.inr ⟨w.heap.size,G,cur2,rfl,Nat.zero_le _,setRow_heap W2.drew _ _ _ 76 _ HG2.out,hGn,HGM.out,HF.out.1,HF.out.2⟩⟩,?_,.inr (Nat.le_refl _)⟩
  refine⟨by rw[HW2.out,HW1.out];rfl,by rw[HW2.out,HW1.out];rfl,by rw[HW2.out,HW1.out];rfl,by rw[show (W2.drew.setRow w.heap.size cur2).heap.size=W2.heap.size from hsz _ _,HW2.out,hsz,HW1.out];show w.heap.size<=(w.alloc _).heap.size;rw[World.size_alloc];omega,fun y hy hne=>?_⟩
  have hyg:y≠w.heap.size:=by omega
  rw[setRow_other W2.drew _ y _ hyg]
  show W2.heap[y]? = _
  rw[HW2.out,setRow_other W1 _ y _ hyg,HW1.out]
  exact Below.heap_alloc w.drew _ _ hy
theorem ins_any {w:World}{v:Value}{es:List Ent}(hrow:w.ownsRow 0 76 3 v es.length (flat es))(h16:es.length<=16){k:Nat}(hk:k<=es.length){vb:Nat}{x:Ent}
  (hv:w.heap[vb]? = some (.cells #[.string x.1,.int .i64 x.2.1,.int .i64 x.2.2] 76 (0,0)))(hvg:∀ g,v.ownBlock=some g->vb≠g):
  Calls Tryz.prog 124 #[v,.int .i64 (k:Int),.slice (some ⟨vb,0,none⟩) 1 1] w fun e w'=>Inserted w w' v.ownBlock es.length (es.take k++x :: es.drop k) e:=by
 by_cases hke:k=es.length
 ·subst hke
  rw[List.take_length,List.drop_length]
  rcases hrow.2 with ⟨rfl,h0⟩ | ⟨g,c,cur,rfl,_,hg,hnc,hcm,hcs,ht⟩
  ·have he:es = []:=List.length_eq_zero_iff.1 h0
   subst he
   exact ins_end (.slice none 0 0) 0 vb [] x w none 0 rfl hrow rfl (by omega) hv (Nat.le_refl _) (by unfold maxLen;omega)
  ·exact ins_end _ es.length vb es x w (some ⟨g,0,none⟩) c rfl hrow rfl h16 hv hnc hcm
 ·rcases hrow.2 with ⟨rfl,h0⟩ | ⟨g,c,cur,rfl,_,hg,hnc,hcm,hcs,ht⟩
  ·omega
  ·by_cases hc:es.length+1<=c
   ·exact ins_shift g es.length c k vb es x cur w hg rfl (by omega) hc hcm hcs ht hv (hvg g rfl)
   ·obtain rfl:c=es.length:=by omega
    exact ins_grow g es.length k vb es x cur w hg rfl (by omega) h16 hcs ht hv
theorem PMap.store {w:World}{b n:Nat}{f:List ByteArray->Option Value}(h:PMap w b n f){q:List ByteArray}(hq:Good q)(hn:n<maxLen){t e:TypeId}(ht:Tryz.prog.underlying t=some (.map 104 e))(val:Value):
  ∃ w',(Instr.mapUpdate t (.map (some b)) (.agg (pathA q)) val).run Tryz.prog w=.ok () w'/\PMap w' b (n+1) (upd f q (some val))/\w.grownBy w' (some b)/\w'.heap.size=w.heap.size:=by
 obtain⟨M,hV,hM,hK⟩:=h
 obtain⟨w',hrun,hV',hg,hs⟩:=hV.store lawP ht hn (keyVP hq) (val:=val)
 refine⟨w',hrun,⟨_,hV',fun p hp=>?_,fun kl hk hne=>?_⟩,hg,hs⟩
 ·by_cases e:p=q
  ·subst e;rw[mset_same,upd_same]
  ·rw[mset_other (fun h=>e (keyP_inj hp hq h)),upd_other e,hM p hp]
 ·by_cases e:kl=keyP Tryz.prog q
  ·exact⟨q,hq,e⟩
  ·rw[mset_other e] at hne;exact hK kl hk hne
theorem PMap.drop {w:World}{b n:Nat}{f:List ByteArray->Option Value}(h:PMap w b n f){q:List ByteArray}(hq:Good q){t e:TypeId}(ht:Tryz.prog.underlying t=some (.map 104 e))(ty:TypeId):
  ∃ w',(Builtin.delete_ #[t,104] ty #[.map (some b),.agg (pathA q)]).run Tryz.prog w=.ok (.tuple #[]) w'/\PMap w' b n (upd f q none)/\w.grownBy w' (some b)/\w'.heap.size=w.heap.size:=by
 obtain⟨M,hV,hM,hK⟩:=h
 obtain⟨w',hrun,hV',hg,hs⟩:=hV.drop lawP ht (keyVP hq) ty
 refine⟨w',hrun,⟨_,hV',fun p hp=>?_,fun kl hk hne=>?_⟩,hg,hs⟩
 ·by_cases e:p=q
  ·subst e;rw[mset_same,upd_same]
  ·rw[mset_other (fun h=>e (keyP_inj hp hq h)),upd_other e,hM p hp]
 ·by_cases e:kl=keyP Tryz.prog q
  ·exact⟨q,hq,e⟩
  ·rw[mset_other e] at hne;exact hK kl hk hne
theorem PMap.congr {w:World}{b n:Nat}{f f':List ByteArray->Option Value}(h:PMap w b n f)(hf:∀ p,Good p->f p=f' p):PMap w b n f':=by
 obtain⟨M,hV,hM,hK⟩:=h
 exact⟨M,hV,fun p hp=>(hM p hp).trans (hf p hp),hK⟩
theorem PMap.isMap {w:World}{b n:Nat}{f:List ByteArray->Option Value}(h:PMap w b n f):∃ es clock,w.heap[b]? = some (.map es clock):=by
 obtain⟨M,hV,_⟩:=h
 exact hV.isMap
structure Ents (objs:List Ob)(es:List Ent):Prop where
 rising:RisingK es
 len:es.length<=16
 ok:∀ e ∈ es,validB e.1=true/\EntOk objs e
section
variable {tg:Tags}{w:World}{s i p:Nat}{B:WB}{objs:List Ob}{g:WG}{lim:Nat}{vD:List ByteArray->Value}
theorem RowT.keep_map {w':World}{t:Nat×Nat}{v:Value}{es:List Ent}{b:Nat}{es0:Array MapEntry}{clock:Nat}(h:RowT tg w t v es)(hb:w.heap[b]? = some (.map es0 clock))(hg:w.grownBy w' (some b)):RowT tg w' t v es:=
 h.keep fun g' hg' hl=>⟨hg.block g' hl (fun e=>by
  have e':g'=b:=by injection e
  rw[e'] at hg'
  exact owns_ne_map h.1 hb hg'.symm),rfl⟩
theorem OwnDV.store {od:List ByteArray->Option (List Ent)}(h:OwnDV tg w i B od lim vD){q:List ByteArray}(hq:Good q)(hl:lim<maxLen){v:Value}{es:List Ent}(hrow:RowT tg w (i,5) v es)(hE:Ents objs es)
  (hnew:∀ q' es' gb,q'≠q->od q'=some es'->(vD q').ownBlock=some gb->v.ownBlock≠some gb):
  ∃ w',(Instr.mapUpdate 128 (.map (some B.oD)) (.agg (pathA q)) v).run Tryz.prog w=.ok () w'/\w.grownBy w' (some B.oD)/\w'.heap.size=w.heap.size/\OwnDV tg w' i B (upd od q (some es)) (lim+1) (upd vD q v):=by
 obtain⟨n,hn,hm⟩:=h.map
 obtain⟨w',hrun,hm',hg,hs⟩:=hm.store hq (Nat.lt_of_le_of_lt hn hl) Tryz.underlying128 v
 obtain⟨es0,ck,hb⟩:=hm.isMap
 refine⟨w',hrun,hg,hs,⟨h.tag,⟨n+1,by omega,hm'.congr (fun p hp=>?_)⟩,fun p fs hp=>?_,fun p fs hp=>?_,fun p p' fs fs' gb hp hp' hb1 hb2=>?_⟩⟩
 ·by_cases e:p=q
  ·subst e;rw[upd_same,upd_same,upd_same];rfl
  ·rw[upd_other e,upd_other e,upd_other e]
 ·by_cases e:p=q
  ·subst e
   rw[upd_same] at hp
   cases hp
   exact⟨hq,hE.rising,hE.len,fun e he=>⟨(hE.ok e he).1,(hE.ok e he).2.1⟩⟩
  ·rw[upd_other e] at hp;exact h.good p fs hp
 ·by_cases e:p=q
  ·subst e
   rw[upd_same] at hp ⊢
   cases hp
   exact hrow.keep_map hb hg
  ·rw[upd_other e] at hp ⊢
   exact (h.row p fs hp).keep_map hb hg
 ·by_cases e:p=q
  ·by_cases e':p'=q
   ·rw[e,e']
   ·subst e
    rw[upd_same] at hb1
    rw[upd_other e'] at hp' hb2
    exact absurd hb1 (hnew p' fs' gb e' hp' hb2)
  ·by_cases e':p'=q
   ·subst e'
    rw[upd_same] at hb2
    rw[upd_other e] at hp hb1
    exact absurd hb2 (hnew p fs gb e hp hb1)
   ·rw[upd_other e] at hp hb1
    rw[upd_other e'] at hp' hb2
    exact h.inj p p' fs fs' gb hp hp' hb1 hb2
theorem WInv.od {tg':Tags}{w':World}{lim':Nat}{od':List ByteArray->Option (List Ent)}{vD':List ByteArray->Value}(h:WInv tg w s i p B objs g lim)(m:Moves (fun t=>t=(i,5)) tg tg' w w')(hl:lim<=lim')(hD:OwnDV tg' w' i B od' lim' vD')(hok:∀ q es,od' q=some es->∀ e ∈ es,EntOk objs e):
  WInv tg' w' s i p B objs { g with ft:={ g.ft with od:=od' } } lim':=by
 have hi:=h.two
 have hp:=h.wp
 refine⟨h.two,(h.st.moves m (fun e=>by cases e) (fun e=>by cases e)).mono hl,⟨hp.tree.moves m (fun e=>by cases e),(hp.keptF.moves m (fun e=>by cases e)).mono hl,(hp.keptD.moves m (fun e=>by cases e)).mono hl,(hp.ownF.moves m (fun e=>by cases e)).mono hl,⟨vD',hD⟩,hp.files.moves m (fun e=>by cases e),hp.held,hp.opens.moves m (fun e=>by cases e) (fun e=>by cases e),⟨hp.ok.root,hok⟩⟩⟩
end
theorem own_hit {tg:Tags}{w:World}{i lim:Nat}{B:WB}{od:List ByteArray->Option (List Ent)}{vD:List ByteArray->Value}(h:OwnDV tg w i B od lim vD){q:List ByteArray}(hq:Good q){W:World}(hb:Below w.heap.size w W):
  (Instr.lookup 128 (.map (some B.oD)) (.agg (pathA q)) true).run Tryz.prog W=.ok (.tuple #[((od q).map fun _=>vD q).getD (.slice none 0 0),.bool (od q).isSome]) W:=by
 obtain⟨n,_,M,hV,hM,_⟩:=h.map
 have:=(hV.keep (w':=W) (hb.block _ hV.lt)).look_ok lawP Tryz.underlying128 (zeroEs W) (keyVP hq)
 rw[hM q hq] at this
 rw[this]
 show Result.ok (Value.tuple #[_,Value.bool ((od q).map fun _=>vD q).isSome]) W=_
 rw[Option.isSome_map]
theorem claim_hit (t m:Nat)(s0 s1 s2 s3 s4:ByteArray)(v:Value)(w:World)(ht:t<w.heap.size)(c8:w.cell? ⟨t,8,none⟩=some (.map (some m)))
  (hlk:∀ W,Below w.heap.size w W->(Instr.lookup 128 (.map (some m)) (.agg #[.string s0,.string s1,.string s2,.string s3,.string s4]) true).run Tryz.prog W=.ok (.tuple #[v,.bool true]) W):
  Calls Tryz.prog 123 #[.pointer (some ⟨t,0,none⟩),.agg #[.string s0,.string s1,.string s2,.string s3,.string s4]] w fun e w'=>e=.returned v/\Below w.heap.size w w':=by
 have hl:=hlk _ (below_drew ((Below.refl w.heap.size w).alloc (Nat.le_refl _) (.cells #[.string s0,.string s1,.string s2,.string s3,.string s4] 104)))
 clear hlk
 go_enter Tryz.func123,Tryz.ntmps123
 go_wp2
 go_region
 all_goals
  go_wp2
  go_ret
  exact⟨rfl,below_drew ((Below.refl _ _).alloc (Nat.le_refl _) _)⟩
theorem cloneE_row {w:World}{v:Value}{es:List Ent}(hrow:w.ownsRow 0 76 3 v es.length (flat es))(h16:es.length<=16):
  Calls Tryz.prog 111 #[v] w fun e w'=>∃ v',e=.returned v'/\w'.ownsRow 0 76 3 v' es.length (flat es)/\(∀ gb,v'.ownBlock=some gb->w.heap.size<=gb)/\Below w.heap.size w w':=by
 rcases hrow.2 with ⟨rfl,h0⟩ | ⟨g,c,cur,rfl,_,hg,hnc,hcm,hcs,ht⟩
 ·have he:es = []:=List.length_eq_zero_iff.1 h0
  subst he
  refine (AnyE.slices_Clone_nil Tryz.cloneE 0 0 w).mono ?_
  rintro e w' ⟨rfl,rfl⟩
  exact⟨_,rfl,hrow,fun gb hgb=>by simp[Value.ownBlock] at hgb,Below.refl _ _⟩
 ·refine (cloneE_any g 0 es.length c es w rfl (by omega) (owns_cells hrow)).mono ?_
  rintro e w' ⟨v',rfl,hr,_,hb⟩
  refine⟨v',rfl,row_base0 hr,fun gb hgb=>?_,hb⟩
  rcases hr.2 with ⟨e,_⟩ | ⟨g',c',_,e,hge,_⟩
  ·rw[e] at hgb;simp[Value.ownBlock] at hgb
  ·rw[e] at hgb
   obtain rfl:g'=gb:=by simpa [Value.ownBlock] using hgb
   exact hge
theorem look_ents {objs:List Ob}(hS:Sound objs){ft:FT}(hok:FtOk objs ft)(hr:∀ p es,ft.od p=some es->RisingK es/\es.length<=16)(hv:∀ p es,ft.od p=some es->∀ e ∈ es,validB e.1=true)(fs:FS)(r:List ByteArray):Ents objs (lookF objs ft fs r).2.2:=by
 obtain⟨f1,l1,l2,l3⟩:=find_entOk hS hok hr fs r
 refine⟨l2,l3,fun e he=>⟨?_,l1 e he⟩⟩
 revert e
 unfold lookF
 by_cases h0:(findF objs ft fs r).2.1≠0
 ·simp only[if_pos h0];simp
 ·simp only[if_neg h0]
  unfold entsF
  by_cases hk:(findF objs ft fs r).2.2.2.1≠2
  ·rw[if_pos hk];simp
  ·rw[if_neg hk]
   by_cases hid:(findF objs ft fs r).2.2.2.2=0
   ·rw[if_pos hid]
    cases ho:ft.od r.reverse with
    | none=>simp
    | some es=>exact fun e he=>hv _ es ho e he
   ·rw[if_neg hid]
    by_cases hG:((findF objs ft fs r).1.dirG (findF objs ft fs r).2.2.2.2).2=true
    ·rw[if_pos hG]
     have he:=f1 (Decidable.not_not.1 h0)
     obtain⟨s1,s2,s3⟩:=hS.2 _ ((he.2 hid).trans (Decidable.not_not.1 hk))
     exact fun e he=>(s3 e he).1
    ·rw[if_neg hG];simp
theorem WInv.ents {tg:Tags}{w:World}{s i p:Nat}{B:WB}{objs:List Ob}{g:WG}{lim:Nat}(h:WInv tg w s i p B objs g lim)(fs:FS)(r:List ByteArray):Ents objs (lookF objs g.ft fs r).2.2:=by
 obtain⟨vD,hD⟩:=h.wp.ownD
 exact look_ents h.st.sound h.wp.ok h.rising (fun p es he e hm=>((hD.good p es he).2.2.2 e hm).1) fs r
def tagOf (tg:Tags)(v:Value)(t:Nat×Nat):Tags:=match v.ownBlock with
 | some b=>tagAt tg b t
 | none=>tg
theorem tagOf_other {tg:Tags}{v:Value}{k:Nat}(h:v.ownBlock≠some k)(t:Nat×Nat):tagOf tg v t k=tg k:=by
 unfold tagOf
 cases hv:v.ownBlock with
 | none=>rfl
 | some b=>exact tagAt_other (fun e=>h (by rw[hv,e])) _
theorem tagOf_same {tg:Tags}{v:Value}{k:Nat}(h:v.ownBlock=some k)(t:Nat×Nat):tagOf tg v t k=t:=by
 unfold tagOf
 rw[h]
 exact tagAt_same _ _ _
section
variable {s i p:Nat}{B:WB}{objs:List Ob}
theorem WPart.retag {tg tg':Tags}{w:World}{g:WG}{lim:Nat}(hi:2<=i)(h:WPart tg w i p B objs g lim)(hk:∀ k,(tg k).1≠0->tg' k=tg k):WPart tg' w i p B objs g lim:=by
 have key:∀ {b:Nat} {t:Nat},tg b=(i,t)->tg' b=(i,t):=fun {b t} hb=>(hk b (by rw[hb];show i≠0;omega)).trans hb
 have rowk:∀ {t:Nat} {v:Value} {es:List Ent},RowT tg w (i,t) v es->RowT tg' w (i,t) v es:=fun hr=>⟨hr.1,fun g' hg'=>key (hr.2 g' hg')⟩
 obtain⟨ht,hF,hD,oF,⟨vD,oD⟩,fl,held,op,ok⟩:=h
 refine⟨⟨key ht.tt,key ht.tF,key ht.tD,ht.ht,ht.hF,ht.hD⟩,?_,?_,?_,⟨vD,key oD.tag,oD.map,oD.good,fun q es hq=>rowk (oD.row q es hq),oD.inj⟩,?_,held,⟨key op.tw,op.hw,op.past,?_,op.inj⟩,ok⟩
 ·obtain⟨a,b⟩:=hF;exact⟨key a,b⟩
 ·obtain⟨a,n,M,vK,b1,b2,b3,b4⟩:=hD;exact⟨key a,n,M,vK,b1,b2,b3,fun id hid=>⟨(b4 id hid).1,rowk (b4 id hid).2⟩⟩
 ·obtain⟨a,b⟩:=oF;exact⟨key a,b⟩
 ·intro f id d hf
  obtain⟨a,b⟩:=fl f id d hf;exact⟨key a,b⟩
 ·intro k b f fg pl hk'
  obtain⟨a,c⟩:=op.at_ k b f fg pl hk';exact⟨key a,c⟩
theorem OwnDV.retag {tg tg':Tags}{w:World}{od:List ByteArray->Option (List Ent)}{lim:Nat}{vD:List ByteArray->Value}(hi:2<=i)(h:OwnDV tg w i B od lim vD)(hk:∀ k,(tg k).1≠0->tg' k=tg k):OwnDV tg' w i B od lim vD:=by
 have key:∀ {b:Nat} {t:Nat},tg b=(i,t)->tg' b=(i,t):=fun {b t} hb=>(hk b (by rw[hb];show i≠0;omega)).trans hb
 exact⟨key h.tag,h.map,h.good,fun q es hq=>⟨(h.row q es hq).1,fun g' hg'=>key ((h.row q es hq).2 g' hg')⟩,h.inj⟩
theorem WInv.retag {tg tg':Tags}{w:World}{g:WG}{lim:Nat}(h:WInv tg w s i p B objs g lim)(hf:Fresh tg' w)(hk:∀ k,(tg k).1≠0->tg' k=tg k):WInv tg' w s i p B objs g lim:=
 ⟨h.two,h.st.retag hf (fun k h1=>hk k (by rw[h1];decide)),h.wp.retag h.two hk⟩
theorem own_new {tg:Tags}{w W:World}{g:WG}{lim:Nat}{vD:List ByteArray->Value}(h:WInv tg w s i p B objs g lim)(hD0:OwnDV tg w i B g.ft.od lim vD)(hl:lim<maxLen){q:List ByteArray}(hq:Good q)(hb:Below w.heap.size w W){v:Value}{es:List Ent}(hrow:W.ownsRow 0 76 3 v es.length (flat es))(hfr:∀ gb,v.ownBlock=some gb->w.heap.size<=gb)(hE:Ents objs es):
  ∃ w' tg',(Instr.mapUpdate 128 (.map (some B.oD)) (.agg (pathA q)) v).run Tryz.prog W=.ok () w'/\W.grownBy w' (some B.oD)/\w'.heap.size=W.heap.size/\B.oD<w.heap.size/\Moves (Mine i) tg tg' w w'/\
   WInv tg' w' s i p B objs { g with ft:={ g.ft with od:=upd g.ft.od q (some es) } } (lim+1)/\OwnDV tg' w' i B (upd g.ft.od q (some es)) (lim+1) (upd vD q v)/\∀ gb,v.ownBlock=some gb->w'.heap[gb]? = W.heap[gb]?:=by
 have hi:=h.two
 have hW:=h.below hb
 have hD:=hD0.moves (Moves.of_below (P:=fun _=>False) hb) (fun x=>x)
 have hlt:∀ gb,v.ownBlock=some gb->gb<W.heap.size:=fun gb hgb=>ownsRow_lt hrow hgb
 have h0:∀ gb,v.ownBlock=some gb->tg gb=(0,0):=fun gb hgb=>h.st.fresh gb (hfr gb hgb)
 have hk:∀ k,(tg k).1≠0->tagOf tg v (i,5) k=tg k:=fun k hk=>tagOf_other (fun e=>hk (by rw[h0 k e])) _
 have hf:Fresh (tagOf tg v (i,5)) W:=fun k hk'=>by
  rw[tagOf_other (fun e=>by have:=hlt k e;omega)]
  exact hW.st.fresh k hk'
 have hW':=hW.retag hf hk
 have hD':=hD.retag hi hk
 have hrow':RowT (tagOf tg v (i,5)) W (i,5) v es:=⟨hrow,fun gb hgb=>tagOf_same hgb _⟩
 obtain⟨w',hrun,hg,hs,hD2⟩:=hD'.store (objs:=objs) hq hl hrow' hE (fun q' es' gb _ ho hb1 hb2=>by
  have h1:=(hD.row q' es' ho).2 gb hb1
  rw[h0 gb hb2] at h1
  cases h1)
 have m:Moves (fun t=>t=(i,5)) (tagOf tg v (i,5)) (tagOf tg v (i,5)) W w':=moves_grown hg hs hD'.tag
 obtain⟨n0,_,hm0⟩:=hD.map
 obtain⟨e0,ck0,hmap⟩:=hm0.isMap
 obtain⟨n1,_,hm1⟩:=hD0.map
 refine⟨w',tagOf tg v (i,5),hrun,hg,hs,hm1.lt,?_,hW'.od m (Nat.le_succ _) hD2 (fun q' es' ho=>?_),hD2,fun gb hgb=>?_⟩
 ·have m1:Moves (Mine i) tg (tagOf tg v (i,5)) w W:=⟨hb.os,hb.tape,hb.output,hb.size,fun k hk'=>tagOf_other (fun e=>by have:=hfr k e;omega) _,fun k hk' _=>hb.block k hk',fun _=>hf⟩
  exact m1.trans (m.mono (fun t ht=>.inr (by rw[ht])))
 ·by_cases e:q'=q
  ·subst e
   have ho':upd g.ft.od q' (some es) q'=some es':=ho
   rw[upd_same] at ho'
   cases ho'
   exact fun e he=>(hE.ok e he).2
  ·have ho':upd g.ft.od q (some es) q'=some es':=ho
   rw[upd_other e] at ho'
   exact h.wp.ok.od q' es' ho'
 ·refine hg.block gb (hlt gb hgb) (fun e=>?_)
  have e':gb=B.oD:=by injection e
  rw[e'] at hgb
  exact owns_ne_map hrow hmap hgb.symm
end
section
variable {s i p:Nat}{B:WB}{objs:List Ob}
theorem PTree.cells {tg:Tags}{w:World}{base root:Int}(h:PTree tg w i p B base root):B.bt<w.heap.size/\w.cell? ⟨B.bt,8,none⟩=some (.map (some B.oD))/\w.cell? ⟨B.bt,7,none⟩=some (.map (some B.oF))/\w.cell? ⟨B.bt,6,none⟩=some (.int .i64 root)/\(∀ o,w.frozen? ⟨B.bt,o,none⟩=false):=
 ⟨(Array.getElem?_eq_some_iff.1 h.ht).1,by simp[World.cell?,h.ht],by simp[World.cell?,h.ht],by simp[World.cell?,h.ht],fun o=>by simp[World.frozen?,h.ht]⟩
theorem WInv.setRoot {tg:Tags}{w:World}{g:WG}{lim:Nat}(h:WInv tg w s i p B objs g lim):WInv tg (w.setCell ⟨B.bt,6,none⟩ (.int .i64 0)) s i p B objs { g with ft:={ g.ft with root:=0 } } lim/\Moves (fun t=>t=(i,1)) tg tg w (w.setCell ⟨B.bt,6,none⟩ (.int .i64 0)):=by
 have hi:=h.two
 have ht:=h.wp.tree
 have m:Moves (fun t=>t=(i,1)) tg tg w (w.setCell ⟨B.bt,6,none⟩ (.int .i64 0)):=⟨rfl,rfl,rfl,by simp,fun _ _=>rfl,fun k hk hn=>Below.heap_setCell _ _ _ _ (fun e=>hn (by rw[e];exact ht.tt)),fun hf k hk=>hf k (by simpa using hk)⟩
 refine⟨⟨hi,h.st.moves m (fun e=>by cases e) (fun e=>by cases e;omega),⟨⟨ht.tt,ht.tF,ht.tD,?_,?_,?_⟩,h.wp.keptF.moves m (fun e=>by cases e),h.wp.keptD.moves m (fun e=>by cases e),h.wp.ownF.moves m (fun e=>by cases e),?_,h.wp.files.moves m (fun e=>by cases e),h.wp.held,h.wp.opens.moves m (fun e=>by cases e) (fun e=>by cases e),⟨fun h0=>absurd rfl h0,h.wp.ok.od⟩⟩⟩,m⟩
 ·simp[World.setCell,Array.getElem?_modify,ht.ht]
 ·rw[Below.heap_setCell _ _ _ _ (cells_ne ht.hF ht.ht (by decide))];exact ht.hF
 ·rw[Below.heap_setCell _ _ _ _ (cells_ne ht.hD ht.ht (by decide))];exact ht.hD
 ·obtain⟨vD,hD⟩:=h.wp.ownD
  exact⟨vD,hD.moves m (fun e=>by cases e)⟩
theorem out_cell {w w':World}{b c:Nat}(hg:w.grownBy w' (some b))(hc:c<w.heap.size)(hne:c≠b)(o:Nat):w'.cell? ⟨c,o,none⟩=w.cell? ⟨c,o,none⟩:=World.cell?_of_block (a:=⟨c,o,none⟩) (hg.block c hc (fun e=>hne (by injection e)))
theorem claim_top {tg:Tags}{w:World}{g:WG}{lim:Nat}{vD0:List ByteArray->Value}(h:WInv tg w s i p B objs g lim)(hD0:OwnDV tg w i B g.ft.od lim vD0)(hl:lim+20<1099511627776)(ho:g.ft.od []=none){es:List Ent}(hL:lookF objs g.ft g.fs []=(g.fs,0,es)):
  Calls Tryz.prog 123 #[.pointer (some ⟨B.bt,0,none⟩),.agg #[.string ⟨#[]⟩,.string ⟨#[]⟩,.string ⟨#[]⟩,.string ⟨#[]⟩,.string ⟨#[]⟩]] w fun en w'=>∃ v,en=.returned v/\∃ tg' vD,Moves (Mine i) tg tg' w w'/\
   WInv tg' w' s i p B objs { g with ft:={ g.ft with od:=upd g.ft.od [] (some es),root:=0 } } (lim+10)/\OwnDV tg' w' i B (upd g.ft.od [] (some es)) (lim+10) vD/\vD []=v/\∀ q,q ≠ []->vD q=vD0 q:=by
 have hE:=h.ents g.fs []
 rw[hL] at hE
 have hE:Ents objs es:=hE
 obtain⟨ht,c8,_,_,_⟩:=h.wp.tree.cells
 have hb0:=below_drew ((Below.refl w.heap.size w).alloc (Nat.le_refl _) (.cells #[.string ⟨#[]⟩,.string ⟨#[]⟩,.string ⟨#[]⟩,.string ⟨#[]⟩,.string ⟨#[]⟩] 104))
 have hlk:=own_hit hD0 Good.nil hb0
 rw[ho] at hlk
 have hlk:(Instr.lookup 128 (.map (some B.oD)) (.agg #[.string ⟨#[]⟩,.string ⟨#[]⟩,.string ⟨#[]⟩,.string ⟨#[]⟩,.string ⟨#[]⟩]) true).run Tryz.prog ((w.alloc (.cells #[.string ⟨#[]⟩,.string ⟨#[]⟩,.string ⟨#[]⟩,.string ⟨#[]⟩,.string ⟨#[]⟩] 104)).drew)=.ok (.tuple #[.slice none 0 0,.bool false]) ((w.alloc (.cells #[.string ⟨#[]⟩,.string ⟨#[]⟩,.string ⟨#[]⟩,.string ⟨#[]⟩,.string ⟨#[]⟩] 104)).drew):=hlk
 have hlook:=look_all (s:=s) (i:=i) (p:=p) (B:=B) (objs:=objs) [] tg _ g lim (h.below hb0) (by omega) Good.nil
 rw[hL] at hlook
 have hlook:Calls Tryz.prog 75 #[.pointer (some ⟨B.bt,0,none⟩),.agg #[.string ⟨#[]⟩,.string ⟨#[]⟩,.string ⟨#[]⟩,.string ⟨#[]⟩,.string ⟨#[]⟩]] _ _:=hlook
 have hroot:=fun W=>root_any W
 have heq:∀ W,(Op.equalIn 10000 104 (pathV []) (pathV [])).run Tryz.prog W=.ok true W:=fun W=>by
  have:=run_eqP Good.nil Good.nil W
  rw[decide_eq_true rfl] at this;exact this
 unfold pathV pathA at hroot heq
 simp only[List.getD_nil] at hroot heq
 obtain⟨n0,_,hm0⟩:=hD0.map
 have hoD0:w.heap.size≠B.oD:=by have:=hm0.lt;omega
 have hlm:lim+([]:List ByteArray).length+1<maxLen:=by show lim+0+1<maxLen;unfold maxLen;omega
 have H0:Hid _:=h
 have HD0:Hid _:=hD0
 have HB0:Hid _:=hb0
 have HE:Hid _:=hE
 clear h hD0 hb0 hE hL ho hm0
 go_enter Tryz.func123,Tryz.ntmps123
 go_wp2
 go_region
 all_goals
  go_wp2_with (first
   | (go_at_call 75;refine hlook.mono ?_;rintro e w3 ⟨v,rfl,tg3,m3,hW3,hs3⟩;have hS:=stays_of H0.out.two H0.out.st.fresh m3;have k0:=hS.cell (Nat.le_refl _) (by simp[World.drew]);have hz3:w.heap.size<w3.heap.size:=Nat.lt_of_lt_of_le (by simp[World.drew]) hS.1;obtain⟨ht3,c83,_,_,_⟩:=hW3.wp.tree.cells;have HW3:Hid _:=hW3;have HM3:Hid _:=m3;have HS3:Hid _:=hs3;clear hW3 m3 hs3 hS)
   | (go_at_call 111;go_loud (refine (cloneE_row HS3.out.1 HE.out.len).mono ?_;rintro e w4 ⟨v',rfl,hrow,hfr,hb4⟩;obtain⟨hc4,hf4⟩:=bcell hb4;obtain⟨w5,tg5,hmu,hg5,hs5,hoD,m5,hW5,hD5,hk5⟩:=own_new (q:=[]) HW3.out (((HD0.out.moves (Moves.of_below (P:=fun _=>False) HB0.out) (fun x=>x)).moves HM3.out (by rintro (h | h | h) <;> cases h;exact absurd H0.out.two (by decide))).mono (by omega)) hlm Good.nil (below_drew hb4) hrow hfr HE.out;have k5:=out_cell (c:=w.heap.size) hg5 (Nat.lt_of_lt_of_le hz3 hb4.size) hoD0;obtain⟨ht5,_,_,c65,f5⟩:=hW5.wp.tree.cells;have hmu:(Instr.mapUpdate 128 (.map (some B.oD)) (.agg #[.string ⟨#[]⟩,.string ⟨#[]⟩,.string ⟨#[]⟩,.string ⟨#[]⟩,.string ⟨#[]⟩]) v').run Tryz.prog w4.drew=.ok () w5:=hmu;have hz5:w.heap.size<w5.heap.size:=Nat.lt_of_lt_of_le (Nat.lt_of_lt_of_le hz3 hb4.size) (Nat.le_of_eq hs5.symm);have HW5:Hid _:=hW5;have HM5:Hid _:=m5;have HD5:Hid _:=hD5;clear hW5 m5 hD5 hrow hfr hg5)))
  go_region
  all_goals
   go_wp2
   go_region_with (go_at_call 66;refine (hroot _).mono ?_;rintro e w6 ⟨rfl,hb6⟩;have k6:∀ o,w6.cell? ⟨w.heap.size,o,none⟩=w5.cell? ⟨w.heap.size,o,none⟩:=fun o=>(bcell hb6).1 _ _ hz5;have hW6:=HW5.out.below (below_via (below_drew (Below.refl _ _)) hb6);obtain⟨ht6,_,_,c66,f66⟩:=hW6.wp.tree.cells;have HW6:Hid _:=hW6;clear hW6)
   all_goals
    go_wp2
    go_ret
    obtain⟨r1,r2⟩:=HW6.out.setRoot
    refine⟨v',rfl,tg5,upd vD0 [] v',?_,r1.mono (by simp only[List.length_nil];omega),?_,upd_same _ _ _,fun q hq=>upd_other hq _⟩
    ·exact ((call_moves HB0.out HM3.out).mono (fun _ h=>h.mine)).trans (HM5.out.trans ((Moves.of_below (below_via (below_drew (Below.refl _ _)) hb6)).trans (r2.mono (fun t ht=>.inr (by rw[ht])))))
    ·exact (((HD5.out.moves (Moves.of_below (P:=fun _=>False) (below_via (below_drew (Below.refl _ _)) hb6)) (fun x=>x)).moves r2 (fun e=>by cases e)).mono (by simp only[List.length_nil];omega))
end
def zeroK (es:List Ent)(n:ByteArray):List Ent:=es.map fun e=>if e.1=n then (e.1,e.2.1,0) else e
def claimF (objs:List Ob)(fs:FS)(ft:FT):List ByteArray->FT
 | []=>if (ft.od []).isSome then ft else { ft with od:=upd ft.od [] (some (lookF objs ft fs []).2.2),root:=0 }
 | n :: r=>
  if (ft.od (n :: r).reverse).isSome then ft else
  let ft2:=claimF objs fs { ft with od:=upd ft.od (n :: r).reverse (some (lookF objs ft fs (n :: r)).2.2) } r
  { ft2 with od:=upd ft2.od r.reverse (some (zeroK ((ft2.od r.reverse).getD []) n)) }
theorem look_congr (objs:List Ob)(fs:FS){ft ft':FT}(hr:ft'.root=ft.root):∀ r:List ByteArray,(∀ x,x <+: r.reverse->ft'.od x=ft.od x)->findF objs ft' fs r=findF objs ft fs r/\lookF objs ft' fs r=lookF objs ft fs r
 | [],h=>by
  have hf:findF objs ft' fs []=findF objs ft fs []:=by rw[findF,findF,hr]
  refine⟨hf,?_⟩
  unfold lookF
  rw[hf]
  unfold entsF
  rw[show ft'.od ([]:List ByteArray).reverse=ft.od ([]:List ByteArray).reverse from h _ (List.prefix_refl _)]
 | n :: r,h=>by
  have hp:∀ x,x <+: r.reverse->ft'.od x=ft.od x:=fun x hx=>h x (hx.trans (by rw[List.reverse_cons];exact List.prefix_append _ _))
  obtain⟨_,i2⟩:=look_congr objs fs hr r hp
  have hf:findF objs ft' fs (n :: r)=findF objs ft fs (n :: r):=by rw[findF_cons,findF_cons,i2]
  refine⟨hf,?_⟩
  unfold lookF
  rw[hf]
  unfold entsF
  rw[show ft'.od (n :: r).reverse=ft.od (n :: r).reverse from h _ (List.prefix_refl _)]
structure OwnWay (objs:List Ob)(fs:FS)(ft:FT)(K:List ByteArray->List Ent)(p:List ByteArray):Prop where
 look:∀ q,q <+: p->lookF objs ft fs q.reverse=(fs,0,K q)
 own:∀ q,q <+: p->∀ es,ft.od q=some es->es=K q
 up:∀ q m,(q ++ [m]) <+: p->(ft.od (q ++ [m])).isSome=true->(ft.od q).isSome=true/\zeroK (K q) m=K q
 root:(ft.od []).isSome=true->ft.root=0
def zK (K:List ByteArray->List Ent)(p x:List ByteArray):List Ent:=match p[x.length]? with
 | some m=>zeroK (K x) m
 | none=>K x
theorem prefix_snoc {α:Type}{x p:List α}{n:α}(h:x <+: p ++ [n]):x <+: p\/x=p ++ [n]:=by
 rw[List.prefix_concat_iff] at h
 rcases h with h | h
 ·exact .inr h
 ·exact .inl h
theorem prefix_get {α:Type}{x p:List α}(h:x <+: p)(hne:x≠p):∃ m,p[x.length]? = some m/\(x ++ [m]) <+: p:=by
 obtain⟨t,rfl⟩:=h
 cases t with
 | nil=>simp at hne
 | cons m r=>exact⟨m,by simp,⟨r,by simp⟩⟩
theorem ownWay_all {objs:List Ob}{fs:FS}{ft:FT}{K:List ByteArray->List Ent}:∀ {r:List ByteArray},OwnWay objs fs ft K r.reverse->(ft.od r.reverse).isSome=true->ft.root=0/\∀ x,x <+: r.reverse->ft.od x=some (zK K r.reverse x)
 | [],h,ho=>by
  refine⟨h.root ho,fun x hx=>?_⟩
  have:x = []:=by simpa using hx
  subst this
  obtain⟨es,he⟩:=Option.isSome_iff_exists.1 ho
  have:=h.own [] (List.prefix_refl _) es he
  show ft.od ([]:List ByteArray).reverse=_
  rw[he,this];rfl
 | n :: r,h,ho=>by
  rw[List.reverse_cons] at h ho ⊢
  obtain⟨hu,hz⟩:=h.up r.reverse n (List.prefix_refl _) ho
  have hpre:∀ x,x <+: r.reverse->x <+: r.reverse ++ [n]:=fun x hx=>hx.trans (List.prefix_append _ _)
  have h':OwnWay objs fs ft K r.reverse:=⟨fun q hq=>h.look q (hpre q hq),fun q hq=>h.own q (hpre q hq),fun q m hq=>h.up q m (hpre _ hq),h.root⟩
  obtain⟨i1,i2⟩:=ownWay_all h' hu
  refine⟨i1,fun x hx=>?_⟩
  rcases prefix_snoc hx with hx | rfl
  ·rw[i2 x hx]
   by_cases hxe:x=r.reverse
   ·subst hxe
    have e1:zK K r.reverse r.reverse=K r.reverse:=by unfold zK;rw[List.getElem?_eq_none (Nat.le_refl _)]
    have e2:zK K (r.reverse ++ [n]) r.reverse=zeroK (K r.reverse) n:=by unfold zK;rw[List.getElem?_append_right (Nat.le_refl _)];simp
    rw[e1,e2,hz]
   ·obtain⟨m,hm,_⟩:=prefix_get hx hxe
    have hlt:x.length<r.reverse.length:=(List.getElem?_eq_some_iff.1 hm).1
    unfold zK
    rw[List.getElem?_append_left hlt,hm]
  ·obtain⟨es,he⟩:=Option.isSome_iff_exists.1 ho
   have:=h.own _ (List.prefix_refl _) es he
   rw[he,this]
   unfold zK
   rw[List.getElem?_eq_none (by simp)]
theorem claim_maps {objs:List Ob}{fs:FS}{K:List ByteArray->List Ent}:∀ {r:List ByteArray} {ft:FT},OwnWay objs fs ft K r.reverse->
  (claimF objs fs ft r).root=0/\(claimF objs fs ft r).of=ft.of/\∀ x,(claimF objs fs ft r).od x=if x <+: r.reverse then some (zK K r.reverse x) else ft.od x
 | [],ft,h=>by
  rw[claimF]
  by_cases ho:(ft.od []).isSome=true
  ·rw[if_pos ho]
   obtain⟨h1,h2⟩:=ownWay_all (r:=[]) h ho
   refine⟨h1,rfl,fun x=>?_⟩
   split
   ·next hx=>exact h2 x hx
   ·rfl
  ·rw[if_neg ho]
   refine⟨rfl,rfl,fun x=>?_⟩
   have hl:=h.look [] (List.prefix_refl _)
   show upd ft.od [] _ x=_
   by_cases hx:x = []
   ·subst hx
    rw[upd_same,if_pos (by simp),show lookF objs ft fs []=(fs,0,K []) from hl];rfl
   ·rw[upd_other hx,if_neg (by simpa using hx)]
 | n :: r,ft,h=>by
  rw[claimF]
  by_cases ho:(ft.od (n :: r).reverse).isSome=true
  ·rw[if_pos ho]
   obtain⟨h1,h2⟩:=ownWay_all (r:=n :: r) h ho
   refine⟨h1,rfl,fun x=>?_⟩
   split
   ·next hx=>exact h2 x hx
   ·rfl
  ·rw[if_neg ho]
   have hrev:(n :: r).reverse=r.reverse ++ [n]:=List.reverse_cons
   rw[hrev] at h ⊢
   have hl:=h.look (r.reverse ++ [n]) (List.prefix_refl _)
   rw[List.reverse_append,List.reverse_reverse] at hl
   have hl':lookF objs ft fs (n :: r)=(fs,0,K (r.reverse ++ [n])):=hl
   rw[hl']
   have hpre:∀ x,x <+: r.reverse->x <+: r.reverse ++ [n]:=fun x hx=>hx.trans (List.prefix_append _ _)
   have hne:∀ x,x <+: r.reverse->x≠r.reverse ++ [n]:=fun x hx e=>by
    have:=hx.length_le
    rw[e] at this;simp at this;omega
   have h':OwnWay objs fs { ft with od:=upd ft.od (r.reverse ++ [n]) (some (fs,(0:Int),K (r.reverse ++ [n])).2.2) } K r.reverse:=by
    refine⟨fun q hq=>?_,fun q hq es he=>?_,fun q m hq hs=>?_,fun hs=>?_⟩
    ·rw[(look_congr objs fs (ft:=ft) (ft':={ ft with od:=upd ft.od (r.reverse ++ [n]) (some (fs,(0:Int),K (r.reverse ++ [n])).2.2) }) rfl q.reverse (fun x hx=>upd_other (hne x (by rw[List.reverse_reverse] at hx;exact hx.trans hq)) _)).2]
     exact h.look q (hpre q hq)
    ·exact h.own q (hpre q hq) es ((upd_other (f:=ft.od) (hne q hq) (some (K (r.reverse ++ [n])))).symm.trans he)
    ·have e1:=upd_other (f:=ft.od) (hne _ hq) (some (K (r.reverse ++ [n])))
     have hqr:q <+: r.reverse:=(List.prefix_append q [m]).trans hq
     have e2:=upd_other (f:=ft.od) (hne _ hqr) (some (K (r.reverse ++ [n])))
     show (upd ft.od _ _ q).isSome=true/\_
     rw[e2]
     exact h.up q m (hpre _ hq) (by rw[<- e1];exact hs)
    ·exact h.root (by rw[<- upd_other (f:=ft.od) (hne [] (by simp)) (some (K (r.reverse ++ [n])))];exact hs)
   obtain⟨i1,i2,i3⟩:=claim_maps h'
   refine⟨i1,i2,fun x=>?_⟩
   show upd (claimF objs fs _ r).od r.reverse _ x=_
   rw[i3 r.reverse,if_pos (List.prefix_refl _)]
   have e1:zK K r.reverse r.reverse=K r.reverse:=by unfold zK;rw[List.getElem?_eq_none (Nat.le_refl _)]
   rw[e1]
   by_cases hx:x=r.reverse
   ·subst hx
    rw[upd_same,if_pos (List.prefix_append _ _)]
    have e2:zK K (r.reverse ++ [n]) r.reverse=zeroK (K r.reverse) n:=by unfold zK;rw[List.getElem?_append_right (Nat.le_refl _)];simp
    rw[e2];rfl
   ·rw[upd_other hx,i3]
    by_cases hxp:x <+: r.reverse
    ·rw[if_pos hxp,if_pos (hpre x hxp)]
     obtain⟨m,hm,_⟩:=prefix_get hxp hx
     have hlt:x.length<r.reverse.length:=(List.getElem?_eq_some_iff.1 hm).1
     unfold zK
     rw[List.getElem?_append_left hlt,hm]
    ·rw[if_neg hxp]
     show upd ft.od _ _ x=_
     by_cases hxn:x=r.reverse ++ [n]
     ·subst hxn
      rw[upd_same,if_pos (List.prefix_refl _)]
      unfold zK
      rw[List.getElem?_eq_none (by simp)]
     ·rw[upd_other hxn,if_neg]
      intro hx2
      rcases prefix_snoc hx2 with h3 | h3
      ·exact hxp h3
      ·exact hxn h3
end Go.Proofs.YtajopoddmfdejaaGreat
