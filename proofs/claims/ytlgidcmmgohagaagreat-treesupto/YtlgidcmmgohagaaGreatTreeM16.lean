/-
  What is proved here: Parse: the text of a path of valid names, at most five, tells that path. canopykeep's small functions: pick, short, path: a path of one to three names of four. a store and a workspace over ..
-/
import Derived.Test.YtlgidcmmgohagaaGreatTreeM15
import Derived.Test.YtlgidcmmgohagaaGreatTreeM05
import Derived.Deep.LoopGhost
namespace Go.Proofs.YtlgidcmmgohagaaGreat
open Go.RowKit Go.Sort Go.Shelf
set_option linter.unusedVariables false
set_option maxRecDepth 100000
set_option maxHeartbeats 16000000
def PathAt (w:World)(b:Nat)(l:List ByteArray):Prop:=b<w.heap.size/\∀ k,k<5->w.cell? ⟨b,k,none⟩=some (.string (l.getD k ⟨#[]⟩))/\w.frozen? ⟨b,k,none⟩=false
theorem PathAt.keep {w w':World}{b:Nat}{l:List ByteArray}(h:PathAt w b l)(hb:Below w.heap.size w w'):PathAt w' b l:=
 ⟨Nat.lt_of_lt_of_le h.1 hb.size,fun k hk=>⟨((bcell hb).1 b k h.1).trans (h.2 k hk).1,((bcell hb).2 b k h.1).trans (h.2 k hk).2⟩⟩
theorem PathAt.five {w:World}{b:Nat}{l:List ByteArray}(h:PathAt w b l):(w.cell? ⟨b,0,none⟩=some (.string (l.getD 0 ⟨#[]⟩))/\w.cell? ⟨b,1,none⟩=some (.string (l.getD 1 ⟨#[]⟩))/\w.cell? ⟨b,2,none⟩=some (.string (l.getD 2 ⟨#[]⟩))/\w.cell? ⟨b,3,none⟩=some (.string (l.getD 3 ⟨#[]⟩))/\w.cell? ⟨b,4,none⟩=some (.string (l.getD 4 ⟨#[]⟩)))/\∀ k,k<5->w.frozen? ⟨b,k,none⟩=false:=
 ⟨⟨(h.2 0 (by omega)).1,(h.2 1 (by omega)).1,(h.2 2 (by omega)).1,(h.2 3 (by omega)).1,(h.2 4 (by omega)).1⟩,fun k hk=>(h.2 k hk).2⟩
theorem addr_ne {b c j k:Nat}(h:b≠c\/j≠k):(⟨b,j,none⟩:Addr)≠⟨c,k,none⟩:=fun e=>by
 simp only[Addr.mk.injEq,and_true] at e
 rcases h with h | h
 ·exact h e.1
 ·exact h e.2
theorem PathAt.put {w:World}{b j:Nat}{l m:List ByteArray}(h:PathAt w b l)(hm:∀ k,k<5->k≠j->m.getD k ⟨#[]⟩=l.getD k ⟨#[]⟩)(h5:j<5):PathAt (w.setCell ⟨b,j,none⟩ (.string (m.getD j ⟨#[]⟩))) b m:=by
 refine⟨by simpa using h.1,fun k hk=>⟨?_,by rw[World.frozen?_setCell];exact (h.2 k hk).2⟩⟩
 by_cases e:k=j
 ·subst e
  exact World.cell?_setCell_same _ _ _ (h.2 k hk).1
 ·rw[World.cell?_setCell_other _ _ _ _ (addr_ne (.inr (fun e'=>e e'.symm))),hm k hk e]
  exact (h.2 k hk).1
theorem PathAt.set {w:World}{b j:Nat}{l:List ByteArray}(h:PathAt w b (l.take j))(h5:j<5):PathAt (w.setCell ⟨b,j,none⟩ (.string (l.getD j ⟨#[]⟩))) b (l.take (j+1)):=by
 have:=h.put (m:=l.take (j+1)) (j:=j) (fun k hk hne=>?_) h5
 ·rwa [show (l.take (j+1)).getD j ⟨#[]⟩=l.getD j ⟨#[]⟩ by rw[List.getD_eq_getElem?_getD,List.getD_eq_getElem?_getD,List.getElem?_take,if_pos (Nat.lt_succ_self _)]] at this
 ·rw[List.getD_eq_getElem?_getD,List.getD_eq_getElem?_getD,List.getElem?_take,List.getElem?_take]
  by_cases hk2:k<j
  ·rw[if_pos hk2,if_pos (by omega)]
  ·rw[if_neg hk2,if_neg (by omega)]
theorem PathAt.over {w:World}{b j:Nat}{l:List ByteArray}(h:PathAt w b l)(h5:j<5):PathAt (w.setCell ⟨b,j,none⟩ (.string (l.getD j ⟨#[]⟩))) b l:=h.put (fun _ _ _=>rfl) h5
theorem PathAt.other {w:World}{b c j:Nat}{l:List ByteArray}{v:Value}(h:PathAt w b l)(hc:c≠b):PathAt (w.setCell ⟨c,j,none⟩ v) b l:=
 ⟨by simpa using h.1,fun k hk=>⟨by rw[World.cell?_setCell_other _ _ _ _ (addr_ne (.inl hc))];exact (h.2 k hk).1,by rw[World.frozen?_setCell];exact (h.2 k hk).2⟩⟩
theorem five_cases {k:Nat}(h:k<5):k=0\/k=1\/k=2\/k=3\/k=4:=by omega
theorem PathAt.of_block {w:World}{b:Nat}(h:w.heap[b]? = some (.cells #[.string ⟨#[]⟩,.string ⟨#[]⟩,.string ⟨#[]⟩,.string ⟨#[]⟩,.string ⟨#[]⟩] 147 (0,0))):PathAt w b []:=by
 refine⟨(Array.getElem?_eq_some_iff.1 h).1,fun k hk=>?_⟩
 rcases five_cases hk with rfl | rfl | rfl | rfl | rfl <;> simp[World.cell?,World.frozen?,h]
theorem path_new0 (w:World):PathAt ((w.alloc (.cells #[.string ⟨#[]⟩,.string ⟨#[]⟩,.string ⟨#[]⟩,.string ⟨#[]⟩,.string ⟨#[]⟩] 147)).alloc (.cells #[.string ⟨#[]⟩,.string ⟨#[]⟩,.string ⟨#[]⟩,.string ⟨#[]⟩,.string ⟨#[]⟩] 147)) w.heap.size []:=.of_block (heap_alloc2_old w _ _)
theorem path_new1 (w:World):PathAt ((w.alloc (.cells #[.string ⟨#[]⟩,.string ⟨#[]⟩,.string ⟨#[]⟩,.string ⟨#[]⟩,.string ⟨#[]⟩] 147)).alloc (.cells #[.string ⟨#[]⟩,.string ⟨#[]⟩,.string ⟨#[]⟩,.string ⟨#[]⟩,.string ⟨#[]⟩] 147)) (w.heap.size+1) []:=.of_block (heap_alloc2_new w _ _)
theorem parse_any (l:List ByteArray)(hl:Good l)(w:World):Calls Tryz.prog 69 #[.string (joinB l)] w fun e w'=>e=.returned (.tuple #[pathV l,.int .i64 0])/\Below w.heap.size w w':=by
 have hsz:=join_size hl.val
 have h5:=hl.len
 have hcut:∀ j (hj:j<l.length) W,Calls Tryz.prog 128 #[.string (joinB (l.drop j)),.string ⟨#[47]⟩] W fun e w'=>e=.returned (.tuple #[.string (l.getD j ⟨#[]⟩),.string (joinB (l.drop (j+1))),.bool (decide (j+1<l.length))])/\Below W.heap.size W w':=by
  intro j hj W
  have e1:l.drop j=l[j] :: l.drop (j+1):=List.drop_eq_getElem_cons hj
  have hv:validB l[j]=true:=hl.val _ (List.getElem_mem hj)
  have hm:(joinB (l.drop j)).size<=1000:=by
   have:=join_size (l:=l.drop j) (fun x hx=>hl.val x (List.mem_of_mem_drop hx))
   have h2:(l.drop j).length<=5:=by rw[List.length_drop];omega
   omega
  rw[e1] at hm
  have:=cut_any l[j] (l.drop (j+1)) hv hm W
  rw[<- e1] at this
  have e2:(!(l.drop (j+1)).isEmpty)=decide (j+1<l.length):=by
   by_cases h:j+1<l.length
   ·rw[decide_eq_true h,List.drop_eq_getElem_cons h];rfl
   ·rw[decide_eq_false h,List.drop_eq_nil_of_le (by omega)];rfl
  rw[e2] at this
  rw[List.getD_eq_getElem?_getD,List.getElem?_eq_getElem hj,Option.getD_some]
  exact this
 have hval:∀ j (hj:j<l.length) W,Calls Tryz.prog 129 #[.string (l.getD j ⟨#[]⟩)] W fun e w'=>e=.returned (.bool true)/\w'=W:=by
  intro j hj W
  have hv:validB l[j]=true:=hl.val _ (List.getElem_mem hj)
  rw[List.getD_eq_getElem?_getD,List.getElem?_eq_getElem hj,Option.getD_some]
  have:=valid_any l[j] W (by have:=(valid_size hv).2;unfold maxLen;omega)
  rwa [hv] at this
 have hclo:∀ j W,Calls Tryz.prog 130 #[.string (l.getD j ⟨#[]⟩)] W fun e w'=>e=.returned (.string (l.getD j ⟨#[]⟩))/\Below W.heap.size W w':=fun j W=>clone_any _ W (by
  rw[List.getD_eq_getElem?_getD]
  cases hj:l[j]? with
  | none=>simp[ByteArray.size]
  | some x=>
   have:=(valid_size (hl.val x (List.mem_of_getElem? hj))).2
   rw[Option.getD_some];omega)
 have hne:(!(joinB l).toList.isEmpty)=decide (0<l.length):=by
  rw[toL_eq]
  match l,hl with
  | [],_=>rfl
  | [x],hl=>
   have:=valid_ne (hl.val x (by simp))
   rw[toL_eq] at this
   rw[joinB_one]
   cases h:toL x with
   | nil=>rw[h] at this;cases this
   | cons c r=>rfl
  | x :: y :: r,_=>
   rw[joinB_cons x (by simp)]
   simp
 have HCUT:Hid _:=hcut
 have HVAL:Hid _:=hval
 have HCLO:Hid _:=hclo
 clear hcut hval hclo hsz
 go_enter Tryz.func69,Tryz.ntmps69
 go_wp2
 have HA0:Hid (PathAt ((w.alloc (.cells #[.string ⟨#[]⟩,.string ⟨#[]⟩,.string ⟨#[]⟩,.string ⟨#[]⟩,.string ⟨#[]⟩] 147)).alloc (.cells #[.string ⟨#[]⟩,.string ⟨#[]⟩,.string ⟨#[]⟩,.string ⟨#[]⟩,.string ⟨#[]⟩] 147)) w.heap.size []):=path_new0 w
 have HA1:Hid (PathAt ((w.alloc (.cells #[.string ⟨#[]⟩,.string ⟨#[]⟩,.string ⟨#[]⟩,.string ⟨#[]⟩,.string ⟨#[]⟩] 147)).alloc (.cells #[.string ⟨#[]⟩,.string ⟨#[]⟩,.string ⟨#[]⟩,.string ⟨#[]⟩,.string ⟨#[]⟩] 147)) (w.heap.size+1) []):=path_new1 w
 go_loopw [5,6,7] (fun r m i wr=>∃ j:Nat,j<=l.length/\i=.int .i64 (j:Int)/\m=.bool (decide (j<l.length))/\r=.string (joinB (l.drop j))/\Below w.heap.size w wr/\Hid (PathAt wr w.heap.size [])/\Hid (PathAt wr (w.heap.size+1) (l.take j))) (fun _ _ i _=>l.length-(intOf i).toNat)
 case atStart=>exact⟨0,Nat.zero_le _,rfl,rfl,rfl,((Below.refl _ _).alloc (Nat.le_refl _) _).alloc (by simp) _,HA0.out,HA1.out⟩
 case round=>
  obtain⟨j,hj,rfl,rfl,rfl,hb,HP0,HP1⟩:=hrel
  by_cases hlt:j<l.length
  ·rw[decide_eq_true hlt]
   have hj5:j<5:=by omega
   have hj5':((j:Int) == 5)=false:=by simp;omega
   have hji:(j:Int)<5:=by omega
   have hcj:=HCUT.out j hlt
   have hvj:=HVAL.out j hlt
   have hzz:w.heap.size+1<wr.heap.size:=HP1.out.1
   generalize hm:decide (j+1<l.length)=more at hcj
   have HM:Hid _:=hm
   generalize hx:l.getD j ⟨#[]⟩=x at hcj hvj
   have HX:Hid _:=hx
   clear hm hx
   go_wp2_with fail
   refine Calls.mono (hcj wr) ?_
   rintro e w1 ⟨rfl,hb1⟩
   have hz1:w.heap.size+1<w1.heap.size:=Nat.lt_of_lt_of_le hzz hb1.size
   have k1:=((HP1.out.keep hb1).2 j hj5)
   obtain⟨k1c,k1f⟩:=k1
   generalize (l.take j).getD j ⟨#[]⟩=x0 at k1c
   go_wp2_with (go_at_call 129;refine Calls.mono (hvj _) ?_;rintro e w2 ⟨rfl,rfl⟩)
   go_roundw
   case rel=>
    refine⟨j+1,by omega,by go_num,by rw[HM.out],rfl,?_,?_,?_⟩
    ·refine Below.setCell ?_ (by simp) _
     exact below_via hb hb1
    ·exact (HP0.out.keep hb1).other (by omega)
    ·rw[<- HX.out];exact (HP1.out.keep hb1).set hj5
   case measure=>simp[intOf];omega
  ·rw[decide_eq_false hlt]
   have hje:j=l.length:=by omega
   subst hje
   rw[List.take_length] at HP1
   rw[List.drop_length]
   go_wp2
   go_loopw [32] (fun i wr=>∃ k:Nat,k<=5/\i=.int .i64 (k:Int)/\Below w.heap.size w wr/\Hid (PathAt wr w.heap.size [])/\Hid (PathAt wr (w.heap.size+1) l)) (fun i _=>5-(intOf i).toNat)
   case atStart=>exact⟨0,by omega,rfl,hb,HP0,HP1⟩
   case round=>
    obtain⟨k,hk,rfl,hb2,HQ0,HQ1⟩:=hrel
    have hz0:w.heap.size<wr.heap.size:=HQ0.out.1
    have hz1:w.heap.size+1<wr.heap.size:=HQ1.out.1
    by_cases hk5:k<5
    ·have hki:(k:Int)<5:=by omega
     obtain⟨kc,kf⟩:=HQ1.out.2 k hk5
     have hck:=HCLO.out k
     generalize hx:l.getD k ⟨#[]⟩=x at hck kc
     have HX:Hid _:=hx
     clear hx
     go_wp2_with fail
     refine Calls.mono (hck wr) ?_
     rintro e w1 ⟨rfl,hb1⟩
     obtain⟨kc1,kf1⟩:=(HQ1.out.keep hb1).2 k hk5
     rw[HX.out] at kc1
     have hz2:w.heap.size+1<w1.heap.size:=Nat.lt_of_lt_of_le hz1 hb1.size
     go_wp2
     go_roundw
     case rel=>
      refine⟨k+1,by omega,by go_num,?_,?_,?_⟩
      ·refine Below.setCell ?_ (by simp) _
       exact below_via hb2 hb1
      ·exact (HQ0.out.keep hb1).other (by omega)
      ·rw[<- HX.out];exact (HQ1.out.keep hb1).over hk5
     case measure=>simp[intOf];omega
    ·have hki:¬ (k:Int)<5:=by omega
     obtain⟨⟨p0,p1,p2,p3,p4⟩,pf⟩:=HQ1.out.five
     obtain⟨⟨q0,q1,q2,q3,q4⟩,qf⟩:=HQ0.out.five
     have qf0:=qf 0 (by omega)
     have qf1:=qf 1 (by omega)
     have qf2:=qf 2 (by omega)
     have qf3:=qf 3 (by omega)
     have qf4:=qf 4 (by omega)
     clear pf qf
     obtain⟨s0,s1,s2,s3,s4,hP⟩:∃ s0 s1 s2 s3 s4,pathA l = #[.string s0,.string s1,.string s2,.string s3,.string s4]:=⟨_,_,_,_,_,rfl⟩
     simp only[pathA,Array.mk.injEq,List.cons.injEq,Value.string.injEq,and_true] at hP
     obtain⟨e0,e1,e2,e3,e4⟩:=hP
     rw[e0] at p0
     rw[e1] at p1
     rw[e2] at p2
     rw[e3] at p3
     rw[e4] at p4
     have HE:Hid _:=And.intro e0 (And.intro e1 (And.intro e2 (And.intro e3 e4)))
     clear e0 e1 e2 e3 e4
     simp only[List.getD_nil] at q0 q1 q2 q3 q4
     have hv:pathV l=.agg #[.string s0,.string s1,.string s2,.string s3,.string s4]:=by
      unfold pathV pathA
      rw[HE.out.1,HE.out.2.1,HE.out.2.2.1,HE.out.2.2.2.1,HE.out.2.2.2.2]
     go_wp2
     exact bodyPost_ret (v:=.tuple #[.agg #[.string s0,.string s1,.string s2,.string s3,.string s4],.int .i64 0]) (by simp[results,Tryz.results69,go_sem,q0,q1,q2,q3,q4]) rfl ⟨rfl,by
      repeat (refine Below.setCell ?_ (by simp) _)
      exact hb2⟩
def letters:List ByteArray:=[⟨#[97]⟩,⟨#[98]⟩,⟨#[99]⟩,⟨#[100]⟩]
abbrev Tags:=Nat->Nat×Nat
def Fresh (tg:Tags)(w:World):Prop:=∀ k,w.heap.size<=k->tg k=(0,0)
structure Moves (P:Nat×Nat->Prop)(tg tg':Tags)(w w':World):Prop where
 os:w'.os=w.os
 tape:w'.tape=w.tape
 output:w'.output=w.output
 size:w.heap.size<=w'.heap.size
 tags:∀ k,k<w.heap.size->tg' k=tg k
 block:∀ k,k<w.heap.size->¬ P (tg k)->w'.heap[k]? = w.heap[k]?
 fresh:Fresh tg w->Fresh tg' w'
theorem Moves.refl (P:Nat×Nat->Prop)(tg:Tags)(w:World):Moves P tg tg w w:=⟨rfl,rfl,rfl,Nat.le_refl _,fun _ _=>rfl,fun _ _ _=>rfl,id⟩
theorem Moves.of_below {P:Nat×Nat->Prop}{tg:Tags}{w w':World}(h:Below w.heap.size w w'):Moves P tg tg w w':=⟨h.os,h.tape,h.output,h.size,fun _ _=>rfl,fun k hk _=>h.block k hk,fun hf k hk=>hf k (Nat.le_trans h.size hk)⟩
theorem Moves.trans {P:Nat×Nat->Prop}{tg tg' tg'':Tags}{w w' w'':World}(h:Moves P tg tg' w w')(k:Moves P tg' tg'' w' w''):Moves P tg tg'' w w'':=
 ⟨k.os.trans h.os,k.tape.trans h.tape,k.output.trans h.output,Nat.le_trans h.size k.size,fun b hb=>(k.tags b (Nat.lt_of_lt_of_le hb h.size)).trans (h.tags b hb),
  fun b hb hP=>(k.block b (Nat.lt_of_lt_of_le hb h.size) (by rw[h.tags b hb];exact hP)).trans (h.block b hb hP),fun hf=>k.fresh (h.fresh hf)⟩
theorem Moves.mono {P P':Nat×Nat->Prop}{tg tg':Tags}{w w':World}(h:Moves P tg tg' w w')(hP:∀ t,P t->P' t):Moves P' tg tg' w w':=
 ⟨h.os,h.tape,h.output,h.size,h.tags,fun k hk hn=>h.block k hk (fun hp=>hn (hP _ hp)),h.fresh⟩
def tagAt (tg:Tags)(b:Nat)(t:Nat×Nat):Tags:=fun k=>if k=b then t else tg k
theorem tagAt_same (tg:Tags)(b:Nat)(t:Nat×Nat):tagAt tg b t b=t:=by unfold tagAt;rw[if_pos rfl]
theorem tagAt_other {tg:Tags}{b k:Nat}(h:k≠b)(t:Nat×Nat):tagAt tg b t k=tg k:=by unfold tagAt;rw[if_neg h]
theorem Moves.at {P:Nat×Nat->Prop}{tg tg':Tags}{w w':World}(h:Moves P tg tg' w w'){b:Nat}{o:Obj}(hb:w.heap[b]? = some o){t:Nat×Nat}(ht:tg b=t)(hn:¬ P t):w'.heap[b]? = some o/\tg' b=t:=by
 have hl:=(Array.getElem?_eq_some_iff.1 hb).1
 exact⟨(h.block b hl (by rw[ht];exact hn)).trans hb,(h.tags b hl).trans ht⟩
def RowT (tg:Tags)(w:World)(t:Nat×Nat)(v:Value)(es:List Ent):Prop:=w.ownsRow 0 96 3 v es.length (flat es)/\∀ g,v.ownBlock=some g->tg g=t
theorem RowT.keep {tg tg':Tags}{w w':World}{t:Nat×Nat}{v:Value}{es:List Ent}(h:RowT tg w t v es)(hk:∀ g,v.ownBlock=some g->g<w.heap.size->w'.heap[g]? = w.heap[g]?/\tg' g=tg g):RowT tg' w' t v es:=
 ⟨ownsRow_keep h.1 (fun g hg=>(hk g hg (ownsRow_lt h.1 hg)).1),fun g hg=>((hk g hg (ownsRow_lt h.1 hg)).2).trans (h.2 g hg)⟩
theorem RowT.moves {P:Nat×Nat->Prop}{tg tg':Tags}{w w':World}{t:Nat×Nat}{v:Value}{es:List Ent}(h:RowT tg w t v es)(m:Moves P tg tg' w w')(hn:¬ P t):RowT tg' w' t v es:=
 h.keep fun g hg hl=>⟨m.block g hl (by rw[h.2 g hg];exact hn),m.tags g hl⟩
def GotRow (tg:Tags)(w:World)(ft:PTail)(got:List Int):Prop:=w.ownsRow 0 29 1 (.slice ft.a ft.n ft.c) ft.n (got.map (Value.int .i64))/\ft.n=got.length/\∀ g,(Value.slice ft.a ft.n ft.c).ownBlock=some g->tg g=(1,1)
structure SInv (tg:Tags)(w:World)(s p:Nat)(objs:List Ob)(got:List Int)(brk:Bool)(lim:Nat):Prop where
 fresh:Fresh tg w
 ex:∃ ft:PTail,ft.b=brk/\InvP ft (fun k=>tg k=(1,0)) w s p objs/\GotRow tg w ft got/\Sound objs/\got.length<=lim
theorem SInv.sound {tg:Tags}{w:World}{s p:Nat}{objs:List Ob}{got:List Int}{brk:Bool}{lim:Nat}(h:SInv tg w s p objs got brk lim):Sound objs:=by
 obtain⟨_,ft,_,_,_,hs,_⟩:=h
 exact hs
theorem row_base0 {w:World}{base:Nat}{e:TypeId}{size:Nat}{v:Value}{n:Nat}{xs:List Value}(h:w.ownsRow base e size v n xs):w.ownsRow 0 e size v n xs:=by
 obtain⟨h1,h2⟩:=h
 refine⟨h1,?_⟩
 rcases h2 with h | ⟨g,c,cur,hv,_,r⟩
 ·exact .inl h
 ·exact .inr ⟨g,c,cur,hv,Nat.zero_le _,r⟩
theorem GotRow.moves {P:Nat×Nat->Prop}{tg tg':Tags}{w w':World}{ft:PTail}{got:List Int}(h:GotRow tg w ft got)(m:Moves P tg tg' w w')(hn:¬ P (1,1)):GotRow tg' w' ft got:=
 ⟨ownsRow_keep h.1 (fun g hg=>m.block g (ownsRow_lt h.1 hg) (by rw[h.2.2 g hg];exact hn)),h.2.1,fun g hg=>(m.tags g (ownsRow_lt h.1 hg)).trans (h.2.2 g hg)⟩
theorem SInv.moves {P:Nat×Nat->Prop}{tg tg':Tags}{w w':World}{s p:Nat}{objs:List Ob}{got:List Int}{brk:Bool}{lim:Nat}(h:SInv tg w s p objs got brk lim)(m:Moves P tg tg' w w')(h0:¬ P (1,0))(h1:¬ P (1,1)):SInv tg' w' s p objs got brk lim:=by
 obtain⟨hf,ft,hb,hi,hg,hs,hl⟩:=h
 exact⟨m.fresh hf,ft,hb,hi.keep (fun k hk hF=>m.block k hk (by rw[hF];exact h0)) (fun k hk hF=>(m.tags k hk).trans hF),hg.moves m h1,hs,hl⟩
theorem SInv.mono {tg:Tags}{w:World}{s p:Nat}{objs:List Ob}{got:List Int}{brk:Bool}{lim lim':Nat}(h:SInv tg w s p objs got brk lim)(hl:lim<=lim'):SInv tg w s p objs got brk lim':=by
 obtain⟨hf,ft,hb,hi,hg,hs,h⟩:=h
 exact⟨hf,ft,hb,hi,hg,hs,Nat.le_trans h hl⟩
theorem SInv.retag {tg tg':Tags}{w:World}{s p:Nat}{objs:List Ob}{got:List Int}{brk:Bool}{lim:Nat}(h:SInv tg w s p objs got brk lim)(hf:Fresh tg' w)(hk:∀ k,(tg k).1=1->tg' k=tg k):SInv tg' w s p objs got brk lim:=by
 obtain⟨_,ft,hb,hi,hg,hs,hl⟩:=h
 exact⟨hf,ft,hb,hi.keep (fun k _ _=>rfl) (fun k _ hF=>(hk k (by rw[hF])).trans hF),⟨hg.1,hg.2.1,fun g hgg=>(hk g (by rw[hg.2.2 g hgg])).trans (hg.2.2 g hgg)⟩,hs,hl⟩
structure WB where
 wb:Nat
 bt:Nat
 sF:Nat
 sD:Nat
 mF:Nat
 mD:Nat
 oF:Nat
 oD:Nat
structure WG where
 base:Int
 ft:FT
 fs:FS
 fl:Nat->Option (Int×ByteArray)
 op:Nat->Option (Nat×Nat×Int×Int)
def ptr (b:Nat):Value:=.pointer (some ⟨b,0,none⟩)
def opV (o:Option (Nat×Nat×Int×Int)):Value:=.pointer (o.map fun x=>⟨x.1,0,none⟩)
structure PTree (tg:Tags)(w:World)(i p:Nat)(B:WB)(base root:Int):Prop where
 tt:tg B.bt=(i,1)
 tF:tg B.sF=(i,1)
 tD:tg B.sD=(i,1)
 ht:w.heap[B.bt]? = some (.cells #[ptr p,ptr B.sF,ptr B.sD,.int .i64 base,.string ⟨#[]⟩,.int .i64 2,.int .i64 root,.map (some B.oF),.map (some B.oD)] 164 (0,0))
 hF:w.heap[B.sF]? = some (.cells #[.func (.func 115) #[ptr p] #[],.map (some B.mF)] 267 (0,0))
 hD:w.heap[B.sD]? = some (.cells #[.func (.func 117) #[ptr p] #[],.map (some B.mD)] 271 (0,0))
theorem PTree.moves {P:Nat×Nat->Prop}{tg tg':Tags}{w w':World}{i p:Nat}{B:WB}{base root:Int}(h:PTree tg w i p B base root)(m:Moves P tg tg' w w')(hn:¬ P (i,1)):PTree tg' w' i p B base root:=by
 obtain⟨a1,b1⟩:=m.at h.ht h.tt hn
 obtain⟨a2,b2⟩:=m.at h.hF h.tF hn
 obtain⟨a3,b3⟩:=m.at h.hD h.tD hn
 exact⟨b1,b2,b3,a1,a2,a3⟩
theorem VMap.moves {P:Nat×Nat->Prop}{tg tg':Tags}{w w':World}{k:TypeId}{b n:Nat}{M:Lit->Option Value}(h:VMap w k b n M)(m:Moves P tg tg' w w'){t:Nat×Nat}(ht:tg b=t)(hn:¬ P t):VMap w' k b n M/\tg' b=t:=by
 have hl:=h.lt
 exact⟨h.keep (m.block b hl (by rw[ht];exact hn)),(m.tags b hl).trans ht⟩
def idL (id:Int):Lit:=.int .i64 id
def KeptF (tg:Tags)(w:World)(i:Nat)(B:WB)(objs:List Ob)(kF:Int->Bool)(lim:Nat):Prop:=
 tg B.mF=(i,2)/\∃ n M,n<=lim/\VMap w 29 B.mF n M/\(∀ id,M (idL id)=if kF id then some (.string (bytesOf objs id)) else none)/\∀ id,kF id=true->kindOf objs id=1
def KeptD (tg:Tags)(w:World)(i:Nat)(B:WB)(objs:List Ob)(kD:Int->Bool)(lim:Nat):Prop:=
 tg B.mD=(i,3)/\∃ n M,∃ vK:Int->Value,n<=lim/\VMap w 29 B.mD n M/\(∀ id,M (idL id)=if kD id then some (vK id) else none)/\∀ id,kD id=true->kindOf objs id=2/\RowT tg w (i,3) (vK id) (entsOf objs id)
theorem KeptF.moves {P:Nat×Nat->Prop}{tg tg':Tags}{w w':World}{i:Nat}{B:WB}{objs:List Ob}{kF:Int->Bool}{lim:Nat}(h:KeptF tg w i B objs kF lim)(m:Moves P tg tg' w w')(hn:¬ P (i,2)):KeptF tg' w' i B objs kF lim:=by
 obtain⟨ht,n,M,hl,hv,hM,hk⟩:=h
 obtain⟨a,b⟩:=hv.moves m ht hn
 exact⟨b,n,M,hl,a,hM,hk⟩
theorem KeptD.moves {P:Nat×Nat->Prop}{tg tg':Tags}{w w':World}{i:Nat}{B:WB}{objs:List Ob}{kD:Int->Bool}{lim:Nat}(h:KeptD tg w i B objs kD lim)(m:Moves P tg tg' w w')(hn:¬ P (i,3)):KeptD tg' w' i B objs kD lim:=by
 obtain⟨ht,n,M,vK,hl,hv,hM,hk⟩:=h
 obtain⟨a,b⟩:=hv.moves m ht hn
 exact⟨b,n,M,vK,hl,a,hM,fun id hid=>⟨(hk id hid).1,(hk id hid).2.moves m hn⟩⟩
def PMap (w:World)(b n:Nat)(f:List ByteArray->Option Value):Prop:=
 ∃ M,VMap w 147 b n M/\(∀ p,Good p->M (keyP Tryz.prog p)=f p)/\∀ kl,WideAt.IsKeyLit kl->M kl≠none->∃ p,Good p/\kl=keyP Tryz.prog p
def OwnF (tg:Tags)(w:World)(i:Nat)(B:WB)(of:List ByteArray->Option Nat)(lim:Nat):Prop:=
 tg B.oF=(i,4)/\(∃ n,n<=lim/\PMap w B.oF n (fun p=>(of p).map ptr))/\∀ p f,of p=some f->Good p
structure OwnDV (tg:Tags)(w:World)(i:Nat)(B:WB)(od:List ByteArray->Option (List Ent))(lim:Nat)(vD:List ByteArray->Value):Prop where
 tag:tg B.oD=(i,5)
 map:∃ n,n<=lim/\PMap w B.oD n (fun p=>(od p).map fun _=>vD p)
 good:∀ p es,od p=some es->Good p/\RisingK es/\es.length<=16/\∀ e ∈ es,validB e.1=true/\(e.2.1=1\/e.2.1=2)
 row:∀ p es,od p=some es->RowT tg w (i,5) (vD p) es
 inj:∀ p q es fs g,od p=some es->od q=some fs->(vD p).ownBlock=some g->(vD q).ownBlock=some g->p=q
def OwnD (tg:Tags)(w:World)(i:Nat)(B:WB)(od:List ByteArray->Option (List Ent))(lim:Nat):Prop:=∃ vD,OwnDV tg w i B od lim vD
theorem PMap.keep {w w':World}{b n:Nat}{f:List ByteArray->Option Value}(h:PMap w b n f)(e:w'.heap[b]? = w.heap[b]?):PMap w' b n f:=by
 obtain⟨M,hv,h1,h2⟩:=h
 exact⟨M,hv.keep e,h1,h2⟩
theorem PMap.lt {w:World}{b n:Nat}{f:List ByteArray->Option Value}(h:PMap w b n f):b<w.heap.size:=by
 obtain⟨M,hv,_⟩:=h
 exact hv.lt
theorem OwnF.moves {P:Nat×Nat->Prop}{tg tg':Tags}{w w':World}{i:Nat}{B:WB}{of:List ByteArray->Option Nat}{lim:Nat}(h:OwnF tg w i B of lim)(m:Moves P tg tg' w w')(hn:¬ P (i,4)):OwnF tg' w' i B of lim:=by
 obtain⟨ht,⟨n,hl,hp⟩,hg⟩:=h
 exact⟨(m.tags _ hp.lt).trans ht,⟨n,hl,hp.keep (m.block _ hp.lt (by rw[ht];exact hn))⟩,hg⟩
theorem OwnDV.moves {P:Nat×Nat->Prop}{tg tg':Tags}{w w':World}{i:Nat}{B:WB}{od:List ByteArray->Option (List Ent)}{lim:Nat}{vD:List ByteArray->Value}(h:OwnDV tg w i B od lim vD)(m:Moves P tg tg' w w')(hn:¬ P (i,5)):OwnDV tg' w' i B od lim vD:=by
 obtain⟨ht,⟨n,hl,hp⟩,hg,hr,hi⟩:=h
 exact⟨(m.tags _ hp.lt).trans ht,⟨n,hl,hp.keep (m.block _ hp.lt (by rw[ht];exact hn))⟩,hg,fun p es he=>(hr p es he).moves m hn,hi⟩
def FilesAt (tg:Tags)(w:World)(i:Nat)(B:WB)(fl:Nat->Option (Int×ByteArray)):Prop:=
 ∀ f id d,fl f=some (id,d)->tg f=(i,6)/\w.heap[f]? = some (.cells #[.pointer (if id=0 then none else some ⟨B.sF,0,none⟩),.int .i64 id,.string d] 308 (0,0))/\d.size<=256
theorem FilesAt.moves {P:Nat×Nat->Prop}{tg tg':Tags}{w w':World}{i:Nat}{B:WB}{fl:Nat->Option (Int×ByteArray)}(h:FilesAt tg w i B fl)(m:Moves P tg tg' w w')(hn:¬ P (i,6)):FilesAt tg' w' i B fl:=fun f id d hf=>by
 obtain⟨h1,h2,h3⟩:=h f id d hf
 obtain⟨a,b⟩:=m.at h2 h1 hn
 exact⟨b,a,h3⟩
structure OpensAt (tg:Tags)(w:World)(i:Nat)(B:WB)(fl:Nat->Option (Int×ByteArray))(op:Nat->Option (Nat×Nat×Int×Int)):Prop where
 tw:tg B.wb=(i,0)
 hw:w.heap[B.wb]? = some (.cells #[ptr B.bt,opV (op 0),opV (op 1),opV (op 2),opV (op 3),opV (op 4),opV (op 5),opV (op 6),opV (op 7)] 91 (0,0))
 past:∀ k,8<=k->op k=none
 at_:∀ k b f fg pl,op k=some (b,f,fg,pl)->tg b=(i,7)/\w.heap[b]? = some (.cells #[ptr f,.int .i64 fg,.int .i64 pl] 277 (0,0))/\(∃ x,fl f=some x)/\0<=fg/\fg<64/\0<=pl/\pl<=256
 inj:∀ k l x y,op k=some x->op l=some y->x.1=y.1->k=l
theorem OpensAt.moves {P:Nat×Nat->Prop}{tg tg':Tags}{w w':World}{i:Nat}{B:WB}{fl:Nat->Option (Int×ByteArray)}{op:Nat->Option (Nat×Nat×Int×Int)}(h:OpensAt tg w i B fl op)(m:Moves P tg tg' w w')(hn:¬ P (i,0))(hn':¬ P (i,7)):OpensAt tg' w' i B fl op:=by
 obtain⟨a,b⟩:=m.at h.hw h.tw hn
 refine⟨b,a,h.past,fun k b f fg pl hk=>?_,h.inj⟩
 obtain⟨h1,h2,h3⟩:=h.at_ k b f fg pl hk
 obtain⟨a',b'⟩:=m.at h2 h1 hn'
 exact⟨b',a',h3⟩
def EntOk (objs:List Ob)(e:Ent):Prop:=(e.2.1=1\/e.2.1=2)/\(e.2.2≠0->kindOf objs e.2.2=e.2.1)
structure FtOk (objs:List Ob)(ft:FT):Prop where
 root:ft.root≠0->kindOf objs ft.root=2
 od:∀ p es,ft.od p=some es->∀ e ∈ es,EntOk objs e
structure WPart (tg:Tags)(w:World)(i p:Nat)(B:WB)(objs:List Ob)(g:WG)(lim:Nat):Prop where
 tree:PTree tg w i p B g.base g.ft.root
 keptF:KeptF tg w i B objs g.fs.kF lim
 keptD:KeptD tg w i B objs g.fs.kD lim
 ownF:OwnF tg w i B g.ft.of lim
 ownD:OwnD tg w i B g.ft.od lim
 files:FilesAt tg w i B g.fl
 held:∀ q f,g.ft.of q=some f->∃ x,g.fl f=some x
 opens:OpensAt tg w i B g.fl g.op
 ok:FtOk objs g.ft
theorem WPart.moves {P:Nat×Nat->Prop}{tg tg':Tags}{w w':World}{i p:Nat}{B:WB}{objs:List Ob}{g:WG}{lim:Nat}(h:WPart tg w i p B objs g lim)(m:Moves P tg tg' w w')(hn:∀ k,¬ P (i,k)):WPart tg' w' i p B objs g lim:=by
 obtain⟨vD,hD⟩:=h.ownD
 exact⟨h.tree.moves m (hn 1),h.keptF.moves m (hn 2),h.keptD.moves m (hn 3),h.ownF.moves m (hn 4),⟨vD,hD.moves m (hn 5)⟩,h.files.moves m (hn 6),h.held,h.opens.moves m (hn 0) (hn 7),h.ok⟩
structure WInv (tg:Tags)(w:World)(s i p:Nat)(B:WB)(objs:List Ob)(g:WG)(lim:Nat):Prop where
 two:2<=i
 st:SInv tg w s p objs g.fs.got g.fs.brk lim
 wp:WPart tg w i p B objs g lim
def Mine (i:Nat)(t:Nat×Nat):Prop:=t.1=1\/t.1=i
theorem WInv.below {tg:Tags}{w w':World}{s i p:Nat}{B:WB}{objs:List Ob}{g:WG}{lim:Nat}(h:WInv tg w s i p B objs g lim)(hb:Below w.heap.size w w'):WInv tg w' s i p B objs g lim:=by
 have m:Moves (fun _=>False) tg tg w w':=Moves.of_below hb
 exact⟨h.two,h.st.moves m id id,h.wp.moves m (fun _=>id)⟩
theorem infoID:(Tryz.prog.info? 29).map (fun i=>(i.zero,i.size,i.bytes))=some (some (.int .i64 0),1,8):=by kernel_rfl
theorem deliver_brk {ft:PTail}(p:Nat)(a:Option Addr)(n cap bf bd:Nat)(id:Int)(w:World)(h:PoolAt ft w p a n cap bf bd)(hb:ft.b=true):
  Calls Tryz.prog 174 #[.pointer (some ⟨p,0,none⟩),.int .i64 id] w fun e w'=>e=.returned (.int .i64 14)/\w'=w.setCell ⟨p,4,none⟩ (.bool false):=by
 have c4:w.cell? ⟨p,4,none⟩=some (.bool true):=by unfold PoolAt at h;simp[World.cell?,h,hb]
 have f4:w.frozen? ⟨p,4,none⟩=false:=by unfold PoolAt at h;simp[World.frozen?,h]
 clear h hb
 go_enter Tryz.func174,Tryz.ntmps174
 go_wp2
 go_ret
 exact⟨rfl,rfl⟩
theorem cells1 (w:World)(c0:Value)(t:TypeId):∀ j u,[c0][j]? = some u->(w.alloc (.cells #[c0] t)).cell? ((⟨w.heap.size,0,none⟩:Addr).add j)=some u:=by
 intro j u h
 match j,h with
 | 0,h=>simpa [Addr.add] using h
 | j+1,h=>simp at h
theorem grown_cell1 {w w1:World}{o1:Obj}{r:Option Nat}(hg:(w.alloc o1).grownBy w1 r){p:Nat}(hp:p<w.heap.size)(hr:some p≠r){v:Value}{i:Nat}(h:w.cell? ⟨p,i,none⟩=some v):w1.cell? ⟨p,i,none⟩=some v:=by
 rw[World.cell?_of_block (a:=⟨p,i,none⟩) (hg.block p (by simp;omega) hr),World.cell?_alloc_past _ _ _ hp,h]
theorem grown_frozen1 {w w1:World}{o1:Obj}{r:Option Nat}(hg:(w.alloc o1).grownBy w1 r){p:Nat}(hp:p<w.heap.size)(hr:some p≠r){i:Nat}(h:w.frozen? ⟨p,i,none⟩=false):w1.frozen? ⟨p,i,none⟩=false:=by
 rw[World.frozen?_of_block (a:=⟨p,i,none⟩) (hg.block p (by simp;omega) hr),World.frozen?_alloc_past _ _ _ hp,h]
theorem deliver_ok (p:Nat)(a:Option Addr)(n c:Nat)(xs:List Value)(id:Int)(w:World)(hp:p<w.heap.size)(c3:w.cell? ⟨p,3,none⟩=some (.slice a n c))(f3:w.frozen? ⟨p,3,none⟩=false)(c4:w.cell? ⟨p,4,none⟩=some (.bool false))
  (hown:w.ownsRow 0 29 1 (.slice a n c) n xs)(hpa:some p≠(Value.slice a n c).ownBlock)(hn:n<1099511627776):
  Calls Tryz.prog 174 #[.pointer (some ⟨p,0,none⟩),.int .i64 id] w fun e w'=>e=.returned (.int .i64 0)/\
   ∃ g cap' w1,w1.ownsRow 0 29 1 (.slice (some ⟨g,0,none⟩) (n+1) cap') (n+1) (xs ++ [.int .i64 id])/\(∃ o1,(w.alloc o1).grownBy w1 (Value.slice a n c).ownBlock/\((some g:Option Nat)=(Value.slice a n c).ownBlock\/g=w.heap.size+1))/\w'=w1.setCell ⟨p,3,none⟩ (.slice (some ⟨g,0,none⟩) (n+1) cap'):=by
 obtain⟨i0,hi,hz0,hz1,hz2⟩:=info_parts infoID
 have HO:Hid (w.ownsRow 0 29 1 (.slice a n c) n xs):=hown
 have HP:Hid (some p≠(Value.slice a n c).ownBlock):=hpa
 clear hown hpa
 go_enter Tryz.func174,Tryz.ntmps174
 go_wp2_with (first | (at_builtin;go_loud (refine wpList_append_own_at _ rfl (.tmp 16) (.tmp 18) 59 rfl 0 29 i0 _ 1 8 Tryz.underlying59 hi hz0 hz1 hz2 rfl (by decide) (.slice a n c) n xs rfl (HO.out.alloc _) ⟨w.heap.size,0,none⟩ 1 1 [.int .i64 id] rfl rfl (cells1 w (.int .i64 id) 29) (by intro u hu;simp at hu;subst hu;rfl) (by unfold maxLen;omega) (by omega) (Nat.zero_le _) ?_;intro v' w1 hown' hgrow _ hloc;obtain⟨g,cap',rfl⟩:=slice_of_owns hown' (by omega);have k1':=grown_cell1 hgrow hp HP.out c3;have k2':=grown_frozen1 hgrow hp HP.out f3)) | go_in)
 go_ret
 exact⟨rfl,g,cap',w1,hown',⟨_,hgrow,by simpa [Value.ownBlock] using hloc⟩,rfl⟩
theorem InvP.tail {ft ft':PTail}{F F':Nat->Prop}{w w':World}{s p:Nat}{objs:List Ob}(h:InvP ft F w s p objs)(hp:∀ a n cap bf bd,PoolAt ft w p a n cap bf bd->PoolAt ft' w' p a n cap bf bd)(hk:∀ k,k<w.heap.size->F k->k≠p->w'.heap[k]? = w.heap[k]?)(hF:∀ k,k<w.heap.size->F k->F' k):InvP ft' F' w' s p objs:=by
 obtain⟨a,cap,bf,bd,Df,Dd,i⟩:=h
 have ls:s<w.heap.size:=(Array.getElem?_eq_some_iff.1 i.hs).1
 have hsp:s≠p:=cells_ne i.hs i.pool.at_ (by decide)
 have hmp:∀ {b:Nat} {es:Array MapEntry} {clock:Nat},w.heap[b]? = some (.map es clock)->b≠p:=fun hb e=>by subst e;have:=i.pool.at_;unfold PoolAt at this;rw[hb] at this;cases this
 obtain⟨e1,c1,hbf⟩:=ownsMap_isMap i.files
 obtain⟨e2,c2,hbd⟩:=ownsMap_isMap i.dirs
 have hrow:∀ v m t k xs,w.ownsRow 0 t k v m xs->t≠185->(∀ g,v.ownBlock=some g->F g)->w'.ownsRow 0 t k v m xs:=fun v m t k xs hr ht hFg=>ownsRow_keep hr (fun g hg=>hk g (ownsRow_lt hr hg) (hFg g hg) (fun e=>by
  subst e
  exact owns_ne_cells hr i.pool.at_ (fun e=>ht e.symm) hg.symm))
 refine⟨a,cap,bf,bd,Df,Dd,⟨hF _ ls i.fs,hF _ i.pool.at_.lt i.fp,hF _ i.files.lt i.ff,hF _ i.dirs.lt i.fd,fun g hg=>hF g (ownsRow_lt i.pool.row hg) (i.fr g hg),(hk s ls i.fs hsp).trans i.hs,⟨hp _ _ _ _ _ i.pool.at_,hrow _ _ _ _ _ i.pool.row (by decide) i.fr,i.pool.len,i.pool.many⟩,i.ne,
  ownsMap_keep i.files (hk _ i.files.lt i.ff (hmp hbf)),i.filesOk,ownsMap_keep i.dirs (hk _ i.dirs.lt i.fd (hmp hbd)),i.dirsOk,fun o ho=>?_⟩⟩
 rcases i.obs o ho with h | ⟨h1,h2,h3,h4,h5,h6,h8,h9⟩
 ·exact .inl h
 ·exact .inr ⟨h1,h2,h3,h4,h5,h6,fun g hg=>hF g (ownsRow_lt h9 hg) (h8 g hg),hrow _ _ _ _ _ h9 (by decide) h8⟩
def Got (t:Nat×Nat):Prop:=t=(1,0)\/t=(1,1)
def Delivered (s p:Nat)(objs:List Ob)(got:List Int)(brk:Bool)(lim:Nat)(id:Int)(tg:Tags)(w:World)(er:Int):Prop:=
 (brk=true/\er=14/\SInv tg w s p objs got false lim)\/(brk=false/\er=0/\SInv tg w s p objs (got ++ [id]) false (lim+1))
theorem deliver_any {tg:Tags}{w:World}{s p:Nat}{objs:List Ob}{got:List Int}{brk:Bool}{lim:Nat}(h:SInv tg w s p objs got brk lim)(hl:lim<1099511627776)(id:Int):
  Calls Tryz.prog 174 #[.pointer (some ⟨p,0,none⟩),.int .i64 id] w fun e w'=>∃ er,e=.returned (.int .i64 er)/\∃ tg',Moves Got tg tg' w w'/\Delivered s p objs got brk lim id tg' w' er:=by
 obtain⟨hfr,ft,hb,hi,hg,hs,hgl⟩:=h
 have hi':=hi
 obtain⟨a,cap,bf,bd,Df,Dd,i⟩:=hi'
 have hat:=i.pool.at_
 have hlt:=hat.lt
 have hpt:tg p=(1,0):=i.fp
 have hpa:some p≠(Value.slice ft.a ft.n ft.c).ownBlock:=owns_ne_cells hg.1 hat (by decide)
 cases brk with
 | true=>
  refine (deliver_brk p a objs.length cap bf bd id w hat hb).mono ?_
  rintro e w' ⟨rfl,rfl⟩
  refine⟨14,rfl,tg,⟨rfl,rfl,rfl,by simp,fun _ _=>rfl,fun k hk hn=>Below.heap_setCell _ _ _ _ (fun e=>hn (by rw[e,hpt];exact .inl rfl)),fun hf k hk=>hf k (by simpa using hk)⟩,.inl ⟨rfl,rfl,fun k hk=>hfr k (by simpa using hk),{ ft with b:=false },rfl,?_,⟨?_,hg.2.1,hg.2.2⟩,hs,hgl⟩⟩
  ·refine hi.tail (fun a' n' cap' bf' bd' h'=>?_) (fun k hk hF hne=>Below.heap_setCell _ _ _ _ hne) (fun k hk hF=>hF)
   unfold PoolAt at h' ⊢
   simp[World.setCell,Array.getElem?_modify,h']
  ·exact ownsRow_keep hg.1 (fun g hgg=>Below.heap_setCell _ _ _ _ (fun e=>hpa (by rw[hgg,e])))
 | false=>
  have c3:w.cell? ⟨p,3,none⟩=some (.slice ft.a ft.n ft.c):=by unfold PoolAt at hat;simp[World.cell?,hat]
  have f3:w.frozen? ⟨p,3,none⟩=false:=by unfold PoolAt at hat;simp[World.frozen?,hat]
  have c4:w.cell? ⟨p,4,none⟩=some (.bool false):=by unfold PoolAt at hat;simp[World.cell?,hat,hb]
  refine (deliver_ok p ft.a ft.n ft.c _ id w hlt c3 f3 c4 hg.1 hpa (by rw[hg.2.1];omega)).mono ?_
  rintro e w' ⟨rfl,g,cap',w1,hown,⟨o1,hgr,hloc⟩,rfl⟩
  have hsz:=hgr.size
  simp at hsz
  have hkeep:∀ k,k<w.heap.size->some k≠(Value.slice ft.a ft.n ft.c).ownBlock->w1.heap[k]? = w.heap[k]?:=fun k hk hne=>by
   rw[hgr.block k (by simp;omega) hne,Below.heap_alloc _ _ _ hk]
  have hgp:g≠p:=by
   rintro rfl
   rcases hloc with h | h
   ·exact hpa h
   ·omega
  have htag:∀ k,tg k=(1,0)->some k≠(Value.slice ft.a ft.n ft.c).ownBlock:=fun k hk e=>by have:=hg.2.2 k e.symm;rw[hk] at this;cases this
  refine⟨0,rfl,fun k=>if k<w.heap.size then tg k else if k<w1.heap.size then (1,1) else (0,0),⟨hgr.os,hgr.tape,hgr.output,by simp;omega,fun k hk=>if_pos hk,fun k hk hn=>?_,fun hf k hk=>?_⟩,.inr ⟨rfl,rfl,fun k hk=>?_,⟨some ⟨g,0,none⟩,ft.n+1,cap',false⟩,rfl,?_,⟨?_,?_,fun g' hg'=>?_⟩,hs,by simp;omega⟩⟩
  ·rw[Below.heap_setCell _ _ _ _ (fun e=>hn (by rw[e,hpt];exact .inl rfl)),hkeep k hk (fun e=>hn (.inr (hg.2.2 k e.symm)))]
  ·have hk':w1.heap.size<=k:=by simpa using hk
   show (if _ then _ else _)=_
   rw[if_neg (by omega),if_neg (by omega)]
  ·have hk':w1.heap.size<=k:=by simpa using hk
   show (if _ then _ else _)=_
   rw[if_neg (by omega),if_neg (by omega)]
  ·refine hi.tail (fun a' n' cap'' bf' bd' h'=>?_) (fun k hk hF hne=>?_) (fun k hk hF=>by show (if _ then _ else _)=_;rw[if_pos hk];exact hF)
   ·have hp1:w1.heap[p]? = w.heap[p]?:=hkeep p hlt hpa
    unfold PoolAt at h' ⊢
    simp[World.setCell,Array.getElem?_modify,hp1,h',hb]
   ·rw[Below.heap_setCell _ _ _ _ hne,hkeep k hk (htag k hF)]
  ·rw[List.map_append]
   exact ownsRow_keep hown (fun g' hg'=>by cases hg';exact Below.heap_setCell _ _ _ _ hgp)
  ·simp[hg.2.1]
  ·obtain rfl:g=g':=by simpa [Value.ownBlock] using hg'
   show (if _ then _ else _)=_
   rcases hloc with h | h
   ·rw[if_pos (ownsRow_lt hg.1 h.symm)];exact hg.2.2 g h.symm
   ·rw[if_neg (by omega),if_pos (by have:=ownsRow_lt hown rfl;omega)]
theorem bytesOf_in {objs:List Ob}{j:Nat}(hj:j<objs.length):bytesOf objs ((j:Int)+1)=objs[j].data:=by
 unfold bytesOf
 rw[show ((j:Int)+1-1).toNat=j by omega,List.getElem?_eq_getElem hj];rfl
theorem entsOf_in {objs:List Ob}{j:Nat}(hj:j<objs.length):entsOf objs ((j:Int)+1)=objs[j].ents:=by
 unfold entsOf
 rw[show ((j:Int)+1-1).toNat=j by omega,List.getElem?_eq_getElem hj];rfl
section
variable {tg:Tags}{w:World}{s p:Nat}{objs:List Ob}{got:List Int}{brk:Bool}{lim:Nat}
theorem SInv.file (h:SInv tg w s p objs got brk lim){id:Int}(hk:kindOf objs id=1):
  Calls Tryz.prog 84 #[.pointer (some ⟨p,0,none⟩),.int .i64 id] w fun e w'=>e=.returned (.tuple #[.string (bytesOf objs id),.int .i64 0])/\Below w.heap.size w w':=by
 obtain⟨_,ft,_,⟨a,cap,bf,bd,Df,Dd,i⟩,_⟩:=h
 refine (file_any p a objs.length cap bf bd objs id w i.pool).mono ?_
 rintro e w' ⟨hb,⟨hn,_⟩ | ⟨j,hj,rfl,_,he⟩⟩
 ·exact absurd hk hn
 ·rw[bytesOf_in hj];exact⟨he,hb⟩
theorem SInv.dir (h:SInv tg w s p objs got brk lim){id:Int}(hk:kindOf objs id=2):
  Calls Tryz.prog 85 #[.pointer (some ⟨p,0,none⟩),.int .i64 id] w fun e w'=>∃ g,e=.returned (.tuple #[.slice (some ⟨g,0,none⟩) (entsOf objs id).length (entsOf objs id).length,.int .i64 0])/\w'.ownsRow w.heap.size 96 3 (.slice (some ⟨g,0,none⟩) (entsOf objs id).length (entsOf objs id).length) (entsOf objs id).length (flat (entsOf objs id))/\Below w.heap.size w w':=by
 obtain⟨_,ft,_,⟨a,cap,bf,bd,Df,Dd,i⟩,_⟩:=h
 refine (poolGetDir i id).mono ?_
 rintro e w' ⟨⟨hn,_⟩ | ⟨j,hj,rfl,_,g,he,hr⟩,hb⟩
 ·exact absurd hk hn
 ·rw[entsOf_in hj];exact⟨g,he,hr,hb⟩
theorem fetchFile_any (h:SInv tg w s p objs got brk lim)(hl:lim<1099511627776){id:Int}(hk:kindOf objs id=1):
  Calls Tryz.prog 115 #[.pointer (some ⟨p,0,none⟩),.int .i64 id] w fun e w'=>∃ er,e=.returned (.tuple #[.string (if er=0 then bytesOf objs id else ⟨#[]⟩),.int .i64 er])/\∃ tg',Moves Got tg tg' w w'/\Delivered s p objs got brk lim id tg' w' er:=by
 have hcon:=deliver_any h hl id
 clear h hl
 cases brk with
 | true=>
  have hcon':Calls Tryz.prog 174 #[.pointer (some ⟨p,0,none⟩),.int .i64 id] w fun e w'=>e=.returned (.int .i64 14)/\∃ tg',Moves Got tg tg' w w'/\Delivered s p objs got true lim id tg' w' 14:=hcon.mono (fun e w' ⟨er,he,tg',m,hD⟩=>by
   have h14:er=14:=by rcases hD with ⟨_,h,_⟩ | ⟨h,_⟩;exact h;cases h
   subst h14;exact⟨he,tg',m,hD⟩)
  clear hcon
  go_enter Tryz.func115,Tryz.ntmps115
  go_wp2_with (go_at_call 174;refine hcon'.mono ?_;rintro e w1 ⟨rfl,hrest⟩;have HR:Hid _:=hrest;clear hrest)
  go_ret2
  exact⟨14,rfl,HR.out⟩
 | false=>
  have hcon':Calls Tryz.prog 174 #[.pointer (some ⟨p,0,none⟩),.int .i64 id] w fun e w'=>e=.returned (.int .i64 0)/\∃ tg',Moves Got tg tg' w w'/\SInv tg' w' s p objs (got ++ [id]) false (lim+1):=hcon.mono (fun e w' ⟨er,he,tg',m,hD⟩=>by
   rcases hD with ⟨h,_⟩ | ⟨_,rfl,hS⟩
   ·cases h
   ·exact⟨he,tg',m,hS⟩)
  clear hcon
  go_enter Tryz.func115,Tryz.ntmps115
  go_wp2_with (first
   | (go_at_call 174;refine hcon'.mono ?_;rintro e w1 ⟨rfl,tg1,m1,hS⟩;have HM:Hid _:=m1;have HS:Hid _:=hS;clear m1 hS)
   | (go_at_call 84;refine (SInv.file HS.out hk).mono ?_;rintro e w2 ⟨rfl,hb⟩))
  go_ret2
  exact⟨0,by rw[if_pos rfl];rfl,tg1,HM.out.trans (Moves.of_below hb),.inr ⟨rfl,rfl,HS.out.moves (P:=fun _=>False) (Moves.of_below hb) (fun x=>x) (fun x=>x)⟩⟩
theorem fetchDir_any (h:SInv tg w s p objs got brk lim)(hl:lim<1099511627776){id:Int}(hk:kindOf objs id=2):
  Calls Tryz.prog 117 #[.pointer (some ⟨p,0,none⟩),.int .i64 id] w fun e w'=>∃ er v,e=.returned (.tuple #[v,.int .i64 er])/\(er≠0->v=.slice none 0 0)/\∃ tg',Moves Got tg tg' w w'/\Delivered s p objs got brk lim id tg' w' er/\
   (er=0->∃ g,v=.slice (some ⟨g,0,none⟩) (entsOf objs id).length (entsOf objs id).length/\w.heap.size<=g/\tg' g=(0,0)/\w'.ownsRow 0 96 3 v (entsOf objs id).length (flat (entsOf objs id))):=by
 have hcon:=deliver_any h hl id
 clear h hl
 cases brk with
 | true=>
  have hcon':Calls Tryz.prog 174 #[.pointer (some ⟨p,0,none⟩),.int .i64 id] w fun e w'=>e=.returned (.int .i64 14)/\∃ tg',Moves Got tg tg' w w'/\Delivered s p objs got true lim id tg' w' 14:=hcon.mono (fun e w' ⟨er,he,tg',m,hD⟩=>by
   have h14:er=14:=by rcases hD with ⟨_,h,_⟩ | ⟨h,_⟩;exact h;cases h
   subst h14;exact⟨he,tg',m,hD⟩)
  clear hcon
  go_enter Tryz.func117,Tryz.ntmps117
  go_wp2_with (go_at_call 174;refine hcon'.mono ?_;rintro e w1 ⟨rfl,hrest⟩;have HR:Hid _:=hrest;clear hrest)
  go_ret2
  obtain⟨tg',m,hD⟩:=HR.out
  exact⟨14,_,rfl,fun _=>rfl,tg',m,hD,fun h=>by cases h⟩
 | false=>
  have hcon':Calls Tryz.prog 174 #[.pointer (some ⟨p,0,none⟩),.int .i64 id] w fun e w'=>e=.returned (.int .i64 0)/\∃ tg',Moves Got tg tg' w w'/\SInv tg' w' s p objs (got ++ [id]) false (lim+1):=hcon.mono (fun e w' ⟨er,he,tg',m,hD⟩=>by
   rcases hD with ⟨h,_⟩ | ⟨_,rfl,hS⟩
   ·cases h
   ·exact⟨he,tg',m,hS⟩)
  clear hcon
  go_enter Tryz.func117,Tryz.ntmps117
  go_wp2_with (first
   | (go_at_call 174;refine hcon'.mono ?_;rintro e w1 ⟨rfl,tg1,m1,hS⟩;have HM:Hid _:=m1;have HS:Hid _:=hS;clear m1 hS)
   | (go_at_call 85;refine (SInv.dir HS.out hk).mono ?_;rintro e w2 ⟨g,rfl,hrow,hb⟩;have HR:Hid _:=hrow;clear hrow))
  go_ret2
  have hS:=HS.out
  have hge:w1.heap.size<=g:=by
   rcases HR.out.2 with ⟨h,_⟩ | ⟨g',_,_,hv,hb',_⟩
   ·cases h
   ·cases hv;exact hb'
  refine⟨0,_,rfl,fun h=>absurd rfl h,tg1,HM.out.trans (Moves.of_below hb),.inr ⟨rfl,rfl,HS.out.moves (P:=fun _=>False) (Moves.of_below hb) (fun x=>x) (fun x=>x)⟩,fun _=>⟨g,rfl,Nat.le_trans HM.out.size hge,hS.fresh g hge,?_⟩⟩
  exact row_base0 HR.out
end
theorem lawID:Maps.Keyed Tryz.prog 29:=Maps.int_keyed Tryz.underlying29
theorem keyID {id:Int}(h:(Lit.int .i64 id).wf=true):keyOf Tryz.prog 29 (.int .i64 id)=some (idL id):=by
 simp[keyOf,Tryz.underlying29,mapKey,h,idL]
theorem zeroEs (w:World):(zeroValue 55).run Tryz.prog w=.ok (.slice none 0 0) w:=by kernel_rfl
theorem getF_hit (b m p n:Nat)(M:Lit->Option Value)(id:Int)(d:ByteArray)(w:World)(c1:w.cell? ⟨b,1,none⟩=some (.map (some m)))(hV:VMap w 29 m n M)(hw:(Lit.int .i64 id).wf=true)(hM:M (idL id)=some (.string d)):
  Calls Tryz.prog 213 #[.pointer (some ⟨b,0,none⟩),.int .i64 id] w fun e w'=>e=.returned (.tuple #[.string d,.int .i64 0])/\w'=w:=by
 have hlk:=hV.look_ok lawID Tryz.underlying265 (zeroStr w) (keyID hw)
 rw[hM] at hlk
 clear hV hM
 go_enter Tryz.func213,Tryz.ntmps213
 go_wp2_with (simp only[hlk])
 go_ret2
 exact⟨rfl,rfl⟩
theorem getF_fail (b m p n:Nat)(M:Lit->Option Value)(id:Int)(R:World->Prop)(w:World)(c0:w.cell? ⟨b,0,none⟩=some (.func (.func 115) #[ptr p] #[]))(c1:w.cell? ⟨b,1,none⟩=some (.map (some m)))(hV:VMap w 29 m n M)(hw:(Lit.int .i64 id).wf=true)(hM:M (idL id)=none)
  (hcall:Calls Tryz.prog 115 #[.pointer (some ⟨p,0,none⟩),.int .i64 id] w fun e w1=>e=.returned (.tuple #[.string ⟨#[]⟩,.int .i64 14])/\R w1):
  Calls Tryz.prog 213 #[.pointer (some ⟨b,0,none⟩),.int .i64 id] w fun e w'=>e=.returned (.tuple #[.string ⟨#[]⟩,.int .i64 14])/\R w':=by
 have hlk:=hV.look_ok lawID Tryz.underlying265 (zeroStr w) (keyID hw)
 rw[hM] at hlk
 unfold ptr at c0
 clear hV hM
 go_enter Tryz.func213,Tryz.ntmps213
 go_wp2_with (first | (go_at_call 115;refine hcall.mono ?_;rintro e w1 ⟨rfl,hR⟩))
 go_ret2
 exact⟨rfl,hR⟩
theorem getF_new (b m p n:Nat)(M:Lit->Option Value)(id:Int)(R:ByteArray->World->Prop)(w:World)(c0:w.cell? ⟨b,0,none⟩=some (.func (.func 115) #[ptr p] #[]))(c1:w.cell? ⟨b,1,none⟩=some (.map (some m)))(hV:VMap w 29 m n M)(hw:(Lit.int .i64 id).wf=true)(hM:M (idL id)=none)(hn:n<maxLen)
  (hcall:Calls Tryz.prog 115 #[.pointer (some ⟨p,0,none⟩),.int .i64 id] w fun e w1=>∃ d:ByteArray,e=.returned (.tuple #[.string d,.int .i64 0])/\R d w1)
  (hR:∀ d w1,R d w1->w1.cell? ⟨b,1,none⟩=some (.map (some m))/\VMap w1 29 m n M):
  Calls Tryz.prog 213 #[.pointer (some ⟨b,0,none⟩),.int .i64 id] w fun e w'=>∃ d:ByteArray,e=.returned (.tuple #[.string d,.int .i64 0])/\∃ w1,R d w1/\VMap w' 29 m (n+1) (mset M (idL id) (some (.string d)))/\w1.grownBy w' (some m)/\w'.heap.size=w1.heap.size:=by
 have hlk:=hV.look_ok lawID Tryz.underlying265 (zeroStr w) (keyID hw)
 rw[hM] at hlk
 unfold ptr at c0
 clear hV hM
 go_enter Tryz.func213,Tryz.ntmps213
 go_wp2_with (first | (go_at_call 115;refine hcall.mono ?_;rintro e w1 ⟨d,rfl,hR1⟩;obtain⟨c1',hV1⟩:=hR _ _ hR1;obtain⟨w2,hst,hV2,hg2,hs2⟩:=hV1.store lawID Tryz.underlying265 hn (keyID hw) (val:=.string d);have HV:Hid _:=hV2;have HG:Hid _:=hg2;have HS:Hid _:=hs2;have HR:Hid _:=hR1;clear hV1 hV2 hg2 hs2 hR1))
 go_ret2
 exact⟨d,rfl,w1,HR.out,HV.out,HG.out,HS.out⟩
theorem getD_hit (b m p n:Nat)(M:Lit->Option Value)(id:Int)(la:Option Addr)(ln lc:Nat)(w:World)(c1:w.cell? ⟨b,1,none⟩=some (.map (some m)))(hV:VMap w 29 m n M)(hw:(Lit.int .i64 id).wf=true)(hM:M (idL id)=some (.slice la ln lc)):
  Calls Tryz.prog 217 #[.pointer (some ⟨b,0,none⟩),.int .i64 id] w fun e w'=>e=.returned (.tuple #[.slice la ln lc,.int .i64 0])/\w'=w:=by
 have hlk:=hV.look_ok lawID Tryz.underlying269 (zeroEs w) (keyID hw)
 rw[hM] at hlk
 clear hV hM
 go_enter Tryz.func217,Tryz.ntmps217
 go_wp2_with (simp only[hlk])
 go_ret2
 exact⟨rfl,rfl⟩
theorem getD_fail (b m p n:Nat)(M:Lit->Option Value)(id:Int)(R:World->Prop)(w:World)(c0:w.cell? ⟨b,0,none⟩=some (.func (.func 117) #[ptr p] #[]))(c1:w.cell? ⟨b,1,none⟩=some (.map (some m)))(hV:VMap w 29 m n M)(hw:(Lit.int .i64 id).wf=true)(hM:M (idL id)=none)
  (hcall:Calls Tryz.prog 117 #[.pointer (some ⟨p,0,none⟩),.int .i64 id] w fun e w1=>e=.returned (.tuple #[.slice none 0 0,.int .i64 14])/\R w1):
  Calls Tryz.prog 217 #[.pointer (some ⟨b,0,none⟩),.int .i64 id] w fun e w'=>e=.returned (.tuple #[.slice none 0 0,.int .i64 14])/\R w':=by
 have hlk:=hV.look_ok lawID Tryz.underlying269 (zeroEs w) (keyID hw)
 rw[hM] at hlk
 unfold ptr at c0
 clear hV hM
 go_enter Tryz.func217,Tryz.ntmps217
 go_wp2_with (first | (go_at_call 117;refine hcall.mono ?_;rintro e w1 ⟨rfl,hR⟩))
 go_ret2
 exact⟨rfl,hR⟩
theorem getD_new (b m p n:Nat)(M:Lit->Option Value)(id:Int)(R:Option Addr->Nat->Nat->World->Prop)(w:World)(c0:w.cell? ⟨b,0,none⟩=some (.func (.func 117) #[ptr p] #[]))(c1:w.cell? ⟨b,1,none⟩=some (.map (some m)))(hV:VMap w 29 m n M)(hw:(Lit.int .i64 id).wf=true)(hM:M (idL id)=none)(hn:n<maxLen)
  (hcall:Calls Tryz.prog 117 #[.pointer (some ⟨p,0,none⟩),.int .i64 id] w fun e w1=>∃ la ln lc,e=.returned (.tuple #[.slice la ln lc,.int .i64 0])/\R la ln lc w1)
  (hR:∀ la ln lc w1,R la ln lc w1->w1.cell? ⟨b,1,none⟩=some (.map (some m))/\VMap w1 29 m n M):
  Calls Tryz.prog 217 #[.pointer (some ⟨b,0,none⟩),.int .i64 id] w fun e w'=>∃ la ln lc,e=.returned (.tuple #[.slice la ln lc,.int .i64 0])/\∃ w1,R la ln lc w1/\VMap w' 29 m (n+1) (mset M (idL id) (some (.slice la ln lc)))/\w1.grownBy w' (some m)/\w'.heap.size=w1.heap.size:=by
 have hlk:=hV.look_ok lawID Tryz.underlying269 (zeroEs w) (keyID hw)
 rw[hM] at hlk
 unfold ptr at c0
 clear hV hM
 go_enter Tryz.func217,Tryz.ntmps217
 go_wp2_with (first | (go_at_call 117;refine hcall.mono ?_;rintro e w1 ⟨la,ln,lc,rfl,hR1⟩;obtain⟨c1',hV1⟩:=hR _ _ _ _ hR1;obtain⟨w2,hst,hV2,hg2,hs2⟩:=hV1.store lawID Tryz.underlying269 hn (keyID hw) (val:=.slice la ln lc);have HV:Hid _:=hV2;have HG:Hid _:=hg2;have HS:Hid _:=hs2;have HR:Hid _:=hR1;clear hV1 hV2 hg2 hs2 hR1))
 go_ret2
 exact⟨la,ln,lc,rfl,w1,HR.out,HV.out,HG.out,HS.out⟩
theorem kind_in {objs:List Ob}{id:Int}(h:kindOf objs id≠0):1<=id/\id<=objs.length:=by
 refine⟨kind_id rfl h,?_⟩
 by_cases h2:id<=objs.length
 ·exact h2
 ·exact absurd (kindOf_out (.inr (by omega))) h
theorem SInv.many {tg:Tags}{w:World}{s p:Nat}{objs:List Ob}{got:List Int}{brk:Bool}{lim:Nat}(h:SInv tg w s p objs got brk lim):objs.length<=400:=by
 obtain⟨_,ft,_,⟨a,cap,bf,bd,Df,Dd,i⟩,_⟩:=h
 exact i.pool.many
theorem SInv.wf {tg:Tags}{w:World}{s p:Nat}{objs:List Ob}{got:List Int}{brk:Bool}{lim:Nat}(h:SInv tg w s p objs got brk lim){id:Int}(hk:kindOf objs id≠0):(Lit.int .i64 id).wf=true:=by
 have h1:=kind_in hk
 have h2:=h.many
 exact WalkArith.wf_i64 (by omega)
theorem KeptF.mono {tg:Tags}{w:World}{i:Nat}{B:WB}{objs:List Ob}{kF:Int->Bool}{lim lim':Nat}(h:KeptF tg w i B objs kF lim)(hl:lim<=lim'):KeptF tg w i B objs kF lim':=by
 obtain⟨ht,n,M,hn,r⟩:=h
 exact⟨ht,n,M,Nat.le_trans hn hl,r⟩
theorem KeptD.mono {tg:Tags}{w:World}{i:Nat}{B:WB}{objs:List Ob}{kD:Int->Bool}{lim lim':Nat}(h:KeptD tg w i B objs kD lim)(hl:lim<=lim'):KeptD tg w i B objs kD lim':=by
 obtain⟨ht,n,M,vK,hn,r⟩:=h
 exact⟨ht,n,M,vK,Nat.le_trans hn hl,r⟩
theorem OwnF.mono {tg:Tags}{w:World}{i:Nat}{B:WB}{of:List ByteArray->Option Nat}{lim lim':Nat}(h:OwnF tg w i B of lim)(hl:lim<=lim'):OwnF tg w i B of lim':=by
 obtain⟨ht,⟨n,hn,r⟩,hg⟩:=h
 exact⟨ht,⟨n,Nat.le_trans hn hl,r⟩,hg⟩
theorem OwnDV.mono {tg:Tags}{w:World}{i:Nat}{B:WB}{od:List ByteArray->Option (List Ent)}{lim lim':Nat}{vD:List ByteArray->Value}(h:OwnDV tg w i B od lim vD)(hl:lim<=lim'):OwnDV tg w i B od lim' vD:=by
 obtain⟨ht,⟨n,hn,r⟩,r1,r2,r3⟩:=h
 exact⟨ht,⟨n,Nat.le_trans hn hl,r⟩,r1,r2,r3⟩
theorem WPart.mono {tg:Tags}{w:World}{i p:Nat}{B:WB}{objs:List Ob}{g:WG}{lim lim':Nat}(h:WPart tg w i p B objs g lim)(hl:lim<=lim'):WPart tg w i p B objs g lim':=by
 obtain⟨vD,hD⟩:=h.ownD
 exact⟨h.tree,h.keptF.mono hl,h.keptD.mono hl,h.ownF.mono hl,⟨vD,hD.mono hl⟩,h.files,h.held,h.opens,h.ok⟩
theorem WInv.mono {tg:Tags}{w:World}{s i p:Nat}{B:WB}{objs:List Ob}{g:WG}{lim lim':Nat}(h:WInv tg w s i p B objs g lim)(hl:lim<=lim'):WInv tg w s i p B objs g lim':=⟨h.two,h.st.mono hl,h.wp.mono hl⟩
theorem WPart.fs {P:Nat×Nat->Prop}{tg tg':Tags}{w w':World}{i p:Nat}{B:WB}{objs:List Ob}{g:WG}{lim lim':Nat}{fs':FS}(h:WPart tg w i p B objs g lim)(m:Moves P tg tg' w w')(hn:∀ k,k≠2->k≠3->¬ P (i,k))(hl:lim<=lim')
  (hF:KeptF tg' w' i B objs fs'.kF lim')(hD:KeptD tg' w' i B objs fs'.kD lim'):WPart tg' w' i p B objs { g with fs:=fs' } lim':=by
 obtain⟨vD,oD⟩:=h.ownD
 exact⟨h.tree.moves m (hn 1 (by decide) (by decide)),hF,hD,(h.ownF.moves m (hn 4 (by decide) (by decide))).mono hl,⟨vD,(oD.moves m (hn 5 (by decide) (by decide))).mono hl⟩,h.files.moves m (hn 6 (by decide) (by decide)),h.held,h.opens.moves m (hn 0 (by decide) (by decide)) (hn 7 (by decide) (by decide)),h.ok⟩
theorem got_not {i:Nat}(hi:2<=i)(k:Nat):¬ Got (i,k):=by
 rintro (h | h)
 ·cases h;omega
 ·cases h;omega
def Fetches (i:Nat)(t:Nat×Nat):Prop:=t.1=1\/t=(i,2)\/t=(i,3)
theorem Fetches.mine {i:Nat}{t:Nat×Nat}(h:Fetches i t):Mine i t:=by
 rcases h with h | h | h
 ·exact .inl h
 ·rw[h];exact .inr rfl
 ·rw[h];exact .inr rfl
theorem got_fetch {i:Nat}{t:Nat×Nat}(h:Got t):Fetches i t:=by
 rcases h with rfl | rfl
 ·exact .inl rfl
 ·exact .inl rfl
theorem moves_grown {P:Nat×Nat->Prop}{tg:Tags}{w w':World}{b:Nat}(hg:w.grownBy w' (some b))(hs:w'.heap.size=w.heap.size)(hP:P (tg b)):Moves P tg tg w w':=
 ⟨hg.os,hg.tape,hg.output,hg.size,fun _ _=>rfl,fun k hk hn=>hg.block k hk (fun e=>hn (by cases e;exact hP)),fun hf k hk=>hf k (by omega)⟩
section
variable {tg:Tags}{w:World}{s i p:Nat}{B:WB}{objs:List Ob}{g:WG}{lim:Nat}
theorem shelfF (h:WInv tg w s i p B objs g lim)(hl:lim<1099511627776){id:Int}(hk:kindOf objs id=1):
  Calls Tryz.prog 213 #[.pointer (some ⟨B.sF,0,none⟩),.int .i64 id] w fun e w'=>
   e=.returned (.tuple #[.string (if (g.fs.fileG id).2 then bytesOf objs id else ⟨#[]⟩),.int .i64 (if (g.fs.fileG id).2 then 0 else 14)])/\∃ tg',Moves (Fetches i) tg tg' w w'/\WInv tg' w' s i p B objs { g with fs:=(g.fs.fileG id).1 } (lim+1):=by
 have hwf:=h.st.wf (id:=id) (by rw[hk];decide)
 obtain⟨htF,n,M,hn,hV,hM,hK⟩:=h.wp.keptF
 have c0:w.cell? ⟨B.sF,0,none⟩=some (.func (.func 115) #[ptr p] #[]):=by simp[World.cell?,h.wp.tree.hF]
 have c1:w.cell? ⟨B.sF,1,none⟩=some (.map (some B.mF)):=by simp[World.cell?,h.wp.tree.hF]
 by_cases hin:g.fs.kF id=true
 ·have hG:g.fs.fileG id=(g.fs,true):=by unfold FS.fileG;rw[if_pos hin]
  rw[hG]
  refine (getF_hit B.sF B.mF p n M id (bytesOf objs id) w c1 hV hwf (by rw[hM,if_pos hin])).mono ?_
  rintro e w' ⟨rfl,rfl⟩
  exact⟨rfl,tg,Moves.refl _ _ _,h.mono (Nat.le_succ _)⟩
 ·have hM0:M (idL id)=none:=by rw[hM,if_neg hin]
  cases hb:g.fs.brk with
  | true=>
   have hG:g.fs.fileG id=({ g.fs with brk:=false },false):=by unfold FS.fileG;rw[if_neg hin,if_pos hb]
   rw[hG]
   refine (getF_fail B.sF B.mF p n M id (fun w'=>∃ tg',Moves Got tg tg' w w'/\SInv tg' w' s p objs g.fs.got false lim) w c0 c1 hV hwf hM0 ((fetchFile_any h.st hl hk).mono ?_)).mono ?_
   ·rintro e w' ⟨er,rfl,tg',m,⟨_,rfl,hS⟩ | ⟨hc,_⟩⟩
    ·exact⟨rfl,tg',m,hS⟩
    ·rw[hb] at hc;cases hc
   ·rintro e w' ⟨rfl,tg',m,hS⟩
    exact⟨rfl,tg',m.mono (fun t ht=>got_fetch ht),h.two,hS.mono (Nat.le_succ _),h.wp.fs m (fun k _ _=>got_not h.two k) (Nat.le_succ _) ((h.wp.keptF.moves m (got_not h.two 2)).mono (Nat.le_succ _)) ((h.wp.keptD.moves m (got_not h.two 3)).mono (Nat.le_succ _))⟩
  | false=>
   have hG:g.fs.fileG id=({ g.fs with got:=g.fs.got ++ [id],kF:=fun x=>decide (x=id) || g.fs.kF x },true):=by unfold FS.fileG;rw[if_neg hin,if_neg (by rw[hb];decide)]
   rw[hG]
   refine (getF_new B.sF B.mF p n M id (fun d w'=>d=bytesOf objs id/\∃ tg',Moves Got tg tg' w w'/\SInv tg' w' s p objs (g.fs.got ++ [id]) false (lim+1)) w c0 c1 hV hwf hM0 (by unfold maxLen;omega) ((fetchFile_any h.st hl hk).mono ?_) ?_).mono ?_
   ·rintro e w' ⟨er,rfl,tg',m,⟨hc,_⟩ | ⟨_,rfl,hS⟩⟩
    ·rw[hb] at hc;cases hc
    ·exact⟨bytesOf objs id,rfl,rfl,tg',m,hS⟩
   ·rintro d w1 ⟨_,tg',m,hS⟩
    have ht:=h.wp.tree.moves m (got_not h.two 1)
    exact⟨by simp[World.cell?,ht.hF],(hV.moves m htF (got_not h.two 2)).1⟩
   ·rintro e w' ⟨d,rfl,w1,⟨rfl,tg',m,hS⟩,hV2,hg2,hs2⟩
    have ht2:=(hV.moves m htF (got_not h.two 2)).2
    have m2:Moves (fun t=>t=(i,2)) tg' tg' w1 w':=moves_grown hg2 hs2 ht2
    have m3:Moves (fun t=>Got t\/t=(i,2)) tg tg' w w':=(m.mono (fun t ht=>.inl ht)).trans (m2.mono (fun t ht=>.inr ht))
    have hi:=h.two
    refine⟨rfl,tg',m3.mono (fun t ht=>ht.elim got_fetch (fun e=>.inr (.inl e))),h.two,?_,h.wp.fs m3 (fun k h2 _=>?_) (Nat.le_succ _) ?_ ?_⟩
    ·rw[show ({ g.fs with got:=g.fs.got ++ [id],kF:=fun x=>decide (x=id) || g.fs.kF x }:FS).brk=false from hb]
     exact hS.moves m2 (fun e=>by cases e) (fun e=>by cases e)
    ·rintro (h | h)
     ·exact got_not hi k h
     ·cases h;exact h2 rfl
    ·refine⟨ht2,n+1,_,by omega,hV2,fun x=>?_,fun x hx=>?_⟩
     ·by_cases hx:x=id
      ·subst hx;rw[mset_same];simp
      ·rw[mset_other (fun e=>hx (by injection e)),hM x];simp[hx]
     ·by_cases hxe:x=id
      ·rw[hxe];exact hk
      ·exact hK x (by simpa [hxe] using hx)
    ·exact (h.wp.keptD.moves m3 (by rintro (h | h);exact got_not hi 3 h;cases h)).mono (Nat.le_succ _)
theorem shelfD9 (h:WInv tg w s i p B objs g lim)(hl:lim<1099511627776){id:Int}(hk:kindOf objs id=2):
  Calls Tryz.prog 217 #[.pointer (some ⟨B.sD,0,none⟩),.int .i64 id] w fun e w'=>
   ∃ v,e=.returned (.tuple #[v,.int .i64 (if (g.fs.dirG id).2 then 0 else 14)])/\∃ tg',Moves (Fetches i) tg tg' w w'/\WInv tg' w' s i p B objs { g with fs:=(g.fs.dirG id).1 } (lim+1)/\
    (if (g.fs.dirG id).2 then RowT tg' w' (i,3) v (entsOf objs id) else v=.slice none 0 0)/\∀ v es k,(k=3\/k=5)->RowT tg w (i,k) v es->RowT tg' w' (i,k) v es:=by
 have hwf:=h.st.wf (id:=id) (by rw[hk];decide)
 obtain⟨htD,n,M,vK,hn,hV,hM,hK⟩:=h.wp.keptD
 have c0:w.cell? ⟨B.sD,0,none⟩=some (.func (.func 117) #[ptr p] #[]):=by simp[World.cell?,h.wp.tree.hD]
 have c1:w.cell? ⟨B.sD,1,none⟩=some (.map (some B.mD)):=by simp[World.cell?,h.wp.tree.hD]
 by_cases hin:g.fs.kD id=true
 ·have hG:g.fs.dirG id=(g.fs,true):=by unfold FS.dirG;rw[if_pos hin]
  rw[hG]
  have hrow:=(hK id hin).2
  obtain⟨la,ln,lc,hv⟩:∃ la ln lc,vK id=.slice la ln lc:=by
   rcases hrow.1.2 with ⟨e,_⟩ | ⟨g',c',_,e,_⟩
   ·exact⟨_,_,_,e⟩
   ·exact⟨_,_,_,e⟩
  refine (getD_hit B.sD B.mD p n M id la ln lc w c1 hV hwf (by rw[hM,if_pos hin,hv])).mono ?_
  rintro e w' ⟨rfl,rfl⟩
  exact⟨_,rfl,tg,Moves.refl _ _ _,h.mono (Nat.le_succ _),by rw[if_pos rfl,<- hv];exact hrow,fun _ _ _ _ h=>h⟩
 ·have hM0:M (idL id)=none:=by rw[hM,if_neg hin]
  cases hb:g.fs.brk with
  | true=>
   have hG:g.fs.dirG id=({ g.fs with brk:=false },false):=by unfold FS.dirG;rw[if_neg hin,if_pos hb]
   rw[hG]
   refine (getD_fail B.sD B.mD p n M id (fun w'=>∃ tg',Moves Got tg tg' w w'/\SInv tg' w' s p objs g.fs.got false lim) w c0 c1 hV hwf hM0 ((fetchDir_any h.st hl hk).mono ?_)).mono ?_
   ·rintro e w' ⟨er,v,rfl,hv,tg',m,⟨_,rfl,hS⟩ | ⟨hc,_⟩,_⟩
    ·rw[hv (by decide)];exact⟨rfl,tg',m,hS⟩
    ·rw[hb] at hc;cases hc
   ·rintro e w' ⟨rfl,tg',m,hS⟩
    exact⟨_,rfl,tg',m.mono (fun t ht=>got_fetch ht),⟨h.two,hS.mono (Nat.le_succ _),h.wp.fs m (fun k _ _=>got_not h.two k) (Nat.le_succ _) ((h.wp.keptF.moves m (got_not h.two 2)).mono (Nat.le_succ _)) ((h.wp.keptD.moves m (got_not h.two 3)).mono (Nat.le_succ _))⟩,rfl,fun _ _ k _ hr=>hr.moves m (got_not h.two k)⟩
  | false=>
   have hG:g.fs.dirG id=({ g.fs with got:=g.fs.got ++ [id],kD:=fun x=>decide (x=id) || g.fs.kD x },true):=by unfold FS.dirG;rw[if_neg hin,if_neg (by rw[hb];decide)]
   rw[hG]
   refine (getD_new B.sD B.mD p n M id (fun la ln lc w'=>∃ gb,Value.slice la ln lc=.slice (some ⟨gb,0,none⟩) (entsOf objs id).length (entsOf objs id).length/\w.heap.size<=gb/\w'.ownsRow 0 96 3 (.slice la ln lc) (entsOf objs id).length (flat (entsOf objs id))/\∃ tg',tg' gb=(0,0)/\Moves Got tg tg' w w'/\SInv tg' w' s p objs (g.fs.got ++ [id]) false (lim+1)) w c0 c1 hV hwf hM0 (by unfold maxLen;omega) ((fetchDir_any h.st hl hk).mono ?_) ?_).mono ?_
   ·rintro e w' ⟨er,v,rfl,_,tg',m,⟨hc,_⟩ | ⟨_,rfl,hS⟩,hr⟩
    ·rw[hb] at hc;cases hc
    ·obtain⟨gb,rfl,hge,ht0,hrow⟩:=hr rfl
     exact⟨_,_,_,rfl,gb,rfl,hge,hrow,tg',ht0,m,hS⟩
   ·rintro la ln lc w1 ⟨_,_,_,_,tg',_,m,hS⟩
    have ht:=h.wp.tree.moves m (got_not h.two 1)
    exact⟨by simp[World.cell?,ht.hD],(hV.moves m htD (got_not h.two 3)).1⟩
   ·rintro e w' ⟨la,ln,lc,rfl,w1,⟨gb,hveq,hge,hrow,tg1,ht0,m,hS⟩,hV2,hg2,hs2⟩
    have ht2:=(hV.moves m htD (got_not h.two 3)).2
    have hi:=h.two
    have hgl:gb<w1.heap.size:=ownsRow_lt hrow (by rw[hveq];rfl)
    -- the new row is the workspace's
    have hfr1:Fresh (tagAt tg1 gb (i,3)) w1:=fun k hk=>by rw[tagAt_other (by omega)];exact hS.fresh k hk
    have m1:Moves Got tg (tagAt tg1 gb (i,3)) w w1:=⟨m.os,m.tape,m.output,m.size,fun k hk=>by rw[tagAt_other (by omega)];exact m.tags k hk,m.block,fun _=>hfr1⟩
    have hS1:SInv (tagAt tg1 gb (i,3)) w1 s p objs (g.fs.got ++ [id]) false (lim+1):=hS.retag hfr1 (fun k hk=>tagAt_other (fun e=>by rw[e,ht0] at hk;cases hk) _)
    have hmD:tagAt tg1 gb (i,3) B.mD=(i,3):=(hV.moves m1 htD (got_not h.two 3)).2
    have m2:Moves (fun t=>t=(i,3)) (tagAt tg1 gb (i,3)) (tagAt tg1 gb (i,3)) w1 w':=moves_grown hg2 hs2 hmD
    have m3:Moves (fun t=>Got t\/t=(i,3)) tg (tagAt tg1 gb (i,3)) w w':=(m1.mono (fun t ht=>.inl ht)).trans (m2.mono (fun t ht=>.inr ht))
    obtain⟨es1,ck1,hbm⟩:=(hV.moves m1 htD (got_not h.two 3)).1.isMap
    have hmg:∀ v es k,RowT (tagAt tg1 gb (i,3)) w1 (i,k) v es->RowT (tagAt tg1 gb (i,3)) w' (i,k) v es:=fun v es k hr=>hr.keep (fun g' hg' hl'=>⟨hg2.block g' hl' (fun e=>by
     have e':g'=B.mD:=by injection e
     rw[e'] at hg'
     exact owns_ne_map hr.1 hbm hg'.symm),rfl⟩)
    have hnew:RowT (tagAt tg1 gb (i,3)) w' (i,3) (.slice la ln lc) (entsOf objs id):=hmg _ _ _ ⟨hrow,fun g' hg'=>by
     rw[hveq] at hg'
     obtain rfl:gb=g':=by simpa [Value.ownBlock] using hg'
     exact tagAt_same _ _ _⟩
    refine⟨_,rfl,_,m3.mono (fun t ht=>ht.elim got_fetch (fun e=>.inr (.inr e))),⟨h.two,?_,h.wp.fs m3 (fun k _ h3=>?_) (Nat.le_succ _) ?_ ?_⟩,hnew,fun v es k _ hr=>hmg _ _ _ (hr.moves m1 (got_not h.two k))⟩
    ·rw[show ({ g.fs with got:=g.fs.got ++ [id],kD:=fun x=>decide (x=id) || g.fs.kD x }:FS).brk=false from hb]
     exact hS1.moves m2 (fun e=>by cases e) (fun e=>by cases e)
    ·rintro (h | h)
     ·exact got_not hi k h
     ·cases h;exact h3 rfl
    ·exact (h.wp.keptF.moves m3 (by rintro (h | h);exact got_not hi 2 h;cases h)).mono (Nat.le_succ _)
    ·refine⟨hmD,n+1,_,fun x=>if x=id then .slice la ln lc else vK x,by omega,hV2,fun x=>?_,fun x hx=>?_⟩
     ·by_cases hx:x=id
      ·subst hx;rw[mset_same];simp
      ·rw[mset_other (fun e=>hx (by injection e)),hM x];simp[hx]
     ·by_cases hxe:x=id
      ·subst hxe
       show _/\RowT _ _ _ (if x=x then _ else _) _
       rw[if_pos rfl];exact⟨hk,hnew⟩
      ·show _/\RowT _ _ _ (if x=id then _ else _) _
       rw[if_neg hxe]
       have hx':g.fs.kD x=true:=by simpa [hxe] using hx
       exact⟨(hK x hx').1,hmg _ _ _ ((hK x hx').2.moves m1 (got_not h.two 3))⟩
end
theorem searchL_any (x:Ent)(n:ByteArray)(W:World):Calls Tryz.prog 190 #[.agg #[.string x.1,.int .i64 x.2.1,.int .i64 x.2.2],.string n] W fun e w'=>e=.returned (.int .i64 (cmpN x.1 n))/\Below W.heap.size W w':=by
 have hcon:=fun w=>Tryz.strings_Compare x.1 n w
 go_enter Tryz.func190,Tryz.ntmps190
 go_wp2_with (go_at_call 191;refine (hcon _).mono ?_;rintro e w' ⟨rfl,rfl⟩)
 go_ret
 exact⟨rfl,(Below.refl _ _).alloc (Nat.le_refl _) _⟩
theorem row_at {w:World}{b:Nat}{es:List Ent}(hc:∀ j u,(flat es)[j]? = some u->w.cell? ⟨b,j,none⟩=some u){i:Nat}(hi:i<es.length):
  w.cell? ⟨b,i*3,none⟩=some (.string es[i].1)/\w.cell? ⟨b,i*3+1,none⟩=some (.int .i64 es[i].2.1)/\w.cell? ⟨b,i*3+2,none⟩=some (.int .i64 es[i].2.2):=by
 refine⟨hc _ _ ?_,hc _ _ ?_,hc _ _ ?_⟩
 ·have:=flat_get es i 0 hi (by decide);simpa [encE] using this
 ·have:=flat_get es i 1 hi (by decide);simpa [encE] using this
 ·have:=flat_get es i 2 hi (by decide);simpa [encE] using this
def Parted (es:List Ent)(n:ByteArray)(lo hi:Nat):Prop:=(∀ j (h:j<es.length),j<lo->cmpN es[j].1 n<0)/\(∀ j (h:j<es.length),hi<=j->¬ cmpN es[j].1 n<0)
theorem parted_idx {es:List Ent}{n:ByteArray}{k:Nat}(hk:k<=es.length)(h:Parted es n k k):idxK es n=k:=by
 unfold idxK
 have e:es=es.take k++es.drop k:=(List.take_append_drop k es).symm
 rw[e,List.countP_append,List.countP_eq_length.2 (by
  intro x hx
  obtain⟨j,hj,rfl⟩:=List.getElem_of_mem hx
  rw[List.length_take] at hj
  rw[List.getElem_take]
  exact decide_eq_true (h.1 j (by omega) (by omega))),List.countP_eq_zero.2 (by
  intro x hx
  obtain⟨j,hj,rfl⟩:=List.getElem_of_mem hx
  rw[List.length_drop] at hj
  rw[List.getElem_drop]
  simpa using h.2 (k+j) (by omega) (by omega)),List.length_take]
 omega
theorem rising_lt {es:List Ent}(h:RisingK es){a b:Nat}(hb:b<es.length)(hab:a<b):cmpN (es[a]'(by omega)).1 es[b].1<0:=List.pairwise_iff_getElem.1 h a b (by omega) hb hab
theorem bin_any (b cap:Nat)(es:List Ent)(n:ByteArray)(w:World)(hb:b<w.heap.size)(hc:∀ j u,(flat es)[j]? = some u->w.cell? ⟨b,j,none⟩=some u)(hr:RisingK es)(hl:es.length<=16):
  Calls Tryz.prog 189 #[.slice (some ⟨b,0,none⟩) es.length cap,.string n,.func (.func 190) #[] #[]] w fun e w'=>e=.returned (.tuple #[.int .i64 (idxK es n:Nat),.bool (thereK es n)])/\Below w.heap.size w w':=by
 have HC:Aside (∀ j u,(flat es)[j]? = some u->w.cell? ⟨b,j,none⟩=some u):=hc
 have HR:Aside (RisingK es):=hr
 clear hc hr
 go_enter Tryz.func189,Tryz.ntmps189
 go_wp2
 go_loopg [9,10] es.length (fun kx s9 s10 wr=>∃ lo hi:Nat,s9=.int .i64 lo/\s10=.int .i64 hi/\lo<=hi/\hi<=es.length/\hi-lo<=kx/\Aside (Below w.heap.size w wr)/\Aside (Parted es n lo hi))
 case atStart=>exact⟨0,es.length,rfl,rfl,Nat.zero_le _,Nat.le_refl _,by omega,Below.refl _ _,(⟨fun j _ h=>absurd h (Nat.not_lt_zero _),fun j h1 h2=>absurd h2 (by omega)⟩:Parted es n 0 es.length)⟩
 case round=>
  obtain⟨lo,hi,rfl,rfl,hlh,hin,hg,S1,I⟩:=hrel
  have hbw:b<wr.heap.size:=Nat.lt_of_lt_of_le hb S1.out.size
  have cells:∀ i (hi:i<es.length),wr.cell? ⟨b,i*3,none⟩=some (.string es[i].1)/\wr.cell? ⟨b,i*3+1,none⟩=some (.int .i64 es[i].2.1)/\wr.cell? ⟨b,i*3+2,none⟩=some (.int .i64 es[i].2.2):=fun i hi=>row_at (fun j u hu=>(S1.out.cell (p:=⟨b,j,none⟩) hb).trans (HC.out j u hu)) hi
  have CE:Aside _:=cells
  clear cells
  by_cases hlt:lo<hi
  ·obtain⟨k0,k1,k2⟩:=CE.out ((lo+hi) / 2) (by omega)
   generalize hy:es[(lo+hi) / 2]'(by omega)=y at k0 k1 k2
   have Y:Aside (es[(lo+hi) / 2]'(by omega)=y):=hy
   clear hy
   by_cases hyx:cmpN y.1 n<0
   ·go_wp2_with (go_at_call 190;refine (searchL_any y n _).mono ?_;rintro e w' ⟨rfl,hbl⟩)
    go_roundg (hi-((lo+hi) / 2+1))
    case measure=>omega
    case rel=>
     have I2:Aside (Parted es n ((lo+hi) / 2+1) hi):=⟨fun j hj hjl=>by
      by_cases e:j=(lo+hi) / 2
      ·subst e;rw[Y.out];exact hyx
      ·have:=rising_lt HR.out (a:=j) (b:=(lo+hi) / 2) (by omega) (by omega)
       rw[Y.out] at this
       exact cmpN_trans this hyx,I.out.2⟩
     exact⟨(lo+hi) / 2+1,hi,by rw[show ((lo:Int)+(hi:Int)) / 2+1=(((lo+hi) / 2+1:Nat):Int) by omega],rfl,by omega,hin,Nat.le_refl _,S1.out.trans (hbl.mono S1.out.size),I2⟩
   ·go_wp2_with (go_at_call 190;refine (searchL_any y n _).mono ?_;rintro e w' ⟨rfl,hbl⟩)
    go_roundg ((lo+hi) / 2-lo)
    case measure=>omega
    case rel=>
     have I2:Aside (Parted es n lo ((lo+hi) / 2)):=⟨I.out.1,fun j hj hjl h=>by
      by_cases e:j=(lo+hi) / 2
      ·subst e;rw[Y.out] at h;omega
      ·have:=rising_lt HR.out (a:=(lo+hi) / 2) (b:=j) hj (by omega)
       rw[Y.out] at this
       have:=cmpN_trans this h
       omega⟩
     exact⟨lo,(lo+hi) / 2,rfl,by rw[show ((lo:Int)+(hi:Int)) / 2=(((lo+hi) / 2:Nat):Int) by omega],by omega,by omega,Nat.le_refl _,S1.out.trans (hbl.mono S1.out.size),I2⟩
  ·obtain rfl:hi=lo:=by omega
   have hidx:=parted_idx hin I.out
   by_cases hn:hi<es.length
   ·obtain⟨k0,k1,k2⟩:=CE.out hi hn
    generalize hy:es[hi]=y at k0 k1 k2
    have Y:Aside (es[hi]=y):=hy
    clear hy
    have ht:thereK es n=decide (cmpN y.1 n=0):=by
     unfold thereK
     rw[hidx,List.getElem?_eq_getElem hn,Y.out]
     show decide (y.1=n)=_
     by_cases e:y.1=n
     ·rw[e,cmpN_self];simp
     ·rw[decide_eq_false e,decide_eq_false (fun h=>e (cmpN_zero h))]
    have IT:Aside (idxK es n=hi):=hidx
    have TT:Aside (thereK es n=decide (cmpN y.1 n=0)):=ht
    clear hidx ht
    by_cases hyx:cmpN y.1 n=0
    ·go_wp2_with (go_at_call 190;refine (searchL_any y n _).mono ?_;rintro e w' ⟨rfl,hbl⟩)
     go_ret2
     exact⟨by rw[IT.out,TT.out];simp[hyx],S1.out.trans (hbl.mono S1.out.size)⟩
    ·go_wp2_with (go_at_call 190;refine (searchL_any y n _).mono ?_;rintro e w' ⟨rfl,hbl⟩)
     go_ret2
     exact⟨by rw[IT.out,TT.out];simp[hyx],S1.out.trans (hbl.mono S1.out.size)⟩
   ·have ht:thereK es n=false:=by
     unfold thereK
     rw[hidx,List.getElem?_eq_none (by omega)];rfl
    have IT:Aside (idxK es n=hi):=hidx
    have TT:Aside (thereK es n=false):=ht
    clear hidx ht
    go_wp2
    go_ret2
    exact⟨by rw[IT.out,TT.out];rfl,S1.out⟩
theorem search_row (b cap:Nat)(es:List Ent)(n:ByteArray)(w:World)(hb:b<w.heap.size)(hc:∀ j u,(flat es)[j]? = some u->w.cell? ⟨b,j,none⟩=some u)(hr:RisingK es)(hl:es.length<=16):
  Calls Tryz.prog 133 #[.slice (some ⟨b,0,none⟩) es.length cap,.string n] w fun e w'=>e=.returned (.tuple #[.int .i64 (idxK es n:Nat),.bool (thereK es n)])/\Below w.heap.size w w':=by
 have hcon:=bin_any b cap es n w hb hc hr hl
 generalize idxK es n=ix at hcon ⊢
 generalize thereK es n=th at hcon ⊢
 clear hc hr hl
 go_enter Tryz.func133,Tryz.ntmps133
 go_wp2_with (go_at_call 189;refine hcon.mono ?_;rintro e w' ⟨rfl,hbl⟩)
 go_ret2
 exact⟨rfl,hbl⟩
theorem bin_nil (n:ByteArray)(w:World):Calls Tryz.prog 189 #[.slice none 0 0,.string n,.func (.func 190) #[] #[]] w fun e w'=>e=.returned (.tuple #[.int .i64 0,.bool false])/\w'=w:=by
 go_enter Tryz.func189,Tryz.ntmps189
 go_wp2
 refine wp_loop_rounds 1 ?_
 rw[rounds_succ]
 go_wp2
 go_ret2
 exact⟨rfl,rfl⟩
theorem search_nil (n:ByteArray)(w:World):Calls Tryz.prog 133 #[.slice none 0 0,.string n] w fun e w'=>e=.returned (.tuple #[.int .i64 0,.bool false])/\w'=w:=by
 go_enter Tryz.func133,Tryz.ntmps133
 go_wp2_with (go_at_call 189;refine (bin_nil n _).mono ?_;rintro e w' ⟨rfl,rfl⟩)
 go_ret2
 exact⟨rfl,rfl⟩
theorem search_any {w:World}{v:Value}{es:List Ent}(hrow:w.ownsRow 0 96 3 v es.length (flat es))(n:ByteArray)(hr:RisingK es)(hl:es.length<=16):
  Calls Tryz.prog 133 #[v,.string n] w fun e w'=>e=.returned (.tuple #[.int .i64 (idxK es n:Nat),.bool (thereK es n)])/\Below w.heap.size w w':=by
 rcases hrow.2 with ⟨rfl,h0⟩ | ⟨g,cap,cur,rfl,_,hg,_⟩
 ·have:es = []:=List.length_eq_zero_iff.1 h0
  subst this
  refine (search_nil n w).mono ?_
  rintro e w' ⟨rfl,rfl⟩
  exact⟨rfl,Below.refl _ _⟩
 ·refine search_row g cap es n w (Array.getElem?_eq_some_iff.1 hg).1 (fun j u hu=>?_) hr hl
  have:=owns_cells hrow j u hu
  rwa [Nat.zero_add] at this
theorem keyVP {q:List ByteArray}(hq:Good q):keyOf Tryz.prog 147 (.agg (pathA q))=some (keyP Tryz.prog q):=keyOf_path hq.val
theorem ents_not (t:Nat)(s0 s1 s2 s3 s4 nm:ByteArray)(k id:Int)(w:World)(hk:k≠2):
  Calls Tryz.prog 187 #[.pointer (some ⟨t,0,none⟩),.agg #[.string s0,.string s1,.string s2,.string s3,.string s4],.agg #[.string nm,.int .i64 k,.int .i64 id]] w fun e w'=>e=.returned (.tuple #[.slice none 0 0,.int .i64 5])/\Below w.heap.size w w':=by
 have hk':(k == 2)=false:=by simpa using hk
 go_enter Tryz.func187,Tryz.ntmps187
 go_wp2
 go_ret2
 exact⟨rfl,((Below.refl _ _).alloc (Nat.le_refl _) _).alloc (by simp) _⟩
theorem ents_own (t m:Nat)(s0 s1 s2 s3 s4 nm:ByteArray)(v:Value)(w:World)(ht:t<w.heap.size)(c8:w.cell? ⟨t,8,none⟩=some (.map (some m)))
  (hlk:∀ W,Below w.heap.size w W->(Instr.lookup 162 (.map (some m)) (.agg #[.string s0,.string s1,.string s2,.string s3,.string s4]) false).run Tryz.prog W=.ok v W):
  Calls Tryz.prog 187 #[.pointer (some ⟨t,0,none⟩),.agg #[.string s0,.string s1,.string s2,.string s3,.string s4],.agg #[.string nm,.int .i64 2,.int .i64 0]] w fun e w'=>e=.returned (.tuple #[v,.int .i64 0])/\Below w.heap.size w w':=by
 have hl:=hlk _ (below_drew (((Below.refl w.heap.size w).alloc (Nat.le_refl _) (.cells #[.string s0,.string s1,.string s2,.string s3,.string s4] 147)).alloc (by simp) (.cells #[.string nm,.int .i64 2,.int .i64 0] 96)))
 clear hlk
 go_enter Tryz.func187,Tryz.ntmps187
 go_wp2
 go_region
 all_goals
  go_wp2
  go_ret2
  exact⟨rfl,below_drew (((Below.refl _ _).alloc (Nat.le_refl _) _).alloc (by simp) _)⟩
theorem ents_get (t d:Nat)(s0 s1 s2 s3 s4 nm:ByteArray)(id:Int)(R:Value->Int->World->World->Prop)(w:World)(ht:t<w.heap.size)(c2:w.cell? ⟨t,2,none⟩=some (.pointer (some ⟨d,0,none⟩)))(hid:id≠0)
  (hget:∀ W,Below w.heap.size w W->Calls Tryz.prog 217 #[.pointer (some ⟨d,0,none⟩),.int .i64 id] W fun e w'=>∃ v er,e=.returned (.tuple #[v,.int .i64 er])/\R v er W w'):
  Calls Tryz.prog 187 #[.pointer (some ⟨t,0,none⟩),.agg #[.string s0,.string s1,.string s2,.string s3,.string s4],.agg #[.string nm,.int .i64 2,.int .i64 id]] w fun e w'=>∃ v er W,Below w.heap.size w W/\e=.returned (.tuple #[v,.int .i64 er])/\R v er W w':=by
 have hW:=below_drew (((Below.refl w.heap.size w).alloc (Nat.le_refl _) (.cells #[.string s0,.string s1,.string s2,.string s3,.string s4] 147)).alloc (by simp) (.cells #[.string nm,.int .i64 2,.int .i64 id] 96))
 have hg:=hget _ hW
 have HW:Hid _:=hW
 have hid':(id == 0)=false:=by simpa using hid
 clear hget hW
 go_enter Tryz.func187,Tryz.ntmps187
 go_wp2
 go_region_with (go_at_call 217;refine hg.mono ?_;rintro e w1 ⟨v,er,rfl,hR⟩;have HR:Hid _:=hR;clear hR)
 all_goals
  go_wp2
  go_ret2
  exact⟨v,er,_,HW.out,rfl,HR.out⟩
end Go.Proofs.YtlgidcmmgohagaaGreat
