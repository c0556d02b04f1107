/- What is proved here: ac2. -/
import Derived.Test.YtlgidcmmgohagaaGreatTreeM15
import Derived.Test.YtlgidcmmgohagaaGreatTreeM05
import Derived.Deep.LoopGhost
namespace Go.Proofs.YtlgidcmmgohagaaGreat
open Go.RowKit Go.Sort Go.Shelf Go.Proofs.Tryz
set_option linter.unusedVariables false
set_option maxRecDepth 100000
set_option maxHeartbeats 16000000
def dO (w:World)(b:Nat)(l:List ByteArray):Prop:=b<w.heap.size/\∀k,k<5->w.cell? ⟨b,k,none⟩=some (.string (l.getD k ⟨#[]⟩))/\w.frozen? ⟨b,k,none⟩=false
theorem dO.keep {w w':World}{b:Nat}{l:List ByteArray}(h:dO w b l)(hb:Below w.heap.size w w'):dO w' b l:=
 ⟨cv h.1 hb.size,fun k hk=>⟨((aR hb).1 b k h.1).trans (h.2 k hk).1,((aR hb).2 b k h.1).trans (h.2 k hk).2⟩⟩
theorem dO.five {w:World}{b:Nat}{l:List ByteArray}(h:dO w b l):(w.cell? ⟨b,0,none⟩=some (.string (l.getD 0 ⟨#[]⟩))/\w.cell? ⟨b,1,none⟩=some (.string (l.getD 1 ⟨#[]⟩))/\w.cell? ⟨b,2,none⟩=some (.string (l.getD 2 ⟨#[]⟩))/\w.cell? ⟨b,3,none⟩=some (.string (l.getD 3 ⟨#[]⟩))/\w.cell? ⟨b,4,none⟩=some (.string (l.getD 4 ⟨#[]⟩)))/\∀k,k<5->w.frozen? ⟨b,k,none⟩=false:=
 ⟨⟨(h.2 0 (by omega)).1,(h.2 1 (by omega)).1,(h.2 2 (by omega)).1,(h.2 3 (by omega)).1,(h.2 4 (by omega)).1⟩,fun k hk=>(h.2 k hk).2⟩
theorem NK {b c j k:Nat}(h:b≠c\/j≠k):(⟨b,j,none⟩:Addr)≠⟨c,k,none⟩:=fun e=>by
 simp only[Addr.mk.injEq,and_true] at e
 rcases h with h | h
 ·exact h e.1
 ·exact h e.2
theorem dO.put {w:World}{b j:Nat}{l m:List ByteArray}(h:dO w b l)(hm:∀k,k<5->k≠j->m.getD k ⟨#[]⟩=l.getD k ⟨#[]⟩)(h5:j<5):dO (w.setCell ⟨b,j,none⟩ (.string (m.getD j ⟨#[]⟩))) b m:=by
 refine⟨by simpa using h.1,fun k hk=>⟨?_,by rw[World.frozen?_setCell];exact (h.2 k hk).2⟩⟩;by_cases e:k=j
 ·subst e
  exact World.cell?_setCell_same _ _ _ (h.2 k hk).1
 ·rw[World.cell?_setCell_other _ _ _ _ (NK (.inr (fun e'=>e e'.symm))),hm k hk e]
  exact (h.2 k hk).1
theorem dO.set {w:World}{b j:Nat}{l:List ByteArray}(h:dO w b (l.take j))(h5:j<5):dO (w.setCell ⟨b,j,none⟩ (.string (l.getD j ⟨#[]⟩))) b (l.take (j+1)):=by
 have:=h.put (m:=l.take (j+1)) (j:=j) (fun k hk hne=>?_) h5
 ·rwa [show (l.take (j+1)).getD j ⟨#[]⟩=l.getD j ⟨#[]⟩ by rw[List.getD_eq_getElem?_getD,List.getD_eq_getElem?_getD,List.getElem?_take,aL (Nat.lt_succ_self _)]] at this
 ·rw[List.getD_eq_getElem?_getD,List.getD_eq_getElem?_getD,List.getElem?_take,List.getElem?_take]
  by_cases hk2:k<j
  ·rw[aL hk2,aL (by omega)]
  ·rw[ay hk2,ay (by omega)]
theorem dO.over {w:World}{b j:Nat}{l:List ByteArray}(h:dO w b l)(h5:j<5):dO (w.setCell ⟨b,j,none⟩ (.string (l.getD j ⟨#[]⟩))) b l:=h.put (fun _ _ _=>rfl) h5
theorem dO.other {w:World}{b c j:Nat}{l:List ByteArray}{v:Value}(h:dO w b l)(hc:c≠b):dO (w.setCell ⟨c,j,none⟩ v) b l:=
 ⟨by simpa using h.1,fun k hk=>⟨by rw[World.cell?_setCell_other _ _ _ _ (NK (.inl hc))];exact (h.2 k hk).1,by rw[World.frozen?_setCell];exact (h.2 k hk).2⟩⟩
theorem Lr {k:Nat}(h:k<5):k=0\/k=1\/k=2\/k=3\/k=4:=by omega
theorem dO.of_block {w:World}{b:Nat}(h:w.heap[b]? = some (.cells #[.string ⟨#[]⟩,.string ⟨#[]⟩,.string ⟨#[]⟩,.string ⟨#[]⟩,.string ⟨#[]⟩] 147 (0,0))):dO w b []:=by
 refine⟨(Array.getElem?_eq_some_iff.1 h).1,fun k hk=>?_⟩;rcases Lr hk with rfl | rfl | rfl | rfl | rfl <;> simp[World.cell?,World.frozen?,h]
theorem Ea (w:World):dO ((w.alloc (.cells #[.string ⟨#[]⟩,.string ⟨#[]⟩,.string ⟨#[]⟩,.string ⟨#[]⟩,.string ⟨#[]⟩] 147)).alloc (.cells #[.string ⟨#[]⟩,.string ⟨#[]⟩,.string ⟨#[]⟩,.string ⟨#[]⟩,.string ⟨#[]⟩] 147)) w.heap.size []:=.of_block (heap_alloc2_old w _ _)
theorem Eb (w:World):dO ((w.alloc (.cells #[.string ⟨#[]⟩,.string ⟨#[]⟩,.string ⟨#[]⟩,.string ⟨#[]⟩,.string ⟨#[]⟩] 147)).alloc (.cells #[.string ⟨#[]⟩,.string ⟨#[]⟩,.string ⟨#[]⟩,.string ⟨#[]⟩,.string ⟨#[]⟩] 147)) (w.heap.size+1) []:=.of_block (heap_alloc2_new w _ _)
theorem mb (l:List ByteArray)(hl:Good l)(w:World):Calls prog 69 #[.string (bV l)] w fun e w'=>e=.returned (.tuple #[bn l,.int .i64 0])/\Below w.heap.size w w':=by
 have hsz:=yF hl.val;have h5:=hl.len;have hcut:∀j (hj:j<l.length) W,Calls prog 128 #[.string (bV (l.drop j)),.string ⟨#[47]⟩] W fun e w'=>e=.returned (.tuple #[.string (l.getD j ⟨#[]⟩),.string (bV (l.drop (j+1))),.bool (decide (j+1<l.length))])/\Below W.heap.size W w':=by
  intro j hj W;have e1:l.drop j=l[j] :: l.drop (j+1):=List.drop_eq_getElem_cons hj;have hv:aF l[j]=true:=hl.val _ (jk hj);have hm:(bV (l.drop j)).size<=1000:=by
   have:=yF (l:=l.drop j) (fun x hx=>hl.val x (List.mem_of_mem_drop hx))
   have h2:(l.drop j).length<=5:=by rw[List.length_drop];omega
   omega
  rw[e1] at hm
  have:=WE l[j] (l.drop (j+1)) hv hm W
  rw[<-e1] at this;have e2:(!(l.drop (j+1)).isEmpty)=decide (j+1<l.length):=by
   by_cases h:j+1<l.length
   ·rw[decide_eq_true h,List.drop_eq_getElem_cons h];rfl
   ·rw[dY h,List.drop_eq_nil_of_le (by omega)];rfl
  rw[e2] at this;rw[List.getD_eq_getElem?_getD,kO hj,Option.getD_some];exact this
 have hval:∀j (hj:j<l.length) W,Calls prog 129 #[.string (l.getD j ⟨#[]⟩)] W fun e w'=>e=.returned (.bool true)/\w'=W:=by
  intro j hj W;have hv:aF l[j]=true:=hl.val _ (jk hj);rw[List.getD_eq_getElem?_getD,kO hj,Option.getD_some]
  have:=xX l[j] W (by have:=(eo hv).2;unfold maxLen;omega)
  rwa [hv] at this
 have ac3:∀j W,Calls prog 130 #[.string (l.getD j ⟨#[]⟩)] W fun e w'=>e=.returned (.string (l.getD j ⟨#[]⟩))/\Below W.heap.size W w':=fun j W=>uh _ W (by
  rw[List.getD_eq_getElem?_getD];cases hj:l[j]? with
  | none=>simp[ByteArray.size]
  | some x=>
   have:=(eo (hl.val x (List.mem_of_getElem? hj))).2
   rw[Option.getD_some];omega)
 have hne:(!(bV l).toList.isEmpty)=decide (0<l.length):=by
  rw[gF]
  match l,hl with
  | [],_=>rfl
  | [x],hl=>
   have:=fL (hl.val x (by simp))
   rw[gF] at this;rw[qJ];cases h:fO x with
   | nil=>rw[h] at this;cases this
   | cons c r=>rfl
  | x :: y :: r,_=>
   rw[l9 x (by simp)];simp
 have WH:Hid _:=hcut;have WI:Hid _:=hval;have ahC:Hid _:=ac3;clear hcut hval ac3 hsz;go_enter func69,ntmps69;go_wp2;have HA0:Hid (dO ((w.alloc (.cells #[.string ⟨#[]⟩,.string ⟨#[]⟩,.string ⟨#[]⟩,.string ⟨#[]⟩,.string ⟨#[]⟩] 147)).alloc (.cells #[.string ⟨#[]⟩,.string ⟨#[]⟩,.string ⟨#[]⟩,.string ⟨#[]⟩,.string ⟨#[]⟩] 147)) w.heap.size []):=Ea w;have J9:Hid (dO ((w.alloc (.cells #[.string ⟨#[]⟩,.string ⟨#[]⟩,.string ⟨#[]⟩,.string ⟨#[]⟩,.string ⟨#[]⟩] 147)).alloc (.cells #[.string ⟨#[]⟩,.string ⟨#[]⟩,.string ⟨#[]⟩,.string ⟨#[]⟩,.string ⟨#[]⟩] 147)) (w.heap.size+1) []):=Eb w
 go_loopw [5,6,7] (fun r m i wr=>∃j:Nat,j<=l.length/\i=.int .i64 (j:Int)/\m=.bool (decide (j<l.length))/\r=.string (bV (l.drop j))/\Below w.heap.size w wr/\Hid (dO wr w.heap.size [])/\Hid (dO wr (w.heap.size+1) (l.take j))) (fun _ _ i _=>l.length-(intOf i).toNat)
 case atStart=>exact⟨0,dG _,rfl,rfl,rfl,((Below.refl _ _).alloc (bA _) _).alloc (by simp) _,HA0.out,J9.out⟩
 case round=>
  obtain⟨j,hj,rfl,rfl,rfl,hb,ZX,VA⟩:=hrel;by_cases hlt:j<l.length
  ·rw[decide_eq_true hlt]
   have RB:j<5:=by omega
   have ac4:((j:Int) == 5)=false:=by simp;omega
   have hji:(j:Int)<5:=by omega
   have J4:=WH.out j hlt;have VB:=WI.out j hlt;have hzz:w.heap.size+1<wr.heap.size:=VA.out.1;generalize hm:decide (j+1<l.length)=more at J4;have HM:Hid _:=hm;generalize hx:l.getD j ⟨#[]⟩=x at J4 VB;have HX:Hid _:=hx;clear hm hx;go_wp2_with fail;refine Calls.mono (J4 wr) ?_;rintro e w1 ⟨rfl,hb1⟩;have hz1:w.heap.size+1<w1.heap.size:=cv hzz hb1.size;have k1:=((VA.out.keep hb1).2 j RB);obtain⟨k1c,k1f⟩:=k1;generalize (l.take j).getD j ⟨#[]⟩=x0 at k1c;go_wp2_with (go_at_call 129;refine Calls.mono (VB _) ?_;rintro e w2 ⟨rfl,rfl⟩);go_roundw
   case rel=>
    refine⟨j+1,by omega,by go_num,by rw[HM.out],rfl,?_,?_,?_⟩
    ·refine Below.setCell ?_ (by simp) _
     exact aq hb hb1
    ·exact (ZX.out.keep hb1).other (by omega)
    ·rw[<-HX.out];exact (VA.out.keep hb1).set RB
   case measure=>simp[intOf];omega
  ·rw[dY hlt]
   have KB:j=l.length:=by omega
   subst KB;rw[List.take_length] at VA;rw[List.drop_length];go_wp2
   go_loopw [32] (fun i wr=>∃k:Nat,k<=5/\i=.int .i64 (k:Int)/\Below w.heap.size w wr/\Hid (dO wr w.heap.size [])/\Hid (dO wr (w.heap.size+1) l)) (fun i _=>5-(intOf i).toNat)
   case atStart=>exact⟨0,by omega,rfl,hb,ZX,VA⟩
   case round=>
    obtain⟨k,hk,rfl,hb2,HQ0,HQ1⟩:=hrel;have hz0:w.heap.size<wr.heap.size:=HQ0.out.1;have hz1:w.heap.size+1<wr.heap.size:=HQ1.out.1;by_cases KU:k<5
    ·have hki:(k:Int)<5:=by omega
     obtain⟨kc,kf⟩:=HQ1.out.2 k KU;have hck:=ahC.out k;generalize hx:l.getD k ⟨#[]⟩=x at hck kc;have HX:Hid _:=hx;clear hx;go_wp2_with fail;refine Calls.mono (hck wr) ?_;rintro e w1 ⟨rfl,hb1⟩;obtain⟨kc1,kf1⟩:=(HQ1.out.keep hb1).2 k KU;rw[HX.out] at kc1;have hz2:w.heap.size+1<w1.heap.size:=cv hz1 hb1.size;go_wp2;go_roundw
     case rel=>
      refine⟨k+1,by omega,by go_num,?_,?_,?_⟩
      ·refine Below.setCell ?_ (by simp) _
       exact aq hb2 hb1
      ·exact (HQ0.out.keep hb1).other (by omega)
      ·rw[<-HX.out];exact (HQ1.out.keep hb1).over KU
     case measure=>simp[intOf];omega
    ·have hki:¬(k:Int)<5:=by omega
     obtain⟨⟨p0,p1,p2,p3,p4⟩,pf⟩:=HQ1.out.five;obtain⟨⟨q0,q1,q2,q3,q4⟩,qf⟩:=HQ0.out.five;have qf0:=qf 0 (by omega);have qf1:=qf 1 (by omega);have qf2:=qf 2 (by omega);have qf3:=qf 3 (by omega);have qf4:=qf 4 (by omega);clear pf qf;obtain⟨s0,s1,s2,s3,s4,hP⟩:∃s0 s1 s2 s3 s4,av l = #[.string s0,.string s1,.string s2,.string s3,.string s4]:=⟨_,_,_,_,_,rfl⟩;simp only[av,Array.mk.injEq,List.cons.injEq,Value.string.injEq,and_true] at hP;obtain⟨e0,e1,e2,e3,e4⟩:=hP;rw[e0] at p0;rw[e1] at p1;rw[e2] at p2;rw[e3] at p3;rw[e4] at p4;have HE:Hid _:=And.intro e0 (And.intro e1 (And.intro e2 (And.intro e3 e4)));clear e0 e1 e2 e3 e4;simp only[List.getD_nil] at q0 q1 q2 q3 q4;have hv:bn l=.agg #[.string s0,.string s1,.string s2,.string s3,.string s4]:=by
      unfold bn av;rw[HE.out.1,HE.out.2.1,HE.out.2.2.1,HE.out.2.2.2.1,HE.out.2.2.2.2]
     go_wp2;exact bodyPost_ret (v:=.tuple #[.agg #[.string s0,.string s1,.string s2,.string s3,.string s4],.int .i64 0]) (by simp[results,results69,go_sem,q0,q1,q2,q3,q4]) rfl ⟨rfl,by
      repeat (refine Below.setCell ?_ (by simp) _)
      exact hb2⟩
def letters:List ByteArray:=[⟨#[97]⟩,⟨#[98]⟩,⟨#[99]⟩,⟨#[100]⟩]
abbrev aP:=Nat->Nat×Nat
def jC (tg:aP)(w:World):Prop:=∀k,w.heap.size<=k->tg k=(0,0)
structure az (P:Nat×Nat->Prop)(tg aC:aP)(w w':World):Prop where
 os:w'.os=w.os
 tape:w'.tape=w.tape
 output:w'.output=w.output
 size:w.heap.size<=w'.heap.size
 tags:∀k,k<w.heap.size->aC k=tg k
 block:∀k,k<w.heap.size->¬P (tg k)->w'.heap[k]? = w.heap[k]?
 fresh:jC tg w->jC aC w'
theorem az.refl (P:Nat×Nat->Prop)(tg:aP)(w:World):az P tg tg w w:=⟨rfl,rfl,rfl,bA _,fun _ _=>rfl,fun _ _ _=>rfl,id⟩
theorem az.aM {P:Nat×Nat->Prop}{tg:aP}{w w':World}(h:Below w.heap.size w w'):az P tg tg w w':=⟨h.os,h.tape,h.output,h.size,fun _ _=>rfl,fun k hk _=>h.block k hk,fun hf k hk=>hf k (eU h.size hk)⟩
theorem az.trans {P:Nat×Nat->Prop}{tg aC ac8:aP}{w w' w'':World}(h:az P tg aC w w')(k:az P aC ac8 w' w''):az P tg ac8 w w'':=
 ⟨k.os.trans h.os,k.tape.trans h.tape,k.output.trans h.output,eU h.size k.size,fun b hb=>(k.tags b (cv hb h.size)).trans (h.tags b hb),
  fun b hb hP=>(k.block b (cv hb h.size) (by rw[h.tags b hb];exact hP)).trans (h.block b hb hP),fun hf=>k.fresh (h.fresh hf)⟩
theorem az.mono {P P':Nat×Nat->Prop}{tg aC:aP}{w w':World}(h:az P tg aC w w')(hP:∀t,P t->P' t):az P' tg aC w w':=
 ⟨h.os,h.tape,h.output,h.size,h.tags,fun k hk hn=>h.block k hk (fun hp=>hn (hP _ hp)),h.fresh⟩
def o5 (tg:aP)(b:Nat)(t:Nat×Nat):aP:=fun k=>if k=b then t else tg k
theorem BU (tg:aP)(b:Nat)(t:Nat×Nat):o5 tg b t b=t:=by unfold o5;rw[aL rfl]
theorem pS {tg:aP}{b k:Nat}(h:k≠b)(t:Nat×Nat):o5 tg b t k=tg k:=by unfold o5;rw[ay h]
theorem az.at {P:Nat×Nat->Prop}{tg aC:aP}{w w':World}(h:az P tg aC w w'){b:Nat}{o:Obj}(hb:w.heap[b]? = some o){t:Nat×Nat}(ht:tg b=t)(hn:¬P t):w'.heap[b]? = some o/\aC b=t:=by
 have hl:=(Array.getElem?_eq_some_iff.1 hb).1;exact⟨(h.block b hl (by rw[ht];exact hn)).trans hb,(h.tags b hl).trans ht⟩
def lu (tg:aP)(w:World)(t:Nat×Nat)(v:Value)(es:List aK):Prop:=w.ownsRow 0 96 3 v es.length (flat es)/\∀g,v.ownBlock=some g->tg g=t
theorem lu.keep {tg aC:aP}{w w':World}{t:Nat×Nat}{v:Value}{es:List aK}(h:lu tg w t v es)(hk:∀g,v.ownBlock=some g->g<w.heap.size->w'.heap[g]? = w.heap[g]?/\aC g=tg g):lu aC w' t v es:=
 ⟨ai h.1 (fun g hg=>(hk g hg (ah h.1 hg)).1),fun g hg=>((hk g hg (ah h.1 hg)).2).trans (h.2 g hg)⟩
theorem lu.moves {P:Nat×Nat->Prop}{tg aC:aP}{w w':World}{t:Nat×Nat}{v:Value}{es:List aK}(h:lu tg w t v es)(m:az P tg aC w w')(hn:¬P t):lu aC w' t v es:=
 h.keep fun g hg hl=>⟨m.block g hl (by rw[h.2 g hg];exact hn),m.tags g hl⟩
def vO (tg:aP)(w:World)(ft:gA)(got:List Int):Prop:=w.ownsRow 0 29 1 (.slice ft.a ft.n ft.c) ft.n (got.map (Value.int .i64))/\ft.n=got.length/\∀g,(Value.slice ft.a ft.n ft.c).ownBlock=some g->tg g=(1,1)
structure gj (tg:aP)(w:World)(s p:Nat)(ag:List Ob)(got:List Int)(brk:Bool)(lim:Nat):Prop where
 fresh:jC tg w
 ex:∃ft:gA,ft.b=brk/\kU ft (fun k=>tg k=(1,0)) w s p ag/\vO tg w ft got/\Sound ag/\got.length<=lim
theorem gj.sound {tg:aP}{w:World}{s p:Nat}{ag:List Ob}{got:List Int}{brk:Bool}{lim:Nat}(h:gj tg w s p ag got brk lim):Sound ag:=by
 obtain⟨_,ft,_,_,_,hs,_⟩:=h;exact hs
theorem uy {w:World}{base:Nat}{e:TypeId}{size:Nat}{v:Value}{n:Nat}{xs:List Value}(h:w.ownsRow base e size v n xs):w.ownsRow 0 e size v n xs:=by
 obtain⟨h1,h2⟩:=h;refine⟨h1,?_⟩;rcases h2 with h | ⟨g,c,cur,hv,_,r⟩
 ·exact .inl h
 ·exact .inr ⟨g,c,cur,hv,dG _,r⟩
theorem vO.moves {P:Nat×Nat->Prop}{tg aC:aP}{w w':World}{ft:gA}{got:List Int}(h:vO tg w ft got)(m:az P tg aC w w')(hn:¬P (1,1)):vO aC w' ft got:=
 ⟨ai h.1 (fun g hg=>m.block g (ah h.1 hg) (by rw[h.2.2 g hg];exact hn)),h.2.1,fun g hg=>(m.tags g (ah h.1 hg)).trans (h.2.2 g hg)⟩
theorem gj.moves {P:Nat×Nat->Prop}{tg aC:aP}{w w':World}{s p:Nat}{ag:List Ob}{got:List Int}{brk:Bool}{lim:Nat}(h:gj tg w s p ag got brk lim)(m:az P tg aC w w')(h0:¬P (1,0))(h1:¬P (1,1)):gj aC w' s p ag got brk lim:=by
 obtain⟨hf,ft,hb,hi,hg,hs,hl⟩:=h;exact⟨m.fresh hf,ft,hb,hi.keep (fun k hk hF=>m.block k hk (by rw[hF];exact h0)) (fun k hk hF=>(m.tags k hk).trans hF),hg.moves m h1,hs,hl⟩
theorem gj.mono {tg:aP}{w:World}{s p:Nat}{ag:List Ob}{got:List Int}{brk:Bool}{lim eN:Nat}(h:gj tg w s p ag got brk lim)(hl:lim<=eN):gj tg w s p ag got brk eN:=by
 obtain⟨hf,ft,hb,hi,hg,hs,h⟩:=h;exact⟨hf,ft,hb,hi,hg,hs,eU h hl⟩
theorem gj.zv {tg aC:aP}{w:World}{s p:Nat}{ag:List Ob}{got:List Int}{brk:Bool}{lim:Nat}(h:gj tg w s p ag got brk lim)(hf:jC aC w)(hk:∀k,(tg k).1=1->aC k=tg k):gj aC w s p ag got brk lim:=by
 obtain⟨_,ft,hb,hi,hg,hs,hl⟩:=h;exact⟨hf,ft,hb,hi.keep (fun k _ _=>rfl) (fun k _ hF=>(hk k (by rw[hF])).trans hF),⟨hg.1,hg.2.1,fun g Q3=>(hk g (by rw[hg.2.2 g Q3])).trans (hg.2.2 g Q3)⟩,hs,hl⟩
structure WB where
 wb:Nat
 bt:Nat
 sF:Nat
 sD:Nat
 mF:Nat
 mD:Nat
 oF:Nat
 oD:Nat
structure WG where
 base:Int
 ft:FT
 fs:FS
 fl:Nat->Option (Int×ByteArray)
 op:Nat->Option (Nat×Nat×Int×Int)
def ptr (b:Nat):Value:=.pointer (some ⟨b,0,none⟩)
def WJ (o:Option (Nat×Nat×Int×Int)):Value:=.pointer (o.map fun x=>⟨x.1,0,none⟩)
structure Ec (tg:aP)(w:World)(i p:Nat)(B:WB)(base root:Int):Prop where
 tt:tg B.bt=(i,1)
 tF:tg B.sF=(i,1)
 tD:tg B.sD=(i,1)
 ht:w.heap[B.bt]? = some (.cells #[ptr p,ptr B.sF,ptr B.sD,.int .i64 base,.string ⟨#[]⟩,.int .i64 2,.int .i64 root,.map (some B.oF),.map (some B.oD)] 164 (0,0))
 hF:w.heap[B.sF]? = some (.cells #[.func (.func 115) #[ptr p] #[],.map (some B.mF)] 267 (0,0))
 hD:w.heap[B.sD]? = some (.cells #[.func (.func 117) #[ptr p] #[],.map (some B.mD)] 271 (0,0))
theorem Ec.moves {P:Nat×Nat->Prop}{tg aC:aP}{w w':World}{i p:Nat}{B:WB}{base root:Int}(h:Ec tg w i p B base root)(m:az P tg aC w w')(hn:¬P (i,1)):Ec aC w' i p B base root:=by
 obtain⟨a1,b1⟩:=m.at h.ht h.tt hn;obtain⟨a2,b2⟩:=m.at h.hF h.tF hn;obtain⟨a3,b3⟩:=m.at h.hD h.tD hn;exact⟨b1,b2,b3,a1,a2,a3⟩
theorem je.moves {P:Nat×Nat->Prop}{tg aC:aP}{w w':World}{k:TypeId}{b n:Nat}{M:Lit->Option Value}(h:je w k b n M)(m:az P tg aC w w'){t:Nat×Nat}(ht:tg b=t)(hn:¬P t):je w' k b n M/\aC b=t:=by
 have hl:=h.lt;exact⟨h.keep (m.block b hl (by rw[ht];exact hn)),(m.tags b hl).trans ht⟩
def NL (id:Int):Lit:=.int .i64 id
def zx (tg:aP)(w:World)(i:Nat)(B:WB)(ag:List Ob)(kF:Int->Bool)(lim:Nat):Prop:=
 tg B.mF=(i,2)/\∃n M,n<=lim/\je w 29 B.mF n M/\(∀id,M (NL id)=if kF id then some (.string (bytesOf ag id)) else none)/\∀id,kF id=true->aH ag id=1
def zy (tg:aP)(w:World)(i:Nat)(B:WB)(ag:List Ob)(kD:Int->Bool)(lim:Nat):Prop:=
 tg B.mD=(i,3)/\∃n M,∃vK:Int->Value,n<=lim/\je w 29 B.mD n M/\(∀id,M (NL id)=if kD id then some (vK id) else none)/\∀id,kD id=true->aH ag id=2/\lu tg w (i,3) (vK id) (bR ag id)
theorem zx.moves {P:Nat×Nat->Prop}{tg aC:aP}{w w':World}{i:Nat}{B:WB}{ag:List Ob}{kF:Int->Bool}{lim:Nat}(h:zx tg w i B ag kF lim)(m:az P tg aC w w')(hn:¬P (i,2)):zx aC w' i B ag kF lim:=by
 obtain⟨ht,n,M,hl,hv,hM,hk⟩:=h;obtain⟨a,b⟩:=hv.moves m ht hn;exact⟨b,n,M,hl,a,hM,hk⟩
theorem zy.moves {P:Nat×Nat->Prop}{tg aC:aP}{w w':World}{i:Nat}{B:WB}{ag:List Ob}{kD:Int->Bool}{lim:Nat}(h:zy tg w i B ag kD lim)(m:az P tg aC w w')(hn:¬P (i,3)):zy aC w' i B ag kD lim:=by
 obtain⟨ht,n,M,vK,hl,hv,hM,hk⟩:=h;obtain⟨a,b⟩:=hv.moves m ht hn;exact⟨b,n,M,vK,hl,a,hM,fun id hid=>⟨(hk id hid).1,(hk id hid).2.moves m hn⟩⟩
def iU (w:World)(b n:Nat)(f:List ByteArray->Option Value):Prop:=
 ∃M,je w 147 b n M/\(∀p,Good p->M (lp prog p)=f p)/\∀kl,WideAt.IsKeyLit kl->M kl≠none->∃p,Good p/\kl=lp prog p
def FP (tg:aP)(w:World)(i:Nat)(B:WB)(of:List ByteArray->Option Nat)(lim:Nat):Prop:=
 tg B.oF=(i,4)/\(∃n,n<=lim/\iU w B.oF n (fun p=>(of p).map ptr))/\∀p f,of p=some f->Good p
structure cG (tg:aP)(w:World)(i:Nat)(B:WB)(od:List ByteArray->Option (List aK))(lim:Nat)(vD:List ByteArray->Value):Prop where
 tag:tg B.oD=(i,5)
 map:∃n,n<=lim/\iU w B.oD n (fun p=>(od p).map fun _=>vD p)
 good:∀p es,od p=some es->Good p/\aU es/\es.length<=16/\∀e ∈ es,aF e.1=true/\(e.2.1=1\/e.2.1=2)
 row:∀p es,od p=some es->lu tg w (i,5) (vD p) es
 inj:∀p q es fs g,od p=some es->od q=some fs->(vD p).ownBlock=some g->(vD q).ownBlock=some g->p=q
def ahF (tg:aP)(w:World)(i:Nat)(B:WB)(od:List ByteArray->Option (List aK))(lim:Nat):Prop:=∃vD,cG tg w i B od lim vD
theorem iU.keep {w w':World}{b n:Nat}{f:List ByteArray->Option Value}(h:iU w b n f)(e:w'.heap[b]? = w.heap[b]?):iU w' b n f:=by
 obtain⟨M,hv,h1,h2⟩:=h;exact⟨M,hv.keep e,h1,h2⟩
theorem iU.lt {w:World}{b n:Nat}{f:List ByteArray->Option Value}(h:iU w b n f):b<w.heap.size:=by
 obtain⟨M,hv,_⟩:=h;exact hv.lt
theorem FP.moves {P:Nat×Nat->Prop}{tg aC:aP}{w w':World}{i:Nat}{B:WB}{of:List ByteArray->Option Nat}{lim:Nat}(h:FP tg w i B of lim)(m:az P tg aC w w')(hn:¬P (i,4)):FP aC w' i B of lim:=by
 obtain⟨ht,⟨n,hl,hp⟩,hg⟩:=h;exact⟨(m.tags _ hp.lt).trans ht,⟨n,hl,hp.keep (m.block _ hp.lt (by rw[ht];exact hn))⟩,hg⟩
theorem cG.moves {P:Nat×Nat->Prop}{tg aC:aP}{w w':World}{i:Nat}{B:WB}{od:List ByteArray->Option (List aK)}{lim:Nat}{vD:List ByteArray->Value}(h:cG tg w i B od lim vD)(m:az P tg aC w w')(hn:¬P (i,5)):cG aC w' i B od lim vD:=by
 obtain⟨ht,⟨n,hl,hp⟩,hg,hr,hi⟩:=h;exact⟨(m.tags _ hp.lt).trans ht,⟨n,hl,hp.keep (m.block _ hp.lt (by rw[ht];exact hn))⟩,hg,fun p es he=>(hr p es he).moves m hn,hi⟩
def Ax (tg:aP)(w:World)(i:Nat)(B:WB)(fl:Nat->Option (Int×ByteArray)):Prop:=
 ∀f id d,fl f=some (id,d)->tg f=(i,6)/\w.heap[f]? = some (.cells #[.pointer (if id=0 then none else some ⟨B.sF,0,none⟩),.int .i64 id,.string d] 308 (0,0))/\d.size<=256
theorem Ax.moves {P:Nat×Nat->Prop}{tg aC:aP}{w w':World}{i:Nat}{B:WB}{fl:Nat->Option (Int×ByteArray)}(h:Ax tg w i B fl)(m:az P tg aC w w')(hn:¬P (i,6)):Ax aC w' i B fl:=fun f id d hf=>by
 obtain⟨h1,h2,h3⟩:=h f id d hf
 obtain⟨a,b⟩:=m.at h2 h1 hn
 exact⟨b,a,h3⟩
structure uz (tg:aP)(w:World)(i:Nat)(B:WB)(fl:Nat->Option (Int×ByteArray))(op:Nat->Option (Nat×Nat×Int×Int)):Prop where
 tw:tg B.wb=(i,0)
 hw:w.heap[B.wb]? = some (.cells #[ptr B.bt,WJ (op 0),WJ (op 1),WJ (op 2),WJ (op 3),WJ (op 4),WJ (op 5),WJ (op 6),WJ (op 7)] 91 (0,0))
 past:∀k,8<=k->op k=none
 at_:∀k b f fg pl,op k=some (b,f,fg,pl)->tg b=(i,7)/\w.heap[b]? = some (.cells #[ptr f,.int .i64 fg,.int .i64 pl] 277 (0,0))/\(∃x,fl f=some x)/\0<=fg/\fg<64/\0<=pl/\pl<=256
 inj:∀k l x y,op k=some x->op l=some y->x.1=y.1->k=l
theorem uz.moves {P:Nat×Nat->Prop}{tg aC:aP}{w w':World}{i:Nat}{B:WB}{fl:Nat->Option (Int×ByteArray)}{op:Nat->Option (Nat×Nat×Int×Int)}(h:uz tg w i B fl op)(m:az P tg aC w w')(hn:¬P (i,0))(CI:¬P (i,7)):uz aC w' i B fl op:=by
 obtain⟨a,b⟩:=m.at h.hw h.tw hn;refine⟨b,a,h.past,fun k b f fg pl hk=>?_,h.inj⟩;obtain⟨h1,h2,h3⟩:=h.at_ k b f fg pl hk;obtain⟨a',b'⟩:=m.at h2 h1 CI;exact⟨b',a',h3⟩
def lR (ag:List Ob)(e:aK):Prop:=(e.2.1=1\/e.2.1=2)/\(e.2.2≠0->aH ag e.2.2=e.2.1)
structure ZY (ag:List Ob)(ft:FT):Prop where
 root:ft.root≠0->aH ag ft.root=2
 od:∀p es,ft.od p=some es->∀e ∈ es,lR ag e
structure pT (tg:aP)(w:World)(i p:Nat)(B:WB)(ag:List Ob)(g:WG)(lim:Nat):Prop where
 tree:Ec tg w i p B g.base g.ft.root
 qK:zx tg w i B ag g.fs.kF lim
 qL:zy tg w i B ag g.fs.kD lim
 Ac:FP tg w i B g.ft.of lim
 tG:ahF tg w i B g.ft.od lim
 files:Ax tg w i B g.fl
 held:∀q f,g.ft.of q=some f->∃x,g.fl f=some x
 opens:uz tg w i B g.fl g.op
 ok:ZY ag g.ft
theorem pT.moves {P:Nat×Nat->Prop}{tg aC:aP}{w w':World}{i p:Nat}{B:WB}{ag:List Ob}{g:WG}{lim:Nat}(h:pT tg w i p B ag g lim)(m:az P tg aC w w')(hn:∀k,¬P (i,k)):pT aC w' i p B ag g lim:=by
 obtain⟨vD,hD⟩:=h.tG;exact⟨h.tree.moves m (hn 1),h.qK.moves m (hn 2),h.qL.moves m (hn 3),h.Ac.moves m (hn 4),⟨vD,hD.moves m (hn 5)⟩,h.files.moves m (hn 6),h.held,h.opens.moves m (hn 0) (hn 7),h.ok⟩
structure bF (tg:aP)(w:World)(s i p:Nat)(B:WB)(ag:List Ob)(g:WG)(lim:Nat):Prop where
 two:2<=i
 st:gj tg w s p ag g.fs.got g.fs.brk lim
 wp:pT tg w i p B ag g lim
def Mine (i:Nat)(t:Nat×Nat):Prop:=t.1=1\/t.1=i
theorem bF.below {tg:aP}{w w':World}{s i p:Nat}{B:WB}{ag:List Ob}{g:WG}{lim:Nat}(h:bF tg w s i p B ag g lim)(hb:Below w.heap.size w w'):bF tg w' s i p B ag g lim:=by
 have m:az (fun _=>False) tg tg w w':=az.aM hb;exact⟨h.two,h.st.moves m id id,h.wp.moves m (fun _=>id)⟩
theorem Tn:(prog.info? 29).map (fun i=>(i.zero,i.size,i.bytes))=some (some (.int .i64 0),1,8):=by kernel_rfl
theorem IY {ft:gA}(p:Nat)(a:Option Addr)(n cap bf bd:Nat)(id:Int)(w:World)(h:b8 ft w p a n cap bf bd)(hb:ft.b=true):
  Calls prog 174 #[.pointer (some ⟨p,0,none⟩),.int .i64 id] w fun e w'=>e=.returned (.int .i64 14)/\w'=w.setCell ⟨p,4,none⟩ (.bool false):=by
 have c4:w.cell? ⟨p,4,none⟩=some (.bool true):=by unfold b8 at h;simp[World.cell?,h,hb]
 have f4:w.frozen? ⟨p,4,none⟩=false:=by unfold b8 at h;simp[World.frozen?,h]
 clear h hb;go_enter func174,ntmps174;go_wp2;go_ret;exact⟨rfl,rfl⟩
theorem ZZ (w:World)(c0:Value)(t:TypeId):∀j u,[c0][j]? = some u->(w.alloc (.cells #[c0] t)).cell? ((⟨w.heap.size,0,none⟩:Addr).add j)=some u:=by
 intro j u h
 match j,h with
 | 0,h=>simpa [Addr.add] using h
 | j+1,h=>simp at h
theorem IZ {w w1:World}{o1:Obj}{r:Option Nat}(hg:(w.alloc o1).grownBy w1 r){p:Nat}(hp:p<w.heap.size)(hr:some p≠r){v:Value}{i:Nat}(h:w.cell? ⟨p,i,none⟩=some v):w1.cell? ⟨p,i,none⟩=some v:=by
 rw[World.cell?_of_block (a:=⟨p,i,none⟩) (hg.block p (by simp;omega) hr),World.cell?_alloc_past _ _ _ hp,h]
theorem C8 {w w1:World}{o1:Obj}{r:Option Nat}(hg:(w.alloc o1).grownBy w1 r){p:Nat}(hp:p<w.heap.size)(hr:some p≠r){i:Nat}(h:w.frozen? ⟨p,i,none⟩=false):w1.frozen? ⟨p,i,none⟩=false:=by
 rw[World.frozen?_of_block (a:=⟨p,i,none⟩) (hg.block p (by simp;omega) hr),World.frozen?_alloc_past _ _ _ hp,h]
theorem Ls (p:Nat)(a:Option Addr)(n c:Nat)(xs:List Value)(id:Int)(w:World)(hp:p<w.heap.size)(c3:w.cell? ⟨p,3,none⟩=some (.slice a n c))(f3:w.frozen? ⟨p,3,none⟩=false)(c4:w.cell? ⟨p,4,none⟩=some (.bool false))
  (hown:w.ownsRow 0 29 1 (.slice a n c) n xs)(kP:some p≠(Value.slice a n c).ownBlock)(hn:n<1099511627776):
  Calls prog 174 #[.pointer (some ⟨p,0,none⟩),.int .i64 id] w fun e w'=>e=.returned (.int .i64 0)/\
   ∃g cap' w1,w1.ownsRow 0 29 1 (.slice (some ⟨g,0,none⟩) (n+1) cap') (n+1) (xs ++ [.int .i64 id])/\(∃o1,(w.alloc o1).grownBy w1 (Value.slice a n c).ownBlock/\((some g:Option Nat)=(Value.slice a n c).ownBlock\/g=w.heap.size+1))/\w'=w1.setCell ⟨p,3,none⟩ (.slice (some ⟨g,0,none⟩) (n+1) cap'):=by
 obtain⟨i0,hi,hz0,hz1,hz2⟩:=info_parts Tn;have HO:Hid (w.ownsRow 0 29 1 (.slice a n c) n xs):=hown;have HP:Hid (some p≠(Value.slice a n c).ownBlock):=kP;clear hown kP;go_enter func174,ntmps174;go_wp2_with (first | (at_builtin;go_loud (refine wpList_append_own_at _ rfl (.tmp 16) (.tmp 18) 59 rfl 0 29 i0 _ 1 8 underlying59 hi hz0 hz1 hz2 rfl (by decide) (.slice a n c) n xs rfl (HO.out.alloc _) ⟨w.heap.size,0,none⟩ 1 1 [.int .i64 id] rfl rfl (ZZ w (.int .i64 id) 29) (by intro u hu;simp at hu;subst hu;rfl) (by unfold maxLen;omega) (by omega) (dG _) ?_;intro v' w1 hown' hgrow _ hloc;obtain⟨g,cap',rfl⟩:=ak hown' (by omega);have Vc:=IZ hgrow hp HP.out c3;have XS:=C8 hgrow hp HP.out f3)) | go_in);go_ret;exact⟨rfl,g,cap',w1,hown',⟨_,hgrow,by simpa [Value.ownBlock] using hloc⟩,rfl⟩
theorem kU.tail {ft oo:gA}{F F':Nat->Prop}{w w':World}{s p:Nat}{ag:List Ob}(h:kU ft F w s p ag)(hp:∀a n cap bf bd,b8 ft w p a n cap bf bd->b8 oo w' p a n cap bf bd)(hk:∀k,k<w.heap.size->F k->k≠p->w'.heap[k]? = w.heap[k]?)(hF:∀k,k<w.heap.size->F k->F' k):kU oo F' w' s p ag:=by
 obtain⟨a,cap,bf,bd,Df,Dd,i⟩:=h;have ls:s<w.heap.size:=(Array.getElem?_eq_some_iff.1 i.hs).1;have hsp:s≠p:=mJ i.hs i.iH.at_ (by decide);have hmp:∀{b:Nat} {es:Array MapEntry} {clock:Nat},w.heap[b]? = some (.map es clock)->b≠p:=fun hb e=>by subst e;have:=i.iH.at_;unfold b8 at this;rw[hb] at this;cases this
 obtain⟨e1,c1,XT⟩:=dM i.files;obtain⟨e2,c2,RJ⟩:=dM i.AW;have hrow:∀v m t k xs,w.ownsRow 0 t k v m xs->t≠185->(∀g,v.ownBlock=some g->F g)->w'.ownsRow 0 t k v m xs:=fun v m t k xs hr ht hFg=>ai hr (fun g hg=>hk g (ah hr hg) (hFg g hg) (fun e=>by
  subst e;exact aA hr i.iH.at_ (fun e=>ht e.symm) hg.symm))
 refine⟨a,cap,bf,bd,Df,Dd,⟨hF _ ls i.fs,hF _ i.iH.at_.lt i.fp,hF _ i.files.lt i.ff,hF _ i.AW.lt i.fd,fun g hg=>hF g (ah i.iH.row hg) (i.fr g hg),(hk s ls i.fs hsp).trans i.hs,⟨hp _ _ _ _ _ i.iH.at_,hrow _ _ _ _ _ i.iH.row (by decide) i.fr,i.iH.len,i.iH.many⟩,i.ne,
  dQ i.files (hk _ i.files.lt i.ff (hmp XT)),i.uj,dQ i.AW (hk _ i.AW.lt i.fd (hmp RJ)),i.yf,fun o ho=>?_⟩⟩
 rcases i.zZ o ho with h | ⟨h1,h2,h3,h4,h5,h6,h8,h9⟩
 ·exact .inl h
 ·exact .inr ⟨h1,h2,h3,h4,h5,h6,fun g hg=>hF g (ah h9 hg) (h8 g hg),hrow _ _ _ _ _ h9 (by decide) h8⟩
def Ka (t:Nat×Nat):Prop:=t=(1,0)\/t=(1,1)
def qM (s p:Nat)(ag:List Ob)(got:List Int)(brk:Bool)(lim:Nat)(id:Int)(tg:aP)(w:World)(er:Int):Prop:=
 (brk=true/\er=14/\gj tg w s p ag got false lim)\/(brk=false/\er=0/\gj tg w s p ag (got ++ [id]) false (lim+1))
theorem zz {tg:aP}{w:World}{s p:Nat}{ag:List Ob}{got:List Int}{brk:Bool}{lim:Nat}(h:gj tg w s p ag got brk lim)(hl:lim<1099511627776)(id:Int):
  Calls prog 174 #[.pointer (some ⟨p,0,none⟩),.int .i64 id] w fun e w'=>∃er,e=.returned (.int .i64 er)/\∃aC,az Ka tg aC w w'/\qM s p ag got brk lim id aC w' er:=by
 obtain⟨xS,ft,hb,hi,hg,hs,fo⟩:=h;have vn:=hi;obtain⟨a,cap,bf,bd,Df,Dd,i⟩:=vn;have hat:=i.iH.at_;have hlt:=hat.lt;have Tp:tg p=(1,0):=i.fp;have kP:some p≠(Value.slice ft.a ft.n ft.c).ownBlock:=aA hg.1 hat (by decide);cases brk with
 | true=>
  refine (IY p a ag.length cap bf bd id w hat hb).mono ?_;rintro e w' ⟨rfl,rfl⟩;refine⟨14,rfl,tg,⟨rfl,rfl,rfl,by simp,fun _ _=>rfl,fun k hk hn=>Below.heap_setCell _ _ _ _ (fun e=>hn (by rw[e,Tp];exact .inl rfl)),fun hf k hk=>hf k (by simpa using hk)⟩,.inl ⟨rfl,rfl,fun k hk=>xS k (by simpa using hk),{ ft with b:=false },rfl,?_,⟨?_,hg.2.1,hg.2.2⟩,hs,fo⟩⟩
  ·refine hi.tail (fun a' n' cap' bf' bd' h'=>?_) (fun k hk hF hne=>Below.heap_setCell _ _ _ _ hne) (fun k hk hF=>hF)
   unfold b8 at h' ⊢;simp[World.setCell,Array.getElem?_modify,h']
  ·exact ai hg.1 (fun g Q3=>Below.heap_setCell _ _ _ _ (fun e=>kP (by rw[Q3,e])))
 | false=>
  have c3:w.cell? ⟨p,3,none⟩=some (.slice ft.a ft.n ft.c):=by unfold b8 at hat;simp[World.cell?,hat]
  have f3:w.frozen? ⟨p,3,none⟩=false:=by unfold b8 at hat;simp[World.frozen?,hat]
  have c4:w.cell? ⟨p,4,none⟩=some (.bool false):=by unfold b8 at hat;simp[World.cell?,hat,hb]
  refine (Ls p ft.a ft.n ft.c _ id w hlt c3 f3 c4 hg.1 kP (by rw[hg.2.1];omega)).mono ?_;rintro e w' ⟨rfl,g,cap',w1,hown,⟨o1,hgr,hloc⟩,rfl⟩;have hsz:=hgr.size;simp at hsz;have jo:∀k,k<w.heap.size->some k≠(Value.slice ft.a ft.n ft.c).ownBlock->w1.heap[k]? = w.heap[k]?:=fun k hk hne=>by
   rw[hgr.block k (by simp;omega) hne,Below.heap_alloc _ _ _ hk]
  have Oi:g≠p:=by
   rintro rfl;rcases hloc with h | h
   ·exact kP h
   ·omega
  have FQ:∀k,tg k=(1,0)->some k≠(Value.slice ft.a ft.n ft.c).ownBlock:=fun k hk e=>by have:=hg.2.2 k e.symm;rw[hk] at this;cases this
  refine⟨0,rfl,fun k=>if k<w.heap.size then tg k else if k<w1.heap.size then (1,1) else (0,0),⟨hgr.os,hgr.tape,hgr.output,by simp;omega,fun k hk=>aL hk,fun k hk hn=>?_,fun hf k hk=>?_⟩,.inr ⟨rfl,rfl,fun k hk=>?_,⟨some ⟨g,0,none⟩,ft.n+1,cap',false⟩,rfl,?_,⟨?_,?_,fun g' kT=>?_⟩,hs,by simp;omega⟩⟩
  ·rw[Below.heap_setCell _ _ _ _ (fun e=>hn (by rw[e,Tp];exact .inl rfl)),jo k hk (fun e=>hn (.inr (hg.2.2 k e.symm)))]
  ·have dy:w1.heap.size<=k:=by simpa using hk
   show (if _ then _ else _)=_;rw[ay (by omega),ay (by omega)]
  ·have dy:w1.heap.size<=k:=by simpa using hk
   show (if _ then _ else _)=_;rw[ay (by omega),ay (by omega)]
  ·refine hi.tail (fun a' n' ake bf' bd' h'=>?_) (fun k hk hF hne=>?_) (fun k hk hF=>by show (if _ then _ else _)=_;rw[aL hk];exact hF)
   ·have Am:w1.heap[p]? = w.heap[p]?:=jo p hlt kP
    unfold b8 at h' ⊢;simp[World.setCell,Array.getElem?_modify,Am,h',hb]
   ·rw[Below.heap_setCell _ _ _ _ hne,jo k hk (FQ k hF)]
  ·rw[List.map_append]
   exact ai hown (fun g' kT=>by cases kT;exact Below.heap_setCell _ _ _ _ Oi)
  ·simp[hg.2.1]
  ·obtain rfl:g=g':=by simpa [Value.ownBlock] using kT
   show (if _ then _ else _)=_;rcases hloc with h | h
   ·rw[aL (ah hg.1 h.symm)];exact hg.2.2 g h.symm
   ·rw[ay (by omega),aL (by have:=ah hown rfl;omega)]
theorem BV {ag:List Ob}{j:Nat}(hj:j<ag.length):bytesOf ag ((j:Int)+1)=ag[j].data:=by
 unfold bytesOf;rw[show ((j:Int)+1-1).toNat=j by omega,kO hj];rfl
theorem PF {ag:List Ob}{j:Nat}(hj:j<ag.length):bR ag ((j:Int)+1)=ag[j].aV:=by
 unfold bR;rw[show ((j:Int)+1-1).toNat=j by omega,kO hj];rfl
section
variable {tg:aP}{w:World}{s p:Nat}{ag:List Ob}{got:List Int}{brk:Bool}{lim:Nat}
theorem gj.file (h:gj tg w s p ag got brk lim){id:Int}(hk:aH ag id=1):
  Calls prog 84 #[.pointer (some ⟨p,0,none⟩),.int .i64 id] w fun e w'=>e=.returned (.tuple #[.string (bytesOf ag id),.int .i64 0])/\Below w.heap.size w w':=by
 obtain⟨_,ft,_,⟨a,cap,bf,bd,Df,Dd,i⟩,_⟩:=h;refine (G6 p a ag.length cap bf bd ag id w i.iH).mono ?_;rintro e w' ⟨hb,⟨hn,_⟩ | ⟨j,hj,rfl,_,he⟩⟩
 ·exact absurd hk hn
 ·rw[BV hj];exact⟨he,hb⟩
theorem gj.dir (h:gj tg w s p ag got brk lim){id:Int}(hk:aH ag id=2):
  Calls prog 85 #[.pointer (some ⟨p,0,none⟩),.int .i64 id] w fun e w'=>∃g,e=.returned (.tuple #[.slice (some ⟨g,0,none⟩) (bR ag id).length (bR ag id).length,.int .i64 0])/\w'.ownsRow w.heap.size 96 3 (.slice (some ⟨g,0,none⟩) (bR ag id).length (bR ag id).length) (bR ag id).length (flat (bR ag id))/\Below w.heap.size w w':=by
 obtain⟨_,ft,_,⟨a,cap,bf,bd,Df,Dd,i⟩,_⟩:=h;refine (AX i id).mono ?_;rintro e w' ⟨⟨hn,_⟩ | ⟨j,hj,rfl,_,g,he,hr⟩,hb⟩
 ·exact absurd hk hn
 ·rw[PF hj];exact⟨g,he,hr,hb⟩
theorem u7 (h:gj tg w s p ag got brk lim)(hl:lim<1099511627776){id:Int}(hk:aH ag id=1):
  Calls prog 115 #[.pointer (some ⟨p,0,none⟩),.int .i64 id] w fun e w'=>∃er,e=.returned (.tuple #[.string (if er=0 then bytesOf ag id else ⟨#[]⟩),.int .i64 er])/\∃aC,az Ka tg aC w w'/\qM s p ag got brk lim id aC w' er:=by
 have hcon:=zz h hl id;clear h hl;cases brk with
 | true=>
  have uT:Calls prog 174 #[.pointer (some ⟨p,0,none⟩),.int .i64 id] w fun e w'=>e=.returned (.int .i64 14)/\∃aC,az Ka tg aC w w'/\qM s p ag got true lim id aC w' 14:=hcon.mono (fun e w' ⟨er,he,aC,m,hD⟩=>by
   have Y9:er=14:=by rcases hD with ⟨_,h,_⟩ | ⟨h,_⟩;exact h;cases h
   subst Y9;exact⟨he,aC,m,hD⟩)
  clear hcon;go_enter func115,ntmps115;go_wp2_with (go_at_call 174;refine uT.mono ?_;rintro e w1 ⟨rfl,kE⟩;have HR:Hid _:=kE;clear kE);go_ret2;exact⟨14,rfl,HR.out⟩
 | false=>
  have uT:Calls prog 174 #[.pointer (some ⟨p,0,none⟩),.int .i64 id] w fun e w'=>e=.returned (.int .i64 0)/\∃aC,az Ka tg aC w w'/\gj aC w' s p ag (got ++ [id]) false (lim+1):=hcon.mono (fun e w' ⟨er,he,aC,m,hD⟩=>by
   rcases hD with ⟨h,_⟩ | ⟨_,rfl,hS⟩
   ·cases h
   ·exact⟨he,aC,m,hS⟩)
  clear hcon;go_enter func115,ntmps115;go_wp2_with (first
   | (go_at_call 174;refine uT.mono ?_;rintro e w1 ⟨rfl,uA,m1,hS⟩;have HM:Hid _:=m1;have HS:Hid _:=hS;clear m1 hS)
   | (go_at_call 84;refine (gj.file HS.out hk).mono ?_;rintro e w2 ⟨rfl,hb⟩))
  go_ret2;exact⟨0,by rw[aL rfl];rfl,uA,HM.out.trans (az.aM hb),.inr ⟨rfl,rfl,HS.out.moves (P:=fun _=>False) (az.aM hb) (fun x=>x) (fun x=>x)⟩⟩
theorem xu (h:gj tg w s p ag got brk lim)(hl:lim<1099511627776){id:Int}(hk:aH ag id=2):
  Calls prog 117 #[.pointer (some ⟨p,0,none⟩),.int .i64 id] w fun e w'=>∃er v,e=.returned (.tuple #[v,.int .i64 er])/\(er≠0->v=.slice none 0 0)/\∃aC,az Ka tg aC w w'/\qM s p ag got brk lim id aC w' er/\
   (er=0->∃g,v=.slice (some ⟨g,0,none⟩) (bR ag id).length (bR ag id).length/\w.heap.size<=g/\aC g=(0,0)/\w'.ownsRow 0 96 3 v (bR ag id).length (flat (bR ag id))):=by
 have hcon:=zz h hl id;clear h hl;cases brk with
 | true=>
  have uT:Calls prog 174 #[.pointer (some ⟨p,0,none⟩),.int .i64 id] w fun e w'=>e=.returned (.int .i64 14)/\∃aC,az Ka tg aC w w'/\qM s p ag got true lim id aC w' 14:=hcon.mono (fun e w' ⟨er,he,aC,m,hD⟩=>by
   have Y9:er=14:=by rcases hD with ⟨_,h,_⟩ | ⟨h,_⟩;exact h;cases h
   subst Y9;exact⟨he,aC,m,hD⟩)
  clear hcon;go_enter func117,ntmps117;go_wp2_with (go_at_call 174;refine uT.mono ?_;rintro e w1 ⟨rfl,kE⟩;have HR:Hid _:=kE;clear kE);go_ret2;obtain⟨aC,m,hD⟩:=HR.out;exact⟨14,_,rfl,fun _=>rfl,aC,m,hD,fun h=>by cases h⟩
 | false=>
  have uT:Calls prog 174 #[.pointer (some ⟨p,0,none⟩),.int .i64 id] w fun e w'=>e=.returned (.int .i64 0)/\∃aC,az Ka tg aC w w'/\gj aC w' s p ag (got ++ [id]) false (lim+1):=hcon.mono (fun e w' ⟨er,he,aC,m,hD⟩=>by
   rcases hD with ⟨h,_⟩ | ⟨_,rfl,hS⟩
   ·cases h
   ·exact⟨he,aC,m,hS⟩)
  clear hcon;go_enter func117,ntmps117;go_wp2_with (first
   | (go_at_call 174;refine uT.mono ?_;rintro e w1 ⟨rfl,uA,m1,hS⟩;have HM:Hid _:=m1;have HS:Hid _:=hS;clear m1 hS)
   | (go_at_call 85;refine (gj.dir HS.out hk).mono ?_;rintro e w2 ⟨g,rfl,hrow,hb⟩;have HR:Hid _:=hrow;clear hrow))
  go_ret2;have hS:=HS.out;have KR:w1.heap.size<=g:=by
   rcases HR.out.2 with ⟨h,_⟩ | ⟨g',_,_,hv,hb',_⟩
   ·cases h
   ·cases hv;exact hb'
  refine⟨0,_,rfl,fun h=>absurd rfl h,uA,HM.out.trans (az.aM hb),.inr ⟨rfl,rfl,HS.out.moves (P:=fun _=>False) (az.aM hb) (fun x=>x) (fun x=>x)⟩,fun _=>⟨g,rfl,eU HM.out.size KR,hS.fresh g KR,?_⟩⟩;exact uy HR.out
end
theorem zA:Maps.Keyed prog 29:=Maps.int_keyed underlying29
theorem zB {id:Int}(h:(Lit.int .i64 id).wf=true):keyOf prog 29 (.int .i64 id)=some (NL id):=by
 simp[keyOf,underlying29,mapKey,h,NL]
theorem yG (w:World):(zeroValue 55).run prog w=.ok (.slice none 0 0) w:=by kernel_rfl
theorem Tq (b m p n:Nat)(M:Lit->Option Value)(id:Int)(d:ByteArray)(w:World)(c1:w.cell? ⟨b,1,none⟩=some (.map (some m)))(hV:je w 29 m n M)(hw:(Lit.int .i64 id).wf=true)(hM:M (NL id)=some (.string d)):
  Calls prog 213 #[.pointer (some ⟨b,0,none⟩),.int .i64 id] w fun e w'=>e=.returned (.tuple #[.string d,.int .i64 0])/\w'=w:=by
 have hlk:=hV.look_ok zA underlying265 (nR w) (zB hw);rw[hM] at hlk;clear hV hM;go_enter func213,ntmps213;go_wp2_with (simp only[hlk]);go_ret2;exact⟨rfl,rfl⟩
theorem PG (b m p n:Nat)(M:Lit->Option Value)(id:Int)(R:World->Prop)(w:World)(c0:w.cell? ⟨b,0,none⟩=some (.func (.func 115) #[ptr p] #[]))(c1:w.cell? ⟨b,1,none⟩=some (.map (some m)))(hV:je w 29 m n M)(hw:(Lit.int .i64 id).wf=true)(hM:M (NL id)=none)
  (BW:Calls prog 115 #[.pointer (some ⟨p,0,none⟩),.int .i64 id] w fun e w1=>e=.returned (.tuple #[.string ⟨#[]⟩,.int .i64 14])/\R w1):
  Calls prog 213 #[.pointer (some ⟨b,0,none⟩),.int .i64 id] w fun e w'=>e=.returned (.tuple #[.string ⟨#[]⟩,.int .i64 14])/\R w':=by
 have hlk:=hV.look_ok zA underlying265 (nR w) (zB hw);rw[hM] at hlk;unfold ptr at c0;clear hV hM;go_enter func213,ntmps213;go_wp2_with (first | (go_at_call 115;refine BW.mono ?_;rintro e w1 ⟨rfl,hR⟩));go_ret2;exact⟨rfl,hR⟩
theorem Tr (b m p n:Nat)(M:Lit->Option Value)(id:Int)(R:ByteArray->World->Prop)(w:World)(c0:w.cell? ⟨b,0,none⟩=some (.func (.func 115) #[ptr p] #[]))(c1:w.cell? ⟨b,1,none⟩=some (.map (some m)))(hV:je w 29 m n M)(hw:(Lit.int .i64 id).wf=true)(hM:M (NL id)=none)(hn:n<maxLen)
  (BW:Calls prog 115 #[.pointer (some ⟨p,0,none⟩),.int .i64 id] w fun e w1=>∃d:ByteArray,e=.returned (.tuple #[.string d,.int .i64 0])/\R d w1)
  (hR:∀d w1,R d w1->w1.cell? ⟨b,1,none⟩=some (.map (some m))/\je w1 29 m n M):
  Calls prog 213 #[.pointer (some ⟨b,0,none⟩),.int .i64 id] w fun e w'=>∃d:ByteArray,e=.returned (.tuple #[.string d,.int .i64 0])/\∃w1,R d w1/\je w' 29 m (n+1) (Bb M (NL id) (some (.string d)))/\w1.grownBy w' (some m)/\w'.heap.size=w1.heap.size:=by
 have hlk:=hV.look_ok zA underlying265 (nR w) (zB hw);rw[hM] at hlk;unfold ptr at c0;clear hV hM;go_enter func213,ntmps213;go_wp2_with (first | (go_at_call 115;refine BW.mono ?_;rintro e w1 ⟨d,rfl,FO⟩;obtain⟨c1',hV1⟩:=hR _ _ FO;obtain⟨w2,hst,hV2,hg2,hs2⟩:=hV1.store zA underlying265 hn (zB hw) (val:=.string d);have HV:Hid _:=hV2;have HG:Hid _:=hg2;have HS:Hid _:=hs2;have HR:Hid _:=FO;clear hV1 hV2 hg2 hs2 FO));go_ret2;exact⟨d,rfl,w1,HR.out,HV.out,HG.out,HS.out⟩
theorem Ts (b m p n:Nat)(M:Lit->Option Value)(id:Int)(la:Option Addr)(ln lc:Nat)(w:World)(c1:w.cell? ⟨b,1,none⟩=some (.map (some m)))(hV:je w 29 m n M)(hw:(Lit.int .i64 id).wf=true)(hM:M (NL id)=some (.slice la ln lc)):
  Calls prog 217 #[.pointer (some ⟨b,0,none⟩),.int .i64 id] w fun e w'=>e=.returned (.tuple #[.slice la ln lc,.int .i64 0])/\w'=w:=by
 have hlk:=hV.look_ok zA underlying269 (yG w) (zB hw);rw[hM] at hlk;clear hV hM;go_enter func217,ntmps217;go_wp2_with (simp only[hlk]);go_ret2;exact⟨rfl,rfl⟩
theorem PI (b m p n:Nat)(M:Lit->Option Value)(id:Int)(R:World->Prop)(w:World)(c0:w.cell? ⟨b,0,none⟩=some (.func (.func 117) #[ptr p] #[]))(c1:w.cell? ⟨b,1,none⟩=some (.map (some m)))(hV:je w 29 m n M)(hw:(Lit.int .i64 id).wf=true)(hM:M (NL id)=none)
  (BW:Calls prog 117 #[.pointer (some ⟨p,0,none⟩),.int .i64 id] w fun e w1=>e=.returned (.tuple #[.slice none 0 0,.int .i64 14])/\R w1):
  Calls prog 217 #[.pointer (some ⟨b,0,none⟩),.int .i64 id] w fun e w'=>e=.returned (.tuple #[.slice none 0 0,.int .i64 14])/\R w':=by
 have hlk:=hV.look_ok zA underlying269 (yG w) (zB hw);rw[hM] at hlk;unfold ptr at c0;clear hV hM;go_enter func217,ntmps217;go_wp2_with (first | (go_at_call 117;refine BW.mono ?_;rintro e w1 ⟨rfl,hR⟩));go_ret2;exact⟨rfl,hR⟩
theorem Tt (b m p n:Nat)(M:Lit->Option Value)(id:Int)(R:Option Addr->Nat->Nat->World->Prop)(w:World)(c0:w.cell? ⟨b,0,none⟩=some (.func (.func 117) #[ptr p] #[]))(c1:w.cell? ⟨b,1,none⟩=some (.map (some m)))(hV:je w 29 m n M)(hw:(Lit.int .i64 id).wf=true)(hM:M (NL id)=none)(hn:n<maxLen)
  (BW:Calls prog 117 #[.pointer (some ⟨p,0,none⟩),.int .i64 id] w fun e w1=>∃la ln lc,e=.returned (.tuple #[.slice la ln lc,.int .i64 0])/\R la ln lc w1)
  (hR:∀la ln lc w1,R la ln lc w1->w1.cell? ⟨b,1,none⟩=some (.map (some m))/\je w1 29 m n M):
  Calls prog 217 #[.pointer (some ⟨b,0,none⟩),.int .i64 id] w fun e w'=>∃la ln lc,e=.returned (.tuple #[.slice la ln lc,.int .i64 0])/\∃w1,R la ln lc w1/\je w' 29 m (n+1) (Bb M (NL id) (some (.slice la ln lc)))/\w1.grownBy w' (some m)/\w'.heap.size=w1.heap.size:=by
 have hlk:=hV.look_ok zA underlying269 (yG w) (zB hw);rw[hM] at hlk;unfold ptr at c0;clear hV hM;go_enter func217,ntmps217;go_wp2_with (first | (go_at_call 117;refine BW.mono ?_;rintro e w1 ⟨la,ln,lc,rfl,FO⟩;obtain⟨c1',hV1⟩:=hR _ _ _ _ FO;obtain⟨w2,hst,hV2,hg2,hs2⟩:=hV1.store zA underlying269 hn (zB hw) (val:=.slice la ln lc);have HV:Hid _:=hV2;have HG:Hid _:=hg2;have HS:Hid _:=hs2;have HR:Hid _:=FO;clear hV1 hV2 hg2 hs2 FO));go_ret2;exact⟨la,ln,lc,rfl,w1,HR.out,HV.out,HG.out,HS.out⟩
theorem Ay {ag:List Ob}{id:Int}(h:aH ag id≠0):1<=id/\id<=ag.length:=by
 refine⟨Nk rfl h,?_⟩;by_cases h2:id<=ag.length
 ·exact h2
 ·exact absurd (fD (.inr (by omega))) h
theorem gj.many {tg:aP}{w:World}{s p:Nat}{ag:List Ob}{got:List Int}{brk:Bool}{lim:Nat}(h:gj tg w s p ag got brk lim):ag.length<=400:=by
 obtain⟨_,ft,_,⟨a,cap,bf,bd,Df,Dd,i⟩,_⟩:=h;exact i.iH.many
theorem gj.wf {tg:aP}{w:World}{s p:Nat}{ag:List Ob}{got:List Int}{brk:Bool}{lim:Nat}(h:gj tg w s p ag got brk lim){id:Int}(hk:aH ag id≠0):(Lit.int .i64 id).wf=true:=by
 have h1:=Ay hk;have h2:=h.many;exact WalkArith.wf_i64 (by omega)
theorem zx.mono {tg:aP}{w:World}{i:Nat}{B:WB}{ag:List Ob}{kF:Int->Bool}{lim eN:Nat}(h:zx tg w i B ag kF lim)(hl:lim<=eN):zx tg w i B ag kF eN:=by
 obtain⟨ht,n,M,hn,r⟩:=h;exact⟨ht,n,M,eU hn hl,r⟩
theorem zy.mono {tg:aP}{w:World}{i:Nat}{B:WB}{ag:List Ob}{kD:Int->Bool}{lim eN:Nat}(h:zy tg w i B ag kD lim)(hl:lim<=eN):zy tg w i B ag kD eN:=by
 obtain⟨ht,n,M,vK,hn,r⟩:=h;exact⟨ht,n,M,vK,eU hn hl,r⟩
theorem FP.mono {tg:aP}{w:World}{i:Nat}{B:WB}{of:List ByteArray->Option Nat}{lim eN:Nat}(h:FP tg w i B of lim)(hl:lim<=eN):FP tg w i B of eN:=by
 obtain⟨ht,⟨n,hn,r⟩,hg⟩:=h;exact⟨ht,⟨n,eU hn hl,r⟩,hg⟩
theorem cG.mono {tg:aP}{w:World}{i:Nat}{B:WB}{od:List ByteArray->Option (List aK)}{lim eN:Nat}{vD:List ByteArray->Value}(h:cG tg w i B od lim vD)(hl:lim<=eN):cG tg w i B od eN vD:=by
 obtain⟨ht,⟨n,hn,r⟩,r1,r2,r3⟩:=h;exact⟨ht,⟨n,eU hn hl,r⟩,r1,r2,r3⟩
theorem pT.mono {tg:aP}{w:World}{i p:Nat}{B:WB}{ag:List Ob}{g:WG}{lim eN:Nat}(h:pT tg w i p B ag g lim)(hl:lim<=eN):pT tg w i p B ag g eN:=by
 obtain⟨vD,hD⟩:=h.tG;exact⟨h.tree,h.qK.mono hl,h.qL.mono hl,h.Ac.mono hl,⟨vD,hD.mono hl⟩,h.files,h.held,h.opens,h.ok⟩
theorem bF.mono {tg:aP}{w:World}{s i p:Nat}{B:WB}{ag:List Ob}{g:WG}{lim eN:Nat}(h:bF tg w s i p B ag g lim)(hl:lim<=eN):bF tg w s i p B ag g eN:=⟨h.two,h.st.mono hl,h.wp.mono hl⟩
theorem pT.fs {P:Nat×Nat->Prop}{tg aC:aP}{w w':World}{i p:Nat}{B:WB}{ag:List Ob}{g:WG}{lim eN:Nat}{fs':FS}(h:pT tg w i p B ag g lim)(m:az P tg aC w w')(hn:∀k,k≠2->k≠3->¬P (i,k))(hl:lim<=eN)
  (hF:zx aC w' i B ag fs'.kF eN)(hD:zy aC w' i B ag fs'.kD eN):pT aC w' i p B ag { g with fs:=fs' } eN:=by
 obtain⟨vD,oD⟩:=h.tG;exact⟨h.tree.moves m (hn 1 (by decide) (by decide)),hF,hD,(h.Ac.moves m (hn 4 (by decide) (by decide))).mono hl,⟨vD,(oD.moves m (hn 5 (by decide) (by decide))).mono hl⟩,h.files.moves m (hn 6 (by decide) (by decide)),h.held,h.opens.moves m (hn 0 (by decide) (by decide)) (hn 7 (by decide) (by decide)),h.ok⟩
theorem eY {i:Nat}(hi:2<=i)(k:Nat):¬Ka (i,k):=by
 rintro (h | h)
 ·cases h;omega
 ·cases h;omega
def dB (i:Nat)(t:Nat×Nat):Prop:=t.1=1\/t=(i,2)\/t=(i,3)
theorem dB.mine {i:Nat}{t:Nat×Nat}(h:dB i t):Mine i t:=by
 rcases h with h | h | h
 ·exact .inl h
 ·rw[h];exact .inr rfl
 ·rw[h];exact .inr rfl
theorem uB {i:Nat}{t:Nat×Nat}(h:Ka t):dB i t:=by
 rcases h with rfl | rfl
 ·exact .inl rfl
 ·exact .inl rfl
theorem jD {P:Nat×Nat->Prop}{tg:aP}{w w':World}{b:Nat}(hg:w.grownBy w' (some b))(hs:w'.heap.size=w.heap.size)(hP:P (tg b)):az P tg tg w w':=
 ⟨hg.os,hg.tape,hg.output,hg.size,fun _ _=>rfl,fun k hk hn=>hg.block k hk (fun e=>hn (by cases e;exact hP)),fun hf k hk=>hf k (by omega)⟩
section
variable {tg:aP}{w:World}{s i p:Nat}{B:WB}{ag:List Ob}{g:WG}{lim:Nat}
theorem Tu (h:bF tg w s i p B ag g lim)(hl:lim<1099511627776){id:Int}(hk:aH ag id=1):
  Calls prog 213 #[.pointer (some ⟨B.sF,0,none⟩),.int .i64 id] w fun e w'=>
   e=.returned (.tuple #[.string (if (g.fs.ep id).2 then bytesOf ag id else ⟨#[]⟩),.int .i64 (if (g.fs.ep id).2 then 0 else 14)])/\∃aC,az (dB i) tg aC w w'/\bF aC w' s i p B ag { g with fs:=(g.fs.ep id).1 } (lim+1):=by
 have Q7:=h.st.wf (id:=id) (by rw[hk];decide);obtain⟨htF,n,M,hn,hV,hM,hK⟩:=h.wp.qK;have c0:w.cell? ⟨B.sF,0,none⟩=some (.func (.func 115) #[ptr p] #[]):=by simp[World.cell?,h.wp.tree.hF]
 have c1:w.cell? ⟨B.sF,1,none⟩=some (.map (some B.mF)):=by simp[World.cell?,h.wp.tree.hF]
 by_cases lV:g.fs.kF id=true
 ·have hG:g.fs.ep id=(g.fs,true):=by unfold FS.ep;rw[aL lV]
  rw[hG];refine (Tq B.sF B.mF p n M id (bytesOf ag id) w c1 hV Q7 (by rw[hM,aL lV])).mono ?_;rintro e w' ⟨rfl,rfl⟩;exact⟨rfl,tg,az.refl _ _ _,h.mono (Nat.le_succ _)⟩
 ·have hM0:M (NL id)=none:=by rw[hM,ay lV]
  cases hb:g.fs.brk with
  | true=>
   have hG:g.fs.ep id=({ g.fs with brk:=false },false):=by unfold FS.ep;rw[ay lV,aL hb]
   rw[hG];refine (PG B.sF B.mF p n M id (fun w'=>∃aC,az Ka tg aC w w'/\gj aC w' s p ag g.fs.got false lim) w c0 c1 hV Q7 hM0 ((u7 h.st hl hk).mono ?_)).mono ?_
   ·rintro e w' ⟨er,rfl,aC,m,⟨_,rfl,hS⟩ | ⟨hc,_⟩⟩
    ·exact⟨rfl,aC,m,hS⟩
    ·rw[hb] at hc;cases hc
   ·rintro e w' ⟨rfl,aC,m,hS⟩
    exact⟨rfl,aC,m.mono (fun t ht=>uB ht),h.two,hS.mono (Nat.le_succ _),h.wp.fs m (fun k _ _=>eY h.two k) (Nat.le_succ _) ((h.wp.qK.moves m (eY h.two 2)).mono (Nat.le_succ _)) ((h.wp.qL.moves m (eY h.two 3)).mono (Nat.le_succ _))⟩
  | false=>
   have hG:g.fs.ep id=({ g.fs with got:=g.fs.got ++ [id],kF:=fun x=>decide (x=id) || g.fs.kF x },true):=by unfold FS.ep;rw[ay lV,ay (by rw[hb];decide)]
   rw[hG];refine (Tr B.sF B.mF p n M id (fun d w'=>d=bytesOf ag id/\∃aC,az Ka tg aC w w'/\gj aC w' s p ag (g.fs.got ++ [id]) false (lim+1)) w c0 c1 hV Q7 hM0 (by unfold maxLen;omega) ((u7 h.st hl hk).mono ?_) ?_).mono ?_
   ·rintro e w' ⟨er,rfl,aC,m,⟨hc,_⟩ | ⟨_,rfl,hS⟩⟩
    ·rw[hb] at hc;cases hc
    ·exact⟨bytesOf ag id,rfl,rfl,aC,m,hS⟩
   ·rintro d w1 ⟨_,aC,m,hS⟩
    have ht:=h.wp.tree.moves m (eY h.two 1);exact⟨by simp[World.cell?,ht.hF],(hV.moves m htF (eY h.two 2)).1⟩
   ·rintro e w' ⟨d,rfl,w1,⟨rfl,aC,m,hS⟩,hV2,hg2,hs2⟩
    have ht2:=(hV.moves m htF (eY h.two 2)).2;have m2:az (fun t=>t=(i,2)) aC aC w1 w':=jD hg2 hs2 ht2;have m3:az (fun t=>Ka t\/t=(i,2)) tg aC w w':=(m.mono (fun t ht=>.inl ht)).trans (m2.mono (fun t ht=>.inr ht));have hi:=h.two;refine⟨rfl,aC,m3.mono (fun t ht=>ht.elim uB (fun e=>.inr (.inl e))),h.two,?_,h.wp.fs m3 (fun k h2 _=>?_) (Nat.le_succ _) ?_ ?_⟩
    ·rw[show ({ g.fs with got:=g.fs.got ++ [id],kF:=fun x=>decide (x=id) || g.fs.kF x }:FS).brk=false from hb]
     exact hS.moves m2 (fun e=>by cases e) (fun e=>by cases e)
    ·rintro (h | h)
     ·exact eY hi k h
     ·cases h;exact h2 rfl
    ·refine⟨ht2,n+1,_,by omega,hV2,fun x=>?_,fun x hx=>?_⟩
     ·by_cases hx:x=id
      ·subst hx;rw[kH];simp
      ·rw[gQ (fun e=>hx (by injection e)),hM x];simp[hx]
     ·by_cases Hu:x=id
      ·rw[Hu];exact hk
      ·exact hK x (by simpa [Hu] using hx)
    ·exact (h.wp.qL.moves m3 (by rintro (h | h);exact eY hi 3 h;cases h)).mono (Nat.le_succ _)
theorem WK (h:bF tg w s i p B ag g lim)(hl:lim<1099511627776){id:Int}(hk:aH ag id=2):
  Calls prog 217 #[.pointer (some ⟨B.sD,0,none⟩),.int .i64 id] w fun e w'=>
   ∃v,e=.returned (.tuple #[v,.int .i64 (if (g.fs.gf id).2 then 0 else 14)])/\∃aC,az (dB i) tg aC w w'/\bF aC w' s i p B ag { g with fs:=(g.fs.gf id).1 } (lim+1)/\
    (if (g.fs.gf id).2 then lu aC w' (i,3) v (bR ag id) else v=.slice none 0 0)/\∀v es k,(k=3\/k=5)->lu tg w (i,k) v es->lu aC w' (i,k) v es:=by
 have Q7:=h.st.wf (id:=id) (by rw[hk];decide);obtain⟨htD,n,M,vK,hn,hV,hM,hK⟩:=h.wp.qL;have c0:w.cell? ⟨B.sD,0,none⟩=some (.func (.func 117) #[ptr p] #[]):=by simp[World.cell?,h.wp.tree.hD]
 have c1:w.cell? ⟨B.sD,1,none⟩=some (.map (some B.mD)):=by simp[World.cell?,h.wp.tree.hD]
 by_cases lV:g.fs.kD id=true
 ·have hG:g.fs.gf id=(g.fs,true):=by unfold FS.gf;rw[aL lV]
  rw[hG];have hrow:=(hK id lV).2;obtain⟨la,ln,lc,hv⟩:∃la ln lc,vK id=.slice la ln lc:=by
   rcases hrow.1.2 with ⟨e,_⟩ | ⟨g',c',_,e,_⟩
   ·exact⟨_,_,_,e⟩
   ·exact⟨_,_,_,e⟩
  refine (Ts B.sD B.mD p n M id la ln lc w c1 hV Q7 (by rw[hM,aL lV,hv])).mono ?_;rintro e w' ⟨rfl,rfl⟩;exact⟨_,rfl,tg,az.refl _ _ _,h.mono (Nat.le_succ _),by rw[aL rfl,<-hv];exact hrow,fun _ _ _ _ h=>h⟩
 ·have hM0:M (NL id)=none:=by rw[hM,ay lV]
  cases hb:g.fs.brk with
  | true=>
   have hG:g.fs.gf id=({ g.fs with brk:=false },false):=by unfold FS.gf;rw[ay lV,aL hb]
   rw[hG];refine (PI B.sD B.mD p n M id (fun w'=>∃aC,az Ka tg aC w w'/\gj aC w' s p ag g.fs.got false lim) w c0 c1 hV Q7 hM0 ((xu h.st hl hk).mono ?_)).mono ?_
   ·rintro e w' ⟨er,v,rfl,hv,aC,m,⟨_,rfl,hS⟩ | ⟨hc,_⟩,_⟩
    ·rw[hv (by decide)];exact⟨rfl,aC,m,hS⟩
    ·rw[hb] at hc;cases hc
   ·rintro e w' ⟨rfl,aC,m,hS⟩
    exact⟨_,rfl,aC,m.mono (fun t ht=>uB ht),⟨h.two,hS.mono (Nat.le_succ _),h.wp.fs m (fun k _ _=>eY h.two k) (Nat.le_succ _) ((h.wp.qK.moves m (eY h.two 2)).mono (Nat.le_succ _)) ((h.wp.qL.moves m (eY h.two 3)).mono (Nat.le_succ _))⟩,rfl,fun _ _ k _ hr=>hr.moves m (eY h.two k)⟩
  | false=>
   have hG:g.fs.gf id=({ g.fs with got:=g.fs.got ++ [id],kD:=fun x=>decide (x=id) || g.fs.kD x },true):=by unfold FS.gf;rw[ay lV,ay (by rw[hb];decide)]
   rw[hG];refine (Tt B.sD B.mD p n M id (fun la ln lc w'=>∃gb,Value.slice la ln lc=.slice (some ⟨gb,0,none⟩) (bR ag id).length (bR ag id).length/\w.heap.size<=gb/\w'.ownsRow 0 96 3 (.slice la ln lc) (bR ag id).length (flat (bR ag id))/\∃aC,aC gb=(0,0)/\az Ka tg aC w w'/\gj aC w' s p ag (g.fs.got ++ [id]) false (lim+1)) w c0 c1 hV Q7 hM0 (by unfold maxLen;omega) ((xu h.st hl hk).mono ?_) ?_).mono ?_
   ·rintro e w' ⟨er,v,rfl,_,aC,m,⟨hc,_⟩ | ⟨_,rfl,hS⟩,hr⟩
    ·rw[hb] at hc;cases hc
    ·obtain⟨gb,rfl,KR,ht0,hrow⟩:=hr rfl
     exact⟨_,_,_,rfl,gb,rfl,KR,hrow,aC,ht0,m,hS⟩
   ·rintro la ln lc w1 ⟨_,_,_,_,aC,_,m,hS⟩
    have ht:=h.wp.tree.moves m (eY h.two 1);exact⟨by simp[World.cell?,ht.hD],(hV.moves m htD (eY h.two 3)).1⟩
   ·rintro e w' ⟨la,ln,lc,rfl,w1,⟨gb,ada,KR,hrow,uA,ht0,m,hS⟩,hV2,hg2,hs2⟩
    have ht2:=(hV.moves m htD (eY h.two 3)).2;have hi:=h.two;have fo:gb<w1.heap.size:=ah hrow (by rw[ada];rfl)
    -- the new row is the I1
    have adb:jC (o5 uA gb (i,3)) w1:=fun k hk=>by rw[pS (by omega)];exact hS.fresh k hk
    have m1:az Ka tg (o5 uA gb (i,3)) w w1:=⟨m.os,m.tape,m.output,m.size,fun k hk=>by rw[pS (by omega)];exact m.tags k hk,m.block,fun _=>adb⟩;have hS1:gj (o5 uA gb (i,3)) w1 s p ag (g.fs.got ++ [id]) false (lim+1):=hS.zv adb (fun k hk=>pS (fun e=>by rw[e,ht0] at hk;cases hk) _);have Ym:o5 uA gb (i,3) B.mD=(i,3):=(hV.moves m1 htD (eY h.two 3)).2;have m2:az (fun t=>t=(i,3)) (o5 uA gb (i,3)) (o5 uA gb (i,3)) w1 w':=jD hg2 hs2 Ym;have m3:az (fun t=>Ka t\/t=(i,3)) tg (o5 uA gb (i,3)) w w':=(m1.mono (fun t ht=>.inl ht)).trans (m2.mono (fun t ht=>.inr ht));obtain⟨Vi,ck1,hbm⟩:=(hV.moves m1 htD (eY h.two 3)).1.isMap;have hmg:∀v es k,lu (o5 uA gb (i,3)) w1 (i,k) v es->lu (o5 uA gb (i,3)) w' (i,k) v es:=fun v es k hr=>hr.keep (fun g' kT hl'=>⟨hg2.block g' hl' (fun e=>by
     have e':g'=B.mD:=by injection e
     rw[e'] at kT;exact dS hr.1 hbm kT.symm),rfl⟩)
    have CN:lu (o5 uA gb (i,3)) w' (i,3) (.slice la ln lc) (bR ag id):=hmg _ _ _ ⟨hrow,fun g' kT=>by
     rw[ada] at kT;obtain rfl:gb=g':=by simpa [Value.ownBlock] using kT
     exact BU _ _ _⟩
    refine⟨_,rfl,_,m3.mono (fun t ht=>ht.elim uB (fun e=>.inr (.inr e))),⟨h.two,?_,h.wp.fs m3 (fun k _ h3=>?_) (Nat.le_succ _) ?_ ?_⟩,CN,fun v es k _ hr=>hmg _ _ _ (hr.moves m1 (eY h.two k))⟩
    ·rw[show ({ g.fs with got:=g.fs.got ++ [id],kD:=fun x=>decide (x=id) || g.fs.kD x }:FS).brk=false from hb]
     exact hS1.moves m2 (fun e=>by cases e) (fun e=>by cases e)
    ·rintro (h | h)
     ·exact eY hi k h
     ·cases h;exact h3 rfl
    ·exact (h.wp.qK.moves m3 (by rintro (h | h);exact eY hi 2 h;cases h)).mono (Nat.le_succ _)
    ·refine⟨Ym,n+1,_,fun x=>if x=id then .slice la ln lc else vK x,by omega,hV2,fun x=>?_,fun x hx=>?_⟩
     ·by_cases hx:x=id
      ·subst hx;rw[kH];simp
      ·rw[gQ (fun e=>hx (by injection e)),hM x];simp[hx]
     ·by_cases Hu:x=id
      ·subst Hu
       show _/\lu _ _ _ (if x=x then _ else _) _;rw[aL rfl];exact⟨hk,CN⟩
      ·show _/\lu _ _ _ (if x=id then _ else _) _
       rw[ay Hu];have rA:g.fs.kD x=true:=by simpa [Hu] using hx
       exact⟨(hK x rA).1,hmg _ _ _ ((hK x rA).2.moves m1 (eY h.two 3))⟩
end
theorem pU (x:aK)(n:ByteArray)(W:World):Calls prog 190 #[.agg #[.string x.1,.int .i64 x.2.1,.int .i64 x.2.2],.string n] W fun e w'=>e=.returned (.int .i64 (jm x.1 n))/\Below W.heap.size W w':=by
 have hcon:=fun w=>strings_Compare x.1 n w;go_enter func190,ntmps190;go_wp2_with (go_at_call 191;refine (hcon _).mono ?_;rintro e w' ⟨rfl,rfl⟩);go_ret;exact⟨rfl,(Below.refl _ _).alloc (bA _) _⟩
theorem vP {w:World}{b:Nat}{es:List aK}(hc:∀j u,(flat es)[j]? = some u->w.cell? ⟨b,j,none⟩=some u){i:Nat}(hi:i<es.length):
  w.cell? ⟨b,i*3,none⟩=some (.string es[i].1)/\w.cell? ⟨b,i*3+1,none⟩=some (.int .i64 es[i].2.1)/\w.cell? ⟨b,i*3+2,none⟩=some (.int .i64 es[i].2.2):=by
 refine⟨hc _ _ ?_,hc _ _ ?_,hc _ _ ?_⟩
 ·have:=fZ es i 0 hi (by decide);simpa [bL] using this
 ·have:=fZ es i 1 hi (by decide);simpa [bL] using this
 ·have:=fZ es i 2 hi (by decide);simpa [bL] using this
def BX (es:List aK)(n:ByteArray)(lo hi:Nat):Prop:=(∀j (h:j<es.length),j<lo->jm es[j].1 n<0)/\(∀j (h:j<es.length),hi<=j->¬jm es[j].1 n<0)
theorem Lu {es:List aK}{n:ByteArray}{k:Nat}(hk:k<=es.length)(h:BX es n k k):dz es n=k:=by
 unfold dz;have e:es=es.take k++es.drop k:=(List.take_append_drop k es).symm;rw[e,List.countP_append,List.countP_eq_length.2 (by
  intro x hx;obtain⟨j,hj,rfl⟩:=List.getElem_of_mem hx;rw[List.length_take] at hj;rw[List.getElem_take];exact decide_eq_true (h.1 j (by omega) (by omega))),List.countP_eq_zero.2 (by
  intro x hx;obtain⟨j,hj,rfl⟩:=List.getElem_of_mem hx;rw[List.length_drop] at hj;rw[List.getElem_drop];simpa using h.2 (k+j) (by omega) (by omega)),List.length_take]
 omega
theorem uC {es:List aK}(h:aU es){a b:Nat}(hb:b<es.length)(hab:a<b):jm (es[a]'(by omega)).1 es[b].1<0:=List.pairwise_iff_getElem.1 h a b (by omega) hb hab
theorem WL (b cap:Nat)(es:List aK)(n:ByteArray)(w:World)(hb:b<w.heap.size)(hc:∀j u,(flat es)[j]? = some u->w.cell? ⟨b,j,none⟩=some u)(hr:aU es)(hl:es.length<=16):
  Calls prog 189 #[.slice (some ⟨b,0,none⟩) es.length cap,.string n,.func (.func 190) #[] #[]] w fun e w'=>e=.returned (.tuple #[.int .i64 (dz es n:Nat),.bool (aW es n)])/\Below w.heap.size w w':=by
 have HC:Aside (∀j u,(flat es)[j]? = some u->w.cell? ⟨b,j,none⟩=some u):=hc;have HR:Aside (aU es):=hr;clear hc hr;go_enter func189,ntmps189;go_wp2
 go_loopg [9,10] es.length (fun kx s9 s10 wr=>∃lo hi:Nat,s9=.int .i64 lo/\s10=.int .i64 hi/\lo<=hi/\hi<=es.length/\hi-lo<=kx/\Aside (Below w.heap.size w wr)/\Aside (BX es n lo hi))
 case atStart=>exact⟨0,es.length,rfl,rfl,dG _,bA _,by omega,Below.refl _ _,(⟨fun j _ h=>absurd h (Nat.not_lt_zero _),fun j h1 h2=>absurd h2 (by omega)⟩:BX es n 0 es.length)⟩
 case round=>
  obtain⟨lo,hi,rfl,rfl,hlh,lV,hg,S1,I⟩:=hrel;have iG:b<wr.heap.size:=cv hb S1.out.size;have cells:∀i (hi:i<es.length),wr.cell? ⟨b,i*3,none⟩=some (.string es[i].1)/\wr.cell? ⟨b,i*3+1,none⟩=some (.int .i64 es[i].2.1)/\wr.cell? ⟨b,i*3+2,none⟩=some (.int .i64 es[i].2.2):=fun i hi=>vP (fun j u hu=>(S1.out.cell (p:=⟨b,j,none⟩) hb).trans (HC.out j u hu)) hi;have CE:Aside _:=cells;clear cells;by_cases hlt:lo<hi
  ·obtain⟨k0,k1,k2⟩:=CE.out ((lo+hi) / 2) (by omega)
   generalize hy:es[(lo+hi) / 2]'(by omega)=y at k0 k1 k2;have Y:Aside (es[(lo+hi) / 2]'(by omega)=y):=hy;clear hy;by_cases Yn:jm y.1 n<0
   ·go_wp2_with (go_at_call 190;refine (pU y n _).mono ?_;rintro e w' ⟨rfl,hbl⟩)
    go_roundg (hi-((lo+hi) / 2+1))
    case measure=>omega
    case rel=>
     have I2:Aside (BX es n ((lo+hi) / 2+1) hi):=⟨fun j hj lU=>by
      by_cases e:j=(lo+hi) / 2
      ·subst e;rw[Y.out];exact Yn
      ·have:=uC HR.out (a:=j) (b:=(lo+hi) / 2) (by omega) (by omega)
       rw[Y.out] at this;exact oI this Yn,I.out.2⟩
     exact⟨(lo+hi) / 2+1,hi,by rw[show ((lo:Int)+(hi:Int)) / 2+1=(((lo+hi) / 2+1:Nat):Int) by omega],rfl,by omega,lV,bA _,S1.out.trans (hbl.mono S1.out.size),I2⟩
   ·go_wp2_with (go_at_call 190;refine (pU y n _).mono ?_;rintro e w' ⟨rfl,hbl⟩)
    go_roundg ((lo+hi) / 2-lo)
    case measure=>omega
    case rel=>
     have I2:Aside (BX es n lo ((lo+hi) / 2)):=⟨I.out.1,fun j hj lU h=>by
      by_cases e:j=(lo+hi) / 2
      ·subst e;rw[Y.out] at h;omega
      ·have:=uC HR.out (a:=(lo+hi) / 2) (b:=j) hj (by omega)
       rw[Y.out] at this
       have:=oI this h
       omega⟩
     exact⟨lo,(lo+hi) / 2,rfl,by rw[show ((lo:Int)+(hi:Int)) / 2=(((lo+hi) / 2:Nat):Int) by omega],by omega,by omega,bA _,S1.out.trans (hbl.mono S1.out.size),I2⟩
  ·obtain rfl:hi=lo:=by omega
   have PJ:=Lu lV I.out;by_cases hn:hi<es.length
   ·obtain⟨k0,k1,k2⟩:=CE.out hi hn
    generalize hy:es[hi]=y at k0 k1 k2;have Y:Aside (es[hi]=y):=hy;clear hy;have ht:aW es n=decide (jm y.1 n=0):=by
     unfold aW;rw[PJ,kO hn,Y.out];show decide (y.1=n)=_;by_cases e:y.1=n
     ·rw[e,jd];simp
     ·rw[dY e,dY (fun h=>e (DB h))]
    have IT:Aside (dz es n=hi):=PJ;have TT:Aside (aW es n=decide (jm y.1 n=0)):=ht;clear PJ ht;by_cases Yn:jm y.1 n=0
    ·go_wp2_with (go_at_call 190;refine (pU y n _).mono ?_;rintro e w' ⟨rfl,hbl⟩)
     go_ret2;exact⟨by rw[IT.out,TT.out];simp[Yn],S1.out.trans (hbl.mono S1.out.size)⟩
    ·go_wp2_with (go_at_call 190;refine (pU y n _).mono ?_;rintro e w' ⟨rfl,hbl⟩)
     go_ret2;exact⟨by rw[IT.out,TT.out];simp[Yn],S1.out.trans (hbl.mono S1.out.size)⟩
   ·have ht:aW es n=false:=by
     unfold aW;rw[PJ,List.getElem?_eq_none (by omega)];rfl
    have IT:Aside (dz es n=hi):=PJ;have TT:Aside (aW es n=false):=ht;clear PJ ht;go_wp2;go_ret2;exact⟨by rw[IT.out,TT.out];rfl,S1.out⟩
theorem Lv (b cap:Nat)(es:List aK)(n:ByteArray)(w:World)(hb:b<w.heap.size)(hc:∀j u,(flat es)[j]? = some u->w.cell? ⟨b,j,none⟩=some u)(hr:aU es)(hl:es.length<=16):
  Calls prog 133 #[.slice (some ⟨b,0,none⟩) es.length cap,.string n] w fun e w'=>e=.returned (.tuple #[.int .i64 (dz es n:Nat),.bool (aW es n)])/\Below w.heap.size w w':=by
 have hcon:=WL b cap es n w hb hc hr hl;generalize dz es n=ix at hcon ⊢;generalize aW es n=th at hcon ⊢;clear hc hr hl;go_enter func133,ntmps133;go_wp2_with (go_at_call 189;refine hcon.mono ?_;rintro e w' ⟨rfl,hbl⟩);go_ret2;exact⟨rfl,hbl⟩
theorem WM (n:ByteArray)(w:World):Calls prog 189 #[.slice none 0 0,.string n,.func (.func 190) #[] #[]] w fun e w'=>e=.returned (.tuple #[.int .i64 0,.bool false])/\w'=w:=by
 go_enter func189,ntmps189;go_wp2;refine wp_loop_rounds 1 ?_;rw[rounds_succ];go_wp2;go_ret2;exact⟨rfl,rfl⟩
theorem Lx (n:ByteArray)(w:World):Calls prog 133 #[.slice none 0 0,.string n] w fun e w'=>e=.returned (.tuple #[.int .i64 0,.bool false])/\w'=w:=by
 go_enter func133,ntmps133;go_wp2_with (go_at_call 189;refine (WM n _).mono ?_;rintro e w' ⟨rfl,rfl⟩);go_ret2;exact⟨rfl,rfl⟩
theorem jE {w:World}{v:Value}{es:List aK}(hrow:w.ownsRow 0 96 3 v es.length (flat es))(n:ByteArray)(hr:aU es)(hl:es.length<=16):
  Calls prog 133 #[v,.string n] w fun e w'=>e=.returned (.tuple #[.int .i64 (dz es n:Nat),.bool (aW es n)])/\Below w.heap.size w w':=by
 rcases hrow.2 with ⟨rfl,h0⟩ | ⟨g,cap,cur,rfl,_,hg,_⟩
 ·have:es = []:=List.length_eq_zero_iff.1 h0
  subst this;refine (Lx n w).mono ?_;rintro e w' ⟨rfl,rfl⟩;exact⟨rfl,Below.refl _ _⟩
 ·refine Lv g cap es n w (Array.getElem?_eq_some_iff.1 hg).1 (fun j u hu=>?_) hr hl
  have:=aQ hrow j u hu
  rwa [Nat.zero_add] at this
theorem BZ {q:List ByteArray}(hq:Good q):keyOf prog 147 (.agg (av q))=some (lp prog q):=j9 hq.val
theorem Tv (t:Nat)(s0 s1 s2 s3 s4 nm:ByteArray)(k id:Int)(w:World)(hk:k≠2):
  Calls prog 187 #[.pointer (some ⟨t,0,none⟩),.agg #[.string s0,.string s1,.string s2,.string s3,.string s4],.agg #[.string nm,.int .i64 k,.int .i64 id]] w fun e w'=>e=.returned (.tuple #[.slice none 0 0,.int .i64 5])/\Below w.heap.size w w':=by
 have dy:(k == 2)=false:=by simpa using hk
 go_enter func187,ntmps187;go_wp2;go_ret2;exact⟨rfl,((Below.refl _ _).alloc (bA _) _).alloc (by simp) _⟩
theorem Tw (t m:Nat)(s0 s1 s2 s3 s4 nm:ByteArray)(v:Value)(w:World)(ht:t<w.heap.size)(c8:w.cell? ⟨t,8,none⟩=some (.map (some m)))
  (hlk:∀W,Below w.heap.size w W->(Instr.lookup 162 (.map (some m)) (.agg #[.string s0,.string s1,.string s2,.string s3,.string s4]) false).run prog W=.ok v W):
  Calls prog 187 #[.pointer (some ⟨t,0,none⟩),.agg #[.string s0,.string s1,.string s2,.string s3,.string s4],.agg #[.string nm,.int .i64 2,.int .i64 0]] w fun e w'=>e=.returned (.tuple #[v,.int .i64 0])/\Below w.heap.size w w':=by
 have hl:=hlk _ (aB (((Below.refl w.heap.size w).alloc (bA _) (.cells #[.string s0,.string s1,.string s2,.string s3,.string s4] 147)).alloc (by simp) (.cells #[.string nm,.int .i64 2,.int .i64 0] 96)));clear hlk;go_enter func187,ntmps187;go_wp2
 go_region
 all_goals
  go_wp2;go_ret2;exact⟨rfl,aB (((Below.refl _ _).alloc (bA _) _).alloc (by simp) _)⟩
theorem Tx (t d:Nat)(s0 s1 s2 s3 s4 nm:ByteArray)(id:Int)(R:Value->Int->World->World->Prop)(w:World)(ht:t<w.heap.size)(c2:w.cell? ⟨t,2,none⟩=some (.pointer (some ⟨d,0,none⟩)))(hid:id≠0)
  (lG:∀W,Below w.heap.size w W->Calls prog 217 #[.pointer (some ⟨d,0,none⟩),.int .i64 id] W fun e w'=>∃v er,e=.returned (.tuple #[v,.int .i64 er])/\R v er W w'):
  Calls prog 187 #[.pointer (some ⟨t,0,none⟩),.agg #[.string s0,.string s1,.string s2,.string s3,.string s4],.agg #[.string nm,.int .i64 2,.int .i64 id]] w fun e w'=>∃v er W,Below w.heap.size w W/\e=.returned (.tuple #[v,.int .i64 er])/\R v er W w':=by
 have hW:=aB (((Below.refl w.heap.size w).alloc (bA _) (.cells #[.string s0,.string s1,.string s2,.string s3,.string s4] 147)).alloc (by simp) (.cells #[.string nm,.int .i64 2,.int .i64 id] 96));have hg:=lG _ hW;have HW:Hid _:=hW;have ZW:(id == 0)=false:=by simpa using hid
 clear lG hW;go_enter func187,ntmps187;go_wp2
 go_region_with (go_at_call 217;refine hg.mono ?_;rintro e w1 ⟨v,er,rfl,hR⟩;have HR:Hid _:=hR;clear hR)
 all_goals
  go_wp2;go_ret2;exact⟨v,er,_,HW.out,rfl,HR.out⟩
end Go.Proofs.YtlgidcmmgohagaaGreat
