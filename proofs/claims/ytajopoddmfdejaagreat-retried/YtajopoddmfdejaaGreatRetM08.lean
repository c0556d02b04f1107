/-
  What is proved here: Parse: the text of a path of valid names, at most five, tells that path. canopykeep's small functions: pick, short, path: a path of one to three names of four. a workspace's tree as its ..
-/
import Derived.Test.YtajopoddmfdejaaGreatRetM07
import Derived.Test.YtajopoddmfdejaaGreatRetM04
import Derived.Test.YtajopoddmfdejaaGreatRetM06
namespace Go.Proofs.YtajopoddmfdejaaGreat
open Go.RowKit Go.Sort Go.Shelf
set_option linter.unusedVariables false
set_option maxRecDepth 100000
set_option maxHeartbeats 16000000
def PathAt (w:World)(b:Nat)(l:List ByteArray):Prop:=b<w.heap.size/\∀ k,k<5->w.cell? ⟨b,k,none⟩=some (.string (l.getD k ⟨#[]⟩))/\w.frozen? ⟨b,k,none⟩=false
theorem PathAt.keep {w w':World}{b:Nat}{l:List ByteArray}(h:PathAt w b l)(hb:Below w.heap.size w w'):PathAt w' b l:=
 ⟨Nat.lt_of_lt_of_le h.1 hb.size,fun k hk=>⟨((bcell hb).1 b k h.1).trans (h.2 k hk).1,((bcell hb).2 b k h.1).trans (h.2 k hk).2⟩⟩
theorem PathAt.five {w:World}{b:Nat}{l:List ByteArray}(h:PathAt w b l):(w.cell? ⟨b,0,none⟩=some (.string (l.getD 0 ⟨#[]⟩))/\w.cell? ⟨b,1,none⟩=some (.string (l.getD 1 ⟨#[]⟩))/\w.cell? ⟨b,2,none⟩=some (.string (l.getD 2 ⟨#[]⟩))/\w.cell? ⟨b,3,none⟩=some (.string (l.getD 3 ⟨#[]⟩))/\w.cell? ⟨b,4,none⟩=some (.string (l.getD 4 ⟨#[]⟩)))/\∀ k,k<5->w.frozen? ⟨b,k,none⟩=false:=
 ⟨⟨(h.2 0 (by omega)).1,(h.2 1 (by omega)).1,(h.2 2 (by omega)).1,(h.2 3 (by omega)).1,(h.2 4 (by omega)).1⟩,fun k hk=>(h.2 k hk).2⟩
theorem addr_ne {b c j k:Nat}(h:b≠c\/j≠k):(⟨b,j,none⟩:Addr)≠⟨c,k,none⟩:=fun e=>by
 simp only[Addr.mk.injEq,and_true] at e
 rcases h with h | h
 ·exact h e.1
 ·exact h e.2
theorem PathAt.put {w:World}{b j:Nat}{l m:List ByteArray}(h:PathAt w b l)(hm:∀ k,k<5->k≠j->m.getD k ⟨#[]⟩=l.getD k ⟨#[]⟩)(h5:j<5):PathAt (w.setCell ⟨b,j,none⟩ (.string (m.getD j ⟨#[]⟩))) b m:=by
 refine⟨by simpa using h.1,fun k hk=>⟨?_,by rw[World.frozen?_setCell];exact (h.2 k hk).2⟩⟩
 by_cases e:k=j
 ·subst e
  exact World.cell?_setCell_same _ _ _ (h.2 k hk).1
 ·rw[World.cell?_setCell_other _ _ _ _ (addr_ne (.inr (fun e'=>e e'.symm))),hm k hk e]
  exact (h.2 k hk).1
theorem PathAt.set {w:World}{b j:Nat}{l:List ByteArray}(h:PathAt w b (l.take j))(h5:j<5):PathAt (w.setCell ⟨b,j,none⟩ (.string (l.getD j ⟨#[]⟩))) b (l.take (j+1)):=by
 have:=h.put (m:=l.take (j+1)) (j:=j) (fun k hk hne=>?_) h5
 ·rwa [show (l.take (j+1)).getD j ⟨#[]⟩=l.getD j ⟨#[]⟩ by rw[List.getD_eq_getElem?_getD,List.getD_eq_getElem?_getD,List.getElem?_take,if_pos (Nat.lt_succ_self _)]] at this
 ·rw[List.getD_eq_getElem?_getD,List.getD_eq_getElem?_getD,List.getElem?_take,List.getElem?_take]
  by_cases hk2:k<j
  ·rw[if_pos hk2,if_pos (by omega)]
  ·rw[if_neg hk2,if_neg (by omega)]
theorem PathAt.over {w:World}{b j:Nat}{l:List ByteArray}(h:PathAt w b l)(h5:j<5):PathAt (w.setCell ⟨b,j,none⟩ (.string (l.getD j ⟨#[]⟩))) b l:=h.put (fun _ _ _=>rfl) h5
theorem PathAt.other {w:World}{b c j:Nat}{l:List ByteArray}{v:Value}(h:PathAt w b l)(hc:c≠b):PathAt (w.setCell ⟨c,j,none⟩ v) b l:=
 ⟨by simpa using h.1,fun k hk=>⟨by rw[World.cell?_setCell_other _ _ _ _ (addr_ne (.inl hc))];exact (h.2 k hk).1,by rw[World.frozen?_setCell];exact (h.2 k hk).2⟩⟩
theorem five_cases {k:Nat}(h:k<5):k=0\/k=1\/k=2\/k=3\/k=4:=by omega
theorem PathAt.of_block {w:World}{b:Nat}(h:w.heap[b]? = some (.cells #[.string ⟨#[]⟩,.string ⟨#[]⟩,.string ⟨#[]⟩,.string ⟨#[]⟩,.string ⟨#[]⟩] 104 (0,0))):PathAt w b []:=by
 refine⟨(Array.getElem?_eq_some_iff.1 h).1,fun k hk=>?_⟩
 rcases five_cases hk with rfl | rfl | rfl | rfl | rfl <;> simp[World.cell?,World.frozen?,h]
theorem path_new0 (w:World):PathAt ((w.alloc (.cells #[.string ⟨#[]⟩,.string ⟨#[]⟩,.string ⟨#[]⟩,.string ⟨#[]⟩,.string ⟨#[]⟩] 104)).alloc (.cells #[.string ⟨#[]⟩,.string ⟨#[]⟩,.string ⟨#[]⟩,.string ⟨#[]⟩,.string ⟨#[]⟩] 104)) w.heap.size []:=.of_block (heap_alloc2_old w _ _)
theorem path_new1 (w:World):PathAt ((w.alloc (.cells #[.string ⟨#[]⟩,.string ⟨#[]⟩,.string ⟨#[]⟩,.string ⟨#[]⟩,.string ⟨#[]⟩] 104)).alloc (.cells #[.string ⟨#[]⟩,.string ⟨#[]⟩,.string ⟨#[]⟩,.string ⟨#[]⟩,.string ⟨#[]⟩] 104)) (w.heap.size+1) []:=.of_block (heap_alloc2_new w _ _)
theorem parse_any (l:List ByteArray)(hl:Good l)(w:World):Calls Tryz.prog 46 #[.string (joinB l)] w fun e w'=>e=.returned (.tuple #[pathV l,.int .i64 0])/\Below w.heap.size w w':=by
 have hsz:=join_size hl.val
 have h5:=hl.len
 have hcut:∀ j (hj:j<l.length) W,Calls Tryz.prog 72 #[.string (joinB (l.drop j)),.string ⟨#[47]⟩] W fun e w'=>e=.returned (.tuple #[.string (l.getD j ⟨#[]⟩),.string (joinB (l.drop (j+1))),.bool (decide (j+1<l.length))])/\Below W.heap.size W w':=by
  intro j hj W
  have e1:l.drop j=l[j] :: l.drop (j+1):=List.drop_eq_getElem_cons hj
  have hv:validB l[j]=true:=hl.val _ (List.getElem_mem hj)
  have hm:(joinB (l.drop j)).size<=1000:=by
   have:=join_size (l:=l.drop j) (fun x hx=>hl.val x (List.mem_of_mem_drop hx))
   have h2:(l.drop j).length<=5:=by rw[List.length_drop];omega
   omega
  rw[e1] at hm
  have:=cut_any l[j] (l.drop (j+1)) hv hm W
  rw[<- e1] at this
  have e2:(!(l.drop (j+1)).isEmpty)=decide (j+1<l.length):=by
   by_cases h:j+1<l.length
   ·rw[decide_eq_true h,List.drop_eq_getElem_cons h];rfl
   ·rw[decide_eq_false h,List.drop_eq_nil_of_le (by omega)];rfl
  rw[e2] at this
  rw[List.getD_eq_getElem?_getD,List.getElem?_eq_getElem hj,Option.getD_some]
  exact this
 have hval:∀ j (hj:j<l.length) W,Calls Tryz.prog 73 #[.string (l.getD j ⟨#[]⟩)] W fun e w'=>e=.returned (.bool true)/\w'=W:=by
  intro j hj W
  have hv:validB l[j]=true:=hl.val _ (List.getElem_mem hj)
  rw[List.getD_eq_getElem?_getD,List.getElem?_eq_getElem hj,Option.getD_some]
  have:=valid_any l[j] W (by have:=(valid_size hv).2;unfold maxLen;omega)
  rwa [hv] at this
 have hclo:∀ j W,Calls Tryz.prog 74 #[.string (l.getD j ⟨#[]⟩)] W fun e w'=>e=.returned (.string (l.getD j ⟨#[]⟩))/\Below W.heap.size W w':=fun j W=>clone_any _ W (by
  rw[List.getD_eq_getElem?_getD]
  cases hj:l[j]? with
  | none=>simp[ByteArray.size]
  | some x=>
   have:=(valid_size (hl.val x (List.mem_of_getElem? hj))).2
   rw[Option.getD_some];omega)
 have hne:(!(joinB l).toList.isEmpty)=decide (0<l.length):=by
  rw[toL_eq]
  match l,hl with
  | [],_=>rfl
  | [x],hl=>
   have:=valid_ne (hl.val x (by simp))
   rw[toL_eq] at this
   rw[joinB_one]
   cases h:toL x with
   | nil=>rw[h] at this;cases this
   | cons c r=>rfl
  | x :: y :: r,_=>
   rw[joinB_cons x (by simp)]
   simp
 have HCUT:Hid _:=hcut
 have HVAL:Hid _:=hval
 have HCLO:Hid _:=hclo
 clear hcut hval hclo hsz
 go_enter Tryz.func46,Tryz.ntmps46
 go_wp2
 have HA0:Hid (PathAt ((w.alloc (.cells #[.string ⟨#[]⟩,.string ⟨#[]⟩,.string ⟨#[]⟩,.string ⟨#[]⟩,.string ⟨#[]⟩] 104)).alloc (.cells #[.string ⟨#[]⟩,.string ⟨#[]⟩,.string ⟨#[]⟩,.string ⟨#[]⟩,.string ⟨#[]⟩] 104)) w.heap.size []):=path_new0 w
 have HA1:Hid (PathAt ((w.alloc (.cells #[.string ⟨#[]⟩,.string ⟨#[]⟩,.string ⟨#[]⟩,.string ⟨#[]⟩,.string ⟨#[]⟩] 104)).alloc (.cells #[.string ⟨#[]⟩,.string ⟨#[]⟩,.string ⟨#[]⟩,.string ⟨#[]⟩,.string ⟨#[]⟩] 104)) (w.heap.size+1) []):=path_new1 w
 go_loopw [5,6,7] (fun r m i wr=>∃ j:Nat,j<=l.length/\i=.int .i64 (j:Int)/\m=.bool (decide (j<l.length))/\r=.string (joinB (l.drop j))/\Below w.heap.size w wr/\Hid (PathAt wr w.heap.size [])/\Hid (PathAt wr (w.heap.size+1) (l.take j))) (fun _ _ i _=>l.length-(intOf i).toNat)
 case atStart=>exact⟨0,Nat.zero_le _,rfl,rfl,rfl,((Below.refl _ _).alloc (Nat.le_refl _) _).alloc (by simp) _,HA0.out,HA1.out⟩
 case round=>
  obtain⟨j,hj,rfl,rfl,rfl,hb,HP0,HP1⟩:=hrel
  by_cases hlt:j<l.length
  ·rw[decide_eq_true hlt]
   have hj5:j<5:=by omega
   have hj5':((j:Int) == 5)=false:=by simp;omega
   have hji:(j:Int)<5:=by omega
   have hcj:=HCUT.out j hlt
   have hvj:=HVAL.out j hlt
   have hzz:w.heap.size+1<wr.heap.size:=HP1.out.1
   generalize hm:decide (j+1<l.length)=more at hcj
   have HM:Hid _:=hm
   generalize hx:l.getD j ⟨#[]⟩=x at hcj hvj
   have HX:Hid _:=hx
   clear hm hx
   go_wp2_with fail
   refine Calls.mono (hcj wr) ?_
   rintro e w1 ⟨rfl,hb1⟩
   have hz1:w.heap.size+1<w1.heap.size:=Nat.lt_of_lt_of_le hzz hb1.size
   have k1:=((HP1.out.keep hb1).2 j hj5)
   obtain⟨k1c,k1f⟩:=k1
   generalize (l.take j).getD j ⟨#[]⟩=x0 at k1c
   go_wp2_with (go_at_call 73;refine Calls.mono (hvj _) ?_;rintro e w2 ⟨rfl,rfl⟩)
   go_roundw
   case rel=>
    refine⟨j+1,by omega,by go_num,by rw[HM.out],rfl,?_,?_,?_⟩
    ·refine Below.setCell ?_ (by simp) _
     exact below_via hb hb1
    ·exact (HP0.out.keep hb1).other (by omega)
    ·rw[<- HX.out];exact (HP1.out.keep hb1).set hj5
   case measure=>simp[intOf];omega
  ·rw[decide_eq_false hlt]
   have hje:j=l.length:=by omega
   subst hje
   rw[List.take_length] at HP1
   rw[List.drop_length]
   go_wp2
   go_loopw [32] (fun i wr=>∃ k:Nat,k<=5/\i=.int .i64 (k:Int)/\Below w.heap.size w wr/\Hid (PathAt wr w.heap.size [])/\Hid (PathAt wr (w.heap.size+1) l)) (fun i _=>5-(intOf i).toNat)
   case atStart=>exact⟨0,by omega,rfl,hb,HP0,HP1⟩
   case round=>
    obtain⟨k,hk,rfl,hb2,HQ0,HQ1⟩:=hrel
    have hz0:w.heap.size<wr.heap.size:=HQ0.out.1
    have hz1:w.heap.size+1<wr.heap.size:=HQ1.out.1
    by_cases hk5:k<5
    ·have hki:(k:Int)<5:=by omega
     obtain⟨kc,kf⟩:=HQ1.out.2 k hk5
     have hck:=HCLO.out k
     generalize hx:l.getD k ⟨#[]⟩=x at hck kc
     have HX:Hid _:=hx
     clear hx
     go_wp2_with fail
     refine Calls.mono (hck wr) ?_
     rintro e w1 ⟨rfl,hb1⟩
     obtain⟨kc1,kf1⟩:=(HQ1.out.keep hb1).2 k hk5
     rw[HX.out] at kc1
     have hz2:w.heap.size+1<w1.heap.size:=Nat.lt_of_lt_of_le hz1 hb1.size
     go_wp2
     go_roundw
     case rel=>
      refine⟨k+1,by omega,by go_num,?_,?_,?_⟩
      ·refine Below.setCell ?_ (by simp) _
       exact below_via hb2 hb1
      ·exact (HQ0.out.keep hb1).other (by omega)
      ·rw[<- HX.out];exact (HQ1.out.keep hb1).over hk5
     case measure=>simp[intOf];omega
    ·have hki:¬ (k:Int)<5:=by omega
     obtain⟨⟨p0,p1,p2,p3,p4⟩,pf⟩:=HQ1.out.five
     obtain⟨⟨q0,q1,q2,q3,q4⟩,qf⟩:=HQ0.out.five
     have qf0:=qf 0 (by omega)
     have qf1:=qf 1 (by omega)
     have qf2:=qf 2 (by omega)
     have qf3:=qf 3 (by omega)
     have qf4:=qf 4 (by omega)
     clear pf qf
     obtain⟨s0,s1,s2,s3,s4,hP⟩:∃ s0 s1 s2 s3 s4,pathA l = #[.string s0,.string s1,.string s2,.string s3,.string s4]:=⟨_,_,_,_,_,rfl⟩
     simp only[pathA,Array.mk.injEq,List.cons.injEq,Value.string.injEq,and_true] at hP
     obtain⟨e0,e1,e2,e3,e4⟩:=hP
     rw[e0] at p0
     rw[e1] at p1
     rw[e2] at p2
     rw[e3] at p3
     rw[e4] at p4
     have HE:Hid _:=And.intro e0 (And.intro e1 (And.intro e2 (And.intro e3 e4)))
     clear e0 e1 e2 e3 e4
     simp only[List.getD_nil] at q0 q1 q2 q3 q4
     have hv:pathV l=.agg #[.string s0,.string s1,.string s2,.string s3,.string s4]:=by
      unfold pathV pathA
      rw[HE.out.1,HE.out.2.1,HE.out.2.2.1,HE.out.2.2.2.1,HE.out.2.2.2.2]
     go_wp2
     exact bodyPost_ret (v:=.tuple #[.agg #[.string s0,.string s1,.string s2,.string s3,.string s4],.int .i64 0]) (by simp[results,Tryz.results46,go_sem,q0,q1,q2,q3,q4]) rfl ⟨rfl,by
      repeat (refine Below.setCell ?_ (by simp) _)
      exact hb2⟩
def letters:List ByteArray:=[⟨#[97]⟩,⟨#[98]⟩,⟨#[99]⟩,⟨#[100]⟩]
def nameE:ByteArray:=⟨#[101]⟩
def nameF:ByteArray:=⟨#[102]⟩
theorem letter_valid {x:ByteArray}(h:x ∈ letters):validB x=true/\x≠nameE/\x≠nameF:=by
 simp only[letters,List.mem_cons,List.not_mem_nil,or_false] at h
 rcases h with rfl | rfl | rfl | rfl <;> exact⟨by unfold validB;simp only[ByteArray.toList_eq];decide,by decide,by decide⟩
structure Letters (l:List ByteArray):Prop where
 all:∀ x ∈ l,x ∈ letters
 pos:1<=l.length
 len:l.length<=3
theorem Letters.good {l:List ByteArray}(h:Letters l):Good l:=⟨fun x hx=>(letter_valid (h.all x hx)).1,by have:=h.len;omega⟩
def pickN (c n:Int):Int:=if c<0 then (-(c+1)) % n else c % n
theorem pickN_range {c n:Int}(h:0<n):0<=pickN c n/\pickN c n<n:=by
 unfold pickN
 split
 ·exact⟨Int.emod_nonneg _ (by omega),Int.emod_lt_of_pos _ h⟩
 ·exact⟨Int.emod_nonneg _ (by omega),Int.emod_lt_of_pos _ h⟩
theorem kpick_any (c n:Int)(w:World)(hc:-9223372036854775808<=c/\c<=9223372036854775807)(hn:0<n)(hn2:n<=1000000000):
  Calls Tryz.prog 18 #[.int .i64 c,.int .i64 n] w fun e w'=>e=.returned (.int .i64 (pickN c n))/\w'=w:=by
 have hn0:(n == 0)=false:=by simp;omega
 have hnz:n≠0:=by omega
 unfold pickN
 by_cases hneg:c<0
 ·rw[if_pos hneg]
  have h1:IntKind.i64.wrap (c+1)=c+1:=by rw[IntKind.wrap_i64] <;> omega
  have h2:IntKind.i64.wrap (-(c+1)) = -(c+1):=by rw[IntKind.wrap_i64] <;> omega
  have h3:Int.tmod (-(c+1)) n=(-(c+1)) % n:=Int.tmod_eq_emod_of_nonneg (by omega)
  have h4:IntKind.i64.wrap ((-(c+1)) % n)=(-(c+1)) % n:=by
   have:=Int.emod_nonneg (-(c+1)) hnz
   have:=Int.emod_lt_of_pos (-(c+1)) hn
   rw[IntKind.wrap_i64] <;> omega
  go_enter Tryz.func18,Tryz.ntmps18
  go_wp2
  go_ret
  exact⟨rfl,rfl⟩
 ·rw[if_neg hneg]
  have h3:Int.tmod c n=c % n:=Int.tmod_eq_emod_of_nonneg (by omega)
  have h4:IntKind.i64.wrap (c % n)=c % n:=by
   have:=Int.emod_nonneg c hnz
   have:=Int.emod_lt_of_pos c hn
   rw[IntKind.wrap_i64] <;> omega
  go_enter Tryz.func18,Tryz.ntmps18
  go_wp2
  go_ret
  exact⟨rfl,rfl⟩
def shortB (s:ByteArray):ByteArray:=if 256<s.size then s.extract 0 256 else s
theorem short_size (s:ByteArray):(shortB s).size<=256:=by
 unfold shortB
 split
 ·rw[ByteArray.size_extract];omega
 ·omega
theorem short_any (s:ByteArray)(w:World)(hs:s.size<=maxLen):Calls Tryz.prog 19 #[.string s] w fun e w'=>e=.returned (.string (shortB s))/\w'=w:=by
 unfold shortB
 by_cases h:256<s.size
 ·rw[if_pos h]
  have h':(256:Int)<(s.size:Int):=by omega
  go_enter Tryz.func19,Tryz.ntmps19
  go_wp2
  go_ret
  exact⟨rfl,rfl⟩
 ·rw[if_neg h]
  have h':¬ (256:Int)<(s.size:Int):=by omega
  go_enter Tryz.func19,Tryz.ntmps19
  go_wp2
  go_ret
  exact⟨rfl,rfl⟩
theorem joinB_snoc {l:List ByteArray}(h:l ≠ [])(x:ByteArray):joinB l++⟨#[47]⟩++x=joinB (l ++ [x]):=by
 apply toL_inj
 rw[toL_append,toL_append]
 show (joinL (l.map toL)).toArray.toList ++ [47]++toL x=(joinL ((l ++ [x]).map toL)).toArray.toList
 rw[List.map_append,List.map_cons,List.map_nil,joinL_snoc _ _ (by simpa using h)]
 simp
theorem nil_snoc (x:ByteArray):(⟨#[]⟩:ByteArray)++x=joinB [x]:=by
 apply toL_inj
 rw[toL_append,joinB_one]
 rfl
theorem letter_at {i:Int}(h0:0<=i)(h1:i<4):(⟨#[97,98,99,100]⟩:ByteArray).extract i.toNat (i+1).toNat ∈ letters:=by
 have:i=0\/i=1\/i=2\/i=3:=by omega
 have e0:(⟨#[97,98,99,100]⟩:ByteArray).extract 0 1=⟨#[97]⟩:=by decide
 have e1:(⟨#[97,98,99,100]⟩:ByteArray).extract 1 2=⟨#[98]⟩:=by decide
 have e2:(⟨#[97,98,99,100]⟩:ByteArray).extract 2 3=⟨#[99]⟩:=by decide
 have e3:(⟨#[97,98,99,100]⟩:ByteArray).extract 3 4=⟨#[100]⟩:=by decide
 rcases this with rfl | rfl | rfl | rfl
 ·show (⟨#[97,98,99,100]⟩:ByteArray).extract 0 1 ∈ letters;rw[e0];simp[letters]
 ·show (⟨#[97,98,99,100]⟩:ByteArray).extract 1 2 ∈ letters;rw[e1];simp[letters]
 ·show (⟨#[97,98,99,100]⟩:ByteArray).extract 2 3 ∈ letters;rw[e2];simp[letters]
 ·show (⟨#[97,98,99,100]⟩:ByteArray).extract 3 4 ∈ letters;rw[e3];simp[letters]
theorem join_ne {l:List ByteArray}(h:l ≠ [])(hl:∀ x ∈ l,x ∈ letters):(joinB l).toList ≠ []:=by
 rw[toL_eq]
 match l,h with
 | [x],_=>
  rw[joinB_one]
  have:=valid_ne (letter_valid (hl x (by simp))).1
  rw[toL_eq] at this
  intro e
  rw[e] at this;cases this
 | x :: y :: r,_=>rw[joinB_cons x (by simp)];simp
def zE:Ent:=(⟨#[]⟩,0,0)
structure FT where
 root:Int
 od:List ByteArray->Option (List Ent)
 of:List ByteArray->Option Nat
def upd {β:Type}(f:List ByteArray->β)(p:List ByteArray)(v:β):List ByteArray->β:=fun q=>if q=p then v else f q
theorem upd_same {β:Type}(f:List ByteArray->β)(p:List ByteArray)(v:β):upd f p v p=v:=by unfold upd;rw[if_pos rfl]
theorem upd_other {β:Type}{f:List ByteArray->β}{p q:List ByteArray}(h:q≠p)(v:β):upd f p v q=f q:=by unfold upd;rw[if_neg h]
def entsF (objs:List Ob)(ft:FT)(fs:FS)(p:List ByteArray)(e:Ent):FS×Int×List Ent:=
 if e.2.1≠2 then (fs,5,[]) else
 if e.2.2=0 then (fs,0,(ft.od p).getD []) else
 if (fs.dirG e.2.2).2 then ((fs.dirG e.2.2).1,0,entsOf objs e.2.2) else ((fs.dirG e.2.2).1,14,[])
def findF (objs:List Ob)(ft:FT)(fs:FS):List ByteArray->FS×Int×Ent
 | []=>(fs,0,(⟨#[]⟩,2,ft.root))
 | n :: r=>
  let a:=findF objs ft fs r
  if a.2.1≠0 then (a.1,a.2.1,zE) else
  let b:=entsF objs ft a.1 r.reverse a.2.2
  if b.2.1≠0 then (b.1,b.2.1,zE) else
  match getK b.2.2 n with
  | none=>(b.1,4,zE)
  | some c=>(b.1,0,(n,c))
def lookF (objs:List Ob)(ft:FT)(fs:FS)(r:List ByteArray):FS×Int×List Ent:=
 let a:=findF objs ft fs r
 if a.2.1≠0 then (a.1,a.2.1,[]) else entsF objs ft a.1 r.reverse a.2.2
theorem findF_cons (objs:List Ob)(ft:FT)(fs:FS)(n:ByteArray)(r:List ByteArray):findF objs ft fs (n :: r) =
  if (lookF objs ft fs r).2.1≠0 then ((lookF objs ft fs r).1,(lookF objs ft fs r).2.1,zE) else
  match getK (lookF objs ft fs r).2.2 n with
  | none=>((lookF objs ft fs r).1,4,zE)
  | some c=>((lookF objs ft fs r).1,0,(n,c)):=by
 unfold lookF
 rw[findF]
 by_cases h:(findF objs ft fs r).2.1≠0
 ·simp only[if_pos h]
 ·simp only[if_neg h]
def odOf:Option LT->Option (List Ent)
 | some (.own es)=>some (es.map entOf)
 | _=>none
def ofOf:Option LT->Option Nat
 | some (.held f)=>some f
 | _=>none
structure Flat (objs:List Ob)(t:LT)(ft:FT):Prop where
 kind:t.kind=2
 root:ft.root=t.id
 od:∀ p,ft.od p=odOf (t.at objs p)
 of:∀ p,ft.of p=ofOf (t.at objs p)
theorem at_mod (objs:List Ob)(f:Kids->Kids):∀ (p:List ByteArray) (t d:LT) (ks:Kids),t.at objs p=some d->kids objs d=some ks->
  (∀ n r,(modG objs f p t).at objs (p++n :: r)=(pickK (f ks) n).bind fun c=>c.at objs r)/\(modG objs f p t).at objs p=some (.own (f ks))
 | [],t,d,ks,ha,hk=>by
  rw[at_nil] at ha;cases ha
  refine⟨fun n r=>?_,?_⟩
  ·rw[List.nil_append,at_cons,modG_kids,hk];rfl
  ·rw[at_nil,modG,hk];rfl
 | m :: p,t,d,ks,ha,hk=>by
  rw[at_cons] at ha
  cases hkt:kids objs t with
  | none=>rw[hkt] at ha;simp at ha
  | some es=>
   rw[hkt,Option.bind_some] at ha
   cases hc:pickK es m with
   | none=>rw[hc] at ha;simp at ha
   | some c=>
    rw[hc,Option.bind_some] at ha
    obtain⟨i1,i2⟩:=at_mod objs f p c d ks ha hk
    refine⟨fun n r=>?_,?_⟩
    ·rw[List.cons_append,at_cons,modG_cons,hkt,Option.getD_some,Option.bind_some,pick_map,if_pos rfl,hc,Option.map_some,Option.bind_some]
     exact i1 n r
    ·rw[at_cons,modG_cons,hkt,Option.getD_some,Option.bind_some,pick_map,if_pos rfl,hc,Option.map_some,Option.bind_some]
     exact i2
theorem at_mod_way (objs:List Ob)(f:Kids->Kids):∀ (q:List ByteArray) (m:ByteArray) (r:List ByteArray) (t d:LT),t.at objs (q++m :: r)=some d->
  ∃ dq kq,t.at objs q=some dq/\kids objs dq=some kq/\(modG objs f (q++m :: r) t).at objs q=some (.own (kq.map fun x=>if x.1=m then (x.1,modG objs f r x.2) else x))
 | [],m,r,t,d,ha=>by
  rw[List.nil_append,at_cons] at ha
  cases hkt:kids objs t with
  | none=>rw[hkt] at ha;simp at ha
  | some es=>exact⟨t,es,at_nil _ _,hkt,by rw[at_nil,List.nil_append,modG,hkt];rfl⟩
 | n :: q,m,r,t,d,ha=>by
  rw[List.cons_append,at_cons] at ha
  cases hkt:kids objs t with
  | none=>rw[hkt] at ha;simp at ha
  | some es=>
   rw[hkt,Option.bind_some] at ha
   cases hc:pickK es n with
   | none=>rw[hc] at ha;simp at ha
   | some c=>
    rw[hc,Option.bind_some] at ha
    obtain⟨dq,kq,h1,h2,h3⟩:=at_mod_way objs f q m r c d ha
    refine⟨dq,kq,?_,h2,?_⟩
    ·rw[at_cons,hkt,Option.bind_some,hc,Option.bind_some];exact h1
    ·rw[List.cons_append,at_cons,modG_cons,hkt,Option.getD_some,Option.bind_some,pick_map,if_pos rfl,hc,Option.map_some,Option.bind_some]
     exact h3
theorem at_mod_other (objs:List Ob)(f:Kids->Kids):∀ (p q:List ByteArray) (t d:LT),t.at objs p=some d->¬ q <+: p->¬ p <+: q->(modG objs f p t).at objs q=t.at objs q
 | [],q,t,d,ha,h1,h2=>absurd (List.nil_prefix) h2
 | m :: p,[],t,d,ha,h1,h2=>absurd (List.nil_prefix) h1
 | m :: p,n :: q,t,d,ha,h1,h2=>by
  rw[at_cons] at ha
  cases hkt:kids objs t with
  | none=>rw[hkt] at ha;simp at ha
  | some es=>
   rw[hkt,Option.bind_some] at ha
   rw[at_cons,at_cons,modG_cons,hkt,Option.getD_some,Option.bind_some,Option.bind_some,pick_map]
   by_cases hn:n=m
   ·subst hn
    rw[if_pos rfl]
    cases hc:pickK es n with
    | none=>rfl
    | some c=>
     rw[hc,Option.bind_some] at ha
     rw[Option.map_some,Option.bind_some,Option.bind_some]
     exact at_mod_other objs f p q c d ha (fun h=>h1 (List.cons_prefix_cons.2 ⟨rfl,h⟩)) (fun h=>h2 (List.cons_prefix_cons.2 ⟨rfl,h⟩))
   ·rw[if_neg hn]
def Sound (objs:List Ob):Prop:=(∀ id,0<=highOf objs id)/\∀ id,kindOf objs id=2->RisingK (entsOf objs id)/\(entsOf objs id).length<=16/\∀ e ∈ entsOf objs id,validB e.1=true/\(e.2.1=1\/e.2.1=2)/\kindOf objs e.2.2=e.2.1/\highOf objs e.2.2+1<=highOf objs id
def LTok (objs:List Ob):Nat->LT->Prop
 | _,.file id=>kindOf objs id=1
 | _,.held _=>True
 | n,.dir id=>kindOf objs id=2/\highOf objs id<=n
 | 0,.own es=>es = []
 | n+1,.own es=>RisingK es/\es.length<=16/\∀ x ∈ es,validB x.1=true/\LTok objs n x.2
theorem ok_kids {objs:List Ob}(hS:Sound objs){n:Nat}{t:LT}(h:LTok objs n t){ks:Kids}(hk:kids objs t=some ks):RisingK ks/\ks.length<=16/\∀ x ∈ ks,validB x.1=true/\∃ m,n=m+1/\LTok objs m x.2:=by
 cases t with
 | file i=>simp[kids] at hk
 | held f=>simp[kids] at hk
 | own es=>
  simp only[kids,Option.some.injEq] at hk
  subst hk
  cases n with
  | zero=>rw[LTok] at h;subst h;exact⟨List.Pairwise.nil,by simp,by simp⟩
  | succ m=>rw[LTok] at h;exact⟨h.1,h.2.1,fun x hx=>⟨(h.2.2 x hx).1,m,rfl,(h.2.2 x hx).2⟩⟩
 | dir id=>
  have hk2:(entsOf objs id).map kidOf=ks:=by simpa [kids] using hk
  subst hk2
  have h':kindOf objs id=2/\highOf objs id<=n:=by cases n <;> simpa [LTok] using h
  obtain⟨s1,s2,s3⟩:=hS.2 id h'.1
  refine⟨?_,by simpa using s2,fun x hx=>?_⟩
  ·unfold RisingK;rw[List.pairwise_map];exact s1
  ·obtain⟨e,he,rfl⟩:=List.mem_map.1 hx
   obtain⟨v,k12,hke,hh⟩:=s3 e he
   have h0:=hS.1 e.2.2
   refine⟨v,n-1,by omega,?_⟩
   show LTok objs (n-1) (ltOf e)
   unfold ltOf
   by_cases h2:e.2.1=2
   ·rw[if_pos h2]
    have:kindOf objs e.2.2=2/\highOf objs e.2.2<=((n-1:Nat):Int):=⟨hke.trans h2,by omega⟩
    cases hn:n-1 <;> (rw[hn] at this;simpa [LTok] using this)
   ·rw[if_neg h2]
    have:kindOf objs e.2.2=1:=hke.trans (by omega)
    cases hn:n-1 <;> simpa [LTok] using this
theorem pick_mem {ks:Kids}{n:ByteArray}{c:LT}(h:pickK ks n=some c):(n,c) ∈ ks:=by
 unfold pickK at h
 cases hf:ks.find? (fun x=>decide (x.1=n)) with
 | none=>rw[hf] at h;simp at h
 | some x=>
  rw[hf] at h
  simp only[Option.map_some,Option.some.injEq] at h
  have h1:=List.find?_some hf
  have h2:=List.mem_of_find?_eq_some hf
  simp only[decide_eq_true_eq] at h1
  rw[<- h1,<- h];exact h2
theorem ok_at {objs:List Ob}(hS:Sound objs):∀ (p:List ByteArray) {n:Nat} {t c:LT},LTok objs n t->t.at objs p=some c->p.length<=n/\LTok objs (n-p.length) c/\Valids p
 | [],n,t,c,h,ha=>by rw[at_nil] at ha;cases ha;exact⟨by simp,by simpa using h,fun x hx=>by simp at hx⟩
 | m :: p,n,t,c,h,ha=>by
  rw[at_cons] at ha
  cases hkt:kids objs t with
  | none=>rw[hkt] at ha;simp at ha
  | some ks=>
   rw[hkt,Option.bind_some] at ha
   cases hc:pickK ks m with
   | none=>rw[hc] at ha;simp at ha
   | some x=>
    rw[hc,Option.bind_some] at ha
    obtain⟨_,_,h3⟩:=ok_kids hS h hkt
    obtain⟨hv,k,rfl,hx⟩:=h3 _ (pick_mem hc)
    obtain⟨i1,i2,i3⟩:=ok_at hS p hx ha
    refine⟨by simp;omega,?_,fun y hy=>?_⟩
    ·rw[List.length_cons,show k+1-(p.length+1)=k-p.length by omega];exact i2
    ·rcases List.mem_cons.1 hy with rfl | hy
     ·exact hv
     ·exact i3 y hy
theorem kind_id {objs:List Ob}{id k:Int}(h:kindOf objs id=k)(hk:k≠0):1<=id:=by
 unfold kindOf at h
 by_cases h1:1<=id
 ·exact h1
 ·rw[if_neg h1] at h;exact absurd h.symm hk
theorem ents_back {es:List Ent}(h:∀ e ∈ es,e.2.1=1\/e.2.1=2):(es.map kidOf).map entOf=es:=by
 rw[List.map_map]
 conv=>rhs;rw[<- List.map_id es]
 refine List.map_congr_left fun e he=>?_
 show entOf (kidOf e)=id e
 unfold entOf kidOf ltOf
 obtain⟨a,k,i⟩:=e
 rcases h _ he with h | h
 ·simp only at h;subst h;rfl
 ·simp only at h;subst h;rfl
theorem getK_map (ks:Kids)(n:ByteArray):getK (ks.map entOf) n=(pickK ks n).map fun c=>(c.kind,c.id):=by
 unfold getK pickK
 rw[List.find?_map]
 show ((ks.find? _).map entOf).map _=_
 rw[Option.map_map,Option.map_map];rfl
theorem flat_ents {objs:List Ob}{t c:LT}{ft:FT}(hS:Sound objs)(hF:Flat objs t ft){n:Nat}{p:List ByteArray}(hc:LTok objs n c)(ha:t.at objs p=some c)(fs:FS)(nm:ByteArray):
  entsF objs ft fs p (nm,c.kind,c.id)=((kidsG objs fs c).1,(kidsG objs fs c).2.1,(kidsG objs fs c).2.2.map entOf):=by
 unfold entsF
 cases c with
 | file i=>rfl
 | held f=>rfl
 | own es=>
  have hod:=hF.od p
  rw[ha] at hod
  simp only[LT.kind,LT.id,hod];rfl
 | dir id=>
  have h':kindOf objs id=2:=by cases n <;> simp[LTok] at hc <;> exact hc.1
  have h1:=kind_id h' (by decide)
  have hb:=ents_back (fun e he=>((hS.2 id h').2.2 e he).2.1)
  rw[if_neg (show ¬ ((nm,(LT.dir id).kind,(LT.dir id).id):Ent).2.1≠2 from fun h=>h rfl),if_neg (show ¬ ((nm,(LT.dir id).kind,(LT.dir id).id):Ent).2.2=0 from by show ¬ id=0;omega)]
  show (if (fs.dirG id).2=true then _ else _)=_
  have e1:kidsG objs fs (.dir id)=if (fs.dirG id).2 then ((fs.dirG id).1,0,(entsOf objs id).map kidOf) else ((fs.dirG id).1,14,[]):=rfl
  rw[e1]
  by_cases hg:(fs.dirG id).2=true
  ·rw[if_pos hg,if_pos hg];simp only[hb];rfl
  ·rw[if_neg hg,if_neg hg];rfl
theorem flat_find {objs:List Ob}{t:LT}{ft:FT}(hS:Sound objs)(hF:Flat objs t ft){n:Nat}(hok:LTok objs n t)(fs:FS):∀ r:List ByteArray,
  (findF objs ft fs r).1=(findR objs t fs r).1/\(findF objs ft fs r).2.1=(findR objs t fs r).2.1/\
  ((findR objs t fs r).2.1=0->(findF objs ft fs r).2.2=(r.headD ⟨#[]⟩,(findR objs t fs r).2.2.kind,(findR objs t fs r).2.2.id)/\t.at objs r.reverse=some (findR objs t fs r).2.2)
 | []=>⟨rfl,rfl,fun _=>⟨by show (_,(2:Int),ft.root)=_;rw[hF.root,<- hF.kind];rfl,at_nil _ _⟩⟩
 | m :: r=>by
  obtain⟨i1,i2,i3⟩:=flat_find hS hF hok fs r
  rw[findF,findR]
  simp only[i1,i2]
  by_cases h0:(findR objs t fs r).2.1≠0
  ·simp only[if_pos h0]
   exact⟨trivial,trivial,fun h=>absurd h h0⟩
  ·simp only[if_neg h0]
   obtain⟨i4,i5⟩:=i3 (Decidable.not_not.1 h0)
   have hc:=(ok_at hS _ hok i5).2.1
   have he:=flat_ents hS hF hc i5 (findR objs t fs r).1 (r.headD ⟨#[]⟩)
   rw[i4,he]
   simp only
   by_cases hb:(kidsG objs (findR objs t fs r).1 (findR objs t fs r).2.2).2.1≠0
   ·rw[if_pos hb,if_pos hb]
    exact⟨rfl,rfl,fun h=>absurd h hb⟩
   ·rw[if_neg hb,if_neg hb,getK_map]
    have hkid:(kids objs (findR objs t fs r).2.2)=some (kidsG objs (findR objs t fs r).1 (findR objs t fs r).2.2).2.2:=by
     generalize (findR objs t fs r).2.2=x at hb ⊢
     generalize (findR objs t fs r).1=y at hb ⊢
     cases x with
     | file i=>simp[kidsG] at hb
     | held f=>simp[kidsG] at hb
     | own es=>rfl
     | dir id=>
      simp only[kidsG] at hb ⊢
      by_cases hg:(y.dirG id).2=true
      ·rw[if_pos hg];rfl
      ·rw[if_neg hg] at hb;simp at hb
    cases hp:pickK (kidsG objs (findR objs t fs r).1 (findR objs t fs r).2.2).2.2 m with
    | none=>exact⟨rfl,rfl,fun h=>by simp at h⟩
    | some x=>
     refine⟨rfl,rfl,fun _=>⟨rfl,?_⟩⟩
     rw[List.reverse_cons,at_append,i5,Option.bind_some,at_cons,hkid,Option.bind_some,hp,Option.bind_some,at_nil]
theorem flat_look {objs:List Ob}{t:LT}{ft:FT}(hS:Sound objs)(hF:Flat objs t ft){n:Nat}(hok:LTok objs n t)(fs:FS)(r:List ByteArray):
  lookF objs ft fs r=((lookR objs t fs r).1,(lookR objs t fs r).2.1,(lookR objs t fs r).2.2.map entOf):=by
 obtain⟨i1,i2,i3⟩:=flat_find hS hF hok fs r
 unfold lookF lookR
 simp only[i1,i2]
 by_cases h0:(findR objs t fs r).2.1≠0
 ·simp only[if_pos h0];rfl
 ·simp only[if_neg h0]
  obtain⟨i4,i5⟩:=i3 (Decidable.not_not.1 h0)
  have hc:=(ok_at hS _ hok i5).2.1
  rw[i4,flat_ents hS hF hc i5 (findR objs t fs r).1 (r.headD ⟨#[]⟩)]
abbrev Tags:=Nat->Nat×Nat
def Fresh (tg:Tags)(w:World):Prop:=∀ k,w.heap.size<=k->tg k=(0,0)
structure Moves (P:Nat×Nat->Prop)(tg tg':Tags)(w w':World):Prop where
 os:w'.os=w.os
 tape:w'.tape=w.tape
 output:w'.output=w.output
 size:w.heap.size<=w'.heap.size
 tags:∀ k,k<w.heap.size->tg' k=tg k
 block:∀ k,k<w.heap.size->¬ P (tg k)->w'.heap[k]? = w.heap[k]?
 fresh:Fresh tg w->Fresh tg' w'
theorem Moves.refl (P:Nat×Nat->Prop)(tg:Tags)(w:World):Moves P tg tg w w:=⟨rfl,rfl,rfl,Nat.le_refl _,fun _ _=>rfl,fun _ _ _=>rfl,id⟩
theorem Moves.of_below {P:Nat×Nat->Prop}{tg:Tags}{w w':World}(h:Below w.heap.size w w'):Moves P tg tg w w':=⟨h.os,h.tape,h.output,h.size,fun _ _=>rfl,fun k hk _=>h.block k hk,fun hf k hk=>hf k (Nat.le_trans h.size hk)⟩
theorem Moves.trans {P:Nat×Nat->Prop}{tg tg' tg'':Tags}{w w' w'':World}(h:Moves P tg tg' w w')(k:Moves P tg' tg'' w' w''):Moves P tg tg'' w w'':=
 ⟨k.os.trans h.os,k.tape.trans h.tape,k.output.trans h.output,Nat.le_trans h.size k.size,fun b hb=>(k.tags b (Nat.lt_of_lt_of_le hb h.size)).trans (h.tags b hb),
  fun b hb hP=>(k.block b (Nat.lt_of_lt_of_le hb h.size) (by rw[h.tags b hb];exact hP)).trans (h.block b hb hP),fun hf=>k.fresh (h.fresh hf)⟩
theorem Moves.mono {P P':Nat×Nat->Prop}{tg tg':Tags}{w w':World}(h:Moves P tg tg' w w')(hP:∀ t,P t->P' t):Moves P' tg tg' w w':=
 ⟨h.os,h.tape,h.output,h.size,h.tags,fun k hk hn=>h.block k hk (fun hp=>hn (hP _ hp)),h.fresh⟩
def tagAt (tg:Tags)(b:Nat)(t:Nat×Nat):Tags:=fun k=>if k=b then t else tg k
theorem tagAt_same (tg:Tags)(b:Nat)(t:Nat×Nat):tagAt tg b t b=t:=by unfold tagAt;rw[if_pos rfl]
theorem tagAt_other {tg:Tags}{b k:Nat}(h:k≠b)(t:Nat×Nat):tagAt tg b t k=tg k:=by unfold tagAt;rw[if_neg h]
theorem Moves.at {P:Nat×Nat->Prop}{tg tg':Tags}{w w':World}(h:Moves P tg tg' w w'){b:Nat}{o:Obj}(hb:w.heap[b]? = some o){t:Nat×Nat}(ht:tg b=t)(hn:¬ P t):w'.heap[b]? = some o/\tg' b=t:=by
 have hl:=(Array.getElem?_eq_some_iff.1 hb).1
 exact⟨(h.block b hl (by rw[ht];exact hn)).trans hb,(h.tags b hl).trans ht⟩
def RowT (tg:Tags)(w:World)(t:Nat×Nat)(v:Value)(es:List Ent):Prop:=w.ownsRow 0 76 3 v es.length (flat es)/\∀ g,v.ownBlock=some g->tg g=t
theorem RowT.keep {tg tg':Tags}{w w':World}{t:Nat×Nat}{v:Value}{es:List Ent}(h:RowT tg w t v es)(hk:∀ g,v.ownBlock=some g->g<w.heap.size->w'.heap[g]? = w.heap[g]?/\tg' g=tg g):RowT tg' w' t v es:=
 ⟨ownsRow_keep h.1 (fun g hg=>(hk g hg (ownsRow_lt h.1 hg)).1),fun g hg=>((hk g hg (ownsRow_lt h.1 hg)).2).trans (h.2 g hg)⟩
theorem RowT.moves {P:Nat×Nat->Prop}{tg tg':Tags}{w w':World}{t:Nat×Nat}{v:Value}{es:List Ent}(h:RowT tg w t v es)(m:Moves P tg tg' w w')(hn:¬ P t):RowT tg' w' t v es:=
 h.keep fun g hg hl=>⟨m.block g hl (by rw[h.2 g hg];exact hn),m.tags g hl⟩
def GotRow (tg:Tags)(w:World)(ft:PTail)(got:List Int):Prop:=w.ownsRow 0 26 1 (.slice ft.a ft.n ft.c) ft.n (got.map (Value.int .i64))/\ft.n=got.length/\∀ g,(Value.slice ft.a ft.n ft.c).ownBlock=some g->tg g=(1,1)
structure SInv (tg:Tags)(w:World)(s p:Nat)(objs:List Ob)(got:List Int)(brk:Bool)(lim:Nat):Prop where
 fresh:Fresh tg w
 ex:∃ ft:PTail,ft.b=brk/\InvP ft (fun k=>tg k=(1,0)) w s p objs/\GotRow tg w ft got/\Sound objs/\got.length<=lim
theorem SInv.sound {tg:Tags}{w:World}{s p:Nat}{objs:List Ob}{got:List Int}{brk:Bool}{lim:Nat}(h:SInv tg w s p objs got brk lim):Sound objs:=by
 obtain⟨_,ft,_,_,_,hs,_⟩:=h
 exact hs
theorem row_base0 {w:World}{base:Nat}{e:TypeId}{size:Nat}{v:Value}{n:Nat}{xs:List Value}(h:w.ownsRow base e size v n xs):w.ownsRow 0 e size v n xs:=by
 obtain⟨h1,h2⟩:=h
 refine⟨h1,?_⟩
 rcases h2 with h | ⟨g,c,cur,hv,_,r⟩
 ·exact .inl h
 ·exact .inr ⟨g,c,cur,hv,Nat.zero_le _,r⟩
theorem GotRow.moves {P:Nat×Nat->Prop}{tg tg':Tags}{w w':World}{ft:PTail}{got:List Int}(h:GotRow tg w ft got)(m:Moves P tg tg' w w')(hn:¬ P (1,1)):GotRow tg' w' ft got:=
 ⟨ownsRow_keep h.1 (fun g hg=>m.block g (ownsRow_lt h.1 hg) (by rw[h.2.2 g hg];exact hn)),h.2.1,fun g hg=>(m.tags g (ownsRow_lt h.1 hg)).trans (h.2.2 g hg)⟩
theorem SInv.moves {P:Nat×Nat->Prop}{tg tg':Tags}{w w':World}{s p:Nat}{objs:List Ob}{got:List Int}{brk:Bool}{lim:Nat}(h:SInv tg w s p objs got brk lim)(m:Moves P tg tg' w w')(h0:¬ P (1,0))(h1:¬ P (1,1)):SInv tg' w' s p objs got brk lim:=by
 obtain⟨hf,ft,hb,hi,hg,hs,hl⟩:=h
 exact⟨m.fresh hf,ft,hb,hi.keep (fun k hk hF=>m.block k hk (by rw[hF];exact h0)) (fun k hk hF=>(m.tags k hk).trans hF),hg.moves m h1,hs,hl⟩
theorem SInv.mono {tg:Tags}{w:World}{s p:Nat}{objs:List Ob}{got:List Int}{brk:Bool}{lim lim':Nat}(h:SInv tg w s p objs got brk lim)(hl:lim<=lim'):SInv tg w s p objs got brk lim':=by
 obtain⟨hf,ft,hb,hi,hg,hs,h⟩:=h
 exact⟨hf,ft,hb,hi,hg,hs,Nat.le_trans h hl⟩
theorem SInv.retag {tg tg':Tags}{w:World}{s p:Nat}{objs:List Ob}{got:List Int}{brk:Bool}{lim:Nat}(h:SInv tg w s p objs got brk lim)(hf:Fresh tg' w)(hk:∀ k,(tg k).1=1->tg' k=tg k):SInv tg' w s p objs got brk lim:=by
 obtain⟨_,ft,hb,hi,hg,hs,hl⟩:=h
 exact⟨hf,ft,hb,hi.keep (fun k _ _=>rfl) (fun k _ hF=>(hk k (by rw[hF])).trans hF),⟨hg.1,hg.2.1,fun g hgg=>(hk g (by rw[hg.2.2 g hgg])).trans (hg.2.2 g hgg)⟩,hs,hl⟩
structure WB where
 wb:Nat
 bt:Nat
 sF:Nat
 sD:Nat
 mF:Nat
 mD:Nat
 oF:Nat
 oD:Nat
structure WG where
 base:Int
 ft:FT
 fs:FS
 fl:Nat->Option (Int×ByteArray)
 op:Nat->Option (Nat×Nat×Int×Int)
def ptr (b:Nat):Value:=.pointer (some ⟨b,0,none⟩)
def opV (o:Option (Nat×Nat×Int×Int)):Value:=.pointer (o.map fun x=>⟨x.1,0,none⟩)
structure PTree (tg:Tags)(w:World)(i p:Nat)(B:WB)(base root:Int):Prop where
 tt:tg B.bt=(i,1)
 tF:tg B.sF=(i,1)
 tD:tg B.sD=(i,1)
 ht:w.heap[B.bt]? = some (.cells #[ptr p,ptr B.sF,ptr B.sD,.int .i64 base,.string ⟨#[]⟩,.int .i64 2,.int .i64 root,.map (some B.oF),.map (some B.oD)] 130 (0,0))
 hF:w.heap[B.sF]? = some (.cells #[.func (.func 104) #[ptr p] #[],.map (some B.mF)] 219 (0,0))
 hD:w.heap[B.sD]? = some (.cells #[.func (.func 106) #[ptr p] #[],.map (some B.mD)] 223 (0,0))
theorem PTree.moves {P:Nat×Nat->Prop}{tg tg':Tags}{w w':World}{i p:Nat}{B:WB}{base root:Int}(h:PTree tg w i p B base root)(m:Moves P tg tg' w w')(hn:¬ P (i,1)):PTree tg' w' i p B base root:=by
 obtain⟨a1,b1⟩:=m.at h.ht h.tt hn
 obtain⟨a2,b2⟩:=m.at h.hF h.tF hn
 obtain⟨a3,b3⟩:=m.at h.hD h.tD hn
 exact⟨b1,b2,b3,a1,a2,a3⟩
theorem VMap.moves {P:Nat×Nat->Prop}{tg tg':Tags}{w w':World}{k:TypeId}{b n:Nat}{M:Lit->Option Value}(h:VMap w k b n M)(m:Moves P tg tg' w w'){t:Nat×Nat}(ht:tg b=t)(hn:¬ P t):VMap w' k b n M/\tg' b=t:=by
 have hl:=h.lt
 exact⟨h.keep (m.block b hl (by rw[ht];exact hn)),(m.tags b hl).trans ht⟩
def idL (id:Int):Lit:=.int .i64 id
def KeptF (tg:Tags)(w:World)(i:Nat)(B:WB)(objs:List Ob)(kF:Int->Bool)(lim:Nat):Prop:=
 tg B.mF=(i,2)/\∃ n M,n<=lim/\VMap w 26 B.mF n M/\(∀ id,M (idL id)=if kF id then some (.string (bytesOf objs id)) else none)/\∀ id,kF id=true->kindOf objs id=1
def KeptD (tg:Tags)(w:World)(i:Nat)(B:WB)(objs:List Ob)(kD:Int->Bool)(lim:Nat):Prop:=
 tg B.mD=(i,3)/\∃ n M,∃ vK:Int->Value,n<=lim/\VMap w 26 B.mD n M/\(∀ id,M (idL id)=if kD id then some (vK id) else none)/\∀ id,kD id=true->kindOf objs id=2/\RowT tg w (i,3) (vK id) (entsOf objs id)
theorem KeptF.moves {P:Nat×Nat->Prop}{tg tg':Tags}{w w':World}{i:Nat}{B:WB}{objs:List Ob}{kF:Int->Bool}{lim:Nat}(h:KeptF tg w i B objs kF lim)(m:Moves P tg tg' w w')(hn:¬ P (i,2)):KeptF tg' w' i B objs kF lim:=by
 obtain⟨ht,n,M,hl,hv,hM,hk⟩:=h
 obtain⟨a,b⟩:=hv.moves m ht hn
 exact⟨b,n,M,hl,a,hM,hk⟩
theorem KeptD.moves {P:Nat×Nat->Prop}{tg tg':Tags}{w w':World}{i:Nat}{B:WB}{objs:List Ob}{kD:Int->Bool}{lim:Nat}(h:KeptD tg w i B objs kD lim)(m:Moves P tg tg' w w')(hn:¬ P (i,3)):KeptD tg' w' i B objs kD lim:=by
 obtain⟨ht,n,M,vK,hl,hv,hM,hk⟩:=h
 obtain⟨a,b⟩:=hv.moves m ht hn
 exact⟨b,n,M,vK,hl,a,hM,fun id hid=>⟨(hk id hid).1,(hk id hid).2.moves m hn⟩⟩
def PMap (w:World)(b n:Nat)(f:List ByteArray->Option Value):Prop:=
 ∃ M,VMap w 104 b n M/\(∀ p,Good p->M (keyP Tryz.prog p)=f p)/\∀ kl,WideAt.IsKeyLit kl->M kl≠none->∃ p,Good p/\kl=keyP Tryz.prog p
def OwnF (tg:Tags)(w:World)(i:Nat)(B:WB)(of:List ByteArray->Option Nat)(lim:Nat):Prop:=
 tg B.oF=(i,4)/\(∃ n,n<=lim/\PMap w B.oF n (fun p=>(of p).map ptr))/\∀ p f,of p=some f->Good p
structure OwnDV (tg:Tags)(w:World)(i:Nat)(B:WB)(od:List ByteArray->Option (List Ent))(lim:Nat)(vD:List ByteArray->Value):Prop where
 tag:tg B.oD=(i,5)
 map:∃ n,n<=lim/\PMap w B.oD n (fun p=>(od p).map fun _=>vD p)
 good:∀ p es,od p=some es->Good p/\RisingK es/\es.length<=16/\∀ e ∈ es,validB e.1=true/\(e.2.1=1\/e.2.1=2)
 row:∀ p es,od p=some es->RowT tg w (i,5) (vD p) es
 inj:∀ p q es fs g,od p=some es->od q=some fs->(vD p).ownBlock=some g->(vD q).ownBlock=some g->p=q
def OwnD (tg:Tags)(w:World)(i:Nat)(B:WB)(od:List ByteArray->Option (List Ent))(lim:Nat):Prop:=∃ vD,OwnDV tg w i B od lim vD
theorem PMap.keep {w w':World}{b n:Nat}{f:List ByteArray->Option Value}(h:PMap w b n f)(e:w'.heap[b]? = w.heap[b]?):PMap w' b n f:=by
 obtain⟨M,hv,h1,h2⟩:=h
 exact⟨M,hv.keep e,h1,h2⟩
theorem PMap.lt {w:World}{b n:Nat}{f:List ByteArray->Option Value}(h:PMap w b n f):b<w.heap.size:=by
 obtain⟨M,hv,_⟩:=h
 exact hv.lt
theorem OwnF.moves {P:Nat×Nat->Prop}{tg tg':Tags}{w w':World}{i:Nat}{B:WB}{of:List ByteArray->Option Nat}{lim:Nat}(h:OwnF tg w i B of lim)(m:Moves P tg tg' w w')(hn:¬ P (i,4)):OwnF tg' w' i B of lim:=by
 obtain⟨ht,⟨n,hl,hp⟩,hg⟩:=h
 exact⟨(m.tags _ hp.lt).trans ht,⟨n,hl,hp.keep (m.block _ hp.lt (by rw[ht];exact hn))⟩,hg⟩
theorem OwnDV.moves {P:Nat×Nat->Prop}{tg tg':Tags}{w w':World}{i:Nat}{B:WB}{od:List ByteArray->Option (List Ent)}{lim:Nat}{vD:List ByteArray->Value}(h:OwnDV tg w i B od lim vD)(m:Moves P tg tg' w w')(hn:¬ P (i,5)):OwnDV tg' w' i B od lim vD:=by
 obtain⟨ht,⟨n,hl,hp⟩,hg,hr,hi⟩:=h
 exact⟨(m.tags _ hp.lt).trans ht,⟨n,hl,hp.keep (m.block _ hp.lt (by rw[ht];exact hn))⟩,hg,fun p es he=>(hr p es he).moves m hn,hi⟩
def FilesAt (tg:Tags)(w:World)(i:Nat)(B:WB)(fl:Nat->Option (Int×ByteArray)):Prop:=
 ∀ f id d,fl f=some (id,d)->tg f=(i,6)/\w.heap[f]? = some (.cells #[.pointer (if id=0 then none else some ⟨B.sF,0,none⟩),.int .i64 id,.string d] 238 (0,0))/\d.size<=256
theorem FilesAt.moves {P:Nat×Nat->Prop}{tg tg':Tags}{w w':World}{i:Nat}{B:WB}{fl:Nat->Option (Int×ByteArray)}(h:FilesAt tg w i B fl)(m:Moves P tg tg' w w')(hn:¬ P (i,6)):FilesAt tg' w' i B fl:=fun f id d hf=>by
 obtain⟨h1,h2,h3⟩:=h f id d hf
 obtain⟨a,b⟩:=m.at h2 h1 hn
 exact⟨b,a,h3⟩
structure OpensAt (tg:Tags)(w:World)(i:Nat)(B:WB)(fl:Nat->Option (Int×ByteArray))(op:Nat->Option (Nat×Nat×Int×Int)):Prop where
 tw:tg B.wb=(i,0)
 hw:w.heap[B.wb]? = some (.cells #[ptr B.bt,opV (op 0),opV (op 1),opV (op 2),opV (op 3),opV (op 4),opV (op 5),opV (op 6),opV (op 7)] 99 (0,0))
 past:∀ k,8<=k->op k=none
 at_:∀ k b f fg pl,op k=some (b,f,fg,pl)->tg b=(i,7)/\w.heap[b]? = some (.cells #[ptr f,.int .i64 fg,.int .i64 pl] 208 (0,0))/\(∃ x,fl f=some x)/\0<=fg/\fg<64/\0<=pl/\pl<=256
 inj:∀ k l x y,op k=some x->op l=some y->x.1=y.1->k=l
theorem OpensAt.moves {P:Nat×Nat->Prop}{tg tg':Tags}{w w':World}{i:Nat}{B:WB}{fl:Nat->Option (Int×ByteArray)}{op:Nat->Option (Nat×Nat×Int×Int)}(h:OpensAt tg w i B fl op)(m:Moves P tg tg' w w')(hn:¬ P (i,0))(hn':¬ P (i,7)):OpensAt tg' w' i B fl op:=by
 obtain⟨a,b⟩:=m.at h.hw h.tw hn
 refine⟨b,a,h.past,fun k b f fg pl hk=>?_,h.inj⟩
 obtain⟨h1,h2,h3⟩:=h.at_ k b f fg pl hk
 obtain⟨a',b'⟩:=m.at h2 h1 hn'
 exact⟨b',a',h3⟩
def EntOk (objs:List Ob)(e:Ent):Prop:=(e.2.1=1\/e.2.1=2)/\(e.2.2≠0->kindOf objs e.2.2=e.2.1)
structure FtOk (objs:List Ob)(ft:FT):Prop where
 root:ft.root≠0->kindOf objs ft.root=2
 od:∀ p es,ft.od p=some es->∀ e ∈ es,EntOk objs e
structure WPart (tg:Tags)(w:World)(i p:Nat)(B:WB)(objs:List Ob)(g:WG)(lim:Nat):Prop where
 tree:PTree tg w i p B g.base g.ft.root
 keptF:KeptF tg w i B objs g.fs.kF lim
 keptD:KeptD tg w i B objs g.fs.kD lim
 ownF:OwnF tg w i B g.ft.of lim
 ownD:OwnD tg w i B g.ft.od lim
 files:FilesAt tg w i B g.fl
 held:∀ q f,g.ft.of q=some f->∃ x,g.fl f=some x
 opens:OpensAt tg w i B g.fl g.op
 ok:FtOk objs g.ft
theorem WPart.moves {P:Nat×Nat->Prop}{tg tg':Tags}{w w':World}{i p:Nat}{B:WB}{objs:List Ob}{g:WG}{lim:Nat}(h:WPart tg w i p B objs g lim)(m:Moves P tg tg' w w')(hn:∀ k,¬ P (i,k)):WPart tg' w' i p B objs g lim:=by
 obtain⟨vD,hD⟩:=h.ownD
 exact⟨h.tree.moves m (hn 1),h.keptF.moves m (hn 2),h.keptD.moves m (hn 3),h.ownF.moves m (hn 4),⟨vD,hD.moves m (hn 5)⟩,h.files.moves m (hn 6),h.held,h.opens.moves m (hn 0) (hn 7),h.ok⟩
structure WInv (tg:Tags)(w:World)(s i p:Nat)(B:WB)(objs:List Ob)(g:WG)(lim:Nat):Prop where
 two:2<=i
 st:SInv tg w s p objs g.fs.got g.fs.brk lim
 wp:WPart tg w i p B objs g lim
def Mine (i:Nat)(t:Nat×Nat):Prop:=t.1=1\/t.1=i
theorem WInv.below {tg:Tags}{w w':World}{s i p:Nat}{B:WB}{objs:List Ob}{g:WG}{lim:Nat}(h:WInv tg w s i p B objs g lim)(hb:Below w.heap.size w w'):WInv tg w' s i p B objs g lim:=by
 have m:Moves (fun _=>False) tg tg w w':=Moves.of_below hb
 exact⟨h.two,h.st.moves m id id,h.wp.moves m (fun _=>id)⟩
end Go.Proofs.YtajopoddmfdejaaGreat
