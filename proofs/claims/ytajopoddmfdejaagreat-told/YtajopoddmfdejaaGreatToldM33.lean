/-
  What is proved here: Stat of a tree, and of a workspace, at any path: as the model says. what a commit puts into a store: objects behind those that are there, each of which is new and may be put; which object a ..
-/
import Derived.Test.YtajopoddmfdejaaGreatToldM32
import Derived.Test.YtajopoddmfdejaaGreatToldM15
import Derived.Test.YtajopoddmfdejaaGreatToldM04
namespace Go.Proofs.YtajopoddmfdejaaGreat
open Go.RowKit Go.Sort Go.Shelf
set_option linter.unusedVariables false
set_option maxRecDepth 100000
set_option maxHeartbeats 16000000
section
variable {s i p:Nat}{B:WB}{objs:List Ob}
theorem tbytes_walk (t sF:Nat)(s0 s1 s2 s3 s4 nm d:ByteArray)(id er:Int)(R:World->Prop)(w:World)(ht:t<w.heap.size)(hid:id≠0)(c1:w.cell? ⟨t,1,none⟩=some (.pointer (some ⟨sF,0,none⟩)))
  (hg:∀ W,Below w.heap.size w W->Calls Tryz.prog 157 #[.pointer (some ⟨sF,0,none⟩),.int .i64 id] W fun e w'=>e=.returned (.tuple #[.string d,.int .i64 er])/\R w'):
  Calls Tryz.prog 142 #[.pointer (some ⟨t,0,none⟩),.agg #[.string s0,.string s1,.string s2,.string s3,.string s4],.agg #[.string nm,.int .i64 1,.int .i64 id]] w fun en w'=>en=.returned (.tuple #[.string d,.int .i64 er])/\R w':=by
 have hb0:Below w.heap.size w ((w.alloc (.cells #[.string s0,.string s1,.string s2,.string s3,.string s4] 104)).alloc (.cells #[.string nm,.int .i64 1,.int .i64 id] 76)).drew:=below_drew (((Below.refl _ _).alloc (Nat.le_refl _) _).alloc (by simp) _)
 have hG:=hg _ hb0
 have HG:Hid _:=hG
 have hid':(id == 0)=false:=by simpa using hid
 clear hg hG hb0
 go_enter Tryz.func142,Tryz.ntmps142
 go_wp2
 go_region_with (go_at_call 157;refine Calls.mono HG.out ?_;rintro e w2 ⟨rfl,hR⟩)
 all_goals
  go_wp2
  go_ret2
  exact⟨rfl,hR⟩
theorem tsize_file (t:Nat)(s0 s1 s2 s3 s4 nm d:ByteArray)(id er:Int)(hd:d.size<=256)(R:World->Prop)(w:World)
  (hby:Calls Tryz.prog 142 #[.pointer (some ⟨t,0,none⟩),.agg #[.string s0,.string s1,.string s2,.string s3,.string s4],.agg #[.string nm,.int .i64 1,.int .i64 id]] ((w.alloc (.cells #[.string s0,.string s1,.string s2,.string s3,.string s4] 104)).alloc (.cells #[.string nm,.int .i64 1,.int .i64 id] 76)) fun en w'=>en=.returned (.tuple #[.string d,.int .i64 er])/\R w'):
  Calls Tryz.prog 100 #[.pointer (some ⟨t,0,none⟩),.agg #[.string s0,.string s1,.string s2,.string s3,.string s4],.agg #[.string nm,.int .i64 1,.int .i64 id]] w fun en w'=>en=.returned (.tuple #[.int .i64 (d.size:Int),.int .i64 er])/\R w':=by
 have HBY:Hid _:=hby
 clear hby
 go_enter Tryz.func100,Tryz.ntmps100
 go_wp2_with fail
 refine Calls.mono HBY.out ?_
 rintro e w2 ⟨rfl,hR⟩
 go_wp2
 go_ret2
 exact⟨rfl,hR⟩
theorem tsize_dir (t n:Nat)(s0 s1 s2 s3 s4 nm:ByteArray)(id er:Int)(R:World->Prop)(w:World)
  (hen:Calls Tryz.prog 118 #[.pointer (some ⟨t,0,none⟩),.agg #[.string s0,.string s1,.string s2,.string s3,.string s4],.agg #[.string nm,.int .i64 2,.int .i64 id]] ((w.alloc (.cells #[.string s0,.string s1,.string s2,.string s3,.string s4] 104)).alloc (.cells #[.string nm,.int .i64 2,.int .i64 id] 76)) fun en w'=>∃ a c,en=.returned (.tuple #[.slice a n c,.int .i64 er])/\R w'):
  Calls Tryz.prog 100 #[.pointer (some ⟨t,0,none⟩),.agg #[.string s0,.string s1,.string s2,.string s3,.string s4],.agg #[.string nm,.int .i64 2,.int .i64 id]] w fun en w'=>en=.returned (.tuple #[.int .i64 (n:Int),.int .i64 er])/\R w':=by
 have HEN:Hid _:=hen
 clear hen
 go_enter Tryz.func100,Tryz.ntmps100
 go_wp2_with fail
 refine Calls.mono HEN.out ?_
 rintro e w2 ⟨a,c,rfl,hR⟩
 go_wp2
 go_ret2
 exact⟨rfl,hR⟩
theorem tstat_two (t:Nat)(s0 s1 s2 s3 s4 a:ByteArray)(k id sz er:Int)(R:World->Prop)(R2:World->Prop)(w:World)
  (hfind:Calls Tryz.prog 80 #[.pointer (some ⟨t,0,none⟩),.agg #[.string s0,.string s1,.string s2,.string s3,.string s4]] ((w.alloc (.cells #[.string s0,.string s1,.string s2,.string s3,.string s4] 104)).alloc (.cells #[.int .i64 0,.int .i64 0] 60)) fun e w'=>e=.returned (.tuple #[.agg #[.string a,.int .i64 k,.int .i64 id],.int .i64 0])/\InfoAt w' (w.heap.size+1)/\(∀ o,w'.cell? ⟨w.heap.size,o,none⟩=((w.alloc (.cells #[.string s0,.string s1,.string s2,.string s3,.string s4] 104)).alloc (.cells #[.int .i64 0,.int .i64 0] 60)).cell? ⟨w.heap.size,o,none⟩)/\R w')
  (hsize:∀ w',R w'->InfoAt w' (w.heap.size+1)->Calls Tryz.prog 100 #[.pointer (some ⟨t,0,none⟩),.agg #[.string s0,.string s1,.string s2,.string s3,.string s4],.agg #[.string a,.int .i64 k,.int .i64 id]] (w'.alloc (.cells #[.string a,.int .i64 k,.int .i64 id] 76)) fun e w4=>e=.returned (.tuple #[.int .i64 sz,.int .i64 er])/\InfoAt w4 (w.heap.size+1)/\(∀ o,w4.cell? ⟨w'.heap.size,o,none⟩=(w'.alloc (.cells #[.string a,.int .i64 k,.int .i64 id] 76)).cell? ⟨w'.heap.size,o,none⟩)/\w'.heap.size<w4.heap.size/\R2 w4):
  Calls Tryz.prog 54 #[.pointer (some ⟨t,0,none⟩),.agg #[.string s0,.string s1,.string s2,.string s3,.string s4]] w fun e w'=>e=.returned (.tuple #[.agg (if er=0 then #[.int .i64 k,.int .i64 sz] else #[.int .i64 0,.int .i64 0]),.int .i64 er])/\∃ w4,R2 w4/\w4.grownBy w' (some (w.heap.size+1)):=by
 have HF:Hid _:=hfind
 have HSZ:Hid _:=hsize
 clear hfind hsize
 go_enter Tryz.func54,Tryz.ntmps54
 go_wp2_with fail
 refine Calls.mono HF.out ?_
 rintro e w3 ⟨rfl,hblk,hkp,hR⟩
 obtain⟨hlt,c0,c1,f0⟩:=hblk.cells
 have hz3:w.heap.size<w3.heap.size:=by omega
 have hs:=HSZ.out w3 hR hblk
 have HS:Hid _:=hs
 clear hblk hR HF HSZ hs
 go_wp2_with fail
 refine Calls.mono HS.out ?_
 rintro e w4 ⟨rfl,hblk4,hkp4,hlt4,hR4⟩
 obtain⟨hl4,d0,d1,g0⟩:=hblk4.cells
 have HR4:Hid _:=hR4
 clear hblk4 hR4 HS
 by_cases her:er=0
 ·subst her
  go_wp2
  refine bodyPost_ret (v:=.tuple #[.agg #[.int .i64 k,.int .i64 sz],.int .i64 0]) (by simp[results,Tryz.results54,go_sem,d0,d1]) rfl ?_
  exact⟨rfl,w4,HR4.out,grown_set (grown_set (grown_refl _ _))⟩
 ·have her':(er == 0)=false:=by simpa using her
  have HER:Hid _:=her
  clear her
  go_wp2
  refine bodyPost_ret (v:=.tuple #[.agg #[.int .i64 0,.int .i64 0],.int .i64 er]) (by simp[results,Tryz.results54,go_sem,d0,d1]) rfl ?_
  exact⟨rfl,w4,HR4.out,grown_set (grown_set (grown_refl _ _))⟩
theorem tbytes_gen {tg:Tags}{w:World}{g:WG}{lim f:Nat}{d nm:ByteArray}{fs1:FS}{er:Int}(h:WInv tg w s i p B objs g lim)(hl:lim<1099511627776)(hfl:FlOk objs g.fl){q:List ByteArray}(hq:Good q)(hf:g.ft.of q=some f){x:Int×ByteArray}(hx:g.fl f=some x)(hbz:bytesG objs g.fl g.fs f=(fs1,er,d)):
  Calls Tryz.prog 142 #[.pointer (some ⟨B.bt,0,none⟩),.agg (pathA q),.agg #[.string nm,.int .i64 1,.int .i64 0]] w fun en w'=>en=.returned (.tuple #[.string d,.int .i64 er])/\DidF s i p B objs tg w w' { g with fs:=fs1 } (lim+1):=by
 have hb0:Below w.heap.size w ((w.alloc (.cells (pathA q) 104)).alloc (.cells #[.string nm,.int .i64 1,.int .i64 0] 76)).drew:=below_drew (((Below.refl _ _).alloc (Nat.le_refl _) _).alloc (by simp) _)
 have hlk:=h.wp.ownF.look1 hq hb0
 rw[hf] at hlk
 have hby:=bytes_any (h.below hb0) hl hfl hx
 rw[hbz] at hby
 obtain⟨tb,t7,t8⟩:=h.treeAt
 obtain⟨s0,s1,s2,s3,s4,hP⟩:∃ s0 s1 s2 s3 s4,pathA q = #[.string s0,.string s1,.string s2,.string s3,.string s4]:=⟨_,_,_,_,_,rfl⟩
 rw[hP] at hlk hb0 hby ⊢
 simp only[Option.map_some,Option.getD_some,ptr] at hlk
 have HB:Hid _:=hb0
 have HBY:Hid _:=hby
 clear h hb0 hby
 go_enter Tryz.func142,Tryz.ntmps142
 go_wp2
 go_region_with (go_at_call 135;refine Calls.mono HBY.out ?_;rintro e w2 ⟨rfl,hD⟩)
 all_goals
  go_wp2
  go_ret2
  exact⟨rfl,hD.via HB.out⟩
end
theorem kindOf_pos {a:List Ob}{id:Int}(h:kindOf a id≠0):1<=id/\(id-1).toNat<a.length:=by
 unfold kindOf at h
 by_cases h1:1<=id
 ·rw[if_pos h1] at h
  refine⟨h1,?_⟩
  by_cases h2:(id-1).toNat<a.length
  ·exact h2
  ·rw[List.getElem?_eq_none (by omega)] at h;exact absurd rfl h
 ·rw[if_neg h1] at h;exact absurd rfl h
theorem kindOf_app {a:List Ob}(l:List Ob){id:Int}(h:kindOf a id≠0):kindOf (a++l) id=kindOf a id:=by
 obtain⟨h1,h2⟩:=kindOf_pos h
 unfold kindOf
 rw[if_pos h1,if_pos h1,List.getElem?_append_left h2]
theorem highOf_app {a:List Ob}(l:List Ob){id:Int}(h:kindOf a id≠0):highOf (a++l) id=highOf a id:=by
 obtain⟨h1,h2⟩:=kindOf_pos h
 unfold highOf
 rw[List.getElem?_append_left h2]
theorem entsOf_app {a:List Ob}(l:List Ob){id:Int}(h:kindOf a id≠0):entsOf (a++l) id=entsOf a id:=by
 obtain⟨h1,h2⟩:=kindOf_pos h
 unfold entsOf
 rw[List.getElem?_append_left h2]
theorem bytesOf_app {a:List Ob}(l:List Ob){id:Int}(h:kindOf a id≠0):bytesOf (a++l) id=bytesOf a id:=by
 obtain⟨h1,h2⟩:=kindOf_pos h
 unfold bytesOf
 rw[List.getElem?_append_left h2]
theorem last_ob (a:List Ob)(o:Ob):kindOf (a ++ [o]) ((a.length:Int)+1)=o.kind/\highOf (a ++ [o]) ((a.length:Int)+1)=o.high/\entsOf (a ++ [o]) ((a.length:Int)+1)=o.ents/\bytesOf (a ++ [o]) ((a.length:Int)+1)=o.data:=by
 have e:(((a.length:Int)+1)-1).toNat=a.length:=by omega
 refine⟨?_,?_,?_,?_⟩
 ·unfold kindOf;rw[if_pos (by omega),e];simp
 ·unfold highOf;rw[e];simp
 ·unfold entsOf;rw[e];simp
 ·unfold bytesOf;rw[e];simp
theorem kind_snoc {a:List Ob}{o:Ob}{id:Int}(h:kindOf (a ++ [o]) id≠0):kindOf a id≠0\/id=(a.length:Int)+1\/((id-1).toNat<a.length/\kindOf a id=0/\1<=id):=by
 obtain⟨h1,h2⟩:=kindOf_pos h
 by_cases h3:(id-1).toNat<a.length
 ·by_cases h4:kindOf a id=0
  ·exact .inr (.inr ⟨h3,h4,h1⟩)
  ·exact .inl h4
 ·refine .inr (.inl ?_)
  simp only[List.length_append,List.length_singleton] at h2
  omega
structure Exact (a:List Ob):Prop where
 sound:Sound a
 kinds:∀ o ∈ a,o.kind=1\/o.kind=2
 low:∀ id,kindOf a id=1->highOf a id=0
 high:∀ id,kindOf a id=2->highOf a id=highs a (entsOf a id)
theorem kind_of_lt {a:List Ob}(hk:∀ o ∈ a,o.kind=1\/o.kind=2){id:Int}(h1:1<=id)(h2:(id-1).toNat<a.length):kindOf a id=1\/kindOf a id=2:=by
 unfold kindOf
 rw[if_pos h1,List.getElem?_eq_getElem h2]
 exact hk _ (List.getElem_mem h2)
structure PutOk (a:List Ob)(o:Ob):Prop where
 or:(o.kind=1/\o.high=0/\o.data.size<=256/\fileAt a o.data=none)\/
  (o.kind=2/\o.high=highs a o.ents/\highs a o.ents<=5/\RisingK o.ents/\o.ents.length<=16/\(∀ e ∈ o.ents,validB e.1=true/\(e.2.1=1\/e.2.1=2)/\kindOf a e.2.2=e.2.1)/\dirAt a o.ents=none)
theorem highs_app {a:List Ob}(l:List Ob){es:List Ent}(h:∀ e ∈ es,kindOf a e.2.2≠0):highs (a++l) es=highs a es:=by
 unfold highs
 have key:∀ (xs:List Ent) (b:Int),(∀ e ∈ xs,kindOf a e.2.2≠0)->xs.foldl (fun h e=>max h (1+highOf (a++l) e.2.2)) b=xs.foldl (fun h e=>max h (1+highOf a e.2.2)) b:=by
  intro xs
  induction xs with
  | nil=>intro b _;rfl
  | cons x r ih=>
   intro b hx
   rw[List.foldl_cons,List.foldl_cons,highOf_app l (hx x (by simp))]
   exact ih _ (fun e he=>hx e (by simp[he]))
 exact key es 0 h
theorem highs_le {a:List Ob}{es:List Ent}{m:Int}:highs a es<=m↔0<=m/\∀ e ∈ es,1+highOf a e.2.2<=m:=foldl_max_le (fun e:Ent=>highOf a e.2.2) es 0 m
theorem highs_nonneg (a:List Ob)(es:List Ent):0<=highs a es:=(highs_le.1 (Int.le_refl _)).1
theorem ne0 {k:Int}(h:k=1\/k=2):k≠0:=by omega
theorem Exact.snoc {a:List Ob}(h:Exact a){o:Ob}(ho:PutOk a o):Exact (a ++ [o]):=by
 obtain⟨l1,l2,l3,l4⟩:=last_ob a o
 have hc:∀ id,kindOf (a ++ [o]) id≠0->kindOf a id≠0\/id=(a.length:Int)+1:=by
  intro id hid
  rcases kind_snoc hid with h1 | h1 | ⟨h1,h2,h3⟩
  ·exact .inl h1
  ·exact .inr h1
  ·rcases kind_of_lt h.kinds h3 h1 with k | k <;> (rw[k] at h2;cases h2)
 have hents:∀ id,kindOf a id=2->∀ e ∈ entsOf a id,kindOf a e.2.2≠0:=by
  intro id hid e he
  obtain⟨_,k12,hk,_⟩:=(h.sound.2 id hid).2.2 e he
  rw[hk];exact ne0 k12
 have hoe:o.kind=2->∀ e ∈ o.ents,kindOf a e.2.2≠0:=by
  intro hk e he
  rcases ho.or with ⟨k,_⟩ | ⟨_,_,_,_,_,q,_⟩
  ·rw[k] at hk;cases hk
  ·rw[(q e he).2.2];exact ne0 (q e he).2.1
 refine⟨⟨?_,?_⟩,?_,?_,?_⟩
 ·intro id
  unfold highOf
  by_cases h1:(id-1).toNat<a.length
  ·rw[List.getElem?_append_left h1];exact h.sound.1 id
  ·by_cases h2:(id-1).toNat=a.length
   ·rw[h2]
    simp only[List.getElem?_append_right (Nat.le_refl _),Nat.sub_self,List.getElem?_cons_zero,Option.map_some,Option.getD_some]
    rcases ho.or with ⟨_,k,_⟩ | ⟨_,k,_⟩
    ·rw[k];exact Int.le_refl _
    ·rw[k];exact highs_nonneg _ _
   ·rw[List.getElem?_eq_none (by simp;omega)];exact Int.le_refl _
 ·intro id hid
  rcases hc id (by rw[hid];decide) with h1 | h1
  ·rw[kindOf_app _ h1] at hid
   obtain⟨s1,s2,s3⟩:=h.sound.2 id hid
   rw[entsOf_app _ h1]
   refine⟨s1,s2,fun e he=>?_⟩
   obtain⟨q1,q2,q3,q4⟩:=s3 e he
   have hne:kindOf a e.2.2≠0:=by rw[q3];exact ne0 q2
   rw[kindOf_app _ hne,highOf_app _ hne,highOf_app _ h1]
   exact⟨q1,q2,q3,q4⟩
  ·subst h1
   rw[l1] at hid
   rw[l3,l2]
   rcases ho.or with ⟨k,_⟩ | ⟨_,k2,k3,k4,k5,k6,_⟩
   ·rw[k] at hid;cases hid
   ·refine⟨k4,k5,fun e he=>?_⟩
    have hne:=hoe hid e he
    rw[kindOf_app _ hne,highOf_app _ hne,k2]
    have:=(highs_le.1 (Int.le_refl (highs a o.ents))).2 e he
    exact⟨(k6 e he).1,(k6 e he).2.1,(k6 e he).2.2,by omega⟩
 ·intro x hx
  rcases List.mem_append.1 hx with hx | hx
  ·exact h.kinds x hx
  ·rw[List.mem_singleton.1 hx]
   rcases ho.or with ⟨k,_⟩ | ⟨k,_⟩
   ·exact .inl k
   ·exact .inr k
 ·intro id hid
  rcases hc id (by rw[hid];decide) with h1 | h1
  ·rw[kindOf_app _ h1] at hid
   rw[highOf_app _ h1];exact h.low id hid
  ·subst h1
   rw[l1] at hid
   rw[l2]
   rcases ho.or with ⟨_,k,_⟩ | ⟨k,_⟩
   ·exact k
   ·rw[k] at hid;cases hid
 ·intro id hid
  rcases hc id (by rw[hid];decide) with h1 | h1
  ·rw[kindOf_app _ h1] at hid
   rw[highOf_app _ h1,entsOf_app _ h1,highs_app _ (hents id hid)];exact h.high id hid
  ·subst h1
   rw[l1] at hid
   rw[l2,l3,highs_app _ (hoe hid)]
   rcases ho.or with ⟨k,_⟩ | ⟨_,k,_⟩
   ·rw[k] at hid;cases hid
   ·exact k
inductive Drafted (a:List Ob):List Ob->Prop
 | nil:Drafted a a
 | snoc {b:List Ob} {o:Ob}:Drafted a b->PutOk b o->Drafted a (b ++ [o])
theorem Drafted.trans {a b c:List Ob}(h:Drafted a b)(k:Drafted b c):Drafted a c:=by
 induction k with
 | nil=>exact h
 | snoc _ ho ih=>exact .snoc ih ho
theorem Drafted.app {a b:List Ob}(h:Drafted a b):∃ l,b=a++l:=by
 induction h with
 | nil=>exact⟨[],by simp⟩
 | snoc _ _ ih=>obtain⟨l,rfl⟩:=ih;exact⟨_,List.append_assoc _ _ _⟩
theorem Drafted.exact {a b:List Ob}(h:Drafted a b)(he:Exact a):Exact b:=by
 induction h with
 | nil=>exact he
 | snoc _ ho ih=>exact ih.snoc ho
def dirObG (es:List Ent)(h:Int):Ob:={ kind:=2,data:=ByteArray.empty,ea:=none,el:=0,ec:=0,ents:=es,high:=h }
def fileD (a:List Ob)(d:ByteArray):Int×List Ob:=match fileAt a d with
 | some i=>((i:Int)+1,a)
 | none=>((a.length:Int)+1,a ++ [fileOb d])
def dirD (a:List Ob)(es:List Ent):Int×List Ob:=match dirAt a es with
 | some i=>((i:Int)+1,a)
 | none=>((a.length:Int)+1,a ++ [dirObG es (highs a es)])
theorem fileAt_get {a:List Ob}{d:ByteArray}{i:Nat}(h:fileAt a d=some i):∃ hi:i<a.length,a[i].kind=1/\a[i].data=d:=by
 unfold fileAt at h
 obtain⟨hi,h1,_⟩:=List.findIdx?_eq_some_iff_getElem.1 h
 refine⟨hi,?_⟩
 simpa using h1
theorem dirAt_get {a:List Ob}{es:List Ent}{i:Nat}(h:dirAt a es=some i):∃ hi:i<a.length,a[i].kind=2/\a[i].ents=es:=by
 unfold dirAt at h
 obtain⟨hi,h1,_⟩:=List.findIdx?_eq_some_iff_getElem.1 h
 refine⟨hi,?_⟩
 simpa using h1
theorem fileD_ok {a:List Ob}(he:Exact a){d:ByteArray}(hd:d.size<=256):Drafted a (fileD a d).2/\kindOf (fileD a d).2 (fileD a d).1=1/\bytesOf (fileD a d).2 (fileD a d).1=d/\(fileD a d).2.length<=a.length+1:=by
 unfold fileD
 cases h:fileAt a d with
 | some i=>
  obtain⟨hi,h1,h2⟩:=fileAt_get h
  refine⟨.nil,by show kindOf a ((i:Int)+1)=1;rw[kindOf_in hi,h1],?_,by show a.length<=a.length+1;omega⟩
  show bytesOf a ((i:Int)+1)=d
  unfold bytesOf
  rw[show ((i:Int)+1-1).toNat=i by omega,List.getElem?_eq_getElem hi];exact h2
 | none=>
  obtain⟨l1,l2,l3,l4⟩:=last_ob a (fileOb d)
  exact⟨.snoc .nil ⟨.inl ⟨rfl,rfl,hd,h⟩⟩,l1,l4,by simp⟩
theorem dirD_ok {a:List Ob}(he:Exact a){es:List Ent}(h5:highs a es<=5)(hr:RisingK es)(hl:es.length<=16)(hv:∀ e ∈ es,validB e.1=true/\(e.2.1=1\/e.2.1=2)/\kindOf a e.2.2=e.2.1):
  Drafted a (dirD a es).2/\kindOf (dirD a es).2 (dirD a es).1=2/\entsOf (dirD a es).2 (dirD a es).1=es/\highOf (dirD a es).2 (dirD a es).1=highs a es/\(dirD a es).2.length<=a.length+1:=by
 unfold dirD
 cases h:dirAt a es with
 | some i=>
  obtain⟨hi,h1,h2⟩:=dirAt_get h
  have hk:kindOf a ((i:Int)+1)=2:=by rw[kindOf_in hi,h1]
  have hen:entsOf a ((i:Int)+1)=es:=by
   unfold entsOf
   rw[show ((i:Int)+1-1).toNat=i by omega,List.getElem?_eq_getElem hi];exact h2
  refine⟨.nil,hk,hen,?_,by show a.length<=a.length+1;omega⟩
  show highOf a ((i:Int)+1)=highs a es
  rw[he.high _ hk,hen]
 | none=>
  obtain⟨l1,l2,l3,l4⟩:=last_ob a (dirObG es (highs a es))
  exact⟨.snoc .nil ⟨.inr ⟨rfl,rfl,h5,hr,hl,hv,h⟩⟩,l1,l3,l2,by simp⟩
def heldR (x:Option (Int×ByteArray))(a:List Ob):Int×List Ob:=match x with
 | none=>fileD a ⟨#[]⟩
 | some (id,d)=>if id≠0 then (id,a) else fileD a d
def objR (fl:Nat->Option (Int×ByteArray)):Nat->LT->List Ob->Int×List Ob
 | _,.file id,a=>(id,a)
 | _,.dir id,a=>(id,a)
 | _,.held f,a=>heldR (fl f) a
 | 0,.own _,a=>dirD a []
 | n+1,.own es,a=>
  let r:=es.foldl (fun (q:List Ent×List Ob) x=>(q.1 ++ [(x.1,x.2.kind,(objR fl n x.2 q.2).1)],(objR fl n x.2 q.2).2)) ([],a)
  dirD r.2 r.1
def kidsR (fl:Nat->Option (Int×ByteArray))(n:Nat)(es:Kids)(a:List Ob):List Ent×List Ob:=
 es.foldl (fun (q:List Ent×List Ob) x=>(q.1 ++ [(x.1,x.2.kind,(objR fl n x.2 q.2).1)],(objR fl n x.2 q.2).2)) ([],a)
theorem objR_own (fl:Nat->Option (Int×ByteArray))(n:Nat)(es:Kids)(a:List Ob):objR fl (n+1) (.own es) a=dirD (kidsR fl n es a).2 (kidsR fl n es a).1:=by rw[objR];rfl
theorem kidsR_snoc (fl:Nat->Option (Int×ByteArray))(n:Nat)(es:Kids)(x:ByteArray×LT)(a:List Ob):kidsR fl n (es ++ [x]) a=((kidsR fl n es a).1 ++ [(x.1,x.2.kind,(objR fl n x.2 (kidsR fl n es a).2).1)],(objR fl n x.2 (kidsR fl n es a).2).2):=by
 unfold kidsR
 rw[List.foldl_append];rfl
theorem LTok_app {a:List Ob}(l:List Ob):∀ (n:Nat) (t:LT),LTok a n t->LTok (a++l) n t
 | n,.file id,h=>by
  rw[LTok] at h ⊢
  rw[kindOf_app l (by rw[h];decide)];exact h
 | n,.held f,h=>by rw[LTok];trivial
 | n,.dir id,h=>by
  rw[LTok] at h ⊢
  have hne:kindOf a id≠0:=by rw[h.1];decide
  rw[kindOf_app l hne,highOf_app l hne];exact h
 | 0,.own es,h=>by rw[LTok] at h ⊢;exact h
 | n+1,.own es,h=>by
  rw[LTok] at h ⊢
  exact⟨h.1,h.2.1,fun x hx=>⟨(h.2.2 x hx).1,LTok_app l n x.2 (h.2.2 x hx).2⟩⟩
def FlSz (a:List Ob)(fl:Nat->Option (Int×ByteArray)):Prop:=∀ f id d,fl f=some (id,d)->(id≠0->kindOf a id=1)/\(id=0->d.size<=256)
theorem FlSz.app {a:List Ob}{fl:Nat->Option (Int×ByteArray)}(h:FlSz a fl)(l:List Ob):FlSz (a++l) fl:=fun f id d hf=>⟨fun h0=>by
 have hk:=(h f id d hf).1 h0
 rw[kindOf_app l (by rw[hk];decide)];exact hk,(h f id d hf).2⟩
def cntO:Nat->LT->Nat
 | _,.file _=>0
 | _,.dir _=>0
 | _,.held _=>1
 | 0,.own _=>1
 | n+1,.own es=>1+(es.map fun x=>cntO n x.2).sum
theorem lt_kind12 (t:LT):t.kind=1\/t.kind=2:=by cases t <;> simp[LT.kind]
structure ObjOk (a:List Ob)(n k:Nat)(c:LT)(r:Int×List Ob):Prop where
 dr:Drafted a r.2
 kind:kindOf r.2 r.1=c.kind
 high:highOf r.2 r.1<=n
 len:r.2.length<=a.length+k
theorem file_low {a b:List Ob}(h:Drafted a b)(he:Exact a){id:Int}(hk:kindOf b id=1)(n:Nat):highOf b id<=n:=by
 rw[(h.exact he).low id hk];omega
theorem kidsR_ok (fl:Nat->Option (Int×ByteArray))(n:Nat)(ih:∀ (c:LT) (a:List Ob),Exact a->LTok a n c->FlSz a fl->ObjOk a n (cntO n c) c (objR fl n c a)):∀ (es:Kids) (a:List Ob),Exact a->FlSz a fl->(∀ x ∈ es,validB x.1=true/\LTok a n x.2)->
  Drafted a (kidsR fl n es a).2/\(kidsR fl n es a).1.map (·.1)=es.map (·.1)/\(∀ e ∈ (kidsR fl n es a).1,validB e.1=true/\(e.2.1=1\/e.2.1=2)/\kindOf (kidsR fl n es a).2 e.2.2=e.2.1/\highOf (kidsR fl n es a).2 e.2.2<=n)/\(kidsR fl n es a).2.length<=a.length+(es.map fun x=>cntO n x.2).sum:=by
 intro es
 have hrev:∀ l:Kids,∀ a,Exact a->FlSz a fl->(∀ x ∈ l.reverse,validB x.1=true/\LTok a n x.2)->
  Drafted a (kidsR fl n l.reverse a).2/\(kidsR fl n l.reverse a).1.map (·.1)=l.reverse.map (·.1)/\(∀ e ∈ (kidsR fl n l.reverse a).1,validB e.1=true/\(e.2.1=1\/e.2.1=2)/\kindOf (kidsR fl n l.reverse a).2 e.2.2=e.2.1/\highOf (kidsR fl n l.reverse a).2 e.2.2<=n)/\(kidsR fl n l.reverse a).2.length<=a.length+(l.reverse.map fun x=>cntO n x.2).sum:=by
  intro l
  induction l with
  | nil=>intro a _ _ _;exact⟨.nil,rfl,(fun e he=>by cases he),Nat.le_refl _⟩
  | cons x r ihl=>
   intro a he hf hx
   rw[List.reverse_cons] at hx ⊢
   obtain⟨i1,i2,i3,i4⟩:=ihl a he hf (fun y hy=>hx y (by simp[hy]))
   rw[kidsR_snoc]
   obtain⟨l1,hl1⟩:=i1.app
   obtain⟨hv,hok⟩:=hx x (by simp)
   have hx1:=ih x.2 (kidsR fl n r.reverse a).2 (i1.exact he) (by rw[hl1];exact LTok_app l1 n _ hok) (by rw[hl1];exact hf.app l1)
   obtain⟨l2,hl2⟩:=hx1.dr.app
   refine⟨i1.trans hx1.dr,by rw[List.map_append,i2,List.map_append];rfl,fun e hee=>?_,?_⟩
   ·rcases List.mem_append.1 hee with hee | hee
    ·obtain⟨q1,q2,q3,q4⟩:=i3 e hee
     have hne:kindOf (kidsR fl n r.reverse a).2 e.2.2≠0:=by rw[q3];exact ne0 q2
     show validB e.1=true/\(e.2.1=1\/e.2.1=2)/\kindOf (objR fl n x.2 (kidsR fl n r.reverse a).2).2 e.2.2=e.2.1/\highOf (objR fl n x.2 (kidsR fl n r.reverse a).2).2 e.2.2<=n
     rw[hl2,kindOf_app l2 hne,highOf_app l2 hne]
     exact⟨q1,q2,q3,q4⟩
    ·rw[List.mem_singleton.1 hee]
     exact⟨hv,lt_kind12 x.2,hx1.kind,hx1.high⟩
   ·have:=hx1.len
    rw[List.map_append,List.sum_append]
    simp only[List.map_cons,List.map_nil,List.sum_cons,List.sum_nil,Nat.add_zero]
    show (objR fl n x.2 (kidsR fl n r.reverse a).2).2.length<=_
    omega
 have:=hrev es.reverse
 rw[List.reverse_reverse] at this
 exact this
theorem rising_names {α β:Type}:∀ {es:List (ByteArray×α)} {fs:List (ByteArray×β)},es.map (·.1)=fs.map (·.1)->RisingK fs->RisingK es:=by
 intro es fs h hr
 have h1:(fs.map (·.1)).Pairwise (fun x y=>cmpN x y<0):=by rw[List.pairwise_map];exact hr
 rw[<- h,List.pairwise_map] at h1
 exact h1
theorem objR_ok (fl:Nat->Option (Int×ByteArray)):∀ (n:Nat),n<=5->∀ (c:LT) (a:List Ob),Exact a->LTok a n c->FlSz a fl->ObjOk a n (cntO n c) c (objR fl n c a):=by
 have hfile:∀ (n:Nat) (id:Int) (a:List Ob),Exact a->LTok a n (.file id)->ObjOk a n (cntO n (.file id)) (.file id) (id,a):=by
  intro n id a he h
  rw[LTok] at h
  exact⟨.nil,h,file_low .nil he h n,Nat.le_add_right _ _⟩
 have hdir:∀ (n:Nat) (id:Int) (a:List Ob),LTok a n (.dir id)->ObjOk a n (cntO n (.dir id)) (.dir id) (id,a):=by
  intro n id a h
  rw[LTok] at h
  exact⟨.nil,h.1,h.2,Nat.le_add_right _ _⟩
 have hheld:∀ (n:Nat) (f:Nat) (a:List Ob),Exact a->FlSz a fl->ObjOk a n 1 (.held f) (heldR (fl f) a):=by
  intro n f a he hf
  cases hx:fl f with
  | none=>
   obtain⟨q1,q2,q3,q4⟩:=fileD_ok he (d:=⟨#[]⟩) (by decide)
   exact⟨q1,q2,file_low q1 he q2 n,q4⟩
  | some x=>
   obtain⟨id,d⟩:=x
   have hfd:=hf f id d hx
   by_cases h0:id≠0
   ·have e:heldR (some (id,d)) a=(id,a):=by simp[heldR,h0]
    rw[e]
    exact⟨.nil,hfd.1 h0,file_low .nil he (hfd.1 h0) n,Nat.le_add_right _ _⟩
   ·have e:heldR (some (id,d)) a=fileD a d:=by simp[heldR,h0]
    rw[e]
    obtain⟨q1,q2,q3,q4⟩:=fileD_ok he (d:=d) (hfd.2 (Decidable.not_not.1 h0))
    exact⟨q1,q2,file_low q1 he q2 n,q4⟩
 intro n
 induction n with
 | zero=>
  intro _ c a he hok hf
  cases c with
  | file id=>exact hfile 0 id a he hok
  | dir id=>exact hdir 0 id a hok
  | held f=>exact hheld 0 f a he hf
  | own es=>
   have e:objR fl 0 (.own es) a=dirD a []:=by rw[objR]
   rw[e]
   obtain⟨q1,q2,q3,q4,q5⟩:=dirD_ok he (es:=[]) (by show (0:Int)<=5;decide) List.Pairwise.nil (by simp) (fun e he=>by cases he)
   exact⟨q1,q2,by rw[q4];exact Int.le_refl _,q5⟩
 | succ n ih=>
  intro hn c a he hok hf
  cases c with
  | file id=>exact hfile _ id a he hok
  | dir id=>exact hdir _ id a hok
  | held f=>exact hheld _ f a he hf
  | own es=>
   rw[LTok] at hok
   rw[objR_own]
   obtain⟨i1,i2,i3,i4⟩:=kidsR_ok fl n (ih (by omega)) es a he hf hok.2.2
   have hh:highs (kidsR fl n es a).2 (kidsR fl n es a).1<=((n+1:Nat):Int):=highs_le.2 ⟨by omega,fun e hee=>by have:=(i3 e hee).2.2.2;omega⟩
   obtain⟨q1,q2,q3,q4,q5⟩:=dirD_ok (i1.exact he) (es:=(kidsR fl n es a).1) (by omega) (rising_names i2 hok.1) (by have:=congrArg List.length i2;simp only[List.length_map] at this;omega) (fun e hee=>⟨(i3 e hee).1,(i3 e hee).2.1,(i3 e hee).2.2.1⟩)
   refine⟨i1.trans q1,q2,by rw[q4];exact hh,?_⟩
   rw[cntO]
   omega
theorem count_any (p n cap:Nat)(a:Option Addr)(w:World)(h0:w.cell? ⟨p,0,none⟩=some (.slice a n cap)):
  Calls Tryz.prog 44 #[.pointer (some ⟨p,0,none⟩)] w fun e w'=>e=.returned (.int .i64 n)/\w'=w:=by
 go_enter Tryz.func44,Tryz.ntmps44
 go_wp2
 go_ret
 exact⟨rfl,rfl⟩
theorem cell_set_other {w:World}{b k o o':Nat}{v:Value}(h:k≠b):(w.setCell ⟨b,o,none⟩ v).cell? ⟨k,o',none⟩=w.cell? ⟨k,o',none⟩:=World.cell?_of_block (a:=⟨k,o',none⟩) (Below.heap_setCell _ _ _ _ h)
def AddedD (w w':World)(b:Nat)(a:Option Addr)(n cap:Nat)(xs news:List Value):Prop:=
 ∃ g cap' w1,w1.ownsRow 0 145 4 (.slice (some ⟨g,0,none⟩) (n+1) cap') (n+1) (xs++news)/\(∃ o1 o2,((w.alloc o1).alloc o2).drew.grownBy w1 (Value.slice a n cap).ownBlock/\((some g:Option Nat)=(Value.slice a n cap).ownBlock\/g=w.heap.size+2))/\
  ∃ q,w'=(w1.setCell ⟨b,1,none⟩ (.slice (some ⟨g,0,none⟩) (n+1) cap')).drewN q
theorem dadd_some (b p:Nat)(k h:Int)(d:ByteArray)(a:Option Addr)(n cap:Nat)(xs:List Value)(ea:Option Addr)(el ec:Nat)(pa:Option Addr)(pn pc:Nat)(w:World)(hb:b<w.heap.size)(hp:p<w.heap.size)(hbp:b≠p)(hn:n<4000)(hpn:pn<=400)
  (k0:w.cell? ⟨b,0,none⟩=some (.pointer (some ⟨p,0,none⟩)))(k1:w.cell? ⟨b,1,none⟩=some (.slice a n cap))(f1:w.frozen? ⟨b,1,none⟩=false)(q0:w.cell? ⟨p,0,none⟩=some (.slice pa pn pc))
  (hown:w.ownsRow 0 145 4 (.slice a n cap) n xs)(hba:some b≠(Value.slice a n cap).ownBlock)(hpa:some p≠(Value.slice a n cap).ownBlock):
  Calls Tryz.prog 171 #[.pointer (some ⟨b,0,none⟩),.agg #[.int .i64 k,.string d,.slice ea el ec,.int .i64 h]] w fun e w'=>e=.returned (.int .i64 ((pn:Int)+((n+1:Nat):Int)))/\AddedD w w' b a n cap xs [.int .i64 k,.string d,.slice ea el ec,.int .i64 h]:=by
 obtain⟨i0,hi,hz0,hz1,hz2⟩:=info_parts info51
 have h1c:∀ u ∈ [Value.int .i64 k,.string d,.slice ea el ec,.int .i64 h],u.oneCell'=true:=by intro u hu;simp at hu;rcases hu with rfl | rfl | rfl | rfl <;> rfl
 have HO:Hid (w.ownsRow 0 145 4 (.slice a n cap) n xs):=hown
 have HB:Hid (some b≠(Value.slice a n cap).ownBlock):=hba
 have HP:Hid (some p≠(Value.slice a n cap).ownBlock):=hpa
 have H1:Hid (∀ u ∈ [Value.int .i64 k,.string d,.slice ea el ec,.int .i64 h],u.oneCell'=true):=h1c
 have hcnt:=fun W h=>count_any p pn pc pa W h
 have hpb:¬ p=b:=fun e=>hbp e.symm
 clear hown hba hpa h1c
 go_enter Tryz.func171,Tryz.ntmps171
 go_wp2
 go_region_law (refine step_append_own_at rfl (.tmp 9) (.tmp 11) 132 rfl 0 145 i0 _ 4 56 Tryz.underlying132 hi hz0 hz1 hz2 rfl (by decide) (.slice a n cap) n xs (by simp[Act.eval]) ((HO.out.alloc _).alloc _) ⟨w.heap.size+1,0,none⟩ 1 1 [.int .i64 k,.string d,.slice ea el ec,.int .i64 h] (by simp[Act.eval]) rfl (by have q:=cells4 (w.alloc (.cells #[.int .i64 k,.string d,.slice ea el ec,.int .i64 h] 145)) (.int .i64 k) (.string d) (.slice ea el ec) (.int .i64 h) 145;rw[World.size_alloc] at q;exact q) H1.out (by unfold maxLen;omega) (by omega) (Nat.zero_le _) ?_;intro v' w1 hown' hgrow hloc;obtain⟨g,cap',rfl⟩:=slice_of_owns hown' (by omega);have k0':=grown_cell hgrow hb HB.out k0;have k1':=grown_cell hgrow hb HB.out k1;have k2':=grown_frozen hgrow hb HB.out f1;have q0':=grown_cell hgrow hp HP.out q0)
 all_goals
  have q1:∀ X:Value,(w1.setCell ⟨b,1,none⟩ X).cell? ⟨p,0,none⟩=some (.slice pa pn pc):=fun X=>(cell_set_other hpb).trans q0'
  have HFIN:Hid (∀ q,AddedD w ((w1.setCell ⟨b,1,none⟩ (.slice (some ⟨g,0,none⟩) (n+1) cap')).drewN q) b a n cap xs [.int .i64 k,.string d,.slice ea el ec,.int .i64 h]):=fun q=>⟨g,cap',w1,hown',⟨_,_,hgrow,by simpa [Value.ownBlock] using hloc⟩,q,rfl⟩
  clear hgrow hown' hloc q0' HO HB HP H1
  obtain⟨m,hm⟩:∃ m,n+1=m:=⟨_,rfl⟩
  have hmb:m<=4000:=by omega
  rw[hm] at HFIN ⊢
  have HM:Hid (n+1=m):=hm
  clear hm
  go_wp2
  go_quiet (first | (go_at_call 44;exact Calls.quiet_of_same (hcnt _ (q1 _))))
  go_wp2
  go_ret
  obtain rfl:=HM.out
  exact⟨rfl,HFIN.out _⟩
end Go.Proofs.YtajopoddmfdejaaGreat
