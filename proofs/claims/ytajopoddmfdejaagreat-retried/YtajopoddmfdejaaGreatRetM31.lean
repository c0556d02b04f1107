/-
  What is proved here: Stat of a tree, and of a workspace, at any path: as the model says. what a commit puts into a store: objects behind those that are there, each of which is new and may be put; which object a ..
-/
import Derived.Test.YtajopoddmfdejaaGreatRetM30
import Derived.Test.YtajopoddmfdejaaGreatRetM14
import Derived.Test.YtajopoddmfdejaaGreatRetM04
namespace Go.Proofs.YtajopoddmfdejaaGreat
open Go.RowKit Go.Sort Go.Shelf
set_option linter.unusedVariables false
set_option maxRecDepth 100000
set_option maxHeartbeats 16000000
section
variable {s i p:Nat}{B:WB}{objs:List Ob}
end
theorem kindOf_pos {a:List Ob}{id:Int}(h:kindOf a id≠0):1<=id/\(id-1).toNat<a.length:=by
 unfold kindOf at h
 by_cases h1:1<=id
 ·rw[if_pos h1] at h
  refine⟨h1,?_⟩
  by_cases h2:(id-1).toNat<a.length
  ·exact h2
  ·rw[List.getElem?_eq_none (by omega)] at h;exact absurd rfl h
 ·rw[if_neg h1] at h;exact absurd rfl h
theorem kindOf_app {a:List Ob}(l:List Ob){id:Int}(h:kindOf a id≠0):kindOf (a++l) id=kindOf a id:=by
 obtain⟨h1,h2⟩:=kindOf_pos h
 unfold kindOf
 rw[if_pos h1,if_pos h1,List.getElem?_append_left h2]
theorem highOf_app {a:List Ob}(l:List Ob){id:Int}(h:kindOf a id≠0):highOf (a++l) id=highOf a id:=by
 obtain⟨h1,h2⟩:=kindOf_pos h
 unfold highOf
 rw[List.getElem?_append_left h2]
theorem entsOf_app {a:List Ob}(l:List Ob){id:Int}(h:kindOf a id≠0):entsOf (a++l) id=entsOf a id:=by
 obtain⟨h1,h2⟩:=kindOf_pos h
 unfold entsOf
 rw[List.getElem?_append_left h2]
theorem bytesOf_app {a:List Ob}(l:List Ob){id:Int}(h:kindOf a id≠0):bytesOf (a++l) id=bytesOf a id:=by
 obtain⟨h1,h2⟩:=kindOf_pos h
 unfold bytesOf
 rw[List.getElem?_append_left h2]
theorem last_ob (a:List Ob)(o:Ob):kindOf (a ++ [o]) ((a.length:Int)+1)=o.kind/\highOf (a ++ [o]) ((a.length:Int)+1)=o.high/\entsOf (a ++ [o]) ((a.length:Int)+1)=o.ents/\bytesOf (a ++ [o]) ((a.length:Int)+1)=o.data:=by
 have e:(((a.length:Int)+1)-1).toNat=a.length:=by omega
 refine⟨?_,?_,?_,?_⟩
 ·unfold kindOf;rw[if_pos (by omega),e];simp
 ·unfold highOf;rw[e];simp
 ·unfold entsOf;rw[e];simp
 ·unfold bytesOf;rw[e];simp
theorem kind_snoc {a:List Ob}{o:Ob}{id:Int}(h:kindOf (a ++ [o]) id≠0):kindOf a id≠0\/id=(a.length:Int)+1\/((id-1).toNat<a.length/\kindOf a id=0/\1<=id):=by
 obtain⟨h1,h2⟩:=kindOf_pos h
 by_cases h3:(id-1).toNat<a.length
 ·by_cases h4:kindOf a id=0
  ·exact .inr (.inr ⟨h3,h4,h1⟩)
  ·exact .inl h4
 ·refine .inr (.inl ?_)
  simp only[List.length_append,List.length_singleton] at h2
  omega
structure Exact (a:List Ob):Prop where
 sound:Sound a
 kinds:∀ o ∈ a,o.kind=1\/o.kind=2
 low:∀ id,kindOf a id=1->highOf a id=0
 high:∀ id,kindOf a id=2->highOf a id=highs a (entsOf a id)
theorem kind_of_lt {a:List Ob}(hk:∀ o ∈ a,o.kind=1\/o.kind=2){id:Int}(h1:1<=id)(h2:(id-1).toNat<a.length):kindOf a id=1\/kindOf a id=2:=by
 unfold kindOf
 rw[if_pos h1,List.getElem?_eq_getElem h2]
 exact hk _ (List.getElem_mem h2)
structure PutOk (a:List Ob)(o:Ob):Prop where
 or:(o.kind=1/\o.high=0/\o.data.size<=256/\fileAt a o.data=none)\/
  (o.kind=2/\o.high=highs a o.ents/\highs a o.ents<=5/\RisingK o.ents/\o.ents.length<=16/\(∀ e ∈ o.ents,validB e.1=true/\(e.2.1=1\/e.2.1=2)/\kindOf a e.2.2=e.2.1)/\dirAt a o.ents=none)
theorem highs_app {a:List Ob}(l:List Ob){es:List Ent}(h:∀ e ∈ es,kindOf a e.2.2≠0):highs (a++l) es=highs a es:=by
 unfold highs
 have key:∀ (xs:List Ent) (b:Int),(∀ e ∈ xs,kindOf a e.2.2≠0)->xs.foldl (fun h e=>max h (1+highOf (a++l) e.2.2)) b=xs.foldl (fun h e=>max h (1+highOf a e.2.2)) b:=by
  intro xs
  induction xs with
  | nil=>intro b _;rfl
  | cons x r ih=>
   intro b hx
   rw[List.foldl_cons,List.foldl_cons,highOf_app l (hx x (by simp))]
   exact ih _ (fun e he=>hx e (by simp[he]))
 exact key es 0 h
theorem highs_le {a:List Ob}{es:List Ent}{m:Int}:highs a es<=m↔0<=m/\∀ e ∈ es,1+highOf a e.2.2<=m:=foldl_max_le (fun e:Ent=>highOf a e.2.2) es 0 m
theorem highs_nonneg (a:List Ob)(es:List Ent):0<=highs a es:=(highs_le.1 (Int.le_refl _)).1
theorem ne0 {k:Int}(h:k=1\/k=2):k≠0:=by omega
theorem Exact.snoc {a:List Ob}(h:Exact a){o:Ob}(ho:PutOk a o):Exact (a ++ [o]):=by
 obtain⟨l1,l2,l3,l4⟩:=last_ob a o
 have hc:∀ id,kindOf (a ++ [o]) id≠0->kindOf a id≠0\/id=(a.length:Int)+1:=by
  intro id hid
  rcases kind_snoc hid with h1 | h1 | ⟨h1,h2,h3⟩
  ·exact .inl h1
  ·exact .inr h1
  ·rcases kind_of_lt h.kinds h3 h1 with k | k <;> (rw[k] at h2;cases h2)
 have hents:∀ id,kindOf a id=2->∀ e ∈ entsOf a id,kindOf a e.2.2≠0:=by
  intro id hid e he
  obtain⟨_,k12,hk,_⟩:=(h.sound.2 id hid).2.2 e he
  rw[hk];exact ne0 k12
 have hoe:o.kind=2->∀ e ∈ o.ents,kindOf a e.2.2≠0:=by
  intro hk e he
  rcases ho.or with ⟨k,_⟩ | ⟨_,_,_,_,_,q,_⟩
  ·rw[k] at hk;cases hk
  ·rw[(q e he).2.2];exact ne0 (q e he).2.1
 refine⟨⟨?_,?_⟩,?_,?_,?_⟩
 ·intro id
  unfold highOf
  by_cases h1:(id-1).toNat<a.length
  ·rw[List.getElem?_append_left h1];exact h.sound.1 id
  ·by_cases h2:(id-1).toNat=a.length
   ·rw[h2]
    simp only[List.getElem?_append_right (Nat.le_refl _),Nat.sub_self,List.getElem?_cons_zero,Option.map_some,Option.getD_some]
    rcases ho.or with ⟨_,k,_⟩ | ⟨_,k,_⟩
    ·rw[k];exact Int.le_refl _
    ·rw[k];exact highs_nonneg _ _
   ·rw[List.getElem?_eq_none (by simp;omega)];exact Int.le_refl _
 ·intro id hid
  rcases hc id (by rw[hid];decide) with h1 | h1
  ·rw[kindOf_app _ h1] at hid
   obtain⟨s1,s2,s3⟩:=h.sound.2 id hid
   rw[entsOf_app _ h1]
   refine⟨s1,s2,fun e he=>?_⟩
   obtain⟨q1,q2,q3,q4⟩:=s3 e he
   have hne:kindOf a e.2.2≠0:=by rw[q3];exact ne0 q2
   rw[kindOf_app _ hne,highOf_app _ hne,highOf_app _ h1]
   exact⟨q1,q2,q3,q4⟩
  ·subst h1
   rw[l1] at hid
   rw[l3,l2]
   rcases ho.or with ⟨k,_⟩ | ⟨_,k2,k3,k4,k5,k6,_⟩
   ·rw[k] at hid;cases hid
   ·refine⟨k4,k5,fun e he=>?_⟩
    have hne:=hoe hid e he
    rw[kindOf_app _ hne,highOf_app _ hne,k2]
    have:=(highs_le.1 (Int.le_refl (highs a o.ents))).2 e he
    exact⟨(k6 e he).1,(k6 e he).2.1,(k6 e he).2.2,by omega⟩
 ·intro x hx
  rcases List.mem_append.1 hx with hx | hx
  ·exact h.kinds x hx
  ·rw[List.mem_singleton.1 hx]
   rcases ho.or with ⟨k,_⟩ | ⟨k,_⟩
   ·exact .inl k
   ·exact .inr k
 ·intro id hid
  rcases hc id (by rw[hid];decide) with h1 | h1
  ·rw[kindOf_app _ h1] at hid
   rw[highOf_app _ h1];exact h.low id hid
  ·subst h1
   rw[l1] at hid
   rw[l2]
   rcases ho.or with ⟨_,k,_⟩ | ⟨k,_⟩
   ·exact k
   ·rw[k] at hid;cases hid
 ·intro id hid
  rcases hc id (by rw[hid];decide) with h1 | h1
  ·rw[kindOf_app _ h1] at hid
   rw[highOf_app _ h1,entsOf_app _ h1,highs_app _ (hents id hid)];exact h.high id hid
  ·subst h1
   rw[l1] at hid
   rw[l2,l3,highs_app _ (hoe hid)]
   rcases ho.or with ⟨k,_⟩ | ⟨_,k,_⟩
   ·rw[k] at hid;cases hid
   ·exact k
inductive Drafted (a:List Ob):List Ob->Prop
 | nil:Drafted a a
 | snoc {b:List Ob} {o:Ob}:Drafted a b->PutOk b o->Drafted a (b ++ [o])
theorem Drafted.trans {a b c:List Ob}(h:Drafted a b)(k:Drafted b c):Drafted a c:=by
 induction k with
 | nil=>exact h
 | snoc _ ho ih=>exact .snoc ih ho
theorem Drafted.app {a b:List Ob}(h:Drafted a b):∃ l,b=a++l:=by
 induction h with
 | nil=>exact⟨[],by simp⟩
 | snoc _ _ ih=>obtain⟨l,rfl⟩:=ih;exact⟨_,List.append_assoc _ _ _⟩
theorem Drafted.exact {a b:List Ob}(h:Drafted a b)(he:Exact a):Exact b:=by
 induction h with
 | nil=>exact he
 | snoc _ ho ih=>exact ih.snoc ho
def dirObG (es:List Ent)(h:Int):Ob:={ kind:=2,data:=ByteArray.empty,ea:=none,el:=0,ec:=0,ents:=es,high:=h }
def fileD (a:List Ob)(d:ByteArray):Int×List Ob:=match fileAt a d with
 | some i=>((i:Int)+1,a)
 | none=>((a.length:Int)+1,a ++ [fileOb d])
def dirD (a:List Ob)(es:List Ent):Int×List Ob:=match dirAt a es with
 | some i=>((i:Int)+1,a)
 | none=>((a.length:Int)+1,a ++ [dirObG es (highs a es)])
theorem fileAt_get {a:List Ob}{d:ByteArray}{i:Nat}(h:fileAt a d=some i):∃ hi:i<a.length,a[i].kind=1/\a[i].data=d:=by
 unfold fileAt at h
 obtain⟨hi,h1,_⟩:=List.findIdx?_eq_some_iff_getElem.1 h
 refine⟨hi,?_⟩
 simpa using h1
theorem dirAt_get {a:List Ob}{es:List Ent}{i:Nat}(h:dirAt a es=some i):∃ hi:i<a.length,a[i].kind=2/\a[i].ents=es:=by
 unfold dirAt at h
 obtain⟨hi,h1,_⟩:=List.findIdx?_eq_some_iff_getElem.1 h
 refine⟨hi,?_⟩
 simpa using h1
theorem fileD_ok {a:List Ob}(he:Exact a){d:ByteArray}(hd:d.size<=256):Drafted a (fileD a d).2/\kindOf (fileD a d).2 (fileD a d).1=1/\bytesOf (fileD a d).2 (fileD a d).1=d/\(fileD a d).2.length<=a.length+1:=by
 unfold fileD
 cases h:fileAt a d with
 | some i=>
  obtain⟨hi,h1,h2⟩:=fileAt_get h
  refine⟨.nil,by show kindOf a ((i:Int)+1)=1;rw[kindOf_in hi,h1],?_,by show a.length<=a.length+1;omega⟩
  show bytesOf a ((i:Int)+1)=d
  unfold bytesOf
  rw[show ((i:Int)+1-1).toNat=i by omega,List.getElem?_eq_getElem hi];exact h2
 | none=>
  obtain⟨l1,l2,l3,l4⟩:=last_ob a (fileOb d)
  exact⟨.snoc .nil ⟨.inl ⟨rfl,rfl,hd,h⟩⟩,l1,l4,by simp⟩
theorem dirD_ok {a:List Ob}(he:Exact a){es:List Ent}(h5:highs a es<=5)(hr:RisingK es)(hl:es.length<=16)(hv:∀ e ∈ es,validB e.1=true/\(e.2.1=1\/e.2.1=2)/\kindOf a e.2.2=e.2.1):
  Drafted a (dirD a es).2/\kindOf (dirD a es).2 (dirD a es).1=2/\entsOf (dirD a es).2 (dirD a es).1=es/\highOf (dirD a es).2 (dirD a es).1=highs a es/\(dirD a es).2.length<=a.length+1:=by
 unfold dirD
 cases h:dirAt a es with
 | some i=>
  obtain⟨hi,h1,h2⟩:=dirAt_get h
  have hk:kindOf a ((i:Int)+1)=2:=by rw[kindOf_in hi,h1]
  have hen:entsOf a ((i:Int)+1)=es:=by
   unfold entsOf
   rw[show ((i:Int)+1-1).toNat=i by omega,List.getElem?_eq_getElem hi];exact h2
  refine⟨.nil,hk,hen,?_,by show a.length<=a.length+1;omega⟩
  show highOf a ((i:Int)+1)=highs a es
  rw[he.high _ hk,hen]
 | none=>
  obtain⟨l1,l2,l3,l4⟩:=last_ob a (dirObG es (highs a es))
  exact⟨.snoc .nil ⟨.inr ⟨rfl,rfl,h5,hr,hl,hv,h⟩⟩,l1,l3,l2,by simp⟩
def heldR (x:Option (Int×ByteArray))(a:List Ob):Int×List Ob:=match x with
 | none=>fileD a ⟨#[]⟩
 | some (id,d)=>if id≠0 then (id,a) else fileD a d
def objR (fl:Nat->Option (Int×ByteArray)):Nat->LT->List Ob->Int×List Ob
 | _,.file id,a=>(id,a)
 | _,.dir id,a=>(id,a)
 | _,.held f,a=>heldR (fl f) a
 | 0,.own _,a=>dirD a []
 | n+1,.own es,a=>
  let r:=es.foldl (fun (q:List Ent×List Ob) x=>(q.1 ++ [(x.1,x.2.kind,(objR fl n x.2 q.2).1)],(objR fl n x.2 q.2).2)) ([],a)
  dirD r.2 r.1
def kidsR (fl:Nat->Option (Int×ByteArray))(n:Nat)(es:Kids)(a:List Ob):List Ent×List Ob:=
 es.foldl (fun (q:List Ent×List Ob) x=>(q.1 ++ [(x.1,x.2.kind,(objR fl n x.2 q.2).1)],(objR fl n x.2 q.2).2)) ([],a)
theorem objR_own (fl:Nat->Option (Int×ByteArray))(n:Nat)(es:Kids)(a:List Ob):objR fl (n+1) (.own es) a=dirD (kidsR fl n es a).2 (kidsR fl n es a).1:=by rw[objR];rfl
theorem kidsR_snoc (fl:Nat->Option (Int×ByteArray))(n:Nat)(es:Kids)(x:ByteArray×LT)(a:List Ob):kidsR fl n (es ++ [x]) a=((kidsR fl n es a).1 ++ [(x.1,x.2.kind,(objR fl n x.2 (kidsR fl n es a).2).1)],(objR fl n x.2 (kidsR fl n es a).2).2):=by
 unfold kidsR
 rw[List.foldl_append];rfl
theorem LTok_app {a:List Ob}(l:List Ob):∀ (n:Nat) (t:LT),LTok a n t->LTok (a++l) n t
 | n,.file id,h=>by
  rw[LTok] at h ⊢
  rw[kindOf_app l (by rw[h];decide)];exact h
 | n,.held f,h=>by rw[LTok];trivial
 | n,.dir id,h=>by
  rw[LTok] at h ⊢
  have hne:kindOf a id≠0:=by rw[h.1];decide
  rw[kindOf_app l hne,highOf_app l hne];exact h
 | 0,.own es,h=>by rw[LTok] at h ⊢;exact h
 | n+1,.own es,h=>by
  rw[LTok] at h ⊢
  exact⟨h.1,h.2.1,fun x hx=>⟨(h.2.2 x hx).1,LTok_app l n x.2 (h.2.2 x hx).2⟩⟩
def FlSz (a:List Ob)(fl:Nat->Option (Int×ByteArray)):Prop:=∀ f id d,fl f=some (id,d)->(id≠0->kindOf a id=1)/\(id=0->d.size<=256)
theorem FlSz.app {a:List Ob}{fl:Nat->Option (Int×ByteArray)}(h:FlSz a fl)(l:List Ob):FlSz (a++l) fl:=fun f id d hf=>⟨fun h0=>by
 have hk:=(h f id d hf).1 h0
 rw[kindOf_app l (by rw[hk];decide)];exact hk,(h f id d hf).2⟩
def cntO:Nat->LT->Nat
 | _,.file _=>0
 | _,.dir _=>0
 | _,.held _=>1
 | 0,.own _=>1
 | n+1,.own es=>1+(es.map fun x=>cntO n x.2).sum
theorem lt_kind12 (t:LT):t.kind=1\/t.kind=2:=by cases t <;> simp[LT.kind]
structure ObjOk (a:List Ob)(n k:Nat)(c:LT)(r:Int×List Ob):Prop where
 dr:Drafted a r.2
 kind:kindOf r.2 r.1=c.kind
 high:highOf r.2 r.1<=n
 len:r.2.length<=a.length+k
theorem file_low {a b:List Ob}(h:Drafted a b)(he:Exact a){id:Int}(hk:kindOf b id=1)(n:Nat):highOf b id<=n:=by
 rw[(h.exact he).low id hk];omega
theorem kidsR_ok (fl:Nat->Option (Int×ByteArray))(n:Nat)(ih:∀ (c:LT) (a:List Ob),Exact a->LTok a n c->FlSz a fl->ObjOk a n (cntO n c) c (objR fl n c a)):∀ (es:Kids) (a:List Ob),Exact a->FlSz a fl->(∀ x ∈ es,validB x.1=true/\LTok a n x.2)->
  Drafted a (kidsR fl n es a).2/\(kidsR fl n es a).1.map (·.1)=es.map (·.1)/\(∀ e ∈ (kidsR fl n es a).1,validB e.1=true/\(e.2.1=1\/e.2.1=2)/\kindOf (kidsR fl n es a).2 e.2.2=e.2.1/\highOf (kidsR fl n es a).2 e.2.2<=n)/\(kidsR fl n es a).2.length<=a.length+(es.map fun x=>cntO n x.2).sum:=by
 intro es
 have hrev:∀ l:Kids,∀ a,Exact a->FlSz a fl->(∀ x ∈ l.reverse,validB x.1=true/\LTok a n x.2)->
  Drafted a (kidsR fl n l.reverse a).2/\(kidsR fl n l.reverse a).1.map (·.1)=l.reverse.map (·.1)/\(∀ e ∈ (kidsR fl n l.reverse a).1,validB e.1=true/\(e.2.1=1\/e.2.1=2)/\kindOf (kidsR fl n l.reverse a).2 e.2.2=e.2.1/\highOf (kidsR fl n l.reverse a).2 e.2.2<=n)/\(kidsR fl n l.reverse a).2.length<=a.length+(l.reverse.map fun x=>cntO n x.2).sum:=by
  intro l
  induction l with
  | nil=>intro a _ _ _;exact⟨.nil,rfl,(fun e he=>by cases he),Nat.le_refl _⟩
  | cons x r ihl=>
   intro a he hf hx
   rw[List.reverse_cons] at hx ⊢
   obtain⟨i1,i2,i3,i4⟩:=ihl a he hf (fun y hy=>hx y (by simp[hy]))
   rw[kidsR_snoc]
   obtain⟨l1,hl1⟩:=i1.app
   obtain⟨hv,hok⟩:=hx x (by simp)
   have hx1:=ih x.2 (kidsR fl n r.reverse a).2 (i1.exact he) (by rw[hl1];exact LTok_app l1 n _ hok) (by rw[hl1];exact hf.app l1)
   obtain⟨l2,hl2⟩:=hx1.dr.app
   refine⟨i1.trans hx1.dr,by rw[List.map_append,i2,List.map_append];rfl,fun e hee=>?_,?_⟩
   ·rcases List.mem_append.1 hee with hee | hee
    ·obtain⟨q1,q2,q3,q4⟩:=i3 e hee
     have hne:kindOf (kidsR fl n r.reverse a).2 e.2.2≠0:=by rw[q3];exact ne0 q2
     show validB e.1=true/\(e.2.1=1\/e.2.1=2)/\kindOf (objR fl n x.2 (kidsR fl n r.reverse a).2).2 e.2.2=e.2.1/\highOf (objR fl n x.2 (kidsR fl n r.reverse a).2).2 e.2.2<=n
     rw[hl2,kindOf_app l2 hne,highOf_app l2 hne]
     exact⟨q1,q2,q3,q4⟩
    ·rw[List.mem_singleton.1 hee]
     exact⟨hv,lt_kind12 x.2,hx1.kind,hx1.high⟩
   ·have:=hx1.len
    rw[List.map_append,List.sum_append]
    simp only[List.map_cons,List.map_nil,List.sum_cons,List.sum_nil,Nat.add_zero]
    show (objR fl n x.2 (kidsR fl n r.reverse a).2).2.length<=_
    omega
 have:=hrev es.reverse
 rw[List.reverse_reverse] at this
 exact this
theorem rising_names {α β:Type}:∀ {es:List (ByteArray×α)} {fs:List (ByteArray×β)},es.map (·.1)=fs.map (·.1)->RisingK fs->RisingK es:=by
 intro es fs h hr
 have h1:(fs.map (·.1)).Pairwise (fun x y=>cmpN x y<0):=by rw[List.pairwise_map];exact hr
 rw[<- h,List.pairwise_map] at h1
 exact h1
theorem objR_ok (fl:Nat->Option (Int×ByteArray)):∀ (n:Nat),n<=5->∀ (c:LT) (a:List Ob),Exact a->LTok a n c->FlSz a fl->ObjOk a n (cntO n c) c (objR fl n c a):=by
 have hfile:∀ (n:Nat) (id:Int) (a:List Ob),Exact a->LTok a n (.file id)->ObjOk a n (cntO n (.file id)) (.file id) (id,a):=by
  intro n id a he h
  rw[LTok] at h
  exact⟨.nil,h,file_low .nil he h n,Nat.le_add_right _ _⟩
 have hdir:∀ (n:Nat) (id:Int) (a:List Ob),LTok a n (.dir id)->ObjOk a n (cntO n (.dir id)) (.dir id) (id,a):=by
  intro n id a h
  rw[LTok] at h
  exact⟨.nil,h.1,h.2,Nat.le_add_right _ _⟩
 have hheld:∀ (n:Nat) (f:Nat) (a:List Ob),Exact a->FlSz a fl->ObjOk a n 1 (.held f) (heldR (fl f) a):=by
  intro n f a he hf
  cases hx:fl f with
  | none=>
   obtain⟨q1,q2,q3,q4⟩:=fileD_ok he (d:=⟨#[]⟩) (by decide)
   exact⟨q1,q2,file_low q1 he q2 n,q4⟩
  | some x=>
   obtain⟨id,d⟩:=x
   have hfd:=hf f id d hx
   by_cases h0:id≠0
   ·have e:heldR (some (id,d)) a=(id,a):=by simp[heldR,h0]
    rw[e]
    exact⟨.nil,hfd.1 h0,file_low .nil he (hfd.1 h0) n,Nat.le_add_right _ _⟩
   ·have e:heldR (some (id,d)) a=fileD a d:=by simp[heldR,h0]
    rw[e]
    obtain⟨q1,q2,q3,q4⟩:=fileD_ok he (d:=d) (hfd.2 (Decidable.not_not.1 h0))
    exact⟨q1,q2,file_low q1 he q2 n,q4⟩
 intro n
 induction n with
 | zero=>
  intro _ c a he hok hf
  cases c with
  | file id=>exact hfile 0 id a he hok
  | dir id=>exact hdir 0 id a hok
  | held f=>exact hheld 0 f a he hf
  | own es=>
   have e:objR fl 0 (.own es) a=dirD a []:=by rw[objR]
   rw[e]
   obtain⟨q1,q2,q3,q4,q5⟩:=dirD_ok he (es:=[]) (by show (0:Int)<=5;decide) List.Pairwise.nil (by simp) (fun e he=>by cases he)
   exact⟨q1,q2,by rw[q4];exact Int.le_refl _,q5⟩
 | succ n ih=>
  intro hn c a he hok hf
  cases c with
  | file id=>exact hfile _ id a he hok
  | dir id=>exact hdir _ id a hok
  | held f=>exact hheld _ f a he hf
  | own es=>
   rw[LTok] at hok
   rw[objR_own]
   obtain⟨i1,i2,i3,i4⟩:=kidsR_ok fl n (ih (by omega)) es a he hf hok.2.2
   have hh:highs (kidsR fl n es a).2 (kidsR fl n es a).1<=((n+1:Nat):Int):=highs_le.2 ⟨by omega,fun e hee=>by have:=(i3 e hee).2.2.2;omega⟩
   obtain⟨q1,q2,q3,q4,q5⟩:=dirD_ok (i1.exact he) (es:=(kidsR fl n es a).1) (by omega) (rising_names i2 hok.1) (by have:=congrArg List.length i2;simp only[List.length_map] at this;omega) (fun e hee=>⟨(i3 e hee).1,(i3 e hee).2.1,(i3 e hee).2.2.1⟩)
   refine⟨i1.trans q1,q2,by rw[q4];exact hh,?_⟩
   rw[cntO]
   omega
theorem count_any (p n cap:Nat)(a:Option Addr)(w:World)(h0:w.cell? ⟨p,0,none⟩=some (.slice a n cap)):
  Calls Tryz.prog 44 #[.pointer (some ⟨p,0,none⟩)] w fun e w'=>e=.returned (.int .i64 n)/\w'=w:=by
 go_enter Tryz.func44,Tryz.ntmps44
 go_wp2
 go_ret
 exact⟨rfl,rfl⟩
theorem cell_set_other {w:World}{b k o o':Nat}{v:Value}(h:k≠b):(w.setCell ⟨b,o,none⟩ v).cell? ⟨k,o',none⟩=w.cell? ⟨k,o',none⟩:=World.cell?_of_block (a:=⟨k,o',none⟩) (Below.heap_setCell _ _ _ _ h)
def AddedD (w w':World)(b:Nat)(a:Option Addr)(n cap:Nat)(xs news:List Value):Prop:=
 ∃ g cap' w1,w1.ownsRow 0 145 4 (.slice (some ⟨g,0,none⟩) (n+1) cap') (n+1) (xs++news)/\(∃ o1 o2,((w.alloc o1).alloc o2).drew.grownBy w1 (Value.slice a n cap).ownBlock/\((some g:Option Nat)=(Value.slice a n cap).ownBlock\/g=w.heap.size+2))/\
  ∃ q,w'=(w1.setCell ⟨b,1,none⟩ (.slice (some ⟨g,0,none⟩) (n+1) cap')).drewN q
theorem dadd_some (b p:Nat)(k h:Int)(d:ByteArray)(a:Option Addr)(n cap:Nat)(xs:List Value)(ea:Option Addr)(el ec:Nat)(pa:Option Addr)(pn pc:Nat)(w:World)(hb:b<w.heap.size)(hp:p<w.heap.size)(hbp:b≠p)(hn:n<4000)(hpn:pn<=400)
  (k0:w.cell? ⟨b,0,none⟩=some (.pointer (some ⟨p,0,none⟩)))(k1:w.cell? ⟨b,1,none⟩=some (.slice a n cap))(f1:w.frozen? ⟨b,1,none⟩=false)(q0:w.cell? ⟨p,0,none⟩=some (.slice pa pn pc))
  (hown:w.ownsRow 0 145 4 (.slice a n cap) n xs)(hba:some b≠(Value.slice a n cap).ownBlock)(hpa:some p≠(Value.slice a n cap).ownBlock):
  Calls Tryz.prog 171 #[.pointer (some ⟨b,0,none⟩),.agg #[.int .i64 k,.string d,.slice ea el ec,.int .i64 h]] w fun e w'=>e=.returned (.int .i64 ((pn:Int)+((n+1:Nat):Int)))/\AddedD w w' b a n cap xs [.int .i64 k,.string d,.slice ea el ec,.int .i64 h]:=by
 obtain⟨i0,hi,hz0,hz1,hz2⟩:=info_parts info51
 have h1c:∀ u ∈ [Value.int .i64 k,.string d,.slice ea el ec,.int .i64 h],u.oneCell'=true:=by intro u hu;simp at hu;rcases hu with rfl | rfl | rfl | rfl <;> rfl
 have HO:Hid (w.ownsRow 0 145 4 (.slice a n cap) n xs):=hown
 have HB:Hid (some b≠(Value.slice a n cap).ownBlock):=hba
 have HP:Hid (some p≠(Value.slice a n cap).ownBlock):=hpa
 have H1:Hid (∀ u ∈ [Value.int .i64 k,.string d,.slice ea el ec,.int .i64 h],u.oneCell'=true):=h1c
 have hcnt:=fun W h=>count_any p pn pc pa W h
 have hpb:¬ p=b:=fun e=>hbp e.symm
 clear hown hba hpa h1c
 go_enter Tryz.func171,Tryz.ntmps171
 go_wp2
 go_region_law (refine step_append_own_at rfl (.tmp 9) (.tmp 11) 132 rfl 0 145 i0 _ 4 56 Tryz.underlying132 hi hz0 hz1 hz2 rfl (by decide) (.slice a n cap) n xs (by simp[Act.eval]) ((HO.out.alloc _).alloc _) ⟨w.heap.size+1,0,none⟩ 1 1 [.int .i64 k,.string d,.slice ea el ec,.int .i64 h] (by simp[Act.eval]) rfl (by have q:=cells4 (w.alloc (.cells #[.int .i64 k,.string d,.slice ea el ec,.int .i64 h] 145)) (.int .i64 k) (.string d) (.slice ea el ec) (.int .i64 h) 145;rw[World.size_alloc] at q;exact q) H1.out (by unfold maxLen;omega) (by omega) (Nat.zero_le _) ?_;intro v' w1 hown' hgrow hloc;obtain⟨g,cap',rfl⟩:=slice_of_owns hown' (by omega);have k0':=grown_cell hgrow hb HB.out k0;have k1':=grown_cell hgrow hb HB.out k1;have k2':=grown_frozen hgrow hb HB.out f1;have q0':=grown_cell hgrow hp HP.out q0)
 all_goals
  have q1:∀ X:Value,(w1.setCell ⟨b,1,none⟩ X).cell? ⟨p,0,none⟩=some (.slice pa pn pc):=fun X=>(cell_set_other hpb).trans q0'
  have HFIN:Hid (∀ q,AddedD w ((w1.setCell ⟨b,1,none⟩ (.slice (some ⟨g,0,none⟩) (n+1) cap')).drewN q) b a n cap xs [.int .i64 k,.string d,.slice ea el ec,.int .i64 h]):=fun q=>⟨g,cap',w1,hown',⟨_,_,hgrow,by simpa [Value.ownBlock] using hloc⟩,q,rfl⟩
  clear hgrow hown' hloc q0' HO HB HP H1
  obtain⟨m,hm⟩:∃ m,n+1=m:=⟨_,rfl⟩
  have hmb:m<=4000:=by omega
  rw[hm] at HFIN ⊢
  have HM:Hid (n+1=m):=hm
  clear hm
  go_wp2
  go_quiet (first | (go_at_call 44;exact Calls.quiet_of_same (hcnt _ (q1 _))))
  go_wp2
  go_ret
  obtain rfl:=HM.out
  exact⟨rfl,HFIN.out _⟩
structure DB where
 dr:Nat
 mf:Nat
 md:Nat
def DFilesOk (n0:Nat)(ms:List Ob)(D:DataW Unit):Prop:=∀ d:ByteArray,Maps.has D (.string d.data.toList)=(fileAt ms d).isSome/\∀ i,fileAt ms d=some i->D.atKey (.string d.data.toList) (.lit (.int .i64 0))=.lit (.int .i64 ((n0:Int)+((i+1:Nat):Int)))
def DDirsOk (n0:Nat)(ms:List Ob)(D:DataW Unit):Prop:=∀ es:List Ent,Named es->Maps.has D (keyFor Tryz.prog es)=(dirAt ms es).isSome/\∀ i,dirAt ms es=some i->D.atKey (keyFor Tryz.prog es) (.lit (.int .i64 0))=.lit (.int .i64 ((n0:Int)+((i+1:Nat):Int)))
theorem DFilesOk.put {n0:Nat}{objs:List Ob}{D:DataW Unit}(h:DFilesOk n0 objs D)(hD:Maps.IsMap D)(d:ByteArray)(hd:fileAt objs d=none){o:Ob}(hk:o.kind=1)(ho:o.data=d):DFilesOk n0 (objs ++ [o]) (D.put (.string d.data.toList) (.lit (.int .i64 ((n0:Int)+((objs.length+1:Nat):Int))))):=by
 intro d'
 rw[fileAt_snoc,ho]
 by_cases e:d=d'
 ·subst e
  rw[hd,if_pos ⟨hk,rfl⟩]
  refine⟨?_,?_⟩
  ·rw[Maps.has_put_same hD (show WideAt.IsKeyLit (.string d.data.toList) from trivial)];rfl
  ·intro i hi
   simp only[Option.none_or,Option.some.injEq] at hi
   subst hi
   exact Maps.atKey_put_same hD (show WideAt.IsKeyLit (.string d.data.toList) from trivial) _ _
 ·have hne:(Lit.string d'.data.toList) ≠ .string d.data.toList:=fun h=>e (bytes_inj (by simpa using h.symm))
  rw[if_neg (fun h=>e h.2),Option.or_none]
  refine⟨?_,?_⟩
  ·rw[Maps.has_put_other hne];exact (h d').1
  ·intro i hi
   rw[Maps.atKey_put_other hne];exact (h d').2 i hi
theorem DFilesOk.other {n0:Nat}{objs:List Ob}{D:DataW Unit}(h:DFilesOk n0 objs D){o:Ob}(ho:o.kind≠1):DFilesOk n0 (objs ++ [o]) D:=by
 intro d'
 rw[fileAt_snoc,if_neg (fun h=>ho h.1),Option.or_none]
 exact h d'
theorem DDirsOk.put {n0:Nat}{objs:List Ob}{D:DataW Unit}(h:DDirsOk n0 objs D)(hD:Maps.IsMap D){es:List Ent}(hn:Named es)(hd:dirAt objs es=none){o:Ob}(hk:o.kind=2)(he:o.ents=es):
  DDirsOk n0 (objs ++ [o]) (D.put (keyFor Tryz.prog es) (.lit (.int .i64 ((n0:Int)+((objs.length+1:Nat):Int))))):=by
 intro es' hn'
 have k1:=keyOf_listing es hn.1 (fun e he=>(hn.2 e he).1)
 have kl:WideAt.IsKeyLit (keyFor Tryz.prog es):=law58.key k1
 rw[dirAt_snoc,he]
 by_cases e:es=es'
 ·subst e
  rw[hd,if_pos ⟨hk,rfl⟩]
  refine⟨?_,?_⟩
  ·rw[Maps.has_put_same hD kl];rfl
  ·intro i hi
   simp only[Option.none_or,Option.some.injEq] at hi
   subst hi
   exact Maps.atKey_put_same hD kl _ _
 ·have hne:keyFor Tryz.prog es'≠keyFor Tryz.prog es:=fun h=>e (keyFor_inj hn.1 hn'.1 (fun e he=>(hn.2 e he).1) (fun e he=>(hn'.2 e he).1) (fun e he=>(hn.2 e he).2) (fun e he=>(hn'.2 e he).2) h.symm)
  rw[if_neg (fun h=>e h.2),Option.or_none]
  refine⟨?_,?_⟩
  ·rw[Maps.has_put_other hne];exact (h es' hn').1
  ·intro i hi
   rw[Maps.atKey_put_other hne];exact (h es' hn').2 i hi
theorem DDirsOk.other {n0:Nat}{objs:List Ob}{D:DataW Unit}(h:DDirsOk n0 objs D){o:Ob}(ho:o.kind≠2):DDirsOk n0 (objs ++ [o]) D:=by
 intro es' hn'
 rw[dirAt_snoc,if_neg (fun h=>ho h.1),Option.or_none]
 exact h es' hn'
def DrAt (w:World)(p:Nat)(b:DB)(a:Option Addr)(n cap:Nat):Prop:=w.heap[b.dr]? = some (.cells #[.pointer (some ⟨p,0,none⟩),.slice a n cap,.map (some b.mf),.map (some b.md)] 185 (0,0))
theorem DrAt.c {w:World}{p:Nat}{b:DB}{a:Option Addr}{n cap:Nat}(h:DrAt w p b a n cap):b.dr<w.heap.size/\w.cell? ⟨b.dr,0,none⟩=some (.pointer (some ⟨p,0,none⟩))/\w.cell? ⟨b.dr,1,none⟩=some (.slice a n cap)/\w.cell? ⟨b.dr,2,none⟩=some (.map (some b.mf))/\w.cell? ⟨b.dr,3,none⟩=some (.map (some b.md))/\w.frozen? ⟨b.dr,1,none⟩=false:=by
 unfold DrAt at h
 exact⟨(Array.getElem?_eq_some_iff.1 h).1,by simp[World.cell?,h],by simp[World.cell?,h],by simp[World.cell?,h],by simp[World.cell?,h],by simp[World.frozen?,h]⟩
structure DraftAt (D:Nat->Prop)(w:World)(p:Nat)(b:DB)(n0:Nat)(a:Option Addr)(cap:Nat)(Df Dd:DataW Unit)(ms:List Ob):Prop where
 dd:D b.dr
 df:D b.mf
 dm:D b.md
 da:∀ g,(Value.slice a ms.length cap).ownBlock=some g->D g
 hd:DrAt w p b a ms.length cap
 row:w.ownsRow 0 145 4 (.slice a ms.length cap) ms.length (obCells ms)
 files:w.ownsMap Tryz.prog 9 (plainElem Tryz.prog 26) b.mf ms.length Df
 filesOk:DFilesOk n0 ms Df
 dirs:w.ownsMap Tryz.prog 140 (plainElem Tryz.prog 26) b.md ms.length Dd
 dirsOk:DDirsOk n0 ms Dd
 ne:b.mf≠b.md
 obs:∀ o ∈ ms,ObOk w D o
 low:∀ o ∈ ms,o.high=0
theorem DraftAt.keep {D D':Nat->Prop}{w w':World}{p:Nat}{b:DB}{n0:Nat}{a:Option Addr}{cap:Nat}{Df Dd:DataW Unit}{ms:List Ob}(h:DraftAt D w p b n0 a cap Df Dd ms)(hk:∀ k,k<w.heap.size->D k->w'.heap[k]? = w.heap[k]?)(hD:∀ k,k<w.heap.size->D k->D' k):DraftAt D' w' p b n0 a cap Df Dd ms:=by
 have hrow:∀ v m t k xs,w.ownsRow 0 t k v m xs->(∀ g,v.ownBlock=some g->D g)->w'.ownsRow 0 t k v m xs:=fun v m t k xs hr hFg=>ownsRow_keep hr (fun g hg=>hk g (ownsRow_lt hr hg) (hFg g hg))
 refine⟨hD _ h.hd.c.1 h.dd,hD _ h.files.lt h.df,hD _ h.dirs.lt h.dm,fun g hg=>hD g (ownsRow_lt h.row hg) (h.da g hg),?_,hrow _ _ _ _ _ h.row h.da,ownsMap_keep h.files (hk _ h.files.lt h.df),h.filesOk,ownsMap_keep h.dirs (hk _ h.dirs.lt h.dm),h.dirsOk,h.ne,fun o ho=>?_,h.low⟩
 ·have:=h.hd
  unfold DrAt at this ⊢
  rw[hk _ h.hd.c.1 h.dd];exact this
 ·rcases h.obs o ho with h | ⟨h1,h2,h3,h4,h5,h6,h8,h9⟩
  ·exact .inl h
  ·exact .inr ⟨h1,h2,h3,h4,h5,h6,fun g hg=>hD g (ownsRow_lt h9 hg) (h8 g hg),hrow _ _ _ _ _ h9 h8⟩
theorem AddedD.facts {w w':World}{p:Nat}{b:DB}{a:Option Addr}{n cap:Nat}{xs news:List Value}(hA:AddedD w w' b.dr a n cap xs news)(hp:DrAt w p b a n cap)(hpa:some b.dr≠(Value.slice a n cap).ownBlock):
  ∃ g cap',DrAt w' p b (some ⟨g,0,none⟩) (n+1) cap'/\w'.ownsRow 0 145 4 (.slice (some ⟨g,0,none⟩) (n+1) cap') (n+1) (xs++news)/\((some g:Option Nat)=(Value.slice a n cap).ownBlock\/w.heap.size<=g)/\
   w'.os=w.os/\w'.tape=w.tape/\w'.output=w.output/\w.heap.size<=w'.heap.size/\∀ k,k<w.heap.size->k≠b.dr->some k≠(Value.slice a n cap).ownBlock->w'.heap[k]? = w.heap[k]?:=by
 obtain⟨g,cap',w1,hown,⟨o1,o2,hg,hloc⟩,q,rfl⟩:=hA
 have hlt:b.dr<w.heap.size:=hp.c.1
 have hkeep:∀ k,k<w.heap.size->some k≠(Value.slice a n cap).ownBlock->w1.heap[k]? = w.heap[k]?:=by
  intro k hk hne
  rw[hg.block k (by simp;omega) hne]
  show ((w.alloc o1).alloc o2).heap[k]? = _
  rw[Below.heap_alloc _ _ _ (by simp;omega),Below.heap_alloc _ _ _ hk]
 have hw1:w1.heap[b.dr]? = some (.cells #[.pointer (some ⟨p,0,none⟩),.slice a n cap,.map (some b.mf),.map (some b.md)] 185 (0,0)):=by rw[hkeep b.dr hlt hpa];exact hp
 have hgp:g≠b.dr:=by
  intro e
  rcases hloc with h | h
  ·rw[e] at h;exact hpa h
  ·omega
 have hs:=hg.size
 simp at hs
 have hh:∀ k:Nat,((w1.setCell ⟨b.dr,1,none⟩ (.slice (some ⟨g,0,none⟩) (n+1) cap')).drewN q).heap[k]? = (w1.setCell ⟨b.dr,1,none⟩ (.slice (some ⟨g,0,none⟩) (n+1) cap')).heap[k]?:=fun k=>rfl
 refine⟨g,cap',?_,?_,?_,?_,?_,?_,?_,?_⟩
 ·unfold DrAt
  rw[hh]
  simp[World.setCell,Array.getElem?_modify,hw1]
 ·refine ownsRow_keep hown (fun g' hg'=>?_)
  obtain rfl:g=g':=by simpa [Value.ownBlock] using hg'
  rw[hh,Below.heap_setCell _ _ _ _ hgp]
 ·rcases hloc with h | h
  ·exact Or.inl h
  ·exact Or.inr (by omega)
 ·exact hg.os
 ·exact hg.tape
 ·exact hg.output
 ·show _<=(w1.setCell _ _).heap.size
  simp;omega
 ·intro k hk hkp hne
  rw[hh,Below.heap_setCell _ _ _ _ hkp,hkeep k hk hne]
def GrewD (w w':World)(p:Nat)(b:DB)(a:Option Addr)(n cap bm:Nat)(k:TypeId)(cells:List Value)(D:DataW Unit):Prop:=
 ∃ g2 cap2,DrAt w' p b (some ⟨g2,0,none⟩) (n+1) cap2/\w'.ownsRow 0 145 4 (.slice (some ⟨g2,0,none⟩) (n+1) cap2) (n+1) cells/\((some g2:Option Nat)=(Value.slice a n cap).ownBlock\/w.heap.size<=g2)/\
  w'.ownsMap Tryz.prog k (plainElem Tryz.prog 26) bm (n+1) D/\Turned w w' b.dr bm (Value.slice a n cap).ownBlock
theorem AddedD.grew {w w5 w6:World}{p:Nat}{b:DB}{a:Option Addr}{n cap bm:Nat}{k:TypeId}{xs news:List Value}{D:DataW Unit}(hA:AddedD w w5 b.dr a n cap xs news)(hp:DrAt w p b a n cap)(hrow:w.ownsRow 0 145 4 (.slice a n cap) n xs)
  {es0:Array MapEntry}{clock:Nat}(hm:w.heap[bm]? = some (.map es0 clock))(h6:w6.ownsMap Tryz.prog k (plainElem Tryz.prog 26) bm (n+1) D)(hg6:w5.grownBy w6 (some bm)):GrewD w w6 p b a n cap bm k (xs++news) D:=by
 have np:=owns_ne_cells hrow (b:=b.dr) hp (by decide)
 have nm:=owns_ne_map hrow hm
 have hmp:bm≠b.dr:=by rintro rfl;unfold DrAt at hp;rw[hm] at hp;cases hp
 obtain⟨g2,cap2,hp5,hr5,hloc,hos,htape,hout,hsz5,hkeep⟩:=hA.facts hp np
 have hbm:bm<w.heap.size:=(Array.getElem?_eq_some_iff.1 hm).1
 have hm5:w5.heap[bm]? = some (.map es0 clock):=(hkeep bm hbm hmp nm).trans hm
 refine⟨g2,cap2,?_,?_,hloc,h6,⟨?_,?_,?_,?_,?_⟩⟩
 ·unfold DrAt
  rw[hg6.block b.dr (Nat.lt_of_lt_of_le hp.c.1 hsz5) (fun e=>hmp (Option.some.inj e).symm)]
  exact hp5
 ·refine ownsRow_keep hr5 (fun g' hg'=>(hg6.block g' (ownsRow_lt hr5 hg') ?_))
  have:=owns_ne_map hr5 hm5
  rw[hg'] at this
  exact fun e=>this e.symm
 ·rw[hg6.os];exact hos
 ·rw[hg6.tape];exact htape
 ·rw[hg6.output];exact hout
 ·exact Nat.le_trans hsz5 hg6.size
 ·intro k hk hkp hkb hne
  rw[hg6.block k (Nat.lt_of_lt_of_le hk hsz5) (fun e=>hkb (Option.some.inj e))]
  exact hkeep k hk hkp hne
theorem GrewD.before {w w1 w':World}{p:Nat}{b:DB}{a:Option Addr}{n cap bm:Nat}{k:TypeId}{cells:List Value}{D:DataW Unit}(hb:Below w.heap.size w w1)(h:GrewD w1 w' p b a n cap bm k cells D):GrewD w w' p b a n cap bm k cells D:=by
 obtain⟨g2,cap2,h1,h2,h3,h4,h5⟩:=h
 refine⟨g2,cap2,h1,h2,?_,h4,⟨h5.os.trans hb.os,h5.tape.trans hb.tape,h5.output.trans hb.output,Nat.le_trans hb.size h5.size,fun k hk hkp hkb hne=>?_⟩⟩
 ·rcases h3 with h | h
  ·exact .inl h
  ·exact .inr (Nat.le_trans hb.size h)
 ·rw[h5.block k (Nat.lt_of_lt_of_le hk hb.size) hkp hkb hne,hb.block k hk]
theorem DraftAt.grow {D:Nat->Prop}{w w':World}{p:Nat}{b:DB}{n0:Nat}{a:Option Addr}{cap:Nat}{Df Dd Df' Dd':DataW Unit}{ms:List Ob}(i:DraftAt D w p b n0 a cap Df Dd ms){bm:Nat}{k:TypeId}{Dm:DataW Unit}{o:Ob}
  (hg:GrewD w w' p b a ms.length cap bm k (obCells ms++o.cells) Dm)(hbm:D bm){es0:Array MapEntry}{clock:Nat}(hm:w.heap[bm]? = some (.map es0 clock))(ho:ObOk w' (NewF D w w') o)(hlow:o.high=0)
  (hf:w'.ownsMap Tryz.prog 9 (plainElem Tryz.prog 26) b.mf (ms.length+1) Df')(hf2:DFilesOk n0 (ms ++ [o]) Df')
  (hd:w'.ownsMap Tryz.prog 140 (plainElem Tryz.prog 26) b.md (ms.length+1) Dd')(hd2:DDirsOk n0 (ms ++ [o]) Dd'):
  ∃ a' cap',DraftAt (NewF D w w') w' p b n0 a' cap' Df' Dd' (ms ++ [o])/\Keeps D w w':=by
 obtain⟨g2,cap2,h1,h2,h3,h4,h5⟩:=hg
 have hl:(ms ++ [o]).length=ms.length+1:=by simp
 have hkk:∀ k,k<w.heap.size->¬ D k->w'.heap[k]? = w.heap[k]?:=fun k hk hnD=>h5.block k hk (fun e=>hnD (e ▸ i.dd)) (fun e=>hnD (e ▸ hbm)) (fun e=>hnD (i.da k e.symm))
 refine⟨some ⟨g2,0,none⟩,cap2,⟨.inl i.dd,.inl i.df,.inl i.dm,?_,?_,?_,?_,hf2,?_,hd2,i.ne,?_,?_⟩,⟨h5.os,h5.tape,h5.output,h5.size,hkk⟩⟩
 ·intro g hgg
  rcases h3 with h | h
  ·refine .inl (i.da g ?_)
   rw[<- h];exact hgg
  ·simp only[Value.ownBlock,Option.some.injEq] at hgg
   subst hgg
   exact .inr ⟨h,ownsRow_lt h2 rfl⟩
 ·rw[hl];exact h1
 ·rw[hl,obCells_snoc];exact h2
 ·rw[hl];exact hf
 ·rw[hl];exact hd
 ·intro x hx
  rcases List.mem_append.1 hx with h | h
  ·refine (i.obs x h).mono (fun k hk hFk=>.inl hFk) (fun v m xs hr=>ownsRow_keep hr (fun g hg=>?_))
   have hne1:=owns_ne_cells hr (b:=b.dr) i.hd (by decide)
   have hne2:=owns_ne_map hr hm
   rw[hg] at hne1 hne2
   refine h5.block g (ownsRow_lt hr hg) (fun e=>hne1 (by rw[e])) (fun e=>hne2 (by rw[e])) ?_
   rcases hr.2 with ⟨rfl,_⟩ | ⟨g',c',cur,rfl,_,hh,_⟩
   ·simp[Value.ownBlock] at hg
   ·simp only[Value.ownBlock,Option.some.injEq] at hg
    subst hg
    exact owns_ne_cells i.row hh (by decide)
  ·rw[List.mem_singleton.1 h];exact ho
 ·intro x hx
  rcases List.mem_append.1 hx with h | h
  ·exact i.low x h
  ·rw[List.mem_singleton.1 h];exact hlow
theorem GrewD.other {w w':World}{p:Nat}{b:DB}{a:Option Addr}{n cap bm:Nat}{k:TypeId}{cells xs:List Value}{D:DataW Unit}(h:GrewD w w' p b a n cap bm k cells D)(hp:DrAt w p b a n cap)(hrow:w.ownsRow 0 145 4 (.slice a n cap) n xs)
  {P:Program}{k':TypeId}{R:Value->Option (DataW Unit×List MemPlace)}{bo m:Nat}{D':DataW Unit}(hm:w.ownsMap P k' R bo m D')(hne:bo≠bm):w'.ownsMap P k' R bo m D':=by
 obtain⟨g2,cap2,_,_,_,_,h5⟩:=h
 obtain⟨es,clock,hb⟩:=ownsMap_isMap hm
 have hbp:bo≠b.dr:=by rintro rfl;unfold DrAt at hp;rw[hb] at hp;cases hp
 exact ownsMap_keep hm (h5.block bo hm.lt hbp hne (owns_ne_map hrow hb))
end Go.Proofs.YtajopoddmfdejaaGreat
