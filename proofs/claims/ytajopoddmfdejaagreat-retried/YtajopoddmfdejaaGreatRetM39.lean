/-
  What is proved here: a commit reads as the tree did; how much there is can be read. what has become of the files of a tree since it was its base: what a survey of both, side by side, finds is what is told by ..
-/
import Derived.Test.YtajopoddmfdejaaGreatRetM38
import Derived.Test.YtajopoddmfdejaaGreatRetM37
import Derived.Test.YtajopoddmfdejaaGreatRetM34
import Derived.Shelf.Strings.OnBuilder
import Derived.Test.YtajopoddmfdejaaGreatProg
import Derived.Test.YtajopoddmfdejaaGreatRetM21
import Derived.Test.YtajopoddmfdejaaGreatRetM07
namespace Go.Proofs.YtajopoddmfdejaaGreat
open Go.RowKit Go.Sort Go.Shelf
set_option linter.unusedVariables false
set_option maxRecDepth 100000
set_option maxHeartbeats 16000000
def refOf (k id:Int):LT:=if k=2 then .dir id else .file id
theorem refOf_ent (n:ByteArray)(k id:Int):ltOf (n,k,id)=refOf k id:=rfl
theorem stored8 (a:List Ob):∀ (x:List ByteArray) (t:LT),((∃ i,t=.file i)\/∃ i,t=.dir i)->∀ f,t.at a x≠some (.held f)
 | [],t,h,f,e=>by
  rw[at_nil] at e
  rcases h with ⟨i,rfl⟩ | ⟨i,rfl⟩ <;> cases e
 | n :: r,t,h,f,e=>by
  rw[at_cons] at e
  rcases h with ⟨i,rfl⟩ | ⟨i,rfl⟩
  ·cases e
  ·rw[show kids a (.dir i)=some ((entsOf a i).map kidOf) from rfl,Option.bind_some] at e
   cases hp:pickK ((entsOf a i).map kidOf) n with
   | none=>rw[hp] at e;cases e
   | some c=>
    rw[hp,Option.bind_some] at e
    obtain⟨y,hy,hc⟩:∃ y ∈ entsOf a i,c=ltOf y:=by
     unfold pickK at hp
     obtain⟨z,hz,rfl⟩:=Option.map_eq_some_iff.1 hp
     obtain⟨y,hy,rfl⟩:=List.mem_map.1 (List.mem_of_find?_eq_some hz)
     exact⟨y,hy,rfl⟩
    refine stored8 a r c ?_ f e
    rw[hc]
    unfold ltOf
    split
    ·exact .inr ⟨_,rfl⟩
    ·exact .inl ⟨_,rfl⟩
theorem stored_fc {a:List Ob}{t:LT}(h:(∃ i,t=.file i)\/∃ i,t=.dir i)(fc fc':FileC):SemEq a fc t a fc' t:=fun x=>sem_fc (fun x f hx=>absurd hx (stored8 a x t h f)) x
theorem sem_app {a:List Ob}(hS:Sound a)(l:List Ob)(fc:FileC):∀ (x:List ByteArray) (n:Nat) (t:LT),LTok a n t->sem (a++l) fc t x=sem a fc t x
 | [],n,t,h=>by
  rw[sem_nil,sem_nil]
  cases t with
  | file i=>rw[LTok] at h;simp only[nd];rw[bytesOf_app l (by rw[h];decide)]
  | held f=>rfl
  | dir i=>rfl
  | own es=>rfl
 | m :: r,n,t,h=>by
  have hk:kids (a++l) t=kids a t:=by
   cases t with
   | file i=>rfl
   | held f=>rfl
   | dir i=>rw[LTok] at h;simp only[kids];rw[entsOf_app l (by rw[h.1];decide)]
   | own es=>rfl
  rw[sem_cons,sem_cons,hk]
  cases hkk:kids a t with
  | none=>rfl
  | some ks=>
   rw[Option.bind_some,Option.bind_some]
   cases hp:pickK ks m with
   | none=>rfl
   | some c=>
    rw[Option.bind_some,Option.bind_some]
    have hmem:∃ y ∈ ks,y.2=c:=by
     unfold pickK at hp
     obtain⟨z,hz,e⟩:=Option.map_eq_some_iff.1 hp
     exact⟨z,List.mem_of_find?_eq_some hz,e⟩
    obtain⟨y,hy,e⟩:=hmem
    obtain⟨k,_,hok⟩:=((ok_kids hS h hkk).2.2 y hy).2
    rw[e] at hok
    exact sem_app hS l fc r k c hok
theorem fc_app {a:List Ob}{fl:Nat->Option (Int×ByteArray)}(h:FlSz a fl)(l:List Ob):fcOf (a++l) fl=fcOf a fl:=by
 funext f
 unfold fcOf
 cases hf:fl f with
 | none=>rfl
 | some x=>
  obtain⟨id,d⟩:=x
  simp only
  split
  ·rename_i h0
   rw[bytesOf_app l (by rw[(h f id d hf).1 h0];decide)]
  ·rfl
theorem sem_file (a:List Ob)(fc:FileC)(i:Int)(x:List ByteArray):sem a fc (.file i) x=if x = [] then some (.file (bytesOf a i)) else none:=by
 cases x with
 | nil=>rw[sem_nil];rfl
 | cons n r=>rw[sem_cons,if_neg (by simp)];rfl
theorem sem_held (a:List Ob)(fc:FileC)(f:Nat)(x:List ByteArray):sem a fc (.held f) x=if x = [] then some (.file (fc f)) else none:=by
 cases x with
 | nil=>rw[sem_nil];rfl
 | cons n r=>rw[sem_cons,if_neg (by simp)];rfl
theorem pick_lists {a b:List Ob}{fc fc':FileC}{ks ku:Kids}(hl:ks.length=ku.length)(h:∀ k (h1:k<ks.length) (h2:k<ku.length),(ks[k]).1=(ku[k]).1/\SemEq a fc (ks[k]).2 b fc' (ku[k]).2)(n:ByteArray)(x:List ByteArray):((pickK ks n).bind fun c=>sem a fc c x)=((pickK ku n).bind fun c=>sem b fc' c x):=by
 induction ks generalizing ku with
 | nil=>
  cases ku with
  | nil=>rfl
  | cons y r=>cases hl
 | cons z r ih=>
  cases ku with
  | nil=>cases hl
  | cons y r'=>
   have h0:=h 0 (by simp) (by simp)
   simp only[List.getElem_cons_zero] at h0
   have ihr:=ih (ku:=r') (by simpa using hl) (fun k h1 h2=>by have:=h (k+1) (by simpa using h1) (by simpa using h2);simpa using this)
   unfold pickK at ihr ⊢
   rw[List.find?_cons,List.find?_cons,h0.1]
   by_cases e:y.1=n
   ·simp only[e,decide_true,Option.map_some,Option.bind_some]
    exact h0.2 x
   ·simp only[e,decide_false]
    exact ihr
theorem kids_reads (fl:Nat->Option (Int×ByteArray))(n:Nat)(hn:n<=5)(fc0:FileC)(ih:∀ (c:LT) (a:List Ob),Exact a->LTok a n c->FlSz a fl->SemEq (objR fl n c a).2 fc0 (refOf c.kind (objR fl n c a).1) a (fcOf a fl) c):∀ (l:Kids) (a:List Ob),Exact a->FlSz a fl->(∀ x ∈ l.reverse,validB x.1=true/\LTok a n x.2)->
  (kidsR fl n l.reverse a).1.length=l.reverse.length/\∀ k (h1:k<(kidsR fl n l.reverse a).1.length) (h2:k<l.reverse.length),((kidsR fl n l.reverse a).1[k]).1=(l.reverse[k]).1/\SemEq (kidsR fl n l.reverse a).2 fc0 (ltOf ((kidsR fl n l.reverse a).1[k])) a (fcOf a fl) (l.reverse[k]).2:=by
 intro l
 induction l with
 | nil=>intro a _ _ _;exact⟨rfl,fun k h1=>absurd h1 (Nat.not_lt_zero _)⟩
 | cons x r ihl=>
  intro a he hf hx
  have hv:∀ y ∈ r.reverse,validB y.1=true/\LTok a n y.2:=fun y hy=>hx y (by rw[List.reverse_cons];simp[List.mem_reverse.1 hy])
  obtain⟨i1,i2⟩:=ihl a he hf hv
  obtain⟨k1,k2,k3,k4⟩:=kidsR_ok fl n (fun c a hX hok hfl=>objR_ok fl n hn c a hX hok hfl) r.reverse a he hf hv
  obtain⟨l1,hl1⟩:=k1.app
  obtain⟨_,hok⟩:=hx x (by simp)
  have hok':LTok (kidsR fl n r.reverse a).2 n x.2:=by rw[hl1];exact LTok_app l1 n _ hok
  have hfl':FlSz (kidsR fl n r.reverse a).2 fl:=by rw[hl1];exact hf.app l1
  have hX1:=k1.exact he
  have hob:=objR_ok fl n hn x.2 (kidsR fl n r.reverse a).2 hX1 hok' hfl'
  obtain⟨l2,hl2⟩:=hob.dr.app
  have hsem:=ih x.2 (kidsR fl n r.reverse a).2 hX1 hok' hfl'
  rw[List.reverse_cons,kidsR_snoc]
  simp only
  refine⟨by rw[List.length_append,i1,List.length_append];rfl,fun k h1 h2=>?_⟩
  by_cases hk:k<r.reverse.length
  ·have hk':k<(kidsR fl n r.reverse a).1.length:=by rw[i1];exact hk
   rw[List.getElem_append_left hk',List.getElem_append_left hk]
   obtain⟨j1,j2⟩:=i2 k hk' hk
   refine⟨j1,fun y=>?_⟩
   rw[<- j2 y,hl2]
   obtain⟨_,_,q3,q4⟩:=k3 _ (List.getElem_mem hk')
   refine sem_app hX1.sound l2 fc0 y n _ ?_
   unfold ltOf
   split
   ·rename_i e;rw[LTok];exact⟨by rw[q3,e],q4⟩
   ·rename_i e
    rw[LTok,q3]
    rcases (k3 _ (List.getElem_mem hk')).2.1 with e' | e'
    ·exact e'
    ·exact absurd e' e
  ·have hke:k=r.reverse.length:=by
    rw[List.length_append] at h2
    simp at h2 hk ⊢
    omega
   subst hke
   have e1:((kidsR fl n r.reverse a).1 ++ [(x.1,x.2.kind,(objR fl n x.2 (kidsR fl n r.reverse a).2).1)])[r.reverse.length]'h1=(x.1,x.2.kind,(objR fl n x.2 (kidsR fl n r.reverse a).2).1):=by
    rw[List.getElem_append_right (by rw[i1];exact Nat.le_refl _)]
    simp[i1]
   have e2:(r.reverse ++ [x])[r.reverse.length]'h2=x:=by
    rw[List.getElem_append_right (Nat.le_refl _)]
    simp
   rw[e1,e2]
   refine⟨rfl,fun y=>?_⟩
   rw[refOf_ent,hsem y,hl1,fc_app hf l1]
   exact sem_app he.sound l1 _ y n _ hok
theorem objR_reads (fl:Nat->Option (Int×ByteArray))(fc0:FileC):∀ (n:Nat),n<=5->∀ (c:LT) (a:List Ob),Exact a->LTok a n c->FlSz a fl->SemEq (objR fl n c a).2 fc0 (refOf c.kind (objR fl n c a).1) a (fcOf a fl) c:=by
 have hfd:∀ (n f:Nat) (a:List Ob),Exact a->FlSz a fl->SemEq (heldR (fl f) a).2 fc0 (.file (heldR (fl f) a).1) a (fcOf a fl) (.held f):=by
  intro n f a he hf x
  rw[sem_file,sem_held]
  have:bytesOf (heldR (fl f) a).2 (heldR (fl f) a).1=fcOf a fl f:=by
   unfold fcOf
   cases hx:fl f with
   | none=>exact (fileD_ok he (d:=⟨#[]⟩) (by decide)).2.2.1
   | some y=>
    obtain⟨id,d⟩:=y
    simp only
    by_cases h0:id≠0
    ·rw[if_pos h0,show heldR (some (id,d)) a=(id,a) by simp[heldR,h0]]
    ·rw[if_neg h0,show heldR (some (id,d)) a=fileD a d by simp[heldR,h0]]
     exact (fileD_ok he (d:=d) ((hf f id d hx).2 (Decidable.not_not.1 h0))).2.2.1
  rw[this]
 intro n
 induction n with
 | zero=>
  intro _ c a he hok hf
  cases c with
  | file id=>rw[objR];exact stored_fc (.inl ⟨_,rfl⟩) _ _
  | dir id=>rw[objR];exact stored_fc (.inr ⟨_,rfl⟩) _ _
  | held f=>rw[objR];exact hfd 0 f a he hf
  | own es=>
   have hes:es = []:=by
    cases es with
    | nil=>rfl
    | cons x r=>obtain⟨_,m,e,_⟩:=(ok_kids he.sound hok (ks:=x :: r) rfl).2.2 x (List.mem_cons_self ..);omega
   subst hes
   rw[objR]
   obtain⟨d1,d2,d3,_⟩:=dirD_ok he (es:=[]) (by show (0:Int)<=5;decide) List.Pairwise.nil (by simp) (fun e h=>by cases h)
   intro x
   show sem (dirD a []).2 fc0 (.dir (dirD a []).1) x=_
   cases x with
   | nil=>rw[sem_nil,sem_nil];rfl
   | cons m r=>rw[sem_cons,sem_cons];simp only[kids,d3];rfl
 | succ n ih=>
  intro hn c a he hok hf
  cases c with
  | file id=>rw[objR];exact stored_fc (.inl ⟨_,rfl⟩) _ _
  | dir id=>rw[objR];exact stored_fc (.inr ⟨_,rfl⟩) _ _
  | held f=>rw[objR];exact hfd n f a he hf
  | own es=>
   obtain⟨hr,h16,hk⟩:=ok_kids he.sound hok (ks:=es) rfl
   have hv:∀ y ∈ es,validB y.1=true/\LTok a n y.2:=fun y hy=>by
    obtain⟨h1,m,e,h2⟩:=hk y hy
    have:m=n:=by omega
    subst this
    exact⟨h1,h2⟩
   obtain⟨k1,k2,k3,k4⟩:=kidsR_ok fl n (fun c a hX hok hfl=>objR_ok fl n (by omega) c a hX hok hfl) es a he hf hv
   have hkr:=kids_reads fl n (by omega) fc0 (fun c a hX hok hfl=>ih (by omega) c a hX hok hfl) es.reverse a he hf (by rw[List.reverse_reverse];exact hv)
   simp only[List.reverse_reverse] at hkr
   obtain⟨r1,r2⟩:=hkr
   rw[objR_own]
   have hX1:=k1.exact he
   obtain⟨d1,d2,d3,_⟩:=dirD_ok hX1 (es:=(kidsR fl n es a).1) (highs_le.2 ⟨by decide,fun e hee=>by have:=(k3 e hee).2.2.2;omega⟩) (rising_names k2 hr) (by rw[r1];exact h16) (fun e hee=>⟨(k3 e hee).1,(k3 e hee).2.1,(k3 e hee).2.2.1⟩)
   obtain⟨l2,hl2⟩:=d1.app
   intro x
   show sem (dirD (kidsR fl n es a).2 (kidsR fl n es a).1).2 fc0 (.dir (dirD (kidsR fl n es a).2 (kidsR fl n es a).1).1) x=_
   cases x with
   | nil=>rw[sem_nil,sem_nil];rfl
   | cons m y=>
    rw[sem_cons,sem_cons]
    simp only[kids,d3,Option.bind_some]
    refine pick_lists (by rw[List.length_map,r1]) (fun k h1 h2=>?_) m y
    rw[List.length_map] at h1
    obtain⟨j1,j2⟩:=r2 k h1 h2
    rw[List.getElem_map]
    refine⟨j1,fun z=>?_⟩
    rw[<- j2 z,hl2]
    obtain⟨_,q2,q3,q4⟩:=k3 _ (List.getElem_mem h1)
    refine sem_app hX1.sound l2 fc0 z n _ ?_
    show LTok (kidsR fl n es a).2 n (ltOf _)
    unfold ltOf
    split
    ·rename_i e;rw[LTok];exact⟨by rw[q3,e],q4⟩
    ·rename_i e
     rw[LTok,q3]
     rcases q2 with e' | e'
     ·exact e'
     ·exact absurd e' e
theorem sum_len {α β:Type}(f:α->Nat)(g:α->List β):∀ (l:List α),(∀ x ∈ l,(g x).length=f x)->(l.flatMap g).length=(l.map f).sum
 | [],_=>rfl
 | x :: r,h=>by
  rw[List.flatMap_cons,List.length_append,List.map_cons,List.sum_cons,h x (List.mem_cons_self ..),sum_len f g r (fun y hy=>h y (List.mem_cons_of_mem _ hy))]
theorem big_things {a:List Ob}(hS:Sound a)(fc:FileC):∀ (n:Nat) (q:List ByteArray) (t:LT),LTok a n t->big a n t=1+(thingsR a fc n q t).length
 | 0,q,t,_=>by rw[thingsR,big];rfl
 | n+1,q,t,ht=>by
  rw[big_succ]
  by_cases hk:t.kind=2
  ·obtain⟨ks,hks⟩:=kids_some (a:=a) hk
   rw[things_succ hks,hks,Option.getD_some]
   unfold bigs
   rw[sum_len (fun x=>big a n x.2) (thingsX a fc n q) ks (fun x hx=>?_)]
   obtain⟨m,e,o⟩:=((ok_kids hS ht hks).2.2 x hx).2
   have e':m=n:=by omega
   subst e'
   unfold thingsX
   rw[List.length_cons]
   split
   ·rw[big_things hS fc m (q ++ [x.1]) x.2 o];omega
   ·rename_i h2
    have:big a m x.2=1:=by
     cases m with
     | zero=>rw[big]
     | succ m=>rw[big_succ,kids_none h2];rfl
    rw[this];rfl
  ·rw[thingsR,kids_none hk];rfl
theorem big_sem {a b:List Ob}{fc fc':FileC}(hA:Sound a)(hB:Sound b){t u:LT}(ht:LTok a 5 t)(hu:LTok b 5 u)(h:SemEq a fc t b fc' u):big a 5 t=big b 5 u:=by
 rw[big_things hA fc 5 [] t ht,big_things hB fc' 5 [] u hu,things_sem hA hB 5 [] t u ht hu h]
theorem sem_same {a b:List Ob}(hS:Sound a)(hs:Same a b)(fc:FileC):∀ (x:List ByteArray) (n:Nat) (t:LT),LTok a n t->sem a fc t x=sem b fc t x
 | [],n,t,h=>by
  rw[sem_nil,sem_nil]
  cases t with
  | file i=>rw[LTok] at h;simp only[nd];rw[hs.bytes h]
  | held f=>rfl
  | dir i=>rfl
  | own es=>rfl
 | m :: r,n,t,h=>by
  have hk:kids a t=kids b t:=by
   cases t with
   | file i=>rfl
   | held f=>rfl
   | dir i=>rw[LTok] at h;simp only[kids];rw[hs.ents h.1]
   | own es=>rfl
  rw[sem_cons,sem_cons,<- hk]
  cases hkk:kids a t with
  | none=>rfl
  | some ks=>
   rw[Option.bind_some,Option.bind_some]
   cases hp:pickK ks m with
   | none=>rfl
   | some c=>
    rw[Option.bind_some,Option.bind_some]
    have hmem:∃ y ∈ ks,y.2=c:=by
     unfold pickK at hp
     obtain⟨z,hz,e⟩:=Option.map_eq_some_iff.1 hp
     exact⟨z,List.mem_of_find?_eq_some hz,e⟩
    obtain⟨y,hy,e⟩:=hmem
    obtain⟨k,_,hok⟩:=((ok_kids hS h hkk).2.2 y hy).2
    rw[e] at hok
    exact sem_same hS hs fc r k c hok
def semO (a:List Ob)(fc:FileC)(o:Option LT)(y:List ByteArray):Option Nd:=o.bind fun c=>sem a fc c y
def kidsO (a:List Ob)(o:Option LT):Kids:=(o.bind (kids a)).getD []
def fileO:Option Nd->Option ByteArray
 | some (.file d)=>some d
 | _=>none
def chgAt (S S0:List ByteArray->Option Nd)(y:List ByteArray):Option Int:=match fileO (S y),fileO (S0 y) with
 | some d,some d'=>if d=d' then none else some 2
 | some _,none=>some 1
 | none,some _=>some 3
 | none,none=>none
def noteL (q:List ByteArray)(x y:Option ByteArray):List (List ByteArray×Int):=match x,y with
 | some _,some _=>[(q,2)]
 | some _,none=>[(q,1)]
 | none,some _=>[(q,3)]
 | none,none=>[]
noncomputable def cmpL (a:List Ob)(fc fc':FileC):Nat->List ByteArray->Option LT->Option LT->List (List ByteArray×Int)
 | 0,q,now,was=>@ite _ (∀ y,semO a fc now y=semO a fc' was y) (Classical.propDecidable _) [] (noteL q (fileO (semO a fc now [])) (fileO (semO a fc' was [])))
 | n+1,q,now,was=>@ite _ (∀ y,semO a fc now y=semO a fc' was y) (Classical.propDecidable _) []
   (noteL q (fileO (semO a fc now [])) (fileO (semO a fc' was []))++((kidsO a now).flatMap (fun x=>cmpL a fc fc' n (q ++ [x.1]) (some x.2) (pickK (kidsO a was) x.1))++((kidsO a was).filter fun x=>(pickK (kidsO a now) x.1).isNone).flatMap (fun x=>cmpL a fc fc' n (q ++ [x.1]) none (some x.2))))
section
variable {a:List Ob}{fc fc':FileC}
def OkO (a:List Ob)(n:Nat)(o:Option LT):Prop:=∀ c,o=some c->LTok a n c
theorem kidsO_ok (hS:Sound a){n:Nat}{o:Option LT}(h:OkO a n o):RisingK (kidsO a o)/\∀ x ∈ kidsO a o,∃ m,n=m+1/\LTok a m x.2:=by
 cases o with
 | none=>exact⟨List.Pairwise.nil,fun x hx=>by cases hx⟩
 | some c=>
  have hc:=h c rfl
  unfold kidsO
  cases hk:kids a c with
  | none=>simp only[Option.bind_some,hk,Option.getD_none];exact⟨List.Pairwise.nil,fun x hx=>by cases hx⟩
  | some ks=>
   simp only[Option.bind_some,hk,Option.getD_some]
   obtain⟨h1,_,h3⟩:=ok_kids hS hc hk
   exact⟨h1,fun x hx=>(h3 x hx).2⟩
theorem semO_cons (o:Option LT)(m:ByteArray)(y:List ByteArray):semO a fc o (m :: y)=semO a fc (pickK (kidsO a o) m) y:=by
 cases o with
 | none=>rfl
 | some c=>
  show sem a fc c (m :: y)=_
  rw[sem_cons]
  unfold kidsO
  cases hk:kids a c with
  | none=>simp only[Option.bind_some,hk,Option.getD_none];rfl
  | some ks=>simp only[Option.bind_some,hk,Option.getD_some];rfl
theorem pick_in8 {ks:Kids}{m:ByteArray}{c:LT}(h:pickK ks m=some c):(m,c) ∈ ks:=by
 unfold pickK at h
 obtain⟨w,hw,e2⟩:=Option.map_eq_some_iff.1 h
 have h1:w.1=m:=by simpa using List.find?_some hw
 have:w=(m,c):=by rw[<- h1,<- e2]
 rw[<- this]
 exact List.mem_of_find?_eq_some hw
theorem pick_of_mem {ks:Kids}(hr:RisingK ks){x:ByteArray×LT}(h:x ∈ ks):pickK ks x.1=some x.2:=by
 obtain⟨k,hk,rfl⟩:=List.getElem_of_mem h
 exact pick_getK hr hk
theorem pickO_ok (hS:Sound a){n:Nat}{o:Option LT}(h:OkO a (n+1) o)(m:ByteArray):OkO a n (pickK (kidsO a o) m):=fun c hc=>by
 obtain⟨k,e,hk⟩:=(kidsO_ok hS h).2 (m,c) (pick_in8 hc)
 have:k=n:=by omega
 subst this
 exact hk
theorem note_mem {S S0:List ByteArray->Option Nd}(h:fileO (S [])=none\/fileO (S0 [])=none\/fileO (S [])≠fileO (S0 [])){q y:List ByteArray}{w:Int}:(y,w) ∈ noteL q (fileO (S [])) (fileO (S0 []))↔y=q/\chgAt S S0 []=some w:=by
 unfold noteL chgAt
 cases h1:fileO (S []) with
 | none=>
  cases h2:fileO (S0 []) with
  | none=>simp
  | some d'=>simp[eq_comm]
 | some d=>
  cases h2:fileO (S0 []) with
  | none=>simp[eq_comm]
  | some d'=>
   rw[h1,h2] at h
   have hne:d≠d':=by
    rcases h with h | h | h
    ·cases h
    ·cases h
    ·exact fun e=>h (by rw[e])
   simp[hne,eq_comm]
theorem differ {n:Nat}{now was:Option LT}(h:¬ ∀ y,semO a fc now y=semO a fc' was y):fileO (semO a fc now [])=none\/fileO (semO a fc' was [])=none\/fileO (semO a fc now [])≠fileO (semO a fc' was []):=by
 cases h1:fileO (semO a fc now []) with
 | none=>exact .inl rfl
 | some d=>
  cases h2:fileO (semO a fc' was []) with
  | none=>exact .inr (.inl rfl)
  | some d'=>
   refine .inr (.inr (fun e=>h ?_))
   have key:∀ {fc:FileC} {o:Option LT} {d:ByteArray},fileO (semO a fc o [])=some d->∀ y,semO a fc o y=if y = [] then some (.file d) else none:=by
    intro fc o d hd y
    cases o with
    | none=>cases hd
    | some c=>
     have hs:sem a fc c []=some (nd a fc c):=sem_nil a fc c
     have hd':fileO (some (nd a fc c))=some d:=by rw[<- hs];exact hd
     cases c with
     | file i=>
      show sem a fc (.file i) y=_
      rw[sem_file]
      cases hd'
      rfl
     | held f=>
      show sem a fc (.held f) y=_
      rw[sem_held]
      cases hd'
      rfl
     | dir i=>cases hd'
     | own es=>cases hd'
   intro y
   rw[key h1 y,key h2 y,Option.some.inj e]
theorem cmp_mem (hS:Sound a):∀ (n:Nat) (q:List ByteArray) (now was:Option LT),OkO a n now->OkO a n was->∀ y w,(y,w) ∈ cmpL a fc fc' n q now was ↔ ∃ z,y=q++z/\chgAt (semO a fc now) (semO a fc' was) z=some w:=by
 have same:∀ {now was:Option LT},(∀ y,semO a fc now y=semO a fc' was y)->∀ z,chgAt (semO a fc now) (semO a fc' was) z=none:=by
  intro now was h z
  unfold chgAt
  rw[h z]
  cases fileO (semO a fc' was z) with
  | none=>rfl
  | some d=>simp
 intro n
 induction n with
 | zero=>
  intro q now was hn hw y w
  rw[cmpL]
  by_cases h:∀ y,semO a fc now y=semO a fc' was y
  ·rw[if_pos h]
   constructor
   ·intro h;cases h
   ·rintro ⟨z,_,hz⟩;rw[same h z] at hz;cases hz
  ·rw[if_neg h,note_mem (differ (n:=0) h)]
   constructor
   ·rintro ⟨rfl,hc⟩;exact⟨[],by simp,hc⟩
   ·rintro ⟨z,rfl,hc⟩
    cases z with
    | nil=>exact⟨by simp,hc⟩
    | cons m z=>
     have e1:kidsO a now = []:=by
      cases hk:kidsO a now with
      | nil=>rfl
      | cons x r=>obtain⟨k,e,_⟩:=(kidsO_ok hS hn).2 x (by rw[hk];exact List.mem_cons_self ..);omega
     have e2:kidsO a was = []:=by
      cases hk:kidsO a was with
      | nil=>rfl
      | cons x r=>obtain⟨k,e,_⟩:=(kidsO_ok hS hw).2 x (by rw[hk];exact List.mem_cons_self ..);omega
     unfold chgAt at hc
     rw[semO_cons,semO_cons,e1,e2] at hc
     cases hc
 | succ n ih=>
  intro q now was hn hw y w
  rw[cmpL]
  by_cases h:∀ y,semO a fc now y=semO a fc' was y
  ·rw[if_pos h]
   constructor
   ·intro h;cases h
   ·rintro ⟨z,_,hz⟩;rw[same h z] at hz;cases hz
  ·rw[if_neg h,List.mem_append,List.mem_append,note_mem (differ (n:=0) h)]
   have hrn:=(kidsO_ok hS hn).1
   have hrw:=(kidsO_ok hS hw).1
   have step:∀ m z,chgAt (semO a fc now) (semO a fc' was) (m :: z)=chgAt (semO a fc (pickK (kidsO a now) m)) (semO a fc' (pickK (kidsO a was) m)) z:=by
    intro m z
    unfold chgAt
    rw[semO_cons,semO_cons]
   constructor
   ·rintro (⟨rfl,hc⟩ | hm | hm)
    ·exact⟨[],by simp,hc⟩
    ·obtain⟨x,hx,hm⟩:=List.mem_flatMap.1 hm
     have hp:=pick_of_mem hrn hx
     obtain⟨z,e,hc⟩:=(ih (q ++ [x.1]) (some x.2) (pickK (kidsO a was) x.1) (by rw[<- hp];exact pickO_ok hS hn x.1) (pickO_ok hS hw x.1) y w).1 hm
     exact⟨x.1 :: z,by rw[e,List.append_assoc];rfl,by rw[step,hp];exact hc⟩
    ·obtain⟨x,hx,hm⟩:=List.mem_flatMap.1 hm
     obtain⟨hx,hnone⟩:=List.mem_filter.1 hx
     have hp:=pick_of_mem hrw hx
     have hpn:pickK (kidsO a now) x.1=none:=by simpa using hnone
     obtain⟨z,e,hc⟩:=(ih (q ++ [x.1]) none (some x.2) (fun c h=>by cases h) (by rw[<- hp];exact pickO_ok hS hw x.1) y w).1 hm
     exact⟨x.1 :: z,by rw[e,List.append_assoc];rfl,by rw[step,hp,hpn];exact hc⟩
   ·rintro ⟨z,rfl,hc⟩
    cases z with
    | nil=>exact .inl ⟨by simp,hc⟩
    | cons m z=>
     right
     rw[step] at hc
     have e:q++m :: z=(q ++ [m])++z:=by simp
     cases hpn:pickK (kidsO a now) m with
     | some c=>
      left
      rw[hpn] at hc
      refine List.mem_flatMap.2 ⟨(m,c),pick_in8 hpn,?_⟩
      exact (ih (q ++ [m]) (some c) (pickK (kidsO a was) m) (by rw[<- hpn];exact pickO_ok hS hn m) (pickO_ok hS hw m) _ w).2 ⟨z,e,hc⟩
     | none=>
      right
      rw[hpn] at hc
      cases hpw:pickK (kidsO a was) m with
      | none=>rw[hpw] at hc;cases hc
      | some c=>
       rw[hpw] at hc
       refine List.mem_flatMap.2 ⟨(m,c),List.mem_filter.2 ⟨pick_in8 hpw,by simp[hpn]⟩,?_⟩
       exact (ih (q ++ [m]) none (some c) (fun c h=>by cases h) (by rw[<- hpw];exact pickO_ok hS hw m) _ w).2 ⟨z,e,hc⟩
theorem cmp_once (hS:Sound a):∀ (n:Nat) (q:List ByteArray) (now was:Option LT),OkO a n now->OkO a n was->(cmpL a fc fc' n q now was).Pairwise fun x y=>x.1≠y.1:=by
 have hnote:∀ (q:List ByteArray) (x y:Option ByteArray),(noteL q x y).Pairwise (fun x y=>x.1≠y.1)/\∀ z ∈ noteL q x y,z.1=q:=by
  intro q x y
  unfold noteL
  cases x <;> cases y <;> simp
 intro n
 induction n with
 | zero=>
  intro q now was hn hw
  rw[cmpL]
  split
  ·exact List.Pairwise.nil
  ·exact (hnote _ _ _).1
 | succ n ih=>
  intro q now was hn hw
  rw[cmpL]
  split
  ·exact List.Pairwise.nil
  ·have hrn:=(kidsO_ok hS hn).1
   have hrw:=(kidsO_ok hS hw).1
   have g1:∀ x ∈ kidsO a now,∀ z ∈ cmpL a fc fc' n (q ++ [x.1]) (some x.2) (pickK (kidsO a was) x.1),∃ y,z.1=q++x.1 :: y:=fun x hx z hz=>by
    obtain⟨y,e,_⟩:=(cmp_mem hS n (q ++ [x.1]) (some x.2) (pickK (kidsO a was) x.1) (by rw[<- pick_of_mem hrn hx];exact pickO_ok hS hn x.1) (pickO_ok hS hw x.1) z.1 z.2).1 hz
    exact⟨y,by rw[e,List.append_assoc];rfl⟩
   have g2:∀ x ∈ (kidsO a was).filter fun x=>(pickK (kidsO a now) x.1).isNone,∀ z ∈ cmpL a fc fc' n (q ++ [x.1]) none (some x.2),∃ y,z.1=q++x.1 :: y:=fun x hx z hz=>by
    obtain⟨y,e,_⟩:=(cmp_mem hS n (q ++ [x.1]) none (some x.2) (fun c h=>by cases h) (by rw[<- pick_of_mem hrw (List.mem_filter.1 hx).1];exact pickO_ok hS hw x.1) z.1 z.2).1 hz
    exact⟨y,by rw[e,List.append_assoc];rfl⟩
   have apart:∀ {m1 m2:ByteArray} {y1 y2:List ByteArray},m1≠m2->q++m1 :: y1≠q++m2 :: y2:=fun hne e=>by
    have:=List.append_cancel_left e
    exact hne (List.cons.inj this).1
   have hne:∀ {x y:ByteArray×LT},cmpN x.1 y.1<0->x.1≠y.1:=fun h e=>by rw[e,cmpN_self] at h;omega
   refine List.pairwise_append.2 ⟨(hnote _ _ _).1,List.pairwise_append.2 ⟨?_,?_,?_⟩,?_⟩
   ·rw[List.pairwise_flatMap]
    refine⟨fun x hx=>ih (q ++ [x.1]) _ _ (by rw[<- pick_of_mem hrn hx];exact pickO_ok hS hn x.1) (pickO_ok hS hw x.1),?_⟩
    refine List.Pairwise.imp_of_mem ?_ hrn
    intro x1 x2 h1 h2 hlt z1 hz1 z2 hz2
    obtain⟨y1,e1⟩:=g1 x1 h1 z1 hz1
    obtain⟨y2,e2⟩:=g1 x2 h2 z2 hz2
    rw[e1,e2]
    exact apart (hne hlt)
   ·rw[List.pairwise_flatMap]
    refine⟨fun x hx=>ih (q ++ [x.1]) _ _ (fun c h=>by cases h) (by rw[<- pick_of_mem hrw (List.mem_filter.1 hx).1];exact pickO_ok hS hw x.1),?_⟩
    refine List.Pairwise.imp_of_mem ?_ (hrw.filter _)
    intro x1 x2 h1 h2 hlt z1 hz1 z2 hz2
    obtain⟨y1,e1⟩:=g2 x1 h1 z1 hz1
    obtain⟨y2,e2⟩:=g2 x2 h2 z2 hz2
    rw[e1,e2]
    exact apart (hne hlt)
   ·intro z1 hz1 z2 hz2
    obtain⟨x1,h1,hz1⟩:=List.mem_flatMap.1 hz1
    obtain⟨x2,h2,hz2⟩:=List.mem_flatMap.1 hz2
    obtain⟨y1,e1⟩:=g1 x1 h1 z1 hz1
    obtain⟨y2,e2⟩:=g2 x2 h2 z2 hz2
    rw[e1,e2]
    refine apart (fun e=>?_)
    have hnone:=(List.mem_filter.1 h2).2
    rw[<- e,pick_of_mem hrn h1] at hnone
    cases hnone
   ·intro z1 hz1 z2 hz2 e
    have h1:=(hnote _ _ _).2 z1 hz1
    have hlong:∃ m y,z2.1=q++m :: y:=by
     rcases List.mem_append.1 hz2 with hz2 | hz2
     ·obtain⟨x2,h2,hz2⟩:=List.mem_flatMap.1 hz2
      obtain⟨y,e⟩:=g1 x2 h2 z2 hz2
      exact⟨_,y,e⟩
     ·obtain⟨x2,h2,hz2⟩:=List.mem_flatMap.1 hz2
      obtain⟨y,e⟩:=g2 x2 h2 z2 hz2
      exact⟨_,y,e⟩
    obtain⟨m,y,e2⟩:=hlong
    rw[h1,e2] at e
    have:=congrArg List.length e
    simp at this
end
section
variable {a b:List Ob}{fc fu:FileC}{t u:LT}
end
section
variable {a:List Ob}{fc fc':FileC}{t u:LT}
theorem sem_good (hS:Sound a)(ht:LTok a 5 t){y:List ByteArray}{x:Nd}(h:sem a fc t y=some x):Good y:=by
 unfold sem at h
 obtain⟨c,hc,_⟩:=Option.map_eq_some_iff.1 h
 obtain⟨h1,_,h3⟩:=ok_at hS _ ht hc
 exact⟨h3,h1⟩
theorem chg_some {S S0:List ByteArray->Option Nd}{y:List ByteArray}{w:Int}(h:chgAt S S0 y=some w):(w=1\/w=2)/\(∃ x,S y=some x)\/w=3/\∃ x,S0 y=some x:=by
 unfold chgAt at h
 cases h1:S y with
 | none=>
  rw[h1] at h
  cases h2:S0 y with
  | none=>rw[h2] at h;cases h
  | some x'=>
   rw[h2] at h
   cases x' with
   | dir=>cases h
   | file d'=>cases h;exact .inr ⟨rfl,_,rfl⟩
 | some x=>
  rw[h1] at h
  cases x with
  | dir=>
   cases h2:S0 y with
   | none=>rw[h2] at h;cases h
   | some x'=>
    rw[h2] at h
    cases x' with
    | dir=>cases h
    | file d'=>cases h;exact .inr ⟨rfl,_,rfl⟩
  | file d=>
   cases h2:S0 y with
   | none=>rw[h2] at h;cases h;exact .inl ⟨.inl rfl,_,rfl⟩
   | some x'=>
    rw[h2] at h
    cases x' with
    | dir=>cases h;exact .inl ⟨.inl rfl,_,rfl⟩
    | file d'=>
     simp only[fileO] at h
     split at h
     ·cases h
     ·cases h;exact .inl ⟨.inr rfl,_,rfl⟩
theorem chg_root (ht:t.kind=2)(hu:u.kind=2):chgAt (sem a fc t) (sem a fc' u) []=none:=by
 unfold chgAt
 rw[sem_nil,sem_nil]
 cases t with
 | file i=>cases ht
 | held f=>cases ht
 | dir i=>cases u with
  | file i=>cases hu
  | held f=>cases hu
  | dir i=>rfl
  | own es=>rfl
 | own es=>cases u with
  | file i=>cases hu
  | held f=>cases hu
  | dir i=>rfl
  | own es=>rfl
end
abbrev fcE:FileC:=fun _=>⟨#[]⟩
section
variable {s i p:Nat}{B:WB}{objs:List Ob}
def Memo (objs:List Ob)(fc:FileC)(t:LT)(a:List Ob)(f:List ByteArray->Option Int)(q:List ByteArray):Prop:=∀ c,t.at objs q=some c->c.id=0->∃ id,f q=some id/\LTok a 5 (refOf c.kind id)/\SemEq a fcE (refOf c.kind id) objs fc c
theorem Memo.app {fc:FileC}{t:LT}{a:List Ob}{f:List ByteArray->Option Int}{q:List ByteArray}(h:Memo objs fc t a f q)(hS:Sound a)(l:List Ob):Memo objs fc t (a++l) f q:=fun c hc hi=>by
 obtain⟨id,h1,h2,h3⟩:=h c hc hi
 exact⟨id,h1,LTok_app l 5 _ h2,fun y=>(sem_app hS l fcE y 5 _ h2).trans (h3 y)⟩
theorem Memo.fn {fc:FileC}{t:LT}{a:List Ob}{f f':List ByteArray->Option Int}{q:List ByteArray}(h:Memo objs fc t a f q)(e:f' q=f q):Memo objs fc t a f' q:=fun c hc hi=>by rw[e];exact h c hc hi
def Left9 (w0:World)(p:Nat)(objs:List Ob)(D:Nat->Prop)(W w':World)(b:DB)(ow:Nat)(a':List Ob)(f:List ByteArray->Option Int)(q:List ByteArray)(N':Nat)(fc:FileC)(t:LT)(strict:Bool):Prop:=
 ∃ D' f',OSt w0 p objs D' w' b ow a' f' N'/\Turn (Dow D ow) (Dow D' ow) W w'/\(∀ q',¬ q <+: q'->f' q'=f q')/\∀ q',q <+: q'->(strict=true->q'≠q)->Memo objs fc t a' f' q'
theorem Left8.nine {w0 W w':World}{D:Nat->Prop}{b:DB}{ow:Nat}{a':List Ob}{f:List ByteArray->Option Int}{q:List ByteArray}{N':Nat}{fc:FileC}{t:LT}{st:Bool}(h:Left8 w0 p objs D W w' b ow a' f q N')(hv:∀ q' c,q <+: q'->(st=true->q'≠q)->t.at objs q'=some c->c.id≠0):Left9 w0 p objs D W w' b ow a' f q N' fc t st:=by
 obtain⟨D',f',h1,h2,h3⟩:=h
 exact⟨D',f',h1,h2,h3,fun q' hq hs c hc hi=>absurd hi (hv q' c hq hs hc)⟩
theorem stored_id (hS:Sound objs){n:Nat}{t u:LT}{q:List ByteArray}(ha:t.at objs q=some u)(hok:LTok objs n u)(hst:(∃ i,u=.file i)\/∃ i,u=.dir i){q':List ByteArray}{c:LT}(hq:q <+: q')(hc:t.at objs q'=some c):c.id≠0:=by
 obtain⟨y,rfl⟩:=hq
 rw[at_append,ha,Option.bind_some] at hc
 have hokc:=(ok_at hS _ hok hc).2.1
 have key:∀ (y:List ByteArray) (u:LT),((∃ i,u=.file i)\/∃ i,u=.dir i)->u.at objs y=some c->(∃ i,c=.file i)\/∃ i,c=.dir i:=by
  intro y
  induction y with
  | nil=>intro u hu h;rw[at_nil] at h;cases h;exact hu
  | cons m y ih=>
   intro u hu h
   rw[at_cons] at h
   rcases hu with ⟨i,rfl⟩ | ⟨i,rfl⟩
   ·cases h
   ·rw[show kids objs (.dir i)=some ((entsOf objs i).map kidOf) from rfl,Option.bind_some] at h
    cases hp:pickK ((entsOf objs i).map kidOf) m with
    | none=>rw[hp] at h;cases h
    | some z=>
     rw[hp,Option.bind_some] at h
     refine ih z ?_ h
     unfold pickK at hp
     obtain⟨v,hv,rfl⟩:=Option.map_eq_some_iff.1 hp
     obtain⟨e,he,rfl⟩:=List.mem_map.1 (List.mem_of_find?_eq_some hv)
     show (∃ i,ltOf e=.file i)\/∃ i,ltOf e=.dir i
     unfold ltOf
     split
     ·exact .inr ⟨_,rfl⟩
     ·exact .inl ⟨_,rfl⟩
 rcases key y u hst hc with ⟨i,rfl⟩ | ⟨i,rfl⟩
 ·rw[LTok] at hokc
  have:=(kindOf_pos (a:=objs) (id:=i) (by rw[hokc];decide)).1
  show i≠0
  omega
 ·rw[LTok] at hokc
  have:=(kindOf_pos (a:=objs) (id:=i) (by rw[hokc.1];decide)).1
  show i≠0
  omega
theorem ltok_five {a:List Ob}{n:Nat}(hn:n<=5){k id:Int}(hk:kindOf a id=k)(hh:highOf a id<=n)(h12:k=1\/k=2):LTok a 5 (refOf k id):=by
 unfold refOf
 split
 ·rename_i e;rw[LTok];exact⟨by rw[hk,e],by omega⟩
 ·rename_i e;rw[LTok,hk];omega
theorem object_own9 {tg:Tags}{w0 W:World}{g:WG}{lim:Nat}{t:LT}{D:Nat->Prop}{b:DB}{ow:Nat}{a a':List Ob}{f:List ByteArray->Option Int}{N N':Nat}(hO:OSt w0 p objs D W b ow a f N){q:List ByteArray}(hq:Good q)(hf:f q=none)(nm:ByteArray)(k r:Int)(hN:N'<50000)
  {fc:FileC}{c:LT}(hc:t.at objs q=some c)(hread:LTok a' 5 (refOf c.kind r)/\SemEq a' fcE (refOf c.kind r) objs fc c)
  (hw:∀ W1,Below W.heap.size W W1->Calls Tryz.prog 109 #[.agg #[.pointer (some ⟨B.bt,0,none⟩),.pointer (some ⟨b.dr,0,none⟩),.map (some ow)],.agg (pathA q),.int .i64 k] W1 fun e w'=>e=.returned (.int .i64 r)/\Left9 w0 p objs D W1 w' b ow a' f q N' fc t true):
  Calls Tryz.prog 65 #[.agg #[.pointer (some ⟨B.bt,0,none⟩),.pointer (some ⟨b.dr,0,none⟩),.map (some ow)],.agg (pathA q),.agg #[.string nm,.int .i64 k,.int .i64 0]] W fun e w'=>e=.returned (.int .i64 r)/\Left9 w0 p objs D W w' b ow a' f q (N'+1) fc t false:=by
 have hb:=objBoxes_below W B.bt b.dr ow (comp q 0) (comp q 1) (comp q 2) (comp q 3) (comp q 4) nm k 0
 have hsz3:(objBoxes W B.bt b.dr ow (comp q 0) (comp q 1) (comp q 2) (comp q 3) (comp q 4) nm k 0).heap.size=W.heap.size+3:=by unfold objBoxes;simp
 refine oobject_own B.bt b.dr ow _ _ _ _ _ nm k r (fun w'=>Left9 w0 p objs D (objBoxes W B.bt b.dr ow (comp q 0) (comp q 1) (comp q 2) (comp q 3) (comp q 4) nm k 0) w' b ow a' f q N' fc t true) (fun w'=>Left9 w0 p objs D W w' b ow a' f q (N'+1) fc t false) W (fun W1 hb1=>?_) (hw _ hb) (fun w' ⟨D',f',h1,h2,h3,hm⟩ j o hj1 hj2=>?_) (fun w' ⟨D',f',h1,h2,h3,hm⟩=>?_) (fun w' ⟨D',f',h1,h2,h3,hm⟩=>?_)
 ·obtain⟨n,_,hp⟩:=(hO.via hb1).map
  have:=PMap.look_ok hp Tryz.underlying119 (zero25 W1) hq
  rw[hf] at this
  exact this
 ·refine h2.cell (by rw[hsz3];omega) (fun hd=>?_) o
  have:=(hO.inb j hd).2
  omega
 ·have:=h2.keeps.size
  rw[hsz3] at this
  exact this
 ·obtain⟨w'',hrun,h4,h5,_⟩:=h1.note (by omega) hq r
  refine⟨w'',hrun,D',_,h4,(h2.via hb).trans h5,fun q' hq'=>?_,fun q' hq' _=>?_⟩
  ·rw[upd_other (fun e=>hq' (by rw[e];exact List.prefix_refl _))]
   exact h3 q' hq'
  ·by_cases e:q'=q
   ·intro c' hc' hi
    rw[e] at hc' ⊢
    rw[hc] at hc'
    cases hc'
    exact⟨r,by rw[upd_same],hread.1,hread.2⟩
   ·exact (hm q' hq' (fun _=>e)).fn (upd_other e _)
def DirSt9 (w0:World)(p:Nat)(objs:List Ob)(D0:Nat->Prop)(w:World)(b:DB)(ow:Nat)(fl:Nat->Option (Int×ByteArray))(n:Nat)(es:Kids)(a:List Ob)(f:List ByteArray->Option Int)(q:List ByteArray)(N:Nat)(t:LT)(k:Nat)(D:Nat->Prop)(W:World):Prop:=
 ∃ D1 f1,D=Dow D1 ow/\OSt w0 p objs D1 W b ow (kidsR fl n (es.take k) a).2 f1 (N+2*((es.take k).map fun x=>cntO n x.2).sum)/\Turn (Dow D0 ow) D w W/\(∀ q',¬ q <+: q'->f1 q'=f q')/\(∀ j (hj:j<es.length),k<=j->∀ q',q ++ [(es[j]).1] <+: q'->f1 q'=none)/\∀ j (hj:j<es.length),j<k->∀ q',q ++ [(es[j]).1] <+: q'->Memo objs (fcOf objs fl) t (kidsR fl n (es.take k) a).2 f1 q'
theorem work_dir9 {tg:Tags}{w0:World}{g:WG}{lim:Nat}{t:LT}(h:Base8 tg w0 s i p B objs g lim t)(n:Nat)(hn:n<=5)
  {es:Kids}{q:List ByteArray}(hr:RisingK es)(h16:es.length<=16)(hks:∀ x ∈ es,validB x.1=true/\LTok objs n x.2)(ha:t.at objs q=some (.own es))(hq:Good q)(h4:∀ x ∈ es,q.length<=4)
  {D:Nat->Prop}{W:World}{b:DB}{ow:Nat}{a:List Ob}{f:List ByteArray->Option Int}{N:Nat}(hO:OSt w0 p objs D W b ow a f N)(hdr:Drafted objs a)(hf:∀ q',q <+: q'->f q'=none)(hN:N+2*(es.map fun x=>cntO n x.2).sum<3000)
  (ih:∀ x ∈ es,∀ (D:Nat->Prop) (W:World) (a:List Ob) (f:List ByteArray->Option Int) (N:Nat),OSt w0 p objs D W b ow a f N->Drafted objs a->(∀ q',q ++ [x.1] <+: q'->f q'=none)->N+2*cntO n x.2<3000->
   Calls Tryz.prog 65 #[.agg #[.pointer (some ⟨B.bt,0,none⟩),.pointer (some ⟨b.dr,0,none⟩),.map (some ow)],.agg (pathA (q ++ [x.1])),.agg #[.string x.1,.int .i64 x.2.kind,.int .i64 x.2.id]] W fun e w'=>e=.returned (.int .i64 (objR g.fl n x.2 a).1)/\Left9 w0 p objs D W w' b ow (objR g.fl n x.2 a).2 f (q ++ [x.1]) (N+2*cntO n x.2) (fcOf objs g.fl) t false):
  Calls Tryz.prog 109 #[.agg #[.pointer (some ⟨B.bt,0,none⟩),.pointer (some ⟨b.dr,0,none⟩),.map (some ow)],.agg (pathA q),.int .i64 2] W fun e w'=>e=.returned (.int .i64 (dirD (kidsR g.fl n es a).2 (kidsR g.fl n es a).1).1)/\Left9 w0 p objs D W w' b ow (dirD (kidsR g.fl n es a).2 (kidsR g.fl n es a).1).2 f q (N+2*(es.map fun x=>cntO n x.2).sum+1) (fcOf objs g.fl) t true:=by
 obtain⟨hbt,_,_,c8⟩:=h.tree hO.below
 obtain⟨vD,hD⟩:=h.inv.wp.ownD
 have ho:g.ft.od q=some (es.map entOf):=by rw[h.flat.od,ha];rfl
 have hrow:=hD.row q _ ho
 have hlk:∀ W',Below W.heap.size W W'->(Instr.lookup 128 (.map (some B.oD)) (.agg (pathA q)) false).run Tryz.prog W'=.ok (vD q) W':=fun W' hb=>by
  have:=hD.look hq (below_via hO.below hb)
  rw[ho] at this
  exact this
 have hrowW:W.ownsRow 0 76 3 (vD q) (es.map entOf).length (flat (es.map entOf)):=ownsRow_keep hrow.1 (fun k hk=>hO.below.block k (ownsRow_lt hrow.1 hk))
 obtain⟨x0,x1,x2,x3,x4⟩:=entsAt_facts g.fl n es a
 have hfl0:=h.flSz
 obtain⟨l0,hl0⟩:=hdr.app
 have hfa:FlSz a g.fl:=by rw[hl0];exact hfl0.app l0
 have hka:∀ x ∈ es,validB x.1=true/\LTok a n x.2:=fun x hx=>⟨(hks x hx).1,by rw[hl0];exact LTok_app l0 n _ (hks x hx).2⟩
 have hall:=fun k:Nat=>kidsR_ok g.fl n (fun c a' he hok hfz=>objR_ok g.fl n hn c a' he hok hfz) (es.take k) a (hdr.exact h.exact) hfa (fun x hx=>hka x (List.mem_of_mem_take hx))
 have hlen:(es.map entOf).length=es.length:=by simp
 refine owork_dir B.bt B.oD b.dr ow _ _ _ _ _ q (vD q) (es.map entOf) (entsAt g.fl n es a) (fun k=>(objR g.fl n ((es[k]?).getD (⟨#[]⟩,.file 0)).2 (kidsR g.fl n (es.take k) a).2).1) _ (DirSt9 w0 p objs D W b ow g.fl n es a f q N t) (fun w'=>Left9 w0 p objs D W w' b ow (dirD (kidsR g.fl n es a).2 (kidsR g.fl n es a).1).2 f q (N+2*(es.map fun x=>cntO n x.2).sum+1) (fcOf objs g.fl) t true) (Dow D ow) W hbt c8 hlk hrowW (by rw[hlen];exact h16) x0 (fun k hk=>by rw[hlen] at hk ⊢;exact x2 k hk) (fun k hk=>?_) (fun k hk=>?_) (fun x W' hx=>?_) ?_ (fun x hx=>(hO.inb x hx).2) ?_ ?_ ?_ ?_
 ·have hk':k<es.length:=by rw[hlen] at hk;exact hk
  rw[x3 k hk',List.getElem_map]
 ·have hk':k<es.length:=by rw[hlen] at hk;exact hk
  rw[x4 k hk',List.getElem?_eq_getElem hk',Option.getD_some,List.getElem_map]
  rfl
 ·rw[List.map_map] at hx
  obtain⟨y,hy,rfl⟩:=List.mem_map.1 hx
  exact child_any q hq (h4 y hy) y.1 W'
 ·exact⟨D,f,rfl,by simpa [kidsR] using hO,Turn.of_below (Below.refl _ _),fun _ _=>rfl,(fun j hj _ q' hq'=>hf q' ((List.prefix_append _ _).trans hq')),fun j hj h=>absurd h (Nat.not_lt_zero _)⟩
 ·rintro k D2 W2 W3 ⟨D1,f1,rfl,h1,h2,h3,h4',hmm⟩ hk
  exact⟨D1,f1,rfl,h1.keepOut hO.below.size hk,⟨⟨hk.os.trans h2.keeps.os,hk.tape.trans h2.keeps.tape,hk.output.trans h2.keeps.output,Nat.le_trans h2.keeps.size hk.size,fun x hx hnx=>(hk.block x (Nat.lt_of_lt_of_le hx h2.keeps.size) (.inl hx)).trans (h2.keeps.block x hx hnx)⟩,h2.own⟩,h3,h4',hmm⟩
 ·rintro k D2 W2 ⟨D1,f1,rfl,h1,_⟩ x hx
  exact (h1.inb x hx).2
 ·rintro k hk D2 W2 ⟨D1,f1,rfl,h1,h2,h3,h4',hmm⟩
  have hk':k<es.length:=by rw[hlen] at hk;exact hk
  have hm:=List.getElem_mem hk'
  obtain⟨hd1,_⟩:=hall k
  have hcnt:=cnt_take n es k hk'
  have hcl:=cnt_take_le n es (k+1)
  have:=ih es[k] hm D1 W2 _ f1 _ h1 (hdr.trans hd1) (h4' k hk' (Nat.le_refl _)) (by omega)
  rw[List.getElem_map,List.getElem?_eq_getElem hk',Option.getD_some]
  refine this.mono ?_
  rintro e w' ⟨he,D3,f3,k1,k2,k3,km⟩
  refine⟨he,Dow D3 ow,⟨D3,f3,rfl,?_,h2.trans k2,fun q' hq'=>?_,fun j hj hkj q' hq'=>?_,fun j hj hjk q' hq'=>?_⟩,k2⟩
  ·rw[hcnt,List.take_succ_eq_append_getElem hk',kidsR_snoc]
   have e1:N+2*((es.take k).map fun x=>cntO n x.2).sum+2*cntO n (es[k]).2=N+2*(((es.take k).map fun x=>cntO n x.2).sum+cntO n (es[k]).2):=by omega
   rw[<- e1];exact k1
  ·rw[k3 q' (fun h=>hq' ((List.prefix_append _ _).trans h)),h3 q' hq']
  ·have hne:(es[j]).1≠(es[k]).1:=by
    intro e
    have:=List.pairwise_iff_getElem.1 hr k j hk' hj (by omega)
    rw[e,cmpN_self] at this
    omega
   rw[k3 q' (apart hne hq')]
   exact h4' j hj (by omega) q' hq'
  ·rw[List.take_succ_eq_append_getElem hk',kidsR_snoc]
   have hob:=objR_ok g.fl n hn (es[k]).2 (kidsR g.fl n (es.take k) a).2 (hd1.exact (hdr.exact h.exact)) (by obtain⟨l1,e1⟩:=hd1.app;rw[e1];exact LTok_app l1 n _ (hka _ hm).2) (by obtain⟨l1,e1⟩:=hd1.app;rw[e1];exact hfa.app l1)
   by_cases ejk:j=k
   ·subst ejk
    exact km q' hq' (fun h=>by cases h)
   ·have hne:(es[j]).1≠(es[k]).1:=by
     intro e
     have:=List.pairwise_iff_getElem.1 hr j k hj hk' (by omega)
     rw[e,cmpN_self] at this
     omega
    obtain⟨l2,e2⟩:=hob.dr.app
    have:=(hmm j hj (by omega) q' hq').fn (k3 q' (apart hne hq'))
    show Memo objs (fcOf objs g.fl) t (objR g.fl n (es[k]).2 (kidsR g.fl n (es.take k) a).2).2 f3 q'
    rw[e2]
    exact this.app (hd1.exact (hdr.exact h.exact)).sound l2
 ·rintro D2 W2 v' ⟨D1,f1,rfl,h1,h2,h3,h4',hmm⟩ hrv
  rw[hlen] at h1 hrv
  rw[List.take_length] at h1
  obtain⟨hd1,hd2,hd3,hd4⟩:=hall es.length
  rw[List.take_length] at hd1 hd2 hd3 hd4
  rw[x1] at hrv
  have hl1:=kidsR_len g.fl n es a
  have hfew:=h1.few
  obtain⟨⟨ft,hP⟩,hdis⟩:=h.pool h1
  have hNm:Named (kidsR g.fl n es a).1:=⟨by rw[hl1];exact h16,fun e he=>fits_id (a:=(kidsR g.fl n es a).2) (by omega) (hd3 e he).1 (hd3 e he).2.1 (hd3 e he).2.2.1⟩
  rw[<- hl1] at hrv
  refine (ddir_any hP hdis h1.dinv (by omega) v' _ hrv hNm (rising_of_K (rising_names hd2 hr))).mono ?_
  rintro e w' ⟨he,hdi,hk⟩
  have hl:(dirD (kidsR g.fl n es a).2 (kidsR g.fl n es a).1).2.length<=N+2*(es.map fun x=>cntO n x.2).sum+1:=by
   unfold dirD
   cases dirAt (kidsR g.fl n es a).2 (kidsR g.fl n es a).1 with
   | none=>simp;omega
   | some _=>simp;omega
  obtain⟨k1,k2⟩:=h1.draft hdi hk (Nat.le_succ _) hl
  refine⟨he,_,f1,k1,h2.trans k2,h3,fun q' hq' hst=>?_⟩
  obtain⟨y,rfl⟩:=hq'
  intro c' hc' hi
  cases y with
  | nil=>exact absurd (List.append_nil q) (hst rfl)
  | cons m y=>
   rw[at_kid ha rfl] at hc'
   cases hp:pickK es m with
   | none=>rw[hp] at hc';cases hc'
   | some z=>
    have hmem:∃ j,∃ hj:j<es.length,(es[j]).1=m:=by
     unfold pickK at hp
     obtain⟨v,hv,_⟩:=Option.map_eq_some_iff.1 hp
     obtain⟨j,hj,ej⟩:=List.getElem_of_mem (List.mem_of_find?_eq_some hv)
     exact⟨j,hj,by rw[ej];simpa using List.find?_some hv⟩
    obtain⟨j,hj,ej⟩:=hmem
    have hme:=hmm j hj (by rw[hlen];exact hj) (q++m :: y) ⟨y,by rw[ej];simp⟩
    rw[hlen,List.take_length] at hme
    obtain⟨l2,e2⟩:∃ l2,(dirD (kidsR g.fl n es a).2 (kidsR g.fl n es a).1).2=(kidsR g.fl n es a).2++l2:=by
     unfold dirD
     cases dirAt (kidsR g.fl n es a).2 (kidsR g.fl n es a).1 with
     | none=>exact⟨_,rfl⟩
     | some _=>exact⟨[],by simp⟩
    have:=hme.app (hd1.exact (hdr.exact h.exact)).sound l2
    rw[<- e2] at this
    exact this c' (by rw[at_kid ha rfl];exact hc') hi
theorem object_all9 {tg:Tags}{w0:World}{g:WG}{lim:Nat}{t:LT}(h:Base8 tg w0 s i p B objs g lim t){b:DB}{ow:Nat}:∀ (n:Nat),n<=5->∀ (c:LT) (q:List ByteArray),LTok objs n c->t.at objs q=some c->Good q->q.length+n<=5->∀ (nm:ByteArray) (D:Nat->Prop) (W:World) (a:List Ob) (f:List ByteArray->Option Int) (N:Nat),OSt w0 p objs D W b ow a f N->Drafted objs a->(∀ q',q <+: q'->f q'=none)->N+2*cntO n c<3000->
  Calls Tryz.prog 65 #[.agg #[.pointer (some ⟨B.bt,0,none⟩),.pointer (some ⟨b.dr,0,none⟩),.map (some ow)],.agg (pathA q),.agg #[.string nm,.int .i64 c.kind,.int .i64 c.id]] W fun e w'=>e=.returned (.int .i64 (objR g.fl n c a).1)/\Left9 w0 p objs D W w' b ow (objR g.fl n c a).2 f q (N+2*cntO n c) (fcOf objs g.fl) t false:=by
 have hrd:∀ (n:Nat),n<=5->∀ (c:LT) (a:List Ob),Drafted objs a->LTok objs n c->LTok (objR g.fl n c a).2 5 (refOf c.kind (objR g.fl n c a).1)/\SemEq (objR g.fl n c a).2 fcE (refOf c.kind (objR g.fl n c a).1) objs (fcOf objs g.fl) c:=by
  intro n hn c a hdr hc
  obtain⟨l0,hl0⟩:=hdr.app
  have hXa:=hdr.exact h.exact
  have hca:LTok a n c:=by rw[hl0];exact LTok_app l0 n _ hc
  have hfa:FlSz a g.fl:=by rw[hl0];exact h.flSz.app l0
  have hob:=objR_ok g.fl n hn c a hXa hca hfa
  refine⟨ltok_five hn hob.kind hob.high (lt_kind12 c),fun y=>(objR_reads g.fl fcE n hn c a hXa hca hfa y).trans ?_⟩
  rw[hl0,fc_app h.flSz l0]
  exact sem_app h.exact.sound l0 _ y n _ hc
 have hst:∀ (n:Nat) (c:LT) (q:List ByteArray) (nm:ByteArray) (D:Nat->Prop) (W:World) (a:List Ob) (f:List ByteArray->Option Int) (N:Nat),OSt w0 p objs D W b ow a f N->t.at objs q=some c->LTok objs n c->((∃ i,c=.file i)\/∃ i,c=.dir i)->kindOf objs c.id≠0->objR g.fl n c a=(c.id,a)->
   Calls Tryz.prog 65 #[.agg #[.pointer (some ⟨B.bt,0,none⟩),.pointer (some ⟨b.dr,0,none⟩),.map (some ow)],.agg (pathA q),.agg #[.string nm,.int .i64 c.kind,.int .i64 c.id]] W fun e w'=>e=.returned (.int .i64 (objR g.fl n c a).1)/\Left9 w0 p objs D W w' b ow (objR g.fl n c a).2 f q (N+2*cntO n c) (fcOf objs g.fl) t false:=by
  intro n c q nm D W a f N hO ha hok hst hk he
  rw[he]
  have hid:c.id≠0:=fun e=>by have:=(kindOf_pos hk).1;omega
  refine (oobject_stored B.bt b.dr ow _ _ _ _ _ nm c.kind c.id W hid).mono ?_
  rintro e w' ⟨h1,h2⟩
  exact⟨h1,(Left8.of_below hO h2 (Nat.le_add_right _ _)).nine (fun q' c' hq' _ hc'=>stored_id h.exact.sound ha hok hst hq' hc')⟩
 have hheld:∀ (n:Nat) (fb:Nat) (q:List ByteArray),t.at objs q=some (.held fb)->Good q->∀ (nm:ByteArray) (D:Nat->Prop) (W:World) (a:List Ob) (f:List ByteArray->Option Int) (N:Nat),OSt w0 p objs D W b ow a f N->Drafted objs a->(∀ q',q <+: q'->f q'=none)->N+2<3000->n<=5->objR g.fl n (.held fb) a=heldR (g.fl fb) a->cntO n (.held fb)=1->
   Calls Tryz.prog 65 #[.agg #[.pointer (some ⟨B.bt,0,none⟩),.pointer (some ⟨b.dr,0,none⟩),.map (some ow)],.agg (pathA q),.agg #[.string nm,.int .i64 1,.int .i64 0]] W fun e w'=>e=.returned (.int .i64 (objR g.fl n (.held fb) a).1)/\Left9 w0 p objs D W w' b ow (objR g.fl n (.held fb) a).2 f q (N+2*cntO n (.held fb)) (fcOf objs g.fl) t false:=by
  intro n fb q ha hq nm D W a f N hO hdr hf hN hn he hc
  have hread:=hrd n hn (.held fb) a hdr (by rw[LTok];trivial)
  rw[he] at hread
  rw[he,hc]
  refine object_own9 (tg:=tg) (g:=g) (lim:=lim) (t:=t) hO hq (hf q (List.prefix_refl _)) nm 1 _ (N':=N+1) (by omega) ha hread (fun W1 hb1=>?_)
  refine owork_file B.bt b.dr ow _ _ _ _ _ _ _ W1 (fun W2 hb2=>?_)
  refine (file_all h ((hO.via hb1).via hb2) (by omega) hq ha).mono ?_
  rintro e w' ⟨h1,h2⟩
  refine⟨h1,(h2.via hb2).nine (fun q' c' hq' hne hc'=>?_)⟩
  obtain⟨y,rfl⟩:=hq'
  cases y with
  | nil=>exact absurd (List.append_nil q) (hne rfl)
  | cons m y=>rw[at_append,ha,Option.bind_some,at_cons] at hc';cases hc'
 have hdir:∀ (n:Nat) (es:Kids) (q:List ByteArray) (nm:ByteArray) (D:Nat->Prop) (W:World) (a:List Ob) (f:List ByteArray->Option Int) (N N':Nat) (rr:Int×List Ob),OSt w0 p objs D W b ow a f N->t.at objs q=some (.own es)->(LTok rr.2 5 (refOf 2 rr.1)/\SemEq rr.2 fcE (refOf 2 rr.1) objs (fcOf objs g.fl) (.own es))->Good q->(∀ q',q <+: q'->f q'=none)->N'<3000->
   (∀ W1,Below W.heap.size W W1->Calls Tryz.prog 109 #[.agg #[.pointer (some ⟨B.bt,0,none⟩),.pointer (some ⟨b.dr,0,none⟩),.map (some ow)],.agg (pathA q),.int .i64 2] W1 fun e w'=>e=.returned (.int .i64 rr.1)/\Left9 w0 p objs D W1 w' b ow rr.2 f q N' (fcOf objs g.fl) t true)->
   Calls Tryz.prog 65 #[.agg #[.pointer (some ⟨B.bt,0,none⟩),.pointer (some ⟨b.dr,0,none⟩),.map (some ow)],.agg (pathA q),.agg #[.string nm,.int .i64 2,.int .i64 0]] W fun e w'=>e=.returned (.int .i64 rr.1)/\Left9 w0 p objs D W w' b ow rr.2 f q (N'+1) (fcOf objs g.fl) t false:=by
  intro n es q nm D W a f N N' rr hO ha hread hq hf hN hw
  exact object_own9 (tg:=tg) (g:=g) (lim:=lim) (t:=t) hO hq (hf q (List.prefix_refl _)) nm 2 _ (by omega) ha hread hw
 intro n
 induction n with
 | zero=>
  intro hn c q hc ha hq hlen nm D W a f N hO hdr hf hN
  cases c with
  | file id=>exact hst 0 (.file id) q nm D W a f N hO ha hc (.inl ⟨_,rfl⟩) (by rw[LTok] at hc;show kindOf objs id≠0;rw[hc];decide) (by rw[objR];rfl)
  | dir id=>exact hst 0 (.dir id) q nm D W a f N hO ha hc (.inr ⟨_,rfl⟩) (by rw[LTok] at hc;show kindOf objs id≠0;rw[hc.1];decide) (by rw[objR];rfl)
  | held fb=>exact hheld 0 fb q ha hq nm D W a f N hO hdr hf (by rw[cntO] at hN;omega) (by omega) (by rw[objR]) (by rw[cntO])
  | own es=>
   have hread:=hrd 0 (by omega) (.own es) a hdr hc
   rw[LTok] at hc
   subst hc
   have hcn:cntO 0 (.own [])=1:=by rw[cntO]
   rw[hcn] at hN ⊢
   have hob:objR g.fl 0 (.own []) a=dirD a []:=by rw[objR]
   rw[hob] at hread ⊢
   refine hdir 0 [] q nm D W a f N (N+1) (dirD a []) hO ha hread hq hf (by omega) (fun W1 hb1=>?_)
   exact work_dir9 h 0 (by omega) (es:=[]) List.Pairwise.nil (by simp) (fun x hx=>by cases hx) ha hq (fun x hx=>by cases hx) (hO.via hb1) hdr hf (by simp;omega) (fun x hx=>by cases hx)
 | succ n ih=>
  intro hn c q hc ha hq hlen nm D W a f N hO hdr hf hN
  cases c with
  | file id=>exact hst _ (.file id) q nm D W a f N hO ha hc (.inl ⟨_,rfl⟩) (by rw[LTok] at hc;show kindOf objs id≠0;rw[hc];decide) (by rw[objR];rfl)
  | dir id=>exact hst _ (.dir id) q nm D W a f N hO ha hc (.inr ⟨_,rfl⟩) (by rw[LTok] at hc;show kindOf objs id≠0;rw[hc.1];decide) (by rw[objR];rfl)
  | held fb=>exact hheld _ fb q ha hq nm D W a f N hO hdr hf (by rw[cntO] at hN;omega) (by omega) (by rw[objR]) (by rw[cntO])
  | own es=>
   have hread:=hrd (n+1) hn (.own es) a hdr hc
   rw[LTok] at hc
   have hcn:cntO (n+1) (.own es)=1+(es.map fun x=>cntO n x.2).sum:=by rw[cntO]
   rw[hcn] at hN ⊢
   rw[objR_own] at hread ⊢
   have e1:N+2*(1+(es.map fun x=>cntO n x.2).sum)=N+2*(es.map fun x=>cntO n x.2).sum+1+1:=by omega
   rw[e1]
   refine hdir n es q nm D W a f N _ (dirD (kidsR g.fl n es a).2 (kidsR g.fl n es a).1) hO ha hread hq hf (by omega) (fun W1 hb1=>?_)
   refine work_dir9 h n (by omega) (es:=es) hc.1 hc.2.1 hc.2.2 ha hq (fun x hx=>by omega) (hO.via hb1) hdr hf (by omega) (fun x hx D W a f N hO' hdr' hf' hN'=>?_)
   have hg:Good (q ++ [x.1]):=⟨hq.val.append (fun y hy=>by simp at hy;rw[hy];exact (hc.2.2 x hx).1),by simp;omega⟩
   exact ih (by omega) x.2 (q ++ [x.1]) (hc.2.2 x hx).2 (at_own ha hc.1 hx) hg (by simp;omega) x.1 D W a f N hO' hdr' hf' hN'
end
theorem oobject_hit (bt dr ow:Nat)(s0 s1 s2 s3 s4 nm:ByteArray)(k r:Int)(w:World)
  (hlk:∀ W,Below w.heap.size w W->(Instr.lookup 119 (.map (some ow)) (.agg #[.string s0,.string s1,.string s2,.string s3,.string s4]) true).run Tryz.prog W=.ok (.tuple #[.int .i64 r,.bool true]) W):
  Calls Tryz.prog 65 #[.agg #[.pointer (some ⟨bt,0,none⟩),.pointer (some ⟨dr,0,none⟩),.map (some ow)],.agg #[.string s0,.string s1,.string s2,.string s3,.string s4],.agg #[.string nm,.int .i64 k,.int .i64 0]] w fun e w'=>e=.returned (.int .i64 r)/\Below w.heap.size w w':=by
 have hl:=hlk _ (objBoxes_below w bt dr ow s0 s1 s2 s3 s4 nm k 0)
 have hb:=objBoxes_below w bt dr ow s0 s1 s2 s3 s4 nm k 0
 clear hlk
 unfold objBoxes at hl hb
 have HB:Hid _:=hb
 clear hb
 go_enter Tryz.func65,Tryz.ntmps65
 go_wp2
 go_ret
 exact⟨rfl,HB.out⟩
theorem object_hit {W:World}{bt dr ow N:Nat}{f:List ByteArray->Option Int}(hm:∃ n,n<=N/\PMap W ow n (fun q=>(f q).map (Value.int .i64))){q:List ByteArray}(hq:Good q){r:Int}(hf:f q=some r)(nm:ByteArray)(k:Int):
  Calls Tryz.prog 65 #[.agg #[.pointer (some ⟨bt,0,none⟩),.pointer (some ⟨dr,0,none⟩),.map (some ow)],.agg (pathA q),.agg #[.string nm,.int .i64 k,.int .i64 0]] W fun e w'=>e=.returned (.int .i64 r)/\Below W.heap.size W w':=by
 obtain⟨n,_,hp⟩:=hm
 refine oobject_hit bt dr ow _ _ _ _ _ nm k r W (fun W1 hb=>?_)
 have:=PMap.look_ok (hp.keep (hb.block ow hp.lt)) Tryz.underlying119 (zero25 W1) hq
 rw[hf] at this
 exact this
theorem obj_iff {a:List Ob}(hX:Exact a)(hO:Once a){c u:LT}{objs:List Ob}{fc:FileC}{id:Int}(hc:LTok a 5 (refOf c.kind id))(hs:SemEq a fcE (refOf c.kind id) objs fc c)(hu:LTok a 5 u)(hst:(∃ i,u=.file i)\/∃ i,u=.dir i)(hk:c.kind=u.kind):id=u.id↔SemEq objs fc c a fcE u:=by
 have hru:refOf c.kind u.id=u:=by
  rw[hk]
  rcases hst with ⟨i,rfl⟩ | ⟨i,rfl⟩ <;> rfl
 constructor
 ·intro e y
  rw[<- hs y,e,hru]
 ·intro h
  have hfl:FlSz a (fun _=>none):=fun f id d hf=>by cases hf
  have:=objR_sem hX hO hfl 5 (refOf c.kind id) u hc hu hst (fun y=>((hs y).trans (h y)))
  have hid:(refOf c.kind id).id=id:=by unfold refOf;split <;> rfl
  have hob:objR (fun _=>none) 5 (refOf c.kind id) a=((refOf c.kind id).id,a):=by
   unfold refOf
   split <;> rw[objR] <;> rfl
  rw[hob,hid] at this
  exact congrArg Prod.fst this
end Go.Proofs.YtajopoddmfdejaaGreat
namespace Go.Proofs
open Go.Shelf
def Tryz.lays156_ren:Go.Shelf.Ren:=⟨fun | 156=>186 | 165=>197 | 166=>198 | 169=>199 | 240=>202 | 241=>203 | 276=>204 | 277=>205 | n=>n,fun | 31=>69 | 9=>9 | 3=>3 | 4=>4 | 0=>0 | 20=>20 | 72=>272 | 76=>276 | 70=>270 | 37=>228 | 75=>275 | 127=>229 | 164=>282 | 5=>5 | 80=>152 | n=>n,fun | n=>n⟩
theorem Tryz.lays156:Go.Proofs.Lays.n156 Tryz.prog Tryz.lays156_ren:={
 mixed:=by kernel_rfl
 f156:=Tryz.func186.trans (congrArg some (by kernel_rfl))
 f165:=Tryz.func197.trans (congrArg some (by kernel_rfl))
 f166:=Tryz.func198.trans (congrArg some (by kernel_rfl))
 f169:=Tryz.func199.trans (congrArg some (by kernel_rfl))
 f240:=Tryz.func202.trans (congrArg some (by kernel_rfl))
 f241:=Tryz.func203.trans (congrArg some (by kernel_rfl))
 f276:=Tryz.func204.trans (congrArg some (by kernel_rfl))
 f277:=Tryz.func205.trans (congrArg some (by kernel_rfl))
 t0:=Tryz.underlying0
 a0:=Tryz.isAgg0
 z0:=Tryz.sizeOf0
 v0:=Tryz.zeroValue0
 t3:=Tryz.underlying3
 a3:=Tryz.isAgg3
 z3:=Tryz.sizeOf3
 v3:=Tryz.zeroValue3
 t4:=Tryz.underlying4
 a4:=Tryz.isAgg4
 z4:=Tryz.sizeOf4
 v4:=Tryz.zeroValue4
 t9:=Tryz.underlying9
 a9:=Tryz.isAgg9
 z9:=Tryz.sizeOf9
 v9:=Tryz.zeroValue9
 t20:=Tryz.underlying20
 a20:=Tryz.isAgg20
 z20:=Tryz.sizeOf20
 v20:=Tryz.zeroValue20
 t31:=Tryz.underlying69
 a31:=Tryz.isAgg69
 z31:=Tryz.sizeOf69
 v31:=Tryz.zeroValue69
 t37:=Tryz.underlying228
 a37:=Tryz.isAgg228
 z37:=Tryz.sizeOf228
 v37:=Tryz.zeroValue228
 t70:=Tryz.underlying270
 a70:=Tryz.isAgg270
 z70:=Tryz.sizeOf270
 v70:=Tryz.zeroValue270
 t72:=Tryz.underlying272
 a72:=Tryz.isAgg272
 z72:=Tryz.sizeOf272
 v72:=Tryz.zeroValue272
 t75:=Tryz.underlying275
 a75:=Tryz.isAgg275
 z75:=Tryz.sizeOf275
 v75:=Tryz.zeroValue275
 t76:=Tryz.underlying276
 a76:=Tryz.isAgg276
 z76:=Tryz.sizeOf276
 v76:=Tryz.zeroValue276
 t127:=Tryz.underlying229
 a127:=Tryz.isAgg229
 z127:=Tryz.sizeOf229
 v127:=Tryz.zeroValue229
 t164:=Tryz.underlying282
 a164:=Tryz.isAgg282
 z164:=Tryz.sizeOf282
 v164:=Tryz.zeroValue282 }
theorem Tryz.Builder_Extra_156:Builder.Extra Tryz.prog Tryz.lays156_ren:={
 sizeBuilder:=by kernel_rfl
 liesBuilder:=by kernel_rfl
 t5:=Tryz.underlying5
 a5:=Tryz.isAgg5
 z5:=Tryz.sizeOf5
 v5:=Tryz.zeroValue5
 infoByte:=by kernel_rfl
 cellsByte:=by kernel_rfl
 sizeByte:=by kernel_rfl
 neB5:=by decide }
open Go.RowKit in
open Go.RowKit in
theorem Tryz.strings_Join (bk o c:Nat)(xs:List ByteArray)(sep:ByteArray)(w:World)(hcells:∀ (j:Nat) x,xs[j]? = some x->w.cell? ⟨bk,o+j,none⟩=some (.string x))(hbk:bk<w.heap.size)(hN:xs.length<=140737488355328)(hcap:xs.length<=c)(hlen:(Lib.join (xs.map (·.data.toList)) sep.data.toList).length<=140737488355328):
  Calls Tryz.prog 186 #[.slice (some ⟨bk,o,none⟩) xs.length c,.string sep] w fun e w'=>e=.returned (.string ⟨(Lib.join (xs.map (·.data.toList)) sep.data.toList).toArray⟩)/\Below w.heap.size w w':=Any.strings_Join Tryz.lays156 Tryz.Builder_Extra_156 bk o c xs sep w hcells hbk hN hcap hlen
end Go.Proofs
namespace Go.Proofs.YtajopoddmfdejaaGreat
open Go.RowKit Go.Sort Go.Shelf
set_option linter.unusedVariables false
set_option maxRecDepth 100000
set_option maxHeartbeats 16000000
theorem joinL_lib:∀ l:List (List UInt8),Lib.join l [47]=joinL l
 | []=>rfl
 | [x]=>Lib.join_one x _
 | x :: y :: r=>by
  have:=joinL_lib (y :: r)
  unfold Lib.join at this ⊢
  rw[joinL,<- this]
  simp[List.intercalate,List.intersperse]
theorem slT (b n:Nat)(hn:n<=5)(W:World):(Instr.sliceAt 104 (.pointer (some ⟨b,0,none⟩)) none (some (.int .i64 (n:Int))) none).run Tryz.prog W=.ok (.slice (some ⟨b,0,none⟩) n 5) W:=by
 have h0:∀ (b:Nat) (W:World),(Instr.sliceAt 104 (.pointer (some ⟨b,0,none⟩)) none (some (.int .i64 0)) none).run Tryz.prog W=.ok (.slice (some ⟨b,0,none⟩) 0 5) W:=fun b W=>by kernel_rfl
 have h1:∀ (b:Nat) (W:World),(Instr.sliceAt 104 (.pointer (some ⟨b,0,none⟩)) none (some (.int .i64 1)) none).run Tryz.prog W=.ok (.slice (some ⟨b,0,none⟩) 1 5) W:=fun b W=>by kernel_rfl
 have h2:∀ (b:Nat) (W:World),(Instr.sliceAt 104 (.pointer (some ⟨b,0,none⟩)) none (some (.int .i64 2)) none).run Tryz.prog W=.ok (.slice (some ⟨b,0,none⟩) 2 5) W:=fun b W=>by kernel_rfl
 have h3:∀ (b:Nat) (W:World),(Instr.sliceAt 104 (.pointer (some ⟨b,0,none⟩)) none (some (.int .i64 3)) none).run Tryz.prog W=.ok (.slice (some ⟨b,0,none⟩) 3 5) W:=fun b W=>by kernel_rfl
 have h4:∀ (b:Nat) (W:World),(Instr.sliceAt 104 (.pointer (some ⟨b,0,none⟩)) none (some (.int .i64 4)) none).run Tryz.prog W=.ok (.slice (some ⟨b,0,none⟩) 4 5) W:=fun b W=>by kernel_rfl
 have h5:∀ (b:Nat) (W:World),(Instr.sliceAt 104 (.pointer (some ⟨b,0,none⟩)) none (some (.int .i64 5)) none).run Tryz.prog W=.ok (.slice (some ⟨b,0,none⟩) 5 5) W:=fun b W=>by kernel_rfl
 have:n=0\/n=1\/n=2\/n=3\/n=4\/n=5:=by omega
 rcases this with rfl | rfl | rfl | rfl | rfl | rfl
 ·exact h0 b W
 ·exact h1 b W
 ·exact h2 b W
 ·exact h3 b W
 ·exact h4 b W
 ·exact h5 b W
theorem text_walk (s0 s1 s2 s3 s4:ByteArray)(n:Nat)(hn:n<=5)(xs:List ByteArray)(tx:ByteArray)(w:World)(hx:xs.length=n)
  (hdep:∀ W,Calls Tryz.prog 83 #[.agg #[.string s0,.string s1,.string s2,.string s3,.string s4]] W fun e w'=>e=.returned (.int .i64 (n:Int))/\Below W.heap.size W w')
  (hjoin:∀ W,Below w.heap.size w W->W.heap[w.heap.size]? = some (.cells #[.string s0,.string s1,.string s2,.string s3,.string s4] 104 (0,0))->Calls Tryz.prog 186 #[.slice (some ⟨w.heap.size,0,none⟩) n 5,.string ⟨#[47]⟩] W fun e w'=>e=.returned (.string tx)/\Below W.heap.size W w'):
  Calls Tryz.prog 158 #[.agg #[.string s0,.string s1,.string s2,.string s3,.string s4]] w fun e w'=>e=.returned (.string tx)/\Below w.heap.size w w':=by
 have hsl:=fun W=>slT w.heap.size n hn W
 have HD:Hid _:=hdep
 have HJ:Hid _:=hjoin
 have HB0:Hid _:=(Below.refl w.heap.size w).alloc (Nat.le_refl _) (.cells #[.string s0,.string s1,.string s2,.string s3,.string s4] 104)
 clear hdep hjoin
 go_enter Tryz.func158,Tryz.ntmps158
 go_wp2_with fail
 refine Calls.mono (HD.out _) ?_
 rintro e w1 ⟨rfl,hb1⟩
 have hbx:w1.heap[w.heap.size]? = some (.cells #[.string s0,.string s1,.string s2,.string s3,.string s4] 104 (0,0)):=(hb1.block _ (by simp)).trans (heap_alloc_new w _)
 have hbw:Below w.heap.size w w1:=below_via HB0.out hb1
 have HJJ:Hid _:=HJ.out w1 hbw hbx
 have HBW:Hid _:=hbw
 clear HJ HD HB0 hb1 hbx hbw
 go_wp2_with fail
 refine Calls.mono HJJ.out ?_
 rintro e w2 ⟨rfl,hb2⟩
 have hbf:=below_via HBW.out hb2
 clear HJJ HBW hb2
 go_wp2
 go_ret
 exact⟨rfl,hbf⟩
theorem text_any (q:List ByteArray)(hq:Good q)(w:World):Calls Tryz.prog 158 #[.agg (pathA q)] w fun e w'=>e=.returned (.string (joinB q))/\Below w.heap.size w w':=by
 have h5:=hq.len
 have hjs:=join_size hq.val
 refine text_walk _ _ _ _ _ q.length h5 q (joinB q) w rfl (fun W=>depth_any q hq.val h5 W) (fun W hb hbx=>?_)
 have hlt:w.heap.size<W.heap.size:=(Array.getElem?_eq_some_iff.1 hbx).1
 obtain⟨_,c0,c1,c2,c3,c4,_⟩:=cells5 hbx
 have hj:Lib.join (q.map (·.data.toList)) (⟨#[47]⟩:ByteArray).data.toList=joinL (q.map toL):=joinL_lib _
 have hsz:(joinL (q.map toL)).length<=65:=by
  have:(joinB q).size=(joinL (q.map toL)).length:=by
   show (joinL (q.map toL)).toArray.size=_
   simp
  omega
 have:=Tryz.strings_Join w.heap.size 0 5 q ⟨#[47]⟩ W (fun j x hx=>?_) hlt (by omega) h5 (by rw[hj];omega)
 ·rw[hj] at this
  exact this
 ·obtain⟨hj,rfl⟩:=List.getElem?_eq_some_iff.1 hx
  have h4:j=0\/j=1\/j=2\/j=3\/j=4:=by omega
  rw[Nat.zero_add]
  rcases h4 with rfl | rfl | rfl | rfl | rfl
  ·rw[c0];simp[List.getD,hx]
  ·rw[c1];simp[List.getD,hx]
  ·rw[c2];simp[List.getD,hx]
  ·rw[c3];simp[List.getD,hx]
  ·rw[c4];simp[List.getD,hx]
def FetchS (i:Nat)(t:Nat×Nat):Prop:=Fetches i t\/t=(0,1)
theorem fetchS0 {i:Nat}(hi:2<=i):¬ FetchS i (0,0):=by
 rintro ((h | h | h) | h)
 ·cases h
 ·cases h
 ·cases h
 ·cases h
abbrev Chg8:=ByteArray×Int
def encC (x:Chg8):List Value:=[.string x.1,.int .i64 x.2]
def flatC (l:List Chg8):List Value:=l.flatMap encC
theorem flatC_len (l:List Chg8):(flatC l).length=l.length*2:=by
 induction l with
 | nil=>rfl
 | cons x r ih=>unfold flatC at ih ⊢;rw[List.flatMap_cons,List.length_append,ih,List.length_cons];simp[encC];omega
theorem flatC_app (a b:List Chg8):flatC (a++b)=flatC a++flatC b:=by simp[flatC]
theorem infoC:(Tryz.prog.info? 58).map (fun i=>(i.zero,i.size,i.bytes))=some (some (.agg #[.string ByteArray.empty,.int .i64 0]),2,24):=by kernel_rfl
def encP (x:List ByteArray×Int):Chg8:=(joinB x.1,x.2)
def SurvAt (tg:Tags)(w:World)(sv bt dr ow:Nat)(L:List Chg8):Prop:=
 tg sv=(0,1)/\∃ a c,w.heap[sv]? = some (.cells #[ptr bt,ptr dr,.map (some ow),.slice a L.length c] 172 (0,0))/\w.ownsRow 0 58 2 (.slice a L.length c) L.length (flatC L)/\∀ b,(Value.slice a L.length c).ownBlock=some b->tg b=(0,1)
theorem SurvAt.moves {P:Nat×Nat->Prop}{tg tg':Tags}{w w':World}{sv bt dr ow:Nat}{L:List Chg8}(h:SurvAt tg w sv bt dr ow L)(m:Moves P tg tg' w w')(hn:¬ P (0,1)):SurvAt tg' w' sv bt dr ow L:=by
 obtain⟨ht,a,c,hb,hr,hg⟩:=h
 obtain⟨h1,h2⟩:=m.at hb ht hn
 exact⟨h2,a,c,h1,ownsRow_keep hr (fun g hgg=>m.block g (ownsRow_lt hr hgg) (by rw[hg g hgg];exact hn)),fun b hbb=>(m.tags b (ownsRow_lt hr hbb)).trans (hg b hbb)⟩
structure CSt (tg:Tags)(w:World)(s i p:Nat)(B:WB)(objs:List Ob)(g:WG)(lim:Nat)(sv dr ow:Nat)(t:LT)(a:List Ob)(L:List Chg8):Prop where
 inv:WInv tg w s i p B objs g lim
 surv:SurvAt tg w sv B.bt dr ow L
 map:∃ (f:List ByteArray->Option Int) (n:Nat),PMap w ow n (fun q=>(f q).map (Value.int .i64))/\∀ q,Memo objs (fcOf objs g.fl) t a f q
 tow:tg ow=(0,0)
 few:L.length<=lim
section
variable {s i p:Nat}{B:WB}{objs:List Ob}{sv dr ow:Nat}{t:LT}{a:List Ob}
theorem CSt.below {tg:Tags}{w w':World}{g:WG}{lim:Nat}{L:List Chg8}(h:CSt tg w s i p B objs g lim sv dr ow t a L)(hb:Below w.heap.size w w'):CSt tg w' s i p B objs g lim sv dr ow t a L:=by
 obtain⟨f,n,hm,hM⟩:=h.map
 exact⟨h.inv.below hb,h.surv.moves (Moves.of_below (P:=fun _=>False) hb) id,⟨f,n,hm.keep (hb.block ow hm.lt),hM⟩,h.tow,h.few⟩
theorem CSt.mono {tg:Tags}{w:World}{g:WG}{lim lim':Nat}{L:List Chg8}(h:CSt tg w s i p B objs g lim sv dr ow t a L)(hl:lim<=lim'):CSt tg w s i p B objs g lim' sv dr ow t a L:=⟨h.inv.mono hl,h.surv,h.map,h.tow,Nat.le_trans h.few hl⟩
def entO (nm:ByteArray):Option LT->Ent
 | none=>(⟨#[]⟩,0,0)
 | some c=>(nm,c.kind,c.id)
def entV (e:Ent):Value:=.agg #[.string e.1,.int .i64 e.2.1,.int .i64 e.2.2]
def insG (objs:List Ob)(fs:FS):Option LT->FS×Int×Kids
 | some (.own es)=>(fs,0,es)
 | some (.dir id)=>if (fs.dirG id).2 then ((fs.dirG id).1,0,(entsOf objs id).map kidOf) else ((fs.dirG id).1,14,[])
 | _=>(fs,0,[])
theorem insG_cases (objs:List Ob)(fs:FS)(o:Option LT):(fs.Next (insG objs fs o).1/\(insG objs fs o).2=(0,kidsO objs o))\/(fs.Fail (insG objs fs o).1/\(insG objs fs o).2=(14,[])):=by
 cases o with
 | none=>exact .inl ⟨FS.Next.refl _,rfl⟩
 | some c=>
  cases c with
  | file i=>exact .inl ⟨FS.Next.refl _,rfl⟩
  | held f=>exact .inl ⟨FS.Next.refl _,rfl⟩
  | own es=>exact .inl ⟨FS.Next.refl _,rfl⟩
  | dir id=>
   have e1:insG objs fs (some (.dir id))=if (fs.dirG id).2 then ((fs.dirG id).1,0,(entsOf objs id).map kidOf) else ((fs.dirG id).1,14,[]):=rfl
   rw[e1]
   rcases fs.dirG_cases id with ⟨h,hn,_⟩ | ⟨h,hf⟩
   ·rw[if_pos h];exact .inl ⟨hn,rfl⟩
   ·rw[if_neg (by rw[h];decide)];exact .inr ⟨hf,rfl⟩
theorem entO_ok {n:Nat}{o:Option LT}(h:OkO objs n o)(nm:ByteArray)(h2:(entO nm o).2.1=2):EntOk objs (entO nm o):=by
 cases o with
 | none=>cases h2
 | some c=>
  have hc:=h c rfl
  refine⟨lt_kind12 c,fun hid=>?_⟩
  cases c with
  | file id=>cases n <;> (rw[LTok] at hc;exact hc)
  | held f=>exact absurd rfl hid
  | dir id=>cases n <;> (rw[LTok] at hc;exact hc.1)
  | own es=>exact absurd rfl hid
theorem ents_ins (hS:Sound objs){t:LT}{ft:FT}(hF:Flat objs t ft){n:Nat}{o:Option LT}(hok:OkO objs n o){q:List ByteArray}(hat:∀ es,o=some (.own es)->t.at objs q=o)(fs:FS)(nm:ByteArray)(h2:(entO nm o).2.1=2):
  entsF objs ft fs q (entO nm o)=((insG objs fs o).1,(insG objs fs o).2.1,(insG objs fs o).2.2.map entOf):=by
 cases o with
 | none=>cases h2
 | some c=>
  unfold entsF
  rw[if_neg (fun h=>h h2)]
  cases c with
  | file id=>cases h2
  | held f=>cases h2
  | own es=>
   rw[if_pos (show (entO nm (some (.own es))).2.2=0 from rfl),hF.od q,hat es rfl]
   rfl
  | dir id=>
   have hc:=hok _ rfl
   have hk:kindOf objs id=2:=by cases n <;> (rw[LTok] at hc;exact hc.1)
   have hid:id≠0:=fun e=>by have:=(kindOf_pos (a:=objs) (id:=id) (by rw[hk];decide)).1;omega
   have hb:((entsOf objs id).map kidOf).map entOf=entsOf objs id:=ents_back (fun e he=>((hS.2 id hk).2.2 e he).2.1)
   rw[if_neg (show (entO nm (some (.dir id))).2.2≠0 from hid)]
   show (if (fs.dirG id).2 then _ else _)=_
   have e1:insG objs fs (some (.dir id))=if (fs.dirG id).2 then ((fs.dirG id).1,0,(entsOf objs id).map kidOf) else ((fs.dirG id).1,14,[]):=rfl
   rw[e1]
   split
   ·simp only[hb];rfl
   ·rfl
end
def kindO:Option LT->Int
 | none=>0
 | some c=>c.kind
def idO:Option LT->Int
 | none=>0
 | some c=>c.id
def objO (f:List ByteArray->Option Int)(q:List ByteArray)(c:LT):Int:=if c.id≠0 then c.id else (f q).getD 0
def StoredO (o:Option LT):Prop:=∀ c,o=some c->(∃ i,c=.file i)\/∃ i,c=.dir i
def noteT (T:ByteArray)(is was:Bool):List Chg8:=if is then (if was then [(T,2)] else [(T,1)]) else if was then [(T,3)] else []
section
variable {objs:List Ob}{fc fc':FileC}
theorem LTok_five {n:Nat}(hn:n<=5){c:LT}(h:LTok objs n c):LTok objs 5 c:=lt_mono n 5 hn h
theorem obj_test {a l:List Ob}(ha:a=objs++l)(hX:Exact a)(hO:Once a)(hS:Sound objs){t c u:LT}{f:List ByteArray->Option Int}{q:List ByteArray}(hm:Memo objs fc t a f q)(hat:t.at objs q=some c)(hc:LTok objs 5 c)(hu:LTok objs 5 u)(hst:(∃ i,u=.file i)\/∃ i,u=.dir i)(hk:c.kind=u.kind):
  objO f q c=u.id ↔ ∀ y,sem objs fc c y=sem objs fcE u y:=by
 have hua:LTok a 5 u:=by rw[ha];exact LTok_app l 5 _ hu
 have hsu:∀ y,sem a fcE u y=sem objs fcE u y:=fun y=>by rw[ha];exact sem_app hS l fcE y 5 _ hu
 have key:∀ id,LTok a 5 (refOf c.kind id)->SemEq a fcE (refOf c.kind id) objs fc c->(id=u.id ↔ ∀ y,sem objs fc c y=sem objs fcE u y):=fun id h1 h2=>by
  rw[obj_iff hX hO h1 h2 hua hst hk]
  exact⟨fun h y=>(h y).trans (hsu y),fun h y=>(h y).trans (hsu y).symm⟩
 unfold objO
 by_cases hid:c.id=0
 ·rw[if_neg (fun h=>h hid)]
  obtain⟨id,h1,h2,h3⟩:=hm c hat hid
  rw[h1,Option.getD_some]
  exact key id h2 h3
 ·rw[if_pos hid]
  have hcs:(∃ i,c=.file i)\/∃ i,c=.dir i:=by
   cases c with
   | file i=>exact .inl ⟨i,rfl⟩
   | dir i=>exact .inr ⟨i,rfl⟩
   | held f=>exact absurd rfl hid
   | own es=>exact absurd rfl hid
  have hre:refOf c.kind c.id=c:=by rcases hcs with ⟨i,rfl⟩ | ⟨i,rfl⟩ <;> rfl
  refine key c.id (by rw[hre,ha];exact LTok_app l 5 _ hc) (fun y=>?_)
  rw[hre,ha,sem_app hS l fcE y 5 _ hc]
  exact stored_fc hcs fcE fc y
theorem kind_sem {now was:Option LT}(h:∀ y,semO objs fc now y=semO objs fc' was y):kindO now=kindO was:=by
 have h0:=h []
 cases now with
 | none=>
  cases was with
  | none=>rfl
  | some u=>simp only[semO,Option.bind_none,Option.bind_some,sem_nil] at h0;cases h0
 | some c=>
  cases was with
  | none=>simp only[semO,Option.bind_none,Option.bind_some,sem_nil] at h0;cases h0
  | some u=>exact nd_kind (sem_nd (show sem objs fc c []=sem objs fc' u [] from h0))
theorem cmp_same {n:Nat}{q:List ByteArray}{now was:Option LT}(h:∀ y,semO objs fc now y=semO objs fc' was y):cmpL objs fc fc' n q now was = []:=by
 cases n <;> rw[cmpL,if_pos h]
theorem kidsO_nil (hS:Sound objs){o:Option LT}(h:OkO objs 0 o):kidsO objs o = []:=by
 cases hk:kidsO objs o with
 | nil=>rfl
 | cons x r=>obtain⟨k,e,_⟩:=(kidsO_ok hS h).2 x (by rw[hk];exact List.mem_cons_self ..);omega
theorem cmp_diff (hS:Sound objs){n:Nat}{q:List ByteArray}{now was:Option LT}(hn:OkO objs n now)(hw:OkO objs n was)(h:¬ ∀ y,semO objs fc now y=semO objs fc' was y):
  cmpL objs fc fc' n q now was=noteL q (fileO (semO objs fc now [])) (fileO (semO objs fc' was []))++((kidsO objs now).flatMap (fun x=>cmpL objs fc fc' (n-1) (q ++ [x.1]) (some x.2) (pickK (kidsO objs was) x.1))++((kidsO objs was).filter fun x=>(pickK (kidsO objs now) x.1).isNone).flatMap (fun x=>cmpL objs fc fc' (n-1) (q ++ [x.1]) none (some x.2))):=by
 cases n with
 | zero=>rw[cmpL,if_neg h,kidsO_nil hS hn,kidsO_nil hS hw];simp
 | succ n=>rw[cmpL,if_neg h];rfl
theorem file_kind (o:Option LT):(fileO (semO objs fc o [])).isSome=decide (kindO o=1):=by
 cases o with
 | none=>rfl
 | some c=>
  show (fileO (sem objs fc c [])).isSome=_
  rw[sem_nil]
  cases c <;> rfl
theorem note_eq (q:List ByteArray)(x y:Option ByteArray):(noteL q x y).map encP=noteT (joinB q) x.isSome y.isSome:=by
 cases x <;> cases y <;> rfl
theorem note_kinds (q:List ByteArray)(now was:Option LT):(noteL q (fileO (semO objs fc now [])) (fileO (semO objs fc' was []))).map encP=noteT (joinB q) (decide (kindO now=1)) (decide (kindO was=1)):=by
 rw[note_eq,file_kind,file_kind]
theorem filter_take {α β:Type}(p:α->Bool)(h:α->List β)(l:List α){k:Nat}(hk:k<l.length):((l.take (k+1)).filter p).flatMap h=((l.take k).filter p).flatMap h++(if p l[k] then h l[k] else []):=by
 rw[List.take_succ_eq_append_getElem hk,List.filter_append,List.flatMap_append]
 by_cases hp:p l[k]=true
 ·simp[hp]
 ·simp[hp]
theorem flat_take {α β:Type}(h:α->List β)(l:List α){k:Nat}(hk:k<l.length):(l.take (k+1)).flatMap h=(l.take k).flatMap h++h l[k]:=by
 rw[List.take_succ_eq_append_getElem hk,List.flatMap_append];simp
theorem kidsO_few (hS:Sound objs){n:Nat}{o:Option LT}(h:OkO objs n o):(kidsO objs o).length<=16:=by
 cases o with
 | none=>exact Nat.zero_le _
 | some c=>
  unfold kidsO
  cases hk:kids objs c with
  | none=>simp[hk]
  | some ks=>simp only[Option.bind_some,hk,Option.getD_some];exact (ok_kids hS (h c rfl) hk).2.1
theorem kidsO_valid (hS:Sound objs){n:Nat}{o:Option LT}(h:OkO objs n o):∀ x ∈ kidsO objs o,validB x.1=true:=by
 cases o with
 | none=>intro x hx;cases hx
 | some c=>
  unfold kidsO
  cases hk:kids objs c with
  | none=>intro x hx;simp[hk] at hx
  | some ks=>simp only[Option.bind_some,hk,Option.getD_some];exact fun x hx=>((ok_kids hS (h c rfl) hk).2.2 x hx).1
theorem stored_kidO {o:Option LT}(h:StoredO o)(x:ByteArray):StoredO (pickK (kidsO objs o) x):=by
 intro c hc
 cases o with
 | none=>cases hc
 | some u=>
  rcases h u rfl with ⟨i,rfl⟩ | ⟨i,rfl⟩
  ·cases hc
  ·have hm:=pick_in8 hc
   obtain⟨e,_,he⟩:=List.mem_map.1 (show (x,c) ∈ (entsOf objs i).map kidOf from hm)
   have e2:c=ltOf e:=by rw[<- show (kidOf e).2=ltOf e from rfl,he]
   rw[e2]
   unfold ltOf
   split
   ·exact .inr ⟨_,rfl⟩
   ·exact .inl ⟨_,rfl⟩
theorem at_kidO {t:LT}{q:List ByteArray}{o:Option LT}(hat:∀ c,o=some c->t.at objs q=some c){x:ByteArray}{c:LT}(hc:pickK (kidsO objs o) x=some c):t.at objs (q ++ [x])=some c:=by
 cases o with
 | none=>cases hc
 | some u=>
  rw[at_append,hat u rfl,Option.bind_some,at_cons]
  unfold kidsO at hc
  cases hk:kids objs u with
  | none=>simp only[Option.bind_some,hk,Option.getD_none] at hc;cases hc
  | some ks=>
   simp only[Option.bind_some,hk,Option.getD_some] at hc
   simp only[Option.bind_some,hc,at_nil]
def cB:Nat->Nat
 | 0=>3
 | n+1=>3+32*cB n
theorem cB_pos (n:Nat):3<=cB n:=by cases n <;> rw[cB] <;> omega
end
end Go.Proofs.YtajopoddmfdejaaGreat
