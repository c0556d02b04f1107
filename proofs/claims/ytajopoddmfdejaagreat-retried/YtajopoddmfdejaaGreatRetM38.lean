/-
  What is proved here: what is renamed to a free path can be renamed back, and then all reads as it did. the calls of canopykeep's Back, one by one. canopykeep's told at any path where there is a file: its bytes; ..
-/
import Derived.Test.YtajopoddmfdejaaGreatRetM36
import Derived.Test.YtajopoddmfdejaaGreatRetM37
import Derived.Test.YtajopoddmfdejaaGreatRetM35
import Derived.Test.YtajopoddmfdejaaGreatRetM31
namespace Go.Proofs.YtajopoddmfdejaaGreat
open Go.RowKit Go.Sort Go.Shelf
set_option linter.unusedVariables false
set_option maxRecDepth 100000
set_option maxHeartbeats 16000000
theorem look_nobrk {objs:List Ob}{t:LT}{fs:FS}(h:fs.brk=false)(r:List ByteArray):(lookR objs t fs r).2=lookE objs t r:=by
 rcases lookR_cases objs t fs r with ⟨_,h2,_⟩ | ⟨h1,_⟩
 ·exact h2
 ·rw[h1.1] at h;cases h
structure Ren (objs:List Ob)(t:LT)(nc nd:ByteArray)(rc rd:List ByteArray)(df dt c:LT)(kf kt:Kids)(t1:LT):Prop where
 af:t.at objs rc.reverse=some df
 kkf:kids objs df=some kf
 pf:pickK kf nc=some c
 at_:t.at objs rd.reverse=some dt
 kkt:kids objs dt=some kt
 pt:pickK kt nd=none
 np:¬ (rc.reverse ++ [nc]) <+: (rd.reverse ++ [nd])
 pn:¬ (rd.reverse ++ [nd]) <+: (rc.reverse ++ [nc])
 eq:t1=modG objs (fun ks=>putK ks nd c) rd.reverse (modG objs (fun ks=>dropK ks nc) rc.reverse t)
def cs (n:Nat)(ks:Kids):Nat:=(ks.map fun x=>cntO n x.2).sum
structure Obs8 (objs:List Ob)(id:Int):Prop where
 exact:Exact objs
 once:Once objs
 ok:LTok objs 5 (.dir id)
 len:objs.length<=100
theorem work_walk (s:Nat)(id:Int)(R:Nat->World->Prop)(w:World)(hc:Calls Tryz.prog 40 #[.pointer (some ⟨s,0,none⟩),.int .i64 id] w fun e w'=>∃ wb:Nat,e=.returned (.tuple #[.pointer (some ⟨wb,0,none⟩),.int .i64 0])/\R wb w'):
  Calls Tryz.prog 12 #[.pointer (some ⟨s,0,none⟩),.int .i64 id] w fun e w'=>∃ wb:Nat,e=.returned (.tuple #[.pointer (some ⟨wb,0,none⟩),.bool true])/\R wb w':=by
 have HC:Hid _:=hc
 clear hc
 go_enter Tryz.func12,Tryz.ntmps12
 go_wp2_with fail
 refine Calls.mono HC.out ?_
 rintro e w1 ⟨wb,rfl,hR⟩
 have HR:Hid _:=hR
 clear hR HC
 go_wp2
 go_ret2
 exact⟨wb,rfl,HR.out⟩
section
variable {s i p:Nat}{B:WB}{objs:List Ob}{tg0:Tags}{w0:World}{base:Int}
end
abbrev Thing8:=ByteArray×Int×ByteArray
def ndD:Nd->ByteArray
 | .dir=>⟨#[]⟩
 | .file d=>d
def thingsR (a:List Ob)(fc:FileC):Nat->List ByteArray->LT->List Thing8
 | 0,_,_=>[]
 | n+1,q,c=>((kids a c).getD []).flatMap fun x=>(joinB (q ++ [x.1]),x.2.kind,ndD (nd a fc x.2)) :: (if x.2.kind=2 then thingsR a fc n (q ++ [x.1]) x.2 else [])
def thingsX (a:List Ob)(fc:FileC)(n:Nat)(q:List ByteArray)(x:ByteArray×LT):List Thing8:=(joinB (q ++ [x.1]),x.2.kind,ndD (nd a fc x.2)) :: (if x.2.kind=2 then thingsR a fc n (q ++ [x.1]) x.2 else [])
theorem things_succ {a:List Ob}{fc:FileC}{n:Nat}{q:List ByteArray}{c:LT}{ks:Kids}(hk:kids a c=some ks):thingsR a fc (n+1) q c=ks.flatMap (thingsX a fc n q):=by rw[thingsR,hk];rfl
theorem kid_sem2 {a b:List Ob}{fc fc':FileC}{t u:LT}{ks ku:Kids}(h:∀ q,sem a fc t q=sem b fc' u q)(hk:kids a t=some ks)(hu:kids b u=some ku)(rk:RisingK ks)(ru:RisingK ku):
  ks.map (·.1)=ku.map (·.1)/\∀ k (h1:k<ks.length) (h2:k<ku.length),∀ q,sem a fc (ks[k]).2 q=sem b fc' (ku[k]).2 q:=by
 have hn:∀ n r,((pickK ks n).bind fun c=>sem a fc c r)=((pickK ku n).bind fun c=>sem b fc' c r):=by
  intro n r
  have:=h (n :: r)
  rw[sem_cons,sem_cons,hk,hu,Option.bind_some,Option.bind_some] at this
  exact this
 have hnames:ks.map (·.1)=ku.map (·.1):=by
  refine names_eq rk ru (fun n=>?_)
  have:=hn n []
  cases h1:pickK ks n <;> cases h2:pickK ku n <;> rw[h1,h2] at this <;> simp[sem_nil] at this ⊢
 refine⟨hnames,fun k h1 h2 q=>?_⟩
 have he:(ks[k]).1=(ku[k]).1:=by
  have:=congrArg (fun l=>l[k]?) hnames
  simp only[List.getElem?_map,List.getElem?_eq_getElem h1,List.getElem?_eq_getElem h2,Option.map_some,Option.some.injEq] at this
  exact this
 have:=hn (ks[k]).1 q
 rw[pick_getK rk h1,he,pick_getK ru h2,Option.bind_some,Option.bind_some] at this
 exact this
theorem sem_nd {a b:List Ob}{fc fc':FileC}{t u:LT}(h:sem a fc t []=sem b fc' u []):nd a fc t=nd b fc' u:=by
 rw[sem_nil,sem_nil] at h
 exact Option.some.inj h
theorem nd_kind {a b:List Ob}{fc fc':FileC}{t u:LT}(h:nd a fc t=nd b fc' u):t.kind=u.kind:=by
 cases t <;> cases u <;> simp[nd,LT.kind] at h ⊢
theorem kids_some {a:List Ob}{c:LT}(h:c.kind=2):∃ ks,kids a c=some ks:=by
 cases c with
 | file i=>cases h
 | held f=>cases h
 | dir i=>exact⟨_,rfl⟩
 | own es=>exact⟨_,rfl⟩
theorem kids_none {a:List Ob}{c:LT}(h:c.kind≠2):kids a c=none:=by
 cases c with
 | file i=>rfl
 | held f=>rfl
 | dir i=>exact absurd rfl h
 | own es=>exact absurd rfl h
theorem flatMap_two {α β γ:Type}{f:α->List γ}{g:β->List γ}:∀ {l:List α} {m:List β},l.length=m.length->(∀ k (h1:k<l.length) (h2:k<m.length),f l[k]=g m[k])->l.flatMap f=m.flatMap g
 | [],[],_,_=>rfl
 | [],y :: m,h,_=>by cases h
 | x :: l,[],h,_=>by cases h
 | x :: l,y :: m,h,hf=>by
  rw[List.flatMap_cons,List.flatMap_cons]
  have h0:=hf 0 (by simp) (by simp)
  simp only[List.getElem_cons_zero] at h0
  rw[h0,flatMap_two (by simpa using h) (fun k h1 h2=>by have:=hf (k+1) (by simpa using h1) (by simpa using h2);simpa using this)]
theorem things_sem {a b:List Ob}{fc fc':FileC}(hA:Sound a)(hB:Sound b):∀ (n:Nat) (q:List ByteArray) (t u:LT),LTok a n t->LTok b n u->(∀ x,sem a fc t x=sem b fc' u x)->thingsR a fc n q t=thingsR b fc' n q u
 | 0,q,t,u,_,_,_=>by rw[thingsR,thingsR]
 | n+1,q,t,u,ht,hu,h=>by
  have hkd:=nd_kind (sem_nd (h []))
  by_cases hk:t.kind=2
  ·obtain⟨ks,hks⟩:=kids_some (a:=a) hk
   obtain⟨ku,hku⟩:=kids_some (a:=b) (hkd ▸ hk)
   obtain⟨rk,_,hk2⟩:=ok_kids hA ht hks
   obtain⟨ru,_,hu2⟩:=ok_kids hB hu hku
   obtain⟨hn,hs⟩:=kid_sem2 h hks hku rk ru
   have hlen:ks.length=ku.length:=by have:=congrArg List.length hn;simpa using this
   rw[things_succ hks,things_succ hku]
   refine flatMap_two hlen (fun k h1 h2=>?_)
   have he:(ks[k]).1=(ku[k]).1:=by
    have:=congrArg (fun l=>l[k]?) hn
    simp only[List.getElem?_map,List.getElem?_eq_getElem h1,List.getElem?_eq_getElem h2,Option.map_some,Option.some.injEq] at this
    exact this
   have hnd:=sem_nd (hs k h1 h2 [])
   have hki:=nd_kind hnd
   obtain⟨m1,e1,o1⟩:=(hk2 _ (List.getElem_mem h1)).2
   obtain⟨m2,e2,o2⟩:=(hu2 _ (List.getElem_mem h2)).2
   have e1':m1=n:=by omega
   have e2':m2=n:=by omega
   subst e1'
   subst e2'
   unfold thingsX
   rw[he,hnd,hki,things_sem hA hB m2 (q ++ [(ku[k]).1]) _ _ o1 o2 (hs k h1 h2)]
  ·rw[thingsR,thingsR,kids_none hk,kids_none (by rw[<- hkd];exact hk)];rfl
theorem sem_fc {objs:List Ob}{fc fc':FileC}{t:LT}(h:∀ x f,t.at objs x=some (.held f)->fc' f=fc f)(x:List ByteArray):sem objs fc' t x=sem objs fc t x:=by
 unfold sem
 cases hx:t.at objs x with
 | none=>rfl
 | some c=>
  cases c with
  | file i=>rfl
  | held f=>simp only[Option.map_some,nd];rw[h x f hx]
  | dir i=>rfl
  | own es=>rfl
def SemEq (a:List Ob)(fc:FileC)(t:LT)(b:List Ob)(fc':FileC)(u:LT):Prop:=∀ x,sem a fc t x=sem b fc' u x
theorem kidsE_none {a:List Ob}{t:LT}(h:kids a t=none):kidsE a t=(5,[]):=by cases t <;> simp[kids,kidsE] at h ⊢
theorem kidsE_some {a:List Ob}{t:LT}{ks:Kids}(h:kids a t=some ks):kidsE a t=(0,ks):=by cases t <;> simp[kids,kidsE] at h ⊢ <;> exact h
section
variable {a b:List Ob}{fc fc':FileC}
theorem SemEq.kind {t u:LT}(h:SemEq a fc t b fc' u):t.kind=u.kind:=nd_kind (sem_nd (h []))
theorem SemEq.kids2 {t u:LT}(h:SemEq a fc t b fc' u):(kids a t=none/\kids b u=none)\/∃ ks ku,kids a t=some ks/\kids b u=some ku:=by
 by_cases hk:t.kind=2
 ·obtain⟨ks,hks⟩:=kids_some (a:=a) hk
  obtain⟨ku,hku⟩:=kids_some (a:=b) (h.kind ▸ hk)
  exact .inr ⟨ks,ku,hks,hku⟩
 ·exact .inl ⟨kids_none hk,kids_none (by rw[<- h.kind];exact hk)⟩
theorem SemEq.pick {t u:LT}(h:SemEq a fc t b fc' u){ks ku:Kids}(hk:kids a t=some ks)(hu:kids b u=some ku)(n:ByteArray):(pickK ks n=none/\pickK ku n=none)\/∃ c d,pickK ks n=some c/\pickK ku n=some d/\SemEq a fc c b fc' d:=by
 have hn:∀ r,((pickK ks n).bind fun c=>sem a fc c r)=((pickK ku n).bind fun c=>sem b fc' c r):=by
  intro r
  have:=h (n :: r)
  rw[sem_cons,sem_cons,hk,hu,Option.bind_some,Option.bind_some] at this
  exact this
 cases h1:pickK ks n with
 | none=>
  cases h2:pickK ku n with
  | none=>exact .inl ⟨rfl,rfl⟩
  | some d=>have:=hn [];rw[h1,h2] at this;simp[sem_nil] at this
 | some c=>
  cases h2:pickK ku n with
  | none=>have:=hn [];rw[h1,h2] at this;simp[sem_nil] at this
  | some d=>exact .inr ⟨c,d,rfl,rfl,fun x=>by have:=hn x;rw[h1,h2] at this;exact this⟩
theorem SemEq.length {t u:LT}(h:SemEq a fc t b fc' u)(hA:Sound a)(hB:Sound b){n m:Nat}(ht:LTok a n t)(hu:LTok b m u){ks ku:Kids}(hk:kids a t=some ks)(hku:kids b u=some ku):ks.length=ku.length:=by
 have:=congrArg List.length (kid_sem2 h hk hku (ok_kids hA ht hk).1 (ok_kids hB hu hku).1).1
 simpa using this
theorem find_two {t u:LT}(h:SemEq a fc t b fc' u):∀ r,(findE a t r).1=(findE b u r).1/\((findE a t r).1=0->SemEq a fc (findE a t r).2 b fc' (findE b u r).2)
 | []=>⟨rfl,fun _=>h⟩
 | n :: r=>by
  obtain⟨h1,h2⟩:=find_two h r
  rw[findE,findE]
  simp only
  by_cases h0:(findE a t r).1≠0
  ·have h0':(findE b u r).1≠0:=by rw[<- h1];exact h0
   rw[if_pos h0,if_pos h0']
   exact⟨h1,fun e=>absurd e h0⟩
  ·have h0':¬ (findE b u r).1≠0:=by rw[<- h1];exact h0
   rw[if_neg h0,if_neg h0']
   have hs:=h2 (Decidable.not_not.1 h0)
   rcases hs.kids2 with ⟨k1,k2⟩ | ⟨ks,ku,k1,k2⟩
   ·rw[kidsE_none k1,kidsE_none k2]
    exact⟨rfl,fun e=>by simp at e⟩
   ·rw[kidsE_some k1,kidsE_some k2]
    simp only[ne_eq,not_true_eq_false,if_false]
    rcases hs.pick k1 k2 n with ⟨p1,p2⟩ | ⟨c,d,p1,p2,hs'⟩
    ·rw[p1,p2]
     exact⟨rfl,fun e=>by simp at e⟩
    ·rw[p1,p2]
     exact⟨rfl,fun _=>hs'⟩
theorem find_at {t:LT}{r:List ByteArray}(h:(findE a t r).1=0):t.at a r.reverse=some (findE a t r).2:=by
 rcases find_sem a (fun _=>⟨#[]⟩) t r with ⟨_,h2⟩ | ⟨h1,_⟩
 ·exact h2
 ·exact absurd h h1
theorem look_two {t u:LT}(h:SemEq a fc t b fc' u)(r:List ByteArray):((lookE a t r).1≠0/\(lookE b u r).1=(lookE a t r).1)\/
  ∃ d e ks ku,t.at a r.reverse=some d/\u.at b r.reverse=some e/\SemEq a fc d b fc' e/\kids a d=some ks/\kids b e=some ku/\lookE a t r=(0,ks)/\lookE b u r=(0,ku):=by
 obtain⟨h1,h2⟩:=find_two h r
 unfold lookE
 simp only
 by_cases h0:(findE a t r).1≠0
 ·have h0':(findE b u r).1≠0:=by rw[<- h1];exact h0
  rw[if_pos h0,if_pos h0']
  exact .inl ⟨h0,h1.symm⟩
 ·have h0':¬ (findE b u r).1≠0:=by rw[<- h1];exact h0
  rw[if_neg h0,if_neg h0']
  have z:=Decidable.not_not.1 h0
  have hs:=h2 z
  rcases hs.kids2 with ⟨k1,k2⟩ | ⟨ks,ku,k1,k2⟩
  ·rw[kidsE_none k1,kidsE_none k2]
   exact .inl ⟨by simp,rfl⟩
  ·refine .inr ⟨_,_,ks,ku,find_at z,find_at (h1 ▸ z),hs,k1,k2,kidsE_some k1,kidsE_some k2⟩
theorem vacant_two {t u:LT}(h:SemEq a fc t b fc' u)(hA:Sound a)(hB:Sound b){n m:Nat}(ht:LTok a n t)(hu:LTok b m u):(vacantG a fsAll t).2=(vacantG b fsAll u).2:=by
 unfold vacantG
 rw[h.kind]
 split
 ·rfl
 ·simp only[all_kids]
  rcases h.kids2 with ⟨k1,k2⟩ | ⟨ks,ku,k1,k2⟩
  ·rw[kidsE_none k1,kidsE_none k2]
  ·rw[kidsE_some k1,kidsE_some k2]
   simp only[h.length hA hB ht hu k1 k2]
theorem hgt_kids {a:List Ob}(hX:Exact a){n:Nat}{t:LT}{ks:Kids}(hk:kids a t=some ks)(hkd:∀ id,t=.dir id->kindOf a id=2):hgt a (n+1) t=ks.foldl (fun h x=>max h (1+hgt a n x.2)) 0:=by
 cases t with
 | file id=>cases hk
 | held f=>cases hk
 | own es=>cases hk;rw[hgt]
 | dir id=>
  cases hk
  rw[hgt,hX.high id (hkd id rfl),List.foldl_map]
  unfold highs
  congr 1
  funext h e
  unfold kidOf ltOf
  split <;> rw[hgt]
theorem foldl_two {α β:Type}{f:Int->α->Int}{g:Int->β->Int}:∀ {l:List α} {m:List β},l.length=m.length->(∀ k (h1:k<l.length) (h2:k<m.length) z,f z l[k]=g z m[k])->∀ z,l.foldl f z=m.foldl g z
 | [],[],_,_,z=>rfl
 | [],y :: m,h,_,_=>by cases h
 | x :: l,[],h,_,_=>by cases h
 | x :: l,y :: m,h,hf,z=>by
  rw[List.foldl_cons,List.foldl_cons]
  have h0:=hf 0 (by simp) (by simp) z
  simp only[List.getElem_cons_zero] at h0
  rw[h0]
  exact foldl_two (by simpa using h) (fun k h1 h2 z=>by have:=hf (k+1) (by simpa using h1) (by simpa using h2) z;simpa using this) _
theorem ok_dirkind {a:List Ob}{n:Nat}{t:LT}(h:LTok a n t):∀ id,t=.dir id->kindOf a id=2:=fun id e=>by subst e;rw[LTok] at h;exact h.1
theorem hgt_file {a:List Ob}(hX:Exact a){n m:Nat}{t:LT}(h:LTok a m t)(hk:t.kind≠2):hgt a n t=0:=by
 cases t with
 | file id=>rw[hgt];rw[LTok] at h;exact hX.low id h
 | held f=>rw[hgt]
 | own es=>exact absurd rfl hk
 | dir id=>exact absurd rfl hk
theorem hgt_two (hXa:Exact a)(hXb:Exact b):∀ (n m:Nat) (t u:LT),n<=m->LTok a n t->LTok b n u->SemEq a fc t b fc' u->hgt a m t=hgt b m u
 | 0,m,t,u,_,ht,hu,h=>by
  by_cases hk:t.kind=2
  ·obtain⟨ks,k1⟩:=kids_some (a:=a) hk
   obtain⟨ku,k2⟩:=kids_some (a:=b) (h.kind ▸ hk)
   have e1:ks = []:=by
    cases ks with
    | nil=>rfl
    | cons x r=>obtain⟨_,m,e,_⟩:=(ok_kids hXa.sound ht k1).2.2 x (List.mem_cons_self ..);omega
   have e2:ku = []:=by
    cases ku with
    | nil=>rfl
    | cons x r=>obtain⟨_,m,e,_⟩:=(ok_kids hXb.sound hu k2).2.2 x (List.mem_cons_self ..);omega
   subst e1
   subst e2
   cases m with
   | zero=>
    have z:∀ {a:List Ob} {t:LT},Exact a->LTok a 0 t->kids a t=some []->hgt a 0 t=0:=by
     intro a t hX ht hk
     cases t with
     | file id=>cases hk
     | held f=>cases hk
     | own es=>rw[hgt]
     | dir id=>
      rw[LTok] at ht
      rw[hgt,hX.high id ht.1]
      have:entsOf a id = []:=by
       have:=Option.some.inj hk
       exact List.map_eq_nil_iff.1 this
      rw[this];rfl
    rw[z hXa ht k1,z hXb hu k2]
   | succ m=>rw[hgt_kids hXa k1 (ok_dirkind ht),hgt_kids hXb k2 (ok_dirkind hu)];rfl
  ·rw[hgt_file hXa ht hk,hgt_file hXb hu (by rw[<- h.kind];exact hk)]
 | n+1,m,t,u,hm,ht,hu,h=>by
  by_cases hk:t.kind=2
  ·obtain⟨ks,k1⟩:=kids_some (a:=a) hk
   obtain⟨ku,k2⟩:=kids_some (a:=b) (h.kind ▸ hk)
   obtain⟨rk,_,hk2⟩:=ok_kids hXa.sound ht k1
   obtain⟨ru,_,hu2⟩:=ok_kids hXb.sound hu k2
   obtain⟨hn,hs⟩:=kid_sem2 h k1 k2 rk ru
   have hlen:ks.length=ku.length:=by have:=congrArg List.length hn;simpa using this
   obtain⟨m',rfl⟩:∃ m',m=m'+1:=⟨m-1,by omega⟩
   rw[hgt_kids hXa k1 (ok_dirkind ht),hgt_kids hXb k2 (ok_dirkind hu)]
   refine foldl_two hlen (fun k h1 h2 z=>?_) 0
   obtain⟨m1,e1,o1⟩:=(hk2 _ (List.getElem_mem h1)).2
   obtain⟨m2,e2,o2⟩:=(hu2 _ (List.getElem_mem h2)).2
   have e1':m1=n:=by omega
   have e2':m2=n:=by omega
   subst e1'
   subst e2'
   rw[hgt_two hXa hXb m2 m' _ _ (by omega) o1 o2 (hs k h1 h2)]
  ·rw[hgt_file hXa ht hk,hgt_file hXb hu (by rw[<- h.kind];exact hk)]
end
def stepS (k:Int)(p p':List ByteArray)(d:ByteArray)(S:List ByteArray->Option Nd)(x:List ByteArray):Option Nd:=
 if k<3 then (if x=p then some (.file d) else if p <+: x then none else S x)
 else if k=3 then (if x=p then some .dir else if p <+: x then none else S x)
 else if k=4 then (if p <+: x then none else S x)
 else if p=p' then S x else if p' <+: x then S (p++x.drop p'.length) else if p <+: x then none else S x
theorem fair_nobrk {β:Type}{fs fs':FS}{x all none:β}(h:Fair fs fs' x all none)(hb:fs.brk=false):x=all:=by
 rcases h with ⟨_,h⟩ | ⟨h,_⟩
 ·exact h
 ·rw[h.1] at hb;cases hb
section
variable {a:List Ob}{fc:FileC}
theorem sem_leaf (f:Nat)(x:List ByteArray):sem a fc (.held f) x=if x = [] then some (.file (fc f)) else none:=by
 cases x with
 | nil=>rw[sem_nil];rfl
 | cons n r=>rw[sem_cons,if_neg (by simp)];rfl
theorem sem_empty (x:List ByteArray):sem a fc (.own []) x=if x = [] then some .dir else none:=by
 cases x with
 | nil=>rw[sem_nil];rfl
 | cons n r=>rw[sem_cons,if_neg (by simp)];rfl
theorem look_not14 {t:LT}{r:List ByteArray}:(lookE a t r).1≠14:=by
 unfold lookE
 simp only
 rcases find_sem a (fun _=>⟨#[]⟩) t r with ⟨h,_⟩ | ⟨h,_,h2⟩
 ·rw[if_neg (by simp[h])];exact kidsE_not14 _ _
 ·rw[if_pos h]
  show (findE a t r).1≠14
  omega
theorem look_atE {t:LT}{r:List ByteArray}(h:(lookE a t r).1=0):∃ d,t.at a r.reverse=some d/\kids a d=some (lookE a t r).2:=by
 have:=look_at (objs:=a) (t:=t) (fs:=fsAll) (r:=r) (by rw[all_look];exact h)
 rw[all_look] at this
 exact this
theorem put_sem {t d c:LT}{q:List ByteArray}{n:ByteArray}{ks:Kids}(ha:t.at a q=some d)(hk:kids a d=some ks)(hr:RisingK ks)(x:List ByteArray):
  sem a fc (modG a (fun ks=>putK ks n c) q t) x=if q ++ [n] <+: x then sem a fc c (x.drop (q ++ [n]).length) else sem a fc t x:=by
 obtain⟨p1,p2⟩:=sem_put (fc:=fc) (n:=n) hr ha hk c
 by_cases hx:(q ++ [n]) <+: x
 ·rw[if_pos hx]
  obtain⟨r,rfl⟩:=hx
  rw[List.drop_left,show q ++ [n]++r=q++n :: r by simp,p1]
 ·rw[if_neg hx,p2 x hx]
theorem drop_nil_iff {p x:List ByteArray}(h:p <+: x):x.drop p.length = []↔x=p:=by
 obtain⟨r,rfl⟩:=h
 rw[List.drop_left]
 constructor
 ·rintro rfl;simp
 ·intro e;simpa using e
theorem code_mkdir {t:LT}(hS:Sound a)(hok:LTok a 5 t)(n:ByteArray)(r:List ByteArray){er:Int}{t':LT}(h:(mkdirR a t fsAll (n :: r)).2=(er,t')):
  er≠14/\(er≠0->t'=t)/\(er=0->sem a fc t (r.reverse ++ [n])=none/\∀ x,sem a fc t' x=if x=r.reverse ++ [n] then some .dir else if r.reverse ++ [n] <+: x then none else sem a fc t x):=by
 unfold mkdirR at h
 simp only[all_look] at h
 split at h
 ·rename_i h0
  cases h
  exact⟨look_not14,fun _=>rfl,fun e=>absurd e h0⟩
 ·rename_i h0
  have z:=Decidable.not_not.1 h0
  obtain⟨d,ha,hk⟩:=look_atE z
  have hr:=(ok_kids hS (ok_at hS _ hok ha).2.1 hk).1
  split at h
  ·cases h;exact⟨by decide,fun _=>rfl,fun e=>by cases e⟩
  ·rename_i hp
   split at h
   ·cases h;exact⟨by decide,fun _=>rfl,fun e=>by cases e⟩
   ·cases h
    refine⟨by decide,fun e=>absurd rfl e,fun _=>⟨?_,fun x=>?_⟩⟩
    ·rw[sem_kid ha hk]
     cases hpk:pickK (lookE a t r).2 n with
     | none=>rfl
     | some c=>rw[hpk] at hp;exact absurd rfl hp
    ·rw[put_sem ha hk hr,sem_empty]
     by_cases hx:r.reverse ++ [n] <+: x
     ·rw[if_pos hx]
      by_cases e:x=r.reverse ++ [n]
      ·rw[if_pos ((drop_nil_iff hx).2 e),if_pos e]
      ·rw[if_neg (fun h=>e ((drop_nil_iff hx).1 h)),if_neg e,if_pos hx]
     ·rw[if_neg hx,if_neg (fun e=>hx (by rw[e];exact List.prefix_refl _)),if_neg hx]
theorem find_way2 {t:LT}{n:ByteArray}{r:List ByteArray}(h:(findE a t (n :: r)).1=0):∃ d ks,t.at a r.reverse=some d/\kids a d=some ks/\pickK ks n=some (findE a t (n :: r)).2/\t.at a (r.reverse ++ [n])=some (findE a t (n :: r)).2:=by
 have:=find_at h
 rw[List.reverse_cons] at this
 obtain⟨d,ks,h1,h2,h3⟩:=at_snoc this
 exact⟨d,ks,h1,h2,h3,this⟩
theorem find_not14 {t:LT}{r:List ByteArray}:(findE a t r).1≠14:=by
 rcases find_sem a (fun _=>⟨#[]⟩) t r with ⟨h,_⟩ | ⟨h,_,h2⟩ <;> omega
theorem vacant_code (c:LT):(vacantG a fsAll c).2=0\/(vacantG a fsAll c).2=5\/(vacantG a fsAll c).2=8:=by
 unfold vacantG
 simp only[all_kids]
 split
 ·exact .inl rfl
 ·split
  ·exact .inr (.inr rfl)
  ·show (kidsE a c).1=0\/(kidsE a c).1=5\/(kidsE a c).1=8
   cases c <;> simp[kidsE]
theorem room_code (b:Bool)(ks:Kids)(n:ByteArray)(c:LT):(roomG a fsAll b ks n c).2≠14:=by
 unfold roomG
 cases pickK ks n with
 | none=>simp only;split <;> simp
 | some e=>
  simp only
  unfold yieldsG
  split
  ·simp
  ·split
   ·simp
   ·have:=vacant_code (a:=a) e
    omega
theorem code_remove {t:LT}(hS:Sound a)(hok:LTok a 5 t)(n:ByteArray)(r:List ByteArray){er:Int}{t':LT}(h:(removeR a t fsAll (n :: r)).2=(er,t')):
  er≠14/\(er≠0->t'=t)/\(er=0->sem a fc t (r.reverse ++ [n])≠none/\∀ x,sem a fc t' x=if r.reverse ++ [n] <+: x then none else sem a fc t x):=by
 unfold removeR at h
 simp only[all_find] at h
 split at h
 ·rename_i h0
  cases h
  exact⟨find_not14,fun _=>rfl,fun e=>absurd e h0⟩
 ·rename_i h0
  have z:=Decidable.not_not.1 h0
  obtain⟨d,ks,ha,hk,hp,hat⟩:=find_way2 z
  have hr:=(ok_kids hS (ok_at hS _ hok ha).2.1 hk).1
  split at h
  ·rename_i hv
   cases h
   have:=vacant_code (a:=a) (findE a t (n :: r)).2
   exact⟨by omega,fun _=>rfl,fun e=>absurd e hv⟩
  ·cases h
   obtain⟨s1,s2⟩:=sem_drop (fc:=fc) hr (by rw[<- pick_there hr,hp];rfl) ha hk
   refine⟨by decide,fun e=>absurd rfl e,fun _=>⟨by unfold sem;rw[hat];simp,fun x=>?_⟩⟩
   by_cases hx:r.reverse ++ [n] <+: x
   ·rw[if_pos hx]
    obtain⟨y,rfl⟩:=hx
    rw[show r.reverse ++ [n]++y=r.reverse++n :: y by simp,s1]
   ·rw[if_neg hx,s2 x hx]
theorem code_rename {t:LT}(hS:Sound a)(hok:LTok a 5 t)(n m:ByteArray)(r q:List ByteArray){er:Int}{t':LT}(h:(renameR a t fsAll (n :: r) (m :: q)).2=(er,t')):
  er≠14/\(er≠0->t'=t)/\(er=0->sem a fc t (r.reverse ++ [n])≠none/\(r.reverse ++ [n]≠q.reverse ++ [m]->¬ r.reverse ++ [n] <+: q.reverse ++ [m])/\∀ x,sem a fc t' x=if r.reverse ++ [n]=q.reverse ++ [m] then sem a fc t x else if q.reverse ++ [m] <+: x then sem a fc t (r.reverse ++ [n]++x.drop (q.reverse ++ [m]).length) else if r.reverse ++ [n] <+: x then none else sem a fc t x):=by
 have hinj:n :: r=m :: q↔r.reverse ++ [n]=q.reverse ++ [m]:=by
  rw[<- List.reverse_cons,<- List.reverse_cons]
  exact⟨fun e=>by rw[e],fun e=>List.reverse_inj.1 e⟩
 unfold renameR at h
 simp only[all_find,all_look,List.reverse_cons] at h
 split at h
 ·rename_i h0
  cases h
  exact⟨find_not14,fun _=>rfl,fun e=>absurd e h0⟩
 ·rename_i h0
  have z:=Decidable.not_not.1 h0
  obtain⟨d,ks,ha,hk,hp,hat⟩:=find_way2 z
  have hr:=(ok_kids hS (ok_at hS _ hok ha).2.1 hk).1
  have hne:sem a fc t (r.reverse ++ [n])≠none:=by unfold sem;rw[hat];simp
  split at h
  ·cases h;exact⟨by decide,fun _=>rfl,fun e=>by cases e⟩
  ·rename_i hpre
   split at h
   ·rename_i hl
    cases h
    refine⟨look_not14,fun _=>rfl,fun e=>?_⟩
    rcases hl with hl | hl
    ·exact absurd e hl
    ·exact⟨hne,fun h=>absurd (hinj.1 hl) h,fun x=>by rw[if_pos (hinj.1 hl)]⟩
   ·rename_i hl
    have hl0:(lookE a t q).1=0:=Decidable.not_not.1 (fun h=>hl (.inl h))
    have hle:¬ n :: r=m :: q:=fun h=>hl (.inr h)
    have hnp:¬ r.reverse ++ [n] <+: q.reverse ++ [m]:=fun h=>hpre ⟨h,hle⟩
    split at h
    ·rename_i hv
     cases h
     exact⟨room_code _ _ _ _,fun _=>rfl,fun e=>absurd e hv⟩
    ·split at h
     ·cases h;exact⟨by decide,fun _=>rfl,fun e=>by cases e⟩
     ·cases h
      obtain⟨dt,hat',hkt⟩:=look_atE hl0
      refine⟨by decide,fun e=>absurd rfl e,fun _=>⟨hne,fun _=>hnp,fun x=>?_⟩⟩
      rw[if_neg (fun e=>hle (hinj.2 e))]
      exact sem_rename (fc:=fc) hS hok ha hk hp hat' hkt hnp x
end
section
variable {a:List Ob}
theorem code_put {g g':WG}{t t':LT}(hS:Sound a)(hok:LTok a 5 t)(hheld:∀ x f,t.at a x=some (.held f)->∃ y,g.fl f=some y)(hinj:HeldInj a t)(hbr:g.fs.brk=false){n:ByteArray}{r:List ByteArray}{d:ByteArray}{er:Int}(h:PutTo a g t n r d er g' t'):
  er≠14/\(er≠0->t'=t/\g'.fl=g.fl)/\(er=0->∀ x,sem a (fcOf a g'.fl) t' x=if x=r.reverse ++ [n] then some (.file d) else if r.reverse ++ [n] <+: x then none else sem a (fcOf a g.fl) t x):=by
 obtain⟨_,_,h⟩:=h
 rw[look_nobrk hbr] at h
 rcases h with ⟨h0,he,ht,hf⟩ | ⟨h0,h1,he,ht,hf⟩ | ⟨h0,h1,he,f,hf,hx,hh⟩
 ·rw[he];exact⟨look_not14,fun _=>⟨ht,hf⟩,fun e=>absurd e h0⟩
 ·rw[he]
  refine⟨?_,fun _=>⟨ht,hf⟩,fun e=>absurd e h1⟩
  unfold openE
  cases pickK (lookE a t r).2 n with
  | none=>simp only;split <;> (try split) <;> simp
  | some c=>simp only;split <;> (try split) <;> simp
 ·subst he
  refine⟨by decide,fun e=>absurd rfl e,fun _ x=>?_⟩
  obtain⟨dd,had,hkd⟩:=look_atE h0
  have hr:=(ok_kids hS (ok_at hS _ hok had).2.1 hkd).1
  have hff:fcOf a g'.fl f=d:=by unfold fcOf;rw[hf];simp
  rcases hh with ⟨hp,rfl⟩ | ⟨_,hfn,rfl⟩
  ·have hat:t'.at a (r.reverse ++ [n])=some (.held f):=by rw[at_kid had hkd,hp,Option.bind_some,at_nil]
   by_cases e:x=r.reverse ++ [n]
   ·rw[if_pos e,e]
    unfold sem
    rw[hat,Option.map_some,nd,hff]
   ·rw[if_neg e]
    by_cases hx2:r.reverse ++ [n] <+: x
    ·rw[if_pos hx2]
     obtain⟨y,rfl⟩:=hx2
     cases y with
     | nil=>exact absurd (by simp) e
     | cons z y=>
      unfold sem
      rw[at_append,hat,Option.bind_some,at_cons];rfl
    ·rw[if_neg hx2]
     unfold sem
     cases hc:t'.at a x with
     | none=>rfl
     | some c=>
      cases c with
      | file i=>rfl
      | dir i=>rfl
      | own es=>rfl
      | held f'=>
       have hne:f'≠f:=fun e'=>by
        subst e'
        exact e (hinj x _ f' hc hat)
       simp only[Option.map_some,nd]
       unfold fcOf
       rw[hx f' hne]
  ·have hfc:∀ y f',t.at a y=some (.held f')->fcOf a g'.fl f'=fcOf a g.fl f':=fun y f' hy=>by
    obtain⟨z,hz⟩:=hheld y f' hy
    have hne:f'≠f:=fun e'=>by rw[e',hfn] at hz;cases hz
    unfold fcOf
    rw[hx f' hne]
   rw[put_sem had hkd hr,sem_leaf,hff,sem_fc hfc x]
   by_cases hx2:r.reverse ++ [n] <+: x
   ·rw[if_pos hx2]
    by_cases e:x=r.reverse ++ [n]
    ·rw[if_pos ((drop_nil_iff hx2).2 e),if_pos e]
    ·rw[if_neg (fun h=>e ((drop_nil_iff hx2).1 h)),if_neg e,if_pos hx2]
   ·rw[if_neg hx2,if_neg (fun e=>hx2 (by rw[e];exact List.prefix_refl _)),if_neg hx2]
theorem step_sem {g g':WG}{t t':LT}(hS:Sound a)(hok:LTok a 5 t)(hheld:∀ x f,t.at a x=some (.held f)->∃ y,g.fl f=some y)(hinj:HeldInj a t)(hbr:g.fs.brk=false){k:Int}{na nb:ByteArray}{ra rb:List ByteArray}{d:ByteArray}{er:Int}(h:StepTo a g t k na nb ra rb d er g' t'):
  er≠14/\(er≠0->t'=t/\g'.fl=g.fl)/\(er=0->(∀ x,sem a (fcOf a g'.fl) t' x=stepS k (ra.reverse ++ [na]) (rb.reverse ++ [nb]) d (sem a (fcOf a g.fl) t) x)/\(k=3->sem a (fcOf a g.fl) t (ra.reverse ++ [na])=none)/\(k=4->sem a (fcOf a g.fl) t (ra.reverse ++ [na])≠none)/\(k=5->sem a (fcOf a g.fl) t (ra.reverse ++ [na])≠none/\(ra.reverse ++ [na]≠rb.reverse ++ [nb]->¬ ra.reverse ++ [na] <+: rb.reverse ++ [nb]))):=by
 rcases h with ⟨hk,h⟩ | ⟨hk,he,ht,_,hf,_⟩ | ⟨hk,he,ht,_,hf,_⟩ | ⟨hk,he,ht,_,hf,_⟩
 ·obtain⟨h1,h2,h3⟩:=code_put hS hok hheld hinj hbr h
  refine⟨h1,h2,fun e=>⟨fun x=>?_,fun e=>by omega,fun e=>by omega,fun e=>by omega⟩⟩
  rw[h3 e x]
  unfold stepS
  rw[if_pos hk]
 ·have hm:=fair_nobrk (fair_mkdir a t g.fs (na :: ra)) hbr
  obtain⟨h1,h2,h3⟩:=code_mkdir (fc:=fcOf a g.fl) hS hok na ra (er:=er) (t':=t') (by rw[<- hm,he,ht])
  refine⟨h1,fun e=>⟨h2 e,hf⟩,fun e=>⟨fun x=>?_,fun _=>(h3 e).1,fun e=>by omega,fun e=>by omega⟩⟩
  rw[hf,(h3 e).2 x]
  have e1:¬ k<3:=by omega
  unfold stepS
  rw[if_neg e1,if_pos hk]
 ·have hm:=fair_nobrk (fair_remove a t g.fs (na :: ra)) hbr
  obtain⟨h1,h2,h3⟩:=code_remove (fc:=fcOf a g.fl) hS hok na ra (er:=er) (t':=t') (by rw[<- hm,he,ht])
  refine⟨h1,fun e=>⟨h2 e,hf⟩,fun e=>⟨fun x=>?_,fun e=>by omega,fun _=>(h3 e).1,fun e=>by omega⟩⟩
  rw[hf,(h3 e).2 x]
  have e1:¬ k<3:=by omega
  have e2:¬ k=3:=by omega
  unfold stepS
  rw[if_neg e1,if_neg e2,if_pos hk]
 ·have hm:=fair_nobrk (fair_rename a t g.fs (na :: ra) (nb :: rb)) hbr
  obtain⟨h1,h2,h3⟩:=code_rename (fc:=fcOf a g.fl) hS hok na nb ra rb (er:=er) (t':=t') (by rw[<- hm,he,ht])
  refine⟨h1,fun e=>⟨h2 e,hf⟩,fun e=>⟨fun x=>?_,fun e=>by omega,fun e=>by omega,fun _=>⟨(h3 e).1,(h3 e).2.1⟩⟩⟩
  rw[hf,(h3 e).2.2 x]
  have e1:¬ k<3:=by omega
  have e2:¬ k=3:=by omega
  have e3:¬ k=4:=by omega
  unfold stepS
  rw[if_neg e1,if_neg e2,if_neg e3]
theorem step_inj {g g':WG}{t t':LT}(hS:Sound a)(hok:LTok a 5 t)(hheld:∀ x f,t.at a x=some (.held f)->∃ y,g.fl f=some y)(hinj:HeldInj a t){k:Int}{na nb:ByteArray}{ra rb:List ByteArray}{d:ByteArray}{er:Int}(hra:ra.length<=4)(hrb:rb.length<=4)(h:StepTo a g t k na nb ra rb d er g' t'):HeldInj a t'/\big a 5 t'<=big a 5 t+1:=by
 rcases h with ⟨_,_,_,⟨_,_,h2,h3⟩ | ⟨_,_,_,h2,h3⟩ | ⟨h0,_,_,f,hf,hx,hh⟩⟩ | ⟨_,_,h1,_,h3,_⟩ | ⟨_,_,h1,_,h3,_⟩ | ⟨_,_,h1,_,h3,_⟩
 ·rw[h2];exact⟨hinj,by omega⟩
 ·rw[h2];exact⟨hinj,by omega⟩
 ·obtain⟨dd,had,hkd⟩:=look_at h0
  have hr:=(ok_kids hS (ok_at hS _ hok had).2.1 hkd).1
  rcases hh with ⟨hp,rfl⟩ | ⟨_,hfn,rfl⟩
  ·exact⟨hinj,by omega⟩
  ·have hheld0:∀ r b,(LT.held f).at a r=some (.held b)->r = []/\b=f:=by
    intro r b hr
    cases r with
    | nil=>rw[at_nil] at hr;cases hr;exact⟨rfl,rfl⟩
    | cons m r=>rw[at_cons] at hr;simp[kids] at hr
   refine⟨inj_put hinj hr had hkd (fun x y b h1 h2=>by rw[(hheld0 x b h1).1,(hheld0 y b h2).1]) (fun r b y h1 h2=>?_),?_⟩
   ·obtain⟨_,rfl⟩:=hheld0 r b h1
    obtain⟨z,hz⟩:=hheld y b h2
    rw[hfn] at hz;cases hz
   ·have hb1:∀ k,big a k (.held f)=1:=by intro k;cases k <;> (rw[big];try rfl)
    have:=big_put hS (c:=.held f) hok had hkd (by simpa using hra) na
    rw[hb1] at this
    omega
 ·rw[h1];exact⟨inj_mkdir hS hok hinj _ _ _,big_mkdir hS hok g.fs (n:=na) hra⟩
 ·rw[h1];exact⟨inj_remove hS hok hinj _ _ _,by have:=big_remove hS hok g.fs (n:=na) (r:=ra);omega⟩
 ·rw[h1];exact⟨inj_rename hS hok hinj _ _ _ _ _,by have:=big_rename hS hok g.fs (n:=na) (m:=nb) (r:=ra) hrb;omega⟩
end
section
variable {a b:List Ob}{fc fc':FileC}
theorem mkdir_two {t u:LT}(h:SemEq a fc t b fc' u)(hA:Sound a)(hB:Sound b)(ht:LTok a 5 t)(hu:LTok b 5 u)(n:ByteArray)(r:List ByteArray):(mkdirR a t fsAll (n :: r)).2.1=(mkdirR b u fsAll (n :: r)).2.1:=by
 unfold mkdirR
 simp only[all_look]
 rcases look_two h r with ⟨h1,h2⟩ | ⟨d,e,ks,ku,h1,h2,h3,h4,h5,h6,h7⟩
 ·rw[if_pos h1,if_pos (by rw[h2];exact h1)];exact h2.symm
 ·rw[h6,h7]
  simp only[ne_eq,not_true_eq_false,if_false]
  rcases h3.pick h4 h5 n with ⟨p1,p2⟩ | ⟨c,c',p1,p2,_⟩
  ·rw[p1,p2,h3.length hA hB (ok_at hA _ ht h1).2.1 (ok_at hB _ hu h2).2.1 h4 h5]
   split <;> (try split) <;> rfl
  ·rw[p1,p2];rfl
theorem open_two {t u:LT}(h:SemEq a fc t b fc' u)(hA:Sound a)(hB:Sound b)(ht:LTok a 5 t)(hu:LTok b 5 u)(n:ByteArray)(r:List ByteArray):(lookE a t r).1=(lookE b u r).1/\((lookE a t r).1=0->openE (lookE a t r).2 n false true=openE (lookE b u r).2 n false true):=by
 rcases look_two h r with ⟨h1,h2⟩ | ⟨d,e,ks,ku,h1,h2,h3,h4,h5,h6,h7⟩
 ·exact⟨h2.symm,fun e=>absurd e h1⟩
 ·rw[h6,h7]
  refine⟨rfl,fun _=>?_⟩
  unfold openE
  rcases h3.pick h4 h5 n with ⟨p1,p2⟩ | ⟨c,c',p1,p2,hs⟩
  ·simp only[p1,p2,h3.length hA hB (ok_at hA _ ht h1).2.1 (ok_at hB _ hu h2).2.1 h4 h5]
  ·simp only[p1,p2,hs.kind]
theorem remove_two {t u:LT}(h:SemEq a fc t b fc' u)(hA:Sound a)(hB:Sound b)(ht:LTok a 5 t)(hu:LTok b 5 u)(n:ByteArray)(r:List ByteArray):(removeR a t fsAll (n :: r)).2.1=(removeR b u fsAll (n :: r)).2.1:=by
 unfold removeR
 simp only[all_find]
 obtain⟨h1,h2⟩:=find_two h (n :: r)
 by_cases h0:(findE a t (n :: r)).1≠0
 ·rw[if_pos h0,if_pos (by rw[<- h1];exact h0)];exact h1
 ·have h0':¬ (findE b u (n :: r)).1≠0:=by rw[<- h1];exact h0
  rw[if_neg h0,if_neg h0']
  have z:=Decidable.not_not.1 h0
  have hv:=vacant_two (h2 z) hA hB (ok_at hA _ ht (find_at z)).2.1 (ok_at hB _ hu (find_at (h1 ▸ z))).2.1
  rw[hv]
  split <;> rfl
theorem rename_two {t u:LT}(h:SemEq a fc t b fc' u)(hXa:Exact a)(hXb:Exact b)(ht:LTok a 5 t)(hu:LTok b 5 u)(n m:ByteArray)(r q:List ByteArray):(renameR a t fsAll (n :: r) (m :: q)).2.1=(renameR b u fsAll (n :: r) (m :: q)).2.1:=by
 have hA:=hXa.sound
 have hB:=hXb.sound
 unfold renameR
 simp only[all_find,all_look]
 obtain⟨h1,h2⟩:=find_two h (n :: r)
 by_cases h0:(findE a t (n :: r)).1≠0
 ·rw[if_pos h0,if_pos (by rw[<- h1];exact h0)];exact h1
 ·have h0':¬ (findE b u (n :: r)).1≠0:=by rw[<- h1];exact h0
  rw[if_neg h0,if_neg h0']
  have z:=Decidable.not_not.1 h0
  have hs:=h2 z
  have oa:=(ok_at hA _ ht (find_at z)).2.1
  have ob:=(ok_at hB _ hu (find_at (h1 ▸ z))).2.1
  have hg:=hgt_two hXa hXb _ 5 _ _ (by omega) oa ob hs
  split
  ·rfl
  ·rcases look_two h q with ⟨l1,l2⟩ | ⟨d,e,ks,ku,l1,l2,l3,l4,l5,l6,l7⟩
   ·rw[if_pos (.inl l1),if_pos (.inl (by rw[l2];exact l1))];exact l2.symm
   ·rw[l6,l7]
    simp only[ne_eq,not_true_eq_false,false_or]
    split
    ·rfl
    ·have hroom:(roomG a fsAll (decide (r=q)) ks m (findE a t (n :: r)).2).2=(roomG b fsAll (decide (r=q)) ku m (findE b u (n :: r)).2).2:=by
      unfold roomG
      rcases l3.pick l4 l5 m with ⟨p1,p2⟩ | ⟨c,c',p1,p2,hs'⟩
      ·rw[p1,p2]
       simp only[l3.length hA hB (ok_at hA _ ht l1).2.1 (ok_at hB _ hu l2).2.1 l4 l5]
      ·rw[p1,p2]
       simp only
       unfold yieldsG
       have hca:t.at a (q.reverse ++ [m])=some c:=by rw[at_kid l1 l4,p1,Option.bind_some,at_nil]
       have hcb:u.at b (q.reverse ++ [m])=some c':=by rw[at_kid l2 l5,p2,Option.bind_some,at_nil]
       rw[hs'.kind,hs.kind]
       split
       ·rfl
       ·split
        ·rfl
        ·exact vacant_two hs' hA hB (ok_at hA _ ht hca).2.1 (ok_at hB _ hu hcb).2.1
     rw[hroom,hg]
     split
     ·rfl
     ·split <;> rfl
theorem step_two {g g' h h':WG}{t t' u u':LT}(hXa:Exact a)(hXb:Exact b)(ht:LTok a 5 t)(hu:LTok b 5 u)(hht:∀ x f,t.at a x=some (.held f)->∃ y,g.fl f=some y)(hhu:∀ x f,u.at b x=some (.held f)->∃ y,h.fl f=some y)(hit:HeldInj a t)(hiu:HeldInj b u)(hbt:g.fs.brk=false)(hbu:h.fs.brk=false)
  (hs:SemEq a (fcOf a g.fl) t b (fcOf b h.fl) u){k:Int}{na nb:ByteArray}{ra rb:List ByteArray}{d:ByteArray}{er er':Int}(h1:StepTo a g t k na nb ra rb d er g' t')(h2:StepTo b h u k na nb ra rb d er' h' u'):er=er'/\SemEq a (fcOf a g'.fl) t' b (fcOf b h'.fl) u':=by
 have hA:=hXa.sound
 have hB:=hXb.sound
 obtain⟨_,a2,a3⟩:=step_sem hA ht hht hit hbt h1
 obtain⟨_,b2,b3⟩:=step_sem hB hu hhu hiu hbu h2
 have hcode:er=er':=by
  rcases h1 with ⟨k1,_,_,h1⟩ | ⟨k1,e1,_⟩ | ⟨k1,e1,_⟩ | ⟨k1,e1,_⟩ <;> rcases h2 with ⟨k2,_,_,h2⟩ | ⟨k2,e2,_⟩ | ⟨k2,e2,_⟩ | ⟨k2,e2,_⟩ <;> try omega
  ·rw[look_nobrk hbt] at h1
   rw[look_nobrk hbu] at h2
   obtain⟨o1,o2⟩:=open_two hs hA hB ht hu na ra
   rcases h1 with ⟨x0,x1,_⟩ | ⟨x0,x1,x2,_⟩ | ⟨x0,x1,x2,_⟩ <;> rcases h2 with ⟨y0,y1,_⟩ | ⟨y0,y1,y2,_⟩ | ⟨y0,y1,y2,_⟩
   ·rw[x1,y1];exact o1
   ·exact absurd (o1.trans y0) x0
   ·exact absurd (o1.trans y0) x0
   ·exact absurd (o1.symm.trans x0) y0
   ·rw[x2,y2];exact o2 x0
   ·exact absurd ((o2 x0).trans y1) x1
   ·exact absurd (o1.symm.trans x0) y0
   ·exact absurd ((o2 x0).symm.trans x1) y1
   ·rw[x2,y2]
  ·rw[e1,e2,fair_nobrk (fair_mkdir a t g.fs (na :: ra)) hbt,fair_nobrk (fair_mkdir b u h.fs (na :: ra)) hbu]
   exact mkdir_two hs hA hB ht hu na ra
  ·rw[e1,e2,fair_nobrk (fair_remove a t g.fs (na :: ra)) hbt,fair_nobrk (fair_remove b u h.fs (na :: ra)) hbu]
   exact remove_two hs hA hB ht hu na ra
  ·rw[e1,e2,fair_nobrk (fair_rename a t g.fs (na :: ra) (nb :: rb)) hbt,fair_nobrk (fair_rename b u h.fs (na :: ra) (nb :: rb)) hbu]
   exact rename_two hs hXa hXb ht hu na nb ra rb
 refine⟨hcode,fun x=>?_⟩
 by_cases e:er=0
 ·rw[(a3 e).1 x,(b3 (hcode ▸ e)).1 x]
  have:sem a (fcOf a g.fl) t=sem b (fcOf b h.fl) u:=funext hs
  rw[this]
 ·obtain⟨q1,q2⟩:=a2 e
  obtain⟨r1,r2⟩:=b2 (hcode ▸ e)
  rw[q1,q2,r1,r2]
  exact hs x
end
theorem joinB_inj {y p:List ByteArray}(hy:y ≠ [])(hp:p ≠ [])(vy:Valids y)(vp:Valids p)(h:joinB y=joinB p):y=p:=by
 have no:∀ {l:List ByteArray},Valids l->∀ x ∈ l.map toL,∀ c ∈ x,c≠47:=fun hv x hx c hc=>by
  obtain⟨z,hz,rfl⟩:=List.mem_map.1 hx
  exact name_no47 (hv z hz) c hc
 have e:joinL (y.map toL)=joinL (p.map toL):=by
  have:=congrArg toL h
  exact this
 have e2:=congrArg splitL e
 rw[split_joinL _ (by simpa using hy) (no vy),split_joinL _ (by simpa using hp) (no vp)] at e2
 exact (List.map_inj_right (fun a b h=>toL_inj h)).1 e2
end Go.Proofs.YtajopoddmfdejaaGreat
