/-
  What is proved here: what a step makes of what is read, and that two workspaces that read the same answer a step the same and read the same behind it. what a step makes of what is read; two workspaces that read ..
-/
import Derived.Test.YtajopoddmfdejaaGreatToldM40
import Derived.Test.YtajopoddmfdejaaGreatToldM39
import Derived.Test.YtajopoddmfdejaaGreatToldM36
namespace Go.Proofs.YtajopoddmfdejaaGreat
open Go.RowKit Go.Sort Go.Shelf
set_option linter.unusedVariables false
set_option maxRecDepth 100000
set_option maxHeartbeats 16000000
def stepS (k:Int)(p p':List ByteArray)(d:ByteArray)(S:List ByteArray->Option Nd)(x:List ByteArray):Option Nd:=
 if k<3 then (if x=p then some (.file d) else if p <+: x then none else S x)
 else if k=3 then (if x=p then some .dir else if p <+: x then none else S x)
 else if k=4 then (if p <+: x then none else S x)
 else if p=p' then S x else if p' <+: x then S (p++x.drop p'.length) else if p <+: x then none else S x
theorem fair_nobrk {β:Type}{fs fs':FS}{x all none:β}(h:Fair fs fs' x all none)(hb:fs.brk=false):x=all:=by
 rcases h with ⟨_,h⟩ | ⟨h,_⟩
 ·exact h
 ·rw[h.1] at hb;cases hb
section
variable {a:List Ob}{fc:FileC}
theorem sem_leaf (f:Nat)(x:List ByteArray):sem a fc (.held f) x=if x = [] then some (.file (fc f)) else none:=by
 cases x with
 | nil=>rw[sem_nil];rfl
 | cons n r=>rw[sem_cons,if_neg (by simp)];rfl
theorem sem_empty (x:List ByteArray):sem a fc (.own []) x=if x = [] then some .dir else none:=by
 cases x with
 | nil=>rw[sem_nil];rfl
 | cons n r=>rw[sem_cons,if_neg (by simp)];rfl
theorem look_not14 {t:LT}{r:List ByteArray}:(lookE a t r).1≠14:=by
 unfold lookE
 simp only
 rcases find_sem a (fun _=>⟨#[]⟩) t r with ⟨h,_⟩ | ⟨h,_,h2⟩
 ·rw[if_neg (by simp[h])];exact kidsE_not14 _ _
 ·rw[if_pos h]
  show (findE a t r).1≠14
  omega
theorem look_atE {t:LT}{r:List ByteArray}(h:(lookE a t r).1=0):∃ d,t.at a r.reverse=some d/\kids a d=some (lookE a t r).2:=by
 have:=look_at (objs:=a) (t:=t) (fs:=fsAll) (r:=r) (by rw[all_look];exact h)
 rw[all_look] at this
 exact this
theorem put_sem {t d c:LT}{q:List ByteArray}{n:ByteArray}{ks:Kids}(ha:t.at a q=some d)(hk:kids a d=some ks)(hr:RisingK ks)(x:List ByteArray):
  sem a fc (modG a (fun ks=>putK ks n c) q t) x=if q ++ [n] <+: x then sem a fc c (x.drop (q ++ [n]).length) else sem a fc t x:=by
 obtain⟨p1,p2⟩:=sem_put (fc:=fc) (n:=n) hr ha hk c
 by_cases hx:(q ++ [n]) <+: x
 ·rw[if_pos hx]
  obtain⟨r,rfl⟩:=hx
  rw[List.drop_left,show q ++ [n]++r=q++n :: r by simp,p1]
 ·rw[if_neg hx,p2 x hx]
theorem drop_nil_iff {p x:List ByteArray}(h:p <+: x):x.drop p.length = []↔x=p:=by
 obtain⟨r,rfl⟩:=h
 rw[List.drop_left]
 constructor
 ·rintro rfl;simp
 ·intro e;simpa using e
theorem code_mkdir {t:LT}(hS:Sound a)(hok:LTok a 5 t)(n:ByteArray)(r:List ByteArray){er:Int}{t':LT}(h:(mkdirR a t fsAll (n :: r)).2=(er,t')):
  er≠14/\(er≠0->t'=t)/\(er=0->sem a fc t (r.reverse ++ [n])=none/\∀ x,sem a fc t' x=if x=r.reverse ++ [n] then some .dir else if r.reverse ++ [n] <+: x then none else sem a fc t x):=by
 unfold mkdirR at h
 simp only[all_look] at h
 split at h
 ·rename_i h0
  cases h
  exact⟨look_not14,fun _=>rfl,fun e=>absurd e h0⟩
 ·rename_i h0
  have z:=Decidable.not_not.1 h0
  obtain⟨d,ha,hk⟩:=look_atE z
  have hr:=(ok_kids hS (ok_at hS _ hok ha).2.1 hk).1
  split at h
  ·cases h;exact⟨by decide,fun _=>rfl,fun e=>by cases e⟩
  ·rename_i hp
   split at h
   ·cases h;exact⟨by decide,fun _=>rfl,fun e=>by cases e⟩
   ·cases h
    refine⟨by decide,fun e=>absurd rfl e,fun _=>⟨?_,fun x=>?_⟩⟩
    ·rw[sem_kid ha hk]
     cases hpk:pickK (lookE a t r).2 n with
     | none=>rfl
     | some c=>rw[hpk] at hp;exact absurd rfl hp
    ·rw[put_sem ha hk hr,sem_empty]
     by_cases hx:r.reverse ++ [n] <+: x
     ·rw[if_pos hx]
      by_cases e:x=r.reverse ++ [n]
      ·rw[if_pos ((drop_nil_iff hx).2 e),if_pos e]
      ·rw[if_neg (fun h=>e ((drop_nil_iff hx).1 h)),if_neg e,if_pos hx]
     ·rw[if_neg hx,if_neg (fun e=>hx (by rw[e];exact List.prefix_refl _)),if_neg hx]
theorem find_way2 {t:LT}{n:ByteArray}{r:List ByteArray}(h:(findE a t (n :: r)).1=0):∃ d ks,t.at a r.reverse=some d/\kids a d=some ks/\pickK ks n=some (findE a t (n :: r)).2/\t.at a (r.reverse ++ [n])=some (findE a t (n :: r)).2:=by
 have:=find_at h
 rw[List.reverse_cons] at this
 obtain⟨d,ks,h1,h2,h3⟩:=at_snoc this
 exact⟨d,ks,h1,h2,h3,this⟩
theorem find_not14 {t:LT}{r:List ByteArray}:(findE a t r).1≠14:=by
 rcases find_sem a (fun _=>⟨#[]⟩) t r with ⟨h,_⟩ | ⟨h,_,h2⟩ <;> omega
theorem vacant_code (c:LT):(vacantG a fsAll c).2=0\/(vacantG a fsAll c).2=5\/(vacantG a fsAll c).2=8:=by
 unfold vacantG
 simp only[all_kids]
 split
 ·exact .inl rfl
 ·split
  ·exact .inr (.inr rfl)
  ·show (kidsE a c).1=0\/(kidsE a c).1=5\/(kidsE a c).1=8
   cases c <;> simp[kidsE]
theorem room_code (b:Bool)(ks:Kids)(n:ByteArray)(c:LT):(roomG a fsAll b ks n c).2≠14:=by
 unfold roomG
 cases pickK ks n with
 | none=>simp only;split <;> simp
 | some e=>
  simp only
  unfold yieldsG
  split
  ·simp
  ·split
   ·simp
   ·have:=vacant_code (a:=a) e
    omega
theorem code_remove {t:LT}(hS:Sound a)(hok:LTok a 5 t)(n:ByteArray)(r:List ByteArray){er:Int}{t':LT}(h:(removeR a t fsAll (n :: r)).2=(er,t')):
  er≠14/\(er≠0->t'=t)/\(er=0->sem a fc t (r.reverse ++ [n])≠none/\∀ x,sem a fc t' x=if r.reverse ++ [n] <+: x then none else sem a fc t x):=by
 unfold removeR at h
 simp only[all_find] at h
 split at h
 ·rename_i h0
  cases h
  exact⟨find_not14,fun _=>rfl,fun e=>absurd e h0⟩
 ·rename_i h0
  have z:=Decidable.not_not.1 h0
  obtain⟨d,ks,ha,hk,hp,hat⟩:=find_way2 z
  have hr:=(ok_kids hS (ok_at hS _ hok ha).2.1 hk).1
  split at h
  ·rename_i hv
   cases h
   have:=vacant_code (a:=a) (findE a t (n :: r)).2
   exact⟨by omega,fun _=>rfl,fun e=>absurd e hv⟩
  ·cases h
   obtain⟨s1,s2⟩:=sem_drop (fc:=fc) hr (by rw[<- pick_there hr,hp];rfl) ha hk
   refine⟨by decide,fun e=>absurd rfl e,fun _=>⟨by unfold sem;rw[hat];simp,fun x=>?_⟩⟩
   by_cases hx:r.reverse ++ [n] <+: x
   ·rw[if_pos hx]
    obtain⟨y,rfl⟩:=hx
    rw[show r.reverse ++ [n]++y=r.reverse++n :: y by simp,s1]
   ·rw[if_neg hx,s2 x hx]
theorem code_rename {t:LT}(hS:Sound a)(hok:LTok a 5 t)(n m:ByteArray)(r q:List ByteArray){er:Int}{t':LT}(h:(renameR a t fsAll (n :: r) (m :: q)).2=(er,t')):
  er≠14/\(er≠0->t'=t)/\(er=0->sem a fc t (r.reverse ++ [n])≠none/\(r.reverse ++ [n]≠q.reverse ++ [m]->¬ r.reverse ++ [n] <+: q.reverse ++ [m])/\∀ x,sem a fc t' x=if r.reverse ++ [n]=q.reverse ++ [m] then sem a fc t x else if q.reverse ++ [m] <+: x then sem a fc t (r.reverse ++ [n]++x.drop (q.reverse ++ [m]).length) else if r.reverse ++ [n] <+: x then none else sem a fc t x):=by
 have hinj:n :: r=m :: q↔r.reverse ++ [n]=q.reverse ++ [m]:=by
  rw[<- List.reverse_cons,<- List.reverse_cons]
  exact⟨fun e=>by rw[e],fun e=>List.reverse_inj.1 e⟩
 unfold renameR at h
 simp only[all_find,all_look,List.reverse_cons] at h
 split at h
 ·rename_i h0
  cases h
  exact⟨find_not14,fun _=>rfl,fun e=>absurd e h0⟩
 ·rename_i h0
  have z:=Decidable.not_not.1 h0
  obtain⟨d,ks,ha,hk,hp,hat⟩:=find_way2 z
  have hr:=(ok_kids hS (ok_at hS _ hok ha).2.1 hk).1
  have hne:sem a fc t (r.reverse ++ [n])≠none:=by unfold sem;rw[hat];simp
  split at h
  ·cases h;exact⟨by decide,fun _=>rfl,fun e=>by cases e⟩
  ·rename_i hpre
   split at h
   ·rename_i hl
    cases h
    refine⟨look_not14,fun _=>rfl,fun e=>?_⟩
    rcases hl with hl | hl
    ·exact absurd e hl
    ·exact⟨hne,fun h=>absurd (hinj.1 hl) h,fun x=>by rw[if_pos (hinj.1 hl)]⟩
   ·rename_i hl
    have hl0:(lookE a t q).1=0:=Decidable.not_not.1 (fun h=>hl (.inl h))
    have hle:¬ n :: r=m :: q:=fun h=>hl (.inr h)
    have hnp:¬ r.reverse ++ [n] <+: q.reverse ++ [m]:=fun h=>hpre ⟨h,hle⟩
    split at h
    ·rename_i hv
     cases h
     exact⟨room_code _ _ _ _,fun _=>rfl,fun e=>absurd e hv⟩
    ·split at h
     ·cases h;exact⟨by decide,fun _=>rfl,fun e=>by cases e⟩
     ·cases h
      obtain⟨dt,hat',hkt⟩:=look_atE hl0
      refine⟨by decide,fun e=>absurd rfl e,fun _=>⟨hne,fun _=>hnp,fun x=>?_⟩⟩
      rw[if_neg (fun e=>hle (hinj.2 e))]
      exact sem_rename (fc:=fc) hS hok ha hk hp hat' hkt hnp x
end
section
variable {a:List Ob}
theorem code_put {g g':WG}{t t':LT}(hS:Sound a)(hok:LTok a 5 t)(hheld:∀ x f,t.at a x=some (.held f)->∃ y,g.fl f=some y)(hinj:HeldInj a t)(hbr:g.fs.brk=false){n:ByteArray}{r:List ByteArray}{d:ByteArray}{er:Int}(h:PutTo a g t n r d er g' t'):
  er≠14/\(er≠0->t'=t/\g'.fl=g.fl)/\(er=0->∀ x,sem a (fcOf a g'.fl) t' x=if x=r.reverse ++ [n] then some (.file d) else if r.reverse ++ [n] <+: x then none else sem a (fcOf a g.fl) t x):=by
 obtain⟨_,_,h⟩:=h
 rw[look_nobrk hbr] at h
 rcases h with ⟨h0,he,ht,hf⟩ | ⟨h0,h1,he,ht,hf⟩ | ⟨h0,h1,he,f,hf,hx,hh⟩
 ·rw[he];exact⟨look_not14,fun _=>⟨ht,hf⟩,fun e=>absurd e h0⟩
 ·rw[he]
  refine⟨?_,fun _=>⟨ht,hf⟩,fun e=>absurd e h1⟩
  unfold openE
  cases pickK (lookE a t r).2 n with
  | none=>simp only;split <;> (try split) <;> simp
  | some c=>simp only;split <;> (try split) <;> simp
 ·subst he
  refine⟨by decide,fun e=>absurd rfl e,fun _ x=>?_⟩
  obtain⟨dd,had,hkd⟩:=look_atE h0
  have hr:=(ok_kids hS (ok_at hS _ hok had).2.1 hkd).1
  have hff:fcOf a g'.fl f=d:=by unfold fcOf;rw[hf];simp
  rcases hh with ⟨hp,rfl⟩ | ⟨_,hfn,rfl⟩
  ·have hat:t'.at a (r.reverse ++ [n])=some (.held f):=by rw[at_kid had hkd,hp,Option.bind_some,at_nil]
   by_cases e:x=r.reverse ++ [n]
   ·rw[if_pos e,e]
    unfold sem
    rw[hat,Option.map_some,nd,hff]
   ·rw[if_neg e]
    by_cases hx2:r.reverse ++ [n] <+: x
    ·rw[if_pos hx2]
     obtain⟨y,rfl⟩:=hx2
     cases y with
     | nil=>exact absurd (by simp) e
     | cons z y=>
      unfold sem
      rw[at_append,hat,Option.bind_some,at_cons];rfl
    ·rw[if_neg hx2]
     unfold sem
     cases hc:t'.at a x with
     | none=>rfl
     | some c=>
      cases c with
      | file i=>rfl
      | dir i=>rfl
      | own es=>rfl
      | held f'=>
       have hne:f'≠f:=fun e'=>by
        subst e'
        exact e (hinj x _ f' hc hat)
       simp only[Option.map_some,nd]
       unfold fcOf
       rw[hx f' hne]
  ·have hfc:∀ y f',t.at a y=some (.held f')->fcOf a g'.fl f'=fcOf a g.fl f':=fun y f' hy=>by
    obtain⟨z,hz⟩:=hheld y f' hy
    have hne:f'≠f:=fun e'=>by rw[e',hfn] at hz;cases hz
    unfold fcOf
    rw[hx f' hne]
   rw[put_sem had hkd hr,sem_leaf,hff,sem_fc hfc x]
   by_cases hx2:r.reverse ++ [n] <+: x
   ·rw[if_pos hx2]
    by_cases e:x=r.reverse ++ [n]
    ·rw[if_pos ((drop_nil_iff hx2).2 e),if_pos e]
    ·rw[if_neg (fun h=>e ((drop_nil_iff hx2).1 h)),if_neg e,if_pos hx2]
   ·rw[if_neg hx2,if_neg (fun e=>hx2 (by rw[e];exact List.prefix_refl _)),if_neg hx2]
theorem step_sem {g g':WG}{t t':LT}(hS:Sound a)(hok:LTok a 5 t)(hheld:∀ x f,t.at a x=some (.held f)->∃ y,g.fl f=some y)(hinj:HeldInj a t)(hbr:g.fs.brk=false){k:Int}{na nb:ByteArray}{ra rb:List ByteArray}{d:ByteArray}{er:Int}(h:StepTo a g t k na nb ra rb d er g' t'):
  er≠14/\(er≠0->t'=t/\g'.fl=g.fl)/\(er=0->(∀ x,sem a (fcOf a g'.fl) t' x=stepS k (ra.reverse ++ [na]) (rb.reverse ++ [nb]) d (sem a (fcOf a g.fl) t) x)/\(k=3->sem a (fcOf a g.fl) t (ra.reverse ++ [na])=none)/\(k=4->sem a (fcOf a g.fl) t (ra.reverse ++ [na])≠none)/\(k=5->sem a (fcOf a g.fl) t (ra.reverse ++ [na])≠none/\(ra.reverse ++ [na]≠rb.reverse ++ [nb]->¬ ra.reverse ++ [na] <+: rb.reverse ++ [nb]))):=by
 rcases h with ⟨hk,h⟩ | ⟨hk,he,ht,_,hf,_⟩ | ⟨hk,he,ht,_,hf,_⟩ | ⟨hk,he,ht,_,hf,_⟩
 ·obtain⟨h1,h2,h3⟩:=code_put hS hok hheld hinj hbr h
  refine⟨h1,h2,fun e=>⟨fun x=>?_,fun e=>by omega,fun e=>by omega,fun e=>by omega⟩⟩
  rw[h3 e x]
  unfold stepS
  rw[if_pos hk]
 ·have hm:=fair_nobrk (fair_mkdir a t g.fs (na :: ra)) hbr
  obtain⟨h1,h2,h3⟩:=code_mkdir (fc:=fcOf a g.fl) hS hok na ra (er:=er) (t':=t') (by rw[<- hm,he,ht])
  refine⟨h1,fun e=>⟨h2 e,hf⟩,fun e=>⟨fun x=>?_,fun _=>(h3 e).1,fun e=>by omega,fun e=>by omega⟩⟩
  rw[hf,(h3 e).2 x]
  have e1:¬ k<3:=by omega
  unfold stepS
  rw[if_neg e1,if_pos hk]
 ·have hm:=fair_nobrk (fair_remove a t g.fs (na :: ra)) hbr
  obtain⟨h1,h2,h3⟩:=code_remove (fc:=fcOf a g.fl) hS hok na ra (er:=er) (t':=t') (by rw[<- hm,he,ht])
  refine⟨h1,fun e=>⟨h2 e,hf⟩,fun e=>⟨fun x=>?_,fun e=>by omega,fun _=>(h3 e).1,fun e=>by omega⟩⟩
  rw[hf,(h3 e).2 x]
  have e1:¬ k<3:=by omega
  have e2:¬ k=3:=by omega
  unfold stepS
  rw[if_neg e1,if_neg e2,if_pos hk]
 ·have hm:=fair_nobrk (fair_rename a t g.fs (na :: ra) (nb :: rb)) hbr
  obtain⟨h1,h2,h3⟩:=code_rename (fc:=fcOf a g.fl) hS hok na nb ra rb (er:=er) (t':=t') (by rw[<- hm,he,ht])
  refine⟨h1,fun e=>⟨h2 e,hf⟩,fun e=>⟨fun x=>?_,fun e=>by omega,fun e=>by omega,fun _=>⟨(h3 e).1,(h3 e).2.1⟩⟩⟩
  rw[hf,(h3 e).2.2 x]
  have e1:¬ k<3:=by omega
  have e2:¬ k=3:=by omega
  have e3:¬ k=4:=by omega
  unfold stepS
  rw[if_neg e1,if_neg e2,if_neg e3]
theorem step_inj {g g':WG}{t t':LT}(hS:Sound a)(hok:LTok a 5 t)(hheld:∀ x f,t.at a x=some (.held f)->∃ y,g.fl f=some y)(hinj:HeldInj a t){k:Int}{na nb:ByteArray}{ra rb:List ByteArray}{d:ByteArray}{er:Int}(hra:ra.length<=4)(hrb:rb.length<=4)(h:StepTo a g t k na nb ra rb d er g' t'):HeldInj a t'/\big a 5 t'<=big a 5 t+1:=by
 rcases h with ⟨_,_,_,⟨_,_,h2,h3⟩ | ⟨_,_,_,h2,h3⟩ | ⟨h0,_,_,f,hf,hx,hh⟩⟩ | ⟨_,_,h1,_,h3,_⟩ | ⟨_,_,h1,_,h3,_⟩ | ⟨_,_,h1,_,h3,_⟩
 ·rw[h2];exact⟨hinj,by omega⟩
 ·rw[h2];exact⟨hinj,by omega⟩
 ·obtain⟨dd,had,hkd⟩:=look_at h0
  have hr:=(ok_kids hS (ok_at hS _ hok had).2.1 hkd).1
  rcases hh with ⟨hp,rfl⟩ | ⟨_,hfn,rfl⟩
  ·exact⟨hinj,by omega⟩
  ·have hheld0:∀ r b,(LT.held f).at a r=some (.held b)->r = []/\b=f:=by
    intro r b hr
    cases r with
    | nil=>rw[at_nil] at hr;cases hr;exact⟨rfl,rfl⟩
    | cons m r=>rw[at_cons] at hr;simp[kids] at hr
   refine⟨inj_put hinj hr had hkd (fun x y b h1 h2=>by rw[(hheld0 x b h1).1,(hheld0 y b h2).1]) (fun r b y h1 h2=>?_),?_⟩
   ·obtain⟨_,rfl⟩:=hheld0 r b h1
    obtain⟨z,hz⟩:=hheld y b h2
    rw[hfn] at hz;cases hz
   ·have hb1:∀ k,big a k (.held f)=1:=by intro k;cases k <;> (rw[big];try rfl)
    have:=big_put hS (c:=.held f) hok had hkd (by simpa using hra) na
    rw[hb1] at this
    omega
 ·rw[h1];exact⟨inj_mkdir hS hok hinj _ _ _,big_mkdir hS hok g.fs (n:=na) hra⟩
 ·rw[h1];exact⟨inj_remove hS hok hinj _ _ _,by have:=big_remove hS hok g.fs (n:=na) (r:=ra);omega⟩
 ·rw[h1];exact⟨inj_rename hS hok hinj _ _ _ _ _,by have:=big_rename hS hok g.fs (n:=na) (m:=nb) (r:=ra) hrb;omega⟩
end
section
variable {a b:List Ob}{fc fc':FileC}
end
theorem joinB_inj {y p:List ByteArray}(hy:y ≠ [])(hp:p ≠ [])(vy:Valids y)(vp:Valids p)(h:joinB y=joinB p):y=p:=by
 have no:∀ {l:List ByteArray},Valids l->∀ x ∈ l.map toL,∀ c ∈ x,c≠47:=fun hv x hx c hc=>by
  obtain⟨z,hz,rfl⟩:=List.mem_map.1 hx
  exact name_no47 (hv z hz) c hc
 have e:joinL (y.map toL)=joinL (p.map toL):=by
  have:=congrArg toL h
  exact this
 have e2:=congrArg splitL e
 rw[split_joinL _ (by simpa using hy) (no vy),split_joinL _ (by simpa using hp) (no vp)] at e2
 exact (List.map_inj_right (fun a b h=>toL_inj h)).1 e2
def ndK:Nd->Int
 | .dir=>2
 | .file _=>1
theorem ndK_nd (a:List Ob)(fc:FileC)(t:LT):ndK (nd a fc t)=t.kind:=by cases t <;> rfl
def thingAt (q:List ByteArray)(x:Nd):Thing8:=(joinB q,ndK x,ndD x)
theorem things_mem {a:List Ob}(hS:Sound a){fc:FileC}:∀ (n:Nat) (q:List ByteArray) (t:LT),LTok a n t->∀ z,z ∈ thingsR a fc n q t ↔ ∃ y x,y ≠ []/\sem a fc t y=some x/\z=thingAt (q++y) x
 | 0,q,t,ht,z=>by
  rw[thingsR]
  constructor
  ·intro h;cases h
  ·rintro ⟨y,x,hy,hs,_⟩
   unfold sem at hs
   obtain⟨c,hc,_⟩:=Option.map_eq_some_iff.1 hs
   have:=(ok_at hS _ ht hc).1
   exact absurd (List.length_eq_zero_iff.1 (by omega)) hy
 | n+1,q,t,ht,z=>by
  by_cases hk:t.kind=2
  ·obtain⟨ks,hks⟩:=kids_some (a:=a) hk
   obtain⟨hr,_,hkid⟩:=ok_kids hS ht hks
   rw[things_succ hks,List.mem_flatMap]
   have hpick:∀ w ∈ ks,pickK ks w.1=some w.2:=fun w hw=>by
    obtain⟨k,hk,rfl⟩:=List.getElem_of_mem hw
    exact pick_getK hr hk
   constructor
   ·rintro ⟨w,hw,hz⟩
    unfold thingsX at hz
    obtain⟨m,e,o⟩:=(hkid w hw).2
    have e':m=n:=by omega
    subst e'
    rcases List.mem_cons.1 hz with hz | hz
    ·refine⟨[w.1],nd a fc w.2,by simp,?_,?_⟩
     ·rw[sem_cons,hks,Option.bind_some,hpick w hw,Option.bind_some,sem_nil]
     ·rw[hz];unfold thingAt;rw[ndK_nd]
    ·split at hz
     ·obtain⟨y,x,hy,hs,e⟩:=(things_mem hS m (q ++ [w.1]) w.2 o z).1 hz
      refine⟨w.1 :: y,x,by simp,?_,?_⟩
      ·rw[sem_cons,hks,Option.bind_some,hpick w hw,Option.bind_some];exact hs
      ·rw[e,List.append_assoc];rfl
     ·cases hz
   ·rintro ⟨y,x,hy,hs,e⟩
    cases y with
    | nil=>exact absurd rfl hy
    | cons b y=>
     rw[sem_cons,hks,Option.bind_some] at hs
     obtain⟨c,hc,hs⟩:=Option.bind_eq_some_iff.1 hs
     have hmem:∃ w ∈ ks,w.1=b/\w.2=c:=by
      unfold pickK at hc
      obtain⟨w,hw,e2⟩:=Option.map_eq_some_iff.1 hc
      exact⟨w,List.mem_of_find?_eq_some hw,by simpa using List.find?_some hw,e2⟩
     obtain⟨w,hw,rfl,rfl⟩:=hmem
     obtain⟨m,e1,o⟩:=(hkid w hw).2
     have e':m=n:=by omega
     subst e'
     refine⟨w,hw,?_⟩
     unfold thingsX
     cases y with
     | nil=>
      rw[sem_nil] at hs
      rw[e,<- Option.some.inj hs]
      unfold thingAt
      rw[ndK_nd]
      exact List.mem_cons_self ..
     | cons b2 y=>
      refine List.mem_cons_of_mem _ ?_
      have hk2:w.2.kind=2:=by
       by_cases h2:w.2.kind=2
       ·exact h2
       ·rw[sem_cons,kids_none h2] at hs;cases hs
      rw[if_pos hk2]
      exact (things_mem hS m (q ++ [w.1]) w.2 o z).2 ⟨b2 :: y,x,by simp,hs,by rw[e,List.append_assoc];rfl⟩
  ·rw[thingsR,kids_none hk]
   constructor
   ·intro h;cases h
   ·rintro ⟨y,x,hy,hs,_⟩
    cases y with
    | nil=>exact absurd rfl hy
    | cons b y=>rw[sem_cons,kids_none hk] at hs;cases hs
def findT (L:List Thing8)(P:ByteArray):Option Thing8:=L.find? fun x=>decide (x.1=P)
theorem find_things {a:List Ob}(hS:Sound a){fc:FileC}{t:LT}(ht:LTok a 5 t){p:List ByteArray}(hp:p ≠ [])(hG:Good p):findT (thingsR a fc 5 [] t) (joinB p)=(sem a fc t p).map (thingAt p):=by
 have hinj:∀ y x,y ≠ []->sem a fc t y=some x->joinB y=joinB p->y=p:=fun y x hy hs e=>by
  unfold sem at hs
  obtain⟨c,hc,_⟩:=Option.map_eq_some_iff.1 hs
  obtain⟨h1,_,h3⟩:=ok_at hS _ ht hc
  exact joinB_inj hy hp h3 hG.val e
 unfold findT
 cases hf:(thingsR a fc 5 [] t).find? fun x=>decide (x.1=joinB p) with
 | none=>
  cases hs:sem a fc t p with
  | none=>rfl
  | some x=>
   have:=List.find?_eq_none.1 hf (thingAt p x) ((things_mem hS 5 [] t ht _).2 ⟨p,x,hp,hs,rfl⟩)
   exact absurd (decide_eq_true rfl) this
 | some z=>
  have h1:=List.find?_some hf
  obtain⟨y,x,hy,hs,rfl⟩:=(things_mem hS 5 [] t ht z).1 (List.mem_of_find?_eq_some hf)
  have e:=hinj y x hy hs (of_decide_eq_true h1)
  subst e
  rw[hs]
  rfl
def refOf (k id:Int):LT:=if k=2 then .dir id else .file id
theorem refOf_ent (n:ByteArray)(k id:Int):ltOf (n,k,id)=refOf k id:=rfl
theorem stored8 (a:List Ob):∀ (x:List ByteArray) (t:LT),((∃ i,t=.file i)\/∃ i,t=.dir i)->∀ f,t.at a x≠some (.held f)
 | [],t,h,f,e=>by
  rw[at_nil] at e
  rcases h with ⟨i,rfl⟩ | ⟨i,rfl⟩ <;> cases e
 | n :: r,t,h,f,e=>by
  rw[at_cons] at e
  rcases h with ⟨i,rfl⟩ | ⟨i,rfl⟩
  ·cases e
  ·rw[show kids a (.dir i)=some ((entsOf a i).map kidOf) from rfl,Option.bind_some] at e
   cases hp:pickK ((entsOf a i).map kidOf) n with
   | none=>rw[hp] at e;cases e
   | some c=>
    rw[hp,Option.bind_some] at e
    obtain⟨y,hy,hc⟩:∃ y ∈ entsOf a i,c=ltOf y:=by
     unfold pickK at hp
     obtain⟨z,hz,rfl⟩:=Option.map_eq_some_iff.1 hp
     obtain⟨y,hy,rfl⟩:=List.mem_map.1 (List.mem_of_find?_eq_some hz)
     exact⟨y,hy,rfl⟩
    refine stored8 a r c ?_ f e
    rw[hc]
    unfold ltOf
    split
    ·exact .inr ⟨_,rfl⟩
    ·exact .inl ⟨_,rfl⟩
theorem stored_fc {a:List Ob}{t:LT}(h:(∃ i,t=.file i)\/∃ i,t=.dir i)(fc fc':FileC):SemEq a fc t a fc' t:=fun x=>sem_fc (fun x f hx=>absurd hx (stored8 a x t h f)) x
theorem sem_app {a:List Ob}(hS:Sound a)(l:List Ob)(fc:FileC):∀ (x:List ByteArray) (n:Nat) (t:LT),LTok a n t->sem (a++l) fc t x=sem a fc t x
 | [],n,t,h=>by
  rw[sem_nil,sem_nil]
  cases t with
  | file i=>rw[LTok] at h;simp only[nd];rw[bytesOf_app l (by rw[h];decide)]
  | held f=>rfl
  | dir i=>rfl
  | own es=>rfl
 | m :: r,n,t,h=>by
  have hk:kids (a++l) t=kids a t:=by
   cases t with
   | file i=>rfl
   | held f=>rfl
   | dir i=>rw[LTok] at h;simp only[kids];rw[entsOf_app l (by rw[h.1];decide)]
   | own es=>rfl
  rw[sem_cons,sem_cons,hk]
  cases hkk:kids a t with
  | none=>rfl
  | some ks=>
   rw[Option.bind_some,Option.bind_some]
   cases hp:pickK ks m with
   | none=>rfl
   | some c=>
    rw[Option.bind_some,Option.bind_some]
    have hmem:∃ y ∈ ks,y.2=c:=by
     unfold pickK at hp
     obtain⟨z,hz,e⟩:=Option.map_eq_some_iff.1 hp
     exact⟨z,List.mem_of_find?_eq_some hz,e⟩
    obtain⟨y,hy,e⟩:=hmem
    obtain⟨k,_,hok⟩:=((ok_kids hS h hkk).2.2 y hy).2
    rw[e] at hok
    exact sem_app hS l fc r k c hok
theorem fc_app {a:List Ob}{fl:Nat->Option (Int×ByteArray)}(h:FlSz a fl)(l:List Ob):fcOf (a++l) fl=fcOf a fl:=by
 funext f
 unfold fcOf
 cases hf:fl f with
 | none=>rfl
 | some x=>
  obtain⟨id,d⟩:=x
  simp only
  split
  ·rename_i h0
   rw[bytesOf_app l (by rw[(h f id d hf).1 h0];decide)]
  ·rfl
theorem sem_file (a:List Ob)(fc:FileC)(i:Int)(x:List ByteArray):sem a fc (.file i) x=if x = [] then some (.file (bytesOf a i)) else none:=by
 cases x with
 | nil=>rw[sem_nil];rfl
 | cons n r=>rw[sem_cons,if_neg (by simp)];rfl
theorem sem_held (a:List Ob)(fc:FileC)(f:Nat)(x:List ByteArray):sem a fc (.held f) x=if x = [] then some (.file (fc f)) else none:=by
 cases x with
 | nil=>rw[sem_nil];rfl
 | cons n r=>rw[sem_cons,if_neg (by simp)];rfl
theorem pick_lists {a b:List Ob}{fc fc':FileC}{ks ku:Kids}(hl:ks.length=ku.length)(h:∀ k (h1:k<ks.length) (h2:k<ku.length),(ks[k]).1=(ku[k]).1/\SemEq a fc (ks[k]).2 b fc' (ku[k]).2)(n:ByteArray)(x:List ByteArray):((pickK ks n).bind fun c=>sem a fc c x)=((pickK ku n).bind fun c=>sem b fc' c x):=by
 induction ks generalizing ku with
 | nil=>
  cases ku with
  | nil=>rfl
  | cons y r=>cases hl
 | cons z r ih=>
  cases ku with
  | nil=>cases hl
  | cons y r'=>
   have h0:=h 0 (by simp) (by simp)
   simp only[List.getElem_cons_zero] at h0
   have ihr:=ih (ku:=r') (by simpa using hl) (fun k h1 h2=>by have:=h (k+1) (by simpa using h1) (by simpa using h2);simpa using this)
   unfold pickK at ihr ⊢
   rw[List.find?_cons,List.find?_cons,h0.1]
   by_cases e:y.1=n
   ·simp only[e,decide_true,Option.map_some,Option.bind_some]
    exact h0.2 x
   ·simp only[e,decide_false]
    exact ihr
theorem kids_reads (fl:Nat->Option (Int×ByteArray))(n:Nat)(hn:n<=5)(fc0:FileC)(ih:∀ (c:LT) (a:List Ob),Exact a->LTok a n c->FlSz a fl->SemEq (objR fl n c a).2 fc0 (refOf c.kind (objR fl n c a).1) a (fcOf a fl) c):∀ (l:Kids) (a:List Ob),Exact a->FlSz a fl->(∀ x ∈ l.reverse,validB x.1=true/\LTok a n x.2)->
  (kidsR fl n l.reverse a).1.length=l.reverse.length/\∀ k (h1:k<(kidsR fl n l.reverse a).1.length) (h2:k<l.reverse.length),((kidsR fl n l.reverse a).1[k]).1=(l.reverse[k]).1/\SemEq (kidsR fl n l.reverse a).2 fc0 (ltOf ((kidsR fl n l.reverse a).1[k])) a (fcOf a fl) (l.reverse[k]).2:=by
 intro l
 induction l with
 | nil=>intro a _ _ _;exact⟨rfl,fun k h1=>absurd h1 (Nat.not_lt_zero _)⟩
 | cons x r ihl=>
  intro a he hf hx
  have hv:∀ y ∈ r.reverse,validB y.1=true/\LTok a n y.2:=fun y hy=>hx y (by rw[List.reverse_cons];simp[List.mem_reverse.1 hy])
  obtain⟨i1,i2⟩:=ihl a he hf hv
  obtain⟨k1,k2,k3,k4⟩:=kidsR_ok fl n (fun c a hX hok hfl=>objR_ok fl n hn c a hX hok hfl) r.reverse a he hf hv
  obtain⟨l1,hl1⟩:=k1.app
  obtain⟨_,hok⟩:=hx x (by simp)
  have hok':LTok (kidsR fl n r.reverse a).2 n x.2:=by rw[hl1];exact LTok_app l1 n _ hok
  have hfl':FlSz (kidsR fl n r.reverse a).2 fl:=by rw[hl1];exact hf.app l1
  have hX1:=k1.exact he
  have hob:=objR_ok fl n hn x.2 (kidsR fl n r.reverse a).2 hX1 hok' hfl'
  obtain⟨l2,hl2⟩:=hob.dr.app
  have hsem:=ih x.2 (kidsR fl n r.reverse a).2 hX1 hok' hfl'
  rw[List.reverse_cons,kidsR_snoc]
  simp only
  refine⟨by rw[List.length_append,i1,List.length_append];rfl,fun k h1 h2=>?_⟩
  by_cases hk:k<r.reverse.length
  ·have hk':k<(kidsR fl n r.reverse a).1.length:=by rw[i1];exact hk
   rw[List.getElem_append_left hk',List.getElem_append_left hk]
   obtain⟨j1,j2⟩:=i2 k hk' hk
   refine⟨j1,fun y=>?_⟩
   rw[<- j2 y,hl2]
   obtain⟨_,_,q3,q4⟩:=k3 _ (List.getElem_mem hk')
   refine sem_app hX1.sound l2 fc0 y n _ ?_
   unfold ltOf
   split
   ·rename_i e;rw[LTok];exact⟨by rw[q3,e],q4⟩
   ·rename_i e
    rw[LTok,q3]
    rcases (k3 _ (List.getElem_mem hk')).2.1 with e' | e'
    ·exact e'
    ·exact absurd e' e
  ·have hke:k=r.reverse.length:=by
    rw[List.length_append] at h2
    simp at h2 hk ⊢
    omega
   subst hke
   have e1:((kidsR fl n r.reverse a).1 ++ [(x.1,x.2.kind,(objR fl n x.2 (kidsR fl n r.reverse a).2).1)])[r.reverse.length]'h1=(x.1,x.2.kind,(objR fl n x.2 (kidsR fl n r.reverse a).2).1):=by
    rw[List.getElem_append_right (by rw[i1];exact Nat.le_refl _)]
    simp[i1]
   have e2:(r.reverse ++ [x])[r.reverse.length]'h2=x:=by
    rw[List.getElem_append_right (Nat.le_refl _)]
    simp
   rw[e1,e2]
   refine⟨rfl,fun y=>?_⟩
   rw[refOf_ent,hsem y,hl1,fc_app hf l1]
   exact sem_app he.sound l1 _ y n _ hok
theorem objR_reads (fl:Nat->Option (Int×ByteArray))(fc0:FileC):∀ (n:Nat),n<=5->∀ (c:LT) (a:List Ob),Exact a->LTok a n c->FlSz a fl->SemEq (objR fl n c a).2 fc0 (refOf c.kind (objR fl n c a).1) a (fcOf a fl) c:=by
 have hfd:∀ (n f:Nat) (a:List Ob),Exact a->FlSz a fl->SemEq (heldR (fl f) a).2 fc0 (.file (heldR (fl f) a).1) a (fcOf a fl) (.held f):=by
  intro n f a he hf x
  rw[sem_file,sem_held]
  have:bytesOf (heldR (fl f) a).2 (heldR (fl f) a).1=fcOf a fl f:=by
   unfold fcOf
   cases hx:fl f with
   | none=>exact (fileD_ok he (d:=⟨#[]⟩) (by decide)).2.2.1
   | some y=>
    obtain⟨id,d⟩:=y
    simp only
    by_cases h0:id≠0
    ·rw[if_pos h0,show heldR (some (id,d)) a=(id,a) by simp[heldR,h0]]
    ·rw[if_neg h0,show heldR (some (id,d)) a=fileD a d by simp[heldR,h0]]
     exact (fileD_ok he (d:=d) ((hf f id d hx).2 (Decidable.not_not.1 h0))).2.2.1
  rw[this]
 intro n
 induction n with
 | zero=>
  intro _ c a he hok hf
  cases c with
  | file id=>rw[objR];exact stored_fc (.inl ⟨_,rfl⟩) _ _
  | dir id=>rw[objR];exact stored_fc (.inr ⟨_,rfl⟩) _ _
  | held f=>rw[objR];exact hfd 0 f a he hf
  | own es=>
   have hes:es = []:=by
    cases es with
    | nil=>rfl
    | cons x r=>obtain⟨_,m,e,_⟩:=(ok_kids he.sound hok (ks:=x :: r) rfl).2.2 x (List.mem_cons_self ..);omega
   subst hes
   rw[objR]
   obtain⟨d1,d2,d3,_⟩:=dirD_ok he (es:=[]) (by show (0:Int)<=5;decide) List.Pairwise.nil (by simp) (fun e h=>by cases h)
   intro x
   show sem (dirD a []).2 fc0 (.dir (dirD a []).1) x=_
   cases x with
   | nil=>rw[sem_nil,sem_nil];rfl
   | cons m r=>rw[sem_cons,sem_cons];simp only[kids,d3];rfl
 | succ n ih=>
  intro hn c a he hok hf
  cases c with
  | file id=>rw[objR];exact stored_fc (.inl ⟨_,rfl⟩) _ _
  | dir id=>rw[objR];exact stored_fc (.inr ⟨_,rfl⟩) _ _
  | held f=>rw[objR];exact hfd n f a he hf
  | own es=>
   obtain⟨hr,h16,hk⟩:=ok_kids he.sound hok (ks:=es) rfl
   have hv:∀ y ∈ es,validB y.1=true/\LTok a n y.2:=fun y hy=>by
    obtain⟨h1,m,e,h2⟩:=hk y hy
    have:m=n:=by omega
    subst this
    exact⟨h1,h2⟩
   obtain⟨k1,k2,k3,k4⟩:=kidsR_ok fl n (fun c a hX hok hfl=>objR_ok fl n (by omega) c a hX hok hfl) es a he hf hv
   have hkr:=kids_reads fl n (by omega) fc0 (fun c a hX hok hfl=>ih (by omega) c a hX hok hfl) es.reverse a he hf (by rw[List.reverse_reverse];exact hv)
   simp only[List.reverse_reverse] at hkr
   obtain⟨r1,r2⟩:=hkr
   rw[objR_own]
   have hX1:=k1.exact he
   obtain⟨d1,d2,d3,_⟩:=dirD_ok hX1 (es:=(kidsR fl n es a).1) (highs_le.2 ⟨by decide,fun e hee=>by have:=(k3 e hee).2.2.2;omega⟩) (rising_names k2 hr) (by rw[r1];exact h16) (fun e hee=>⟨(k3 e hee).1,(k3 e hee).2.1,(k3 e hee).2.2.1⟩)
   obtain⟨l2,hl2⟩:=d1.app
   intro x
   show sem (dirD (kidsR fl n es a).2 (kidsR fl n es a).1).2 fc0 (.dir (dirD (kidsR fl n es a).2 (kidsR fl n es a).1).1) x=_
   cases x with
   | nil=>rw[sem_nil,sem_nil];rfl
   | cons m y=>
    rw[sem_cons,sem_cons]
    simp only[kids,d3,Option.bind_some]
    refine pick_lists (by rw[List.length_map,r1]) (fun k h1 h2=>?_) m y
    rw[List.length_map] at h1
    obtain⟨j1,j2⟩:=r2 k h1 h2
    rw[List.getElem_map]
    refine⟨j1,fun z=>?_⟩
    rw[<- j2 z,hl2]
    obtain⟨_,q2,q3,q4⟩:=k3 _ (List.getElem_mem h1)
    refine sem_app hX1.sound l2 fc0 z n _ ?_
    show LTok (kidsR fl n es a).2 n (ltOf _)
    unfold ltOf
    split
    ·rename_i e;rw[LTok];exact⟨by rw[q3,e],q4⟩
    ·rename_i e
     rw[LTok,q3]
     rcases q2 with e' | e'
     ·exact e'
     ·exact absurd e' e
theorem sum_len {α β:Type}(f:α->Nat)(g:α->List β):∀ (l:List α),(∀ x ∈ l,(g x).length=f x)->(l.flatMap g).length=(l.map f).sum
 | [],_=>rfl
 | x :: r,h=>by
  rw[List.flatMap_cons,List.length_append,List.map_cons,List.sum_cons,h x (List.mem_cons_self ..),sum_len f g r (fun y hy=>h y (List.mem_cons_of_mem _ hy))]
theorem big_things {a:List Ob}(hS:Sound a)(fc:FileC):∀ (n:Nat) (q:List ByteArray) (t:LT),LTok a n t->big a n t=1+(thingsR a fc n q t).length
 | 0,q,t,_=>by rw[thingsR,big];rfl
 | n+1,q,t,ht=>by
  rw[big_succ]
  by_cases hk:t.kind=2
  ·obtain⟨ks,hks⟩:=kids_some (a:=a) hk
   rw[things_succ hks,hks,Option.getD_some]
   unfold bigs
   rw[sum_len (fun x=>big a n x.2) (thingsX a fc n q) ks (fun x hx=>?_)]
   obtain⟨m,e,o⟩:=((ok_kids hS ht hks).2.2 x hx).2
   have e':m=n:=by omega
   subst e'
   unfold thingsX
   rw[List.length_cons]
   split
   ·rw[big_things hS fc m (q ++ [x.1]) x.2 o];omega
   ·rename_i h2
    have:big a m x.2=1:=by
     cases m with
     | zero=>rw[big]
     | succ m=>rw[big_succ,kids_none h2];rfl
    rw[this];rfl
  ·rw[thingsR,kids_none hk];rfl
theorem big_sem {a b:List Ob}{fc fc':FileC}(hA:Sound a)(hB:Sound b){t u:LT}(ht:LTok a 5 t)(hu:LTok b 5 u)(h:SemEq a fc t b fc' u):big a 5 t=big b 5 u:=by
 rw[big_things hA fc 5 [] t ht,big_things hB fc' 5 [] u hu,things_sem hA hB 5 [] t u ht hu h]
theorem sem_same {a b:List Ob}(hS:Sound a)(hs:Same a b)(fc:FileC):∀ (x:List ByteArray) (n:Nat) (t:LT),LTok a n t->sem a fc t x=sem b fc t x
 | [],n,t,h=>by
  rw[sem_nil,sem_nil]
  cases t with
  | file i=>rw[LTok] at h;simp only[nd];rw[hs.bytes h]
  | held f=>rfl
  | dir i=>rfl
  | own es=>rfl
 | m :: r,n,t,h=>by
  have hk:kids a t=kids b t:=by
   cases t with
   | file i=>rfl
   | held f=>rfl
   | dir i=>rw[LTok] at h;simp only[kids];rw[hs.ents h.1]
   | own es=>rfl
  rw[sem_cons,sem_cons,<- hk]
  cases hkk:kids a t with
  | none=>rfl
  | some ks=>
   rw[Option.bind_some,Option.bind_some]
   cases hp:pickK ks m with
   | none=>rfl
   | some c=>
    rw[Option.bind_some,Option.bind_some]
    have hmem:∃ y ∈ ks,y.2=c:=by
     unfold pickK at hp
     obtain⟨z,hz,e⟩:=Option.map_eq_some_iff.1 hp
     exact⟨z,List.mem_of_find?_eq_some hz,e⟩
    obtain⟨y,hy,e⟩:=hmem
    obtain⟨k,_,hok⟩:=((ok_kids hS h hkk).2.2 y hy).2
    rw[e] at hok
    exact sem_same hS hs fc r k c hok
def semO (a:List Ob)(fc:FileC)(o:Option LT)(y:List ByteArray):Option Nd:=o.bind fun c=>sem a fc c y
def kidsO (a:List Ob)(o:Option LT):Kids:=(o.bind (kids a)).getD []
def fileO:Option Nd->Option ByteArray
 | some (.file d)=>some d
 | _=>none
def chgAt (S S0:List ByteArray->Option Nd)(y:List ByteArray):Option Int:=match fileO (S y),fileO (S0 y) with
 | some d,some d'=>if d=d' then none else some 2
 | some _,none=>some 1
 | none,some _=>some 3
 | none,none=>none
def noteL (q:List ByteArray)(x y:Option ByteArray):List (List ByteArray×Int):=match x,y with
 | some _,some _=>[(q,2)]
 | some _,none=>[(q,1)]
 | none,some _=>[(q,3)]
 | none,none=>[]
noncomputable def cmpL (a:List Ob)(fc fc':FileC):Nat->List ByteArray->Option LT->Option LT->List (List ByteArray×Int)
 | 0,q,now,was=>@ite _ (∀ y,semO a fc now y=semO a fc' was y) (Classical.propDecidable _) [] (noteL q (fileO (semO a fc now [])) (fileO (semO a fc' was [])))
 | n+1,q,now,was=>@ite _ (∀ y,semO a fc now y=semO a fc' was y) (Classical.propDecidable _) []
   (noteL q (fileO (semO a fc now [])) (fileO (semO a fc' was []))++((kidsO a now).flatMap (fun x=>cmpL a fc fc' n (q ++ [x.1]) (some x.2) (pickK (kidsO a was) x.1))++((kidsO a was).filter fun x=>(pickK (kidsO a now) x.1).isNone).flatMap (fun x=>cmpL a fc fc' n (q ++ [x.1]) none (some x.2))))
section
variable {a:List Ob}{fc fc':FileC}
def OkO (a:List Ob)(n:Nat)(o:Option LT):Prop:=∀ c,o=some c->LTok a n c
theorem kidsO_ok (hS:Sound a){n:Nat}{o:Option LT}(h:OkO a n o):RisingK (kidsO a o)/\∀ x ∈ kidsO a o,∃ m,n=m+1/\LTok a m x.2:=by
 cases o with
 | none=>exact⟨List.Pairwise.nil,fun x hx=>by cases hx⟩
 | some c=>
  have hc:=h c rfl
  unfold kidsO
  cases hk:kids a c with
  | none=>simp only[Option.bind_some,hk,Option.getD_none];exact⟨List.Pairwise.nil,fun x hx=>by cases hx⟩
  | some ks=>
   simp only[Option.bind_some,hk,Option.getD_some]
   obtain⟨h1,_,h3⟩:=ok_kids hS hc hk
   exact⟨h1,fun x hx=>(h3 x hx).2⟩
theorem semO_cons (o:Option LT)(m:ByteArray)(y:List ByteArray):semO a fc o (m :: y)=semO a fc (pickK (kidsO a o) m) y:=by
 cases o with
 | none=>rfl
 | some c=>
  show sem a fc c (m :: y)=_
  rw[sem_cons]
  unfold kidsO
  cases hk:kids a c with
  | none=>simp only[Option.bind_some,hk,Option.getD_none];rfl
  | some ks=>simp only[Option.bind_some,hk,Option.getD_some];rfl
theorem pick_in8 {ks:Kids}{m:ByteArray}{c:LT}(h:pickK ks m=some c):(m,c) ∈ ks:=by
 unfold pickK at h
 obtain⟨w,hw,e2⟩:=Option.map_eq_some_iff.1 h
 have h1:w.1=m:=by simpa using List.find?_some hw
 have:w=(m,c):=by rw[<- h1,<- e2]
 rw[<- this]
 exact List.mem_of_find?_eq_some hw
theorem pick_of_mem {ks:Kids}(hr:RisingK ks){x:ByteArray×LT}(h:x ∈ ks):pickK ks x.1=some x.2:=by
 obtain⟨k,hk,rfl⟩:=List.getElem_of_mem h
 exact pick_getK hr hk
theorem pickO_ok (hS:Sound a){n:Nat}{o:Option LT}(h:OkO a (n+1) o)(m:ByteArray):OkO a n (pickK (kidsO a o) m):=fun c hc=>by
 obtain⟨k,e,hk⟩:=(kidsO_ok hS h).2 (m,c) (pick_in8 hc)
 have:k=n:=by omega
 subst this
 exact hk
theorem note_mem {S S0:List ByteArray->Option Nd}(h:fileO (S [])=none\/fileO (S0 [])=none\/fileO (S [])≠fileO (S0 [])){q y:List ByteArray}{w:Int}:(y,w) ∈ noteL q (fileO (S [])) (fileO (S0 []))↔y=q/\chgAt S S0 []=some w:=by
 unfold noteL chgAt
 cases h1:fileO (S []) with
 | none=>
  cases h2:fileO (S0 []) with
  | none=>simp
  | some d'=>simp[eq_comm]
 | some d=>
  cases h2:fileO (S0 []) with
  | none=>simp[eq_comm]
  | some d'=>
   rw[h1,h2] at h
   have hne:d≠d':=by
    rcases h with h | h | h
    ·cases h
    ·cases h
    ·exact fun e=>h (by rw[e])
   simp[hne,eq_comm]
theorem differ {n:Nat}{now was:Option LT}(h:¬ ∀ y,semO a fc now y=semO a fc' was y):fileO (semO a fc now [])=none\/fileO (semO a fc' was [])=none\/fileO (semO a fc now [])≠fileO (semO a fc' was []):=by
 cases h1:fileO (semO a fc now []) with
 | none=>exact .inl rfl
 | some d=>
  cases h2:fileO (semO a fc' was []) with
  | none=>exact .inr (.inl rfl)
  | some d'=>
   refine .inr (.inr (fun e=>h ?_))
   have key:∀ {fc:FileC} {o:Option LT} {d:ByteArray},fileO (semO a fc o [])=some d->∀ y,semO a fc o y=if y = [] then some (.file d) else none:=by
    intro fc o d hd y
    cases o with
    | none=>cases hd
    | some c=>
     have hs:sem a fc c []=some (nd a fc c):=sem_nil a fc c
     have hd':fileO (some (nd a fc c))=some d:=by rw[<- hs];exact hd
     cases c with
     | file i=>
      show sem a fc (.file i) y=_
      rw[sem_file]
      cases hd'
      rfl
     | held f=>
      show sem a fc (.held f) y=_
      rw[sem_held]
      cases hd'
      rfl
     | dir i=>cases hd'
     | own es=>cases hd'
   intro y
   rw[key h1 y,key h2 y,Option.some.inj e]
theorem cmp_mem (hS:Sound a):∀ (n:Nat) (q:List ByteArray) (now was:Option LT),OkO a n now->OkO a n was->∀ y w,(y,w) ∈ cmpL a fc fc' n q now was ↔ ∃ z,y=q++z/\chgAt (semO a fc now) (semO a fc' was) z=some w:=by
 have same:∀ {now was:Option LT},(∀ y,semO a fc now y=semO a fc' was y)->∀ z,chgAt (semO a fc now) (semO a fc' was) z=none:=by
  intro now was h z
  unfold chgAt
  rw[h z]
  cases fileO (semO a fc' was z) with
  | none=>rfl
  | some d=>simp
 intro n
 induction n with
 | zero=>
  intro q now was hn hw y w
  rw[cmpL]
  by_cases h:∀ y,semO a fc now y=semO a fc' was y
  ·rw[if_pos h]
   constructor
   ·intro h;cases h
   ·rintro ⟨z,_,hz⟩;rw[same h z] at hz;cases hz
  ·rw[if_neg h,note_mem (differ (n:=0) h)]
   constructor
   ·rintro ⟨rfl,hc⟩;exact⟨[],by simp,hc⟩
   ·rintro ⟨z,rfl,hc⟩
    cases z with
    | nil=>exact⟨by simp,hc⟩
    | cons m z=>
     have e1:kidsO a now = []:=by
      cases hk:kidsO a now with
      | nil=>rfl
      | cons x r=>obtain⟨k,e,_⟩:=(kidsO_ok hS hn).2 x (by rw[hk];exact List.mem_cons_self ..);omega
     have e2:kidsO a was = []:=by
      cases hk:kidsO a was with
      | nil=>rfl
      | cons x r=>obtain⟨k,e,_⟩:=(kidsO_ok hS hw).2 x (by rw[hk];exact List.mem_cons_self ..);omega
     unfold chgAt at hc
     rw[semO_cons,semO_cons,e1,e2] at hc
     cases hc
 | succ n ih=>
  intro q now was hn hw y w
  rw[cmpL]
  by_cases h:∀ y,semO a fc now y=semO a fc' was y
  ·rw[if_pos h]
   constructor
   ·intro h;cases h
   ·rintro ⟨z,_,hz⟩;rw[same h z] at hz;cases hz
  ·rw[if_neg h,List.mem_append,List.mem_append,note_mem (differ (n:=0) h)]
   have hrn:=(kidsO_ok hS hn).1
   have hrw:=(kidsO_ok hS hw).1
   have step:∀ m z,chgAt (semO a fc now) (semO a fc' was) (m :: z)=chgAt (semO a fc (pickK (kidsO a now) m)) (semO a fc' (pickK (kidsO a was) m)) z:=by
    intro m z
    unfold chgAt
    rw[semO_cons,semO_cons]
   constructor
   ·rintro (⟨rfl,hc⟩ | hm | hm)
    ·exact⟨[],by simp,hc⟩
    ·obtain⟨x,hx,hm⟩:=List.mem_flatMap.1 hm
     have hp:=pick_of_mem hrn hx
     obtain⟨z,e,hc⟩:=(ih (q ++ [x.1]) (some x.2) (pickK (kidsO a was) x.1) (by rw[<- hp];exact pickO_ok hS hn x.1) (pickO_ok hS hw x.1) y w).1 hm
     exact⟨x.1 :: z,by rw[e,List.append_assoc];rfl,by rw[step,hp];exact hc⟩
    ·obtain⟨x,hx,hm⟩:=List.mem_flatMap.1 hm
     obtain⟨hx,hnone⟩:=List.mem_filter.1 hx
     have hp:=pick_of_mem hrw hx
     have hpn:pickK (kidsO a now) x.1=none:=by simpa using hnone
     obtain⟨z,e,hc⟩:=(ih (q ++ [x.1]) none (some x.2) (fun c h=>by cases h) (by rw[<- hp];exact pickO_ok hS hw x.1) y w).1 hm
     exact⟨x.1 :: z,by rw[e,List.append_assoc];rfl,by rw[step,hp,hpn];exact hc⟩
   ·rintro ⟨z,rfl,hc⟩
    cases z with
    | nil=>exact .inl ⟨by simp,hc⟩
    | cons m z=>
     right
     rw[step] at hc
     have e:q++m :: z=(q ++ [m])++z:=by simp
     cases hpn:pickK (kidsO a now) m with
     | some c=>
      left
      rw[hpn] at hc
      refine List.mem_flatMap.2 ⟨(m,c),pick_in8 hpn,?_⟩
      exact (ih (q ++ [m]) (some c) (pickK (kidsO a was) m) (by rw[<- hpn];exact pickO_ok hS hn m) (pickO_ok hS hw m) _ w).2 ⟨z,e,hc⟩
     | none=>
      right
      rw[hpn] at hc
      cases hpw:pickK (kidsO a was) m with
      | none=>rw[hpw] at hc;cases hc
      | some c=>
       rw[hpw] at hc
       refine List.mem_flatMap.2 ⟨(m,c),List.mem_filter.2 ⟨pick_in8 hpw,by simp[hpn]⟩,?_⟩
       exact (ih (q ++ [m]) none (some c) (fun c h=>by cases h) (by rw[<- hpw];exact pickO_ok hS hw m) _ w).2 ⟨z,e,hc⟩
theorem cmp_once (hS:Sound a):∀ (n:Nat) (q:List ByteArray) (now was:Option LT),OkO a n now->OkO a n was->(cmpL a fc fc' n q now was).Pairwise fun x y=>x.1≠y.1:=by
 have hnote:∀ (q:List ByteArray) (x y:Option ByteArray),(noteL q x y).Pairwise (fun x y=>x.1≠y.1)/\∀ z ∈ noteL q x y,z.1=q:=by
  intro q x y
  unfold noteL
  cases x <;> cases y <;> simp
 intro n
 induction n with
 | zero=>
  intro q now was hn hw
  rw[cmpL]
  split
  ·exact List.Pairwise.nil
  ·exact (hnote _ _ _).1
 | succ n ih=>
  intro q now was hn hw
  rw[cmpL]
  split
  ·exact List.Pairwise.nil
  ·have hrn:=(kidsO_ok hS hn).1
   have hrw:=(kidsO_ok hS hw).1
   have g1:∀ x ∈ kidsO a now,∀ z ∈ cmpL a fc fc' n (q ++ [x.1]) (some x.2) (pickK (kidsO a was) x.1),∃ y,z.1=q++x.1 :: y:=fun x hx z hz=>by
    obtain⟨y,e,_⟩:=(cmp_mem hS n (q ++ [x.1]) (some x.2) (pickK (kidsO a was) x.1) (by rw[<- pick_of_mem hrn hx];exact pickO_ok hS hn x.1) (pickO_ok hS hw x.1) z.1 z.2).1 hz
    exact⟨y,by rw[e,List.append_assoc];rfl⟩
   have g2:∀ x ∈ (kidsO a was).filter fun x=>(pickK (kidsO a now) x.1).isNone,∀ z ∈ cmpL a fc fc' n (q ++ [x.1]) none (some x.2),∃ y,z.1=q++x.1 :: y:=fun x hx z hz=>by
    obtain⟨y,e,_⟩:=(cmp_mem hS n (q ++ [x.1]) none (some x.2) (fun c h=>by cases h) (by rw[<- pick_of_mem hrw (List.mem_filter.1 hx).1];exact pickO_ok hS hw x.1) z.1 z.2).1 hz
    exact⟨y,by rw[e,List.append_assoc];rfl⟩
   have apart:∀ {m1 m2:ByteArray} {y1 y2:List ByteArray},m1≠m2->q++m1 :: y1≠q++m2 :: y2:=fun hne e=>by
    have:=List.append_cancel_left e
    exact hne (List.cons.inj this).1
   have hne:∀ {x y:ByteArray×LT},cmpN x.1 y.1<0->x.1≠y.1:=fun h e=>by rw[e,cmpN_self] at h;omega
   refine List.pairwise_append.2 ⟨(hnote _ _ _).1,List.pairwise_append.2 ⟨?_,?_,?_⟩,?_⟩
   ·rw[List.pairwise_flatMap]
    refine⟨fun x hx=>ih (q ++ [x.1]) _ _ (by rw[<- pick_of_mem hrn hx];exact pickO_ok hS hn x.1) (pickO_ok hS hw x.1),?_⟩
    refine List.Pairwise.imp_of_mem ?_ hrn
    intro x1 x2 h1 h2 hlt z1 hz1 z2 hz2
    obtain⟨y1,e1⟩:=g1 x1 h1 z1 hz1
    obtain⟨y2,e2⟩:=g1 x2 h2 z2 hz2
    rw[e1,e2]
    exact apart (hne hlt)
   ·rw[List.pairwise_flatMap]
    refine⟨fun x hx=>ih (q ++ [x.1]) _ _ (fun c h=>by cases h) (by rw[<- pick_of_mem hrw (List.mem_filter.1 hx).1];exact pickO_ok hS hw x.1),?_⟩
    refine List.Pairwise.imp_of_mem ?_ (hrw.filter _)
    intro x1 x2 h1 h2 hlt z1 hz1 z2 hz2
    obtain⟨y1,e1⟩:=g2 x1 h1 z1 hz1
    obtain⟨y2,e2⟩:=g2 x2 h2 z2 hz2
    rw[e1,e2]
    exact apart (hne hlt)
   ·intro z1 hz1 z2 hz2
    obtain⟨x1,h1,hz1⟩:=List.mem_flatMap.1 hz1
    obtain⟨x2,h2,hz2⟩:=List.mem_flatMap.1 hz2
    obtain⟨y1,e1⟩:=g1 x1 h1 z1 hz1
    obtain⟨y2,e2⟩:=g2 x2 h2 z2 hz2
    rw[e1,e2]
    refine apart (fun e=>?_)
    have hnone:=(List.mem_filter.1 h2).2
    rw[<- e,pick_of_mem hrn h1] at hnone
    cases hnone
   ·intro z1 hz1 z2 hz2 e
    have h1:=(hnote _ _ _).2 z1 hz1
    have hlong:∃ m y,z2.1=q++m :: y:=by
     rcases List.mem_append.1 hz2 with hz2 | hz2
     ·obtain⟨x2,h2,hz2⟩:=List.mem_flatMap.1 hz2
      obtain⟨y,e⟩:=g1 x2 h2 z2 hz2
      exact⟨_,y,e⟩
     ·obtain⟨x2,h2,hz2⟩:=List.mem_flatMap.1 hz2
      obtain⟨y,e⟩:=g2 x2 h2 z2 hz2
      exact⟨_,y,e⟩
    obtain⟨m,y,e2⟩:=hlong
    rw[h1,e2] at e
    have:=congrArg List.length e
    simp at this
end
def thingsP (a:List Ob)(fc:FileC):Nat->List ByteArray->LT->List (List ByteArray×Nd)
 | 0,_,_=>[]
 | n+1,q,c=>((kids a c).getD []).flatMap fun x=>(q ++ [x.1],nd a fc x.2) :: (if x.2.kind=2 then thingsP a fc n (q ++ [x.1]) x.2 else [])
theorem things_path {a:List Ob}{fc:FileC}:∀ (n:Nat) (q:List ByteArray) (t:LT),thingsR a fc n q t=(thingsP a fc n q t).map fun x=>thingAt x.1 x.2
 | 0,q,t=>rfl
 | n+1,q,t=>by
  rw[thingsR,thingsP,List.map_flatMap]
  congr 1
  funext x
  rw[List.map_cons]
  unfold thingAt
  rw[ndK_nd]
  split
  ·rw[things_path n (q ++ [x.1]) x.2];rfl
  ·rfl
theorem path_long {a:List Ob}{fc:FileC}:∀ (n:Nat) (q:List ByteArray) (t:LT) z,z ∈ thingsP a fc n q t->∃ y,y ≠ []/\z.1=q++y
 | 0,q,t,z,h=>by cases h
 | n+1,q,t,z,h=>by
  rw[thingsP] at h
  obtain⟨x,hx,h⟩:=List.mem_flatMap.1 h
  rcases List.mem_cons.1 h with rfl | h
  ·exact⟨[x.1],by simp,rfl⟩
  ·split at h
   ·obtain⟨y,hy,e⟩:=path_long n (q ++ [x.1]) x.2 z h
    exact⟨x.1 :: y,by simp,by rw[e,List.append_assoc];rfl⟩
   ·cases h
theorem path_order {a:List Ob}(hS:Sound a){fc:FileC}:∀ (n:Nat) (q:List ByteArray) (t:LT),LTok a n t->(thingsP a fc n q t).Pairwise fun x y=>¬ y.1 <+: x.1
 | 0,q,t,_=>List.Pairwise.nil
 | n+1,q,t,ht=>by
  rw[thingsP]
  by_cases hk:t.kind=2
  ·obtain⟨ks,hks⟩:=kids_some (a:=a) hk
   obtain⟨hr,_,hkid⟩:=ok_kids hS ht hks
   rw[hks,Option.getD_some,List.pairwise_flatMap]
   refine⟨fun x hx=>?_,?_⟩
   ·obtain⟨m,e,o⟩:=(hkid x hx).2
    have e':m=n:=by omega
    subst e'
    refine List.pairwise_cons.2 ⟨fun z hz hp=>?_,?_⟩
    ·split at hz
     ·obtain⟨y,hy,e⟩:=path_long m (q ++ [x.1]) x.2 z hz
      rw[e] at hp
      have:=hp.length_le
      rw[List.length_append] at this
      have:0<y.length:=List.length_pos_iff.2 hy
      simp only at *
      omega
     ·cases hz
    ·split
     ·exact path_order hS m (q ++ [x.1]) x.2 o
     ·exact List.Pairwise.nil
   ·refine List.Pairwise.imp ?_ hr
    intro x1 x2 hlt z1 hz1 z2 hz2 hp
    have key:∀ (x:ByteArray×LT) z,z ∈ ((q ++ [x.1],nd a fc x.2) :: (if x.2.kind=2 then thingsP a fc n (q ++ [x.1]) x.2 else []))->∃ y,z.1=q++x.1 :: y:=by
     intro x z hz
     rcases List.mem_cons.1 hz with rfl | hz
     ·exact⟨[],rfl⟩
     ·split at hz
      ·obtain⟨y,hy,e⟩:=path_long n (q ++ [x.1]) x.2 z hz
       exact⟨y,by rw[e,List.append_assoc];rfl⟩
      ·cases hz
    obtain⟨y1,e1⟩:=key x1 z1 hz1
    obtain⟨y2,e2⟩:=key x2 z2 hz2
    rw[e1,e2,List.prefix_append_right_inj,List.cons_prefix_cons] at hp
    rw[hp.1,cmpN_self] at hlt
    omega
  ·rw[kids_none hk];exact List.Pairwise.nil
theorem path_mem {a:List Ob}(hS:Sound a){fc:FileC}{t:LT}(ht:LTok a 5 t){y:List ByteArray}{x:Nd}:(y,x) ∈ thingsP a fc 5 [] t↔y ≠ []/\sem a fc t y=some x:=by
 have key:∀ (n:Nat) (q:List ByteArray) (t:LT),LTok a n t->∀ z,z ∈ thingsP a fc n q t ↔ ∃ y x,y ≠ []/\sem a fc t y=some x/\z=(q++y,x):=by
  intro n
  induction n with
  | zero=>
   intro q t ht z
   rw[thingsP]
   constructor
   ·intro h;cases h
   ·rintro ⟨y,x,hy,hs,_⟩
    unfold sem at hs
    obtain⟨c,hc,_⟩:=Option.map_eq_some_iff.1 hs
    have:=(ok_at hS _ ht hc).1
    exact absurd (List.length_eq_zero_iff.1 (by omega)) hy
  | succ n ih=>
   intro q t ht z
   rw[thingsP]
   by_cases hk:t.kind=2
   ·obtain⟨ks,hks⟩:=kids_some (a:=a) hk
    obtain⟨hr,_,hkid⟩:=ok_kids hS ht hks
    rw[hks,Option.getD_some,List.mem_flatMap]
    have hpick:∀ w ∈ ks,pickK ks w.1=some w.2:=fun w hw=>by
     obtain⟨k,hk,rfl⟩:=List.getElem_of_mem hw
     exact pick_getK hr hk
    constructor
    ·rintro ⟨w,hw,hz⟩
     obtain⟨m,e,o⟩:=(hkid w hw).2
     have e':m=n:=by omega
     subst e'
     rcases List.mem_cons.1 hz with hz | hz
     ·exact⟨[w.1],nd a fc w.2,by simp,by rw[sem_cons,hks,Option.bind_some,hpick w hw,Option.bind_some,sem_nil],hz⟩
     ·split at hz
      ·obtain⟨y,x,hy,hs,e⟩:=(ih (q ++ [w.1]) w.2 o z).1 hz
       exact⟨w.1 :: y,x,by simp,by rw[sem_cons,hks,Option.bind_some,hpick w hw,Option.bind_some];exact hs,by rw[e,List.append_assoc];rfl⟩
      ·cases hz
    ·rintro ⟨y,x,hy,hs,e⟩
     cases y with
     | nil=>exact absurd rfl hy
     | cons b y=>
      rw[sem_cons,hks,Option.bind_some] at hs
      obtain⟨c,hc,hs⟩:=Option.bind_eq_some_iff.1 hs
      have hmem:∃ w ∈ ks,w.1=b/\w.2=c:=by
       unfold pickK at hc
       obtain⟨w,hw,e2⟩:=Option.map_eq_some_iff.1 hc
       exact⟨w,List.mem_of_find?_eq_some hw,by simpa using List.find?_some hw,e2⟩
      obtain⟨w,hw,rfl,rfl⟩:=hmem
      obtain⟨m,e1,o⟩:=(hkid w hw).2
      have e':m=n:=by omega
      subst e'
      refine⟨w,hw,?_⟩
      cases y with
      | nil=>
       rw[sem_nil] at hs
       rw[e,<- Option.some.inj hs]
       exact List.mem_cons_self ..
      | cons b2 y=>
       refine List.mem_cons_of_mem _ ?_
       have hk2:w.2.kind=2:=by
        by_cases h2:w.2.kind=2
        ·exact h2
        ·rw[sem_cons,kids_none h2] at hs;cases hs
       rw[if_pos hk2]
       exact (ih (q ++ [w.1]) w.2 o z).2 ⟨b2 :: y,x,by simp,hs,by rw[e,List.append_assoc];rfl⟩
   ·rw[kids_none hk]
    constructor
    ·intro h;cases h
    ·rintro ⟨y,x,hy,hs,_⟩
     cases y with
     | nil=>exact absurd rfl hy
     | cons b y=>rw[sem_cons,kids_none hk] at hs;cases hs
 rw[key 5 [] t ht]
 constructor
 ·rintro ⟨y',x',hy,hs,e⟩
  cases e
  exact⟨hy,hs⟩
 ·rintro ⟨hy,hs⟩
  exact⟨y,x,hy,hs,rfl⟩
theorem len_sub {α:Type}[DecidableEq α]:∀ (l m:List α),l.Nodup->(∀ x ∈ l,x ∈ m)->l.length<=m.length
 | [],m,_,_=>Nat.zero_le _
 | x :: l,m,hn,hs=>by
  obtain⟨h1,h2⟩:=List.nodup_cons.1 hn
  have hx:=hs x (List.mem_cons_self ..)
  have:=len_sub l (m.erase x) h2 (fun y hy=>(List.mem_erase_of_ne (fun e=>h1 (by rw[<- e];exact hy))).2 (hs y (List.mem_cons_of_mem _ hy)))
  rw[List.length_erase_of_mem hx] at this
  have hp:=List.length_pos_of_mem hx
  rw[List.length_cons]
  omega
section
variable {a b:List Ob}{fc fu:FileC}{t u:LT}
end
def newB (O:List Thing8)(x:Thing8):Bool:=decide (x.2.1=1) && match findT O x.1 with
 | none=>true
 | some o=>decide (o.2.1≠1) || decide (o.2.2≠x.2.2)
def goneB (L:List Thing8)(x:Thing8):Bool:=decide (x.2.1=1) && match findT L x.1 with
 | none=>true
 | some o=>decide (o.2.1≠1)
section
variable {a:List Ob}{fc fc':FileC}{t u:LT}
theorem sem_good (hS:Sound a)(ht:LTok a 5 t){y:List ByteArray}{x:Nd}(h:sem a fc t y=some x):Good y:=by
 unfold sem at h
 obtain⟨c,hc,_⟩:=Option.map_eq_some_iff.1 h
 obtain⟨h1,_,h3⟩:=ok_at hS _ ht hc
 exact⟨h3,h1⟩
theorem new_iff (hS:Sound a)(hu:LTok a 5 u){y:List ByteArray}{x:Nd}(hy:y ≠ [])(hG:Good y)(hs:sem a fc t y=some x):newB (thingsR a fc' 5 [] u) (thingAt y x)=true↔(chgAt (sem a fc t) (sem a fc' u) y=some 1\/chgAt (sem a fc t) (sem a fc' u) y=some 2):=by
 unfold newB chgAt
 have e:findT (thingsR a fc' 5 [] u) (thingAt y x).1=(sem a fc' u y).map (thingAt y):=find_things hS hu hy hG
 rw[e,hs]
 cases x with
 | dir=>
  have e1:fileO (some Nd.dir)=none:=rfl
  rw[e1]
  cases h:fileO (sem a fc' u y) <;> simp[thingAt,ndK]
 | file d=>
  cases h:sem a fc' u y with
  | none=>simp[thingAt,ndK,fileO]
  | some x'=>
   cases x' with
   | dir=>simp[thingAt,ndK,fileO]
   | file d'=>
    by_cases hd:d=d'
    ·simp[thingAt,ndK,ndD,fileO,hd]
    ·have hd':¬ d'=d:=fun e=>hd e.symm
     simp[thingAt,ndK,ndD,fileO,hd,hd']
theorem gone_iff (hS:Sound a)(ht:LTok a 5 t){y:List ByteArray}{x:Nd}(hy:y ≠ [])(hG:Good y)(hs:sem a fc' u y=some x):goneB (thingsR a fc 5 [] t) (thingAt y x)=true↔chgAt (sem a fc t) (sem a fc' u) y=some 3:=by
 unfold goneB chgAt
 have e:findT (thingsR a fc 5 [] t) (thingAt y x).1=(sem a fc t y).map (thingAt y):=find_things hS ht hy hG
 rw[e,hs]
 cases x with
 | dir=>
  have e1:fileO (some Nd.dir)=none:=rfl
  rw[e1]
  cases h:fileO (sem a fc t y) <;> simp[thingAt,ndK]
 | file d=>
  cases h:sem a fc t y with
  | none=>simp[thingAt,ndK,fileO]
  | some x'=>
   cases x' with
   | dir=>simp[thingAt,ndK,fileO]
   | file d'=>
    by_cases hd:d'=d
    ·simp[thingAt,ndK,ndD,fileO,hd]
    ·simp[thingAt,ndK,ndD,fileO,hd]
theorem chg_some {S S0:List ByteArray->Option Nd}{y:List ByteArray}{w:Int}(h:chgAt S S0 y=some w):(w=1\/w=2)/\(∃ x,S y=some x)\/w=3/\∃ x,S0 y=some x:=by
 unfold chgAt at h
 cases h1:S y with
 | none=>
  rw[h1] at h
  cases h2:S0 y with
  | none=>rw[h2] at h;cases h
  | some x'=>
   rw[h2] at h
   cases x' with
   | dir=>cases h
   | file d'=>cases h;exact .inr ⟨rfl,_,rfl⟩
 | some x=>
  rw[h1] at h
  cases x with
  | dir=>
   cases h2:S0 y with
   | none=>rw[h2] at h;cases h
   | some x'=>
    rw[h2] at h
    cases x' with
    | dir=>cases h
    | file d'=>cases h;exact .inr ⟨rfl,_,rfl⟩
  | file d=>
   cases h2:S0 y with
   | none=>rw[h2] at h;cases h;exact .inl ⟨.inl rfl,_,rfl⟩
   | some x'=>
    rw[h2] at h
    cases x' with
    | dir=>cases h;exact .inl ⟨.inl rfl,_,rfl⟩
    | file d'=>
     simp only[fileO] at h
     split at h
     ·cases h
     ·cases h;exact .inl ⟨.inr rfl,_,rfl⟩
theorem chg_root (ht:t.kind=2)(hu:u.kind=2):chgAt (sem a fc t) (sem a fc' u) []=none:=by
 unfold chgAt
 rw[sem_nil,sem_nil]
 cases t with
 | file i=>cases ht
 | held f=>cases ht
 | dir i=>cases u with
  | file i=>cases hu
  | held f=>cases hu
  | dir i=>rfl
  | own es=>rfl
 | own es=>cases u with
  | file i=>cases hu
  | held f=>cases hu
  | dir i=>rfl
  | own es=>rfl
theorem cmp_count (hS:Sound a)(ht:LTok a 5 t)(hu:LTok a 5 u)(kt:t.kind=2)(ku:u.kind=2):
  (cmpL a fc fc' 5 [] (some t) (some u)).length=((thingsR a fc 5 [] t).filter (newB (thingsR a fc' 5 [] u))).length+((thingsR a fc' 5 [] u).filter (goneB (thingsR a fc 5 [] t))).length:=by
 have okt:OkO a 5 (some t):=fun c h=>by cases h;exact ht
 have oku:OkO a 5 (some u):=fun c h=>by cases h;exact hu
 have hmem:=cmp_mem (fc:=fc) (fc':=fc') hS 5 [] (some t) (some u) okt oku
 have honce:=cmp_once (fc:=fc) (fc':=fc') hS 5 [] (some t) (some u) okt oku
 have hne:∀ {x y:List ByteArray×Nd},¬ y.1 <+: x.1->x.1≠y.1:=fun h e=>h (by rw[e];exact List.prefix_refl _)
 rw[things_path 5 [] t,things_path 5 [] u] at *
 have lenF:∀ (l:List (List ByteArray×Nd)) (f:Thing8->Bool),((l.map fun x=>thingAt x.1 x.2).filter f).length=((l.filter fun x=>f (thingAt x.1 x.2)).map (·.1)).length:=fun l f=>by
  rw[List.filter_map,List.length_map,List.length_map];rfl
 have e0:((cmpL a fc fc' 5 [] (some t) (some u)).map (·.1)).length=(cmpL a fc fc' 5 [] (some t) (some u)).length:=List.length_map _
 rw[lenF,lenF,<- things_path 5 [] t,<- things_path 5 [] u,<- List.length_append,<- e0]
 have nodA:((thingsP a fc 5 [] t).map (·.1)).Nodup:=List.pairwise_map.2 ((path_order hS 5 [] t ht).imp hne)
 have nodB:((thingsP a fc' 5 [] u).map (·.1)).Nodup:=List.pairwise_map.2 ((path_order hS 5 [] u hu).imp hne)
 have memC:∀ y,y ∈ (cmpL a fc fc' 5 [] (some t) (some u)).map (·.1) ↔ ∃ w,chgAt (sem a fc t) (sem a fc' u) y=some w:=by
  intro y
  constructor
  ·intro h
   obtain⟨z,hz,rfl⟩:=List.mem_map.1 h
   obtain⟨z',e,hc⟩:=(hmem z.1 z.2).1 hz
   rw[List.nil_append] at e
   rw[e]
   exact⟨_,hc⟩
  ·rintro ⟨w,hw⟩
   exact List.mem_map.2 ⟨(y,w),(hmem y w).2 ⟨y,rfl,hw⟩,rfl⟩
 have memA:∀ y,y ∈ ((thingsP a fc 5 [] t).filter fun x=>newB (thingsR a fc' 5 [] u) (thingAt x.1 x.2)).map (·.1)↔(chgAt (sem a fc t) (sem a fc' u) y=some 1\/chgAt (sem a fc t) (sem a fc' u) y=some 2):=by
  intro y
  constructor
  ·intro h
   obtain⟨z,hz,rfl⟩:=List.mem_map.1 h
   obtain⟨hz,hb⟩:=List.mem_filter.1 hz
   obtain⟨hy,hs⟩:=(path_mem hS ht (y:=z.1) (x:=z.2)).1 hz
   exact (new_iff hS hu hy (sem_good hS ht hs) hs).1 hb
  ·intro h
   have hy:y ≠ []:=fun e=>by rw[e,chg_root kt ku] at h;rcases h with h | h <;> cases h
   have hx:∃ x,sem a fc t y=some x:=by
    rcases h with h | h
    ·rcases chg_some h with ⟨_,hx⟩ | ⟨h,_⟩
     ·exact hx
     ·cases h
    ·rcases chg_some h with ⟨_,hx⟩ | ⟨h,_⟩
     ·exact hx
     ·cases h
   obtain⟨x,hs⟩:=hx
   exact List.mem_map.2 ⟨(y,x),List.mem_filter.2 ⟨(path_mem hS ht).2 ⟨hy,hs⟩,(new_iff hS hu hy (sem_good hS ht hs) hs).2 h⟩,rfl⟩
 have memB:∀ y,y ∈ ((thingsP a fc' 5 [] u).filter fun x=>goneB (thingsR a fc 5 [] t) (thingAt x.1 x.2)).map (·.1)↔chgAt (sem a fc t) (sem a fc' u) y=some 3:=by
  intro y
  constructor
  ·intro h
   obtain⟨z,hz,rfl⟩:=List.mem_map.1 h
   obtain⟨hz,hb⟩:=List.mem_filter.1 hz
   obtain⟨hy,hs⟩:=(path_mem hS hu (y:=z.1) (x:=z.2)).1 hz
   exact (gone_iff hS ht hy (sem_good hS hu hs) hs).1 hb
  ·intro h
   have hy:y ≠ []:=fun e=>by rw[e,chg_root kt ku] at h;cases h
   have hx:∃ x,sem a fc' u y=some x:=by
    rcases chg_some h with ⟨h,_⟩ | ⟨_,hx⟩
    ·rcases h with h | h <;> cases h
    ·exact hx
   obtain⟨x,hs⟩:=hx
   exact List.mem_map.2 ⟨(y,x),List.mem_filter.2 ⟨(path_mem hS hu).2 ⟨hy,hs⟩,(gone_iff hS ht hy (sem_good hS hu hs) hs).2 h⟩,rfl⟩
 have nodC:((cmpL a fc fc' 5 [] (some t) (some u)).map (·.1)).Nodup:=List.pairwise_map.2 honce
 have nodAB:(((thingsP a fc 5 [] t).filter fun x=>newB (thingsR a fc' 5 [] u) (thingAt x.1 x.2)).map (·.1)++((thingsP a fc' 5 [] u).filter fun x=>goneB (thingsR a fc 5 [] t) (thingAt x.1 x.2)).map (·.1)).Nodup:=by
  rw[List.nodup_append]
  refine⟨nodA.sublist (List.filter_sublist.map _),nodB.sublist (List.filter_sublist.map _),fun y h1 z h2 e=>?_⟩
  have h1:=(memA y).1 h1
  have h2:=(memB z).1 h2
  rw[<- e] at h2
  rcases h1 with h1 | h1 <;> (rw[h1] at h2;cases h2)
 refine Nat.le_antisymm (len_sub _ _ nodC (fun y hy=>?_)) (len_sub _ _ nodAB (fun y hy=>?_))
 ·obtain⟨w,hw⟩:=(memC y).1 hy
  rw[List.mem_append]
  rcases chg_some hw with ⟨h,_⟩ | ⟨h,_⟩
  ·exact .inl ((memA y).2 (by rcases h with rfl | rfl;exact .inl hw;exact .inr hw))
  ·subst h;exact .inr ((memB y).2 hw)
 ·rcases List.mem_append.1 hy with h | h
  ·exact (memC y).2 (by rcases (memA y).1 h with h | h <;> exact⟨_,h⟩)
  ·exact (memC y).2 ⟨_,(memB y).1 h⟩
end
abbrev fcE:FileC:=fun _=>⟨#[]⟩
section
variable {s i p:Nat}{B:WB}{objs:List Ob}
def Memo (objs:List Ob)(fc:FileC)(t:LT)(a:List Ob)(f:List ByteArray->Option Int)(q:List ByteArray):Prop:=∀ c,t.at objs q=some c->c.id=0->∃ id,f q=some id/\LTok a 5 (refOf c.kind id)/\SemEq a fcE (refOf c.kind id) objs fc c
theorem Memo.app {fc:FileC}{t:LT}{a:List Ob}{f:List ByteArray->Option Int}{q:List ByteArray}(h:Memo objs fc t a f q)(hS:Sound a)(l:List Ob):Memo objs fc t (a++l) f q:=fun c hc hi=>by
 obtain⟨id,h1,h2,h3⟩:=h c hc hi
 exact⟨id,h1,LTok_app l 5 _ h2,fun y=>(sem_app hS l fcE y 5 _ h2).trans (h3 y)⟩
theorem Memo.fn {fc:FileC}{t:LT}{a:List Ob}{f f':List ByteArray->Option Int}{q:List ByteArray}(h:Memo objs fc t a f q)(e:f' q=f q):Memo objs fc t a f' q:=fun c hc hi=>by rw[e];exact h c hc hi
def Left9 (w0:World)(p:Nat)(objs:List Ob)(D:Nat->Prop)(W w':World)(b:DB)(ow:Nat)(a':List Ob)(f:List ByteArray->Option Int)(q:List ByteArray)(N':Nat)(fc:FileC)(t:LT)(strict:Bool):Prop:=
 ∃ D' f',OSt w0 p objs D' w' b ow a' f' N'/\Turn (Dow D ow) (Dow D' ow) W w'/\(∀ q',¬ q <+: q'->f' q'=f q')/\∀ q',q <+: q'->(strict=true->q'≠q)->Memo objs fc t a' f' q'
theorem Left8.nine {w0 W w':World}{D:Nat->Prop}{b:DB}{ow:Nat}{a':List Ob}{f:List ByteArray->Option Int}{q:List ByteArray}{N':Nat}{fc:FileC}{t:LT}{st:Bool}(h:Left8 w0 p objs D W w' b ow a' f q N')(hv:∀ q' c,q <+: q'->(st=true->q'≠q)->t.at objs q'=some c->c.id≠0):Left9 w0 p objs D W w' b ow a' f q N' fc t st:=by
 obtain⟨D',f',h1,h2,h3⟩:=h
 exact⟨D',f',h1,h2,h3,fun q' hq hs c hc hi=>absurd hi (hv q' c hq hs hc)⟩
theorem stored_id (hS:Sound objs){n:Nat}{t u:LT}{q:List ByteArray}(ha:t.at objs q=some u)(hok:LTok objs n u)(hst:(∃ i,u=.file i)\/∃ i,u=.dir i){q':List ByteArray}{c:LT}(hq:q <+: q')(hc:t.at objs q'=some c):c.id≠0:=by
 obtain⟨y,rfl⟩:=hq
 rw[at_append,ha,Option.bind_some] at hc
 have hokc:=(ok_at hS _ hok hc).2.1
 have key:∀ (y:List ByteArray) (u:LT),((∃ i,u=.file i)\/∃ i,u=.dir i)->u.at objs y=some c->(∃ i,c=.file i)\/∃ i,c=.dir i:=by
  intro y
  induction y with
  | nil=>intro u hu h;rw[at_nil] at h;cases h;exact hu
  | cons m y ih=>
   intro u hu h
   rw[at_cons] at h
   rcases hu with ⟨i,rfl⟩ | ⟨i,rfl⟩
   ·cases h
   ·rw[show kids objs (.dir i)=some ((entsOf objs i).map kidOf) from rfl,Option.bind_some] at h
    cases hp:pickK ((entsOf objs i).map kidOf) m with
    | none=>rw[hp] at h;cases h
    | some z=>
     rw[hp,Option.bind_some] at h
     refine ih z ?_ h
     unfold pickK at hp
     obtain⟨v,hv,rfl⟩:=Option.map_eq_some_iff.1 hp
     obtain⟨e,he,rfl⟩:=List.mem_map.1 (List.mem_of_find?_eq_some hv)
     show (∃ i,ltOf e=.file i)\/∃ i,ltOf e=.dir i
     unfold ltOf
     split
     ·exact .inr ⟨_,rfl⟩
     ·exact .inl ⟨_,rfl⟩
 rcases key y u hst hc with ⟨i,rfl⟩ | ⟨i,rfl⟩
 ·rw[LTok] at hokc
  have:=(kindOf_pos (a:=objs) (id:=i) (by rw[hokc];decide)).1
  show i≠0
  omega
 ·rw[LTok] at hokc
  have:=(kindOf_pos (a:=objs) (id:=i) (by rw[hokc.1];decide)).1
  show i≠0
  omega
theorem ltok_five {a:List Ob}{n:Nat}(hn:n<=5){k id:Int}(hk:kindOf a id=k)(hh:highOf a id<=n)(h12:k=1\/k=2):LTok a 5 (refOf k id):=by
 unfold refOf
 split
 ·rename_i e;rw[LTok];exact⟨by rw[hk,e],by omega⟩
 ·rename_i e;rw[LTok,hk];omega
theorem object_own9 {tg:Tags}{w0 W:World}{g:WG}{lim:Nat}{t:LT}{D:Nat->Prop}{b:DB}{ow:Nat}{a a':List Ob}{f:List ByteArray->Option Int}{N N':Nat}(hO:OSt w0 p objs D W b ow a f N){q:List ByteArray}(hq:Good q)(hf:f q=none)(nm:ByteArray)(k r:Int)(hN:N'<50000)
  {fc:FileC}{c:LT}(hc:t.at objs q=some c)(hread:LTok a' 5 (refOf c.kind r)/\SemEq a' fcE (refOf c.kind r) objs fc c)
  (hw:∀ W1,Below W.heap.size W W1->Calls Tryz.prog 109 #[.agg #[.pointer (some ⟨B.bt,0,none⟩),.pointer (some ⟨b.dr,0,none⟩),.map (some ow)],.agg (pathA q),.int .i64 k] W1 fun e w'=>e=.returned (.int .i64 r)/\Left9 w0 p objs D W1 w' b ow a' f q N' fc t true):
  Calls Tryz.prog 65 #[.agg #[.pointer (some ⟨B.bt,0,none⟩),.pointer (some ⟨b.dr,0,none⟩),.map (some ow)],.agg (pathA q),.agg #[.string nm,.int .i64 k,.int .i64 0]] W fun e w'=>e=.returned (.int .i64 r)/\Left9 w0 p objs D W w' b ow a' f q (N'+1) fc t false:=by
 have hb:=objBoxes_below W B.bt b.dr ow (comp q 0) (comp q 1) (comp q 2) (comp q 3) (comp q 4) nm k 0
 have hsz3:(objBoxes W B.bt b.dr ow (comp q 0) (comp q 1) (comp q 2) (comp q 3) (comp q 4) nm k 0).heap.size=W.heap.size+3:=by unfold objBoxes;simp
 refine oobject_own B.bt b.dr ow _ _ _ _ _ nm k r (fun w'=>Left9 w0 p objs D (objBoxes W B.bt b.dr ow (comp q 0) (comp q 1) (comp q 2) (comp q 3) (comp q 4) nm k 0) w' b ow a' f q N' fc t true) (fun w'=>Left9 w0 p objs D W w' b ow a' f q (N'+1) fc t false) W (fun W1 hb1=>?_) (hw _ hb) (fun w' ⟨D',f',h1,h2,h3,hm⟩ j o hj1 hj2=>?_) (fun w' ⟨D',f',h1,h2,h3,hm⟩=>?_) (fun w' ⟨D',f',h1,h2,h3,hm⟩=>?_)
 ·obtain⟨n,_,hp⟩:=(hO.via hb1).map
  have:=PMap.look_ok hp Tryz.underlying119 (zero25 W1) hq
  rw[hf] at this
  exact this
 ·refine h2.cell (by rw[hsz3];omega) (fun hd=>?_) o
  have:=(hO.inb j hd).2
  omega
 ·have:=h2.keeps.size
  rw[hsz3] at this
  exact this
 ·obtain⟨w'',hrun,h4,h5,_⟩:=h1.note (by omega) hq r
  refine⟨w'',hrun,D',_,h4,(h2.via hb).trans h5,fun q' hq'=>?_,fun q' hq' _=>?_⟩
  ·rw[upd_other (fun e=>hq' (by rw[e];exact List.prefix_refl _))]
   exact h3 q' hq'
  ·by_cases e:q'=q
   ·intro c' hc' hi
    rw[e] at hc' ⊢
    rw[hc] at hc'
    cases hc'
    exact⟨r,by rw[upd_same],hread.1,hread.2⟩
   ·exact (hm q' hq' (fun _=>e)).fn (upd_other e _)
def DirSt9 (w0:World)(p:Nat)(objs:List Ob)(D0:Nat->Prop)(w:World)(b:DB)(ow:Nat)(fl:Nat->Option (Int×ByteArray))(n:Nat)(es:Kids)(a:List Ob)(f:List ByteArray->Option Int)(q:List ByteArray)(N:Nat)(t:LT)(k:Nat)(D:Nat->Prop)(W:World):Prop:=
 ∃ D1 f1,D=Dow D1 ow/\OSt w0 p objs D1 W b ow (kidsR fl n (es.take k) a).2 f1 (N+2*((es.take k).map fun x=>cntO n x.2).sum)/\Turn (Dow D0 ow) D w W/\(∀ q',¬ q <+: q'->f1 q'=f q')/\(∀ j (hj:j<es.length),k<=j->∀ q',q ++ [(es[j]).1] <+: q'->f1 q'=none)/\∀ j (hj:j<es.length),j<k->∀ q',q ++ [(es[j]).1] <+: q'->Memo objs (fcOf objs fl) t (kidsR fl n (es.take k) a).2 f1 q'
theorem work_dir9 {tg:Tags}{w0:World}{g:WG}{lim:Nat}{t:LT}(h:Base8 tg w0 s i p B objs g lim t)(n:Nat)(hn:n<=5)
  {es:Kids}{q:List ByteArray}(hr:RisingK es)(h16:es.length<=16)(hks:∀ x ∈ es,validB x.1=true/\LTok objs n x.2)(ha:t.at objs q=some (.own es))(hq:Good q)(h4:∀ x ∈ es,q.length<=4)
  {D:Nat->Prop}{W:World}{b:DB}{ow:Nat}{a:List Ob}{f:List ByteArray->Option Int}{N:Nat}(hO:OSt w0 p objs D W b ow a f N)(hdr:Drafted objs a)(hf:∀ q',q <+: q'->f q'=none)(hN:N+2*(es.map fun x=>cntO n x.2).sum<3000)
  (ih:∀ x ∈ es,∀ (D:Nat->Prop) (W:World) (a:List Ob) (f:List ByteArray->Option Int) (N:Nat),OSt w0 p objs D W b ow a f N->Drafted objs a->(∀ q',q ++ [x.1] <+: q'->f q'=none)->N+2*cntO n x.2<3000->
   Calls Tryz.prog 65 #[.agg #[.pointer (some ⟨B.bt,0,none⟩),.pointer (some ⟨b.dr,0,none⟩),.map (some ow)],.agg (pathA (q ++ [x.1])),.agg #[.string x.1,.int .i64 x.2.kind,.int .i64 x.2.id]] W fun e w'=>e=.returned (.int .i64 (objR g.fl n x.2 a).1)/\Left9 w0 p objs D W w' b ow (objR g.fl n x.2 a).2 f (q ++ [x.1]) (N+2*cntO n x.2) (fcOf objs g.fl) t false):
  Calls Tryz.prog 109 #[.agg #[.pointer (some ⟨B.bt,0,none⟩),.pointer (some ⟨b.dr,0,none⟩),.map (some ow)],.agg (pathA q),.int .i64 2] W fun e w'=>e=.returned (.int .i64 (dirD (kidsR g.fl n es a).2 (kidsR g.fl n es a).1).1)/\Left9 w0 p objs D W w' b ow (dirD (kidsR g.fl n es a).2 (kidsR g.fl n es a).1).2 f q (N+2*(es.map fun x=>cntO n x.2).sum+1) (fcOf objs g.fl) t true:=by
 obtain⟨hbt,_,_,c8⟩:=h.tree hO.below
 obtain⟨vD,hD⟩:=h.inv.wp.ownD
 have ho:g.ft.od q=some (es.map entOf):=by rw[h.flat.od,ha];rfl
 have hrow:=hD.row q _ ho
 have hlk:∀ W',Below W.heap.size W W'->(Instr.lookup 128 (.map (some B.oD)) (.agg (pathA q)) false).run Tryz.prog W'=.ok (vD q) W':=fun W' hb=>by
  have:=hD.look hq (below_via hO.below hb)
  rw[ho] at this
  exact this
 have hrowW:W.ownsRow 0 76 3 (vD q) (es.map entOf).length (flat (es.map entOf)):=ownsRow_keep hrow.1 (fun k hk=>hO.below.block k (ownsRow_lt hrow.1 hk))
 obtain⟨x0,x1,x2,x3,x4⟩:=entsAt_facts g.fl n es a
 have hfl0:=h.flSz
 obtain⟨l0,hl0⟩:=hdr.app
 have hfa:FlSz a g.fl:=by rw[hl0];exact hfl0.app l0
 have hka:∀ x ∈ es,validB x.1=true/\LTok a n x.2:=fun x hx=>⟨(hks x hx).1,by rw[hl0];exact LTok_app l0 n _ (hks x hx).2⟩
 have hall:=fun k:Nat=>kidsR_ok g.fl n (fun c a' he hok hfz=>objR_ok g.fl n hn c a' he hok hfz) (es.take k) a (hdr.exact h.exact) hfa (fun x hx=>hka x (List.mem_of_mem_take hx))
 have hlen:(es.map entOf).length=es.length:=by simp
 refine owork_dir B.bt B.oD b.dr ow _ _ _ _ _ q (vD q) (es.map entOf) (entsAt g.fl n es a) (fun k=>(objR g.fl n ((es[k]?).getD (⟨#[]⟩,.file 0)).2 (kidsR g.fl n (es.take k) a).2).1) _ (DirSt9 w0 p objs D W b ow g.fl n es a f q N t) (fun w'=>Left9 w0 p objs D W w' b ow (dirD (kidsR g.fl n es a).2 (kidsR g.fl n es a).1).2 f q (N+2*(es.map fun x=>cntO n x.2).sum+1) (fcOf objs g.fl) t true) (Dow D ow) W hbt c8 hlk hrowW (by rw[hlen];exact h16) x0 (fun k hk=>by rw[hlen] at hk ⊢;exact x2 k hk) (fun k hk=>?_) (fun k hk=>?_) (fun x W' hx=>?_) ?_ (fun x hx=>(hO.inb x hx).2) ?_ ?_ ?_ ?_
 ·have hk':k<es.length:=by rw[hlen] at hk;exact hk
  rw[x3 k hk',List.getElem_map]
 ·have hk':k<es.length:=by rw[hlen] at hk;exact hk
  rw[x4 k hk',List.getElem?_eq_getElem hk',Option.getD_some,List.getElem_map]
  rfl
 ·rw[List.map_map] at hx
  obtain⟨y,hy,rfl⟩:=List.mem_map.1 hx
  exact child_any q hq (h4 y hy) y.1 W'
 ·exact⟨D,f,rfl,by simpa [kidsR] using hO,Turn.of_below (Below.refl _ _),fun _ _=>rfl,(fun j hj _ q' hq'=>hf q' ((List.prefix_append _ _).trans hq')),fun j hj h=>absurd h (Nat.not_lt_zero _)⟩
 ·rintro k D2 W2 W3 ⟨D1,f1,rfl,h1,h2,h3,h4',hmm⟩ hk
  exact⟨D1,f1,rfl,h1.keepOut hO.below.size hk,⟨⟨hk.os.trans h2.keeps.os,hk.tape.trans h2.keeps.tape,hk.output.trans h2.keeps.output,Nat.le_trans h2.keeps.size hk.size,fun x hx hnx=>(hk.block x (Nat.lt_of_lt_of_le hx h2.keeps.size) (.inl hx)).trans (h2.keeps.block x hx hnx)⟩,h2.own⟩,h3,h4',hmm⟩
 ·rintro k D2 W2 ⟨D1,f1,rfl,h1,_⟩ x hx
  exact (h1.inb x hx).2
 ·rintro k hk D2 W2 ⟨D1,f1,rfl,h1,h2,h3,h4',hmm⟩
  have hk':k<es.length:=by rw[hlen] at hk;exact hk
  have hm:=List.getElem_mem hk'
  obtain⟨hd1,_⟩:=hall k
  have hcnt:=cnt_take n es k hk'
  have hcl:=cnt_take_le n es (k+1)
  have:=ih es[k] hm D1 W2 _ f1 _ h1 (hdr.trans hd1) (h4' k hk' (Nat.le_refl _)) (by omega)
  rw[List.getElem_map,List.getElem?_eq_getElem hk',Option.getD_some]
  refine this.mono ?_
  rintro e w' ⟨he,D3,f3,k1,k2,k3,km⟩
  refine⟨he,Dow D3 ow,⟨D3,f3,rfl,?_,h2.trans k2,fun q' hq'=>?_,fun j hj hkj q' hq'=>?_,fun j hj hjk q' hq'=>?_⟩,k2⟩
  ·rw[hcnt,List.take_succ_eq_append_getElem hk',kidsR_snoc]
   have e1:N+2*((es.take k).map fun x=>cntO n x.2).sum+2*cntO n (es[k]).2=N+2*(((es.take k).map fun x=>cntO n x.2).sum+cntO n (es[k]).2):=by omega
   rw[<- e1];exact k1
  ·rw[k3 q' (fun h=>hq' ((List.prefix_append _ _).trans h)),h3 q' hq']
  ·have hne:(es[j]).1≠(es[k]).1:=by
    intro e
    have:=List.pairwise_iff_getElem.1 hr k j hk' hj (by omega)
    rw[e,cmpN_self] at this
    omega
   rw[k3 q' (apart hne hq')]
   exact h4' j hj (by omega) q' hq'
  ·rw[List.take_succ_eq_append_getElem hk',kidsR_snoc]
   have hob:=objR_ok g.fl n hn (es[k]).2 (kidsR g.fl n (es.take k) a).2 (hd1.exact (hdr.exact h.exact)) (by obtain⟨l1,e1⟩:=hd1.app;rw[e1];exact LTok_app l1 n _ (hka _ hm).2) (by obtain⟨l1,e1⟩:=hd1.app;rw[e1];exact hfa.app l1)
   by_cases ejk:j=k
   ·subst ejk
    exact km q' hq' (fun h=>by cases h)
   ·have hne:(es[j]).1≠(es[k]).1:=by
     intro e
     have:=List.pairwise_iff_getElem.1 hr j k hj hk' (by omega)
     rw[e,cmpN_self] at this
     omega
    obtain⟨l2,e2⟩:=hob.dr.app
    have:=(hmm j hj (by omega) q' hq').fn (k3 q' (apart hne hq'))
    show Memo objs (fcOf objs g.fl) t (objR g.fl n (es[k]).2 (kidsR g.fl n (es.take k) a).2).2 f3 q'
    rw[e2]
    exact this.app (hd1.exact (hdr.exact h.exact)).sound l2
 ·rintro D2 W2 v' ⟨D1,f1,rfl,h1,h2,h3,h4',hmm⟩ hrv
  rw[hlen] at h1 hrv
  rw[List.take_length] at h1
  obtain⟨hd1,hd2,hd3,hd4⟩:=hall es.length
  rw[List.take_length] at hd1 hd2 hd3 hd4
  rw[x1] at hrv
  have hl1:=kidsR_len g.fl n es a
  have hfew:=h1.few
  obtain⟨⟨ft,hP⟩,hdis⟩:=h.pool h1
  have hNm:Named (kidsR g.fl n es a).1:=⟨by rw[hl1];exact h16,fun e he=>fits_id (a:=(kidsR g.fl n es a).2) (by omega) (hd3 e he).1 (hd3 e he).2.1 (hd3 e he).2.2.1⟩
  rw[<- hl1] at hrv
  refine (ddir_any hP hdis h1.dinv (by omega) v' _ hrv hNm (rising_of_K (rising_names hd2 hr))).mono ?_
  rintro e w' ⟨he,hdi,hk⟩
  have hl:(dirD (kidsR g.fl n es a).2 (kidsR g.fl n es a).1).2.length<=N+2*(es.map fun x=>cntO n x.2).sum+1:=by
   unfold dirD
   cases dirAt (kidsR g.fl n es a).2 (kidsR g.fl n es a).1 with
   | none=>simp;omega
   | some _=>simp;omega
  obtain⟨k1,k2⟩:=h1.draft hdi hk (Nat.le_succ _) hl
  refine⟨he,_,f1,k1,h2.trans k2,h3,fun q' hq' hst=>?_⟩
  obtain⟨y,rfl⟩:=hq'
  intro c' hc' hi
  cases y with
  | nil=>exact absurd (List.append_nil q) (hst rfl)
  | cons m y=>
   rw[at_kid ha rfl] at hc'
   cases hp:pickK es m with
   | none=>rw[hp] at hc';cases hc'
   | some z=>
    have hmem:∃ j,∃ hj:j<es.length,(es[j]).1=m:=by
     unfold pickK at hp
     obtain⟨v,hv,_⟩:=Option.map_eq_some_iff.1 hp
     obtain⟨j,hj,ej⟩:=List.getElem_of_mem (List.mem_of_find?_eq_some hv)
     exact⟨j,hj,by rw[ej];simpa using List.find?_some hv⟩
    obtain⟨j,hj,ej⟩:=hmem
    have hme:=hmm j hj (by rw[hlen];exact hj) (q++m :: y) ⟨y,by rw[ej];simp⟩
    rw[hlen,List.take_length] at hme
    obtain⟨l2,e2⟩:∃ l2,(dirD (kidsR g.fl n es a).2 (kidsR g.fl n es a).1).2=(kidsR g.fl n es a).2++l2:=by
     unfold dirD
     cases dirAt (kidsR g.fl n es a).2 (kidsR g.fl n es a).1 with
     | none=>exact⟨_,rfl⟩
     | some _=>exact⟨[],by simp⟩
    have:=hme.app (hd1.exact (hdr.exact h.exact)).sound l2
    rw[<- e2] at this
    exact this c' (by rw[at_kid ha rfl];exact hc') hi
theorem object_all9 {tg:Tags}{w0:World}{g:WG}{lim:Nat}{t:LT}(h:Base8 tg w0 s i p B objs g lim t){b:DB}{ow:Nat}:∀ (n:Nat),n<=5->∀ (c:LT) (q:List ByteArray),LTok objs n c->t.at objs q=some c->Good q->q.length+n<=5->∀ (nm:ByteArray) (D:Nat->Prop) (W:World) (a:List Ob) (f:List ByteArray->Option Int) (N:Nat),OSt w0 p objs D W b ow a f N->Drafted objs a->(∀ q',q <+: q'->f q'=none)->N+2*cntO n c<3000->
  Calls Tryz.prog 65 #[.agg #[.pointer (some ⟨B.bt,0,none⟩),.pointer (some ⟨b.dr,0,none⟩),.map (some ow)],.agg (pathA q),.agg #[.string nm,.int .i64 c.kind,.int .i64 c.id]] W fun e w'=>e=.returned (.int .i64 (objR g.fl n c a).1)/\Left9 w0 p objs D W w' b ow (objR g.fl n c a).2 f q (N+2*cntO n c) (fcOf objs g.fl) t false:=by
 have hrd:∀ (n:Nat),n<=5->∀ (c:LT) (a:List Ob),Drafted objs a->LTok objs n c->LTok (objR g.fl n c a).2 5 (refOf c.kind (objR g.fl n c a).1)/\SemEq (objR g.fl n c a).2 fcE (refOf c.kind (objR g.fl n c a).1) objs (fcOf objs g.fl) c:=by
  intro n hn c a hdr hc
  obtain⟨l0,hl0⟩:=hdr.app
  have hXa:=hdr.exact h.exact
  have hca:LTok a n c:=by rw[hl0];exact LTok_app l0 n _ hc
  have hfa:FlSz a g.fl:=by rw[hl0];exact h.flSz.app l0
  have hob:=objR_ok g.fl n hn c a hXa hca hfa
  refine⟨ltok_five hn hob.kind hob.high (lt_kind12 c),fun y=>(objR_reads g.fl fcE n hn c a hXa hca hfa y).trans ?_⟩
  rw[hl0,fc_app h.flSz l0]
  exact sem_app h.exact.sound l0 _ y n _ hc
 have hst:∀ (n:Nat) (c:LT) (q:List ByteArray) (nm:ByteArray) (D:Nat->Prop) (W:World) (a:List Ob) (f:List ByteArray->Option Int) (N:Nat),OSt w0 p objs D W b ow a f N->t.at objs q=some c->LTok objs n c->((∃ i,c=.file i)\/∃ i,c=.dir i)->kindOf objs c.id≠0->objR g.fl n c a=(c.id,a)->
   Calls Tryz.prog 65 #[.agg #[.pointer (some ⟨B.bt,0,none⟩),.pointer (some ⟨b.dr,0,none⟩),.map (some ow)],.agg (pathA q),.agg #[.string nm,.int .i64 c.kind,.int .i64 c.id]] W fun e w'=>e=.returned (.int .i64 (objR g.fl n c a).1)/\Left9 w0 p objs D W w' b ow (objR g.fl n c a).2 f q (N+2*cntO n c) (fcOf objs g.fl) t false:=by
  intro n c q nm D W a f N hO ha hok hst hk he
  rw[he]
  have hid:c.id≠0:=fun e=>by have:=(kindOf_pos hk).1;omega
  refine (oobject_stored B.bt b.dr ow _ _ _ _ _ nm c.kind c.id W hid).mono ?_
  rintro e w' ⟨h1,h2⟩
  exact⟨h1,(Left8.of_below hO h2 (Nat.le_add_right _ _)).nine (fun q' c' hq' _ hc'=>stored_id h.exact.sound ha hok hst hq' hc')⟩
 have hheld:∀ (n:Nat) (fb:Nat) (q:List ByteArray),t.at objs q=some (.held fb)->Good q->∀ (nm:ByteArray) (D:Nat->Prop) (W:World) (a:List Ob) (f:List ByteArray->Option Int) (N:Nat),OSt w0 p objs D W b ow a f N->Drafted objs a->(∀ q',q <+: q'->f q'=none)->N+2<3000->n<=5->objR g.fl n (.held fb) a=heldR (g.fl fb) a->cntO n (.held fb)=1->
   Calls Tryz.prog 65 #[.agg #[.pointer (some ⟨B.bt,0,none⟩),.pointer (some ⟨b.dr,0,none⟩),.map (some ow)],.agg (pathA q),.agg #[.string nm,.int .i64 1,.int .i64 0]] W fun e w'=>e=.returned (.int .i64 (objR g.fl n (.held fb) a).1)/\Left9 w0 p objs D W w' b ow (objR g.fl n (.held fb) a).2 f q (N+2*cntO n (.held fb)) (fcOf objs g.fl) t false:=by
  intro n fb q ha hq nm D W a f N hO hdr hf hN hn he hc
  have hread:=hrd n hn (.held fb) a hdr (by rw[LTok];trivial)
  rw[he] at hread
  rw[he,hc]
  refine object_own9 (tg:=tg) (g:=g) (lim:=lim) (t:=t) hO hq (hf q (List.prefix_refl _)) nm 1 _ (N':=N+1) (by omega) ha hread (fun W1 hb1=>?_)
  refine owork_file B.bt b.dr ow _ _ _ _ _ _ _ W1 (fun W2 hb2=>?_)
  refine (file_all h ((hO.via hb1).via hb2) (by omega) hq ha).mono ?_
  rintro e w' ⟨h1,h2⟩
  refine⟨h1,(h2.via hb2).nine (fun q' c' hq' hne hc'=>?_)⟩
  obtain⟨y,rfl⟩:=hq'
  cases y with
  | nil=>exact absurd (List.append_nil q) (hne rfl)
  | cons m y=>rw[at_append,ha,Option.bind_some,at_cons] at hc';cases hc'
 have hdir:∀ (n:Nat) (es:Kids) (q:List ByteArray) (nm:ByteArray) (D:Nat->Prop) (W:World) (a:List Ob) (f:List ByteArray->Option Int) (N N':Nat) (rr:Int×List Ob),OSt w0 p objs D W b ow a f N->t.at objs q=some (.own es)->(LTok rr.2 5 (refOf 2 rr.1)/\SemEq rr.2 fcE (refOf 2 rr.1) objs (fcOf objs g.fl) (.own es))->Good q->(∀ q',q <+: q'->f q'=none)->N'<3000->
   (∀ W1,Below W.heap.size W W1->Calls Tryz.prog 109 #[.agg #[.pointer (some ⟨B.bt,0,none⟩),.pointer (some ⟨b.dr,0,none⟩),.map (some ow)],.agg (pathA q),.int .i64 2] W1 fun e w'=>e=.returned (.int .i64 rr.1)/\Left9 w0 p objs D W1 w' b ow rr.2 f q N' (fcOf objs g.fl) t true)->
   Calls Tryz.prog 65 #[.agg #[.pointer (some ⟨B.bt,0,none⟩),.pointer (some ⟨b.dr,0,none⟩),.map (some ow)],.agg (pathA q),.agg #[.string nm,.int .i64 2,.int .i64 0]] W fun e w'=>e=.returned (.int .i64 rr.1)/\Left9 w0 p objs D W w' b ow rr.2 f q (N'+1) (fcOf objs g.fl) t false:=by
  intro n es q nm D W a f N N' rr hO ha hread hq hf hN hw
  exact object_own9 (tg:=tg) (g:=g) (lim:=lim) (t:=t) hO hq (hf q (List.prefix_refl _)) nm 2 _ (by omega) ha hread hw
 intro n
 induction n with
 | zero=>
  intro hn c q hc ha hq hlen nm D W a f N hO hdr hf hN
  cases c with
  | file id=>exact hst 0 (.file id) q nm D W a f N hO ha hc (.inl ⟨_,rfl⟩) (by rw[LTok] at hc;show kindOf objs id≠0;rw[hc];decide) (by rw[objR];rfl)
  | dir id=>exact hst 0 (.dir id) q nm D W a f N hO ha hc (.inr ⟨_,rfl⟩) (by rw[LTok] at hc;show kindOf objs id≠0;rw[hc.1];decide) (by rw[objR];rfl)
  | held fb=>exact hheld 0 fb q ha hq nm D W a f N hO hdr hf (by rw[cntO] at hN;omega) (by omega) (by rw[objR]) (by rw[cntO])
  | own es=>
   have hread:=hrd 0 (by omega) (.own es) a hdr hc
   rw[LTok] at hc
   subst hc
   have hcn:cntO 0 (.own [])=1:=by rw[cntO]
   rw[hcn] at hN ⊢
   have hob:objR g.fl 0 (.own []) a=dirD a []:=by rw[objR]
   rw[hob] at hread ⊢
   refine hdir 0 [] q nm D W a f N (N+1) (dirD a []) hO ha hread hq hf (by omega) (fun W1 hb1=>?_)
   exact work_dir9 h 0 (by omega) (es:=[]) List.Pairwise.nil (by simp) (fun x hx=>by cases hx) ha hq (fun x hx=>by cases hx) (hO.via hb1) hdr hf (by simp;omega) (fun x hx=>by cases hx)
 | succ n ih=>
  intro hn c q hc ha hq hlen nm D W a f N hO hdr hf hN
  cases c with
  | file id=>exact hst _ (.file id) q nm D W a f N hO ha hc (.inl ⟨_,rfl⟩) (by rw[LTok] at hc;show kindOf objs id≠0;rw[hc];decide) (by rw[objR];rfl)
  | dir id=>exact hst _ (.dir id) q nm D W a f N hO ha hc (.inr ⟨_,rfl⟩) (by rw[LTok] at hc;show kindOf objs id≠0;rw[hc.1];decide) (by rw[objR];rfl)
  | held fb=>exact hheld _ fb q ha hq nm D W a f N hO hdr hf (by rw[cntO] at hN;omega) (by omega) (by rw[objR]) (by rw[cntO])
  | own es=>
   have hread:=hrd (n+1) hn (.own es) a hdr hc
   rw[LTok] at hc
   have hcn:cntO (n+1) (.own es)=1+(es.map fun x=>cntO n x.2).sum:=by rw[cntO]
   rw[hcn] at hN ⊢
   rw[objR_own] at hread ⊢
   have e1:N+2*(1+(es.map fun x=>cntO n x.2).sum)=N+2*(es.map fun x=>cntO n x.2).sum+1+1:=by omega
   rw[e1]
   refine hdir n es q nm D W a f N _ (dirD (kidsR g.fl n es a).2 (kidsR g.fl n es a).1) hO ha hread hq hf (by omega) (fun W1 hb1=>?_)
   refine work_dir9 h n (by omega) (es:=es) hc.1 hc.2.1 hc.2.2 ha hq (fun x hx=>by omega) (hO.via hb1) hdr hf (by omega) (fun x hx D W a f N hO' hdr' hf' hN'=>?_)
   have hg:Good (q ++ [x.1]):=⟨hq.val.append (fun y hy=>by simp at hy;rw[hy];exact (hc.2.2 x hx).1),by simp;omega⟩
   exact ih (by omega) x.2 (q ++ [x.1]) (hc.2.2 x hx).2 (at_own ha hc.1 hx) hg (by simp;omega) x.1 D W a f N hO' hdr' hf' hN'
end
end Go.Proofs.YtajopoddmfdejaaGreat
