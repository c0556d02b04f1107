/-
  What is proved here: canopykeep's do, in the words of the model. how many things stand in a tree, and that a step makes them at most one more. what a script's steps keep: e at the root, no file under two paths, ..
-/
import Derived.Test.YtajopoddmfdejaaGreatRetM35
import Derived.Test.YtajopoddmfdejaaGreatRetM29
import Derived.Deep.RegionHeld3
import Derived.Test.YtajopoddmfdejaaGreatRetM31
import Derived.Test.YtajopoddmfdejaaGreatRetM24
import Derived.Test.YtajopoddmfdejaaGreatRetM28
import Derived.Test.YtajopoddmfdejaaGreatRetM30
import Derived.Test.YtajopoddmfdejaaGreatRetM14
namespace Go.Proofs.YtajopoddmfdejaaGreat
open Go.RowKit Go.Sort Go.Shelf
set_option linter.unusedVariables false
set_option maxRecDepth 100000
set_option maxHeartbeats 16000000
section
variable {s i p:Nat}{B:WB}{objs:List Ob}
def StepTo (objs:List Ob)(g:WG)(t:LT)(k:Int)(na nb:ByteArray)(ra rb:List ByteArray)(d:ByteArray)(er:Int)(g':WG)(t':LT):Prop:=
 (k<3/\PutTo objs g t na ra d er g' t')\/
 (k=3/\er=(mkdirR objs t g.fs (na :: ra)).2.1/\TreeTo g (mkdirR objs t g.fs (na :: ra)).1 (mkdirR objs t g.fs (na :: ra)).2.2 g' t')\/
 (k=4/\er=(removeR objs t g.fs (na :: ra)).2.1/\TreeTo g (removeR objs t g.fs (na :: ra)).1 (removeR objs t g.fs (na :: ra)).2.2 g' t')\/
 (k=5/\er=(renameR objs t g.fs (na :: ra) (nb :: rb)).2.1/\TreeTo g (renameR objs t g.fs (na :: ra) (nb :: rb)).1 (renameR objs t g.fs (na :: ra) (nb :: rb)).2.2 g' t')
theorem QTo.box {tg:Tags}{w w':World}{lim:Nat}{R:WG->LT->Prop}(hi:2<=i){W:World}(hb:Below w.heap.size w W)(ht:tg w.heap.size=(0,0))(hz:w.heap.size<W.heap.size)(h:QTo s i p B objs tg W w' lim R)(o:Nat):w'.cell? ⟨w.heap.size,o,none⟩=W.cell? ⟨w.heap.size,o,none⟩:=by
 obtain⟨tg',g',t',m,hK,_⟩:=h
 exact kept_cell hi m hz ht o
theorem do_exact {tg:Tags}{w:World}{g:WG}{lim:Nat}{t:LT}(h:QInv tg w s i p B objs g lim t)(hl:lim+1000<1099511627776)(kd a b:Int)(d:ByteArray)(hk:i64 kd)(ha:i64 a)(hb:i64 b)(hd:d.size<=maxLen){na nb:ByteArray}{ra rb:List ByteArray}(hpa0:pathL a=ra.reverse ++ [na])(hpb0:pathL b=rb.reverse ++ [nb]):
  Calls Tryz.prog 14 #[.pointer (some ⟨B.wb,0,none⟩),.agg #[.int .i64 kd,.int .i64 a,.int .i64 b,.string d]] w fun e w'=>∃ er,e=.returned (.int .i64 er)/\QTo s i p B objs tg w w' (lim+500) (StepTo objs g t (pickN kd 6) na nb ra rb (shortB d) er):=by
 have hi:=h.inv.two
 have hpk:=fun W=>kpick_any kd 6 W hk (by decide) (by decide)
 obtain⟨hp0,hp1⟩:=pickN_range (c:=kd) (n:=6) (by decide)
 generalize pickN kd 6=pk at hpk hp0 hp1
 have hpa:=fun W=>path_exact a W ha
 have hpb:=fun W=>path_exact b W hb
 have hla:=(pathL_letters a).good
 have hlb:=(pathL_letters b).good
 rw[hpa0] at hpa hla
 rw[hpb0] at hpb hlb
 have hb0:Below w.heap.size w (w.alloc (.cells #[.int .i64 kd,.int .i64 a,.int .i64 b,.string d] 24)):=(Below.refl _ _).alloc (Nat.le_refl _) _
 have hbd:Below w.heap.size w (w.alloc (.cells #[.int .i64 kd,.int .i64 a,.int .i64 b,.string d] 24)).drew:=below_drew hb0
 have hput:=qput (h.below hbd) hl hla d hd
 have hmk:=qmkdir (h.below hb0) hl hla
 have hrm:=qremove (h.below hb0) hl hla
 have hrn:=qrename (h.below hbd) hl hla hlb
 have ht0:tg w.heap.size=(0,0):=h.inv.st.fresh _ (Nat.le_refl _)
 have hz0:w.heap.size<(w.alloc (.cells #[.int .i64 kd,.int .i64 a,.int .i64 b,.string d] 24)).heap.size:=by simp
 have hSD:=step_cells (heap_alloc_new w (.cells #[.int .i64 kd,.int .i64 a,.int .i64 b,.string d] 24))
 have HSD:Hid _:=hSD
 have hSDd:(w.alloc (.cells #[.int .i64 kd,.int .i64 a,.int .i64 b,.string d] 24)).drew.cell? ⟨w.heap.size,0,none⟩=some (.int .i64 kd)/\(w.alloc (.cells #[.int .i64 kd,.int .i64 a,.int .i64 b,.string d] 24)).drew.cell? ⟨w.heap.size,1,none⟩=some (.int .i64 a)/\(w.alloc (.cells #[.int .i64 kd,.int .i64 a,.int .i64 b,.string d] 24)).drew.cell? ⟨w.heap.size,2,none⟩=some (.int .i64 b)/\(w.alloc (.cells #[.int .i64 kd,.int .i64 a,.int .i64 b,.string d] 24)).drew.cell? ⟨w.heap.size,3,none⟩=some (.string d):=hSD
 obtain⟨q0,q1,q2,q3⟩:=hSD
 have HPUT:Hid _:=hput
 have HMK:Hid _:=hmk
 have HRM:Hid _:=hrm
 have HRN:Hid _:=hrn
 have HB0:Hid _:=And.intro hb0 (And.intro hbd (And.intro ht0 hz0))
 clear h hput hmk hrm hrn hk ha hb hb0 hbd ht0 hz0 hla hlb hpa0 hpb0
 have HPAB:Hid (joinB (ra.reverse ++ [na])=joinB (ra.reverse ++ [na])/\joinB (rb.reverse ++ [nb])=joinB (rb.reverse ++ [nb])):=⟨rfl,rfl⟩
 generalize joinB (ra.reverse ++ [na])=ja at hpa HPUT HMK HRM HRN
 generalize joinB (rb.reverse ++ [nb])=jb at hpb HRN
 generalize shortB d=sd at HPUT ⊢
 clear HPAB
 have hcase:pk=0\/pk=1\/pk=2\/pk=3\/pk=4\/pk=5:=by omega
 go_enter Tryz.func14,Tryz.ntmps14
 rcases hcase with rfl | rfl | rfl | rfl | rfl | rfl
 ·go_wp2_with (go_at_call 18;refine Calls.mono (hpk _) ?_;rintro e w1 ⟨rfl,rfl⟩)
  go_region_held3 (fun w'=>w'.cell? ⟨w.heap.size,0,none⟩=some (.int .i64 kd)/\w'.cell? ⟨w.heap.size,1,none⟩=some (.int .i64 a)/\w'.cell? ⟨w.heap.size,2,none⟩=some (.int .i64 b)/\w'.cell? ⟨w.heap.size,3,none⟩=some (.string d)) (first | exact hSDd | exact hS4) (first
   | (go_at_call 16;refine Calls.mono (hpa _) ?_;rintro e w2 ⟨rfl,rfl⟩)
   | (go_at_call 26;refine Calls.mono HPUT.out ?_;rintro e w3 ⟨er,rfl,hK⟩;have hS4:=step_keep hSDd (QTo.box hi HB0.out.2.1 HB0.out.2.2.1 HB0.out.2.2.2 hK);have HK:Hid _:=hK;clear hK))
  go_wp2
  go_ret
  exact⟨er,rfl,QTo.imp (QTo.via HB0.out.2.1 HK.out) (fun g' t' h=>.inl ⟨by decide,h⟩)⟩
 ·go_wp2_with (go_at_call 18;refine Calls.mono (hpk _) ?_;rintro e w1 ⟨rfl,rfl⟩)
  go_region_held3 (fun w'=>w'.cell? ⟨w.heap.size,0,none⟩=some (.int .i64 kd)/\w'.cell? ⟨w.heap.size,1,none⟩=some (.int .i64 a)/\w'.cell? ⟨w.heap.size,2,none⟩=some (.int .i64 b)/\w'.cell? ⟨w.heap.size,3,none⟩=some (.string d)) (first | exact hSDd | exact hS4) (first
   | (go_at_call 16;refine Calls.mono (hpa _) ?_;rintro e w2 ⟨rfl,rfl⟩)
   | (go_at_call 26;refine Calls.mono HPUT.out ?_;rintro e w3 ⟨er,rfl,hK⟩;have hS4:=step_keep hSDd (QTo.box hi HB0.out.2.1 HB0.out.2.2.1 HB0.out.2.2.2 hK);have HK:Hid _:=hK;clear hK))
  go_wp2
  go_ret
  exact⟨er,rfl,QTo.imp (QTo.via HB0.out.2.1 HK.out) (fun g' t' h=>.inl ⟨by decide,h⟩)⟩
 ·go_wp2_with (go_at_call 18;refine Calls.mono (hpk _) ?_;rintro e w1 ⟨rfl,rfl⟩)
  go_region_held3 (fun w'=>w'.cell? ⟨w.heap.size,0,none⟩=some (.int .i64 kd)/\w'.cell? ⟨w.heap.size,1,none⟩=some (.int .i64 a)/\w'.cell? ⟨w.heap.size,2,none⟩=some (.int .i64 b)/\w'.cell? ⟨w.heap.size,3,none⟩=some (.string d)) (first | exact hSDd | exact hS4) (first
   | (go_at_call 16;refine Calls.mono (hpa _) ?_;rintro e w2 ⟨rfl,rfl⟩)
   | (go_at_call 26;refine Calls.mono HPUT.out ?_;rintro e w3 ⟨er,rfl,hK⟩;have hS4:=step_keep hSDd (QTo.box hi HB0.out.2.1 HB0.out.2.2.1 HB0.out.2.2.2 hK);have HK:Hid _:=hK;clear hK))
  go_wp2
  go_ret
  exact⟨er,rfl,QTo.imp (QTo.via HB0.out.2.1 HK.out) (fun g' t' h=>.inl ⟨by decide,h⟩)⟩
 ·go_wp2_with (first
   | (go_at_call 18;refine Calls.mono (hpk _) ?_;rintro e w1 ⟨rfl,rfl⟩)
   | (go_at_call 16;refine Calls.mono (hpa _) ?_;rintro e w2 ⟨rfl,rfl⟩)
   | (go_at_call 23;refine Calls.mono HMK.out ?_;rintro e w3 ⟨rfl,hK⟩))
  go_ret
  exact⟨_,rfl,QTo.imp ((QTo.via HB0.out.1 hK).mono (by omega)) (fun g' t' h=>.inr (.inl ⟨rfl,rfl,h⟩))⟩
 ·go_wp2_with (first
   | (go_at_call 18;refine Calls.mono (hpk _) ?_;rintro e w1 ⟨rfl,rfl⟩)
   | (go_at_call 16;refine Calls.mono (hpa _) ?_;rintro e w2 ⟨rfl,rfl⟩)
   | (go_at_call 25;refine Calls.mono HRM.out ?_;rintro e w3 ⟨rfl,hK⟩))
  go_ret
  exact⟨_,rfl,QTo.imp ((QTo.via HB0.out.1 hK).mono (by omega)) (fun g' t' h=>.inr (.inr (.inl ⟨rfl,rfl,h⟩)))⟩
 ·go_wp2_with (go_at_call 18;refine Calls.mono (hpk _) ?_;rintro e w1 ⟨rfl,rfl⟩)
  go_region_held3 (fun w'=>w'.cell? ⟨w.heap.size,0,none⟩=some (.int .i64 kd)/\w'.cell? ⟨w.heap.size,1,none⟩=some (.int .i64 a)/\w'.cell? ⟨w.heap.size,2,none⟩=some (.int .i64 b)/\w'.cell? ⟨w.heap.size,3,none⟩=some (.string d)) (first | exact hSDd | exact hS4) (first
   | (go_at_call_of 16 (Value.int .i64 a);refine Calls.mono (hpa _) ?_;rintro e w2 ⟨rfl,rfl⟩)
   | (go_at_call_of 16 (Value.int .i64 b);refine Calls.mono (hpb _) ?_;rintro e w2 ⟨rfl,rfl⟩)
   | (go_at_call 24;refine Calls.mono HRN.out ?_;rintro e w3 ⟨rfl,hK⟩;have hS4:=step_keep hSDd (QTo.box hi HB0.out.2.1 HB0.out.2.2.1 HB0.out.2.2.2 hK);have HK:Hid _:=hK;clear hK))
  go_wp2
  go_ret
  exact⟨_,rfl,QTo.imp (QTo.mono (QTo.via HB0.out.2.1 HK.out) (by omega)) (fun g' t' h=>.inr (.inr (.inr ⟨rfl,rfl,h⟩)))⟩
end
def big (objs:List Ob):Nat->LT->Nat
 | 0,_=>1
 | n+1,t=>1+(((kids objs t).getD []).map fun x=>big objs n x.2).sum
def bigs (objs:List Ob)(n:Nat)(ks:Kids):Nat:=(ks.map fun x=>big objs n x.2).sum
theorem big_succ (objs:List Ob)(n:Nat)(t:LT):big objs (n+1) t=1+bigs objs n ((kids objs t).getD []):=by rw[big];rfl
theorem big_pos (objs:List Ob)(n:Nat)(t:LT):1<=big objs n t:=by cases n <;> (rw[big];try omega)
theorem cnt_big (objs:List Ob):∀ (n:Nat) (t:LT),cntO n t<=big objs n t
 | n,.file id=>by have:=big_pos objs n (.file id);cases n <;> (rw[cntO];omega)
 | n,.dir id=>by have:=big_pos objs n (.dir id);cases n <;> (rw[cntO];omega)
 | n,.held f=>by have:=big_pos objs n (.held f);cases n <;> (rw[cntO];omega)
 | 0,.own es=>by rw[cntO,big];omega
 | n+1,.own es=>by
  rw[cntO,big_succ]
  have hk:(kids objs (.own es)).getD []=es:=rfl
  rw[hk]
  unfold bigs
  have key:∀ l:Kids,(l.map fun x=>cntO n x.2).sum<=(l.map fun x=>big objs n x.2).sum:=by
   intro l
   induction l with
   | nil=>exact Nat.le_refl _
   | cons x r ih=>
    have:=cnt_big objs n x.2
    simp only[List.map_cons,List.sum_cons]
    omega
  have:=key es
  omega
theorem big_stable {objs:List Ob}(hS:Sound objs):∀ (n m:Nat) (c:LT),n<=m->LTok objs n c->big objs m c=big objs n c:=by
 intro n
 induction n with
 | zero=>
  intro m c _ h
  cases m with
  | zero=>rfl
  | succ m=>
   rw[big_succ,big]
   cases hk:kids objs c with
   | none=>rfl
   | some ks=>
    obtain⟨_,_,h3⟩:=ok_kids hS h hk
    have:ks = []:=by
     cases ks with
     | nil=>rfl
     | cons x r=>obtain⟨_,k,hk2,_⟩:=h3 x (by simp);omega
    subst this;rfl
 | succ n ih=>
  intro m c hm h
  cases m with
  | zero=>omega
  | succ m=>
   rw[big_succ,big_succ]
   cases hk:kids objs c with
   | none=>rfl
   | some ks=>
    obtain⟨_,_,h3⟩:=ok_kids hS h hk
    have key:∀ l:Kids,(∀ x ∈ l,x ∈ ks)->bigs objs m l=bigs objs n l:=by
     intro l
     induction l with
     | nil=>intro _;rfl
     | cons x r ihl=>
      intro hl
      obtain⟨_,k,hk2,hok⟩:=h3 x (hl x (by simp))
      obtain rfl:k=n:=by omega
      have e1:=ih m x.2 (by omega) hok
      have e2:=ihl (fun y hy=>hl y (by simp[hy]))
      unfold bigs at e2 ⊢
      simp only[List.map_cons,List.sum_cons]
      omega
    rw[Option.getD_some,key ks (fun x hx=>hx)]
theorem bigs_map (objs:List Ob)(m:Nat)(g:LT->LT):∀ {ks:Kids},RisingK ks->∀ {n:ByteArray} {c:LT},pickK ks n=some c->bigs objs m (ks.map fun x=>if x.1=n then (x.1,g x.2) else x)+big objs m c=bigs objs m ks+big objs m (g c)
 | [],_,n,c,h=>by simp[pickK] at h
 | x :: r,hr,n,c,h=>by
  unfold bigs
  simp only[List.map_cons,List.sum_cons]
  by_cases hx:x.1=n
  ·have hc:x.2=c:=pick_unique hr h (by simp) hx
   have hrest:(r.map fun x=>if x.1=n then (x.1,g x.2) else x)=r:=by
    conv=>rhs;rw[<- List.map_id r]
    refine List.map_congr_left fun y hy=>?_
    have hlt:=(List.pairwise_cons.1 hr).1 y hy
    rw[if_neg (fun e=>by rw[hx,e,cmpN_self] at hlt;omega)];rfl
   rw[if_pos hx,hrest,hc]
   simp only
   omega
  ·rw[if_neg hx]
   have hp:pickK r n=some c:=by
    unfold pickK at h ⊢
    rw[List.find?_cons_of_neg (by simpa using hx)] at h;exact h
   have ih:=bigs_map objs m g hr.tail hp
   unfold bigs at ih
   omega
theorem big_mod {objs:List Ob}(hS:Sound objs)(f:Kids->Kids):∀ (p:List ByteArray) (m k:Nat) (t d:LT) (ks:Kids),LTok objs k t->t.at objs p=some d->kids objs d=some ks->
  big objs (p.length+1+m) (modG objs f p t)+bigs objs m ks=big objs (p.length+1+m) t+bigs objs m (f ks)
 | [],m,k,t,d,ks,_,ha,hk=>by
  rw[at_nil] at ha;cases ha
  rw[List.length_nil,Nat.zero_add,Nat.add_comm 1 m,big_succ,big_succ,modG_kids,hk]
  simp only[Option.getD_some]
  omega
 | n :: p,m,k,t,d,ks,hok,ha,hk=>by
  rw[at_cons] at ha
  cases hkt:kids objs t with
  | none=>rw[hkt] at ha;simp at ha
  | some es=>
   rw[hkt,Option.bind_some] at ha
   cases hc:pickK es n with
   | none=>rw[hc] at ha;simp at ha
   | some c=>
    rw[hc,Option.bind_some] at ha
    obtain⟨hr,_,h3⟩:=ok_kids hS hok hkt
    obtain⟨_,k',_,hok'⟩:=h3 _ (pick_mem hc)
    have ih:=big_mod hS f p m k' c d ks hok' ha hk
    have e:(n :: p).length+1+m=(p.length+1+m)+1:=by simp;omega
    rw[e,big_succ,big_succ,modG_cons,hkt]
    simp only[Option.getD_some]
    have hm:=bigs_map objs (p.length+1+m) (modG objs f p) hr hc
    omega
theorem bigs_put (objs:List Ob)(m:Nat)(n:ByteArray)(c:LT):∀ {ks:Kids},RisingK ks->bigs objs m (putK ks n c)<=bigs objs m ks+big objs m c
 | [],_=>by
  have e:putK ([]:Kids) n c = [(n,c)]:=rfl
  rw[e];unfold bigs;simp
 | x :: r,hr=>by
  by_cases h:cmpN x.1 n<0
  ·rw[putK_cons_lt h]
   have ih:=bigs_put objs m n c hr.tail
   unfold bigs at ih ⊢
   simp only[List.map_cons,List.sum_cons]
   omega
  ·rw[putK_cons_ge hr h]
   unfold bigs
   by_cases hx:x.1=n
   ·rw[if_pos hx];simp only[List.map_cons,List.sum_cons];omega
   ·rw[if_neg hx];simp only[List.map_cons,List.sum_cons];omega
theorem bigs_drop (objs:List Ob)(m:Nat):∀ {ks:Kids},RisingK ks->∀ {n:ByteArray} {c:LT},pickK ks n=some c->bigs objs m (dropK ks n)+big objs m c=bigs objs m ks
 | [],_,n,c,h=>by simp[pickK] at h
 | x :: r,hr,n,c,h=>by
  by_cases hlt:cmpN x.1 n<0
  ·have hx:x.1≠n:=fun e=>by rw[e,cmpN_self] at hlt;omega
   have hp:pickK r n=some c:=by
    unfold pickK at h ⊢
    rw[List.find?_cons_of_neg (by simpa using hx)] at h;exact h
   rw[dropK_cons_lt hlt]
   have ih:=bigs_drop objs m hr.tail hp
   unfold bigs at ih ⊢
   simp only[List.map_cons,List.sum_cons]
   omega
  ·rw[dropK_cons_ge hr hlt]
   have hx:x.1=n:=by
    have hm:=pick_mem h
    rcases List.mem_cons.1 hm with e | e
    ·rw[<- e]
    ·have h1:=(List.pairwise_cons.1 hr).1 _ e
     exact absurd h1 hlt
   have hc:x.2=c:=pick_unique hr h (by simp) hx
   unfold bigs
   simp only[List.map_cons,List.sum_cons]
   rw[hc];omega
theorem big_put {objs:List Ob}(hS:Sound objs){t d c:LT}{q:List ByteArray}{ks:Kids}(hok:LTok objs 5 t)(ha:t.at objs q=some d)(hk:kids objs d=some ks)(hq:q.length<=4)(n:ByteArray):big objs 5 (modG objs (fun ks=>putK ks n c) q t)<=big objs 5 t+big objs (4-q.length) c:=by
 obtain⟨_,hd,_⟩:=ok_at hS q hok ha
 obtain⟨hr,_,_⟩:=ok_kids hS hd hk
 have h:=big_mod hS (fun ks=>putK ks n c) q (4-q.length) 5 t d ks hok ha hk
 have e:q.length+1+(4-q.length)=5:=by omega
 rw[e] at h
 have:=bigs_put objs (4-q.length) n c hr
 omega
theorem big_drop {objs:List Ob}(hS:Sound objs){t d c:LT}{q:List ByteArray}{ks:Kids}(hok:LTok objs 5 t)(ha:t.at objs q=some d)(hk:kids objs d=some ks){n:ByteArray}(hp:pickK ks n=some c):big objs 5 (modG objs (fun ks=>dropK ks n) q t)+big objs (4-q.length) c=big objs 5 t:=by
 obtain⟨_,hd,_⟩:=ok_at hS q hok ha
 obtain⟨hr,_,h3⟩:=ok_kids hS hd hk
 obtain⟨_,m,hm,_⟩:=h3 _ (pick_mem hp)
 have h:=big_mod hS (fun ks=>dropK ks n) q (4-q.length) 5 t d ks hok ha hk
 have e:q.length+1+(4-q.length)=5:=by omega
 rw[e] at h
 have:=bigs_drop objs (4-q.length) hr hp
 omega
theorem look_at {objs:List Ob}{t:LT}{fs:FS}{r:List ByteArray}(h:(lookR objs t fs r).2.1=0):∃ d,t.at objs r.reverse=some d/\kids objs d=some (lookR objs t fs r).2.2:=by
 exact (kept_of_look h).1
theorem big_mkdir {objs:List Ob}(hS:Sound objs){t:LT}(hok:LTok objs 5 t)(fs:FS){n:ByteArray}{r:List ByteArray}(hr:r.length<=4):big objs 5 (mkdirR objs t fs (n :: r)).2.2<=big objs 5 t+1:=by
 unfold mkdirR
 by_cases h0:(lookR objs t fs r).2.1≠0
 ·simp only[if_pos h0];omega
 ·simp only[if_neg h0]
  by_cases h1:(pickK (lookR objs t fs r).2.2 n).isSome
  ·simp only[if_pos h1];omega
  ·simp only[if_neg h1]
   by_cases h2:16<=(lookR objs t fs r).2.2.length
   ·simp only[if_pos h2];omega
   ·simp only[if_neg h2]
    obtain⟨d,ha,hk⟩:=look_at (Decidable.not_not.1 h0)
    have hq:r.reverse.length<=4:=by simpa using hr
    have hb:∀ k,big objs k (.own [])=1:=by intro k;cases k <;> (rw[big];try rfl)
    have:=big_put hS (c:=.own []) hok ha hk hq n
    rw[hb] at this
    exact this
theorem big_remove {objs:List Ob}(hS:Sound objs){t:LT}(hok:LTok objs 5 t)(fs:FS){n:ByteArray}{r:List ByteArray}:big objs 5 (removeR objs t fs (n :: r)).2.2<=big objs 5 t:=by
 unfold removeR
 by_cases h0:(findR objs t fs (n :: r)).2.1≠0
 ·simp only[if_pos h0];omega
 ·simp only[if_neg h0]
  by_cases h1:(vacantG objs (findR objs t fs (n :: r)).1 (findR objs t fs (n :: r)).2.2).2≠0
  ·simp only[if_pos h1];omega
  ·simp only[if_neg h1]
   obtain⟨ha,_⟩:=kept_of_find (Decidable.not_not.1 h0)
   rw[List.reverse_cons] at ha
   obtain⟨d,ks,ha,hk,hp⟩:=at_snoc ha
   have:=big_drop hS hok ha hk hp
   omega
theorem big_rename {objs:List Ob}(hS:Sound objs){t:LT}(hok:LTok objs 5 t)(fs:FS){n m:ByteArray}{r q:List ByteArray}(hq:q.length<=4):big objs 5 (renameR objs t fs (n :: r) (m :: q)).2.2<=big objs 5 t:=by
 have hle:=Nat.le_refl (big objs 5 t)
 unfold renameR
 by_cases h0:(findR objs t fs (n :: r)).2.1≠0
 ·simp only[if_pos h0];exact hle
 simp only[if_neg h0]
 by_cases h1:(n :: r).reverse <+: (m :: q).reverse/\n :: r≠m :: q
 ·rw[if_pos h1];exact hle
 rw[if_neg h1]
 by_cases h2:(lookR objs t (findR objs t fs (n :: r)).1 q).2.1≠0\/n :: r=m :: q
 ·rw[if_pos h2];exact hle
 rw[if_neg h2]
 by_cases h3:(roomG objs (lookR objs t (findR objs t fs (n :: r)).1 q).1 (decide (r=q)) (lookR objs t (findR objs t fs (n :: r)).1 q).2.2 m (findR objs t fs (n :: r)).2.2).2≠0
 ·rw[if_pos h3];exact hle
 rw[if_neg h3]
 by_cases h4:5<((q.length+1:Nat):Int)+hgt objs 5 (findR objs t fs (n :: r)).2.2
 ·rw[if_pos h4];exact hle
 rw[if_neg h4]
 obtain⟨ha,_⟩:=kept_of_find (Decidable.not_not.1 h0)
 have ha0:=ha
 rw[List.reverse_cons] at ha
 generalize (findR objs t fs (n :: r)).2.2=c at ha ha0 h4 ⊢
 obtain⟨df,kf,haf,hkf,hpf⟩:=at_snoc ha
 have hne:(lookR objs t (findR objs t fs (n :: r)).1 q).2.1=0:=Decidable.not_not.1 (fun h=>h2 (.inl h))
 obtain⟨dt,hat,hkt⟩:=look_at hne
 generalize (lookR objs t (findR objs t fs (n :: r)).1 q).2.2=kt at hkt
 obtain⟨_,hdf,_⟩:=ok_at hS _ hok haf
 obtain⟨hrf,_,_⟩:=ok_kids hS hdf hkf
 have hth:thereK kf n=true:=by rw[<- pick_there hrf];rw[hpf];rfl
 have hokd:=drop_ok hS hok haf hkf n
 have hD:=big_drop hS hok haf hkf hpf
 have hnp:¬ (r.reverse ++ [n]) <+: q.reverse:=by
  intro h
  refine h1 ⟨?_,fun e=>h2 (.inr e)⟩
  rw[List.reverse_cons,List.reverse_cons]
  exact h.trans (List.prefix_append _ _)
 obtain⟨dt',kt',hat',hkt',_⟩:=drop_dir hrf haf hkf hth hat hkt hnp
 have hP:=big_put hS (c:=c) hokd hat' hkt' (by simpa using hq) m
 have hcok:=ok_at hS _ hok ha
 have hle2:big objs (4-q.reverse.length) c=big objs (4-r.reverse.length) c:=by
  have hr5:r.reverse.length+1<=5:=by have:=hcok.1;simp at this ⊢;omega
  have hok5:LTok objs (4-r.reverse.length) c:=by
   have:=hcok.2.1
   rw[show 5-(r.reverse ++ [n]).length=4-r.reverse.length by simp] at this;exact this
  have hokm:LTok objs (4-q.reverse.length) c:=ok_hgt hS _ hok5 (by
   have h5:hgt objs 5 c=hgt objs (4-r.reverse.length) c:=hgt_stable _ _ c (by omega) hok5
   simp only[List.length_reverse] at *
   omega)
  rcases Nat.le_total (4-q.reverse.length) (4-r.reverse.length) with hx | hx
  ·exact (big_stable hS _ _ c hx hokm).symm
  ·exact big_stable hS _ _ c hx hok5
 simp only
 omega
def RootQ (objs:List Ob)(ce t:LT):Prop:=∃ ks,kids objs t=some ks/\pickK ks nameE=some ce/\∀ x ∈ ks,x.1 ∈ letters\/x.1=nameE
theorem rootq_mod {objs:List Ob}{ce:LT}{t:LT}(h:RootQ objs ce t)(f:Kids->Kids)(q:List ByteArray)(hf:q = []->∀ ks,kids objs t=some ks->pickK ks nameE=some ce->(∀ x ∈ ks,x.1 ∈ letters\/x.1=nameE)->pickK (f ks) nameE=some ce/\∀ x ∈ f ks,x.1 ∈ letters\/x.1=nameE)(hq:∀ m r,q=m :: r->m≠nameE):RootQ objs ce (modG objs f q t):=by
 obtain⟨ks,h1,h2,h3⟩:=h
 cases q with
 | nil=>
  obtain⟨a,b⟩:=hf rfl ks h1 h2 h3
  exact⟨f ks,by rw[modG_kids,h1];rfl,a,b⟩
 | cons m r=>
  refine⟨_,modG_cons objs f m r t,?_,fun x hx=>?_⟩
  ·rw[h1,Option.getD_some,pick_map,if_neg (fun e=>hq m r rfl e.symm)]
   exact h2
  ·rw[h1,Option.getD_some] at hx
   obtain⟨y,hy,rfl⟩:=List.mem_map.1 hx
   by_cases e:y.1=m
   ·rw[if_pos e];exact h3 y hy
   ·rw[if_neg e];exact h3 y hy
theorem rootq_put {objs:List Ob}{ce:LT}(hS:Sound objs){k:Nat}{t:LT}(hok:LTok objs k t)(h:RootQ objs ce t){q:List ByteArray}{n:ByteArray}(hl:∀ x ∈ q ++ [n],x ∈ letters)(c:LT):RootQ objs ce (modG objs (fun ks=>putK ks n c) q t):=by
 have hn:=letter_valid (hl n (by simp))
 refine rootq_mod h _ q (fun _ ks hk he hx=>?_) (fun m r e=>(letter_valid (hl m (by rw[e];simp))).2.1)
 have hr:=(ok_kids hS hok hk).1
 refine⟨by rw[pick_put hr,if_neg (fun e=>hn.2.1 e.symm)];exact he,fun x hx'=>?_⟩
 rcases mapK_mem hx' with rfl | hx'
 ·exact .inl (hl n (by simp))
 ·exact hx x hx'
theorem rootq_drop {objs:List Ob}{ce:LT}(hS:Sound objs){k:Nat}{t:LT}(hok:LTok objs k t)(h:RootQ objs ce t){q:List ByteArray}{n:ByteArray}(hl:∀ x ∈ q ++ [n],x ∈ letters)(hth:q = []->∀ ks,kids objs t=some ks->thereK ks n=true):RootQ objs ce (modG objs (fun ks=>dropK ks n) q t):=by
 have hn:=letter_valid (hl n (by simp))
 refine rootq_mod h _ q (fun hq ks hk he hx=>?_) (fun m r e=>(letter_valid (hl m (by rw[e];simp))).2.1)
 have hr:=(ok_kids hS hok hk).1
 exact⟨by rw[pick_drop hr (hth hq ks hk),if_neg (fun e=>hn.2.1 e.symm)];exact he,fun x hx'=>hx x (dropK_mem hx')⟩
theorem rootq_mkdir {objs:List Ob}{ce:LT}(hS:Sound objs){t:LT}(hok:LTok objs 5 t)(h:RootQ objs ce t)(fs:FS){n:ByteArray}{r:List ByteArray}(hl:∀ x ∈ r.reverse ++ [n],x ∈ letters):RootQ objs ce (mkdirR objs t fs (n :: r)).2.2:=by
 unfold mkdirR
 simp only
 split
 ·exact h
 ·split
  ·exact h
  ·split
   ·exact h
   ·exact rootq_put hS hok h hl _
theorem rootq_remove {objs:List Ob}{ce:LT}(hS:Sound objs){t:LT}(hok:LTok objs 5 t)(h:RootQ objs ce t)(fs:FS){n:ByteArray}{r:List ByteArray}(hl:∀ x ∈ r.reverse ++ [n],x ∈ letters):RootQ objs ce (removeR objs t fs (n :: r)).2.2:=by
 unfold removeR
 simp only
 split
 ·exact h
 ·rename_i hf
  split
  ·exact h
  ·obtain⟨a,_,_,d,ks,h1,h2,h3⟩:=find_way (objs:=objs) (t:=t) (fs:=fs) (n:=n) (r:=r) (fs':=(findR objs t fs (n :: r)).1) (c:=(findR objs t fs (n :: r)).2.2) (by rw[<- Decidable.not_not.1 hf])
   refine rootq_drop hS hok h hl (fun hq ks' hk'=>?_)
   rw[hq,at_nil] at h1
   cases h1
   rw[hk'] at h2
   cases h2
   rw[<- pick_there (ok_kids hS hok hk').1,h3];rfl
theorem rootq_rename {objs:List Ob}{ce:LT}(hS:Sound objs){t:LT}(hok:LTok objs 5 t)(h:RootQ objs ce t)(fs:FS){n m:ByteArray}{r q:List ByteArray}(hl:∀ x ∈ r.reverse ++ [n],x ∈ letters)(hm:∀ x ∈ q.reverse ++ [m],x ∈ letters):RootQ objs ce (renameR objs t fs (n :: r) (m :: q)).2.2:=by
 unfold renameR
 simp only
 split
 ·exact h
 ·rename_i hf
  split
  ·exact h
  ·split
   ·exact h
   ·split
    ·exact h
    ·split
     ·exact h
     ·obtain⟨a,_,_,d,ks,h1,h2,h3⟩:=find_way (objs:=objs) (t:=t) (fs:=fs) (n:=n) (r:=r) (fs':=(findR objs t fs (n :: r)).1) (c:=(findR objs t fs (n :: r)).2.2) (by rw[<- Decidable.not_not.1 hf])
      refine rootq_put hS (drop_ok hS hok h1 h2 n) (rootq_drop hS hok h hl (fun hq ks' hk'=>?_)) hm _
      rw[hq,at_nil] at h1
      cases h1
      rw[hk'] at h2
      cases h2
      rw[<- pick_there (ok_kids hS hok hk').1,h3];rfl
theorem RootQ.at_ {objs:List Ob}{ce t:LT}(h:RootQ objs ce t):t.at objs [nameE]=some ce:=by
 obtain⟨ks,h1,h2,_⟩:=h
 rw[at_cons,h1,Option.bind_some,h2,Option.bind_some,at_nil]
def HeldInj (objs:List Ob)(t:LT):Prop:=∀ x y b,t.at objs x=some (.held b)->t.at objs y=some (.held b)->x=y
theorem at_kid {objs:List Ob}{t d:LT}{q:List ByteArray}{ks:Kids}(ha:t.at objs q=some d)(hk:kids objs d=some ks)(m:ByteArray)(r:List ByteArray):t.at objs (q++m :: r)=(pickK ks m).bind fun c=>c.at objs r:=by
 rw[at_append,ha,Option.bind_some,at_cons,hk,Option.bind_some]
theorem drop_held {objs:List Ob}{t d:LT}{q:List ByteArray}{ks:Kids}{n:ByteArray}(hr:RisingK ks)(ha:t.at objs q=some d)(hk:kids objs d=some ks)(ht:thereK ks n=true){x:List ByteArray}{b:Nat}(h:(modG objs (fun ks=>dropK ks n) q t).at objs x=some (.held b)):t.at objs x=some (.held b)/\¬ q ++ [n] <+: x:=by
 rcases held_mod _ ha hk h with ⟨m,r,rfl,h1⟩ | ⟨h1,h2⟩
 ·rw[pick_drop hr ht] at h1
  by_cases e:m=n
  ·rw[if_pos e] at h1;simp at h1
  ·rw[if_neg e] at h1
   refine⟨by rw[at_kid ha hk];exact h1,?_⟩
   rintro ⟨l,hl⟩
   rw[List.append_assoc] at hl
   have:=List.append_cancel_left hl
   simp at this
   exact e this.1.symm
 ·exact⟨h2,fun hp=>h1 ((List.prefix_append _ _).trans hp)⟩
theorem put_held {objs:List Ob}{t d c:LT}{q:List ByteArray}{ks:Kids}{n:ByteArray}(hr:RisingK ks)(ha:t.at objs q=some d)(hk:kids objs d=some ks){x:List ByteArray}{b:Nat}(h:(modG objs (fun ks=>putK ks n c) q t).at objs x=some (.held b)):(∃ r,x=q++n :: r/\c.at objs r=some (.held b))\/(t.at objs x=some (.held b)/\¬ q ++ [n] <+: x):=by
 rcases held_mod _ ha hk h with ⟨m,r,rfl,h1⟩ | ⟨h1,h2⟩
 ·rw[pick_put hr] at h1
  by_cases e:m=n
  ·rw[if_pos e,Option.bind_some] at h1
   subst e
   exact .inl ⟨r,rfl,h1⟩
  ·rw[if_neg e] at h1
   refine .inr ⟨by rw[at_kid ha hk];exact h1,?_⟩
   rintro ⟨l,hl⟩
   rw[List.append_assoc] at hl
   have:=List.append_cancel_left hl
   simp at this
   exact e this.1.symm
 ·exact .inr ⟨h2,fun hp=>h1 ((List.prefix_append _ _).trans hp)⟩
theorem inj_put {objs:List Ob}{t d c:LT}{q:List ByteArray}{ks:Kids}{n:ByteArray}(hi:HeldInj objs t)(hr:RisingK ks)(ha:t.at objs q=some d)(hk:kids objs d=some ks)(hc:HeldInj objs c)(hf:∀ r b y,c.at objs r=some (.held b)->t.at objs y=some (.held b)->q ++ [n] <+: y):HeldInj objs (modG objs (fun ks=>putK ks n c) q t):=by
 intro x y b hx hy
 rcases put_held hr ha hk hx with ⟨r,rfl,h1⟩ | ⟨h1,h2⟩ <;> rcases put_held hr ha hk hy with ⟨r',rfl,k1⟩ | ⟨k1,k2⟩
 ·rw[hc r r' b h1 k1]
 ·exact absurd (hf r b y h1 k1) k2
 ·exact absurd (hf r' b x k1 h1) h2
 ·exact hi x y b h1 k1
theorem inj_drop {objs:List Ob}{t d:LT}{q:List ByteArray}{ks:Kids}{n:ByteArray}(hi:HeldInj objs t)(hr:RisingK ks)(ha:t.at objs q=some d)(hk:kids objs d=some ks)(ht:thereK ks n=true):HeldInj objs (modG objs (fun ks=>dropK ks n) q t):=fun x y b hx hy=>hi x y b (drop_held hr ha hk ht hx).1 (drop_held hr ha hk ht hy).1
theorem own_none (objs:List Ob)(r:List ByteArray)(b:Nat):(LT.own []).at objs r≠some (.held b):=by
 cases r with
 | nil=>rw[at_nil];intro h;cases h
 | cons m r=>rw[at_cons];simp[kids,pickK]
theorem inj_mkdir {objs:List Ob}(hS:Sound objs){t:LT}(hok:LTok objs 5 t)(hi:HeldInj objs t)(fs:FS)(n:ByteArray)(r:List ByteArray):HeldInj objs (mkdirR objs t fs (n :: r)).2.2:=by
 unfold mkdirR
 simp only
 split
 ·exact hi
 ·rename_i h0
  split
  ·exact hi
  ·split
   ·exact hi
   ·obtain⟨d,ha,hk⟩:=look_at (Decidable.not_not.1 h0)
    obtain⟨_,hd,_⟩:=ok_at hS _ hok ha
    exact inj_put hi (ok_kids hS hd hk).1 ha hk (fun x y b hx=>absurd hx (own_none objs x b)) (fun r b y h=>absurd h (own_none objs r b))
theorem inj_remove {objs:List Ob}(hS:Sound objs){t:LT}(hok:LTok objs 5 t)(hi:HeldInj objs t)(fs:FS)(n:ByteArray)(r:List ByteArray):HeldInj objs (removeR objs t fs (n :: r)).2.2:=by
 unfold removeR
 simp only
 split
 ·exact hi
 ·rename_i hf
  split
  ·exact hi
  ·obtain⟨a,_,_,d,ks,h1,h2,h3⟩:=find_way (objs:=objs) (t:=t) (fs:=fs) (n:=n) (r:=r) (fs':=(findR objs t fs (n :: r)).1) (c:=(findR objs t fs (n :: r)).2.2) (by rw[<- Decidable.not_not.1 hf])
   obtain⟨_,hd,_⟩:=ok_at hS _ hok h1
   have hr:=(ok_kids hS hd h2).1
   exact inj_drop hi hr h1 h2 (by rw[<- pick_there hr,h3];rfl)
theorem inj_rename {objs:List Ob}(hS:Sound objs){t:LT}(hok:LTok objs 5 t)(hi:HeldInj objs t)(fs:FS)(n m:ByteArray)(r q:List ByteArray):HeldInj objs (renameR objs t fs (n :: r) (m :: q)).2.2:=by
 unfold renameR
 simp only
 split
 ·exact hi
 ·rename_i hf
  split
  ·exact hi
  ·rename_i hpre
   split
   ·exact hi
   ·rename_i hlk
    split
    ·exact hi
    ·split
     ·exact hi
     ·obtain⟨a,_,_,d,ks,h1,h2,h3⟩:=find_way (objs:=objs) (t:=t) (fs:=fs) (n:=n) (r:=r) (fs':=(findR objs t fs (n :: r)).1) (c:=(findR objs t fs (n :: r)).2.2) (by rw[<- Decidable.not_not.1 hf])
      generalize (findR objs t fs (n :: r)).2.2=c at a h3 ⊢
      obtain⟨_,hd,_⟩:=ok_at hS _ hok h1
      have hr:=(ok_kids hS hd h2).1
      have hth:thereK ks n=true:=by rw[<- pick_there hr,h3];rfl
      have hac:t.at objs (r.reverse ++ [n])=some c:=by rw[at_kid h1 h2,h3,Option.bind_some,at_nil]
      have hsub:∀ x b,c.at objs x=some (.held b)->t.at objs ((r.reverse ++ [n])++x)=some (.held b):=fun x b hx=>by rw[at_append,hac,Option.bind_some];exact hx
      have hlk0:(lookR objs t (findR objs t fs (n :: r)).1 q).2.1=0:=Decidable.not_not.1 (fun h=>hlk (.inl h))
      obtain⟨dt,hat,hkt⟩:=look_at hlk0
      have hnp:¬ (r.reverse ++ [n]) <+: q.reverse:=by
       intro h
       refine hpre ⟨?_,fun e=>hlk (.inr e)⟩
       rw[List.reverse_cons,List.reverse_cons]
       exact h.trans (List.prefix_append _ _)
      obtain⟨d1,k1,hat1,hkt1,_⟩:=drop_dir hr h1 h2 hth hat hkt hnp
      have hok1:=drop_ok hS hok h1 h2 n
      obtain⟨_,hd1,_⟩:=ok_at hS _ hok1 hat1
      refine inj_put (inj_drop hi hr h1 h2 hth) (ok_kids hS hd1 hkt1).1 hat1 hkt1 (fun x y b hx hy=>?_) (fun x b y hx hy=>?_)
      ·exact List.append_cancel_left (hi _ _ b (hsub x b hx) (hsub y b hy))
      ·obtain⟨hy1,hy2⟩:=drop_held hr h1 h2 hth hy
       have:=hi _ _ b (hsub x b hx) hy1
       exact absurd ⟨x,this⟩ hy2
def oneB:ByteArray:=⟨#[49]⟩
structure MadeT (objs:List Ob)(N fE:Nat)(t:LT)(fl:Nat->Option (Int×ByteArray)):Prop where
 root:RootQ objs (.held fE) t
 data:fl fE=some (0,oneB)
 inj:HeldInj objs t
 few:big objs 5 t<=N
theorem made_step {objs:List Ob}(hS:Sound objs){t t':LT}{g g':WG}(hok:LTok objs 5 t)(hheld:∀ x f,t.at objs x=some (.held f)->∃ y,g.fl f=some y){N fE:Nat}(h:MadeT objs N fE t g.fl){k:Int}{na nb:ByteArray}{ra rb:List ByteArray}{d:ByteArray}{er:Int}(ha:Letters (ra.reverse ++ [na]))(hb:Letters (rb.reverse ++ [nb]))(hs:StepTo objs g t k na nb ra rb d er g' t'):MadeT objs (N+1) fE t' g'.fl:=by
 have hra:ra.length<=4:=by have:=ha.len;simp at this;omega
 have hrb:rb.length<=4:=by have:=hb.len;simp at this;omega
 have same:∀ {fl'},fl'=g.fl->t'=t->MadeT objs (N+1) fE t' fl':=fun h1 h2=>by rw[h1,h2];exact⟨h.root,h.data,h.inj,Nat.le_succ_of_le h.few⟩
 rcases hs with ⟨_,_,_,⟨_,_,h2,h3⟩ | ⟨_,_,_,h2,h3⟩ | ⟨h0,_,_,f,hf,hx,hh⟩⟩ | ⟨_,_,h1,_,h3,_⟩ | ⟨_,_,h1,_,h3,_⟩ | ⟨_,_,h1,_,h3,_⟩
 ·exact same h3 h2
 ·exact same h3 h2
 ·obtain⟨dd,had,hkd⟩:=look_at h0
  obtain⟨_,hdd,_⟩:=ok_at hS _ hok had
  have hr:=(ok_kids hS hdd hkd).1
  rcases hh with ⟨hp,rfl⟩ | ⟨_,hfn,rfl⟩
  ·have hfe:fE≠f:=by
    rintro rfl
    have h1:t'.at objs (ra.reverse ++ [na])=some (.held fE):=by rw[at_kid had hkd,hp,Option.bind_some,at_nil]
    have:=h.inj _ _ _ h.root.at_ h1
    have hm:nameE ∈ ra.reverse ++ [na]:=by rw[<- this];simp
    exact (letter_valid (ha.all _ hm)).2.1 rfl
   exact⟨h.root,by rw[hx fE hfe];exact h.data,h.inj,Nat.le_succ_of_le h.few⟩
  ·have hfe:fE≠f:=by
    rintro rfl
    rw[h.data] at hfn;cases hfn
   have hheld0:∀ r b,(LT.held f).at objs r=some (.held b)->r = []/\b=f:=by
    intro r b hr
    cases r with
    | nil=>rw[at_nil] at hr;cases hr;exact⟨rfl,rfl⟩
    | cons m r=>rw[at_cons] at hr;simp[kids] at hr
   refine⟨rootq_put hS hok h.root ha.all _,by rw[hx fE hfe];exact h.data,inj_put h.inj hr had hkd (fun x y b h1 h2=>by rw[(hheld0 x b h1).1,(hheld0 y b h2).1]) (fun r b y h1 h2=>?_),?_⟩
   ·obtain⟨_,rfl⟩:=hheld0 r b h1
    obtain⟨z,hz⟩:=hheld y b h2
    rw[hfn] at hz;cases hz
   ·have hb1:∀ k,big objs k (.held f)=1:=by intro k;cases k <;> (rw[big];try rfl)
    have:=big_put hS (c:=.held f) hok had hkd (by simpa using hra) na
    rw[hb1] at this
    have:=h.few
    omega
 ·rw[h1,h3]
  exact⟨rootq_mkdir hS hok h.root _ ha.all,h.data,inj_mkdir hS hok h.inj _ _ _,by have:=big_mkdir hS hok g.fs (n:=na) hra;have:=h.few;omega⟩
 ·rw[h1,h3]
  exact⟨rootq_remove hS hok h.root _ ha.all,h.data,inj_remove hS hok h.inj _ _ _,by have:=big_remove hS hok g.fs (n:=na) (r:=ra);have:=h.few;omega⟩
 ·rw[h1,h3]
  exact⟨rootq_rename hS hok h.root _ ha.all hb.all,h.data,inj_rename hS hok h.inj _ _ _ _ _,by have:=big_rename hS hok g.fs (n:=na) (m:=nb) (r:=ra) hrb;have:=h.few;omega⟩
theorem shF_new (f:Fn)(vs:Array Value)(w:World):Calls Tryz.prog 103 #[.func f vs #[]] w fun e w'=>e=.returned (.pointer (some ⟨w.heap.size+1,0,none⟩))/\w'=(w.alloc (.map #[] 0)).alloc (.cells #[.func f vs #[],.map (some w.heap.size)] 219):=by
 have hmm:=@run_makeMap Tryz.prog
 go_enter Tryz.func103,Tryz.ntmps103
 go_wp2
 go_ret
 exact⟨rfl,rfl⟩
theorem shD_new (f:Fn)(vs:Array Value)(w:World):Calls Tryz.prog 105 #[.func f vs #[]] w fun e w'=>e=.returned (.pointer (some ⟨w.heap.size+1,0,none⟩))/\w'=(w.alloc (.map #[] 0)).alloc (.cells #[.func f vs #[],.map (some w.heap.size)] 223):=by
 have hmm:=@run_makeMap Tryz.prog
 go_enter Tryz.func105,Tryz.ntmps105
 go_wp2
 go_ret
 exact⟨rfl,rfl⟩
def treeMem (w:World)(p:Nat)(root:Int):World:=((((((w.alloc (.map #[] 0)).alloc (.cells #[.func (.func 104) #[ptr p] #[],.map (some w.heap.size)] 219)).alloc (.map #[] 0)).alloc (.cells #[.func (.func 106) #[ptr p] #[],.map (some (w.heap.size+2))] 223)).alloc (.map #[] 0)).alloc (.map #[] 0)).alloc (.cells #[ptr p,ptr (w.heap.size+1),ptr (w.heap.size+3),.int .i64 root,.string ⟨#[]⟩,.int .i64 2,.int .i64 root,.map (some (w.heap.size+4)),.map (some (w.heap.size+5))] 130)
theorem tnew_any (p:Nat)(root:Int)(w:World):Calls Tryz.prog 62 #[.pointer (some ⟨p,0,none⟩),.int .i64 root] w fun e w'=>e=.returned (.pointer (some ⟨w.heap.size+6,0,none⟩))/\w'=treeMem w p root:=by
 have h1:=fun vs W=>shF_new (.func 104) vs W
 have h2:=fun vs W=>shD_new (.func 106) vs W
 have hmm:=@run_makeMap Tryz.prog
 go_enter Tryz.func62,Tryz.ntmps62
 go_wp2_with (first
  | (go_at_call 103;refine Calls.mono (h1 _ _) ?_;rintro e w1 ⟨rfl,rfl⟩)
  | (go_at_call 105;refine Calls.mono (h2 _ _) ?_;rintro e w1 ⟨rfl,rfl⟩))
 go_ret
 exact⟨rfl,rfl⟩
def wsMem (w:World)(p:Nat)(root:Int):World:=(treeMem w p root).alloc (.cells #[ptr (w.heap.size+6),.pointer none,.pointer none,.pointer none,.pointer none,.pointer none,.pointer none,.pointer none,.pointer none] 99)
theorem checkout_walk (s p:Nat)(id:Int)(w:World)(hs:s<w.heap.size)(c0:w.cell? ⟨s,0,none⟩=some (.pointer (some ⟨p,0,none⟩)))(hk:Calls Tryz.prog 61 #[.pointer (some ⟨p,0,none⟩),.int .i64 id] w fun e w'=>e=.returned (.int .i64 2)/\Below w.heap.size w w'):
  Calls Tryz.prog 40 #[.pointer (some ⟨s,0,none⟩),.int .i64 id] w fun e w'=>∃ w1,Below w.heap.size w w1/\e=.returned (.tuple #[.pointer (some ⟨w1.heap.size+7,0,none⟩),.int .i64 0])/\w'=wsMem w1 p id:=by
 have htn:=fun W=>tnew_any p id W
 have hts:∀ W,(treeMem W p id).heap.size=W.heap.size+7:=fun W=>by unfold treeMem;simp
 go_enter Tryz.func40,Tryz.ntmps40
 go_wp2_with (first
  | (go_at_call 61;refine hk.mono ?_;rintro e w1 ⟨rfl,hb1⟩;have d0:=((bcell hb1).1 s 0 hs).trans c0;have hs1:=Nat.lt_of_lt_of_le hs hb1.size)
  | (go_at_call 62;refine Calls.mono (htn _) ?_;rintro e w2 ⟨rfl,rfl⟩))
 go_ret2
 exact⟨w1,hb1,rfl,rfl⟩
def wsB (n:Nat):WB:=⟨n+7,n+6,n+1,n+3,n,n+2,n+4,n+5⟩
def wsTags (tg:Tags)(n i:Nat):Tags:=fun k=>if k<n then tg k else if k=n then (i,2) else if k=n+1 then (i,1) else if k=n+2 then (i,3) else if k=n+3 then (i,1) else if k=n+4 then (i,4) else if k=n+5 then (i,5) else if k=n+6 then (i,1) else if k=n+7 then (i,0) else (0,0)
theorem wsMem_size (w:World)(p:Nat)(id:Int):(wsMem w p id).heap.size=w.heap.size+8:=by unfold wsMem treeMem;simp
theorem wsMem_below (w:World)(p:Nat)(id:Int):Below w.heap.size w (wsMem w p id):=by
 unfold wsMem treeMem
 exact (((((((((Below.refl w.heap.size w).alloc (Nat.le_refl _) _).alloc (by simp) _).alloc (by simp;omega) _).alloc (by simp;omega) _).alloc (by simp;omega) _).alloc (by simp;omega) _).alloc (by simp;omega) _).alloc (by simp;omega) _)
theorem wsMem_heap (w:World)(p:Nat)(id:Int):
  (wsMem w p id).heap[w.heap.size]? = some (.map #[] 0)/\(wsMem w p id).heap[w.heap.size+1]? = some (.cells #[.func (.func 104) #[ptr p] #[],.map (some w.heap.size)] 219 (0,0))/\(wsMem w p id).heap[w.heap.size+2]? = some (.map #[] 0)/\(wsMem w p id).heap[w.heap.size+3]? = some (.cells #[.func (.func 106) #[ptr p] #[],.map (some (w.heap.size+2))] 223 (0,0))/\(wsMem w p id).heap[w.heap.size+4]? = some (.map #[] 0)/\(wsMem w p id).heap[w.heap.size+5]? = some (.map #[] 0)/\
  (wsMem w p id).heap[w.heap.size+6]? = some (.cells #[ptr p,ptr (w.heap.size+1),ptr (w.heap.size+3),.int .i64 id,.string ⟨#[]⟩,.int .i64 2,.int .i64 id,.map (some (w.heap.size+4)),.map (some (w.heap.size+5))] 130 (0,0))/\(wsMem w p id).heap[w.heap.size+7]? = some (.cells #[ptr (w.heap.size+6),.pointer none,.pointer none,.pointer none,.pointer none,.pointer none,.pointer none,.pointer none,.pointer none] 99 (0,0)):=by
 unfold wsMem treeMem World.alloc
 simp only[Array.getElem?_push,Array.size_push]
 refine⟨?_,?_,?_,?_,?_,?_,?_,?_⟩
 ·rw[if_neg (by omega),if_neg (by omega),if_neg (by omega),if_neg (by omega),if_neg (by omega),if_neg (by omega),if_neg (by omega),if_pos trivial]
 all_goals simp
def wg0 (id:Int)(got:List Int):WG:=⟨id,⟨id,fun _=>none,fun _=>none⟩,⟨got,false,fun _=>false,fun _=>false⟩,fun _=>none,fun _=>none⟩
section
variable {s i p:Nat}{objs:List Ob}
theorem new_ws {tg:Tags}{w:World}{got:List Int}{lim:Nat}(h:SInv tg w s p objs got false lim)(hi:2<=i){id:Int}(hk:kindOf objs id=2):
  Moves (fun _=>False) tg (wsTags tg w.heap.size i) w (wsMem w p id)/\WInv (wsTags tg w.heap.size i) (wsMem w p id) s i p (wsB w.heap.size) objs (wg0 id got) lim:=by
 have hb:=wsMem_below w p id
 obtain⟨b0,b1,b2,b3,b4,b5,b6,b7⟩:=wsMem_heap w p id
 have ht:∀ k,k<w.heap.size->wsTags tg w.heap.size i k=tg k:=fun k hk=>by unfold wsTags;rw[if_pos hk]
 have m:Moves (fun _=>False) tg (wsTags tg w.heap.size i) w (wsMem w p id):=⟨hb.os,hb.tape,hb.output,hb.size,ht,fun k hk _=>hb.block k hk,fun hf k hk=>by
  rw[wsMem_size] at hk
  unfold wsTags
  rw[if_neg (by omega),if_neg (by omega),if_neg (by omega),if_neg (by omega),if_neg (by omega),if_neg (by omega),if_neg (by omega),if_neg (by omega),if_neg (by omega)]⟩
 have t0:wsTags tg w.heap.size i w.heap.size=(i,2):=by unfold wsTags;simp
 have t1:wsTags tg w.heap.size i (w.heap.size+1)=(i,1):=by unfold wsTags;rw[if_neg (by omega)];simp
 have t2:wsTags tg w.heap.size i (w.heap.size+2)=(i,3):=by unfold wsTags;rw[if_neg (by omega)];simp
 have t3:wsTags tg w.heap.size i (w.heap.size+3)=(i,1):=by unfold wsTags;rw[if_neg (by omega)];simp
 have t4:wsTags tg w.heap.size i (w.heap.size+4)=(i,4):=by unfold wsTags;rw[if_neg (by omega)];simp
 have t5:wsTags tg w.heap.size i (w.heap.size+5)=(i,5):=by unfold wsTags;rw[if_neg (by omega)];simp
 have t6:wsTags tg w.heap.size i (w.heap.size+6)=(i,1):=by unfold wsTags;rw[if_neg (by omega)];simp
 have t7:wsTags tg w.heap.size i (w.heap.size+7)=(i,0):=by unfold wsTags;rw[if_neg (by omega)];simp
 refine⟨m,hi,h.moves m (fun x=>x) (fun x=>x),⟨⟨t6,t1,t3,b6,b1,b3⟩,⟨t0,0,fun _=>none,Nat.zero_le _,vmap_at b0,fun id=>rfl,fun id hx=>by cases hx⟩,⟨t2,0,fun _=>none,fun _=>.slice none 0 0,Nat.zero_le _,vmap_at b2,fun id=>rfl,fun id hx=>by cases hx⟩,⟨t4,⟨0,Nat.zero_le _,fun _=>none,vmap_at b4,fun _ _=>rfl,fun kl _ hx=>absurd rfl hx⟩,fun q f hx=>by cases hx⟩,⟨fun _=>.slice none 0 0,t5,⟨0,Nat.zero_le _,fun _=>none,vmap_at b5,fun _ _=>rfl,fun kl _ hx=>absurd rfl hx⟩,fun q es hx=>(by cases hx),fun q es hx=>(by cases hx),fun q r es fs gg hx=>(by cases hx)⟩,fun f id d hx=>(by cases hx),fun q f hx=>(by cases hx),⟨t7,b7,fun k hk=>rfl,fun k b f fg pl hx=>(by cases hx),fun k l x y hx=>(by cases hx)⟩,⟨fun _=>hk,fun q es hx=>(by cases hx)⟩⟩⟩
theorem stored_at (objs:List Ob):∀ (q:List ByteArray) (id:Int),odOf ((LT.dir id).at objs q)=none/\ofOf ((LT.dir id).at objs q)=none
 | [],id=>by rw[at_nil];exact⟨rfl,rfl⟩
 | n :: r,id=>by
  rw[at_cons]
  show odOf ((pickK ((entsOf objs id).map kidOf) n).bind _)=none/\ofOf ((pickK ((entsOf objs id).map kidOf) n).bind _)=none
  cases hp:pickK ((entsOf objs id).map kidOf) n with
  | none=>exact⟨rfl,rfl⟩
  | some c=>
   obtain⟨e,_,he⟩:=List.mem_map.1 (pick_mem hp)
   have hc:c=ltOf e:=by unfold kidOf at he;exact (Prod.mk.inj he).2.symm
   rw[Option.bind_some,hc]
   unfold ltOf
   split
   ·exact stored_at objs r _
   ·cases r with
    | nil=>rw[at_nil];exact⟨rfl,rfl⟩
    | cons m r=>rw[at_cons];exact⟨rfl,rfl⟩
theorem new_flat (id:Int)(got:List Int):Flat objs (.dir id) (wg0 id got).ft:=⟨rfl,rfl,fun q=>(stored_at objs q id).1.symm,fun q=>(stored_at objs q id).2.symm⟩
end
def Old (W wr:World)(tg:Tags):Prop:=Below W.heap.size W wr/\∀ j,j<W.heap.size->tg j=(0,0)
structure StepsAt (W:World)(a:Option Addr)(len:Nat):Prop where
 at_:0<len->∃ b o,a=some ⟨b,o,none⟩/\b<W.heap.size/\∀ j,j<len->∃ kd x y d,i64 kd/\i64 x/\i64 y/\d.size<=maxLen/\W.cell? ⟨b,o+j*4,none⟩=some (.int .i64 kd)/\W.cell? ⟨b,o+j*4+1,none⟩=some (.int .i64 x)/\W.cell? ⟨b,o+j*4+2,none⟩=some (.int .i64 y)/\W.cell? ⟨b,o+j*4+3,none⟩=some (.string d)
theorem Old.any {P:Nat×Nat->Prop}{W wr wr':World}{tg tg':Tags}(h:Old W wr tg)(hP:¬ P (0,0))(m:Moves P tg tg' wr wr'):Old W wr' tg':=
 ⟨⟨m.os.trans h.1.os,m.tape.trans h.1.tape,m.output.trans h.1.output,Nat.le_trans h.1.size m.size,fun k hk=>(m.block k (Nat.lt_of_lt_of_le hk h.1.size) (by rw[h.2 k hk];exact hP)).trans (h.1.block k hk)⟩,fun j hj=>(m.tags j (Nat.lt_of_lt_of_le hj h.1.size)).trans (h.2 j hj)⟩
theorem mine0 {i:Nat}(hi:2<=i):¬ Mine i (0,0):=by
 rintro (h | h)
 ·cases h
 ·simp only at h;omega
def OneOb (objs:List Ob):Prop:=∃ o:Ob,o.kind=2/\o.ents = []/\o.high=0/\objs = [o]
theorem one_kind {objs:List Ob}(h:OneOb objs)(id:Int):kindOf objs id=if id=1 then 2 else 0:=by
 obtain⟨o,h1,h2,h3,rfl⟩:=h
 by_cases e1:id=1
 ·subst e1;rw[if_pos rfl];exact h1
 ·rw[if_neg e1];exact kindOf_out (by simp;omega)
theorem one_high {objs:List Ob}(h:OneOb objs)(id:Int):highOf objs id=0:=by
 obtain⟨o,h1,h2,h3,rfl⟩:=h
 unfold highOf
 have hc:(id-1).toNat=0\/1<=(id-1).toNat:=by omega
 rcases hc with hc | hc
 ·rw[hc];exact h3
 ·rw[List.getElem?_eq_none (by simpa using hc)];rfl
theorem one_ents {objs:List Ob}(h:OneOb objs)(id:Int):entsOf objs id = []:=by
 obtain⟨o,h1,h2,h3,rfl⟩:=h
 unfold entsOf
 have hc:(id-1).toNat=0\/1<=(id-1).toNat:=by omega
 rcases hc with hc | hc
 ·rw[hc];exact h2
 ·rw[List.getElem?_eq_none (by simpa using hc)];rfl
theorem one_exact {objs:List Ob}(h:OneOb objs):Exact objs:=by
 refine⟨⟨fun id=>by rw[one_high h];exact Int.le_refl _,fun id hk=>?_⟩,?_,fun id _=>one_high h id,fun id _=>by rw[one_high h,one_ents h];rfl⟩
 ·rw[one_ents h]
  exact⟨List.Pairwise.nil,by simp,fun e he=>by cases he⟩
 ·obtain⟨o,h1,h2,h3,rfl⟩:=h
  intro x hx
  rw[List.mem_singleton.1 hx];exact .inr h1
def MSt (W wr:World)(s p:Nat)(B:WB)(objs:List Ob)(N lim:Nat):Prop:=
 ∃ tg g t fE,Old W wr tg/\QInv tg wr s 2 p B objs g lim t/\MadeT objs N fE t g.fl/\g.fs.brk=false/\∃ ks,t=.own ks
def FirstSt (W wr:World)(s p:Nat)(objs:List Ob):Prop:=Below W.heap.size W wr/\InvP pt0 (fun k=>W.heap.size<=k) wr s p objs
theorem first_store (W:World):Calls Tryz.prog 39 #[] W fun e w'=>∃ s p,e=.returned (.pointer (some ⟨s,0,none⟩))/\FirstSt W w' s p []:=by
 refine (newStore_inv W).mono ?_
 rintro e w' ⟨s,he,⟨p,hI⟩,hb⟩
 exact⟨s,p,he,hb,InvP.keep hI (fun _ _ _=>rfl) (fun k _ hk=>by rcases hk with h | h;exact h.elim;exact h.1)⟩
theorem first_dir {W wr:World}{s p:Nat}(h:FirstSt W wr s p []):Calls Tryz.prog 22 #[.pointer (some ⟨s,0,none⟩),.slice none 0 0] wr fun e w'=>e=.returned (.tuple #[.int .i64 1,.int .i64 0])/\∃ objs,OneOb objs/\FirstSt W w' s p objs:=by
 obtain⟨hb,hI⟩:=h
 refine (storePutDirNil hI).mono ?_
 rintro e w' ⟨objs',hf,hI',hk⟩
 have hB:Below W.heap.size W w':=hb.trans ⟨hk.os,hk.tape,hk.output,hk.size,fun k hk'=>hk.block k (Nat.lt_of_lt_of_le hk' hb.size) (by omega)⟩
 have hI2:InvP pt0 (fun k=>W.heap.size<=k) w' s p objs':=hI'.keep (fun _ _ _=>rfl) (fun k _ hk=>by
  rcases hk with h | h
  ·exact h
  ·exact Nat.le_trans hb.size h.1)
 rcases hf with ⟨⟨x,hx,h1⟩,_⟩ | ⟨_,⟨h1,_⟩ | ⟨_,h1,_⟩ | ⟨_,_,⟨x,hx,h1⟩,_⟩ | ⟨_,_,_,es',hP,_,_,⟨h1,_⟩ | ⟨_,_,i,h1,_⟩ | ⟨_,_,h1,_⟩ | ⟨_,_,_,⟨o,h1,h2,h3,h4⟩,h5⟩⟩⟩
 ·cases hx
 ·exact absurd (by simp) h1
 ·exact absurd h1 (by simp)
 ·cases hx
 ·have:=List.perm_nil.1 hP;subst this;exact absurd h1 (by decide)
 ·cases h1
 ·exact absurd h1 (by simp)
 ·have:=List.perm_nil.1 hP;subst this
  subst h5
  refine⟨rfl,objs',⟨o,h1,h2,?_,h4⟩,hB,hI2⟩
  rw[h3];rfl
theorem first_tags {W wr:World}{s p:Nat}{objs:List Ob}(h:FirstSt W wr s p objs)(hS:Sound objs):∃ tg:Tags,Old W wr tg/\SInv tg wr s p objs [] false 0:=by
 classical
 obtain⟨hb,hI⟩:=h
 refine⟨fun k=>if W.heap.size<=k/\k<wr.heap.size then (1,0) else (0,0),⟨hb,fun j hj=>if_neg (by omega)⟩,fun k hk=>if_neg (by omega),pt0,rfl,hI.keep (fun _ _ _=>rfl) (fun k hk hf=>if_pos ⟨hf,hk⟩),⟨World.ownsRow_nil _ _ _ _,rfl,fun g hg=>by cases hg⟩,hS,Nat.le_refl _⟩
theorem qcheckout {tg:Tags}{w:World}{s p i:Nat}{objs:List Ob}{got:List Int}{lim:Nat}(h:SInv tg w s p objs got false lim)(hi:2<=i){id:Int}(hok:LTok objs 5 (.dir id)):
  Calls Tryz.prog 40 #[.pointer (some ⟨s,0,none⟩),.int .i64 id] w fun e w'=>∃ B:WB,e=.returned (.tuple #[.pointer (some ⟨B.wb,0,none⟩),.int .i64 0])/\∃ tg',Moves (fun _=>False) tg tg' w w'/\QInv tg' w' s i p B objs (wg0 id got) lim (.dir id):=by
 have hk:kindOf objs id=2:=by rw[LTok] at hok;exact hok.1
 have h0:=h
 obtain⟨hfr,ft,hbk,hI,hrest⟩:=h
 obtain⟨a,cap,bf,bd,Df,Dd,hI⟩:=hI
 have hs:s<w.heap.size:=(Array.getElem?_eq_some_iff.1 hI.hs).1
 have hkk:=kind_any p a objs.length cap bf bd objs id w hI.pool
 rw[hk] at hkk
 refine (checkout_walk s p id w hs hI.c0 hkk).mono ?_
 rintro e w' ⟨w1,hb,rfl,rfl⟩
 have hS1:SInv tg w1 s p objs got false lim:=h0.moves (P:=fun _=>False) (Moves.of_below hb) (fun h=>h) (fun h=>h)
 obtain⟨m,hW⟩:=new_ws hS1 (i:=i) hi hk
 exact⟨wsB w1.heap.size,rfl,_,(Moves.of_below hb).trans m,⟨hW,new_flat id got,hok,(fun f id d hx=>by cases hx),fun _=>rfl⟩⟩
structure Once (a:List Ob):Prop where
 file:∀ i (h:i<a.length),a[i].kind=1->fileAt a a[i].data=some i
 dir:∀ i (h:i<a.length),a[i].kind=2->dirAt a a[i].ents=some i
theorem Once.snoc {a:List Ob}(h:Once a){o:Ob}(ho:PutOk a o):Once (a ++ [o]):=by
 refine⟨fun i hi hk=>?_,fun i hi hk=>?_⟩
 ·rw[fileAt_snoc]
  by_cases h1:i<a.length
  ·rw[List.getElem_append_left h1] at hk ⊢
   rw[h.file i h1 hk];rfl
  ·have h2:i=a.length:=by simp at hi;omega
   subst h2
   simp only[List.getElem_concat_length] at hk ⊢
   rcases ho.or with ⟨_,_,_,hf⟩ | ⟨hk2,_⟩
   ·rw[hf,if_pos ⟨hk,trivial⟩];rfl
   ·rw[hk] at hk2;cases hk2
 ·rw[dirAt_snoc]
  by_cases h1:i<a.length
  ·rw[List.getElem_append_left h1] at hk ⊢
   rw[h.dir i h1 hk];rfl
  ·have h2:i=a.length:=by simp at hi;omega
   subst h2
   simp only[List.getElem_concat_length] at hk ⊢
   rcases ho.or with ⟨hk2,_⟩ | ⟨_,_,_,_,_,_,hf⟩
   ·rw[hk] at hk2;cases hk2
   ·rw[hf,if_pos ⟨hk,trivial⟩];rfl
theorem Drafted.once {a b:List Ob}(h:Drafted a b)(ho:Once a):Once b:=by
 induction h with
 | nil=>exact ho
 | snoc _ hp ih=>exact ih.snoc hp
theorem Once.fileAt_id {a:List Ob}(h:Once a){id:Int}(hk:kindOf a id=1):fileAt a (bytesOf a id)=some (id-1).toNat/\(((id-1).toNat:Nat):Int)+1=id:=by
 obtain⟨h1,h2⟩:=kindOf_pos (by rw[hk];decide)
 unfold kindOf at hk
 rw[if_pos h1,List.getElem?_eq_getElem h2] at hk
 refine⟨?_,by omega⟩
 unfold bytesOf
 rw[List.getElem?_eq_getElem h2]
 exact h.file _ h2 hk
theorem Once.dirAt_id {a:List Ob}(h:Once a){id:Int}(hk:kindOf a id=2):dirAt a (entsOf a id)=some (id-1).toNat/\(((id-1).toNat:Nat):Int)+1=id:=by
 obtain⟨h1,h2⟩:=kindOf_pos (by rw[hk];decide)
 unfold kindOf at hk
 rw[if_pos h1,List.getElem?_eq_getElem h2] at hk
 refine⟨?_,by omega⟩
 unfold entsOf
 rw[List.getElem?_eq_getElem h2]
 exact h.dir _ h2 hk
theorem Once.fileD_id {a:List Ob}(h:Once a){id:Int}(hk:kindOf a id=1):fileD a (bytesOf a id)=(id,a):=by
 obtain⟨h1,h2⟩:=h.fileAt_id hk
 unfold fileD
 rw[h1]
 simp only[h2]
theorem Once.dirD_id {a:List Ob}(h:Once a){id:Int}(hk:kindOf a id=2):dirD a (entsOf a id)=(id,a):=by
 obtain⟨h1,h2⟩:=h.dirAt_id hk
 unfold dirD
 rw[h1]
 simp only[h2]
theorem Once.file_inj {a:List Ob}(h:Once a){i j:Int}(hi:kindOf a i=1)(hj:kindOf a j=1)(he:bytesOf a i=bytesOf a j):i=j:=by
 have h1:=h.fileD_id hi
 have h2:=h.fileD_id hj
 rw[he,h2] at h1
 exact (congrArg Prod.fst h1).symm
theorem Once.dir_inj {a:List Ob}(h:Once a){i j:Int}(hi:kindOf a i=2)(hj:kindOf a j=2)(he:entsOf a i=entsOf a j):i=j:=by
 have h1:=h.dirD_id hi
 have h2:=h.dirD_id hj
 rw[he,h2] at h1
 exact (congrArg Prod.fst h1).symm
theorem names_eq:∀ {xs ys:Kids},RisingK xs->RisingK ys->(∀ n,(pickK xs n).isSome=(pickK ys n).isSome)->xs.map (·.1)=ys.map (·.1):=by
 have mem:∀ (l:Kids) (n:ByteArray),(pickK l n).isSome=true↔n ∈ l.map (·.1):=by
  intro l n
  unfold pickK
  rw[Option.isSome_map,List.find?_isSome,List.mem_map]
  constructor
  ·rintro ⟨x,hx,hn⟩;exact⟨x,hx,of_decide_eq_true hn⟩
  ·rintro ⟨x,hx,hn⟩;exact⟨x,hx,decide_eq_true hn⟩
 have key:∀ (xs ys:List ByteArray),xs.Pairwise (fun x y=>cmpN x y<0)->ys.Pairwise (fun x y=>cmpN x y<0)->(∀ n,n ∈ xs↔n ∈ ys)->xs=ys:=by
  intro xs
  induction xs with
  | nil=>
   intro ys _ _ h
   cases ys with
   | nil=>rfl
   | cons y r=>exact absurd ((h y).2 (by simp)) (by simp)
  | cons x xs ih=>
   intro ys hx hy h
   cases ys with
   | nil=>exact absurd ((h x).1 (by simp)) (by simp)
   | cons y ys=>
    obtain⟨x1,x2⟩:=List.pairwise_cons.1 hx
    obtain⟨y1,y2⟩:=List.pairwise_cons.1 hy
    have hxy:x=y:=by
     rcases List.mem_cons.1 ((h x).1 (by simp)) with e | e
     ·exact e
     ·rcases List.mem_cons.1 ((h y).2 (by simp)) with e' | e'
      ·exact e'.symm
      ·have:=cmpN_trans (y1 x e) (x1 y e')
       rw[cmpN_self] at this;omega
    subst hxy
    rw[ih ys x2 y2 (fun n=>?_)]
    have hn:=h n
    constructor
    ·intro hm
     rcases List.mem_cons.1 (hn.1 (by simp[hm])) with e | e
     ·subst e;have:=x1 n hm;rw[cmpN_self] at this;omega
     ·exact e
    ·intro hm
     rcases List.mem_cons.1 (hn.2 (by simp[hm])) with e | e
     ·subst e;have:=y1 n hm;rw[cmpN_self] at this;omega
     ·exact e
 intro xs ys hx hy h
 refine key _ _ (by rw[List.pairwise_map];exact hx) (by rw[List.pairwise_map];exact hy) (fun n=>?_)
 rw[<- mem,<- mem,h n]
theorem pick_getK {ks:Kids}(hr:RisingK ks){k:Nat}(hk:k<ks.length):pickK ks (ks[k]).1=some (ks[k]).2:=by
 cases h:pickK ks (ks[k]).1 with
 | none=>
  exfalso
  unfold pickK at h
  rw[Option.map_eq_none_iff,List.find?_eq_none] at h
  exact h _ (List.getElem_mem hk) (by simp)
 | some c=>rw[pick_unique hr h (List.getElem_mem hk) rfl]
end Go.Proofs.YtajopoddmfdejaaGreat
