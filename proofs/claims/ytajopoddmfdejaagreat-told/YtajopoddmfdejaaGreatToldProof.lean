/-
  What is proved here: the given statement of 'Told': whatever steps come in, the call returns true, and all reads behind it as it did before it; no condition.
-/
import Derived.Test.YtajopoddmfdejaaGreatToldM51
import Derived.Test.YtajopoddmfdejaaGreatRows
import Derived.WalkKit
import Derived.ProofKit
import Derived.OpenShut
import Derived.ShutString
import Derived.JoinedCond
import Derived.ReadAgain
import Derived.RowKit3
import Derived.Test.YtajopoddmfdejaaGreatToldM47
import Derived.Test.YtajopoddmfdejaaGreatToldM52
namespace Go.Proofs.YtajopoddmfdejaaGreat
open Go.ChangeShapes Go.WideShapes Go.ChangeAt Go.RowKit
set_option linter.unusedVariables false
theorem own:ownKnob Tryz.prog.godebug=none:=by kernel_rfl
theorem kidsZ:Go.Kids Tryz.prog (· < Tryz.prog.types.size):=kids_rows (by kernel_rfl) (by kernel_rfl)
theorem fullZ:∀ t e,t<Tryz.prog.types.size->Tryz.prog.underlying t=some (.slice e)->0<Tryz.prog.cellsOf e:=slices_full_of Tryz.prog (by kernel_rfl)
theorem typesZ:22<Tryz.prog.types.size:=by decide +kernel
set_option maxRecDepth 100000 in
theorem lifted (os:Os)(started:os.Started)(H:Type)(enc:TypeId×Value->H):
  ReturnsInHanded {} Tryz.checked os 5 .any (Rows.toldSpec.pre6 enc Tryz.prog Tryz.f5 Rows.toldRow.domain false) (Rows.toldSpec.post enc Tryz.prog Tryz.f5 false true false false):=by
 refine returnsInHanded_of_change (C:=Tryz.checked) own started (by kernel_rfl) Tryz.func5
  (ChangeSpec.witness6 (enc:=enc) (C:=Tryz.checked) false ⟨#[],#[.slice none 0 0,.slice none 0 0],[]⟩ 8 (by kernel_rfl) (by kernel_rfl) (by kernel_rfl) (by kernel_rfl)) ?_
 intro W base args ds gs before hval0 hW hcnd _
 have hval:∀ (j:Nat) t v,Tryz.f5.params[j]? = some t->args[j]? = some v->Value.okWide Tryz.prog W .any base t v:=hval0
 have hW':=hW
 obtain⟨p,q,hA0,hV,rfl,hfz,hnd⟩:=hW
 have hA:DataW.TrodAll enc Tryz.prog W 0 (fun _=>true) true Tryz.f5.params.toList args.toList ds p:=hA0
 rw[Tryz.params5] at hA hval
 obtain⟨v0,vs0,d0,ds0,p0,q0,hargs,rfl,rfl,h0,r0⟩:=trodAll_cons hA
 obtain⟨v1,vs1,d1,ds1,p1,q1,rfl,rfl,rfl,h1,r1⟩:=trodAll_cons r0
 obtain⟨rfl,rfl,rfl⟩:=trodAll_nil r1
 obtain rfl:args = #[v0,v1]:=by cases args;simp_all
 obtain⟨rfl,rfl⟩:=trodVars_none hV
 obtain⟨a0,len0,cap0,rfl⟩:=okWide_slice Tryz.underlying22 (hval 0 22 v0 rfl rfl)
 obtain⟨a1,len1,cap1,rfl⟩:=okWide_slice Tryz.underlying22 (hval 1 22 v1 rfl rfl)
 obtain⟨fuel,hf⟩:=h0
 obtain⟨fuel1,hf1⟩:=h1
 clear hA0 hval0
 simp only[List.append_nil] at hW'
 obtain⟨a,len,c,hv,hlen,hs⟩:=open_steps (x:=(d0,p0)) (show DataW.trod enc Tryz.prog W 0 (fun _=>true) true fuel 22 [.slice a0 len0 cap0]=some (d0,p0) from hf)
 obtain⟨a',len',c',hv',hlen',hs'⟩:=open_steps (x:=(d1,p1)) (show DataW.trod enc Tryz.prog W 0 (fun _=>true) true fuel1 22 [.slice a1 len1 cap1]=some (d1,p1) from hf1)
 rw[hv] at hf hW' ⊢
 rw[hv'] at hf1 hW' ⊢
 have hlt:∀ x ∈ p0++p1,x.block<W.heap.size:=fun x hx=>hW'.lt x hx
 refine (told_law W a a' len c len' c' hs hlen hs' hlen').mono fun e W' ⟨he,bel⟩=>?_
 subst he
 refine⟨_,rfl,_,_,_,[],p0++p1,[],hW',trodAll_mk1 (shut_bool Tryz.underlying4 _),?_,rfl,bel.frame _,fun h=>by cases h⟩
 rw[show p0++p1=p0++(p1 ++ []) by simp]
 refine trodAll_cons_mk ?_ (trodAll_cons_mk ?_ trodAll_mk0)
 ·exact⟨fuel,DataW.trod_respare kidsZ fullZ fuel _ _ (d0,p0) typesZ (DataW.trod_carry fuel _ _ _ hf (fun x hx=>bel.same (hlt x (List.mem_append_left _ hx)))) (fun x hx=>decide_eq_true (hlt x (List.mem_append_left _ hx)))⟩
 ·exact⟨fuel1,DataW.trod_respare kidsZ fullZ fuel1 _ _ (d1,p1) typesZ (DataW.trod_carry fuel1 _ _ _ hf1 (fun x hx=>bel.same (hlt x (List.mem_append_right _ hx)))) (fun x hx=>decide_eq_true (hlt x (List.mem_append_right _ hx)))⟩
theorem over:Rows.toldRow.holds Tryz.pinned (OpenSpec.ofChange Rows.toldSpec):=
 OpenClaim.holds_of_wide 5 Tryz.f5 rfl rfl rfl rfl rfl rfl rfl ⟨rfl,rfl,rfl,rfl,rfl⟩ rfl rfl rfl rfl rfl (by kernel_rfl) Tryz.func5 toldFacts
  (of_decide_eq_true (by kernel_rfl)) (by unfold Func.isWrapper;first | (rw[if_pos (by decide +kernel)];kernel_rfl) | (rw[if_neg (by decide +kernel)];exact⟨rfl,rfl⟩))
  (fun os started H enc _=>lifted os started H enc)
theorem told_holds:Rows.ToldSaid:=over
#print axioms told_holds
end Go.Proofs.YtajopoddmfdejaaGreat
