/-
  What is proved here: the given statement of 'All' where what comes in is of bulk at most 1048576: at every such script the call returns true, and the script reads behind it as it did before it; no other condition.
-/
import Derived.ProofKit
import Derived.OpenShut
import Derived.ShutString
import Derived.Test.YtlgidcmmgohagaaGreatAllM30
namespace Go.Proofs.YtlgidcmmgohagaaGreat
open Go.ChangeShapes Go.WideShapes Go.ChangeAt Go.RowKit
set_option linter.unusedVariables false
theorem own:ownKnob Tryz.prog.godebug=none:=by kernel_rfl
theorem abo:Go.Kids Tryz.prog (· < Tryz.prog.types.size):=kids_rows (by kernel_rfl) (by kernel_rfl)
theorem abp:∀t e,t<Tryz.prog.types.size->Tryz.prog.underlying t=some (.slice e)->0<Tryz.prog.cellsOf e:=slices_full_of Tryz.prog (by kernel_rfl)
theorem AIG:22<Tryz.prog.types.size:=by decide +kernel
set_option maxRecDepth 100000 in
theorem contract (H:Type)(enc:TypeId×Value->H)(W:World)(base:Nat)(args:Array Value)(ds gs:List (DataW H))(before:List MemPlace)
  (hval:∀(j:Nat) t v,Tryz.f7.params[j]? = some t->args[j]? = some v->Value.okWide Tryz.prog W .any base t v)
  (hW:DataW.Whole enc Tryz.prog Tryz.f7.params.toList Rows.allSpec.vars false W args.toList ds gs before)(hk:Rows.uptoSmall H (ds++gs)=true):
  Calls Tryz.prog 7 args W fun e W'=>∃v,e=.returned v/\Rows.allSpec.post enc Tryz.prog Tryz.f7 false true false false W args v W':=by
 have hW':=hW;obtain⟨p,q,hA0,hV,rfl,hfz,oh⟩:=hW;have hA:DataW.TrodAll enc Tryz.prog W 0 (fun _=>true) true Tryz.f7.params.toList args.toList ds p:=hA0;rw[Tryz.params7] at hA hval;obtain⟨v0,vs0,d0,ds0,p0,q0,aeo,rfl,rfl,h0,r0⟩:=trodAll_cons hA;obtain⟨rfl,rfl,rfl⟩:=trodAll_nil r0;obtain rfl:args = #[v0]:=by cases args;simp_all
 obtain⟨rfl,rfl⟩:=trodVars_none hV;obtain⟨a0,len,cap,rfl⟩:=okWide_slice Tryz.underlying22 (hval 0 22 v0 rfl rfl);obtain⟨fuel,hf⟩:=h0;clear hA0;simp only[List.append_nil] at hW';have hb:Rows.uptoBulk d0<=1048576:=by
  have h1:=of_decide_eq_true hk;simp only[List.append_nil,Rows.uptoBulkAll] at h1;omega
 obtain⟨a,n,c,ops,hv,hs⟩:=Oj (x :=(d0,p0)) (show DataW.trod enc Tryz.prog W 0 (fun _=>true) true fuel 22 [.slice a0 len cap]=some (d0,p0) from hf) hb;rw[hv] at hf hW' ⊢;have hlt:∀x ∈ p0,x.block<W.heap.size:=fun x hx=>hW'.lt x hx;refine (hwn W a n c ops hs).mono fun e W' ⟨he,bel⟩=>?_;subst he;refine⟨_,rfl,_,_,_,[],p0,[],hW',trodAll_mk1 (shut_bool Tryz.underlying4 _),trodAll_mk1 ?_,rfl,bel.frame _,fun h=>by cases h⟩;exact⟨fuel,DataW.trod_respare abo abp fuel _ _ (d0,p0) AIG (DataW.trod_carry fuel _ _ _ hf (fun x hx=>bel.same (hlt x hx))) (fun x hx=>decide_eq_true (hlt x hx))⟩
set_option maxRecDepth 100000 in
theorem lifted (os:Os)(started:os.Started)(H:Type)(enc:TypeId×Value->H)(F:Stop.Interp):
  ReturnsInHanded {} Tryz.checked os 7 .any ((Rows.OpenSpec.upto Rows.allSpec).pre6 enc Tryz.prog Tryz.f7 Rows.allUptoRow.domain false) (((Rows.OpenSpec.upto Rows.allSpec).at F).post enc Tryz.prog Tryz.f7 false true false false):=by
 refine returnsInHanded_of_cond (C :=Tryz.checked) (s :=Rows.OpenSpec.upto Rows.allSpec) (k :=Rows.uptoSmall) rfl own started (by kernel_rfl) Tryz.func7
  (OpenSpec.witness (enc :=enc) (C :=Tryz.checked) (s :=Rows.OpenSpec.upto Rows.allSpec) (k :=Rows.uptoSmall) rfl false ⟨#[],#[.slice none 0 0],[]⟩ 8 (by kernel_rfl) (by kernel_rfl) (by kernel_rfl)
   (x :=([.nil],[],[])) (by kernel_rfl) rfl (by kernel_rfl)) ?_
 intro W base args ds gs before hval hW _ hk _;exact contract H enc W base args ds gs before hval hW hk
theorem over:Rows.allUptoRow.holds Tryz.pinned (Rows.OpenSpec.upto Rows.allSpec):=
 OpenClaim.holds_of_cond 7 Tryz.f7 rfl rfl rfl rfl rfl rfl rfl ⟨rfl,rfl,rfl,rfl,rfl⟩ rfl rfl rfl rfl rfl (by kernel_rfl) Tryz.func7 hxs
  (of_decide_eq_true (by kernel_rfl)) (by unfold Func.isWrapper;first | (rw[if_pos (by decide +kernel)];kernel_rfl) | (rw[if_neg (by decide +kernel)];exact⟨rfl,rfl⟩))
  (fun os started H enc _ F=>lifted os started H enc F)
theorem all_holds:Rows.AllUptoSaid:=over
#print axioms all_holds
end Go.Proofs.YtlgidcmmgohagaaGreat
