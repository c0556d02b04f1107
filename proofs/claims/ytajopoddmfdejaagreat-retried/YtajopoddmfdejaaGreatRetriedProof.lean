/-
  What is proved here: the given statement of 'Retried': whatever steps and picks come in, the call returns true, and all reads behind it as it did before it; no condition.
-/
import Derived.Test.YtajopoddmfdejaaGreatRetM50
import Derived.Test.YtajopoddmfdejaaGreatRows
import Derived.WalkKit
import Derived.ProofKit
import Derived.OpenShut
import Derived.ShutString
import Derived.JoinedCond
import Derived.ReadAgain
import Derived.RowKit3
import Derived.Test.YtajopoddmfdejaaGreatRetM45
import Derived.Test.YtajopoddmfdejaaGreatRetM51
namespace Go.Proofs.YtajopoddmfdejaaGreat
open Go.ChangeShapes Go.WideShapes Go.ChangeAt Go.RowKit Go.Deep Go.Shelf Go.Sort
set_option linter.unusedVariables false
theorem own:ownKnob Tryz.prog.godebug=none:=by kernel_rfl
theorem kidsZ:Go.Kids Tryz.prog (· < Tryz.prog.types.size):=kids_rows (by kernel_rfl) (by kernel_rfl)
theorem fullZ:∀ t e,t<Tryz.prog.types.size->Tryz.prog.underlying t=some (.slice e)->0<Tryz.prog.cellsOf e:=slices_full_of Tryz.prog (by kernel_rfl)
theorem typesZ:22<Tryz.prog.types.size:=by decide +kernel
theorem typesI:80<Tryz.prog.types.size:=by decide +kernel
theorem open_ints {H:Type}{enc:TypeId×Value->H}{w:World}{base:Nat}{sp:Nat->Bool}{held:Bool}{n:Nat}{v:Value}{x:DataW H×List MemPlace}(h:DataW.trod enc Tryz.prog w base sp held n 80 [v]=some x):∃ a len c,v=.slice a len c/\len<=maxLen/\IntsAt w a len:=by
 rcases open_slice Tryz.underlying80 h with ⟨hc,_⟩ | ⟨a,len,cap,m,n',D,Pl,hc,hb,hl,hm,hmm,hxx,hall⟩
 ·simp only[List.cons.injEq,and_true] at hc
  exact⟨none,0,0,hc,Nat.zero_le _,fun j hj=>absurd hj (Nat.not_lt_zero _)⟩
 ·simp only[List.cons.injEq,and_true] at hc
  have hlm:len<=m:=by rw[hmm];split <;> omega
  rw[nInt1] at hall
  refine⟨some a,len,cap,hc,by omega,fun j hj=>?_⟩
  obtain⟨cs,h1,h2⟩:=hall j (by omega)
  obtain⟨i0,rfl,_,w0⟩:=DataW.trod_int Tryz.underlying3 h2
  obtain⟨_,_,hcell⟩:=World.cells?_some h1
  have h3:=hcell 0 (by omega)
  rw[add_add] at h3
  have hsp:a.spot=none:=by
   obtain⟨cs,g1,g2⟩:=hall 0 (by omega)
   obtain⟨k0,rfl,_,_⟩:=DataW.trod_int Tryz.underlying3 g2
   obtain⟨_,_,gcell⟩:=World.cells?_some g1
   have:=World.cell?_spot (v:=.int .i64 k0) (by rw[gcell 0 (by omega)];rfl)
   simpa [Addr.add] using this
  have hbl:a.block<w.heap.size:=by
   have:=World.cells?_block h1 (by omega)
   rw[add_blk] at this;exact this
  refine⟨a.block,a.off,i0,?_,hbl,i64_of w0,?_⟩
  ·obtain⟨b,o,s⟩:=a
   simp only at hsp
   subst hsp;rfl
  ·have:=cell_of hsp h3
   simpa using this
set_option maxRecDepth 100000 in
theorem lifted (os:Os)(started:os.Started)(H:Type)(enc:TypeId×Value->H):
  ReturnsInHanded {} Tryz.checked os 9 .any (Rows.retriedSpec.pre6 enc Tryz.prog Tryz.f9 Rows.retriedRow.domain false) (Rows.retriedSpec.post enc Tryz.prog Tryz.f9 false true false false):=by
 refine returnsInHanded_of_change (C:=Tryz.checked) own started (by kernel_rfl) Tryz.func9
  (ChangeSpec.witness6 (enc:=enc) (C:=Tryz.checked) false ⟨#[],#[.slice none 0 0,.slice none 0 0,.slice none 0 0],[]⟩ 8 (by kernel_rfl) (by kernel_rfl) (by kernel_rfl) (by kernel_rfl)) ?_
 intro W base args ds gs before hval0 hW hcnd _
 have hval:∀ (j:Nat) t v,Tryz.f9.params[j]? = some t->args[j]? = some v->Value.okWide Tryz.prog W .any base t v:=hval0
 have hW':=hW
 obtain⟨p,q,hA0,hV,rfl,hfz,hnd⟩:=hW
 have hA:DataW.TrodAll enc Tryz.prog W 0 (fun _=>true) true Tryz.f9.params.toList args.toList ds p:=hA0
 rw[Tryz.params9] at hA hval
 obtain⟨v0,vs0,d0,ds0,p0,q0,hargs,rfl,rfl,h0,r0⟩:=trodAll_cons hA
 obtain⟨v1,vs1,d1,ds1,p1,q1,rfl,rfl,rfl,h1,r1⟩:=trodAll_cons r0
 obtain⟨v2,vs2,d2,ds2,p2,q2,rfl,rfl,rfl,h2,r2⟩:=trodAll_cons r1
 obtain⟨rfl,rfl,rfl⟩:=trodAll_nil r2
 obtain rfl:args = #[v0,v1,v2]:=by cases args;simp_all
 obtain⟨rfl,rfl⟩:=trodVars_none hV
 obtain⟨a0,len0,cap0,rfl⟩:=okWide_slice Tryz.underlying22 (hval 0 22 v0 rfl rfl)
 obtain⟨a1,len1,cap1,rfl⟩:=okWide_slice Tryz.underlying22 (hval 1 22 v1 rfl rfl)
 obtain⟨a2,len2,cap2,rfl⟩:=okWide_slice Tryz.underlying80 (hval 2 80 v2 rfl rfl)
 obtain⟨fuel,hf⟩:=h0
 obtain⟨fuel1,hf1⟩:=h1
 obtain⟨fuel2,hf2⟩:=h2
 clear hA0 hval0
 simp only[List.append_nil] at hW'
 obtain⟨a,len,c,hv,hlen,hs⟩:=open_steps (x:=(d0,p0)) (show DataW.trod enc Tryz.prog W 0 (fun _=>true) true fuel 22 [.slice a0 len0 cap0]=some (d0,p0) from hf)
 obtain⟨a',len',c',hv',hlen',hs'⟩:=open_steps (x:=(d1,p1)) (show DataW.trod enc Tryz.prog W 0 (fun _=>true) true fuel1 22 [.slice a1 len1 cap1]=some (d1,p1) from hf1)
 obtain⟨a'',len'',c'',hv'',hlen'',hs''⟩:=open_ints (x:=(d2,p2)) (show DataW.trod enc Tryz.prog W 0 (fun _=>true) true fuel2 80 [.slice a2 len2 cap2]=some (d2,p2) from hf2)
 rw[hv] at hf hW' ⊢
 rw[hv'] at hf1 hW' ⊢
 rw[hv''] at hf2 hW' ⊢
 have hlt:∀ x ∈ p0++(p1++p2),x.block<W.heap.size:=fun x hx=>hW'.lt x hx
 refine (retried_law W a a' a'' len c len' c' len'' c'' hs hlen hs' hlen' hs'' hlen'').mono fun e W' ⟨he,bel⟩=>?_
 subst he
 refine⟨_,rfl,_,_,_,[],p0++(p1++p2),[],hW',trodAll_mk1 (shut_bool Tryz.underlying4 _),?_,rfl,bel.frame _,fun h=>by cases h⟩
 rw[show p0++(p1++p2)=p0++(p1++(p2 ++ [])) by simp]
 refine trodAll_cons_mk ?_ (trodAll_cons_mk ?_ (trodAll_cons_mk ?_ trodAll_mk0))
 ·exact⟨fuel,DataW.trod_respare kidsZ fullZ fuel _ _ (d0,p0) typesZ (DataW.trod_carry fuel _ _ _ hf (fun x hx=>bel.same (hlt x (List.mem_append_left _ hx)))) (fun x hx=>decide_eq_true (hlt x (List.mem_append_left _ hx)))⟩
 ·exact⟨fuel1,DataW.trod_respare kidsZ fullZ fuel1 _ _ (d1,p1) typesZ (DataW.trod_carry fuel1 _ _ _ hf1 (fun x hx=>bel.same (hlt x (List.mem_append_right _ (List.mem_append_left _ hx))))) (fun x hx=>decide_eq_true (hlt x (List.mem_append_right _ (List.mem_append_left _ hx))))⟩
 ·exact⟨fuel2,DataW.trod_respare kidsZ fullZ fuel2 _ _ (d2,p2) typesI (DataW.trod_carry fuel2 _ _ _ hf2 (fun x hx=>bel.same (hlt x (List.mem_append_right _ (List.mem_append_right _ hx))))) (fun x hx=>decide_eq_true (hlt x (List.mem_append_right _ (List.mem_append_right _ hx))))⟩
theorem over:Rows.retriedRow.holds Tryz.pinned (OpenSpec.ofChange Rows.retriedSpec):=
 OpenClaim.holds_of_wide 9 Tryz.f9 rfl rfl rfl rfl rfl rfl rfl ⟨rfl,rfl,rfl,rfl,rfl⟩ rfl rfl rfl rfl rfl (by kernel_rfl) Tryz.func9 retriedFacts
  (of_decide_eq_true (by kernel_rfl)) (by unfold Func.isWrapper;first | (rw[if_pos (by decide +kernel)];kernel_rfl) | (rw[if_neg (by decide +kernel)];exact⟨rfl,rfl⟩))
  (fun os started H enc _=>lifted os started H enc)
theorem retried_holds:Rows.RetriedSaid:=over
#print axioms retried_holds
end Go.Proofs.YtajopoddmfdejaaGreat
