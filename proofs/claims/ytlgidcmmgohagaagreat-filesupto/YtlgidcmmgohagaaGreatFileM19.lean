/- What is proved here: Get of a workspace's two shelves. -/
import Derived.Test.YtlgidcmmgohagaaGreatFileM18
import Derived.Deep.LoopGhost
namespace Go.Proofs.YtlgidcmmgohagaaGreat
open Go.RowKit Go.Sort Go.Shelf Go.Proofs.Tryz
set_option linter.unusedVariables false
set_option maxRecDepth 100000
set_option maxHeartbeats 16000000
theorem lawID:Maps.Keyed prog 29:=Maps.int_keyed underlying29
theorem keyID {id:Int}(h:(Lit.int .i64 id).wf=true):keyOf prog 29 (.int .i64 id)=some (idL id):=by
 simp[keyOf,underlying29,mapKey,h,idL]
theorem zeroEs (w:World):(zeroValue 55).run prog w=.ok (.slice none 0 0) w:=by kernel_rfl
theorem getF_hit (b m p n:Nat)(M:Lit->Option Value)(id:Int)(d:ByteArray)(w:World)(c1:w.cell? ⟨b,1,none⟩=some (.map (some m)))(hV:VMap w 29 m n M)(hw:(Lit.int .i64 id).wf=true)(hM:M (idL id)=some (.string d)):
  Calls prog 213 #[.pointer (some ⟨b,0,none⟩),.int .i64 id] w fun e w'=>e=.returned (.tuple #[.string d,.int .i64 0])/\w'=w:=by
 have hlk:=hV.look_ok lawID underlying265 (zeroStr w) (keyID hw);rw[hM] at hlk;clear hV hM;go_enter func213,ntmps213;go_wp2_with (simp only[hlk]);go_ret2;exact⟨rfl,rfl⟩
theorem getF_fail (b m p n:Nat)(M:Lit->Option Value)(id:Int)(R:World->Prop)(w:World)(c0:w.cell? ⟨b,0,none⟩=some (.func (.func 115) #[ptr p] #[]))(c1:w.cell? ⟨b,1,none⟩=some (.map (some m)))(hV:VMap w 29 m n M)(hw:(Lit.int .i64 id).wf=true)(hM:M (idL id)=none)
  (hcall:Calls prog 115 #[.pointer (some ⟨p,0,none⟩),.int .i64 id] w fun e w1=>e=.returned (.tuple #[.string ⟨#[]⟩,.int .i64 14])/\R w1):
  Calls prog 213 #[.pointer (some ⟨b,0,none⟩),.int .i64 id] w fun e w'=>e=.returned (.tuple #[.string ⟨#[]⟩,.int .i64 14])/\R w':=by
 have hlk:=hV.look_ok lawID underlying265 (zeroStr w) (keyID hw);rw[hM] at hlk;unfold ptr at c0;clear hV hM;go_enter func213,ntmps213;go_wp2_with (first | (go_at_call 115;refine hcall.mono ?_;rintro e w1 ⟨rfl,hR⟩));go_ret2;exact⟨rfl,hR⟩
theorem getF_new (b m p n:Nat)(M:Lit->Option Value)(id:Int)(R:ByteArray->World->Prop)(w:World)(c0:w.cell? ⟨b,0,none⟩=some (.func (.func 115) #[ptr p] #[]))(c1:w.cell? ⟨b,1,none⟩=some (.map (some m)))(hV:VMap w 29 m n M)(hw:(Lit.int .i64 id).wf=true)(hM:M (idL id)=none)(hn:n<maxLen)
  (hcall:Calls prog 115 #[.pointer (some ⟨p,0,none⟩),.int .i64 id] w fun e w1=>∃d:ByteArray,e=.returned (.tuple #[.string d,.int .i64 0])/\R d w1)
  (hR:∀d w1,R d w1->w1.cell? ⟨b,1,none⟩=some (.map (some m))/\VMap w1 29 m n M):
  Calls prog 213 #[.pointer (some ⟨b,0,none⟩),.int .i64 id] w fun e w'=>∃d:ByteArray,e=.returned (.tuple #[.string d,.int .i64 0])/\∃w1,R d w1/\VMap w' 29 m (n+1) (mset M (idL id) (some (.string d)))/\w1.grownBy w' (some m)/\w'.heap.size=w1.heap.size:=by
 have hlk:=hV.look_ok lawID underlying265 (zeroStr w) (keyID hw);rw[hM] at hlk;unfold ptr at c0;clear hV hM;go_enter func213,ntmps213;go_wp2_with (first | (go_at_call 115;refine hcall.mono ?_;rintro e w1 ⟨d,rfl,hR1⟩;obtain⟨c1',hV1⟩:=hR _ _ hR1;obtain⟨w2,hst,hV2,hg2,hs2⟩:=hV1.store lawID underlying265 hn (keyID hw) (val:=.string d);have HV:Hid _:=hV2;have HG:Hid _:=hg2;have HS:Hid _:=hs2;have HR:Hid _:=hR1;clear hV1 hV2 hg2 hs2 hR1));go_ret2;exact⟨d,rfl,w1,HR.out,HV.out,HG.out,HS.out⟩
theorem getD_hit (b m p n:Nat)(M:Lit->Option Value)(id:Int)(la:Option Addr)(ln lc:Nat)(w:World)(c1:w.cell? ⟨b,1,none⟩=some (.map (some m)))(hV:VMap w 29 m n M)(hw:(Lit.int .i64 id).wf=true)(hM:M (idL id)=some (.slice la ln lc)):
  Calls prog 217 #[.pointer (some ⟨b,0,none⟩),.int .i64 id] w fun e w'=>e=.returned (.tuple #[.slice la ln lc,.int .i64 0])/\w'=w:=by
 have hlk:=hV.look_ok lawID underlying269 (zeroEs w) (keyID hw);rw[hM] at hlk;clear hV hM;go_enter func217,ntmps217;go_wp2_with (simp only[hlk]);go_ret2;exact⟨rfl,rfl⟩
theorem getD_fail (b m p n:Nat)(M:Lit->Option Value)(id:Int)(R:World->Prop)(w:World)(c0:w.cell? ⟨b,0,none⟩=some (.func (.func 117) #[ptr p] #[]))(c1:w.cell? ⟨b,1,none⟩=some (.map (some m)))(hV:VMap w 29 m n M)(hw:(Lit.int .i64 id).wf=true)(hM:M (idL id)=none)
  (hcall:Calls prog 117 #[.pointer (some ⟨p,0,none⟩),.int .i64 id] w fun e w1=>e=.returned (.tuple #[.slice none 0 0,.int .i64 14])/\R w1):
  Calls prog 217 #[.pointer (some ⟨b,0,none⟩),.int .i64 id] w fun e w'=>e=.returned (.tuple #[.slice none 0 0,.int .i64 14])/\R w':=by
 have hlk:=hV.look_ok lawID underlying269 (zeroEs w) (keyID hw);rw[hM] at hlk;unfold ptr at c0;clear hV hM;go_enter func217,ntmps217;go_wp2_with (first | (go_at_call 117;refine hcall.mono ?_;rintro e w1 ⟨rfl,hR⟩));go_ret2;exact⟨rfl,hR⟩
theorem getD_new (b m p n:Nat)(M:Lit->Option Value)(id:Int)(R:Option Addr->Nat->Nat->World->Prop)(w:World)(c0:w.cell? ⟨b,0,none⟩=some (.func (.func 117) #[ptr p] #[]))(c1:w.cell? ⟨b,1,none⟩=some (.map (some m)))(hV:VMap w 29 m n M)(hw:(Lit.int .i64 id).wf=true)(hM:M (idL id)=none)(hn:n<maxLen)
  (hcall:Calls prog 117 #[.pointer (some ⟨p,0,none⟩),.int .i64 id] w fun e w1=>∃la ln lc,e=.returned (.tuple #[.slice la ln lc,.int .i64 0])/\R la ln lc w1)
  (hR:∀la ln lc w1,R la ln lc w1->w1.cell? ⟨b,1,none⟩=some (.map (some m))/\VMap w1 29 m n M):
  Calls prog 217 #[.pointer (some ⟨b,0,none⟩),.int .i64 id] w fun e w'=>∃la ln lc,e=.returned (.tuple #[.slice la ln lc,.int .i64 0])/\∃w1,R la ln lc w1/\VMap w' 29 m (n+1) (mset M (idL id) (some (.slice la ln lc)))/\w1.grownBy w' (some m)/\w'.heap.size=w1.heap.size:=by
 have hlk:=hV.look_ok lawID underlying269 (zeroEs w) (keyID hw);rw[hM] at hlk;unfold ptr at c0;clear hV hM;go_enter func217,ntmps217;go_wp2_with (first | (go_at_call 117;refine hcall.mono ?_;rintro e w1 ⟨la,ln,lc,rfl,hR1⟩;obtain⟨c1',hV1⟩:=hR _ _ _ _ hR1;obtain⟨w2,hst,hV2,hg2,hs2⟩:=hV1.store lawID underlying269 hn (keyID hw) (val:=.slice la ln lc);have HV:Hid _:=hV2;have HG:Hid _:=hg2;have HS:Hid _:=hs2;have HR:Hid _:=hR1;clear hV1 hV2 hg2 hs2 hR1));go_ret2;exact⟨la,ln,lc,rfl,w1,HR.out,HV.out,HG.out,HS.out⟩
theorem kind_in {objs:List Ob}{id:Int}(h:kindOf objs id≠0):1<=id/\id<=objs.length:=by
 refine⟨kind_id rfl h,?_⟩;by_cases h2:id<=objs.length
 ·exact h2
 ·exact absurd (kindOf_out (.inr (by omega))) h
theorem SInv.many {tg:Tags}{w:World}{s p:Nat}{objs:List Ob}{got:List Int}{brk:Bool}{lim:Nat}(h:SInv tg w s p objs got brk lim):objs.length<=400:=by
 obtain⟨_,ft,_,⟨a,cap,bf,bd,Df,Dd,i⟩,_⟩:=h;exact i.pool.many
theorem SInv.wf {tg:Tags}{w:World}{s p:Nat}{objs:List Ob}{got:List Int}{brk:Bool}{lim:Nat}(h:SInv tg w s p objs got brk lim){id:Int}(hk:kindOf objs id≠0):(Lit.int .i64 id).wf=true:=by
 have h1:=kind_in hk;have h2:=h.many;exact WalkArith.wf_i64 (by omega)
theorem KeptF.mono {tg:Tags}{w:World}{i:Nat}{B:WB}{objs:List Ob}{kF:Int->Bool}{lim lim':Nat}(h:KeptF tg w i B objs kF lim)(hl:lim<=lim'):KeptF tg w i B objs kF lim':=by
 obtain⟨ht,n,M,hn,r⟩:=h;exact⟨ht,n,M,zzG hn hl,r⟩
theorem KeptD.mono {tg:Tags}{w:World}{i:Nat}{B:WB}{objs:List Ob}{kD:Int->Bool}{lim lim':Nat}(h:KeptD tg w i B objs kD lim)(hl:lim<=lim'):KeptD tg w i B objs kD lim':=by
 obtain⟨ht,n,M,vK,hn,r⟩:=h;exact⟨ht,n,M,vK,zzG hn hl,r⟩
theorem OwnF.mono {tg:Tags}{w:World}{i:Nat}{B:WB}{of:List ByteArray->Option Nat}{lim lim':Nat}(h:OwnF tg w i B of lim)(hl:lim<=lim'):OwnF tg w i B of lim':=by
 obtain⟨ht,⟨n,hn,r⟩,hg⟩:=h;exact⟨ht,⟨n,zzG hn hl,r⟩,hg⟩
theorem OwnDV.mono {tg:Tags}{w:World}{i:Nat}{B:WB}{od:List ByteArray->Option (List Ent)}{lim lim':Nat}{vD:List ByteArray->Value}(h:OwnDV tg w i B od lim vD)(hl:lim<=lim'):OwnDV tg w i B od lim' vD:=by
 obtain⟨ht,⟨n,hn,r⟩,r1,r2,r3⟩:=h;exact⟨ht,⟨n,zzG hn hl,r⟩,r1,r2,r3⟩
theorem WPart.mono {tg:Tags}{w:World}{i p:Nat}{B:WB}{objs:List Ob}{g:WG}{lim lim':Nat}(h:WPart tg w i p B objs g lim)(hl:lim<=lim'):WPart tg w i p B objs g lim':=by
 obtain⟨vD,hD⟩:=h.ownD;exact⟨h.tree,h.keptF.mono hl,h.keptD.mono hl,h.ownF.mono hl,⟨vD,hD.mono hl⟩,h.files,h.held,h.opens,h.ok⟩
theorem WInv.mono {tg:Tags}{w:World}{s i p:Nat}{B:WB}{objs:List Ob}{g:WG}{lim lim':Nat}(h:WInv tg w s i p B objs g lim)(hl:lim<=lim'):WInv tg w s i p B objs g lim':=⟨h.two,h.st.mono hl,h.wp.mono hl⟩
theorem WPart.fs {P:Nat×Nat->Prop}{tg tg':Tags}{w w':World}{i p:Nat}{B:WB}{objs:List Ob}{g:WG}{lim lim':Nat}{fs':FS}(h:WPart tg w i p B objs g lim)(m:Moves P tg tg' w w')(hn:∀k,k≠2->k≠3->¬P (i,k))(hl:lim<=lim')
  (hF:KeptF tg' w' i B objs fs'.kF lim')(hD:KeptD tg' w' i B objs fs'.kD lim'):WPart tg' w' i p B objs { g with fs:=fs' } lim':=by
 obtain⟨vD,oD⟩:=h.ownD;exact⟨h.tree.moves m (hn 1 (by decide) (by decide)),hF,hD,(h.ownF.moves m (hn 4 (by decide) (by decide))).mono hl,⟨vD,(oD.moves m (hn 5 (by decide) (by decide))).mono hl⟩,h.files.moves m (hn 6 (by decide) (by decide)),h.held,h.opens.moves m (hn 0 (by decide) (by decide)) (hn 7 (by decide) (by decide)),h.ok⟩
theorem got_not {i:Nat}(hi:2<=i)(k:Nat):¬Got (i,k):=by
 rintro (h | h)
 ·cases h;omega
 ·cases h;omega
def Fetches (i:Nat)(t:Nat×Nat):Prop:=t.1=1\/t=(i,2)\/t=(i,3)
theorem Fetches.mine {i:Nat}{t:Nat×Nat}(h:Fetches i t):Mine i t:=by
 rcases h with h | h | h
 ·exact .inl h
 ·rw[h];exact .inr rfl
 ·rw[h];exact .inr rfl
theorem got_fetch {i:Nat}{t:Nat×Nat}(h:Got t):Fetches i t:=by
 rcases h with rfl | rfl
 ·exact .inl rfl
 ·exact .inl rfl
theorem moves_grown {P:Nat×Nat->Prop}{tg:Tags}{w w':World}{b:Nat}(hg:w.grownBy w' (some b))(hs:w'.heap.size=w.heap.size)(hP:P (tg b)):Moves P tg tg w w':=
 ⟨hg.os,hg.tape,hg.output,hg.size,fun _ _=>rfl,fun k hk hn=>hg.block k hk (fun e=>hn (by cases e;exact hP)),fun hf k hk=>hf k (by omega)⟩
section
variable {tg:Tags}{w:World}{s i p:Nat}{B:WB}{objs:List Ob}{g:WG}{lim:Nat}
theorem shelfF (h:WInv tg w s i p B objs g lim)(hl:lim<1099511627776){id:Int}(hk:kindOf objs id=1):
  Calls prog 213 #[.pointer (some ⟨B.sF,0,none⟩),.int .i64 id] w fun e w'=>
   e=.returned (.tuple #[.string (if (g.fs.fileG id).2 then bytesOf objs id else ⟨#[]⟩),.int .i64 (if (g.fs.fileG id).2 then 0 else 14)])/\∃tg',Moves (Fetches i) tg tg' w w'/\WInv tg' w' s i p B objs { g with fs:=(g.fs.fileG id).1 } (lim+1):=by
 have hwf:=h.st.wf (id:=id) (by rw[hk];decide);obtain⟨htF,n,M,hn,hV,hM,hK⟩:=h.wp.keptF;have c0:w.cell? ⟨B.sF,0,none⟩=some (.func (.func 115) #[ptr p] #[]):=by simp[World.cell?,h.wp.tree.hF]
 have c1:w.cell? ⟨B.sF,1,none⟩=some (.map (some B.mF)):=by simp[World.cell?,h.wp.tree.hF]
 by_cases hin:g.fs.kF id=true
 ·have hG:g.fs.fileG id=(g.fs,true):=by unfold FS.fileG;rw[zzD hin]
  rw[hG];refine (getF_hit B.sF B.mF p n M id (bytesOf objs id) w c1 hV hwf (by rw[hM,zzD hin])).mono ?_;rintro e w' ⟨rfl,rfl⟩;exact⟨rfl,tg,Moves.refl _ _ _,h.mono (Nat.le_succ _)⟩
 ·have hM0:M (idL id)=none:=by rw[hM,zzB hin]
  cases hb:g.fs.brk with
  | true=>
   have hG:g.fs.fileG id=({ g.fs with brk:=false },false):=by unfold FS.fileG;rw[zzB hin,zzD hb]
   rw[hG];refine (getF_fail B.sF B.mF p n M id (fun w'=>∃tg',Moves Got tg tg' w w'/\SInv tg' w' s p objs g.fs.got false lim) w c0 c1 hV hwf hM0 ((fetchFile_any h.st hl hk).mono ?_)).mono ?_
   ·rintro e w' ⟨er,rfl,tg',m,⟨_,rfl,hS⟩ | ⟨hc,_⟩⟩
    ·exact⟨rfl,tg',m,hS⟩
    ·rw[hb] at hc;cases hc
   ·rintro e w' ⟨rfl,tg',m,hS⟩
    exact⟨rfl,tg',m.mono (fun t ht=>got_fetch ht),h.two,hS.mono (Nat.le_succ _),h.wp.fs m (fun k _ _=>got_not h.two k) (Nat.le_succ _) ((h.wp.keptF.moves m (got_not h.two 2)).mono (Nat.le_succ _)) ((h.wp.keptD.moves m (got_not h.two 3)).mono (Nat.le_succ _))⟩
  | false=>
   have hG:g.fs.fileG id=({ g.fs with got:=g.fs.got ++ [id],kF:=fun x=>decide (x=id) || g.fs.kF x },true):=by unfold FS.fileG;rw[zzB hin,zzB (by rw[hb];decide)]
   rw[hG];refine (getF_new B.sF B.mF p n M id (fun d w'=>d=bytesOf objs id/\∃tg',Moves Got tg tg' w w'/\SInv tg' w' s p objs (g.fs.got ++ [id]) false (lim+1)) w c0 c1 hV hwf hM0 (by unfold maxLen;omega) ((fetchFile_any h.st hl hk).mono ?_) ?_).mono ?_
   ·rintro e w' ⟨er,rfl,tg',m,⟨hc,_⟩ | ⟨_,rfl,hS⟩⟩
    ·rw[hb] at hc;cases hc
    ·exact⟨bytesOf objs id,rfl,rfl,tg',m,hS⟩
   ·rintro d w1 ⟨_,tg',m,hS⟩
    have ht:=h.wp.tree.moves m (got_not h.two 1);exact⟨by simp[World.cell?,ht.hF],(hV.moves m htF (got_not h.two 2)).1⟩
   ·rintro e w' ⟨d,rfl,w1,⟨rfl,tg',m,hS⟩,hV2,hg2,hs2⟩
    have ht2:=(hV.moves m htF (got_not h.two 2)).2;have m2:Moves (fun t=>t=(i,2)) tg' tg' w1 w':=moves_grown hg2 hs2 ht2;have m3:Moves (fun t=>Got t\/t=(i,2)) tg tg' w w':=(m.mono (fun t ht=>.inl ht)).trans (m2.mono (fun t ht=>.inr ht));have hi:=h.two;refine⟨rfl,tg',m3.mono (fun t ht=>ht.elim got_fetch (fun e=>.inr (.inl e))),h.two,?_,h.wp.fs m3 (fun k h2 _=>?_) (Nat.le_succ _) ?_ ?_⟩
    ·rw[show ({ g.fs with got:=g.fs.got ++ [id],kF:=fun x=>decide (x=id) || g.fs.kF x }:FS).brk=false from hb]
     exact hS.moves m2 (fun e=>by cases e) (fun e=>by cases e)
    ·rintro (h | h)
     ·exact got_not hi k h
     ·cases h;exact h2 rfl
    ·refine⟨ht2,n+1,_,by omega,hV2,fun x=>?_,fun x hx=>?_⟩
     ·by_cases hx:x=id
      ·subst hx;rw[mset_same];simp
      ·rw[mset_other (fun e=>hx (by injection e)),hM x];simp[hx]
     ·by_cases hxe:x=id
      ·rw[hxe];exact hk
      ·exact hK x (by simpa [hxe] using hx)
    ·exact (h.wp.keptD.moves m3 (by rintro (h | h);exact got_not hi 3 h;cases h)).mono (Nat.le_succ _)
theorem shelfD9 (h:WInv tg w s i p B objs g lim)(hl:lim<1099511627776){id:Int}(hk:kindOf objs id=2):
  Calls prog 217 #[.pointer (some ⟨B.sD,0,none⟩),.int .i64 id] w fun e w'=>
   ∃v,e=.returned (.tuple #[v,.int .i64 (if (g.fs.dirG id).2 then 0 else 14)])/\∃tg',Moves (Fetches i) tg tg' w w'/\WInv tg' w' s i p B objs { g with fs:=(g.fs.dirG id).1 } (lim+1)/\
    (if (g.fs.dirG id).2 then RowT tg' w' (i,3) v (entsOf objs id) else v=.slice none 0 0)/\∀v es k,(k=3\/k=5)->RowT tg w (i,k) v es->RowT tg' w' (i,k) v es:=by
 have hwf:=h.st.wf (id:=id) (by rw[hk];decide);obtain⟨htD,n,M,vK,hn,hV,hM,hK⟩:=h.wp.keptD;have c0:w.cell? ⟨B.sD,0,none⟩=some (.func (.func 117) #[ptr p] #[]):=by simp[World.cell?,h.wp.tree.hD]
 have c1:w.cell? ⟨B.sD,1,none⟩=some (.map (some B.mD)):=by simp[World.cell?,h.wp.tree.hD]
 by_cases hin:g.fs.kD id=true
 ·have hG:g.fs.dirG id=(g.fs,true):=by unfold FS.dirG;rw[zzD hin]
  rw[hG];have hrow:=(hK id hin).2;obtain⟨la,ln,lc,hv⟩:∃la ln lc,vK id=.slice la ln lc:=by
   rcases hrow.1.2 with ⟨e,_⟩ | ⟨g',c',_,e,_⟩
   ·exact⟨_,_,_,e⟩
   ·exact⟨_,_,_,e⟩
  refine (getD_hit B.sD B.mD p n M id la ln lc w c1 hV hwf (by rw[hM,zzD hin,hv])).mono ?_;rintro e w' ⟨rfl,rfl⟩;exact⟨_,rfl,tg,Moves.refl _ _ _,h.mono (Nat.le_succ _),by rw[zzD rfl,<-hv];exact hrow,fun _ _ _ _ h=>h⟩
 ·have hM0:M (idL id)=none:=by rw[hM,zzB hin]
  cases hb:g.fs.brk with
  | true=>
   have hG:g.fs.dirG id=({ g.fs with brk:=false },false):=by unfold FS.dirG;rw[zzB hin,zzD hb]
   rw[hG];refine (getD_fail B.sD B.mD p n M id (fun w'=>∃tg',Moves Got tg tg' w w'/\SInv tg' w' s p objs g.fs.got false lim) w c0 c1 hV hwf hM0 ((fetchDir_any h.st hl hk).mono ?_)).mono ?_
   ·rintro e w' ⟨er,v,rfl,hv,tg',m,⟨_,rfl,hS⟩ | ⟨hc,_⟩,_⟩
    ·rw[hv (by decide)];exact⟨rfl,tg',m,hS⟩
    ·rw[hb] at hc;cases hc
   ·rintro e w' ⟨rfl,tg',m,hS⟩
    exact⟨_,rfl,tg',m.mono (fun t ht=>got_fetch ht),⟨h.two,hS.mono (Nat.le_succ _),h.wp.fs m (fun k _ _=>got_not h.two k) (Nat.le_succ _) ((h.wp.keptF.moves m (got_not h.two 2)).mono (Nat.le_succ _)) ((h.wp.keptD.moves m (got_not h.two 3)).mono (Nat.le_succ _))⟩,rfl,fun _ _ k _ hr=>hr.moves m (got_not h.two k)⟩
  | false=>
   have hG:g.fs.dirG id=({ g.fs with got:=g.fs.got ++ [id],kD:=fun x=>decide (x=id) || g.fs.kD x },true):=by unfold FS.dirG;rw[zzB hin,zzB (by rw[hb];decide)]
   rw[hG];refine (getD_new B.sD B.mD p n M id (fun la ln lc w'=>∃gb,Value.slice la ln lc=.slice (some ⟨gb,0,none⟩) (entsOf objs id).length (entsOf objs id).length/\w.heap.size<=gb/\w'.ownsRow 0 96 3 (.slice la ln lc) (entsOf objs id).length (flat (entsOf objs id))/\∃tg',tg' gb=(0,0)/\Moves Got tg tg' w w'/\SInv tg' w' s p objs (g.fs.got ++ [id]) false (lim+1)) w c0 c1 hV hwf hM0 (by unfold maxLen;omega) ((fetchDir_any h.st hl hk).mono ?_) ?_).mono ?_
   ·rintro e w' ⟨er,v,rfl,_,tg',m,⟨hc,_⟩ | ⟨_,rfl,hS⟩,hr⟩
    ·rw[hb] at hc;cases hc
    ·obtain⟨gb,rfl,hge,ht0,hrow⟩:=hr rfl
     exact⟨_,_,_,rfl,gb,rfl,hge,hrow,tg',ht0,m,hS⟩
   ·rintro la ln lc w1 ⟨_,_,_,_,tg',_,m,hS⟩
    have ht:=h.wp.tree.moves m (got_not h.two 1);exact⟨by simp[World.cell?,ht.hD],(hV.moves m htD (got_not h.two 3)).1⟩
   ·rintro e w' ⟨la,ln,lc,rfl,w1,⟨gb,hveq,hge,hrow,tg1,ht0,m,hS⟩,hV2,hg2,hs2⟩
    have ht2:=(hV.moves m htD (got_not h.two 3)).2;have hi:=h.two;have hgl:gb<w1.heap.size:=ownsRow_lt hrow (by rw[hveq];rfl)
    -- the new row is the workspace's
    have hfr1:Fresh (tagAt tg1 gb (i,3)) w1:=fun k hk=>by rw[tagAt_other (by omega)];exact hS.fresh k hk
    have m1:Moves Got tg (tagAt tg1 gb (i,3)) w w1:=⟨m.os,m.tape,m.output,m.size,fun k hk=>by rw[tagAt_other (by omega)];exact m.tags k hk,m.block,fun _=>hfr1⟩;have hS1:SInv (tagAt tg1 gb (i,3)) w1 s p objs (g.fs.got ++ [id]) false (lim+1):=hS.retag hfr1 (fun k hk=>tagAt_other (fun e=>by rw[e,ht0] at hk;cases hk) _);have hmD:tagAt tg1 gb (i,3) B.mD=(i,3):=(hV.moves m1 htD (got_not h.two 3)).2;have m2:Moves (fun t=>t=(i,3)) (tagAt tg1 gb (i,3)) (tagAt tg1 gb (i,3)) w1 w':=moves_grown hg2 hs2 hmD;have m3:Moves (fun t=>Got t\/t=(i,3)) tg (tagAt tg1 gb (i,3)) w w':=(m1.mono (fun t ht=>.inl ht)).trans (m2.mono (fun t ht=>.inr ht));obtain⟨es1,ck1,hbm⟩:=(hV.moves m1 htD (got_not h.two 3)).1.isMap;have hmg:∀v es k,RowT (tagAt tg1 gb (i,3)) w1 (i,k) v es->RowT (tagAt tg1 gb (i,3)) w' (i,k) v es:=fun v es k hr=>hr.keep (fun g' hg' hl'=>⟨hg2.block g' hl' (fun e=>by
     have e':g'=B.mD:=by injection e
     rw[e'] at hg';exact owns_ne_map hr.1 hbm hg'.symm),rfl⟩)
    have hnew:RowT (tagAt tg1 gb (i,3)) w' (i,3) (.slice la ln lc) (entsOf objs id):=hmg _ _ _ ⟨hrow,fun g' hg'=>by
     rw[hveq] at hg';obtain rfl:gb=g':=by simpa [Value.ownBlock] using hg'
     exact tagAt_same _ _ _⟩
    refine⟨_,rfl,_,m3.mono (fun t ht=>ht.elim got_fetch (fun e=>.inr (.inr e))),⟨h.two,?_,h.wp.fs m3 (fun k _ h3=>?_) (Nat.le_succ _) ?_ ?_⟩,hnew,fun v es k _ hr=>hmg _ _ _ (hr.moves m1 (got_not h.two k))⟩
    ·rw[show ({ g.fs with got:=g.fs.got ++ [id],kD:=fun x=>decide (x=id) || g.fs.kD x }:FS).brk=false from hb]
     exact hS1.moves m2 (fun e=>by cases e) (fun e=>by cases e)
    ·rintro (h | h)
     ·exact got_not hi k h
     ·cases h;exact h3 rfl
    ·exact (h.wp.keptF.moves m3 (by rintro (h | h);exact got_not hi 2 h;cases h)).mono (Nat.le_succ _)
    ·refine⟨hmD,n+1,_,fun x=>if x=id then .slice la ln lc else vK x,by omega,hV2,fun x=>?_,fun x hx=>?_⟩
     ·by_cases hx:x=id
      ·subst hx;rw[mset_same];simp
      ·rw[mset_other (fun e=>hx (by injection e)),hM x];simp[hx]
     ·by_cases hxe:x=id
      ·subst hxe
       show _/\RowT _ _ _ (if x=x then _ else _) _;rw[zzD rfl];exact⟨hk,hnew⟩
      ·show _/\RowT _ _ _ (if x=id then _ else _) _
       rw[zzB hxe];have hx':g.fs.kD x=true:=by simpa [hxe] using hx
       exact⟨(hK x hx').1,hmg _ _ _ ((hK x hx').2.moves m1 (got_not h.two 3))⟩
end
theorem searchL_any (x:Ent)(n:ByteArray)(W:World):Calls prog 190 #[.agg #[.string x.1,.int .i64 x.2.1,.int .i64 x.2.2],.string n] W fun e w'=>e=.returned (.int .i64 (cmpN x.1 n))/\Below W.heap.size W w':=by
 have hcon:=fun w=>strings_Compare x.1 n w;go_enter func190,ntmps190;go_wp2_with (go_at_call 191;refine (hcon _).mono ?_;rintro e w' ⟨rfl,rfl⟩);go_ret;exact⟨rfl,(Below.refl _ _).alloc (zzC _) _⟩
theorem row_at {w:World}{b:Nat}{es:List Ent}(hc:∀j u,(flat es)[j]? = some u->w.cell? ⟨b,j,none⟩=some u){i:Nat}(hi:i<es.length):
  w.cell? ⟨b,i*3,none⟩=some (.string es[i].1)/\w.cell? ⟨b,i*3+1,none⟩=some (.int .i64 es[i].2.1)/\w.cell? ⟨b,i*3+2,none⟩=some (.int .i64 es[i].2.2):=by
 refine⟨hc _ _ ?_,hc _ _ ?_,hc _ _ ?_⟩
 ·have:=flat_get es i 0 hi (by decide);simpa [encE] using this
 ·have:=flat_get es i 1 hi (by decide);simpa [encE] using this
 ·have:=flat_get es i 2 hi (by decide);simpa [encE] using this
def Parted (es:List Ent)(n:ByteArray)(lo hi:Nat):Prop:=(∀j (h:j<es.length),j<lo->cmpN es[j].1 n<0)/\(∀j (h:j<es.length),hi<=j->¬cmpN es[j].1 n<0)
theorem parted_idx {es:List Ent}{n:ByteArray}{k:Nat}(hk:k<=es.length)(h:Parted es n k k):idxK es n=k:=by
 unfold idxK;have e:es=es.take k++es.drop k:=(List.take_append_drop k es).symm;rw[e,List.countP_append,List.countP_eq_length.2 (by
  intro x hx;obtain⟨j,hj,rfl⟩:=List.getElem_of_mem hx;rw[List.length_take] at hj;rw[List.getElem_take];exact decide_eq_true (h.1 j (by omega) (by omega))),List.countP_eq_zero.2 (by
  intro x hx;obtain⟨j,hj,rfl⟩:=List.getElem_of_mem hx;rw[List.length_drop] at hj;rw[List.getElem_drop];simpa using h.2 (k+j) (by omega) (by omega)),List.length_take]
 omega
theorem rising_lt {es:List Ent}(h:RisingK es){a b:Nat}(hb:b<es.length)(hab:a<b):cmpN (es[a]'(by omega)).1 es[b].1<0:=List.pairwise_iff_getElem.1 h a b (by omega) hb hab
theorem bin_any (b cap:Nat)(es:List Ent)(n:ByteArray)(w:World)(hb:b<w.heap.size)(hc:∀j u,(flat es)[j]? = some u->w.cell? ⟨b,j,none⟩=some u)(hr:RisingK es)(hl:es.length<=16):
  Calls prog 189 #[.slice (some ⟨b,0,none⟩) es.length cap,.string n,.func (.func 190) #[] #[]] w fun e w'=>e=.returned (.tuple #[.int .i64 (idxK es n:Nat),.bool (thereK es n)])/\Below w.heap.size w w':=by
 have HC:Aside (∀j u,(flat es)[j]? = some u->w.cell? ⟨b,j,none⟩=some u):=hc;have HR:Aside (RisingK es):=hr;clear hc hr;go_enter func189,ntmps189;go_wp2
 go_loopg [9,10] es.length (fun kx s9 s10 wr=>∃lo hi:Nat,s9=.int .i64 lo/\s10=.int .i64 hi/\lo<=hi/\hi<=es.length/\hi-lo<=kx/\Aside (Below w.heap.size w wr)/\Aside (Parted es n lo hi))
 case atStart=>exact⟨0,es.length,rfl,rfl,zzF _,zzC _,by omega,Below.refl _ _,(⟨fun j _ h=>absurd h (Nat.not_lt_zero _),fun j h1 h2=>absurd h2 (by omega)⟩:Parted es n 0 es.length)⟩
 case round=>
  obtain⟨lo,hi,rfl,rfl,hlh,hin,hg,S1,I⟩:=hrel;have hbw:b<wr.heap.size:=zzA hb S1.out.size;have cells:∀i (hi:i<es.length),wr.cell? ⟨b,i*3,none⟩=some (.string es[i].1)/\wr.cell? ⟨b,i*3+1,none⟩=some (.int .i64 es[i].2.1)/\wr.cell? ⟨b,i*3+2,none⟩=some (.int .i64 es[i].2.2):=fun i hi=>row_at (fun j u hu=>(S1.out.cell (p:=⟨b,j,none⟩) hb).trans (HC.out j u hu)) hi;have CE:Aside _:=cells;clear cells;by_cases hlt:lo<hi
  ·obtain⟨k0,k1,k2⟩:=CE.out ((lo+hi) / 2) (by omega)
   generalize hy:es[(lo+hi) / 2]'(by omega)=y at k0 k1 k2;have Y:Aside (es[(lo+hi) / 2]'(by omega)=y):=hy;clear hy;by_cases hyx:cmpN y.1 n<0
   ·go_wp2_with (go_at_call 190;refine (searchL_any y n _).mono ?_;rintro e w' ⟨rfl,hbl⟩)
    go_roundg (hi-((lo+hi) / 2+1))
    case measure=>omega
    case rel=>
     have I2:Aside (Parted es n ((lo+hi) / 2+1) hi):=⟨fun j hj hjl=>by
      by_cases e:j=(lo+hi) / 2
      ·subst e;rw[Y.out];exact hyx
      ·have:=rising_lt HR.out (a:=j) (b:=(lo+hi) / 2) (by omega) (by omega)
       rw[Y.out] at this;exact cmpN_trans this hyx,I.out.2⟩
     exact⟨(lo+hi) / 2+1,hi,by rw[show ((lo:Int)+(hi:Int)) / 2+1=(((lo+hi) / 2+1:Nat):Int) by omega],rfl,by omega,hin,zzC _,S1.out.trans (hbl.mono S1.out.size),I2⟩
   ·go_wp2_with (go_at_call 190;refine (searchL_any y n _).mono ?_;rintro e w' ⟨rfl,hbl⟩)
    go_roundg ((lo+hi) / 2-lo)
    case measure=>omega
    case rel=>
     have I2:Aside (Parted es n lo ((lo+hi) / 2)):=⟨I.out.1,fun j hj hjl h=>by
      by_cases e:j=(lo+hi) / 2
      ·subst e;rw[Y.out] at h;omega
      ·have:=rising_lt HR.out (a:=(lo+hi) / 2) (b:=j) hj (by omega)
       rw[Y.out] at this
       have:=cmpN_trans this h
       omega⟩
     exact⟨lo,(lo+hi) / 2,rfl,by rw[show ((lo:Int)+(hi:Int)) / 2=(((lo+hi) / 2:Nat):Int) by omega],by omega,by omega,zzC _,S1.out.trans (hbl.mono S1.out.size),I2⟩
  ·obtain rfl:hi=lo:=by omega
   have hidx:=parted_idx hin I.out;by_cases hn:hi<es.length
   ·obtain⟨k0,k1,k2⟩:=CE.out hi hn
    generalize hy:es[hi]=y at k0 k1 k2;have Y:Aside (es[hi]=y):=hy;clear hy;have ht:thereK es n=decide (cmpN y.1 n=0):=by
     unfold thereK;rw[hidx,zzH hn,Y.out];show decide (y.1=n)=_;by_cases e:y.1=n
     ·rw[e,cmpN_self];simp
     ·rw[zzE e,zzE (fun h=>e (cmpN_zero h))]
    have IT:Aside (idxK es n=hi):=hidx;have TT:Aside (thereK es n=decide (cmpN y.1 n=0)):=ht;clear hidx ht;by_cases hyx:cmpN y.1 n=0
    ·go_wp2_with (go_at_call 190;refine (searchL_any y n _).mono ?_;rintro e w' ⟨rfl,hbl⟩)
     go_ret2;exact⟨by rw[IT.out,TT.out];simp[hyx],S1.out.trans (hbl.mono S1.out.size)⟩
    ·go_wp2_with (go_at_call 190;refine (searchL_any y n _).mono ?_;rintro e w' ⟨rfl,hbl⟩)
     go_ret2;exact⟨by rw[IT.out,TT.out];simp[hyx],S1.out.trans (hbl.mono S1.out.size)⟩
   ·have ht:thereK es n=false:=by
     unfold thereK;rw[hidx,List.getElem?_eq_none (by omega)];rfl
    have IT:Aside (idxK es n=hi):=hidx;have TT:Aside (thereK es n=false):=ht;clear hidx ht;go_wp2;go_ret2;exact⟨by rw[IT.out,TT.out];rfl,S1.out⟩
theorem search_row (b cap:Nat)(es:List Ent)(n:ByteArray)(w:World)(hb:b<w.heap.size)(hc:∀j u,(flat es)[j]? = some u->w.cell? ⟨b,j,none⟩=some u)(hr:RisingK es)(hl:es.length<=16):
  Calls prog 133 #[.slice (some ⟨b,0,none⟩) es.length cap,.string n] w fun e w'=>e=.returned (.tuple #[.int .i64 (idxK es n:Nat),.bool (thereK es n)])/\Below w.heap.size w w':=by
 have hcon:=bin_any b cap es n w hb hc hr hl;generalize idxK es n=ix at hcon ⊢;generalize thereK es n=th at hcon ⊢;clear hc hr hl;go_enter func133,ntmps133;go_wp2_with (go_at_call 189;refine hcon.mono ?_;rintro e w' ⟨rfl,hbl⟩);go_ret2;exact⟨rfl,hbl⟩
theorem bin_nil (n:ByteArray)(w:World):Calls prog 189 #[.slice none 0 0,.string n,.func (.func 190) #[] #[]] w fun e w'=>e=.returned (.tuple #[.int .i64 0,.bool false])/\w'=w:=by
 go_enter func189,ntmps189;go_wp2;refine wp_loop_rounds 1 ?_;rw[rounds_succ];go_wp2;go_ret2;exact⟨rfl,rfl⟩
theorem search_nil (n:ByteArray)(w:World):Calls prog 133 #[.slice none 0 0,.string n] w fun e w'=>e=.returned (.tuple #[.int .i64 0,.bool false])/\w'=w:=by
 go_enter func133,ntmps133;go_wp2_with (go_at_call 189;refine (bin_nil n _).mono ?_;rintro e w' ⟨rfl,rfl⟩);go_ret2;exact⟨rfl,rfl⟩
theorem search_any {w:World}{v:Value}{es:List Ent}(hrow:w.ownsRow 0 96 3 v es.length (flat es))(n:ByteArray)(hr:RisingK es)(hl:es.length<=16):
  Calls prog 133 #[v,.string n] w fun e w'=>e=.returned (.tuple #[.int .i64 (idxK es n:Nat),.bool (thereK es n)])/\Below w.heap.size w w':=by
 rcases hrow.2 with ⟨rfl,h0⟩ | ⟨g,cap,cur,rfl,_,hg,_⟩
 ·have:es = []:=List.length_eq_zero_iff.1 h0
  subst this;refine (search_nil n w).mono ?_;rintro e w' ⟨rfl,rfl⟩;exact⟨rfl,Below.refl _ _⟩
 ·refine search_row g cap es n w (Array.getElem?_eq_some_iff.1 hg).1 (fun j u hu=>?_) hr hl
  have:=owns_cells hrow j u hu
  rwa [Nat.zero_add] at this
theorem keyVP {q:List ByteArray}(hq:Good q):keyOf prog 147 (.agg (pathA q))=some (keyP prog q):=keyOf_path hq.val
theorem ents_not (t:Nat)(s0 s1 s2 s3 s4 nm:ByteArray)(k id:Int)(w:World)(hk:k≠2):
  Calls prog 187 #[.pointer (some ⟨t,0,none⟩),.agg #[.string s0,.string s1,.string s2,.string s3,.string s4],.agg #[.string nm,.int .i64 k,.int .i64 id]] w fun e w'=>e=.returned (.tuple #[.slice none 0 0,.int .i64 5])/\Below w.heap.size w w':=by
 have hk':(k == 2)=false:=by simpa using hk
 go_enter func187,ntmps187;go_wp2;go_ret2;exact⟨rfl,((Below.refl _ _).alloc (zzC _) _).alloc (by simp) _⟩
theorem ents_own (t m:Nat)(s0 s1 s2 s3 s4 nm:ByteArray)(v:Value)(w:World)(ht:t<w.heap.size)(c8:w.cell? ⟨t,8,none⟩=some (.map (some m)))
  (hlk:∀W,Below w.heap.size w W->(Instr.lookup 162 (.map (some m)) (.agg #[.string s0,.string s1,.string s2,.string s3,.string s4]) false).run prog W=.ok v W):
  Calls prog 187 #[.pointer (some ⟨t,0,none⟩),.agg #[.string s0,.string s1,.string s2,.string s3,.string s4],.agg #[.string nm,.int .i64 2,.int .i64 0]] w fun e w'=>e=.returned (.tuple #[v,.int .i64 0])/\Below w.heap.size w w':=by
 have hl:=hlk _ (below_drew (((Below.refl w.heap.size w).alloc (zzC _) (.cells #[.string s0,.string s1,.string s2,.string s3,.string s4] 147)).alloc (by simp) (.cells #[.string nm,.int .i64 2,.int .i64 0] 96)));clear hlk;go_enter func187,ntmps187;go_wp2
 go_region
 all_goals
  go_wp2;go_ret2;exact⟨rfl,below_drew (((Below.refl _ _).alloc (zzC _) _).alloc (by simp) _)⟩
theorem ents_get (t d:Nat)(s0 s1 s2 s3 s4 nm:ByteArray)(id:Int)(R:Value->Int->World->World->Prop)(w:World)(ht:t<w.heap.size)(c2:w.cell? ⟨t,2,none⟩=some (.pointer (some ⟨d,0,none⟩)))(hid:id≠0)
  (hget:∀W,Below w.heap.size w W->Calls prog 217 #[.pointer (some ⟨d,0,none⟩),.int .i64 id] W fun e w'=>∃v er,e=.returned (.tuple #[v,.int .i64 er])/\R v er W w'):
  Calls prog 187 #[.pointer (some ⟨t,0,none⟩),.agg #[.string s0,.string s1,.string s2,.string s3,.string s4],.agg #[.string nm,.int .i64 2,.int .i64 id]] w fun e w'=>∃v er W,Below w.heap.size w W/\e=.returned (.tuple #[v,.int .i64 er])/\R v er W w':=by
 have hW:=below_drew (((Below.refl w.heap.size w).alloc (zzC _) (.cells #[.string s0,.string s1,.string s2,.string s3,.string s4] 147)).alloc (by simp) (.cells #[.string nm,.int .i64 2,.int .i64 id] 96));have hg:=hget _ hW;have HW:Hid _:=hW;have hid':(id == 0)=false:=by simpa using hid
 clear hget hW;go_enter func187,ntmps187;go_wp2
 go_region_with (go_at_call 217;refine hg.mono ?_;rintro e w1 ⟨v,er,rfl,hR⟩;have HR:Hid _:=hR;clear hR)
 all_goals
  go_wp2;go_ret2;exact⟨v,er,_,HW.out,rfl,HR.out⟩
theorem grown_refl (w:World)(b:Option Nat):w.grownBy w b:=⟨rfl,rfl,rfl,zzC _,fun _ _ _=>rfl⟩
theorem grown_set {w w':World}{b o:Nat}{v:Value}(h:w.grownBy w' (some b)):w.grownBy (w'.setCell ⟨b,o,none⟩ v) (some b):=
 ⟨h.os,h.tape,h.output,by simp;exact h.size,fun k hk hne=>(Below.heap_setCell _ _ _ _ (fun e=>hne (by rw[e]))).trans (h.block k hk hne)⟩
theorem grown_below {w w' w'':World}{b:Nat}(h:Below w.heap.size w w')(k:w'.grownBy w'' (some b)):w.grownBy w'' (some b):=
 ⟨k.os.trans h.os,k.tape.trans h.tape,k.output.trans h.output,zzG h.size k.size,fun i hi hne=>(k.block i (zzA hi h.size) hne).trans (h.block i hi)⟩
def Stays (w W w3:World):Prop:=W.heap.size<=w3.heap.size/\∀b,w.heap.size<=b->b<W.heap.size->w3.heap[b]? = W.heap[b]?
theorem Stays.cell {w W w3:World}(h:Stays w W w3){b:Nat}(h1:w.heap.size<=b)(h2:b<W.heap.size)(o:Nat):w3.cell? ⟨b,o,none⟩=W.cell? ⟨b,o,none⟩:=World.cell?_of_block (a:=⟨b,o,none⟩) (h.2 b h1 h2)
theorem Stays.frozen {w W w3:World}(h:Stays w W w3){b:Nat}(h1:w.heap.size<=b)(h2:b<W.heap.size)(o:Nat):w3.frozen? ⟨b,o,none⟩=W.frozen? ⟨b,o,none⟩:=World.frozen?_of_block (a:=⟨b,o,none⟩) (h.2 b h1 h2)
theorem find_root (t:Nat)(id:Int)(w:World)(ht:t<w.heap.size)(c4:w.cell? ⟨t,4,none⟩=some (.string ⟨#[]⟩))(c5:w.cell? ⟨t,5,none⟩=some (.int .i64 2))(c6:w.cell? ⟨t,6,none⟩=some (.int .i64 id)):
  Calls prog 136 #[.pointer (some ⟨t,0,none⟩),.agg #[.string ⟨#[]⟩,.string ⟨#[]⟩,.string ⟨#[]⟩,.string ⟨#[]⟩,.string ⟨#[]⟩]] w fun e w'=>e=.returned (.tuple #[.agg #[.string ⟨#[]⟩,.int .i64 2,.int .i64 id],.int .i64 0])/\Below w.heap.size w w':=by
 have hroot:=fun W=>root_any W;have heq:∀W,(Op.equalIn 10000 147 (pathV []) (pathV [])).run prog W=.ok true W:=fun W=>by
  have:=run_eqP Good.nil Good.nil W
  rw[decide_eq_true rfl] at this;exact this
 unfold pathV pathA at hroot heq;simp only[List.getD_nil] at hroot heq;go_enter func136,ntmps136;go_wp2
 go_region_with (go_at_call 75;refine (hroot _).mono ?_;rintro e w1 ⟨rfl,hb1⟩;obtain⟨hc1,hf1⟩:=bcell hb1;obtain⟨hz0,hz1⟩:=two_size hb1)
 all_goals
  have ht1:t<w.heap.size+2:=by omega
  go_wp2;exact bodyPost_ret (v:=.tuple #[.agg #[.string ⟨#[]⟩,.int .i64 2,.int .i64 id],.int .i64 0]) (by simp[results,results136,go_sem,hc1]) rfl ⟨rfl,by
   have h1:Below w.heap.size w w1:=below_via (below_drew (((Below.refl _ _).alloc (zzC _) _).alloc (by simp) _)) hb1
   repeat (first | exact h1 | (refine Below.setCell ?_ (by simp) _))⟩
theorem find_err (t:Nat)(s0 s1 s2 s3 s4 r0 r1 r2 r3 r4:ByteArray)(R:Value->World->World->Prop)(er:Int)(her:(er == 0)=false)(w:World)
  (heq:∀W,(Op.equalIn 10000 147 (.agg #[.string s0,.string s1,.string s2,.string s3,.string s4]) (.agg #[.string ⟨#[]⟩,.string ⟨#[]⟩,.string ⟨#[]⟩,.string ⟨#[]⟩,.string ⟨#[]⟩])).run prog W=.ok false W)
  (hpar:∀W,Calls prog 132 #[.agg #[.string s0,.string s1,.string s2,.string s3,.string s4]] W fun e w'=>e=.returned (.agg #[.string r0,.string r1,.string r2,.string r3,.string r4])/\Below W.heap.size W w')
  (hlook:∀W,Below w.heap.size w W->Calls prog 131 #[.pointer (some ⟨t,0,none⟩),.agg #[.string r0,.string r1,.string r2,.string r3,.string r4]] W fun e w'=>∃v,e=.returned (.tuple #[v,.int .i64 er])/\R v W w')
  (hst:∀v W w3,R v W w3->Stays w W w3):
  Calls prog 136 #[.pointer (some ⟨t,0,none⟩),.agg #[.string s0,.string s1,.string s2,.string s3,.string s4]] w fun e w'=>e=.returned (.tuple #[.agg #[.string ⟨#[]⟩,.int .i64 0,.int .i64 0],.int .i64 er])/\∃v W w3,Below w.heap.size w W/\w.heap.size+1<W.heap.size/\R v W w3/\w3.grownBy w' (some (w.heap.size+1)):=by
 have hroot:=fun W=>root_any W;unfold pathV pathA at hroot;simp only[List.getD_nil] at hroot;go_enter func136,ntmps136;go_wp2
 go_region_with (go_at_call 75;refine (hroot _).mono ?_;rintro e w1 ⟨rfl,hb1⟩;obtain⟨hc1,hf1⟩:=bcell hb1;obtain⟨hz0,hz1⟩:=two_size hb1)
 all_goals
  have h1:Below w.heap.size w w1:=below_via (below_drew (((Below.refl _ _).alloc (zzC _) _).alloc (by simp) _)) hb1;go_wp2_with (first
   | (go_at_call 132;refine (hpar _).mono ?_;rintro e w2 ⟨rfl,hb2⟩;obtain⟨hc2,hf2⟩:=bcell hb2;have hz2:w.heap.size+1<w2.heap.size:=zzA hz1 hb2.size;have hz3:w.heap.size<w2.heap.size:=zzA hz0 hb2.size)
   | (go_at_call 131;refine (hlook _ (below_via h1 hb2)).mono ?_;rintro e w3 ⟨v,rfl,hR⟩;have hS:=hst _ _ _ hR;have k0:=hS.cell (zzC _) hz3;have k1:=hS.cell (b:=w.heap.size+1) (by omega) hz2;have k2:=hS.frozen (b:=w.heap.size+1) (by omega) hz2;have HR:Hid _:=hR;have hz4:w.heap.size<w3.heap.size:=zzA hz3 hS.1;have hz5:w.heap.size+1<w3.heap.size:=zzA hz2 hS.1;clear hR hS))
  exact bodyPost_ret (v:=.tuple #[.agg #[.string ⟨#[]⟩,.int .i64 0,.int .i64 0],.int .i64 er]) (by simp[results,results136,go_sem,hc1,hc2,k1,hz1]) rfl ⟨rfl,v,w2,w3,below_via h1 hb2,hz2,HR.out,by
   repeat (first | exact grown_refl _ _ | (refine grown_set ?_))⟩
theorem find_none (t:Nat)(s0 s1 s2 s3 s4 r0 r1 r2 r3 r4:ByteArray)(R:Value->World->World->Prop)(x:ByteArray)(ix:Int)(w:World)
  (heq:∀W,(Op.equalIn 10000 147 (.agg #[.string s0,.string s1,.string s2,.string s3,.string s4]) (.agg #[.string ⟨#[]⟩,.string ⟨#[]⟩,.string ⟨#[]⟩,.string ⟨#[]⟩,.string ⟨#[]⟩])).run prog W=.ok false W)
  (hpar:∀W,Calls prog 132 #[.agg #[.string s0,.string s1,.string s2,.string s3,.string s4]] W fun e w'=>e=.returned (.agg #[.string r0,.string r1,.string r2,.string r3,.string r4])/\Below W.heap.size W w')
  (hlook:∀W,Below w.heap.size w W->Calls prog 131 #[.pointer (some ⟨t,0,none⟩),.agg #[.string r0,.string r1,.string r2,.string r3,.string r4]] W fun e w'=>∃v,e=.returned (.tuple #[v,.int .i64 0])/\R v W w')
  (hname:∀W,Calls prog 134 #[.agg #[.string s0,.string s1,.string s2,.string s3,.string s4]] W fun e w'=>e=.returned (.string x)/\Below W.heap.size W w')
  (hsea:∀v W w3,R v W w3->∀W2,Below w3.heap.size w3 W2->Calls prog 133 #[v,.string x] W2 fun e w'=>e=.returned (.tuple #[.int .i64 ix,.bool false])/\Below W2.heap.size W2 w')
  (hst:∀v W w3,R v W w3->Stays w W w3):
  Calls prog 136 #[.pointer (some ⟨t,0,none⟩),.agg #[.string s0,.string s1,.string s2,.string s3,.string s4]] w fun e w'=>e=.returned (.tuple #[.agg #[.string ⟨#[]⟩,.int .i64 0,.int .i64 0],.int .i64 4])/\∃v W w3,Below w.heap.size w W/\w.heap.size+1<W.heap.size/\R v W w3/\w3.grownBy w' (some (w.heap.size+1)):=by
 have hroot:=fun W=>root_any W;unfold pathV pathA at hroot;simp only[List.getD_nil] at hroot;go_enter func136,ntmps136;go_wp2
 go_region_with (go_at_call 75;refine (hroot _).mono ?_;rintro e w1 ⟨rfl,hb1⟩;obtain⟨hc1,hf1⟩:=bcell hb1;obtain⟨hz0,hz1⟩:=two_size hb1)
 all_goals
  have h1:Below w.heap.size w w1:=below_via (below_drew (((Below.refl _ _).alloc (zzC _) _).alloc (by simp) _)) hb1;go_wp2_with (first
   | (go_at_call 132;refine (hpar _).mono ?_;rintro e w2 ⟨rfl,hb2⟩;obtain⟨hc2,hf2⟩:=bcell hb2;have hz2:w.heap.size+1<w2.heap.size:=zzA hz1 hb2.size;have hz3:w.heap.size<w2.heap.size:=zzA hz0 hb2.size)
   | (go_at_call 131;refine (hlook _ (below_via h1 hb2)).mono ?_;rintro e w3 ⟨v,rfl,hR⟩;have hS:=hst _ _ _ hR;have k0:=hS.cell (zzC _) hz3;have k1:=hS.cell (b:=w.heap.size+1) (by omega) hz2;have k2:=hS.frozen (b:=w.heap.size+1) (by omega) hz2;have HR:Hid _:=hR;have hz4:w.heap.size<w3.heap.size:=zzA hz3 hS.1;have hz5:w.heap.size+1<w3.heap.size:=zzA hz2 hS.1;clear hR hS)
   | (go_at_call 134;refine (hname _).mono ?_;rintro e w4 ⟨rfl,hb4⟩;obtain⟨hc4,hf4⟩:=bcell hb4;have hz6:w.heap.size+1<w4.heap.size:=zzA hz5 hb4.size)
   | (go_at_call 133;refine (hsea _ _ _ HR.out _ hb4).mono ?_;rintro e w5 ⟨rfl,hb5⟩;obtain⟨hc5,hf5⟩:=bcell hb5))
  exact bodyPost_ret (v:=.tuple #[.agg #[.string ⟨#[]⟩,.int .i64 0,.int .i64 0],.int .i64 4]) (by simp[results,results136,go_sem,hc1,hc2,k1,hc4,hc5,hz1,hz5,hz6]) rfl ⟨rfl,v,w2,w3,below_via h1 hb2,hz2,HR.out,by
   refine grown_below (below_via hb4 hb5) ?_
   repeat (first | exact grown_refl _ _ | (refine grown_set ?_))⟩
end Go.Proofs.YtlgidcmmgohagaaGreat
