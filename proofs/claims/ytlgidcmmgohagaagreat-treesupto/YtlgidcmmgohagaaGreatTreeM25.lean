/-
  What is proved here: Stat of a tree, and of a workspace, at any path: as the model says. canopykeep's path, as a function of its number. canopykeep's put and do, in the words of the model. canopykeep's do, in ..
-/
import Derived.Test.YtlgidcmmgohagaaGreatTreeM23
import Derived.Test.YtlgidcmmgohagaaGreatTreeM24
import Derived.Test.YtlgidcmmgohagaaGreatTreeM16
import Derived.Deep.RegionHeld3
import Derived.Test.YtlgidcmmgohagaaGreatTreeM22
import Derived.Test.YtlgidcmmgohagaaGreatTreeM05
import Derived.Test.YtlgidcmmgohagaaGreatTreeM21
import Derived.Shelf.Strings.Builder1
import Derived.Shelf.Strings.Builder2
import Derived.Shelf.Strings.OnBuilder
import Derived.Shelf.Small.Bits
import Derived.Shelf.Small.Strs
import Derived.Shelf.Strconv.Itoa0
import Derived.Shelf.LaysM
import Derived.Shelf.Strconv.Clone
import Derived.Shelf.Strings.Search1
import Derived.Shelf.Strings.Search2
import Derived.Shelf.Strings.Cut
import Derived.Shelf.Strings.Shaped
import Derived.Shelf.SlGeneric
import Derived.Shelf.SlSortCmp.SmallK
import Derived.Ground.SlsfProg
import Derived.Test.YtlgidcmmgohagaaGreatProg
import Derived.Shelf.SlSortCmp.NoneTotal
namespace Go.Proofs.YtlgidcmmgohagaaGreat
open Go.RowKit Go.Sort Go.Shelf
set_option linter.unusedVariables false
set_option maxRecDepth 100000
set_option maxHeartbeats 16000000
section
variable {s i p:Nat}{B:WB}{objs:List Ob}
theorem tsize_any {tg:Tags}{w:World}{g:WG}{lim:Nat}{t:LT}(h:WInv tg w s i p B objs g lim)(hl:lim+10<1099511627776)(hF:Flat objs t g.ft)(hok:LTok objs 5 t)(hfl:FlOk objs g.fl){q:List ByteArray}(hq:Good q){c:LT}(ha:t.at objs q=some c)(nm:ByteArray):
  Calls Tryz.prog 183 #[.pointer (some ⟨B.bt,0,none⟩),.agg (pathA q),.agg #[.string nm,.int .i64 c.kind,.int .i64 c.id]] w fun en w'=>en=.returned (.tuple #[.int .i64 (sizeG objs g.fl g.fs c).2.2,.int .i64 (sizeG objs g.fl g.fs c).2.1])/\DidF s i p B objs tg w w' { g with fs:=(sizeG objs g.fl g.fs c).1 } (lim+1):=by
 have hS:=h.st.sound
 obtain⟨_,hokc,_⟩:=ok_at hS q hok ha
 have hb0:∀ k id:Int,Below w.heap.size w ((w.alloc (.cells (pathA q) 147)).alloc (.cells #[.string nm,.int .i64 k,.int .i64 id] 96)):=fun k id=>((Below.refl _ _).alloc (Nat.le_refl _) _).alloc (by simp) _
 have hdirs:∀ {m:Nat} (c:LT),c.kind=2->LTok objs m c->t.at objs q=some c->(c.id≠0->kindOf objs c.id=2)->sizeG objs g.fl g.fs c=((kidsG objs g.fs c).1,(kidsG objs g.fs c).2.1,((kidsG objs g.fs c).2.2.length:Int))->
   Calls Tryz.prog 183 #[.pointer (some ⟨B.bt,0,none⟩),.agg (pathA q),.agg #[.string nm,.int .i64 2,.int .i64 c.id]] w fun en w'=>en=.returned (.tuple #[.int .i64 (sizeG objs g.fl g.fs c).2.2,.int .i64 (sizeG objs g.fl g.fs c).2.1])/\DidF s i p B objs tg w w' { g with fs:=(sizeG objs g.fl g.fs c).1 } (lim+1):=by
  intro m c hk hok' ha' hid hG
  have hent:EntOk objs (nm,2,c.id):=⟨.inr rfl,hid⟩
  have hfe:=flat_ents hS hF hok' ha' g.fs nm
  rw[hk] at hfe
  have hen:=entries_any (h.below (hb0 2 c.id)) (by omega) hq hent
  rw[hfe] at hen
  rw[hG]
  refine tsize_dir B.bt _ _ _ _ _ _ nm c.id _ (fun w'=>DidF s i p B objs tg w w' { g with fs:=(kidsG objs g.fs c).1 } (lim+1)) w (hen.mono ?_)
  rintro en w' ⟨v,he,tg',m',hW,hsl⟩
  obtain⟨la,cc,rfl⟩:=hsl.len
  rw[List.length_map] at he
  exact⟨la,cc,he,tg',call_moves (hb0 2 c.id) m',hW⟩
 cases c with
 | file id=>
  rw[LTok] at hokc
  have hid:id≠0:=fun e=>by have:=(kindOf_pos (a:=objs) (id:=id) (by rw[hokc];decide)).1;omega
  have hlt:B.bt<w.heap.size:=(Array.getElem?_eq_some_iff.1 h.wp.tree.ht).1
  have hsf:=fun W (hb:Below w.heap.size w W)=>shelfF (h.below hb) (by omega) hokc
  have h1:=h.below (hb0 1 id)
  have c1:((w.alloc (.cells (pathA q) 147)).alloc (.cells #[.string nm,.int .i64 1,.int .i64 id] 96)).cell? ⟨B.bt,1,none⟩=some (.pointer (some ⟨B.sF,0,none⟩)):=cell_at h1.wp.tree.ht 1
  have hsz:(if (g.fs.fileG id).2=true then bytesOf objs id else ⟨#[]⟩).size<=256:=by
   split
   ·exact h.st.bytes_size hokc
   ·decide
  have:=tsize_file B.bt _ _ _ _ _ nm (if (g.fs.fileG id).2=true then bytesOf objs id else ⟨#[]⟩) id (if (g.fs.fileG id).2=true then 0 else 14) hsz (fun w'=>DidF s i p B objs tg w w' { g with fs:=(g.fs.fileG id).1 } (lim+1)) w (tbytes_walk B.bt B.sF _ _ _ _ _ nm _ id _ _ _ (Nat.lt_of_lt_of_le hlt (hb0 1 id).size) hid c1 (fun W hb=>(hsf W (below_via (hb0 1 id) hb)).mono (fun e w' ⟨h1,tg',m,hW⟩=>⟨h1,tg',call_moves (below_via (hb0 1 id) hb) m,hW⟩)))
  have hG:sizeG objs g.fl g.fs (.file id)=if (g.fs.fileG id).2 then ((g.fs.fileG id).1,0,((bytesOf objs id).size:Int)) else ((g.fs.fileG id).1,14,0):=rfl
  rw[hG]
  cases hh:(g.fs.fileG id).2 with
  | true=>rw[hh] at this;exact this
  | false=>rw[hh] at this;exact this
 | held f=>
  have hof:g.ft.of q=some f:=by rw[hF.of,ha];rfl
  obtain⟨x,hx⟩:=h.wp.held q f hof
  obtain⟨fs1,er,d,hbz⟩:∃ fs1 er d,bytesG objs g.fl g.fs f=(fs1,er,d):=⟨_,_,_,rfl⟩
  have hG:sizeG objs g.fl g.fs (.held f)=(fs1,er,(d.size:Int)):=by simp only[sizeG,hbz]
  rw[hG]
  have hds:=bytes_len h hfl hbz
  exact tsize_file B.bt _ _ _ _ _ nm d 0 er hds _ w ((tbytes_gen (nm:=nm) (h.below (hb0 1 0)) (by omega) hfl hq hof hx hbz).mono (fun e w' ⟨h1,h2⟩=>⟨h1,h2.via (hb0 1 0)⟩))
 | dir id=>exact hdirs (.dir id) rfl hokc ha (fun h0=>by rw[LTok] at hokc;exact hokc.1) rfl
 | own es=>exact hdirs (.own es) rfl hokc ha (fun h0=>absurd rfl h0) rfl
theorem tstat_any {tg:Tags}{w:World}{g:WG}{lim:Nat}{t:LT}(h:WInv tg w s i p B objs g lim)(hl:lim+100<1099511627776)(hF:Flat objs t g.ft)(hok:LTok objs 5 t)(hfl:FlOk objs g.fl){r:List ByteArray}(hq:Good r.reverse):
  Calls Tryz.prog 126 #[.pointer (some ⟨B.bt,0,none⟩),.agg (pathA r.reverse)] w fun e w'=>e=.returned (.tuple #[.agg #[.int .i64 (statR objs g.fl t g.fs r).2.2.1,.int .i64 (statR objs g.fl t g.fs r).2.2.2],.int .i64 (statR objs g.fl t g.fs r).2.1])/\DidF s i p B objs tg w w' { g with fs:=(statR objs g.fl t g.fs r).1 } (lim+20):=by
 have hi:=h.two
 have hS:=h.st.sound
 have hb0:=stat0_below w r.reverse
 have hI0:=stat0_info w r.reverse
 have hfr:tg (w.heap.size+1)=(0,0):=h.st.fresh _ (by omega)
 have hfr0:tg w.heap.size=(0,0):=h.st.fresh _ (by omega)
 have hr5:r.length<=5:=by have:=hq.len;simpa using this
 have hfind:=find_all (s:=s) (i:=i) (p:=p) (B:=B) (objs:=objs) r tg _ g lim (h.below hb0) (by omega) hq
 obtain⟨q1,q2,q3⟩:=flat_find hS hF hok g.fs r
 by_cases her:(findR objs t g.fs r).2.1=0
 ·obtain⟨q4,hat⟩:=q3 her
  rw[q1,q2,q4,her] at hfind
  have hst:statR objs g.fl t g.fs r=(if (sizeG objs g.fl (findR objs t g.fs r).1 (findR objs t g.fs r).2.2).2.1≠0 then ((sizeG objs g.fl (findR objs t g.fs r).1 (findR objs t g.fs r).2.2).1,(sizeG objs g.fl (findR objs t g.fs r).1 (findR objs t g.fs r).2.2).2.1,0,0) else ((sizeG objs g.fl (findR objs t g.fs r).1 (findR objs t g.fs r).2.2).1,0,(findR objs t g.fs r).2.2.kind,(sizeG objs g.fl (findR objs t g.fs r).1 (findR objs t g.fs r).2.2).2.2)):=by
   unfold statR
   simp only[her]
   rfl
  generalize (findR objs t g.fs r).2.2=c at *
  generalize (findR objs t g.fs r).1=fs1 at *
  have hw:=tstat_two B.bt _ _ _ _ _ (r.headD ⟨#[]⟩) c.kind c.id (sizeG objs g.fl fs1 c).2.2 (sizeG objs g.fl fs1 c).2.1 (fun w3=>∃ tg3,Moves (Fetches i) tg tg3 ((w.alloc (.cells (pathA r.reverse) 147)).alloc (.cells #[.int .i64 0,.int .i64 0] 141)) w3/\WInv tg3 w3 s i p B objs { g with fs:=fs1 } (lim+5)/\tg3 (w.heap.size+1)=(0,0)) (fun w3=>DidF s i p B objs tg ((w.alloc (.cells (pathA r.reverse) 147)).alloc (.cells #[.int .i64 0,.int .i64 0] 141)) w3 { g with fs:=(sizeG objs g.fl fs1 c).1 } (lim+20)) w (hfind.mono ?_) ?_
  ·refine hw.mono ?_
   rintro e w' ⟨he,w3,hd,hg⟩
   rw[hst]
   by_cases hz:(sizeG objs g.fl fs1 c).2.1=0
   ·rw[if_neg (fun h=>h hz)]
    rw[if_pos hz,hz] at he
    exact⟨he,didF_end h hb0 (by simp) hd hg⟩
   ·rw[if_pos hz]
    rw[if_neg hz] at he
    exact⟨he,didF_end h hb0 (by simp) hd hg⟩
  ·rintro e w' ⟨he,tg',m,hW⟩
   obtain⟨hb1,ht1⟩:=fresh_block (not_fetch0 hi) hfr m hI0
   exact⟨he,hb1,fun o=>World.cell?_of_block (a:=⟨w.heap.size,o,none⟩) (m.block w.heap.size (by simp;omega) (by rw[hfr0];exact not_fetch0 hi)),tg',m,hW.mono (by omega),ht1⟩
  ·rintro w3 ⟨tg3,m3,hW3,ht3⟩ hI3
   have hb3:Below w3.heap.size w3 (w3.alloc (.cells #[.string (r.headD ⟨#[]⟩),.int .i64 c.kind,.int .i64 c.id] 96)):=(Below.refl _ _).alloc (Nat.le_refl _) _
   refine (tsize_any (g:={ g with fs:=fs1 }) (hW3.below hb3) (by omega) hF hok hfl hq hat (r.headD ⟨#[]⟩)).mono ?_
   rintro e w4 ⟨he,tg4,m4,hW4⟩
   have hI3':InfoAt (w3.alloc (.cells #[.string (r.headD ⟨#[]⟩),.int .i64 c.kind,.int .i64 c.id] 96)) (w.heap.size+1):=by
    unfold InfoAt at hI3 ⊢
    rw[Below.heap_alloc _ _ _ (Array.getElem?_eq_some_iff.1 hI3).1];exact hI3
   refine⟨he,(fresh_block (not_fetch0 hi) ht3 m4 hI3').1,fun o=>World.cell?_of_block (a:=⟨w3.heap.size,o,none⟩) (m4.block w3.heap.size (by simp) (by rw[hW3.st.fresh _ (Nat.le_refl _)];exact not_fetch0 hi)),Nat.lt_of_lt_of_le (by simp) m4.size,tg4,m3.trans (call_moves hb3 m4),hW4.mono (by omega)⟩
 ·have hst:statR objs g.fl t g.fs r=((findR objs t g.fs r).1,(findR objs t g.fs r).2.1,0,0):=by
   unfold statR
   simp only[if_pos her]
  rw[hst]
  rw[q1,q2] at hfind
  have her':((findR objs t g.fs r).2.1 == 0)=false:=by simpa using her
  have hw:=tstat_err B.bt _ _ _ _ _ (findF objs g.ft g.fs r).2.2.1 (findF objs g.ft g.fs r).2.2.2.1 (findF objs g.ft g.fs r).2.2.2.2 (findR objs t g.fs r).2.1 (fun w3=>DidF s i p B objs tg ((w.alloc (.cells (pathA r.reverse) 147)).alloc (.cells #[.int .i64 0,.int .i64 0] 141)) w3 { g with fs:=(findR objs t g.fs r).1 } (lim+20)) w her' (hfind.mono ?_)
  ·refine hw.mono ?_
   rintro e w' ⟨he,w3,hd,hg⟩
   exact⟨he,didF_end h hb0 (by simp) hd hg⟩
  ·rintro e w' ⟨he,tg',m,hW⟩
   obtain⟨hb1,ht1⟩:=fresh_block (not_fetch0 hi) hfr m hI0
   exact⟨he,hb1,tg',m,hW.mono (by omega)⟩
theorem qstat {tg:Tags}{w:World}{g:WG}{lim:Nat}{t:LT}(h:QInv tg w s i p B objs g lim t)(hl:lim+1000<1099511627776){r:List ByteArray}(hL:Good r.reverse):
  Calls Tryz.prog 67 #[.pointer (some ⟨B.wb,0,none⟩),.string (joinB r.reverse)] w fun e w'=>e=.returned (.tuple #[.agg #[.int .i64 (statR objs g.fl t g.fs r).2.2.1,.int .i64 (statR objs g.fl t g.fs r).2.2.2],.int .i64 (statR objs g.fl t g.fs r).2.1])/\QTo s i p B objs tg w w' (lim+400) (TreeTo g (statR objs g.fl t g.fs r).1 t):=by
 obtain⟨htab,c0⟩:=ws_tab h.inv
 have hi:=h.inv.two
 have hfr:tg w.heap.size=(0,0):=h.inv.st.fresh _ (Nat.le_refl _)
 have hw:=stat_ws B.wb B.bt r.reverse hL (statR objs g.fl t g.fs r).2.2.1 (statR objs g.fl t g.fs r).2.2.2 (statR objs g.fl t g.fs r).2.1 (fun w2=>∃ tg',Moves (Fetches i) tg tg' w w2/\WInv tg' w2 s i p B objs { g with fs:=(statR objs g.fl t g.fs r).1 } (lim+20)/\tg' w.heap.size=(0,0)) w htab.1 c0 (fun W hb hI=>(tstat_any (h.inv.below hb) (by omega) h.flat h.ok h.fl hL).mono ?_)
 ·refine hw.mono ?_
  rintro e w' ⟨he,w2,⟨tg',m,hW,ht⟩,hg⟩
  obtain⟨tg2,m2,hW2⟩:=did_grown hi m hW ht hg
  exact⟨he,tg2,_,t,m2.mono (fun t ht=>Fetches.mine ht),⟨hW2.mono (by omega),h.flat,h.ok,h.fl,h.op⟩,rfl,rfl,rfl,rfl⟩
 ·rintro e w' ⟨he,tg',m,hW⟩
  obtain⟨h1,h2⟩:=fresh_block (not_fetch0 hi) hfr m hI
  exact⟨he,h1,tg',call_moves hb m,hW,h2⟩
end

section
variable {s i p:Nat}{B:WB}{objs:List Ob}
end
section
variable {s i p:Nat}{B:WB}{objs:List Ob}
end
def big (objs:List Ob):Nat->LT->Nat
 | 0,_=>1
 | n+1,t=>1+(((kids objs t).getD []).map fun x=>big objs n x.2).sum
theorem look_at {objs:List Ob}{t:LT}{fs:FS}{r:List ByteArray}(h:(lookR objs t fs r).2.1=0):∃ d,t.at objs r.reverse=some d/\kids objs d=some (lookR objs t fs r).2.2:=by
 exact (kept_of_look h).1
def HeldInj (objs:List Ob)(t:LT):Prop:=∀ x y b,t.at objs x=some (.held b)->t.at objs y=some (.held b)->x=y
theorem at_kid {objs:List Ob}{t d:LT}{q:List ByteArray}{ks:Kids}(ha:t.at objs q=some d)(hk:kids objs d=some ks)(m:ByteArray)(r:List ByteArray):t.at objs (q++m :: r)=(pickK ks m).bind fun c=>c.at objs r:=by
 rw[at_append,ha,Option.bind_some,at_cons,hk,Option.bind_some]
theorem drop_held {objs:List Ob}{t d:LT}{q:List ByteArray}{ks:Kids}{n:ByteArray}(hr:RisingK ks)(ha:t.at objs q=some d)(hk:kids objs d=some ks)(ht:thereK ks n=true){x:List ByteArray}{b:Nat}(h:(modG objs (fun ks=>dropK ks n) q t).at objs x=some (.held b)):t.at objs x=some (.held b)/\¬ q ++ [n] <+: x:=by
 rcases held_mod _ ha hk h with ⟨m,r,rfl,h1⟩ | ⟨h1,h2⟩
 ·rw[pick_drop hr ht] at h1
  by_cases e:m=n
  ·rw[if_pos e] at h1;simp at h1
  ·rw[if_neg e] at h1
   refine⟨by rw[at_kid ha hk];exact h1,?_⟩
   rintro ⟨l,hl⟩
   rw[List.append_assoc] at hl
   have:=List.append_cancel_left hl
   simp at this
   exact e this.1.symm
 ·exact⟨h2,fun hp=>h1 ((List.prefix_append _ _).trans hp)⟩
theorem put_held {objs:List Ob}{t d c:LT}{q:List ByteArray}{ks:Kids}{n:ByteArray}(hr:RisingK ks)(ha:t.at objs q=some d)(hk:kids objs d=some ks){x:List ByteArray}{b:Nat}(h:(modG objs (fun ks=>putK ks n c) q t).at objs x=some (.held b)):(∃ r,x=q++n :: r/\c.at objs r=some (.held b))\/(t.at objs x=some (.held b)/\¬ q ++ [n] <+: x):=by
 rcases held_mod _ ha hk h with ⟨m,r,rfl,h1⟩ | ⟨h1,h2⟩
 ·rw[pick_put hr] at h1
  by_cases e:m=n
  ·rw[if_pos e,Option.bind_some] at h1
   subst e
   exact .inl ⟨r,rfl,h1⟩
  ·rw[if_neg e] at h1
   refine .inr ⟨by rw[at_kid ha hk];exact h1,?_⟩
   rintro ⟨l,hl⟩
   rw[List.append_assoc] at hl
   have:=List.append_cancel_left hl
   simp at this
   exact e this.1.symm
 ·exact .inr ⟨h2,fun hp=>h1 ((List.prefix_append _ _).trans hp)⟩
theorem inj_put {objs:List Ob}{t d c:LT}{q:List ByteArray}{ks:Kids}{n:ByteArray}(hi:HeldInj objs t)(hr:RisingK ks)(ha:t.at objs q=some d)(hk:kids objs d=some ks)(hc:HeldInj objs c)(hf:∀ r b y,c.at objs r=some (.held b)->t.at objs y=some (.held b)->q ++ [n] <+: y):HeldInj objs (modG objs (fun ks=>putK ks n c) q t):=by
 intro x y b hx hy
 rcases put_held hr ha hk hx with ⟨r,rfl,h1⟩ | ⟨h1,h2⟩ <;> rcases put_held hr ha hk hy with ⟨r',rfl,k1⟩ | ⟨k1,k2⟩
 ·rw[hc r r' b h1 k1]
 ·exact absurd (hf r b y h1 k1) k2
 ·exact absurd (hf r' b x k1 h1) h2
 ·exact hi x y b h1 k1
theorem inj_drop {objs:List Ob}{t d:LT}{q:List ByteArray}{ks:Kids}{n:ByteArray}(hi:HeldInj objs t)(hr:RisingK ks)(ha:t.at objs q=some d)(hk:kids objs d=some ks)(ht:thereK ks n=true):HeldInj objs (modG objs (fun ks=>dropK ks n) q t):=fun x y b hx hy=>hi x y b (drop_held hr ha hk ht hx).1 (drop_held hr ha hk ht hy).1
theorem own_none (objs:List Ob)(r:List ByteArray)(b:Nat):(LT.own []).at objs r≠some (.held b):=by
 cases r with
 | nil=>rw[at_nil];intro h;cases h
 | cons m r=>rw[at_cons];simp[kids,pickK]
theorem inj_mkdir {objs:List Ob}(hS:Sound objs){t:LT}(hok:LTok objs 5 t)(hi:HeldInj objs t)(fs:FS)(n:ByteArray)(r:List ByteArray):HeldInj objs (mkdirR objs t fs (n :: r)).2.2:=by
 unfold mkdirR
 simp only
 split
 ·exact hi
 ·rename_i h0
  split
  ·exact hi
  ·split
   ·exact hi
   ·obtain⟨d,ha,hk⟩:=look_at (Decidable.not_not.1 h0)
    obtain⟨_,hd,_⟩:=ok_at hS _ hok ha
    exact inj_put hi (ok_kids hS hd hk).1 ha hk (fun x y b hx=>absurd hx (own_none objs x b)) (fun r b y h=>absurd h (own_none objs r b))
theorem inj_remove {objs:List Ob}(hS:Sound objs){t:LT}(hok:LTok objs 5 t)(hi:HeldInj objs t)(fs:FS)(n:ByteArray)(r:List ByteArray):HeldInj objs (removeR objs t fs (n :: r)).2.2:=by
 unfold removeR
 simp only
 split
 ·exact hi
 ·rename_i hf
  split
  ·exact hi
  ·obtain⟨a,_,_,d,ks,h1,h2,h3⟩:=find_way (objs:=objs) (t:=t) (fs:=fs) (n:=n) (r:=r) (fs':=(findR objs t fs (n :: r)).1) (c:=(findR objs t fs (n :: r)).2.2) (by rw[<- Decidable.not_not.1 hf])
   obtain⟨_,hd,_⟩:=ok_at hS _ hok h1
   have hr:=(ok_kids hS hd h2).1
   exact inj_drop hi hr h1 h2 (by rw[<- pick_there hr,h3];rfl)
theorem inj_rename {objs:List Ob}(hS:Sound objs){t:LT}(hok:LTok objs 5 t)(hi:HeldInj objs t)(fs:FS)(n m:ByteArray)(r q:List ByteArray):HeldInj objs (renameR objs t fs (n :: r) (m :: q)).2.2:=by
 unfold renameR
 simp only
 split
 ·exact hi
 ·rename_i hf
  split
  ·exact hi
  ·rename_i hpre
   split
   ·exact hi
   ·rename_i hlk
    split
    ·exact hi
    ·split
     ·exact hi
     ·obtain⟨a,_,_,d,ks,h1,h2,h3⟩:=find_way (objs:=objs) (t:=t) (fs:=fs) (n:=n) (r:=r) (fs':=(findR objs t fs (n :: r)).1) (c:=(findR objs t fs (n :: r)).2.2) (by rw[<- Decidable.not_not.1 hf])
      generalize (findR objs t fs (n :: r)).2.2=c at a h3 ⊢
      obtain⟨_,hd,_⟩:=ok_at hS _ hok h1
      have hr:=(ok_kids hS hd h2).1
      have hth:thereK ks n=true:=by rw[<- pick_there hr,h3];rfl
      have hac:t.at objs (r.reverse ++ [n])=some c:=by rw[at_kid h1 h2,h3,Option.bind_some,at_nil]
      have hsub:∀ x b,c.at objs x=some (.held b)->t.at objs ((r.reverse ++ [n])++x)=some (.held b):=fun x b hx=>by rw[at_append,hac,Option.bind_some];exact hx
      have hlk0:(lookR objs t (findR objs t fs (n :: r)).1 q).2.1=0:=Decidable.not_not.1 (fun h=>hlk (.inl h))
      obtain⟨dt,hat,hkt⟩:=look_at hlk0
      have hnp:¬ (r.reverse ++ [n]) <+: q.reverse:=by
       intro h
       refine hpre ⟨?_,fun e=>hlk (.inr e)⟩
       rw[List.reverse_cons,List.reverse_cons]
       exact h.trans (List.prefix_append _ _)
      obtain⟨d1,k1,hat1,hkt1,_⟩:=drop_dir hr h1 h2 hth hat hkt hnp
      have hok1:=drop_ok hS hok h1 h2 n
      obtain⟨_,hd1,_⟩:=ok_at hS _ hok1 hat1
      refine inj_put (inj_drop hi hr h1 h2 hth) (ok_kids hS hd1 hkt1).1 hat1 hkt1 (fun x y b hx hy=>?_) (fun x b y hx hy=>?_)
      ·exact List.append_cancel_left (hi _ _ b (hsub x b hx) (hsub y b hy))
      ·obtain⟨hy1,hy2⟩:=drop_held hr h1 h2 hth hy
       have:=hi _ _ b (hsub x b hx) hy1
       exact absurd ⟨x,this⟩ hy2
theorem shF_new (f:Fn)(vs:Array Value)(w:World):Calls Tryz.prog 114 #[.func f vs #[]] w fun e w'=>e=.returned (.pointer (some ⟨w.heap.size+1,0,none⟩))/\w'=(w.alloc (.map #[] 0)).alloc (.cells #[.func f vs #[],.map (some w.heap.size)] 267):=by
 have hmm:=@run_makeMap Tryz.prog
 go_enter Tryz.func114,Tryz.ntmps114
 go_wp2
 go_ret
 exact⟨rfl,rfl⟩
theorem shD_new (f:Fn)(vs:Array Value)(w:World):Calls Tryz.prog 116 #[.func f vs #[]] w fun e w'=>e=.returned (.pointer (some ⟨w.heap.size+1,0,none⟩))/\w'=(w.alloc (.map #[] 0)).alloc (.cells #[.func f vs #[],.map (some w.heap.size)] 271):=by
 have hmm:=@run_makeMap Tryz.prog
 go_enter Tryz.func116,Tryz.ntmps116
 go_wp2
 go_ret
 exact⟨rfl,rfl⟩
def treeMem (w:World)(p:Nat)(root:Int):World:=((((((w.alloc (.map #[] 0)).alloc (.cells #[.func (.func 115) #[ptr p] #[],.map (some w.heap.size)] 267)).alloc (.map #[] 0)).alloc (.cells #[.func (.func 117) #[ptr p] #[],.map (some (w.heap.size+2))] 271)).alloc (.map #[] 0)).alloc (.map #[] 0)).alloc (.cells #[ptr p,ptr (w.heap.size+1),ptr (w.heap.size+3),.int .i64 root,.string ⟨#[]⟩,.int .i64 2,.int .i64 root,.map (some (w.heap.size+4)),.map (some (w.heap.size+5))] 164)
theorem tnew_any (p:Nat)(root:Int)(w:World):Calls Tryz.prog 62 #[.pointer (some ⟨p,0,none⟩),.int .i64 root] w fun e w'=>e=.returned (.pointer (some ⟨w.heap.size+6,0,none⟩))/\w'=treeMem w p root:=by
 have h1:=fun vs W=>shF_new (.func 115) vs W
 have h2:=fun vs W=>shD_new (.func 117) vs W
 have hmm:=@run_makeMap Tryz.prog
 go_enter Tryz.func62,Tryz.ntmps62
 go_wp2_with (first
  | (go_at_call 114;refine Calls.mono (h1 _ _) ?_;rintro e w1 ⟨rfl,rfl⟩)
  | (go_at_call 116;refine Calls.mono (h2 _ _) ?_;rintro e w1 ⟨rfl,rfl⟩))
 go_ret
 exact⟨rfl,rfl⟩
def wsMem (w:World)(p:Nat)(root:Int):World:=(treeMem w p root).alloc (.cells #[ptr (w.heap.size+6),.pointer none,.pointer none,.pointer none,.pointer none,.pointer none,.pointer none,.pointer none,.pointer none] 91)
theorem checkout_walk (s p:Nat)(id:Int)(w:World)(hs:s<w.heap.size)(c0:w.cell? ⟨s,0,none⟩=some (.pointer (some ⟨p,0,none⟩)))(hk:Calls Tryz.prog 61 #[.pointer (some ⟨p,0,none⟩),.int .i64 id] w fun e w'=>e=.returned (.int .i64 2)/\Below w.heap.size w w'):
  Calls Tryz.prog 27 #[.pointer (some ⟨s,0,none⟩),.int .i64 id] w fun e w'=>∃ w1,Below w.heap.size w w1/\e=.returned (.tuple #[.pointer (some ⟨w1.heap.size+7,0,none⟩),.int .i64 0])/\w'=wsMem w1 p id:=by
 have htn:=fun W=>tnew_any p id W
 have hts:∀ W,(treeMem W p id).heap.size=W.heap.size+7:=fun W=>by unfold treeMem;simp
 go_enter Tryz.func27,Tryz.ntmps27
 go_wp2_with (first
  | (go_at_call 61;refine hk.mono ?_;rintro e w1 ⟨rfl,hb1⟩;have d0:=((bcell hb1).1 s 0 hs).trans c0;have hs1:=Nat.lt_of_lt_of_le hs hb1.size)
  | (go_at_call 62;refine Calls.mono (htn _) ?_;rintro e w2 ⟨rfl,rfl⟩))
 go_ret2
 exact⟨w1,hb1,rfl,rfl⟩
def wsB (n:Nat):WB:=⟨n+7,n+6,n+1,n+3,n,n+2,n+4,n+5⟩
def wsTags (tg:Tags)(n i:Nat):Tags:=fun k=>if k<n then tg k else if k=n then (i,2) else if k=n+1 then (i,1) else if k=n+2 then (i,3) else if k=n+3 then (i,1) else if k=n+4 then (i,4) else if k=n+5 then (i,5) else if k=n+6 then (i,1) else if k=n+7 then (i,0) else (0,0)
theorem wsMem_size (w:World)(p:Nat)(id:Int):(wsMem w p id).heap.size=w.heap.size+8:=by unfold wsMem treeMem;simp
theorem wsMem_below (w:World)(p:Nat)(id:Int):Below w.heap.size w (wsMem w p id):=by
 unfold wsMem treeMem
 exact (((((((((Below.refl w.heap.size w).alloc (Nat.le_refl _) _).alloc (by simp) _).alloc (by simp;omega) _).alloc (by simp;omega) _).alloc (by simp;omega) _).alloc (by simp;omega) _).alloc (by simp;omega) _).alloc (by simp;omega) _)
theorem wsMem_heap (w:World)(p:Nat)(id:Int):
  (wsMem w p id).heap[w.heap.size]? = some (.map #[] 0)/\(wsMem w p id).heap[w.heap.size+1]? = some (.cells #[.func (.func 115) #[ptr p] #[],.map (some w.heap.size)] 267 (0,0))/\(wsMem w p id).heap[w.heap.size+2]? = some (.map #[] 0)/\(wsMem w p id).heap[w.heap.size+3]? = some (.cells #[.func (.func 117) #[ptr p] #[],.map (some (w.heap.size+2))] 271 (0,0))/\(wsMem w p id).heap[w.heap.size+4]? = some (.map #[] 0)/\(wsMem w p id).heap[w.heap.size+5]? = some (.map #[] 0)/\
  (wsMem w p id).heap[w.heap.size+6]? = some (.cells #[ptr p,ptr (w.heap.size+1),ptr (w.heap.size+3),.int .i64 id,.string ⟨#[]⟩,.int .i64 2,.int .i64 id,.map (some (w.heap.size+4)),.map (some (w.heap.size+5))] 164 (0,0))/\(wsMem w p id).heap[w.heap.size+7]? = some (.cells #[ptr (w.heap.size+6),.pointer none,.pointer none,.pointer none,.pointer none,.pointer none,.pointer none,.pointer none,.pointer none] 91 (0,0)):=by
 unfold wsMem treeMem World.alloc
 simp only[Array.getElem?_push,Array.size_push]
 refine⟨?_,?_,?_,?_,?_,?_,?_,?_⟩
 ·rw[if_neg (by omega),if_neg (by omega),if_neg (by omega),if_neg (by omega),if_neg (by omega),if_neg (by omega),if_neg (by omega),if_pos trivial]
 all_goals simp
def wg0 (id:Int)(got:List Int):WG:=⟨id,⟨id,fun _=>none,fun _=>none⟩,⟨got,false,fun _=>false,fun _=>false⟩,fun _=>none,fun _=>none⟩
section
variable {s i p:Nat}{objs:List Ob}
theorem new_ws {tg:Tags}{w:World}{got:List Int}{lim:Nat}(h:SInv tg w s p objs got false lim)(hi:2<=i){id:Int}(hk:kindOf objs id=2):
  Moves (fun _=>False) tg (wsTags tg w.heap.size i) w (wsMem w p id)/\WInv (wsTags tg w.heap.size i) (wsMem w p id) s i p (wsB w.heap.size) objs (wg0 id got) lim:=by
 have hb:=wsMem_below w p id
 obtain⟨b0,b1,b2,b3,b4,b5,b6,b7⟩:=wsMem_heap w p id
 have ht:∀ k,k<w.heap.size->wsTags tg w.heap.size i k=tg k:=fun k hk=>by unfold wsTags;rw[if_pos hk]
 have m:Moves (fun _=>False) tg (wsTags tg w.heap.size i) w (wsMem w p id):=⟨hb.os,hb.tape,hb.output,hb.size,ht,fun k hk _=>hb.block k hk,fun hf k hk=>by
  rw[wsMem_size] at hk
  unfold wsTags
  rw[if_neg (by omega),if_neg (by omega),if_neg (by omega),if_neg (by omega),if_neg (by omega),if_neg (by omega),if_neg (by omega),if_neg (by omega),if_neg (by omega)]⟩
 have t0:wsTags tg w.heap.size i w.heap.size=(i,2):=by unfold wsTags;simp
 have t1:wsTags tg w.heap.size i (w.heap.size+1)=(i,1):=by unfold wsTags;rw[if_neg (by omega)];simp
 have t2:wsTags tg w.heap.size i (w.heap.size+2)=(i,3):=by unfold wsTags;rw[if_neg (by omega)];simp
 have t3:wsTags tg w.heap.size i (w.heap.size+3)=(i,1):=by unfold wsTags;rw[if_neg (by omega)];simp
 have t4:wsTags tg w.heap.size i (w.heap.size+4)=(i,4):=by unfold wsTags;rw[if_neg (by omega)];simp
 have t5:wsTags tg w.heap.size i (w.heap.size+5)=(i,5):=by unfold wsTags;rw[if_neg (by omega)];simp
 have t6:wsTags tg w.heap.size i (w.heap.size+6)=(i,1):=by unfold wsTags;rw[if_neg (by omega)];simp
 have t7:wsTags tg w.heap.size i (w.heap.size+7)=(i,0):=by unfold wsTags;rw[if_neg (by omega)];simp
 refine⟨m,hi,h.moves m (fun x=>x) (fun x=>x),⟨⟨t6,t1,t3,b6,b1,b3⟩,⟨t0,0,fun _=>none,Nat.zero_le _,vmap_at b0,fun id=>rfl,fun id hx=>by cases hx⟩,⟨t2,0,fun _=>none,fun _=>.slice none 0 0,Nat.zero_le _,vmap_at b2,fun id=>rfl,fun id hx=>by cases hx⟩,⟨t4,⟨0,Nat.zero_le _,fun _=>none,vmap_at b4,fun _ _=>rfl,fun kl _ hx=>absurd rfl hx⟩,fun q f hx=>by cases hx⟩,⟨fun _=>.slice none 0 0,t5,⟨0,Nat.zero_le _,fun _=>none,vmap_at b5,fun _ _=>rfl,fun kl _ hx=>absurd rfl hx⟩,fun q es hx=>(by cases hx),fun q es hx=>(by cases hx),fun q r es fs gg hx=>(by cases hx)⟩,fun f id d hx=>(by cases hx),fun q f hx=>(by cases hx),⟨t7,b7,fun k hk=>rfl,fun k b f fg pl hx=>(by cases hx),fun k l x y hx=>(by cases hx)⟩,⟨fun _=>hk,fun q es hx=>(by cases hx)⟩⟩⟩
theorem stored_at (objs:List Ob):∀ (q:List ByteArray) (id:Int),odOf ((LT.dir id).at objs q)=none/\ofOf ((LT.dir id).at objs q)=none
 | [],id=>by rw[at_nil];exact⟨rfl,rfl⟩
 | n :: r,id=>by
  rw[at_cons]
  show odOf ((pickK ((entsOf objs id).map kidOf) n).bind _)=none/\ofOf ((pickK ((entsOf objs id).map kidOf) n).bind _)=none
  cases hp:pickK ((entsOf objs id).map kidOf) n with
  | none=>exact⟨rfl,rfl⟩
  | some c=>
   obtain⟨e,_,he⟩:=List.mem_map.1 (pick_mem hp)
   have hc:c=ltOf e:=by unfold kidOf at he;exact (Prod.mk.inj he).2.symm
   rw[Option.bind_some,hc]
   unfold ltOf
   split
   ·exact stored_at objs r _
   ·cases r with
    | nil=>rw[at_nil];exact⟨rfl,rfl⟩
    | cons m r=>rw[at_cons];exact⟨rfl,rfl⟩
theorem new_flat (id:Int)(got:List Int):Flat objs (.dir id) (wg0 id got).ft:=⟨rfl,rfl,fun q=>(stored_at objs q id).1.symm,fun q=>(stored_at objs q id).2.symm⟩
end

theorem mine0 {i:Nat}(hi:2<=i):¬ Mine i (0,0):=by
 rintro (h | h)
 ·cases h
 ·simp only at h;omega
theorem qcheckout {tg:Tags}{w:World}{s p i:Nat}{objs:List Ob}{got:List Int}{lim:Nat}(h:SInv tg w s p objs got false lim)(hi:2<=i){id:Int}(hok:LTok objs 5 (.dir id)):
  Calls Tryz.prog 27 #[.pointer (some ⟨s,0,none⟩),.int .i64 id] w fun e w'=>∃ B:WB,e=.returned (.tuple #[.pointer (some ⟨B.wb,0,none⟩),.int .i64 0])/\∃ tg',Moves (fun _=>False) tg tg' w w'/\QInv tg' w' s i p B objs (wg0 id got) lim (.dir id):=by
 have hk:kindOf objs id=2:=by rw[LTok] at hok;exact hok.1
 have h0:=h
 obtain⟨hfr,ft,hbk,hI,hrest⟩:=h
 obtain⟨a,cap,bf,bd,Df,Dd,hI⟩:=hI
 have hs:s<w.heap.size:=(Array.getElem?_eq_some_iff.1 hI.hs).1
 have hkk:=kind_any p a objs.length cap bf bd objs id w hI.pool
 rw[hk] at hkk
 refine (checkout_walk s p id w hs hI.c0 hkk).mono ?_
 rintro e w' ⟨w1,hb,rfl,rfl⟩
 have hS1:SInv tg w1 s p objs got false lim:=h0.moves (P:=fun _=>False) (Moves.of_below hb) (fun h=>h) (fun h=>h)
 obtain⟨m,hW⟩:=new_ws hS1 (i:=i) hi hk
 exact⟨wsB w1.heap.size,rfl,_,(Moves.of_below hb).trans m,⟨hW,new_flat id got,hok,(fun f id d hx=>by cases hx),fun _=>rfl⟩⟩

def fcOf (a:List Ob)(fl:Nat->Option (Int×ByteArray)):FileC:=fun f=>match fl f with
 | none=>⟨#[]⟩
 | some (id,d)=>if id≠0 then bytesOf a id else d

end Go.Proofs.YtlgidcmmgohagaaGreat
namespace Go.Proofs
open Go.Shelf
end Go.Proofs
namespace Go.Proofs.YtlgidcmmgohagaaGreat
open Go.RowKit Go.Sort Go.Shelf
set_option linter.unusedVariables false
set_option maxRecDepth 100000
set_option maxHeartbeats 16000000


section
variable {s i p:Nat}{B:WB}{objs:List Ob}
end
structure Ren (objs:List Ob)(t:LT)(nc nd:ByteArray)(rc rd:List ByteArray)(df dt c:LT)(kf kt:Kids)(t1:LT):Prop where
 af:t.at objs rc.reverse=some df
 kkf:kids objs df=some kf
 pf:pickK kf nc=some c
 at_:t.at objs rd.reverse=some dt
 kkt:kids objs dt=some kt
 pt:pickK kt nd=none
 np:¬ (rc.reverse ++ [nc]) <+: (rd.reverse ++ [nd])
 pn:¬ (rd.reverse ++ [nd]) <+: (rc.reverse ++ [nc])
 eq:t1=modG objs (fun ks=>putK ks nd c) rd.reverse (modG objs (fun ks=>dropK ks nc) rc.reverse t)
theorem hgt_le {objs:List Ob}(hX:Exact objs):∀ (n:Nat) (c:LT),LTok objs n c->hgt objs n c<=n
 | n,.file id,h=>by
  have hk:kindOf objs id=1:=by cases n <;> simpa [LTok] using h
  have:hgt objs n (.file id)=highOf objs id:=by cases n <;> rfl
  rw[this,hX.low id hk];omega
 | n,.held f,_=>by
  have:hgt objs n (.held f)=0:=by cases n <;> rfl
  rw[this];omega
 | n,.dir id,h=>by
  have hk:highOf objs id<=n:=by cases n <;> (rw[LTok] at h;exact h.2)
  have:hgt objs n (.dir id)=highOf objs id:=by cases n <;> rfl
  rw[this];exact hk
 | 0,.own es,_=>by rw[hgt];omega
 | n+1,.own es,h=>by
  rw[LTok] at h
  rw[hgt,foldl_max_le]
  refine⟨by omega,fun x hx=>?_⟩
  have:=hgt_le hX n x.2 (h.2.2 x hx).2
  omega
def cs (n:Nat)(ks:Kids):Nat:=(ks.map fun x=>cntO n x.2).sum

end Go.Proofs.YtlgidcmmgohagaaGreat
