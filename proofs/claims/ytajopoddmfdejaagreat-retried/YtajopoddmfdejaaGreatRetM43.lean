/-
  What is proved here: a survey's compare finds what has become of the files at a path and below it, or a fetch has failed. compare at every path; how a survey begins and ends. the sort of changes by their paths. ..
-/
import Derived.Test.YtajopoddmfdejaaGreatRetM42
import Derived.Test.YtajopoddmfdejaaGreatRetM39
import Derived.Test.YtajopoddmfdejaaGreatRetM37
import Derived.Shelf.SlSortCmp.WholeK
import Derived.Shelf.SlSortCmp.NoneTotal
import Derived.Sort.OwnSorted
namespace Go.Proofs.YtajopoddmfdejaaGreat
open Go.RowKit Go.Sort Go.Shelf
set_option linter.unusedVariables false
set_option maxRecDepth 100000
set_option maxHeartbeats 16000000
theorem there_pick {ks:Kids}(hr:RisingK (ks.map entOf))(n:ByteArray):thereK (ks.map entOf) n=(pickK ks n).isSome:=by
 have h1:=getK_there (n:=n) hr
 rw[getK_map] at h1
 cases ht:thereK (ks.map entOf) n with
 | false=>rw[ht] at h1;cases hp:pickK ks n with
  | none=>rfl
  | some c=>rw[hp] at h1;cases h1
 | true=>
  rw[ht] at h1
  unfold thereK at ht
  cases hx:(ks.map entOf)[idxK (ks.map entOf) n]? with
  | none=>rw[hx] at ht;cases ht
  | some y=>
   rw[hx] at h1
   cases hp:pickK ks n with
   | none=>rw[hp] at h1;cases h1
   | some c=>rfl
theorem pick_entO (ks:Kids)(n:ByteArray):pickE (ks.map entOf) n=entO n (pickK ks n):=by
 unfold pickE
 rw[getK_map]
 cases pickK ks n <;> rfl
theorem rising_ents {ks:Kids}(h:RisingK ks):RisingK (ks.map entOf):=List.pairwise_map.2 h
section
variable {s i p:Nat}{B:WB}{objs:List Ob}{sv dr ow:Nat}{t:LT}{a:List Ob}{g:WG}
def KeptB (tg:Tags)(W:World)(K:List (Nat×Obj)):Prop:=∀ x ∈ K,W.heap[x.1]? = some x.2/\tg x.1=(0,0)
theorem KeptB.moves {P:Nat×Nat->Prop}{tg tg':Tags}{w w':World}{K:List (Nat×Obj)}(h:KeptB tg w K)(m:Moves P tg tg' w w')(hn:¬ P (0,0)):KeptB tg' w' K:=fun x hx=>m.at (h x hx).1 (h x hx).2 hn
def CmpTo (s i p:Nat)(B:WB)(objs:List Ob)(sv dr ow:Nat)(t:LT)(a:List Ob)(g:WG)(K:List (Nat×Obj))(tg:Tags)(w:World)(fs:FS)(lim:Nat)(L M:List Chg8)(er:Int)(w':World):Prop:=
 ∃ tg' fs' L',Moves (FetchS i) tg tg' w w'/\(∀ v es,Slc tg w i v es->Slc tg' w' i v es)/\KeptB tg' w' K/\CSt tg' w' s i p B objs { g with fs:=fs' } lim sv dr ow t a L'/\((er=0/\fs.Next fs'/\L'=L++M)\/(er=14/\fs.Fail fs'))
structure XSt (s i p:Nat)(B:WB)(objs:List Ob)(sv dr ow:Nat)(t:LT)(a:List Ob)(g:WG)(K:List (Nat×Obj))(tg0:Tags)(w:World)(n:Nat)(tg:Tags)(W:World)(fs:FS)(lim:Nat)(L:List Chg8):Prop where
 mv:Moves (FetchS i) tg0 tg w W
 slc:∀ v es,Slc tg0 w i v es->Slc tg W i v es
 st:CSt tg W s i p B objs { g with fs:=fs } lim sv dr ow t a L
 kp:KeptB tg W K
 bx:∀ j,j<=2->n+j<W.heap.size/\tg (n+j)=(0,0)
variable {K:List (Nat×Obj)}{n0:Nat}
theorem XSt.below {tg0 tg:Tags}{w W W':World}{fs:FS}{lim:Nat}{L:List Chg8}(h:XSt s i p B objs sv dr ow t a g K tg0 w n0 tg W fs lim L)(hb:Below W.heap.size W W'):XSt s i p B objs sv dr ow t a g K tg0 w n0 tg W' fs lim L:=
 ⟨h.mv.trans (Moves.of_below hb),fun v es hv=>(h.slc v es hv).below hb,h.st.below hb,h.kp.moves (Moves.of_below (P:=fun _=>False) hb) id,fun j hj=>⟨Nat.lt_of_lt_of_le (h.bx j hj).1 hb.size,(h.bx j hj).2⟩⟩
theorem XSt.mono {tg0 tg:Tags}{w W:World}{fs:FS}{lim lim':Nat}{L:List Chg8}(h:XSt s i p B objs sv dr ow t a g K tg0 w n0 tg W fs lim L)(hl:lim<=lim'):XSt s i p B objs sv dr ow t a g K tg0 w n0 tg W fs lim' L:=⟨h.mv,h.slc,h.st.mono hl,h.kp,h.bx⟩
theorem XSt.call {P:Nat×Nat->Prop}(hP:∀ t,P t->FetchS i t){tg0 tg tg':Tags}{w W w':World}{fs fs':FS}{lim lim':Nat}{L L':List Chg8}(h:XSt s i p B objs sv dr ow t a g K tg0 w n0 tg W fs lim L)(m:Moves P tg tg' W w')(hk:∀ v es,Slc tg W i v es->Slc tg' w' i v es)(hc:CSt tg' w' s i p B objs { g with fs:=fs' } lim' sv dr ow t a L'):
  XSt s i p B objs sv dr ow t a g K tg0 w n0 tg' w' fs' lim' L'/\(∀ b,b<W.heap.size->tg b=(0,0)->∀ o,w'.cell? ⟨b,o,none⟩=W.cell? ⟨b,o,none⟩)/\W.heap.size<=w'.heap.size:=by
 have h0:¬ P (0,0):=fun hp=>fetchS0 h.st.inv.two (hP _ hp)
 exact⟨⟨h.mv.trans (m.mono hP),fun v es hv=>hk v es (h.slc v es hv),hc,h.kp.moves m h0,fun j hj=>⟨Nat.lt_of_lt_of_le (h.bx j hj).1 m.size,(m.tags _ (h.bx j hj).1).trans (h.bx j hj).2⟩⟩,fun b hb ht o=>World.cell?_of_block (a:=⟨b,o,none⟩) (m.block b hb (by rw[ht];exact h0)),m.size⟩
theorem XSt.box {tg0 tg:Tags}{w W w':World}{fs:FS}{lim:Nat}{L:List Chg8}(h:XSt s i p B objs sv dr ow t a g K tg0 w n0 tg W fs lim L){s0 s1 s2 s3 s4 nm nm2:ByteArray}{k id k2 id2:Int}(hB:CBox n0 s0 s1 s2 s3 s4 nm nm2 k id k2 id2 W)(hk:∀ b,b<W.heap.size->tg b=(0,0)->∀ o,w'.cell? ⟨b,o,none⟩=W.cell? ⟨b,o,none⟩)(hs:W.heap.size<=w'.heap.size):CBox n0 s0 s1 s2 s3 s4 nm nm2 k id k2 id2 w':=
 hB.keep hs (fun j hj o=>hk _ (h.bx j hj).1 (h.bx j hj).2 o)
theorem slc_row {tg:Tags}{W:World}{v:Value}{es:List Ent}(h:Slc tg W i v es)(j:Nat):RowAt v es j W:=by
 intro x hx
 obtain⟨hj,rfl⟩:=List.getElem?_eq_some_iff.1 hx
 obtain⟨gb,c,rfl⟩:=slice_of_owns h.1 (by omega)
 obtain⟨c0,c1,c2⟩:=row_cells (off:=0) (owns_cells h.1) hj
 rw[Nat.zero_add] at c0 c1 c2
 exact⟨gb,c,rfl,ownsRow_lt h.1 rfl,c0,c1,c2⟩
theorem slc_of {tg:Tags}{W:World}{v:Value}{es:List Ent}(h:Slc tg W i v es):SliceOf v es.length:=by
 rcases h.1.2 with ⟨e,h0⟩ | ⟨g',c',_,e,_⟩
 ·exact⟨none,0,by rw[e,h0]⟩
 ·exact⟨_,_,e⟩
theorem slc_search {tg:Tags}{W:World}{v:Value}{es:List Ent}(h:Slc tg W i v es)(hr:RisingK es)(h16:es.length<=16)(x:ByteArray){W':World}(hb:Below W.heap.size W W'):
  Calls Tryz.prog 77 #[v,.string x] W' fun e w'=>e=.returned (.tuple #[.int .i64 (idxK es x:Nat),.bool (thereK es x)])/\Below W'.heap.size W' w':=search_any (h.below hb).1 x hr h16
theorem compare_step (hS:Sound objs)(hi:2<=i)(hF:Flat objs t g.ft){n cb:Nat}(hn5:n<=5){q:List ByteArray}{now was:Option LT}(hnow:OkO objs n now)(hwas:OkO objs n was)(hst:StoredO was)(hat:∀ c,now=some c->t.at objs q=some c)(hq:Good q)(hlen:q.length+n<=5)(nm nm2:ByteArray)
  (hcb:3+((kidsO objs now).length+(kidsO objs was).length)*cb<=cB n)
  {tg:Tags}{w0 w:World}{fs:FS}{lim:Nat}{L:List Chg8}(hl:lim+cB n<1099511627776)(hsv:sv<w.heap.size)(v0:w.cell? ⟨sv,0,none⟩=some (.pointer (some ⟨B.bt,0,none⟩)))(v1:w.cell? ⟨sv,1,none⟩=some (.pointer (some ⟨dr,0,none⟩)))(v2:w.cell? ⟨sv,2,none⟩=some (.map (some ow)))
  (r:Int)(htest:kindO now=kindO was->(r=idO was ↔ ∀ y,semO objs (fcOf objs g.fl) now y=semO objs fcE was y))
  (hob:kindO now=kindO was->∀ W,Below w.heap.size w W->CBox w.heap.size (comp q 0) (comp q 1) (comp q 2) (comp q 3) (comp q 4) (entO nm now).1 (entO nm2 was).1 (kindO now) (idO now) (kindO was) (idO was) W->Calls Tryz.prog 65 #[.agg #[.pointer (some ⟨B.bt,0,none⟩),.pointer (some ⟨dr,0,none⟩),.map (some ow)],.agg (pathA q),.agg #[.string (entO nm now).1,.int .i64 (kindO now),.int .i64 (idO now)]] W fun e w'=>e=.returned (.int .i64 r)/\(∃ tg',XSt s i p B objs sv dr ow t a g K tg w0 w.heap.size tg' w' fs lim L)/\CBox w.heap.size (comp q 0) (comp q 1) (comp q 2) (comp q 3) (comp q 4) (entO nm now).1 (entO nm2 was).1 (kindO now) (idO now) (kindO was) (idO was) w'/\∀ o,w'.cell? ⟨sv,o,none⟩=W.cell? ⟨sv,o,none⟩)
  (hbg:kindO now≠kindO was->∀ W,Below w.heap.size w W->w.heap.size+2<W.heap.size->∃ tg',XSt s i p B objs sv dr ow t a g K tg w0 w.heap.size tg' W fs lim L)
  (hrec:∀ x,(pickK (kidsO objs now) x≠none\/pickK (kidsO objs was) x≠none)->∀ tg w fs lim L,CSt tg w s i p B objs { g with fs:=fs } lim sv dr ow t a L->lim+cb<1099511627776->
   Calls Tryz.prog 97 #[.pointer (some ⟨sv,0,none⟩),.agg (pathA (q ++ [x])),entV (entO x (pickK (kidsO objs now) x)),entV (entO x (pickK (kidsO objs was) x))] w fun e w'=>∃ er,e=.returned (.int .i64 er)/\CmpTo s i p B objs sv dr ow t a g [] tg w fs (lim+cb) L ((cmpL objs (fcOf objs g.fl) fcE (n-1) (q ++ [x]) (pickK (kidsO objs now) x) (pickK (kidsO objs was) x)).map encP) er w'):
  Calls Tryz.prog 97 #[.pointer (some ⟨sv,0,none⟩),.agg (pathA q),entV (entO nm now),entV (entO nm2 was)] w fun e w'=>∃ er,e=.returned (.int .i64 er)/\CmpTo s i p B objs sv dr ow t a g K tg w0 fs (lim+cB n) L ((cmpL objs (fcOf objs g.fl) fcE n q now was).map encP) er w':=by
 obtain⟨hrn,hkn⟩:=kidsO_ok hS hnow
 obtain⟨hrw,hkw⟩:=kidsO_ok hS hwas
 have hn16:(kidsO objs now).length<=16:=kidsO_few hS hnow
 have hw16:(kidsO objs was).length<=16:=kidsO_few hS hwas
 have hq4:∀ x,(pickK (kidsO objs now) x≠none\/pickK (kidsO objs was) x≠none)->q.length<=4:=fun x hx=>by
  rcases hx with hx | hx
  ·obtain⟨c,hc⟩:=Option.ne_none_iff_exists'.1 hx
   obtain⟨m,e,_⟩:=hkn _ (pick_in8 hc)
   omega
  ·obtain⟨c,hc⟩:=Option.ne_none_iff_exists'.1 hx
   obtain⟨m,e,_⟩:=hkw _ (pick_in8 hc)
   omega
 -- what is found,in pieces
 obtain⟨NT,hNT⟩:∃ NT,NT=noteT (joinB q) (decide (kindO now=1)) (decide (kindO was=1)):=⟨_,rfl⟩
 obtain⟨h1,hh1⟩:∃ h1:ByteArray×LT->List Chg8,h1=fun x=>(cmpL objs (fcOf objs g.fl) fcE (n-1) (q ++ [x.1]) (some x.2) (pickK (kidsO objs was) x.1)).map encP:=⟨_,rfl⟩
 obtain⟨h2,hh2⟩:∃ h2:ByteArray×LT->List Chg8,h2=fun x=>(cmpL objs (fcOf objs g.fl) fcE (n-1) (q ++ [x.1]) none (some x.2)).map encP:=⟨_,rfl⟩
 obtain⟨pp,hpp⟩:∃ pp:ByteArray×LT->Bool,pp=fun x=>(pickK (kidsO objs now) x.1).isNone:=⟨_,rfl⟩
 have hdiff:(¬ ∀ y,semO objs (fcOf objs g.fl) now y=semO objs fcE was y)->(cmpL objs (fcOf objs g.fl) fcE n q now was).map encP=NT++(kidsO objs now).flatMap h1++((kidsO objs was).filter pp).flatMap h2:=fun hd=>by
  rw[cmp_diff hS hnow hwas hd,List.map_append,List.map_append,note_kinds,<- hNT,List.map_flatMap,List.map_flatMap,<- hh1,<- hh2,<- hpp,List.append_assoc]
 obtain⟨M,hMM⟩:∃ M,M=(cmpL objs (fcOf objs g.fl) fcE n q now was).map encP:=⟨_,rfl⟩
 rw[<- hMM] at hdiff ⊢
 have hsame:(∀ y,semO objs (fcOf objs g.fl) now y=semO objs fcE was y)->M = []:=fun hs=>by rw[hMM,cmp_same hs];rfl
 have hnl:NT.length<=1:=by rw[hNT];unfold noteT;split <;> split <;> simp
 -- the test
 let sm:Bool:=@decide (∀ y,semO objs (fcOf objs g.fl) now y=semO objs fcE was y) (Classical.propDecidable _)
 have hsmt:sm=true->∀ y,semO objs (fcOf objs g.fl) now y=semO objs fcE was y:=fun e=>@of_decide_eq_true _ (Classical.propDecidable _) e
 have hsmf:sm=false->¬ ∀ y,semO objs (fcOf objs g.fl) now y=semO objs fcE was y:=fun e=>@of_decide_eq_false _ (Classical.propDecidable _) e
 have hFS:∀ t,Fetches i t->FetchS i t:=fun t ht=>.inl ht
 have h01:∀ t,t=((0,1):Nat×Nat)->FetchS i t:=fun t ht=>.inr ht
 have hvk:∀ (z:ByteArray) (o:Option LT),entV (entO z o)=.agg #[.string (entO z o).1,.int .i64 (kindO o),.int .i64 (idO o)]:=fun z o=>by cases o <;> rfl
 -- of the kids
 have gx:∀ (ks:Kids) (j:Nat) x,(ks.map entOf)[j]? = some x->∃ hj:j<ks.length,x=entOf ks[j]:=fun ks j x hx=>by
  obtain⟨hj,e⟩:=List.getElem?_eq_some_iff.1 hx
  have hj':j<ks.length:=by simpa using hj
  exact⟨hj',by rw[<- e,List.getElem_map]⟩
 rw[hvk,hvk]
 refine (compare_walk sv B.bt dr ow _ _ _ _ _ (entO nm now).1 (entO nm2 was).1 (kindO now) (idO now) (kindO was) (idO was) r sm ((kidsO objs now).map entOf) ((kidsO objs was).map entOf) (by simpa using hn16) (by simpa using hw16)
  (fun x=>(comp (q ++ [x]) 0,comp (q ++ [x]) 1,comp (q ++ [x]) 2,comp (q ++ [x]) 3,comp (q ++ [x]) 4)) (fun x=>entO x (pickK (kidsO objs was) x)) (fun x=>(idxK ((kidsO objs now).map entOf) x:Nat)) (fun x=>thereK ((kidsO objs now).map entOf) x)
  (fun W=>∃ tg',XSt s i p B objs sv dr ow t a g K tg w0 w.heap.size tg' W fs lim L)
  (fun W=>sm=false/\∃ tg',XSt s i p B objs sv dr ow t a g K tg w0 w.heap.size tg' W fs (lim+1) (L++NT))
  (fun v W=>sm=false/\∃ tg' fs',XSt s i p B objs sv dr ow t a g K tg w0 w.heap.size tg' W fs' (lim+2) (L++NT)/\fs.Next fs'/\Slc tg' W i v ((kidsO objs now).map entOf))
  (fun v u j W=>sm=false/\(∃ tg' fs',XSt s i p B objs sv dr ow t a g K tg w0 w.heap.size tg' W fs' (lim+3+j*cb) (L++NT++((kidsO objs now).take j).flatMap h1)/\fs.Next fs'/\Slc tg' W i v ((kidsO objs now).map entOf)/\Slc tg' W i u ((kidsO objs was).map entOf))/\CBox w.heap.size (comp q 0) (comp q 1) (comp q 2) (comp q 3) (comp q 4) (entO nm now).1 (entO nm2 was).1 (kindO now) (idO now) (kindO was) (idO was) W)
  (fun v u j W=>sm=false/\(∃ tg' fs',XSt s i p B objs sv dr ow t a g K tg w0 w.heap.size tg' W fs' (lim+3+((kidsO objs now).length+j)*cb) (L++NT++(kidsO objs now).flatMap h1++(((kidsO objs was).take j).filter pp).flatMap h2)/\fs.Next fs'/\Slc tg' W i v ((kidsO objs now).map entOf)/\Slc tg' W i u ((kidsO objs was).map entOf))/\CBox w.heap.size (comp q 0) (comp q 1) (comp q 2) (comp q 3) (comp q 4) (entO nm now).1 (entO nm2 was).1 (kindO now) (idO now) (kindO was) (idO was) W)
  (fun er w'=>CmpTo s i p B objs sv dr ow t a g K tg w0 fs (lim+cB n) L M er w') w hsv v0 v1 v2 ?_ ?_ ?_ ?_ ?_ ?_ ?_ ?_ ?_ ?_ ?_ ?_ ?_ ?_ ?_ ?_ ?_ ?_)
 ·-- object
  intro hk
  refine⟨?_,fun W hb hB=>hob hk W hb hB⟩
  show @decide _ (Classical.propDecidable _)=decide (r=idO was)
  by_cases he:r=idO was
  ·rw[decide_eq_true he];exact @decide_eq_true _ (Classical.propDecidable _) ((htest hk).1 he)
  ·rw[decide_eq_false he];exact @decide_eq_false _ (Classical.propDecidable _) (fun hs=>he ((htest hk).2 hs))
 ·-- other kinds
  intro hk
  refine⟨@decide_eq_false _ (Classical.propDecidable _) (fun hs=>hk (kind_sem hs)),fun W hb hB=>hbg hk W hb hB.1⟩
 ·rintro W n' ⟨tg',hx⟩
  exact⟨tg',hx.below (below_drewN (Below.refl _ _) n')⟩
 ·-- the same
  rintro hs W ⟨tg',hx⟩
  exact⟨tg',fs,L,hx.mv,hx.slc,hx.kp,hx.st.mono (Nat.le_add_right _ _),.inl ⟨rfl,FS.Next.refl _,by rw[hsame (hsmt hs),List.append_nil]⟩⟩
 ·-- note
  rintro hs W ⟨tg',hx⟩ hB
  have:=note_any hx.st (by omega) hq (decide (kindO now=1)) (decide (kindO was=1))
  have e1:(kindO now == 1)=decide (kindO now=1):=rfl
  have e2:(kindO was == 1)=decide (kindO was=1):=rfl
  rw[<- hNT] at this
  rw[e1,e2]
  refine this.mono ?_
  rintro e w' ⟨he,tg2,m,hc⟩
  obtain⟨k1,k2,k3⟩:=hx.call h01 m (fun v es hv=>⟨ownsRow_keep hv.1 (fun b hb=>m.block b (ownsRow_lt hv.1 hb) (fun e=>by rcases hv.2 b hb with h | h <;> (rw[h] at e;cases e))),fun b hb=>by rw[m.tags b (ownsRow_lt hv.1 hb)];exact hv.2 b hb⟩) hc
  exact⟨he,⟨hs,tg2,k1⟩,hx.box hB k2 k3⟩
 ·-- what is in what is there
  rintro W ⟨hs,tg',hx⟩ hB
  have:=inside_any hx.st hF (by omega) hq hnow (fun es he=>by rw[he];exact hat _ he) nm
  rw[hvk] at this
  refine this.mono ?_
  rintro e w' ⟨v,he,tg2,m,hc,hv,hk⟩
  obtain⟨k1,k2,k3⟩:=hx.call hFS m hk hc
  refine⟨v,_,he,?_⟩
  rcases insG_cases objs fs now with ⟨c1,c2⟩ | ⟨c1,c2⟩
  ·have e1:(insG objs fs now).2.1=0:=by rw[c2]
   have e2:(insG objs fs now).2.2=kidsO objs now:=by rw[c2]
   refine .inl ⟨e1,?_,⟨hs,tg2,_,k1,c1,?_⟩,hx.box hB k2 k3⟩
   ·have:=slc_of hv;rw[show ({ g with fs:=fs }:WG).fs=fs from rfl,e2] at this;exact this
   ·rw[show ({ g with fs:=fs }:WG).fs=fs from rfl,e2] at hv;exact hv
  ·refine .inr ⟨by show (insG objs fs now).2.1=14;rw[c2],?_,tg2,_,_,k1.mv,k1.slc,k1.kp,k1.st.mono (by have:=cB_pos n;omega),.inr ⟨rfl,c1⟩⟩
   obtain⟨a1,a2,a3,e⟩:=hv.shape
   exact⟨a1,a2,a3,e⟩
 ·-- what was in what was there
  rintro v W ⟨hs,tg',fs',hx,hN,hv⟩ hB
  have:=inside_any hx.st hF (by omega) hq hwas (fun es he=>by rcases hst _ he with ⟨j,h⟩ | ⟨j,h⟩ <;> cases h) nm2
  rw[hvk] at this
  refine this.mono ?_
  rintro e w' ⟨u,he,tg2,m,hc,hu,hk⟩
  obtain⟨k1,k2,k3⟩:=hx.call hFS m hk hc
  refine⟨u,_,he,?_⟩
  rcases insG_cases objs fs' was with ⟨c1,c2⟩ | ⟨c1,c2⟩
  ·have e1:(insG objs fs' was).2.1=0:=by rw[c2]
   have e2:(insG objs fs' was).2.2=kidsO objs was:=by rw[c2]
   rw[show ({ g with fs:=fs' }:WG).fs=fs' from rfl,e2] at hu
   refine .inl ⟨e1,slc_of hu,hs,⟨tg2,_,?_,hN.trans c1,hk _ _ hv,hu⟩,hx.box hB k2 k3⟩
   rw[List.take_zero,List.flatMap_nil,List.append_nil,Nat.zero_mul]
   exact k1
  ·refine .inr ⟨by show (insG objs fs' was).2.1=14;rw[c2],?_,tg2,_,_,k1.mv,k1.slc,k1.kp,k1.st.mono (by have:=cB_pos n;omega),.inr ⟨rfl,hN.fail c1⟩⟩
   obtain⟨a1,a2,a3,e⟩:=hu.shape
   exact⟨a1,a2,a3,e⟩
 ·rintro v u j W (⟨_,_,hB⟩ | ⟨_,_,hB⟩) <;> exact hB
 ·rintro v u j W ⟨_,⟨tg',fs',_,_,hv,_⟩,_⟩
  exact slc_row hv j
 ·rintro v u j W ⟨_,⟨tg',fs',_,_,_,hu⟩,_⟩
  exact slc_row hu j
 ·-- Child
  intro x W hx
  have hx':pickK (kidsO objs now) x≠none\/pickK (kidsO objs was) x≠none:=by
   rcases hx with ⟨e,he,rfl⟩ | ⟨e,he,rfl⟩
   ·obtain⟨y,hy,rfl⟩:=List.mem_map.1 he
    exact .inl (by rw[show (entOf y).1=y.1 from rfl,pick_of_mem hrn hy];simp)
   ·obtain⟨y,hy,rfl⟩:=List.mem_map.1 he
    exact .inr (by rw[show (entOf y).1=y.1 from rfl,pick_of_mem hrw hy];simp)
  exact child_any q hq (hq4 x hx') x W
 ·-- pick
  rintro v u j wr ⟨_,⟨tg',fs',_,_,_,hu⟩,_⟩ x W hb
  rw[<- pick_entO]
  exact tpick_any (hu.below hb).1 x (rising_ents hrw) (by simpa using hw16)
 ·-- search
  rintro v u j wr ⟨_,⟨tg',fs',_,_,hv,_⟩,_⟩ x W hb
  exact slc_search hv (rising_ents hrn) (by simpa using hn16) x hb
 ·-- compare of what is there
  rintro v u j wr ⟨hs,⟨tg',fs',hx,hN,hv,hu⟩,hB⟩ x hxe W hb
  obtain⟨hj,rfl⟩:=gx _ _ _ hxe
  have hp:=pick_of_mem hrn (List.getElem_mem hj)
  have hle:lim+3+j*cb+cb<=lim+cB n:=by
   have:(j+1)*cb<=((kidsO objs now).length+(kidsO objs was).length)*cb:=Nat.mul_le_mul_right cb (by omega)
   rw[Nat.succ_mul] at this
   omega
  have hr:=hrec ((kidsO objs now)[j]).1 (.inl (by rw[hp];simp)) tg' W fs' _ _ (hx.below hb).st (by omega)
  rw[hp] at hr
  refine Calls.mono hr ?_
  rintro e w' ⟨er,he,tg2,fs2,L2,m,hk,_,hc,hcase⟩
  obtain⟨k1,k2,k3⟩:=(hx.below hb).call (fun _ h=>h) m hk hc
  have hkeep:∀ b o,(b=w.heap.size\/b=wr.heap.size)->b<W.heap.size->w'.cell? ⟨b,o,none⟩=W.cell? ⟨b,o,none⟩:=fun b o hbb hlt=>k2 b hlt (by
   rcases hbb with rfl | rfl
   ·exact (hx.bx 0 (by omega)).2
   ·exact hx.st.inv.st.fresh _ (Nat.le_refl _)) o
  refine⟨er,he,hkeep,?_⟩
  rcases hcase with ⟨rfl,hN2,rfl⟩ | ⟨rfl,hF2⟩
  ·refine .inl ⟨rfl,hs,⟨tg2,fs2,?_,hN.trans hN2,hk _ _ (hv.below hb),hk _ _ (hu.below hb)⟩,?_⟩
   ·rw[flat_take h1 _ hj,Nat.succ_mul,<- List.append_assoc]
    rw[show h1 (kidsO objs now)[j]=(cmpL objs (fcOf objs g.fl) fcE (n-1) (q ++ [((kidsO objs now)[j]).1]) (some ((kidsO objs now)[j]).2) (pickK (kidsO objs was) ((kidsO objs now)[j]).1)).map encP by rw[hh1]]
    have e:lim+3+(j*cb+cb)=lim+3+j*cb+cb:=by omega
    rw[e]
    exact k1
   ·exact (hx.below hb).box (hB.keep hb.size (fun j' hj' o=>hb.cell (p:=⟨w.heap.size+j',o,none⟩) (hx.bx j' hj').1)) k2 k3
  ·exact .inr ⟨rfl,tg2,fs2,L2,k1.mv,k1.slc,k1.kp,k1.st.mono hle,.inr ⟨rfl,hN.fail hF2⟩⟩
 ·-- on to what was there
  rintro v u wr ⟨hs,⟨tg',fs',hx,hN,hv,hu⟩,hB⟩
  rw[List.length_map] at hx
  refine⟨hs,⟨tg',fs',?_,hN,hv,hu⟩,hB⟩
  rw[List.take_length] at hx
  rw[List.take_zero,List.filter_nil,List.flatMap_nil,List.append_nil,Nat.add_zero]
  exact hx
 ·-- what is still there
  rintro v u j wr ⟨hs,⟨tg',fs',hx,hN,hv,hu⟩,hB⟩ x hxe ht W hb
  obtain⟨hj,rfl⟩:=gx _ _ _ hxe
  rw[there_pick (rising_ents hrn)] at ht
  refine⟨hs,⟨tg',fs',?_,hN,hv.below hb,hu.below hb⟩,hB.keep hb.size (fun j' hj' o=>hb.cell (p:=⟨w.heap.size+j',o,none⟩) (hx.bx j' hj').1)⟩
  have hpf:pp (kidsO objs was)[j]=false:=by
   rw[hpp]
   show (pickK (kidsO objs now) ((kidsO objs was)[j]).1).isNone=false
   cases hz:pickK (kidsO objs now) ((kidsO objs was)[j]).1 with
   | none=>rw[show (entOf (kidsO objs was)[j]).1=((kidsO objs was)[j]).1 from rfl,hz] at ht;cases ht
   | some c=>rfl
  rw[filter_take pp h2 _ hj,hpf]
  simp only[Bool.false_eq_true,if_false,List.append_nil]
  exact (hx.below hb).mono (by
   have:((kidsO objs now).length+j)*cb<=((kidsO objs now).length+(j+1))*cb:=Nat.mul_le_mul_right cb (by omega)
   omega)
 ·-- compare of what is there no more
  rintro v u j wr ⟨hs,⟨tg',fs',hx,hN,hv,hu⟩,hB⟩ x hxe ht W hb
  obtain⟨hj,rfl⟩:=gx _ _ _ hxe
  rw[there_pick (rising_ents hrn)] at ht
  have hz:pickK (kidsO objs now) ((kidsO objs was)[j]).1=none:=by
   cases hz:pickK (kidsO objs now) ((kidsO objs was)[j]).1 with
   | none=>rfl
   | some c=>rw[show (entOf (kidsO objs was)[j]).1=((kidsO objs was)[j]).1 from rfl,hz] at ht;cases ht
  have hp:=pick_of_mem hrw (List.getElem_mem hj)
  have hle:lim+3+((kidsO objs now).length+j)*cb+cb<=lim+cB n:=by
   have:((kidsO objs now).length+j+1)*cb<=((kidsO objs now).length+(kidsO objs was).length)*cb:=Nat.mul_le_mul_right cb (by omega)
   rw[Nat.succ_mul] at this
   omega
  have hr:=hrec ((kidsO objs was)[j]).1 (.inr (by rw[hp];simp)) tg' W fs' _ _ (hx.below hb).st (by omega)
  rw[hp,hz] at hr
  refine Calls.mono hr ?_
  rintro e w' ⟨er,he,tg2,fs2,L2,m,hk,_,hc,hcase⟩
  obtain⟨k1,k2,k3⟩:=(hx.below hb).call (fun _ h=>h) m hk hc
  have hkeep:∀ b o,(b=w.heap.size\/b=wr.heap.size)->b<W.heap.size->w'.cell? ⟨b,o,none⟩=W.cell? ⟨b,o,none⟩:=fun b o hbb hlt=>k2 b hlt (by
   rcases hbb with rfl | rfl
   ·exact (hx.bx 0 (by omega)).2
   ·exact hx.st.inv.st.fresh _ (Nat.le_refl _)) o
  refine⟨er,he,hkeep,?_⟩
  rcases hcase with ⟨rfl,hN2,rfl⟩ | ⟨rfl,hF2⟩
  ·refine .inl ⟨rfl,hs,⟨tg2,fs2,?_,hN.trans hN2,hk _ _ (hv.below hb),hk _ _ (hu.below hb)⟩,?_⟩
   ·have hpt:pp (kidsO objs was)[j]=true:=by rw[hpp];show (pickK (kidsO objs now) ((kidsO objs was)[j]).1).isNone=true;rw[hz];rfl
    rw[filter_take pp h2 _ hj,hpt,if_pos rfl,<- List.append_assoc]
    rw[show h2 (kidsO objs was)[j]=(cmpL objs (fcOf objs g.fl) fcE (n-1) (q ++ [((kidsO objs was)[j]).1]) none (some ((kidsO objs was)[j]).2)).map encP by rw[hh2]]
    have e:lim+3+((kidsO objs now).length+(j+1))*cb=lim+3+((kidsO objs now).length+j)*cb+cb:=by
     rw[<- Nat.add_assoc,Nat.succ_mul];omega
    rw[e]
    exact k1
   ·exact (hx.below hb).box (hB.keep hb.size (fun j' hj' o=>hb.cell (p:=⟨w.heap.size+j',o,none⟩) (hx.bx j' hj').1)) k2 k3
  ·exact .inr ⟨rfl,tg2,fs2,L2,k1.mv,k1.slc,k1.kp,k1.st.mono hle,.inr ⟨rfl,hN.fail hF2⟩⟩
 ·-- the end
  rintro v u wr ⟨hs,⟨tg',fs',hx,hN,hv,hu⟩,hB⟩
  rw[List.length_map,List.take_length] at hx
  refine⟨tg',fs',_,hx.mv,hx.slc,hx.kp,hx.st.mono (by omega),.inl ⟨rfl,hN,?_⟩⟩
  rw[hdiff (hsmf hs)]
  simp only[List.append_assoc]
end
section
variable {s i p:Nat}{B:WB}{objs:List Ob}{sv dr ow:Nat}{t:LT}{a:List Ob}{g:WG}
theorem compare_all {l:List Ob}(ha:a=objs++l)(hX:Exact a)(hO:Once a)(hS:Sound objs)(hF:Flat objs t g.ft):∀ (n:Nat),n<=5->∀ (q:List ByteArray) (now was:Option LT),OkO objs n now->OkO objs n was->StoredO was->(∀ c,now=some c->t.at objs q=some c)->(now≠none\/was≠none)->Good q->q.length+n<=5->∀ (nm nm2:ByteArray) (tg:Tags) (w:World) (fs:FS) (lim:Nat) (L:List Chg8),CSt tg w s i p B objs { g with fs:=fs } lim sv dr ow t a L->lim+cB n<1099511627776->
  Calls Tryz.prog 97 #[.pointer (some ⟨sv,0,none⟩),.agg (pathA q),entV (entO nm now),entV (entO nm2 was)] w fun e w'=>∃ er,e=.returned (.int .i64 er)/\CmpTo s i p B objs sv dr ow t a g [] tg w fs (lim+cB n) L ((cmpL objs (fcOf objs g.fl) fcE n q now was).map encP) er w':=by
 have hbeg:∀ {tg:Tags} {w:World} {fs:FS} {lim:Nat} {L:List Chg8},CSt tg w s i p B objs { g with fs:=fs } lim sv dr ow t a L->∀ W,Below w.heap.size w W->w.heap.size+2<W.heap.size->XSt s i p B objs sv dr ow t a g [] tg w w.heap.size tg W fs lim L:=fun h W hb hz=>
  ⟨Moves.of_below hb,fun v es hv=>hv.below hb,h.below hb,(fun x hx=>by cases hx),fun j hj=>⟨by omega,h.inv.st.fresh _ (by omega)⟩⟩
 have hobj:∀ {n:Nat},n<=5->∀ {q:List ByteArray} {now was:Option LT},OkO objs n now->OkO objs n was->StoredO was->(∀ c,now=some c->t.at objs q=some c)->(now≠none\/was≠none)->Good q->∀ (nm nm2:ByteArray) {tg:Tags} {w:World} {fs:FS} {lim:Nat} {L:List Chg8},CSt tg w s i p B objs { g with fs:=fs } lim sv dr ow t a L->∃ r,(kindO now=kindO was->(r=idO was ↔ ∀ y,semO objs (fcOf objs g.fl) now y=semO objs fcE was y))/\
   (kindO now=kindO was->∀ W,Below w.heap.size w W->CBox w.heap.size (comp q 0) (comp q 1) (comp q 2) (comp q 3) (comp q 4) (entO nm now).1 (entO nm2 was).1 (kindO now) (idO now) (kindO was) (idO was) W->Calls Tryz.prog 65 #[.agg #[.pointer (some ⟨B.bt,0,none⟩),.pointer (some ⟨dr,0,none⟩),.map (some ow)],.agg (pathA q),.agg #[.string (entO nm now).1,.int .i64 (kindO now),.int .i64 (idO now)]] W fun e w'=>e=.returned (.int .i64 r)/\(∃ tg',XSt s i p B objs sv dr ow t a g [] tg w w.heap.size tg' w' fs lim L)/\CBox w.heap.size (comp q 0) (comp q 1) (comp q 2) (comp q 3) (comp q 4) (entO nm now).1 (entO nm2 was).1 (kindO now) (idO now) (kindO was) (idO was) w'/\∀ o,w'.cell? ⟨sv,o,none⟩=W.cell? ⟨sv,o,none⟩):=by
  intro n hn q now was hnow hwas hst hat hone hq nm nm2 tg w fs lim L h
  obtain⟨hsv,_⟩:=h.cells
  obtain⟨f,m,hp,hM⟩:=h.map
  cases hc:now with
  | none=>
   refine⟨0,fun hk=>?_,fun hk=>?_⟩ <;> (
    rw[hc] at hone
    cases hu:was with
    | none=>rw[hu] at hone;rcases hone with h | h <;> exact absurd rfl h
    | some u=>rw[hu] at hk;have:=lt_kind12 u;have hk':(0:Int)=u.kind:=hk;omega)
  | some c=>
   cases hu:was with
   | none=>refine⟨0,fun hk=>?_,fun hk=>?_⟩ <;> (have:=lt_kind12 c;have hk':c.kind=(0:Int):=hk;omega)
   | some u=>
    refine⟨objO f q c,fun hk=>obj_test ha hX hO hS (hM q) (hat c hc) (LTok_five hn (hnow c hc)) (LTok_five hn (hwas u hu)) (hst u hu) hk,fun hk W hb hB=>?_⟩
    have:=object_c (bt:=B.bt) (dr:=dr) hp hb hq c (fun h0=>by obtain⟨r,hr,_⟩:=hM q c (hat c hc) h0;exact⟨r,hr⟩) nm
    refine Calls.mono this ?_
    rintro e w' ⟨he,hb'⟩
    have hz:=hB.1
    exact⟨he,⟨tg,hbeg h w' (below_via hb hb') (Nat.lt_of_lt_of_le hz hb'.size)⟩,hB.keep hb'.size (fun j hj o=>hb'.cell (p:=⟨w.heap.size+j,o,none⟩) (show w.heap.size+j<W.heap.size by omega)),fun o=>hb'.cell (p:=⟨sv,o,none⟩) (Nat.lt_of_lt_of_le hsv hb.size)⟩
 intro n
 induction n with
 | zero=>
  intro hn q now was hnow hwas hst hat hone hq hlen nm nm2 tg w fs lim L h hl
  have e1:=kidsO_nil hS hnow
  have e2:=kidsO_nil hS hwas
  obtain⟨r,h1,h2⟩:=hobj hn hnow hwas hst hat hone hq nm nm2 h
  obtain⟨hsv,v0,v1,v2⟩:=h.cells
  refine compare_step (cb:=0) hS h.inv.two hF hn hnow hwas hst hat hq hlen nm nm2 (by rw[cB];omega) hl hsv v0 v1 v2 r h1 h2 (fun _ W hb hz=>⟨tg,hbeg h W hb hz⟩) (fun x hx=>?_)
  rw[e1,e2] at hx
  rcases hx with hx | hx <;> exact absurd rfl hx
 | succ n ih=>
  intro hn q now was hnow hwas hst hat hone hq hlen nm nm2 tg w fs lim L h hl
  have h1:=kidsO_few hS hnow
  have h2:=kidsO_few hS hwas
  obtain⟨r,t1,t2⟩:=hobj hn hnow hwas hst hat hone hq nm nm2 h
  obtain⟨hsv,v0,v1,v2⟩:=h.cells
  refine compare_step (cb:=cB n) hS h.inv.two hF hn hnow hwas hst hat hq hlen nm nm2 (by
   rw[cB]
   have:((kidsO objs now).length+(kidsO objs was).length)*cB n<=32*cB n:=Nat.mul_le_mul_right _ (by omega)
   omega) hl hsv v0 v1 v2 r t1 t2 (fun _ W hb hz=>⟨tg,hbeg h W hb hz⟩) (fun x hx tg' w' fs' lim' L' h' hl'=>?_)
  have hv:validB x=true:=by
   rcases hx with hx | hx
   ·obtain⟨c,hc⟩:=Option.ne_none_iff_exists'.1 hx
    exact kidsO_valid hS hnow _ (pick_in8 hc)
   ·obtain⟨c,hc⟩:=Option.ne_none_iff_exists'.1 hx
    exact kidsO_valid hS hwas _ (pick_in8 hc)
  exact ih (by omega) (q ++ [x]) _ _ (pickO_ok hS hnow x) (pickO_ok hS hwas x) (stored_kidO hst x) (fun c hc=>at_kidO hat hc) hx ⟨hq.val.append (fun y hy=>by simp at hy;rw[hy];exact hv),by simp;omega⟩ (by simp;omega) x x tg' w' fs' lim' L' h' hl'
def clean (tg:Tags):Tags:=fun k=>if (tg k).1=0 then (0,0) else tg k
theorem clean_own {tg:Tags}{k:Nat}(h:(tg k).1≠0):clean tg k=tg k:=by unfold clean;rw[if_neg h]
theorem clean_zero {tg:Tags}{k:Nat}(h:(tg k).1=0):clean tg k=(0,0):=by unfold clean;rw[if_pos h]
theorem clean_not {tg:Tags}{k:Nat}:clean tg k≠(0,1):=by
 unfold clean
 split
 ·intro h;cases h
 ·rename_i h;intro e;rw[e] at h;exact h rfl
theorem clean_fresh {tg:Tags}{w:World}(h:Fresh tg w):Fresh (clean tg) w:=fun k hk=>clean_zero (by rw[h k hk])
theorem survey_ends {tg tg':Tags}{w w':World}{g':WG}{lim':Nat}(m:Moves (FetchS i) (clean tg) tg' w w')(hi:2<=i)(hf:Fresh tg w)(hW:WInv tg' w' s i p B objs g' lim'):
  ∃ tg2:Tags,Moves (Fetches i) tg tg2 w w'/\WInv tg2 w' s i p B objs g' lim'/\∀ k,tg' k=(0,1)->w.heap.size<=k/\tg2 k=(0,0):=by
 have hold:∀ k,k<w.heap.size->tg' k=clean tg k:=fun k hk=>m.tags k hk
 obtain⟨tg2,htg⟩:∃ tg2:Tags,tg2=fun k=>if k<w.heap.size then tg k else clean tg' k:=⟨_,rfl⟩
 have t1:∀ k,k<w.heap.size->tg2 k=tg k:=fun k hk=>by rw[htg];exact if_pos hk
 have t2:∀ k,¬ k<w.heap.size->tg2 k=clean tg' k:=fun k hk=>by rw[htg];exact if_neg hk
 have hf2:Fresh tg2 w':=fun k hk=>by
  have:=m.size
  rw[t2 k (by omega)]
  exact clean_zero (by rw[hW.st.fresh k hk])
 refine⟨tg2,⟨m.os,m.tape,m.output,m.size,t1,fun k hk hn=>m.block k hk ?_,fun _=>hf2⟩,hW.retag hf2 (fun k hk=>?_),fun k hk=>?_⟩
 ·by_cases h0:(tg k).1=0
  ·rw[clean_zero h0];exact fetchS0 hi
  ·rw[clean_own h0]
   rintro (h | h)
   ·exact hn h
   ·rw[h] at h0;exact h0 rfl
 ·by_cases hlt:k<w.heap.size
  ·rw[t1 k hlt]
   rw[hold k hlt] at hk ⊢
   by_cases h0:(tg k).1=0
   ·rw[clean_zero h0] at hk;exact absurd rfl hk
   ·rw[clean_own h0]
  ·rw[t2 k hlt,clean_own hk]
 ·by_cases hlt:k<w.heap.size
  ·rw[hold k hlt] at hk;exact absurd hk clean_not
  ·exact⟨by omega,by rw[t2 k hlt];exact clean_zero (by rw[hk])⟩
end
def cfC (x y:Chg8):Int:=Lib.compareBytes x.1.data.toList y.1.data.toList
theorem swoC:SWO (Go.Proofs.ltOf cfC) where
 irrefl x:=by simp[Go.Proofs.ltOf,cfC,cmp_self]
 trans x y z h1 h2:=decide_eq_true (cmp_trans _ _ _ (of_decide_eq_true h1) (of_decide_eq_true h2))
 ntrans x y z h1 h2:=decide_eq_false (cmp_ntrans _ _ _ (of_decide_eq_false h1) (of_decide_eq_false h2))
theorem encC_len (e:Chg8):(encC e).length=2:=rfl
theorem encC_one (e:Chg8):∀ v ∈ encC e,v.oneCell'=true:=by
 intro v hv;simp[encC] at hv;rcases hv with rfl | rfl <;> rfl
theorem flatC_get:∀ (es:List Chg8) (i j:Nat) (hi:i<es.length),j<2->(flatC es)[i*2+j]? = (encC es[i])[j]?
 | [],i,j,hi,_=>by simp at hi
 | e :: r,0,j,_,hj=>by
  simp only[flatC,List.flatMap_cons,Nat.zero_mul,Nat.zero_add,List.getElem_cons_zero]
  rw[List.getElem?_append_left (by rw[encC_len];exact hj)]
 | e :: r,i+1,j,hi,hj=>by
  have ih:=flatC_get r i j (by simpa using hi) hj
  simp only[flatC,List.flatMap_cons,List.getElem_cons_succ] at ih ⊢
  rw[List.getElem?_append_right (by rw[encC_len];omega),encC_len,<- ih]
  congr 1;omega
theorem flatK_flatC (d:Array Chg8):(flatK encC 2 d).toList=flatC d.toList:=by
 apply List.ext_getElem?
 intro t
 by_cases ht:t<d.size*2
 ·have h3:t % 2<2:=Nat.mod_lt _ (by omega)
  have hi:t / 2<d.toList.length:=by simp;omega
  have e1:=flatC_get d.toList (t / 2) (t % 2) hi h3
  rw[show t / 2*2+t % 2=t by omega] at e1
  rw[e1]
  have hi':t / 2<d.size:=by simpa using hi
  simp only[flatK,Array.toList_map,Array.toList_range,List.getElem?_map,List.getElem?_range ht,Option.map_some,Array.getElem_toList]
  rw[getElem!_pos d (t / 2) hi',List.getElem?_eq_getElem (by rw[encC_len];exact h3),getElem!_pos _ _ (by rw[encC_len];exact h3)]
 ·rw[List.getElem?_eq_none (by simp[flatK];omega),List.getElem?_eq_none (by rw[flatC_len];simp;omega)]
theorem holdsC_of_row {w:World}{g:Nat}{cur:Array Value}{e:TypeId}{es:List Chg8}(hb:w.heap[g]? = some (.cells cur e (0,0)))(ht:cur.toList.take (es.length*2)=flatC es):HoldsK encC 2 w g 0 es.toArray:=by
 intro j hj
 have hj':j<es.length*2:=by simpa using hj
 refine⟨?_,by simp[World.frozen?,hb]⟩
 have h1:(cur.toList.take (es.length*2))[j]? = (flatC es)[j]?:=by rw[ht]
 rw[List.getElem?_take_of_lt hj'] at h1
 simp only[World.cell?,hb,Nat.zero_add]
 simp only[Option.isSome_none,Bool.false_eq_true,if_false]
 rw[<- Array.getElem?_toList,h1]
 have h2:=flatK_flatC es.toArray
 simp only at h2
 rw[<- h2,Array.getElem?_toList,getElem!_pos _ j hj,Array.getElem?_eq_getElem hj]
 rfl
theorem heap_sortedC {w:World}{g n:Nat}{os:Array Obj}{cur:Array Value}{e:TypeId}{fr:Nat×Nat}(d:Array Chg8)(hb:w.heap[g]? = some (.cells cur e fr)):
  (sortWorldK encC 2 w g 0 n d os).heap[g]? = some (.cells (putCells id 0 (flatK encC 2 d) cur) e fr):=by
 have hg:g<w.heap.size:=(Array.getElem?_eq_some_iff.1 hb).1
 unfold sortWorldK
 rw[heap_grow_old _ _ (by simpa [putRowK] using hg)]
 simp[putRowK,putRow,mapBlock,Sort.ahead,Array.getElem?_modify,hb,onCells]
theorem grownBy_sortedC {w:World}{g n:Nat}{os:Array Obj}(d:Array Chg8):w.grownBy (sortWorldK encC 2 w g 0 n d os) (some g):=by
 refine⟨rfl,rfl,rfl,by simp[sortWorldK,putRowK],fun k hk hne=>?_⟩
 unfold sortWorldK
 rw[heap_grow_old _ _ (by simpa [putRowK] using hk)]
 have:g≠k:=fun e=>hne (by rw[e])
 simp[putRowK,putRow,mapBlock,Sort.ahead,Array.getElem?_modify,this]
theorem take_putCellsC (cur:Array Value)(d:Array Chg8)(h:d.size*2<=cur.size):(putCells id 0 (flatK encC 2 d) cur).toList.take (d.size*2)=flatC d.toList:=by
 rw[<- flatK_flatC]
 apply List.ext_getElem?
 intro j
 by_cases hj:j<d.size*2
 ·rw[List.getElem?_take_of_lt hj,Array.getElem?_toList,Array.getElem?_toList]
  have hs:j<(flatK encC 2 d).size:=by simpa using hj
  rw[Array.getElem?_eq_getElem hs,<- getElem!_pos (flatK encC 2 d) j hs]
  simp[putCells,hj,show j<cur.size by omega]
 ·rw[List.getElem?_take_eq_none (by omega),List.getElem?_eq_none (by simp;omega)]
theorem isAggC (w:World):(isAgg 58).run Tryz.prog w=.ok true w:=by kernel_rfl
theorem sizeOfC (w:World):(Go.sizeOf 58).run Tryz.prog w=.ok 2 w:=by kernel_rfl
theorem byPath_any (x y:Chg8)(W:World):Calls Tryz.prog 99 #[.agg #[.string x.1,.int .i64 x.2],.agg #[.string y.1,.int .i64 y.2]] W fun e w'=>e=.returned (.int .i64 (cfC x y))/\∃ q os',w'=grow (W.drewN q) os':=by
 have hcon:=fun W'=>Tryz.strings_Compare x.1 y.1 W'
 unfold cfC
 generalize Lib.compareBytes x.1.data.toList y.1.data.toList=r at hcon ⊢
 go_enter Tryz.func99,Tryz.ntmps99
 go_wp2_with (go_at_call 122;refine (hcon _).mono ?_;rintro e w' ⟨rfl,rfl⟩)
 go_ret
 exact⟨rfl,0,_,by rw[alloc_eq_grow,alloc_eq_grow,grow_grow];rfl⟩
theorem cmpLaysC (blk off size:Nat)(w:World):CmpLays Tryz.prog 99 #[] encC 2 cfC blk off size w:=fun _ _ _ _ x y=>byPath_any x y _
def SortedC (l:List Chg8):Prop:=l.Pairwise fun x y=>cmpN x.1 y.1<=0
theorem sortC_any {w:World}{a:Option Addr}{n c:Nat}{L:List Chg8}(hr:w.ownsRow 0 58 2 (.slice a n c) n (flatC L))(hn:n=L.length)(hb:n<4611686018427387904):
  Calls Tryz.prog 98 #[.slice a n c,.func (.func 99) #[] #[]] w fun e w'=>e=.returned (.tuple #[])/\∃ L':List Chg8,L'.Perm L/\SortedC L'/\w'.ownsRow 0 58 2 (.slice a n c) n (flatC L')/\w.grownBy w' (Value.slice a n c).ownBlock:=by
 rcases hr.2 with ⟨hv,h0⟩ | ⟨g,cap,cur,hv,_,hg,h1,h2,h3,h4⟩
 ·cases hv
  refine (AnyF.slices_SortFunc_none Tryz.sortC none 0 _ w).mono ?_
  rintro e w' ⟨he,rfl⟩
  have hL:L = []:=List.length_eq_zero_iff.1 (by omega)
  subst hL
  exact⟨he,[],.refl _,List.Pairwise.nil,hr,⟨rfl,rfl,rfl,Nat.le_refl _,fun _ _ _=>rfl⟩⟩
 ·cases hv
  have hH:=holdsC_of_row (es:=L) hg (by rw[<- hn];exact h4)
  have eg:∀ args w,(callFunc 99 args).run Tryz.prog w=.ok (.enter 99 args) w:=enters_of Tryz.func99 (by kernel_rfl) rfl
  have hso:=AnyQ.slices_SortFunc Tryz.sortC 2 isAggC sizeOfC encC encC_len encC_one cfC swoC 99 #[] g 0 c L.toArray w eg (cmpLaysC g 0 L.toArray.size w) hH (Array.getElem?_eq_some_iff.1 hg).1 (by simp only[List.size_toArray];omega)
  rw[show L.toArray.size=n by simp only[List.size_toArray];exact hn.symm] at hso
  refine hso.mono ?_
  rintro e w' ⟨he,d',nn,os,hperm,hsort,rfl⟩
  have hds:d'.size=n:=by have:=hperm.1;simp only[List.size_toArray] at this;omega
  refine⟨he,d'.toList,?_,?_,⟨by rw[flatC_len];simp[hds],.inr ⟨g,c,_,rfl,Nat.zero_le _,heap_sortedC _ hg,h1,h2,by simp[putCells,h3],by
   have:=take_putCellsC cur d' (by rw[h3,hds];exact Nat.mul_le_mul_right 2 h1)
   rw[hds] at this
   exact this⟩⟩,grownBy_sortedC d'⟩
  ·obtain⟨p1,_,p3⟩:=hperm
   have e1:(d'.extract 0 n)=d':=by rw[<- hds];simp
   have e2:(L.toArray.extract 0 n)=L.toArray:=by rw[hn];simp
   rw[e1,e2] at p3
   simpa using p3
  ·unfold SortedC
   rw[List.pairwise_iff_getElem]
   intro i j hi hj hij
   simp only[Array.length_toList] at hi hj
   have h:=hsort i j (Nat.zero_le _) hij (by omega)
   rw[getElem!_pos d' j hj,getElem!_pos d' i hi] at h
   have h2:=of_decide_eq_false h
   have h3:cmpN (d'[i]).1 (d'[j]).1 = - cfC d'[j] d'[i]:=by
    show cmpN _ _ = - cmpN _ _
    rw[<- cmpN_swap]
   simp only[Array.getElem_toList]
   rw[h3]
   omega
theorem status_walk9 (bt:Nat)(root base:Int)(X:(Nat×Nat)->World->Prop)(R:World->Option Addr->Nat->Nat->World->Prop)(R':Value->World->Prop)(Q:World->Prop)(w:World)(hbt:bt<w.heap.size)
  (c4:∀ W,Below w.heap.size w W->W.cell? ⟨bt,3,none⟩=some (.int .i64 base)/\W.cell? ⟨bt,4,none⟩=some (.string ⟨#[]⟩)/\W.cell? ⟨bt,5,none⟩=some (.int .i64 2)/\W.cell? ⟨bt,6,none⟩=some (.int .i64 root))
  (hout:Calls Tryz.prog 64 #[.pointer (some ⟨bt,0,none⟩)] w fun e w'=>∃ b,e=.returned (.agg #[.pointer (some ⟨bt,0,none⟩),.pointer (some ⟨b.1,0,none⟩),.map (some b.2)])/\X b w'/\Below w.heap.size w w')
  (hcmp:∀ b W W',X b W->Below W.heap.size W W'->W'.heap[W.heap.size]? = some (.cells #[.pointer (some ⟨bt,0,none⟩),.pointer (some ⟨b.1,0,none⟩),.map (some b.2),.slice none 0 0] 172 (0,0))->W'.heap[W.heap.size+1]? = some (.cells #[.string ⟨#[]⟩,.int .i64 2,.int .i64 base] 76 (0,0))->
   Calls Tryz.prog 97 #[.pointer (some ⟨W.heap.size,0,none⟩),.agg #[.string ⟨#[]⟩,.string ⟨#[]⟩,.string ⟨#[]⟩,.string ⟨#[]⟩,.string ⟨#[]⟩],.agg #[.string ⟨#[]⟩,.int .i64 2,.int .i64 root],.agg #[.string ⟨#[]⟩,.int .i64 2,.int .i64 base]] W' fun e w'=>∃ er,e=.returned (.int .i64 er)/\w'.cell? ⟨bt,4,none⟩=some (.string ⟨#[]⟩)/\w'.cell? ⟨bt,5,none⟩=some (.int .i64 2)/\w'.cell? ⟨bt,6,none⟩=some (.int .i64 root)/\w'.heap[W.heap.size+1]? = some (.cells #[.string ⟨#[]⟩,.int .i64 2,.int .i64 base] 76 (0,0))/\((er=0/\∃ a n c,w'.cell? ⟨W.heap.size,3,none⟩=some (.slice a n c)/\R W a n c w')\/(er=14/\Q w')))
  (hsort:∀ W a n c w',R W a n c w'->Calls Tryz.prog 98 #[.slice a n c,.func (.func 99) #[] #[]] w' fun e w''=>e=.returned (.tuple #[])/\w''.cell? ⟨W.heap.size,3,none⟩=w'.cell? ⟨W.heap.size,3,none⟩/\R' (.slice a n c) w''):
  Calls Tryz.prog 53 #[.pointer (some ⟨bt,0,none⟩)] w fun e w'=>∃ v er,e=.returned (.tuple #[v,.int .i64 er])/\((er=0/\R' v w')\/(er=14/\v=.slice none 0 0/\Q w')):=by
 have hrt:=fun W=>root_any W
 have HOUT:Hid _:=hout
 have HCMP:Hid _:=hcmp
 have HSO:Hid _:=hsort
 have HC:Hid _:=c4
 clear hout hcmp c4 hsort
 unfold pathV pathA at hrt
 simp at hrt
 go_enter Tryz.func53,Tryz.ntmps53
 go_wp2_with fail
 refine Calls.mono HOUT.out ?_
 rintro e w1 ⟨⟨dr,ow⟩,rfl,hX,hb1⟩
 simp only
 have HX:Hid _:=hX
 clear hX HOUT
 have hb2:Below w1.heap.size w1 ((w1.alloc (.cells #[.pointer (some ⟨bt,0,none⟩),.pointer (some ⟨dr,0,none⟩),.map (some ow),.slice none 0 0] 172)).alloc (.cells #[.string ⟨#[]⟩,.int .i64 2,.int .i64 base] 76)).drew:=below_drew (((Below.refl _ _).alloc (Nat.le_refl _) _).alloc (by simp) _)
 obtain⟨d3,d4,d5,d6⟩:=HC.out _ (below_via hb1 hb2)
 obtain⟨e3,_,_,_⟩:=HC.out _ hb1
 have hbt1:bt<w1.heap.size:=Nat.lt_of_lt_of_le hbt hb1.size
 have hx0:=heap_alloc2_old w1 (.cells #[.pointer (some ⟨bt,0,none⟩),.pointer (some ⟨dr,0,none⟩),.map (some ow),.slice none 0 0] 172) (.cells #[.string ⟨#[]⟩,.int .i64 2,.int .i64 base] 76)
 have hx1:=heap_alloc2_new w1 (.cells #[.pointer (some ⟨bt,0,none⟩),.pointer (some ⟨dr,0,none⟩),.map (some ow),.slice none 0 0] 172) (.cells #[.string ⟨#[]⟩,.int .i64 2,.int .i64 base] 76)
 have hz:w1.heap.size+2=((w1.alloc (.cells #[.pointer (some ⟨bt,0,none⟩),.pointer (some ⟨dr,0,none⟩),.map (some ow),.slice none 0 0] 172)).alloc (.cells #[.string ⟨#[]⟩,.int .i64 2,.int .i64 base] 76)).drew.heap.size:=by simp
 have HZ:Hid _:=hz
 have hSa:((w1.alloc (.cells #[.pointer (some ⟨bt,0,none⟩),.pointer (some ⟨dr,0,none⟩),.map (some ow),.slice none 0 0] 172)).alloc (.cells #[.string ⟨#[]⟩,.int .i64 2,.int .i64 base] 76)).drew.cell? ⟨w1.heap.size+1,0,none⟩=some (.string ⟨#[]⟩)/\((w1.alloc (.cells #[.pointer (some ⟨bt,0,none⟩),.pointer (some ⟨dr,0,none⟩),.map (some ow),.slice none 0 0] 172)).alloc (.cells #[.string ⟨#[]⟩,.int .i64 2,.int .i64 base] 76)).drew.cell? ⟨w1.heap.size+1,1,none⟩=some (.int .i64 2)/\((w1.alloc (.cells #[.pointer (some ⟨bt,0,none⟩),.pointer (some ⟨dr,0,none⟩),.map (some ow),.slice none 0 0] 172)).alloc (.cells #[.string ⟨#[]⟩,.int .i64 2,.int .i64 base] 76)).drew.cell? ⟨w1.heap.size+1,2,none⟩=some (.int .i64 base)/\((w1.alloc (.cells #[.pointer (some ⟨bt,0,none⟩),.pointer (some ⟨dr,0,none⟩),.map (some ow),.slice none 0 0] 172)).alloc (.cells #[.string ⟨#[]⟩,.int .i64 2,.int .i64 base] 76)).drew.cell? ⟨bt,4,none⟩=some (.string ⟨#[]⟩)/\((w1.alloc (.cells #[.pointer (some ⟨bt,0,none⟩),.pointer (some ⟨dr,0,none⟩),.map (some ow),.slice none 0 0] 172)).alloc (.cells #[.string ⟨#[]⟩,.int .i64 2,.int .i64 base] 76)).drew.cell? ⟨bt,5,none⟩=some (.int .i64 2)/\((w1.alloc (.cells #[.pointer (some ⟨bt,0,none⟩),.pointer (some ⟨dr,0,none⟩),.map (some ow),.slice none 0 0] 172)).alloc (.cells #[.string ⟨#[]⟩,.int .i64 2,.int .i64 base] 76)).drew.cell? ⟨bt,6,none⟩=some (.int .i64 root):=⟨cell_at hx1 0,cell_at hx1 1,cell_at hx1 2,d4,d5,d6⟩
 have HX0:Hid _:=And.intro hx0 hx1
 clear hx0 hx1 hz d3
 go_wp2
 go_region_held3 (fun W=>W.cell? ⟨w1.heap.size+1,0,none⟩=some (.string ⟨#[]⟩)/\W.cell? ⟨w1.heap.size+1,1,none⟩=some (.int .i64 2)/\W.cell? ⟨w1.heap.size+1,2,none⟩=some (.int .i64 base)/\W.cell? ⟨bt,4,none⟩=some (.string ⟨#[]⟩)/\W.cell? ⟨bt,5,none⟩=some (.int .i64 2)/\W.cell? ⟨bt,6,none⟩=some (.int .i64 root))
  (first | exact hSa | exact hSb | exact hSc)
  (first
  | (go_at_call 66;refine (hrt _).mono ?_;rintro e w2 ⟨rfl,hb3⟩;have hb23:=below_via hb2 hb3;obtain⟨_,f4,f5,f6⟩:=HC.out _ (below_via hb1 hb23);have hSb:=And.intro (((bcell hb3).1 (w1.heap.size+1) 0 (Nat.lt_of_lt_of_eq (by omega) HZ.out)).trans hSa.1) (And.intro (((bcell hb3).1 (w1.heap.size+1) 1 (Nat.lt_of_lt_of_eq (by omega) HZ.out)).trans hSa.2.1) (And.intro (((bcell hb3).1 (w1.heap.size+1) 2 (Nat.lt_of_lt_of_eq (by omega) HZ.out)).trans hSa.2.2.1) (And.intro f4 (And.intro f5 f6))));have HCM:Hid _:=HCMP.out (dr,ow) _ _ HX.out hb23 ((hb3.block w1.heap.size (Nat.lt_of_lt_of_eq (by omega) HZ.out)).trans HX0.out.1) ((hb3.block (w1.heap.size+1) (Nat.lt_of_lt_of_eq (by omega) HZ.out)).trans HX0.out.2))
  | (go_at_call 97;refine Calls.mono HCM.out ?_;rintro e w3 ⟨er,rfl,f4',f5',f6',hx3,hE⟩;have hSc:=And.intro (cell_at hx3 0) (And.intro (cell_at hx3 1) (And.intro (cell_at hx3 2) (And.intro f4' (And.intro f5' f6'))));have HE:Hid _:=hE;clear hE hx3))
 all_goals
  rcases HE.out with ⟨rfl,fa,fn,fcp,hc3,hR⟩ | ⟨rfl,hQ⟩
  ·have HS3:Hid _:=HSO.out _ _ _ _ _ hR
   clear HE hR
   go_wp2_with fail
   refine Calls.mono HS3.out ?_
   rintro e w4 ⟨rfl,hc4,hR'⟩
   rw[hc3] at hc4
   go_wp2
   go_ret2
   exact⟨_,0,rfl,.inl ⟨rfl,hR'⟩⟩
  ·have HQ:Hid _:=hQ
   clear HE hQ
   go_wp2
   go_ret2
   exact⟨_,14,rfl,.inr ⟨rfl,rfl,HQ.out⟩⟩
section
variable {s i p:Nat}{B:WB}{objs:List Ob}
def Told8 (objs:List Ob)(fl:Nat->Option (Int×ByteArray))(t:LT)(base:Int)(L:List Chg8):Prop:=L.Perm ((cmpL objs (fcOf objs fl) fcE 5 [] (some t) (some (.dir base))).map encP)/\SortedC L
theorem status_any {tg:Tags}{w:World}{g:WG}{lim:Nat}{t:LT}(h:Base8 tg w s i p B objs g lim t)(hok:LTok objs 5 t)(hOn:Once objs)(hfew:objs.length+2*cntO 5 t<3000)(hbase:LTok objs 5 (.dir g.base))(hl:lim+110000000<1099511627776):
  Calls Tryz.prog 53 #[.pointer (some ⟨B.bt,0,none⟩)] w fun e w'=>∃ v er,e=.returned (.tuple #[v,.int .i64 er])/\∃ tg' fs',Moves (Fetches i) tg tg' w w'/\WInv tg' w' s i p B objs { g with fs:=fs' } (lim+110000000)/\
   ((er=0/\g.fs.Next fs'/\∃ L,Told8 objs g.fl t g.base L/\w'.ownsRow 0 58 2 v L.length (flatC L)/\∀ b,v.ownBlock=some b->w.heap.size<=b/\tg' b=(0,0))\/(er=14/\v=.slice none 0 0/\g.fs.Fail fs')):=by
 have hi:=h.inv.two
 have hS:=h.exact.sound
 obtain⟨hbt,c0,_,_⟩:=h.tree (Below.refl _ _)
 have hob:=objR_ok g.fl 5 (Nat.le_refl _) t objs h.exact hok h.flSz
 have hXa:=hob.dr.exact h.exact
 have hOa:=hob.dr.once hOn
 obtain⟨l,hal⟩:=hob.dr.app
 have hrd:=objR_reads g.fl fcE 5 (Nat.le_refl _) t objs h.exact hok h.flSz
 have hkt:=h.flat.kind
 have hcB:cB 5<=109999999:=by decide
 -- which object the root is
 have hroot:(objR g.fl 5 t objs).1=g.base ↔ ∀ y,sem objs (fcOf objs g.fl) t y=sem objs fcE (.dir g.base) y:=by
  have hba:LTok (objR g.fl 5 t objs).2 5 (.dir g.base):=by rw[hal];exact LTok_app l 5 _ hbase
  have:=obj_iff (c:=t) (u:=.dir g.base) hXa hOa (ltok_five (Nat.le_refl _) hob.kind hob.high (lt_kind12 t)) hrd hba (.inr ⟨_,rfl⟩) hkt
  rw[show (LT.dir g.base).id=g.base from rfl] at this
  rw[this]
  have hsu:∀ y,sem (objR g.fl 5 t objs).2 fcE (.dir g.base) y=sem objs fcE (.dir g.base) y:=fun y=>by rw[hal];exact sem_app hS l fcE y 5 _ hbase
  exact⟨fun hh y=>(hh y).trans (hsu y),fun hh y=>(hh y).trans (hsu y).symm⟩
 obtain⟨a,hadef⟩:∃ a,a=(objR g.fl 5 t objs).2:=⟨_,rfl⟩
 rw[<- hadef] at hXa hOa hal
 refine (status_walk9 B.bt g.ft.root g.base (fun b W=>∃ D mf md,OSt w p objs D W ⟨b.1,mf,md⟩ b.2 objs (fun _=>none) objs.length)
  (fun W fa fn fcp w'=>∃ tg' fs' dr ow L,Moves (FetchS i) (clean tg) tg' w w'/\CSt tg' w' s i p B objs { g with fs:=fs' } (lim+cB 5) W.heap.size dr ow t a L/\w'.heap[W.heap.size]? = some (.cells #[ptr B.bt,ptr dr,.map (some ow),.slice fa fn fcp] 172 (0,0))/\g.fs.Next fs'/\L=(cmpL objs (fcOf objs g.fl) fcE 5 [] (some t) (some (.dir g.base))).map encP)
  (fun v w'=>∃ tg' fs',Moves (Fetches i) tg tg' w w'/\WInv tg' w' s i p B objs { g with fs:=fs' } (lim+110000000)/\g.fs.Next fs'/\∃ L,Told8 objs g.fl t g.base L/\w'.ownsRow 0 58 2 v L.length (flatC L)/\∀ b,v.ownBlock=some b->w.heap.size<=b/\tg' b=(0,0))
  (fun w'=>∃ tg' fs',Moves (Fetches i) tg tg' w w'/\WInv tg' w' s i p B objs { g with fs:=fs' } (lim+110000000)/\g.fs.Fail fs') w hbt (fun W hb=>?_) ((outline_any objs hbt c0).mono ?_) ?_ ?_).mono ?_
 ·have ht:=(h.inv.below hb).wp.tree.ht
  exact⟨cell_at ht 3,cell_at ht 4,cell_at ht 5,cell_at ht 6⟩
 ·rintro e w' ⟨⟨dr,mf,md⟩,ow,D,he,hO,hb⟩
  exact⟨(dr,ow),he,⟨D,mf,md,hO⟩,hb⟩
 ·-- compare at the root
  rintro ⟨dr,ow⟩ W W' ⟨D,mf,md,hO⟩ hb hbx hbx1
  have hO':=hO.via hb
  have hsv:W.heap.size<W'.heap.size:=(Array.getElem?_eq_some_iff.1 hbx).1
  have hsv1:W.heap.size+1<W'.heap.size:=(Array.getElem?_eq_some_iff.1 hbx1).1
  have hww:w.heap.size<=W.heap.size:=hO.below.size
  have hfr:=h.inv.st.fresh
  have key:=compare_step (s:=s) (i:=i) (p:=p) (B:=B) (objs:=objs) (sv:=W.heap.size) (dr:=dr) (ow:=ow) (t:=t) (a:=a) (g:=g) (K:=[(W.heap.size+1,.cells #[.string ⟨#[]⟩,.int .i64 2,.int .i64 g.base] 76 (0,0))]) (n:=5) (cb:=cB 4) hS hi h.flat (Nat.le_refl _) (q:=[]) (now:=some t) (was:=some (.dir g.base)) (fun c hc=>by cases hc;exact hok) (fun c hc=>by cases hc;exact hbase) (fun c hc=>by cases hc;exact .inr ⟨_,rfl⟩) (fun c hc=>by cases hc;exact at_nil objs t) ⟨(fun x hx=>by cases hx),by simp⟩ (by simp) ⟨#[]⟩ ⟨#[]⟩ (by
    have h1:=kidsO_few (n:=5) hS (show OkO objs 5 (some t) from fun c hc=>by cases hc;exact hok)
    have h2:=kidsO_few (n:=5) hS (show OkO objs 5 (some (LT.dir g.base)) from fun c hc=>by cases hc;exact hbase)
    have:((kidsO objs (some t)).length+(kidsO objs (some (.dir g.base))).length)*cB 4<=32*cB 4:=Nat.mul_le_mul_right _ (by omega)
    have e5:cB 5=3+32*cB 4:=rfl
    rw[e5];omega) (tg:=clean tg) (w0:=w) (w:=W') (fs:=g.fs) (lim:=lim) (L:=[]) (by omega) hsv (cell_at hbx 0) (cell_at hbx 1) (cell_at hbx 2) (objR g.fl 5 t objs).1 (fun _=>hroot) (fun _ W2 hb2 hB2=>?_) (fun hne=>absurd hkt hne) (fun x hx tg' w' fs' lim' L' h' hl'=>?_)
  ·rw[show entV (entO ⟨#[]⟩ (some t))=.agg #[.string ⟨#[]⟩,.int .i64 2,.int .i64 g.ft.root] by show Value.agg #[.string ⟨#[]⟩,.int .i64 t.kind,.int .i64 t.id]=_;rw[hkt,h.flat.root]] at key
   refine Calls.mono key ?_
   rintro e w' ⟨er,he,tg',fs',L',m,hslc,hkp,hC,hcase⟩
   have ht:=hC.inv.wp.tree.ht
   refine⟨er,he,cell_at ht 4,cell_at ht 5,cell_at ht 6,(hkp _ (List.mem_singleton.2 rfl)).1,?_⟩
   rcases hcase with ⟨rfl,hN,hL⟩ | ⟨rfl,hFa⟩
   ·obtain⟨hts,fa,fcp,hsb,hrow,htag⟩:=hC.surv
    rw[List.nil_append] at hL
    exact .inl ⟨rfl,fa,_,fcp,by simp[World.cell?,hsb],tg',fs',dr,ow,L',m,hC,hsb,hN,hL⟩
   ·obtain⟨tg2,m2,hW2,_⟩:=survey_ends m hi hfr hC.inv
    exact .inr ⟨rfl,tg2,fs',m2,hW2.mono (by omega),hFa⟩
  ·-- the root's object works all out
   have hO2:=hO'.via hb2
   have hall:=object_all9 h (b:=⟨dr,mf,md⟩) (ow:=ow) 5 (Nat.le_refl _) t [] hok (at_nil objs t) ⟨(fun x hx=>by cases hx),by simp⟩ (by simp) ⟨#[]⟩ D W2 objs (fun _=>none) objs.length hO2 .nil (fun _ _=>rfl) hfew
   refine Calls.mono hall ?_
   rintro e w3 ⟨he,D',f',h1,h2,h3,h4⟩
   rw[<- hadef] at h1 h4
   have hkeep:∀ k,W.heap.size<=k->k<W2.heap.size->w3.heap[k]? = W2.heap[k]?:=fun k hk1 hk2=>h2.keeps.block k hk2 (fun hd=>by have:=(hO.inb k hd).2;omega)
   have hsz3:W2.heap.size<=w3.heap.size:=h2.keeps.size
   have hB3:W.heap.size<W2.heap.size:=Nat.lt_of_lt_of_le hsv hb2.size
   have hz2:=hB2.1
   have hbx2:w3.heap[W.heap.size]? = some (.cells #[ptr B.bt,ptr dr,.map (some ow),.slice none 0 0] 172 (0,0)):=by
    rw[hkeep _ (Nat.le_refl _) hB3,hb2.block _ hsv];exact hbx
   have hfc:Fresh (clean tg) w:=clean_fresh hfr
   have htow:ow≠W.heap.size:=fun e=>by have:=(hO.inb ow (.inr rfl)).2;omega
   obtain⟨nn,_,hpm⟩:=h1.map
   have hsz0:w.heap.size<=w3.heap.size:=h1.below.size
   have hft:Fresh (tagAt (clean tg) W.heap.size (0,1)) w3:=fun k hk=>by rw[tagAt_other (by omega)];exact hfc k (by omega)
   refine⟨he,⟨tagAt (clean tg) W.heap.size (0,1),⟨h1.below.os,h1.below.tape,h1.below.output,hsz0,fun k hk=>tagAt_other (by omega) _,fun k hk _=>h1.below.block k hk,fun _=>hft⟩,fun v es hv=>?_,⟨?_,⟨tagAt_same _ _ _,none,0,hbx2,⟨rfl,.inl ⟨rfl,rfl⟩⟩,fun b hb=>by cases hb⟩,⟨f',nn,hpm,fun q=>h4 q (List.nil_prefix) (fun e=>by cases e)⟩,?_,Nat.zero_le _⟩,fun x hx=>?_,fun j hj=>⟨by omega,?_⟩⟩,hB2.keep hsz3 (fun j hj o=>World.cell?_of_block (a:=⟨W'.heap.size+j,o,none⟩) (hkeep (W'.heap.size+j) (by omega) (by omega))),fun o=>World.cell?_of_block (a:=⟨W.heap.size,o,none⟩) (hkeep _ (Nat.le_refl _) hB3)⟩
   ·have hb3:=hv.below h1.below
    exact⟨hb3.1,fun b hb=>by rw[tagAt_other (by have:=ownsRow_lt hv.1 hb;omega)];exact hv.2 b hb⟩
   ·exact (h.inv.below h1.below).retag hft (fun k hk=>by
     rw[tagAt_other (fun e=>by rw[e,hfr _ (by omega)] at hk;exact hk rfl),clean_own hk])
   ·rw[tagAt_other htow];exact hfc ow (hO.inb ow (.inr rfl)).1
   ·rw[List.mem_singleton.1 hx]
    refine⟨?_,?_⟩
    ·rw[hkeep (W.heap.size+1) (by omega) (by have:=hb2.size;omega),hb2.block _ hsv1];exact hbx1
    ·rw[tagAt_other (by simp)];exact hfc _ (by omega)
   ·rw[tagAt_other (by omega)];exact hfc _ (by omega)
  ·-- below the root
   have hv:validB x=true/\Good ([] ++ [x]):=by
    have hv:validB x=true:=by
     rcases hx with hx | hx
     ·obtain⟨c,hc⟩:=Option.ne_none_iff_exists'.1 hx
      exact kidsO_valid (n:=5) hS (fun c hc=>by cases hc;exact hok) _ (pick_in8 hc)
     ·obtain⟨c,hc⟩:=Option.ne_none_iff_exists'.1 hx
      exact kidsO_valid (n:=5) hS (fun c hc=>by cases hc;exact hbase) _ (pick_in8 hc)
    exact⟨hv,fun y hy=>by simp at hy;rw[hy];exact hv,by simp⟩
   exact compare_all hal hXa hOa hS h.flat 4 (by omega) ([] ++ [x]) _ _ (pickO_ok hS (fun c hc=>by cases hc;exact hok) x) (pickO_ok hS (fun c hc=>by cases hc;exact hbase) x) (stored_kidO (fun c hc=>by cases hc;exact .inr ⟨_,rfl⟩) x) (fun c hc=>at_kidO (fun c hc=>by cases hc;exact at_nil objs t) hc) hx hv.2 (by simp) x x tg' w' fs' lim' L' h' hl'
 ·-- the sort
  rintro W fa fn fcp w' ⟨tg',fs',dr,ow,L,m,hC,hsb,hN,rfl⟩
  obtain⟨hts,fa',fcp',hsb',hrow,htag⟩:=hC.surv
  rw[hsb] at hsb'
  obtain⟨rfl,rfl,rfl⟩:fa=fa'/\fn=((cmpL objs (fcOf objs g.fl) fcE 5 [] (some t) (some (.dir g.base))).map encP).length/\fcp=fcp':=by
   injection hsb' with e;injection e with e1;simp at e1;rw[List.length_map];exact e1
  have hfew':=hC.few
  have hne:some W.heap.size≠(Value.slice fa ((cmpL objs (fcOf objs g.fl) fcE 5 [] (some t) (some (.dir g.base))).map encP).length fcp).ownBlock:=owns_ne_cells hrow hsb (by decide)
  refine (sortC_any hrow rfl (by omega)).mono ?_
  rintro e w'' ⟨he,L',hperm,hsorted,hrow',hg⟩
  have hlt:W.heap.size<w'.heap.size:=(Array.getElem?_eq_some_iff.1 hsb).1
  have m2:Moves (FetchS i) tg' tg' w' w'':=⟨hg.os,hg.tape,hg.output,hg.size,fun _ _=>rfl,fun k hk hn=>hg.block k hk (fun e=>hn (.inr (htag k e.symm))),fun hf k hk=>hf k (Nat.le_trans hg.size hk)⟩
  have m3:Moves (fun t=>t=(0,1)) tg' tg' w' w'':=⟨hg.os,hg.tape,hg.output,hg.size,fun _ _=>rfl,fun k hk hn=>hg.block k hk (fun e=>hn (htag k e.symm)),fun hf k hk=>hf k (Nat.le_trans hg.size hk)⟩
  have hW'':WInv tg' w'' s i p B objs { g with fs:=fs' } (lim+cB 5):=⟨hi,hC.inv.st.moves m3 (fun e=>by cases e) (fun e=>by cases e),hC.inv.wp.moves m3 (fun k e=>by cases e;omega)⟩
  obtain⟨tg2,k1,k2,k3⟩:=survey_ends (m.trans m2) hi h.inv.st.fresh hW''
  refine⟨he,World.cell?_of_block (a:=⟨W.heap.size,3,none⟩) (hg.block _ hlt hne),tg2,fs',k1,k2.mono (by omega),hN,L',⟨hperm,hsorted⟩,?_,fun b hb=>k3 b (htag b hb)⟩
  rw[hperm.length_eq]
  exact hrow'
 ·rintro e w' ⟨v,er,he,⟨rfl,tg',fs',h1,h2,h3⟩ | ⟨rfl,hv,tg',fs',h1,h2,h3⟩⟩
  ·exact⟨v,0,he,tg',fs',h1,h2,.inl ⟨rfl,h3⟩⟩
  ·exact⟨v,14,he,tg',fs',h1,h2,.inr ⟨rfl,hv,h3⟩⟩
end
section
variable {a:List Ob}{fl:Nat->Option (Int×ByteArray)}{t:LT}{base:Int}{L:List Chg8}
variable (hS:Sound a)(ht:LTok a 5 t)(hu:LTok a 5 (.dir base))(kt:t.kind=2)(h:Told8 a fl t base L)
include hS ht hu kt h
theorem told_path {x:Chg8}(hx:x ∈ L):∃ y,x.1=joinB y/\y ≠ []/\Good y/\chgAt (sem a (fcOf a fl) t) (sem a fcE (.dir base)) y=some x.2:=by
 obtain⟨z,hz,rfl⟩:=List.mem_map.1 (h.1.mem_iff.1 hx)
 obtain⟨z',e,hc⟩:=(cmp_mem hS 5 [] (some t) (some (.dir base)) (fun c hc=>by cases hc;exact ht) (fun c hc=>by cases hc;exact hu) z.1 z.2).1 hz
 rw[List.nil_append] at e
 have hc':chgAt (sem a (fcOf a fl) t) (sem a fcE (.dir base)) z.1=some z.2:=by rw[e];exact hc
 refine⟨z.1,rfl,fun e0=>?_,?_,hc'⟩
 ·rw[e0,chg_root kt rfl] at hc';cases hc'
 ·rcases chg_some hc' with ⟨_,x,hs⟩ | ⟨_,x,hs⟩
  ·exact sem_good hS ht hs
  ·exact sem_good hS hu hs
theorem told_rising:L.Pairwise fun x y=>cmpN x.1 y.1<0:=by
 have hne:L.Pairwise fun x y=>x.1≠y.1:=by
  have hnd:(L.map (·.1)).Nodup:=by
   refine (h.1.map (·.1)).nodup_iff.2 ?_
   rw[List.map_map]
   have hon:=cmp_once (fc:=fcOf a fl) (fc':=fcE) hS 5 [] (some t) (some (.dir base)) (fun c hc=>by cases hc;exact ht) (fun c hc=>by cases hc;exact hu)
   refine List.pairwise_map.2 (List.Pairwise.imp_of_mem ?_ hon)
   intro x y hx hy hxy e
   obtain⟨p1,e1,n1,g1,_⟩:=told_path hS ht hu kt h (h.1.mem_iff.2 (List.mem_map_of_mem hx))
   obtain⟨p2,e2,n2,g2,_⟩:=told_path hS ht hu kt h (h.1.mem_iff.2 (List.mem_map_of_mem hy))
   have hx':=(cmp_mem hS 5 [] (some t) (some (.dir base)) (fun c hc=>by cases hc;exact ht) (fun c hc=>by cases hc;exact hu) x.1 x.2).1 hx
   have hy':=(cmp_mem hS 5 [] (some t) (some (.dir base)) (fun c hc=>by cases hc;exact ht) (fun c hc=>by cases hc;exact hu) y.1 y.2).1 hy
   have key:∀ z:List ByteArray×Int,(∃ z',z.1 = []++z'/\chgAt (semO a (fcOf a fl) (some t)) (semO a fcE (some (.dir base))) z'=some z.2)->z.1 ≠ []/\Good z.1:=by
    rintro z ⟨z',e,hc⟩
    rw[List.nil_append] at e
    have hc':chgAt (sem a (fcOf a fl) t) (sem a fcE (.dir base)) z.1=some z.2:=by rw[e];exact hc
    refine⟨fun e0=>?_,?_⟩
    ·rw[e0,chg_root kt rfl] at hc';cases hc'
    ·rcases chg_some hc' with ⟨_,x,hs⟩ | ⟨_,x,hs⟩
     ·exact sem_good hS ht hs
     ·exact sem_good hS hu hs
   obtain⟨a1,a2⟩:=key x hx'
   obtain⟨b1,b2⟩:=key y hy'
   exact hxy (joinB_inj a1 b1 a2.val b2.val e)
  exact List.pairwise_map.1 hnd
 refine (hne.and h.2).imp ?_
 rintro x y ⟨h1,h2⟩
 by_cases h0:cmpN x.1 y.1=0
 ·exact absurd (cmpN_zero h0) h1
 ·omega
end
end Go.Proofs.YtajopoddmfdejaaGreat
