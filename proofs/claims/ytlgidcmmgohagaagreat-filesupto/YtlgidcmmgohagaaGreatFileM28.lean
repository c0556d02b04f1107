/- What is proved here: canopykeep's put and do. -/
import Derived.Test.YtlgidcmmgohagaaGreatFileM27
import Derived.Deep.RegionHeld3
import Derived.Test.YtlgidcmmgohagaaGreatFileM06
import Derived.Test.YtlgidcmmgohagaaGreatFileM25
import Derived.Test.YtlgidcmmgohagaaGreatFileM26
import Derived.Test.YtlgidcmmgohagaaGreatFileM07
import Derived.Shelf.Small.Bits
import Derived.Shelf.Small.Strs
import Derived.Shelf.Strconv.Itoa0
import Derived.Shelf.LaysM
import Derived.Shelf.Strconv.Clone
import Derived.Shelf.Strings.Search1
import Derived.Shelf.Strings.Search2
import Derived.Shelf.Strings.Cut
import Derived.Shelf.Strings.Shaped
import Derived.Shelf.SlGeneric
import Derived.Shelf.SlSortCmp.SmallK
import Derived.Ground.SlsfProg
import Derived.Test.YtlgidcmmgohagaaGreatProg
import Derived.Shelf.SlSortCmp.NoneTotal
import Derived.Maps.AppendAt
import Derived.Test.YtlgidcmmgohagaaGreatRows
import Derived.Deep.Slices
import Derived.Deep.Strs
import Derived.ChangeShapes
import Derived.WalkLawsBesides
import Derived.Test.YtlgidcmmgohagaaGreatFileM10
import Derived.Test.YtlgidcmmgohagaaGreatFileM17
import Derived.Test.YtlgidcmmgohagaaGreatFileM16
import Derived.Test.YtlgidcmmgohagaaGreatFileM14
namespace Go.Proofs.YtlgidcmmgohagaaGreat
open Go.RowKit Go.Sort Go.Shelf
set_option linter.unusedVariables false
set_option maxRecDepth 100000
set_option maxHeartbeats 16000000
section
variable {s i p:Nat}{B:WB}{objs:List Ob}
end
def big (objs:List Ob):Nat->LT->Nat
 | 0,_=>1
 | n+1,t=>1+(((kids objs t).getD []).map fun x=>big objs n x.2).sum
theorem look_at {objs:List Ob}{t:LT}{fs:FS}{r:List ByteArray}(h:(lookR objs t fs r).2.1=0):∃d,t.at objs r.reverse=some d/\kids objs d=some (lookR objs t fs r).2.2:=by
 exact (kept_of_look h).1
def HeldInj (objs:List Ob)(t:LT):Prop:=∀x y b,t.at objs x=some (.held b)->t.at objs y=some (.held b)->x=y
theorem at_kid {objs:List Ob}{t d:LT}{q:List ByteArray}{ks:Kids}(ha:t.at objs q=some d)(hk:kids objs d=some ks)(m:ByteArray)(r:List ByteArray):t.at objs (q++m :: r)=(pickK ks m).bind fun c=>c.at objs r:=by
 rw[at_append,ha,Option.bind_some,at_cons,hk,Option.bind_some]
theorem drop_held {objs:List Ob}{t d:LT}{q:List ByteArray}{ks:Kids}{n:ByteArray}(hr:RisingK ks)(ha:t.at objs q=some d)(hk:kids objs d=some ks)(ht:thereK ks n=true){x:List ByteArray}{b:Nat}(h:(modG objs (fun ks=>dropK ks n) q t).at objs x=some (.held b)):t.at objs x=some (.held b)/\¬q ++ [n] <+: x:=by
 rcases held_mod _ ha hk h with ⟨m,r,rfl,h1⟩ | ⟨h1,h2⟩
 ·rw[pick_drop hr ht] at h1
  by_cases e:m=n
  ·rw[zzD e] at h1;simp at h1
  ·rw[zzB e] at h1
   refine⟨by rw[at_kid ha hk];exact h1,?_⟩;rintro ⟨l,hl⟩;rw[List.append_assoc] at hl
   have:=List.append_cancel_left hl
   simp at this;exact e this.1.symm
 ·exact⟨h2,fun hp=>h1 ((List.prefix_append _ _).trans hp)⟩
theorem put_held {objs:List Ob}{t d c:LT}{q:List ByteArray}{ks:Kids}{n:ByteArray}(hr:RisingK ks)(ha:t.at objs q=some d)(hk:kids objs d=some ks){x:List ByteArray}{b:Nat}(h:(modG objs (fun ks=>putK ks n c) q t).at objs x=some (.held b)):(∃r,x=q++n :: r/\c.at objs r=some (.held b))\/(t.at objs x=some (.held b)/\¬q ++ [n] <+: x):=by
 rcases held_mod _ ha hk h with ⟨m,r,rfl,h1⟩ | ⟨h1,h2⟩
 ·rw[pick_put hr] at h1
  by_cases e:m=n
  ·rw[zzD e,Option.bind_some] at h1
   subst e;exact .inl ⟨r,rfl,h1⟩
  ·rw[zzB e] at h1
   refine .inr ⟨by rw[at_kid ha hk];exact h1,?_⟩;rintro ⟨l,hl⟩;rw[List.append_assoc] at hl
   have:=List.append_cancel_left hl
   simp at this;exact e this.1.symm
 ·exact .inr ⟨h2,fun hp=>h1 ((List.prefix_append _ _).trans hp)⟩
theorem inj_put {objs:List Ob}{t d c:LT}{q:List ByteArray}{ks:Kids}{n:ByteArray}(hi:HeldInj objs t)(hr:RisingK ks)(ha:t.at objs q=some d)(hk:kids objs d=some ks)(hc:HeldInj objs c)(hf:∀r b y,c.at objs r=some (.held b)->t.at objs y=some (.held b)->q ++ [n] <+: y):HeldInj objs (modG objs (fun ks=>putK ks n c) q t):=by
 intro x y b hx hy;rcases put_held hr ha hk hx with ⟨r,rfl,h1⟩ | ⟨h1,h2⟩ <;> rcases put_held hr ha hk hy with ⟨r',rfl,k1⟩ | ⟨k1,k2⟩
 ·rw[hc r r' b h1 k1]
 ·exact absurd (hf r b y h1 k1) k2
 ·exact absurd (hf r' b x k1 h1) h2
 ·exact hi x y b h1 k1
theorem inj_drop {objs:List Ob}{t d:LT}{q:List ByteArray}{ks:Kids}{n:ByteArray}(hi:HeldInj objs t)(hr:RisingK ks)(ha:t.at objs q=some d)(hk:kids objs d=some ks)(ht:thereK ks n=true):HeldInj objs (modG objs (fun ks=>dropK ks n) q t):=fun x y b hx hy=>hi x y b (drop_held hr ha hk ht hx).1 (drop_held hr ha hk ht hy).1
theorem own_none (objs:List Ob)(r:List ByteArray)(b:Nat):(LT.own []).at objs r≠some (.held b):=by
 cases r with
 | nil=>rw[at_nil];intro h;cases h
 | cons m r=>rw[at_cons];simp[kids,pickK]
theorem inj_mkdir {objs:List Ob}(hS:Sound objs){t:LT}(hok:LTok objs 5 t)(hi:HeldInj objs t)(fs:FS)(n:ByteArray)(r:List ByteArray):HeldInj objs (mkdirR objs t fs (n :: r)).2.2:=by
 unfold mkdirR;simp only;split
 ·exact hi
 ·rename_i h0
  split
  ·exact hi
  ·split
   ·exact hi
   ·obtain⟨d,ha,hk⟩:=look_at (Decidable.not_not.1 h0)
    obtain⟨_,hd,_⟩:=ok_at hS _ hok ha;exact inj_put hi (ok_kids hS hd hk).1 ha hk (fun x y b hx=>absurd hx (own_none objs x b)) (fun r b y h=>absurd h (own_none objs r b))
theorem inj_remove {objs:List Ob}(hS:Sound objs){t:LT}(hok:LTok objs 5 t)(hi:HeldInj objs t)(fs:FS)(n:ByteArray)(r:List ByteArray):HeldInj objs (removeR objs t fs (n :: r)).2.2:=by
 unfold removeR;simp only;split
 ·exact hi
 ·rename_i hf
  split
  ·exact hi
  ·obtain⟨a,_,_,d,ks,h1,h2,h3⟩:=find_way (objs:=objs) (t:=t) (fs:=fs) (n:=n) (r:=r) (fs':=(findR objs t fs (n :: r)).1) (c:=(findR objs t fs (n :: r)).2.2) (by rw[<-Decidable.not_not.1 hf])
   obtain⟨_,hd,_⟩:=ok_at hS _ hok h1;have hr:=(ok_kids hS hd h2).1;exact inj_drop hi hr h1 h2 (by rw[<-pick_there hr,h3];rfl)
theorem inj_rename {objs:List Ob}(hS:Sound objs){t:LT}(hok:LTok objs 5 t)(hi:HeldInj objs t)(fs:FS)(n m:ByteArray)(r q:List ByteArray):HeldInj objs (renameR objs t fs (n :: r) (m :: q)).2.2:=by
 unfold renameR;simp only;split
 ·exact hi
 ·rename_i hf
  split
  ·exact hi
  ·rename_i hpre
   split
   ·exact hi
   ·rename_i hlk
    split
    ·exact hi
    ·split
     ·exact hi
     ·obtain⟨a,_,_,d,ks,h1,h2,h3⟩:=find_way (objs:=objs) (t:=t) (fs:=fs) (n:=n) (r:=r) (fs':=(findR objs t fs (n :: r)).1) (c:=(findR objs t fs (n :: r)).2.2) (by rw[<-Decidable.not_not.1 hf])
      generalize (findR objs t fs (n :: r)).2.2=c at a h3 ⊢;obtain⟨_,hd,_⟩:=ok_at hS _ hok h1;have hr:=(ok_kids hS hd h2).1;have hth:thereK ks n=true:=by rw[<-pick_there hr,h3];rfl
      have hac:t.at objs (r.reverse ++ [n])=some c:=(by rw[at_kid h1 h2,h3,Option.bind_some,at_nil]);have hsub:∀x b,c.at objs x=some (.held b)->t.at objs ((r.reverse ++ [n])++x)=some (.held b):=fun x b hx=>by rw[at_append,hac,Option.bind_some];exact hx
      have hlk0:(lookR objs t (findR objs t fs (n :: r)).1 q).2.1=0:=Decidable.not_not.1 (fun h=>hlk (.inl h));obtain⟨dt,hat,hkt⟩:=look_at hlk0;have hnp:¬(r.reverse ++ [n]) <+: q.reverse:=by
       intro h;refine hpre ⟨?_,fun e=>hlk (.inr e)⟩;rw[List.reverse_cons,List.reverse_cons];exact h.trans (List.prefix_append _ _)
      obtain⟨d1,k1,hat1,hkt1,_⟩:=drop_dir hr h1 h2 hth hat hkt hnp;have hok1:=drop_ok hS hok h1 h2 n;obtain⟨_,hd1,_⟩:=ok_at hS _ hok1 hat1;refine inj_put (inj_drop hi hr h1 h2 hth) (ok_kids hS hd1 hkt1).1 hat1 hkt1 (fun x y b hx hy=>?_) (fun x b y hx hy=>?_)
      ·exact List.append_cancel_left (hi _ _ b (hsub x b hx) (hsub y b hy))
      ·obtain⟨hy1,hy2⟩:=drop_held hr h1 h2 hth hy
       have:=hi _ _ b (hsub x b hx) hy1
       exact absurd ⟨x,this⟩ hy2
theorem shF_new (f:Fn)(vs:Array Value)(w:World):Calls Tryz.prog 114 #[.func f vs #[]] w fun e w'=>e=.returned (.pointer (some ⟨w.heap.size+1,0,none⟩))/\w'=(w.alloc (.map #[] 0)).alloc (.cells #[.func f vs #[],.map (some w.heap.size)] 267):=by
 have hmm:=@run_makeMap Tryz.prog;go_enter Tryz.func114,Tryz.ntmps114;go_wp2;go_ret;exact⟨rfl,rfl⟩
theorem shD_new (f:Fn)(vs:Array Value)(w:World):Calls Tryz.prog 116 #[.func f vs #[]] w fun e w'=>e=.returned (.pointer (some ⟨w.heap.size+1,0,none⟩))/\w'=(w.alloc (.map #[] 0)).alloc (.cells #[.func f vs #[],.map (some w.heap.size)] 271):=by
 have hmm:=@run_makeMap Tryz.prog;go_enter Tryz.func116,Tryz.ntmps116;go_wp2;go_ret;exact⟨rfl,rfl⟩
def treeMem (w:World)(p:Nat)(root:Int):World:=((((((w.alloc (.map #[] 0)).alloc (.cells #[.func (.func 115) #[ptr p] #[],.map (some w.heap.size)] 267)).alloc (.map #[] 0)).alloc (.cells #[.func (.func 117) #[ptr p] #[],.map (some (w.heap.size+2))] 271)).alloc (.map #[] 0)).alloc (.map #[] 0)).alloc (.cells #[ptr p,ptr (w.heap.size+1),ptr (w.heap.size+3),.int .i64 root,.string ⟨#[]⟩,.int .i64 2,.int .i64 root,.map (some (w.heap.size+4)),.map (some (w.heap.size+5))] 164)
theorem tnew_any (p:Nat)(root:Int)(w:World):Calls Tryz.prog 62 #[.pointer (some ⟨p,0,none⟩),.int .i64 root] w fun e w'=>e=.returned (.pointer (some ⟨w.heap.size+6,0,none⟩))/\w'=treeMem w p root:=by
 have h1:=fun vs W=>shF_new (.func 115) vs W;have h2:=fun vs W=>shD_new (.func 117) vs W;have hmm:=@run_makeMap Tryz.prog;go_enter Tryz.func62,Tryz.ntmps62;go_wp2_with (first
  | (go_at_call 114;refine Calls.mono (h1 _ _) ?_;rintro e w1 ⟨rfl,rfl⟩)
  | (go_at_call 116;refine Calls.mono (h2 _ _) ?_;rintro e w1 ⟨rfl,rfl⟩))
 go_ret;exact⟨rfl,rfl⟩
def wsMem (w:World)(p:Nat)(root:Int):World:=(treeMem w p root).alloc (.cells #[ptr (w.heap.size+6),.pointer none,.pointer none,.pointer none,.pointer none,.pointer none,.pointer none,.pointer none,.pointer none] 91)
theorem checkout_walk (s p:Nat)(id:Int)(w:World)(hs:s<w.heap.size)(c0:w.cell? ⟨s,0,none⟩=some (.pointer (some ⟨p,0,none⟩)))(hk:Calls Tryz.prog 61 #[.pointer (some ⟨p,0,none⟩),.int .i64 id] w fun e w'=>e=.returned (.int .i64 2)/\Below w.heap.size w w'):
  Calls Tryz.prog 27 #[.pointer (some ⟨s,0,none⟩),.int .i64 id] w fun e w'=>∃w1,Below w.heap.size w w1/\e=.returned (.tuple #[.pointer (some ⟨w1.heap.size+7,0,none⟩),.int .i64 0])/\w'=wsMem w1 p id:=by
 have htn:=fun W=>tnew_any p id W;have hts:∀W,(treeMem W p id).heap.size=W.heap.size+7:=fun W=>by unfold treeMem;simp
 go_enter Tryz.func27,Tryz.ntmps27;go_wp2_with (first
  | (go_at_call 61;refine hk.mono ?_;rintro e w1 ⟨rfl,hb1⟩;have d0:=((bcell hb1).1 s 0 hs).trans c0;have hs1:=zzA hs hb1.size)
  | (go_at_call 62;refine Calls.mono (htn _) ?_;rintro e w2 ⟨rfl,rfl⟩))
 go_ret2;exact⟨w1,hb1,rfl,rfl⟩
def wsB (n:Nat):WB:=⟨n+7,n+6,n+1,n+3,n,n+2,n+4,n+5⟩
def wsTags (tg:Tags)(n i:Nat):Tags:=fun k=>if k<n then tg k else if k=n then (i,2) else if k=n+1 then (i,1) else if k=n+2 then (i,3) else if k=n+3 then (i,1) else if k=n+4 then (i,4) else if k=n+5 then (i,5) else if k=n+6 then (i,1) else if k=n+7 then (i,0) else (0,0)
theorem wsMem_size (w:World)(p:Nat)(id:Int):(wsMem w p id).heap.size=w.heap.size+8:=by unfold wsMem treeMem;simp
theorem wsMem_below (w:World)(p:Nat)(id:Int):Below w.heap.size w (wsMem w p id):=by
 unfold wsMem treeMem;exact (((((((((Below.refl w.heap.size w).alloc (zzC _) _).alloc (by simp) _).alloc (by simp;omega) _).alloc (by simp;omega) _).alloc (by simp;omega) _).alloc (by simp;omega) _).alloc (by simp;omega) _).alloc (by simp;omega) _)
theorem wsMem_heap (w:World)(p:Nat)(id:Int):
  (wsMem w p id).heap[w.heap.size]? = some (.map #[] 0)/\(wsMem w p id).heap[w.heap.size+1]? = some (.cells #[.func (.func 115) #[ptr p] #[],.map (some w.heap.size)] 267 (0,0))/\(wsMem w p id).heap[w.heap.size+2]? = some (.map #[] 0)/\(wsMem w p id).heap[w.heap.size+3]? = some (.cells #[.func (.func 117) #[ptr p] #[],.map (some (w.heap.size+2))] 271 (0,0))/\(wsMem w p id).heap[w.heap.size+4]? = some (.map #[] 0)/\(wsMem w p id).heap[w.heap.size+5]? = some (.map #[] 0)/\
  (wsMem w p id).heap[w.heap.size+6]? = some (.cells #[ptr p,ptr (w.heap.size+1),ptr (w.heap.size+3),.int .i64 id,.string ⟨#[]⟩,.int .i64 2,.int .i64 id,.map (some (w.heap.size+4)),.map (some (w.heap.size+5))] 164 (0,0))/\(wsMem w p id).heap[w.heap.size+7]? = some (.cells #[ptr (w.heap.size+6),.pointer none,.pointer none,.pointer none,.pointer none,.pointer none,.pointer none,.pointer none,.pointer none] 91 (0,0)):=by
 unfold wsMem treeMem World.alloc;simp only[Array.getElem?_push,Array.size_push];refine⟨?_,?_,?_,?_,?_,?_,?_,?_⟩
 ·rw[zzB (by omega),zzB (by omega),zzB (by omega),zzB (by omega),zzB (by omega),zzB (by omega),zzB (by omega),zzD trivial]
 all_goals simp
def wg0 (id:Int)(got:List Int):WG:=⟨id,⟨id,fun _=>none,fun _=>none⟩,⟨got,false,fun _=>false,fun _=>false⟩,fun _=>none,fun _=>none⟩
section
variable {s i p:Nat}{objs:List Ob}
theorem new_ws {tg:Tags}{w:World}{got:List Int}{lim:Nat}(h:SInv tg w s p objs got false lim)(hi:2<=i){id:Int}(hk:kindOf objs id=2):
  Moves (fun _=>False) tg (wsTags tg w.heap.size i) w (wsMem w p id)/\WInv (wsTags tg w.heap.size i) (wsMem w p id) s i p (wsB w.heap.size) objs (wg0 id got) lim:=by
 have hb:=wsMem_below w p id;obtain⟨b0,b1,b2,b3,b4,b5,b6,b7⟩:=wsMem_heap w p id;have ht:∀k,k<w.heap.size->wsTags tg w.heap.size i k=tg k:=fun k hk=>by unfold wsTags;rw[zzD hk]
 have m:Moves (fun _=>False) tg (wsTags tg w.heap.size i) w (wsMem w p id):=⟨hb.os,hb.tape,hb.output,hb.size,ht,fun k hk _=>hb.block k hk,fun hf k hk=>by
  rw[wsMem_size] at hk;unfold wsTags;rw[zzB (by omega),zzB (by omega),zzB (by omega),zzB (by omega),zzB (by omega),zzB (by omega),zzB (by omega),zzB (by omega),zzB (by omega)]⟩
 have t0:wsTags tg w.heap.size i w.heap.size=(i,2):=by unfold wsTags;simp
 have t1:wsTags tg w.heap.size i (w.heap.size+1)=(i,1):=by unfold wsTags;rw[zzB (by omega)];simp
 have t2:wsTags tg w.heap.size i (w.heap.size+2)=(i,3):=by unfold wsTags;rw[zzB (by omega)];simp
 have t3:wsTags tg w.heap.size i (w.heap.size+3)=(i,1):=by unfold wsTags;rw[zzB (by omega)];simp
 have t4:wsTags tg w.heap.size i (w.heap.size+4)=(i,4):=by unfold wsTags;rw[zzB (by omega)];simp
 have t5:wsTags tg w.heap.size i (w.heap.size+5)=(i,5):=by unfold wsTags;rw[zzB (by omega)];simp
 have t6:wsTags tg w.heap.size i (w.heap.size+6)=(i,1):=by unfold wsTags;rw[zzB (by omega)];simp
 have t7:wsTags tg w.heap.size i (w.heap.size+7)=(i,0):=by unfold wsTags;rw[zzB (by omega)];simp
 refine⟨m,hi,h.moves m (fun x=>x) (fun x=>x),⟨⟨t6,t1,t3,b6,b1,b3⟩,⟨t0,0,fun _=>none,zzF _,vmap_at b0,fun id=>rfl,fun id hx=>by cases hx⟩,⟨t2,0,fun _=>none,fun _=>.slice none 0 0,zzF _,vmap_at b2,fun id=>rfl,fun id hx=>by cases hx⟩,⟨t4,⟨0,zzF _,fun _=>none,vmap_at b4,fun _ _=>rfl,fun kl _ hx=>absurd rfl hx⟩,fun q f hx=>by cases hx⟩,⟨fun _=>.slice none 0 0,t5,⟨0,zzF _,fun _=>none,vmap_at b5,fun _ _=>rfl,fun kl _ hx=>absurd rfl hx⟩,fun q es hx=>(by cases hx),fun q es hx=>(by cases hx),fun q r es fs gg hx=>(by cases hx)⟩,fun f id d hx=>(by cases hx),fun q f hx=>(by cases hx),⟨t7,b7,fun k hk=>rfl,fun k b f fg pl hx=>(by cases hx),fun k l x y hx=>(by cases hx)⟩,⟨fun _=>hk,fun q es hx=>(by cases hx)⟩⟩⟩
theorem stored_at (objs:List Ob):∀(q:List ByteArray) (id:Int),odOf ((LT.dir id).at objs q)=none/\ofOf ((LT.dir id).at objs q)=none
 | [],id=>by rw[at_nil];exact⟨rfl,rfl⟩
 | n :: r,id=>by
  rw[at_cons]
  show odOf ((pickK ((entsOf objs id).map kidOf) n).bind _)=none/\ofOf ((pickK ((entsOf objs id).map kidOf) n).bind _)=none
  cases hp:pickK ((entsOf objs id).map kidOf) n with
  | none=>exact⟨rfl,rfl⟩
  | some c=>
   obtain⟨e,_,he⟩:=List.mem_map.1 (pick_mem hp)
   have hc:c=ltOf e:=by unfold kidOf at he;exact (Prod.mk.inj he).2.symm
   rw[Option.bind_some,hc]
   unfold ltOf
   split
   ·exact stored_at objs r _
   ·cases r with
    | nil=>rw[at_nil];exact⟨rfl,rfl⟩
    | cons m r=>rw[at_cons];exact⟨rfl,rfl⟩
theorem new_flat (id:Int)(got:List Int):Flat objs (.dir id) (wg0 id got).ft:=⟨rfl,rfl,fun q=>(stored_at objs q id).1.symm,fun q=>(stored_at objs q id).2.symm⟩
end

theorem mine0 {i:Nat}(hi:2<=i):¬Mine i (0,0):=by
 rintro (h | h)
 ·cases h
 ·simp only at h;omega
theorem qcheckout {tg:Tags}{w:World}{s p i:Nat}{objs:List Ob}{got:List Int}{lim:Nat}(h:SInv tg w s p objs got false lim)(hi:2<=i){id:Int}(hok:LTok objs 5 (.dir id)):
  Calls Tryz.prog 27 #[.pointer (some ⟨s,0,none⟩),.int .i64 id] w fun e w'=>∃B:WB,e=.returned (.tuple #[.pointer (some ⟨B.wb,0,none⟩),.int .i64 0])/\∃tg',Moves (fun _=>False) tg tg' w w'/\QInv tg' w' s i p B objs (wg0 id got) lim (.dir id):=by
 have hk:kindOf objs id=2:=by rw[LTok] at hok;exact hok.1
 have h0:=h;obtain⟨hfr,ft,hbk,hI,hrest⟩:=h;obtain⟨a,cap,bf,bd,Df,Dd,hI⟩:=hI;have hs:s<w.heap.size:=(Array.getElem?_eq_some_iff.1 hI.hs).1;have hkk:=kind_any p a objs.length cap bf bd objs id w hI.pool;rw[hk] at hkk;refine (checkout_walk s p id w hs hI.c0 hkk).mono ?_;rintro e w' ⟨w1,hb,rfl,rfl⟩;have hS1:SInv tg w1 s p objs got false lim:=h0.moves (P:=fun _=>False) (Moves.of_below hb) (fun h=>h) (fun h=>h);obtain⟨m,hW⟩:=new_ws hS1 (i:=i) hi hk;exact⟨wsB w1.heap.size,rfl,_,(Moves.of_below hb).trans m,⟨hW,new_flat id got,hok,(fun f id d hx=>by cases hx)⟩⟩

def fcOf (a:List Ob)(fl:Nat->Option (Int×ByteArray)):FileC:=fun f=>match fl f with
 | none=>⟨#[]⟩
 | some (id,d)=>if id≠0 then bytesOf a id else d

end Go.Proofs.YtlgidcmmgohagaaGreat
namespace Go.Proofs
open Go.Shelf
end Go.Proofs
namespace Go.Proofs.YtlgidcmmgohagaaGreat
open Go.RowKit Go.Sort Go.Shelf
set_option linter.unusedVariables false
set_option maxRecDepth 100000
set_option maxHeartbeats 16000000


section
variable {s i p:Nat}{B:WB}{objs:List Ob}
end
theorem hgt_le {objs:List Ob}(hX:Exact objs):∀(n:Nat) (c:LT),LTok objs n c->hgt objs n c<=n
 | n,.file id,h=>by
  have hk:kindOf objs id=1:=by cases n <;> simpa [LTok] using h
  have:hgt objs n (.file id)=highOf objs id:=by cases n <;> rfl
  rw[this,hX.low id hk];omega
 | n,.held f,_=>by
  have:hgt objs n (.held f)=0:=by cases n <;> rfl
  rw[this];omega
 | n,.dir id,h=>by
  have hk:highOf objs id<=n:=by cases n <;> (rw[LTok] at h;exact h.2)
  have:hgt objs n (.dir id)=highOf objs id:=by cases n <;> rfl
  rw[this];exact hk
 | 0,.own es,_=>by rw[hgt];omega
 | n+1,.own es,h=>by
  rw[LTok] at h
  rw[hgt,foldl_max_le]
  refine⟨by omega,fun x hx=>?_⟩
  have:=hgt_le hX n x.2 (h.2.2 x hx).2
  omega
def cs (n:Nat)(ks:Kids):Nat:=(ks.map fun x=>cntO n x.2).sum

section
variable {s i p:Nat}{B:WB}{objs:List Ob}{tg0:Tags}{w0:World}{base:Int}
end
abbrev Thing8:=ByteArray×Int×ByteArray
def ndD:Nd->ByteArray
 | .dir=>⟨#[]⟩
 | .file d=>d
def thingsR (a:List Ob)(fc:FileC):Nat->List ByteArray->LT->List Thing8
 | 0,_,_=>[]
 | n+1,q,c=>((kids a c).getD []).flatMap fun x=>(joinB (q ++ [x.1]),x.2.kind,ndD (nd a fc x.2)) :: (if x.2.kind=2 then thingsR a fc n (q ++ [x.1]) x.2 else [])
def thingsX (a:List Ob)(fc:FileC)(n:Nat)(q:List ByteArray)(x:ByteArray×LT):List Thing8:=(joinB (q ++ [x.1]),x.2.kind,ndD (nd a fc x.2)) :: (if x.2.kind=2 then thingsR a fc n (q ++ [x.1]) x.2 else [])
theorem things_succ {a:List Ob}{fc:FileC}{n:Nat}{q:List ByteArray}{c:LT}{ks:Kids}(hk:kids a c=some ks):thingsR a fc (n+1) q c=ks.flatMap (thingsX a fc n q):=by rw[thingsR,hk];rfl
theorem kids_some {a:List Ob}{c:LT}(h:c.kind=2):∃ks,kids a c=some ks:=by
 cases c with
 | file i=>cases h
 | held f=>cases h
 | dir i=>exact⟨_,rfl⟩
 | own es=>exact⟨_,rfl⟩
theorem kids_none {a:List Ob}{c:LT}(h:c.kind≠2):kids a c=none:=by
 cases c with
 | file i=>rfl
 | held f=>rfl
 | dir i=>exact absurd rfl h
 | own es=>exact absurd rfl h
def tBound:Nat->Nat
 | 0=>0
 | n+1=>16*(1+tBound n)
theorem flat_boundT {α β:Type}(f:α->List β)(b:Nat):∀(l:List α),(∀x ∈ l,(f x).length<=b)->(l.flatMap f).length<=l.length*b
 | [],_=>by simp
 | x :: r,h=>by
  rw[List.flatMap_cons,List.length_append,List.length_cons,Nat.succ_mul]
  have h1:=h x (List.mem_cons_self ..)
  have h2:=flat_boundT f b r (fun y hy=>h y (List.mem_cons_of_mem _ hy))
  omega
theorem things_bound {a:List Ob}{fc:FileC}(hA:Sound a):∀(n:Nat) (q:List ByteArray) (t:LT),LTok a n t->(thingsR a fc n q t).length<=tBound n
 | 0,q,t,_=>by rw[thingsR];simp[tBound]
 | n+1,q,t,ht=>by
  by_cases hk:t.kind=2
  ·obtain⟨ks,hks⟩:=kids_some (a:=a) hk
   obtain⟨rk,h16,hk2⟩:=ok_kids hA ht hks
   rw[things_succ hks,tBound]
   refine zzG (flat_boundT _ (1+tBound n) ks (fun x hx=>?_)) (Nat.mul_le_mul_right _ h16)
   unfold thingsX
   rw[List.length_cons]
   obtain⟨m,e,o⟩:=(hk2 x hx).2
   have e':m=n:=by omega
   subst e'
   split
   ·have:=things_bound (fc:=fc) hA m (q ++ [x.1]) x.2 o
    omega
   ·simp
  ·rw[thingsR,kids_none hk];simp
theorem infoStr:(Tryz.prog.info? 9).map (fun i=>(i.zero,i.size,i.bytes))=some (some (.string ByteArray.empty),1,16):=by kernel_rfl
structure NmsAt (w:World)(nb:Nat)(es:List Ent)(k:Nat):Prop where
 lt:nb<w.heap.size
 any:∀j,j<es.length->∃x,w.cell? ⟨nb,j,none⟩=some (.string x)
 free:∀o,w.frozen? ⟨nb,o,none⟩=false
 nms:∀j (hj:j<es.length),j<k->w.cell? ⟨nb,j,none⟩=some (.string es[j].1)
 blk:∃cs:Array Value,w.heap[nb]? = some (.cells cs 9 (0,0))/\cs.size=es.length
theorem make_str (n:Nat)(hn:n<=16)(W:World):∃cs:Array Value,(Instr.makeSlice 131 (.int .i64 (n:Int)) (.int .i64 (n:Int))).run Tryz.prog W=.ok (.slice (some ⟨W.heap.size,0,none⟩) n n) (W.alloc (.cells cs 9))/\cs.size=n/\∀j,j<n->∃x,cs[j]? = some (.string x):=by
 obtain⟨i0,hi,hz0,hz1,hz2⟩:=info_parts infoStr;refine⟨_,run_make W 131 9 i0 _ Tryz.underlying131 hi hz0 .i64 .i64 n n (by omega) (by omega) (by rw[hz2];omega) (by omega),?_,?_⟩
 ·simp[madeCells,hz1]
 ·intro j hj
  simp[madeCells,hz1,hj,Value.cells,Nat.mod_one]
theorem nms_new {w:World}{cs:Array Value}{es:List Ent}(hs:cs.size=es.length)(hx:∀j,j<es.length->∃x,cs[j]? = some (.string x)):NmsAt (w.alloc (.cells cs 9)) w.heap.size es 0:=by
 have hh:=heap_alloc_new w (.cells cs 9);refine⟨by simp,fun j hj=>?_,fun o=>by simp only[World.frozen?,hh];simp,fun j _ hj=>(by omega),⟨cs,hh,hs⟩⟩;obtain⟨x,hx⟩:=hx j hj;exact⟨x,by simp only[World.cell?,hh];exact hx⟩
theorem nms_alloc {w:World}{nb k:Nat}{es:List Ent}(h:NmsAt w nb es k)(o:Obj):NmsAt (w.alloc o) nb es k:=by
 have hc:∀j,(w.alloc o).cell? ⟨nb,j,none⟩=w.cell? ⟨nb,j,none⟩:=fun j=>by unfold World.cell?;rw[Below.heap_alloc _ _ _ h.lt]
 have hf:∀j,(w.alloc o).frozen? ⟨nb,j,none⟩=w.frozen? ⟨nb,j,none⟩:=fun j=>by unfold World.frozen?;rw[Below.heap_alloc _ _ _ h.lt]
 exact⟨by simp;exact Nat.lt_succ_of_lt h.lt,fun j hj=>by rw[hc];exact h.any j hj,fun o'=>by rw[hf];exact h.free o',fun j hj hk=>(by rw[hc];exact h.nms j hj hk),by obtain⟨cs,h1,h2⟩:=h.blk;exact⟨cs,(Below.heap_alloc _ _ _ h.lt).trans h1,h2⟩⟩
theorem nms_set {w:World}{nb k:Nat}{es:List Ent}(h:NmsAt w nb es k)(hk:k<es.length):NmsAt (w.setCell ⟨nb,k,none⟩ (.string es[k].1)) nb es (k+1):=by
 obtain⟨x,hx⟩:=h.any k hk;have hsame:(w.setCell ⟨nb,k,none⟩ (.string es[k].1)).cell? ⟨nb,k,none⟩=some (.string es[k].1):=World.cell?_setCell_same _ _ _ hx;have hoth:∀j,j≠k->(w.setCell ⟨nb,k,none⟩ (.string es[k].1)).cell? ⟨nb,j,none⟩=w.cell? ⟨nb,j,none⟩:=fun j hj=>World.cell?_setCell_other _ _ _ _ (fun e=>hj (by injection e with _ e2 _;exact e2.symm));refine⟨by simpa using h.lt,fun j hj=>?_,fun o=>by rw[World.frozen?_setCell];exact h.free o,fun j hj hk'=>?_,by obtain⟨cs,h1,h2⟩:=h.blk;exact⟨cs.setIfInBounds k (.string es[k].1),by simp[World.setCell,Array.getElem?_modify,h1],by simpa using h2⟩⟩
 ·by_cases e:j=k
  ·subst e;exact⟨_,hsame⟩
  ·rw[hoth j e];exact h.any j hj
 ·by_cases e:j=k
  ·subst e;exact hsame
  ·rw[hoth j e];exact h.nms j hj (by omega)
theorem tlist_walk (t:Nat)(s0 s1 s2 s3 s4:ByteArray)(es:List Ent)(R:World->Prop)(w:World)(hn:es.length<=16)
  (hlook:∀W,Below w.heap.size w W->Calls Tryz.prog 131 #[.pointer (some ⟨t,0,none⟩),.agg #[.string s0,.string s1,.string s2,.string s3,.string s4]] W fun e w'=>∃gb cap,e=.returned (.tuple #[.slice (some ⟨gb,0,none⟩) es.length cap,.int .i64 0])/\R w'/\gb<w'.heap.size/\∀j u,(flat es)[j]? = some u->w'.cell? ⟨gb,j,none⟩=some u):
  Calls Tryz.prog 127 #[.pointer (some ⟨t,0,none⟩),.agg #[.string s0,.string s1,.string s2,.string s3,.string s4]] w fun e w'=>∃w3,R w3/\e=.returned (.tuple #[.slice (some ⟨w3.heap.size,0,none⟩) es.length es.length,.int .i64 0])/\Below w3.heap.size w3 w'/\NmsAt w' w3.heap.size es es.length:=by
 have hl:=hlook _ ((Below.refl w.heap.size w).alloc (zzC _) (.cells #[.string s0,.string s1,.string s2,.string s3,.string s4] 147));have HL:Hid _:=hl;clear hlook hl;go_enter Tryz.func127,Tryz.ntmps127;go_wp2_with fail;refine Calls.mono HL.out ?_;rintro e w3 ⟨gb,cap,rfl,hR,hgb,hc⟩;obtain⟨cs,hmk,hcs,hx⟩:=make_str es.length hn w3;have hN0:=nms_new (w:=w3) hcs hx;have HN0:Hid _:=hN0;have HR:Hid _:=hR;have HC:Hid _:=hc;clear HL hR hc hN0 hx hcs;go_wp2
 go_loopw [25] (fun i wr=>∃k:Nat,k<=es.length/\i=.int .i64 (k:Int)/\Below w3.heap.size w3 wr/\Hid (NmsAt wr w3.heap.size es k)) (fun i _=>es.length-(intOf i).toNat)
 case atStart=>exact⟨0,zzF _,rfl,(Below.refl _ _).alloc (zzC _) _,HN0.out⟩
 case round=>
  obtain⟨k,hk,rfl,hb,HN⟩:=hrel;by_cases hlt:k<es.length
  ·obtain⟨d0,d1,d2⟩:=row_at HC.out hlt
   have e0:=(hb.cell (p:=⟨gb,k*3,none⟩) hgb).trans d0;have e1:=(hb.cell (p:=⟨gb,k*3+1,none⟩) hgb).trans d1;have e2:=(hb.cell (p:=⟨gb,k*3+2,none⟩) hgb).trans d2;have hgb':gb<wr.heap.size:=zzA hgb hb.size;have hnl:=HN.out.lt;obtain⟨x,hx⟩:=HN.out.any k hlt;have hfz:=HN.out.free k;have hnew:=fun o=>nms_alloc (nms_set HN.out hlt) o;have HNW:Hid _:=hnew;clear d0 d1 d2 hnew;go_wp2;exact⟨⟨k+1,hlt,by simp,(Below.setCell hb (show w3.heap.size<=(⟨w3.heap.size,k,none⟩:Addr).block from zzC _) _).alloc (by simpa using hb.size) _,HNW.out _⟩,by simp only[intOf];omega⟩
  ·have hke:k=es.length:=by omega
   subst hke;go_wp2;go_ret2;exact⟨w3,HR.out,rfl,hb,HN.out⟩
theorem tlist_err (t:Nat)(s0 s1 s2 s3 s4:ByteArray)(er:Int)(her:er≠0)(R:World->Prop)(w:World)
  (hlook:∀W,Below w.heap.size w W->Calls Tryz.prog 131 #[.pointer (some ⟨t,0,none⟩),.agg #[.string s0,.string s1,.string s2,.string s3,.string s4]] W fun e w'=>∃v,e=.returned (.tuple #[v,.int .i64 er])/\R w'):
  Calls Tryz.prog 127 #[.pointer (some ⟨t,0,none⟩),.agg #[.string s0,.string s1,.string s2,.string s3,.string s4]] w fun e w'=>R w'/\e=.returned (.tuple #[.slice none 0 0,.int .i64 er]):=by
 have hl:=hlook _ ((Below.refl w.heap.size w).alloc (zzC _) (.cells #[.string s0,.string s1,.string s2,.string s3,.string s4] 147));have HL:Hid _:=hl;have he:(er == 0)=false:=by simpa using her
 clear hlook hl her;go_enter Tryz.func127,Tryz.ntmps127;go_wp2_with fail;refine Calls.mono HL.out ?_;rintro e w3 ⟨v,rfl,hR⟩;have HR:Hid _:=hR;clear HL hR;go_wp2;go_ret2;exact⟨HR.out,rfl⟩
theorem tlist_nil (t:Nat)(s0 s1 s2 s3 s4:ByteArray)(R:World->Prop)(w:World)
  (hlook:∀W,Below w.heap.size w W->Calls Tryz.prog 131 #[.pointer (some ⟨t,0,none⟩),.agg #[.string s0,.string s1,.string s2,.string s3,.string s4]] W fun e w'=>∃a c,e=.returned (.tuple #[.slice a 0 c,.int .i64 0])/\R w'):
  Calls Tryz.prog 127 #[.pointer (some ⟨t,0,none⟩),.agg #[.string s0,.string s1,.string s2,.string s3,.string s4]] w fun e w'=>∃w3,R w3/\e=.returned (.tuple #[.slice (some ⟨w3.heap.size,0,none⟩) 0 0,.int .i64 0])/\Below w3.heap.size w3 w'/\NmsAt w' w3.heap.size [] 0:=by
 have hl:=hlook _ ((Below.refl w.heap.size w).alloc (zzC _) (.cells #[.string s0,.string s1,.string s2,.string s3,.string s4] 147));have HL:Hid _:=hl;clear hlook hl;go_enter Tryz.func127,Tryz.ntmps127;go_wp2_with fail;refine Calls.mono HL.out ?_;rintro e w3 ⟨a,c,rfl,hR⟩;obtain⟨cs,hmk,hcs,hx⟩:=make_str 0 (by decide) w3;have hmk':(Instr.makeSlice 131 (.int .i64 0) (.int .i64 0)).run Tryz.prog w3=.ok (.slice (some ⟨w3.heap.size,0,none⟩) 0 0) (w3.alloc (.cells cs 9)):=hmk;have HN0:Hid _:=nms_new (w:=w3) (es:=[]) hcs (fun j hj=>absurd hj (Nat.not_lt_zero _));have HR:Hid _:=hR;clear HL hR hx hcs hmk;go_wp2
 go_loopw [25] (fun i wr=>i=.int .i64 0/\Below w3.heap.size w3 wr/\Hid (NmsAt wr w3.heap.size [] 0)) (fun _ _=>0)
 case atStart=>exact⟨rfl,(Below.refl _ _).alloc (zzC _) _,HN0.out⟩
 case round=>
  obtain⟨rfl,hb,HN⟩:=hrel;go_wp2;go_ret2;exact⟨w3,HR.out,rfl,hb,HN.out⟩
theorem list_wsG (wb bt:Nat)(l:List ByteArray)(hl:Good l)(R:Value->Int->World->Prop)(w:World)(hwb:wb<w.heap.size)(c0:w.cell? ⟨wb,0,none⟩=some (.pointer (some ⟨bt,0,none⟩)))
  (hc:∀W,Below w.heap.size w W->Calls Tryz.prog 127 #[.pointer (some ⟨bt,0,none⟩),.agg (pathA l)] W fun e w'=>∃v er,e=.returned (.tuple #[v,.int .i64 er])/\R v er w'):
  Calls Tryz.prog 68 #[.pointer (some ⟨wb,0,none⟩),.string (joinB l)] w fun e w'=>∃v er,e=.returned (.tuple #[v,.int .i64 er])/\R v er w':=by
 have hpa:=fun W=>parse_any l hl W;obtain⟨s0,s1,s2,s3,s4,hP⟩:∃s0 s1 s2 s3 s4,pathA l = #[.string s0,.string s1,.string s2,.string s3,.string s4]:=⟨_,_,_,_,_,rfl⟩;unfold pathV at hpa;simp only[hP] at hpa hc;have HC:Hid _:=hc;clear hc hP hl;generalize joinB l=tx at hpa ⊢;go_enter Tryz.func68,Tryz.ntmps68;go_wp2_with (go_at_call 69;refine Calls.mono (hpa _) ?_;rintro e w1 ⟨rfl,hb1⟩;have d0:=((bcell hb1).1 wb 0 hwb).trans c0;have hw1:=zzA hwb hb1.size);have hcc:=HC.out (w1.alloc (.cells #[.string s0,.string s1,.string s2,.string s3,.string s4] 147)).drew (below_drew (hb1.alloc hb1.size _));have HCC:Hid _:=hcc;clear hcc HC
 go_region_with (go_at_call 127;refine Calls.mono HCC.out ?_;rintro e w2 ⟨v,er,rfl,hR⟩)
 all_goals
  go_wp2;go_ret2;exact⟨v,er,rfl,hR⟩
section
variable {s i p:Nat}{B:WB}{objs:List Ob}
end
section
variable {s i p:Nat}{B:WB}{objs:List Ob}{tg0:Tags}{w0:World}{g0:WG}{t0:LT}
end
end Go.Proofs.YtlgidcmmgohagaaGreat
namespace Go
set_option linter.unusedVariables false
variable {P:Program}{w:World}
end Go
namespace Go.Proofs.YtlgidcmmgohagaaGreat
open Go.RowKit Go.Sort Go.Shelf Go.ChangeShapes Go.WideShapes Go.Deep
set_option linter.unusedVariables false
section
variable {H:Type}{enc:TypeId×Value->H}{w:World}{base:Nat}{sp:Nat->Bool}{held:Bool}
end
end Go.Proofs.YtlgidcmmgohagaaGreat
namespace Go.Proofs.YtlgidcmmgohagaaGreat
open Go.RowKit Go.Sort Go.Shelf
set_option linter.unusedVariables false
set_option maxRecDepth 100000
set_option maxHeartbeats 16000000
section
variable {s i p:Nat}{B:WB}{objs:List Ob}{tg0:Tags}{w0:World}{g0:WG}{t0:LT}
end
section
variable {s i p:Nat}{B:WB}{objs:List Ob}
end

theorem kidsE_none {a:List Ob}{t:LT}(h:kids a t=none):kidsE a t=(5,[]):=by cases t <;> simp[kids,kidsE] at h ⊢
theorem kidsE_some {a:List Ob}{t:LT}{ks:Kids}(h:kids a t=some ks):kidsE a t=(0,ks):=by cases t <;> simp[kids,kidsE] at h ⊢ <;> exact h
section
variable {a b:List Ob}{fc fc':FileC}
theorem find_at {t:LT}{r:List ByteArray}(h:(findE a t r).1=0):t.at a r.reverse=some (findE a t r).2:=by
 rcases find_sem a (fun _=>⟨#[]⟩) t r with ⟨_,h2⟩ | ⟨h1,_⟩
 ·exact h2
 ·exact absurd h h1
theorem hgt_kids {a:List Ob}(hX:Exact a){n:Nat}{t:LT}{ks:Kids}(hk:kids a t=some ks)(hkd:∀id,t=.dir id->kindOf a id=2):hgt a (n+1) t=ks.foldl (fun h x=>max h (1+hgt a n x.2)) 0:=by
 cases t with
 | file id=>cases hk
 | held f=>cases hk
 | own es=>cases hk;rw[hgt]
 | dir id=>
  cases hk;rw[hgt,hX.high id (hkd id rfl),List.foldl_map];unfold highs
  congr 1
  funext h e
  unfold kidOf ltOf;split <;> rw[hgt]
theorem ok_dirkind {a:List Ob}{n:Nat}{t:LT}(h:LTok a n t):∀id,t=.dir id->kindOf a id=2:=fun id e=>by subst e;rw[LTok] at h;exact h.1
theorem hgt_file {a:List Ob}(hX:Exact a){n m:Nat}{t:LT}(h:LTok a m t)(hk:t.kind≠2):hgt a n t=0:=by
 cases t with
 | file id=>rw[hgt];rw[LTok] at h;exact hX.low id h
 | held f=>rw[hgt]
 | own es=>exact absurd rfl hk
 | dir id=>exact absurd rfl hk
end
section
variable {a:List Ob}{fc:FileC}
theorem sem_empty (x:List ByteArray):sem a fc (.own []) x=if x = [] then some .dir else none:=by
 cases x with
 | nil=>rw[sem_nil];rfl
 | cons n r=>rw[sem_cons,zzB (by simp)];rfl
theorem look_not14 {t:LT}{r:List ByteArray}:(lookE a t r).1≠14:=by
 unfold lookE;simp only;rcases find_sem a (fun _=>⟨#[]⟩) t r with ⟨h,_⟩ | ⟨h,_,h2⟩
 ·rw[zzB (by simp[h])];exact kidsE_not14 _ _
 ·rw[zzD h]
  show (findE a t r).1≠14;omega
theorem look_atE {t:LT}{r:List ByteArray}(h:(lookE a t r).1=0):∃d,t.at a r.reverse=some d/\kids a d=some (lookE a t r).2:=by
 have:=look_at (objs:=a) (t:=t) (fs:=fsAll) (r:=r) (by rw[all_look];exact h)
 rw[all_look] at this;exact this
theorem put_sem {t d c:LT}{q:List ByteArray}{n:ByteArray}{ks:Kids}(ha:t.at a q=some d)(hk:kids a d=some ks)(hr:RisingK ks)(x:List ByteArray):
  sem a fc (modG a (fun ks=>putK ks n c) q t) x=if q ++ [n] <+: x then sem a fc c (x.drop (q ++ [n]).length) else sem a fc t x:=by
 obtain⟨p1,p2⟩:=sem_put (fc:=fc) (n:=n) hr ha hk c;by_cases hx:(q ++ [n]) <+: x
 ·rw[zzD hx]
  obtain⟨r,rfl⟩:=hx;rw[List.drop_left,show q ++ [n]++r=q++n :: r by simp,p1]
 ·rw[zzB hx,p2 x hx]
theorem drop_nil_iff {p x:List ByteArray}(h:p <+: x):x.drop p.length = []↔x=p:=by
 obtain⟨r,rfl⟩:=h;rw[List.drop_left];constructor
 ·rintro rfl;simp
 ·intro e;simpa using e
theorem code_mkdir {t:LT}(hS:Sound a)(hok:LTok a 5 t)(n:ByteArray)(r:List ByteArray){er:Int}{t':LT}(h:(mkdirR a t fsAll (n :: r)).2=(er,t')):
  er≠14/\(er≠0->t'=t)/\(er=0->sem a fc t (r.reverse ++ [n])=none/\∀x,sem a fc t' x=if x=r.reverse ++ [n] then some .dir else if r.reverse ++ [n] <+: x then none else sem a fc t x):=by
 unfold mkdirR at h;simp only[all_look] at h;split at h
 ·rename_i h0
  cases h;exact⟨look_not14,fun _=>rfl,fun e=>absurd e h0⟩
 ·rename_i h0
  have z:=Decidable.not_not.1 h0;obtain⟨d,ha,hk⟩:=look_atE z;have hr:=(ok_kids hS (ok_at hS _ hok ha).2.1 hk).1;split at h
  ·cases h;exact⟨by decide,fun _=>rfl,fun e=>by cases e⟩
  ·rename_i hp
   split at h
   ·cases h;exact⟨by decide,fun _=>rfl,fun e=>by cases e⟩
   ·cases h
    refine⟨by decide,fun e=>absurd rfl e,fun _=>⟨?_,fun x=>?_⟩⟩
    ·rw[sem_kid ha hk]
     cases hpk:pickK (lookE a t r).2 n with
     | none=>rfl
     | some c=>rw[hpk] at hp;exact absurd rfl hp
    ·rw[put_sem ha hk hr,sem_empty]
     by_cases hx:r.reverse ++ [n] <+: x
     ·rw[zzD hx]
      by_cases e:x=r.reverse ++ [n]
      ·rw[zzD ((drop_nil_iff hx).2 e),zzD e]
      ·rw[zzB (fun h=>e ((drop_nil_iff hx).1 h)),zzB e,zzD hx]
     ·rw[zzB hx,zzB (fun e=>hx (by rw[e];exact List.prefix_refl _)),zzB hx]
theorem find_way2 {t:LT}{n:ByteArray}{r:List ByteArray}(h:(findE a t (n :: r)).1=0):∃d ks,t.at a r.reverse=some d/\kids a d=some ks/\pickK ks n=some (findE a t (n :: r)).2/\t.at a (r.reverse ++ [n])=some (findE a t (n :: r)).2:=by
 have:=find_at h
 rw[List.reverse_cons] at this;obtain⟨d,ks,h1,h2,h3⟩:=at_snoc this;exact⟨d,ks,h1,h2,h3,this⟩
theorem find_not14 {t:LT}{r:List ByteArray}:(findE a t r).1≠14:=by
 rcases find_sem a (fun _=>⟨#[]⟩) t r with ⟨h,_⟩ | ⟨h,_,h2⟩ <;> omega
theorem vacant_code (c:LT):(vacantG a fsAll c).2=0\/(vacantG a fsAll c).2=5\/(vacantG a fsAll c).2=8:=by
 unfold vacantG;simp only[all_kids];split
 ·exact .inl rfl
 ·split
  ·exact .inr (.inr rfl)
  ·show (kidsE a c).1=0\/(kidsE a c).1=5\/(kidsE a c).1=8
   cases c <;> simp[kidsE]
theorem room_code (b:Bool)(ks:Kids)(n:ByteArray)(c:LT):(roomG a fsAll b ks n c).2≠14:=by
 unfold roomG;cases pickK ks n with
 | none=>simp only;split <;> simp
 | some e=>
  simp only;unfold yieldsG;split
  ·simp
  ·split
   ·simp
   ·have:=vacant_code (a:=a) e
    omega
theorem code_remove {t:LT}(hS:Sound a)(hok:LTok a 5 t)(n:ByteArray)(r:List ByteArray){er:Int}{t':LT}(h:(removeR a t fsAll (n :: r)).2=(er,t')):
  er≠14/\(er≠0->t'=t)/\(er=0->sem a fc t (r.reverse ++ [n])≠none/\∀x,sem a fc t' x=if r.reverse ++ [n] <+: x then none else sem a fc t x):=by
 unfold removeR at h;simp only[all_find] at h;split at h
 ·rename_i h0
  cases h;exact⟨find_not14,fun _=>rfl,fun e=>absurd e h0⟩
 ·rename_i h0
  have z:=Decidable.not_not.1 h0;obtain⟨d,ks,ha,hk,hp,hat⟩:=find_way2 z;have hr:=(ok_kids hS (ok_at hS _ hok ha).2.1 hk).1;split at h
  ·rename_i hv
   cases h
   have:=vacant_code (a:=a) (findE a t (n :: r)).2
   exact⟨by omega,fun _=>rfl,fun e=>absurd e hv⟩
  ·cases h
   obtain⟨s1,s2⟩:=sem_drop (fc:=fc) hr (by rw[<-pick_there hr,hp];rfl) ha hk;refine⟨by decide,fun e=>absurd rfl e,fun _=>⟨by unfold sem;rw[hat];simp,fun x=>?_⟩⟩;by_cases hx:r.reverse ++ [n] <+: x
   ·rw[zzD hx]
    obtain⟨y,rfl⟩:=hx;rw[show r.reverse ++ [n]++y=r.reverse++n :: y by simp,s1]
   ·rw[zzB hx,s2 x hx]
theorem code_rename {t:LT}(hS:Sound a)(hok:LTok a 5 t)(n m:ByteArray)(r q:List ByteArray){er:Int}{t':LT}(h:(renameR a t fsAll (n :: r) (m :: q)).2=(er,t')):
  er≠14/\(er≠0->t'=t)/\(er=0->sem a fc t (r.reverse ++ [n])≠none/\(r.reverse ++ [n]≠q.reverse ++ [m]->¬r.reverse ++ [n] <+: q.reverse ++ [m])/\∀x,sem a fc t' x=if r.reverse ++ [n]=q.reverse ++ [m] then sem a fc t x else if q.reverse ++ [m] <+: x then sem a fc t (r.reverse ++ [n]++x.drop (q.reverse ++ [m]).length) else if r.reverse ++ [n] <+: x then none else sem a fc t x):=by
 have hinj:n :: r=m :: q↔r.reverse ++ [n]=q.reverse ++ [m]:=by
  rw[<-List.reverse_cons,<-List.reverse_cons];exact⟨fun e=>by rw[e],fun e=>List.reverse_inj.1 e⟩
 unfold renameR at h;simp only[all_find,all_look,List.reverse_cons] at h;split at h
 ·rename_i h0
  cases h;exact⟨find_not14,fun _=>rfl,fun e=>absurd e h0⟩
 ·rename_i h0
  have z:=Decidable.not_not.1 h0;obtain⟨d,ks,ha,hk,hp,hat⟩:=find_way2 z;have hr:=(ok_kids hS (ok_at hS _ hok ha).2.1 hk).1;have hne:sem a fc t (r.reverse ++ [n])≠none:=by unfold sem;rw[hat];simp
  split at h
  ·cases h;exact⟨by decide,fun _=>rfl,fun e=>by cases e⟩
  ·rename_i hpre
   split at h
   ·rename_i hl
    cases h;refine⟨look_not14,fun _=>rfl,fun e=>?_⟩;rcases hl with hl | hl
    ·exact absurd e hl
    ·exact⟨hne,fun h=>absurd (hinj.1 hl) h,fun x=>by rw[zzD (hinj.1 hl)]⟩
   ·rename_i hl
    have hl0:(lookE a t q).1=0:=Decidable.not_not.1 (fun h=>hl (.inl h));have hle:¬n :: r=m :: q:=fun h=>hl (.inr h);have hnp:¬r.reverse ++ [n] <+: q.reverse ++ [m]:=fun h=>hpre ⟨h,hle⟩;split at h
    ·rename_i hv
     cases h;exact⟨room_code _ _ _ _,fun _=>rfl,fun e=>absurd e hv⟩
    ·split at h
     ·cases h;exact⟨by decide,fun _=>rfl,fun e=>by cases e⟩
     ·cases h
      obtain⟨dt,hat',hkt⟩:=look_atE hl0;refine⟨by decide,fun e=>absurd rfl e,fun _=>⟨hne,fun _=>hnp,fun x=>?_⟩⟩;rw[zzB (fun e=>hle (hinj.2 e))];exact sem_rename (fc:=fc) hS hok ha hk hp hat' hkt hnp x
end
section
variable {a:List Ob}
end
section
variable {a b:List Ob}{fc fc':FileC}
end
abbrev Slot:=Nat×WB×WG×LT
structure WsAt (tg:Tags)(w:World)(p:Nat)(objs:List Ob)(lim:Nat)(x:Slot):Prop where
 two:2<=x.1
 wp:WPart tg w x.1 p x.2.1 objs x.2.2.1 lim
 flat:Flat objs x.2.2.2 x.2.2.1.ft
 ok:LTok objs 5 x.2.2.2
 fl:FlOk objs x.2.2.1.fl
 inj:HeldInj objs x.2.2.2
theorem WsAt.moves {P:Nat×Nat->Prop}{tg tg':Tags}{w w':World}{p:Nat}{objs:List Ob}{lim:Nat}{x:Slot}(h:WsAt tg w p objs lim x)(m:Moves P tg tg' w w')(hn:∀k,¬P (x.1,k)):WsAt tg' w' p objs lim x:=⟨h.two,h.wp.moves m hn,h.flat,h.ok,h.fl,h.inj⟩
section
variable {W wr:World}{s p:Nat}{objs:List Ob}{lim:Nat}{ws:List Slot}{rows:List (Value×List Thing8)}
end
structure HeldV (F:Nat->Prop)(t tl:TypeId)(V:Nat->Value)(w:World)(ea:Option Addr)(ec q:Nat)(hs:List HeldL):Prop where
 len:hs.length=4*q
 row:w.ownsRow 0 tl 1 (.slice ea (4*q) ec) (4*q) (hs.map encH)
 own:∀g,(Value.slice ea (4*q) ec).ownBlock=some g->F g
 lists:∀i (hi:i<hs.length),hs[i].2.1<=1000000000/\SeesV t (V (i / 4)) w hs[i]/\∀g,(encH hs[i]).ownBlock=some g->F g
 lt:∀k,F k->k<w.heap.size
theorem HeldV.keep {F:Nat->Prop}{t tl:TypeId}{V:Nat->Value}{w w':World}{ea:Option Addr}{ec q:Nat}{hs:List HeldL}(h:HeldV F t tl V w ea ec q hs)(hk:∀k,F k->w'.heap[k]? = w.heap[k]?)(hz:w.heap.size<=w'.heap.size):HeldV F t tl V w' ea ec q hs:=
 ⟨h.len,ownsRow_keep h.row (fun g hg=>hk g (h.own g hg)),h.own,fun i hi=>⟨(h.lists i hi).1,ownsRow_keep (h.lists i hi).2.1 (fun g hg=>hk g ((h.lists i hi).2.2 g hg)),(h.lists i hi).2.2⟩,fun k hk'=>zzA (h.lt k hk') hz⟩
theorem HeldV.full {F:Nat->Prop}{t tl:TypeId}{V:Nat->Value}{w:World}{ea:Option Addr}{ec q:Nat}{hs:List HeldL}(h:HeldV F t tl V w ea ec q hs):∀i (hi:i<hs.length),Full1 w (V (i / 4)) hs[i]:=fun i hi j hj=>by
 have hs':=(h.lists i hi).2.1
 unfold SeesV encH at hs'
 obtain⟨g,e1,_,e2,_⟩:=row_one hs' (i:=j) (v:=V (i / 4)) (by simp[hj])
 exact⟨g,e1,e2⟩
abbrev Doc:=Nat×List Ent×List ByteArray×List Value
def VN (i:Nat):Value:=.string (markS i)
def VI (i:Nat):Value:=.int .i64 (-1000-(i:Int))
structure Rows4 where
 pt:PTail
 wa:Option Addr
 wc:Nat
 ta:Option Addr
 tc:Nat
 na:Option Addr
 nc:Nat
 ea:Option Addr
 ec:Nat
 ia:Option Addr
 ic:Nat
 ns:List HeldL
 hs:List HeldL
 js:List HeldL
 FN:Nat->Prop
 FE:Nat->Prop
 FI:Nat->Prop
structure M4At (R:Rows4)(tg:Tags)(w:World)(B0 W s r p lim:Nat)(objs ros:List Ob)(got:List Int)(ws:List Slot)(ds:List Doc)(q8 q9 q11:Nat):Prop where
 fresh:Fresh tg w
 old:∀k,k<B0->tg k=(0,0)
 size:B0<=w.heap.size
 brk:R.pt.b=false
 got_:GotRow tg w R.pt got
 glen:got.length<=lim
 w3:W3 ⟨R.pt,p,[]⟩ (fun k=>tg k=(0,1)) (fun k=>tg k=(0,2)) (fun k=>tg k=(1,0)) w W s r objs ros (.slice R.wa ws.length R.wc) (.slice R.ta ds.length R.tc) (.bool false) (.slice R.na (4*q8) R.nc) (.slice R.ea (4*q9) R.ec) (.slice none 0 0) (.slice R.ia (4*q11) R.ic)
 rowW:w.ownsRow 0 32 1 (.slice R.wa ws.length R.wc) ws.length (ws.map fun x=>ptr x.2.1.wb)
 tagW:∀g,(Value.slice R.wa ws.length R.wc).ownBlock=some g->tg g=(0,3)
 rowD:w.ownsRow 0 115 1 (.slice R.ta ds.length R.tc) ds.length (ds.map fun x=>ptr x.1)
 tagD:∀g,(Value.slice R.ta ds.length R.tc).ownBlock=some g->tg g=(0,4)
 names:HeldV R.FN 9 131 VN w R.na R.nc q8 R.ns
 ents:Held R.FE w R.ea R.ec q9 R.hs
 ids:HeldV R.FI 29 59 VI w R.ia R.ic q11 R.js
 holds:∀k,R.FN k\/R.FE k\/R.FI k->tg k=(0,0)/\B0<=k
 apart:∀k,¬(R.FN k/\R.FE k)/\¬(R.FN k/\R.FI k)/\¬(R.FE k/\R.FI k)
 wsat:∀x ∈ ws,WsAt tg w p objs lim x
 slot:∀j (h:j<ws.length),ws[j].1=j+2
 docs:∀j (h:j<ds.length),StInv (fun k=>tg k=(0,8+j)) w ds[j].1 ds[j].2.1 ds[j].2.2.1 ds[j].2.2.2
 cnt:∀x,got.count x=(ws.map fun y=>y.2.2.1.fs.kn x).sum
theorem Fresh.lt {tg:Tags}{w:World}(h:Fresh tg w){k:Nat}(hk:tg k≠(0,0)):k<w.heap.size:=by
 rcases Nat.lt_or_ge k w.heap.size with hl | hl
 ·exact hl
 ·exact absurd (h k hl) hk
theorem sep_tags {tg:Tags}{w:World}(h:Fresh tg w):Sep w (fun k=>tg k=(0,1)) (fun k=>tg k=(0,2)) (fun k=>tg k=(1,0)):=
 ⟨fun k hk=>h.lt (by rw[hk];decide),fun k hk=>⟨h.lt (by rw[hk];decide),fun e=>by rw[hk] at e;cases e⟩,fun k hk=>⟨h.lt (by rw[hk];decide),fun e=>by rw[hk] at e;cases e⟩,fun k hk e=>by rw[hk] at e;cases e⟩
section
variable {R:Rows4}{tg tg':Tags}{w w':World}{B0 W s r p lim:Nat}{objs ros:List Ob}{got:List Int}{ws:List Slot}{ds:List Doc}{q8 q9 q11:Nat}
theorem M4At.after {P:Nat×Nat->Prop}(h:M4At R tg w B0 W s r p lim objs ros got ws ds q8 q9 q11)(m:Moves P tg tg' w w')(hP:∀c,¬P (0,c)){got':List Int}{lim':Nat}{ws':List Slot}{pt:PTail}
  (hl:ws'.length=ws.length)(hb:pt.b=false)(hI:InvP pt (fun k=>tg' k=(1,0)) w' s p objs)(hg:GotRow tg' w' pt got')(hlen:got'.length<=lim')(hptr:(ws'.map fun x=>ptr x.2.1.wb)=ws.map fun x=>ptr x.2.1.wb)(hws:∀x ∈ ws',WsAt tg' w' p objs lim' x)(hslot:∀j (h:j<ws'.length),ws'[j].1=j+2)
  (hcnt:∀x,got'.count x=(ws'.map fun y=>y.2.2.1.fs.kn x).sum):M4At { R with pt:=pt } tg' w' B0 W s r p lim' objs ros got' ws' ds q8 q9 q11:=by
 have hf':=m.fresh h.fresh;have kept:∀k c,tg k=(0,c)->k<w.heap.size->w'.heap[k]? = w.heap[k]?:=fun k c hk hlt=>m.block k hlt (by rw[hk];exact hP c);have tagged:∀k c,c≠0->tg k=(0,c)->tg' k=(0,c)/\w'.heap[k]? = w.heap[k]?:=fun k c hc hk=>by
  have hlt:=h.fresh.lt (by rw[hk];intro e;exact hc (congrArg Prod.snd e));exact⟨(m.tags k hlt).trans hk,kept k c hk hlt⟩
 have hheld:∀k,R.FN k\/R.FE k\/R.FI k->k<w.heap.size->w'.heap[k]? = w.heap[k]?/\tg' k=(0,0)/\B0<=k:=fun k hk hlt=>⟨kept k 0 (h.holds k hk).1 hlt,(m.tags k hlt).trans (h.holds k hk).1,(h.holds k hk).2⟩;have hw3:=h.w3;rw[<-hl] at hw3;refine⟨hf',fun k hk=>(m.tags k (zzA hk h.size)).trans (h.old k hk),zzG h.size m.size,hb,hg,hlen,⟨hw3.law.keep (fun k hk=>(tagged k 1 (by decide) hk).1) (fun k hk=>(tagged k 1 (by decide) hk).2),hw3.ref.keep (fun k hk=>(tagged k 2 (by decide) hk).1) (fun k hk=>(tagged k 2 (by decide) hk).2),⟨hI,hw3.sto.2⟩,hw3.twin,hw3.at_,sep_tags hf'⟩,?_,?_,?_,?_,?_,?_,?_,?_,h.apart,hws,hslot,?_,hcnt⟩
 ·rw[hl,hptr]
  exact ownsRow_keep h.rowW (fun g hg=>(tagged g 3 (by decide) (h.tagW g hg)).2)
 ·rw[hl];exact fun g hg=>(tagged g 3 (by decide) (h.tagW g hg)).1
 ·exact ownsRow_keep h.rowD (fun g hg=>(tagged g 4 (by decide) (h.tagD g hg)).2)
 ·exact fun g hg=>(tagged g 4 (by decide) (h.tagD g hg)).1
 ·exact h.names.keep (fun k hk=>(hheld k (.inl hk) (h.names.lt k hk)).1) m.size
 ·exact h.ents.keep (fun k hk=>(hheld k (.inr (.inl hk)) (h.ents.lt k hk)).1) m.size
 ·exact h.ids.keep (fun k hk=>(hheld k (.inr (.inr hk)) (h.ids.lt k hk)).1) m.size
 ·intro k hk
  have hlt:k<w.heap.size:=by
   rcases hk with e | e | e
   ·exact h.names.lt k e
   ·exact h.ents.lt k e
   ·exact h.ids.lt k e
  exact (hheld k hk hlt).2
 ·intro j hj
  obtain⟨na,nc,da,dc,hst⟩:=h.docs j hj;exact⟨na,nc,da,dc,hst.keep (fun k hk=>(tagged k (8+j) (by omega) hk).1) (fun k hk=>(tagged k (8+j) (by omega) hk).2)⟩
theorem M4At.sinv (h:M4At R tg w B0 W s r p lim objs ros got ws ds q8 q9 q11):SInv tg w s p objs got false lim:=⟨h.fresh,R.pt,h.brk,h.w3.sto.1,h.got_,h.w3.sto.2.2.1.sound,h.glen⟩
theorem M4At.below (h:M4At R tg w B0 W s r p lim objs ros got ws ds q8 q9 q11)(hb:Below w.heap.size w w'):M4At R tg w' B0 W s r p lim objs ros got ws ds q8 q9 q11:=by
 have m:Moves (fun _=>False) tg tg w w':=Moves.of_below hb;exact h.after m (fun _ h=>h) rfl h.brk (h.w3.sto.1.below hb (fun _ _ h=>h)) (h.got_.moves m (fun h=>h)) h.glen rfl (fun x hx=>(h.wsat x hx).moves m (fun _ h=>h)) h.slot h.cnt
theorem sum_set {α:Type}(f:α->Nat):∀(l:List α) (j:Nat) (h:j<l.length) (y:α),(l.map f).sum+f y=((l.set j y).map f).sum+f l[j]
 | x :: l,0,_,y=>by simp only[List.set_cons_zero,List.map_cons,List.sum_cons,List.getElem_cons_zero];omega
 | x :: l,j+1,h,y=>by
  have:=sum_set f l j (by simpa using h) y
  simp only[List.set_cons_succ,List.map_cons,List.sum_cons,List.getElem_cons_succ]
  omega
theorem M4At.work {j:Nat}{B:WB}{g:WG}{t:LT}(h:M4At R tg w B0 W s r p lim objs ros got ws ds q8 q9 q11)(hj:j<ws.length)(hx:ws[j]=(j+2,B,g,t)):
  QInv tg w s (j+2) p B objs { g with fs:={ g.fs with got:=got,brk:=false } } lim t/\HeldInj objs t/\
  ∀{tg':Tags} {w':World} {g':WG} {t':LT} {lim':Nat},lim<=lim'->Moves (Mine (j+2)) tg tg' w w'->QInv tg' w' s (j+2) p B objs g' lim' t'->g'.fs.brk=false->(∃l,g'.fs.got=got++l/\∀x,l.count x+g.fs.kn x=g'.fs.kn x)->HeldInj objs t'->
   ∃pt,M4At { R with pt:=pt } tg' w' B0 W s r p lim' objs ros g'.fs.got (ws.set j (j+2,B,g',t')) ds q8 q9 q11:=by
 have hxm:(j+2,B,g,t) ∈ ws:=by rw[<-hx];exact zzJ hj
 have hw:=h.wsat _ hxm;refine⟨⟨⟨hw.two,h.sinv,?_⟩,hw.flat,hw.ok,hw.fl⟩,hw.inj,fun {tg' w' g' t' lim'} hl m hQ hbk hgot hi=>?_⟩
 ·exact⟨hw.wp.tree,hw.wp.keptF,hw.wp.keptD,hw.wp.ownF,hw.wp.ownD,hw.wp.files,hw.wp.held,hw.wp.opens,hw.wp.ok⟩
 ·obtain⟨_,pt,hpb,hI,hG,hS,hgl⟩:=hQ.inv.st
  obtain⟨l,hgl2,hkn⟩:=hgot;refine⟨_,h.after m (fun c hc=>?_) (by simp) (hpb.trans hbk) hI hG hgl ?_ (fun x hxx=>?_) (fun k hk=>?_) (fun x=>?_)⟩
  ·rcases hc with hc | hc <;> simp only at hc <;> omega
  ·apply List.ext_getElem (by simp)
   intro k h1 h2;simp only[List.getElem_map,List.getElem_set];split
   ·rename_i e;subst e;rw[hx]
   ·rfl
  ·obtain⟨k,hk,rfl⟩:=List.getElem_of_mem hxx
   rw[List.getElem_set];split
   ·exact⟨hw.two,hQ.inv.wp,hQ.flat,hQ.ok,hQ.fl,hi⟩
   ·rename_i hne
    have hk':k<ws.length:=by simpa using hk
    have hx1:=h.wsat _ (zzJ hk');have hsl:=h.slot k hk';have hm:=hx1.moves m (fun c hc=>by
     rcases hc with hc | hc <;> simp only at hc <;> omega)
    exact⟨hm.two,hm.wp.mono hl,hm.flat,hm.ok,hm.fl,hm.inj⟩
  ·rw[List.getElem_set]
   have hk':k<ws.length:=by simpa using hk
   split
   ·rename_i e;subst e;rfl
   ·exact h.slot k hk'
  ·have h1:=sum_set (fun y:Slot=>y.2.2.1.fs.kn x) ws j hj (j+2,B,g',t')
   rw[hx] at h1;simp only at h1;have h2:=h.cnt x;have h3:=hkn x;rw[hgl2,List.count_append,h2];omega
theorem M4At.docs_ {j:Nat}{d:Doc}(h:M4At R tg w B0 W s r p lim objs ros got ws ds q8 q9 q11)(hj:j<ds.length)(hx:ds[j]=d):
  StInv (fun k=>tg k=(0,8+j)) w d.1 d.2.1 d.2.2.1 d.2.2.2/\∀{w':World} {nodes:List Ent} {data:List ByteArray} {rest:List Value},StInv (NewF (fun k=>tg k=(0,8+j)) w w') w' d.1 nodes data rest->Keeps (fun k=>tg k=(0,8+j)) w w'->
   ∃tg',M4At R tg' w' B0 W s r p lim objs ros got ws (ds.set j (d.1,nodes,data,rest)) q8 q9 q11:=by
 classical
 subst hx;refine⟨h.docs j hj,fun {w' nodes data rest} hst hk=>?_⟩;obtain⟨tg',htg⟩:∃tg':Tags,tg'=fun k=>if k<w.heap.size then tg k else if k<w'.heap.size then (0,8+j) else (0,0):=⟨_,rfl⟩
 have t1:∀k,k<w.heap.size->tg' k=tg k:=fun k hk=>by rw[htg];exact zzD hk
 have hf':Fresh tg' w':=fun k hk'=>by
  rw[htg];simp only;rw[zzB (by have:=hk.size;omega),zzB (by omega)]
 have m:Moves (fun t=>t=(0,8+j)) tg tg' w w':=⟨hk.os,hk.tape,hk.output,hk.size,t1,fun k hk1 hn=>hk.block k hk1 hn,fun _=>hf'⟩;have tagged:∀k c,c≠0->c≠8+j->tg k=(0,c)->tg' k=(0,c)/\w'.heap[k]? = w.heap[k]?:=fun k c hc hcj hk1=>by
  have hlt:=h.fresh.lt (by rw[hk1];intro e;exact hc (congrArg Prod.snd e));exact⟨(t1 k hlt).trans hk1,m.block k hlt (by rw[hk1];intro e;exact hcj (congrArg Prod.snd e))⟩
 have hheld:∀k,R.FN k\/R.FE k\/R.FI k->k<w.heap.size->w'.heap[k]? = w.heap[k]?/\tg' k=(0,0)/\B0<=k:=fun k hk1 hlt=>⟨m.block k hlt (by rw[(h.holds k hk1).1];intro e;have:=congrArg Prod.snd e;simp only at this;omega),(t1 k hlt).trans (h.holds k hk1).1,(h.holds k hk1).2⟩;have hw3:=h.w3;have hdl:(ds.set j (ds[j].1,nodes,data,rest)).length=ds.length:=by simp
 refine⟨tg',⟨hf',fun k hk1=>(t1 k (zzA hk1 h.size)).trans (h.old k hk1),zzG h.size hk.size,h.brk,h.got_.moves m (fun e=>by cases e),h.glen,?_,?_,?_,?_,?_,?_,?_,?_,?_,h.apart,fun x hxx=>?_,h.slot,?_,h.cnt⟩⟩
 ·rw[hdl]
  exact⟨hw3.law.keep (fun k hk=>(tagged k 1 (by decide) (by omega) hk).1) (fun k hk=>(tagged k 1 (by decide) (by omega) hk).2),hw3.ref.keep (fun k hk=>(tagged k 2 (by decide) (by omega) hk).1) (fun k hk=>(tagged k 2 (by decide) (by omega) hk).2),⟨hw3.sto.1.keep (fun k hk1 hF=>m.block k hk1 (by rw[hF];intro e;cases e)) (fun k hk1 hF=>(t1 k hk1).trans hF),hw3.sto.2⟩,hw3.twin,hw3.at_,sep_tags hf'⟩
 ·exact ownsRow_keep h.rowW (fun g hg=>(tagged g 3 (by decide) (by omega) (h.tagW g hg)).2)
 ·exact fun g hg=>(tagged g 3 (by decide) (by omega) (h.tagW g hg)).1
 ·rw[hdl]
  have hmap:(ds.set j (ds[j].1,nodes,data,rest)).map (fun x=>ptr x.1)=ds.map fun x=>ptr x.1:=by
   apply List.ext_getElem (by simp);intro k h1 h2;simp only[List.getElem_map,List.getElem_set];split
   ·rename_i e;subst e;rfl
   ·rfl
  rw[hmap];exact ownsRow_keep h.rowD (fun g hg=>(tagged g 4 (by decide) (by omega) (h.tagD g hg)).2)
 ·rw[hdl];exact fun g hg=>(tagged g 4 (by decide) (by omega) (h.tagD g hg)).1
 ·exact h.names.keep (fun k hk1=>(hheld k (.inl hk1) (h.names.lt k hk1)).1) hk.size
 ·exact h.ents.keep (fun k hk1=>(hheld k (.inr (.inl hk1)) (h.ents.lt k hk1)).1) hk.size
 ·exact h.ids.keep (fun k hk1=>(hheld k (.inr (.inr hk1)) (h.ids.lt k hk1)).1) hk.size
 ·intro k hk1
  have hlt:k<w.heap.size:=by
   rcases hk1 with e | e | e
   ·exact h.names.lt k e
   ·exact h.ents.lt k e
   ·exact h.ids.lt k e
  exact (hheld k hk1 hlt).2
 ·have hx1:=h.wsat x hxx
  exact hx1.moves m (fun c hc=>by have:=hx1.two;have:=congrArg Prod.fst hc;simp only at this;omega)
 ·intro i hi
  have hi':i<ds.length:=by simpa using hi
  simp only[List.getElem_set];split
  ·rename_i e
   subst e;obtain⟨na,nc,da,dc,hst⟩:=hst;refine⟨na,nc,da,dc,hst.keep (fun k hk1=>?_) (fun _ _=>rfl)⟩;rcases hk1 with hk1 | ⟨hk1,hk2⟩
   ·exact (t1 k (h.fresh.lt (by rw[hk1];intro e;have:=congrArg Prod.snd e;simp only at this;omega))).trans hk1
   ·rw[htg]
    simp only;rw[zzB (by omega),zzD hk2]
  ·obtain⟨na,nc,da,dc,hst⟩:=h.docs i hi'
   exact⟨na,nc,da,dc,hst.keep (fun k hk1=>(tagged k (8+i) (by omega) (by omega) hk1).1) (fun k hk1=>(tagged k (8+i) (by omega) (by omega) hk1).2)⟩
end
theorem sem_app {a:List Ob}(hS:Sound a)(l:List Ob)(fc:FileC):∀(x:List ByteArray) (n:Nat) (t:LT),LTok a n t->sem (a++l) fc t x=sem a fc t x
 | [],n,t,h=>by
  rw[sem_nil,sem_nil]
  cases t with
  | file i=>rw[LTok] at h;simp only[nd];rw[bytesOf_app l (by rw[h];decide)]
  | held f=>rfl
  | dir i=>rfl
  | own es=>rfl
 | m :: r,n,t,h=>by
  have hk:kids (a++l) t=kids a t:=by
   cases t with
   | file i=>rfl
   | held f=>rfl
   | dir i=>rw[LTok] at h;simp only[kids];rw[entsOf_app l (by rw[h.1];decide)]
   | own es=>rfl
  rw[sem_cons,sem_cons,hk];cases hkk:kids a t with
  | none=>rfl
  | some ks=>
   rw[Option.bind_some,Option.bind_some];cases hp:pickK ks m with
   | none=>rfl
   | some c=>
    rw[Option.bind_some,Option.bind_some];have hmem:∃y ∈ ks,y.2=c:=by
     unfold pickK at hp;obtain⟨z,hz,e⟩:=Option.map_eq_some_iff.1 hp;exact⟨z,List.mem_of_find?_eq_some hz,e⟩
    obtain⟨y,hy,e⟩:=hmem;obtain⟨k,_,hok⟩:=((ok_kids hS h hkk).2.2 y hy).2;rw[e] at hok;exact sem_app hS l fc r k c hok
theorem at_app {a:List Ob}(hS:Sound a)(l:List Ob):∀(x:List ByteArray) (n:Nat) (t:LT),LTok a n t->t.at (a++l) x=t.at a x
 | [],n,t,_=>by rw[at_nil,at_nil]
 | m :: x,n,t,ht=>by
  rw[at_cons,at_cons]
  have hk:kids (a++l) t=kids a t:=by
   cases t with
   | file i=>rfl
   | held f=>rfl
   | own es=>rfl
   | dir i=>
    have hki:kindOf a i=2:=by cases n <;> (rw[LTok] at ht;exact ht.1)
    show some _=some _;rw[entsOf_app l (by rw[hki];decide)]
  rw[hk];cases hks:kids a t with
  | none=>rfl
  | some ks=>
   simp only[Option.bind_some];cases hp:pickK ks m with
   | none=>rfl
   | some c=>
    simp only[Option.bind_some];obtain⟨k,_,hc⟩:=((ok_kids hS ht hks).2.2 (m,c) (pick_mem hp)).2;exact at_app hS l x k c hc
theorem WsAt.app {p:Nat}{objs:List Ob}{lim:Nat}{tg:Tags}{w:World}{x:Slot}(hS:Sound objs)(h:WsAt tg w p objs lim x)(l:List Ob):WsAt tg w p (objs++l) lim x:=by
 have hat:=fun q=>at_app hS l q 5 _ h.ok;have hb:∀id,kindOf objs id=1->bytesOf (objs++l) id=bytesOf objs id:=fun id hk=>bytesOf_app l (by rw[hk];decide);have he:∀id,kindOf objs id=2->entsOf (objs++l) id=entsOf objs id:=fun id hk=>entsOf_app l (by rw[hk];decide);have hkk:∀id k,kindOf objs id=k->k≠0->kindOf (objs++l) id=k:=fun id k hk h0=>by rw[kindOf_app l (by rw[hk];exact h0)];exact hk
 refine⟨h.two,?_,⟨h.flat.kind,h.flat.root,fun q=>by rw[hat q];exact h.flat.od q,fun q=>by rw[hat q];exact h.flat.of q⟩,LTok_app l 5 _ h.ok,fun f id d hf h0=>hkk id 1 (h.fl f id d hf h0) (by decide),fun y z b h1 h2=>by rw[hat] at h1 h2;exact h.inj y z b h1 h2⟩;have hw:=h.wp;obtain⟨tF,nF,MF,lF,vF,mF,kF⟩:=hw.keptF;obtain⟨tD,nD,MD,vK,lD,vD,mD,kD⟩:=hw.keptD;refine⟨hw.tree,⟨tF,nF,MF,lF,vF,fun id=>?_,fun id hid=>hkk id 1 (kF id hid) (by decide)⟩,⟨tD,nD,MD,vK,lD,vD,mD,fun id hid=>⟨hkk id 2 (kD id hid).1 (by decide),by rw[he id (kD id hid).1];exact (kD id hid).2⟩⟩,hw.ownF,hw.ownD,hw.files,hw.held,hw.opens,⟨fun h0=>hkk _ 2 (hw.ok.root h0) (by decide),fun q es ho e hx=>?_⟩⟩
 ·rw[mF id]
  by_cases hk:x.2.2.1.fs.kF id=true
  ·rw[zzD hk,zzD hk,hb id (kF id hk)]
  ·rw[zzB hk,zzB hk]
 ·obtain⟨e1,e2⟩:=hw.ok.od q es ho e hx
  exact⟨e1,fun h0=>hkk _ _ (e2 h0) (by rcases e1 with h | h <;> (rw[h];decide))⟩
theorem LawS.reset {F F':Nat->Prop}{w w':World}{W s r n:Nat}{c5 c6 c7 c8 c9 c10 c11 d5 d6 d7 d8 d9 d10 d11:Value}(h:LawS F w W s r n c5 c6 c7 c8 c9 c10 c11)(hF:∀k,F k->F' k)
  (hb:∀a0 a1 a2 a3 a4,w.heap[W]? = some (.cells #[a0,a1,a2,a3,a4,c5,c6,c7,c8,c9,c10,c11] 71 (0,0))->w'.heap[W]? = some (.cells #[a0,a1,a2,a3,a4,d5,d6,d7,d8,d9,d10,d11] 71 (0,0)))(hk:∀k,F k->k≠W->w'.heap[k]? = w.heap[k]?):LawS F' w' W s r n d5 d6 d7 d8 d9 d10 d11:=by
 obtain⟨ia,ka,pa,ic,kc,pc,paths,hl,hp⟩:=h;have row:∀{t:TypeId} {v:Value} {n:Nat} {xs:List Value},w.ownsRow 0 t 1 v n xs->71≠t->(∀g,v.ownBlock=some g->F g)->w'.ownsRow 0 t 1 v n xs:=fun hr ht hf=>ownsRow_keep hr (fun g hg=>hk g (hf g hg) (fun e=>owns_ne_cells hr hl.hW ht (by rw[<-e];exact hg.symm)));exact⟨ia,ka,pa,ic,kc,pc,paths,⟨hF _ hl.fw,hb _ _ _ _ _ hl.hW,row hl.rowI (by decide) hl.fi,row hl.rowK (by decide) hl.fk,row hl.rowP (by decide) hl.fp,fun g hg=>hF g (hl.fi g hg),fun g hg=>hF g (hl.fk g hg),fun g hg=>hF g (hl.fp g hg)⟩,hp⟩
theorem own_same9 {la:Option Addr}{n m c d:Nat}:(Value.slice la n c).ownBlock=(Value.slice la m d).ownBlock:=by cases la <;> rfl
theorem HeldV.next {F:Nat->Prop}{t tl:TypeId}{V:Nat->Value}{w w':World}{W q i:Nat}{cs:Array Value}{ea la:Option Addr}{ec m c:Nat}{hs:List HeldL}(h:HeldV F t tl V w ea ec q hs)(htl:t≠tl)(hk:Kept2 t tl (V q) i w w' W q cs ea ec la m c hs)(hW:¬F W)
  (hla:∀g,(Value.slice la m c).ownBlock=some g->¬F g/\g<w.heap.size)(hm:m+3<=1000000000):
  ∃g4 c4 hs',w'.heap[W]? = some (.cells (cs.setIfInBounds i (.slice (some ⟨g4,0,none⟩) (4*(q+1)) c4)) 71 (0,0))/\HeldV (fun k=>F k\/some k=(Value.slice la m c).ownBlock\/(w.heap.size<=k/\k<w'.heap.size)) t tl V w' (some ⟨g4,0,none⟩) c4 (q+1) hs'/\Keeps (fun x=>x=W\/F x\/some x=(Value.slice la m c).ownBlock) w w':=by
 obtain⟨g4,c4,va,vb,vc,k1,k2,ea1,eb1,ec1,kall,k7,k8⟩:=hk;have z:=k8.size;have hsub:Keeps (fun x=>x=W\/F x\/some x=(Value.slice la m c).ownBlock) w w':=⟨k8.os,k8.tape,k8.output,k8.size,fun k hk1 hn=>k8.block k hk1 (by
  rintro (e | e | e)
  ·exact hn (.inl e)
  ·exact hn (.inr (.inl (h.own k e.symm)))
  ·exact hn (.inr (.inr e)))⟩
 refine⟨g4,c4,_,k1,⟨?_,k2,?_,?_,?_⟩,hsub⟩
 ·simp[h.len];omega
 ·intro g hg
  simp only[Value.ownBlock,Option.some.injEq] at hg;subst hg;rcases k7 with e | e
  ·exact .inl (h.own _ e.symm)
  ·exact .inr (.inr ⟨e,ownsRow_lt k2 rfl⟩)
 ·intro j hj
  by_cases hlt:j<hs.length
  ·rw[List.getElem_append_left hlt]
   obtain⟨l1,l2,l3⟩:=h.lists j hlt;refine⟨l1,ownsRow_keep l2 (fun x hx=>k8.block x (h.lt x (l3 x hx)) ?_),fun g hg=>.inl (l3 g hg)⟩;rintro (e | e | e)
   ·subst e;exact hW (l3 _ hx)
   ·exact rows_apart l2 h.row htl hx e
   ·exact (hla x e.symm).1 (l3 x hx)
  ·obtain⟨d,rfl⟩:∃d,j=hs.length+d:=⟨j-hs.length,by omega⟩
   have hd:d<4:=by simp at hj;omega
   rw[List.getElem_append_right (by omega)];have hq:(hs.length+d) / 4=q:=by rw[h.len];omega
   simp only[Nat.add_sub_cancel_left,hq];have key:∀x ∈ [((la,m,c):HeldL),va,vb,vc],x.2.1<=1000000000->x.2.1<=1000000000/\SeesV t (V q) w' x/\∀g,(encH x).ownBlock=some g->F g\/some g=(Value.slice la m c).ownBlock\/(w.heap.size<=g/\g<w'.heap.size):=fun x hx hx1=>by
    obtain⟨s1,s2⟩:=kall x hx;refine⟨hx1,s1,fun g hg=>?_⟩;rcases s2 with ⟨e1,e2⟩ | ⟨g',e1,e2⟩
    ·refine .inr (.inl ?_)
     rw[<-hg];unfold encH;rw[e1];exact own_same9
    ·have hgg:g'=g:=by
      unfold encH at hg;rw[e1] at hg;exact Option.some.inj hg
     subst hgg;exact .inr (.inr ⟨e2,ownsRow_lt s1 hg⟩)
   match d,hd with
   | 0,_=>exact key _ (by simp) (show m<=1000000000 by omega)
   | 1,_=>exact key va (by simp) (by omega)
   | 2,_=>exact key vb (by simp) (by omega)
   | 3,_=>exact key vc (by simp) (by omega)
 ·rintro k (hk | hk | hk)
  ·exact zzA (h.lt k hk) z
  ·exact zzA (hla k hk.symm).2 z
  ·exact hk.2
section
variable {R:Rows4}{tg tg':Tags}{w w':World}{B0 W s r p lim:Nat}{objs ros:List Ob}{got:List Int}{ws:List Slot}{ds:List Doc}{q8 q9 q11:Nat}
theorem M4At.fW (h:M4At R tg w B0 W s r p lim objs ros got ws ds q8 q9 q11):tg W=(0,1):=by
 obtain⟨_,_,_,_,_,_,_,hl,_⟩:=h.w3.law;exact hl.fw
theorem M4At.block (h:M4At R tg w B0 W s r p lim objs ros got ws ds q8 q9 q11):∃a0 a1 a2 a3 a4,w.heap[W]? = some (.cells #[a0,a1,a2,a3,a4,.slice R.wa ws.length R.wc,.slice R.ta ds.length R.tc,.bool false,.slice R.na (4*q8) R.nc,.slice R.ea (4*q9) R.ec,.slice none 0 0,.slice R.ia (4*q11) R.ic] 71 (0,0)):=h.w3.block
theorem M4At.rest {P:Nat×Nat->Prop}(h:M4At R tg w B0 W s r p lim objs ros got ws ds q8 q9 q11)(m:Moves P tg tg' w w')(hP:∀t,P t->t.1=0/\t.2<=4/\t.2≠2):
  RefInv (fun k=>tg' k=(0,2)) w' r ros/\InvQ ⟨R.pt,p,[]⟩ (fun k=>tg' k=(1,0)) w' s objs/\GotRow tg' w' R.pt got/\(∀x ∈ ws,WsAt tg' w' p objs lim x)/\∀j (hj:j<ds.length),StInv (fun k=>tg' k=(0,8+j)) w' ds[j].1 ds[j].2.1 ds[j].2.2.1 ds[j].2.2.2:=by
 have hn:∀t,(t.1≠0\/4<t.2\/t.2=2)->¬P t:=fun t ht hp=>by have:=hP t hp;omega
 have tagged:∀k t,t≠(0,0)->(t.1≠0\/4<t.2\/t.2=2)->tg k=t->tg' k=t/\w'.heap[k]? = w.heap[k]?:=fun k t h0 ht hk=>by
  have hlt:=h.fresh.lt (by rw[hk];exact h0);exact⟨(m.tags k hlt).trans hk,m.block k hlt (by rw[hk];exact hn t ht)⟩
 refine⟨h.w3.ref.keep (fun k hk=>(tagged k (0,2) (by decide) (by decide) hk).1) (fun k hk=>(tagged k (0,2) (by decide) (by decide) hk).2),⟨h.w3.sto.1.keep (fun k _ hk=>(tagged k (1,0) (by decide) (by decide) hk).2) (fun k _ hk=>(tagged k (1,0) (by decide) (by decide) hk).1),h.w3.sto.2⟩,h.got_.moves m (hn _ (by decide)),fun x hx=>(h.wsat x hx).moves m (fun c=>hn _ (by have:=(h.wsat x hx).two;left;show x.1≠0;omega)),fun j hj=>?_⟩;obtain⟨na,nc,da,dc,hst⟩:=h.docs j hj;have hne:((0,8+j):Nat×Nat)≠(0,0):=fun e=>by have:=congrArg Prod.snd e;simp only at this;omega
 have hlg:((0,8+j):Nat×Nat).1≠0\/4<((0,8+j):Nat×Nat).2\/((0,8+j):Nat×Nat).2=2:=by right;left;show 4<8+j;omega
 exact⟨na,nc,da,dc,hst.keep (fun k hk=>(tagged k _ hne hlg hk).1) (fun k hk=>(tagged k _ hne hlg hk).2)⟩
theorem M4At.low {X:Nat->Prop}(h:M4At R tg w B0 W s r p lim objs ros got ws ds q8 q9 q11)(hk:Keeps X w w')(hX:∀k,X k->tg k≠(0,0)\/B0<=k):Below B0 w w':=
 ⟨hk.os,hk.tape,hk.output,hk.size,fun k hk1=>hk.block k (zzA hk1 h.size) (fun hx=>by
  rcases hX k hx with e | e
  ·exact e (h.old k hk1)
  ·omega)⟩
theorem M4At.keepN {la:Option Addr}{m c:Nat}{xs:List Value}(h:M4At R tg w B0 W s r p lim objs ros got ws ds q8 q9 q11)(hq:4*q8<=1000000000)(hm:m+3<=1000000000)(hl:w.ownsRow 0 9 1 (.slice la m c) m xs)(hla:∀g,(Value.slice la m c).ownBlock=some g->tg g=(0,0)/\B0<=g/\¬R.FN g/\¬R.FE g/\¬R.FI g):
  Calls Tryz.prog 93 #[.pointer (some ⟨W,8,none⟩),.slice la m c] w fun e w'=>e=.returned (.tuple #[])/\∃R',M4At R' tg w' B0 W s r p lim objs ros got ws ds (q8+1) q9 q11/\Below B0 w w':=by
 obtain⟨a0,a1,a2,a3,a4,hW⟩:=h.block;refine (keepNames_two W q8 _ R.na R.nc m c la R.ns xs w hW rfl h.names.len hq h.names.row (by omega) hl).mono ?_;rintro e w' ⟨he,hk⟩;refine⟨he,?_⟩;have nFW:∀k,R.FN k\/R.FE k\/R.FI k->k≠W:=fun k hk e=>by have:=(h.holds k hk).1;rw[e,h.fW] at this;cases this
 obtain⟨g4,c4,hs',k1,k2,k3⟩:=h.names.next (by decide) (show Kept2 9 131 (VN q8) 8 w w' W q8 _ R.na R.nc la m c R.ns from hk) (fun hf=>nFW W (.inl hf) rfl) (fun g hg=>⟨(hla g hg).2.2.1,ownsRow_lt hl hg⟩) hm;have htag:∀k,R.FN k\/some k=(Value.slice la m c).ownBlock->tg k=(0,0):=fun k hk=>by
  rcases hk with e | e
  ·exact (h.holds k (.inl e)).1
  ·exact (hla k e.symm).1
 have hfr:Fresh tg w':=fun k hk=>h.fresh k (zzG k3.size hk);have mv:Moves (fun t=>t=(0,0)\/t=(0,1)) tg tg w w':=⟨k3.os,k3.tape,k3.output,k3.size,fun _ _=>rfl,fun k hk1 hn=>k3.block k hk1 (by
  rintro (e | e)
  ·exact hn (.inr (by rw[e];exact h.fW))
  ·exact hn (.inl (htag k e))),fun _=>hfr⟩
 obtain⟨r1,r2,r3,r4,r5⟩:=h.rest mv (by rintro t (rfl | rfl) <;> decide);have keep:∀k,k<w.heap.size->k≠W->¬R.FN k->some k≠(Value.slice la m c).ownBlock->w'.heap[k]? = w.heap[k]?:=fun k h1 h2 h3 h4=>k3.block k h1 (by
  rintro (e | e | e)
  ·exact h2 e
  ·exact h3 e
  ·exact h4 e)
 have keepT:∀k,tg k≠(0,0)->k≠W->w'.heap[k]? = w.heap[k]?:=fun k h1 h2=>keep k (h.fresh.lt h1) h2 (fun e=>h1 (htag k (.inl e))) (fun e=>h1 (htag k (.inr e)));refine⟨{ R with na:=some ⟨g4,0,none⟩,nc:=c4,ns:=hs',FN:=fun k=>R.FN k\/some k=(Value.slice la m c).ownBlock\/(w.heap.size<=k/\k<w'.heap.size) },⟨hfr,h.old,zzG h.size k3.size,h.brk,r3,h.glen,⟨?_,r1,r2,h.w3.twin,h.w3.at_,sep_tags hfr⟩,?_,h.tagW,?_,h.tagD,k2,?_,?_,?_,?_,r4,h.slot,r5,h.cnt⟩,?_⟩
 ·refine h.w3.law.reset (fun _ h=>h) (fun b0 b1 b2 b3 b4 hb=>?_) (fun k hk1 hk2=>keepT k (by rw[hk1];decide) hk2)
  rw[hW] at hb;simp only[Option.some.injEq,Obj.cells.injEq,Array.mk.injEq,List.cons.injEq,and_true] at hb;obtain⟨e0,e1,e2,e3,e4⟩:=hb;rw[k1,e0,e1,e2,e3,e4];rfl
 ·exact ownsRow_keep h.rowW (fun g hg=>keepT g (by rw[h.tagW g hg];decide) (fun e=>by have:=h.tagW g hg;rw[e,h.fW] at this;cases this))
 ·exact ownsRow_keep h.rowD (fun g hg=>keepT g (by rw[h.tagD g hg];decide) (fun e=>by have:=h.tagD g hg;rw[e,h.fW] at this;cases this))
 ·exact h.ents.keep (fun k hk=>keep k (h.ents.lt k hk) (nFW k (.inr (.inl hk))) (fun e=>(h.apart k).1 ⟨e,hk⟩) (fun e=>(hla k e.symm).2.2.2.1 hk)) k3.size
 ·exact h.ids.keep (fun k hk=>keep k (h.ids.lt k hk) (nFW k (.inr (.inr hk))) (fun e=>(h.apart k).2.1 ⟨e,hk⟩) (fun e=>(hla k e.symm).2.2.2.2 hk)) k3.size
 ·rintro k ((e | e | e) | e | e)
  ·exact h.holds k (.inl e)
  ·exact⟨(hla k e.symm).1,(hla k e.symm).2.1⟩
  ·exact⟨h.fresh k e.1,zzG h.size e.1⟩
  ·exact h.holds k (.inr (.inl e))
  ·exact h.holds k (.inr (.inr e))
 ·refine fun k=>⟨?_,?_,(h.apart k).2.2⟩
  ·rintro ⟨e | e | e,f⟩
   ·exact (h.apart k).1 ⟨e,f⟩
   ·exact (hla k e.symm).2.2.2.1 f
   ·have:=h.ents.lt k f;omega
  ·rintro ⟨e | e | e,f⟩
   ·exact (h.apart k).2.1 ⟨e,f⟩
   ·exact (hla k e.symm).2.2.2.2 f
   ·have:=h.ids.lt k f;omega
 ·exact h.low k3 (by
   rintro k (e | e | e)
   ·exact .inl (by rw[e,h.fW];decide)
   ·exact .inr (h.holds k (.inl e)).2
   ·exact .inr (hla k e.symm).2.1)
theorem M4At.keepI {la:Option Addr}{m c:Nat}{xs:List Value}(h:M4At R tg w B0 W s r p lim objs ros got ws ds q8 q9 q11)(hq:4*q11<=1000000000)(hm:m+3<=1000000000)(hl:w.ownsRow 0 29 1 (.slice la m c) m xs)(hla:∀g,(Value.slice la m c).ownBlock=some g->tg g=(0,0)/\B0<=g/\¬R.FN g/\¬R.FE g/\¬R.FI g):
  Calls Tryz.prog 88 #[.pointer (some ⟨W,8,none⟩),.slice la m c] w fun e w'=>e=.returned (.tuple #[])/\∃R',M4At R' tg w' B0 W s r p lim objs ros got ws ds q8 q9 (q11+1)/\Below B0 w w':=by
 obtain⟨a0,a1,a2,a3,a4,hW⟩:=h.block;refine (keepIDs_any W q11 _ R.ia R.ic m c la R.js xs w hW rfl h.ids.len hq h.ids.row (by omega) hl).mono ?_;rintro e w' ⟨he,hk⟩;refine⟨he,?_⟩;have nFW:∀k,R.FN k\/R.FE k\/R.FI k->k≠W:=fun k hk e=>by have:=(h.holds k hk).1;rw[e,h.fW] at this;cases this
 obtain⟨g4,c4,hs',k1,k2,k3⟩:=h.ids.next (by decide) (show Kept2 29 59 (VI q11) 11 w w' W q11 _ R.ia R.ic la m c R.js from hk) (fun hf=>nFW W (.inr (.inr hf)) rfl) (fun g hg=>⟨(hla g hg).2.2.2.2,ownsRow_lt hl hg⟩) hm;have htag:∀k,R.FI k\/some k=(Value.slice la m c).ownBlock->tg k=(0,0):=fun k hk=>by
  rcases hk with e | e
  ·exact (h.holds k (.inr (.inr e))).1
  ·exact (hla k e.symm).1
 have hfr:Fresh tg w':=fun k hk=>h.fresh k (zzG k3.size hk);have mv:Moves (fun t=>t=(0,0)\/t=(0,1)) tg tg w w':=⟨k3.os,k3.tape,k3.output,k3.size,fun _ _=>rfl,fun k hk1 hn=>k3.block k hk1 (by
  rintro (e | e)
  ·exact hn (.inr (by rw[e];exact h.fW))
  ·exact hn (.inl (htag k e))),fun _=>hfr⟩
 obtain⟨r1,r2,r3,r4,r5⟩:=h.rest mv (by rintro t (rfl | rfl) <;> decide);have keep:∀k,k<w.heap.size->k≠W->¬R.FI k->some k≠(Value.slice la m c).ownBlock->w'.heap[k]? = w.heap[k]?:=fun k h1 h2 h3 h4=>k3.block k h1 (by
  rintro (e | e | e)
  ·exact h2 e
  ·exact h3 e
  ·exact h4 e)
 have keepT:∀k,tg k≠(0,0)->k≠W->w'.heap[k]? = w.heap[k]?:=fun k h1 h2=>keep k (h.fresh.lt h1) h2 (fun e=>h1 (htag k (.inl e))) (fun e=>h1 (htag k (.inr e)));refine⟨{ R with ia:=some ⟨g4,0,none⟩,ic:=c4,js:=hs',FI:=fun k=>R.FI k\/some k=(Value.slice la m c).ownBlock\/(w.heap.size<=k/\k<w'.heap.size) },⟨hfr,h.old,zzG h.size k3.size,h.brk,r3,h.glen,⟨?_,r1,r2,h.w3.twin,h.w3.at_,sep_tags hfr⟩,?_,h.tagW,?_,h.tagD,?_,?_,k2,?_,?_,r4,h.slot,r5,h.cnt⟩,?_⟩
 ·refine h.w3.law.reset (fun _ h=>h) (fun b0 b1 b2 b3 b4 hb=>?_) (fun k hk1 hk2=>keepT k (by rw[hk1];decide) hk2)
  rw[hW] at hb;simp only[Option.some.injEq,Obj.cells.injEq,Array.mk.injEq,List.cons.injEq,and_true] at hb;obtain⟨e0,e1,e2,e3,e4⟩:=hb;rw[k1,e0,e1,e2,e3,e4];rfl
 ·exact ownsRow_keep h.rowW (fun g hg=>keepT g (by rw[h.tagW g hg];decide) (fun e=>by have:=h.tagW g hg;rw[e,h.fW] at this;cases this))
 ·exact ownsRow_keep h.rowD (fun g hg=>keepT g (by rw[h.tagD g hg];decide) (fun e=>by have:=h.tagD g hg;rw[e,h.fW] at this;cases this))
 ·exact h.names.keep (fun k hk=>keep k (h.names.lt k hk) (nFW k (.inl hk)) (fun e=>(h.apart k).2.1 ⟨hk,e⟩) (fun e=>(hla k e.symm).2.2.1 hk)) k3.size
 ·exact h.ents.keep (fun k hk=>keep k (h.ents.lt k hk) (nFW k (.inr (.inl hk))) (fun e=>(h.apart k).2.2 ⟨hk,e⟩) (fun e=>(hla k e.symm).2.2.2.1 hk)) k3.size
 ·rintro k (e | e | e | e | e)
  ·exact h.holds k (.inl e)
  ·exact h.holds k (.inr (.inl e))
  ·exact h.holds k (.inr (.inr e))
  ·exact⟨(hla k e.symm).1,(hla k e.symm).2.1⟩
  ·exact⟨h.fresh k e.1,zzG h.size e.1⟩
 ·refine fun k=>⟨(h.apart k).1,?_,?_⟩
  ·rintro ⟨f,e | e | e⟩
   ·exact (h.apart k).2.1 ⟨f,e⟩
   ·exact (hla k e.symm).2.2.1 f
   ·have:=h.names.lt k f;omega
  ·rintro ⟨f,e | e | e⟩
   ·exact (h.apart k).2.2 ⟨f,e⟩
   ·exact (hla k e.symm).2.2.2.1 f
   ·have:=h.ents.lt k f;omega
 ·exact h.low k3 (by
   rintro k (e | e | e)
   ·exact .inl (by rw[e,h.fW];decide)
   ·exact .inr (h.holds k (.inr (.inr e))).2
   ·exact .inr (hla k e.symm).2.1)
theorem M4At.still (h:M4At R tg w B0 W s r p lim objs ros got ws ds q8 q9 q11)(h8:4*q8<=1000000000)(h9:4*q9<=1000000000)(h11:4*q11<=1000000000):
  Calls Tryz.prog 24 #[.pointer (some ⟨W,8,none⟩)] w fun e w'=>e=.returned (.bool true)/\Below w.heap.size w w':=by
 obtain⟨a0,a1,a2,a3,a4,hW⟩:=h.block;have e8:w.cell? ⟨W,8,none⟩=some (.slice R.na (4*q8) R.nc):=by simp[World.cell?,hW]
 have e9:w.cell? ⟨W,9,none⟩=some (.slice R.ea (4*q9) R.ec):=by simp[World.cell?,hW]
 have e10:w.cell? ⟨W,10,none⟩=some (.slice none 0 0):=by simp[World.cell?,hW]
 have e11:w.cell? ⟨W,11,none⟩=some (.slice R.ia (4*q11) R.ic):=by simp[World.cell?,hW]
 have rN:=h.names.row;have rE:=h.ents.row;have rI:=h.ids.row;rw[<-h.names.len] at e8 h8 rN;rw[<-h.ents.len] at e9 h9 rE;rw[<-h.ids.len] at e11 h11 rI;have hWl:W<w.heap.size:=(Array.getElem?_eq_some_iff.1 hW).1;refine still_more W R.na R.ea R.ia R.nc R.ec R.ic R.ns R.hs R.js w hWl e8 e9 e10 e11 rN rE rI h.names.full h.ents.full h.ids.full h8 h9 h11 (fun x hx=>?_) (fun x hx=>?_) (fun x hx=>?_)
 ·obtain⟨i,hi,rfl⟩:=List.getElem_of_mem hx
  exact (h.names.lists i hi).1
 ·obtain⟨i,hi,rfl⟩:=List.getElem_of_mem hx
  have:=(h.ents.lists i hi).1
  omega
 ·obtain⟨i,hi,rfl⟩:=List.getElem_of_mem hx
  exact (h.ids.lists i hi).1
theorem M4At.w3based (h:M4At R tg w B0 W s r p lim objs ros got ws ds q8 q9 q11):W3 ⟨R.pt,p,objs⟩ (fun k=>tg k=(0,1)) (fun k=>tg k=(0,2)) (fun k=>tg k=(1,0)) w W s r objs ros (.slice R.wa ws.length R.wc) (.slice R.ta ds.length R.tc) (.bool false) (.slice R.na (4*q8) R.nc) (.slice R.ea (4*q9) R.ec) (.slice none 0 0) (.slice R.ia (4*q11) R.ic):=⟨h.w3.law,h.w3.ref,⟨h.w3.sto.1,List.prefix_refl _,h.w3.sto.2.2⟩,h.w3.twin,h.w3.at_,h.w3.sep⟩
theorem M4At.of_played {FL' FR' FS' FH':Nat->Prop}{objs' ros':List Ob}{ea':Option Addr}{ec' q':Nat}{hs':List HeldL}(h:M4At R tg w B0 W s r p lim objs ros got ws ds q8 q9 q11)
  (h':W3 ⟨R.pt,p,objs⟩ FL' FR' FS' w' W s r objs' ros' (.slice R.wa ws.length R.wc) (.slice R.ta ds.length R.tc) (.bool false) (.slice R.na (4*q8) R.nc) (.slice ea' (4*q') ec') (.slice none 0 0) (.slice R.ia (4*q11) R.ic))(hh':Held FH' w' ea' ec' q' hs')(hap':∀k,FH' k->¬F3 FL' FR' FS' k)
  (hsub:Sub3 (fun k=>tg k=(0,1)) (fun k=>tg k=(0,2)) (fun k=>tg k=(1,0)) FL' FR' FS' w.heap.size)(hsubH:∀k,FH' k->R.FE k\/w.heap.size<=k)(hkp:Keeps (fun k=>F3 (fun k=>tg k=(0,1)) (fun k=>tg k=(0,2)) (fun k=>tg k=(1,0)) k\/R.FE k) w w'):
  ∃R' tg' l,objs'=objs++l/\M4At R' tg' w' B0 W s r p lim objs' ros' got ws ds q8 q' q11/\Below B0 w w':=by
 classical
 obtain⟨l,rfl⟩:∃l,objs'=objs++l:=by
  obtain⟨l,hl⟩:=h'.sto.2.1;exact⟨l,hl.symm⟩
 obtain⟨tg',htg⟩:∃tg':Tags,tg'=fun k=>if k<w.heap.size then tg k else if FL' k then (0,1) else if FR' k then (0,2) else if FS' k then (1,0) else (0,0):=⟨_,rfl⟩;have t1:∀k,k<w.heap.size->tg' k=tg k:=fun k hk=>by rw[htg];exact zzD hk
 have hsz:=hkp.size;have hf':Fresh tg' w':=fun k hk'=>by
  rw[htg];simp only;rw[zzB (by omega),zzB (fun e=>by have:=h'.sep.ll k e;omega),zzB (fun e=>by have:=(h'.sep.rl k e).1;omega),zzB (fun e=>by have:=(h'.sep.sl k e).1;omega)]
 have tL:∀k,FL' k->tg' k=(0,1):=fun k hk=>by
  rcases (hsub k).1 hk with e | e
  ·exact (t1 k (h.w3.sep.ll k e)).trans e
  ·rw[htg];simp only;rw[zzB (by omega),zzD hk]
 have tR:∀k,FR' k->tg' k=(0,2):=fun k hk=>by
  rcases (hsub k).2.1 hk with e | e
  ·exact (t1 k (h.w3.sep.rl k e).1).trans e
  ·rw[htg];simp only;rw[zzB (by omega),zzB (h'.sep.rl k hk).2,zzD hk]
 have tS:∀k,FS' k->tg' k=(1,0):=fun k hk=>by
  rcases (hsub k).2.2 hk with e | e
  ·exact (t1 k (h.w3.sep.sl k e).1).trans e
  ·rw[htg];simp only;rw[zzB (by omega),zzB (h'.sep.sl k hk).2,zzB (fun e=>h'.sep.rs k e hk),zzD hk]
 have tH:∀k,FH' k->tg' k=(0,0)/\B0<=k:=fun k hk=>by
  rcases hsubH k hk with e | e
  ·exact⟨(t1 k (h.ents.lt k e)).trans (h.holds k (.inr (.inl e))).1,(h.holds k (.inr (.inl e))).2⟩
  ·have hn:=hap' k hk
   refine⟨?_,zzG h.size e⟩;rw[htg];simp only;rw[zzB (by omega),zzB (fun x=>hn (.inl x)),zzB (fun x=>hn (.inr (.inl x))),zzB (fun x=>hn (.inr (.inr x)))]
 have keep:∀k,k<w.heap.size->tg k≠(0,1)->tg k≠(0,2)->tg k≠(1,0)->¬R.FE k->w'.heap[k]? = w.heap[k]?:=fun k h1 h2 h3 h4 h5=>hkp.block k h1 (by
  rintro ((e | e | e) | e)
  ·exact h2 e
  ·exact h3 e
  ·exact h4 e
  ·exact h5 e)
 have keepT:∀k t,tg k=t->t≠(0,0)->t≠(0,1)->t≠(0,2)->t≠(1,0)->tg' k=t/\w'.heap[k]? = w.heap[k]?:=fun k t hk h0 h1 h2 h3=>by
  have hlt:=h.fresh.lt (by rw[hk];exact h0);exact⟨(t1 k hlt).trans hk,keep k hlt (by rw[hk];exact h1) (by rw[hk];exact h2) (by rw[hk];exact h3) (fun e=>h0 (hk.symm.trans (h.holds k (.inr (.inl e))).1))⟩
 have mv:Moves (fun t=>t=(0,0)\/t=(0,1)\/t=(0,2)\/t=(1,0)) tg tg' w w':=⟨hkp.os,hkp.tape,hkp.output,hsz,t1,fun k hk hn=>keep k hk (fun e=>hn (.inr (.inl e))) (fun e=>hn (.inr (.inr (.inl e)))) (fun e=>hn (.inr (.inr (.inr e)))) (fun e=>hn (.inl (h.holds k (.inr (.inl e))).1)),fun _=>hf'⟩;refine⟨{ R with ea:=ea',ec:=ec',hs:=hs',FE:=FH' },tg',l,rfl,⟨hf',fun k hk=>(t1 k (zzA hk h.size)).trans (h.old k hk),zzG h.size hsz,h.brk,h.got_.moves mv (by rintro (e | e | e | e) <;> cases e),h.glen,⟨h'.law.mono tL,h'.ref.keep tR (fun _ _=>rfl),⟨h'.sto.1.keep (fun _ _ _=>rfl) (fun k _ hk=>tS k hk),List.nil_prefix,h'.sto.2.2⟩,h'.twin,h'.at_,sep_tags hf'⟩,?_,?_,?_,?_,?_,hh',?_,?_,?_,?_,h.slot,?_,h.cnt⟩,?_⟩
 ·exact ownsRow_keep h.rowW (fun g hg=>(keepT g _ (h.tagW g hg) (by decide) (by decide) (by decide) (by decide)).2)
 ·exact fun g hg=>(keepT g _ (h.tagW g hg) (by decide) (by decide) (by decide) (by decide)).1
 ·exact ownsRow_keep h.rowD (fun g hg=>(keepT g _ (h.tagD g hg) (by decide) (by decide) (by decide) (by decide)).2)
 ·exact fun g hg=>(keepT g _ (h.tagD g hg) (by decide) (by decide) (by decide) (by decide)).1
 ·exact h.names.keep (fun k hk=>keep k (h.names.lt k hk) (by rw[(h.holds k (.inl hk)).1];decide) (by rw[(h.holds k (.inl hk)).1];decide) (by rw[(h.holds k (.inl hk)).1];decide) (fun e=>(h.apart k).1 ⟨hk,e⟩)) hsz
 ·exact h.ids.keep (fun k hk=>keep k (h.ids.lt k hk) (by rw[(h.holds k (.inr (.inr hk))).1];decide) (by rw[(h.holds k (.inr (.inr hk))).1];decide) (by rw[(h.holds k (.inr (.inr hk))).1];decide) (fun e=>(h.apart k).2.2 ⟨e,hk⟩)) hsz
 ·rintro k (e | e | e)
  ·exact⟨(t1 k (h.names.lt k e)).trans (h.holds k (.inl e)).1,(h.holds k (.inl e)).2⟩
  ·exact tH k e
  ·exact⟨(t1 k (h.ids.lt k e)).trans (h.holds k (.inr (.inr e))).1,(h.holds k (.inr (.inr e))).2⟩
 ·refine fun k=>⟨?_,(h.apart k).2.1,?_⟩
  ·rintro ⟨e,f⟩
   rcases hsubH k f with f | f
   ·exact (h.apart k).1 ⟨e,f⟩
   ·have:=h.names.lt k e;omega
  ·rintro ⟨f,e⟩
   rcases hsubH k f with f | f
   ·exact (h.apart k).2.2 ⟨f,e⟩
   ·have:=h.ids.lt k e;omega
 ·intro x hx
  exact ((h.wsat x hx).app h.w3.sto.2.2.1.sound l).moves mv (fun c hc=>by have:=(h.wsat x hx).two;rcases hc with e | e | e | e <;> (have:=congrArg Prod.fst e;simp only at this;omega))
 ·intro j hj
  obtain⟨na,nc,da,dc,hst⟩:=h.docs j hj;have hz:∀c,c<8->((0,8+j):Nat×Nat)≠(0,c):=fun c hc e=>by have:=congrArg Prod.snd e;simp only at this;omega
  have hk8:=fun k (hk:tg k=(0,8+j))=>keepT k _ hk (hz 0 (by omega)) (hz 1 (by omega)) (hz 2 (by omega)) (fun e=>by cases e);exact⟨na,nc,da,dc,hst.keep (fun k hk=>(hk8 k hk).1) (fun k hk=>(hk8 k hk).2)⟩
 ·refine⟨hkp.os,hkp.tape,hkp.output,hsz,fun k hk=>?_⟩
  have h0:=h.old k hk;exact keep k (zzA hk h.size) (by rw[h0];decide) (by rw[h0];decide) (by rw[h0];decide) (fun e=>by have:=(h.holds k (.inr (.inl e))).2;omega)
theorem M4At.step (h:M4At R tg w B0 W s r p lim objs ros got ws ds q8 q9 q11)(hq:4*q9<=1000000000)(o:Step)(ho:o.Fits w)(hk:1<=o.kind/\o.kind<=5):
  Calls Tryz.prog 20 #[.pointer (some ⟨W,0,none⟩),o.val] w fun e w'=>e=.returned (.bool true)/\∃R' tg' l ros' q',q'<=q9+1/\M4At R' tg' w' B0 W s r p lim (objs++l) ros' got ws ds q8 q' q11/\Below B0 w w':=by
 have n3:∀k,tg k=(0,0)->¬F3 (fun k=>tg k=(0,1)) (fun k=>tg k=(0,2)) (fun k=>tg k=(1,0)) k:=fun k hk e=>by
  rcases e with e | e | e <;> (rw[hk] at e;cases e)
 refine (store_step h.w3based h.ents (fun k hk=>n3 k (h.holds k (.inr (.inl hk))).1) hq o ho hk).mono ?_;rintro e w' ⟨he,q',hq',FL',FR',FS',FH',objs',ros',ea',ec',hs',h',hh',hap',hsub,hsubH,hkp⟩;obtain⟨R',tg',l,rfl,M',hB⟩:=h.of_played h' hh' hap' hsub hsubH hkp;exact⟨he,R',tg',l,ros',q',hq',M',hB⟩
theorem M4At.addW (h:M4At R tg w B0 W s r p lim objs ros got ws ds q8 q9 q11){B:WB}{g:WG}{t:LT}(hx:WsAt tg w p objs lim (ws.length+2,B,g,t))(hkn:∀x,g.fs.kn x=0){gg cc:Nat}{cs:Array Value}(hcs:w.heap[W]? = some (.cells cs 71 (0,0)))
  (P:w'.heap[W]? = some (.cells (cs.setIfInBounds 5 (.slice (some ⟨gg,0,none⟩) (ws.length+1) cc)) 71 (0,0))/\w'.ownsRow 0 32 1 (.slice (some ⟨gg,0,none⟩) (ws.length+1) cc) (ws.length+1) ((ws.map fun x=>ptr x.2.1.wb) ++ [ptr B.wb])/\
   ((some gg:Option Nat)=(Value.slice R.wa ws.length R.wc).ownBlock\/w.heap.size<=gg)/\Keeps (fun k=>k=W\/some k=(Value.slice R.wa ws.length R.wc).ownBlock) w w'):
  ∃R' tg',Moves (fun t=>t=(0,1)\/t=(0,3)) tg tg' w w'/\M4At R' tg' w' B0 W s r p lim objs ros got (ws ++ [(ws.length+2,B,g,t)]) ds q8 q9 q11/\Below B0 w w':=by
 obtain⟨p1,p2,p3,p4⟩:=P;obtain⟨a0,a1,a2,a3,a4,hW⟩:=h.block;have hz:=p4.size;obtain⟨tg',htg⟩:∃tg':Tags,tg'=fun k=>if k<w.heap.size then tg k else if k<w'.heap.size then (0,3) else (0,0):=⟨_,rfl⟩;have t1:∀k,k<w.heap.size->tg' k=tg k:=fun k hk=>by rw[htg];exact zzD hk
 have hf':Fresh tg' w':=fun k hk'=>by
  rw[htg];simp only;rw[zzB (by omega),zzB (by omega)]
 have mv:Moves (fun t=>t=(0,1)\/t=(0,3)) tg tg' w w':=⟨p4.os,p4.tape,p4.output,hz,t1,fun k hk1 hn=>p4.block k hk1 (by
  rintro (e | e)
  ·exact hn (.inl (by rw[e];exact h.fW))
  ·exact hn (.inr (h.tagW k e.symm))),fun _=>hf'⟩
 obtain⟨r1,r2,r3,r4,r5⟩:=h.rest mv (by rintro t (rfl | rfl) <;> decide);have keep0:∀k,k<w.heap.size->tg k=(0,0)->w'.heap[k]? = w.heap[k]?/\tg' k=(0,0):=fun k hk h0=>⟨mv.block k hk (by rw[h0];rintro (e | e) <;> cases e),(t1 k hk).trans h0⟩;have hlen:(ws ++ [(ws.length+2,B,g,t)]:List Slot).length=ws.length+1:=by simp
 refine⟨{ R with wa:=some ⟨gg,0,none⟩,wc:=cc },tg',mv,⟨hf',fun k hk=>(t1 k (zzA hk h.size)).trans (h.old k hk),zzG h.size hz,h.brk,r3,h.glen,⟨?_,r1,r2,h.w3.twin,h.w3.at_,sep_tags hf'⟩,?_,?_,?_,?_,?_,?_,?_,?_,h.apart,?_,?_,r5,?_⟩,?_⟩
 ·rw[hlen]
  refine h.w3.law.reset (fun k hk=>(t1 k (h.fresh.lt (by rw[hk];decide))).trans hk) (fun b0 b1 b2 b3 b4 hb=>?_) (fun k hk1 hk2=>p4.block k (h.fresh.lt (by rw[hk1];decide)) (by
   rintro (e | e)
   ·exact hk2 e
   ·have:=h.tagW k e.symm;rw[hk1] at this;cases this))
  rw[hW] at hcs hb;simp only[Option.some.injEq,Obj.cells.injEq,Array.mk.injEq,List.cons.injEq,and_true] at hcs hb;obtain⟨e0,e1,e2,e3,e4⟩:=hb;rw[p1,<-hcs,e0,e1,e2,e3,e4];rfl
 ·rw[hlen,List.map_append]
  exact p2
 ·rw[hlen]
  intro x hx;simp only[Value.ownBlock,Option.some.injEq] at hx;subst hx;rcases p3 with e | e
  ·exact (t1 gg (h.fresh.lt (by rw[h.tagW gg e.symm];decide))).trans (h.tagW gg e.symm)
  ·rw[htg]
   simp only;rw[zzB (by omega),zzD (ownsRow_lt p2 rfl)]
 ·refine ownsRow_keep h.rowD (fun g hg=>mv.block g (ownsRow_lt h.rowD hg) ?_)
  rw[h.tagD g hg];rintro (e | e) <;> cases e
 ·exact fun g hg=>(t1 g (ownsRow_lt h.rowD hg)).trans (h.tagD g hg)
 ·exact h.names.keep (fun k hk=>(keep0 k (h.names.lt k hk) (h.holds k (.inl hk)).1).1) hz
 ·exact h.ents.keep (fun k hk=>(keep0 k (h.ents.lt k hk) (h.holds k (.inr (.inl hk))).1).1) hz
 ·exact h.ids.keep (fun k hk=>(keep0 k (h.ids.lt k hk) (h.holds k (.inr (.inr hk))).1).1) hz
 ·intro k hk
  have hlt:k<w.heap.size:=by
   rcases hk with e | e | e
   ·exact h.names.lt k e
   ·exact h.ents.lt k e
   ·exact h.ids.lt k e
  exact⟨(keep0 k hlt (h.holds k hk).1).2,(h.holds k hk).2⟩
 ·intro x hxx
  rcases List.mem_append.1 hxx with hxx | hxx
  ·exact r4 x hxx
  ·rw[List.mem_singleton.1 hxx]
   exact hx.moves mv (fun c hc=>by rcases hc with e | e <;> (have:=congrArg Prod.fst e;simp only at this;omega))
 ·intro j hj
  rw[List.getElem_append];split
  ·exact h.slot j (by assumption)
  ·rename_i hjn
   have:j=ws.length:=by simp at hj;omega
   subst this;simp
 ·intro x
  rw[List.map_append,List.sum_append,h.cnt x];simp[hkn x]
 ·exact h.low p4 (by
   rintro k (e | e)
   ·exact .inl (by rw[e,h.fW];decide)
   ·exact .inl (by rw[h.tagW k e.symm];decide))
theorem M4At.addD (h:M4At R tg w B0 W s r p lim objs ros got ws ds q8 q9 q11){S:Nat}{nodes:List Ent}{data:List ByteArray}{rest:List Value}(hx:StInv (fun k=>tg k=(0,8+ds.length)) w S nodes data rest){gg cc:Nat}{cs:Array Value}(hcs:w.heap[W]? = some (.cells cs 71 (0,0)))
  (P:w'.heap[W]? = some (.cells (cs.setIfInBounds 6 (.slice (some ⟨gg,0,none⟩) (ds.length+1) cc)) 71 (0,0))/\w'.ownsRow 0 115 1 (.slice (some ⟨gg,0,none⟩) (ds.length+1) cc) (ds.length+1) ((ds.map fun x=>ptr x.1) ++ [ptr S])/\
   ((some gg:Option Nat)=(Value.slice R.ta ds.length R.tc).ownBlock\/w.heap.size<=gg)/\Keeps (fun k=>k=W\/some k=(Value.slice R.ta ds.length R.tc).ownBlock) w w'):
  ∃R' tg',M4At R' tg' w' B0 W s r p lim objs ros got ws (ds ++ [(S,nodes,data,rest)]) q8 q9 q11/\Below B0 w w':=by
 obtain⟨p1,p2,p3,p4⟩:=P;obtain⟨a0,a1,a2,a3,a4,hW⟩:=h.block;have hz:=p4.size;obtain⟨tg',htg⟩:∃tg':Tags,tg'=fun k=>if k<w.heap.size then tg k else if k<w'.heap.size then (0,4) else (0,0):=⟨_,rfl⟩;have t1:∀k,k<w.heap.size->tg' k=tg k:=fun k hk=>by rw[htg];exact zzD hk
 have hf':Fresh tg' w':=fun k hk'=>by
  rw[htg];simp only;rw[zzB (by omega),zzB (by omega)]
 have mv:Moves (fun t=>t=(0,1)\/t=(0,4)) tg tg' w w':=⟨p4.os,p4.tape,p4.output,hz,t1,fun k hk1 hn=>p4.block k hk1 (by
  rintro (e | e)
  ·exact hn (.inl (by rw[e];exact h.fW))
  ·exact hn (.inr (h.tagD k e.symm))),fun _=>hf'⟩
 obtain⟨r1,r2,r3,r4,r5⟩:=h.rest mv (by rintro t (rfl | rfl) <;> decide);have keep0:∀k,k<w.heap.size->tg k=(0,0)->w'.heap[k]? = w.heap[k]?/\tg' k=(0,0):=fun k hk h0=>⟨mv.block k hk (by rw[h0];rintro (e | e) <;> cases e),(t1 k hk).trans h0⟩;have hlen:(ds ++ [(S,nodes,data,rest)]:List Doc).length=ds.length+1:=by simp
 refine⟨{ R with ta:=some ⟨gg,0,none⟩,tc:=cc },tg',⟨hf',fun k hk=>(t1 k (zzA hk h.size)).trans (h.old k hk),zzG h.size hz,h.brk,r3,h.glen,⟨?_,r1,r2,h.w3.twin,h.w3.at_,sep_tags hf'⟩,?_,?_,?_,?_,?_,?_,?_,?_,h.apart,r4,h.slot,?_,h.cnt⟩,?_⟩
 ·rw[hlen]
  refine h.w3.law.reset (fun k hk=>(t1 k (h.fresh.lt (by rw[hk];decide))).trans hk) (fun b0 b1 b2 b3 b4 hb=>?_) (fun k hk1 hk2=>p4.block k (h.fresh.lt (by rw[hk1];decide)) (by
   rintro (e | e)
   ·exact hk2 e
   ·have:=h.tagD k e.symm;rw[hk1] at this;cases this))
  rw[hW] at hcs hb;simp only[Option.some.injEq,Obj.cells.injEq,Array.mk.injEq,List.cons.injEq,and_true] at hcs hb;obtain⟨e0,e1,e2,e3,e4⟩:=hb;rw[p1,<-hcs,e0,e1,e2,e3,e4];rfl
 ·refine ownsRow_keep h.rowW (fun g hg=>mv.block g (ownsRow_lt h.rowW hg) ?_)
  rw[h.tagW g hg];rintro (e | e) <;> cases e
 ·exact fun g hg=>(t1 g (ownsRow_lt h.rowW hg)).trans (h.tagW g hg)
 ·rw[hlen,List.map_append]
  exact p2
 ·rw[hlen]
  intro x hx;simp only[Value.ownBlock,Option.some.injEq] at hx;subst hx;rcases p3 with e | e
  ·exact (t1 gg (h.fresh.lt (by rw[h.tagD gg e.symm];decide))).trans (h.tagD gg e.symm)
  ·rw[htg]
   simp only;rw[zzB (by omega),zzD (ownsRow_lt p2 rfl)]
 ·exact h.names.keep (fun k hk=>(keep0 k (h.names.lt k hk) (h.holds k (.inl hk)).1).1) hz
 ·exact h.ents.keep (fun k hk=>(keep0 k (h.ents.lt k hk) (h.holds k (.inr (.inl hk))).1).1) hz
 ·exact h.ids.keep (fun k hk=>(keep0 k (h.ids.lt k hk) (h.holds k (.inr (.inr hk))).1).1) hz
 ·intro k hk
  have hlt:k<w.heap.size:=by
   rcases hk with e | e | e
   ·exact h.names.lt k e
   ·exact h.ents.lt k e
   ·exact h.ids.lt k e
  exact⟨(keep0 k hlt (h.holds k hk).1).2,(h.holds k hk).2⟩
 ·intro j hj
  rw[List.getElem_append];split
  ·exact r5 j (by assumption)
  ·rename_i hjn
   have hje:j=ds.length:=by simp at hj;omega
   subst hje;simp only[Nat.sub_self,List.getElem_cons_zero];have hne:((0,8+ds.length):Nat×Nat)≠(0,0):=fun e=>by have:=congrArg Prod.snd e;simp only at this;omega
   obtain⟨na,nc,da,dc,hst⟩:=hx;refine⟨na,nc,da,dc,hst.keep (fun k hk=>(t1 k (h.fresh.lt (by rw[hk];exact hne))).trans hk) (fun k hk=>mv.block k (h.fresh.lt (by rw[hk];exact hne)) ?_)⟩;rw[hk];rintro (e | e) <;> (have:=congrArg Prod.snd e;simp only at this;omega)
 ·exact h.low p4 (by
   rintro k (e | e)
   ·exact .inl (by rw[e,h.fW];decide)
   ·exact .inl (by rw[h.tagD k e.symm];decide))
theorem M4At.tagged {Sx:Nat->Prop}(h:M4At R tg w B0 W s r p lim objs ros got ws ds q8 q9 q11)(hb:Below w.heap.size w w'){S:Nat}{nodes:List Ent}{data:List ByteArray}{rest:List Value}(hx:StInv (fun k=>w.heap.size<=k/\k<w'.heap.size) w' S nodes data rest)(c:Nat)(hc:c≠0):
  ∃tg',Moves (fun _=>False) tg tg' w w'/\M4At R tg' w' B0 W s r p lim objs ros got ws ds q8 q9 q11/\StInv (fun k=>tg' k=(0,c)) w' S nodes data rest:=by
 obtain⟨tg',htg⟩:∃tg':Tags,tg'=fun k=>if k<w.heap.size then tg k else if k<w'.heap.size then (0,c) else (0,0):=⟨_,rfl⟩;have hz:=hb.size;have t1:∀k,k<w.heap.size->tg' k=tg k:=fun k hk=>by rw[htg];exact zzD hk
 have hf':Fresh tg' w':=fun k hk'=>by
  rw[htg];simp only;rw[zzB (by omega),zzB (by omega)]
 have m:Moves (fun _=>False) tg tg' w w':=⟨hb.os,hb.tape,hb.output,hz,t1,fun k hk _=>hb.block k hk,fun _=>hf'⟩;refine⟨tg',m,h.after m (fun _ h=>h) rfl h.brk (h.w3.sto.1.below hb (fun k hk hF=>(t1 k hk).trans hF)) (h.got_.moves m (fun h=>h)) h.glen rfl (fun x hx=>(h.wsat x hx).moves m (fun _ h=>h)) h.slot h.cnt,?_⟩;obtain⟨na,nc,da,dc,hst⟩:=hx;refine⟨na,nc,da,dc,hst.keep (fun k hk=>?_) (fun _ _=>rfl)⟩;rw[htg];simp only;rw[zzB (by omega),zzD hk.2]
end
end Go.Proofs.YtlgidcmmgohagaaGreat
