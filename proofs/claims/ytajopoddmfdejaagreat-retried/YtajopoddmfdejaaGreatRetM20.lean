/-
  What is proved here: whether there is room for what is moved (room). a map by paths while some of its entries follow what has been moved: one entry written at its new path and struck at its old one; and what ..
-/
import Derived.Test.YtajopoddmfdejaaGreatRetM19
import Derived.Test.YtajopoddmfdejaaGreatRetM17
namespace Go.Proofs.YtajopoddmfdejaaGreat
open Go.RowKit Go.Sort Go.Shelf
set_option linter.unusedVariables false
set_option maxRecDepth 100000
set_option maxHeartbeats 16000000
section
variable {s i p:Nat}{B:WB}{objs:List Ob}
theorem three_size {w w1:World}{o1 o2 o3:Obj}(h:Below (((w.alloc o1).alloc o2).alloc o3).heap.size (((w.alloc o1).alloc o2).alloc o3) w1):w.heap.size+2<w1.heap.size:=by
 have h2:=h.size
 rw[World.size_alloc,World.size_alloc,World.size_alloc] at h2
 omega
theorem three_below {w w1:World}{o1 o2 o3:Obj}(h:Below (((w.alloc o1).alloc o2).alloc o3).heap.size (((w.alloc o1).alloc o2).alloc o3) w1):Below w.heap.size w w1:=
 below_via ((((Below.refl w.heap.size w).alloc (Nat.le_refl _) _).alloc (by simp) _).alloc (by simp;omega) _) h
theorem three_old {w w1:World}{o1 o2 o3:Obj}(h:Below (((w.alloc o1).alloc o2).alloc o3).heap.size (((w.alloc o1).alloc o2).alloc o3) w1)(b o:Nat)(hb:b<w.heap.size+3):w1.cell? ⟨b,o,none⟩=(((w.alloc o1).alloc o2).alloc o3).cell? ⟨b,o,none⟩:=
 (bcell h).1 b o (by rw[World.size_alloc,World.size_alloc,World.size_alloc];omega)
theorem Slc.at_ {tg:Tags}{w:World}{v:Value}{es:List Ent}(h:Slc tg w i v es){k:Nat}(hk:k<es.length):∃ gb c,v=.slice (some ⟨gb,0,none⟩) es.length c/\gb<w.heap.size/\w.cell? ⟨gb,k*3,none⟩=some (.string (es[k]).1)/\w.cell? ⟨gb,k*3+1,none⟩=some (.int .i64 (es[k]).2.1)/\w.cell? ⟨gb,k*3+2,none⟩=some (.int .i64 (es[k]).2.2):=by
 obtain⟨gb,cp,rfl⟩:=slice_of_owns h.1 (by omega)
 obtain⟨c0,c1,c2⟩:=row_at (b:=gb) (fun j u hu=>by have:=owns_cells h.1 j u hu;rwa [Nat.zero_add] at this) hk
 exact⟨gb,cp,rfl,ownsRow_lt h.1 rfl,c0,c1,c2⟩
theorem pick_at {ks:Kids}(hr:RisingK ks){n:ByteArray}{e:LT}(hp:pickK ks n=some e):∃ h:idxK (ks.map entOf) n<(ks.map entOf).length,(ks.map entOf)[idxK (ks.map entOf) n]=(n,e.kind,e.id):=by
 have hth:thereK (ks.map entOf) n=true:=by rw[there_ent,<- pick_there hr,hp];rfl
 obtain⟨h1,h2⟩:=there_at hth
 have hg:=getK_there (n:=n) (by rw[map_ent];exact mapK_rising _ hr:RisingK (ks.map entOf))
 rw[hth,if_pos rfl,List.getElem?_eq_getElem h1,Option.map_some,getK_map,hp,Option.map_some,Option.some.injEq] at hg
 exact⟨h1,Prod.ext h2 hg.symm⟩
theorem room_there {tg:Tags}{w:World}{g:WG}{lim:Nat}{t x d e:LT}(h:WInv tg w s i p B objs g lim)(hl:lim+10<1099511627776)(hF:Flat objs t g.ft){k:Nat}(hok:LTok objs k t){rf qt:List ByteArray}{nt:ByteArray}(hf:Good rf)(hq:Good (qt ++ [nt])){ks:Kids}(ha:t.at objs qt=some d)(hk:kids objs d=some ks)(hp:pickK ks nt=some e){v:Value}(hs:Slc tg w i v (ks.map entOf))(nx:ByteArray):
  Calls Tryz.prog 82 #[.pointer (some ⟨B.bt,0,none⟩),.agg (pathA rf),.agg (pathA (qt ++ [nt])),.agg #[.string nx,.int .i64 x.kind,.int .i64 x.id],v] w fun en w'=>en=.returned (.int .i64 (yieldsG objs g.fs e x).2)/\DidF s i p B objs tg w w' { g with fs:=(yieldsG objs g.fs e x).1 } (lim+1):=by
 have hS:=h.st.sound
 obtain⟨q1,q2,q3⟩:=ok_kids hS (ok_at hS _ hok ha).2.1 hk
 have hr1:RisingK (ks.map entOf):=by rw[map_ent];exact mapK_rising _ q1
 have hl1:(ks.map entOf).length<=16:=by rw[List.length_map];exact q2
 obtain⟨hix,hat⟩:=pick_at q1 hp
 have hae:t.at objs (qt ++ [nt])=some e:=by rw[at_append,ha,Option.bind_some,at_cons,hk,Option.bind_some,hp,Option.bind_some,at_nil]
 have hth:thereK (ks.map entOf) nt=true:=by rw[there_ent,<- pick_there q1,hp];rfl
 have hy:=fun W (hb:Below w.heap.size w W)=>yields_any (x:=x) (h.below hb) hl hF hok hq hae nt nx
 have hsea:=fun W2 (hb:Below w.heap.size w W2)=>search_any (hs.below hb).1 nt hr1 hl1
 rw[hth] at hsea
 obtain⟨gb,cp,rfl,hgl,y0,y1,y2⟩:=hs.at_ hix
 rw[hat] at y0 y1 y2
 clear hat
 generalize (ks.map entOf).length=ln at hsea hix hl1 ⊢
 generalize idxK (ks.map entOf) nt=ix at hsea hix y0 y1 y2
 have hname:=fun W=>name_any (qt ++ [nt]) hq (by simp) W
 simp only[List.getLast_concat] at hname
 obtain⟨s0,s1,s2,s3,s4,hP⟩:∃ s0 s1 s2 s3 s4,pathA (qt ++ [nt]) = #[.string s0,.string s1,.string s2,.string s3,.string s4]:=⟨_,_,_,_,_,rfl⟩
 obtain⟨r0,r1,r2,r3,r4,hP'⟩:∃ s0 s1 s2 s3 s4,pathA rf = #[.string s0,.string s1,.string s2,.string s3,.string s4]:=⟨_,_,_,_,_,rfl⟩
 unfold pathV at hname
 simp only[hP] at hname hy
 rw[hP,hP']
 generalize yieldsG objs g.fs e x=Y at hy ⊢
 simp only at y0 y1 y2
 generalize e.kind=ke at hy y1
 generalize e.id=ie at hy y2
 generalize x.kind=kx at hy ⊢
 generalize x.id=ixx at hy ⊢
 have HSEA:Hid _:=hsea
 have HY:Hid _:=hy
 clear h hsea hy hP hP' hF hok ha hk hp hs hS q1 q2 q3 hr1 hae hth
 go_enter Tryz.func82,Tryz.ntmps82
 go_wp2_with (first
  | (go_at_call 78;refine (hname _).mono ?_;rintro e w1 ⟨rfl,hb1⟩;have hz1:=three_size hb1;have k1:=three_old hb1 (w.heap.size+1);have k2:=three_old hb1 (w.heap.size+2);have b1:=three_below hb1)
  | (go_at_call 77;go_loud (refine (HSEA.out _ b1).mono ?_;rintro e w2 ⟨rfl,hb2⟩;have b2:=below_via b1 hb2;have k3:=fun o=>(bcell hb2).1 (w.heap.size+1) o (Nat.lt_of_succ_lt hz1);have k4:=fun o=>(bcell hb2).1 (w.heap.size+2) o hz1;have hz2:=Nat.lt_of_lt_of_le hz1 hb2.size;have hz3:w.heap.size+1<w2.heap.size:=Nat.lt_of_succ_lt hz2;have hg2:=Nat.lt_of_lt_of_le hgl b2.size;have x0:=((bcell b2).1 gb (ix*3) hgl).trans y0;have x1:=((bcell b2).1 gb (ix*3+1) hgl).trans y1;have x2:=((bcell b2).1 gb (ix*3+2) hgl).trans y2)))
 go_region_with (go_at_call 125;go_loud (refine (HY.out _ (below_drew b2)).mono ?_;rintro e w3 ⟨rfl,hd3⟩))
 all_goals
  go_wp2
  go_ret
  exact⟨rfl,hd3.via (below_drew b2)⟩
theorem room_free {tg:Tags}{w:World}{g:WG}{lim:Nat}{t d:LT}(h:WInv tg w s i p B objs g lim)(hF:Flat objs t g.ft){k:Nat}(hok:LTok objs k t){qf qt:List ByteArray}{nf nt:ByteArray}(hf:Good (qf ++ [nf]))(hq:Good (qt ++ [nt])){ks:Kids}(ha:t.at objs qt=some d)(hk:kids objs d=some ks)(hp:pickK ks nt=none){v:Value}(hs:Slc tg w i v (ks.map entOf))(nx:ByteArray)(kx ixx:Int):
  Calls Tryz.prog 82 #[.pointer (some ⟨B.bt,0,none⟩),.agg (pathA (qf ++ [nf])),.agg (pathA (qt ++ [nt])),.agg #[.string nx,.int .i64 kx,.int .i64 ixx],v] w fun en w'=>en=.returned (.int .i64 (if 16<=ks.length/\qf≠qt then 11 else 0))/\DidF s i p B objs tg w w' g lim:=by
 have hS:=h.st.sound
 obtain⟨q1,q2,q3⟩:=ok_kids hS (ok_at hS _ hok ha).2.1 hk
 have hr1:RisingK (ks.map entOf):=by rw[map_ent];exact mapK_rising _ q1
 have hl1:(ks.map entOf).length<=16:=by rw[List.length_map];exact q2
 have hth:thereK (ks.map entOf) nt=false:=by rw[there_ent,<- pick_there q1,hp];rfl
 have hsea:=fun W2 (hb:Below w.heap.size w W2)=>search_any (hs.below hb).1 nt hr1 hl1
 rw[hth] at hsea
 obtain⟨la,cp,rfl⟩:=hs.len
 rw[List.length_map] at hsea hl1 ⊢
 generalize idxK (ks.map entOf) nt=ix at hsea
 have hname:=fun W=>name_any (qt ++ [nt]) hq (by simp) W
 simp only[List.getLast_concat] at hname
 have hpt:=fun W=>parent_any (qt ++ [nt]) hq W
 have hpf:=fun W=>parent_any (qf ++ [nf]) hf W
 have hGq:Good qt:=by have:=hq.dropLast;rwa [List.dropLast_concat] at this
 have hGf:Good qf:=by have:=hf.dropLast;rwa [List.dropLast_concat] at this
 have heq:=fun W=>run_eqP hGf hGq W
 rw[List.dropLast_concat] at hpt hpf
 obtain⟨s0,s1,s2,s3,s4,hP⟩:∃ s0 s1 s2 s3 s4,pathA (qt ++ [nt]) = #[.string s0,.string s1,.string s2,.string s3,.string s4]:=⟨_,_,_,_,_,rfl⟩
 obtain⟨r0,r1,r2,r3,r4,hP'⟩:∃ s0 s1 s2 s3 s4,pathA (qf ++ [nf]) = #[.string s0,.string s1,.string s2,.string s3,.string s4]:=⟨_,_,_,_,_,rfl⟩
 obtain⟨t0,t1,t2,t3,t4,hP2⟩:∃ s0 s1 s2 s3 s4,pathA qt = #[.string s0,.string s1,.string s2,.string s3,.string s4]:=⟨_,_,_,_,_,rfl⟩
 obtain⟨f0,f1,f2,f3,f4,hP3⟩:∃ s0 s1 s2 s3 s4,pathA qf = #[.string s0,.string s1,.string s2,.string s3,.string s4]:=⟨_,_,_,_,_,rfl⟩
 have heq':∀ W,(Op.equalIn 10000 104 (pathV qf) (pathV qt)).run Tryz.prog W=.ok (decide (qf=qt)) W:=heq
 unfold pathV at hname hpt hpf heq'
 simp only[hP,hP',hP2,hP3] at hname hpt hpf heq'
 rw[hP,hP']
 have HSEA:Hid _:=hsea
 have H0:Hid _:=h
 clear h hsea hP hP' hP2 hP3 hF hok ha hk hp hs hS q1 q2 q3 hr1 hth heq
 by_cases h16:16<=ks.length
 ·have h16':(16:Int)<=(ks.length:Int):=by omega
  by_cases hqq:qf=qt
  ·rw[if_neg (fun h=>h.2 hqq)]
   rw[decide_eq_true hqq] at heq'
   clear h16
   go_enter Tryz.func82,Tryz.ntmps82
   go_wp2_with (first
    | (go_at_call 78;refine (hname _).mono ?_;rintro e w1 ⟨rfl,hb1⟩;have hz1:=three_size hb1;have k1:=three_old hb1 (w.heap.size+1);have k0:=three_old hb1 w.heap.size;have b1:=three_below hb1)
    | (go_at_call 77;go_loud (refine (HSEA.out _ b1).mono ?_;rintro e w2 ⟨rfl,hb2⟩;have b2:=below_via b1 hb2;have k3:=fun o=>(bcell hb2).1 (w.heap.size+1) o (Nat.lt_of_succ_lt hz1);have k4:=fun o=>(bcell hb2).1 w.heap.size o (Nat.lt_of_succ_lt (Nat.lt_of_succ_lt hz1));have hz3:w.heap.size+1<w2.heap.size:=Nat.lt_of_lt_of_le (Nat.lt_of_succ_lt hz1) hb2.size;have hz4:w.heap.size<w2.heap.size:=Nat.lt_of_succ_lt hz3;replace b2:=below_drew b2)))
   go_region_with (first
    | (go_at_call_of 76 (Value.agg #[.string s0,.string s1,.string s2,.string s3,.string s4]);refine (hpt _).mono ?_;rintro e w3 ⟨rfl,hb3⟩;replace b2:=below_via b2 hb3;have k5:=fun o=>(bcell hb3).1 (w.heap.size+1) o hz3;have k6:=fun o=>(bcell hb3).1 w.heap.size o hz4;replace hz3:=Nat.lt_of_lt_of_le hz3 hb3.size;replace hz4:=Nat.lt_of_lt_of_le hz4 hb3.size)
    | (go_at_call_of 76 (Value.agg #[.string r0,.string r1,.string r2,.string r3,.string r4]);refine (hpf _).mono ?_;rintro e w3 ⟨rfl,hb3⟩;replace b2:=below_via b2 hb3;have k5:=fun o=>(bcell hb3).1 (w.heap.size+1) o hz3;have k6:=fun o=>(bcell hb3).1 w.heap.size o hz4;replace hz3:=Nat.lt_of_lt_of_le hz3 hb3.size;replace hz4:=Nat.lt_of_lt_of_le hz4 hb3.size))
   all_goals
    go_wp2
    go_ret
    exact⟨rfl,didF_same H0.out b2⟩
  ·rw[if_pos ⟨h16,hqq⟩]
   rw[decide_eq_false hqq] at heq'
   clear h16
   go_enter Tryz.func82,Tryz.ntmps82
   go_wp2_with (first
    | (go_at_call 78;refine (hname _).mono ?_;rintro e w1 ⟨rfl,hb1⟩;have hz1:=three_size hb1;have k1:=three_old hb1 (w.heap.size+1);have k0:=three_old hb1 w.heap.size;have b1:=three_below hb1)
    | (go_at_call 77;go_loud (refine (HSEA.out _ b1).mono ?_;rintro e w2 ⟨rfl,hb2⟩;have b2:=below_via b1 hb2;have k3:=fun o=>(bcell hb2).1 (w.heap.size+1) o (Nat.lt_of_succ_lt hz1);have k4:=fun o=>(bcell hb2).1 w.heap.size o (Nat.lt_of_succ_lt (Nat.lt_of_succ_lt hz1));have hz3:w.heap.size+1<w2.heap.size:=Nat.lt_of_lt_of_le (Nat.lt_of_succ_lt hz1) hb2.size;have hz4:w.heap.size<w2.heap.size:=Nat.lt_of_succ_lt hz3;replace b2:=below_drew b2)))
   go_region_with (first
    | (go_at_call_of 76 (Value.agg #[.string s0,.string s1,.string s2,.string s3,.string s4]);refine (hpt _).mono ?_;rintro e w3 ⟨rfl,hb3⟩;replace b2:=below_via b2 hb3;have k5:=fun o=>(bcell hb3).1 (w.heap.size+1) o hz3;have k6:=fun o=>(bcell hb3).1 w.heap.size o hz4;replace hz3:=Nat.lt_of_lt_of_le hz3 hb3.size;replace hz4:=Nat.lt_of_lt_of_le hz4 hb3.size)
    | (go_at_call_of 76 (Value.agg #[.string r0,.string r1,.string r2,.string r3,.string r4]);refine (hpf _).mono ?_;rintro e w3 ⟨rfl,hb3⟩;replace b2:=below_via b2 hb3;have k5:=fun o=>(bcell hb3).1 (w.heap.size+1) o hz3;have k6:=fun o=>(bcell hb3).1 w.heap.size o hz4;replace hz3:=Nat.lt_of_lt_of_le hz3 hb3.size;replace hz4:=Nat.lt_of_lt_of_le hz4 hb3.size))
   all_goals
    go_wp2
    go_ret
    exact⟨rfl,didF_same H0.out b2⟩
 ·have h16':decide ((16:Int)<=(ks.length:Int))=false:=decide_eq_false (by omega)
  rw[if_neg (fun h=>h16 h.1)]
  clear heq'
  go_enter Tryz.func82,Tryz.ntmps82
  go_wp2_with (first
   | (go_at_call 78;refine (hname _).mono ?_;rintro e w1 ⟨rfl,hb1⟩;have hz1:=three_size hb1;have k1:=three_old hb1 (w.heap.size+1);have b1:=three_below hb1)
   | (go_at_call 77;go_loud (refine (HSEA.out _ b1).mono ?_;rintro e w2 ⟨rfl,hb2⟩;have b2:=below_via b1 hb2)))
  go_region
  all_goals
   go_wp2
   go_ret
   exact⟨rfl,didF_same H0.out (below_drew b2)⟩
end
theorem size_del {D:DataW Value}{kl:Lit}(h:Maps.has D kl=true):Maps.size (D.del kl)<Maps.size D:=by
 cases D with
 | map es=>
  rw[Maps.has_eq,List.any_eq_true] at h
  obtain⟨x,hx,hs⟩:=h
  rw[DataW.del_eq]
  show (es.filter _).length<es.length
  refine List.length_filter_lt_length_iff_exists.2 ⟨x,hx,?_⟩
  unfold ChangeMaps.notKey
  rw[hs];simp
 | _=>cases h
theorem owns_exact {w:World}{k:TypeId}{b n m:Nat}{D:DataW Value}(h:w.ownsMap Tryz.prog k heldElem b n D)(hm:Maps.size D<=m):w.ownsMap Tryz.prog k heldElem b m D:=by
 obtain⟨es,clock,hb,F,hs,rfl⟩:=h
 exact⟨es,clock,hb,F,by simpa [Maps.size,length_sorted] using hm,rfl⟩
theorem VMap.drop1 {w:World}{k:TypeId}{b n:Nat}{M:Lit->Option Value}(h:VMap w k b (n+1) M)(K:Maps.Keyed Tryz.prog k){t e:TypeId}(ht:Tryz.prog.underlying t=some (.map k e))
  {key:Value}{kl:Lit}(hkey:keyOf Tryz.prog k key=some kl)(hM1:(M kl).isSome=true)(ty:TypeId):
  ∃ w',(Builtin.delete_ #[t,k] ty #[.map (some b),key]).run Tryz.prog w=.ok (.tuple #[]) w'/\VMap w' k b n (mset M kl none)/\w.grownBy w' (some b)/\w'.heap.size=w.heap.size:=by
 obtain⟨D,hD,hM⟩:=h
 obtain⟨w',hrun,hD',hg⟩:=hD.drop K ht hkey ty
 have h1:=size_del (D:=D) (kl:=kl) (by rw[vmap_has (hM kl (K.key hkey))];exact hM1)
 have h2:=hD.size_le
 refine⟨w',hrun,⟨_,owns_exact hD' (by omega),vmap_del hM kl⟩,hg.grown,?_⟩
 obtain⟨es,clock,es',clock',hb,rfl⟩:=hg
 simp[ChangeMaps.setBlock]
theorem PMap.drop1 {w:World}{b n:Nat}{f:List ByteArray->Option Value}(h:PMap w b (n+1) f){t e:TypeId}(ht:Tryz.prog.underlying t=some (.map 104 e)){q:List ByteArray}(hq:Good q)(hf:(f q).isSome=true)(ty:TypeId):
  ∃ w',(Builtin.delete_ #[t,104] ty #[.map (some b),.agg (pathA q)]).run Tryz.prog w=.ok (.tuple #[]) w'/\PMap w' b n (upd f q none)/\w.grownBy w' (some b)/\w'.heap.size=w.heap.size:=by
 obtain⟨M,hV,h1,h2⟩:=h
 obtain⟨w',hrun,hV',hg,hs⟩:=hV.drop1 lawP ht (keyVP hq) (by rw[h1 q hq];exact hf) ty
 refine⟨w',hrun,⟨_,hV',fun x hx=>?_,fun kl hk hne=>?_⟩,hg,hs⟩
 ·by_cases e:x=q
  ·subst e;rw[mset_same,upd_same]
  ·rw[mset_other (fun e'=>e (keyP_inj hx hq e')),upd_other e,h1 x hx]
 ·by_cases e:kl=keyP Tryz.prog q
  ·rw[e,mset_same] at hne;exact absurd rfl hne
  ·rw[mset_other e] at hne;exact h2 kl hk hne
theorem PMap.look {w:World}{b n:Nat}{f:List ByteArray->Option Value}(h:PMap w b n f){t e:TypeId}(ht:Tryz.prog.underlying t=some (.map 104 e)){z:Value}(hz:(zeroValue e).run Tryz.prog w=.ok z w){q:List ByteArray}(hq:Good q):
  (Instr.lookup t (.map (some b)) (.agg (pathA q)) false).run Tryz.prog w=.ok ((f q).getD z) w:=by
 obtain⟨M,hV,h1,_⟩:=h
 have:=hV.look lawP ht hz (keyVP hq)
 rw[h1 q hq] at this
 exact this
section
open Classical
variable {β:Type}
def movedP (src dst p:List ByteArray):List ByteArray:=dst++p.drop src.length
noncomputable def carried (f:List ByteArray->Option β)(src dst:List ByteArray)(L:List (List ByteArray)):List ByteArray->Option β:=fun x=>
 if dst <+: x/\src++x.drop dst.length ∈ L then f (src++x.drop dst.length) else if x ∈ L then none else f x
theorem carried_nil (f:List ByteArray->Option β)(src dst:List ByteArray)(x:List ByteArray):carried f src dst [] x=f x:=by
 unfold carried;simp
theorem pre_drop {src p:List ByteArray}(h:src <+: p):src++p.drop src.length=p:=by
 obtain⟨r,rfl⟩:=h
 rw[List.drop_left]
theorem carried_step {f:List ByteArray->Option β}{src dst:List ByteArray}{L:List (List ByteArray)}{p:List ByteArray}(hdst:∀ x,dst <+: x->f x=none)(hL:∀ x ∈ L,src <+: x/\f x≠none)(hp:src <+: p)(hf:f p≠none)(hn:p ∉ L):
  carried f src dst L p=f p/\∀ x,upd (upd (carried f src dst L) (movedP src dst p) (f p)) p none x=carried f src dst (L ++ [p]) x:=by
 have hdp:¬ dst <+: p:=fun h=>hf (hdst p h)
 refine⟨by unfold carried;rw[if_neg (fun h=>hdp h.1),if_neg hn],fun x=>?_⟩
 by_cases hx:x=p
 ·subst hx
  rw[upd_same]
  unfold carried
  rw[if_neg (fun h=>hdp h.1),if_pos (by simp)]
 ·rw[upd_other hx]
  by_cases hm:x=movedP src dst p
  ·subst hm
   rw[upd_same]
   unfold carried movedP
   rw[List.drop_left,pre_drop hp,if_pos ⟨List.prefix_append _ _,by simp⟩]
  ·rw[upd_other hm]
   unfold carried
   by_cases hd:dst <+: x
   ·have hne:src++x.drop dst.length≠p:=fun e=>hm (by
     unfold movedP
     rw[<- e,List.drop_left,pre_drop hd])
    have e1:(dst <+: x/\src++x.drop dst.length ∈ L)↔(dst <+: x/\src++x.drop dst.length ∈ L ++ [p]):=by simp[hne]
    have e2:(x ∈ L)↔(x ∈ L ++ [p]):=by simp[hx]
    simp only[e1,e2]
   ·have e2:(x ∈ L)↔(x ∈ L ++ [p]):=by simp[hx]
    simp only[hd,false_and,if_false,e2]
theorem carried_all {f:List ByteArray->Option β}{src dst:List ByteArray}{L:List (List ByteArray)}(hdst:∀ x,dst <+: x->f x=none)(hL:∀ x,x ∈ L↔(src <+: x/\f x≠none))(x:List ByteArray):carried f src dst L x=carryG f src dst x:=by
 unfold carried carryG
 by_cases hd:dst <+: x
 ·rw[if_pos hd]
  by_cases hm:src++x.drop dst.length ∈ L
  ·rw[if_pos ⟨hd,hm⟩]
  ·rw[if_neg (fun h=>hm h.2)]
   have h0:f (src++x.drop dst.length)=none:=by
    cases he:f (src++x.drop dst.length) with
    | none=>rfl
    | some y=>exact absurd ((hL _).2 ⟨List.prefix_append _ _,by rw[he];simp⟩) hm
   rw[h0]
   split
   ·rfl
   ·exact hdst x hd
 ·rw[if_neg hd,if_neg (fun h=>hd h.1)]
  by_cases hs:src <+: x
  ·rw[if_pos hs]
   by_cases hm:x ∈ L
   ·rw[if_pos hm]
   ·rw[if_neg hm]
    cases he:f x with
    | none=>rfl
    | some y=>exact absurd ((hL _).2 ⟨hs,by rw[he];simp⟩) hm
  ·rw[if_neg hs,if_neg (fun h=>hs ((hL _).1 h).1)]
end
def Gathered (f:List ByteArray->Option Value)(src:List ByteArray)(left:Lit->Bool)(L:List (List ByteArray)):Prop:=
 L.Nodup/\∀ x,x ∈ L↔(Good x/\src <+: x/\f x≠none/\left (keyP Tryz.prog x)=false)
theorem gathered_skip {f:List ByteArray->Option Value}{src:List ByteArray}{left:Lit->Bool}{L:List (List ByteArray)}(h:Gathered f src left L){q:List ByteArray}(hq:Good q)(hs:¬ src <+: q):Gathered f src (fun z=>left z && !z.sameKey (keyP Tryz.prog q)) L:=by
 refine⟨h.1,fun x=>?_⟩
 rw[h.2 x]
 refine⟨fun⟨a,b,c,d⟩=>⟨a,b,c,by simp only[d,Bool.false_and]⟩,fun⟨a,b,c,d⟩=>⟨a,b,c,?_⟩⟩
 have hne:keyP Tryz.prog x≠keyP Tryz.prog q:=fun e=>hs (by rw[<- keyP_inj a hq e];exact b)
 simp only[Maps.sameKey_ne hne,Bool.not_false,Bool.and_true] at d
 exact d
theorem gathered_add {f:List ByteArray->Option Value}{src:List ByteArray}{left:Lit->Bool}{L:List (List ByteArray)}(h:Gathered f src left L){q:List ByteArray}(hq:Good q)(hs:src <+: q)(hf:f q≠none)(hl:left (keyP Tryz.prog q)=true):Gathered f src (fun z=>left z && !z.sameKey (keyP Tryz.prog q)) (L ++ [q]):=by
 refine⟨List.nodup_append.2 ⟨h.1,by simp,fun a ha b hb=>?_⟩,fun x=>?_⟩
 ·simp only[List.mem_singleton] at hb
  subst hb
  rintro rfl
  have:=((h.2 a).1 ha).2.2.2
  rw[hl] at this
  cases this
 ·simp only[List.mem_append,List.mem_singleton]
  by_cases e:x=q
  ·subst e
   refine⟨fun _=>⟨hq,hs,hf,?_⟩,fun _=>.inr rfl⟩
   have hk:=WideAt.sameKey_self (keyP_is hq)
   generalize keyP Tryz.prog x=kx at hk hl
   show (left kx && !kx.sameKey kx)=false
   rw[hk,Bool.not_true,Bool.and_false]
  ·rw[h.2 x]
   refine⟨fun hh=>?_,fun⟨a,b,c,d⟩=>.inl ⟨a,b,c,?_⟩⟩
   ·rcases hh with ⟨a,b,c,d⟩ | hh
    ·exact⟨a,b,c,by simp only[d,Bool.false_and]⟩
    ·exact absurd hh e
   ·have hne:keyP Tryz.prog x≠keyP Tryz.prog q:=fun e'=>e (keyP_inj a hq e')
    simp only[Maps.sameKey_ne hne,Bool.not_false,Bool.and_true] at d
    exact d
theorem child_0 (s0 s1 s2 s3 s4 x:ByteArray)(w:World)
  (hd:∀ W,Calls Tryz.prog 83 #[.agg #[.string s0,.string s1,.string s2,.string s3,.string s4]] W fun e w'=>e=.returned (.int .i64 0)/\Below W.heap.size W w'):
  Calls Tryz.prog 126 #[.agg #[.string s0,.string s1,.string s2,.string s3,.string s4],.string x] w fun e w'=>e=.returned (.agg #[.string x,.string s1,.string s2,.string s3,.string s4])/\Below w.heap.size w w':=by
 go_enter Tryz.func126,Tryz.ntmps126
 go_wp2_with (go_at_call 83;refine (hd _).mono ?_;rintro e w1 ⟨rfl,hb1⟩;have hz:=two_size0 hb1;obtain⟨hz0,hz1⟩:=hz;have k1:=fun o=>(bcell hb1).1 w.heap.size o (by simp;omega);have f1:=fun o=>(bcell hb1).2 w.heap.size o (by simp;omega);have k2:=fun o=>(bcell hb1).1 (w.heap.size+1) o (by simp);have f2:=fun o=>(bcell hb1).2 (w.heap.size+1) o (by simp))
 exact bodyPost_ret (v:=.agg #[.string x,.string s1,.string s2,.string s3,.string s4]) (by simp[results,Tryz.results126,go_sem,k2]) rfl ⟨rfl,by
   have h1:Below w.heap.size w w1:=below_via (((Below.refl _ _).alloc (Nat.le_refl _) _).alloc (by simp) _) hb1
   repeat (refine Below.setCell ?_ (by simp) _)
   exact h1⟩
theorem child_1 (s0 s1 s2 s3 s4 x:ByteArray)(w:World)
  (hd:∀ W,Calls Tryz.prog 83 #[.agg #[.string s0,.string s1,.string s2,.string s3,.string s4]] W fun e w'=>e=.returned (.int .i64 1)/\Below W.heap.size W w'):
  Calls Tryz.prog 126 #[.agg #[.string s0,.string s1,.string s2,.string s3,.string s4],.string x] w fun e w'=>e=.returned (.agg #[.string s0,.string x,.string s2,.string s3,.string s4])/\Below w.heap.size w w':=by
 go_enter Tryz.func126,Tryz.ntmps126
 go_wp2_with (go_at_call 83;refine (hd _).mono ?_;rintro e w1 ⟨rfl,hb1⟩;have hz:=two_size0 hb1;obtain⟨hz0,hz1⟩:=hz;have k1:=fun o=>(bcell hb1).1 w.heap.size o (by simp;omega);have f1:=fun o=>(bcell hb1).2 w.heap.size o (by simp;omega);have k2:=fun o=>(bcell hb1).1 (w.heap.size+1) o (by simp);have f2:=fun o=>(bcell hb1).2 (w.heap.size+1) o (by simp))
 exact bodyPost_ret (v:=.agg #[.string s0,.string x,.string s2,.string s3,.string s4]) (by simp[results,Tryz.results126,go_sem,k2]) rfl ⟨rfl,by
   have h1:Below w.heap.size w w1:=below_via (((Below.refl _ _).alloc (Nat.le_refl _) _).alloc (by simp) _) hb1
   repeat (refine Below.setCell ?_ (by simp) _)
   exact h1⟩
theorem child_2 (s0 s1 s2 s3 s4 x:ByteArray)(w:World)
  (hd:∀ W,Calls Tryz.prog 83 #[.agg #[.string s0,.string s1,.string s2,.string s3,.string s4]] W fun e w'=>e=.returned (.int .i64 2)/\Below W.heap.size W w'):
  Calls Tryz.prog 126 #[.agg #[.string s0,.string s1,.string s2,.string s3,.string s4],.string x] w fun e w'=>e=.returned (.agg #[.string s0,.string s1,.string x,.string s3,.string s4])/\Below w.heap.size w w':=by
 go_enter Tryz.func126,Tryz.ntmps126
 go_wp2_with (go_at_call 83;refine (hd _).mono ?_;rintro e w1 ⟨rfl,hb1⟩;have hz:=two_size0 hb1;obtain⟨hz0,hz1⟩:=hz;have k1:=fun o=>(bcell hb1).1 w.heap.size o (by simp;omega);have f1:=fun o=>(bcell hb1).2 w.heap.size o (by simp;omega);have k2:=fun o=>(bcell hb1).1 (w.heap.size+1) o (by simp);have f2:=fun o=>(bcell hb1).2 (w.heap.size+1) o (by simp))
 exact bodyPost_ret (v:=.agg #[.string s0,.string s1,.string x,.string s3,.string s4]) (by simp[results,Tryz.results126,go_sem,k2]) rfl ⟨rfl,by
   have h1:Below w.heap.size w w1:=below_via (((Below.refl _ _).alloc (Nat.le_refl _) _).alloc (by simp) _) hb1
   repeat (refine Below.setCell ?_ (by simp) _)
   exact h1⟩
theorem child_3 (s0 s1 s2 s3 s4 x:ByteArray)(w:World)
  (hd:∀ W,Calls Tryz.prog 83 #[.agg #[.string s0,.string s1,.string s2,.string s3,.string s4]] W fun e w'=>e=.returned (.int .i64 3)/\Below W.heap.size W w'):
  Calls Tryz.prog 126 #[.agg #[.string s0,.string s1,.string s2,.string s3,.string s4],.string x] w fun e w'=>e=.returned (.agg #[.string s0,.string s1,.string s2,.string x,.string s4])/\Below w.heap.size w w':=by
 go_enter Tryz.func126,Tryz.ntmps126
 go_wp2_with (go_at_call 83;refine (hd _).mono ?_;rintro e w1 ⟨rfl,hb1⟩;have hz:=two_size0 hb1;obtain⟨hz0,hz1⟩:=hz;have k1:=fun o=>(bcell hb1).1 w.heap.size o (by simp;omega);have f1:=fun o=>(bcell hb1).2 w.heap.size o (by simp;omega);have k2:=fun o=>(bcell hb1).1 (w.heap.size+1) o (by simp);have f2:=fun o=>(bcell hb1).2 (w.heap.size+1) o (by simp))
 exact bodyPost_ret (v:=.agg #[.string s0,.string s1,.string s2,.string x,.string s4]) (by simp[results,Tryz.results126,go_sem,k2]) rfl ⟨rfl,by
   have h1:Below w.heap.size w w1:=below_via (((Below.refl _ _).alloc (Nat.le_refl _) _).alloc (by simp) _) hb1
   repeat (refine Below.setCell ?_ (by simp) _)
   exact h1⟩
theorem child_4 (s0 s1 s2 s3 s4 x:ByteArray)(w:World)
  (hd:∀ W,Calls Tryz.prog 83 #[.agg #[.string s0,.string s1,.string s2,.string s3,.string s4]] W fun e w'=>e=.returned (.int .i64 4)/\Below W.heap.size W w'):
  Calls Tryz.prog 126 #[.agg #[.string s0,.string s1,.string s2,.string s3,.string s4],.string x] w fun e w'=>e=.returned (.agg #[.string s0,.string s1,.string s2,.string s3,.string x])/\Below w.heap.size w w':=by
 go_enter Tryz.func126,Tryz.ntmps126
 go_wp2_with (go_at_call 83;refine (hd _).mono ?_;rintro e w1 ⟨rfl,hb1⟩;have hz:=two_size0 hb1;obtain⟨hz0,hz1⟩:=hz;have k1:=fun o=>(bcell hb1).1 w.heap.size o (by simp;omega);have f1:=fun o=>(bcell hb1).2 w.heap.size o (by simp;omega);have k2:=fun o=>(bcell hb1).1 (w.heap.size+1) o (by simp);have f2:=fun o=>(bcell hb1).2 (w.heap.size+1) o (by simp))
 exact bodyPost_ret (v:=.agg #[.string s0,.string s1,.string s2,.string s3,.string x]) (by simp[results,Tryz.results126,go_sem,k2]) rfl ⟨rfl,by
   have h1:Below w.heap.size w w1:=below_via (((Below.refl _ _).alloc (Nat.le_refl _) _).alloc (by simp) _) hb1
   repeat (refine Below.setCell ?_ (by simp) _)
   exact h1⟩
theorem child_any (l:List ByteArray)(hg:Good l)(h4:l.length<=4)(x:ByteArray)(w:World):Calls Tryz.prog 126 #[pathV l,.string x] w fun e w'=>e=.returned (pathV (l ++ [x]))/\Below w.heap.size w w':=by
 have hd:=fun W=>depth_any l hg.val hg.len W
 match l,h4,hd with
 | [],_,hd=>exact child_0 _ _ _ _ _ x w hd
 | [a],_,hd=>exact child_1 _ _ _ _ _ x w hd
 | [a,b],_,hd=>exact child_2 _ _ _ _ _ x w hd
 | [a,b,c],_,hd=>exact child_3 _ _ _ _ _ x w hd
 | [a,b,c,d],_,hd=>exact child_4 _ _ _ _ _ x w hd
end Go.Proofs.YtajopoddmfdejaaGreat
