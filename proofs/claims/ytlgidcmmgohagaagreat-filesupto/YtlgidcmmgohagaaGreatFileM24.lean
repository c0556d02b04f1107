/- What is proved here: of paths. -/
import Derived.Test.YtlgidcmmgohagaaGreatFileM23
import Derived.Deep.RegionHeld3
namespace Go.Proofs.YtlgidcmmgohagaaGreat
open Go.RowKit Go.Sort Go.Shelf Go.Proofs.Tryz
set_option linter.unusedVariables false
set_option maxRecDepth 100000
set_option maxHeartbeats 16000000
theorem below_eq (s0 s1 s2 s3 s4:ByteArray)(w:World)
  (heq:∀W,(Op.equalIn 10000 147 (.agg #[.string s0,.string s1,.string s2,.string s3,.string s4]) (.agg #[.string s0,.string s1,.string s2,.string s3,.string s4])).run prog W=.ok true W):
  Calls prog 140 #[.agg #[.string s0,.string s1,.string s2,.string s3,.string s4],.agg #[.string s0,.string s1,.string s2,.string s3,.string s4]] w fun e w'=>e=.returned (.bool false)/\Below w.heap.size w w':=by
 go_enter func140,ntmps140;go_wp2
 go_region
 all_goals
  go_wp2;go_ret;exact⟨rfl,below_drew (((Below.refl _ _).alloc (zzC _) _).alloc (by simp) _)⟩
theorem below_ne (s0 s1 s2 s3 s4 q0 q1 q2 q3 q4 r0 r1 r2 r3 r4:ByteArray)(d:Int)(b:Bool)(w:World)
  (heq:∀W,(Op.equalIn 10000 147 (.agg #[.string s0,.string s1,.string s2,.string s3,.string s4]) (.agg #[.string q0,.string q1,.string q2,.string q3,.string q4])).run prog W=.ok false W)
  (hd:∀W,Calls prog 142 #[.agg #[.string q0,.string q1,.string q2,.string q3,.string q4]] W fun e w'=>e=.returned (.int .i64 d)/\Below W.heap.size W w')
  (hh:∀W,Calls prog 188 #[.agg #[.string s0,.string s1,.string s2,.string s3,.string s4],.int .i64 d] W fun e w'=>e=.returned (.agg #[.string r0,.string r1,.string r2,.string r3,.string r4])/\Below W.heap.size W w')
  (heq2:∀W,(Op.equalIn 10000 147 (.agg #[.string r0,.string r1,.string r2,.string r3,.string r4]) (.agg #[.string q0,.string q1,.string q2,.string q3,.string q4])).run prog W=.ok b W):
  Calls prog 140 #[.agg #[.string s0,.string s1,.string s2,.string s3,.string s4],.agg #[.string q0,.string q1,.string q2,.string q3,.string q4]] w fun e w'=>e=.returned (.bool b)/\Below w.heap.size w w':=by
 go_enter func140,ntmps140;go_wp2
 go_region_with (first
  | (go_at_call 142;refine (hd _).mono ?_;rintro e w1 ⟨rfl,hb1⟩;obtain⟨hc1,hf1⟩:=bcell hb1;obtain⟨hz0,hz1⟩:=two_size hb1;have b1:Below w.heap.size w w1:=below_via (below_drew (((Below.refl _ _).alloc (zzC _) _).alloc (by simp) _)) hb1)
  | (go_at_call 188;refine (hh _).mono ?_;rintro e w2 ⟨rfl,hb2⟩;obtain⟨hc2,hf2⟩:=bcell hb2;have b2:=below_via b1 hb2))
 all_goals
  go_wp2;go_ret;exact⟨rfl,b2⟩
theorem below_any (l m:List ByteArray)(hl:Good l)(hm:Good m)(w:World):Calls prog 140 #[pathV l,pathV m] w fun e w'=>e=.returned (.bool (decide (m <+: l/\l≠m)))/\Below w.heap.size w w':=by
 by_cases h:l=m
 ·subst h
  rw[zzE (fun h=>h.2 rfl)];have heq:∀W,(Op.equalIn 10000 147 (pathV l) (pathV l)).run prog W=.ok true W:=fun W=>by
   have:=run_eqP hl hl W
   rw[decide_eq_true rfl] at this;exact this
  exact below_eq _ _ _ _ _ w heq
 ·have heq:∀W,(Op.equalIn 10000 147 (pathV l) (pathV m)).run prog W=.ok false W:=fun W=>by
   have:=run_eqP hl hm W
   rw[zzE h] at this;exact this
  have hd:=fun W=>depth_any m hm.val hm.len W;have hh:=fun W=>head_any l hl.len m.length hm.len W;have heq2:=fun W=>run_eqP (hl.take m.length) hm W;have hb:decide (m <+: l/\l≠m)=decide (l.take m.length=m):=by
   refine decide_eq_decide.2 ⟨fun h=>(List.prefix_iff_eq_take.1 h.1).symm,fun e=>⟨?_,h⟩⟩;rw[<-e];exact List.take_prefix _ _
  rw[hb];exact below_ne _ _ _ _ _ _ _ _ _ _ _ _ _ _ _ _ _ w heq hd hh heq2
theorem gathered_nil {f:List ByteArray->Option Value}{M:Lit->Option Value}{D:DataW Value}(src:List ByteArray)(hM:∀kl,WideAt.IsKeyLit kl->∀z,D.atKey kl z=((M kl).map DataW.held).getD z)(h1:∀p,Good p->M (keyP prog p)=f p):Gathered f src (Maps.has D) []:=by
 refine⟨List.nodup_nil,fun x=>⟨fun h=>(by cases h),fun⟨hx,_,hf,hl⟩=>?_⟩⟩;rw[vmap_has (hM _ (keyP_is hx)),h1 x hx] at hl;cases hfx:f x with
 | none=>exact absurd hfx hf
 | some y=>rw[hfx] at hl;cases hl
theorem alloc_le (w:World)(o:Obj):w.heap.size<=(w.alloc o).heap.size:=by simp
theorem new5 (w:World)(c0 c1 c2 c3 c4:Value)(t:TypeId):∀j u,[c0,c1,c2,c3,c4][j]? = some u->(w.alloc (.cells #[c0,c1,c2,c3,c4] t)).cell? ((⟨w.heap.size,0,none⟩:Addr).add j)=some u:=by
 intro j u h
 match j,h with
 | 0,h=>simpa [Addr.add] using h
 | 1,h=>simpa [Addr.add] using h
 | 2,h=>simpa [Addr.add] using h
 | 3,h=>simpa [Addr.add] using h
 | 4,h=>simpa [Addr.add] using h
 | j+5,h=>simp at h
theorem new5b (w:World)(o:Obj)(c0 c1 c2 c3 c4:Value)(t:TypeId):∀j u,[c0,c1,c2,c3,c4][j]? = some u->((w.alloc o).alloc (.cells #[c0,c1,c2,c3,c4] t)).cell? ((⟨w.heap.size+1,0,none⟩:Addr).add j)=some u:=by
 have h:=new5 (w.alloc o) c0 c1 c2 c3 c4 t;rwa [World.size_alloc] at h
theorem five_one (s0 s1 s2 s3 s4:ByteArray):∀u ∈ [Value.string s0,.string s1,.string s2,.string s3,.string s4],u.oneCell'=true:=by
 intro u hu;simp only[List.mem_cons,List.not_mem_nil,or_false] at hu;rcases hu with rfl | rfl | rfl | rfl | rfl <;> rfl
def Three (w':World)(a b c:Nat)(p0 p1 p2 p3 p4 s0 s1 s2 s3 s4 d0 d1 d2 d3 d4:ByteArray):Prop:=w'.cell? ⟨a,0,none⟩=some (.string p0)/\w'.cell? ⟨a,1,none⟩=some (.string p1)/\w'.cell? ⟨a,2,none⟩=some (.string p2)/\w'.cell? ⟨a,3,none⟩=some (.string p3)/\w'.cell? ⟨a,4,none⟩=some (.string p4)/\w'.cell? ⟨b,0,none⟩=some (.string s0)/\w'.cell? ⟨b,1,none⟩=some (.string s1)/\w'.cell? ⟨b,2,none⟩=some (.string s2)/\w'.cell? ⟨b,3,none⟩=some (.string s3)/\w'.cell? ⟨b,4,none⟩=some (.string s4)/\w'.cell? ⟨c,0,none⟩=some (.string d0)/\w'.cell? ⟨c,1,none⟩=some (.string d1)/\w'.cell? ⟨c,2,none⟩=some (.string d2)/\w'.cell? ⟨c,3,none⟩=some (.string d3)/\w'.cell? ⟨c,4,none⟩=some (.string d4)
theorem Three.keep {w w':World}{a b c:Nat}{p0 p1 p2 p3 p4 s0 s1 s2 s3 s4 d0 d1 d2 d3 d4:ByteArray}(h:Three w a b c p0 p1 p2 p3 p4 s0 s1 s2 s3 s4 d0 d1 d2 d3 d4)(ha:∀o,w'.cell? ⟨a,o,none⟩=w.cell? ⟨a,o,none⟩)(hb:∀o,w'.cell? ⟨b,o,none⟩=w.cell? ⟨b,o,none⟩)(hc:∀o,w'.cell? ⟨c,o,none⟩=w.cell? ⟨c,o,none⟩):Three w' a b c p0 p1 p2 p3 p4 s0 s1 s2 s3 s4 d0 d1 d2 d3 d4:=by
 unfold Three at h ⊢;simp only[ha,hb,hc];exact h
structure Gath (b r n:Nat)(D:DataW Value)(f:List ByteArray->Option Value)(src:List ByteArray)(W2 wr:World)(left:Lit->Bool)(cnt:Nat)(L:List (List ByteArray))(mv:Value):Prop where
 rg:wr.ranges prog 147 heldElem b r n D left cnt
 ga:Gathered f src left L
 row:wr.ownsRow (r+1) 147 5 mv L.length (flatP L)
 gr:W2.grownBy wr none
 sz:r+1<=wr.heap.size
 many:L.length+cnt<=n
section
variable {b r n:Nat}{D:DataW Value}{f:List ByteArray->Option Value}{src:List ByteArray}{W2 wr:World}{left:Lit->Bool}{cnt:Nat}{L:List (List ByteArray)}{mv:Value}
theorem row_base {w:World}{base:Nat}{e:TypeId}{size k:Nat}{v:Value}{xs:List Value}(h:w.ownsRow base e size v k xs){c:Nat}(hc:c<base):some c≠v.ownBlock:=by
 intro e;rcases h.2 with ⟨h1,_⟩ | ⟨g,cap,cur,h1,hb,_⟩
 ·rw[h1] at e;cases e
 ·rw[h1] at e
  simp only[Value.ownBlock,Option.some.injEq] at e;omega
theorem below_grown {w w':World}(h:Below w.heap.size w w'):w.grownBy w' none:=⟨h.os,h.tape,h.output,h.size,fun i hi _=>h.block i hi⟩
theorem Gath.below (h:Gath b r n D f src W2 wr left cnt L mv){w':World}(hb:Below wr.heap.size wr w'):Gath b r n D f src W2 w' left cnt L mv:=
 ⟨h.rg.kept (below_grown hb) (by simp) (by simp),h.ga,ownsRow_keep h.row (fun g hg=>hb.block g (ownsRow_lt h.row hg)),h.gr.andThen (below_grown hb) (fun j hj=>by cases hj),zzG h.sz hb.size,h.many⟩
theorem Gath.box (h:Gath b r n D f src W2 wr left cnt L mv){c:Nat}(hc:c<W2.heap.size)(o:Nat):wr.cell? ⟨c,o,none⟩=W2.cell? ⟨c,o,none⟩:=World.cell?_of_block (a:=⟨c,o,none⟩) (h.gr.block c hc (by simp))
theorem Gath.next (h:Gath b r n D f src W2 wr left cnt L mv){w1:World}{cnt1:Nat}{p:List ByteArray}(hbr:b<r)(hr:W2.heap.size<=r)(hrg:w1.ranges prog 147 heldElem b r n D (fun z=>left z && !z.sameKey (keyP prog p)) cnt1)(hlt:cnt1<cnt)(hg:wr.grownBy w1 (some r))(hp:Good p)(hl:left (keyP prog p)=true)(hf:f p≠none):
  (¬src <+: p->Gath b r n D f src W2 w1 (fun z=>left z && !z.sameKey (keyP prog p)) cnt1 L mv)/\
  (src <+: p->w1.ownsRow (r+1) 147 5 mv L.length (flatP L)/\r+1<=w1.heap.size/\L.length+1<=n/\∀w2 w3 v',Below w1.heap.size w1 w2->w3.ownsRow (r+1) 147 5 v' (L.length+1) (flatP L++(pathA p).toList)->w2.grownBy w3 mv.ownBlock->Gath b r n D f src W2 w3 (fun z=>left z && !z.sameKey (keyP prog p)) cnt1 (L ++ [p]) v'):=by
 have hrow:w1.ownsRow (r+1) 147 5 mv L.length (flatP L):=ownsRow_keep h.row (fun g hg'=>hg.block g (ownsRow_lt h.row hg') (fun e=>by
  have:=row_base h.row (c:=r) (by omega)
  exact this (by rw[hg',e])))
 have hgr:W2.grownBy w1 none:=h.gr.andThen hg (fun j hj=>by cases hj;exact .inl hr);have hsz:=zzG h.sz hg.size;have hm:=h.many;refine⟨fun hs=>⟨hrg,gathered_skip h.ga hp hs,hrow,hgr,hsz,by omega⟩,fun hs=>⟨hrow,hsz,by omega,fun w2 w3 v' hb hrow3 hg3=>?_⟩⟩;have hbl:=h.rg.owns.lt;have hnb:some b≠mv.ownBlock/\some r≠mv.ownBlock/\∀j,mv.ownBlock=some j->r+1<=j:=by
  rcases h.row.2 with ⟨h1,_⟩ | ⟨g,cap,cur,h1,hb1,_⟩
  ·rw[h1];exact⟨by simp[Value.ownBlock],by simp[Value.ownBlock],fun j hj=>by simp[Value.ownBlock] at hj⟩
  ·rw[h1]
   refine⟨fun e=>?_,fun e=>?_,fun j hj=>?_⟩
   ·simp only[Value.ownBlock,Option.some.injEq] at e;omega
   ·simp only[Value.ownBlock,Option.some.injEq] at e;omega
   ·simp only[Value.ownBlock,Option.some.injEq] at hj;omega
 refine⟨(hrg.kept (below_grown hb) (by simp) (by simp)).kept hg3 hnb.1 hnb.2.1,gathered_add h.ga hp hs hf hl,?_,?_,?_,?_⟩
 ·rw[List.length_append,flatP_snoc];exact hrow3
 ·exact (hgr.andThen (below_grown hb) (fun j hj=>by cases hj)).andThen hg3 (fun j hj=>.inl (zzG (zzG hr (Nat.le_succ _)) (hnb.2.2 j hj)))
 ·exact zzG hsz (zzG hb.size hg3.size)
 ·simp;omega
end
theorem moved_keep {w2 w3:World}{X:Obj}{a c:Nat}(hb3:Below (w2.alloc X).drew.heap.size (w2.alloc X).drew w3)(ha:a<w2.heap.size)(hc:c<w2.heap.size):
  (∀o,w3.cell? ⟨w2.heap.size,o,none⟩=(w2.alloc X).drew.cell? ⟨w2.heap.size,o,none⟩)/\(∀o,w3.cell? ⟨a,o,none⟩=(w2.alloc X).drew.cell? ⟨a,o,none⟩)/\(∀o,w3.cell? ⟨c,o,none⟩=(w2.alloc X).drew.cell? ⟨c,o,none⟩)/\w2.heap.size<w3.heap.size:=by
 have h1:w2.heap.size<(w2.alloc X).drew.heap.size:=by simp
 exact⟨fun o=>(bcell hb3).1 _ o h1,fun o=>(bcell hb3).1 _ o (Nat.lt_trans ha h1),fun o=>(bcell hb3).1 _ o (Nat.lt_trans hc h1),zzA h1 hb3.size⟩
theorem carry_keep {W2 w2 w3 w4 w5:World}{b r:Nat}{la:Option Addr}{lc m:Nat}{xs:List Value}(hbr:b<r)(hg:W2.grownBy w2 (some b))(hrow:w2.ownsRow (r+1) 147 5 (.slice la m lc) m xs)(hsz:r+1<=w2.heap.size)(hb:Below w2.heap.size w2 w3)(h4:w3.grownBy w4 (some b))(h5:w4.grownBy w5 (some b)):
  W2.grownBy w5 (some b)/\w5.ownsRow (r+1) 147 5 (.slice la m lc) m xs/\r+1<=w5.heap.size:=by
 refine⟨((hg.andThen (below_grown hb) (fun j hj=>by cases hj)).andThen h4 (fun j hj=>.inr (by rw[hj]))).andThen h5 (fun j hj=>.inr (by rw[hj])),ownsRow_keep hrow (fun g hg'=>?_),zzG hsz (zzG hb.size (zzG h4.size h5.size))⟩;have hl:=ownsRow_lt hrow hg';have hne:some g≠some b:=fun e=>row_base hrow (c:=b) (by omega) (by rw[hg',e]);have hl3:=zzA hl hb.size;rw[h5.block g (zzA hl3 h4.size) hne,h4.block g hl3 hne,hb.block g hl]
theorem carryF_walk (b n:Nat)(f:List ByteArray->Option Value)(src dst:List ByteArray)(w:World)(hsrc:Good src)(hdG:Good dst)(hP:PMap w b n f)(hn:n<1099511627776)
  (hdst:∀x,dst <+: x->f x=none)(hlen:∀x,src <+: x->f x≠none->dst.length+(x.length-src.length)<=5)(hf:∀x,f x≠none->Good x):
  Calls prog 144 #[.map (some b),.agg (pathA src),.agg (pathA dst)] w fun e w'=>e=.returned (.tuple #[])/\PMap w' b n (carryG f src dst)/\w.grownBy w' (some b):=by
 obtain⟨i0,hi,iz0,iz1,iz2⟩:=info_parts infoP;have hbl:=hP.lt;have HPM:Hid _:=hP;obtain⟨M,⟨D,hD,hM⟩,h1,h2⟩:=hP;have hbel:=fun p (hp:Good p) W=>below_any p src hp hsrc W;have heq:=fun p (hp:Good p) W=>run_eqP hp hsrc W;have hmov:=fun r (h1:src.length+r.length<=5) (h2:dst.length+r.length<=5) W=>moved_any src dst r hsrc hdG h1 h2 W;obtain⟨s0,s1,s2,s3,s4,hS⟩:∃s0 s1 s2 s3 s4,pathA src = #[.string s0,.string s1,.string s2,.string s3,.string s4]:=⟨_,_,_,_,_,rfl⟩;obtain⟨d0,d1,d2,d3,d4,hDp⟩:∃s0 s1 s2 s3 s4,pathA dst = #[.string s0,.string s1,.string s2,.string s3,.string s4]:=⟨_,_,_,_,_,rfl⟩;unfold pathV at hbel heq hmov;rw[hS] at hbel heq hmov;rw[hDp] at hmov;rw[hS,hDp];have HO:Hid _:=ownsMap_keep (w':=(w.alloc (.cells #[.string s0,.string s1,.string s2,.string s3,.string s4] 147)).alloc (.cells #[.string d0,.string d1,.string d2,.string d3,.string d4] 147)) hD ((((Below.refl w.heap.size w).alloc (zzC _) _).alloc (by simp) _).block b hbl);have HM:Hid _:=And.intro hM (And.intro h1 h2);have HBEL:Hid _:=hbel;have HEQ:Hid _:=heq;have HMOV:Hid _:=hmov;have HDST:Hid _:=hdst;have HLEN:Hid _:=hlen;have HF:Hid _:=hf;have HG:Hid _:=And.intro hsrc hdG;have HS:Hid _:=And.intro hS hDp;clear hD hM h1 h2 hbel heq hmov hdst hlen hf hsrc hdG hS hDp;go_enter func144,ntmps144;go_wp2_with (at_range;go_loud (refine wpList_range_own _ rfl _ 161 rfl 147 219 lawP underlying161 heldElem b n D rfl HO.out ?_;intro w0 hrg0 hg0 hs0))
 go_frame
 have hWs:((w.alloc (.cells #[.string s0,.string s1,.string s2,.string s3,.string s4] 147)).alloc (.cells #[.string d0,.string d1,.string d2,.string d3,.string d4] 147)).heap.size=w.heap.size+2:=by simp
 have hmD:=World.ownsMap.size_le HO.out;generalize hr:((w.alloc (.cells #[.string s0,.string s1,.string s2,.string s3,.string s4] 147)).alloc (.cells #[.string d0,.string d1,.string d2,.string d3,.string d4] 147)).heap.size=r at hrg0 hs0 ⊢;have hbr:b<r:=by omega
 have hr0:w.heap.size<r:=by omega
 have hr1:w.heap.size+1<r:=by omega
 have HR2:Hid (((w.alloc (.cells #[.string s0,.string s1,.string s2,.string s3,.string s4] 147)).alloc (.cells #[.string d0,.string d1,.string d2,.string d3,.string d4] 147)).heap.size<=r/\w.heap.size<((w.alloc (.cells #[.string s0,.string s1,.string s2,.string s3,.string s4] 147)).alloc (.cells #[.string d0,.string d1,.string d2,.string d3,.string d4] 147)).heap.size/\w.heap.size+1<((w.alloc (.cells #[.string s0,.string s1,.string s2,.string s3,.string s4] 147)).alloc (.cells #[.string d0,.string d1,.string d2,.string d3,.string d4] 147)).heap.size):=⟨Nat.le_of_eq hr,by omega,by omega⟩;have HST:Hid (Gath b r n D f src ((w.alloc (.cells #[.string s0,.string s1,.string s2,.string s3,.string s4] 147)).alloc (.cells #[.string d0,.string d1,.string d2,.string d3,.string d4] 147)) w0 (Maps.has D) (Maps.size D) [] (.slice none 0 0)):=⟨hrg0,gathered_nil src HM.out.1 HM.out.2.1,World.ownsRow_nil _ _ _ _,hg0,by rw[hs0];exact zzC _,by simpa using hmD⟩;clear hrg0 hg0 hs0 hr hWs hmD
 go_loopw [6] (fun mv wr=>∃left cnt L,Hid (Gath b r n D f src ((w.alloc (.cells #[.string s0,.string s1,.string s2,.string s3,.string s4] 147)).alloc (.cells #[.string d0,.string d1,.string d2,.string d3,.string d4] 147)) wr left cnt L mv)) (fun _ wr=>wr.rangeLeft b r)
 case atStart=>exact⟨Maps.has D,Maps.size D,[],HST.out⟩
 case round=>
  obtain⟨left,cnt,L,HGA⟩:=hrel;obtain⟨la,lc,rfl⟩:=row_shape HGA.out.row;go_wp2_with (at_next;refine stop_at ?_);show wpList _ _ _ _ _ _;refine wpList_next_ranges _ rfl (.tmp 11) rfl 147 lawP heldElem (fun x:Value=>x) (fun x:Value=>x) (fun key kl _=>⟨key,rfl⟩) (fun v y _=>⟨v,rfl⟩) b r n D left cnt rfl HGA.out.rg ?_ ?_
  ·intro hc0 hl0
   have HALL:Hid (∀x,x ∈ L↔(src <+: x/\f x≠none)):=fun x=>(HGA.out.ga.2 x).trans ⟨fun h=>⟨h.2.1,h.2.2.1⟩,fun h=>⟨HF.out x h.2,h.1,h.2,hl0 _⟩⟩;have HNOD:Hid L.Nodup:=HGA.out.ga.1;clear hl0 hc0;have HST2:Hid (PMap wr b n (carried f src dst [])):=PMap.congr ⟨M,⟨D,HGA.out.rg.owns,HM.out.1⟩,HM.out.2.1,HM.out.2.2⟩ (fun x _=>(carried_nil f src dst x).symm);have hLn:L.length<=n:=by have:=HGA.out.many;omega
   have HROW:Hid (wr.ownsRow (r+1) 147 5 (.slice la L.length lc) L.length (flatP L)):=HGA.out.row;have HGR:Hid _:=World.grownBy.but HGA.out.gr (some b);have hszr:=HGA.out.sz;go_wp2
   go_loopw [30] (fun i w2=>∃k:Nat,k<=L.length/\i=.int .i64 (k:Int)/\Hid (PMap w2 b n (carried f src dst (L.take k)))/\Hid (((w.alloc (.cells #[.string s0,.string s1,.string s2,.string s3,.string s4] 147)).alloc (.cells #[.string d0,.string d1,.string d2,.string d3,.string d4] 147)).grownBy w2 (some b))/\Hid (w2.ownsRow (r+1) 147 5 (.slice la L.length lc) L.length (flatP L))/\r+1<=w2.heap.size) (fun i _=>L.length-(intOf i).toNat)
   case atStart=>exact⟨0,zzF _,rfl,HST2.out,HGR.out,HROW.out,hszr⟩
   case round=>
    obtain⟨k,hk,rfl,HPK,HGK,HRK,hszk⟩:=hrel;by_cases hkl:k<L.length
    ·obtain⟨g,c',hsl⟩:=slice_of_owns HRK.out (by omega)
     cases hsl;have hmem:=zzJ hkl;obtain⟨hs,hfp⟩:=(HALL.out L[k]).1 hmem;have hp:=HF.out _ hfp;have hnin:L[k] ∉ L.take k:=by
      intro hin;obtain⟨j,hj,hje⟩:=List.getElem_of_mem hin;rw[List.length_take] at hj;rw[List.getElem_take] at hje;exact List.pairwise_iff_getElem.1 HNOD.out j k (by omega) hkl (by omega) hje
     have htk:L.take (k+1)=L.take k ++ [L[k]]:=zzI hkl;have hLk:∀x ∈ L.take k,src <+: x/\f x≠none:=fun x hx=>(HALL.out x).1 (List.mem_of_mem_take hx);obtain⟨p0,p1,p2,p3,p4,hPp⟩:∃s0 s1 s2 s3 s4,pathA L[k] = #[.string s0,.string s1,.string s2,.string s3,.string s4]:=⟨_,_,_,_,_,rfl⟩;obtain⟨hgl,e0,e1,e2,e3,e4⟩:=row5 HRK.out hkl hPp;generalize L[k]=p at hmem hs hfp hp hnin htk hPp;cases hv:f p with
     | none=>exact absurd hv hfp
     | some v=>
      have hsr:=pre_drop hs;have hl5:=HLEN.out p hs hfp;have hp5:=hp.len;have hd5:src.length+(p.drop src.length).length<=5:=by rw[List.length_drop];have:=hs.length_le;omega
      have hmv:=HMOV.out (p.drop src.length) hd5 (by rw[List.length_drop];exact hl5);rw[hsr,hPp] at hmv;have hqG:Good (movedP src dst p):=⟨HG.out.2.val.append (fun x hx=>hp.val x (List.mem_of_mem_drop hx)),by unfold movedP;rw[List.length_append,List.length_drop];exact hl5⟩;have hturn:=fun W (hP:PMap W b n (carried f src dst (L.take k)))=>carry_turn hP (by unfold maxLen;omega) HDST.out hLk hp hs hv hnin hqG underlying161 zeroFp 0
      change ∀W,Calls prog 197 _ W fun e w'=>e=.returned (.agg (pathA (movedP src dst p)))/\_ at hmv
      obtain⟨q0,q1,q2,q3,q4,hPq⟩:∃s0 s1 s2 s3 s4,pathA (movedP src dst p) = #[.string s0,.string s1,.string s2,.string s3,.string s4]:=⟨_,_,_,_,_,rfl⟩;rw[hPq] at hmv;simp only[hPp,hPq] at hturn;have HTURN:Hid _:=hturn;have hb0:Below wr.heap.size wr (wr.alloc (.cells #[.string p0,.string p1,.string p2,.string p3,.string p4] 147)).drew:=below_drew ((Below.refl _ _).alloc (zzC _) _);have hl0:=(hturn _ (HPK.out.keep (hb0.block b (by omega)))).1;have kS:=fun o=>(out_cell HGK.out (c:=w.heap.size) HR2.out.2.1 (by omega) o);have kD:=fun o=>(out_cell HGK.out (c:=w.heap.size+1) HR2.out.2.2 (by omega) o);have hz0:w.heap.size<wr.heap.size:=by omega
      have hz1:w.heap.size+1<wr.heap.size:=(by omega);have hbz:b<wr.heap.size:=by omega
      have hnb:wr.heap.size≠b:=(by omega);have hnb0:w.heap.size≠b:=by omega
      have hnb1:w.heap.size+1≠b:=(by omega);have HTK:Hid _:=htk;have HB0:Hid _:=hb0;clear hturn hb0 hmem hs hfp hp hnin htk hPp hv hsr hl5 hp5 hd5 hqG hPq hLk;clear HO HM HBEL HEQ HMOV HLEN HF HG HS HPM HNOD HST2 HROW HGR HST hi iz0 iz1 iz2;go_wp2;clear e0 e1 e2 e3 e4;have hSD:Three (wr.alloc (.cells #[.string p0,.string p1,.string p2,.string p3,.string p4] 147)).drew wr.heap.size w.heap.size (w.heap.size+1) p0 p1 p2 p3 p4 s0 s1 s2 s3 s4 d0 d1 d2 d3 d4:=by
       unfold Three;have q0:=Nat.ne_of_lt hz0;have q1:=Nat.ne_of_lt hz1;simp[World.cell?_alloc_lt,hz0,hz1,kS,kD]
      go_region_held3 (fun w'=>w'.cell? ⟨wr.heap.size,0,none⟩=some (.string p0)/\w'.cell? ⟨wr.heap.size,1,none⟩=some (.string p1)/\w'.cell? ⟨wr.heap.size,2,none⟩=some (.string p2)/\w'.cell? ⟨wr.heap.size,3,none⟩=some (.string p3)/\w'.cell? ⟨wr.heap.size,4,none⟩=some (.string p4)/\w'.cell? ⟨w.heap.size,0,none⟩=some (.string s0)/\w'.cell? ⟨w.heap.size,1,none⟩=some (.string s1)/\w'.cell? ⟨w.heap.size,2,none⟩=some (.string s2)/\w'.cell? ⟨w.heap.size,3,none⟩=some (.string s3)/\w'.cell? ⟨w.heap.size,4,none⟩=some (.string s4)/\w'.cell? ⟨w.heap.size+1,0,none⟩=some (.string d0)/\w'.cell? ⟨w.heap.size+1,1,none⟩=some (.string d1)/\w'.cell? ⟨w.heap.size+1,2,none⟩=some (.string d2)/\w'.cell? ⟨w.heap.size+1,3,none⟩=some (.string d3)/\w'.cell? ⟨w.heap.size+1,4,none⟩=some (.string d4)) (first | exact hSD | exact hS3 | exact hS4) (first | (go_at_call 197;refine (hmv _).mono ?_;rintro e w3 ⟨rfl,hb3⟩;obtain⟨m1,m2,m3,m4⟩:=moved_keep hb3 hz0 hz1;have hS3:=hSD.keep m1 m2 m3;have hb03:=below_via HB0.out hb3;obtain⟨hl3,w4,w5,hrun4,hrun5,hP5,hg4,hg5,hs4,hs5⟩:=HTURN.out w3 (HPK.out.keep (hb03.block b hbz));have hS4:=hS3.keep (out_cell hg4 m4 hnb) (out_cell hg4 (Nat.lt_trans hz0 m4) hnb0) (out_cell hg4 (Nat.lt_trans hz1 m4) hnb1);have HE:Hid _:=carry_keep hbr HGK.out HRK.out hszk hb03 hg4 hg5;have HP5:Hid _:=hP5;have hz4:wr.heap.size<w4.heap.size:=zzA m4 (Nat.le_of_eq hs4.symm);clear hg4 hg5 hs4 hs5 hP5 hb03 m1 m2 m3 hb3))
      all_goals
       go_wp2;go_roundw
       case rel=>exact⟨k+1,by omega,by go_num,by rw[HTK.out];exact HP5.out,HE.out.1,HE.out.2.1,HE.out.2.2⟩
       case measure=>simp[intOf];omega
    ·have hke:k=L.length:=by omega
     subst hke;rw[List.take_length] at HPK;go_wp2;go_end0;refine⟨rfl,HPK.out.congr (fun x _=>carried_all HDST.out HALL.out x),?_⟩;exact (World.grownBy.but (below_grown (((Below.refl w.heap.size w).alloc (zzC _) _).alloc (by simp) _)) (some b)).andThen HGK.out (fun j hj=>.inr (by rw[hj]))
  ·intro x c kl y w1 cnt1 hkey hlk hv hat hrg1 hlt hg1 hs1 hen
   obtain⟨p,hp,rfl,rfl,hfp⟩:=came HM.out.1 HM.out.2.1 HM.out.2.2 hkey hat;obtain⟨p0,p1,p2,p3,p4,hPp⟩:∃s0 s1 s2 s3 s4,pathA p = #[.string s0,.string s1,.string s2,.string s3,.string s4]:=⟨_,_,_,_,_,rfl⟩;have hbp:=HBEL.out p hp;have hep:∀W,(Op.equalIn 10000 147 (.agg (pathA p)) (.agg #[.string s0,.string s1,.string s2,.string s3,.string s4])).run prog W=.ok (decide (p=src)) W:=HEQ.out p hp;obtain⟨hno,hyes⟩:=HGA.out.next hbr HR2.out.1 hrg1 hlt hg1 hp hlk hfp;have kS:=fun o=>(out_cell hg1 (c:=w.heap.size) (zzA hr0 (Nat.le_of_succ_le HGA.out.sz)) (by omega) o).trans (HGA.out.box HR2.out.2.1 o);have hz1:w.heap.size<w1.heap.size:=by rw[hs1];exact zzA hr0 (Nat.le_of_succ_le HGA.out.sz)
   have HLT:Hid (cnt1<cnt):=hlt;have HRG1:Hid _:=hrg1;rw[hPp] at hbp hep hen ⊢;have HPp:Hid _:=hPp;have HNO:Hid _:=hno;have HYES:Hid _:=hyes;clear hno hyes hkey hlk hv hat hrg1 hlt hg1 hs1 hfp hPp;by_cases hs:src <+: p
   ·by_cases he:p=src
    ·rw[decide_eq_true he] at hep
     clear hbp;obtain⟨y1,y2,y3,y4⟩:=HYES.out hs;have hW:Below w1.heap.size w1 (w1.alloc (.cells #[.string p0,.string p1,.string p2,.string p3,.string p4] 147)):=(Below.refl _ _).alloc (zzC _) _;have HROW:Hid _:=y1.alloc (.cells #[.string p0,.string p1,.string p2,.string p3,.string p4] 147);have HSZ:Hid _:=zzG y2 hW.size;have HEND:Hid _:=y4;have HW:Hid _:=hW;have h63:L.length+1<=maxLen:=by unfold maxLen;omega
     have hby:(L.length+1)*80<=140737488355328:=(by omega);clear y1 y2 y4 hW;go_wp2_with (at_builtin;go_loud (refine wpList_append_own_at _ rfl (.tmp 24) (.tmp 26) 289 rfl (r+1) 147 i0 _ 5 80 underlying289 hi iz0 iz1 iz2 rfl (by decide) (.slice la L.length lc) L.length (flatP L) rfl (World.ownsRow.alloc HROW.out _) ⟨w1.heap.size+1,0,none⟩ 1 1 [.string p0,.string p1,.string p2,.string p3,.string p4] rfl rfl (new5b w1 _ _ _ _ _ _ 147) (five_one _ _ _ _ _) h63 hby (zzG HSZ.out (alloc_le _ _)) ?_;intro v' w3 hown' hgrow _ hloc;obtain⟨g',cap',rfl⟩:=slice_of_owns hown' (Nat.succ_pos _);have HOWN:Hid _:=hown';have HGROW:Hid _:=hgrow;clear hown' hgrow hloc));have HNEW:Hid (Gath b r n D f src _ w3 _ cnt1 (L ++ [p]) _):=HEND.out _ w3 _ (HW.out.alloc HW.out.size (.cells #[.string p0,.string p1,.string p2,.string p3,.string p4] 147)) (by rw[HPp.out];exact HOWN.out) HGROW.out;go_roundw
     case rel=>exact⟨_,_,_,HNEW.out⟩
     case measure=>rw[HNEW.out.rg.left_eq,HGA.out.rg.left_eq];exact HLT.out
    ·rw[zzE he] at hep
     rw[decide_eq_true ⟨hs,he⟩] at hbp;obtain⟨y1,y2,y3,y4⟩:=HYES.out hs;have HEND:Hid _:=y4;have h63:L.length+1<=maxLen:=by unfold maxLen;omega
     have hby:(L.length+1)*80<=140737488355328:=(by omega);clear y4;have hz2:w.heap.size<(w1.alloc (.cells #[.string p0,.string p1,.string p2,.string p3,.string p4] 147)).heap.size:=by simp;omega
     have hz3:w1.heap.size<(w1.alloc (.cells #[.string p0,.string p1,.string p2,.string p3,.string p4] 147)).heap.size:=(by simp);go_wp2_with (first
      | (go_at_call 140;refine Calls.mono (hbp _) ?_;rintro e w2 ⟨rfl,hb2⟩;have k2:=fun o=>(bcell hb2).1 w1.heap.size o hz3;have hz4:=zzA hz3 hb2.size;have hW:=below_via ((Below.refl w1.heap.size w1).alloc (zzC _) _) hb2;have HROW:Hid (w2.ownsRow (r+1) 147 5 (.slice la L.length lc) L.length (flatP L)):=ownsRow_keep y1 (fun g hg=>hW.block g (ownsRow_lt y1 hg));have HSZ:Hid (r+1<=w2.heap.size):=zzG y2 hW.size;have HW:Hid _:=hW;clear hW)
      | (at_builtin;go_loud (refine wpList_append_own_at _ rfl (.tmp 24) (.tmp 26) 289 rfl (r+1) 147 i0 _ 5 80 underlying289 hi iz0 iz1 iz2 rfl (by decide) (.slice la L.length lc) L.length (flatP L) rfl (World.ownsRow.alloc HROW.out _) ⟨w2.heap.size,0,none⟩ 1 1 [.string p0,.string p1,.string p2,.string p3,.string p4] rfl rfl (new5 w2 _ _ _ _ _ 147) (five_one _ _ _ _ _) h63 hby (zzG HSZ.out (alloc_le _ _)) ?_;intro v' w3 hown' hgrow _ hloc;obtain⟨g',cap',rfl⟩:=slice_of_owns hown' (Nat.succ_pos _);have HOWN:Hid _:=hown';have HGROW:Hid _:=hgrow;clear hown' hgrow hloc)))
     have HNEW:Hid (Gath b r n D f src _ w3 _ cnt1 (L ++ [p]) _):=HEND.out _ w3 _ (HW.out.alloc HW.out.size (.cells #[.string p0,.string p1,.string p2,.string p3,.string p4] 147)) (by rw[HPp.out];exact HOWN.out) HGROW.out;go_roundw
     case rel=>exact⟨_,_,_,HNEW.out⟩
     case measure=>rw[HNEW.out.rg.left_eq,HGA.out.rg.left_eq];exact HLT.out
   ·have he:p≠src:=fun e=>hs (e ▸ List.prefix_refl _)
    rw[zzE he] at hep;rw[zzE (fun h=>hs h.1)] at hbp;go_wp2_with (go_at_call 140;refine Calls.mono (hbp _) ?_;rintro e w2 ⟨rfl,hb2⟩);have HNEW:Hid _:=(HNO.out hs).below (below_via ((Below.refl _ _).alloc (zzC _) _) hb2);go_roundw
    case rel=>exact⟨_,_,L,HNEW.out⟩
    case measure=>rw[(Gath.rg HNEW.out).left_eq,HGA.out.rg.left_eq];exact HLT.out
theorem carryD_walk (b n:Nat)(f:List ByteArray->Option Value)(src dst:List ByteArray)(w:World)(hsrc:Good src)(hdG:Good dst)(hP:PMap w b n f)(hn:n<1099511627776)
  (hdst:∀x,dst <+: x->f x=none)(hlen:∀x,src <+: x->f x≠none->dst.length+(x.length-src.length)<=5)(hf:∀x,f x≠none->Good x):
  Calls prog 145 #[.map (some b),.agg (pathA src),.agg (pathA dst)] w fun e w'=>e=.returned (.tuple #[])/\PMap w' b n (carryG f src dst)/\w.grownBy w' (some b):=by
 obtain⟨i0,hi,iz0,iz1,iz2⟩:=info_parts infoP;have hbl:=hP.lt;have HPM:Hid _:=hP;obtain⟨M,⟨D,hD,hM⟩,h1,h2⟩:=hP;have hbel:=fun p (hp:Good p) W=>below_any p src hp hsrc W;have heq:=fun p (hp:Good p) W=>run_eqP hp hsrc W;have hmov:=fun r (h1:src.length+r.length<=5) (h2:dst.length+r.length<=5) W=>moved_any src dst r hsrc hdG h1 h2 W;obtain⟨s0,s1,s2,s3,s4,hS⟩:∃s0 s1 s2 s3 s4,pathA src = #[.string s0,.string s1,.string s2,.string s3,.string s4]:=⟨_,_,_,_,_,rfl⟩;obtain⟨d0,d1,d2,d3,d4,hDp⟩:∃s0 s1 s2 s3 s4,pathA dst = #[.string s0,.string s1,.string s2,.string s3,.string s4]:=⟨_,_,_,_,_,rfl⟩;unfold pathV at hbel heq hmov;rw[hS] at hbel heq hmov;rw[hDp] at hmov;rw[hS,hDp];have HO:Hid _:=ownsMap_keep (w':=(w.alloc (.cells #[.string s0,.string s1,.string s2,.string s3,.string s4] 147)).alloc (.cells #[.string d0,.string d1,.string d2,.string d3,.string d4] 147)) hD ((((Below.refl w.heap.size w).alloc (zzC _) _).alloc (by simp) _).block b hbl);have HM:Hid _:=And.intro hM (And.intro h1 h2);have HBEL:Hid _:=hbel;have HEQ:Hid _:=heq;have HMOV:Hid _:=hmov;have HDST:Hid _:=hdst;have HLEN:Hid _:=hlen;have HF:Hid _:=hf;have HG:Hid _:=And.intro hsrc hdG;have HS:Hid _:=And.intro hS hDp;clear hD hM h1 h2 hbel heq hmov hdst hlen hf hsrc hdG hS hDp;go_enter func145,ntmps145;go_wp2_with (at_range;go_loud (refine wpList_range_own _ rfl _ 162 rfl 147 55 lawP underlying162 heldElem b n D rfl HO.out ?_;intro w0 hrg0 hg0 hs0))
 go_frame
 have hWs:((w.alloc (.cells #[.string s0,.string s1,.string s2,.string s3,.string s4] 147)).alloc (.cells #[.string d0,.string d1,.string d2,.string d3,.string d4] 147)).heap.size=w.heap.size+2:=by simp
 have hmD:=World.ownsMap.size_le HO.out;generalize hr:((w.alloc (.cells #[.string s0,.string s1,.string s2,.string s3,.string s4] 147)).alloc (.cells #[.string d0,.string d1,.string d2,.string d3,.string d4] 147)).heap.size=r at hrg0 hs0 ⊢;have hbr:b<r:=by omega
 have hr0:w.heap.size<r:=by omega
 have hr1:w.heap.size+1<r:=by omega
 have HR2:Hid (((w.alloc (.cells #[.string s0,.string s1,.string s2,.string s3,.string s4] 147)).alloc (.cells #[.string d0,.string d1,.string d2,.string d3,.string d4] 147)).heap.size<=r/\w.heap.size<((w.alloc (.cells #[.string s0,.string s1,.string s2,.string s3,.string s4] 147)).alloc (.cells #[.string d0,.string d1,.string d2,.string d3,.string d4] 147)).heap.size/\w.heap.size+1<((w.alloc (.cells #[.string s0,.string s1,.string s2,.string s3,.string s4] 147)).alloc (.cells #[.string d0,.string d1,.string d2,.string d3,.string d4] 147)).heap.size):=⟨Nat.le_of_eq hr,by omega,by omega⟩;have HST:Hid (Gath b r n D f src ((w.alloc (.cells #[.string s0,.string s1,.string s2,.string s3,.string s4] 147)).alloc (.cells #[.string d0,.string d1,.string d2,.string d3,.string d4] 147)) w0 (Maps.has D) (Maps.size D) [] (.slice none 0 0)):=⟨hrg0,gathered_nil src HM.out.1 HM.out.2.1,World.ownsRow_nil _ _ _ _,hg0,by rw[hs0];exact zzC _,by simpa using hmD⟩;clear hrg0 hg0 hs0 hr hWs hmD
 go_loopw [6] (fun mv wr=>∃left cnt L,Hid (Gath b r n D f src ((w.alloc (.cells #[.string s0,.string s1,.string s2,.string s3,.string s4] 147)).alloc (.cells #[.string d0,.string d1,.string d2,.string d3,.string d4] 147)) wr left cnt L mv)) (fun _ wr=>wr.rangeLeft b r)
 case atStart=>exact⟨Maps.has D,Maps.size D,[],HST.out⟩
 case round=>
  obtain⟨left,cnt,L,HGA⟩:=hrel;obtain⟨la,lc,rfl⟩:=row_shape HGA.out.row;go_wp2_with (at_next;refine stop_at ?_);show wpList _ _ _ _ _ _;refine wpList_next_ranges _ rfl (.tmp 11) rfl 147 lawP heldElem (fun x:Value=>x) (fun x:Value=>x) (fun key kl _=>⟨key,rfl⟩) (fun v y _=>⟨v,rfl⟩) b r n D left cnt rfl HGA.out.rg ?_ ?_
  ·intro hc0 hl0
   have HALL:Hid (∀x,x ∈ L↔(src <+: x/\f x≠none)):=fun x=>(HGA.out.ga.2 x).trans ⟨fun h=>⟨h.2.1,h.2.2.1⟩,fun h=>⟨HF.out x h.2,h.1,h.2,hl0 _⟩⟩;have HNOD:Hid L.Nodup:=HGA.out.ga.1;clear hl0 hc0;have HST2:Hid (PMap wr b n (carried f src dst [])):=PMap.congr ⟨M,⟨D,HGA.out.rg.owns,HM.out.1⟩,HM.out.2.1,HM.out.2.2⟩ (fun x _=>(carried_nil f src dst x).symm);have hLn:L.length<=n:=by have:=HGA.out.many;omega
   have HROW:Hid (wr.ownsRow (r+1) 147 5 (.slice la L.length lc) L.length (flatP L)):=HGA.out.row;have HGR:Hid _:=World.grownBy.but HGA.out.gr (some b);have hszr:=HGA.out.sz;go_wp2
   go_loopw [30] (fun i w2=>∃k:Nat,k<=L.length/\i=.int .i64 (k:Int)/\Hid (PMap w2 b n (carried f src dst (L.take k)))/\Hid (((w.alloc (.cells #[.string s0,.string s1,.string s2,.string s3,.string s4] 147)).alloc (.cells #[.string d0,.string d1,.string d2,.string d3,.string d4] 147)).grownBy w2 (some b))/\Hid (w2.ownsRow (r+1) 147 5 (.slice la L.length lc) L.length (flatP L))/\r+1<=w2.heap.size) (fun i _=>L.length-(intOf i).toNat)
   case atStart=>exact⟨0,zzF _,rfl,HST2.out,HGR.out,HROW.out,hszr⟩
   case round=>
    obtain⟨k,hk,rfl,HPK,HGK,HRK,hszk⟩:=hrel;by_cases hkl:k<L.length
    ·obtain⟨g,c',hsl⟩:=slice_of_owns HRK.out (by omega)
     cases hsl;have hmem:=zzJ hkl;obtain⟨hs,hfp⟩:=(HALL.out L[k]).1 hmem;have hp:=HF.out _ hfp;have hnin:L[k] ∉ L.take k:=by
      intro hin;obtain⟨j,hj,hje⟩:=List.getElem_of_mem hin;rw[List.length_take] at hj;rw[List.getElem_take] at hje;exact List.pairwise_iff_getElem.1 HNOD.out j k (by omega) hkl (by omega) hje
     have htk:L.take (k+1)=L.take k ++ [L[k]]:=zzI hkl;have hLk:∀x ∈ L.take k,src <+: x/\f x≠none:=fun x hx=>(HALL.out x).1 (List.mem_of_mem_take hx);obtain⟨p0,p1,p2,p3,p4,hPp⟩:∃s0 s1 s2 s3 s4,pathA L[k] = #[.string s0,.string s1,.string s2,.string s3,.string s4]:=⟨_,_,_,_,_,rfl⟩;obtain⟨hgl,e0,e1,e2,e3,e4⟩:=row5 HRK.out hkl hPp;generalize L[k]=p at hmem hs hfp hp hnin htk hPp;cases hv:f p with
     | none=>exact absurd hv hfp
     | some v=>
      have hsr:=pre_drop hs;have hl5:=HLEN.out p hs hfp;have hp5:=hp.len;have hd5:src.length+(p.drop src.length).length<=5:=by rw[List.length_drop];have:=hs.length_le;omega
      have hmv:=HMOV.out (p.drop src.length) hd5 (by rw[List.length_drop];exact hl5);rw[hsr,hPp] at hmv;have hqG:Good (movedP src dst p):=⟨HG.out.2.val.append (fun x hx=>hp.val x (List.mem_of_mem_drop hx)),by unfold movedP;rw[List.length_append,List.length_drop];exact hl5⟩;have hturn:=fun W (hP:PMap W b n (carried f src dst (L.take k)))=>carry_turn hP (by unfold maxLen;omega) HDST.out hLk hp hs hv hnin hqG underlying162 zeroEs 0
      change ∀W,Calls prog 197 _ W fun e w'=>e=.returned (.agg (pathA (movedP src dst p)))/\_ at hmv
      obtain⟨q0,q1,q2,q3,q4,hPq⟩:∃s0 s1 s2 s3 s4,pathA (movedP src dst p) = #[.string s0,.string s1,.string s2,.string s3,.string s4]:=⟨_,_,_,_,_,rfl⟩;rw[hPq] at hmv;simp only[hPp,hPq] at hturn;have HTURN:Hid _:=hturn;have hb0:Below wr.heap.size wr (wr.alloc (.cells #[.string p0,.string p1,.string p2,.string p3,.string p4] 147)).drew:=below_drew ((Below.refl _ _).alloc (zzC _) _);have hl0:=(hturn _ (HPK.out.keep (hb0.block b (by omega)))).1;have kS:=fun o=>(out_cell HGK.out (c:=w.heap.size) HR2.out.2.1 (by omega) o);have kD:=fun o=>(out_cell HGK.out (c:=w.heap.size+1) HR2.out.2.2 (by omega) o);have hz0:w.heap.size<wr.heap.size:=by omega
      have hz1:w.heap.size+1<wr.heap.size:=(by omega);have hbz:b<wr.heap.size:=by omega
      have hnb:wr.heap.size≠b:=(by omega);have hnb0:w.heap.size≠b:=by omega
      have hnb1:w.heap.size+1≠b:=(by omega);have HTK:Hid _:=htk;have HB0:Hid _:=hb0;clear hturn hb0 hmem hs hfp hp hnin htk hPp hv hsr hl5 hp5 hd5 hqG hPq hLk;clear HO HM HBEL HEQ HMOV HLEN HF HG HS HPM HNOD HST2 HROW HGR HST hi iz0 iz1 iz2;go_wp2;clear e0 e1 e2 e3 e4;have hSD:Three (wr.alloc (.cells #[.string p0,.string p1,.string p2,.string p3,.string p4] 147)).drew wr.heap.size w.heap.size (w.heap.size+1) p0 p1 p2 p3 p4 s0 s1 s2 s3 s4 d0 d1 d2 d3 d4:=by
       unfold Three;have q0:=Nat.ne_of_lt hz0;have q1:=Nat.ne_of_lt hz1;simp[World.cell?_alloc_lt,hz0,hz1,kS,kD]
      go_region_held3 (fun w'=>w'.cell? ⟨wr.heap.size,0,none⟩=some (.string p0)/\w'.cell? ⟨wr.heap.size,1,none⟩=some (.string p1)/\w'.cell? ⟨wr.heap.size,2,none⟩=some (.string p2)/\w'.cell? ⟨wr.heap.size,3,none⟩=some (.string p3)/\w'.cell? ⟨wr.heap.size,4,none⟩=some (.string p4)/\w'.cell? ⟨w.heap.size,0,none⟩=some (.string s0)/\w'.cell? ⟨w.heap.size,1,none⟩=some (.string s1)/\w'.cell? ⟨w.heap.size,2,none⟩=some (.string s2)/\w'.cell? ⟨w.heap.size,3,none⟩=some (.string s3)/\w'.cell? ⟨w.heap.size,4,none⟩=some (.string s4)/\w'.cell? ⟨w.heap.size+1,0,none⟩=some (.string d0)/\w'.cell? ⟨w.heap.size+1,1,none⟩=some (.string d1)/\w'.cell? ⟨w.heap.size+1,2,none⟩=some (.string d2)/\w'.cell? ⟨w.heap.size+1,3,none⟩=some (.string d3)/\w'.cell? ⟨w.heap.size+1,4,none⟩=some (.string d4)) (first | exact hSD | exact hS3 | exact hS4) (first | (go_at_call 197;refine (hmv _).mono ?_;rintro e w3 ⟨rfl,hb3⟩;obtain⟨m1,m2,m3,m4⟩:=moved_keep hb3 hz0 hz1;have hS3:=hSD.keep m1 m2 m3;have hb03:=below_via HB0.out hb3;obtain⟨hl3,w4,w5,hrun4,hrun5,hP5,hg4,hg5,hs4,hs5⟩:=HTURN.out w3 (HPK.out.keep (hb03.block b hbz));have hS4:=hS3.keep (out_cell hg4 m4 hnb) (out_cell hg4 (Nat.lt_trans hz0 m4) hnb0) (out_cell hg4 (Nat.lt_trans hz1 m4) hnb1);have HE:Hid _:=carry_keep hbr HGK.out HRK.out hszk hb03 hg4 hg5;have HP5:Hid _:=hP5;have hz4:wr.heap.size<w4.heap.size:=zzA m4 (Nat.le_of_eq hs4.symm);clear hg4 hg5 hs4 hs5 hP5 hb03 m1 m2 m3 hb3))
      all_goals
       go_wp2;go_roundw
       case rel=>exact⟨k+1,by omega,by go_num,by rw[HTK.out];exact HP5.out,HE.out.1,HE.out.2.1,HE.out.2.2⟩
       case measure=>simp[intOf];omega
    ·have hke:k=L.length:=by omega
     subst hke;rw[List.take_length] at HPK;go_wp2;go_end0;refine⟨rfl,HPK.out.congr (fun x _=>carried_all HDST.out HALL.out x),?_⟩;exact (World.grownBy.but (below_grown (((Below.refl w.heap.size w).alloc (zzC _) _).alloc (by simp) _)) (some b)).andThen HGK.out (fun j hj=>.inr (by rw[hj]))
  ·intro x c kl y w1 cnt1 hkey hlk hv hat hrg1 hlt hg1 hs1 hen
   obtain⟨p,hp,rfl,rfl,hfp⟩:=came HM.out.1 HM.out.2.1 HM.out.2.2 hkey hat;obtain⟨p0,p1,p2,p3,p4,hPp⟩:∃s0 s1 s2 s3 s4,pathA p = #[.string s0,.string s1,.string s2,.string s3,.string s4]:=⟨_,_,_,_,_,rfl⟩;have hbp:=HBEL.out p hp;have hep:∀W,(Op.equalIn 10000 147 (.agg (pathA p)) (.agg #[.string s0,.string s1,.string s2,.string s3,.string s4])).run prog W=.ok (decide (p=src)) W:=HEQ.out p hp;obtain⟨hno,hyes⟩:=HGA.out.next hbr HR2.out.1 hrg1 hlt hg1 hp hlk hfp;have kS:=fun o=>(out_cell hg1 (c:=w.heap.size) (zzA hr0 (Nat.le_of_succ_le HGA.out.sz)) (by omega) o).trans (HGA.out.box HR2.out.2.1 o);have hz1:w.heap.size<w1.heap.size:=by rw[hs1];exact zzA hr0 (Nat.le_of_succ_le HGA.out.sz)
   have HLT:Hid (cnt1<cnt):=hlt;have HRG1:Hid _:=hrg1;rw[hPp] at hbp hep hen ⊢;have HPp:Hid _:=hPp;have HNO:Hid _:=hno;have HYES:Hid _:=hyes;clear hno hyes hkey hlk hv hat hrg1 hlt hg1 hs1 hfp hPp;by_cases hs:src <+: p
   ·by_cases he:p=src
    ·rw[decide_eq_true he] at hep
     clear hbp;obtain⟨y1,y2,y3,y4⟩:=HYES.out hs;have hW:Below w1.heap.size w1 (w1.alloc (.cells #[.string p0,.string p1,.string p2,.string p3,.string p4] 147)):=(Below.refl _ _).alloc (zzC _) _;have HROW:Hid _:=y1.alloc (.cells #[.string p0,.string p1,.string p2,.string p3,.string p4] 147);have HSZ:Hid _:=zzG y2 hW.size;have HEND:Hid _:=y4;have HW:Hid _:=hW;have h63:L.length+1<=maxLen:=by unfold maxLen;omega
     have hby:(L.length+1)*80<=140737488355328:=(by omega);clear y1 y2 y4 hW;go_wp2_with (at_builtin;go_loud (refine wpList_append_own_at _ rfl (.tmp 24) (.tmp 26) 289 rfl (r+1) 147 i0 _ 5 80 underlying289 hi iz0 iz1 iz2 rfl (by decide) (.slice la L.length lc) L.length (flatP L) rfl (World.ownsRow.alloc HROW.out _) ⟨w1.heap.size+1,0,none⟩ 1 1 [.string p0,.string p1,.string p2,.string p3,.string p4] rfl rfl (new5b w1 _ _ _ _ _ _ 147) (five_one _ _ _ _ _) h63 hby (zzG HSZ.out (alloc_le _ _)) ?_;intro v' w3 hown' hgrow _ hloc;obtain⟨g',cap',rfl⟩:=slice_of_owns hown' (Nat.succ_pos _);have HOWN:Hid _:=hown';have HGROW:Hid _:=hgrow;clear hown' hgrow hloc));have HNEW:Hid (Gath b r n D f src _ w3 _ cnt1 (L ++ [p]) _):=HEND.out _ w3 _ (HW.out.alloc HW.out.size (.cells #[.string p0,.string p1,.string p2,.string p3,.string p4] 147)) (by rw[HPp.out];exact HOWN.out) HGROW.out;go_roundw
     case rel=>exact⟨_,_,_,HNEW.out⟩
     case measure=>rw[HNEW.out.rg.left_eq,HGA.out.rg.left_eq];exact HLT.out
    ·rw[zzE he] at hep
     rw[decide_eq_true ⟨hs,he⟩] at hbp;obtain⟨y1,y2,y3,y4⟩:=HYES.out hs;have HEND:Hid _:=y4;have h63:L.length+1<=maxLen:=by unfold maxLen;omega
     have hby:(L.length+1)*80<=140737488355328:=(by omega);clear y4;have hz2:w.heap.size<(w1.alloc (.cells #[.string p0,.string p1,.string p2,.string p3,.string p4] 147)).heap.size:=by simp;omega
     have hz3:w1.heap.size<(w1.alloc (.cells #[.string p0,.string p1,.string p2,.string p3,.string p4] 147)).heap.size:=(by simp);go_wp2_with (first
      | (go_at_call 140;refine Calls.mono (hbp _) ?_;rintro e w2 ⟨rfl,hb2⟩;have k2:=fun o=>(bcell hb2).1 w1.heap.size o hz3;have hz4:=zzA hz3 hb2.size;have hW:=below_via ((Below.refl w1.heap.size w1).alloc (zzC _) _) hb2;have HROW:Hid (w2.ownsRow (r+1) 147 5 (.slice la L.length lc) L.length (flatP L)):=ownsRow_keep y1 (fun g hg=>hW.block g (ownsRow_lt y1 hg));have HSZ:Hid (r+1<=w2.heap.size):=zzG y2 hW.size;have HW:Hid _:=hW;clear hW)
      | (at_builtin;go_loud (refine wpList_append_own_at _ rfl (.tmp 24) (.tmp 26) 289 rfl (r+1) 147 i0 _ 5 80 underlying289 hi iz0 iz1 iz2 rfl (by decide) (.slice la L.length lc) L.length (flatP L) rfl (World.ownsRow.alloc HROW.out _) ⟨w2.heap.size,0,none⟩ 1 1 [.string p0,.string p1,.string p2,.string p3,.string p4] rfl rfl (new5 w2 _ _ _ _ _ 147) (five_one _ _ _ _ _) h63 hby (zzG HSZ.out (alloc_le _ _)) ?_;intro v' w3 hown' hgrow _ hloc;obtain⟨g',cap',rfl⟩:=slice_of_owns hown' (Nat.succ_pos _);have HOWN:Hid _:=hown';have HGROW:Hid _:=hgrow;clear hown' hgrow hloc)))
     have HNEW:Hid (Gath b r n D f src _ w3 _ cnt1 (L ++ [p]) _):=HEND.out _ w3 _ (HW.out.alloc HW.out.size (.cells #[.string p0,.string p1,.string p2,.string p3,.string p4] 147)) (by rw[HPp.out];exact HOWN.out) HGROW.out;go_roundw
     case rel=>exact⟨_,_,_,HNEW.out⟩
     case measure=>rw[HNEW.out.rg.left_eq,HGA.out.rg.left_eq];exact HLT.out
   ·have he:p≠src:=fun e=>hs (e ▸ List.prefix_refl _)
    rw[zzE he] at hep;rw[zzE (fun h=>hs h.1)] at hbp;go_wp2_with (go_at_call 140;refine Calls.mono (hbp _) ?_;rintro e w2 ⟨rfl,hb2⟩);have HNEW:Hid _:=(HNO.out hs).below (below_via ((Below.refl _ _).alloc (zzC _) _) hb2);go_roundw
    case rel=>exact⟨_,_,L,HNEW.out⟩
    case measure=>rw[(Gath.rg HNEW.out).left_eq,HGA.out.rg.left_eq];exact HLT.out
end Go.Proofs.YtlgidcmmgohagaaGreat
