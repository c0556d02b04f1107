/-
  What is proved here: Remove of a workspace's tree. whether what is at a path yields to what comes (yields).
-/
import Derived.Test.YtajopoddmfdejaaGreatRetM18
namespace Go.Proofs.YtajopoddmfdejaaGreat
open Go.RowKit Go.Sort Go.Shelf
set_option linter.unusedVariables false
set_option maxRecDepth 100000
set_option maxHeartbeats 16000000
theorem vacant_next {objs:List Ob}{fs:FS}{c:LT}(h:(vacantG objs fs c).2=0):fs.Next (vacantG objs fs c).1/\(kids objs c=none\/kids objs c=some []):=by
 unfold vacantG at h ⊢
 by_cases hk:c.kind=1
 ·rw[if_pos hk]
  refine⟨FS.Next.refl _,.inl ?_⟩
  cases c <;> simp[LT.kind] at hk <;> rfl
 ·rw[if_neg hk] at h ⊢
  by_cases h0:(kidsG objs fs c).2.1=0/\0<(kidsG objs fs c).2.2.length
  ·simp only[if_pos h0] at h;cases h
  ·simp only[if_neg h0] at h ⊢
   obtain⟨k1,k2,k3⟩:=kidsG_kids h
   refine⟨k2,.inr ?_⟩
   rw[k1,Option.some.injEq]
   exact List.length_eq_zero_iff.1 (by have:=fun x=>h0 ⟨h,x⟩;omega)
theorem find_way {objs:List Ob}{t c:LT}{fs:FS}{n:ByteArray}{r:List ByteArray}{fs':FS}(hf:findR objs t fs (n :: r)=(fs',0,c)):t.at objs (r.reverse ++ [n])=some c/\fs.Next fs'/\KeptWay objs t fs' r.reverse/\∃ d ks,t.at objs r.reverse=some d/\kids objs d=some ks/\pickK ks n=some c:=by
 obtain⟨h1,h2,h3⟩:=kept_of_find (objs:=objs) (t:=t) (fs:=fs) (r:=n :: r) (by rw[hf])
 rw[hf,List.reverse_cons] at h1
 rw[hf] at h2
 refine⟨h1,h2,fun x id hx ha=>?_,at_snoc h1⟩
 have:=h3 x id (by rw[List.reverse_cons];exact hx.trans (List.prefix_append _ _)) (fun e=>by
  have:=hx.length_le
  rw[e,List.reverse_cons] at this
  simp at this
  omega) ha
 rw[hf] at this
 exact this
section
variable {s i p:Nat}{B:WB}{objs:List Ob}
theorem DidF.out {tg:Tags}{w w':World}{g':WG}{lim:Nat}(h:DidF s i p B objs tg w w' g' lim):∃ tg',Moves (Mine i) tg tg' w w'/\WInv tg' w' s i p B objs g' lim:=by
 obtain⟨tg',m,hW⟩:=h
 exact⟨tg',m.mono (fun _ h=>h.mine),hW⟩
theorem remove_walk {tg:Tags}{w:World}{g:WG}{lim:Nat}{t:LT}(h:WInv tg w s i p B objs g lim)(hl:lim+400<1099511627776)(hF:Flat objs t g.ft)(hok:LTok objs 5 t){n:ByteArray}{r:List ByteArray}(hp:Good (r.reverse ++ [n])):
  Calls Tryz.prog 49 #[.pointer (some ⟨B.bt,0,none⟩),.agg (pathA (r.reverse ++ [n]))] w fun en w'=>en=.returned (.int .i64 (removeR objs t g.fs (n :: r)).2.1)/\Left s i p B objs tg w w' g (removeR objs t g.fs (n :: r)).1 (removeR objs t g.fs (n :: r)).2.2 (lim+300):=by
 have hS:=h.st.sound
 have hi:=h.two
 have hr4:r.length<=4:=by have:=hp.len;simp at this;omega
 have hfind:=fun W (hb:Below w.heap.size w W)=>find_all (s:=s) (i:=i) (p:=p) (B:=B) (objs:=objs) (n :: r) tg W g lim (h.below hb) (by omega) (by rw[List.reverse_cons];exact hp)
 rw[List.reverse_cons] at hfind
 obtain⟨f1,f2,f3⟩:=flat_find hS hF hok g.fs (n :: r)
 simp only[f1,f2] at hfind
 have hmk:removeR objs t g.fs (n :: r)=if (findR objs t g.fs (n :: r)).2.1≠0 then ((findR objs t g.fs (n :: r)).1,(findR objs t g.fs (n :: r)).2.1,t) else if (vacantG objs (findR objs t g.fs (n :: r)).1 (findR objs t g.fs (n :: r)).2.2).2≠0 then ((vacantG objs (findR objs t g.fs (n :: r)).1 (findR objs t g.fs (n :: r)).2.2).1,(vacantG objs (findR objs t g.fs (n :: r)).1 (findR objs t g.fs (n :: r)).2.2).2,t) else ((vacantG objs (findR objs t g.fs (n :: r)).1 (findR objs t g.fs (n :: r)).2.2).1,0,modG objs (fun ks=>dropK ks n) r.reverse t):=rfl
 generalize removeR objs t g.fs (n :: r)=M at hmk ⊢
 have hfw:∀ {fs':FS} {c:LT},findR objs t g.fs (n :: r)=(fs',0,c)->_:=fun {_ _} h=>find_way h
 generalize findR objs t g.fs (n :: r)=a at hfind f3 hmk hfw
 obtain⟨fs',er,c⟩:=a
 simp only at hfind f3 hmk
 generalize findF objs g.ft g.fs (n :: r)=af at hfind f3
 obtain⟨_,_,en,ek,eid⟩:=af
 simp only[List.headD_cons,Prod.mk.injEq] at hfind f3
 have HMK:Hid _:=hmk
 have heq:∀ W,(Op.equalIn 10000 104 (pathV (r.reverse ++ [n])) (pathV [])).run Tryz.prog W=.ok false W:=fun W=>by
  have:=run_eqP hp Good.nil W
  rw[decide_eq_false (by simp)] at this;exact this
 have hroot:=fun W=>root_any W
 obtain⟨s0,s1,s2,s3,s4,hP⟩:∃ s0 s1 s2 s3 s4,pathA (r.reverse ++ [n]) = #[.string s0,.string s1,.string s2,.string s3,.string s4]:=⟨_,_,_,_,_,rfl⟩
 unfold pathV at hroot heq
 simp only[hP] at heq hfind
 rw[hP]
 unfold pathA at hroot heq
 simp only[List.getD_nil] at hroot heq
 have HP:Hid _:=hP
 have H0:Hid _:=h
 have HFl:Hid _:=hF
 have HOk:Hid _:=hok
 have HS:Hid (Sound objs):=hS
 have HFIND:Hid _:=hfind
 have HFW:Hid (∀ {fs'':FS} {c':LT},(fs',er,c)=(fs'',0,c')->_):=hfw
 have HF3:Hid _:=f3
 have HGP:Hid _:=hp
 clear h hF hok hS hP hfind hfw hp hmk f1 f2 f3
 go_enter Tryz.func49,Tryz.ntmps49
 go_wp2
 go_region_with (go_at_call 66;refine (hroot _).mono ?_;rintro e w1 ⟨rfl,hb1⟩;obtain⟨hc1,hf1⟩:=bcell hb1;have hz1:=one_size hb1;have b1:=below_via (below_drew ((Below.refl w.heap.size w).alloc (Nat.le_refl _) _)) hb1)
 all_goals
  go_wp2_with fail
  refine (HFIND.out w1 b1).mono ?_
  rintro e w3 ⟨rfl,hd3⟩
  obtain⟨tg3,m3,hW3⟩:=hd3.out
  have k3:=kept_cell (b:=w.heap.size) hi m3 hz1 (H0.out.st.fresh _ (Nat.le_refl _))
  have hsz3:w.heap.size<w3.heap.size:=Nat.lt_of_lt_of_le hz1 m3.size
  have tz3:tg3 w.heap.size=(0,0):=(m3.tags _ hz1).trans (H0.out.st.fresh _ (Nat.le_refl _))
  have HM3:Hid _:=call_moves b1 m3
  have HW3:Hid _:=hW3
  clear hd3 m3 hW3
  by_cases her:er=0
  ·subst her
   obtain⟨⟨rfl,rfl,rfl⟩,hat⟩:=HF3.out rfl
   obtain⟨x1,x2,x3,d,ks,x4,x5,x6⟩:=HFW.out rfl
   have hvac:=fun W (hb:Below w3.heap.size w3 W)=>vacant_any (HW3.out.below hb) (by simp;omega) HFl.out HOk.out HGP.out x1 en
   rw[HP.out] at hvac
   have hvn:=vacant_next (objs:=objs) (fs:=fs') (c:=c)
   have hmk:=HMK.out
   clear HMK
   simp only[ne_eq,not_true_eq_false,if_false] at hmk
   generalize vacantG objs fs' c=V at hvac hvn hmk
   obtain⟨fs2,er2⟩:=V
   simp only at hvac hvn hmk
   have HVAC:Hid _:=hvac
   have HVN:Hid _:=hvn
   have HX:Hid _:=And.intro x3 (And.intro x4 (And.intro x5 x6))
   have HMK:Hid _:=hmk
   clear hvac hvn hmk x1 x2 x3 x4 x5 x6 hat
   go_wp2_with fail
   refine (HVAC.out _ ((Below.refl w3.heap.size w3).alloc (Nat.le_refl _) _)).mono ?_
   rintro e w5 ⟨rfl,hd5⟩
   obtain⟨tg5,m5,hW5⟩:=hd5.out
   have k5:=kept_cell (b:=w.heap.size) hi m5 (lt_alloc hsz3 _) tz3
   have hsz5:w.heap.size<w5.heap.size:=Nat.lt_of_lt_of_le (lt_alloc hsz3 _) m5.size
   have tz5:tg5 w.heap.size=(0,0):=(m5.tags _ (lt_alloc hsz3 _)).trans tz3
   have HM5:Hid _:=call_moves ((Below.refl w3.heap.size w3).alloc (Nat.le_refl _) _) m5
   have HW5:Hid _:=hW5
   clear hd5 m5 hW5
   by_cases her2:er2=0
   ·subst her2
    obtain⟨hnx,hkid⟩:=HVN.out rfl
    have hkw:KeptWay objs t fs2 r.reverse:=HX.out.1.mono hnx.2.2.2.2
    have hwy:=ownWay_flat HS.out HFl.out HOk.out HX.out.2.1 HX.out.2.2.1 hkw
    have q1:=(ok_kids HS.out (ok_at HS.out _ HOk.out HX.out.2.1).2.1 HX.out.2.2.1).1
    have hth:thereK (curK objs t r.reverse) en=true:=by rw[cur_at HX.out.2.1 HX.out.2.2.1,there_ent,<- pick_there q1,HX.out.2.2.2];rfl
    have hEn:Ents objs (curK objs t r.reverse):=by
     have:=HW5.out.ents fs2 r
     rw[flat_look HS.out HFl.out HOk.out,look_kept HX.out.2.1 HX.out.2.2.1 hkw] at this
     rw[cur_at HX.out.2.1 HX.out.2.2.1];exact this
    obtain⟨vD,hvD⟩:=HW5.out.wp.ownD
    have htk:=take_any HW5.out hvD (by simp;omega) HGP.out hwy hEn hth
    have hF7:=flat_remove HS.out HFl.out HOk.out HX.out.2.1 HX.out.2.2.1 hkw HX.out.2.2.2 hkid
    have hO7:=drop_ok HS.out HOk.out HX.out.2.1 HX.out.2.2.1 en
    rw[HP.out] at htk
    have HTK:Hid _:=htk
    have HF7:Hid _:=hF7
    have HO7:Hid _:=hO7
    clear htk hF7 hO7 hvD hEn hth q1 hwy hkw hnx hkid
    go_wp2_with (first
     | (go_at_call 85;go_loud (refine Calls.mono HTK.out ?_;rintro e w6 ⟨rfl,tg6,vD6,m6,hW6,hD6⟩;have k6:=kept_cell (b:=w.heap.size) hi m6 hsz5 tz5;have hfg:=forget_any hW6 hD6 HGP.out;rw[HP.out] at hfg;have HFG:Hid _:=hfg;have HM6:Hid _:=m6;clear hfg hW6 hD6 m6))
     | (go_at_call 89;go_loud (refine Calls.mono HFG.out ?_;rintro e w7 ⟨rfl,m7,hW7,hD7⟩;have HM7:Hid _:=m7;have HW7:Hid _:=hW7;clear m7 hW7 hD7)))
    go_ret
    have hmk:=HMK.out
    simp only[not_true_eq_false,if_false] at hmk
    subst hmk
    exact⟨rfl,tg6,_,(HM3.out.trans (HM5.out.trans (HM6.out.trans HM7.out))),HW7.out.mono (by simp;omega),HF7.out,HO7.out⟩
   ·have her2':(er2 == 0)=false:=by simpa using her2
    go_wp2
    go_ret
    have hmk:=HMK.out
    rw[if_pos her2] at hmk
    subst hmk
    exact⟨rfl,left_same (HM3.out.trans HM5.out) (HW5.out.mono (by simp;omega)) HFl.out HOk.out⟩
  ·have her':(er == 0)=false:=by simpa using her
   go_wp2
   go_ret
   have hmk:=HMK.out
   rw[if_pos her] at hmk
   subst hmk
   exact⟨rfl,left_same (HM3.out.trans (Moves.of_below ((Below.refl w3.heap.size w3).alloc (Nat.le_refl _) _))) ((HW3.out.below ((Below.refl w3.heap.size w3).alloc (Nat.le_refl _) _)).mono (by simp;omega)) HFl.out HOk.out⟩
end
section
variable {s i p:Nat}{B:WB}{objs:List Ob}
theorem kind_cases (c:LT):c.kind=1\/c.kind=2:=by cases c <;> simp[LT.kind]
theorem DidF.via {tg:Tags}{w W w':World}{g':WG}{lim:Nat}(hb:Below w.heap.size w W)(h:DidF s i p B objs tg W w' g' lim):DidF s i p B objs tg w w' g' lim:=by
 obtain⟨tg',m,hW⟩:=h
 exact⟨tg',call_moves hb m,hW⟩
theorem didF_same {tg:Tags}{w w':World}{g:WG}{lim:Nat}(h:WInv tg w s i p B objs g lim)(hb:Below w.heap.size w w'):DidF s i p B objs tg w w' g lim:=⟨tg,Moves.of_below hb,h.below hb⟩
theorem DidF.mono {tg:Tags}{w w':World}{g:WG}{lim lim':Nat}(h:DidF s i p B objs tg w w' g lim)(hl:lim<=lim'):DidF s i p B objs tg w w' g lim':=by
 obtain⟨tg',m,hW⟩:=h
 exact⟨tg',m,hW.mono hl⟩
theorem yields_any {tg:Tags}{w:World}{g:WG}{lim:Nat}{t c x:LT}(h:WInv tg w s i p B objs g lim)(hl:lim+10<1099511627776)(hF:Flat objs t g.ft){n:Nat}(hok:LTok objs n t){q:List ByteArray}(hq:Good q)(ha:t.at objs q=some c)(nm nx:ByteArray):
  Calls Tryz.prog 125 #[.pointer (some ⟨B.bt,0,none⟩),.agg (pathA q),.agg #[.string nm,.int .i64 c.kind,.int .i64 c.id],.agg #[.string nx,.int .i64 x.kind,.int .i64 x.id]] w fun en w'=>en=.returned (.int .i64 (yieldsG objs g.fs c x).2)/\DidF s i p B objs tg w w' { g with fs:=(yieldsG objs g.fs c x).1 } (lim+1):=by
 have hvac:=fun W (hb:Below w.heap.size w W)=>vacant_any (h.below hb) hl hF hok hq ha nm
 have hy:yieldsG objs g.fs c x=if c.kind=2/\x.kind=1 then (g.fs,7) else if c.kind=1/\x.kind=2 then (g.fs,5) else vacantG objs g.fs c:=rfl
 generalize yieldsG objs g.fs c x=Y at hy ⊢
 have hkc:=kind_cases c
 have hkx:=kind_cases x
 generalize vacantG objs g.fs c=V at hvac hy
 generalize c.kind=kc at hvac hy hkc ⊢
 generalize x.kind=kx at hy hkx ⊢
 generalize c.id=ic at hvac ⊢
 generalize x.id=ix
 obtain⟨s0,s1,s2,s3,s4,hP⟩:∃ s0 s1 s2 s3 s4,pathA q = #[.string s0,.string s1,.string s2,.string s3,.string s4]:=⟨_,_,_,_,_,rfl⟩
 rw[hP]
 simp only[hP] at hvac
 have H0:Hid _:=h
 have HVAC:Hid _:=hvac
 have HY:Hid _:=hy
 clear h hvac hP hy hF hok ha
 rcases hkc with rfl | rfl <;> rcases hkx with rfl | rfl
 ·go_enter Tryz.func125,Tryz.ntmps125
  go_wp2_with (go_at_call 88;refine (HVAC.out _ ((((Below.refl w.heap.size w).alloc (Nat.le_refl _) _).alloc (by simp) _).alloc (by simp;omega) _)).mono ?_;rintro e w1 ⟨rfl,hd1⟩)
  go_ret
  have hy:=HY.out
  rw[if_neg (by decide),if_neg (by decide)] at hy
  subst hy
  exact⟨rfl,hd1.via ((((Below.refl w.heap.size w).alloc (Nat.le_refl _) _).alloc (by simp) _).alloc (by simp;omega) _)⟩
 ·go_enter Tryz.func125,Tryz.ntmps125
  go_wp2
  go_ret
  have hy:=HY.out
  rw[if_neg (by decide),if_pos (by decide)] at hy
  subst hy
  exact⟨rfl,(didF_same H0.out ((((Below.refl w.heap.size w).alloc (Nat.le_refl _) _).alloc (by simp) _).alloc (by simp;omega) _)).mono (by omega)⟩
 ·go_enter Tryz.func125,Tryz.ntmps125
  go_wp2
  go_ret
  have hy:=HY.out
  rw[if_pos (by decide)] at hy
  subst hy
  exact⟨rfl,(didF_same H0.out ((((Below.refl w.heap.size w).alloc (Nat.le_refl _) _).alloc (by simp) _).alloc (by simp;omega) _)).mono (by omega)⟩
 ·go_enter Tryz.func125,Tryz.ntmps125
  go_wp2_with (go_at_call 88;refine (HVAC.out _ ((((Below.refl w.heap.size w).alloc (Nat.le_refl _) _).alloc (by simp) _).alloc (by simp;omega) _)).mono ?_;rintro e w1 ⟨rfl,hd1⟩)
  go_ret
  have hy:=HY.out
  rw[if_neg (by decide),if_neg (by decide)] at hy
  subst hy
  exact⟨rfl,hd1.via ((((Below.refl w.heap.size w).alloc (Nat.le_refl _) _).alloc (by simp) _).alloc (by simp;omega) _)⟩
end
end Go.Proofs.YtajopoddmfdejaaGreat
