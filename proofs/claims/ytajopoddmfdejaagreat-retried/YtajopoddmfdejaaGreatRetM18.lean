/-
  What is proved here: Mkdir of a workspace's tree. whether what is at a path can go (vacant), and Remove.
-/
import Derived.Test.YtajopoddmfdejaaGreatRetM17
namespace Go.Proofs.YtajopoddmfdejaaGreat
open Go.RowKit Go.Sort Go.Shelf
set_option linter.unusedVariables false
set_option maxRecDepth 100000
set_option maxHeartbeats 16000000
theorem put_ok {objs:List Ob}(hS:Sound objs){m:Nat}{t d c:LT}{q:List ByteArray}{ks:Kids}(hok:LTok objs m t)(ha:t.at objs q=some d)(hk:kids objs d=some ks){n:ByteArray}(hn:validB n=true)(hq:q.length<m)(hc:LTok objs (m-q.length-1) c)(hl:thereK ks n=true\/ks.length<16):LTok objs m (modG objs (fun ks=>putK ks n c) q t):=by
 obtain⟨h1,h2,h3⟩:=ok_kids hS (ok_at hS _ hok ha).2.1 hk
 refine ok_mod hS _ q hok ha hk (ok_own (putK_rising h1) ?_ (fun x hx=>?_))
 ·rw[putK_length]
  rcases hl with h | h
  ·rw[if_pos h];exact h2
  ·split <;> omega
 ·rcases mapK_mem hx with rfl | hx
  ·exact⟨hn,m-q.length-1,by omega,hc⟩
  ·exact h3 x hx
theorem Slc.len {tg:Tags}{w:World}{i:Nat}{v:Value}{es:List Ent}(h:Slc tg w i v es):∃ la c,v=.slice la es.length c:=by
 rcases h.1.2 with ⟨e,h0⟩ | ⟨g',c',_,e,_⟩
 ·exact⟨none,0,by rw[h0];exact e⟩
 ·exact⟨_,_,e⟩
section
variable {s i p:Nat}{B:WB}{objs:List Ob}
def Left (s i p:Nat)(B:WB)(objs:List Ob)(tg:Tags)(w w':World)(g:WG)(fs':FS)(t':LT)(lim:Nat):Prop:=
 ∃ tg' ft',Moves (Mine i) tg tg' w w'/\WInv tg' w' s i p B objs { g with fs:=fs',ft:=ft' } lim/\Flat objs t' ft'/\LTok objs 5 t'
theorem left_same {tg tg':Tags}{w w':World}{g:WG}{fs':FS}{t:LT}{lim:Nat}(m:Moves (Mine i) tg tg' w w')(h:WInv tg' w' s i p B objs { g with fs:=fs' } lim)(hF:Flat objs t g.ft)(hok:LTok objs 5 t):Left s i p B objs tg w w' g fs' t lim:=⟨tg',g.ft,m,h,hF,hok⟩
theorem mkdir_walk {tg:Tags}{w:World}{g:WG}{lim:Nat}{t:LT}(h:WInv tg w s i p B objs g lim)(hl:lim+400<1099511627776)(hF:Flat objs t g.ft)(hok:LTok objs 5 t){n:ByteArray}{r:List ByteArray}(hp:Good (r.reverse ++ [n])):
  Calls Tryz.prog 47 #[.pointer (some ⟨B.bt,0,none⟩),.agg (pathA (r.reverse ++ [n]))] w fun en w'=>en=.returned (.int .i64 (mkdirR objs t g.fs (n :: r)).2.1)/\Left s i p B objs tg w w' g (mkdirR objs t g.fs (n :: r)).1 (mkdirR objs t g.fs (n :: r)).2.2 (lim+300):=by
 have hS:=h.st.sound
 have hi:=h.two
 have hq:Good r.reverse:=by have:=hp.dropLast;rwa [List.dropLast_concat] at this
 have hvn:validB n=true:=hp.val n (by simp)
 have hr4:r.length<=4:=by have:=hp.len;simp at this;omega
 have hlook:=fun W (hb:Below w.heap.size w W)=>look_all (s:=s) (i:=i) (p:=p) (B:=B) (objs:=objs) r tg W g lim (h.below hb) (by omega) hq
 simp only[flat_look hS hF hok g.fs r] at hlook
 have hmk:mkdirR objs t g.fs (n :: r)=if (lookR objs t g.fs r).2.1≠0 then ((lookR objs t g.fs r).1,(lookR objs t g.fs r).2.1,t) else if (pickK (lookR objs t g.fs r).2.2 n).isSome then ((lookR objs t g.fs r).1,6,t) else if 16<=(lookR objs t g.fs r).2.2.length then ((lookR objs t g.fs r).1,11,t) else ((lookR objs t g.fs r).1,0,modG objs (fun ks=>putK ks n (.own [])) r.reverse t):=rfl
 have hlk0:=kept_of_look (objs:=objs) (t:=t) (fs:=g.fs) (r:=r)
 have hEn:Ents objs ((lookR objs t g.fs r).2.2.map entOf):=by have:=h.ents g.fs r;rwa [flat_look hS hF hok g.fs r] at this
 generalize mkdirR objs t g.fs (n :: r)=M at hmk ⊢
 generalize lookR objs t g.fs r=a at hlook hlk0 hEn hmk
 obtain⟨fs',er,ks⟩:=a
 simp only at hlook hlk0 hEn hmk
 have HMK:Hid _:=hmk
 have heq:∀ W,(Op.equalIn 10000 104 (pathV (r.reverse ++ [n])) (pathV [])).run Tryz.prog W=.ok false W:=fun W=>by
  have:=run_eqP hp Good.nil W
  rw[decide_eq_false (by simp)] at this;exact this
 have hroot:=fun W=>root_any W
 have hpar:=fun W=>parent_any (r.reverse ++ [n]) hp W
 have hname:=fun W=>name_any (r.reverse ++ [n]) hp (by simp) W
 rw[List.dropLast_concat] at hpar
 simp only[List.getLast_concat] at hname
 obtain⟨s0,s1,s2,s3,s4,hP⟩:∃ s0 s1 s2 s3 s4,pathA (r.reverse ++ [n]) = #[.string s0,.string s1,.string s2,.string s3,.string s4]:=⟨_,_,_,_,_,rfl⟩
 obtain⟨r0,r1,r2,r3,r4,hP'⟩:∃ s0 s1 s2 s3 s4,pathA r.reverse = #[.string s0,.string s1,.string s2,.string s3,.string s4]:=⟨_,_,_,_,_,rfl⟩
 unfold pathV at hroot heq hpar hname
 simp only[hP,hP'] at heq hpar hname hlook
 rw[hP]
 unfold pathA at hroot heq
 simp only[List.getD_nil] at hroot heq
 have HP:Hid _:=hP
 have H0:Hid _:=h
 have HFl:Hid _:=hF
 have HOk:Hid _:=hok
 have HS:Hid _:=hS
 have HLOOK:Hid _:=hlook
 have HLK:Hid _:=hlk0
 have HGP:Hid _:=hp
 have HEN:Hid _:=hEn
 clear h hF hok hS hP hP' hlook hlk0 hp hEn hmk
 go_enter Tryz.func47,Tryz.ntmps47
 go_wp2
 go_region_with (go_at_call 66;refine (hroot _).mono ?_;rintro e w1 ⟨rfl,hb1⟩;obtain⟨hc1,hf1⟩:=bcell hb1;have hz1:=one_size hb1;have b1:=below_via (below_drew ((Below.refl w.heap.size w).alloc (Nat.le_refl _) _)) hb1)
 all_goals
  go_wp2_with (go_at_call 76;refine (hpar _).mono ?_;rintro e w2 ⟨rfl,hb2⟩;have k2:=fun o=>(bcell hb2).1 w.heap.size o hz1;have hz2:=Nat.lt_of_lt_of_le hz1 hb2.size;have b2:=below_via b1 hb2)
  refine (HLOOK.out w2 b2).mono ?_
  rintro e w3 ⟨v,rfl,tg3,m3,hW3,hs3⟩
  have k3:=kept_cell (b:=w.heap.size) hi (m3.mono (fun _ h=>h.mine)) hz2 (H0.out.st.fresh _ (Nat.le_refl _))
  have M3:=call_moves b2 (m3.mono (fun _ h=>h.mine))
  have hsz3:w.heap.size<w3.heap.size:=Nat.lt_of_lt_of_le hz2 m3.size
  have tz3:tg3 w.heap.size=(0,0):=(m3.tags _ hz2).trans (H0.out.st.fresh _ (Nat.le_refl _))
  have HW3:Hid _:=hW3
  have HM3:Hid _:=M3
  have HSL:Hid (Slc tg3 w3 i v (ks.map entOf)):=hs3
  obtain⟨la,lc,rfl⟩:=hs3.len
  rw[List.length_map]
  clear hW3 hs3 m3 M3
  by_cases her:er=0
  ·subst her
   obtain⟨⟨d,hat,hk⟩,hnx,hkw⟩:=HLK.out rfl
   have hwy:=ownWay_flat HS.out HFl.out HOk.out hat hk hkw
   obtain⟨q1,q2,q3⟩:=ok_kids HS.out (ok_at HS.out _ HOk.out hat).2.1 hk
   have hr1:RisingK (ks.map entOf):=by rw[map_ent];exact mapK_rising _ q1
   have hl1:(ks.map entOf).length<=16:=by rw[List.length_map];exact q2
   have hpk:=pick_there q1 n
   have hte:=there_ent ks n
   have hsea:=fun W2 (hb:Below w3.heap.size w3 W2)=>search_any (HSL.out.below hb).1 n hr1 hl1
   rw[List.length_map] at hsea
   have HSEA:Hid _:=hsea
   have HWY:Hid _:=hwy
   have HAT:Hid _:=And.intro hat (And.intro hk hkw)
   have HTE:Hid _:=hte
   have HPK:Hid _:=hpk
   have HR1:Hid _:=And.intro hr1 hl1
   have hq2:ks.length<=16:=q2
   clear hsea hwy hat hk hkw hte hpk hr1 hl1 q1 q2 q3 hnx
   cases hth:thereK ks n with
   | true=>
    go_wp2_with (first
     | (go_at_call 78;refine (hname _).mono ?_;rintro e w4 ⟨rfl,hb4⟩)
     | (go_at_call 77;go_loud (refine (HSEA.out _ hb4).mono ?_;rintro e w5 ⟨rfl,hb5⟩;rw[HTE.out,hth];have b35:=below_via hb4 hb5)))
    go_ret
    have hmk:=HMK.out
    rw[if_neg (by simp),if_pos (by rw[HPK.out];exact hth)] at hmk
    subst hmk
    exact⟨rfl,left_same (HM3.out.trans (Moves.of_below b35)) ((HW3.out.below b35).mono (by omega)) HFl.out HOk.out⟩
   | false=>
    by_cases h16:ks.length<16
    ·obtain⟨vD,hvD⟩:=HW3.out.wp.ownD
     have hput:=fun W2 (hb:Below w3.heap.size w3 W2)=>put_new (HW3.out.below hb) (hvD.moves (Moves.of_below (P:=fun _=>False) hb) (fun x=>x)) (by omega) HGP.out HWY.out (by rw[cur_at HAT.out.1 HAT.out.2.1];exact HEN.out) (by rw[cur_at HAT.out.1 HAT.out.2.1,HTE.out];exact hth) (by rw[cur_at HAT.out.1 HAT.out.2.1,List.length_map];exact h16) ⟨#[]⟩ 2 0 ⟨.inr rfl,fun h=>absurd rfl h⟩
     rw[HP.out] at hput
     have HPUT:Hid _:=hput
     clear hput hvD
     have h16':¬ ((16:Int)<=(ks.length:Int)):=by omega
     go_wp2_with (first
      | (go_at_call 78;refine (hname _).mono ?_;rintro e w4 ⟨rfl,hb4⟩;have k4:=fun o=>(bcell hb4).1 w.heap.size o hsz3)
      | (go_at_call 77;go_loud (refine (HSEA.out _ hb4).mono ?_;rintro e w5 ⟨rfl,hb5⟩;rw[HTE.out,hth];have b35:=below_via hb4 hb5;have k5:=fun o=>(bcell b35).1 w.heap.size o hsz3))
      | (go_at_call 79;go_loud (refine (HPUT.out _ b35).mono ?_;rintro e w6 ⟨rfl,tg6,vD6,m6,hW6,hD6⟩;have k6:=kept_cell (b:=w.heap.size) hi m6 (Nat.lt_of_lt_of_le hsz3 b35.size) tz3;have hsz6:=Nat.lt_of_lt_of_le (Nat.lt_of_lt_of_le hsz3 b35.size) m6.size;have HM6:Hid _:=m6;have HW6:Hid _:=hW6;have HD6:Hid _:=hD6;obtain⟨ht6,c86,_,_,_⟩:=hW6.wp.tree.cells;clear m6 hW6 hD6)))
     obtain⟨w7,tg7,hmu,hg7,hs7,hoD,m7,hW7,hD7,_⟩:=own_new HW6.out HD6.out (by unfold maxLen;omega) HGP.out (below_drew (Below.refl _ w6)) (nil_row _) (fun gb h=>by simp[Value.ownBlock] at h) ⟨by simp[RisingK],by simp,by simp⟩
     rw[HP.out] at hmu
     have HM7:Hid _:=m7
     have HW7:Hid _:=hW7
     have hF7:=flat_mkdir HS.out HFl.out HOk.out HAT.out.1 HAT.out.2.1 HAT.out.2.2 (n:=n) (by have:=HPK.out;rw[hth] at this;simpa using this)
     have hO7:=put_ok HS.out HOk.out HAT.out.1 HAT.out.2.1 hvn (by rw[List.length_reverse];omega) (c:=.own []) (ok_own (by simp[RisingK]) (by simp) (by simp)) (.inr h16)
     have HF7:Hid _:=hF7
     have HO7:Hid _:=hO7
     clear m7 hW7 hD7 hF7 hO7
     go_region
     all_goals
      go_wp2
      go_ret
      have hmk:=HMK.out
      rw[if_neg (by simp),if_neg (by rw[HPK.out,hth];decide),if_neg (by omega)] at hmk
      subst hmk
      exact⟨rfl,tg7,_,(HM3.out.trans ((Moves.of_below b35).trans (HM6.out.trans HM7.out))),HW7.out.mono (by omega),HF7.out,HO7.out⟩
    ·have h16':(16:Int)<=(ks.length:Int):=by omega
     go_wp2_with (first
      | (go_at_call 78;refine (hname _).mono ?_;rintro e w4 ⟨rfl,hb4⟩)
      | (go_at_call 77;go_loud (refine (HSEA.out _ hb4).mono ?_;rintro e w5 ⟨rfl,hb5⟩;rw[HTE.out,hth];have b35:=below_via hb4 hb5)))
     go_ret
     have hmk:=HMK.out
     rw[if_neg (by simp),if_neg (by rw[HPK.out,hth];decide),if_pos (by omega)] at hmk
     subst hmk
     exact⟨rfl,left_same (HM3.out.trans (Moves.of_below b35)) ((HW3.out.below b35).mono (by omega)) HFl.out HOk.out⟩
  ·have her':(er == 0)=false:=by simpa using her
   go_wp2
   go_ret
   have hmk:=HMK.out
   rw[if_pos her] at hmk
   subst hmk
   exact⟨rfl,left_same HM3.out (HW3.out.mono (by omega)) HFl.out HOk.out⟩
end
theorem lt_entOk {objs:List Ob}{n:Nat}{c:LT}(h:LTok objs n c)(nm:ByteArray):EntOk objs (nm,c.kind,c.id):=by
 cases c with
 | file id=>exact⟨.inl rfl,fun _=>by cases n <;> exact h⟩
 | held f=>exact⟨.inl rfl,fun h=>absurd rfl h⟩
 | dir id=>exact⟨.inr rfl,fun _=>by cases n <;> exact h.1⟩
 | own es=>exact⟨.inr rfl,fun h=>absurd rfl h⟩
section
variable {s i p:Nat}{B:WB}{objs:List Ob}
theorem vacant_any {tg:Tags}{w:World}{g:WG}{lim:Nat}{t c:LT}(h:WInv tg w s i p B objs g lim)(hl:lim+10<1099511627776)(hF:Flat objs t g.ft){n:Nat}(hok:LTok objs n t){q:List ByteArray}(hq:Good q)(ha:t.at objs q=some c)(nm:ByteArray):
  Calls Tryz.prog 88 #[.pointer (some ⟨B.bt,0,none⟩),.agg (pathA q),.agg #[.string nm,.int .i64 c.kind,.int .i64 c.id]] w fun en w'=>en=.returned (.int .i64 (vacantG objs g.fs c).2)/\DidF s i p B objs tg w w' { g with fs:=(vacantG objs g.fs c).1 } (lim+1):=by
 have hS:=h.st.sound
 have hc:=(ok_at hS _ hok ha).2.1
 have hen:=fun W (hb:Below w.heap.size w W)=>entries_any (h.below hb) (by omega) hq (lt_entOk hc nm)
 simp only[flat_ents hS hF hc ha] at hen
 have hv:vacantG objs g.fs c=if c.kind=1 then (g.fs,0) else if (kidsG objs g.fs c).2.1=0/\0<(kidsG objs g.fs c).2.2.length then ((kidsG objs g.fs c).1,8) else ((kidsG objs g.fs c).1,(kidsG objs g.fs c).2.1):=rfl
 generalize vacantG objs g.fs c=V at hv ⊢
 generalize kidsG objs g.fs c=a at hen hv
 obtain⟨fs',er,ks⟩:=a
 simp only at hen hv
 generalize c.kind=k at hen hv ⊢
 generalize c.id=id at hen ⊢
 obtain⟨s0,s1,s2,s3,s4,hP⟩:∃ s0 s1 s2 s3 s4,pathA q = #[.string s0,.string s1,.string s2,.string s3,.string s4]:=⟨_,_,_,_,_,rfl⟩
 rw[hP]
 simp only[hP] at hen
 have H0:Hid _:=h
 have HEN:Hid _:=hen
 have HV:Hid _:=hv
 clear h hen hP hv hF hok ha hS hc
 by_cases hk:k=1
 ·subst hk
  go_enter Tryz.func88,Tryz.ntmps88
  go_wp2
  go_ret
  have hv:=HV.out
  rw[if_pos (by first | rfl | trivial)] at hv
  subst hv
  have hb:Below w.heap.size w ((w.alloc (.cells #[.string s0,.string s1,.string s2,.string s3,.string s4] 104)).alloc (.cells #[.string nm,.int .i64 1,.int .i64 id] 76)):=((Below.refl w.heap.size w).alloc (Nat.le_refl _) _).alloc (by simp) _
  exact⟨rfl,tg,Moves.of_below hb,(H0.out.below hb).mono (by omega)⟩
 ·have hk':(k == 1)=false:=by simpa using hk
  go_enter Tryz.func88,Tryz.ntmps88
  go_wp2_with fail
  refine (HEN.out _ (((Below.refl w.heap.size w).alloc (Nat.le_refl _) _).alloc (by simp) _)).mono ?_
  rintro e w1 ⟨v,rfl,tg1,m1,hW1,hs1⟩
  obtain⟨la,lc,rfl⟩:=hs1.len
  rw[List.length_map]
  have HW1:Hid _:=hW1
  have HM1:Hid _:=call_moves (((Below.refl w.heap.size w).alloc (Nat.le_refl _) _).alloc (by simp) _) m1
  clear hs1 hW1 m1
  by_cases her:er=0
  ·subst her
   by_cases hl0:0<ks.length
   ·have hl0':(0:Int)<(ks.length:Int):=by omega
    go_wp2
    go_ret
    have hv:=HV.out
    rw[if_neg hk,if_pos (by first | exact⟨rfl,hl0⟩ | exact⟨trivial,hl0⟩)] at hv
    subst hv
    exact⟨rfl,tg1,HM1.out,HW1.out⟩
   ·have hl0':¬ (0:Int)<(ks.length:Int):=by omega
    go_wp2
    go_ret
    have hv:=HV.out
    rw[if_neg hk,if_neg (fun h=>hl0 h.2)] at hv
    subst hv
    exact⟨rfl,tg1,HM1.out,HW1.out⟩
  ·have her':(er == 0)=false:=by simpa using her
   go_wp2
   go_ret
   have hv:=HV.out
   rw[if_neg hk,if_neg (fun h=>her h.1)] at hv
   subst hv
   exact⟨rfl,tg1,HM1.out,HW1.out⟩
end
end Go.Proofs.YtajopoddmfdejaaGreat
