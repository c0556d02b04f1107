/-
  What is proved here: Open of a workspace's tree: the file at a path, made or cut to nothing where the flags ask for it.
-/
import Derived.Test.YtajopoddmfdejaaGreatRetM26
namespace Go.Proofs.YtajopoddmfdejaaGreat
open Go.RowKit Go.Sort Go.Shelf
set_option linter.unusedVariables false
set_option maxRecDepth 100000
set_option maxHeartbeats 16000000
def openE (ks:Kids)(n:ByteArray)(ex cr:Bool):Int:=
 match pickK ks n with
 | some c=>if c.kind=2 then 7 else if ex=true then 6 else 0
 | none=>if (ex || cr)=true then (if 16<=ks.length then 11 else 0) else 4
def OpenTo (objs:List Ob)(sz:Nat)(fl:Nat->Option (Int×ByteArray))(ks:Kids)(t:LT)(q:List ByteArray)(n:ByteArray)(tr:Bool)(f:Nat)(fl':Nat->Option (Int×ByteArray))(t':LT):Prop:=
 (pickK ks n=none/\sz<=f/\t'=modG objs (fun ks=>putK ks n (.held f)) q t/\fl'=updN fl f (some (0,⟨#[]⟩)))\/
 (pickK ks n=some (.held f)/\t'=t/\fl'=if tr=true then updN fl f (some (0,⟨#[]⟩)) else fl)\/
 (∃ id,pickK ks n=some (.file id)/\sz<=f/\t'=modG objs (fun ks=>putK ks n (.held f)) q t/\fl'=if tr=true then updN (updN fl f (some (id,⟨#[]⟩))) f (some (0,⟨#[]⟩)) else updN fl f (some (id,⟨#[]⟩)))
theorem openE_none {ks:Kids}{n:ByteArray}(h:pickK ks n=none){ex cr:Bool}:openE ks n ex cr=if (ex || cr)=true then (if 16<=ks.length then 11 else 0) else 4:=by unfold openE;rw[h]
theorem openE_some {ks:Kids}{n:ByteArray}{c:LT}(h:pickK ks n=some c){ex cr:Bool}:openE ks n ex cr=if c.kind=2 then 7 else if ex=true then 6 else 0:=by unfold openE;rw[h]
theorem openE_file {ks:Kids}{n:ByteArray}{c:LT}(h:pickK ks n=some c)(hc:c.kind=1){cr:Bool}:openE ks n false cr=0:=by rw[openE_some h,hc];rfl
theorem mine6 {i:Nat}(t:Nat×Nat)(h:t=(i,6)):Mine i t:=.inr (by rw[h])
section
variable {s i p:Nat}{B:WB}{objs:List Ob}
def OpenLeft (s i p:Nat)(B:WB)(objs:List Ob)(tg:Tags)(w w':World)(g:WG)(t:LT)(q:List ByteArray)(n:ByteArray)(ex cr tr:Bool)(fs':FS)(er:Int)(ks:Kids)(lim:Nat)(en:Ending):Prop:=
 (er≠0/\en=.returned (.tuple #[.pointer none,.int .i64 er])/\Left s i p B objs tg w w' g fs' t lim)\/
 (er=0/\openE ks n ex cr≠0/\en=.returned (.tuple #[.pointer none,.int .i64 (openE ks n ex cr)])/\Left s i p B objs tg w w' g fs' t lim)\/
 (er=0/\openE ks n ex cr=0/\∃ f tg' ft' fl' t',en=.returned (.tuple #[.pointer (some ⟨f,0,none⟩),.int .i64 0])/\Moves (Mine i) tg tg' w w'/\WInv tg' w' s i p B objs { g with fs:=fs',ft:=ft',fl:=fl' } lim/\Flat objs t' ft'/\LTok objs 5 t'/\OpenTo objs w.heap.size g.fl ks t q n tr f fl' t')
theorem open_walk {tg:Tags}{w:World}{g:WG}{lim:Nat}{t:LT}(h:WInv tg w s i p B objs g lim)(hl:lim+600<1099511627776)(hF:Flat objs t g.ft)(hok:LTok objs 5 t){n:ByteArray}{r:List ByteArray}(hp:Good (r.reverse ++ [n]))(fg:Int)(ex cr tr:Bool)(hex:(bits BinOp.and IntKind.i64 fg 8 != 0)=ex)(hcr:(bits BinOp.and IntKind.i64 fg 4 != 0)=cr)(htr:(bits BinOp.and IntKind.i64 fg 16 != 0)=tr):
  Calls Tryz.prog 92 #[.pointer (some ⟨B.bt,0,none⟩),.agg (pathA (r.reverse ++ [n])),.int .i64 fg] w fun en w'=>OpenLeft s i p B objs tg w w' g t r.reverse n ex cr tr (lookR objs t g.fs r).1 (lookR objs t g.fs r).2.1 (lookR objs t g.fs r).2.2 (lim+300) en:=by
 have hS:=h.st.sound
 have hi:=h.two
 have hq:Good r.reverse:=by have:=hp.dropLast;rwa [List.dropLast_concat] at this
 have hvn:validB n=true:=hp.val n (by simp)
 have hr4:r.length<=4:=by have:=hp.len;simp at this;omega
 have hlook:=fun W (hb:Below w.heap.size w W)=>look_all (s:=s) (i:=i) (p:=p) (B:=B) (objs:=objs) r tg W g lim (h.below hb) (by omega) hq
 simp only[flat_look hS hF hok g.fs r] at hlook
 have hlk0:=kept_of_look (objs:=objs) (t:=t) (fs:=g.fs) (r:=r)
 generalize lookR objs t g.fs r=a at hlook hlk0 ⊢
 obtain⟨fs',er,ks⟩:=a
 simp only at hlook hlk0 ⊢
 have heq:∀ W,(Op.equalIn 10000 104 (pathV (r.reverse ++ [n])) (pathV [])).run Tryz.prog W=.ok false W:=fun W=>by
  have:=run_eqP hp Good.nil W
  rw[decide_eq_false (by simp)] at this;exact this
 have hroot:=fun W=>root_any W
 have hpar:=fun W=>parent_any (r.reverse ++ [n]) hp W
 have hname:=fun W=>name_any (r.reverse ++ [n]) hp (by simp) W
 rw[List.dropLast_concat] at hpar
 simp only[List.getLast_concat] at hname
 obtain⟨s0,s1,s2,s3,s4,hP⟩:∃ s0 s1 s2 s3 s4,pathA (r.reverse ++ [n]) = #[.string s0,.string s1,.string s2,.string s3,.string s4]:=⟨_,_,_,_,_,rfl⟩
 obtain⟨r0,r1,r2,r3,r4,hP'⟩:∃ s0 s1 s2 s3 s4,pathA r.reverse = #[.string s0,.string s1,.string s2,.string s3,.string s4]:=⟨_,_,_,_,_,rfl⟩
 unfold pathV at hroot heq hpar hname
 simp only[hP,hP'] at heq hpar hname hlook
 rw[hP]
 unfold pathA at hroot heq
 simp only[List.getD_nil] at hroot heq
 have HP:Hid _:=hP
 have H0:Hid _:=h
 have HFl:Hid _:=hF
 have HOk:Hid _:=hok
 have HS:Hid _:=hS
 have HLOOK:Hid _:=hlook
 have HLK:Hid _:=hlk0
 have HGP:Hid _:=hp
 have HB:Hid _:=And.intro hex (And.intro hcr htr)
 clear h hF hok hS hP hP' hlook hlk0 hp hex hcr htr
 go_enter Tryz.func92,Tryz.ntmps92
 go_wp2
 go_region_with (go_at_call 66;refine (hroot _).mono ?_;rintro e w1 ⟨rfl,hb1⟩;obtain⟨hc1,hf1⟩:=bcell hb1;have hz1:=one_size hb1;have b1:=below_via (below_drew ((Below.refl w.heap.size w).alloc (Nat.le_refl _) _)) hb1)
 all_goals
  go_wp2_with (go_at_call 76;refine (hpar _).mono ?_;rintro e w2 ⟨rfl,hb2⟩;have k2:=fun o=>(bcell hb2).1 w.heap.size o hz1;have hz2:=Nat.lt_of_lt_of_le hz1 hb2.size;have b2:=below_via b1 hb2)
  refine Calls.mono (HLOOK.out w2 b2) ?_
  rintro e w3 ⟨v,rfl,tg3,m3,hW3,hs3⟩
  have k3:=kept_cell (b:=w.heap.size) hi (m3.mono (fun _ h=>h.mine)) hz2 (H0.out.st.fresh _ (Nat.le_refl _))
  have M3:=call_moves b2 (m3.mono (fun _ h=>h.mine))
  have hsz3:w.heap.size<w3.heap.size:=Nat.lt_of_lt_of_le hz2 m3.size
  have tz3:tg3 w.heap.size=(0,0):=(m3.tags _ hz2).trans (H0.out.st.fresh _ (Nat.le_refl _))
  have HW3:Hid _:=hW3
  have HM3:Hid _:=M3
  have HSL:Hid (Slc tg3 w3 i v (ks.map entOf)):=hs3
  have HC3:Hid (cell5 w3 w.heap.size s0 s1 s2 s3 s4):=by
   obtain⟨_,q0,q1,q2,q3,q4,_⟩:=cells5 (heap_alloc_new w (.cells #[.string s0,.string s1,.string s2,.string s3,.string s4] 104))
   have kk:∀ o,w3.cell? ⟨w.heap.size,o,none⟩=(w.alloc (.cells #[.string s0,.string s1,.string s2,.string s3,.string s4] 104)).cell? ⟨w.heap.size,o,none⟩:=fun o=>((k3 o).trans (k2 o)).trans ((hc1 _ o (by simp)).trans rfl)
   exact cell5.keep (w:=w.alloc (.cells #[.string s0,.string s1,.string s2,.string s3,.string s4] 104)) ⟨q0,q1,q2,q3,q4⟩ kk
  obtain⟨la,lc,rfl⟩:=hs3.len
  rw[List.length_map]
  clear hW3 hs3 m3 M3 k3 k2 hc1 hf1 hb1 hb2 b1 b2
  obtain⟨a0,a1,a2,a3,a4⟩:=HC3.out
  by_cases her:er=0
  ·subst her
   obtain⟨⟨d,hat,hk⟩,hnx,hkw⟩:=HLK.out rfl
   obtain⟨q1,q2,q3⟩:=ok_kids HS.out (ok_at HS.out _ HOk.out hat).2.1 hk
   have hr1:RisingK (ks.map entOf):=by rw[map_ent];exact mapK_rising _ q1
   have hl1:(ks.map entOf).length<=16:=by rw[List.length_map];exact q2
   have hse:=fun W2 (hb:Below w3.heap.size w3 W2)=>search_any (HSL.out.below hb).1 n hr1 hl1
   rw[List.length_map] at hse
   have HSE:Hid _:=hse
   have HAT:Hid _:=And.intro hat (And.intro hk hkw)
   have HTT:Hid _:=pick_there q1 n
   obtain⟨hex,hcr,htr⟩:=HB.out
   cases hpk:pickK ks n with
   | none=>
    have hth:thereK (ks.map entOf) n=false:=by rw[there_ent,<- pick_there q1,hpk];rfl
    have HTE:Hid _:=hth
    have HPK:Hid _:=hpk
    clear hse hat hk hkw hnx hr1 hl1 q1 q2 q3 hth hpk HB
    cases hxx:ex with
    | true=>
     rw[hxx] at hex
     by_cases h16:16<=ks.length
     ·have h16i:(16:Int)<=(ks.length:Int):=by omega
      have hcf:=fun W=>create_full B.bt s0 s1 s2 s3 s4 (ks.length:Int) W h16i
      go_wp2_with (first
     | (go_at_call 78;refine (hname _).mono ?_;rintro e w4 ⟨rfl,hb4⟩;have k4:=fun o=>(bcell hb4).1 w.heap.size o hsz3)
     | (go_at_call 77;go_loud (refine Calls.mono (HSE.out _ hb4) ?_;rintro e w5 ⟨rfl,hb5⟩;rw[HTE.out];have b35:=below_via hb4 hb5;have k5:=fun o=>(bcell b35).1 w.heap.size o hsz3;have hz5:=Nat.lt_of_lt_of_le hsz3 b35.size))
       | (go_at_call 131;refine Calls.mono (hcf _) ?_;rintro e w6 ⟨rfl,hb6⟩))
      go_ret2
      refine .inr (.inl ⟨rfl,?_,?_,left_same (HM3.out.trans (Moves.of_below (below_via b35 hb6))) ((HW3.out.below (below_via b35 hb6)).mono (by first | omega | (simp;omega))) HFl.out HOk.out⟩)
      ·rw[openE_none HPK.out,hxx,if_pos (by simp),if_pos h16];decide
      ·rw[openE_none HPK.out,hxx,if_pos (by simp),if_pos h16];rfl
     ·have h16':ks.length<16:=by omega
      have hcn:=fun W (hb:Below w3.heap.size w3 W)=>create_new (HW3.out.below hb) (by first | omega | (simp;omega)) HFl.out HOk.out HGP.out HAT.out.1 HAT.out.2.1 HAT.out.2.2 HPK.out h16' (ks.length:Int) (by omega)
      rw[HP.out] at hcn
      have HCN:Hid _:=hcn
      clear hcn
      go_wp2_with (first
     | (go_at_call 78;refine (hname _).mono ?_;rintro e w4 ⟨rfl,hb4⟩;have k4:=fun o=>(bcell hb4).1 w.heap.size o hsz3)
     | (go_at_call 77;go_loud (refine Calls.mono (HSE.out _ hb4) ?_;rintro e w5 ⟨rfl,hb5⟩;rw[HTE.out];have b35:=below_via hb4 hb5;have k5:=fun o=>(bcell b35).1 w.heap.size o hsz3;have hz5:=Nat.lt_of_lt_of_le hsz3 b35.size))
       | (go_at_call 131;go_loud (refine Calls.mono (HCN.out _ b35) ?_;rintro e w6 ⟨f,tg6,ft6,rfl,hfz,m6,hW6,hF6⟩;have HR6:Hid _:=And.intro m6 (And.intro hW6 hF6);clear m6 hW6 hF6)))
      go_ret2
      refine .inr (.inr ⟨rfl,?_,f,tg6,ft6,_,_,rfl,(HM3.out.trans (Moves.of_below b35)).trans HR6.out.1,HR6.out.2.1.mono (by first | omega | (simp;omega)),HR6.out.2.2,?_,.inl ⟨HPK.out,Nat.le_trans (Nat.le_of_lt hz5) hfz,rfl,rfl⟩⟩)
      ·rw[openE_none HPK.out,hxx,if_pos (by simp),if_neg h16]
      ·exact put_ok HS.out HOk.out HAT.out.1 HAT.out.2.1 hvn (by first | omega | (simp;omega)) (held_ok _ _ _) (.inr h16')
    | false=>
     rw[hxx] at hex
     cases hcc:cr with
     | true=>
      rw[hcc] at hcr
      by_cases h16:16<=ks.length
      ·have h16i:(16:Int)<=(ks.length:Int):=by omega
       have hcf:=fun W=>create_full B.bt s0 s1 s2 s3 s4 (ks.length:Int) W h16i
       go_wp2_with (first
      | (go_at_call 78;refine (hname _).mono ?_;rintro e w4 ⟨rfl,hb4⟩;have k4:=fun o=>(bcell hb4).1 w.heap.size o hsz3)
      | (go_at_call 77;go_loud (refine Calls.mono (HSE.out _ hb4) ?_;rintro e w5 ⟨rfl,hb5⟩;rw[HTE.out];have b35:=below_via hb4 hb5;have k5:=fun o=>(bcell b35).1 w.heap.size o hsz3;have hz5:=Nat.lt_of_lt_of_le hsz3 b35.size))
        | (go_at_call 131;refine Calls.mono (hcf _) ?_;rintro e w6 ⟨rfl,hb6⟩))
       go_ret2
       refine .inr (.inl ⟨rfl,?_,?_,left_same (HM3.out.trans (Moves.of_below (below_via b35 hb6))) ((HW3.out.below (below_via b35 hb6)).mono (by first | omega | (simp;omega))) HFl.out HOk.out⟩)
       ·rw[openE_none HPK.out,hxx,hcc,if_pos (by simp),if_pos h16];decide
       ·rw[openE_none HPK.out,hxx,hcc,if_pos (by simp),if_pos h16];rfl
      ·have h16':ks.length<16:=by omega
       have hcn:=fun W (hb:Below w3.heap.size w3 W)=>create_new (HW3.out.below hb) (by first | omega | (simp;omega)) HFl.out HOk.out HGP.out HAT.out.1 HAT.out.2.1 HAT.out.2.2 HPK.out h16' (ks.length:Int) (by omega)
       rw[HP.out] at hcn
       have HCN:Hid _:=hcn
       clear hcn
       go_wp2_with (first
      | (go_at_call 78;refine (hname _).mono ?_;rintro e w4 ⟨rfl,hb4⟩;have k4:=fun o=>(bcell hb4).1 w.heap.size o hsz3)
      | (go_at_call 77;go_loud (refine Calls.mono (HSE.out _ hb4) ?_;rintro e w5 ⟨rfl,hb5⟩;rw[HTE.out];have b35:=below_via hb4 hb5;have k5:=fun o=>(bcell b35).1 w.heap.size o hsz3;have hz5:=Nat.lt_of_lt_of_le hsz3 b35.size))
        | (go_at_call 131;go_loud (refine Calls.mono (HCN.out _ b35) ?_;rintro e w6 ⟨f,tg6,ft6,rfl,hfz,m6,hW6,hF6⟩;have HR6:Hid _:=And.intro m6 (And.intro hW6 hF6);clear m6 hW6 hF6)))
       go_ret2
       refine .inr (.inr ⟨rfl,?_,f,tg6,ft6,_,_,rfl,(HM3.out.trans (Moves.of_below b35)).trans HR6.out.1,HR6.out.2.1.mono (by first | omega | (simp;omega)),HR6.out.2.2,?_,.inl ⟨HPK.out,Nat.le_trans (Nat.le_of_lt hz5) hfz,rfl,rfl⟩⟩)
       ·rw[openE_none HPK.out,hxx,hcc,if_pos (by simp),if_neg h16]
       ·exact put_ok HS.out HOk.out HAT.out.1 HAT.out.2.1 hvn (by first | omega | (simp;omega)) (held_ok _ _ _) (.inr h16')
     | false=>
      rw[hcc] at hcr
      go_wp2_with (first
     | (go_at_call 78;refine (hname _).mono ?_;rintro e w4 ⟨rfl,hb4⟩;have k4:=fun o=>(bcell hb4).1 w.heap.size o hsz3)
     | (go_at_call 77;go_loud (refine Calls.mono (HSE.out _ hb4) ?_;rintro e w5 ⟨rfl,hb5⟩;rw[HTE.out];have b35:=below_via hb4 hb5;have k5:=fun o=>(bcell b35).1 w.heap.size o hsz3;have hz5:=Nat.lt_of_lt_of_le hsz3 b35.size)))
      go_ret2
      refine .inr (.inl ⟨rfl,?_,?_,left_same (HM3.out.trans (Moves.of_below b35)) ((HW3.out.below b35).mono (by first | omega | (simp;omega))) HFl.out HOk.out⟩)
      ·rw[openE_none HPK.out,hxx,hcc,if_neg (by simp)];decide
      ·rw[openE_none HPK.out,hxx,hcc,if_neg (by simp)];rfl
   | some c=>
    have hth:thereK (ks.map entOf) n=true:=by rw[there_ent,<- pick_there q1,hpk];rfl
    obtain⟨hixk,hatk⟩:=pick_at q1 hpk
    obtain⟨gb,gc,hvv,hgl,e0,e1,e2⟩:=HSL.out.at_ hixk
    clear e0 e2
    rw[List.length_map] at hvv
    rw[hatk] at e1
    simp only at e1
    have HTE:Hid _:=hth
    have HPK:Hid _:=hpk
    have hixl:idxK (ks.map entOf) n<ks.length:=by simpa using hixk
    generalize idxK (ks.map entOf) n=ix at HSE e1 hixl
    cases hvv
    have hkc:=kind_cases c
    generalize hkk:c.kind=kc at e1 hkc
    clear hse hat hk hkw hnx hr1 hl1 q1 q2 q3 hth hpk HB hixk hatk
    rcases hkc with rfl | rfl
    ·cases hxx:ex with
     | true=>
      rw[hxx] at hex
      go_wp2_with (first
     | (go_at_call 78;refine (hname _).mono ?_;rintro e w4 ⟨rfl,hb4⟩;have k4:=fun o=>(bcell hb4).1 w.heap.size o hsz3)
     | (go_at_call 77;go_loud (refine Calls.mono (HSE.out _ hb4) ?_;rintro e w5 ⟨rfl,hb5⟩;rw[HTE.out];have b35:=below_via hb4 hb5;have k5:=fun o=>(bcell b35).1 w.heap.size o hsz3;have hz5:=Nat.lt_of_lt_of_le hsz3 b35.size;have e15:=((bcell b35).1 gb (ix*3+1) hgl).trans e1;have hgl5:=Nat.lt_of_lt_of_le hgl b35.size)))
      go_ret2
      refine .inr (.inl ⟨rfl,?_,?_,left_same (HM3.out.trans (Moves.of_below b35)) ((HW3.out.below b35).mono (by first | omega | (simp;omega))) HFl.out HOk.out⟩)
      ·rw[openE_some HPK.out,hkk,hxx,if_neg (by decide),if_pos rfl];decide
      ·rw[openE_some HPK.out,hkk,hxx,if_neg (by decide),if_pos rfl];rfl
     | false=>
      rw[hxx] at hex
      cases c with
      | dir d=>simp[LT.kind] at hkk
      | own es=>simp[LT.kind] at hkk
      | held f=>
       have hat2:t.at objs (r.reverse ++ [n])=some (.held f):=by rw[at_append,HAT.out.1,Option.bind_some,at_cons,HAT.out.2.1,Option.bind_some,HPK.out,Option.bind_some,at_nil]
       have hof:g.ft.of (r.reverse ++ [n])=some f:=by rw[HFl.out.of,hat2];rfl
       obtain⟨xf,hflf⟩:=H0.out.wp.held _ _ hof
       have hho:=fun W (hb:Below w3.heap.size w3 W)=>hold_held (HW3.out.below hb) HGP.out hof
       rw[HP.out] at hho
       have HHO:Hid _:=hho
       clear hho hat2 hof
       cases hcc:cr with
       | true=>
        rw[hcc] at hcr
        cases ht:tr with
        | false=>
         rw[ht] at htr
         go_wp2_with (first
       | (go_at_call 78;refine (hname _).mono ?_;rintro e w4 ⟨rfl,hb4⟩;have k4:=fun o=>(bcell hb4).1 w.heap.size o hsz3)
       | (go_at_call 77;go_loud (refine Calls.mono (HSE.out _ hb4) ?_;rintro e w5 ⟨rfl,hb5⟩;rw[HTE.out];have b35:=below_via hb4 hb5;have k5:=fun o=>(bcell b35).1 w.heap.size o hsz3;have hz5:=Nat.lt_of_lt_of_le hsz3 b35.size;have e15:=((bcell b35).1 gb (ix*3+1) hgl).trans e1;have hgl5:=Nat.lt_of_lt_of_le hgl b35.size))
          | (go_at_call 132;go_loud (refine Calls.mono (HHO.out _ b35) ?_;rintro e w6 ⟨rfl,hb6⟩;have hb36:=below_via b35 hb6)))
         go_ret2
         refine .inr (.inr ⟨rfl,by rw[hxx];exact openE_file HPK.out rfl,f,_,g.ft,_,t,rfl,HM3.out.trans (Moves.of_below hb36),(HW3.out.below hb36).mono (by first | omega | (simp;omega)),HFl.out,HOk.out,.inr (.inl ⟨HPK.out,rfl,by rw[ht];rfl⟩)⟩)
        | true=>
         rw[ht] at htr
         go_wp2_with (first
       | (go_at_call 78;refine (hname _).mono ?_;rintro e w4 ⟨rfl,hb4⟩;have k4:=fun o=>(bcell hb4).1 w.heap.size o hsz3)
       | (go_at_call 77;go_loud (refine Calls.mono (HSE.out _ hb4) ?_;rintro e w5 ⟨rfl,hb5⟩;rw[HTE.out];have b35:=below_via hb4 hb5;have k5:=fun o=>(bcell b35).1 w.heap.size o hsz3;have hz5:=Nat.lt_of_lt_of_le hsz3 b35.size;have e15:=((bcell b35).1 gb (ix*3+1) hgl).trans e1;have hgl5:=Nat.lt_of_lt_of_le hgl b35.size))
          | (go_at_call 132;go_loud (refine Calls.mono (HHO.out _ b35) ?_;rintro e w6 ⟨rfl,hb6⟩;have hb36:=below_via b35 hb6;have hcl:=clear_any (HW3.out.below hb36) hflf;have HCL:Hid _:=hcl;clear hcl))
          | (go_at_call 133;refine Calls.mono HCL.out ?_;rintro e w7 ⟨rfl,m7,hW7⟩;have HR7:Hid _:=And.intro m7 hW7;clear m7 hW7))
         go_ret2
         refine .inr (.inr ⟨rfl,by rw[hxx];exact openE_file HPK.out rfl,f,_,g.ft,_,t,rfl,(HM3.out.trans (Moves.of_below hb36)).trans (HR7.out.1.mono mine6),HR7.out.2.mono (by first | omega | (simp;omega)),HFl.out,HOk.out,.inr (.inl ⟨HPK.out,rfl,by rw[ht];rfl⟩)⟩)
       | false=>
        rw[hcc] at hcr
        cases ht:tr with
        | false=>
         rw[ht] at htr
         go_wp2_with (first
       | (go_at_call 78;refine (hname _).mono ?_;rintro e w4 ⟨rfl,hb4⟩;have k4:=fun o=>(bcell hb4).1 w.heap.size o hsz3)
       | (go_at_call 77;go_loud (refine Calls.mono (HSE.out _ hb4) ?_;rintro e w5 ⟨rfl,hb5⟩;rw[HTE.out];have b35:=below_via hb4 hb5;have k5:=fun o=>(bcell b35).1 w.heap.size o hsz3;have hz5:=Nat.lt_of_lt_of_le hsz3 b35.size;have e15:=((bcell b35).1 gb (ix*3+1) hgl).trans e1;have hgl5:=Nat.lt_of_lt_of_le hgl b35.size))
          | (go_at_call 132;go_loud (refine Calls.mono (HHO.out _ b35) ?_;rintro e w6 ⟨rfl,hb6⟩;have hb36:=below_via b35 hb6)))
         go_ret2
         refine .inr (.inr ⟨rfl,by rw[hxx];exact openE_file HPK.out rfl,f,_,g.ft,_,t,rfl,HM3.out.trans (Moves.of_below hb36),(HW3.out.below hb36).mono (by first | omega | (simp;omega)),HFl.out,HOk.out,.inr (.inl ⟨HPK.out,rfl,by rw[ht];rfl⟩)⟩)
        | true=>
         rw[ht] at htr
         go_wp2_with (first
       | (go_at_call 78;refine (hname _).mono ?_;rintro e w4 ⟨rfl,hb4⟩;have k4:=fun o=>(bcell hb4).1 w.heap.size o hsz3)
       | (go_at_call 77;go_loud (refine Calls.mono (HSE.out _ hb4) ?_;rintro e w5 ⟨rfl,hb5⟩;rw[HTE.out];have b35:=below_via hb4 hb5;have k5:=fun o=>(bcell b35).1 w.heap.size o hsz3;have hz5:=Nat.lt_of_lt_of_le hsz3 b35.size;have e15:=((bcell b35).1 gb (ix*3+1) hgl).trans e1;have hgl5:=Nat.lt_of_lt_of_le hgl b35.size))
          | (go_at_call 132;go_loud (refine Calls.mono (HHO.out _ b35) ?_;rintro e w6 ⟨rfl,hb6⟩;have hb36:=below_via b35 hb6;have hcl:=clear_any (HW3.out.below hb36) hflf;have HCL:Hid _:=hcl;clear hcl))
          | (go_at_call 133;refine Calls.mono HCL.out ?_;rintro e w7 ⟨rfl,m7,hW7⟩;have HR7:Hid _:=And.intro m7 hW7;clear m7 hW7))
         go_ret2
         refine .inr (.inr ⟨rfl,by rw[hxx];exact openE_file HPK.out rfl,f,_,g.ft,_,t,rfl,(HM3.out.trans (Moves.of_below hb36)).trans (HR7.out.1.mono mine6),HR7.out.2.mono (by first | omega | (simp;omega)),HFl.out,HOk.out,.inr (.inl ⟨HPK.out,rfl,by rw[ht];rfl⟩)⟩)
      | file id=>
       have hho:=fun W (hb:Below w3.heap.size w3 W)=>hold_file (HW3.out.below hb) (by first | omega | (simp;omega)) HFl.out HOk.out HGP.out HAT.out.1 HAT.out.2.1 HAT.out.2.2 HPK.out
       rw[HP.out] at hho
       have HHO:Hid _:=hho
       clear hho
       cases hcc:cr with
       | true=>
        rw[hcc] at hcr
        cases ht:tr with
        | false=>
         rw[ht] at htr
         go_wp2_with (first
       | (go_at_call 78;refine (hname _).mono ?_;rintro e w4 ⟨rfl,hb4⟩;have k4:=fun o=>(bcell hb4).1 w.heap.size o hsz3)
       | (go_at_call 77;go_loud (refine Calls.mono (HSE.out _ hb4) ?_;rintro e w5 ⟨rfl,hb5⟩;rw[HTE.out];have b35:=below_via hb4 hb5;have k5:=fun o=>(bcell b35).1 w.heap.size o hsz3;have hz5:=Nat.lt_of_lt_of_le hsz3 b35.size;have e15:=((bcell b35).1 gb (ix*3+1) hgl).trans e1;have hgl5:=Nat.lt_of_lt_of_le hgl b35.size))
          | (go_at_call 132;go_loud (refine Calls.mono (HHO.out _ b35) ?_;rintro e w6 ⟨f,tg6,ft6,rfl,hfz,m6,hW6,hF6⟩;have HR6:Hid _:=And.intro m6 (And.intro hW6 hF6);clear m6 hW6 hF6)))
         go_ret2
         refine .inr (.inr ⟨rfl,by rw[hxx];exact openE_file HPK.out rfl,f,tg6,ft6,_,_,rfl,(HM3.out.trans (Moves.of_below b35)).trans HR6.out.1,HR6.out.2.1.mono (by first | omega | (simp;omega)),HR6.out.2.2,?_,.inr (.inr ⟨id,HPK.out,Nat.le_trans (Nat.le_of_lt hz5) hfz,rfl,by rw[ht];rfl⟩)⟩)
         exact put_ok HS.out HOk.out HAT.out.1 HAT.out.2.1 hvn (by first | omega | (simp;omega)) (held_ok _ _ _) (.inl (by rw[<- HTT.out,HPK.out];rfl))
        | true=>
         rw[ht] at htr
         go_wp2_with (first
       | (go_at_call 78;refine (hname _).mono ?_;rintro e w4 ⟨rfl,hb4⟩;have k4:=fun o=>(bcell hb4).1 w.heap.size o hsz3)
       | (go_at_call 77;go_loud (refine Calls.mono (HSE.out _ hb4) ?_;rintro e w5 ⟨rfl,hb5⟩;rw[HTE.out];have b35:=below_via hb4 hb5;have k5:=fun o=>(bcell b35).1 w.heap.size o hsz3;have hz5:=Nat.lt_of_lt_of_le hsz3 b35.size;have e15:=((bcell b35).1 gb (ix*3+1) hgl).trans e1;have hgl5:=Nat.lt_of_lt_of_le hgl b35.size))
          | (go_at_call 132;go_loud (refine Calls.mono (HHO.out _ b35) ?_;rintro e w6 ⟨f,tg6,ft6,rfl,hfz,m6,hW6,hF6⟩;have hcl:=clear_any hW6 (updN_same _ _ _);have HCL:Hid _:=hcl;clear hcl;have HR6:Hid _:=And.intro m6 (And.intro hW6 hF6);clear m6 hW6 hF6))
          | (go_at_call 133;refine Calls.mono HCL.out ?_;rintro e w7 ⟨rfl,m7,hW7⟩;have HR7:Hid _:=And.intro m7 hW7;clear m7 hW7))
         go_ret2
         refine .inr (.inr ⟨rfl,by rw[hxx];exact openE_file HPK.out rfl,f,tg6,ft6,_,_,rfl,((HM3.out.trans (Moves.of_below b35)).trans HR6.out.1).trans (HR7.out.1.mono mine6),HR7.out.2.mono (by first | omega | (simp;omega)),HR6.out.2.2,?_,.inr (.inr ⟨id,HPK.out,Nat.le_trans (Nat.le_of_lt hz5) hfz,rfl,by rw[ht];rfl⟩)⟩)
         exact put_ok HS.out HOk.out HAT.out.1 HAT.out.2.1 hvn (by first | omega | (simp;omega)) (held_ok _ _ _) (.inl (by rw[<- HTT.out,HPK.out];rfl))
       | false=>
        rw[hcc] at hcr
        cases ht:tr with
        | false=>
         rw[ht] at htr
         go_wp2_with (first
       | (go_at_call 78;refine (hname _).mono ?_;rintro e w4 ⟨rfl,hb4⟩;have k4:=fun o=>(bcell hb4).1 w.heap.size o hsz3)
       | (go_at_call 77;go_loud (refine Calls.mono (HSE.out _ hb4) ?_;rintro e w5 ⟨rfl,hb5⟩;rw[HTE.out];have b35:=below_via hb4 hb5;have k5:=fun o=>(bcell b35).1 w.heap.size o hsz3;have hz5:=Nat.lt_of_lt_of_le hsz3 b35.size;have e15:=((bcell b35).1 gb (ix*3+1) hgl).trans e1;have hgl5:=Nat.lt_of_lt_of_le hgl b35.size))
          | (go_at_call 132;go_loud (refine Calls.mono (HHO.out _ b35) ?_;rintro e w6 ⟨f,tg6,ft6,rfl,hfz,m6,hW6,hF6⟩;have HR6:Hid _:=And.intro m6 (And.intro hW6 hF6);clear m6 hW6 hF6)))
         go_ret2
         refine .inr (.inr ⟨rfl,by rw[hxx];exact openE_file HPK.out rfl,f,tg6,ft6,_,_,rfl,(HM3.out.trans (Moves.of_below b35)).trans HR6.out.1,HR6.out.2.1.mono (by first | omega | (simp;omega)),HR6.out.2.2,?_,.inr (.inr ⟨id,HPK.out,Nat.le_trans (Nat.le_of_lt hz5) hfz,rfl,by rw[ht];rfl⟩)⟩)
         exact put_ok HS.out HOk.out HAT.out.1 HAT.out.2.1 hvn (by first | omega | (simp;omega)) (held_ok _ _ _) (.inl (by rw[<- HTT.out,HPK.out];rfl))
        | true=>
         rw[ht] at htr
         go_wp2_with (first
       | (go_at_call 78;refine (hname _).mono ?_;rintro e w4 ⟨rfl,hb4⟩;have k4:=fun o=>(bcell hb4).1 w.heap.size o hsz3)
       | (go_at_call 77;go_loud (refine Calls.mono (HSE.out _ hb4) ?_;rintro e w5 ⟨rfl,hb5⟩;rw[HTE.out];have b35:=below_via hb4 hb5;have k5:=fun o=>(bcell b35).1 w.heap.size o hsz3;have hz5:=Nat.lt_of_lt_of_le hsz3 b35.size;have e15:=((bcell b35).1 gb (ix*3+1) hgl).trans e1;have hgl5:=Nat.lt_of_lt_of_le hgl b35.size))
          | (go_at_call 132;go_loud (refine Calls.mono (HHO.out _ b35) ?_;rintro e w6 ⟨f,tg6,ft6,rfl,hfz,m6,hW6,hF6⟩;have hcl:=clear_any hW6 (updN_same _ _ _);have HCL:Hid _:=hcl;clear hcl;have HR6:Hid _:=And.intro m6 (And.intro hW6 hF6);clear m6 hW6 hF6))
          | (go_at_call 133;refine Calls.mono HCL.out ?_;rintro e w7 ⟨rfl,m7,hW7⟩;have HR7:Hid _:=And.intro m7 hW7;clear m7 hW7))
         go_ret2
         refine .inr (.inr ⟨rfl,by rw[hxx];exact openE_file HPK.out rfl,f,tg6,ft6,_,_,rfl,((HM3.out.trans (Moves.of_below b35)).trans HR6.out.1).trans (HR7.out.1.mono mine6),HR7.out.2.mono (by first | omega | (simp;omega)),HR6.out.2.2,?_,.inr (.inr ⟨id,HPK.out,Nat.le_trans (Nat.le_of_lt hz5) hfz,rfl,by rw[ht];rfl⟩)⟩)
         exact put_ok HS.out HOk.out HAT.out.1 HAT.out.2.1 hvn (by first | omega | (simp;omega)) (held_ok _ _ _) (.inl (by rw[<- HTT.out,HPK.out];rfl))
    ·go_wp2_with (first
     | (go_at_call 78;refine (hname _).mono ?_;rintro e w4 ⟨rfl,hb4⟩;have k4:=fun o=>(bcell hb4).1 w.heap.size o hsz3)
     | (go_at_call 77;go_loud (refine Calls.mono (HSE.out _ hb4) ?_;rintro e w5 ⟨rfl,hb5⟩;rw[HTE.out];have b35:=below_via hb4 hb5;have k5:=fun o=>(bcell b35).1 w.heap.size o hsz3;have hz5:=Nat.lt_of_lt_of_le hsz3 b35.size;have e15:=((bcell b35).1 gb (ix*3+1) hgl).trans e1;have hgl5:=Nat.lt_of_lt_of_le hgl b35.size)))
     go_ret2
     refine .inr (.inl ⟨rfl,?_,?_,left_same (HM3.out.trans (Moves.of_below b35)) ((HW3.out.below b35).mono (by first | omega | (simp;omega))) HFl.out HOk.out⟩)
     ·rw[openE_some HPK.out,hkk,if_pos rfl];decide
     ·rw[openE_some HPK.out,hkk,if_pos rfl];rfl
  ·have her':(er == 0)=false:=by simpa using her
   go_wp2
   go_ret2
   exact .inl ⟨her,rfl,left_same HM3.out (HW3.out.mono (by first | omega | (simp;omega))) HFl.out HOk.out⟩
end
end Go.Proofs.YtajopoddmfdejaaGreat
