/-
  What is proved here: Rename of a workspace's tree. the files of a workspace in memory: their bytes, read and written; what has them open: made, moved along, closed.
-/
import Derived.Test.YtajopoddmfdejaaGreatRetM24
import Derived.Deep.RegionHeld3
import Derived.Test.YtajopoddmfdejaaGreatRetM20
import Derived.Test.YtajopoddmfdejaaGreatRetM07
namespace Go.Proofs.YtajopoddmfdejaaGreat
open Go.RowKit Go.Sort Go.Shelf
set_option linter.unusedVariables false
set_option maxRecDepth 100000
set_option maxHeartbeats 16000000
def Two5 (w':World)(a b:Nat)(s0 s1 s2 s3 s4 d0 d1 d2 d3 d4:ByteArray):Prop:=w'.cell? ⟨a,0,none⟩=some (.string s0)/\w'.cell? ⟨a,1,none⟩=some (.string s1)/\w'.cell? ⟨a,2,none⟩=some (.string s2)/\w'.cell? ⟨a,3,none⟩=some (.string s3)/\w'.cell? ⟨a,4,none⟩=some (.string s4)/\w'.cell? ⟨b,0,none⟩=some (.string d0)/\w'.cell? ⟨b,1,none⟩=some (.string d1)/\w'.cell? ⟨b,2,none⟩=some (.string d2)/\w'.cell? ⟨b,3,none⟩=some (.string d3)/\w'.cell? ⟨b,4,none⟩=some (.string d4)
theorem Two5.keep {w w':World}{a b:Nat}{s0 s1 s2 s3 s4 d0 d1 d2 d3 d4:ByteArray}(h:Two5 w a b s0 s1 s2 s3 s4 d0 d1 d2 d3 d4)(ha:∀ o,w'.cell? ⟨a,o,none⟩=w.cell? ⟨a,o,none⟩)(hb:∀ o,w'.cell? ⟨b,o,none⟩=w.cell? ⟨b,o,none⟩):Two5 w' a b s0 s1 s2 s3 s4 d0 d1 d2 d3 d4:=by
 unfold Two5 at h ⊢
 simp only[ha,hb]
 exact h
theorem Two5.below {w w':World}{a b:Nat}{s0 s1 s2 s3 s4 d0 d1 d2 d3 d4:ByteArray}(h:Two5 w a b s0 s1 s2 s3 s4 d0 d1 d2 d3 d4)(hw:Below w.heap.size w w')(ha:a<w.heap.size)(hb:b<w.heap.size):Two5 w' a b s0 s1 s2 s3 s4 d0 d1 d2 d3 d4:=
 h.keep (fun o=>(bcell hw).1 a o ha) (fun o=>(bcell hw).1 b o hb)
theorem two_start (w:World)(s0 s1 s2 s3 s4 d0 d1 d2 d3 d4:ByteArray):Two5 ((w.alloc (.cells #[.string s0,.string s1,.string s2,.string s3,.string s4] 104)).alloc (.cells #[.string d0,.string d1,.string d2,.string d3,.string d4] 104)).drew w.heap.size (w.heap.size+1) s0 s1 s2 s3 s4 d0 d1 d2 d3 d4/\w.heap.size<((w.alloc (.cells #[.string s0,.string s1,.string s2,.string s3,.string s4] 104)).alloc (.cells #[.string d0,.string d1,.string d2,.string d3,.string d4] 104)).drew.heap.size/\w.heap.size+1<((w.alloc (.cells #[.string s0,.string s1,.string s2,.string s3,.string s4] 104)).alloc (.cells #[.string d0,.string d1,.string d2,.string d3,.string d4] 104)).drew.heap.size/\Below w.heap.size w ((w.alloc (.cells #[.string s0,.string s1,.string s2,.string s3,.string s4] 104)).alloc (.cells #[.string d0,.string d1,.string d2,.string d3,.string d4] 104)).drew:=by
 refine⟨?_,by simp;omega,by simp,below_drew (((Below.refl _ _).alloc (Nat.le_refl _) _).alloc (by simp) _)⟩
 have h1:=heap_alloc2_old w (.cells #[.string s0,.string s1,.string s2,.string s3,.string s4] 104) (.cells #[.string d0,.string d1,.string d2,.string d3,.string d4] 104)
 have h2:=heap_alloc2_new w (.cells #[.string s0,.string s1,.string s2,.string s3,.string s4] 104) (.cells #[.string d0,.string d1,.string d2,.string d3,.string d4] 104)
 obtain⟨_,a0,a1,a2,a3,a4,_⟩:=cells5 h1
 obtain⟨_,b0,b1,b2,b3,b4,_⟩:=cells5 h2
 exact⟨a0,a1,a2,a3,a4,b0,b1,b2,b3,b4⟩
theorem Two5.kept {tg:Tags}{w w':World}{a b:Nat}{s0 s1 s2 s3 s4 d0 d1 d2 d3 d4:ByteArray}(h:Two5 w a b s0 s1 s2 s3 s4 d0 d1 d2 d3 d4)(k:Kept0 tg w w')(ha:a<w.heap.size)(hb:b<w.heap.size)(ta:tg a=(0,0))(tb:tg b=(0,0)):Two5 w' a b s0 s1 s2 s3 s4 d0 d1 d2 d3 d4:=
 h.keep (k.2 a ha ta) (k.2 b hb tb)
theorem Two5.and {w':World}{a b:Nat}{s0 s1 s2 s3 s4 d0 d1 d2 d3 d4:ByteArray}(h:Two5 w' a b s0 s1 s2 s3 s4 d0 d1 d2 d3 d4){q:Prop}(hq:q):w'.cell? ⟨a,0,none⟩=some (.string s0)/\w'.cell? ⟨a,1,none⟩=some (.string s1)/\w'.cell? ⟨a,2,none⟩=some (.string s2)/\w'.cell? ⟨a,3,none⟩=some (.string s3)/\w'.cell? ⟨a,4,none⟩=some (.string s4)/\w'.cell? ⟨b,0,none⟩=some (.string d0)/\w'.cell? ⟨b,1,none⟩=some (.string d1)/\w'.cell? ⟨b,2,none⟩=some (.string d2)/\w'.cell? ⟨b,3,none⟩=some (.string d3)/\w'.cell? ⟨b,4,none⟩=some (.string d4)/\q:=by
 obtain⟨h0,h1,h2,h3,h4,h5,h6,h7,h8,h9⟩:=h
 exact⟨h0,h1,h2,h3,h4,h5,h6,h7,h8,h9,hq⟩
def Ent3 (w':World)(a:Nat)(n:ByteArray)(k id:Int):Prop:=w'.cell? ⟨a,0,none⟩=some (.string n)/\w'.cell? ⟨a,1,none⟩=some (.int .i64 k)/\w'.cell? ⟨a,2,none⟩=some (.int .i64 id)
theorem Ent3.keep {w w':World}{a:Nat}{n:ByteArray}{k id:Int}(h:Ent3 w a n k id)(ha:∀ o,w'.cell? ⟨a,o,none⟩=w.cell? ⟨a,o,none⟩):Ent3 w' a n k id:=by
 unfold Ent3 at h ⊢
 simp only[ha]
 exact h
theorem Ent3.of_block {w:World}{b:Nat}{n:ByteArray}{k id:Int}{t:TypeId}(h:w.heap[b]? = some (.cells #[.string n,.int .i64 k,.int .i64 id] t (0,0))):Ent3 w b n k id:=
 ⟨by simp[World.cell?,h],by simp[World.cell?,h],by simp[World.cell?,h]⟩
theorem ent_start (w:World)(n:ByteArray)(k id:Int):Ent3 (w.alloc (.cells #[.string n,.int .i64 k,.int .i64 id] 76)) w.heap.size n k id:=.of_block (heap_alloc_new w _)
section
variable {s i p:Nat}{B:WB}{objs:List Ob}
theorem rename_last {tg:Tags}{w9 w13:World}{g:WG}{fs':FS}{t':LT}{lim a b:Nat}{s0 s1 s2 s3 s4 d0 d1 d2 d3 d4:ByteArray}(h:Two5 w9 a b s0 s1 s2 s3 s4 d0 d1 d2 d3 d4)(ha:a<w9.heap.size)(hb:b<w9.heap.size)(ta:tg a=(0,0))(tb:tg b=(0,0))(hi:2<=i)(hL:Left s i p B objs tg w9 w13 g fs' t' lim):
  w13.cell? ⟨a,0,none⟩=some (.string s0)/\w13.cell? ⟨a,1,none⟩=some (.string s1)/\w13.cell? ⟨a,2,none⟩=some (.string s2)/\w13.cell? ⟨a,3,none⟩=some (.string s3)/\w13.cell? ⟨a,4,none⟩=some (.string s4)/\w13.cell? ⟨b,0,none⟩=some (.string d0)/\w13.cell? ⟨b,1,none⟩=some (.string d1)/\w13.cell? ⟨b,2,none⟩=some (.string d2)/\w13.cell? ⟨b,3,none⟩=some (.string d3)/\w13.cell? ⟨b,4,none⟩=some (.string d4)/\w13.cell? ⟨B.bt,8,none⟩=some (.map (some B.oD)):=by
 obtain⟨tgL,ftL,mL,hWL,_,_⟩:=hL
 exact (Two5.kept h (Kept0.of_moves hi mL) ha hb ta tb).and hWL.treeAt.2.2
theorem rename_walk {tg:Tags}{w:World}{g:WG}{lim:Nat}{t:LT}(h:WInv tg w s i p B objs g lim)(hl:lim+1000<1099511627776)(hF:Flat objs t g.ft)(hok:LTok objs 5 t){nf nt:ByteArray}{rf rt:List ByteArray}(hgf:Good (rf.reverse ++ [nf]))(hgq:Good (rt.reverse ++ [nt])):
  Calls Tryz.prog 48 #[.pointer (some ⟨B.bt,0,none⟩),.agg (pathA (rf.reverse ++ [nf])),.agg (pathA (rt.reverse ++ [nt]))] w fun en w'=>en=.returned (.int .i64 (renameR objs t g.fs (nf :: rf) (nt :: rt)).2.1)/\Left s i p B objs tg w w' g (renameR objs t g.fs (nf :: rf) (nt :: rt)).1 (renameR objs t g.fs (nf :: rf) (nt :: rt)).2.2 (lim+400):=by
 have hS:=h.st.sound
 have hi:=h.two
 have hrf:rf.length<=4:=by have:=hgf.len;simp at this;omega
 have hrt:rt.length<=4:=by have:=hgq.len;simp at this;omega
 have hfind:=fun W (hb:Below w.heap.size w W)=>find_all (s:=s) (i:=i) (p:=p) (B:=B) (objs:=objs) (nf :: rf) tg W g lim (h.below hb) (by omega) (by rw[List.reverse_cons];exact hgf)
 rw[List.reverse_cons] at hfind
 obtain⟨f1,f2,f3⟩:=flat_find hS hF hok g.fs (nf :: rf)
 simp only[f1,f2] at hfind
 have hmk:renameR objs t g.fs (nf :: rf) (nt :: rt)=if (findR objs t g.fs (nf :: rf)).2.1≠0 then ((findR objs t g.fs (nf :: rf)).1,(findR objs t g.fs (nf :: rf)).2.1,t) else if (nf :: rf).reverse <+: (nt :: rt).reverse/\nf :: rf≠nt :: rt then ((findR objs t g.fs (nf :: rf)).1,9,t) else
   if (lookR objs t (findR objs t g.fs (nf :: rf)).1 rt).2.1≠0\/nf :: rf=nt :: rt then ((lookR objs t (findR objs t g.fs (nf :: rf)).1 rt).1,(lookR objs t (findR objs t g.fs (nf :: rf)).1 rt).2.1,t) else
   if (roomG objs (lookR objs t (findR objs t g.fs (nf :: rf)).1 rt).1 (decide (rf=rt)) (lookR objs t (findR objs t g.fs (nf :: rf)).1 rt).2.2 nt (findR objs t g.fs (nf :: rf)).2.2).2≠0 then ((roomG objs (lookR objs t (findR objs t g.fs (nf :: rf)).1 rt).1 (decide (rf=rt)) (lookR objs t (findR objs t g.fs (nf :: rf)).1 rt).2.2 nt (findR objs t g.fs (nf :: rf)).2.2).1,(roomG objs (lookR objs t (findR objs t g.fs (nf :: rf)).1 rt).1 (decide (rf=rt)) (lookR objs t (findR objs t g.fs (nf :: rf)).1 rt).2.2 nt (findR objs t g.fs (nf :: rf)).2.2).2,t) else
   if 5<((rt.length+1:Nat):Int)+hgt objs 5 (findR objs t g.fs (nf :: rf)).2.2 then ((roomG objs (lookR objs t (findR objs t g.fs (nf :: rf)).1 rt).1 (decide (rf=rt)) (lookR objs t (findR objs t g.fs (nf :: rf)).1 rt).2.2 nt (findR objs t g.fs (nf :: rf)).2.2).1,11,t) else
   ((roomG objs (lookR objs t (findR objs t g.fs (nf :: rf)).1 rt).1 (decide (rf=rt)) (lookR objs t (findR objs t g.fs (nf :: rf)).1 rt).2.2 nt (findR objs t g.fs (nf :: rf)).2.2).1,0,modG objs (fun ks=>putK ks nt (findR objs t g.fs (nf :: rf)).2.2) rt.reverse (modG objs (fun ks=>dropK ks nf) rf.reverse t)):=rfl
 generalize renameR objs t g.fs (nf :: rf) (nt :: rt)=M at hmk ⊢
 have hfw:∀ {fs':FS} {c:LT},findR objs t g.fs (nf :: rf)=(fs',0,c)->_:=fun {_ _} h=>find_way h
 generalize findR objs t g.fs (nf :: rf)=a at hfind f3 hmk hfw
 obtain⟨fs1,er,c⟩:=a
 simp only at hfind f3 hmk
 generalize findF objs g.ft g.fs (nf :: rf)=af at hfind f3
 obtain⟨_,_,en,ek,eid⟩:=af
 simp only[List.headD_cons,Prod.mk.injEq] at hfind f3
 have HMK:Hid _:=hmk
 have heq1:∀ W,(Op.equalIn 10000 104 (pathV (rf.reverse ++ [nf])) (pathV [])).run Tryz.prog W=.ok false W:=fun W=>by
  have:=run_eqP hgf Good.nil W
  rw[decide_eq_false (by simp)] at this;exact this
 have heq2:∀ W,(Op.equalIn 10000 104 (pathV (rt.reverse ++ [nt])) (pathV [])).run Tryz.prog W=.ok false W:=fun W=>by
  have:=run_eqP hgq Good.nil W
  rw[decide_eq_false (by simp)] at this;exact this
 have heq3:∀ W,(Op.equalIn 10000 104 (pathV (rf.reverse ++ [nf])) (pathV (rt.reverse ++ [nt]))).run Tryz.prog W=.ok (decide (rf.reverse ++ [nf]=rt.reverse ++ [nt])) W:=fun W=>run_eqP hgf hgq W
 have hroot:=fun W=>root_any W
 have hbel:=fun W=>below_any (rt.reverse ++ [nt]) (rf.reverse ++ [nf]) hgq hgf W
 have hpar:=fun W=>parent_any (rt.reverse ++ [nt]) hgq W
 rw[List.dropLast_concat] at hpar
 have hdep:=fun W=>depth_any (rt.reverse ++ [nt]) hgq.val hgq.len W
 obtain⟨s0,s1,s2,s3,s4,hP⟩:∃ s0 s1 s2 s3 s4,pathA (rf.reverse ++ [nf]) = #[.string s0,.string s1,.string s2,.string s3,.string s4]:=⟨_,_,_,_,_,rfl⟩
 obtain⟨d0,d1,d2,d3,d4,hQ⟩:∃ s0 s1 s2 s3 s4,pathA (rt.reverse ++ [nt]) = #[.string s0,.string s1,.string s2,.string s3,.string s4]:=⟨_,_,_,_,_,rfl⟩
 obtain⟨r0,r1,r2,r3,r4,hR⟩:∃ s0 s1 s2 s3 s4,pathA rt.reverse = #[.string s0,.string s1,.string s2,.string s3,.string s4]:=⟨_,_,_,_,_,rfl⟩
 unfold pathV at hroot heq1 heq2 heq3 hbel hpar hdep
 simp only[hP,hQ,hR] at heq1 heq2 heq3 hfind hbel hpar hdep
 rw[hP,hQ]
 unfold pathA at hroot heq1 heq2
 simp only[List.getD_nil] at hroot heq1 heq2
 have HP:Hid _:=And.intro hP (And.intro hQ hR)
 have H0:Hid _:=h
 have HFl:Hid _:=hF
 have HOk:Hid _:=hok
 have HS:Hid (Sound objs):=hS
 have HFIND:Hid _:=hfind
 have HFW:Hid (∀ {fs'':FS} {c':LT},(fs1,er,c)=(fs'',0,c')->_):=hfw
 have HF3:Hid _:=f3
 have HGP:Hid _:=And.intro hgf hgq
 have HE3:Hid _:=heq3
 have HBEL:Hid _:=hbel
 have HPAR:Hid _:=hpar
 have HDEP:Hid _:=hdep
 obtain⟨hSD,z0,z1,bz0⟩:=two_start w s0 s1 s2 s3 s4 d0 d1 d2 d3 d4
 have bz:=Below.refl ((w.alloc (.cells #[.string s0,.string s1,.string s2,.string s3,.string s4] 104)).alloc (.cells #[.string d0,.string d1,.string d2,.string d3,.string d4] 104)).drew.heap.size ((w.alloc (.cells #[.string s0,.string s1,.string s2,.string s3,.string s4] 104)).alloc (.cells #[.string d0,.string d1,.string d2,.string d3,.string d4] 104)).drew
 have HZ:Hid _:=And.intro z0 (And.intro z1 bz0)
 clear h hF hok hS hP hQ hR hfind hfw hgf hgq hmk f1 f2 f3 heq3 hbel hpar hdep z0 z1 bz0
 go_enter Tryz.func48,Tryz.ntmps48
 go_wp2
 go_region_held3 (fun w'=>w'.cell? ⟨w.heap.size,0,none⟩=some (.string s0)/\w'.cell? ⟨w.heap.size,1,none⟩=some (.string s1)/\w'.cell? ⟨w.heap.size,2,none⟩=some (.string s2)/\w'.cell? ⟨w.heap.size,3,none⟩=some (.string s3)/\w'.cell? ⟨w.heap.size,4,none⟩=some (.string s4)/\w'.cell? ⟨w.heap.size+1,0,none⟩=some (.string d0)/\w'.cell? ⟨w.heap.size+1,1,none⟩=some (.string d1)/\w'.cell? ⟨w.heap.size+1,2,none⟩=some (.string d2)/\w'.cell? ⟨w.heap.size+1,3,none⟩=some (.string d3)/\w'.cell? ⟨w.heap.size+1,4,none⟩=some (.string d4)) (first | exact hSD | exact hS1) (first | (go_at_call 66;refine (hroot _).mono ?_;rintro e w1 ⟨rfl,hb1⟩;replace bz:=below_via bz hb1;have hS1:=hSD.below bz HZ.out.1 HZ.out.2.1))
 have b1:Below w.heap.size w w1:=below_via HZ.out.2.2 bz
 have hz1:w.heap.size+1<w1.heap.size:=Nat.lt_of_lt_of_le HZ.out.2.1 bz.size
 have hz0:w.heap.size<w1.heap.size:=Nat.lt_of_succ_lt hz1
 have t0:tg w.heap.size=(0,0):=H0.out.st.fresh _ (Nat.le_refl _)
 have t1:tg (w.heap.size+1)=(0,0):=H0.out.st.fresh _ (Nat.le_succ _)
 have HS1:Hid _:=hS1
 obtain⟨a0,a1,a2,a3,a4,c0,c1,c2,c3,c4⟩:=hS1
 clear hSD bz hroot heq1 heq2
 go_wp2_with fail
 refine Calls.mono (HFIND.out w1 b1) ?_
 rintro e w3 ⟨rfl,hd3⟩
 obtain⟨tg3,m3,hW3⟩:=hd3.out
 have k3:=Kept0.of_moves hi m3
 have HS3:Hid _:=Two5.kept HS1.out k3 hz0 hz1 t0 t1
 have hz3:w.heap.size+1<w3.heap.size:=Nat.lt_of_lt_of_le hz1 k3.1
 have hz30:w.heap.size<w3.heap.size:=Nat.lt_of_succ_lt hz3
 have t03:tg3 w.heap.size=(0,0):=(m3.tags _ hz0).trans t0
 have t13:tg3 (w.heap.size+1)=(0,0):=(m3.tags _ hz1).trans t1
 have HM3:Hid _:=call_moves b1 m3
 have HW3:Hid _:=hW3
 clear hd3 m3 hW3 k3 a0 a1 a2 a3 a4 c0 c1 c2 c3 c4
 obtain⟨a0,a1,a2,a3,a4,c0,c1,c2,c3,c4⟩:=HS3.out
 by_cases her:er=0
 ·subst her
  obtain⟨⟨rfl,rfl,rfl⟩,hat⟩:=HF3.out rfl
  obtain⟨x1,x2,x3,df,kf,x4,x5,x6⟩:=HFW.out rfl
  have HX:Hid _:=And.intro x1 (And.intro x3 (And.intro x4 (And.intro x5 x6)))
  clear hat x1 x2 x3 x4 x5 x6
  obtain⟨kc,hkc⟩:∃ kc,kc=c.kind:=⟨_,rfl⟩
  obtain⟨ic,hic⟩:∃ ic,ic=c.id:=⟨_,rfl⟩
  rw[<- hkc,<- hic]
  have HKI:Hid _:=And.intro hkc hic
  clear hkc hic
  have hbe:=HBEL.out
  clear HBEL
  by_cases hin:rf.reverse ++ [en] <+: rt.reverse ++ [nt]/\rt.reverse ++ [nt]≠rf.reverse ++ [en]
  ·rw[decide_eq_true hin] at hbe
   go_wp2_with (go_at_call 81;refine Calls.mono (hbe _) ?_;rintro e w4 ⟨rfl,hb4⟩)
   go_ret
   have hmk:=HMK.out
   rw[if_neg (by simp),if_pos (by rw[List.reverse_cons,List.reverse_cons];exact⟨hin.1,fun e=>hin.2 (by rw[List.cons.injEq] at e;rw[e.1,e.2])⟩)] at hmk
   subst hmk
   have hb34:=below_via ((Below.refl w3.heap.size w3).alloc (Nat.le_refl _) _) hb4
   exact⟨rfl,left_same (HM3.out.trans (Moves.of_below hb34)) ((HW3.out.below hb34).mono (by simp;omega)) HFl.out HOk.out⟩
  ·rw[decide_eq_false hin] at hbe
   have hb3x:Below w3.heap.size w3 (w3.alloc (.cells #[.string en,.int .i64 kc,.int .i64 ic] 76)):=(Below.refl w3.heap.size w3).alloc (Nat.le_refl _) _
   have hzx:w3.heap.size<(w3.alloc (.cells #[.string en,.int .i64 kc,.int .i64 ic] 76)).heap.size:=by simp
   have HE3x:Hid _:=ent_start w3 en kc ic
   go_wp2_with (first
    | (go_at_call 81;refine Calls.mono (hbe _) ?_;rintro e w4 ⟨rfl,hb4⟩;have hb34:=below_via hb3x hb4;have HS4:Hid _:=Two5.below HS3.out hb34 hz30 hz3;obtain⟨a0',a1',a2',a3',a4',c0',c1',c2',c3',c4'⟩:=HS4.out;have hz4:w.heap.size+1<w4.heap.size:=Nat.lt_of_lt_of_le hz3 hb34.size;have hz4e:w3.heap.size<w4.heap.size:=Nat.lt_of_lt_of_le hzx hb4.size)
    | (go_at_call 76;refine Calls.mono (HPAR.out _) ?_;rintro e w5 ⟨rfl,hb5⟩;have hb35:=below_via hb34 hb5))
   have hx5:=below_via hb4 hb5
   have HS5:Hid _:=Two5.below HS3.out hb35 hz30 hz3
   have HE5:Hid _:=Ent3.keep HE3x.out (fun o=>(bcell hx5).1 w3.heap.size o hzx)
   have hz5:w.heap.size+1<w5.heap.size:=Nat.lt_of_lt_of_le hz3 hb35.size
   have hz50:w.heap.size<w5.heap.size:=Nat.lt_of_succ_lt hz5
   have hz5e:w3.heap.size<w5.heap.size:=Nat.lt_of_lt_of_le hzx hx5.size
   have t53:tg3 w3.heap.size=(0,0):=HW3.out.st.fresh _ (Nat.le_refl _)
   have hlook:=look_all (s:=s) (i:=i) (p:=p) (B:=B) (objs:=objs) rt tg3 w5 { g with fs:=fs1 } _ (HW3.out.below hb35) (by simp;omega) (by have:=HGP.out.2.dropLast;rwa [List.dropLast_concat] at this)
   rw[flat_look HS.out HFl.out HOk.out fs1 rt] at hlook
   rw[HP.out.2.2] at hlook
   have hmk:=HMK.out
   rw[if_neg (by simp),if_neg (by rw[List.reverse_cons,List.reverse_cons];exact fun hh=>hin ⟨hh.1,fun e=>hh.2 (by have e':=List.append_inj_left' e rfl;have e'':=List.append_inj_right' e rfl;rw[List.reverse_inj] at e';rw[e',List.cons.inj e''|>.1])⟩)] at hmk
   have hlk0:=kept_of_look (objs:=objs) (t:=t) (fs:=fs1) (r:=rt)
   generalize lookR objs t fs1 rt=lr at hlook hmk hlk0
   obtain⟨fs2,er2,ks⟩:=lr
   simp only at hlook hmk hlk0
   clear HMK
   have HMK:Hid _:=hmk
   have HLOOK:Hid _:=hlook
   have HLK:Hid _:=hlk0
   have HM5:Hid _:=HM3.out.trans (Moves.of_below hb35)
   clear hmk hlook hlk0 a0 a1 a2 a3 a4 c0 c1 c2 c3 c4 a0' a1' a2' a3' a4' c0' c1' c2' c3' c4' hb4 hb5 hx5 hb34 hb3x hbe hb35
   refine Calls.mono HLOOK.out ?_
   rintro e w6 ⟨v,rfl,tg6,m6,hW6,hs6⟩
   have m6':=m6.mono (fun _ h=>h.mine)
   have k6:=Kept0.of_moves hi m6'
   have HS6:Hid _:=Two5.kept HS5.out k6 hz50 hz5 t03 t13
   have HE6:Hid _:=Ent3.keep HE5.out (k6.2 _ hz5e t53)
   have hz6:w.heap.size+1<w6.heap.size:=Nat.lt_of_lt_of_le hz5 k6.1
   have hz60:w.heap.size<w6.heap.size:=Nat.lt_of_succ_lt hz6
   have hz6e:w3.heap.size<w6.heap.size:=Nat.lt_of_lt_of_le hz5e k6.1
   have t06:tg6 w.heap.size=(0,0):=(m6.tags _ hz50).trans t03
   have t16:tg6 (w.heap.size+1)=(0,0):=(m6.tags _ hz5).trans t13
   have te6:tg6 w3.heap.size=(0,0):=(m6.tags _ hz5e).trans t53
   have HM6:Hid _:=HM5.out.trans m6'
   have HW6:Hid _:=hW6
   have HSL:Hid (Slc tg6 w6 i v (ks.map entOf)):=hs6
   obtain⟨la,lc,rfl⟩:=hs6.len
   clear m6 m6' k6 hW6 hs6
   obtain⟨a0,a1,a2,a3,a4,c0,c1,c2,c3,c4⟩:=HS6.out
   obtain⟨x0,x1,x2⟩:=HE6.out
   by_cases her2:er2=0
   ·subst her2
    obtain⟨⟨dt,hat,hkt⟩,hnx2,hkw2⟩:=HLK.out rfl
    have h3:=HE3.out
    clear HE3
    by_cases heq:rf.reverse ++ [en]=rt.reverse ++ [nt]
    ·rw[decide_eq_true heq] at h3
     go_wp2
     go_ret
     have hmk:=HMK.out
     have e':=List.append_inj_left' heq rfl
     have e'':=List.append_inj_right' heq rfl
     rw[List.reverse_inj] at e'
     rw[if_pos (.inr (by rw[e',(List.cons.inj e'').1]))] at hmk
     subst hmk
     exact⟨rfl,left_same HM6.out (HW6.out.mono (by simp;omega)) HFl.out HOk.out⟩
    ·rw[decide_eq_false heq] at h3
     have hroom:=room_any (c:=c) HW6.out (by simp;omega) HFl.out HOk.out HGP.out.1 HGP.out.2 hat hkt HSL.out en
     rw[HP.out.1,HP.out.2.1,<- HKI.out.1,<- HKI.out.2,List.length_map] at hroom
     have hmk:=HMK.out
     rw[if_neg (by simp;exact fun e1 e2=>heq (by rw[e1,e2]))] at hmk
     have hrn:=room_next (objs:=objs) (fs:=fs2) (b:=decide (rf=rt)) (ks:=ks) (n:=nt) (c:=c)
     have hroom':=hroom
     clear hroom
     simp only at hroom'
     generalize roomG objs fs2 (decide (rf=rt)) ks nt c=V at hroom' hmk hrn
     obtain⟨fs3,er3⟩:=V
     simp only at hroom' hmk hrn
     clear HMK
     have HMK:Hid _:=hmk
     have HROOM:Hid _:=hroom'
     have HRN:Hid _:=hrn
     have HT:Hid _:=And.intro hat (And.intro hkt (And.intro hnx2 hkw2))
     clear hmk hroom' hrn hat hkt hnx2 hkw2
     go_wp2_with fail
     refine Calls.mono HROOM.out ?_
     rintro e w7 ⟨rfl,hd7⟩
     obtain⟨tg7,m7,hW7⟩:=hd7.out
     have k7:=Kept0.of_moves hi m7
     have HS7:Hid _:=Two5.kept HS6.out k7 hz60 hz6 t06 t16
     have HE7:Hid _:=Ent3.keep HE6.out (k7.2 _ hz6e te6)
     have hz7:w.heap.size+1<w7.heap.size:=Nat.lt_of_lt_of_le hz6 k7.1
     have hz70:w.heap.size<w7.heap.size:=Nat.lt_of_succ_lt hz7
     have hz7e:w3.heap.size<w7.heap.size:=Nat.lt_of_lt_of_le hz6e k7.1
     have t07:tg7 w.heap.size=(0,0):=(m7.tags _ hz60).trans t06
     have t17:tg7 (w.heap.size+1)=(0,0):=(m7.tags _ hz6).trans t16
     have te7:tg7 w3.heap.size=(0,0):=(m7.tags _ hz6e).trans te6
     have HM7:Hid _:=HM6.out.trans m7
     have HW7:Hid _:=hW7
     clear hd7 m7 hW7 k7 a0 a1 a2 a3 a4 c0 c1 c2 c3 c4 x0 x1 x2 h3
     by_cases her3:er3=0
     ·subst her3
      obtain⟨hnx3,hvac,h16⟩:=HRN.out rfl
      have hokc:=(ok_at HS.out _ HOk.out HX.out.1).2.1
      have hbd:=hgt_bound HW7.out.st.highs 5 c
      have hst:=hgt_stable (5-(rf.reverse ++ [en]).length) 5 c (Nat.sub_le _ _) hokc
      have hlenf:(rf.reverse ++ [en]).length+(5-(rf.reverse ++ [en]).length)<=5:=by have:=HGP.out.1.len;omega
      have hhei:=height_all HW7.out HFl.out (5-(rf.reverse ++ [en]).length) c (rf.reverse ++ [en]) (Nat.sub_le _ _) hokc HX.out.1 HGP.out.1 hlenf en
      rw[<- hst,HP.out.1,<- HKI.out.1,<- HKI.out.2] at hhei
      have hdp:=HDEP.out
      have hdl:((rt.reverse ++ [nt]).length:Int)=((rt.length+1:Nat):Int):=by simp
      rw[hdl] at hdp
      have hmk:=HMK.out
      rw[if_neg (by simp)] at hmk
      clear HMK
      have hmv:=fun W (hb:Below w7.heap.size w7 W) (hh:((rt.length+1:Nat):Int)+hgt objs 5 c<=5)=>rename_moves (HW7.out.below hb) (by simp;omega) HFl.out HOk.out HGP.out.1 HGP.out.2 HX.out.2.2.1 HX.out.2.2.2.1 HX.out.2.2.2.2 HT.out.1 HT.out.2.1 ((HX.out.2.1.mono HT.out.2.2.1.2.2.2.2).mono hnx3.2.2.2.2) (HT.out.2.2.2.mono hnx3.2.2.2.2) (fun hp=>by
       by_cases e:rt.reverse ++ [nt]=rf.reverse ++ [en]
       ·exact heq e.symm
       ·exact hin ⟨hp,e⟩) hvac (fun hn=>(h16 hn).imp id (fun e=>by rw[of_decide_eq_true e])) (by rw[List.length_reverse];exact hh) en
      rw[HP.out.1,HP.out.2.1,<- HKI.out.1,<- HKI.out.2] at hmv
      have hMb:Hid _:=And.intro hmk hmv
      clear hmk hmv hvac h16 hnx3 hokc hst hlenf hdl
      generalize hgt objs 5 c=H at hhei hbd hMb
      generalize hDL:((rt.length+1:Nat):Int)=DL at hdp hMb
      have hDL1:1<=DL/\DL<=5:=by omega
      have HDL:Hid _:=hDL
      clear hDL
      obtain⟨hH0,hH1⟩:=hbd
      obtain⟨hD0,hD1⟩:=hDL1
      have hwx:IntKind.i64.wrap (DL+H)=DL+H:=by rw[IntKind.wrap_i64] <;> omega
      have HHEI:Hid _:=hhei
      have HDP:Hid _:=hdp
      clear hhei hdp
      have hSD:Two5 w7.drew w.heap.size (w.heap.size+1) s0 s1 s2 s3 s4 d0 d1 d2 d3 d4:=HS7.out
      have hED:Ent3 w7.drew w3.heap.size en kc ic:=HE7.out
      have bz:Below w7.heap.size w7 w7.drew:=below_drew (Below.refl _ _)
      obtain⟨a0,a1,a2,a3,a4,c0,c1,c2,c3,c4⟩:=HS7.out
      obtain⟨x0,x1,x2⟩:=HE7.out
      by_cases hh:5<DL+H
      ·go_wp2
       go_region_held3 (fun w'=>w'.cell? ⟨w.heap.size,0,none⟩=some (.string s0)/\w'.cell? ⟨w.heap.size,1,none⟩=some (.string s1)/\w'.cell? ⟨w.heap.size,2,none⟩=some (.string s2)/\w'.cell? ⟨w.heap.size,3,none⟩=some (.string s3)/\w'.cell? ⟨w.heap.size,4,none⟩=some (.string s4)/\w'.cell? ⟨w.heap.size+1,0,none⟩=some (.string d0)/\w'.cell? ⟨w.heap.size+1,1,none⟩=some (.string d1)/\w'.cell? ⟨w.heap.size+1,2,none⟩=some (.string d2)/\w'.cell? ⟨w.heap.size+1,3,none⟩=some (.string d3)/\w'.cell? ⟨w.heap.size+1,4,none⟩=some (.string d4)/\w'.cell? ⟨w3.heap.size,0,none⟩=some (.string en)/\w'.cell? ⟨w3.heap.size,1,none⟩=some (.int .i64 kc)/\w'.cell? ⟨w3.heap.size,2,none⟩=some (.int .i64 ic)) (first | exact hSD.and hED | exact hS8 | exact hS9) (first
        | (go_at_call 83;refine (HDP.out _).mono ?_;rintro e w8 ⟨rfl,hb8⟩;replace bz:=below_via bz hb8;have hS8:=(Two5.below HS7.out bz hz70 hz7).and (Ent3.keep HE7.out (fun o=>(bcell bz).1 w3.heap.size o hz7e)))
        | (go_at_call 84;refine (HHEI.out _ bz).mono ?_;rintro e w9 ⟨rfl,hb9⟩;replace bz:=below_via bz hb9;have hS9:=(Two5.below HS7.out bz hz70 hz7).and (Ent3.keep HE7.out (fun o=>(bcell bz).1 w3.heap.size o hz7e))))
       go_wp2
       go_ret
       have hmk:=hMb.out.1
       rw[if_pos hh] at hmk
       subst hmk
       exact⟨rfl,left_same (HM7.out.trans (Moves.of_below bz)) ((HW7.out.below bz).mono (by simp;omega)) HFl.out HOk.out⟩
      ·go_wp2
       go_region_held3 (fun w'=>w'.cell? ⟨w.heap.size,0,none⟩=some (.string s0)/\w'.cell? ⟨w.heap.size,1,none⟩=some (.string s1)/\w'.cell? ⟨w.heap.size,2,none⟩=some (.string s2)/\w'.cell? ⟨w.heap.size,3,none⟩=some (.string s3)/\w'.cell? ⟨w.heap.size,4,none⟩=some (.string s4)/\w'.cell? ⟨w.heap.size+1,0,none⟩=some (.string d0)/\w'.cell? ⟨w.heap.size+1,1,none⟩=some (.string d1)/\w'.cell? ⟨w.heap.size+1,2,none⟩=some (.string d2)/\w'.cell? ⟨w.heap.size+1,3,none⟩=some (.string d3)/\w'.cell? ⟨w.heap.size+1,4,none⟩=some (.string d4)/\w'.cell? ⟨w3.heap.size,0,none⟩=some (.string en)/\w'.cell? ⟨w3.heap.size,1,none⟩=some (.int .i64 kc)/\w'.cell? ⟨w3.heap.size,2,none⟩=some (.int .i64 ic)) (first | exact hSD.and hED | exact hS8 | exact hS9) (first
        | (go_at_call 83;refine (HDP.out _).mono ?_;rintro e w8 ⟨rfl,hb8⟩;replace bz:=below_via bz hb8;have hS8:=(Two5.below HS7.out bz hz70 hz7).and (Ent3.keep HE7.out (fun o=>(bcell bz).1 w3.heap.size o hz7e)))
        | (go_at_call 84;refine (HHEI.out _ bz).mono ?_;rintro e w9 ⟨rfl,hb9⟩;replace bz:=below_via bz hb9;have hS9:=(Two5.below HS7.out bz hz70 hz7).and (Ent3.keep HE7.out (fun o=>(bcell bz).1 w3.heap.size o hz7e))))
       obtain⟨hmk,hmv⟩:=hMb.out
       rw[if_neg (by omega)] at hmk
       have HMK:Hid _:=hmk
       have hmv9:=hmv w9 bz (by omega)
       have HMV:Hid _:=hmv9
       have HS9:Hid _:=Two5.below HS7.out bz hz70 hz7
       have HE9:Hid _:=Ent3.keep HE7.out (fun o=>(bcell bz).1 w3.heap.size o hz7e)
       have HM9:Hid _:=HM7.out.trans (Moves.of_below bz)
       have hz9:w.heap.size+1<w9.heap.size:=Nat.lt_of_lt_of_le hz7 bz.size
       have hz90:w.heap.size<w9.heap.size:=Nat.lt_of_succ_lt hz9
       have hz9e:w3.heap.size<w9.heap.size:=Nat.lt_of_lt_of_le hz7e bz.size
       clear hmk hmv hmv9 hMb bz hS8 hS9 hSD hED a0 a1 a2 a3 a4 c0 c1 c2 c3 c4 x0 x1 x2 hb8 hb9 HHEI HDP
       obtain⟨a0,a1,a2,a3,a4,c0,c1,c2,c3,c4⟩:=HS9.out
       obtain⟨x0,x1,x2⟩:=HE9.out
       go_wp2_with fail
       refine Calls.mono HMV.out ?_
       rintro e w10 ⟨rfl,k10,hput⟩
       have HS10:Hid _:=Two5.kept HS9.out k10 hz90 hz9 t07 t17
       have HE10:Hid _:=Ent3.keep HE9.out (k10.2 _ hz9e te7)
       have HPUT:Hid _:=hput
       have hz10:w.heap.size+1<w10.heap.size:=Nat.lt_of_lt_of_le hz9 k10.1
       have hz10e:w3.heap.size<w10.heap.size:=Nat.lt_of_lt_of_le hz9e k10.1
       clear a0 a1 a2 a3 a4 c0 c1 c2 c3 c4 x0 x1 x2 hput k10 HMV
       obtain⟨a0,a1,a2,a3,a4,c0,c1,c2,c3,c4⟩:=HS10.out
       obtain⟨x0,x1,x2⟩:=HE10.out
       go_wp2_with fail
       refine Calls.mono HPUT.out ?_
       rintro e w11 ⟨rfl,k11,h11⟩
       have HS11:Hid (Two5 w11 w.heap.size (w.heap.size+1) s0 s1 s2 s3 s4 d0 d1 d2 d3 d4):=Two5.kept HS9.out k11 hz90 hz9 t07 t17
       obtain⟨k11d,⟨tb,t7,_⟩,hcf⟩:=h11 w11.drew (below_drew (Below.refl _ _))
       have HCF:Hid _:=hcf
       have hSD:Two5 w11.drew w.heap.size (w.heap.size+1) s0 s1 s2 s3 s4 d0 d1 d2 d3 d4:=HS11.out
       have hTD:w11.drew.cell? ⟨B.bt,7,none⟩=some (.map (some B.oF)):=t7
       clear a0 a1 a2 a3 a4 c0 c1 c2 c3 c4 x0 x1 x2 h11 hcf k11d HPUT
       obtain⟨a0,a1,a2,a3,a4,c0,c1,c2,c3,c4⟩:=HS11.out
       have t7':w11.cell? ⟨B.bt,7,none⟩=some (.map (some B.oF)):=t7
       have tb':B.bt<w11.heap.size:=tb
       have hz11:w.heap.size+1<w11.heap.size:=Nat.lt_of_lt_of_le hz9 k11.1
       clear k11
       go_wp2
       go_region_held3 (fun w'=>w'.cell? ⟨w.heap.size,0,none⟩=some (.string s0)/\w'.cell? ⟨w.heap.size,1,none⟩=some (.string s1)/\w'.cell? ⟨w.heap.size,2,none⟩=some (.string s2)/\w'.cell? ⟨w.heap.size,3,none⟩=some (.string s3)/\w'.cell? ⟨w.heap.size,4,none⟩=some (.string s4)/\w'.cell? ⟨w.heap.size+1,0,none⟩=some (.string d0)/\w'.cell? ⟨w.heap.size+1,1,none⟩=some (.string d1)/\w'.cell? ⟨w.heap.size+1,2,none⟩=some (.string d2)/\w'.cell? ⟨w.heap.size+1,3,none⟩=some (.string d3)/\w'.cell? ⟨w.heap.size+1,4,none⟩=some (.string d4)/\w'.cell? ⟨B.bt,7,none⟩=some (.map (some B.oF))) (first | exact hSD.and hTD | exact hS12) (first
        | (go_at_call 86;refine Calls.mono HCF.out ?_;rintro e w12 ⟨rfl,h12⟩;obtain⟨k12,⟨tb12,t712,_⟩,_⟩:=h12 w12 (Below.refl _ _);have hS12:=(Two5.kept HS9.out k12 hz90 hz9 t07 t17).and t712;have H12:Hid _:=h12;clear h12))
       obtain⟨k12d,⟨tbd,_,t8⟩,hcd⟩:=H12.out w12.drew (below_drew (Below.refl _ _))
       have HCD:Hid _:=hcd
       have hSE:Two5 w12.drew w.heap.size (w.heap.size+1) s0 s1 s2 s3 s4 d0 d1 d2 d3 d4:=Two5.kept HS9.out k12d hz90 hz9 t07 t17
       have HS12:Hid (Two5 w12 w.heap.size (w.heap.size+1) s0 s1 s2 s3 s4 d0 d1 d2 d3 d4):=hSE
       have hTE:w12.drew.cell? ⟨B.bt,8,none⟩=some (.map (some B.oD)):=t8
       have t8':w12.cell? ⟨B.bt,8,none⟩=some (.map (some B.oD)):=t8
       have tb8:B.bt<w12.heap.size:=tbd
       clear a0 a1 a2 a3 a4 c0 c1 c2 c3 c4 t7 t7' tb' tb hSD hTD hS12 hcd k12d
       obtain⟨a0,a1,a2,a3,a4,c0,c1,c2,c3,c4⟩:=HS12.out
       go_wp2
       go_region_held3 (fun w'=>w'.cell? ⟨w.heap.size,0,none⟩=some (.string s0)/\w'.cell? ⟨w.heap.size,1,none⟩=some (.string s1)/\w'.cell? ⟨w.heap.size,2,none⟩=some (.string s2)/\w'.cell? ⟨w.heap.size,3,none⟩=some (.string s3)/\w'.cell? ⟨w.heap.size,4,none⟩=some (.string s4)/\w'.cell? ⟨w.heap.size+1,0,none⟩=some (.string d0)/\w'.cell? ⟨w.heap.size+1,1,none⟩=some (.string d1)/\w'.cell? ⟨w.heap.size+1,2,none⟩=some (.string d2)/\w'.cell? ⟨w.heap.size+1,3,none⟩=some (.string d3)/\w'.cell? ⟨w.heap.size+1,4,none⟩=some (.string d4)/\w'.cell? ⟨B.bt,8,none⟩=some (.map (some B.oD))) (first | exact hSE.and hTE | exact hS13) (first
        | (go_at_call 87;refine Calls.mono HCD.out ?_;rintro e w13 ⟨rfl,hleft⟩;have hS13:=rename_last HS9.out hz90 hz9 t07 t17 hi hleft;have HLEFT:Hid _:=hleft;clear hleft))
       go_wp2
       go_ret
       have hmk:=HMK.out
       subst hmk
       refine⟨rfl,?_⟩
       obtain⟨tgL,ftL,mL,hWL,hFL,hOL⟩:=HLEFT.out
       exact⟨tgL,ftL,HM9.out.trans mL,hWL.mono (by simp;omega),hFL,hOL⟩
     ·have her3':(er3 == 0)=false:=by simpa using her3
      go_wp2
      go_ret
      have hmk:=HMK.out
      rw[if_pos her3] at hmk
      subst hmk
      exact⟨rfl,left_same HM7.out (HW7.out.mono (by simp;omega)) HFl.out HOk.out⟩
   ·have her2':(er2 == 0)=false:=by simpa using her2
    go_wp2
    go_ret
    have hmk:=HMK.out
    rw[if_pos (.inl her2)] at hmk
    subst hmk
    exact⟨rfl,left_same HM6.out (HW6.out.mono (by simp;omega)) HFl.out HOk.out⟩
 ·have her':(er == 0)=false:=by simpa using her
  go_wp2
  go_ret
  have hmk:=HMK.out
  rw[if_pos her] at hmk
  subst hmk
  exact⟨rfl,left_same (HM3.out.trans (Moves.of_below ((Below.refl w3.heap.size w3).alloc (Nat.le_refl _) _))) ((HW3.out.below ((Below.refl w3.heap.size w3).alloc (Nat.le_refl _) _)).mono (by simp;omega)) HFl.out HOk.out⟩
end
def updN {β:Type}(f:Nat->β)(k:Nat)(v:β):Nat->β:=fun x=>if x=k then v else f x
theorem updN_same {β:Type}(f:Nat->β)(k:Nat)(v:β):updN f k v k=v:=by unfold updN;rw[if_pos rfl]
theorem updN_other {β:Type}{f:Nat->β}{k x:Nat}(h:x≠k)(v:β):updN f k v x=f x:=by unfold updN;rw[if_neg h]
def FlOk (objs:List Ob)(fl:Nat->Option (Int×ByteArray)):Prop:=∀ f id d,fl f=some (id,d)->id≠0->kindOf objs id=1
theorem nil_bytes (W:World):(convert 228 9 (.slice none 0 0)).run Tryz.prog W=.ok (.string ⟨#[]⟩) W:=by kernel_rfl
section
variable {s i p:Nat}{B:WB}{objs:List Ob}
theorem bytes_any {tg:Tags}{w:World}{g:WG}{lim:Nat}(h:WInv tg w s i p B objs g lim)(hl:lim<1099511627776)(hfl:FlOk objs g.fl){f:Nat}{x:Int×ByteArray}(hf:g.fl f=some x):
  Calls Tryz.prog 135 #[.pointer (some ⟨f,0,none⟩)] w fun e w'=>e=.returned (.tuple #[.string (bytesG objs g.fl g.fs f).2.2,.int .i64 (bytesG objs g.fl g.fs f).2.1])/\DidF s i p B objs tg w w' { g with fs:=(bytesG objs g.fl g.fs f).1 } (lim+1):=by
 obtain⟨id,d⟩:=x
 obtain⟨ht,hb,hd⟩:=h.wp.files f id d hf
 have hG:bytesG objs g.fl g.fs f=if id=0 then (g.fs,0,d) else if (g.fs.fileG id).2 then ((g.fs.fileG id).1,0,bytesOf objs id) else ((g.fs.fileG id).1,14,⟨#[]⟩):=by
  unfold bytesG;rw[hf]
 have hlt:=(Array.getElem?_eq_some_iff.1 hb).1
 have c1:w.cell? ⟨f,1,none⟩=some (.int .i64 id):=by simp[World.cell?,hb]
 by_cases hid:id=0
 ·rw[hG,if_pos hid]
  subst hid
  have c2:w.cell? ⟨f,2,none⟩=some (.string d):=by simp[World.cell?,hb]
  exact (bytes_own f d w c1 c2).mono fun e w' ⟨h1,h2⟩=>⟨h1,by rw[h2];exact didF_same (h.mono (Nat.le_succ _)) (Below.refl _ _)⟩
 ·rw[hG,if_neg hid]
  have c0:w.cell? ⟨f,0,none⟩=some (.pointer (some ⟨B.sF,0,none⟩)):=by simp[World.cell?,hb,hid]
  have hb0:Below w.heap.size w w.drew:=below_drew (Below.refl _ _)
  have hsh:=shelfF (h.below hb0) hl (hfl f id d hf hid)
  refine (bytes_get f B.sF id (if (g.fs.fileG id).2 then 0 else 14) (if (g.fs.fileG id).2 then bytesOf objs id else ⟨#[]⟩) (fun w'=>DidF s i p B objs tg w w' { g with fs:=(g.fs.fileG id).1 } (lim+1)) w hlt c0 c1 hid (hsh.mono fun e w' ⟨h1,h2⟩=>⟨h1,DidF.via hb0 h2⟩)).mono fun e w' ⟨h1,h2⟩=>?_
  cases hh:(g.fs.fileG id).2 with
  | true=>rw[hh] at h1;exact⟨h1,h2⟩
  | false=>rw[hh] at h1;exact⟨h1,h2⟩
theorem setFile_block {w:World}{f:Nat}{x y z:Value}{t:TypeId}(h:w.heap[f]? = some (.cells #[x,y,z] t (0,0)))(d:ByteArray):(setFile w f d).heap[f]? = some (.cells #[.pointer none,.int .i64 0,.string d] t (0,0)):=by
 unfold setFile
 have h1:=heap_setCell_same w f 0 _ t (.pointer none) h
 have h2:=heap_setCell_same _ f 1 _ t (.int .i64 0) h1
 have h3:=heap_setCell_same _ f 2 _ t (.string d) h2
 simpa using h3
theorem setFile_grown (w:World)(f:Nat)(d:ByteArray):w.grownBy (setFile w f d) (some f):=by
 unfold setFile
 exact grown_set (grown_set (grown_set (grown_refl w _)))
theorem setFile_size (w:World)(f:Nat)(d:ByteArray):(setFile w f d).heap.size=w.heap.size:=by unfold setFile;simp
theorem WInv.set_file {tg:Tags}{w:World}{g:WG}{lim:Nat}(h:WInv tg w s i p B objs g lim){f:Nat}{x:Int×ByteArray}(hf:g.fl f=some x){d:ByteArray}(hd:d.size<=256):
  Moves (fun t=>t=(i,6)) tg tg w (setFile w f d)/\WInv tg (setFile w f d) s i p B objs { g with fl:=updN g.fl f (some (0,d)) } lim:=by
 have hi:=h.two
 obtain⟨id,d0⟩:=x
 obtain⟨ht,hb,_⟩:=h.wp.files f id d0 hf
 have m:Moves (fun t=>t=(i,6)) tg tg w (setFile w f d):=moves_grown (setFile_grown w f d) (setFile_size w f d) ht
 have hp:=h.wp
 have hsome:∀ f',(∃ x,g.fl f'=some x)->∃ x,updN g.fl f (some (0,d)) f'=some x:=fun f' ⟨x,hx⟩=>by
  by_cases e:f'=f
  ·subst e;exact⟨_,updN_same _ _ _⟩
  ·exact⟨x,by rw[updN_other e];exact hx⟩
 refine⟨m,h.two,h.st.moves m (fun e=>by cases e) (fun e=>by cases e),⟨hp.tree.moves m (fun e=>by cases e),hp.keptF.moves m (fun e=>by cases e),hp.keptD.moves m (fun e=>by cases e),hp.ownF.moves m (fun e=>by cases e),?_,fun f' id' d' hf'=>?_,fun q f' hq=>hsome f' (hp.held q f' hq),?_,hp.ok⟩⟩
 ·obtain⟨vD,hD⟩:=hp.ownD
  exact⟨vD,hD.moves m (fun e=>by cases e)⟩
 ·by_cases e:f'=f
  ·subst e
   have hf'':updN g.fl f' (some (0,d)) f'=some (id',d'):=hf'
   rw[updN_same] at hf''
   cases hf''
   refine⟨ht,?_,hd⟩
   rw[if_pos rfl]
   exact setFile_block hb d
  ·have hf'':updN g.fl f (some (0,d)) f'=some (id',d'):=hf'
   rw[updN_other e] at hf''
   obtain⟨a1,a2,a3⟩:=hp.files f' id' d' hf''
   refine⟨a1,?_,a3⟩
   rw[(setFile_grown w f d).block f' (Array.getElem?_eq_some_iff.1 a2).1 (fun e'=>e (by cases e';rfl))]
   exact a2
 ·have ho:=hp.opens.moves m (fun e=>by cases e) (fun e=>by cases e)
  exact⟨ho.tw,ho.hw,ho.past,fun k b f' fg pl hk=>by
   obtain⟨a1,a2,a3,a4⟩:=ho.at_ k b f' fg pl hk
   exact⟨a1,a2,hsome f' a3,a4⟩,ho.inj⟩
theorem clear_any {tg:Tags}{w:World}{g:WG}{lim:Nat}(h:WInv tg w s i p B objs g lim){f:Nat}{x:Int×ByteArray}(hf:g.fl f=some x):
  Calls Tryz.prog 133 #[.pointer (some ⟨f,0,none⟩)] w fun e w'=>e=.returned (.tuple #[])/\Moves (fun t=>t=(i,6)) tg tg w w'/\WInv tg w' s i p B objs { g with fl:=updN g.fl f (some (0,⟨#[]⟩)) } lim:=by
 obtain⟨id,d0⟩:=x
 obtain⟨ht,hb,_⟩:=h.wp.files f id d0 hf
 refine (clear_walk f _ _ _ w (Array.getElem?_eq_some_iff.1 hb).1 (by simp[World.cell?,hb];rfl) (by simp[World.cell?,hb];rfl) (by simp[World.cell?,hb];rfl) (fun o=>by simp[World.frozen?,hb]) (nil_bytes w)).mono fun e w' ⟨h1,h2⟩=>⟨h1,?_⟩
 rw[h2]
 exact h.set_file hf (by simp[ByteArray.size])
end
end Go.Proofs.YtajopoddmfdejaaGreat
