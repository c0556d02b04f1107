/- What is proved here: Remove of a workspace's tree. -/
import Derived.Test.YtlgidcmmgohagaaGreatFileM22
import Derived.Test.YtlgidcmmgohagaaGreatFileM18
namespace Go.Proofs.YtlgidcmmgohagaaGreat
open Go.RowKit Go.Sort Go.Shelf Go.Proofs.Tryz
set_option linter.unusedVariables false
set_option maxRecDepth 100000
set_option maxHeartbeats 16000000
theorem vacant_next {objs:List Ob}{fs:FS}{c:LT}(h:(vacantG objs fs c).2=0):fs.Next (vacantG objs fs c).1/\(kids objs c=none\/kids objs c=some []):=by
 unfold vacantG at h ⊢;by_cases hk:c.kind=1
 ·rw[zzD hk]
  refine⟨FS.Next.refl _,.inl ?_⟩;cases c <;> simp[LT.kind] at hk <;> rfl
 ·rw[zzB hk] at h ⊢
  by_cases h0:(kidsG objs fs c).2.1=0/\0<(kidsG objs fs c).2.2.length
  ·simp only[zzD h0] at h;cases h
  ·simp only[zzB h0] at h ⊢
   obtain⟨k1,k2,k3⟩:=kidsG_kids h;refine⟨k2,.inr ?_⟩;rw[k1,Option.some.injEq];exact List.length_eq_zero_iff.1 (by have:=fun x=>h0 ⟨h,x⟩;omega)
theorem find_way {objs:List Ob}{t c:LT}{fs:FS}{n:ByteArray}{r:List ByteArray}{fs':FS}(hf:findR objs t fs (n :: r)=(fs',0,c)):t.at objs (r.reverse ++ [n])=some c/\fs.Next fs'/\KeptWay objs t fs' r.reverse/\∃d ks,t.at objs r.reverse=some d/\kids objs d=some ks/\pickK ks n=some c:=by
 obtain⟨h1,h2,h3⟩:=kept_of_find (objs:=objs) (t:=t) (fs:=fs) (r:=n :: r) (by rw[hf]);rw[hf,List.reverse_cons] at h1;rw[hf] at h2;refine⟨h1,h2,fun x id hx ha=>?_,at_snoc h1⟩
 have:=h3 x id (by rw[List.reverse_cons];exact hx.trans (List.prefix_append _ _)) (fun e=>by
  have:=hx.length_le
  rw[e,List.reverse_cons] at this;simp at this;omega) ha
 rw[hf] at this;exact this
section
variable {s i p:Nat}{B:WB}{objs:List Ob}
theorem DidF.out {tg:Tags}{w w':World}{g':WG}{lim:Nat}(h:DidF s i p B objs tg w w' g' lim):∃tg',Moves (Mine i) tg tg' w w'/\WInv tg' w' s i p B objs g' lim:=by
 obtain⟨tg',m,hW⟩:=h;exact⟨tg',m.mono (fun _ h=>h.mine),hW⟩
theorem remove_walk {tg:Tags}{w:World}{g:WG}{lim:Nat}{t:LT}(h:WInv tg w s i p B objs g lim)(hl:lim+400<1099511627776)(hF:Flat objs t g.ft)(hok:LTok objs 5 t){n:ByteArray}{r:List ByteArray}(hp:Good (r.reverse ++ [n])):
  Calls prog 71 #[.pointer (some ⟨B.bt,0,none⟩),.agg (pathA (r.reverse ++ [n]))] w fun en w'=>en=.returned (.int .i64 (removeR objs t g.fs (n :: r)).2.1)/\Left s i p B objs tg w w' g (removeR objs t g.fs (n :: r)).1 (removeR objs t g.fs (n :: r)).2.2 (lim+300):=by
 have hS:=h.st.sound;have hi:=h.two;have hr4:r.length<=4:=by have:=hp.len;simp at this;omega
 have hfind:=fun W (hb:Below w.heap.size w W)=>find_all (s:=s) (i:=i) (p:=p) (B:=B) (objs:=objs) (n :: r) tg W g lim (h.below hb) (by omega) (by rw[List.reverse_cons];exact hp);rw[List.reverse_cons] at hfind;obtain⟨f1,f2,f3⟩:=flat_find hS hF hok g.fs (n :: r);simp only[f1,f2] at hfind;have hmk:removeR objs t g.fs (n :: r)=if (findR objs t g.fs (n :: r)).2.1≠0 then ((findR objs t g.fs (n :: r)).1,(findR objs t g.fs (n :: r)).2.1,t) else if (vacantG objs (findR objs t g.fs (n :: r)).1 (findR objs t g.fs (n :: r)).2.2).2≠0 then ((vacantG objs (findR objs t g.fs (n :: r)).1 (findR objs t g.fs (n :: r)).2.2).1,(vacantG objs (findR objs t g.fs (n :: r)).1 (findR objs t g.fs (n :: r)).2.2).2,t) else ((vacantG objs (findR objs t g.fs (n :: r)).1 (findR objs t g.fs (n :: r)).2.2).1,0,modG objs (fun ks=>dropK ks n) r.reverse t):=rfl;generalize removeR objs t g.fs (n :: r)=M at hmk ⊢;have hfw:∀{fs':FS} {c:LT},findR objs t g.fs (n :: r)=(fs',0,c)->_:=fun {_ _} h=>find_way h;generalize findR objs t g.fs (n :: r)=a at hfind f3 hmk hfw;obtain⟨fs',er,c⟩:=a;simp only at hfind f3 hmk;generalize findF objs g.ft g.fs (n :: r)=af at hfind f3;obtain⟨_,_,en,ek,eid⟩:=af;simp only[List.headD_cons,Prod.mk.injEq] at hfind f3;have HMK:Hid _:=hmk;have heq:∀W,(Op.equalIn 10000 147 (pathV (r.reverse ++ [n])) (pathV [])).run prog W=.ok false W:=fun W=>by
  have:=run_eqP hp Good.nil W
  rw[zzE (by simp)] at this;exact this
 have hroot:=fun W=>root_any W;obtain⟨s0,s1,s2,s3,s4,hP⟩:∃s0 s1 s2 s3 s4,pathA (r.reverse ++ [n]) = #[.string s0,.string s1,.string s2,.string s3,.string s4]:=⟨_,_,_,_,_,rfl⟩;unfold pathV at hroot heq;simp only[hP] at heq hfind;rw[hP];unfold pathA at hroot heq;simp only[List.getD_nil] at hroot heq;have HP:Hid _:=hP;have H0:Hid _:=h;have HFl:Hid _:=hF;have HOk:Hid _:=hok;have HS:Hid (Sound objs):=hS;have HFIND:Hid _:=hfind;have HFW:Hid (∀{fs'':FS} {c':LT},(fs',er,c)=(fs'',0,c')->_):=hfw;have HF3:Hid _:=f3;have HGP:Hid _:=hp;clear h hF hok hS hP hfind hfw hp hmk f1 f2 f3;go_enter func71,ntmps71;go_wp2
 go_region_with (go_at_call 75;refine (hroot _).mono ?_;rintro e w1 ⟨rfl,hb1⟩;obtain⟨hc1,hf1⟩:=bcell hb1;have hz1:=one_size hb1;have b1:=below_via (below_drew ((Below.refl w.heap.size w).alloc (zzC _) _)) hb1)
 all_goals
  go_wp2_with fail;refine (HFIND.out w1 b1).mono ?_;rintro e w3 ⟨rfl,hd3⟩;obtain⟨tg3,m3,hW3⟩:=hd3.out;have k3:=kept_cell (b:=w.heap.size) hi m3 hz1 (H0.out.st.fresh _ (zzC _));have hsz3:w.heap.size<w3.heap.size:=zzA hz1 m3.size;have tz3:tg3 w.heap.size=(0,0):=(m3.tags _ hz1).trans (H0.out.st.fresh _ (zzC _));have HM3:Hid _:=call_moves b1 m3;have HW3:Hid _:=hW3;clear hd3 m3 hW3;by_cases her:er=0
  ·subst her
   obtain⟨⟨rfl,rfl,rfl⟩,hat⟩:=HF3.out rfl;obtain⟨x1,x2,x3,d,ks,x4,x5,x6⟩:=HFW.out rfl;have hvac:=fun W (hb:Below w3.heap.size w3 W)=>vacant_any (HW3.out.below hb) (by simp;omega) HFl.out HOk.out HGP.out x1 en;rw[HP.out] at hvac;have hvn:=vacant_next (objs:=objs) (fs:=fs') (c:=c);have hmk:=HMK.out;clear HMK;simp only[ne_eq,not_true_eq_false,if_false] at hmk;generalize vacantG objs fs' c=V at hvac hvn hmk;obtain⟨fs2,er2⟩:=V;simp only at hvac hvn hmk;have HVAC:Hid _:=hvac;have HVN:Hid _:=hvn;have HX:Hid _:=And.intro x3 (And.intro x4 (And.intro x5 x6));have HMK:Hid _:=hmk;clear hvac hvn hmk x1 x2 x3 x4 x5 x6 hat;go_wp2_with fail;refine (HVAC.out _ ((Below.refl w3.heap.size w3).alloc (zzC _) _)).mono ?_;rintro e w5 ⟨rfl,hd5⟩;obtain⟨tg5,m5,hW5⟩:=hd5.out;have k5:=kept_cell (b:=w.heap.size) hi m5 (lt_alloc hsz3 _) tz3;have hsz5:w.heap.size<w5.heap.size:=zzA (lt_alloc hsz3 _) m5.size;have tz5:tg5 w.heap.size=(0,0):=(m5.tags _ (lt_alloc hsz3 _)).trans tz3;have HM5:Hid _:=call_moves ((Below.refl w3.heap.size w3).alloc (zzC _) _) m5;have HW5:Hid _:=hW5;clear hd5 m5 hW5;by_cases her2:er2=0
   ·subst her2
    obtain⟨hnx,hkid⟩:=HVN.out rfl;have hkw:KeptWay objs t fs2 r.reverse:=HX.out.1.mono hnx.2.2.2.2;have hwy:=ownWay_flat HS.out HFl.out HOk.out HX.out.2.1 HX.out.2.2.1 hkw;have q1:=(ok_kids HS.out (ok_at HS.out _ HOk.out HX.out.2.1).2.1 HX.out.2.2.1).1;have hth:thereK (curK objs t r.reverse) en=true:=by rw[cur_at HX.out.2.1 HX.out.2.2.1,there_ent,<-pick_there q1,HX.out.2.2.2];rfl
    have hEn:Ents objs (curK objs t r.reverse):=by
     have:=HW5.out.ents fs2 r
     rw[flat_look HS.out HFl.out HOk.out,look_kept HX.out.2.1 HX.out.2.2.1 hkw] at this;rw[cur_at HX.out.2.1 HX.out.2.2.1];exact this
    obtain⟨vD,hvD⟩:=HW5.out.wp.ownD;have htk:=take_any HW5.out hvD (by simp;omega) HGP.out hwy hEn hth;have hF7:=flat_remove HS.out HFl.out HOk.out HX.out.2.1 HX.out.2.2.1 hkw HX.out.2.2.2 hkid;have hO7:=drop_ok HS.out HOk.out HX.out.2.1 HX.out.2.2.1 en;rw[HP.out] at htk;have HTK:Hid _:=htk;have HF7:Hid _:=hF7;have HO7:Hid _:=hO7;clear htk hF7 hO7 hvD hEn hth q1 hwy hkw hnx hkid;go_wp2_with (first
     | (go_at_call 138;go_loud (refine Calls.mono HTK.out ?_;rintro e w6 ⟨rfl,tg6,vD6,m6,hW6,hD6⟩;have k6:=kept_cell (b:=w.heap.size) hi m6 hsz5 tz5;have hfg:=forget_any hW6 hD6 HGP.out;rw[HP.out] at hfg;have HFG:Hid _:=hfg;have HM6:Hid _:=m6;clear hfg hW6 hD6 m6))
     | (go_at_call 139;go_loud (refine Calls.mono HFG.out ?_;rintro e w7 ⟨rfl,m7,hW7,hD7⟩;have HM7:Hid _:=m7;have HW7:Hid _:=hW7;clear m7 hW7 hD7)))
    go_ret;have hmk:=HMK.out;simp only[not_true_eq_false,if_false] at hmk;subst hmk;exact⟨rfl,tg6,_,(HM3.out.trans (HM5.out.trans (HM6.out.trans HM7.out))),HW7.out.mono (by simp;omega),HF7.out,HO7.out⟩
   ·have her2':(er2 == 0)=false:=by simpa using her2
    go_wp2;go_ret;have hmk:=HMK.out;rw[zzD her2] at hmk;subst hmk;exact⟨rfl,left_same (HM3.out.trans HM5.out) (HW5.out.mono (by simp;omega)) HFl.out HOk.out⟩
  ·have her':(er == 0)=false:=by simpa using her
   go_wp2;go_ret;have hmk:=HMK.out;rw[zzD her] at hmk;subst hmk;exact⟨rfl,left_same (HM3.out.trans (Moves.of_below ((Below.refl w3.heap.size w3).alloc (zzC _) _))) ((HW3.out.below ((Below.refl w3.heap.size w3).alloc (zzC _) _)).mono (by simp;omega)) HFl.out HOk.out⟩
theorem kind_cases (c:LT):c.kind=1\/c.kind=2:=by cases c <;> simp[LT.kind]
theorem DidF.via {tg:Tags}{w W w':World}{g':WG}{lim:Nat}(hb:Below w.heap.size w W)(h:DidF s i p B objs tg W w' g' lim):DidF s i p B objs tg w w' g' lim:=by
 obtain⟨tg',m,hW⟩:=h;exact⟨tg',call_moves hb m,hW⟩
theorem didF_same {tg:Tags}{w w':World}{g:WG}{lim:Nat}(h:WInv tg w s i p B objs g lim)(hb:Below w.heap.size w w'):DidF s i p B objs tg w w' g lim:=⟨tg,Moves.of_below hb,h.below hb⟩
theorem DidF.mono {tg:Tags}{w w':World}{g:WG}{lim lim':Nat}(h:DidF s i p B objs tg w w' g lim)(hl:lim<=lim'):DidF s i p B objs tg w w' g lim':=by
 obtain⟨tg',m,hW⟩:=h;exact⟨tg',m,hW.mono hl⟩
theorem yields_any {tg:Tags}{w:World}{g:WG}{lim:Nat}{t c x:LT}(h:WInv tg w s i p B objs g lim)(hl:lim+10<1099511627776)(hF:Flat objs t g.ft){n:Nat}(hok:LTok objs n t){q:List ByteArray}(hq:Good q)(ha:t.at objs q=some c)(nm nx:ByteArray):
  Calls prog 195 #[.pointer (some ⟨B.bt,0,none⟩),.agg (pathA q),.agg #[.string nm,.int .i64 c.kind,.int .i64 c.id],.agg #[.string nx,.int .i64 x.kind,.int .i64 x.id]] w fun en w'=>en=.returned (.int .i64 (yieldsG objs g.fs c x).2)/\DidF s i p B objs tg w w' { g with fs:=(yieldsG objs g.fs c x).1 } (lim+1):=by
 have hvac:=fun W (hb:Below w.heap.size w W)=>vacant_any (h.below hb) hl hF hok hq ha nm;have hy:yieldsG objs g.fs c x=if c.kind=2/\x.kind=1 then (g.fs,7) else if c.kind=1/\x.kind=2 then (g.fs,5) else vacantG objs g.fs c:=rfl;generalize yieldsG objs g.fs c x=Y at hy ⊢;have hkc:=kind_cases c;have hkx:=kind_cases x;generalize vacantG objs g.fs c=V at hvac hy;generalize c.kind=kc at hvac hy hkc ⊢;generalize x.kind=kx at hy hkx ⊢;generalize c.id=ic at hvac ⊢;generalize x.id=ix;obtain⟨s0,s1,s2,s3,s4,hP⟩:∃s0 s1 s2 s3 s4,pathA q = #[.string s0,.string s1,.string s2,.string s3,.string s4]:=⟨_,_,_,_,_,rfl⟩;rw[hP];simp only[hP] at hvac;have H0:Hid _:=h;have HVAC:Hid _:=hvac;have HY:Hid _:=hy;clear h hvac hP hy hF hok ha;rcases hkc with rfl | rfl <;> rcases hkx with rfl | rfl
 ·go_enter func195,ntmps195
  go_wp2_with (go_at_call 137;refine (HVAC.out _ ((((Below.refl w.heap.size w).alloc (zzC _) _).alloc (by simp) _).alloc (by simp;omega) _)).mono ?_;rintro e w1 ⟨rfl,hd1⟩);go_ret;have hy:=HY.out;rw[zzB (by decide),zzB (by decide)] at hy;subst hy;exact⟨rfl,hd1.via ((((Below.refl w.heap.size w).alloc (zzC _) _).alloc (by simp) _).alloc (by simp;omega) _)⟩
 ·go_enter func195,ntmps195
  go_wp2;go_ret;have hy:=HY.out;rw[zzB (by decide),zzD (by decide)] at hy;subst hy;exact⟨rfl,(didF_same H0.out ((((Below.refl w.heap.size w).alloc (zzC _) _).alloc (by simp) _).alloc (by simp;omega) _)).mono (by omega)⟩
 ·go_enter func195,ntmps195
  go_wp2;go_ret;have hy:=HY.out;rw[zzD (by decide)] at hy;subst hy;exact⟨rfl,(didF_same H0.out ((((Below.refl w.heap.size w).alloc (zzC _) _).alloc (by simp) _).alloc (by simp;omega) _)).mono (by omega)⟩
 ·go_enter func195,ntmps195
  go_wp2_with (go_at_call 137;refine (HVAC.out _ ((((Below.refl w.heap.size w).alloc (zzC _) _).alloc (by simp) _).alloc (by simp;omega) _)).mono ?_;rintro e w1 ⟨rfl,hd1⟩);go_ret;have hy:=HY.out;rw[zzB (by decide),zzB (by decide)] at hy;subst hy;exact⟨rfl,hd1.via ((((Below.refl w.heap.size w).alloc (zzC _) _).alloc (by simp) _).alloc (by simp;omega) _)⟩
theorem three_size {w w1:World}{o1 o2 o3:Obj}(h:Below (((w.alloc o1).alloc o2).alloc o3).heap.size (((w.alloc o1).alloc o2).alloc o3) w1):w.heap.size+2<w1.heap.size:=by
 have h2:=h.size;rw[World.size_alloc,World.size_alloc,World.size_alloc] at h2;omega
theorem three_below {w w1:World}{o1 o2 o3:Obj}(h:Below (((w.alloc o1).alloc o2).alloc o3).heap.size (((w.alloc o1).alloc o2).alloc o3) w1):Below w.heap.size w w1:=
 below_via ((((Below.refl w.heap.size w).alloc (zzC _) _).alloc (by simp) _).alloc (by simp;omega) _) h
theorem three_old {w w1:World}{o1 o2 o3:Obj}(h:Below (((w.alloc o1).alloc o2).alloc o3).heap.size (((w.alloc o1).alloc o2).alloc o3) w1)(b o:Nat)(hb:b<w.heap.size+3):w1.cell? ⟨b,o,none⟩=(((w.alloc o1).alloc o2).alloc o3).cell? ⟨b,o,none⟩:=
 (bcell h).1 b o (by rw[World.size_alloc,World.size_alloc,World.size_alloc];omega)
theorem Slc.at_ {tg:Tags}{w:World}{v:Value}{es:List Ent}(h:Slc tg w i v es){k:Nat}(hk:k<es.length):∃gb c,v=.slice (some ⟨gb,0,none⟩) es.length c/\gb<w.heap.size/\w.cell? ⟨gb,k*3,none⟩=some (.string (es[k]).1)/\w.cell? ⟨gb,k*3+1,none⟩=some (.int .i64 (es[k]).2.1)/\w.cell? ⟨gb,k*3+2,none⟩=some (.int .i64 (es[k]).2.2):=by
 obtain⟨gb,cp,rfl⟩:=slice_of_owns h.1 (by omega);obtain⟨c0,c1,c2⟩:=row_at (b:=gb) (fun j u hu=>by have:=owns_cells h.1 j u hu;rwa [Nat.zero_add] at this) hk;exact⟨gb,cp,rfl,ownsRow_lt h.1 rfl,c0,c1,c2⟩
theorem pick_at {ks:Kids}(hr:RisingK ks){n:ByteArray}{e:LT}(hp:pickK ks n=some e):∃h:idxK (ks.map entOf) n<(ks.map entOf).length,(ks.map entOf)[idxK (ks.map entOf) n]=(n,e.kind,e.id):=by
 have hth:thereK (ks.map entOf) n=true:=by rw[there_ent,<-pick_there hr,hp];rfl
 obtain⟨h1,h2⟩:=there_at hth;have hg:=getK_there (n:=n) (by rw[map_ent];exact mapK_rising _ hr:RisingK (ks.map entOf));rw[hth,zzD rfl,zzH h1,Option.map_some,getK_map,hp,Option.map_some,Option.some.injEq] at hg;exact⟨h1,Prod.ext h2 hg.symm⟩
theorem room_there {tg:Tags}{w:World}{g:WG}{lim:Nat}{t x d e:LT}(h:WInv tg w s i p B objs g lim)(hl:lim+10<1099511627776)(hF:Flat objs t g.ft){k:Nat}(hok:LTok objs k t){rf qt:List ByteArray}{nt:ByteArray}(hf:Good rf)(hq:Good (qt ++ [nt])){ks:Kids}(ha:t.at objs qt=some d)(hk:kids objs d=some ks)(hp:pickK ks nt=some e){v:Value}(hs:Slc tg w i v (ks.map entOf))(nx:ByteArray):
  Calls prog 141 #[.pointer (some ⟨B.bt,0,none⟩),.agg (pathA rf),.agg (pathA (qt ++ [nt])),.agg #[.string nx,.int .i64 x.kind,.int .i64 x.id],v] w fun en w'=>en=.returned (.int .i64 (yieldsG objs g.fs e x).2)/\DidF s i p B objs tg w w' { g with fs:=(yieldsG objs g.fs e x).1 } (lim+1):=by
 have hS:=h.st.sound;obtain⟨q1,q2,q3⟩:=ok_kids hS (ok_at hS _ hok ha).2.1 hk;have hr1:RisingK (ks.map entOf):=by rw[map_ent];exact mapK_rising _ q1
 have hl1:(ks.map entOf).length<=16:=by rw[List.length_map];exact q2
 obtain⟨hix,hat⟩:=pick_at q1 hp;have hae:t.at objs (qt ++ [nt])=some e:=by rw[at_append,ha,Option.bind_some,at_cons,hk,Option.bind_some,hp,Option.bind_some,at_nil]
 have hth:thereK (ks.map entOf) nt=true:=by rw[there_ent,<-pick_there q1,hp];rfl
 have hy:=fun W (hb:Below w.heap.size w W)=>yields_any (x:=x) (h.below hb) hl hF hok hq hae nt nx;have hsea:=fun W2 (hb:Below w.heap.size w W2)=>search_any (hs.below hb).1 nt hr1 hl1;rw[hth] at hsea;obtain⟨gb,cp,rfl,hgl,y0,y1,y2⟩:=hs.at_ hix;rw[hat] at y0 y1 y2;clear hat;generalize (ks.map entOf).length=ln at hsea hix hl1 ⊢;generalize idxK (ks.map entOf) nt=ix at hsea hix y0 y1 y2;have hname:=fun W=>name_any (qt ++ [nt]) hq (by simp) W;simp only[List.getLast_concat] at hname;obtain⟨s0,s1,s2,s3,s4,hP⟩:∃s0 s1 s2 s3 s4,pathA (qt ++ [nt]) = #[.string s0,.string s1,.string s2,.string s3,.string s4]:=⟨_,_,_,_,_,rfl⟩;obtain⟨r0,r1,r2,r3,r4,hP'⟩:∃s0 s1 s2 s3 s4,pathA rf = #[.string s0,.string s1,.string s2,.string s3,.string s4]:=⟨_,_,_,_,_,rfl⟩;unfold pathV at hname;simp only[hP] at hname hy;rw[hP,hP'];generalize yieldsG objs g.fs e x=Y at hy ⊢;simp only at y0 y1 y2;generalize e.kind=ke at hy y1;generalize e.id=ie at hy y2;generalize x.kind=kx at hy ⊢;generalize x.id=ixx at hy ⊢;have HSEA:Hid _:=hsea;have HY:Hid _:=hy;clear h hsea hy hP hP' hF hok ha hk hp hs hS q1 q2 q3 hr1 hae hth;go_enter func141,ntmps141;go_wp2_with (first
  | (go_at_call 134;refine (hname _).mono ?_;rintro e w1 ⟨rfl,hb1⟩;have hz1:=three_size hb1;have k1:=three_old hb1 (w.heap.size+1);have k2:=three_old hb1 (w.heap.size+2);have b1:=three_below hb1)
  | (go_at_call 133;go_loud (refine (HSEA.out _ b1).mono ?_;rintro e w2 ⟨rfl,hb2⟩;have b2:=below_via b1 hb2;have k3:=fun o=>(bcell hb2).1 (w.heap.size+1) o (Nat.lt_of_succ_lt hz1);have k4:=fun o=>(bcell hb2).1 (w.heap.size+2) o hz1;have hz2:=zzA hz1 hb2.size;have hz3:w.heap.size+1<w2.heap.size:=Nat.lt_of_succ_lt hz2;have hg2:=zzA hgl b2.size;have x0:=((bcell b2).1 gb (ix*3) hgl).trans y0;have x1:=((bcell b2).1 gb (ix*3+1) hgl).trans y1;have x2:=((bcell b2).1 gb (ix*3+2) hgl).trans y2)))
 go_region_with (go_at_call 195;go_loud (refine (HY.out _ (below_drew b2)).mono ?_;rintro e w3 ⟨rfl,hd3⟩))
 all_goals
  go_wp2;go_ret;exact⟨rfl,hd3.via (below_drew b2)⟩
theorem room_free {tg:Tags}{w:World}{g:WG}{lim:Nat}{t d:LT}(h:WInv tg w s i p B objs g lim)(hF:Flat objs t g.ft){k:Nat}(hok:LTok objs k t){qf qt:List ByteArray}{nf nt:ByteArray}(hf:Good (qf ++ [nf]))(hq:Good (qt ++ [nt])){ks:Kids}(ha:t.at objs qt=some d)(hk:kids objs d=some ks)(hp:pickK ks nt=none){v:Value}(hs:Slc tg w i v (ks.map entOf))(nx:ByteArray)(kx ixx:Int):
  Calls prog 141 #[.pointer (some ⟨B.bt,0,none⟩),.agg (pathA (qf ++ [nf])),.agg (pathA (qt ++ [nt])),.agg #[.string nx,.int .i64 kx,.int .i64 ixx],v] w fun en w'=>en=.returned (.int .i64 (if 16<=ks.length/\qf≠qt then 11 else 0))/\DidF s i p B objs tg w w' g lim:=by
 have hS:=h.st.sound;obtain⟨q1,q2,q3⟩:=ok_kids hS (ok_at hS _ hok ha).2.1 hk;have hr1:RisingK (ks.map entOf):=by rw[map_ent];exact mapK_rising _ q1
 have hl1:(ks.map entOf).length<=16:=by rw[List.length_map];exact q2
 have hth:thereK (ks.map entOf) nt=false:=by rw[there_ent,<-pick_there q1,hp];rfl
 have hsea:=fun W2 (hb:Below w.heap.size w W2)=>search_any (hs.below hb).1 nt hr1 hl1;rw[hth] at hsea;obtain⟨la,cp,rfl⟩:=hs.len;rw[List.length_map] at hsea hl1 ⊢;generalize idxK (ks.map entOf) nt=ix at hsea;have hname:=fun W=>name_any (qt ++ [nt]) hq (by simp) W;simp only[List.getLast_concat] at hname;have hpt:=fun W=>parent_any (qt ++ [nt]) hq W;have hpf:=fun W=>parent_any (qf ++ [nf]) hf W;have hGq:Good qt:=by have:=hq.dropLast;rwa [List.dropLast_concat] at this
 have hGf:Good qf:=by have:=hf.dropLast;rwa [List.dropLast_concat] at this
 have heq:=fun W=>run_eqP hGf hGq W;rw[List.dropLast_concat] at hpt hpf;obtain⟨s0,s1,s2,s3,s4,hP⟩:∃s0 s1 s2 s3 s4,pathA (qt ++ [nt]) = #[.string s0,.string s1,.string s2,.string s3,.string s4]:=⟨_,_,_,_,_,rfl⟩;obtain⟨r0,r1,r2,r3,r4,hP'⟩:∃s0 s1 s2 s3 s4,pathA (qf ++ [nf]) = #[.string s0,.string s1,.string s2,.string s3,.string s4]:=⟨_,_,_,_,_,rfl⟩;obtain⟨t0,t1,t2,t3,t4,hP2⟩:∃s0 s1 s2 s3 s4,pathA qt = #[.string s0,.string s1,.string s2,.string s3,.string s4]:=⟨_,_,_,_,_,rfl⟩;obtain⟨f0,f1,f2,f3,f4,hP3⟩:∃s0 s1 s2 s3 s4,pathA qf = #[.string s0,.string s1,.string s2,.string s3,.string s4]:=⟨_,_,_,_,_,rfl⟩;have heq':∀W,(Op.equalIn 10000 147 (pathV qf) (pathV qt)).run prog W=.ok (decide (qf=qt)) W:=heq;unfold pathV at hname hpt hpf heq';simp only[hP,hP',hP2,hP3] at hname hpt hpf heq';rw[hP,hP'];have HSEA:Hid _:=hsea;have H0:Hid _:=h;clear h hsea hP hP' hP2 hP3 hF hok ha hk hp hs hS q1 q2 q3 hr1 hth heq;by_cases h16:16<=ks.length
 ·have h16':(16:Int)<=(ks.length:Int):=by omega
  by_cases hqq:qf=qt
  ·rw[zzB (fun h=>h.2 hqq)]
   rw[decide_eq_true hqq] at heq';clear h16;go_enter func141,ntmps141;go_wp2_with (first
    | (go_at_call 134;refine (hname _).mono ?_;rintro e w1 ⟨rfl,hb1⟩;have hz1:=three_size hb1;have k1:=three_old hb1 (w.heap.size+1);have k0:=three_old hb1 w.heap.size;have b1:=three_below hb1)
    | (go_at_call 133;go_loud (refine (HSEA.out _ b1).mono ?_;rintro e w2 ⟨rfl,hb2⟩;have b2:=below_via b1 hb2;have k3:=fun o=>(bcell hb2).1 (w.heap.size+1) o (Nat.lt_of_succ_lt hz1);have k4:=fun o=>(bcell hb2).1 w.heap.size o (Nat.lt_of_succ_lt (Nat.lt_of_succ_lt hz1));have hz3:w.heap.size+1<w2.heap.size:=zzA (Nat.lt_of_succ_lt hz1) hb2.size;have hz4:w.heap.size<w2.heap.size:=Nat.lt_of_succ_lt hz3;replace b2:=below_drew b2)))
   go_region_with (first
    | (go_at_call_of 132 (Value.agg #[.string s0,.string s1,.string s2,.string s3,.string s4]);refine (hpt _).mono ?_;rintro e w3 ⟨rfl,hb3⟩;replace b2:=below_via b2 hb3;have k5:=fun o=>(bcell hb3).1 (w.heap.size+1) o hz3;have k6:=fun o=>(bcell hb3).1 w.heap.size o hz4;replace hz3:=zzA hz3 hb3.size;replace hz4:=zzA hz4 hb3.size)
    | (go_at_call_of 132 (Value.agg #[.string r0,.string r1,.string r2,.string r3,.string r4]);refine (hpf _).mono ?_;rintro e w3 ⟨rfl,hb3⟩;replace b2:=below_via b2 hb3;have k5:=fun o=>(bcell hb3).1 (w.heap.size+1) o hz3;have k6:=fun o=>(bcell hb3).1 w.heap.size o hz4;replace hz3:=zzA hz3 hb3.size;replace hz4:=zzA hz4 hb3.size))
   all_goals
    go_wp2;go_ret;exact⟨rfl,didF_same H0.out b2⟩
  ·rw[zzD ⟨h16,hqq⟩]
   rw[zzE hqq] at heq';clear h16;go_enter func141,ntmps141;go_wp2_with (first
    | (go_at_call 134;refine (hname _).mono ?_;rintro e w1 ⟨rfl,hb1⟩;have hz1:=three_size hb1;have k1:=three_old hb1 (w.heap.size+1);have k0:=three_old hb1 w.heap.size;have b1:=three_below hb1)
    | (go_at_call 133;go_loud (refine (HSEA.out _ b1).mono ?_;rintro e w2 ⟨rfl,hb2⟩;have b2:=below_via b1 hb2;have k3:=fun o=>(bcell hb2).1 (w.heap.size+1) o (Nat.lt_of_succ_lt hz1);have k4:=fun o=>(bcell hb2).1 w.heap.size o (Nat.lt_of_succ_lt (Nat.lt_of_succ_lt hz1));have hz3:w.heap.size+1<w2.heap.size:=zzA (Nat.lt_of_succ_lt hz1) hb2.size;have hz4:w.heap.size<w2.heap.size:=Nat.lt_of_succ_lt hz3;replace b2:=below_drew b2)))
   go_region_with (first
    | (go_at_call_of 132 (Value.agg #[.string s0,.string s1,.string s2,.string s3,.string s4]);refine (hpt _).mono ?_;rintro e w3 ⟨rfl,hb3⟩;replace b2:=below_via b2 hb3;have k5:=fun o=>(bcell hb3).1 (w.heap.size+1) o hz3;have k6:=fun o=>(bcell hb3).1 w.heap.size o hz4;replace hz3:=zzA hz3 hb3.size;replace hz4:=zzA hz4 hb3.size)
    | (go_at_call_of 132 (Value.agg #[.string r0,.string r1,.string r2,.string r3,.string r4]);refine (hpf _).mono ?_;rintro e w3 ⟨rfl,hb3⟩;replace b2:=below_via b2 hb3;have k5:=fun o=>(bcell hb3).1 (w.heap.size+1) o hz3;have k6:=fun o=>(bcell hb3).1 w.heap.size o hz4;replace hz3:=zzA hz3 hb3.size;replace hz4:=zzA hz4 hb3.size))
   all_goals
    go_wp2;go_ret;exact⟨rfl,didF_same H0.out b2⟩
 ·have h16':decide ((16:Int)<=(ks.length:Int))=false:=zzE (by omega)
  rw[zzB (fun h=>h16 h.1)];clear heq';go_enter func141,ntmps141;go_wp2_with (first
   | (go_at_call 134;refine (hname _).mono ?_;rintro e w1 ⟨rfl,hb1⟩;have hz1:=three_size hb1;have k1:=three_old hb1 (w.heap.size+1);have b1:=three_below hb1)
   | (go_at_call 133;go_loud (refine (HSEA.out _ b1).mono ?_;rintro e w2 ⟨rfl,hb2⟩;have b2:=below_via b1 hb2)))
  go_region
  all_goals
   go_wp2;go_ret;exact⟨rfl,didF_same H0.out (below_drew b2)⟩
end
theorem size_del {D:DataW Value}{kl:Lit}(h:Maps.has D kl=true):Maps.size (D.del kl)<Maps.size D:=by
 cases D with
 | map es=>
  rw[Maps.has_eq,List.any_eq_true] at h;obtain⟨x,hx,hs⟩:=h;rw[DataW.del_eq];show (es.filter _).length<es.length;refine List.length_filter_lt_length_iff_exists.2 ⟨x,hx,?_⟩;unfold ChangeMaps.notKey;rw[hs];simp
 | _=>cases h
theorem owns_exact {w:World}{k:TypeId}{b n m:Nat}{D:DataW Value}(h:w.ownsMap prog k heldElem b n D)(hm:Maps.size D<=m):w.ownsMap prog k heldElem b m D:=by
 obtain⟨es,clock,hb,F,hs,rfl⟩:=h;exact⟨es,clock,hb,F,by simpa [Maps.size,length_sorted] using hm,rfl⟩
theorem VMap.drop1 {w:World}{k:TypeId}{b n:Nat}{M:Lit->Option Value}(h:VMap w k b (n+1) M)(K:Maps.Keyed prog k){t e:TypeId}(ht:prog.underlying t=some (.map k e))
  {key:Value}{kl:Lit}(hkey:keyOf prog k key=some kl)(hM1:(M kl).isSome=true)(ty:TypeId):
  ∃w',(Builtin.delete_ #[t,k] ty #[.map (some b),key]).run prog w=.ok (.tuple #[]) w'/\VMap w' k b n (mset M kl none)/\w.grownBy w' (some b)/\w'.heap.size=w.heap.size:=by
 obtain⟨D,hD,hM⟩:=h;obtain⟨w',hrun,hD',hg⟩:=hD.drop K ht hkey ty;have h1:=size_del (D:=D) (kl:=kl) (by rw[vmap_has (hM kl (K.key hkey))];exact hM1);have h2:=hD.size_le;refine⟨w',hrun,⟨_,owns_exact hD' (by omega),vmap_del hM kl⟩,hg.grown,?_⟩;obtain⟨es,clock,es',clock',hb,rfl⟩:=hg;simp[ChangeMaps.setBlock]
theorem PMap.drop1 {w:World}{b n:Nat}{f:List ByteArray->Option Value}(h:PMap w b (n+1) f){t e:TypeId}(ht:prog.underlying t=some (.map 147 e)){q:List ByteArray}(hq:Good q)(hf:(f q).isSome=true)(ty:TypeId):
  ∃w',(Builtin.delete_ #[t,147] ty #[.map (some b),.agg (pathA q)]).run prog w=.ok (.tuple #[]) w'/\PMap w' b n (upd f q none)/\w.grownBy w' (some b)/\w'.heap.size=w.heap.size:=by
 obtain⟨M,hV,h1,h2⟩:=h;obtain⟨w',hrun,hV',hg,hs⟩:=hV.drop1 lawP ht (keyVP hq) (by rw[h1 q hq];exact hf) ty;refine⟨w',hrun,⟨_,hV',fun x hx=>?_,fun kl hk hne=>?_⟩,hg,hs⟩
 ·by_cases e:x=q
  ·subst e;rw[mset_same,upd_same]
  ·rw[mset_other (fun e'=>e (keyP_inj hx hq e')),upd_other e,h1 x hx]
 ·by_cases e:kl=keyP prog q
  ·rw[e,mset_same] at hne;exact absurd rfl hne
  ·rw[mset_other e] at hne;exact h2 kl hk hne
theorem PMap.look {w:World}{b n:Nat}{f:List ByteArray->Option Value}(h:PMap w b n f){t e:TypeId}(ht:prog.underlying t=some (.map 147 e)){z:Value}(hz:(zeroValue e).run prog w=.ok z w){q:List ByteArray}(hq:Good q):
  (Instr.lookup t (.map (some b)) (.agg (pathA q)) false).run prog w=.ok ((f q).getD z) w:=by
 obtain⟨M,hV,h1,_⟩:=h
 have:=hV.look lawP ht hz (keyVP hq)
 rw[h1 q hq] at this;exact this
section
open Classical
variable {β:Type}
def movedP (src dst p:List ByteArray):List ByteArray:=dst++p.drop src.length
noncomputable def carried (f:List ByteArray->Option β)(src dst:List ByteArray)(L:List (List ByteArray)):List ByteArray->Option β:=fun x=>
 if dst <+: x/\src++x.drop dst.length ∈ L then f (src++x.drop dst.length) else if x ∈ L then none else f x
theorem carried_nil (f:List ByteArray->Option β)(src dst:List ByteArray)(x:List ByteArray):carried f src dst [] x=f x:=by
 unfold carried;simp
theorem pre_drop {src p:List ByteArray}(h:src <+: p):src++p.drop src.length=p:=by
 obtain⟨r,rfl⟩:=h;rw[List.drop_left]
theorem carried_step {f:List ByteArray->Option β}{src dst:List ByteArray}{L:List (List ByteArray)}{p:List ByteArray}(hdst:∀x,dst <+: x->f x=none)(hL:∀x ∈ L,src <+: x/\f x≠none)(hp:src <+: p)(hf:f p≠none)(hn:p ∉ L):
  carried f src dst L p=f p/\∀x,upd (upd (carried f src dst L) (movedP src dst p) (f p)) p none x=carried f src dst (L ++ [p]) x:=by
 have hdp:¬dst <+: p:=fun h=>hf (hdst p h);refine⟨by unfold carried;rw[zzB (fun h=>hdp h.1),zzB hn],fun x=>?_⟩;by_cases hx:x=p
 ·subst hx
  rw[upd_same];unfold carried;rw[zzB (fun h=>hdp h.1),zzD (by simp)]
 ·rw[upd_other hx]
  by_cases hm:x=movedP src dst p
  ·subst hm
   rw[upd_same];unfold carried movedP;rw[List.drop_left,pre_drop hp,zzD ⟨List.prefix_append _ _,by simp⟩]
  ·rw[upd_other hm]
   unfold carried;by_cases hd:dst <+: x
   ·have hne:src++x.drop dst.length≠p:=fun e=>hm (by
     unfold movedP;rw[<-e,List.drop_left,pre_drop hd])
    have e1:(dst <+: x/\src++x.drop dst.length ∈ L)↔(dst <+: x/\src++x.drop dst.length ∈ L ++ [p]):=(by simp[hne]);have e2:(x ∈ L)↔(x ∈ L ++ [p]):=by simp[hx]
    simp only[e1,e2]
   ·have e2:(x ∈ L)↔(x ∈ L ++ [p]):=by simp[hx]
    simp only[hd,false_and,if_false,e2]
theorem carried_all {f:List ByteArray->Option β}{src dst:List ByteArray}{L:List (List ByteArray)}(hdst:∀x,dst <+: x->f x=none)(hL:∀x,x ∈ L↔(src <+: x/\f x≠none))(x:List ByteArray):carried f src dst L x=carryG f src dst x:=by
 unfold carried carryG;by_cases hd:dst <+: x
 ·rw[zzD hd]
  by_cases hm:src++x.drop dst.length ∈ L
  ·rw[zzD ⟨hd,hm⟩]
  ·rw[zzB (fun h=>hm h.2)]
   have h0:f (src++x.drop dst.length)=none:=by
    cases he:f (src++x.drop dst.length) with
    | none=>rfl
    | some y=>exact absurd ((hL _).2 ⟨List.prefix_append _ _,by rw[he];simp⟩) hm
   rw[h0];split
   ·rfl
   ·exact hdst x hd
 ·rw[zzB hd,zzB (fun h=>hd h.1)]
  by_cases hs:src <+: x
  ·rw[zzD hs]
   by_cases hm:x ∈ L
   ·rw[zzD hm]
   ·rw[zzB hm]
    cases he:f x with
    | none=>rfl
    | some y=>exact absurd ((hL _).2 ⟨hs,by rw[he];simp⟩) hm
  ·rw[zzB hs,zzB (fun h=>hs ((hL _).1 h).1)]
end
def Gathered (f:List ByteArray->Option Value)(src:List ByteArray)(left:Lit->Bool)(L:List (List ByteArray)):Prop:=
 L.Nodup/\∀x,x ∈ L↔(Good x/\src <+: x/\f x≠none/\left (keyP prog x)=false)
theorem gathered_skip {f:List ByteArray->Option Value}{src:List ByteArray}{left:Lit->Bool}{L:List (List ByteArray)}(h:Gathered f src left L){q:List ByteArray}(hq:Good q)(hs:¬src <+: q):Gathered f src (fun z=>left z && !z.sameKey (keyP prog q)) L:=by
 refine⟨h.1,fun x=>?_⟩;rw[h.2 x];refine⟨fun⟨a,b,c,d⟩=>⟨a,b,c,by simp only[d,Bool.false_and]⟩,fun⟨a,b,c,d⟩=>⟨a,b,c,?_⟩⟩;have hne:keyP prog x≠keyP prog q:=fun e=>hs (by rw[<-keyP_inj a hq e];exact b);simp only[Maps.sameKey_ne hne,Bool.not_false,Bool.and_true] at d;exact d
theorem gathered_add {f:List ByteArray->Option Value}{src:List ByteArray}{left:Lit->Bool}{L:List (List ByteArray)}(h:Gathered f src left L){q:List ByteArray}(hq:Good q)(hs:src <+: q)(hf:f q≠none)(hl:left (keyP prog q)=true):Gathered f src (fun z=>left z && !z.sameKey (keyP prog q)) (L ++ [q]):=by
 refine⟨List.nodup_append.2 ⟨h.1,by simp,fun a ha b hb=>?_⟩,fun x=>?_⟩
 ·simp only[List.mem_singleton] at hb
  subst hb;rintro rfl
  have:=((h.2 a).1 ha).2.2.2
  rw[hl] at this;cases this
 ·simp only[List.mem_append,List.mem_singleton]
  by_cases e:x=q
  ·subst e
   refine⟨fun _=>⟨hq,hs,hf,?_⟩,fun _=>.inr rfl⟩;have hk:=WideAt.sameKey_self (keyP_is hq);generalize keyP prog x=kx at hk hl;show (left kx && !kx.sameKey kx)=false;rw[hk,Bool.not_true,Bool.and_false]
  ·rw[h.2 x]
   refine⟨fun hh=>?_,fun⟨a,b,c,d⟩=>.inl ⟨a,b,c,?_⟩⟩
   ·rcases hh with ⟨a,b,c,d⟩ | hh
    ·exact⟨a,b,c,by simp only[d,Bool.false_and]⟩
    ·exact absurd hh e
   ·have hne:keyP prog x≠keyP prog q:=fun e'=>e (keyP_inj a hq e')
    simp only[Maps.sameKey_ne hne,Bool.not_false,Bool.and_true] at d;exact d
theorem child_0 (s0 s1 s2 s3 s4 x:ByteArray)(w:World)
  (hd:∀W,Calls prog 142 #[.agg #[.string s0,.string s1,.string s2,.string s3,.string s4]] W fun e w'=>e=.returned (.int .i64 0)/\Below W.heap.size W w'):
  Calls prog 196 #[.agg #[.string s0,.string s1,.string s2,.string s3,.string s4],.string x] w fun e w'=>e=.returned (.agg #[.string x,.string s1,.string s2,.string s3,.string s4])/\Below w.heap.size w w':=by
 go_enter func196,ntmps196;go_wp2_with (go_at_call 142;refine (hd _).mono ?_;rintro e w1 ⟨rfl,hb1⟩;have hz:=two_size0 hb1;obtain⟨hz0,hz1⟩:=hz;have k1:=fun o=>(bcell hb1).1 w.heap.size o (by simp;omega);have f1:=fun o=>(bcell hb1).2 w.heap.size o (by simp;omega);have k2:=fun o=>(bcell hb1).1 (w.heap.size+1) o (by simp);have f2:=fun o=>(bcell hb1).2 (w.heap.size+1) o (by simp));exact bodyPost_ret (v:=.agg #[.string x,.string s1,.string s2,.string s3,.string s4]) (by simp[results,results196,go_sem,k2]) rfl ⟨rfl,by
   have h1:Below w.heap.size w w1:=below_via (((Below.refl _ _).alloc (zzC _) _).alloc (by simp) _) hb1
   repeat (refine Below.setCell ?_ (by simp) _)
   exact h1⟩
theorem child_1 (s0 s1 s2 s3 s4 x:ByteArray)(w:World)
  (hd:∀W,Calls prog 142 #[.agg #[.string s0,.string s1,.string s2,.string s3,.string s4]] W fun e w'=>e=.returned (.int .i64 1)/\Below W.heap.size W w'):
  Calls prog 196 #[.agg #[.string s0,.string s1,.string s2,.string s3,.string s4],.string x] w fun e w'=>e=.returned (.agg #[.string s0,.string x,.string s2,.string s3,.string s4])/\Below w.heap.size w w':=by
 go_enter func196,ntmps196;go_wp2_with (go_at_call 142;refine (hd _).mono ?_;rintro e w1 ⟨rfl,hb1⟩;have hz:=two_size0 hb1;obtain⟨hz0,hz1⟩:=hz;have k1:=fun o=>(bcell hb1).1 w.heap.size o (by simp;omega);have f1:=fun o=>(bcell hb1).2 w.heap.size o (by simp;omega);have k2:=fun o=>(bcell hb1).1 (w.heap.size+1) o (by simp);have f2:=fun o=>(bcell hb1).2 (w.heap.size+1) o (by simp));exact bodyPost_ret (v:=.agg #[.string s0,.string x,.string s2,.string s3,.string s4]) (by simp[results,results196,go_sem,k2]) rfl ⟨rfl,by
   have h1:Below w.heap.size w w1:=below_via (((Below.refl _ _).alloc (zzC _) _).alloc (by simp) _) hb1
   repeat (refine Below.setCell ?_ (by simp) _)
   exact h1⟩
theorem child_2 (s0 s1 s2 s3 s4 x:ByteArray)(w:World)
  (hd:∀W,Calls prog 142 #[.agg #[.string s0,.string s1,.string s2,.string s3,.string s4]] W fun e w'=>e=.returned (.int .i64 2)/\Below W.heap.size W w'):
  Calls prog 196 #[.agg #[.string s0,.string s1,.string s2,.string s3,.string s4],.string x] w fun e w'=>e=.returned (.agg #[.string s0,.string s1,.string x,.string s3,.string s4])/\Below w.heap.size w w':=by
 go_enter func196,ntmps196;go_wp2_with (go_at_call 142;refine (hd _).mono ?_;rintro e w1 ⟨rfl,hb1⟩;have hz:=two_size0 hb1;obtain⟨hz0,hz1⟩:=hz;have k1:=fun o=>(bcell hb1).1 w.heap.size o (by simp;omega);have f1:=fun o=>(bcell hb1).2 w.heap.size o (by simp;omega);have k2:=fun o=>(bcell hb1).1 (w.heap.size+1) o (by simp);have f2:=fun o=>(bcell hb1).2 (w.heap.size+1) o (by simp));exact bodyPost_ret (v:=.agg #[.string s0,.string s1,.string x,.string s3,.string s4]) (by simp[results,results196,go_sem,k2]) rfl ⟨rfl,by
   have h1:Below w.heap.size w w1:=below_via (((Below.refl _ _).alloc (zzC _) _).alloc (by simp) _) hb1
   repeat (refine Below.setCell ?_ (by simp) _)
   exact h1⟩
theorem child_3 (s0 s1 s2 s3 s4 x:ByteArray)(w:World)
  (hd:∀W,Calls prog 142 #[.agg #[.string s0,.string s1,.string s2,.string s3,.string s4]] W fun e w'=>e=.returned (.int .i64 3)/\Below W.heap.size W w'):
  Calls prog 196 #[.agg #[.string s0,.string s1,.string s2,.string s3,.string s4],.string x] w fun e w'=>e=.returned (.agg #[.string s0,.string s1,.string s2,.string x,.string s4])/\Below w.heap.size w w':=by
 go_enter func196,ntmps196;go_wp2_with (go_at_call 142;refine (hd _).mono ?_;rintro e w1 ⟨rfl,hb1⟩;have hz:=two_size0 hb1;obtain⟨hz0,hz1⟩:=hz;have k1:=fun o=>(bcell hb1).1 w.heap.size o (by simp;omega);have f1:=fun o=>(bcell hb1).2 w.heap.size o (by simp;omega);have k2:=fun o=>(bcell hb1).1 (w.heap.size+1) o (by simp);have f2:=fun o=>(bcell hb1).2 (w.heap.size+1) o (by simp));exact bodyPost_ret (v:=.agg #[.string s0,.string s1,.string s2,.string x,.string s4]) (by simp[results,results196,go_sem,k2]) rfl ⟨rfl,by
   have h1:Below w.heap.size w w1:=below_via (((Below.refl _ _).alloc (zzC _) _).alloc (by simp) _) hb1
   repeat (refine Below.setCell ?_ (by simp) _)
   exact h1⟩
theorem child_4 (s0 s1 s2 s3 s4 x:ByteArray)(w:World)
  (hd:∀W,Calls prog 142 #[.agg #[.string s0,.string s1,.string s2,.string s3,.string s4]] W fun e w'=>e=.returned (.int .i64 4)/\Below W.heap.size W w'):
  Calls prog 196 #[.agg #[.string s0,.string s1,.string s2,.string s3,.string s4],.string x] w fun e w'=>e=.returned (.agg #[.string s0,.string s1,.string s2,.string s3,.string x])/\Below w.heap.size w w':=by
 go_enter func196,ntmps196;go_wp2_with (go_at_call 142;refine (hd _).mono ?_;rintro e w1 ⟨rfl,hb1⟩;have hz:=two_size0 hb1;obtain⟨hz0,hz1⟩:=hz;have k1:=fun o=>(bcell hb1).1 w.heap.size o (by simp;omega);have f1:=fun o=>(bcell hb1).2 w.heap.size o (by simp;omega);have k2:=fun o=>(bcell hb1).1 (w.heap.size+1) o (by simp);have f2:=fun o=>(bcell hb1).2 (w.heap.size+1) o (by simp));exact bodyPost_ret (v:=.agg #[.string s0,.string s1,.string s2,.string s3,.string x]) (by simp[results,results196,go_sem,k2]) rfl ⟨rfl,by
   have h1:Below w.heap.size w w1:=below_via (((Below.refl _ _).alloc (zzC _) _).alloc (by simp) _) hb1
   repeat (refine Below.setCell ?_ (by simp) _)
   exact h1⟩
theorem child_any (l:List ByteArray)(hg:Good l)(h4:l.length<=4)(x:ByteArray)(w:World):Calls prog 196 #[pathV l,.string x] w fun e w'=>e=.returned (pathV (l ++ [x]))/\Below w.heap.size w w':=by
 have hd:=fun W=>depth_any l hg.val hg.len W
 match l,h4,hd with
 | [],_,hd=>exact child_0 _ _ _ _ _ x w hd
 | [a],_,hd=>exact child_1 _ _ _ _ _ x w hd
 | [a,b],_,hd=>exact child_2 _ _ _ _ _ x w hd
 | [a,b,c],_,hd=>exact child_3 _ _ _ _ _ x w hd
 | [a,b,c,d],_,hd=>exact child_4 _ _ _ _ _ x w hd
theorem pathA_get (l:List ByteArray)(j:Nat):(pathA l).toList[j]? = if j<5 then some (.string (l.getD j ⟨#[]⟩)) else none:=by
 by_cases h:j<5
 ·rw[zzD h]
  rcases (show j=0\/j=1\/j=2\/j=3\/j=4 by omega) with rfl | rfl | rfl | rfl | rfl <;> rfl
 ·rw[zzB h];exact List.getElem?_eq_none (by show 5<=j;omega)
def movedCells (p:List ByteArray)(f d:Nat):List Value:=((pathA p).toList.drop f).take (Nat.min (5-f) (5-d))
theorem moved_len (p:List ByteArray)(f d:Nat):(movedCells p f d).length=Nat.min (5-f) (5-d):=by
 have:(pathA p).toList.length=5:=rfl
 unfold movedCells;rw[List.length_take,List.length_drop,this];exact Nat.min_eq_left (Nat.min_le_left _ _)
theorem moved_row {src dst r:List ByteArray}(hs:src.length+r.length<=5)(hd:dst.length+r.length<=5):
  (pathA dst).toList.take dst.length++movedCells (src++r) src.length dst.length++(pathA dst).toList.drop (dst.length+(movedCells (src++r) src.length dst.length).length)=(pathA (dst++r)).toList:=by
 have hl:(pathA dst).toList.length=5:=rfl;have hk:=moved_len (src++r) src.length dst.length;generalize hkk:Nat.min (5-src.length) (5-dst.length)=k at hk;have hk1:k<=5-dst.length:=by rw[<-hkk];exact Nat.min_le_right _ _
 have hk2:r.length<=k:=by rw[<-hkk];exact Nat.le_min.2 ⟨by omega,by omega⟩
 have hk3:k<=5-src.length:=by rw[<-hkk];exact Nat.min_le_left _ _
 refine List.ext_getElem? fun j=>?_;rw[pathA_get];by_cases h1:j<dst.length
 ·rw[List.getElem?_append_left (by rw[List.length_append,List.length_take,hl];omega),List.getElem?_append_left (by rw[List.length_take,hl];omega),List.getElem?_take_of_lt h1,pathA_get,zzD (by omega),zzD (by omega)]
  rw[List.getD_eq_getElem?_getD,List.getD_eq_getElem?_getD,List.getElem?_append_left h1]
 ·by_cases h2:j<dst.length+k
  ·rw[List.getElem?_append_left (by rw[List.length_append,List.length_take,hl,hk];omega),List.getElem?_append_right (by rw[List.length_take,hl];omega),List.length_take,hl,Nat.min_eq_left (by omega)]
   unfold movedCells;rw[hkk,List.getElem?_take_of_lt (by omega),List.getElem?_drop,pathA_get,zzD (by omega),zzD (by omega)];rw[List.getD_eq_getElem?_getD,List.getD_eq_getElem?_getD,List.getElem?_append_right (by omega),List.getElem?_append_right (by omega)]
   congr 3
   congr 1
   omega
  ·rw[List.getElem?_append_right (by rw[List.length_append,List.length_take,hl,hk];omega),List.length_append,List.length_take,hl,hk,List.getElem?_drop,pathA_get,Nat.min_eq_left (by omega)]
   rw[show dst.length+k+(j-(dst.length+k))=j by omega];by_cases h3:j<5
   ·rw[zzD h3,zzD h3,List.getD_eq_getElem?_getD,List.getD_eq_getElem?_getD,List.getElem?_eq_none (by omega),List.getElem?_eq_none (by rw[List.length_append];omega)]
   ·rw[zzB h3,zzB h3]
def offP (d:Nat):Nat:=if d=5 then 0 else d
theorem slP (b d:Nat)(hd:d<=5)(W:World):(Instr.sliceAt 147 (.pointer (some ⟨b,0,none⟩)) (some (.int .i64 (d:Int))) none none).run prog W=.ok (.slice (some ⟨b,offP d,none⟩) (5-d) (5-d)) W:=by
 rcases (show d=0\/d=1\/d=2\/d=3\/d=4\/d=5 by omega) with rfl | rfl | rfl | rfl | rfl | rfl <;> kernel_rfl
theorem moved_off {src dst r:List ByteArray}(hs:src.length+r.length<=5)(hd:dst.length+r.length<=5):
  (pathA dst).toList.take (offP dst.length)++movedCells (src++r) src.length dst.length++(pathA dst).toList.drop (offP dst.length+(movedCells (src++r) src.length dst.length).length)=(pathA (dst++r)).toList:=by
 unfold offP;by_cases h:dst.length=5
 ·have hr:r = []:=List.length_eq_zero_iff.1 (by omega)
  have h0:movedCells (src++r) src.length dst.length = []:=List.length_eq_zero_iff.1 (by rw[moved_len,h];exact Nat.le_zero.1 (Nat.min_le_right _ _));rw[h0,zzD h,hr];simp
 ·rw[zzB h];exact moved_row hs hd
def four (w:World)(p src dst:List ByteArray):World:=(((w.alloc (.cells (pathA p) 147)).alloc (.cells (pathA src) 147)).alloc (.cells (pathA dst) 147)).alloc (.cells (pathA []) 147)
theorem four_size (w:World)(p src dst:List ByteArray):(four w p src dst).heap.size=w.heap.size+4:=by unfold four;simp only[World.size_alloc]
theorem four_below (w:World)(p src dst:List ByteArray):Below w.heap.size w (four w p src dst):=by
 unfold four;exact ((((Below.refl w.heap.size w).alloc (zzC _) _).alloc (by simp) _).alloc (by simp;omega) _).alloc (by simp;omega) _
theorem four_at (w:World)(p src dst:List ByteArray):(four w p src dst).heap[w.heap.size]? = some (.cells (pathA p) 147 (0,0))/\(four w p src dst).heap[w.heap.size+2]? = some (.cells (pathA dst) 147 (0,0))/\(four w p src dst).heap[w.heap.size+3]? = some (.cells (pathA []) 147 (0,0)):=by
 unfold four World.alloc;refine⟨?_,?_,?_⟩
 ·rw[Array.getElem?_push_lt (by simp;omega),Array.getElem_push_lt (by simp;omega),Array.getElem_push_lt (by simp),Array.getElem_push_eq]
 ·rw[Array.getElem?_push_lt (by simp),Array.getElem_push,dif_neg (by simp)]
 ·rw[Array.getElem?_push,zzD (by simp)]
theorem copy_moved {w W:World}{src dst r:List ByteArray}(hs:src.length+r.length<=5)(hd:dst.length+r.length<=5)(hb:Below (four w (src++r) src dst).heap.size (four w (src++r) src dst) W):
  ∃w3,(∀ty,(Builtin.copy_ #[131,131] ty #[.slice (some ⟨w.heap.size+2,offP dst.length,none⟩) (5-dst.length) (5-dst.length),.slice (some ⟨w.heap.size,offP src.length,none⟩) (5-src.length) (5-src.length)]).run prog W=.ok (goInt (Nat.min (5-src.length) (5-dst.length))) w3)/\Below w.heap.size w w3/\w.heap.size+3<w3.heap.size/\
   w3.heap[w.heap.size+2]? = some (.cells (pathA (dst++r)) 147 (0,0))/\w3.heap[w.heap.size+3]? = some (.cells (pathA []) 147 (0,0)):=by
 have hz:=four_size w (src++r) src dst;obtain⟨h0,h2,h3⟩:=four_at w (src++r) src dst;have g0:W.heap[w.heap.size]? = _:=(hb.block _ (by omega)).trans h0;have g2:W.heap[w.heap.size+2]? = _:=(hb.block _ (by omega)).trans h2;have g3:W.heap[w.heap.size+3]? = _:=(hb.block _ (by omega)).trans h3;have hk:=moved_len (src++r) src.length dst.length;have hrow:=moved_off hs hd;have hsz5:(pathA dst).size=5:=rfl;have hfit:offP dst.length+(movedCells (src++r) src.length dst.length).length<=(pathA dst).size:=by
  rw[hk,hsz5];have h1:Nat.min (5-src.length) (5-dst.length)<=5-dst.length:=Nat.min_le_right _ _;unfold offP;split <;> omega
 have hone:∀v ∈ movedCells (src++r) src.length dst.length,v.oneCell'=true:=fun v hv=>by
  unfold movedCells at hv
  have:=List.mem_of_mem_drop (List.mem_of_mem_take hv)
  simp only[pathA,List.mem_cons,List.not_mem_nil,or_false] at this;rcases this with rfl | rfl | rfl | rfl | rfl <;> rfl
 have hsrc:∀j v,(movedCells (src++r) src.length dst.length)[j]? = some v->W.cell? ((⟨w.heap.size,offP src.length,none⟩:Addr).add j)=some v:=fun j v hv=>by
  have hj:j<Nat.min (5-src.length) (5-dst.length):=by rw[<-hk];exact (List.getElem?_eq_some_iff.1 hv).1
  have hj5:j<5-src.length:=zzA hj (Nat.min_le_left _ _);unfold movedCells at hv;rw[List.getElem?_take_of_lt hj,List.getElem?_drop] at hv;have ho:offP src.length=src.length:=zzB (by omega);rw[ho];have hadd:(⟨w.heap.size,src.length,none⟩:Addr).add j=⟨w.heap.size,src.length+j,none⟩:=by
   unfold Addr.add;by_cases h0:j=0
   ·subst h0;rfl
   ·rw[zzB h0]
  rw[hadd];simp only[World.cell?,g0];rw[Array.getElem?_toList] at hv;exact hv
 have hrun:=fun ty=>run_copyK (P:=prog) W 131 131 ty 9 1 (w.heap.size+2) (offP dst.length) (5-dst.length) (5-dst.length) ⟨w.heap.size,offP src.length,none⟩ (5-src.length) (5-src.length) (pathA dst) 147 (movedCells (src++r) src.length dst.length) underlying131 (by kernel_rfl) g2 (by rw[hk,Nat.mul_one]) hsrc hfit hone;rw[hrow] at hrun;refine⟨_,hrun,?_,?_,?_,?_⟩
 ·exact below_setRow ((four_below w (src++r) src dst).trans (hb.mono (by omega))) (by omega) _
 ·rw[size_setRow]
  have:=hb.size
  omega
 ·exact setRow_heap W _ _ _ _ _ g2
 ·rw[setRow_other _ _ _ _ (by omega)];exact g3
theorem cells5 {w:World}{b:Nat}{s0 s1 s2 s3 s4:Value}{t:TypeId}(h:w.heap[b]? = some (.cells #[s0,s1,s2,s3,s4] t (0,0))):b<w.heap.size/\w.cell? ⟨b,0,none⟩=some s0/\w.cell? ⟨b,1,none⟩=some s1/\w.cell? ⟨b,2,none⟩=some s2/\w.cell? ⟨b,3,none⟩=some s3/\w.cell? ⟨b,4,none⟩=some s4/\(∀o,w.frozen? ⟨b,o,none⟩=false):=
 ⟨(Array.getElem?_eq_some_iff.1 h).1,by simp[World.cell?,h],by simp[World.cell?,h],by simp[World.cell?,h],by simp[World.cell?,h],by simp[World.cell?,h],fun o=>by simp[World.frozen?,h]⟩
theorem moved_any (src dst r:List ByteArray)(hS:Good src)(hD:Good dst)(hs:src.length+r.length<=5)(hd:dst.length+r.length<=5)(w:World):
  Calls prog 197 #[pathV (src++r),pathV src,pathV dst] w fun e w'=>e=.returned (pathV (dst++r))/\Below w.heap.size w w':=by
 have hdd:=fun W=>depth_any dst hD.val hD.len W;have hds:=fun W=>depth_any src hS.val hS.len W;have hcp:=fun W=>copy_moved (w:=w) (W:=W) hs hd;have sl1:=fun W=>slP (w.heap.size+2) dst.length hD.len W;have sl2:=fun W=>slP w.heap.size src.length hS.len W;have hz4:=four_size w (src++r) src dst;have hfa:=four_at w (src++r) src dst;unfold four at hcp hz4 hfa;obtain⟨p0,p1,p2,p3,p4,hP⟩:∃s0 s1 s2 s3 s4,pathA (src++r) = #[.string s0,.string s1,.string s2,.string s3,.string s4]:=⟨_,_,_,_,_,rfl⟩;obtain⟨s0,s1,s2,s3,s4,hP1⟩:∃s0 s1 s2 s3 s4,pathA src = #[.string s0,.string s1,.string s2,.string s3,.string s4]:=⟨_,_,_,_,_,rfl⟩;obtain⟨d0,d1,d2,d3,d4,hP2⟩:∃s0 s1 s2 s3 s4,pathA dst = #[.string s0,.string s1,.string s2,.string s3,.string s4]:=⟨_,_,_,_,_,rfl⟩;obtain⟨q0,q1,q2,q3,q4,hP3⟩:∃s0 s1 s2 s3 s4,pathA (dst++r) = #[.string s0,.string s1,.string s2,.string s3,.string s4]:=⟨_,_,_,_,_,rfl⟩;have hP4:pathA [] = #[.string ⟨#[]⟩,.string ⟨#[]⟩,.string ⟨#[]⟩,.string ⟨#[]⟩,.string ⟨#[]⟩]:=rfl;unfold pathV at hdd hds ⊢;simp only[hP,hP1,hP2,hP3,hP4] at hdd hds hcp hfa hz4 ⊢;generalize offP dst.length=od at sl1 hcp;generalize offP src.length=os at sl2 hcp;generalize 5-dst.length=ld at sl1 hcp;generalize 5-src.length=ls at sl2 hcp;generalize (dst.length:Int)=nd at hdd sl1;generalize (src.length:Int)=ns at hds sl2;have HCP:Hid _:=hcp;have HFA:Hid _:=hfa;clear hP hP1 hP2 hP3 hP4 hcp hfa hs hd hS hD;go_enter func197,ntmps197;go_wp2;have b0:=below_drew (Below.refl ((((w.alloc (.cells #[.string p0,.string p1,.string p2,.string p3,.string p4] 147)).alloc (.cells #[.string s0,.string s1,.string s2,.string s3,.string s4] 147)).alloc (.cells #[.string d0,.string d1,.string d2,.string d3,.string d4] 147)).alloc (.cells #[.string ⟨#[]⟩,.string ⟨#[]⟩,.string ⟨#[]⟩,.string ⟨#[]⟩,.string ⟨#[]⟩] 147)).heap.size ((((w.alloc (.cells #[.string p0,.string p1,.string p2,.string p3,.string p4] 147)).alloc (.cells #[.string s0,.string s1,.string s2,.string s3,.string s4] 147)).alloc (.cells #[.string d0,.string d1,.string d2,.string d3,.string d4] 147)).alloc (.cells #[.string ⟨#[]⟩,.string ⟨#[]⟩,.string ⟨#[]⟩,.string ⟨#[]⟩,.string ⟨#[]⟩] 147)));have HZ:Hid _:=(Nat.lt_of_lt_of_eq (Nat.lt_succ_self (w.heap.size+3)) hz4.symm);clear hz4
 go_region_with (first
  | (go_at_call_of 142 (Value.agg #[.string d0,.string d1,.string d2,.string d3,.string d4]);refine (hdd _).mono ?_;rintro e w1 ⟨rfl,hb1⟩;replace b0:=below_via b0 hb1;have kc:=(bcell b0).1;have kz:=zzA HZ.out b0.size;obtain⟨w3,hrun,b3,z3,c2,c3⟩:=HCP.out _ b0;obtain⟨y0,y1,y2,y3,y4,y5,y6⟩:=cells5 c2;obtain⟨x0,x1,x2,x3,x4,x5,x6⟩:=cells5 c3;clear c2 c3)
  | (go_at_call_of 142 (Value.agg #[.string s0,.string s1,.string s2,.string s3,.string s4]);refine (hds _).mono ?_;rintro e w1 ⟨rfl,hb1⟩;replace b0:=below_via b0 hb1;have kc:=(bcell b0).1;have kz:=zzA HZ.out b0.size;obtain⟨w3,hrun,b3,z3,c2,c3⟩:=HCP.out _ b0;obtain⟨y0,y1,y2,y3,y4,y5,y6⟩:=cells5 c2;obtain⟨x0,x1,x2,x3,x4,x5,x6⟩:=cells5 c3;clear c2 c3))
 all_goals
  go_wp2;exact bodyPost_ret (v:=.agg #[.string q0,.string q1,.string q2,.string q3,.string q4]) (by simp[results,results197,go_sem,Nat.add_assoc,x1,x2,x3,x4,x5]) rfl ⟨rfl,by
   repeat (refine Below.setCell ?_ (by simp;omega) _)
   exact b3⟩
theorem stop_at {p:Prop}(h:Hid p):p:=h.out
def flatP (L:List (List ByteArray)):List Value:=L.flatMap fun p=>(pathA p).toList
theorem flatP_snoc (L:List (List ByteArray))(p:List ByteArray):flatP (L ++ [p])=flatP L++(pathA p).toList:=by simp[flatP]
theorem flatP_at:∀(L:List (List ByteArray)) (k o:Nat) (hk:k<L.length),o<5->(flatP L)[k*5+o]? = (pathA L[k]).toList[o]?
 | x :: r,0,o,hk,ho=>by
  show ((pathA x).toList++flatP r)[0*5+o]? = _
  rw[List.getElem?_append_left (by simp[pathA];omega)]
  simp
 | x :: r,k+1,o,hk,ho=>by
  show ((pathA x).toList++flatP r)[(k+1)*5+o]? = _
  rw[List.getElem?_append_right (by simp[pathA];omega)]
  have e:(k+1)*5+o-(pathA x).toList.length=k*5+o:=by simp[pathA];omega
  rw[e,flatP_at r k o (by simpa using hk) ho]
  rfl
theorem row5 {w:World}{base g n cap:Nat}{L:List (List ByteArray)}(h:w.ownsRow base 147 5 (.slice (some ⟨g,0,none⟩) n cap) n (flatP L)){k:Nat}(hk:k<L.length){s0 s1 s2 s3 s4:ByteArray}(hP:pathA L[k] = #[.string s0,.string s1,.string s2,.string s3,.string s4]):
  g<w.heap.size/\w.cell? ⟨g,k*5,none⟩=some (.string s0)/\w.cell? ⟨g,k*5+1,none⟩=some (.string s1)/\w.cell? ⟨g,k*5+2,none⟩=some (.string s2)/\w.cell? ⟨g,k*5+3,none⟩=some (.string s3)/\w.cell? ⟨g,k*5+4,none⟩=some (.string s4):=by
 obtain⟨hl,⟨h0,_⟩ | ⟨g',c',cur,hv,_,hg,hc1,_,hcs,htk⟩⟩:=h
 ·cases h0
 ·cases hv
  have key:∀o u,o<5->(pathA L[k]).toList[o]? = some u->w.cell? ⟨g,k*5+o,none⟩=some u:=by
   intro o u ho hu;rw[<-flatP_at L k o hk ho,<-htk] at hu
   have:cur[k*5+o]? = some u:=by
    rw[List.getElem?_take] at hu;split at hu
    ·simpa using hu
    ·cases hu
   simp[World.cell?,hg,this]
  refine⟨(Array.getElem?_eq_some_iff.1 hg).1,key 0 _ (by omega) (by rw[hP];rfl),key 1 _ (by omega) (by rw[hP];rfl),key 2 _ (by omega) (by rw[hP];rfl),key 3 _ (by omega) (by rw[hP];rfl),key 4 _ (by omega) (by rw[hP];rfl)⟩
theorem infoP:(prog.info? 147).map (fun i=>(i.zero,i.size,i.bytes))=some (some (.agg #[.string ⟨#[]⟩,.string ⟨#[]⟩,.string ⟨#[]⟩,.string ⟨#[]⟩,.string ⟨#[]⟩]),5,80):=by kernel_rfl
theorem came {f:List ByteArray->Option Value}{M:Lit->Option Value}{D:DataW Value}(hM:∀kl,WideAt.IsKeyLit kl->∀z,D.atKey kl z=((M kl).map DataW.held).getD z)(h1:∀p,Good p->M (keyP prog p)=f p)(h2:∀kl,WideAt.IsKeyLit kl->M kl≠none->∃p,Good p/\kl=keyP prog p)
  {x:Value}{kl:Lit}{y:DataW Value}(hkey:keyOf prog 147 x=some kl)(hat:∀z,D.atKey kl z=y):∃p,Good p/\kl=keyP prog p/\x=.agg (pathA p)/\f p≠none:=by
 have hk:=lawP.key hkey;have hne:M kl≠none:=by
  intro h0;have a1:=hM kl hk (.held (.int .i64 0));have a2:=hM kl hk (.held (.int .i64 1));rw[h0,hat] at a1 a2;rw[a1] at a2;simp at a2
 obtain⟨p,hp,rfl⟩:=h2 kl hk hne;refine⟨p,hp,rfl,lawP.inj hkey (keyOf_path hp.val),?_⟩;rw[<-h1 p hp];exact hne
theorem row_shape {w:World}{base:Nat}{e:TypeId}{size n:Nat}{v:Value}{xs:List Value}(h:w.ownsRow base e size v n xs):∃a c,v=.slice a n c:=by
 rcases h.2 with ⟨h1,h2⟩ | ⟨g,c,_,h1,_⟩
 ·exact⟨none,0,by rw[h1,h2]⟩
 ·exact⟨_,_,h1⟩
theorem carry_turn {w3:World}{b n:Nat}{f:List ByteArray->Option Value}{src dst p:List ByteArray}{L:List (List ByteArray)}{v:Value}(hP:PMap w3 b n (carried f src dst L))(hn:n<maxLen)(hdst:∀x,dst <+: x->f x=none)(hL:∀x ∈ L,src <+: x/\f x≠none)(hp:Good p)(hs:src <+: p)(hv:f p=some v)(hnp:p ∉ L)(hmv:Good (movedP src dst p))
  {t e:TypeId}(ht:prog.underlying t=some (.map 147 e)){z:Value}(hz:∀W,(zeroValue e).run prog W=.ok z W)(ty:TypeId):
  (Instr.lookup t (.map (some b)) (.agg (pathA p)) false).run prog w3=.ok v w3/\
  ∃w4 w5,(Instr.mapUpdate t (.map (some b)) (.agg (pathA (movedP src dst p))) v).run prog w3=.ok () w4/\(Builtin.delete_ #[t,147] ty #[.map (some b),.agg (pathA p)]).run prog w4=.ok (.tuple #[]) w5/\
   PMap w5 b n (carried f src dst (L ++ [p]))/\w3.grownBy w4 (some b)/\w4.grownBy w5 (some b)/\w4.heap.size=w3.heap.size/\w5.heap.size=w3.heap.size:=by
 obtain⟨c1,c2⟩:=carried_step hdst hL hs (by rw[hv];simp) hnp;have hlk:=hP.look ht (hz w3) hp;rw[c1,hv,Option.getD_some] at hlk;obtain⟨w4,hrun,hP4,hg4,hs4⟩:=hP.store hmv hn ht v;have hne:p≠movedP src dst p:=fun e=>by
  have:=hdst p (by rw[e];exact List.prefix_append _ _)
  rw[hv] at this;cases this
 obtain⟨w5,hrun5,hP5,hg5,hs5⟩:=hP4.drop1 ht hp (by rw[upd_other hne,c1,hv];rfl) ty;refine⟨hlk,w4,w5,hrun,hrun5,hP5.congr (fun x _=>?_),hg4,hg5,hs4,by rw[hs5,hs4]⟩;rw[<-c2 x,hv]
theorem zeroFp (W:World):(zeroValue 219).run prog W=.ok (.pointer none) W:=by kernel_rfl
end Go.Proofs.YtlgidcmmgohagaaGreat
