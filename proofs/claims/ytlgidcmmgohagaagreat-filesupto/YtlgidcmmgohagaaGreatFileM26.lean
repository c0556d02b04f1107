/- What is proved here: 'hold'. -/
import Derived.Test.YtlgidcmmgohagaaGreatFileM25
import Derived.Deep.RegionHeld3
import Derived.Test.YtlgidcmmgohagaaGreatFileM18
namespace Go.Proofs.YtlgidcmmgohagaaGreat
open Go.RowKit Go.Sort Go.Shelf Go.Proofs.Tryz
set_option linter.unusedVariables false
set_option maxRecDepth 100000
set_option maxHeartbeats 16000000
section
variable {s i p:Nat}{B:WB}{objs:List Ob}
theorem OwnF.look_ok {tg:Tags}{w:World}{of:List ByteArray->Option Nat}{lim:Nat}(h:OwnF tg w i B of lim){q:List ByteArray}(hq:Good q){W:World}(hb:Below w.heap.size w W):
  (Instr.lookup 161 (.map (some B.oF)) (.agg (pathA q)) true).run prog W=.ok (.tuple #[((of q).map ptr).getD (.pointer none),.bool (of q).isSome]) W:=by
 obtain⟨_,⟨n,_,M,hV,hM,_⟩,_⟩:=h
 have:=(hV.keep (w':=W) (hb.block _ hV.lt)).look_ok lawP underlying161 (zeroFp W) (keyVP hq)
 have hMq:M (keyP prog q)=(of q).map ptr:=hM q hq;rw[hMq] at this;rw[this];cases of q <;> rfl
theorem hold_held {tg:Tags}{w:World}{g:WG}{lim f:Nat}(h:WInv tg w s i p B objs g lim){q:List ByteArray}(hq:Good q)(hf:g.ft.of q=some f):
  Calls prog 178 #[.pointer (some ⟨B.bt,0,none⟩),.agg (pathA q)] w fun en w'=>en=.returned (.pointer (some ⟨f,0,none⟩))/\Below w.heap.size w w':=by
 have hb0:Below w.heap.size w (w.alloc (.cells (pathA q) 147)).drew:=below_drew ((Below.refl _ _).alloc (zzC _) _);have hlk:=h.wp.ownF.look_ok hq hb0;rw[hf] at hlk;obtain⟨tb,t7,t8⟩:=h.treeAt;obtain⟨s0,s1,s2,s3,s4,hP⟩:∃s0 s1 s2 s3 s4,pathA q = #[.string s0,.string s1,.string s2,.string s3,.string s4]:=⟨_,_,_,_,_,rfl⟩;rw[hP] at hlk hb0 ⊢;simp only[Option.map_some,Option.getD_some,Option.isSome_some,ptr] at hlk;have HB:Hid _:=hb0;clear h hb0;go_enter func178,ntmps178;go_wp2
 go_region
 all_goals
  go_wp2;go_ret;exact⟨rfl,HB.out⟩
theorem zero_put {es:List Ent}(hr:RisingK es){n:ByteArray}(ht:thereK es n=true){hix:idxK es n<es.length}(hk:(es[idxK es n]).2.1=1):zeroK es n=putK es n (1,0):=by
 rw[putK_there ht,<-zero_set hr ht hix,hk]
theorem hold_end {tg:Tags}{w:World}{g:WG}{lim:Nat}{vD:List ByteArray->Value}(h:WInv tg w s i p B objs g lim)(hD:OwnDV tg w i B g.ft.od lim vD)(hl:lim<maxLen){q:List ByteArray}{n:ByteArray}(hp:Good (q ++ [n])){es:List Ent}{gb c ix:Nat}(ho:g.ft.od q=some es)(hv:vD q=.slice (some ⟨gb,0,none⟩) es.length c)(ht:thereK es n=true)(hixe:idxK es n=ix)(hk:∀e ∈ es,e.1=n->e.2.1=1){id:Int}(hid:id≠0):
  ∃w9 tg9,(Instr.mapUpdate 161 (.map (some B.oF)) (.agg (pathA (q ++ [n]))) (.pointer (some ⟨w.heap.size,0,none⟩))).run prog ((w.alloc (.cells #[.pointer (some ⟨B.sF,0,none⟩),.int .i64 id,.string ⟨#[]⟩] 308)).setCell ⟨gb,ix*3+2,none⟩ (.int .i64 0)).drew=.ok () w9/\Moves (Mine i) tg tg9 w w9/\
   WInv tg9 w9 s i p B objs { g with ft:={ g.ft with od:=upd g.ft.od q (some (putK es n (1,0))),of:=upd g.ft.of (q ++ [n]) (some w.heap.size) },fl:=updN g.fl w.heap.size (some (id,⟨#[]⟩)) } (lim+1):=by
 obtain⟨m1,hW1⟩:=h.new_file id;rw[zzB hid] at m1 hW1;have hD1:=hD.moves m1 (fun x=>x);obtain⟨hW2,hD2,m2⟩:=zero_cell hW1 hD1 ho hv ht;have hE:=h.entsOf ho;obtain⟨hix,hnm⟩:=there_at ht;rw[hixe] at hW2 m2;rw[zero_put hE.rising ht (hix:=hix) (hk _ (zzJ hix) hnm)] at hW2;have hb:Below ((w.alloc (.cells #[.pointer (some ⟨B.sF,0,none⟩),.int .i64 id,.string ⟨#[]⟩] 308)).setCell ⟨gb,ix*3+2,none⟩ (.int .i64 0)).heap.size _ ((w.alloc (.cells #[.pointer (some ⟨B.sF,0,none⟩),.int .i64 id,.string ⟨#[]⟩] 308)).setCell ⟨gb,ix*3+2,none⟩ (.int .i64 0)).drew:=below_drew (Below.refl _ _);obtain⟨w9,hrun,m3,hW3⟩:=(hW2.below hb).note_file hl hp (f:=w.heap.size) (x:=(id,⟨#[]⟩)) (updN_same _ _ _);exact⟨w9,_,hrun,(m1.mono (fun _ x=>x.elim)).trans ((m2.mono mine5).trans ((Moves.of_below hb).trans (m3.mono mine4))),hW3⟩
theorem hold_file {tg:Tags}{w:World}{g:WG}{lim:Nat}{t d:LT}(h:WInv tg w s i p B objs g lim)(hl:lim+300<1099511627776)(hF:Flat objs t g.ft)(hok:LTok objs 5 t){q:List ByteArray}{n:ByteArray}(hp:Good (q ++ [n])){ks:Kids}(ha:t.at objs q=some d)(hk:kids objs d=some ks)(hkw:KeptWay objs t g.fs q){id:Int}(hpk:pickK ks n=some (.file id)):
  Calls prog 178 #[.pointer (some ⟨B.bt,0,none⟩),.agg (pathA (q ++ [n]))] w fun en w'=>∃f tg' ft',en=.returned (.pointer (some ⟨f,0,none⟩))/\w.heap.size<=f/\Moves (Mine i) tg tg' w w'/\
   WInv tg' w' s i p B objs { g with ft:=ft',fl:=updN g.fl f (some (id,⟨#[]⟩)) } (lim+200)/\Flat objs (modG objs (fun ks=>putK ks n (.held f)) q t) ft':=by
 have hS:=h.st.sound;have hi:=h.two;have hq:Good q:=by have:=hp.dropLast;rwa [List.dropLast_concat] at this
 have hq4:q.length<=4:=by have:=hp.len;simp at this;omega
 have hdok:=(ok_at hS _ hok ha).2.1;have q1:=(ok_kids hS hdok hk).1;have hway:=ownWay_flat hS hF hok ha hk hkw;have hcur:=cur_at ha hk;have hE:Ents objs (curK objs t q):=by rw[hcur];exact ents_kids hS hdok hk
 have hth:thereK (curK objs t q) n=true:=by rw[hcur,there_ent,<-pick_there q1,hpk];rfl
 obtain⟨hixk,hatk⟩:=pick_at q1 hpk;have hac:t.at objs (q ++ [n])=some (.file id):=by rw[at_append,ha,Option.bind_some,at_cons,hk,Option.bind_some,hpk,Option.bind_some,at_nil]
 have hid:id≠0:=by
  have hc:=(ok_at hS _ hok hac).2.1;have hkd:kindOf objs id=1:=by cases hn:5-(q ++ [n]).length <;> (rw[hn] at hc;simpa [LTok] using hc)
  have:=kind_id hkd (by decide);omega
 have hofn:g.ft.of (q ++ [n])=none:=by rw[hF.of,hac];rfl
 have hFl:=fun f=>flat_hold hS hF hok ha hk hkw hpk f;obtain⟨m1,m2,m3,m4⟩:=claim_at hway;have hb0:Below w.heap.size w (w.alloc (.cells (pathA (q ++ [n])) 147)).drew:=below_drew ((Below.refl _ _).alloc (zzC _) _);have hlk:=h.wp.ownF.look_ok hp hb0;rw[hofn] at hlk;simp only[Option.map_none,Option.getD_none,Option.isSome_none] at hlk;obtain⟨vD,hD⟩:=h.wp.ownD;have hcl:=fun W (hb:Below w.heap.size w W)=>claim_all (s:=s) (i:=i) (p:=p) (B:=B) (objs:=objs) q.reverse tg W g lim (curK objs t) vD (h.below hb) (hD.moves (Moves.of_below (P:=fun _=>False) hb) (fun x=>x)) (by rw[List.length_reverse];omega) (by rw[List.reverse_reverse];exact hq) (by rw[List.reverse_reverse];exact hway);rw[List.reverse_reverse,List.length_reverse] at hcl;have hpar:=fun W=>parent_any (q ++ [n]) hp W;have hname:=fun W=>name_any (q ++ [n]) hp (by simp) W;rw[List.dropLast_concat] at hpar;simp only[List.getLast_concat] at hname;obtain⟨s0,s1,s2,s3,s4,hP⟩:∃s0 s1 s2 s3 s4,pathA (q ++ [n]) = #[.string s0,.string s1,.string s2,.string s3,.string s4]:=⟨_,_,_,_,_,rfl⟩;obtain⟨r0,r1,r2,r3,r4,hP'⟩:∃s0 s1 s2 s3 s4,pathA q = #[.string s0,.string s1,.string s2,.string s3,.string s4]:=⟨_,_,_,_,_,rfl⟩;unfold pathV at hpar hname;simp only[hP,hP'] at hpar hname hcl hlk hb0;rw[hP];obtain⟨tb,t7,_⟩:=h.treeAt;have hlm:lim+20*(q.length+1)<maxLen:=by unfold maxLen;omega
 rw[hcur] at hE hth m3;generalize hixe:idxK (ks.map entOf) n=ix at hixk;have hat2:(ks.map entOf)[ix]'hixk=(n,1,id):=hatk;have hk1:∀e ∈ ks.map entOf,e.1=n->e.2.1=1:=by
  intro e he hen;obtain⟨x,hx,rfl⟩:=List.mem_map.1 he
  have:=pick_unique q1 hpk hx hen
  show x.2.kind=1;rw[this];rfl
 have HIX:Hid _:=hixe;have HAT:Hid ((ks.map entOf)[ix]'hixk=(n,1,id)):=hat2;have HK1:Hid _:=hk1;have HP':Hid _:=hP';have HPn:Hid _:=hP;have H0:Hid _:=h;have HCL:Hid _:=hcl;have HOD:Hid _:=m3;have HE:Hid _:=hE;have HTH:Hid _:=hth;have HGP:Hid _:=hp;have HFR:Hid _:=h.st.fresh;have HFL:Hid _:=hFl;clear hixe h hD hcl m1 m2 m3 m4 hE hth hP hP' hway hF hok ha hk hkw hpk hFl hS hdok q1 hcur hac hofn hatk hat2 hk1 hp;go_enter func178,ntmps178;go_wp2
 go_region
 have HB0:Hid _:=hb0;have z0:w.heap.size<(w.alloc (.cells #[.string s0,.string s1,.string s2,.string s3,.string s4] 147)).drew.heap.size:=by simp
 have HC0:Hid (cell5 (w.alloc (.cells #[.string s0,.string s1,.string s2,.string s3,.string s4] 147)).drew w.heap.size s0 s1 s2 s3 s4):=by
  obtain⟨_,b0,b1,b2,b3,b4,_⟩:=cells5 (heap_alloc_new w (.cells #[.string s0,.string s1,.string s2,.string s3,.string s4] 147));exact⟨b0,b1,b2,b3,b4⟩
 clear hb0 hlk;go_wp2_with (first
  | (go_at_call 132;refine (hpar _).mono ?_;rintro e w1 ⟨rfl,hb1⟩;have b1:=below_via HB0.out hb1;have hz1:=zzA z0 hb1.size;have HC1:Hid _:=cell5.keep HC0.out (fun o=>(bcell hb1).1 w.heap.size o z0)))
 refine Calls.mono (HCL.out w1 b1) ?_;rintro e w3 ⟨v3,rfl,tg3,vD3,mv3,hW3,hD3,hv3,hq3⟩;have HC3:Hid _:=cell5.keep HC1.out (kept_cell (b:=w.heap.size) hi mv3 hz1 (HFR.out _ (zzC _)));have tz3:tg3 w.heap.size=(0,0):=(mv3.tags _ hz1).trans (HFR.out _ (zzC _));have hz3:w.heap.size<w3.heap.size:=zzA hz1 mv3.size;have hr8:=hD3.row _ _ HOD.out;obtain⟨gb,cc,hgb⟩:=slice_of_owns hr8.1 (by omega);rw[hgb] at hv3 hr8;subst hv3;have hgl:gb<w3.heap.size:=ownsRow_lt hr8.1 rfl;have hnp:=tag_ne tz3 (hr8.2 gb rfl) (ne05 i);have hnb:=tag_ne hW3.wp.tree.tt (hr8.2 gb rfl) (ne15 i);have ht3:=hW3.treeAt;have hsF:w3.cell? ⟨B.bt,1,none⟩=some (.pointer (some ⟨B.sF,0,none⟩)):=by simp[World.cell?,hW3.wp.tree.ht,ptr]
 have HRID:Hid (w3.cell? ⟨gb,ix*3+2,none⟩=some (.int .i64 id)):=by
  have:=row_cell2 hr8.1 hixk
  rw[HAT.out] at this;exact this
 have HW3:Hid _:=hW3;have HM3:Hid _:=call_moves b1 mv3;have HD3:Hid _:=hD3;have HR8:Hid _:=hr8;have HG8:Hid _:=hgb;have HTR:Hid _:=And.intro ht3 hsF;have hixl:ix<ks.length:=by simpa using hixk
 clear hW3 mv3 hD3 hr8 hgb hq3 hb1 b1 ht3 hsF;rw[List.length_map];obtain⟨a0,a1,a2,a3,a4⟩:=HC3.out;have hse:=fun W (hb:Below w3.heap.size w3 W)=>search_any (ownsRow_keep HR8.out.1 (fun g' hg'=>hb.block g' (ownsRow_lt HR8.out.1 hg'))) n HE.out.rising HE.out.len
 rw[List.length_map] at hse;have HSE:Hid _:=hse;clear hse;go_wp2_with (first
  | (go_at_call 134;refine (hname _).mono ?_;rintro e w4 ⟨rfl,hb4⟩)
  | (go_at_call 133;go_loud (refine Calls.mono (HSE.out _ hb4) ?_;rintro e w5 ⟨rfl,hb5⟩;rw[HIX.out,HTH.out];have b35:=below_via hb4 hb5)))
 have b35d:=below_drew b35;have hzd:w.heap.size<w5.heap.size:=zzA hz3 b35.size;have htb:B.bt<w5.heap.size:=zzA HTR.out.1.1 b35.size;have hgl5:gb<w5.heap.size:=zzA hgl b35.size;have HC5:Hid (cell5 w5 w.heap.size s0 s1 s2 s3 s4):=cell5.keep HC3.out (fun o=>(bcell b35).1 w.heap.size o hz3);have d1:w5.cell? ⟨B.bt,1,none⟩=some (.pointer (some ⟨B.sF,0,none⟩)):=((bcell b35).1 _ _ HTR.out.1.1).trans HTR.out.2;have d7:w5.cell? ⟨B.bt,7,none⟩=some (.map (some B.oF)):=((bcell b35).1 _ _ HTR.out.1.1).trans HTR.out.1.2.1;have dg:w5.cell? ⟨gb,ix*3+2,none⟩=some (.int .i64 id):=((bcell b35).1 _ _ hgl).trans HRID.out;have fg:∀o,w5.frozen? ⟨gb,o,none⟩=false:=fun o=>((bcell b35).2 _ _ hgl).trans (row_frozen HR8.out.1 o);have dg0:∃x,w5.cell? ⟨gb,ix*3,none⟩=some x:=⟨_,((bcell b35).1 _ _ hgl).trans (row_cells3 HR8.out.1 hixk).1⟩;obtain⟨w9,tg9,hmu,m9,hW9⟩:=hold_end (HW3.out.below b35d) (HD3.out.moves (Moves.of_below (P:=fun _=>False) b35d) (fun x=>x)) hlm HGP.out HOD.out HG8.out HTH.out HIX.out HK1.out hid;rw[HPn.out] at hmu;have hsw:=stored_walk B.sF id w5.drew;have HEND:Hid _:=And.intro ((HM3.out.trans (Moves.of_below b35d)).trans m9) hW9;have hfge:w.heap.size<=w5.heap.size:=Nat.le_of_lt hzd;clear a0 a1 a2 a3 a4 m9 hW9 b35d hb4 hb5;obtain⟨a0,a1,a2,a3,a4⟩:=HC5.out;have hS0:w5.drew.cell? ⟨B.bt,1,none⟩=some (.pointer (some ⟨B.sF,0,none⟩))/\w5.drew.cell? ⟨gb,ix*3+2,none⟩=some (.int .i64 id):=⟨d1,dg⟩;have hS1:(w5.drew.alloc (.cells #[.pointer (some ⟨B.sF,0,none⟩),.int .i64 id,.string ⟨#[]⟩] 308)).cell? ⟨B.bt,1,none⟩=some (.pointer (some ⟨B.sF,0,none⟩))/\(w5.drew.alloc (.cells #[.pointer (some ⟨B.sF,0,none⟩),.int .i64 id,.string ⟨#[]⟩] 308)).cell? ⟨gb,ix*3+2,none⟩=some (.int .i64 id):=⟨by rw[World.cell?_alloc_lt _ _ _ (by exact htb)];exact d1,by rw[World.cell?_alloc_lt _ _ _ (by exact hgl5)];exact dg⟩
 go_region_held3 (fun w'=>w'.cell? ⟨B.bt,1,none⟩=some (.pointer (some ⟨B.sF,0,none⟩))/\w'.cell? ⟨gb,ix*3+2,none⟩=some (.int .i64 id)) (first | exact hS0 | exact hS1) (first
  | (go_at_call 211;refine Calls.mono hsw ?_;rintro e w6 ⟨rfl,rfl⟩))
 have hwe:((w5.drew.alloc (.cells #[.pointer (some ⟨B.sF,0,none⟩),.int .i64 id,.string ⟨#[]⟩] 308)).setCell ⟨gb,ix*3+2,none⟩ (.int .i64 0)).drew=((w5.setCell ⟨gb,ix*3+2,none⟩ (.int .i64 0)).alloc (.cells #[.pointer (some ⟨B.sF,0,none⟩),.int .i64 id,.string ⟨#[]⟩] 308)).drew.drew:=by simp[go_sem,hgl5]
 rw[hwe] at hmu;replace hmu:(Instr.mapUpdate 161 (.map (some B.oF)) (.agg #[.string s0,.string s1,.string s2,.string s3,.string s4]) (.pointer (some ⟨w5.heap.size,0,none⟩))).run prog ((w5.setCell ⟨gb,ix*3+2,none⟩ (.int .i64 0)).alloc (.cells #[.pointer (some ⟨B.sF,0,none⟩),.int .i64 id,.string ⟨#[]⟩] 308)).drew.drew=.ok () w9:=hmu;go_wp2
 go_region
 all_goals
  go_wp2;go_ret;exact⟨w5.heap.size,tg9,_,rfl,hfge,HEND.out.1,HEND.out.2.mono (by omega),by have hfl:=HFL.out w5.heap.size;rw[HOD.out,Option.getD_some] at hfl;exact hfl⟩
theorem create_full (bt:Nat)(s0 s1 s2 s3 s4:ByteArray)(m:Int)(w:World)(hm:16<=m):
  Calls prog 177 #[.pointer (some ⟨bt,0,none⟩),.agg #[.string s0,.string s1,.string s2,.string s3,.string s4],.int .i64 m] w fun en w'=>en=.returned (.tuple #[.pointer none,.int .i64 11])/\Below w.heap.size w w':=by
 go_enter func177,ntmps177;go_wp2;go_ret2;exact⟨rfl,(Below.refl _ _).alloc (zzC _) _⟩
theorem held_ok (objs:List Ob)(n f:Nat):LTok objs n (.held f):=by cases n <;> simp[LTok]
theorem create_new {tg:Tags}{w:World}{g:WG}{lim:Nat}{t d:LT}(h:WInv tg w s i p B objs g lim)(hl:lim+500<1099511627776)(hF:Flat objs t g.ft)(hok:LTok objs 5 t){q:List ByteArray}{n:ByteArray}(hp:Good (q ++ [n])){ks:Kids}(ha:t.at objs q=some d)(hk:kids objs d=some ks)(hkw:KeptWay objs t g.fs q)(hpk:pickK ks n=none)(h16:ks.length<16)(m:Int)(hm:m<16):
  Calls prog 177 #[.pointer (some ⟨B.bt,0,none⟩),.agg (pathA (q ++ [n])),.int .i64 m] w fun en w'=>∃f tg' ft',en=.returned (.tuple #[.pointer (some ⟨f,0,none⟩),.int .i64 0])/\w.heap.size<=f/\Moves (Mine i) tg tg' w w'/\
   WInv tg' w' s i p B objs { g with ft:=ft',fl:=updN g.fl f (some (0,⟨#[]⟩)) } (lim+200)/\Flat objs (modG objs (fun ks=>putK ks n (.held f)) q t) ft':=by
 have hS:=h.st.sound;have hi:=h.two;have hdok:=(ok_at hS _ hok ha).2.1;have q1:=(ok_kids hS hdok hk).1;have hway:=ownWay_flat hS hF hok ha hk hkw;have hcur:=cur_at ha hk;have hE:Ents objs (curK objs t q):=by rw[hcur];exact ents_kids hS hdok hk
 have hth:thereK (curK objs t q) n=false:=by rw[hcur,there_ent,<-pick_there q1,hpk];rfl
 have h16':(curK objs t q).length<16:=by rw[hcur,List.length_map];exact h16
 have hFl:=fun f=>flat_create hS hF hok ha hk hkw hpk f;obtain⟨vD,hD⟩:=h.wp.ownD;have hput:=fun W (hb:Below w.heap.size w W)=>put_new (h.below hb) (hD.moves (Moves.of_below (P:=fun _=>False) hb) (fun x=>x)) (by omega) hp hway hE hth h16' ⟨#[]⟩ 1 0 ⟨.inl rfl,fun hx=>absurd rfl hx⟩;obtain⟨s0,s1,s2,s3,s4,hP⟩:∃s0 s1 s2 s3 s4,pathA (q ++ [n]) = #[.string s0,.string s1,.string s2,.string s3,.string s4]:=⟨_,_,_,_,_,rfl⟩;simp only[hP] at hput;rw[hP];have HPn:Hid _:=hP;have HPUT:Hid _:=hput;have HFR:Hid _:=h.st.fresh;have HGP:Hid _:=hp;have HFL:Hid _:=hFl;have hlm:lim+150<maxLen:=by unfold maxLen;omega
 clear hput hFl hP h hD hF hok hway hcur hE hth h16' ha hk hkw hpk hS hdok q1 hp;have hem:=fun W=>empty_walk W
 go_enter func177,ntmps177;go_wp2_with fail;refine Calls.mono (HPUT.out _ ((Below.refl w.heap.size w).alloc (zzC _) _)) ?_;rintro e w2 ⟨rfl,tg2,vD2,m2,hW2,hD2⟩;have HC0:Hid (cell5 (w.alloc (.cells #[.string s0,.string s1,.string s2,.string s3,.string s4] 147)) w.heap.size s0 s1 s2 s3 s4):=by
  obtain⟨_,b0,b1,b2,b3,b4,_⟩:=cells5 (heap_alloc_new w (.cells #[.string s0,.string s1,.string s2,.string s3,.string s4] 147));exact⟨b0,b1,b2,b3,b4⟩
 have HC2:Hid _:=cell5.keep HC0.out (kept_cell (b:=w.heap.size) hi m2 (self_alloc _ _) (HFR.out _ (zzC _)));have hz2:w.heap.size<w2.heap.size:=zzA (self_alloc _ _) m2.size;obtain⟨m3,hW3⟩:=hW2.new_file 0;rw[zzD rfl] at m3 hW3;have hb3:Below (w2.alloc (.cells #[.pointer none,.int .i64 0,.string ⟨#[]⟩] 308)).heap.size _ (w2.alloc (.cells #[.pointer none,.int .i64 0,.string ⟨#[]⟩] 308)).drew:=below_drew (Below.refl _ _);obtain⟨w9,hmu,m9,hW9⟩:=(hW3.below hb3).note_file hlm HGP.out (f:=w2.heap.size) (x:=(0,⟨#[]⟩)) (updN_same _ _ _);rw[HPn.out] at hmu;have HEND:Hid _:=And.intro ((call_moves ((Below.refl w.heap.size w).alloc (zzC _) _) m2).trans ((m3.mono (fun _ x=>x.elim)).trans ((Moves.of_below hb3).trans (m9.mono mine4)))) hW9;obtain⟨tb,t7,_⟩:=hW2.treeAt;obtain⟨a0,a1,a2,a3,a4⟩:=HC2.out;clear m2 hW2 hD2 m3 hW3 hb3 m9 hW9;go_wp2_with (go_at_call 210;refine Calls.mono (hem _) ?_;rintro e w4 ⟨rfl,rfl⟩)
 go_region
 all_goals
  go_wp2;go_ret2;exact⟨w2.heap.size,_,_,rfl,Nat.le_of_lt hz2,HEND.out.1,HEND.out.2.mono (by omega),HFL.out _⟩
end
def openE (ks:Kids)(n:ByteArray)(ex cr:Bool):Int:=
 match pickK ks n with
 | some c=>if c.kind=2 then 7 else if ex=true then 6 else 0
 | none=>if (ex || cr)=true then (if 16<=ks.length then 11 else 0) else 4
def OpenTo (objs:List Ob)(sz:Nat)(fl:Nat->Option (Int×ByteArray))(ks:Kids)(t:LT)(q:List ByteArray)(n:ByteArray)(tr:Bool)(f:Nat)(fl':Nat->Option (Int×ByteArray))(t':LT):Prop:=
 (pickK ks n=none/\sz<=f/\t'=modG objs (fun ks=>putK ks n (.held f)) q t/\fl'=updN fl f (some (0,⟨#[]⟩)))\/
 (pickK ks n=some (.held f)/\t'=t/\fl'=if tr=true then updN fl f (some (0,⟨#[]⟩)) else fl)\/
 (∃id,pickK ks n=some (.file id)/\sz<=f/\t'=modG objs (fun ks=>putK ks n (.held f)) q t/\fl'=if tr=true then updN (updN fl f (some (id,⟨#[]⟩))) f (some (0,⟨#[]⟩)) else updN fl f (some (id,⟨#[]⟩)))
theorem openE_none {ks:Kids}{n:ByteArray}(h:pickK ks n=none){ex cr:Bool}:openE ks n ex cr=if (ex || cr)=true then (if 16<=ks.length then 11 else 0) else 4:=by unfold openE;rw[h]
theorem openE_some {ks:Kids}{n:ByteArray}{c:LT}(h:pickK ks n=some c){ex cr:Bool}:openE ks n ex cr=if c.kind=2 then 7 else if ex=true then 6 else 0:=by unfold openE;rw[h]
theorem openE_file {ks:Kids}{n:ByteArray}{c:LT}(h:pickK ks n=some c)(hc:c.kind=1){cr:Bool}:openE ks n false cr=0:=by rw[openE_some h,hc];rfl
theorem mine6 {i:Nat}(t:Nat×Nat)(h:t=(i,6)):Mine i t:=.inr (by rw[h])
section
variable {s i p:Nat}{B:WB}{objs:List Ob}
def OpenLeft (s i p:Nat)(B:WB)(objs:List Ob)(tg:Tags)(w w':World)(g:WG)(t:LT)(q:List ByteArray)(n:ByteArray)(ex cr tr:Bool)(fs':FS)(er:Int)(ks:Kids)(lim:Nat)(en:Ending):Prop:=
 (er≠0/\en=.returned (.tuple #[.pointer none,.int .i64 er])/\Left s i p B objs tg w w' g fs' t lim)\/
 (er=0/\openE ks n ex cr≠0/\en=.returned (.tuple #[.pointer none,.int .i64 (openE ks n ex cr)])/\Left s i p B objs tg w w' g fs' t lim)\/
 (er=0/\openE ks n ex cr=0/\∃f tg' ft' fl' t',en=.returned (.tuple #[.pointer (some ⟨f,0,none⟩),.int .i64 0])/\Moves (Mine i) tg tg' w w'/\WInv tg' w' s i p B objs { g with fs:=fs',ft:=ft',fl:=fl' } lim/\Flat objs t' ft'/\LTok objs 5 t'/\OpenTo objs w.heap.size g.fl ks t q n tr f fl' t')
theorem open_walk {tg:Tags}{w:World}{g:WG}{lim:Nat}{t:LT}(h:WInv tg w s i p B objs g lim)(hl:lim+600<1099511627776)(hF:Flat objs t g.ft)(hok:LTok objs 5 t){n:ByteArray}{r:List ByteArray}(hp:Good (r.reverse ++ [n]))(fg:Int)(ex cr tr:Bool)(hex:(bits BinOp.and IntKind.i64 fg 8 != 0)=ex)(hcr:(bits BinOp.and IntKind.i64 fg 4 != 0)=cr)(htr:(bits BinOp.and IntKind.i64 fg 16 != 0)=tr):
  Calls prog 120 #[.pointer (some ⟨B.bt,0,none⟩),.agg (pathA (r.reverse ++ [n])),.int .i64 fg] w fun en w'=>OpenLeft s i p B objs tg w w' g t r.reverse n ex cr tr (lookR objs t g.fs r).1 (lookR objs t g.fs r).2.1 (lookR objs t g.fs r).2.2 (lim+300) en:=by
 have hS:=h.st.sound;have hi:=h.two;have hq:Good r.reverse:=by have:=hp.dropLast;rwa [List.dropLast_concat] at this
 have hvn:validB n=true:=hp.val n (by simp);have hr4:r.length<=4:=by have:=hp.len;simp at this;omega
 have hlook:=fun W (hb:Below w.heap.size w W)=>look_all (s:=s) (i:=i) (p:=p) (B:=B) (objs:=objs) r tg W g lim (h.below hb) (by omega) hq;simp only[flat_look hS hF hok g.fs r] at hlook;have hlk0:=kept_of_look (objs:=objs) (t:=t) (fs:=g.fs) (r:=r);generalize lookR objs t g.fs r=a at hlook hlk0 ⊢;obtain⟨fs',er,ks⟩:=a;simp only at hlook hlk0 ⊢;have heq:∀W,(Op.equalIn 10000 147 (pathV (r.reverse ++ [n])) (pathV [])).run prog W=.ok false W:=fun W=>by
  have:=run_eqP hp Good.nil W
  rw[zzE (by simp)] at this;exact this
 have hroot:=fun W=>root_any W;have hpar:=fun W=>parent_any (r.reverse ++ [n]) hp W;have hname:=fun W=>name_any (r.reverse ++ [n]) hp (by simp) W;rw[List.dropLast_concat] at hpar;simp only[List.getLast_concat] at hname;obtain⟨s0,s1,s2,s3,s4,hP⟩:∃s0 s1 s2 s3 s4,pathA (r.reverse ++ [n]) = #[.string s0,.string s1,.string s2,.string s3,.string s4]:=⟨_,_,_,_,_,rfl⟩;obtain⟨r0,r1,r2,r3,r4,hP'⟩:∃s0 s1 s2 s3 s4,pathA r.reverse = #[.string s0,.string s1,.string s2,.string s3,.string s4]:=⟨_,_,_,_,_,rfl⟩;unfold pathV at hroot heq hpar hname;simp only[hP,hP'] at heq hpar hname hlook;rw[hP];unfold pathA at hroot heq;simp only[List.getD_nil] at hroot heq;have HP:Hid _:=hP;have H0:Hid _:=h;have HFl:Hid _:=hF;have HOk:Hid _:=hok;have HS:Hid _:=hS;have HLOOK:Hid _:=hlook;have HLK:Hid _:=hlk0;have HGP:Hid _:=hp;have HB:Hid _:=And.intro hex (And.intro hcr htr);clear h hF hok hS hP hP' hlook hlk0 hp hex hcr htr;go_enter func120,ntmps120;go_wp2
 go_region_with (go_at_call 75;refine (hroot _).mono ?_;rintro e w1 ⟨rfl,hb1⟩;obtain⟨hc1,hf1⟩:=bcell hb1;have hz1:=one_size hb1;have b1:=below_via (below_drew ((Below.refl w.heap.size w).alloc (zzC _) _)) hb1)
 all_goals
  go_wp2_with (go_at_call 132;refine (hpar _).mono ?_;rintro e w2 ⟨rfl,hb2⟩;have k2:=fun o=>(bcell hb2).1 w.heap.size o hz1;have hz2:=zzA hz1 hb2.size;have b2:=below_via b1 hb2);refine Calls.mono (HLOOK.out w2 b2) ?_;rintro e w3 ⟨v,rfl,tg3,m3,hW3,hs3⟩;have k3:=kept_cell (b:=w.heap.size) hi (m3.mono (fun _ h=>h.mine)) hz2 (H0.out.st.fresh _ (zzC _));have M3:=call_moves b2 (m3.mono (fun _ h=>h.mine));have hsz3:w.heap.size<w3.heap.size:=zzA hz2 m3.size;have tz3:tg3 w.heap.size=(0,0):=(m3.tags _ hz2).trans (H0.out.st.fresh _ (zzC _));have HW3:Hid _:=hW3;have HM3:Hid _:=M3;have HSL:Hid (Slc tg3 w3 i v (ks.map entOf)):=hs3;have HC3:Hid (cell5 w3 w.heap.size s0 s1 s2 s3 s4):=by
   obtain⟨_,q0,q1,q2,q3,q4,_⟩:=cells5 (heap_alloc_new w (.cells #[.string s0,.string s1,.string s2,.string s3,.string s4] 147));have kk:∀o,w3.cell? ⟨w.heap.size,o,none⟩=(w.alloc (.cells #[.string s0,.string s1,.string s2,.string s3,.string s4] 147)).cell? ⟨w.heap.size,o,none⟩:=fun o=>((k3 o).trans (k2 o)).trans ((hc1 _ o (by simp)).trans rfl);exact cell5.keep (w:=w.alloc (.cells #[.string s0,.string s1,.string s2,.string s3,.string s4] 147)) ⟨q0,q1,q2,q3,q4⟩ kk
  obtain⟨la,lc,rfl⟩:=hs3.len;rw[List.length_map];clear hW3 hs3 m3 M3 k3 k2 hc1 hf1 hb1 hb2 b1 b2;obtain⟨a0,a1,a2,a3,a4⟩:=HC3.out;by_cases her:er=0
  ·subst her
   obtain⟨⟨d,hat,hk⟩,hnx,hkw⟩:=HLK.out rfl;obtain⟨q1,q2,q3⟩:=ok_kids HS.out (ok_at HS.out _ HOk.out hat).2.1 hk;have hr1:RisingK (ks.map entOf):=by rw[map_ent];exact mapK_rising _ q1
   have hl1:(ks.map entOf).length<=16:=by rw[List.length_map];exact q2
   have hse:=fun W2 (hb:Below w3.heap.size w3 W2)=>search_any (HSL.out.below hb).1 n hr1 hl1;rw[List.length_map] at hse;have HSE:Hid _:=hse;have HAT:Hid _:=And.intro hat (And.intro hk hkw);have HTT:Hid _:=pick_there q1 n;obtain⟨hex,hcr,htr⟩:=HB.out;cases hpk:pickK ks n with
   | none=>
    have hth:thereK (ks.map entOf) n=false:=by rw[there_ent,<-pick_there q1,hpk];rfl
    have HTE:Hid _:=hth;have HPK:Hid _:=hpk;clear hse hat hk hkw hnx hr1 hl1 q1 q2 q3 hth hpk HB;cases hxx:ex with
    | true=>
     rw[hxx] at hex;by_cases h16:16<=ks.length
     ·have h16i:(16:Int)<=(ks.length:Int):=by omega
      have hcf:=fun W=>create_full B.bt s0 s1 s2 s3 s4 (ks.length:Int) W h16i;go_wp2_with (first
     | (go_at_call 134;refine (hname _).mono ?_;rintro e w4 ⟨rfl,hb4⟩;have k4:=fun o=>(bcell hb4).1 w.heap.size o hsz3)
     | (go_at_call 133;go_loud (refine Calls.mono (HSE.out _ hb4) ?_;rintro e w5 ⟨rfl,hb5⟩;rw[HTE.out];have b35:=below_via hb4 hb5;have k5:=fun o=>(bcell b35).1 w.heap.size o hsz3;have hz5:=zzA hsz3 b35.size))
       | (go_at_call 177;refine Calls.mono (hcf _) ?_;rintro e w6 ⟨rfl,hb6⟩))
      go_ret2;refine .inr (.inl ⟨rfl,?_,?_,left_same (HM3.out.trans (Moves.of_below (below_via b35 hb6))) ((HW3.out.below (below_via b35 hb6)).mono (by first | omega | (simp;omega))) HFl.out HOk.out⟩)
      ·rw[openE_none HPK.out,hxx,zzD (by simp),zzD h16];decide
      ·rw[openE_none HPK.out,hxx,zzD (by simp),zzD h16];rfl
     ·have h16':ks.length<16:=by omega
      have hcn:=fun W (hb:Below w3.heap.size w3 W)=>create_new (HW3.out.below hb) (by first | omega | (simp;omega)) HFl.out HOk.out HGP.out HAT.out.1 HAT.out.2.1 HAT.out.2.2 HPK.out h16' (ks.length:Int) (by omega);rw[HP.out] at hcn;have HCN:Hid _:=hcn;clear hcn;go_wp2_with (first
     | (go_at_call 134;refine (hname _).mono ?_;rintro e w4 ⟨rfl,hb4⟩;have k4:=fun o=>(bcell hb4).1 w.heap.size o hsz3)
     | (go_at_call 133;go_loud (refine Calls.mono (HSE.out _ hb4) ?_;rintro e w5 ⟨rfl,hb5⟩;rw[HTE.out];have b35:=below_via hb4 hb5;have k5:=fun o=>(bcell b35).1 w.heap.size o hsz3;have hz5:=zzA hsz3 b35.size))
       | (go_at_call 177;go_loud (refine Calls.mono (HCN.out _ b35) ?_;rintro e w6 ⟨f,tg6,ft6,rfl,hfz,m6,hW6,hF6⟩;have HR6:Hid _:=And.intro m6 (And.intro hW6 hF6);clear m6 hW6 hF6)))
      go_ret2;refine .inr (.inr ⟨rfl,?_,f,tg6,ft6,_,_,rfl,(HM3.out.trans (Moves.of_below b35)).trans HR6.out.1,HR6.out.2.1.mono (by first | omega | (simp;omega)),HR6.out.2.2,?_,.inl ⟨HPK.out,zzG (Nat.le_of_lt hz5) hfz,rfl,rfl⟩⟩)
      ·rw[openE_none HPK.out,hxx,zzD (by simp),zzB h16]
      ·exact put_ok HS.out HOk.out HAT.out.1 HAT.out.2.1 hvn (by first | omega | (simp;omega)) (held_ok _ _ _) (.inr h16')
    | false=>
     rw[hxx] at hex;cases hcc:cr with
     | true=>
      rw[hcc] at hcr;by_cases h16:16<=ks.length
      ·have h16i:(16:Int)<=(ks.length:Int):=by omega
       have hcf:=fun W=>create_full B.bt s0 s1 s2 s3 s4 (ks.length:Int) W h16i;go_wp2_with (first
      | (go_at_call 134;refine (hname _).mono ?_;rintro e w4 ⟨rfl,hb4⟩;have k4:=fun o=>(bcell hb4).1 w.heap.size o hsz3)
      | (go_at_call 133;go_loud (refine Calls.mono (HSE.out _ hb4) ?_;rintro e w5 ⟨rfl,hb5⟩;rw[HTE.out];have b35:=below_via hb4 hb5;have k5:=fun o=>(bcell b35).1 w.heap.size o hsz3;have hz5:=zzA hsz3 b35.size))
        | (go_at_call 177;refine Calls.mono (hcf _) ?_;rintro e w6 ⟨rfl,hb6⟩))
       go_ret2;refine .inr (.inl ⟨rfl,?_,?_,left_same (HM3.out.trans (Moves.of_below (below_via b35 hb6))) ((HW3.out.below (below_via b35 hb6)).mono (by first | omega | (simp;omega))) HFl.out HOk.out⟩)
       ·rw[openE_none HPK.out,hxx,hcc,zzD (by simp),zzD h16];decide
       ·rw[openE_none HPK.out,hxx,hcc,zzD (by simp),zzD h16];rfl
      ·have h16':ks.length<16:=by omega
       have hcn:=fun W (hb:Below w3.heap.size w3 W)=>create_new (HW3.out.below hb) (by first | omega | (simp;omega)) HFl.out HOk.out HGP.out HAT.out.1 HAT.out.2.1 HAT.out.2.2 HPK.out h16' (ks.length:Int) (by omega);rw[HP.out] at hcn;have HCN:Hid _:=hcn;clear hcn;go_wp2_with (first
      | (go_at_call 134;refine (hname _).mono ?_;rintro e w4 ⟨rfl,hb4⟩;have k4:=fun o=>(bcell hb4).1 w.heap.size o hsz3)
      | (go_at_call 133;go_loud (refine Calls.mono (HSE.out _ hb4) ?_;rintro e w5 ⟨rfl,hb5⟩;rw[HTE.out];have b35:=below_via hb4 hb5;have k5:=fun o=>(bcell b35).1 w.heap.size o hsz3;have hz5:=zzA hsz3 b35.size))
        | (go_at_call 177;go_loud (refine Calls.mono (HCN.out _ b35) ?_;rintro e w6 ⟨f,tg6,ft6,rfl,hfz,m6,hW6,hF6⟩;have HR6:Hid _:=And.intro m6 (And.intro hW6 hF6);clear m6 hW6 hF6)))
       go_ret2;refine .inr (.inr ⟨rfl,?_,f,tg6,ft6,_,_,rfl,(HM3.out.trans (Moves.of_below b35)).trans HR6.out.1,HR6.out.2.1.mono (by first | omega | (simp;omega)),HR6.out.2.2,?_,.inl ⟨HPK.out,zzG (Nat.le_of_lt hz5) hfz,rfl,rfl⟩⟩)
       ·rw[openE_none HPK.out,hxx,hcc,zzD (by simp),zzB h16]
       ·exact put_ok HS.out HOk.out HAT.out.1 HAT.out.2.1 hvn (by first | omega | (simp;omega)) (held_ok _ _ _) (.inr h16')
     | false=>
      rw[hcc] at hcr;go_wp2_with (first
     | (go_at_call 134;refine (hname _).mono ?_;rintro e w4 ⟨rfl,hb4⟩;have k4:=fun o=>(bcell hb4).1 w.heap.size o hsz3)
     | (go_at_call 133;go_loud (refine Calls.mono (HSE.out _ hb4) ?_;rintro e w5 ⟨rfl,hb5⟩;rw[HTE.out];have b35:=below_via hb4 hb5;have k5:=fun o=>(bcell b35).1 w.heap.size o hsz3;have hz5:=zzA hsz3 b35.size)))
      go_ret2;refine .inr (.inl ⟨rfl,?_,?_,left_same (HM3.out.trans (Moves.of_below b35)) ((HW3.out.below b35).mono (by first | omega | (simp;omega))) HFl.out HOk.out⟩)
      ·rw[openE_none HPK.out,hxx,hcc,zzB (by simp)];decide
      ·rw[openE_none HPK.out,hxx,hcc,zzB (by simp)];rfl
   | some c=>
    have hth:thereK (ks.map entOf) n=true:=by rw[there_ent,<-pick_there q1,hpk];rfl
    obtain⟨hixk,hatk⟩:=pick_at q1 hpk;obtain⟨gb,gc,hvv,hgl,e0,e1,e2⟩:=HSL.out.at_ hixk;clear e0 e2;rw[List.length_map] at hvv;rw[hatk] at e1;simp only at e1;have HTE:Hid _:=hth;have HPK:Hid _:=hpk;have hixl:idxK (ks.map entOf) n<ks.length:=by simpa using hixk
    generalize idxK (ks.map entOf) n=ix at HSE e1 hixl;cases hvv;have hkc:=kind_cases c;generalize hkk:c.kind=kc at e1 hkc;clear hse hat hk hkw hnx hr1 hl1 q1 q2 q3 hth hpk HB hixk hatk;rcases hkc with rfl | rfl
    ·cases hxx:ex with
     | true=>
      rw[hxx] at hex;go_wp2_with (first
     | (go_at_call 134;refine (hname _).mono ?_;rintro e w4 ⟨rfl,hb4⟩;have k4:=fun o=>(bcell hb4).1 w.heap.size o hsz3)
     | (go_at_call 133;go_loud (refine Calls.mono (HSE.out _ hb4) ?_;rintro e w5 ⟨rfl,hb5⟩;rw[HTE.out];have b35:=below_via hb4 hb5;have k5:=fun o=>(bcell b35).1 w.heap.size o hsz3;have hz5:=zzA hsz3 b35.size;have e15:=((bcell b35).1 gb (ix*3+1) hgl).trans e1;have hgl5:=zzA hgl b35.size)))
      go_ret2;refine .inr (.inl ⟨rfl,?_,?_,left_same (HM3.out.trans (Moves.of_below b35)) ((HW3.out.below b35).mono (by first | omega | (simp;omega))) HFl.out HOk.out⟩)
      ·rw[openE_some HPK.out,hkk,hxx,zzB (by decide),zzD rfl];decide
      ·rw[openE_some HPK.out,hkk,hxx,zzB (by decide),zzD rfl];rfl
     | false=>
      rw[hxx] at hex;cases c with
      | dir d=>simp[LT.kind] at hkk
      | own es=>simp[LT.kind] at hkk
      | held f=>
       have hat2:t.at objs (r.reverse ++ [n])=some (.held f):=(by rw[at_append,HAT.out.1,Option.bind_some,at_cons,HAT.out.2.1,Option.bind_some,HPK.out,Option.bind_some,at_nil]);have hof:g.ft.of (r.reverse ++ [n])=some f:=by rw[HFl.out.of,hat2];rfl
       obtain⟨xf,hflf⟩:=H0.out.wp.held _ _ hof;have hho:=fun W (hb:Below w3.heap.size w3 W)=>hold_held (HW3.out.below hb) HGP.out hof;rw[HP.out] at hho;have HHO:Hid _:=hho;clear hho hat2 hof;cases hcc:cr with
       | true=>
        rw[hcc] at hcr;cases ht:tr with
        | false=>
         rw[ht] at htr;go_wp2_with (first
       | (go_at_call 134;refine (hname _).mono ?_;rintro e w4 ⟨rfl,hb4⟩;have k4:=fun o=>(bcell hb4).1 w.heap.size o hsz3)
       | (go_at_call 133;go_loud (refine Calls.mono (HSE.out _ hb4) ?_;rintro e w5 ⟨rfl,hb5⟩;rw[HTE.out];have b35:=below_via hb4 hb5;have k5:=fun o=>(bcell b35).1 w.heap.size o hsz3;have hz5:=zzA hsz3 b35.size;have e15:=((bcell b35).1 gb (ix*3+1) hgl).trans e1;have hgl5:=zzA hgl b35.size))
          | (go_at_call 178;go_loud (refine Calls.mono (HHO.out _ b35) ?_;rintro e w6 ⟨rfl,hb6⟩;have hb36:=below_via b35 hb6)))
         go_ret2;refine .inr (.inr ⟨rfl,by rw[hxx];exact openE_file HPK.out rfl,f,_,g.ft,_,t,rfl,HM3.out.trans (Moves.of_below hb36),(HW3.out.below hb36).mono (by first | omega | (simp;omega)),HFl.out,HOk.out,.inr (.inl ⟨HPK.out,rfl,by rw[ht];rfl⟩)⟩)
        | true=>
         rw[ht] at htr;go_wp2_with (first
       | (go_at_call 134;refine (hname _).mono ?_;rintro e w4 ⟨rfl,hb4⟩;have k4:=fun o=>(bcell hb4).1 w.heap.size o hsz3)
       | (go_at_call 133;go_loud (refine Calls.mono (HSE.out _ hb4) ?_;rintro e w5 ⟨rfl,hb5⟩;rw[HTE.out];have b35:=below_via hb4 hb5;have k5:=fun o=>(bcell b35).1 w.heap.size o hsz3;have hz5:=zzA hsz3 b35.size;have e15:=((bcell b35).1 gb (ix*3+1) hgl).trans e1;have hgl5:=zzA hgl b35.size))
          | (go_at_call 178;go_loud (refine Calls.mono (HHO.out _ b35) ?_;rintro e w6 ⟨rfl,hb6⟩;have hb36:=below_via b35 hb6;have hcl:=clear_any (HW3.out.below hb36) hflf;have HCL:Hid _:=hcl;clear hcl))
          | (go_at_call 179;refine Calls.mono HCL.out ?_;rintro e w7 ⟨rfl,m7,hW7⟩;have HR7:Hid _:=And.intro m7 hW7;clear m7 hW7))
         go_ret2;refine .inr (.inr ⟨rfl,by rw[hxx];exact openE_file HPK.out rfl,f,_,g.ft,_,t,rfl,(HM3.out.trans (Moves.of_below hb36)).trans (HR7.out.1.mono mine6),HR7.out.2.mono (by first | omega | (simp;omega)),HFl.out,HOk.out,.inr (.inl ⟨HPK.out,rfl,by rw[ht];rfl⟩)⟩)
       | false=>
        rw[hcc] at hcr;cases ht:tr with
        | false=>
         rw[ht] at htr;go_wp2_with (first
       | (go_at_call 134;refine (hname _).mono ?_;rintro e w4 ⟨rfl,hb4⟩;have k4:=fun o=>(bcell hb4).1 w.heap.size o hsz3)
       | (go_at_call 133;go_loud (refine Calls.mono (HSE.out _ hb4) ?_;rintro e w5 ⟨rfl,hb5⟩;rw[HTE.out];have b35:=below_via hb4 hb5;have k5:=fun o=>(bcell b35).1 w.heap.size o hsz3;have hz5:=zzA hsz3 b35.size;have e15:=((bcell b35).1 gb (ix*3+1) hgl).trans e1;have hgl5:=zzA hgl b35.size))
          | (go_at_call 178;go_loud (refine Calls.mono (HHO.out _ b35) ?_;rintro e w6 ⟨rfl,hb6⟩;have hb36:=below_via b35 hb6)))
         go_ret2;refine .inr (.inr ⟨rfl,by rw[hxx];exact openE_file HPK.out rfl,f,_,g.ft,_,t,rfl,HM3.out.trans (Moves.of_below hb36),(HW3.out.below hb36).mono (by first | omega | (simp;omega)),HFl.out,HOk.out,.inr (.inl ⟨HPK.out,rfl,by rw[ht];rfl⟩)⟩)
        | true=>
         rw[ht] at htr;go_wp2_with (first
       | (go_at_call 134;refine (hname _).mono ?_;rintro e w4 ⟨rfl,hb4⟩;have k4:=fun o=>(bcell hb4).1 w.heap.size o hsz3)
       | (go_at_call 133;go_loud (refine Calls.mono (HSE.out _ hb4) ?_;rintro e w5 ⟨rfl,hb5⟩;rw[HTE.out];have b35:=below_via hb4 hb5;have k5:=fun o=>(bcell b35).1 w.heap.size o hsz3;have hz5:=zzA hsz3 b35.size;have e15:=((bcell b35).1 gb (ix*3+1) hgl).trans e1;have hgl5:=zzA hgl b35.size))
          | (go_at_call 178;go_loud (refine Calls.mono (HHO.out _ b35) ?_;rintro e w6 ⟨rfl,hb6⟩;have hb36:=below_via b35 hb6;have hcl:=clear_any (HW3.out.below hb36) hflf;have HCL:Hid _:=hcl;clear hcl))
          | (go_at_call 179;refine Calls.mono HCL.out ?_;rintro e w7 ⟨rfl,m7,hW7⟩;have HR7:Hid _:=And.intro m7 hW7;clear m7 hW7))
         go_ret2;refine .inr (.inr ⟨rfl,by rw[hxx];exact openE_file HPK.out rfl,f,_,g.ft,_,t,rfl,(HM3.out.trans (Moves.of_below hb36)).trans (HR7.out.1.mono mine6),HR7.out.2.mono (by first | omega | (simp;omega)),HFl.out,HOk.out,.inr (.inl ⟨HPK.out,rfl,by rw[ht];rfl⟩)⟩)
      | file id=>
       have hho:=fun W (hb:Below w3.heap.size w3 W)=>hold_file (HW3.out.below hb) (by first | omega | (simp;omega)) HFl.out HOk.out HGP.out HAT.out.1 HAT.out.2.1 HAT.out.2.2 HPK.out;rw[HP.out] at hho;have HHO:Hid _:=hho;clear hho;cases hcc:cr with
       | true=>
        rw[hcc] at hcr;cases ht:tr with
        | false=>
         rw[ht] at htr;go_wp2_with (first
       | (go_at_call 134;refine (hname _).mono ?_;rintro e w4 ⟨rfl,hb4⟩;have k4:=fun o=>(bcell hb4).1 w.heap.size o hsz3)
       | (go_at_call 133;go_loud (refine Calls.mono (HSE.out _ hb4) ?_;rintro e w5 ⟨rfl,hb5⟩;rw[HTE.out];have b35:=below_via hb4 hb5;have k5:=fun o=>(bcell b35).1 w.heap.size o hsz3;have hz5:=zzA hsz3 b35.size;have e15:=((bcell b35).1 gb (ix*3+1) hgl).trans e1;have hgl5:=zzA hgl b35.size))
          | (go_at_call 178;go_loud (refine Calls.mono (HHO.out _ b35) ?_;rintro e w6 ⟨f,tg6,ft6,rfl,hfz,m6,hW6,hF6⟩;have HR6:Hid _:=And.intro m6 (And.intro hW6 hF6);clear m6 hW6 hF6)))
         go_ret2;refine .inr (.inr ⟨rfl,by rw[hxx];exact openE_file HPK.out rfl,f,tg6,ft6,_,_,rfl,(HM3.out.trans (Moves.of_below b35)).trans HR6.out.1,HR6.out.2.1.mono (by first | omega | (simp;omega)),HR6.out.2.2,?_,.inr (.inr ⟨id,HPK.out,zzG (Nat.le_of_lt hz5) hfz,rfl,by rw[ht];rfl⟩)⟩);exact put_ok HS.out HOk.out HAT.out.1 HAT.out.2.1 hvn (by first | omega | (simp;omega)) (held_ok _ _ _) (.inl (by rw[<-HTT.out,HPK.out];rfl))
        | true=>
         rw[ht] at htr;go_wp2_with (first
       | (go_at_call 134;refine (hname _).mono ?_;rintro e w4 ⟨rfl,hb4⟩;have k4:=fun o=>(bcell hb4).1 w.heap.size o hsz3)
       | (go_at_call 133;go_loud (refine Calls.mono (HSE.out _ hb4) ?_;rintro e w5 ⟨rfl,hb5⟩;rw[HTE.out];have b35:=below_via hb4 hb5;have k5:=fun o=>(bcell b35).1 w.heap.size o hsz3;have hz5:=zzA hsz3 b35.size;have e15:=((bcell b35).1 gb (ix*3+1) hgl).trans e1;have hgl5:=zzA hgl b35.size))
          | (go_at_call 178;go_loud (refine Calls.mono (HHO.out _ b35) ?_;rintro e w6 ⟨f,tg6,ft6,rfl,hfz,m6,hW6,hF6⟩;have hcl:=clear_any hW6 (updN_same _ _ _);have HCL:Hid _:=hcl;clear hcl;have HR6:Hid _:=And.intro m6 (And.intro hW6 hF6);clear m6 hW6 hF6))
          | (go_at_call 179;refine Calls.mono HCL.out ?_;rintro e w7 ⟨rfl,m7,hW7⟩;have HR7:Hid _:=And.intro m7 hW7;clear m7 hW7))
         go_ret2;refine .inr (.inr ⟨rfl,by rw[hxx];exact openE_file HPK.out rfl,f,tg6,ft6,_,_,rfl,((HM3.out.trans (Moves.of_below b35)).trans HR6.out.1).trans (HR7.out.1.mono mine6),HR7.out.2.mono (by first | omega | (simp;omega)),HR6.out.2.2,?_,.inr (.inr ⟨id,HPK.out,zzG (Nat.le_of_lt hz5) hfz,rfl,by rw[ht];rfl⟩)⟩);exact put_ok HS.out HOk.out HAT.out.1 HAT.out.2.1 hvn (by first | omega | (simp;omega)) (held_ok _ _ _) (.inl (by rw[<-HTT.out,HPK.out];rfl))
       | false=>
        rw[hcc] at hcr;cases ht:tr with
        | false=>
         rw[ht] at htr;go_wp2_with (first
       | (go_at_call 134;refine (hname _).mono ?_;rintro e w4 ⟨rfl,hb4⟩;have k4:=fun o=>(bcell hb4).1 w.heap.size o hsz3)
       | (go_at_call 133;go_loud (refine Calls.mono (HSE.out _ hb4) ?_;rintro e w5 ⟨rfl,hb5⟩;rw[HTE.out];have b35:=below_via hb4 hb5;have k5:=fun o=>(bcell b35).1 w.heap.size o hsz3;have hz5:=zzA hsz3 b35.size;have e15:=((bcell b35).1 gb (ix*3+1) hgl).trans e1;have hgl5:=zzA hgl b35.size))
          | (go_at_call 178;go_loud (refine Calls.mono (HHO.out _ b35) ?_;rintro e w6 ⟨f,tg6,ft6,rfl,hfz,m6,hW6,hF6⟩;have HR6:Hid _:=And.intro m6 (And.intro hW6 hF6);clear m6 hW6 hF6)))
         go_ret2;refine .inr (.inr ⟨rfl,by rw[hxx];exact openE_file HPK.out rfl,f,tg6,ft6,_,_,rfl,(HM3.out.trans (Moves.of_below b35)).trans HR6.out.1,HR6.out.2.1.mono (by first | omega | (simp;omega)),HR6.out.2.2,?_,.inr (.inr ⟨id,HPK.out,zzG (Nat.le_of_lt hz5) hfz,rfl,by rw[ht];rfl⟩)⟩);exact put_ok HS.out HOk.out HAT.out.1 HAT.out.2.1 hvn (by first | omega | (simp;omega)) (held_ok _ _ _) (.inl (by rw[<-HTT.out,HPK.out];rfl))
        | true=>
         rw[ht] at htr;go_wp2_with (first
       | (go_at_call 134;refine (hname _).mono ?_;rintro e w4 ⟨rfl,hb4⟩;have k4:=fun o=>(bcell hb4).1 w.heap.size o hsz3)
       | (go_at_call 133;go_loud (refine Calls.mono (HSE.out _ hb4) ?_;rintro e w5 ⟨rfl,hb5⟩;rw[HTE.out];have b35:=below_via hb4 hb5;have k5:=fun o=>(bcell b35).1 w.heap.size o hsz3;have hz5:=zzA hsz3 b35.size;have e15:=((bcell b35).1 gb (ix*3+1) hgl).trans e1;have hgl5:=zzA hgl b35.size))
          | (go_at_call 178;go_loud (refine Calls.mono (HHO.out _ b35) ?_;rintro e w6 ⟨f,tg6,ft6,rfl,hfz,m6,hW6,hF6⟩;have hcl:=clear_any hW6 (updN_same _ _ _);have HCL:Hid _:=hcl;clear hcl;have HR6:Hid _:=And.intro m6 (And.intro hW6 hF6);clear m6 hW6 hF6))
          | (go_at_call 179;refine Calls.mono HCL.out ?_;rintro e w7 ⟨rfl,m7,hW7⟩;have HR7:Hid _:=And.intro m7 hW7;clear m7 hW7))
         go_ret2;refine .inr (.inr ⟨rfl,by rw[hxx];exact openE_file HPK.out rfl,f,tg6,ft6,_,_,rfl,((HM3.out.trans (Moves.of_below b35)).trans HR6.out.1).trans (HR7.out.1.mono mine6),HR7.out.2.mono (by first | omega | (simp;omega)),HR6.out.2.2,?_,.inr (.inr ⟨id,HPK.out,zzG (Nat.le_of_lt hz5) hfz,rfl,by rw[ht];rfl⟩)⟩);exact put_ok HS.out HOk.out HAT.out.1 HAT.out.2.1 hvn (by first | omega | (simp;omega)) (held_ok _ _ _) (.inl (by rw[<-HTT.out,HPK.out];rfl))
    ·go_wp2_with (first
     | (go_at_call 134;refine (hname _).mono ?_;rintro e w4 ⟨rfl,hb4⟩;have k4:=fun o=>(bcell hb4).1 w.heap.size o hsz3)
     | (go_at_call 133;go_loud (refine Calls.mono (HSE.out _ hb4) ?_;rintro e w5 ⟨rfl,hb5⟩;rw[HTE.out];have b35:=below_via hb4 hb5;have k5:=fun o=>(bcell b35).1 w.heap.size o hsz3;have hz5:=zzA hsz3 b35.size;have e15:=((bcell b35).1 gb (ix*3+1) hgl).trans e1;have hgl5:=zzA hgl b35.size)))
     go_ret2;refine .inr (.inl ⟨rfl,?_,?_,left_same (HM3.out.trans (Moves.of_below b35)) ((HW3.out.below b35).mono (by first | omega | (simp;omega))) HFl.out HOk.out⟩)
     ·rw[openE_some HPK.out,hkk,zzD rfl];decide
     ·rw[openE_some HPK.out,hkk,zzD rfl];rfl
  ·have her':(er == 0)=false:=by simpa using her
   go_wp2;go_ret2;exact .inl ⟨her,rfl,left_same HM3.out (HW3.out.mono (by first | omega | (simp;omega))) HFl.out HOk.out⟩
end


end Go.Proofs.YtlgidcmmgohagaaGreat
