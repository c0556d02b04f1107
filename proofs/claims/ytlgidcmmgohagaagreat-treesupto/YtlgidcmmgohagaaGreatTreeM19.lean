/- What is proved here: 'put' where there is something of that name. -/
import Derived.Test.YtlgidcmmgohagaaGreatTreeM18
namespace Go.Proofs.YtlgidcmmgohagaaGreat
open Go.RowKit Go.Sort Go.Shelf Go.Proofs.Tryz
set_option linter.unusedVariables false
set_option maxRecDepth 100000
set_option maxHeartbeats 16000000
section
variable {s i p:Nat}{B:WB}{ag:List Ob}
theorem LK {tg:aP}{w:World}{g:WG}{lim:Nat}{vD:List ByteArray->Value}(h:bF tg w s i p B ag g lim)(hD:cG tg w i B g.ft.od lim vD){q:List ByteArray}{es:List aK}{n:ByteArray}{k id:Int}{gb ln c ix:Nat}(ho:g.ft.od q=some es)(hv:vD q=.slice (some ⟨gb,0,none⟩) ln c)(ht:aW es n=true)(yI:dz es n=ix)(hn:aF n=true)(hE:lR ag (n,k,id)){w':World}
  (hw':w'=((w.setCell ⟨gb,ix*3,none⟩ (.string n)).setCell ⟨gb,ix*3+1,none⟩ (.int .i64 k)).setCell ⟨gb,ix*3+2,none⟩ (.int .i64 id)):
  bF tg w' s i p B ag { g with ft:={ g.ft with od:=upd g.ft.od q (some (eH es n (k,id))) } } lim/\cG tg w' i B (upd g.ft.od q (some (eH es n (k,id)))) lim vD/\az (fun t=>t=(i,5)) tg tg w w'/\w.grownBy w' (some gb):=by
 subst yI;have hEs:=h.bR ho;obtain⟨sB,sA⟩:=o6 ht;have hrow:=hD.row q es ho;have hgb:(vD q).ownBlock=some gb:=by rw[hv];rfl
 have hg:w.grownBy w' (some gb):=by rw[hw'];exact dD (dD (dD (gm _ _)))
 have hE':=Jb hEs hn hE (.inl ht);have hr1:=hrow.1;rw[hv] at hr1;have K4:ln=es.length:=by
  rcases hr1.2 with ⟨e,_⟩ | ⟨g',c',_,e,_⟩
  ·cases e
  ·cases e;rfl
 subst K4;have lK:=(hr1.stored (dz es n*3) (.string n)).1;have qF:=(lK.stored (dz es n*3+1) (.int .i64 k)).1;have LL:=(qF.stored (dz es n*3+2) (.int .i64 id)).1;rw[Ee sB (n,k,id),<-LC ht (k,id),<-hw'] at LL;have hlen:(eH es n (k,id)).length=es.length:=by rw[pL,aL ht]
 have CT:=hD.rewrite (ag:=ag) ho hgb hg (by rw[hv,hlen];exact LL) hE';have m:az (fun t=>t=(i,5)) tg tg w w':=jD hg (by rw[hw'];simp) (hrow.2 gb hgb);refine⟨h.od m (bA _) CT (fun q' es' I6=>?_),CT,m,hg⟩;by_cases e:q'=q
 ·subst e
  rw[upd_same] at I6;cases I6;exact fun e he=>(hE'.ok e he).2
 ·rw[aJ e] at I6
  exact h.wp.ok.od q' es' I6
theorem LM {w:World}{gb n c:Nat}{es:List aK}(h:w.ownsRow 0 96 3 (.slice (some ⟨gb,0,none⟩) n c) n (flat es)){ix:Nat}(sB:ix<es.length):w.cell? ⟨gb,ix*3,none⟩=some (.string (es[ix]).1)/\w.cell? ⟨gb,ix*3+1,none⟩=some (.int .i64 (es[ix]).2.1)/\w.cell? ⟨gb,ix*3+2,none⟩=some (.int .i64 (es[ix]).2.2):=
 vP (b:=gb) (fun j u hu=>by have:=aQ h j u hu;rwa [Nat.zero_add] at this) sB
theorem TY {tg:aP}{w:World}{g:WG}{lim:Nat}{K:List ByteArray->List aK}{vD:List ByteArray->Value}(h:bF tg w s i p B ag g lim)(hD:cG tg w i B g.ft.od lim vD)(hl:lim+300<1099511627776){q:List ByteArray}{n:ByteArray}(hp:Good (q ++ [n]))(pn:gh ag g.fs g.ft K q)(hE:mY ag (K q))(pq:aW (K q) n=true)
  (nm:ByteArray)(k id:Int)(hv:lR ag (n,k,id)):
  Calls prog 135 #[.pointer (some ⟨B.bt,0,none⟩),.agg (av (q ++ [n])),.agg #[.string nm,.int .i64 k,.int .i64 id]] w fun en w'=>en=.returned (.tuple #[])/\∃aC zD,az (Mine i) tg aC w w'/\
   bF aC w' s i p B ag { g with ft:=mU ag g.fs g.ft q n (k,id) } (lim+150)/\cG aC w' i B (mU ag g.fs g.ft q n (k,id)).od (lim+150) zD:=by
 have hq:Good q:=by have:=hp.dropLast;rwa [List.dropLast_concat] at this
 have VF:aF n=true:=hp.val n (by simp);have hq4:q.length<=4:=by have:=hp.len;simp at this;omega
 obtain⟨m1,m2,m3,m4⟩:=sY pn;have BQ:mU ag g.fs g.ft q n (k,id)=wR { cT ag g.fs g.ft q.reverse with od:=upd (cT ag g.fs g.ft q.reverse).od q (some (eH (K q) n (k,id))) } (q ++ [n]):=by
  unfold mU wR;simp only[m3,Option.getD_some];rw[aL pq]
 rw[BQ];have mH:=fun W (hb:Below w.heap.size w W)=>uE (s:=s) (i:=i) (p:=p) (B:=B) (ag:=ag) q.reverse tg W g lim K vD (h.below hb) (hD.moves (az.aM (P:=fun _=>False) hb) (fun x=>x)) (by rw[List.length_reverse];omega) (by rw[List.reverse_reverse];exact hq) (by rw[List.reverse_reverse];exact pn)
 rw[List.reverse_reverse,List.length_reverse] at mH;have gq:=fun W=>iT (q ++ [n]) hp W
 have hname:=fun W=>mX (q ++ [n]) hp (by simp) W;rw[List.dropLast_concat] at gq;simp only[List.getLast_concat] at hname;obtain⟨s0,s1,s2,s3,s4,hP⟩:∃s0 s1 s2 s3 s4,av (q ++ [n]) = #[.string s0,.string s1,.string s2,.string s3,.string s4]:=⟨_,_,_,_,_,rfl⟩;obtain⟨r0,r1,r2,r3,r4,zG⟩:∃s0 s1 s2 s3 s4,av q = #[.string s0,.string s1,.string s2,.string s3,.string s4]:=⟨_,_,_,_,_,rfl⟩;unfold bn at gq hname;simp only[hP,zG] at gq hname mH;rw[hP];have hi:=h.two;have O0:lim+20*(q.length+1)<maxLen:=by unfold maxLen;omega
 obtain⟨sB,_⟩:=o6 pq;have jS:=hE.len;generalize yI:dz (K q) n=ix at sB;have TS:Hid (dz (K q) n=ix):=yI;have HP:Hid _:=hP;have FY:=fun (aC:aP) (W:World) (g':WG) (eN:Nat) (zD:List ByteArray->Value) (a:bF aC W s i p B ag g' eN) (b:cG aC W i B g'.ft.od eN zD)=>B3 a b hp;simp only[hP] at FY;have HFG:Hid _:=FY;have Yq:Hid _:=mH;have Rg:Hid _:=m3;have HE:Hid _:=hE;have TR:Hid _:=pq;have Dc:=h.st.fresh;have Fy:Hid _:=Dc;have HV:Hid _:=hv;clear yI h hD mH m1 m2 m3 m4 hE pq hP zG pn BQ Dc hv FY;go_enter func135,ntmps135;go_wp2_with (first
  | (go_at_call 134;refine (hname _).mono ?_;rintro e w1 ⟨rfl,hb1⟩;obtain⟨hz0,hz1⟩:=mg hb1;have k1:=fun o=>(aR hb1).1 w.heap.size o (by simp;omega);have e1:=fun o=>(aR hb1).1 (w.heap.size+1) o (by simp);have f1:=fun o=>(aR hb1).2 (w.heap.size+1) o (by simp);have b1:=aq (((Below.refl w.heap.size w).alloc (bA _) _).alloc (by simp) _) hb1)
  | (go_at_call 132;go_loud (refine (gq _).mono ?_;rintro e w2 ⟨rfl,hb2⟩;have b2:=aq (Ef b1 (Nat.le_succ _)) hb2;have hzs:=cv hz1 (Nat.le_of_eq (B4 (W:=w1) (b:=w.heap.size+1) (o:=0) (v:=.string n)).symm);have e2:=fun o=>(aR hb2).1 (w.heap.size+1) o hzs;have hz2:=cv hzs hb2.size;have Z9:w1.heap.size<=w2.heap.size:=eU (Nat.le_of_eq (B4 (W:=w1) (b:=w.heap.size+1) (o:=0) (v:=.string n)).symm) hb2.size;have q2:=fun o=>(aR hb2).1 w.heap.size o (Nat.lt_trans (Nat.lt_succ_self _) hzs)))
  | (go_at_call 192;go_loud (refine (Yq.out _ (b2.alloc b2.size _)).mono ?_;rintro e w3 ⟨v3,rfl,Ae,vD3,AB,hW3,TX,hv3,WV⟩;have ke:=fC (b:=w.heap.size+1) hi AB (jY hz2 _) (Fy.out _ (Nat.le_succ _));have kp:=fC (b:=w2.heap.size) hi AB (iV _ _) (Fy.out _ b2.size);have tz1:=(AB.tags w2.heap.size (iV _ _)).trans (Fy.out _ b2.size);have tze:=(AB.tags (w.heap.size+1) (jY hz2 _)).trans (Fy.out _ (Nat.le_succ _));have rO:w2.heap.size<w3.heap.size:=cv (iV _ _) AB.size;have P8:w.heap.size+1<w3.heap.size:=Nat.lt_trans hz2 rO;have yJ:=TX.row _ _ Rg.out;obtain⟨gb,cc,hgb⟩:=ak yJ.1 (Nat.lt_of_le_of_lt (dG _) sB);rw[hgb] at hv3 yJ;subst hv3;have fo:gb<w3.heap.size:=ah yJ.1 rfl;obtain⟨y0,y1,y2⟩:=LM yJ.1 sB;have y3:=B2 yJ.1;have kq:=fC (b:=w.heap.size) hi AB (jY (cv hz0 Z9) _) (Fy.out _ (bA _));have tzq:=(AB.tags w.heap.size (jY (cv hz0 Z9) _)).trans (Fy.out _ (bA _));have Nn:=LI tzq (yJ.2 gb rfl) (WU i);have anV:=Nn.symm;have adx:w.heap.size<w3.heap.size:=Nat.lt_trans (Nat.lt_succ_self _) P8;obtain⟨Re,c83,_,_,_⟩:=hW3.wp.tree.cells;have AA:Hid _:=hW3;have zF:Hid _:=AB;have HD3:Hid _:=TX;have C2:Hid _:=yJ;have Z5:Hid _:=hgb;clear hW3 AB TX yJ hgb WV)))
 have q0:∀o v,#[Value.string s0,.string s1,.string s2,.string s3,.string s4][o]? = some v->w3.cell? ⟨w.heap.size,o,none⟩=some v:=fun o v ho=>by
  rw[kq,World.cell?_alloc_past _ _ _ (cv hz0 Z9),q2];rw[show (w1.setCell ⟨w.heap.size+1,0,none⟩ (.string n)).cell? ⟨w.heap.size,o,none⟩=w1.cell? ⟨w.heap.size,o,none⟩ from eC (c:=w.heap.size) (dD (gm w1 (some (w.heap.size+1)))) hz0 (by omega) o,k1];simpa using ho
 refine (jE C2.out.1 n HE.out.rising HE.out.len).mono ?_;rintro e w4 ⟨rfl,hb4⟩;rw[TS.out,TR.out];have g4:=fun o=>(aR hb4).1 gb o fo;have gf4:=fun o=>(aR hb4).2 gb o fo;have e4:=fun o=>(aR hb4).1 (w.heap.size+1) o P8;have kx:∀o v,#[Value.string s0,.string s1,.string s2,.string s3,.string s4][o]? = some v->(((w4.setCell ⟨gb,ix*3,none⟩ (.string n)).setCell ⟨gb,ix*3+1,none⟩ (.int .i64 k)).setCell ⟨gb,ix*3+2,none⟩ (.int .i64 id)).cell? ⟨w.heap.size,o,none⟩=some v:=fun o v ho=>by
  rw[eC (c:=w.heap.size) (dD (o:=ix*3+2) (v:=.int .i64 id) (dD (o:=ix*3+1) (v:=.int .i64 k) (dD (o:=ix*3) (v:=.string n) (gm w4 (some gb))))) (cv adx hb4.size) Nn o,(aR hb4).1 w.heap.size o adx];exact q0 o v ho
 have kx0:=kx 0 _ rfl;have kx1:=kx 1 _ rfl;have kx2:=kx 2 _ rfl;have kx3:=kx 3 _ rfl;have kx4:=kx 4 _ rfl;obtain⟨o1,o2,o3,_⟩:=LK (AA.out.below hb4) (HD3.out.moves (az.aM (P:=fun _=>False) hb4) (fun x=>x)) Rg.out Z5.out TR.out TS.out VF HV.out rfl;have hfg:=HFG.out Ae _ _ _ _ o1 o2;have HF2:Hid _:=hfg;have XY:Hid _:=o3;have HB4:Hid _:=hb4;clear kx q0 o1 o2 o3 hfg;go_wp2_with (go_at_call 139;go_loud (refine Calls.mono HF2.out ?_;rintro e w7 ⟨rfl,m7,Ja,LG⟩;have P7:Hid _:=m7;have LJ:Hid _:=Ja;have HD7:Hid _:=LG;clear m7 Ja LG))
 all_goals
  exact bodyPost_ret (v:=.tuple #[]) (by simp[results,results135,go_sem]) rfl ⟨rfl,Ae,vD3,((bY (b2.alloc b2.size _) zF.out).trans ((az.aM HB4.out).trans ((XY.out.mono (fun t ht=>(Or.inr (by rw[ht]):Mine i t))).trans P7.out))),LJ.out.mono (by omega),HD7.out.mono (by omega)⟩
end
theorem TZ {ag:List Ob}(hS:Sound ag){m:Nat}{t d c:LT}{q:List ByteArray}{ks:Kids}(cz:bu ag m t)(ha:t.at ag q=some d)(hk:kids ag d=some ks){n:ByteArray}(hn:aF n=true)(hq:q.length<m)(hc:bu ag (m-q.length-1) c)(hl:aW ks n=true\/ks.length<16):bu ag m (dK ag (fun ks=>eH ks n c) q t):=by
 obtain⟨h1,h2,h3⟩:=cr hS (dN hS _ cz ha).2.1 hk;refine KJ hS _ q cz ha hk (vB (sU h1) ?_ (fun x hx=>?_))
 ·rw[pL]
  rcases hl with h | h
  ·rw[aL h];exact h2
  ·split <;> omega
 ·rcases Hx hx with rfl | hx
  ·exact⟨hn,m-q.length-1,by omega,hc⟩
  ·exact h3 x hx
theorem tJ.len {tg:aP}{w:World}{i:Nat}{v:Value}{es:List aK}(h:tJ tg w i v es):∃la c,v=.slice la es.length c:=by
 rcases h.1.2 with ⟨e,h0⟩ | ⟨g',c',_,e,_⟩
 ·exact⟨none,0,by rw[h0];exact e⟩
 ·exact⟨_,_,e⟩
section
variable {s i p:Nat}{B:WB}{ag:List Ob}
def Left (s i p:Nat)(B:WB)(ag:List Ob)(tg:aP)(w w':World)(g:WG)(fs':FS)(t':LT)(lim:Nat):Prop:=
 ∃aC oo,az (Mine i) tg aC w w'/\bF aC w' s i p B ag { g with fs:=fs',ft:=oo } lim/\Flat ag t' oo/\bu ag 5 t'
theorem iz {tg aC:aP}{w w':World}{g:WG}{fs':FS}{t:LT}{lim:Nat}(m:az (Mine i) tg aC w w')(h:bF aC w' s i p B ag { g with fs:=fs' } lim)(hF:Flat ag t g.ft)(cz:bu ag 5 t):Left s i p B ag tg w w' g fs' t lim:=⟨aC,g.ft,m,h,hF,cz⟩
theorem LN (t:Nat)(w:World):Calls prog 70 #[.pointer (some ⟨t,0,none⟩),.agg #[.string ⟨#[]⟩,.string ⟨#[]⟩,.string ⟨#[]⟩,.string ⟨#[]⟩,.string ⟨#[]⟩]] w fun e w'=>e=.returned (.int .i64 6)/\Below w.heap.size w w':=by
 have bB:=fun W=>eM W;have heq:∀W,(Op.equalIn 10000 147 (bn []) (bn [])).run prog W=.ok true W:=fun W=>by
  have:=fB Good.nil Good.nil W
  rw[decide_eq_true rfl] at this;exact this
 unfold bn av at bB heq;simp only[List.getD_nil] at bB heq;go_enter func70,ntmps70;go_wp2
 go_region_with (go_at_call 75;refine (bB _).mono ?_;rintro e w1 ⟨rfl,hb1⟩;obtain⟨hc1,C6⟩:=aR hb1;have hz1:=lq hb1)
 all_goals
  go_wp2;go_ret;exact⟨rfl,aq (aB ((Below.refl _ _).alloc (bA _) _)) hb1⟩
theorem LO {tg:aP}{w:World}{g:WG}{lim:Nat}{t:LT}(h:bF tg w s i p B ag g lim)(hl:lim+400<1099511627776)(hF:Flat ag t g.ft)(cz:bu ag 5 t){n:ByteArray}{r:List ByteArray}(hp:Good (r.reverse ++ [n])):
  Calls prog 70 #[.pointer (some ⟨B.bt,0,none⟩),.agg (av (r.reverse ++ [n]))] w fun en w'=>en=.returned (.int .i64 (gG ag t g.fs (n :: r)).2.1)/\Left s i p B ag tg w w' g (gG ag t g.fs (n :: r)).1 (gG ag t g.fs (n :: r)).2.2 (lim+300):=by
 have hS:=h.st.sound;have hi:=h.two;have hq:Good r.reverse:=by have:=hp.dropLast;rwa [List.dropLast_concat] at this
 have VF:aF n=true:=hp.val n (by simp);have hr4:r.length<=4:=by have:=hp.len;simp at this;omega
 have dx:=fun W (hb:Below w.heap.size w W)=>tN (s:=s) (i:=i) (p:=p) (B:=B) (ag:=ag) r tg W g lim (h.below hb) (by omega) hq;simp only[lY hS hF cz g.fs r] at dx;have gB:gG ag t g.fs (n :: r)=if (cA ag t g.fs r).2.1≠0 then ((cA ag t g.fs r).1,(cA ag t g.fs r).2.1,t) else if (aS (cA ag t g.fs r).2.2 n).isSome then ((cA ag t g.fs r).1,6,t) else if 16<=(cA ag t g.fs r).2.2.length then ((cA ag t g.fs r).1,11,t) else ((cA ag t g.fs r).1,0,dK ag (fun ks=>eH ks n (.own [])) r.reverse t):=rfl;have B5:=rC (ag:=ag) (t:=t) (fs:=g.fs) (r:=r);have VG:mY ag ((cA ag t g.fs r).2.2.map cK):=by have:=h.aV g.fs r;rwa [lY hS hF cz g.fs r] at this
 generalize gG ag t g.fs (n :: r)=M at gB ⊢;generalize cA ag t g.fs r=a at dx B5 VG gB;obtain⟨fs',er,ks⟩:=a;simp only at dx B5 VG gB;have vM:Hid _:=gB;have heq:∀W,(Op.equalIn 10000 147 (bn (r.reverse ++ [n])) (bn [])).run prog W=.ok false W:=fun W=>by
  have:=fB hp Good.nil W
  rw[dY (by simp)] at this;exact this
 have bB:=fun W=>eM W;have gq:=fun W=>iT (r.reverse ++ [n]) hp W;have hname:=fun W=>mX (r.reverse ++ [n]) hp (by simp) W;rw[List.dropLast_concat] at gq;simp only[List.getLast_concat] at hname;obtain⟨s0,s1,s2,s3,s4,hP⟩:∃s0 s1 s2 s3 s4,av (r.reverse ++ [n]) = #[.string s0,.string s1,.string s2,.string s3,.string s4]:=⟨_,_,_,_,_,rfl⟩;obtain⟨r0,r1,r2,r3,r4,zG⟩:∃s0 s1 s2 s3 s4,av r.reverse = #[.string s0,.string s1,.string s2,.string s3,.string s4]:=⟨_,_,_,_,_,rfl⟩;unfold bn at bB heq gq hname;simp only[hP,zG] at heq gq hname dx;rw[hP];unfold av at bB heq;simp only[List.getD_nil] at bB heq;have HP:Hid _:=hP;have H0:Hid _:=h;have z8:Hid _:=hF;have yL:Hid _:=cz;have HS:Hid _:=hS;have T5:Hid _:=dx;have HLK:Hid _:=B5;have NT:Hid _:=hp;have Zj:Hid _:=VG;clear h hF cz hS hP zG dx B5 hp VG gB;go_enter func70,ntmps70;go_wp2
 go_region_with (go_at_call 75;refine (bB _).mono ?_;rintro e w1 ⟨rfl,hb1⟩;obtain⟨hc1,C6⟩:=aR hb1;have hz1:=lq hb1;have b1:=aq (aB ((Below.refl w.heap.size w).alloc (bA _) _)) hb1)
 all_goals
  go_wp2_with (go_at_call 132;refine (gq _).mono ?_;rintro e w2 ⟨rfl,hb2⟩;have k2:=fun o=>(aR hb2).1 w.heap.size o hz1;have hz2:=cv hz1 hb2.size;have b2:=aq b1 hb2);refine (T5.out w2 b2).mono ?_;rintro e w3 ⟨v,rfl,Ae,m3,hW3,hs3⟩;have k3:=fC (b:=w.heap.size) hi (m3.mono (fun _ h=>h.mine)) hz2 (H0.out.st.fresh _ (bA _));have M3:=bY b2 (m3.mono (fun _ h=>h.mine));have rO:w.heap.size<w3.heap.size:=cv hz2 m3.size;have tz3:Ae w.heap.size=(0,0):=(m3.tags _ hz2).trans (H0.out.st.fresh _ (bA _));have AA:Hid _:=hW3;have zF:Hid _:=M3;have HSL:Hid (tJ Ae w3 i v (ks.map cK)):=hs3;obtain⟨la,lc,rfl⟩:=hs3.len;rw[List.length_map];clear hW3 hs3 m3 M3;by_cases her:er=0
  ·subst her
   obtain⟨⟨d,hat,hk⟩,hnx,Yu⟩:=HLK.out rfl;have Yv:=jw HS.out z8.out yL.out hat hk Yu;obtain⟨q1,q2,q3⟩:=cr HS.out (dN HS.out _ yL.out hat).2.1 hk;have hr1:aU (ks.map cK):=by rw[mB];exact mQ _ q1
   have wm:(ks.map cK).length<=16:=by rw[List.length_map];exact q2
   have lJ:=dR q1 n;have hte:=kJ ks n;have nS:=fun W2 (hb:Below w3.heap.size w3 W2)=>jE (HSL.out.below hb).1 n hr1 wm;rw[List.length_map] at nS;have FZ:Hid _:=nS;have HWY:Hid _:=Yv;have E2:Hid _:=And.intro hat (And.intro hk Yu);have FF:Hid _:=hte;have Kc:Hid _:=lJ;have HR1:Hid _:=And.intro hr1 wm;have hq2:ks.length<=16:=q2;clear nS Yv hat hk Yu hte lJ hr1 wm q1 q2 q3 hnx;cases pq:aW ks n with
   | true=>
    go_wp2_with (first
     | (go_at_call 134;refine (hname _).mono ?_;rintro e w4 ⟨rfl,hb4⟩)
     | (go_at_call 133;go_loud (refine (FZ.out _ hb4).mono ?_;rintro e w5 ⟨rfl,j3⟩;rw[FF.out,pq];have GH:=aq hb4 j3)))
    go_ret;have gB:=vM.out;rw[ay (by simp),aL (by rw[Kc.out];exact pq)] at gB;subst gB;exact⟨rfl,iz (zF.out.trans (az.aM GH)) ((AA.out.below GH).mono (by omega)) z8.out yL.out⟩
   | false=>
    by_cases jS:ks.length<16
    ·obtain⟨vD,hvD⟩:=AA.out.wp.tG
     have hput:=fun W2 (hb:Below w3.heap.size w3 W2)=>NS (AA.out.below hb) (hvD.moves (az.aM (P:=fun _=>False) hb) (fun x=>x)) (by omega) NT.out HWY.out (by rw[nv E2.out.1 E2.out.2.1];exact Zj.out) (by rw[nv E2.out.1 E2.out.2.1,FF.out];exact pq) (by rw[nv E2.out.1 E2.out.2.1,List.length_map];exact jS) ⟨#[]⟩ 2 0 ⟨.inr rfl,fun h=>absurd rfl h⟩;rw[HP.out] at hput;have WY:Hid _:=hput;clear hput hvD;have Rw:¬((16:Int)<=(ks.length:Int)):=by omega
     go_wp2_with (first
      | (go_at_call 134;refine (hname _).mono ?_;rintro e w4 ⟨rfl,hb4⟩;have k4:=fun o=>(aR hb4).1 w.heap.size o rO)
      | (go_at_call 133;go_loud (refine (FZ.out _ hb4).mono ?_;rintro e w5 ⟨rfl,j3⟩;rw[FF.out,pq];have GH:=aq hb4 j3;have k5:=fun o=>(aR GH).1 w.heap.size o rO))
      | (go_at_call 135;go_loud (refine (WY.out _ GH).mono ?_;rintro e w6 ⟨rfl,tg6,vD6,m6,Da,hD6⟩;have k6:=fC (b:=w.heap.size) hi m6 (cv rO GH.size) tz3;have ag8:=cv (cv rO GH.size) m6.size;have HM6:Hid _:=m6;have Z2:Hid _:=Da;have HD6:Hid _:=hD6;obtain⟨ht6,c86,_,_,_⟩:=Da.wp.tree.cells;clear m6 Da hD6)))
     obtain⟨w7,Af,VC,Ys,hs7,hoD,m7,Ja,LG,_⟩:=FW Z2.out HD6.out (by unfold maxLen;omega) NT.out (aB (Below.refl _ w6)) (NM _) (fun gb h=>by simp[Value.ownBlock] at h) ⟨by simp[aU],by simp,by simp⟩;rw[HP.out] at VC;have P7:Hid _:=m7;have LJ:Hid _:=Ja;have hF7:=KM HS.out z8.out yL.out E2.out.1 E2.out.2.1 E2.out.2.2 (n:=n) (by have:=Kc.out;rw[pq] at this;simpa using this);have hO7:=TZ HS.out yL.out E2.out.1 E2.out.2.1 VF (by rw[List.length_reverse];omega) (c:=.own []) (vB (by simp[aU]) (by simp) (by simp)) (.inr jS);have HF7:Hid _:=hF7;have HO7:Hid _:=hO7;clear m7 Ja LG hF7 hO7
     go_region
     all_goals
      go_wp2;go_ret;have gB:=vM.out;rw[ay (by simp),ay (by rw[Kc.out,pq];decide),ay (by omega)] at gB;subst gB;exact⟨rfl,Af,_,(zF.out.trans ((az.aM GH).trans (HM6.out.trans P7.out))),LJ.out.mono (by omega),HF7.out,HO7.out⟩
    ·have Rw:(16:Int)<=(ks.length:Int):=by omega
     go_wp2_with (first
      | (go_at_call 134;refine (hname _).mono ?_;rintro e w4 ⟨rfl,hb4⟩)
      | (go_at_call 133;go_loud (refine (FZ.out _ hb4).mono ?_;rintro e w5 ⟨rfl,j3⟩;rw[FF.out,pq];have GH:=aq hb4 j3)))
     go_ret;have gB:=vM.out;rw[ay (by simp),ay (by rw[Kc.out,pq];decide),aL (by omega)] at gB;subst gB;exact⟨rfl,iz (zF.out.trans (az.aM GH)) ((AA.out.below GH).mono (by omega)) z8.out yL.out⟩
  ·have Qa:(er == 0)=false:=by simpa using her
   go_wp2;go_ret;have gB:=vM.out;rw[aL her] at gB;subst gB;exact⟨rfl,iz zF.out (AA.out.mono (by omega)) z8.out yL.out⟩
end
theorem B6 {ag:List Ob}{n:Nat}{c:LT}(h:bu ag n c)(nm:ByteArray):lR ag (nm,c.kind,c.id):=by
 cases c with
 | file id=>exact⟨.inl rfl,fun _=>by cases n <;> exact h⟩
 | held f=>exact⟨.inl rfl,fun h=>absurd rfl h⟩
 | dir id=>exact⟨.inr rfl,fun _=>by cases n <;> exact h.1⟩
 | own es=>exact⟨.inr rfl,fun h=>absurd rfl h⟩
section
variable {s i p:Nat}{B:WB}{ag:List Ob}
theorem B7 {tg:aP}{w:World}{g:WG}{lim:Nat}{t c:LT}(h:bF tg w s i p B ag g lim)(hl:lim+10<1099511627776)(hF:Flat ag t g.ft){n:Nat}(cz:bu ag n t){q:List ByteArray}(hq:Good q)(ha:t.at ag q=some c)(nm:ByteArray):
  Calls prog 137 #[.pointer (some ⟨B.bt,0,none⟩),.agg (av q),.agg #[.string nm,.int .i64 c.kind,.int .i64 c.id]] w fun en w'=>en=.returned (.int .i64 (dA ag g.fs c).2)/\jX s i p B ag tg w w' { g with fs:=(dA ag g.fs c).1 } (lim+1):=by
 have hS:=h.st.sound;have hc:=(dN hS _ cz ha).2.1;have hen:=fun W (hb:Below w.heap.size w W)=>tK (h.below hb) (by omega) hq (B6 hc nm);simp only[uo hS hF hc ha] at hen;have hv:dA ag g.fs c=if c.kind=1 then (g.fs,0) else if (cQ ag g.fs c).2.1=0/\0<(cQ ag g.fs c).2.2.length then ((cQ ag g.fs c).1,8) else ((cQ ag g.fs c).1,(cQ ag g.fs c).2.1):=rfl;generalize dA ag g.fs c=V at hv ⊢;generalize cQ ag g.fs c=a at hen hv;obtain⟨fs',er,ks⟩:=a;simp only at hen hv;generalize c.kind=k at hen hv ⊢;generalize c.id=id at hen ⊢;obtain⟨s0,s1,s2,s3,s4,hP⟩:∃s0 s1 s2 s3 s4,av q = #[.string s0,.string s1,.string s2,.string s3,.string s4]:=⟨_,_,_,_,_,rfl⟩;rw[hP];simp only[hP] at hen;have H0:Hid _:=h;have Zj:Hid _:=hen;have HV:Hid _:=hv;clear h hen hP hv hF cz ha hS hc;by_cases hk:k=1
 ·subst hk
  go_enter func137,ntmps137;go_wp2;go_ret;have hv:=HV.out;rw[aL (by first | rfl | trivial)] at hv;subst hv;have hb:Below w.heap.size w ((w.alloc (.cells #[.string s0,.string s1,.string s2,.string s3,.string s4] 147)).alloc (.cells #[.string nm,.int .i64 1,.int .i64 id] 96)):=((Below.refl w.heap.size w).alloc (bA _) _).alloc (by simp) _;exact⟨rfl,tg,az.aM hb,(H0.out.below hb).mono (by omega)⟩
 ·have dy:(k == 1)=false:=by simpa using hk
  go_enter func137,ntmps137;go_wp2_with fail;refine (Zj.out _ (((Below.refl w.heap.size w).alloc (bA _) _).alloc (by simp) _)).mono ?_;rintro e w1 ⟨v,rfl,uA,m1,hW1,hs1⟩;obtain⟨la,lc,rfl⟩:=hs1.len;rw[List.length_map];have O6:Hid _:=hW1;have Qb:Hid _:=bY (((Below.refl w.heap.size w).alloc (bA _) _).alloc (by simp) _) m1;clear hs1 hW1 m1;by_cases her:er=0
  ·subst her
   by_cases hl0:0<ks.length
   ·have hl0':(0:Int)<(ks.length:Int):=by omega
    go_wp2;go_ret;have hv:=HV.out;rw[ay hk,aL (by first | exact⟨rfl,hl0⟩ | exact⟨trivial,hl0⟩)] at hv;subst hv;exact⟨rfl,uA,Qb.out,O6.out⟩
   ·have hl0':¬(0:Int)<(ks.length:Int):=by omega
    go_wp2;go_ret;have hv:=HV.out;rw[ay hk,ay (fun h=>hl0 h.2)] at hv;subst hv;exact⟨rfl,uA,Qb.out,O6.out⟩
  ·have Qa:(er == 0)=false:=by simpa using her
   go_wp2;go_ret;have hv:=HV.out;rw[ay hk,ay (fun h=>her h.1)] at hv;subst hv;exact⟨rfl,uA,Qb.out,O6.out⟩
theorem Jc (t:Nat)(w:World):Calls prog 71 #[.pointer (some ⟨t,0,none⟩),.agg #[.string ⟨#[]⟩,.string ⟨#[]⟩,.string ⟨#[]⟩,.string ⟨#[]⟩,.string ⟨#[]⟩]] w fun e w'=>e=.returned (.int .i64 9)/\Below w.heap.size w w':=by
 have bB:=fun W=>eM W;have heq:∀W,(Op.equalIn 10000 147 (bn []) (bn [])).run prog W=.ok true W:=fun W=>by
  have:=fB Good.nil Good.nil W
  rw[decide_eq_true rfl] at this;exact this
 unfold bn av at bB heq;simp only[List.getD_nil] at bB heq;go_enter func71,ntmps71;go_wp2
 go_region_with (go_at_call 75;refine (bB _).mono ?_;rintro e w1 ⟨rfl,hb1⟩;obtain⟨hc1,C6⟩:=aR hb1;have hz1:=lq hb1)
 all_goals
  go_wp2;go_ret;exact⟨rfl,aq (aB ((Below.refl _ _).alloc (bA _) _)) hb1⟩
end
theorem zH {ag:List Ob}{fs:FS}{c:LT}(h:(dA ag fs c).2=0):fs.Next (dA ag fs c).1/\(kids ag c=none\/kids ag c=some []):=by
 unfold dA at h ⊢;by_cases hk:c.kind=1
 ·rw[aL hk]
  refine⟨FS.Next.refl _,.inl ?_⟩;cases c <;> simp[LT.kind] at hk <;> rfl
 ·rw[ay hk] at h ⊢
  by_cases h0:(cQ ag fs c).2.1=0/\0<(cQ ag fs c).2.2.length
  ·simp only[aL h0] at h;cases h
  ·simp only[ay h0] at h ⊢
   obtain⟨k1,k2,k3⟩:=vA h;refine⟨k2,.inr ?_⟩;rw[k1,Option.some.injEq];exact List.length_eq_zero_iff.1 (by have:=fun x=>h0 ⟨h,x⟩;omega)
theorem xz {ag:List Ob}{t c:LT}{fs:FS}{n:ByteArray}{r:List ByteArray}{fs':FS}(hf:aO ag t fs (n :: r)=(fs',0,c)):t.at ag (r.reverse ++ [n])=some c/\fs.Next fs'/\gz ag t fs' r.reverse/\∃d ks,t.at ag r.reverse=some d/\kids ag d=some ks/\aS ks n=some c:=by
 obtain⟨h1,h2,h3⟩:=rB (ag:=ag) (t:=t) (fs:=fs) (r:=n :: r) (by rw[hf]);rw[hf,List.reverse_cons] at h1;rw[hf] at h2;refine⟨h1,h2,fun x id hx ha=>?_,uq h1⟩
 have:=h3 x id (by rw[List.reverse_cons];exact hx.trans (List.prefix_append _ _)) (fun e=>by
  have:=hx.length_le
  rw[e,List.reverse_cons] at this;simp at this;omega) ha
 rw[hf] at this;exact this
section
variable {s i p:Nat}{B:WB}{ag:List Ob}
theorem jX.out {tg:aP}{w w':World}{g':WG}{lim:Nat}(h:jX s i p B ag tg w w' g' lim):∃aC,az (Mine i) tg aC w w'/\bF aC w' s i p B ag g' lim:=by
 obtain⟨aC,m,hW⟩:=h;exact⟨aC,m.mono (fun _ h=>h.mine),hW⟩
theorem Jd {tg:aP}{w:World}{g:WG}{lim:Nat}{t:LT}(h:bF tg w s i p B ag g lim)(hl:lim+400<1099511627776)(hF:Flat ag t g.ft)(cz:bu ag 5 t){n:ByteArray}{r:List ByteArray}(hp:Good (r.reverse ++ [n])):
  Calls prog 71 #[.pointer (some ⟨B.bt,0,none⟩),.agg (av (r.reverse ++ [n]))] w fun en w'=>en=.returned (.int .i64 (eE ag t g.fs (n :: r)).2.1)/\Left s i p B ag tg w w' g (eE ag t g.fs (n :: r)).1 (eE ag t g.fs (n :: r)).2.2 (lim+300):=by
 have hS:=h.st.sound;have hi:=h.two;have hr4:r.length<=4:=by have:=hp.len;simp at this;omega
 have cV:=fun W (hb:Below w.heap.size w W)=>tM (s:=s) (i:=i) (p:=p) (B:=B) (ag:=ag) (n :: r) tg W g lim (h.below hb) (by omega) (by rw[List.reverse_cons];exact hp);rw[List.reverse_cons] at cV;obtain⟨f1,f2,f3⟩:=qy hS hF cz g.fs (n :: r);simp only[f1,f2] at cV;have gB:eE ag t g.fs (n :: r)=if (aO ag t g.fs (n :: r)).2.1≠0 then ((aO ag t g.fs (n :: r)).1,(aO ag t g.fs (n :: r)).2.1,t) else if (dA ag (aO ag t g.fs (n :: r)).1 (aO ag t g.fs (n :: r)).2.2).2≠0 then ((dA ag (aO ag t g.fs (n :: r)).1 (aO ag t g.fs (n :: r)).2.2).1,(dA ag (aO ag t g.fs (n :: r)).1 (aO ag t g.fs (n :: r)).2.2).2,t) else ((dA ag (aO ag t g.fs (n :: r)).1 (aO ag t g.fs (n :: r)).2.2).1,0,dK ag (fun ks=>cE ks n) r.reverse t):=rfl;generalize eE ag t g.fs (n :: r)=M at gB ⊢;have hfw:∀{fs':FS} {c:LT},aO ag t g.fs (n :: r)=(fs',0,c)->_:=fun {_ _} h=>xz h;generalize aO ag t g.fs (n :: r)=a at cV f3 gB hfw;obtain⟨fs',er,c⟩:=a;simp only at cV f3 gB;generalize findF ag g.ft g.fs (n :: r)=af at cV f3;obtain⟨_,_,en,ek,eid⟩:=af;simp only[List.headD_cons,Prod.mk.injEq] at cV f3;have vM:Hid _:=gB;have heq:∀W,(Op.equalIn 10000 147 (bn (r.reverse ++ [n])) (bn [])).run prog W=.ok false W:=fun W=>by
  have:=fB hp Good.nil W
  rw[dY (by simp)] at this;exact this
 have bB:=fun W=>eM W;obtain⟨s0,s1,s2,s3,s4,hP⟩:∃s0 s1 s2 s3 s4,av (r.reverse ++ [n]) = #[.string s0,.string s1,.string s2,.string s3,.string s4]:=⟨_,_,_,_,_,rfl⟩;unfold bn at bB heq;simp only[hP] at heq cV;rw[hP];unfold av at bB heq;simp only[List.getD_nil] at bB heq;have HP:Hid _:=hP;have H0:Hid _:=h;have z8:Hid _:=hF;have yL:Hid _:=cz;have HS:Hid (Sound ag):=hS;have T6:Hid _:=cV;have HFW:Hid (∀{aae:FS} {c':LT},(fs',er,c)=(aae,0,c')->_):=hfw;have HF3:Hid _:=f3;have NT:Hid _:=hp;clear h hF cz hS hP cV hfw hp gB f1 f2 f3;go_enter func71,ntmps71;go_wp2
 go_region_with (go_at_call 75;refine (bB _).mono ?_;rintro e w1 ⟨rfl,hb1⟩;obtain⟨hc1,C6⟩:=aR hb1;have hz1:=lq hb1;have b1:=aq (aB ((Below.refl w.heap.size w).alloc (bA _) _)) hb1)
 all_goals
  go_wp2_with fail;refine (T6.out w1 b1).mono ?_;rintro e w3 ⟨rfl,RM⟩;obtain⟨Ae,m3,hW3⟩:=RM.out;have k3:=fC (b:=w.heap.size) hi m3 hz1 (H0.out.st.fresh _ (bA _));have rO:w.heap.size<w3.heap.size:=cv hz1 m3.size;have tz3:Ae w.heap.size=(0,0):=(m3.tags _ hz1).trans (H0.out.st.fresh _ (bA _));have zF:Hid _:=bY b1 m3;have AA:Hid _:=hW3;clear RM m3 hW3;by_cases her:er=0
  ·subst her
   obtain⟨⟨rfl,rfl,rfl⟩,hat⟩:=HF3.out rfl;obtain⟨x1,x2,x3,d,ks,x4,x5,x6⟩:=HFW.out rfl;have vT:=fun W (hb:Below w3.heap.size w3 W)=>B7 (AA.out.below hb) (by simp;omega) z8.out yL.out NT.out x1 en;rw[HP.out] at vT;have VF:=zH (ag:=ag) (fs:=fs') (c:=c);have gB:=vM.out;clear vM;simp only[ne_eq,not_true_eq_false,if_false] at gB;generalize dA ag fs' c=V at vT VF gB;obtain⟨Su,er2⟩:=V;simp only at vT VF gB;have WZ:Hid _:=vT;have HVN:Hid _:=VF;have HX:Hid _:=And.intro x3 (And.intro x4 (And.intro x5 x6));have vM:Hid _:=gB;clear vT VF gB x1 x2 x3 x4 x5 x6 hat;go_wp2_with fail;refine (WZ.out _ ((Below.refl w3.heap.size w3).alloc (bA _) _)).mono ?_;rintro e w5 ⟨rfl,yZ⟩;obtain⟨Rf,m5,VD⟩:=yZ.out;have k5:=fC (b:=w.heap.size) hi m5 (jY rO _) tz3;have Kp:w.heap.size<w5.heap.size:=cv (jY rO _) m5.size;have tz5:Rf w.heap.size=(0,0):=(m5.tags _ (jY rO _)).trans tz3;have VE:Hid _:=bY ((Below.refl w3.heap.size w3).alloc (bA _) _) m5;have Yp:Hid _:=VD;clear yZ m5 VD;by_cases LP:er2=0
   ·subst LP
    obtain⟨hnx,Fk⟩:=HVN.out rfl;have Yu:gz ag t Su r.reverse:=HX.out.1.mono hnx.2.2.2.2;have Yv:=jw HS.out z8.out yL.out HX.out.2.1 HX.out.2.2.1 Yu;have q1:=(cr HS.out (dN HS.out _ yL.out HX.out.2.1).2.1 HX.out.2.2.1).1;have pq:aW (qi ag t r.reverse) en=true:=by rw[nv HX.out.2.1 HX.out.2.2.1,kJ,<-dR q1,HX.out.2.2.2];rfl
    have VG:mY ag (qi ag t r.reverse):=by
     have:=Yp.out.aV Su r
     rw[lY HS.out z8.out yL.out,DF HX.out.2.1 HX.out.2.2.1 Yu] at this;rw[nv HX.out.2.1 HX.out.2.2.1];exact this
    obtain⟨vD,hvD⟩:=Yp.out.wp.tG;have BQ:=I9 Yp.out hvD (by simp;omega) NT.out Yv VG pq;have hF7:=Hz HS.out z8.out yL.out HX.out.2.1 HX.out.2.2.1 Yu HX.out.2.2.2 Fk;have hO7:=wS HS.out yL.out HX.out.2.1 HX.out.2.2.1 en;rw[HP.out] at BQ;have Li:Hid _:=BQ;have HF7:Hid _:=hF7;have HO7:Hid _:=hO7;clear BQ hF7 hO7 hvD VG pq q1 Yv Yu hnx Fk;go_wp2_with (first
     | (go_at_call 138;go_loud (refine Calls.mono Li.out ?_;rintro e w6 ⟨rfl,tg6,vD6,m6,Da,hD6⟩;have k6:=fC (b:=w.heap.size) hi m6 Kp tz5;have hfg:=B3 Da hD6 NT.out;rw[HP.out] at hfg;have HFG:Hid _:=hfg;have HM6:Hid _:=m6;clear hfg Da hD6 m6))
     | (go_at_call 139;go_loud (refine Calls.mono HFG.out ?_;rintro e w7 ⟨rfl,m7,Ja,LG⟩;have P7:Hid _:=m7;have LJ:Hid _:=Ja;clear m7 Ja LG)))
    go_ret;have gB:=vM.out;simp only[not_true_eq_false,if_false] at gB;subst gB;exact⟨rfl,tg6,_,(zF.out.trans (VE.out.trans (HM6.out.trans P7.out))),LJ.out.mono (by simp;omega),HF7.out,HO7.out⟩
   ·have adC:(er2 == 0)=false:=by simpa using LP
    go_wp2;go_ret;have gB:=vM.out;rw[aL LP] at gB;subst gB;exact⟨rfl,iz (zF.out.trans VE.out) (Yp.out.mono (by simp;omega)) z8.out yL.out⟩
  ·have Qa:(er == 0)=false:=by simpa using her
   go_wp2;go_ret;have gB:=vM.out;rw[aL her] at gB;subst gB;exact⟨rfl,iz (zF.out.trans (az.aM ((Below.refl w3.heap.size w3).alloc (bA _) _))) ((AA.out.below ((Below.refl w3.heap.size w3).alloc (bA _) _)).mono (by simp;omega)) z8.out yL.out⟩
theorem B8 (c:LT):c.kind=1\/c.kind=2:=by cases c <;> simp[LT.kind]
theorem jX.via {tg:aP}{w W w':World}{g':WG}{lim:Nat}(hb:Below w.heap.size w W)(h:jX s i p B ag tg W w' g' lim):jX s i p B ag tg w w' g' lim:=by
 obtain⟨aC,m,hW⟩:=h;exact⟨aC,bY hb m,hW⟩
theorem ow {tg:aP}{w w':World}{g:WG}{lim:Nat}(h:bF tg w s i p B ag g lim)(hb:Below w.heap.size w w'):jX s i p B ag tg w w' g lim:=⟨tg,az.aM hb,h.below hb⟩
theorem jX.mono {tg:aP}{w w':World}{g:WG}{lim eN:Nat}(h:jX s i p B ag tg w w' g lim)(hl:lim<=eN):jX s i p B ag tg w w' g eN:=by
 obtain⟨aC,m,hW⟩:=h;exact⟨aC,m,hW.mono hl⟩
theorem LQ {tg:aP}{w:World}{g:WG}{lim:Nat}{t c x:LT}(h:bF tg w s i p B ag g lim)(hl:lim+10<1099511627776)(hF:Flat ag t g.ft){n:Nat}(cz:bu ag n t){q:List ByteArray}(hq:Good q)(ha:t.at ag q=some c)(nm nx:ByteArray):
  Calls prog 195 #[.pointer (some ⟨B.bt,0,none⟩),.agg (av q),.agg #[.string nm,.int .i64 c.kind,.int .i64 c.id],.agg #[.string nx,.int .i64 x.kind,.int .i64 x.id]] w fun en w'=>en=.returned (.int .i64 (jh ag g.fs c x).2)/\jX s i p B ag tg w w' { g with fs:=(jh ag g.fs c x).1 } (lim+1):=by
 have vT:=fun W (hb:Below w.heap.size w W)=>B7 (h.below hb) hl hF cz hq ha nm;have hy:jh ag g.fs c x=if c.kind=2/\x.kind=1 then (g.fs,7) else if c.kind=1/\x.kind=2 then (g.fs,5) else dA ag g.fs c:=rfl;generalize jh ag g.fs c x=Y at hy ⊢;have Nz:=B8 c;have Vs:=B8 x;generalize dA ag g.fs c=V at vT hy;generalize c.kind=kc at vT hy Nz ⊢;generalize x.kind=kx at hy Vs ⊢;generalize c.id=ic at vT ⊢;generalize x.id=ix;obtain⟨s0,s1,s2,s3,s4,hP⟩:∃s0 s1 s2 s3 s4,av q = #[.string s0,.string s1,.string s2,.string s3,.string s4]:=⟨_,_,_,_,_,rfl⟩;rw[hP];simp only[hP] at vT;have H0:Hid _:=h;have WZ:Hid _:=vT;have HY:Hid _:=hy;clear h vT hP hy hF cz ha;rcases Nz with rfl | rfl <;> rcases Vs with rfl | rfl
 ·go_enter func195,ntmps195
  go_wp2_with (go_at_call 137;refine (WZ.out _ ((((Below.refl w.heap.size w).alloc (bA _) _).alloc (by simp) _).alloc (by simp;omega) _)).mono ?_;rintro e w1 ⟨rfl,W4⟩);go_ret;have hy:=HY.out;rw[ay (by decide),ay (by decide)] at hy;subst hy;exact⟨rfl,W4.via ((((Below.refl w.heap.size w).alloc (bA _) _).alloc (by simp) _).alloc (by simp;omega) _)⟩
 ·go_enter func195,ntmps195
  go_wp2;go_ret;have hy:=HY.out;rw[ay (by decide),aL (by decide)] at hy;subst hy;exact⟨rfl,(ow H0.out ((((Below.refl w.heap.size w).alloc (bA _) _).alloc (by simp) _).alloc (by simp;omega) _)).mono (by omega)⟩
 ·go_enter func195,ntmps195
  go_wp2;go_ret;have hy:=HY.out;rw[aL (by decide)] at hy;subst hy;exact⟨rfl,(ow H0.out ((((Below.refl w.heap.size w).alloc (bA _) _).alloc (by simp) _).alloc (by simp;omega) _)).mono (by omega)⟩
 ·go_enter func195,ntmps195
  go_wp2_with (go_at_call 137;refine (WZ.out _ ((((Below.refl w.heap.size w).alloc (bA _) _).alloc (by simp) _).alloc (by simp;omega) _)).mono ?_;rintro e w1 ⟨rfl,W4⟩);go_ret;have hy:=HY.out;rw[ay (by decide),ay (by decide)] at hy;subst hy;exact⟨rfl,W4.via ((((Below.refl w.heap.size w).alloc (bA _) _).alloc (by simp) _).alloc (by simp;omega) _)⟩
theorem rU {w w1:World}{o1 o2 o3:Obj}(h:Below (((w.alloc o1).alloc o2).alloc o3).heap.size (((w.alloc o1).alloc o2).alloc o3) w1):w.heap.size+2<w1.heap.size:=by
 have h2:=h.size;rw[World.size_alloc,World.size_alloc,World.size_alloc] at h2;omega
theorem pV {w w1:World}{o1 o2 o3:Obj}(h:Below (((w.alloc o1).alloc o2).alloc o3).heap.size (((w.alloc o1).alloc o2).alloc o3) w1):Below w.heap.size w w1:=
 aq ((((Below.refl w.heap.size w).alloc (bA _) _).alloc (by simp) _).alloc (by simp;omega) _) h
theorem mh {w w1:World}{o1 o2 o3:Obj}(h:Below (((w.alloc o1).alloc o2).alloc o3).heap.size (((w.alloc o1).alloc o2).alloc o3) w1)(b o:Nat)(hb:b<w.heap.size+3):w1.cell? ⟨b,o,none⟩=(((w.alloc o1).alloc o2).alloc o3).cell? ⟨b,o,none⟩:=
 (aR h).1 b o (by rw[World.size_alloc,World.size_alloc,World.size_alloc];omega)
theorem tJ.at_ {tg:aP}{w:World}{v:Value}{es:List aK}(h:tJ tg w i v es){k:Nat}(hk:k<es.length):∃gb c,v=.slice (some ⟨gb,0,none⟩) es.length c/\gb<w.heap.size/\w.cell? ⟨gb,k*3,none⟩=some (.string (es[k]).1)/\w.cell? ⟨gb,k*3+1,none⟩=some (.int .i64 (es[k]).2.1)/\w.cell? ⟨gb,k*3+2,none⟩=some (.int .i64 (es[k]).2.2):=by
 obtain⟨gb,cp,rfl⟩:=ak h.1 (by omega);obtain⟨c0,c1,c2⟩:=vP (b:=gb) (fun j u hu=>by have:=aQ h.1 j u hu;rwa [Nat.zero_add] at this) hk;exact⟨gb,cp,rfl,ah h.1 rfl,c0,c1,c2⟩
theorem W5 {ks:Kids}(hr:aU ks){n:ByteArray}{e:LT}(hp:aS ks n=some e):∃h:dz (ks.map cK) n<(ks.map cK).length,(ks.map cK)[dz (ks.map cK) n]=(n,e.kind,e.id):=by
 have pq:aW (ks.map cK) n=true:=by rw[kJ,<-dR hr,hp];rfl
 obtain⟨h1,h2⟩:=o6 pq;have hg:=oK (n:=n) (by rw[mB];exact mQ _ hr:aU (ks.map cK));rw[pq,aL rfl,kO h1,Option.map_some,Ht,hp,Option.map_some,Option.some.injEq] at hg;exact⟨h1,Prod.ext h2 hg.symm⟩
theorem LR {tg:aP}{w:World}{g:WG}{lim:Nat}{t x d e:LT}(h:bF tg w s i p B ag g lim)(hl:lim+10<1099511627776)(hF:Flat ag t g.ft){k:Nat}(cz:bu ag k t){rf qt:List ByteArray}{nt:ByteArray}(hf:Good rf)(hq:Good (qt ++ [nt])){ks:Kids}(ha:t.at ag qt=some d)(hk:kids ag d=some ks)(hp:aS ks nt=some e){v:Value}(hs:tJ tg w i v (ks.map cK))(nx:ByteArray):
  Calls prog 141 #[.pointer (some ⟨B.bt,0,none⟩),.agg (av rf),.agg (av (qt ++ [nt])),.agg #[.string nx,.int .i64 x.kind,.int .i64 x.id],v] w fun en w'=>en=.returned (.int .i64 (jh ag g.fs e x).2)/\jX s i p B ag tg w w' { g with fs:=(jh ag g.fs e x).1 } (lim+1):=by
 have hS:=h.st.sound;obtain⟨q1,q2,q3⟩:=cr hS (dN hS _ cz ha).2.1 hk;have hr1:aU (ks.map cK):=by rw[mB];exact mQ _ q1
 have wm:(ks.map cK).length<=16:=by rw[List.length_map];exact q2
 obtain⟨sB,hat⟩:=W5 q1 hp;have hae:t.at ag (qt ++ [nt])=some e:=by rw[bH,ha,Option.bind_some,bw,hk,Option.bind_some,hp,Option.bind_some,di]
 have pq:aW (ks.map cK) nt=true:=by rw[kJ,<-dR q1,hp];rfl
 have hy:=fun W (hb:Below w.heap.size w W)=>LQ (x:=x) (h.below hb) hl hF cz hq hae nt nx;have nS:=fun W2 (hb:Below w.heap.size w W2)=>jE (hs.below hb).1 nt hr1 wm;rw[pq] at nS;obtain⟨gb,cp,rfl,fo,y0,y1,y2⟩:=hs.at_ sB;rw[hat] at y0 y1 y2;clear hat;generalize (ks.map cK).length=ln at nS sB wm ⊢;generalize dz (ks.map cK) nt=ix at nS sB y0 y1 y2;have hname:=fun W=>mX (qt ++ [nt]) hq (by simp) W;simp only[List.getLast_concat] at hname;obtain⟨s0,s1,s2,s3,s4,hP⟩:∃s0 s1 s2 s3 s4,av (qt ++ [nt]) = #[.string s0,.string s1,.string s2,.string s3,.string s4]:=⟨_,_,_,_,_,rfl⟩;obtain⟨r0,r1,r2,r3,r4,zG⟩:∃s0 s1 s2 s3 s4,av rf = #[.string s0,.string s1,.string s2,.string s3,.string s4]:=⟨_,_,_,_,_,rfl⟩;unfold bn at hname;simp only[hP] at hname hy;rw[hP,zG];generalize jh ag g.fs e x=Y at hy ⊢;simp only at y0 y1 y2;generalize e.kind=ke at hy y1;generalize e.id=ie at hy y2;generalize x.kind=kx at hy ⊢;generalize x.id=ixx at hy ⊢;have FZ:Hid _:=nS;have HY:Hid _:=hy;clear h nS hy hP zG hF cz ha hk hp hs hS q1 q2 q3 hr1 hae pq;go_enter func141,ntmps141;go_wp2_with (first
  | (go_at_call 134;refine (hname _).mono ?_;rintro e w1 ⟨rfl,hb1⟩;have hz1:=rU hb1;have k1:=mh hb1 (w.heap.size+1);have k2:=mh hb1 (w.heap.size+2);have b1:=pV hb1)
  | (go_at_call 133;go_loud (refine (FZ.out _ b1).mono ?_;rintro e w2 ⟨rfl,hb2⟩;have b2:=aq b1 hb2;have k3:=fun o=>(aR hb2).1 (w.heap.size+1) o (Nat.lt_of_succ_lt hz1);have k4:=fun o=>(aR hb2).1 (w.heap.size+2) o hz1;have hz2:=cv hz1 hb2.size;have hz3:w.heap.size+1<w2.heap.size:=Nat.lt_of_succ_lt hz2;have hg2:=cv fo b2.size;have x0:=((aR b2).1 gb (ix*3) fo).trans y0;have x1:=((aR b2).1 gb (ix*3+1) fo).trans y1;have x2:=((aR b2).1 gb (ix*3+2) fo).trans y2)))
 go_region_with (go_at_call 195;go_loud (refine (HY.out _ (aB b2)).mono ?_;rintro e w3 ⟨rfl,RM⟩))
 all_goals
  go_wp2;go_ret;exact⟨rfl,RM.via (aB b2)⟩
theorem Qc {tg:aP}{w:World}{g:WG}{lim:Nat}{t d:LT}(h:bF tg w s i p B ag g lim)(hF:Flat ag t g.ft){k:Nat}(cz:bu ag k t){qf qt:List ByteArray}{nf nt:ByteArray}(hf:Good (qf ++ [nf]))(hq:Good (qt ++ [nt])){ks:Kids}(ha:t.at ag qt=some d)(hk:kids ag d=some ks)(hp:aS ks nt=none){v:Value}(hs:tJ tg w i v (ks.map cK))(nx:ByteArray)(kx ixx:Int):
  Calls prog 141 #[.pointer (some ⟨B.bt,0,none⟩),.agg (av (qf ++ [nf])),.agg (av (qt ++ [nt])),.agg #[.string nx,.int .i64 kx,.int .i64 ixx],v] w fun en w'=>en=.returned (.int .i64 (if 16<=ks.length/\qf≠qt then 11 else 0))/\jX s i p B ag tg w w' g lim:=by
 have hS:=h.st.sound;obtain⟨q1,q2,q3⟩:=cr hS (dN hS _ cz ha).2.1 hk;have hr1:aU (ks.map cK):=by rw[mB];exact mQ _ q1
 have wm:(ks.map cK).length<=16:=by rw[List.length_map];exact q2
 have pq:aW (ks.map cK) nt=false:=by rw[kJ,<-dR q1,hp];rfl
 have nS:=fun W2 (hb:Below w.heap.size w W2)=>jE (hs.below hb).1 nt hr1 wm;rw[pq] at nS;obtain⟨la,cp,rfl⟩:=hs.len;rw[List.length_map] at nS wm ⊢;generalize dz (ks.map cK) nt=ix at nS;have hname:=fun W=>mX (qt ++ [nt]) hq (by simp) W;simp only[List.getLast_concat] at hname;have Tp:=fun W=>iT (qt ++ [nt]) hq W;have SL:=fun W=>iT (qf ++ [nf]) hf W;have hGq:Good qt:=by have:=hq.dropLast;rwa [List.dropLast_concat] at this
 have hGf:Good qf:=by have:=hf.dropLast;rwa [List.dropLast_concat] at this
 have heq:=fun W=>fB hGf hGq W;rw[List.dropLast_concat] at Tp SL;obtain⟨s0,s1,s2,s3,s4,hP⟩:∃s0 s1 s2 s3 s4,av (qt ++ [nt]) = #[.string s0,.string s1,.string s2,.string s3,.string s4]:=⟨_,_,_,_,_,rfl⟩;obtain⟨r0,r1,r2,r3,r4,zG⟩:∃s0 s1 s2 s3 s4,av (qf ++ [nf]) = #[.string s0,.string s1,.string s2,.string s3,.string s4]:=⟨_,_,_,_,_,rfl⟩;obtain⟨t0,t1,t2,t3,t4,Yb⟩:∃s0 s1 s2 s3 s4,av qt = #[.string s0,.string s1,.string s2,.string s3,.string s4]:=⟨_,_,_,_,_,rfl⟩;obtain⟨f0,f1,f2,f3,f4,hP3⟩:∃s0 s1 s2 s3 s4,av qf = #[.string s0,.string s1,.string s2,.string s3,.string s4]:=⟨_,_,_,_,_,rfl⟩;have Lh:∀W,(Op.equalIn 10000 147 (bn qf) (bn qt)).run prog W=.ok (decide (qf=qt)) W:=heq;unfold bn at hname Tp SL Lh;simp only[hP,zG,Yb,hP3] at hname Tp SL Lh;rw[hP,zG];have FZ:Hid _:=nS;have H0:Hid _:=h;clear h nS hP zG Yb hP3 hF cz ha hk hp hs hS q1 q2 q3 hr1 pq heq;by_cases jS:16<=ks.length
 ·have Rw:(16:Int)<=(ks.length:Int):=by omega
  by_cases hqq:qf=qt
  ·rw[ay (fun h=>h.2 hqq)]
   rw[decide_eq_true hqq] at Lh;clear jS;go_enter func141,ntmps141;go_wp2_with (first
    | (go_at_call 134;refine (hname _).mono ?_;rintro e w1 ⟨rfl,hb1⟩;have hz1:=rU hb1;have k1:=mh hb1 (w.heap.size+1);have k0:=mh hb1 w.heap.size;have b1:=pV hb1)
    | (go_at_call 133;go_loud (refine (FZ.out _ b1).mono ?_;rintro e w2 ⟨rfl,hb2⟩;have b2:=aq b1 hb2;have k3:=fun o=>(aR hb2).1 (w.heap.size+1) o (Nat.lt_of_succ_lt hz1);have k4:=fun o=>(aR hb2).1 w.heap.size o (Nat.lt_of_succ_lt (Nat.lt_of_succ_lt hz1));have hz3:w.heap.size+1<w2.heap.size:=cv (Nat.lt_of_succ_lt hz1) hb2.size;have uD:w.heap.size<w2.heap.size:=Nat.lt_of_succ_lt hz3;replace b2:=aB b2)))
   go_region_with (first
    | (go_at_call_of 132 (Value.agg #[.string s0,.string s1,.string s2,.string s3,.string s4]);refine (Tp _).mono ?_;rintro e w3 ⟨rfl,hb3⟩;replace b2:=aq b2 hb3;have k5:=fun o=>(aR hb3).1 (w.heap.size+1) o hz3;have k6:=fun o=>(aR hb3).1 w.heap.size o uD;replace hz3:=cv hz3 hb3.size;replace uD:=cv uD hb3.size)
    | (go_at_call_of 132 (Value.agg #[.string r0,.string r1,.string r2,.string r3,.string r4]);refine (SL _).mono ?_;rintro e w3 ⟨rfl,hb3⟩;replace b2:=aq b2 hb3;have k5:=fun o=>(aR hb3).1 (w.heap.size+1) o hz3;have k6:=fun o=>(aR hb3).1 w.heap.size o uD;replace hz3:=cv hz3 hb3.size;replace uD:=cv uD hb3.size))
   all_goals
    go_wp2;go_ret;exact⟨rfl,ow H0.out b2⟩
  ·rw[aL ⟨jS,hqq⟩]
   rw[dY hqq] at Lh;clear jS;go_enter func141,ntmps141;go_wp2_with (first
    | (go_at_call 134;refine (hname _).mono ?_;rintro e w1 ⟨rfl,hb1⟩;have hz1:=rU hb1;have k1:=mh hb1 (w.heap.size+1);have k0:=mh hb1 w.heap.size;have b1:=pV hb1)
    | (go_at_call 133;go_loud (refine (FZ.out _ b1).mono ?_;rintro e w2 ⟨rfl,hb2⟩;have b2:=aq b1 hb2;have k3:=fun o=>(aR hb2).1 (w.heap.size+1) o (Nat.lt_of_succ_lt hz1);have k4:=fun o=>(aR hb2).1 w.heap.size o (Nat.lt_of_succ_lt (Nat.lt_of_succ_lt hz1));have hz3:w.heap.size+1<w2.heap.size:=cv (Nat.lt_of_succ_lt hz1) hb2.size;have uD:w.heap.size<w2.heap.size:=Nat.lt_of_succ_lt hz3;replace b2:=aB b2)))
   go_region_with (first
    | (go_at_call_of 132 (Value.agg #[.string s0,.string s1,.string s2,.string s3,.string s4]);refine (Tp _).mono ?_;rintro e w3 ⟨rfl,hb3⟩;replace b2:=aq b2 hb3;have k5:=fun o=>(aR hb3).1 (w.heap.size+1) o hz3;have k6:=fun o=>(aR hb3).1 w.heap.size o uD;replace hz3:=cv hz3 hb3.size;replace uD:=cv uD hb3.size)
    | (go_at_call_of 132 (Value.agg #[.string r0,.string r1,.string r2,.string r3,.string r4]);refine (SL _).mono ?_;rintro e w3 ⟨rfl,hb3⟩;replace b2:=aq b2 hb3;have k5:=fun o=>(aR hb3).1 (w.heap.size+1) o hz3;have k6:=fun o=>(aR hb3).1 w.heap.size o uD;replace hz3:=cv hz3 hb3.size;replace uD:=cv uD hb3.size))
   all_goals
    go_wp2;go_ret;exact⟨rfl,ow H0.out b2⟩
 ·have Rw:decide ((16:Int)<=(ks.length:Int))=false:=dY (by omega)
  rw[ay (fun h=>jS h.1)];clear Lh;go_enter func141,ntmps141;go_wp2_with (first
   | (go_at_call 134;refine (hname _).mono ?_;rintro e w1 ⟨rfl,hb1⟩;have hz1:=rU hb1;have k1:=mh hb1 (w.heap.size+1);have b1:=pV hb1)
   | (go_at_call 133;go_loud (refine (FZ.out _ b1).mono ?_;rintro e w2 ⟨rfl,hb2⟩;have b2:=aq b1 hb2)))
  go_region
  all_goals
   go_wp2;go_ret;exact⟨rfl,ow H0.out (aB b2)⟩
end
theorem size_del {D:DataW Value}{kl:Lit}(h:Maps.has D kl=true):Maps.size (D.del kl)<Maps.size D:=by
 cases D with
 | map es=>
  rw[Maps.has_eq,List.any_eq_true] at h;obtain⟨x,hx,hs⟩:=h;rw[DataW.del_eq];show (es.filter _).length<es.length;refine List.length_filter_lt_length_iff_exists.2 ⟨x,hx,?_⟩;unfold ChangeMaps.notKey;rw[hs];simp
 | _=>cases h
theorem LS {w:World}{k:TypeId}{b n m:Nat}{D:DataW Value}(h:w.ownsMap prog k ij b n D)(hm:Maps.size D<=m):w.ownsMap prog k ij b m D:=by
 obtain⟨es,clock,hb,F,hs,rfl⟩:=h;exact⟨es,clock,hb,F,by simpa [Maps.size,length_sorted] using hm,rfl⟩
theorem je.T7 {w:World}{k:TypeId}{b n:Nat}{M:Lit->Option Value}(h:je w k b (n+1) M)(K:Maps.Keyed prog k){t e:TypeId}(ht:prog.underlying t=some (.map k e))
  {key:Value}{kl:Lit}(hkey:keyOf prog k key=some kl)(hM1:(M kl).isSome=true)(ty:TypeId):
  ∃w',(Builtin.delete_ #[t,k] ty #[.map (some b),key]).run prog w=.ok (.tuple #[]) w'/\je w' k b n (Bb M kl none)/\w.grownBy w' (some b)/\w'.heap.size=w.heap.size:=by
 obtain⟨D,hD,hM⟩:=h;obtain⟨w',hrun,CT,hg⟩:=hD.drop K ht hkey ty;have h1:=size_del (D:=D) (kl:=kl) (by rw[Ba (hM kl (K.key hkey))];exact hM1);have h2:=hD.size_le;refine⟨w',hrun,⟨_,LS CT (by omega),Hp hM kl⟩,hg.grown,?_⟩;obtain⟨es,clock,es',clock',hb,rfl⟩:=hg;simp[ChangeMaps.setBlock]
theorem iU.T7 {w:World}{b n:Nat}{f:List ByteArray->Option Value}(h:iU w b (n+1) f){t e:TypeId}(ht:prog.underlying t=some (.map 147 e)){q:List ByteArray}(hq:Good q)(hf:(f q).isSome=true)(ty:TypeId):
  ∃w',(Builtin.delete_ #[t,147] ty #[.map (some b),.agg (av q)]).run prog w=.ok (.tuple #[]) w'/\iU w' b n (upd f q none)/\w.grownBy w' (some b)/\w'.heap.size=w.heap.size:=by
 obtain⟨M,hV,h1,h2⟩:=h;obtain⟨w',hrun,hV',hg,hs⟩:=hV.T7 vN ht (BZ hq) (by rw[h1 q hq];exact hf) ty;refine⟨w',hrun,⟨_,hV',fun x hx=>?_,fun kl hk hne=>?_⟩,hg,hs⟩
 ·by_cases e:x=q
  ·subst e;rw[kH,upd_same]
  ·rw[gQ (fun e'=>e (qH hx hq e')),aJ e,h1 x hx]
 ·by_cases e:kl=lp prog q
  ·rw[e,kH] at hne;exact absurd rfl hne
  ·rw[gQ e] at hne;exact h2 kl hk hne
theorem iU.look {w:World}{b n:Nat}{f:List ByteArray->Option Value}(h:iU w b n f){t e:TypeId}(ht:prog.underlying t=some (.map 147 e)){z:Value}(hz:(zeroValue e).run prog w=.ok z w){q:List ByteArray}(hq:Good q):
  (Instr.lookup t (.map (some b)) (.agg (av q)) false).run prog w=.ok ((f q).getD z) w:=by
 obtain⟨M,hV,h1,_⟩:=h
 have:=hV.look vN ht hz (BZ hq)
 rw[h1 q hq] at this;exact this
section
open Classical
variable {β:Type}
def kg (src dst p:List ByteArray):List ByteArray:=dst++p.drop src.length
noncomputable def carried (f:List ByteArray->Option β)(src dst:List ByteArray)(L:List (List ByteArray)):List ByteArray->Option β:=fun x=>
 if dst <+: x/\src++x.drop dst.length ∈ L then f (src++x.drop dst.length) else if x ∈ L then none else f x
theorem zI (f:List ByteArray->Option β)(src dst:List ByteArray)(x:List ByteArray):carried f src dst [] x=f x:=by
 unfold carried;simp
theorem xA {src p:List ByteArray}(h:src <+: p):src++p.drop src.length=p:=by
 obtain⟨r,rfl⟩:=h;rw[List.drop_left]
theorem F0 {f:List ByteArray->Option β}{src dst:List ByteArray}{L:List (List ByteArray)}{p:List ByteArray}(rV:∀x,dst <+: x->f x=none)(hL:∀x ∈ L,src <+: x/\f x≠none)(hp:src <+: p)(hf:f p≠none)(hn:p ∉ L):
  carried f src dst L p=f p/\∀x,upd (upd (carried f src dst L) (kg src dst p) (f p)) p none x=carried f src dst (L ++ [p]) x:=by
 have Vg:¬dst <+: p:=fun h=>hf (rV p h);refine⟨by unfold carried;rw[ay (fun h=>Vg h.1),ay hn],fun x=>?_⟩;by_cases hx:x=p
 ·subst hx
  rw[upd_same];unfold carried;rw[ay (fun h=>Vg h.1),aL (by simp)]
 ·rw[aJ hx]
  by_cases hm:x=kg src dst p
  ·subst hm
   rw[upd_same];unfold carried kg;rw[List.drop_left,xA hp,aL ⟨List.prefix_append _ _,by simp⟩]
  ·rw[aJ hm]
   unfold carried;by_cases hd:dst <+: x
   ·have hne:src++x.drop dst.length≠p:=fun e=>hm (by
     unfold kg;rw[<-e,List.drop_left,xA hd])
    have e1:(dst <+: x/\src++x.drop dst.length ∈ L)↔(dst <+: x/\src++x.drop dst.length ∈ L ++ [p]):=(by simp[hne]);have e2:(x ∈ L)↔(x ∈ L ++ [p]):=by simp[hx]
    simp only[e1,e2]
   ·have e2:(x ∈ L)↔(x ∈ L ++ [p]):=by simp[hx]
    simp only[hd,false_and,if_false,e2]
theorem zJ {f:List ByteArray->Option β}{src dst:List ByteArray}{L:List (List ByteArray)}(rV:∀x,dst <+: x->f x=none)(hL:∀x,x ∈ L↔(src <+: x/\f x≠none))(x:List ByteArray):carried f src dst L x=ez f src dst x:=by
 unfold carried ez;by_cases hd:dst <+: x
 ·rw[aL hd]
  by_cases hm:src++x.drop dst.length ∈ L
  ·rw[aL ⟨hd,hm⟩]
  ·rw[ay (fun h=>hm h.2)]
   have h0:f (src++x.drop dst.length)=none:=by
    cases he:f (src++x.drop dst.length) with
    | none=>rfl
    | some y=>exact absurd ((hL _).2 ⟨List.prefix_append _ _,by rw[he];simp⟩) hm
   rw[h0];split
   ·rfl
   ·exact rV x hd
 ·rw[ay hd,ay (fun h=>hd h.1)]
  by_cases hs:src <+: x
  ·rw[aL hs]
   by_cases hm:x ∈ L
   ·rw[aL hm]
   ·rw[ay hm]
    cases he:f x with
    | none=>rfl
    | some y=>exact absurd ((hL _).2 ⟨hs,by rw[he];simp⟩) hm
  ·rw[ay hs,ay (fun h=>hs ((hL _).1 h).1)]
end
def qO (f:List ByteArray->Option Value)(src:List ByteArray)(left:Lit->Bool)(L:List (List ByteArray)):Prop:=
 L.Nodup/\∀x,x ∈ L↔(Good x/\src <+: x/\f x≠none/\left (lp prog x)=false)
theorem De {f:List ByteArray->Option Value}{src:List ByteArray}{left:Lit->Bool}{L:List (List ByteArray)}(h:qO f src left L){q:List ByteArray}(hq:Good q)(hs:¬src <+: q):qO f src (fun z=>left z && !z.sameKey (lp prog q)) L:=by
 refine⟨h.1,fun x=>?_⟩;rw[h.2 x];refine⟨fun⟨a,b,c,d⟩=>⟨a,b,c,by simp only[d,Bool.false_and]⟩,fun⟨a,b,c,d⟩=>⟨a,b,c,?_⟩⟩;have hne:lp prog x≠lp prog q:=fun e=>hs (by rw[<-qH a hq e];exact b);simp only[Maps.sameKey_ne hne,Bool.not_false,Bool.and_true] at d;exact d
theorem F2 {f:List ByteArray->Option Value}{src:List ByteArray}{left:Lit->Bool}{L:List (List ByteArray)}(h:qO f src left L){q:List ByteArray}(hq:Good q)(hs:src <+: q)(hf:f q≠none)(hl:left (lp prog q)=true):qO f src (fun z=>left z && !z.sameKey (lp prog q)) (L ++ [q]):=by
 refine⟨List.nodup_append.2 ⟨h.1,by simp,fun a ha b hb=>?_⟩,fun x=>?_⟩
 ·simp only[List.mem_singleton] at hb
  subst hb;rintro rfl
  have:=((h.2 a).1 ha).2.2.2
  rw[hl] at this;cases this
 ·simp only[List.mem_append,List.mem_singleton]
  by_cases e:x=q
  ·subst e
   refine⟨fun _=>⟨hq,hs,hf,?_⟩,fun _=>.inr rfl⟩;have hk:=WideAt.sameKey_self (NJ hq);generalize lp prog x=kx at hk hl;show (left kx && !kx.sameKey kx)=false;rw[hk,Bool.not_true,Bool.and_false]
  ·rw[h.2 x]
   refine⟨fun hh=>?_,fun⟨a,b,c,d⟩=>.inl ⟨a,b,c,?_⟩⟩
   ·rcases hh with ⟨a,b,c,d⟩ | hh
    ·exact⟨a,b,c,by simp only[d,Bool.false_and]⟩
    ·exact absurd hh e
   ·have hne:lp prog x≠lp prog q:=fun e'=>e (qH a hq e')
    simp only[Maps.sameKey_ne hne,Bool.not_false,Bool.and_true] at d;exact d
end Go.Proofs.YtlgidcmmgohagaaGreat
