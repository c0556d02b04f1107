/- What is proved here: the law's 'store' for Up and for Ud. -/
import Derived.Test.YtlgidcmmgohagaaGreatFileM12
import Derived.Test.YtlgidcmmgohagaaGreatFileM23
import Derived.Deep.Cut
import Derived.Deep.CutRange
namespace Go.Proofs.YtlgidcmmgohagaaGreat
open Go.RowKit Go.Sort Go.Shelf Go.Proofs.Tryz
set_option linter.unusedVariables false
set_option maxRecDepth 100000
set_option maxHeartbeats 16000000
theorem Ao(W:Nat)(a1 a2 a3:Int)(S T:eu)(la:e5)(lm lc:Nat)(R:World->Prop)(w:World)
  (h1:∀a,gS w a->eK 46 #[fj W] a fun e w'=>e=.returned (.bool true)/\R w'):
  eK 20 #[fj W,.agg (ut 6 a1 a2 a3 S T la lm lc)] w fun e w'=>e=.returned (.bool true)/\R w':=by
 unfold ut;have b:Hid _:=h1;clear h1;go_enter func20,ntmps20;go_wp2_with fail;refine g7 (b.out _ ((i7 _ _).alloc (io _) _)) ?_;rintro e d ⟨rfl,c⟩;go_wp2;go_ret;exact⟨rfl,c⟩
theorem Iq(W s:Nat)(a1 b a3 e d:Int)(S T:eu)(la:e5)(lm lc:Nat)(w:World)(hW:W<w.heap.size)(c0:w.cell? (eb W 0)=some (fj s))(f:d≠2)
  (hid:∀a,gS w a->eK 39 #[fj W,ed b] a (tz (ed b) a))
  (g:∀a,gS w a->eK 41 #[fj W,ed b] a (tz (ed e) a))
  (h:∀a,gS w a->eK 42 #[fj W,ed e] a (tz (ed d) a))
  (i:∀a,gS w a->eK 27 #[fj s,ed b] a (ml (.tuple #[.pointer none,ed 13]) a)):
  eK 20 #[fj W,.agg (ut 7 a1 b a3 S T la lm lc)] w (ml (.bool true) w):=by
 unfold ut;have c:∀B,gS w (w.alloc B):=fun B=>(i7 _ _).alloc (io _) _
 have j:=fun(w':World)=>u3 13 w';have p:(d==2)=false:=by simpa using f
 have q:(d != 2)=true:=by simpa using f
 have k:Hid _:=hid;have l:Hid _:=g;have m:Hid _:=h;have n:Hid _:=i;clear hid g h i;go_enter func20,ntmps20;go_wp2_with(first
  |(go_at_call 39;refine g7 (k.out _ (c _)) ?_;rintro _ _ ⟨rfl,rfl⟩)
  |(go_at_call 41;refine g7 (l.out _ (c _)) ?_;rintro _ _ ⟨rfl,rfl⟩)
  |(go_at_call 42;refine g7 (m.out _ (c _)) ?_;rintro _ _ ⟨rfl,rfl⟩)
  |(go_at_call 27;refine g7 (n.out _ (c _)) ?_;rintro _ r ⟨rfl,o⟩)
  |(go_at_call 22;refine g7 (j _) ?_;rintro _ _ ⟨rfl,rfl⟩))
 go_ret;exact⟨rfl,(c _).trans (o.mono (by simp))⟩
theorem Ir(W j n pc d:Nat)(a1 b a3 e:Int)(S T:eu)(la:e5)(lm lc:Nat)(w:World)(hW:W<w.heap.size)(c4:w.cell? (eb W 4)=some (.slice (some (eb d 0)) n pc))(l:j<n)(hn:n<=1000000000)(m:d<w.heap.size)(o:w.cell? (eb d j)=some (ed e))(p:300<e)
  (hid:∀a,gS w a->eK 39 #[fj W,ed b] a (tz (ed b) a))
  (f:∀a,gS w a->eK 41 #[fj W,ed b] a (tz (ed (j:Int)) a))
  (g:∀a,gS w a->eK 42 #[fj W,ed (j:Int)] a (tz (ed 2) a)):
  eK 20 #[fj W,.agg (ut 7 a1 b a3 S T la lm lc)] w (ml (.bool true) w):=by
 unfold ut;have c:∀B,gS w (w.alloc B):=fun B=>(i7 _ _).alloc (io _) _
 have q:(j:Int)<(n:Int):=by omega
 have h:Hid _:=hid;have i:Hid _:=f;have k:Hid _:=g;clear hid f g;go_enter func20,ntmps20;go_wp2_with(first
  |(go_at_call 39;refine g7 (h.out _ (c _)) ?_;rintro _ _ ⟨rfl,rfl⟩)
  |(go_at_call 41;refine g7 (i.out _ (c _)) ?_;rintro _ _ ⟨rfl,rfl⟩)
  |(go_at_call 42;refine g7 (k.out _ (c _)) ?_;rintro _ _ ⟨rfl,rfl⟩))
 go_ret;exact⟨rfl,c _⟩
theorem RA:(prog.info? 32).map (fun i=>(i.zero,i.size,i.bytes))=some (some (.pointer none),1,8):=by kernel_rfl
theorem RB:(prog.info? 115).map (fun i=>(i.zero,i.size,i.bytes))=some (some (.pointer none),1,8):=by kernel_rfl
theorem JP{b:Nat}:∀a∈[ptr b],a.oneCell'=true:=by intro a hu;simp at hu;subst hu;rfl
section
variable {R:pI}{tg:eM}{w:World}{B0 W s r p lim:Nat}{ei ep:List Ob}{got:List Int}{ws:List Slot}{ds:List Doc}{q8 q9 fH:Nat}
theorem e7.Qc(h:e7 R tg w B0 W s r p lim ei ep got ws ds q8 q9 fH):w.cell? (eb W 0)=some (fj s)/\w.cell? (eb W 1)=some (fj r)/\W<w.heap.size/\w.cell? (eb W 5)=some (.slice R.wa ws.length R.wc)/\w.cell? (eb W 6)=some (.slice R.ta ds.length R.tc):=by
 obtain⟨h0,h1,h2,_⟩:=fI.cells h.w3.law;obtain⟨a,a1,a2,a3,b,hW⟩:=h.block;exact⟨h0,h1,h2,by simp[World.cell?,hW],by simp[World.cell?,hW]⟩
theorem eN.moved{P:Nat×Nat->Prop}{ey:eM}{w':World}{S c:Nat}{nodes:List eD}{data:eB}{rest:fE}(h:eN (fun k=>tg k=(0,c)) w S nodes data rest)(hf:gF tg w)(m:eo P tg ey w w')(hc:c≠0)(a:¬P (0,c)):eN (fun k=>ey k=(0,c)) w' S nodes data rest:=by
 have hne:((0,c):Nat×Nat)≠(0,0):=fun e=>hc (rp Prod.snd e);obtain⟨na,nc,da,dc,b⟩:=h;exact⟨na,nc,da,dc,b.keep (fun k hk=>(m.tags k (hf.lt (by rw[hk];exact hne))).trans hk) (fun k hk=>m.block k (hf.lt (by rw[hk];exact hne)) (by rw[hk];exact a))⟩
theorem e7.co{c a:World}{b:eM}(h:e7 R tg w B0 W s r p lim ei ep got ws ds q8 q9 fH)(e:gS w c)(d:eo (fun _=>False) tg b c a)(f:fO b a s p ei got false lim):∃g,e7 g b a B0 W s r p lim ei ep got ws ds q8 q9 fH:=by
 have hm:=h.below e;obtain⟨_,pt,i,j,k,_,l⟩:=f;exact⟨_,hm.after d (fun _ h=>h) rfl i j k l rfl (fun x hx=>(hm.uH x hx).moves d (fun _ h=>h)) hm.slot hm.cnt⟩
theorem Pk(h:e7 R tg w B0 W s r p lim ei ep got ws ds q8 q9 fH)(hn:ws.length<=100000000)(hd:ds.length=ws.length)(j n pc H:Nat)(a1 o a3 I:Int)(S T:eu)(la:e5)(lm lc:Nat)(c4:w.cell? (eb W 4)=some (.slice (some (eb H 0)) n pc))(bd:j<n)(be:n<=1000000000)(bf:H<w.heap.size)(bg:w.cell? (eb H j)=some (ed I))(aF:¬300<I)
  (v:WG)(t0:LT)(ac:∀x,v.fs.kn x=0)(nodes:List eD)(data:eB){PR:fE->Prop}
  (hid:∀a,gS w a->eK 39 #[fj W,ed o] a (tz (ed o) a))
  (ad:∀a,gS w a->eK 41 #[fj W,ed o] a (tz (ed (j:Int)) a))
  (ae:∀a,gS w a->eK 42 #[fj W,ed (j:Int)] a (tz (ed 2) a))
  (af:∀a,gS w a->eK 27 #[fj s,ed o] a fun e w'=>∃B y,e=.returned (.tuple #[fj B.wb,ed 0])/\eo (fun _=>False) tg y a w'/\fO y w' s p ei got false lim/\xk y w' p ei lim (ws.length+2,B,v,t0))
  (ag:∀(ah:Nat->Prop) (b:World),eU ah b r ep->(∀k,ah k->k<b.heap.size)->eK 47 #[fj r,ed (j:Int)] b fun e w'=>∃rest,PR rest/\e=.returned (fj b.heap.size)/\eN (fun k=>b.heap.size<=k/\k<w'.heap.size) w' b.heap.size nodes data rest/\gS b w'):
  eK 20 #[fj W,.agg (ut 7 a1 o a3 S T la lm lc)] w fun e w'=>e=.returned (.bool true)/\∃aG ey B f rest,PR rest/\e7 aG ey w' B0 W s r p lim ei ep got (ws++[(ws.length+2,B,v,t0)]) (ds++[(f,nodes,data,rest)]) q8 q9 fH/\Below B0 w w':=by
 unfold ut;obtain⟨aH,aI,aJ,aK,aL⟩:=H4 RA;obtain⟨aM,aN,aO,aP,aQ⟩:=H4 RB;have d:∀B,gS w (w.alloc B):=fun B=>(i7 _ _).alloc (io _) _
 have bh:(j:Int)<(n:Int):=by omega
 have bi:decide (300<I)=false:=m6 aF;obtain⟨c0,c1,bj,_,_⟩:=h.Qc;have z:Hid _:=h;have ai:Hid _:=hid;have aj:Hid _:=ad;have ak:Hid _:=ae;have al:Hid _:=af;have am:Hid _:=ag;have J:Hid (ds.length=ws.length):=hd;have aR:Hid _:=ac;clear hid ad ae af ag h hd ac;go_enter func20,ntmps20;go_wp2_with(first
  |(go_at_call 39;refine g7 (ai.out _ (d _)) ?_;rintro _ _ ⟨rfl,rfl⟩)
  |(go_at_call 41;refine g7 (aj.out _ (d _)) ?_;rintro _ _ ⟨rfl,rfl⟩)
  |(go_at_call 42;refine g7 (ak.out _ (d _)) ?_;rintro _ _ ⟨rfl,rfl⟩))
 refine g7 (al.out _ (d _)) ?_;rintro _ b ⟨B,y,rfl,g,an,ao⟩;have ap:Below B0 w b:=(z.out.low (w':=b) (X:=fun _=>False) ⟨g.os,g.tape,g.output,pD (d _).size g.size,fun k hk _=>(g.block k (kv hk (d _).size) (fun h=>h)).trans ((d _).block k hk)⟩ (fun k h=>h.elim));have aS:Hid _:=ap;have bk:=z.out.size;obtain⟨m,K⟩:=z.out.co (d _) g an;obtain⟨d0,d1,bl,_,_⟩:=K.Qc;have q:Hid _:=K;have aq:Hid _:=ao;clear g an ao K z al ai aj ak ap;go_wp2_with fail;refine g7 (am.out _ b q.out.w3.ref (fun k hk=>(q.out.w3.sep.rl k hk).1)) ?_;rintro _ w3 ⟨rest,aT,rfl,ar,L⟩;have aU:Hid (Below B0 w w3):=aS.out.trans (L.mono q.out.size);obtain⟨bm,au,t,M⟩:=q.out.tagged (Sx:=fun _=>True) L ar (8+ds.length) (by omega);have av:=aq.out.moves au (fun _ h=>h);obtain⟨aV,aW,bn,aw,N⟩:=t.Qc;obtain⟨aX,aY,aZ,a0,a2,ax⟩:=t.block;obtain⟨f,ay⟩:∃f,f=b.heap.size:=⟨_,rfl⟩;rw[<-ay]at M ⊢;obtain⟨k,hk⟩:∃k,k=ws.length:=⟨_,rfl⟩;have A:Hid (k=ws.length):=hk;have C:Hid (w3.ownsRow 0 32 1 (.slice m.wa k m.wc) k (ws.map fun x=>ptr x.2.1.wb)):=by rw[hk];exact t.zh
 rw[<-hk]at aw hn;have O:Hid _:=t;have az:Hid _:=av;have aA:Hid _:=M;have u:Hid _:=ax;clear am q aq ar L au t av M ax ay hk d0 d1 N;go_upto_region 46 with fail
 go_cut []from 28 to 318 (fun wx=>Hid (∃c MR,e7 c MR wx B0 W s r p lim ei ep got (ws++[(ws.length+2,B,v,t0)]) ds q8 q9 fH/\eN (fun k=>MR k=(0,8+ds.length)) wx f nodes data rest/\Below B0 w wx))
 case first=>
  go_wp2_with(at_builtin;refine hE rfl (.tmp 297) (.tmp 299) 62 rfl 0 32 aH _ 1 8 underlying62 aI aJ aK aL rfl (by decide) (.slice m.wa k m.wc) k (ws.map fun x=>ptr x.2.1.wb) rfl (mL C.out _) (eb w3.heap.size 0) 1 1 [ptr B.wb] rfl rfl (one_cell w3 _ _ _ rfl) JP (by unfold maxLen;omega) (by omega) (oY _) ?_);intro bo Q U V aB;obtain⟨bp,c4,rfl⟩:=ej U (by omega);have D:=oX u.out (hZ _ _) (by simp) V (eI C.out u.out (by decide));have bq:Q.cell? (eb W 5)=some (.slice m.wa ws.length m.wc):=by simp[World.cell?,D]
  have f54:Q.frozen? (eb W 5)=false:=by simp[World.frozen?,D]
  have br:W<Q.heap.size:=(lF.1 D).1;have P:=kw (i:=5) u.out C.out (by decide) (hZ w3 _) (by simp) ⟨rfl,rfl,rfl⟩ U V aB (by simp);have Y:Hid _:=P;clear P U V aB D;go_wp2_with fail;go_meet;have P:=Y.out;rw[A.out]at P ⊢;obtain⟨c,MR,a4,l,E⟩:=O.out.UQ az.out aR.out u.out P;exact⟨c,MR,l,eN.moved aA.out O.out.fresh a4 (by omega) (by rintro(e|e)<;>(have:=rp Prod.snd e;simp only at this;omega)),aU.out.trans E⟩
 case rest=>
  rename World=>w5;obtain⟨c,MR,l,aC,E⟩:=hcut.out;have a5:Hid _:=E;clear E;obtain⟨f0,f1,bs,_,N⟩:=l.Qc;obtain⟨aX,aY,aZ,a0,a2,aD⟩:=l.block;have Z:Hid (w5.ownsRow 0 115 1 (.slice c.ta k c.tc) k (ds.map fun x=>ptr x.1)):=by rw[A.out,<-J.out];exact l.fP
  rw[J.out,<-A.out]at N;have a6:Hid _:=l;have a7:Hid _:=aC;have F:Hid _:=aD;clear hcut l aC aD O az aA u C aw aV aW;go_wp2_with(at_builtin;refine hE rfl (.tmp 307) (.tmp 309) 63 rfl 0 115 aM _ 1 8 underlying63 aN aO aP aQ rfl (by decide) (.slice c.ta k c.tc) k (ds.map fun x=>ptr x.1) rfl (mL Z.out _) (eb w5.heap.size 0) 1 1 [ptr f] rfl rfl (one_cell w5 _ _ _ rfl) JP (by unfold maxLen;omega) (by omega) (oY _) ?_);intro v6 w6 aa ab aE;obtain⟨bt,c6,rfl⟩:=ej aa (by omega);have G:=oX F.out (hZ _ _) (by simp) ab (eI Z.out F.out (by decide));have bu:w6.cell? (eb W 6)=some (.slice c.ta ds.length c.tc):=by simp[World.cell?,G]
  have f66:w6.frozen? (eb W 6)=false:=by simp[World.frozen?,G]
  have bv:W<w6.heap.size:=(lF.1 G).1;have P:=kw (i:=6) F.out Z.out (by decide) (hZ w5 _) (by simp) ⟨rfl,rfl,rfl⟩ aa ab aE (by simp);have Y:Hid _:=P;clear P aa ab aE G;go_wp2;go_ret;have P:=Y.out;rw[show k=ds.length by rw[J.out];exact A.out]at P ⊢;obtain⟨a8,a9,bb,bc⟩:=a6.out.UR a7.out F.out P;exact⟨rfl,a8,a9,B,f,rest,aT,bb,a5.out.trans bc⟩
end
end Go.Proofs.YtlgidcmmgohagaaGreat
