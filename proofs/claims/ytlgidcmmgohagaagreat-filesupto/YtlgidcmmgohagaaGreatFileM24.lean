/- What is proved here: the law's 'store' for fid and for eta. -/
import Derived.Test.YtlgidcmmgohagaaGreatFileM12
import Derived.Test.YtlgidcmmgohagaaGreatFileM23
import Derived.Deep.Cut
import Derived.Deep.CutRange
namespace Go.Proofs.YtlgidcmmgohagaaGreat
open Go.RowKit Go.Sort Go.Shelf Go.Proofs.Tryz
set_option linter.unusedVariables false
set_option maxRecDepth 100000
set_option maxHeartbeats 16000000
theorem Dr(W:Nat)(a1 a2 a3:Int)(S T:eD)(la:fD)(lm lc:Nat)(R:World->Prop)(w:World)
  (h1:∀a,ik w a->gc 46 #[hh W] a fun e w'=>e=.returned (.bool true)/\R w'):
  gc 20 #[hh W,.agg (Hm 6 a1 a2 a3 S T la lm lc)] w fun e w'=>e=.returned (.bool true)/\R w':=by
 unfold Hm;have b:Hid _:=h1;clear h1;go_enter func20,ntmps20;go_wp2_with fail;refine io (b.out _ ((lh _ _).alloc (kx _) _)) ?_;rintro e d ⟨rfl,c⟩;go_wp2;go_ret;exact⟨rfl,c⟩
theorem MX(W s:Nat)(a1 b a3 e d:Int)(S T:eD)(la:fD)(lm lc:Nat)(w:World)(hW:W<w.heap.size)(c0:w.cell? (eI W 0)=some (hh s))(f:d≠2)
  (hid:∀a,ik w a->gc 39 #[hh W,eJ b] a (Do (eJ b) a))
  (g:∀a,ik w a->gc 41 #[hh W,eJ b] a (Do (eJ e) a))
  (h:∀a,ik w a->gc 42 #[hh W,eJ e] a (Do (eJ d) a))
  (i:∀a,ik w a->gc 27 #[hh s,eJ b] a (pB (.tuple #[.pointer none,eJ 13]) a)):
  gc 20 #[hh W,.agg (Hm 7 a1 b a3 S T la lm lc)] w (pB (.bool true) w):=by
 unfold Hm;have c:∀B,ik w (w.alloc B):=fun B=>(lh _ _).alloc (kx _) _
 have j:=fun(w':World)=>IR 13 w';have p:(d==2)=false:=by simpa using f
 have q:(d != 2)=true:=by simpa using f
 have k:Hid _:=hid;have l:Hid _:=g;have m:Hid _:=h;have n:Hid _:=i;clear hid g h i;go_enter func20,ntmps20;go_wp2_with(first
  |(go_at_call 39;refine io (k.out _ (c _)) ?_;rintro _ _ ⟨rfl,rfl⟩)
  |(go_at_call 41;refine io (l.out _ (c _)) ?_;rintro _ _ ⟨rfl,rfl⟩)
  |(go_at_call 42;refine io (m.out _ (c _)) ?_;rintro _ _ ⟨rfl,rfl⟩)
  |(go_at_call 27;refine io (n.out _ (c _)) ?_;rintro _ r ⟨rfl,o⟩)
  |(go_at_call 22;refine io (j _) ?_;rintro _ _ ⟨rfl,rfl⟩))
 go_ret;exact⟨rfl,(c _).trans (o.mono (by simp))⟩
theorem MZ(W j n pc d:Nat)(a1 b a3 e:Int)(S T:eD)(la:fD)(lm lc:Nat)(w:World)(hW:W<w.heap.size)(c4:w.cell? (eI W 4)=some (.slice (some (eI d 0)) n pc))(l:j<n)(hn:n<=1000000000)(m:d<w.heap.size)(o:w.cell? (eI d j)=some (eJ e))(p:300<e)
  (hid:∀a,ik w a->gc 39 #[hh W,eJ b] a (Do (eJ b) a))
  (f:∀a,ik w a->gc 41 #[hh W,eJ b] a (Do (eJ (j:Int)) a))
  (g:∀a,ik w a->gc 42 #[hh W,eJ (j:Int)] a (Do (eJ 2) a)):
  gc 20 #[hh W,.agg (Hm 7 a1 b a3 S T la lm lc)] w (pB (.bool true) w):=by
 unfold Hm;have c:∀B,ik w (w.alloc B):=fun B=>(lh _ _).alloc (kx _) _
 have q:(j:Int)<(n:Int):=by omega
 have h:Hid _:=hid;have i:Hid _:=f;have k:Hid _:=g;clear hid f g;go_enter func20,ntmps20;go_wp2_with(first
  |(go_at_call 39;refine io (h.out _ (c _)) ?_;rintro _ _ ⟨rfl,rfl⟩)
  |(go_at_call 41;refine io (i.out _ (c _)) ?_;rintro _ _ ⟨rfl,rfl⟩)
  |(go_at_call 42;refine io (k.out _ (c _)) ?_;rintro _ _ ⟨rfl,rfl⟩))
 go_ret;exact⟨rfl,c _⟩
theorem Yg:(prog.info? 32).map (fun i=>(i.zero,i.size,i.bytes))=some (some (.pointer none),1,8):=by kernel_rfl
theorem Yh:(prog.info? 115).map (fun i=>(i.zero,i.size,i.bytes))=some (some (.pointer none),1,8):=by kernel_rfl
theorem OM{b:Nat}:∀a∈[ptr b],a.oneCell'=true:=by intro a hu;simp at hu;subst hu;rfl
section
variable {R:sg}{tg:eV}{w:World}{B0 W s r p lim:Nat}{ey eC:List Ob}{got:List Int}{ws:List Slot}{ds:List Doc}{q8 q9 fV:Nat}
theorem fF.Wu(h:fF R tg w B0 W s r p lim ey eC got ws ds q8 q9 fV):w.cell? (eI W 0)=some (hh s)/\w.cell? (eI W 1)=some (hh r)/\W<w.heap.size/\w.cell? (eI W 5)=some (.slice R.wa ws.length R.wc)/\w.cell? (eI W 6)=some (.slice R.ta ds.length R.tc):=by
 obtain⟨h0,h1,h2,_⟩:=fZ.cells h.w3.law;obtain⟨a,a1,a2,a3,b,hW⟩:=h.block;exact⟨h0,h1,h2,by simp[World.cell?,hW],by simp[World.cell?,hW]⟩
theorem eW.moved{P:Nat×Nat->Prop}{eF:eV}{w':World}{S c:Nat}{nodes:List eN}{data:eL}{rest:fQ}(h:eW (fun k=>tg k=(0,c)) w S nodes data rest)(hf:jt tg w)(m:eB P tg eF w w')(hc:c≠0)(a:¬P (0,c)):eW (fun k=>eF k=(0,c)) w' S nodes data rest:=by
 have hne:((0,c):Nat×Nat)≠(0,0):=fun e=>hc (xr Prod.snd e);obtain⟨na,nc,da,dc,b⟩:=h;exact⟨na,nc,da,dc,b.keep (fun k hk=>(m.tags k (hf.lt (by rw[hk];exact hne))).trans hk) (fun k hk=>m.block k (hf.lt (by rw[hk];exact hne)) (by rw[hk];exact a))⟩
theorem fF.co{c a:World}{b:eV}(h:fF R tg w B0 W s r p lim ey eC got ws ds q8 q9 fV)(e:ik w c)(d:eB (fun _=>False) tg b c a)(f:gq b a s p ey got false lim):∃g,fF g b a B0 W s r p lim ey eC got ws ds q8 q9 fV:=by
 have hm:=h.below e;obtain⟨_,pt,i,j,k,_,l⟩:=f;exact⟨_,hm.after d (fun _ h=>h) rfl i j k l rfl (fun x hx=>(hm.xK x hx).moves d (fun _ h=>h)) hm.slot hm.cnt⟩
theorem Vz(h:fF R tg w B0 W s r p lim ey eC got ws ds q8 q9 fV)(hn:ws.length<=100000000)(hd:ds.length=ws.length)(j n pc H:Nat)(a1 o a3 I:Int)(S T:eD)(la:fD)(lm lc:Nat)(c4:w.cell? (eI W 4)=some (.slice (some (eI H 0)) n pc))(bl:j<n)(bm:n<=1000000000)(bn:H<w.heap.size)(bo:w.cell? (eI H j)=some (eJ I))(aF:¬300<I)
  (v:WG)(t0:LT)(ac:∀x,v.fs.kn x=0)(nodes:List eN)(data:eL){PR:fQ->Prop}
  (hid:∀a,ik w a->gc 39 #[hh W,eJ o] a (Do (eJ o) a))
  (ad:∀a,ik w a->gc 41 #[hh W,eJ o] a (Do (eJ (j:Int)) a))
  (ae:∀a,ik w a->gc 42 #[hh W,eJ (j:Int)] a (Do (eJ 2) a))
  (af:∀a,ik w a->gc 27 #[hh s,eJ o] a fun e w'=>∃B y,e=.returned (.tuple #[hh B.wb,eJ 0])/\eB (fun _=>False) tg y a w'/\gq y w' s p ey got false lim/\zY y w' p ey lim (ws.length+2,B,v,t0))
  (ag:∀(ah:Nat->Prop) (b:World),fh ah b r eC->(∀k,ah k->k<b.heap.size)->gc 47 #[hh r,eJ (j:Int)] b fun e w'=>∃rest,PR rest/\e=.returned (hh b.heap.size)/\eW (fun k=>b.heap.size<=k/\k<w'.heap.size) w' b.heap.size nodes data rest/\ik b w'):
  gc 20 #[hh W,.agg (Hm 7 a1 o a3 S T la lm lc)] w fun e w'=>e=.returned (.bool true)/\∃aG eF B f rest,PR rest/\fF aG eF w' B0 W s r p lim ey eC got (ws++[(ws.length+2,B,v,t0)]) (ds++[(f,nodes,data,rest)]) q8 q9 fV/\Below B0 w w':=by
 unfold Hm;obtain⟨aH,aI,aJ,aK,aL⟩:=iq Yg;obtain⟨aM,aN,aO,aP,aQ⟩:=iq Yh;have d:∀B,ik w (w.alloc B):=fun B=>(lh _ _).alloc (kx _) _
 have bp:(j:Int)<(n:Int):=by omega
 have bq:decide (300<I)=false:=rk aF;obtain⟨c0,c1,br,_,_⟩:=h.Wu;have z:Hid _:=h;have ai:Hid _:=hid;have aj:Hid _:=ad;have ak:Hid _:=ae;have al:Hid _:=af;have am:Hid _:=ag;have J:Hid (ds.length=ws.length):=hd;have aR:Hid _:=ac;clear hid ad ae af ag h hd ac;go_enter func20,ntmps20;go_wp2_with(first
  |(go_at_call 39;refine io (ai.out _ (d _)) ?_;rintro _ _ ⟨rfl,rfl⟩)
  |(go_at_call 41;refine io (aj.out _ (d _)) ?_;rintro _ _ ⟨rfl,rfl⟩)
  |(go_at_call 42;refine io (ak.out _ (d _)) ?_;rintro _ _ ⟨rfl,rfl⟩))
 refine io (al.out _ (d _)) ?_;rintro _ b ⟨B,y,rfl,g,an,ao⟩;have ap:Below B0 w b:=(z.out.low (w':=b) (X:=fun _=>False) ⟨g.os,g.tape,g.output,wl (d _).size g.size,fun k hk _=>(g.block k (lO hk (d _).size) (fun h=>h)).trans ((d _).block k hk)⟩ (fun k h=>h.elim));have aS:Hid _:=ap;have bs:=z.out.size;obtain⟨m,K⟩:=z.out.co (d _) g an;obtain⟨d0,d1,bt,_,_⟩:=K.Wu;have q:Hid _:=K;have aq:Hid _:=ao;clear g an ao K z al ai aj ak ap;go_wp2_with fail;refine io (am.out _ b q.out.w3.ref (fun k hk=>(q.out.w3.sep.rl k hk).1)) ?_;rintro _ w3 ⟨rest,aT,rfl,ar,L⟩;have aU:Hid (Below B0 w w3):=aS.out.trans (L.mono q.out.size);obtain⟨bu,au,t,M⟩:=q.out.tagged (Sx:=fun _=>True) L ar (8+ds.length) (by omega);have av:=aq.out.moves au (fun _ h=>h);obtain⟨aV,aW,bv,aw,N⟩:=t.Wu;obtain⟨aX,aY,aZ,bb,bc,ax⟩:=t.block;obtain⟨f,ay⟩:∃f,f=b.heap.size:=⟨_,rfl⟩;rw[<-ay]at M ⊢;obtain⟨k,hk⟩:∃k,k=ws.length:=⟨_,rfl⟩;have A:Hid (k=ws.length):=hk;have C:Hid (w3.ownsRow 0 32 1 (.slice m.wa k m.wc) k (ws.map fun x=>ptr x.2.1.wb)):=by rw[hk];exact t.Ck
 rw[<-hk]at aw hn;have O:Hid _:=t;have az:Hid _:=av;have aA:Hid _:=M;have u:Hid _:=ax;clear am q aq ar L au t av M ax ay hk d0 d1 N;go_upto_region 46 with fail
 go_cut []from 28 to 318 (fun wx=>Hid (∃c SH,fF c SH wx B0 W s r p lim ey eC got (ws++[(ws.length+2,B,v,t0)]) ds q8 q9 fV/\eW (fun k=>SH k=(0,8+ds.length)) wx f nodes data rest/\Below B0 w wx))
 case first=>
  go_wp2_with(at_builtin;refine jp rfl (.tmp 297) (.tmp 299) 62 rfl 0 32 aH _ 1 8 underlying62 aI aJ aK aL rfl (by decide) (.slice m.wa k m.wc) k (ws.map fun x=>ptr x.2.1.wb) rfl (pE C.out _) (eI w3.heap.size 0) 1 1 [ptr B.wb] rfl rfl (one_cell w3 _ _ _ rfl) OM (by unfold maxLen;omega) (by omega) (tk _) ?_);intro bw Q U V aB;obtain⟨bx,c4,rfl⟩:=fj U (by omega);have D:=sq u.out (jz _ _) (by simp) V (fX C.out u.out (by decide));have bz:Q.cell? (eI W 5)=some (.slice m.wa ws.length m.wc):=by simp[World.cell?,D]
  have f54:Q.frozen? (eI W 5)=false:=by simp[World.frozen?,D]
  have bA:W<Q.heap.size:=(nX.1 D).1;have P:=ma (i:=5) u.out C.out (by decide) (jz w3 _) (by simp) ⟨rfl,rfl,rfl⟩ U V aB (by simp);have Y:Hid _:=P;clear P U V aB D;go_wp2_with fail;go_meet;have P:=Y.out;rw[A.out]at P ⊢;obtain⟨c,SH,bd,l,E⟩:=O.out.aar az.out aR.out u.out P;exact⟨c,SH,l,eW.moved aA.out O.out.fresh bd (by omega) (by rintro(e|e)<;>(have:=xr Prod.snd e;simp only at this;omega)),aU.out.trans E⟩
 case rest=>
  rename World=>w5;obtain⟨c,SH,l,aC,E⟩:=hcut.out;have be:Hid _:=E;clear E;obtain⟨f0,f1,bB,_,N⟩:=l.Wu;obtain⟨aX,aY,aZ,bb,bc,aD⟩:=l.block;have Z:Hid (w5.ownsRow 0 115 1 (.slice c.ta k c.tc) k (ds.map fun x=>ptr x.1)):=by rw[A.out,<-J.out];exact l.gz
  rw[J.out,<-A.out]at N;have bf:Hid _:=l;have bg:Hid _:=aC;have F:Hid _:=aD;clear hcut l aC aD O az aA u C aw aV aW;go_wp2_with(at_builtin;refine jp rfl (.tmp 307) (.tmp 309) 63 rfl 0 115 aM _ 1 8 underlying63 aN aO aP aQ rfl (by decide) (.slice c.ta k c.tc) k (ds.map fun x=>ptr x.1) rfl (pE Z.out _) (eI w5.heap.size 0) 1 1 [ptr f] rfl rfl (one_cell w5 _ _ _ rfl) OM (by unfold maxLen;omega) (by omega) (tk _) ?_);intro v6 w6 aa ab aE;obtain⟨bC,c6,rfl⟩:=fj aa (by omega);have G:=sq F.out (jz _ _) (by simp) ab (fX Z.out F.out (by decide));have bD:w6.cell? (eI W 6)=some (.slice c.ta ds.length c.tc):=by simp[World.cell?,G]
  have f66:w6.frozen? (eI W 6)=false:=by simp[World.frozen?,G]
  have bE:W<w6.heap.size:=(nX.1 G).1;have P:=ma (i:=6) F.out Z.out (by decide) (jz w5 _) (by simp) ⟨rfl,rfl,rfl⟩ aa ab aE (by simp);have Y:Hid _:=P;clear P aa ab aE G;go_wp2;go_ret;have P:=Y.out;rw[show k=ds.length by rw[J.out];exact A.out]at P ⊢;obtain⟨bh,bi,bj,bk⟩:=bf.out.aas bg.out F.out P;exact⟨rfl,bh,bi,B,f,rest,aT,bj,be.out.trans bk⟩
end
end Go.Proofs.YtlgidcmmgohagaaGreat
