/- What is proved here: 'put' where there is nothing of that name. -/
import Derived.Test.YtlgidcmmgohagaaGreatFileM16
namespace Go.Proofs.YtlgidcmmgohagaaGreat
open Go.RowKit Go.Sort Go.Shelf Go.Proofs.Tryz
set_option linter.unusedVariables false
set_option maxRecDepth 100000
set_option maxHeartbeats 16000000
variable {v:Value}{fs fs':FS}{b ix lim o:Nat}{W w w':World}{n:eD}{q r:eL}{es:List eN}{K:eL->List eN}{c t:LT}{g g':WG}{tg:eV}{vD:eL->Value}{ey:List Ob}
theorem Jr(h:lY ey es){v:Int×Int}(hn:eG n=true)(hv:mj ey (n,v))(hl:iv es n=true\/es.length<16):lY ey (sf es n v):=by
 refine⟨sW h.rising,?_,fun e a=>?_⟩
 ·rw[pI]
  have:=h.len
  rcases hl with h1|h1
  ·rw[ie h1];omega
  ·split<;>omega
 ·rcases Ii a with rfl|a
  ·exact⟨hn,hv⟩
  ·exact h.ok e a
section
variable {s i p:Nat}{B:WB}{ey:List Ob}
theorem XH{w w6:World}{nm:eD}{v:Int×Int}{e:Ending}(h:eT tg w s i p B ey g lim)(hD:fC tg w i B g.ft.od lim vD)(hl:lim<maxLen)(ho:g.ft.od q=some es)(j:iv es nm=false)(qi:pD es nm=ix)(k:lY ey es)(iE:es.length<16)(hn:eG nm=true)(hv:mj ey (nm,v)){f:Value}(l:vD q=f)
  (hi:tI w w6 f.ownBlock es.length (es.take ix++(nm,v)::es.drop ix) e):
  ∃a c,e=.returned (.slice (some (eI a 0)) (es.length+1) c)/\w.grownBy w6 f.ownBlock/\∃b d m,(Instr.mapUpdate 162 (.map (some B.oD)) (.agg (fy q)) (.slice (some (eI a 0)) (es.length+1) c)).run prog w6=.ok () b/\eB (Mine i) tg d w b/\
   eT d b s i p B ey { g with ft:={ g.ft with od:=upd g.ft.od q (some (sf es nm v)) } } (lim+1)/\fC d b i B (upd g.ft.od q (some (sf es nm v))) (lim+1) m:=by
 subst l;obtain⟨a,c,n,o,hg,r⟩:=hi;have t:sf es nm v=es.take ix++(nm,v)::es.drop ix:=by
  unfold sf;rw[fY (by rw[j];decide),qi]
 have u:(sf es nm v).length=es.length+1:=by rw[pI,fY (by rw[j];decide)]
 obtain⟨b,d,h1,h2,h3,x⟩:=Jp h hD hl ho hg (v6:=.slice (some (eI a 0)) (es.length+1) c) (es':=sf es nm v) (by rw[u,t];exact o) (by
  rcases r with h1|h1
  ·exact .inl h1
  ·exact .inr (fun y z=>by
    obtain rfl:a=y:=by simpa [Value.ownBlock]using z
    exact h1)) (Jr k hn hv (.inr iE)) (lh _ _)
 exact⟨a,c,n,hg,b,d,_,h1,h2,h3,x⟩
theorem Gd{c:Nat}{row:Option Nat}(hg:w.grownBy w' row)(hc:c<w.heap.size)(hne:some c≠row)(o:Nat):w'.cell? (eI c o)=w.cell? (eI c o):=jP (a:=(eI c o)) (hg.block c hc hne)
theorem yA{t t':Nat×Nat}{c:Nat}(h:lR tg w t v es)(hc:tg c=t')(hne:t'≠t):some c≠v.ownBlock:=fun e=>hne (hc.symm.trans (h.2 c e.symm))
theorem XI{w a:World}{t:Nat×Nat}(h:lR tg w t v es)(b:ik w a):∀g,v.ownBlock=some g->a.heap.size≠g:=fun g hg e=>by
 have h1:=eK h.1 hg
 have h2:=b.size
 omega
theorem mN{w a:World}{b o2:Obj}(h:Below ((w.alloc b).alloc o2).heap.size ((w.alloc b).alloc o2) a):w.heap.size<a.heap.size/\w.heap.size+1<a.heap.size:=by
 have h2:=h.size;rw[sr,sr]at h2;omega
theorem Es{n:Nat}(h:Below n w W)(a:n<=b):Below n w (W.setCell (eI b o) v):=h.setCell a _
theorem BL:(W.setCell (eI b o) v).heap.size=W.heap.size:=by simp
theorem Ge(h:eT tg w s i p B ey g lim)(hD:fC tg w i B g.ft.od lim vD)(hl:lim+300<1099511627776)(hp:Good (q++[n]))(I:gm ey g.fs g.ft K q)(ac:lY ey (K q))(J:iv (K q) n=false)(iE:(K q).length<16)
  (nm:eD)(k id:Int)(hv:mj ey (n,k,id)):
  gc 135 #[hh B.bt,.agg (fy (q++[n])),.agg #[.string nm,eJ k,eJ id]] w fun az w'=>az=.returned (.tuple #[])/\∃eF aA,eB (Mine i) tg eF w w'/\
   eT eF w' s i p B ey { g with ft:=lB ey g.fs g.ft q n (k,id) } (lim+150)/\fC eF w' i B (lB ey g.fs g.ft q n (k,id)).od (lim+150) aA:=by
 have hq:Good q:=by have:=hp.dropLast;rwa [qY]at this
 have aB:eG n=true:=hp.val n (by simp);have bc:q.length<=4:=by have:=hp.len;simp at this;omega
 obtain⟨aC,aD,L,aE⟩:=oJ I;have ad:lB ey g.fs g.ft q n (k,id)={ oX ey g.fs g.ft q.reverse with od:=upd (oX ey g.fs g.ft q.reverse).od q (some (sf (K q) n (k,id))) }:=by
  unfold lB;simp only[L,qj];rw[fY (by rw[J];decide)]
 rw[ad];have t:=fun W (ae:ik w W)=>qJ (s:=s) (i:=i) (p:=p) (B:=B) (ey:=ey) q.reverse tg W g lim K vD (h.below ae) (hD.moves (eB.eE (P:=fun _=>False) ae) (fun x=>x)) (by rw[CN];omega) (by rw[pY];exact hq) (by rw[pY];exact I)
 rw[pY,CN]at t;have u:=fun W=>gp (q++[n]) hp W
 have y:=fun W=>jY (q++[n]) hp (by simp) W;rw[qY]at u;simp only[EY]at y;obtain⟨z,A,C,D,E,M⟩:∃z A C D E,fy (q++[n])=(kq z A C D E):=⟨_,_,_,_,_,rfl⟩;obtain⟨bd,be,bf,bg,bh,N⟩:∃z A C D E,fy q=(kq z A C D E):=⟨_,_,_,_,_,rfl⟩;unfold ju at u y;simp only[M,N]at u y t;rw[M];have hi:=h.two;have aF:lim+20*(q.length+1)<maxLen:=by unfold maxLen;omega
 have af:pD (K q) n<=(K q).length:=Og _ _;generalize ag:pD (K q) n=ix at af;have ah:Hid (pD (K q) n=ix):=ag;have aG:Hid _:=N;have aH:Hid _:=t;have ai:Hid _:=L;have O:Hid _:=ac;have aj:Hid _:=J;have ak:=h.st.fresh;have F:Hid _:=ak;have aI:Hid _:=hv;clear ag h hD t aC aD L aE ac J M N I ad ak hv;go_enter func135,ntmps135;go_wp2_with(first
  |(go_at_call 134;refine(y _).mono ?_;rintro e aJ ⟨rfl,r⟩;obtain⟨bi,aK⟩:=mN r;have bj:=fun o=>(ii r).1 w.heap.size o (by simp;omega);have bk:=fun o=>(ii r).1 (w.heap.size+1) o (by simp);have f1:=fun o=>(ii r).2 (w.heap.size+1) o (by simp);have aL:=fx (((lh w.heap.size w).alloc (kx _) _).alloc (by simp) _) r)
  |(go_at_call 132;go_loud(refine(u _).mono ?_;rintro e j ⟨rfl,Q⟩;have l:=fx (Es aL (gV _)) Q;have al:=lO aK (Ax (BL (W:=aJ) (b:=w.heap.size+1) (o:=0) (v:=.string n)).symm);have e2:=fun o=>(ii Q).1 (w.heap.size+1) o al;have R:=lO al Q.size))
  |(go_at_call 192;go_loud(refine(aH.out _ (l.alloc l.size _)).mono ?_;rintro e w3 ⟨aM,rfl,bl,bm,d,S,T,U,aN⟩;have bn:=vd (b:=w.heap.size+1) hi d (jZ R _) (F.out _ (gV _));have bo:=vd (b:=j.heap.size) hi d (gu _ _) (F.out _ l.size);have aO:=(d.tags j.heap.size (gu _ _)).trans (F.out _ l.size);have aP:=(d.tags (w.heap.size+1) (jZ R _)).trans (F.out _ (gV _));have G:j.heap.size<w3.heap.size:=lO (gu _ _) d.size;have V:w.heap.size+1<w3.heap.size:=CP R G;have X:=T.row _ _ ai.out;rw[U]at X;obtain⟨Y,bp,_,_,_⟩:=S.wp.tree.cells;have am:Hid _:=S;have aQ:Hid _:=d;have aR:Hid _:=T;have f:Hid _:=X;have aS:Hid _:=U;clear S d T X U aN))
  |(go_at_call 133;go_loud(refine(gY f.out.1 n O.out.rising O.out.len).mono ?_;rintro e a ⟨rfl,c⟩;rw[ah.out,aj.out];have k4:=fun o=>(ii c).1 j.heap.size o G;have bq:=fun o=>(ii c).1 (w.heap.size+1) o V;have d4:=(ii c).1 B.bt 8 Y)))
 have m:ik w3 ((a.alloc (.cells #[.string n,eJ k,eJ id] 96)).drew):=gS (c.alloc c.size _);have an:((a.alloc (.cells #[.string n,eJ k,eJ id] 96)).drew).ownsRow 0 96 3 aM (K q).length (flat (K q)):=eQ f.out.1 (fun g' aT=>m.block g' (eK f.out.1 aT));have ao:((a.alloc (.cells #[.string n,eJ k,eJ id] 96)).drew).heap[a.heap.size]?=some (.cells #[.string n,eJ k,eJ id] 96 (0,0)):=Array.getElem?_push_size;have ap:=XE (x:=(n,k,id)) an (xT iE) af ao (XI f.out c);have aU:Hid _:=ap;have a1:=yA f.out aO (UQ i);have a2:=yA f.out aP (UQ i);have a3:=yA f.out am.out.wp.tree.tt (ZN i);have aq:j.heap.size<((a.alloc (.cells #[.string n,eJ k,eJ id] 96)).drew).heap.size:=lO G m.size;have ar:w.heap.size+1<((a.alloc (.cells #[.string n,eJ k,eJ id] 96)).drew).heap.size:=lO V m.size;have au:B.bt<((a.alloc (.cells #[.string n,eJ k,eJ id] 96)).drew).heap.size:=lO Y m.size;have br:j.heap.size<a.heap.size:=lO G c.size;have bs:w.heap.size+1<a.heap.size:=lO V c.size;have bt:B.bt<a.heap.size:=lO Y c.size;have Z:Hid _:=m;have aa:Hid _:=And.intro aq (And.intro ar au);have ab:Hid _:=And.intro a1 (And.intro a2 a3);clear ap an ao m aq ar au a1 a2 a3
 go_region_with(go_at_call 193;go_loud(refine io aU.out ?_;rintro e w6 av;obtain⟨bu,bv,rfl,H,bw,aV,aW,aX,aw,ax,ay⟩:=XH (v:=(k,id)) (am.out.below Z.out) (aR.out.moves (eB.eE (P:=fun _=>False) Z.out) (fun x=>x)) aF ai.out aj.out ah.out O.out iE aB aI.out aS.out av;have bx:=Gd H aa.out.1 ab.out.1;have bz:=Gd H aa.out.2.1 ab.out.2.1;have d6:=Gd H aa.out.2.2 ab.out.2.2 8;rw[aG.out]at aX;have aY:Hid _:=aw;have aZ:Hid _:=ax;have bb:Hid _:=ay;clear aw ax ay H av))
 all_goals
  go_wp2;exact bodyPost_end (v:=.tuple #[]) (by simp[results,results135,go_sem]) rfl ⟨rfl,aV,aW,((li (l.alloc l.size _) aQ.out).trans ((eB.eE Z.out).trans aY.out)),aZ.out.mono (by omega),bb.out.mono (by omega)⟩
theorem Mk(h:eT tg w s i p B ey g lim)(hD:fC tg w i B g.ft.od lim vD){k id:Int}{a j c ix:Nat}(ho:g.ft.od q=some es)(hv:vD q=.slice (some (eI a 0)) j c)(ht:iv es n=true)(y:pD es n=ix)(hn:eG n=true)(z:mj ey (n,k,id))
  (d:w'=((w.setCell (eI a (ix*3)) (.string n)).setCell (eI a (ix*3+1)) (eJ k)).setCell (eI a (ix*3+2)) (eJ id)):
  eT tg w' s i p B ey { g with ft:={ g.ft with od:=upd g.ft.od q (some (sf es n (k,id))) } } lim/\fC tg w' i B (upd g.ft.od q (some (sf es n (k,id)))) lim vD/\eB (fun t=>t=(i,5)) tg tg w w'/\w.grownBy w' (some a):=by
 subst y;have A:=h.eZ ho;obtain⟨qi,H⟩:=nw ht;have l:=hD.row q es ho;have o:(vD q).ownBlock=some a:=by rw[hv];rfl
 have hg:w.grownBy w' (some a):=by rw[d];exact ol (ol (ol (ui _ _)))
 have r:=Jr A hn z (.inl ht);have f:=l.1;rw[hv]at f;have C:j=es.length:=by
  rcases f.2 with⟨e,_⟩|⟨g',I,_,e,_⟩
  ·cases e
  ·cases e;rfl
 subst C;have D:=(f.stored (pD es n*3) (.string n)).1;have E:=(D.stored (pD es n*3+1) (eJ k)).1;have u:=(E.stored (pD es n*3+2) (eJ id)).1;rw[Eo qi (n,k,id),<-BI ht (k,id),<-d]at u;have F:(sf es n (k,id)).length=es.length:=by rw[pI,ie ht]
 have v:=hD.rewrite (ey:=ey) ho o hg (by rw[hv,F];exact u) r;have m:eB (fun t=>t=(i,5)) tg tg w w':=yi hg (by rw[d];simp) (l.2 a o);refine⟨h.od m (kx _) v (fun x es' b=>?_),v,m,hg⟩;by_cases e:x=q
 ·subst e
  rw[upd_same]at b;cases b;exact fun e G=>(r.ok e G).2
 ·rw[hE e]at b
  exact h.wp.ok.od x es' b
theorem BM{a n c:Nat}(h:w.ownsRow 0 96 3 (.slice (some (eI a 0)) n c) n (flat es))(qi:ix<es.length):w.cell? (eI a (ix*3))=some (.string (es[ix]).1)/\w.cell? (eI a (ix*3+1))=some (eJ (es[ix]).2.1)/\w.cell? (eI a (ix*3+2))=some (eJ (es[ix]).2.2):=
 vM (b:=a) (fun j d hu=>by have:=jn h j d hu;rwa [iP]at this) qi
theorem UU(h:eT tg w s i p B ey g lim)(hD:fC tg w i B g.ft.od lim vD)(hl:lim+300<1099511627776)(hp:Good (q++[n]))(Q:gm ey g.fs g.ft K q)(R:lY ey (K q))(I:iv (K q) n=true)
  (nm:eD)(k id:Int)(hv:mj ey (n,k,id)):
  gc 135 #[hh B.bt,.agg (fy (q++[n])),.agg #[.string nm,eJ k,eJ id]] w fun az w'=>az=.returned (.tuple #[])/\∃eF S,eB (Mine i) tg eF w w'/\
   eT eF w' s i p B ey { g with ft:=lB ey g.fs g.ft q n (k,id) } (lim+150)/\fC eF w' i B (lB ey g.fs g.ft q n (k,id)).od (lim+150) S:=by
 have hq:Good q:=by have:=hp.dropLast;rwa [qY]at this
 have aA:eG n=true:=hp.val n (by simp);have bc:q.length<=4:=by have:=hp.len;simp at this;omega
 obtain⟨aB,aC,T,aD⟩:=oJ Q;have ac:lB ey g.fs g.ft q n (k,id)=wS { oX ey g.fs g.ft q.reverse with od:=upd (oX ey g.fs g.ft q.reverse).od q (some (sf (K q) n (k,id))) } (q++[n]):=by
  unfold lB wS;simp only[T,qj];rw[ie I]
 rw[ac];have J:=fun W (ad:ik w W)=>qJ (s:=s) (i:=i) (p:=p) (B:=B) (ey:=ey) q.reverse tg W g lim K vD (h.below ad) (hD.moves (eB.eE (P:=fun _=>False) ad) (fun x=>x)) (by rw[CN];omega) (by rw[pY];exact hq) (by rw[pY];exact Q)
 rw[pY,CN]at J;have L:=fun W=>gp (q++[n]) hp W
 have M:=fun W=>jY (q++[n]) hp (by simp) W;rw[qY]at L;simp only[EY]at M;obtain⟨m,r,u,y,z,F⟩:∃m r u y z,fy (q++[n])=(kq m r u y z):=⟨_,_,_,_,_,rfl⟩;obtain⟨bd,be,bf,bg,bh,ae⟩:∃m r u y z,fy q=(kq m r u y z):=⟨_,_,_,_,_,rfl⟩;unfold ju at L M;simp only[F,ae]at L M J;rw[F];have hi:=h.two;have bi:lim+20*(q.length+1)<maxLen:=by unfold maxLen;omega
 obtain⟨qi,_⟩:=nw I;have iE:=R.len;generalize af:pD (K q) n=ix at qi;have ag:Hid (pD (K q) n=ix):=af;have bj:Hid _:=F;have U:=fun(eF:eV) (W:World) (g':WG) (ah:Nat) (S:eL->Value) (a:eT eF W s i p B ey g' ah) (b:fC eF W i B g'.ft.od ah S)=>BJ a b hp;simp only[F]at U;have aE:Hid _:=U;have aF:Hid _:=J;have ai:Hid _:=T;have aj:Hid _:=R;have ak:Hid _:=I;have al:=h.st.fresh;have A:Hid _:=al;have aG:Hid _:=hv;clear af h hD J aB aC T aD R I F ae Q ac al hv U;go_enter func135,ntmps135;go_wp2_with(first
  |(go_at_call 134;refine(M _).mono ?_;rintro e C ⟨rfl,G⟩;obtain⟨N,aH⟩:=mN G;have aI:=fun o=>(ii G).1 w.heap.size o (by simp;omega);have bk:=fun o=>(ii G).1 (w.heap.size+1) o (by simp);have f1:=fun o=>(ii G).2 (w.heap.size+1) o (by simp);have aJ:=fx (((lh w.heap.size w).alloc (kx _) _).alloc (by simp) _) G)
  |(go_at_call 132;go_loud(refine(L _).mono ?_;rintro e O ⟨rfl,H⟩;have D:=fx (Es aJ (gV _)) H;have V:=lO aH (Ax (BL (W:=C) (b:=w.heap.size+1) (o:=0) (v:=.string n)).symm);have e2:=fun o=>(ii H).1 (w.heap.size+1) o V;have X:=lO V H.size;have Y:C.heap.size<=O.heap.size:=wl (Ax (BL (W:=C) (b:=w.heap.size+1) (o:=0) (v:=.string n)).symm) H.size;have aK:=fun o=>(ii H).1 w.heap.size o (CP (Nat.lt_succ_self _) V)))
  |(go_at_call 192;go_loud(refine(aF.out _ (D.alloc D.size _)).mono ?_;rintro e w3 ⟨bl,rfl,am,aL,d,Z,aa,an,aM⟩;have bm:=vd (b:=w.heap.size+1) hi d (jZ X _) (A.out _ (gV _));have bn:=vd (b:=O.heap.size) hi d (gu _ _) (A.out _ D.size);have bo:=(d.tags O.heap.size (gu _ _)).trans (A.out _ D.size);have bp:=(d.tags (w.heap.size+1) (jZ X _)).trans (A.out _ (gV _));have aN:O.heap.size<w3.heap.size:=lO (gu _ _) d.size;have ao:w.heap.size+1<w3.heap.size:=CP X aN;have f:=aa.row _ _ ai.out;obtain⟨j,bq,ab⟩:=fj f.1 (Nat.lt_of_le_of_lt (tk _) qi);rw[ab]at an f;subst an;have ap:j<w3.heap.size:=eK f.1 rfl;obtain⟨br,bs,bt⟩:=BM f.1 qi;have bu:=vQ f.1;have aO:=vd (b:=w.heap.size) hi d (jZ (lO N Y) _) (A.out _ (kx _));have aP:=(d.tags w.heap.size (jZ (lO N Y) _)).trans (A.out _ (kx _));have Oi:=BK aP (f.2 j rfl) (UQ i);have bv:=Oi.symm;have aq:w.heap.size<w3.heap.size:=CP (Nat.lt_succ_self _) ao;obtain⟨bw,bx,_,_,_⟩:=Z.wp.tree.cells;have aQ:Hid _:=Z;have aR:Hid _:=d;have aS:Hid _:=aa;have aT:Hid _:=f;have aU:Hid _:=ab;clear Z d aa f ab aM)))
 have q0:∀o v,#[Value.string m,.string r,.string u,.string y,.string z][o]?=some v->w3.cell? (eI w.heap.size o)=some v:=fun o v ho=>by
  rw[aO,Zg _ _ _ (lO N Y),aK];rw[show(C.setCell (eI (w.heap.size+1) 0) (.string n)).cell? (eI w.heap.size o)=C.cell? (eI w.heap.size o)from xj (c:=w.heap.size) (ol (ui C (some (w.heap.size+1)))) N (by omega) o,aI];simpa using ho
 refine(gY aT.out.1 n aj.out.rising aj.out.len).mono ?_;rintro e ar ⟨rfl,l⟩;rw[ag.out,ak.out];have bz:=fun o=>(ii l).1 j o ap;have bA:=fun o=>(ii l).2 j o ap;have bB:=fun o=>(ii l).1 (w.heap.size+1) o ao;have E:∀o v,#[Value.string m,.string r,.string u,.string y,.string z][o]?=some v->(((ar.setCell (eI j (ix*3)) (.string n)).setCell (eI j (ix*3+1)) (eJ k)).setCell (eI j (ix*3+2)) (eJ id)).cell? (eI w.heap.size o)=some v:=fun o v ho=>by
  rw[xj (c:=w.heap.size) (ol (o:=ix*3+2) (v:=.int .i64 id) (ol (o:=ix*3+1) (v:=.int .i64 k) (ol (o:=ix*3) (v:=.string n) (ui ar (some j))))) (lO aq l.size) Oi o,(ii l).1 w.heap.size o aq];exact q0 o v ho
 have bC:=E 0 _ rfl;have bD:=E 1 _ rfl;have bE:=E 2 _ rfl;have bF:=E 3 _ rfl;have bG:=E 4 _ rfl;obtain⟨au,o2,o3,_⟩:=Mk (aQ.out.below l) (aS.out.moves (eB.eE (P:=fun _=>False) l) (fun x=>x)) ai.out aU.out ak.out ag.out aA aG.out rfl;have av:=aE.out am _ _ _ _ au o2;have aV:Hid _:=av;have aW:Hid _:=o3;have aX:Hid _:=l;clear E q0 au o2 o3 av;go_wp2_with(go_at_call 139;go_loud(refine io aV.out ?_;rintro e bH ⟨rfl,aw,ax,ay⟩;have aY:Hid _:=aw;have aZ:Hid _:=ax;have bb:Hid _:=ay;clear aw ax ay))
 all_goals
  exact lF (v:=.tuple #[]) (by simp[results,results135,go_sem]) rfl ⟨rfl,am,aL,((li (D.alloc D.size _) aR.out).trans ((eB.eE aX.out).trans ((aW.out.mono (fun t ht=>(Or.inr (by rw[ht]):Mine i t))).trans aY.out))),aZ.out.mono (by omega),bb.out.mono (by omega)⟩
end
theorem Gf(hS:Sound ey){m:Nat}{t d c:LT}{ks:Kids}(a:eU ey m t)(b:t.at ey q=some d)(hk:kids ey d=some ks)(hn:eG n=true)(hq:q.length<m)(hc:eU ey (m-q.length-1) c)(hl:iv ks n=true\/ks.length<16):eU ey m (rb ey (fun ks=>sf ks n c) q t):=by
 obtain⟨h1,h2,h3⟩:=lj hS (py hS _ a b).2.1 hk;refine Lt hS _ q a b hk (vC (sW h1) ?_ (fun x hx=>?_))
 ·rw[pI]
  rcases hl with h|h
  ·rw[ie h];exact h2
  ·split<;>omega
 ·rcases Ii hx with rfl|hx
  ·exact⟨hn,m-q.length-1,by omega,hc⟩
  ·exact h3 x hx
theorem sA.len{i:Nat}(h:sA tg w i v es):∃la c,v=.slice la es.length c:=by
 rcases h.1.2 with⟨e,h0⟩|⟨g',a,_,e,_⟩
 ·exact⟨none,0,by rw[h0];exact e⟩
 ·exact⟨_,_,e⟩
section
variable {s i p:Nat}{B:WB}{ey:List Ob}
def Left (s i p:Nat)(B:WB)(ey:List Ob)(tg:eV)(w w':World)(g:WG)(fs':FS)(t':LT)(lim:Nat):Prop:=
 ∃eF kG,eB (Mine i) tg eF w w'/\eT eF w' s i p B ey { g with fs:=fs',ft:=kG } lim/\Flat ey t' kG/\eU ey 5 t'
theorem NE{tg eF:eV}(m:eB (Mine i) tg eF w w')(h:eT eF w' s i p B ey { g with fs:=fs' } lim)(hF:Flat ey t g.ft)(a:eU ey 5 t):Left s i p B ey tg w w' g fs' t lim:=⟨eF,g.ft,m,h,hF,a⟩
theorem Ml(t:Nat)(w:World):gc 70 #[hh t,.agg (kq hZ hZ hZ hZ hZ)] w (pB (eJ 6) w):=by
 have a:=fun W=>ut W;have heq:∀W,(Op.equalIn 10000 147 (ju []) (ju [])).run prog W=.ok true W:=fun W=>by
  have:=yr Good.nil Good.nil W
  rw[mz rfl]at this;exact this
 unfold ju fy at a heq;simp only[nN]at a heq;go_enter func70,ntmps70;go_wp2
 go_region_with(go_at_call 75;refine(a _).mono ?_;rintro e c ⟨rfl,b⟩;obtain⟨d,f⟩:=ii b;have g:=jr b)
 all_goals
  go_wp2;go_ret;exact⟨rfl,fx (gS ((lh _ _).alloc (kx _) _)) b⟩
theorem Mm(h:eT tg w s i p B ey g lim)(hl:lim+400<1099511627776)(hF:Flat ey t g.ft)(G:eU ey 5 t)(hp:Good (r.reverse++[n])):
  gc 70 #[hh B.bt,.agg (fy (r.reverse++[n]))] w fun aJ w'=>aJ=.returned (eJ (gG ey t g.fs (n::r)).2.1)/\Left s i p B ey tg w w' g (gG ey t g.fs (n::r)).1 (gG ey t g.fs (n::r)).2.2 (lim+300):=by
 have hS:=h.st.sound;have hi:=h.two;have hq:Good r.reverse:=by have:=hp.dropLast;rwa [qY]at this
 have aK:eG n=true:=hp.val n (by simp);have bi:r.length<=4:=by have:=hp.len;simp at this;omega
 have u:=fun W (y:ik w W)=>qI (s:=s) (i:=i) (p:=p) (B:=B) (ey:=ey) r tg W g lim (h.below y) (by omega) hq;simp only[kV hS hF G g.fs r]at u;have f:gG ey t g.fs (n::r)=if(lL ey t g.fs r).2.1≠0 then((lL ey t g.fs r).1,(lL ey t g.fs r).2.1,t)else if(ip (lL ey t g.fs r).2.2 n).isSome then((lL ey t g.fs r).1,6,t)else if 16<=(lL ey t g.fs r).2.2.length then((lL ey t g.fs r).1,11,t) else((lL ey t g.fs r).1,0,rb ey (fun ks=>sf ks n (.own [])) r.reverse t):=rfl;have H:=nR (ey:=ey) (t:=t) (fs:=g.fs) (r:=r);have I:lY ey ((lL ey t g.fs r).2.2.map mn):=by have:=h.eR g.fs r;rwa [kV hS hF G g.fs r]at this
 generalize gG ey t g.fs (n::r)=M at f ⊢;generalize lL ey t g.fs r=a at u H I f;obtain⟨fs',er,ks⟩:=a;simp only at u H I f;have J:Hid _:=f;have heq:∀W,(Op.equalIn 10000 147 (ju (r.reverse++[n])) (ju [])).run prog W=.ok false W:=fun W=>by
  have:=yr hp Good.nil W
  rw[rk (by simp)]at this;exact this
 have K:=fun W=>ut W;have L:=fun W=>gp (r.reverse++[n]) hp W;have z:=fun W=>jY (r.reverse++[n]) hp (by simp) W;rw[qY]at L;simp only[EY]at z;obtain⟨N,O,Q,R,S,T⟩:∃N O Q R S,fy (r.reverse++[n])=(kq N O Q R S):=⟨_,_,_,_,_,rfl⟩;obtain⟨bj,bk,bl,bm,bn,ao⟩:∃N O Q R S,fy r.reverse=(kq N O Q R S):=⟨_,_,_,_,_,rfl⟩;unfold ju at K heq L z;simp only[T,ao]at heq L z u;rw[T];unfold fy at K heq;simp only[nN]at K heq;have ap:Hid _:=T;have aq:Hid _:=h;have A:Hid _:=hF;have q:Hid _:=G;have C:Hid _:=hS;have aL:Hid _:=u;have aM:Hid _:=H;have ar:Hid _:=hp;have aN:Hid _:=I;clear h hF G hS T ao u H hp I f;go_enter func70,ntmps70;go_wp2
 go_region_with(go_at_call 75;refine(K _).mono ?_;rintro e bo ⟨rfl,ab⟩;obtain⟨bp,bq⟩:=ii ab;have au:=jr ab;have aO:=fx (gS ((lh w.heap.size w).alloc (kx _) _)) ab)
 all_goals
  go_wp2_with(go_at_call 132;refine(L _).mono ?_;rintro e aP ⟨rfl,ac⟩;have br:=fun o=>(ii ac).1 w.heap.size o au;have ad:=lO au ac.size;have av:=fx aO ac);refine(aL.out aP av).mono ?_;rintro e w3 ⟨v,rfl,aw,D,ax,ae⟩;have bs:=vd (b:=w.heap.size) hi (D.mono (fun _ h=>h.mine)) ad (aq.out.st.fresh _ (kx _));have ay:=li av (D.mono (fun _ h=>h.mine));have U:w.heap.size<w3.heap.size:=lO ad D.size;have aQ:aw w.heap.size=(0,0):=(D.tags _ ad).trans (aq.out.st.fresh _ (kx _));have E:Hid _:=ax;have V:Hid _:=ay;have aR:Hid (sA aw w3 i v (ks.map mn)):=ae;obtain⟨la,lc,rfl⟩:=ae.len;rw[nD];clear ax ae D ay;by_cases her:er=0
  ·subst her
   obtain⟨⟨d,X,hk⟩,aS,af⟩:=aM.out rfl;have az:=Hk C.out A.out q.out X hk af;obtain⟨ag,ah,aT⟩:=lj C.out (py C.out _ q.out X).2.1 hk;have ai:eP (ks.map mn):=by rw[lK];exact kT _ ag
   have aj:(ks.map mn).length<=16:=by rw[nD];exact ah
   have aA:=oY ag n;have aB:=WF ks n;have ak:=fun W2 (y:ik w3 W2)=>gY (aR.out.below y).1 n ai aj;rw[nD]at ak;have al:Hid _:=ak;have aU:Hid _:=az;have j:Hid _:=And.intro X (And.intro hk af);have Y:Hid _:=aB;have Z:Hid _:=aA;have bt:Hid _:=And.intro ai aj;have bu:ks.length<=16:=ah;clear ak az X hk af aB aA ai aj ag ah aT aS;cases m:iv ks n with
   |true=>
    go_wp2_with(first
     |(go_at_call 134;refine(z _).mono ?_;rintro e aC ⟨rfl,l⟩)
     |(go_at_call 133;go_loud(refine(al.out _ l).mono ?_;rintro e w5 ⟨rfl,F⟩;rw[Y.out,m];have k:=fx l F)))
    go_ret;have f:=J.out;rw[fY (by simp),ie (by rw[Z.out];exact m)]at f;subst f;exact⟨rfl,NE (V.out.trans (eB.eE k)) ((E.out.below k).mono (by omega)) A.out q.out⟩
   |false=>
    by_cases iE:ks.length<16
    ·obtain⟨vD,aD⟩:=E.out.wp.nI
     have am:=fun W2 (y:ik w3 W2)=>Ge (E.out.below y) (aD.moves (eB.eE (P:=fun _=>False) y) (fun x=>x)) (by omega) ar.out aU.out (by rw[jl j.out.1 j.out.2.1];exact aN.out) (by rw[jl j.out.1 j.out.2.1,Y.out];exact m) (by rw[jl j.out.1 j.out.2.1,nD];exact iE) hZ 2 0 ⟨.inr rfl,fun h=>absurd rfl h⟩;rw[ap.out]at am;have aV:Hid _:=am;clear am aD;have aW:¬((16:Int)<=(ks.length:Int)):=by omega
     go_wp2_with(first
      |(go_at_call 134;refine(z _).mono ?_;rintro e aC ⟨rfl,l⟩;have k4:=fun o=>(ii l).1 w.heap.size o U)
      |(go_at_call 133;go_loud(refine(al.out _ l).mono ?_;rintro e w5 ⟨rfl,F⟩;rw[Y.out,m];have k:=fx l F;have k5:=fun o=>(ii k).1 w.heap.size o U))
      |(go_at_call 135;go_loud(refine(aV.out _ k).mono ?_;rintro e w6 ⟨rfl,bv,bw,aa,an,aE⟩;have bx:=vd (b:=w.heap.size) hi aa (lO U k.size) aQ;have bz:=lO (lO U k.size) aa.size;have aX:Hid _:=aa;have aY:Hid _:=an;have aZ:Hid _:=aE;obtain⟨bA,bB,_,_,_⟩:=an.wp.tree.cells;clear aa an aE)))
     obtain⟨bC,bb,bc,bD,bE,bF,aF,aG,bd,_⟩:=Gc aY.out aZ.out (by unfold maxLen;omega) ar.out (gS (lh _ w6)) (Ow _) (fun bG h=>by simp[Value.ownBlock]at h) ⟨by simp[eP],by simp,by simp⟩;rw[ap.out]at bc;have be:Hid _:=aF;have bf:Hid _:=aG;have aH:=Lu C.out A.out q.out j.out.1 j.out.2.1 j.out.2.2 (n:=n) (by have:=Z.out;rw[m]at this;simpa using this);have aI:=Gf C.out q.out j.out.1 j.out.2.1 aK (by rw[CN];omega) (c:=.own []) (vC (by simp[eP]) (by simp) (by simp)) (.inr iE);have bg:Hid _:=aH;have bh:Hid _:=aI;clear aF aG bd aH aI
     go_region
     all_goals
      go_wp2;go_ret;have f:=J.out;rw[fY (by simp),fY (by rw[Z.out,m];decide),fY (by omega)]at f;subst f;exact⟨rfl,bb,_,(V.out.trans ((eB.eE k).trans (aX.out.trans be.out))),bf.out.mono (by omega),bg.out,bh.out⟩
    ·have aW:(16:Int)<=(ks.length:Int):=by omega
     go_wp2_with(first
      |(go_at_call 134;refine(z _).mono ?_;rintro e aC ⟨rfl,l⟩)
      |(go_at_call 133;go_loud(refine(al.out _ l).mono ?_;rintro e w5 ⟨rfl,F⟩;rw[Y.out,m];have k:=fx l F)))
     go_ret;have f:=J.out;rw[fY (by simp),fY (by rw[Z.out,m];decide),ie (by omega)]at f;subst f;exact⟨rfl,NE (V.out.trans (eB.eE k)) ((E.out.below k).mono (by omega)) A.out q.out⟩
  ·have bH:(er==0)=false:=by simpa using her
   go_wp2;go_ret;have f:=J.out;rw[ie her]at f;subst f;exact⟨rfl,NE V.out (E.out.mono (by omega)) A.out q.out⟩
end
theorem BN{n:Nat}(h:eU ey n c)(nm:eD):mj ey (nm,c.kind,c.id):=by
 cases c with
 |file id=>exact⟨.inl rfl,fun _=>by cases n<;>exact h⟩
 |held f=>exact⟨.inl rfl,fun h=>absurd rfl h⟩
 |dir id=>exact⟨.inr rfl,fun _=>by cases n<;>exact h.1⟩
 |own es=>exact⟨.inr rfl,fun h=>absurd rfl h⟩
section
variable {s i p:Nat}{B:WB}{ey:List Ob}
theorem BO(h:eT tg w s i p B ey g lim)(hl:lim+10<1099511627776)(hF:Flat ey t g.ft){n:Nat}(C:eU ey n t)(hq:Good q)(j:t.at ey q=some c)(nm:eD):
  gc 137 #[hh B.bt,.agg (fy q),.agg #[.string nm,eJ c.kind,eJ c.id]] w fun G w'=>G=.returned (eJ (rv ey g.fs c).2)/\jR s i p B ey tg w w' { g with fs:=(rv ey g.fs c).1 } (lim+1):=by
 have hS:=h.st.sound;have hc:=(py hS _ C j).2.1;have b:=fun W (d:ik w W)=>tG (h.below d) (by omega) hq (BN hc nm);simp only[uk hS hF hc j]at b;have hv:rv ey g.fs c=if c.kind=1 then(g.fs,0)else if(pu ey g.fs c).2.1=0/\0<(pu ey g.fs c).2.2.length then((pu ey g.fs c).1,8) else((pu ey g.fs c).1,(pu ey g.fs c).2.1):=rfl;generalize rv ey g.fs c=V at hv ⊢;generalize pu ey g.fs c=a at b hv;obtain⟨fs',er,ks⟩:=a;simp only at b hv;generalize c.kind=k at b hv ⊢;generalize c.id=id at b ⊢;obtain⟨l,m,o,r,u,x⟩:∃l m o r u,fy q=(kq l m o r u):=⟨_,_,_,_,_,rfl⟩;rw[x];simp only[x]at b;have H:Hid _:=h;have I:Hid _:=b;have f:Hid _:=hv;clear h b x hv hF C j hS hc;by_cases hk:k=1
 ·subst hk
  go_enter func137,ntmps137;go_wp2;go_ret;have hv:=f.out;rw[ie (by first|rfl|trivial)]at hv;subst hv;have d:ik w ((w.alloc (.cells (kq l m o r u) 147)).alloc (.cells #[.string nm,eJ 1,eJ id] 96)):=((lh w.heap.size w).alloc (kx _) _).alloc (by simp) _;exact⟨rfl,tg,eB.eE d,(H.out.below d).mono (by omega)⟩
 ·have K:(k==1)=false:=by simpa using hk
  go_enter func137,ntmps137;go_wp2_with fail;refine(I.out _ (((lh w.heap.size w).alloc (kx _) _).alloc (by simp) _)).mono ?_;rintro e L ⟨v,rfl,y,D,E,F⟩;obtain⟨la,lc,rfl⟩:=F.len;rw[nD];have z:Hid _:=E;have A:Hid _:=li (((lh w.heap.size w).alloc (kx _) _).alloc (by simp) _) D;clear F E D;by_cases her:er=0
  ·subst her
   by_cases hl0:0<ks.length
   ·have J:(0:Int)<(ks.length:Int):=by omega
    go_wp2;go_ret;have hv:=f.out;rw[fY hk,ie (by first|exact⟨rfl,hl0⟩|exact⟨trivial,hl0⟩)]at hv;subst hv;exact⟨rfl,y,A.out,z.out⟩
   ·have J:¬(0:Int)<(ks.length:Int):=by omega
    go_wp2;go_ret;have hv:=f.out;rw[fY hk,fY (fun h=>hl0 h.2)]at hv;subst hv;exact⟨rfl,y,A.out,z.out⟩
  ·have M:(er==0)=false:=by simpa using her
   go_wp2;go_ret;have hv:=f.out;rw[fY hk,fY (fun h=>her h.1)]at hv;subst hv;exact⟨rfl,y,A.out,z.out⟩
theorem Js(t:Nat)(w:World):gc 71 #[hh t,.agg (kq hZ hZ hZ hZ hZ)] w (pB (eJ 9) w):=by
 have a:=fun W=>ut W;have heq:∀W,(Op.equalIn 10000 147 (ju []) (ju [])).run prog W=.ok true W:=fun W=>by
  have:=yr Good.nil Good.nil W
  rw[mz rfl]at this;exact this
 unfold ju fy at a heq;simp only[nN]at a heq;go_enter func71,ntmps71;go_wp2
 go_region_with(go_at_call 75;refine(a _).mono ?_;rintro e c ⟨rfl,b⟩;obtain⟨d,f⟩:=ii b;have g:=jr b)
 all_goals
  go_wp2;go_ret;exact⟨rfl,fx (gS ((lh _ _).alloc (kx _) _)) b⟩
end
theorem zw(h:(rv ey fs c).2=0):fs.Next (rv ey fs c).1/\(kids ey c=none\/kids ey c=some []):=by
 unfold rv at h ⊢;by_cases hk:c.kind=1
 ·rw[ie hk]
  refine⟨FS.Next.refl _,.inl ?_⟩;cases c<;>simp[LT.kind]at hk<;>rfl
 ·rw[fY hk]at h ⊢
  by_cases h0:(pu ey fs c).2.1=0/\0<(pu ey fs c).2.2.length
  ·simp only[ie h0]at h;cases h
  ·simp only[fY h0]at h ⊢
   obtain⟨a,b,d⟩:=vB h;refine⟨b,.inr ?_⟩;rw[a,mZ];exact Ao.1 (by have:=fun x=>h0 ⟨h,x⟩;omega)
theorem xA(hf:il ey t fs (n::r)=(fs',0,c)):t.at ey (r.reverse++[n])=some c/\fs.Next fs'/\fO ey t fs' r.reverse/\∃d ks,t.at ey r.reverse=some d/\kids ey d=some ks/\ip ks n=some c:=by
 obtain⟨h1,h2,h3⟩:=rz (ey:=ey) (t:=t) (fs:=fs) (r:=n::r) (by rw[hf]);rw[hf,qh]at h1;rw[hf]at h2;refine⟨h1,h2,fun x id hx a=>?_,um h1⟩
 have:=h3 x id (by rw[qh];exact hx.trans (nG _ _)) (fun e=>by
  have:=hx.length_le
  rw[e,qh]at this;simp at this;omega) a
 rw[hf]at this;exact this
section
variable {s i p:Nat}{B:WB}{ey:List Ob}
theorem jR.out(h:jR s i p B ey tg w w' g' lim):∃eF,eB (Mine i) tg eF w w'/\eT eF w' s i p B ey g' lim:=by
 obtain⟨eF,m,hW⟩:=h;exact⟨eF,m.mono (fun _ h=>h.mine),hW⟩
theorem Jt(h:eT tg w s i p B ey g lim)(hl:lim+400<1099511627776)(hF:Flat ey t g.ft)(F:eU ey 5 t)(hp:Good (r.reverse++[n])):
  gc 71 #[hh B.bt,.agg (fy (r.reverse++[n]))] w fun u w'=>u=.returned (eJ (yn ey t g.fs (n::r)).2.1)/\Left s i p B ey tg w w' g (yn ey t g.fs (n::r)).1 (yn ey t g.fs (n::r)).2.2 (lim+300):=by
 have hS:=h.st.sound;have hi:=h.two;have bc:r.length<=4:=by have:=hp.len;simp at this;omega
 have k:=fun W (G:ik w W)=>tH (s:=s) (i:=i) (p:=p) (B:=B) (ey:=ey) (n::r) tg W g lim (h.below G) (by omega) (by rw[qh];exact hp);rw[qh]at k;obtain⟨f1,f2,f3⟩:=qs hS hF F g.fs (n::r);simp only[f1,f2]at k;have f:yn ey t g.fs (n::r)=if(il ey t g.fs (n::r)).2.1≠0 then((il ey t g.fs (n::r)).1,(il ey t g.fs (n::r)).2.1,t)else if(rv ey (il ey t g.fs (n::r)).1 (il ey t g.fs (n::r)).2.2).2≠0 then((rv ey (il ey t g.fs (n::r)).1 (il ey t g.fs (n::r)).2.2).1,(rv ey (il ey t g.fs (n::r)).1 (il ey t g.fs (n::r)).2.2).2,t) else((rv ey (il ey t g.fs (n::r)).1 (il ey t g.fs (n::r)).2.2).1,0,rb ey (fun ks=>np ks n) r.reverse t):=rfl;generalize yn ey t g.fs (n::r)=M at f ⊢;have H:∀{fs':FS} {c:LT},il ey t g.fs (n::r)=(fs',0,c)->_:=fun {_ _} h=>xA h;generalize il ey t g.fs (n::r)=a at k f3 f H;obtain⟨fs',er,c⟩:=a;simp only at k f3 f;generalize findF ey g.ft g.fs (n::r)=aE at k f3;obtain⟨_,_,u,bd,be⟩:=aE;simp only[List.headD_cons,uR]at k f3;have m:Hid _:=f;have heq:∀W,(Op.equalIn 10000 147 (ju (r.reverse++[n])) (ju [])).run prog W=.ok false W:=fun W=>by
  have:=yr hp Good.nil W
  rw[rk (by simp)]at this;exact this
 have z:=fun W=>ut W;obtain⟨T,U,X,Y,Z,A⟩:∃T U X Y Z,fy (r.reverse++[n])=(kq T U X Y Z):=⟨_,_,_,_,_,rfl⟩;unfold ju at z heq;simp only[A]at heq k;rw[A];unfold fy at z heq;simp only[nN]at z heq;have I:Hid _:=A;have aa:Hid _:=h;have o:Hid _:=hF;have l:Hid _:=F;have q:Hid (Sound ey):=hS;have aF:Hid _:=k;have aG:Hid (∀{aH:FS} {aI:LT},(fs',er,c)=(aH,0,aI)->_):=H;have aJ:Hid _:=f3;have J:Hid _:=hp;clear h hF F hS A k H hp f f1 f2 f3;go_enter func71,ntmps71;go_wp2
 go_region_with(go_at_call 75;refine(z _).mono ?_;rintro e aK ⟨rfl,K⟩;obtain⟨bf,bg⟩:=ii K;have L:=jr K;have ab:=fx (gS ((lh w.heap.size w).alloc (kx _) _)) K)
 all_goals
  go_wp2_with fail;refine(aF.out aK ab).mono ?_;rintro e w3 ⟨rfl,TD⟩;obtain⟨aL,v,ac⟩:=TD.out;have bh:=vd (b:=w.heap.size) hi v L (aa.out.st.fresh _ (kx _));have N:w.heap.size<w3.heap.size:=lO L v.size;have ad:aL w.heap.size=(0,0):=(v.tags _ L).trans (aa.out.st.fresh _ (kx _));have O:Hid _:=li ab v;have ae:Hid _:=ac;clear TD v ac;by_cases her:er=0
  ·subst her
   obtain⟨⟨rfl,rfl,rfl⟩,aM⟩:=aJ.out rfl;obtain⟨af,aN,ag,d,ks,ah,ai,aj⟩:=aG.out rfl;have x:=fun W (G:ik w3 W)=>BO (ae.out.below G) (by simp;omega) o.out l.out J.out af u;rw[I.out]at x;have C:=zw (ey:=ey) (fs:=fs') (c:=c);have f:=m.out;clear m;simp only[ne_eq,not_true_eq_false,Py]at f;generalize rv ey fs' c=V at x C f;obtain⟨ak,al⟩:=V;simp only at x C f;have aO:Hid _:=x;have aP:Hid _:=C;have j:Hid _:=And.intro ag (And.intro ah (And.intro ai aj));have m:Hid _:=f;clear x C f af aN ag ah ai aj aM;go_wp2_with fail;refine(aO.out _ ((lh w3.heap.size w3).alloc (kx _) _)).mono ?_;rintro e w5 ⟨rfl,am⟩;obtain⟨SH,y,an⟩:=am.out;have k5:=vd (b:=w.heap.size) hi y (jZ N _) ad;have aQ:w.heap.size<w5.heap.size:=lO (jZ N _) y.size;have aR:SH w.heap.size=(0,0):=(y.tags _ (jZ N _)).trans ad;have ao:Hid _:=li ((lh w3.heap.size w3).alloc (kx _) _) y;have D:Hid _:=an;clear am y an;by_cases P:al=0
   ·subst P
    obtain⟨ap,aq⟩:=aP.out rfl;have E:fO ey t ak r.reverse:=j.out.1.mono ap.2.2.2.2;have ar:=Hk q.out o.out l.out j.out.2.1 j.out.2.2.1 E;have au:=(lj q.out (py q.out _ l.out j.out.2.1).2.1 j.out.2.2.1).1;have av:iv (lX ey t r.reverse) u=true:=by rw[jl j.out.2.1 j.out.2.2.1,WF,<-oY au,j.out.2.2.2];rfl
    have aw:lY ey (lX ey t r.reverse):=by
     have:=D.out.eR ak r
     rw[kV q.out o.out l.out,DK j.out.2.1 j.out.2.2.1 E]at this;rw[jl j.out.2.1 j.out.2.2.1];exact this
    obtain⟨vD,ax⟩:=D.out.wp.nI;have Q:=Jq D.out ax (by simp;omega) J.out ar aw av;have ay:=Im q.out o.out l.out j.out.2.1 j.out.2.2.1 E j.out.2.2.2 aq;have az:=wT q.out l.out j.out.2.1 j.out.2.2.1 u;rw[I.out]at Q;have aS:Hid _:=Q;have aT:Hid _:=ay;have aU:Hid _:=az;clear Q ay az ax aw av au ar E ap aq;go_wp2_with(first
     |(go_at_call 138;go_loud(refine io aS.out ?_;rintro e w6 ⟨rfl,aV,bi,R,aA,aB⟩;have bj:=vd (b:=w.heap.size) hi R aQ aR;have S:=BJ aA aB J.out;rw[I.out]at S;have aW:Hid _:=S;have aX:Hid _:=R;clear S aA aB R))
     |(go_at_call 139;go_loud(refine io aW.out ?_;rintro e bk ⟨rfl,aC,aD,aY⟩;have aZ:Hid _:=aC;have bb:Hid _:=aD;clear aC aD aY)))
    go_ret;have f:=m.out;simp only[not_true_eq_false,Py]at f;subst f;exact⟨rfl,aV,_,(O.out.trans (ao.out.trans (aX.out.trans aZ.out))),bb.out.mono (by simp;omega),aT.out,aU.out⟩
   ·have bl:(al==0)=false:=by simpa using P
    go_wp2;go_ret;have f:=m.out;rw[ie P]at f;subst f;exact⟨rfl,NE (O.out.trans ao.out) (D.out.mono (by simp;omega)) o.out l.out⟩
  ·have bm:(er==0)=false:=by simpa using her
   go_wp2;go_ret;have f:=m.out;rw[ie her]at f;subst f;exact⟨rfl,NE (O.out.trans (eB.eE ((lh w3.heap.size w3).alloc (kx _) _))) ((ae.out.below ((lh w3.heap.size w3).alloc (kx _) _)).mono (by simp;omega)) o.out l.out⟩
theorem vR(c:LT):c.kind=1\/c.kind=2:=by cases c<;>simp[LT.kind]
theorem jR.via(a:ik w W)(h:jR s i p B ey tg W w' g' lim):jR s i p B ey tg w w' g' lim:=by
 obtain⟨eF,m,hW⟩:=h;exact⟨eF,li a m,hW⟩
theorem oo(h:eT tg w s i p B ey g lim)(a:ik w w'):jR s i p B ey tg w w' g lim:=⟨tg,eB.eE a,h.below a⟩
theorem jR.mono{lim a:Nat}(h:jR s i p B ey tg w w' g lim)(hl:lim<=a):jR s i p B ey tg w w' g a:=by
 obtain⟨eF,m,hW⟩:=h;exact⟨eF,m,hW.mono hl⟩
theorem Mn{t c x:LT}(h:eT tg w s i p B ey g lim)(hl:lim+10<1099511627776)(hF:Flat ey t g.ft){n:Nat}(k:eU ey n t)(hq:Good q)(l:t.at ey q=some c)(nm D:eD):
  gc 195 #[hh B.bt,.agg (fy q),.agg #[.string nm,eJ c.kind,eJ c.id],.agg #[.string D,eJ x.kind,eJ x.id]] w fun E w'=>E=.returned (eJ (jd ey g.fs c x).2)/\jR s i p B ey tg w w' { g with fs:=(jd ey g.fs c x).1 } (lim+1):=by
 have b:=fun W (F:ik w W)=>BO (h.below F) hl hF k hq l nm;have a:jd ey g.fs c x=if c.kind=2/\x.kind=1 then(g.fs,7)else if c.kind=1/\x.kind=2 then(g.fs,5)else rv ey g.fs c:=rfl;generalize jd ey g.fs c x=H at a ⊢;have m:=vR c;have o:=vR x;generalize rv ey g.fs c=V at b a;generalize c.kind=kc at b a m ⊢;generalize x.kind=I at a o ⊢;generalize c.id=ic at b ⊢;generalize x.id=ix;obtain⟨r,u,v,y,z,f⟩:∃r u v y z,fy q=(kq r u v y z):=⟨_,_,_,_,_,rfl⟩;rw[f];simp only[f]at b;have A:Hid _:=h;have C:Hid _:=b;have d:Hid _:=a;clear h b f a hF k l;rcases m with rfl|rfl<;>rcases o with rfl|rfl
 ·go_enter func195,ntmps195
  go_wp2_with(go_at_call 137;refine(C.out _ ((((lh w.heap.size w).alloc (kx _) _).alloc (by simp) _).alloc (by simp;omega) _)).mono ?_;rintro e G ⟨rfl,j⟩);go_ret;have a:=d.out;rw[fY (by decide),fY (by decide)]at a;subst a;exact⟨rfl,j.via ((((lh w.heap.size w).alloc (kx _) _).alloc (by simp) _).alloc (by simp;omega) _)⟩
 ·go_enter func195,ntmps195
  go_wp2;go_ret;have a:=d.out;rw[fY (by decide),ie (by decide)]at a;subst a;exact⟨rfl,(oo A.out ((((lh w.heap.size w).alloc (kx _) _).alloc (by simp) _).alloc (by simp;omega) _)).mono (by omega)⟩
 ·go_enter func195,ntmps195
  go_wp2;go_ret;have a:=d.out;rw[ie (by decide)]at a;subst a;exact⟨rfl,(oo A.out ((((lh w.heap.size w).alloc (kx _) _).alloc (by simp) _).alloc (by simp;omega) _)).mono (by omega)⟩
 ·go_enter func195,ntmps195
  go_wp2_with(go_at_call 137;refine(C.out _ ((((lh w.heap.size w).alloc (kx _) _).alloc (by simp) _).alloc (by simp;omega) _)).mono ?_;rintro e G ⟨rfl,j⟩);go_ret;have a:=d.out;rw[fY (by decide),fY (by decide)]at a;subst a;exact⟨rfl,j.via ((((lh w.heap.size w).alloc (kx _) _).alloc (by simp) _).alloc (by simp;omega) _)⟩
end
end Go.Proofs.YtlgidcmmgohagaaGreat
