/- What is proved here: 'put' where there is nothing of that name. -/
import Derived.Test.YtlgidcmmgohagaaGreatFileM16
namespace Go.Proofs.YtlgidcmmgohagaaGreat
open Go.RowKit Go.Sort Go.Shelf Go.Proofs.Tryz
set_option linter.unusedVariables false
set_option maxRecDepth 100000
set_option maxHeartbeats 16000000
variable {g g':WG}{q r:eB}{ei:List Ob}{n:eu}{fs fs':FS}{tg:eM}{v:Value}{es:List eD}{b ix lim o:Nat}{c t:LT}{W w w':World}{K:eB->List eD}{vD:eB->Value}
theorem EO(h:jK ei es){v:Int×Int}(hn:ez n=true)(hv:jP ei (n,v))(hl:g9 es n=true\/es.length<16):jK ei (n7 es n v):=by
 refine⟨qa h.rising,?_,fun e a=>?_⟩
 ·rw[mP]
  have:=h.len
  rcases hl with h1|h1
  ·rw[fY h1];omega
  ·split<;>omega
 ·rcases DY a with rfl|a
  ·exact⟨hn,hv⟩
  ·exact h.ok e a
section
variable {s i p:Nat}{B:WB}{ei:List Ob}
theorem Rh{w w6:World}{nm:eu}{v:Int×Int}{e:Ending}(h:eH tg w s i p B ei g lim)(hD:eZ tg w i B g.ft.od lim vD)(hl:lim<maxLen)(ho:g.ft.od q=some es)(j:g9 es nm=false)(nD:mr es nm=ix)(k:jK ei es)(NE:es.length<16)(hn:ez nm=true)(hv:jP ei (nm,v)){f:Value}(l:vD q=f)
  (hi:qu w w6 f.ownBlock es.length (es.take ix++(nm,v)::es.drop ix) e):
  ∃a c,e=.returned (.slice (some (eb a 0)) (es.length+1) c)/\w.grownBy w6 f.ownBlock/\∃b d m,(Instr.mapUpdate 162 (.map (some B.oD)) (.agg (et q)) (.slice (some (eb a 0)) (es.length+1) c)).run prog w6=.ok () b/\eo (Mine i) tg d w b/\
   eH d b s i p B ei { g with ft:={ g.ft with od:=upd g.ft.od q (some (n7 es nm v)) } } (lim+1)/\eZ d b i B (upd g.ft.od q (some (n7 es nm v))) (lim+1) m:=by
 subst l;obtain⟨a,c,n,o,hg,r⟩:=hi;have t:n7 es nm v=es.take ix++(nm,v)::es.drop ix:=by
  unfold n7;rw[eJ (by rw[j];decide),nD]
 have u:(n7 es nm v).length=es.length+1:=by rw[mP,eJ (by rw[j];decide)]
 obtain⟨b,d,h1,h2,h3,x⟩:=EM h hD hl ho hg (v6:=.slice (some (eb a 0)) (es.length+1) c) (es':=n7 es nm v) (by rw[u,t];exact o) (by
  rcases r with h1|h1
  ·exact .inl h1
  ·exact .inr (fun y z=>by
    obtain rfl:a=y:=by simpa [Value.ownBlock]using z
    exact h1)) (EO k hn hv (.inr NE)) (i7 _ _)
 exact⟨a,c,n,hg,b,d,_,h1,h2,h3,x⟩
theorem CB{c:Nat}{row:Option Nat}(hg:w.grownBy w' row)(hc:c<w.heap.size)(hne:some c≠row)(o:Nat):w'.cell? (eb c o)=w.cell? (eb c o):=ig (a:=(eb c o)) (hg.block c hc hne)
theorem vv{t t':Nat×Nat}{c:Nat}(h:jD tg w t v es)(hc:tg c=t')(hne:t'≠t):some c≠v.ownBlock:=fun e=>hne (hc.symm.trans (h.2 c e.symm))
theorem Ri{w a:World}{t:Nat×Nat}(h:jD tg w t v es)(b:gS w a):∀g,v.ownBlock=some g->a.heap.size≠g:=fun g hg e=>by
 have h1:=ee h.1 hg
 have h2:=b.size
 omega
theorem j7{w a:World}{b o2:Obj}(h:Below ((w.alloc b).alloc o2).heap.size ((w.alloc b).alloc o2) a):w.heap.size<a.heap.size/\w.heap.size+1<a.heap.size:=by
 have h2:=h.size;rw[pL,pL]at h2;omega
theorem Bi{n:Nat}(h:Below n w W)(a:n<=b):Below n w (W.setCell (eb b o) v):=h.setCell a _
theorem yS:(W.setCell (eb b o) v).heap.size=W.heap.size:=by simp
theorem CC(h:eH tg w s i p B ei g lim)(hD:eZ tg w i B g.ft.od lim vD)(hl:lim+300<1099511627776)(hp:Good (q++[n]))(I:fN ei g.fs g.ft K q)(ac:jK ei (K q))(J:g9 (K q) n=false)(NE:(K q).length<16)
  (nm:eu)(k id:Int)(hv:jP ei (n,k,id)):
  eK 135 #[fj B.bt,.agg (et (q++[n])),.agg #[.string nm,ed k,ed id]] w fun az w'=>az=.returned (.tuple #[])/\∃ey aA,eo (Mine i) tg ey w w'/\
   eH ey w' s i p B ei { g with ft:=jm ei g.fs g.ft q n (k,id) } (lim+150)/\eZ ey w' i B (jm ei g.fs g.ft q n (k,id)).od (lim+150) aA:=by
 have hq:Good q:=by have:=hp.dropLast;rwa [oy]at this
 have aB:ez n=true:=hp.val n (by simp);have a4:q.length<=4:=by have:=hp.len;simp at this;omega
 obtain⟨aC,aD,L,aE⟩:=mb I;have ad:jm ei g.fs g.ft q n (k,id)={ ln ei g.fs g.ft q.reverse with od:=upd (ln ei g.fs g.ft q.reverse).od q (some (n7 (K q) n (k,id))) }:=by
  unfold jm;simp only[L,nG];rw[eJ (by rw[J];decide)]
 rw[ad];have t:=fun W (ae:gS w W)=>n5 (s:=s) (i:=i) (p:=p) (B:=B) (ei:=ei) q.reverse tg W g lim K vD (h.below ae) (hD.moves (eo.ew (P:=fun _=>False) ae) (fun x=>x)) (by rw[zQ];omega) (by rw[nu];exact hq) (by rw[nu];exact I)
 rw[nu,zQ]at t;have u:=fun W=>xr (q++[n]) hp W
 have y:=fun W=>iB (q++[n]) hp (by simp) W;rw[oy]at u;simp only[BQ]at y;obtain⟨z,A,C,D,E,M⟩:∃z A C D E,et (q++[n])=(ii z A C D E):=⟨_,_,_,_,_,rfl⟩;obtain⟨a5,a6,a7,a8,a9,N⟩:∃z A C D E,et q=(ii z A C D E):=⟨_,_,_,_,_,rfl⟩;unfold hP at u y;simp only[M,N]at u y t;rw[M];have hi:=h.two;have aF:lim+20*(q.length+1)<maxLen:=by unfold maxLen;omega
 have af:mr (K q) n<=(K q).length:=Jq _ _;generalize ag:mr (K q) n=ix at af;have ah:Hid (mr (K q) n=ix):=ag;have aG:Hid _:=N;have aH:Hid _:=t;have ai:Hid _:=L;have O:Hid _:=ac;have aj:Hid _:=J;have ak:=h.st.fresh;have F:Hid _:=ak;have aI:Hid _:=hv;clear ag h hD t aC aD L aE ac J M N I ad ak hv;go_enter func135,ntmps135;go_wp2_with(first
  |(go_at_call 134;refine(y _).mono ?_;rintro e aJ ⟨rfl,r⟩;obtain⟨bb,aK⟩:=j7 r;have bc:=fun o=>(gc r).1 w.heap.size o (by simp;omega);have bd:=fun o=>(gc r).1 (w.heap.size+1) o (by simp);have f1:=fun o=>(gc r).2 (w.heap.size+1) o (by simp);have aL:=em (((i7 w.heap.size w).alloc (io _) _).alloc (by simp) _) r)
  |(go_at_call 132;go_loud(refine(u _).mono ?_;rintro e j ⟨rfl,Q⟩;have l:=em (Bi aL (Hk _)) Q;have al:=kv aK (xM (yS (W:=aJ) (b:=w.heap.size+1) (o:=0) (v:=.string n)).symm);have e2:=fun o=>(gc Q).1 (w.heap.size+1) o al;have R:=kv al Q.size))
  |(go_at_call 192;go_loud(refine(aH.out _ (l.alloc l.size _)).mono ?_;rintro e w3 ⟨aM,rfl,be,bf,d,S,T,U,aN⟩;have bg:=py (b:=w.heap.size+1) hi d (iC R _) (F.out _ (Hk _));have bh:=py (b:=j.heap.size) hi d (xt _ _) (F.out _ l.size);have aO:=(d.tags j.heap.size (xt _ _)).trans (F.out _ l.size);have aP:=(d.tags (w.heap.size+1) (iC R _)).trans (F.out _ (Hk _));have G:j.heap.size<w3.heap.size:=kv (xt _ _) d.size;have V:w.heap.size+1<w3.heap.size:=zS R G;have X:=T.row _ _ ai.out;rw[U]at X;obtain⟨Y,bi,_,_,_⟩:=S.wp.tree.cells;have am:Hid _:=S;have aQ:Hid _:=d;have aR:Hid _:=T;have f:Hid _:=X;have aS:Hid _:=U;clear S d T X U aN))
  |(go_at_call 133;go_loud(refine(H0 f.out.1 n O.out.rising O.out.len).mono ?_;rintro e a ⟨rfl,c⟩;rw[ah.out,aj.out];have k4:=fun o=>(gc c).1 j.heap.size o G;have bj:=fun o=>(gc c).1 (w.heap.size+1) o V;have d4:=(gc c).1 B.bt 8 Y)))
 have m:gS w3 ((a.alloc (.cells #[.string n,ed k,ed id] 96)).drew):=eQ (c.alloc c.size _);have an:((a.alloc (.cells #[.string n,ed k,ed id] 96)).drew).ownsRow 0 96 3 aM (K q).length (flat (K q)):=eh f.out.1 (fun g' aT=>m.block g' (ee f.out.1 aT));have ao:((a.alloc (.cells #[.string n,ed k,ed id] 96)).drew).heap[a.heap.size]?=some (.cells #[.string n,ed k,ed id] 96 (0,0)):=Array.getElem?_push_size;have ap:=Re (x:=(n,k,id)) an (uQ NE) af ao (Ri f.out c);have aU:Hid _:=ap;have a1:=vv f.out aO (OV i);have a2:=vv f.out aP (OV i);have a3:=vv f.out am.out.wp.tree.tt (Ta i);have aq:j.heap.size<((a.alloc (.cells #[.string n,ed k,ed id] 96)).drew).heap.size:=kv G m.size;have ar:w.heap.size+1<((a.alloc (.cells #[.string n,ed k,ed id] 96)).drew).heap.size:=kv V m.size;have au:B.bt<((a.alloc (.cells #[.string n,ed k,ed id] 96)).drew).heap.size:=kv Y m.size;have bk:j.heap.size<a.heap.size:=kv G c.size;have bl:w.heap.size+1<a.heap.size:=kv V c.size;have bm:B.bt<a.heap.size:=kv Y c.size;have Z:Hid _:=m;have aa:Hid _:=And.intro aq (And.intro ar au);have ab:Hid _:=And.intro a1 (And.intro a2 a3);clear ap an ao m aq ar au a1 a2 a3
 go_region_with(go_at_call 193;go_loud(refine g7 aU.out ?_;rintro e w6 av;obtain⟨bn,bo,rfl,H,bp,aV,aW,aX,aw,ax,ay⟩:=Rh (v:=(k,id)) (am.out.below Z.out) (aR.out.moves (eo.ew (P:=fun _=>False) Z.out) (fun x=>x)) aF ai.out aj.out ah.out O.out NE aB aI.out aS.out av;have bq:=CB H aa.out.1 ab.out.1;have br:=CB H aa.out.2.1 ab.out.2.1;have d6:=CB H aa.out.2.2 ab.out.2.2 8;rw[aG.out]at aX;have aY:Hid _:=aw;have aZ:Hid _:=ax;have a0:Hid _:=ay;clear aw ax ay H av))
 all_goals
  go_wp2;exact bodyPost_end (v:=.tuple #[]) (by simp[results,results135,go_sem]) rfl ⟨rfl,aV,aW,((jn (l.alloc l.size _) aQ.out).trans ((eo.ew Z.out).trans aY.out)),aZ.out.mono (by omega),a0.out.mono (by omega)⟩
theorem HB(h:eH tg w s i p B ei g lim)(hD:eZ tg w i B g.ft.od lim vD){k id:Int}{a j c ix:Nat}(ho:g.ft.od q=some es)(hv:vD q=.slice (some (eb a 0)) j c)(ht:g9 es n=true)(y:mr es n=ix)(hn:ez n=true)(z:jP ei (n,k,id))
  (d:w'=((w.setCell (eb a (ix*3)) (.string n)).setCell (eb a (ix*3+1)) (ed k)).setCell (eb a (ix*3+2)) (ed id)):
  eH tg w' s i p B ei { g with ft:={ g.ft with od:=upd g.ft.od q (some (n7 es n (k,id))) } } lim/\eZ tg w' i B (upd g.ft.od q (some (n7 es n (k,id)))) lim vD/\eo (fun t=>t=(i,5)) tg tg w w'/\w.grownBy w' (some a):=by
 subst y;have A:=h.eR ho;obtain⟨nD,H⟩:=kO ht;have l:=hD.row q es ho;have o:(vD q).ownBlock=some a:=by rw[hv];rfl
 have hg:w.grownBy w' (some a):=by rw[d];exact lj (lj (lj (pp _ _)))
 have r:=EO A hn z (.inl ht);have f:=l.1;rw[hv]at f;have C:j=es.length:=by
  rcases f.2 with⟨e,_⟩|⟨g',I,_,e,_⟩
  ·cases e
  ·cases e;rfl
 subst C;have D:=(f.stored (mr es n*3) (.string n)).1;have E:=(D.stored (mr es n*3+1) (ed k)).1;have u:=(E.stored (mr es n*3+2) (ed id)).1;rw[Bf nD (n,k,id),<-yP ht (k,id),<-d]at u;have F:(n7 es n (k,id)).length=es.length:=by rw[mP,fY ht]
 have v:=hD.rewrite (ei:=ei) ho o hg (by rw[hv,F];exact u) r;have m:eo (fun t=>t=(i,5)) tg tg w w':=rx hg (by rw[d];simp) (l.2 a o);refine⟨h.od m (io _) v (fun x es' b=>?_),v,m,hg⟩;by_cases e:x=q
 ·subst e
  rw[upd_same]at b;cases b;exact fun e G=>(r.ok e G).2
 ·rw[fx e]at b
  exact h.wp.ok.od x es' b
theorem yT{a n c:Nat}(h:w.ownsRow 0 96 3 (.slice (some (eb a 0)) n c) n (flat es))(nD:ix<es.length):w.cell? (eb a (ix*3))=some (.string (es[ix]).1)/\w.cell? (eb a (ix*3+1))=some (ed (es[ix]).2.1)/\w.cell? (eb a (ix*3+2))=some (ed (es[ix]).2.2):=
 sK (b:=a) (fun j d hu=>by have:=hh h j d hu;rwa [PH]at this) nD
theorem OY(h:eH tg w s i p B ei g lim)(hD:eZ tg w i B g.ft.od lim vD)(hl:lim+300<1099511627776)(hp:Good (q++[n]))(Q:fN ei g.fs g.ft K q)(R:jK ei (K q))(I:g9 (K q) n=true)
  (nm:eu)(k id:Int)(hv:jP ei (n,k,id)):
  eK 135 #[fj B.bt,.agg (et (q++[n])),.agg #[.string nm,ed k,ed id]] w fun az w'=>az=.returned (.tuple #[])/\∃ey S,eo (Mine i) tg ey w w'/\
   eH ey w' s i p B ei { g with ft:=jm ei g.fs g.ft q n (k,id) } (lim+150)/\eZ ey w' i B (jm ei g.fs g.ft q n (k,id)).od (lim+150) S:=by
 have hq:Good q:=by have:=hp.dropLast;rwa [oy]at this
 have aA:ez n=true:=hp.val n (by simp);have a1:q.length<=4:=by have:=hp.len;simp at this;omega
 obtain⟨aB,aC,T,aD⟩:=mb Q;have ac:jm ei g.fs g.ft q n (k,id)=tQ { ln ei g.fs g.ft q.reverse with od:=upd (ln ei g.fs g.ft q.reverse).od q (some (n7 (K q) n (k,id))) } (q++[n]):=by
  unfold jm tQ;simp only[T,nG];rw[fY I]
 rw[ac];have J:=fun W (ad:gS w W)=>n5 (s:=s) (i:=i) (p:=p) (B:=B) (ei:=ei) q.reverse tg W g lim K vD (h.below ad) (hD.moves (eo.ew (P:=fun _=>False) ad) (fun x=>x)) (by rw[zQ];omega) (by rw[nu];exact hq) (by rw[nu];exact Q)
 rw[nu,zQ]at J;have L:=fun W=>xr (q++[n]) hp W
 have M:=fun W=>iB (q++[n]) hp (by simp) W;rw[oy]at L;simp only[BQ]at M;obtain⟨m,r,u,y,z,F⟩:∃m r u y z,et (q++[n])=(ii m r u y z):=⟨_,_,_,_,_,rfl⟩;obtain⟨a2,a3,a4,a5,a6,ae⟩:∃m r u y z,et q=(ii m r u y z):=⟨_,_,_,_,_,rfl⟩;unfold hP at L M;simp only[F,ae]at L M J;rw[F];have hi:=h.two;have a7:lim+20*(q.length+1)<maxLen:=by unfold maxLen;omega
 obtain⟨nD,_⟩:=kO I;have NE:=R.len;generalize af:mr (K q) n=ix at nD;have ag:Hid (mr (K q) n=ix):=af;have a8:Hid _:=F;have U:=fun(ey:eM) (W:World) (g':WG) (ah:Nat) (S:eB->Value) (a:eH ey W s i p B ei g' ah) (b:eZ ey W i B g'.ft.od ah S)=>yQ a b hp;simp only[F]at U;have aE:Hid _:=U;have aF:Hid _:=J;have ai:Hid _:=T;have aj:Hid _:=R;have ak:Hid _:=I;have al:=h.st.fresh;have A:Hid _:=al;have aG:Hid _:=hv;clear af h hD J aB aC T aD R I F ae Q ac al hv U;go_enter func135,ntmps135;go_wp2_with(first
  |(go_at_call 134;refine(M _).mono ?_;rintro e C ⟨rfl,G⟩;obtain⟨N,aH⟩:=j7 G;have aI:=fun o=>(gc G).1 w.heap.size o (by simp;omega);have a9:=fun o=>(gc G).1 (w.heap.size+1) o (by simp);have f1:=fun o=>(gc G).2 (w.heap.size+1) o (by simp);have aJ:=em (((i7 w.heap.size w).alloc (io _) _).alloc (by simp) _) G)
  |(go_at_call 132;go_loud(refine(L _).mono ?_;rintro e O ⟨rfl,H⟩;have D:=em (Bi aJ (Hk _)) H;have V:=kv aH (xM (yS (W:=C) (b:=w.heap.size+1) (o:=0) (v:=.string n)).symm);have e2:=fun o=>(gc H).1 (w.heap.size+1) o V;have X:=kv V H.size;have Y:C.heap.size<=O.heap.size:=pD (xM (yS (W:=C) (b:=w.heap.size+1) (o:=0) (v:=.string n)).symm) H.size;have aK:=fun o=>(gc H).1 w.heap.size o (zS (Nat.lt_succ_self _) V)))
  |(go_at_call 192;go_loud(refine(aF.out _ (D.alloc D.size _)).mono ?_;rintro e w3 ⟨bb,rfl,am,aL,d,Z,aa,an,aM⟩;have bc:=py (b:=w.heap.size+1) hi d (iC X _) (A.out _ (Hk _));have bd:=py (b:=O.heap.size) hi d (xt _ _) (A.out _ D.size);have be:=(d.tags O.heap.size (xt _ _)).trans (A.out _ D.size);have bf:=(d.tags (w.heap.size+1) (iC X _)).trans (A.out _ (Hk _));have aN:O.heap.size<w3.heap.size:=kv (xt _ _) d.size;have ao:w.heap.size+1<w3.heap.size:=zS X aN;have f:=aa.row _ _ ai.out;obtain⟨j,bg,ab⟩:=ej f.1 (Nat.lt_of_le_of_lt (oY _) nD);rw[ab]at an f;subst an;have ap:j<w3.heap.size:=ee f.1 rfl;obtain⟨bh,bi,bj⟩:=yT f.1 nD;have bk:=sO f.1;have aO:=py (b:=w.heap.size) hi d (iC (kv N Y) _) (A.out _ (io _));have aP:=(d.tags w.heap.size (iC (kv N Y) _)).trans (A.out _ (io _));have Js:=yR aP (f.2 j rfl) (OV i);have bl:=Js.symm;have aq:w.heap.size<w3.heap.size:=zS (Nat.lt_succ_self _) ao;obtain⟨bm,bn,_,_,_⟩:=Z.wp.tree.cells;have aQ:Hid _:=Z;have aR:Hid _:=d;have aS:Hid _:=aa;have aT:Hid _:=f;have aU:Hid _:=ab;clear Z d aa f ab aM)))
 have q0:∀o v,#[Value.string m,.string r,.string u,.string y,.string z][o]?=some v->w3.cell? (eb w.heap.size o)=some v:=fun o v ho=>by
  rw[aO,SB _ _ _ (kv N Y),aK];rw[show(C.setCell (eb (w.heap.size+1) 0) (.string n)).cell? (eb w.heap.size o)=C.cell? (eb w.heap.size o)from rh (c:=w.heap.size) (lj (pp C (some (w.heap.size+1)))) N (by omega) o,aI];simpa using ho
 refine(H0 aT.out.1 n aj.out.rising aj.out.len).mono ?_;rintro e ar ⟨rfl,l⟩;rw[ag.out,ak.out];have bo:=fun o=>(gc l).1 j o ap;have bp:=fun o=>(gc l).2 j o ap;have bq:=fun o=>(gc l).1 (w.heap.size+1) o ao;have E:∀o v,#[Value.string m,.string r,.string u,.string y,.string z][o]?=some v->(((ar.setCell (eb j (ix*3)) (.string n)).setCell (eb j (ix*3+1)) (ed k)).setCell (eb j (ix*3+2)) (ed id)).cell? (eb w.heap.size o)=some v:=fun o v ho=>by
  rw[rh (c:=w.heap.size) (lj (o:=ix*3+2) (v:=.int .i64 id) (lj (o:=ix*3+1) (v:=.int .i64 k) (lj (o:=ix*3) (v:=.string n) (pp ar (some j))))) (kv aq l.size) Js o,(gc l).1 w.heap.size o aq];exact q0 o v ho
 have br:=E 0 _ rfl;have bs:=E 1 _ rfl;have bt:=E 2 _ rfl;have bu:=E 3 _ rfl;have bv:=E 4 _ rfl;obtain⟨au,o2,o3,_⟩:=HB (aQ.out.below l) (aS.out.moves (eo.ew (P:=fun _=>False) l) (fun x=>x)) ai.out aU.out ak.out ag.out aA aG.out rfl;have av:=aE.out am _ _ _ _ au o2;have aV:Hid _:=av;have aW:Hid _:=o3;have aX:Hid _:=l;clear E q0 au o2 o3 av;go_wp2_with(go_at_call 139;go_loud(refine g7 aV.out ?_;rintro e bw ⟨rfl,aw,ax,ay⟩;have aY:Hid _:=aw;have aZ:Hid _:=ax;have a0:Hid _:=ay;clear aw ax ay))
 all_goals
  exact jr (v:=.tuple #[]) (by simp[results,results135,go_sem]) rfl ⟨rfl,am,aL,((jn (D.alloc D.size _) aR.out).trans ((eo.ew aX.out).trans ((aW.out.mono (fun t ht=>(Or.inr (by rw[ht]):Mine i t))).trans aY.out))),aZ.out.mono (by omega),a0.out.mono (by omega)⟩
end
theorem CD(hS:Sound ei){m:Nat}{t d c:LT}{ks:Kids}(a:eL ei m t)(b:t.at ei q=some d)(hk:kids ei d=some ks)(hn:ez n=true)(hq:q.length<m)(hc:eL ei (m-q.length-1) c)(hl:g9 ks n=true\/ks.length<16):eL ei m (m1 ei (fun ks=>n7 ks n c) q t):=by
 obtain⟨h1,h2,h3⟩:=jp hS (mf hS _ a b).2.1 hk;refine GM hS _ q a b hk (sw (qa h1) ?_ (fun x hx=>?_))
 ·rw[mP]
  rcases hl with h|h
  ·rw[fY h];exact h2
  ·split<;>omega
 ·rcases DY hx with rfl|hx
  ·exact⟨hn,m-q.length-1,by omega,hc⟩
  ·exact h3 x hx
theorem pQ.len{i:Nat}(h:pQ tg w i v es):∃la c,v=.slice la es.length c:=by
 rcases h.1.2 with⟨e,h0⟩|⟨g',a,_,e,_⟩
 ·exact⟨none,0,by rw[h0];exact e⟩
 ·exact⟨_,_,e⟩
section
variable {s i p:Nat}{B:WB}{ei:List Ob}
def Left (s i p:Nat)(B:WB)(ei:List Ob)(tg:eM)(w w':World)(g:WG)(fs':FS)(t':LT)(lim:Nat):Prop:=
 ∃ey iM,eo (Mine i) tg ey w w'/\eH ey w' s i p B ei { g with fs:=fs',ft:=iM } lim/\Flat ei t' iM/\eL ei 5 t'
theorem vy{tg ey:eM}(m:eo (Mine i) tg ey w w')(h:eH ey w' s i p B ei { g with fs:=fs' } lim)(hF:Flat ei t g.ft)(a:eL ei 5 t):Left s i p B ei tg w w' g fs' t lim:=⟨ey,g.ft,m,h,hF,a⟩
theorem HE(t:Nat)(w:World):eK 70 #[fj t,.agg (ii fy fy fy fy fy)] w (ml (ed 6) w):=by
 have a:=fun W=>px W;have heq:∀W,(Op.equalIn 10000 147 (hP []) (hP [])).run prog W=.ok true W:=fun W=>by
  have:=sf Good.nil Good.nil W
  rw[jT rfl]at this;exact this
 unfold hP et at a heq;simp only[k8]at a heq;go_enter func70,ntmps70;go_wp2
 go_region_with(go_at_call 75;refine(a _).mono ?_;rintro e c ⟨rfl,b⟩;obtain⟨d,f⟩:=gc b;have g:=gD b)
 all_goals
  go_wp2;go_ret;exact⟨rfl,em (eQ ((i7 _ _).alloc (io _) _)) b⟩
theorem HF(h:eH tg w s i p B ei g lim)(hl:lim+400<1099511627776)(hF:Flat ei t g.ft)(G:eL ei 5 t)(hp:Good (r.reverse++[n])):
  eK 70 #[fj B.bt,.agg (et (r.reverse++[n]))] w fun aJ w'=>aJ=.returned (ed (y1 ei t g.fs (n::r)).2.1)/\Left s i p B ei tg w w' g (y1 ei t g.fs (n::r)).1 (y1 ei t g.fs (n::r)).2.2 (lim+300):=by
 have hS:=h.st.sound;have hi:=h.two;have hq:Good r.reverse:=by have:=hp.dropLast;rwa [oy]at this
 have aK:ez n=true:=hp.val n (by simp);have a7:r.length<=4:=by have:=hp.len;simp at this;omega
 have u:=fun W (y:gS w W)=>n4 (s:=s) (i:=i) (p:=p) (B:=B) (ei:=ei) r tg W g lim (h.below y) (by omega) hq;simp only[jb hS hF G g.fs r]at u;have f:y1 ei t g.fs (n::r)=if(kq ei t g.fs r).2.1≠0 then((kq ei t g.fs r).1,(kq ei t g.fs r).2.1,t)else if(g8 (kq ei t g.fs r).2.2 n).isSome then((kq ei t g.fs r).1,6,t)else if 16<=(kq ei t g.fs r).2.2.length then((kq ei t g.fs r).1,11,t) else((kq ei t g.fs r).1,0,m1 ei (fun ks=>n7 ks n (.own [])) r.reverse t):=rfl;have H:=lq (ei:=ei) (t:=t) (fs:=g.fs) (r:=r);have I:jK ei ((kq ei t g.fs r).2.2.map kB):=by have:=h.eG g.fs r;rwa [jb hS hF G g.fs r]at this
 generalize y1 ei t g.fs (n::r)=M at f ⊢;generalize kq ei t g.fs r=a at u H I f;obtain⟨fs',er,ks⟩:=a;simp only at u H I f;have J:Hid _:=f;have heq:∀W,(Op.equalIn 10000 147 (hP (r.reverse++[n])) (hP [])).run prog W=.ok false W:=fun W=>by
  have:=sf hp Good.nil W
  rw[m6 (by simp)]at this;exact this
 have K:=fun W=>px W;have L:=fun W=>xr (r.reverse++[n]) hp W;have z:=fun W=>iB (r.reverse++[n]) hp (by simp) W;rw[oy]at L;simp only[BQ]at z;obtain⟨N,O,Q,R,S,T⟩:∃N O Q R S,et (r.reverse++[n])=(ii N O Q R S):=⟨_,_,_,_,_,rfl⟩;obtain⟨a8,a9,bb,bc,bd,ao⟩:∃N O Q R S,et r.reverse=(ii N O Q R S):=⟨_,_,_,_,_,rfl⟩;unfold hP at K heq L z;simp only[T,ao]at heq L z u;rw[T];unfold et at K heq;simp only[k8]at K heq;have ap:Hid _:=T;have aq:Hid _:=h;have A:Hid _:=hF;have q:Hid _:=G;have C:Hid _:=hS;have aL:Hid _:=u;have aM:Hid _:=H;have ar:Hid _:=hp;have aN:Hid _:=I;clear h hF G hS T ao u H hp I f;go_enter func70,ntmps70;go_wp2
 go_region_with(go_at_call 75;refine(K _).mono ?_;rintro e be ⟨rfl,ab⟩;obtain⟨bf,bg⟩:=gc ab;have au:=gD ab;have aO:=em (eQ ((i7 w.heap.size w).alloc (io _) _)) ab)
 all_goals
  go_wp2_with(go_at_call 132;refine(L _).mono ?_;rintro e aP ⟨rfl,ac⟩;have bh:=fun o=>(gc ac).1 w.heap.size o au;have ad:=kv au ac.size;have av:=em aO ac);refine(aL.out aP av).mono ?_;rintro e w3 ⟨v,rfl,aw,D,ax,ae⟩;have bi:=py (b:=w.heap.size) hi (D.mono (fun _ h=>h.mine)) ad (aq.out.st.fresh _ (io _));have ay:=jn av (D.mono (fun _ h=>h.mine));have U:w.heap.size<w3.heap.size:=kv ad D.size;have aQ:aw w.heap.size=(0,0):=(D.tags _ ad).trans (aq.out.st.fresh _ (io _));have E:Hid _:=ax;have V:Hid _:=ay;have aR:Hid (pQ aw w3 i v (ks.map kB)):=ae;obtain⟨la,lc,rfl⟩:=ae.len;rw[kU];clear ax ae D ay;by_cases her:er=0
  ·subst her
   obtain⟨⟨d,X,hk⟩,aS,af⟩:=aM.out rfl;have az:=un C.out A.out q.out X hk af;obtain⟨ag,ah,aT⟩:=jp C.out (mf C.out _ q.out X).2.1 hk;have ai:eF (ks.map kB):=by rw[jy];exact iZ _ ag
   have aj:(ks.map kB).length<=16:=by rw[kU];exact ah
   have aA:=lr ag n;have aB:=xn ks n;have ak:=fun W2 (y:gS w3 W2)=>H0 (aR.out.below y).1 n ai aj;rw[kU]at ak;have al:Hid _:=ak;have aU:Hid _:=az;have j:Hid _:=And.intro X (And.intro hk af);have Y:Hid _:=aB;have Z:Hid _:=aA;have bj:Hid _:=And.intro ai aj;have bk:ks.length<=16:=ah;clear ak az X hk af aB aA ai aj ag ah aT aS;cases m:g9 ks n with
   |true=>
    go_wp2_with(first
     |(go_at_call 134;refine(z _).mono ?_;rintro e aC ⟨rfl,l⟩)
     |(go_at_call 133;go_loud(refine(al.out _ l).mono ?_;rintro e w5 ⟨rfl,F⟩;rw[Y.out,m];have k:=em l F)))
    go_ret;have f:=J.out;rw[eJ (by simp),fY (by rw[Z.out];exact m)]at f;subst f;exact⟨rfl,vy (V.out.trans (eo.ew k)) ((E.out.below k).mono (by omega)) A.out q.out⟩
   |false=>
    by_cases NE:ks.length<16
    ·obtain⟨vD,aD⟩:=E.out.wp.kX
     have am:=fun W2 (y:gS w3 W2)=>CC (E.out.below y) (aD.moves (eo.ew (P:=fun _=>False) y) (fun x=>x)) (by omega) ar.out aU.out (by rw[gz j.out.1 j.out.2.1];exact aN.out) (by rw[gz j.out.1 j.out.2.1,Y.out];exact m) (by rw[gz j.out.1 j.out.2.1,kU];exact NE) fy 2 0 ⟨.inr rfl,fun h=>absurd rfl h⟩;rw[ap.out]at am;have aV:Hid _:=am;clear am aD;have aW:¬((16:Int)<=(ks.length:Int)):=by omega
     go_wp2_with(first
      |(go_at_call 134;refine(z _).mono ?_;rintro e aC ⟨rfl,l⟩;have k4:=fun o=>(gc l).1 w.heap.size o U)
      |(go_at_call 133;go_loud(refine(al.out _ l).mono ?_;rintro e w5 ⟨rfl,F⟩;rw[Y.out,m];have k:=em l F;have k5:=fun o=>(gc k).1 w.heap.size o U))
      |(go_at_call 135;go_loud(refine(aV.out _ k).mono ?_;rintro e w6 ⟨rfl,bl,bm,aa,an,aE⟩;have bn:=py (b:=w.heap.size) hi aa (kv U k.size) aQ;have bo:=kv (kv U k.size) aa.size;have aX:Hid _:=aa;have aY:Hid _:=an;have aZ:Hid _:=aE;obtain⟨bp,bq,_,_,_⟩:=an.wp.tree.cells;clear aa an aE)))
     obtain⟨br,a0,a1,bs,bt,bu,aF,aG,a2,_⟩:=CA aY.out aZ.out (by unfold maxLen;omega) ar.out (eQ (i7 _ w6)) (JB _) (fun bv h=>by simp[Value.ownBlock]at h) ⟨by simp[eF],by simp,by simp⟩;rw[ap.out]at a1;have a3:Hid _:=aF;have a4:Hid _:=aG;have aH:=GN C.out A.out q.out j.out.1 j.out.2.1 j.out.2.2 (n:=n) (by have:=Z.out;rw[m]at this;simpa using this);have aI:=CD C.out q.out j.out.1 j.out.2.1 aK (by rw[zQ];omega) (c:=.own []) (sw (by simp[eF]) (by simp) (by simp)) (.inr NE);have a5:Hid _:=aH;have a6:Hid _:=aI;clear aF aG a2 aH aI
     go_region
     all_goals
      go_wp2;go_ret;have f:=J.out;rw[eJ (by simp),eJ (by rw[Z.out,m];decide),eJ (by omega)]at f;subst f;exact⟨rfl,a0,_,(V.out.trans ((eo.ew k).trans (aX.out.trans a3.out))),a4.out.mono (by omega),a5.out,a6.out⟩
    ·have aW:(16:Int)<=(ks.length:Int):=by omega
     go_wp2_with(first
      |(go_at_call 134;refine(z _).mono ?_;rintro e aC ⟨rfl,l⟩)
      |(go_at_call 133;go_loud(refine(al.out _ l).mono ?_;rintro e w5 ⟨rfl,F⟩;rw[Y.out,m];have k:=em l F)))
     go_ret;have f:=J.out;rw[eJ (by simp),eJ (by rw[Z.out,m];decide),fY (by omega)]at f;subst f;exact⟨rfl,vy (V.out.trans (eo.ew k)) ((E.out.below k).mono (by omega)) A.out q.out⟩
  ·have bw:(er==0)=false:=by simpa using her
   go_wp2;go_ret;have f:=J.out;rw[fY her]at f;subst f;exact⟨rfl,vy V.out (E.out.mono (by omega)) A.out q.out⟩
end
theorem yU{n:Nat}(h:eL ei n c)(nm:eu):jP ei (nm,c.kind,c.id):=by
 cases c with
 |file id=>exact⟨.inl rfl,fun _=>by cases n<;>exact h⟩
 |held f=>exact⟨.inl rfl,fun h=>absurd rfl h⟩
 |dir id=>exact⟨.inr rfl,fun _=>by cases n<;>exact h.1⟩
 |own es=>exact⟨.inr rfl,fun h=>absurd rfl h⟩
section
variable {s i p:Nat}{B:WB}{ei:List Ob}
theorem yV(h:eH tg w s i p B ei g lim)(hl:lim+10<1099511627776)(hF:Flat ei t g.ft){n:Nat}(C:eL ei n t)(hq:Good q)(j:t.at ei q=some c)(nm:eu):
  eK 137 #[fj B.bt,.agg (et q),.agg #[.string nm,ed c.kind,ed c.id]] w fun G w'=>G=.returned (ed (nl ei g.fs c).2)/\iq s i p B ei tg w w' { g with fs:=(nl ei g.fs c).1 } (lim+1):=by
 have hS:=h.st.sound;have hc:=(mf hS _ C j).2.1;have b:=fun W (d:gS w W)=>qq (h.below d) (by omega) hq (yU hc nm);simp only[qR hS hF hc j]at b;have hv:nl ei g.fs c=if c.kind=1 then(g.fs,0)else if(lO ei g.fs c).2.1=0/\0<(lO ei g.fs c).2.2.length then((lO ei g.fs c).1,8) else((lO ei g.fs c).1,(lO ei g.fs c).2.1):=rfl;generalize nl ei g.fs c=V at hv ⊢;generalize lO ei g.fs c=a at b hv;obtain⟨fs',er,ks⟩:=a;simp only at b hv;generalize c.kind=k at b hv ⊢;generalize c.id=id at b ⊢;obtain⟨l,m,o,r,u,x⟩:∃l m o r u,et q=(ii l m o r u):=⟨_,_,_,_,_,rfl⟩;rw[x];simp only[x]at b;have H:Hid _:=h;have I:Hid _:=b;have f:Hid _:=hv;clear h b x hv hF C j hS hc;by_cases hk:k=1
 ·subst hk
  go_enter func137,ntmps137;go_wp2;go_ret;have hv:=f.out;rw[fY (by first|rfl|trivial)]at hv;subst hv;have d:gS w ((w.alloc (.cells (ii l m o r u) 147)).alloc (.cells #[.string nm,ed 1,ed id] 96)):=((i7 w.heap.size w).alloc (io _) _).alloc (by simp) _;exact⟨rfl,tg,eo.ew d,(H.out.below d).mono (by omega)⟩
 ·have K:(k==1)=false:=by simpa using hk
  go_enter func137,ntmps137;go_wp2_with fail;refine(I.out _ (((i7 w.heap.size w).alloc (io _) _).alloc (by simp) _)).mono ?_;rintro e L ⟨v,rfl,y,D,E,F⟩;obtain⟨la,lc,rfl⟩:=F.len;rw[kU];have z:Hid _:=E;have A:Hid _:=jn (((i7 w.heap.size w).alloc (io _) _).alloc (by simp) _) D;clear F E D;by_cases her:er=0
  ·subst her
   by_cases hl0:0<ks.length
   ·have J:(0:Int)<(ks.length:Int):=by omega
    go_wp2;go_ret;have hv:=f.out;rw[eJ hk,fY (by first|exact⟨rfl,hl0⟩|exact⟨trivial,hl0⟩)]at hv;subst hv;exact⟨rfl,y,A.out,z.out⟩
   ·have J:¬(0:Int)<(ks.length:Int):=by omega
    go_wp2;go_ret;have hv:=f.out;rw[eJ hk,eJ (fun h=>hl0 h.2)]at hv;subst hv;exact⟨rfl,y,A.out,z.out⟩
  ·have M:(er==0)=false:=by simpa using her
   go_wp2;go_ret;have hv:=f.out;rw[eJ hk,eJ (fun h=>her h.1)]at hv;subst hv;exact⟨rfl,y,A.out,z.out⟩
theorem EP(t:Nat)(w:World):eK 71 #[fj t,.agg (ii fy fy fy fy fy)] w (ml (ed 9) w):=by
 have a:=fun W=>px W;have heq:∀W,(Op.equalIn 10000 147 (hP []) (hP [])).run prog W=.ok true W:=fun W=>by
  have:=sf Good.nil Good.nil W
  rw[jT rfl]at this;exact this
 unfold hP et at a heq;simp only[k8]at a heq;go_enter func71,ntmps71;go_wp2
 go_region_with(go_at_call 75;refine(a _).mono ?_;rintro e c ⟨rfl,b⟩;obtain⟨d,f⟩:=gc b;have g:=gD b)
 all_goals
  go_wp2;go_ret;exact⟨rfl,em (eQ ((i7 _ _).alloc (io _) _)) b⟩
end
theorem wH(h:(nl ei fs c).2=0):fs.Next (nl ei fs c).1/\(kids ei c=none\/kids ei c=some []):=by
 unfold nl at h ⊢;by_cases hk:c.kind=1
 ·rw[fY hk]
  refine⟨FS.Next.refl _,.inl ?_⟩;cases c<;>simp[LT.kind]at hk<;>rfl
 ·rw[eJ hk]at h ⊢
  by_cases h0:(lO ei fs c).2.1=0/\0<(lO ei fs c).2.2.length
  ·simp only[fY h0]at h;cases h
  ·simp only[eJ h0]at h ⊢
   obtain⟨a,b,d⟩:=su h;refine⟨b,.inr ?_⟩;rw[a,kE];exact xF.1 (by have:=fun x=>h0 ⟨h,x⟩;omega)
theorem ux(hf:g5 ei t fs (n::r)=(fs',0,c)):t.at ei (r.reverse++[n])=some c/\fs.Next fs'/\fC ei t fs' r.reverse/\∃d ks,t.at ei r.reverse=some d/\kids ei d=some ks/\g8 ks n=some c:=by
 obtain⟨h1,h2,h3⟩:=oI (ei:=ei) (t:=t) (fs:=fs) (r:=n::r) (by rw[hf]);rw[hf,nC]at h1;rw[hf]at h2;refine⟨h1,h2,fun x id hx a=>?_,qT h1⟩
 have:=h3 x id (by rw[nC];exact hx.trans (kV _ _)) (fun e=>by
  have:=hx.length_le
  rw[e,nC]at this;simp at this;omega) a
 rw[hf]at this;exact this
section
variable {s i p:Nat}{B:WB}{ei:List Ob}
theorem iq.out(h:iq s i p B ei tg w w' g' lim):∃ey,eo (Mine i) tg ey w w'/\eH ey w' s i p B ei g' lim:=by
 obtain⟨ey,m,hW⟩:=h;exact⟨ey,m.mono (fun _ h=>h.mine),hW⟩
theorem ER(h:eH tg w s i p B ei g lim)(hl:lim+400<1099511627776)(hF:Flat ei t g.ft)(F:eL ei 5 t)(hp:Good (r.reverse++[n])):
  eK 71 #[fj B.bt,.agg (et (r.reverse++[n]))] w fun u w'=>u=.returned (ed (se ei t g.fs (n::r)).2.1)/\Left s i p B ei tg w w' g (se ei t g.fs (n::r)).1 (se ei t g.fs (n::r)).2.2 (lim+300):=by
 have hS:=h.st.sound;have hi:=h.two;have a1:r.length<=4:=by have:=hp.len;simp at this;omega
 have k:=fun W (G:gS w W)=>qs (s:=s) (i:=i) (p:=p) (B:=B) (ei:=ei) (n::r) tg W g lim (h.below G) (by omega) (by rw[nC];exact hp);rw[nC]at k;obtain⟨f1,f2,f3⟩:=nM hS hF F g.fs (n::r);simp only[f1,f2]at k;have f:se ei t g.fs (n::r)=if(g5 ei t g.fs (n::r)).2.1≠0 then((g5 ei t g.fs (n::r)).1,(g5 ei t g.fs (n::r)).2.1,t)else if(nl ei (g5 ei t g.fs (n::r)).1 (g5 ei t g.fs (n::r)).2.2).2≠0 then((nl ei (g5 ei t g.fs (n::r)).1 (g5 ei t g.fs (n::r)).2.2).1,(nl ei (g5 ei t g.fs (n::r)).1 (g5 ei t g.fs (n::r)).2.2).2,t) else((nl ei (g5 ei t g.fs (n::r)).1 (g5 ei t g.fs (n::r)).2.2).1,0,m1 ei (fun ks=>lh ks n) r.reverse t):=rfl;generalize se ei t g.fs (n::r)=M at f ⊢;have H:∀{fs':FS} {c:LT},g5 ei t g.fs (n::r)=(fs',0,c)->_:=fun {_ _} h=>ux h;generalize g5 ei t g.fs (n::r)=a at k f3 f H;obtain⟨fs',er,c⟩:=a;simp only at k f3 f;generalize findF ei g.ft g.fs (n::r)=aE at k f3;obtain⟨_,_,u,a2,a3⟩:=aE;simp only[List.headD_cons,rN]at k f3;have m:Hid _:=f;have heq:∀W,(Op.equalIn 10000 147 (hP (r.reverse++[n])) (hP [])).run prog W=.ok false W:=fun W=>by
  have:=sf hp Good.nil W
  rw[m6 (by simp)]at this;exact this
 have z:=fun W=>px W;obtain⟨T,U,X,Y,Z,A⟩:∃T U X Y Z,et (r.reverse++[n])=(ii T U X Y Z):=⟨_,_,_,_,_,rfl⟩;unfold hP at z heq;simp only[A]at heq k;rw[A];unfold et at z heq;simp only[k8]at z heq;have I:Hid _:=A;have aa:Hid _:=h;have o:Hid _:=hF;have l:Hid _:=F;have q:Hid (Sound ei):=hS;have aF:Hid _:=k;have aG:Hid (∀{aH:FS} {aI:LT},(fs',er,c)=(aH,0,aI)->_):=H;have aJ:Hid _:=f3;have J:Hid _:=hp;clear h hF F hS A k H hp f f1 f2 f3;go_enter func71,ntmps71;go_wp2
 go_region_with(go_at_call 75;refine(z _).mono ?_;rintro e aK ⟨rfl,K⟩;obtain⟨a4,a5⟩:=gc K;have L:=gD K;have ab:=em (eQ ((i7 w.heap.size w).alloc (io _) _)) K)
 all_goals
  go_wp2_with fail;refine(aF.out aK ab).mono ?_;rintro e w3 ⟨rfl,NH⟩;obtain⟨aL,v,ac⟩:=NH.out;have a6:=py (b:=w.heap.size) hi v L (aa.out.st.fresh _ (io _));have N:w.heap.size<w3.heap.size:=kv L v.size;have ad:aL w.heap.size=(0,0):=(v.tags _ L).trans (aa.out.st.fresh _ (io _));have O:Hid _:=jn ab v;have ae:Hid _:=ac;clear NH v ac;by_cases her:er=0
  ·subst her
   obtain⟨⟨rfl,rfl,rfl⟩,aM⟩:=aJ.out rfl;obtain⟨af,aN,ag,d,ks,ah,ai,aj⟩:=aG.out rfl;have x:=fun W (G:gS w3 W)=>yV (ae.out.below G) (by simp;omega) o.out l.out J.out af u;rw[I.out]at x;have C:=wH (ei:=ei) (fs:=fs') (c:=c);have f:=m.out;clear m;simp only[ne_eq,not_true_eq_false,Ko]at f;generalize nl ei fs' c=V at x C f;obtain⟨ak,al⟩:=V;simp only at x C f;have aO:Hid _:=x;have aP:Hid _:=C;have j:Hid _:=And.intro ag (And.intro ah (And.intro ai aj));have m:Hid _:=f;clear x C f af aN ag ah ai aj aM;go_wp2_with fail;refine(aO.out _ ((i7 w3.heap.size w3).alloc (io _) _)).mono ?_;rintro e w5 ⟨rfl,am⟩;obtain⟨MR,y,an⟩:=am.out;have k5:=py (b:=w.heap.size) hi y (iC N _) ad;have aQ:w.heap.size<w5.heap.size:=kv (iC N _) y.size;have aR:MR w.heap.size=(0,0):=(y.tags _ (iC N _)).trans ad;have ao:Hid _:=jn ((i7 w3.heap.size w3).alloc (io _) _) y;have D:Hid _:=an;clear am y an;by_cases P:al=0
   ·subst P
    obtain⟨ap,aq⟩:=aP.out rfl;have E:fC ei t ak r.reverse:=j.out.1.mono ap.2.2.2.2;have ar:=un q.out o.out l.out j.out.2.1 j.out.2.2.1 E;have au:=(jp q.out (mf q.out _ l.out j.out.2.1).2.1 j.out.2.2.1).1;have av:g9 (jJ ei t r.reverse) u=true:=by rw[gz j.out.2.1 j.out.2.2.1,xn,<-lr au,j.out.2.2.2];rfl
    have aw:jK ei (jJ ei t r.reverse):=by
     have:=D.out.eG ak r
     rw[jb q.out o.out l.out,AJ j.out.2.1 j.out.2.2.1 E]at this;rw[gz j.out.2.1 j.out.2.2.1];exact this
    obtain⟨vD,ax⟩:=D.out.wp.kX;have Q:=EN D.out ax (by simp;omega) J.out ar aw av;have ay:=D3 q.out o.out l.out j.out.2.1 j.out.2.2.1 E j.out.2.2.2 aq;have az:=tT q.out l.out j.out.2.1 j.out.2.2.1 u;rw[I.out]at Q;have aS:Hid _:=Q;have aT:Hid _:=ay;have aU:Hid _:=az;clear Q ay az ax aw av au ar E ap aq;go_wp2_with(first
     |(go_at_call 138;go_loud(refine g7 aS.out ?_;rintro e w6 ⟨rfl,aV,a7,R,aA,aB⟩;have a8:=py (b:=w.heap.size) hi R aQ aR;have S:=yQ aA aB J.out;rw[I.out]at S;have aW:Hid _:=S;have aX:Hid _:=R;clear S aA aB R))
     |(go_at_call 139;go_loud(refine g7 aW.out ?_;rintro e a9 ⟨rfl,aC,aD,aY⟩;have aZ:Hid _:=aC;have a0:Hid _:=aD;clear aC aD aY)))
    go_ret;have f:=m.out;simp only[not_true_eq_false,Ko]at f;subst f;exact⟨rfl,aV,_,(O.out.trans (ao.out.trans (aX.out.trans aZ.out))),a0.out.mono (by simp;omega),aT.out,aU.out⟩
   ·have bb:(al==0)=false:=by simpa using P
    go_wp2;go_ret;have f:=m.out;rw[fY P]at f;subst f;exact⟨rfl,vy (O.out.trans ao.out) (D.out.mono (by simp;omega)) o.out l.out⟩
  ·have bc:(er==0)=false:=by simpa using her
   go_wp2;go_ret;have f:=m.out;rw[fY her]at f;subst f;exact⟨rfl,vy (O.out.trans (eo.ew ((i7 w3.heap.size w3).alloc (io _) _))) ((ae.out.below ((i7 w3.heap.size w3).alloc (io _) _)).mono (by simp;omega)) o.out l.out⟩
theorem sP(c:LT):c.kind=1\/c.kind=2:=by cases c<;>simp[LT.kind]
theorem iq.via(a:gS w W)(h:iq s i p B ei tg W w' g' lim):iq s i p B ei tg w w' g' lim:=by
 obtain⟨ey,m,hW⟩:=h;exact⟨ey,jn a m,hW⟩
theorem lQ(h:eH tg w s i p B ei g lim)(a:gS w w'):iq s i p B ei tg w w' g lim:=⟨tg,eo.ew a,h.below a⟩
theorem iq.mono{lim a:Nat}(h:iq s i p B ei tg w w' g lim)(hl:lim<=a):iq s i p B ei tg w w' g a:=by
 obtain⟨ey,m,hW⟩:=h;exact⟨ey,m,hW.mono hl⟩
theorem HI{t c x:LT}(h:eH tg w s i p B ei g lim)(hl:lim+10<1099511627776)(hF:Flat ei t g.ft){n:Nat}(k:eL ei n t)(hq:Good q)(l:t.at ei q=some c)(nm D:eu):
  eK 195 #[fj B.bt,.agg (et q),.agg #[.string nm,ed c.kind,ed c.id],.agg #[.string D,ed x.kind,ed x.id]] w fun E w'=>E=.returned (ed (T1 ei g.fs c x).2)/\iq s i p B ei tg w w' { g with fs:=(T1 ei g.fs c x).1 } (lim+1):=by
 have b:=fun W (F:gS w W)=>yV (h.below F) hl hF k hq l nm;have a:T1 ei g.fs c x=if c.kind=2/\x.kind=1 then(g.fs,7)else if c.kind=1/\x.kind=2 then(g.fs,5)else nl ei g.fs c:=rfl;generalize T1 ei g.fs c x=H at a ⊢;have m:=sP c;have o:=sP x;generalize nl ei g.fs c=V at b a;generalize c.kind=kc at b a m ⊢;generalize x.kind=I at a o ⊢;generalize c.id=ic at b ⊢;generalize x.id=ix;obtain⟨r,u,v,y,z,f⟩:∃r u v y z,et q=(ii r u v y z):=⟨_,_,_,_,_,rfl⟩;rw[f];simp only[f]at b;have A:Hid _:=h;have C:Hid _:=b;have d:Hid _:=a;clear h b f a hF k l;rcases m with rfl|rfl<;>rcases o with rfl|rfl
 ·go_enter func195,ntmps195
  go_wp2_with(go_at_call 137;refine(C.out _ ((((i7 w.heap.size w).alloc (io _) _).alloc (by simp) _).alloc (by simp;omega) _)).mono ?_;rintro e G ⟨rfl,j⟩);go_ret;have a:=d.out;rw[eJ (by decide),eJ (by decide)]at a;subst a;exact⟨rfl,j.via ((((i7 w.heap.size w).alloc (io _) _).alloc (by simp) _).alloc (by simp;omega) _)⟩
 ·go_enter func195,ntmps195
  go_wp2;go_ret;have a:=d.out;rw[eJ (by decide),fY (by decide)]at a;subst a;exact⟨rfl,(lQ A.out ((((i7 w.heap.size w).alloc (io _) _).alloc (by simp) _).alloc (by simp;omega) _)).mono (by omega)⟩
 ·go_enter func195,ntmps195
  go_wp2;go_ret;have a:=d.out;rw[fY (by decide)]at a;subst a;exact⟨rfl,(lQ A.out ((((i7 w.heap.size w).alloc (io _) _).alloc (by simp) _).alloc (by simp;omega) _)).mono (by omega)⟩
 ·go_enter func195,ntmps195
  go_wp2_with(go_at_call 137;refine(C.out _ ((((i7 w.heap.size w).alloc (io _) _).alloc (by simp) _).alloc (by simp;omega) _)).mono ?_;rintro e G ⟨rfl,j⟩);go_ret;have a:=d.out;rw[eJ (by decide),eJ (by decide)]at a;subst a;exact⟨rfl,j.via ((((i7 w.heap.size w).alloc (io _) _).alloc (by simp) _).alloc (by simp;omega) _)⟩
end
end Go.Proofs.YtlgidcmmgohagaaGreat
