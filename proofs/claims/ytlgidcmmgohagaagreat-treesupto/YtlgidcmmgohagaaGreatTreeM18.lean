/- What is proved here: 'claim' at the root. -/
import Derived.Test.YtlgidcmmgohagaaGreatTreeM17
import Derived.Test.YtlgidcmmgohagaaGreatTreeM05
namespace Go.Proofs.YtlgidcmmgohagaaGreat
open Go.RowKit Go.Sort Go.Shelf Go.Proofs.Tryz
set_option linter.unusedVariables false
set_option maxRecDepth 100000
set_option maxHeartbeats 16000000
section
variable {s i p:Nat}{B:WB}{ag:List Ob}
theorem Ec.cells {tg:aP}{w:World}{base root:Int}(h:Ec tg w i p B base root):B.bt<w.heap.size/\w.cell? ⟨B.bt,8,none⟩=some (.map (some B.oD))/\w.cell? ⟨B.bt,7,none⟩=some (.map (some B.oF))/\w.cell? ⟨B.bt,6,none⟩=some (.int .i64 root)/\(∀o,w.frozen? ⟨B.bt,o,none⟩=false):=
 ⟨(Array.getElem?_eq_some_iff.1 h.ht).1,by simp[World.cell?,h.ht],by simp[World.cell?,h.ht],by simp[World.cell?,h.ht],fun o=>by simp[World.frozen?,h.ht]⟩
theorem bF.WS {tg:aP}{w:World}{g:WG}{lim:Nat}(h:bF tg w s i p B ag g lim):bF tg (w.setCell ⟨B.bt,6,none⟩ (.int .i64 0)) s i p B ag { g with ft:={ g.ft with root:=0 } } lim/\az (fun t=>t=(i,1)) tg tg w (w.setCell ⟨B.bt,6,none⟩ (.int .i64 0)):=by
 have hi:=h.two;have ht:=h.wp.tree;have m:az (fun t=>t=(i,1)) tg tg w (w.setCell ⟨B.bt,6,none⟩ (.int .i64 0)):=⟨rfl,rfl,rfl,by simp,fun _ _=>rfl,fun k hk hn=>Below.heap_setCell _ _ _ _ (fun e=>hn (by rw[e];exact ht.tt)),fun hf k hk=>hf k (by simpa using hk)⟩;refine⟨⟨hi,h.st.moves m (fun e=>by cases e) (fun e=>by cases e;omega),⟨⟨ht.tt,ht.tF,ht.tD,?_,?_,?_⟩,h.wp.qK.moves m (fun e=>by cases e),h.wp.qL.moves m (fun e=>by cases e),h.wp.Ac.moves m (fun e=>by cases e),?_,h.wp.files.moves m (fun e=>by cases e),h.wp.held,h.wp.opens.moves m (fun e=>by cases e) (fun e=>by cases e),⟨fun h0=>absurd rfl h0,h.wp.ok.od⟩⟩⟩,m⟩
 ·simp[World.setCell,Array.getElem?_modify,ht.ht]
 ·rw[Below.heap_setCell _ _ _ _ (mJ ht.hF ht.ht (by decide))];exact ht.hF
 ·rw[Below.heap_setCell _ _ _ _ (mJ ht.hD ht.ht (by decide))];exact ht.hD
 ·obtain⟨vD,hD⟩:=h.wp.tG
  exact⟨vD,hD.moves m (fun e=>by cases e)⟩
theorem eC {w w':World}{b c:Nat}(hg:w.grownBy w' (some b))(hc:c<w.heap.size)(hne:c≠b)(o:Nat):w'.cell? ⟨c,o,none⟩=w.cell? ⟨c,o,none⟩:=World.cell?_of_block (a:=⟨c,o,none⟩) (hg.block c hc (fun e=>hne (by injection e)))
theorem PT {tg:aP}{w:World}{g:WG}{lim:Nat}{vD0:List ByteArray->Value}(h:bF tg w s i p B ag g lim)(GG:cG tg w i B g.ft.od lim vD0)(hl:lim+20<1099511627776)(ho:g.ft.od []=none){es:List aK}(hL:bO ag g.ft g.fs []=(g.fs,0,es)):
  Calls prog 192 #[.pointer (some ⟨B.bt,0,none⟩),.agg #[.string ⟨#[]⟩,.string ⟨#[]⟩,.string ⟨#[]⟩,.string ⟨#[]⟩,.string ⟨#[]⟩]] w fun en w'=>∃v,en=.returned v/\∃aC vD,az (Mine i) tg aC w w'/\
   bF aC w' s i p B ag { g with ft:={ g.ft with od:=upd g.ft.od [] (some es),root:=0 } } (lim+10)/\cG aC w' i B (upd g.ft.od [] (some es)) (lim+10) vD/\vD []=v/\∀q,q ≠ []->vD q=vD0 q:=by
 have hE:=h.aV g.fs [];rw[hL] at hE;have hE:mY ag es:=hE;obtain⟨ht,c8,_,_,_⟩:=h.wp.tree.cells;have hb0:=aB ((Below.refl w.heap.size w).alloc (bA _) (.cells #[.string ⟨#[]⟩,.string ⟨#[]⟩,.string ⟨#[]⟩,.string ⟨#[]⟩,.string ⟨#[]⟩] 147));have hlk:=Az GG Good.nil hb0;rw[ho] at hlk;have hlk:(Instr.lookup 162 (.map (some B.oD)) (.agg #[.string ⟨#[]⟩,.string ⟨#[]⟩,.string ⟨#[]⟩,.string ⟨#[]⟩,.string ⟨#[]⟩]) true).run prog ((w.alloc (.cells #[.string ⟨#[]⟩,.string ⟨#[]⟩,.string ⟨#[]⟩,.string ⟨#[]⟩,.string ⟨#[]⟩] 147)).drew)=.ok (.tuple #[.slice none 0 0,.bool false]) ((w.alloc (.cells #[.string ⟨#[]⟩,.string ⟨#[]⟩,.string ⟨#[]⟩,.string ⟨#[]⟩,.string ⟨#[]⟩] 147)).drew):=hlk;have dx:=tN (s:=s) (i:=i) (p:=p) (B:=B) (ag:=ag) [] tg _ g lim (h.below hb0) (by omega) Good.nil;rw[hL] at dx;have dx:Calls prog 131 #[.pointer (some ⟨B.bt,0,none⟩),.agg #[.string ⟨#[]⟩,.string ⟨#[]⟩,.string ⟨#[]⟩,.string ⟨#[]⟩,.string ⟨#[]⟩]] _ _:=dx;have bB:=fun W=>eM W;have heq:∀W,(Op.equalIn 10000 147 (bn []) (bn [])).run prog W=.ok true W:=fun W=>by
  have:=fB Good.nil Good.nil W
  rw[decide_eq_true rfl] at this;exact this
 unfold bn av at bB heq;simp only[List.getD_nil] at bB heq;obtain⟨n0,_,Oo⟩:=GG.map;have Z1:w.heap.size≠B.oD:=by have:=Oo.lt;omega
 have O0:lim+([]:List ByteArray).length+1<maxLen:=by show lim+0+1<maxLen;unfold maxLen;omega
 have H0:Hid _:=h;have HD0:Hid _:=GG;have Lp:Hid _:=hb0;have HE:Hid _:=hE;clear h GG hb0 hE hL ho Oo;go_enter func192,ntmps192;go_wp2
 go_region
 all_goals
  go_wp2_with (first
   | (go_at_call 131;refine dx.mono ?_;rintro e w3 ⟨v,rfl,Ae,m3,hW3,hs3⟩;have hS:=xw H0.out.two H0.out.st.fresh m3;have k0:=hS.cell (bA _) (by simp[World.drew]);have hz3:w.heap.size<w3.heap.size:=cv (by simp[World.drew]) hS.1;obtain⟨Re,c83,_,_,_⟩:=hW3.wp.tree.cells;have AA:Hid _:=hW3;have zF:Hid _:=m3;have Vy:Hid _:=hs3;clear hW3 m3 hs3 hS)
   | (go_at_call 170;go_loud (refine (B1 Vy.out.1 HE.out.len).mono ?_;rintro e w4 ⟨v',rfl,hrow,xS,hb4⟩;obtain⟨Y0,hf4⟩:=aR hb4;obtain⟨w5,Rf,VC,Gt,hs5,hoD,m5,VD,hD5,KU⟩:=FW (q:=[]) AA.out (((HD0.out.moves (az.aM (P:=fun _=>False) Lp.out) (fun x=>x)).moves zF.out (by rintro (h | h | h) <;> cases h;exact absurd H0.out.two (by decide))).mono (by omega)) O0 Good.nil (aB hb4) hrow xS HE.out;have k5:=eC (c:=w.heap.size) Gt (cv hz3 hb4.size) Z1;obtain⟨ht5,_,_,c65,f5⟩:=VD.wp.tree.cells;have VC:(Instr.mapUpdate 162 (.map (some B.oD)) (.agg #[.string ⟨#[]⟩,.string ⟨#[]⟩,.string ⟨#[]⟩,.string ⟨#[]⟩,.string ⟨#[]⟩]) v').run prog w4.drew=.ok () w5:=VC;have I4:w.heap.size<w5.heap.size:=cv (cv hz3 hb4.size) (Nat.le_of_eq hs5.symm);have Yp:Hid _:=VD;have VE:Hid _:=m5;have HD5:Hid _:=hD5;clear VD m5 hD5 hrow xS Gt)))
  go_region
  all_goals
   go_wp2
   go_region_with (go_at_call 75;refine (bB _).mono ?_;rintro e w6 ⟨rfl,rP⟩;have k6:∀o,w6.cell? ⟨w.heap.size,o,none⟩=w5.cell? ⟨w.heap.size,o,none⟩:=fun o=>(aR rP).1 _ _ I4;have Da:=Yp.out.below (aq (aB (Below.refl _ _)) rP);obtain⟨ht6,_,_,c66,f66⟩:=Da.wp.tree.cells;have Z2:Hid _:=Da;clear Da)
   all_goals
    go_wp2;go_ret;obtain⟨r1,r2⟩:=Z2.out.WS;refine⟨v',rfl,Rf,upd vD0 [] v',?_,r1.mono (by simp only[List.length_nil];omega),?_,upd_same _ _ _,fun q hq=>aJ hq _⟩
    ·exact ((bY Lp.out zF.out).mono (fun _ h=>h.mine)).trans (VE.out.trans ((az.aM (aq (aB (Below.refl _ _)) rP)).trans (r2.mono (fun t ht=>.inr (by rw[ht])))))
    ·exact (((HD5.out.moves (az.aM (P:=fun _=>False) (aq (aB (Below.refl _ _)) rP)) (fun x=>x)).moves r2 (fun e=>by cases e)).mono (by simp only[List.length_nil];omega))
end
theorem PU {i k:Nat}(hi:2<=i)(h2:k≠2)(h3:k≠3):¬dB i (i,k):=by
 rintro (h | h | h)
 ·have h':i=1:=h
  omega
 ·cases h;exact h2 rfl
 ·cases h;exact h3 rfl
theorem o6 {es:List aK}{n:ByteArray}(ht:aW es n=true):∃h:dz es n<es.length,(es[dz es n]).1=n:=by
 have sB:=qx ht;refine⟨sB,?_⟩;unfold aW at ht;rw[kO sB] at ht;simpa using ht
theorem LC {es:List aK}{n:ByteArray}(ht:aW es n=true)(v:Int×Int):eH es n v=es.set (dz es n) (n,v):=by
 unfold eH;rw[aL ht]
theorem TJ {es:List aK}(hr:aU es){n:ByteArray}(ht:aW es n=true)(sB:dz es n<es.length):es.set (dz es n) (n,(es[dz es n]).2.1,0)=jv es n:=by
 apply List.ext_getElem
 ·simp[jv]
 ·intro j h1 h2
  have hj:j<es.length:=by simpa using h1
  rw[List.getElem_set];rw[show (jv es n)[j]'h2=(if (es[j]).1=n then ((es[j]).1,(es[j]).2.1,(0:Int)) else es[j]) from by simp[jv]];obtain⟨_,hn⟩:=o6 ht;by_cases e:dz es n=j
  ·subst e
   rw[aL rfl,aL hn,hn]
  ·rw[ay e,ay]
   intro OH;rcases Nat.lt_or_gt_of_ne e with h | h
   ·have:=uC hr (a:=dz es n) (b:=j) hj h
    rw[hn,OH,jd] at this;omega
   ·have:=uC hr (a:=j) (b:=dz es n) sB h
    rw[hn,OH,jd] at this;omega
theorem Ee {es:List aK}{k:Nat}(hk:k<es.length)(e:aK):(((flat es).set (k*3) (.string e.1)).set (k*3+1) (.int .i64 e.2.1)).set (k*3+2) (.int .i64 e.2.2)=flat (es.set k e):=by
 apply List.ext_getElem?;intro j;have hlen:(flat es).length=es.length*3:=bl es;by_cases hj:j<es.length*3
 ·obtain⟨q,t,ht,rfl⟩:∃q t,t<3/\j=q*3+t:=⟨j / 3,j % 3,Nat.mod_lt _ (by decide),by omega⟩
  have hq:q<es.length:=by omega
  rw[fZ (es.set k e) q t (by simpa using hq) ht,List.getElem_set];by_cases e1:k=q
  ·subst e1
   rw[aL rfl];simp only[List.getElem?_set,List.length_set,hlen];rcases (show t=0\/t=1\/t=2 by omega) with rfl | rfl | rfl
   ·rw[ay (by omega),ay (by omega),aL (by omega),aL (by omega)];rfl
   ·rw[ay (by omega),aL (by omega),aL (by omega)];rfl
   ·rw[aL (by omega),aL (by omega)];rfl
  ·rw[ay e1,List.getElem?_set_ne (by omega),List.getElem?_set_ne (by omega),List.getElem?_set_ne (by omega),fZ es q t hq ht]
 ·rw[List.getElem?_eq_none (by simp only[List.length_set,hlen];omega),List.getElem?_eq_none (by rw[bl,List.length_set];omega)]
theorem PV {es:List aK}{k:Nat}(hk:k<es.length)(id:Int):(flat es).set (k*3+2) (.int .i64 id)=flat (es.set k ((es[k]).1,(es[k]).2.1,id)):=by
 rw[<-Ee hk];have h0:(flat es).set (k*3) (.string (es[k]).1)=flat es:=by
  have:=fZ es k 0 hk (by decide)
  apply List.ext_getElem?;intro j;rw[List.getElem?_set];by_cases e:k*3=j
  ·subst e
   rw[aL rfl,aL (by rw[bl];omega)];simpa [bL] using this.symm
  ·rw[ay e]
 have h1:(flat es).set (k*3+1) (.int .i64 (es[k]).2.1)=flat es:=by
  have:=fZ es k 1 hk (by decide)
  apply List.ext_getElem?;intro j;rw[List.getElem?_set];by_cases e:k*3+1=j
  ·subst e
   rw[aL rfl,aL (by rw[bl];omega)];simpa [bL] using this.symm
  ·rw[ay e]
 rw[h0,h1]
section
variable {s i p:Nat}{B:WB}{ag:List Ob}
theorem cG.rewrite {tg:aP}{w w':World}{od:List ByteArray->Option (List aK)}{lim:Nat}{vD:List ByteArray->Value}(h:cG tg w i B od lim vD){q:List ByteArray}{es es':List aK}{gb:Nat}(ho:od q=some es)(hgb:(vD q).ownBlock=some gb)(hg:w.grownBy w' (some gb))
  (hrow:w'.ownsRow 0 96 3 (vD q) es'.length (flat es'))(hE:mY ag es'):cG tg w' i B (upd od q (some es')) lim vD:=by
 obtain⟨n,hn,hm⟩:=h.map;obtain⟨e0,ck,hb⟩:=hm.isMap;have hne:B.oD≠gb:=fun e=>dS (h.row q es ho).1 (e ▸ hb) hgb.symm;refine⟨h.tag,⟨n,hn,(hm.keep (hg.block _ hm.lt (fun e=>hne (by injection e)))).congr (fun p hp=>?_)⟩,fun p fs hp=>?_,fun p fs hp=>?_,fun p p' fs fs' gc hp Vj hb1 hb2=>?_⟩
 ·by_cases e:p=q
  ·subst e;rw[upd_same,ho];rfl
  ·rw[aJ e]
 ·by_cases e:p=q
  ·subst e
   rw[upd_same] at hp;cases hp;exact⟨(h.good p es ho).1,hE.rising,hE.len,fun e he=>⟨(hE.ok e he).1,(hE.ok e he).2.1⟩⟩
  ·rw[aJ e] at hp;exact h.good p fs hp
 ·by_cases e:p=q
  ·subst e
   rw[upd_same] at hp;cases hp;exact⟨hrow,(h.row p es ho).2⟩
  ·rw[aJ e] at hp
   have hr:=h.row p fs hp;exact hr.keep (fun g' kT hl=>⟨hg.block g' hl (fun e2=>by
    have e3:g'=gb:=by injection e2
    rw[e3] at kT;exact e (h.inj p q fs es gb hp ho kT hgb)),rfl⟩)
 ·have Am:∃f1,od p=some f1:=by
   by_cases e:p=q
   ·rw[e];exact⟨es,ho⟩
   ·rw[aJ e] at hp;exact⟨fs,hp⟩
  have CK:∃f2,od p'=some f2:=by
   by_cases e:p'=q
   ·rw[e];exact⟨es,ho⟩
   ·rw[aJ e] at Vj;exact⟨fs',Vj⟩
  obtain⟨f1,Am⟩:=Am;obtain⟨f2,CK⟩:=CK;exact h.inj p p' f1 f2 gc Am CK hb1 hb2
theorem PW {es:List aK}(h:mY ag es)(n:ByteArray):mY ag (jv es n):=by
 refine⟨?_,by unfold jv;rw[List.length_map];exact h.len,fun e he=>?_⟩
 ·unfold aU jv
  rw[List.pairwise_map];refine h.rising.imp fun {a b} hab=>?_
  have e:∀x:aK,(if x.1=n then (x.1,x.2.1,(0:Int)) else x).1=x.1:=fun x=>by split <;> rfl
  rw[e,e];exact hab
 ·unfold jv at he
  obtain⟨x,hx,rfl⟩:=List.mem_map.1 he;obtain⟨h1,h2⟩:=h.ok x hx;by_cases e:x.1=n
  ·rw[aL e];exact⟨h1,h2.1,fun h0=>absurd rfl h0⟩
  ·rw[ay e];exact⟨h1,h2⟩
theorem bF.bR {tg:aP}{w:World}{g:WG}{lim:Nat}(h:bF tg w s i p B ag g lim){q:List ByteArray}{es:List aK}(ho:g.ft.od q=some es):mY ag es:=by
 obtain⟨vD,hD⟩:=h.wp.tG;obtain⟨_,h1,h2,h3⟩:=hD.good q es ho;exact⟨h1,h2,fun e he=>⟨(h3 e he).1,h.wp.ok.od q es ho e he⟩⟩
theorem PX {tg:aP}{w:World}{g:WG}{lim:Nat}{vD:List ByteArray->Value}(h:bF tg w s i p B ag g lim)(hD:cG tg w i B g.ft.od lim vD){q:List ByteArray}{es:List aK}{n:ByteArray}{gb ln c:Nat}(ho:g.ft.od q=some es)(hv:vD q=.slice (some ⟨gb,0,none⟩) ln c)(ht:aW es n=true):
  bF tg (w.setCell ⟨gb,dz es n*3+2,none⟩ (.int .i64 0)) s i p B ag { g with ft:={ g.ft with od:=upd g.ft.od q (some (jv es n)) } } lim/\cG tg (w.setCell ⟨gb,dz es n*3+2,none⟩ (.int .i64 0)) i B (upd g.ft.od q (some (jv es n))) lim vD/\az (fun t=>t=(i,5)) tg tg w (w.setCell ⟨gb,dz es n*3+2,none⟩ (.int .i64 0)):=by
 have hE:=h.bR ho;obtain⟨sB,hn⟩:=o6 ht;have hrow:=hD.row q es ho;have hgb:(vD q).ownBlock=some gb:=by rw[hv];rfl
 have hg:w.grownBy (w.setCell ⟨gb,dz es n*3+2,none⟩ (.int .i64 0)) (some gb):=dD (gm _ _);have hE':=PW hE n;have hr1:=hrow.1;rw[hv] at hr1;have K4:ln=es.length:=by
  rcases hr1.2 with ⟨e,_⟩ | ⟨g',c',_,e,_⟩
  ·cases e
  ·cases e;rfl
 subst K4;have hst:=(hr1.stored (dz es n*3+2) (.int .i64 0)).1;have Ds:(flat es).set (dz es n*3+2) (.int .i64 0)=flat (jv es n):=by
  rw[PV sB,hn,TJ hE.rising ht sB]
 rw[Ds] at hst;have CT:=hD.rewrite (ag:=ag) ho hgb hg (by rw[hv];unfold jv at hst ⊢;rw[List.length_map];exact hst) hE';have m:az (fun t=>t=(i,5)) tg tg w (w.setCell ⟨gb,dz es n*3+2,none⟩ (.int .i64 0)):=jD hg (by simp) (hrow.2 gb hgb);refine⟨h.od m (bA _) CT (fun q' es' I6=>?_),CT,m⟩;by_cases e:q'=q
 ·subst e
  have TK:upd g.ft.od q' (some (jv es n)) q'=some es':=I6;rw[upd_same] at TK;cases TK;exact fun e he=>(hE'.ok e he).2
 ·have TK:upd g.ft.od q (some (jv es n)) q'=some es':=I6
  rw[aJ e] at TK;exact h.wp.ok.od q' es' TK
def TL (s i p:Nat)(B:WB)(ag:List Ob)(r:List ByteArray):Prop:=∀(tg:aP) (w:World) (g:WG) (lim:Nat) (K:List ByteArray->List aK) (vD:List ByteArray->Value),bF tg w s i p B ag g lim->cG tg w i B g.ft.od lim vD->lim+20*(r.length+2)<1099511627776->Good r.reverse->gh ag g.fs g.ft K r.reverse->
 Calls prog 192 #[.pointer (some ⟨B.bt,0,none⟩),.agg (av r.reverse)] w fun en w'=>∃v,en=.returned v/\∃aC zD,az (Mine i) tg aC w w'/\
  bF aC w' s i p B ag { g with ft:=cT ag g.fs g.ft r } (lim+20*(r.length+1))/\cG aC w' i B (cT ag g.fs g.ft r).od (lim+20*(r.length+1)) zD/\zD r.reverse=v/\∀q,¬q <+: r.reverse->zD q=vD q
theorem I7 {fs:FS}{ft:FT}{K:List ByteArray->List aK}{q:List ByteArray}{n:ByteArray}(h:gh ag fs ft K (q ++ [n])):gh ag fs { ft with od:=upd ft.od (q ++ [n]) (some (K (q ++ [n]))) } K q:=by
 have qh:∀x,x <+: q->x <+: q ++ [n]:=fun x hx=>hx.trans (List.prefix_append _ _);have hne:∀x,x <+: q->x≠q ++ [n]:=fun x hx e=>by
  have:=hx.length_le
  rw[e] at this;simp at this;omega
 have h0:gh ag fs ft K q:=⟨fun x hx=>h.look x (qh x hx),fun x hx=>h.own x (qh x hx),fun x m hx=>h.up x m (qh _ hx),h.root⟩;exact h0.congr rfl (fun x hx=>aJ (hne x hx) _)
theorem PY {fs:FS}{ft:FT}{K:List ByteArray->List aK}{q:List ByteArray}{n:ByteArray}(h:gh ag fs ft K (q ++ [n]))(hr:aU (K q)):aW (K q) n=true:=by
 have h1:=h.look (q ++ [n]) (List.prefix_refl _);have h2:=h.look q (List.prefix_append _ _);rw[List.reverse_append] at h1;have Gx:bO ag ft fs (n :: q.reverse)=(fs,0,K (q ++ [n])):=h1;have hf:(findF ag ft fs (n :: q.reverse)).2.1=0:=by
  unfold bO at Gx;by_cases h0:(findF ag ft fs (n :: q.reverse)).2.1≠0
  ·simp only[aL h0] at Gx
   exact absurd (congrArg (fun z=>z.2.1) Gx) h0
  ·exact Decidable.not_not.1 h0
 rw[j5,h2] at hf;simp only at hf;rw[ay (by decide)] at hf;cases hg:oJ (K q) n with
 | none=>rw[hg] at hf;simp at hf
 | some c=>
  have:=oK (n:=n) hr
  rw[hg] at this;cases ht:aW (K q) n with
  | true=>rfl
  | false=>rw[ht] at this;simp at this
theorem TM {i:Nat}(hi:2<=i):¬Mine i (0,0):=by
 rintro (h | h)
 ·cases h
 ·have h':(0:Nat)=i:=h
  omega
theorem B2 {w:World}{gb n c m:Nat}{xs:List Value}(h:w.ownsRow 0 96 3 (.slice (some ⟨gb,0,none⟩) n c) m xs)(o:Nat):w.frozen? ⟨gb,o,none⟩=false:=by
 rcases h.2 with ⟨e,_⟩ | ⟨g',c',cur,e,_,hb,_⟩
 ·cases e
 ·cases e;simp[World.frozen?,hb]
theorem PZ {w:World}{gb n c:Nat}{es:List aK}(h:w.ownsRow 0 96 3 (.slice (some ⟨gb,0,none⟩) n c) n (flat es)){ix:Nat}(sB:ix<es.length):w.cell? ⟨gb,ix*3+2,none⟩=some (.int .i64 (es[ix]).2.2):=
 (vP (b:=gb) (fun j u hu=>by have:=aQ h j u hu;rwa [Nat.zero_add] at this) sB).2.2
theorem fC {tg aC:aP}{w w':World}{i b:Nat}(hi:2<=i)(m:az (Mine i) tg aC w w')(hb:b<w.heap.size)(ht:tg b=(0,0))(o:Nat):w'.cell? ⟨b,o,none⟩=w.cell? ⟨b,o,none⟩:=
 World.cell?_of_block (a:=⟨b,o,none⟩) (m.block _ hb (by rw[ht];exact TM hi))
theorem TN {tg:aP}{w:World}{g:WG}{lim:Nat}{K:List ByteArray->List aK}{vD0:List ByteArray->Value}(n:ByteArray)(r:List ByteArray)(Db:TL s i p B ag r)(h:bF tg w s i p B ag g lim)(GG:cG tg w i B g.ft.od lim vD0)(hl:lim+20*(r.length+3)<1099511627776)
  (hq:Good (r.reverse ++ [n]))(pn:gh ag g.fs g.ft K (r.reverse ++ [n]))(ho:g.ft.od (r.reverse ++ [n])=none):
  Calls prog 192 #[.pointer (some ⟨B.bt,0,none⟩),.agg (av (r.reverse ++ [n]))] w fun en w'=>∃v,en=.returned v/\∃aC zD,az (Mine i) tg aC w w'/\
   bF aC w' s i p B ag { g with ft:=cT ag g.fs g.ft (n :: r) } (lim+20*((n :: r).length+1))/\cG aC w' i B (cT ag g.fs g.ft (n :: r)).od (lim+20*((n :: r).length+1)) zD/\zD (r.reverse ++ [n])=v/\∀q,¬q <+: (r.reverse ++ [n])->zD q=vD0 q:=by
 have hL0:=pn.look _ (List.prefix_refl _);rw[List.reverse_append,List.reverse_reverse] at hL0;have hL:bO ag g.ft g.fs (n :: r)=(g.fs,0,K (r.reverse ++ [n])):=hL0;have hr4:r.length<=4:=by have:=hq.len;simp at this;omega
 have hq':Good r.reverse:=by have:=hq.dropLast;rwa [List.dropLast_concat] at this
 have hE:=h.aV g.fs (n :: r);rw[hL] at hE;have hE:mY ag (K (r.reverse ++ [n])):=hE;have hLp:=pn.look r.reverse (List.prefix_append _ _);have Z3:=h.aV g.fs r.reverse.reverse;rw[hLp] at Z3;have Z3:mY ag (K r.reverse):=Z3;have LD:=PY pn Z3.rising;have TP:=I7 pn;obtain⟨m1,m2,m3⟩:=vz (r:=r) TP;have mH:cT ag g.fs g.ft (n :: r) = { cT ag g.fs { g.ft with od:=upd g.ft.od (r.reverse ++ [n]) (some (K (r.reverse ++ [n]))) } r with od:=upd (cT ag g.fs { g.ft with od:=upd g.ft.od (r.reverse ++ [n]) (some (K (r.reverse ++ [n]))) } r).od r.reverse (some (jv (K r.reverse) n)) }:=by
  rw[cT];have hrv:(n :: r).reverse=r.reverse ++ [n]:=List.reverse_cons;rw[hrv,ho,ay (by decide),hL];have e1:=m3 r.reverse;rw[aL (List.prefix_refl _)] at e1;have e2:zK K r.reverse r.reverse=K r.reverse:=by unfold zK;rw[List.getElem?_eq_none (bA _)]
  rw[e2] at e1;show (FT.mk _ (upd _ _ (some (jv (((cT ag g.fs { g.ft with od:=upd g.ft.od (r.reverse ++ [n]) (some (K (r.reverse ++ [n]))) } r).od r.reverse).getD []) n))) _)=_;rw[e1];rfl
 have ado:(cT ag g.fs { g.ft with od:=upd g.ft.od (r.reverse ++ [n]) (some (K (r.reverse ++ [n]))) } r).od r.reverse=some (K r.reverse):=by
  have e1:=m3 r.reverse;rw[aL (List.prefix_refl _)] at e1;have e2:zK K r.reverse r.reverse=K r.reverse:=by unfold zK;rw[List.getElem?_eq_none (bA _)]
  rw[e2] at e1;exact e1
 have KL:¬(r.reverse ++ [n]) <+: r.reverse:=fun hx=>by have:=hx.length_le;simp at this;omega
 obtain⟨ht,c8,_,_,_⟩:=h.wp.tree.cells;have hb0:=aB ((Below.refl w.heap.size w).alloc (bA _) (.cells (av (r.reverse ++ [n])) 147));have hlk:=Az GG hq hb0;rw[ho] at hlk;have dx:=tN (s:=s) (i:=i) (p:=p) (B:=B) (ag:=ag) (n :: r) tg _ g lim (h.below hb0) (by omega) (by rw[List.reverse_cons];exact hq);rw[hL,List.reverse_cons] at dx;have bB:=fun W=>eM W;have heq:∀W,(Op.equalIn 10000 147 (bn (r.reverse ++ [n])) (bn [])).run prog W=.ok false W:=fun W=>by
  have:=fB hq Good.nil W
  rw[dY (by simp)] at this;exact this
 have gq:=fun W=>iT (r.reverse ++ [n]) hq W;have hname:=fun W=>mX (r.reverse ++ [n]) hq (by simp) W;rw[List.dropLast_concat] at gq;simp only[List.getLast_concat] at hname;have TQ:∀(tg:aP) (w:World) (g:WG) (lim:Nat) (K:List ByteArray->List aK) (vD:List ByteArray->Value),bF tg w s i p B ag g lim->cG tg w i B g.ft.od lim vD->lim+20*(r.length+2)<1099511627776->gh ag g.fs g.ft K r.reverse->Calls prog 192 #[.pointer (some ⟨B.bt,0,none⟩),.agg (av r.reverse)] w fun en w'=>∃v,en=.returned v/\∃aC zD,az (Mine i) tg aC w w'/\
  bF aC w' s i p B ag { g with ft:=cT ag g.fs g.ft r } (lim+20*(r.length+1))/\cG aC w' i B (cT ag g.fs g.ft r).od (lim+20*(r.length+1)) zD/\zD r.reverse=v/\∀q,¬q <+: r.reverse->zD q=vD q:=fun tg w g lim K vD a b c d=>Db tg w g lim K vD a b c hq' d
 obtain⟨s0,s1,s2,s3,s4,hP⟩:∃s0 s1 s2 s3 s4,av (r.reverse ++ [n]) = #[.string s0,.string s1,.string s2,.string s3,.string s4]:=⟨_,_,_,_,_,rfl⟩;obtain⟨r0,r1,r2,r3,r4,zG⟩:∃s0 s1 s2 s3 s4,av r.reverse = #[.string s0,.string s1,.string s2,.string s3,.string s4]:=⟨_,_,_,_,_,rfl⟩;unfold bn at bB heq gq hname;rw[hP] at hlk dx hb0;simp only[hP,zG] at heq gq hname TQ;rw[hP];unfold av at bB heq;simp only[List.getD_nil] at bB heq;have anH:(Instr.lookup 162 (.map (some B.oD)) (.agg #[.string s0,.string s1,.string s2,.string s3,.string s4]) true).run prog ((w.alloc (.cells #[.string s0,.string s1,.string s2,.string s3,.string s4] 147)).drew)=.ok (.tuple #[.slice none 0 0,.bool false]) ((w.alloc (.cells #[.string s0,.string s1,.string s2,.string s3,.string s4] 147)).drew):=hlk;obtain⟨n0,_,Oo⟩:=GG.map;have Z1:w.heap.size≠B.oD:=by have:=Oo.lt;omega
 have O0:lim+(n :: r).length+1<maxLen:=by rw[List.length_cons];unfold maxLen;omega
 have ahT:lim+(n :: r).length+1+1+20*(r.length+2)<1099511627776:=by rw[List.length_cons];omega
 obtain⟨sB,sA⟩:=o6 LD;have jS:=Z3.len;have HP:Hid _:=hP;have H0:Hid _:=h;have HD0:Hid _:=GG;have Lp:Hid _:=hb0;have HE:Hid _:=hE;have HEP:Hid _:=Z3;have Z4:Hid _:=TQ;have O6:Hid _:=TP;have Yq:Hid _:=mH;have Rg:Hid _:=ado;have TR:Hid _:=LD;have HNM:Hid _:=sA;have HNP:Hid _:=KL;clear h GG hb0 hE hL hL0 ho Oo hlk hP zG Z3 TQ pn TP m1 m2 m3 mH ado LD sA KL hLp Db;generalize yI:dz (K r.reverse) n=ix at sB;have TS:Hid (dz (K r.reverse) n=ix):=yI;clear yI;go_enter func192,ntmps192;go_wp2
 go_region
 all_goals
  go_wp2_with (first
   | (go_at_call 131;refine dx.mono ?_;rintro e w3 ⟨v,rfl,Ae,m3,hW3,hs3⟩;have hS:=xw H0.out.two H0.out.st.fresh m3;have k0:=hS.cell (bA _) (by simp[World.drew]);have hz3:w.heap.size<w3.heap.size:=cv (by simp[World.drew]) hS.1;have tz3:Ae w.heap.size=(0,0):=(m3.tags _ (by simp[World.drew])).trans (H0.out.st.fresh _ (bA _));obtain⟨Re,c83,_,_,_⟩:=hW3.wp.tree.cells;have AA:Hid _:=hW3;have zF:Hid _:=m3;have Vy:Hid _:=hs3;clear hW3 m3 hs3 hS)
   | (go_at_call 170;go_loud (refine (B1 Vy.out.1 HE.out.len).mono ?_;rintro e w4 ⟨v',rfl,hrow,xS,hb4⟩;obtain⟨Y0,hf4⟩:=aR hb4;obtain⟨w5,Rf,VC,Gt,hs5,hoD,m5,VD,hD5,KU⟩:=FW (q:=r.reverse ++ [n]) AA.out (((HD0.out.moves (az.aM (P:=fun _=>False) Lp.out) (fun x=>x)).moves zF.out (PU H0.out.two (by decide) (by decide))).mono (by omega)) O0 hq (aB hb4) hrow xS HE.out;have k5:=eC (c:=w.heap.size) Gt (cv hz3 hb4.size) Z1;obtain⟨ht5,_,_,c65,f5⟩:=VD.wp.tree.cells;rw[HP.out] at VC;have I4:w.heap.size<w5.heap.size:=cv (cv hz3 hb4.size) (Nat.le_of_eq hs5.symm);have tz5:Rf w.heap.size=(0,0):=(m5.tags _ hz3).trans tz3;have Yp:Hid _:=VD;have VE:Hid _:=m5;have HD5:Hid _:=hD5;clear VD m5 hD5 hrow xS Gt)))
  go_region
  all_goals
   go_wp2
   go_region_with (go_at_call 75;refine (bB _).mono ?_;rintro e w6 ⟨rfl,rP⟩;have k6:∀o,w6.cell? ⟨w.heap.size,o,none⟩=w5.cell? ⟨w.heap.size,o,none⟩:=fun o=>(aR rP).1 _ _ I4;have Tz:w.heap.size<w6.heap.size:=cv I4 rP.size;have b6:=aq (aB (Below.refl w5.heap.size w5)) rP)
   all_goals
    go_wp2_with (first
     | (go_at_call 132;refine (gq _).mono ?_;rintro e w7 ⟨rfl,Yj⟩;have k7:∀o,w7.cell? ⟨w.heap.size,o,none⟩=w6.cell? ⟨w.heap.size,o,none⟩:=fun o=>(aR Yj).1 _ _ Tz;have TA:w.heap.size<w7.heap.size:=cv Tz Yj.size)
     | (go_at_call 192;go_loud (refine (Z4.out Rf w7 _ _ K _ (Yp.out.below (aq b6 Yj)) (HD5.out.moves (az.aM (P:=fun _=>False) (aq b6 Yj)) (fun x=>x)) ahT O6.out).mono ?_;rintro e w8 ⟨v8,rfl,tg8,vD8,m8,hW8,hD8,hv8,hq8⟩;obtain⟨gb,cc,hgb⟩:=ak (hD8.row _ _ Rg.out).1 (by omega);have yJ:=hD8.row _ _ Rg.out;rw[hgb] at hv8 yJ;subst hv8;have k8:=fC H0.out.two m8 TA tz5;have hz8:w.heap.size<w8.heap.size:=cv TA m8.size;have fo:gb<w8.heap.size:=ah yJ.1 rfl;have y2:=PZ yJ.1 sB;have y3:=B2 yJ.1 (ix*3+2);have HW8:Hid _:=hW8;have HM8:Hid _:=m8;have HD8:Hid _:=hD8;have C2:Hid _:=yJ;have Z5:Hid _:=hgb;have HQ8:Hid _:=hq8;clear hW8 m8 hD8 yJ hgb hq8))
     | (go_at_call 134;refine (hname _).mono ?_;rintro e w9 ⟨rfl,qY⟩;have k9:w9.cell? ⟨gb,ix*3+2,none⟩=w8.cell? ⟨gb,ix*3+2,none⟩:=(aR qY).1 _ _ fo;have f9:w9.frozen? ⟨gb,ix*3+2,none⟩=w8.frozen? ⟨gb,ix*3+2,none⟩:=(aR qY).2 _ _ fo;have TU:gb<w9.heap.size:=cv fo qY.size)
     | (go_at_call 133;go_loud (refine (jE (ai C2.out.1 (fun g' kT=>qY.block g' (ah C2.out.1 kT))) n HEP.out.rising HEP.out.len).mono ?_;rintro e w10 ⟨rfl,Z6⟩;rw[TS.out,TR.out];have k10:w10.cell? ⟨gb,ix*3+2,none⟩=w9.cell? ⟨gb,ix*3+2,none⟩:=(aR Z6).1 _ _ TU;have f10:w10.frozen? ⟨gb,ix*3+2,none⟩=w9.frozen? ⟨gb,ix*3+2,none⟩:=(aR Z6).2 _ _ TU)))
    go_ret;have b10:=aq qY Z6;obtain⟨z1,z2,z3⟩:=PX (HW8.out.below b10) (HD8.out.moves (az.aM (P:=fun _=>False) b10) (fun x=>x)) Rg.out Z5.out TR.out;rw[TS.out] at z1 z2 z3;have hlq:lim+(n :: r).length+1+1+20*(r.length+1)<=lim+20*((n :: r).length+1):=by rw[List.length_cons];omega
    refine⟨v',rfl,tg8,vD8,?_,?_,?_,?_,fun q Rx=>?_⟩
    ·exact ((bY Lp.out zF.out).mono (fun _ h=>h.mine)).trans (VE.out.trans ((az.aM (aq b6 Yj)).trans (HM8.out.trans ((az.aM b10).trans (z3.mono (fun t ht=>.inr (by rw[ht])))))))
    ·rw[Yq.out];exact z1.mono hlq
    ·rw[Yq.out];exact z2.mono hlq
    ·rw[HQ8.out _ HNP.out,upd_same]
    ·rw[HQ8.out q (fun h=>Rx (h.trans (List.prefix_append _ _))),aJ (fun e:q=r.reverse ++ [n]=>Rx (by rw[e];exact List.prefix_refl _))]
theorem uE:∀r:List ByteArray,TL s i p B ag r
 | []=>by
  intro tg w g lim K vD h hD hl hq pn
  by_cases ho:(g.ft.od []).isSome=true
  ·obtain⟨es,he⟩:=Option.isSome_iff_exists.1 ho
   have mH:cT ag g.fs g.ft []=g.ft:=by rw[cT,aL ho]
   rw[mH]
   obtain⟨ht,c8,_⟩:=h.wp.tree.cells
   refine (Ed B.bt B.oD _ _ _ _ _ (vD []) w ht c8 (fun W hb=>?_)).mono ?_
   ·have:=Az hD Good.nil hb
    rw[he] at this;exact this
   ·rintro en w' ⟨rfl,hb⟩
    exact⟨_,rfl,tg,vD,az.aM hb,(h.below hb).mono (by omega),(hD.moves (az.aM (P:=fun _=>False) hb) (fun x=>x)).mono (by omega),rfl,fun _ _=>rfl⟩
  ·have I6:g.ft.od []=none:=by simpa using ho
   have hL:=pn.look [] (List.prefix_refl _)
   have mH:cT ag g.fs g.ft [] = { g.ft with od:=upd g.ft.od [] (some (K [])),root:=0 }:=by
    rw[cT,ay ho];rw[show bO ag g.ft g.fs []=(g.fs,0,K []) from hL]
   rw[mH];refine (PT h hD (by simp only[List.length_nil] at hl;omega) I6 hL).mono ?_;rintro en w' ⟨v,rfl,aC,zD,m,hW,CT,hv,hq'⟩;exact⟨v,rfl,aC,zD,m,hW.mono (by simp only[List.length_nil];omega),CT.mono (by simp only[List.length_nil];omega),hv,fun q Rx=>hq' q (fun e=>Rx (by rw[e];exact List.prefix_refl _))⟩
 | n :: r=>by
  intro tg w g lim K vD h hD hl hq pn;by_cases ho:(g.ft.od (n :: r).reverse).isSome=true
  ·obtain⟨es,he⟩:=Option.isSome_iff_exists.1 ho
   have mH:cT ag g.fs g.ft (n :: r)=g.ft:=by rw[cT,aL ho]
   rw[mH];obtain⟨ht,c8,_⟩:=h.wp.tree.cells;refine (Ed B.bt B.oD _ _ _ _ _ (vD (n :: r).reverse) w ht c8 (fun W hb=>?_)).mono ?_
   ·have:=Az hD hq hb
    rw[he] at this;exact this
   ·rintro en w' ⟨rfl,hb⟩
    exact⟨_,rfl,tg,vD,az.aM hb,(h.below hb).mono (by omega),(hD.moves (az.aM (P:=fun _=>False) hb) (fun x=>x)).mono (by omega),rfl,fun _ _=>rfl⟩
  ·have hrv:(n :: r).reverse=r.reverse ++ [n]:=List.reverse_cons
   rw[hrv] at ho hq pn ⊢;have I6:g.ft.od (r.reverse ++ [n])=none:=by simpa using ho
   exact TN n r (uE r) h hD (by rw[List.length_cons] at hl;omega) hq pn I6
theorem LF {tg:aP}{w:World}{g:WG}{lim:Nat}(h:bF tg w s i p B ag g lim){q:List ByteArray}(hq:Good q)(ty:TypeId):
  ∃w',(Builtin.delete_ #[161,147] ty #[.map (some B.oF),.agg (av q)]).run prog w=.ok (.tuple #[]) w'/\az (fun t=>t=(i,4)) tg tg w w'/\w.grownBy w' (some B.oF)/\w'.heap.size=w.heap.size/\B.oF<w.heap.size/\bF tg w' s i p B ag { g with ft:={ g.ft with of:=upd g.ft.of q none } } lim:=by
 have hi:=h.two;obtain⟨ht,⟨n,hn,hm⟩,hg⟩:=h.wp.Ac;obtain⟨w',hrun,hm',hgr,hs⟩:=hm.drop hq underlying161 ty;have m:az (fun t=>t=(i,4)) tg tg w w':=jD hgr hs ht;have hp:=h.wp;obtain⟨vD,hD⟩:=hp.tG;refine⟨w',hrun,m,hgr,hs,hm.lt,h.two,h.st.moves m (fun e=>by cases e) (fun e=>by cases e),⟨hp.tree.moves m (fun e=>by cases e),hp.qK.moves m (fun e=>by cases e),hp.qL.moves m (fun e=>by cases e),⟨ht,⟨n,hn,hm'.congr (fun x hx=>?_)⟩,fun x f hx=>?_⟩,⟨vD,hD.moves m (fun e=>by cases e)⟩,hp.files.moves m (fun e=>by cases e),fun x f hx=>?_,hp.opens.moves m (fun e=>by cases e) (fun e=>by cases e),⟨hp.ok.root,hp.ok.od⟩⟩⟩
 ·show upd (fun y=>(g.ft.of y).map ptr) q none x=Option.map ptr (upd g.ft.of q none x)
  by_cases e:x=q
  ·subst e;rw[upd_same,upd_same];rfl
  ·rw[aJ e,aJ e]
 ·by_cases e:x=q
  ·subst e
   have rA:upd g.ft.of x none x=some f:=hx;rw[upd_same] at rA;cases rA
  ·have rA:upd g.ft.of q none x=some f:=hx
   rw[aJ e] at rA;exact hg x f rA
 ·by_cases e:x=q
  ·subst e
   have rA:upd g.ft.of x none x=some f:=hx;rw[upd_same] at rA;cases rA
  ·have rA:upd g.ft.of q none x=some f:=hx
   rw[aJ e] at rA;exact hp.held x f rA
theorem P0 {tg:aP}{w:World}{g:WG}{lim:Nat}{vD:List ByteArray->Value}(h:bF tg w s i p B ag g lim)(hD:cG tg w i B g.ft.od lim vD){q:List ByteArray}(hq:Good q)(ty:TypeId):
  ∃w',(Builtin.delete_ #[162,147] ty #[.map (some B.oD),.agg (av q)]).run prog w=.ok (.tuple #[]) w'/\az (fun t=>t=(i,5)) tg tg w w'/\bF tg w' s i p B ag { g with ft:={ g.ft with od:=upd g.ft.od q none } } lim/\cG tg w' i B (upd g.ft.od q none) lim vD:=by
 obtain⟨n,hn,hm⟩:=hD.map;obtain⟨w',hrun,hm',hgr,hs⟩:=hm.drop hq underlying162 ty;obtain⟨e0,ck,hb⟩:=hm.isMap;have m:az (fun t=>t=(i,5)) tg tg w w':=jD hgr hs hD.tag;have nw:∀x es,upd g.ft.od q none x=some es->g.ft.od x=some es:=fun x es hx=>by
  by_cases e:x=q
  ·subst e;rw[upd_same] at hx;cases hx
  ·rw[aJ e] at hx;exact hx
 have CT:cG tg w' i B (upd g.ft.od q none) lim vD:=by
  refine⟨hD.tag,⟨n,hn,hm'.congr (fun x hx=>?_)⟩,fun x es hx=>hD.good x es (nw x es hx),fun x es hx=>(hD.row x es (nw x es hx)).xy hb hgr,fun x y ex ey gb hx hy h1 h2=>hD.inj x y ex ey gb (nw x ex hx) (nw y ey hy) h1 h2⟩;by_cases e:x=q
  ·subst e;rw[upd_same,upd_same];rfl
  ·rw[aJ e,aJ e]
 exact⟨w',hrun,m,h.od m (bA _) CT (fun x es hx=>h.wp.ok.od x es (nw x es hx)),CT⟩
theorem B3 {tg:aP}{w:World}{g:WG}{lim:Nat}{vD:List ByteArray->Value}(h:bF tg w s i p B ag g lim)(hD:cG tg w i B g.ft.od lim vD){q:List ByteArray}(hq:Good q):
  Calls prog 139 #[.pointer (some ⟨B.bt,0,none⟩),.agg (av q)] w fun en w'=>en=.returned (.tuple #[])/\az (Mine i) tg tg w w'/\bF tg w' s i p B ag { g with ft:=wR g.ft q } lim/\cG tg w' i B (upd g.ft.od q none) lim vD:=by
 have hb0:=aB ((Below.refl w.heap.size w).alloc (bA _) (.cells (av q) 147));have hW0:=h.below hb0;have GG:=hD.moves (az.aM (P:=fun _=>False) hb0) (fun x=>x);obtain⟨w1,adq,m1,hg1,hs1,hoF,hW1⟩:=LF hW0 hq 0;have Yr:cG tg w1 i B g.ft.od lim vD:=GG.moves m1 (fun e=>by cases e);obtain⟨w2,adr,m2,hW2,Yo⟩:=P0 (hW1.below (aB (Below.refl _ _))) (Yr.moves (az.aM (P:=fun _=>False) (aB (Below.refl _ _))) (fun x=>x)) hq 0;obtain⟨ht,c8,c7,_,_⟩:=h.wp.tree.cells;obtain⟨ht1,c81,_,_,_⟩:=hW1.wp.tree.cells;have hne:w.heap.size≠B.oF:=by
  obtain⟨_,⟨n,_,hm⟩,_⟩:=h.wp.Ac
  have:=hm.lt;omega
 have k1:∀o,w1.cell? ⟨w.heap.size,o,none⟩=((w.alloc (.cells (av q) 147)).drew).cell? ⟨w.heap.size,o,none⟩:=eC (c:=w.heap.size) hg1 (by simp[World.drew]) hne;have HR:Hid (az (Mine i) tg tg w w2/\bF tg w2 s i p B ag { g with ft:=wR g.ft q } lim/\cG tg w2 i B (upd g.ft.od q none) lim vD):=⟨(az.aM hb0).trans ((m1.mono (fun t ht=>(Or.inr (by rw[ht]):Mine i t))).trans ((az.aM (aB (Below.refl _ _))).trans (m2.mono (fun t ht=>(Or.inr (by rw[ht]):Mine i t))))),hW2,Yo⟩;obtain⟨s0,s1,s2,s3,s4,hP⟩:∃s0 s1 s2 s3 s4,av q = #[.string s0,.string s1,.string s2,.string s3,.string s4]:=⟨_,_,_,_,_,rfl⟩;rw[hP] at adq adr k1 hb0 ⊢;clear h hD hW0 GG hW1 Yr hW2 Yo m1 m2 hb0 hg1;go_enter func139,ntmps139;go_wp2
 go_region
 all_goals
  go_wp2
  go_region
  all_goals
   go_wp2;exact bodyPost_end (v:=.tuple #[]) (by simp[results,results139,go_sem]) rfl ⟨rfl,HR.out⟩
theorem I8 {tg:aP}{w W6 W:World}{g:WG}{lim:Nat}{vD:List ByteArray->Value}(h:bF tg w s i p B ag g lim)(hD:cG tg w i B g.ft.od lim vD)(hl:lim<maxLen){q:List ByteArray}{es es':List aK}(ho:g.ft.od q=some es)(hg:w.grownBy W6 (vD q).ownBlock){v6:Value}
  (hrow:W6.ownsRow 0 96 3 v6 es'.length (flat es'))(hloc:v6.ownBlock=(vD q).ownBlock\/∀gb,v6.ownBlock=some gb->w.heap.size<=gb)(hE:mY ag es')(hb:Below W6.heap.size W6 W):
  ∃w7 Af,(Instr.mapUpdate 162 (.map (some B.oD)) (.agg (av q)) v6).run prog W=.ok () w7/\az (Mine i) tg Af w w7/\
   bF Af w7 s i p B ag { g with ft:={ g.ft with od:=upd g.ft.od q (some es') } } (lim+1)/\cG Af w7 i B (upd g.ft.od q (some es')) (lim+1) (upd vD q v6):=by
 have hi:=h.two;have hq:=(hD.good q es ho).1;have hrq:=hD.row q es ho;obtain⟨n,hn,hm⟩:=hD.map;obtain⟨e0,ck,hmap⟩:=hm.isMap;have ahW:some B.oD≠(vD q).ownBlock:=dS hrq.1 hmap;have hm6:W6.heap[B.oD]? = w.heap[B.oD]?:=hg.block _ hm.lt ahW;have hW:W.heap[B.oD]? = w.heap[B.oD]?:=(hb.block _ (cv hm.lt hg.size)).trans hm6;obtain⟨w7,hrun,hm7,Ys,hs7⟩:=(hm.keep hW).store hq (Nat.lt_of_le_of_lt hn hl) underlying162 v6;have akr:W.heap[B.oD]? = some (.map e0 ck):=hW.trans hmap;have anP:∀k,(tg k).1≠0->lS tg v6 (i,5) k=tg k:=fun k hk=>by
  by_cases e:v6.ownBlock=some k
  ·rw[rT e]
   rcases hloc with h1 | h1
   ·exact (hrq.2 k (h1 ▸ e)).symm
   ·rw[h.st.fresh k (h1 k e)] at hk;exact absurd rfl hk
  ·exact kL e _
 have Z7:∀k,k<w.heap.size->lS tg v6 (i,5) k=tg k:=fun k hk=>by
  by_cases e:v6.ownBlock=some k
  ·rw[rT e]
   rcases hloc with h1 | h1
   ·exact (hrq.2 k (h1 ▸ e)).symm
   ·have:=h1 k e;omega
  ·exact kL e _
 have hf7:jC (lS tg v6 (i,5)) w7:=fun k hk=>by
  have h6:W6.heap.size<=k:=eU hb.size (by omega);rw[kL (fun e=>by have:=ah hrow e;omega)];exact h.st.fresh k (eU hg.size h6)
 have m:az (fun t=>t=(i,5)) tg (lS tg v6 (i,5)) w w7:=by
  refine⟨Ys.os.trans (hb.os.trans hg.os),Ys.tape.trans (hb.tape.trans hg.tape),Ys.output.trans (hb.output.trans hg.output),eU hg.size (eU hb.size Ys.size),Z7,fun k hk hn=>?_,fun _=>hf7⟩;have k6:k<W6.heap.size:=cv hk hg.size;rw[Ys.block k (cv k6 hb.size) (fun e=>hn (by cases e;exact hD.tag)),hb.block k k6,hg.block k hk (fun e=>hn (hrq.2 k e.symm))]
 have LG:cG (lS tg v6 (i,5)) w7 i B (upd g.ft.od q (some es')) (lim+1) (upd vD q v6):=by
  have ads:lu (lS tg v6 (i,5)) w7 (i,5) v6 es':=by
   refine⟨ai hrow (fun g' kT=>?_),fun gb hgb=>rT hgb _⟩;have hl6:=ah hrow kT;rw[Ys.block g' (cv hl6 hb.size) (fun e=>?_),hb.block g' hl6];have e':g'=B.oD:=by injection e
   rw[e'] at kT;exact dS hrow (hm6.trans hmap) kT.symm
  refine⟨(Z7 _ hm.lt).trans hD.tag,⟨n+1,by omega,hm7.congr (fun x hx=>?_)⟩,fun x fs hx=>?_,fun x fs hx=>?_,fun x y fs fs' gb hx hy h1 h2=>?_⟩
  ·by_cases e:x=q
   ·subst e;rw[upd_same,upd_same,upd_same];rfl
   ·rw[aJ e,aJ e,aJ e]
  ·by_cases e:x=q
   ·subst e
    rw[upd_same] at hx;cases hx;exact⟨hq,hE.rising,hE.len,fun e he=>⟨(hE.ok e he).1,(hE.ok e he).2.1⟩⟩
   ·rw[aJ e] at hx;exact hD.good x fs hx
  ·by_cases e:x=q
   ·subst e
    rw[upd_same] at hx ⊢;cases hx;exact ads
   ·rw[aJ e] at hx ⊢
    have hr:=hD.row x fs hx;refine hr.keep (fun g' kT hl'=>⟨?_,Z7 g' hl'⟩);have k6:g'<W6.heap.size:=cv hl' hg.size;rw[Ys.block g' (cv k6 hb.size) (fun e2=>?_),hb.block g' k6,hg.block g' hl' (fun e2=>?_)]
    ·exact e (hD.inj x q fs es g' hx ho kT e2.symm)
    ·have e':g'=B.oD:=by injection e2
     rw[e'] at kT;exact dS hr.1 hmap kT.symm
  ·have apart:∀z fz,z≠q->g.ft.od z=some fz->(vD z).ownBlock=some gb->v6.ownBlock=some gb->False:=fun z fz hz hoz Gv rP=>by
    rcases hloc with h3 | h3
    ·exact hz (hD.inj z q fz es gb hoz ho Gv (h3 ▸ rP))
    ·have hlz:=ah (hD.row z fz hoz).1 Gv
     have:=h3 gb rP
     omega
   by_cases e:x=q
   ·by_cases e':y=q
    ·rw[e,e']
    ·subst e
     rw[upd_same] at h1;rw[aJ e'] at hy h2;exact (apart y fs' e' hy h2 h1).elim
   ·by_cases e':y=q
    ·subst e'
     rw[upd_same] at h2;rw[aJ e] at hx h1;exact (apart x fs e hx h1 h2).elim
    ·rw[aJ e] at hx h1
     rw[aJ e'] at hy h2;exact hD.inj x y fs fs' gb hx hy h1 h2
 refine⟨w7,lS tg v6 (i,5),hrun,m.mono (fun t ht=>(Or.inr (by rw[ht]):Mine i t)),h.od m (Nat.le_succ _) LG (fun x fs hx=>?_),LG⟩;by_cases e:x=q
 ·subst e
  rw[upd_same] at hx;cases hx;exact fun e he=>(hE.ok e he).2
 ·rw[aJ e] at hx
  exact h.wp.ok.od x fs hx
end
theorem WT {w:World}{gb n c k:Nat}{es:List aK}(hrow:w.ownsRow 0 96 3 (.slice (some ⟨gb,0,none⟩) n c) n (flat es))(hn:es.length=n)(hk:k<n):
  Calls prog 194 #[.slice (some ⟨gb,0,none⟩) n c,.int .i64 (k:Int),.int .i64 ((k:Int)+1)] w fun e w'=>e=.returned (.slice (some ⟨gb,0,none⟩) (n-1) c)/\
   w'.ownsRow 0 96 3 (.slice (some ⟨gb,0,none⟩) (n-1) c) (n-1) (flat (es.eraseIdx k))/\w.grownBy w' (some gb)/\w'.heap.size=w.heap.size:=by
 rcases hrow.2 with ⟨e,_⟩ | ⟨g',c',cur,e,_,hg,Th,hcm,hcs,ht⟩
 ·cases e
 ·cases e
  refine (TF gb n c k es cur w hg hn hk Th hcm hcs ht).mono ?_;rintro e w' ⟨rfl,cur',kT,sw,ht',hgr,hsz⟩;refine⟨rfl,⟨?_,.inr ⟨gb,c,cur',rfl,dG _,kT,by omega,hcm,sw,ht'⟩⟩,hgr,hsz⟩;rw[bl,List.length_eraseIdx_of_lt (by omega),hn]
theorem LH {w w1:World}{o1:Obj}(h:Below (w.alloc o1).heap.size (w.alloc o1) w1):w.heap.size<w1.heap.size:=by
 have h2:=h.size;rw[World.size_alloc] at h2;omega
theorem jY {w:World}{a:Nat}(h:a<w.heap.size)(o:Obj):a<(w.alloc o).heap.size:=by rw[World.size_alloc];omega
theorem iV (w:World)(o:Obj):w.heap.size<(w.alloc o).heap.size:=by rw[World.size_alloc];omega
theorem LI {tg:aP}{a b:Nat}{t t':Nat×Nat}(h1:tg a=t)(h2:tg b=t')(hne:t≠t'):a≠b:=fun e=>hne (h1.symm.trans (e ▸ h2))
theorem adt (i:Nat):((i,1):Nat×Nat)≠(i,5):=fun h=>by cases h
theorem WU (i:Nat):((0,0):Nat×Nat)≠(i,5):=fun h=>by cases h
theorem TV {v:Value}{gb n c:Nat}(h:v=.slice (some ⟨gb,0,none⟩) n c)(n' c':Nat):(Value.slice (some ⟨gb,0,none⟩) n' c').ownBlock=v.ownBlock:=by subst h;rfl
theorem P5 {v:Value}{w w':World}{gb n c:Nat}(h:v=.slice (some ⟨gb,0,none⟩) n c)(hg:w.grownBy w' (some gb)):w.grownBy w' v.ownBlock:=by subst h;exact hg
theorem P6 {ag:List Ob}{es:List aK}(h:mY ag es)(n:ByteArray):mY ag (cE es n):=
 ⟨by unfold cE;exact List.Pairwise.sublist (List.eraseIdx_sublist _ _) h.rising,by unfold cE;exact eU (List.length_eraseIdx_le _ _) h.len,fun e he=>h.ok e (DI he)⟩
section
variable {s i p:Nat}{B:WB}{ag:List Ob}
theorem TW {tg:aP}{w w6:World}{g:WG}{lim:Nat}{vD:List ByteArray->Value}{q:List ByteArray}{es:List aK}{nm:ByteArray}{gb n c ix:Nat}(h:bF tg w s i p B ag g lim)(hD:cG tg w i B g.ft.od lim vD)(hl:lim<maxLen)(ho:g.ft.od q=some es)(hgb:vD q=.slice (some ⟨gb,0,none⟩) n c)(pq:aW es nm=true)(sB:dz es nm=ix)(hE:mY ag es)
  (hrow:w6.ownsRow 0 96 3 (.slice (some ⟨gb,0,none⟩) (es.length-1) c) (es.length-1) (flat (es.eraseIdx ix)))(hg:w.grownBy w6 (some gb)):
  ∃w7 Af,(Instr.mapUpdate 162 (.map (some B.oD)) (.agg (av q)) (.slice (some ⟨gb,0,none⟩) (es.length-1) c)).run prog w6=.ok () w7/\az (Mine i) tg Af w w7/\
   bF Af w7 s i p B ag { g with ft:={ g.ft with od:=upd g.ft.od q (some (cE es nm)) } } (lim+1)/\cG Af w7 i B (upd g.ft.od q (some (cE es nm))) (lim+1) (upd vD q (.slice (some ⟨gb,0,none⟩) (es.length-1) c)):=by
 refine I8 h hD hl ho (P5 hgb hg) ?_ (.inl (TV hgb _ _)) (P6 hE nm) (Below.refl _ _);rw[wP pq];unfold cE;rw[sB];exact hrow
theorem I9 {tg:aP}{w:World}{g:WG}{lim:Nat}{K:List ByteArray->List aK}{vD:List ByteArray->Value}(h:bF tg w s i p B ag g lim)(hD:cG tg w i B g.ft.od lim vD)(hl:lim+300<1099511627776){q:List ByteArray}{n:ByteArray}(hp:Good (q ++ [n]))(pn:gh ag g.fs g.ft K q)(hE:mY ag (K q))(pq:aW (K q) n=true):
  Calls prog 138 #[.pointer (some ⟨B.bt,0,none⟩),.agg (av (q ++ [n]))] w fun en w'=>en=.returned (.tuple #[])/\∃aC zD,az (Mine i) tg aC w w'/\
   bF aC w' s i p B ag { g with ft:=jU ag g.fs g.ft q n } (lim+150)/\cG aC w' i B (jU ag g.fs g.ft q n).od (lim+150) zD:=by
 have hq:Good q:=by have:=hp.dropLast;rwa [List.dropLast_concat] at this
 have hq4:q.length<=4:=by have:=hp.len;simp at this;omega
 obtain⟨m1,m2,m3,m4⟩:=sY pn;have BQ:jU ag g.fs g.ft q n = { cT ag g.fs g.ft q.reverse with od:=upd (cT ag g.fs g.ft q.reverse).od q (some (cE (K q) n)) }:=by
  unfold jU;simp only[m3,Option.getD_some]
 rw[BQ];have mH:=fun W (hb:Below w.heap.size w W)=>uE (s:=s) (i:=i) (p:=p) (B:=B) (ag:=ag) q.reverse tg W g lim K vD (h.below hb) (hD.moves (az.aM (P:=fun _=>False) hb) (fun x=>x)) (by rw[List.length_reverse];omega) (by rw[List.reverse_reverse];exact hq) (by rw[List.reverse_reverse];exact pn)
 rw[List.reverse_reverse,List.length_reverse] at mH;have gq:=fun W=>iT (q ++ [n]) hp W
 have hname:=fun W=>mX (q ++ [n]) hp (by simp) W;rw[List.dropLast_concat] at gq;simp only[List.getLast_concat] at hname;obtain⟨s0,s1,s2,s3,s4,hP⟩:∃s0 s1 s2 s3 s4,av (q ++ [n]) = #[.string s0,.string s1,.string s2,.string s3,.string s4]:=⟨_,_,_,_,_,rfl⟩;obtain⟨r0,r1,r2,r3,r4,zG⟩:∃s0 s1 s2 s3 s4,av q = #[.string s0,.string s1,.string s2,.string s3,.string s4]:=⟨_,_,_,_,_,rfl⟩;unfold bn at gq hname;simp only[hP,zG] at gq hname mH;rw[hP];obtain⟨sB,sA⟩:=o6 pq;have jS:=hE.len;have hi:=h.two;have O0:lim+20*(q.length+1)<maxLen:=by unfold maxLen;omega
 generalize yI:dz (K q) n=ix at sB;have TS:Hid (dz (K q) n=ix):=yI;have HP':Hid _:=zG;have H0:Hid _:=h;have Yq:Hid _:=mH;have Rg:Hid _:=m3;have HE:Hid _:=hE;have TR:Hid _:=pq;have Dc:=h.st.fresh;have Fy:Hid _:=Dc;clear yI h hD mH m1 m2 m3 m4 hE pq hP zG pn BQ sA Dc;go_enter func138,ntmps138;go_wp2_with (first
  | (go_at_call 132;refine (gq _).mono ?_;rintro e w1 ⟨rfl,hb1⟩;have hz1:=LH hb1;have k1:=fun o=>(aR hb1).1 w.heap.size o (by simp);have b1:=aq ((Below.refl w.heap.size w).alloc (bA _) _) hb1)
  | (go_at_call 192;go_loud (refine (Yq.out _ (b1.alloc b1.size _)).mono ?_;rintro e w3 ⟨v3,rfl,Ae,vD3,AB,hW3,TX,hv3,WV⟩;have kb0:=fC (b:=w.heap.size) hi AB (jY hz1 _) (Fy.out _ (bA _));have kb1:=fC (b:=w1.heap.size) hi AB (iV _ _) (Fy.out _ (Nat.le_of_lt hz1));have tz1:Ae w1.heap.size=(0,0):=(AB.tags _ (iV _ _)).trans (Fy.out _ (Nat.le_of_lt hz1));have rO:w1.heap.size<w3.heap.size:=cv (iV _ _) AB.size;have yJ:=TX.row _ _ Rg.out;obtain⟨gb,cc,hgb⟩:=ak yJ.1 (by omega);rw[hgb] at hv3 yJ;subst hv3;have fo:gb<w3.heap.size:=ah yJ.1 rfl;obtain⟨Re,c83,_,_,_⟩:=hW3.wp.tree.cells;have K7:=LI hW3.wp.tree.tt (yJ.2 gb rfl) (adt i);have KL:=LI tz1 (yJ.2 gb rfl) (WU i);have AA:Hid _:=hW3;have zF:Hid _:=AB;have HD3:Hid _:=TX;have C2:Hid _:=yJ;have Z5:Hid _:=hgb;have HQ3:Hid _:=WV;clear hW3 AB TX yJ hgb WV))
  | (go_at_call 134;refine (hname _).mono ?_;rintro e w4 ⟨rfl,hb4⟩;have uD:w1.heap.size<w4.heap.size:=cv rO hb4.size;have k4:∀o,w4.cell? ⟨w1.heap.size,o,none⟩=w3.cell? ⟨w1.heap.size,o,none⟩:=fun o=>(aR hb4).1 _ o rO;have d4:w4.cell? ⟨B.bt,8,none⟩=w3.cell? ⟨B.bt,8,none⟩:=(aR hb4).1 _ _ Re)
  | (go_at_call 133;go_loud (refine (jE (ai C2.out.1 (fun g' kT=>hb4.block g' (ah C2.out.1 kT))) n HE.out.rising HE.out.len).mono ?_;rintro e w5 ⟨rfl,j3⟩;rw[TS.out,TR.out];have GH:=aq hb4 j3;have k5:∀o,w5.cell? ⟨w1.heap.size,o,none⟩=w4.cell? ⟨w1.heap.size,o,none⟩:=fun o=>(aR j3).1 _ o uD;have d5:w5.cell? ⟨B.bt,8,none⟩=w3.cell? ⟨B.bt,8,none⟩:=(aR GH).1 _ _ Re)))
 have RH:w5.drew.ownsRow 0 96 3 (.slice (some ⟨gb,0,none⟩) (K q).length cc) (K q).length (flat (K q)):=ai C2.out.1 (fun g' kT=>(aB GH).block g' (ah C2.out.1 kT));have hdel:=WT RH rfl sB;have ah0:Hid _:=hdel;clear hdel RH;have hwx:IntKind.i64.wrap ((ix:Int)+1)=(ix:Int)+1:=by rw[IntKind.wrap_i64];omega
 go_region_with (go_at_call 194;go_loud (refine Calls.mono ah0.out ?_;rintro e w6 ⟨rfl,Yt,wk,hs6⟩;have k6:=fun o=>eC (c:=w1.heap.size) wk (cv uD j3.size) KL o;have d6:=eC (c:=B.bt) wk (cv Re GH.size) K7 8;obtain⟨w7,Af,VC,m7,Ja,LG⟩:=TW (AA.out.below (aB GH)) (HD3.out.moves (az.aM (P:=fun _=>False) (aB GH)) (fun x=>x)) O0 Rg.out Z5.out TR.out TS.out HE.out Yt wk;rw[HP'.out] at VC;have P7:Hid _:=m7;have LJ:Hid _:=Ja;have HD7:Hid _:=LG;clear m7 Ja LG Yt wk))
 all_goals
  go_wp2;exact bodyPost_end (v:=.tuple #[]) (by simp[results,results138,go_sem]) rfl ⟨rfl,Af,_,((bY (b1.alloc b1.size _) zF.out).trans ((az.aM (aB GH)).trans P7.out)),LJ.out.mono (by omega),HD7.out.mono (by omega)⟩
end
theorem Jb {ag:List Ob}{es:List aK}(h:mY ag es){n:ByteArray}{v:Int×Int}(hn:aF n=true)(hv:lR ag (n,v))(hl:aW es n=true\/es.length<16):mY ag (eH es n v):=by
 refine⟨sU h.rising,?_,fun e he=>?_⟩
 ·rw[pL]
  have:=h.len
  rcases hl with h1 | h1
  ·rw[aL h1];omega
  ·split <;> omega
 ·rcases Hx he with rfl | he
  ·exact⟨hn,hv⟩
  ·exact h.ok e he
section
variable {s i p:Nat}{B:WB}{ag:List Ob}
theorem WW {tg:aP}{w w6:World}{g:WG}{lim:Nat}{vD:List ByteArray->Value}{q:List ByteArray}{es:List aK}{nm:ByteArray}{v:Int×Int}{ix:Nat}{e:Ending}(h:bF tg w s i p B ag g lim)(hD:cG tg w i B g.ft.od lim vD)(hl:lim<maxLen)(ho:g.ft.od q=some es)(pq:aW es nm=false)(sB:dz es nm=ix)(hE:mY ag es)(jS:es.length<16)(hn:aF nm=true)(hv:lR ag (nm,v)){v3:Value}(hvq:vD q=v3)
  (hi:tO w w6 v3.ownBlock es.length (es.take ix++(nm,v) :: es.drop ix) e):
  ∃gc cc,e=.returned (.slice (some ⟨gc,0,none⟩) (es.length+1) cc)/\w.grownBy w6 v3.ownBlock/\∃w7 Af vD7,(Instr.mapUpdate 162 (.map (some B.oD)) (.agg (av q)) (.slice (some ⟨gc,0,none⟩) (es.length+1) cc)).run prog w6=.ok () w7/\az (Mine i) tg Af w w7/\
   bF Af w7 s i p B ag { g with ft:={ g.ft with od:=upd g.ft.od q (some (eH es nm v)) } } (lim+1)/\cG Af w7 i B (upd g.ft.od q (some (eH es nm v))) (lim+1) vD7:=by
 subst hvq;obtain⟨gc,cc,he,hrow,hg,hloc⟩:=hi;have hput:eH es nm v=es.take ix++(nm,v) :: es.drop ix:=by
  unfold eH;rw[ay (by rw[pq];decide),sB]
 have hlen:(eH es nm v).length=es.length+1:=by rw[pL,ay (by rw[pq];decide)]
 obtain⟨w7,Af,h1,h2,h3,h4⟩:=I8 h hD hl ho hg (v6:=.slice (some ⟨gc,0,none⟩) (es.length+1) cc) (es':=eH es nm v) (by rw[hlen,hput];exact hrow) (by
  rcases hloc with h1 | h1
  ·exact .inl h1
  ·exact .inr (fun gb hgb=>by
    obtain rfl:gc=gb:=by simpa [Value.ownBlock] using hgb
    exact h1)) (Jb hE hn hv (.inr jS)) (Below.refl _ _)
 exact⟨gc,cc,he,hg,w7,Af,_,h1,h2,h3,h4⟩
theorem FX {w w':World}{c:Nat}{row:Option Nat}(hg:w.grownBy w' row)(hc:c<w.heap.size)(hne:some c≠row)(o:Nat):w'.cell? ⟨c,o,none⟩=w.cell? ⟨c,o,none⟩:=World.cell?_of_block (a:=⟨c,o,none⟩) (hg.block c hc hne)
theorem yK {tg:aP}{w:World}{t t':Nat×Nat}{v:Value}{es:List aK}{c:Nat}(h:lu tg w t v es)(hc:tg c=t')(hne:t'≠t):some c≠v.ownBlock:=fun e=>hne (hc.symm.trans (h.2 c e.symm))
theorem WX {tg:aP}{w w4:World}{t:Nat×Nat}{v:Value}{es:List aK}(h:lu tg w t v es)(hb:Below w.heap.size w w4):∀g,v.ownBlock=some g->w4.heap.size≠g:=fun g hg e=>by
 have h1:=ah h.1 hg
 have h2:=hb.size
 omega
theorem mg {w w1:World}{o1 o2:Obj}(h:Below ((w.alloc o1).alloc o2).heap.size ((w.alloc o1).alloc o2) w1):w.heap.size<w1.heap.size/\w.heap.size+1<w1.heap.size:=by
 have h2:=h.size;rw[World.size_alloc,World.size_alloc] at h2;omega
theorem Ef {n:Nat}{w W:World}{b o:Nat}{v:Value}(h:Below n w W)(hb:n<=b):Below n w (W.setCell ⟨b,o,none⟩ v):=h.setCell hb _
theorem B4 {W:World}{b o:Nat}{v:Value}:(W.setCell ⟨b,o,none⟩ v).heap.size=W.heap.size:=by simp
theorem NS {tg:aP}{w:World}{g:WG}{lim:Nat}{K:List ByteArray->List aK}{vD:List ByteArray->Value}(h:bF tg w s i p B ag g lim)(hD:cG tg w i B g.ft.od lim vD)(hl:lim+300<1099511627776){q:List ByteArray}{n:ByteArray}(hp:Good (q ++ [n]))(pn:gh ag g.fs g.ft K q)(hE:mY ag (K q))(pq:aW (K q) n=false)(jS:(K q).length<16)
  (nm:ByteArray)(k id:Int)(hv:lR ag (n,k,id)):
  Calls prog 135 #[.pointer (some ⟨B.bt,0,none⟩),.agg (av (q ++ [n])),.agg #[.string nm,.int .i64 k,.int .i64 id]] w fun en w'=>en=.returned (.tuple #[])/\∃aC zD,az (Mine i) tg aC w w'/\
   bF aC w' s i p B ag { g with ft:=mU ag g.fs g.ft q n (k,id) } (lim+150)/\cG aC w' i B (mU ag g.fs g.ft q n (k,id)).od (lim+150) zD:=by
 have hq:Good q:=by have:=hp.dropLast;rwa [List.dropLast_concat] at this
 have VF:aF n=true:=hp.val n (by simp);have hq4:q.length<=4:=by have:=hp.len;simp at this;omega
 obtain⟨m1,m2,m3,m4⟩:=sY pn;have BQ:mU ag g.fs g.ft q n (k,id) = { cT ag g.fs g.ft q.reverse with od:=upd (cT ag g.fs g.ft q.reverse).od q (some (eH (K q) n (k,id))) }:=by
  unfold mU;simp only[m3,Option.getD_some];rw[ay (by rw[pq];decide)]
 rw[BQ];have mH:=fun W (hb:Below w.heap.size w W)=>uE (s:=s) (i:=i) (p:=p) (B:=B) (ag:=ag) q.reverse tg W g lim K vD (h.below hb) (hD.moves (az.aM (P:=fun _=>False) hb) (fun x=>x)) (by rw[List.length_reverse];omega) (by rw[List.reverse_reverse];exact hq) (by rw[List.reverse_reverse];exact pn)
 rw[List.reverse_reverse,List.length_reverse] at mH;have gq:=fun W=>iT (q ++ [n]) hp W
 have hname:=fun W=>mX (q ++ [n]) hp (by simp) W;rw[List.dropLast_concat] at gq;simp only[List.getLast_concat] at hname;obtain⟨s0,s1,s2,s3,s4,hP⟩:∃s0 s1 s2 s3 s4,av (q ++ [n]) = #[.string s0,.string s1,.string s2,.string s3,.string s4]:=⟨_,_,_,_,_,rfl⟩;obtain⟨r0,r1,r2,r3,r4,zG⟩:∃s0 s1 s2 s3 s4,av q = #[.string s0,.string s1,.string s2,.string s3,.string s4]:=⟨_,_,_,_,_,rfl⟩;unfold bn at gq hname;simp only[hP,zG] at gq hname mH;rw[hP];have hi:=h.two;have O0:lim+20*(q.length+1)<maxLen:=by unfold maxLen;omega
 have adw:dz (K q) n<=(K q).length:=Nj _ _;generalize yI:dz (K q) n=ix at adw;have TS:Hid (dz (K q) n=ix):=yI;have HP':Hid _:=zG;have Yq:Hid _:=mH;have Rg:Hid _:=m3;have HE:Hid _:=hE;have TR:Hid _:=pq;have Dc:=h.st.fresh;have Fy:Hid _:=Dc;have HV:Hid _:=hv;clear yI h hD mH m1 m2 m3 m4 hE pq hP zG pn BQ Dc hv;go_enter func135,ntmps135;go_wp2_with (first
  | (go_at_call 134;refine (hname _).mono ?_;rintro e w1 ⟨rfl,hb1⟩;obtain⟨hz0,hz1⟩:=mg hb1;have k1:=fun o=>(aR hb1).1 w.heap.size o (by simp;omega);have e1:=fun o=>(aR hb1).1 (w.heap.size+1) o (by simp);have f1:=fun o=>(aR hb1).2 (w.heap.size+1) o (by simp);have b1:=aq (((Below.refl w.heap.size w).alloc (bA _) _).alloc (by simp) _) hb1)
  | (go_at_call 132;go_loud (refine (gq _).mono ?_;rintro e w2 ⟨rfl,hb2⟩;have b2:=aq (Ef b1 (Nat.le_succ _)) hb2;have hzs:=cv hz1 (Nat.le_of_eq (B4 (W:=w1) (b:=w.heap.size+1) (o:=0) (v:=.string n)).symm);have e2:=fun o=>(aR hb2).1 (w.heap.size+1) o hzs;have hz2:=cv hzs hb2.size))
  | (go_at_call 192;go_loud (refine (Yq.out _ (b2.alloc b2.size _)).mono ?_;rintro e w3 ⟨v3,rfl,Ae,vD3,AB,hW3,TX,hv3,WV⟩;have ke:=fC (b:=w.heap.size+1) hi AB (jY hz2 _) (Fy.out _ (Nat.le_succ _));have kp:=fC (b:=w2.heap.size) hi AB (iV _ _) (Fy.out _ b2.size);have tz1:=(AB.tags w2.heap.size (iV _ _)).trans (Fy.out _ b2.size);have tze:=(AB.tags (w.heap.size+1) (jY hz2 _)).trans (Fy.out _ (Nat.le_succ _));have rO:w2.heap.size<w3.heap.size:=cv (iV _ _) AB.size;have P8:w.heap.size+1<w3.heap.size:=Nat.lt_trans hz2 rO;have yJ:=TX.row _ _ Rg.out;rw[hv3] at yJ;obtain⟨Re,c83,_,_,_⟩:=hW3.wp.tree.cells;have AA:Hid _:=hW3;have zF:Hid _:=AB;have HD3:Hid _:=TX;have C2:Hid _:=yJ;have Z5:Hid _:=hv3;clear hW3 AB TX yJ hv3 WV))
  | (go_at_call 133;go_loud (refine (jE C2.out.1 n HE.out.rising HE.out.len).mono ?_;rintro e w4 ⟨rfl,hb4⟩;rw[TS.out,TR.out];have k4:=fun o=>(aR hb4).1 w2.heap.size o rO;have e4:=fun o=>(aR hb4).1 (w.heap.size+1) o P8;have d4:=(aR hb4).1 B.bt 8 Re)))
 have b45:Below w3.heap.size w3 ((w4.alloc (.cells #[.string n,.int .i64 k,.int .i64 id] 96)).drew):=aB (hb4.alloc hb4.size _);have RH:((w4.alloc (.cells #[.string n,.int .i64 k,.int .i64 id] 96)).drew).ownsRow 0 96 3 v3 (K q).length (flat (K q)):=ai C2.out.1 (fun g' kT=>b45.block g' (ah C2.out.1 kT));have J3:((w4.alloc (.cells #[.string n,.int .i64 k,.int .i64 id] 96)).drew).heap[w4.heap.size]? = some (.cells #[.string n,.int .i64 k,.int .i64 id] 96 (0,0)):=Array.getElem?_push_size;have yz:=WR (x:=(n,k,id)) RH (Nat.le_of_lt jS) adw J3 (WX C2.out hb4);have ah2:Hid _:=yz;have a1:=yK C2.out tz1 (WU i);have a2:=yK C2.out tze (WU i);have a3:=yK C2.out AA.out.wp.tree.tt (adt i);have z1:w2.heap.size<((w4.alloc (.cells #[.string n,.int .i64 k,.int .i64 id] 96)).drew).heap.size:=cv rO b45.size;have z2:w.heap.size+1<((w4.alloc (.cells #[.string n,.int .i64 k,.int .i64 id] 96)).drew).heap.size:=cv P8 b45.size;have z3:B.bt<((w4.alloc (.cells #[.string n,.int .i64 k,.int .i64 id] 96)).drew).heap.size:=cv Re b45.size;have zz1:w2.heap.size<w4.heap.size:=cv rO hb4.size;have zz2:w.heap.size+1<w4.heap.size:=cv P8 hb4.size;have zz3:B.bt<w4.heap.size:=cv Re hb4.size;have Z8:Hid _:=b45;have HZ:Hid _:=And.intro z1 (And.intro z2 z3);have HA:Hid _:=And.intro a1 (And.intro a2 a3);clear yz RH J3 b45 z1 z2 z3 a1 a2 a3
 go_region_with (go_at_call 193;go_loud (refine Calls.mono ah2.out ?_;rintro e w6 hi6;obtain⟨gc,cc,rfl,wk,w7,Af,vD7,VC,m7,Ja,LG⟩:=WW (v:=(k,id)) (AA.out.below Z8.out) (HD3.out.moves (az.aM (P:=fun _=>False) Z8.out) (fun x=>x)) O0 Rg.out TR.out TS.out HE.out jS VF HV.out Z5.out hi6;have k6:=FX wk HZ.out.1 HA.out.1;have e6:=FX wk HZ.out.2.1 HA.out.2.1;have d6:=FX wk HZ.out.2.2 HA.out.2.2 8;rw[HP'.out] at VC;have P7:Hid _:=m7;have LJ:Hid _:=Ja;have HD7:Hid _:=LG;clear m7 Ja LG wk hi6))
 all_goals
  go_wp2;exact bodyPost_end (v:=.tuple #[]) (by simp[results,results135,go_sem]) rfl ⟨rfl,Af,vD7,((bY (b2.alloc b2.size _) zF.out).trans ((az.aM Z8.out).trans P7.out)),LJ.out.mono (by omega),HD7.out.mono (by omega)⟩
end
end Go.Proofs.YtlgidcmmgohagaaGreat
