/- What is proved here: 'claim' at the root. -/
import Derived.Test.YtlgidcmmgohagaaGreatFileM20
import Derived.Test.YtlgidcmmgohagaaGreatFileM07
namespace Go.Proofs.YtlgidcmmgohagaaGreat
open Go.RowKit Go.Sort Go.Shelf Go.Proofs.Tryz
set_option linter.unusedVariables false
set_option maxRecDepth 100000
set_option maxHeartbeats 16000000
section
variable {s i p:Nat}{B:WB}{objs:List Ob}
theorem PTree.cells {tg:Tags}{w:World}{base root:Int}(h:PTree tg w i p B base root):B.bt<w.heap.size/\w.cell? ⟨B.bt,8,none⟩=some (.map (some B.oD))/\w.cell? ⟨B.bt,7,none⟩=some (.map (some B.oF))/\w.cell? ⟨B.bt,6,none⟩=some (.int .i64 root)/\(∀o,w.frozen? ⟨B.bt,o,none⟩=false):=
 ⟨(Array.getElem?_eq_some_iff.1 h.ht).1,by simp[World.cell?,h.ht],by simp[World.cell?,h.ht],by simp[World.cell?,h.ht],fun o=>by simp[World.frozen?,h.ht]⟩
theorem WInv.setRoot {tg:Tags}{w:World}{g:WG}{lim:Nat}(h:WInv tg w s i p B objs g lim):WInv tg (w.setCell ⟨B.bt,6,none⟩ (.int .i64 0)) s i p B objs { g with ft:={ g.ft with root:=0 } } lim/\Moves (fun t=>t=(i,1)) tg tg w (w.setCell ⟨B.bt,6,none⟩ (.int .i64 0)):=by
 have hi:=h.two;have ht:=h.wp.tree;have m:Moves (fun t=>t=(i,1)) tg tg w (w.setCell ⟨B.bt,6,none⟩ (.int .i64 0)):=⟨rfl,rfl,rfl,by simp,fun _ _=>rfl,fun k hk hn=>Below.heap_setCell _ _ _ _ (fun e=>hn (by rw[e];exact ht.tt)),fun hf k hk=>hf k (by simpa using hk)⟩;refine⟨⟨hi,h.st.moves m (fun e=>by cases e) (fun e=>by cases e;omega),⟨⟨ht.tt,ht.tF,ht.tD,?_,?_,?_⟩,h.wp.keptF.moves m (fun e=>by cases e),h.wp.keptD.moves m (fun e=>by cases e),h.wp.ownF.moves m (fun e=>by cases e),?_,h.wp.files.moves m (fun e=>by cases e),h.wp.held,h.wp.opens.moves m (fun e=>by cases e) (fun e=>by cases e),⟨fun h0=>absurd rfl h0,h.wp.ok.od⟩⟩⟩,m⟩
 ·simp[World.setCell,Array.getElem?_modify,ht.ht]
 ·rw[Below.heap_setCell _ _ _ _ (cells_ne ht.hF ht.ht (by decide))];exact ht.hF
 ·rw[Below.heap_setCell _ _ _ _ (cells_ne ht.hD ht.ht (by decide))];exact ht.hD
 ·obtain⟨vD,hD⟩:=h.wp.ownD
  exact⟨vD,hD.moves m (fun e=>by cases e)⟩
theorem out_cell {w w':World}{b c:Nat}(hg:w.grownBy w' (some b))(hc:c<w.heap.size)(hne:c≠b)(o:Nat):w'.cell? ⟨c,o,none⟩=w.cell? ⟨c,o,none⟩:=World.cell?_of_block (a:=⟨c,o,none⟩) (hg.block c hc (fun e=>hne (by injection e)))
theorem claim_top {tg:Tags}{w:World}{g:WG}{lim:Nat}{vD0:List ByteArray->Value}(h:WInv tg w s i p B objs g lim)(hD0:OwnDV tg w i B g.ft.od lim vD0)(hl:lim+20<1099511627776)(ho:g.ft.od []=none){es:List Ent}(hL:lookF objs g.ft g.fs []=(g.fs,0,es)):
  Calls prog 192 #[.pointer (some ⟨B.bt,0,none⟩),.agg #[.string ⟨#[]⟩,.string ⟨#[]⟩,.string ⟨#[]⟩,.string ⟨#[]⟩,.string ⟨#[]⟩]] w fun en w'=>∃v,en=.returned v/\∃tg' vD,Moves (Mine i) tg tg' w w'/\
   WInv tg' w' s i p B objs { g with ft:={ g.ft with od:=upd g.ft.od [] (some es),root:=0 } } (lim+10)/\OwnDV tg' w' i B (upd g.ft.od [] (some es)) (lim+10) vD/\vD []=v/\∀q,q ≠ []->vD q=vD0 q:=by
 have hE:=h.ents g.fs [];rw[hL] at hE;have hE:Ents objs es:=hE;obtain⟨ht,c8,_,_,_⟩:=h.wp.tree.cells;have hb0:=below_drew ((Below.refl w.heap.size w).alloc (zzC _) (.cells #[.string ⟨#[]⟩,.string ⟨#[]⟩,.string ⟨#[]⟩,.string ⟨#[]⟩,.string ⟨#[]⟩] 147));have hlk:=own_hit hD0 Good.nil hb0;rw[ho] at hlk;have hlk:(Instr.lookup 162 (.map (some B.oD)) (.agg #[.string ⟨#[]⟩,.string ⟨#[]⟩,.string ⟨#[]⟩,.string ⟨#[]⟩,.string ⟨#[]⟩]) true).run prog ((w.alloc (.cells #[.string ⟨#[]⟩,.string ⟨#[]⟩,.string ⟨#[]⟩,.string ⟨#[]⟩,.string ⟨#[]⟩] 147)).drew)=.ok (.tuple #[.slice none 0 0,.bool false]) ((w.alloc (.cells #[.string ⟨#[]⟩,.string ⟨#[]⟩,.string ⟨#[]⟩,.string ⟨#[]⟩,.string ⟨#[]⟩] 147)).drew):=hlk;have hlook:=look_all (s:=s) (i:=i) (p:=p) (B:=B) (objs:=objs) [] tg _ g lim (h.below hb0) (by omega) Good.nil;rw[hL] at hlook;have hlook:Calls prog 131 #[.pointer (some ⟨B.bt,0,none⟩),.agg #[.string ⟨#[]⟩,.string ⟨#[]⟩,.string ⟨#[]⟩,.string ⟨#[]⟩,.string ⟨#[]⟩]] _ _:=hlook;have hroot:=fun W=>root_any W;have heq:∀W,(Op.equalIn 10000 147 (pathV []) (pathV [])).run prog W=.ok true W:=fun W=>by
  have:=run_eqP Good.nil Good.nil W
  rw[decide_eq_true rfl] at this;exact this
 unfold pathV pathA at hroot heq;simp only[List.getD_nil] at hroot heq;obtain⟨n0,_,hm0⟩:=hD0.map;have hoD0:w.heap.size≠B.oD:=by have:=hm0.lt;omega
 have hlm:lim+([]:List ByteArray).length+1<maxLen:=by show lim+0+1<maxLen;unfold maxLen;omega
 have H0:Hid _:=h;have HD0:Hid _:=hD0;have HB0:Hid _:=hb0;have HE:Hid _:=hE;clear h hD0 hb0 hE hL ho hm0;go_enter func192,ntmps192;go_wp2
 go_region
 all_goals
  go_wp2_with (first
   | (go_at_call 131;refine hlook.mono ?_;rintro e w3 ⟨v,rfl,tg3,m3,hW3,hs3⟩;have hS:=stays_of H0.out.two H0.out.st.fresh m3;have k0:=hS.cell (zzC _) (by simp[World.drew]);have hz3:w.heap.size<w3.heap.size:=zzA (by simp[World.drew]) hS.1;obtain⟨ht3,c83,_,_,_⟩:=hW3.wp.tree.cells;have HW3:Hid _:=hW3;have HM3:Hid _:=m3;have HS3:Hid _:=hs3;clear hW3 m3 hs3 hS)
   | (go_at_call 170;go_loud (refine (cloneE_row HS3.out.1 HE.out.len).mono ?_;rintro e w4 ⟨v',rfl,hrow,hfr,hb4⟩;obtain⟨hc4,hf4⟩:=bcell hb4;obtain⟨w5,tg5,hmu,hg5,hs5,hoD,m5,hW5,hD5,hk5⟩:=own_new (q:=[]) HW3.out (((HD0.out.moves (Moves.of_below (P:=fun _=>False) HB0.out) (fun x=>x)).moves HM3.out (by rintro (h | h | h) <;> cases h;exact absurd H0.out.two (by decide))).mono (by omega)) hlm Good.nil (below_drew hb4) hrow hfr HE.out;have k5:=out_cell (c:=w.heap.size) hg5 (zzA hz3 hb4.size) hoD0;obtain⟨ht5,_,_,c65,f5⟩:=hW5.wp.tree.cells;have hmu:(Instr.mapUpdate 162 (.map (some B.oD)) (.agg #[.string ⟨#[]⟩,.string ⟨#[]⟩,.string ⟨#[]⟩,.string ⟨#[]⟩,.string ⟨#[]⟩]) v').run prog w4.drew=.ok () w5:=hmu;have hz5:w.heap.size<w5.heap.size:=zzA (zzA hz3 hb4.size) (Nat.le_of_eq hs5.symm);have HW5:Hid _:=hW5;have HM5:Hid _:=m5;have HD5:Hid _:=hD5;clear hW5 m5 hD5 hrow hfr hg5)))
  go_region
  all_goals
   go_wp2
   go_region_with (go_at_call 75;refine (hroot _).mono ?_;rintro e w6 ⟨rfl,hb6⟩;have k6:∀o,w6.cell? ⟨w.heap.size,o,none⟩=w5.cell? ⟨w.heap.size,o,none⟩:=fun o=>(bcell hb6).1 _ _ hz5;have hW6:=HW5.out.below (below_via (below_drew (Below.refl _ _)) hb6);obtain⟨ht6,_,_,c66,f66⟩:=hW6.wp.tree.cells;have HW6:Hid _:=hW6;clear hW6)
   all_goals
    go_wp2;go_ret;obtain⟨r1,r2⟩:=HW6.out.setRoot;refine⟨v',rfl,tg5,upd vD0 [] v',?_,r1.mono (by simp only[List.length_nil];omega),?_,upd_same _ _ _,fun q hq=>upd_other hq _⟩
    ·exact ((call_moves HB0.out HM3.out).mono (fun _ h=>h.mine)).trans (HM5.out.trans ((Moves.of_below (below_via (below_drew (Below.refl _ _)) hb6)).trans (r2.mono (fun t ht=>.inr (by rw[ht])))))
    ·exact (((HD5.out.moves (Moves.of_below (P:=fun _=>False) (below_via (below_drew (Below.refl _ _)) hb6)) (fun x=>x)).moves r2 (fun e=>by cases e)).mono (by simp only[List.length_nil];omega))
end
theorem fetch_not {i k:Nat}(hi:2<=i)(h2:k≠2)(h3:k≠3):¬Fetches i (i,k):=by
 rintro (h | h | h)
 ·have h':i=1:=h
  omega
 ·cases h;exact h2 rfl
 ·cases h;exact h3 rfl
theorem there_at {es:List Ent}{n:ByteArray}(ht:thereK es n=true):∃h:idxK es n<es.length,(es[idxK es n]).1=n:=by
 have hix:=thereK_lt ht;refine⟨hix,?_⟩;unfold thereK at ht;rw[zzH hix] at ht;simpa using ht
theorem putK_there {es:List Ent}{n:ByteArray}(ht:thereK es n=true)(v:Int×Int):putK es n v=es.set (idxK es n) (n,v):=by
 unfold putK;rw[zzD ht]
theorem zero_set {es:List Ent}(hr:RisingK es){n:ByteArray}(ht:thereK es n=true)(hix:idxK es n<es.length):es.set (idxK es n) (n,(es[idxK es n]).2.1,0)=zeroK es n:=by
 apply List.ext_getElem
 ·simp[zeroK]
 ·intro j h1 h2
  have hj:j<es.length:=by simpa using h1
  rw[List.getElem_set];rw[show (zeroK es n)[j]'h2=(if (es[j]).1=n then ((es[j]).1,(es[j]).2.1,(0:Int)) else es[j]) from by simp[zeroK]];obtain⟨_,hn⟩:=there_at ht;by_cases e:idxK es n=j
  ·subst e
   rw[zzD rfl,zzD hn,hn]
  ·rw[zzB e,zzB]
   intro hjn;rcases Nat.lt_or_gt_of_ne e with h | h
   ·have:=rising_lt hr (a:=idxK es n) (b:=j) hj h
    rw[hn,hjn,cmpN_self] at this;omega
   ·have:=rising_lt hr (a:=j) (b:=idxK es n) hix h
    rw[hn,hjn,cmpN_self] at this;omega
theorem flat_set3 {es:List Ent}{k:Nat}(hk:k<es.length)(e:Ent):(((flat es).set (k*3) (.string e.1)).set (k*3+1) (.int .i64 e.2.1)).set (k*3+2) (.int .i64 e.2.2)=flat (es.set k e):=by
 apply List.ext_getElem?;intro j;have hlen:(flat es).length=es.length*3:=flat_len es;by_cases hj:j<es.length*3
 ·obtain⟨q,t,ht,rfl⟩:∃q t,t<3/\j=q*3+t:=⟨j / 3,j % 3,Nat.mod_lt _ (by decide),by omega⟩
  have hq:q<es.length:=by omega
  rw[flat_get (es.set k e) q t (by simpa using hq) ht,List.getElem_set];by_cases e1:k=q
  ·subst e1
   rw[zzD rfl];simp only[List.getElem?_set,List.length_set,hlen];rcases (show t=0\/t=1\/t=2 by omega) with rfl | rfl | rfl
   ·rw[zzB (by omega),zzB (by omega),zzD (by omega),zzD (by omega)];rfl
   ·rw[zzB (by omega),zzD (by omega),zzD (by omega)];rfl
   ·rw[zzD (by omega),zzD (by omega)];rfl
  ·rw[zzB e1,List.getElem?_set_ne (by omega),List.getElem?_set_ne (by omega),List.getElem?_set_ne (by omega),flat_get es q t hq ht]
 ·rw[List.getElem?_eq_none (by simp only[List.length_set,hlen];omega),List.getElem?_eq_none (by rw[flat_len,List.length_set];omega)]
theorem flat_set2 {es:List Ent}{k:Nat}(hk:k<es.length)(id:Int):(flat es).set (k*3+2) (.int .i64 id)=flat (es.set k ((es[k]).1,(es[k]).2.1,id)):=by
 rw[<-flat_set3 hk];have h0:(flat es).set (k*3) (.string (es[k]).1)=flat es:=by
  have:=flat_get es k 0 hk (by decide)
  apply List.ext_getElem?;intro j;rw[List.getElem?_set];by_cases e:k*3=j
  ·subst e
   rw[zzD rfl,zzD (by rw[flat_len];omega)];simpa [encE] using this.symm
  ·rw[zzB e]
 have h1:(flat es).set (k*3+1) (.int .i64 (es[k]).2.1)=flat es:=by
  have:=flat_get es k 1 hk (by decide)
  apply List.ext_getElem?;intro j;rw[List.getElem?_set];by_cases e:k*3+1=j
  ·subst e
   rw[zzD rfl,zzD (by rw[flat_len];omega)];simpa [encE] using this.symm
  ·rw[zzB e]
 rw[h0,h1]
section
variable {s i p:Nat}{B:WB}{objs:List Ob}
theorem OwnDV.rewrite {tg:Tags}{w w':World}{od:List ByteArray->Option (List Ent)}{lim:Nat}{vD:List ByteArray->Value}(h:OwnDV tg w i B od lim vD){q:List ByteArray}{es es':List Ent}{gb:Nat}(ho:od q=some es)(hgb:(vD q).ownBlock=some gb)(hg:w.grownBy w' (some gb))
  (hrow:w'.ownsRow 0 96 3 (vD q) es'.length (flat es'))(hE:Ents objs es'):OwnDV tg w' i B (upd od q (some es')) lim vD:=by
 obtain⟨n,hn,hm⟩:=h.map;obtain⟨e0,ck,hb⟩:=hm.isMap;have hne:B.oD≠gb:=fun e=>owns_ne_map (h.row q es ho).1 (e ▸ hb) hgb.symm;refine⟨h.tag,⟨n,hn,(hm.keep (hg.block _ hm.lt (fun e=>hne (by injection e)))).congr (fun p hp=>?_)⟩,fun p fs hp=>?_,fun p fs hp=>?_,fun p p' fs fs' gc hp hp' hb1 hb2=>?_⟩
 ·by_cases e:p=q
  ·subst e;rw[upd_same,ho];rfl
  ·rw[upd_other e]
 ·by_cases e:p=q
  ·subst e
   rw[upd_same] at hp;cases hp;exact⟨(h.good p es ho).1,hE.rising,hE.len,fun e he=>⟨(hE.ok e he).1,(hE.ok e he).2.1⟩⟩
  ·rw[upd_other e] at hp;exact h.good p fs hp
 ·by_cases e:p=q
  ·subst e
   rw[upd_same] at hp;cases hp;exact⟨hrow,(h.row p es ho).2⟩
  ·rw[upd_other e] at hp
   have hr:=h.row p fs hp;exact hr.keep (fun g' hg' hl=>⟨hg.block g' hl (fun e2=>by
    have e3:g'=gb:=by injection e2
    rw[e3] at hg';exact e (h.inj p q fs es gb hp ho hg' hgb)),rfl⟩)
 ·have hp1:∃f1,od p=some f1:=by
   by_cases e:p=q
   ·rw[e];exact⟨es,ho⟩
   ·rw[upd_other e] at hp;exact⟨fs,hp⟩
  have hp2:∃f2,od p'=some f2:=by
   by_cases e:p'=q
   ·rw[e];exact⟨es,ho⟩
   ·rw[upd_other e] at hp';exact⟨fs',hp'⟩
  obtain⟨f1,hp1⟩:=hp1;obtain⟨f2,hp2⟩:=hp2;exact h.inj p p' f1 f2 gc hp1 hp2 hb1 hb2
theorem ents_zero {es:List Ent}(h:Ents objs es)(n:ByteArray):Ents objs (zeroK es n):=by
 refine⟨?_,by unfold zeroK;rw[List.length_map];exact h.len,fun e he=>?_⟩
 ·unfold RisingK zeroK
  rw[List.pairwise_map];refine h.rising.imp fun {a b} hab=>?_
  have e:∀x:Ent,(if x.1=n then (x.1,x.2.1,(0:Int)) else x).1=x.1:=fun x=>by split <;> rfl
  rw[e,e];exact hab
 ·unfold zeroK at he
  obtain⟨x,hx,rfl⟩:=List.mem_map.1 he;obtain⟨h1,h2⟩:=h.ok x hx;by_cases e:x.1=n
  ·rw[zzD e];exact⟨h1,h2.1,fun h0=>absurd rfl h0⟩
  ·rw[zzB e];exact⟨h1,h2⟩
theorem WInv.entsOf {tg:Tags}{w:World}{g:WG}{lim:Nat}(h:WInv tg w s i p B objs g lim){q:List ByteArray}{es:List Ent}(ho:g.ft.od q=some es):Ents objs es:=by
 obtain⟨vD,hD⟩:=h.wp.ownD;obtain⟨_,h1,h2,h3⟩:=hD.good q es ho;exact⟨h1,h2,fun e he=>⟨(h3 e he).1,h.wp.ok.od q es ho e he⟩⟩
theorem zero_cell {tg:Tags}{w:World}{g:WG}{lim:Nat}{vD:List ByteArray->Value}(h:WInv tg w s i p B objs g lim)(hD:OwnDV tg w i B g.ft.od lim vD){q:List ByteArray}{es:List Ent}{n:ByteArray}{gb ln c:Nat}(ho:g.ft.od q=some es)(hv:vD q=.slice (some ⟨gb,0,none⟩) ln c)(ht:thereK es n=true):
  WInv tg (w.setCell ⟨gb,idxK es n*3+2,none⟩ (.int .i64 0)) s i p B objs { g with ft:={ g.ft with od:=upd g.ft.od q (some (zeroK es n)) } } lim/\OwnDV tg (w.setCell ⟨gb,idxK es n*3+2,none⟩ (.int .i64 0)) i B (upd g.ft.od q (some (zeroK es n))) lim vD/\Moves (fun t=>t=(i,5)) tg tg w (w.setCell ⟨gb,idxK es n*3+2,none⟩ (.int .i64 0)):=by
 have hE:=h.entsOf ho;obtain⟨hix,hn⟩:=there_at ht;have hrow:=hD.row q es ho;have hgb:(vD q).ownBlock=some gb:=by rw[hv];rfl
 have hg:w.grownBy (w.setCell ⟨gb,idxK es n*3+2,none⟩ (.int .i64 0)) (some gb):=grown_set (grown_refl _ _);have hE':=ents_zero hE n;have hr1:=hrow.1;rw[hv] at hr1;have hln:ln=es.length:=by
  rcases hr1.2 with ⟨e,_⟩ | ⟨g',c',_,e,_⟩
  ·cases e
  ·cases e;rfl
 subst hln;have hst:=(hr1.stored (idxK es n*3+2) (.int .i64 0)).1;have hfl:(flat es).set (idxK es n*3+2) (.int .i64 0)=flat (zeroK es n):=by
  rw[flat_set2 hix,hn,zero_set hE.rising ht hix]
 rw[hfl] at hst;have hD':=hD.rewrite (objs:=objs) ho hgb hg (by rw[hv];unfold zeroK at hst ⊢;rw[List.length_map];exact hst) hE';have m:Moves (fun t=>t=(i,5)) tg tg w (w.setCell ⟨gb,idxK es n*3+2,none⟩ (.int .i64 0)):=moves_grown hg (by simp) (hrow.2 gb hgb);refine⟨h.od m (zzC _) hD' (fun q' es' ho'=>?_),hD',m⟩;by_cases e:q'=q
 ·subst e
  have ho'':upd g.ft.od q' (some (zeroK es n)) q'=some es':=ho';rw[upd_same] at ho'';cases ho'';exact fun e he=>(hE'.ok e he).2
 ·have ho'':upd g.ft.od q (some (zeroK es n)) q'=some es':=ho'
  rw[upd_other e] at ho'';exact h.wp.ok.od q' es' ho''
def ClaimC (s i p:Nat)(B:WB)(objs:List Ob)(r:List ByteArray):Prop:=∀(tg:Tags) (w:World) (g:WG) (lim:Nat) (K:List ByteArray->List Ent) (vD:List ByteArray->Value),WInv tg w s i p B objs g lim->OwnDV tg w i B g.ft.od lim vD->lim+20*(r.length+2)<1099511627776->Good r.reverse->OwnWay objs g.fs g.ft K r.reverse->
 Calls prog 192 #[.pointer (some ⟨B.bt,0,none⟩),.agg (pathA r.reverse)] w fun en w'=>∃v,en=.returned v/\∃tg' vD',Moves (Mine i) tg tg' w w'/\
  WInv tg' w' s i p B objs { g with ft:=claimF objs g.fs g.ft r } (lim+20*(r.length+1))/\OwnDV tg' w' i B (claimF objs g.fs g.ft r).od (lim+20*(r.length+1)) vD'/\vD' r.reverse=v/\∀q,¬q <+: r.reverse->vD' q=vD q
theorem ownWay_step {fs:FS}{ft:FT}{K:List ByteArray->List Ent}{q:List ByteArray}{n:ByteArray}(h:OwnWay objs fs ft K (q ++ [n])):OwnWay objs fs { ft with od:=upd ft.od (q ++ [n]) (some (K (q ++ [n]))) } K q:=by
 have hpre:∀x,x <+: q->x <+: q ++ [n]:=fun x hx=>hx.trans (List.prefix_append _ _);have hne:∀x,x <+: q->x≠q ++ [n]:=fun x hx e=>by
  have:=hx.length_le
  rw[e] at this;simp at this;omega
 have h0:OwnWay objs fs ft K q:=⟨fun x hx=>h.look x (hpre x hx),fun x hx=>h.own x (hpre x hx),fun x m hx=>h.up x m (hpre _ hx),h.root⟩;exact h0.congr rfl (fun x hx=>upd_other (hne x hx) _)
theorem way_there {fs:FS}{ft:FT}{K:List ByteArray->List Ent}{q:List ByteArray}{n:ByteArray}(h:OwnWay objs fs ft K (q ++ [n]))(hr:RisingK (K q)):thereK (K q) n=true:=by
 have h1:=h.look (q ++ [n]) (List.prefix_refl _);have h2:=h.look q (List.prefix_append _ _);rw[List.reverse_append] at h1;have h1':lookF objs ft fs (n :: q.reverse)=(fs,0,K (q ++ [n])):=h1;have hf:(findF objs ft fs (n :: q.reverse)).2.1=0:=by
  unfold lookF at h1';by_cases h0:(findF objs ft fs (n :: q.reverse)).2.1≠0
  ·simp only[zzD h0] at h1'
   exact absurd (congrArg (fun z=>z.2.1) h1') h0
  ·exact Decidable.not_not.1 h0
 rw[findF_cons,h2] at hf;simp only at hf;rw[zzB (by decide)] at hf;cases hg:getK (K q) n with
 | none=>rw[hg] at hf;simp at hf
 | some c=>
  have:=getK_there (n:=n) hr
  rw[hg] at this;cases ht:thereK (K q) n with
  | true=>rfl
  | false=>rw[ht] at this;simp at this
theorem not_mine {i:Nat}(hi:2<=i):¬Mine i (0,0):=by
 rintro (h | h)
 ·cases h
 ·have h':(0:Nat)=i:=h
  omega
theorem row_frozen {w:World}{gb n c m:Nat}{xs:List Value}(h:w.ownsRow 0 96 3 (.slice (some ⟨gb,0,none⟩) n c) m xs)(o:Nat):w.frozen? ⟨gb,o,none⟩=false:=by
 rcases h.2 with ⟨e,_⟩ | ⟨g',c',cur,e,_,hb,_⟩
 ·cases e
 ·cases e;simp[World.frozen?,hb]
theorem row_cell2 {w:World}{gb n c:Nat}{es:List Ent}(h:w.ownsRow 0 96 3 (.slice (some ⟨gb,0,none⟩) n c) n (flat es)){ix:Nat}(hix:ix<es.length):w.cell? ⟨gb,ix*3+2,none⟩=some (.int .i64 (es[ix]).2.2):=
 (row_at (b:=gb) (fun j u hu=>by have:=owns_cells h j u hu;rwa [Nat.zero_add] at this) hix).2.2
theorem kept_cell {tg tg':Tags}{w w':World}{i b:Nat}(hi:2<=i)(m:Moves (Mine i) tg tg' w w')(hb:b<w.heap.size)(ht:tg b=(0,0))(o:Nat):w'.cell? ⟨b,o,none⟩=w.cell? ⟨b,o,none⟩:=
 World.cell?_of_block (a:=⟨b,o,none⟩) (m.block _ hb (by rw[ht];exact not_mine hi))
theorem claim_up {tg:Tags}{w:World}{g:WG}{lim:Nat}{K:List ByteArray->List Ent}{vD0:List ByteArray->Value}(n:ByteArray)(r:List ByteArray)(hrec:ClaimC s i p B objs r)(h:WInv tg w s i p B objs g lim)(hD0:OwnDV tg w i B g.ft.od lim vD0)(hl:lim+20*(r.length+3)<1099511627776)
  (hq:Good (r.reverse ++ [n]))(hway:OwnWay objs g.fs g.ft K (r.reverse ++ [n]))(ho:g.ft.od (r.reverse ++ [n])=none):
  Calls prog 192 #[.pointer (some ⟨B.bt,0,none⟩),.agg (pathA (r.reverse ++ [n]))] w fun en w'=>∃v,en=.returned v/\∃tg' vD',Moves (Mine i) tg tg' w w'/\
   WInv tg' w' s i p B objs { g with ft:=claimF objs g.fs g.ft (n :: r) } (lim+20*((n :: r).length+1))/\OwnDV tg' w' i B (claimF objs g.fs g.ft (n :: r)).od (lim+20*((n :: r).length+1)) vD'/\vD' (r.reverse ++ [n])=v/\∀q,¬q <+: (r.reverse ++ [n])->vD' q=vD0 q:=by
 have hL0:=hway.look _ (List.prefix_refl _);rw[List.reverse_append,List.reverse_reverse] at hL0;have hL:lookF objs g.ft g.fs (n :: r)=(g.fs,0,K (r.reverse ++ [n])):=hL0;have hr4:r.length<=4:=by have:=hq.len;simp at this;omega
 have hq':Good r.reverse:=by have:=hq.dropLast;rwa [List.dropLast_concat] at this
 have hE:=h.ents g.fs (n :: r);rw[hL] at hE;have hE:Ents objs (K (r.reverse ++ [n])):=hE;have hLp:=hway.look r.reverse (List.prefix_append _ _);have hEp:=h.ents g.fs r.reverse.reverse;rw[hLp] at hEp;have hEp:Ents objs (K r.reverse):=hEp;have hthere:=way_there hway hEp.rising;have hway1:=ownWay_step hway;obtain⟨m1,m2,m3⟩:=claim_maps (r:=r) hway1;have hcl:claimF objs g.fs g.ft (n :: r) = { claimF objs g.fs { g.ft with od:=upd g.ft.od (r.reverse ++ [n]) (some (K (r.reverse ++ [n]))) } r with od:=upd (claimF objs g.fs { g.ft with od:=upd g.ft.od (r.reverse ++ [n]) (some (K (r.reverse ++ [n]))) } r).od r.reverse (some (zeroK (K r.reverse) n)) }:=by
  rw[claimF];have hrv:(n :: r).reverse=r.reverse ++ [n]:=List.reverse_cons;rw[hrv,ho,zzB (by decide),hL];have e1:=m3 r.reverse;rw[zzD (List.prefix_refl _)] at e1;have e2:zK K r.reverse r.reverse=K r.reverse:=by unfold zK;rw[List.getElem?_eq_none (zzC _)]
  rw[e2] at e1;show (FT.mk _ (upd _ _ (some (zeroK (((claimF objs g.fs { g.ft with od:=upd g.ft.od (r.reverse ++ [n]) (some (K (r.reverse ++ [n]))) } r).od r.reverse).getD []) n))) _)=_;rw[e1];rfl
 have hodp:(claimF objs g.fs { g.ft with od:=upd g.ft.od (r.reverse ++ [n]) (some (K (r.reverse ++ [n]))) } r).od r.reverse=some (K r.reverse):=by
  have e1:=m3 r.reverse;rw[zzD (List.prefix_refl _)] at e1;have e2:zK K r.reverse r.reverse=K r.reverse:=by unfold zK;rw[List.getElem?_eq_none (zzC _)]
  rw[e2] at e1;exact e1
 have hnp:¬(r.reverse ++ [n]) <+: r.reverse:=fun hx=>by have:=hx.length_le;simp at this;omega
 obtain⟨ht,c8,_,_,_⟩:=h.wp.tree.cells;have hb0:=below_drew ((Below.refl w.heap.size w).alloc (zzC _) (.cells (pathA (r.reverse ++ [n])) 147));have hlk:=own_hit hD0 hq hb0;rw[ho] at hlk;have hlook:=look_all (s:=s) (i:=i) (p:=p) (B:=B) (objs:=objs) (n :: r) tg _ g lim (h.below hb0) (by omega) (by rw[List.reverse_cons];exact hq);rw[hL,List.reverse_cons] at hlook;have hroot:=fun W=>root_any W;have heq:∀W,(Op.equalIn 10000 147 (pathV (r.reverse ++ [n])) (pathV [])).run prog W=.ok false W:=fun W=>by
  have:=run_eqP hq Good.nil W
  rw[zzE (by simp)] at this;exact this
 have hpar:=fun W=>parent_any (r.reverse ++ [n]) hq W;have hname:=fun W=>name_any (r.reverse ++ [n]) hq (by simp) W;rw[List.dropLast_concat] at hpar;simp only[List.getLast_concat] at hname;have hrecC:∀(tg:Tags) (w:World) (g:WG) (lim:Nat) (K:List ByteArray->List Ent) (vD:List ByteArray->Value),WInv tg w s i p B objs g lim->OwnDV tg w i B g.ft.od lim vD->lim+20*(r.length+2)<1099511627776->OwnWay objs g.fs g.ft K r.reverse->Calls prog 192 #[.pointer (some ⟨B.bt,0,none⟩),.agg (pathA r.reverse)] w fun en w'=>∃v,en=.returned v/\∃tg' vD',Moves (Mine i) tg tg' w w'/\
  WInv tg' w' s i p B objs { g with ft:=claimF objs g.fs g.ft r } (lim+20*(r.length+1))/\OwnDV tg' w' i B (claimF objs g.fs g.ft r).od (lim+20*(r.length+1)) vD'/\vD' r.reverse=v/\∀q,¬q <+: r.reverse->vD' q=vD q:=fun tg w g lim K vD a b c d=>hrec tg w g lim K vD a b c hq' d
 obtain⟨s0,s1,s2,s3,s4,hP⟩:∃s0 s1 s2 s3 s4,pathA (r.reverse ++ [n]) = #[.string s0,.string s1,.string s2,.string s3,.string s4]:=⟨_,_,_,_,_,rfl⟩;obtain⟨r0,r1,r2,r3,r4,hP'⟩:∃s0 s1 s2 s3 s4,pathA r.reverse = #[.string s0,.string s1,.string s2,.string s3,.string s4]:=⟨_,_,_,_,_,rfl⟩;unfold pathV at hroot heq hpar hname;rw[hP] at hlk hlook hb0;simp only[hP,hP'] at heq hpar hname hrecC;rw[hP];unfold pathA at hroot heq;simp only[List.getD_nil] at hroot heq;have hlk':(Instr.lookup 162 (.map (some B.oD)) (.agg #[.string s0,.string s1,.string s2,.string s3,.string s4]) true).run prog ((w.alloc (.cells #[.string s0,.string s1,.string s2,.string s3,.string s4] 147)).drew)=.ok (.tuple #[.slice none 0 0,.bool false]) ((w.alloc (.cells #[.string s0,.string s1,.string s2,.string s3,.string s4] 147)).drew):=hlk;obtain⟨n0,_,hm0⟩:=hD0.map;have hoD0:w.heap.size≠B.oD:=by have:=hm0.lt;omega
 have hlm:lim+(n :: r).length+1<maxLen:=by rw[List.length_cons];unfold maxLen;omega
 have hlm2:lim+(n :: r).length+1+1+20*(r.length+2)<1099511627776:=by rw[List.length_cons];omega
 obtain⟨hix,hnm⟩:=there_at hthere;have h16:=hEp.len;have HP:Hid _:=hP;have H0:Hid _:=h;have HD0:Hid _:=hD0;have HB0:Hid _:=hb0;have HE:Hid _:=hE;have HEP:Hid _:=hEp;have HREC:Hid _:=hrecC;have HW1:Hid _:=hway1;have HCL:Hid _:=hcl;have HOD:Hid _:=hodp;have HTH:Hid _:=hthere;have HNM:Hid _:=hnm;have HNP:Hid _:=hnp;clear h hD0 hb0 hE hL hL0 ho hm0 hlk hP hP' hEp hrecC hway hway1 m1 m2 m3 hcl hodp hthere hnm hnp hLp hrec;generalize hixe:idxK (K r.reverse) n=ix at hix;have HIX:Hid (idxK (K r.reverse) n=ix):=hixe;clear hixe;go_enter func192,ntmps192;go_wp2
 go_region
 all_goals
  go_wp2_with (first
   | (go_at_call 131;refine hlook.mono ?_;rintro e w3 ⟨v,rfl,tg3,m3,hW3,hs3⟩;have hS:=stays_of H0.out.two H0.out.st.fresh m3;have k0:=hS.cell (zzC _) (by simp[World.drew]);have hz3:w.heap.size<w3.heap.size:=zzA (by simp[World.drew]) hS.1;have tz3:tg3 w.heap.size=(0,0):=(m3.tags _ (by simp[World.drew])).trans (H0.out.st.fresh _ (zzC _));obtain⟨ht3,c83,_,_,_⟩:=hW3.wp.tree.cells;have HW3:Hid _:=hW3;have HM3:Hid _:=m3;have HS3:Hid _:=hs3;clear hW3 m3 hs3 hS)
   | (go_at_call 170;go_loud (refine (cloneE_row HS3.out.1 HE.out.len).mono ?_;rintro e w4 ⟨v',rfl,hrow,hfr,hb4⟩;obtain⟨hc4,hf4⟩:=bcell hb4;obtain⟨w5,tg5,hmu,hg5,hs5,hoD,m5,hW5,hD5,hk5⟩:=own_new (q:=r.reverse ++ [n]) HW3.out (((HD0.out.moves (Moves.of_below (P:=fun _=>False) HB0.out) (fun x=>x)).moves HM3.out (fetch_not H0.out.two (by decide) (by decide))).mono (by omega)) hlm hq (below_drew hb4) hrow hfr HE.out;have k5:=out_cell (c:=w.heap.size) hg5 (zzA hz3 hb4.size) hoD0;obtain⟨ht5,_,_,c65,f5⟩:=hW5.wp.tree.cells;rw[HP.out] at hmu;have hz5:w.heap.size<w5.heap.size:=zzA (zzA hz3 hb4.size) (Nat.le_of_eq hs5.symm);have tz5:tg5 w.heap.size=(0,0):=(m5.tags _ hz3).trans tz3;have HW5:Hid _:=hW5;have HM5:Hid _:=m5;have HD5:Hid _:=hD5;clear hW5 m5 hD5 hrow hfr hg5)))
  go_region
  all_goals
   go_wp2
   go_region_with (go_at_call 75;refine (hroot _).mono ?_;rintro e w6 ⟨rfl,hb6⟩;have k6:∀o,w6.cell? ⟨w.heap.size,o,none⟩=w5.cell? ⟨w.heap.size,o,none⟩:=fun o=>(bcell hb6).1 _ _ hz5;have hz6:w.heap.size<w6.heap.size:=zzA hz5 hb6.size;have b6:=below_via (below_drew (Below.refl w5.heap.size w5)) hb6)
   all_goals
    go_wp2_with (first
     | (go_at_call 132;refine (hpar _).mono ?_;rintro e w7 ⟨rfl,hb7⟩;have k7:∀o,w7.cell? ⟨w.heap.size,o,none⟩=w6.cell? ⟨w.heap.size,o,none⟩:=fun o=>(bcell hb7).1 _ _ hz6;have hz7:w.heap.size<w7.heap.size:=zzA hz6 hb7.size)
     | (go_at_call 192;go_loud (refine (HREC.out tg5 w7 _ _ K _ (HW5.out.below (below_via b6 hb7)) (HD5.out.moves (Moves.of_below (P:=fun _=>False) (below_via b6 hb7)) (fun x=>x)) hlm2 HW1.out).mono ?_;rintro e w8 ⟨v8,rfl,tg8,vD8,m8,hW8,hD8,hv8,hq8⟩;obtain⟨gb,cc,hgb⟩:=slice_of_owns (hD8.row _ _ HOD.out).1 (by omega);have hr8:=hD8.row _ _ HOD.out;rw[hgb] at hv8 hr8;subst hv8;have k8:=kept_cell H0.out.two m8 hz7 tz5;have hz8:w.heap.size<w8.heap.size:=zzA hz7 m8.size;have hgl:gb<w8.heap.size:=ownsRow_lt hr8.1 rfl;have y2:=row_cell2 hr8.1 hix;have y3:=row_frozen hr8.1 (ix*3+2);have HW8:Hid _:=hW8;have HM8:Hid _:=m8;have HD8:Hid _:=hD8;have HR8:Hid _:=hr8;have HG8:Hid _:=hgb;have HQ8:Hid _:=hq8;clear hW8 m8 hD8 hr8 hgb hq8))
     | (go_at_call 134;refine (hname _).mono ?_;rintro e w9 ⟨rfl,hb9⟩;have k9:w9.cell? ⟨gb,ix*3+2,none⟩=w8.cell? ⟨gb,ix*3+2,none⟩:=(bcell hb9).1 _ _ hgl;have f9:w9.frozen? ⟨gb,ix*3+2,none⟩=w8.frozen? ⟨gb,ix*3+2,none⟩:=(bcell hb9).2 _ _ hgl;have hz9:gb<w9.heap.size:=zzA hgl hb9.size)
     | (go_at_call 133;go_loud (refine (search_any (ownsRow_keep HR8.out.1 (fun g' hg'=>hb9.block g' (ownsRow_lt HR8.out.1 hg'))) n HEP.out.rising HEP.out.len).mono ?_;rintro e w10 ⟨rfl,hb10⟩;rw[HIX.out,HTH.out];have k10:w10.cell? ⟨gb,ix*3+2,none⟩=w9.cell? ⟨gb,ix*3+2,none⟩:=(bcell hb10).1 _ _ hz9;have f10:w10.frozen? ⟨gb,ix*3+2,none⟩=w9.frozen? ⟨gb,ix*3+2,none⟩:=(bcell hb10).2 _ _ hz9)))
    go_ret;have b10:=below_via hb9 hb10;obtain⟨z1,z2,z3⟩:=zero_cell (HW8.out.below b10) (HD8.out.moves (Moves.of_below (P:=fun _=>False) b10) (fun x=>x)) HOD.out HG8.out HTH.out;rw[HIX.out] at z1 z2 z3;have hlq:lim+(n :: r).length+1+1+20*(r.length+1)<=lim+20*((n :: r).length+1):=by rw[List.length_cons];omega
    refine⟨v',rfl,tg8,vD8,?_,?_,?_,?_,fun q hqn=>?_⟩
    ·exact ((call_moves HB0.out HM3.out).mono (fun _ h=>h.mine)).trans (HM5.out.trans ((Moves.of_below (below_via b6 hb7)).trans (HM8.out.trans ((Moves.of_below b10).trans (z3.mono (fun t ht=>.inr (by rw[ht])))))))
    ·rw[HCL.out];exact z1.mono hlq
    ·rw[HCL.out];exact z2.mono hlq
    ·rw[HQ8.out _ HNP.out,upd_same]
    ·rw[HQ8.out q (fun h=>hqn (h.trans (List.prefix_append _ _))),upd_other (fun e:q=r.reverse ++ [n]=>hqn (by rw[e];exact List.prefix_refl _))]
theorem claim_all:∀r:List ByteArray,ClaimC s i p B objs r
 | []=>by
  intro tg w g lim K vD h hD hl hq hway
  by_cases ho:(g.ft.od []).isSome=true
  ·obtain⟨es,he⟩:=Option.isSome_iff_exists.1 ho
   have hcl:claimF objs g.fs g.ft []=g.ft:=by rw[claimF,zzD ho]
   rw[hcl]
   obtain⟨ht,c8,_⟩:=h.wp.tree.cells
   refine (claim_hit B.bt B.oD _ _ _ _ _ (vD []) w ht c8 (fun W hb=>?_)).mono ?_
   ·have:=own_hit hD Good.nil hb
    rw[he] at this;exact this
   ·rintro en w' ⟨rfl,hb⟩
    exact⟨_,rfl,tg,vD,Moves.of_below hb,(h.below hb).mono (by omega),(hD.moves (Moves.of_below (P:=fun _=>False) hb) (fun x=>x)).mono (by omega),rfl,fun _ _=>rfl⟩
  ·have ho':g.ft.od []=none:=by simpa using ho
   have hL:=hway.look [] (List.prefix_refl _)
   have hcl:claimF objs g.fs g.ft [] = { g.ft with od:=upd g.ft.od [] (some (K [])),root:=0 }:=by
    rw[claimF,zzB ho];rw[show lookF objs g.ft g.fs []=(g.fs,0,K []) from hL]
   rw[hcl];refine (claim_top h hD (by simp only[List.length_nil] at hl;omega) ho' hL).mono ?_;rintro en w' ⟨v,rfl,tg',vD',m,hW,hD',hv,hq'⟩;exact⟨v,rfl,tg',vD',m,hW.mono (by simp only[List.length_nil];omega),hD'.mono (by simp only[List.length_nil];omega),hv,fun q hqn=>hq' q (fun e=>hqn (by rw[e];exact List.prefix_refl _))⟩
 | n :: r=>by
  intro tg w g lim K vD h hD hl hq hway;by_cases ho:(g.ft.od (n :: r).reverse).isSome=true
  ·obtain⟨es,he⟩:=Option.isSome_iff_exists.1 ho
   have hcl:claimF objs g.fs g.ft (n :: r)=g.ft:=by rw[claimF,zzD ho]
   rw[hcl];obtain⟨ht,c8,_⟩:=h.wp.tree.cells;refine (claim_hit B.bt B.oD _ _ _ _ _ (vD (n :: r).reverse) w ht c8 (fun W hb=>?_)).mono ?_
   ·have:=own_hit hD hq hb
    rw[he] at this;exact this
   ·rintro en w' ⟨rfl,hb⟩
    exact⟨_,rfl,tg,vD,Moves.of_below hb,(h.below hb).mono (by omega),(hD.moves (Moves.of_below (P:=fun _=>False) hb) (fun x=>x)).mono (by omega),rfl,fun _ _=>rfl⟩
  ·have hrv:(n :: r).reverse=r.reverse ++ [n]:=List.reverse_cons
   rw[hrv] at ho hq hway ⊢;have ho':g.ft.od (r.reverse ++ [n])=none:=by simpa using ho
   exact claim_up n r (claim_all r) h hD (by rw[List.length_cons] at hl;omega) hq hway ho'
theorem drop_files {tg:Tags}{w:World}{g:WG}{lim:Nat}(h:WInv tg w s i p B objs g lim){q:List ByteArray}(hq:Good q)(ty:TypeId):
  ∃w',(Builtin.delete_ #[161,147] ty #[.map (some B.oF),.agg (pathA q)]).run prog w=.ok (.tuple #[]) w'/\Moves (fun t=>t=(i,4)) tg tg w w'/\w.grownBy w' (some B.oF)/\w'.heap.size=w.heap.size/\B.oF<w.heap.size/\WInv tg w' s i p B objs { g with ft:={ g.ft with of:=upd g.ft.of q none } } lim:=by
 have hi:=h.two;obtain⟨ht,⟨n,hn,hm⟩,hg⟩:=h.wp.ownF;obtain⟨w',hrun,hm',hgr,hs⟩:=hm.drop hq underlying161 ty;have m:Moves (fun t=>t=(i,4)) tg tg w w':=moves_grown hgr hs ht;have hp:=h.wp;obtain⟨vD,hD⟩:=hp.ownD;refine⟨w',hrun,m,hgr,hs,hm.lt,h.two,h.st.moves m (fun e=>by cases e) (fun e=>by cases e),⟨hp.tree.moves m (fun e=>by cases e),hp.keptF.moves m (fun e=>by cases e),hp.keptD.moves m (fun e=>by cases e),⟨ht,⟨n,hn,hm'.congr (fun x hx=>?_)⟩,fun x f hx=>?_⟩,⟨vD,hD.moves m (fun e=>by cases e)⟩,hp.files.moves m (fun e=>by cases e),fun x f hx=>?_,hp.opens.moves m (fun e=>by cases e) (fun e=>by cases e),⟨hp.ok.root,hp.ok.od⟩⟩⟩
 ·show upd (fun y=>(g.ft.of y).map ptr) q none x=Option.map ptr (upd g.ft.of q none x)
  by_cases e:x=q
  ·subst e;rw[upd_same,upd_same];rfl
  ·rw[upd_other e,upd_other e]
 ·by_cases e:x=q
  ·subst e
   have hx':upd g.ft.of x none x=some f:=hx;rw[upd_same] at hx';cases hx'
  ·have hx':upd g.ft.of q none x=some f:=hx
   rw[upd_other e] at hx';exact hg x f hx'
 ·by_cases e:x=q
  ·subst e
   have hx':upd g.ft.of x none x=some f:=hx;rw[upd_same] at hx';cases hx'
  ·have hx':upd g.ft.of q none x=some f:=hx
   rw[upd_other e] at hx';exact hp.held x f hx'
theorem drop_dirs {tg:Tags}{w:World}{g:WG}{lim:Nat}{vD:List ByteArray->Value}(h:WInv tg w s i p B objs g lim)(hD:OwnDV tg w i B g.ft.od lim vD){q:List ByteArray}(hq:Good q)(ty:TypeId):
  ∃w',(Builtin.delete_ #[162,147] ty #[.map (some B.oD),.agg (pathA q)]).run prog w=.ok (.tuple #[]) w'/\Moves (fun t=>t=(i,5)) tg tg w w'/\WInv tg w' s i p B objs { g with ft:={ g.ft with od:=upd g.ft.od q none } } lim/\OwnDV tg w' i B (upd g.ft.od q none) lim vD:=by
 obtain⟨n,hn,hm⟩:=hD.map;obtain⟨w',hrun,hm',hgr,hs⟩:=hm.drop hq underlying162 ty;obtain⟨e0,ck,hb⟩:=hm.isMap;have m:Moves (fun t=>t=(i,5)) tg tg w w':=moves_grown hgr hs hD.tag;have hsub:∀x es,upd g.ft.od q none x=some es->g.ft.od x=some es:=fun x es hx=>by
  by_cases e:x=q
  ·subst e;rw[upd_same] at hx;cases hx
  ·rw[upd_other e] at hx;exact hx
 have hD':OwnDV tg w' i B (upd g.ft.od q none) lim vD:=by
  refine⟨hD.tag,⟨n,hn,hm'.congr (fun x hx=>?_)⟩,fun x es hx=>hD.good x es (hsub x es hx),fun x es hx=>(hD.row x es (hsub x es hx)).keep_map hb hgr,fun x y ex ey gb hx hy h1 h2=>hD.inj x y ex ey gb (hsub x ex hx) (hsub y ey hy) h1 h2⟩;by_cases e:x=q
  ·subst e;rw[upd_same,upd_same];rfl
  ·rw[upd_other e,upd_other e]
 exact⟨w',hrun,m,h.od m (zzC _) hD' (fun x es hx=>h.wp.ok.od x es (hsub x es hx)),hD'⟩
theorem forget_any {tg:Tags}{w:World}{g:WG}{lim:Nat}{vD:List ByteArray->Value}(h:WInv tg w s i p B objs g lim)(hD:OwnDV tg w i B g.ft.od lim vD){q:List ByteArray}(hq:Good q):
  Calls prog 139 #[.pointer (some ⟨B.bt,0,none⟩),.agg (pathA q)] w fun en w'=>en=.returned (.tuple #[])/\Moves (Mine i) tg tg w w'/\WInv tg w' s i p B objs { g with ft:=forgetF g.ft q } lim/\OwnDV tg w' i B (upd g.ft.od q none) lim vD:=by
 have hb0:=below_drew ((Below.refl w.heap.size w).alloc (zzC _) (.cells (pathA q) 147));have hW0:=h.below hb0;have hD0:=hD.moves (Moves.of_below (P:=fun _=>False) hb0) (fun x=>x);obtain⟨w1,hrun1,m1,hg1,hs1,hoF,hW1⟩:=drop_files hW0 hq 0;have hD1:OwnDV tg w1 i B g.ft.od lim vD:=hD0.moves m1 (fun e=>by cases e);obtain⟨w2,hrun2,m2,hW2,hD2⟩:=drop_dirs (hW1.below (below_drew (Below.refl _ _))) (hD1.moves (Moves.of_below (P:=fun _=>False) (below_drew (Below.refl _ _))) (fun x=>x)) hq 0;obtain⟨ht,c8,c7,_,_⟩:=h.wp.tree.cells;obtain⟨ht1,c81,_,_,_⟩:=hW1.wp.tree.cells;have hne:w.heap.size≠B.oF:=by
  obtain⟨_,⟨n,_,hm⟩,_⟩:=h.wp.ownF
  have:=hm.lt;omega
 have k1:∀o,w1.cell? ⟨w.heap.size,o,none⟩=((w.alloc (.cells (pathA q) 147)).drew).cell? ⟨w.heap.size,o,none⟩:=out_cell (c:=w.heap.size) hg1 (by simp[World.drew]) hne;have HR:Hid (Moves (Mine i) tg tg w w2/\WInv tg w2 s i p B objs { g with ft:=forgetF g.ft q } lim/\OwnDV tg w2 i B (upd g.ft.od q none) lim vD):=⟨(Moves.of_below hb0).trans ((m1.mono (fun t ht=>(Or.inr (by rw[ht]):Mine i t))).trans ((Moves.of_below (below_drew (Below.refl _ _))).trans (m2.mono (fun t ht=>(Or.inr (by rw[ht]):Mine i t))))),hW2,hD2⟩;obtain⟨s0,s1,s2,s3,s4,hP⟩:∃s0 s1 s2 s3 s4,pathA q = #[.string s0,.string s1,.string s2,.string s3,.string s4]:=⟨_,_,_,_,_,rfl⟩;rw[hP] at hrun1 hrun2 k1 hb0 ⊢;clear h hD hW0 hD0 hW1 hD1 hW2 hD2 m1 m2 hb0 hg1;go_enter func139,ntmps139;go_wp2
 go_region
 all_goals
  go_wp2
  go_region
  all_goals
   go_wp2;exact bodyPost_end (v:=.tuple #[]) (by simp[results,results139,go_sem]) rfl ⟨rfl,HR.out⟩
theorem own_swap {tg:Tags}{w W6 W:World}{g:WG}{lim:Nat}{vD:List ByteArray->Value}(h:WInv tg w s i p B objs g lim)(hD:OwnDV tg w i B g.ft.od lim vD)(hl:lim<maxLen){q:List ByteArray}{es es':List Ent}(ho:g.ft.od q=some es)(hg:w.grownBy W6 (vD q).ownBlock){v6:Value}
  (hrow:W6.ownsRow 0 96 3 v6 es'.length (flat es'))(hloc:v6.ownBlock=(vD q).ownBlock\/∀gb,v6.ownBlock=some gb->w.heap.size<=gb)(hE:Ents objs es')(hb:Below W6.heap.size W6 W):
  ∃w7 tg7,(Instr.mapUpdate 162 (.map (some B.oD)) (.agg (pathA q)) v6).run prog W=.ok () w7/\Moves (Mine i) tg tg7 w w7/\
   WInv tg7 w7 s i p B objs { g with ft:={ g.ft with od:=upd g.ft.od q (some es') } } (lim+1)/\OwnDV tg7 w7 i B (upd g.ft.od q (some es')) (lim+1) (upd vD q v6):=by
 have hi:=h.two;have hq:=(hD.good q es ho).1;have hrq:=hD.row q es ho;obtain⟨n,hn,hm⟩:=hD.map;obtain⟨e0,ck,hmap⟩:=hm.isMap;have hnoD:some B.oD≠(vD q).ownBlock:=owns_ne_map hrq.1 hmap;have hm6:W6.heap[B.oD]? = w.heap[B.oD]?:=hg.block _ hm.lt hnoD;have hW:W.heap[B.oD]? = w.heap[B.oD]?:=(hb.block _ (zzA hm.lt hg.size)).trans hm6;obtain⟨w7,hrun,hm7,hg7,hs7⟩:=(hm.keep hW).store hq (Nat.lt_of_le_of_lt hn hl) underlying162 v6;have hmapW:W.heap[B.oD]? = some (.map e0 ck):=hW.trans hmap;have tagk:∀k,(tg k).1≠0->tagOf tg v6 (i,5) k=tg k:=fun k hk=>by
  by_cases e:v6.ownBlock=some k
  ·rw[tagOf_same e]
   rcases hloc with h1 | h1
   ·exact (hrq.2 k (h1 ▸ e)).symm
   ·rw[h.st.fresh k (h1 k e)] at hk;exact absurd rfl hk
  ·exact tagOf_other e _
 have tagl:∀k,k<w.heap.size->tagOf tg v6 (i,5) k=tg k:=fun k hk=>by
  by_cases e:v6.ownBlock=some k
  ·rw[tagOf_same e]
   rcases hloc with h1 | h1
   ·exact (hrq.2 k (h1 ▸ e)).symm
   ·have:=h1 k e;omega
  ·exact tagOf_other e _
 have hf7:Fresh (tagOf tg v6 (i,5)) w7:=fun k hk=>by
  have h6:W6.heap.size<=k:=zzG hb.size (by omega);rw[tagOf_other (fun e=>by have:=ownsRow_lt hrow e;omega)];exact h.st.fresh k (zzG hg.size h6)
 have m:Moves (fun t=>t=(i,5)) tg (tagOf tg v6 (i,5)) w w7:=by
  refine⟨hg7.os.trans (hb.os.trans hg.os),hg7.tape.trans (hb.tape.trans hg.tape),hg7.output.trans (hb.output.trans hg.output),zzG hg.size (zzG hb.size hg7.size),tagl,fun k hk hn=>?_,fun _=>hf7⟩;have k6:k<W6.heap.size:=zzA hk hg.size;rw[hg7.block k (zzA k6 hb.size) (fun e=>hn (by cases e;exact hD.tag)),hb.block k k6,hg.block k hk (fun e=>hn (hrq.2 k e.symm))]
 have hD7:OwnDV (tagOf tg v6 (i,5)) w7 i B (upd g.ft.od q (some es')) (lim+1) (upd vD q v6):=by
  have hrow7:RowT (tagOf tg v6 (i,5)) w7 (i,5) v6 es':=by
   refine⟨ownsRow_keep hrow (fun g' hg'=>?_),fun gb hgb=>tagOf_same hgb _⟩;have hl6:=ownsRow_lt hrow hg';rw[hg7.block g' (zzA hl6 hb.size) (fun e=>?_),hb.block g' hl6];have e':g'=B.oD:=by injection e
   rw[e'] at hg';exact owns_ne_map hrow (hm6.trans hmap) hg'.symm
  refine⟨(tagl _ hm.lt).trans hD.tag,⟨n+1,by omega,hm7.congr (fun x hx=>?_)⟩,fun x fs hx=>?_,fun x fs hx=>?_,fun x y fs fs' gb hx hy h1 h2=>?_⟩
  ·by_cases e:x=q
   ·subst e;rw[upd_same,upd_same,upd_same];rfl
   ·rw[upd_other e,upd_other e,upd_other e]
  ·by_cases e:x=q
   ·subst e
    rw[upd_same] at hx;cases hx;exact⟨hq,hE.rising,hE.len,fun e he=>⟨(hE.ok e he).1,(hE.ok e he).2.1⟩⟩
   ·rw[upd_other e] at hx;exact hD.good x fs hx
  ·by_cases e:x=q
   ·subst e
    rw[upd_same] at hx ⊢;cases hx;exact hrow7
   ·rw[upd_other e] at hx ⊢
    have hr:=hD.row x fs hx;refine hr.keep (fun g' hg' hl'=>⟨?_,tagl g' hl'⟩);have k6:g'<W6.heap.size:=zzA hl' hg.size;rw[hg7.block g' (zzA k6 hb.size) (fun e2=>?_),hb.block g' k6,hg.block g' hl' (fun e2=>?_)]
    ·exact e (hD.inj x q fs es g' hx ho hg' e2.symm)
    ·have e':g'=B.oD:=by injection e2
     rw[e'] at hg';exact owns_ne_map hr.1 hmap hg'.symm
  ·have apart:∀z fz,z≠q->g.ft.od z=some fz->(vD z).ownBlock=some gb->v6.ownBlock=some gb->False:=fun z fz hz hoz hbz hb6=>by
    rcases hloc with h3 | h3
    ·exact hz (hD.inj z q fz es gb hoz ho hbz (h3 ▸ hb6))
    ·have hlz:=ownsRow_lt (hD.row z fz hoz).1 hbz
     have:=h3 gb hb6
     omega
   by_cases e:x=q
   ·by_cases e':y=q
    ·rw[e,e']
    ·subst e
     rw[upd_same] at h1;rw[upd_other e'] at hy h2;exact (apart y fs' e' hy h2 h1).elim
   ·by_cases e':y=q
    ·subst e'
     rw[upd_same] at h2;rw[upd_other e] at hx h1;exact (apart x fs e hx h1 h2).elim
    ·rw[upd_other e] at hx h1
     rw[upd_other e'] at hy h2;exact hD.inj x y fs fs' gb hx hy h1 h2
 refine⟨w7,tagOf tg v6 (i,5),hrun,m.mono (fun t ht=>(Or.inr (by rw[ht]):Mine i t)),h.od m (Nat.le_succ _) hD7 (fun x fs hx=>?_),hD7⟩;by_cases e:x=q
 ·subst e
  rw[upd_same] at hx;cases hx;exact fun e he=>(hE.ok e he).2
 ·rw[upd_other e] at hx
  exact h.wp.ok.od x fs hx
end
theorem del_any {w:World}{gb n c k:Nat}{es:List Ent}(hrow:w.ownsRow 0 96 3 (.slice (some ⟨gb,0,none⟩) n c) n (flat es))(hn:es.length=n)(hk:k<n):
  Calls prog 194 #[.slice (some ⟨gb,0,none⟩) n c,.int .i64 (k:Int),.int .i64 ((k:Int)+1)] w fun e w'=>e=.returned (.slice (some ⟨gb,0,none⟩) (n-1) c)/\
   w'.ownsRow 0 96 3 (.slice (some ⟨gb,0,none⟩) (n-1) c) (n-1) (flat (es.eraseIdx k))/\w.grownBy w' (some gb)/\w'.heap.size=w.heap.size:=by
 rcases hrow.2 with ⟨e,_⟩ | ⟨g',c',cur,e,_,hg,hnc,hcm,hcs,ht⟩
 ·cases e
 ·cases e
  refine (del_walk gb n c k es cur w hg hn hk hnc hcm hcs ht).mono ?_;rintro e w' ⟨rfl,cur',hg',hs',ht',hgr,hsz⟩;refine⟨rfl,⟨?_,.inr ⟨gb,c,cur',rfl,zzF _,hg',by omega,hcm,hs',ht'⟩⟩,hgr,hsz⟩;rw[flat_len,List.length_eraseIdx_of_lt (by omega),hn]
theorem alloc_size {w w1:World}{o1:Obj}(h:Below (w.alloc o1).heap.size (w.alloc o1) w1):w.heap.size<w1.heap.size:=by
 have h2:=h.size;rw[World.size_alloc] at h2;omega
theorem lt_alloc {w:World}{a:Nat}(h:a<w.heap.size)(o:Obj):a<(w.alloc o).heap.size:=by rw[World.size_alloc];omega
theorem self_alloc (w:World)(o:Obj):w.heap.size<(w.alloc o).heap.size:=by rw[World.size_alloc];omega
theorem tag_ne {tg:Tags}{a b:Nat}{t t':Nat×Nat}(h1:tg a=t)(h2:tg b=t')(hne:t≠t'):a≠b:=fun e=>hne (h1.symm.trans (e ▸ h2))
theorem ne15 (i:Nat):((i,1):Nat×Nat)≠(i,5):=fun h=>by cases h
theorem ne05 (i:Nat):((0,0):Nat×Nat)≠(i,5):=fun h=>by cases h
theorem own_same {v:Value}{gb n c:Nat}(h:v=.slice (some ⟨gb,0,none⟩) n c)(n' c':Nat):(Value.slice (some ⟨gb,0,none⟩) n' c').ownBlock=v.ownBlock:=by subst h;rfl
theorem own_grown {v:Value}{w w':World}{gb n c:Nat}(h:v=.slice (some ⟨gb,0,none⟩) n c)(hg:w.grownBy w' (some gb)):w.grownBy w' v.ownBlock:=by subst h;exact hg
theorem ents_drop {objs:List Ob}{es:List Ent}(h:Ents objs es)(n:ByteArray):Ents objs (dropK es n):=
 ⟨by unfold dropK;exact List.Pairwise.sublist (List.eraseIdx_sublist _ _) h.rising,by unfold dropK;exact zzG (List.length_eraseIdx_le _ _) h.len,fun e he=>h.ok e (dropK_mem he)⟩
section
variable {s i p:Nat}{B:WB}{objs:List Ob}
theorem take_end {tg:Tags}{w w6:World}{g:WG}{lim:Nat}{vD:List ByteArray->Value}{q:List ByteArray}{es:List Ent}{nm:ByteArray}{gb n c ix:Nat}(h:WInv tg w s i p B objs g lim)(hD:OwnDV tg w i B g.ft.od lim vD)(hl:lim<maxLen)(ho:g.ft.od q=some es)(hgb:vD q=.slice (some ⟨gb,0,none⟩) n c)(hth:thereK es nm=true)(hix:idxK es nm=ix)(hE:Ents objs es)
  (hrow:w6.ownsRow 0 96 3 (.slice (some ⟨gb,0,none⟩) (es.length-1) c) (es.length-1) (flat (es.eraseIdx ix)))(hg:w.grownBy w6 (some gb)):
  ∃w7 tg7,(Instr.mapUpdate 162 (.map (some B.oD)) (.agg (pathA q)) (.slice (some ⟨gb,0,none⟩) (es.length-1) c)).run prog w6=.ok () w7/\Moves (Mine i) tg tg7 w w7/\
   WInv tg7 w7 s i p B objs { g with ft:={ g.ft with od:=upd g.ft.od q (some (dropK es nm)) } } (lim+1)/\OwnDV tg7 w7 i B (upd g.ft.od q (some (dropK es nm))) (lim+1) (upd vD q (.slice (some ⟨gb,0,none⟩) (es.length-1) c)):=by
 refine own_swap h hD hl ho (own_grown hgb hg) ?_ (.inl (own_same hgb _ _)) (ents_drop hE nm) (Below.refl _ _);rw[dropK_length hth];unfold dropK;rw[hix];exact hrow
theorem take_any {tg:Tags}{w:World}{g:WG}{lim:Nat}{K:List ByteArray->List Ent}{vD:List ByteArray->Value}(h:WInv tg w s i p B objs g lim)(hD:OwnDV tg w i B g.ft.od lim vD)(hl:lim+300<1099511627776){q:List ByteArray}{n:ByteArray}(hp:Good (q ++ [n]))(hway:OwnWay objs g.fs g.ft K q)(hE:Ents objs (K q))(hth:thereK (K q) n=true):
  Calls prog 138 #[.pointer (some ⟨B.bt,0,none⟩),.agg (pathA (q ++ [n]))] w fun en w'=>en=.returned (.tuple #[])/\∃tg' vD',Moves (Mine i) tg tg' w w'/\
   WInv tg' w' s i p B objs { g with ft:=takeF objs g.fs g.ft q n } (lim+150)/\OwnDV tg' w' i B (takeF objs g.fs g.ft q n).od (lim+150) vD':=by
 have hq:Good q:=by have:=hp.dropLast;rwa [List.dropLast_concat] at this
 have hq4:q.length<=4:=by have:=hp.len;simp at this;omega
 obtain⟨m1,m2,m3,m4⟩:=claim_at hway;have htk:takeF objs g.fs g.ft q n = { claimF objs g.fs g.ft q.reverse with od:=upd (claimF objs g.fs g.ft q.reverse).od q (some (dropK (K q) n)) }:=by
  unfold takeF;simp only[m3,Option.getD_some]
 rw[htk];have hcl:=fun W (hb:Below w.heap.size w W)=>claim_all (s:=s) (i:=i) (p:=p) (B:=B) (objs:=objs) q.reverse tg W g lim K vD (h.below hb) (hD.moves (Moves.of_below (P:=fun _=>False) hb) (fun x=>x)) (by rw[List.length_reverse];omega) (by rw[List.reverse_reverse];exact hq) (by rw[List.reverse_reverse];exact hway)
 rw[List.reverse_reverse,List.length_reverse] at hcl;have hpar:=fun W=>parent_any (q ++ [n]) hp W
 have hname:=fun W=>name_any (q ++ [n]) hp (by simp) W;rw[List.dropLast_concat] at hpar;simp only[List.getLast_concat] at hname;obtain⟨s0,s1,s2,s3,s4,hP⟩:∃s0 s1 s2 s3 s4,pathA (q ++ [n]) = #[.string s0,.string s1,.string s2,.string s3,.string s4]:=⟨_,_,_,_,_,rfl⟩;obtain⟨r0,r1,r2,r3,r4,hP'⟩:∃s0 s1 s2 s3 s4,pathA q = #[.string s0,.string s1,.string s2,.string s3,.string s4]:=⟨_,_,_,_,_,rfl⟩;unfold pathV at hpar hname;simp only[hP,hP'] at hpar hname hcl;rw[hP];obtain⟨hix,hnm⟩:=there_at hth;have h16:=hE.len;have hi:=h.two;have hlm:lim+20*(q.length+1)<maxLen:=by unfold maxLen;omega
 generalize hixe:idxK (K q) n=ix at hix;have HIX:Hid (idxK (K q) n=ix):=hixe;have HP':Hid _:=hP';have H0:Hid _:=h;have HCL:Hid _:=hcl;have HOD:Hid _:=m3;have HE:Hid _:=hE;have HTH:Hid _:=hth;have hfr0:=h.st.fresh;have HFR:Hid _:=hfr0;clear hixe h hD hcl m1 m2 m3 m4 hE hth hP hP' hway htk hnm hfr0;go_enter func138,ntmps138;go_wp2_with (first
  | (go_at_call 132;refine (hpar _).mono ?_;rintro e w1 ⟨rfl,hb1⟩;have hz1:=alloc_size hb1;have k1:=fun o=>(bcell hb1).1 w.heap.size o (by simp);have b1:=below_via ((Below.refl w.heap.size w).alloc (zzC _) _) hb1)
  | (go_at_call 192;go_loud (refine (HCL.out _ (b1.alloc b1.size _)).mono ?_;rintro e w3 ⟨v3,rfl,tg3,vD3,mv3,hW3,hD3,hv3,hq3⟩;have kb0:=kept_cell (b:=w.heap.size) hi mv3 (lt_alloc hz1 _) (HFR.out _ (zzC _));have kb1:=kept_cell (b:=w1.heap.size) hi mv3 (self_alloc _ _) (HFR.out _ (Nat.le_of_lt hz1));have tz1:tg3 w1.heap.size=(0,0):=(mv3.tags _ (self_alloc _ _)).trans (HFR.out _ (Nat.le_of_lt hz1));have hsz3:w1.heap.size<w3.heap.size:=zzA (self_alloc _ _) mv3.size;have hr8:=hD3.row _ _ HOD.out;obtain⟨gb,cc,hgb⟩:=slice_of_owns hr8.1 (by omega);rw[hgb] at hv3 hr8;subst hv3;have hgl:gb<w3.heap.size:=ownsRow_lt hr8.1 rfl;obtain⟨ht3,c83,_,_,_⟩:=hW3.wp.tree.cells;have hnb:=tag_ne hW3.wp.tree.tt (hr8.2 gb rfl) (ne15 i);have hnp:=tag_ne tz1 (hr8.2 gb rfl) (ne05 i);have HW3:Hid _:=hW3;have HM3:Hid _:=mv3;have HD3:Hid _:=hD3;have HR8:Hid _:=hr8;have HG8:Hid _:=hgb;have HQ3:Hid _:=hq3;clear hW3 mv3 hD3 hr8 hgb hq3))
  | (go_at_call 134;refine (hname _).mono ?_;rintro e w4 ⟨rfl,hb4⟩;have hz4:w1.heap.size<w4.heap.size:=zzA hsz3 hb4.size;have k4:∀o,w4.cell? ⟨w1.heap.size,o,none⟩=w3.cell? ⟨w1.heap.size,o,none⟩:=fun o=>(bcell hb4).1 _ o hsz3;have d4:w4.cell? ⟨B.bt,8,none⟩=w3.cell? ⟨B.bt,8,none⟩:=(bcell hb4).1 _ _ ht3)
  | (go_at_call 133;go_loud (refine (search_any (ownsRow_keep HR8.out.1 (fun g' hg'=>hb4.block g' (ownsRow_lt HR8.out.1 hg'))) n HE.out.rising HE.out.len).mono ?_;rintro e w5 ⟨rfl,hb5⟩;rw[HIX.out,HTH.out];have b35:=below_via hb4 hb5;have k5:∀o,w5.cell? ⟨w1.heap.size,o,none⟩=w4.cell? ⟨w1.heap.size,o,none⟩:=fun o=>(bcell hb5).1 _ o hz4;have d5:w5.cell? ⟨B.bt,8,none⟩=w3.cell? ⟨B.bt,8,none⟩:=(bcell b35).1 _ _ ht3)))
 have hr5:w5.drew.ownsRow 0 96 3 (.slice (some ⟨gb,0,none⟩) (K q).length cc) (K q).length (flat (K q)):=ownsRow_keep HR8.out.1 (fun g' hg'=>(below_drew b35).block g' (ownsRow_lt HR8.out.1 hg'));have hdel:=del_any hr5 rfl hix;have HDEL:Hid _:=hdel;clear hdel hr5;have hwx:IntKind.i64.wrap ((ix:Int)+1)=(ix:Int)+1:=by rw[IntKind.wrap_i64];omega
 go_region_with (go_at_call 194;go_loud (refine Calls.mono HDEL.out ?_;rintro e w6 ⟨rfl,hrow6,hg6,hs6⟩;have k6:=fun o=>out_cell (c:=w1.heap.size) hg6 (zzA hz4 hb5.size) hnp o;have d6:=out_cell (c:=B.bt) hg6 (zzA ht3 b35.size) hnb 8;obtain⟨w7,tg7,hmu,m7,hW7,hD7⟩:=take_end (HW3.out.below (below_drew b35)) (HD3.out.moves (Moves.of_below (P:=fun _=>False) (below_drew b35)) (fun x=>x)) hlm HOD.out HG8.out HTH.out HIX.out HE.out hrow6 hg6;rw[HP'.out] at hmu;have HM7:Hid _:=m7;have HW7:Hid _:=hW7;have HD7:Hid _:=hD7;clear m7 hW7 hD7 hrow6 hg6))
 all_goals
  go_wp2;exact bodyPost_end (v:=.tuple #[]) (by simp[results,results138,go_sem]) rfl ⟨rfl,tg7,_,((call_moves (b1.alloc b1.size _) HM3.out).trans ((Moves.of_below (below_drew b35)).trans HM7.out)),HW7.out.mono (by omega),HD7.out.mono (by omega)⟩
end
end Go.Proofs.YtlgidcmmgohagaaGreat
