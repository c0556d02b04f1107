/-
  What is proved here: canopykeep's below and all answer all that stands in a tree, in order; the tree reads as it did. canopykeep's same answers true of two lists of the same things. several workspaces over one ..
-/
import Derived.Test.YtajopoddmfdejaaGreatToldM48
import Derived.Test.YtajopoddmfdejaaGreatToldM41
import Derived.Test.YtajopoddmfdejaaGreatToldM40
import Derived.Test.YtajopoddmfdejaaGreatToldM39
namespace Go.Proofs.YtajopoddmfdejaaGreat
open Go.RowKit Go.Sort Go.Shelf
set_option linter.unusedVariables false
set_option maxRecDepth 100000
set_option maxHeartbeats 16000000
section
variable {s i p:Nat}{B:WB}{objs:List Ob}
theorem tBound_le {n:Nat}(h:n<=5):tBound n<=1118480:=by
 have:n=0\/n=1\/n=2\/n=3\/n=4\/n=5:=by omega
 rcases this with rfl | rfl | rfl | rfl | rfl | rfl <;> decide
theorem below_all:∀ (nn:Nat) (q:List ByteArray) (tg0:Tags) (w0:World) (g0:WG) (t0 c0:LT) (lim R0:Nat),R0=7000000000*(nn+1)->QInv tg0 w0 s i p B objs g0 lim t0->lim+R0<1099511627776->g0.fs.brk=false->t0.at objs q=some c0->c0.kind=2->nn+q.length=5->
  Calls Tryz.prog 42 #[.pointer (some ⟨B.wb,0,none⟩),.string (joinB q),.int .i64 (q.length:Int)] w0 (BelRet s i p B objs tg0 w0 g0 t0 lim (thingsR objs (fcOf objs g0.fl) nn q c0)):=by
 intro nn
 induction nn with
 | zero=>
  intro q tg0 w0 g0 t0 c0 lim R0 hR0 hQ hlim hbr h0 hk2 hlen
  have hS:=hQ.inv.st.sound
  obtain⟨ks,hk0⟩:=kids_some (a:=objs) hk2
  obtain⟨hql,hok,hval⟩:=ok_at hS _ hQ.ok h0
  rw[show 5-q.length=0 by omega] at hok
  have hnil:ks = []:=by
   cases ks with
   | nil=>rfl
   | cons x r=>obtain⟨_,m,e,_⟩:=(ok_kids hS hok hk0).2.2 x (List.mem_cons_self ..);omega
  subst hnil
  have hq:q ≠ []:=fun e=>by rw[e] at hlen;simp at hlen
  have:=below_deep (R:=0) hQ (by omega) hbr hq h0 hk0 List.Pairwise.nil (by simp) ⟨hval,by omega⟩ (fun k hk=>absurd hk (Nat.not_lt_zero _)) 0 (by simp) (q.length:Int) (by omega) (by omega) (fun k hk=>absurd hk (Nat.not_lt_zero _))
  rw[thingsR]
  exact this
 | succ nn ih=>
  intro q tg0 w0 g0 t0 c0 lim R0 hR0 hQ hlim hbr h0 hk2 hlen
  have hS:=hQ.inv.st.sound
  obtain⟨ks,hk0⟩:=kids_some (a:=objs) hk2
  obtain⟨hql,hok,hval⟩:=ok_at hS _ hQ.ok h0
  rw[show 5-q.length=nn+1 by omega] at hok
  obtain⟨hr,h16,hkid⟩:=ok_kids hS hok hk0
  have hG:Good q:=⟨hval,by omega⟩
  have hGk:∀ k (hk:k<ks.length),Good (q ++ [(ks[k]).1]):=fun k hk=>⟨hval.append (fun x hx=>by
   rw[List.mem_singleton.1 hx];exact (hkid _ (List.getElem_mem hk)).1),by rw[List.length_append];simp;omega⟩
  have htot:=things_bound (fc:=fcOf objs g0.fl) hS (nn+1) q c0 hok
  have htb:=tBound_le (n:=nn+1) (by omega)
  rw[things_succ hk0] at htot ⊢
  obtain⟨R,hR⟩:∃ R,R=R0-7000000000:=⟨_,rfl⟩
  have hR':R=7000000000*(nn+1):=by omega
  have hlR:lim+7000000000+R<1099511627776:=by omega
  have hrec:∀ k (hk:k<ks.length),(ks[k]).2.kind=2->∀ tg w g t l,QInv tg w s i p B objs g l t->Alike objs g0 t0 g t->l+R<1099511627776->Calls Tryz.prog 42 #[.pointer (some ⟨B.wb,0,none⟩),.string (joinB (q ++ [(ks[k]).1])),.int .i64 ((q.length:Int)+1)] w (BelRet s i p B objs tg w g t l (thingsR objs (fcOf objs g0.fl) nn (q ++ [(ks[k]).1]) (ks[k]).2)):=by
   intro k hk hkd tg w g t l hq hA hl
   obtain⟨c,hc,hnd,hki,hsem⟩:=bel_kid hq hA h0 hk0 hr hk
   have:=ih (q ++ [(ks[k]).1]) tg w g t c l R hR' hq hl hA.brk hc (by rw[hki];exact hkd) (by rw[List.length_append];simp;omega)
   obtain⟨m1,e1,o1⟩:=(hkid _ (List.getElem_mem hk)).2
   have e1':m1=nn:=by omega
   subst e1'
   have hokc:=(ok_at hS _ hq.ok hc).2.1
   rw[show 5-(q ++ [(ks[k]).1]).length=m1 by rw[List.length_append];simp;omega] at hokc
   rw[things_sem hS hS m1 (q ++ [(ks[k]).1]) c (ks[k]).2 hokc o1 hsem] at this
   rw[show ((q ++ [(ks[k]).1]).length:Int)=(q.length:Int)+1 by rw[List.length_append];simp] at this
   exact this
  by_cases hq:q = []
  ·exact below_root (R:=R) hQ hlR hbr hq h0 hk0 hr h16 hG hGk nn (by omega) (q.length:Int) (by omega) (by omega) hrec
  ·exact below_deep (R:=R) hQ hlR hbr hq h0 hk0 hr h16 hG hGk nn (by omega) (q.length:Int) (by omega) (by omega) hrec
theorem all_walk (wb:Nat)(w:World)(X:Value->World->Prop)(hc:Calls Tryz.prog 42 #[.pointer (some ⟨wb,0,none⟩),.string ⟨#[]⟩,.int .i64 0] w fun e w'=>∃ v,e=.returned (.tuple #[v,.bool true])/\X v w'):
  Calls Tryz.prog 13 #[.pointer (some ⟨wb,0,none⟩)] w fun e w'=>∃ v,e=.returned (.tuple #[v,.bool true])/\X v w':=by
 go_enter Tryz.func13,Tryz.ntmps13
 go_wp2_with fail
 refine Calls.mono hc ?_
 rintro e w1 ⟨v,rfl,hX⟩
 have HX:Hid _:=hX
 clear hX hc
 go_wp2
 go_ret2
 exact⟨v,rfl,HX.out⟩
theorem all_any {tg0:Tags}{w0:World}{g0:WG}{t0:LT}{lim:Nat}(hQ:QInv tg0 w0 s i p B objs g0 lim t0)(hlim:lim+42000000000<1099511627776)(hbr:g0.fs.brk=false)(hk:t0.kind=2):
  Calls Tryz.prog 13 #[.pointer (some ⟨B.wb,0,none⟩)] w0 (BelRet s i p B objs tg0 w0 g0 t0 lim (thingsR objs (fcOf objs g0.fl) 5 [] t0)):=by
 have h:=below_all 5 [] tg0 w0 g0 t0 t0 lim 42000000000 (by decide) hQ hlim hbr (at_nil _ _) hk rfl
 exact all_walk B.wb w0 _ h
end
theorem flatT_at:∀ (L:List Thing8) (k:Nat) (hk:k<L.length),(flatT L)[k*3]? = some (.string (L[k]).1)/\(flatT L)[k*3+1]? = some (.int .i64 (L[k]).2.1)/\(flatT L)[k*3+2]? = some (.string (L[k]).2.2)
 | [],k,hk=>absurd hk (Nat.not_lt_zero _)
 | x :: L,0,_=>⟨rfl,rfl,rfl⟩
 | x :: L,k+1,hk=>by
  obtain⟨h0,h1,h2⟩:=flatT_at L k (by simpa using hk)
  have e:flatT (x :: L)=encT x++flatT L:=rfl
  have hl:(encT x).length=3:=rfl
  rw[e,List.getElem_cons_succ]
  rw[List.getElem?_append_right (by omega),List.getElem?_append_right (by omega),List.getElem?_append_right (by omega),hl]
  rw[show (k+1)*3-3=k*3 by omega,show (k+1)*3+1-3=k*3+1 by omega,show (k+1)*3+2-3=k*3+2 by omega]
  exact⟨h0,h1,h2⟩
theorem rowT_cells {w:World}{base:Nat}{v:Value}{n:Nat}{L:List Thing8}(h:w.ownsRow base 40 3 v n (flatT L))(hn:n=L.length){k:Nat}(hk:k<L.length):∃ g c,v=.slice (some ⟨g,0,none⟩) n c/\g<w.heap.size/\w.cell? ⟨g,k*3,none⟩=some (.string (L[k]).1)/\w.cell? ⟨g,k*3+1,none⟩=some (.int .i64 (L[k]).2.1)/\w.cell? ⟨g,k*3+2,none⟩=some (.string (L[k]).2.2):=by
 obtain⟨g,c,rfl⟩:=slice_of_owns h (by omega)
 obtain⟨h0,h1,h2⟩:=flatT_at L k hk
 have hc:=World.ownsRow.cells h (g:=g) rfl
 refine⟨g,c,rfl,ownsRow_lt h rfl,?_,?_,?_⟩
 ·have:=hc _ _ h0;rwa [add_plain,Nat.zero_add] at this
 ·have:=hc _ _ h1;rwa [add_plain,Nat.zero_add] at this
 ·have:=hc _ _ h2;rwa [add_plain,Nat.zero_add] at this
theorem rowT_below {base:Nat}{W W1:World}{e:TypeId}{size n:Nat}{v:Value}{xs:List Value}(h:W.ownsRow base e size v n xs)(hb:Below W.heap.size W W1):W1.ownsRow base e size v n xs:=ownsRow_keep h (fun g hg=>hb.block g (ownsRow_lt h hg))
theorem rowT_shape {w:World}{base:Nat}{v:Value}{n:Nat}{xs:List Value}(h:w.ownsRow base 40 3 v n xs):∃ a c,v=.slice a n c:=by
 rcases h.2 with ⟨rfl,h0⟩ | ⟨g,c,cur,rfl,_⟩
 ·exact⟨none,0,by rw[h0]⟩
 ·exact⟨_,c,rfl⟩
abbrev Slot:=Nat×WB×WG×LT
structure WsAt (tg:Tags)(w:World)(p:Nat)(objs:List Ob)(lim:Nat)(x:Slot):Prop where
 two:2<=x.1
 wp:WPart tg w x.1 p x.2.1 objs x.2.2.1 lim
 flat:Flat objs x.2.2.2 x.2.2.1.ft
 ok:LTok objs 5 x.2.2.2
 fl:FlOk objs x.2.2.1.fl
 op:∀ k,x.2.2.1.op k=none
 inj:HeldInj objs x.2.2.2
def RowsT (tg:Tags)(w:World)(rows:List (Value×List Thing8)):Prop:=∀ r ∈ rows,w.ownsRow 0 40 3 r.1 r.2.length (flatT r.2)/\∀ b,r.1.ownBlock=some b->tg b=(0,0)
def setGot (g:WG)(got:List Int):WG:={ g with fs:={ g.fs with got:=got,brk:=false } }
def Many (W wr:World)(s p:Nat)(objs:List Ob)(lim:Nat)(ws:List Slot)(rows:List (Value×List Thing8)):Prop:=
 ∃ tg got,Old W wr tg/\SInv tg wr s p objs got false lim/\(∀ x ∈ ws,WsAt tg wr p objs lim x)/\(ws.map (·.1)).Nodup/\RowsT tg wr rows
theorem RowsT.any {P:Nat×Nat->Prop}{tg tg':Tags}{w w':World}{rows:List (Value×List Thing8)}(h:RowsT tg w rows)(hP:¬ P (0,0))(m:Moves P tg tg' w w'):RowsT tg' w' rows:=by
 intro r hr
 obtain⟨h1,h2⟩:=h r hr
 have hk:∀ b,r.1.ownBlock=some b->w'.heap[b]? = w.heap[b]?/\tg' b=(0,0):=fun b hb=>by
  have hlt:=ownsRow_lt h1 hb
  exact⟨m.block b hlt (by rw[h2 b hb];exact hP),(m.tags b hlt).trans (h2 b hb)⟩
 exact⟨ownsRow_keep h1 (fun g hg=>(hk g hg).1),fun b hb=>(hk b hb).2⟩
theorem WsAt.moves {P:Nat×Nat->Prop}{tg tg':Tags}{w w':World}{p:Nat}{objs:List Ob}{lim:Nat}{x:Slot}(h:WsAt tg w p objs lim x)(m:Moves P tg tg' w w')(hn:∀ k,¬ P (x.1,k)):WsAt tg' w' p objs lim x:=⟨h.two,h.wp.moves m hn,h.flat,h.ok,h.fl,h.op,h.inj⟩
section
variable {W wr:World}{s p:Nat}{objs:List Ob}{lim:Nat}{ws:List Slot}{rows:List (Value×List Thing8)}
theorem Many.perm {ws':List Slot}(h:Many W wr s p objs lim ws rows)(hp:ws.Perm ws'):Many W wr s p objs lim ws' rows:=by
 obtain⟨tg,got,hO,hS,hw,hn,hr⟩:=h
 exact⟨tg,got,hO,hS,fun x hx=>hw x (hp.mem_iff.2 hx),(hp.map _).nodup_iff.1 hn,hr⟩
theorem Many.old (h:Many W wr s p objs lim ws rows):Below W.heap.size W wr:=by
 obtain⟨tg,got,hO,_⟩:=h
 exact hO.1
theorem Many.below {w':World}(h:Many W wr s p objs lim ws rows)(hb:Below wr.heap.size wr w'):Many W w' s p objs lim ws rows:=by
 obtain⟨tg,got,hO,hS,hw,hn,hr⟩:=h
 have m:Moves (fun _=>False) tg tg wr w':=Moves.of_below hb
 exact⟨tg,got,hO.any (fun h=>h) m,hS.moves m (fun h=>h) (fun h=>h),fun x hx=>(hw x hx).moves m (fun _ h=>h),hn,hr.any (fun h=>h) m⟩
theorem Many.row (h:Many W wr s p objs lim ws rows){r:Value×List Thing8}(hr:r ∈ rows):wr.ownsRow 0 40 3 r.1 r.2.length (flatT r.2):=by
 obtain⟨tg,got,hO,hS,hw,hn,hR⟩:=h
 exact (hR r hr).1
theorem Many.sound (h:Many W wr s p objs lim ws rows):Sound objs:=by
 obtain⟨tg,got,hO,hS,_⟩:=h
 exact hS.sound
theorem Many.head {i:Nat}{B:WB}{g:WG}{t:LT}(h:Many W wr s p objs lim ((i,B,g,t) :: ws) rows):∃ tg got,QInv tg wr s i p B objs (setGot g got) lim t/\HeldInj objs t/\
  ∀ {tg':Tags} {w':World} {g':WG} {t':LT} {lim':Nat},lim<=lim'->Moves (Mine i) tg tg' wr w'->QInv tg' w' s i p B objs g' lim' t'->g'.fs.brk=false->HeldInj objs t'->Many W w' s p objs lim' ((i,B,g',t') :: ws) rows/\∀ v L,ThRow tg' w' wr.heap.size v L.length L->Many W w' s p objs lim' ((i,B,g',t') :: ws) ((v,L) :: rows):=by
 obtain⟨tg,got,hO,hS,hw,hn,hr⟩:=h
 have hx:=hw _ (List.mem_cons_self ..)
 have h2:2<=i:=hx.two
 refine⟨tg,got,⟨⟨hx.two,hS,?_⟩,hx.flat,hx.ok,hx.fl,hx.op⟩,hx.inj,fun {tg' w' g' t' lim'} hl m hQ hb hi=>?_⟩
 ·exact⟨hx.wp.tree,hx.wp.keptF,hx.wp.keptD,hx.wp.ownF,hx.wp.ownD,hx.wp.files,hx.wp.held,hx.wp.opens,hx.wp.ok⟩
 ·have hS':=hQ.inv.st
  rw[hb] at hS'
  have h0:=mine0 h2
  rw[List.map_cons,List.nodup_cons] at hn
  have hws:∀ x ∈ ((i,B,g',t') :: ws:List Slot),WsAt tg' w' p objs lim' x:=fun x hxx=>by
   rcases List.mem_cons.1 hxx with rfl | hxx
   ·exact⟨h2,hQ.inv.wp,hQ.flat,hQ.ok,hQ.fl,hQ.op,hi⟩
   ·have hx1:=hw x (List.mem_cons_of_mem _ hxx)
    have hne:x.1≠i:=fun e=>hn.1 (List.mem_map.2 ⟨x,hxx,e⟩)
    have hm:=hx1.moves m (fun k hk=>by
     rcases hk with hk | hk
     ·have:=hx1.two
      simp only at hk
      omega
     ·exact hne hk)
    exact⟨hm.two,hm.wp.mono hl,hm.flat,hm.ok,hm.fl,hm.op,hm.inj⟩
  have hnd:(((i,B,g',t') :: ws:List Slot).map (·.1)).Nodup:=by
   rw[List.map_cons,List.nodup_cons];exact hn
  refine⟨⟨tg',_,hO.any h0 m,hS',hws,hnd,hr.any h0 m⟩,fun v L hv=>⟨tg',_,hO.any h0 m,hS',hws,hnd,fun r hrr=>?_⟩⟩
  rcases List.mem_cons.1 hrr with rfl | hrr
  ·exact⟨row_base0 hv.1,hv.2.2⟩
  ·exact hr.any h0 m r hrr
theorem many_work (h:Many W wr s p objs lim ws rows){i:Nat}(hi:2<=i)(hn:∀ x ∈ ws,x.1≠i){id:Int}(hok:LTok objs 5 (.dir id)):
  Calls Tryz.prog 12 #[.pointer (some ⟨s,0,none⟩),.int .i64 id] wr fun e w'=>∃ (B:WB) (g:WG),e=.returned (.tuple #[.pointer (some ⟨B.wb,0,none⟩),.bool true])/\g.fl=(fun _=>none)/\g.base=id/\Many W w' s p objs lim ((i,B,g,.dir id) :: ws) rows:=by
 obtain⟨tg,got,hO,hS,hw,hnd,hr⟩:=h
 refine (work_walk s id (fun wb w'=>∃ (B:WB) (g:WG),B.wb=wb/\g.fl=(fun _=>none)/\g.base=id/\Many W w' s p objs lim ((i,B,g,.dir id) :: ws) rows) wr ((qcheckout (i:=i) hS hi hok).mono ?_)).mono ?_
 ·rintro e w' ⟨B,he,tg',m,hQ⟩
  refine⟨B.wb,he,B,wg0 id got,rfl,rfl,rfl,tg',got,hO.any (fun h=>h) m,hQ.inv.st,fun x hx=>?_,?_,hr.any (fun h=>h) m⟩
  ·rcases List.mem_cons.1 hx with rfl | hx
   ·refine⟨hi,hQ.inv.wp,hQ.flat,hQ.ok,hQ.fl,hQ.op,fun x y b h1 h2=>?_⟩
    obtain⟨z,hz⟩:=hQ.held x b h1
    cases hz
   ·exact (hw x hx).moves m (fun _ h=>h)
  ·rw[List.map_cons,List.nodup_cons]
   exact⟨fun hm=>by obtain⟨x,hx,e⟩:=List.mem_map.1 hm;exact hn x hx e,hnd⟩
 ·rintro e w' ⟨wb,he,B,g,rfl,h1,h2,h3⟩
  exact⟨B,g,he,h1,h2,h3⟩
end
def Made2 (W w':World)(s p:Nat)(id:Int):Prop:=∃ tg objs got,Old W w' tg/\SInv tg w' s p objs got false 60000/\Exact objs/\Once objs/\LTok objs 5 (.dir id)/\objs.length<=100/\1<=id/\big objs 5 (.dir id)<=95
theorem m_commit2 {W wr:World}{s p:Nat}{B:WB}{objs:List Ob}{N lim:Nat}(h1:OneOb objs)(hN:N<=95)(hl:lim<=60000)(h:MSt W wr s p B objs N lim):
  Calls Tryz.prog 20 #[.pointer (some ⟨B.wb,0,none⟩)] wr fun e w'=>∃ id,e=.returned (.tuple #[.int .i64 id,.int .i64 0])/\1<=id/\Made2 W w' s p id:=by
 obtain⟨tg,g,t,fE,hO,hQ,hM,hbr,ks,rfl⟩:=h
 obtain⟨hwb,c0,_⟩:=hQ.ws
 have hX:=one_exact h1
 have hB:Base8 tg wr s 2 p B objs g lim (.own ks):=⟨hQ.inv,hQ.flat,hX,hQ.fl⟩
 have hcb:=cnt_big objs 5 (.own ks)
 have hfw:=hM.few
 have hlen:objs.length=1:=by obtain⟨o,_,_,_,rfl⟩:=h1;rfl
 have hob:=objR_ok g.fl 5 (Nat.le_refl _) (.own ks) objs hX hQ.ok hB.flSz
 have hol:=hob.len
 have hrd:=objR_reads g.fl (fun _=>⟨#[]⟩) 5 (Nat.le_refl _) (.own ks) objs hX hQ.ok hB.flSz
 refine (commit_ws B.wb B.bt _ _ wr hwb c0 (commit_any hB hQ.ok (by omega) (by omega))).mono ?_
 rintro e w' ⟨he,x',tg',hl',hsame,m,hS⟩
 have hk:kindOf x' (objR g.fl 5 (.own ks) objs).1=2:=by rw[hsame.kind];exact hob.kind
 have hid:=(kindOf_pos (by rw[hk];decide)).1
 have hX':Exact x':=hsame.exact (hob.dr.exact hX)
 have hok':LTok x' 5 (.dir (objR g.fl 5 (.own ks) objs).1):=by
  rw[LTok]
  exact⟨hk,by rw[hsame.high];exact hob.high⟩
 refine⟨_,he,hid,tg',x',g.fs.got,hO.any (by simp) m,by rw[hbr] at hS;exact hS.mono hl,hX',hsame.once (hob.dr.once (one_once h1)),hok',by rw[hsame.len];omega,hid,?_⟩
 rw[big_sem (fc:=fun _=>⟨#[]⟩) (fc':=fcOf objs g.fl) hX'.sound hX.sound hok' hQ.ok (fun y=>(sem_same hX'.sound hsame _ y 5 _ hok').trans (hrd y))]
 omega
theorem made_walk2 (W:World)(a:Option Addr)(len cap:Nat)(hS:StepsAt W a len)(hlen:len<=maxLen):
  Calls Tryz.prog 11 #[.slice a len cap] W fun e w'=>∃ s p id,e=.returned (.tuple #[.pointer (some ⟨s,0,none⟩),.int .i64 id,.bool true])/\Made2 W w' s p id:=by
 have hst:=first_store W
 have HS:Hid _:=hS
 unfold maxLen at hlen
 clear hS
 go_enter Tryz.func11,Tryz.ntmps11
 go_wp2_with fail
 refine Calls.mono hst ?_
 rintro e w1 ⟨s,p,rfl,hF⟩
 have H1:Hid _:=first_dir hF
 clear hst hF
 go_wp2_with fail
 refine Calls.mono H1.out ?_
 rintro e w2 ⟨rfl,objs,h1,hF⟩
 obtain⟨tg,hO,hSt⟩:=first_tags hF (one_exact h1).sound
 have hck:=qcheckout (i:=2) hSt (Nat.le_refl _) (id:=1) (by rw[LTok];exact⟨by rw[one_kind h1];rfl,by rw[one_high h1];decide⟩)
 have H2:Hid _:=hck
 have HO:Hid _:=And.intro h1 hO
 clear hck hSt hF h1 hO H1
 go_wp2_with fail
 refine Calls.mono H2.out ?_
 rintro e w3 ⟨B,rfl,tg',m,hQ⟩
 have H3:Hid _:=m_e HO.out.1 (HO.out.2.any (fun h=>h) m) hQ
 clear H2 m hQ
 go_wp2_with fail
 refine Calls.mono H3.out ?_
 rintro e w4 ⟨rfl,hM⟩
 have HM:Hid _:=hM
 clear H3 hM
 go_wp2
 go_loopw [9] (fun i wr=>∃ k:Nat,k<=len/\k<=90/\i=.int .i64 (k:Int)/\Hid (MSt W wr s p B objs (2+k) (500+k*500))) (fun i _=>90-(intOf i).toNat)
 case atStart=>exact⟨0,Nat.zero_le _,Nat.zero_le _,rfl,HM⟩
 case round=>
  obtain⟨k,hk,hk9,rfl,HR⟩:=hrel
  by_cases hlt:k<len
  ·by_cases hl9:k<90
   ·obtain⟨b,o,rfl,hb,hst⟩:=HS.out.at_ (by omega)
    obtain⟨kd,x,y,d,h1,h2,h3,h4,c0,c1,c2,c3⟩:=hst k hlt
    have hbel:Below W.heap.size W wr:=MSt.below HR.out
    have e0:=(hbel.cell (p:=⟨b,o+k*4,none⟩) hb).trans c0
    have e1:=(hbel.cell (p:=⟨b,o+k*4+1,none⟩) hb).trans c1
    have e2:=(hbel.cell (p:=⟨b,o+k*4+2,none⟩) hb).trans c2
    have e3:=(hbel.cell (p:=⟨b,o+k*4+3,none⟩) hb).trans c3
    have hbr:b<wr.heap.size:=Nat.lt_of_lt_of_le hb hbel.size
    have hdo:=m_step HR.out (by omega) h1 h2 h3 h4
    have HD:Hid _:=hdo
    clear hdo hst c0 c1 c2 c3 hbel h1 h2 h3 h4 HR
    go_wp2_with (go_at_call 14;refine Calls.mono HD.out ?_;rintro e w5 ⟨er,rfl,hM5⟩;have HM5:Hid _:=hM5;clear hM5)
    go_roundw
    case rel=>exact⟨k+1,by omega,by omega,by go_num,by have:=HM5.out;rw[show 2+k+1=2+(k+1) by omega,show 500+k*500+500=500+(k+1)*500 by omega] at this;exact this⟩
    case measure=>simp[intOf];omega
   ·have hk90:k=90:=by omega
    subst hk90
    have ht:=m_told (by omega) HR.out
    have HT:Hid _:=ht
    clear ht HR
    go_wp2_with fail
    refine Calls.mono HT.out ?_
    rintro e w5 ⟨rfl,hM5⟩
    have HC:Hid _:=m_commit2 HO.out.1 (by omega) (by omega) hM5
    clear hM5 HT
    go_wp2_with fail
    refine Calls.mono HC.out ?_
    rintro e w6 ⟨id,rfl,hid,hMd⟩
    have HMD:Hid _:=hMd
    clear HC hMd
    have hid':(0:Int)<id:=by omega
    go_wp2
    exact bodyPost_ret (v:=.tuple #[.pointer (some ⟨s,0,none⟩),.int .i64 id,.bool true]) (by simp[results,Tryz.results11,go_sem]) rfl ⟨s,p,id,rfl,HMD.out⟩
  ·have ht:=m_told (by omega) HR.out
   have HT:Hid _:=ht
   clear ht HR
   go_wp2_with fail
   refine Calls.mono HT.out ?_
   rintro e w5 ⟨rfl,hM5⟩
   have HC:Hid _:=m_commit2 HO.out.1 (by omega) (by omega) hM5
   clear hM5 HT
   go_wp2_with fail
   refine Calls.mono HC.out ?_
   rintro e w6 ⟨id,rfl,hid,hMd⟩
   have HMD:Hid _:=hMd
   clear HC hMd
   have hid':(0:Int)<id:=by omega
   go_wp2
   exact bodyPost_ret (v:=.tuple #[.pointer (some ⟨s,0,none⟩),.int .i64 id,.bool true]) (by simp[results,Tryz.results11,go_sem]) rfl ⟨s,p,id,rfl,HMD.out⟩
def thingV (x:Option Thing8):Value:=match x with
 | none=>.agg #[.string ByteArray.empty,.int .i64 0,.string ByteArray.empty]
 | some x=>.agg #[.string x.1,.int .i64 x.2.1,.string x.2.2]
theorem findT_take {L:List Thing8}{P:ByteArray}{k:Nat}(hk:k<L.length)(h:findT (L.take k) P=none):((L[k]).1=P->findT L P=some (L[k]))/\((L[k]).1≠P->findT (L.take (k+1)) P=none):=by
 unfold findT at h ⊢
 constructor
 ·intro e
  have h2:L.find? (fun x=>decide (x.1=P))=(L.take k++L.drop k).find? (fun x=>decide (x.1=P)):=by rw[List.take_append_drop]
  rw[h2,List.find?_append,h,Option.none_or,List.drop_eq_getElem_cons hk,List.find?_cons]
  simp[e]
 ·intro e
  rw[List.take_succ_eq_append_getElem hk,List.find?_append,h,Option.none_or,List.find?_cons]
  simp[e]
theorem find_any (v:Value)(n:Nat)(L:List Thing8)(P:ByteArray)(base:Nat)(w:World)(h:w.ownsRow base 40 3 v n (flatT L))(hn:n=L.length)(hb:n<=2000000):
  Calls Tryz.prog 17 #[v,.string P] w fun e w'=>e=.returned (.tuple #[thingV (findT L P),.bool (findT L P).isSome])/\Below w.heap.size w w':=by
 obtain⟨a,c,rfl⟩:=rowT_shape h
 have hb0:Below w.heap.size w (w.alloc (.cells #[.string ByteArray.empty,.int .i64 0,.string ByteArray.empty] 40)):=(Below.refl _ _).alloc (Nat.le_refl _) _
 have H:Hid _:=rowT_below h hb0
 have HN:Hid _:=hn
 have HB0:Hid _:=hb0
 clear h hn hb0
 go_enter Tryz.func17,Tryz.ntmps17
 go_wp2
 go_loopw [6] (fun iv wr=>∃ k:Nat,k<=n/\iv=.int .i64 (k:Int)/\Hid (findT (L.take k) P=none)/\wr=w.alloc (.cells #[.string ByteArray.empty,.int .i64 0,.string ByteArray.empty] 40)) (fun iv _=>n-(intOf iv).toNat)
 case atStart=>exact⟨0,Nat.zero_le _,rfl,rfl,rfl⟩
 case round=>
  obtain⟨k,hk,rfl,HF,rfl⟩:=hrel
  by_cases hkn:k<n
  ·have hkl:k<L.length:=by rw[<- HN.out];exact hkn
   obtain⟨g,c1,e1,hg,x0,x1,x2⟩:=rowT_cells H.out HN.out hkl
   cases e1
   obtain⟨f1,f2⟩:=findT_take hkl HF.out
   have HF1:Hid _:=f1
   have HF2:Hid _:=f2
   cases hq:((L[k]).1.toList == P.toList) with
   | true=>
    have he:(L[k]).1=P:=bytes_eq (by simpa using hq)
    have HR:Hid _:=HF1.out he
    have HV:Hid (thingV (findT L P)=.agg #[.string P,.int .i64 (L[k]).2.1,.string (L[k]).2.2]/\(findT L P).isSome=true):=by
     show _/\_
     rw[HR.out]
     exact⟨by unfold thingV;rw[<- he],rfl⟩
    clear f1 f2 HF1 HF2 HF HR
    rw[he] at x0 hq
    clear he
    generalize (L[k]).2.1=z1 at x1 HV
    generalize (L[k]).2.2=z2 at x2 HV
    go_wp2
    refine bodyPost_ret (v:=.tuple #[.agg #[.string P,.int .i64 z1,.string z2],.bool true]) (by simp[results,Tryz.results17,go_sem]) rfl ?_
    rw[HV.out.1,HV.out.2]
    refine⟨rfl,?_⟩
    exact (Below.refl _ _).alloc (Nat.le_refl _) _
   | false=>
    have he:(L[k]).1≠P:=fun e=>by rw[e] at hq;simp at hq
    have HR:Hid _:=HF2.out he
    clear f1 f2 HF1 HF2 HF he
    generalize (L[k]).1=z0 at x0 hq
    generalize (L[k]).2.1=z1 at x1
    generalize (L[k]).2.2=z2 at x2
    go_wp2
    exact⟨⟨k+1,by omega,by simp,HR,by simp⟩,by simp[intOf];omega⟩
  ·have hke:k=n:=by omega
   have hr:=HF.out
   rw[hke,HN.out,List.take_length] at hr
   have HR:Hid _:=hr
   have HV:Hid (thingV (findT L P)=.agg #[.string ByteArray.empty,.int .i64 0,.string ByteArray.empty]/\(findT L P).isSome=false):=by
    show _/\_
    rw[HR.out]
    exact⟨rfl,rfl⟩
   clear hr HF hke HR
   go_wp2
   refine bodyPost_ret (v:=.tuple #[.agg #[.string ⟨#[]⟩,.int .i64 0,.string ⟨#[]⟩],.bool false]) (by simp[results,Tryz.results17,go_sem]) rfl ?_
   rw[HV.out.1,HV.out.2]
   refine⟨rfl,?_⟩
   exact (Below.refl _ _).alloc (Nat.le_refl _) _
section
variable {W wr:World}{s p:Nat}{objs:List Ob}{lim:Nat}{ws:List Slot}{rows:List (Value×List Thing8)}
theorem many_made2 {id:Int}(h:Made2 W wr s p id):∃ objs,Obs8 objs id/\big objs 5 (.dir id)<=95/\Many W wr s p objs 60000 [] []:=by
 obtain⟨tg,objs,got,hO,hS,hX,hOn,hok,hlen,hid,hbig⟩:=h
 exact⟨objs,⟨hX,hOn,hok,hlen⟩,hbig,tg,got,hO,hS,(fun x hx=>by cases hx),List.nodup_nil,(fun r hr=>by cases hr)⟩
end
end Go.Proofs.YtajopoddmfdejaaGreat
