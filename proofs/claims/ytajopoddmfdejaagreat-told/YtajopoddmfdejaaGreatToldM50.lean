/-
  What is proved here: what a store gives of an object (GetFile, GetDir). how many objects a store has, (Objects; GetFile and GetDir: StoreG). Mkdir, Rename, Remove, put of one of several workspaces; Objects and ..
-/
import Derived.Test.YtajopoddmfdejaaGreatToldM04
import Derived.Test.YtajopoddmfdejaaGreatToldM49
import Derived.Test.YtajopoddmfdejaaGreatToldM41
import Derived.Test.YtajopoddmfdejaaGreatToldM39
import Derived.Test.YtajopoddmfdejaaGreatToldM45
namespace Go.Proofs.YtajopoddmfdejaaGreat
open Go.RowKit Go.Sort Go.Shelf
set_option linter.unusedVariables false
set_option maxRecDepth 100000
set_option maxHeartbeats 16000000
variable {ft:PTail}
variable {ft:PTail}
section
variable {W wr:World}{s p:Nat}{objs:List Ob}{lim:Nat}{ws:List Slot}{rows:List (Value×List Thing8)}{i:Nat}{B:WB}{g:WG}{t:LT}
theorem many_commit3 (h:Many W wr s p objs lim ((i,B,g,t) :: ws) rows)(hX:Exact objs)(hOn:Once objs)(hfew:objs.length+2*cntO 5 t<3000)(hroom:(objR g.fl 5 t objs).2.length<=400)(hk:t.kind=2):
  Calls Tryz.prog 20 #[.pointer (some ⟨B.wb,0,none⟩)] wr fun e w'=>∃ x',e=.returned (.tuple #[.int .i64 (objR g.fl 5 t objs).1,.int .i64 0])/\Exact x'/\Once x'/\(∃ l,x'=objs++l)/\x'.length=(objR g.fl 5 t objs).2.length/\LTok x' 5 (.dir (objR g.fl 5 t objs).1)/\SemEq x' (fun _=>⟨#[]⟩) (.dir (objR g.fl 5 t objs).1) objs (fcOf objs g.fl) t/\Many W w' s p x' lim [] rows/\(x'=objs->Many W w' s p objs lim ((i,B,g,t) :: ws) rows):=by
 obtain⟨tg,got,hO,hS,hw,hn,hr⟩:=h
 have hx:=hw _ (List.mem_cons_self ..)
 have hQ:QInv tg wr s i p B objs (setGot g got) lim t:=⟨⟨hx.two,hS,⟨hx.wp.tree,hx.wp.keptF,hx.wp.keptD,hx.wp.ownF,hx.wp.ownD,hx.wp.files,hx.wp.held,hx.wp.opens,hx.wp.ok⟩⟩,hx.flat,hx.ok,hx.fl,hx.op⟩
 obtain⟨hwb,c0,_⟩:=hQ.ws
 have hB:Base8 tg wr s i p B objs (setGot g got) lim t:=⟨hQ.inv,hQ.flat,hX,hQ.fl⟩
 have hob:=objR_ok g.fl 5 (Nat.le_refl _) t objs hX hQ.ok hB.flSz
 have hrd:=objR_reads g.fl (fun _=>⟨#[]⟩) 5 (Nat.le_refl _) t objs hX hQ.ok hB.flSz
 have hca:=commit_any hB hQ.ok hfew hroom
 refine (commit_ws B.wb B.bt _ _ wr hwb c0 hca).mono ?_
 rintro e w' ⟨he,x',tg',hl',hsame,m,hS'⟩
 have hk':kindOf x' (objR g.fl 5 t objs).1=2:=by rw[hsame.kind];exact hob.kind.trans hk
 have hX':Exact x':=hsame.exact (hob.dr.exact hX)
 have hok':LTok x' 5 (.dir (objR g.fl 5 t objs).1):=by
  rw[LTok]
  exact⟨hk',by rw[hsame.high];exact hob.high⟩
 rw[hk] at hrd
 refine⟨x',he,hX',hsame.once (hob.dr.once hOn),hl',hsame.len,hok',fun y=>(sem_same hX'.sound hsame _ y 5 _ hok').trans (hrd y),⟨tg',_,hO.any (by simp) m,hS',(fun x hx=>by cases hx),List.nodup_nil,hr.any (by simp) m⟩,fun e=>?_⟩
 subst e
 exact⟨tg',_,hO.any (by simp) m,hS',fun x hx=>(hw x hx).moves m (fun k hk=>by
  have:=(hw x hx).two
  have:=congrArg Prod.fst hk
  simp only at this
  omega),hn,hr.any (by simp) m⟩
end
section
variable {W wr:World}{s p:Nat}{objs:List Ob}{id:Int}{B:WB}{lim:Nat}{v v':Value}{L L':List Thing8}{rows:List (Value×List Thing8)}
end
def ghost:WG:=⟨0,⟨0,fun _=>none,fun _=>none⟩,fsAll,fun _=>none,fun _=>none⟩
theorem did_kind {a:List Ob}{g g':WG}{t t':LT}(hS:Sound a)(hok:LTok a 5 t)(hheld:∀ x f,t.at a x=some (.held f)->∃ y,g.fl f=some y)(hinj:HeldInj a t)(hbr:g.fs.brk=false){k:Int}{na nb:ByteArray}{ra rb:List ByteArray}{d:ByteArray}{er:Int}(h:StepTo a g t k na nb ra rb d er g' t'):t'.kind=t.kind:=by
 obtain⟨_,z2,z3⟩:=step_sem hS hok hheld hinj hbr h
 by_cases e:er=0
 ·have:=(z3 e).1 []
  have hn:stepS k (ra.reverse ++ [na]) (rb.reverse ++ [nb]) d (sem a (fcOf a g.fl) t) []=sem a (fcOf a g.fl) t []:=by
   have p1:¬ ([]:List ByteArray)=ra.reverse ++ [na]:=by simp
   have p2:¬ ra.reverse ++ [na] <+: []:=fun h=>by simpa using List.prefix_nil.1 h
   have p3:¬ rb.reverse ++ [nb] <+: []:=fun h=>by simpa using List.prefix_nil.1 h
   unfold stepS
   simp only[if_neg p1,if_neg p2,if_neg p3,ite_self]
  rw[hn] at this
  exact nd_kind (sem_nd this)
 ·rw[(z2 e).1]
abbrev fc0:FileC:=fun _=>⟨#[]⟩
section
variable {W wr:World}{s p:Nat}{objs x:List Ob}{id c:Int}{B:WB}{lim N:Nat}{v:Value}{L:List Thing8}
theorem Many.slot9 {ws:List Slot}{rows:List (Value×List Thing8)}(h:Many W wr s p objs lim ws rows){i:Nat}{B:WB}{g:WG}{t:LT}(hx:(i,B,g,t) ∈ ws):LTok objs 5 t/\HeldInj objs t/\(∀ x f,t.at objs x=some (.held f)->∃ y,g.fl f=some y)/\(Exact objs->FlSz objs g.fl):=by
 obtain⟨tg,got,hO,hS,hw,_⟩:=h
 have h1:=hw _ hx
 refine⟨h1.ok,h1.inj,fun x f ha=>h1.wp.held x f (by rw[h1.flat.of,ha];rfl),fun hX f id d hf=>⟨fun h0=>h1.fl f id d hf h0,fun _=>(h1.wp.files f id d hf).2.2⟩⟩
end
section
variable {W wr:World}{s p:Nat}{objs:List Ob}{lim:Nat}{ws:List Slot}{rows:List (Value×List Thing8)}{i:Nat}{B:WB}{g:WG}{t:LT}
theorem step_base {g1 g':WG}{t t':LT}{k:Int}{na nb:ByteArray}{ra rb:List ByteArray}{d:ByteArray}{er:Int}(hs:StepTo objs g1 t k na nb ra rb d er g' t'):g'.base=g1.base:=by
 rcases hs with ⟨_,_,h1,_⟩ | ⟨_,_,_,_,_,h1⟩ | ⟨_,_,_,_,_,h1⟩ | ⟨_,_,_,_,_,h1⟩ <;> exact h1
theorem many_all9 (h:Many W wr s p objs lim ((i,B,g,t) :: ws) rows)(hl:lim+42000000000<1099511627776)(hk:t.kind=2):
  Calls Tryz.prog 13 #[.pointer (some ⟨B.wb,0,none⟩)] wr fun e w'=>∃ v g' t',e=.returned (.tuple #[v,.bool true])/\(∀ x,sem objs (fcOf objs g'.fl) t' x=sem objs (fcOf objs g.fl) t x)/\g'.base=g.base/\(thingsR objs (fcOf objs g.fl) 5 [] t).length<=1118480/\Many W w' s p objs (lim+4000000000) ((i,B,g',t') :: ws) ((v,thingsR objs (fcOf objs g.fl) 5 [] t) :: rows):=by
 obtain⟨tg,got,hQ,hinj,hnext⟩:=h.head
 have hb:=things_bound (fc:=fcOf objs g.fl) hQ.inv.st.sound 5 [] t hQ.ok
 have hb5:=tBound_le (n:=5) (Nat.le_refl _)
 refine (all_any hQ hl rfl hk).mono ?_
 rintro e w' ⟨v,he,_,tg',g',t',m,hQ',hA,hrow⟩
 have hlen:(thingsR objs (fcOf objs g.fl) 5 [] t).length<=1118480:=by omega
 exact⟨v,g',t',he,hA.sem,hA.base,hlen,(hnext (lim':=lim+4000000000) (by omega) m (hQ'.mono (by
  have:(thingsR objs (fcOf objs (setGot g got).fl) 5 [] t).length<=1118480:=hlen
  omega)) hA.brk (hA.inj hinj)).2 v _ hrow⟩
theorem status_ws9 (wb bt:Nat)(R:Value->Int->World->Prop)(w:World)(hwb:wb<w.heap.size)(c0:w.cell? ⟨wb,0,none⟩=some (.pointer (some ⟨bt,0,none⟩)))
  (hc:Calls Tryz.prog 53 #[.pointer (some ⟨bt,0,none⟩)] w fun e w'=>∃ v er,e=.returned (.tuple #[v,.int .i64 er])/\R v er w'):
  Calls Tryz.prog 27 #[.pointer (some ⟨wb,0,none⟩)] w fun e w'=>∃ v er,e=.returned (.tuple #[v,.int .i64 er])/\R v er w':=by
 have HC:Hid _:=hc
 clear hc
 go_enter Tryz.func27,Tryz.ntmps27
 go_wp2_with (go_at_call 53;refine Calls.mono HC.out ?_;rintro e w1 ⟨v,er,rfl,hR⟩)
 go_ret2
 exact⟨v,er,rfl,hR⟩
theorem many_status (h:Many W wr s p objs lim ((i,B,g,t) :: ws) rows)(hX:Exact objs)(hOn:Once objs)(hfew:objs.length+2*cntO 5 t<3000)(hbase:LTok objs 5 (.dir g.base))(hl:lim+110000000<1099511627776):
  Calls Tryz.prog 27 #[.pointer (some ⟨B.wb,0,none⟩)] wr fun e w'=>∃ v g' L,e=.returned (.tuple #[v,.int .i64 0])/\g'.fl=g.fl/\g'.base=g.base/\Told8 objs g.fl t g.base L/\w'.ownsRow 0 58 2 v L.length (flatC L)/\Many W w' s p objs (lim+110000000) ((i,B,g',t) :: ws) rows:=by
 obtain⟨tg,got,hQ,hinj,hnext⟩:=h.head
 obtain⟨hwb,c0,_⟩:=hQ.ws
 have hB:Base8 tg wr s i p B objs (setGot g got) lim t:=⟨hQ.inv,hQ.flat,hX,hQ.fl⟩
 refine (status_ws9 B.wb B.bt (fun v er w'=>er=0/\∃ g' L,g'.fl=g.fl/\g'.base=g.base/\Told8 objs g.fl t g.base L/\w'.ownsRow 0 58 2 v L.length (flatC L)/\Many W w' s p objs (lim+110000000) ((i,B,g',t) :: ws) rows) wr hwb c0 ((status_any hB hQ.ok hOn hfew hbase hl).mono ?_)).mono ?_
 ·rintro e w' ⟨v,er,he,tg',fs',m,hW,hcase⟩
  rcases hcase with ⟨rfl,hN,L,hT,hrow,_⟩ | ⟨rfl,_,hF⟩
  ·refine⟨v,0,he,rfl,{ setGot g got with fs:=fs' },L,rfl,rfl,hT,hrow,?_⟩
   exact (hnext (by omega) (m.mono (fun _ h=>h.mine)) ⟨hW,hQ.flat,hQ.ok,hQ.fl,hQ.op⟩ hN.1 hinj).1
  ·cases hF.1
 ·rintro e w' ⟨v,er,he,rfl,g',L,h1,h2,h3,h4,h5⟩
  exact⟨v,g',L,he,h1,h2,h3,h4,h5⟩
theorem many_do9 (h:Many W wr s p objs lim ((i,B,g,t) :: ws) rows)(hl:lim+1000<1099511627776){kd a b:Int}{d:ByteArray}(hk:i64 kd)(ha:i64 a)(hb:i64 b)(hd:d.size<=maxLen){na nb:ByteArray}{ra rb:List ByteArray}(hpa:pathL a=ra.reverse ++ [na])(hpb:pathL b=rb.reverse ++ [nb]):
  Calls Tryz.prog 14 #[.pointer (some ⟨B.wb,0,none⟩),.agg #[.int .i64 kd,.int .i64 a,.int .i64 b,.string d]] wr fun e w'=>∃ er g' t',e=.returned (.int .i64 er)/\(∃ g1:WG,g1.fl=g.fl/\g1.fs.brk=false/\StepTo objs g1 t (pickN kd 6) na nb ra rb (shortB d) er g' t')/\g'.base=g.base/\big objs 5 t'<=big objs 5 t+1/\Many W w' s p objs (lim+500) ((i,B,g',t') :: ws) rows:=by
 obtain⟨tg,got,hQ,hinj,hnext⟩:=h.head
 have hla:=(pathL_letters a).len
 have hlb:=(pathL_letters b).len
 rw[hpa] at hla
 rw[hpb] at hlb
 simp at hla hlb
 refine (do_exact hQ hl kd a b d hk ha hb hd hpa hpb).mono ?_
 rintro e w' ⟨er,he,tg',g',t',m,hQ',hs⟩
 obtain⟨hi',hbig⟩:=step_inj hQ.inv.st.sound hQ.ok hQ.held hinj (by omega) (by omega) hs
 exact⟨er,g',t',he,⟨setGot g got,rfl,rfl,hs⟩,(step_base hs).trans rfl,hbig,(hnext (by omega) m hQ' (step_brk rfl hs) hi').1⟩
def TdW (W wr:World)(s p:Nat)(objs:List Ob)(id:Int)(Bw Bv:WB)(lim N:Nat):Prop:=∃ g t gv,Many W wr s p objs lim [(3,Bw,g,t),(4,Bv,gv,.dir id)] []/\t.kind=2/\big objs 5 t<=N/\g.base=id
theorem td_begin {id:Int}(hbig:big objs 5 (.dir id)<=95){Bw Bv:WB}{g gv:WG}(hb:g.base=id)(h:Many W wr s p objs 60000 [(4,Bv,gv,.dir id),(3,Bw,g,.dir id)] []):TdW W wr s p objs id Bw Bv 60000 95:=
 ⟨g,.dir id,gv,h.perm (List.Perm.swap ..),rfl,hbig,hb⟩
theorem td_do {id:Int}{Bw Bv:WB}{N:Nat}(h:TdW W wr s p objs id Bw Bv lim N)(hl:lim+1000<1099511627776){kd a b:Int}{d:ByteArray}(hk:i64 kd)(ha:i64 a)(hb:i64 b)(hd:d.size<=maxLen):
  Calls Tryz.prog 14 #[.pointer (some ⟨Bw.wb,0,none⟩),.agg #[.int .i64 kd,.int .i64 a,.int .i64 b,.string d]] wr fun e w'=>∃ er,e=.returned (.int .i64 er)/\TdW W w' s p objs id Bw Bv (lim+500) (N+1):=by
 obtain⟨g,t,gv,hM,hk2,hbig,hba⟩:=h
 obtain⟨na,ra,hpa⟩:=(pathL_letters a).split
 obtain⟨nb,rb,hpb⟩:=(pathL_letters b).split
 obtain⟨o,i3,l3,_⟩:=hM.slot9 (List.mem_cons_self ..)
 refine (many_do9 hM hl hk ha hb hd hpa hpb).mono ?_
 rintro e w' ⟨er,g',t',he,⟨g1,q1,q2,hst⟩,hb9,hb',hM'⟩
 exact⟨er,he,g',t',gv,hM',(did_kind hM.sound o (fun x f hx=>by rw[q1];exact l3 x f hx) i3 q2 hst).trans hk2,by omega,hb9.trans hba⟩
def TdA1 (W wr:World)(s p:Nat)(objs:List Ob)(id:Int)(Bw Bv:WB)(lim:Nat)(v:Value)(L:List Thing8):Prop:=∃ g t gv,Many W wr s p objs lim [(3,Bw,g,t),(4,Bv,gv,.dir id)] [(v,L)]/\L=thingsR objs (fcOf objs g.fl) 5 [] t/\L.length<=1118480/\t.kind=2/\big objs 5 t<=185/\g.base=id
theorem td_all {id:Int}{Bw Bv:WB}{N:Nat}(h:TdW W wr s p objs id Bw Bv lim N)(hN:N<=185)(hl:lim+42000000000<1099511627776):
  Calls Tryz.prog 13 #[.pointer (some ⟨Bw.wb,0,none⟩)] wr fun e w'=>∃ v L,e=.returned (.tuple #[v,.bool true])/\TdA1 W w' s p objs id Bw Bv (lim+4000000000) v L:=by
 obtain⟨g,t,gv,hM,hk2,hbig,hba⟩:=h
 obtain⟨o,_⟩:=hM.slot9 (List.mem_cons_self ..)
 refine (many_all9 hM hl hk2).mono ?_
 rintro e w' ⟨v,g',t',he,hs,hb9,hlen,hM'⟩
 obtain⟨o',_⟩:=hM'.slot9 (List.mem_cons_self ..)
 have hS:=hM.sound
 refine⟨v,_,he,g',t',gv,hM',(things_sem hS hS 5 [] _ _ o' o hs).symm,hlen,?_,?_,hb9.trans hba⟩
 ·exact (nd_kind (sem_nd (hs []))).trans hk2
 ·rw[big_sem hS hS o' o hs];omega
def TdA2 (W wr:World)(s p:Nat)(objs:List Ob)(id:Int)(Bw:WB)(lim:Nat)(v v':Value)(L O:List Thing8):Prop:=∃ g t,(∃ x,Many W wr s p objs lim [(3,Bw,g,t),x] [(v',O),(v,L)])/\L=thingsR objs (fcOf objs g.fl) 5 [] t/\O=thingsR objs fcE 5 [] (.dir id)/\L.length<=1118480/\O.length<=1118480/\t.kind=2/\big objs 5 t<=185/\g.base=id
theorem td_all2 {id:Int}{Bw Bv:WB}{v:Value}{L:List Thing8}(h:TdA1 W wr s p objs id Bw Bv lim v L)(hl:lim+42000000000<1099511627776):
  Calls Tryz.prog 13 #[.pointer (some ⟨Bv.wb,0,none⟩)] wr fun e w'=>∃ v' O,e=.returned (.tuple #[v',.bool true])/\TdA2 W w' s p objs id Bw (lim+4000000000) v v' L O:=by
 obtain⟨g,t,gv,hM,hL,hlen,hk2,hbig,hba⟩:=h
 have hM2:=hM.perm (List.Perm.swap ..)
 obtain⟨o,_⟩:=hM2.slot9 (List.mem_cons_self ..)
 have hS:=hM.sound
 refine (many_all9 hM2 hl rfl).mono ?_
 rintro e w' ⟨v',g',t',he,hs,_,hlen',hM'⟩
 exact⟨v',_,he,g,t,⟨_,hM'.perm (List.Perm.swap ..)⟩,hL,things_sem hS hS 5 [] _ _ o o (stored_fc (.inr ⟨_,rfl⟩) _ _),hlen,hlen',hk2,hbig,hba⟩
structure TdF (L O:List Thing8)(C:List Chg8):Prop where
 len:C.length=(L.filter (newB O)).length+(O.filter (goneB L)).length
 tells:∀ x ∈ C,Tells (findT O x.1) (findT L x.1) x.2
 rising:C.Pairwise fun x y=>cmpN x.1 y.1<0
 l1:L.length<=1118480
 l2:O.length<=1118480
def TdS (W wr:World)(s p:Nat)(objs:List Ob)(Bw:WB)(lim:Nat)(v v' u:Value)(L O:List Thing8)(C:List Chg8):Prop:=
 (∃ g t x,Many W wr s p objs lim [(3,Bw,g,t),x] [(v',O),(v,L)]/\t.kind=2/\big objs 5 t<=185)/\wr.ownsRow 0 58 2 u C.length (flatC C)
theorem td_status {id:Int}{Bw:WB}{v v':Value}{L O:List Thing8}(hO:Obs8 objs id)(h:TdA2 W wr s p objs id Bw lim v v' L O)(hl:lim+110000000<1099511627776):
  Calls Tryz.prog 27 #[.pointer (some ⟨Bw.wb,0,none⟩)] wr fun e w'=>∃ u C,e=.returned (.tuple #[u,.int .i64 0])/\TdF L O C/\TdS W w' s p objs Bw (lim+110000000) v v' u L O C:=by
 obtain⟨g,t,⟨x,hM⟩,hL,hOO,hl1,hl2,hk2,hbig,hba⟩:=h
 obtain⟨o,_⟩:=hM.slot9 (List.mem_cons_self ..)
 have hcb:=cnt_big objs 5 t
 have hln:=hO.len
 refine (many_status hM hO.exact hO.once (by omega) (by rw[hba];exact hO.ok) hl).mono ?_
 rintro e w' ⟨u,g',C,he,h1,h2,h3,h4,h5⟩
 rw[hba] at h3
 have hS:=hM.sound
 refine⟨u,C,he,⟨?_,fun x hx=>?_,told_rising hS o hO.ok hk2 h3,hl1,hl2⟩,⟨g',t,x,h5,hk2,hbig⟩,h4⟩
 ·rw[hL,hOO];exact told_len hS o hO.ok hk2 h3
 ·rw[hL,hOO];exact told_tells hS o hO.ok hk2 h3 hx
theorem TdS.below {Bw:WB}{v v' u:Value}{L O:List Thing8}{C:List Chg8}{w':World}(h:TdS W wr s p objs Bw lim v v' u L O C)(hb:Below wr.heap.size wr w'):TdS W w' s p objs Bw lim v v' u L O C:=by
 obtain⟨⟨g,t,x,hM,hk⟩,hr⟩:=h
 exact⟨⟨g,t,x,hM.below hb,hk⟩,ownsRow_keep hr (fun g hg=>hb.block g (ownsRow_lt hr hg))⟩
theorem TdS.rows3 {Bw:WB}{v v' u:Value}{L O:List Thing8}{C:List Chg8}(h:TdS W wr s p objs Bw lim v v' u L O C):wr.ownsRow 0 40 3 v L.length (flatT L)/\wr.ownsRow 0 40 3 v' O.length (flatT O)/\wr.ownsRow 0 58 2 u C.length (flatC C):=by
 obtain⟨⟨g,t,x,hM,hk⟩,hr⟩:=h
 exact⟨hM.row (r:=(v,L)) (by simp),hM.row (r:=(v',O)) (by simp),hr⟩
theorem td_commit {id:Int}{Bw:WB}{v v' u:Value}{L O:List Thing8}{C:List Chg8}(hO:Obs8 objs id)(h:TdS W wr s p objs Bw lim v v' u L O C):
  Calls Tryz.prog 20 #[.pointer (some ⟨Bw.wb,0,none⟩)] wr fun e w'=>∃ c x',e=.returned (.tuple #[.int .i64 c,.int .i64 0])/\(Exact x'/\Once x')/\LTok x' 5 (.dir c)/\x'.length<=400/\Many W w' s p x' lim [] [(v',O),(v,L)]:=by
 obtain⟨⟨g,t,x,hM,hk,hbig⟩,_⟩:=h
 obtain⟨o,_,_,hfs⟩:=hM.slot9 (List.mem_cons_self ..)
 have hcb:=cnt_big objs 5 t
 have hl:=hO.len
 have hob:=(objR_ok g.fl 5 (Nat.le_refl _) t objs hO.exact o (hfs hO.exact)).len
 refine (many_commit3 hM hO.exact hO.once (by omega) (by omega) hk).mono ?_
 rintro e w' ⟨x',he,hX',hO',_,hlen,hok',hs,hM',_⟩
 exact⟨_,x',he,⟨hX',hO'⟩,hok',by omega,hM'⟩
theorem td_none {B:WB}{x:List Ob}{c:Int}{g:WG}(hX:Exact x)(hOn:Once x)(hok:LTok x 5 (.dir c))(hlen:x.length<=400)(hb:g.base=c)(hl:lim+110000000<1099511627776)(h:Many W wr s p x lim [(3,B,g,.dir c)] rows):
  Calls Tryz.prog 27 #[.pointer (some ⟨B.wb,0,none⟩)] wr fun e w'=>∃ a k,e=.returned (.tuple #[.slice a 0 k,.int .i64 0])/\Below W.heap.size W w':=by
 have hcn:cntO 5 (.dir c)=0:=by rw[cntO]
 refine (many_status h hX hOn (by rw[hcn];omega) (by rw[hb];exact hok) hl).mono ?_
 rintro e w' ⟨v,g',L,he,_,_,hT,hrow,hM⟩
 have hL:L = []:=by
  have e0:=hT.1.length_eq
  have hs:∀ y,semO x (fcOf x g.fl) (some (.dir c)) y=semO x fcE (some (.dir c)) y:=fun y=>stored_fc (.inr ⟨_,rfl⟩) _ _ y
  rw[hb,cmp_same hs] at e0
  exact List.length_eq_zero_iff.1 (by simpa using e0)
 subst hL
 rcases hrow.2 with ⟨rfl,_⟩ | ⟨gb,k,_,rfl,_⟩
 ·exact⟨none,0,he,hM.old⟩
 ·exact⟨_,k,he,hM.old⟩
end
end Go.Proofs.YtajopoddmfdejaaGreat
