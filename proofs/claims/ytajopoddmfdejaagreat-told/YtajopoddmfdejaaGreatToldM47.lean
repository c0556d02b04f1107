/-
  What is proved here: the state of canopykeep's below while it goes through a directory, and its calls. a law of the walk: append of a list that is nil. the steps that came in, as they lie in memory.
-/
import Derived.Test.YtajopoddmfdejaaGreatToldM40
import Derived.Test.YtajopoddmfdejaaGreatToldM46
import Derived.Maps.AppendAt
import Derived.Test.YtajopoddmfdejaaGreatToldM38
import Derived.Test.YtajopoddmfdejaaGreatRows
import Derived.Deep.Slices
import Derived.Deep.Strs
import Derived.ChangeShapes
namespace Go.Proofs.YtajopoddmfdejaaGreat
open Go.RowKit Go.Sort Go.Shelf
set_option linter.unusedVariables false
set_option maxRecDepth 100000
set_option maxHeartbeats 16000000
def encT (x:Thing8):List Value:=[.string x.1,.int .i64 x.2.1,.string x.2.2]
def flatT (l:List Thing8):List Value:=l.flatMap encT
theorem flatT_len (l:List Thing8):(flatT l).length=l.length*3:=by
 induction l with
 | nil=>rfl
 | cons x r ih=>unfold flatT at ih ⊢;rw[List.flatMap_cons,List.length_append,ih,List.length_cons];simp[encT];omega
theorem flatT_app (a b:List Thing8):flatT (a++b)=flatT a++flatT b:=by simp[flatT]
theorem flatT_one8 (l:List Thing8):∀ u ∈ flatT l,u.oneCell'=true:=by
 intro u hu
 obtain⟨x,_,hx⟩:=List.mem_flatMap.1 hu
 simp only[encT,List.mem_cons,List.not_mem_nil,or_false] at hx
 rcases hx with rfl | rfl | rfl <;> rfl
theorem infoT:(Tryz.prog.info? 40).map (fun i=>(i.zero,i.size,i.bytes))=some (some (.agg #[.string ByteArray.empty,.int .i64 0,.string ByteArray.empty]),3,40):=by kernel_rfl
def ThRow (tg:Tags)(w:World)(base:Nat)(v:Value)(n:Nat)(L:List Thing8):Prop:=w.ownsRow base 40 3 v n (flatT L)/\n=L.length/\∀ b,v.ownBlock=some b->tg b=(0,0)
theorem nms_block {w w':World}{nb k:Nat}{es:List Ent}(h:NmsAt w nb es k)(hb:w'.heap[nb]? = w.heap[nb]?):NmsAt w' nb es k:=by
 have hlt:nb<w'.heap.size:=by
  have h1:w.heap[nb]? = some (w.heap[nb]'h.lt):=Array.getElem?_eq_getElem h.lt
  rw[h1] at hb
  exact (Array.getElem?_eq_some_iff.1 hb).1
 exact⟨hlt,fun j hj=>by rw[World.cell?_of_block (a:=⟨nb,j,none⟩) hb];exact h.any j hj,fun o=>by rw[World.frozen?_of_block (a:=⟨nb,o,none⟩) hb];exact h.free o,fun j hj hk=>by rw[World.cell?_of_block (a:=⟨nb,j,none⟩) hb];exact h.nms j hj hk⟩
section
variable {s i p:Nat}{B:WB}{objs:List Ob}{tg0:Tags}{w0:World}{g0:WG}{t0:LT}
theorem QInv.moves0 {tg:Tags}{w w':World}{g:WG}{lim:Nat}{t:LT}(h:QInv tg w s i p B objs g lim t)(m:Moves (fun t=>t=(0,0)) tg tg w w'):QInv tg w' s i p B objs g lim t:=by
 have hi:=h.inv.two
 exact⟨⟨h.inv.two,h.inv.st.moves m (fun e=>by cases e) (fun e=>by cases e),h.inv.wp.moves m (fun k e=>by cases e;omega)⟩,h.flat,h.ok,h.fl,h.op⟩
def BelSt (s i p:Nat)(B:WB)(objs:List Ob)(tg0:Tags)(w0:World)(g0:WG)(t0:LT)(wr:World)(lim lb:Nat)(es:List Ent)(a:Option Addr)(n c:Nat)(L:List Thing8):Prop:=
 ∃ tg g t,Moves (Mine i) tg0 tg w0 wr/\QInv tg wr s i p B objs g lim t/\Alike objs g0 t0 g t/\NmsAt wr lb es es.length/\tg lb=(0,0)/\ThRow tg wr w0.heap.size (.slice a n c) n L/\(Value.slice a n c).ownBlock≠some lb
theorem BelSt.below {wr w':World}{lim lb:Nat}{es:List Ent}{a:Option Addr}{n c:Nat}{L:List Thing8}(h:BelSt s i p B objs tg0 w0 g0 t0 wr lim lb es a n c L)(hb:Below wr.heap.size wr w'):BelSt s i p B objs tg0 w0 g0 t0 w' lim lb es a n c L:=by
 obtain⟨tg,g,t,m,hQ,hA,hN,hl,⟨r1,r2,r3⟩,ho⟩:=h
 exact⟨tg,g,t,m.trans (Moves.of_below hb),hQ.below hb,hA,hN.below hb,hl,⟨ownsRow_keep r1 (fun g hg=>hb.block g (ownsRow_lt r1 hg)),r2,r3⟩,ho⟩
theorem bel_step {wr W w':World}{lim' lb:Nat}{es:List Ent}{a:Option Addr}{n c:Nat}{L:List Thing8}{tg:Tags}(m:Moves (Mine i) tg0 tg w0 wr)(hN:NmsAt wr lb es es.length)(hl:tg lb=(0,0))(hR:ThRow tg wr w0.heap.size (.slice a n c) n L)(ho:(Value.slice a n c).ownBlock≠some lb)(hi:2<=i)(hb:Below wr.heap.size wr W)(hf:Fresh tg wr){tg':Tags}{g':WG}{t':LT}(m':Moves (Mine i) tg tg' W w')(hQ':QInv tg' w' s i p B objs g' lim' t')(hA:Alike objs g0 t0 g' t'):
  BelSt s i p B objs tg0 w0 g0 t0 w' lim' lb es a n c L/\∀ k,wr.heap.size<=k->k<W.heap.size->w'.heap[k]? = W.heap[k]?/\∀ w'',w'.grownBy w'' (some k)->BelSt s i p B objs tg0 w0 g0 t0 w'' lim' lb es a n c L:=by
 have h0:=mine0 hi
 have hkeep:∀ k,k<wr.heap.size->tg k=(0,0)->w'.heap[k]? = wr.heap[k]?/\tg' k=(0,0):=fun k hk ht=>by
  have hk':=Nat.lt_of_lt_of_le hk hb.size
  exact⟨(m'.block k hk' (by rw[ht];exact h0)).trans (hb.block k hk),(m'.tags k hk').trans ht⟩
 obtain⟨r1,r2,r3⟩:=hR
 have hst:Moves (Mine i) tg0 tg' w0 w':=m.trans (call_moves hb m')
 have hN':=nms_block hN (hkeep lb hN.lt hl).1
 have hR':=ownsRow_keep r1 (fun g hg=>(hkeep g (ownsRow_lt r1 hg) (r3 g hg)).1)
 have hT':∀ b,(Value.slice a n c).ownBlock=some b->tg' b=(0,0):=fun b hb'=>(hkeep b (ownsRow_lt r1 hb') (r3 b hb')).2
 refine⟨⟨tg',g',t',hst,hQ',hA,hN',(hkeep lb hN.lt hl).2,⟨hR',r2,hT'⟩,ho⟩,fun k h1 h2=>⟨m'.block k h2 (by rw[hf k h1];exact h0),fun w'' hg=>?_⟩⟩
 have hsz:=m.size
 have htk:tg' k=(0,0):=(m'.tags k h2).trans (hf k h1)
 have hmv:Moves (fun t=>t=(0,0)) tg' tg' w' w'':=⟨hg.os,hg.tape,hg.output,hg.size,fun k hk=>rfl,fun j hj hn=>hg.block j hj (fun e=>hn (by rw[Option.some.inj e];exact htk)),fun hf k hk=>hf k (Nat.le_trans hg.size hk)⟩
 have hmv0:Moves (Mine i) tg0 tg' w0 w'':=⟨hg.os.trans hst.os,hg.tape.trans hst.tape,hg.output.trans hst.output,Nat.le_trans hst.size hg.size,hst.tags,fun j hj hn=>(hg.block j (Nat.lt_of_lt_of_le hj hst.size) (fun e=>by have:=Option.some.inj e;omega)).trans (hst.block j hj hn),fun hf=>hmv.fresh (hst.fresh hf)⟩
 exact⟨tg',g',t',hmv0,hQ'.moves0 hmv,hA,nms_block hN' (hg.block lb hN'.lt (fun e=>by have:=Option.some.inj e;have:=hN.lt;omega)),(hkeep lb hN.lt hl).2,⟨ownsRow_keep hR' (fun g hgg=>hg.block g (ownsRow_lt hR' hgg) (fun e=>by have:=Option.some.inj e;have:=ownsRow_lt r1 hgg;omega)),r2,hT'⟩,ho⟩
theorem stat_there {objs:List Ob}{fl:Nat->Option (Int×ByteArray)}{t c:LT}{fs:FS}(hb:fs.brk=false){r:List ByteArray}(ha:t.at objs r.reverse=some c):∃ fs' sz,statR objs fl t fs r=(fs',0,c.kind,sz)/\fs'.brk=false:=by
 have hq:=q_stat objs fl t fs r hb
 have hnob:=find_nobrk (objs:=objs) (t:=t) hb r
 have hfb:(findR objs t fs r).1.brk=false:=(q_find objs t fs r).2 hb
 have h2:(findR objs t fs r).2=(0,c):=by rw[hnob,findE_some ha]
 have e1:(findR objs t fs r).2.1=0:=by rw[h2]
 have e2:(findR objs t fs r).2.2=c:=by rw[h2]
 have h3:(sizeG objs fl (findR objs t fs r).1 c).2.1=0:=by
  cases c with
  | file id=>
   simp only[sizeG]
   rcases (findR objs t fs r).1.fileG_cases id with ⟨h1,_⟩ | ⟨h1,h2⟩
   ·rw[h1];rfl
   ·rw[h2.1] at hfb;cases hfb
  | held f=>
   obtain⟨fs',h4,_⟩:=bytes_fc (objs:=objs) (fl:=fl) hfb f
   simp only[sizeG,h4]
  | own es=>rfl
  | dir id=>
   simp only[sizeG,kidsG]
   rcases (findR objs t fs r).1.dirG_cases id with ⟨h1,_⟩ | ⟨h1,h2⟩
   ·rw[h1];rfl
   ·rw[h2.1] at hfb;cases hfb
 refine⟨(statR objs fl t fs r).1,(statR objs fl t fs r).2.2.2,?_,hq⟩
 unfold statR
 simp only[e1,e2,h3]
 rfl
theorem bel_kid {wr:World}{lim:Nat}{tg:Tags}{g:WG}{t:LT}(hQ:QInv tg wr s i p B objs g lim t)(hA:Alike objs g0 t0 g t){q:List ByteArray}{c0:LT}{ks:Kids}(h0:t0.at objs q=some c0)(hk0:kids objs c0=some ks)(hr:RisingK ks){k:Nat}(hk:k<ks.length):∃ c,t.at objs (q ++ [(ks[k]).1])=some c/\nd objs (fcOf objs g.fl) c=nd objs (fcOf objs g0.fl) (ks[k]).2/\c.kind=(ks[k]).2.kind/\∀ x,sem objs (fcOf objs g.fl) c x=sem objs (fcOf objs g0.fl) (ks[k]).2 x:=by
 have hat0:t0.at objs (q ++ [(ks[k]).1])=some (ks[k]).2:=by rw[at_kid h0 hk0,pick_getK hr hk,Option.bind_some,at_nil]
 have hs:=hA.sem (q ++ [(ks[k]).1])
 have hs0:sem objs (fcOf objs g0.fl) t0 (q ++ [(ks[k]).1])=some (nd objs (fcOf objs g0.fl) (ks[k]).2):=by unfold sem;rw[hat0];rfl
 rw[hs0] at hs
 cases hc:t.at objs (q ++ [(ks[k]).1]) with
 | none=>unfold sem at hs;rw[hc] at hs;cases hs
 | some c=>
  have hnd:nd objs (fcOf objs g.fl) c=nd objs (fcOf objs g0.fl) (ks[k]).2:=by
   unfold sem at hs;rw[hc] at hs;exact Option.some.inj hs
  refine⟨c,rfl,hnd,nd_kind hnd,fun x=>?_⟩
  have h1:=hA.sem ((q ++ [(ks[k]).1])++x)
  unfold sem at h1 ⊢
  rw[at_append objs (q ++ [(ks[k]).1]) x t,at_append objs (q ++ [(ks[k]).1]) x t0,hc,hat0,Option.bind_some,Option.bind_some] at h1
  exact h1
theorem bel_stat {wr:World}{lim lb:Nat}{es:List Ent}{a:Option Addr}{n c:Nat}{L:List Thing8}(h:BelSt s i p B objs tg0 w0 g0 t0 wr lim lb es a n c L)(hl:lim+2000<1099511627776){q:List ByteArray}{c0:LT}{ks:Kids}(h0:t0.at objs q=some c0)(hk0:kids objs c0=some ks)(hr:RisingK ks){k:Nat}(hk:k<ks.length)(hL:Good (q ++ [(ks[k]).1])):
  Calls Tryz.prog 28 #[.pointer (some ⟨B.wb,0,none⟩),.string (joinB (q ++ [(ks[k]).1]))] wr fun e w'=>∃ sz:Int,e=.returned (.tuple #[.agg #[.int .i64 (ks[k]).2.kind,.int .i64 sz],.int .i64 0])/\BelSt s i p B objs tg0 w0 g0 t0 w' (lim+400) lb es a n c L:=by
 obtain⟨tg,g,t,m,hQ,hA,hN,hlb,hR,ho⟩:=h
 obtain⟨c',hc',hnd,hki,_⟩:=bel_kid hQ hA h0 hk0 hr hk
 have hrev:((q ++ [(ks[k]).1]).reverse).reverse=q ++ [(ks[k]).1]:=List.reverse_reverse _
 obtain⟨fs',sz,hst,hfb⟩:=stat_there (objs:=objs) (fl:=g.fl) hA.brk (r:=(q ++ [(ks[k]).1]).reverse) (by rw[hrev];exact hc')
 have hq:=qstat hQ (by omega) (r:=(q ++ [(ks[k]).1]).reverse) (by rw[hrev];exact hL)
 rw[hst,hrev,hki] at hq
 refine hq.mono ?_
 rintro e w' ⟨he,tg',g',t',m',hQ',rfl,hfs,hfl,hbs⟩
 exact⟨sz,he,(bel_step m hN hlb hR ho hQ.inv.two (Below.refl _ _) hQ.inv.st.fresh m' hQ' (hA.trans (Alike.same hfl hbs (by rw[hfs];exact hfb)))).1⟩
theorem bel_told {wr:World}{lim lb:Nat}{es:List Ent}{a:Option Addr}{n c:Nat}{L:List Thing8}(h:BelSt s i p B objs tg0 w0 g0 t0 wr lim lb es a n c L)(hl:lim+3000<1099511627776){q:List ByteArray}{c0:LT}{ks:Kids}(h0:t0.at objs q=some c0)(hk0:kids objs c0=some ks)(hr:RisingK ks){k:Nat}(hk:k<ks.length)(hL:Good (q ++ [(ks[k]).1]))(hf:(ks[k]).2.kind=1){W:World}(hb:Below wr.heap.size wr W):
  Calls Tryz.prog 41 #[.pointer (some ⟨B.wb,0,none⟩),.string (joinB (q ++ [(ks[k]).1]))] W fun e w'=>e=.returned (.tuple #[.string (ndD (nd objs (fcOf objs g0.fl) (ks[k]).2)),.bool true])/\BelSt s i p B objs tg0 w0 g0 t0 w' (lim+800) lb es a n c L/\∀ k,wr.heap.size<=k->k<W.heap.size->w'.heap[k]? = W.heap[k]?/\∀ w'',w'.grownBy w'' (some k)->BelSt s i p B objs tg0 w0 g0 t0 w'' (lim+800) lb es a n c L:=by
 obtain⟨tg,g,t,m,hQ,hA,hN,hlb,hR,ho⟩:=h
 obtain⟨c',hc',hnd,hki,_⟩:=bel_kid hQ hA h0 hk0 hr hk
 have hrev:q.reverse.reverse=q:=List.reverse_reverse _
 have hcd:cont objs g.fl c'=ndD (nd objs (fcOf objs g0.fl) (ks[k]).2):=by
  rw[<- hnd]
  have hk1:c'.kind=1:=by rw[hki];exact hf
  cases c' with
  | file id=>rfl
  | held f=>rfl
  | dir id=>cases hk1
  | own es=>cases hk1
 have ht:=qtold (hQ.below hb) (by omega) hA.brk (n:=(ks[k]).1) (r:=q.reverse) (by rw[hrev];exact hL) (c:=c') (by rw[hrev];exact hc') (by rw[hki];exact hf)
 rw[hrev,hcd] at ht
 refine ht.mono ?_
 rintro e w' ⟨he,tg',g',t',m',hQ',hbr',hba',f,hh⟩
 exact⟨he,bel_step m hN hlb hR ho hQ.inv.two hb hQ.inv.st.fresh m' hQ' (hA.trans (hold_alike hQ.inv.st.sound hQ.ok hQ.held hc' hh hbr' hba'))⟩
theorem BelSt.grow {wr w1:World}{lim lb:Nat}{es:List Ent}{a:Option Addr}{n c m:Nat}{L M:List Thing8}(h:BelSt s i p B objs tg0 w0 g0 t0 wr lim lb es a n c L)(hm:m=M.length){v':Value}(hown:w1.ownsRow w0.heap.size 40 3 v' (n+m) (flatT L++flatT M))(hg:wr.grownBy w1 (Value.slice a n c).ownBlock)(hloc:v'.ownBlock=(Value.slice a n c).ownBlock\/v'.ownBlock=some wr.heap.size):∃ a' c',v'=.slice a' (n+m) c'/\BelSt s i p B objs tg0 w0 g0 t0 w1 lim lb es a' (n+m) c' (L++M):=by
 obtain⟨tg,g,t,mv,hQ,hA,hN,hlb,⟨r1,r2,r3⟩,ho⟩:=h
 obtain⟨a',c',rfl⟩:∃ a' c',v'=.slice a' (n+m) c':=by
  rcases hown.2 with ⟨rfl,h0⟩ | ⟨g,c,cur,rfl,_⟩
  ·exact⟨none,0,by rw[h0]⟩
  ·exact⟨_,c,rfl⟩
 have hmv:Moves (fun t=>t=(0,0)) tg tg wr w1:=⟨hg.os,hg.tape,hg.output,hg.size,fun k hk=>rfl,fun k hk hn=>hg.block k hk (fun e=>hn (r3 k e.symm)),fun hf k hk=>hf k (Nat.le_trans hg.size hk)⟩
 have hmv0:Moves (Mine i) tg0 tg w0 w1:=⟨hg.os.trans mv.os,hg.tape.trans mv.tape,hg.output.trans mv.output,Nat.le_trans mv.size hg.size,mv.tags,fun k hk hn=>(hg.block k (Nat.lt_of_lt_of_le hk mv.size) (fun e=>by have:=(r1.lt k e.symm).1;omega)).trans (mv.block k hk hn),fun hf=>hmv.fresh (mv.fresh hf)⟩
 refine⟨a',c',rfl,tg,g,t,hmv0,hQ.moves0 hmv,hA,nms_block hN (hg.block lb hN.lt (fun e=>ho e.symm)),hlb,⟨by rw[flatT_app];exact hown,by rw[List.length_append,r2,hm],fun b hb=>?_⟩,fun e=>?_⟩
 ·rcases hloc with e' | e'
  ·exact r3 b (e'.symm.trans hb)
  ·rw[e'] at hb
   rw[<- Option.some.inj hb]
   exact hQ.inv.st.fresh _ (Nat.le_refl _)
 ·rcases hloc with e' | e'
  ·exact ho (e'.symm.trans e)
  ·rw[e'] at e
   have:=hN.lt
   have:=Option.some.inj e
   omega
end
end Go.Proofs.YtajopoddmfdejaaGreat
namespace Go
set_option linter.unusedVariables false
variable {P:Program}{w:World}
theorem run_append_none8 (t ty e:TypeId)(i:TypeInfo)(ht:P.underlying t=some (.slice e))(hi:P.info? e=some i)(g n cap:Nat)(hc:n<=cap):
  (Builtin.append_ #[t,t] ty #[.slice (some ⟨g,0,none⟩) n cap,.slice none 0 0]).run P w=.ok (.slice (some ⟨g,0,none⟩) n cap) w:=by
 have hc':n+0<=cap:=by omega
 have hs:∀ a:Addr,Sem.run P (storeCells a []) w=.ok () w:=fun a=>by first | rfl | simp[storeCells,storeCellsFrom]
 simp[hs,Builtin.append_,run_underlying ht,sizeOf,typeInfo,hi,Builtin.lenOf,hc,run_firstCells_none]
theorem wpList_append_none8 {ops:Array Oper}{rest:List Oper}{o:Oper}{a:Act}{Q:Exit->Act->World->Prop}(hgd:o.guard=none)(s x:Operand)(t:TypeId)
  (ho:o.op=.call { callee:=.builtin .append,args:=#[s,x],argTypes:=#[t,t] })
  (e:TypeId)(i:TypeInfo)(ht:P.underlying t=some (.slice e))(hi:P.info? e=some i)(g n cap:Nat)(hs:a.eval s=.slice (some ⟨g,0,none⟩) n cap)(hx:a.eval x=.slice none 0 0)(hc:n<=cap)
  (h:wpList P ops Q rest (a.put o.dst (.slice (some ⟨g,0,none⟩) n cap)) w):wpList P ops Q (o :: rest) a w:=by
 refine wpList_plain hgd fun K hK=>?_
 have hr:=run_append_none8 (P:=P) (w:=w) t o.type e i ht hi g n cap hc
 unfold Oper.wp execOp
 simp only[ho,resolve,invoke,builtin,Sem.run_bind,Sem.run_pure,Result.andThen_ok,List.map_toArray,List.map_cons,List.map_nil,hs,hx,hr]
 exact hK _ _ h
end Go
namespace Go.Proofs.YtajopoddmfdejaaGreat
open Go.RowKit Go.Sort Go.Shelf Go.ChangeShapes Go.WideShapes Go.Deep
set_option linter.unusedVariables false
theorem nStep:Tryz.prog.cellsOf 24=4:=by kernel_rfl
theorem nStr1:Tryz.prog.cellsOf 9=1:=by kernel_rfl
theorem nInt1:Tryz.prog.cellsOf 3=1:=by kernel_rfl
theorem i64_of {n:Int}(h:(Lit.int .i64 n).wf=true):i64 n:=by
 simp[Lit.wf] at h
 exact h
theorem add_plain (g o j:Nat):(⟨g,o,none⟩:Addr).add j=⟨g,o+j,none⟩:=by
 unfold Addr.add
 split
 ·next h=>subst h;rfl
 ·rfl
theorem cell_of {w:World}{a:Addr}{i:Nat}{v:Value}(hs:a.spot=none)(h:w.cell? (a.add i)=some v):w.cell? ⟨a.block,a.off+i,none⟩=some v:=by
 obtain⟨b,o,sp⟩:=a
 simp only at hs
 subst hs
 rw[add_plain] at h
 exact h
theorem add_blk (a:Addr)(n:Nat):(a.add n).block=a.block:=by unfold Addr.add;split <;> rfl
section
variable {H:Type}{enc:TypeId×Value->H}{w:World}{base:Nat}{sp:Nat->Bool}{held:Bool}
theorem trod_struct4 {P:Program}{t:TypeId}{f0 f1 f2 f3:Field}{fuel:Nat}{cs:List Value}{x:DataW H×List MemPlace}(ht:P.underlying t=some (.struct #[f0,f1,f2,f3]))(h:DataW.trod enc P w base sp held fuel t cs=some x):
  ∃ y0 y1 y2 y3 n,cs.length=P.cellsOf t/\DataW.trod enc P w base sp held n f0.type ((cs.drop f0.offset).take (P.cellsOf f0.type))=some y0/\DataW.trod enc P w base sp held n f1.type ((cs.drop f1.offset).take (P.cellsOf f1.type))=some y1/\
   DataW.trod enc P w base sp held n f2.type ((cs.drop f2.offset).take (P.cellsOf f2.type))=some y2/\DataW.trod enc P w base sp held n f3.type ((cs.drop f3.offset).take (P.cellsOf f3.type))=some y3:=by
 obtain⟨xs,n,_,rfl,hl,hlen,hf⟩:=DataW.trod_struct ht h
 match xs,hlen with
 | [y0,y1,y2,y3],_=>exact⟨y0,y1,y2,y3,n,hl,by simpa using hf 0 f0 rfl,by simpa using hf 1 f1 rfl,by simpa using hf 2 f2 rfl,by simpa using hf 3 f3 rfl⟩
set_option maxRecDepth 100000 in
theorem open_step {n:Nat}{cs:List Value}{x:DataW H×List MemPlace}(h:DataW.trod enc Tryz.prog w base sp held n 24 cs=some x):∃ kd a b d,cs = [.int .i64 kd,.int .i64 a,.int .i64 b,.string d]/\i64 kd/\i64 a/\i64 b/\d.size<=maxLen:=by
 obtain⟨y0,y1,y2,y3,n',hl,g0,g1,g2,g3⟩:=trod_struct4 Tryz.underlying24 h
 rw[nStep] at hl
 match cs,hl with
 | [v0,v1,v2,v3],_=>
  simp only[nStr1,nInt1,List.drop_zero,List.drop_succ_cons,List.take_succ_cons,List.take_zero] at g0 g1 g2 g3
  obtain⟨i0,e0,_,w0⟩:=DataW.trod_int Tryz.underlying3 g0
  obtain⟨i1,e1,_,w1⟩:=DataW.trod_int Tryz.underlying3 g1
  obtain⟨i2,e2,_,w2⟩:=DataW.trod_int Tryz.underlying3 g2
  obtain⟨s3,e3,_,hs3⟩:=DataW.trod_string Tryz.underlying9 g3
  simp only[List.cons.injEq,and_true] at e0 e1 e2 e3
  subst e0;subst e1;subst e2;subst e3
  exact⟨i0,i1,i2,s3,rfl,i64_of w0,i64_of w1,i64_of w2,hs3⟩
theorem open_steps {n:Nat}{v:Value}{x:DataW H×List MemPlace}(h:DataW.trod enc Tryz.prog w base sp held n 22 [v]=some x):∃ a len c,v=.slice a len c/\len<=maxLen/\StepsAt w a len:=by
 rcases open_slice Tryz.underlying22 h with ⟨hc,_⟩ | ⟨a,len,cap,m,n',D,Pl,hc,hb,hl,hm,hmm,hxx,hall⟩
 ·simp only[List.cons.injEq,and_true] at hc
  exact⟨none,0,0,hc,Nat.zero_le _,⟨fun h=>absurd h (Nat.lt_irrefl _)⟩⟩
 ·simp only[List.cons.injEq,and_true] at hc
  have hlm:len<=m:=by rw[hmm];split <;> omega
  rw[nStep] at hall
  refine⟨some a,len,cap,hc,by omega,⟨fun hp=>?_⟩⟩
  have hsp:a.spot=none:=by
   obtain⟨cs,h1,h2⟩:=hall 0 (by omega)
   obtain⟨kd,x,y,d,rfl,_⟩:=open_step h2
   obtain⟨_,_,hcell⟩:=World.cells?_some h1
   have:=World.cell?_spot (v:=.int .i64 kd) (by rw[hcell 0 (by omega)];rfl)
   simpa [Addr.add] using this
  have hbl:a.block<w.heap.size:=by
   obtain⟨cs,h1,h2⟩:=hall 0 (by omega)
   have:=World.cells?_block h1 (by omega)
   rw[add_blk] at this;exact this
  have ha:a=⟨a.block,a.off,none⟩:=by
   obtain⟨b,o,s⟩:=a
   simp only at hsp
   subst hsp;rfl
  refine⟨a.block,a.off,by rw[<- ha],hbl,fun i hi=>?_⟩
  obtain⟨cs,h1,h2⟩:=hall i (by omega)
  obtain⟨kd,x,y,d,rfl,q0,q1,q2,q3⟩:=open_step h2
  obtain⟨_,_,hcell⟩:=World.cells?_some h1
  have hc':∀ j (hj:j<4),w.cell? ⟨a.block,a.off+i*4+j,none⟩=([Value.int .i64 kd,.int .i64 x,.int .i64 y,.string d])[j]?:=fun j hj=>by
   have:=hcell j hj
   have hj':j < [Value.int .i64 kd,.int .i64 x,.int .i64 y,.string d].length:=by simpa using hj
   rw[add_add,List.getElem?_eq_getElem hj'] at this
   rw[List.getElem?_eq_getElem hj',Nat.add_assoc]
   exact cell_of hsp this
  exact⟨kd,x,y,d,q0,q1,q2,q3,hc' 0 (by omega),hc' 1 (by omega),hc' 2 (by omega),hc' 3 (by omega)⟩
end
end Go.Proofs.YtajopoddmfdejaaGreat
