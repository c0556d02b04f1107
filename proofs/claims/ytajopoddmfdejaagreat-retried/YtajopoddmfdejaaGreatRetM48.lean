/-
  What is proved here: how many objects a store has, (Objects; GetFile and GetDir: StoreG). Mkdir, Rename, Remove, put of one of several workspaces; Objects and PutDir of nothing of their store; a commit that ..
-/
import Derived.Test.YtajopoddmfdejaaGreatRetM47
import Derived.Test.YtajopoddmfdejaaGreatRetM39
import Derived.Test.YtajopoddmfdejaaGreatRetM37
import Derived.Test.YtajopoddmfdejaaGreatRetM43
import Derived.Test.YtajopoddmfdejaaGreatRetM09
import Derived.Test.YtajopoddmfdejaaGreatRetM30
import Derived.Test.YtajopoddmfdejaaGreatRetM38
import Derived.Test.YtajopoddmfdejaaGreatRetM36
namespace Go.Proofs.YtajopoddmfdejaaGreat
open Go.RowKit Go.Sort Go.Shelf
set_option linter.unusedVariables false
set_option maxRecDepth 100000
set_option maxHeartbeats 16000000
variable {ft:PTail}
section
variable {W wr:World}{s p:Nat}{objs:List Ob}{lim:Nat}{ws:List Slot}{rows:List (Value×List Thing8)}{i:Nat}{B:WB}{g:WG}{t:LT}
end
section
variable {W wr:World}{s p:Nat}{objs:List Ob}{id:Int}{B:WB}{lim:Nat}{v v':Value}{L L':List Thing8}{rows:List (Value×List Thing8)}
end
def ghost:WG:=⟨0,⟨0,fun _=>none,fun _=>none⟩,fsAll,fun _=>none,fun _=>none⟩
theorem did_kind {a:List Ob}{g g':WG}{t t':LT}(hS:Sound a)(hok:LTok a 5 t)(hheld:∀ x f,t.at a x=some (.held f)->∃ y,g.fl f=some y)(hinj:HeldInj a t)(hbr:g.fs.brk=false){k:Int}{na nb:ByteArray}{ra rb:List ByteArray}{d:ByteArray}{er:Int}(h:StepTo a g t k na nb ra rb d er g' t'):t'.kind=t.kind:=by
 obtain⟨_,z2,z3⟩:=step_sem hS hok hheld hinj hbr h
 by_cases e:er=0
 ·have:=(z3 e).1 []
  have hn:stepS k (ra.reverse ++ [na]) (rb.reverse ++ [nb]) d (sem a (fcOf a g.fl) t) []=sem a (fcOf a g.fl) t []:=by
   have p1:¬ ([]:List ByteArray)=ra.reverse ++ [na]:=by simp
   have p2:¬ ra.reverse ++ [na] <+: []:=fun h=>by simpa using List.prefix_nil.1 h
   have p3:¬ rb.reverse ++ [nb] <+: []:=fun h=>by simpa using List.prefix_nil.1 h
   unfold stepS
   simp only[if_neg p1,if_neg p2,if_neg p3,ite_self]
  rw[hn] at this
  exact nd_kind (sem_nd this)
 ·rw[(z2 e).1]
abbrev fc0:FileC:=fun _=>⟨#[]⟩
section
variable {W wr:World}{s p:Nat}{objs x:List Ob}{id c:Int}{B:WB}{lim N:Nat}{v:Value}{L:List Thing8}
end
section
variable {W wr:World}{s p:Nat}{objs:List Ob}{lim:Nat}{ws:List Slot}{rows:List (Value×List Thing8)}{i:Nat}{B:WB}{g:WG}{t:LT}
theorem step_base {g1 g':WG}{t t':LT}{k:Int}{na nb:ByteArray}{ra rb:List ByteArray}{d:ByteArray}{er:Int}(hs:StepTo objs g1 t k na nb ra rb d er g' t'):g'.base=g1.base:=by
 rcases hs with ⟨_,_,h1,_⟩ | ⟨_,_,_,_,_,h1⟩ | ⟨_,_,_,_,_,h1⟩ | ⟨_,_,_,_,_,h1⟩ <;> exact h1
theorem status_ws9 (wb bt:Nat)(R:Value->Int->World->Prop)(w:World)(hwb:wb<w.heap.size)(c0:w.cell? ⟨wb,0,none⟩=some (.pointer (some ⟨bt,0,none⟩)))
  (hc:Calls Tryz.prog 53 #[.pointer (some ⟨bt,0,none⟩)] w fun e w'=>∃ v er,e=.returned (.tuple #[v,.int .i64 er])/\R v er w'):
  Calls Tryz.prog 27 #[.pointer (some ⟨wb,0,none⟩)] w fun e w'=>∃ v er,e=.returned (.tuple #[v,.int .i64 er])/\R v er w':=by
 have HC:Hid _:=hc
 clear hc
 go_enter Tryz.func27,Tryz.ntmps27
 go_wp2_with (go_at_call 53;refine Calls.mono HC.out ?_;rintro e w1 ⟨v,er,rfl,hR⟩)
 go_ret2
 exact⟨v,er,rfl,hR⟩
end
theorem break_walk (p:Nat)(how:Int)(w:World)(c4:∃ b,w.cell? ⟨p,4,none⟩=some (.bool b))(f4:w.frozen? ⟨p,4,none⟩=false)(hh:how=1\/how=2):
  Calls Tryz.prog 59 #[.pointer (some ⟨p,0,none⟩),.int .i64 how] w fun e w'=>e=.returned (.int .i64 0)/\w'=w.setCell ⟨p,4,none⟩ (.bool true):=by
 obtain⟨b,c4⟩:=c4
 rcases hh with rfl | rfl
 ·go_enter Tryz.func59,Tryz.ntmps59
  go_wp2
  go_ret
  exact⟨rfl,rfl⟩
 ·go_enter Tryz.func59,Tryz.ntmps59
  go_wp2
  go_ret
  exact⟨rfl,rfl⟩
theorem break_any {tg:Tags}{w:World}{s p:Nat}{objs:List Ob}{got:List Int}{brk:Bool}{lim:Nat}(h:SInv tg w s p objs got brk lim){how:Int}(hh:how=1\/how=2):
  Calls Tryz.prog 59 #[.pointer (some ⟨p,0,none⟩),.int .i64 how] w fun e w'=>e=.returned (.int .i64 0)/\Moves Got tg tg w w'/\SInv tg w' s p objs got true lim:=by
 obtain⟨hfr,ft,hb,hi,hg,hs,hgl⟩:=h
 have hi':=hi
 obtain⟨a,cap,bf,bd,Df,Dd,i⟩:=hi'
 have hat:=i.pool.at_
 have hlt:=hat.lt
 have hpt:tg p=(1,0):=i.fp
 have hpa:some p≠(Value.slice ft.a ft.n ft.c).ownBlock:=owns_ne_cells hg.1 hat (by decide)
 have c4:w.cell? ⟨p,4,none⟩=some (.bool ft.b):=by unfold PoolAt at hat;simp[World.cell?,hat]
 have f4:w.frozen? ⟨p,4,none⟩=false:=by unfold PoolAt at hat;simp[World.frozen?,hat]
 refine (break_walk p how w ⟨_,c4⟩ f4 hh).mono ?_
 rintro e w' ⟨rfl,rfl⟩
 refine⟨rfl,⟨rfl,rfl,rfl,by simp,fun _ _=>rfl,fun k hk hn=>Below.heap_setCell _ _ _ _ (fun e=>hn (by rw[e,hpt];exact .inl rfl)),fun hf k hk=>hf k (by simpa using hk)⟩,fun k hk=>hfr k (by simpa using hk),{ ft with b:=true },rfl,?_,⟨?_,hg.2.1,hg.2.2⟩,hs,hgl⟩
 ·refine hi.tail (fun a' n' cap' bf' bd' h'=>?_) (fun k hk hF hne=>Below.heap_setCell _ _ _ _ hne) (fun k hk hF=>hF)
  unfold PoolAt at h' ⊢
  simp[World.setCell,Array.getElem?_modify,h']
 ·exact ownsRow_keep hg.1 (fun g hgg=>Below.heap_setCell _ _ _ _ (fun e=>hpa (by rw[hgg,e])))
theorem sbreak_walk (s p:Nat)(how:Int)(R:World->Prop)(w:World)(c0:w.cell? ⟨s,0,none⟩=some (.pointer (some ⟨p,0,none⟩)))
  (hc:Calls Tryz.prog 59 #[.pointer (some ⟨p,0,none⟩),.int .i64 how] w fun e w'=>e=.returned (.int .i64 0)/\R w'):
  Calls Tryz.prog 38 #[.pointer (some ⟨s,0,none⟩),.int .i64 how] w fun e w'=>e=.returned (.int .i64 0)/\R w':=by
 go_enter Tryz.func38,Tryz.ntmps38
 go_wp2_with fail
 refine hc.mono ?_
 rintro e w' ⟨rfl,hR⟩
 go_wp2
 go_ret
 exact⟨rfl,hR⟩
section
variable {s i p:Nat}{B:WB}{objs:List Ob}
theorem sbreak_any {tg:Tags}{w:World}{g:WG}{lim:Nat}(h:WInv tg w s i p B objs g lim){how:Int}(hh:how=1\/how=2):
  Calls Tryz.prog 38 #[.pointer (some ⟨s,0,none⟩),.int .i64 how] w fun e w'=>e=.returned (.int .i64 0)/\Moves (Mine i) tg tg w w'/\WInv tg w' s i p B objs { g with fs:={ g.fs with brk:=true } } lim:=by
 have c0:w.cell? ⟨s,0,none⟩=some (.pointer (some ⟨p,0,none⟩)):=by
  obtain⟨hfr,ft,hb,⟨a,cap,bf,bd,Df,Dd,hI⟩,_⟩:=h.st
  exact hI.c0
 refine (sbreak_walk s p how _ w c0 (break_any h.st hh)).mono ?_
 rintro e w' ⟨rfl,m,hS⟩
 refine⟨rfl,m.mono (fun t ht=>?_),h.two,hS,?_⟩
 ·rcases ht with rfl | rfl <;> exact .inl rfl
 ·have hw:=h.wp.moves m (fun k hk=>by have:=h.two;rcases hk with hk | hk <;> injection hk with h1 h2 <;> omega)
  exact⟨hw.tree,hw.keptF,hw.keptD,hw.ownF,hw.ownD,hw.files,hw.held,hw.opens,hw.ok⟩
end
abbrev RowG:=TypeId×Nat×Value×Nat×List Value
def RowsG (tg:Tags)(w:World)(n:Nat)(rows:List RowG):Prop:=∀ r ∈ rows,w.ownsRow n r.1 r.2.1 r.2.2.1 r.2.2.2.1 r.2.2.2.2/\∀ b,r.2.2.1.ownBlock=some b->tg b=(0,0)
theorem RowsG.any {P:Nat×Nat->Prop}{tg tg':Tags}{w w':World}{n:Nat}{rows:List RowG}(h:RowsG tg w n rows)(hP:¬ P (0,0))(m:Moves P tg tg' w w'):RowsG tg' w' n rows:=by
 intro r hr
 obtain⟨h1,h2⟩:=h r hr
 have hk:∀ b,r.2.2.1.ownBlock=some b->w'.heap[b]? = w.heap[b]?/\tg' b=(0,0):=fun b hb=>by
  have hlt:=ownsRow_lt h1 hb
  exact⟨m.block b hlt (by rw[h2 b hb];exact hP),(m.tags b hlt).trans (h2 b hb)⟩
 exact⟨ownsRow_keep h1 (fun g hg=>(hk g hg).1),fun b hb=>(hk b hb).2⟩
theorem row_from {w:World}{n:Nat}{e:TypeId}{size:Nat}{v:Value}{m:Nat}{xs:List Value}(h:w.ownsRow 0 e size v m xs)(hb:∀ b,v.ownBlock=some b->n<=b):w.ownsRow n e size v m xs:=by
 obtain⟨h1,h2⟩:=h
 refine⟨h1,?_⟩
 rcases h2 with h | ⟨g,c,cur,hv,_,r⟩
 ·exact .inl h
 ·exact .inr ⟨g,c,cur,hv,hb g (by rw[hv];rfl),r⟩
def setB (g:WG)(got:List Int)(brk:Bool):WG:={ g with fs:={ g.fs with got:=got,brk:=brk } }
def ManyG (W wr:World)(s p:Nat)(objs:List Ob)(lim:Nat)(brk:Bool)(ws:List Slot)(rows:List RowG):Prop:=
 ∃ tg got,Old W wr tg/\SInv tg wr s p objs got brk lim/\(∀ x ∈ ws,WsAt tg wr p objs lim x)/\(ws.map (·.1)).Nodup/\RowsG tg wr W.heap.size rows
section
variable {W wr:World}{s p:Nat}{objs:List Ob}{lim:Nat}{brk:Bool}{ws:List Slot}{rows:List RowG}{i:Nat}{B:WB}{g:WG}{t:LT}
theorem ManyG.of (h:Many W wr s p objs lim ws []):ManyG W wr s p objs lim false ws []:=by
 obtain⟨tg,got,hO,hS,hw,hn,_⟩:=h
 exact⟨tg,got,hO,hS,hw,hn,fun r hr=>by cases hr⟩
theorem ManyG.perm {ws':List Slot}(h:ManyG W wr s p objs lim brk ws rows)(hp:ws.Perm ws'):ManyG W wr s p objs lim brk ws' rows:=by
 obtain⟨tg,got,hO,hS,hw,hn,hr⟩:=h
 exact⟨tg,got,hO,hS,fun x hx=>hw x (hp.mem_iff.2 hx),(hp.map _).nodup_iff.1 hn,hr⟩
theorem ManyG.old (h:ManyG W wr s p objs lim brk ws rows):Below W.heap.size W wr:=by
 obtain⟨tg,got,hO,_⟩:=h
 exact hO.1
theorem ManyG.below {w':World}(h:ManyG W wr s p objs lim brk ws rows)(hb:Below wr.heap.size wr w'):ManyG W w' s p objs lim brk ws rows:=by
 obtain⟨tg,got,hO,hS,hw,hn,hr⟩:=h
 have m:Moves (fun _=>False) tg tg wr w':=Moves.of_below hb
 exact⟨tg,got,hO.any (fun h=>h) m,hS.moves m (fun h=>h) (fun h=>h),fun x hx=>(hw x hx).moves m (fun _ h=>h),hn,hr.any (fun h=>h) m⟩
theorem ManyG.row (h:ManyG W wr s p objs lim brk ws rows){r:RowG}(hr:r ∈ rows):wr.ownsRow W.heap.size r.1 r.2.1 r.2.2.1 r.2.2.2.1 r.2.2.2.2:=by
 obtain⟨tg,got,hO,hS,hw,hn,hR⟩:=h
 exact (hR r hr).1
theorem ManyG.slot (h:ManyG W wr s p objs lim brk ws rows)(hx:(i,B,g,t) ∈ ws):LTok objs 5 t/\HeldInj objs t/\(∀ x f,t.at objs x=some (.held f)->∃ y,g.fl f=some y)/\(Exact objs->FlSz objs g.fl):=by
 obtain⟨tg,got,hO,hS,hw,_⟩:=h
 have h1:=hw _ hx
 refine⟨h1.ok,h1.inj,fun x f ha=>h1.wp.held x f (by rw[h1.flat.of,ha];rfl),fun hX f id d hf=>⟨fun h0=>h1.fl f id d hf h0,fun _=>(h1.wp.files f id d hf).2.2⟩⟩
theorem ManyG.nil (h:ManyG W wr s p objs lim brk ws rows)(ty:TypeId)(sz:Nat):ManyG W wr s p objs lim brk ws ((ty,sz,.slice none 0 0,0,[]) :: rows):=by
 obtain⟨tg,got,hO,hS,hw,hn,hr⟩:=h
 refine⟨tg,got,hO,hS,hw,hn,fun r hrr=>?_⟩
 rcases List.mem_cons.1 hrr with rfl | hrr
 ·exact⟨World.ownsRow_nil _ _ _ _,fun b hb=>by cases hb⟩
 ·exact hr r hrr
theorem ManyG.grow {ty:TypeId}{sz n n':Nat}{v v':Value}{xs xs':List Value}{w1:World}(h:ManyG W wr s p objs lim brk ws [(ty,sz,v,n,xs)])(hown:w1.ownsRow W.heap.size ty sz v' n' xs')(hg:wr.grownBy w1 v.ownBlock)(hloc:v'.ownBlock=v.ownBlock\/v'.ownBlock=some wr.heap.size):ManyG W w1 s p objs lim brk ws [(ty,sz,v',n',xs')]:=by
 obtain⟨tg,got,hO,hS,hw,hn,hr⟩:=h
 obtain⟨r1,r3⟩:=hr _ (List.mem_cons_self ..)
 have r1':wr.ownsRow W.heap.size ty sz v n xs:=r1
 have r3':∀ b,v.ownBlock=some b->tg b=(0,0):=r3
 have hmv:Moves (fun t=>t=(0,0)) tg tg wr w1:=⟨hg.os,hg.tape,hg.output,hg.size,fun k hk=>rfl,fun k hk hn=>hg.block k hk (fun e=>hn (r3' k e.symm)),fun hf k hk=>hf k (Nat.le_trans hg.size hk)⟩
 have hbe:Below W.heap.size W w1:=⟨hg.os.trans hO.1.os,hg.tape.trans hO.1.tape,hg.output.trans hO.1.output,Nat.le_trans hO.1.size hg.size,fun k hk=>(hg.block k (Nat.lt_of_lt_of_le hk hO.1.size) (fun e=>by have:=(r1'.lt k e.symm).1;omega)).trans (hO.1.block k hk)⟩
 refine⟨tg,got,⟨hbe,hO.2⟩,hS.moves hmv (fun e=>by cases e) (fun e=>by cases e),fun x hx=>(hw x hx).moves hmv (fun k e=>by have:=(hw x hx).two;have:=congrArg Prod.fst e;simp only at this;omega),hn,fun r hrr=>?_⟩
 rw[List.mem_singleton.1 hrr]
 refine⟨hown,fun b hb=>?_⟩
 rcases hloc with e' | e'
 ·exact r3' b (e'.symm.trans hb)
 ·have hb':v'.ownBlock=some b:=hb
  rw[e'] at hb'
  rw[<- Option.some.inj hb']
  exact hS.fresh _ (Nat.le_refl _)
theorem ManyG.head (h:ManyG W wr s p objs lim brk ((i,B,g,t) :: ws) rows):∃ tg got,QInv tg wr s i p B objs (setB g got brk) lim t/\HeldInj objs t/\Old W wr tg/\
  ∀ {tg':Tags} {w':World} {g':WG} {t':LT} {lim':Nat},lim<=lim'->Moves (Mine i) tg tg' wr w'->QInv tg' w' s i p B objs g' lim' t'->HeldInj objs t'->ManyG W w' s p objs lim' g'.fs.brk ((i,B,g',t') :: ws) rows/\∀ ty sz v n xs,w'.ownsRow 0 ty sz v n xs->(∀ b,v.ownBlock=some b->wr.heap.size<=b/\tg' b=(0,0))->ManyG W w' s p objs lim' g'.fs.brk ((i,B,g',t') :: ws) ((ty,sz,v,n,xs) :: rows):=by
 obtain⟨tg,got,hO,hS,hw,hn,hr⟩:=h
 have hx:=hw _ (List.mem_cons_self ..)
 have h2:2<=i:=hx.two
 refine⟨tg,got,⟨⟨hx.two,hS,?_⟩,hx.flat,hx.ok,hx.fl,hx.op⟩,hx.inj,hO,fun {tg' w' g' t' lim'} hl m hQ hi=>?_⟩
 ·exact⟨hx.wp.tree,hx.wp.keptF,hx.wp.keptD,hx.wp.ownF,hx.wp.ownD,hx.wp.files,hx.wp.held,hx.wp.opens,hx.wp.ok⟩
 ·have hS':=hQ.inv.st
  have h0:=mine0 h2
  rw[List.map_cons,List.nodup_cons] at hn
  have hws:∀ x ∈ ((i,B,g',t') :: ws:List Slot),WsAt tg' w' p objs lim' x:=fun x hxx=>by
   rcases List.mem_cons.1 hxx with rfl | hxx
   ·exact⟨h2,hQ.inv.wp,hQ.flat,hQ.ok,hQ.fl,hQ.op,hi⟩
   ·have hx1:=hw x (List.mem_cons_of_mem _ hxx)
    have hne:x.1≠i:=fun e=>hn.1 (List.mem_map.2 ⟨x,hxx,e⟩)
    have hm:=hx1.moves m (fun k hk=>by
     rcases hk with hk | hk
     ·have:=hx1.two
      simp only at hk
      omega
     ·exact hne hk)
    exact⟨hm.two,hm.wp.mono hl,hm.flat,hm.ok,hm.fl,hm.op,hm.inj⟩
  have hnd:(((i,B,g',t') :: ws:List Slot).map (·.1)).Nodup:=by
   rw[List.map_cons,List.nodup_cons];exact hn
  refine⟨⟨tg',_,hO.any h0 m,hS',hws,hnd,hr.any h0 m⟩,fun ty sz v n xs hv hbb=>⟨tg',_,hO.any h0 m,hS',hws,hnd,fun r hrr=>?_⟩⟩
  rcases List.mem_cons.1 hrr with rfl | hrr
  ·exact⟨row_from hv (fun b hb=>Nat.le_trans hO.1.size (hbb b hb).1),fun b hb=>(hbb b hb).2⟩
  ·exact hr.any h0 m r hrr
theorem mg_break (h:ManyG W wr s p objs lim brk ((i,B,g,t) :: ws) rows){how:Int}(hh:how=1\/how=2):
  Calls Tryz.prog 38 #[.pointer (some ⟨s,0,none⟩),.int .i64 how] wr fun e w'=>e=.returned (.int .i64 0)/\∃ g',g'.fl=g.fl/\g'.base=g.base/\g'.fs.kD=g.fs.kD/\ManyG W w' s p objs lim true ((i,B,g',t) :: ws) rows:=by
 obtain⟨tg,got,hQ,hinj,hO,hnext⟩:=h.head
 refine (sbreak_any hQ.inv hh).mono ?_
 rintro e w' ⟨he,m,hW⟩
 exact⟨he,{ setB g got brk with fs:={ (setB g got brk).fs with brk:=true } },rfl,rfl,rfl,(hnext (Nat.le_refl _) m ⟨hW,hQ.flat,hQ.ok,hQ.fl,hQ.op⟩ hinj).1⟩
theorem mg_do (h:ManyG W wr s p objs lim brk ((i,B,g,t) :: ws) rows)(hl:lim+1000<1099511627776){kd a b:Int}{d:ByteArray}(hk:i64 kd)(ha:i64 a)(hb:i64 b)(hd:d.size<=maxLen){na nb:ByteArray}{ra rb:List ByteArray}(hpa:pathL a=ra.reverse ++ [na])(hpb:pathL b=rb.reverse ++ [nb]):
  Calls Tryz.prog 14 #[.pointer (some ⟨B.wb,0,none⟩),.agg #[.int .i64 kd,.int .i64 a,.int .i64 b,.string d]] wr fun e w'=>∃ er g' t' g1,e=.returned (.int .i64 er)/\g1.fl=g.fl/\g1.fs.brk=brk/\StepTo objs g1 t (pickN kd 6) na nb ra rb (shortB d) er g' t'/\g'.base=g.base/\big objs 5 t'<=big objs 5 t+1/\ManyG W w' s p objs (lim+500) g'.fs.brk ((i,B,g',t') :: ws) rows:=by
 obtain⟨tg,got,hQ,hinj,hO,hnext⟩:=h.head
 have hla:=(pathL_letters a).len
 have hlb:=(pathL_letters b).len
 rw[hpa] at hla
 rw[hpb] at hlb
 simp at hla hlb
 refine (do_exact hQ hl kd a b d hk ha hb hd hpa hpb).mono ?_
 rintro e w' ⟨er,he,tg',g',t',m,hQ',hs⟩
 obtain⟨hi',hbig⟩:=step_inj hQ.inv.st.sound hQ.ok hQ.held hinj (by omega) (by omega) hs
 exact⟨er,g',t',setB g got brk,he,rfl,rfl,hs,(step_base hs).trans rfl,hbig,(hnext (by omega) m hQ' hi').1⟩
theorem mg_status (h:ManyG W wr s p objs lim brk ((i,B,g,t) :: ws) rows)(hX:Exact objs)(hOn:Once objs)(hfew:objs.length+2*cntO 5 t<3000)(hbase:LTok objs 5 (.dir g.base))(hl:lim+110000000<1099511627776):
  Calls Tryz.prog 27 #[.pointer (some ⟨B.wb,0,none⟩)] wr fun e w'=>∃ v er g',e=.returned (.tuple #[v,.int .i64 er])/\g'.fl=g.fl/\g'.base=g.base/\((er=0/\g'.fs.brk=brk/\∃ L,Told8 objs g.fl t g.base L/\ManyG W w' s p objs (lim+110000000) brk ((i,B,g',t) :: ws) ((58,2,v,L.length,flatC L) :: rows))\/(er=14/\brk=true/\v=.slice none 0 0/\ManyG W w' s p objs (lim+110000000) false ((i,B,g',t) :: ws) rows)):=by
 obtain⟨tg,got,hQ,hinj,hO,hnext⟩:=h.head
 obtain⟨hwb,c0,_⟩:=hQ.ws
 have hB:Base8 tg wr s i p B objs (setB g got brk) lim t:=⟨hQ.inv,hQ.flat,hX,hQ.fl⟩
 refine (status_ws9 B.wb B.bt (fun v er w'=>∃ g',g'.fl=g.fl/\g'.base=g.base/\((er=0/\g'.fs.brk=brk/\∃ L,Told8 objs g.fl t g.base L/\ManyG W w' s p objs (lim+110000000) brk ((i,B,g',t) :: ws) ((58,2,v,L.length,flatC L) :: rows))\/(er=14/\brk=true/\v=.slice none 0 0/\ManyG W w' s p objs (lim+110000000) false ((i,B,g',t) :: ws) rows))) wr hwb c0 ((status_any hB hQ.ok hOn hfew hbase hl).mono ?_)).mono ?_
 ·rintro e w' ⟨v,er,he,tg',fs',m,hW,hcase⟩
  have hN:=hnext (g':={ setB g got brk with fs:=fs' }) (by omega) (m.mono (fun _ h=>h.mine)) ⟨hW,hQ.flat,hQ.ok,hQ.fl,hQ.op⟩ hinj
  rcases hcase with ⟨rfl,hNx,L,hT,hrow,hbb⟩ | ⟨rfl,hv,hF⟩
  ·have hbk:fs'.brk=brk:=hNx.1
   refine⟨v,0,he,{ setB g got brk with fs:=fs' },rfl,rfl,.inl ⟨rfl,hbk,L,hT,?_⟩⟩
   have:=hN.2 58 2 v L.length (flatC L) hrow hbb
   rw[show ({ setB g got brk with fs:=fs' }:WG).fs.brk=brk from hbk] at this
   exact this
  ·refine⟨v,14,he,{ setB g got brk with fs:=fs' },rfl,rfl,.inr ⟨rfl,hF.1,hv,?_⟩⟩
   have:=hN.1
   rw[show ({ setB g got brk with fs:=fs' }:WG).fs.brk=false by rw[hF.2]] at this
   exact this
 ·rintro e w' ⟨v,er,he,g',h1,h2,h3⟩
  exact⟨v,er,g',he,h1,h2,h3⟩
theorem at_app {a:List Ob}(hS:Sound a)(l:List Ob):∀ (x:List ByteArray) (n:Nat) (t:LT),LTok a n t->t.at (a++l) x=t.at a x
 | [],n,t,_=>by rw[at_nil,at_nil]
 | m :: x,n,t,ht=>by
  rw[at_cons,at_cons]
  have hk:kids (a++l) t=kids a t:=by
   cases t with
   | file i=>rfl
   | held f=>rfl
   | own es=>rfl
   | dir i=>
    have hki:kindOf a i=2:=by cases n <;> (rw[LTok] at ht;exact ht.1)
    show some _=some _
    rw[entsOf_app l (by rw[hki];decide)]
  rw[hk]
  cases hks:kids a t with
  | none=>rfl
  | some ks=>
   simp only[Option.bind_some]
   cases hp:pickK ks m with
   | none=>rfl
   | some c=>
    simp only[Option.bind_some]
    obtain⟨k,_,hc⟩:=((ok_kids hS ht hks).2.2 (m,c) (pick_in8 hp)).2
    exact at_app hS l x k c hc
theorem WsAt.app {tg:Tags}{w:World}{x:Slot}(hS:Sound objs)(h:WsAt tg w p objs lim x)(l:List Ob):WsAt tg w p (objs++l) lim x:=by
 have hat:=fun q=>at_app hS l q 5 _ h.ok
 have hb:∀ id,kindOf objs id=1->bytesOf (objs++l) id=bytesOf objs id:=fun id hk=>bytesOf_app l (by rw[hk];decide)
 have he:∀ id,kindOf objs id=2->entsOf (objs++l) id=entsOf objs id:=fun id hk=>entsOf_app l (by rw[hk];decide)
 have hkk:∀ id k,kindOf objs id=k->k≠0->kindOf (objs++l) id=k:=fun id k hk h0=>by rw[kindOf_app l (by rw[hk];exact h0)];exact hk
 refine⟨h.two,?_,⟨h.flat.kind,h.flat.root,fun q=>by rw[hat q];exact h.flat.od q,fun q=>by rw[hat q];exact h.flat.of q⟩,LTok_app l 5 _ h.ok,fun f id d hf h0=>hkk id 1 (h.fl f id d hf h0) (by decide),h.op,fun y z b h1 h2=>by rw[hat] at h1 h2;exact h.inj y z b h1 h2⟩
 have hw:=h.wp
 obtain⟨tF,nF,MF,lF,vF,mF,kF⟩:=hw.keptF
 obtain⟨tD,nD,MD,vK,lD,vD,mD,kD⟩:=hw.keptD
 refine⟨hw.tree,⟨tF,nF,MF,lF,vF,fun id=>?_,fun id hid=>hkk id 1 (kF id hid) (by decide)⟩,⟨tD,nD,MD,vK,lD,vD,mD,fun id hid=>⟨hkk id 2 (kD id hid).1 (by decide),by rw[he id (kD id hid).1];exact (kD id hid).2⟩⟩,hw.ownF,hw.ownD,hw.files,hw.held,hw.opens,⟨fun h0=>hkk _ 2 (hw.ok.root h0) (by decide),fun q es ho e hx=>?_⟩⟩
 ·rw[mF id]
  by_cases hk:x.2.2.1.fs.kF id=true
  ·rw[if_pos hk,if_pos hk,hb id (kF id hk)]
  ·rw[if_neg hk,if_neg hk]
 ·obtain⟨e1,e2⟩:=hw.ok.od q es ho e hx
  exact⟨e1,fun h0=>hkk _ _ (e2 h0) (by rcases e1 with h | h <;> (rw[h];decide))⟩
theorem mg_commit (h:ManyG W wr s p objs lim brk ((i,B,g,t) :: ws) rows)(hX:Exact objs)(hOn:Once objs)(hfew:objs.length+2*cntO 5 t<3000)(hroom:(objR g.fl 5 t objs).2.length<=400)(hk:t.kind=2):
  Calls Tryz.prog 20 #[.pointer (some ⟨B.wb,0,none⟩)] wr fun e w'=>∃ l,e=.returned (.tuple #[.int .i64 (objR g.fl 5 t objs).1,.int .i64 0])/\Exact (objs++l)/\Once (objs++l)/\(objs++l).length=(objR g.fl 5 t objs).2.length/\LTok (objs++l) 5 (.dir (objR g.fl 5 t objs).1)/\SemEq (objs++l) fcE (.dir (objR g.fl 5 t objs).1) objs (fcOf objs g.fl) t/\ManyG W w' s p (objs++l) lim brk ((i,B,g,t) :: ws) rows:=by
 obtain⟨tg,got,hO,hS,hw,hn,hr⟩:=h
 have hx:=hw _ (List.mem_cons_self ..)
 have hQ:QInv tg wr s i p B objs (setB g got brk) lim t:=⟨⟨hx.two,hS,⟨hx.wp.tree,hx.wp.keptF,hx.wp.keptD,hx.wp.ownF,hx.wp.ownD,hx.wp.files,hx.wp.held,hx.wp.opens,hx.wp.ok⟩⟩,hx.flat,hx.ok,hx.fl,hx.op⟩
 obtain⟨hwb,c0,_⟩:=hQ.ws
 have hB:Base8 tg wr s i p B objs (setB g got brk) lim t:=⟨hQ.inv,hQ.flat,hX,hQ.fl⟩
 have hob:=objR_ok g.fl 5 (Nat.le_refl _) t objs hX hQ.ok hB.flSz
 have hrd:=objR_reads g.fl fcE 5 (Nat.le_refl _) t objs hX hQ.ok hB.flSz
 have hca:=commit_any hB hQ.ok hfew hroom
 refine (commit_ws B.wb B.bt _ _ wr hwb c0 hca).mono ?_
 rintro e w' ⟨he,x',tg',⟨l,rfl⟩,hsame,m,hS'⟩
 have hk':kindOf (objs++l) (objR g.fl 5 t objs).1=2:=by rw[hsame.kind];exact hob.kind.trans hk
 have hX':Exact (objs++l):=hsame.exact (hob.dr.exact hX)
 have hok':LTok (objs++l) 5 (.dir (objR g.fl 5 t objs).1):=by
  rw[LTok]
  exact⟨hk',by rw[hsame.high];exact hob.high⟩
 rw[hk] at hrd
 refine⟨l,he,hX',hsame.once (hob.dr.once hOn),hsame.len,hok',fun y=>(sem_same hX'.sound hsame _ y 5 _ hok').trans (hrd y),tg',_,hO.any (by simp) m,hS',fun x hx=>((hw x hx).moves m (fun k hk=>?_)).app hX.sound l,hn,hr.any (by simp) m⟩
 have:=(hw x hx).two
 have:=congrArg Prod.fst hk
 simp only at this
 omega
end
def stepK (kd:Int):Int:=3+pickN kd 3
theorem stepK_range (kd:Int):3<=stepK kd/\stepK kd<=5:=by
 have:=pickN_range (c:=kd) (n:=3) (by decide)
 unfold stepK
 omega
theorem stepK_pick (kd:Int):pickN (stepK kd) 6=stepK kd:=by
 have:=stepK_range kd
 unfold pickN
 split
 ·omega
 ·omega
def lastN (x:Int):ByteArray:=(pathL x).getLastD ⟨#[]⟩
def initR (x:Int):List ByteArray:=(pathL x).dropLast.reverse
theorem path_split (x:Int):pathL x=(initR x).reverse ++ [lastN x]:=by
 unfold initR lastN
 rw[List.reverse_reverse]
 obtain⟨n,r,h⟩:=(pathL_letters x).split
 rw[h]
 simp
def StepAt (objs:List Ob)(g:WG)(t:LT)(m:Int×Int×Int)(er:Int)(g':WG)(t':LT):Prop:=StepTo objs g t (stepK m.1) (lastN m.2.1) (lastN m.2.2) (initR m.2.1) (initR m.2.2) ⟨#[]⟩ er g' t'
section
variable {objs:List Ob}{t t':LT}{g g':WG}
theorem step_data {k:Int}(hk:3<=k){na nb:ByteArray}{ra rb:List ByteArray}{d:ByteArray}{er:Int}(h:StepTo objs g t k na nb ra rb d er g' t')(d':ByteArray):StepTo objs g t k na nb ra rb d' er g' t':=by
 rcases h with ⟨h,_⟩ | h | h | h
 ·omega
 ·exact .inr (.inl h)
 ·exact .inr (.inr (.inl h))
 ·exact .inr (.inr (.inr h))
theorem step_fair {m:Int×Int×Int}{er:Int}(h:StepAt objs g t m er g' t'):(er=14/\t'=t/\g'.fl=g.fl/\g'.fs.brk=false/\g.fs.brk=true)\/(g'.fs.brk=g.fs.brk/\∃ g3,g3.fl=g'.fl/\StepAt objs { g with fs:=fsAll } t m er g3 t'):=by
 have key:∀ (fs':FS) (x all:Int×LT),Fair g.fs fs' x all (14,t)->er=x.1->t'=x.2->g'.fs=fs'->g'.fl=g.fl->(er=14/\t'=t/\g'.fl=g.fl/\g'.fs.brk=false/\g.fs.brk=true)\/(g'.fs.brk=g.fs.brk/\er=all.1/\t'=all.2):=by
  intro fs' x all hF h1 h2 h3 h4
  rcases hF with ⟨hN,rfl⟩ | ⟨hF,rfl⟩
  ·exact .inr ⟨by rw[h3];exact hN.1,h1,h2⟩
  ·exact .inl ⟨h1,h2,h4,by rw[h3,hF.2],hF.1⟩
 have hr:=stepK_range m.1
 unfold StepAt at h ⊢
 rcases h with ⟨h,_⟩ | ⟨hk,h1,h2,h3,h4,h5⟩ | ⟨hk,h1,h2,h3,h4,h5⟩ | ⟨hk,h1,h2,h3,h4,h5⟩
 ·omega
 ·rcases key _ _ _ (fair_mkdir objs t g.fs (lastN m.2.1 :: initR m.2.1)) h1 h2 h3 h4 with h | ⟨k1,k2,k3⟩
  ·exact .inl h
  ·exact .inr ⟨k1,{ g with fs:=(mkdirR objs t fsAll (lastN m.2.1 :: initR m.2.1)).1 },h4.symm,.inr (.inl ⟨hk,k2,k3,rfl,rfl,rfl⟩)⟩
 ·rcases key _ _ _ (fair_remove objs t g.fs (lastN m.2.1 :: initR m.2.1)) h1 h2 h3 h4 with h | ⟨k1,k2,k3⟩
  ·exact .inl h
  ·exact .inr ⟨k1,{ g with fs:=(removeR objs t fsAll (lastN m.2.1 :: initR m.2.1)).1 },h4.symm,.inr (.inr (.inl ⟨hk,k2,k3,rfl,rfl,rfl⟩))⟩
 ·rcases key _ _ _ (fair_rename objs t g.fs (lastN m.2.1 :: initR m.2.1) (lastN m.2.2 :: initR m.2.2)) h1 h2 h3 h4 with h | ⟨k1,k2,k3⟩
  ·exact .inl h
  ·exact .inr ⟨k1,{ g with fs:=(renameR objs t fsAll (lastN m.2.1 :: initR m.2.1) (lastN m.2.2 :: initR m.2.2)).1 },h4.symm,.inr (.inr (.inr ⟨hk,k2,k3,rfl,rfl,rfl⟩))⟩
structure Fine (objs:List Ob)(fl:Nat->Option (Int×ByteArray))(t:LT):Prop where
 ok:LTok objs 5 t
 held:∀ x f,t.at objs x=some (.held f)->∃ y,fl f=some y
 inj:HeldInj objs t
structure Run (objs:List Ob)(M:Nat->Int×Int×Int)(n:Nat)(T:Nat->LT)(F:Nat->Nat->Option (Int×ByteArray))(E:Nat->Int):Prop where
 step:∀ i,i<n->∃ g g',g.fl=F i/\g.fs.brk=false/\g'.fl=F (i+1)/\StepAt objs g (T i) (M i) (E i) g' (T (i+1))
 fine:∀ i,i<=n->Fine objs (F i) (T i)
 few:∀ i,i<=n->(T i).kind=2/\big objs 5 (T i)<=95+i
theorem Run.more {M:Nat->Int×Int×Int}{n:Nat}{T:Nat->LT}{F:Nat->Nat->Option (Int×ByteArray)}{E:Nat->Int}(h:Run objs M n T F E){er:Int}(hg:g.fl=F n)(hb:g.fs.brk=false)(hs:StepAt objs g (T n) (M n) er g' t')(hf:Fine objs g'.fl t')(hw:t'.kind=2/\big objs 5 t'<=95+(n+1)):∃ T' F' E',Run objs M (n+1) T' F' E'/\T' (n+1)=t'/\F' (n+1)=g'.fl/\T' 0=T 0/\F' 0=F 0/\E' n=er/\∀ i,i<n->E' i=E i:=by
 refine⟨fun i=>if i<=n then T i else t',fun i=>if i<=n then F i else g'.fl,fun i=>if i<n then E i else er,⟨fun i hi=>?_,fun i hi=>?_,fun i hi=>?_⟩,if_neg (by omega),if_neg (by omega),if_pos (Nat.zero_le _),if_pos (Nat.zero_le _),if_neg (by omega),fun i hi=>if_pos hi⟩
 ·by_cases e:i<n
  ·obtain⟨a,b,h1,h2,h3,h4⟩:=h.step i e
   refine⟨a,b,?_,h2,?_,?_⟩
   ·simp only[if_pos (show i<=n by omega)];exact h1
   ·simp only[if_pos (show i+1<=n by omega)];exact h3
   ·simp only[if_pos (show i<=n by omega),if_pos (show i+1<=n by omega),if_pos e];exact h4
  ·have:i=n:=by omega
   subst this
   refine⟨g,g',?_,hb,?_,?_⟩
   ·simp only[if_pos (Nat.le_refl i)];exact hg
   ·simp only[if_neg (show ¬ i+1<=i by omega)]
   ·simp only[if_pos (Nat.le_refl i),if_neg (show ¬ i+1<=i by omega),if_neg (Nat.lt_irrefl i)];exact hs
 ·by_cases e:i<=n
  ·simp only[if_pos e];exact h.fine i e
  ·simp only[if_neg e];exact hf
 ·by_cases e:i<=n
  ·simp only[if_pos e];exact h.few i e
  ·have:i=n+1:=by omega
   subst this
   simp only[if_neg e];exact hw
theorem run_next {a:List Ob}(hXa:Exact a)(hXo:Exact objs){M:Nat->Int×Int×Int}{n i:Nat}{T:Nat->LT}{F:Nat->Nat->Option (Int×ByteArray)}{E:Nat->Int}(hr:Run objs M n T F E)(hi:i<n)(hf:Fine a g.fl t)(hs:SemEq a (fcOf a g.fl) t objs (fcOf objs (F i)) (T i)){er:Int}(h:StepAt a g t (M i) er g' t'):
  (er=14/\t'=t/\g'.fl=g.fl/\g'.fs.brk=false/\g.fs.brk=true)\/(er=E i/\er≠14/\g'.fs.brk=g.fs.brk/\SemEq a (fcOf a g'.fl) t' objs (fcOf objs (F (i+1))) (T (i+1))):=by
 rcases step_fair h with h | ⟨hb,g3,e3,h3⟩
 ·exact .inl h
 ·obtain⟨g1,g2,f1,b1,f2,h2⟩:=hr.step i hi
  have hfi:=hr.fine i (by omega)
  have h14:=(step_sem (g:={ g with fs:=fsAll }) hXa.sound hf.ok hf.held hf.inj rfl h3).1
  obtain⟨e1,e2⟩:=step_two (g:={ g with fs:=fsAll }) hXa hXo hf.ok hfi.ok hf.held (fun x f hx=>by rw[f1];exact hfi.held x f hx) hf.inj hfi.inj rfl b1 (by rw[f1];exact hs) h3 h2
  refine .inr ⟨e1,h14,hb,?_⟩
  rw[e3,f2] at e2
  exact e2
theorem rising_eq:∀ {L M:List Chg8},L.Pairwise (fun x y=>cmpN x.1 y.1<0)->M.Pairwise (fun x y=>cmpN x.1 y.1<0)->(∀ x,x ∈ L↔x ∈ M)->L=M
 | [],[],_,_,_=>rfl
 | [],y :: M,_,_,h=>by have:=(h y).2 (List.mem_cons_self ..);cases this
 | x :: L,[],_,_,h=>by have:=(h x).1 (List.mem_cons_self ..);cases this
 | x :: L,y :: M,hL,hM,h=>by
  obtain⟨l1,l2⟩:=List.pairwise_cons.1 hL
  obtain⟨m1,m2⟩:=List.pairwise_cons.1 hM
  have irr:∀ z:Chg8,¬ cmpN z.1 z.1<0:=fun z hz=>by rw[cmpN_self] at hz;omega
  have e:x=y:=by
   rcases List.mem_cons.1 ((h x).1 (List.mem_cons_self ..)) with e | hx
   ·exact e
   ·rcases List.mem_cons.1 ((h y).2 (List.mem_cons_self ..)) with e | hy
    ·exact e.symm
    ·exact absurd (cmpN_trans (m1 x hx) (l1 y hy)) (irr y)
  subst e
  congr 1
  refine rising_eq l2 m2 (fun z=>⟨fun hz=>?_,fun hz=>?_⟩)
  ·rcases List.mem_cons.1 ((h z).1 (List.mem_cons_of_mem _ hz)) with e | hx
   ·rw[e] at hz;exact absurd (l1 x hz) (irr x)
   ·exact hx
  ·rcases List.mem_cons.1 ((h z).2 (List.mem_cons_of_mem _ hz)) with e | hx
   ·rw[e] at hz;exact absurd (m1 x hz) (irr x)
   ·exact hx
theorem told_mem {fl:Nat->Option (Int×ByteArray)}{base:Int}{L:List Chg8}(hS:Sound objs)(ht:LTok objs 5 t)(hu:LTok objs 5 (.dir base))(h:Told8 objs fl t base L)(x:Chg8):x ∈ L ↔ ∃ y,x.1=joinB y/\chgAt (sem objs (fcOf objs fl) t) (sem objs fcE (.dir base)) y=some x.2:=by
 rw[h.1.mem_iff]
 constructor
 ·intro hx
  obtain⟨z,hz,rfl⟩:=List.mem_map.1 hx
  obtain⟨z',e,hc⟩:=(cmp_mem hS 5 [] (some t) (some (.dir base)) (fun c hc=>by cases hc;exact ht) (fun c hc=>by cases hc;exact hu) z.1 z.2).1 hz
  rw[List.nil_append] at e
  exact⟨z',by rw[<- e];rfl,hc⟩
 ·rintro ⟨y,e,hc⟩
  refine List.mem_map.2 ⟨(y,x.2),(cmp_mem hS 5 [] (some t) (some (.dir base)) (fun c hc=>by cases hc;exact ht) (fun c hc=>by cases hc;exact hu) y x.2).2 ⟨y,rfl,hc⟩,?_⟩
  show (joinB y,x.2)=x
  rw[<- e]
theorem told_same {a:List Ob}(hA:Sound a)(hS:Sound objs){u:LT}{fl fu:Nat->Option (Int×ByteArray)}{base:Int}{L M:List Chg8}(ht:LTok objs 5 t)(hu:LTok a 5 u)(kt:t.kind=2)(ku:u.kind=2)(hb:LTok objs 5 (.dir base))(hba:LTok a 5 (.dir base))(hbs:∀ y,sem a fcE (.dir base) y=sem objs fcE (.dir base) y)(hs:SemEq a (fcOf a fu) u objs (fcOf objs fl) t)(h:Told8 objs fl t base L)(k:Told8 a fu u base M):L=M:=by
 refine rising_eq (told_rising hS ht hb kt h) (told_rising hA hu hba ku k) (fun x=>?_)
 rw[told_mem hS ht hb h x,told_mem hA hu hba k x]
 have e:∀ y,chgAt (sem a (fcOf a fu) u) (sem a fcE (.dir base)) y=chgAt (sem objs (fcOf objs fl) t) (sem objs fcE (.dir base)) y:=fun y=>by
  unfold chgAt
  rw[hs y,hbs y]
 constructor
 ·rintro ⟨y,h1,h2⟩;exact⟨y,h1,by rw[e];exact h2⟩
 ·rintro ⟨y,h1,h2⟩;exact⟨y,h1,by rw[<- e];exact h2⟩
end

end Go.Proofs.YtajopoddmfdejaaGreat
