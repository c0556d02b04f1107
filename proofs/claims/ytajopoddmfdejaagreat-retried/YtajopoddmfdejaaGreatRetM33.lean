/-
  What is proved here: Draft.Keep, where there is room for all: the draft's objects are in the pool. an outline in memory: the tree that it speaks of has not changed, its draft and its map have blocks of their ..
-/
import Derived.Test.YtajopoddmfdejaaGreatRetM32
import Derived.Test.YtajopoddmfdejaaGreatRetM06
import Derived.Test.YtajopoddmfdejaaGreatRetM24
namespace Go.Proofs.YtajopoddmfdejaaGreat
open Go.RowKit Go.Sort Go.Shelf
set_option linter.unusedVariables false
set_option maxRecDepth 100000
set_option maxHeartbeats 16000000
variable {ft:PTail}
theorem drafted_at {objs:List Ob}:∀ {a:List Ob},Drafted objs a->∀ ds,a=objs++ds->∀ k (hk:k<ds.length),PutOk (objs++ds.take k) ds[k]:=by
 intro a h
 induction h with
 | nil=>
  intro ds e k hk
  have:ds = []:=by simpa using e
  subst this
  simp at hk
 | snoc hd ho ih=>
  intro ds e k hk
  obtain⟨l,rfl⟩:=hd.app
  have hds:ds=l ++ [_]:=(List.append_cancel_left ((List.append_assoc _ _ _).symm.trans e)).symm
  subst hds
  by_cases h1:k<l.length
  ·rw[List.take_append_of_le_length (by omega),List.getElem_append_left h1]
   exact ih l rfl k h1
  ·have h2:k=l.length:=by simp at hk;omega
   subst h2
   simp only[List.take_left',List.getElem_concat_length]
   exact ho
theorem ob_cells {w:World}{a:Option Addr}{n cap:Nat}{ms:List Ob}(h:w.ownsRow 0 145 4 (.slice a n cap) n (obCells ms))(hl:ms.length=n){i:Nat}(hi:i<ms.length):
  ∃ g,a=some ⟨g,0,none⟩/\g<w.heap.size/\w.cell? ⟨g,i*4,none⟩=some (.int .i64 ms[i].kind)/\w.cell? ⟨g,i*4+1,none⟩=some (.string ms[i].data)/\
   w.cell? ⟨g,i*4+2,none⟩=some (.slice ms[i].ea ms[i].el ms[i].ec)/\w.cell? ⟨g,i*4+3,none⟩=some (.int .i64 ms[i].high):=by
 have hn:i<n:=by rw[<- hl];exact hi
 rcases h.2 with ⟨_,h0⟩ | ⟨g,cap',cur,hv,_,hg,_,_,hcur,ht⟩
 ·omega
 ·cases hv
  have key:∀ j u,j<4->(ms[i].cells)[j]? = some u->w.cell? ⟨g,i*4+j,none⟩=some u:=by
   intro j u hj hu
   rw[<- obCells_get ms i j hi hj,<- ht,List.getElem?_take_of_lt (by omega),Array.getElem?_toList] at hu
   simp[World.cell?,hg,hu]
  exact⟨g,rfl,(Array.getElem?_eq_some_iff.1 hg).1,key 0 _ (by omega) rfl,key 1 _ (by omega) rfl,key 2 _ (by omega) rfl,key 3 _ (by omega) rfl⟩
theorem Keeps.trans' {F:Nat->Prop}{w w1 w2:World}(h:Keeps F w w1)(k:Keeps (NewF F w w1) w1 w2):Keeps F w w2:=by
 refine⟨k.os.trans h.os,k.tape.trans h.tape,k.output.trans h.output,Nat.le_trans h.size k.size,fun x hx hn=>?_⟩
 rw[k.block x (Nat.lt_of_lt_of_le hx h.size) (fun hf=>?_),h.block x hx hn]
 rcases hf with hf | ⟨hf,_⟩
 ·exact hn hf
 ·omega
theorem newF_trans {F:Nat->Prop}{w w1 w2:World}(h1:w.heap.size<=w1.heap.size)(h2:w1.heap.size<=w2.heap.size)(k:Nat)(h:NewF (NewF F w w1) w1 w2 k):NewF F w w2 k:=by
 rcases h with (h | ⟨a,b⟩) | ⟨a,b⟩
 ·exact .inl h
 ·exact .inr ⟨a,by omega⟩
 ·exact .inr ⟨by omega,b⟩
theorem keeps_drewN {F:Nat->Prop}{w w1:World}(h:Keeps F w w1)(n:Nat):Keeps F w (w1.drewN n):=⟨h.os,h.tape,h.output,h.size,h.block⟩
theorem ObOk.keeps {F D:Nat->Prop}{w w1:World}{o:Ob}(h:ObOk w D o)(hk:Keeps F w w1)(hD:∀ k,D k->¬ F k):ObOk w1 D o:=by
 rcases h with h | ⟨h1,h2,h3,h4,h5,h6,h8,h9⟩
 ·exact .inl h
 ·exact .inr ⟨h1,h2,h3,h4,h5,h6,h8,ownsRow_keep h9 (fun g hg=>hk.block g (ownsRow_lt h9 hg) (hD g (h8 g hg)))⟩
theorem keep_ok {F D:Nat->Prop}{w:World}{s p:Nat}{b:DB}{objs a:List Ob}(hP:InvP ft F w s p objs)(hdis:∀ k,F k->¬ D k)(hDI:DInv D w p b objs a)(hdr:Drafted objs a)(hroom:a.length<=400):
  Calls Tryz.prog 67 #[.pointer (some ⟨b.dr,0,none⟩)] w fun e w'=>e=.returned (.int .i64 0)/\∃ x',(∃ l,x'=objs++l)/\Same x' a/\InvP ft (NewF F w w') w' s p x'/\Keeps F w w':=by
 obtain⟨ds,ms,va,cap,Df,Dd,rfl,hcore,j⟩:=hDI
 have hat:=drafted_at hdr ds rfl
 have hlen:ms.length=ds.length:=by have:=congrArg List.length hcore;simpa using this
 obtain⟨n0,hn0⟩:∃ n0,n0=objs.length:=⟨_,rfl⟩
 obtain⟨m,hm⟩:∃ m,m=ms.length:=⟨_,rfl⟩
 have hroom':n0+m<=400:=by simp only[List.length_append] at hroom;omega
 obtain⟨hbl,c0,c1,c2,c3,f1⟩:=j.hd.c
 rw[<- hm] at c1
 have hq0:∃ pa pc,w.cell? ⟨p,0,none⟩=some (.slice pa n0 pc):=by
  obtain⟨pa,pc,bf,bd,Pf,Pd,i⟩:=hP
  exact⟨pa,pc,by rw[hn0];exact i.pool.at_.c0⟩
 obtain⟨pa,pc,q0⟩:=hq0
 have hcnt:=fun W h=>count_any p n0 pc pa W h
 have hDk:∀ k,D k->¬ F k:=fun k hk hf=>hdis k hf hk
 have HNEXT:Hid (∀ (k:Nat) (hk:k<ms.length) (wr W:World) (x:List Ob),Keeps F w wr->Below wr.heap.size wr W->InvP ft (NewF F w wr) wr s p x->Same x (objs++ds.take k)->(∃ l,x=objs++l)->
   Calls Tryz.prog 110 #[.pointer (some ⟨p,0,none⟩),.agg #[.int .i64 ms[k].kind,.string ms[k].data,.slice ms[k].ea ms[k].el ms[k].ec,.int .i64 ms[k].high]] W fun e w'=>e=.returned (.int .i64 0)/\Keeps F w w'/\Hid (∃ x',InvP ft (NewF F w w') w' s p x'/\Same x' (objs++ds.take (k+1))/\∃ l,x'=objs++l)):=by
  intro k hk wr W x hkp hb hi hs hl
  have hk':k<ds.length:=by omega
  have hmk:core3 ms[k]=core3 ds[k]:=by
   have:=congrArg (fun l=>l[k]?) hcore
   simp only[List.getElem?_map,List.getElem?_eq_getElem hk,List.getElem?_eq_getElem hk',Option.map_some,Option.some.injEq] at this
   exact this
  have hxl:x.length<400:=by
   have:=hs.len
   simp only[List.length_append,List.length_take] at this
   omega
  have hob1:ObOk wr D ms[k]:=ObOk.keeps (j.obs _ (List.getElem_mem hk)) hkp hDk
  have hob:ObOk W D ms[k]:=ObOk.mono hob1 (fun _ _ h=>h) (fun v n xs hr=>ownsRow_keep hr (fun g hg=>hb.block g (ownsRow_lt hr hg)))
  have hiW:InvP ft (NewF F w wr) W s p x:=hi.below hb (fun _ _ h=>h)
  refine (pput_next hiW hs hxl (hat k hk') hmk hob).mono ?_
  rintro e w' ⟨he,x',⟨l2,hx'⟩,hs',hi',hk2⟩
  obtain⟨l1,rfl⟩:=hl
  refine⟨he,(Keeps.trans' hkp (keeps_via hb hk2)),x',hi'.wide (fun z hz=>newF_trans hkp.size (Nat.le_trans hb.size hk2.size) z (newF_via hb.size z hz)),?_,l1++l2,by rw[hx',List.append_assoc]⟩
  rw[List.take_succ_eq_append_getElem hk',<- List.append_assoc]
  exact hs'
 have HCELL:Hid (∀ (k:Nat) (hk:k<ms.length) (wr:World),Keeps F w wr->∃ g,va=some ⟨g,0,none⟩/\g<wr.heap.size/\wr.cell? ⟨g,k*4,none⟩=some (.int .i64 ms[k].kind)/\wr.cell? ⟨g,k*4+1,none⟩=some (.string ms[k].data)/\
   wr.cell? ⟨g,k*4+2,none⟩=some (.slice ms[k].ea ms[k].el ms[k].ec)/\wr.cell? ⟨g,k*4+3,none⟩=some (.int .i64 ms[k].high)):=by
  intro k hk wr hkp
  have hr:wr.ownsRow 0 145 4 (.slice va ms.length cap) ms.length (obCells ms):=ownsRow_keep j.row (fun g hg=>hkp.block g (ownsRow_lt j.row hg) (hDk g (j.da g hg)))
  exact ob_cells hr rfl hk
 have HDR:Hid (∀ wr:World,Keeps F w wr->b.dr<wr.heap.size/\wr.cell? ⟨b.dr,0,none⟩=some (.pointer (some ⟨p,0,none⟩))):=by
  intro wr hkp
  have h1:=hkp.block b.dr hbl (hDk _ j.dd)
  have h2:DrAt wr p b va ms.length cap:=by
   have:=j.hd
   unfold DrAt at this ⊢
   rw[h1];exact this
  exact⟨h2.c.1,h2.c.2.1⟩
 have HFIN:Hid (∀ x:List Ob,Same x (objs++ds.take ms.length)->Same x (objs++ds)):=by
  intro x h
  rwa [hlen,List.take_length] at h
 have HINIT:Hid (InvP ft F w s p objs):=hP
 have HM:Hid (m=ms.length):=hm
 clear hP j hat hDk hdis hdr hroom hcore hlen hm f1 c2 c3 hn0
 go_enter Tryz.func67,Tryz.ntmps67
 go_wp2
 go_quiet (first | (go_at_call 44;exact Calls.quiet_of_same (hcnt _ q0)))
 go_wp2
 go_loopw [23] (fun i wr=>∃ k:Nat,k<=m/\i=.int .i64 k/\Keeps F w wr/\Hid (∃ x,InvP ft (NewF F w wr) wr s p x/\Same x (objs++ds.take k)/\∃ l,x=objs++l)) (fun i _=>m-(intOf i).toNat)
 case atStart=>exact⟨0,Nat.zero_le _,rfl,keeps_drewN (Keeps.of_below (Below.refl _ _)) _,⟨objs,HINIT.out.keep (fun _ _ _=>rfl) (fun _ _ h=>.inl h),by simp[Same],[],by simp⟩⟩
 case round=>
  obtain⟨k,hk,rfl,hkp,HX⟩:=hrel
  by_cases hlt:k<m
  ·have hk':k<ms.length:=by rw[<- HM.out];exact hlt
   obtain⟨g,rfl,hgl,e0,e1,e2,e3⟩:=HCELL.out k hk' wr hkp
   obtain⟨hbr,c0r⟩:=HDR.out wr hkp
   have hput:=fun W hb=>HX.out.elim fun x hx=>HNEXT.out k hk' wr W x hkp hb hx.1 hx.2.1 hx.2.2
   have HPUT:Hid _:=hput
   clear hput
   generalize ms[k]=mk at e0 e1 e2 e3 HPUT
   obtain⟨mkind,mdata,mea,mel,mec,ments,mhigh⟩:=mk
   simp only at e0 e1 e2 e3 HPUT
   have hb0:Below wr.heap.size wr (wr.alloc (.cells #[.int .i64 mkind,.string mdata,.slice mea mel mec,.int .i64 mhigh] 145)):=(Below.refl _ _).alloc (Nat.le_refl _) _
   have HB0:Hid _:=hb0
   clear hb0 HX HCELL HNEXT
   go_wp2
   go_region_with (go_at_call 110;refine Calls.mono (HPUT.out _ (below_drew HB0.out)) ?_;rintro e w1 ⟨rfl,hk1,HX1⟩)
   all_goals
    go_wp2
    go_roundw
    case rel=>exact⟨k+1,by omega,by go_num,hk1,HX1⟩
    case measure=>simp[intOf];omega
  ·have hkm:k=m:=by omega
   subst hkm
   go_wp2
   go_ret
   obtain⟨x,hx1,hx2,hx3⟩:=HX.out
   rw[HM.out] at hx2
   exact⟨rfl,x,hx3,HFIN.out x hx2,hx1,hkp⟩
theorem PMap.look_ok {w:World}{b n:Nat}{f:List ByteArray->Option Value}(h:PMap w b n f){t e:TypeId}(ht:Tryz.prog.underlying t=some (.map 104 e)){z:Value}(hz:(zeroValue e).run Tryz.prog w=.ok z w){q:List ByteArray}(hq:Good q):
  (Instr.lookup t (.map (some b)) (.agg (pathA q)) true).run Tryz.prog w=.ok (.tuple #[(f q).getD z,.bool (f q).isSome]) w:=by
 obtain⟨M,hV,h1,_⟩:=h
 have:=hV.look_ok lawP ht hz (keyVP hq)
 rw[h1 q hq] at this
 exact this
structure Turn (D D':Nat->Prop)(w w':World):Prop where
 keeps:Keeps D w w'
 own:∀ k,k<w.heap.size->D' k->D k
theorem Turn.trans {D D' D'':Nat->Prop}{w w' w'':World}(h:Turn D D' w w')(k:Turn D' D'' w' w''):Turn D D'' w w'':=
 ⟨⟨k.keeps.os.trans h.keeps.os,k.keeps.tape.trans h.keeps.tape,k.keeps.output.trans h.keeps.output,Nat.le_trans h.keeps.size k.keeps.size,fun x hx hn=>
  (k.keeps.block x (Nat.lt_of_lt_of_le hx h.keeps.size) (fun hd=>hn (h.own x hx hd))).trans (h.keeps.block x hx hn)⟩,
  fun x hx hd=>h.own x hx (k.own x (Nat.lt_of_lt_of_le hx h.keeps.size) hd)⟩
theorem Turn.of_below {D:Nat->Prop}{w w':World}(h:Below w.heap.size w w'):Turn D D w w':=⟨Keeps.of_below h,fun _ _ h=>h⟩
theorem Turn.via {D D':Nat->Prop}{w w1 w':World}(hb:Below w.heap.size w w1)(h:Turn D D' w1 w'):Turn D D' w w':=(Turn.of_below hb).trans h
theorem Turn.cell {D D':Nat->Prop}{w w':World}(h:Turn D D' w w'){k:Nat}(hk:k<w.heap.size)(hn:¬ D k)(o:Nat):w'.cell? ⟨k,o,none⟩=w.cell? ⟨k,o,none⟩:=World.cell?_of_block (a:=⟨k,o,none⟩) (h.keeps.block k hk hn)
section
variable {s i p:Nat}{B:WB}{objs:List Ob}
def Dow (D:Nat->Prop)(ow:Nat)(k:Nat):Prop:=D k\/k=ow
structure OSt (w0:World)(p:Nat)(objs:List Ob)(D:Nat->Prop)(W:World)(b:DB)(ow:Nat)(a:List Ob)(f:List ByteArray->Option Int)(N:Nat):Prop where
 below:Below w0.heap.size w0 W
 inb:∀ k,Dow D ow k->w0.heap.size<=k/\k<W.heap.size
 dinv:DInv D W p b objs a
 nin:¬ D ow
 map:∃ n,n<=N/\PMap W ow n (fun q=>(f q).map (Value.int .i64))
 few:a.length<=N
theorem OSt.via {w0 W W':World}{D:Nat->Prop}{b:DB}{ow:Nat}{a:List Ob}{f:List ByteArray->Option Int}{N:Nat}(h:OSt w0 p objs D W b ow a f N)(hb:Below W.heap.size W W'):OSt w0 p objs D W' b ow a f N:=by
 obtain⟨n,hn,hm⟩:=h.map
 exact⟨below_via h.below hb,fun k hk=>⟨(h.inb k hk).1,Nat.lt_of_lt_of_le (h.inb k hk).2 hb.size⟩,h.dinv.keep (fun k hk _=>hb.block k hk) (fun _ _ h=>h),h.nin,⟨n,hn,hm.keep (hb.block ow hm.lt)⟩,h.few⟩
theorem OSt.mono {w0 W:World}{D:Nat->Prop}{b:DB}{ow:Nat}{a:List Ob}{f:List ByteArray->Option Int}{N N':Nat}(h:OSt w0 p objs D W b ow a f N)(hN:N<=N'):OSt w0 p objs D W b ow a f N':=by
 obtain⟨n,hn,hm⟩:=h.map
 exact⟨h.below,h.inb,h.dinv,h.nin,⟨n,Nat.le_trans hn hN,hm⟩,Nat.le_trans h.few hN⟩
theorem OSt.draft {w0 W W':World}{D:Nat->Prop}{b:DB}{ow:Nat}{a a':List Ob}{f:List ByteArray->Option Int}{N N':Nat}(h:OSt w0 p objs D W b ow a f N)(hd:DInv (NewF D W W') W' p b objs a')(hk:Keeps D W W')(hN:N<=N')(hl:a'.length<=N'):OSt w0 p objs (NewF D W W') W' b ow a' f N'/\Turn (Dow D ow) (Dow (NewF D W W') ow) W W':=by
 obtain⟨n,hn,hp⟩:=h.map
 have how:=h.inb ow (.inr rfl)
 refine⟨⟨⟨hk.os.trans h.below.os,hk.tape.trans h.below.tape,hk.output.trans h.below.output,Nat.le_trans h.below.size hk.size,fun k hkk=>?_⟩,fun k hkk=>?_,hd,?_,⟨n,Nat.le_trans hn hN,hp.keep (hk.block ow how.2 h.nin)⟩,hl⟩,⟨hk.os,hk.tape,hk.output,hk.size,fun k hkk hn=>hk.block k hkk (fun hd=>hn (.inl hd))⟩,fun k hkk hd=>?_⟩
 ·rw[hk.block k (Nat.lt_of_lt_of_le hkk h.below.size) (fun hD=>by have:=(h.inb k (.inl hD)).1;omega),h.below.block k hkk]
 ·rcases hkk with (hkk | ⟨h1,h2⟩) | rfl
  ·exact⟨(h.inb k (.inl hkk)).1,Nat.lt_of_lt_of_le (h.inb k (.inl hkk)).2 hk.size⟩
  ·exact⟨Nat.le_trans h.below.size h1,h2⟩
  ·exact⟨how.1,Nat.lt_of_lt_of_le how.2 hk.size⟩
 ·rintro (hd | ⟨h1,_⟩)
  ·exact h.nin hd
  ·omega
 ·rcases hd with (hd | ⟨h1,_⟩) | e
  ·exact .inl hd
  ·omega
  ·exact .inr e
theorem OSt.note {w0 W:World}{D:Nat->Prop}{b:DB}{ow:Nat}{a:List Ob}{f:List ByteArray->Option Int}{N:Nat}(h:OSt w0 p objs D W b ow a f N)(hN:N<100000){q:List ByteArray}(hq:Good q)(x:Int):
  ∃ W',(Instr.mapUpdate 119 (.map (some ow)) (.agg (pathA q)) (.int .i64 x)).run Tryz.prog W=.ok () W'/\OSt w0 p objs D W' b ow a (upd f q (some x)) (N+1)/\Turn (Dow D ow) (Dow D ow) W W'/\W'.heap.size=W.heap.size:=by
 obtain⟨n,hn,hp⟩:=h.map
 have how:=h.inb ow (.inr rfl)
 obtain⟨W',hrun,hp',hg,hs⟩:=hp.store hq (by unfold maxLen;omega) Tryz.underlying119 (.int .i64 x)
 refine⟨W',hrun,⟨⟨hg.os.trans h.below.os,hg.tape.trans h.below.tape,hg.output.trans h.below.output,by rw[hs];exact h.below.size,fun k hkk=>?_⟩,fun k hk=>by rw[hs];exact h.inb k hk,h.dinv.keep (fun k hk hd=>?_) (fun _ _ h=>h),h.nin,⟨n+1,by omega,?_⟩,by have:=h.few;omega⟩,⟨⟨hg.os,hg.tape,hg.output,by omega,fun k hk hn=>?_⟩,fun _ _ h=>h⟩,hs⟩
 ·rw[hg.block k (Nat.lt_of_lt_of_le hkk h.below.size) (fun e=>by have:=Option.some.inj e;omega),h.below.block k hkk]
 ·exact hg.block k hk (fun e=>h.nin (by rw[<- Option.some.inj e];exact hd))
 ·refine hp'.congr (fun x' hx'=>?_)
  by_cases e:x'=q
  ·subst e;rw[upd_same,upd_same];rfl
  ·rw[upd_other e,upd_other e]
 ·exact hg.block k hk (fun e=>hn (.inr (Option.some.inj e)))
end
theorem fobject_any (f:Nat)(id:Int)(w:World)(c1:w.cell? ⟨f,1,none⟩=some (.int .i64 id)):
  Calls Tryz.prog 169 #[.pointer (some ⟨f,0,none⟩)] w fun e w'=>e=.returned (.int .i64 id)/\w'=w:=by
 go_enter Tryz.func169,Tryz.ntmps169
 go_wp2
 go_ret
 exact⟨rfl,rfl⟩
theorem two_boxes (w:World)(x y:Obj):Below w.heap.size w ((w.alloc x).alloc y)/\Below w.heap.size w ((w.alloc x).alloc y).drew:=by
 have h:Below w.heap.size w ((w.alloc x).alloc y):=((Below.refl w.heap.size w).alloc (Nat.le_refl _) x).alloc (by simp) y
 exact⟨h,below_drew h⟩
theorem ofile_stored (bt oF dr ow f:Nat)(s0 s1 s2 s3 s4:ByteArray)(id:Int)(w:World)(hbt:bt<w.heap.size)(hf:f<w.heap.size)(c7:w.cell? ⟨bt,7,none⟩=some (.map (some oF)))(cf:w.cell? ⟨f,1,none⟩=some (.int .i64 id))(hid:id≠0)
  (hlk:∀ W,Below w.heap.size w W->(Instr.lookup 127 (.map (some oF)) (.agg #[.string s0,.string s1,.string s2,.string s3,.string s4]) false).run Tryz.prog W=.ok (.pointer (some ⟨f,0,none⟩)) W):
  Calls Tryz.prog 144 #[.agg #[.pointer (some ⟨bt,0,none⟩),.pointer (some ⟨dr,0,none⟩),.map (some ow)],.agg #[.string s0,.string s1,.string s2,.string s3,.string s4]] w fun e w'=>e=.returned (.int .i64 id)/\Below w.heap.size w w':=by
 obtain⟨hb0,hb1⟩:=two_boxes w (.cells #[.pointer (some ⟨bt,0,none⟩),.pointer (some ⟨dr,0,none⟩),.map (some ow)] 121) (.cells #[.string s0,.string s1,.string s2,.string s3,.string s4] 104)
 have hl:=hlk _ hb1
 have hfo:=fun W h=>fobject_any f id W h
 have cf1:=(hb1.cell (p:=⟨f,1,none⟩) hf).trans cf
 have hid':(id == 0)=false:=by simpa using hid
 have HB:Hid _:=hb1
 clear hlk hb0 hb1
 go_enter Tryz.func144,Tryz.ntmps144
 go_wp2
 go_region
 all_goals
  go_wp2_with (go_at_call 169;refine Calls.mono (hfo _ cf1) ?_;rintro e w1 ⟨rfl,rfl⟩)
  go_ret
  exact⟨rfl,HB.out⟩
theorem ofile_own (bt oF dr ow f:Nat)(s0 s1 s2 s3 s4 d:ByteArray)(r:Int)(R:World->Prop)(w:World)(hbt:bt<w.heap.size)(hf:f<w.heap.size)(c7:w.cell? ⟨bt,7,none⟩=some (.map (some oF)))(cf:w.cell? ⟨f,1,none⟩=some (.int .i64 0))(cd:w.cell? ⟨f,2,none⟩=some (.string d))
  (hlk:∀ W,Below w.heap.size w W->(Instr.lookup 127 (.map (some oF)) (.agg #[.string s0,.string s1,.string s2,.string s3,.string s4]) false).run Tryz.prog W=.ok (.pointer (some ⟨f,0,none⟩)) W)
  (hF:∀ W,Below w.heap.size w W->Calls Tryz.prog 170 #[.pointer (some ⟨dr,0,none⟩),.string d] W fun e w'=>e=.returned (.int .i64 r)/\R w'):
  Calls Tryz.prog 144 #[.agg #[.pointer (some ⟨bt,0,none⟩),.pointer (some ⟨dr,0,none⟩),.map (some ow)],.agg #[.string s0,.string s1,.string s2,.string s3,.string s4]] w fun e w'=>e=.returned (.int .i64 r)/\R w':=by
 obtain⟨hb0,hb1⟩:=two_boxes w (.cells #[.pointer (some ⟨bt,0,none⟩),.pointer (some ⟨dr,0,none⟩),.map (some ow)] 121) (.cells #[.string s0,.string s1,.string s2,.string s3,.string s4] 104)
 have hl:=hlk _ hb1
 have hfo:=fun W h=>fobject_any f 0 W h
 have hby:=fun W h1 h2=>bytes_own f d W h1 h2
 have cf1:=(hb1.cell (p:=⟨f,1,none⟩) hf).trans cf
 have cd1:=(hb1.cell (p:=⟨f,2,none⟩) hf).trans cd
 have hD:=hF _ hb1
 have HB:Hid _:=hb1
 have HD:Hid _:=hD
 clear hlk hb0 hb1 hF hD
 go_enter Tryz.func144,Tryz.ntmps144
 go_wp2
 go_region
 all_goals
  go_wp2_with (first
   | (go_at_call 169;refine Calls.mono (hfo _ cf1) ?_;rintro e w1 ⟨rfl,rfl⟩)
   | (go_at_call 135;refine Calls.mono (hby _ cf1 cd1) ?_;rintro e w1 ⟨rfl,rfl⟩)
   | (go_at_call 170;refine Calls.mono HD.out ?_;rintro e w2 ⟨rfl,hR⟩))
  go_ret
  exact⟨rfl,hR⟩
theorem oobject_stored (bt dr ow:Nat)(s0 s1 s2 s3 s4 nm:ByteArray)(k id:Int)(w:World)(hid:id≠0):
  Calls Tryz.prog 65 #[.agg #[.pointer (some ⟨bt,0,none⟩),.pointer (some ⟨dr,0,none⟩),.map (some ow)],.agg #[.string s0,.string s1,.string s2,.string s3,.string s4],.agg #[.string nm,.int .i64 k,.int .i64 id]] w fun e w'=>e=.returned (.int .i64 id)/\Below w.heap.size w w':=by
 have hb:∀ x y z:Obj,Below w.heap.size w (((w.alloc x).alloc y).alloc z):=fun x y z=>(((Below.refl w.heap.size w).alloc (Nat.le_refl _) x).alloc (by simp) y).alloc (by simp;omega) z
 have HB:Hid _:=hb
 have hid':(id == 0)=false:=by simpa using hid
 clear hb
 go_enter Tryz.func65,Tryz.ntmps65
 go_wp2
 go_ret
 exact⟨rfl,HB.out _ _ _⟩
def objBoxes (w:World)(bt dr ow:Nat)(s0 s1 s2 s3 s4 nm:ByteArray)(k id:Int):World:=((w.alloc (.cells #[.pointer (some ⟨bt,0,none⟩),.pointer (some ⟨dr,0,none⟩),.map (some ow)] 121)).alloc (.cells #[.string s0,.string s1,.string s2,.string s3,.string s4] 104)).alloc (.cells #[.string nm,.int .i64 k,.int .i64 id] 76)
theorem objBoxes_below (w:World)(bt dr ow:Nat)(s0 s1 s2 s3 s4 nm:ByteArray)(k id:Int):Below w.heap.size w (objBoxes w bt dr ow s0 s1 s2 s3 s4 nm k id):=(((Below.refl w.heap.size w).alloc (Nat.le_refl _) _).alloc (by simp) _).alloc (by simp;omega) _
theorem cell_at {w:World}{b:Nat}{c:Array Value}{t:TypeId}{z:Nat×Nat}(h:w.heap[b]? = some (.cells c t z))(o:Nat):w.cell? ⟨b,o,none⟩=c[o]?:=by simp[World.cell?,h]
theorem heap_alloc3 (w:World)(x y z:Obj):(((w.alloc x).alloc y).alloc z).heap[w.heap.size]? = some x/\(((w.alloc x).alloc y).alloc z).heap[w.heap.size+1]? = some y:=by
 constructor
 ·rw[RowKit.Below.heap_alloc _ _ _ (by simp;omega),heap_alloc2_old]
 ·rw[RowKit.Below.heap_alloc _ _ _ (by simp),heap_alloc2_new]
theorem objBoxes_cells (w:World)(bt dr ow:Nat)(s0 s1 s2 s3 s4 nm:ByteArray)(k id:Int):(objBoxes w bt dr ow s0 s1 s2 s3 s4 nm k id).cell? ⟨w.heap.size,2,none⟩=some (.map (some ow))/\(objBoxes w bt dr ow s0 s1 s2 s3 s4 nm k id).cell? ⟨w.heap.size+1,0,none⟩=some (.string s0)/\(objBoxes w bt dr ow s0 s1 s2 s3 s4 nm k id).cell? ⟨w.heap.size+1,1,none⟩=some (.string s1)/\(objBoxes w bt dr ow s0 s1 s2 s3 s4 nm k id).cell? ⟨w.heap.size+1,2,none⟩=some (.string s2)/\(objBoxes w bt dr ow s0 s1 s2 s3 s4 nm k id).cell? ⟨w.heap.size+1,3,none⟩=some (.string s3)/\(objBoxes w bt dr ow s0 s1 s2 s3 s4 nm k id).cell? ⟨w.heap.size+1,4,none⟩=some (.string s4):=by
 obtain⟨h0,h1⟩:=heap_alloc3 w (.cells #[.pointer (some ⟨bt,0,none⟩),.pointer (some ⟨dr,0,none⟩),.map (some ow)] 121) (.cells #[.string s0,.string s1,.string s2,.string s3,.string s4] 104) (.cells #[.string nm,.int .i64 k,.int .i64 id] 76)
 exact⟨cell_at h0 2,cell_at h1 0,cell_at h1 1,cell_at h1 2,cell_at h1 3,cell_at h1 4⟩
theorem oobject_own (bt dr ow:Nat)(s0 s1 s2 s3 s4 nm:ByteArray)(k r:Int)(R R2:World->Prop)(w:World)
  (hlk:∀ W,Below w.heap.size w W->(Instr.lookup 119 (.map (some ow)) (.agg #[.string s0,.string s1,.string s2,.string s3,.string s4]) true).run Tryz.prog W=.ok (.tuple #[.int .i64 0,.bool false]) W)
  (hwork:Calls Tryz.prog 109 #[.agg #[.pointer (some ⟨bt,0,none⟩),.pointer (some ⟨dr,0,none⟩),.map (some ow)],.agg #[.string s0,.string s1,.string s2,.string s3,.string s4],.int .i64 k] (objBoxes w bt dr ow s0 s1 s2 s3 s4 nm k 0) fun e w'=>e=.returned (.int .i64 r)/\R w')
  (hbox:∀ w',R w'->∀ j o,w.heap.size<=j->j<w.heap.size+3->w'.cell? ⟨j,o,none⟩=(objBoxes w bt dr ow s0 s1 s2 s3 s4 nm k 0).cell? ⟨j,o,none⟩)
  (hsz:∀ w',R w'->w.heap.size+3<=w'.heap.size)
  (hnote:∀ w',R w'->∃ w'',(Instr.mapUpdate 119 (.map (some ow)) (.agg #[.string s0,.string s1,.string s2,.string s3,.string s4]) (.int .i64 r)).run Tryz.prog w'=.ok () w''/\R2 w''):
  Calls Tryz.prog 65 #[.agg #[.pointer (some ⟨bt,0,none⟩),.pointer (some ⟨dr,0,none⟩),.map (some ow)],.agg #[.string s0,.string s1,.string s2,.string s3,.string s4],.agg #[.string nm,.int .i64 k,.int .i64 0]] w fun e w'=>e=.returned (.int .i64 r)/\R2 w':=by
 have hl:=hlk _ (objBoxes_below w bt dr ow s0 s1 s2 s3 s4 nm k 0)
 have HW:Hid _:=hwork
 have HB:Hid _:=hbox
 have HS:Hid _:=hsz
 have HN:Hid _:=hnote
 clear hlk hwork hbox hsz hnote
 obtain⟨x02,x10,x11,x12,x13,x14⟩:=objBoxes_cells w bt dr ow s0 s1 s2 s3 s4 nm k 0
 have HX:Hid _:=And.intro x02 (And.intro x10 (And.intro x11 (And.intro x12 (And.intro x13 x14))))
 clear x02 x10 x11 x12 x13 x14
 unfold objBoxes at hl HW
 go_enter Tryz.func65,Tryz.ntmps65
 go_wp2_with fail
 refine Calls.mono HW.out ?_
 rintro e w1 ⟨rfl,hR⟩
 have hbx:=HB.out w1 hR
 have hz:=HS.out w1 hR
 obtain⟨w2,hmu,hR2⟩:=HN.out w1 hR
 have b02:=hbx w.heap.size 2 (Nat.le_refl _) (by omega)
 have b10:=hbx (w.heap.size+1) 0 (by omega) (by omega)
 have b11:=hbx (w.heap.size+1) 1 (by omega) (by omega)
 have b12:=hbx (w.heap.size+1) 2 (by omega) (by omega)
 have b13:=hbx (w.heap.size+1) 3 (by omega) (by omega)
 have b14:=hbx (w.heap.size+1) 4 (by omega) (by omega)
 rw[HX.out.1] at b02
 rw[HX.out.2.1] at b10
 rw[HX.out.2.2.1] at b11
 rw[HX.out.2.2.2.1] at b12
 rw[HX.out.2.2.2.2.1] at b13
 rw[HX.out.2.2.2.2.2] at b14
 have hz0:w.heap.size<w1.heap.size:=by omega
 have hz1:w.heap.size+1<w1.heap.size:=by omega
 have HR2:Hid _:=hR2
 clear hbx hR hR2 HW HB HN HS
 go_wp2
 go_ret
 exact⟨rfl,HR2.out⟩
theorem owork_file (bt dr ow:Nat)(s0 s1 s2 s3 s4:ByteArray)(r:Int)(R:World->Prop)(w:World)
  (hfile:∀ W,Below w.heap.size w W->Calls Tryz.prog 144 #[.agg #[.pointer (some ⟨bt,0,none⟩),.pointer (some ⟨dr,0,none⟩),.map (some ow)],.agg #[.string s0,.string s1,.string s2,.string s3,.string s4]] W fun e w'=>e=.returned (.int .i64 r)/\R w'):
  Calls Tryz.prog 109 #[.agg #[.pointer (some ⟨bt,0,none⟩),.pointer (some ⟨dr,0,none⟩),.map (some ow)],.agg #[.string s0,.string s1,.string s2,.string s3,.string s4],.int .i64 1] w fun e w'=>e=.returned (.int .i64 r)/\R w':=by
 obtain⟨hb0,_⟩:=two_boxes w (.cells #[.pointer (some ⟨bt,0,none⟩),.pointer (some ⟨dr,0,none⟩),.map (some ow)] 121) (.cells #[.string s0,.string s1,.string s2,.string s3,.string s4] 104)
 have hf:=hfile _ hb0
 have HF:Hid _:=hf
 clear hfile hf hb0
 go_enter Tryz.func109,Tryz.ntmps109
 go_wp2_with (go_at_call 144;refine Calls.mono HF.out ?_;rintro e w1 ⟨rfl,hR⟩)
 go_ret
 exact⟨rfl,hR⟩
end Go.Proofs.YtajopoddmfdejaaGreat
