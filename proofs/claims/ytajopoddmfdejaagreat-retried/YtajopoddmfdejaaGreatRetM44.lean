/-
  What is proved here: List of a tree and of a workspace, walked: a new list of the names. List of a workspace, at any path: as the model says. the state of canopykeep's below while it goes through a directory, ..
-/
import Derived.Test.YtajopoddmfdejaaGreatRetM30
import Derived.Test.YtajopoddmfdejaaGreatRetM35
import Derived.Test.YtajopoddmfdejaaGreatRetM38
import Derived.Maps.AppendAt
namespace Go.Proofs.YtajopoddmfdejaaGreat
open Go.RowKit Go.Sort Go.Shelf
set_option linter.unusedVariables false
set_option maxRecDepth 100000
set_option maxHeartbeats 16000000
theorem infoStr:(Tryz.prog.info? 9).map (fun i=>(i.zero,i.size,i.bytes))=some (some (.string ByteArray.empty),1,16):=by kernel_rfl
structure NmsAt (w:World)(nb:Nat)(es:List Ent)(k:Nat):Prop where
 lt:nb<w.heap.size
 any:∀ j,j<es.length->∃ x,w.cell? ⟨nb,j,none⟩=some (.string x)
 free:∀ o,w.frozen? ⟨nb,o,none⟩=false
 nms:∀ j (hj:j<es.length),j<k->w.cell? ⟨nb,j,none⟩=some (.string es[j].1)
theorem make_str (n:Nat)(hn:n<=16)(W:World):∃ cs:Array Value,(Instr.makeSlice 69 (.int .i64 (n:Int)) (.int .i64 (n:Int))).run Tryz.prog W=.ok (.slice (some ⟨W.heap.size,0,none⟩) n n) (W.alloc (.cells cs 9))/\cs.size=n/\∀ j,j<n->∃ x,cs[j]? = some (.string x):=by
 obtain⟨i0,hi,hz0,hz1,hz2⟩:=info_parts infoStr
 refine⟨_,run_make W 69 9 i0 _ Tryz.underlying69 hi hz0 .i64 .i64 n n (by omega) (by omega) (by rw[hz2];omega) (by omega),?_,?_⟩
 ·simp[madeCells,hz1]
 ·intro j hj
  simp[madeCells,hz1,hj,Value.cells,Nat.mod_one]
theorem nms_new {w:World}{cs:Array Value}{es:List Ent}(hs:cs.size=es.length)(hx:∀ j,j<es.length->∃ x,cs[j]? = some (.string x)):NmsAt (w.alloc (.cells cs 9)) w.heap.size es 0:=by
 have hh:=heap_alloc_new w (.cells cs 9)
 refine⟨by simp,fun j hj=>?_,fun o=>by simp only[World.frozen?,hh];simp,fun j _ hj=>by omega⟩
 obtain⟨x,hx⟩:=hx j hj
 exact⟨x,by simp only[World.cell?,hh];exact hx⟩
theorem nms_alloc {w:World}{nb k:Nat}{es:List Ent}(h:NmsAt w nb es k)(o:Obj):NmsAt (w.alloc o) nb es k:=by
 have hc:∀ j,(w.alloc o).cell? ⟨nb,j,none⟩=w.cell? ⟨nb,j,none⟩:=fun j=>by unfold World.cell?;rw[Below.heap_alloc _ _ _ h.lt]
 have hf:∀ j,(w.alloc o).frozen? ⟨nb,j,none⟩=w.frozen? ⟨nb,j,none⟩:=fun j=>by unfold World.frozen?;rw[Below.heap_alloc _ _ _ h.lt]
 exact⟨by simp;exact Nat.lt_succ_of_lt h.lt,fun j hj=>by rw[hc];exact h.any j hj,fun o'=>by rw[hf];exact h.free o',fun j hj hk=>by rw[hc];exact h.nms j hj hk⟩
theorem nms_set {w:World}{nb k:Nat}{es:List Ent}(h:NmsAt w nb es k)(hk:k<es.length):NmsAt (w.setCell ⟨nb,k,none⟩ (.string es[k].1)) nb es (k+1):=by
 obtain⟨x,hx⟩:=h.any k hk
 have hsame:(w.setCell ⟨nb,k,none⟩ (.string es[k].1)).cell? ⟨nb,k,none⟩=some (.string es[k].1):=World.cell?_setCell_same _ _ _ hx
 have hoth:∀ j,j≠k->(w.setCell ⟨nb,k,none⟩ (.string es[k].1)).cell? ⟨nb,j,none⟩=w.cell? ⟨nb,j,none⟩:=fun j hj=>World.cell?_setCell_other _ _ _ _ (fun e=>hj (by injection e with _ e2 _;exact e2.symm))
 refine⟨by simpa using h.lt,fun j hj=>?_,fun o=>by rw[World.frozen?_setCell];exact h.free o,fun j hj hk'=>?_⟩
 ·by_cases e:j=k
  ·subst e;exact⟨_,hsame⟩
  ·rw[hoth j e];exact h.any j hj
 ·by_cases e:j=k
  ·subst e;exact hsame
  ·rw[hoth j e];exact h.nms j hj (by omega)
theorem tlist_walk (t:Nat)(s0 s1 s2 s3 s4:ByteArray)(es:List Ent)(R:World->Prop)(w:World)(hn:es.length<=16)
  (hlook:∀ W,Below w.heap.size w W->Calls Tryz.prog 75 #[.pointer (some ⟨t,0,none⟩),.agg #[.string s0,.string s1,.string s2,.string s3,.string s4]] W fun e w'=>∃ gb cap,e=.returned (.tuple #[.slice (some ⟨gb,0,none⟩) es.length cap,.int .i64 0])/\R w'/\gb<w'.heap.size/\∀ j u,(flat es)[j]? = some u->w'.cell? ⟨gb,j,none⟩=some u):
  Calls Tryz.prog 56 #[.pointer (some ⟨t,0,none⟩),.agg #[.string s0,.string s1,.string s2,.string s3,.string s4]] w fun e w'=>∃ w3,R w3/\e=.returned (.tuple #[.slice (some ⟨w3.heap.size,0,none⟩) es.length es.length,.int .i64 0])/\Below w3.heap.size w3 w'/\NmsAt w' w3.heap.size es es.length:=by
 have hl:=hlook _ ((Below.refl w.heap.size w).alloc (Nat.le_refl _) (.cells #[.string s0,.string s1,.string s2,.string s3,.string s4] 104))
 have HL:Hid _:=hl
 clear hlook hl
 go_enter Tryz.func56,Tryz.ntmps56
 go_wp2_with fail
 refine Calls.mono HL.out ?_
 rintro e w3 ⟨gb,cap,rfl,hR,hgb,hc⟩
 obtain⟨cs,hmk,hcs,hx⟩:=make_str es.length hn w3
 have hN0:=nms_new (w:=w3) hcs hx
 have HN0:Hid _:=hN0
 have HR:Hid _:=hR
 have HC:Hid _:=hc
 clear HL hR hc hN0 hx hcs
 go_wp2
 go_loopw [25] (fun i wr=>∃ k:Nat,k<=es.length/\i=.int .i64 (k:Int)/\Below w3.heap.size w3 wr/\Hid (NmsAt wr w3.heap.size es k)) (fun i _=>es.length-(intOf i).toNat)
 case atStart=>exact⟨0,Nat.zero_le _,rfl,(Below.refl _ _).alloc (Nat.le_refl _) _,HN0.out⟩
 case round=>
  obtain⟨k,hk,rfl,hb,HN⟩:=hrel
  by_cases hlt:k<es.length
  ·obtain⟨d0,d1,d2⟩:=row_at HC.out hlt
   have e0:=(hb.cell (p:=⟨gb,k*3,none⟩) hgb).trans d0
   have e1:=(hb.cell (p:=⟨gb,k*3+1,none⟩) hgb).trans d1
   have e2:=(hb.cell (p:=⟨gb,k*3+2,none⟩) hgb).trans d2
   have hgb':gb<wr.heap.size:=Nat.lt_of_lt_of_le hgb hb.size
   have hnl:=HN.out.lt
   obtain⟨x,hx⟩:=HN.out.any k hlt
   have hfz:=HN.out.free k
   have hnew:=fun o=>nms_alloc (nms_set HN.out hlt) o
   have HNW:Hid _:=hnew
   clear d0 d1 d2 hnew
   go_wp2
   exact⟨⟨k+1,hlt,by simp,(Below.setCell hb (show w3.heap.size<=(⟨w3.heap.size,k,none⟩:Addr).block from Nat.le_refl _) _).alloc (by simpa using hb.size) _,HNW.out _⟩,by simp only[intOf];omega⟩
  ·have hke:k=es.length:=by omega
   subst hke
   go_wp2
   go_ret2
   exact⟨w3,HR.out,rfl,hb,HN.out⟩
theorem tlist_err (t:Nat)(s0 s1 s2 s3 s4:ByteArray)(er:Int)(her:er≠0)(R:World->Prop)(w:World)
  (hlook:∀ W,Below w.heap.size w W->Calls Tryz.prog 75 #[.pointer (some ⟨t,0,none⟩),.agg #[.string s0,.string s1,.string s2,.string s3,.string s4]] W fun e w'=>∃ v,e=.returned (.tuple #[v,.int .i64 er])/\R w'):
  Calls Tryz.prog 56 #[.pointer (some ⟨t,0,none⟩),.agg #[.string s0,.string s1,.string s2,.string s3,.string s4]] w fun e w'=>R w'/\e=.returned (.tuple #[.slice none 0 0,.int .i64 er]):=by
 have hl:=hlook _ ((Below.refl w.heap.size w).alloc (Nat.le_refl _) (.cells #[.string s0,.string s1,.string s2,.string s3,.string s4] 104))
 have HL:Hid _:=hl
 have he:(er == 0)=false:=by simpa using her
 clear hlook hl her
 go_enter Tryz.func56,Tryz.ntmps56
 go_wp2_with fail
 refine Calls.mono HL.out ?_
 rintro e w3 ⟨v,rfl,hR⟩
 have HR:Hid _:=hR
 clear HL hR
 go_wp2
 go_ret2
 exact⟨HR.out,rfl⟩
theorem tlist_nil (t:Nat)(s0 s1 s2 s3 s4:ByteArray)(R:World->Prop)(w:World)
  (hlook:∀ W,Below w.heap.size w W->Calls Tryz.prog 75 #[.pointer (some ⟨t,0,none⟩),.agg #[.string s0,.string s1,.string s2,.string s3,.string s4]] W fun e w'=>∃ a c,e=.returned (.tuple #[.slice a 0 c,.int .i64 0])/\R w'):
  Calls Tryz.prog 56 #[.pointer (some ⟨t,0,none⟩),.agg #[.string s0,.string s1,.string s2,.string s3,.string s4]] w fun e w'=>∃ w3,R w3/\e=.returned (.tuple #[.slice (some ⟨w3.heap.size,0,none⟩) 0 0,.int .i64 0])/\Below w3.heap.size w3 w'/\NmsAt w' w3.heap.size [] 0:=by
 have hl:=hlook _ ((Below.refl w.heap.size w).alloc (Nat.le_refl _) (.cells #[.string s0,.string s1,.string s2,.string s3,.string s4] 104))
 have HL:Hid _:=hl
 clear hlook hl
 go_enter Tryz.func56,Tryz.ntmps56
 go_wp2_with fail
 refine Calls.mono HL.out ?_
 rintro e w3 ⟨a,c,rfl,hR⟩
 obtain⟨cs,hmk,hcs,hx⟩:=make_str 0 (by decide) w3
 have hmk':(Instr.makeSlice 69 (.int .i64 0) (.int .i64 0)).run Tryz.prog w3=.ok (.slice (some ⟨w3.heap.size,0,none⟩) 0 0) (w3.alloc (.cells cs 9)):=hmk
 have HN0:Hid _:=nms_new (w:=w3) (es:=[]) hcs (fun j hj=>absurd hj (Nat.not_lt_zero _))
 have HR:Hid _:=hR
 clear HL hR hx hcs hmk
 go_wp2
 go_loopw [25] (fun i wr=>i=.int .i64 0/\Below w3.heap.size w3 wr/\Hid (NmsAt wr w3.heap.size [] 0)) (fun _ _=>0)
 case atStart=>exact⟨rfl,(Below.refl _ _).alloc (Nat.le_refl _) _,HN0.out⟩
 case round=>
  obtain⟨rfl,hb,HN⟩:=hrel
  go_wp2
  go_ret2
  exact⟨w3,HR.out,rfl,hb,HN.out⟩
theorem list_wsG (wb bt:Nat)(l:List ByteArray)(hl:Good l)(R:Value->Int->World->Prop)(w:World)(hwb:wb<w.heap.size)(c0:w.cell? ⟨wb,0,none⟩=some (.pointer (some ⟨bt,0,none⟩)))
  (hc:∀ W,Below w.heap.size w W->Calls Tryz.prog 56 #[.pointer (some ⟨bt,0,none⟩),.agg (pathA l)] W fun e w'=>∃ v er,e=.returned (.tuple #[v,.int .i64 er])/\R v er w'):
  Calls Tryz.prog 32 #[.pointer (some ⟨wb,0,none⟩),.string (joinB l)] w fun e w'=>∃ v er,e=.returned (.tuple #[v,.int .i64 er])/\R v er w':=by
 have hpa:=fun W=>parse_any l hl W
 obtain⟨s0,s1,s2,s3,s4,hP⟩:∃ s0 s1 s2 s3 s4,pathA l = #[.string s0,.string s1,.string s2,.string s3,.string s4]:=⟨_,_,_,_,_,rfl⟩
 unfold pathV at hpa
 simp only[hP] at hpa hc
 have HC:Hid _:=hc
 clear hc hP hl
 generalize joinB l=tx at hpa ⊢
 go_enter Tryz.func32,Tryz.ntmps32
 go_wp2_with (go_at_call 46;refine Calls.mono (hpa _) ?_;rintro e w1 ⟨rfl,hb1⟩;have d0:=((bcell hb1).1 wb 0 hwb).trans c0;have hw1:=Nat.lt_of_lt_of_le hwb hb1.size)
 have hcc:=HC.out (w1.alloc (.cells #[.string s0,.string s1,.string s2,.string s3,.string s4] 104)).drew (below_drew (hb1.alloc hb1.size _))
 have HCC:Hid _:=hcc
 clear hcc HC
 go_region_with (go_at_call 56;refine Calls.mono HCC.out ?_;rintro e w2 ⟨v,er,rfl,hR⟩)
 all_goals
  go_wp2
  go_ret2
  exact⟨v,er,rfl,hR⟩
def Listed (tg:Tags)(w:World)(er:Int)(ks:Kids)(v:Value):Prop:=(er≠0/\v=.slice none 0 0)\/(er=0/\∃ b,v=.slice (some ⟨b,0,none⟩) ks.length ks.length/\NmsAt w b (ks.map entOf) ks.length/\tg b=(0,0))
section
variable {s i p:Nat}{B:WB}{objs:List Ob}
theorem qlist {tg:Tags}{w:World}{g:WG}{lim:Nat}{t:LT}(h:QInv tg w s i p B objs g lim t)(hl:lim+1000<1099511627776){r:List ByteArray}(hL:Good r.reverse):
  Calls Tryz.prog 32 #[.pointer (some ⟨B.wb,0,none⟩),.string (joinB r.reverse)] w fun e w'=>∃ v,e=.returned (.tuple #[v,.int .i64 (lookR objs t g.fs r).2.1])/\∃ tg',Moves (Mine i) tg tg' w w'/\QInv tg' w' s i p B objs { g with fs:=(lookR objs t g.fs r).1 } (lim+400) t/\Listed tg' w' (lookR objs t g.fs r).2.1 (lookR objs t g.fs r).2.2 v:=by
 obtain⟨hwb,c0,_⟩:=h.ws
 have hr5:r.length<=5:=by have:=hL.len;simpa using this
 have hlook:=fun W (hb:Below w.heap.size w W)=>look_all (s:=s) (i:=i) (p:=p) (B:=B) (objs:=objs) r tg W g lim (h.inv.below hb) (by omega) hL
 have he16:((lookR objs t g.fs r).2.2.map entOf).length<=16:=by
  have:=(h.inv.ents g.fs r).len
  rw[flat_look h.inv.st.sound h.flat h.ok g.fs r] at this
  exact this
 simp only[flat_look h.inv.st.sound h.flat h.ok g.fs r] at hlook
 obtain⟨fs',er,ks,hlk⟩:∃ fs' er ks,lookR objs t g.fs r=(fs',er,ks):=⟨_,_,_,rfl⟩
 rw[hlk] at he16 hlook ⊢
 simp only at he16 hlook ⊢
 refine (list_wsG B.wb B.bt r.reverse hL (fun v e w'=>e=er/\∃ tg',Moves (Mine i) tg tg' w w'/\QInv tg' w' s i p B objs { g with fs:=fs' } (lim+400) t/\Listed tg' w' er ks v) w hwb c0 (fun W hb=>?_)).mono ?_
 ·have hmk:∀ {w3 w':World} {tg':Tags},Moves (Fetches i) tg tg' w w3->WInv tg' w3 s i p B objs { g with fs:=fs' } (lim+r.length+1)->Below w3.heap.size w3 w'->Moves (Mine i) tg tg' w w'/\QInv tg' w' s i p B objs { g with fs:=fs' } (lim+400) t:=by
   intro w3 w' tg' m hW hb3
   exact⟨(m.mono (fun t ht=>Fetches.mine ht)).trans (Moves.of_below hb3),(hW.below hb3).mono (by omega),h.flat,h.ok,h.fl,h.op⟩
  by_cases her:er=0
  ·subst her
   by_cases hne:0<ks.length
   ·have htl:=tlist_walk B.bt _ _ _ _ _ (ks.map entOf) (fun w3=>∃ tg',Moves (Fetches i) tg tg' w w3/\WInv tg' w3 s i p B objs { g with fs:=fs' } (lim+r.length+1)) W he16 (fun W' hb'=>(hlook W' (below_via hb hb')).mono ?_)
    ·refine htl.mono ?_
     rintro e w' ⟨w3,⟨tg',m,hW⟩,rfl,hb3,hN⟩
     rw[List.length_map] at hN ⊢
     obtain⟨m',hQ⟩:=hmk m hW hb3
     exact⟨_,_,rfl,rfl,tg',m',hQ,.inr ⟨rfl,_,rfl,hN,hW.st.fresh _ (Nat.le_refl _)⟩⟩
    ·rintro e w' ⟨v,rfl,tg',m,hW,hsl⟩
     obtain⟨gb,cp,rfl,hgb,_⟩:=hsl.at_ (k:=0) (by simpa using hne)
     refine⟨gb,cp,rfl,⟨tg',(call_moves (below_via hb hb') m),hW⟩,hgb,fun j u hu=>?_⟩
     have:=owns_cells hsl.1 j u hu
     rwa [Nat.zero_add] at this
   ·obtain rfl:ks = []:=List.length_eq_zero_iff.1 (by omega)
    have htl:=tlist_nil B.bt _ _ _ _ _ (fun w3=>∃ tg',Moves (Fetches i) tg tg' w w3/\WInv tg' w3 s i p B objs { g with fs:=fs' } (lim+r.length+1)) W (fun W' hb'=>(hlook W' (below_via hb hb')).mono ?_)
    ·refine htl.mono ?_
     rintro e w' ⟨w3,⟨tg',m,hW⟩,rfl,hb3,hN⟩
     obtain⟨m',hQ⟩:=hmk m hW hb3
     exact⟨_,_,rfl,rfl,tg',m',hQ,.inr ⟨rfl,_,rfl,hN,hW.st.fresh _ (Nat.le_refl _)⟩⟩
    ·rintro e w' ⟨v,rfl,tg',m,hW,hsl⟩
     obtain⟨la,c,rfl⟩:=hsl.len
     exact⟨la,c,rfl,tg',(call_moves (below_via hb hb') m),hW⟩
  ·have htl:=tlist_err B.bt _ _ _ _ _ er her (fun w3=>∃ tg',Moves (Fetches i) tg tg' w w3/\WInv tg' w3 s i p B objs { g with fs:=fs' } (lim+r.length+1)) W (fun W' hb'=>(hlook W' (below_via hb hb')).mono ?_)
   ·refine htl.mono ?_
    rintro e w' ⟨⟨tg',m,hW⟩,rfl⟩
    obtain⟨m',hQ⟩:=hmk m hW (Below.refl _ _)
    exact⟨_,_,rfl,rfl,tg',m',hQ,.inl ⟨her,rfl⟩⟩
   ·rintro e w' ⟨v,rfl,tg',m,hW,hsl⟩
    exact⟨v,rfl,tg',(call_moves (below_via hb hb') m),hW⟩
 ·rintro e w' ⟨v,er',he,rfl,hR⟩
  exact⟨v,he,hR⟩
end
def encT (x:Thing8):List Value:=[.string x.1,.int .i64 x.2.1,.string x.2.2]
def flatT (l:List Thing8):List Value:=l.flatMap encT
section
variable {s i p:Nat}{B:WB}{objs:List Ob}{tg0:Tags}{w0:World}{g0:WG}{t0:LT}
end
end Go.Proofs.YtajopoddmfdejaaGreat
