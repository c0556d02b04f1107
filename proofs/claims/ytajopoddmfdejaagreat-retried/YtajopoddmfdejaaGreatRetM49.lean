/-
  What is proved here: the objects of the directories on the way to a path, and of what stands there, as canopykeep's allowed looks for them, are those that Stat may fetch; the first ones it must. Fetched of a ..
-/
import Derived.Test.YtajopoddmfdejaaGreatRetM48
import Derived.Test.YtajopoddmfdejaaGreatRetM47
import Derived.Shelf.SlicesE.Clone
import Derived.Test.YtajopoddmfdejaaGreatRetM44
namespace Go.Proofs.YtajopoddmfdejaaGreat
open Go.RowKit Go.Sort Go.Shelf
set_option linter.unusedVariables false
set_option maxRecDepth 100000
set_option maxHeartbeats 16000000

def encN (xs:List Int):List Value:=xs.map (Value.int .i64)
theorem sizeOfI (w:World):(Go.sizeOf 26).run Tryz.prog w=.ok 1 w:=by kernel_rfl
def IdRow (w:World)(v:Value)(L:List Int):Prop:=w.ownsRow 0 26 1 v L.length (encN L)
theorem cloneI_all {w:World}{v:Value}{got:List Int}(hrow:IdRow w v got)(hl:got.length<=1099511627776):
  Calls Tryz.prog 101 #[v] w fun e w'=>∃ v',e=.returned v'/\w'.ownsRow w.heap.size 26 1 v' got.length (encN got)/\Below w.heap.size w w':=by
 rcases hrow.2 with ⟨rfl,h0⟩ | ⟨g,c,cur,rfl,_⟩
 ·refine (AnyE.slices_Clone_nil Tryz.cloneI 0 0 w).mono ?_
  rintro e w' ⟨rfl,rfl⟩
  obtain rfl:got = []:=List.length_eq_zero_iff.1 h0
  exact⟨_,rfl,World.ownsRow_nil _ _ _ _,Below.refl _ _⟩
 ·obtain⟨i0,hi,hz0,hz1,hz2⟩:=info_parts infoID
  refine (AnyE.slices_Clone Tryz.cloneI i0 _ 1 8 hi hz0 hz1 hz2 rfl (by decide) sizeOfI g 0 got.length c (encN got) w (by simp[encN]) (by unfold maxLen;omega) (by omega) (fun j u hu=>by rw[Nat.zero_add];exact (World.ownsRow.cellAt hrow j (by have:=(List.getElem?_eq_some_iff.1 hu).1;simpa [encN] using this)).trans hu) ?_).mono ?_
  ·intro u hu
   obtain⟨x,_,rfl⟩:=List.mem_map.1 hu
   rfl
  ·rintro e w' ⟨v',rfl,hr,hne,hb⟩
   exact⟨_,rfl,hr,hb⟩
theorem pfetched_all (p:Nat)(v:Value)(R:Value->World->Prop)(w:World)(c3:w.cell? ⟨p,3,none⟩=some v)
  (hc:Calls Tryz.prog 101 #[v] w fun e w'=>∃ v',e=.returned v'/\R v' w'):
  Calls Tryz.prog 55 #[.pointer (some ⟨p,0,none⟩)] w fun e w'=>∃ v',e=.returned v'/\R v' w':=by
 have HC:Hid _:=hc
 clear hc
 go_enter Tryz.func55,Tryz.ntmps55
 go_wp2_with fail
 refine Calls.mono HC.out ?_
 rintro e w' ⟨v',rfl,hR⟩
 go_wp2
 go_ret
 exact⟨v',rfl,hR⟩
theorem sfetched_all (s p:Nat)(R:Value->World->Prop)(w:World)(c0:w.cell? ⟨s,0,none⟩=some (.pointer (some ⟨p,0,none⟩)))
  (hc:Calls Tryz.prog 55 #[.pointer (some ⟨p,0,none⟩)] w fun e w'=>∃ v',e=.returned v'/\R v' w'):
  Calls Tryz.prog 29 #[.pointer (some ⟨s,0,none⟩)] w fun e w'=>∃ v',e=.returned v'/\R v' w':=by
 have HC:Hid _:=hc
 clear hc
 go_enter Tryz.func29,Tryz.ntmps29
 go_wp2_with fail
 refine Calls.mono HC.out ?_
 rintro e w' ⟨v',rfl,hR⟩
 go_wp2
 go_ret
 exact⟨v',rfl,hR⟩
theorem fetched_all {tg:Tags}{w:World}{s p:Nat}{objs:List Ob}{got:List Int}{brk:Bool}{lim:Nat}(h:SInv tg w s p objs got brk lim)(hl:lim<=1099511627776):
  Calls Tryz.prog 29 #[.pointer (some ⟨s,0,none⟩)] w fun e w'=>∃ v',e=.returned v'/\w'.ownsRow w.heap.size 26 1 v' got.length (encN got)/\Below w.heap.size w w':=by
 obtain⟨hfr,ft,hb,⟨a,cap,bf,bd,Df,Dd,hI⟩,hg,hs,hgl⟩:=h
 have hat:=hI.pool.at_
 have c3:w.cell? ⟨p,3,none⟩=some (.slice ft.a ft.n ft.c):=by unfold PoolAt at hat;simp[World.cell?,hat]
 have hrow:=hg.1
 rw[hg.2.1] at hrow c3
 exact sfetched_all s p _ w hI.c0 (pfetched_all p _ _ w c3 (cloneI_all hrow (by omega)))
def RfSt (W wr:World)(s p:Nat)(objs:List Ob)(id:Int)(B:WB)(lim:Nat)(got:List Int)(brk kept:Bool):Prop:=
 ∃ tg g,Old W wr tg/\QInv tg wr s 3 p B objs g lim (.dir id)/\g.fs.got=got/\g.fs.brk=brk/\g.fs.kD id=kept
section
variable {W wr:World}{s p:Nat}{objs:List Ob}{id:Int}{B:WB}{lim:Nat}{got:List Int}{brk kept:Bool}
theorem RfSt.below {w':World}(h:RfSt W wr s p objs id B lim got brk kept)(hb:Below wr.heap.size wr w'):RfSt W w' s p objs id B lim got brk kept:=by
 obtain⟨tg,g,hO,hQ,h1,h2,h3⟩:=h
 exact⟨tg,g,hO.any (fun h=>h) (Moves.of_below (P:=fun _=>False) hb),hQ.below hb,h1,h2,h3⟩
theorem RfSt.ends (h:RfSt W wr s p objs id B lim got false kept):ManyG W wr s p objs lim false [] []:=by
 obtain⟨tg,g,hO,hQ,h1,h2,h3⟩:=h
 refine⟨tg,g.fs.got,hO,?_,(fun x hx=>by cases hx),List.nodup_nil,fun r hr=>by cases hr⟩
 have:=hQ.inv.st
 rw[h2] at this
 exact this
theorem rf_work (h:ManyG W wr s p objs lim false [] [])(hok:LTok objs 5 (.dir id)):
  Calls Tryz.prog 12 #[.pointer (some ⟨s,0,none⟩),.int .i64 id] wr fun e w'=>∃ (B:WB) (got:List Int),e=.returned (.tuple #[.pointer (some ⟨B.wb,0,none⟩),.bool true])/\RfSt W w' s p objs id B lim got false false:=by
 obtain⟨tg,got,hO,hS,hw,hnd,hr⟩:=h
 refine (work_walk s id (fun wb w'=>∃ (B:WB) (got:List Int),B.wb=wb/\RfSt W w' s p objs id B lim got false false) wr ((qcheckout (i:=3) hS (by decide) hok).mono ?_)).mono ?_
 ·rintro e w' ⟨B,he,tg',m,hQ⟩
  exact⟨B.wb,he,B,got,rfl,tg',_,hO.any (fun h=>h) m,hQ,rfl,rfl,rfl⟩
 ·rintro e w' ⟨wb,he,B,got,rfl,h1⟩
  exact⟨B,got,he,h1⟩
theorem rf_fetched (h:RfSt W wr s p objs id B lim got brk kept)(hl:lim<=1099511627776):
  Calls Tryz.prog 29 #[.pointer (some ⟨s,0,none⟩)] wr fun e w'=>∃ a c,e=.returned (.slice a got.length c)/\RfSt W w' s p objs id B lim got brk kept/\w'.ownsRow 0 26 1 (.slice a got.length c) got.length (encN got):=by
 have h':=h
 obtain⟨tg,g,hO,hQ,h1,h2,h3⟩:=h
 refine (fetched_all hQ.inv.st hl).mono ?_
 rintro e w' ⟨v,he,hrow,hb⟩
 rw[h1] at hrow
 rcases hrow.2 with ⟨rfl,h0⟩ | ⟨gb,c,cur,rfl,_⟩
 ·rw[h0] at hrow ⊢
  exact⟨none,0,he,h'.below hb,row_base0 hrow⟩
 ·exact⟨_,c,he,h'.below hb,row_base0 hrow⟩
theorem rf_break (h:RfSt W wr s p objs id B lim got brk kept){how:Int}(hh:how=1\/how=2):
  Calls Tryz.prog 38 #[.pointer (some ⟨s,0,none⟩),.int .i64 how] wr fun e w'=>e=.returned (.int .i64 0)/\RfSt W w' s p objs id B lim got true kept:=by
 obtain⟨tg,g,hO,hQ,h1,h2,h3⟩:=h
 refine (sbreak_any hQ.inv hh).mono ?_
 rintro e w' ⟨he,m,hW⟩
 exact⟨he,tg,_,hO.any (mine0 (by decide)) m,⟨hW,hQ.flat,hQ.ok,hQ.fl,hQ.op⟩,h1,rfl,h3⟩
theorem look_root (fs:FS):lookR objs (.dir id) fs []=if (fs.dirG id).2 then ((fs.dirG id).1,0,(entsOf objs id).map kidOf) else ((fs.dirG id).1,14,[]):=by
 unfold lookR
 simp only[findR]
 rfl
theorem rf_fails (h:RfSt W wr s p objs id B lim got true false)(hl:lim+1000<1099511627776):
  Calls Tryz.prog 32 #[.pointer (some ⟨B.wb,0,none⟩),.string ⟨#[]⟩] wr fun e w'=>e=.returned (.tuple #[.slice none 0 0,.int .i64 14])/\RfSt W w' s p objs id B (lim+400) got false false:=by
 obtain⟨tg,g,hO,hQ,h1,h2,h3⟩:=h
 have hd:g.fs.dirG id=({ g.fs with brk:=false },false):=by
  unfold FS.dirG
  rw[h3,h2]
  rfl
 have hq:=qlist hQ hl (r:=[]) Good.nil
 rw[look_root,hd,if_neg Bool.false_ne_true] at hq
 have hj:joinB [].reverse=⟨#[]⟩:=joinB_nil
 rw[hj] at hq
 refine hq.mono ?_
 rintro e w' ⟨v,he,tg',m,hQ',hL⟩
 rcases hL with ⟨_,rfl⟩ | ⟨h0,_⟩
 ·exact⟨he,tg',_,hO.any (mine0 (by decide)) m,hQ',h1,rfl,h3⟩
 ·exact absurd (show (14:Int)=0 from h0) (by decide)
theorem rf_lists (h:RfSt W wr s p objs id B lim got false false)(hl:lim+1000<1099511627776):
  Calls Tryz.prog 32 #[.pointer (some ⟨B.wb,0,none⟩),.string ⟨#[]⟩] wr fun e w'=>∃ a c,e=.returned (.tuple #[.slice a (entsOf objs id).length c,.int .i64 0])/\RfSt W w' s p objs id B (lim+400) (got ++ [id]) false true:=by
 obtain⟨tg,g,hO,hQ,h1,h2,h3⟩:=h
 have hd:g.fs.dirG id=({ g.fs with got:=g.fs.got ++ [id],kD:=fun x=>decide (x=id) || g.fs.kD x },true):=by
  unfold FS.dirG
  rw[if_neg (by rw[h3];exact Bool.false_ne_true),if_neg (by rw[h2];exact Bool.false_ne_true)]
 have hq:=qlist hQ hl (r:=[]) Good.nil
 rw[look_root,hd,if_pos rfl] at hq
 have hj:joinB [].reverse=⟨#[]⟩:=joinB_nil
 rw[hj] at hq
 refine hq.mono ?_
 rintro e w' ⟨v,he,tg',m,hQ',hL⟩
 rcases hL with ⟨h0,_⟩ | ⟨_,b,rfl,_⟩
 ·exact absurd rfl h0
 ·rw[List.length_map] at he
  exact⟨_,_,he,tg',_,hO.any (mine0 (by decide)) m,hQ',by rw[<- h1],h2,by simp⟩
end
theorem refuses_any {W wr:World}{s p:Nat}{objs:List Ob}{id:Int}{lim:Nat}(h:ManyG W wr s p objs lim false [] [])(hok:LTok objs 5 (.dir id))(hne:0<(entsOf objs id).length)(h16:(entsOf objs id).length<=16){how:Int}(hh:how=1\/how=2)(hl:lim<=100000):
  Calls Tryz.prog 36 #[.pointer (some ⟨s,0,none⟩),.int .i64 id,.int .i64 how] wr fun e w'=>e=.returned (.bool true)/\ManyG W w' s p objs (lim+800) false [] []:=by
 have HW:Hid _:=rf_work h hok
 clear h hok
 go_enter Tryz.func36,Tryz.ntmps36
 go_wp2_with fail
 refine Calls.mono HW.out ?_
 rintro e w1 ⟨B,got,rfl,h1⟩
 have hgl:got.length<=lim:=by
  obtain⟨tg,g,hO,hQ,q1,q2,q3⟩:=h1
  obtain⟨_,ft,_,_,_,_,hq⟩:=hQ.inv.st
  rw[q1] at hq
  exact hq
 have HF1:Hid _:=rf_fetched h1 (by omega)
 clear HW h1
 go_wp2_with fail
 refine Calls.mono HF1.out ?_
 rintro e w2 ⟨a2,c2,rfl,h2,_⟩
 have HB:Hid _:=rf_break h2 hh
 clear HF1 h2
 go_wp2_with fail
 refine Calls.mono HB.out ?_
 rintro e w3 ⟨rfl,h3⟩
 have HL1:Hid _:=rf_fails h3 (by omega)
 clear HB h3
 go_wp2_with fail
 refine Calls.mono HL1.out ?_
 rintro e w4 ⟨rfl,h4⟩
 have HF2:Hid _:=rf_fetched h4 (by omega)
 clear HL1 h4
 go_wp2_with fail
 refine Calls.mono HF2.out ?_
 rintro e w5 ⟨a5,c5,rfl,h5,_⟩
 have HL2:Hid _:=rf_lists h5 (by omega)
 clear HF2 h5
 go_wp2_with fail
 refine Calls.mono HL2.out ?_
 rintro e w6 ⟨a6,c6,rfl,h6⟩
 have HF3:Hid _:=rf_fetched h6 (by omega)
 clear HL2 h6
 go_wp2_with fail
 refine Calls.mono HF3.out ?_
 rintro e w7 ⟨a7,c7,rfl,h7,hrow⟩
 have HE:Hid _:=RfSt.ends h7
 have hlen:(got ++ [id]).length=got.length+1:=by simp
 rw[hlen] at hrow ⊢
 obtain⟨gb,cap,hv⟩:=slice_of_owns hrow (by omega)
 have hcell:w7.cell? ⟨gb,got.length,none⟩=some (.int .i64 id):=by
  rw[hv] at hrow
  have:=World.ownsRow.cells hrow (g:=gb) rfl got.length (.int .i64 id) (by simp[encN])
  rw[add_plain,Nat.zero_add] at this
  exact this
 obtain⟨ev1,ev2⟩:a7=some ⟨gb,0,none⟩/\c7=cap:=by injection hv with e1 e2 e3;exact⟨e1,e3⟩
 subst ev1
 obtain⟨n,hn⟩:∃ n,n=got.length:=⟨_,rfl⟩
 obtain⟨k,hk⟩:∃ k,k=(entsOf objs id).length:=⟨_,rfl⟩
 rw[<- hn] at hgl hcell ⊢
 rw[<- hk] at hne h16 ⊢
 have hkp:decide (0<k)=true:=decide_eq_true hne
 have hgb:gb<w7.heap.size:=ownsRow_lt hrow (by rw[hv];rfl)
 clear hrow hv hn hk HF3 h7 hlen ev2
 go_wp2
 go_ret
 exact⟨rfl,by have:=HE.out;rw[show lim+800=lim+400+400 by omega];exact this⟩
theorem rowC_shape {w:World}{base:Nat}{v:Value}{n:Nat}{xs:List Value}(h:w.ownsRow base 58 2 v n xs):∃ a c,v=.slice a n c:=by
 rcases h.2 with ⟨e,h0⟩ | ⟨g',c',_,e,_⟩
 ·exact⟨none,0,by rw[e,h0]⟩
 ·exact⟨_,_,e⟩
theorem rowC_cells {w:World}{base:Nat}{v:Value}{n:Nat}{L:List Chg8}(h:w.ownsRow base 58 2 v n (flatC L))(hn:n=L.length){k:Nat}(hk:k<L.length):∃ g c,v=.slice (some ⟨g,0,none⟩) n c/\g<w.heap.size/\w.cell? ⟨g,k*2,none⟩=some (.string (L[k]).1)/\w.cell? ⟨g,k*2+1,none⟩=some (.int .i64 (L[k]).2):=by
 obtain⟨g,c,rfl⟩:=slice_of_owns h (by omega)
 have h1:=World.ownsRow.cells h (g:=g) rfl
 have e0:=flatC_get L k 0 hk (by omega)
 have e1:=flatC_get L k 1 hk (by omega)
 refine⟨g,c,rfl,ownsRow_lt h rfl,?_,?_⟩
 ·have:=h1 (k*2) _ e0
  rw[add_plain,Nat.zero_add] at this
  exact this
 ·have:=h1 (k*2+1) _ e1
  rw[add_plain,Nat.zero_add] at this
  exact this
theorem single_any (kd x y:Int)(d:ByteArray)(w:World)(hk:i64 kd):
  Calls Tryz.prog 37 #[.agg #[.int .i64 kd,.int .i64 x,.int .i64 y,.string d]] w fun e w'=>e=.returned (.agg #[.int .i64 (stepK kd),.int .i64 x,.int .i64 y,.string d])/\Below w.heap.size w w':=by
 have hpk:=fun W=>kpick_any kd 3 W hk (by decide) (by decide)
 have hr:=pickN_range (c:=kd) (n:=3) (by decide)
 unfold stepK
 generalize pickN kd 3=r at hpk hr ⊢
 obtain⟨h0,h1⟩:=hr
 have hw:IntKind.i64.wrap (3+r)=3+r:=by rw[IntKind.wrap_i64] <;> omega
 go_enter Tryz.func37,Tryz.ntmps37
 go_wp2_with (go_at_call 18;refine Calls.mono (hpk _) ?_;rintro e w1 ⟨rfl,rfl⟩)
 exact bodyPost_ret (v:=.agg #[.int .i64 (3+r),.int .i64 x,.int .i64 y,.string d]) (by simp[results,Tryz.results37,go_sem]) rfl ⟨rfl,by
  exact ((Below.refl w.heap.size w).alloc (Nat.le_refl _) _).alloc (by simp) _⟩
def StepsF (W:World)(a:Option Addr)(len:Nat)(M:Nat->Int×Int×Int):Prop:=∀ j,j<len->∃ b o d,a=some ⟨b,o,none⟩/\b<W.heap.size/\i64 (M j).1/\i64 (M j).2.1/\i64 (M j).2.2/\d.size<=maxLen/\W.cell? ⟨b,o+j*4,none⟩=some (.int .i64 (M j).1)/\W.cell? ⟨b,o+j*4+1,none⟩=some (.int .i64 (M j).2.1)/\W.cell? ⟨b,o+j*4+2,none⟩=some (.int .i64 (M j).2.2)/\W.cell? ⟨b,o+j*4+3,none⟩=some (.string d)
theorem steps_fun {W:World}{a:Option Addr}{len:Nat}(h:StepsAt W a len):∃ M,StepsF W a len M:=by
 have:∀ j,∃ m:Int×Int×Int,j<len->∃ b o d,a=some ⟨b,o,none⟩/\b<W.heap.size/\i64 m.1/\i64 m.2.1/\i64 m.2.2/\d.size<=maxLen/\W.cell? ⟨b,o+j*4,none⟩=some (.int .i64 m.1)/\W.cell? ⟨b,o+j*4+1,none⟩=some (.int .i64 m.2.1)/\W.cell? ⟨b,o+j*4+2,none⟩=some (.int .i64 m.2.2)/\W.cell? ⟨b,o+j*4+3,none⟩=some (.string d):=by
  intro j
  by_cases hj:j<len
  ·obtain⟨b,o,ha,hb,hs⟩:=h.at_ (by omega)
   obtain⟨kd,x,y,d,h1,h2,h3,h4,c0,c1,c2,c3⟩:=hs j hj
   exact⟨(kd,x,y),fun _=>⟨b,o,d,ha,hb,h1,h2,h3,h4,c0,c1,c2,c3⟩⟩
  ·exact⟨(0,0,0),fun h=>absurd h hj⟩
 obtain⟨M,hM⟩:=Classical.skolem.1 this
 exact⟨M,hM⟩
def IntsAt (W:World)(a:Option Addr)(len:Nat):Prop:=∀ j,j<len->∃ b o x,a=some ⟨b,o,none⟩/\b<W.heap.size/\i64 x/\W.cell? ⟨b,o+j,none⟩=some (.int .i64 x)
def errsN (E:Nat->Int)(n:Nat):List Value:=(List.range n).map fun i=>.int .i64 (E i)
theorem errsN_succ (E:Nat->Int)(n:Nat):errsN E (n+1)=errsN E n ++ [.int .i64 (E n)]:=by unfold errsN;rw[List.range_succ,List.map_append];rfl
theorem errsN_congr {E E':Nat->Int}{n:Nat}(h:∀ i,i<n->E' i=E i):errsN E' n=errsN E n:=by
 unfold errsN
 refine List.map_congr_left (fun i hi=>?_)
 rw[h i (List.mem_range.1 hi)]
section
variable {W wr:World}{s p:Nat}{objs:List Ob}{id:Int}{Bw Bv:WB}{lim:Nat}{M:Nat->Int×Int×Int}{T:Nat->LT}{F:Nat->Nat->Option (Int×ByteArray)}{E:Nat->Int}{n:Nat}
def RtV (W wr:World)(s p:Nat)(objs:List Ob)(id:Int)(Bw Bv:WB)(lim:Nat)(M:Nat->Int×Int×Int)(n:Nat)(v:Value):Prop:=
 ∃ T F E gv gw,Run objs M n T F E/\SemEq objs (fcOf objs (F 0)) (T 0) objs fcE (.dir id)/\gv.fl=F n/\gv.base=id/\gw.base=id/\ManyG W wr s p objs lim false [(4,Bv,gv,T n),(3,Bw,gw,.dir id)] [(35,1,v,n,errsN E n)]
theorem rv_begin {gw gv:WG}(hok:LTok objs 5 (.dir id))(hbig:big objs 5 (.dir id)<=95)(hw:gw.base=id)(hv:gv.base=id)(hf:gv.fl=fun _=>none)(h:Many W wr s p objs lim [(4,Bv,gv,.dir id),(3,Bw,gw,.dir id)] []):RtV W wr s p objs id Bw Bv lim M 0 (.slice none 0 0):=by
 have hG:=(ManyG.of h).nil 35 1
 obtain⟨o,i4,l4,_⟩:=hG.slot (List.mem_cons_self ..)
 refine⟨fun _=>.dir id,fun _ _=>none,fun _=>0,gv,gw,⟨fun i hi=>by omega,fun i hi=>⟨o,fun x f hx=>by have:=l4 x f hx;rw[hf] at this;exact this,i4⟩,fun i hi=>⟨rfl,by show big objs 5 (.dir id)<=95+i;omega⟩⟩,stored_fc (.inr ⟨_,rfl⟩) _ _,hf,hv,hw,hG⟩
theorem RtV.old {v:Value}(h:RtV W wr s p objs id Bw Bv lim M n v):Below W.heap.size W wr:=by
 obtain⟨T,F,E,gv,gw,_,_,_,_,_,hM⟩:=h
 exact hM.old
def RtV1 (W wr:World)(s p:Nat)(objs:List Ob)(id:Int)(Bw Bv:WB)(lim:Nat)(M:Nat->Int×Int×Int)(n:Nat)(v:Value)(er:Int)(xs:List Value):Prop:=
 wr.ownsRow W.heap.size 35 1 v n xs/\W.heap.size<=wr.heap.size/\∀ w1 v',w1.ownsRow W.heap.size 35 1 v' (n+1) (xs ++ [.int .i64 er])->∀ w0,Below wr.heap.size wr w0->w0.grownBy w1 v.ownBlock->(v'.ownBlock=v.ownBlock\/v'.ownBlock=some w0.heap.size)->RtV W w1 s p objs id Bw Bv lim M (n+1) v'
theorem rv_do {v:Value}(hX:Exact objs)(h:RtV W wr s p objs id Bw Bv lim M n v)(hl:lim+1000<1099511627776){d:ByteArray}(h1:i64 (M n).1)(h2:i64 (M n).2.1)(h3:i64 (M n).2.2)(hd:d.size<=maxLen){W1:World}(hb:Below wr.heap.size wr W1):
  Calls Tryz.prog 14 #[.pointer (some ⟨Bv.wb,0,none⟩),.agg #[.int .i64 (stepK (M n).1),.int .i64 (M n).2.1,.int .i64 (M n).2.2,.string d]] W1 fun e w'=>∃ er xs,e=.returned (.int .i64 er)/\RtV1 W w' s p objs id Bw Bv (lim+500) M n v er xs:=by
 obtain⟨T,F,E,gv,gw,hR,hT0,hfl,hbv,hbw,hM⟩:=h
 obtain⟨hkd,hbig⟩:=hR.few n (Nat.le_refl _)
 have hr:=stepK_range (M n).1
 have hMb:=hM.below hb
 refine (mg_do hMb hl (by show _/\_;omega) h2 h3 hd (path_split (M n).2.1) (path_split (M n).2.2)).mono ?_
 rintro e w' ⟨er,g',t',g1,he,f1,b1,hs,hba,hb',hM'⟩
 rw[stepK_pick] at hs
 have hst:StepAt objs g1 (T n) (M n) er g' t':=step_data hr.1 hs ⟨#[]⟩
 have hfi:=hR.fine n (Nat.le_refl _)
 obtain⟨o',i',l',_⟩:=hM'.slot (List.mem_cons_self ..)
 have hbk:g'.fs.brk=false:=by
  rcases step_fair hst with ⟨_,_,_,h,_⟩ | ⟨h,_⟩
  ·exact h
  ·rw[h,b1]
 rw[hbk] at hM'
 have hkd':t'.kind=2:=(did_kind hX.sound hfi.ok (fun x f hx=>by rw[f1,hfl];exact hfi.held x f hx) hfi.inj b1 hst).trans hkd
 obtain⟨T',F',E',hR',hT',hF',hT0',hF0',hE',hEE⟩:=hR.more (f1.trans hfl) b1 hst ⟨o',l',i'⟩ ⟨hkd',by omega⟩
 refine⟨er,errsN E n,he,hM'.row (r:=(35,1,v,n,errsN E n)) (List.mem_singleton.2 rfl),hM'.old.size,fun w1 v' hown w0 hb0 hg hloc=>⟨T',F',E',g',gw,hR',by rw[hT0',hF0'];exact hT0,hF'.symm,hba.trans hbv,hbw,?_⟩⟩
 rw[hT',errsN_succ,hE',errsN_congr hEE]
 exact (hM'.below hb0).grow hown hg hloc
structure RtF (objs a:List Ob)(id c:Int)(M:Nat->Int×Int×Int)(n:Nat)(T:Nat->LT)(F:Nat->Nat->Option (Int×ByteArray))(E:Nat->Int)(L:List Chg8):Prop where
 xo:Exact objs
 xa:Exact a
 oa:Once a
 len:a.length<=300
 ob:LTok objs 5 (.dir id)
 ab:LTok a 5 (.dir id)
 same:∀ y,sem a fcE (.dir id) y=sem objs fcE (.dir id) y
 run:Run objs M n T F E
 told:Told8 objs (F n) (T n) id L
 ac:LTok a 5 (.dir c)
 comm:SemEq a fcE (.dir c) objs (fcOf objs (F n)) (T n)
 few:n<=90
def RtW (W wr:World)(s p:Nat)(objs a:List Ob)(id:Int)(Bw:WB)(lim:Nat)(n:Nat)(T:Nat->LT)(F:Nat->Nat->Option (Int×ByteArray))(E:Nat->Int)(L:List Chg8)(v u:Value)(i:Nat)(brk:Bool):Prop:=
 ∃ gw tw x,ManyG W wr s p a lim brk [(3,Bw,gw,tw),x] [(58,2,u,L.length,flatC L),(35,1,v,n,errsN E n)]/\SemEq a (fcOf a gw.fl) tw objs (fcOf objs (F i)) (T i)/\gw.base=id/\tw.kind=2/\big a 5 tw<=185
def RtS (W wr:World)(s p:Nat)(objs:List Ob)(id:Int)(Bw Bv:WB)(lim:Nat)(M:Nat->Int×Int×Int)(n:Nat)(v u:Value)(k:Nat):Prop:=
 ∃ T F E gv gw L,k=L.length/\Run objs M n T F E/\SemEq objs (fcOf objs (F 0)) (T 0) objs fcE (.dir id)/\gv.fl=F n/\gw.base=id/\Told8 objs (F n) (T n) id L/\ManyG W wr s p objs lim false [(4,Bv,gv,T n),(3,Bw,gw,.dir id)] [(58,2,u,L.length,flatC L),(35,1,v,n,errsN E n)]
theorem rv_status {v:Value}(hO:Obs8 objs id)(hn:n<=90)(h:RtV W wr s p objs id Bw Bv lim M n v)(hl:lim+110000000<1099511627776):
  Calls Tryz.prog 27 #[.pointer (some ⟨Bv.wb,0,none⟩)] wr fun e w'=>∃ a k c,e=.returned (.tuple #[.slice a k c,.int .i64 0])/\RtS W w' s p objs id Bw Bv (lim+110000000) M n v (.slice a k c) k:=by
 obtain⟨T,F,E,gv,gw,hR,hT0,hfl,hbv,hbw,hM⟩:=h
 obtain⟨hkd,hbig⟩:=hR.few n (Nat.le_refl _)
 have hcb:=cnt_big objs 5 (T n)
 have hln:=hO.len
 refine (mg_status hM hO.exact hO.once (by omega) (by rw[hbv];exact hO.ok) hl).mono ?_
 rintro e w' ⟨u,er,g',he,f1,f2,⟨rfl,hb,L,hT,hM'⟩ | ⟨_,hb,_⟩⟩
 ·rw[hfl,hbv] at hT
  obtain⟨a,c,rfl⟩:∃ a c,u=.slice a L.length c:=by
   have hr:=hM'.row (List.mem_cons_self ..)
   rcases hr.2 with ⟨e,h0⟩ | ⟨g',c',_,e,_⟩
   ·exact⟨none,0,by rw[show u=_ from e,show L.length=0 from h0]⟩
   ·exact⟨_,_,e⟩
  exact⟨a,L.length,c,he,T,F,E,g',gw,L,rfl,hR,hT0,f1.trans hfl,hbw,hT,hM'⟩
 ·cases hb
theorem rv_commit {v u:Value}{k:Nat}(hO:Obs8 objs id)(hbg:big objs 5 (.dir id)<=95)(hn:n<=90)(h:RtS W wr s p objs id Bw Bv lim M n v u k):
  Calls Tryz.prog 20 #[.pointer (some ⟨Bv.wb,0,none⟩)] wr fun e w'=>∃ c a T F E L,e=.returned (.tuple #[.int .i64 c,.int .i64 0])/\k=L.length/\RtF objs a id c M n T F E L/\RtW W w' s p objs a id Bw lim n T F E L v u 0 false:=by
 obtain⟨T,F,E,gv,gw,L,hkl,hR,hT0,hfl,hbw,hT,hM⟩:=h
 obtain⟨hkd,hbig⟩:=hR.few n (Nat.le_refl _)
 obtain⟨o,_,_,hfs⟩:=hM.slot (List.mem_cons_self ..)
 have hcb:=cnt_big objs 5 (T n)
 have hl:=hO.len
 have hob:=(objR_ok gv.fl 5 (Nat.le_refl _) (T n) objs hO.exact o (hfs hO.exact)).len
 refine (mg_commit hM hO.exact hO.once (by omega) (by omega) hkd).mono ?_
 rintro e w' ⟨l,he,hXa,hOa,hlen,hac,hse,hM'⟩
 have hse:SemEq (objs++l) fcE (.dir (objR gv.fl 5 (T n) objs).1) objs (fcOf objs (F n)) (T n):=fun y=>by rw[hse y,hfl]
 have hsame:∀ y,sem (objs++l) fcE (.dir id) y=sem objs fcE (.dir id) y:=fun y=>sem_app hO.exact.sound l fcE y 5 _ hO.ok
 have hab:LTok (objs++l) 5 (.dir id):=LTok_app l 5 _ hO.ok
 refine⟨_,_,T,F,E,L,he,hkl,⟨hO.exact,hXa,hOa,by omega,hO.ok,hab,hsame,hR,hT,hac,hse,hn⟩,gw,.dir id,_,hM'.perm (List.Perm.swap ..),fun y=>?_,hbw,rfl,?_⟩
 ·rw[hT0 y,<- hsame y]
  exact stored_fc (.inr ⟨_,rfl⟩) _ _ y
 ·rw[big_sem (fc:=fcE) (fc':=fcE) hXa.sound hO.exact.sound hab hO.ok hsame];omega
variable {a:List Ob}{c:Int}{L:List Chg8}{v u:Value}{i:Nat}{brk:Bool}
theorem RtW.old (h:RtW W wr s p objs a id Bw lim n T F E L v u i brk):Below W.heap.size W wr:=by
 obtain⟨gw,tw,x,hM,_⟩:=h
 exact hM.old
theorem RtW.rows2 (h:RtW W wr s p objs a id Bw lim n T F E L v u i brk):wr.ownsRow W.heap.size 58 2 u L.length (flatC L)/\wr.ownsRow W.heap.size 35 1 v n (errsN E n):=by
 obtain⟨gw,tw,x,hM,_⟩:=h
 exact⟨hM.row (r:=(58,2,u,L.length,flatC L)) (by simp),hM.row (r:=(35,1,v,n,errsN E n)) (by simp)⟩
theorem rw_break (h:RtW W wr s p objs a id Bw lim n T F E L v u i brk){how:Int}(hh:how=1\/how=2):
  Calls Tryz.prog 38 #[.pointer (some ⟨s,0,none⟩),.int .i64 how] wr fun e w'=>e=.returned (.int .i64 0)/\RtW W w' s p objs a id Bw lim n T F E L v u i true:=by
 obtain⟨gw,tw,x,hM,hs,hb,hk,hbg⟩:=h
 refine (mg_break hM hh).mono ?_
 rintro e w' ⟨he,g',f1,f2,_,hM'⟩
 exact⟨he,g',tw,x,hM',by rw[f1];exact hs,f2.trans hb,hk,hbg⟩
theorem rw_do (hF:RtF objs a id c M n T F E L)(hi:i<n)(h:RtW W wr s p objs a id Bw lim n T F E L v u i brk)(hl:lim+1000<1099511627776){d:ByteArray}(h1:i64 (M i).1)(h2:i64 (M i).2.1)(h3:i64 (M i).2.2)(hd:d.size<=maxLen){W1:World}(hb:Below wr.heap.size wr W1):
  Calls Tryz.prog 14 #[.pointer (some ⟨Bw.wb,0,none⟩),.agg #[.int .i64 (stepK (M i).1),.int .i64 (M i).2.1,.int .i64 (M i).2.2,.string d]] W1 fun e w'=>∃ er,e=.returned (.int .i64 er)/\((er=14/\brk=true/\RtW W w' s p objs a id Bw (lim+500) n T F E L v u i false)\/(er=E i/\er≠14/\RtW W w' s p objs a id Bw (lim+500) n T F E L v u (i+1) brk)):=by
 obtain⟨gw,tw,x,hM,hs,hba,hk,hbg⟩:=h
 have hr:=stepK_range (M i).1
 obtain⟨o,i3,l3,_⟩:=hM.slot (List.mem_cons_self ..)
 refine (mg_do (hM.below hb) hl (by show _/\_;omega) h2 h3 hd (path_split (M i).2.1) (path_split (M i).2.2)).mono ?_
 rintro e w' ⟨er,g',t',g1,he,f1,b1,hst,hba',hb',hM'⟩
 rw[stepK_pick] at hst
 have hst':StepAt a g1 tw (M i) er g' t':=step_data hr.1 hst ⟨#[]⟩
 refine⟨er,he,?_⟩
 rcases run_next hF.xa hF.xo hF.run hi ⟨o,fun x f hx=>by rw[f1];exact l3 x f hx,i3⟩ (by rw[f1];exact hs) hst' with ⟨rfl,rfl,f2,b2,b3⟩ | ⟨e1,e2,b2,hs'⟩
 ·rw[b2] at hM'
  exact .inl ⟨rfl,b1.symm.trans b3,g',_,x,hM',by rw[f2,f1];exact hs,hba'.trans hba,hk,hbg⟩
 ·rw[b2,b1] at hM'
  obtain⟨o',_⟩:=hM'.slot (List.mem_cons_self ..)
  have hfi:=hF.run.fine (i+1) (by omega)
  have hkd:t'.kind=(T (i+1)).kind:=nd_kind (sem_nd (hs' []))
  refine .inr ⟨e1,e2,g',t',x,hM',hs',hba'.trans hba,?_,?_⟩
  ·rw[hkd];exact (hF.run.few (i+1) (by omega)).1
  ·rw[big_sem hF.xa.sound hF.xo.sound o' hfi.ok hs']
   have:=(hF.run.few (i+1) (by omega)).2
   have:=hF.few
   omega
theorem rw_status (hF:RtF objs a id c M n T F E L)(h:RtW W wr s p objs a id Bw lim n T F E L v u n brk)(hl:lim+110000000<1099511627776):
  Calls Tryz.prog 27 #[.pointer (some ⟨Bw.wb,0,none⟩)] wr fun e w'=>∃ b k cp er,e=.returned (.tuple #[.slice b k cp,.int .i64 er])/\((er=14/\brk=true/\RtW W w' s p objs a id Bw (lim+110000000) n T F E L v u n false)\/(er=0/\k=L.length/\w'.ownsRow W.heap.size 58 2 (.slice b k cp) k (flatC L)/\RtW W w' s p objs a id Bw (lim+110000000) n T F E L v u n brk)):=by
 obtain⟨gw,tw,x,hM,hs,hba,hk,hbg⟩:=h
 obtain⟨o,_⟩:=hM.slot (List.mem_cons_self ..)
 have hcb:=cnt_big a 5 tw
 have hln:=hF.len
 refine (mg_status hM hF.xa hF.oa (by omega) (by rw[hba];exact hF.ab) hl).mono ?_
 rintro e w' ⟨u',er,g',he,f1,f2,⟨rfl,hb,L',hT,hM'⟩ | ⟨rfl,hb,rfl,hM'⟩⟩
 ·rw[hba] at hT
  have hfi:=hF.run.fine n (Nat.le_refl _)
  have e1:L=L':=told_same hF.xa.sound hF.xo.sound hfi.ok o (hF.run.few n (Nat.le_refl _)).1 hk hF.ob hF.ab hF.same hs hF.told hT
  subst e1
  have hr:=hM'.row (List.mem_cons_self ..)
  have hr':w'.ownsRow W.heap.size 58 2 u' L.length (flatC L):=hr
  obtain⟨tg,got,q1,q2,q3,q4,q5⟩:=hM'
  have hM2:ManyG W w' s p a (lim+110000000) brk [(3,Bw,g',tw),x] [(58,2,u,L.length,flatC L),(35,1,v,n,errsN E n)]:=⟨tg,got,q1,q2,q3,q4,fun r hr=>q5 r (List.mem_cons_of_mem _ hr)⟩
  obtain⟨b,cp,rfl⟩:=rowC_shape hr'
  exact⟨b,L.length,cp,0,he,.inr ⟨rfl,rfl,hr',g',tw,x,hM2,by rw[f1];exact hs,f2.trans hba,hk,hbg⟩⟩
 ·exact⟨none,0,0,14,he,.inl ⟨rfl,hb,g',tw,x,hM',by rw[f1];exact hs,f2.trans hba,hk,hbg⟩⟩
theorem RtW.below {w':World}(h:RtW W wr s p objs a id Bw lim n T F E L v u i brk)(hb:Below wr.heap.size wr w'):RtW W w' s p objs a id Bw lim n T F E L v u i brk:=by
 obtain⟨gw,tw,x,hM,hr⟩:=h
 exact⟨gw,tw,x,hM.below hb,hr⟩
theorem rw_commit (hF:RtF objs a id c M n T F E L)(h:RtW W wr s p objs a id Bw lim n T F E L v u n brk):
  Calls Tryz.prog 20 #[.pointer (some ⟨Bw.wb,0,none⟩)] wr fun e w'=>e=.returned (.tuple #[.int .i64 c,.int .i64 0])/\Below W.heap.size W w':=by
 obtain⟨gw,tw,x,hM,hs,hba,hk,hbg⟩:=h
 obtain⟨o,_,_,hfs⟩:=hM.slot (List.mem_cons_self ..)
 have hcb:=cnt_big a 5 tw
 have hln:=hF.len
 have hsem:∀ y,sem a (fcOf a gw.fl) tw y=sem a (fcOf a gw.fl) (.dir c) y:=fun y=>by
  rw[hs y,<- hF.comm y]
  exact stored_fc (.inr ⟨_,rfl⟩) _ _ y
 have hr:=objR_sem hF.xa hF.oa (hfs hF.xa) 5 tw (.dir c) o hF.ac (.inr ⟨_,rfl⟩) hsem
 rw[show (LT.dir c).id=c from rfl] at hr
 refine (mg_commit hM hF.xa hF.oa (by omega) (by rw[hr];show a.length<=400;omega) hk).mono ?_
 rintro e w' ⟨l,he,_,_,_,_,_,hM'⟩
 rw[hr] at he
 exact⟨he,hM'.old⟩
end
end Go.Proofs.YtajopoddmfdejaaGreat
