/- What is proved here: 'Checkout' of the document's own workspace. -/
import Derived.Test.YtlgidcmmgohagaaGreatFileM31
import Derived.Test.YtlgidcmmgohagaaGreatFileM32
import Derived.Deep.Cut
import Derived.Deep.CutRange
import Derived.Test.YtlgidcmmgohagaaGreatFileM28
import Derived.Test.YtlgidcmmgohagaaGreatFileM11
namespace Go.Proofs.YtlgidcmmgohagaaGreat
open Go.RowKit Go.Sort Go.Shelf Go.Proofs.Tryz
set_option linter.unusedVariables false
set_option maxRecDepth 100000
set_option maxHeartbeats 16000000
def NewB (w w':World)(k:Nat):Prop:=w.heap.size<=k/\k<w'.heap.size
theorem after_copy {w w2 w3:World}{S q j:Nat}{v:Value}{nodes:List Ent}{data:List ByteArray}{rest:List Value}(hs:StInv (NewB w w2) w2 S nodes data rest)(hS:w.heap.size<=S)(hb:Below w.heap.size w w2)(hg:(w2.drewN q).grownBy w3 none):
  StInv (NewB w (w3.setCell ⟨S,2+j,none⟩ v)) (w3.setCell ⟨S,2+j,none⟩ v) S nodes data (rest.set j v)/\Below w.heap.size w (w3.setCell ⟨S,2+j,none⟩ v):=by
 obtain⟨na,nc,da,dc,hst⟩:=hs;have hsz:w2.heap.size<=w3.heap.size:=hg.size;have h3:StAt (NewB w w3) w3 S na da nc dc nodes data rest:=hst.keep (fun k hk=>⟨hk.1,zzA hk.2 hsz⟩) (fun k hk=>hg.block k hk.2 (by simp));have h4:=(h3.setRest j v).1;refine⟨⟨na,nc,da,dc,h4.keep (fun k hk=>⟨hk.1,by simpa using hk.2⟩) (fun _ _=>rfl)⟩,?_⟩;exact ((below_drewN hb q).grown hg hb.size (fun k h=>by cases h)).setCell hS _
theorem slice_any {w:World}{b:Nat}{t:TypeId}{z n:Nat}{v:Value}{xs:List Value}(h:w.ownsRow b t z v n xs):∃a c,v=.slice a n c:=by
 rcases h.2 with ⟨rfl,rfl⟩ | ⟨g,cap,_,rfl,_⟩
 ·exact⟨none,0,rfl⟩
 ·exact⟨_,_,rfl⟩
def rest0:List Value:=[.bool false,.int .i64 0,.int .i64 0,.int .i64 0,.bool false,.int .i64 0,.int .i64 0,.int .i64 0,.bool false,.int .i64 0,.int .i64 0,.int .i64 0,.bool false,.int .i64 0,.int .i64 0,.int .i64 0,.bool false,.int .i64 0,.int .i64 0,.int .i64 0,.bool false,.int .i64 0,.int .i64 0,.int .i64 0,.bool false,.int .i64 0,.int .i64 0,.int .i64 0,.bool false,.int .i64 0,.int .i64 0,.int .i64 0,.slice none 0 0,.slice none 0 0]
theorem fresh_state (w:World):StInv (fun k=>k=w.heap.size) (w.alloc (.cells (Value.slice none 0 0 :: Value.slice none 0 0 :: rest0).toArray 179)) w.heap.size [] [] rest0:=
 ⟨none,0,none,0,⟨rfl,heap_alloc_new _ _,World.ownsRow_nil _ _ _ _,World.ownsRow_nil _ _ _ _,(fun g hg=>by cases hg),(fun g hg=>by cases hg)⟩⟩
theorem StAt.cR {F:Nat->Prop}{w:World}{S:Nat}{na da:Option Addr}{nc dc:Nat}{nodes:List Ent}{data:List ByteArray}{rest:List Value}(h:StAt F w S na da nc dc nodes data rest){j:Nat}{v:Value}(hj:rest[j]? = some v):w.cell? ⟨S,2+j,none⟩=some v:=by
 have e2:(2+j)=j+1+1:=by omega
 simp[World.cell?,h.hS,e2,hj]
theorem StAt.fR {F:Nat->Prop}{w:World}{S:Nat}{na da:Option Addr}{nc dc:Nat}{nodes:List Ent}{data:List ByteArray}{rest:List Value}(h:StAt F w S na da nc dc nodes data rest)(i:Nat):w.frozen? ⟨S,i,none⟩=false:=by simp[World.frozen?,h.hS]
theorem encS_one (xs:List ByteArray):∀u ∈ encS xs,u.oneCell'=true:=by
 intro u hu;simp only[encS,List.mem_map] at hu;obtain⟨x,_,rfl⟩:=hu;rfl
theorem checkout_any (ros:List Ob)(r at_:Nat)(G:Nat->Prop)(w:World)(hat:Below0 ros)(hnm:∀o ∈ ros,∀e ∈ o.ents,e.1.size<=12)(hal:at_<ros.length)(hfew:at_<=5000)(b1:(outP ros (at_+1) at_ ⟨#[]⟩ ([],[])).1.length<=1000000000)(b2:(outP ros (at_+1) at_ ⟨#[]⟩ ([],[])).2.length<=1000000000)
  (hri:RefInv G w r ros)(hG:∀k,G k->k<w.heap.size):
  Calls prog 47 #[.pointer (some ⟨r,0,none⟩),.int .i64 (at_:Int)] w fun e w'=>∃rest,rest.take 32=rest0.take 32/\e=.returned (.pointer (some ⟨w.heap.size,0,none⟩))/\StInv (NewB w w') w' w.heap.size (outP ros (at_+1) at_ ⟨#[]⟩ ([],[])).1 (outP ros (at_+1) at_ ⟨#[]⟩ ([],[])).2 rest/\Below w.heap.size w w':=by
 obtain⟨iN,hiN,hN0,hN1,hN2⟩:=info_parts infoNode;obtain⟨iS,hiS,hS0,hS1,hS2⟩:=info_parts infoStrR;have hout:=fun (rest:List Value) (F:Nat->Prop) (w1:World)=>out_any ros rest w.heap.size r hat hnm (at_+1) at_ ⟨#[]⟩ ([],[]) F G w1 (by omega) hal (by show 0+_<=_;omega) b1 b2;obtain⟨nodes,hnodes⟩:∃x,x=(outP ros (at_+1) at_ ⟨#[]⟩ ([],[])).1:=⟨_,rfl⟩;obtain⟨data,hdata⟩:∃x,x=(outP ros (at_+1) at_ ⟨#[]⟩ ([],[])).2:=⟨_,rfl⟩;rw[<-hnodes,<-hdata] at hout ⊢;rw[<-hnodes] at b1;rw[<-hdata] at b2;have HOUT:Hid _:=hout;have HRI:Hid (RefInv G w r ros):=hri;have HG:Hid (∀k,G k->k<w.heap.size):=hG;obtain⟨nn,hnn⟩:∃n,n=nodes.length:=⟨_,rfl⟩;obtain⟨nd,hnd⟩:∃n,n=data.length:=⟨_,rfl⟩;rw[<-hnn] at b1;rw[<-hnd] at b2;have HNN:Hid (nn=nodes.length):=hnn;have HND:Hid (nd=data.length):=hnd;clear hout hnodes hdata hri hG hnn hnd hat hnm;go_enter func47,ntmps47;go_wp2_with fail;refine Calls.mono (HOUT.out rest0 (fun k=>k=w.heap.size) _ (fresh_state w) (HRI.out.below ((Below.refl _ _).alloc (zzC _) _) (fun _ h=>h)) (fun k hk=>⟨by have:=HG.out k hk;simp;omega,by have:=HG.out k hk;omega⟩) (fun k hk=>by subst hk;simp)) ?_;rintro _ w2 ⟨rfl,hst,hkp⟩;have hsz2:w.heap.size+1<=w2.heap.size:=by have:=hkp.size;simpa using this
 have hb2:Below w.heap.size w w2:=⟨hkp.os,hkp.tape,hkp.output,by omega,fun k hk=>by rw[hkp.block k (by simp;omega) (by omega),Below.heap_alloc _ _ _ hk]⟩;have HI2:Hid (StInv (NewB w w2) w2 w.heap.size nodes data rest0):=hst.widen (fun k hk=>by
  rcases hk with h | ⟨h1,h2⟩
  ·subst h;exact⟨zzC _,by omega⟩
  ·simp at h1;exact⟨by omega,h2⟩)
 have HB2:Hid (Below w.heap.size w w2):=hb2;clear hst hkp hb2;obtain⟨na,nc,da,dc,hst⟩:=HI2.out;have k0:=hst.c0;have k34:w2.cell? ⟨w.heap.size,34,none⟩=some (.slice none 0 0):=hst.cR (j:=32) rfl;have HST:Hid (StAt (NewB w w2) w2 w.heap.size na da nc dc nodes data rest0):=hst;rw[<-HNN.out] at k0;have HRN:Hid (w2.ownsRow 0 200 3 (.slice na nn nc) nn (flat nodes)):=by rw[HNN.out];exact hst.rowN
 clear hst;have hSl2:w.heap.size<w2.heap.size:=by omega
 go_upto_region 3 with fail
 go_cut [] from 12 to 36 (fun wx=>Hid (∃rest,rest[33]? = some (Value.slice none 0 0)/\rest.take 32=rest0.take 32/\StInv (NewB w wx) wx w.heap.size nodes data rest/\Below w.heap.size w wx))
 case first=>
  go_region_law (refine step_append_copy rfl (.tmp 16) (.tmp 20) 174 rfl 200 iN _ 3 32 underlying174 hiN hN0 hN1 hN2 rfl (by decide) (by simp[Act.eval]) na nn nc (flat nodes) (by simp[Act.eval]) (show (w2.drewN 1).ownsRow _ _ _ _ _ _ from HRN.out) (flat_one _) (by unfold maxLen;omega) (by omega) ?_;intro v3 w3 ho3 hg3 hl3;obtain⟨xa3,xc3,rfl⟩:=slice_any ho3;have hst3:=HST.out.keep (F':=fun _=>True) (w':=w3) (fun _ _=>trivial) (fun k hk=>hg3.block k hk.2 (by simp));have p3:w3.cell? ⟨w.heap.size,34,none⟩=some (.slice none 0 0):=hst3.cR (j:=32) rfl;have f3:=hst3.fR 34;have hSl3:=hst3.lt;clear hst3)
  all_goals
   go_wp2_with fail;go_meet;exact⟨_,by first | rfl | simp[rest0],by first | rfl | simp[rest0],after_copy (j:=32) HI2.out (zzC _) HB2.out hg3⟩
 case rest=>
  rename World=>w5;obtain⟨rest,hr33,ht32,hsi5,hb5⟩:=hcut.out;have HT32:Hid _:=ht32;clear ht32;have HI5:Hid (StInv (NewB w w5) w5 w.heap.size nodes data rest):=hsi5;have HB5:Hid (Below w.heap.size w w5):=hb5;have HR33:Hid (rest[33]? = some (Value.slice none 0 0)):=hr33;obtain⟨na5,nc5,da5,dc5,hst5⟩:=hsi5;have q1:=hst5.c1;have q35:w5.cell? ⟨w.heap.size,35,none⟩=some (.slice none 0 0):=hst5.cR (j:=33) hr33;have hSl5:=hst5.lt;have HST5:Hid (StAt (NewB w w5) w5 w.heap.size na5 da5 nc5 dc5 nodes data rest):=hst5;rw[<-HND.out] at q1;have HRD:Hid (w5.ownsRow 0 9 1 (.slice da5 nd dc5) nd (encS data)):=by rw[HND.out];exact hst5.rowD
  clear hst5 hb5 hcut hr33 k0 k34;go_upto_region 4 with fail
  go_cut [] from 12 to 36 (fun wx=>Hid (∃rest,rest.take 32=rest0.take 32/\StInv (NewB w wx) wx w.heap.size nodes data rest/\Below w.heap.size w wx))
  case first=>
   go_region_law (refine step_append_copy rfl (.tmp 28) (.tmp 32) 131 rfl 9 iS _ 1 16 underlying131 hiS hS0 hS1 hS2 rfl (by decide) (by simp[Act.eval]) da5 nd dc5 (encS data) (by simp[Act.eval]) (show (w5.drewN 1).ownsRow _ _ _ _ _ _ from HRD.out) (encS_one _) (by unfold maxLen;omega) (by omega) ?_;intro v6 w6 ho6 hg6 hl6;obtain⟨xa6,xc6,rfl⟩:=slice_any ho6;have hst6:=HST5.out.keep (F':=fun _=>True) (w':=w6) (fun _ _=>trivial) (fun k hk=>hg6.block k hk.2 (by simp));have p6:w6.cell? ⟨w.heap.size,35,none⟩=some (.slice none 0 0):=hst6.cR (j:=33) HR33.out;have f6:=hst6.fR 35;have hSl6:=hst6.lt;clear hst6)
   all_goals
    go_wp2_with fail;go_meet;exact⟨_,by rw[List.take_set_of_le (by decide)];exact HT32.out,after_copy (j:=33) HI5.out (zzC _) HB5.out hg6⟩
  case rest=>
   have HF:Hid _:=hcut;clear hcut;go_wp2;go_ret;obtain⟨rest6,h0,h1,h2⟩:=HF.out;exact⟨rest6,h0,rfl,h1,h2⟩
theorem work_walk4 (W n j gw gt wc tc wb Sb:Nat)(kd a1 a2 a3:Int)(S T:ByteArray)(la:Option Addr)(lm lc:Nat)(R:World->Prop)(w:World)(hW:W<w.heap.size)(hkd:kd<=13)(c5:w.cell? ⟨W,5,none⟩=some (.slice (some ⟨gw,0,none⟩) n wc))(c6:w.cell? ⟨W,6,none⟩=some (.slice (some ⟨gt,0,none⟩) n tc))
  (hgw:gw<w.heap.size)(hgt:gt<w.heap.size)(hjn:j<n)(hn:n<=1000000000)(cw:w.cell? ⟨gw,j,none⟩=some (.pointer (some ⟨wb,0,none⟩)))(ct:w.cell? ⟨gt,j,none⟩=some (.pointer (some ⟨Sb,0,none⟩)))(ha1:-9223372036854775808<=a1/\a1<=9223372036854775807)(hpk:pickOf a1 (n:Int)=(j:Int))
  (h1:∀W1,Below w.heap.size w W1->Calls prog 50 #[.pointer (some ⟨W,0,none⟩),.pointer (some ⟨wb,0,none⟩),.pointer (some ⟨Sb,0,none⟩),.agg (opV9 kd a1 a2 a3 S T la lm lc)] W1 fun e w'=>e=.returned (.bool true)/\R w'):
  Calls prog 23 #[.pointer (some ⟨W,0,none⟩),.agg (opV9 kd a1 a2 a3 S T la lm lc)] w fun e w'=>e=.returned (.bool true)/\R w':=by
 have hpick:=fun W1=>pick_any a1 (n:Int) W1 ha1 (by omega) (by omega);rw[hpk] at hpick;unfold opV9 at h1 ⊢;obtain⟨Bx,hB⟩:∃B:Obj,B=.cells #[.int .i64 kd,.int .i64 a1,.int .i64 a2,.int .i64 a3,.string S,.string T,.slice la lm lc] 57:=⟨_,rfl⟩;obtain⟨w1,hw1⟩:∃w1,w1=w.alloc Bx:=⟨_,rfl⟩;have hb0:Below w.heap.size w w1:=by rw[hw1];exact (Below.refl _ _).alloc (zzC _) Bx
 have hz1:w.heap.size<w1.heap.size:=by rw[hw1];simp
 have x0:w1.cell? ⟨w.heap.size,0,none⟩=some (.int .i64 kd):=by rw[hw1,hB];simp
 have x1:w1.cell? ⟨w.heap.size,1,none⟩=some (.int .i64 a1):=by rw[hw1,hB];simp
 have x2:w1.cell? ⟨w.heap.size,2,none⟩=some (.int .i64 a2):=by rw[hw1,hB];simp
 have x3:w1.cell? ⟨w.heap.size,3,none⟩=some (.int .i64 a3):=by rw[hw1,hB];simp
 have x4:w1.cell? ⟨w.heap.size,4,none⟩=some (.string S):=by rw[hw1,hB];simp
 have x5:w1.cell? ⟨w.heap.size,5,none⟩=some (.string T):=by rw[hw1,hB];simp
 have x6:w1.cell? ⟨w.heap.size,6,none⟩=some (.slice la lm lc):=by rw[hw1,hB];simp
 have y5:=(hb0.cell (p:=⟨W,5,none⟩) hW).trans c5;have y6:=(hb0.cell (p:=⟨W,6,none⟩) hW).trans c6;have yw:=(hb0.cell (p:=⟨gw,j,none⟩) hgw).trans cw;have yt:=(hb0.cell (p:=⟨gt,j,none⟩) hgt).trans ct;have hW1:W<w1.heap.size:=zzA hW hb0.size;have hgw1:gw<w1.heap.size:=zzA hgw hb0.size;have hgt1:gt<w1.heap.size:=zzA hgt hb0.size;have hji:(j:Int)<(n:Int):=by omega
 have H1:Hid _:=fun q=>h1 (w1.drewN q) (below_drewN hb0 q);have HPK:Hid _:=hpick;clear h1 hpick c5 c6 cw ct hpk;go_enter func23,ntmps23;go_upto_region 1 with fail;rw[<-hB,<-hw1];clear hB hw1 hb0
 go_region_with (go_at_call 49;refine Calls.mono (HPK.out _) ?_;rintro _ _ ⟨rfl,rfl⟩)
 all_goals
  go_wp2_with (go_at_call 50;refine Calls.mono (H1.out _) ?_;rintro _ w5 ⟨rfl,hR⟩);go_ret;exact⟨rfl,hR⟩
section
variable {R:Rows4}{tg:Tags}{w:World}{B0 W s r p lim:Nat}{objs ros:List Ob}{got:List Int}{ws:List Slot}{ds:List Doc}{q8 q9 q11 j n:Nat}
theorem low_below {w1:World}(M:M4At R tg w B0 W s r p lim objs ros got ws ds q8 q9 q11)(hb:Below w.heap.size w w1):Below B0 w w1:=hb.mono M.size
theorem g4_work (hn:n<=1048600)(G:Game4 B0 w W s r n)(kd a1 a2 a3:Int)(S T:ByteArray)(la:Option Addr)(lm lc:Nat)(hS:S.size<=1048576)(hT:T.size<=1048576)(ha1:-9223372036854775808<=a1/\a1<=9223372036854775807)(hk:8<=kd/\kd<=12):
  Calls prog 23 #[.pointer (some ⟨W,0,none⟩),.agg (opV9 kd a1 a2 a3 S T la lm lc)] w fun e w'=>e=.returned (.bool true)/\Game4 B0 w' W s r (n+1)/\Below B0 w w':=by
 obtain⟨R,tg,p,lim,objs,ros,got,ws,ds,q8,q9,q11,M,L,hlim,h8,h9,h11,hw1,hw2⟩:=G;have hpl:=pickOf_lt a1 (n:=(ws.length:Int)) (by omega);obtain⟨j,hj⟩:∃j:Nat,pickOf a1 (ws.length:Int)=(j:Int):=⟨(pickOf a1 (ws.length:Int)).toNat,by omega⟩;have hjl:j<ws.length:=by omega
 have hjd:j<ds.length:=by rw[L.len];exact hjl
 obtain⟨gw,hwa,hgw,cw,_⟩:=row_one M.rowW (i:=j) (v:=ptr ws[j].2.1.wb) (by simp[hjl]);obtain⟨gt,hta,hgt,ct,_⟩:=row_one M.rowD (i:=j) (v:=ptr ds[j].1) (by simp[hjd]);obtain⟨_,_,hWl,c5,c6⟩:=M.c01;rw[hwa] at c5;rw[hta,L.len] at c6;refine work_walk4 W ws.length j gw gt R.wc R.tc ws[j].2.1.wb ds[j].1 kd a1 a2 a3 S T la lm lc _ w hWl (by omega) c5 c6 hgw hgt hjl (by omega) cw ct ha1 hj (fun W1 hb=>?_);refine (g4_tree hn (M.below hb) L hlim h8 h9 h11 hw1 hw2 hjl hjd kd a1 a2 a3 S T la lm lc hS hT hk).mono ?_;rintro e w' ⟨he,G',hB⟩;exact⟨he,G',(low_below M hb).trans hB⟩
theorem L4.grow {k:Nat}(M:M4At R tg w B0 W s r p lim objs ros got ws ds q8 q9 q11)(L:L4 objs ws ds k)(l:List Ob):L4 (objs++l) ws ds k:=
 ⟨L.len,fun j h h'=>⟨(L.same j h h').1.app M.w3.sto.2.2.1.sound (M.wsat _ (zzJ h)).ok (M.wsat _ (zzJ h)).fl l,(L.same j h h').2⟩⟩
theorem g4_store (hn:n<=1048600)(G:Game4 B0 w W s r n)(o:Step)(ho:o.Fits w)(hk:1<=o.kind/\o.kind<=5):
  Calls prog 20 #[.pointer (some ⟨W,0,none⟩),o.val] w fun e w'=>e=.returned (.bool true)/\Game4 B0 w' W s r (n+1)/\Below B0 w w':=by
 obtain⟨R,tg,p,lim,objs,ros,got,ws,ds,q8,q9,q11,M,L,hlim,h8,h9,h11,hw1,hw2⟩:=G;refine (M.step (by omega) o ho hk).mono ?_;rintro e w' ⟨he,R',tg',l,ros',q',hq',M',hB⟩;exact⟨he,⟨R',tg',p,lim,objs++l,ros',got,ws,ds,q8,q',q11,M',(L.grow M l).mono (by omega),by omega,by omega,by omega,by omega,hw1,by omega⟩,hB⟩
theorem kn_le {x:Slot}(h:WsAt tg w p objs lim x)(id:Int):x.2.2.1.fs.kn id<=1/\(x.2.2.1.fs.kn id≠0->kindOf objs id≠0):=by
 obtain⟨_,_,_,_,_,_,kF⟩:=h.wp.keptF;obtain⟨_,_,_,_,_,_,_,kD⟩:=h.wp.keptD;unfold FS.kn;cases hF:x.2.2.1.fs.kF id <;> cases hD:x.2.2.1.fs.kD id
 ·exact⟨by decide,fun h=>absurd rfl h⟩
 ·exact⟨by decide,fun _=>by rw[(kD id hD).1];decide⟩
 ·exact⟨by decide,fun _=>by rw[kF id hF];decide⟩
 ·exfalso
  have h1:=kF id hF;have h2:=(kD id hD).1;rw[h1] at h2;cases h2
theorem sum_le {α:Type}(f:α->Nat):∀(l:List α),(∀x ∈ l,f x<=1)->(l.map f).sum<=l.length
 | [],_=>zzC _
 | x :: r,h=>by
  rw[List.map_cons,List.sum_cons,List.length_cons]
  have:=h x (List.mem_cons_self ..)
  have:=sum_le f r (fun y hy=>h y (List.mem_cons_of_mem _ hy))
  omega
theorem sum_pos {α:Type}(f:α->Nat):∀(l:List α),(l.map f).sum≠0->∃x ∈ l,f x≠0
 | [],h=>absurd rfl h
 | x :: r,h=>by
  by_cases h0:f x=0
  ·rw[List.map_cons,List.sum_cons,h0,Nat.zero_add] at h
   obtain⟨y,hy,h1⟩:=sum_pos f r h
   exact⟨y,List.mem_cons_of_mem _ hy,h1⟩
  ·exact⟨x,List.mem_cons_self ..,h0⟩
theorem g4_fetched (hn:n<=1048600)(G:Game4 B0 w W s r n)(a1 a2 a3:Int)(S T:ByteArray)(la:Option Addr)(lm lc:Nat):
  Calls prog 20 #[.pointer (some ⟨W,0,none⟩),.agg (opV9 6 a1 a2 a3 S T la lm lc)] w fun e w'=>e=.returned (.bool true)/\Game4 B0 w' W s r (n+1)/\Below B0 w w':=by
 obtain⟨R,tg,p,lim,objs,ros,got,ws,ds,q8,q9,q11,M0,L,hlim,h8,h9,h11,hw1,hw2⟩:=G;refine store_fetched W a1 a2 a3 S T la lm lc (fun w'=>Game4 B0 w' W s r (n+1)/\Below B0 w w') w (fun W1 hb=>?_);have M:=M0.below hb;obtain⟨c0,_,hWl,c5,_⟩:=M.c01;have hgl:=M.glen;refine fetched_walk W s ws.length R.wc R.wa got _ W1 hWl c0 c5 (by omega) (by omega) (fun x=>?_) (fetched_all M.sinv (by omega)) (fun i hi=>?_) (fun w1 la c hb1 hrow=>?_)
 ·rw[M.cnt x]
  exact sum_le _ _ (fun y hy=>(kn_le (M.wsat y hy) x).1)
 ·have hpos:got.count got[i]≠0:=by
   have:=List.count_pos_iff.2 (zzJ hi)
   omega
  rw[M.cnt] at hpos;obtain⟨y,hy,hy0⟩:=sum_pos _ _ hpos;have hk:=(kn_le (M.wsat y hy) got[i]).2 hy0;obtain⟨k1,k2⟩:=kindOf_pos hk;refine⟨(((got[i]-1).toNat:Nat):Int),by omega,fun w' hb'=>?_⟩
  have:=w3_place (M.w3.below hb') (got[i]-1).toNat k2
  rw[show (((got[i]-1).toNat:Nat):Int)+1=got[i] by omega] at this;exact this
 ·have M1:=M.below hb1
  refine (M1.keepI (by omega) (by omega) (owns_mono hrow (zzF _)) (fun b hb'=>?_)).mono ?_
  ·have hlt:=hrow.lt b hb'
   exact⟨M.fresh b hlt.1,zzG M.size hlt.1,fun hf=>by have:=M.names.lt b hf;omega,fun hf=>by have:=M.ents.lt b hf;omega,fun hf=>by have:=M.ids.lt b hf;omega⟩
  ·rintro e w' ⟨he,R',M',hB⟩
   exact⟨he,⟨R',tg,p,lim,objs,ros,got,ws,ds,q8,q9,q11+1,M',L.mono (by omega),by omega,by omega,by omega,by omega,hw1,by omega⟩,((low_below M0 hb).trans (low_below M hb1)).trans hB⟩
end
theorem checkout_no (s p:Nat)(id k:Int)(w:World)(hs:s<w.heap.size)(c0:w.cell? ⟨s,0,none⟩=some (.pointer (some ⟨p,0,none⟩)))(hk2:k≠2)(hk:Calls prog 61 #[.pointer (some ⟨p,0,none⟩),.int .i64 id] w fun e w'=>e=.returned (.int .i64 k)/\Below w.heap.size w w'):
  Calls prog 27 #[.pointer (some ⟨s,0,none⟩),.int .i64 id] w fun e w'=>e=.returned (.tuple #[.pointer none,.int .i64 13])/\Below w.heap.size w w':=by
 have k2:(k != 2)=true:=by simpa using hk2
 go_enter func27,ntmps27;go_wp2_with (go_at_call 61;refine hk.mono ?_;rintro e w1 ⟨rfl,hb1⟩);go_ret2;exact⟨rfl,hb1⟩
theorem scheckout_none {tg:Tags}{w:World}{s p:Nat}{objs:List Ob}{got:List Int}{brk:Bool}{lim:Nat}(h:SInv tg w s p objs got brk lim){id:Int}(hk:kindOf objs id≠2):
  Calls prog 27 #[.pointer (some ⟨s,0,none⟩),.int .i64 id] w fun e w'=>e=.returned (.tuple #[.pointer none,.int .i64 13])/\Below w.heap.size w w':=by
 obtain⟨hfr,ft,hbk,⟨a,cap,bf,bd,Df,Dd,hI⟩,hrest⟩:=h;exact checkout_no s p id (kindOf objs id) w (Array.getElem?_eq_some_iff.1 hI.hs).1 hI.c0 hk (kind_any p a objs.length cap bf bd objs id w hI.pool)
theorem num_enc:∀(L:List (List ByteArray×Nd)) (k:Nat),NumU (encP9 k L)/\∀e ∈ encP9 k L,e.2.1=1->(k:Int)<=e.2.2
 | [],k=>⟨by intro e he;(cases he),by intro e he;(cases he)⟩
 | (y,.dir) :: r,k=>by
  obtain⟨h1,h2⟩:=num_enc r k
  rw[encP9]
  refine⟨fun e he e' he' a b c=>?_,fun e he a=>?_⟩
  ·rcases List.mem_cons.1 he with rfl | he
   ·cases a
   ·rcases List.mem_cons.1 he' with rfl | he'
    ·cases b
    ·exact h1 e he e' he' a b c
  ·rcases List.mem_cons.1 he with rfl | he
   ·cases a
   ·exact h2 e he a
 | (y,.file d) :: r,k=>by
  obtain⟨h1,h2⟩:=num_enc r (k+1)
  rw[encP9]
  refine⟨fun e he e' he' a b c=>?_,fun e he a=>?_⟩
  ·rcases List.mem_cons.1 he with rfl | he <;> rcases List.mem_cons.1 he' with rfl | he'
   ·rfl
   ·have:=h2 e' he' b
    simp only at c
    omega
   ·have:=h2 e he a
    simp only at c
    omega
   ·exact h1 e he e' he' a b c
  ·rcases List.mem_cons.1 he with rfl | he
   ·exact Int.le_refl _
   ·have:=h2 e he a
    omega
theorem stored_sem (objs:List Ob)(id:Int)(c c':FileC)(q:List ByteArray):sem objs c (.dir id) q=sem objs c' (.dir id) q:=by
 have:=(stored_at objs q id).2
 unfold sem;cases h:(LT.dir id).at objs q with
 | none=>rfl
 | some x=>
  rw[h] at this;cases x <;> first | rfl | cases this
theorem Tied.new {objs:List Ob}{N:Int}{nodes:List Ent}{data:List ByteArray}{rest:List Value}{c:FileC}(h:Reads objs c (.dir N) nodes data)(hs:SoundR nodes data)(hn:NumU nodes)(hr:rest.take 32=rest0.take 32):Tied objs (fun _=>none) (fun _=>none) (.dir N) nodes data rest:=by
 refine⟨⟨fun _=>0,List.replicate 8 (false,0,0,0),rest.drop 32,?_,⟨fun f f' hf=>absurd rfl hf,fun f hf=>absurd rfl hf,fun c' d' ⟨o1,_,o3⟩ q hq=>?_,hn,by simp,fun k hk=>?_,(fun k x hx=>by cases hx)⟩⟩,hs⟩
 ·rw[show tabV (List.replicate 8 (false,0,0,0))=rest0.take 32 from rfl,<-hr,List.take_append_drop]
 ·obtain rfl:d'=data:=List.ext_getElem? (fun k=>o3 k (fun f hf=>absurd rfl hf))
  rw[stored_sem objs N c' c];exact h q hq
 ·rw[List.getElem?_replicate,zzD hk];rfl
section
variable {R:Rows4}{tg:Tags}{w:World}{B0 W s r p lim:Nat}{objs ros:List Ob}{got:List Int}{ws:List Slot}{ds:List Doc}{q8 q9 q11 j n:Nat}
theorem stored_inj (objs:List Ob)(id:Int):HeldInj objs (.dir id):=fun x y b h1 _=>by
 have:=(stored_at objs x id).2
 rw[h1] at this
 cases this
theorem dir_ok (M:M4At R tg w B0 W s r p lim objs ros got ws ds q8 q9 q11){id:Int}(hk:kindOf objs id=2):LTok objs 5 (.dir id):=by
 obtain⟨a,cap,bf,bd,Df,Dd,hI⟩:=M.w3.sto.1;obtain⟨k1,k2⟩:=kindOf_pos (by rw[hk];decide);refine⟨hk,?_⟩;unfold highOf;rw[zzH k2];exact (hI.highs _ (zzJ k2)).2
theorem ros_names (M:M4At R tg w B0 W s r p lim objs ros got ws ds q8 q9 q11):∀o ∈ ros,∀e ∈ o.ents,e.1.size<=12:=by
 intro o ho e he;obtain⟨i,hi,rfl⟩:=List.getElem_of_mem ho;have hT:=M.w3.twin;have hio:i<objs.length:=by rw[hT.1];exact hi
 have hal:=hT.2.1 i hio hi;rcases hT.2.2 _ (zzJ hio) with k | k
 ·rw[hal.none k] at he;cases he
 ·rw[hal.ents k] at he
  obtain⟨e',he',rfl⟩:=List.mem_map.1 he;have hs:=M.w3.sto.2.2.1.sound.2 ((i:Int)+1) (by rw[kindOf_in hio];exact k);have hents:entsOf objs ((i:Int)+1)=objs[i].ents:=by
   unfold entsOf;rw[show ((i:Int)+1-1).toNat=i by omega,zzH hio];rfl
  rw[hents] at hs;exact (valid_size (hs.2.2 e' he').1).2
theorem paths_at (M:M4At R tg w B0 W s r p lim objs ros got ws ds q8 q9 q11)(hj:j<objs.length):∃gp pc pv,w.cell? ⟨W,4,none⟩=some (.slice (some ⟨gp,0,none⟩) objs.length pc)/\gp<w.heap.size/\w.cell? ⟨gp,j,none⟩=some (.int .i64 pv):=by
 obtain⟨ia,ka,pa,ic,kc,pc,paths,hl,hlen,_⟩:=M.w3.law;obtain⟨gp,hpa,hgp,hc,_⟩:=row_one hl.rowP (i:=j) (v:=.int .i64 (paths[j]'(by rw[hlen];exact hj))) (by simp[encI,hlen,hj]);have c4:=hl.c4;rw[hpa,hlen] at c4;exact⟨gp,pc,_,c4,hgp,hc⟩
theorem m4_check (hn:n<=1048600)(M:M4At R tg w B0 W s r p lim objs ros got ws ds q8 q9 q11)(L:L4 objs ws ds (1200000+n))(hw:ws.length<=n)(a1 N a3:Int)(S T:ByteArray)(la:Option Addr)(lm lc:Nat):
  Calls prog 20 #[.pointer (some ⟨W,0,none⟩),.agg (opV9 7 a1 N a3 S T la lm lc)] w fun e w'=>e=.returned (.bool true)/\Below B0 w w'/\∃R' tg' ws' ds',M4At R' tg' w' B0 W s r p lim objs ros got ws' ds' q8 q9 q11/\L4 objs ws' ds' (1200000+n)/\ws.length<=ws'.length/\ws'.length<=ws.length+1/\(kindOf objs N=2->(∀gp pc pv,w.cell? ⟨W,4,none⟩=some (.slice (some ⟨gp,0,none⟩) objs.length pc)->w.cell? ⟨gp,(N-1).toNat,none⟩=some (.int .i64 pv)->pv<=300)->ws'.length=ws.length+1):=by
 obtain⟨c0,c1,hWl,_,_⟩:=M.c01;have hidN:∀W1,Below w.heap.size w W1->Calls prog 39 #[.pointer (some ⟨W,0,none⟩),.int .i64 N] W1 fun e w'=>e=.returned (.int .i64 N)/\w'=W1:=fun W1 hb=>w3_id (M.w3.below hb) N;have same:∀w',Below w.heap.size w w'->(kindOf objs N=2->False)->Below B0 w w'/\∃R' tg' ws' ds',M4At R' tg' w' B0 W s r p lim objs ros got ws' ds' q8 q9 q11/\L4 objs ws' ds' (1200000+n)/\ws.length<=ws'.length/\ws'.length<=ws.length+1/\(kindOf objs N=2->(∀gp pc pv,w.cell? ⟨W,4,none⟩=some (.slice (some ⟨gp,0,none⟩) objs.length pc)->w.cell? ⟨gp,(N-1).toNat,none⟩=some (.int .i64 pv)->pv<=300)->ws'.length=ws.length+1):=fun w' hb hk=>⟨low_below M hb,R,tg,ws,ds,M.below hb,L,zzC _,by omega,fun h _=>(hk h).elim⟩;by_cases hk:kindOf objs N=2
 ·obtain⟨k1,k2⟩:=kindOf_pos (by rw[hk];decide)
  obtain⟨j,hj⟩:∃j:Nat,N=(j:Int)+1:=⟨(N-1).toNat,by omega⟩;have hjo:j<objs.length:=by omega
  have hjN:(N-1).toNat=j:=by omega
  have hpl:∀W1,Below w.heap.size w W1->Calls prog 41 #[.pointer (some ⟨W,0,none⟩),.int .i64 N] W1 fun e w'=>e=.returned (.int .i64 (j:Int))/\w'=W1:=fun W1 hb=>by rw[hj];exact w3_place (M.w3.below hb) j hjo
  have hkd:∀W1,Below w.heap.size w W1->Calls prog 42 #[.pointer (some ⟨W,0,none⟩),.int .i64 (j:Int)] W1 fun e w'=>e=.returned (.int .i64 2)/\w'=W1:=fun W1 hb=>by
   have:=w3_kind (M.w3.below hb) j hjo
   rw[<-kindOf_in hjo,<-hj,hk] at this;exact this
  obtain⟨gp,pc,pv,c4,hgp,cp⟩:=paths_at M hjo;have hfew:=(W3.few M.w3).1;by_cases hpv:300<pv
  ·refine (check_many W j objs.length pc gp a1 N a3 pv S T la lm lc w hWl c4 hjo (by omega) hgp cp hpv hidN hpl hkd).mono ?_
   rintro e w' ⟨he,hb⟩;refine⟨he,low_below M hb,R,tg,ws,ds,M.below hb,L,zzC _,by omega,fun _ hall=>?_⟩
   have:=hall gp pc pv c4 (by rw[hjN];exact cp)
   omega
  ·have hok:=dir_ok M hk
   have hX:Exact objs:=M.w3.sto.2.2.1;obtain⟨fc,hfc⟩:∃fc:FileC,fc=fcOf objs (fun _=>none):=⟨_,rfl⟩;obtain⟨Lt,hLt⟩:∃Lt,Lt=thingsP objs fc 5 [] (.dir N):=⟨_,rfl⟩;have hout:=out_things (fc:=fc) M.w3.twin hX M.w3.at_ 5 (j+1) j [] ([],[]) (by omega) (fun x hx=>by cases hx) (by rw[<-hj];exact hk) (by rw[<-hj];rw[LTok] at hok;exact hok.2);rw[<-hj,<-hLt] at hout;have hout':outP ros (j+1) j ⟨#[]⟩ ([],[])=(encP9 0 Lt,bytesP9 Lt):=hout.trans (by simp);have hlen:=path_bound hX.sound (fc:=fc) hok;rw[<-hLt] at hlen;have hl1:(encP9 0 Lt).length<=1200000:=by rw[encP9_len];exact hlen
   have hl2:(bytesP9 Lt).length<=1200000:=zzG (bytesP9_len _) hlen;refine (check_ok M (by omega) L.len j objs.length pc gp a1 N a3 pv S T la lm lc c4 hjo (by omega) hgp cp hpv (wg0 N got) (.dir N) (fun x=>rfl) (encP9 0 Lt) (bytesP9 Lt) (PR:=fun rest=>rest.take 32=rest0.take 32) hidN hpl hkd (fun W1 hb=>?_) (fun G w2 hri hG=>?_)).mono ?_
   ·refine (qcheckout (M.below hb).sinv (i:=ws.length+2) (by omega) hok).mono ?_
    rintro e w' ⟨B,he,tg',m,hQ⟩;exact⟨B,tg',he,m,hQ.inv.st,⟨hQ.inv.two,hQ.inv.wp,hQ.flat,hQ.ok,hQ.fl,stored_inj objs N⟩⟩
   ·have hT:=M.w3.twin
    have:=checkout_any ros r j G w2 M.w3.at_ (ros_names M) (by rw[<-hT.1];exact hjo) (by omega) (by rw[hout'];show (encP9 0 Lt).length<=_;omega) (by rw[hout'];show (bytesP9 Lt).length<=_;omega) hri hG
    rw[hout'] at this;exact this
   ·rintro e w' ⟨he,R',tg',B,S',rest,hPR,M',hB⟩
    refine⟨he,hB,R',tg',_,_,M',⟨by simp[L.len],fun i hi hi'=>?_⟩,by simp,by simp,fun _ _=>by simp⟩;simp only[List.getElem_append];by_cases hi1:i<ws.length
    ·have hi2:i<ds.length:=by rw[L.len];exact hi1
     simp only[hi1,hi2,dite_true];exact L.same i hi1 hi2
    ·have hi2:¬i<ds.length:=by rw[L.len];exact hi1
     have hiw:i=ws.length:=by simp at hi;omega
     have e1:i-ws.length=0:=(by omega);have e2:i-ds.length=0:=by rw[L.len];omega
     simp only[hi1,hi2,dite_false,e1,e2,List.getElem_cons_zero];refine⟨?_,by show (encP9 0 Lt).length<=_;omega,by show (bytesP9 Lt).length<=_;omega⟩;have h1:=enc_reads (fc:=fc) hX.sound hok rfl;have h2:=enc_sound (fc:=fc) hX.sound hok rfl;rw[<-hLt] at h1 h2;exact Tied.new h1 h2 (num_enc Lt 0).1 hPR
 ·obtain⟨pz,kz,hkz,hwh⟩:=w3_where (ft:=⟨R.pt,p,[]⟩) W s r objs ros (.slice R.wa ws.length R.wc) (.slice R.ta ds.length R.tc) (.bool false) (.slice R.na (4*q8) R.nc) (.slice R.ea (4*q9) R.ec) (.slice none 0 0) (.slice R.ia (4*q11) R.ic) N hk
  refine (check_none W s a1 N a3 pz kz S T la lm lc w hWl c0 hkz hidN (fun W1 hb=>(hwh W1 (M.w3.below hb)).1) (fun W1 hb=>(hwh W1 (M.w3.below hb)).2) (fun W1 hb=>scheckout_none (M.below hb).sinv hk)).mono ?_;rintro e w' ⟨he,hb⟩;exact⟨he,same w' hb hk⟩
theorem g4_check (hn:n<=1048600)(G:Game4 B0 w W s r n)(a1 N a3:Int)(S T:ByteArray)(la:Option Addr)(lm lc:Nat):
  Calls prog 20 #[.pointer (some ⟨W,0,none⟩),.agg (opV9 7 a1 N a3 S T la lm lc)] w fun e w'=>e=.returned (.bool true)/\Game4 B0 w' W s r (n+1)/\Below B0 w w':=by
 obtain⟨R,tg,p,lim,objs,ros,got,ws,ds,q8,q9,q11,M,L,hlim,h8,h9,h11,hw1,hw2⟩:=G;refine (m4_check hn M L hw2 a1 N a3 S T la lm lc).mono ?_;rintro e w' ⟨he,hB,R',tg',ws',ds',M',L',h1,h2,_⟩;exact⟨he,⟨R',tg',p,lim,objs,ros,got,ws',ds',q8,q9,q11,M',L'.mono (by omega),by omega,by omega,by omega,by omega,by omega,by omega⟩,hB⟩
theorem g4_still (hn:n<=1048600)(G:Game4 B0 w W s r n):Calls prog 24 #[.pointer (some ⟨W,8,none⟩)] w fun e w'=>e=.returned (.bool true)/\Below w.heap.size w w':=by
 obtain⟨R,tg,p,lim,objs,ros,got,ws,ds,q8,q9,q11,M,L,hlim,h8,h9,h11,hw1,hw2⟩:=G;exact M.still (by omega) (by omega) (by omega)
theorem Game4.below {w':World}(G:Game4 B0 w W s r n)(hb:Below w.heap.size w w'):Game4 B0 w' W s r n:=by
 obtain⟨R,tg,p,lim,objs,ros,got,ws,ds,q8,q9,q11,M,rest⟩:=G;exact⟨R,tg,p,lim,objs,ros,got,ws,ds,q8,q9,q11,M.below hb,rest⟩
theorem Game4.cells (G:Game4 B0 w W s r n):w.cell? ⟨W,0,none⟩=some (.pointer (some ⟨s,0,none⟩))/\W<w.heap.size/\B0<=w.heap.size:=by
 obtain⟨R,tg,p,lim,objs,ros,got,ws,ds,q8,q9,q11,M,rest⟩:=G;exact⟨M.c01.1,M.c01.2.2.1,M.size⟩
theorem Game4.mono {m:Nat}(G:Game4 B0 w W s r n)(h:n<=m):Game4 B0 w W s r m:=by
 obtain⟨R,tg,p,lim,objs,ros,got,ws,ds,q8,q9,q11,M,L,hlim,h8,h9,h11,hw1,hw2⟩:=G;exact⟨R,tg,p,lim,objs,ros,got,ws,ds,q8,q9,q11,M,L.mono (by omega),by omega,by omega,by omega,by omega,hw1,by omega⟩
theorem M4At.putQ {Q:List Ob->Prop}{args:Array Value}(h:M4At R tg w B0 W s r p lim objs ros got ws ds q8 q9 q11)
  (hc:Calls prog 20 args w fun e w'=>e=.returned (.bool true)/\SteppedQ Q ⟨R.pt,p,objs⟩ (fun k=>tg k=(0,1)) (fun k=>tg k=(0,2)) (fun k=>tg k=(1,0)) w w' W s r (.slice R.wa ws.length R.wc) (.slice R.ta ds.length R.tc) (.bool false) (.slice R.na (4*q8) R.nc) (.slice R.ea (4*q9) R.ec) (.slice none 0 0) (.slice R.ia (4*q11) R.ic)):
  Calls prog 20 args w fun e w'=>e=.returned (.bool true)/\∃R' tg' objs' ros',Q objs'/\M4At R' tg' w' B0 W s r p lim objs' ros' got ws ds q8 q9 q11/\Below B0 w w':=by
 refine hc.mono ?_;rintro e w' ⟨he,FL',FR',FS',objs',ros',h3,hsub,hk,hq⟩;have n3:∀k,tg k=(0,0)->¬F3 (fun k=>tg k=(0,1)) (fun k=>tg k=(0,2)) (fun k=>tg k=(1,0)) k:=fun k hk e=>by
  rcases e with e | e | e <;> (rw[hk] at e;cases e)
 have hH:∀k,R.FE k->¬F3 (fun k=>tg k=(0,1)) (fun k=>tg k=(0,2)) (fun k=>tg k=(1,0)) k:=fun k hk=>n3 k (h.holds k (.inr (.inl hk))).1;obtain⟨R',tg',l,rfl,M',hB⟩:=h.of_played h3 (h.ents.keep (fun k hf=>hk.block k (h.ents.lt k hf) (hH k hf)) hk.size) (fun k hf h3'=>by
  rcases hsub.all k h3' with e | e
  ·exact hH k hf e
  ·have:=h.ents.lt k hf;omega) hsub (fun k hf=>.inl hf) ⟨hk.os,hk.tape,hk.output,hk.size,fun k hk1 hn=>hk.block k hk1 (fun h=>hn (.inl h))⟩
 exact⟨he,R',tg',_,ros',hq,M',hB⟩
end
theorem m4_new {w w1:World}{s p:Nat}(hi:InvP pt0 (NewF (fun _=>False) w w1) w1 s p [])(hb:Below w.heap.size w w1):
  ∃R tg,M4At R tg ((w1.alloc (.cells #[.slice none 0 0] 94)).alloc (.cells #[.pointer (some ⟨s,0,none⟩),.pointer (some ⟨w1.heap.size,0,none⟩),.slice none 0 0,.slice none 0 0,.slice none 0 0,.slice none 0 0,.slice none 0 0,.bool false,.slice none 0 0,.slice none 0 0,.slice none 0 0,.slice none 0 0] 71)) w.heap.size (w1.heap.size+1) s w1.heap.size p 0 [] [] [] [] [] 0 0 0:=by
 have z:=hb.size;obtain⟨w2,hw2⟩:∃w2,w2=w1.alloc (.cells #[.slice none 0 0] 94):=⟨_,rfl⟩;rw[<-hw2];obtain⟨w3,hw3⟩:∃w3,w3=w2.alloc (.cells #[.pointer (some ⟨s,0,none⟩),.pointer (some ⟨w1.heap.size,0,none⟩),.slice none 0 0,.slice none 0 0,.slice none 0 0,.slice none 0 0,.slice none 0 0,.bool false,.slice none 0 0,.slice none 0 0,.slice none 0 0,.slice none 0 0] 71):=⟨_,rfl⟩;rw[<-hw3];have s2:w2.heap.size=w1.heap.size+1:=by rw[hw2];simp
 have s3:w3.heap.size=w1.heap.size+2:=by rw[hw3];simp[s2]
 have hr:w3.heap[w1.heap.size]? = some (.cells #[.slice none 0 0] 94 (0,0)):=by
  rw[hw3,Below.heap_alloc _ _ _ (by omega),hw2];exact heap_alloc_new _ _
 have hW:w3.heap[w1.heap.size+1]? = some (.cells #[.pointer (some ⟨s,0,none⟩),.pointer (some ⟨w1.heap.size,0,none⟩),.slice none 0 0,.slice none 0 0,.slice none 0 0,.slice none 0 0,.slice none 0 0,.bool false,.slice none 0 0,.slice none 0 0,.slice none 0 0,.slice none 0 0] 71 (0,0)):=by
  rw[hw3,<-s2];exact heap_alloc_new _ _
 have hk:∀k,k<w1.heap.size->w3.heap[k]? = w1.heap[k]?:=fun k hk=>by
  rw[hw3,Below.heap_alloc _ _ _ (by omega),hw2,Below.heap_alloc _ _ _ hk]
 obtain⟨tg,htg⟩:∃tg:Tags,tg=fun k=>if k=w1.heap.size+1 then (0,1) else if k=w1.heap.size then (0,2) else if w.heap.size<=k/\k<w1.heap.size then (1,0) else (0,0):=⟨_,rfl⟩;have t1:tg (w1.heap.size+1)=(0,1):=by rw[htg];exact zzD rfl
 have t2:tg w1.heap.size=(0,2):=by rw[htg];simp
 have t3:∀k,w.heap.size<=k->k<w1.heap.size->tg k=(1,0):=fun k h1 h2=>by
  rw[htg];simp only;rw[zzB (by omega),zzB (by omega),zzD ⟨h1,h2⟩]
 have hf:Fresh tg w3:=fun k hk'=>by
  rw[htg];simp only;rw[zzB (by omega),zzB (by omega),zzB (by omega)]
 have hnilN:∀{t tl:TypeId} {V:Nat->Value},HeldV (fun _=>False) t tl V w3 none 0 0 []:=⟨rfl,World.ownsRow_nil _ _ _ _,(fun g hg=>by cases hg),(fun i hi=>by cases hi),fun k hk=>hk.elim⟩;refine⟨⟨pt0,none,0,none,0,none,0,none,0,none,0,[],[],[],fun _=>False,fun _=>False,fun _=>False⟩,tg,⟨hf,fun k hk'=>?_,by omega,rfl,⟨World.ownsRow_nil _ _ _ _,rfl,fun g hg=>by cases hg⟩,zzC _,⟨?_,?_,⟨?_,List.prefix_refl _,exact_nil,once_nil⟩,?_,?_,sep_tags hf⟩,World.ownsRow_nil _ _ _ _,(fun g hg=>by cases hg),World.ownsRow_nil _ _ _ _,(fun g hg=>by cases hg),hnilN,?_,hnilN,?_,?_,(fun x hx=>by cases hx),(fun j h=>by cases h),(fun j h=>by cases h),fun x=>rfl⟩⟩
 ·rw[htg];simp only;rw[zzB (by omega),zzB (by omega),zzB (by omega)]
 ·exact⟨none,none,none,0,0,0,[],⟨t1,hW,World.ownsRow_nil _ _ _ _,World.ownsRow_nil _ _ _ _,World.ownsRow_nil _ _ _ _,(fun g hg=>by cases hg),(fun g hg=>by cases hg),(fun g hg=>by cases hg)⟩,rfl,(fun i hi=>by cases hi)⟩
 ·exact⟨none,0,⟨t2,(fun g hg=>by cases hg),hr,World.ownsRow_nil _ _ _ _,by simp,(fun o ho=>by cases ho)⟩⟩
 ·exact hi.keep (fun k hk' hF=>hk k hk') (fun k hk' hF=>by
   rcases hF with h | h
   ·exact h.elim
   ·exact t3 k h.1 h.2)
 ·exact⟨rfl,(fun i h1=>by cases h1),(fun o ho=>by cases ho)⟩
 ·intro i hi;cases hi
 ·exact⟨rfl,World.ownsRow_nil _ _ _ _,(fun g hg=>by cases hg),(fun i hi=>by cases hi),fun k hk=>hk.elim⟩
 ·rintro k (h | h | h) <;> exact h.elim
 ·exact fun k=>⟨fun h=>h.1,fun h=>h.1,fun h=>h.1⟩
def Start4 (B0:Nat)(w:World)(W s r:Nat):Prop:=∃R tg p objs ros,M4At R tg w B0 W s r p 0 objs ros [] [] [] 0 0 0/\3<=objs.length/\kindOf objs 3=2
theorem begin4 (w:World):Calls prog 19 #[] w fun e w'=>∃W s r,e=.returned (.tuple #[.pointer (some ⟨W,0,none⟩),.bool true])/\Start4 w.heap.size w' W s r/\Below w.heap.size w w':=by
 go_enter func19,ntmps19;go_wp2_with fail;refine Calls.mono (newStore_inv _) ?_;rintro _ w1 ⟨s,rfl,⟨p,hi⟩,hb⟩;obtain⟨R0,tg0,M0⟩:=m4_new hi hb;have HM0:Hid _:=M0;have hz:=hb.size;have hB0:=hb;clear hi M0;go_wp2_with fail;refine Calls.mono (HM0.out.putQ (store_putFile2 HM0.out.w3based 0 0 0 abcB ⟨#[]⟩ none 0 0 (by decide))) ?_;rintro _ w4 ⟨rfl,R1,tg1,objs1,ros1,⟨e1,hq1⟩,M1,hb4⟩;have h1:=putA hq1;subst h1;have HM1:Hid _:=M1;have hz4:w1.heap.size+2<=w4.heap.size:=by have:=hb4.size;simpa using this
 have hbw4:Below w.heap.size w w4:=((hb.alloc hz _).alloc (by simp;omega) _).trans hb4;clear M1 hb4 hq1 HM0;go_wp2_with fail;have a5:∀B,Below w4.heap.size w4 (w4.alloc B):=fun B=>(Below.refl _ _).alloc (zzC _) _;have f5:=fits_lit w4 [entX] 96 #[.string ⟨#[120]⟩,.int .i64 1,.int .i64 1] rfl (by decide) (by decide) 1 rfl;refine Calls.mono ((HM1.out.below (a5 (.cells #[.string ⟨#[120]⟩,.int .i64 1,.int .i64 1] 96))).putQ (store_putDir2 (HM1.out.below (a5 (.cells #[.string ⟨#[120]⟩,.int .i64 1,.int .i64 1] 96))).w3based 0 0 0 ⟨#[]⟩ ⟨#[]⟩ (some ⟨w4.heap.size,0,none⟩) 1 1 [entX] f5.list f5.many f5.names)) ?_;rintro _ w5 ⟨rfl,R2,tg2,objs2,ros2,⟨e2,hq2⟩,M2,hb5⟩;obtain⟨d,d1,d2,d3,h2⟩:=putB hq2;subst h2;have HM2:Hid _:=M2;have hz5:w4.heap.size<=w5.heap.size:=by have:=hb5.size;simp at this;omega
 have hbw5:Below w.heap.size w w5:=(hbw4.alloc (by omega) _).trans hb5;clear M2 hb5 hq2 HM1 f5 a5;go_wp2_with fail;have a6:∀B,Below w5.heap.size w5 (w5.alloc B):=fun B=>(Below.refl _ _).alloc (zzC _) _;have f6:=fits_lit w5 [entD,entA] 96 #[.string ⟨#[100]⟩,.int .i64 2,.int .i64 2,.string ⟨#[97]⟩,.int .i64 1,.int .i64 1] rfl (by decide) (by decide) 2 rfl;refine Calls.mono ((HM2.out.below (a6 (.cells #[.string ⟨#[100]⟩,.int .i64 2,.int .i64 2,.string ⟨#[97]⟩,.int .i64 1,.int .i64 1] 96))).putQ (store_putDir2 (HM2.out.below (a6 (.cells #[.string ⟨#[100]⟩,.int .i64 2,.int .i64 2,.string ⟨#[97]⟩,.int .i64 1,.int .i64 1] 96))).w3based 0 0 0 ⟨#[]⟩ ⟨#[]⟩ (some ⟨w5.heap.size,0,none⟩) 2 2 [entD,entA] f6.list f6.many f6.names)) ?_;rintro _ w6 ⟨rfl,R3,tg3,objs3,ros3,⟨e3,hq3⟩,M3,hb6⟩;obtain⟨k1,k2⟩:=putC d1 d2 d3 hq3;have HM3:Hid _:=M3;have hbw6:Below w.heap.size w w6:=(hbw5.alloc (by omega) _).trans hb6;clear M3 hb6 hq3 HM2 f6 a6;go_wp2;go_ret2;exact⟨_,s,_,rfl,⟨R3,tg3,p,objs3,ros3,HM3.out,k1,k2⟩,hbw6⟩
end Go.Proofs.YtlgidcmmgohagaaGreat
