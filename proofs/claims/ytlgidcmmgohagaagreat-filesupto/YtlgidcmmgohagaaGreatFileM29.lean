/- What is proved here: the law's 'store' for Fetched and for Checkout. -/
import Derived.Test.YtlgidcmmgohagaaGreatFileM15
import Derived.Test.YtlgidcmmgohagaaGreatFileM28
import Derived.Deep.Cut
import Derived.Deep.CutRange
namespace Go.Proofs.YtlgidcmmgohagaaGreat
open Go.RowKit Go.Sort Go.Shelf Go.Proofs.Tryz
set_option linter.unusedVariables false
set_option maxRecDepth 100000
set_option maxHeartbeats 16000000
theorem store_fetched (W:Nat)(a1 a2 a3:Int)(S T:ByteArray)(la:Option Addr)(lm lc:Nat)(R:World->Prop)(w:World)
  (h1:∀W1,Below w.heap.size w W1->Calls prog 46 #[.pointer (some ⟨W,0,none⟩)] W1 fun e w'=>e=.returned (.bool true)/\R w'):
  Calls prog 20 #[.pointer (some ⟨W,0,none⟩),.agg (opV9 6 a1 a2 a3 S T la lm lc)] w fun e w'=>e=.returned (.bool true)/\R w':=by
 unfold opV9;have H1:Hid _:=h1;clear h1;go_enter func20,ntmps20;go_wp2_with fail;refine Calls.mono (H1.out _ ((Below.refl _ _).alloc (zzC _) _)) ?_;rintro e w2 ⟨rfl,hR⟩;go_wp2;go_ret;exact⟨rfl,hR⟩
theorem check_none (W s:Nat)(a1 N a3 pz kz:Int)(S T:ByteArray)(la:Option Addr)(lm lc:Nat)(w:World)(hW:W<w.heap.size)(c0:w.cell? ⟨W,0,none⟩=some (.pointer (some ⟨s,0,none⟩)))(hkz:kz≠2)
  (hid:∀W1,Below w.heap.size w W1->Calls prog 39 #[.pointer (some ⟨W,0,none⟩),.int .i64 N] W1 fun e w'=>e=.returned (.int .i64 N)/\w'=W1)
  (hpl:∀W1,Below w.heap.size w W1->Calls prog 41 #[.pointer (some ⟨W,0,none⟩),.int .i64 N] W1 fun e w'=>e=.returned (.int .i64 pz)/\w'=W1)
  (hkd:∀W1,Below w.heap.size w W1->Calls prog 42 #[.pointer (some ⟨W,0,none⟩),.int .i64 pz] W1 fun e w'=>e=.returned (.int .i64 kz)/\w'=W1)
  (hco:∀W1,Below w.heap.size w W1->Calls prog 27 #[.pointer (some ⟨s,0,none⟩),.int .i64 N] W1 fun e w'=>e=.returned (.tuple #[.pointer none,.int .i64 13])/\Below W1.heap.size W1 w'):
  Calls prog 20 #[.pointer (some ⟨W,0,none⟩),.agg (opV9 7 a1 N a3 S T la lm lc)] w fun e w'=>e=.returned (.bool true)/\Below w.heap.size w w':=by
 unfold opV9;have b1:∀B,Below w.heap.size w (w.alloc B):=fun B=>(Below.refl _ _).alloc (zzC _) _
 have HN:=fun (w':World)=>num_any 13 w';have k1:(kz == 2)=false:=by simpa using hkz
 have k2:(kz != 2)=true:=by simpa using hkz
 have HID:Hid _:=hid;have HPL:Hid _:=hpl;have HKD:Hid _:=hkd;have HCO:Hid _:=hco;clear hid hpl hkd hco;go_enter func20,ntmps20;go_wp2_with (first
  | (go_at_call 39;refine Calls.mono (HID.out _ (b1 _)) ?_;rintro _ _ ⟨rfl,rfl⟩)
  | (go_at_call 41;refine Calls.mono (HPL.out _ (b1 _)) ?_;rintro _ _ ⟨rfl,rfl⟩)
  | (go_at_call 42;refine Calls.mono (HKD.out _ (b1 _)) ?_;rintro _ _ ⟨rfl,rfl⟩)
  | (go_at_call 27;refine Calls.mono (HCO.out _ (b1 _)) ?_;rintro _ w2 ⟨rfl,hb2⟩)
  | (go_at_call 22;refine Calls.mono (HN _) ?_;rintro _ _ ⟨rfl,rfl⟩))
 go_ret;exact⟨rfl,(b1 _).trans (hb2.mono (by simp))⟩
theorem check_many (W j n pc gp:Nat)(a1 N a3 pv:Int)(S T:ByteArray)(la:Option Addr)(lm lc:Nat)(w:World)(hW:W<w.heap.size)(c4:w.cell? ⟨W,4,none⟩=some (.slice (some ⟨gp,0,none⟩) n pc))(hjn:j<n)(hn:n<=1000000000)(hgp:gp<w.heap.size)(cp:w.cell? ⟨gp,j,none⟩=some (.int .i64 pv))(hpv:300<pv)
  (hid:∀W1,Below w.heap.size w W1->Calls prog 39 #[.pointer (some ⟨W,0,none⟩),.int .i64 N] W1 fun e w'=>e=.returned (.int .i64 N)/\w'=W1)
  (hpl:∀W1,Below w.heap.size w W1->Calls prog 41 #[.pointer (some ⟨W,0,none⟩),.int .i64 N] W1 fun e w'=>e=.returned (.int .i64 (j:Int))/\w'=W1)
  (hkd:∀W1,Below w.heap.size w W1->Calls prog 42 #[.pointer (some ⟨W,0,none⟩),.int .i64 (j:Int)] W1 fun e w'=>e=.returned (.int .i64 2)/\w'=W1):
  Calls prog 20 #[.pointer (some ⟨W,0,none⟩),.agg (opV9 7 a1 N a3 S T la lm lc)] w fun e w'=>e=.returned (.bool true)/\Below w.heap.size w w':=by
 unfold opV9;have b1:∀B,Below w.heap.size w (w.alloc B):=fun B=>(Below.refl _ _).alloc (zzC _) _
 have hji:(j:Int)<(n:Int):=by omega
 have HID:Hid _:=hid;have HPL:Hid _:=hpl;have HKD:Hid _:=hkd;clear hid hpl hkd;go_enter func20,ntmps20;go_wp2_with (first
  | (go_at_call 39;refine Calls.mono (HID.out _ (b1 _)) ?_;rintro _ _ ⟨rfl,rfl⟩)
  | (go_at_call 41;refine Calls.mono (HPL.out _ (b1 _)) ?_;rintro _ _ ⟨rfl,rfl⟩)
  | (go_at_call 42;refine Calls.mono (HKD.out _ (b1 _)) ?_;rintro _ _ ⟨rfl,rfl⟩))
 go_ret;exact⟨rfl,b1 _⟩
theorem infoWsp:(prog.info? 32).map (fun i=>(i.zero,i.size,i.bytes))=some (some (.pointer none),1,8):=by kernel_rfl
theorem infoStp:(prog.info? 115).map (fun i=>(i.zero,i.size,i.bytes))=some (some (.pointer none),1,8):=by kernel_rfl
theorem one_ptr {b:Nat}:∀u ∈ [ptr b],u.oneCell'=true:=by intro u hu;simp at hu;subst hu;rfl
section
variable {R:Rows4}{tg:Tags}{w:World}{B0 W s r p lim:Nat}{objs ros:List Ob}{got:List Int}{ws:List Slot}{ds:List Doc}{q8 q9 q11:Nat}
theorem M4At.c01 (h:M4At R tg w B0 W s r p lim objs ros got ws ds q8 q9 q11):w.cell? ⟨W,0,none⟩=some (.pointer (some ⟨s,0,none⟩))/\w.cell? ⟨W,1,none⟩=some (.pointer (some ⟨r,0,none⟩))/\W<w.heap.size/\w.cell? ⟨W,5,none⟩=some (.slice R.wa ws.length R.wc)/\w.cell? ⟨W,6,none⟩=some (.slice R.ta ds.length R.tc):=by
 obtain⟨h0,h1,h2,_⟩:=LawS.cells h.w3.law;obtain⟨a0,a1,a2,a3,a4,hW⟩:=h.block;exact⟨h0,h1,h2,by simp[World.cell?,hW],by simp[World.cell?,hW]⟩
theorem StInv.moved {P:Nat×Nat->Prop}{tg':Tags}{w':World}{S c:Nat}{nodes:List Ent}{data:List ByteArray}{rest:List Value}(h:StInv (fun k=>tg k=(0,c)) w S nodes data rest)(hf:Fresh tg w)(m:Moves P tg tg' w w')(hc:c≠0)(hP:¬P (0,c)):StInv (fun k=>tg' k=(0,c)) w' S nodes data rest:=by
 have hne:((0,c):Nat×Nat)≠(0,0):=fun e=>hc (congrArg Prod.snd e);obtain⟨na,nc,da,dc,hst⟩:=h;exact⟨na,nc,da,dc,hst.keep (fun k hk=>(m.tags k (hf.lt (by rw[hk];exact hne))).trans hk) (fun k hk=>m.block k (hf.lt (by rw[hk];exact hne)) (by rw[hk];exact hP))⟩
theorem M4At.co {W1 w2:World}{tg1:Tags}(h:M4At R tg w B0 W s r p lim objs ros got ws ds q8 q9 q11)(hb:Below w.heap.size w W1)(m1:Moves (fun _=>False) tg tg1 W1 w2)(hS1:SInv tg1 w2 s p objs got false lim):∃R1,M4At R1 tg1 w2 B0 W s r p lim objs ros got ws ds q8 q9 q11:=by
 have hm:=h.below hb;obtain⟨_,pt,hpb,hI,hG,_,hgl⟩:=hS1;exact⟨_,hm.after m1 (fun _ h=>h) rfl hpb hI hG hgl rfl (fun x hx=>(hm.wsat x hx).moves m1 (fun _ h=>h)) hm.slot hm.cnt⟩
theorem check_ok (h:M4At R tg w B0 W s r p lim objs ros got ws ds q8 q9 q11)(hn:ws.length<=100000000)(hd:ds.length=ws.length)(j n pc gp:Nat)(a1 N a3 pv:Int)(S T:ByteArray)(la:Option Addr)(lm lc:Nat)(c4:w.cell? ⟨W,4,none⟩=some (.slice (some ⟨gp,0,none⟩) n pc))(hjn:j<n)(hnn:n<=1000000000)(hgp:gp<w.heap.size)(cp:w.cell? ⟨gp,j,none⟩=some (.int .i64 pv))(hpv:¬300<pv)
  (g0:WG)(t0:LT)(hkn:∀x,g0.fs.kn x=0)(nodes:List Ent)(data:List ByteArray){PR:List Value->Prop}
  (hid:∀W1,Below w.heap.size w W1->Calls prog 39 #[.pointer (some ⟨W,0,none⟩),.int .i64 N] W1 fun e w'=>e=.returned (.int .i64 N)/\w'=W1)
  (hpl:∀W1,Below w.heap.size w W1->Calls prog 41 #[.pointer (some ⟨W,0,none⟩),.int .i64 N] W1 fun e w'=>e=.returned (.int .i64 (j:Int))/\w'=W1)
  (hkd:∀W1,Below w.heap.size w W1->Calls prog 42 #[.pointer (some ⟨W,0,none⟩),.int .i64 (j:Int)] W1 fun e w'=>e=.returned (.int .i64 2)/\w'=W1)
  (hco:∀W1,Below w.heap.size w W1->Calls prog 27 #[.pointer (some ⟨s,0,none⟩),.int .i64 N] W1 fun e w'=>∃B tg1,e=.returned (.tuple #[.pointer (some ⟨B.wb,0,none⟩),.int .i64 0])/\Moves (fun _=>False) tg tg1 W1 w'/\SInv tg1 w' s p objs got false lim/\WsAt tg1 w' p objs lim (ws.length+2,B,g0,t0))
  (hdoc:∀(G:Nat->Prop) (w2:World),RefInv G w2 r ros->(∀k,G k->k<w2.heap.size)->Calls prog 47 #[.pointer (some ⟨r,0,none⟩),.int .i64 (j:Int)] w2 fun e w'=>∃rest,PR rest/\e=.returned (.pointer (some ⟨w2.heap.size,0,none⟩))/\StInv (fun k=>w2.heap.size<=k/\k<w'.heap.size) w' w2.heap.size nodes data rest/\Below w2.heap.size w2 w'):
  Calls prog 20 #[.pointer (some ⟨W,0,none⟩),.agg (opV9 7 a1 N a3 S T la lm lc)] w fun e w'=>e=.returned (.bool true)/\∃R' tg' B S' rest,PR rest/\M4At R' tg' w' B0 W s r p lim objs ros got (ws ++ [(ws.length+2,B,g0,t0)]) (ds ++ [(S',nodes,data,rest)]) q8 q9 q11/\Below B0 w w':=by
 unfold opV9;obtain⟨iW,hiW,hW0,hW1,hW2⟩:=info_parts infoWsp;obtain⟨iD,hiD,hD0,hD1,hD2⟩:=info_parts infoStp;have b1:∀B,Below w.heap.size w (w.alloc B):=fun B=>(Below.refl _ _).alloc (zzC _) _
 have hji:(j:Int)<(n:Int):=by omega
 have hpv':decide (300<pv)=false:=zzE hpv;obtain⟨c0,c1,hWl,_,_⟩:=h.c01;have HM:Hid _:=h;have HID:Hid _:=hid;have HPL:Hid _:=hpl;have HKD:Hid _:=hkd;have HCO:Hid _:=hco;have HDOC:Hid _:=hdoc;have HD:Hid (ds.length=ws.length):=hd;have HKN:Hid _:=hkn;clear hid hpl hkd hco hdoc h hd hkn;go_enter func20,ntmps20;go_wp2_with (first
  | (go_at_call 39;refine Calls.mono (HID.out _ (b1 _)) ?_;rintro _ _ ⟨rfl,rfl⟩)
  | (go_at_call 41;refine Calls.mono (HPL.out _ (b1 _)) ?_;rintro _ _ ⟨rfl,rfl⟩)
  | (go_at_call 42;refine Calls.mono (HKD.out _ (b1 _)) ?_;rintro _ _ ⟨rfl,rfl⟩))
 refine Calls.mono (HCO.out _ (b1 _)) ?_;rintro _ w2 ⟨B,tg1,rfl,m1,hS1,hx1⟩;have hB2:Below B0 w w2:=(HM.out.low (w':=w2) (X:=fun _=>False) ⟨m1.os,m1.tape,m1.output,zzG (b1 _).size m1.size,fun k hk _=>(m1.block k (zzA hk (b1 _).size) (fun h=>h)).trans ((b1 _).block k hk)⟩ (fun k h=>h.elim));have HB2:Hid _:=hB2;have hB0:=HM.out.size;obtain⟨R1,M1⟩:=HM.out.co (b1 _) m1 hS1;obtain⟨d0,d1,hWl2,_,_⟩:=M1.c01;have HM1:Hid _:=M1;have HX1:Hid _:=hx1;clear m1 hS1 hx1 M1 HM HCO HID HPL HKD hB2;go_wp2_with fail;refine Calls.mono (HDOC.out _ w2 HM1.out.w3.ref (fun k hk=>(HM1.out.w3.sep.rl k hk).1)) ?_;rintro _ w3 ⟨rest,hPR,rfl,hst,hb3⟩;have HB3:Hid (Below B0 w w3):=HB2.out.trans (hb3.mono HM1.out.size);obtain⟨tg2,m2,M2,hst2⟩:=HM1.out.tagged (Sx:=fun _=>True) hb3 hst (8+ds.length) (by omega);have hx2:=HX1.out.moves m2 (fun _ h=>h);obtain⟨e0,e1,hWl3,e5,e6⟩:=M2.c01;obtain⟨a0,a1',a2',a3',a4',hblk⟩:=M2.block;obtain⟨S',hS'⟩:∃S',S'=w2.heap.size:=⟨_,rfl⟩;rw[<-hS'] at hst2 ⊢;obtain⟨k,hk⟩:∃k,k=ws.length:=⟨_,rfl⟩;have HKW:Hid (k=ws.length):=hk;have HROW:Hid (w3.ownsRow 0 32 1 (.slice R1.wa k R1.wc) k (ws.map fun x=>ptr x.2.1.wb)):=by rw[hk];exact M2.rowW
 rw[<-hk] at e5 hn;have HM2:Hid _:=M2;have HX2:Hid _:=hx2;have HST2:Hid _:=hst2;have HBLK:Hid _:=hblk;clear HDOC HM1 HX1 hst hb3 m2 M2 hx2 hst2 hblk hS' hk d0 d1 e6;go_upto_region 46 with fail
 go_cut [] from 28 to 318 (fun wx=>Hid (∃R5 tg5,M4At R5 tg5 wx B0 W s r p lim objs ros got (ws ++ [(ws.length+2,B,g0,t0)]) ds q8 q9 q11/\StInv (fun k=>tg5 k=(0,8+ds.length)) wx S' nodes data rest/\Below B0 w wx))
 case first=>
  go_wp2_with (at_builtin;refine wpList_append_at rfl (.tmp 297) (.tmp 299) 62 rfl 0 32 iW _ 1 8 underlying62 hiW hW0 hW1 hW2 rfl (by decide) (.slice R1.wa k R1.wc) k (ws.map fun x=>ptr x.2.1.wb) rfl (World.ownsRow.alloc HROW.out _) ⟨w3.heap.size,0,none⟩ 1 1 [ptr B.wb] rfl rfl (one_cell w3 _ _ _ rfl) one_ptr (by unfold maxLen;omega) (by omega) (zzF _) ?_);intro v4 w4 ho4 hg4 hloc4;obtain⟨g4,c4,rfl⟩:=slice_of_owns ho4 (by omega);have hW4:=grown_W HBLK.out (kb_alloc0 _ _) (by simp) hg4 (owns_ne_cells HROW.out HBLK.out (by decide));have p54:w4.cell? ⟨W,5,none⟩=some (.slice R1.wa ws.length R1.wc):=by simp[World.cell?,hW4]
  have f54:w4.frozen? ⟨W,5,none⟩=false:=by simp[World.frozen?,hW4]
  have hWl4:W<w4.heap.size:=(Array.getElem?_eq_some_iff.1 hW4).1;have P:=push_after (i:=5) HBLK.out HROW.out (by decide) (kb_alloc0 w3 _) (by simp) ⟨rfl,rfl,rfl⟩ ho4 hg4 hloc4 (by simp);have HP:Hid _:=P;clear P ho4 hg4 hloc4 hW4;go_wp2_with fail;go_meet;have P:=HP.out;rw[HKW.out] at P ⊢;obtain⟨R5,tg5,m5,M5,hB5⟩:=HM2.out.addW HX2.out HKN.out HBLK.out P;exact⟨R5,tg5,M5,StInv.moved HST2.out HM2.out.fresh m5 (by omega) (by rintro (e | e) <;> (have:=congrArg Prod.snd e;simp only at this;omega)),HB3.out.trans hB5⟩
 case rest=>
  rename World=>w5;obtain⟨R5,tg5,M5,st5,hB5⟩:=hcut.out;have HB5:Hid _:=hB5;clear hB5;obtain⟨f0,f1,hWl5,_,e6⟩:=M5.c01;obtain⟨a0,a1',a2',a3',a4',hblk5⟩:=M5.block;have HROW5:Hid (w5.ownsRow 0 115 1 (.slice R5.ta k R5.tc) k (ds.map fun x=>ptr x.1)):=by rw[HKW.out,<-HD.out];exact M5.rowD
  rw[HD.out,<-HKW.out] at e6;have HM5:Hid _:=M5;have HST5:Hid _:=st5;have HBLK5:Hid _:=hblk5;clear hcut M5 st5 hblk5 HM2 HX2 HST2 HBLK HROW e5 e0 e1;go_wp2_with (at_builtin;refine wpList_append_at rfl (.tmp 307) (.tmp 309) 63 rfl 0 115 iD _ 1 8 underlying63 hiD hD0 hD1 hD2 rfl (by decide) (.slice R5.ta k R5.tc) k (ds.map fun x=>ptr x.1) rfl (World.ownsRow.alloc HROW5.out _) ⟨w5.heap.size,0,none⟩ 1 1 [ptr S'] rfl rfl (one_cell w5 _ _ _ rfl) one_ptr (by unfold maxLen;omega) (by omega) (zzF _) ?_);intro v6 w6 ho6 hg6 hloc6;obtain⟨g6,c6,rfl⟩:=slice_of_owns ho6 (by omega);have hW6:=grown_W HBLK5.out (kb_alloc0 _ _) (by simp) hg6 (owns_ne_cells HROW5.out HBLK5.out (by decide));have p66:w6.cell? ⟨W,6,none⟩=some (.slice R5.ta ds.length R5.tc):=by simp[World.cell?,hW6]
  have f66:w6.frozen? ⟨W,6,none⟩=false:=by simp[World.frozen?,hW6]
  have hWl6:W<w6.heap.size:=(Array.getElem?_eq_some_iff.1 hW6).1;have P:=push_after (i:=6) HBLK5.out HROW5.out (by decide) (kb_alloc0 w5 _) (by simp) ⟨rfl,rfl,rfl⟩ ho6 hg6 hloc6 (by simp);have HP:Hid _:=P;clear P ho6 hg6 hloc6 hW6;go_wp2;go_ret;have P:=HP.out;rw[show k=ds.length by rw[HD.out];exact HKW.out] at P ⊢;obtain⟨R7,tg7,M7,hB7⟩:=HM5.out.addD HST5.out HBLK5.out P;exact⟨rfl,R7,tg7,B,S',rest,hPR,M7,HB5.out.trans hB7⟩
end
end Go.Proofs.YtlgidcmmgohagaaGreat
