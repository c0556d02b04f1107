/- What is proved here: the law's 'store' for afx and for aek. -/
import Derived.Test.YtlgidcmmgohagaaGreatTreeM13
import Derived.Test.YtlgidcmmgohagaaGreatTreeM28
import Derived.Deep.Cut
import Derived.Deep.CutRange
namespace Go.Proofs.YtlgidcmmgohagaaGreat
open Go.RowKit Go.Sort Go.Shelf Go.Proofs.Tryz
set_option linter.unusedVariables false
set_option maxRecDepth 100000
set_option maxHeartbeats 16000000
theorem Dm (W:Nat)(a1 a2 a3:Int)(S T:ByteArray)(la:Option Addr)(lm lc:Nat)(R:World->Prop)(w:World)
  (h1:∀W1,Below w.heap.size w W1->Calls prog 46 #[.pointer (some ⟨W,0,none⟩)] W1 fun e w'=>e=.returned (.bool true)/\R w'):
  Calls prog 20 #[.pointer (some ⟨W,0,none⟩),.agg (l5 6 a1 a2 a3 S T la lm lc)] w fun e w'=>e=.returned (.bool true)/\R w':=by
 unfold l5;have H1:Hid _:=h1;clear h1;go_enter func20,ntmps20;go_wp2_with fail;refine Calls.mono (H1.out _ ((Below.refl _ _).alloc (bA _) _)) ?_;rintro e w2 ⟨rfl,hR⟩;go_wp2;go_ret;exact⟨rfl,hR⟩
theorem Mp (W s:Nat)(a1 N a3 pz kz:Int)(S T:ByteArray)(la:Option Addr)(lm lc:Nat)(w:World)(hW:W<w.heap.size)(c0:w.cell? ⟨W,0,none⟩=some (.pointer (some ⟨s,0,none⟩)))(O9:kz≠2)
  (hid:∀W1,Below w.heap.size w W1->Calls prog 39 #[.pointer (some ⟨W,0,none⟩),.int .i64 N] W1 fun e w'=>e=.returned (.int .i64 N)/\w'=W1)
  (hpl:∀W1,Below w.heap.size w W1->Calls prog 41 #[.pointer (some ⟨W,0,none⟩),.int .i64 N] W1 fun e w'=>e=.returned (.int .i64 pz)/\w'=W1)
  (lM:∀W1,Below w.heap.size w W1->Calls prog 42 #[.pointer (some ⟨W,0,none⟩),.int .i64 pz] W1 fun e w'=>e=.returned (.int .i64 kz)/\w'=W1)
  (hco:∀W1,Below w.heap.size w W1->Calls prog 27 #[.pointer (some ⟨s,0,none⟩),.int .i64 N] W1 fun e w'=>e=.returned (.tuple #[.pointer none,.int .i64 13])/\Below W1.heap.size W1 w'):
  Calls prog 20 #[.pointer (some ⟨W,0,none⟩),.agg (l5 7 a1 N a3 S T la lm lc)] w fun e w'=>e=.returned (.bool true)/\Below w.heap.size w w':=by
 unfold l5;have b1:∀B,Below w.heap.size w (w.alloc B):=fun B=>(Below.refl _ _).alloc (bA _) _
 have HN:=fun (w':World)=>ji 13 w';have k1:(kz == 2)=false:=by simpa using O9
 have k2:(kz != 2)=true:=by simpa using O9
 have K5:Hid _:=hid;have J7:Hid _:=hpl;have HKD:Hid _:=lM;have HCO:Hid _:=hco;clear hid hpl lM hco;go_enter func20,ntmps20;go_wp2_with (first
  | (go_at_call 39;refine Calls.mono (K5.out _ (b1 _)) ?_;rintro _ _ ⟨rfl,rfl⟩)
  | (go_at_call 41;refine Calls.mono (J7.out _ (b1 _)) ?_;rintro _ _ ⟨rfl,rfl⟩)
  | (go_at_call 42;refine Calls.mono (HKD.out _ (b1 _)) ?_;rintro _ _ ⟨rfl,rfl⟩)
  | (go_at_call 27;refine Calls.mono (HCO.out _ (b1 _)) ?_;rintro _ w2 ⟨rfl,hb2⟩)
  | (go_at_call 22;refine Calls.mono (HN _) ?_;rintro _ _ ⟨rfl,rfl⟩))
 go_ret;exact⟨rfl,(b1 _).trans (hb2.mono (by simp))⟩
theorem Mq (W j n pc gp:Nat)(a1 N a3 pv:Int)(S T:ByteArray)(la:Option Addr)(lm lc:Nat)(w:World)(hW:W<w.heap.size)(c4:w.cell? ⟨W,4,none⟩=some (.slice (some ⟨gp,0,none⟩) n pc))(OH:j<n)(hn:n<=1000000000)(Oi:gp<w.heap.size)(cp:w.cell? ⟨gp,j,none⟩=some (.int .i64 pv))(hpv:300<pv)
  (hid:∀W1,Below w.heap.size w W1->Calls prog 39 #[.pointer (some ⟨W,0,none⟩),.int .i64 N] W1 fun e w'=>e=.returned (.int .i64 N)/\w'=W1)
  (hpl:∀W1,Below w.heap.size w W1->Calls prog 41 #[.pointer (some ⟨W,0,none⟩),.int .i64 N] W1 fun e w'=>e=.returned (.int .i64 (j:Int))/\w'=W1)
  (lM:∀W1,Below w.heap.size w W1->Calls prog 42 #[.pointer (some ⟨W,0,none⟩),.int .i64 (j:Int)] W1 fun e w'=>e=.returned (.int .i64 2)/\w'=W1):
  Calls prog 20 #[.pointer (some ⟨W,0,none⟩),.agg (l5 7 a1 N a3 S T la lm lc)] w fun e w'=>e=.returned (.bool true)/\Below w.heap.size w w':=by
 unfold l5;have b1:∀B,Below w.heap.size w (w.alloc B):=fun B=>(Below.refl _ _).alloc (bA _) _
 have hji:(j:Int)<(n:Int):=by omega
 have K5:Hid _:=hid;have J7:Hid _:=hpl;have HKD:Hid _:=lM;clear hid hpl lM;go_enter func20,ntmps20;go_wp2_with (first
  | (go_at_call 39;refine Calls.mono (K5.out _ (b1 _)) ?_;rintro _ _ ⟨rfl,rfl⟩)
  | (go_at_call 41;refine Calls.mono (J7.out _ (b1 _)) ?_;rintro _ _ ⟨rfl,rfl⟩)
  | (go_at_call 42;refine Calls.mono (HKD.out _ (b1 _)) ?_;rintro _ _ ⟨rfl,rfl⟩))
 go_ret;exact⟨rfl,b1 _⟩
theorem Xt:(prog.info? 32).map (fun i=>(i.zero,i.size,i.bytes))=some (some (.pointer none),1,8):=by kernel_rfl
theorem Xu:(prog.info? 115).map (fun i=>(i.zero,i.size,i.bytes))=some (some (.pointer none),1,8):=by kernel_rfl
theorem N3 {b:Nat}:∀u ∈ [ptr b],u.oneCell'=true:=by intro u hu;simp at hu;subst hu;rfl
section
variable {R:u9}{tg:aP}{w:World}{B0 W s r p lim:Nat}{ag au:List Ob}{got:List Int}{ws:List Slot}{ds:List Doc}{q8 q9 fP:Nat}
theorem cW.Xv (h:cW R tg w B0 W s r p lim ag au got ws ds q8 q9 fP):w.cell? ⟨W,0,none⟩=some (.pointer (some ⟨s,0,none⟩))/\w.cell? ⟨W,1,none⟩=some (.pointer (some ⟨r,0,none⟩))/\W<w.heap.size/\w.cell? ⟨W,5,none⟩=some (.slice R.wa ws.length R.wc)/\w.cell? ⟨W,6,none⟩=some (.slice R.ta ds.length R.tc):=by
 obtain⟨h0,h1,h2,_⟩:=fJ.cells h.w3.law;obtain⟨a0,a1,a2,a3,a4,hW⟩:=h.block;exact⟨h0,h1,h2,by simp[World.cell?,hW],by simp[World.cell?,hW]⟩
theorem b9.moved {P:Nat×Nat->Prop}{aC:aP}{w':World}{S c:Nat}{nodes:List aK}{data:List ByteArray}{rest:List Value}(h:b9 (fun k=>tg k=(0,c)) w S nodes data rest)(hf:jC tg w)(m:az P tg aC w w')(hc:c≠0)(hP:¬P (0,c)):b9 (fun k=>aC k=(0,c)) w' S nodes data rest:=by
 have hne:((0,c):Nat×Nat)≠(0,0):=fun e=>hc (congrArg Prod.snd e);obtain⟨na,nc,da,dc,hst⟩:=h;exact⟨na,nc,da,dc,hst.keep (fun k hk=>(m.tags k (hf.lt (by rw[hk];exact hne))).trans hk) (fun k hk=>m.block k (hf.lt (by rw[hk];exact hne)) (by rw[hk];exact hP))⟩
theorem cW.co {W1 w2:World}{uA:aP}(h:cW R tg w B0 W s r p lim ag au got ws ds q8 q9 fP)(hb:Below w.heap.size w W1)(m1:az (fun _=>False) tg uA W1 w2)(hS1:gj uA w2 s p ag got false lim):∃R1,cW R1 uA w2 B0 W s r p lim ag au got ws ds q8 q9 fP:=by
 have hm:=h.below hb;obtain⟨_,pt,Vm,hI,hG,_,fo⟩:=hS1;exact⟨_,hm.after m1 (fun _ h=>h) rfl Vm hI hG fo rfl (fun x hx=>(hm.xL x hx).moves m1 (fun _ h=>h)) hm.slot hm.cnt⟩
theorem Ux (h:cW R tg w B0 W s r p lim ag au got ws ds q8 q9 fP)(hn:ws.length<=100000000)(hd:ds.length=ws.length)(j n pc gp:Nat)(a1 N a3 pv:Int)(S T:ByteArray)(la:Option Addr)(lm lc:Nat)(c4:w.cell? ⟨W,4,none⟩=some (.slice (some ⟨gp,0,none⟩) n pc))(OH:j<n)(Ao:n<=1000000000)(Oi:gp<w.heap.size)(cp:w.cell? ⟨gp,j,none⟩=some (.int .i64 pv))(hpv:¬300<pv)
  (g0:WG)(t0:LT)(gP:∀x,g0.fs.kn x=0)(nodes:List aK)(data:List ByteArray)
  (hid:∀W1,Below w.heap.size w W1->Calls prog 39 #[.pointer (some ⟨W,0,none⟩),.int .i64 N] W1 fun e w'=>e=.returned (.int .i64 N)/\w'=W1)
  (hpl:∀W1,Below w.heap.size w W1->Calls prog 41 #[.pointer (some ⟨W,0,none⟩),.int .i64 N] W1 fun e w'=>e=.returned (.int .i64 (j:Int))/\w'=W1)
  (lM:∀W1,Below w.heap.size w W1->Calls prog 42 #[.pointer (some ⟨W,0,none⟩),.int .i64 (j:Int)] W1 fun e w'=>e=.returned (.int .i64 2)/\w'=W1)
  (hco:∀W1,Below w.heap.size w W1->Calls prog 27 #[.pointer (some ⟨s,0,none⟩),.int .i64 N] W1 fun e w'=>∃B uA,e=.returned (.tuple #[.pointer (some ⟨B.wb,0,none⟩),.int .i64 0])/\az (fun _=>False) tg uA W1 w'/\gj uA w' s p ag got false lim/\Ai uA w' p ag lim (ws.length+2,B,g0,t0))
  (aen:∀(G:Nat->Prop) (w2:World),bS G w2 r au->(∀k,G k->k<w2.heap.size)->Calls prog 47 #[.pointer (some ⟨r,0,none⟩),.int .i64 (j:Int)] w2 fun e w'=>∃rest,e=.returned (.pointer (some ⟨w2.heap.size,0,none⟩))/\b9 (fun k=>w2.heap.size<=k/\k<w'.heap.size) w' w2.heap.size nodes data rest/\Below w2.heap.size w2 w'):
  Calls prog 20 #[.pointer (some ⟨W,0,none⟩),.agg (l5 7 a1 N a3 S T la lm lc)] w fun e w'=>e=.returned (.bool true)/\∃R' aC B S' rest,cW R' aC w' B0 W s r p lim ag au got (ws ++ [(ws.length+2,B,g0,t0)]) (ds ++ [(S',nodes,data,rest)]) q8 q9 fP/\Below B0 w w':=by
 unfold l5;obtain⟨iW,hiW,hW0,hW1,hW2⟩:=info_parts Xt;obtain⟨iD,hiD,GG,Yr,Yo⟩:=info_parts Xu;have b1:∀B,Below w.heap.size w (w.alloc B):=fun B=>(Below.refl _ _).alloc (bA _) _
 have hji:(j:Int)<(n:Int):=by omega
 have aoN:decide (300<pv)=false:=dY hpv;obtain⟨c0,c1,qu,_,_⟩:=h.Xv;have HM:Hid _:=h;have K5:Hid _:=hid;have J7:Hid _:=hpl;have HKD:Hid _:=lM;have HCO:Hid _:=hco;have aeo:Hid _:=aen;have HD:Hid (ds.length=ws.length):=hd;have HKN:Hid _:=gP;clear hid hpl lM hco aen h hd gP;go_enter func20,ntmps20;go_wp2_with (first
  | (go_at_call 39;refine Calls.mono (K5.out _ (b1 _)) ?_;rintro _ _ ⟨rfl,rfl⟩)
  | (go_at_call 41;refine Calls.mono (J7.out _ (b1 _)) ?_;rintro _ _ ⟨rfl,rfl⟩)
  | (go_at_call 42;refine Calls.mono (HKD.out _ (b1 _)) ?_;rintro _ _ ⟨rfl,rfl⟩))
 refine Calls.mono (HCO.out _ (b1 _)) ?_;rintro _ w2 ⟨B,uA,rfl,m1,hS1,hx1⟩;have hB2:Below B0 w w2:=(HM.out.low (w':=w2) (X:=fun _=>False) ⟨m1.os,m1.tape,m1.output,eU (b1 _).size m1.size,fun k hk _=>(m1.block k (cv hk (b1 _).size) (fun h=>h)).trans ((b1 _).block k hk)⟩ (fun k h=>h.elim));have zg:Hid _:=hB2;have hB0:=HM.out.size;obtain⟨R1,M1⟩:=HM.out.co (b1 _) m1 hS1;obtain⟨d0,d1,V4,_,_⟩:=M1.Xv;have Qb:Hid _:=M1;have HX1:Hid _:=hx1;clear m1 hS1 hx1 M1 HM HCO K5 J7 HKD hB2;go_wp2_with fail;refine Calls.mono (aeo.out _ w2 Qb.out.w3.ref (fun k hk=>(Qb.out.w3.sep.rl k hk).1)) ?_;rintro _ w3 ⟨rest,rfl,hst,hb3⟩;have Ko:Hid (Below B0 w w3):=zg.out.trans (hb3.mono Qb.out.size);obtain⟨WN,m2,M2,qF⟩:=Qb.out.tagged (Sx:=fun _=>True) hb3 hst (8+ds.length) (by omega);have hx2:=HX1.out.moves m2 (fun _ h=>h);obtain⟨e0,e1,Zr,e5,e6⟩:=M2.Xv;obtain⟨a0,a1',a2',a3',a4',hblk⟩:=M2.block;obtain⟨S',hS'⟩:∃S',S'=w2.heap.size:=⟨_,rfl⟩;rw[<-hS'] at qF ⊢;obtain⟨k,hk⟩:∃k,k=ws.length:=⟨_,rfl⟩;have HKW:Hid (k=ws.length):=hk;have l6:Hid (w3.ownsRow 0 32 1 (.slice R1.wa k R1.wc) k (ws.map fun x=>ptr x.2.1.wb)):=by rw[hk];exact M2.Dl
 rw[<-hk] at e5 hn;have HM2:Hid _:=M2;have HX2:Hid _:=hx2;have Ji:Hid _:=qF;have Uy:Hid _:=hblk;clear aeo Qb HX1 hst hb3 m2 M2 hx2 qF hblk hS' hk d0 d1 e6;go_upto_region 46 with fail
 go_cut [] from 28 to 318 (fun wx=>Hid (∃R5 Rf,cW R5 Rf wx B0 W s r p lim ag au got (ws ++ [(ws.length+2,B,g0,t0)]) ds q8 q9 fP/\b9 (fun k=>Rf k=(0,8+ds.length)) wx S' nodes data rest/\Below B0 w wx))
 case first=>
  go_wp2_with (at_builtin;refine aY rfl (.tmp 297) (.tmp 299) 62 rfl 0 32 iW _ 1 8 underlying62 hiW hW0 hW1 hW2 rfl (by decide) (.slice R1.wa k R1.wc) k (ws.map fun x=>ptr x.2.1.wb) rfl (World.ownsRow.alloc l6.out _) ⟨w3.heap.size,0,none⟩ 1 1 [ptr B.wb] rfl rfl (one_cell w3 _ _ _ rfl) N3 (by unfold maxLen;omega) (by omega) (dG _) ?_);intro v4 w4 KV hg4 qz;obtain⟨g4,c4,rfl⟩:=ak KV (by omega);have Bq:=dW Uy.out (bh _ _) (by simp) hg4 (aA l6.out Uy.out (by decide));have p54:w4.cell? ⟨W,5,none⟩=some (.slice R1.wa ws.length R1.wc):=by simp[World.cell?,Bq]
  have f54:w4.frozen? ⟨W,5,none⟩=false:=by simp[World.frozen?,Bq]
  have aoO:W<w4.heap.size:=(Array.getElem?_eq_some_iff.1 Bq).1;have P:=cq (i:=5) Uy.out l6.out (by decide) (bh w3 _) (by simp) ⟨rfl,rfl,rfl⟩ KV hg4 qz (by simp);have HP:Hid _:=P;clear P KV hg4 qz Bq;go_wp2_with fail;go_meet;have P:=HP.out;rw[HKW.out] at P ⊢;obtain⟨R5,Rf,m5,M5,hB5⟩:=HM2.out.aiT HX2.out HKN.out Uy.out P;exact⟨R5,Rf,M5,b9.moved Ji.out HM2.out.fresh m5 (by omega) (by rintro (e | e) <;> (have:=congrArg Prod.snd e;simp only at this;omega)),Ko.out.trans hB5⟩
 case rest=>
  rename World=>w5;obtain⟨R5,Rf,M5,st5,hB5⟩:=hcut.out;have HB5:Hid _:=hB5;clear hB5;obtain⟨f0,f1,aoP,_,e6⟩:=M5.Xv;obtain⟨a0,a1',a2',a3',a4',YG⟩:=M5.block;have Uz:Hid (w5.ownsRow 0 115 1 (.slice R5.ta k R5.tc) k (ds.map fun x=>ptr x.1)):=by rw[HKW.out,<-HD.out];exact M5.ny
  rw[HD.out,<-HKW.out] at e6;have VE:Hid _:=M5;have aaI:Hid _:=st5;have N4:Hid _:=YG;clear hcut M5 st5 YG HM2 HX2 Ji Uy l6 e5 e0 e1;go_wp2_with (at_builtin;refine aY rfl (.tmp 307) (.tmp 309) 63 rfl 0 115 iD _ 1 8 underlying63 hiD GG Yr Yo rfl (by decide) (.slice R5.ta k R5.tc) k (ds.map fun x=>ptr x.1) rfl (World.ownsRow.alloc Uz.out _) ⟨w5.heap.size,0,none⟩ 1 1 [ptr S'] rfl rfl (one_cell w5 _ _ _ rfl) N3 (by unfold maxLen;omega) (by omega) (dG _) ?_);intro v6 w6 ho6 wk JC;obtain⟨g6,c6,rfl⟩:=ak ho6 (by omega);have Da:=dW N4.out (bh _ _) (by simp) wk (aA Uz.out N4.out (by decide));have p66:w6.cell? ⟨W,6,none⟩=some (.slice R5.ta ds.length R5.tc):=by simp[World.cell?,Da]
  have f66:w6.frozen? ⟨W,6,none⟩=false:=by simp[World.frozen?,Da]
  have aoQ:W<w6.heap.size:=(Array.getElem?_eq_some_iff.1 Da).1;have P:=cq (i:=6) N4.out Uz.out (by decide) (bh w5 _) (by simp) ⟨rfl,rfl,rfl⟩ ho6 wk JC (by simp);have HP:Hid _:=P;clear P ho6 wk JC Da;go_wp2;go_ret;have P:=HP.out;rw[show k=ds.length by rw[HD.out];exact HKW.out] at P ⊢;obtain⟨R7,Af,M7,hB7⟩:=VE.out.aiU aaI.out N4.out P;exact⟨rfl,R7,Af,B,S',rest,M7,HB5.out.trans hB7⟩
end
end Go.Proofs.YtlgidcmmgohagaaGreat
