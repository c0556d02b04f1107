/- What is proved here: 'plays'. -/
import Derived.Test.YtlgidcmmgohagaaGreatTreeM33
import Derived.Test.YtlgidcmmgohagaaGreatRows
import Derived.Test.YtlgidcmmgohagaaGreatChecked
import Derived.JoinedCond
namespace Go.Proofs.YtlgidcmmgohagaaGreat
open Go.RowKit Go.Sort Go.Shelf
set_option linter.unusedVariables false
set_option maxRecDepth 100000
set_option maxHeartbeats 16000000
theorem Q0 {R:u9}{tg:aP}{w:World}{B0 W s r p lim:Nat}{ag au:List Ob}{got:List Int}{ws:List Slot}{ds:List Doc}{q8 q9 fP:Nat}(M:cW R tg w B0 W s r p lim ag au got ws ds q8 q9 fP)(hj:2<ag.length){gp pc:Nat}{pv:Int}(h1:w.cell? ⟨W,4,none⟩=some (.slice (some ⟨gp,0,none⟩) ag.length pc))(h2:w.cell? ⟨gp,2,none⟩=some (.int .i64 pv)):pv<=300:=by
 obtain⟨ia,ka,pa,ic,kc,pc',paths,hl,hlen,hP⟩:=M.w3.law;have hj2:2<paths.length:=by rw[hlen];exact hj
 obtain⟨g,kP,_,hc,_⟩:=row_one hl.qg (i:=2) (v:=.int .i64 paths[2]) (by simp[encI,hj2]);have e1:=hl.c4.symm.trans h1;rw[kP] at e1;injection e1 with e1;injection e1 with e1 _ _;injection e1 with e1;injection e1 with e1 _ _;subst e1;have e2:=hc.symm.trans h2;injection e2 with e2;injection e2 with _ e2
 have:=(hP 2 hj2).2
 rw[e2] at this;exact Int.le_trans this (by decide)
theorem JZ {w:World}{B0 W s r:Nat}(h:MS B0 w W s r):
  Calls Tryz.prog 20 #[.pointer (some ⟨W,0,none⟩),.agg (l5 7 0 3 0 ⟨#[]⟩ ⟨#[]⟩ none 0 0)] w fun e w'=>e=.returned (.bool true)/\dP B0 w' W s r 3/\Below B0 w w':=by
 obtain⟨R,tg,p,ag,au,M,h3,hk⟩:=h;refine (JY (n:=3) (by omega) M ⟨rfl,fun j h _=>by cases h⟩ (by simp) 0 3 0 ⟨#[]⟩ ⟨#[]⟩ none 0 0).mono ?_;rintro e w' ⟨he,hB,R',aC,AE,XR,M',L',h1,h2,hlen⟩;have hl:=hlen hk (fun gp pc pv c4 cp=>Q0 M (by omega) c4 cp);have wm:AE.length=1:=hl;exact⟨he,⟨R',aC,p,0,ag,au,[],AE,XR,0,0,0,M',L',by omega,by omega,by omega,by omega,by omega,by omega⟩,hB⟩
theorem aa2 {w:World}{B0 W s r n:Nat}(hn:n<=1048600)(G:dP B0 w W s r n)(o:Step)(ho:o.Fits w)(hk:1<=o.kind/\o.kind<=7):
  Calls Tryz.prog 20 #[.pointer (some ⟨W,0,none⟩),o.val] w fun e w'=>e=.returned (.bool true)/\dP B0 w' W s r (n+1)/\Below B0 w w':=by
 by_cases h5:o.kind<=5
 ·exact U6 hn G o ho ⟨hk.1,h5⟩
 ·by_cases h6:o.kind=6
  ·obtain⟨kind,a1,a2,a3,S,T,la,lm,lc,es⟩:=o
   simp only at h6;subst h6;exact MQ hn G a1 a2 a3 S T la lm lc
  ·have h7:o.kind=7:=by omega
   obtain⟨kind,a1,a2,a3,S,T,la,lm,lc,es⟩:=o;simp only at h7;subst h7;exact Va hn G a1 a2 a3 S T la lm lc
theorem aa3 (w:World)(a:Option Addr)(n c:Nat)(ops:List Step)(h:xh w a n ops):
  Calls Tryz.prog 8 #[.slice a n c,.int .i64 12,.bool true] w fun e w'=>e=.returned (.bool true)/\Below w.heap.size w w':=by
 have HS:Hid (xh w a n ops):=h;have abU:=h.many;clear h;go_enter Tryz.func8,Tryz.ntmps8;go_wp2_with fail;refine Calls.mono (aa1 w) ?_;rintro _ w1 ⟨W,s,r,rfl,g,hb⟩;have G0:Hid (MS w.heap.size w1 W s r):=g;clear g;go_wp2_with fail;refine Calls.mono (JZ G0.out) ?_;rintro _ w2 ⟨rfl,g,hb2⟩;have G:Hid (dP w.heap.size w2 W s r 3):=g;have Vk:Below w.heap.size w w2:=hb.trans hb2;clear g hb hb2 G0;go_wp2
 go_loopw [8,9] (fun ok i wr=>∃k:Nat,k<=n/\ok=.bool true/\i=.int .i64 (k:Int)/\Hid (dP w.heap.size wr W s r (3+k))/\Below w.heap.size w wr) (fun _ i _=>n-(intOf i).toNat)
 case atStart=>exact⟨0,dG _,rfl,rfl,G.out,Vk⟩
 case round=>
  obtain⟨k,hk,rfl,rfl,GR,hbr⟩:=hrel;clear Vk G;have hwr:=hbr.size;have hWr:=(dP.cells GR.out).2.1;by_cases hlt:k<n
  ·have X3:k<ops.length:=by rw[HS.out.len];exact hlt
   obtain⟨b,off,ha,hbl,x0,x1,x2,x3,x4,x5,x6⟩:=HS.out.cells k X3;have HF:Hid (ops[k].Fits w):=HS.out.fits _ (jk X3);obtain⟨o,ho⟩:∃o,o=ops[k]:=⟨_,rfl⟩;rw[<-ho] at x0 x1 x2 x3 x4 x5 x6 HF;obtain⟨kind,a1,a2,a3,S,T,la,lm,lc,es⟩:=o;simp only at x0 x1 x2 x3 x4 x5 x6;have y0:=(hbr.cell (p:=⟨b,off+k*7,none⟩) hbl).trans x0;have y1:=(hbr.cell (p:=⟨b,off+k*7+1,none⟩) hbl).trans x1;have y2:=(hbr.cell (p:=⟨b,off+k*7+2,none⟩) hbl).trans x2;have y3:=(hbr.cell (p:=⟨b,off+k*7+3,none⟩) hbl).trans x3;have y4:=(hbr.cell (p:=⟨b,off+k*7+4,none⟩) hbl).trans x4;have y5:=(hbr.cell (p:=⟨b,off+k*7+5,none⟩) hbl).trans x5;have y6:=(hbr.cell (p:=⟨b,off+k*7+6,none⟩) hbl).trans x6;have acz:b<wr.heap.size:=by omega
   have gP:(k:Int)<(n:Int):=by omega
   have HG:Hid (∀B,dP w.heap.size (wr.alloc B) W s r (3+k)):=fun B=>dP.below GR.out ((Below.refl _ _).alloc (bA _) B);have HST:Hid (∀B,Calls Tryz.prog 24 #[.pointer (some ⟨W,8,none⟩)] (wr.alloc B) fun e w'=>e=.returned (.bool true)/\Below (wr.alloc B).heap.size (wr.alloc B) w'):=fun B=>CH (by omega) (HG.out B);have HZ:Hid (∀B,w.heap.size<=(wr.alloc B).heap.size):=fun B=>by simp;omega
   subst ha;clear x0 x1 x2 x3 x4 x5 x6 ho;by_cases lV:1<=kind/\kind<=12
   ·obtain⟨h1,h5⟩:=lV
    have t1:decide (kind<1)=false:=dY (by omega);have t2:decide (12<kind)=false:=dY (by omega);have t3:(kind == 21)=false:=by simp;omega
    by_cases h7:kind<=7
    ·have J7:Hid (∀B,Calls Tryz.prog 20 #[.pointer (some ⟨W,0,none⟩),.agg #[.int .i64 kind,.int .i64 a1,.int .i64 a2,.int .i64 a3,.string S,.string T,.slice la lm lc]] (wr.alloc B) fun e w'=>e=.returned (.bool true)/\dP w.heap.size w' W s r (3+k+1)/\Below w.heap.size (wr.alloc B) w'):=fun B=>
      aa2 (by omega) (HG.out B) ⟨kind,a1,a2,a3,S,T,la,lm,lc,es⟩ (HF.out.below (hbr.alloc hwr B)) ⟨h1,h7⟩
     go_wp2_with (first
      | (go_at_call 20;refine Calls.mono (J7.out _) ?_;rintro _ w4 ⟨rfl,g4,hb4⟩;have G4:Hid (dP w.heap.size w4 W s r (3+k+1)):=g4;have ajj:=(dP.cells g4).2.1;have uD:=(dP.cells g4).2.2;have Vb:Below w.heap.size w w4:=(hbr.alloc hwr _).trans hb4;clear g4 hb4;have aa4:Hid _:=CH (by omega) G4.out)
      | (go_at_call 24;refine Calls.mono aa4.out ?_;rintro _ w5 ⟨rfl,j3⟩))
     go_roundw
     case rel=>exact⟨k+1,by omega,rfl,by go_num,dP.below G4.out j3,Vb.trans (j3.mono uD)⟩
     case measure=>simp[intOf];omega
    ·have t4:decide (kind<=7)=false:=dY h7
     have t5:7<kind:=(by omega);have J7:Hid (∀B,Calls Tryz.prog 23 #[.pointer (some ⟨W,0,none⟩),.agg #[.int .i64 kind,.int .i64 a1,.int .i64 a2,.int .i64 a3,.string S,.string T,.slice la lm lc]] (wr.alloc B) fun e w'=>e=.returned (.bool true)/\dP w.heap.size w' W s r (3+k+1)/\Below w.heap.size (wr.alloc B) w'):=fun B=>
      XQ (by omega) (HG.out B) kind a1 a2 a3 S T la lm lc HF.out.sS HF.out.sT HF.out.acE ⟨by omega,h5⟩
     go_wp2_with (first
      | (go_at_call 23;refine Calls.mono (J7.out _) ?_;rintro _ w4 ⟨rfl,g4,hb4⟩;have G4:Hid (dP w.heap.size w4 W s r (3+k+1)):=g4;have ajj:=(dP.cells g4).2.1;have uD:=(dP.cells g4).2.2;have Vb:Below w.heap.size w w4:=(hbr.alloc hwr _).trans hb4;clear g4 hb4;have aa4:Hid _:=CH (by omega) G4.out)
      | (go_at_call 24;refine Calls.mono aa4.out ?_;rintro _ w5 ⟨rfl,j3⟩))
     go_roundw
     case rel=>exact⟨k+1,by omega,rfl,by go_num,dP.below G4.out j3,Vb.trans (j3.mono uD)⟩
     case measure=>simp[intOf];omega
   ·by_cases h1:kind<1
    ·go_wp2_with (go_at_call 24;refine Calls.mono (HST.out _) ?_;rintro _ w5 ⟨rfl,j3⟩)
     go_roundw
     case rel=>exact⟨k+1,by omega,rfl,by go_num,dP.mono (dP.below (HG.out _) j3) (by omega),(hbr.alloc hwr _).trans (j3.mono (HZ.out _))⟩
     case measure=>simp[intOf];omega
    ·have t1:decide (kind<1)=false:=dY h1
     have t2:12<kind:=(by omega);go_wp2_with (go_at_call 24;refine Calls.mono (HST.out _) ?_;rintro _ w5 ⟨rfl,j3⟩);go_roundw
     case rel=>exact⟨k+1,by omega,rfl,by go_num,dP.mono (dP.below (HG.out _) j3) (by omega),(hbr.alloc hwr _).trans (j3.mono (HZ.out _))⟩
     case measure=>simp[intOf];omega
  ·have DR:decide ((k:Int)<(n:Int))=false:=dY (by omega)
   go_wp2;go_ret;exact⟨rfl,hbr⟩
theorem MT (w:World)(a:Option Addr)(n c:Nat)(ops:List Step)(h:xh w a n ops):
  Calls Tryz.prog 3 #[.slice a n c] w fun e w'=>e=.returned (.bool true)/\Below w.heap.size w w':=by
 have hp:=aa3 w a n c ops h;clear h;go_enter Tryz.func3,Tryz.ntmps3;go_wp2_with fail;refine Calls.mono hp ?_;rintro _ w1 ⟨rfl,hb⟩;go_wp2;go_ret;exact⟨rfl,hb⟩
end Go.Proofs.YtlgidcmmgohagaaGreat
namespace Go.Proofs.YtlgidcmmgohagaaGreat
open Go
theorem MU:(Rows.treesUptoRow.inPlace == Tryz.pinned.checked.prog.inPlace 3)=true:=by kernel_rfl
theorem Q1:(Rows.treesUptoRow.unfollowed == Tryz.pinned.checked.prog.unfollowed 3)=true:=by kernel_rfl
theorem MV:(Rows.treesUptoRow.recurses == Tryz.pinned.checked.prog.recurses 3)=true:=by kernel_rfl
theorem MW:(Rows.treesUptoRow.named == Tryz.pinned.checked.prog.varsNamed 3)=true:=by kernel_rfl
theorem MX:joinedFacts Tryz.pinned.checked.prog 3 Tryz.f3 (Rows.OpenSpec.upto Rows.treesSpec).bare Rows.treesUptoRow=true:=by
 unfold joinedFacts;rw[MU,Q1,MV,MW]
 kernel_rfl
end Go.Proofs.YtlgidcmmgohagaaGreat
