/- What is proved here: 'plays'. -/
import Derived.Test.YtlgidcmmgohagaaGreatFileM34
import Derived.Test.YtlgidcmmgohagaaGreatFileM38
import Derived.Test.YtlgidcmmgohagaaGreatRows
import Derived.Test.YtlgidcmmgohagaaGreatChecked
import Derived.JoinedCond
namespace Go.Proofs.YtlgidcmmgohagaaGreat
open Go.RowKit Go.Sort Go.Shelf
set_option linter.unusedVariables false
set_option maxRecDepth 100000
set_option maxHeartbeats 16000000
theorem plays18 (w:World)(a:Option Addr)(n c:Nat)(ops:List Step)(h:Scripted w a n ops):
  Calls Tryz.prog 8 #[.slice a n c,.int .i64 18,.bool true] w fun e w'=>e=.returned (.bool true)/\Below w.heap.size w w':=by
 have HS:Hid (Scripted w a n ops):=h;have hmany:=h.many;clear h;go_enter Tryz.func8,Tryz.ntmps8;go_wp2_with fail;refine Calls.mono (begin4 w) ?_;rintro _ w1 ⟨W,s,r,rfl,g,hb⟩;have G0:Hid (Start4 w.heap.size w1 W s r):=g;clear g;go_wp2_with fail;refine Calls.mono (first_check G0.out) ?_;rintro _ w2 ⟨rfl,g,hb2⟩;have G:Hid (Game4 w.heap.size w2 W s r 3):=g;have hbb:Below w.heap.size w w2:=hb.trans hb2;clear g hb hb2 G0;go_wp2
 go_loopw [8,9] (fun ok i wr=>∃k:Nat,k<=n/\ok=.bool true/\i=.int .i64 (k:Int)/\Hid (Game4 w.heap.size wr W s r (3+k))/\Below w.heap.size w wr) (fun _ i _=>n-(intOf i).toNat)
 case atStart=>exact⟨0,zzF _,rfl,rfl,G.out,hbb⟩
 case round=>
  obtain⟨k,hk,rfl,rfl,GR,hbr⟩:=hrel;clear hbb G;have hwr:=hbr.size;have hWr:=(Game4.cells GR.out).2.1;by_cases hlt:k<n
  ·have hko:k<ops.length:=by rw[HS.out.len];exact hlt
   obtain⟨b,off,ha,hbl,x0,x1,x2,x3,x4,x5,x6⟩:=HS.out.cells k hko;have HF:Hid (ops[k].Fits w):=HS.out.fits _ (zzJ hko);obtain⟨o,ho⟩:∃o,o=ops[k]:=⟨_,rfl⟩;rw[<-ho] at x0 x1 x2 x3 x4 x5 x6 HF;obtain⟨kind,a1,a2,a3,S,T,la,lm,lc,es⟩:=o;simp only at x0 x1 x2 x3 x4 x5 x6;have y0:=(hbr.cell (p:=⟨b,off+k*7,none⟩) hbl).trans x0;have y1:=(hbr.cell (p:=⟨b,off+k*7+1,none⟩) hbl).trans x1;have y2:=(hbr.cell (p:=⟨b,off+k*7+2,none⟩) hbl).trans x2;have y3:=(hbr.cell (p:=⟨b,off+k*7+3,none⟩) hbl).trans x3;have y4:=(hbr.cell (p:=⟨b,off+k*7+4,none⟩) hbl).trans x4;have y5:=(hbr.cell (p:=⟨b,off+k*7+5,none⟩) hbl).trans x5;have y6:=(hbr.cell (p:=⟨b,off+k*7+6,none⟩) hbl).trans x6;have hblr:b<wr.heap.size:=by omega
   have hkn:(k:Int)<(n:Int):=by omega
   have HG:Hid (∀B,Game4 w.heap.size (wr.alloc B) W s r (3+k)):=fun B=>Game4.below GR.out ((Below.refl _ _).alloc (zzC _) B);have HST:Hid (∀B,Calls Tryz.prog 24 #[.pointer (some ⟨W,8,none⟩)] (wr.alloc B) fun e w'=>e=.returned (.bool true)/\Below (wr.alloc B).heap.size (wr.alloc B) w'):=fun B=>g4_still (by omega) (HG.out B);have HZ:Hid (∀B,w.heap.size<=(wr.alloc B).heap.size):=fun B=>by simp;omega
   subst ha;clear x0 x1 x2 x3 x4 x5 x6 ho;by_cases hin:1<=kind/\kind<=18
   ·obtain⟨h1,h5⟩:=hin
    have t1:decide (kind<1)=false:=zzE (by omega);have t2:decide (18<kind)=false:=zzE (by omega);have t3:(kind == 21)=false:=by simp;omega
    by_cases h7:kind<=7
    ·have HPL:Hid (∀B,Calls Tryz.prog 20 #[.pointer (some ⟨W,0,none⟩),.agg #[.int .i64 kind,.int .i64 a1,.int .i64 a2,.int .i64 a3,.string S,.string T,.slice la lm lc]] (wr.alloc B) fun e w'=>e=.returned (.bool true)/\Game4 w.heap.size w' W s r (3+k+1)/\Below w.heap.size (wr.alloc B) w'):=fun B=>
      g4_low (by omega) (HG.out B) ⟨kind,a1,a2,a3,S,T,la,lm,lc,es⟩ (HF.out.below (hbr.alloc hwr B)) ⟨h1,h7⟩
     go_wp2_with (first
      | (go_at_call 20;refine Calls.mono (HPL.out _) ?_;rintro _ w4 ⟨rfl,g4,hb4⟩;have G4:Hid (Game4 w.heap.size w4 W s r (3+k+1)):=g4;have hWr4:=(Game4.cells g4).2.1;have hz4:=(Game4.cells g4).2.2;have hbw4:Below w.heap.size w w4:=(hbr.alloc hwr _).trans hb4;clear g4 hb4;have HST4:Hid _:=g4_still (by omega) G4.out)
      | (go_at_call 24;refine Calls.mono HST4.out ?_;rintro _ w5 ⟨rfl,hb5⟩))
     go_roundw
     case rel=>exact⟨k+1,by omega,rfl,by go_num,Game4.below G4.out hb5,hbw4.trans (hb5.mono hz4)⟩
     case measure=>simp[intOf];omega
    ·have t4:decide (kind<=7)=false:=zzE h7
     have t5:7<kind:=(by omega);have HPL:Hid (∀B,Calls Tryz.prog 23 #[.pointer (some ⟨W,0,none⟩),.agg #[.int .i64 kind,.int .i64 a1,.int .i64 a2,.int .i64 a3,.string S,.string T,.slice la lm lc]] (wr.alloc B) fun e w'=>e=.returned (.bool true)/\Game4 w.heap.size w' W s r (3+k+1)/\Below w.heap.size (wr.alloc B) w'):=fun B=>
      g4_work18 (by omega) (HG.out B) kind a1 a2 a3 S T la lm lc HF.out.sS HF.out.sT HF.out.at64 HF.out.an64 ⟨by omega,h5⟩
     go_wp2_with (first
      | (go_at_call 23;refine Calls.mono (HPL.out _) ?_;rintro _ w4 ⟨rfl,g4,hb4⟩;have G4:Hid (Game4 w.heap.size w4 W s r (3+k+1)):=g4;have hWr4:=(Game4.cells g4).2.1;have hz4:=(Game4.cells g4).2.2;have hbw4:Below w.heap.size w w4:=(hbr.alloc hwr _).trans hb4;clear g4 hb4;have HST4:Hid _:=g4_still (by omega) G4.out)
      | (go_at_call 24;refine Calls.mono HST4.out ?_;rintro _ w5 ⟨rfl,hb5⟩))
     go_roundw
     case rel=>exact⟨k+1,by omega,rfl,by go_num,Game4.below G4.out hb5,hbw4.trans (hb5.mono hz4)⟩
     case measure=>simp[intOf];omega
   ·by_cases h1:kind<1
    ·go_wp2_with (go_at_call 24;refine Calls.mono (HST.out _) ?_;rintro _ w5 ⟨rfl,hb5⟩)
     go_roundw
     case rel=>exact⟨k+1,by omega,rfl,by go_num,Game4.mono (Game4.below (HG.out _) hb5) (by omega),(hbr.alloc hwr _).trans (hb5.mono (HZ.out _))⟩
     case measure=>simp[intOf];omega
    ·have t1:decide (kind<1)=false:=zzE h1
     have t2:18<kind:=(by omega);go_wp2_with (go_at_call 24;refine Calls.mono (HST.out _) ?_;rintro _ w5 ⟨rfl,hb5⟩);go_roundw
     case rel=>exact⟨k+1,by omega,rfl,by go_num,Game4.mono (Game4.below (HG.out _) hb5) (by omega),(hbr.alloc hwr _).trans (hb5.mono (HZ.out _))⟩
     case measure=>simp[intOf];omega
  ·have hnl:decide ((k:Int)<(n:Int))=false:=zzE (by omega)
   go_wp2;go_ret;exact⟨rfl,hbr⟩
theorem files_walk (w:World)(a:Option Addr)(n c:Nat)(ops:List Step)(h:Scripted w a n ops):
  Calls Tryz.prog 4 #[.slice a n c] w fun e w'=>e=.returned (.bool true)/\Below w.heap.size w w':=by
 have hp:=plays18 w a n c ops h;clear h;go_enter Tryz.func4,Tryz.ntmps4;go_wp2_with fail;refine Calls.mono hp ?_;rintro _ w1 ⟨rfl,hb⟩;go_wp2;go_ret;exact⟨rfl,hb⟩
end Go.Proofs.YtlgidcmmgohagaaGreat
namespace Go.Proofs.YtlgidcmmgohagaaGreat
open Go
theorem filesPlace:(Rows.filesUptoRow.inPlace == Tryz.pinned.checked.prog.inPlace 4)=true:=by kernel_rfl
theorem filesOpen:(Rows.filesUptoRow.unfollowed == Tryz.pinned.checked.prog.unfollowed 4)=true:=by kernel_rfl
theorem filesAgain:(Rows.filesUptoRow.recurses == Tryz.pinned.checked.prog.recurses 4)=true:=by kernel_rfl
theorem filesNames:(Rows.filesUptoRow.named == Tryz.pinned.checked.prog.varsNamed 4)=true:=by kernel_rfl
theorem filesFacts:joinedFacts Tryz.pinned.checked.prog 4 Tryz.f4 (Rows.OpenSpec.upto Rows.filesSpec).bare Rows.filesUptoRow=true:=by
 unfold joinedFacts;rw[filesPlace,filesOpen,filesAgain,filesNames]
 kernel_rfl
end Go.Proofs.YtlgidcmmgohagaaGreat
