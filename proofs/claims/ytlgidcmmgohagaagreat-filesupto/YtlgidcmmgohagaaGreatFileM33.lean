/- What is proved here: 'plays'. -/
import Derived.Test.YtlgidcmmgohagaaGreatFileM29
import Derived.Test.YtlgidcmmgohagaaGreatFileM32
import Derived.Test.YtlgidcmmgohagaaGreatRows
import Derived.Test.YtlgidcmmgohagaaGreatChecked
import Derived.JoinedCond
namespace Go.Proofs.YtlgidcmmgohagaaGreat
open Go.RowKit Go.Sort Go.Shelf
set_option linter.unusedVariables false
set_option maxRecDepth 100000
set_option maxHeartbeats 16000000
theorem YO(w:World)(a:fD)(n c:Nat)(ops:List Step)(h:xe w a n ops):
  gc 8 #[.slice a n c,eJ 18,.bool true] w (pB (.bool true) w):=by
 have G:Hid (xe w a n ops):=h;have ae:=h.many;clear h;go_enter Tryz.func8,Tryz.ntmps8;go_wp2_with fail;refine io (bwd w) ?_;rintro _ Z ⟨W,s,r,rfl,g,L⟩;have M:Hid (NA w.heap.size Z W s r):=g;clear g;go_wp2_with fail;refine io (Kq M.out) ?_;rintro _ N ⟨rfl,g,O⟩;have P:Hid (fJ w.heap.size N W s r 3):=g;have Q:ik w N:=L.trans O;clear g L O M;go_wp2
 go_loopw [8,9] (fun ok i wr=>∃k:Nat,k<=n/\ok=.bool true/\i=.int .i64 (k:Int)/\Hid (fJ w.heap.size wr W s r (3+k))/\ik w wr) (fun _ i _=>n-(intOf i).toNat)
 case atStart=>exact⟨0,tk _,rfl,rfl,P.out,Q⟩
 case round=>
  obtain⟨k,hk,rfl,rfl,R,d⟩:=hrel;clear Q P;have q:=d.size;have af:=(fJ.cells R.out).2.1;by_cases aa:k<n
  ·have U:k<ops.length:=by rw[G.out.len];exact aa
   obtain⟨b,off,ab,l,y,z,A,C,D,E,F⟩:=G.out.cells k U;have m:Hid (ops[k].Fits w):=G.out.fits _ (kj U);obtain⟨o,ho⟩:∃o,o=ops[k]:=⟨_,rfl⟩;rw[<-ho]at y z A C D E F m;obtain⟨kind,a1,a2,a3,S,T,la,lm,lc,es⟩:=o;simp only at y z A C D E F;have ag:=(d.cell (p:=(eI b (off+k*7))) l).trans y;have ah:=(d.cell (p:=(eI b (off+k*7+1))) l).trans z;have ai:=(d.cell (p:=(eI b (off+k*7+2))) l).trans A;have aj:=(d.cell (p:=(eI b (off+k*7+3))) l).trans C;have ak:=(d.cell (p:=(eI b (off+k*7+4))) l).trans D;have al:=(d.cell (p:=(eI b (off+k*7+5))) l).trans E;have am:=(d.cell (p:=(eI b (off+k*7+6))) l).trans F;have an:b<wr.heap.size:=by omega
   have ao:(k:Int)<(n:Int):=by omega
   have t:Hid (∀B,fJ w.heap.size (wr.alloc B) W s r (3+k)):=fun B=>fJ.below R.out ((lh _ _).alloc (kx _) B);have V:Hid (∀B,gc 24 #[.pointer (some (eI W 8))] (wr.alloc B) fun e w'=>e=.returned (.bool true)/\Below (wr.alloc B).heap.size (wr.alloc B) w'):=fun B=>CE (by omega) (t.out B);have X:Hid (∀B,w.heap.size<=(wr.alloc B).heap.size):=fun B=>by simp;omega
   subst ab;clear y z A C D E F ho;by_cases mG:1<=kind/\kind<=18
   ·obtain⟨h1,ac⟩:=mG
    have t1:decide (kind<1)=false:=rk (by omega);have t2:decide (18<kind)=false:=rk (by omega);have t3:(kind==21)=false:=by simp;omega
    by_cases Y:kind<=7
    ·have H:Hid (∀B,gc 20 #[hh W,.agg #[eJ kind,eJ a1,eJ a2,eJ a3,.string S,.string T,.slice la lm lc]] (wr.alloc B) fun e w'=>e=.returned (.bool true)/\fJ w.heap.size w' W s r (3+k+1)/\Below w.heap.size (wr.alloc B) w'):=fun B=>
      bws (by omega) (t.out B) ⟨kind,a1,a2,a3,S,T,la,lm,lc,es⟩ (m.out.below (d.alloc q B)) ⟨h1,Y⟩
     go_wp2_with(first
      |(go_at_call 20;refine io (H.out _) ?_;rintro _ u ⟨rfl,j,v⟩;have x:Hid (fJ w.heap.size u W s r (3+k+1)):=j;have ad:=(fJ.cells j).2.1;have I:=(fJ.cells j).2.2;have J:ik w u:=(d.alloc q _).trans v;clear j v;have K:Hid _:=CE (by omega) x.out)
      |(go_at_call 24;refine io K.out ?_;rintro _ w5 ⟨rfl,f⟩))
     go_roundw
     case rel=>exact⟨k+1,by omega,rfl,by go_num,fJ.below x.out f,J.trans (f.mono I)⟩
     case measure=>simp[intOf];omega
    ·have t4:decide (kind<=7)=false:=rk Y
     have t5:7<kind:=(by omega);have H:Hid (∀B,gc 23 #[hh W,.agg #[eJ kind,eJ a1,eJ a2,eJ a3,.string S,.string T,.slice la lm lc]] (wr.alloc B) fun e w'=>e=.returned (.bool true)/\fJ w.heap.size w' W s r (3+k+1)/\Below w.heap.size (wr.alloc B) w'):=fun B=>
      SF (by omega) (t.out B) kind a1 a2 a3 S T la lm lc m.out.sS m.out.sT m.out.aad m.out.aae ⟨by omega,ac⟩
     go_wp2_with(first
      |(go_at_call 23;refine io (H.out _) ?_;rintro _ u ⟨rfl,j,v⟩;have x:Hid (fJ w.heap.size u W s r (3+k+1)):=j;have ad:=(fJ.cells j).2.1;have I:=(fJ.cells j).2.2;have J:ik w u:=(d.alloc q _).trans v;clear j v;have K:Hid _:=CE (by omega) x.out)
      |(go_at_call 24;refine io K.out ?_;rintro _ w5 ⟨rfl,f⟩))
     go_roundw
     case rel=>exact⟨k+1,by omega,rfl,by go_num,fJ.below x.out f,J.trans (f.mono I)⟩
     case measure=>simp[intOf];omega
   ·by_cases h1:kind<1
    ·go_wp2_with(go_at_call 24;refine io (V.out _) ?_;rintro _ w5 ⟨rfl,f⟩)
     go_roundw
     case rel=>exact⟨k+1,by omega,rfl,by go_num,fJ.mono (fJ.below (t.out _) f) (by omega),(d.alloc q _).trans (f.mono (X.out _))⟩
     case measure=>simp[intOf];omega
    ·have t1:decide (kind<1)=false:=rk h1
     have t2:18<kind:=(by omega);go_wp2_with(go_at_call 24;refine io (V.out _) ?_;rintro _ w5 ⟨rfl,f⟩);go_roundw
     case rel=>exact⟨k+1,by omega,rfl,by go_num,fJ.mono (fJ.below (t.out _) f) (by omega),(d.alloc q _).trans (f.mono (X.out _))⟩
     case measure=>simp[intOf];omega
  ·have ap:decide ((k:Int)<(n:Int))=false:=rk (by omega)
   go_wp2;go_ret;exact⟨rfl,d⟩
theorem NR(w:World)(a:fD)(n c:Nat)(ops:List Step)(h:xe w a n ops):
  gc 4 #[.slice a n c] w (pB (.bool true) w):=by
 have hp:=YO w a n c ops h;clear h;go_enter Tryz.func4,Tryz.ntmps4;go_wp2_with fail;refine io hp ?_;rintro _ d ⟨rfl,b⟩;go_wp2;go_ret;exact⟨rfl,b⟩
end Go.Proofs.YtlgidcmmgohagaaGreat
namespace Go.Proofs.YtlgidcmmgohagaaGreat
open Go
theorem NS:(Rows.filesUptoRow.inPlace==Tryz.pinned.checked.prog.inPlace 4)=true:=by kernel_rfl
theorem SG:(Rows.filesUptoRow.unfollowed==Tryz.pinned.checked.prog.unfollowed 4)=true:=by kernel_rfl
theorem NT:(Rows.filesUptoRow.recurses==Tryz.pinned.checked.prog.recurses 4)=true:=by kernel_rfl
theorem NU:(Rows.filesUptoRow.named==Tryz.pinned.checked.prog.varsNamed 4)=true:=by kernel_rfl
theorem NV:joinedFacts Tryz.pinned.checked.prog 4 Tryz.f4 (Rows.OpenSpec.upto Rows.filesSpec).bare Rows.filesUptoRow=true:=by
 unfold joinedFacts;rw[NS,SG,NT,NU]
 kernel_rfl
end Go.Proofs.YtlgidcmmgohagaaGreat
