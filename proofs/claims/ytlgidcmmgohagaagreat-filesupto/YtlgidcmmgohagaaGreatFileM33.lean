/- What is proved here: 'plays'. -/
import Derived.Test.YtlgidcmmgohagaaGreatFileM29
import Derived.Test.YtlgidcmmgohagaaGreatFileM32
import Derived.Test.YtlgidcmmgohagaaGreatRows
import Derived.Test.YtlgidcmmgohagaaGreatChecked
import Derived.JoinedCond
namespace Go.Proofs.YtlgidcmmgohagaaGreat
open Go.RowKit Go.Sort Go.Shelf
set_option linter.unusedVariables false
set_option maxRecDepth 100000
set_option maxHeartbeats 16000000
theorem Sg(w:World)(a:e5)(n c:Nat)(ops:List Step)(h:ue w a n ops):
  eK 8 #[.slice a n c,ed 18,.bool true] w (ml (.bool true) w):=by
 have G:Hid (ue w a n ops):=h;have ae:=h.many;clear h;go_enter Tryz.func8,Tryz.ntmps8;go_wp2_with fail;refine g7 (Ts w) ?_;rintro _ Z ⟨W,s,r,rfl,g,L⟩;have M:Hid (IY w.heap.size Z W s r):=g;clear g;go_wp2_with fail;refine g7 (FP M.out) ?_;rintro _ N ⟨rfl,g,O⟩;have P:Hid (fh w.heap.size N W s r 3):=g;have Q:gS w N:=L.trans O;clear g L O M;go_wp2
 go_loopw [8,9] (fun ok i wr=>∃k:Nat,k<=n/\ok=.bool true/\i=.int .i64 (k:Int)/\Hid (fh w.heap.size wr W s r (3+k))/\gS w wr) (fun _ i _=>n-(intOf i).toNat)
 case atStart=>exact⟨0,oY _,rfl,rfl,P.out,Q⟩
 case round=>
  obtain⟨k,hk,rfl,rfl,R,d⟩:=hrel;clear Q P;have q:=d.size;have af:=(fh.cells R.out).2.1;by_cases aa:k<n
  ·have U:k<ops.length:=by rw[G.out.len];exact aa
   obtain⟨b,off,ab,l,y,z,A,C,D,E,F⟩:=G.out.cells k U;have m:Hid (ops[k].Fits w):=G.out.fits _ (iF U);obtain⟨o,ho⟩:∃o,o=ops[k]:=⟨_,rfl⟩;rw[<-ho]at y z A C D E F m;obtain⟨kind,a1,a2,a3,S,T,la,lm,lc,es⟩:=o;simp only at y z A C D E F;have ag:=(d.cell (p:=(eb b (off+k*7))) l).trans y;have ah:=(d.cell (p:=(eb b (off+k*7+1))) l).trans z;have ai:=(d.cell (p:=(eb b (off+k*7+2))) l).trans A;have aj:=(d.cell (p:=(eb b (off+k*7+3))) l).trans C;have ak:=(d.cell (p:=(eb b (off+k*7+4))) l).trans D;have al:=(d.cell (p:=(eb b (off+k*7+5))) l).trans E;have am:=(d.cell (p:=(eb b (off+k*7+6))) l).trans F;have an:b<wr.heap.size:=by omega
   have ao:(k:Int)<(n:Int):=by omega
   have t:Hid (∀B,fh w.heap.size (wr.alloc B) W s r (3+k)):=fun B=>fh.below R.out ((i7 _ _).alloc (io _) B);have V:Hid (∀B,eK 24 #[.pointer (some (eb W 8))] (wr.alloc B) fun e w'=>e=.returned (.bool true)/\Below (wr.alloc B).heap.size (wr.alloc B) w'):=fun B=>zG (by omega) (t.out B);have X:Hid (∀B,w.heap.size<=(wr.alloc B).heap.size):=fun B=>by simp;omega
   subst ab;clear y z A C D E F ho;by_cases jY:1<=kind/\kind<=18
   ·obtain⟨h1,ac⟩:=jY
    have t1:decide (kind<1)=false:=m6 (by omega);have t2:decide (18<kind)=false:=m6 (by omega);have t3:(kind==21)=false:=by simp;omega
    by_cases Y:kind<=7
    ·have H:Hid (∀B,eK 20 #[fj W,.agg #[ed kind,ed a1,ed a2,ed a3,.string S,.string T,.slice la lm lc]] (wr.alloc B) fun e w'=>e=.returned (.bool true)/\fh w.heap.size w' W s r (3+k+1)/\Below w.heap.size (wr.alloc B) w'):=fun B=>
      Tt (by omega) (t.out B) ⟨kind,a1,a2,a3,S,T,la,lm,lc,es⟩ (m.out.below (d.alloc q B)) ⟨h1,Y⟩
     go_wp2_with(first
      |(go_at_call 20;refine g7 (H.out _) ?_;rintro _ u ⟨rfl,j,v⟩;have x:Hid (fh w.heap.size u W s r (3+k+1)):=j;have ad:=(fh.cells j).2.1;have I:=(fh.cells j).2.2;have J:gS w u:=(d.alloc q _).trans v;clear j v;have K:Hid _:=zG (by omega) x.out)
      |(go_at_call 24;refine g7 K.out ?_;rintro _ w5 ⟨rfl,f⟩))
     go_roundw
     case rel=>exact⟨k+1,by omega,rfl,by go_num,fh.below x.out f,J.trans (f.mono I)⟩
     case measure=>simp[intOf];omega
    ·have t4:decide (kind<=7)=false:=m6 Y
     have t5:7<kind:=(by omega);have H:Hid (∀B,eK 23 #[fj W,.agg #[ed kind,ed a1,ed a2,ed a3,.string S,.string T,.slice la lm lc]] (wr.alloc B) fun e w'=>e=.returned (.bool true)/\fh w.heap.size w' W s r (3+k+1)/\Below w.heap.size (wr.alloc B) w'):=fun B=>
      MP (by omega) (t.out B) kind a1 a2 a3 S T la lm lc m.out.sS m.out.sT m.out.TU m.out.TV ⟨by omega,ac⟩
     go_wp2_with(first
      |(go_at_call 23;refine g7 (H.out _) ?_;rintro _ u ⟨rfl,j,v⟩;have x:Hid (fh w.heap.size u W s r (3+k+1)):=j;have ad:=(fh.cells j).2.1;have I:=(fh.cells j).2.2;have J:gS w u:=(d.alloc q _).trans v;clear j v;have K:Hid _:=zG (by omega) x.out)
      |(go_at_call 24;refine g7 K.out ?_;rintro _ w5 ⟨rfl,f⟩))
     go_roundw
     case rel=>exact⟨k+1,by omega,rfl,by go_num,fh.below x.out f,J.trans (f.mono I)⟩
     case measure=>simp[intOf];omega
   ·by_cases h1:kind<1
    ·go_wp2_with(go_at_call 24;refine g7 (V.out _) ?_;rintro _ w5 ⟨rfl,f⟩)
     go_roundw
     case rel=>exact⟨k+1,by omega,rfl,by go_num,fh.mono (fh.below (t.out _) f) (by omega),(d.alloc q _).trans (f.mono (X.out _))⟩
     case measure=>simp[intOf];omega
    ·have t1:decide (kind<1)=false:=m6 h1
     have t2:18<kind:=(by omega);go_wp2_with(go_at_call 24;refine g7 (V.out _) ?_;rintro _ w5 ⟨rfl,f⟩);go_roundw
     case rel=>exact⟨k+1,by omega,rfl,by go_num,fh.mono (fh.below (t.out _) f) (by omega),(d.alloc q _).trans (f.mono (X.out _))⟩
     case measure=>simp[intOf];omega
  ·have ap:decide ((k:Int)<(n:Int))=false:=m6 (by omega)
   go_wp2;go_ret;exact⟨rfl,d⟩
theorem Je(w:World)(a:e5)(n c:Nat)(ops:List Step)(h:ue w a n ops):
  eK 4 #[.slice a n c] w (ml (.bool true) w):=by
 have hp:=Sg w a n c ops h;clear h;go_enter Tryz.func4,Tryz.ntmps4;go_wp2_with fail;refine g7 hp ?_;rintro _ d ⟨rfl,b⟩;go_wp2;go_ret;exact⟨rfl,b⟩
end Go.Proofs.YtlgidcmmgohagaaGreat
namespace Go.Proofs.YtlgidcmmgohagaaGreat
open Go
theorem Jf:(Rows.filesUptoRow.inPlace==Tryz.pinned.checked.prog.inPlace 4)=true:=by kernel_rfl
theorem MQ:(Rows.filesUptoRow.unfollowed==Tryz.pinned.checked.prog.unfollowed 4)=true:=by kernel_rfl
theorem Jg:(Rows.filesUptoRow.recurses==Tryz.pinned.checked.prog.recurses 4)=true:=by kernel_rfl
theorem Jh:(Rows.filesUptoRow.named==Tryz.pinned.checked.prog.varsNamed 4)=true:=by kernel_rfl
theorem Ji:joinedFacts Tryz.pinned.checked.prog 4 Tryz.f4 (Rows.OpenSpec.upto Rows.filesSpec).bare Rows.filesUptoRow=true:=by
 unfold joinedFacts;rw[Jf,MQ,Jg,Jh]
 kernel_rfl
end Go.Proofs.YtlgidcmmgohagaaGreat
