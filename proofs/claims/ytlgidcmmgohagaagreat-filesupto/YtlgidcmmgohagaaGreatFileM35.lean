/- What is proved here: the law's 'tree' at Open. -/
import Derived.Test.YtlgidcmmgohagaaGreatFileM15
import Derived.Test.YtlgidcmmgohagaaGreatFileM30
import Derived.Test.YtlgidcmmgohagaaGreatFileM18
import Derived.Test.YtlgidcmmgohagaaGreatFileM27
namespace Go.Proofs.YtlgidcmmgohagaaGreat
open Go.RowKit Go.Sort Go.Shelf Go.Proofs.Tryz
set_option linter.unusedVariables false
set_option maxRecDepth 100000
set_option maxHeartbeats 16000000
theorem tree_open (W wb Sb:Nat)(a1 a2 a3:Int)(S T:ByteArray)(la:Option Addr)(lm lc:Nat)(a er:Int)(her:(er == 14)=false)(R1 R2:World->Prop)(w W1:World)(hW1:W1=w.alloc (.cells (opV9 13 a1 a2 a3 S T la lm lc) 57))
  (h1:Calls prog 63 #[.pointer (some ⟨wb,0,none⟩),.string S,.int .i64 a2] W1 fun e w'=>e=.returned (.tuple #[.int .i64 a,.int .i64 er])/\BoxK w.heap.size W1 w'/\R1 w')
  (h2:∀w1,R1 w1->Calls prog 94 #[.pointer (some ⟨Sb,0,none⟩),.string S,.int .i64 a2] w1 fun e w'=>e=.returned (.tuple #[.int .i64 a,.int .i64 er])/\R2 w'):
  Calls prog 50 #[.pointer (some ⟨W,0,none⟩),.pointer (some ⟨wb,0,none⟩),.pointer (some ⟨Sb,0,none⟩),.agg (opV9 13 a1 a2 a3 S T la lm lc)] w fun e w'=>e=.returned (.bool true)/\R2 w':=by
 unfold opV9 at hW1 ⊢;subst hW1;have HA:=fun (b:Bool) (w':World)=>answered_any W er er b w' her
 have HN:=fun (w':World)=>num_any er w';have hee:(er == er)=true:=by simp
 have haa:(a == a)=true:=by simp
 have H1:Hid _:=h1;have H2:Hid _:=h2;clear h1 h2;go_enter func50,ntmps50;go_wp2_with fail;refine Calls.mono H1.out ?_;rintro e w2 ⟨rfl,hbx,hR1⟩;have k42:w2.cell? ⟨w.heap.size,4,none⟩=some (.string S):=(hbx.2 4).trans (by simp);have k22:w2.cell? ⟨w.heap.size,2,none⟩=some (.int .i64 a2):=(hbx.2 2).trans (by simp);have hz2:=hbx.1;clear hbx;go_wp2_with (first
  | (go_at_call 22;refine Calls.mono (HN _) ?_;rintro _ _ ⟨rfl,rfl⟩)
  | (go_at_call 53;refine Calls.mono (HA _ _) ?_;rintro _ _ ⟨rfl,rfl⟩)
  | (go_at_call 94;refine Calls.mono (H2.out _ hR1) ?_;rintro e w3 ⟨rfl,hR2⟩))
 go_ret;exact⟨rfl,hR2⟩
theorem files_read (W wb Sb:Nat)(a1 a2 a3:Int)(S T:ByteArray)(la:Option Addr)(lm lc:Nat)(a:ByteArray)(er:Int)(her:(er == 14)=false)(R1 R2:World->Prop)(w W1:World)(hW1:W1=w.alloc (.cells (opV9 14 a1 a2 a3 S T la lm lc) 57))
  (h1:Calls prog 66 #[.pointer (some ⟨wb,0,none⟩),.int .i64 a2,.int .i64 a3] W1 fun e w'=>e=.returned (.tuple #[.string a,.int .i64 er])/\BoxK w.heap.size W1 w'/\R1 w')
  (h2:∀w1,R1 w1->Calls prog 98 #[.pointer (some ⟨Sb,0,none⟩),.int .i64 a2,.int .i64 a3] w1 fun e w'=>e=.returned (.tuple #[.string a,.int .i64 er])/\R2 w'):
  Calls prog 51 #[.pointer (some ⟨W,0,none⟩),.pointer (some ⟨wb,0,none⟩),.pointer (some ⟨Sb,0,none⟩),.agg (opV9 14 a1 a2 a3 S T la lm lc)] w fun e w'=>e=.returned (.bool true)/\R2 w':=by
 unfold opV9 at hW1 ⊢;subst hW1;have HA:=fun (b:Bool) (w':World)=>answered_any W er er b w' her
 have HN:=fun (w':World)=>num_any er w';have hee:(er == er)=true:=by simp
 have haa:(a.toList == a.toList)=true:=by simp
 have H1:Hid _:=h1;have H2:Hid _:=h2;clear h1 h2;go_enter func51,ntmps51;go_wp2_with fail;refine Calls.mono H1.out ?_;rintro e w2 ⟨rfl,hbx,hR1⟩;have k32:w2.cell? ⟨w.heap.size,3,none⟩=some (.int .i64 a3):=(hbx.2 3).trans (by simp);have k22:w2.cell? ⟨w.heap.size,2,none⟩=some (.int .i64 a2):=(hbx.2 2).trans (by simp);have hz2:=hbx.1;clear hbx;go_wp2_with (first
  | (go_at_call 22;refine Calls.mono (HN _) ?_;rintro _ _ ⟨rfl,rfl⟩)
  | (go_at_call 53;refine Calls.mono (HA _ _) ?_;rintro _ _ ⟨rfl,rfl⟩)
  | (go_at_call 98;refine Calls.mono (H2.out _ hR1) ?_;rintro e w3 ⟨rfl,hR2⟩))
 go_ret;exact⟨rfl,hR2⟩
theorem files_write (W wb Sb:Nat)(a1 a2 a3:Int)(S T:ByteArray)(la:Option Addr)(lm lc:Nat)(er:Int)(her:(er == 14)=false)(R1 R2:World->Prop)(w W1:World)(hW1:W1=w.alloc (.cells (opV9 15 a1 a2 a3 S T la lm lc) 57))
  (h1:Calls prog 64 #[.pointer (some ⟨wb,0,none⟩),.int .i64 a2,.string S] W1 fun e w'=>e=.returned (.int .i64 er)/\BoxK w.heap.size W1 w'/\R1 w')
  (h2:∀w1,R1 w1->Calls prog 99 #[.pointer (some ⟨Sb,0,none⟩),.int .i64 a2,.string S] w1 fun e w'=>e=.returned (.int .i64 er)/\R2 w'):
  Calls prog 51 #[.pointer (some ⟨W,0,none⟩),.pointer (some ⟨wb,0,none⟩),.pointer (some ⟨Sb,0,none⟩),.agg (opV9 15 a1 a2 a3 S T la lm lc)] w fun e w'=>e=.returned (.bool true)/\R2 w':=by
 unfold opV9 at hW1 ⊢;subst hW1;have HA:=fun (w':World)=>answered_any W er er true w' her
 have HN:=fun (w':World)=>num_any er w';have hee:(er == er)=true:=by simp
 have H1:Hid _:=h1;have H2:Hid _:=h2;clear h1 h2;go_enter func51,ntmps51;go_wp2_with fail;refine Calls.mono H1.out ?_;rintro e w2 ⟨rfl,hbx,hR1⟩;have k42:w2.cell? ⟨w.heap.size,4,none⟩=some (.string S):=(hbx.2 4).trans (by simp);have k22:w2.cell? ⟨w.heap.size,2,none⟩=some (.int .i64 a2):=(hbx.2 2).trans (by simp);have hz2:=hbx.1;clear hbx;go_wp2_with (first
  | (go_at_call 22;refine Calls.mono (HN _) ?_;rintro _ _ ⟨rfl,rfl⟩)
  | (go_at_call 53;refine Calls.mono (HA _) ?_;rintro _ _ ⟨rfl,rfl⟩)
  | (go_at_call 99;refine Calls.mono (H2.out _ hR1) ?_;rintro e w3 ⟨rfl,hR2⟩))
 go_ret;exact⟨rfl,hR2⟩
theorem files_resize (W wb Sb:Nat)(a1 a2 a3:Int)(S T:ByteArray)(la:Option Addr)(lm lc:Nat)(er:Int)(her:(er == 14)=false)(R1 R2:World->Prop)(w W1:World)(hW1:W1=w.alloc (.cells (opV9 17 a1 a2 a3 S T la lm lc) 57))
  (h1:Calls prog 100 #[.pointer (some ⟨wb,0,none⟩),.int .i64 a2,.int .i64 a3] W1 fun e w'=>e=.returned (.int .i64 er)/\BoxK w.heap.size W1 w'/\R1 w')
  (h2:∀w1,R1 w1->Calls prog 101 #[.pointer (some ⟨Sb,0,none⟩),.int .i64 a2,.int .i64 a3] w1 fun e w'=>e=.returned (.int .i64 er)/\R2 w'):
  Calls prog 51 #[.pointer (some ⟨W,0,none⟩),.pointer (some ⟨wb,0,none⟩),.pointer (some ⟨Sb,0,none⟩),.agg (opV9 17 a1 a2 a3 S T la lm lc)] w fun e w'=>e=.returned (.bool true)/\R2 w':=by
 unfold opV9 at hW1 ⊢;subst hW1;have HA:=fun (w':World)=>answered_any W er er true w' her
 have HN:=fun (w':World)=>num_any er w';have hee:(er == er)=true:=by simp
 have H1:Hid _:=h1;have H2:Hid _:=h2;clear h1 h2;go_enter func51,ntmps51;go_wp2_with fail;refine Calls.mono H1.out ?_;rintro e w2 ⟨rfl,hbx,hR1⟩;have k32:w2.cell? ⟨w.heap.size,3,none⟩=some (.int .i64 a3):=(hbx.2 3).trans (by simp);have k22:w2.cell? ⟨w.heap.size,2,none⟩=some (.int .i64 a2):=(hbx.2 2).trans (by simp);have hz2:=hbx.1;clear hbx;go_wp2_with (first
  | (go_at_call 22;refine Calls.mono (HN _) ?_;rintro _ _ ⟨rfl,rfl⟩)
  | (go_at_call 53;refine Calls.mono (HA _) ?_;rintro _ _ ⟨rfl,rfl⟩)
  | (go_at_call 101;refine Calls.mono (H2.out _ hR1) ?_;rintro e w3 ⟨rfl,hR2⟩))
 go_ret;exact⟨rfl,hR2⟩
theorem files_seek (W wb Sb:Nat)(a1 a2 a3:Int)(S T:ByteArray)(la:Option Addr)(lm lc:Nat)(er:Int)(R1 R2:World->Prop)(w W1:World)(hW1:W1=w.alloc (.cells (opV9 16 a1 a2 a3 S T la lm lc) 57))
  (h1:Calls prog 102 #[.pointer (some ⟨wb,0,none⟩),.int .i64 a2,.int .i64 a3] W1 fun e w'=>e=.returned (.int .i64 er)/\BoxK w.heap.size W1 w'/\R1 w')
  (h2:∀w1,R1 w1->Calls prog 103 #[.pointer (some ⟨Sb,0,none⟩),.int .i64 a2,.int .i64 a3] w1 fun e w'=>e=.returned (.int .i64 er)/\R2 w'):
  Calls prog 51 #[.pointer (some ⟨W,0,none⟩),.pointer (some ⟨wb,0,none⟩),.pointer (some ⟨Sb,0,none⟩),.agg (opV9 16 a1 a2 a3 S T la lm lc)] w fun e w'=>e=.returned (.bool true)/\R2 w':=by
 unfold opV9 at hW1 ⊢;subst hW1;have HN:=fun (w':World)=>num_any er w'
 have hee:(er == er)=true:=by simp
 have H1:Hid _:=h1;have H2:Hid _:=h2;clear h1 h2;go_enter func51,ntmps51;go_wp2_with fail;refine Calls.mono H1.out ?_;rintro e w2 ⟨rfl,hbx,hR1⟩;have k32:w2.cell? ⟨w.heap.size,3,none⟩=some (.int .i64 a3):=(hbx.2 3).trans (by simp);have k22:w2.cell? ⟨w.heap.size,2,none⟩=some (.int .i64 a2):=(hbx.2 2).trans (by simp);have hz2:=hbx.1;clear hbx;go_wp2_with (first
  | (go_at_call 22;refine Calls.mono (HN _) ?_;rintro _ _ ⟨rfl,rfl⟩)
  | (go_at_call 103;refine Calls.mono (H2.out _ hR1) ?_;rintro e w3 ⟨rfl,hR2⟩))
 go_ret;exact⟨rfl,hR2⟩
theorem files_close (W wb Sb:Nat)(a1 a2 a3:Int)(S T:ByteArray)(la:Option Addr)(lm lc:Nat)(er:Int)(R1 R2:World->Prop)(w W1:World)(hW1:W1=w.alloc (.cells (opV9 18 a1 a2 a3 S T la lm lc) 57))
  (h1:Calls prog 65 #[.pointer (some ⟨wb,0,none⟩),.int .i64 a2] W1 fun e w'=>e=.returned (.int .i64 er)/\BoxK w.heap.size W1 w'/\R1 w')
  (h2:∀w1,R1 w1->Calls prog 104 #[.pointer (some ⟨Sb,0,none⟩),.int .i64 a2] w1 fun e w'=>e=.returned (.int .i64 er)/\R2 w'):
  Calls prog 51 #[.pointer (some ⟨W,0,none⟩),.pointer (some ⟨wb,0,none⟩),.pointer (some ⟨Sb,0,none⟩),.agg (opV9 18 a1 a2 a3 S T la lm lc)] w fun e w'=>e=.returned (.bool true)/\R2 w':=by
 unfold opV9 at hW1 ⊢;subst hW1;have HN:=fun (w':World)=>num_any er w'
 have hee:(er == er)=true:=by simp
 have H1:Hid _:=h1;have H2:Hid _:=h2;clear h1 h2;go_enter func51,ntmps51;go_wp2_with fail;refine Calls.mono H1.out ?_;rintro e w2 ⟨rfl,hbx,hR1⟩;have k22:w2.cell? ⟨w.heap.size,2,none⟩=some (.int .i64 a2):=(hbx.2 2).trans (by simp);have hz2:=hbx.1;clear hbx;go_wp2_with (first
  | (go_at_call 22;refine Calls.mono (HN _) ?_;rintro _ _ ⟨rfl,rfl⟩)
  | (go_at_call 104;refine Calls.mono (H2.out _ hR1) ?_;rintro e w3 ⟨rfl,hR2⟩))
 go_ret;exact⟨rfl,hR2⟩
theorem tabH_set:∀(hs:List Hnd) (k f:Nat) (v:Value) (x:Hnd) (h:k<hs.length) (hf:f<4),encHn x=(encHn hs[k]).set f v->tabV (hs.set k x)=(tabV hs).set (4*k+f) v
 | y :: r,0,f,v,x,_,hf,e=>by
  show encHn x++tabV r=(encHn y++tabV r).set (4*0+f) v
  rw[List.set_append_left _ _ (by show 4*0+f<4;omega),e]
  simp
 | y :: r,k+1,f,v,x,h,hf,e=>by
  show encHn y++tabV (r.set k x)=(encHn y++tabV r).set (4*(k+1)+f) v
  rw[List.set_append_right _ _ (by show 4<=4*(k+1)+f;omega),show 4*(k+1)+f-(encHn y).length=4*k+f by show 4*(k+1)+f-4=_;omega,tabH_set r k f v x (by simpa using h) hf e]
section
variable {F:Nat->Prop}{w:World}{S:Nat}{na da:Option Addr}{nc dc:Nat}{nodes:List Ent}{data:List ByteArray}{hs:List Hnd}{more:List Value}
theorem StAt.setH (h:StAt F w S na da nc dc nodes data (tabV hs++more)){k f:Nat}{v:Value}{x:Hnd}(hk:k<hs.length)(hf:f<4)(e:encHn x=(encHn hs[k]).set f v):
  StAt F (w.setCell ⟨S,2+k*4+f,none⟩ v) S na da nc dc nodes data (tabV (hs.set k x)++more)/\Keeps F w (w.setCell ⟨S,2+k*4+f,none⟩ v):=by
 have hl:4*k+f<(tabV hs).length:=by rw[tab_len];omega
 refine⟨⟨h.fS,?_,?_,?_,h.fn,h.fd⟩,⟨rfl,rfl,rfl,by simp,fun q hq hn=>Below.heap_setCell _ _ _ _ (fun e=>hn (by rw[e];exact h.fS))⟩⟩
 ·rw[tabH_set hs k f v x hk hf e,<-List.set_append_left _ _ hl,show 2+k*4+f=(4*k+f)+2 by omega]
  simp[World.setCell,Array.getElem?_modify,h.hS]
 ·exact ownsRow_keep h.rowN (fun g hg=>Below.heap_setCell _ _ _ _ (fun e=>owns_ne_cells h.rowN h.hS (by decide) (by rw[hg,e])))
 ·exact ownsRow_keep h.rowD (fun g hg=>Below.heap_setCell _ _ _ _ (fun e=>owns_ne_cells h.rowD h.hS (by decide) (by rw[hg,e])))
def seekH (hs:List Hnd)(n at_:Int):List Hnd×Int:=
 if usedH hs n=false then (hs,3) else if at_<0\/256<at_ then (hs,2) else (match hs[n.toNat]? with | some h=>(hs.set n.toNat (h.1,h.2.1,h.2.2.1,at_),0) | none=>(hs,0))
theorem sseek_any (h:StAt F w S na da nc dc nodes data (tabV hs++more))(h8:hs.length=8)(n at_:Int):
  Calls prog 103 #[.pointer (some ⟨S,0,none⟩),.int .i64 n,.int .i64 at_] w fun e w'=>e=.returned (.int .i64 (seekH hs n at_).2)/\StAt F w' S na da nc dc nodes data (tabV (seekH hs n at_).1++more)/\Keeps F w w':=by
 have hlt:=h.lt;have HO:Hid _:=sopen_any h h8 n;cases hu:usedH hs n with
 | false=>
  have e1:seekH hs n at_=(hs,3):=by unfold seekH;rw[zzD hu]
  rw[e1];rw[hu] at HO;go_enter func103,ntmps103;go_wp2_with (go_at_call 163;refine Calls.mono HO.out ?_;rintro _ _ ⟨rfl,rfl⟩);go_ret;exact⟨rfl,h,Keeps.refl _⟩
 | true=>
  rw[hu] at HO;have hn:0<=n/\n<8:=by
   by_cases h':0<=n/\n<8
   ·exact h'
   ·rw[usedH_no h'] at hu;cases hu
  obtain⟨k,rfl⟩:∃k:Nat,n=(k:Int):=⟨n.toNat,by omega⟩;have hk:k<hs.length:=by omega
  by_cases h0:at_<0
  ·have e1:seekH hs (k:Int) at_=(hs,2):=by unfold seekH;rw[zzB (by rw[hu];decide),zzD (.inl h0)]
   rw[e1];go_enter func103,ntmps103;go_wp2_with (go_at_call 163;refine Calls.mono HO.out ?_;rintro _ _ ⟨rfl,rfl⟩);go_ret;exact⟨rfl,h,Keeps.refl _⟩
  ·have t0:decide (at_<0)=false:=zzE h0
   by_cases h2:256<at_
   ·have e1:seekH hs (k:Int) at_=(hs,2):=by unfold seekH;rw[zzB (by rw[hu];decide),zzD (.inr h2)]
    rw[e1];go_enter func103,ntmps103;go_wp2_with (go_at_call 163;refine Calls.mono HO.out ?_;rintro _ _ ⟨rfl,rfl⟩);go_ret;exact⟨rfl,h,Keeps.refl _⟩
   ·have t2:decide (256<at_)=false:=zzE h2
    have e1:seekH hs (k:Int) at_=(hs.set k (hs[k].1,hs[k].2.1,hs[k].2.2.1,at_),0):=by
     unfold seekH;rw[zzB (by rw[hu];decide),zzB (by omega),Int.toNat_natCast,zzH hk]
    rw[e1];have hfz:w.frozen? ⟨S,2+k*4+3,none⟩=false:=by simp[World.frozen?,h.hS]
    have c3:w.cell? ⟨S,2+k*4+3,none⟩=some (.int .i64 hs[k].2.2.2):=h.tab (f:=3) hk (by omega);have HF:Hid _:=h.setH (f:=3) (v:=.int .i64 at_) (x:=(hs[k].1,hs[k].2.1,hs[k].2.2.1,at_)) hk (by omega) rfl;have hk8:k<8:=by omega
    have t3:(k:Int)<8:=(by omega);go_enter func103,ntmps103;go_wp2_with (go_at_call 163;refine Calls.mono HO.out ?_;rintro _ _ ⟨rfl,rfl⟩);go_ret;exact⟨rfl,HF.out⟩
end
def bitB (fl f:Int):Bool:=(fl / f).tmod 2 == 1
theorem bit_any (fl f:Int)(w:World)(h:0<=fl/\fl<=63)(hf:1<=f/\f<=32):Calls prog 159 #[.int .i64 fl,.int .i64 f] w fun e w'=>e=.returned (.bool (bitB fl f))/\w'=w:=by
 have hf0:(f == 0)=false:=by simp;omega
 go_enter func159,ntmps159;go_wp2;go_ret;exact⟨rfl,rfl⟩
section
variable {F:Nat->Prop}{w:World}{S:Nat}{na da:Option Addr}{nc dc:Nat}{nodes:List Ent}{data:List ByteArray}{hs:List Hnd}{more:List Value}
theorem StAt.zeroH (h:StAt F w S na da nc dc nodes data (tabV hs++more)){k:Nat}(hk:k<hs.length):
  StAt F ((((w.setCell ⟨S,2+k*4,none⟩ (.bool false)).setCell ⟨S,2+k*4+1,none⟩ (.int .i64 0)).setCell ⟨S,2+k*4+2,none⟩ (.int .i64 0)).setCell ⟨S,2+k*4+3,none⟩ (.int .i64 0)) S na da nc dc nodes data (tabV (hs.set k (false,0,0,0))++more)/\
   Keeps F w ((((w.setCell ⟨S,2+k*4,none⟩ (.bool false)).setCell ⟨S,2+k*4+1,none⟩ (.int .i64 0)).setCell ⟨S,2+k*4+2,none⟩ (.int .i64 0)).setCell ⟨S,2+k*4+3,none⟩ (.int .i64 0)):=by
 obtain⟨h1,k1⟩:=h.setH (f:=0) (v:=.bool false) (x:=(false,hs[k].2.1,hs[k].2.2.1,hs[k].2.2.2)) hk (by omega) rfl;obtain⟨h2,k2⟩:=h1.setH (k:=k) (f:=1) (v:=.int .i64 0) (x:=(false,0,hs[k].2.2.1,hs[k].2.2.2)) (by simpa using hk) (by omega) (by simp[encHn]);rw[List.set_set] at h2;obtain⟨h3,k3⟩:=h2.setH (k:=k) (f:=2) (v:=.int .i64 0) (x:=(false,0,0,hs[k].2.2.2)) (by simpa using hk) (by omega) (by simp[encHn]);rw[List.set_set] at h3;obtain⟨h4,k4⟩:=h3.setH (k:=k) (f:=3) (v:=.int .i64 0) (x:=(false,0,0,0)) (by simpa using hk) (by omega) (by simp[encHn]);rw[List.set_set] at h4;refine⟨h4,⟨rfl,rfl,rfl,by simp,fun q hq hn=>?_⟩⟩;have hne:∀(o:Nat) (v:Value) (w:World),(w.setCell ⟨S,o,none⟩ v).heap[q]? = w.heap[q]?:=fun o v w=>Below.heap_setCell _ _ _ _ (fun e=>hn (by rw[e];exact h.fS));rw[hne,hne,hne,hne]
def closeH (hs:List Hnd)(n:Int):List Hnd×Int:=
 if usedH hs n=false then (hs,3) else (hs.set n.toNat (false,0,0,0),0)
theorem sclose_any (h:StAt F w S na da nc dc nodes data (tabV hs++more))(h8:hs.length=8)(n:Int):
  Calls prog 104 #[.pointer (some ⟨S,0,none⟩),.int .i64 n] w fun e w'=>e=.returned (.int .i64 (closeH hs n).2)/\StAt F w' S na da nc dc nodes data (tabV (closeH hs n).1++more)/\Keeps F w w':=by
 have hlt:=h.lt;have HO:Hid _:=sopen_any h h8 n;cases hu:usedH hs n with
 | false=>
  have e1:closeH hs n=(hs,3):=by unfold closeH;rw[zzD hu]
  rw[e1];rw[hu] at HO;go_enter func104,ntmps104;go_wp2_with (go_at_call 163;refine Calls.mono HO.out ?_;rintro _ _ ⟨rfl,rfl⟩);go_ret;exact⟨rfl,h,Keeps.refl _⟩
 | true=>
  rw[hu] at HO;have hn:0<=n/\n<8:=by
   by_cases h':0<=n/\n<8
   ·exact h'
   ·rw[usedH_no h'] at hu;cases hu
  obtain⟨k,rfl⟩:∃k:Nat,n=(k:Int):=⟨n.toNat,by omega⟩;have hk:k<hs.length:=by omega
  have e1:closeH hs (k:Int)=(hs.set k (false,0,0,0),0):=by
   unfold closeH;rw[zzB (by rw[hu];decide),Int.toNat_natCast]
  rw[e1];have hfz:∀o,w.frozen? ⟨S,o,none⟩=false:=fun o=>by simp[World.frozen?,h.hS]
  have f0:=hfz (2+k*4);have f1:=hfz (2+k*4+1);have f2:=hfz (2+k*4+2);have f3:=hfz (2+k*4+3);have c0:w.cell? ⟨S,2+k*4,none⟩=some (.bool hs[k].1):=h.tab (f:=0) hk (by omega);have c1:w.cell? ⟨S,2+k*4+1,none⟩=some (.int .i64 hs[k].2.1):=h.tab (f:=1) hk (by omega);have c2:w.cell? ⟨S,2+k*4+2,none⟩=some (.int .i64 hs[k].2.2.1):=h.tab (f:=2) hk (by omega);have c3:w.cell? ⟨S,2+k*4+3,none⟩=some (.int .i64 hs[k].2.2.2):=h.tab (f:=3) hk (by omega);have HH:Hid _:=h;have hk8:k<8:=by omega
  have t3:(k:Int)<8:=by omega
  clear hfz;go_enter func104,ntmps104;go_wp2_with (go_at_call 163;refine Calls.mono HO.out ?_;rintro _ _ ⟨rfl,rfl⟩);go_ret;exact⟨rfl,HH.out.zeroH hk⟩
end
def flaggedB (fl:Int):Bool:=
 if fl<0\/63<fl then false
 else if bitB fl 1=false/\bitB fl 2=false then false
 else if bitB fl 2=false/\(bitB fl 4=true\/bitB fl 16=true\/bitB fl 32=true) then false
 else !bitB fl 8 || bitB fl 4
theorem flagged_any (fl:Int)(w:World):Calls prog 157 #[.int .i64 fl] w fun e w'=>e=.returned (.bool (flaggedB fl))/\w'=w:=by
 by_cases h0:fl<0
 ·have e1:flaggedB fl=false:=by unfold flaggedB;rw[zzD (.inl h0)]
  rw[e1];go_enter func157,ntmps157;go_wp2;go_ret;exact⟨rfl,rfl⟩
 ·have t0:decide (fl<0)=false:=zzE h0
  by_cases h1:63<fl
  ·have e1:flaggedB fl=false:=by unfold flaggedB;rw[zzD (.inr h1)]
   rw[e1];go_enter func157,ntmps157;go_wp2;go_ret;exact⟨rfl,rfl⟩
  ·have t1:decide (63<fl)=false:=zzE h1
   have HT:Hid (∀f,1<=f/\f<=32->bitB fl f=true->∀W,Calls prog 159 #[.int .i64 fl,.int .i64 f] W fun e w'=>e=.returned (.bool true)/\w'=W):=fun f hf e W=>by have:=bit_any fl f W (by omega) hf;rwa [e] at this
   have HN:Hid (∀f,1<=f/\f<=32->bitB fl f=false->∀W,Calls prog 159 #[.int .i64 fl,.int .i64 f] W fun e w'=>e=.returned (.bool false)/\w'=W):=fun f hf e W=>by have:=bit_any fl f W (by omega) hf;rwa [e] at this
   obtain⟨R,hR⟩:∃R,R=flaggedB fl:=⟨_,rfl⟩;rw[<-hR];unfold flaggedB at hR;rw[zzB (by omega)] at hR;have HR:Hid _:=hR;clear hR;have hc:(bitB fl 2=false/\bitB fl 1=false)\/(bitB fl 2=false/\bitB fl 1=true/\bitB fl 4=true)\/(bitB fl 2=false/\bitB fl 1=true/\bitB fl 4=false/\bitB fl 16=true)\/(bitB fl 2=false/\bitB fl 1=true/\bitB fl 4=false/\bitB fl 16=false/\bitB fl 32=true)\/(bitB fl 2=false/\bitB fl 1=true/\bitB fl 4=false/\bitB fl 16=false/\bitB fl 32=false/\bitB fl 8=true)\/(bitB fl 2=false/\bitB fl 1=true/\bitB fl 4=false/\bitB fl 16=false/\bitB fl 32=false/\bitB fl 8=false)\/
     (bitB fl 2=true/\bitB fl 1=true/\bitB fl 8=false)\/(bitB fl 2=true/\bitB fl 1=true/\bitB fl 8=true/\bitB fl 4=true)\/(bitB fl 2=true/\bitB fl 1=true/\bitB fl 8=true/\bitB fl 4=false)\/(bitB fl 2=true/\bitB fl 1=false/\bitB fl 8=false)\/(bitB fl 2=true/\bitB fl 1=false/\bitB fl 8=true/\bitB fl 4=true)\/(bitB fl 2=true/\bitB fl 1=false/\bitB fl 8=true/\bitB fl 4=false):=by
    clear HT HN HR;cases bitB fl 1 <;> cases bitB fl 2 <;> cases bitB fl 4 <;> cases bitB fl 8 <;> cases bitB fl 16 <;> cases bitB fl 32 <;> decide
   clear h0 h1;rcases hc with ⟨a,b⟩ | ⟨a,b,c⟩ | ⟨a,b,c,d⟩ | ⟨a,b,c,d,e⟩ | ⟨a,b,c,d,e,f⟩ | ⟨a,b,c,d,e,f⟩ | ⟨a,b,c⟩ | ⟨a,b,c,d⟩ | ⟨a,b,c,d⟩ | ⟨a,b,c⟩ | ⟨a,b,c,d⟩ | ⟨a,b,c,d⟩
   all_goals
    go_enter func157,ntmps157;go_wp2_with (go_at_call 159;(first | refine Calls.mono (HT.out _ (by decide) (by assumption) _) ?_ | refine Calls.mono (HN.out _ (by decide) (by assumption) _) ?_);rintro _ _ ⟨rfl,rfl⟩);go_ret;exact⟨by rw[HR.out];simp[*],rfl⟩
theorem notmask (fl:Int)(h0:-9223372036854775808<=fl)(h1:fl<9223372036854775808):(bits BinOp.andNot IntKind.i64 fl 63 != 0) = !(decide (0<=fl) && decide (fl<=63)):=by
 have key:∀v:BitVec 64,(v &&& ~~~(63#64)).toNat=0↔v.toNat<=63:=by
  intro v;constructor
  ·intro h
   have h2:v &&& ~~~(63#64)=0#64:=BitVec.eq_of_toNat_eq h;have h3:v >>> 6=0#64:=by
    ext i hi
    have:=congrArg (fun x=>x.getLsbD (6+i)) h2
    by_cases h6:6+i<64
    ·have h63:(63#64).getLsbD (6+i)=false:=by
      rw[BitVec.getLsbD_ofNat]
      have:Nat.testBit 63 (6+i)=false:=Nat.testBit_lt_two_pow (by
       have:2 ^ 6<=2 ^ (6+i):=Nat.pow_le_pow_right (by decide) (by omega)
       omega)
      rw[this];simp
     simp only[BitVec.getLsbD_and,BitVec.getLsbD_not,h63,decide_eq_true h6,Bool.not_false,Bool.and_true] at this;rw[BitVec.getElem_ushiftRight,this];simp
    ·simp
     exact BitVec.getLsbD_of_ge _ _ (by omega)
   have h4:=congrArg BitVec.toNat h3;simp at h4;rw[Nat.shiftRight_eq_div_pow] at h4;omega
  ·intro h
   have:v.toNat<2 ^ 6:=by omega
   apply Nat.eq_of_testBit_eq;intro i;rw[BitVec.toNat_and,Nat.testBit_and];by_cases hi:i<6
   ·have:(~~~(63#64)).toNat.testBit i=false:=by
     have:i=0\/i=1\/i=2\/i=3\/i=4\/i=5:=by omega
     rcases this with h|h|h|h|h|h <;> subst h <;> decide
    rw[this];simp
   ·have:v.toNat.testBit i=false:=Nat.testBit_lt_two_pow (by
     have:2 ^ 6<=2 ^ i:=Nat.pow_le_pow_right (by decide) (by omega)
     omega)
    rw[this];simp
 have hw:∀n:Nat,n<18446744073709551616->((IntKind.i64.wrap (n:Int) != 0) = !(decide (n=0))):=by
  intro n hn;rw[IntKind.wrap_i64];by_cases h:n=0
  ·subst h;decide
  ·rw[zzE h]
   simp;omega
 show (IntKind.i64.wrap ((BitVec.ofInt 64 fl &&& ~~~(BitVec.ofInt 64 63)).toNat:Int) != 0)=_;rw[hw _ (BitVec.isLt _)];have e:BitVec.ofInt 64 63=63#64:=by decide
 rw[e]
 congr 1
 have:=key (BitVec.ofInt 64 fl)
 rw[BitVec.toNat_ofInt] at this;by_cases hf:0<=fl/\fl<=63
 ·rw[decide_eq_true (this.2 (by omega)),decide_eq_true hf.1,decide_eq_true hf.2];rfl
 ·rw[zzE (fun h=>hf (by have:=this.1 h;omega))]
  by_cases h:0<=fl
  ·rw[decide_eq_true h,zzE (fun h'=>hf ⟨h,h'⟩)];rfl
  ·rw[zzE h];rfl
def needB (fl:Int):Int:=if (bits BinOp.and IntKind.i64 fl 8 != 0)=true then 6 else if (bits BinOp.and IntKind.i64 fl 52 != 0)=true then 2 else 0
theorem valid_fin:∀n:Fin 64,flaggedB (n.val:Int)=if (bits BinOp.and IntKind.i64 (n.val:Int) 3 == 0)=true then false else (bits BinOp.andNot IntKind.i64 (needB n.val) n.val == 0):=by decide +kernel
theorem bit_fin:∀n:Fin 64,(bits BinOp.and IntKind.i64 (n.val:Int) 1 == 0) = !bitB n.val 1/\(bits BinOp.and IntKind.i64 (n.val:Int) 2 == 0) = !bitB n.val 2/\(bits BinOp.and IntKind.i64 (n.val:Int) 4 != 0)=bitB n.val 4/\(bits BinOp.and IntKind.i64 (n.val:Int) 8 != 0)=bitB n.val 8/\(bits BinOp.and IntKind.i64 (n.val:Int) 16 != 0)=bitB n.val 16/\(bits BinOp.and IntKind.i64 (n.val:Int) 32 != 0)=bitB n.val 32:=by decide +kernel
theorem bit_of {fl:Int}(h:0<=fl/\fl<=63):(bits BinOp.and IntKind.i64 fl 1 == 0) = !bitB fl 1/\(bits BinOp.and IntKind.i64 fl 2 == 0) = !bitB fl 2/\(bits BinOp.and IntKind.i64 fl 4 != 0)=bitB fl 4/\(bits BinOp.and IntKind.i64 fl 8 != 0)=bitB fl 8/\(bits BinOp.and IntKind.i64 fl 16 != 0)=bitB fl 16/\(bits BinOp.and IntKind.i64 fl 32 != 0)=bitB fl 32:=by
 obtain⟨n,hn,rfl⟩:∃n:Nat,n<64/\fl=(n:Int):=⟨fl.toNat,by omega,by omega⟩;exact bit_fin ⟨n,hn⟩
theorem needed_any (fl:Int)(w:World):Calls prog 175 #[.int .i64 fl] w fun e w'=>e=.returned (.int .i64 (needB fl))/\w'=w:=by
 unfold needB;cases h8:(bits BinOp.and IntKind.i64 fl 8 != 0) with
 | true=>
  go_enter func175,ntmps175;go_wp2;go_ret;exact⟨rfl,rfl⟩
 | false=>
  cases h5:(bits BinOp.and IntKind.i64 fl 52 != 0) with
  | true=>
   go_enter func175,ntmps175;go_wp2;go_ret;exact⟨rfl,rfl⟩
  | false=>
   go_enter func175,ntmps175;go_wp2;go_ret;exact⟨rfl,rfl⟩
theorem flags_any (fl:Int)(hr:-9223372036854775808<=fl/\fl<9223372036854775808)(w:World):Calls prog 118 #[.int .i64 fl] w fun e w'=>e=.returned (.bool (flaggedB fl))/\w'=w:=by
 have hm:=notmask fl hr.1 hr.2;by_cases hf:0<=fl/\fl<=63
 ·rw[decide_eq_true hf.1,decide_eq_true hf.2] at hm
  have hm:(bits BinOp.andNot IntKind.i64 fl 63 != 0)=false:=hm;obtain⟨n,hn,rfl⟩:∃n:Nat,n<64/\fl=(n:Int):=⟨fl.toNat,by omega,by omega⟩;have hv:=valid_fin ⟨n,hn⟩;simp only at hv;have HN:Hid _:=needed_any (n:Int) w;cases h3:(bits BinOp.and IntKind.i64 (n:Int) 3 == 0) with
  | true=>
   rw[hv,h3];clear hv;go_enter func118,ntmps118;go_wp2;go_ret;exact⟨rfl,rfl⟩
  | false=>
   rw[hv,h3];generalize needB (n:Int)=nd at HN ⊢;clear hv;go_enter func118,ntmps118;go_wp2_with (go_at_call 175;refine Calls.mono HN.out ?_;rintro e w1 ⟨rfl,rfl⟩);go_ret;exact⟨rfl,rfl⟩
 ·have e:flaggedB fl=false:=by unfold flaggedB;rw[zzD (by omega)]
  rw[e];have hm:(bits BinOp.andNot IntKind.i64 fl 63 != 0)=true:=by
   rw[hm];by_cases h:0<=fl
   ·rw[decide_eq_true h,zzE (fun h'=>hf ⟨h,h'⟩)];rfl
   ·rw[zzE h];rfl
  go_enter func118,ntmps118;go_wp2;go_ret;exact⟨rfl,rfl⟩
theorem eq_nil' (W:World):(binOp .eql 86 (.pointer none) (.pointer none)).run prog W=.ok (.bool true) W:=by kernel_rfl
def NoneAt (vs:Nat->Option Nat)(n:Int):Prop:=∀k:Nat,k<8->n=(k:Int)->vs k=none
theorem tat_none (b:Nat)(n:Int)(vs:Nat->Option Nat)(w:World)(h:TabAt w b vs)(hn:NoneAt vs n):
  Calls prog 122 #[.pointer (some ⟨b,1,none⟩),.int .i64 n] w fun e w'=>e=.returned (.tuple #[.pointer none,.int .i64 3])/\w'=w:=by
 have hbl:=h.1;by_cases h0:n<0
 ·clear h hn
  go_enter func122,ntmps122;go_wp2;go_ret2;exact⟨rfl,rfl⟩
 ·have t0:decide (n<0)=false:=zzE h0
  by_cases h8:8<=n
  ·clear h hn
   go_enter func122,ntmps122;go_wp2;go_ret2;exact⟨rfl,rfl⟩
  ·have t8:decide (8<=n)=false:=zzE h8
   obtain⟨k,rfl⟩:∃k:Nat,n=(k:Int):=⟨n.toNat,by omega⟩;have hk:k<8:=by omega
   have hc:w.cell? ⟨b,1+k,none⟩=some (.pointer none):=by rw[h.2.1 k hk,hn k hk rfl];rfl
   have hk8:(k:Int)<8:=by omega
   have hq:=eq_nil';clear h hn;go_enter func122,ntmps122;go_wp2;go_ret2;exact⟨rfl,rfl⟩
section
variable {b:Nat}{n:Int}{vs:Nat->Option Nat}{w:World}
theorem close_no (h:TabAt w b vs)(hn:NoneAt vs n):Calls prog 65 #[.pointer (some ⟨b,0,none⟩),.int .i64 n] w fun e w'=>e=.returned (.int .i64 3)/\w'=w:=by
 have HA:Hid _:=tat_none b n vs w h hn;have hbl:=h.1;have HC:Hid (Calls prog 124 #[.pointer (some ⟨b,1,none⟩),.int .i64 n] w fun e w'=>e=.returned (.int .i64 3)/\w'=w):=by
  show Calls _ _ _ _ _;clear h hn;go_enter func124,ntmps124;go_wp2_with (go_at_call 122;refine Calls.mono HA.out ?_;rintro e w1 ⟨rfl,rfl⟩);go_ret;exact⟨rfl,rfl⟩
 clear h hn;go_enter func65,ntmps65;go_wp2_with (go_at_call 124;refine Calls.mono HC.out ?_;rintro e w1 ⟨rfl,rfl⟩);go_ret;exact⟨rfl,rfl⟩
theorem read_no (h:TabAt w b vs)(hn:NoneAt vs n)(m:Int):Calls prog 66 #[.pointer (some ⟨b,0,none⟩),.int .i64 n,.int .i64 m] w fun e w'=>e=.returned (.tuple #[.string ⟨#[]⟩,.int .i64 3])/\w'=w:=by
 have HA:Hid _:=tat_none b n vs w h hn;have hbl:=h.1;clear h hn;go_enter func66,ntmps66;go_wp2_with (go_at_call 122;refine Calls.mono HA.out ?_;rintro e w1 ⟨rfl,rfl⟩);go_ret2;exact⟨rfl,rfl⟩
theorem write_no (h:TabAt w b vs)(hn:NoneAt vs n)(d:ByteArray):Calls prog 64 #[.pointer (some ⟨b,0,none⟩),.int .i64 n,.string d] w fun e w'=>e=.returned (.int .i64 3)/\w'=w:=by
 have HA:Hid _:=tat_none b n vs w h hn;have hbl:=h.1;clear h hn;go_enter func64,ntmps64;go_wp2_with (go_at_call 122;refine Calls.mono HA.out ?_;rintro e w1 ⟨rfl,rfl⟩);go_ret;exact⟨rfl,rfl⟩
theorem seek_no (h:TabAt w b vs)(hn:NoneAt vs n)(m:Int):Calls prog 102 #[.pointer (some ⟨b,0,none⟩),.int .i64 n,.int .i64 m] w fun e w'=>e=.returned (.int .i64 3)/\w'=w:=by
 have HA:Hid _:=tat_none b n vs w h hn;have hbl:=h.1;clear h hn;go_enter func102,ntmps102;go_wp2_with (go_at_call 122;refine Calls.mono HA.out ?_;rintro e w1 ⟨rfl,rfl⟩);go_ret;exact⟨rfl,rfl⟩
theorem resize_no (h:TabAt w b vs)(hn:NoneAt vs n)(m:Int):Calls prog 100 #[.pointer (some ⟨b,0,none⟩),.int .i64 n,.int .i64 m] w fun e w'=>e=.returned (.int .i64 3)/\w'=w:=by
 have HA:Hid _:=tat_none b n vs w h hn;have hbl:=h.1;clear h hn;go_enter func100,ntmps100;go_wp2_with (go_at_call 122;refine Calls.mono HA.out ?_;rintro e w1 ⟨rfl,rfl⟩);go_ret;exact⟨rfl,rfl⟩
end
section
variable {o f:Nat}{fg pl:Int}{w:World}
theorem oread_err (n:Int)(ho:o<w.heap.size)(c1:w.cell? ⟨o,1,none⟩=some (.int .i64 fg))(c2:w.cell? ⟨o,2,none⟩=some (.int .i64 pl))(h0:0<=pl)(h1:pl<=256){er:Int}
  (he:(n<0/\er=2)\/(0<=n/\(bits BinOp.and IntKind.i64 fg 1 == 0)=true/\er=12)\/(0<=n/\(bits BinOp.and IntKind.i64 fg 1 == 0)=false/\(n=0\/pl=256)/\er=0)):
  Calls prog 125 #[.pointer (some ⟨o,0,none⟩),.int .i64 n] w fun e w'=>e=.returned (.tuple #[.string ⟨#[]⟩,.int .i64 er])/\w'=w:=by
 rcases he with ⟨hn,rfl⟩ | ⟨hn,hb,rfl⟩ | ⟨hn,hb,hz,rfl⟩
 ·go_enter func125,ntmps125
  go_wp2;go_ret2;exact⟨rfl,rfl⟩
 ·have tn:decide (n<0)=false:=zzE (by omega)
  go_enter func125,ntmps125;go_wp2;go_ret2;exact⟨rfl,rfl⟩
 ·have tn:decide (n<0)=false:=zzE (by omega)
  have hm:min n (256-pl)=0:=by omega
  go_enter func125,ntmps125;go_wp2;go_ret2;exact⟨rfl,rfl⟩
theorem owrite_err (d:ByteArray)(ho:o<w.heap.size)(c1:w.cell? ⟨o,1,none⟩=some (.int .i64 fg))(c2:w.cell? ⟨o,2,none⟩=some (.int .i64 pl))(h0:0<=startF fg pl 0)(h1:startF fg pl 0<=256)(hd:d.size<=1048576){er:Int}
  (he:((bits BinOp.and IntKind.i64 fg 2 == 0)=true/\er=12)\/((bits BinOp.and IntKind.i64 fg 2 == 0)=false/\1<=d.size/\256<startF fg pl 0+d.size/\er=11)):
  Calls prog 123 #[.pointer (some ⟨o,0,none⟩),.string d] w fun e w'=>e=.returned (.int .i64 er)/\w'=w:=by
 have HS:Hid _:=start_any o fg pl 0 w c1 c2;generalize startF fg pl 0=s0 at HS h0 h1 he;rcases he with ⟨hb,rfl⟩ | ⟨hb,hz,ht,rfl⟩
 ·go_enter func123,ntmps123
  go_wp2;go_ret;exact⟨rfl,rfl⟩
 ·have hn:=some_bytes hz
  go_enter func123,ntmps123;go_wp2_with (go_at_call 180;refine Calls.mono HS.out ?_;rintro e w1 ⟨rfl,rfl⟩);go_ret;exact⟨rfl,rfl⟩
theorem oresize_err (m:Int)(ho:o<w.heap.size)(c1:w.cell? ⟨o,1,none⟩=some (.int .i64 fg)){er:Int}
  (he:((m<0\/256<m)/\er=2)\/(0<=m/\m<=256/\(bits BinOp.and IntKind.i64 fg 2 == 0)=true/\er=12)):
  Calls prog 164 #[.pointer (some ⟨o,0,none⟩),.int .i64 m] w fun e w'=>e=.returned (.int .i64 er)/\w'=w:=by
 by_cases h0:m<0
 ·obtain rfl:er=2:=by omega
  clear he;go_enter func164,ntmps164;go_wp2;go_ret;exact⟨rfl,rfl⟩
 ·have t0:decide (m<0)=false:=zzE h0
  by_cases h1:256<m
  ·obtain rfl:er=2:=by omega
   clear he;go_enter func164,ntmps164;go_wp2;go_ret;exact⟨rfl,rfl⟩
  ·have t1:decide (256<m)=false:=zzE h1
   obtain⟨hb,rfl⟩:(bits BinOp.and IntKind.i64 fg 2 == 0)=true/\er=12:=by
    rcases he with h | h
    ·omega
    ·exact h.2.2
   clear he h0 h1;go_enter func164,ntmps164;go_wp2;go_ret;exact⟨rfl,rfl⟩
theorem oseek_err (a:Int)(h:a<0\/256<a)(W:World):Calls prog 165 #[.pointer (some ⟨o,0,none⟩),.int .i64 a] W fun e w'=>e=.returned (.int .i64 2)/\w'=W:=by
 by_cases h0:a<0
 ·go_enter func165,ntmps165
  go_wp2;go_ret;exact⟨rfl,rfl⟩
 ·have t0:decide (a<0)=false:=zzE h0
  have t1:256<a:=by omega
  go_enter func165,ntmps165;go_wp2;go_ret;exact⟨rfl,rfl⟩
end
theorem used_true {hs:List Hnd}{k:Nat}{x:Int×Int×Int}(h8:hs.length=8)(hk:hs[k]? = some (true,x)):usedH hs (k:Int)=true:=by
 obtain⟨hl,e⟩:=List.getElem?_eq_some_iff.1 hk;rw[usedH_at hl h8,e]
theorem ext_zero (d:ByteArray)(a:Nat):d.extract a a=⟨#[]⟩:=by
 apply ByteArray.ext;rw[ByteArray.data_extract];simp;omega
theorem ext_big {d:ByteArray}{a x y:Nat}(hx:d.size<=x)(hy:d.size<=y):d.extract a x=d.extract a y:=by
 apply ByteArray.ext;rw[ByteArray.data_extract,ByteArray.data_extract];have h:d.data.toList.length=d.size:=rfl;apply Array.toList_inj.1;rw[Array.toList_extract,Array.toList_extract];unfold List.extract;rw[List.take_of_length_le (by rw[List.length_drop];omega),List.take_of_length_le (by rw[List.length_drop];omega)]
theorem ext_next (d:ByteArray){a x:Nat}(h:a<=x):d.extract a x++d.extract x (x+1)=d.extract a (x+1):=by
 rw[ByteArray.extract_append_extract,Nat.min_eq_left h,Nat.max_eq_right (by omega)]
section
variable {F:Nat->Prop}{w:World}{S:Nat}{na da:Option Addr}{nc dc:Nat}{nodes:List Ent}{data:List ByteArray}{hs:List Hnd}{more:List Value}
theorem StAt.hnd (h:StAt F w S na da nc dc nodes data (tabV hs++more)){k:Nat}{u:Bool}{j fg a:Int}(hk:hs[k]? = some (u,j,fg,a)):
  w.cell? ⟨S,2+k*4,none⟩=some (.bool u)/\w.cell? ⟨S,2+k*4+1,none⟩=some (.int .i64 j)/\w.cell? ⟨S,2+k*4+2,none⟩=some (.int .i64 fg)/\w.cell? ⟨S,2+k*4+3,none⟩=some (.int .i64 a)/\∀o,w.frozen? ⟨S,o,none⟩=false:=by
 obtain⟨hl,e⟩:=List.getElem?_eq_some_iff.1 hk;have c:=fun f (hf:f<4)=>h.tab (f:=f) hl hf;rw[e] at c;exact⟨c 0 (by omega),c 1 (by omega),c 2 (by omega),c 3 (by omega),fun o=>by simp[World.frozen?,h.hS]⟩
theorem StAt.place (h:StAt F w S na da nc dc nodes data (tabV hs++more)){k:Nat}{u:Bool}{j fg a:Int}(hk:hs[k]? = some (u,j,fg,a))(a':Int):
  StAt F (w.setCell ⟨S,2+k*4+3,none⟩ (.int .i64 a')) S na da nc dc nodes data (tabV (hs.set k (u,j,fg,a'))++more)/\Keeps F w (w.setCell ⟨S,2+k*4+3,none⟩ (.int .i64 a')):=by
 obtain⟨hl,e⟩:=List.getElem?_eq_some_iff.1 hk;exact h.setH hl (by omega) (by rw[e];rfl)
theorem sread_ok (h:StAt F w S na da nc dc nodes data (tabV hs++more))(h8:hs.length=8){k j a:Nat}{fg many:Int}{d:ByteArray}(hk:hs[k]? = some (true,(j:Int),fg,(a:Int)))(hj:data[j]? = some d)(hf:0<=fg/\fg<=63)(ha:a<=256)(hd:d.size<=256)(hm:0<=many)(hb:bitB fg 1=true)(hl:data.length<=1000000000):
  Calls prog 98 #[.pointer (some ⟨S,0,none⟩),.int .i64 (k:Int),.int .i64 many] w fun e w'=>e=.returned (.tuple #[.string (d.extract a (a+many.toNat)),.int .i64 0])/\
   StAt F w' S na da nc dc nodes data (tabV (hs.set k (true,(j:Int),fg,(a:Int)+(d.extract a (a+many.toNat)).size))++more)/\Keeps F w w':=by
 have hlt:=h.lt;have HO:Hid _:=sopen_any h h8 (k:Int);rw[used_true h8 hk] at HO;have HB:Hid (∀W,Calls prog 159 #[.int .i64 fg,.int .i64 1] W fun e w'=>e=.returned (.bool true)/\w'=W):=fun W=>by have:=bit_any fg 1 W hf ⟨by decide,by decide⟩;rwa [hb] at this
 obtain⟨c0,c1,c2,c3,hfz⟩:=h.hnd hk;have hkl:=(List.getElem?_eq_some_iff.1 hk).1;have hk8:k<8:=by omega
 have t3:(k:Int)<8:=by omega
 have tm:decide (many<0)=false:=zzE (by omega);have HS:Hid (StAt F w S na da nc dc nodes data (tabV hs++more)):=h;have HK:Hid (hs[k]? = some (true,(j:Int),fg,(a:Int))):=hk;have HJ:Hid (data[j]? = some d):=hj;clear h hk hj hfz hb hf h8 hkl;go_enter func98,ntmps98;go_wp2_with fail;refine Calls.mono HO.out ?_;rintro _ w ⟨rfl,rfl⟩;go_wp2_with fail;refine Calls.mono (HB.out _) ?_;rintro _ w1 ⟨rfl,HW1⟩;have hbw:Below w.heap.size w w1:=by rw[HW1];exact (Below.refl _ _).alloc (zzC _) _
 have b1:w1.cell? ⟨w.heap.size,1,none⟩=some (.int .i64 (j:Int)):=by rw[HW1];simp
 have b3:w1.cell? ⟨w.heap.size,3,none⟩=some (.int .i64 (a:Int)):=by rw[HW1];simp
 have hbl:w.heap.size<w1.heap.size:=by rw[HW1];simp
 have hst:=HS.out.below hbw;have k1:=hst.c1;obtain⟨gd,hgd,hgdl,xd,_⟩:=row_one hst.rowD (i:=j) (v:=.string d) (by simp[encS,HJ.out]);obtain⟨e0,e1,e2,e3,hfz⟩:=hst.hnd HK.out;have f3:=hfz (2+k*4+3);have hSl:=hst.lt;have hjl:j<data.length:=(List.getElem?_eq_some_iff.1 HJ.out).1;obtain⟨md,hmd⟩:∃md,md=data.length:=⟨_,rfl⟩;rw[<-hmd] at k1 hjl hl;have hjm:(j:Int)<(md:Int):=by omega
 subst hgd;have HST:Hid _:=hst;have HW:Hid _:=hbw;clear HW1 c0 c1 c2 c3 hst hbw hfz;go_wp2
 go_region
 go_wp2
 go_loopw [10,12] (fun ov iv wr=>∃(x:Nat) (o:ByteArray),x<=512/\o.size<=512/\iv=.int .i64 (x:Int)/\ov=.string o/\Hid (o=d.extract a x)/\Hid (o.size+a=x/\(x=a\/x<=d.size))/\Hid ((o.size:Int)<=many)/\Hid (Below w1.heap.size w1 wr)) (fun _ iv _=>512-(intOf iv).toNat)
 case atStart=>exact⟨a,⟨#[]⟩,by omega,by show 0<=512;omega,rfl,rfl,(ext_zero d a).symm,⟨by show 0+a=a;omega,.inl rfl⟩,by show ((0:Nat):Int)<=many;omega,by first | exact (Below.refl _ _).drew | exact Below.refl _ _⟩
 case round=>
  obtain⟨x,o,h1,h2,rfl,rfl,HX,HZ,HM,HBL⟩:=hrel;by_cases hq:x<d.size/\(o.size:Int)<many
  ·have q1:(x:Int)<(d.size:Int):=by omega
   have q2:=hq.2;have q3:(x:Int)+1<=(d.size:Int):=by omega
   clear hq;go_wp2;have hz:(d.extract x (x+1)).size=1:=by rw[ByteArray.size_extract];omega
   have hz2:(o++d.extract x (x+1)).size=o.size+1:=by rw[ByteArray.size_append,hz]
   obtain⟨z1,z2⟩:=HZ.out;refine⟨⟨x+1,_,by omega,by rw[hz2];omega,rfl,rfl,?_,?_,?_,HBL⟩,by simp[intOf];omega⟩
   ·show _=_
    rw[HX.out,ext_next d (by omega)]
   ·exact⟨by rw[hz2];omega,.inr (by omega)⟩
   ·show (_:Int)<=_
    rw[hz2];omega
  ·have HE:Hid (o=d.extract a (a+many.toNat)):=by
    obtain⟨z1,z2⟩:=HZ.out;have hm':=HM.out;show _=_;rw[HX.out];by_cases q:x<d.size
    ·rw[show a+many.toNat=x by omega]
    ·exact ext_big (by omega) (by omega)
   have hst2:=HST.out.below HBL.out;obtain⟨_,_,_,g3,hfz2⟩:=hst2.hnd HK.out;have f3':=hfz2 (2+k*4+3);have b3':=(HBL.out.cell (p:=⟨w.heap.size,3,none⟩) hbl).trans b3;have hSl2:=hst2.lt;have hbl2:=zzA hbl HBL.out.size;have HST2:Hid _:=hst2;clear hst2 hfz2 e0 e1 e2 e3 f3 b1 b3 xd k1 hSl;by_cases q:x<d.size
   ·have q1:(x:Int)<(d.size:Int):=by omega
    have q2:decide ((o.size:Int)<many)=false:=zzE (fun h=>hq ⟨q,h⟩);clear hq;go_wp2
    go_region
    go_wp2;go_ret2;rw[<-HE.out];have hD:Below wr.heap.size wr wr.drew:=(Below.refl _ _).drew;obtain⟨p1,p2⟩:=(HST2.out.below hD).place HK.out ((a:Int)+(o.size:Int));exact⟨rfl,p1,((p2.after hD).after HBL.out).after HW.out⟩
   ·have q1:decide ((x:Int)<(d.size:Int))=false:=zzE (by omega)
    clear hq;go_wp2
    go_region
    go_wp2;go_ret2;rw[<-HE.out];have hD:Below wr.heap.size wr wr.drew:=(Below.refl _ _).drew;obtain⟨p1,p2⟩:=(HST2.out.below hD).place HK.out ((a:Int)+(o.size:Int));exact⟨rfl,p1,((p2.after hD).after HBL.out).after HW.out⟩
end
end Go.Proofs.YtlgidcmmgohagaaGreat
