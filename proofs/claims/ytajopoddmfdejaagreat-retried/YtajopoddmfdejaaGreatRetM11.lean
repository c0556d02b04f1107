/-
  What is proved here: 'find', walked: the way to a path, over whatever 'look' answers. 'find', walked: the way to a path, where something stands there. 'look', walked: what is in the directory at a path, over ..
-/
import Derived.Test.YtajopoddmfdejaaGreatRetM10
namespace Go.Proofs.YtajopoddmfdejaaGreat
open Go.RowKit Go.Sort Go.Shelf
set_option linter.unusedVariables false
set_option maxRecDepth 100000
set_option maxHeartbeats 16000000
theorem grown_refl (w:World)(b:Option Nat):w.grownBy w b:=⟨rfl,rfl,rfl,Nat.le_refl _,fun _ _ _=>rfl⟩
theorem grown_set {w w':World}{b o:Nat}{v:Value}(h:w.grownBy w' (some b)):w.grownBy (w'.setCell ⟨b,o,none⟩ v) (some b):=
 ⟨h.os,h.tape,h.output,by simp;exact h.size,fun k hk hne=>(Below.heap_setCell _ _ _ _ (fun e=>hne (by rw[e]))).trans (h.block k hk hne)⟩
theorem grown_below {w w' w'':World}{b:Nat}(h:Below w.heap.size w w')(k:w'.grownBy w'' (some b)):w.grownBy w'' (some b):=
 ⟨k.os.trans h.os,k.tape.trans h.tape,k.output.trans h.output,Nat.le_trans h.size k.size,fun i hi hne=>(k.block i (Nat.lt_of_lt_of_le hi h.size) hne).trans (h.block i hi)⟩
def Stays (w W w3:World):Prop:=W.heap.size<=w3.heap.size/\∀ b,w.heap.size<=b->b<W.heap.size->w3.heap[b]? = W.heap[b]?
theorem Stays.cell {w W w3:World}(h:Stays w W w3){b:Nat}(h1:w.heap.size<=b)(h2:b<W.heap.size)(o:Nat):w3.cell? ⟨b,o,none⟩=W.cell? ⟨b,o,none⟩:=World.cell?_of_block (a:=⟨b,o,none⟩) (h.2 b h1 h2)
theorem Stays.frozen {w W w3:World}(h:Stays w W w3){b:Nat}(h1:w.heap.size<=b)(h2:b<W.heap.size)(o:Nat):w3.frozen? ⟨b,o,none⟩=W.frozen? ⟨b,o,none⟩:=World.frozen?_of_block (a:=⟨b,o,none⟩) (h.2 b h1 h2)
theorem find_root (t:Nat)(id:Int)(w:World)(ht:t<w.heap.size)(c4:w.cell? ⟨t,4,none⟩=some (.string ⟨#[]⟩))(c5:w.cell? ⟨t,5,none⟩=some (.int .i64 2))(c6:w.cell? ⟨t,6,none⟩=some (.int .i64 id)):
  Calls Tryz.prog 80 #[.pointer (some ⟨t,0,none⟩),.agg #[.string ⟨#[]⟩,.string ⟨#[]⟩,.string ⟨#[]⟩,.string ⟨#[]⟩,.string ⟨#[]⟩]] w fun e w'=>e=.returned (.tuple #[.agg #[.string ⟨#[]⟩,.int .i64 2,.int .i64 id],.int .i64 0])/\Below w.heap.size w w':=by
 have hroot:=fun W=>root_any W
 have heq:∀ W,(Op.equalIn 10000 104 (pathV []) (pathV [])).run Tryz.prog W=.ok true W:=fun W=>by
  have:=run_eqP Good.nil Good.nil W
  rw[decide_eq_true rfl] at this;exact this
 unfold pathV pathA at hroot heq
 simp only[List.getD_nil] at hroot heq
 go_enter Tryz.func80,Tryz.ntmps80
 go_wp2
 go_region_with (go_at_call 66;refine (hroot _).mono ?_;rintro e w1 ⟨rfl,hb1⟩;obtain⟨hc1,hf1⟩:=bcell hb1;obtain⟨hz0,hz1⟩:=two_size hb1)
 all_goals
  have ht1:t<w.heap.size+2:=by omega
  go_wp2
  exact bodyPost_ret (v:=.tuple #[.agg #[.string ⟨#[]⟩,.int .i64 2,.int .i64 id],.int .i64 0]) (by simp[results,Tryz.results80,go_sem,hc1]) rfl ⟨rfl,by
   have h1:Below w.heap.size w w1:=below_via (below_drew (((Below.refl _ _).alloc (Nat.le_refl _) _).alloc (by simp) _)) hb1
   repeat (first | exact h1 | (refine Below.setCell ?_ (by simp) _))⟩
theorem find_err (t:Nat)(s0 s1 s2 s3 s4 r0 r1 r2 r3 r4:ByteArray)(R:Value->World->World->Prop)(er:Int)(her:(er == 0)=false)(w:World)
  (heq:∀ W,(Op.equalIn 10000 104 (.agg #[.string s0,.string s1,.string s2,.string s3,.string s4]) (.agg #[.string ⟨#[]⟩,.string ⟨#[]⟩,.string ⟨#[]⟩,.string ⟨#[]⟩,.string ⟨#[]⟩])).run Tryz.prog W=.ok false W)
  (hpar:∀ W,Calls Tryz.prog 76 #[.agg #[.string s0,.string s1,.string s2,.string s3,.string s4]] W fun e w'=>e=.returned (.agg #[.string r0,.string r1,.string r2,.string r3,.string r4])/\Below W.heap.size W w')
  (hlook:∀ W,Below w.heap.size w W->Calls Tryz.prog 75 #[.pointer (some ⟨t,0,none⟩),.agg #[.string r0,.string r1,.string r2,.string r3,.string r4]] W fun e w'=>∃ v,e=.returned (.tuple #[v,.int .i64 er])/\R v W w')
  (hst:∀ v W w3,R v W w3->Stays w W w3):
  Calls Tryz.prog 80 #[.pointer (some ⟨t,0,none⟩),.agg #[.string s0,.string s1,.string s2,.string s3,.string s4]] w fun e w'=>e=.returned (.tuple #[.agg #[.string ⟨#[]⟩,.int .i64 0,.int .i64 0],.int .i64 er])/\∃ v W w3,Below w.heap.size w W/\w.heap.size+1<W.heap.size/\R v W w3/\w3.grownBy w' (some (w.heap.size+1)):=by
 have hroot:=fun W=>root_any W
 unfold pathV pathA at hroot
 simp only[List.getD_nil] at hroot
 go_enter Tryz.func80,Tryz.ntmps80
 go_wp2
 go_region_with (go_at_call 66;refine (hroot _).mono ?_;rintro e w1 ⟨rfl,hb1⟩;obtain⟨hc1,hf1⟩:=bcell hb1;obtain⟨hz0,hz1⟩:=two_size hb1)
 all_goals
  have h1:Below w.heap.size w w1:=below_via (below_drew (((Below.refl _ _).alloc (Nat.le_refl _) _).alloc (by simp) _)) hb1
  go_wp2_with (first
   | (go_at_call 76;refine (hpar _).mono ?_;rintro e w2 ⟨rfl,hb2⟩;obtain⟨hc2,hf2⟩:=bcell hb2;have hz2:w.heap.size+1<w2.heap.size:=Nat.lt_of_lt_of_le hz1 hb2.size;have hz3:w.heap.size<w2.heap.size:=Nat.lt_of_lt_of_le hz0 hb2.size)
   | (go_at_call 75;refine (hlook _ (below_via h1 hb2)).mono ?_;rintro e w3 ⟨v,rfl,hR⟩;have hS:=hst _ _ _ hR;have k0:=hS.cell (Nat.le_refl _) hz3;have k1:=hS.cell (b:=w.heap.size+1) (by omega) hz2;have k2:=hS.frozen (b:=w.heap.size+1) (by omega) hz2;have HR:Hid _:=hR;have hz4:w.heap.size<w3.heap.size:=Nat.lt_of_lt_of_le hz3 hS.1;have hz5:w.heap.size+1<w3.heap.size:=Nat.lt_of_lt_of_le hz2 hS.1;clear hR hS))
  exact bodyPost_ret (v:=.tuple #[.agg #[.string ⟨#[]⟩,.int .i64 0,.int .i64 0],.int .i64 er]) (by simp[results,Tryz.results80,go_sem,hc1,hc2,k1,hz1]) rfl ⟨rfl,v,w2,w3,below_via h1 hb2,hz2,HR.out,by
   repeat (first | exact grown_refl _ _ | (refine grown_set ?_))⟩
theorem find_none (t:Nat)(s0 s1 s2 s3 s4 r0 r1 r2 r3 r4:ByteArray)(R:Value->World->World->Prop)(x:ByteArray)(ix:Int)(w:World)
  (heq:∀ W,(Op.equalIn 10000 104 (.agg #[.string s0,.string s1,.string s2,.string s3,.string s4]) (.agg #[.string ⟨#[]⟩,.string ⟨#[]⟩,.string ⟨#[]⟩,.string ⟨#[]⟩,.string ⟨#[]⟩])).run Tryz.prog W=.ok false W)
  (hpar:∀ W,Calls Tryz.prog 76 #[.agg #[.string s0,.string s1,.string s2,.string s3,.string s4]] W fun e w'=>e=.returned (.agg #[.string r0,.string r1,.string r2,.string r3,.string r4])/\Below W.heap.size W w')
  (hlook:∀ W,Below w.heap.size w W->Calls Tryz.prog 75 #[.pointer (some ⟨t,0,none⟩),.agg #[.string r0,.string r1,.string r2,.string r3,.string r4]] W fun e w'=>∃ v,e=.returned (.tuple #[v,.int .i64 0])/\R v W w')
  (hname:∀ W,Calls Tryz.prog 78 #[.agg #[.string s0,.string s1,.string s2,.string s3,.string s4]] W fun e w'=>e=.returned (.string x)/\Below W.heap.size W w')
  (hsea:∀ v W w3,R v W w3->∀ W2,Below w3.heap.size w3 W2->Calls Tryz.prog 77 #[v,.string x] W2 fun e w'=>e=.returned (.tuple #[.int .i64 ix,.bool false])/\Below W2.heap.size W2 w')
  (hst:∀ v W w3,R v W w3->Stays w W w3):
  Calls Tryz.prog 80 #[.pointer (some ⟨t,0,none⟩),.agg #[.string s0,.string s1,.string s2,.string s3,.string s4]] w fun e w'=>e=.returned (.tuple #[.agg #[.string ⟨#[]⟩,.int .i64 0,.int .i64 0],.int .i64 4])/\∃ v W w3,Below w.heap.size w W/\w.heap.size+1<W.heap.size/\R v W w3/\w3.grownBy w' (some (w.heap.size+1)):=by
 have hroot:=fun W=>root_any W
 unfold pathV pathA at hroot
 simp only[List.getD_nil] at hroot
 go_enter Tryz.func80,Tryz.ntmps80
 go_wp2
 go_region_with (go_at_call 66;refine (hroot _).mono ?_;rintro e w1 ⟨rfl,hb1⟩;obtain⟨hc1,hf1⟩:=bcell hb1;obtain⟨hz0,hz1⟩:=two_size hb1)
 all_goals
  have h1:Below w.heap.size w w1:=below_via (below_drew (((Below.refl _ _).alloc (Nat.le_refl _) _).alloc (by simp) _)) hb1
  go_wp2_with (first
   | (go_at_call 76;refine (hpar _).mono ?_;rintro e w2 ⟨rfl,hb2⟩;obtain⟨hc2,hf2⟩:=bcell hb2;have hz2:w.heap.size+1<w2.heap.size:=Nat.lt_of_lt_of_le hz1 hb2.size;have hz3:w.heap.size<w2.heap.size:=Nat.lt_of_lt_of_le hz0 hb2.size)
   | (go_at_call 75;refine (hlook _ (below_via h1 hb2)).mono ?_;rintro e w3 ⟨v,rfl,hR⟩;have hS:=hst _ _ _ hR;have k0:=hS.cell (Nat.le_refl _) hz3;have k1:=hS.cell (b:=w.heap.size+1) (by omega) hz2;have k2:=hS.frozen (b:=w.heap.size+1) (by omega) hz2;have HR:Hid _:=hR;have hz4:w.heap.size<w3.heap.size:=Nat.lt_of_lt_of_le hz3 hS.1;have hz5:w.heap.size+1<w3.heap.size:=Nat.lt_of_lt_of_le hz2 hS.1;clear hR hS)
   | (go_at_call 78;refine (hname _).mono ?_;rintro e w4 ⟨rfl,hb4⟩;obtain⟨hc4,hf4⟩:=bcell hb4;have hz6:w.heap.size+1<w4.heap.size:=Nat.lt_of_lt_of_le hz5 hb4.size)
   | (go_at_call 77;refine (hsea _ _ _ HR.out _ hb4).mono ?_;rintro e w5 ⟨rfl,hb5⟩;obtain⟨hc5,hf5⟩:=bcell hb5))
  exact bodyPost_ret (v:=.tuple #[.agg #[.string ⟨#[]⟩,.int .i64 0,.int .i64 0],.int .i64 4]) (by simp[results,Tryz.results80,go_sem,hc1,hc2,k1,hc4,hc5,hz1,hz5,hz6]) rfl ⟨rfl,v,w2,w3,below_via h1 hb2,hz2,HR.out,by
   refine grown_below (below_via hb4 hb5) ?_
   repeat (first | exact grown_refl _ _ | (refine grown_set ?_))⟩
theorem find_some (t:Nat)(s0 s1 s2 s3 s4 r0 r1 r2 r3 r4:ByteArray)(R:Value->World->World->Prop)(x:ByteArray)(k:Nat)(y:Ent)(w:World)
  (heq:∀ W,(Op.equalIn 10000 104 (.agg #[.string s0,.string s1,.string s2,.string s3,.string s4]) (.agg #[.string ⟨#[]⟩,.string ⟨#[]⟩,.string ⟨#[]⟩,.string ⟨#[]⟩,.string ⟨#[]⟩])).run Tryz.prog W=.ok false W)
  (hpar:∀ W,Calls Tryz.prog 76 #[.agg #[.string s0,.string s1,.string s2,.string s3,.string s4]] W fun e w'=>e=.returned (.agg #[.string r0,.string r1,.string r2,.string r3,.string r4])/\Below W.heap.size W w')
  (hlook:∀ W,Below w.heap.size w W->Calls Tryz.prog 75 #[.pointer (some ⟨t,0,none⟩),.agg #[.string r0,.string r1,.string r2,.string r3,.string r4]] W fun e w'=>∃ gb ln cp,e=.returned (.tuple #[.slice (some ⟨gb,0,none⟩) ln cp,.int .i64 0])/\R (.slice (some ⟨gb,0,none⟩) ln cp) W w')
  (hname:∀ W,Calls Tryz.prog 78 #[.agg #[.string s0,.string s1,.string s2,.string s3,.string s4]] W fun e w'=>e=.returned (.string x)/\Below W.heap.size W w')
  (hsea:∀ v W w3,R v W w3->∀ W2,Below w3.heap.size w3 W2->Calls Tryz.prog 77 #[v,.string x] W2 fun e w'=>e=.returned (.tuple #[.int .i64 (k:Int),.bool true])/\Below W2.heap.size W2 w')
  (hcell:∀ gb ln cp W w3,R (.slice (some ⟨gb,0,none⟩) ln cp) W w3->gb<w3.heap.size/\k<ln/\ln<=16/\w3.cell? ⟨gb,k*3,none⟩=some (.string y.1)/\w3.cell? ⟨gb,k*3+1,none⟩=some (.int .i64 y.2.1)/\w3.cell? ⟨gb,k*3+2,none⟩=some (.int .i64 y.2.2))
  (hst:∀ v W w3,R v W w3->Stays w W w3):
  Calls Tryz.prog 80 #[.pointer (some ⟨t,0,none⟩),.agg #[.string s0,.string s1,.string s2,.string s3,.string s4]] w fun e w'=>e=.returned (.tuple #[.agg #[.string y.1,.int .i64 y.2.1,.int .i64 y.2.2],.int .i64 0])/\∃ v W w3,Below w.heap.size w W/\w.heap.size+1<W.heap.size/\R v W w3/\w3.grownBy w' (some (w.heap.size+1)):=by
 have hroot:=fun W=>root_any W
 unfold pathV pathA at hroot
 simp only[List.getD_nil] at hroot
 go_enter Tryz.func80,Tryz.ntmps80
 go_wp2
 go_region_with (go_at_call 66;refine (hroot _).mono ?_;rintro e w1 ⟨rfl,hb1⟩;obtain⟨hc1,hf1⟩:=bcell hb1;obtain⟨hz0,hz1⟩:=two_size hb1)
 all_goals
  have h1:Below w.heap.size w w1:=below_via (below_drew (((Below.refl _ _).alloc (Nat.le_refl _) _).alloc (by simp) _)) hb1
  go_wp2_with (first
   | (go_at_call 76;refine (hpar _).mono ?_;rintro e w2 ⟨rfl,hb2⟩;obtain⟨hc2,hf2⟩:=bcell hb2;have hz2:w.heap.size+1<w2.heap.size:=Nat.lt_of_lt_of_le hz1 hb2.size;have hz3:w.heap.size<w2.heap.size:=Nat.lt_of_lt_of_le hz0 hb2.size)
   | (go_at_call 75;refine (hlook _ (below_via h1 hb2)).mono ?_;rintro e w3 ⟨gb,ln,cp,rfl,hR⟩;have hS:=hst _ _ _ hR;obtain⟨hgl,hkl,hl16,y0,y1,y2⟩:=hcell _ _ _ _ _ hR;have k0:=hS.cell (Nat.le_refl _) hz3;have k1:=hS.cell (b:=w.heap.size+1) (by omega) hz2;have k2:=hS.frozen (b:=w.heap.size+1) (by omega) hz2;have HR:Hid _:=hR;have hz4:w.heap.size<w3.heap.size:=Nat.lt_of_lt_of_le hz3 hS.1;have hz5:w.heap.size+1<w3.heap.size:=Nat.lt_of_lt_of_le hz2 hS.1;clear hR hS)
   | (go_at_call 78;refine (hname _).mono ?_;rintro e w4 ⟨rfl,hb4⟩;obtain⟨hc4,hf4⟩:=bcell hb4;have hz6:w.heap.size+1<w4.heap.size:=Nat.lt_of_lt_of_le hz5 hb4.size;have hz7:gb<w4.heap.size:=Nat.lt_of_lt_of_le hgl hb4.size)
   | (go_at_call 77;refine (hsea _ _ _ HR.out _ hb4).mono ?_;rintro e w5 ⟨rfl,hb5⟩;obtain⟨hc5,hf5⟩:=bcell hb5))
  exact bodyPost_ret (v:=.tuple #[.agg #[.string y.1,.int .i64 y.2.1,.int .i64 y.2.2],.int .i64 0]) (by simp[results,Tryz.results80,go_sem,hc1,hc2,k1,hc4,hc5,hz1,hz5,hz6]) rfl ⟨rfl,_,w2,w3,below_via h1 hb2,hz2,HR.out,by
   refine grown_below (below_via hb4 hb5) ?_
   repeat (first | exact grown_refl _ _ | (refine grown_set ?_))⟩
theorem look_err (t:Nat)(s0 s1 s2 s3 s4 a:ByteArray)(k id er:Int)(R:World->World->Prop)(w:World)(her:(er == 0)=false)
  (hfind:∀ W,Below w.heap.size w W->Calls Tryz.prog 80 #[.pointer (some ⟨t,0,none⟩),.agg #[.string s0,.string s1,.string s2,.string s3,.string s4]] W fun e w'=>e=.returned (.tuple #[.agg #[.string a,.int .i64 k,.int .i64 id],.int .i64 er])/\R W w'):
  Calls Tryz.prog 75 #[.pointer (some ⟨t,0,none⟩),.agg #[.string s0,.string s1,.string s2,.string s3,.string s4]] w fun e w'=>e=.returned (.tuple #[.slice none 0 0,.int .i64 er])/\∃ W w3,Below w.heap.size w W/\R W w3/\Below w3.heap.size w3 w':=by
 have hf:=hfind _ ((Below.refl w.heap.size w).alloc (Nat.le_refl _) (.cells #[.string s0,.string s1,.string s2,.string s3,.string s4] 104))
 clear hfind
 go_enter Tryz.func75,Tryz.ntmps75
 go_wp2_with (go_at_call 80;refine hf.mono ?_;rintro e w3 ⟨rfl,hR⟩;have HR:Hid _:=hR;clear hR)
 go_ret2
 exact⟨rfl,_,w3,(Below.refl w.heap.size w).alloc (Nat.le_refl _) _,HR.out,by repeat (first | exact Below.refl _ _ | (refine Below.alloc ?_ (by simp) _) | (refine Below.setCell ?_ (by simp) _))⟩
theorem look_ok (t:Nat)(s0 s1 s2 s3 s4 a:ByteArray)(k id:Int)(R:World->World->Prop)(S:Value->Int->World->World->Prop)(w:World)
  (hfind:∀ W,Below w.heap.size w W->Calls Tryz.prog 80 #[.pointer (some ⟨t,0,none⟩),.agg #[.string s0,.string s1,.string s2,.string s3,.string s4]] W fun e w'=>e=.returned (.tuple #[.agg #[.string a,.int .i64 k,.int .i64 id],.int .i64 0])/\R W w')
  (hents:∀ W w3,R W w3->∀ W2,Below w3.heap.size w3 W2->Calls Tryz.prog 118 #[.pointer (some ⟨t,0,none⟩),.agg #[.string s0,.string s1,.string s2,.string s3,.string s4],.agg #[.string a,.int .i64 k,.int .i64 id]] W2 fun e w'=>∃ v er,e=.returned (.tuple #[v,.int .i64 er])/\S v er W2 w')
  (hst:∀ W w3,R W w3->Stays w W w3):
  Calls Tryz.prog 75 #[.pointer (some ⟨t,0,none⟩),.agg #[.string s0,.string s1,.string s2,.string s3,.string s4]] w fun e w'=>∃ v er W w3 W2,Below w.heap.size w W/\R W w3/\Below w3.heap.size w3 W2/\e=.returned (.tuple #[v,.int .i64 er])/\S v er W2 w':=by
 have hf:=hfind _ ((Below.refl w.heap.size w).alloc (Nat.le_refl _) (.cells #[.string s0,.string s1,.string s2,.string s3,.string s4] 104))
 clear hfind
 go_enter Tryz.func75,Tryz.ntmps75
 go_wp2_with (first
  | (go_at_call 80;refine hf.mono ?_;rintro e w3 ⟨rfl,hR⟩;have hS:=hst _ _ hR;have k0:=hS.cell (Nat.le_refl _) (by simp);have hz:w.heap.size<w3.heap.size:=Nat.lt_of_lt_of_le (by simp) hS.1;have HR:Hid _:=hR;clear hR hS)
  | (go_at_call 118;refine (hents _ _ HR.out _ (by repeat (first | exact Below.refl _ _ | (refine Below.alloc ?_ (by simp) _) | (refine Below.setCell ?_ (by simp) _)))).mono ?_;rintro e w4 ⟨v,er,rfl,hS⟩;have HS:Hid _:=hS;clear hS))
 go_ret2
 exact⟨v,er,_,w3,_,(Below.refl w.heap.size w).alloc (Nat.le_refl _) _,HR.out,by repeat (first | exact Below.refl _ _ | (refine Below.alloc ?_ (by simp) _) | (refine Below.setCell ?_ (by simp) _)),rfl,HS.out⟩
end Go.Proofs.YtajopoddmfdejaaGreat
