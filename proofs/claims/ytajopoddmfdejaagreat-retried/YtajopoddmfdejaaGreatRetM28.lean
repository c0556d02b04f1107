/-
  What is proved here: what canopykeep's steps leave of the root: the file e stands there as it was stored, beside at most four other names; no file has been fetched. what Remove, Rename and Open make of a root ..
-/
import Derived.Test.YtajopoddmfdejaaGreatRetM08
import Derived.Test.YtajopoddmfdejaaGreatRetM27
import Derived.Test.YtajopoddmfdejaaGreatRetM25
import Derived.Test.YtajopoddmfdejaaGreatRetM26
namespace Go.Proofs.YtajopoddmfdejaaGreat
open Go.RowKit Go.Sort Go.Shelf
set_option linter.unusedVariables false
set_option maxRecDepth 100000
set_option maxHeartbeats 16000000
def FS.Q (s s':FS):Prop:=s'.kF=s.kF/\(s.brk=false->s'.brk=false)
theorem FS.Q.refl (s:FS):s.Q s:=⟨rfl,id⟩
theorem FS.Q.trans {s s' s'':FS}(h:s.Q s')(k:s'.Q s''):s.Q s'':=⟨k.1.trans h.1,fun hb=>k.2 (h.2 hb)⟩
theorem q_dir (s:FS)(id:Int):s.Q (s.dirG id).1:=by
 unfold FS.dirG
 split
 ·exact FS.Q.refl _
 ·split
  ·exact⟨rfl,fun _=>rfl⟩
  ·exact⟨rfl,fun h=>h⟩
theorem q_kids (objs:List Ob)(s:FS)(c:LT):s.Q (kidsG objs s c).1:=by
 cases c with
 | dir id=>
  have:=q_dir s id
  show s.Q (if (s.dirG id).2=true then ((s.dirG id).1,(0:Int),(entsOf objs id).map kidOf) else ((s.dirG id).1,14,[])).1
  split <;> exact this
 | file id=>exact FS.Q.refl _
 | held f=>exact FS.Q.refl _
 | own es=>exact FS.Q.refl _
theorem q_find (objs:List Ob)(t:LT)(s:FS):∀ r,s.Q (findR objs t s r).1
 | []=>FS.Q.refl _
 | n :: r=>by
  have ih:=q_find objs t s r
  have hk:=q_kids objs (findR objs t s r).1 (findR objs t s r).2.2
  rw[findR]
  simp only
  split
  ·exact ih
  ·split
   ·exact ih.trans hk
   ·split <;> exact ih.trans hk
theorem q_look (objs:List Ob)(t:LT)(s:FS)(r:List ByteArray):s.Q (lookR objs t s r).1:=by
 have ih:=q_find objs t s r
 have hk:=q_kids objs (findR objs t s r).1 (findR objs t s r).2.2
 unfold lookR
 simp only
 split
 ·exact ih
 ·exact ih.trans hk
theorem q_vacant (objs:List Ob)(s:FS)(c:LT):s.Q (vacantG objs s c).1:=by
 have hk:=q_kids objs s c
 unfold vacantG
 split
 ·exact FS.Q.refl _
 ·simp only
  split <;> exact hk
theorem q_room (objs:List Ob)(s:FS)(b:Bool)(ks:Kids)(n:ByteArray)(c:LT):s.Q (roomG objs s b ks n c).1:=by
 unfold roomG
 split
 ·rename_i e _
  unfold yieldsG
  split
  ·exact FS.Q.refl _
  ·split
   ·exact FS.Q.refl _
   ·exact q_vacant objs s e
 ·split <;> exact FS.Q.refl _
theorem q_mkdir (objs:List Ob)(t:LT)(s:FS)(n:ByteArray)(r:List ByteArray):s.Q (mkdirR objs t s (n :: r)).1:=by
 have h:=q_look objs t s r
 unfold mkdirR
 simp only
 split
 ·exact h
 ·split
  ·exact h
  ·split <;> exact h
theorem q_remove (objs:List Ob)(t:LT)(s:FS)(n:ByteArray)(r:List ByteArray):s.Q (removeR objs t s (n :: r)).1:=by
 have h:=q_find objs t s (n :: r)
 have hv:=q_vacant objs (findR objs t s (n :: r)).1 (findR objs t s (n :: r)).2.2
 unfold removeR
 simp only
 split
 ·exact h
 ·split <;> exact h.trans hv
theorem q_rename (objs:List Ob)(t:LT)(s:FS)(n m:ByteArray)(r q:List ByteArray):s.Q (renameR objs t s (n :: r) (m :: q)).1:=by
 have h:=q_find objs t s (n :: r)
 have hl:=q_look objs t (findR objs t s (n :: r)).1 q
 have hr:=q_room objs (lookR objs t (findR objs t s (n :: r)).1 q).1 (decide (r=q)) (lookR objs t (findR objs t s (n :: r)).1 q).2.2 m (findR objs t s (n :: r)).2.2
 unfold renameR
 simp only
 split
 ·exact h
 ·split
  ·exact h
  ·split
   ·exact h.trans hl
   ·split
    ·exact (h.trans hl).trans hr
    ·split <;> exact (h.trans hl).trans hr
theorem Letters.split {l:List ByteArray}(h:Letters l):∃ (n:ByteArray) (r:List ByteArray),l=r.reverse ++ [n]:=by
 have hne:l ≠ []:=fun e=>by have:=h.pos;rw[e] at this;simp at this
 exact⟨l.getLast hne,l.dropLast.reverse,by rw[List.reverse_reverse,List.dropLast_concat_getLast]⟩
theorem own_find_some {objs:List Ob}{ks:Kids}{fs:FS}{n:ByteArray}{c:LT}(h:pickK ks n=some c):findR objs (.own ks) fs [n]=(fs,0,c):=by
 simp[findR,kidsG,h]
theorem own_look (objs:List Ob)(ks:Kids)(fs:FS):lookR objs (.own ks) fs []=(fs,0,ks):=rfl
theorem TabAt.below {w w':World}{b:Nat}{vs:Nat->Option Nat}(h:TabAt w b vs)(hb:Below w.heap.size w w'):TabAt w' b vs:=
 ⟨Nat.lt_of_lt_of_le h.1 hb.size,fun k hk=>((bcell hb).1 b _ h.1).trans (h.2.1 k hk),fun o=>((bcell hb).2 b o h.1).trans (h.2.2 o)⟩
theorem mkdir_ws (wb bt:Nat)(l:List ByteArray)(hl:Good l)(er:Int)(R:World->Prop)(w:World)(hwb:wb<w.heap.size)(c0:w.cell? ⟨wb,0,none⟩=some (.pointer (some ⟨bt,0,none⟩)))
  (hc:∀ W,Below w.heap.size w W->Calls Tryz.prog 47 #[.pointer (some ⟨bt,0,none⟩),.agg (pathA l)] W fun e w'=>e=.returned (.int .i64 er)/\R w'):
  Calls Tryz.prog 23 #[.pointer (some ⟨wb,0,none⟩),.string (joinB l)] w fun e w'=>e=.returned (.int .i64 er)/\R w':=by
 have hpa:=fun W=>parse_any l hl W
 obtain⟨s0,s1,s2,s3,s4,hP⟩:∃ s0 s1 s2 s3 s4,pathA l = #[.string s0,.string s1,.string s2,.string s3,.string s4]:=⟨_,_,_,_,_,rfl⟩
 unfold pathV at hpa
 simp only[hP] at hpa hc
 have HC:Hid _:=hc
 clear hc hP hl
 generalize joinB l=tx at hpa ⊢
 go_enter Tryz.func23,Tryz.ntmps23
 go_wp2_with (go_at_call 46;refine Calls.mono (hpa _) ?_;rintro e w1 ⟨rfl,hb1⟩;have d0:=((bcell hb1).1 wb 0 hwb).trans c0;have hw1:=Nat.lt_of_lt_of_le hwb hb1.size)
 have hcc:=HC.out (w1.alloc (.cells #[.string s0,.string s1,.string s2,.string s3,.string s4] 104)).drew (below_drew (hb1.alloc hb1.size _))
 have HCC:Hid _:=hcc
 clear hcc HC
 go_region_with (go_at_call 47;refine Calls.mono HCC.out ?_;rintro e w2 ⟨rfl,hR⟩)
 all_goals
  go_wp2
  go_ret
  exact⟨rfl,hR⟩
theorem remove_ws (wb bt:Nat)(l:List ByteArray)(hl:Good l)(er:Int)(R:World->Prop)(w:World)(hwb:wb<w.heap.size)(c0:w.cell? ⟨wb,0,none⟩=some (.pointer (some ⟨bt,0,none⟩)))
  (hc:∀ W,Below w.heap.size w W->Calls Tryz.prog 49 #[.pointer (some ⟨bt,0,none⟩),.agg (pathA l)] W fun e w'=>e=.returned (.int .i64 er)/\R w'):
  Calls Tryz.prog 25 #[.pointer (some ⟨wb,0,none⟩),.string (joinB l)] w fun e w'=>e=.returned (.int .i64 er)/\R w':=by
 have hpa:=fun W=>parse_any l hl W
 obtain⟨s0,s1,s2,s3,s4,hP⟩:∃ s0 s1 s2 s3 s4,pathA l = #[.string s0,.string s1,.string s2,.string s3,.string s4]:=⟨_,_,_,_,_,rfl⟩
 unfold pathV at hpa
 simp only[hP] at hpa hc
 have HC:Hid _:=hc
 clear hc hP hl
 generalize joinB l=tx at hpa ⊢
 go_enter Tryz.func25,Tryz.ntmps25
 go_wp2_with (go_at_call 46;refine Calls.mono (hpa _) ?_;rintro e w1 ⟨rfl,hb1⟩;have d0:=((bcell hb1).1 wb 0 hwb).trans c0;have hw1:=Nat.lt_of_lt_of_le hwb hb1.size)
 have hcc:=HC.out (w1.alloc (.cells #[.string s0,.string s1,.string s2,.string s3,.string s4] 104)).drew (below_drew (hb1.alloc hb1.size _))
 have HCC:Hid _:=hcc
 clear hcc HC
 go_region_with (go_at_call 49;refine Calls.mono HCC.out ?_;rintro e w2 ⟨rfl,hR⟩)
 all_goals
  go_wp2
  go_ret
  exact⟨rfl,hR⟩
theorem rename_ws (wb bt:Nat)(l m:List ByteArray)(hl:Good l)(hm:Good m)(er:Int)(R:World->Prop)(w:World)(hwb:wb<w.heap.size)(c0:w.cell? ⟨wb,0,none⟩=some (.pointer (some ⟨bt,0,none⟩)))
  (hc:∀ W,Below w.heap.size w W->Calls Tryz.prog 48 #[.pointer (some ⟨bt,0,none⟩),.agg (pathA l),.agg (pathA m)] W fun e w'=>e=.returned (.int .i64 er)/\R w'):
  Calls Tryz.prog 24 #[.pointer (some ⟨wb,0,none⟩),.string (joinB l),.string (joinB m)] w fun e w'=>e=.returned (.int .i64 er)/\R w':=by
 have hpa:=fun W=>parse_any l hl W
 have hpb:=fun W=>parse_any m hm W
 obtain⟨s0,s1,s2,s3,s4,hP⟩:∃ s0 s1 s2 s3 s4,pathA l = #[.string s0,.string s1,.string s2,.string s3,.string s4]:=⟨_,_,_,_,_,rfl⟩
 obtain⟨d0,d1,d2,d3,d4,hQ⟩:∃ s0 s1 s2 s3 s4,pathA m = #[.string s0,.string s1,.string s2,.string s3,.string s4]:=⟨_,_,_,_,_,rfl⟩
 unfold pathV at hpa hpb
 simp only[hP] at hpa hc
 simp only[hQ] at hpb hc
 have HC:Hid _:=hc
 clear hc hP hQ hl hm
 generalize joinB l=tx at hpa ⊢
 generalize joinB m=ty at hpb ⊢
 go_enter Tryz.func24,Tryz.ntmps24
 go_wp2_with fail
 refine Calls.mono (hpa w) ?_
 rintro e w1 ⟨rfl,hb1⟩
 have e0:=((bcell hb1).1 wb 0 hwb).trans c0
 have hw1:=Nat.lt_of_lt_of_le hwb hb1.size
 have b1:Below w.heap.size w (w1.alloc (.cells #[.string s0,.string s1,.string s2,.string s3,.string s4] 104)):=hb1.alloc hb1.size _
 have z1:w1.heap.size<(w1.alloc (.cells #[.string s0,.string s1,.string s2,.string s3,.string s4] 104)).heap.size:=by simp
 have zb:wb<(w1.alloc (.cells #[.string s0,.string s1,.string s2,.string s3,.string s4] 104)).heap.size:=by simp;omega
 go_wp2_with fail
 refine Calls.mono (hpb _) ?_
 rintro e w2 ⟨rfl,hb2⟩
 have f0:=((bcell (below_via b1 hb2)).1 wb 0 hwb).trans c0
 have k1:=fun o=>(bcell hb2).1 w1.heap.size o z1
 have hw2:=Nat.lt_of_lt_of_le zb hb2.size
 have hw21:=Nat.lt_of_lt_of_le z1 hb2.size
 have b2:=below_via b1 hb2
 have hcc:=HC.out (w2.alloc (.cells #[.string d0,.string d1,.string d2,.string d3,.string d4] 104)).drew (below_drew (b2.alloc b2.size _))
 have HCC:Hid _:=hcc
 clear hcc HC hpa hpb hb1 hb2 b1 b2 e0
 go_wp2
 go_region_with (go_at_call 48;refine Calls.mono HCC.out ?_;rintro e w3 ⟨rfl,hR⟩)
 all_goals
  go_wp2
  go_ret
  exact⟨rfl,hR⟩
theorem open_ws_err (wb bt k:Nat)(vs:Nat->Option Nat)(fg:Int)(l:List ByteArray)(hl:Good l)(er:Int)(her:er≠0)(R:World->Prop)(w:World)(ht:TabAt w wb vs)(c0:w.cell? ⟨wb,0,none⟩=some (.pointer (some ⟨bt,0,none⟩)))(hk:k<8)(h0:vs k=none)(h1:∀ j,j<k->vs j≠none)
  (hv:∀ W,Calls Tryz.prog 90 #[.int .i64 fg] W fun e w'=>e=.returned (.bool true)/\w'=W)
  (hc:∀ W,Below w.heap.size w W->Calls Tryz.prog 92 #[.pointer (some ⟨bt,0,none⟩),.agg (pathA l),.int .i64 fg] W fun e w'=>e=.returned (.tuple #[.pointer none,.int .i64 er])/\R w'):
  Calls Tryz.prog 50 #[.pointer (some ⟨wb,0,none⟩),.string (joinB l),.int .i64 fg] w fun e w'=>e=.returned (.tuple #[.int .i64 0,.int .i64 er])/\R w':=by
 have hpa:=fun W=>parse_any l hl W
 have hwb:=ht.1
 have her':(er == 0)=false:=by simpa using her
 obtain⟨s0,s1,s2,s3,s4,hP⟩:∃ s0 s1 s2 s3 s4,pathA l = #[.string s0,.string s1,.string s2,.string s3,.string s4]:=⟨_,_,_,_,_,rfl⟩
 unfold pathV at hpa
 simp only[hP] at hpa hc
 have hfr:=fun W (hb:Below w.heap.size w W)=>free_walk wb k vs W (ht.below hb) hk h0 h1
 have HFR:Hid _:=hfr
 have HC:Hid _:=hc
 clear hc hP hl hfr ht h0 h1
 generalize joinB l=tx at hpa ⊢
 go_enter Tryz.func50,Tryz.ntmps50
 go_wp2_with (first
  | (go_at_call 46;refine Calls.mono (hpa _) ?_;rintro e w1 ⟨rfl,hb1⟩;have e0:=((bcell hb1).1 wb 0 hwb).trans c0;have hw1:=Nat.lt_of_lt_of_le hwb hb1.size)
  | (go_at_call 90;refine Calls.mono (hv _) ?_;rintro e w2 ⟨rfl,rfl⟩)
  | (go_at_call 91;go_loud (refine Calls.mono (HFR.out _ (hb1.alloc hb1.size _)) ?_;rintro e w3 ⟨rfl,rfl⟩)))
 have hcc:=HC.out (w1.alloc (.cells #[.string s0,.string s1,.string s2,.string s3,.string s4] 104)).drew (below_drew (hb1.alloc hb1.size _))
 have HCC:Hid _:=hcc
 clear hcc HC
 go_region_with (go_at_call 92;refine Calls.mono HCC.out ?_;rintro e w4 ⟨rfl,hR⟩)
 all_goals
  go_wp2
  go_ret2
  exact⟨rfl,hR⟩
theorem open_ws_ok (wb bt k:Nat)(vs:Nat->Option Nat)(fg:Int)(l:List ByteArray)(hl:Good l)(S:Nat->World->Prop)(w:World)(ht:TabAt w wb vs)(c0:w.cell? ⟨wb,0,none⟩=some (.pointer (some ⟨bt,0,none⟩)))(hk:k<8)(h0:vs k=none)(h1:∀ j,j<k->vs j≠none)
  (hv:∀ W,Calls Tryz.prog 90 #[.int .i64 fg] W fun e w'=>e=.returned (.bool true)/\w'=W)
  (hc:∀ W,Below w.heap.size w W->Calls Tryz.prog 92 #[.pointer (some ⟨bt,0,none⟩),.agg (pathA l),.int .i64 fg] W fun e w'=>∃ f,e=.returned (.tuple #[.pointer (some ⟨f,0,none⟩),.int .i64 0])/\S f w')
  (hS:∀ f w',S f w'->TabAt w' wb vs):
  Calls Tryz.prog 50 #[.pointer (some ⟨wb,0,none⟩),.string (joinB l),.int .i64 fg] w fun e w'=>e=.returned (.tuple #[.int .i64 (k:Int),.int .i64 0])/\∃ f w1,S f w1/\w'=(w1.setCell ⟨wb,1+k,none⟩ (.pointer (some ⟨w1.heap.size,0,none⟩))).alloc (.cells #[.pointer (some ⟨f,0,none⟩),.int .i64 fg,.int .i64 0] 208):=by
 have hpa:=fun W=>parse_any l hl W
 have hwb:=ht.1
 obtain⟨s0,s1,s2,s3,s4,hP⟩:∃ s0 s1 s2 s3 s4,pathA l = #[.string s0,.string s1,.string s2,.string s3,.string s4]:=⟨_,_,_,_,_,rfl⟩
 unfold pathV at hpa
 simp only[hP] at hpa hc
 have hfr:=fun W (hb:Below w.heap.size w W)=>free_walk wb k vs W (ht.below hb) hk h0 h1
 have hpt:=fun f w1 (h:S f w1)=>tput_walk wb k f fg _ w1 (hS f w1 h).1 ((hS f w1 h).2.1 k hk) ((hS f w1 h).2.2 _) hk
 have HFR:Hid _:=hfr
 have HC:Hid _:=hc
 have HPT:Hid _:=hpt
 clear hc hP hl hfr ht h0 h1 hpt hS
 generalize joinB l=tx at hpa ⊢
 go_enter Tryz.func50,Tryz.ntmps50
 go_wp2_with (first
  | (go_at_call 46;refine Calls.mono (hpa _) ?_;rintro e w1 ⟨rfl,hb1⟩;have e0:=((bcell hb1).1 wb 0 hwb).trans c0;have hw1:=Nat.lt_of_lt_of_le hwb hb1.size)
  | (go_at_call 90;refine Calls.mono (hv _) ?_;rintro e w2 ⟨rfl,rfl⟩)
  | (go_at_call 91;go_loud (refine Calls.mono (HFR.out _ (hb1.alloc hb1.size _)) ?_;rintro e w3 ⟨rfl,rfl⟩)))
 have hcc:=HC.out (w1.alloc (.cells #[.string s0,.string s1,.string s2,.string s3,.string s4] 104)).drew (below_drew (hb1.alloc hb1.size _))
 have HCC:Hid _:=hcc
 clear hcc HC
 go_region_with (go_at_call 92;refine Calls.mono HCC.out ?_;rintro e w4 ⟨f,rfl,hS4⟩;have HS4:Hid _:=hS4;clear hS4)
 all_goals
  go_wp2_with (go_at_call 93;go_loud (refine Calls.mono (HPT.out _ _ HS4.out) ?_;rintro e w5 ⟨rfl,rfl⟩))
  go_ret2
  exact⟨rfl,f,w4,HS4.out,rfl⟩
theorem read_ws (wb k o:Nat)(n:Int)(d:ByteArray)(er:Int)(R:World->Prop)(w:World)(hc:w.cell? ⟨wb,1+k,none⟩=some (.pointer (some ⟨o,0,none⟩)))(hk:k<8)
  (hr:Calls Tryz.prog 107 #[.pointer (some ⟨o,0,none⟩),.int .i64 n] w fun e w'=>e=.returned (.tuple #[.string d,.int .i64 er])/\R w'):
  Calls Tryz.prog 63 #[.pointer (some ⟨wb,0,none⟩),.int .i64 (k:Int),.int .i64 n] w fun e w'=>e=.returned (.tuple #[.string d,.int .i64 er])/\R w':=by
 have hat:=tat_some wb k o w hc hk
 go_enter Tryz.func63,Tryz.ntmps63
 go_wp2_with (first
  | (go_at_call 94;refine hat.mono ?_;rintro e w1 ⟨rfl,rfl⟩)
  | (go_at_call 107;refine hr.mono ?_;rintro e w1 ⟨rfl,hR⟩))
 go_ret2
 exact⟨rfl,hR⟩
theorem write_ws (wb k o:Nat)(d:ByteArray)(er:Int)(R:World->Prop)(w:World)(hc:w.cell? ⟨wb,1+k,none⟩=some (.pointer (some ⟨o,0,none⟩)))(hk:k<8)
  (hr:Calls Tryz.prog 95 #[.pointer (some ⟨o,0,none⟩),.string d] w fun e w'=>e=.returned (.int .i64 er)/\R w'):
  Calls Tryz.prog 51 #[.pointer (some ⟨wb,0,none⟩),.int .i64 (k:Int),.string d] w fun e w'=>e=.returned (.int .i64 er)/\R w':=by
 have hat:=tat_some wb k o w hc hk
 go_enter Tryz.func51,Tryz.ntmps51
 go_wp2_with (first
  | (go_at_call 94;refine hat.mono ?_;rintro e w1 ⟨rfl,rfl⟩)
  | (go_at_call 95;refine hr.mono ?_;rintro e w1 ⟨rfl,hR⟩))
 go_ret
 exact⟨rfl,hR⟩
theorem close_ws (wb k o:Nat)(w:World)(hwb:wb<w.heap.size)(hc:w.cell? ⟨wb,1+k,none⟩=some (.pointer (some ⟨o,0,none⟩)))(hf:w.frozen? ⟨wb,1+k,none⟩=false)(hk:k<8):
  Calls Tryz.prog 52 #[.pointer (some ⟨wb,0,none⟩),.int .i64 (k:Int)] w fun e w'=>e=.returned (.int .i64 0)/\w'=w.setCell ⟨wb,1+k,none⟩ (.pointer none):=by
 have hcl:=tclose_some wb k o w hwb hc hf hk
 go_enter Tryz.func52,Tryz.ntmps52
 go_wp2_with (go_at_call 96;refine hcl.mono ?_;rintro e w1 ⟨rfl,rfl⟩)
 go_ret
 exact⟨rfl,rfl⟩
theorem SInv.bytes_size {tg:Tags}{w:World}{s p:Nat}{objs:List Ob}{got:List Int}{brk:Bool}{lim:Nat}(h:SInv tg w s p objs got brk lim){id:Int}(hk:kindOf objs id=1):(bytesOf objs id).size<=256:=by
 obtain⟨h1,h2⟩:=kind_in (objs:=objs) (id:=id) (by rw[hk];decide)
 obtain⟨j,rfl⟩:∃ j:Nat,id=(j:Int)+1:=⟨(id-1).toNat,by omega⟩
 have hj:j<objs.length:=by omega
 obtain⟨_,ft,_,⟨a,cap,bf,bd,Df,Dd,i⟩,_⟩:=h
 rw[bytesOf_in hj]
 rw[kindOf_in hj] at hk
 rcases i.obs objs[j] (List.getElem_mem hj) with ⟨_,_,h3⟩ | ⟨h3,_⟩
 ·exact h3
 ·rw[hk] at h3;cases h3
theorem bytes_again {objs:List Ob}{fl:Nat->Option (Int×ByteArray)}{fs fs1:FS}{f:Nat}{d:ByteArray}(h:bytesG objs fl fs f=(fs1,0,d)):bytesG objs fl fs1 f=(fs1,0,d):=by
 unfold bytesG at h ⊢
 cases hf:fl f with
 | none=>rw[hf] at h;simp only[Prod.mk.injEq] at h ⊢;exact⟨trivial,trivial,h.2.2⟩
 | some x=>
  obtain⟨id,d0⟩:=x
  rw[hf] at h
  simp only at h ⊢
  by_cases hid:id=0
  ·rw[if_pos hid] at h ⊢
   simp only[Prod.mk.injEq] at h ⊢;exact⟨trivial,trivial,h.2.2⟩
  ·rw[if_neg hid] at h ⊢
   rcases FS.fileG_cases fs id with ⟨h1,h2,h3⟩ | ⟨h1,_⟩
   ·rw[if_pos h1] at h
    simp only[Prod.mk.injEq] at h
    obtain⟨e1,_,e2⟩:=h
    rw[e1] at h3
    have hg:fs1.fileG id=(fs1,true):=by unfold FS.fileG;rw[if_pos h3]
    rw[hg,if_pos rfl,e2]
   ·rw[if_neg (by rw[h1];decide)] at h
    simp only[Prod.mk.injEq] at h
    omega
section
variable {s i p:Nat}{B:WB}{objs:List Ob}
theorem bytes_len {tg:Tags}{w:World}{g:WG}{lim:Nat}(h:WInv tg w s i p B objs g lim)(hfl:FlOk objs g.fl){f:Nat}{fs1:FS}{er:Int}{d:ByteArray}(hb:bytesG objs g.fl g.fs f=(fs1,er,d)):d.size<=256:=by
 unfold bytesG at hb
 cases hf:g.fl f with
 | none=>rw[hf] at hb;simp only[Prod.mk.injEq] at hb;rw[<- hb.2.2];simp[ByteArray.size]
 | some x=>
  obtain⟨id,d0⟩:=x
  rw[hf] at hb
  simp only at hb
  by_cases hid:id=0
  ·rw[if_pos hid] at hb
   simp only[Prod.mk.injEq] at hb
   rw[<- hb.2.2];exact (h.wp.files f id d0 hf).2.2
  ·rw[if_neg hid] at hb
   split at hb
   ·simp only[Prod.mk.injEq] at hb
    rw[<- hb.2.2];exact h.st.bytes_size (hfl f id d0 hf hid)
   ·simp only[Prod.mk.injEq] at hb
    rw[<- hb.2.2];simp[ByteArray.size]
theorem opened_cells {tg:Tags}{w:World}{g:WG}{lim:Nat}(h:WInv tg w s i p B objs g lim){k b f:Nat}{fg pl:Int}(hk:g.op k=some (b,f,fg,pl)):b<w.heap.size/\w.cell? ⟨b,0,none⟩=some (.pointer (some ⟨f,0,none⟩))/\w.cell? ⟨b,1,none⟩=some (.int .i64 fg)/\w.cell? ⟨b,2,none⟩=some (.int .i64 pl)/\(∀ o,w.frozen? ⟨b,o,none⟩=false):=by
 obtain⟨_,hb,_⟩:=h.wp.opens.at_ k b f fg pl hk
 exact⟨(Array.getElem?_eq_some_iff.1 hb).1,by simp[World.cell?,hb,ptr],by simp[World.cell?,hb],by simp[World.cell?,hb],fun o=>by simp[World.frozen?,hb]⟩
theorem file_cells {tg:Tags}{w:World}{g:WG}{lim:Nat}(h:WInv tg w s i p B objs g lim){f:Nat}{x:Int×ByteArray}(hf:g.fl f=some x):f<w.heap.size/\(∃ x y z,w.cell? ⟨f,0,none⟩=some x/\w.cell? ⟨f,1,none⟩=some y/\w.cell? ⟨f,2,none⟩=some z)/\∀ o,w.frozen? ⟨f,o,none⟩=false:=by
 obtain⟨id,d⟩:=x
 obtain⟨_,hb,_⟩:=h.wp.files f id d hf
 exact⟨(Array.getElem?_eq_some_iff.1 hb).1,⟨_,_,_,by simp[World.cell?,hb];rfl,by simp[World.cell?,hb];rfl,by simp[World.cell?,hb];rfl⟩,fun o=>by simp[World.frozen?,hb]⟩
theorem mine7 {i:Nat}(t:Nat×Nat)(h:t=(i,7)):Mine i t:=.inr (by rw[h])
theorem read_gen {tg:Tags}{w:World}{g:WG}{lim:Nat}(h:WInv tg w s i p B objs g lim)(hl:lim<1099511627776)(hfl:FlOk objs g.fl){k b f:Nat}{fg pl n:Int}(hk:g.op k=some (b,f,fg,pl))(hfg:(bits BinOp.and IntKind.i64 fg 1 == 0)=false)(hn:1<=n)(hp:pl<256){fs1:FS}{d:ByteArray}(hb:bytesG objs g.fl g.fs f=(fs1,0,d)):
  Calls Tryz.prog 107 #[.pointer (some ⟨b,0,none⟩),.int .i64 n] w fun e w'=>e=.returned (.tuple #[.string (d.extract (min pl.toNat d.size) (min (min pl.toNat d.size+(min n (256-pl)).toNat) d.size)),.int .i64 0])/\
   ∃ tg',Moves (Mine i) tg tg' w w'/\WInv tg' w' s i p B objs { g with fs:=fs1,op:=updN g.op k (some (b,f,fg,pl+(d.extract (min pl.toNat d.size) (min (min pl.toNat d.size+(min n (256-pl)).toNat) d.size)).size)) } (lim+1):=by
 obtain⟨hbl,c0,c1,c2,_⟩:=opened_cells h hk
 obtain⟨_,_,⟨x,hx⟩,_,_,hp0,_⟩:=h.wp.opens.at_ k b f fg pl hk
 have hds:=bytes_len h hfl hb
 have hby:=bytes_any h hl hfl hx
 rw[hb] at hby
 refine (read_ok b f fg pl n d _ w c0 c1 c2 hfg hn hp0 hp hds hby (fun w1 hR=>?_)).mono ?_
 ·obtain⟨tg1,m1,hW1⟩:=hR
  obtain⟨e1,_,_,e4,e5⟩:=opened_cells hW1 hk
  exact⟨e1,e4,e5 2⟩
 ·rintro e w' ⟨he,w1,⟨tg1,m1,hW1⟩,rfl⟩
  have hsz:((d.extract (min pl.toNat d.size) (min (min pl.toNat d.size+(min n (256-pl)).toNat) d.size)).size:Int)<=256-pl:=by
   rw[ByteArray.size_extract];omega
  obtain⟨m2,hW2⟩:=hW1.place hk (pl':=pl+(d.extract (min pl.toNat d.size) (min (min pl.toNat d.size+(min n (256-pl)).toNat) d.size)).size) (by omega) (by omega)
  exact⟨he,tg1,(m1.mono (fun _ h=>h.mine)).trans (m2.mono mine7),hW2⟩
theorem write_gen {tg:Tags}{w:World}{g:WG}{lim:Nat}(h:WInv tg w s i p B objs g lim)(hl:lim+2<1099511627776)(hfl:FlOk objs g.fl){k b f a:Nat}{fg pl:Int}{d old:ByteArray}(hk:g.op k=some (b,f,fg,pl))(hfg:(bits BinOp.and IntKind.i64 fg 2 == 0)=false)(hd:1<=d.size)(h0:0<=startF fg pl 0)(h1:startF fg pl 0+d.size<=256){fs1:FS}(hb:bytesG objs g.fl g.fs f=(fs1,0,old))(ha:startF fg pl old.size=(a:Int))(ha1:a+d.size<=256):
  Calls Tryz.prog 95 #[.pointer (some ⟨b,0,none⟩),.string d] w fun e w'=>e=.returned (.int .i64 0)/\
   ∃ tg',Moves (Mine i) tg tg' w w'/\WInv tg' w' s i p B objs { g with fs:=fs1,fl:=updN g.fl f (some (0,writeB old d a)),op:=updN g.op k (some (b,f,fg,(a:Int)+d.size)) } (lim+2):=by
 obtain⟨hbl,c0,c1,c2,_⟩:=opened_cells h hk
 obtain⟨_,_,⟨x,hx⟩,_,_,hp0,_⟩:=h.wp.opens.at_ k b f fg pl hk
 have hds:=bytes_len h hfl hb
 have hby:=bytes_any h (by omega) hfl hx
 rw[hb] at hby
 have hag:=bytes_again hb
 have hwl:(writeB old d a).size<=256:=by
  have:(writeB old d a).size=(writeL old.data.toList d.data.toList a).length:=by simp[writeB,ByteArray.size]
  rw[this,writeL_length,<- Lib.size_eq,<- Lib.size_eq];omega
 refine (write_ok b f fg pl (a:Int) old d (fun w1=>DidF s i p B objs tg w w1 { g with fs:=fs1 } (lim+1)) (fun w2=>∃ tg',Moves (Mine i) tg tg' w w2/\WInv tg' w2 s i p B objs { g with fs:=fs1,fl:=updN g.fl f (some (0,writeB old d a)) } (lim+2)) w c0 c1 c2 hfg hd h0 h1 ha (by omega) (by omega) hby (fun w1 hR=>?_) (fun w1 hR=>?_) (fun w2 hS=>?_)).mono ?_
 ·obtain⟨tg1,m1,hW1⟩:=hR
  obtain⟨_,e2,e3,e4,_⟩:=opened_cells hW1 hk
  exact⟨e2,e3,e4⟩
 ·obtain⟨tg1,m1,hW1⟩:=hR
  have hby2:=bytes_any hW1 (by omega) hfl hx
  have hag':bytesG objs g.fl ({ g with fs:=fs1 }:WG).fs f=(fs1,0,old):=hag
  rw[hag'] at hby2
  refine (fwrite_walk f a old d _ w1 hd (by omega) hds hby2 (fun w2 hR2=>?_)).mono ?_
  ·obtain⟨tg2,m2,hW2⟩:=hR2
   exact file_cells hW2 hx
  ·rintro e w' ⟨he,w2,w3,⟨tg2,m2,hW2⟩,hb3,rfl⟩
   obtain⟨m3,hW3⟩:=(hW2.below hb3).set_file hx hwl
   exact⟨he,tg2,((m1.mono (fun _ h=>h.mine)).trans (m2.mono (fun _ h=>h.mine))).trans ((Moves.of_below hb3).trans (m3.mono mine6)),hW3⟩
 ·obtain⟨tg2,m2,hW2⟩:=hS
  obtain⟨e1,_,_,e4,e5⟩:=opened_cells hW2 hk
  exact⟨e1,e4,e5 2⟩
 ·rintro e w' ⟨he,w2,⟨tg2,m2,hW2⟩,rfl⟩
  obtain⟨m3,hW3⟩:=hW2.place hk (pl':=(a:Int)+d.size) (by omega) (by omega)
  exact⟨he,tg2,m2.trans (m3.mono mine7),hW3⟩
end
section
variable {s i p:Nat}{B:WB}{objs:List Ob}
end
end Go.Proofs.YtajopoddmfdejaaGreat
