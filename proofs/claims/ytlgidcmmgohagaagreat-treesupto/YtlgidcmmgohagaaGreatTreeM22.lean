/-
  What is proved here: Open of a workspace's tree: the file at a path, made or cut to nothing where the flags ask for it. what canopykeep's steps leave of the root: the file e stands there as it was stored, ..
-/
import Derived.Test.YtlgidcmmgohagaaGreatTreeM21
import Derived.Test.YtlgidcmmgohagaaGreatTreeM16
import Derived.Deep.RegionHeld3
namespace Go.Proofs.YtlgidcmmgohagaaGreat
open Go.RowKit Go.Sort Go.Shelf
set_option linter.unusedVariables false
set_option maxRecDepth 100000
set_option maxHeartbeats 16000000
section
variable {s i p:Nat}{B:WB}{objs:List Ob}
end


theorem mkdir_ws (wb bt:Nat)(l:List ByteArray)(hl:Good l)(er:Int)(R:World->Prop)(w:World)(hwb:wb<w.heap.size)(c0:w.cell? ⟨wb,0,none⟩=some (.pointer (some ⟨bt,0,none⟩)))
  (hc:∀ W,Below w.heap.size w W->Calls Tryz.prog 70 #[.pointer (some ⟨bt,0,none⟩),.agg (pathA l)] W fun e w'=>e=.returned (.int .i64 er)/\R w'):
  Calls Tryz.prog 31 #[.pointer (some ⟨wb,0,none⟩),.string (joinB l)] w fun e w'=>e=.returned (.int .i64 er)/\R w':=by
 have hpa:=fun W=>parse_any l hl W
 obtain⟨s0,s1,s2,s3,s4,hP⟩:∃ s0 s1 s2 s3 s4,pathA l = #[.string s0,.string s1,.string s2,.string s3,.string s4]:=⟨_,_,_,_,_,rfl⟩
 unfold pathV at hpa
 simp only[hP] at hpa hc
 have HC:Hid _:=hc
 clear hc hP hl
 generalize joinB l=tx at hpa ⊢
 go_enter Tryz.func31,Tryz.ntmps31
 go_wp2_with (go_at_call 69;refine Calls.mono (hpa _) ?_;rintro e w1 ⟨rfl,hb1⟩;have d0:=((bcell hb1).1 wb 0 hwb).trans c0;have hw1:=Nat.lt_of_lt_of_le hwb hb1.size)
 have hcc:=HC.out (w1.alloc (.cells #[.string s0,.string s1,.string s2,.string s3,.string s4] 147)).drew (below_drew (hb1.alloc hb1.size _))
 have HCC:Hid _:=hcc
 clear hcc HC
 go_region_with (go_at_call 70;refine Calls.mono HCC.out ?_;rintro e w2 ⟨rfl,hR⟩)
 all_goals
  go_wp2
  go_ret
  exact⟨rfl,hR⟩
theorem remove_ws (wb bt:Nat)(l:List ByteArray)(hl:Good l)(er:Int)(R:World->Prop)(w:World)(hwb:wb<w.heap.size)(c0:w.cell? ⟨wb,0,none⟩=some (.pointer (some ⟨bt,0,none⟩)))
  (hc:∀ W,Below w.heap.size w W->Calls Tryz.prog 71 #[.pointer (some ⟨bt,0,none⟩),.agg (pathA l)] W fun e w'=>e=.returned (.int .i64 er)/\R w'):
  Calls Tryz.prog 32 #[.pointer (some ⟨wb,0,none⟩),.string (joinB l)] w fun e w'=>e=.returned (.int .i64 er)/\R w':=by
 have hpa:=fun W=>parse_any l hl W
 obtain⟨s0,s1,s2,s3,s4,hP⟩:∃ s0 s1 s2 s3 s4,pathA l = #[.string s0,.string s1,.string s2,.string s3,.string s4]:=⟨_,_,_,_,_,rfl⟩
 unfold pathV at hpa
 simp only[hP] at hpa hc
 have HC:Hid _:=hc
 clear hc hP hl
 generalize joinB l=tx at hpa ⊢
 go_enter Tryz.func32,Tryz.ntmps32
 go_wp2_with (go_at_call 69;refine Calls.mono (hpa _) ?_;rintro e w1 ⟨rfl,hb1⟩;have d0:=((bcell hb1).1 wb 0 hwb).trans c0;have hw1:=Nat.lt_of_lt_of_le hwb hb1.size)
 have hcc:=HC.out (w1.alloc (.cells #[.string s0,.string s1,.string s2,.string s3,.string s4] 147)).drew (below_drew (hb1.alloc hb1.size _))
 have HCC:Hid _:=hcc
 clear hcc HC
 go_region_with (go_at_call 71;refine Calls.mono HCC.out ?_;rintro e w2 ⟨rfl,hR⟩)
 all_goals
  go_wp2
  go_ret
  exact⟨rfl,hR⟩
theorem rename_ws (wb bt:Nat)(l m:List ByteArray)(hl:Good l)(hm:Good m)(er:Int)(R:World->Prop)(w:World)(hwb:wb<w.heap.size)(c0:w.cell? ⟨wb,0,none⟩=some (.pointer (some ⟨bt,0,none⟩)))
  (hc:∀ W,Below w.heap.size w W->Calls Tryz.prog 72 #[.pointer (some ⟨bt,0,none⟩),.agg (pathA l),.agg (pathA m)] W fun e w'=>e=.returned (.int .i64 er)/\R w'):
  Calls Tryz.prog 33 #[.pointer (some ⟨wb,0,none⟩),.string (joinB l),.string (joinB m)] w fun e w'=>e=.returned (.int .i64 er)/\R w':=by
 have hpa:=fun W=>parse_any l hl W
 have hpb:=fun W=>parse_any m hm W
 obtain⟨s0,s1,s2,s3,s4,hP⟩:∃ s0 s1 s2 s3 s4,pathA l = #[.string s0,.string s1,.string s2,.string s3,.string s4]:=⟨_,_,_,_,_,rfl⟩
 obtain⟨d0,d1,d2,d3,d4,hQ⟩:∃ s0 s1 s2 s3 s4,pathA m = #[.string s0,.string s1,.string s2,.string s3,.string s4]:=⟨_,_,_,_,_,rfl⟩
 unfold pathV at hpa hpb
 simp only[hP] at hpa hc
 simp only[hQ] at hpb hc
 have HC:Hid _:=hc
 clear hc hP hQ hl hm
 generalize joinB l=tx at hpa ⊢
 generalize joinB m=ty at hpb ⊢
 go_enter Tryz.func33,Tryz.ntmps33
 go_wp2_with fail
 refine Calls.mono (hpa w) ?_
 rintro e w1 ⟨rfl,hb1⟩
 have e0:=((bcell hb1).1 wb 0 hwb).trans c0
 have hw1:=Nat.lt_of_lt_of_le hwb hb1.size
 have b1:Below w.heap.size w (w1.alloc (.cells #[.string s0,.string s1,.string s2,.string s3,.string s4] 147)):=hb1.alloc hb1.size _
 have z1:w1.heap.size<(w1.alloc (.cells #[.string s0,.string s1,.string s2,.string s3,.string s4] 147)).heap.size:=by simp
 have zb:wb<(w1.alloc (.cells #[.string s0,.string s1,.string s2,.string s3,.string s4] 147)).heap.size:=by simp;omega
 go_wp2_with fail
 refine Calls.mono (hpb _) ?_
 rintro e w2 ⟨rfl,hb2⟩
 have f0:=((bcell (below_via b1 hb2)).1 wb 0 hwb).trans c0
 have k1:=fun o=>(bcell hb2).1 w1.heap.size o z1
 have hw2:=Nat.lt_of_lt_of_le zb hb2.size
 have hw21:=Nat.lt_of_lt_of_le z1 hb2.size
 have b2:=below_via b1 hb2
 have hcc:=HC.out (w2.alloc (.cells #[.string d0,.string d1,.string d2,.string d3,.string d4] 147)).drew (below_drew (b2.alloc b2.size _))
 have HCC:Hid _:=hcc
 clear hcc HC hpa hpb hb1 hb2 b1 b2 e0
 go_wp2
 go_region_with (go_at_call 72;refine Calls.mono HCC.out ?_;rintro e w3 ⟨rfl,hR⟩)
 all_goals
  go_wp2
  go_ret
  exact⟨rfl,hR⟩
theorem SInv.bytes_size {tg:Tags}{w:World}{s p:Nat}{objs:List Ob}{got:List Int}{brk:Bool}{lim:Nat}(h:SInv tg w s p objs got brk lim){id:Int}(hk:kindOf objs id=1):(bytesOf objs id).size<=256:=by
 obtain⟨h1,h2⟩:=kind_in (objs:=objs) (id:=id) (by rw[hk];decide)
 obtain⟨j,rfl⟩:∃ j:Nat,id=(j:Int)+1:=⟨(id-1).toNat,by omega⟩
 have hj:j<objs.length:=by omega
 obtain⟨_,ft,_,⟨a,cap,bf,bd,Df,Dd,i⟩,_⟩:=h
 rw[bytesOf_in hj]
 rw[kindOf_in hj] at hk
 rcases i.obs objs[j] (List.getElem_mem hj) with ⟨_,_,h3⟩ | ⟨h3,_⟩
 ·exact h3
 ·rw[hk] at h3;cases h3
section
variable {s i p:Nat}{B:WB}{objs:List Ob}
theorem bytes_len {tg:Tags}{w:World}{g:WG}{lim:Nat}(h:WInv tg w s i p B objs g lim)(hfl:FlOk objs g.fl){f:Nat}{fs1:FS}{er:Int}{d:ByteArray}(hb:bytesG objs g.fl g.fs f=(fs1,er,d)):d.size<=256:=by
 unfold bytesG at hb
 cases hf:g.fl f with
 | none=>rw[hf] at hb;simp only[Prod.mk.injEq] at hb;rw[<- hb.2.2];simp[ByteArray.size]
 | some x=>
  obtain⟨id,d0⟩:=x
  rw[hf] at hb
  simp only at hb
  by_cases hid:id=0
  ·rw[if_pos hid] at hb
   simp only[Prod.mk.injEq] at hb
   rw[<- hb.2.2];exact (h.wp.files f id d0 hf).2.2
  ·rw[if_neg hid] at hb
   split at hb
   ·simp only[Prod.mk.injEq] at hb
    rw[<- hb.2.2];exact h.st.bytes_size (hfl f id d0 hf hid)
   ·simp only[Prod.mk.injEq] at hb
    rw[<- hb.2.2];simp[ByteArray.size]
end
section
variable {s i p:Nat}{B:WB}{objs:List Ob}
end
section
variable {s i p:Nat}{B:WB}{objs:List Ob}
def i64 (x:Int):Prop:=-9223372036854775808<=x/\x<=9223372036854775807
end
def opT (g:WG):Nat->Option Nat:=fun k=>(g.op k).map (·.1)
section
variable {s i p:Nat}{B:WB}{objs:List Ob}
theorem ws_tab {tg:Tags}{w:World}{g:WG}{lim:Nat}(h:WInv tg w s i p B objs g lim):TabAt w B.wb (opT g)/\w.cell? ⟨B.wb,0,none⟩=some (.pointer (some ⟨B.bt,0,none⟩)):=h.wp.opens.tab
end
end Go.Proofs.YtlgidcmmgohagaaGreat
