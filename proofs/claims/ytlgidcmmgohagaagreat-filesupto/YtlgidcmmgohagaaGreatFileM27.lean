/- What is proved here: Mkdir. -/
import Derived.Test.YtlgidcmmgohagaaGreatFileM18
import Derived.Test.YtlgidcmmgohagaaGreatFileM25
import Derived.Test.YtlgidcmmgohagaaGreatFileM26
import Derived.Deep.RegionHeld3
import Derived.Test.YtlgidcmmgohagaaGreatFileM02
import Derived.Test.YtlgidcmmgohagaaGreatFileM06
import Derived.Test.YtlgidcmmgohagaaGreatFileM20
import Derived.Test.YtlgidcmmgohagaaGreatFileM23
namespace Go.Proofs.YtlgidcmmgohagaaGreat
open Go.RowKit Go.Sort Go.Shelf Go.Proofs.Tryz
set_option linter.unusedVariables false
set_option maxRecDepth 100000
set_option maxHeartbeats 16000000
theorem TabAt.below {w w':World}{b:Nat}{vs:Nat->Option Nat}(h:TabAt w b vs)(hb:Below w.heap.size w w'):TabAt w' b vs:=
 ⟨zzA h.1 hb.size,fun k hk=>((bcell hb).1 b _ h.1).trans (h.2.1 k hk),fun o=>((bcell hb).2 b o h.1).trans (h.2.2 o)⟩
theorem mkdir_ws (wb bt:Nat)(l:List ByteArray)(hl:Good l)(er:Int)(R:World->Prop)(w:World)(hwb:wb<w.heap.size)(c0:w.cell? ⟨wb,0,none⟩=some (.pointer (some ⟨bt,0,none⟩)))
  (hc:∀W,Below w.heap.size w W->Calls prog 70 #[.pointer (some ⟨bt,0,none⟩),.agg (pathA l)] W fun e w'=>e=.returned (.int .i64 er)/\R w'):
  Calls prog 31 #[.pointer (some ⟨wb,0,none⟩),.string (joinB l)] w fun e w'=>e=.returned (.int .i64 er)/\R w':=by
 have hpa:=fun W=>parse_any l hl W;obtain⟨s0,s1,s2,s3,s4,hP⟩:∃s0 s1 s2 s3 s4,pathA l = #[.string s0,.string s1,.string s2,.string s3,.string s4]:=⟨_,_,_,_,_,rfl⟩;unfold pathV at hpa;simp only[hP] at hpa hc;have HC:Hid _:=hc;clear hc hP hl;generalize joinB l=tx at hpa ⊢;go_enter func31,ntmps31;go_wp2_with (go_at_call 69;refine Calls.mono (hpa _) ?_;rintro e w1 ⟨rfl,hb1⟩;have d0:=((bcell hb1).1 wb 0 hwb).trans c0;have hw1:=zzA hwb hb1.size);have hcc:=HC.out (w1.alloc (.cells #[.string s0,.string s1,.string s2,.string s3,.string s4] 147)).drew (below_drew (hb1.alloc hb1.size _));have HCC:Hid _:=hcc;clear hcc HC
 go_region_with (go_at_call 70;refine Calls.mono HCC.out ?_;rintro e w2 ⟨rfl,hR⟩)
 all_goals
  go_wp2;go_ret;exact⟨rfl,hR⟩
theorem remove_ws (wb bt:Nat)(l:List ByteArray)(hl:Good l)(er:Int)(R:World->Prop)(w:World)(hwb:wb<w.heap.size)(c0:w.cell? ⟨wb,0,none⟩=some (.pointer (some ⟨bt,0,none⟩)))
  (hc:∀W,Below w.heap.size w W->Calls prog 71 #[.pointer (some ⟨bt,0,none⟩),.agg (pathA l)] W fun e w'=>e=.returned (.int .i64 er)/\R w'):
  Calls prog 32 #[.pointer (some ⟨wb,0,none⟩),.string (joinB l)] w fun e w'=>e=.returned (.int .i64 er)/\R w':=by
 have hpa:=fun W=>parse_any l hl W;obtain⟨s0,s1,s2,s3,s4,hP⟩:∃s0 s1 s2 s3 s4,pathA l = #[.string s0,.string s1,.string s2,.string s3,.string s4]:=⟨_,_,_,_,_,rfl⟩;unfold pathV at hpa;simp only[hP] at hpa hc;have HC:Hid _:=hc;clear hc hP hl;generalize joinB l=tx at hpa ⊢;go_enter func32,ntmps32;go_wp2_with (go_at_call 69;refine Calls.mono (hpa _) ?_;rintro e w1 ⟨rfl,hb1⟩;have d0:=((bcell hb1).1 wb 0 hwb).trans c0;have hw1:=zzA hwb hb1.size);have hcc:=HC.out (w1.alloc (.cells #[.string s0,.string s1,.string s2,.string s3,.string s4] 147)).drew (below_drew (hb1.alloc hb1.size _));have HCC:Hid _:=hcc;clear hcc HC
 go_region_with (go_at_call 71;refine Calls.mono HCC.out ?_;rintro e w2 ⟨rfl,hR⟩)
 all_goals
  go_wp2;go_ret;exact⟨rfl,hR⟩
theorem rename_ws (wb bt:Nat)(l m:List ByteArray)(hl:Good l)(hm:Good m)(er:Int)(R:World->Prop)(w:World)(hwb:wb<w.heap.size)(c0:w.cell? ⟨wb,0,none⟩=some (.pointer (some ⟨bt,0,none⟩)))
  (hc:∀W,Below w.heap.size w W->Calls prog 72 #[.pointer (some ⟨bt,0,none⟩),.agg (pathA l),.agg (pathA m)] W fun e w'=>e=.returned (.int .i64 er)/\R w'):
  Calls prog 33 #[.pointer (some ⟨wb,0,none⟩),.string (joinB l),.string (joinB m)] w fun e w'=>e=.returned (.int .i64 er)/\R w':=by
 have hpa:=fun W=>parse_any l hl W;have hpb:=fun W=>parse_any m hm W;obtain⟨s0,s1,s2,s3,s4,hP⟩:∃s0 s1 s2 s3 s4,pathA l = #[.string s0,.string s1,.string s2,.string s3,.string s4]:=⟨_,_,_,_,_,rfl⟩;obtain⟨d0,d1,d2,d3,d4,hQ⟩:∃s0 s1 s2 s3 s4,pathA m = #[.string s0,.string s1,.string s2,.string s3,.string s4]:=⟨_,_,_,_,_,rfl⟩;unfold pathV at hpa hpb;simp only[hP] at hpa hc;simp only[hQ] at hpb hc;have HC:Hid _:=hc;clear hc hP hQ hl hm;generalize joinB l=tx at hpa ⊢;generalize joinB m=ty at hpb ⊢;go_enter func33,ntmps33;go_wp2_with fail;refine Calls.mono (hpa w) ?_;rintro e w1 ⟨rfl,hb1⟩;have e0:=((bcell hb1).1 wb 0 hwb).trans c0;have hw1:=zzA hwb hb1.size;have b1:Below w.heap.size w (w1.alloc (.cells #[.string s0,.string s1,.string s2,.string s3,.string s4] 147)):=hb1.alloc hb1.size _;have z1:w1.heap.size<(w1.alloc (.cells #[.string s0,.string s1,.string s2,.string s3,.string s4] 147)).heap.size:=by simp
 have zb:wb<(w1.alloc (.cells #[.string s0,.string s1,.string s2,.string s3,.string s4] 147)).heap.size:=by simp;omega
 go_wp2_with fail;refine Calls.mono (hpb _) ?_;rintro e w2 ⟨rfl,hb2⟩;have f0:=((bcell (below_via b1 hb2)).1 wb 0 hwb).trans c0;have k1:=fun o=>(bcell hb2).1 w1.heap.size o z1
 have hw2:=zzA zb hb2.size;have hw21:=zzA z1 hb2.size;have b2:=below_via b1 hb2;have hcc:=HC.out (w2.alloc (.cells #[.string d0,.string d1,.string d2,.string d3,.string d4] 147)).drew (below_drew (b2.alloc b2.size _));have HCC:Hid _:=hcc;clear hcc HC hpa hpb hb1 hb2 b1 b2 e0;go_wp2
 go_region_with (go_at_call 72;refine Calls.mono HCC.out ?_;rintro e w3 ⟨rfl,hR⟩)
 all_goals
  go_wp2;go_ret;exact⟨rfl,hR⟩
theorem open_ws_err (wb bt k:Nat)(vs:Nat->Option Nat)(fg:Int)(l:List ByteArray)(hl:Good l)(er:Int)(her:er≠0)(R:World->Prop)(w:World)(ht:TabAt w wb vs)(c0:w.cell? ⟨wb,0,none⟩=some (.pointer (some ⟨bt,0,none⟩)))(hk:k<8)(h0:vs k=none)(h1:∀j,j<k->vs j≠none)
  (hv:∀W,Calls prog 118 #[.int .i64 fg] W fun e w'=>e=.returned (.bool true)/\w'=W)
  (hc:∀W,Below w.heap.size w W->Calls prog 120 #[.pointer (some ⟨bt,0,none⟩),.agg (pathA l),.int .i64 fg] W fun e w'=>e=.returned (.tuple #[.pointer none,.int .i64 er])/\R w'):
  Calls prog 63 #[.pointer (some ⟨wb,0,none⟩),.string (joinB l),.int .i64 fg] w fun e w'=>e=.returned (.tuple #[.int .i64 0,.int .i64 er])/\R w':=by
 have hpa:=fun W=>parse_any l hl W;have hwb:=ht.1;have her':(er == 0)=false:=by simpa using her
 obtain⟨s0,s1,s2,s3,s4,hP⟩:∃s0 s1 s2 s3 s4,pathA l = #[.string s0,.string s1,.string s2,.string s3,.string s4]:=⟨_,_,_,_,_,rfl⟩;unfold pathV at hpa;simp only[hP] at hpa hc;have hfr:=fun W (hb:Below w.heap.size w W)=>free_walk wb k vs W (ht.below hb) hk h0 h1;have HFR:Hid _:=hfr;have HC:Hid _:=hc;clear hc hP hl hfr ht h0 h1;generalize joinB l=tx at hpa ⊢;go_enter func63,ntmps63;go_wp2_with (first
  | (go_at_call 69;refine Calls.mono (hpa _) ?_;rintro e w1 ⟨rfl,hb1⟩;have e0:=((bcell hb1).1 wb 0 hwb).trans c0;have hw1:=zzA hwb hb1.size)
  | (go_at_call 118;refine Calls.mono (hv _) ?_;rintro e w2 ⟨rfl,rfl⟩)
  | (go_at_call 119;go_loud (refine Calls.mono (HFR.out _ (hb1.alloc hb1.size _)) ?_;rintro e w3 ⟨rfl,rfl⟩)))
 have hcc:=HC.out (w1.alloc (.cells #[.string s0,.string s1,.string s2,.string s3,.string s4] 147)).drew (below_drew (hb1.alloc hb1.size _));have HCC:Hid _:=hcc;clear hcc HC
 go_region_with (go_at_call 120;refine Calls.mono HCC.out ?_;rintro e w4 ⟨rfl,hR⟩)
 all_goals
  go_wp2;go_ret2;exact⟨rfl,hR⟩
theorem open_ws_ok (wb bt k:Nat)(vs:Nat->Option Nat)(fg:Int)(l:List ByteArray)(hl:Good l)(S:Nat->World->Prop)(w:World)(ht:TabAt w wb vs)(c0:w.cell? ⟨wb,0,none⟩=some (.pointer (some ⟨bt,0,none⟩)))(hk:k<8)(h0:vs k=none)(h1:∀j,j<k->vs j≠none)
  (hv:∀W,Calls prog 118 #[.int .i64 fg] W fun e w'=>e=.returned (.bool true)/\w'=W)
  (hc:∀W,Below w.heap.size w W->Calls prog 120 #[.pointer (some ⟨bt,0,none⟩),.agg (pathA l),.int .i64 fg] W fun e w'=>∃f,e=.returned (.tuple #[.pointer (some ⟨f,0,none⟩),.int .i64 0])/\S f w')
  (hS:∀f w',S f w'->TabAt w' wb vs):
  Calls prog 63 #[.pointer (some ⟨wb,0,none⟩),.string (joinB l),.int .i64 fg] w fun e w'=>e=.returned (.tuple #[.int .i64 (k:Int),.int .i64 0])/\∃f w1,S f w1/\w'=(w1.setCell ⟨wb,1+k,none⟩ (.pointer (some ⟨w1.heap.size,0,none⟩))).alloc (.cells #[.pointer (some ⟨f,0,none⟩),.int .i64 fg,.int .i64 0] 277):=by
 have hpa:=fun W=>parse_any l hl W;have hwb:=ht.1;obtain⟨s0,s1,s2,s3,s4,hP⟩:∃s0 s1 s2 s3 s4,pathA l = #[.string s0,.string s1,.string s2,.string s3,.string s4]:=⟨_,_,_,_,_,rfl⟩;unfold pathV at hpa;simp only[hP] at hpa hc;have hfr:=fun W (hb:Below w.heap.size w W)=>free_walk wb k vs W (ht.below hb) hk h0 h1;have hpt:=fun f w1 (h:S f w1)=>tput_walk wb k f fg _ w1 (hS f w1 h).1 ((hS f w1 h).2.1 k hk) ((hS f w1 h).2.2 _) hk;have HFR:Hid _:=hfr;have HC:Hid _:=hc;have HPT:Hid _:=hpt;clear hc hP hl hfr ht h0 h1 hpt hS;generalize joinB l=tx at hpa ⊢;go_enter func63,ntmps63;go_wp2_with (first
  | (go_at_call 69;refine Calls.mono (hpa _) ?_;rintro e w1 ⟨rfl,hb1⟩;have e0:=((bcell hb1).1 wb 0 hwb).trans c0;have hw1:=zzA hwb hb1.size)
  | (go_at_call 118;refine Calls.mono (hv _) ?_;rintro e w2 ⟨rfl,rfl⟩)
  | (go_at_call 119;go_loud (refine Calls.mono (HFR.out _ (hb1.alloc hb1.size _)) ?_;rintro e w3 ⟨rfl,rfl⟩)))
 have hcc:=HC.out (w1.alloc (.cells #[.string s0,.string s1,.string s2,.string s3,.string s4] 147)).drew (below_drew (hb1.alloc hb1.size _));have HCC:Hid _:=hcc;clear hcc HC
 go_region_with (go_at_call 120;refine Calls.mono HCC.out ?_;rintro e w4 ⟨f,rfl,hS4⟩;have HS4:Hid _:=hS4;clear hS4)
 all_goals
  go_wp2_with (go_at_call 121;go_loud (refine Calls.mono (HPT.out _ _ HS4.out) ?_;rintro e w5 ⟨rfl,rfl⟩));go_ret2;exact⟨rfl,f,w4,HS4.out,rfl⟩
theorem read_ws (wb k o:Nat)(n:Int)(d:ByteArray)(er:Int)(R:World->Prop)(w:World)(hc:w.cell? ⟨wb,1+k,none⟩=some (.pointer (some ⟨o,0,none⟩)))(hk:k<8)
  (hr:Calls prog 125 #[.pointer (some ⟨o,0,none⟩),.int .i64 n] w fun e w'=>e=.returned (.tuple #[.string d,.int .i64 er])/\R w'):
  Calls prog 66 #[.pointer (some ⟨wb,0,none⟩),.int .i64 (k:Int),.int .i64 n] w fun e w'=>e=.returned (.tuple #[.string d,.int .i64 er])/\R w':=by
 have hat:=tat_some wb k o w hc hk;go_enter func66,ntmps66;go_wp2_with (first
  | (go_at_call 122;refine hat.mono ?_;rintro e w1 ⟨rfl,rfl⟩)
  | (go_at_call 125;refine hr.mono ?_;rintro e w1 ⟨rfl,hR⟩))
 go_ret2;exact⟨rfl,hR⟩
theorem write_ws (wb k o:Nat)(d:ByteArray)(er:Int)(R:World->Prop)(w:World)(hc:w.cell? ⟨wb,1+k,none⟩=some (.pointer (some ⟨o,0,none⟩)))(hk:k<8)
  (hr:Calls prog 123 #[.pointer (some ⟨o,0,none⟩),.string d] w fun e w'=>e=.returned (.int .i64 er)/\R w'):
  Calls prog 64 #[.pointer (some ⟨wb,0,none⟩),.int .i64 (k:Int),.string d] w fun e w'=>e=.returned (.int .i64 er)/\R w':=by
 have hat:=tat_some wb k o w hc hk;go_enter func64,ntmps64;go_wp2_with (first
  | (go_at_call 122;refine hat.mono ?_;rintro e w1 ⟨rfl,rfl⟩)
  | (go_at_call 123;refine hr.mono ?_;rintro e w1 ⟨rfl,hR⟩))
 go_ret;exact⟨rfl,hR⟩
theorem close_ws (wb k o:Nat)(w:World)(hwb:wb<w.heap.size)(hc:w.cell? ⟨wb,1+k,none⟩=some (.pointer (some ⟨o,0,none⟩)))(hf:w.frozen? ⟨wb,1+k,none⟩=false)(hk:k<8):
  Calls prog 65 #[.pointer (some ⟨wb,0,none⟩),.int .i64 (k:Int)] w fun e w'=>e=.returned (.int .i64 0)/\w'=w.setCell ⟨wb,1+k,none⟩ (.pointer none):=by
 have hcl:=tclose_some wb k o w hwb hc hf hk;go_enter func65,ntmps65;go_wp2_with (go_at_call 124;refine hcl.mono ?_;rintro e w1 ⟨rfl,rfl⟩);go_ret;exact⟨rfl,rfl⟩
theorem SInv.bytes_size {tg:Tags}{w:World}{s p:Nat}{objs:List Ob}{got:List Int}{brk:Bool}{lim:Nat}(h:SInv tg w s p objs got brk lim){id:Int}(hk:kindOf objs id=1):(bytesOf objs id).size<=256:=by
 obtain⟨h1,h2⟩:=kind_in (objs:=objs) (id:=id) (by rw[hk];decide);obtain⟨j,rfl⟩:∃j:Nat,id=(j:Int)+1:=⟨(id-1).toNat,by omega⟩;have hj:j<objs.length:=by omega
 obtain⟨_,ft,_,⟨a,cap,bf,bd,Df,Dd,i⟩,_⟩:=h;rw[bytesOf_in hj];rw[kindOf_in hj] at hk;rcases i.obs objs[j] (zzJ hj) with ⟨_,_,h3⟩ | ⟨h3,_⟩
 ·exact h3
 ·rw[hk] at h3;cases h3
theorem bytes_again {objs:List Ob}{fl:Nat->Option (Int×ByteArray)}{fs fs1:FS}{f:Nat}{d:ByteArray}(h:bytesG objs fl fs f=(fs1,0,d)):bytesG objs fl fs1 f=(fs1,0,d):=by
 unfold bytesG at h ⊢;cases hf:fl f with
 | none=>rw[hf] at h;simp only[Prod.mk.injEq] at h ⊢;exact⟨trivial,trivial,h.2.2⟩
 | some x=>
  obtain⟨id,d0⟩:=x;rw[hf] at h;simp only at h ⊢;by_cases hid:id=0
  ·rw[zzD hid] at h ⊢
   simp only[Prod.mk.injEq] at h ⊢;exact⟨trivial,trivial,h.2.2⟩
  ·rw[zzB hid] at h ⊢
   rcases FS.fileG_cases fs id with ⟨h1,h2,h3⟩ | ⟨h1,_⟩
   ·rw[zzD h1] at h
    simp only[Prod.mk.injEq] at h;obtain⟨e1,_,e2⟩:=h;rw[e1] at h3;have hg:fs1.fileG id=(fs1,true):=by unfold FS.fileG;rw[zzD h3]
    rw[hg,zzD rfl,e2]
   ·rw[zzB (by rw[h1];decide)] at h
    simp only[Prod.mk.injEq] at h;omega
section
variable {s i p:Nat}{B:WB}{objs:List Ob}
theorem bytes_len {tg:Tags}{w:World}{g:WG}{lim:Nat}(h:WInv tg w s i p B objs g lim)(hfl:FlOk objs g.fl){f:Nat}{fs1:FS}{er:Int}{d:ByteArray}(hb:bytesG objs g.fl g.fs f=(fs1,er,d)):d.size<=256:=by
 unfold bytesG at hb;cases hf:g.fl f with
 | none=>rw[hf] at hb;simp only[Prod.mk.injEq] at hb;rw[<-hb.2.2];simp[ByteArray.size]
 | some x=>
  obtain⟨id,d0⟩:=x;rw[hf] at hb;simp only at hb;by_cases hid:id=0
  ·rw[zzD hid] at hb
   simp only[Prod.mk.injEq] at hb;rw[<-hb.2.2];exact (h.wp.files f id d0 hf).2.2
  ·rw[zzB hid] at hb
   split at hb
   ·simp only[Prod.mk.injEq] at hb
    rw[<-hb.2.2];exact h.st.bytes_size (hfl f id d0 hf hid)
   ·simp only[Prod.mk.injEq] at hb
    rw[<-hb.2.2];simp[ByteArray.size]
theorem opened_cells {tg:Tags}{w:World}{g:WG}{lim:Nat}(h:WInv tg w s i p B objs g lim){k b f:Nat}{fg pl:Int}(hk:g.op k=some (b,f,fg,pl)):b<w.heap.size/\w.cell? ⟨b,0,none⟩=some (.pointer (some ⟨f,0,none⟩))/\w.cell? ⟨b,1,none⟩=some (.int .i64 fg)/\w.cell? ⟨b,2,none⟩=some (.int .i64 pl)/\(∀o,w.frozen? ⟨b,o,none⟩=false):=by
 obtain⟨_,hb,_⟩:=h.wp.opens.at_ k b f fg pl hk;exact⟨(Array.getElem?_eq_some_iff.1 hb).1,by simp[World.cell?,hb,ptr],by simp[World.cell?,hb],by simp[World.cell?,hb],fun o=>by simp[World.frozen?,hb]⟩
theorem file_cells {tg:Tags}{w:World}{g:WG}{lim:Nat}(h:WInv tg w s i p B objs g lim){f:Nat}{x:Int×ByteArray}(hf:g.fl f=some x):f<w.heap.size/\(∃x y z,w.cell? ⟨f,0,none⟩=some x/\w.cell? ⟨f,1,none⟩=some y/\w.cell? ⟨f,2,none⟩=some z)/\∀o,w.frozen? ⟨f,o,none⟩=false:=by
 obtain⟨id,d⟩:=x;obtain⟨_,hb,_⟩:=h.wp.files f id d hf;exact⟨(Array.getElem?_eq_some_iff.1 hb).1,⟨_,_,_,by simp[World.cell?,hb];rfl,by simp[World.cell?,hb];rfl,by simp[World.cell?,hb];rfl⟩,fun o=>by simp[World.frozen?,hb]⟩
theorem mine7 {i:Nat}(t:Nat×Nat)(h:t=(i,7)):Mine i t:=.inr (by rw[h])
theorem read_gen {tg:Tags}{w:World}{g:WG}{lim:Nat}(h:WInv tg w s i p B objs g lim)(hl:lim<1099511627776)(hfl:FlOk objs g.fl){k b f:Nat}{fg pl n:Int}(hk:g.op k=some (b,f,fg,pl))(hfg:(bits BinOp.and IntKind.i64 fg 1 == 0)=false)(hn:1<=n)(hp:pl<256){fs1:FS}{d:ByteArray}(hb:bytesG objs g.fl g.fs f=(fs1,0,d)):
  Calls prog 125 #[.pointer (some ⟨b,0,none⟩),.int .i64 n] w fun e w'=>e=.returned (.tuple #[.string (d.extract (min pl.toNat d.size) (min (min pl.toNat d.size+(min n (256-pl)).toNat) d.size)),.int .i64 0])/\
   ∃tg',Moves (Mine i) tg tg' w w'/\WInv tg' w' s i p B objs { g with fs:=fs1,op:=updN g.op k (some (b,f,fg,pl+(d.extract (min pl.toNat d.size) (min (min pl.toNat d.size+(min n (256-pl)).toNat) d.size)).size)) } (lim+1):=by
 obtain⟨hbl,c0,c1,c2,_⟩:=opened_cells h hk;obtain⟨_,_,⟨x,hx⟩,_,_,hp0,_⟩:=h.wp.opens.at_ k b f fg pl hk;have hds:=bytes_len h hfl hb;have hby:=bytes_any h hl hfl hx;rw[hb] at hby;refine (read_ok b f fg pl n d _ w c0 c1 c2 hfg hn hp0 hp hds hby (fun w1 hR=>?_)).mono ?_
 ·obtain⟨tg1,m1,hW1⟩:=hR
  obtain⟨e1,_,_,e4,e5⟩:=opened_cells hW1 hk;exact⟨e1,e4,e5 2⟩
 ·rintro e w' ⟨he,w1,⟨tg1,m1,hW1⟩,rfl⟩
  have hsz:((d.extract (min pl.toNat d.size) (min (min pl.toNat d.size+(min n (256-pl)).toNat) d.size)).size:Int)<=256-pl:=by
   rw[ByteArray.size_extract];omega
  obtain⟨m2,hW2⟩:=hW1.place hk (pl':=pl+(d.extract (min pl.toNat d.size) (min (min pl.toNat d.size+(min n (256-pl)).toNat) d.size)).size) (by omega) (by omega);exact⟨he,tg1,(m1.mono (fun _ h=>h.mine)).trans (m2.mono mine7),hW2⟩
theorem write_gen {tg:Tags}{w:World}{g:WG}{lim:Nat}(h:WInv tg w s i p B objs g lim)(hl:lim+2<1099511627776)(hfl:FlOk objs g.fl){k b f a:Nat}{fg pl:Int}{d old:ByteArray}(hk:g.op k=some (b,f,fg,pl))(hfg:(bits BinOp.and IntKind.i64 fg 2 == 0)=false)(hd:1<=d.size)(h0:0<=startF fg pl 0)(h1:startF fg pl 0+d.size<=256){fs1:FS}(hb:bytesG objs g.fl g.fs f=(fs1,0,old))(ha:startF fg pl old.size=(a:Int))(ha1:a+d.size<=256):
  Calls prog 123 #[.pointer (some ⟨b,0,none⟩),.string d] w fun e w'=>e=.returned (.int .i64 0)/\
   ∃tg',Moves (Mine i) tg tg' w w'/\WInv tg' w' s i p B objs { g with fs:=fs1,fl:=updN g.fl f (some (0,writeB old d a)),op:=updN g.op k (some (b,f,fg,(a:Int)+d.size)) } (lim+2):=by
 obtain⟨hbl,c0,c1,c2,_⟩:=opened_cells h hk;obtain⟨_,_,⟨x,hx⟩,_,_,hp0,_⟩:=h.wp.opens.at_ k b f fg pl hk;have hds:=bytes_len h hfl hb;have hby:=bytes_any h (by omega) hfl hx;rw[hb] at hby;have hag:=bytes_again hb;have hwl:(writeB old d a).size<=256:=by
  have:(writeB old d a).size=(writeL old.data.toList d.data.toList a).length:=by simp[writeB,ByteArray.size]
  rw[this,writeL_length,<-Lib.size_eq,<-Lib.size_eq];omega
 refine (write_ok b f fg pl (a:Int) old d (fun w1=>DidF s i p B objs tg w w1 { g with fs:=fs1 } (lim+1)) (fun w2=>∃tg',Moves (Mine i) tg tg' w w2/\WInv tg' w2 s i p B objs { g with fs:=fs1,fl:=updN g.fl f (some (0,writeB old d a)) } (lim+2)) w c0 c1 c2 hfg hd h0 h1 ha (by omega) (by omega) hby (fun w1 hR=>?_) (fun w1 hR=>?_) (fun w2 hS=>?_)).mono ?_
 ·obtain⟨tg1,m1,hW1⟩:=hR
  obtain⟨_,e2,e3,e4,_⟩:=opened_cells hW1 hk;exact⟨e2,e3,e4⟩
 ·obtain⟨tg1,m1,hW1⟩:=hR
  have hby2:=bytes_any hW1 (by omega) hfl hx;have hag':bytesG objs g.fl ({ g with fs:=fs1 }:WG).fs f=(fs1,0,old):=hag;rw[hag'] at hby2;refine (fwrite_walk f a old d _ w1 hd (by omega) hds hby2 (fun w2 hR2=>?_)).mono ?_
  ·obtain⟨tg2,m2,hW2⟩:=hR2
   exact file_cells hW2 hx
  ·rintro e w' ⟨he,w2,w3,⟨tg2,m2,hW2⟩,hb3,rfl⟩
   obtain⟨m3,hW3⟩:=(hW2.below hb3).set_file hx hwl;exact⟨he,tg2,((m1.mono (fun _ h=>h.mine)).trans (m2.mono (fun _ h=>h.mine))).trans ((Moves.of_below hb3).trans (m3.mono mine6)),hW3⟩
 ·obtain⟨tg2,m2,hW2⟩:=hS
  obtain⟨e1,_,_,e4,e5⟩:=opened_cells hW2 hk;exact⟨e1,e4,e5 2⟩
 ·rintro e w' ⟨he,w2,⟨tg2,m2,hW2⟩,rfl⟩
  obtain⟨m3,hW3⟩:=hW2.place hk (pl':=(a:Int)+d.size) (by omega) (by omega);exact⟨he,tg2,m2.trans (m3.mono mine7),hW3⟩
def i64 (x:Int):Prop:=-9223372036854775808<=x/\x<=9223372036854775807
end
def opT (g:WG):Nat->Option Nat:=fun k=>(g.op k).map (·.1)
section
variable {s i p:Nat}{B:WB}{objs:List Ob}
theorem ws_tab {tg:Tags}{w:World}{g:WG}{lim:Nat}(h:WInv tg w s i p B objs g lim):TabAt w B.wb (opT g)/\w.cell? ⟨B.wb,0,none⟩=some (.pointer (some ⟨B.bt,0,none⟩)):=h.wp.opens.tab
theorem OwnF.look1 {tg:Tags}{w:World}{of:List ByteArray->Option Nat}{lim:Nat}(h:OwnF tg w i B of lim){q:List ByteArray}(hq:Good q){W:World}(hb:Below w.heap.size w W):
  (Instr.lookup 161 (.map (some B.oF)) (.agg (pathA q)) false).run prog W=.ok (((of q).map ptr).getD (.pointer none)) W:=by
 obtain⟨_,⟨n,_,M,hV,hM,_⟩,_⟩:=h
 have:=(hV.keep (w':=W) (hb.block _ hV.lt)).look lawP underlying161 (zeroFp W) (keyVP hq)
 have hMq:M (keyP prog q)=(of q).map ptr:=hM q hq;rw[hMq] at this;exact this
theorem fresh_block {P:Nat×Nat->Prop}{tg tg':Tags}{W w':World}{b:Nat}{o:Obj}(hP:¬P (0,0))(ht:tg b=(0,0))(m:Moves P tg tg' W w')(hb:W.heap[b]? = some o):w'.heap[b]? = some o/\tg' b=(0,0):=by
 have hlt:=(Array.getElem?_eq_some_iff.1 hb).1;exact⟨(m.block b hlt (by rw[ht];exact hP)).trans hb,(m.tags b hlt).trans ht⟩
theorem not_fetch0 (hi:2<=i):¬Fetches i (0,0):=by
 rintro (h | h | h)
 ·cases h
 ·injection h with h1 h2;omega
 ·injection h with h1 h2;omega
theorem grown_alloc {w w':World}{b:Nat}{o:Obj}(h:w.grownBy w' (some b)):w.grownBy (w'.alloc o) (some b):=by
 obtain⟨h1,h2,h3,h4,h5⟩:=h;refine⟨h1,h2,h3,by simp;omega,fun k hk hb=>?_⟩;rw[Below.heap_alloc _ _ _ (zzA hk h4)];exact h5 k hk hb
def InfoAt (w:World)(b:Nat):Prop:=w.heap[b]? = some (.cells #[.int .i64 0,.int .i64 0] 141 (0,0))
theorem InfoAt.cells {w:World}{b:Nat}(h:InfoAt w b):b<w.heap.size/\w.cell? ⟨b,0,none⟩=some (.int .i64 0)/\w.cell? ⟨b,1,none⟩=some (.int .i64 0)/\∀o,w.frozen? ⟨b,o,none⟩=false:=by
 unfold InfoAt at h;exact⟨(Array.getElem?_eq_some_iff.1 h).1,by simp only[World.cell?,h];rfl,by simp only[World.cell?,h];rfl,fun o=>by simp only[World.frozen?,h];simp⟩
theorem tstat_err (t:Nat)(s0 s1 s2 s3 s4 a:ByteArray)(k id er:Int)(R:World->Prop)(w:World)(her:(er == 0)=false)
  (hfind:Calls prog 136 #[.pointer (some ⟨t,0,none⟩),.agg #[.string s0,.string s1,.string s2,.string s3,.string s4]] ((w.alloc (.cells #[.string s0,.string s1,.string s2,.string s3,.string s4] 147)).alloc (.cells #[.int .i64 0,.int .i64 0] 141)) fun e w'=>e=.returned (.tuple #[.agg #[.string a,.int .i64 k,.int .i64 id],.int .i64 er])/\InfoAt w' (w.heap.size+1)/\R w'):
  Calls prog 126 #[.pointer (some ⟨t,0,none⟩),.agg #[.string s0,.string s1,.string s2,.string s3,.string s4]] w fun e w'=>e=.returned (.tuple #[.agg #[.int .i64 0,.int .i64 0],.int .i64 er])/\∃w3,R w3/\w3.grownBy w' (some (w.heap.size+1)):=by
 have HF:Hid _:=hfind;clear hfind;go_enter func126,ntmps126;go_wp2_with fail;refine Calls.mono HF.out ?_;rintro e w3 ⟨rfl,hblk,hR⟩;obtain⟨hlt,c0,c1,f0⟩:=hblk.cells;have HRR:Hid _:=hR;clear hblk hR HF;go_wp2;refine bodyPost_ret (v:=.tuple #[.agg #[.int .i64 0,.int .i64 0],.int .i64 er]) (by simp[results,results126,go_sem,c0,c1,hlt]) rfl ?_;exact⟨rfl,w3,HRR.out,grown_alloc (grown_set (grown_set (grown_refl _ _)))⟩
theorem stat0_below (w:World)(q:List ByteArray):Below w.heap.size w ((w.alloc (.cells (pathA q) 147)).alloc (.cells #[.int .i64 0,.int .i64 0] 141)):=((Below.refl _ _).alloc (zzC _) _).alloc (by simp) _
theorem stat0_info (w:World)(q:List ByteArray):InfoAt ((w.alloc (.cells (pathA q) 147)).alloc (.cells #[.int .i64 0,.int .i64 0] 141)) (w.heap.size+1):=by
 have:=heap_alloc_new (w.alloc (.cells (pathA q) 147)) (.cells #[.int .i64 0,.int .i64 0] 141)
 simpa [InfoAt] using this
end
theorem stat_ws (wb bt:Nat)(l:List ByteArray)(hl:Good l)(k sz er:Int)(R:World->Prop)(w:World)(hwb:wb<w.heap.size)(c0:w.cell? ⟨wb,0,none⟩=some (.pointer (some ⟨bt,0,none⟩)))
  (hc:∀W,Below w.heap.size w W->InfoAt W w.heap.size->Calls prog 126 #[.pointer (some ⟨bt,0,none⟩),.agg (pathA l)] W fun e w'=>e=.returned (.tuple #[.agg #[.int .i64 k,.int .i64 sz],.int .i64 er])/\InfoAt w' w.heap.size/\R w'):
  Calls prog 67 #[.pointer (some ⟨wb,0,none⟩),.string (joinB l)] w fun e w'=>e=.returned (.tuple #[.agg #[.int .i64 k,.int .i64 sz],.int .i64 er])/\∃w2,R w2/\w2.grownBy w' (some w.heap.size):=by
 have hpa:=fun W=>parse_any l hl W;obtain⟨s0,s1,s2,s3,s4,hP⟩:∃s0 s1 s2 s3 s4,pathA l = #[.string s0,.string s1,.string s2,.string s3,.string s4]:=⟨_,_,_,_,_,rfl⟩;unfold pathV at hpa;simp only[hP] at hpa hc;have hb0:Below w.heap.size w (w.alloc (.cells #[.int .i64 0,.int .i64 0] 141)):=(Below.refl _ _).alloc (zzC _) _;have hI0:InfoAt (w.alloc (.cells #[.int .i64 0,.int .i64 0] 141)) w.heap.size:=heap_alloc_new _ _;have hwb0:wb<(w.alloc (.cells #[.int .i64 0,.int .i64 0] 141)).heap.size:=by simp;omega
 have c00:=((bcell hb0).1 wb 0 hwb).trans c0;have HC:Hid _:=hc;have HB0:Hid _:=hb0;have HI0:Hid _:=hI0;clear hc hP hl hb0 hI0;generalize joinB l=tx at hpa ⊢;go_enter func67,ntmps67;go_wp2_with (go_at_call 69;refine Calls.mono (hpa _) ?_;rintro e w1 ⟨rfl,hb1⟩;have d0:=((bcell hb1).1 wb 0 hwb0).trans c00;have hw1:=zzA hwb0 hb1.size);have hI1:InfoAt (w1.alloc (.cells #[.string s0,.string s1,.string s2,.string s3,.string s4] 147)).drew w.heap.size:=by
  have h1:w1.heap[w.heap.size]? = _:=(hb1.block w.heap.size (by simp)).trans HI0.out;show (w1.alloc _).heap[w.heap.size]? = _;rw[Below.heap_alloc _ _ _ (Array.getElem?_eq_some_iff.1 h1).1];exact h1
 have hcc:=HC.out (w1.alloc (.cells #[.string s0,.string s1,.string s2,.string s3,.string s4] 147)).drew (below_via HB0.out (below_drew (hb1.alloc hb1.size _))) hI1;have HCC:Hid _:=hcc;clear hcc HC hI1
 go_region_with (go_at_call 126;refine Calls.mono HCC.out ?_;rintro e w2 ⟨rfl,hI2,hR⟩;obtain⟨hl2,e0,e1,f2⟩:=hI2.cells;clear hI2)
 all_goals
  go_wp2;refine bodyPost_ret (v:=.tuple #[.agg #[.int .i64 k,.int .i64 sz],.int .i64 er]) (by simp[results,results67,go_sem,e0,e1]) rfl ?_;exact⟨rfl,w2,hR,grown_set (grown_set (grown_refl _ _))⟩
section
variable {s i p:Nat}{B:WB}{objs:List Ob}
theorem did_grown {tg tg':Tags}{w w2 w':World}{g:WG}{lim:Nat}(hi:2<=i)(m:Moves (Fetches i) tg tg' w w2)(hW:WInv tg' w2 s i p B objs g lim)(ht:tg' w.heap.size=(0,0))(hg:w2.grownBy w' (some w.heap.size)):DidF s i p B objs tg w w' g lim:=by
 have hW':=hW.own hg ht;obtain⟨g1,g2,g3,g4,g5⟩:=hg;exact⟨tg',⟨g1.trans m.os,g2.trans m.tape,g3.trans m.output,zzG m.size g4,m.tags,fun k hk hn=>(g5 k (zzA hk m.size) (fun e=>by injection e with e;omega)).trans (m.block k hk hn),fun hf=>hW'.st.fresh⟩,hW'⟩
end
structure QInv (tg:Tags)(w:World)(s i p:Nat)(B:WB)(objs:List Ob)(g:WG)(lim:Nat)(t:LT):Prop where
 inv:WInv tg w s i p B objs g lim
 flat:Flat objs t g.ft
 ok:LTok objs 5 t
 fl:FlOk objs g.fl
def QTo (s i p:Nat)(B:WB)(objs:List Ob)(tg:Tags)(w w':World)(lim:Nat)(R:WG->LT->Prop):Prop:=∃tg' g' t',Moves (Mine i) tg tg' w w'/\QInv tg' w' s i p B objs g' lim t'/\R g' t'
def TreeTo (g:WG)(fs':FS)(tn:LT)(g':WG)(t':LT):Prop:=t'=tn/\g'.fs=fs'/\g'.fl=g.fl/\g'.base=g.base/\g'.op=g.op
section
variable {s i p:Nat}{B:WB}{objs:List Ob}
theorem QInv.ws {tg:Tags}{w:World}{g:WG}{lim:Nat}{t:LT}(h:QInv tg w s i p B objs g lim t):B.wb<w.heap.size/\w.cell? ⟨B.wb,0,none⟩=some (.pointer (some ⟨B.bt,0,none⟩))/\TabAt w B.wb (fun k=>(g.op k).map (·.1)):=by
 obtain⟨h1,h2⟩:=h.inv.wp.opens.tab;exact⟨h1.1,h2,h1⟩
theorem QInv.mono {tg:Tags}{w:World}{g:WG}{lim lim':Nat}{t:LT}(h:QInv tg w s i p B objs g lim t)(hl:lim<=lim'):QInv tg w s i p B objs g lim' t:=⟨h.inv.mono hl,h.flat,h.ok,h.fl⟩
theorem QInv.below {tg:Tags}{w w':World}{g:WG}{lim:Nat}{t:LT}(h:QInv tg w s i p B objs g lim t)(hb:Below w.heap.size w w'):QInv tg w' s i p B objs g lim t:=⟨h.inv.below hb,h.flat,h.ok,h.fl⟩
theorem QTo.of {tg:Tags}{w w':World}{g:WG}{lim lim':Nat}{t:LT}(h:QInv tg w s i p B objs g lim t){fs':FS}{t':LT}(hL:Left s i p B objs tg w w' g fs' t' lim'):QTo s i p B objs tg w w' lim' (TreeTo g fs' t'):=by
 obtain⟨tg',ft',m,hW,hF,hO⟩:=hL;exact⟨tg',_,t',m,⟨hW,hF,hO,h.fl⟩,rfl,rfl,rfl,rfl,rfl⟩
theorem QTo.mono {tg:Tags}{w w':World}{lim lim':Nat}{R:WG->LT->Prop}(h:QTo s i p B objs tg w w' lim R)(hl:lim<=lim'):QTo s i p B objs tg w w' lim' R:=by
 obtain⟨tg',g',t',m,hK,hR⟩:=h;exact⟨tg',g',t',m,hK.mono hl,hR⟩
theorem lleft_via {tg:Tags}{w W w':World}{g:WG}{fs':FS}{t':LT}{lim:Nat}(hb:Below w.heap.size w W)(h:Left s i p B objs tg W w' g fs' t' lim):Left s i p B objs tg w w' g fs' t' lim:=by
 obtain⟨tg',ft',m,hW,hF,hO⟩:=h;exact⟨tg',ft',call_moves hb m,hW,hF,hO⟩
theorem qmkdir {tg:Tags}{w:World}{g:WG}{lim:Nat}{t:LT}(h:QInv tg w s i p B objs g lim t)(hl:lim+1000<1099511627776){n:ByteArray}{r:List ByteArray}(hL:Good (r.reverse ++ [n])):
  Calls prog 31 #[.pointer (some ⟨B.wb,0,none⟩),.string (joinB (r.reverse ++ [n]))] w fun e w'=>e=.returned (.int .i64 (mkdirR objs t g.fs (n :: r)).2.1)/\QTo s i p B objs tg w w' (lim+400) (TreeTo g (mkdirR objs t g.fs (n :: r)).1 (mkdirR objs t g.fs (n :: r)).2.2):=by
 obtain⟨hwb,c0,_⟩:=h.ws;refine (mkdir_ws B.wb B.bt _ hL _ _ w hwb c0 (fun W hb=>(mkdir_walk (h.inv.below hb) (by omega) h.flat h.ok hL).mono fun e w' ⟨h1,h2⟩=>⟨h1,lleft_via hb h2⟩)).mono ?_;rintro e w' ⟨h1,h2⟩;exact⟨h1,(QTo.of h h2).mono (by omega)⟩
theorem qremove {tg:Tags}{w:World}{g:WG}{lim:Nat}{t:LT}(h:QInv tg w s i p B objs g lim t)(hl:lim+1000<1099511627776){n:ByteArray}{r:List ByteArray}(hL:Good (r.reverse ++ [n])):
  Calls prog 32 #[.pointer (some ⟨B.wb,0,none⟩),.string (joinB (r.reverse ++ [n]))] w fun e w'=>e=.returned (.int .i64 (removeR objs t g.fs (n :: r)).2.1)/\QTo s i p B objs tg w w' (lim+400) (TreeTo g (removeR objs t g.fs (n :: r)).1 (removeR objs t g.fs (n :: r)).2.2):=by
 obtain⟨hwb,c0,_⟩:=h.ws;refine (remove_ws B.wb B.bt _ hL _ _ w hwb c0 (fun W hb=>(remove_walk (h.inv.below hb) (by omega) h.flat h.ok hL).mono fun e w' ⟨h1,h2⟩=>⟨h1,lleft_via hb h2⟩)).mono ?_;rintro e w' ⟨h1,h2⟩;exact⟨h1,(QTo.of h h2).mono (by omega)⟩
theorem qrename {tg:Tags}{w:World}{g:WG}{lim:Nat}{t:LT}(h:QInv tg w s i p B objs g lim t)(hl:lim+1000<1099511627776){n n':ByteArray}{r r':List ByteArray}(hL:Good (r.reverse ++ [n]))(hM:Good (r'.reverse ++ [n'])):
  Calls prog 33 #[.pointer (some ⟨B.wb,0,none⟩),.string (joinB (r.reverse ++ [n])),.string (joinB (r'.reverse ++ [n']))] w fun e w'=>e=.returned (.int .i64 (renameR objs t g.fs (n :: r) (n' :: r')).2.1)/\QTo s i p B objs tg w w' (lim+400) (TreeTo g (renameR objs t g.fs (n :: r) (n' :: r')).1 (renameR objs t g.fs (n :: r) (n' :: r')).2.2):=by
 obtain⟨hwb,c0,_⟩:=h.ws;refine (rename_ws B.wb B.bt _ _ hL hM _ _ w hwb c0 (fun W hb=>(rename_walk (h.inv.below hb) (by omega) h.flat h.ok hL hM).mono fun e w' ⟨h1,h2⟩=>⟨h1,lleft_via hb h2⟩)).mono ?_;rintro e w' ⟨h1,h2⟩;exact⟨h1,(QTo.of h h2).mono (by omega)⟩
theorem tbytes_walk (t sF:Nat)(s0 s1 s2 s3 s4 nm d:ByteArray)(id er:Int)(R:World->Prop)(w:World)(ht:t<w.heap.size)(hid:id≠0)(c1:w.cell? ⟨t,1,none⟩=some (.pointer (some ⟨sF,0,none⟩)))
  (hg:∀W,Below w.heap.size w W->Calls prog 213 #[.pointer (some ⟨sF,0,none⟩),.int .i64 id] W fun e w'=>e=.returned (.tuple #[.string d,.int .i64 er])/\R w'):
  Calls prog 214 #[.pointer (some ⟨t,0,none⟩),.agg #[.string s0,.string s1,.string s2,.string s3,.string s4],.agg #[.string nm,.int .i64 1,.int .i64 id]] w fun en w'=>en=.returned (.tuple #[.string d,.int .i64 er])/\R w':=by
 have hb0:Below w.heap.size w ((w.alloc (.cells #[.string s0,.string s1,.string s2,.string s3,.string s4] 147)).alloc (.cells #[.string nm,.int .i64 1,.int .i64 id] 96)).drew:=below_drew (((Below.refl _ _).alloc (zzC _) _).alloc (by simp) _);have hG:=hg _ hb0;have HG:Hid _:=hG;have hid':(id == 0)=false:=by simpa using hid
 clear hg hG hb0;go_enter func214,ntmps214;go_wp2
 go_region_with (go_at_call 213;refine Calls.mono HG.out ?_;rintro e w2 ⟨rfl,hR⟩)
 all_goals
  go_wp2;go_ret2;exact⟨rfl,hR⟩
theorem tsize_file (t:Nat)(s0 s1 s2 s3 s4 nm d:ByteArray)(id er:Int)(hd:d.size<=256)(R:World->Prop)(w:World)
  (hby:Calls prog 214 #[.pointer (some ⟨t,0,none⟩),.agg #[.string s0,.string s1,.string s2,.string s3,.string s4],.agg #[.string nm,.int .i64 1,.int .i64 id]] ((w.alloc (.cells #[.string s0,.string s1,.string s2,.string s3,.string s4] 147)).alloc (.cells #[.string nm,.int .i64 1,.int .i64 id] 96)) fun en w'=>en=.returned (.tuple #[.string d,.int .i64 er])/\R w'):
  Calls prog 183 #[.pointer (some ⟨t,0,none⟩),.agg #[.string s0,.string s1,.string s2,.string s3,.string s4],.agg #[.string nm,.int .i64 1,.int .i64 id]] w fun en w'=>en=.returned (.tuple #[.int .i64 (d.size:Int),.int .i64 er])/\R w':=by
 have HBY:Hid _:=hby;clear hby;go_enter func183,ntmps183;go_wp2_with fail;refine Calls.mono HBY.out ?_;rintro e w2 ⟨rfl,hR⟩;go_wp2;go_ret2;exact⟨rfl,hR⟩
theorem tsize_dir (t n:Nat)(s0 s1 s2 s3 s4 nm:ByteArray)(id er:Int)(R:World->Prop)(w:World)
  (hen:Calls prog 187 #[.pointer (some ⟨t,0,none⟩),.agg #[.string s0,.string s1,.string s2,.string s3,.string s4],.agg #[.string nm,.int .i64 2,.int .i64 id]] ((w.alloc (.cells #[.string s0,.string s1,.string s2,.string s3,.string s4] 147)).alloc (.cells #[.string nm,.int .i64 2,.int .i64 id] 96)) fun en w'=>∃a c,en=.returned (.tuple #[.slice a n c,.int .i64 er])/\R w'):
  Calls prog 183 #[.pointer (some ⟨t,0,none⟩),.agg #[.string s0,.string s1,.string s2,.string s3,.string s4],.agg #[.string nm,.int .i64 2,.int .i64 id]] w fun en w'=>en=.returned (.tuple #[.int .i64 (n:Int),.int .i64 er])/\R w':=by
 have HEN:Hid _:=hen;clear hen;go_enter func183,ntmps183;go_wp2_with fail;refine Calls.mono HEN.out ?_;rintro e w2 ⟨a,c,rfl,hR⟩;go_wp2;go_ret2;exact⟨rfl,hR⟩
theorem tstat_two (t:Nat)(s0 s1 s2 s3 s4 a:ByteArray)(k id sz er:Int)(R:World->Prop)(R2:World->Prop)(w:World)
  (hfind:Calls prog 136 #[.pointer (some ⟨t,0,none⟩),.agg #[.string s0,.string s1,.string s2,.string s3,.string s4]] ((w.alloc (.cells #[.string s0,.string s1,.string s2,.string s3,.string s4] 147)).alloc (.cells #[.int .i64 0,.int .i64 0] 141)) fun e w'=>e=.returned (.tuple #[.agg #[.string a,.int .i64 k,.int .i64 id],.int .i64 0])/\InfoAt w' (w.heap.size+1)/\(∀o,w'.cell? ⟨w.heap.size,o,none⟩=((w.alloc (.cells #[.string s0,.string s1,.string s2,.string s3,.string s4] 147)).alloc (.cells #[.int .i64 0,.int .i64 0] 141)).cell? ⟨w.heap.size,o,none⟩)/\R w')
  (hsize:∀w',R w'->InfoAt w' (w.heap.size+1)->Calls prog 183 #[.pointer (some ⟨t,0,none⟩),.agg #[.string s0,.string s1,.string s2,.string s3,.string s4],.agg #[.string a,.int .i64 k,.int .i64 id]] (w'.alloc (.cells #[.string a,.int .i64 k,.int .i64 id] 96)) fun e w4=>e=.returned (.tuple #[.int .i64 sz,.int .i64 er])/\InfoAt w4 (w.heap.size+1)/\(∀o,w4.cell? ⟨w'.heap.size,o,none⟩=(w'.alloc (.cells #[.string a,.int .i64 k,.int .i64 id] 96)).cell? ⟨w'.heap.size,o,none⟩)/\w'.heap.size<w4.heap.size/\R2 w4):
  Calls prog 126 #[.pointer (some ⟨t,0,none⟩),.agg #[.string s0,.string s1,.string s2,.string s3,.string s4]] w fun e w'=>e=.returned (.tuple #[.agg (if er=0 then #[.int .i64 k,.int .i64 sz] else #[.int .i64 0,.int .i64 0]),.int .i64 er])/\∃w4,R2 w4/\w4.grownBy w' (some (w.heap.size+1)):=by
 have HF:Hid _:=hfind;have HSZ:Hid _:=hsize;clear hfind hsize;go_enter func126,ntmps126;go_wp2_with fail;refine Calls.mono HF.out ?_;rintro e w3 ⟨rfl,hblk,hkp,hR⟩;obtain⟨hlt,c0,c1,f0⟩:=hblk.cells;have hz3:w.heap.size<w3.heap.size:=by omega
 have hs:=HSZ.out w3 hR hblk;have HS:Hid _:=hs;clear hblk hR HF HSZ hs;go_wp2_with fail;refine Calls.mono HS.out ?_;rintro e w4 ⟨rfl,hblk4,hkp4,hlt4,hR4⟩;obtain⟨hl4,d0,d1,g0⟩:=hblk4.cells;have HR4:Hid _:=hR4;clear hblk4 hR4 HS;by_cases her:er=0
 ·subst her
  go_wp2;refine bodyPost_ret (v:=.tuple #[.agg #[.int .i64 k,.int .i64 sz],.int .i64 0]) (by simp[results,results126,go_sem,d0,d1]) rfl ?_;exact⟨rfl,w4,HR4.out,grown_set (grown_set (grown_refl _ _))⟩
 ·have her':(er == 0)=false:=by simpa using her
  have HER:Hid _:=her;clear her;go_wp2;refine bodyPost_ret (v:=.tuple #[.agg #[.int .i64 0,.int .i64 0],.int .i64 er]) (by simp[results,results126,go_sem,d0,d1]) rfl ?_;exact⟨rfl,w4,HR4.out,grown_set (grown_set (grown_refl _ _))⟩
theorem tbytes_gen {tg:Tags}{w:World}{g:WG}{lim f:Nat}{d nm:ByteArray}{fs1:FS}{er:Int}(h:WInv tg w s i p B objs g lim)(hl:lim<1099511627776)(hfl:FlOk objs g.fl){q:List ByteArray}(hq:Good q)(hf:g.ft.of q=some f){x:Int×ByteArray}(hx:g.fl f=some x)(hbz:bytesG objs g.fl g.fs f=(fs1,er,d)):
  Calls prog 214 #[.pointer (some ⟨B.bt,0,none⟩),.agg (pathA q),.agg #[.string nm,.int .i64 1,.int .i64 0]] w fun en w'=>en=.returned (.tuple #[.string d,.int .i64 er])/\DidF s i p B objs tg w w' { g with fs:=fs1 } (lim+1):=by
 have hb0:Below w.heap.size w ((w.alloc (.cells (pathA q) 147)).alloc (.cells #[.string nm,.int .i64 1,.int .i64 0] 96)).drew:=below_drew (((Below.refl _ _).alloc (zzC _) _).alloc (by simp) _);have hlk:=h.wp.ownF.look1 hq hb0;rw[hf] at hlk;have hby:=bytes_any (h.below hb0) hl hfl hx;rw[hbz] at hby;obtain⟨tb,t7,t8⟩:=h.treeAt;obtain⟨s0,s1,s2,s3,s4,hP⟩:∃s0 s1 s2 s3 s4,pathA q = #[.string s0,.string s1,.string s2,.string s3,.string s4]:=⟨_,_,_,_,_,rfl⟩;rw[hP] at hlk hb0 hby ⊢;simp only[Option.map_some,Option.getD_some,ptr] at hlk;have HB:Hid _:=hb0;have HBY:Hid _:=hby;clear h hb0 hby;go_enter func214,ntmps214;go_wp2
 go_region_with (go_at_call 181;refine Calls.mono HBY.out ?_;rintro e w2 ⟨rfl,hD⟩)
 all_goals
  go_wp2;go_ret2;exact⟨rfl,hD.via HB.out⟩
end


variable {ft:PTail}
variable {ft:PTail}

variable {ft:PTail}
variable {ft:PTail}
section
variable {s i p:Nat}{B:WB}{objs:List Ob}
end

theorem cell_at {w:World}{b:Nat}{c:Array Value}{t:TypeId}{z:Nat×Nat}(h:w.heap[b]? = some (.cells c t z))(o:Nat):w.cell? ⟨b,o,none⟩=c[o]?:=by simp[World.cell?,h]

section
variable {s i p:Nat}{B:WB}{objs:List Ob}
end
abbrev comp (l:List ByteArray)(k:Nat):ByteArray:=l.getD k ⟨#[]⟩
section
variable {s i p:Nat}{B:WB}{objs:List Ob}
theorem apart {q q':List ByteArray}{x y:ByteArray}(h:x≠y)(h1:q ++ [x] <+: q'):¬q ++ [y] <+: q':=by
 rintro ⟨l,rfl⟩;obtain⟨l2,h2⟩:=h1;rw[List.append_assoc,List.append_assoc] at h2
 have:=List.append_cancel_left h2
 simp at this;exact h this.1
theorem tsize_any {tg:Tags}{w:World}{g:WG}{lim:Nat}{t:LT}(h:WInv tg w s i p B objs g lim)(hl:lim+10<1099511627776)(hF:Flat objs t g.ft)(hok:LTok objs 5 t)(hfl:FlOk objs g.fl){q:List ByteArray}(hq:Good q){c:LT}(ha:t.at objs q=some c)(nm:ByteArray):
  Calls prog 183 #[.pointer (some ⟨B.bt,0,none⟩),.agg (pathA q),.agg #[.string nm,.int .i64 c.kind,.int .i64 c.id]] w fun en w'=>en=.returned (.tuple #[.int .i64 (sizeG objs g.fl g.fs c).2.2,.int .i64 (sizeG objs g.fl g.fs c).2.1])/\DidF s i p B objs tg w w' { g with fs:=(sizeG objs g.fl g.fs c).1 } (lim+1):=by
 have hS:=h.st.sound;obtain⟨_,hokc,_⟩:=ok_at hS q hok ha;have hb0:∀k id:Int,Below w.heap.size w ((w.alloc (.cells (pathA q) 147)).alloc (.cells #[.string nm,.int .i64 k,.int .i64 id] 96)):=fun k id=>((Below.refl _ _).alloc (zzC _) _).alloc (by simp) _;have hdirs:∀{m:Nat} (c:LT),c.kind=2->LTok objs m c->t.at objs q=some c->(c.id≠0->kindOf objs c.id=2)->sizeG objs g.fl g.fs c=((kidsG objs g.fs c).1,(kidsG objs g.fs c).2.1,((kidsG objs g.fs c).2.2.length:Int))->
   Calls prog 183 #[.pointer (some ⟨B.bt,0,none⟩),.agg (pathA q),.agg #[.string nm,.int .i64 2,.int .i64 c.id]] w fun en w'=>en=.returned (.tuple #[.int .i64 (sizeG objs g.fl g.fs c).2.2,.int .i64 (sizeG objs g.fl g.fs c).2.1])/\DidF s i p B objs tg w w' { g with fs:=(sizeG objs g.fl g.fs c).1 } (lim+1):=by
  intro m c hk hok' ha' hid hG;have hent:EntOk objs (nm,2,c.id):=⟨.inr rfl,hid⟩;have hfe:=flat_ents hS hF hok' ha' g.fs nm;rw[hk] at hfe;have hen:=entries_any (h.below (hb0 2 c.id)) (by omega) hq hent;rw[hfe] at hen;rw[hG];refine tsize_dir B.bt _ _ _ _ _ _ nm c.id _ (fun w'=>DidF s i p B objs tg w w' { g with fs:=(kidsG objs g.fs c).1 } (lim+1)) w (hen.mono ?_);rintro en w' ⟨v,he,tg',m',hW,hsl⟩;obtain⟨la,cc,rfl⟩:=hsl.len;rw[List.length_map] at he;exact⟨la,cc,he,tg',call_moves (hb0 2 c.id) m',hW⟩
 cases c with
 | file id=>
  rw[LTok] at hokc;have hid:id≠0:=fun e=>by have:=(kindOf_pos (a:=objs) (id:=id) (by rw[hokc];decide)).1;omega
  have hlt:B.bt<w.heap.size:=(Array.getElem?_eq_some_iff.1 h.wp.tree.ht).1;have hsf:=fun W (hb:Below w.heap.size w W)=>shelfF (h.below hb) (by omega) hokc;have h1:=h.below (hb0 1 id);have c1:((w.alloc (.cells (pathA q) 147)).alloc (.cells #[.string nm,.int .i64 1,.int .i64 id] 96)).cell? ⟨B.bt,1,none⟩=some (.pointer (some ⟨B.sF,0,none⟩)):=cell_at h1.wp.tree.ht 1;have hsz:(if (g.fs.fileG id).2=true then bytesOf objs id else ⟨#[]⟩).size<=256:=by
   split
   ·exact h.st.bytes_size hokc
   ·decide
  have:=tsize_file B.bt _ _ _ _ _ nm (if (g.fs.fileG id).2=true then bytesOf objs id else ⟨#[]⟩) id (if (g.fs.fileG id).2=true then 0 else 14) hsz (fun w'=>DidF s i p B objs tg w w' { g with fs:=(g.fs.fileG id).1 } (lim+1)) w (tbytes_walk B.bt B.sF _ _ _ _ _ nm _ id _ _ _ (zzA hlt (hb0 1 id).size) hid c1 (fun W hb=>(hsf W (below_via (hb0 1 id) hb)).mono (fun e w' ⟨h1,tg',m,hW⟩=>⟨h1,tg',call_moves (below_via (hb0 1 id) hb) m,hW⟩)))
  have hG:sizeG objs g.fl g.fs (.file id)=if (g.fs.fileG id).2 then ((g.fs.fileG id).1,0,((bytesOf objs id).size:Int)) else ((g.fs.fileG id).1,14,0):=rfl;rw[hG];cases hh:(g.fs.fileG id).2 with
  | true=>rw[hh] at this;exact this
  | false=>rw[hh] at this;exact this
 | held f=>
  have hof:g.ft.of q=some f:=by rw[hF.of,ha];rfl
  obtain⟨x,hx⟩:=h.wp.held q f hof;obtain⟨fs1,er,d,hbz⟩:∃fs1 er d,bytesG objs g.fl g.fs f=(fs1,er,d):=⟨_,_,_,rfl⟩;have hG:sizeG objs g.fl g.fs (.held f)=(fs1,er,(d.size:Int)):=by simp only[sizeG,hbz]
  rw[hG];have hds:=bytes_len h hfl hbz;exact tsize_file B.bt _ _ _ _ _ nm d 0 er hds _ w ((tbytes_gen (nm:=nm) (h.below (hb0 1 0)) (by omega) hfl hq hof hx hbz).mono (fun e w' ⟨h1,h2⟩=>⟨h1,h2.via (hb0 1 0)⟩))
 | dir id=>exact hdirs (.dir id) rfl hokc ha (fun h0=>by rw[LTok] at hokc;exact hokc.1) rfl
 | own es=>exact hdirs (.own es) rfl hokc ha (fun h0=>absurd rfl h0) rfl
theorem tstat_any {tg:Tags}{w:World}{g:WG}{lim:Nat}{t:LT}(h:WInv tg w s i p B objs g lim)(hl:lim+100<1099511627776)(hF:Flat objs t g.ft)(hok:LTok objs 5 t)(hfl:FlOk objs g.fl){r:List ByteArray}(hq:Good r.reverse):
  Calls prog 126 #[.pointer (some ⟨B.bt,0,none⟩),.agg (pathA r.reverse)] w fun e w'=>e=.returned (.tuple #[.agg #[.int .i64 (statR objs g.fl t g.fs r).2.2.1,.int .i64 (statR objs g.fl t g.fs r).2.2.2],.int .i64 (statR objs g.fl t g.fs r).2.1])/\DidF s i p B objs tg w w' { g with fs:=(statR objs g.fl t g.fs r).1 } (lim+20):=by
 have hi:=h.two;have hS:=h.st.sound;have hb0:=stat0_below w r.reverse;have hI0:=stat0_info w r.reverse;have hfr:tg (w.heap.size+1)=(0,0):=h.st.fresh _ (by omega);have hfr0:tg w.heap.size=(0,0):=h.st.fresh _ (by omega);have hr5:r.length<=5:=by have:=hq.len;simpa using this
 have hfind:=find_all (s:=s) (i:=i) (p:=p) (B:=B) (objs:=objs) r tg _ g lim (h.below hb0) (by omega) hq;obtain⟨q1,q2,q3⟩:=flat_find hS hF hok g.fs r;by_cases her:(findR objs t g.fs r).2.1=0
 ·obtain⟨q4,hat⟩:=q3 her
  rw[q1,q2,q4,her] at hfind;have hst:statR objs g.fl t g.fs r=(if (sizeG objs g.fl (findR objs t g.fs r).1 (findR objs t g.fs r).2.2).2.1≠0 then ((sizeG objs g.fl (findR objs t g.fs r).1 (findR objs t g.fs r).2.2).1,(sizeG objs g.fl (findR objs t g.fs r).1 (findR objs t g.fs r).2.2).2.1,0,0) else ((sizeG objs g.fl (findR objs t g.fs r).1 (findR objs t g.fs r).2.2).1,0,(findR objs t g.fs r).2.2.kind,(sizeG objs g.fl (findR objs t g.fs r).1 (findR objs t g.fs r).2.2).2.2)):=by
   unfold statR;simp only[her];rfl
  generalize (findR objs t g.fs r).2.2=c at *;generalize (findR objs t g.fs r).1=fs1 at *;have hw:=tstat_two B.bt _ _ _ _ _ (r.headD ⟨#[]⟩) c.kind c.id (sizeG objs g.fl fs1 c).2.2 (sizeG objs g.fl fs1 c).2.1 (fun w3=>∃tg3,Moves (Fetches i) tg tg3 ((w.alloc (.cells (pathA r.reverse) 147)).alloc (.cells #[.int .i64 0,.int .i64 0] 141)) w3/\WInv tg3 w3 s i p B objs { g with fs:=fs1 } (lim+5)/\tg3 (w.heap.size+1)=(0,0)) (fun w3=>DidF s i p B objs tg ((w.alloc (.cells (pathA r.reverse) 147)).alloc (.cells #[.int .i64 0,.int .i64 0] 141)) w3 { g with fs:=(sizeG objs g.fl fs1 c).1 } (lim+20)) w (hfind.mono ?_) ?_
  ·refine hw.mono ?_
   rintro e w' ⟨he,w3,hd,hg⟩;rw[hst];by_cases hz:(sizeG objs g.fl fs1 c).2.1=0
   ·rw[zzB (fun h=>h hz)]
    rw[zzD hz,hz] at he;exact⟨he,didF_end h hb0 (by simp) hd hg⟩
   ·rw[zzD hz]
    rw[zzB hz] at he;exact⟨he,didF_end h hb0 (by simp) hd hg⟩
  ·rintro e w' ⟨he,tg',m,hW⟩
   obtain⟨hb1,ht1⟩:=fresh_block (not_fetch0 hi) hfr m hI0;exact⟨he,hb1,fun o=>World.cell?_of_block (a:=⟨w.heap.size,o,none⟩) (m.block w.heap.size (by simp;omega) (by rw[hfr0];exact not_fetch0 hi)),tg',m,hW.mono (by omega),ht1⟩
  ·rintro w3 ⟨tg3,m3,hW3,ht3⟩ hI3
   have hb3:Below w3.heap.size w3 (w3.alloc (.cells #[.string (r.headD ⟨#[]⟩),.int .i64 c.kind,.int .i64 c.id] 96)):=(Below.refl _ _).alloc (zzC _) _;refine (tsize_any (g:={ g with fs:=fs1 }) (hW3.below hb3) (by omega) hF hok hfl hq hat (r.headD ⟨#[]⟩)).mono ?_;rintro e w4 ⟨he,tg4,m4,hW4⟩;have hI3':InfoAt (w3.alloc (.cells #[.string (r.headD ⟨#[]⟩),.int .i64 c.kind,.int .i64 c.id] 96)) (w.heap.size+1):=by
    unfold InfoAt at hI3 ⊢;rw[Below.heap_alloc _ _ _ (Array.getElem?_eq_some_iff.1 hI3).1];exact hI3
   refine⟨he,(fresh_block (not_fetch0 hi) ht3 m4 hI3').1,fun o=>World.cell?_of_block (a:=⟨w3.heap.size,o,none⟩) (m4.block w3.heap.size (by simp) (by rw[hW3.st.fresh _ (zzC _)];exact not_fetch0 hi)),zzA (by simp) m4.size,tg4,m3.trans (call_moves hb3 m4),hW4.mono (by omega)⟩
 ·have hst:statR objs g.fl t g.fs r=((findR objs t g.fs r).1,(findR objs t g.fs r).2.1,0,0):=by
   unfold statR;simp only[zzD her]
  rw[hst];rw[q1,q2] at hfind;have her':((findR objs t g.fs r).2.1 == 0)=false:=by simpa using her
  have hw:=tstat_err B.bt _ _ _ _ _ (findF objs g.ft g.fs r).2.2.1 (findF objs g.ft g.fs r).2.2.2.1 (findF objs g.ft g.fs r).2.2.2.2 (findR objs t g.fs r).2.1 (fun w3=>DidF s i p B objs tg ((w.alloc (.cells (pathA r.reverse) 147)).alloc (.cells #[.int .i64 0,.int .i64 0] 141)) w3 { g with fs:=(findR objs t g.fs r).1 } (lim+20)) w her' (hfind.mono ?_)
  ·refine hw.mono ?_
   rintro e w' ⟨he,w3,hd,hg⟩;exact⟨he,didF_end h hb0 (by simp) hd hg⟩
  ·rintro e w' ⟨he,tg',m,hW⟩
   obtain⟨hb1,ht1⟩:=fresh_block (not_fetch0 hi) hfr m hI0;exact⟨he,hb1,tg',m,hW.mono (by omega)⟩
theorem qstat {tg:Tags}{w:World}{g:WG}{lim:Nat}{t:LT}(h:QInv tg w s i p B objs g lim t)(hl:lim+1000<1099511627776){r:List ByteArray}(hL:Good r.reverse):
  Calls prog 67 #[.pointer (some ⟨B.wb,0,none⟩),.string (joinB r.reverse)] w fun e w'=>e=.returned (.tuple #[.agg #[.int .i64 (statR objs g.fl t g.fs r).2.2.1,.int .i64 (statR objs g.fl t g.fs r).2.2.2],.int .i64 (statR objs g.fl t g.fs r).2.1])/\QTo s i p B objs tg w w' (lim+400) (TreeTo g (statR objs g.fl t g.fs r).1 t):=by
 obtain⟨htab,c0⟩:=ws_tab h.inv;have hi:=h.inv.two;have hfr:tg w.heap.size=(0,0):=h.inv.st.fresh _ (zzC _);have hw:=stat_ws B.wb B.bt r.reverse hL (statR objs g.fl t g.fs r).2.2.1 (statR objs g.fl t g.fs r).2.2.2 (statR objs g.fl t g.fs r).2.1 (fun w2=>∃tg',Moves (Fetches i) tg tg' w w2/\WInv tg' w2 s i p B objs { g with fs:=(statR objs g.fl t g.fs r).1 } (lim+20)/\tg' w.heap.size=(0,0)) w htab.1 c0 (fun W hb hI=>(tstat_any (h.inv.below hb) (by omega) h.flat h.ok h.fl hL).mono ?_)
 ·refine hw.mono ?_
  rintro e w' ⟨he,w2,⟨tg',m,hW,ht⟩,hg⟩;obtain⟨tg2,m2,hW2⟩:=did_grown hi m hW ht hg;exact⟨he,tg2,_,t,m2.mono (fun t ht=>Fetches.mine ht),⟨hW2.mono (by omega),h.flat,h.ok,h.fl⟩,rfl,rfl,rfl,rfl,rfl⟩
 ·rintro e w' ⟨he,tg',m,hW⟩
  obtain⟨h1,h2⟩:=fresh_block (not_fetch0 hi) hfr m hI;exact⟨he,h1,tg',call_moves hb m,hW,h2⟩
end

end Go.Proofs.YtlgidcmmgohagaaGreat
