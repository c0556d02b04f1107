/- What is proved here: Open of a I1 tree. -/
import Derived.Test.YtlgidcmmgohagaaGreatTreeM21
import Derived.Test.YtlgidcmmgohagaaGreatTreeM16
import Derived.Deep.RegionHeld3
namespace Go.Proofs.YtlgidcmmgohagaaGreat
open Go.RowKit Go.Sort Go.Shelf Go.Proofs.Tryz
set_option linter.unusedVariables false
set_option maxRecDepth 100000
set_option maxHeartbeats 16000000
section
variable {s i p:Nat}{B:WB}{ag:List Ob}
end


theorem Jo (wb bt:Nat)(l:List ByteArray)(hl:Good l)(er:Int)(R:World->Prop)(w:World)(xV:wb<w.heap.size)(c0:w.cell? ⟨wb,0,none⟩=some (.pointer (some ⟨bt,0,none⟩)))
  (hc:∀W,Below w.heap.size w W->Calls prog 70 #[.pointer (some ⟨bt,0,none⟩),.agg (av l)] W fun e w'=>e=.returned (.int .i64 er)/\R w'):
  Calls prog 31 #[.pointer (some ⟨wb,0,none⟩),.string (bV l)] w fun e w'=>e=.returned (.int .i64 er)/\R w':=by
 have kP:=fun W=>mb l hl W;obtain⟨s0,s1,s2,s3,s4,hP⟩:∃s0 s1 s2 s3 s4,av l = #[.string s0,.string s1,.string s2,.string s3,.string s4]:=⟨_,_,_,_,_,rfl⟩;unfold bn at kP;simp only[hP] at kP hc;have HC:Hid _:=hc;clear hc hP hl;generalize bV l=tx at kP ⊢;go_enter func31,ntmps31;go_wp2_with (go_at_call 69;refine Calls.mono (kP _) ?_;rintro e w1 ⟨rfl,hb1⟩;have d0:=((aR hb1).1 wb 0 xV).trans c0;have jb:=cv xV hb1.size);have hcc:=HC.out (w1.alloc (.cells #[.string s0,.string s1,.string s2,.string s3,.string s4] 147)).drew (aB (hb1.alloc hb1.size _));have Q4:Hid _:=hcc;clear hcc HC
 go_region_with (go_at_call 70;refine Calls.mono Q4.out ?_;rintro e w2 ⟨rfl,hR⟩)
 all_goals
  go_wp2;go_ret;exact⟨rfl,hR⟩
theorem En (wb bt:Nat)(l:List ByteArray)(hl:Good l)(er:Int)(R:World->Prop)(w:World)(xV:wb<w.heap.size)(c0:w.cell? ⟨wb,0,none⟩=some (.pointer (some ⟨bt,0,none⟩)))
  (hc:∀W,Below w.heap.size w W->Calls prog 71 #[.pointer (some ⟨bt,0,none⟩),.agg (av l)] W fun e w'=>e=.returned (.int .i64 er)/\R w'):
  Calls prog 32 #[.pointer (some ⟨wb,0,none⟩),.string (bV l)] w fun e w'=>e=.returned (.int .i64 er)/\R w':=by
 have kP:=fun W=>mb l hl W;obtain⟨s0,s1,s2,s3,s4,hP⟩:∃s0 s1 s2 s3 s4,av l = #[.string s0,.string s1,.string s2,.string s3,.string s4]:=⟨_,_,_,_,_,rfl⟩;unfold bn at kP;simp only[hP] at kP hc;have HC:Hid _:=hc;clear hc hP hl;generalize bV l=tx at kP ⊢;go_enter func32,ntmps32;go_wp2_with (go_at_call 69;refine Calls.mono (kP _) ?_;rintro e w1 ⟨rfl,hb1⟩;have d0:=((aR hb1).1 wb 0 xV).trans c0;have jb:=cv xV hb1.size);have hcc:=HC.out (w1.alloc (.cells #[.string s0,.string s1,.string s2,.string s3,.string s4] 147)).drew (aB (hb1.alloc hb1.size _));have Q4:Hid _:=hcc;clear hcc HC
 go_region_with (go_at_call 71;refine Calls.mono Q4.out ?_;rintro e w2 ⟨rfl,hR⟩)
 all_goals
  go_wp2;go_ret;exact⟨rfl,hR⟩
theorem Eo (wb bt:Nat)(l m:List ByteArray)(hl:Good l)(hm:Good m)(er:Int)(R:World->Prop)(w:World)(xV:wb<w.heap.size)(c0:w.cell? ⟨wb,0,none⟩=some (.pointer (some ⟨bt,0,none⟩)))
  (hc:∀W,Below w.heap.size w W->Calls prog 72 #[.pointer (some ⟨bt,0,none⟩),.agg (av l),.agg (av m)] W fun e w'=>e=.returned (.int .i64 er)/\R w'):
  Calls prog 33 #[.pointer (some ⟨wb,0,none⟩),.string (bV l),.string (bV m)] w fun e w'=>e=.returned (.int .i64 er)/\R w':=by
 have kP:=fun W=>mb l hl W;have Vm:=fun W=>mb m hm W;obtain⟨s0,s1,s2,s3,s4,hP⟩:∃s0 s1 s2 s3 s4,av l = #[.string s0,.string s1,.string s2,.string s3,.string s4]:=⟨_,_,_,_,_,rfl⟩;obtain⟨d0,d1,d2,d3,d4,hQ⟩:∃s0 s1 s2 s3 s4,av m = #[.string s0,.string s1,.string s2,.string s3,.string s4]:=⟨_,_,_,_,_,rfl⟩;unfold bn at kP Vm;simp only[hP] at kP hc;simp only[hQ] at Vm hc;have HC:Hid _:=hc;clear hc hP hQ hl hm;generalize bV l=tx at kP ⊢;generalize bV m=ty at Vm ⊢;go_enter func33,ntmps33;go_wp2_with fail;refine Calls.mono (kP w) ?_;rintro e w1 ⟨rfl,hb1⟩;have e0:=((aR hb1).1 wb 0 xV).trans c0;have jb:=cv xV hb1.size;have b1:Below w.heap.size w (w1.alloc (.cells #[.string s0,.string s1,.string s2,.string s3,.string s4] 147)):=hb1.alloc hb1.size _;have z1:w1.heap.size<(w1.alloc (.cells #[.string s0,.string s1,.string s2,.string s3,.string s4] 147)).heap.size:=by simp
 have zb:wb<(w1.alloc (.cells #[.string s0,.string s1,.string s2,.string s3,.string s4] 147)).heap.size:=by simp;omega
 go_wp2_with fail;refine Calls.mono (Vm _) ?_;rintro e w2 ⟨rfl,hb2⟩;have f0:=((aR (aq b1 hb2)).1 wb 0 xV).trans c0;have k1:=fun o=>(aR hb2).1 w1.heap.size o z1
 have hw2:=cv zb hb2.size;have aoz:=cv z1 hb2.size;have b2:=aq b1 hb2;have hcc:=HC.out (w2.alloc (.cells #[.string d0,.string d1,.string d2,.string d3,.string d4] 147)).drew (aB (b2.alloc b2.size _));have Q4:Hid _:=hcc;clear hcc HC kP Vm hb1 hb2 b1 b2 e0;go_wp2
 go_region_with (go_at_call 72;refine Calls.mono Q4.out ?_;rintro e w3 ⟨rfl,hR⟩)
 all_goals
  go_wp2;go_ret;exact⟨rfl,hR⟩
theorem gj.Cj {tg:aP}{w:World}{s p:Nat}{ag:List Ob}{got:List Int}{brk:Bool}{lim:Nat}(h:gj tg w s p ag got brk lim){id:Int}(hk:aH ag id=1):(bytesOf ag id).size<=256:=by
 obtain⟨h1,h2⟩:=Ay (ag:=ag) (id:=id) (by rw[hk];decide);obtain⟨j,rfl⟩:∃j:Nat,id=(j:Int)+1:=⟨(id-1).toNat,by omega⟩;have hj:j<ag.length:=by omega
 obtain⟨_,ft,_,⟨a,cap,bf,bd,Df,Dd,i⟩,_⟩:=h;rw[BV hj];rw[dL hj] at hk;rcases i.zZ ag[j] (jk hj) with ⟨_,_,h3⟩ | ⟨h3,_⟩
 ·exact h3
 ·rw[hk] at h3;cases h3
section
variable {s i p:Nat}{B:WB}{ag:List Ob}
theorem Qp {tg:aP}{w:World}{g:WG}{lim:Nat}(h:bF tg w s i p B ag g lim)(Ds:Ga ag g.fl){f:Nat}{wu:FS}{er:Int}{d:ByteArray}(hb:ir ag g.fl g.fs f=(wu,er,d)):d.size<=256:=by
 unfold ir at hb;cases hf:g.fl f with
 | none=>rw[hf] at hb;simp only[Prod.mk.injEq] at hb;rw[<-hb.2.2];simp[ByteArray.size]
 | some x=>
  obtain⟨id,d0⟩:=x;rw[hf] at hb;simp only at hb;by_cases hid:id=0
  ·rw[aL hid] at hb
   simp only[Prod.mk.injEq] at hb;rw[<-hb.2.2];exact (h.wp.files f id d0 hf).2.2
  ·rw[ay hid] at hb
   split at hb
   ·simp only[Prod.mk.injEq] at hb
    rw[<-hb.2.2];exact h.st.Cj (Ds f id d0 hf hid)
   ·simp only[Prod.mk.injEq] at hb
    rw[<-hb.2.2];simp[ByteArray.size]
def i64 (x:Int):Prop:=-9223372036854775808<=x/\x<=9223372036854775807
end
def opT (g:WG):Nat->Option Nat:=fun k=>(g.op k).map (·.1)
section
variable {s i p:Nat}{B:WB}{ag:List Ob}
theorem aaC {tg:aP}{w:World}{g:WG}{lim:Nat}(h:bF tg w s i p B ag g lim):Tm w B.wb (opT g)/\w.cell? ⟨B.wb,0,none⟩=some (.pointer (some ⟨B.bt,0,none⟩)):=h.wp.opens.tab
end
end Go.Proofs.YtlgidcmmgohagaaGreat
