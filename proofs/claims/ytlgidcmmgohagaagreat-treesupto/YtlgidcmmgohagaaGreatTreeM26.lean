/- What is proved here: xI told at any path where there is a file. -/
import Derived.Test.YtlgidcmmgohagaaGreatTreeM25
import Derived.Test.YtlgidcmmgohagaaGreatTreeM23
import Derived.Maps.AppendAt
import Derived.Test.YtlgidcmmgohagaaGreatRows
import Derived.Deep.Slices
import Derived.Deep.Strs
import Derived.ChangeShapes
namespace Go.Proofs.YtlgidcmmgohagaaGreat
open Go.RowKit Go.Sort Go.Shelf
set_option linter.unusedVariables false
set_option maxRecDepth 100000
set_option maxHeartbeats 16000000
section
variable {s i p:Nat}{B:WB}{ag:List Ob}{tg0:aP}{w0:World}{base:Int}
end
abbrev Gc:=ByteArray×Int×ByteArray
def ndD:Nd->ByteArray
 | .dir=>⟨#[]⟩
 | .file d=>d
def nT (a:List Ob)(fc:e7):Nat->List ByteArray->LT->List Gc
 | 0,_,_=>[]
 | n+1,q,c=>((kids a c).getD []).flatMap fun x=>(bV (q ++ [x.1]),x.2.kind,ndD (nd a fc x.2)) :: (if x.2.kind=2 then nT a fc n (q ++ [x.1]) x.2 else [])
def NZ (a:List Ob)(fc:e7)(n:Nat)(q:List ByteArray)(x:ByteArray×LT):List Gc:=(bV (q ++ [x.1]),x.2.kind,ndD (nd a fc x.2)) :: (if x.2.kind=2 then nT a fc n (q ++ [x.1]) x.2 else [])
theorem Jw {a:List Ob}{fc:e7}{n:Nat}{q:List ByteArray}{c:LT}{ks:Kids}(hk:kids a c=some ks):nT a fc (n+1) q c=ks.flatMap (NZ a fc n q):=by rw[nT,hk];rfl
theorem qP {a:List Ob}{c:LT}(h:c.kind=2):∃ks,kids a c=some ks:=by
 cases c with
 | file i=>cases h
 | held f=>cases h
 | dir i=>exact⟨_,rfl⟩
 | own es=>exact⟨_,rfl⟩
theorem mm {a:List Ob}{c:LT}(h:c.kind≠2):kids a c=none:=by
 cases c with
 | file i=>rfl
 | held f=>rfl
 | dir i=>exact absurd rfl h
 | own es=>exact absurd rfl h
def Cl:Nat->Nat
 | 0=>0
 | n+1=>16*(1+Cl n)
theorem zM {α β:Type}(f:α->List β)(b:Nat):∀(l:List α),(∀x ∈ l,(f x).length<=b)->(l.flatMap f).length<=l.length*b
 | [],_=>by simp
 | x :: r,h=>by
  rw[List.flatMap_cons,List.length_append,List.length_cons,Nat.succ_mul]
  have h1:=h x (List.mem_cons_self ..)
  have h2:=zM f b r (fun y hy=>h y (List.mem_cons_of_mem _ hy))
  omega
theorem xJ {a:List Ob}{fc:e7}(hA:Sound a):∀(n:Nat) (q:List ByteArray) (t:LT),bu a n t->(nT a fc n q t).length<=Cl n
 | 0,q,t,_=>by rw[nT];simp[Cl]
 | n+1,q,t,ht=>by
  by_cases hk:t.kind=2
  ·obtain⟨ks,yT⟩:=qP (a:=a) hk
   obtain⟨rk,jS,hk2⟩:=cr hA ht yT
   rw[Jw yT,Cl]
   refine eU (zM _ (1+Cl n) ks (fun x hx=>?_)) (Nat.mul_le_mul_right _ jS)
   unfold NZ
   rw[List.length_cons]
   obtain⟨m,e,o⟩:=(hk2 x hx).2
   have e':m=n:=by omega
   subst e'
   split
   ·have:=xJ (fc:=fc) hA m (q ++ [x.1]) x.2 o
    omega
   ·simp
  ·rw[nT,mm hk];simp
theorem Xp:(Tryz.prog.info? 9).map (fun i=>(i.zero,i.size,i.bytes))=some (some (.string ByteArray.empty),1,16):=by kernel_rfl
structure tW (w:World)(nb:Nat)(es:List aK)(k:Nat):Prop where
 lt:nb<w.heap.size
 any:∀j,j<es.length->∃x,w.cell? ⟨nb,j,none⟩=some (.string x)
 free:∀o,w.frozen? ⟨nb,o,none⟩=false
 nms:∀j (hj:j<es.length),j<k->w.cell? ⟨nb,j,none⟩=some (.string es[j].1)
 blk:∃cs:Array Value,w.heap[nb]? = some (.cells cs 9 (0,0))/\cs.size=es.length
theorem Jx (n:Nat)(hn:n<=16)(W:World):∃cs:Array Value,(Instr.makeSlice 131 (.int .i64 (n:Int)) (.int .i64 (n:Int))).run Tryz.prog W=.ok (.slice (some ⟨W.heap.size,0,none⟩) n n) (W.alloc (.cells cs 9))/\cs.size=n/\∀j,j<n->∃x,cs[j]? = some (.string x):=by
 obtain⟨i0,hi,hz0,hz1,hz2⟩:=info_parts Xp;refine⟨_,run_make W 131 9 i0 _ Tryz.underlying131 hi hz0 .i64 .i64 n n (by omega) (by omega) (by rw[hz2];omega) (by omega),?_,?_⟩
 ·simp[madeCells,hz1]
 ·intro j hj
  simp[madeCells,hz1,hj,Value.cells,Nat.mod_one]
theorem N0 {w:World}{cs:Array Value}{es:List aK}(hs:cs.size=es.length)(hx:∀j,j<es.length->∃x,cs[j]? = some (.string x)):tW (w.alloc (.cells cs 9)) w.heap.size es 0:=by
 have hh:=heap_alloc_new w (.cells cs 9);refine⟨by simp,fun j hj=>?_,fun o=>by simp only[World.frozen?,hh];simp,fun j _ hj=>(by omega),⟨cs,hh,hs⟩⟩;obtain⟨x,hx⟩:=hx j hj;exact⟨x,by simp only[World.cell?,hh];exact hx⟩
theorem Qz {w:World}{nb k:Nat}{es:List aK}(h:tW w nb es k)(o:Obj):tW (w.alloc o) nb es k:=by
 have hc:∀j,(w.alloc o).cell? ⟨nb,j,none⟩=w.cell? ⟨nb,j,none⟩:=fun j=>by unfold World.cell?;rw[Below.heap_alloc _ _ _ h.lt]
 have hf:∀j,(w.alloc o).frozen? ⟨nb,j,none⟩=w.frozen? ⟨nb,j,none⟩:=fun j=>by unfold World.frozen?;rw[Below.heap_alloc _ _ _ h.lt]
 exact⟨by simp;exact Nat.lt_succ_of_lt h.lt,fun j hj=>by rw[hc];exact h.any j hj,fun o'=>by rw[hf];exact h.free o',fun j hj hk=>(by rw[hc];exact h.nms j hj hk),by obtain⟨cs,h1,h2⟩:=h.blk;exact⟨cs,(Below.heap_alloc _ _ _ h.lt).trans h1,h2⟩⟩
theorem Xq {w:World}{nb k:Nat}{es:List aK}(h:tW w nb es k)(hk:k<es.length):tW (w.setCell ⟨nb,k,none⟩ (.string es[k].1)) nb es (k+1):=by
 obtain⟨x,hx⟩:=h.any k hk;have za:(w.setCell ⟨nb,k,none⟩ (.string es[k].1)).cell? ⟨nb,k,none⟩=some (.string es[k].1):=World.cell?_setCell_same _ _ _ hx;have aee:∀j,j≠k->(w.setCell ⟨nb,k,none⟩ (.string es[k].1)).cell? ⟨nb,j,none⟩=w.cell? ⟨nb,j,none⟩:=fun j hj=>World.cell?_setCell_other _ _ _ _ (fun e=>hj (by injection e with _ e2 _;exact e2.symm));refine⟨by simpa using h.lt,fun j hj=>?_,fun o=>by rw[World.frozen?_setCell];exact h.free o,fun j hj dy=>?_,by obtain⟨cs,h1,h2⟩:=h.blk;exact⟨cs.setIfInBounds k (.string es[k].1),by simp[World.setCell,Array.getElem?_modify,h1],by simpa using h2⟩⟩
 ·by_cases e:j=k
  ·subst e;exact⟨_,za⟩
  ·rw[aee j e];exact h.any j hj
 ·by_cases e:j=k
  ·subst e;exact za
  ·rw[aee j e];exact h.nms j hj (by omega)
theorem Ml (t:Nat)(s0 s1 s2 s3 s4:ByteArray)(es:List aK)(R:World->Prop)(w:World)(hn:es.length<=16)
  (dx:∀W,Below w.heap.size w W->Calls Tryz.prog 131 #[.pointer (some ⟨t,0,none⟩),.agg #[.string s0,.string s1,.string s2,.string s3,.string s4]] W fun e w'=>∃gb cap,e=.returned (.tuple #[.slice (some ⟨gb,0,none⟩) es.length cap,.int .i64 0])/\R w'/\gb<w'.heap.size/\∀j u,(flat es)[j]? = some u->w'.cell? ⟨gb,j,none⟩=some u):
  Calls Tryz.prog 127 #[.pointer (some ⟨t,0,none⟩),.agg #[.string s0,.string s1,.string s2,.string s3,.string s4]] w fun e w'=>∃w3,R w3/\e=.returned (.tuple #[.slice (some ⟨w3.heap.size,0,none⟩) es.length es.length,.int .i64 0])/\Below w3.heap.size w3 w'/\tW w' w3.heap.size es es.length:=by
 have hl:=dx _ ((Below.refl w.heap.size w).alloc (bA _) (.cells #[.string s0,.string s1,.string s2,.string s3,.string s4] 147));have HL:Hid _:=hl;clear dx hl;go_enter Tryz.func127,Tryz.ntmps127;go_wp2_with fail;refine Calls.mono HL.out ?_;rintro e w3 ⟨gb,cap,rfl,hR,hgb,hc⟩;obtain⟨cs,gB,hcs,hx⟩:=Jx es.length hn w3;have hN0:=N0 (w:=w3) hcs hx;have HN0:Hid _:=hN0;have HR:Hid _:=hR;have HC:Hid _:=hc;clear HL hR hc hN0 hx hcs;go_wp2
 go_loopw [25] (fun i wr=>∃k:Nat,k<=es.length/\i=.int .i64 (k:Int)/\Below w3.heap.size w3 wr/\Hid (tW wr w3.heap.size es k)) (fun i _=>es.length-(intOf i).toNat)
 case atStart=>exact⟨0,dG _,rfl,(Below.refl _ _).alloc (bA _) _,HN0.out⟩
 case round=>
  obtain⟨k,hk,rfl,hb,HN⟩:=hrel;by_cases hlt:k<es.length
  ·obtain⟨d0,d1,d2⟩:=vP HC.out hlt
   have e0:=(hb.cell (p:=⟨gb,k*3,none⟩) hgb).trans d0;have e1:=(hb.cell (p:=⟨gb,k*3+1,none⟩) hgb).trans d1;have e2:=(hb.cell (p:=⟨gb,k*3+2,none⟩) hgb).trans d2;have hgb':gb<wr.heap.size:=cv hgb hb.size;have DR:=HN.out.lt;obtain⟨x,hx⟩:=HN.out.any k hlt;have ET:=HN.out.free k;have CN:=fun o=>Qz (Xq HN.out hlt) o;have HNW:Hid _:=CN;clear d0 d1 d2 CN;go_wp2;exact⟨⟨k+1,hlt,by simp,(Below.setCell hb (show w3.heap.size<=(⟨w3.heap.size,k,none⟩:Addr).block from bA _) _).alloc (by simpa using hb.size) _,HNW.out _⟩,by simp only[intOf];omega⟩
  ·have j4:k=es.length:=by omega
   subst j4;go_wp2;go_ret2;exact⟨w3,HR.out,rfl,hb,HN.out⟩
theorem QA (t:Nat)(s0 s1 s2 s3 s4:ByteArray)(er:Int)(her:er≠0)(R:World->Prop)(w:World)
  (dx:∀W,Below w.heap.size w W->Calls Tryz.prog 131 #[.pointer (some ⟨t,0,none⟩),.agg #[.string s0,.string s1,.string s2,.string s3,.string s4]] W fun e w'=>∃v,e=.returned (.tuple #[v,.int .i64 er])/\R w'):
  Calls Tryz.prog 127 #[.pointer (some ⟨t,0,none⟩),.agg #[.string s0,.string s1,.string s2,.string s3,.string s4]] w fun e w'=>R w'/\e=.returned (.tuple #[.slice none 0 0,.int .i64 er]):=by
 have hl:=dx _ ((Below.refl w.heap.size w).alloc (bA _) (.cells #[.string s0,.string s1,.string s2,.string s3,.string s4] 147));have HL:Hid _:=hl;have he:(er == 0)=false:=by simpa using her
 clear dx hl her;go_enter Tryz.func127,Tryz.ntmps127;go_wp2_with fail;refine Calls.mono HL.out ?_;rintro e w3 ⟨v,rfl,hR⟩;have HR:Hid _:=hR;clear HL hR;go_wp2;go_ret2;exact⟨HR.out,rfl⟩
theorem QB (t:Nat)(s0 s1 s2 s3 s4:ByteArray)(R:World->Prop)(w:World)
  (dx:∀W,Below w.heap.size w W->Calls Tryz.prog 131 #[.pointer (some ⟨t,0,none⟩),.agg #[.string s0,.string s1,.string s2,.string s3,.string s4]] W fun e w'=>∃a c,e=.returned (.tuple #[.slice a 0 c,.int .i64 0])/\R w'):
  Calls Tryz.prog 127 #[.pointer (some ⟨t,0,none⟩),.agg #[.string s0,.string s1,.string s2,.string s3,.string s4]] w fun e w'=>∃w3,R w3/\e=.returned (.tuple #[.slice (some ⟨w3.heap.size,0,none⟩) 0 0,.int .i64 0])/\Below w3.heap.size w3 w'/\tW w' w3.heap.size [] 0:=by
 have hl:=dx _ ((Below.refl w.heap.size w).alloc (bA _) (.cells #[.string s0,.string s1,.string s2,.string s3,.string s4] 147));have HL:Hid _:=hl;clear dx hl;go_enter Tryz.func127,Tryz.ntmps127;go_wp2_with fail;refine Calls.mono HL.out ?_;rintro e w3 ⟨a,c,rfl,hR⟩;obtain⟨cs,gB,hcs,hx⟩:=Jx 0 (by decide) w3;have aoI:(Instr.makeSlice 131 (.int .i64 0) (.int .i64 0)).run Tryz.prog w3=.ok (.slice (some ⟨w3.heap.size,0,none⟩) 0 0) (w3.alloc (.cells cs 9)):=gB;have HN0:Hid _:=N0 (w:=w3) (es:=[]) hcs (fun j hj=>absurd hj (Nat.not_lt_zero _));have HR:Hid _:=hR;clear HL hR hx hcs gB;go_wp2
 go_loopw [25] (fun i wr=>i=.int .i64 0/\Below w3.heap.size w3 wr/\Hid (tW wr w3.heap.size [] 0)) (fun _ _=>0)
 case atStart=>exact⟨rfl,(Below.refl _ _).alloc (bA _) _,HN0.out⟩
 case round=>
  obtain⟨rfl,hb,HN⟩:=hrel;go_wp2;go_ret2;exact⟨w3,HR.out,rfl,hb,HN.out⟩
theorem Ut (wb bt:Nat)(l:List ByteArray)(hl:Good l)(R:Value->Int->World->Prop)(w:World)(xV:wb<w.heap.size)(c0:w.cell? ⟨wb,0,none⟩=some (.pointer (some ⟨bt,0,none⟩)))
  (hc:∀W,Below w.heap.size w W->Calls Tryz.prog 127 #[.pointer (some ⟨bt,0,none⟩),.agg (av l)] W fun e w'=>∃v er,e=.returned (.tuple #[v,.int .i64 er])/\R v er w'):
  Calls Tryz.prog 68 #[.pointer (some ⟨wb,0,none⟩),.string (bV l)] w fun e w'=>∃v er,e=.returned (.tuple #[v,.int .i64 er])/\R v er w':=by
 have kP:=fun W=>mb l hl W;obtain⟨s0,s1,s2,s3,s4,hP⟩:∃s0 s1 s2 s3 s4,av l = #[.string s0,.string s1,.string s2,.string s3,.string s4]:=⟨_,_,_,_,_,rfl⟩;unfold bn at kP;simp only[hP] at kP hc;have HC:Hid _:=hc;clear hc hP hl;generalize bV l=tx at kP ⊢;go_enter Tryz.func68,Tryz.ntmps68;go_wp2_with (go_at_call 69;refine Calls.mono (kP _) ?_;rintro e w1 ⟨rfl,hb1⟩;have d0:=((aR hb1).1 wb 0 xV).trans c0;have jb:=cv xV hb1.size);have hcc:=HC.out (w1.alloc (.cells #[.string s0,.string s1,.string s2,.string s3,.string s4] 147)).drew (aB (hb1.alloc hb1.size _));have Q4:Hid _:=hcc;clear hcc HC
 go_region_with (go_at_call 127;refine Calls.mono Q4.out ?_;rintro e w2 ⟨v,er,rfl,hR⟩)
 all_goals
  go_wp2;go_ret2;exact⟨v,er,rfl,hR⟩
section
variable {s i p:Nat}{B:WB}{ag:List Ob}
end
section
variable {s i p:Nat}{B:WB}{ag:List Ob}{tg0:aP}{w0:World}{g0:WG}{t0:LT}
end
end Go.Proofs.YtlgidcmmgohagaaGreat
namespace Go
set_option linter.unusedVariables false
variable {P:Program}{w:World}
end Go
namespace Go.Proofs.YtlgidcmmgohagaaGreat
open Go.RowKit Go.Sort Go.Shelf Go.ChangeShapes Go.WideShapes Go.Deep
set_option linter.unusedVariables false
section
variable {H:Type}{enc:TypeId×Value->H}{w:World}{base:Nat}{sp:Nat->Bool}{held:Bool}
end
end Go.Proofs.YtlgidcmmgohagaaGreat
