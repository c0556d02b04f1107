/-
  What is proved here: a law of the walk: append of a list that is nil. the steps that came in, as they lie in memory.
-/
import Derived.Test.YtajopoddmfdejaaGreatRetM44
import Derived.Test.YtajopoddmfdejaaGreatRetM36
import Derived.Test.YtajopoddmfdejaaGreatRows
import Derived.Deep.Slices
import Derived.Deep.Strs
import Derived.ChangeShapes
namespace Go
set_option linter.unusedVariables false
variable {P:Program}{w:World}
end Go
namespace Go.Proofs.YtajopoddmfdejaaGreat
open Go.RowKit Go.Sort Go.Shelf Go.ChangeShapes Go.WideShapes Go.Deep
set_option linter.unusedVariables false
theorem nStep:Tryz.prog.cellsOf 24=4:=by kernel_rfl
theorem nStr1:Tryz.prog.cellsOf 9=1:=by kernel_rfl
theorem nInt1:Tryz.prog.cellsOf 3=1:=by kernel_rfl
theorem i64_of {n:Int}(h:(Lit.int .i64 n).wf=true):i64 n:=by
 simp[Lit.wf] at h
 exact h
theorem add_plain (g o j:Nat):(⟨g,o,none⟩:Addr).add j=⟨g,o+j,none⟩:=by
 unfold Addr.add
 split
 ·next h=>subst h;rfl
 ·rfl
theorem cell_of {w:World}{a:Addr}{i:Nat}{v:Value}(hs:a.spot=none)(h:w.cell? (a.add i)=some v):w.cell? ⟨a.block,a.off+i,none⟩=some v:=by
 obtain⟨b,o,sp⟩:=a
 simp only at hs
 subst hs
 rw[add_plain] at h
 exact h
theorem add_blk (a:Addr)(n:Nat):(a.add n).block=a.block:=by unfold Addr.add;split <;> rfl
section
variable {H:Type}{enc:TypeId×Value->H}{w:World}{base:Nat}{sp:Nat->Bool}{held:Bool}
theorem trod_struct4 {P:Program}{t:TypeId}{f0 f1 f2 f3:Field}{fuel:Nat}{cs:List Value}{x:DataW H×List MemPlace}(ht:P.underlying t=some (.struct #[f0,f1,f2,f3]))(h:DataW.trod enc P w base sp held fuel t cs=some x):
  ∃ y0 y1 y2 y3 n,cs.length=P.cellsOf t/\DataW.trod enc P w base sp held n f0.type ((cs.drop f0.offset).take (P.cellsOf f0.type))=some y0/\DataW.trod enc P w base sp held n f1.type ((cs.drop f1.offset).take (P.cellsOf f1.type))=some y1/\
   DataW.trod enc P w base sp held n f2.type ((cs.drop f2.offset).take (P.cellsOf f2.type))=some y2/\DataW.trod enc P w base sp held n f3.type ((cs.drop f3.offset).take (P.cellsOf f3.type))=some y3:=by
 obtain⟨xs,n,_,rfl,hl,hlen,hf⟩:=DataW.trod_struct ht h
 match xs,hlen with
 | [y0,y1,y2,y3],_=>exact⟨y0,y1,y2,y3,n,hl,by simpa using hf 0 f0 rfl,by simpa using hf 1 f1 rfl,by simpa using hf 2 f2 rfl,by simpa using hf 3 f3 rfl⟩
set_option maxRecDepth 100000 in
theorem open_step {n:Nat}{cs:List Value}{x:DataW H×List MemPlace}(h:DataW.trod enc Tryz.prog w base sp held n 24 cs=some x):∃ kd a b d,cs = [.int .i64 kd,.int .i64 a,.int .i64 b,.string d]/\i64 kd/\i64 a/\i64 b/\d.size<=maxLen:=by
 obtain⟨y0,y1,y2,y3,n',hl,g0,g1,g2,g3⟩:=trod_struct4 Tryz.underlying24 h
 rw[nStep] at hl
 match cs,hl with
 | [v0,v1,v2,v3],_=>
  simp only[nStr1,nInt1,List.drop_zero,List.drop_succ_cons,List.take_succ_cons,List.take_zero] at g0 g1 g2 g3
  obtain⟨i0,e0,_,w0⟩:=DataW.trod_int Tryz.underlying3 g0
  obtain⟨i1,e1,_,w1⟩:=DataW.trod_int Tryz.underlying3 g1
  obtain⟨i2,e2,_,w2⟩:=DataW.trod_int Tryz.underlying3 g2
  obtain⟨s3,e3,_,hs3⟩:=DataW.trod_string Tryz.underlying9 g3
  simp only[List.cons.injEq,and_true] at e0 e1 e2 e3
  subst e0;subst e1;subst e2;subst e3
  exact⟨i0,i1,i2,s3,rfl,i64_of w0,i64_of w1,i64_of w2,hs3⟩
theorem open_steps {n:Nat}{v:Value}{x:DataW H×List MemPlace}(h:DataW.trod enc Tryz.prog w base sp held n 22 [v]=some x):∃ a len c,v=.slice a len c/\len<=maxLen/\StepsAt w a len:=by
 rcases open_slice Tryz.underlying22 h with ⟨hc,_⟩ | ⟨a,len,cap,m,n',D,Pl,hc,hb,hl,hm,hmm,hxx,hall⟩
 ·simp only[List.cons.injEq,and_true] at hc
  exact⟨none,0,0,hc,Nat.zero_le _,⟨fun h=>absurd h (Nat.lt_irrefl _)⟩⟩
 ·simp only[List.cons.injEq,and_true] at hc
  have hlm:len<=m:=by rw[hmm];split <;> omega
  rw[nStep] at hall
  refine⟨some a,len,cap,hc,by omega,⟨fun hp=>?_⟩⟩
  have hsp:a.spot=none:=by
   obtain⟨cs,h1,h2⟩:=hall 0 (by omega)
   obtain⟨kd,x,y,d,rfl,_⟩:=open_step h2
   obtain⟨_,_,hcell⟩:=World.cells?_some h1
   have:=World.cell?_spot (v:=.int .i64 kd) (by rw[hcell 0 (by omega)];rfl)
   simpa [Addr.add] using this
  have hbl:a.block<w.heap.size:=by
   obtain⟨cs,h1,h2⟩:=hall 0 (by omega)
   have:=World.cells?_block h1 (by omega)
   rw[add_blk] at this;exact this
  have ha:a=⟨a.block,a.off,none⟩:=by
   obtain⟨b,o,s⟩:=a
   simp only at hsp
   subst hsp;rfl
  refine⟨a.block,a.off,by rw[<- ha],hbl,fun i hi=>?_⟩
  obtain⟨cs,h1,h2⟩:=hall i (by omega)
  obtain⟨kd,x,y,d,rfl,q0,q1,q2,q3⟩:=open_step h2
  obtain⟨_,_,hcell⟩:=World.cells?_some h1
  have hc':∀ j (hj:j<4),w.cell? ⟨a.block,a.off+i*4+j,none⟩=([Value.int .i64 kd,.int .i64 x,.int .i64 y,.string d])[j]?:=fun j hj=>by
   have:=hcell j hj
   have hj':j < [Value.int .i64 kd,.int .i64 x,.int .i64 y,.string d].length:=by simpa using hj
   rw[add_add,List.getElem?_eq_getElem hj'] at this
   rw[List.getElem?_eq_getElem hj',Nat.add_assoc]
   exact cell_of hsp this
  exact⟨kd,x,y,d,q0,q1,q2,q3,hc' 0 (by omega),hc' 1 (by omega),hc' 2 (by omega),hc' 3 (by omega)⟩
end
end Go.Proofs.YtajopoddmfdejaaGreat
