/- What is proved here: 'find'. -/
import Derived.Test.YtlgidcmmgohagaaGreatTreeM16
import Derived.Shelf.RegionOpenPlain
import Derived.Deep.RegionLaw
import Derived.Lib.Overlaps
import Derived.Lib.AppendZerosOnto
import Derived.Laws.Externs
namespace Go.Proofs.YtlgidcmmgohagaaGreat
open Go.RowKit Go.Sort Go.Shelf Go.Proofs.Tryz
set_option linter.unusedVariables false
set_option maxRecDepth 100000
set_option maxHeartbeats 16000000
theorem gm (w:World)(b:Option Nat):w.grownBy w b:=⟨rfl,rfl,rfl,bA _,fun _ _ _=>rfl⟩
theorem dD {w w':World}{b o:Nat}{v:Value}(h:w.grownBy w' (some b)):w.grownBy (w'.setCell ⟨b,o,none⟩ v) (some b):=
 ⟨h.os,h.tape,h.output,by simp;exact h.size,fun k hk hne=>(Below.heap_setCell _ _ _ _ (fun e=>hne (by rw[e]))).trans (h.block k hk hne)⟩
theorem zC {w w' w'':World}{b:Nat}(h:Below w.heap.size w w')(k:w'.grownBy w'' (some b)):w.grownBy w'' (some b):=
 ⟨k.os.trans h.os,k.tape.trans h.tape,k.output.trans h.output,eU h.size k.size,fun i hi hne=>(k.block i (cv hi h.size) hne).trans (h.block i hi)⟩
def tI (w W w3:World):Prop:=W.heap.size<=w3.heap.size/\∀b,w.heap.size<=b->b<W.heap.size->w3.heap[b]? = W.heap[b]?
theorem tI.cell {w W w3:World}(h:tI w W w3){b:Nat}(h1:w.heap.size<=b)(h2:b<W.heap.size)(o:Nat):w3.cell? ⟨b,o,none⟩=W.cell? ⟨b,o,none⟩:=World.cell?_of_block (a:=⟨b,o,none⟩) (h.2 b h1 h2)
theorem tI.frozen {w W w3:World}(h:tI w W w3){b:Nat}(h1:w.heap.size<=b)(h2:b<W.heap.size)(o:Nat):w3.frozen? ⟨b,o,none⟩=W.frozen? ⟨b,o,none⟩:=World.frozen?_of_block (a:=⟨b,o,none⟩) (h.2 b h1 h2)
theorem PK (t:Nat)(id:Int)(w:World)(ht:t<w.heap.size)(c4:w.cell? ⟨t,4,none⟩=some (.string ⟨#[]⟩))(c5:w.cell? ⟨t,5,none⟩=some (.int .i64 2))(c6:w.cell? ⟨t,6,none⟩=some (.int .i64 id)):
  Calls prog 136 #[.pointer (some ⟨t,0,none⟩),.agg #[.string ⟨#[]⟩,.string ⟨#[]⟩,.string ⟨#[]⟩,.string ⟨#[]⟩,.string ⟨#[]⟩]] w fun e w'=>e=.returned (.tuple #[.agg #[.string ⟨#[]⟩,.int .i64 2,.int .i64 id],.int .i64 0])/\Below w.heap.size w w':=by
 have bB:=fun W=>eM W;have heq:∀W,(Op.equalIn 10000 147 (bn []) (bn [])).run prog W=.ok true W:=fun W=>by
  have:=fB Good.nil Good.nil W
  rw[decide_eq_true rfl] at this;exact this
 unfold bn av at bB heq;simp only[List.getD_nil] at bB heq;go_enter func136,ntmps136;go_wp2
 go_region_with (go_at_call 75;refine (bB _).mono ?_;rintro e w1 ⟨rfl,hb1⟩;obtain⟨hc1,C6⟩:=aR hb1;obtain⟨hz0,hz1⟩:=qI hb1)
 all_goals
  have ht1:t<w.heap.size+2:=by omega
  go_wp2;exact bodyPost_ret (v:=.tuple #[.agg #[.string ⟨#[]⟩,.int .i64 2,.int .i64 id],.int .i64 0]) (by simp[results,results136,go_sem,hc1]) rfl ⟨rfl,by
   have h1:Below w.heap.size w w1:=aq (aB (((Below.refl _ _).alloc (bA _) _).alloc (by simp) _)) hb1
   repeat (first | exact h1 | (refine Below.setCell ?_ (by simp) _))⟩
theorem Ty (t:Nat)(s0 s1 s2 s3 s4 r0 r1 r2 r3 r4:ByteArray)(R:Value->World->World->Prop)(er:Int)(her:(er == 0)=false)(w:World)
  (heq:∀W,(Op.equalIn 10000 147 (.agg #[.string s0,.string s1,.string s2,.string s3,.string s4]) (.agg #[.string ⟨#[]⟩,.string ⟨#[]⟩,.string ⟨#[]⟩,.string ⟨#[]⟩,.string ⟨#[]⟩])).run prog W=.ok false W)
  (gq:∀W,Calls prog 132 #[.agg #[.string s0,.string s1,.string s2,.string s3,.string s4]] W fun e w'=>e=.returned (.agg #[.string r0,.string r1,.string r2,.string r3,.string r4])/\Below W.heap.size W w')
  (dx:∀W,Below w.heap.size w W->Calls prog 131 #[.pointer (some ⟨t,0,none⟩),.agg #[.string r0,.string r1,.string r2,.string r3,.string r4]] W fun e w'=>∃v,e=.returned (.tuple #[v,.int .i64 er])/\R v W w')
  (hst:∀v W w3,R v W w3->tI w W w3):
  Calls prog 136 #[.pointer (some ⟨t,0,none⟩),.agg #[.string s0,.string s1,.string s2,.string s3,.string s4]] w fun e w'=>e=.returned (.tuple #[.agg #[.string ⟨#[]⟩,.int .i64 0,.int .i64 0],.int .i64 er])/\∃v W w3,Below w.heap.size w W/\w.heap.size+1<W.heap.size/\R v W w3/\w3.grownBy w' (some (w.heap.size+1)):=by
 have bB:=fun W=>eM W;unfold bn av at bB;simp only[List.getD_nil] at bB;go_enter func136,ntmps136;go_wp2
 go_region_with (go_at_call 75;refine (bB _).mono ?_;rintro e w1 ⟨rfl,hb1⟩;obtain⟨hc1,C6⟩:=aR hb1;obtain⟨hz0,hz1⟩:=qI hb1)
 all_goals
  have h1:Below w.heap.size w w1:=aq (aB (((Below.refl _ _).alloc (bA _) _).alloc (by simp) _)) hb1;go_wp2_with (first
   | (go_at_call 132;refine (gq _).mono ?_;rintro e w2 ⟨rfl,hb2⟩;obtain⟨hc2,hf2⟩:=aR hb2;have hz2:w.heap.size+1<w2.heap.size:=cv hz1 hb2.size;have hz3:w.heap.size<w2.heap.size:=cv hz0 hb2.size)
   | (go_at_call 131;refine (dx _ (aq h1 hb2)).mono ?_;rintro e w3 ⟨v,rfl,hR⟩;have hS:=hst _ _ _ hR;have k0:=hS.cell (bA _) hz3;have k1:=hS.cell (b:=w.heap.size+1) (by omega) hz2;have k2:=hS.frozen (b:=w.heap.size+1) (by omega) hz2;have HR:Hid _:=hR;have uD:w.heap.size<w3.heap.size:=cv hz3 hS.1;have I4:w.heap.size+1<w3.heap.size:=cv hz2 hS.1;clear hR hS))
  exact bodyPost_ret (v:=.tuple #[.agg #[.string ⟨#[]⟩,.int .i64 0,.int .i64 0],.int .i64 er]) (by simp[results,results136,go_sem,hc1,hc2,k1,hz1]) rfl ⟨rfl,v,w2,w3,aq h1 hb2,hz2,HR.out,by
   repeat (first | exact gm _ _ | (refine dD ?_))⟩
theorem PL (t:Nat)(s0 s1 s2 s3 s4 r0 r1 r2 r3 r4:ByteArray)(R:Value->World->World->Prop)(x:ByteArray)(ix:Int)(w:World)
  (heq:∀W,(Op.equalIn 10000 147 (.agg #[.string s0,.string s1,.string s2,.string s3,.string s4]) (.agg #[.string ⟨#[]⟩,.string ⟨#[]⟩,.string ⟨#[]⟩,.string ⟨#[]⟩,.string ⟨#[]⟩])).run prog W=.ok false W)
  (gq:∀W,Calls prog 132 #[.agg #[.string s0,.string s1,.string s2,.string s3,.string s4]] W fun e w'=>e=.returned (.agg #[.string r0,.string r1,.string r2,.string r3,.string r4])/\Below W.heap.size W w')
  (dx:∀W,Below w.heap.size w W->Calls prog 131 #[.pointer (some ⟨t,0,none⟩),.agg #[.string r0,.string r1,.string r2,.string r3,.string r4]] W fun e w'=>∃v,e=.returned (.tuple #[v,.int .i64 0])/\R v W w')
  (hname:∀W,Calls prog 134 #[.agg #[.string s0,.string s1,.string s2,.string s3,.string s4]] W fun e w'=>e=.returned (.string x)/\Below W.heap.size W w')
  (nS:∀v W w3,R v W w3->∀W2,Below w3.heap.size w3 W2->Calls prog 133 #[v,.string x] W2 fun e w'=>e=.returned (.tuple #[.int .i64 ix,.bool false])/\Below W2.heap.size W2 w')
  (hst:∀v W w3,R v W w3->tI w W w3):
  Calls prog 136 #[.pointer (some ⟨t,0,none⟩),.agg #[.string s0,.string s1,.string s2,.string s3,.string s4]] w fun e w'=>e=.returned (.tuple #[.agg #[.string ⟨#[]⟩,.int .i64 0,.int .i64 0],.int .i64 4])/\∃v W w3,Below w.heap.size w W/\w.heap.size+1<W.heap.size/\R v W w3/\w3.grownBy w' (some (w.heap.size+1)):=by
 have bB:=fun W=>eM W;unfold bn av at bB;simp only[List.getD_nil] at bB;go_enter func136,ntmps136;go_wp2
 go_region_with (go_at_call 75;refine (bB _).mono ?_;rintro e w1 ⟨rfl,hb1⟩;obtain⟨hc1,C6⟩:=aR hb1;obtain⟨hz0,hz1⟩:=qI hb1)
 all_goals
  have h1:Below w.heap.size w w1:=aq (aB (((Below.refl _ _).alloc (bA _) _).alloc (by simp) _)) hb1;go_wp2_with (first
   | (go_at_call 132;refine (gq _).mono ?_;rintro e w2 ⟨rfl,hb2⟩;obtain⟨hc2,hf2⟩:=aR hb2;have hz2:w.heap.size+1<w2.heap.size:=cv hz1 hb2.size;have hz3:w.heap.size<w2.heap.size:=cv hz0 hb2.size)
   | (go_at_call 131;refine (dx _ (aq h1 hb2)).mono ?_;rintro e w3 ⟨v,rfl,hR⟩;have hS:=hst _ _ _ hR;have k0:=hS.cell (bA _) hz3;have k1:=hS.cell (b:=w.heap.size+1) (by omega) hz2;have k2:=hS.frozen (b:=w.heap.size+1) (by omega) hz2;have HR:Hid _:=hR;have uD:w.heap.size<w3.heap.size:=cv hz3 hS.1;have I4:w.heap.size+1<w3.heap.size:=cv hz2 hS.1;clear hR hS)
   | (go_at_call 134;refine (hname _).mono ?_;rintro e w4 ⟨rfl,hb4⟩;obtain⟨Y0,hf4⟩:=aR hb4;have Tz:w.heap.size+1<w4.heap.size:=cv I4 hb4.size)
   | (go_at_call 133;refine (nS _ _ _ HR.out _ hb4).mono ?_;rintro e w5 ⟨rfl,j3⟩;obtain⟨hc5,hf5⟩:=aR j3))
  exact bodyPost_ret (v:=.tuple #[.agg #[.string ⟨#[]⟩,.int .i64 0,.int .i64 0],.int .i64 4]) (by simp[results,results136,go_sem,hc1,hc2,k1,Y0,hc5,hz1,I4,Tz]) rfl ⟨rfl,v,w2,w3,aq h1 hb2,hz2,HR.out,by
   refine zC (aq hb4 j3) ?_
   repeat (first | exact gm _ _ | (refine dD ?_))⟩
theorem PM (t:Nat)(s0 s1 s2 s3 s4 r0 r1 r2 r3 r4:ByteArray)(R:Value->World->World->Prop)(x:ByteArray)(k:Nat)(y:aK)(w:World)
  (heq:∀W,(Op.equalIn 10000 147 (.agg #[.string s0,.string s1,.string s2,.string s3,.string s4]) (.agg #[.string ⟨#[]⟩,.string ⟨#[]⟩,.string ⟨#[]⟩,.string ⟨#[]⟩,.string ⟨#[]⟩])).run prog W=.ok false W)
  (gq:∀W,Calls prog 132 #[.agg #[.string s0,.string s1,.string s2,.string s3,.string s4]] W fun e w'=>e=.returned (.agg #[.string r0,.string r1,.string r2,.string r3,.string r4])/\Below W.heap.size W w')
  (dx:∀W,Below w.heap.size w W->Calls prog 131 #[.pointer (some ⟨t,0,none⟩),.agg #[.string r0,.string r1,.string r2,.string r3,.string r4]] W fun e w'=>∃gb ln cp,e=.returned (.tuple #[.slice (some ⟨gb,0,none⟩) ln cp,.int .i64 0])/\R (.slice (some ⟨gb,0,none⟩) ln cp) W w')
  (hname:∀W,Calls prog 134 #[.agg #[.string s0,.string s1,.string s2,.string s3,.string s4]] W fun e w'=>e=.returned (.string x)/\Below W.heap.size W w')
  (nS:∀v W w3,R v W w3->∀W2,Below w3.heap.size w3 W2->Calls prog 133 #[v,.string x] W2 fun e w'=>e=.returned (.tuple #[.int .i64 (k:Int),.bool true])/\Below W2.heap.size W2 w')
  (hcell:∀gb ln cp W w3,R (.slice (some ⟨gb,0,none⟩) ln cp) W w3->gb<w3.heap.size/\k<ln/\ln<=16/\w3.cell? ⟨gb,k*3,none⟩=some (.string y.1)/\w3.cell? ⟨gb,k*3+1,none⟩=some (.int .i64 y.2.1)/\w3.cell? ⟨gb,k*3+2,none⟩=some (.int .i64 y.2.2))
  (hst:∀v W w3,R v W w3->tI w W w3):
  Calls prog 136 #[.pointer (some ⟨t,0,none⟩),.agg #[.string s0,.string s1,.string s2,.string s3,.string s4]] w fun e w'=>e=.returned (.tuple #[.agg #[.string y.1,.int .i64 y.2.1,.int .i64 y.2.2],.int .i64 0])/\∃v W w3,Below w.heap.size w W/\w.heap.size+1<W.heap.size/\R v W w3/\w3.grownBy w' (some (w.heap.size+1)):=by
 have bB:=fun W=>eM W;unfold bn av at bB;simp only[List.getD_nil] at bB;go_enter func136,ntmps136;go_wp2
 go_region_with (go_at_call 75;refine (bB _).mono ?_;rintro e w1 ⟨rfl,hb1⟩;obtain⟨hc1,C6⟩:=aR hb1;obtain⟨hz0,hz1⟩:=qI hb1)
 all_goals
  have h1:Below w.heap.size w w1:=aq (aB (((Below.refl _ _).alloc (bA _) _).alloc (by simp) _)) hb1;go_wp2_with (first
   | (go_at_call 132;refine (gq _).mono ?_;rintro e w2 ⟨rfl,hb2⟩;obtain⟨hc2,hf2⟩:=aR hb2;have hz2:w.heap.size+1<w2.heap.size:=cv hz1 hb2.size;have hz3:w.heap.size<w2.heap.size:=cv hz0 hb2.size)
   | (go_at_call 131;refine (dx _ (aq h1 hb2)).mono ?_;rintro e w3 ⟨gb,ln,cp,rfl,hR⟩;have hS:=hst _ _ _ hR;obtain⟨fo,oG,R8,y0,y1,y2⟩:=hcell _ _ _ _ _ hR;have k0:=hS.cell (bA _) hz3;have k1:=hS.cell (b:=w.heap.size+1) (by omega) hz2;have k2:=hS.frozen (b:=w.heap.size+1) (by omega) hz2;have HR:Hid _:=hR;have uD:w.heap.size<w3.heap.size:=cv hz3 hS.1;have I4:w.heap.size+1<w3.heap.size:=cv hz2 hS.1;clear hR hS)
   | (go_at_call 134;refine (hname _).mono ?_;rintro e w4 ⟨rfl,hb4⟩;obtain⟨Y0,hf4⟩:=aR hb4;have Tz:w.heap.size+1<w4.heap.size:=cv I4 hb4.size;have TA:gb<w4.heap.size:=cv fo hb4.size)
   | (go_at_call 133;refine (nS _ _ _ HR.out _ hb4).mono ?_;rintro e w5 ⟨rfl,j3⟩;obtain⟨hc5,hf5⟩:=aR j3))
  exact bodyPost_ret (v:=.tuple #[.agg #[.string y.1,.int .i64 y.2.1,.int .i64 y.2.2],.int .i64 0]) (by simp[results,results136,go_sem,hc1,hc2,k1,Y0,hc5,hz1,I4,Tz]) rfl ⟨rfl,_,w2,w3,aq h1 hb2,hz2,HR.out,by
   refine zC (aq hb4 j3) ?_
   repeat (first | exact gm _ _ | (refine dD ?_))⟩
theorem TB (t:Nat)(s0 s1 s2 s3 s4 a:ByteArray)(k id er:Int)(R:World->World->Prop)(w:World)(her:(er == 0)=false)
  (cV:∀W,Below w.heap.size w W->Calls prog 136 #[.pointer (some ⟨t,0,none⟩),.agg #[.string s0,.string s1,.string s2,.string s3,.string s4]] W fun e w'=>e=.returned (.tuple #[.agg #[.string a,.int .i64 k,.int .i64 id],.int .i64 er])/\R W w'):
  Calls prog 131 #[.pointer (some ⟨t,0,none⟩),.agg #[.string s0,.string s1,.string s2,.string s3,.string s4]] w fun e w'=>e=.returned (.tuple #[.slice none 0 0,.int .i64 er])/\∃W w3,Below w.heap.size w W/\R W w3/\Below w3.heap.size w3 w':=by
 have hf:=cV _ ((Below.refl w.heap.size w).alloc (bA _) (.cells #[.string s0,.string s1,.string s2,.string s3,.string s4] 147));clear cV;go_enter func131,ntmps131;go_wp2_with (go_at_call 136;refine hf.mono ?_;rintro e w3 ⟨rfl,hR⟩;have HR:Hid _:=hR;clear hR);go_ret2;exact⟨rfl,_,w3,(Below.refl w.heap.size w).alloc (bA _) _,HR.out,by repeat (first | exact Below.refl _ _ | (refine Below.alloc ?_ (by simp) _) | (refine Below.setCell ?_ (by simp) _))⟩
theorem look_ok (t:Nat)(s0 s1 s2 s3 s4 a:ByteArray)(k id:Int)(R:World->World->Prop)(S:Value->Int->World->World->Prop)(w:World)
  (cV:∀W,Below w.heap.size w W->Calls prog 136 #[.pointer (some ⟨t,0,none⟩),.agg #[.string s0,.string s1,.string s2,.string s3,.string s4]] W fun e w'=>e=.returned (.tuple #[.agg #[.string a,.int .i64 k,.int .i64 id],.int .i64 0])/\R W w')
  (pO:∀W w3,R W w3->∀W2,Below w3.heap.size w3 W2->Calls prog 187 #[.pointer (some ⟨t,0,none⟩),.agg #[.string s0,.string s1,.string s2,.string s3,.string s4],.agg #[.string a,.int .i64 k,.int .i64 id]] W2 fun e w'=>∃v er,e=.returned (.tuple #[v,.int .i64 er])/\S v er W2 w')
  (hst:∀W w3,R W w3->tI w W w3):
  Calls prog 131 #[.pointer (some ⟨t,0,none⟩),.agg #[.string s0,.string s1,.string s2,.string s3,.string s4]] w fun e w'=>∃v er W w3 W2,Below w.heap.size w W/\R W w3/\Below w3.heap.size w3 W2/\e=.returned (.tuple #[v,.int .i64 er])/\S v er W2 w':=by
 have hf:=cV _ ((Below.refl w.heap.size w).alloc (bA _) (.cells #[.string s0,.string s1,.string s2,.string s3,.string s4] 147));clear cV;go_enter func131,ntmps131;go_wp2_with (first
  | (go_at_call 136;refine hf.mono ?_;rintro e w3 ⟨rfl,hR⟩;have hS:=hst _ _ hR;have k0:=hS.cell (bA _) (by simp);have hz:w.heap.size<w3.heap.size:=cv (by simp) hS.1;have HR:Hid _:=hR;clear hR hS)
  | (go_at_call 187;refine (pO _ _ HR.out _ (by repeat (first | exact Below.refl _ _ | (refine Below.alloc ?_ (by simp) _) | (refine Below.setCell ?_ (by simp) _)))).mono ?_;rintro e w4 ⟨v,er,rfl,hS⟩;have HS:Hid _:=hS;clear hS))
 go_ret2;exact⟨v,er,_,w3,_,(Below.refl w.heap.size w).alloc (bA _) _,HR.out,by repeat (first | exact Below.refl _ _ | (refine Below.alloc ?_ (by simp) _) | (refine Below.setCell ?_ (by simp) _)),rfl,HS.out⟩
def tJ (tg:aP)(w:World)(i:Nat)(v:Value)(es:List aK):Prop:=w.ownsRow 0 96 3 v es.length (flat es)/\∀g,v.ownBlock=some g->tg g=(i,3)\/tg g=(i,5)
theorem NM (w:World):w.ownsRow 0 96 3 (.slice none 0 0) ([]:List aK).length (flat []):=⟨rfl,.inl ⟨rfl,rfl⟩⟩
theorem tJ.nil (tg:aP)(w:World)(i:Nat):tJ tg w i (.slice none 0 0) []:=⟨NM w,fun g hg=>by simp[Value.ownBlock] at hg⟩
theorem tJ.below {tg:aP}{w w':World}{i:Nat}{v:Value}{es:List aK}(h:tJ tg w i v es)(hb:Below w.heap.size w w'):tJ tg w' i v es:=⟨ai h.1 (fun g hg=>hb.block g (ah h.1 hg)),h.2⟩
section
variable {tg:aP}{w:World}{s i p:Nat}{B:WB}{ag:List Ob}{g:WG}{lim:Nat}
theorem cG.look {od:List ByteArray->Option (List aK)}{vD:List ByteArray->Value}(h:cG tg w i B od lim vD){q:List ByteArray}(hq:Good q){W:World}(hb:Below w.heap.size w W):
  (Instr.lookup 162 (.map (some B.oD)) (.agg (av q)) false).run prog W=.ok (((od q).map fun _=>vD q).getD (.slice none 0 0)) W:=by
 obtain⟨n,_,M,hV,hM,_⟩:=h.map
 have:=(hV.keep (w':=W) (hb.block _ hV.lt)).look vN underlying162 (yG W) (BZ hq)
 rw[hM q hq] at this;exact this
theorem bY {P:Nat×Nat->Prop}{tg aC:aP}{w W w':World}(hb:Below w.heap.size w W)(m:az P tg aC W w'):az P tg aC w w':=(az.aM hb).trans m
theorem tJ.ade {tg aC:aP}{w w':World}{i:Nat}{v:Value}{es:List aK}(h:tJ tg w i v es)(hk:∀v es k,(k=3\/k=5)->lu tg w (i,k) v es->lu aC w' (i,k) v es):tJ aC w' i v es:=by
 cases hv:v.ownBlock with
 | none=>
  have:=hk v es 3 (.inl rfl) ⟨h.1,fun g hg=>by rw[hv] at hg;cases hg⟩
  exact⟨this.1,fun g hg=>.inl (this.2 g hg)⟩
 | some b=>
  have hb:∀g,v.ownBlock=some g->g=b:=fun g hg=>by rw[hv] at hg;exact (Option.some.inj hg).symm
  rcases h.2 b hv with e | e
  ·have:=hk v es 3 (.inl rfl) ⟨h.1,fun g hg=>by rw[hb g hg];exact e⟩
   exact⟨this.1,fun g hg=>.inl (this.2 g hg)⟩
  ·have:=hk v es 5 (.inr rfl) ⟨h.1,fun g hg=>by rw[hb g hg];exact e⟩
   exact⟨this.1,fun g hg=>.inr (this.2 g hg)⟩
theorem FU (h:bF tg w s i p B ag g lim)(hl:lim<1099511627776){q:List ByteArray}(hq:Good q){e:aK}(he:lR ag e):
  Calls prog 187 #[.pointer (some ⟨B.bt,0,none⟩),.agg (av q),.agg #[.string e.1,.int .i64 e.2.1,.int .i64 e.2.2]] w fun en w'=>∃v,en=.returned (.tuple #[v,.int .i64 (kI ag g.ft g.fs q e).2.1])/\
   ∃aC,az (dB i) tg aC w w'/\bF aC w' s i p B ag { g with fs:=(kI ag g.ft g.fs q e).1 } (lim+1)/\tJ aC w' i v (kI ag g.ft g.fs q e).2.2/\∀v es,tJ tg w i v es->tJ aC w' i v es:=by
 obtain⟨nm,k,id⟩:=e;have hlt:B.bt<w.heap.size:=(Array.getElem?_eq_some_iff.1 h.wp.tree.ht).1;by_cases hk:k=2
 ·subst hk
  by_cases hid:id=0
  ·subst hid
   have hE:kI ag g.ft g.fs q (nm,2,0)=(g.fs,0,(g.ft.od q).getD []):=rfl;rw[hE];obtain⟨vD,hD⟩:=h.wp.tG;have c8:w.cell? ⟨B.bt,8,none⟩=some (.map (some B.oD)):=by simp[World.cell?,h.wp.tree.ht]
   refine (Tw B.bt B.oD _ _ _ _ _ nm _ w hlt c8 (fun W hb=>hD.look hq hb)).mono ?_;rintro en w' ⟨rfl,hb⟩;refine⟨_,rfl,tg,az.aM hb,(h.below hb).mono (Nat.le_succ _),?_,fun _ _ hs=>hs.below hb⟩;cases ho:g.ft.od q with
   | none=>exact tJ.nil _ _ _
   | some es=>
    have hr:=hD.row q es ho;exact tJ.below ⟨hr.1,fun g' kT=>.inr (hr.2 g' kT)⟩ hb
  ·have X3:=he.2 hid
   have c2:w.cell? ⟨B.bt,2,none⟩=some (.pointer (some ⟨B.sD,0,none⟩)):=by simp[World.cell?,h.wp.tree.ht,ptr]
   have hE:kI ag g.ft g.fs q (nm,2,id)=if (g.fs.gf id).2 then ((g.fs.gf id).1,0,bR ag id) else ((g.fs.gf id).1,14,[]):=by
    unfold kI;rw[ay (show ¬((nm,(2:Int),id):aK).2.1≠2 from fun h=>h rfl),ay hid]
   refine (Tx B.bt B.sD _ _ _ _ _ nm id (fun v er W w'=>er=(if (g.fs.gf id).2 then 0 else 14)/\∃aC,az (dB i) tg aC W w'/\bF aC w' s i p B ag { g with fs:=(g.fs.gf id).1 } (lim+1)/\(if (g.fs.gf id).2 then lu aC w' (i,3) v (bR ag id) else v=.slice none 0 0)/\∀v es,tJ tg W i v es->tJ aC w' i v es) w hlt c2 hid (fun W hb=>(WK (h.below hb) hl X3).mono ?_)).mono ?_
   ·rintro en w' ⟨v,rfl,aC,m,hW,hr,hk⟩
    exact⟨v,_,rfl,rfl,aC,m,hW,hr,fun v es hs=>tJ.ade hs hk⟩
   ·rintro en w' ⟨v,er,W,hb,rfl,rfl,aC,m,hW,hr,hk⟩
    rw[hE];by_cases hG:(g.fs.gf id).2=true
    ·rw[aL hG] at hr ⊢
     rw[aL hG];exact⟨v,rfl,aC,bY hb m,hW,⟨hr.1,fun g' kT=>.inl (hr.2 g' kT)⟩,fun v es hs=>hk v es (hs.below hb)⟩
    ·rw[ay hG] at hr ⊢
     rw[ay hG];subst hr;exact⟨_,rfl,aC,bY hb m,hW,tJ.nil _ _ _,fun v es hs=>hk v es (hs.below hb)⟩
 ·have hE:kI ag g.ft g.fs q (nm,k,id)=(g.fs,5,[]):=by unfold kI;rw[aL hk]
  rw[hE];refine (Tv B.bt _ _ _ _ _ nm k id w hk).mono ?_;rintro en w' ⟨rfl,hb⟩;exact⟨_,rfl,tg,az.aM hb,(h.below hb).mono (Nat.le_succ _),tJ.nil _ _ _,fun _ _ hs=>hs.below hb⟩
theorem tK (h:bF tg w s i p B ag g lim)(hl:lim<1099511627776){q:List ByteArray}(hq:Good q){e:aK}(he:lR ag e):
  Calls prog 187 #[.pointer (some ⟨B.bt,0,none⟩),.agg (av q),.agg #[.string e.1,.int .i64 e.2.1,.int .i64 e.2.2]] w fun en w'=>∃v,en=.returned (.tuple #[v,.int .i64 (kI ag g.ft g.fs q e).2.1])/\
   ∃aC,az (dB i) tg aC w w'/\bF aC w' s i p B ag { g with fs:=(kI ag g.ft g.fs q e).1 } (lim+1)/\tJ aC w' i v (kI ag g.ft g.fs q e).2.2:=
 (FU h hl hq he).mono fun _ _ ⟨v,h1,aC,h2,h3,h4,_⟩=>⟨v,h1,aC,h2,h3,h4⟩
theorem vQ (hS:Sound ag){ft:FT}(cz:ZY ag ft)(hr:∀p es,ft.od p=some es->aU es/\es.length<=16)(fs:FS):∀r,((findF ag ft fs r).2.1=0->lR ag (findF ag ft fs r).2.2)/\(∀e ∈ (bO ag ft fs r).2.2,lR ag e)/\aU (bO ag ft fs r).2.2/\(bO ag ft fs r).2.2.length<=16:=by
 have key:∀r,((findF ag ft fs r).2.1=0->lR ag (findF ag ft fs r).2.2)->(∀e ∈ (bO ag ft fs r).2.2,lR ag e)/\aU (bO ag ft fs r).2.2/\(bO ag ft fs r).2.2.length<=16:=by
  intro r hf;unfold bO;by_cases h0:(findF ag ft fs r).2.1≠0
  ·simp only[aL h0];exact⟨by simp,List.Pairwise.nil,by simp⟩
  ·simp only[ay h0]
   have he:=hf (Decidable.not_not.1 h0);unfold kI;by_cases hk:(findF ag ft fs r).2.2.2.1≠2
   ·rw[aL hk];exact⟨by simp,List.Pairwise.nil,by simp⟩
   ·rw[ay hk]
    by_cases hid:(findF ag ft fs r).2.2.2.2=0
    ·rw[aL hid]
     cases ho:ft.od r.reverse with
     | none=>exact⟨by simp,List.Pairwise.nil,by simp⟩
     | some es=>exact⟨cz.od _ es ho,(hr _ es ho).1,(hr _ es ho).2⟩
    ·rw[ay hid]
     by_cases hG:((findF ag ft fs r).1.gf (findF ag ft fs r).2.2.2.2).2=true
     ·rw[aL hG]
      obtain⟨s1,s2,s3⟩:=hS.2 _ ((he.2 hid).trans (Decidable.not_not.1 hk));exact⟨fun e he=>⟨(s3 e he).2.1,fun _=>(s3 e he).2.2.1⟩,s1,s2⟩
     ·rw[ay hG];exact⟨by simp,List.Pairwise.nil,by simp⟩
 have find:∀r,(findF ag ft fs r).2.1=0->lR ag (findF ag ft fs r).2.2:=by
  intro r
  induction r with
  | nil=>exact fun _=>⟨.inr rfl,cz.root⟩
  | cons n r ih=>
   intro h0;rw[j5] at h0 ⊢;by_cases hl:(bO ag ft fs r).2.1≠0
   ·rw[aL hl] at h0;exact absurd h0 hl
   ·rw[ay hl] at h0 ⊢
    cases hg:oJ (bO ag ft fs r).2.2 n with
    | none=>rw[hg] at h0;simp at h0
    | some c=>
     simp only;have mS:(n,c) ∈ (bO ag ft fs r).2.2:=by
      unfold oJ at hg;cases hf:(bO ag ft fs r).2.2.find? (fun x=>decide (x.1=n)) with
      | none=>rw[hf] at hg;simp at hg
      | some x=>
       rw[hf] at hg;have h1:=List.find?_some hf;have h2:=List.mem_of_find?_eq_some hf;simp only[decide_eq_true_eq] at h1;simp only[Option.map_some,Option.some.injEq] at hg;rw[<-h1,<-hg];exact h2
     exact (key r ih).1 _ mS
 exact fun r=>⟨find r,key r (find r)⟩
end
theorem PN {tg:aP}{w w':World}{b:Nat}(hg:w.grownBy w' (some b))(ht:tg b=(0,0)):az (fun t=>t=(0,0)) tg tg w w':=
 ⟨hg.os,hg.tape,hg.output,hg.size,fun _ _=>rfl,fun k hk hn=>hg.block k hk (fun e=>hn (by cases e;exact ht)),fun hf k hk=>hf k (eU hg.size hk)⟩
section
variable {s i p:Nat}{B:WB}{ag:List Ob}
theorem bF.own {tg:aP}{w w':World}{g:WG}{lim b:Nat}(h:bF tg w s i p B ag g lim)(hg:w.grownBy w' (some b))(ht:tg b=(0,0)):bF tg w' s i p B ag g lim:=by
 have hi:=h.two;have m:=PN hg ht;exact⟨h.two,h.st.moves m (fun e=>by cases e) (fun e=>by cases e),h.wp.moves m (fun k e=>by cases e;omega)⟩
theorem Lz {tg aC:aP}{w W w3:World}(hi:2<=i)(hf:jC tg w)(m:az (Mine i) tg aC W w3):tI w W w3:=
 ⟨m.size,fun b h1 h2=>m.block b h2 (by rw[hf b h1];rintro (h | h) <;> simp at h;omega)⟩
theorem xw {tg aC:aP}{w W w3:World}(hi:2<=i)(hf:jC tg w)(m:az (dB i) tg aC W w3):tI w W w3:=Lz hi hf (m.mono (fun _ h=>h.mine))
def jX (s i p:Nat)(B:WB)(ag:List Ob)(tg:aP)(w w':World)(g':WG)(lim:Nat):Prop:=∃aC,az (dB i) tg aC w w'/\bF aC w' s i p B ag g' lim
theorem xx {tg:aP}{w W w3 w':World}{g g':WG}{lim eN:Nat}(h:bF tg w s i p B ag g lim)(hb:Below w.heap.size w W)(hz:w.heap.size+1<W.heap.size)(hd:jX s i p B ag tg W w3 g' eN)(hg:w3.grownBy w' (some (w.heap.size+1))):jX s i p B ag tg w w' g' eN:=by
 obtain⟨aC,m,hW⟩:=hd;have ht:aC (w.heap.size+1)=(0,0):=(m.tags _ hz).trans (h.st.fresh _ (by omega));have m1:=bY hb m;refine⟨aC,⟨hg.os.trans m1.os,hg.tape.trans m1.tape,hg.output.trans m1.output,eU m1.size hg.size,m1.tags,fun k hk hn=>(hg.block k (cv hk m1.size) (fun e=>by cases e;omega)).trans (m1.block k hk hn),fun hf=>(hW.own hg ht).st.fresh⟩,hW.own hg ht⟩
def NN (s i p:Nat)(B:WB)(ag:List Ob)(r:List ByteArray):Prop:=∀(tg:aP) (w:World) (g:WG) (lim:Nat),bF tg w s i p B ag g lim->lim+10<1099511627776->Good r.reverse->
 Calls prog 136 #[.pointer (some ⟨B.bt,0,none⟩),.agg (av r.reverse)] w fun en w'=>en=.returned (.tuple #[.agg #[.string (findF ag g.ft g.fs r).2.2.1,.int .i64 (findF ag g.ft g.fs r).2.2.2.1,.int .i64 (findF ag g.ft g.fs r).2.2.2.2],.int .i64 (findF ag g.ft g.fs r).2.1])/\
  jX s i p B ag tg w w' { g with fs:=(findF ag g.ft g.fs r).1 } (lim+r.length)
def TC (s i p:Nat)(B:WB)(ag:List Ob)(r:List ByteArray):Prop:=∀(tg:aP) (w:World) (g:WG) (lim:Nat),bF tg w s i p B ag g lim->lim+10<1099511627776->Good r.reverse->
 Calls prog 131 #[.pointer (some ⟨B.bt,0,none⟩),.agg (av r.reverse)] w fun en w'=>∃v,en=.returned (.tuple #[v,.int .i64 (bO ag g.ft g.fs r).2.1])/\
  ∃aC,az (dB i) tg aC w w'/\bF aC w' s i p B ag { g with fs:=(bO ag g.ft g.fs r).1 } (lim+r.length+1)/\tJ aC w' i v (bO ag g.ft g.fs r).2.2
theorem bF.rising {tg:aP}{w:World}{g:WG}{lim:Nat}(h:bF tg w s i p B ag g lim):∀q es,g.ft.od q=some es->aU es/\es.length<=16:=by
 obtain⟨vD,hD⟩:=h.wp.tG;exact fun q es he=>⟨(hD.good q es he).2.1,(hD.good q es he).2.2.1⟩
theorem NQ (r:List ByteArray)(hF:NN s i p B ag r):TC s i p B ag r:=by
 intro tg w g lim h hl hr;have hlen:r.length<=5:=by have:=hr.len;simpa using this
 obtain⟨f1,_⟩:=vQ h.st.sound h.wp.ok h.rising g.fs r;by_cases h0:(findF ag g.ft g.fs r).2.1=0
 ·have hE:bO ag g.ft g.fs r=kI ag g.ft (findF ag g.ft g.fs r).1 r.reverse (findF ag g.ft g.fs r).2.2:=by
   unfold bO;simp only[ay (show ¬(findF ag g.ft g.fs r).2.1≠0 from fun h=>h h0)]
  have hen:=f1 h0;refine (look_ok B.bt _ _ _ _ _ (findF ag g.ft g.fs r).2.2.1 (findF ag g.ft g.fs r).2.2.2.1 (findF ag g.ft g.fs r).2.2.2.2 (fun W w3=>Below w.heap.size w W/\jX s i p B ag tg W w3 { g with fs:=(findF ag g.ft g.fs r).1 } (lim+r.length))
   (fun v er W2 w'=>er=(bO ag g.ft g.fs r).2.1/\∃aC,az (dB i) tg aC w w'/\bF aC w' s i p B ag { g with fs:=(bO ag g.ft g.fs r).1 } (lim+r.length+1)/\tJ aC w' i v (bO ag g.ft g.fs r).2.2) w (fun W hb=>?_) (fun W w3 hR W2 hb=>?_) (fun W w3 hR=>?_)).mono ?_
  ·refine (hF tg W g lim (h.below hb) hl hr).mono ?_
   rintro en w' ⟨he,hd⟩;rw[h0] at he;exact⟨he,hb,hd⟩
  ·obtain⟨TD,uA,m1,hW1⟩:=hR
   refine (tK (hW1.below hb) (by omega) hr hen).mono ?_;rintro en w' ⟨v,rfl,WN,m2,hW2,hs2⟩;rw[hE];exact⟨v,_,rfl,rfl,WN,(bY TD m1).trans (bY hb m2),hW2,hs2⟩
  ·obtain⟨TD,uA,m1,hW1⟩:=hR
   exact xw h.two h.st.fresh m1
  ·rintro en w' ⟨v,er,W,w3,W2,_,_,_,rfl,rfl,kE⟩
   exact⟨v,rfl,kE⟩
 ·have hE:bO ag g.ft g.fs r=((findF ag g.ft g.fs r).1,(findF ag g.ft g.fs r).2.1,[]):=by
   unfold bO;simp only[aL h0]
  rw[hE];refine (TB B.bt _ _ _ _ _ _ _ _ (findF ag g.ft g.fs r).2.1 (fun W w3=>jX s i p B ag tg W w3 { g with fs:=(findF ag g.ft g.fs r).1 } (lim+r.length)) w (by simpa using h0) (fun W hb=>hF tg W g lim (h.below hb) hl hr)).mono ?_;rintro en w' ⟨rfl,W,w3,hb,⟨uA,m1,hW1⟩,hb3⟩;exact⟨_,rfl,uA,(bY hb m1).trans (az.aM hb3),(hW1.below hb3).mono (Nat.le_succ _),tJ.nil _ _ _⟩
theorem TE:NN s i p B ag []:=by
 intro tg w g lim h hl hr;have hlt:B.bt<w.heap.size:=(Array.getElem?_eq_some_iff.1 h.wp.tree.ht).1;refine (PK B.bt g.ft.root w hlt (by simp[World.cell?,h.wp.tree.ht]) (by simp[World.cell?,h.wp.tree.ht]) (by simp[World.cell?,h.wp.tree.ht])).mono ?_;rintro en w' ⟨rfl,hb⟩;exact⟨rfl,tg,az.aM hb,h.below hb⟩
theorem PO (n:ByteArray)(r:List ByteArray)(hL:TC s i p B ag r):NN s i p B ag (n :: r):=by
 intro tg w g lim h hl hr;have Za:(n :: r).reverse=r.reverse ++ [n]:=List.reverse_cons;rw[Za] at hr ⊢;have hne:r.reverse ++ [n] ≠ []:=by simp
 have CW:Good r.reverse:=by have:=hr.dropLast;rwa [List.dropLast_concat] at this
 have hlen:r.length<=4:=by have:=hr.len;simp at this;omega
 have heq:∀W,(Op.equalIn 10000 147 (bn (r.reverse ++ [n])) (bn [])).run prog W=.ok false W:=fun W=>by
  have:=fB hr Good.nil W
  rw[dY hne] at this;exact this
 have gq:=fun W=>iT (r.reverse ++ [n]) hr W;have hname:=fun W=>mX (r.reverse ++ [n]) hr hne W;rw[List.dropLast_concat] at gq;simp only[List.getLast_concat] at hname;obtain⟨_,l1,l2,l3⟩:=vQ h.st.sound h.wp.ok h.rising g.fs r;have hst:∀(v:Value) (W w3:World),(Below w.heap.size w W/\∃aC,az (dB i) tg aC W w3/\bF aC w3 s i p B ag { g with fs:=(bO ag g.ft g.fs r).1 } (lim+r.length+1)/\tJ aC w3 i v (bO ag g.ft g.fs r).2.2)->tI w W w3:=fun v W w3 ⟨hb,aC,m,_,_⟩=>xw h.two h.st.fresh m;have dx:∀W,Below w.heap.size w W->Calls prog 131 #[.pointer (some ⟨B.bt,0,none⟩),.agg (av r.reverse)] W fun en w'=>∃v,en=.returned (.tuple #[v,.int .i64 (bO ag g.ft g.fs r).2.1])/\
   (Below w.heap.size w W/\∃aC,az (dB i) tg aC W w'/\bF aC w' s i p B ag { g with fs:=(bO ag g.ft g.fs r).1 } (lim+r.length+1)/\tJ aC w' i v (bO ag g.ft g.fs r).2.2):=fun W hb=>(hL tg W g lim (h.below hb) hl CW).mono (fun en w' ⟨v,he,kE⟩=>⟨v,he,hb,kE⟩)
 have fin:∀{w':World} (v:Value) (W w3:World),Below w.heap.size w W->w.heap.size+1<W.heap.size->(∃aC,az (dB i) tg aC W w3/\bF aC w3 s i p B ag { g with fs:=(bO ag g.ft g.fs r).1 } (lim+r.length+1)/\tJ aC w3 i v (bO ag g.ft g.fs r).2.2)->w3.grownBy w' (some (w.heap.size+1))->jX s i p B ag tg w w' { g with fs:=(bO ag g.ft g.fs r).1 } (lim+(n :: r).length):=fun v W w3 hb hz ⟨aC,m,hW,_⟩ hg=>xx h hb hz ⟨aC,m,hW⟩ hg;have nS:∀(v:Value) (W w3:World),(Below w.heap.size w W/\∃aC,az (dB i) tg aC W w3/\bF aC w3 s i p B ag { g with fs:=(bO ag g.ft g.fs r).1 } (lim+r.length+1)/\tJ aC w3 i v (bO ag g.ft g.fs r).2.2)->∀W2,Below w3.heap.size w3 W2->Calls prog 133 #[v,.string n] W2 fun e w'=>e=.returned (.tuple #[.int .i64 (dz (bO ag g.ft g.fs r).2.2 n:Nat),.bool (aW (bO ag g.ft g.fs r).2.2 n)])/\Below W2.heap.size W2 w':=fun v W w3 ⟨_,aC,_,_,hs⟩ W2 hb=>jE (hs.below hb).1 n l2 l3;by_cases h0:(bO ag g.ft g.fs r).2.1=0
 ·have LA:=dx
  rw[h0] at LA;have hG:=oK (n:=n) l2;cases ht:aW (bO ag g.ft g.fs r).2.2 n with
  | false=>
   rw[ht] at hG;have hE:findF ag g.ft g.fs (n :: r)=((bO ag g.ft g.fs r).1,4,zE):=by
    rw[j5,ay (fun h=>h h0),hG];rfl
   rw[hE];simp only[ht] at nS;refine (PL B.bt _ _ _ _ _ _ _ _ _ _ _ n _ w heq gq LA hname nS hst).mono ?_;rintro en w' ⟨rfl,v,W,w3,hb,hz,⟨_,hR⟩,hg⟩;exact⟨rfl,fin v W w3 hb hz hR hg⟩
  | true=>
   have sB:=qx ht;rw[ht,aL rfl,kO sB,Option.map_some] at hG;have sA:((bO ag g.ft g.fs r).2.2[dz (bO ag g.ft g.fs r).2.2 n]).1=n:=by
    unfold aW at ht;rw[kO sB] at ht;simpa using ht
   have hE:findF ag g.ft g.fs (n :: r)=((bO ag g.ft g.fs r).1,0,(bO ag g.ft g.fs r).2.2[dz (bO ag g.ft g.fs r).2.2 n]):=by
    rw[j5,ay (fun h=>h h0),hG];exact congrArg (fun y:aK=>((bO ag g.ft g.fs r).1,(0:Int),y)) (Prod.ext sA.symm rfl)
   rw[hE];simp only[ht] at nS;refine (PM B.bt _ _ _ _ _ _ _ _ _ _ _ n _ ((bO ag g.ft g.fs r).2.2[dz (bO ag g.ft g.fs r).2.2 n]) w heq gq (fun W hb=>(LA W hb).mono ?_) hname nS ?_ hst).mono ?_
   ·rintro en w' ⟨v,rfl,hb',aC,m,hW,hs⟩
    obtain⟨gb,cp,rfl⟩:=ak hs.1 (by omega);exact⟨gb,_,cp,rfl,hb',aC,m,hW,hs⟩
   ·rintro gb ln cp W w3 ⟨_,aC,m,hW,hs⟩
    have K4:ln=(bO ag g.ft g.fs r).2.2.length:=by
     rcases hs.1.2 with ⟨e,_⟩ | ⟨g',c',_,e,_⟩
     ·cases e
     ·cases e;rfl
    subst K4;obtain⟨c0,c1,c2⟩:=vP (b:=gb) (fun j u hu=>by have:=aQ hs.1 j u hu;rwa [Nat.zero_add] at this) sB;exact⟨ah hs.1 rfl,sB,l3,c0,c1,c2⟩
   ·rintro en w' ⟨rfl,v,W,w3,hb,hz,⟨_,hR⟩,hg⟩
    exact⟨rfl,fin v W w3 hb hz hR hg⟩
 ·have hE:findF ag g.ft g.fs (n :: r)=((bO ag g.ft g.fs r).1,(bO ag g.ft g.fs r).2.1,zE):=by
   rw[j5,aL h0]
  rw[hE];refine (Ty B.bt _ _ _ _ _ _ _ _ _ _ _ (bO ag g.ft g.fs r).2.1 (by simpa using h0) w heq gq dx hst).mono ?_;rintro en w' ⟨rfl,v,W,w3,hb,hz,⟨_,hR⟩,hg⟩;exact⟨rfl,fin v W w3 hb hz hR hg⟩
theorem tM:∀r:List ByteArray,NN s i p B ag r
 | []=>TE
 | n :: r=>PO n r (NQ r (tM r))
theorem tN (r:List ByteArray):TC s i p B ag r:=NQ r (tM r)
end
theorem Ad {P:Program}{ops:Array Oper}{o:Oper}{a:Act}{w:World}{K:Act->World->Prop}{Q:Exit->Act->World->Prop}{E:Prop}
  (hg:o.guard=none)(s x:Operand)(t:TypeId)(hop:o.op=Op.call { callee:=Callee.builtin Builtin.append,args:=#[s,x],argTypes:=#[t,t] })
  (e:TypeId)(i:TypeInfo)(size:Nat)(h1:P.underlying t=some (.slice e))(h2:P.info? e=some i)(h4:i.size=size)
  (g n cap:Nat)(cur:Array Value)(hs:a.eval s=.slice (some ⟨g,0,none⟩) n cap)(zX:w.heap[g]? = some (.cells cur e (0,0)))
  (ad:Addr)(m c:Nat)(news:List Value)(hx:a.eval x=.slice (some ad) m c)(hn:news.length=m*size)(hc:∀j u,news[j]? = some u->w.cell? (ad.add j)=some u)(h1c:∀u ∈ news,u.oneCell'=true)
  (hroom:n+m<=cap)(uO:n*size+news.length<=cur.size)
  (hK:K (a.put o.dst (.slice (some ⟨g,0,none⟩) (n+m) cap)) (w.setRow g (cur.toList.take (n*size)++news++cur.toList.drop (n*size+news.length)).toArray)):
  if Region.wanted o (yielded ops a.tmps)=true then Oper.wp P o a w K Q else E:=by
 have hw:Region.wanted o (yielded ops a.tmps)=true:=by simp[Region.wanted,hg]
 rw[aL hw];subst h4;have hrun:=run_append_room (P:=P) w t o.type e i h1 h2 g n cap cur zX ad m c news hn hc h1c hroom uO;unfold Oper.wp;simp[execOp,hop,resolve,invoke,builtin,hs,hx,hrun,Result.andThen];rw[List.append_assoc] at hK;exact hK
theorem LB (w:World)(ty:TypeId)(g n c:Nat)(cur:Array Value)(hg:w.heap[g]? = some (.cells cur 96 (0,0)))(uO:n*3+3<=cur.size):
  (Builtin.clear_ #[55] ty #[.slice (some ⟨g,n*3,none⟩) 1 c]).run prog w=.ok (.tuple #[]) (w.setRow g (cur.toList.take (n*3)++bL (⟨#[]⟩,0,0)++cur.toList.drop (n*3+3)).toArray):=by
 have hv:(zeroValue 96).run prog w=.ok (.agg #[.string ⟨#[]⟩,.int .i64 0,.int .i64 0]) w:=by kernel_rfl
 have hzc:(Builtin.zeroCells (Value.agg #[.string ⟨#[]⟩,.int .i64 0,.int .i64 0]).cells 1).toList=bL (⟨#[]⟩,0,0):=by kernel_rfl
 have hst:=run_storeCells_at prog g (n*3) 96 (bL (⟨#[]⟩,0,0)) 0 cur w hg (by simpa [bL] using uO) (bJ _);simp only[Nat.add_zero] at hst;simp[Builtin.clear_,run_underlying underlying55,hv,hzc,hst];rfl
theorem jF (a b:List aK):flat (a++b)=flat a++flat b:=by simp[flat]
theorem vR (es:List aK)(k:Nat)(h:k<=es.length):flat (es.take k)=(flat es).take (k*3):=by
 have e:flat es=flat (es.take k)++flat (es.drop k):=by rw[<-jF,List.take_append_drop]
 rw[e,List.take_left' (by rw[bl,List.length_take];omega)]
theorem vS (es:List aK)(k:Nat)(h:k<=es.length):flat (es.drop k)=(flat es).drop (k*3):=by
 have e:flat es=flat (es.take k)++flat (es.drop k):=by rw[<-jF,List.take_append_drop]
 rw[e,List.drop_left' (by rw[bl,List.length_take];omega)]
theorem TF (g n c k:Nat)(es:List aK)(cur:Array Value)(w:World)(hg:w.heap[g]? = some (.cells cur 96 (0,0)))(hn:es.length=n)(hk:k<n)(Th:n<=c)(hcm:c<=maxLen)(hcs:cur.size=c*3)(ht:cur.toList.take (n*3)=flat es):
  Calls prog 194 #[.slice (some ⟨g,0,none⟩) n c,.int .i64 (k:Int),.int .i64 ((k:Int)+1)] w fun e w'=>e=.returned (.slice (some ⟨g,0,none⟩) (n-1) c)/\
   ∃cur',w'.heap[g]? = some (.cells cur' 96 (0,0))/\cur'.size=c*3/\cur'.toList.take ((n-1)*3)=flat (es.eraseIdx k)/\w.grownBy w' (some g)/\w'.heap.size=w.heap.size:=by
 obtain⟨i0,hi,hz0,hz1,hz2⟩:=info_parts x7;unfold maxLen at hcm;have fM:k<=c:=by omega
 have hk2:k+1<=c:=by omega
 obtain⟨news,hnews⟩:∃news,news=flat (es.drop (k+1)):=⟨_,rfl⟩;have hlen:news.length=(n-(k+1))*3:=by rw[hnews,bl,List.length_drop,hn]
 have hcell:∀j u,(flat es)[j]? = some u->w.cell? ⟨g,j,none⟩=some u:=fun j u hu=>by
  rw[<-ht,List.getElem?_take] at hu;split at hu
  ·simp[World.cell?,hg];simpa using hu
  ·cases hu
 obtain⟨A,hA,mI⟩:∃A:Addr,(if c=k+1 then some (⟨g,0,none⟩:Addr) else some ⟨g,(k+1)*3,none⟩)=some A/\Hid (∀t u,news[t]? = some u->w.drew.cell? (A.add t)=some u):=by
  by_cases h:c=k+1
  ·refine⟨⟨g,0,none⟩,by simp[h],fun t u hu=>?_⟩
   have h0:news.length=0:=by rw[hlen];omega
   rw[List.length_eq_zero_iff.1 h0] at hu;simp at hu
  ·refine⟨⟨g,(k+1)*3,none⟩,by simp[h],fun t u hu=>?_⟩
   rw[Addr.add_lit];show w.cell? _=_;refine hcell _ _ ?_;rw[hnews,vS es (k+1) (by omega),List.getElem?_drop] at hu;exact hu
 have s2:Hid (∀u ∈ news,u.oneCell'=true):=by
  intro u hu;rw[hnews] at hu;exact iY _ u hu
 have uO:k*3+news.length<=cur.size:=by rw[hlen,hcs];omega
 obtain⟨fV,qN⟩:∃fV:Array Value,fV=(cur.toList.take (k*3)++news++cur.toList.drop (k*3+news.length)).toArray:=⟨_,rfl⟩;have Fu:fV.size=c*3:=by
  rw[qN];simp only[List.size_toArray,List.length_append,List.length_take,List.length_drop,Array.length_toList];omega
 obtain⟨W1,hW1⟩:∃W1,W1=w.drew.setRow g fV:=⟨_,rfl⟩;have hg1:W1.heap[g]? = some (.cells fV 96 (0,0)):=by rw[hW1];exact setRow_heap w.drew g _ _ 96 _ hg
 have mH:∀ty,(Builtin.clear_ #[55] ty #[.slice (some ⟨g,(n-1)*3,none⟩) 1 (c-(n-1))]).run prog W1=.ok (.tuple #[]) (W1.setRow g (fV.toList.take ((n-1)*3)++bL (⟨#[]⟩,0,0)++fV.toList.drop ((n-1)*3+3)).toArray):=
  fun ty=>LB W1 ty g (n-1) _ fV hg1 (by rw[Fu];omega)
 have hW:Hid (W1=w.drew.setRow g fV):=hW1;have FA:Hid (fV=(cur.toList.take (k*3)++news++cur.toList.drop (k*3+news.length)).toArray):=qN;have HN:Hid (news=flat (es.drop (k+1))):=hnews;have HL:Hid (news.length=(n-(k+1))*3):=hlen;have HG:Hid (w.heap[g]? = some (.cells cur 96 (0,0))):=hg;have HG1:Hid (W1.heap[g]? = some (.cells fV 96 (0,0))):=hg1;have HF:Hid (k*3+news.length<=cur.size):=uO;have HT:Hid (cur.toList.take (n*3)=flat es):=ht;have Vv:Hid (fV.size=c*3):=Fu;have Ve:Hid (cur.size=c*3):=hcs;have HES:Hid (es.length=n):=hn;have c3:(0:Int)<=↑k+1:=by omega
 have c4:(↑k+1:Int)<=↑n:=by omega
 clear hW1 qN hnews hlen hg hg1 uO ht Fu hcs hcell hn;go_enter func194,ntmps194;go_wp2_with fail
 go_region_law (refine Ad rfl (.tmp 22) (.tmp 25) 55 rfl 96 i0 3 underlying55 hi hz1 g k c cur (by simp[Act.eval,Act.put]) HG.out A (n-(k+1)) (c-(k+1)) news (by simp[Act.eval,Act.put]) HL.out mI.out s2.out (by omega) HF.out ?_;rw[<-FA.out,<-hW.out])
 all_goals
  have e1:k+(n-(k+1))=n-1:=by omega
  have d1:((n-1:Nat):Int)<=(n:Int):=by omega
  have d2:n-(n-1)=1:=by omega
  have d3:¬c=n-1:=by omega
  have d4:(0:Int)<=((n-1:Nat):Int):=by omega
  have d5:(n:Int)<=(c:Int):=by omega
  simp only[e1];clear e1;go_wp2;go_ret;have hs1:=Vv.out;have hcs:=Ve.out;have hes:=HES.out;have wm:(fV.toList.take ((n-1)*3)).length=(n-1)*3:=by rw[List.length_take,Array.length_toList,hs1];omega
  refine⟨rfl,_,setRow_heap W1 g _ _ 96 _ HG1.out,?_,?_,?_,?_⟩
  ·simp only[List.size_toArray,List.length_append,wm,List.length_drop,Array.length_toList,hs1,eZ];omega
  ·rw[List.take_left' wm,FA.out]
   have hk3:cur.toList.take (k*3)=flat (es.take k):=by
    rw[vR es k (by omega),<-HT.out,List.take_take,Nat.min_eq_left (by omega)]
   have hl2:(cur.toList.take (k*3)++news).length=(n-1)*3:=by
    rw[List.length_append,HL.out,List.length_take,Array.length_toList,hcs];omega
   show List.take ((n-1)*3) (cur.toList.take (k*3)++news++cur.toList.drop (k*3+news.length))=_;rw[List.take_left' hl2,hk3,HN.out,<-jF,List.eraseIdx_eq_take_drop_succ]
  ·refine⟨by rw[hW.out];rfl,by rw[hW.out];rfl,by rw[hW.out];rfl,by rw[hW.out];simp,fun x hx hne=>?_⟩
   have Ra:x≠g:=fun e=>hne (by rw[e]);rw[setRow_other W1 g x _ Ra,hW.out,setRow_other w.drew g x _ Ra];rfl
  ·rw[hW.out];simp
theorem FV:(prog.info? 96).map (·.size)=some 3:=by kernel_rfl
def tO (w w':World)(own:Option Nat)(n:Nat)(es:List aK)(e:Ending):Prop:=
 ∃g c,e=.returned (.slice (some ⟨g,0,none⟩) (n+1) c)/\w'.ownsRow 0 96 3 (.slice (some ⟨g,0,none⟩) (n+1) c) (n+1) (flat es)/\w.grownBy w' own/\((some g:Option Nat)=own\/w.heap.size<=g)
theorem PR (g n c k vb:Nat)(es:List aK)(x:aK)(cur:Array Value)(w:World)(hg:w.heap[g]? = some (.cells cur 96 (0,0)))(hn:es.length=n)(hk:k<n)(Th:n+1<=c)(hcm:c<=maxLen)(hcs:cur.size=c*3)(ht:cur.toList.take (n*3)=flat es)
  (hv:w.heap[vb]? = some (.cells #[.string x.1,.int .i64 x.2.1,.int .i64 x.2.2] 96 (0,0)))(Vz:vb≠g):
  Calls prog 193 #[.slice (some ⟨g,0,none⟩) n c,.int .i64 (k:Int),.slice (some ⟨vb,0,none⟩) 1 1] w fun e w'=>tO w w' (some g) n (es.take k++x :: es.drop k) e:=by
 unfold maxLen at hcm;have hcell:∀j u,(flat es)[j]? = some u->w.cell? ⟨g,j,none⟩=some u:=fun j u hu=>by
  rw[<-ht,List.getElem?_take] at hu;split at hu
  ·simp[World.cell?,hg];simpa using hu
  ·cases hu
 obtain⟨n1,Kb⟩:∃n1,n1=flat (es.drop k):=⟨_,rfl⟩;have wm:n1.length=(n-k)*3:=by rw[Kb,bl,List.length_drop,hn]
 have hov:∀lb cb,(callFunc 219 #[.slice (some ⟨vb,0,none⟩) 1 1,.slice (some ⟨g,(k+1)*3,none⟩) lb cb]).run prog w=.ok (.value (.bool false)) w:=fun lb cb=>by
  rw[run_callFunc_extern func219 (by kernel_rfl) (by kernel_rfl) (by kernel_rfl) (e:=Extern.SlicesOverlaps.overlaps #[55,55] #[4]) (by kernel_rfl),
   Lib.run_overlaps_apart w 55 4 96 underlying55 3 (fun w=>sizeOf34 w) ⟨vb,0,none⟩ ⟨g,(k+1)*3,none⟩ 1 1 lb cb Vz 96 96 3 cur.size (by simp[World.shape?,hv]) (by simp[World.shape?,hg]) (by rw[hcs];omega) (by simp[World.frozen?,hv]) (by simp[World.frozen?,hv])]
  rfl
 obtain⟨fV,qN⟩:∃fV:Array Value,fV=(cur.toList.take ((k+1)*3)++n1++cur.toList.drop ((k+1)*3+n1.length)).toArray:=⟨_,rfl⟩;have Fu:fV.size=c*3:=by
  rw[qN];simp only[List.size_toArray,List.length_append,List.length_take,List.length_drop,Array.length_toList];omega
 obtain⟨W1,hW1⟩:∃W1,W1=w.drew.setRow g fV:=⟨_,rfl⟩;have hg1:W1.heap[g]? = some (.cells fV 96 (0,0)):=by rw[hW1];exact setRow_heap w.drew g _ _ 96 _ hg
 have Om:Nat.min (n+1-k) (n-k)=n-k:=by simp only[Nat.min_def];split <;> omega
 have ahK:∀ty dc sc,(Builtin.copy_ #[55,55] ty #[.slice (some ⟨g,(k+1)*3,none⟩) (n-k) dc,.slice (some ⟨g,k*3,none⟩) (n+1-k) sc]).run prog w.drew=.ok (goInt ((n-k:Nat):Int)) W1:=fun ty dc sc=>by
  have:=nZ (P:=prog) w.drew 55 55 ty 96 3 g ((k+1)*3) (n-k) dc ⟨g,k*3,none⟩ (n+1-k) sc cur 96 n1 underlying55 FV hg (by rw[Om];exact wm)
   (fun j v hj=>by rw[Addr.add_lit];show w.cell? _=_;refine hcell _ _ ?_;rw[Kb,vS es k (by omega),List.getElem?_drop] at hj;exact hj) (by rw[wm,hcs];omega) (by rw[Kb];exact iY _)
  rw[Om] at this;rw[this,hW1,qN]
 have xQ:W1.heap[vb]? = some (.cells #[.string x.1,.int .i64 x.2.1,.int .i64 x.2.2] 96 (0,0)):=by rw[hW1,setRow_other w.drew g vb _ Vz];exact hv
 obtain⟨yH,tP⟩:∃yH:Array Value,yH=(fV.toList.take (k*3)++bL x++fV.toList.drop (k*3+(bL x).length)).toArray:=⟨_,rfl⟩;have ahL:∀ty dc,(Builtin.copy_ #[55,55] ty #[.slice (some ⟨g,k*3,none⟩) (n+1-k) dc,.slice (some ⟨vb,0,none⟩) 1 1]).run prog W1=.ok (goInt ((1:Nat):Int)) (W1.setRow g yH):=fun ty dc=>by
  have hm:Nat.min 1 (n+1-k)=1:=by simp only[Nat.min_def];split <;> omega
  have:=nZ (P:=prog) W1 55 55 ty 96 3 g (k*3) (n+1-k) dc ⟨vb,0,none⟩ 1 1 fV 96 (bL x) underlying55 FV hg1 (by rw[hm];rfl)
   (fun j v hj=>by rw[Addr.add_lit];match j,hj with
    | 0,hj=>simpa [World.cell?,xQ,bL] using hj
    | 1,hj=>simpa [World.cell?,xQ,bL] using hj
    | 2,hj=>simpa [World.cell?,xQ,bL] using hj
    | j+3,hj=>simp[bL] at hj) (by rw[eZ,Fu];omega) (bJ x)
  rw[hm] at this;rw[this,tP]
 have hb0:¬((k:Int)=(n:Int)):=by omega
 have jb:IntKind.i64.wrap ((k:Int)+1)=(k:Int)+1:=by rw[IntKind.wrap_i64];omega
 have hb1:(0:Int)<=(k:Int)+1:=by omega
 have hb2:(k:Int)+1<=(n:Int)+1:=by omega
 have hb3:(k:Int)<=(n:Int)+1:=by omega
 have hb4:¬c=k+1:=by omega
 have j3:¬c=k:=by omega
 have rP:((k:Int)+1).toNat=k+1:=by omega
 have HW:Hid (W1=w.drew.setRow g fV):=hW1;have FA:Hid (fV=(cur.toList.take ((k+1)*3)++n1++cur.toList.drop ((k+1)*3+n1.length)).toArray):=qN;have HC2:Hid (yH=(fV.toList.take (k*3)++bL x++fV.toList.drop (k*3+(bL x).length)).toArray):=tP;have HN:Hid (n1=flat (es.drop k)):=Kb;have HL:Hid (n1.length=(n-k)*3):=wm;have HG:Hid (W1.heap[g]? = some (.cells fV 96 (0,0))):=hg1;have HT:Hid (cur.toList.take (n*3)=flat es):=ht;have Vv:Hid (fV.size=c*3):=Fu;have Ve:Hid (cur.size=c*3):=hcs;have HES:Hid (es.length=n):=hn;clear hW1 qN tP Kb wm hg1 ht Fu hcs hcell hn xQ Om hv hg;go_enter func193,ntmps193;go_wp2_with (simp only[hov])
 go_region_law (refine C9 rfl _ _ 55 55 rfl _ _ (by simp[Act.eval,Act.put]) (by simp[Act.eval,Act.put]) (ahK _ _ _) ?_)
 all_goals
  go_wp2_with (at_builtin;refine I5 _ rfl _ _ 55 55 rfl _ _ rfl rfl (ahL _ _) ?_);go_ret;have hs1:=Vv.out;have hcs:=Ve.out;have hes:=HES.out;have hlk:(fV.toList.take (k*3)).length=k*3:=by rw[List.length_take,Array.length_toList,hs1];omega
  refine⟨g,c,rfl,⟨by rw[bl];simp;omega,.inr ⟨g,c,yH,rfl,dG _,setRow_heap W1 g _ _ 96 _ HG.out,Th,by unfold maxLen;omega,?_,?_⟩⟩,?_,.inl rfl⟩
  ·rw[HC2.out]
   simp only[List.size_toArray,List.length_append,hlk,List.length_drop,Array.length_toList,hs1,eZ];omega
  ·rw[HC2.out]
   show List.take ((n+1)*3) (fV.toList.take (k*3)++bL x++fV.toList.drop (k*3+(bL x).length))=_;have h1:fV.toList.take (k*3)=flat (es.take k):=by
    rw[FA.out];show List.take (k*3) (cur.toList.take ((k+1)*3)++n1++cur.toList.drop ((k+1)*3+n1.length))=_;rw[List.append_assoc,List.take_append_of_le_length (by rw[List.length_take,Array.length_toList,hcs];omega),List.take_take,Nat.min_eq_left (by omega),vR es k (by omega),<-HT.out,List.take_take,Nat.min_eq_left (by omega)]
   have h2:(fV.toList.drop (k*3+(bL x).length)).take ((n-k)*3)=flat (es.drop k):=by
    rw[FA.out];show List.take ((n-k)*3) (List.drop (k*3+(bL x).length) (cur.toList.take ((k+1)*3)++n1++cur.toList.drop ((k+1)*3+n1.length)))=_;have hl:(cur.toList.take ((k+1)*3)).length=(k+1)*3:=by rw[List.length_take,Array.length_toList,hcs];omega
    rw[show k*3+(bL x).length=(k+1)*3 by rw[eZ];omega,List.append_assoc,List.drop_left' hl,List.take_left' HL.out,HN.out]
   rw[h1,jF,show flat (x :: es.drop k)=bL x++flat (es.drop k) from rfl,<-List.append_assoc,List.take_append,List.take_of_length_le (by rw[List.length_append,bl,eZ,List.length_take];omega)]
   congr 1
   rw[show (n+1)*3-(flat (es.take k)++bL x).length=(n-k)*3 by rw[List.length_append,bl,eZ,List.length_take];omega];exact h2
  ·refine⟨by rw[HW.out];rfl,by rw[HW.out];rfl,by rw[HW.out];rfl,by rw[HW.out];simp,fun y hy hne=>?_⟩
   have hyg:y≠g:=fun e=>hne (by rw[e]);rw[setRow_other W1 g y _ hyg,HW.out,setRow_other w.drew g y _ hyg];rfl
theorem NR (v:Value)(n vb:Nat)(es:List aK)(x:aK)(w:World)(la:Option Addr)(c:Nat)(hve:v=.slice la n c)(hrow:w.ownsRow 0 96 3 v n (flat es))(hn:es.length=n)(jS:n<=16)
  (hv:w.heap[vb]? = some (.cells #[.string x.1,.int .i64 x.2.1,.int .i64 x.2.2] 96 (0,0)))(Th:n<=c)(hcm:c<=maxLen):
  Calls prog 193 #[.slice la n c,.int .i64 (n:Int),.slice (some ⟨vb,0,none⟩) 1 1] w fun e w'=>tO w w' (Value.slice la n c).ownBlock n (es ++ [x]) e:=by
 subst hve;obtain⟨i0,hi,hz0,hz1,hz2⟩:=info_parts x7;unfold maxLen at hcm;have HR:Hid (w.ownsRow 0 96 3 (.slice la n c) n (flat es)):=hrow;have TG:∀j u,(bL x)[j]? = some u->w.cell? ((⟨vb,0,none⟩:Addr).add j)=some u:=fun j u hj=>by
  rw[Addr.add_lit]
  match j,hj with
  | 0,hj=>simpa [World.cell?,hv,bL] using hj
  | 1,hj=>simpa [World.cell?,hv,bL] using hj
  | 2,hj=>simpa [World.cell?,hv,bL] using hj
  | j+3,hj=>simp[bL] at hj
 have HC:Hid (∀j u,(bL x)[j]? = some u->w.cell? ((⟨vb,0,none⟩:Addr).add j)=some u):=TG;clear hrow TG hv;by_cases WO:c=n
 ·subst WO
  go_enter func193,ntmps193;go_wp2_with (first | (at_builtin;refine wpList_append_own_at _ rfl (.tmp 23) (.tmp 24) 55 rfl 0 96 i0 _ 3 32 underlying55 hi hz0 hz1 hz2 rfl (by decide) (.slice la c c) c (flat es) rfl HR.out ⟨vb,0,none⟩ 1 1 (bL x) rfl rfl HC.out (bJ x) (by unfold maxLen;omega) (by omega) (dG _) ?_;intro v' w1 hown' hgrow _ hloc;obtain⟨g,cap',rfl⟩:=ak hown' (by omega)) | go_in);go_ret;refine⟨g,cap',rfl,?_,hgrow,?_⟩
  ·rw[jF];exact hown'
  ·rcases hloc with h | h
   ·exact .inl h
   ·right
    have:g=w.heap.size:=by simpa [Value.ownBlock] using h
    omega
 ·go_enter func193,ntmps193
  go_wp2_with (first | (at_builtin;refine wpList_append_own_at _ rfl (.tmp 23) (.tmp 24) 55 rfl 0 96 i0 _ 3 32 underlying55 hi hz0 hz1 hz2 rfl (by decide) (.slice la n c) n (flat es) rfl HR.out ⟨vb,0,none⟩ 1 1 (bL x) rfl rfl HC.out (bJ x) (by unfold maxLen;omega) (by omega) (dG _) ?_;intro v' w1 hown' hgrow _ hloc;obtain⟨g,cap',rfl⟩:=ak hown' (by omega)) | go_in);go_ret;refine⟨g,cap',rfl,?_,hgrow,?_⟩
  ·rw[jF];exact hown'
  ·rcases hloc with h | h
   ·exact .inl h
   ·right
    have:g=w.heap.size:=by simpa [Value.ownBlock] using h
    omega
theorem wp_append_run (w:World){ops:Array Oper}{rest:List Oper}{o:Oper}{a:Act}{Q:Exit->Act->World->Prop}(hgd:o.guard=none)(d s:Operand)(t t':TypeId)
  (ho:o.op=.call { callee:=.builtin .append,args:=#[d,s],argTypes:=#[t,t'] })(v u:Value)(hd:a.eval d=v)(hs:a.eval s=u){v':Value}{w':World}
  (hr:(Builtin.append_ #[t,t'] o.type #[v,u]).run prog w=.ok v' w')(h:wpList prog ops Q rest (a.put o.dst v') w'):wpList prog ops Q (o :: rest) a w:=by
 refine wpList_plain hgd fun K hK=>?_;unfold Oper.wp execOp;simp only[ho,resolve,invoke,builtin,Sem.run_bind,Sem.run_pure,Result.andThen_ok,List.map_toArray,List.map_cons,List.map_nil,hd,hs,hr];exact hK _ _ h
theorem tQ (m:Nat):(Builtin.zeroCells (Value.agg #[.string ByteArray.empty,.int .i64 0,.int .i64 0]).cells m).size=m*3:=by
 rw[size_zeroCells];rfl
theorem TH (g n k vb:Nat)(es:List aK)(x:aK)(cur:Array Value)(w:World)(hg:w.heap[g]? = some (.cells cur 96 (0,0)))(hn:es.length=n)(hk:k<n)(jS:n<=16)(hcs:cur.size=n*3)(ht:cur.toList.take (n*3)=flat es)
  (hv:w.heap[vb]? = some (.cells #[.string x.1,.int .i64 x.2.1,.int .i64 x.2.2] 96 (0,0))):
  Calls prog 193 #[.slice (some ⟨g,0,none⟩) n n,.int .i64 (k:Int),.slice (some ⟨vb,0,none⟩) 1 1] w fun e w'=>tO w w' (some g) n (es.take k++x :: es.drop k) e:=by
 obtain⟨i0,hi,hz0,hz1,hz2⟩:=info_parts x7;have fo:g<w.heap.size:=(Array.getElem?_eq_some_iff.1 hg).1;have hvl:vb<w.heap.size:=(Array.getElem?_eq_some_iff.1 hv).1;have hcell:∀j u,(flat es)[j]? = some u->w.cell? ⟨g,j,none⟩=some u:=fun j u hu=>by
  rw[<-ht,List.getElem?_take] at hu;split at hu
  ·simp[World.cell?,hg];simpa using hu
  ·cases hu
 have hold:(Builtin.firstCells i0.size k (.slice (some ⟨g,0,none⟩) k n)).run prog w.drew=.ok (flat (es.take k)).toArray w.drew:=by
  rw[hz1];exact run_firstCells_some w.drew 3 k ⟨g,0,none⟩ k n (flat (es.take k)) (by rw[bl,List.length_take];omega) (fun j v hj=>by
   rw[Addr.add_lit,Nat.zero_add];rw[vR es k (by omega),List.getElem?_take] at hj;split at hj
   ·exact hcell j v hj
   ·cases hj)
 obtain⟨G,hG⟩:∃G,G=grownCap w (n+1) n 96:=⟨_,rfl⟩;have hGn:n+1<=G:=by rw[hG];exact grownCap_ge w _ _ _
 have Z0:G<=maxLen:=by rw[hG];exact grownCap_le_maxLen w (n+1) n 96 (by unfold maxLen;omega)
 obtain⟨ROW,WQ⟩:∃ROW:Array Value,ROW=(flat (es.take k)).toArray++Builtin.zeroCells (Value.agg #[.string ByteArray.empty,.int .i64 0,.int .i64 0]).cells (n+1-k)++Builtin.zeroCells (Value.agg #[.string ByteArray.empty,.int .i64 0,.int .i64 0]).cells (G-(n+1)):=⟨_,rfl⟩;have hRs:ROW.size=G*3:=by
  rw[WQ,Array.size_append,Array.size_append,tQ,tQ,List.size_toArray,bl,List.length_take];omega
 have hRt:ROW.toList.take (k*3)=flat (es.take k):=by
  rw[WQ,Array.append_assoc,Array.toList_append];show List.take (k*3) (flat (es.take k)++_)=_;rw[List.take_left' (by rw[bl,List.length_take];omega)]
 obtain⟨W1,hW1⟩:∃W1,W1=w.drew.alloc (.cells ROW 96):=⟨_,rfl⟩;have hrz:∀ty,(Builtin.append_ #[55,3] ty #[.slice (some ⟨g,0,none⟩) k n,.int .i64 ((n:Int)+1-(k:Int))]).run prog w=.ok (.slice (some ⟨w.heap.size,0,none⟩) (n+1) G) W1:=fun ty=>by
  have hik:k+(n+1-k)=n+1:=by omega
  have h:=Lib.run_append_grow_zeros w 55 3 ty 96 i0 _ .i64 .i64 underlying55 underlying3 hi hz0 (some ⟨g,0,none⟩) k n (flat (es.take k)) hold (n+1-k) (by omega) (by omega) (by omega) (by omega) (by rw[hz2];omega) (by rw[hz2,hik];exact growslice_fits (by omega) (by omega));rw[hik] at h;rw[show (n:Int)+1-(k:Int)=((n+1-k:Nat):Int) by omega,h,hW1,WQ,hG]
 have hg0:W1.heap[w.heap.size]? = some (.cells ROW 96 (0,0)):=by rw[hW1];exact Array.getElem?_push_size
 have TI:∀b,b<w.heap.size->W1.heap[b]? = w.heap[b]?:=fun b hb=>by rw[hW1];exact Below.heap_alloc _ _ _ hb
 obtain⟨fV,qN⟩:∃fV:Array Value,fV=(ROW.toList.take (k*3)++bL x++ROW.toList.drop (k*3+(bL x).length)).toArray:=⟨_,rfl⟩;have hs1:fV.size=G*3:=by
  rw[qN];simp only[List.size_toArray,List.length_append,List.length_take,List.length_drop,Array.length_toList,hRs,eZ];omega
 obtain⟨W2,hW2⟩:∃W2,W2=W1.setRow w.heap.size fV:=⟨_,rfl⟩;have ahN:∀ty dc,(Builtin.copy_ #[55,55] ty #[.slice (some ⟨w.heap.size,k*3,none⟩) (n+1-k) dc,.slice (some ⟨vb,0,none⟩) 1 1]).run prog W1=.ok (goInt ((1:Nat):Int)) W2:=fun ty dc=>by
  have hm:Nat.min 1 (n+1-k)=1:=by simp only[Nat.min_def];split <;> omega
  have xQ:=(TI vb hvl).trans hv
  have:=nZ (P:=prog) W1 55 55 ty 96 3 w.heap.size (k*3) (n+1-k) dc ⟨vb,0,none⟩ 1 1 ROW 96 (bL x) underlying55 FV hg0 (by rw[hm];rfl)
   (fun j v hj=>by rw[Addr.add_lit];match j,hj with
    | 0,hj=>simpa [World.cell?,xQ,bL] using hj
    | 1,hj=>simpa [World.cell?,xQ,bL] using hj
    | 2,hj=>simpa [World.cell?,xQ,bL] using hj
    | j+3,hj=>simp[bL] at hj) (by rw[eZ,hRs];omega) (bJ x)
  rw[hm] at this;rw[this,hW2,qN]
 have hg2:W2.heap[w.heap.size]? = some (.cells fV 96 (0,0)):=by rw[hW2];exact setRow_heap W1 _ _ _ 96 _ hg0
 obtain⟨n1,Kb⟩:∃n1,n1=flat (es.drop k):=⟨_,rfl⟩;have wm:n1.length=(n-k)*3:=by rw[Kb,bl,List.length_drop,hn]
 obtain⟨yH,tP⟩:∃yH:Array Value,yH=(fV.toList.take ((k+1)*3)++n1++fV.toList.drop ((k+1)*3+n1.length)).toArray:=⟨_,rfl⟩;have ahO:∀ty dc sc,(Builtin.copy_ #[55,55] ty #[.slice (some ⟨w.heap.size,(k+1)*3,none⟩) (n-k) dc,.slice (some ⟨g,k*3,none⟩) (n-k) sc]).run prog W2.drew=.ok (goInt ((n-k:Nat):Int)) (W2.drew.setRow w.heap.size yH):=fun ty dc sc=>by
  have hm:Nat.min (n-k) (n-k)=n-k:=Nat.min_self _;have Q3:W2.heap[g]? = w.heap[g]?:=by rw[hW2,setRow_other W1 _ g _ (by omega),TI g fo]
  have:=nZ (P:=prog) W2.drew 55 55 ty 96 3 w.heap.size ((k+1)*3) (n-k) dc ⟨g,k*3,none⟩ (n-k) sc fV 96 n1 underlying55 FV hg2 (by rw[hm];exact wm)
   (fun j v hj=>by
    rw[Addr.add_lit];show W2.cell? _=_;rw[World.cell?_of_block (a:=⟨g,k*3+j,none⟩) Q3];refine hcell _ _ ?_;rw[Kb,vS es k (by omega),List.getElem?_drop] at hj;exact hj) (by rw[wm,hs1];omega) (by rw[Kb];exact iY _)
  rw[hm] at this;rw[this,tP]
 have adh:yH.size=G*3/\yH.toList.take ((n+1)*3)=flat (es.take k++x :: es.drop k):=by
  have hl:(fV.toList.take ((k+1)*3)).length=(k+1)*3:=by rw[List.length_take,Array.length_toList,hs1];omega
  have h1:fV.toList.take ((k+1)*3)=flat (es.take k)++bL x:=by
   rw[qN];show List.take ((k+1)*3) (ROW.toList.take (k*3)++bL x++ROW.toList.drop (k*3+(bL x).length))=_;rw[hRt,List.take_left' (by rw[List.length_append,bl,eZ,List.length_take];omega)]
  rw[tP];refine⟨by simp only[List.size_toArray,List.length_append,hl,List.length_drop,Array.length_toList,hs1,wm];omega,?_⟩;show List.take ((n+1)*3) (fV.toList.take ((k+1)*3)++n1++fV.toList.drop ((k+1)*3+n1.length))=_;rw[List.take_left' (by rw[List.length_append,hl,wm];omega),h1,Kb,jF,List.append_assoc];rfl
 have hb0:¬((k:Int)=(n:Int)):=by omega
 have jb:IntKind.i64.wrap ((k:Int)+1)=(k:Int)+1:=by rw[IntKind.wrap_i64];omega
 have hb1:(0:Int)<=(k:Int)+1:=by omega
 have hb2:(k:Int)+1<=(n:Int)+1:=by omega
 have hb3:(k:Int)<=(n:Int)+1:=by omega
 have hb4:¬G=k+1:=by omega
 have j3:¬G=k:=by omega
 have rP:((k:Int)+1).toNat=k+1:=by omega
 have Yj:¬n=k:=by omega
 have lV:k<=n:=by omega
 have hG2:G<=9223372036854775807:=by unfold maxLen at Z0;omega
 have O6:Hid (W1=w.drew.alloc (.cells ROW 96)):=hW1;have HW2:Hid (W2=W1.setRow w.heap.size fV):=hW2;have HG2:Hid (W2.heap[w.heap.size]? = some (.cells fV 96 (0,0))):=hg2;have HF:Hid _:=adh;have HGM:Hid (G<=maxLen):=Z0;have HES:Hid (es.length=n):=hn;clear hW1 hW2 qN tP Kb wm hg0 hg2 adh WQ hRs hRt hold TI hG hcell ht hcs hs1 hv hg Z0 hi hz0 hz1 hz2 hn;go_enter func193,ntmps193;go_wp2_with (first
  | (at_builtin;refine wp_append_run _ rfl _ _ _ _ rfl _ _ rfl rfl (hrz _) ?_)
  | (at_builtin;refine I5 _ rfl _ _ 55 55 rfl _ _ rfl rfl (ahN _ _) ?_))
 go_region_law (refine C9 rfl _ _ 55 55 rfl _ _ (by simp[Act.eval,Act.put]) (by simp[Act.eval,Act.put]) (ahO _ _ _) ?_)
 all_goals
  go_wp2;go_ret;have hes:=HES.out;have hsz:∀(W:World) (r:Array Value),(W.setRow w.heap.size r).heap.size=W.heap.size:=fun W r=>by simp
  refine⟨w.heap.size,G,rfl,⟨by rw[bl];simp;omega,.inr ⟨w.heap.size,G,yH,rfl,dG _,setRow_heap W2.drew _ _ _ 96 _ HG2.out,hGn,HGM.out,HF.out.1,HF.out.2⟩⟩,?_,.inr (bA _)⟩;refine⟨by rw[HW2.out,O6.out];rfl,by rw[HW2.out,O6.out];rfl,by rw[HW2.out,O6.out];rfl,by rw[show (W2.drew.setRow w.heap.size yH).heap.size=W2.heap.size from hsz _ _,HW2.out,hsz,O6.out];show w.heap.size<=(w.alloc _).heap.size;rw[World.size_alloc];omega,fun y hy hne=>?_⟩;have hyg:y≠w.heap.size:=by omega
  rw[setRow_other W2.drew _ y _ hyg];show W2.heap[y]? = _;rw[HW2.out,setRow_other W1 _ y _ hyg,O6.out];exact Below.heap_alloc w.drew _ _ hy
theorem WR {w:World}{v:Value}{es:List aK}(hrow:w.ownsRow 0 96 3 v es.length (flat es))(jS:es.length<=16){k:Nat}(hk:k<=es.length){vb:Nat}{x:aK}
  (hv:w.heap[vb]? = some (.cells #[.string x.1,.int .i64 x.2.1,.int .i64 x.2.2] 96 (0,0)))(Vz:∀g,v.ownBlock=some g->vb≠g):
  Calls prog 193 #[v,.int .i64 (k:Int),.slice (some ⟨vb,0,none⟩) 1 1] w fun e w'=>tO w w' v.ownBlock es.length (es.take k++x :: es.drop k) e:=by
 by_cases j4:k=es.length
 ·subst j4
  rw[List.take_length,List.drop_length];rcases hrow.2 with ⟨rfl,h0⟩ | ⟨g,c,cur,rfl,_,hg,Th,hcm,hcs,ht⟩
  ·have he:es = []:=List.length_eq_zero_iff.1 h0
   subst he;exact NR (.slice none 0 0) 0 vb [] x w none 0 rfl hrow rfl (by omega) hv (bA _) (by unfold maxLen;omega)
  ·exact NR _ es.length vb es x w (some ⟨g,0,none⟩) c rfl hrow rfl jS hv Th hcm
 ·rcases hrow.2 with ⟨rfl,h0⟩ | ⟨g,c,cur,rfl,_,hg,Th,hcm,hcs,ht⟩
  ·omega
  ·by_cases hc:es.length+1<=c
   ·exact PR g es.length c k vb es x cur w hg rfl (by omega) hc hcm hcs ht hv (Vz g rfl)
   ·obtain rfl:c=es.length:=by omega
    exact TH g es.length k vb es x cur w hg rfl (by omega) jS hcs ht hv
theorem iU.store {w:World}{b n:Nat}{f:List ByteArray->Option Value}(h:iU w b n f){q:List ByteArray}(hq:Good q)(hn:n<maxLen){t e:TypeId}(ht:prog.underlying t=some (.map 147 e))(val:Value):
  ∃w',(Instr.mapUpdate t (.map (some b)) (.agg (av q)) val).run prog w=.ok () w'/\iU w' b (n+1) (upd f q (some val))/\w.grownBy w' (some b)/\w'.heap.size=w.heap.size:=by
 obtain⟨M,hV,hM,hK⟩:=h;obtain⟨w',hrun,hV',hg,hs⟩:=hV.store vN ht hn (BZ hq) (val:=val);refine⟨w',hrun,⟨_,hV',fun p hp=>?_,fun kl hk hne=>?_⟩,hg,hs⟩
 ·by_cases e:p=q
  ·subst e;rw[kH,upd_same]
  ·rw[gQ (fun h=>e (qH hp hq h)),aJ e,hM p hp]
 ·by_cases e:kl=lp prog q
  ·exact⟨q,hq,e⟩
  ·rw[gQ e] at hne;exact hK kl hk hne
theorem iU.drop {w:World}{b n:Nat}{f:List ByteArray->Option Value}(h:iU w b n f){q:List ByteArray}(hq:Good q){t e:TypeId}(ht:prog.underlying t=some (.map 147 e))(ty:TypeId):
  ∃w',(Builtin.delete_ #[t,147] ty #[.map (some b),.agg (av q)]).run prog w=.ok (.tuple #[]) w'/\iU w' b n (upd f q none)/\w.grownBy w' (some b)/\w'.heap.size=w.heap.size:=by
 obtain⟨M,hV,hM,hK⟩:=h;obtain⟨w',hrun,hV',hg,hs⟩:=hV.drop vN ht (BZ hq) ty;refine⟨w',hrun,⟨_,hV',fun p hp=>?_,fun kl hk hne=>?_⟩,hg,hs⟩
 ·by_cases e:p=q
  ·subst e;rw[kH,upd_same]
  ·rw[gQ (fun h=>e (qH hp hq h)),aJ e,hM p hp]
 ·by_cases e:kl=lp prog q
  ·exact⟨q,hq,e⟩
  ·rw[gQ e] at hne;exact hK kl hk hne
theorem iU.congr {w:World}{b n:Nat}{f f':List ByteArray->Option Value}(h:iU w b n f)(hf:∀p,Good p->f p=f' p):iU w b n f':=by
 obtain⟨M,hV,hM,hK⟩:=h;exact⟨M,hV,fun p hp=>(hM p hp).trans (hf p hp),hK⟩
theorem iU.isMap {w:World}{b n:Nat}{f:List ByteArray->Option Value}(h:iU w b n f):∃es clock,w.heap[b]? = some (.map es clock):=by
 obtain⟨M,hV,_⟩:=h;exact hV.isMap
structure mY (ag:List Ob)(es:List aK):Prop where
 rising:aU es
 len:es.length<=16
 ok:∀e ∈ es,aF e.1=true/\lR ag e
section
variable {tg:aP}{w:World}{s i p:Nat}{B:WB}{ag:List Ob}{g:WG}{lim:Nat}{vD:List ByteArray->Value}
theorem lu.xy {w':World}{t:Nat×Nat}{v:Value}{es:List aK}{b:Nat}{Vf:Array MapEntry}{clock:Nat}(h:lu tg w t v es)(hb:w.heap[b]? = some (.map Vf clock))(hg:w.grownBy w' (some b)):lu tg w' t v es:=
 h.keep fun g' kT hl=>⟨hg.block g' hl (fun e=>by
  have e':g'=b:=by injection e
  rw[e'] at kT
  exact dS h.1 hb kT.symm),rfl⟩
theorem cG.store {od:List ByteArray->Option (List aK)}(h:cG tg w i B od lim vD){q:List ByteArray}(hq:Good q)(hl:lim<maxLen){v:Value}{es:List aK}(hrow:lu tg w (i,5) v es)(hE:mY ag es)
  (CN:∀q' es' gb,q'≠q->od q'=some es'->(vD q').ownBlock=some gb->v.ownBlock≠some gb):
  ∃w',(Instr.mapUpdate 162 (.map (some B.oD)) (.agg (av q)) v).run prog w=.ok () w'/\w.grownBy w' (some B.oD)/\w'.heap.size=w.heap.size/\cG tg w' i B (upd od q (some es)) (lim+1) (upd vD q v):=by
 obtain⟨n,hn,hm⟩:=h.map;obtain⟨w',hrun,hm',hg,hs⟩:=hm.store hq (Nat.lt_of_le_of_lt hn hl) underlying162 v;obtain⟨Vf,ck,hb⟩:=hm.isMap;refine⟨w',hrun,hg,hs,⟨h.tag,⟨n+1,by omega,hm'.congr (fun p hp=>?_)⟩,fun p fs hp=>?_,fun p fs hp=>?_,fun p p' fs fs' gb hp Vj hb1 hb2=>?_⟩⟩
 ·by_cases e:p=q
  ·subst e;rw[upd_same,upd_same,upd_same];rfl
  ·rw[aJ e,aJ e,aJ e]
 ·by_cases e:p=q
  ·subst e
   rw[upd_same] at hp;cases hp;exact⟨hq,hE.rising,hE.len,fun e he=>⟨(hE.ok e he).1,(hE.ok e he).2.1⟩⟩
  ·rw[aJ e] at hp;exact h.good p fs hp
 ·by_cases e:p=q
  ·subst e
   rw[upd_same] at hp ⊢;cases hp;exact hrow.xy hb hg
  ·rw[aJ e] at hp ⊢
   exact (h.row p fs hp).xy hb hg
 ·by_cases e:p=q
  ·by_cases e':p'=q
   ·rw[e,e']
   ·subst e
    rw[upd_same] at hb1;rw[aJ e'] at Vj hb2;exact absurd hb1 (CN p' fs' gb e' Vj hb2)
  ·by_cases e':p'=q
   ·subst e'
    rw[upd_same] at hb2;rw[aJ e] at hp hb1;exact absurd hb2 (CN p fs gb e hp hb1)
   ·rw[aJ e] at hp hb1
    rw[aJ e'] at Vj hb2;exact h.inj p p' fs fs' gb hp Vj hb1 hb2
theorem bF.od {aC:aP}{w':World}{eN:Nat}{od':List ByteArray->Option (List aK)}{zD:List ByteArray->Value}(h:bF tg w s i p B ag g lim)(m:az (fun t=>t=(i,5)) tg aC w w')(hl:lim<=eN)(hD:cG aC w' i B od' eN zD)(cz:∀q es,od' q=some es->∀e ∈ es,lR ag e):
  bF aC w' s i p B ag { g with ft:={ g.ft with od:=od' } } eN:=by
 have hi:=h.two;have hp:=h.wp;refine⟨h.two,(h.st.moves m (fun e=>by cases e) (fun e=>by cases e)).mono hl,⟨hp.tree.moves m (fun e=>by cases e),(hp.qK.moves m (fun e=>by cases e)).mono hl,(hp.qL.moves m (fun e=>by cases e)).mono hl,(hp.Ac.moves m (fun e=>by cases e)).mono hl,⟨zD,hD⟩,hp.files.moves m (fun e=>by cases e),hp.held,hp.opens.moves m (fun e=>by cases e) (fun e=>by cases e),⟨hp.ok.root,cz⟩⟩⟩
end
theorem Az {tg:aP}{w:World}{i lim:Nat}{B:WB}{od:List ByteArray->Option (List aK)}{vD:List ByteArray->Value}(h:cG tg w i B od lim vD){q:List ByteArray}(hq:Good q){W:World}(hb:Below w.heap.size w W):
  (Instr.lookup 162 (.map (some B.oD)) (.agg (av q)) true).run prog W=.ok (.tuple #[((od q).map fun _=>vD q).getD (.slice none 0 0),.bool (od q).isSome]) W:=by
 obtain⟨n,_,M,hV,hM,_⟩:=h.map
 have:=(hV.keep (w':=W) (hb.block _ hV.lt)).look_ok vN underlying162 (yG W) (BZ hq)
 rw[hM q hq] at this;rw[this];show Result.ok (Value.tuple #[_,Value.bool ((od q).map fun _=>vD q).isSome]) W=_;rw[Option.isSome_map]
theorem Ed (t m:Nat)(s0 s1 s2 s3 s4:ByteArray)(v:Value)(w:World)(ht:t<w.heap.size)(c8:w.cell? ⟨t,8,none⟩=some (.map (some m)))
  (hlk:∀W,Below w.heap.size w W->(Instr.lookup 162 (.map (some m)) (.agg #[.string s0,.string s1,.string s2,.string s3,.string s4]) true).run prog W=.ok (.tuple #[v,.bool true]) W):
  Calls prog 192 #[.pointer (some ⟨t,0,none⟩),.agg #[.string s0,.string s1,.string s2,.string s3,.string s4]] w fun e w'=>e=.returned v/\Below w.heap.size w w':=by
 have hl:=hlk _ (aB ((Below.refl w.heap.size w).alloc (bA _) (.cells #[.string s0,.string s1,.string s2,.string s3,.string s4] 147)));clear hlk;go_enter func192,ntmps192;go_wp2
 go_region
 all_goals
  go_wp2;go_ret;exact⟨rfl,aB ((Below.refl _ _).alloc (bA _) _)⟩
theorem B1 {w:World}{v:Value}{es:List aK}(hrow:w.ownsRow 0 96 3 v es.length (flat es))(jS:es.length<=16):
  Calls prog 170 #[v] w fun e w'=>∃v',e=.returned v'/\w'.ownsRow 0 96 3 v' es.length (flat es)/\(∀gb,v'.ownBlock=some gb->w.heap.size<=gb)/\Below w.heap.size w w':=by
 rcases hrow.2 with ⟨rfl,h0⟩ | ⟨g,c,cur,rfl,_,hg,Th,hcm,hcs,ht⟩
 ·have he:es = []:=List.length_eq_zero_iff.1 h0
  subst he;refine (AnyE.slices_Clone_nil Ri 0 0 w).mono ?_;rintro e w' ⟨rfl,rfl⟩;exact⟨_,rfl,hrow,fun gb hgb=>by simp[Value.ownBlock] at hgb,Below.refl _ _⟩
 ·refine (AR g 0 es.length c es w rfl (by omega) (aQ hrow)).mono ?_
  rintro e w' ⟨v',rfl,hr,_,hb⟩;refine⟨v',rfl,uy hr,fun gb hgb=>?_,hb⟩;rcases hr.2 with ⟨e,_⟩ | ⟨g',c',_,e,KR,_⟩
  ·rw[e] at hgb;simp[Value.ownBlock] at hgb
  ·rw[e] at hgb
   obtain rfl:g'=gb:=by simpa [Value.ownBlock] using hgb
   exact KR
theorem PS {ag:List Ob}(hS:Sound ag){ft:FT}(cz:ZY ag ft)(hr:∀p es,ft.od p=some es->aU es/\es.length<=16)(hv:∀p es,ft.od p=some es->∀e ∈ es,aF e.1=true)(fs:FS)(r:List ByteArray):mY ag (bO ag ft fs r).2.2:=by
 obtain⟨f1,l1,l2,l3⟩:=vQ hS cz hr fs r;refine⟨l2,l3,fun e he=>⟨?_,l1 e he⟩⟩
 revert e
 unfold bO;by_cases h0:(findF ag ft fs r).2.1≠0
 ·simp only[aL h0];simp
 ·simp only[ay h0]
  unfold kI;by_cases hk:(findF ag ft fs r).2.2.2.1≠2
  ·rw[aL hk];simp
  ·rw[ay hk]
   by_cases hid:(findF ag ft fs r).2.2.2.2=0
   ·rw[aL hid]
    cases ho:ft.od r.reverse with
    | none=>simp
    | some es=>exact fun e he=>hv _ es ho e he
   ·rw[ay hid]
    by_cases hG:((findF ag ft fs r).1.gf (findF ag ft fs r).2.2.2.2).2=true
    ·rw[aL hG]
     have he:=f1 (Decidable.not_not.1 h0);obtain⟨s1,s2,s3⟩:=hS.2 _ ((he.2 hid).trans (Decidable.not_not.1 hk));exact fun e he=>(s3 e he).1
    ·rw[ay hG];simp
theorem bF.aV {tg:aP}{w:World}{s i p:Nat}{B:WB}{ag:List Ob}{g:WG}{lim:Nat}(h:bF tg w s i p B ag g lim)(fs:FS)(r:List ByteArray):mY ag (bO ag g.ft fs r).2.2:=by
 obtain⟨vD,hD⟩:=h.wp.tG;exact PS h.st.sound h.wp.ok h.rising (fun p es he e hm=>((hD.good p es he).2.2.2 e hm).1) fs r
def lS (tg:aP)(v:Value)(t:Nat×Nat):aP:=match v.ownBlock with
 | some b=>o5 tg b t
 | none=>tg
theorem kL {tg:aP}{v:Value}{k:Nat}(h:v.ownBlock≠some k)(t:Nat×Nat):lS tg v t k=tg k:=by
 unfold lS;cases hv:v.ownBlock with
 | none=>rfl
 | some b=>exact pS (fun e=>h (by rw[hv,e])) _
theorem rT {tg:aP}{v:Value}{k:Nat}(h:v.ownBlock=some k)(t:Nat×Nat):lS tg v t k=t:=by
 unfold lS;rw[h];exact BU _ _ _
section
variable {s i p:Nat}{B:WB}{ag:List Ob}
theorem pT.zv {tg aC:aP}{w:World}{g:WG}{lim:Nat}(hi:2<=i)(h:pT tg w i p B ag g lim)(hk:∀k,(tg k).1≠0->aC k=tg k):pT aC w i p B ag g lim:=by
 have key:∀{b:Nat} {t:Nat},tg b=(i,t)->aC b=(i,t):=fun {b t} hb=>(hk b (by rw[hb];show i≠0;omega)).trans hb;have adl:∀{t:Nat} {v:Value} {es:List aK},lu tg w (i,t) v es->lu aC w (i,t) v es:=fun hr=>⟨hr.1,fun g' kT=>key (hr.2 g' kT)⟩;obtain⟨ht,hF,hD,oF,⟨vD,oD⟩,fl,held,op,ok⟩:=h;refine⟨⟨key ht.tt,key ht.tF,key ht.tD,ht.ht,ht.hF,ht.hD⟩,?_,?_,?_,⟨vD,key oD.tag,oD.map,oD.good,fun q es hq=>adl (oD.row q es hq),oD.inj⟩,?_,held,⟨key op.tw,op.hw,op.past,?_,op.inj⟩,ok⟩
 ·obtain⟨a,b⟩:=hF;exact⟨key a,b⟩
 ·obtain⟨a,n,M,vK,b1,b2,b3,b4⟩:=hD;exact⟨key a,n,M,vK,b1,b2,b3,fun id hid=>⟨(b4 id hid).1,adl (b4 id hid).2⟩⟩
 ·obtain⟨a,b⟩:=oF;exact⟨key a,b⟩
 ·intro f id d hf
  obtain⟨a,b⟩:=fl f id d hf;exact⟨key a,b⟩
 ·intro k b f fg pl dy
  obtain⟨a,c⟩:=op.at_ k b f fg pl dy;exact⟨key a,c⟩
theorem cG.zv {tg aC:aP}{w:World}{od:List ByteArray->Option (List aK)}{lim:Nat}{vD:List ByteArray->Value}(hi:2<=i)(h:cG tg w i B od lim vD)(hk:∀k,(tg k).1≠0->aC k=tg k):cG aC w i B od lim vD:=by
 have key:∀{b:Nat} {t:Nat},tg b=(i,t)->aC b=(i,t):=fun {b t} hb=>(hk b (by rw[hb];show i≠0;omega)).trans hb;exact⟨key h.tag,h.map,h.good,fun q es hq=>⟨(h.row q es hq).1,fun g' kT=>key ((h.row q es hq).2 g' kT)⟩,h.inj⟩
theorem bF.zv {tg aC:aP}{w:World}{g:WG}{lim:Nat}(h:bF tg w s i p B ag g lim)(hf:jC aC w)(hk:∀k,(tg k).1≠0->aC k=tg k):bF aC w s i p B ag g lim:=
 ⟨h.two,h.st.zv hf (fun k h1=>hk k (by rw[h1];decide)),h.wp.zv h.two hk⟩
theorem FW {tg:aP}{w W:World}{g:WG}{lim:Nat}{vD:List ByteArray->Value}(h:bF tg w s i p B ag g lim)(GG:cG tg w i B g.ft.od lim vD)(hl:lim<maxLen){q:List ByteArray}(hq:Good q)(hb:Below w.heap.size w W){v:Value}{es:List aK}(hrow:W.ownsRow 0 96 3 v es.length (flat es))(xS:∀gb,v.ownBlock=some gb->w.heap.size<=gb)(hE:mY ag es):
  ∃w' aC,(Instr.mapUpdate 162 (.map (some B.oD)) (.agg (av q)) v).run prog W=.ok () w'/\W.grownBy w' (some B.oD)/\w'.heap.size=W.heap.size/\B.oD<w.heap.size/\az (Mine i) tg aC w w'/\
   bF aC w' s i p B ag { g with ft:={ g.ft with od:=upd g.ft.od q (some es) } } (lim+1)/\cG aC w' i B (upd g.ft.od q (some es)) (lim+1) (upd vD q v)/\∀gb,v.ownBlock=some gb->w'.heap[gb]? = W.heap[gb]?:=by
 have hi:=h.two;have hW:=h.below hb;have hD:=GG.moves (az.aM (P:=fun _=>False) hb) (fun x=>x);have hlt:∀gb,v.ownBlock=some gb->gb<W.heap.size:=fun gb hgb=>ah hrow hgb;have h0:∀gb,v.ownBlock=some gb->tg gb=(0,0):=fun gb hgb=>h.st.fresh gb (xS gb hgb);have hk:∀k,(tg k).1≠0->lS tg v (i,5) k=tg k:=fun k hk=>kL (fun e=>hk (by rw[h0 k e])) _;have hf:jC (lS tg v (i,5)) W:=fun k dy=>by
  rw[kL (fun e=>by have:=hlt k e;omega)];exact hW.st.fresh k dy
 have SG:=hW.zv hf hk;have CT:=hD.zv hi hk;have hrow':lu (lS tg v (i,5)) W (i,5) v es:=⟨hrow,fun gb hgb=>rT hgb _⟩;obtain⟨w',hrun,hg,hs,Yo⟩:=CT.store (ag:=ag) hq hl hrow' hE (fun q' es' gb _ ho hb1 hb2=>by
  have h1:=(hD.row q' es' ho).2 gb hb1;rw[h0 gb hb2] at h1;cases h1)
 have m:az (fun t=>t=(i,5)) (lS tg v (i,5)) (lS tg v (i,5)) W w':=jD hg hs CT.tag;obtain⟨n0,_,Oo⟩:=hD.map;obtain⟨e0,ck0,hmap⟩:=Oo.isMap;obtain⟨n1,_,Om⟩:=GG.map;refine⟨w',lS tg v (i,5),hrun,hg,hs,Om.lt,?_,SG.od m (Nat.le_succ _) Yo (fun q' es' ho=>?_),Yo,fun gb hgb=>?_⟩
 ·have m1:az (Mine i) tg (lS tg v (i,5)) w W:=⟨hb.os,hb.tape,hb.output,hb.size,fun k dy=>kL (fun e=>by have:=xS k e;omega) _,fun k dy _=>hb.block k dy,fun _=>hf⟩
  exact m1.trans (m.mono (fun t ht=>.inr (by rw[ht])))
 ·by_cases e:q'=q
  ·subst e
   have I6:upd g.ft.od q' (some es) q'=some es':=ho;rw[upd_same] at I6;cases I6;exact fun e he=>(hE.ok e he).2
  ·have I6:upd g.ft.od q (some es) q'=some es':=ho
   rw[aJ e] at I6;exact h.wp.ok.od q' es' I6
 ·refine hg.block gb (hlt gb hgb) (fun e=>?_)
  have e':gb=B.oD:=by injection e
  rw[e'] at hgb;exact dS hrow hmap hgb.symm
end
end Go.Proofs.YtlgidcmmgohagaaGreat
