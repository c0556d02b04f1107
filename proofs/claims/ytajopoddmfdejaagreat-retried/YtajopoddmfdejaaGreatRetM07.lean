/-
  What is proved here: Write of a file: its bytes, written over from a place on, in memory of their own. Write by what has a file open, walked over whatever Bytes and the file's Write answer. the table of what is ..
-/
import Derived.Test.YtajopoddmfdejaaGreatRetM06
import Derived.Test.YtajopoddmfdejaaGreatRetM03
import Derived.Lib.BufferWrite
import Derived.Laws.IdiomStrings
import Derived.OwnWalk
namespace Go.Proofs.YtajopoddmfdejaaGreat
open Go.RowKit
set_option linter.unusedVariables false
def writeL (old d:List UInt8)(a:Nat):List UInt8:=(old++List.replicate (max old.length (a+d.length)-old.length) 0).take a++d++(old++List.replicate (max old.length (a+d.length)-old.length) 0).drop (a+d.length)
def writeB (old d:ByteArray)(a:Nat):ByteArray:=⟨(writeL old.data.toList d.data.toList a).toArray⟩
theorem writeL_length (old d:List UInt8)(a:Nat):(writeL old d a).length=max old.length (a+d.length):=by
 unfold writeL;simp;omega
def setFile (w:World)(f:Nat)(d:ByteArray):World:=((w.setCell ⟨f,0,none⟩ (.pointer none)).setCell ⟨f,1,none⟩ (.int .i64 0)).setCell ⟨f,2,none⟩ (.string d)
theorem infoU8:(Tryz.prog.info? 5).map (fun i=>(i.zero,i.size,i.bytes))=some (some (.int .u8 0),1,1):=by kernel_rfl
theorem infoU8s:(Tryz.prog.info? 5).map (·.size)=some 1:=by kernel_rfl
theorem wpList_copyS {P:Program}{w:World}{ops:Array Oper}{rest:List Oper}{o:Oper}{a:Act}{Q:Exit->Act->World->Prop}(hgd:o.guard=none)(d x:Operand)(dT sT:TypeId)
  (ho:o.op=.call { callee:=.builtin .copy,args:=#[d,x],argTypes:=#[dT,sT] })(elem:TypeId)(hu:P.underlying dT=some (.slice elem))(hsz:(P.info? elem).map (·.size)=some 1)
  (g off dLen dCap:Nat)(s:ByteArray)(hd:a.eval d=.slice (some ⟨g,off,none⟩) dLen dCap)(hs:a.eval x=.string s)
  (cur:Array Value)(t:TypeId)(hg:w.heap[g]? = some (.cells cur t (0,0)))(hle:s.size<=dLen)(hfit:off+s.size<=cur.size)
  (new:Array Value)(hnew:new.toList=cur.toList.take off++Lib.byteCells s.data.toList++cur.toList.drop (off+s.size))
  (h:∀ w',Hid (w'.heap[g]? = some (.cells new t (0,0)))->w.grownBy w' (some g)->wpList P ops Q rest (a.put o.dst (goInt s.size)) w'):wpList P ops Q (o :: rest) a w:=by
 refine wpList_plain hgd fun K hK=>?_
 have hrun:=Lib.run_copy_row_string (P:=P) w dT sT o.type elem g off dLen dCap s cur t hu hsz hg hle hfit
 rw[<- hnew,Array.toArray_toList] at hrun
 unfold Oper.wp
 simp[execOp,ho,resolve,invoke,builtin,hd,hs,hrun,Result.andThen]
 exact hK _ _ (h _ (setRow_heap w g _ _ t _ hg) ⟨rfl,rfl,rfl,by simp,fun k hk hne=>setRow_other w g k _ (fun e=>hne (by rw[e]))⟩)
theorem made_bytes {w:World}{g n:Nat}(h:w.ownsRow 0 5 1 (.slice (some ⟨g,0,none⟩) n n) n (madeCells (Value.int .u8 0).cells (n*1)).toList):∃ cur,Hid (w.heap[g]? = some (.cells cur 5 (0,0)))/\Hid (cur.toList=Lib.byteCells (List.replicate n 0)):=by
 rcases h.2 with ⟨h0,_⟩ | ⟨g',cap',cur,hv,_,hg,_,_,hcur,htk⟩
 ·cases h0
 ·cases hv
  refine⟨cur,hg,?_⟩
  show cur.toList=_
  have e1:(madeCells (Value.int .u8 0).cells (n*1)).toList=List.replicate n (Value.int .u8 0):=by rw[Nat.mul_one];exact toList_madeCells_one _ n
  rw[e1] at htk
  have e2:cur.toList.take (n*1)=cur.toList:=List.take_of_length_le (by rw[Array.length_toList,hcur];exact Nat.le_refl _)
  rw[e2] at htk
  rw[htk,Lib.byteCells,List.map_replicate];rfl
theorem grown_self {w w2 w3:World}(hb:Below w.heap.size w w2)(h:w2.grownBy w3 (some w.heap.size)):Hid (Below w.heap.size w w3):=hb.grown h hb.size (fun k hk=>by cases hk;exact Nat.le_refl _)
theorem bytes_row {w:World}{g:Nat}{l:List UInt8}(h:w.heap[g]? = some (.cells (Lib.byteCells l).toArray 5 (0,0)))(cap:Nat):(convert 228 9 (.slice (some ⟨g,0,none⟩) l.length cap)).run Tryz.prog w=.ok (.string ⟨l.toArray⟩) w:=
 run_convert_bytes_back w 228 9 5 ⟨g,0,none⟩ cap l Tryz.underlying228 Tryz.underlying5 Tryz.underlying9 (fun j hj=>by
  have h2:(⟨g,0,none⟩:Addr).add j=⟨g,j,none⟩:=by unfold Addr.add;split <;> simp_all
  rw[h2]
  simp[World.cell?,h,Lib.byteCells,hj])
theorem row_first {old:List UInt8}{n:Nat}(h:old.length<=n):Lib.byteCells (old++List.replicate (n-old.length) 0)=(Lib.byteCells (List.replicate n 0)).take 0++Lib.byteCells old++(Lib.byteCells (List.replicate n 0)).drop (0+old.length):=by
 simp[Lib.byteCells]
theorem row_next (l d:List UInt8)(a:Nat):Lib.byteCells (l.take a++d++l.drop (a+d.length))=(Lib.byteCells l).take a++Lib.byteCells d++(Lib.byteCells l).drop (a+d.length):=by
 simp[Lib.byteCells,List.map_take,List.map_drop]
theorem file_keep {w1 w4:World}(hb:Below w1.heap.size w1 w4){f:Nat}(hR:f<w1.heap.size/\(∃ x y z,w1.cell? ⟨f,0,none⟩=some x/\w1.cell? ⟨f,1,none⟩=some y/\w1.cell? ⟨f,2,none⟩=some z)/\∀ o,w1.frozen? ⟨f,o,none⟩=false):
  f<w4.heap.size/\(∃ x y z,w4.cell? ⟨f,0,none⟩=some x/\w4.cell? ⟨f,1,none⟩=some y/\w4.cell? ⟨f,2,none⟩=some z)/\∀ o,w4.frozen? ⟨f,o,none⟩=false:=by
 obtain⟨h1,⟨x,y,z,h2,h3,h4⟩,h5⟩:=hR
 have hbk:=hb.block f h1
 have hc:=fun o=>World.cell?_of_block (a:=⟨f,o,none⟩) hbk
 have hz:=fun o=>World.frozen?_of_block (a:=⟨f,o,none⟩) hbk
 exact⟨Nat.lt_of_lt_of_le h1 hb.size,⟨x,y,z,(hc 0).trans h2,(hc 1).trans h3,(hc 2).trans h4⟩,fun o=>(hz o).trans (h5 o)⟩
theorem set_any {w1 w4:World}{f:Nat}{l:List UInt8}(cap:Nat)(hb:Below w1.heap.size w1 w4)(hR:f<w1.heap.size/\(∃ x y z,w1.cell? ⟨f,0,none⟩=some x/\w1.cell? ⟨f,1,none⟩=some y/\w1.cell? ⟨f,2,none⟩=some z)/\∀ o,w1.frozen? ⟨f,o,none⟩=false){g:Nat}(h:w4.heap[g]? = some (.cells (Lib.byteCells l).toArray 5 (0,0))):
  Calls Tryz.prog 156 #[.pointer (some ⟨f,0,none⟩),.slice (some ⟨g,0,none⟩) l.length cap] w4 fun e w'=>e=.returned (.tuple #[])/\w'=setFile w4 f ⟨l.toArray⟩:=by
 obtain⟨k1,⟨x,y,z,k2,k3,k4⟩,k5⟩:=file_keep hb hR
 exact set_walk f _ ⟨l.toArray⟩ x y z w4 k1 k2 k3 k4 k5 (bytes_row h cap)
set_option maxRecDepth 100000 in
set_option maxHeartbeats 1000000 in
theorem fwrite_walk (f a:Nat)(old d:ByteArray)(R:World->Prop)(w:World)(hd0:1<=d.size)(h256:a+d.size<=256)(ho:old.size<=256)
  (hg:Calls Tryz.prog 135 #[.pointer (some ⟨f,0,none⟩)] w fun e w'=>e=.returned (.tuple #[.string old,.int .i64 0])/\R w')
  (hR:∀ w1,R w1->f<w1.heap.size/\(∃ x y z,w1.cell? ⟨f,0,none⟩=some x/\w1.cell? ⟨f,1,none⟩=some y/\w1.cell? ⟨f,2,none⟩=some z)/\∀ o,w1.frozen? ⟨f,o,none⟩=false):
  Calls Tryz.prog 136 #[.pointer (some ⟨f,0,none⟩),.int .i64 (a:Int),.string d] w fun e w'=>e=.returned (.int .i64 0)/\∃ w1 w2,R w1/\Below w1.heap.size w1 w2/\w'=setFile w2 f (writeB old d a):=by
 obtain⟨n,hn⟩:∃ n:Nat,n=max old.size (a+d.size):=⟨_,rfl⟩
 have hmx:max (old.size:Int) ((a:Int)+(d.size:Int))=(n:Int):=by omega
 have hn2:n<=256:=by omega
 have han:a<n:=by omega
 have hon:old.size<=n:=by omega
 have hdn:a+d.size<=n:=by omega
 obtain⟨i0,hi,hz0,hz1,hz2⟩:=info_parts infoU8
 obtain⟨l1,hl1⟩:∃ l1:List UInt8,l1=old.data.toList++List.replicate (n-old.size) 0:=⟨_,rfl⟩
 have HL1:Hid _:=hl1
 obtain⟨l2,hl2⟩:∃ l2:List UInt8,l2=writeL old.data.toList d.data.toList a:=⟨_,rfl⟩
 have HL2:Hid _:=hl2
 have hl2n:l2.length=n:=by rw[hl2,writeL_length,hn,Lib.size_eq,Lib.size_eq]
 have HN:Hid (n=max old.size (a+d.size)):=hn
 have HR:Hid _:=hR
 clear hl1 hl2 hn hR
 go_enter Tryz.func136,Tryz.ntmps136
 go_wp2_with (first
  | (go_at_call 135;refine hg.mono ?_;rintro e w1 ⟨rfl,hR1⟩;have HR1:Hid _:=hR1;clear hR1)
  | (at_make;go_loud (refine wpList_make_full _ rfl _ _ 228 rfl 0 5 i0 _ 1 Tryz.underlying228 hi hz0 hz1 .i64 .i64 _ _ n rfl rfl rfl rfl ?_ ?_ (Nat.zero_le _) ?_;go_must (rw[hz2];omega);go_must (unfold maxLen;omega);intro w3 hown3 hg3;obtain⟨cur,HB,HCS⟩:=made_bytes hown3;have HB3:Hid (Below w1.heap.size w1 w3):=grown_none (Below.refl _ _) hg3;clear hown3 hg3))
  | (refine wpList_copyS rfl (.tmp 26) (.tmp 27) 228 9 rfl 5 Tryz.underlying228 infoU8s w1.heap.size 0 n n old rfl rfl cur 5 HB.out hon ?_ (Lib.byteCells l1).toArray ?_ ?_;go_must (rw[<- Array.length_toList,HCS.out,Lib.byteCells_length,List.length_replicate];omega);go_must (rw[HCS.out,HL1.out,Lib.size_eq];exact row_first (by rw[<- Lib.size_eq];exact hon));intro w4 H4 hg4;have HB4:=grown_self HB3.out hg4;clear hg4)
  | (refine wpList_copyS rfl (.tmp 31) (.tmp 32) 228 9 rfl 5 Tryz.underlying228 infoU8s w1.heap.size a (n-a) (n-a) d rfl rfl (Lib.byteCells l1).toArray 5 H4.out ?_ ?_ (Lib.byteCells l2).toArray ?_ ?_;go_must (omega);go_must (rw[List.size_toArray,Lib.byteCells_length,HL1.out,List.length_append,List.length_replicate,<- Lib.size_eq];omega);go_must (rw[HL2.out,HL1.out,writeL,Lib.size_eq,Lib.size_eq,HN.out,Lib.size_eq,Lib.size_eq];exact row_next _ _ _);intro w5 H5 hg5;have HB5:=grown_self HB4.out hg5;clear hg5)
  | (go_at_call 156;go_loud (rw[<- hl2n];refine (set_any _ HB5.out (HR.out _ HR1.out) H5.out).mono ?_;rintro e w6 ⟨rfl,rfl⟩)))
 go_ret
 exact⟨rfl,w1,w5,HR1.out,HB5.out,by unfold writeB;rw[<- HL2.out]⟩
end Go.Proofs.YtajopoddmfdejaaGreat
namespace Go.Proofs.YtajopoddmfdejaaGreat
open Go.RowKit
set_option linter.unusedVariables false
def startF (fg pl n:Int):Int:=if (bits BinOp.and IntKind.i64 fg 32 != 0)=true then n else pl
theorem some_bytes {d:ByteArray}(h:1<=d.size):(d.toList == [])=false:=by
 cases hl:d.toList with
 | nil=>
  rw[ByteArray.toList_eq] at hl
  have h2:d.size=0:=by rw[Lib.size_eq,hl];rfl
  omega
 | cons x r=>rfl
theorem start_any (o:Nat)(fg pl n:Int)(w:World)(c1:w.cell? ⟨o,1,none⟩=some (.int .i64 fg))(c2:w.cell? ⟨o,2,none⟩=some (.int .i64 pl)):
  Calls Tryz.prog 134 #[.pointer (some ⟨o,0,none⟩),.int .i64 n] w fun e w'=>e=.returned (.int .i64 (startF fg pl n))/\w'=w:=by
 unfold startF
 cases h:(bits BinOp.and IntKind.i64 fg 32 != 0) with
 | true=>exact start_app o fg pl n w c1 h
 | false=>exact start_at o fg pl n w c1 c2 h
set_option maxRecDepth 100000 in
set_option maxHeartbeats 400000 in
theorem write_none (o:Nat)(fg:Int)(w:World)(c1:w.cell? ⟨o,1,none⟩=some (.int .i64 fg))(hfg:(bits BinOp.and IntKind.i64 fg 2 == 0)=false):
  Calls Tryz.prog 95 #[.pointer (some ⟨o,0,none⟩),.string ⟨#[]⟩] w fun e w'=>e=.returned (.int .i64 0)/\w'=w:=by
 go_enter Tryz.func95,Tryz.ntmps95
 go_wp2
 go_ret
 exact⟨rfl,rfl⟩
set_option maxRecDepth 100000 in
set_option maxHeartbeats 400000 in
theorem write_ok (o f:Nat)(fg pl a:Int)(old d:ByteArray)(R S:World->Prop)(w:World)(c0:w.cell? ⟨o,0,none⟩=some (.pointer (some ⟨f,0,none⟩)))(c1:w.cell? ⟨o,1,none⟩=some (.int .i64 fg))(c2:w.cell? ⟨o,2,none⟩=some (.int .i64 pl))
  (hfg:(bits BinOp.and IntKind.i64 fg 2 == 0)=false)(hd:1<=d.size)(h0:0<=startF fg pl 0)(h1:startF fg pl 0+d.size<=256)(ha:startF fg pl old.size=a)(ha0:0<=a)(ha1:a+d.size<=256)
  (hg:Calls Tryz.prog 135 #[.pointer (some ⟨f,0,none⟩)] w fun e w'=>e=.returned (.tuple #[.string old,.int .i64 0])/\R w')
  (hR:∀ w1,R w1->w1.cell? ⟨o,0,none⟩=some (.pointer (some ⟨f,0,none⟩))/\w1.cell? ⟨o,1,none⟩=some (.int .i64 fg)/\w1.cell? ⟨o,2,none⟩=some (.int .i64 pl))
  (hw:∀ w1,R w1->Calls Tryz.prog 136 #[.pointer (some ⟨f,0,none⟩),.int .i64 a,.string d] w1 fun e w'=>e=.returned (.int .i64 0)/\S w')
  (hS:∀ w2,S w2->o<w2.heap.size/\w2.cell? ⟨o,2,none⟩=some (.int .i64 pl)/\w2.frozen? ⟨o,2,none⟩=false):
  Calls Tryz.prog 95 #[.pointer (some ⟨o,0,none⟩),.string d] w fun e w'=>e=.returned (.int .i64 0)/\∃ w2,S w2/\w'=w2.setCell ⟨o,2,none⟩ (.int .i64 (a+d.size)):=by
 have hst:=start_any o fg pl 0 w c1 c2
 have hst2:=fun w1 (h:R w1)=>start_any o fg pl old.size w1 (hR w1 h).2.1 (hR w1 h).2.2
 simp only[ha] at hst2
 generalize startF fg pl 0=s0 at hst h0 h1
 have hd':=some_bytes hd
 have hw1:IntKind.i64.wrap (s0+d.size)=s0+d.size:=by rw[IntKind.wrap_i64] <;> omega
 have hgt:¬ 256<s0+(d.size:Int):=by omega
 have hw2:IntKind.i64.wrap (a+d.size)=a+d.size:=by rw[IntKind.wrap_i64] <;> omega
 have hgt2:¬ 256<a+(d.size:Int):=by omega
 have HR:Hid _:=hR
 have HW:Hid _:=hw
 have HS:Hid _:=hS
 have HST2:Hid _:=hst2
 clear hR hw hS hst2
 go_enter Tryz.func95,Tryz.ntmps95
 go_wp2_with (first
  | (go_at_call_of 134 (Value.int .i64 0);refine hst.mono ?_;rintro e w1 ⟨rfl,rfl⟩)
  | (go_at_call 135;refine hg.mono ?_;rintro e w1 ⟨rfl,hR1⟩;obtain⟨k0,k1,k2⟩:=HR.out w1 hR1;have HR1:Hid _:=hR1;clear hR1)
  | (go_at_call 134;refine (HST2.out _ HR1.out).mono ?_;rintro e w2 ⟨rfl,rfl⟩)
  | (go_at_call 136;refine (HW.out _ HR1.out).mono ?_;rintro e w3 ⟨rfl,hS3⟩;obtain⟨m0,m1,m2⟩:=HS.out w3 hS3))
 go_ret
 exact⟨rfl,w3,hS3,rfl⟩
end Go.Proofs.YtajopoddmfdejaaGreat
namespace Go.Proofs.YtajopoddmfdejaaGreat
open Go.RowKit
set_option linter.unusedVariables false
def TabAt (w:World)(b:Nat)(vs:Nat->Option Nat):Prop:=b<w.heap.size/\(∀ k,k<8->w.cell? ⟨b,1+k,none⟩=some (.pointer ((vs k).map fun x=>⟨x,0,none⟩)))/\∀ o,w.frozen? ⟨b,o,none⟩=false
theorem eq_opened (x:Nat)(W:World):(binOp .eql 94 (.pointer none) (.pointer (some ⟨x,0,none⟩))).run Tryz.prog W=.ok (.bool false) W:=by kernel_rfl
theorem eq_opened' (x:Nat)(W:World):(binOp .eql 94 (.pointer (some ⟨x,0,none⟩)) (.pointer none)).run Tryz.prog W=.ok (.bool false) W:=by kernel_rfl
set_option maxRecDepth 100000 in
set_option maxHeartbeats 400000 in
theorem index_free (b k:Nat)(vs:Nat->Option Nat)(w:World)(h:TabAt w b vs)(hk:k<8)(h0:vs k=none)(h1:∀ j,j<k->vs j≠none):
  Calls Tryz.prog 130 #[.slice (some ⟨b,1,none⟩) 8 8,.pointer none] w fun e w'=>e=.returned (.int .i64 (k:Int))/\w'=w:=by
 obtain⟨hb,hc,_⟩:=h
 have HC:Hid _:=hc
 have H1:Hid _:=h1
 have H0:Hid _:=h0
 clear hc h1 h0
 go_enter Tryz.func130,Tryz.ntmps130
 go_wp2
 go_loopw [8] (fun i wr=>∃ j:Nat,j<=k/\i=.int .i64 (j:Int)/\wr=w) (fun i _=>k-(intOf i).toNat)
 case atStart=>exact⟨0,Nat.zero_le _,rfl,rfl⟩
 case round=>
  obtain⟨j,hj,rfl,rfl⟩:=hrel
  have hj8:j<8:=by omega
  have hcj:=HC.out j hj8
  have hj8':(j:Int)<8:=by omega
  by_cases he:j=k
  ·subst he
   rw[H0.out,Option.map_none] at hcj
   go_wp2
   go_ret
   exact⟨rfl,rfl⟩
  ·cases hv:vs j with
   | none=>exact absurd hv (H1.out j (by omega))
   | some x=>
    rw[hv,Option.map_some] at hcj
    have hq:∀ W,(binOp .eql 94 (.pointer none) (.pointer (some ⟨x,0,none⟩))).run Tryz.prog W=.ok (.bool false) W:=eq_opened x
    go_wp2
    go_roundw
    case rel=>exact⟨j+1,by omega,by go_num,trivial⟩
    case measure=>simp[intOf];omega
set_option maxRecDepth 100000 in
set_option maxHeartbeats 400000 in
theorem free_walk (b k:Nat)(vs:Nat->Option Nat)(w:World)(h:TabAt w b vs)(hk:k<8)(h0:vs k=none)(h1:∀ j,j<k->vs j≠none):
  Calls Tryz.prog 91 #[.pointer (some ⟨b,1,none⟩)] w fun e w'=>e=.returned (.tuple #[.int .i64 (k:Int),.int .i64 0])/\w'=w:=by
 have hi:=index_free b k vs w h hk h0 h1
 have hk0:¬ (k:Int)<0:=by omega
 clear h h0 h1
 go_enter Tryz.func91,Tryz.ntmps91
 go_wp2_with (go_at_call 130;refine hi.mono ?_;rintro e w1 ⟨rfl,rfl⟩)
 go_ret2
 exact⟨rfl,rfl⟩
set_option maxRecDepth 100000 in
set_option maxHeartbeats 400000 in
theorem tput_walk (b k f:Nat)(fg:Int)(x:Value)(w:World)(hb:b<w.heap.size)(hc:w.cell? ⟨b,1+k,none⟩=some x)(hfz:w.frozen? ⟨b,1+k,none⟩=false)(hk:k<8):
  Calls Tryz.prog 93 #[.pointer (some ⟨b,1,none⟩),.int .i64 (k:Int),.pointer (some ⟨f,0,none⟩),.int .i64 fg] w fun e w'=>e=.returned (.tuple #[])/\w'=(w.setCell ⟨b,1+k,none⟩ (.pointer (some ⟨w.heap.size,0,none⟩))).alloc (.cells #[.pointer (some ⟨f,0,none⟩),.int .i64 fg,.int .i64 0] 208):=by
 have hk8:(k:Int)<8:=by omega
 go_enter Tryz.func93,Tryz.ntmps93
 go_wp2
 go_end0
 exact⟨rfl,rfl⟩
set_option maxRecDepth 100000 in
set_option maxHeartbeats 400000 in
theorem tat_some (b k x:Nat)(w:World)(hc:w.cell? ⟨b,1+k,none⟩=some (.pointer (some ⟨x,0,none⟩)))(hk:k<8):
  Calls Tryz.prog 94 #[.pointer (some ⟨b,1,none⟩),.int .i64 (k:Int)] w fun e w'=>e=.returned (.tuple #[.pointer (some ⟨x,0,none⟩),.int .i64 0])/\w'=w:=by
 have hk8:(k:Int)<8:=by omega
 have hk0:¬ (k:Int)<0:=by omega
 have hq:=eq_opened' x
 go_enter Tryz.func94,Tryz.ntmps94
 go_wp2
 go_ret2
 exact⟨rfl,rfl⟩
set_option maxRecDepth 100000 in
set_option maxHeartbeats 400000 in
theorem tclose_some (b k x:Nat)(w:World)(hb:b<w.heap.size)(hc:w.cell? ⟨b,1+k,none⟩=some (.pointer (some ⟨x,0,none⟩)))(hfz:w.frozen? ⟨b,1+k,none⟩=false)(hk:k<8):
  Calls Tryz.prog 96 #[.pointer (some ⟨b,1,none⟩),.int .i64 (k:Int)] w fun e w'=>e=.returned (.int .i64 0)/\w'=w.setCell ⟨b,1+k,none⟩ (.pointer none):=by
 have hk8:(k:Int)<8:=by omega
 have hk0:¬ (k:Int)<0:=by omega
 have hat:=tat_some b k x w hc hk
 go_enter Tryz.func96,Tryz.ntmps96
 go_wp2_with (go_at_call 94;refine hat.mono ?_;rintro e w1 ⟨rfl,rfl⟩)
 go_ret
 exact⟨rfl,rfl⟩
set_option maxRecDepth 100000 in
set_option maxHeartbeats 400000 in
theorem needed_1 (w:World):Calls Tryz.prog 129 #[.int .i64 1] w fun e w'=>e=.returned (.int .i64 0)/\w'=w:=by
 go_enter Tryz.func129,Tryz.ntmps129
 go_wp2
 go_ret
 exact⟨rfl,rfl⟩
set_option maxRecDepth 100000 in
set_option maxHeartbeats 400000 in
theorem valid_1 (w:World):Calls Tryz.prog 90 #[.int .i64 1] w fun e w'=>e=.returned (.bool true)/\w'=w:=by
 have hn:=needed_1 w
 go_enter Tryz.func90,Tryz.ntmps90
 go_wp2_with (go_at_call 129;refine hn.mono ?_;rintro e w1 ⟨rfl,rfl⟩)
 go_ret
 exact⟨rfl,rfl⟩
set_option maxRecDepth 100000 in
set_option maxHeartbeats 400000 in
theorem needed_22 (w:World):Calls Tryz.prog 129 #[.int .i64 22] w fun e w'=>e=.returned (.int .i64 2)/\w'=w:=by
 go_enter Tryz.func129,Tryz.ntmps129
 go_wp2
 go_ret
 exact⟨rfl,rfl⟩
set_option maxRecDepth 100000 in
set_option maxHeartbeats 400000 in
theorem valid_22 (w:World):Calls Tryz.prog 90 #[.int .i64 22] w fun e w'=>e=.returned (.bool true)/\w'=w:=by
 have hn:=needed_22 w
 go_enter Tryz.func90,Tryz.ntmps90
 go_wp2_with (go_at_call 129;refine hn.mono ?_;rintro e w1 ⟨rfl,rfl⟩)
 go_ret
 exact⟨rfl,rfl⟩
end Go.Proofs.YtajopoddmfdejaaGreat
namespace Go.Proofs.YtajopoddmfdejaaGreat
open Go.RowKit Go.Sort Go.Shelf
set_option linter.unusedVariables false
set_option maxRecDepth 100000
set_option maxHeartbeats 16000000
def joinB (l:List ByteArray):ByteArray:=⟨(joinL (l.map toL)).toArray⟩
theorem index_slash (s:ByteArray)(w:World):Calls Tryz.prog 148 #[.string s,.string ⟨#[47]⟩] w fun e w'=>e=.returned (.int .i64 (Lib.indexByte s.data.toList 47))/\w'=w:=by
 by_cases hs:s=⟨#[47]⟩
 ·subst hs
  go_enter Tryz.func148,Tryz.ntmps148
  go_wp2
  go_ret
  exact⟨rfl,rfl⟩
 ·have hq:([47] == s.toList)=false:=by
   cases h:([47] == s.toList) with
   | false=>rfl
   | true=>
    have h2:[47]=s.toList:=by simpa using h
    rw[ByteArray.toList_eq] at h2
    exact absurd (bytes_inj (a:=⟨#[47]⟩) h2).symm hs
  have hi:=Tryz.stringslite_IndexByte s 47 w
  rw[show ((47:Int).toNat.toUInt8)=47 from rfl] at hi
  generalize Lib.indexByte s.data.toList 47=k at hi ⊢
  go_enter Tryz.func148,Tryz.ntmps148
  go_wp2_with (go_at_call 149;refine hi.mono ?_;rintro e w1 ⟨rfl,rfl⟩)
  go_ret
  exact⟨rfl,rfl⟩
theorem lcut_none (s:ByteArray)(w:World)(h:Lib.indexByte s.data.toList 47 = -1):Calls Tryz.prog 115 #[.string s,.string ⟨#[47]⟩] w fun e w'=>e=.returned (.tuple #[.string s,.string ⟨#[]⟩,.bool false])/\w'=w:=by
 have hi:=index_slash s w
 rw[h] at hi
 go_enter Tryz.func115,Tryz.ntmps115
 go_wp2_with (go_at_call 148;refine hi.mono ?_;rintro e w1 ⟨rfl,rfl⟩)
 exact bodyPost_ret (v:=.tuple #[.string s,.string ⟨#[]⟩,.bool false]) (by simp[results,Tryz.results115,go_sem]) rfl ⟨rfl,rfl⟩
theorem lcut_some (s:ByteArray)(k:Nat)(w:World)(h:Lib.indexByte s.data.toList 47=(k:Int))(hk:k<s.size)(hm:s.size<=1000):Calls Tryz.prog 115 #[.string s,.string ⟨#[47]⟩] w fun e w'=>e=.returned (.tuple #[.string (s.extract 0 k),.string (s.extract (k+1) s.size),.bool true])/\Below w.heap.size w w':=by
 have hi:=index_slash s w
 rw[h] at hi
 have hw:IntKind.i64.wrap ((k:Int)+1)=(k:Int)+1:=by rw[IntKind.wrap_i64] <;> omega
 have hk0:(0:Int)<=k:=by omega
 go_enter Tryz.func115,Tryz.ntmps115
 go_wp2_with (go_at_call 148;refine hi.mono ?_;rintro e w1 ⟨rfl,rfl⟩)
 go_region
 all_goals
  go_wp2
  exact bodyPost_ret (v:=.tuple #[.string (s.extract 0 k),.string (s.extract (k+1) s.size),.bool true]) (by simp[results,Tryz.results115,go_sem]) rfl ⟨rfl,below_drew (Below.refl _ _)⟩
theorem cut_walk (s a b:ByteArray)(c:Bool)(w:World)(h:Calls Tryz.prog 115 #[.string s,.string ⟨#[47]⟩] w fun e w'=>e=.returned (.tuple #[.string a,.string b,.bool c])/\Below w.heap.size w w'):
  Calls Tryz.prog 72 #[.string s,.string ⟨#[47]⟩] w fun e w'=>e=.returned (.tuple #[.string a,.string b,.bool c])/\Below w.heap.size w w':=by
 go_enter Tryz.func72,Tryz.ntmps72
 go_wp2_with (go_at_call 115;refine h.mono ?_;rintro e w1 ⟨rfl,hb⟩)
 exact bodyPost_ret (v:=.tuple #[.string a,.string b,.bool c]) (by simp[results,Tryz.results72,go_sem]) rfl ⟨rfl,hb⟩
theorem index_first:∀ (a b:List UInt8),(∀ c ∈ a,c≠47)->Lib.indexByte (a++47 :: b) 47=(a.length:Int)
 | [],b,_=>by simp[Lib.indexByte]
 | c :: r,b,h=>by
  have ih:=index_first r b (fun d hd=>h d (List.mem_cons_of_mem _ hd))
  have hc:c≠47:=h c (List.mem_cons_self ..)
  rw[List.cons_append,Lib.indexByte,ih,if_neg (by simpa using hc),if_neg (by simp)]
  simp
theorem index_absent:∀ (a:List UInt8),(∀ c ∈ a,c≠47)->Lib.indexByte a 47 = -1
 | [],_=>rfl
 | c :: r,h=>by
  have ih:=index_absent r (fun d hd=>h d (List.mem_cons_of_mem _ hd))
  have hc:c≠47:=h c (List.mem_cons_self ..)
  rw[Lib.indexByte,ih,if_neg (by simpa using hc)]
  rfl
theorem name_no47 {x:ByteArray}(h:validB x=true):∀ c ∈ toL x,c≠47:=by
 have h2:Lib.indexByte (toL x) 47<0:=by
  unfold validB at h
  simp only[Bool.and_eq_true,decide_eq_true_eq] at h
  exact h.2
 have h3:=Lib.indexByte_ge (toL x) 47
 intro c hc e
 obtain⟨k,hk,hke⟩:=List.getElem_of_mem hc
 exact Lib.indexByte_none (l:=toL x) (c:=47) (by omega) k (by rw[List.getElem?_eq_getElem hk,hke,e])
theorem joinB_cons (x:ByteArray){r:List ByteArray}(h:r ≠ []):toL (joinB (x :: r))=toL x++47 :: toL (joinB r):=by
 show (joinL ((x :: r).map toL)).toArray.toList=_
 rw[List.map_cons,joinL_cons _ (by simpa using h)]
 rfl
theorem joinB_one (x:ByteArray):joinB [x]=x:=toL_inj rfl
theorem joinB_nil:joinB []=⟨#[]⟩:=rfl
theorem extract_toL (s:ByteArray)(a b:Nat):toL (s.extract a b)=((toL s).take b).drop a:=by
 unfold toL
 simp[ByteArray.data_extract,List.drop_take]
theorem cut_any (x:ByteArray)(r:List ByteArray)(hx:validB x=true)(hm:(joinB (x :: r)).size<=1000)(w:World):
  Calls Tryz.prog 72 #[.string (joinB (x :: r)),.string ⟨#[47]⟩] w fun e w'=>e=.returned (.tuple #[.string x,.string (joinB r),.bool (!r.isEmpty)])/\Below w.heap.size w w':=by
 cases r with
 | nil=>
  rw[joinB_one,joinB_nil]
  exact cut_walk _ _ _ _ w ((lcut_none x w (index_absent _ (name_no47 hx))).mono fun e w' ⟨h1,h2⟩=>⟨h1,by rw[h2];exact Below.refl _ _⟩)
 | cons y t=>
  have h1:=joinB_cons x (r:=y :: t) (by simp)
  have h2:Lib.indexByte (toL (joinB (x :: y :: t))) 47=((toL x).length:Int):=by rw[h1];exact index_first _ _ (name_no47 hx)
  have h3:(joinB (x :: y :: t)).size=(toL x).length+1+(toL (joinB (y :: t))).length:=by rw[<- toL_len,h1,List.length_append,List.length_cons];omega
  have h4:=lcut_some (joinB (x :: y :: t)) (toL x).length w h2 (by omega) hm
  have e1:(joinB (x :: y :: t)).extract 0 (toL x).length=x:=toL_inj (by rw[extract_toL,h1,List.take_left,List.drop_zero])
  have e2:(joinB (x :: y :: t)).extract ((toL x).length+1) (joinB (x :: y :: t)).size=joinB (y :: t):=toL_inj (by
   rw[extract_toL,List.take_of_length_le (by rw[toL_len];exact Nat.le_refl _),h1,show toL x++47 :: toL (joinB (y :: t))=(toL x ++ [47])++toL (joinB (y :: t)) by simp]
   exact List.drop_left' (by simp))
  rw[e1,e2] at h4
  exact cut_walk _ _ _ _ w h4
theorem join_size:∀ {l:List ByteArray},Valids l->(joinB l).size<=13*l.length
 | [],_=>by simp[joinB_nil,ByteArray.size]
 | [x],h=>by
  rw[joinB_one]
  have:=(valid_size (h x (by simp))).2
  simp;omega
 | x :: y :: t,h=>by
  have h1:=joinB_cons x (r:=y :: t) (by simp)
  have h2:=(valid_size (h x (by simp))).2
  have h3:=join_size (l:=y :: t) (fun z hz=>h z (by simp[hz]))
  have h4:(joinB (x :: y :: t)).size=(toL x).length+1+(toL (joinB (y :: t))).length:=by rw[<- toL_len,h1,List.length_append,List.length_cons];omega
  rw[h4,toL_len,toL_len]
  simp at h3 ⊢
  omega
end Go.Proofs.YtajopoddmfdejaaGreat
