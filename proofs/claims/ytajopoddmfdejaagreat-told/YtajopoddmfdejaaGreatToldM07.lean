/-
  What is proved here: Bytes, Clear, start of an opened file, and Read, walked over whatever Bytes answers. Write of a file: its bytes, written over from a place on, in memory of their own.
-/
import Derived.Test.YtajopoddmfdejaaGreatToldM06
import Derived.Test.YtajopoddmfdejaaGreatToldM03
import Derived.Lib.BufferWrite
import Derived.Laws.IdiomStrings
import Derived.OwnWalk
namespace Go.Proofs.YtajopoddmfdejaaGreat
open Go.RowKit
set_option linter.unusedVariables false
set_option maxRecDepth 100000 in
set_option maxHeartbeats 400000 in
theorem bytes_own (f:Nat)(d:ByteArray)(w:World)(c1:w.cell? ⟨f,1,none⟩=some (.int .i64 0))(c2:w.cell? ⟨f,2,none⟩=some (.string d)):
  Calls Tryz.prog 135 #[.pointer (some ⟨f,0,none⟩)] w fun e w'=>e=.returned (.tuple #[.string d,.int .i64 0])/\w'=w:=by
 go_enter Tryz.func135,Tryz.ntmps135
 go_wp2
 go_ret2
 exact⟨rfl,rfl⟩
set_option maxRecDepth 100000 in
set_option maxHeartbeats 400000 in
theorem bytes_get (f b:Nat)(id er:Int)(d:ByteArray)(R:World->Prop)(w:World)(hf:f<w.heap.size)(c0:w.cell? ⟨f,0,none⟩=some (.pointer (some ⟨b,0,none⟩)))(c1:w.cell? ⟨f,1,none⟩=some (.int .i64 id))(hid:id≠0)
  (hg:Calls Tryz.prog 157 #[.pointer (some ⟨b,0,none⟩),.int .i64 id] w.drew fun e w'=>e=.returned (.tuple #[.string d,.int .i64 er])/\R w'):
  Calls Tryz.prog 135 #[.pointer (some ⟨f,0,none⟩)] w fun e w'=>e=.returned (.tuple #[.string d,.int .i64 er])/\R w':=by
 have hid':(id == 0)=false:=by simpa using hid
 go_enter Tryz.func135,Tryz.ntmps135
 go_wp2
 go_region_with (go_at_call 157;refine hg.mono ?_;rintro e w1 ⟨rfl,hR⟩)
 all_goals
  go_wp2
  go_ret2
  exact⟨rfl,hR⟩
set_option maxRecDepth 100000 in
set_option maxHeartbeats 400000 in
theorem clear_walk (f:Nat)(x y z:Value)(w:World)(hf:f<w.heap.size)(c0:w.cell? ⟨f,0,none⟩=some x)(c1:w.cell? ⟨f,1,none⟩=some y)(c2:w.cell? ⟨f,2,none⟩=some z)(f0:∀ o,w.frozen? ⟨f,o,none⟩=false)
  (hc:(convert 228 9 (.slice none 0 0)).run Tryz.prog w=.ok (.string ⟨#[]⟩) w):
  Calls Tryz.prog 133 #[.pointer (some ⟨f,0,none⟩)] w fun e w'=>e=.returned (.tuple #[])/\w'=((w.setCell ⟨f,0,none⟩ (.pointer none)).setCell ⟨f,1,none⟩ (.int .i64 0)).setCell ⟨f,2,none⟩ (.string ⟨#[]⟩):=by
 have hs:=set_walk f (.slice none 0 0) ⟨#[]⟩ x y z w hf c0 c1 c2 f0 hc
 go_enter Tryz.func133,Tryz.ntmps133
 go_wp2_with (go_at_call 156;refine hs.mono ?_;rintro e w1 ⟨rfl,rfl⟩)
 go_end0
 exact⟨rfl,rfl⟩
set_option maxRecDepth 100000 in
set_option maxHeartbeats 400000 in
theorem start_at (o:Nat)(fg pl n:Int)(w:World)(c1:w.cell? ⟨o,1,none⟩=some (.int .i64 fg))(c2:w.cell? ⟨o,2,none⟩=some (.int .i64 pl))(hand:(bits BinOp.and IntKind.i64 fg 32 != 0)=false):
  Calls Tryz.prog 134 #[.pointer (some ⟨o,0,none⟩),.int .i64 n] w fun e w'=>e=.returned (.int .i64 pl)/\w'=w:=by
 go_enter Tryz.func134,Tryz.ntmps134
 go_wp2
 go_ret
 exact⟨rfl,rfl⟩
set_option maxRecDepth 100000 in
set_option maxHeartbeats 400000 in
theorem read_ok (o f:Nat)(fg pl n:Int)(d:ByteArray)(R:World->Prop)(w:World)(c0:w.cell? ⟨o,0,none⟩=some (.pointer (some ⟨f,0,none⟩)))(c1:w.cell? ⟨o,1,none⟩=some (.int .i64 fg))(c2:w.cell? ⟨o,2,none⟩=some (.int .i64 pl))
  (hfg:(bits BinOp.and IntKind.i64 fg 1 == 0)=false)(hn:1<=n)(h0:0<=pl)(h1:pl<256)(hd:d.size<=256)
  (hg:Calls Tryz.prog 135 #[.pointer (some ⟨f,0,none⟩)] w fun e w'=>e=.returned (.tuple #[.string d,.int .i64 0])/\R w')
  (hR:∀ w1,R w1->o<w1.heap.size/\w1.cell? ⟨o,2,none⟩=some (.int .i64 pl)/\w1.frozen? ⟨o,2,none⟩=false):
  Calls Tryz.prog 107 #[.pointer (some ⟨o,0,none⟩),.int .i64 n] w fun e w'=>e=.returned (.tuple #[.string (d.extract (min pl.toNat d.size) (min (min pl.toNat d.size+(min n (256-pl)).toNat) d.size)),.int .i64 0])/\∃ w1,R w1/\w'=w1.setCell ⟨o,2,none⟩ (.int .i64 (pl+(d.extract (min pl.toNat d.size) (min (min pl.toNat d.size+(min n (256-pl)).toNat) d.size)).size)):=by
 have hnn:¬ n<0:=by omega
 obtain⟨m,hm⟩:∃ m,m=min n (256-pl):=⟨_,rfl⟩
 have hm0:(m == 0)=false:=by simp;omega
 have hwm:IntKind.i64.wrap (256-pl)=256-pl:=by rw[IntKind.wrap_i64] <;> omega
 go_enter Tryz.func107,Tryz.ntmps107
 go_wp2_with (go_at_call 135;refine hg.mono ?_;rintro e w1 ⟨rfl,hR1⟩;obtain⟨k0,k2,kf⟩:=hR w1 hR1)
 go_ret2
 have e1:(min pl (d.size:Int)).toNat=min pl.toNat d.size:=by omega
 have e2:(min (min pl (d.size:Int)+min n (256-pl)) (d.size:Int)).toNat=min (min pl.toNat d.size+(min n (256-pl)).toNat) d.size:=by omega
 have e3:(min (min (min pl (d.size:Int)+min n (256-pl)) (d.size:Int)).toNat d.size-(min pl (d.size:Int)).toNat:Nat)=(d.extract (min pl.toNat d.size) (min (min pl.toNat d.size+(min n (256-pl)).toNat) d.size)).size:=by
  rw[ByteArray.size_extract,<- e2,<- e1]
 rw[e3,e1,e2]
 exact⟨rfl,w1,hR1,rfl⟩
end Go.Proofs.YtajopoddmfdejaaGreat
namespace Go.Proofs.YtajopoddmfdejaaGreat
open Go.RowKit
set_option linter.unusedVariables false
def writeL (old d:List UInt8)(a:Nat):List UInt8:=(old++List.replicate (max old.length (a+d.length)-old.length) 0).take a++d++(old++List.replicate (max old.length (a+d.length)-old.length) 0).drop (a+d.length)
def writeB (old d:ByteArray)(a:Nat):ByteArray:=⟨(writeL old.data.toList d.data.toList a).toArray⟩
theorem writeL_length (old d:List UInt8)(a:Nat):(writeL old d a).length=max old.length (a+d.length):=by
 unfold writeL;simp;omega
def setFile (w:World)(f:Nat)(d:ByteArray):World:=((w.setCell ⟨f,0,none⟩ (.pointer none)).setCell ⟨f,1,none⟩ (.int .i64 0)).setCell ⟨f,2,none⟩ (.string d)
theorem infoU8:(Tryz.prog.info? 5).map (fun i=>(i.zero,i.size,i.bytes))=some (some (.int .u8 0),1,1):=by kernel_rfl
theorem infoU8s:(Tryz.prog.info? 5).map (·.size)=some 1:=by kernel_rfl
theorem wpList_copyS {P:Program}{w:World}{ops:Array Oper}{rest:List Oper}{o:Oper}{a:Act}{Q:Exit->Act->World->Prop}(hgd:o.guard=none)(d x:Operand)(dT sT:TypeId)
  (ho:o.op=.call { callee:=.builtin .copy,args:=#[d,x],argTypes:=#[dT,sT] })(elem:TypeId)(hu:P.underlying dT=some (.slice elem))(hsz:(P.info? elem).map (·.size)=some 1)
  (g off dLen dCap:Nat)(s:ByteArray)(hd:a.eval d=.slice (some ⟨g,off,none⟩) dLen dCap)(hs:a.eval x=.string s)
  (cur:Array Value)(t:TypeId)(hg:w.heap[g]? = some (.cells cur t (0,0)))(hle:s.size<=dLen)(hfit:off+s.size<=cur.size)
  (new:Array Value)(hnew:new.toList=cur.toList.take off++Lib.byteCells s.data.toList++cur.toList.drop (off+s.size))
  (h:∀ w',Hid (w'.heap[g]? = some (.cells new t (0,0)))->w.grownBy w' (some g)->wpList P ops Q rest (a.put o.dst (goInt s.size)) w'):wpList P ops Q (o :: rest) a w:=by
 refine wpList_plain hgd fun K hK=>?_
 have hrun:=Lib.run_copy_row_string (P:=P) w dT sT o.type elem g off dLen dCap s cur t hu hsz hg hle hfit
 rw[<- hnew,Array.toArray_toList] at hrun
 unfold Oper.wp
 simp[execOp,ho,resolve,invoke,builtin,hd,hs,hrun,Result.andThen]
 exact hK _ _ (h _ (setRow_heap w g _ _ t _ hg) ⟨rfl,rfl,rfl,by simp,fun k hk hne=>setRow_other w g k _ (fun e=>hne (by rw[e]))⟩)
theorem made_bytes {w:World}{g n:Nat}(h:w.ownsRow 0 5 1 (.slice (some ⟨g,0,none⟩) n n) n (madeCells (Value.int .u8 0).cells (n*1)).toList):∃ cur,Hid (w.heap[g]? = some (.cells cur 5 (0,0)))/\Hid (cur.toList=Lib.byteCells (List.replicate n 0)):=by
 rcases h.2 with ⟨h0,_⟩ | ⟨g',cap',cur,hv,_,hg,_,_,hcur,htk⟩
 ·cases h0
 ·cases hv
  refine⟨cur,hg,?_⟩
  show cur.toList=_
  have e1:(madeCells (Value.int .u8 0).cells (n*1)).toList=List.replicate n (Value.int .u8 0):=by rw[Nat.mul_one];exact toList_madeCells_one _ n
  rw[e1] at htk
  have e2:cur.toList.take (n*1)=cur.toList:=List.take_of_length_le (by rw[Array.length_toList,hcur];exact Nat.le_refl _)
  rw[e2] at htk
  rw[htk,Lib.byteCells,List.map_replicate];rfl
theorem grown_self {w w2 w3:World}(hb:Below w.heap.size w w2)(h:w2.grownBy w3 (some w.heap.size)):Hid (Below w.heap.size w w3):=hb.grown h hb.size (fun k hk=>by cases hk;exact Nat.le_refl _)
theorem bytes_row {w:World}{g:Nat}{l:List UInt8}(h:w.heap[g]? = some (.cells (Lib.byteCells l).toArray 5 (0,0)))(cap:Nat):(convert 228 9 (.slice (some ⟨g,0,none⟩) l.length cap)).run Tryz.prog w=.ok (.string ⟨l.toArray⟩) w:=
 run_convert_bytes_back w 228 9 5 ⟨g,0,none⟩ cap l Tryz.underlying228 Tryz.underlying5 Tryz.underlying9 (fun j hj=>by
  have h2:(⟨g,0,none⟩:Addr).add j=⟨g,j,none⟩:=by unfold Addr.add;split <;> simp_all
  rw[h2]
  simp[World.cell?,h,Lib.byteCells,hj])
theorem row_first {old:List UInt8}{n:Nat}(h:old.length<=n):Lib.byteCells (old++List.replicate (n-old.length) 0)=(Lib.byteCells (List.replicate n 0)).take 0++Lib.byteCells old++(Lib.byteCells (List.replicate n 0)).drop (0+old.length):=by
 simp[Lib.byteCells]
theorem row_next (l d:List UInt8)(a:Nat):Lib.byteCells (l.take a++d++l.drop (a+d.length))=(Lib.byteCells l).take a++Lib.byteCells d++(Lib.byteCells l).drop (a+d.length):=by
 simp[Lib.byteCells,List.map_take,List.map_drop]
theorem file_keep {w1 w4:World}(hb:Below w1.heap.size w1 w4){f:Nat}(hR:f<w1.heap.size/\(∃ x y z,w1.cell? ⟨f,0,none⟩=some x/\w1.cell? ⟨f,1,none⟩=some y/\w1.cell? ⟨f,2,none⟩=some z)/\∀ o,w1.frozen? ⟨f,o,none⟩=false):
  f<w4.heap.size/\(∃ x y z,w4.cell? ⟨f,0,none⟩=some x/\w4.cell? ⟨f,1,none⟩=some y/\w4.cell? ⟨f,2,none⟩=some z)/\∀ o,w4.frozen? ⟨f,o,none⟩=false:=by
 obtain⟨h1,⟨x,y,z,h2,h3,h4⟩,h5⟩:=hR
 have hbk:=hb.block f h1
 have hc:=fun o=>World.cell?_of_block (a:=⟨f,o,none⟩) hbk
 have hz:=fun o=>World.frozen?_of_block (a:=⟨f,o,none⟩) hbk
 exact⟨Nat.lt_of_lt_of_le h1 hb.size,⟨x,y,z,(hc 0).trans h2,(hc 1).trans h3,(hc 2).trans h4⟩,fun o=>(hz o).trans (h5 o)⟩
theorem set_any {w1 w4:World}{f:Nat}{l:List UInt8}(cap:Nat)(hb:Below w1.heap.size w1 w4)(hR:f<w1.heap.size/\(∃ x y z,w1.cell? ⟨f,0,none⟩=some x/\w1.cell? ⟨f,1,none⟩=some y/\w1.cell? ⟨f,2,none⟩=some z)/\∀ o,w1.frozen? ⟨f,o,none⟩=false){g:Nat}(h:w4.heap[g]? = some (.cells (Lib.byteCells l).toArray 5 (0,0))):
  Calls Tryz.prog 156 #[.pointer (some ⟨f,0,none⟩),.slice (some ⟨g,0,none⟩) l.length cap] w4 fun e w'=>e=.returned (.tuple #[])/\w'=setFile w4 f ⟨l.toArray⟩:=by
 obtain⟨k1,⟨x,y,z,k2,k3,k4⟩,k5⟩:=file_keep hb hR
 exact set_walk f _ ⟨l.toArray⟩ x y z w4 k1 k2 k3 k4 k5 (bytes_row h cap)
set_option maxRecDepth 100000 in
set_option maxHeartbeats 1000000 in
theorem fwrite_walk (f a:Nat)(old d:ByteArray)(R:World->Prop)(w:World)(hd0:1<=d.size)(h256:a+d.size<=256)(ho:old.size<=256)
  (hg:Calls Tryz.prog 135 #[.pointer (some ⟨f,0,none⟩)] w fun e w'=>e=.returned (.tuple #[.string old,.int .i64 0])/\R w')
  (hR:∀ w1,R w1->f<w1.heap.size/\(∃ x y z,w1.cell? ⟨f,0,none⟩=some x/\w1.cell? ⟨f,1,none⟩=some y/\w1.cell? ⟨f,2,none⟩=some z)/\∀ o,w1.frozen? ⟨f,o,none⟩=false):
  Calls Tryz.prog 136 #[.pointer (some ⟨f,0,none⟩),.int .i64 (a:Int),.string d] w fun e w'=>e=.returned (.int .i64 0)/\∃ w1 w2,R w1/\Below w1.heap.size w1 w2/\w'=setFile w2 f (writeB old d a):=by
 obtain⟨n,hn⟩:∃ n:Nat,n=max old.size (a+d.size):=⟨_,rfl⟩
 have hmx:max (old.size:Int) ((a:Int)+(d.size:Int))=(n:Int):=by omega
 have hn2:n<=256:=by omega
 have han:a<n:=by omega
 have hon:old.size<=n:=by omega
 have hdn:a+d.size<=n:=by omega
 obtain⟨i0,hi,hz0,hz1,hz2⟩:=info_parts infoU8
 obtain⟨l1,hl1⟩:∃ l1:List UInt8,l1=old.data.toList++List.replicate (n-old.size) 0:=⟨_,rfl⟩
 have HL1:Hid _:=hl1
 obtain⟨l2,hl2⟩:∃ l2:List UInt8,l2=writeL old.data.toList d.data.toList a:=⟨_,rfl⟩
 have HL2:Hid _:=hl2
 have hl2n:l2.length=n:=by rw[hl2,writeL_length,hn,Lib.size_eq,Lib.size_eq]
 have HN:Hid (n=max old.size (a+d.size)):=hn
 have HR:Hid _:=hR
 clear hl1 hl2 hn hR
 go_enter Tryz.func136,Tryz.ntmps136
 go_wp2_with (first
  | (go_at_call 135;refine hg.mono ?_;rintro e w1 ⟨rfl,hR1⟩;have HR1:Hid _:=hR1;clear hR1)
  | (at_make;go_loud (refine wpList_make_full _ rfl _ _ 228 rfl 0 5 i0 _ 1 Tryz.underlying228 hi hz0 hz1 .i64 .i64 _ _ n rfl rfl rfl rfl ?_ ?_ (Nat.zero_le _) ?_;go_must (rw[hz2];omega);go_must (unfold maxLen;omega);intro w3 hown3 hg3;obtain⟨cur,HB,HCS⟩:=made_bytes hown3;have HB3:Hid (Below w1.heap.size w1 w3):=grown_none (Below.refl _ _) hg3;clear hown3 hg3))
  | (refine wpList_copyS rfl (.tmp 26) (.tmp 27) 228 9 rfl 5 Tryz.underlying228 infoU8s w1.heap.size 0 n n old rfl rfl cur 5 HB.out hon ?_ (Lib.byteCells l1).toArray ?_ ?_;go_must (rw[<- Array.length_toList,HCS.out,Lib.byteCells_length,List.length_replicate];omega);go_must (rw[HCS.out,HL1.out,Lib.size_eq];exact row_first (by rw[<- Lib.size_eq];exact hon));intro w4 H4 hg4;have HB4:=grown_self HB3.out hg4;clear hg4)
  | (refine wpList_copyS rfl (.tmp 31) (.tmp 32) 228 9 rfl 5 Tryz.underlying228 infoU8s w1.heap.size a (n-a) (n-a) d rfl rfl (Lib.byteCells l1).toArray 5 H4.out ?_ ?_ (Lib.byteCells l2).toArray ?_ ?_;go_must (omega);go_must (rw[List.size_toArray,Lib.byteCells_length,HL1.out,List.length_append,List.length_replicate,<- Lib.size_eq];omega);go_must (rw[HL2.out,HL1.out,writeL,Lib.size_eq,Lib.size_eq,HN.out,Lib.size_eq,Lib.size_eq];exact row_next _ _ _);intro w5 H5 hg5;have HB5:=grown_self HB4.out hg5;clear hg5)
  | (go_at_call 156;go_loud (rw[<- hl2n];refine (set_any _ HB5.out (HR.out _ HR1.out) H5.out).mono ?_;rintro e w6 ⟨rfl,rfl⟩)))
 go_ret
 exact⟨rfl,w1,w5,HR1.out,HB5.out,by unfold writeB;rw[<- HL2.out]⟩
end Go.Proofs.YtajopoddmfdejaaGreat
