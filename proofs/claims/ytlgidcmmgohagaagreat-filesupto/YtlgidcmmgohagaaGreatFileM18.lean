/- What is proved here: Bytes. -/
import Derived.Test.YtlgidcmmgohagaaGreatFileM17
import Derived.Test.YtlgidcmmgohagaaGreatFileM01
import Derived.Lib.BufferWrite
import Derived.Laws.IdiomStrings
import Derived.OwnWalk
import Derived.Test.YtlgidcmmgohagaaGreatFileM06
namespace Go.Proofs.YtlgidcmmgohagaaGreat
open Go.RowKit
set_option linter.unusedVariables false
set_option maxRecDepth 100000 in
set_option maxHeartbeats 400000 in
theorem bytes_own (f:Nat)(d:ByteArray)(w:World)(c1:w.cell? ⟨f,1,none⟩=some (.int .i64 0))(c2:w.cell? ⟨f,2,none⟩=some (.string d)):
  Calls Tryz.prog 181 #[.pointer (some ⟨f,0,none⟩)] w fun e w'=>e=.returned (.tuple #[.string d,.int .i64 0])/\w'=w:=by
 go_enter Tryz.func181,Tryz.ntmps181;go_wp2;go_ret2;exact⟨rfl,rfl⟩
set_option maxRecDepth 100000 in
set_option maxHeartbeats 400000 in
theorem bytes_get (f b:Nat)(id er:Int)(d:ByteArray)(R:World->Prop)(w:World)(hf:f<w.heap.size)(c0:w.cell? ⟨f,0,none⟩=some (.pointer (some ⟨b,0,none⟩)))(c1:w.cell? ⟨f,1,none⟩=some (.int .i64 id))(hid:id≠0)
  (hg:Calls Tryz.prog 213 #[.pointer (some ⟨b,0,none⟩),.int .i64 id] w.drew fun e w'=>e=.returned (.tuple #[.string d,.int .i64 er])/\R w'):
  Calls Tryz.prog 181 #[.pointer (some ⟨f,0,none⟩)] w fun e w'=>e=.returned (.tuple #[.string d,.int .i64 er])/\R w':=by
 have hid':(id == 0)=false:=by simpa using hid
 go_enter Tryz.func181,Tryz.ntmps181;go_wp2
 go_region_with (go_at_call 213;refine hg.mono ?_;rintro e w1 ⟨rfl,hR⟩)
 all_goals
  go_wp2;go_ret2;exact⟨rfl,hR⟩
set_option maxRecDepth 100000 in
set_option maxHeartbeats 400000 in
theorem clear_walk (f:Nat)(x y z:Value)(w:World)(hf:f<w.heap.size)(c0:w.cell? ⟨f,0,none⟩=some x)(c1:w.cell? ⟨f,1,none⟩=some y)(c2:w.cell? ⟨f,2,none⟩=some z)(f0:∀o,w.frozen? ⟨f,o,none⟩=false)
  (hc:(convert 204 9 (.slice none 0 0)).run Tryz.prog w=.ok (.string ⟨#[]⟩) w):
  Calls Tryz.prog 179 #[.pointer (some ⟨f,0,none⟩)] w fun e w'=>e=.returned (.tuple #[])/\w'=((w.setCell ⟨f,0,none⟩ (.pointer none)).setCell ⟨f,1,none⟩ (.int .i64 0)).setCell ⟨f,2,none⟩ (.string ⟨#[]⟩):=by
 have hs:=set_walk f (.slice none 0 0) ⟨#[]⟩ x y z w hf c0 c1 c2 f0 hc;go_enter Tryz.func179,Tryz.ntmps179;go_wp2_with (go_at_call 212;refine hs.mono ?_;rintro e w1 ⟨rfl,rfl⟩);go_end0;exact⟨rfl,rfl⟩
set_option maxRecDepth 100000 in
set_option maxHeartbeats 400000 in
theorem start_at (o:Nat)(fg pl n:Int)(w:World)(c1:w.cell? ⟨o,1,none⟩=some (.int .i64 fg))(c2:w.cell? ⟨o,2,none⟩=some (.int .i64 pl))(hand:(bits BinOp.and IntKind.i64 fg 32 != 0)=false):
  Calls Tryz.prog 180 #[.pointer (some ⟨o,0,none⟩),.int .i64 n] w fun e w'=>e=.returned (.int .i64 pl)/\w'=w:=by
 go_enter Tryz.func180,Tryz.ntmps180;go_wp2;go_ret;exact⟨rfl,rfl⟩
set_option maxRecDepth 100000 in
set_option maxHeartbeats 400000 in
theorem read_ok (o f:Nat)(fg pl n:Int)(d:ByteArray)(R:World->Prop)(w:World)(c0:w.cell? ⟨o,0,none⟩=some (.pointer (some ⟨f,0,none⟩)))(c1:w.cell? ⟨o,1,none⟩=some (.int .i64 fg))(c2:w.cell? ⟨o,2,none⟩=some (.int .i64 pl))
  (hfg:(bits BinOp.and IntKind.i64 fg 1 == 0)=false)(hn:1<=n)(h0:0<=pl)(h1:pl<256)(hd:d.size<=256)
  (hg:Calls Tryz.prog 181 #[.pointer (some ⟨f,0,none⟩)] w fun e w'=>e=.returned (.tuple #[.string d,.int .i64 0])/\R w')
  (hR:∀w1,R w1->o<w1.heap.size/\w1.cell? ⟨o,2,none⟩=some (.int .i64 pl)/\w1.frozen? ⟨o,2,none⟩=false):
  Calls Tryz.prog 125 #[.pointer (some ⟨o,0,none⟩),.int .i64 n] w fun e w'=>e=.returned (.tuple #[.string (d.extract (min pl.toNat d.size) (min (min pl.toNat d.size+(min n (256-pl)).toNat) d.size)),.int .i64 0])/\∃w1,R w1/\w'=w1.setCell ⟨o,2,none⟩ (.int .i64 (pl+(d.extract (min pl.toNat d.size) (min (min pl.toNat d.size+(min n (256-pl)).toNat) d.size)).size)):=by
 have hnn:¬n<0:=by omega
 obtain⟨m,hm⟩:∃m,m=min n (256-pl):=⟨_,rfl⟩;have hm0:(m == 0)=false:=by simp;omega
 have hwm:IntKind.i64.wrap (256-pl)=256-pl:=by rw[IntKind.wrap_i64] <;> omega
 go_enter Tryz.func125,Tryz.ntmps125;go_wp2_with (go_at_call 181;refine hg.mono ?_;rintro e w1 ⟨rfl,hR1⟩;obtain⟨k0,k2,kf⟩:=hR w1 hR1);go_ret2;have e1:(min pl (d.size:Int)).toNat=min pl.toNat d.size:=by omega
 have e2:(min (min pl (d.size:Int)+min n (256-pl)) (d.size:Int)).toNat=min (min pl.toNat d.size+(min n (256-pl)).toNat) d.size:=by omega
 have e3:(min (min (min pl (d.size:Int)+min n (256-pl)) (d.size:Int)).toNat d.size-(min pl (d.size:Int)).toNat:Nat)=(d.extract (min pl.toNat d.size) (min (min pl.toNat d.size+(min n (256-pl)).toNat) d.size)).size:=by
  rw[ByteArray.size_extract,<-e2,<-e1]
 rw[e3,e1,e2];exact⟨rfl,w1,hR1,rfl⟩
end Go.Proofs.YtlgidcmmgohagaaGreat
namespace Go.Proofs.YtlgidcmmgohagaaGreat
open Go.RowKit
set_option linter.unusedVariables false
def writeL (old d:List UInt8)(a:Nat):List UInt8:=(old++List.replicate (max old.length (a+d.length)-old.length) 0).take a++d++(old++List.replicate (max old.length (a+d.length)-old.length) 0).drop (a+d.length)
def writeB (old d:ByteArray)(a:Nat):ByteArray:=⟨(writeL old.data.toList d.data.toList a).toArray⟩
theorem writeL_length (old d:List UInt8)(a:Nat):(writeL old d a).length=max old.length (a+d.length):=by
 unfold writeL;simp;omega
def setFile (w:World)(f:Nat)(d:ByteArray):World:=((w.setCell ⟨f,0,none⟩ (.pointer none)).setCell ⟨f,1,none⟩ (.int .i64 0)).setCell ⟨f,2,none⟩ (.string d)
theorem infoU8:(Tryz.prog.info? 5).map (fun i=>(i.zero,i.size,i.bytes))=some (some (.int .u8 0),1,1):=by kernel_rfl
theorem infoU8s:(Tryz.prog.info? 5).map (·.size)=some 1:=by kernel_rfl
theorem wpList_copyS {P:Program}{w:World}{ops:Array Oper}{rest:List Oper}{o:Oper}{a:Act}{Q:Exit->Act->World->Prop}(hgd:o.guard=none)(d x:Operand)(dT sT:TypeId)
  (ho:o.op=.call { callee:=.builtin .copy,args:=#[d,x],argTypes:=#[dT,sT] })(elem:TypeId)(hu:P.underlying dT=some (.slice elem))(hsz:(P.info? elem).map (·.size)=some 1)
  (g off dLen dCap:Nat)(s:ByteArray)(hd:a.eval d=.slice (some ⟨g,off,none⟩) dLen dCap)(hs:a.eval x=.string s)
  (cur:Array Value)(t:TypeId)(hg:w.heap[g]? = some (.cells cur t (0,0)))(hle:s.size<=dLen)(hfit:off+s.size<=cur.size)
  (new:Array Value)(hnew:new.toList=cur.toList.take off++Lib.byteCells s.data.toList++cur.toList.drop (off+s.size))
  (h:∀w',Hid (w'.heap[g]? = some (.cells new t (0,0)))->w.grownBy w' (some g)->wpList P ops Q rest (a.put o.dst (goInt s.size)) w'):wpList P ops Q (o :: rest) a w:=by
 refine wpList_plain hgd fun K hK=>?_;have hrun:=Lib.run_copy_row_string (P:=P) w dT sT o.type elem g off dLen dCap s cur t hu hsz hg hle hfit;rw[<-hnew,Array.toArray_toList] at hrun;unfold Oper.wp;simp[execOp,ho,resolve,invoke,builtin,hd,hs,hrun,Result.andThen];exact hK _ _ (h _ (setRow_heap w g _ _ t _ hg) ⟨rfl,rfl,rfl,by simp,fun k hk hne=>setRow_other w g k _ (fun e=>hne (by rw[e]))⟩)
theorem made_bytes {w:World}{g n:Nat}(h:w.ownsRow 0 5 1 (.slice (some ⟨g,0,none⟩) n n) n (madeCells (Value.int .u8 0).cells (n*1)).toList):∃cur,Hid (w.heap[g]? = some (.cells cur 5 (0,0)))/\Hid (cur.toList=Lib.byteCells (List.replicate n 0)):=by
 rcases h.2 with ⟨h0,_⟩ | ⟨g',cap',cur,hv,_,hg,_,_,hcur,htk⟩
 ·cases h0
 ·cases hv
  refine⟨cur,hg,?_⟩;show cur.toList=_;have e1:(madeCells (Value.int .u8 0).cells (n*1)).toList=List.replicate n (Value.int .u8 0):=by rw[Nat.mul_one];exact toList_madeCells_one _ n
  rw[e1] at htk;have e2:cur.toList.take (n*1)=cur.toList:=List.take_of_length_le (by rw[Array.length_toList,hcur];exact zzC _);rw[e2] at htk;rw[htk,Lib.byteCells,List.map_replicate];rfl
theorem grown_self {w w2 w3:World}(hb:Below w.heap.size w w2)(h:w2.grownBy w3 (some w.heap.size)):Hid (Below w.heap.size w w3):=hb.grown h hb.size (fun k hk=>by cases hk;exact zzC _)
theorem bytes_row {w:World}{g:Nat}{l:List UInt8}(h:w.heap[g]? = some (.cells (Lib.byteCells l).toArray 5 (0,0)))(cap:Nat):(convert 204 9 (.slice (some ⟨g,0,none⟩) l.length cap)).run Tryz.prog w=.ok (.string ⟨l.toArray⟩) w:=
 run_convert_bytes_back w 204 9 5 ⟨g,0,none⟩ cap l Tryz.underlying204 Tryz.underlying5 Tryz.underlying9 (fun j hj=>by
  have h2:(⟨g,0,none⟩:Addr).add j=⟨g,j,none⟩:=by unfold Addr.add;split <;> simp_all
  rw[h2]
  simp[World.cell?,h,Lib.byteCells,hj])
theorem row_first {old:List UInt8}{n:Nat}(h:old.length<=n):Lib.byteCells (old++List.replicate (n-old.length) 0)=(Lib.byteCells (List.replicate n 0)).take 0++Lib.byteCells old++(Lib.byteCells (List.replicate n 0)).drop (0+old.length):=by
 simp[Lib.byteCells]
theorem row_next (l d:List UInt8)(a:Nat):Lib.byteCells (l.take a++d++l.drop (a+d.length))=(Lib.byteCells l).take a++Lib.byteCells d++(Lib.byteCells l).drop (a+d.length):=by
 simp[Lib.byteCells,List.map_take,List.map_drop]
theorem file_keep {w1 w4:World}(hb:Below w1.heap.size w1 w4){f:Nat}(hR:f<w1.heap.size/\(∃x y z,w1.cell? ⟨f,0,none⟩=some x/\w1.cell? ⟨f,1,none⟩=some y/\w1.cell? ⟨f,2,none⟩=some z)/\∀o,w1.frozen? ⟨f,o,none⟩=false):
  f<w4.heap.size/\(∃x y z,w4.cell? ⟨f,0,none⟩=some x/\w4.cell? ⟨f,1,none⟩=some y/\w4.cell? ⟨f,2,none⟩=some z)/\∀o,w4.frozen? ⟨f,o,none⟩=false:=by
 obtain⟨h1,⟨x,y,z,h2,h3,h4⟩,h5⟩:=hR;have hbk:=hb.block f h1;have hc:=fun o=>World.cell?_of_block (a:=⟨f,o,none⟩) hbk;have hz:=fun o=>World.frozen?_of_block (a:=⟨f,o,none⟩) hbk;exact⟨zzA h1 hb.size,⟨x,y,z,(hc 0).trans h2,(hc 1).trans h3,(hc 2).trans h4⟩,fun o=>(hz o).trans (h5 o)⟩
theorem set_any {w1 w4:World}{f:Nat}{l:List UInt8}(cap:Nat)(hb:Below w1.heap.size w1 w4)(hR:f<w1.heap.size/\(∃x y z,w1.cell? ⟨f,0,none⟩=some x/\w1.cell? ⟨f,1,none⟩=some y/\w1.cell? ⟨f,2,none⟩=some z)/\∀o,w1.frozen? ⟨f,o,none⟩=false){g:Nat}(h:w4.heap[g]? = some (.cells (Lib.byteCells l).toArray 5 (0,0))):
  Calls Tryz.prog 212 #[.pointer (some ⟨f,0,none⟩),.slice (some ⟨g,0,none⟩) l.length cap] w4 fun e w'=>e=.returned (.tuple #[])/\w'=setFile w4 f ⟨l.toArray⟩:=by
 obtain⟨k1,⟨x,y,z,k2,k3,k4⟩,k5⟩:=file_keep hb hR;exact set_walk f _ ⟨l.toArray⟩ x y z w4 k1 k2 k3 k4 k5 (bytes_row h cap)
set_option maxRecDepth 100000 in
set_option maxHeartbeats 1000000 in
theorem fwrite_walk (f a:Nat)(old d:ByteArray)(R:World->Prop)(w:World)(hd0:1<=d.size)(h256:a+d.size<=256)(ho:old.size<=256)
  (hg:Calls Tryz.prog 181 #[.pointer (some ⟨f,0,none⟩)] w fun e w'=>e=.returned (.tuple #[.string old,.int .i64 0])/\R w')
  (hR:∀w1,R w1->f<w1.heap.size/\(∃x y z,w1.cell? ⟨f,0,none⟩=some x/\w1.cell? ⟨f,1,none⟩=some y/\w1.cell? ⟨f,2,none⟩=some z)/\∀o,w1.frozen? ⟨f,o,none⟩=false):
  Calls Tryz.prog 182 #[.pointer (some ⟨f,0,none⟩),.int .i64 (a:Int),.string d] w fun e w'=>e=.returned (.int .i64 0)/\∃w1 w2,R w1/\Below w1.heap.size w1 w2/\w'=setFile w2 f (writeB old d a):=by
 obtain⟨n,hn⟩:∃n:Nat,n=max old.size (a+d.size):=⟨_,rfl⟩;have hmx:max (old.size:Int) ((a:Int)+(d.size:Int))=(n:Int):=by omega
 have hn2:n<=256:=by omega
 have han:a<n:=by omega
 have hon:old.size<=n:=by omega
 have hdn:a+d.size<=n:=by omega
 obtain⟨i0,hi,hz0,hz1,hz2⟩:=info_parts infoU8;obtain⟨l1,hl1⟩:∃l1:List UInt8,l1=old.data.toList++List.replicate (n-old.size) 0:=⟨_,rfl⟩;have HL1:Hid _:=hl1;obtain⟨l2,hl2⟩:∃l2:List UInt8,l2=writeL old.data.toList d.data.toList a:=⟨_,rfl⟩;have HL2:Hid _:=hl2;have hl2n:l2.length=n:=by rw[hl2,writeL_length,hn,Lib.size_eq,Lib.size_eq]
 have HN:Hid (n=max old.size (a+d.size)):=hn;have HR:Hid _:=hR;clear hl1 hl2 hn hR;go_enter Tryz.func182,Tryz.ntmps182;go_wp2_with (first
  | (go_at_call 181;refine hg.mono ?_;rintro e w1 ⟨rfl,hR1⟩;have HR1:Hid _:=hR1;clear hR1)
  | (at_make;go_loud (refine wpList_make_full _ rfl _ _ 204 rfl 0 5 i0 _ 1 Tryz.underlying204 hi hz0 hz1 .i64 .i64 _ _ n rfl rfl rfl rfl ?_ ?_ (zzF _) ?_;go_must (rw[hz2];omega);go_must (unfold maxLen;omega);intro w3 hown3 hg3;obtain⟨cur,HB,HCS⟩:=made_bytes hown3;have HB3:Hid (Below w1.heap.size w1 w3):=grown_none (Below.refl _ _) hg3;clear hown3 hg3))
  | (refine wpList_copyS rfl (.tmp 26) (.tmp 27) 204 9 rfl 5 Tryz.underlying204 infoU8s w1.heap.size 0 n n old rfl rfl cur 5 HB.out hon ?_ (Lib.byteCells l1).toArray ?_ ?_;go_must (rw[<-Array.length_toList,HCS.out,Lib.byteCells_length,List.length_replicate];omega);go_must (rw[HCS.out,HL1.out,Lib.size_eq];exact row_first (by rw[<-Lib.size_eq];exact hon));intro w4 H4 hg4;have HB4:=grown_self HB3.out hg4;clear hg4)
  | (refine wpList_copyS rfl (.tmp 31) (.tmp 32) 204 9 rfl 5 Tryz.underlying204 infoU8s w1.heap.size a (n-a) (n-a) d rfl rfl (Lib.byteCells l1).toArray 5 H4.out ?_ ?_ (Lib.byteCells l2).toArray ?_ ?_;go_must (omega);go_must (rw[List.size_toArray,Lib.byteCells_length,HL1.out,List.length_append,List.length_replicate,<-Lib.size_eq];omega);go_must (rw[HL2.out,HL1.out,writeL,Lib.size_eq,Lib.size_eq,HN.out,Lib.size_eq,Lib.size_eq];exact row_next _ _ _);intro w5 H5 hg5;have HB5:=grown_self HB4.out hg5;clear hg5)
  | (go_at_call 212;go_loud (rw[<-hl2n];refine (set_any _ HB5.out (HR.out _ HR1.out) H5.out).mono ?_;rintro e w6 ⟨rfl,rfl⟩)))
 go_ret;exact⟨rfl,w1,w5,HR1.out,HB5.out,by unfold writeB;rw[<-HL2.out]⟩
end Go.Proofs.YtlgidcmmgohagaaGreat
namespace Go.Proofs.YtlgidcmmgohagaaGreat
open Go.RowKit
set_option linter.unusedVariables false
def startF (fg pl n:Int):Int:=if (bits BinOp.and IntKind.i64 fg 32 != 0)=true then n else pl
theorem some_bytes {d:ByteArray}(h:1<=d.size):(d.toList == [])=false:=by
 cases hl:d.toList with
 | nil=>
  rw[ByteArray.toList_eq] at hl;have h2:d.size=0:=by rw[Lib.size_eq,hl];rfl
  omega
 | cons x r=>rfl
theorem start_any (o:Nat)(fg pl n:Int)(w:World)(c1:w.cell? ⟨o,1,none⟩=some (.int .i64 fg))(c2:w.cell? ⟨o,2,none⟩=some (.int .i64 pl)):
  Calls Tryz.prog 180 #[.pointer (some ⟨o,0,none⟩),.int .i64 n] w fun e w'=>e=.returned (.int .i64 (startF fg pl n))/\w'=w:=by
 unfold startF;cases h:(bits BinOp.and IntKind.i64 fg 32 != 0) with
 | true=>exact start_app o fg pl n w c1 h
 | false=>exact start_at o fg pl n w c1 c2 h
set_option maxRecDepth 100000 in
set_option maxHeartbeats 400000 in
theorem write_none (o:Nat)(fg:Int)(w:World)(c1:w.cell? ⟨o,1,none⟩=some (.int .i64 fg))(hfg:(bits BinOp.and IntKind.i64 fg 2 == 0)=false):
  Calls Tryz.prog 123 #[.pointer (some ⟨o,0,none⟩),.string ⟨#[]⟩] w fun e w'=>e=.returned (.int .i64 0)/\w'=w:=by
 go_enter Tryz.func123,Tryz.ntmps123;go_wp2;go_ret;exact⟨rfl,rfl⟩
set_option maxRecDepth 100000 in
set_option maxHeartbeats 400000 in
theorem write_ok (o f:Nat)(fg pl a:Int)(old d:ByteArray)(R S:World->Prop)(w:World)(c0:w.cell? ⟨o,0,none⟩=some (.pointer (some ⟨f,0,none⟩)))(c1:w.cell? ⟨o,1,none⟩=some (.int .i64 fg))(c2:w.cell? ⟨o,2,none⟩=some (.int .i64 pl))
  (hfg:(bits BinOp.and IntKind.i64 fg 2 == 0)=false)(hd:1<=d.size)(h0:0<=startF fg pl 0)(h1:startF fg pl 0+d.size<=256)(ha:startF fg pl old.size=a)(ha0:0<=a)(ha1:a+d.size<=256)
  (hg:Calls Tryz.prog 181 #[.pointer (some ⟨f,0,none⟩)] w fun e w'=>e=.returned (.tuple #[.string old,.int .i64 0])/\R w')
  (hR:∀w1,R w1->w1.cell? ⟨o,0,none⟩=some (.pointer (some ⟨f,0,none⟩))/\w1.cell? ⟨o,1,none⟩=some (.int .i64 fg)/\w1.cell? ⟨o,2,none⟩=some (.int .i64 pl))
  (hw:∀w1,R w1->Calls Tryz.prog 182 #[.pointer (some ⟨f,0,none⟩),.int .i64 a,.string d] w1 fun e w'=>e=.returned (.int .i64 0)/\S w')
  (hS:∀w2,S w2->o<w2.heap.size/\w2.cell? ⟨o,2,none⟩=some (.int .i64 pl)/\w2.frozen? ⟨o,2,none⟩=false):
  Calls Tryz.prog 123 #[.pointer (some ⟨o,0,none⟩),.string d] w fun e w'=>e=.returned (.int .i64 0)/\∃w2,S w2/\w'=w2.setCell ⟨o,2,none⟩ (.int .i64 (a+d.size)):=by
 have hst:=start_any o fg pl 0 w c1 c2;have hst2:=fun w1 (h:R w1)=>start_any o fg pl old.size w1 (hR w1 h).2.1 (hR w1 h).2.2;simp only[ha] at hst2;generalize startF fg pl 0=s0 at hst h0 h1;have hd':=some_bytes hd;have hw1:IntKind.i64.wrap (s0+d.size)=s0+d.size:=by rw[IntKind.wrap_i64] <;> omega
 have hgt:¬256<s0+(d.size:Int):=by omega
 have hw2:IntKind.i64.wrap (a+d.size)=a+d.size:=by rw[IntKind.wrap_i64] <;> omega
 have hgt2:¬256<a+(d.size:Int):=by omega
 have HR:Hid _:=hR;have HW:Hid _:=hw;have HS:Hid _:=hS;have HST2:Hid _:=hst2;clear hR hw hS hst2;go_enter Tryz.func123,Tryz.ntmps123;go_wp2_with (first
  | (go_at_call_of 180 (Value.int .i64 0);refine hst.mono ?_;rintro e w1 ⟨rfl,rfl⟩)
  | (go_at_call 181;refine hg.mono ?_;rintro e w1 ⟨rfl,hR1⟩;obtain⟨k0,k1,k2⟩:=HR.out w1 hR1;have HR1:Hid _:=hR1;clear hR1)
  | (go_at_call 180;refine (HST2.out _ HR1.out).mono ?_;rintro e w2 ⟨rfl,rfl⟩)
  | (go_at_call 182;refine (HW.out _ HR1.out).mono ?_;rintro e w3 ⟨rfl,hS3⟩;obtain⟨m0,m1,m2⟩:=HS.out w3 hS3))
 go_ret;exact⟨rfl,w3,hS3,rfl⟩
end Go.Proofs.YtlgidcmmgohagaaGreat
namespace Go.Proofs.YtlgidcmmgohagaaGreat
open Go.RowKit
set_option linter.unusedVariables false
def TabAt (w:World)(b:Nat)(vs:Nat->Option Nat):Prop:=b<w.heap.size/\(∀k,k<8->w.cell? ⟨b,1+k,none⟩=some (.pointer ((vs k).map fun x=>⟨x,0,none⟩)))/\∀o,w.frozen? ⟨b,o,none⟩=false
theorem eq_opened (x:Nat)(W:World):(binOp .eql 86 (.pointer none) (.pointer (some ⟨x,0,none⟩))).run Tryz.prog W=.ok (.bool false) W:=by kernel_rfl
theorem eq_opened' (x:Nat)(W:World):(binOp .eql 86 (.pointer (some ⟨x,0,none⟩)) (.pointer none)).run Tryz.prog W=.ok (.bool false) W:=by kernel_rfl
set_option maxRecDepth 100000 in
set_option maxHeartbeats 400000 in
theorem index_free (b k:Nat)(vs:Nat->Option Nat)(w:World)(h:TabAt w b vs)(hk:k<8)(h0:vs k=none)(h1:∀j,j<k->vs j≠none):
  Calls Tryz.prog 176 #[.slice (some ⟨b,1,none⟩) 8 8,.pointer none] w fun e w'=>e=.returned (.int .i64 (k:Int))/\w'=w:=by
 obtain⟨hb,hc,_⟩:=h;have HC:Hid _:=hc;have H1:Hid _:=h1;have H0:Hid _:=h0;clear hc h1 h0;go_enter Tryz.func176,Tryz.ntmps176;go_wp2
 go_loopw [8] (fun i wr=>∃j:Nat,j<=k/\i=.int .i64 (j:Int)/\wr=w) (fun i _=>k-(intOf i).toNat)
 case atStart=>exact⟨0,zzF _,rfl,rfl⟩
 case round=>
  obtain⟨j,hj,rfl,rfl⟩:=hrel;have hj8:j<8:=by omega
  have hcj:=HC.out j hj8;have hj8':(j:Int)<8:=by omega
  by_cases he:j=k
  ·subst he
   rw[H0.out,Option.map_none] at hcj;go_wp2;go_ret;exact⟨rfl,rfl⟩
  ·cases hv:vs j with
   | none=>exact absurd hv (H1.out j (by omega))
   | some x=>
    rw[hv,Option.map_some] at hcj;have hq:∀W,(binOp .eql 86 (.pointer none) (.pointer (some ⟨x,0,none⟩))).run Tryz.prog W=.ok (.bool false) W:=eq_opened x;go_wp2;go_roundw
    case rel=>exact⟨j+1,by omega,by go_num,trivial⟩
    case measure=>simp[intOf];omega
set_option maxRecDepth 100000 in
set_option maxHeartbeats 400000 in
theorem free_walk (b k:Nat)(vs:Nat->Option Nat)(w:World)(h:TabAt w b vs)(hk:k<8)(h0:vs k=none)(h1:∀j,j<k->vs j≠none):
  Calls Tryz.prog 119 #[.pointer (some ⟨b,1,none⟩)] w fun e w'=>e=.returned (.tuple #[.int .i64 (k:Int),.int .i64 0])/\w'=w:=by
 have hi:=index_free b k vs w h hk h0 h1;have hk0:¬(k:Int)<0:=by omega
 clear h h0 h1;go_enter Tryz.func119,Tryz.ntmps119;go_wp2_with (go_at_call 176;refine hi.mono ?_;rintro e w1 ⟨rfl,rfl⟩);go_ret2;exact⟨rfl,rfl⟩
set_option maxRecDepth 100000 in
set_option maxHeartbeats 400000 in
theorem tput_walk (b k f:Nat)(fg:Int)(x:Value)(w:World)(hb:b<w.heap.size)(hc:w.cell? ⟨b,1+k,none⟩=some x)(hfz:w.frozen? ⟨b,1+k,none⟩=false)(hk:k<8):
  Calls Tryz.prog 121 #[.pointer (some ⟨b,1,none⟩),.int .i64 (k:Int),.pointer (some ⟨f,0,none⟩),.int .i64 fg] w fun e w'=>e=.returned (.tuple #[])/\w'=(w.setCell ⟨b,1+k,none⟩ (.pointer (some ⟨w.heap.size,0,none⟩))).alloc (.cells #[.pointer (some ⟨f,0,none⟩),.int .i64 fg,.int .i64 0] 277):=by
 have hk8:(k:Int)<8:=by omega
 go_enter Tryz.func121,Tryz.ntmps121;go_wp2;go_end0;exact⟨rfl,rfl⟩
set_option maxRecDepth 100000 in
set_option maxHeartbeats 400000 in
theorem tat_some (b k x:Nat)(w:World)(hc:w.cell? ⟨b,1+k,none⟩=some (.pointer (some ⟨x,0,none⟩)))(hk:k<8):
  Calls Tryz.prog 122 #[.pointer (some ⟨b,1,none⟩),.int .i64 (k:Int)] w fun e w'=>e=.returned (.tuple #[.pointer (some ⟨x,0,none⟩),.int .i64 0])/\w'=w:=by
 have hk8:(k:Int)<8:=by omega
 have hk0:¬(k:Int)<0:=by omega
 have hq:=eq_opened' x;go_enter Tryz.func122,Tryz.ntmps122;go_wp2;go_ret2;exact⟨rfl,rfl⟩
set_option maxRecDepth 100000 in
set_option maxHeartbeats 400000 in
theorem tclose_some (b k x:Nat)(w:World)(hb:b<w.heap.size)(hc:w.cell? ⟨b,1+k,none⟩=some (.pointer (some ⟨x,0,none⟩)))(hfz:w.frozen? ⟨b,1+k,none⟩=false)(hk:k<8):
  Calls Tryz.prog 124 #[.pointer (some ⟨b,1,none⟩),.int .i64 (k:Int)] w fun e w'=>e=.returned (.int .i64 0)/\w'=w.setCell ⟨b,1+k,none⟩ (.pointer none):=by
 have hk8:(k:Int)<8:=by omega
 have hk0:¬(k:Int)<0:=by omega
 have hat:=tat_some b k x w hc hk;go_enter Tryz.func124,Tryz.ntmps124;go_wp2_with (go_at_call 122;refine hat.mono ?_;rintro e w1 ⟨rfl,rfl⟩);go_ret;exact⟨rfl,rfl⟩
end Go.Proofs.YtlgidcmmgohagaaGreat
namespace Go.Proofs.YtlgidcmmgohagaaGreat
open Go.RowKit Go.Sort Go.Shelf
set_option linter.unusedVariables false
set_option maxRecDepth 100000
set_option maxHeartbeats 16000000
def joinB (l:List ByteArray):ByteArray:=⟨(joinL (l.map toL)).toArray⟩
theorem index_slash (s:ByteArray)(w:World):Calls Tryz.prog 215 #[.string s,.string ⟨#[47]⟩] w fun e w'=>e=.returned (.int .i64 (Lib.indexByte s.data.toList 47))/\w'=w:=by
 by_cases hs:s=⟨#[47]⟩
 ·subst hs
  go_enter Tryz.func215,Tryz.ntmps215;go_wp2;go_ret;exact⟨rfl,rfl⟩
 ·have hq:([47] == s.toList)=false:=by
   cases h:([47] == s.toList) with
   | false=>rfl
   | true=>
    have h2:[47]=s.toList:=by simpa using h
    rw[ByteArray.toList_eq] at h2;exact absurd (bytes_inj (a:=⟨#[47]⟩) h2).symm hs
  have hi:=Tryz.stringslite_IndexByte s 47 w;rw[show ((47:Int).toNat.toUInt8)=47 from rfl] at hi;generalize Lib.indexByte s.data.toList 47=k at hi ⊢;go_enter Tryz.func215,Tryz.ntmps215;go_wp2_with (go_at_call 216;refine hi.mono ?_;rintro e w1 ⟨rfl,rfl⟩);go_ret;exact⟨rfl,rfl⟩
theorem lcut_none (s:ByteArray)(w:World)(h:Lib.indexByte s.data.toList 47 = -1):Calls Tryz.prog 184 #[.string s,.string ⟨#[47]⟩] w fun e w'=>e=.returned (.tuple #[.string s,.string ⟨#[]⟩,.bool false])/\w'=w:=by
 have hi:=index_slash s w;rw[h] at hi;go_enter Tryz.func184,Tryz.ntmps184;go_wp2_with (go_at_call 215;refine hi.mono ?_;rintro e w1 ⟨rfl,rfl⟩);exact bodyPost_ret (v:=.tuple #[.string s,.string ⟨#[]⟩,.bool false]) (by simp[results,Tryz.results184,go_sem]) rfl ⟨rfl,rfl⟩
theorem lcut_some (s:ByteArray)(k:Nat)(w:World)(h:Lib.indexByte s.data.toList 47=(k:Int))(hk:k<s.size)(hm:s.size<=1000):Calls Tryz.prog 184 #[.string s,.string ⟨#[47]⟩] w fun e w'=>e=.returned (.tuple #[.string (s.extract 0 k),.string (s.extract (k+1) s.size),.bool true])/\Below w.heap.size w w':=by
 have hi:=index_slash s w;rw[h] at hi;have hw:IntKind.i64.wrap ((k:Int)+1)=(k:Int)+1:=by rw[IntKind.wrap_i64] <;> omega
 have hk0:(0:Int)<=k:=by omega
 go_enter Tryz.func184,Tryz.ntmps184;go_wp2_with (go_at_call 215;refine hi.mono ?_;rintro e w1 ⟨rfl,rfl⟩)
 go_region
 all_goals
  go_wp2;exact bodyPost_ret (v:=.tuple #[.string (s.extract 0 k),.string (s.extract (k+1) s.size),.bool true]) (by simp[results,Tryz.results184,go_sem]) rfl ⟨rfl,below_drew (Below.refl _ _)⟩
theorem cut_walk (s a b:ByteArray)(c:Bool)(w:World)(h:Calls Tryz.prog 184 #[.string s,.string ⟨#[47]⟩] w fun e w'=>e=.returned (.tuple #[.string a,.string b,.bool c])/\Below w.heap.size w w'):
  Calls Tryz.prog 128 #[.string s,.string ⟨#[47]⟩] w fun e w'=>e=.returned (.tuple #[.string a,.string b,.bool c])/\Below w.heap.size w w':=by
 go_enter Tryz.func128,Tryz.ntmps128;go_wp2_with (go_at_call 184;refine h.mono ?_;rintro e w1 ⟨rfl,hb⟩);exact bodyPost_ret (v:=.tuple #[.string a,.string b,.bool c]) (by simp[results,Tryz.results128,go_sem]) rfl ⟨rfl,hb⟩
theorem index_first:∀(a b:List UInt8),(∀c ∈ a,c≠47)->Lib.indexByte (a++47 :: b) 47=(a.length:Int)
 | [],b,_=>by simp[Lib.indexByte]
 | c :: r,b,h=>by
  have ih:=index_first r b (fun d hd=>h d (List.mem_cons_of_mem _ hd))
  have hc:c≠47:=h c (List.mem_cons_self ..)
  rw[List.cons_append,Lib.indexByte,ih,zzB (by simpa using hc),zzB (by simp)]
  simp
theorem index_absent:∀(a:List UInt8),(∀c ∈ a,c≠47)->Lib.indexByte a 47 = -1
 | [],_=>rfl
 | c :: r,h=>by
  have ih:=index_absent r (fun d hd=>h d (List.mem_cons_of_mem _ hd))
  have hc:c≠47:=h c (List.mem_cons_self ..)
  rw[Lib.indexByte,ih,zzB (by simpa using hc)]
  rfl
theorem name_no47 {x:ByteArray}(h:validB x=true):∀c ∈ toL x,c≠47:=by
 have h2:Lib.indexByte (toL x) 47<0:=by
  unfold validB at h;simp only[Bool.and_eq_true,decide_eq_true_eq] at h;exact h.2
 have h3:=Lib.indexByte_ge (toL x) 47;intro c hc e;obtain⟨k,hk,hke⟩:=List.getElem_of_mem hc;exact Lib.indexByte_none (l:=toL x) (c:=47) (by omega) k (by rw[zzH hk,hke,e])
theorem joinB_cons (x:ByteArray){r:List ByteArray}(h:r ≠ []):toL (joinB (x :: r))=toL x++47 :: toL (joinB r):=by
 show (joinL ((x :: r).map toL)).toArray.toList=_;rw[List.map_cons,joinL_cons _ (by simpa using h)];rfl
theorem joinB_one (x:ByteArray):joinB [x]=x:=toL_inj rfl
theorem joinB_nil:joinB []=⟨#[]⟩:=rfl
theorem extract_toL (s:ByteArray)(a b:Nat):toL (s.extract a b)=((toL s).take b).drop a:=by
 unfold toL;simp[ByteArray.data_extract,List.drop_take]
theorem cut_any (x:ByteArray)(r:List ByteArray)(hx:validB x=true)(hm:(joinB (x :: r)).size<=1000)(w:World):
  Calls Tryz.prog 128 #[.string (joinB (x :: r)),.string ⟨#[47]⟩] w fun e w'=>e=.returned (.tuple #[.string x,.string (joinB r),.bool (!r.isEmpty)])/\Below w.heap.size w w':=by
 cases r with
 | nil=>
  rw[joinB_one,joinB_nil];exact cut_walk _ _ _ _ w ((lcut_none x w (index_absent _ (name_no47 hx))).mono fun e w' ⟨h1,h2⟩=>⟨h1,by rw[h2];exact Below.refl _ _⟩)
 | cons y t=>
  have h1:=joinB_cons x (r:=y :: t) (by simp);have h2:Lib.indexByte (toL (joinB (x :: y :: t))) 47=((toL x).length:Int):=by rw[h1];exact index_first _ _ (name_no47 hx)
  have h3:(joinB (x :: y :: t)).size=(toL x).length+1+(toL (joinB (y :: t))).length:=by rw[<-toL_len,h1,List.length_append,List.length_cons];omega
  have h4:=lcut_some (joinB (x :: y :: t)) (toL x).length w h2 (by omega) hm;have e1:(joinB (x :: y :: t)).extract 0 (toL x).length=x:=toL_inj (by rw[extract_toL,h1,List.take_left,List.drop_zero]);have e2:(joinB (x :: y :: t)).extract ((toL x).length+1) (joinB (x :: y :: t)).size=joinB (y :: t):=toL_inj (by
   rw[extract_toL,List.take_of_length_le (by rw[toL_len];exact zzC _),h1,show toL x++47 :: toL (joinB (y :: t))=(toL x ++ [47])++toL (joinB (y :: t)) by simp];exact List.drop_left' (by simp))
  rw[e1,e2] at h4;exact cut_walk _ _ _ _ w h4
theorem join_size:∀{l:List ByteArray},Valids l->(joinB l).size<=13*l.length
 | [],_=>by simp[joinB_nil,ByteArray.size]
 | [x],h=>by
  rw[joinB_one]
  have:=(valid_size (h x (by simp))).2
  simp;omega
 | x :: y :: t,h=>by
  have h1:=joinB_cons x (r:=y :: t) (by simp)
  have h2:=(valid_size (h x (by simp))).2
  have h3:=join_size (l:=y :: t) (fun z hz=>h z (by simp[hz]))
  have h4:(joinB (x :: y :: t)).size=(toL x).length+1+(toL (joinB (y :: t))).length:=by rw[<-toL_len,h1,List.length_append,List.length_cons];omega
  rw[h4,toL_len,toL_len]
  simp at h3 ⊢
  omega
def PathAt (w:World)(b:Nat)(l:List ByteArray):Prop:=b<w.heap.size/\∀k,k<5->w.cell? ⟨b,k,none⟩=some (.string (l.getD k ⟨#[]⟩))/\w.frozen? ⟨b,k,none⟩=false
theorem PathAt.keep {w w':World}{b:Nat}{l:List ByteArray}(h:PathAt w b l)(hb:Below w.heap.size w w'):PathAt w' b l:=
 ⟨zzA h.1 hb.size,fun k hk=>⟨((bcell hb).1 b k h.1).trans (h.2 k hk).1,((bcell hb).2 b k h.1).trans (h.2 k hk).2⟩⟩
theorem PathAt.five {w:World}{b:Nat}{l:List ByteArray}(h:PathAt w b l):(w.cell? ⟨b,0,none⟩=some (.string (l.getD 0 ⟨#[]⟩))/\w.cell? ⟨b,1,none⟩=some (.string (l.getD 1 ⟨#[]⟩))/\w.cell? ⟨b,2,none⟩=some (.string (l.getD 2 ⟨#[]⟩))/\w.cell? ⟨b,3,none⟩=some (.string (l.getD 3 ⟨#[]⟩))/\w.cell? ⟨b,4,none⟩=some (.string (l.getD 4 ⟨#[]⟩)))/\∀k,k<5->w.frozen? ⟨b,k,none⟩=false:=
 ⟨⟨(h.2 0 (by omega)).1,(h.2 1 (by omega)).1,(h.2 2 (by omega)).1,(h.2 3 (by omega)).1,(h.2 4 (by omega)).1⟩,fun k hk=>(h.2 k hk).2⟩
theorem addr_ne {b c j k:Nat}(h:b≠c\/j≠k):(⟨b,j,none⟩:Addr)≠⟨c,k,none⟩:=fun e=>by
 simp only[Addr.mk.injEq,and_true] at e
 rcases h with h | h
 ·exact h e.1
 ·exact h e.2
theorem PathAt.put {w:World}{b j:Nat}{l m:List ByteArray}(h:PathAt w b l)(hm:∀k,k<5->k≠j->m.getD k ⟨#[]⟩=l.getD k ⟨#[]⟩)(h5:j<5):PathAt (w.setCell ⟨b,j,none⟩ (.string (m.getD j ⟨#[]⟩))) b m:=by
 refine⟨by simpa using h.1,fun k hk=>⟨?_,by rw[World.frozen?_setCell];exact (h.2 k hk).2⟩⟩;by_cases e:k=j
 ·subst e
  exact World.cell?_setCell_same _ _ _ (h.2 k hk).1
 ·rw[World.cell?_setCell_other _ _ _ _ (addr_ne (.inr (fun e'=>e e'.symm))),hm k hk e]
  exact (h.2 k hk).1
theorem PathAt.set {w:World}{b j:Nat}{l:List ByteArray}(h:PathAt w b (l.take j))(h5:j<5):PathAt (w.setCell ⟨b,j,none⟩ (.string (l.getD j ⟨#[]⟩))) b (l.take (j+1)):=by
 have:=h.put (m:=l.take (j+1)) (j:=j) (fun k hk hne=>?_) h5
 ·rwa [show (l.take (j+1)).getD j ⟨#[]⟩=l.getD j ⟨#[]⟩ by rw[List.getD_eq_getElem?_getD,List.getD_eq_getElem?_getD,List.getElem?_take,zzD (Nat.lt_succ_self _)]] at this
 ·rw[List.getD_eq_getElem?_getD,List.getD_eq_getElem?_getD,List.getElem?_take,List.getElem?_take]
  by_cases hk2:k<j
  ·rw[zzD hk2,zzD (by omega)]
  ·rw[zzB hk2,zzB (by omega)]
theorem PathAt.over {w:World}{b j:Nat}{l:List ByteArray}(h:PathAt w b l)(h5:j<5):PathAt (w.setCell ⟨b,j,none⟩ (.string (l.getD j ⟨#[]⟩))) b l:=h.put (fun _ _ _=>rfl) h5
theorem PathAt.other {w:World}{b c j:Nat}{l:List ByteArray}{v:Value}(h:PathAt w b l)(hc:c≠b):PathAt (w.setCell ⟨c,j,none⟩ v) b l:=
 ⟨by simpa using h.1,fun k hk=>⟨by rw[World.cell?_setCell_other _ _ _ _ (addr_ne (.inl hc))];exact (h.2 k hk).1,by rw[World.frozen?_setCell];exact (h.2 k hk).2⟩⟩
theorem five_cases {k:Nat}(h:k<5):k=0\/k=1\/k=2\/k=3\/k=4:=by omega
theorem PathAt.of_block {w:World}{b:Nat}(h:w.heap[b]? = some (.cells #[.string ⟨#[]⟩,.string ⟨#[]⟩,.string ⟨#[]⟩,.string ⟨#[]⟩,.string ⟨#[]⟩] 147 (0,0))):PathAt w b []:=by
 refine⟨(Array.getElem?_eq_some_iff.1 h).1,fun k hk=>?_⟩;rcases five_cases hk with rfl | rfl | rfl | rfl | rfl <;> simp[World.cell?,World.frozen?,h]
theorem path_new0 (w:World):PathAt ((w.alloc (.cells #[.string ⟨#[]⟩,.string ⟨#[]⟩,.string ⟨#[]⟩,.string ⟨#[]⟩,.string ⟨#[]⟩] 147)).alloc (.cells #[.string ⟨#[]⟩,.string ⟨#[]⟩,.string ⟨#[]⟩,.string ⟨#[]⟩,.string ⟨#[]⟩] 147)) w.heap.size []:=.of_block (heap_alloc2_old w _ _)
theorem path_new1 (w:World):PathAt ((w.alloc (.cells #[.string ⟨#[]⟩,.string ⟨#[]⟩,.string ⟨#[]⟩,.string ⟨#[]⟩,.string ⟨#[]⟩] 147)).alloc (.cells #[.string ⟨#[]⟩,.string ⟨#[]⟩,.string ⟨#[]⟩,.string ⟨#[]⟩,.string ⟨#[]⟩] 147)) (w.heap.size+1) []:=.of_block (heap_alloc2_new w _ _)
theorem parse_any (l:List ByteArray)(hl:Good l)(w:World):Calls Tryz.prog 69 #[.string (joinB l)] w fun e w'=>e=.returned (.tuple #[pathV l,.int .i64 0])/\Below w.heap.size w w':=by
 have hsz:=join_size hl.val;have h5:=hl.len;have hcut:∀j (hj:j<l.length) W,Calls Tryz.prog 128 #[.string (joinB (l.drop j)),.string ⟨#[47]⟩] W fun e w'=>e=.returned (.tuple #[.string (l.getD j ⟨#[]⟩),.string (joinB (l.drop (j+1))),.bool (decide (j+1<l.length))])/\Below W.heap.size W w':=by
  intro j hj W;have e1:l.drop j=l[j] :: l.drop (j+1):=List.drop_eq_getElem_cons hj;have hv:validB l[j]=true:=hl.val _ (zzJ hj);have hm:(joinB (l.drop j)).size<=1000:=by
   have:=join_size (l:=l.drop j) (fun x hx=>hl.val x (List.mem_of_mem_drop hx))
   have h2:(l.drop j).length<=5:=by rw[List.length_drop];omega
   omega
  rw[e1] at hm
  have:=cut_any l[j] (l.drop (j+1)) hv hm W
  rw[<-e1] at this;have e2:(!(l.drop (j+1)).isEmpty)=decide (j+1<l.length):=by
   by_cases h:j+1<l.length
   ·rw[decide_eq_true h,List.drop_eq_getElem_cons h];rfl
   ·rw[zzE h,List.drop_eq_nil_of_le (by omega)];rfl
  rw[e2] at this;rw[List.getD_eq_getElem?_getD,zzH hj,Option.getD_some];exact this
 have hval:∀j (hj:j<l.length) W,Calls Tryz.prog 129 #[.string (l.getD j ⟨#[]⟩)] W fun e w'=>e=.returned (.bool true)/\w'=W:=by
  intro j hj W;have hv:validB l[j]=true:=hl.val _ (zzJ hj);rw[List.getD_eq_getElem?_getD,zzH hj,Option.getD_some]
  have:=valid_any l[j] W (by have:=(valid_size hv).2;unfold maxLen;omega)
  rwa [hv] at this
 have hclo:∀j W,Calls Tryz.prog 130 #[.string (l.getD j ⟨#[]⟩)] W fun e w'=>e=.returned (.string (l.getD j ⟨#[]⟩))/\Below W.heap.size W w':=fun j W=>clone_any _ W (by
  rw[List.getD_eq_getElem?_getD];cases hj:l[j]? with
  | none=>simp[ByteArray.size]
  | some x=>
   have:=(valid_size (hl.val x (List.mem_of_getElem? hj))).2
   rw[Option.getD_some];omega)
 have hne:(!(joinB l).toList.isEmpty)=decide (0<l.length):=by
  rw[toL_eq]
  match l,hl with
  | [],_=>rfl
  | [x],hl=>
   have:=valid_ne (hl.val x (by simp))
   rw[toL_eq] at this;rw[joinB_one];cases h:toL x with
   | nil=>rw[h] at this;cases this
   | cons c r=>rfl
  | x :: y :: r,_=>
   rw[joinB_cons x (by simp)];simp
 have HCUT:Hid _:=hcut;have HVAL:Hid _:=hval;have HCLO:Hid _:=hclo;clear hcut hval hclo hsz;go_enter Tryz.func69,Tryz.ntmps69;go_wp2;have HA0:Hid (PathAt ((w.alloc (.cells #[.string ⟨#[]⟩,.string ⟨#[]⟩,.string ⟨#[]⟩,.string ⟨#[]⟩,.string ⟨#[]⟩] 147)).alloc (.cells #[.string ⟨#[]⟩,.string ⟨#[]⟩,.string ⟨#[]⟩,.string ⟨#[]⟩,.string ⟨#[]⟩] 147)) w.heap.size []):=path_new0 w;have HA1:Hid (PathAt ((w.alloc (.cells #[.string ⟨#[]⟩,.string ⟨#[]⟩,.string ⟨#[]⟩,.string ⟨#[]⟩,.string ⟨#[]⟩] 147)).alloc (.cells #[.string ⟨#[]⟩,.string ⟨#[]⟩,.string ⟨#[]⟩,.string ⟨#[]⟩,.string ⟨#[]⟩] 147)) (w.heap.size+1) []):=path_new1 w
 go_loopw [5,6,7] (fun r m i wr=>∃j:Nat,j<=l.length/\i=.int .i64 (j:Int)/\m=.bool (decide (j<l.length))/\r=.string (joinB (l.drop j))/\Below w.heap.size w wr/\Hid (PathAt wr w.heap.size [])/\Hid (PathAt wr (w.heap.size+1) (l.take j))) (fun _ _ i _=>l.length-(intOf i).toNat)
 case atStart=>exact⟨0,zzF _,rfl,rfl,rfl,((Below.refl _ _).alloc (zzC _) _).alloc (by simp) _,HA0.out,HA1.out⟩
 case round=>
  obtain⟨j,hj,rfl,rfl,rfl,hb,HP0,HP1⟩:=hrel;by_cases hlt:j<l.length
  ·rw[decide_eq_true hlt]
   have hj5:j<5:=by omega
   have hj5':((j:Int) == 5)=false:=by simp;omega
   have hji:(j:Int)<5:=by omega
   have hcj:=HCUT.out j hlt;have hvj:=HVAL.out j hlt;have hzz:w.heap.size+1<wr.heap.size:=HP1.out.1;generalize hm:decide (j+1<l.length)=more at hcj;have HM:Hid _:=hm;generalize hx:l.getD j ⟨#[]⟩=x at hcj hvj;have HX:Hid _:=hx;clear hm hx;go_wp2_with fail;refine Calls.mono (hcj wr) ?_;rintro e w1 ⟨rfl,hb1⟩;have hz1:w.heap.size+1<w1.heap.size:=zzA hzz hb1.size;have k1:=((HP1.out.keep hb1).2 j hj5);obtain⟨k1c,k1f⟩:=k1;generalize (l.take j).getD j ⟨#[]⟩=x0 at k1c;go_wp2_with (go_at_call 129;refine Calls.mono (hvj _) ?_;rintro e w2 ⟨rfl,rfl⟩);go_roundw
   case rel=>
    refine⟨j+1,by omega,by go_num,by rw[HM.out],rfl,?_,?_,?_⟩
    ·refine Below.setCell ?_ (by simp) _
     exact below_via hb hb1
    ·exact (HP0.out.keep hb1).other (by omega)
    ·rw[<-HX.out];exact (HP1.out.keep hb1).set hj5
   case measure=>simp[intOf];omega
  ·rw[zzE hlt]
   have hje:j=l.length:=by omega
   subst hje;rw[List.take_length] at HP1;rw[List.drop_length];go_wp2
   go_loopw [32] (fun i wr=>∃k:Nat,k<=5/\i=.int .i64 (k:Int)/\Below w.heap.size w wr/\Hid (PathAt wr w.heap.size [])/\Hid (PathAt wr (w.heap.size+1) l)) (fun i _=>5-(intOf i).toNat)
   case atStart=>exact⟨0,by omega,rfl,hb,HP0,HP1⟩
   case round=>
    obtain⟨k,hk,rfl,hb2,HQ0,HQ1⟩:=hrel;have hz0:w.heap.size<wr.heap.size:=HQ0.out.1;have hz1:w.heap.size+1<wr.heap.size:=HQ1.out.1;by_cases hk5:k<5
    ·have hki:(k:Int)<5:=by omega
     obtain⟨kc,kf⟩:=HQ1.out.2 k hk5;have hck:=HCLO.out k;generalize hx:l.getD k ⟨#[]⟩=x at hck kc;have HX:Hid _:=hx;clear hx;go_wp2_with fail;refine Calls.mono (hck wr) ?_;rintro e w1 ⟨rfl,hb1⟩;obtain⟨kc1,kf1⟩:=(HQ1.out.keep hb1).2 k hk5;rw[HX.out] at kc1;have hz2:w.heap.size+1<w1.heap.size:=zzA hz1 hb1.size;go_wp2;go_roundw
     case rel=>
      refine⟨k+1,by omega,by go_num,?_,?_,?_⟩
      ·refine Below.setCell ?_ (by simp) _
       exact below_via hb2 hb1
      ·exact (HQ0.out.keep hb1).other (by omega)
      ·rw[<-HX.out];exact (HQ1.out.keep hb1).over hk5
     case measure=>simp[intOf];omega
    ·have hki:¬(k:Int)<5:=by omega
     obtain⟨⟨p0,p1,p2,p3,p4⟩,pf⟩:=HQ1.out.five;obtain⟨⟨q0,q1,q2,q3,q4⟩,qf⟩:=HQ0.out.five;have qf0:=qf 0 (by omega);have qf1:=qf 1 (by omega);have qf2:=qf 2 (by omega);have qf3:=qf 3 (by omega);have qf4:=qf 4 (by omega);clear pf qf;obtain⟨s0,s1,s2,s3,s4,hP⟩:∃s0 s1 s2 s3 s4,pathA l = #[.string s0,.string s1,.string s2,.string s3,.string s4]:=⟨_,_,_,_,_,rfl⟩;simp only[pathA,Array.mk.injEq,List.cons.injEq,Value.string.injEq,and_true] at hP;obtain⟨e0,e1,e2,e3,e4⟩:=hP;rw[e0] at p0;rw[e1] at p1;rw[e2] at p2;rw[e3] at p3;rw[e4] at p4;have HE:Hid _:=And.intro e0 (And.intro e1 (And.intro e2 (And.intro e3 e4)));clear e0 e1 e2 e3 e4;simp only[List.getD_nil] at q0 q1 q2 q3 q4;have hv:pathV l=.agg #[.string s0,.string s1,.string s2,.string s3,.string s4]:=by
      unfold pathV pathA;rw[HE.out.1,HE.out.2.1,HE.out.2.2.1,HE.out.2.2.2.1,HE.out.2.2.2.2]
     go_wp2;exact bodyPost_ret (v:=.tuple #[.agg #[.string s0,.string s1,.string s2,.string s3,.string s4],.int .i64 0]) (by simp[results,Tryz.results69,go_sem,q0,q1,q2,q3,q4]) rfl ⟨rfl,by
      repeat (refine Below.setCell ?_ (by simp) _)
      exact hb2⟩
def letters:List ByteArray:=[⟨#[97]⟩,⟨#[98]⟩,⟨#[99]⟩,⟨#[100]⟩]
abbrev Tags:=Nat->Nat×Nat
def Fresh (tg:Tags)(w:World):Prop:=∀k,w.heap.size<=k->tg k=(0,0)
structure Moves (P:Nat×Nat->Prop)(tg tg':Tags)(w w':World):Prop where
 os:w'.os=w.os
 tape:w'.tape=w.tape
 output:w'.output=w.output
 size:w.heap.size<=w'.heap.size
 tags:∀k,k<w.heap.size->tg' k=tg k
 block:∀k,k<w.heap.size->¬P (tg k)->w'.heap[k]? = w.heap[k]?
 fresh:Fresh tg w->Fresh tg' w'
theorem Moves.refl (P:Nat×Nat->Prop)(tg:Tags)(w:World):Moves P tg tg w w:=⟨rfl,rfl,rfl,zzC _,fun _ _=>rfl,fun _ _ _=>rfl,id⟩
theorem Moves.of_below {P:Nat×Nat->Prop}{tg:Tags}{w w':World}(h:Below w.heap.size w w'):Moves P tg tg w w':=⟨h.os,h.tape,h.output,h.size,fun _ _=>rfl,fun k hk _=>h.block k hk,fun hf k hk=>hf k (zzG h.size hk)⟩
theorem Moves.trans {P:Nat×Nat->Prop}{tg tg' tg'':Tags}{w w' w'':World}(h:Moves P tg tg' w w')(k:Moves P tg' tg'' w' w''):Moves P tg tg'' w w'':=
 ⟨k.os.trans h.os,k.tape.trans h.tape,k.output.trans h.output,zzG h.size k.size,fun b hb=>(k.tags b (zzA hb h.size)).trans (h.tags b hb),
  fun b hb hP=>(k.block b (zzA hb h.size) (by rw[h.tags b hb];exact hP)).trans (h.block b hb hP),fun hf=>k.fresh (h.fresh hf)⟩
theorem Moves.mono {P P':Nat×Nat->Prop}{tg tg':Tags}{w w':World}(h:Moves P tg tg' w w')(hP:∀t,P t->P' t):Moves P' tg tg' w w':=
 ⟨h.os,h.tape,h.output,h.size,h.tags,fun k hk hn=>h.block k hk (fun hp=>hn (hP _ hp)),h.fresh⟩
def tagAt (tg:Tags)(b:Nat)(t:Nat×Nat):Tags:=fun k=>if k=b then t else tg k
theorem tagAt_same (tg:Tags)(b:Nat)(t:Nat×Nat):tagAt tg b t b=t:=by unfold tagAt;rw[zzD rfl]
theorem tagAt_other {tg:Tags}{b k:Nat}(h:k≠b)(t:Nat×Nat):tagAt tg b t k=tg k:=by unfold tagAt;rw[zzB h]
theorem Moves.at {P:Nat×Nat->Prop}{tg tg':Tags}{w w':World}(h:Moves P tg tg' w w'){b:Nat}{o:Obj}(hb:w.heap[b]? = some o){t:Nat×Nat}(ht:tg b=t)(hn:¬P t):w'.heap[b]? = some o/\tg' b=t:=by
 have hl:=(Array.getElem?_eq_some_iff.1 hb).1;exact⟨(h.block b hl (by rw[ht];exact hn)).trans hb,(h.tags b hl).trans ht⟩
def RowT (tg:Tags)(w:World)(t:Nat×Nat)(v:Value)(es:List Ent):Prop:=w.ownsRow 0 96 3 v es.length (flat es)/\∀g,v.ownBlock=some g->tg g=t
theorem RowT.keep {tg tg':Tags}{w w':World}{t:Nat×Nat}{v:Value}{es:List Ent}(h:RowT tg w t v es)(hk:∀g,v.ownBlock=some g->g<w.heap.size->w'.heap[g]? = w.heap[g]?/\tg' g=tg g):RowT tg' w' t v es:=
 ⟨ownsRow_keep h.1 (fun g hg=>(hk g hg (ownsRow_lt h.1 hg)).1),fun g hg=>((hk g hg (ownsRow_lt h.1 hg)).2).trans (h.2 g hg)⟩
theorem RowT.moves {P:Nat×Nat->Prop}{tg tg':Tags}{w w':World}{t:Nat×Nat}{v:Value}{es:List Ent}(h:RowT tg w t v es)(m:Moves P tg tg' w w')(hn:¬P t):RowT tg' w' t v es:=
 h.keep fun g hg hl=>⟨m.block g hl (by rw[h.2 g hg];exact hn),m.tags g hl⟩
def GotRow (tg:Tags)(w:World)(ft:PTail)(got:List Int):Prop:=w.ownsRow 0 29 1 (.slice ft.a ft.n ft.c) ft.n (got.map (Value.int .i64))/\ft.n=got.length/\∀g,(Value.slice ft.a ft.n ft.c).ownBlock=some g->tg g=(1,1)
structure SInv (tg:Tags)(w:World)(s p:Nat)(objs:List Ob)(got:List Int)(brk:Bool)(lim:Nat):Prop where
 fresh:Fresh tg w
 ex:∃ft:PTail,ft.b=brk/\InvP ft (fun k=>tg k=(1,0)) w s p objs/\GotRow tg w ft got/\Sound objs/\got.length<=lim
theorem SInv.sound {tg:Tags}{w:World}{s p:Nat}{objs:List Ob}{got:List Int}{brk:Bool}{lim:Nat}(h:SInv tg w s p objs got brk lim):Sound objs:=by
 obtain⟨_,ft,_,_,_,hs,_⟩:=h;exact hs
theorem row_base0 {w:World}{base:Nat}{e:TypeId}{size:Nat}{v:Value}{n:Nat}{xs:List Value}(h:w.ownsRow base e size v n xs):w.ownsRow 0 e size v n xs:=by
 obtain⟨h1,h2⟩:=h;refine⟨h1,?_⟩;rcases h2 with h | ⟨g,c,cur,hv,_,r⟩
 ·exact .inl h
 ·exact .inr ⟨g,c,cur,hv,zzF _,r⟩
theorem GotRow.moves {P:Nat×Nat->Prop}{tg tg':Tags}{w w':World}{ft:PTail}{got:List Int}(h:GotRow tg w ft got)(m:Moves P tg tg' w w')(hn:¬P (1,1)):GotRow tg' w' ft got:=
 ⟨ownsRow_keep h.1 (fun g hg=>m.block g (ownsRow_lt h.1 hg) (by rw[h.2.2 g hg];exact hn)),h.2.1,fun g hg=>(m.tags g (ownsRow_lt h.1 hg)).trans (h.2.2 g hg)⟩
theorem SInv.moves {P:Nat×Nat->Prop}{tg tg':Tags}{w w':World}{s p:Nat}{objs:List Ob}{got:List Int}{brk:Bool}{lim:Nat}(h:SInv tg w s p objs got brk lim)(m:Moves P tg tg' w w')(h0:¬P (1,0))(h1:¬P (1,1)):SInv tg' w' s p objs got brk lim:=by
 obtain⟨hf,ft,hb,hi,hg,hs,hl⟩:=h;exact⟨m.fresh hf,ft,hb,hi.keep (fun k hk hF=>m.block k hk (by rw[hF];exact h0)) (fun k hk hF=>(m.tags k hk).trans hF),hg.moves m h1,hs,hl⟩
theorem SInv.mono {tg:Tags}{w:World}{s p:Nat}{objs:List Ob}{got:List Int}{brk:Bool}{lim lim':Nat}(h:SInv tg w s p objs got brk lim)(hl:lim<=lim'):SInv tg w s p objs got brk lim':=by
 obtain⟨hf,ft,hb,hi,hg,hs,h⟩:=h;exact⟨hf,ft,hb,hi,hg,hs,zzG h hl⟩
theorem SInv.retag {tg tg':Tags}{w:World}{s p:Nat}{objs:List Ob}{got:List Int}{brk:Bool}{lim:Nat}(h:SInv tg w s p objs got brk lim)(hf:Fresh tg' w)(hk:∀k,(tg k).1=1->tg' k=tg k):SInv tg' w s p objs got brk lim:=by
 obtain⟨_,ft,hb,hi,hg,hs,hl⟩:=h;exact⟨hf,ft,hb,hi.keep (fun k _ _=>rfl) (fun k _ hF=>(hk k (by rw[hF])).trans hF),⟨hg.1,hg.2.1,fun g hgg=>(hk g (by rw[hg.2.2 g hgg])).trans (hg.2.2 g hgg)⟩,hs,hl⟩
structure WB where
 wb:Nat
 bt:Nat
 sF:Nat
 sD:Nat
 mF:Nat
 mD:Nat
 oF:Nat
 oD:Nat
structure WG where
 base:Int
 ft:FT
 fs:FS
 fl:Nat->Option (Int×ByteArray)
 op:Nat->Option (Nat×Nat×Int×Int)
def ptr (b:Nat):Value:=.pointer (some ⟨b,0,none⟩)
def opV (o:Option (Nat×Nat×Int×Int)):Value:=.pointer (o.map fun x=>⟨x.1,0,none⟩)
structure PTree (tg:Tags)(w:World)(i p:Nat)(B:WB)(base root:Int):Prop where
 tt:tg B.bt=(i,1)
 tF:tg B.sF=(i,1)
 tD:tg B.sD=(i,1)
 ht:w.heap[B.bt]? = some (.cells #[ptr p,ptr B.sF,ptr B.sD,.int .i64 base,.string ⟨#[]⟩,.int .i64 2,.int .i64 root,.map (some B.oF),.map (some B.oD)] 164 (0,0))
 hF:w.heap[B.sF]? = some (.cells #[.func (.func 115) #[ptr p] #[],.map (some B.mF)] 267 (0,0))
 hD:w.heap[B.sD]? = some (.cells #[.func (.func 117) #[ptr p] #[],.map (some B.mD)] 271 (0,0))
theorem PTree.moves {P:Nat×Nat->Prop}{tg tg':Tags}{w w':World}{i p:Nat}{B:WB}{base root:Int}(h:PTree tg w i p B base root)(m:Moves P tg tg' w w')(hn:¬P (i,1)):PTree tg' w' i p B base root:=by
 obtain⟨a1,b1⟩:=m.at h.ht h.tt hn;obtain⟨a2,b2⟩:=m.at h.hF h.tF hn;obtain⟨a3,b3⟩:=m.at h.hD h.tD hn;exact⟨b1,b2,b3,a1,a2,a3⟩
theorem VMap.moves {P:Nat×Nat->Prop}{tg tg':Tags}{w w':World}{k:TypeId}{b n:Nat}{M:Lit->Option Value}(h:VMap w k b n M)(m:Moves P tg tg' w w'){t:Nat×Nat}(ht:tg b=t)(hn:¬P t):VMap w' k b n M/\tg' b=t:=by
 have hl:=h.lt;exact⟨h.keep (m.block b hl (by rw[ht];exact hn)),(m.tags b hl).trans ht⟩
def idL (id:Int):Lit:=.int .i64 id
def KeptF (tg:Tags)(w:World)(i:Nat)(B:WB)(objs:List Ob)(kF:Int->Bool)(lim:Nat):Prop:=
 tg B.mF=(i,2)/\∃n M,n<=lim/\VMap w 29 B.mF n M/\(∀id,M (idL id)=if kF id then some (.string (bytesOf objs id)) else none)/\∀id,kF id=true->kindOf objs id=1
def KeptD (tg:Tags)(w:World)(i:Nat)(B:WB)(objs:List Ob)(kD:Int->Bool)(lim:Nat):Prop:=
 tg B.mD=(i,3)/\∃n M,∃vK:Int->Value,n<=lim/\VMap w 29 B.mD n M/\(∀id,M (idL id)=if kD id then some (vK id) else none)/\∀id,kD id=true->kindOf objs id=2/\RowT tg w (i,3) (vK id) (entsOf objs id)
theorem KeptF.moves {P:Nat×Nat->Prop}{tg tg':Tags}{w w':World}{i:Nat}{B:WB}{objs:List Ob}{kF:Int->Bool}{lim:Nat}(h:KeptF tg w i B objs kF lim)(m:Moves P tg tg' w w')(hn:¬P (i,2)):KeptF tg' w' i B objs kF lim:=by
 obtain⟨ht,n,M,hl,hv,hM,hk⟩:=h;obtain⟨a,b⟩:=hv.moves m ht hn;exact⟨b,n,M,hl,a,hM,hk⟩
theorem KeptD.moves {P:Nat×Nat->Prop}{tg tg':Tags}{w w':World}{i:Nat}{B:WB}{objs:List Ob}{kD:Int->Bool}{lim:Nat}(h:KeptD tg w i B objs kD lim)(m:Moves P tg tg' w w')(hn:¬P (i,3)):KeptD tg' w' i B objs kD lim:=by
 obtain⟨ht,n,M,vK,hl,hv,hM,hk⟩:=h;obtain⟨a,b⟩:=hv.moves m ht hn;exact⟨b,n,M,vK,hl,a,hM,fun id hid=>⟨(hk id hid).1,(hk id hid).2.moves m hn⟩⟩
def PMap (w:World)(b n:Nat)(f:List ByteArray->Option Value):Prop:=
 ∃M,VMap w 147 b n M/\(∀p,Good p->M (keyP Tryz.prog p)=f p)/\∀kl,WideAt.IsKeyLit kl->M kl≠none->∃p,Good p/\kl=keyP Tryz.prog p
def OwnF (tg:Tags)(w:World)(i:Nat)(B:WB)(of:List ByteArray->Option Nat)(lim:Nat):Prop:=
 tg B.oF=(i,4)/\(∃n,n<=lim/\PMap w B.oF n (fun p=>(of p).map ptr))/\∀p f,of p=some f->Good p
structure OwnDV (tg:Tags)(w:World)(i:Nat)(B:WB)(od:List ByteArray->Option (List Ent))(lim:Nat)(vD:List ByteArray->Value):Prop where
 tag:tg B.oD=(i,5)
 map:∃n,n<=lim/\PMap w B.oD n (fun p=>(od p).map fun _=>vD p)
 good:∀p es,od p=some es->Good p/\RisingK es/\es.length<=16/\∀e ∈ es,validB e.1=true/\(e.2.1=1\/e.2.1=2)
 row:∀p es,od p=some es->RowT tg w (i,5) (vD p) es
 inj:∀p q es fs g,od p=some es->od q=some fs->(vD p).ownBlock=some g->(vD q).ownBlock=some g->p=q
def OwnD (tg:Tags)(w:World)(i:Nat)(B:WB)(od:List ByteArray->Option (List Ent))(lim:Nat):Prop:=∃vD,OwnDV tg w i B od lim vD
theorem PMap.keep {w w':World}{b n:Nat}{f:List ByteArray->Option Value}(h:PMap w b n f)(e:w'.heap[b]? = w.heap[b]?):PMap w' b n f:=by
 obtain⟨M,hv,h1,h2⟩:=h;exact⟨M,hv.keep e,h1,h2⟩
theorem PMap.lt {w:World}{b n:Nat}{f:List ByteArray->Option Value}(h:PMap w b n f):b<w.heap.size:=by
 obtain⟨M,hv,_⟩:=h;exact hv.lt
theorem OwnF.moves {P:Nat×Nat->Prop}{tg tg':Tags}{w w':World}{i:Nat}{B:WB}{of:List ByteArray->Option Nat}{lim:Nat}(h:OwnF tg w i B of lim)(m:Moves P tg tg' w w')(hn:¬P (i,4)):OwnF tg' w' i B of lim:=by
 obtain⟨ht,⟨n,hl,hp⟩,hg⟩:=h;exact⟨(m.tags _ hp.lt).trans ht,⟨n,hl,hp.keep (m.block _ hp.lt (by rw[ht];exact hn))⟩,hg⟩
theorem OwnDV.moves {P:Nat×Nat->Prop}{tg tg':Tags}{w w':World}{i:Nat}{B:WB}{od:List ByteArray->Option (List Ent)}{lim:Nat}{vD:List ByteArray->Value}(h:OwnDV tg w i B od lim vD)(m:Moves P tg tg' w w')(hn:¬P (i,5)):OwnDV tg' w' i B od lim vD:=by
 obtain⟨ht,⟨n,hl,hp⟩,hg,hr,hi⟩:=h;exact⟨(m.tags _ hp.lt).trans ht,⟨n,hl,hp.keep (m.block _ hp.lt (by rw[ht];exact hn))⟩,hg,fun p es he=>(hr p es he).moves m hn,hi⟩
def FilesAt (tg:Tags)(w:World)(i:Nat)(B:WB)(fl:Nat->Option (Int×ByteArray)):Prop:=
 ∀f id d,fl f=some (id,d)->tg f=(i,6)/\w.heap[f]? = some (.cells #[.pointer (if id=0 then none else some ⟨B.sF,0,none⟩),.int .i64 id,.string d] 308 (0,0))/\d.size<=256
theorem FilesAt.moves {P:Nat×Nat->Prop}{tg tg':Tags}{w w':World}{i:Nat}{B:WB}{fl:Nat->Option (Int×ByteArray)}(h:FilesAt tg w i B fl)(m:Moves P tg tg' w w')(hn:¬P (i,6)):FilesAt tg' w' i B fl:=fun f id d hf=>by
 obtain⟨h1,h2,h3⟩:=h f id d hf
 obtain⟨a,b⟩:=m.at h2 h1 hn
 exact⟨b,a,h3⟩
structure OpensAt (tg:Tags)(w:World)(i:Nat)(B:WB)(fl:Nat->Option (Int×ByteArray))(op:Nat->Option (Nat×Nat×Int×Int)):Prop where
 tw:tg B.wb=(i,0)
 hw:w.heap[B.wb]? = some (.cells #[ptr B.bt,opV (op 0),opV (op 1),opV (op 2),opV (op 3),opV (op 4),opV (op 5),opV (op 6),opV (op 7)] 91 (0,0))
 past:∀k,8<=k->op k=none
 at_:∀k b f fg pl,op k=some (b,f,fg,pl)->tg b=(i,7)/\w.heap[b]? = some (.cells #[ptr f,.int .i64 fg,.int .i64 pl] 277 (0,0))/\(∃x,fl f=some x)/\0<=fg/\fg<64/\0<=pl/\pl<=256
 inj:∀k l x y,op k=some x->op l=some y->x.1=y.1->k=l
theorem OpensAt.moves {P:Nat×Nat->Prop}{tg tg':Tags}{w w':World}{i:Nat}{B:WB}{fl:Nat->Option (Int×ByteArray)}{op:Nat->Option (Nat×Nat×Int×Int)}(h:OpensAt tg w i B fl op)(m:Moves P tg tg' w w')(hn:¬P (i,0))(hn':¬P (i,7)):OpensAt tg' w' i B fl op:=by
 obtain⟨a,b⟩:=m.at h.hw h.tw hn;refine⟨b,a,h.past,fun k b f fg pl hk=>?_,h.inj⟩;obtain⟨h1,h2,h3⟩:=h.at_ k b f fg pl hk;obtain⟨a',b'⟩:=m.at h2 h1 hn';exact⟨b',a',h3⟩
def EntOk (objs:List Ob)(e:Ent):Prop:=(e.2.1=1\/e.2.1=2)/\(e.2.2≠0->kindOf objs e.2.2=e.2.1)
structure FtOk (objs:List Ob)(ft:FT):Prop where
 root:ft.root≠0->kindOf objs ft.root=2
 od:∀p es,ft.od p=some es->∀e ∈ es,EntOk objs e
structure WPart (tg:Tags)(w:World)(i p:Nat)(B:WB)(objs:List Ob)(g:WG)(lim:Nat):Prop where
 tree:PTree tg w i p B g.base g.ft.root
 keptF:KeptF tg w i B objs g.fs.kF lim
 keptD:KeptD tg w i B objs g.fs.kD lim
 ownF:OwnF tg w i B g.ft.of lim
 ownD:OwnD tg w i B g.ft.od lim
 files:FilesAt tg w i B g.fl
 held:∀q f,g.ft.of q=some f->∃x,g.fl f=some x
 opens:OpensAt tg w i B g.fl g.op
 ok:FtOk objs g.ft
theorem WPart.moves {P:Nat×Nat->Prop}{tg tg':Tags}{w w':World}{i p:Nat}{B:WB}{objs:List Ob}{g:WG}{lim:Nat}(h:WPart tg w i p B objs g lim)(m:Moves P tg tg' w w')(hn:∀k,¬P (i,k)):WPart tg' w' i p B objs g lim:=by
 obtain⟨vD,hD⟩:=h.ownD;exact⟨h.tree.moves m (hn 1),h.keptF.moves m (hn 2),h.keptD.moves m (hn 3),h.ownF.moves m (hn 4),⟨vD,hD.moves m (hn 5)⟩,h.files.moves m (hn 6),h.held,h.opens.moves m (hn 0) (hn 7),h.ok⟩
structure WInv (tg:Tags)(w:World)(s i p:Nat)(B:WB)(objs:List Ob)(g:WG)(lim:Nat):Prop where
 two:2<=i
 st:SInv tg w s p objs g.fs.got g.fs.brk lim
 wp:WPart tg w i p B objs g lim
def Mine (i:Nat)(t:Nat×Nat):Prop:=t.1=1\/t.1=i
theorem WInv.below {tg:Tags}{w w':World}{s i p:Nat}{B:WB}{objs:List Ob}{g:WG}{lim:Nat}(h:WInv tg w s i p B objs g lim)(hb:Below w.heap.size w w'):WInv tg w' s i p B objs g lim:=by
 have m:Moves (fun _=>False) tg tg w w':=Moves.of_below hb;exact⟨h.two,h.st.moves m id id,h.wp.moves m (fun _=>id)⟩
theorem infoID:(Tryz.prog.info? 29).map (fun i=>(i.zero,i.size,i.bytes))=some (some (.int .i64 0),1,8):=by kernel_rfl
theorem deliver_brk {ft:PTail}(p:Nat)(a:Option Addr)(n cap bf bd:Nat)(id:Int)(w:World)(h:PoolAt ft w p a n cap bf bd)(hb:ft.b=true):
  Calls Tryz.prog 174 #[.pointer (some ⟨p,0,none⟩),.int .i64 id] w fun e w'=>e=.returned (.int .i64 14)/\w'=w.setCell ⟨p,4,none⟩ (.bool false):=by
 have c4:w.cell? ⟨p,4,none⟩=some (.bool true):=by unfold PoolAt at h;simp[World.cell?,h,hb]
 have f4:w.frozen? ⟨p,4,none⟩=false:=by unfold PoolAt at h;simp[World.frozen?,h]
 clear h hb;go_enter Tryz.func174,Tryz.ntmps174;go_wp2;go_ret;exact⟨rfl,rfl⟩
theorem cells1 (w:World)(c0:Value)(t:TypeId):∀j u,[c0][j]? = some u->(w.alloc (.cells #[c0] t)).cell? ((⟨w.heap.size,0,none⟩:Addr).add j)=some u:=by
 intro j u h
 match j,h with
 | 0,h=>simpa [Addr.add] using h
 | j+1,h=>simp at h
theorem grown_cell1 {w w1:World}{o1:Obj}{r:Option Nat}(hg:(w.alloc o1).grownBy w1 r){p:Nat}(hp:p<w.heap.size)(hr:some p≠r){v:Value}{i:Nat}(h:w.cell? ⟨p,i,none⟩=some v):w1.cell? ⟨p,i,none⟩=some v:=by
 rw[World.cell?_of_block (a:=⟨p,i,none⟩) (hg.block p (by simp;omega) hr),World.cell?_alloc_past _ _ _ hp,h]
theorem grown_frozen1 {w w1:World}{o1:Obj}{r:Option Nat}(hg:(w.alloc o1).grownBy w1 r){p:Nat}(hp:p<w.heap.size)(hr:some p≠r){i:Nat}(h:w.frozen? ⟨p,i,none⟩=false):w1.frozen? ⟨p,i,none⟩=false:=by
 rw[World.frozen?_of_block (a:=⟨p,i,none⟩) (hg.block p (by simp;omega) hr),World.frozen?_alloc_past _ _ _ hp,h]
theorem deliver_ok (p:Nat)(a:Option Addr)(n c:Nat)(xs:List Value)(id:Int)(w:World)(hp:p<w.heap.size)(c3:w.cell? ⟨p,3,none⟩=some (.slice a n c))(f3:w.frozen? ⟨p,3,none⟩=false)(c4:w.cell? ⟨p,4,none⟩=some (.bool false))
  (hown:w.ownsRow 0 29 1 (.slice a n c) n xs)(hpa:some p≠(Value.slice a n c).ownBlock)(hn:n<1099511627776):
  Calls Tryz.prog 174 #[.pointer (some ⟨p,0,none⟩),.int .i64 id] w fun e w'=>e=.returned (.int .i64 0)/\
   ∃g cap' w1,w1.ownsRow 0 29 1 (.slice (some ⟨g,0,none⟩) (n+1) cap') (n+1) (xs ++ [.int .i64 id])/\(∃o1,(w.alloc o1).grownBy w1 (Value.slice a n c).ownBlock/\((some g:Option Nat)=(Value.slice a n c).ownBlock\/g=w.heap.size+1))/\w'=w1.setCell ⟨p,3,none⟩ (.slice (some ⟨g,0,none⟩) (n+1) cap'):=by
 obtain⟨i0,hi,hz0,hz1,hz2⟩:=info_parts infoID;have HO:Hid (w.ownsRow 0 29 1 (.slice a n c) n xs):=hown;have HP:Hid (some p≠(Value.slice a n c).ownBlock):=hpa;clear hown hpa;go_enter Tryz.func174,Tryz.ntmps174;go_wp2_with (first | (at_builtin;go_loud (refine wpList_append_own_at _ rfl (.tmp 16) (.tmp 18) 59 rfl 0 29 i0 _ 1 8 Tryz.underlying59 hi hz0 hz1 hz2 rfl (by decide) (.slice a n c) n xs rfl (HO.out.alloc _) ⟨w.heap.size,0,none⟩ 1 1 [.int .i64 id] rfl rfl (cells1 w (.int .i64 id) 29) (by intro u hu;simp at hu;subst hu;rfl) (by unfold maxLen;omega) (by omega) (zzF _) ?_;intro v' w1 hown' hgrow _ hloc;obtain⟨g,cap',rfl⟩:=slice_of_owns hown' (by omega);have k1':=grown_cell1 hgrow hp HP.out c3;have k2':=grown_frozen1 hgrow hp HP.out f3)) | go_in);go_ret;exact⟨rfl,g,cap',w1,hown',⟨_,hgrow,by simpa [Value.ownBlock] using hloc⟩,rfl⟩
theorem InvP.tail {ft ft':PTail}{F F':Nat->Prop}{w w':World}{s p:Nat}{objs:List Ob}(h:InvP ft F w s p objs)(hp:∀a n cap bf bd,PoolAt ft w p a n cap bf bd->PoolAt ft' w' p a n cap bf bd)(hk:∀k,k<w.heap.size->F k->k≠p->w'.heap[k]? = w.heap[k]?)(hF:∀k,k<w.heap.size->F k->F' k):InvP ft' F' w' s p objs:=by
 obtain⟨a,cap,bf,bd,Df,Dd,i⟩:=h;have ls:s<w.heap.size:=(Array.getElem?_eq_some_iff.1 i.hs).1;have hsp:s≠p:=cells_ne i.hs i.pool.at_ (by decide);have hmp:∀{b:Nat} {es:Array MapEntry} {clock:Nat},w.heap[b]? = some (.map es clock)->b≠p:=fun hb e=>by subst e;have:=i.pool.at_;unfold PoolAt at this;rw[hb] at this;cases this
 obtain⟨e1,c1,hbf⟩:=ownsMap_isMap i.files;obtain⟨e2,c2,hbd⟩:=ownsMap_isMap i.dirs;have hrow:∀v m t k xs,w.ownsRow 0 t k v m xs->t≠185->(∀g,v.ownBlock=some g->F g)->w'.ownsRow 0 t k v m xs:=fun v m t k xs hr ht hFg=>ownsRow_keep hr (fun g hg=>hk g (ownsRow_lt hr hg) (hFg g hg) (fun e=>by
  subst e;exact owns_ne_cells hr i.pool.at_ (fun e=>ht e.symm) hg.symm))
 refine⟨a,cap,bf,bd,Df,Dd,⟨hF _ ls i.fs,hF _ i.pool.at_.lt i.fp,hF _ i.files.lt i.ff,hF _ i.dirs.lt i.fd,fun g hg=>hF g (ownsRow_lt i.pool.row hg) (i.fr g hg),(hk s ls i.fs hsp).trans i.hs,⟨hp _ _ _ _ _ i.pool.at_,hrow _ _ _ _ _ i.pool.row (by decide) i.fr,i.pool.len,i.pool.many⟩,i.ne,
  ownsMap_keep i.files (hk _ i.files.lt i.ff (hmp hbf)),i.filesOk,ownsMap_keep i.dirs (hk _ i.dirs.lt i.fd (hmp hbd)),i.dirsOk,fun o ho=>?_⟩⟩
 rcases i.obs o ho with h | ⟨h1,h2,h3,h4,h5,h6,h8,h9⟩
 ·exact .inl h
 ·exact .inr ⟨h1,h2,h3,h4,h5,h6,fun g hg=>hF g (ownsRow_lt h9 hg) (h8 g hg),hrow _ _ _ _ _ h9 (by decide) h8⟩
def Got (t:Nat×Nat):Prop:=t=(1,0)\/t=(1,1)
def Delivered (s p:Nat)(objs:List Ob)(got:List Int)(brk:Bool)(lim:Nat)(id:Int)(tg:Tags)(w:World)(er:Int):Prop:=
 (brk=true/\er=14/\SInv tg w s p objs got false lim)\/(brk=false/\er=0/\SInv tg w s p objs (got ++ [id]) false (lim+1))
theorem deliver_any {tg:Tags}{w:World}{s p:Nat}{objs:List Ob}{got:List Int}{brk:Bool}{lim:Nat}(h:SInv tg w s p objs got brk lim)(hl:lim<1099511627776)(id:Int):
  Calls Tryz.prog 174 #[.pointer (some ⟨p,0,none⟩),.int .i64 id] w fun e w'=>∃er,e=.returned (.int .i64 er)/\∃tg',Moves Got tg tg' w w'/\Delivered s p objs got brk lim id tg' w' er:=by
 obtain⟨hfr,ft,hb,hi,hg,hs,hgl⟩:=h;have hi':=hi;obtain⟨a,cap,bf,bd,Df,Dd,i⟩:=hi';have hat:=i.pool.at_;have hlt:=hat.lt;have hpt:tg p=(1,0):=i.fp;have hpa:some p≠(Value.slice ft.a ft.n ft.c).ownBlock:=owns_ne_cells hg.1 hat (by decide);cases brk with
 | true=>
  refine (deliver_brk p a objs.length cap bf bd id w hat hb).mono ?_;rintro e w' ⟨rfl,rfl⟩;refine⟨14,rfl,tg,⟨rfl,rfl,rfl,by simp,fun _ _=>rfl,fun k hk hn=>Below.heap_setCell _ _ _ _ (fun e=>hn (by rw[e,hpt];exact .inl rfl)),fun hf k hk=>hf k (by simpa using hk)⟩,.inl ⟨rfl,rfl,fun k hk=>hfr k (by simpa using hk),{ ft with b:=false },rfl,?_,⟨?_,hg.2.1,hg.2.2⟩,hs,hgl⟩⟩
  ·refine hi.tail (fun a' n' cap' bf' bd' h'=>?_) (fun k hk hF hne=>Below.heap_setCell _ _ _ _ hne) (fun k hk hF=>hF)
   unfold PoolAt at h' ⊢;simp[World.setCell,Array.getElem?_modify,h']
  ·exact ownsRow_keep hg.1 (fun g hgg=>Below.heap_setCell _ _ _ _ (fun e=>hpa (by rw[hgg,e])))
 | false=>
  have c3:w.cell? ⟨p,3,none⟩=some (.slice ft.a ft.n ft.c):=by unfold PoolAt at hat;simp[World.cell?,hat]
  have f3:w.frozen? ⟨p,3,none⟩=false:=by unfold PoolAt at hat;simp[World.frozen?,hat]
  have c4:w.cell? ⟨p,4,none⟩=some (.bool false):=by unfold PoolAt at hat;simp[World.cell?,hat,hb]
  refine (deliver_ok p ft.a ft.n ft.c _ id w hlt c3 f3 c4 hg.1 hpa (by rw[hg.2.1];omega)).mono ?_;rintro e w' ⟨rfl,g,cap',w1,hown,⟨o1,hgr,hloc⟩,rfl⟩;have hsz:=hgr.size;simp at hsz;have hkeep:∀k,k<w.heap.size->some k≠(Value.slice ft.a ft.n ft.c).ownBlock->w1.heap[k]? = w.heap[k]?:=fun k hk hne=>by
   rw[hgr.block k (by simp;omega) hne,Below.heap_alloc _ _ _ hk]
  have hgp:g≠p:=by
   rintro rfl;rcases hloc with h | h
   ·exact hpa h
   ·omega
  have htag:∀k,tg k=(1,0)->some k≠(Value.slice ft.a ft.n ft.c).ownBlock:=fun k hk e=>by have:=hg.2.2 k e.symm;rw[hk] at this;cases this
  refine⟨0,rfl,fun k=>if k<w.heap.size then tg k else if k<w1.heap.size then (1,1) else (0,0),⟨hgr.os,hgr.tape,hgr.output,by simp;omega,fun k hk=>zzD hk,fun k hk hn=>?_,fun hf k hk=>?_⟩,.inr ⟨rfl,rfl,fun k hk=>?_,⟨some ⟨g,0,none⟩,ft.n+1,cap',false⟩,rfl,?_,⟨?_,?_,fun g' hg'=>?_⟩,hs,by simp;omega⟩⟩
  ·rw[Below.heap_setCell _ _ _ _ (fun e=>hn (by rw[e,hpt];exact .inl rfl)),hkeep k hk (fun e=>hn (.inr (hg.2.2 k e.symm)))]
  ·have hk':w1.heap.size<=k:=by simpa using hk
   show (if _ then _ else _)=_;rw[zzB (by omega),zzB (by omega)]
  ·have hk':w1.heap.size<=k:=by simpa using hk
   show (if _ then _ else _)=_;rw[zzB (by omega),zzB (by omega)]
  ·refine hi.tail (fun a' n' cap'' bf' bd' h'=>?_) (fun k hk hF hne=>?_) (fun k hk hF=>by show (if _ then _ else _)=_;rw[zzD hk];exact hF)
   ·have hp1:w1.heap[p]? = w.heap[p]?:=hkeep p hlt hpa
    unfold PoolAt at h' ⊢;simp[World.setCell,Array.getElem?_modify,hp1,h',hb]
   ·rw[Below.heap_setCell _ _ _ _ hne,hkeep k hk (htag k hF)]
  ·rw[List.map_append]
   exact ownsRow_keep hown (fun g' hg'=>by cases hg';exact Below.heap_setCell _ _ _ _ hgp)
  ·simp[hg.2.1]
  ·obtain rfl:g=g':=by simpa [Value.ownBlock] using hg'
   show (if _ then _ else _)=_;rcases hloc with h | h
   ·rw[zzD (ownsRow_lt hg.1 h.symm)];exact hg.2.2 g h.symm
   ·rw[zzB (by omega),zzD (by have:=ownsRow_lt hown rfl;omega)]
theorem bytesOf_in {objs:List Ob}{j:Nat}(hj:j<objs.length):bytesOf objs ((j:Int)+1)=objs[j].data:=by
 unfold bytesOf;rw[show ((j:Int)+1-1).toNat=j by omega,zzH hj];rfl
theorem entsOf_in {objs:List Ob}{j:Nat}(hj:j<objs.length):entsOf objs ((j:Int)+1)=objs[j].ents:=by
 unfold entsOf;rw[show ((j:Int)+1-1).toNat=j by omega,zzH hj];rfl
section
variable {tg:Tags}{w:World}{s p:Nat}{objs:List Ob}{got:List Int}{brk:Bool}{lim:Nat}
theorem SInv.file (h:SInv tg w s p objs got brk lim){id:Int}(hk:kindOf objs id=1):
  Calls Tryz.prog 84 #[.pointer (some ⟨p,0,none⟩),.int .i64 id] w fun e w'=>e=.returned (.tuple #[.string (bytesOf objs id),.int .i64 0])/\Below w.heap.size w w':=by
 obtain⟨_,ft,_,⟨a,cap,bf,bd,Df,Dd,i⟩,_⟩:=h;refine (file_any p a objs.length cap bf bd objs id w i.pool).mono ?_;rintro e w' ⟨hb,⟨hn,_⟩ | ⟨j,hj,rfl,_,he⟩⟩
 ·exact absurd hk hn
 ·rw[bytesOf_in hj];exact⟨he,hb⟩
theorem SInv.dir (h:SInv tg w s p objs got brk lim){id:Int}(hk:kindOf objs id=2):
  Calls Tryz.prog 85 #[.pointer (some ⟨p,0,none⟩),.int .i64 id] w fun e w'=>∃g,e=.returned (.tuple #[.slice (some ⟨g,0,none⟩) (entsOf objs id).length (entsOf objs id).length,.int .i64 0])/\w'.ownsRow w.heap.size 96 3 (.slice (some ⟨g,0,none⟩) (entsOf objs id).length (entsOf objs id).length) (entsOf objs id).length (flat (entsOf objs id))/\Below w.heap.size w w':=by
 obtain⟨_,ft,_,⟨a,cap,bf,bd,Df,Dd,i⟩,_⟩:=h;refine (poolGetDir i id).mono ?_;rintro e w' ⟨⟨hn,_⟩ | ⟨j,hj,rfl,_,g,he,hr⟩,hb⟩
 ·exact absurd hk hn
 ·rw[entsOf_in hj];exact⟨g,he,hr,hb⟩
theorem fetchFile_any (h:SInv tg w s p objs got brk lim)(hl:lim<1099511627776){id:Int}(hk:kindOf objs id=1):
  Calls Tryz.prog 115 #[.pointer (some ⟨p,0,none⟩),.int .i64 id] w fun e w'=>∃er,e=.returned (.tuple #[.string (if er=0 then bytesOf objs id else ⟨#[]⟩),.int .i64 er])/\∃tg',Moves Got tg tg' w w'/\Delivered s p objs got brk lim id tg' w' er:=by
 have hcon:=deliver_any h hl id;clear h hl;cases brk with
 | true=>
  have hcon':Calls Tryz.prog 174 #[.pointer (some ⟨p,0,none⟩),.int .i64 id] w fun e w'=>e=.returned (.int .i64 14)/\∃tg',Moves Got tg tg' w w'/\Delivered s p objs got true lim id tg' w' 14:=hcon.mono (fun e w' ⟨er,he,tg',m,hD⟩=>by
   have h14:er=14:=by rcases hD with ⟨_,h,_⟩ | ⟨h,_⟩;exact h;cases h
   subst h14;exact⟨he,tg',m,hD⟩)
  clear hcon;go_enter Tryz.func115,Tryz.ntmps115;go_wp2_with (go_at_call 174;refine hcon'.mono ?_;rintro e w1 ⟨rfl,hrest⟩;have HR:Hid _:=hrest;clear hrest);go_ret2;exact⟨14,rfl,HR.out⟩
 | false=>
  have hcon':Calls Tryz.prog 174 #[.pointer (some ⟨p,0,none⟩),.int .i64 id] w fun e w'=>e=.returned (.int .i64 0)/\∃tg',Moves Got tg tg' w w'/\SInv tg' w' s p objs (got ++ [id]) false (lim+1):=hcon.mono (fun e w' ⟨er,he,tg',m,hD⟩=>by
   rcases hD with ⟨h,_⟩ | ⟨_,rfl,hS⟩
   ·cases h
   ·exact⟨he,tg',m,hS⟩)
  clear hcon;go_enter Tryz.func115,Tryz.ntmps115;go_wp2_with (first
   | (go_at_call 174;refine hcon'.mono ?_;rintro e w1 ⟨rfl,tg1,m1,hS⟩;have HM:Hid _:=m1;have HS:Hid _:=hS;clear m1 hS)
   | (go_at_call 84;refine (SInv.file HS.out hk).mono ?_;rintro e w2 ⟨rfl,hb⟩))
  go_ret2;exact⟨0,by rw[zzD rfl];rfl,tg1,HM.out.trans (Moves.of_below hb),.inr ⟨rfl,rfl,HS.out.moves (P:=fun _=>False) (Moves.of_below hb) (fun x=>x) (fun x=>x)⟩⟩
theorem fetchDir_any (h:SInv tg w s p objs got brk lim)(hl:lim<1099511627776){id:Int}(hk:kindOf objs id=2):
  Calls Tryz.prog 117 #[.pointer (some ⟨p,0,none⟩),.int .i64 id] w fun e w'=>∃er v,e=.returned (.tuple #[v,.int .i64 er])/\(er≠0->v=.slice none 0 0)/\∃tg',Moves Got tg tg' w w'/\Delivered s p objs got brk lim id tg' w' er/\
   (er=0->∃g,v=.slice (some ⟨g,0,none⟩) (entsOf objs id).length (entsOf objs id).length/\w.heap.size<=g/\tg' g=(0,0)/\w'.ownsRow 0 96 3 v (entsOf objs id).length (flat (entsOf objs id))):=by
 have hcon:=deliver_any h hl id;clear h hl;cases brk with
 | true=>
  have hcon':Calls Tryz.prog 174 #[.pointer (some ⟨p,0,none⟩),.int .i64 id] w fun e w'=>e=.returned (.int .i64 14)/\∃tg',Moves Got tg tg' w w'/\Delivered s p objs got true lim id tg' w' 14:=hcon.mono (fun e w' ⟨er,he,tg',m,hD⟩=>by
   have h14:er=14:=by rcases hD with ⟨_,h,_⟩ | ⟨h,_⟩;exact h;cases h
   subst h14;exact⟨he,tg',m,hD⟩)
  clear hcon;go_enter Tryz.func117,Tryz.ntmps117;go_wp2_with (go_at_call 174;refine hcon'.mono ?_;rintro e w1 ⟨rfl,hrest⟩;have HR:Hid _:=hrest;clear hrest);go_ret2;obtain⟨tg',m,hD⟩:=HR.out;exact⟨14,_,rfl,fun _=>rfl,tg',m,hD,fun h=>by cases h⟩
 | false=>
  have hcon':Calls Tryz.prog 174 #[.pointer (some ⟨p,0,none⟩),.int .i64 id] w fun e w'=>e=.returned (.int .i64 0)/\∃tg',Moves Got tg tg' w w'/\SInv tg' w' s p objs (got ++ [id]) false (lim+1):=hcon.mono (fun e w' ⟨er,he,tg',m,hD⟩=>by
   rcases hD with ⟨h,_⟩ | ⟨_,rfl,hS⟩
   ·cases h
   ·exact⟨he,tg',m,hS⟩)
  clear hcon;go_enter Tryz.func117,Tryz.ntmps117;go_wp2_with (first
   | (go_at_call 174;refine hcon'.mono ?_;rintro e w1 ⟨rfl,tg1,m1,hS⟩;have HM:Hid _:=m1;have HS:Hid _:=hS;clear m1 hS)
   | (go_at_call 85;refine (SInv.dir HS.out hk).mono ?_;rintro e w2 ⟨g,rfl,hrow,hb⟩;have HR:Hid _:=hrow;clear hrow))
  go_ret2;have hS:=HS.out;have hge:w1.heap.size<=g:=by
   rcases HR.out.2 with ⟨h,_⟩ | ⟨g',_,_,hv,hb',_⟩
   ·cases h
   ·cases hv;exact hb'
  refine⟨0,_,rfl,fun h=>absurd rfl h,tg1,HM.out.trans (Moves.of_below hb),.inr ⟨rfl,rfl,HS.out.moves (P:=fun _=>False) (Moves.of_below hb) (fun x=>x) (fun x=>x)⟩,fun _=>⟨g,rfl,zzG HM.out.size hge,hS.fresh g hge,?_⟩⟩;exact row_base0 HR.out
end
end Go.Proofs.YtlgidcmmgohagaaGreat
