/- What is proved here: Bytes. -/
import Derived.Test.YtlgidcmmgohagaaGreatFileM13
import Derived.Test.YtlgidcmmgohagaaGreatFileM01
import Derived.Lib.BufferWrite
import Derived.Laws.IdiomStrings
import Derived.OwnWalk
import Derived.Test.YtlgidcmmgohagaaGreatFileM04
namespace Go.Proofs.YtlgidcmmgohagaaGreat
open Go.RowKit
set_option linter.unusedVariables false
set_option maxRecDepth 100000 in
set_option maxHeartbeats 400000 in
theorem QI(f:Nat)(d:eD)(w:World)(c1:w.cell? (eI f 1)=some (eJ 0))(c2:w.cell? (eI f 2)=some (.string d)):
  gc 181 #[hh f] w (Do (.tuple #[.string d,eJ 0]) w):=by
 go_enter Tryz.func181,Tryz.ntmps181;go_wp2;go_ret2;exact⟨rfl,rfl⟩
set_option maxRecDepth 100000 in
set_option maxHeartbeats 400000 in
theorem QJ(f b:Nat)(id er:Int)(d:eD)(R:World->Prop)(w:World)(hf:f<w.heap.size)(c0:w.cell? (eI f 0)=some (hh b))(c1:w.cell? (eI f 1)=some (eJ id))(hid:id≠0)
  (hg:gc 213 #[hh b,eJ id] w.drew fun e w'=>e=.returned (.tuple #[.string d,eJ er])/\R w'):
  gc 181 #[hh f] w fun e w'=>e=.returned (.tuple #[.string d,eJ er])/\R w':=by
 have c:(id==0)=false:=by simpa using hid
 go_enter Tryz.func181,Tryz.ntmps181;go_wp2
 go_region_with(go_at_call 213;refine hg.mono ?_;rintro e g ⟨rfl,a⟩)
 all_goals
  go_wp2;go_ret2;exact⟨rfl,a⟩
set_option maxRecDepth 100000 in
set_option maxHeartbeats 400000 in
theorem LX(f:Nat)(x y z:Value)(w:World)(hf:f<w.heap.size)(c0:w.cell? (eI f 0)=some x)(c1:w.cell? (eI f 1)=some y)(c2:w.cell? (eI f 2)=some z)(f0:∀o,w.frozen? (eI f o)=false)
  (hc:(convert 204 9 (.slice none 0 0)).run Tryz.prog w=.ok (.string hZ) w):
  gc 179 #[hh f] w fun e w'=>e=.returned (.tuple #[])/\w'=((w.setCell (eI f 0) (.pointer none)).setCell (eI f 1) (eJ 0)).setCell (eI f 2) (.string hZ):=by
 have hs:=Ji f (.slice none 0 0) hZ x y z w hf c0 c1 c2 f0 hc;go_enter Tryz.func179,Tryz.ntmps179;go_wp2_with(go_at_call 212;refine hs.mono ?_;rintro e a ⟨rfl,rfl⟩);go_end0;exact⟨rfl,rfl⟩
set_option maxRecDepth 100000 in
set_option maxHeartbeats 400000 in
theorem Ut(o:Nat)(fg pl n:Int)(w:World)(c1:w.cell? (eI o 1)=some (eJ fg))(c2:w.cell? (eI o 2)=some (eJ pl))(a:(bits BinOp.and IntKind.i64 fg 32 != 0)=false):
  gc 180 #[hh o,eJ n] w (Do (eJ pl) w):=by
 go_enter Tryz.func180,Tryz.ntmps180;go_wp2;go_ret;exact⟨rfl,rfl⟩
set_option maxRecDepth 100000 in
set_option maxHeartbeats 400000 in
theorem Xz(o f:Nat)(fg pl n:Int)(d:eD)(R:World->Prop)(w:World)(c0:w.cell? (eI o 0)=some (hh f))(c1:w.cell? (eI o 1)=some (eJ fg))(c2:w.cell? (eI o 2)=some (eJ pl))
  (i:(bits BinOp.and IntKind.i64 fg 1==0)=false)(hn:1<=n)(h0:0<=pl)(h1:pl<256)(hd:d.size<=256)
  (hg:gc 181 #[hh f] w fun e w'=>e=.returned (.tuple #[.string d,eJ 0])/\R w')
  (g:∀a,R a->o<a.heap.size/\a.cell? (eI o 2)=some (eJ pl)/\a.frozen? (eI o 2)=false):
  gc 125 #[hh o,eJ n] w fun e w'=>e=.returned (.tuple #[.string (d.extract (min pl.toNat d.size) (min (min pl.toNat d.size+(min n (256-pl)).toNat) d.size)),eJ 0])/\∃a,R a/\w'=a.setCell (eI o 2) (.int .i64 (pl+(d.extract (min pl.toNat d.size) (min (min pl.toNat d.size+(min n (256-pl)).toNat) d.size)).size)):=by
 have j:¬n<0:=by omega
 obtain⟨m,hm⟩:∃m,m=min n (256-pl):=⟨_,rfl⟩;have k:(m==0)=false:=by simp;omega
 have l:IntKind.i64.wrap (256-pl)=256-pl:=by rw[xS]<;>omega
 go_enter Tryz.func125,Tryz.ntmps125;go_wp2_with(go_at_call 181;refine hg.mono ?_;rintro e a ⟨rfl,b⟩;obtain⟨p,q,r⟩:=g a b);go_ret2;have c:(min pl (d.size:Int)).toNat=min pl.toNat d.size:=by omega
 have e2:(min (min pl (d.size:Int)+min n (256-pl)) (d.size:Int)).toNat=min (min pl.toNat d.size+(min n (256-pl)).toNat) d.size:=by omega
 have h:(min (min (min pl (d.size:Int)+min n (256-pl)) (d.size:Int)).toNat d.size-(min pl (d.size:Int)).toNat:Nat)=(d.extract (min pl.toNat d.size) (min (min pl.toNat d.size+(min n (256-pl)).toNat) d.size)).size:=by
  rw[WQ,<-e2,<-c]
 rw[h,c,e2];exact⟨rfl,a,b,rfl⟩
end Go.Proofs.YtlgidcmmgohagaaGreat
namespace Go.Proofs.YtlgidcmmgohagaaGreat
open Go.RowKit
set_option linter.unusedVariables false
def tu (old d:List UInt8)(a:Nat):List UInt8:=(old++List.replicate (max old.length (a+d.length)-old.length) 0).take a++d++(old++List.replicate (max old.length (a+d.length)-old.length) 0).drop (a+d.length)
def oO (old d:eD)(a:Nat):eD:=⟨(tu old.data.toList d.data.toList a).toArray⟩
theorem vg(old d:List UInt8)(a:Nat):(tu old d a).length=max old.length (a+d.length):=by
 unfold tu;simp;omega
def ku (w:World)(f:Nat)(d:eD):World:=((w.setCell ⟨f,0,none⟩ (.pointer none)).setCell ⟨f,1,none⟩ (.int .i64 0)).setCell ⟨f,2,none⟩ (.string d)
theorem Uu:(Tryz.prog.info? 5).map (fun i=>(i.zero,i.size,i.bytes))=some (some (.int .u8 0),1,1):=by kernel_rfl
theorem FZ:(Tryz.prog.info? 5).map (·.size)=some 1:=by kernel_rfl
theorem xm{P:Program}{w:World}{ops:Array Oper}{rest:List Oper}{o:Oper}{a:Act}{j:Exit->Act->World->Prop}(n:o.guard=none)(d x:Operand)(c sT:gi)
  (ho:o.op=.call { callee:=.builtin .copy,args:=#[d,x],argTypes:=#[c,sT] })(f:gi)(hu:P.underlying c=some (.slice f))(p:(P.info? f).map (·.size)=some 1)
  (g off i l:Nat)(s:eD)(hd:a.eval d=.slice (some (eI g off)) i l)(hs:a.eval x=.string s)
  (b:Array Value)(t:gi)(hg:w.heap[g]?=some (.cells b t (0,0)))(hle:s.size<=i)(q:off+s.size<=b.size)
  (new:Array Value)(r:new.toList=b.toList.take off++Lib.byteCells s.data.toList++b.toList.drop (off+s.size))
  (h:∀w',Hid (w'.heap[g]?=some (.cells new t (0,0)))->w.grownBy w' (some g)->wpList P ops j rest (a.put o.dst (goInt s.size)) w'):wpList P ops j (o::rest) a w:=by
 refine Pr n fun K u=>?_;have m:=Lib.run_copy_row_string (P:=P) w c sT o.type f g off i l s b t hu p hg hle q;rw[<-r,Array.toArray_toList]at m;unfold Oper.wp;simp[execOp,ho,resolve,invoke,builtin,hd,hs,m,Result.andThen];exact u _ _ (h _ (Ff w g _ _ t _ hg) ⟨rfl,rfl,rfl,by simp,fun k hk hne=>Aw w g k _ (fun e=>hne (by rw[e]))⟩)
theorem BC{w:World}{g n:Nat}(h:w.ownsRow 0 5 1 (.slice (some (eI g 0)) n n) n (madeCells (Value.int .u8 0).cells (n*1)).toList):∃a,Hid (w.heap[g]?=some (.cells a 5 (0,0)))/\Hid (a.toList=Lib.byteCells (List.replicate n 0)):=by
 rcases h.2 with⟨h0,_⟩|⟨e,f,a,hv,_,hg,_,_,c,b⟩
 ·cases h0
 ·cases hv
  refine⟨a,hg,?_⟩;show a.toList=_;have d:(madeCells (Value.int .u8 0).cells (n*1)).toList=List.replicate n (Value.int .u8 0):=by rw[Nat.mul_one];exact toList_madeCells_one _ n
  rw[d]at b;have e2:a.toList.take (n*1)=a.toList:=lV (by rw[ng,c];exact kx _);rw[e2]at b;rw[b,Lib.byteCells,List.map_replicate];rfl
theorem vK{w a w3:World}(b:ik w a)(h:a.grownBy w3 (some w.heap.size)):Hid (ik w w3):=b.grown h b.size (fun k hk=>by cases hk;exact kx _)
theorem QK{w:World}{g:Nat}{l:List UInt8}(h:w.heap[g]?=some (.cells (Lib.byteCells l).toArray 5 (0,0)))(cap:Nat):(convert 204 9 (.slice (some (eI g 0)) l.length cap)).run Tryz.prog w=.ok (.string ⟨l.toArray⟩) w:=
 run_convert_bytes_back w 204 9 5 (eI g 0) cap l WI fma Ww (fun j hj=>by
  have h2:((eI g 0):Addr).add j=(eI g j):=by unfold Addr.add;split<;>simp_all
  rw[h2]
  simp[World.cell?,h,Lib.byteCells,hj])
theorem QL{old:List UInt8}{n:Nat}(h:old.length<=n):Lib.byteCells (old++List.replicate (n-old.length) 0)=(Lib.byteCells (List.replicate n 0)).take 0++Lib.byteCells old++(Lib.byteCells (List.replicate n 0)).drop (0+old.length):=by
 simp[Lib.byteCells]
theorem Uv(l d:List UInt8)(a:Nat):Lib.byteCells (l.take a++d++l.drop (a+d.length))=(Lib.byteCells l).take a++Lib.byteCells d++(Lib.byteCells l).drop (a+d.length):=by
 simp[Lib.byteCells,List.map_take,List.map_drop]
theorem QM{b c:World}(d:ik b c){f:Nat}(g:f<b.heap.size/\(∃x y z,b.cell? (eI f 0)=some x/\b.cell? (eI f 1)=some y/\b.cell? (eI f 2)=some z)/\∀o,b.frozen? (eI f o)=false):
  f<c.heap.size/\(∃x y z,c.cell? (eI f 0)=some x/\c.cell? (eI f 1)=some y/\c.cell? (eI f 2)=some z)/\∀o,c.frozen? (eI f o)=false:=by
 obtain⟨h1,⟨x,y,z,h2,h3,h⟩,i⟩:=g;have e:=d.block f h1;have hc:=fun o=>jP (a:=(eI f o)) e;have j:=fun o=>SM (a:=(eI f o)) e;exact⟨lO h1 d.size,⟨x,y,z,(hc 0).trans h2,(hc 1).trans h3,(hc 2).trans h⟩,fun o=>(j o).trans (i o)⟩
theorem Ot{a b:World}{f:Nat}{l:List UInt8}(cap:Nat)(c:ik a b)(d:f<a.heap.size/\(∃x y z,a.cell? (eI f 0)=some x/\a.cell? (eI f 1)=some y/\a.cell? (eI f 2)=some z)/\∀o,a.frozen? (eI f o)=false){g:Nat}(h:b.heap[g]?=some (.cells (Lib.byteCells l).toArray 5 (0,0))):
  gc 212 #[hh f,.slice (some (eI g 0)) l.length cap] b fun e w'=>e=.returned (.tuple #[])/\w'=ku b f ⟨l.toArray⟩:=by
 obtain⟨i,⟨x,y,z,j,k,k4⟩,k5⟩:=QM c d;exact Ji f _ ⟨l.toArray⟩ x y z b i j k k4 k5 (QK h cap)
set_option maxRecDepth 100000 in
set_option maxHeartbeats 1000000 in
theorem Jj(f a:Nat)(old d:eD)(R:World->Prop)(w:World)(P:1<=d.size)(Q:a+d.size<=256)(ho:old.size<=256)
  (hg:gc 181 #[hh f] w fun e w'=>e=.returned (.tuple #[.string old,eJ 0])/\R w')
  (j:∀b,R b->f<b.heap.size/\(∃x y z,b.cell? (eI f 0)=some x/\b.cell? (eI f 1)=some y/\b.cell? (eI f 2)=some z)/\∀o,b.frozen? (eI f o)=false):
  gc 182 #[hh f,eJ (a:Int),.string d] w fun e w'=>e=.returned (eJ 0)/\∃b k,R b/\ik b k/\w'=ku k f (oO old d a):=by
 obtain⟨n,hn⟩:∃n:Nat,n=max old.size (a+d.size):=⟨_,rfl⟩;have S:max (old.size:Int) ((a:Int)+(d.size:Int))=(n:Int):=by omega
 have T:n<=256:=by omega
 have U:a<n:=by omega
 have l:old.size<=n:=by omega
 have V:a+d.size<=n:=by omega
 obtain⟨C,hi,D,E,F⟩:=iq Uu;obtain⟨c,m⟩:∃c:List UInt8,c=old.data.toList++List.replicate (n-old.size) 0:=⟨_,rfl⟩;have h:Hid _:=m;obtain⟨g,i⟩:∃g:List UInt8,g=tu old.data.toList d.data.toList a:=⟨_,rfl⟩;have p:Hid _:=i;have G:g.length=n:=by rw[i,vg,hn,wB,wB]
 have H:Hid (n=max old.size (a+d.size)):=hn;have I:Hid _:=j;clear m i hn j;go_enter Tryz.func182,Tryz.ntmps182;go_wp2_with(first
  |(go_at_call 181;refine hg.mono ?_;rintro e b ⟨rfl,q⟩;have r:Hid _:=q;clear q)
  |(at_make;go_loud(refine SZ _ rfl _ _ 204 rfl 0 5 C _ 1 WI hi D E .i64 .i64 _ _ n rfl rfl rfl rfl ?_ ?_ (tk _) ?_;go_must(rw[F];omega);go_must(unfold maxLen;omega);intro w3 s t;obtain⟨J,K,u⟩:=BC s;have L:Hid (ik b w3):=mC (lh _ _) t;clear s t))
  |(refine xm rfl (.tmp 26) (.tmp 27) 204 9 rfl 5 WI FZ b.heap.size 0 n n old rfl rfl J 5 K.out l ?_ (Lib.byteCells c).toArray ?_ ?_;go_must(rw[<-ng,u.out,WU,wk];omega);go_must(rw[u.out,h.out,wB];exact QL (by rw[<-wB];exact l));intro W M v;have N:=vK L.out v;clear v)
  |(refine xm rfl (.tmp 31) (.tmp 32) 204 9 rfl 5 WI FZ b.heap.size a (n-a) (n-a) d rfl rfl (Lib.byteCells c).toArray 5 M.out ?_ ?_ (Lib.byteCells g).toArray ?_ ?_;go_must(omega);go_must(rw[CL,WU,h.out,mb,wk,<-wB];omega);go_must(rw[p.out,h.out,tu,wB,wB,H.out,wB,wB];exact Uv _ _ _);intro w5 O A;have B:=vK N.out A;clear A)
  |(go_at_call 212;go_loud(rw[<-G];refine(Ot _ B.out (I.out _ r.out) O.out).mono ?_;rintro e w6 ⟨rfl,rfl⟩)))
 go_ret;exact⟨rfl,b,w5,r.out,B.out,by unfold oO;rw[<-p.out]⟩
end Go.Proofs.YtlgidcmmgohagaaGreat
namespace Go.Proofs.YtlgidcmmgohagaaGreat
open Go.RowKit
set_option linter.unusedVariables false
def QQ (fg pl n:Int):Int:=if(bits BinOp.and IntKind.i64 fg 32 != 0)=true then n else pl
theorem oP{d:eD}(h:1<=d.size):(d.toList==[])=false:=by
 cases hl:d.toList with
 |nil=>
  rw[xO]at hl;have h2:d.size=0:=by rw[wB,hl];rfl
  omega
 |cons x r=>rfl
theorem qE(o:Nat)(fg pl n:Int)(w:World)(c1:w.cell? (eI o 1)=some (eJ fg))(c2:w.cell? (eI o 2)=some (eJ pl)):
  gc 180 #[hh o,eJ n] w (Do (eJ (QQ fg pl n)) w):=by
 unfold QQ;cases h:(bits BinOp.and IntKind.i64 fg 32 != 0) with
 |true=>exact QH o fg pl n w c1 h
 |false=>exact Ut o fg pl n w c1 c2 h
set_option maxRecDepth 100000 in
set_option maxHeartbeats 400000 in
theorem LY(o:Nat)(fg:Int)(w:World)(c1:w.cell? (eI o 1)=some (eJ fg))(a:(bits BinOp.and IntKind.i64 fg 2==0)=false):
  gc 123 #[hh o,.string hZ] w (Do (eJ 0) w):=by
 go_enter Tryz.func123,Tryz.ntmps123;go_wp2;go_ret;exact⟨rfl,rfl⟩
set_option maxRecDepth 100000 in
set_option maxHeartbeats 400000 in
theorem Uw(o f:Nat)(fg pl a:Int)(old d:eD)(R S:World->Prop)(w:World)(c0:w.cell? (eI o 0)=some (hh f))(c1:w.cell? (eI o 1)=some (eJ fg))(c2:w.cell? (eI o 2)=some (eJ pl))
  (u:(bits BinOp.and IntKind.i64 fg 2==0)=false)(hd:1<=d.size)(h0:0<=QQ fg pl 0)(h1:QQ fg pl 0+d.size<=256)(p:QQ fg pl old.size=a)(v:0<=a)(x:a+d.size<=256)
  (hg:gc 181 #[hh f] w fun e w'=>e=.returned (.tuple #[.string old,eJ 0])/\R w')
  (g:∀b,R b->b.cell? (eI o 0)=some (hh f)/\b.cell? (eI o 1)=some (eJ fg)/\b.cell? (eI o 2)=some (eJ pl))
  (hw:∀b,R b->gc 182 #[hh f,eJ a,.string d] b fun e w'=>e=.returned (eJ 0)/\S w')
  (hS:∀c,S c->o<c.heap.size/\c.cell? (eI o 2)=some (eJ pl)/\c.frozen? (eI o 2)=false):
  gc 123 #[hh o,.string d] w fun e w'=>e=.returned (eJ 0)/\∃c,S c/\w'=c.setCell (eI o 2) (eJ (a+d.size)):=by
 have l:=qE o fg pl 0 w c1 c2;have i:=fun b (h:R b)=>qE o fg pl old.size b (g b h).2.1 (g b h).2.2;simp only[p]at i;generalize QQ fg pl 0=j at l h0 h1;have y:=oP hd;have z:IntKind.i64.wrap (j+d.size)=j+d.size:=by rw[xS]<;>omega
 have ig:¬256<j+(d.size:Int):=by omega
 have A:IntKind.i64.wrap (a+d.size)=a+d.size:=by rw[xS]<;>omega
 have B:¬256<a+(d.size:Int):=by omega
 have q:Hid _:=g;have r:Hid _:=hw;have s:Hid _:=hS;have t:Hid _:=i;clear g hw hS i;go_enter Tryz.func123,Tryz.ntmps123;go_wp2_with(first
  |(go_at_call_of 180 (Value.int .i64 0);refine l.mono ?_;rintro e b ⟨rfl,rfl⟩)
  |(go_at_call 181;refine hg.mono ?_;rintro e b ⟨rfl,k⟩;obtain⟨C,D,E⟩:=q.out b k;have m:Hid _:=k;clear k)
  |(go_at_call 180;refine(t.out _ m.out).mono ?_;rintro e c ⟨rfl,rfl⟩)
  |(go_at_call 182;refine(r.out _ m.out).mono ?_;rintro e w3 ⟨rfl,n⟩;obtain⟨F,G,H⟩:=s.out w3 n))
 go_ret;exact⟨rfl,w3,n,rfl⟩
end Go.Proofs.YtlgidcmmgohagaaGreat
namespace Go.Proofs.YtlgidcmmgohagaaGreat
open Go.RowKit
set_option linter.unusedVariables false
def lg (w:World)(b:Nat)(a:Nat->Option Nat):Prop:=b<w.heap.size/\(∀k,k<8->w.cell? ⟨b,1+k,none⟩=some (.pointer ((a k).map fun x=>⟨x,0,none⟩)))/\∀o,w.frozen? ⟨b,o,none⟩=false
theorem Eg(x:Nat)(W:World):(binOp .eql 86 (.pointer none) (hh x)).run Tryz.prog W=.ok (.bool false) W:=by kernel_rfl
theorem LZ(x:Nat)(W:World):(binOp .eql 86 (hh x) (.pointer none)).run Tryz.prog W=.ok (.bool false) W:=by kernel_rfl
set_option maxRecDepth 100000 in
set_option maxHeartbeats 400000 in
theorem Ma(b k:Nat)(a:Nat->Option Nat)(w:World)(h:lg w b a)(hk:k<8)(h0:a k=none)(h1:∀j,j<k->a j≠none):
  gc 176 #[.slice (some (eI b 1)) 8 8,.pointer none] w (Do (eJ (k:Int)) w):=by
 obtain⟨m,hc,_⟩:=h;have d:Hid _:=hc;have e:Hid _:=h1;have f:Hid _:=h0;clear hc h1 h0;go_enter Tryz.func176,Tryz.ntmps176;go_wp2
 go_loopw [8] (fun i wr=>∃j:Nat,j<=k/\i=.int .i64 (j:Int)/\wr=w) (fun i _=>k-(intOf i).toNat)
 case atStart=>exact⟨0,tk _,rfl,rfl⟩
 case round=>
  obtain⟨j,hj,rfl,rfl⟩:=hrel;have g:j<8:=by omega
  have c:=d.out j g;have n:(j:Int)<8:=by omega
  by_cases l:j=k
  ·subst l
   rw[f.out,Option.map_none]at c;go_wp2;go_ret;exact⟨rfl,rfl⟩
  ·cases hv:a j with
   |none=>exact absurd hv (e.out j (by omega))
   |some x=>
    rw[hv,mq]at c;have hq:∀W,(binOp .eql 86 (.pointer none) (hh x)).run Tryz.prog W=.ok (.bool false) W:=Eg x;go_wp2;go_roundw
    case rel=>exact⟨j+1,by omega,by go_num,trivial⟩
    case measure=>simp[intOf];omega
set_option maxRecDepth 100000 in
set_option maxHeartbeats 400000 in
theorem Eh(b k:Nat)(a:Nat->Option Nat)(w:World)(h:lg w b a)(hk:k<8)(h0:a k=none)(h1:∀j,j<k->a j≠none):
  gc 119 #[.pointer (some (eI b 1))] w (Do (.tuple #[eJ (k:Int),eJ 0]) w):=by
 have hi:=Ma b k a w h hk h0 h1;have c:¬(k:Int)<0:=by omega
 clear h h0 h1;go_enter Tryz.func119,Tryz.ntmps119;go_wp2_with(go_at_call 176;refine hi.mono ?_;rintro e d ⟨rfl,rfl⟩);go_ret2;exact⟨rfl,rfl⟩
set_option maxRecDepth 100000 in
set_option maxHeartbeats 400000 in
theorem QN(b k f:Nat)(fg:Int)(x:Value)(w:World)(a:b<w.heap.size)(hc:w.cell? (eI b (1+k))=some x)(c:w.frozen? (eI b (1+k))=false)(hk:k<8):
  gc 121 #[.pointer (some (eI b 1)),eJ (k:Int),hh f,eJ fg] w fun e w'=>e=.returned (.tuple #[])/\w'=(w.setCell (eI b (1+k)) (hh w.heap.size)).alloc (.cells #[hh f,eJ fg,eJ 0] 277):=by
 have d:(k:Int)<8:=by omega
 go_enter Tryz.func121,Tryz.ntmps121;go_wp2;go_end0;exact⟨rfl,rfl⟩
set_option maxRecDepth 100000 in
set_option maxHeartbeats 400000 in
theorem tv(b k x:Nat)(w:World)(hc:w.cell? (eI b (1+k))=some (hh x))(hk:k<8):
  gc 122 #[.pointer (some (eI b 1)),eJ (k:Int)] w (Do (.tuple #[hh x,eJ 0]) w):=by
 have a:(k:Int)<8:=by omega
 have c:¬(k:Int)<0:=by omega
 have hq:=LZ x;go_enter Tryz.func122,Tryz.ntmps122;go_wp2;go_ret2;exact⟨rfl,rfl⟩
set_option maxRecDepth 100000 in
set_option maxHeartbeats 400000 in
theorem Jk(b k x:Nat)(w:World)(c:b<w.heap.size)(hc:w.cell? (eI b (1+k))=some (hh x))(d:w.frozen? (eI b (1+k))=false)(hk:k<8):
  gc 124 #[.pointer (some (eI b 1)),eJ (k:Int)] w fun e w'=>e=.returned (eJ 0)/\w'=w.setCell (eI b (1+k)) (.pointer none):=by
 have f:(k:Int)<8:=by omega
 have g:¬(k:Int)<0:=by omega
 have a:=tv b k x w hc hk;go_enter Tryz.func124,Tryz.ntmps124;go_wp2_with(go_at_call 122;refine a.mono ?_;rintro e h ⟨rfl,rfl⟩);go_ret;exact⟨rfl,rfl⟩
end Go.Proofs.YtlgidcmmgohagaaGreat
namespace Go.Proofs.YtlgidcmmgohagaaGreat
open Go.RowKit Go.Sort Go.Shelf
set_option linter.unusedVariables false
set_option maxRecDepth 100000
set_option maxHeartbeats 16000000
def lf (l:eL):eD:=⟨(iw (l.map PQ)).toArray⟩
theorem tC(s:eD)(w:World):gc 215 #[.string s,.string ⟨#[47]⟩] w (Do (eJ (Lib.indexByte s.data.toList 47)) w):=by
 by_cases hs:s=⟨#[47]⟩
 ·subst hs
  go_enter Tryz.func215,Tryz.ntmps215;go_wp2;go_ret;exact⟨rfl,rfl⟩
 ·have hq:([47]==s.toList)=false:=by
   cases h:([47]==s.toList) with
   |false=>rfl
   |true=>
    have h2:[47]=s.toList:=by simpa using h
    rw[xO]at h2;exact absurd (bytes_inj (a:=⟨#[47]⟩) h2).symm hs
  have hi:=Tryz.stringslite_IndexByte s 47 w;rw[show((47:Int).toNat.toUInt8)=47 from rfl]at hi;generalize Lib.indexByte s.data.toList 47=k at hi ⊢;go_enter Tryz.func215,Tryz.ntmps215;go_wp2_with(go_at_call 216;refine hi.mono ?_;rintro e b ⟨rfl,rfl⟩);go_ret;exact⟨rfl,rfl⟩
theorem Ei(s:eD)(w:World)(h:Lib.indexByte s.data.toList 47=-1):gc 184 #[.string s,.string ⟨#[47]⟩] w (Do (.tuple #[.string s,.string hZ,.bool false]) w):=by
 have hi:=tC s w;rw[h]at hi;go_enter Tryz.func184,Tryz.ntmps184;go_wp2_with(go_at_call 215;refine hi.mono ?_;rintro e a ⟨rfl,rfl⟩);exact lF (v:=.tuple #[.string s,.string hZ,.bool false]) (by simp[results,Tryz.results184,go_sem]) rfl ⟨rfl,rfl⟩
theorem QS(s:eD)(k:Nat)(w:World)(h:Lib.indexByte s.data.toList 47=(k:Int))(hk:k<s.size)(hm:s.size<=1000):gc 184 #[.string s,.string ⟨#[47]⟩] w (pB (.tuple #[.string (s.extract 0 k),.string (s.extract (k+1) s.size),.bool true]) w):=by
 have hi:=tC s w;rw[h]at hi;have hw:IntKind.i64.wrap ((k:Int)+1)=(k:Int)+1:=by rw[xS]<;>omega
 have a:(0:Int)<=k:=by omega
 go_enter Tryz.func184,Tryz.ntmps184;go_wp2_with(go_at_call 215;refine hi.mono ?_;rintro e b ⟨rfl,rfl⟩)
 go_region
 all_goals
  go_wp2;exact lF (v:=.tuple #[.string (s.extract 0 k),.string (s.extract (k+1) s.size),.bool true]) (by simp[results,Tryz.results184,go_sem]) rfl ⟨rfl,gS (lh _ _)⟩
theorem xo(s a b:eD)(c:Bool)(w:World)(h:gc 184 #[.string s,.string ⟨#[47]⟩] w (pB (.tuple #[.string a,.string b,.bool c]) w)):
  gc 128 #[.string s,.string ⟨#[47]⟩] w (pB (.tuple #[.string a,.string b,.bool c]) w):=by
 go_enter Tryz.func128,Tryz.ntmps128;go_wp2_with(go_at_call 184;refine h.mono ?_;rintro e f ⟨rfl,d⟩);exact lF (v:=.tuple #[.string a,.string b,.bool c]) (by simp[results,Tryz.results128,go_sem]) rfl ⟨rfl,d⟩
theorem index_first:∀(a b:List UInt8),(∀c∈a,c≠47)->Lib.indexByte (a++47::b) 47=(a.length:Int)
 |[],b,_=>by simp[Lib.indexByte]
 |c::r,b,h=>by
  have e:=index_first r b (fun d hd=>h d (pn _ hd))
  have hc:c≠47:=h c (jS ..)
  rw[uQ,Lib.indexByte,e,fY (by simpa using hc),fY (by simp)]
  simp
theorem rF:∀(a:List UInt8),(∀c∈a,c≠47)->Lib.indexByte a 47=-1
 |[],_=>rfl
 |c::r,h=>by
  have b:=rF r (fun d hd=>h d (pn _ hd))
  have hc:c≠47:=h c (jS ..)
  rw[Lib.indexByte,b,fY (by simpa using hc)]
  rfl
theorem Ej{x:eD}(h:eG x=true):∀c∈PQ x,c≠47:=by
 have h2:Lib.indexByte (PQ x) 47<0:=by
  unfold eG at h;simp only[xP,uP]at h;exact h.2
 have h3:=Lib.indexByte_ge (PQ x) 47;intro c hc e;obtain⟨k,hk,a⟩:=pg hc;exact Lib.indexByte_none (l:=PQ x) (c:=47) (by omega) k (by rw[jy hk,a,e])
theorem mM(x:eD){r:eL}(h:r≠[]):PQ (lf (x::r))=PQ x++47::PQ (lf r):=by
 show(iw ((x::r).map PQ)).toArray.toList=_;rw[jg,oG _ (by simpa using h)];rfl
theorem qF(x:eD):lf [x]=x:=gy rfl
theorem ux:lf []=hZ:=rfl
theorem pM(s:eD)(a b:Nat):PQ (s.extract a b)=((PQ s).take b).drop a:=by
 unfold PQ;simp[ByteArray.data_extract,List.drop_take]
theorem XA(x:eD)(r:eL)(hx:eG x=true)(hm:(lf (x::r)).size<=1000)(w:World):
  gc 128 #[.string (lf (x::r)),.string ⟨#[47]⟩] w (pB (.tuple #[.string x,.string (lf r),.bool (!r.isEmpty)]) w):=by
 cases r with
 |nil=>
  rw[qF,ux];exact xo _ _ _ _ w ((Ei x w (rF _ (Ej hx))).mono fun e w' ⟨h1,h2⟩=>⟨h1,by rw[h2];exact lh _ _⟩)
 |cons y t=>
  have h1:=mM x (r:=y::t) (by simp);have h2:Lib.indexByte (PQ (lf (x::y::t))) 47=((PQ x).length:Int):=by rw[h1];exact index_first _ _ (Ej hx)
  have h3:(lf (x::y::t)).size=(PQ x).length+1+(PQ (lf (y::t))).length:=by rw[<-pm,h1,mb,jA];omega
  have a:=QS (lf (x::y::t)) (PQ x).length w h2 (by omega) hm;have b:(lf (x::y::t)).extract 0 (PQ x).length=x:=gy (by rw[pM,h1,List.take_left,Ar]);have e2:(lf (x::y::t)).extract ((PQ x).length+1) (lf (x::y::t)).size=lf (y::t):=gy (by
   rw[pM,lV (by rw[pm];exact kx _),h1,show PQ x++47::PQ (lf (y::t))=(PQ x++[47])++PQ (lf (y::t)) by simp];exact Tj (by simp))
  rw[b,e2]at a;exact xo _ _ _ _ w a
theorem yy:∀{l:eL},eH l->(lf l).size<=13*l.length
 |[],_=>by simp[ux,ByteArray.size]
 |[x],h=>by
  rw[qF]
  have:=(wn (h x (by simp))).2
  simp;omega
 |x::y::t,h=>by
  have h1:=mM x (r:=y::t) (by simp)
  have h2:=(wn (h x (by simp))).2
  have h3:=yy (l:=y::t) (fun z a=>h z (by simp[a]))
  have b:(lf (x::y::t)).size=(PQ x).length+1+(PQ (lf (y::t))).length:=by rw[<-pm,h1,mb,jA];omega
  rw[b,pm,pm]
  simp at h3 ⊢
  omega
def fL (w:World)(b:Nat)(l:eL):Prop:=b<w.heap.size/\∀k,k<5->w.cell? ⟨b,k,none⟩=some (.string (l.getD k ⟨#[]⟩))/\w.frozen? ⟨b,k,none⟩=false
theorem fL.keep{w w':World}{b:Nat}{l:eL}(h:fL w b l)(a:ik w w'):fL w' b l:=
 ⟨lO h.1 a.size,fun k hk=>⟨((ii a).1 b k h.1).trans (h.2 k hk).1,((ii a).2 b k h.1).trans (h.2 k hk).2⟩⟩
theorem fL.five{w:World}{b:Nat}{l:eL}(h:fL w b l):(w.cell? (eI b 0)=some (.string (l.getD 0 hZ))/\w.cell? (eI b 1)=some (.string (l.getD 1 hZ))/\w.cell? (eI b 2)=some (.string (l.getD 2 hZ))/\w.cell? (eI b 3)=some (.string (l.getD 3 hZ))/\w.cell? (eI b 4)=some (.string (l.getD 4 hZ)))/\∀k,k<5->w.frozen? (eI b k)=false:=
 ⟨⟨(h.2 0 (by omega)).1,(h.2 1 (by omega)).1,(h.2 2 (by omega)).1,(h.2 3 (by omega)).1,(h.2 4 (by omega)).1⟩,fun k hk=>(h.2 k hk).2⟩
theorem Ou{b c j k:Nat}(h:b≠c\/j≠k):((eI b j):Addr)≠(eI c k):=fun e=>by
 simp only[Addr.mk.injEq,wC]at e
 rcases h with h|h
 ·exact h e.1
 ·exact h e.2
theorem fL.put{w:World}{b j:Nat}{l m:eL}(h:fL w b l)(hm:∀k,k<5->k≠j->m.getD k hZ=l.getD k hZ)(c:j<5):fL (w.setCell (eI b j) (.string (m.getD j hZ))) b m:=by
 refine⟨by simpa using h.1,fun k hk=>⟨?_,by rw[World.frozen?_setCell];exact(h.2 k hk).2⟩⟩;by_cases e:k=j
 ·subst e
  exact World.cell?_setCell_same _ _ _ (h.2 k hk).1
 ·rw[World.cell?_setCell_other _ _ _ _ (Ou (.inr (fun a=>e a.symm))),hm k hk e]
  exact(h.2 k hk).1
theorem fL.set{w:World}{b j:Nat}{l:eL}(h:fL w b (l.take j))(a:j<5):fL (w.setCell (eI b j) (.string (l.getD j hZ))) b (l.take (j+1)):=by
 have:=h.put (m:=l.take (j+1)) (j:=j) (fun k hk hne=>?_) a
 ·rwa [show(l.take (j+1)).getD j hZ=l.getD j hZ by rw[wh,wh,Ap,ie (Nat.lt_succ_self _)]]at this
 ·rw[wh,wh,Ap,Ap]
  by_cases hk2:k<j
  ·rw[ie hk2,ie (by omega)]
  ·rw[fY hk2,fY (by omega)]
theorem fL.over{w:World}{b j:Nat}{l:eL}(h:fL w b l)(a:j<5):fL (w.setCell (eI b j) (.string (l.getD j hZ))) b l:=h.put (fun _ _ _=>rfl) a
theorem fL.other{w:World}{b c j:Nat}{l:eL}{v:Value}(h:fL w b l)(hc:c≠b):fL (w.setCell (eI c j) v) b l:=
 ⟨by simpa using h.1,fun k hk=>⟨by rw[World.cell?_setCell_other _ _ _ _ (Ou (.inl hc))];exact(h.2 k hk).1,by rw[World.frozen?_setCell];exact(h.2 k hk).2⟩⟩
theorem Mb{k:Nat}(h:k<5):k=0\/k=1\/k=2\/k=3\/k=4:=by omega
theorem fL.of_block{w:World}{b:Nat}(h:w.heap[b]?=some (.cells (kq hZ hZ hZ hZ hZ) 147 (0,0))):fL w b []:=by
 refine⟨(nX.1 h).1,fun k hk=>?_⟩;rcases Mb hk with rfl|rfl|rfl|rfl|rfl<;>simp[World.cell?,World.frozen?,h]
theorem Ek(w:World):fL ((w.alloc (.cells (kq hZ hZ hZ hZ hZ) 147)).alloc (.cells (kq hZ hZ hZ hZ hZ) 147)) w.heap.size []:=.of_block (Zi w _ _)
theorem El(w:World):fL ((w.alloc (.cells (kq hZ hZ hZ hZ hZ) 147)).alloc (.cells (kq hZ hZ hZ hZ hZ) 147)) (w.heap.size+1) []:=.of_block (heap_alloc2_new w _ _)
theorem iC(l:eL)(hl:Good l)(w:World):gc 69 #[.string (lf l)] w (pB (.tuple #[ju l,eJ 0]) w):=by
 have V:=yy hl.val;have ap:=hl.len;have hcut:∀j (hj:j<l.length) W,gc 128 #[.string (lf (l.drop j)),.string ⟨#[47]⟩] W (pB (.tuple #[.string (l.getD j hZ),.string (lf (l.drop (j+1))),.bool (decide (j+1<l.length))]) W):=by
  intro j hj W;have b:l.drop j=l[j]::l.drop (j+1):=Hh hj;have hv:eG l[j]=true:=hl.val _ (kj hj);have hm:(lf (l.drop j)).size<=1000:=by
   have:=yy (l:=l.drop j) (fun x hx=>hl.val x (KN hx))
   have h2:(l.drop j).length<=5:=by rw[lz];omega
   omega
  rw[b]at hm
  have:=XA l[j] (l.drop (j+1)) hv hm W
  rw[<-b]at this;have e2:(!(l.drop (j+1)).isEmpty)=decide (j+1<l.length):=by
   by_cases h:j+1<l.length
   ·rw[mz h,Hh h];rfl
   ·rw[rk h,Pf (by omega)];rfl
  rw[e2]at this;rw[wh,jy hj,qj];exact this
 have H:∀j (hj:j<l.length) W,gc 129 #[.string (l.getD j hZ)] W (Do (.bool true) W):=by
  intro j hj W;have hv:eG l[j]=true:=hl.val _ (kj hj);rw[wh,jy hj,qj]
  have:=xU l[j] W (by have:=(wn hv).2;unfold maxLen;omega)
  rwa [hv]at this
 have I:∀j W,gc 130 #[.string (l.getD j hZ)] W (pB (.string (l.getD j hZ)) W):=fun j W=>uf _ W (by
  rw[wh];cases hj:l[j]? with
  |none=>simp[ByteArray.size]
  |some x=>
   have:=(wn (hl.val x (SK hj))).2
   rw[qj];omega)
 have hne:(!(lf l).toList.isEmpty)=decide (0<l.length):=by
  rw[gF]
  match l,hl with
  |[],_=>rfl
  |[x],hl=>
   have:=PP (hl.val x (by simp))
   rw[gF]at this;rw[qF];cases h:PQ x with
   |nil=>rw[h]at this;cases this
   |cons c r=>rfl
  |x::y::r,_=>
   rw[mM x (by simp)];simp
 have X:Hid _:=hcut;have Y:Hid _:=H;have Z:Hid _:=I;clear hcut H I V;go_enter Tryz.func69,Tryz.ntmps69;go_wp2;have aa:Hid (fL ((w.alloc (.cells (kq hZ hZ hZ hZ hZ) 147)).alloc (.cells (kq hZ hZ hZ hZ hZ) 147)) w.heap.size []):=Ek w;have ab:Hid (fL ((w.alloc (.cells (kq hZ hZ hZ hZ hZ) 147)).alloc (.cells (kq hZ hZ hZ hZ hZ) 147)) (w.heap.size+1) []):=El w
 go_loopw [5,6,7] (fun r m i wr=>∃j:Nat,j<=l.length/\i=.int .i64 (j:Int)/\m=.bool (decide (j<l.length))/\r=.string (lf (l.drop j))/\ik w wr/\Hid (fL wr w.heap.size [])/\Hid (fL wr (w.heap.size+1) (l.take j))) (fun _ _ i _=>l.length-(intOf i).toNat)
 case atStart=>exact⟨0,tk _,rfl,rfl,rfl,((lh _ _).alloc (kx _) _).alloc (by simp) _,aa.out,ab.out⟩
 case round=>
  obtain⟨j,hj,rfl,rfl,rfl,J,K,f⟩:=hrel;by_cases o:j<l.length
  ·rw[mz o]
   have L:j<5:=by omega
   have aq:((j:Int)==5)=false:=by simp;omega
   have ar:(j:Int)<5:=by omega
   have A:=X.out j o;have M:=Y.out j o;have ac:w.heap.size+1<wr.heap.size:=f.out.1;generalize hm:decide (j+1<l.length)=au at A;have ad:Hid _:=hm;generalize hx:l.getD j hZ=x at A M;have p:Hid _:=hx;clear hm hx;go_wp2_with fail;refine io (A wr) ?_;rintro e B ⟨rfl,a⟩;have N:w.heap.size+1<B.heap.size:=lO ac a.size;have ae:=((f.out.keep a).2 j L);obtain⟨af,av⟩:=ae;generalize (l.take j).getD j hZ=aw at af;go_wp2_with(go_at_call 129;refine io (M _) ?_;rintro e ax ⟨rfl,rfl⟩);go_roundw
   case rel=>
    refine⟨j+1,by omega,by go_num,by rw[ad.out],rfl,?_,?_,?_⟩
    ·refine qZ ?_ (by simp) _
     exact fx J a
    ·exact(K.out.keep a).other (by omega)
    ·rw[<-p.out];exact(f.out.keep a).set L
   case measure=>simp[intOf];omega
  ·rw[rk o]
   have ag:j=l.length:=by omega
   subst ag;rw[xR]at f;rw[List.drop_length];go_wp2
   go_loopw [32] (fun i wr=>∃k:Nat,k<=5/\i=.int .i64 (k:Int)/\ik w wr/\Hid (fL wr w.heap.size [])/\Hid (fL wr (w.heap.size+1) l)) (fun i _=>5-(intOf i).toNat)
   case atStart=>exact⟨0,by omega,rfl,J,K,f⟩
   case round=>
    obtain⟨k,hk,rfl,O,C,g⟩:=hrel;have ay:w.heap.size<wr.heap.size:=C.out.1;have N:w.heap.size+1<wr.heap.size:=g.out.1;by_cases D:k<5
    ·have ah:(k:Int)<5:=by omega
     obtain⟨kc,az⟩:=g.out.2 k D;have P:=Z.out k;generalize hx:l.getD k hZ=x at P kc;have p:Hid _:=hx;clear hx;go_wp2_with fail;refine io (P wr) ?_;rintro e B ⟨rfl,a⟩;obtain⟨ai,aA⟩:=(g.out.keep a).2 k D;rw[p.out]at ai;have aB:w.heap.size+1<B.heap.size:=lO N a.size;go_wp2;go_roundw
     case rel=>
      refine⟨k+1,by omega,by go_num,?_,?_,?_⟩
      ·refine qZ ?_ (by simp) _
       exact fx O a
      ·exact(C.out.keep a).other (by omega)
      ·rw[<-p.out];exact(g.out.keep a).over D
     case measure=>simp[intOf];omega
    ·have ah:¬(k:Int)<5:=by omega
     obtain⟨⟨aj,ak,al,am,an⟩,ao⟩:=g.out.five;obtain⟨⟨q0,Q,R,S,T⟩,d⟩:=C.out.five;have aC:=d 0 (by omega);have aD:=d 1 (by omega);have aE:=d 2 (by omega);have aF:=d 3 (by omega);have aG:=d 4 (by omega);clear ao d;obtain⟨q,s,t,u,z,U⟩:∃q s t u z,fy l=(kq q s t u z):=⟨_,_,_,_,_,rfl⟩;simp only[fy,KV,sG,Value.string.injEq,wC]at U;obtain⟨E,b,e2,F,G⟩:=U;rw[E]at aj;rw[b]at ak;rw[e2]at al;rw[F]at am;rw[G]at an;have n:Hid _:=And.intro E (And.intro b (And.intro e2 (And.intro F G)));clear E b e2 F G;simp only[nN]at q0 Q R S T;have hv:ju l=.agg (kq q s t u z):=by
      unfold ju fy;rw[n.out.1,n.out.2.1,n.out.2.2.1,n.out.2.2.2.1,n.out.2.2.2.2]
     go_wp2;exact lF (v:=.tuple #[.agg (kq q s t u z),eJ 0]) (by simp[results,Tryz.results69,go_sem,q0,Q,R,S,T]) rfl ⟨rfl,by
      repeat(refine qZ ?_ (by simp) _)
      exact O⟩
def letters:eL:=[⟨#[97]⟩,⟨#[98]⟩,⟨#[99]⟩,⟨#[100]⟩]
abbrev eV:=Nat->Nat×Nat
def jt (tg:eV)(w:World):Prop:=∀k,w.heap.size<=k->tg k=(0,0)
structure eB (P:Nat×Nat->Prop)(tg eF:eV)(w w':World):Prop where
 os:w'.os=w.os
 tape:w'.tape=w.tape
 output:w'.output=w.output
 size:w.heap.size<=w'.heap.size
 tags:∀k,k<w.heap.size->eF k=tg k
 block:∀k,k<w.heap.size->¬P (tg k)->w'.heap[k]?=w.heap[k]?
 fresh:jt tg w->jt eF w'
theorem eB.refl(P:Nat×Nat->Prop)(tg:eV)(w:World):eB P tg tg w w:=⟨rfl,rfl,rfl,kx _,fun _ _=>rfl,fun _ _ _=>rfl,id⟩
theorem eB.eE{P:Nat×Nat->Prop}{tg:eV}{w w':World}(h:ik w w'):eB P tg tg w w':=⟨h.os,h.tape,h.output,h.size,fun _ _=>rfl,fun k hk _=>h.block k hk,fun hf k hk=>hf k (wl h.size hk)⟩
theorem eB.trans{P:Nat×Nat->Prop}{tg eF c:eV}{w w' d:World}(h:eB P tg eF w w')(k:eB P eF c w' d):eB P tg c w d:=
 ⟨k.os.trans h.os,k.tape.trans h.tape,k.output.trans h.output,wl h.size k.size,fun b a=>(k.tags b (lO a h.size)).trans (h.tags b a),
  fun b a e=>(k.block b (lO a h.size) (by rw[h.tags b a];exact e)).trans (h.block b a e),fun hf=>k.fresh (h.fresh hf)⟩
theorem eB.mono{P a:Nat×Nat->Prop}{tg eF:eV}{w w':World}(h:eB P tg eF w w')(b:∀t,P t->a t):eB a tg eF w w':=
 ⟨h.os,h.tape,h.output,h.size,h.tags,fun k hk hn=>h.block k hk (fun hp=>hn (b _ hp)),h.fresh⟩
def jN (tg:eV)(b:Nat)(t:Nat×Nat):eV:=fun k=>if k=b then t else tg k
theorem rG(tg:eV)(b:Nat)(t:Nat×Nat):jN tg b t b=t:=by unfold jN;rw[ie rfl]
theorem lp{tg:eV}{b k:Nat}(h:k≠b)(t:Nat×Nat):jN tg b t k=tg k:=by unfold jN;rw[fY h]
theorem eB.at{P:Nat×Nat->Prop}{tg eF:eV}{w w':World}(h:eB P tg eF w w'){b:Nat}{o:Obj}(a:w.heap[b]?=some o){t:Nat×Nat}(ht:tg b=t)(hn:¬P t):w'.heap[b]?=some o/\eF b=t:=by
 have hl:=(nX.1 a).1;exact⟨(h.block b hl (by rw[ht];exact hn)).trans a,(h.tags b hl).trans ht⟩
def lR (tg:eV)(w:World)(t:Nat×Nat)(v:Value)(es:List eN):Prop:=w.ownsRow 0 96 3 v es.length (flat es)/\∀g,v.ownBlock=some g->tg g=t
theorem lR.keep{tg eF:eV}{w w':World}{t:Nat×Nat}{v:Value}{es:List eN}(h:lR tg w t v es)(hk:∀g,v.ownBlock=some g->g<w.heap.size->w'.heap[g]?=w.heap[g]?/\eF g=tg g):lR eF w' t v es:=
 ⟨eQ h.1 (fun g hg=>(hk g hg (eK h.1 hg)).1),fun g hg=>((hk g hg (eK h.1 hg)).2).trans (h.2 g hg)⟩
theorem lR.moves{P:Nat×Nat->Prop}{tg eF:eV}{w w':World}{t:Nat×Nat}{v:Value}{es:List eN}(h:lR tg w t v es)(m:eB P tg eF w w')(hn:¬P t):lR eF w' t v es:=
 h.keep fun g hg hl=>⟨m.block g hl (by rw[h.2 g hg];exact hn),m.tags g hl⟩
def vL (tg:eV)(w:World)(ft:gA)(got:List Int):Prop:=w.ownsRow 0 29 1 (.slice ft.a ft.n ft.c) ft.n (got.map (Value.int .i64))/\ft.n=got.length/\∀g,(Value.slice ft.a ft.n ft.c).ownBlock=some g->tg g=(1,1)
structure gq (tg:eV)(w:World)(s p:Nat)(ey:List Ob)(got:List Int)(brk:Bool)(lim:Nat):Prop where
 fresh:jt tg w
 ex:∃ft:gA,ft.b=brk/\lG ft (fun k=>tg k=(1,0)) w s p ey/\vL tg w ft got/\Sound ey/\got.length<=lim
theorem gq.sound{tg:eV}{w:World}{s p:Nat}{ey:List Ob}{got:List Int}{brk:Bool}{lim:Nat}(h:gq tg w s p ey got brk lim):Sound ey:=by
 obtain⟨_,ft,_,_,_,hs,_⟩:=h;exact hs
theorem uy{w:World}{base:Nat}{e:gi}{size:Nat}{v:Value}{n:Nat}{xs:fQ}(h:w.ownsRow base e size v n xs):w.ownsRow 0 e size v n xs:=by
 obtain⟨h1,h2⟩:=h;refine⟨h1,?_⟩;rcases h2 with h|⟨g,c,a,hv,_,r⟩
 ·exact .inl h
 ·exact .inr ⟨g,c,a,hv,tk _,r⟩
theorem vL.moves{P:Nat×Nat->Prop}{tg eF:eV}{w w':World}{ft:gA}{got:List Int}(h:vL tg w ft got)(m:eB P tg eF w w')(hn:¬P (1,1)):vL eF w' ft got:=
 ⟨eQ h.1 (fun g hg=>m.block g (eK h.1 hg) (by rw[h.2.2 g hg];exact hn)),h.2.1,fun g hg=>(m.tags g (eK h.1 hg)).trans (h.2.2 g hg)⟩
theorem gq.moves{P:Nat×Nat->Prop}{tg eF:eV}{w w':World}{s p:Nat}{ey:List Ob}{got:List Int}{brk:Bool}{lim:Nat}(h:gq tg w s p ey got brk lim)(m:eB P tg eF w w')(h0:¬P (1,0))(h1:¬P (1,1)):gq eF w' s p ey got brk lim:=by
 obtain⟨hf,ft,a,hi,hg,hs,hl⟩:=h;exact⟨m.fresh hf,ft,a,hi.keep (fun k hk hF=>m.block k hk (by rw[hF];exact h0)) (fun k hk hF=>(m.tags k hk).trans hF),hg.moves m h1,hs,hl⟩
theorem gq.mono{tg:eV}{w:World}{s p:Nat}{ey:List Ob}{got:List Int}{brk:Bool}{lim a:Nat}(h:gq tg w s p ey got brk lim)(hl:lim<=a):gq tg w s p ey got brk a:=by
 obtain⟨hf,ft,b,hi,hg,hs,h⟩:=h;exact⟨hf,ft,b,hi,hg,hs,wl h hl⟩
theorem gq.zk{tg eF:eV}{w:World}{s p:Nat}{ey:List Ob}{got:List Int}{brk:Bool}{lim:Nat}(h:gq tg w s p ey got brk lim)(hf:jt eF w)(hk:∀k,(tg k).1=1->eF k=tg k):gq eF w s p ey got brk lim:=by
 obtain⟨_,ft,b,hi,hg,hs,hl⟩:=h;exact⟨hf,ft,b,hi.keep (fun k _ _=>rfl) (fun k _ hF=>(hk k (by rw[hF])).trans hF),⟨hg.1,hg.2.1,fun g a=>(hk g (by rw[hg.2.2 g a])).trans (hg.2.2 g a)⟩,hs,hl⟩
structure WB where
 wb:Nat
 bt:Nat
 sF:Nat
 sD:Nat
 mF:Nat
 mD:Nat
 oF:Nat
 oD:Nat
structure WG where
 base:Int
 ft:FT
 fs:FS
 fl:Nat->Option (Int×eD)
 op:Nat->Option (Nat×Nat×Int×Int)
def ptr (b:Nat):Value:=.pointer (some ⟨b,0,none⟩)
def xq (o:Option (Nat×Nat×Int×Int)):Value:=.pointer (o.map fun x=>⟨x.1,0,none⟩)
structure Em (tg:eV)(w:World)(i p:Nat)(B:WB)(base root:Int):Prop where
 tt:tg B.bt=(i,1)
 tF:tg B.sF=(i,1)
 tD:tg B.sD=(i,1)
 ht:w.heap[B.bt]?=some (.cells #[ptr p,ptr B.sF,ptr B.sD,.int .i64 base,.string ⟨#[]⟩,.int .i64 2,.int .i64 root,.map (some B.oF),.map (some B.oD)] 164 (0,0))
 hF:w.heap[B.sF]?=some (.cells #[.func (.func 115) #[ptr p] #[],.map (some B.mF)] 267 (0,0))
 hD:w.heap[B.sD]?=some (.cells #[.func (.func 117) #[ptr p] #[],.map (some B.mD)] 271 (0,0))
theorem Em.moves{P:Nat×Nat->Prop}{tg eF:eV}{w w':World}{i p:Nat}{B:WB}{base root:Int}(h:Em tg w i p B base root)(m:eB P tg eF w w')(hn:¬P (i,1)):Em eF w' i p B base root:=by
 obtain⟨a1,a⟩:=m.at h.ht h.tt hn;obtain⟨a2,b⟩:=m.at h.hF h.tF hn;obtain⟨a3,c⟩:=m.at h.hD h.tD hn;exact⟨a,b,c,a1,a2,a3⟩
theorem iZ.moves{P:Nat×Nat->Prop}{tg eF:eV}{w w':World}{k:gi}{b n:Nat}{M:Lit->Option Value}(h:iZ w k b n M)(m:eB P tg eF w w'){t:Nat×Nat}(ht:tg b=t)(hn:¬P t):iZ w' k b n M/\eF b=t:=by
 have hl:=h.lt;exact⟨h.keep (m.block b hl (by rw[ht];exact hn)),(m.tags b hl).trans ht⟩
def Ov (id:Int):Lit:=.int .i64 id
def zl (tg:eV)(w:World)(i:Nat)(B:WB)(ey:List Ob)(kF:Int->Bool)(lim:Nat):Prop:=
 tg B.mF=(i,2)/\∃n M,n<=lim/\iZ w 29 B.mF n M/\(∀id,M (Ov id)=if kF id then some (.string (bytesOf ey id))else none)/\∀id,kF id=true->eM ey id=1
def zm (tg:eV)(w:World)(i:Nat)(B:WB)(ey:List Ob)(kD:Int->Bool)(lim:Nat):Prop:=
 tg B.mD=(i,3)/\∃n M,∃a:Int->Value,n<=lim/\iZ w 29 B.mD n M/\(∀id,M (Ov id)=if kD id then some (a id)else none)/\∀id,kD id=true->eM ey id=2/\lR tg w (i,3) (a id) (eZ ey id)
theorem zl.moves{P:Nat×Nat->Prop}{tg eF:eV}{w w':World}{i:Nat}{B:WB}{ey:List Ob}{kF:Int->Bool}{lim:Nat}(h:zl tg w i B ey kF lim)(m:eB P tg eF w w')(hn:¬P (i,2)):zl eF w' i B ey kF lim:=by
 obtain⟨ht,n,M,hl,hv,c,hk⟩:=h;obtain⟨a,b⟩:=hv.moves m ht hn;exact⟨b,n,M,hl,a,c,hk⟩
theorem zm.moves{P:Nat×Nat->Prop}{tg eF:eV}{w w':World}{i:Nat}{B:WB}{ey:List Ob}{kD:Int->Bool}{lim:Nat}(h:zm tg w i B ey kD lim)(m:eB P tg eF w w')(hn:¬P (i,3)):zm eF w' i B ey kD lim:=by
 obtain⟨ht,n,M,c,hl,hv,d,hk⟩:=h;obtain⟨a,b⟩:=hv.moves m ht hn;exact⟨b,n,M,c,hl,a,d,fun id hid=>⟨(hk id hid).1,(hk id hid).2.moves m hn⟩⟩
def iN (w:World)(b n:Nat)(f:eL->Option Value):Prop:=
 ∃M,iZ w 147 b n M/\(∀p,Good p->M (lC Tryz.prog p)=f p)/\∀kl,WideAt.IsKeyLit kl->M kl≠none->∃p,Good p/\kl=lC Tryz.prog p
def BD (tg:eV)(w:World)(i:Nat)(B:WB)(of:eL->Option Nat)(lim:Nat):Prop:=
 tg B.oF=(i,4)/\(∃n,n<=lim/\iN w B.oF n (fun p=>(of p).map ptr))/\∀p f,of p=some f->Good p
structure fC (tg:eV)(w:World)(i:Nat)(B:WB)(od:eL->Option (List eN))(lim:Nat)(vD:eL->Value):Prop where
 tag:tg B.oD=(i,5)
 map:∃n,n<=lim/\iN w B.oD n (fun p=>(od p).map fun _=>vD p)
 good:∀p es,od p=some es->Good p/\eP es/\es.length<=16/\∀e∈es,eG e.1=true/\(e.2.1=1\/e.2.1=2)
 row:∀p es,od p=some es->lR tg w (i,5) (vD p) es
 inj:∀p q es fs g,od p=some es->od q=some fs->(vD p).ownBlock=some g->(vD q).ownBlock=some g->p=q
def aap (tg:eV)(w:World)(i:Nat)(B:WB)(od:eL->Option (List eN))(lim:Nat):Prop:=∃vD,fC tg w i B od lim vD
theorem iN.keep{w w':World}{b n:Nat}{f:eL->Option Value}(h:iN w b n f)(e:w'.heap[b]?=w.heap[b]?):iN w' b n f:=by
 obtain⟨M,hv,h1,h2⟩:=h;exact⟨M,hv.keep e,h1,h2⟩
theorem iN.lt{w:World}{b n:Nat}{f:eL->Option Value}(h:iN w b n f):b<w.heap.size:=by
 obtain⟨M,hv,_⟩:=h;exact hv.lt
theorem BD.moves{P:Nat×Nat->Prop}{tg eF:eV}{w w':World}{i:Nat}{B:WB}{of:eL->Option Nat}{lim:Nat}(h:BD tg w i B of lim)(m:eB P tg eF w w')(hn:¬P (i,4)):BD eF w' i B of lim:=by
 obtain⟨ht,⟨n,hl,hp⟩,hg⟩:=h;exact⟨(m.tags _ hp.lt).trans ht,⟨n,hl,hp.keep (m.block _ hp.lt (by rw[ht];exact hn))⟩,hg⟩
theorem fC.moves{P:Nat×Nat->Prop}{tg eF:eV}{w w':World}{i:Nat}{B:WB}{od:eL->Option (List eN)}{lim:Nat}{vD:eL->Value}(h:fC tg w i B od lim vD)(m:eB P tg eF w w')(hn:¬P (i,5)):fC eF w' i B od lim vD:=by
 obtain⟨ht,⟨n,hl,hp⟩,hg,hr,hi⟩:=h;exact⟨(m.tags _ hp.lt).trans ht,⟨n,hl,hp.keep (m.block _ hp.lt (by rw[ht];exact hn))⟩,hg,fun p es a=>(hr p es a).moves m hn,hi⟩
def Ag (tg:eV)(w:World)(i:Nat)(B:WB)(fl:Nat->Option (Int×eD)):Prop:=
 ∀f id d,fl f=some (id,d)->tg f=(i,6)/\w.heap[f]?=some (.cells #[.pointer (if id=0 then none else some ⟨B.sF,0,none⟩),.int .i64 id,.string d] 308 (0,0))/\d.size<=256
theorem Ag.moves{P:Nat×Nat->Prop}{tg eF:eV}{w w':World}{i:Nat}{B:WB}{fl:Nat->Option (Int×eD)}(h:Ag tg w i B fl)(m:eB P tg eF w w')(hn:¬P (i,6)):Ag eF w' i B fl:=fun f id d hf=>by
 obtain⟨h1,h2,h3⟩:=h f id d hf
 obtain⟨a,b⟩:=m.at h2 h1 hn
 exact⟨b,a,h3⟩
structure uz (tg:eV)(w:World)(i:Nat)(B:WB)(fl:Nat->Option (Int×eD))(op:Nat->Option (Nat×Nat×Int×Int)):Prop where
 tw:tg B.wb=(i,0)
 hw:w.heap[B.wb]?=some (.cells #[ptr B.bt,xq (op 0),xq (op 1),xq (op 2),xq (op 3),xq (op 4),xq (op 5),xq (op 6),xq (op 7)] 91 (0,0))
 past:∀k,8<=k->op k=none
 at_:∀k b f fg pl,op k=some (b,f,fg,pl)->tg b=(i,7)/\w.heap[b]?=some (.cells #[ptr f,.int .i64 fg,.int .i64 pl] 277 (0,0))/\(∃x,fl f=some x)/\0<=fg/\fg<64/\0<=pl/\pl<=256
 inj:∀k l x y,op k=some x->op l=some y->x.1=y.1->k=l
theorem uz.moves{P:Nat×Nat->Prop}{tg eF:eV}{w w':World}{i:Nat}{B:WB}{fl:Nat->Option (Int×eD)}{op:Nat->Option (Nat×Nat×Int×Int)}(h:uz tg w i B fl op)(m:eB P tg eF w w')(hn:¬P (i,0))(c:¬P (i,7)):uz eF w' i B fl op:=by
 obtain⟨a,b⟩:=m.at h.hw h.tw hn;refine⟨b,a,h.past,fun k b f fg pl hk=>?_,h.inj⟩;obtain⟨h1,h2,h3⟩:=h.at_ k b f fg pl hk;obtain⟨d,e⟩:=m.at h2 h1 c;exact⟨e,d,h3⟩
def mj (ey:List Ob)(e:eN):Prop:=(e.2.1=1\/e.2.1=2)/\(e.2.2≠0->eM ey e.2.2=e.2.1)
structure ZL (ey:List Ob)(ft:FT):Prop where
 root:ft.root≠0->eM ey ft.root=2
 od:∀p es,ft.od p=some es->∀e∈es,mj ey e
structure pN (tg:eV)(w:World)(i p:Nat)(B:WB)(ey:List Ob)(g:WG)(lim:Nat):Prop where
 tree:Em tg w i p B g.base g.ft.root
 lS:zl tg w i B ey g.fs.kF lim
 lT:zm tg w i B ey g.fs.kD lim
 qG:BD tg w i B g.ft.of lim
 nI:aap tg w i B g.ft.od lim
 files:Ag tg w i B g.fl
 held:∀q f,g.ft.of q=some f->∃x,g.fl f=some x
 opens:uz tg w i B g.fl g.op
 ok:ZL ey g.ft
theorem pN.moves{P:Nat×Nat->Prop}{tg eF:eV}{w w':World}{i p:Nat}{B:WB}{ey:List Ob}{g:WG}{lim:Nat}(h:pN tg w i p B ey g lim)(m:eB P tg eF w w')(hn:∀k,¬P (i,k)):pN eF w' i p B ey g lim:=by
 obtain⟨vD,hD⟩:=h.nI;exact⟨h.tree.moves m (hn 1),h.lS.moves m (hn 2),h.lT.moves m (hn 3),h.qG.moves m (hn 4),⟨vD,hD.moves m (hn 5)⟩,h.files.moves m (hn 6),h.held,h.opens.moves m (hn 0) (hn 7),h.ok⟩
structure eT (tg:eV)(w:World)(s i p:Nat)(B:WB)(ey:List Ob)(g:WG)(lim:Nat):Prop where
 two:2<=i
 st:gq tg w s p ey g.fs.got g.fs.brk lim
 wp:pN tg w i p B ey g lim
def Mine (i:Nat)(t:Nat×Nat):Prop:=t.1=1\/t.1=i
theorem eT.below{tg:eV}{w w':World}{s i p:Nat}{B:WB}{ey:List Ob}{g:WG}{lim:Nat}(h:eT tg w s i p B ey g lim)(a:ik w w'):eT tg w' s i p B ey g lim:=by
 have m:eB (fun _=>False) tg tg w w':=eB.eE a;exact⟨h.two,h.st.moves m id id,h.wp.moves m (fun _=>id)⟩
theorem Ux:(Tryz.prog.info? 29).map (fun i=>(i.zero,i.size,i.bytes))=some (some (eJ 0),1,8):=by kernel_rfl
theorem Jl{ft:gA}(p:Nat)(a:fD)(n cap bf bd:Nat)(id:Int)(w:World)(h:fq ft w p a n cap bf bd)(b:ft.b=true):
  gc 174 #[hh p,eJ id] w fun e w'=>e=.returned (eJ 14)/\w'=w.setCell (eI p 4) (.bool false):=by
 have c4:w.cell? (eI p 4)=some (.bool true):=by unfold fq at h;simp[World.cell?,h,b]
 have f4:w.frozen? (eI p 4)=false:=by unfold fq at h;simp[World.frozen?,h]
 clear h b;go_enter Tryz.func174,Tryz.ntmps174;go_wp2;go_ret;exact⟨rfl,rfl⟩
theorem ZM(w:World)(c0:Value)(t:gi):∀j a,[c0][j]?=some a->(w.alloc (.cells #[c0] t)).cell? (((eI w.heap.size 0):Addr).add j)=some a:=by
 intro j a h
 match j,h with
 |0,h=>simpa [Addr.add]using h
 |j+1,h=>simp at h
theorem Jm{w b:World}{c:Obj}{r:Option Nat}(hg:(w.alloc c).grownBy b r){p:Nat}(hp:p<w.heap.size)(hr:some p≠r){v:Value}{i:Nat}(h:w.cell? (eI p i)=some v):b.cell? (eI p i)=some v:=by
 rw[jP (a:=(eI p i)) (hg.block p (by simp;omega) hr),Zg _ _ _ hp,h]
theorem Di{w b:World}{c:Obj}{r:Option Nat}(hg:(w.alloc c).grownBy b r){p:Nat}(hp:p<w.heap.size)(hr:some p≠r){i:Nat}(h:w.frozen? (eI p i)=false):b.frozen? (eI p i)=false:=by
 rw[SM (a:=(eI p i)) (hg.block p (by simp;omega) hr),cnf _ _ _ hp,h]
theorem Mc(p:Nat)(a:fD)(n c:Nat)(xs:fQ)(id:Int)(w:World)(hp:p<w.heap.size)(c3:w.cell? (eI p 3)=some (.slice a n c))(f3:w.frozen? (eI p 3)=false)(c4:w.cell? (eI p 4)=some (.bool false))
  (h:w.ownsRow 0 29 1 (.slice a n c) n xs)(iD:some p≠(Value.slice a n c).ownBlock)(hn:n<1099511627776):
  gc 174 #[hh p,eJ id] w fun e w'=>e=.returned (eJ 0)/\
   ∃g d b,b.ownsRow 0 29 1 (.slice (some (eI g 0)) (n+1) d) (n+1) (xs++[eJ id])/\(∃k,(w.alloc k).grownBy b (Value.slice a n c).ownBlock/\((some g:Option Nat)=(Value.slice a n c).ownBlock\/g=w.heap.size+1))/\w'=b.setCell (eI p 3) (.slice (some (eI g 0)) (n+1) d):=by
 obtain⟨l,hi,m,o,q⟩:=iq Ux;have r:Hid (w.ownsRow 0 29 1 (.slice a n c) n xs):=h;have i:Hid (some p≠(Value.slice a n c).ownBlock):=iD;clear h iD;go_enter Tryz.func174,Tryz.ntmps174;go_wp2_with(first|(at_builtin;go_loud(refine KQ _ rfl (.tmp 16) (.tmp 18) 59 rfl 0 29 l _ 1 8 Tryz.underlying59 hi m o q rfl (by decide) (.slice a n c) n xs rfl (r.out.alloc _) (eI w.heap.size 0) 1 1 [eJ id] rfl rfl (ZM w (eJ id) 29) (by intro t hu;simp at hu;subst hu;rfl) (by unfold maxLen;omega) (by omega) (tk _) ?_;intro u b j f _ s;obtain⟨g,d,rfl⟩:=fj j (by omega);have v:=Jm f hp i.out c3;have x:=Di f hp i.out f3))|go_in);go_ret;exact⟨rfl,g,d,b,j,⟨_,f,by simpa [Value.ownBlock]using s⟩,rfl⟩
theorem lG.tail{ft kG:gA}{F F':Nat->Prop}{w w':World}{s p:Nat}{ey:List Ob}(h:lG ft F w s p ey)(hp:∀a n cap bf bd,fq ft w p a n cap bf bd->fq kG w' p a n cap bf bd)(hk:∀k,k<w.heap.size->F k->k≠p->w'.heap[k]?=w.heap[k]?)(hF:∀k,k<w.heap.size->F k->F' k):lG kG F' w' s p ey:=by
 obtain⟨a,cap,bf,bd,Df,Dd,i⟩:=h;have c:s<w.heap.size:=(nX.1 i.hs).1;have l:s≠p:=ni i.hs i.iI.at_ (by decide);have d:∀{b:Nat} {es:Array MapEntry} {q:Nat},w.heap[b]?=some (.map es q)->b≠p:=fun r e=>by subst e;have:=i.iI.at_;unfold fq at this;rw[r]at this;cases this
 obtain⟨B,c1,u⟩:=tz i.files;obtain⟨e2,c2,x⟩:=tz i.AH;have f:∀v m t k xs,w.ownsRow 0 t k v m xs->t≠185->(∀g,v.ownBlock=some g->F g)->w'.ownsRow 0 t k v m xs:=fun v m t k xs hr ht y=>eQ hr (fun g hg=>hk g (eK hr hg) (y g hg) (fun e=>by
  subst e;exact fX hr i.iI.at_ (fun e=>ht e.symm) hg.symm))
 refine⟨a,cap,bf,bd,Df,Dd,⟨hF _ c i.fs,hF _ i.iI.at_.lt i.fp,hF _ i.files.lt i.ff,hF _ i.AH.lt i.fd,fun g hg=>hF g (eK i.iI.row hg) (i.fr g hg),(hk s c i.fs l).trans i.hs,⟨hp _ _ _ _ _ i.iI.at_,f _ _ _ _ _ i.iI.row (by decide) i.fr,i.iI.len,i.iI.many⟩,i.ne,
  tB i.files (hk _ i.files.lt i.ff (d u)),i.ug,tB i.AH (hk _ i.AH.lt i.fd (d x)),i.ye,fun o ho=>?_⟩⟩
 rcases i.zV o ho with h|⟨h1,h2,h3,z,A,h6,h8,j⟩
 ·exact .inl h
 ·exact .inr ⟨h1,h2,h3,z,A,h6,fun g hg=>hF g (eK j hg) (h8 g hg),f _ _ _ _ _ j (by decide) h8⟩
def KG (t:Nat×Nat):Prop:=t=(1,0)\/t=(1,1)
def qH (s p:Nat)(ey:List Ob)(got:List Int)(brk:Bool)(lim:Nat)(id:Int)(tg:eV)(w:World)(er:Int):Prop:=
 (brk=true/\er=14/\gq tg w s p ey got false lim)\/(brk=false/\er=0/\gq tg w s p ey (got++[id]) false (lim+1))
theorem zn{tg:eV}{w:World}{s p:Nat}{ey:List Ob}{got:List Int}{brk:Bool}{lim:Nat}(h:gq tg w s p ey got brk lim)(hl:lim<1099511627776)(id:Int):
  gc 174 #[hh p,eJ id] w fun e w'=>∃er,e=.returned (eJ er)/\∃eF,eB KG tg eF w w'/\qH s p ey got brk lim id eF w' er:=by
 obtain⟨sw,ft,j,hi,hg,hs,v⟩:=h;have x:=hi;obtain⟨a,cap,bf,bd,Df,Dd,i⟩:=x;have c:=i.iI.at_;have n:=c.lt;have o:tg p=(1,0):=i.fp;have iD:some p≠(Value.slice ft.a ft.n ft.c).ownBlock:=fX hg.1 c (by decide);cases brk with
 |true=>
  refine(Jl p a ey.length cap bf bd id w c j).mono ?_;rintro e w' ⟨rfl,rfl⟩;refine⟨14,rfl,tg,⟨rfl,rfl,rfl,by simp,fun _ _=>rfl,fun k hk hn=>jQ _ _ _ _ (fun e=>hn (by rw[e,o];exact .inl rfl)),fun hf k hk=>hf k (by simpa using hk)⟩,.inl ⟨rfl,rfl,fun k hk=>sw k (by simpa using hk),{ ft with b:=false },rfl,?_,⟨?_,hg.2.1,hg.2.2⟩,hs,v⟩⟩
  ·refine hi.tail (fun y z q A B h'=>?_) (fun k hk hF hne=>jQ _ _ _ _ hne) (fun k hk hF=>hF)
   unfold fq at h' ⊢;simp[World.setCell,Am,h']
  ·exact eQ hg.1 (fun g C=>jQ _ _ _ _ (fun e=>iD (by rw[C,e])))
 |false=>
  have c3:w.cell? (eI p 3)=some (.slice ft.a ft.n ft.c):=by unfold fq at c;simp[World.cell?,c]
  have f3:w.frozen? (eI p 3)=false:=by unfold fq at c;simp[World.frozen?,c]
  have c4:w.cell? (eI p 4)=some (.bool false):=by unfold fq at c;simp[World.cell?,c,j]
  refine(Mc p ft.a ft.n ft.c _ id w n c3 f3 c4 hg.1 iD (by rw[hg.2.1];omega)).mono ?_;rintro e w' ⟨rfl,g,q,d,r,⟨I,f,t⟩,rfl⟩;have D:=f.size;simp at D;have l:∀k,k<w.heap.size->some k≠(Value.slice ft.a ft.n ft.c).ownBlock->d.heap[k]?=w.heap[k]?:=fun k hk hne=>by
   rw[f.block k (by simp;omega) hne,mA _ _ _ hk]
  have E:g≠p:=by
   rintro rfl;rcases t with h|h
   ·exact iD h
   ·omega
  have F:∀k,tg k=(1,0)->some k≠(Value.slice ft.a ft.n ft.c).ownBlock:=fun k hk e=>by have:=hg.2.2 k e.symm;rw[hk]at this;cases this
  refine⟨0,rfl,fun k=>if k<w.heap.size then tg k else if k<d.heap.size then(1,1) else(0,0),⟨f.os,f.tape,f.output,by simp;omega,fun k hk=>ie hk,fun k hk hn=>?_,fun hf k hk=>?_⟩,.inr ⟨rfl,rfl,fun k hk=>?_,⟨some (eI g 0),ft.n+1,q,false⟩,rfl,?_,⟨?_,?_,fun u m=>?_⟩,hs,by simp;omega⟩⟩
  ·rw[jQ _ _ _ _ (fun e=>hn (by rw[e,o];exact .inl rfl)),l k hk (fun e=>hn (.inr (hg.2.2 k e.symm)))]
  ·have G:d.heap.size<=k:=by simpa using hk
   show(if _ then _ else _)=_;rw[fY (by omega),fY (by omega)]
  ·have G:d.heap.size<=k:=by simpa using hk
   show(if _ then _ else _)=_;rw[fY (by omega),fY (by omega)]
  ·refine hi.tail (fun y z J A B h'=>?_) (fun k hk hF hne=>?_) (fun k hk hF=>by show(if _ then _ else _)=_;rw[ie hk];exact hF)
   ·have H:d.heap[p]?=w.heap[p]?:=l p n iD
    unfold fq at h' ⊢;simp[World.setCell,Am,H,h',j]
   ·rw[jQ _ _ _ _ hne,l k hk (F k hF)]
  ·rw[nM]
   exact eQ r (fun u m=>by cases m;exact jQ _ _ _ _ E)
  ·simp[hg.2.1]
  ·obtain rfl:g=u:=by simpa [Value.ownBlock]using m
   show(if _ then _ else _)=_;rcases t with h|h
   ·rw[ie (eK hg.1 h.symm)];exact hg.2.2 g h.symm
   ·rw[fY (by omega),ie (by have:=eK r rfl;omega)]
theorem BF{ey:List Ob}{j:Nat}(hj:j<ey.length):bytesOf ey ((j:Int)+1)=ey[j].data:=by
 unfold bytesOf;rw[show((j:Int)+1-1).toNat=j by omega,jy hj];rfl
theorem QT{ey:List Ob}{j:Nat}(hj:j<ey.length):eZ ey ((j:Int)+1)=ey[j].eR:=by
 unfold eZ;rw[show((j:Int)+1-1).toNat=j by omega,jy hj];rfl
section
variable {tg:eV}{w:World}{s p:Nat}{ey:List Ob}{got:List Int}{brk:Bool}{lim:Nat}
theorem gq.file(h:gq tg w s p ey got brk lim){id:Int}(hk:eM ey id=1):
  gc 84 #[hh p,eJ id] w (pB (.tuple #[.string (bytesOf ey id),eJ 0]) w):=by
 obtain⟨_,ft,_,⟨a,cap,bf,bd,Df,Dd,i⟩,_⟩:=h;refine(HN p a ey.length cap bf bd ey id w i.iI).mono ?_;rintro e w' ⟨b,⟨hn,_⟩|⟨j,hj,rfl,_,c⟩⟩
 ·exact absurd hk hn
 ·rw[BF hj];exact⟨c,b⟩
theorem gq.dir(h:gq tg w s p ey got brk lim){id:Int}(hk:eM ey id=2):
  gc 85 #[hh p,eJ id] w fun e w'=>∃g,e=.returned (.tuple #[.slice (some (eI g 0)) (eZ ey id).length (eZ ey id).length,eJ 0])/\w'.ownsRow w.heap.size 96 3 (.slice (some (eI g 0)) (eZ ey id).length (eZ ey id).length) (eZ ey id).length (flat (eZ ey id))/\ik w w':=by
 obtain⟨_,ft,_,⟨a,cap,bf,bd,Df,Dd,i⟩,_⟩:=h;refine(AJ i id).mono ?_;rintro e w' ⟨⟨hn,_⟩|⟨j,hj,rfl,_,g,b,hr⟩,c⟩
 ·exact absurd hk hn
 ·rw[QT hj];exact⟨g,b,hr,c⟩
theorem vh(h:gq tg w s p ey got brk lim)(hl:lim<1099511627776){id:Int}(hk:eM ey id=1):
  gc 115 #[hh p,eJ id] w fun e w'=>∃er,e=.returned (.tuple #[.string (if er=0 then bytesOf ey id else hZ),eJ er])/\∃eF,eB KG tg eF w w'/\qH s p ey got brk lim id eF w' er:=by
 have a:=zn h hl id;clear h hl;cases brk with
 |true=>
  have b:gc 174 #[hh p,eJ id] w fun e w'=>e=.returned (eJ 14)/\∃eF,eB KG tg eF w w'/\qH s p ey got true lim id eF w' 14:=a.mono (fun e w' ⟨er,c,eF,m,hD⟩=>by
   have j:er=14:=by rcases hD with⟨_,h,_⟩|⟨h,_⟩;exact h;cases h
   subst j;exact⟨c,eF,m,hD⟩)
  clear a;go_enter Tryz.func115,Tryz.ntmps115;go_wp2_with(go_at_call 174;refine b.mono ?_;rintro e k ⟨rfl,d⟩;have l:Hid _:=d;clear d);go_ret2;exact⟨14,rfl,l.out⟩
 |false=>
  have b:gc 174 #[hh p,eJ id] w fun e w'=>e=.returned (eJ 0)/\∃eF,eB KG tg eF w w'/\gq eF w' s p ey (got++[id]) false (lim+1):=a.mono (fun e w' ⟨er,c,eF,m,hD⟩=>by
   rcases hD with⟨h,_⟩|⟨_,rfl,hS⟩
   ·cases h
   ·exact⟨c,eF,m,hS⟩)
  clear a;go_enter Tryz.func115,Tryz.ntmps115;go_wp2_with(first
   |(go_at_call 174;refine b.mono ?_;rintro e k ⟨rfl,n,f,hS⟩;have o:Hid _:=f;have g:Hid _:=hS;clear f hS)
   |(go_at_call 84;refine(gq.file g.out hk).mono ?_;rintro e q ⟨rfl,i⟩))
  go_ret2;exact⟨0,by rw[ie rfl];rfl,n,o.out.trans (eB.eE i),.inr ⟨rfl,rfl,g.out.moves (P:=fun _=>False) (eB.eE i) (fun x=>x) (fun x=>x)⟩⟩
theorem xu(h:gq tg w s p ey got brk lim)(hl:lim<1099511627776){id:Int}(hk:eM ey id=2):
  gc 117 #[hh p,eJ id] w fun e w'=>∃er v,e=.returned (.tuple #[v,eJ er])/\(er≠0->v=.slice none 0 0)/\∃eF,eB KG tg eF w w'/\qH s p ey got brk lim id eF w' er/\
   (er=0->∃g,v=.slice (some (eI g 0)) (eZ ey id).length (eZ ey id).length/\w.heap.size<=g/\eF g=(0,0)/\w'.ownsRow 0 96 3 v (eZ ey id).length (flat (eZ ey id))):=by
 have a:=zn h hl id;clear h hl;cases brk with
 |true=>
  have c:gc 174 #[hh p,eJ id] w fun e w'=>e=.returned (eJ 14)/\∃eF,eB KG tg eF w w'/\qH s p ey got true lim id eF w' 14:=a.mono (fun e w' ⟨er,d,eF,m,hD⟩=>by
   have r:er=14:=by rcases hD with⟨_,h,_⟩|⟨h,_⟩;exact h;cases h
   subst r;exact⟨d,eF,m,hD⟩)
  clear a;go_enter Tryz.func117,Tryz.ntmps117;go_wp2_with(go_at_call 174;refine c.mono ?_;rintro e i ⟨rfl,j⟩;have b:Hid _:=j;clear j);go_ret2;obtain⟨eF,m,hD⟩:=b.out;exact⟨14,_,rfl,fun _=>rfl,eF,m,hD,fun h=>by cases h⟩
 |false=>
  have c:gc 174 #[hh p,eJ id] w fun e w'=>e=.returned (eJ 0)/\∃eF,eB KG tg eF w w'/\gq eF w' s p ey (got++[id]) false (lim+1):=a.mono (fun e w' ⟨er,d,eF,m,hD⟩=>by
   rcases hD with⟨h,_⟩|⟨_,rfl,hS⟩
   ·cases h
   ·exact⟨d,eF,m,hS⟩)
  clear a;go_enter Tryz.func117,Tryz.ntmps117;go_wp2_with(first
   |(go_at_call 174;refine c.mono ?_;rintro e i ⟨rfl,t,k,hS⟩;have l:Hid _:=k;have f:Hid _:=hS;clear k hS)
   |(go_at_call 85;refine(gq.dir f.out hk).mono ?_;rintro e y ⟨g,rfl,n,o⟩;have b:Hid _:=n;clear n))
  go_ret2;have hS:=f.out;have q:i.heap.size<=g:=by
   rcases b.out.2 with⟨h,_⟩|⟨z,_,_,hv,u,_⟩
   ·cases h
   ·cases hv;exact u
  refine⟨0,_,rfl,fun h=>absurd rfl h,t,l.out.trans (eB.eE o),.inr ⟨rfl,rfl,f.out.moves (P:=fun _=>False) (eB.eE o) (fun x=>x) (fun x=>x)⟩,fun _=>⟨g,rfl,wl l.out.size q,hS.fresh g q,?_⟩⟩;exact uy b.out
end
theorem zo:Maps.Keyed Tryz.prog 29:=Maps.int_keyed cop
theorem zq{id:Int}(h:(Lit.int .i64 id).wf=true):keyOf Tryz.prog 29 (eJ id)=some (Ov id):=by
 simp[keyOf,Tryz.underlying29,mapKey,h,Ov]
theorem yz(w:World):(zeroValue 55).run Tryz.prog w=.ok (.slice none 0 0) w:=by kernel_rfl
theorem Uy(b m p n:Nat)(M:Lit->Option Value)(id:Int)(d:eD)(w:World)(c1:w.cell? (eI b 1)=some (.map (some m)))(a:iZ w 29 m n M)(hw:(Lit.int .i64 id).wf=true)(c:M (Ov id)=some (.string d)):
  gc 213 #[hh b,eJ id] w (Do (.tuple #[.string d,eJ 0]) w):=by
 have hlk:=a.look_ok zo Tryz.underlying265 (nS w) (zq hw);rw[c]at hlk;clear a c;go_enter Tryz.func213,Tryz.ntmps213;go_wp2_with(simp only[hlk]);go_ret2;exact⟨rfl,rfl⟩
theorem QU(b m p n:Nat)(M:Lit->Option Value)(id:Int)(R:World->Prop)(w:World)(c0:w.cell? (eI b 0)=some (.func (.func 115) #[ptr p] #[]))(c1:w.cell? (eI b 1)=some (.map (some m)))(a:iZ w 29 m n M)(hw:(Lit.int .i64 id).wf=true)(c:M (Ov id)=none)
  (f:gc 115 #[hh p,eJ id] w fun e d=>e=.returned (.tuple #[.string hZ,eJ 14])/\R d):
  gc 213 #[hh b,eJ id] w fun e w'=>e=.returned (.tuple #[.string hZ,eJ 14])/\R w':=by
 have hlk:=a.look_ok zo Tryz.underlying265 (nS w) (zq hw);rw[c]at hlk;unfold ptr at c0;clear a c;go_enter Tryz.func213,Tryz.ntmps213;go_wp2_with(first|(go_at_call 115;refine f.mono ?_;rintro e d ⟨rfl,g⟩));go_ret2;exact⟨rfl,g⟩
theorem Uz(b m p n:Nat)(M:Lit->Option Value)(id:Int)(R:eD->World->Prop)(w:World)(c0:w.cell? (eI b 0)=some (.func (.func 115) #[ptr p] #[]))(c1:w.cell? (eI b 1)=some (.map (some m)))(f:iZ w 29 m n M)(hw:(Lit.int .i64 id).wf=true)(g:M (Ov id)=none)(hn:n<maxLen)
  (l:gc 115 #[hh p,eJ id] w fun e a=>∃d:eD,e=.returned (.tuple #[.string d,eJ 0])/\R d a)
  (o:∀d a,R d a->a.cell? (eI b 1)=some (.map (some m))/\iZ a 29 m n M):
  gc 213 #[hh b,eJ id] w fun e w'=>∃d:eD,e=.returned (.tuple #[.string d,eJ 0])/\∃a,R d a/\iZ w' 29 m (n+1) (AU M (Ov id) (some (.string d)))/\a.grownBy w' (some m)/\w'.heap.size=a.heap.size:=by
 have hlk:=f.look_ok zo Tryz.underlying265 (nS w) (zq hw);rw[g]at hlk;unfold ptr at c0;clear f g;go_enter Tryz.func213,Tryz.ntmps213;go_wp2_with(first|(go_at_call 115;refine l.mono ?_;rintro e a ⟨d,rfl,c⟩;obtain⟨u,h⟩:=o _ _ c;obtain⟨v,x,i,j,k⟩:=h.store zo Tryz.underlying265 hn (zq hw) (val:=.string d);have q:Hid _:=i;have r:Hid _:=j;have s:Hid _:=k;have t:Hid _:=c;clear h i j k c));go_ret2;exact⟨d,rfl,a,t.out,q.out,r.out,s.out⟩
theorem UA(b m p n:Nat)(M:Lit->Option Value)(id:Int)(la:fD)(a lc:Nat)(w:World)(c1:w.cell? (eI b 1)=some (.map (some m)))(c:iZ w 29 m n M)(hw:(Lit.int .i64 id).wf=true)(d:M (Ov id)=some (.slice la a lc)):
  gc 217 #[hh b,eJ id] w (Do (.tuple #[.slice la a lc,eJ 0]) w):=by
 have hlk:=c.look_ok zo Tryz.underlying269 (yz w) (zq hw);rw[d]at hlk;clear c d;go_enter Tryz.func217,Tryz.ntmps217;go_wp2_with(simp only[hlk]);go_ret2;exact⟨rfl,rfl⟩
theorem QV(b m p n:Nat)(M:Lit->Option Value)(id:Int)(R:World->Prop)(w:World)(c0:w.cell? (eI b 0)=some (.func (.func 117) #[ptr p] #[]))(c1:w.cell? (eI b 1)=some (.map (some m)))(a:iZ w 29 m n M)(hw:(Lit.int .i64 id).wf=true)(c:M (Ov id)=none)
  (f:gc 117 #[hh p,eJ id] w fun e d=>e=.returned (.tuple #[.slice none 0 0,eJ 14])/\R d):
  gc 217 #[hh b,eJ id] w fun e w'=>e=.returned (.tuple #[.slice none 0 0,eJ 14])/\R w':=by
 have hlk:=a.look_ok zo Tryz.underlying269 (yz w) (zq hw);rw[c]at hlk;unfold ptr at c0;clear a c;go_enter Tryz.func217,Tryz.ntmps217;go_wp2_with(first|(go_at_call 117;refine f.mono ?_;rintro e d ⟨rfl,g⟩));go_ret2;exact⟨rfl,g⟩
theorem UB(b m p n:Nat)(M:Lit->Option Value)(id:Int)(R:fD->Nat->Nat->World->Prop)(w:World)(c0:w.cell? (eI b 0)=some (.func (.func 117) #[ptr p] #[]))(c1:w.cell? (eI b 1)=some (.map (some m)))(f:iZ w 29 m n M)(hw:(Lit.int .i64 id).wf=true)(g:M (Ov id)=none)(hn:n<maxLen)
  (l:gc 117 #[hh p,eJ id] w fun e a=>∃la c lc,e=.returned (.tuple #[.slice la c lc,eJ 0])/\R la c lc a)
  (o:∀la c lc a,R la c lc a->a.cell? (eI b 1)=some (.map (some m))/\iZ a 29 m n M):
  gc 217 #[hh b,eJ id] w fun e w'=>∃la c lc,e=.returned (.tuple #[.slice la c lc,eJ 0])/\∃a,R la c lc a/\iZ w' 29 m (n+1) (AU M (Ov id) (some (.slice la c lc)))/\a.grownBy w' (some m)/\w'.heap.size=a.heap.size:=by
 have hlk:=f.look_ok zo Tryz.underlying269 (yz w) (zq hw);rw[g]at hlk;unfold ptr at c0;clear f g;go_enter Tryz.func217,Tryz.ntmps217;go_wp2_with(first|(go_at_call 117;refine l.mono ?_;rintro e a ⟨la,c,lc,rfl,d⟩;obtain⟨u,h⟩:=o _ _ _ _ d;obtain⟨v,x,i,j,k⟩:=h.store zo Tryz.underlying269 hn (zq hw) (val:=.slice la c lc);have q:Hid _:=i;have r:Hid _:=j;have s:Hid _:=k;have t:Hid _:=d;clear h i j k d));go_ret2;exact⟨la,c,lc,rfl,a,t.out,q.out,r.out,s.out⟩
theorem xw{ey:List Ob}{id:Int}(h:eM ey id≠0):1<=id/\id<=ey.length:=by
 refine⟨FP rfl h,?_⟩;by_cases h2:id<=ey.length
 ·exact h2
 ·exact absurd (Pl (.inr (by omega))) h
theorem gq.many{tg:eV}{w:World}{s p:Nat}{ey:List Ob}{got:List Int}{brk:Bool}{lim:Nat}(h:gq tg w s p ey got brk lim):ey.length<=400:=by
 obtain⟨_,ft,_,⟨a,cap,bf,bd,Df,Dd,i⟩,_⟩:=h;exact i.iI.many
theorem gq.wf{tg:eV}{w:World}{s p:Nat}{ey:List Ob}{got:List Int}{brk:Bool}{lim:Nat}(h:gq tg w s p ey got brk lim){id:Int}(hk:eM ey id≠0):(Lit.int .i64 id).wf=true:=by
 have h1:=xw hk;have h2:=h.many;exact flb (by omega)
theorem zl.mono{tg:eV}{w:World}{i:Nat}{B:WB}{ey:List Ob}{kF:Int->Bool}{lim a:Nat}(h:zl tg w i B ey kF lim)(hl:lim<=a):zl tg w i B ey kF a:=by
 obtain⟨ht,n,M,hn,r⟩:=h;exact⟨ht,n,M,wl hn hl,r⟩
theorem zm.mono{tg:eV}{w:World}{i:Nat}{B:WB}{ey:List Ob}{kD:Int->Bool}{lim a:Nat}(h:zm tg w i B ey kD lim)(hl:lim<=a):zm tg w i B ey kD a:=by
 obtain⟨ht,n,M,b,hn,r⟩:=h;exact⟨ht,n,M,b,wl hn hl,r⟩
theorem BD.mono{tg:eV}{w:World}{i:Nat}{B:WB}{of:eL->Option Nat}{lim a:Nat}(h:BD tg w i B of lim)(hl:lim<=a):BD tg w i B of a:=by
 obtain⟨ht,⟨n,hn,r⟩,hg⟩:=h;exact⟨ht,⟨n,wl hn hl,r⟩,hg⟩
theorem fC.mono{tg:eV}{w:World}{i:Nat}{B:WB}{od:eL->Option (List eN)}{lim a:Nat}{vD:eL->Value}(h:fC tg w i B od lim vD)(hl:lim<=a):fC tg w i B od a vD:=by
 obtain⟨ht,⟨n,hn,r⟩,b,c,d⟩:=h;exact⟨ht,⟨n,wl hn hl,r⟩,b,c,d⟩
theorem pN.mono{tg:eV}{w:World}{i p:Nat}{B:WB}{ey:List Ob}{g:WG}{lim a:Nat}(h:pN tg w i p B ey g lim)(hl:lim<=a):pN tg w i p B ey g a:=by
 obtain⟨vD,hD⟩:=h.nI;exact⟨h.tree,h.lS.mono hl,h.lT.mono hl,h.qG.mono hl,⟨vD,hD.mono hl⟩,h.files,h.held,h.opens,h.ok⟩
theorem eT.mono{tg:eV}{w:World}{s i p:Nat}{B:WB}{ey:List Ob}{g:WG}{lim a:Nat}(h:eT tg w s i p B ey g lim)(hl:lim<=a):eT tg w s i p B ey g a:=⟨h.two,h.st.mono hl,h.wp.mono hl⟩
theorem pN.fs{P:Nat×Nat->Prop}{tg eF:eV}{w w':World}{i p:Nat}{B:WB}{ey:List Ob}{g:WG}{lim a:Nat}{fs':FS}(h:pN tg w i p B ey g lim)(m:eB P tg eF w w')(hn:∀k,k≠2->k≠3->¬P (i,k))(hl:lim<=a)
  (hF:zl eF w' i B ey fs'.kF a)(hD:zm eF w' i B ey fs'.kD a):pN eF w' i p B ey { g with fs:=fs' } a:=by
 obtain⟨vD,oD⟩:=h.nI;exact⟨h.tree.moves m (hn 1 (by decide) (by decide)),hF,hD,(h.qG.moves m (hn 4 (by decide) (by decide))).mono hl,⟨vD,(oD.moves m (hn 5 (by decide) (by decide))).mono hl⟩,h.files.moves m (hn 6 (by decide) (by decide)),h.held,h.opens.moves m (hn 0 (by decide) (by decide)) (hn 7 (by decide) (by decide)),h.ok⟩
theorem Ha{i:Nat}(hi:2<=i)(k:Nat):¬KG (i,k):=by
 rintro(h|h)
 ·cases h;omega
 ·cases h;omega
def fK (i:Nat)(t:Nat×Nat):Prop:=t.1=1\/t=(i,2)\/t=(i,3)
theorem fK.mine{i:Nat}{t:Nat×Nat}(h:fK i t):Mine i t:=by
 rcases h with h|h|h
 ·exact .inl h
 ·rw[h];exact .inr rfl
 ·rw[h];exact .inr rfl
theorem uA{i:Nat}{t:Nat×Nat}(h:KG t):fK i t:=by
 rcases h with rfl|rfl
 ·exact .inl rfl
 ·exact .inl rfl
theorem yi{P:Nat×Nat->Prop}{tg:eV}{w w':World}{b:Nat}(hg:w.grownBy w' (some b))(hs:w'.heap.size=w.heap.size)(a:P (tg b)):eB P tg tg w w':=
 ⟨hg.os,hg.tape,hg.output,hg.size,fun _ _=>rfl,fun k hk hn=>hg.block k hk (fun e=>hn (by cases e;exact a)),fun hf k hk=>hf k (by omega)⟩
section
variable {tg:eV}{w:World}{s i p:Nat}{B:WB}{ey:List Ob}{g:WG}{lim:Nat}
theorem UC(h:eT tg w s i p B ey g lim)(hl:lim<1099511627776){id:Int}(hk:eM ey id=1):
  gc 213 #[hh B.sF,eJ id] w fun e w'=>
   e=.returned (.tuple #[.string (if(g.fs.fM id).2 then bytesOf ey id else hZ),eJ (if(g.fs.fM id).2 then 0 else 14)])/\∃eF,eB (fK i) tg eF w w'/\eT eF w' s i p B ey { g with fs:=(g.fs.fM id).1 } (lim+1):=by
 have f:=h.st.wf (id:=id) (by rw[hk];decide);obtain⟨o,n,M,hn,a,j,z⟩:=h.wp.lS;have c0:w.cell? (eI B.sF 0)=some (.func (.func 115) #[ptr p] #[]):=by simp[World.cell?,h.wp.tree.hF]
 have c1:w.cell? (eI B.sF 1)=some (.map (some B.mF)):=by simp[World.cell?,h.wp.tree.hF]
 by_cases mG:g.fs.kF id=true
 ·have b:g.fs.fM id=(g.fs,true):=by unfold FS.fM;rw[ie mG]
  rw[b];refine(Uy B.sF B.mF p n M id (bytesOf ey id) w c1 a f (by rw[j,ie mG])).mono ?_;rintro e w' ⟨rfl,rfl⟩;exact⟨rfl,tg,eB.refl _ _ _,h.mono (gV _)⟩
 ·have q:M (Ov id)=none:=by rw[j,fY mG]
  cases c:g.fs.brk with
  |true=>
   have b:g.fs.fM id=({ g.fs with brk:=false },false):=by unfold FS.fM;rw[fY mG,ie c]
   rw[b];refine(QU B.sF B.mF p n M id (fun w'=>∃eF,eB KG tg eF w w'/\gq eF w' s p ey g.fs.got false lim) w c0 c1 a f q ((vh h.st hl hk).mono ?_)).mono ?_
   ·rintro e w' ⟨er,rfl,eF,m,⟨_,rfl,hS⟩|⟨hc,_⟩⟩
    ·exact⟨rfl,eF,m,hS⟩
    ·rw[c]at hc;cases hc
   ·rintro e w' ⟨rfl,eF,m,hS⟩
    exact⟨rfl,eF,m.mono (fun t ht=>uA ht),h.two,hS.mono (gV _),h.wp.fs m (fun k _ _=>Ha h.two k) (gV _) ((h.wp.lS.moves m (Ha h.two 2)).mono (gV _)) ((h.wp.lT.moves m (Ha h.two 3)).mono (gV _))⟩
  |false=>
   have b:g.fs.fM id=({ g.fs with got:=g.fs.got++[id],kF:=fun x=>decide (x=id) ||g.fs.kF x },true):=by unfold FS.fM;rw[fY mG,fY (by rw[c];decide)]
   rw[b];refine(Uz B.sF B.mF p n M id (fun d w'=>d=bytesOf ey id/\∃eF,eB KG tg eF w w'/\gq eF w' s p ey (g.fs.got++[id]) false (lim+1)) w c0 c1 a f q (by unfold maxLen;omega) ((vh h.st hl hk).mono ?_) ?_).mono ?_
   ·rintro e w' ⟨er,rfl,eF,m,⟨hc,_⟩|⟨_,rfl,hS⟩⟩
    ·rw[c]at hc;cases hc
    ·exact⟨bytesOf ey id,rfl,rfl,eF,m,hS⟩
   ·rintro d r ⟨_,eF,m,hS⟩
    have ht:=h.wp.tree.moves m (Ha h.two 1);exact⟨by simp[World.cell?,ht.hF],(a.moves m o (Ha h.two 2)).1⟩
   ·rintro e w' ⟨d,rfl,r,⟨rfl,eF,m,hS⟩,A,C,D⟩
    have u:=(a.moves m o (Ha h.two 2)).2;have v:eB (fun t=>t=(i,2)) eF eF r w':=yi C D u;have l:eB (fun t=>KG t\/t=(i,2)) tg eF w w':=(m.mono (fun t ht=>.inl ht)).trans (v.mono (fun t ht=>.inr ht));have hi:=h.two;refine⟨rfl,eF,l.mono (fun t ht=>ht.elim uA (fun e=>.inr (.inl e))),h.two,?_,h.wp.fs l (fun k h2 _=>?_) (gV _) ?_ ?_⟩
    ·rw[show({ g.fs with got:=g.fs.got++[id],kF:=fun x=>decide (x=id) ||g.fs.kF x }:FS).brk=false from c]
     exact hS.moves v (fun e=>by cases e) (fun e=>by cases e)
    ·rintro(h|h)
     ·exact Ha hi k h
     ·cases h;exact h2 rfl
    ·refine⟨u,n+1,_,by omega,A,fun x=>?_,fun x hx=>?_⟩
     ·by_cases hx:x=id
      ·subst hx;rw[kR];simp
      ·rw[gW (fun e=>hx (by injection e)),j x];simp[hx]
     ·by_cases y:x=id
      ·rw[y];exact hk
      ·exact z x (by simpa [y]using hx)
    ·exact(h.wp.lT.moves l (by rintro(h|h);exact Ha hi 3 h;cases h)).mono (gV _)
theorem XB(h:eT tg w s i p B ey g lim)(hl:lim<1099511627776){id:Int}(hk:eM ey id=2):
  gc 217 #[hh B.sD,eJ id] w fun e w'=>
   ∃v,e=.returned (.tuple #[v,eJ (if(g.fs.gj id).2 then 0 else 14)])/\∃eF,eB (fK i) tg eF w w'/\eT eF w' s i p B ey { g with fs:=(g.fs.gj id).1 } (lim+1)/\
    (if(g.fs.gj id).2 then lR eF w' (i,3) v (eZ ey id)else v=.slice none 0 0)/\∀v es k,(k=3\/k=5)->lR tg w (i,k) v es->lR eF w' (i,k) v es:=by
 have z:=h.st.wf (id:=id) (by rw[hk];decide);obtain⟨y,n,M,G,hn,d,A,C⟩:=h.wp.lT;have c0:w.cell? (eI B.sD 0)=some (.func (.func 117) #[ptr p] #[]):=by simp[World.cell?,h.wp.tree.hD]
 have c1:w.cell? (eI B.sD 1)=some (.map (some B.mD)):=by simp[World.cell?,h.wp.tree.hD]
 by_cases mG:g.fs.kD id=true
 ·have l:g.fs.gj id=(g.fs,true):=by unfold FS.gj;rw[ie mG]
  rw[l];have f:=(C id mG).2;obtain⟨la,b,lc,hv⟩:∃la b lc,G id=.slice la b lc:=by
   rcases f.1.2 with⟨e,_⟩|⟨o,X,_,e,_⟩
   ·exact⟨_,_,_,e⟩
   ·exact⟨_,_,_,e⟩
  refine(UA B.sD B.mD p n M id la b lc w c1 d z (by rw[A,ie mG,hv])).mono ?_;rintro e w' ⟨rfl,rfl⟩;exact⟨_,rfl,tg,eB.refl _ _ _,h.mono (gV _),by rw[ie rfl,<-hv];exact f,fun _ _ _ _ h=>h⟩
 ·have H:M (Ov id)=none:=by rw[A,fY mG]
  cases q:g.fs.brk with
  |true=>
   have l:g.fs.gj id=({ g.fs with brk:=false },false):=by unfold FS.gj;rw[fY mG,ie q]
   rw[l];refine(QV B.sD B.mD p n M id (fun w'=>∃eF,eB KG tg eF w w'/\gq eF w' s p ey g.fs.got false lim) w c0 c1 d z H ((xu h.st hl hk).mono ?_)).mono ?_
   ·rintro e w' ⟨er,v,rfl,hv,eF,m,⟨_,rfl,hS⟩|⟨hc,_⟩,_⟩
    ·rw[hv (by decide)];exact⟨rfl,eF,m,hS⟩
    ·rw[q]at hc;cases hc
   ·rintro e w' ⟨rfl,eF,m,hS⟩
    exact⟨_,rfl,eF,m.mono (fun t ht=>uA ht),⟨h.two,hS.mono (gV _),h.wp.fs m (fun k _ _=>Ha h.two k) (gV _) ((h.wp.lS.moves m (Ha h.two 2)).mono (gV _)) ((h.wp.lT.moves m (Ha h.two 3)).mono (gV _))⟩,rfl,fun _ _ k _ hr=>hr.moves m (Ha h.two k)⟩
  |false=>
   have l:g.fs.gj id=({ g.fs with got:=g.fs.got++[id],kD:=fun x=>decide (x=id) ||g.fs.kD x },true):=by unfold FS.gj;rw[fY mG,fY (by rw[q];decide)]
   rw[l];refine(UB B.sD B.mD p n M id (fun la b lc w'=>∃a,Value.slice la b lc=.slice (some (eI a 0)) (eZ ey id).length (eZ ey id).length/\w.heap.size<=a/\w'.ownsRow 0 96 3 (.slice la b lc) (eZ ey id).length (flat (eZ ey id))/\∃eF,eF a=(0,0)/\eB KG tg eF w w'/\gq eF w' s p ey (g.fs.got++[id]) false (lim+1)) w c0 c1 d z H (by unfold maxLen;omega) ((xu h.st hl hk).mono ?_) ?_).mono ?_
   ·rintro e w' ⟨er,v,rfl,_,eF,m,⟨hc,_⟩|⟨_,rfl,hS⟩,hr⟩
    ·rw[q]at hc;cases hc
    ·obtain⟨a,rfl,I,D,f⟩:=hr rfl
     exact⟨_,_,_,rfl,a,rfl,I,f,eF,D,m,hS⟩
   ·rintro la b lc j ⟨_,_,_,_,eF,_,m,hS⟩
    have ht:=h.wp.tree.moves m (Ha h.two 1);exact⟨by simp[World.cell?,ht.hD],(d.moves m y (Ha h.two 3)).1⟩
   ·rintro e w' ⟨la,b,lc,rfl,j,⟨a,J,I,f,c,D,m,hS⟩,Q,K,R⟩
    have Y:=(d.moves m y (Ha h.two 3)).2;have hi:=h.two;have Z:a<j.heap.size:=eK f (by rw[J];rfl)
    -- S new row is S aa
    have L:jt (jN c a (i,3)) j:=fun k hk=>by rw[lp (by omega)];exact hS.fresh k hk
    have r:eB KG tg (jN c a (i,3)) w j:=⟨m.os,m.tape,m.output,m.size,fun k hk=>by rw[lp (by omega)];exact m.tags k hk,m.block,fun _=>L⟩;have T:gq (jN c a (i,3)) j s p ey (g.fs.got++[id]) false (lim+1):=hS.zk L (fun k hk=>lp (fun e=>by rw[e,D]at hk;cases hk) _);have N:jN c a (i,3) B.mD=(i,3):=(d.moves r y (Ha h.two 3)).2;have O:eB (fun t=>t=(i,3)) (jN c a (i,3)) (jN c a (i,3)) j w':=yi K R N;have E:eB (fun t=>KG t\/t=(i,3)) tg (jN c a (i,3)) w w':=(r.mono (fun t ht=>.inl ht)).trans (O.mono (fun t ht=>.inr ht));obtain⟨ab,ac,U⟩:=(d.moves r y (Ha h.two 3)).1.isMap;have hmg:∀v es k,lR (jN c a (i,3)) j (i,k) v es->lR (jN c a (i,3)) w' (i,k) v es:=fun v es k hr=>hr.keep (fun o u V=>⟨K.block o V (fun e=>by
     have W:o=B.mD:=by injection e
     rw[W]at u;exact ul hr.1 U u.symm),rfl⟩)
    have P:lR (jN c a (i,3)) w' (i,3) (.slice la b lc) (eZ ey id):=hmg _ _ _ ⟨f,fun o u=>by
     rw[J]at u;obtain rfl:a=o:=by simpa [Value.ownBlock]using u
     exact rG _ _ _⟩
    refine⟨_,rfl,_,E.mono (fun t ht=>ht.elim uA (fun e=>.inr (.inr e))),⟨h.two,?_,h.wp.fs E (fun k _ h3=>?_) (gV _) ?_ ?_⟩,P,fun v es k _ hr=>hmg _ _ _ (hr.moves r (Ha h.two k))⟩
    ·rw[show({ g.fs with got:=g.fs.got++[id],kD:=fun x=>decide (x=id) ||g.fs.kD x }:FS).brk=false from q]
     exact T.moves O (fun e=>by cases e) (fun e=>by cases e)
    ·rintro(h|h)
     ·exact Ha hi k h
     ·cases h;exact h3 rfl
    ·exact(h.wp.lS.moves E (by rintro(h|h);exact Ha hi 2 h;cases h)).mono (gV _)
    ·refine⟨N,n+1,_,fun x=>if x=id then .slice la b lc else G x,by omega,Q,fun x=>?_,fun x hx=>?_⟩
     ·by_cases hx:x=id
      ·subst hx;rw[kR];simp
      ·rw[gW (fun e=>hx (by injection e)),A x];simp[hx]
     ·by_cases F:x=id
      ·subst F
       show _/\lR _ _ _ (if x=x then _ else _) _;rw[ie rfl];exact⟨hk,P⟩
      ·show _/\lR _ _ _ (if x=id then _ else _) _
       rw[fY F];have nv:g.fs.kD x=true:=by simpa [F]using hx
       exact⟨(C x nv).1,hmg _ _ _ ((C x nv).2.moves r (Ha h.two 3))⟩
end
end Go.Proofs.YtlgidcmmgohagaaGreat
