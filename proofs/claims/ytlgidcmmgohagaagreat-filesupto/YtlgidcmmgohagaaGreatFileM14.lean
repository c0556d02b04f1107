/- What is proved here: Bytes. -/
import Derived.Test.YtlgidcmmgohagaaGreatFileM13
import Derived.Test.YtlgidcmmgohagaaGreatFileM01
import Derived.Lib.BufferWrite
import Derived.Laws.IdiomStrings
import Derived.OwnWalk
import Derived.Test.YtlgidcmmgohagaaGreatFileM04
namespace Go.Proofs.YtlgidcmmgohagaaGreat
open Go.RowKit
set_option linter.unusedVariables false
set_option maxRecDepth 100000 in
set_option maxHeartbeats 400000 in
theorem Lk(f:Nat)(d:eu)(w:World)(c1:w.cell? (eb f 1)=some (ed 0))(c2:w.cell? (eb f 2)=some (.string d)):
  eK 181 #[fj f] w (tz (.tuple #[.string d,ed 0]) w):=by
 go_enter Tryz.func181,Tryz.ntmps181;go_wp2;go_ret2;exact⟨rfl,rfl⟩
set_option maxRecDepth 100000 in
set_option maxHeartbeats 400000 in
theorem Ll(f b:Nat)(id er:Int)(d:eu)(R:World->Prop)(w:World)(hf:f<w.heap.size)(c0:w.cell? (eb f 0)=some (fj b))(c1:w.cell? (eb f 1)=some (ed id))(hid:id≠0)
  (hg:eK 213 #[fj b,ed id] w.drew fun e w'=>e=.returned (.tuple #[.string d,ed er])/\R w'):
  eK 181 #[fj f] w fun e w'=>e=.returned (.tuple #[.string d,ed er])/\R w':=by
 have c:(id==0)=false:=by simpa using hid
 go_enter Tryz.func181,Tryz.ntmps181;go_wp2
 go_region_with(go_at_call 213;refine hg.mono ?_;rintro e g ⟨rfl,a⟩)
 all_goals
  go_wp2;go_ret2;exact⟨rfl,a⟩
set_option maxRecDepth 100000 in
set_option maxHeartbeats 400000 in
theorem Ho(f:Nat)(x y z:Value)(w:World)(hf:f<w.heap.size)(c0:w.cell? (eb f 0)=some x)(c1:w.cell? (eb f 1)=some y)(c2:w.cell? (eb f 2)=some z)(f0:∀o,w.frozen? (eb f o)=false)
  (hc:(convert 204 9 (.slice none 0 0)).run Tryz.prog w=.ok (.string fy) w):
  eK 179 #[fj f] w fun e w'=>e=.returned (.tuple #[])/\w'=((w.setCell (eb f 0) (.pointer none)).setCell (eb f 1) (ed 0)).setCell (eb f 2) (.string fy):=by
 have hs:=EF f (.slice none 0 0) fy x y z w hf c0 c1 c2 f0 hc;go_enter Tryz.func179,Tryz.ntmps179;go_wp2_with(go_at_call 212;refine hs.mono ?_;rintro e a ⟨rfl,rfl⟩);go_end0;exact⟨rfl,rfl⟩
set_option maxRecDepth 100000 in
set_option maxHeartbeats 400000 in
theorem Ov(o:Nat)(fg pl n:Int)(w:World)(c1:w.cell? (eb o 1)=some (ed fg))(c2:w.cell? (eb o 2)=some (ed pl))(a:(bits BinOp.and IntKind.i64 fg 32 != 0)=false):
  eK 180 #[fj o,ed n] w (tz (ed pl) w):=by
 go_enter Tryz.func180,Tryz.ntmps180;go_wp2;go_ret;exact⟨rfl,rfl⟩
set_option maxRecDepth 100000 in
set_option maxHeartbeats 400000 in
theorem Q7(o f:Nat)(fg pl n:Int)(d:eu)(R:World->Prop)(w:World)(c0:w.cell? (eb o 0)=some (fj f))(c1:w.cell? (eb o 1)=some (ed fg))(c2:w.cell? (eb o 2)=some (ed pl))
  (i:(bits BinOp.and IntKind.i64 fg 1==0)=false)(hn:1<=n)(h0:0<=pl)(h1:pl<256)(hd:d.size<=256)
  (hg:eK 181 #[fj f] w fun e w'=>e=.returned (.tuple #[.string d,ed 0])/\R w')
  (g:∀a,R a->o<a.heap.size/\a.cell? (eb o 2)=some (ed pl)/\a.frozen? (eb o 2)=false):
  eK 125 #[fj o,ed n] w fun e w'=>e=.returned (.tuple #[.string (d.extract (min pl.toNat d.size) (min (min pl.toNat d.size+(min n (256-pl)).toNat) d.size)),ed 0])/\∃a,R a/\w'=a.setCell (eb o 2) (.int .i64 (pl+(d.extract (min pl.toNat d.size) (min (min pl.toNat d.size+(min n (256-pl)).toNat) d.size)).size)):=by
 have j:¬n<0:=by omega
 obtain⟨m,hm⟩:∃m,m=min n (256-pl):=⟨_,rfl⟩;have k:(m==0)=false:=by simp;omega
 have l:IntKind.i64.wrap (256-pl)=256-pl:=by rw[uP]<;>omega
 go_enter Tryz.func125,Tryz.ntmps125;go_wp2_with(go_at_call 181;refine hg.mono ?_;rintro e a ⟨rfl,b⟩;obtain⟨p,q,r⟩:=g a b);go_ret2;have c:(min pl (d.size:Int)).toNat=min pl.toNat d.size:=by omega
 have e2:(min (min pl (d.size:Int)+min n (256-pl)) (d.size:Int)).toNat=min (min pl.toNat d.size+(min n (256-pl)).toNat) d.size:=by omega
 have h:(min (min (min pl (d.size:Int)+min n (256-pl)) (d.size:Int)).toNat d.size-(min pl (d.size:Int)).toNat:Nat)=(d.extract (min pl.toNat d.size) (min (min pl.toNat d.size+(min n (256-pl)).toNat) d.size)).size:=by
  rw[Qu,<-e2,<-c]
 rw[h,c,e2];exact⟨rfl,a,b,rfl⟩
end Go.Proofs.YtlgidcmmgohagaaGreat
namespace Go.Proofs.YtlgidcmmgohagaaGreat
open Go.RowKit
set_option linter.unusedVariables false
def ql (old d:List UInt8)(a:Nat):List UInt8:=(old++List.replicate (max old.length (a+d.length)-old.length) 0).take a++d++(old++List.replicate (max old.length (a+d.length)-old.length) 0).drop (a+d.length)
def mo (old d:eu)(a:Nat):eu:=⟨(ql old.data.toList d.data.toList a).toArray⟩
theorem rW(old d:List UInt8)(a:Nat):(ql old d a).length=max old.length (a+d.length):=by
 unfold ql;simp;omega
def iI (w:World)(f:Nat)(d:eu):World:=((w.setCell ⟨f,0,none⟩ (.pointer none)).setCell ⟨f,1,none⟩ (.int .i64 0)).setCell ⟨f,2,none⟩ (.string d)
theorem Ow:(Tryz.prog.info? 5).map (fun i=>(i.zero,i.size,i.bytes))=some (some (.int .u8 0),1,1):=by kernel_rfl
theorem Cx:(Tryz.prog.info? 5).map (·.size)=some 1:=by kernel_rfl
theorem uk{P:Program}{w:World}{ops:Array Oper}{rest:List Oper}{o:Oper}{a:Act}{j:Exit->Act->World->Prop}(n:o.guard=none)(d x:Operand)(c sT:fL)
  (ho:o.op=.call { callee:=.builtin .copy,args:=#[d,x],argTypes:=#[c,sT] })(f:fL)(hu:P.underlying c=some (.slice f))(p:(P.info? f).map (·.size)=some 1)
  (g off i l:Nat)(s:eu)(hd:a.eval d=.slice (some (eb g off)) i l)(hs:a.eval x=.string s)
  (b:Array Value)(t:fL)(hg:w.heap[g]?=some (.cells b t (0,0)))(hle:s.size<=i)(q:off+s.size<=b.size)
  (new:Array Value)(r:new.toList=b.toList.take off++Lib.byteCells s.data.toList++b.toList.drop (off+s.size))
  (h:∀w',Hid (w'.heap[g]?=some (.cells new t (0,0)))->w.grownBy w' (some g)->wpList P ops j rest (a.put o.dst (goInt s.size)) w'):wpList P ops j (o::rest) a w:=by
 refine Ki n fun K u=>?_;have m:=Lib.run_copy_row_string (P:=P) w c sT o.type f g off i l s b t hu p hg hle q;rw[<-r,Array.toArray_toList]at m;unfold Oper.wp;simp[execOp,ho,resolve,invoke,builtin,hd,hs,m,Result.andThen];exact u _ _ (h _ (BX w g _ _ t _ hg) ⟨rfl,rfl,rfl,by simp,fun k hk hne=>xL w g k _ (fun e=>hne (by rw[e]))⟩)
theorem yK{w:World}{g n:Nat}(h:w.ownsRow 0 5 1 (.slice (some (eb g 0)) n n) n (madeCells (Value.int .u8 0).cells (n*1)).toList):∃a,Hid (w.heap[g]?=some (.cells a 5 (0,0)))/\Hid (a.toList=Lib.byteCells (List.replicate n 0)):=by
 rcases h.2 with⟨h0,_⟩|⟨e,f,a,hv,_,hg,_,_,c,b⟩
 ·cases h0
 ·cases hv
  refine⟨a,hg,?_⟩;show a.toList=_;have d:(madeCells (Value.int .u8 0).cells (n*1)).toList=List.replicate n (Value.int .u8 0):=by rw[Nat.mul_one];exact toList_madeCells_one _ n
  rw[d]at b;have e2:a.toList.take (n*1)=a.toList:=jH (by rw[kG,c];exact io _);rw[e2]at b;rw[b,Lib.byteCells,List.map_replicate];rfl
theorem sI{w a w3:World}(b:gS w a)(h:a.grownBy w3 (some w.heap.size)):Hid (gS w w3):=b.grown h b.size (fun k hk=>by cases hk;exact io _)
theorem Lm{w:World}{g:Nat}{l:List UInt8}(h:w.heap[g]?=some (.cells (Lib.byteCells l).toArray 5 (0,0)))(cap:Nat):(convert 204 9 (.slice (some (eb g 0)) l.length cap)).run Tryz.prog w=.ok (.string ⟨l.toArray⟩) w:=
 run_convert_bytes_back w 204 9 5 (eb g 0) cap l Qn Ut Qe (fun j hj=>by
  have h2:((eb g 0):Addr).add j=(eb g j):=by unfold Addr.add;split<;>simp_all
  rw[h2]
  simp[World.cell?,h,Lib.byteCells,hj])
theorem Ln{old:List UInt8}{n:Nat}(h:old.length<=n):Lib.byteCells (old++List.replicate (n-old.length) 0)=(Lib.byteCells (List.replicate n 0)).take 0++Lib.byteCells old++(Lib.byteCells (List.replicate n 0)).drop (0+old.length):=by
 simp[Lib.byteCells]
theorem Ox(l d:List UInt8)(a:Nat):Lib.byteCells (l.take a++d++l.drop (a+d.length))=(Lib.byteCells l).take a++Lib.byteCells d++(Lib.byteCells l).drop (a+d.length):=by
 simp[Lib.byteCells,List.map_take,List.map_drop]
theorem Lp{b c:World}(d:gS b c){f:Nat}(g:f<b.heap.size/\(∃x y z,b.cell? (eb f 0)=some x/\b.cell? (eb f 1)=some y/\b.cell? (eb f 2)=some z)/\∀o,b.frozen? (eb f o)=false):
  f<c.heap.size/\(∃x y z,c.cell? (eb f 0)=some x/\c.cell? (eb f 1)=some y/\c.cell? (eb f 2)=some z)/\∀o,c.frozen? (eb f o)=false:=by
 obtain⟨h1,⟨x,y,z,h2,h3,h⟩,i⟩:=g;have e:=d.block f h1;have hc:=fun o=>ig (a:=(eb f o)) e;have j:=fun o=>MW (a:=(eb f o)) e;exact⟨kv h1 d.size,⟨x,y,z,(hc 0).trans h2,(hc 1).trans h3,(hc 2).trans h⟩,fun o=>(j o).trans (i o)⟩
theorem Jy{a b:World}{f:Nat}{l:List UInt8}(cap:Nat)(c:gS a b)(d:f<a.heap.size/\(∃x y z,a.cell? (eb f 0)=some x/\a.cell? (eb f 1)=some y/\a.cell? (eb f 2)=some z)/\∀o,a.frozen? (eb f o)=false){g:Nat}(h:b.heap[g]?=some (.cells (Lib.byteCells l).toArray 5 (0,0))):
  eK 212 #[fj f,.slice (some (eb g 0)) l.length cap] b fun e w'=>e=.returned (.tuple #[])/\w'=iI b f ⟨l.toArray⟩:=by
 obtain⟨i,⟨x,y,z,j,k,k4⟩,k5⟩:=Lp c d;exact EF f _ ⟨l.toArray⟩ x y z b i j k k4 k5 (Lm h cap)
set_option maxRecDepth 100000 in
set_option maxHeartbeats 1000000 in
theorem EG(f a:Nat)(old d:eu)(R:World->Prop)(w:World)(P:1<=d.size)(Q:a+d.size<=256)(ho:old.size<=256)
  (hg:eK 181 #[fj f] w fun e w'=>e=.returned (.tuple #[.string old,ed 0])/\R w')
  (j:∀b,R b->f<b.heap.size/\(∃x y z,b.cell? (eb f 0)=some x/\b.cell? (eb f 1)=some y/\b.cell? (eb f 2)=some z)/\∀o,b.frozen? (eb f o)=false):
  eK 182 #[fj f,ed (a:Int),.string d] w fun e w'=>e=.returned (ed 0)/\∃b k,R b/\gS b k/\w'=iI k f (mo old d a):=by
 obtain⟨n,hn⟩:∃n:Nat,n=max old.size (a+d.size):=⟨_,rfl⟩;have S:max (old.size:Int) ((a:Int)+(d.size:Int))=(n:Int):=by omega
 have T:n<=256:=by omega
 have U:a<n:=by omega
 have l:old.size<=n:=by omega
 have V:a+d.size<=n:=by omega
 obtain⟨C,hi,D,E,F⟩:=H4 Ow;obtain⟨c,m⟩:∃c:List UInt8,c=old.data.toList++List.replicate (n-old.size) 0:=⟨_,rfl⟩;have h:Hid _:=m;obtain⟨g,i⟩:∃g:List UInt8,g=ql old.data.toList d.data.toList a:=⟨_,rfl⟩;have p:Hid _:=i;have G:g.length=n:=by rw[i,rW,hn,th,th]
 have H:Hid (n=max old.size (a+d.size)):=hn;have I:Hid _:=j;clear m i hn j;go_enter Tryz.func182,Tryz.ntmps182;go_wp2_with(first
  |(go_at_call 181;refine hg.mono ?_;rintro e b ⟨rfl,q⟩;have r:Hid _:=q;clear q)
  |(at_make;go_loud(refine M9 _ rfl _ _ 204 rfl 0 5 C _ 1 Qn hi D E .i64 .i64 _ _ n rfl rfl rfl rfl ?_ ?_ (oY _) ?_;go_must(rw[F];omega);go_must(unfold maxLen;omega);intro w3 s t;obtain⟨J,K,u⟩:=yK s;have L:Hid (gS b w3):=jW (i7 _ _) t;clear s t))
  |(refine uk rfl (.tmp 26) (.tmp 27) 204 9 rfl 5 Qn Cx b.heap.size 0 n n old rfl rfl J 5 K.out l ?_ (Lib.byteCells c).toArray ?_ ?_;go_must(rw[<-kG,u.out,Qy,s7];omega);go_must(rw[u.out,h.out,th];exact Ln (by rw[<-th];exact l));intro W M v;have N:=sI L.out v;clear v)
  |(refine uk rfl (.tmp 31) (.tmp 32) 204 9 rfl 5 Qn Cx b.heap.size a (n-a) (n-a) d rfl rfl (Lib.byteCells c).toArray 5 M.out ?_ ?_ (Lib.byteCells g).toArray ?_ ?_;go_must(omega);go_must(rw[zO,Qy,h.out,jM,s7,<-th];omega);go_must(rw[p.out,h.out,ql,th,th,H.out,th,th];exact Ox _ _ _);intro w5 O A;have B:=sI N.out A;clear A)
  |(go_at_call 212;go_loud(rw[<-G];refine(Jy _ B.out (I.out _ r.out) O.out).mono ?_;rintro e w6 ⟨rfl,rfl⟩)))
 go_ret;exact⟨rfl,b,w5,r.out,B.out,by unfold mo;rw[<-p.out]⟩
end Go.Proofs.YtlgidcmmgohagaaGreat
namespace Go.Proofs.YtlgidcmmgohagaaGreat
open Go.RowKit
set_option linter.unusedVariables false
def xc (fg pl n:Int):Int:=if(bits BinOp.and IntKind.i64 fg 32 != 0)=true then n else pl
theorem mq{d:eu}(h:1<=d.size):(d.toList==[])=false:=by
 cases hl:d.toList with
 |nil=>
  rw[uL]at hl;have h2:d.size=0:=by rw[th,hl];rfl
  omega
 |cons x r=>rfl
theorem nW(o:Nat)(fg pl n:Int)(w:World)(c1:w.cell? (eb o 1)=some (ed fg))(c2:w.cell? (eb o 2)=some (ed pl)):
  eK 180 #[fj o,ed n] w (tz (ed (xc fg pl n)) w):=by
 unfold xc;cases h:(bits BinOp.and IntKind.i64 fg 32 != 0) with
 |true=>exact Lj o fg pl n w c1 h
 |false=>exact Ov o fg pl n w c1 c2 h
set_option maxRecDepth 100000 in
set_option maxHeartbeats 400000 in
theorem Hp(o:Nat)(fg:Int)(w:World)(c1:w.cell? (eb o 1)=some (ed fg))(a:(bits BinOp.and IntKind.i64 fg 2==0)=false):
  eK 123 #[fj o,.string fy] w (tz (ed 0) w):=by
 go_enter Tryz.func123,Tryz.ntmps123;go_wp2;go_ret;exact⟨rfl,rfl⟩
set_option maxRecDepth 100000 in
set_option maxHeartbeats 400000 in
theorem Oy(o f:Nat)(fg pl a:Int)(old d:eu)(R S:World->Prop)(w:World)(c0:w.cell? (eb o 0)=some (fj f))(c1:w.cell? (eb o 1)=some (ed fg))(c2:w.cell? (eb o 2)=some (ed pl))
  (u:(bits BinOp.and IntKind.i64 fg 2==0)=false)(hd:1<=d.size)(h0:0<=xc fg pl 0)(h1:xc fg pl 0+d.size<=256)(p:xc fg pl old.size=a)(v:0<=a)(x:a+d.size<=256)
  (hg:eK 181 #[fj f] w fun e w'=>e=.returned (.tuple #[.string old,ed 0])/\R w')
  (g:∀b,R b->b.cell? (eb o 0)=some (fj f)/\b.cell? (eb o 1)=some (ed fg)/\b.cell? (eb o 2)=some (ed pl))
  (hw:∀b,R b->eK 182 #[fj f,ed a,.string d] b fun e w'=>e=.returned (ed 0)/\S w')
  (hS:∀c,S c->o<c.heap.size/\c.cell? (eb o 2)=some (ed pl)/\c.frozen? (eb o 2)=false):
  eK 123 #[fj o,.string d] w fun e w'=>e=.returned (ed 0)/\∃c,S c/\w'=c.setCell (eb o 2) (ed (a+d.size)):=by
 have l:=nW o fg pl 0 w c1 c2;have i:=fun b (h:R b)=>nW o fg pl old.size b (g b h).2.1 (g b h).2.2;simp only[p]at i;generalize xc fg pl 0=j at l h0 h1;have y:=mq hd;have z:IntKind.i64.wrap (j+d.size)=j+d.size:=by rw[uP]<;>omega
 have H2:¬256<j+(d.size:Int):=by omega
 have A:IntKind.i64.wrap (a+d.size)=a+d.size:=by rw[uP]<;>omega
 have B:¬256<a+(d.size:Int):=by omega
 have q:Hid _:=g;have r:Hid _:=hw;have s:Hid _:=hS;have t:Hid _:=i;clear g hw hS i;go_enter Tryz.func123,Tryz.ntmps123;go_wp2_with(first
  |(go_at_call_of 180 (Value.int .i64 0);refine l.mono ?_;rintro e b ⟨rfl,rfl⟩)
  |(go_at_call 181;refine hg.mono ?_;rintro e b ⟨rfl,k⟩;obtain⟨C,D,E⟩:=q.out b k;have m:Hid _:=k;clear k)
  |(go_at_call 180;refine(t.out _ m.out).mono ?_;rintro e c ⟨rfl,rfl⟩)
  |(go_at_call 182;refine(r.out _ m.out).mono ?_;rintro e w3 ⟨rfl,n⟩;obtain⟨F,G,H⟩:=s.out w3 n))
 go_ret;exact⟨rfl,w3,n,rfl⟩
end Go.Proofs.YtlgidcmmgohagaaGreat
namespace Go.Proofs.YtlgidcmmgohagaaGreat
open Go.RowKit
set_option linter.unusedVariables false
def jg (w:World)(b:Nat)(a:Nat->Option Nat):Prop:=b<w.heap.size/\(∀k,k<8->w.cell? ⟨b,1+k,none⟩=some (.pointer ((a k).map fun x=>⟨x,0,none⟩)))/\∀o,w.frozen? ⟨b,o,none⟩=false
theorem A7(x:Nat)(W:World):(binOp .eql 86 (.pointer none) (fj x)).run Tryz.prog W=.ok (.bool false) W:=by kernel_rfl
theorem Hq(x:Nat)(W:World):(binOp .eql 86 (fj x) (.pointer none)).run Tryz.prog W=.ok (.bool false) W:=by kernel_rfl
set_option maxRecDepth 100000 in
set_option maxHeartbeats 400000 in
theorem Hr(b k:Nat)(a:Nat->Option Nat)(w:World)(h:jg w b a)(hk:k<8)(h0:a k=none)(h1:∀j,j<k->a j≠none):
  eK 176 #[.slice (some (eb b 1)) 8 8,.pointer none] w (tz (ed (k:Int)) w):=by
 obtain⟨m,hc,_⟩:=h;have d:Hid _:=hc;have e:Hid _:=h1;have f:Hid _:=h0;clear hc h1 h0;go_enter Tryz.func176,Tryz.ntmps176;go_wp2
 go_loopw [8] (fun i wr=>∃j:Nat,j<=k/\i=.int .i64 (j:Int)/\wr=w) (fun i _=>k-(intOf i).toNat)
 case atStart=>exact⟨0,oY _,rfl,rfl⟩
 case round=>
  obtain⟨j,hj,rfl,rfl⟩:=hrel;have g:j<8:=by omega
  have c:=d.out j g;have n:(j:Int)<8:=by omega
  by_cases l:j=k
  ·subst l
   rw[f.out,Option.map_none]at c;go_wp2;go_ret;exact⟨rfl,rfl⟩
  ·cases hv:a j with
   |none=>exact absurd hv (e.out j (by omega))
   |some x=>
    rw[hv,jS]at c;have hq:∀W,(binOp .eql 86 (.pointer none) (fj x)).run Tryz.prog W=.ok (.bool false) W:=A7 x;go_wp2;go_roundw
    case rel=>exact⟨j+1,by omega,by go_num,trivial⟩
    case measure=>simp[intOf];omega
set_option maxRecDepth 100000 in
set_option maxHeartbeats 400000 in
theorem A8(b k:Nat)(a:Nat->Option Nat)(w:World)(h:jg w b a)(hk:k<8)(h0:a k=none)(h1:∀j,j<k->a j≠none):
  eK 119 #[.pointer (some (eb b 1))] w (tz (.tuple #[ed (k:Int),ed 0]) w):=by
 have hi:=Hr b k a w h hk h0 h1;have c:¬(k:Int)<0:=by omega
 clear h h0 h1;go_enter Tryz.func119,Tryz.ntmps119;go_wp2_with(go_at_call 176;refine hi.mono ?_;rintro e d ⟨rfl,rfl⟩);go_ret2;exact⟨rfl,rfl⟩
set_option maxRecDepth 100000 in
set_option maxHeartbeats 400000 in
theorem Lr(b k f:Nat)(fg:Int)(x:Value)(w:World)(a:b<w.heap.size)(hc:w.cell? (eb b (1+k))=some x)(c:w.frozen? (eb b (1+k))=false)(hk:k<8):
  eK 121 #[.pointer (some (eb b 1)),ed (k:Int),fj f,ed fg] w fun e w'=>e=.returned (.tuple #[])/\w'=(w.setCell (eb b (1+k)) (fj w.heap.size)).alloc (.cells #[fj f,ed fg,ed 0] 277):=by
 have d:(k:Int)<8:=by omega
 go_enter Tryz.func121,Tryz.ntmps121;go_wp2;go_end0;exact⟨rfl,rfl⟩
set_option maxRecDepth 100000 in
set_option maxHeartbeats 400000 in
theorem qm(b k x:Nat)(w:World)(hc:w.cell? (eb b (1+k))=some (fj x))(hk:k<8):
  eK 122 #[.pointer (some (eb b 1)),ed (k:Int)] w (tz (.tuple #[fj x,ed 0]) w):=by
 have a:(k:Int)<8:=by omega
 have c:¬(k:Int)<0:=by omega
 have hq:=Hq x;go_enter Tryz.func122,Tryz.ntmps122;go_wp2;go_ret2;exact⟨rfl,rfl⟩
set_option maxRecDepth 100000 in
set_option maxHeartbeats 400000 in
theorem EH(b k x:Nat)(w:World)(c:b<w.heap.size)(hc:w.cell? (eb b (1+k))=some (fj x))(d:w.frozen? (eb b (1+k))=false)(hk:k<8):
  eK 124 #[.pointer (some (eb b 1)),ed (k:Int)] w fun e w'=>e=.returned (ed 0)/\w'=w.setCell (eb b (1+k)) (.pointer none):=by
 have f:(k:Int)<8:=by omega
 have g:¬(k:Int)<0:=by omega
 have a:=qm b k x w hc hk;go_enter Tryz.func124,Tryz.ntmps124;go_wp2_with(go_at_call 122;refine a.mono ?_;rintro e h ⟨rfl,rfl⟩);go_ret;exact⟨rfl,rfl⟩
end Go.Proofs.YtlgidcmmgohagaaGreat
namespace Go.Proofs.YtlgidcmmgohagaaGreat
open Go.RowKit Go.Sort Go.Shelf
set_option linter.unusedVariables false
set_option maxRecDepth 100000
set_option maxHeartbeats 16000000
def i6 (l:eB):eu:=⟨(IH (l.map w7)).toArray⟩
theorem qo(s:eu)(w:World):eK 215 #[.string s,.string ⟨#[47]⟩] w (tz (ed (Lib.indexByte s.data.toList 47)) w):=by
 by_cases hs:s=⟨#[47]⟩
 ·subst hs
  go_enter Tryz.func215,Tryz.ntmps215;go_wp2;go_ret;exact⟨rfl,rfl⟩
 ·have hq:([47]==s.toList)=false:=by
   cases h:([47]==s.toList) with
   |false=>rfl
   |true=>
    have h2:[47]=s.toList:=by simpa using h
    rw[uL]at h2;exact absurd (bytes_inj (a:=⟨#[47]⟩) h2).symm hs
  have hi:=Tryz.stringslite_IndexByte s 47 w;rw[show((47:Int).toNat.toUInt8)=47 from rfl]at hi;generalize Lib.indexByte s.data.toList 47=k at hi ⊢;go_enter Tryz.func215,Tryz.ntmps215;go_wp2_with(go_at_call 216;refine hi.mono ?_;rintro e b ⟨rfl,rfl⟩);go_ret;exact⟨rfl,rfl⟩
theorem A9(s:eu)(w:World)(h:Lib.indexByte s.data.toList 47=-1):eK 184 #[.string s,.string ⟨#[47]⟩] w (tz (.tuple #[.string s,.string fy,.bool false]) w):=by
 have hi:=qo s w;rw[h]at hi;go_enter Tryz.func184,Tryz.ntmps184;go_wp2_with(go_at_call 215;refine hi.mono ?_;rintro e a ⟨rfl,rfl⟩);exact jr (v:=.tuple #[.string s,.string fy,.bool false]) (by simp[results,Tryz.results184,go_sem]) rfl ⟨rfl,rfl⟩
theorem Ls(s:eu)(k:Nat)(w:World)(h:Lib.indexByte s.data.toList 47=(k:Int))(hk:k<s.size)(hm:s.size<=1000):eK 184 #[.string s,.string ⟨#[47]⟩] w (ml (.tuple #[.string (s.extract 0 k),.string (s.extract (k+1) s.size),.bool true]) w):=by
 have hi:=qo s w;rw[h]at hi;have hw:IntKind.i64.wrap ((k:Int)+1)=(k:Int)+1:=by rw[uP]<;>omega
 have a:(0:Int)<=k:=by omega
 go_enter Tryz.func184,Tryz.ntmps184;go_wp2_with(go_at_call 215;refine hi.mono ?_;rintro e b ⟨rfl,rfl⟩)
 go_region
 all_goals
  go_wp2;exact jr (v:=.tuple #[.string (s.extract 0 k),.string (s.extract (k+1) s.size),.bool true]) (by simp[results,Tryz.results184,go_sem]) rfl ⟨rfl,eQ (i7 _ _)⟩
theorem um(s a b:eu)(c:Bool)(w:World)(h:eK 184 #[.string s,.string ⟨#[47]⟩] w (ml (.tuple #[.string a,.string b,.bool c]) w)):
  eK 128 #[.string s,.string ⟨#[47]⟩] w (ml (.tuple #[.string a,.string b,.bool c]) w):=by
 go_enter Tryz.func128,Tryz.ntmps128;go_wp2_with(go_at_call 184;refine h.mono ?_;rintro e f ⟨rfl,d⟩);exact jr (v:=.tuple #[.string a,.string b,.bool c]) (by simp[results,Tryz.results128,go_sem]) rfl ⟨rfl,d⟩
theorem index_first:∀(a b:List UInt8),(∀c∈a,c≠47)->Lib.indexByte (a++47::b) 47=(a.length:Int)
 |[],b,_=>by simp[Lib.indexByte]
 |c::r,b,h=>by
  have e:=index_first r b (fun d hd=>h d (mI _ hd))
  have hc:c≠47:=h c (ir ..)
  rw[rM,Lib.indexByte,e,eJ (by simpa using hc),eJ (by simp)]
  simp
theorem oO:∀(a:List UInt8),(∀c∈a,c≠47)->Lib.indexByte a 47=-1
 |[],_=>rfl
 |c::r,h=>by
  have b:=oO r (fun d hd=>h d (mI _ hd))
  have hc:c≠47:=h c (ir ..)
  rw[Lib.indexByte,b,eJ (by simpa using hc)]
  rfl
theorem Ba{x:eu}(h:ez x=true):∀c∈w7 x,c≠47:=by
 have h2:Lib.indexByte (w7 x) 47<0:=by
  unfold ez at h;simp only[uM,rL]at h;exact h.2
 have h3:=Lib.indexByte_ge (w7 x) 47;intro c hc e;obtain⟨k,hk,a⟩:=mH hc;exact Lib.indexByte_none (l:=w7 x) (c:=47) (by omega) k (by rw[gJ hk,a,e])
theorem j6(x:eu){r:eB}(h:r≠[]):w7 (i6 (x::r))=w7 x++47::w7 (i6 r):=by
 show(IH ((x::r).map w7)).toArray.toList=_;rw[WF,l7 _ (by simpa using h)];rfl
theorem nX(x:eu):i6 [x]=x:=yi rfl
theorem q7:i6 []=fy:=rfl
theorem mU(s:eu)(a b:Nat):w7 (s.extract a b)=((w7 s).take b).drop a:=by
 unfold w7;simp[ByteArray.data_extract,List.drop_take]
theorem Q8(x:eu)(r:eB)(hx:ez x=true)(hm:(i6 (x::r)).size<=1000)(w:World):
  eK 128 #[.string (i6 (x::r)),.string ⟨#[47]⟩] w (ml (.tuple #[.string x,.string (i6 r),.bool (!r.isEmpty)]) w):=by
 cases r with
 |nil=>
  rw[nX,q7];exact um _ _ _ _ w ((A9 x w (oO _ (Ba hx))).mono fun e w' ⟨h1,h2⟩=>⟨h1,by rw[h2];exact i7 _ _⟩)
 |cons y t=>
  have h1:=j6 x (r:=y::t) (by simp);have h2:Lib.indexByte (w7 (i6 (x::y::t))) 47=((w7 x).length:Int):=by rw[h1];exact index_first _ _ (Ba hx)
  have h3:(i6 (x::y::t)).size=(w7 x).length+1+(w7 (i6 (y::t))).length:=by rw[<-ly,h1,jM,gK];omega
  have a:=Ls (i6 (x::y::t)) (w7 x).length w h2 (by omega) hm;have b:(i6 (x::y::t)).extract 0 (w7 x).length=x:=yi (by rw[mU,h1,List.take_left,xI]);have e2:(i6 (x::y::t)).extract ((w7 x).length+1) (i6 (x::y::t)).size=i6 (y::t):=yi (by
   rw[mU,jH (by rw[ly];exact io _),h1,show w7 x++47::w7 (i6 (y::t))=(w7 x++[47])++w7 (i6 (y::t)) by simp];exact Nl (by simp))
  rw[b,e2]at a;exact um _ _ _ _ w a
theorem vt:∀{l:eB},eA l->(i6 l).size<=13*l.length
 |[],_=>by simp[q7,ByteArray.size]
 |[x],h=>by
  rw[nX]
  have:=(p2 (h x (by simp))).2
  simp;omega
 |x::y::t,h=>by
  have h1:=j6 x (r:=y::t) (by simp)
  have h2:=(p2 (h x (by simp))).2
  have h3:=vt (l:=y::t) (fun z a=>h z (by simp[a]))
  have b:(i6 (x::y::t)).size=(w7 x).length+1+(w7 (i6 (y::t))).length:=by rw[<-ly,h1,jM,gK];omega
  rw[b,ly,ly]
  simp at h3 ⊢
  omega
def fq (w:World)(b:Nat)(l:eB):Prop:=b<w.heap.size/\∀k,k<5->w.cell? ⟨b,k,none⟩=some (.string (l.getD k ⟨#[]⟩))/\w.frozen? ⟨b,k,none⟩=false
theorem fq.keep{w w':World}{b:Nat}{l:eB}(h:fq w b l)(a:gS w w'):fq w' b l:=
 ⟨kv h.1 a.size,fun k hk=>⟨((gc a).1 b k h.1).trans (h.2 k hk).1,((gc a).2 b k h.1).trans (h.2 k hk).2⟩⟩
theorem fq.five{w:World}{b:Nat}{l:eB}(h:fq w b l):(w.cell? (eb b 0)=some (.string (l.getD 0 fy))/\w.cell? (eb b 1)=some (.string (l.getD 1 fy))/\w.cell? (eb b 2)=some (.string (l.getD 2 fy))/\w.cell? (eb b 3)=some (.string (l.getD 3 fy))/\w.cell? (eb b 4)=some (.string (l.getD 4 fy)))/\∀k,k<5->w.frozen? (eb b k)=false:=
 ⟨⟨(h.2 0 (by omega)).1,(h.2 1 (by omega)).1,(h.2 2 (by omega)).1,(h.2 3 (by omega)).1,(h.2 4 (by omega)).1⟩,fun k hk=>(h.2 k hk).2⟩
theorem Jz{b c j k:Nat}(h:b≠c\/j≠k):((eb b j):Addr)≠(eb c k):=fun e=>by
 simp only[Addr.mk.injEq,tj]at e
 rcases h with h|h
 ·exact h e.1
 ·exact h e.2
theorem fq.put{w:World}{b j:Nat}{l m:eB}(h:fq w b l)(hm:∀k,k<5->k≠j->m.getD k fy=l.getD k fy)(c:j<5):fq (w.setCell (eb b j) (.string (m.getD j fy))) b m:=by
 refine⟨by simpa using h.1,fun k hk=>⟨?_,by rw[World.frozen?_setCell];exact(h.2 k hk).2⟩⟩;by_cases e:k=j
 ·subst e
  exact World.cell?_setCell_same _ _ _ (h.2 k hk).1
 ·rw[World.cell?_setCell_other _ _ _ _ (Jz (.inr (fun a=>e a.symm))),hm k hk e]
  exact(h.2 k hk).1
theorem fq.set{w:World}{b j:Nat}{l:eB}(h:fq w b (l.take j))(a:j<5):fq (w.setCell (eb b j) (.string (l.getD j fy))) b (l.take (j+1)):=by
 have:=h.put (m:=l.take (j+1)) (j:=j) (fun k hk hne=>?_) a
 ·rwa [show(l.take (j+1)).getD j fy=l.getD j fy by rw[s5,s5,xG,fY (Nat.lt_succ_self _)]]at this
 ·rw[s5,s5,xG,xG]
  by_cases hk2:k<j
  ·rw[fY hk2,fY (by omega)]
  ·rw[eJ hk2,eJ (by omega)]
theorem fq.over{w:World}{b j:Nat}{l:eB}(h:fq w b l)(a:j<5):fq (w.setCell (eb b j) (.string (l.getD j fy))) b l:=h.put (fun _ _ _=>rfl) a
theorem fq.other{w:World}{b c j:Nat}{l:eB}{v:Value}(h:fq w b l)(hc:c≠b):fq (w.setCell (eb c j) v) b l:=
 ⟨by simpa using h.1,fun k hk=>⟨by rw[World.cell?_setCell_other _ _ _ _ (Jz (.inl hc))];exact(h.2 k hk).1,by rw[World.frozen?_setCell];exact(h.2 k hk).2⟩⟩
theorem Hs{k:Nat}(h:k<5):k=0\/k=1\/k=2\/k=3\/k=4:=by omega
theorem fq.of_block{w:World}{b:Nat}(h:w.heap[b]?=some (.cells (ii fy fy fy fy fy) 147 (0,0))):fq w b []:=by
 refine⟨(lF.1 h).1,fun k hk=>?_⟩;rcases Hs hk with rfl|rfl|rfl|rfl|rfl<;>simp[World.cell?,World.frozen?,h]
theorem Bb(w:World):fq ((w.alloc (.cells (ii fy fy fy fy fy) 147)).alloc (.cells (ii fy fy fy fy fy) 147)) w.heap.size []:=.of_block (SD w _ _)
theorem Bc(w:World):fq ((w.alloc (.cells (ii fy fy fy fy fy) 147)).alloc (.cells (ii fy fy fy fy fy) 147)) (w.heap.size+1) []:=.of_block (heap_alloc2_new w _ _)
theorem Lq(l:eB)(hl:Good l)(w:World):eK 69 #[.string (i6 l)] w (ml (.tuple #[hP l,ed 0]) w):=by
 have V:=vt hl.val;have ap:=hl.len;have hcut:∀j (hj:j<l.length) W,eK 128 #[.string (i6 (l.drop j)),.string ⟨#[47]⟩] W (ml (.tuple #[.string (l.getD j fy),.string (i6 (l.drop (j+1))),.bool (decide (j+1<l.length))]) W):=by
  intro j hj W;have b:l.drop j=l[j]::l.drop (j+1):=Dj hj;have hv:ez l[j]=true:=hl.val _ (iF hj);have hm:(i6 (l.drop j)).size<=1000:=by
   have:=vt (l:=l.drop j) (fun x hx=>hl.val x (Gf hx))
   have h2:(l.drop j).length<=5:=by rw[jl];omega
   omega
  rw[b]at hm
  have:=Q8 l[j] (l.drop (j+1)) hv hm W
  rw[<-b]at this;have e2:(!(l.drop (j+1)).isEmpty)=decide (j+1<l.length):=by
   by_cases h:j+1<l.length
   ·rw[jT h,Dj h];rfl
   ·rw[m6 h,J7 (by omega)];rfl
  rw[e2]at this;rw[s5,gJ hj,nG];exact this
 have H:∀j (hj:j<l.length) W,eK 129 #[.string (l.getD j fy)] W (tz (.bool true) W):=by
  intro j hj W;have hv:ez l[j]=true:=hl.val _ (iF hj);rw[s5,gJ hj,nG]
  have:=uR l[j] W (by have:=(p2 hv).2;unfold maxLen;omega)
  rwa [hv]at this
 have I:∀j W,eK 130 #[.string (l.getD j fy)] W (ml (.string (l.getD j fy)) W):=fun j W=>qN _ W (by
  rw[s5];cases hj:l[j]? with
  |none=>simp[ByteArray.size]
  |some x=>
   have:=(p2 (hl.val x (MU hj))).2
   rw[nG];omega)
 have hne:(!(i6 l).toList.isEmpty)=decide (0<l.length):=by
  rw[y0]
  match l,hl with
  |[],_=>rfl
  |[x],hl=>
   have:=ww (hl.val x (by simp))
   rw[y0]at this;rw[nX];cases h:w7 x with
   |nil=>rw[h]at this;cases this
   |cons c r=>rfl
  |x::y::r,_=>
   rw[j6 x (by simp)];simp
 have X:Hid _:=hcut;have Y:Hid _:=H;have Z:Hid _:=I;clear hcut H I V;go_enter Tryz.func69,Tryz.ntmps69;go_wp2;have aa:Hid (fq ((w.alloc (.cells (ii fy fy fy fy fy) 147)).alloc (.cells (ii fy fy fy fy fy) 147)) w.heap.size []):=Bb w;have ab:Hid (fq ((w.alloc (.cells (ii fy fy fy fy fy) 147)).alloc (.cells (ii fy fy fy fy fy) 147)) (w.heap.size+1) []):=Bc w
 go_loopw [5,6,7] (fun r m i wr=>∃j:Nat,j<=l.length/\i=.int .i64 (j:Int)/\m=.bool (decide (j<l.length))/\r=.string (i6 (l.drop j))/\gS w wr/\Hid (fq wr w.heap.size [])/\Hid (fq wr (w.heap.size+1) (l.take j))) (fun _ _ i _=>l.length-(intOf i).toNat)
 case atStart=>exact⟨0,oY _,rfl,rfl,rfl,((i7 _ _).alloc (io _) _).alloc (by simp) _,aa.out,ab.out⟩
 case round=>
  obtain⟨j,hj,rfl,rfl,rfl,J,K,f⟩:=hrel;by_cases o:j<l.length
  ·rw[jT o]
   have L:j<5:=by omega
   have aq:((j:Int)==5)=false:=by simp;omega
   have ar:(j:Int)<5:=by omega
   have A:=X.out j o;have M:=Y.out j o;have ac:w.heap.size+1<wr.heap.size:=f.out.1;generalize hm:decide (j+1<l.length)=au at A;have ad:Hid _:=hm;generalize hx:l.getD j fy=x at A M;have p:Hid _:=hx;clear hm hx;go_wp2_with fail;refine g7 (A wr) ?_;rintro e B ⟨rfl,a⟩;have N:w.heap.size+1<B.heap.size:=kv ac a.size;have ae:=((f.out.keep a).2 j L);obtain⟨af,av⟩:=ae;generalize (l.take j).getD j fy=aw at af;go_wp2_with(go_at_call 129;refine g7 (M _) ?_;rintro e ax ⟨rfl,rfl⟩);go_roundw
   case rel=>
    refine⟨j+1,by omega,by go_num,by rw[ad.out],rfl,?_,?_,?_⟩
    ·refine oz ?_ (by simp) _
     exact em J a
    ·exact(K.out.keep a).other (by omega)
    ·rw[<-p.out];exact(f.out.keep a).set L
   case measure=>simp[intOf];omega
  ·rw[m6 o]
   have ag:j=l.length:=by omega
   subst ag;rw[uO]at f;rw[List.drop_length];go_wp2
   go_loopw [32] (fun i wr=>∃k:Nat,k<=5/\i=.int .i64 (k:Int)/\gS w wr/\Hid (fq wr w.heap.size [])/\Hid (fq wr (w.heap.size+1) l)) (fun i _=>5-(intOf i).toNat)
   case atStart=>exact⟨0,by omega,rfl,J,K,f⟩
   case round=>
    obtain⟨k,hk,rfl,O,C,g⟩:=hrel;have ay:w.heap.size<wr.heap.size:=C.out.1;have N:w.heap.size+1<wr.heap.size:=g.out.1;by_cases D:k<5
    ·have ah:(k:Int)<5:=by omega
     obtain⟨kc,az⟩:=g.out.2 k D;have P:=Z.out k;generalize hx:l.getD k fy=x at P kc;have p:Hid _:=hx;clear hx;go_wp2_with fail;refine g7 (P wr) ?_;rintro e B ⟨rfl,a⟩;obtain⟨ai,aA⟩:=(g.out.keep a).2 k D;rw[p.out]at ai;have aB:w.heap.size+1<B.heap.size:=kv N a.size;go_wp2;go_roundw
     case rel=>
      refine⟨k+1,by omega,by go_num,?_,?_,?_⟩
      ·refine oz ?_ (by simp) _
       exact em O a
      ·exact(C.out.keep a).other (by omega)
      ·rw[<-p.out];exact(g.out.keep a).over D
     case measure=>simp[intOf];omega
    ·have ah:¬(k:Int)<5:=by omega
     obtain⟨⟨aj,ak,al,am,an⟩,ao⟩:=g.out.five;obtain⟨⟨q0,Q,R,S,T⟩,d⟩:=C.out.five;have aC:=d 0 (by omega);have aD:=d 1 (by omega);have aE:=d 2 (by omega);have aF:=d 3 (by omega);have aG:=d 4 (by omega);clear ao d;obtain⟨q,s,t,u,z,U⟩:∃q s t u z,et l=(ii q s t u z):=⟨_,_,_,_,_,rfl⟩;simp only[et,Gn,pS,Value.string.injEq,tj]at U;obtain⟨E,b,e2,F,G⟩:=U;rw[E]at aj;rw[b]at ak;rw[e2]at al;rw[F]at am;rw[G]at an;have n:Hid _:=And.intro E (And.intro b (And.intro e2 (And.intro F G)));clear E b e2 F G;simp only[k8]at q0 Q R S T;have hv:hP l=.agg (ii q s t u z):=by
      unfold hP et;rw[n.out.1,n.out.2.1,n.out.2.2.1,n.out.2.2.2.1,n.out.2.2.2.2]
     go_wp2;exact jr (v:=.tuple #[.agg (ii q s t u z),ed 0]) (by simp[results,Tryz.results69,go_sem,q0,Q,R,S,T]) rfl ⟨rfl,by
      repeat(refine oz ?_ (by simp) _)
      exact O⟩
def letters:eB:=[⟨#[97]⟩,⟨#[98]⟩,⟨#[99]⟩,⟨#[100]⟩]
abbrev eM:=Nat->Nat×Nat
def gF (tg:eM)(w:World):Prop:=∀k,w.heap.size<=k->tg k=(0,0)
structure eo (P:Nat×Nat->Prop)(tg ey:eM)(w w':World):Prop where
 os:w'.os=w.os
 tape:w'.tape=w.tape
 output:w'.output=w.output
 size:w.heap.size<=w'.heap.size
 tags:∀k,k<w.heap.size->ey k=tg k
 block:∀k,k<w.heap.size->¬P (tg k)->w'.heap[k]?=w.heap[k]?
 fresh:gF tg w->gF ey w'
theorem eo.refl(P:Nat×Nat->Prop)(tg:eM)(w:World):eo P tg tg w w:=⟨rfl,rfl,rfl,io _,fun _ _=>rfl,fun _ _ _=>rfl,id⟩
theorem eo.ew{P:Nat×Nat->Prop}{tg:eM}{w w':World}(h:gS w w'):eo P tg tg w w':=⟨h.os,h.tape,h.output,h.size,fun _ _=>rfl,fun k hk _=>h.block k hk,fun hf k hk=>hf k (pD h.size hk)⟩
theorem eo.trans{P:Nat×Nat->Prop}{tg ey c:eM}{w w' d:World}(h:eo P tg ey w w')(k:eo P ey c w' d):eo P tg c w d:=
 ⟨k.os.trans h.os,k.tape.trans h.tape,k.output.trans h.output,pD h.size k.size,fun b a=>(k.tags b (kv a h.size)).trans (h.tags b a),
  fun b a e=>(k.block b (kv a h.size) (by rw[h.tags b a];exact e)).trans (h.block b a e),fun hf=>k.fresh (h.fresh hf)⟩
theorem eo.mono{P a:Nat×Nat->Prop}{tg ey:eM}{w w':World}(h:eo P tg ey w w')(b:∀t,P t->a t):eo a tg ey w w':=
 ⟨h.os,h.tape,h.output,h.size,h.tags,fun k hk hn=>h.block k hk (fun hp=>hn (b _ hp)),h.fresh⟩
def gY (tg:eM)(b:Nat)(t:Nat×Nat):eM:=fun k=>if k=b then t else tg k
theorem oP(tg:eM)(b:Nat)(t:Nat×Nat):gY tg b t b=t:=by unfold gY;rw[fY rfl]
theorem jh{tg:eM}{b k:Nat}(h:k≠b)(t:Nat×Nat):gY tg b t k=tg k:=by unfold gY;rw[eJ h]
theorem eo.at{P:Nat×Nat->Prop}{tg ey:eM}{w w':World}(h:eo P tg ey w w'){b:Nat}{o:Obj}(a:w.heap[b]?=some o){t:Nat×Nat}(ht:tg b=t)(hn:¬P t):w'.heap[b]?=some o/\ey b=t:=by
 have hl:=(lF.1 a).1;exact⟨(h.block b hl (by rw[ht];exact hn)).trans a,(h.tags b hl).trans ht⟩
def jD (tg:eM)(w:World)(t:Nat×Nat)(v:Value)(es:List eD):Prop:=w.ownsRow 0 96 3 v es.length (flat es)/\∀g,v.ownBlock=some g->tg g=t
theorem jD.keep{tg ey:eM}{w w':World}{t:Nat×Nat}{v:Value}{es:List eD}(h:jD tg w t v es)(hk:∀g,v.ownBlock=some g->g<w.heap.size->w'.heap[g]?=w.heap[g]?/\ey g=tg g):jD ey w' t v es:=
 ⟨eh h.1 (fun g hg=>(hk g hg (ee h.1 hg)).1),fun g hg=>((hk g hg (ee h.1 hg)).2).trans (h.2 g hg)⟩
theorem jD.moves{P:Nat×Nat->Prop}{tg ey:eM}{w w':World}{t:Nat×Nat}{v:Value}{es:List eD}(h:jD tg w t v es)(m:eo P tg ey w w')(hn:¬P t):jD ey w' t v es:=
 h.keep fun g hg hl=>⟨m.block g hl (by rw[h.2 g hg];exact hn),m.tags g hl⟩
def sJ (tg:eM)(w:World)(ft:fQ)(got:List Int):Prop:=w.ownsRow 0 29 1 (.slice ft.a ft.n ft.c) ft.n (got.map (Value.int .i64))/\ft.n=got.length/\∀g,(Value.slice ft.a ft.n ft.c).ownBlock=some g->tg g=(1,1)
structure fO (tg:eM)(w:World)(s p:Nat)(ei:List Ob)(got:List Int)(brk:Bool)(lim:Nat):Prop where
 fresh:gF tg w
 ex:∃ft:fQ,ft.b=brk/\jt ft (fun k=>tg k=(1,0)) w s p ei/\sJ tg w ft got/\Sound ei/\got.length<=lim
theorem fO.sound{tg:eM}{w:World}{s p:Nat}{ei:List Ob}{got:List Int}{brk:Bool}{lim:Nat}(h:fO tg w s p ei got brk lim):Sound ei:=by
 obtain⟨_,ft,_,_,_,hs,_⟩:=h;exact hs
theorem ri{w:World}{base:Nat}{e:fL}{size:Nat}{v:Value}{n:Nat}{xs:fE}(h:w.ownsRow base e size v n xs):w.ownsRow 0 e size v n xs:=by
 obtain⟨h1,h2⟩:=h;refine⟨h1,?_⟩;rcases h2 with h|⟨g,c,a,hv,_,r⟩
 ·exact .inl h
 ·exact .inr ⟨g,c,a,hv,oY _,r⟩
theorem sJ.moves{P:Nat×Nat->Prop}{tg ey:eM}{w w':World}{ft:fQ}{got:List Int}(h:sJ tg w ft got)(m:eo P tg ey w w')(hn:¬P (1,1)):sJ ey w' ft got:=
 ⟨eh h.1 (fun g hg=>m.block g (ee h.1 hg) (by rw[h.2.2 g hg];exact hn)),h.2.1,fun g hg=>(m.tags g (ee h.1 hg)).trans (h.2.2 g hg)⟩
theorem fO.moves{P:Nat×Nat->Prop}{tg ey:eM}{w w':World}{s p:Nat}{ei:List Ob}{got:List Int}{brk:Bool}{lim:Nat}(h:fO tg w s p ei got brk lim)(m:eo P tg ey w w')(h0:¬P (1,0))(h1:¬P (1,1)):fO ey w' s p ei got brk lim:=by
 obtain⟨hf,ft,a,hi,hg,hs,hl⟩:=h;exact⟨m.fresh hf,ft,a,hi.keep (fun k hk hF=>m.block k hk (by rw[hF];exact h0)) (fun k hk hF=>(m.tags k hk).trans hF),hg.moves m h1,hs,hl⟩
theorem fO.mono{tg:eM}{w:World}{s p:Nat}{ei:List Ob}{got:List Int}{brk:Bool}{lim a:Nat}(h:fO tg w s p ei got brk lim)(hl:lim<=a):fO tg w s p ei got brk a:=by
 obtain⟨hf,ft,b,hi,hg,hs,h⟩:=h;exact⟨hf,ft,b,hi,hg,hs,pD h hl⟩
theorem fO.wu{tg ey:eM}{w:World}{s p:Nat}{ei:List Ob}{got:List Int}{brk:Bool}{lim:Nat}(h:fO tg w s p ei got brk lim)(hf:gF ey w)(hk:∀k,(tg k).1=1->ey k=tg k):fO ey w s p ei got brk lim:=by
 obtain⟨_,ft,b,hi,hg,hs,hl⟩:=h;exact⟨hf,ft,b,hi.keep (fun k _ _=>rfl) (fun k _ hF=>(hk k (by rw[hF])).trans hF),⟨hg.1,hg.2.1,fun g a=>(hk g (by rw[hg.2.2 g a])).trans (hg.2.2 g a)⟩,hs,hl⟩
structure WB where
 wb:Nat
 bt:Nat
 sF:Nat
 sD:Nat
 mF:Nat
 mD:Nat
 oF:Nat
 oD:Nat
structure WG where
 base:Int
 ft:FT
 fs:FS
 fl:Nat->Option (Int×eu)
 op:Nat->Option (Nat×Nat×Int×Int)
def ptr (b:Nat):Value:=.pointer (some ⟨b,0,none⟩)
def uo (o:Option (Nat×Nat×Int×Int)):Value:=.pointer (o.map fun x=>⟨x.1,0,none⟩)
structure Bd (tg:eM)(w:World)(i p:Nat)(B:WB)(base root:Int):Prop where
 tt:tg B.bt=(i,1)
 tF:tg B.sF=(i,1)
 tD:tg B.sD=(i,1)
 ht:w.heap[B.bt]?=some (.cells #[ptr p,ptr B.sF,ptr B.sD,.int .i64 base,.string ⟨#[]⟩,.int .i64 2,.int .i64 root,.map (some B.oF),.map (some B.oD)] 164 (0,0))
 hF:w.heap[B.sF]?=some (.cells #[.func (.func 115) #[ptr p] #[],.map (some B.mF)] 267 (0,0))
 hD:w.heap[B.sD]?=some (.cells #[.func (.func 117) #[ptr p] #[],.map (some B.mD)] 271 (0,0))
theorem Bd.moves{P:Nat×Nat->Prop}{tg ey:eM}{w w':World}{i p:Nat}{B:WB}{base root:Int}(h:Bd tg w i p B base root)(m:eo P tg ey w w')(hn:¬P (i,1)):Bd ey w' i p B base root:=by
 obtain⟨a1,a⟩:=m.at h.ht h.tt hn;obtain⟨a2,b⟩:=m.at h.hF h.tF hn;obtain⟨a3,c⟩:=m.at h.hD h.tD hn;exact⟨a,b,c,a1,a2,a3⟩
theorem gu.moves{P:Nat×Nat->Prop}{tg ey:eM}{w w':World}{k:fL}{b n:Nat}{M:Lit->Option Value}(h:gu w k b n M)(m:eo P tg ey w w'){t:Nat×Nat}(ht:tg b=t)(hn:¬P t):gu w' k b n M/\ey b=t:=by
 have hl:=h.lt;exact⟨h.keep (m.block b hl (by rw[ht];exact hn)),(m.tags b hl).trans ht⟩
def JA (id:Int):Lit:=.int .i64 id
def wA (tg:eM)(w:World)(i:Nat)(B:WB)(ei:List Ob)(kF:Int->Bool)(lim:Nat):Prop:=
 tg B.mF=(i,2)/\∃n M,n<=lim/\gu w 29 B.mF n M/\(∀id,M (JA id)=if kF id then some (.string (bytesOf ei id))else none)/\∀id,kF id=true->eC ei id=1
def wB (tg:eM)(w:World)(i:Nat)(B:WB)(ei:List Ob)(kD:Int->Bool)(lim:Nat):Prop:=
 tg B.mD=(i,3)/\∃n M,∃a:Int->Value,n<=lim/\gu w 29 B.mD n M/\(∀id,M (JA id)=if kD id then some (a id)else none)/\∀id,kD id=true->eC ei id=2/\jD tg w (i,3) (a id) (eR ei id)
theorem wA.moves{P:Nat×Nat->Prop}{tg ey:eM}{w w':World}{i:Nat}{B:WB}{ei:List Ob}{kF:Int->Bool}{lim:Nat}(h:wA tg w i B ei kF lim)(m:eo P tg ey w w')(hn:¬P (i,2)):wA ey w' i B ei kF lim:=by
 obtain⟨ht,n,M,hl,hv,c,hk⟩:=h;obtain⟨a,b⟩:=hv.moves m ht hn;exact⟨b,n,M,hl,a,c,hk⟩
theorem wB.moves{P:Nat×Nat->Prop}{tg ey:eM}{w w':World}{i:Nat}{B:WB}{ei:List Ob}{kD:Int->Bool}{lim:Nat}(h:wB tg w i B ei kD lim)(m:eo P tg ey w w')(hn:¬P (i,3)):wB ey w' i B ei kD lim:=by
 obtain⟨ht,n,M,c,hl,hv,d,hk⟩:=h;obtain⟨a,b⟩:=hv.moves m ht hn;exact⟨b,n,M,c,hl,a,d,fun id hid=>⟨(hk id hid).1,(hk id hid).2.moves m hn⟩⟩
def gm (w:World)(b n:Nat)(f:eB->Option Value):Prop:=
 ∃M,gu w 147 b n M/\(∀p,Good p->M (jo Tryz.prog p)=f p)/\∀kl,WideAt.IsKeyLit kl->M kl≠none->∃p,Good p/\kl=jo Tryz.prog p
def yL (tg:eM)(w:World)(i:Nat)(B:WB)(of:eB->Option Nat)(lim:Nat):Prop:=
 tg B.oF=(i,4)/\(∃n,n<=lim/\gm w B.oF n (fun p=>(of p).map ptr))/\∀p f,of p=some f->Good p
structure eZ (tg:eM)(w:World)(i:Nat)(B:WB)(od:eB->Option (List eD))(lim:Nat)(vD:eB->Value):Prop where
 tag:tg B.oD=(i,5)
 map:∃n,n<=lim/\gm w B.oD n (fun p=>(od p).map fun _=>vD p)
 good:∀p es,od p=some es->Good p/\eF es/\es.length<=16/\∀e∈es,ez e.1=true/\(e.2.1=1\/e.2.1=2)
 row:∀p es,od p=some es->jD tg w (i,5) (vD p) es
 inj:∀p q es fs g,od p=some es->od q=some fs->(vD p).ownBlock=some g->(vD q).ownBlock=some g->p=q
def UK (tg:eM)(w:World)(i:Nat)(B:WB)(od:eB->Option (List eD))(lim:Nat):Prop:=∃vD,eZ tg w i B od lim vD
theorem gm.keep{w w':World}{b n:Nat}{f:eB->Option Value}(h:gm w b n f)(e:w'.heap[b]?=w.heap[b]?):gm w' b n f:=by
 obtain⟨M,hv,h1,h2⟩:=h;exact⟨M,hv.keep e,h1,h2⟩
theorem gm.lt{w:World}{b n:Nat}{f:eB->Option Value}(h:gm w b n f):b<w.heap.size:=by
 obtain⟨M,hv,_⟩:=h;exact hv.lt
theorem yL.moves{P:Nat×Nat->Prop}{tg ey:eM}{w w':World}{i:Nat}{B:WB}{of:eB->Option Nat}{lim:Nat}(h:yL tg w i B of lim)(m:eo P tg ey w w')(hn:¬P (i,4)):yL ey w' i B of lim:=by
 obtain⟨ht,⟨n,hl,hp⟩,hg⟩:=h;exact⟨(m.tags _ hp.lt).trans ht,⟨n,hl,hp.keep (m.block _ hp.lt (by rw[ht];exact hn))⟩,hg⟩
theorem eZ.moves{P:Nat×Nat->Prop}{tg ey:eM}{w w':World}{i:Nat}{B:WB}{od:eB->Option (List eD)}{lim:Nat}{vD:eB->Value}(h:eZ tg w i B od lim vD)(m:eo P tg ey w w')(hn:¬P (i,5)):eZ ey w' i B od lim vD:=by
 obtain⟨ht,⟨n,hl,hp⟩,hg,hr,hi⟩:=h;exact⟨(m.tags _ hp.lt).trans ht,⟨n,hl,hp.keep (m.block _ hp.lt (by rw[ht];exact hn))⟩,hg,fun p es a=>(hr p es a).moves m hn,hi⟩
def xy (tg:eM)(w:World)(i:Nat)(B:WB)(fl:Nat->Option (Int×eu)):Prop:=
 ∀f id d,fl f=some (id,d)->tg f=(i,6)/\w.heap[f]?=some (.cells #[.pointer (if id=0 then none else some ⟨B.sF,0,none⟩),.int .i64 id,.string d] 308 (0,0))/\d.size<=256
theorem xy.moves{P:Nat×Nat->Prop}{tg ey:eM}{w w':World}{i:Nat}{B:WB}{fl:Nat->Option (Int×eu)}(h:xy tg w i B fl)(m:eo P tg ey w w')(hn:¬P (i,6)):xy ey w' i B fl:=fun f id d hf=>by
 obtain⟨h1,h2,h3⟩:=h f id d hf
 obtain⟨a,b⟩:=m.at h2 h1 hn
 exact⟨b,a,h3⟩
structure rj (tg:eM)(w:World)(i:Nat)(B:WB)(fl:Nat->Option (Int×eu))(op:Nat->Option (Nat×Nat×Int×Int)):Prop where
 tw:tg B.wb=(i,0)
 hw:w.heap[B.wb]?=some (.cells #[ptr B.bt,uo (op 0),uo (op 1),uo (op 2),uo (op 3),uo (op 4),uo (op 5),uo (op 6),uo (op 7)] 91 (0,0))
 past:∀k,8<=k->op k=none
 at_:∀k b f fg pl,op k=some (b,f,fg,pl)->tg b=(i,7)/\w.heap[b]?=some (.cells #[ptr f,.int .i64 fg,.int .i64 pl] 277 (0,0))/\(∃x,fl f=some x)/\0<=fg/\fg<64/\0<=pl/\pl<=256
 inj:∀k l x y,op k=some x->op l=some y->x.1=y.1->k=l
theorem rj.moves{P:Nat×Nat->Prop}{tg ey:eM}{w w':World}{i:Nat}{B:WB}{fl:Nat->Option (Int×eu)}{op:Nat->Option (Nat×Nat×Int×Int)}(h:rj tg w i B fl op)(m:eo P tg ey w w')(hn:¬P (i,0))(c:¬P (i,7)):rj ey w' i B fl op:=by
 obtain⟨a,b⟩:=m.at h.hw h.tw hn;refine⟨b,a,h.past,fun k b f fg pl hk=>?_,h.inj⟩;obtain⟨h1,h2,h3⟩:=h.at_ k b f fg pl hk;obtain⟨d,e⟩:=m.at h2 h1 c;exact⟨e,d,h3⟩
def jP (ei:List Ob)(e:eD):Prop:=(e.2.1=1\/e.2.1=2)/\(e.2.2≠0->eC ei e.2.2=e.2.1)
structure S8 (ei:List Ob)(ft:FT):Prop where
 root:ft.root≠0->eC ei ft.root=2
 od:∀p es,ft.od p=some es->∀e∈es,jP ei e
structure mV (tg:eM)(w:World)(i p:Nat)(B:WB)(ei:List Ob)(g:WG)(lim:Nat):Prop where
 tree:Bd tg w i p B g.base g.ft.root
 jE:wA tg w i B ei g.fs.kF lim
 jF:wB tg w i B ei g.fs.kD lim
 nY:yL tg w i B g.ft.of lim
 kX:UK tg w i B g.ft.od lim
 files:xy tg w i B g.fl
 held:∀q f,g.ft.of q=some f->∃x,g.fl f=some x
 opens:rj tg w i B g.fl g.op
 ok:S8 ei g.ft
theorem mV.moves{P:Nat×Nat->Prop}{tg ey:eM}{w w':World}{i p:Nat}{B:WB}{ei:List Ob}{g:WG}{lim:Nat}(h:mV tg w i p B ei g lim)(m:eo P tg ey w w')(hn:∀k,¬P (i,k)):mV ey w' i p B ei g lim:=by
 obtain⟨vD,hD⟩:=h.kX;exact⟨h.tree.moves m (hn 1),h.jE.moves m (hn 2),h.jF.moves m (hn 3),h.nY.moves m (hn 4),⟨vD,hD.moves m (hn 5)⟩,h.files.moves m (hn 6),h.held,h.opens.moves m (hn 0) (hn 7),h.ok⟩
structure eH (tg:eM)(w:World)(s i p:Nat)(B:WB)(ei:List Ob)(g:WG)(lim:Nat):Prop where
 two:2<=i
 st:fO tg w s p ei g.fs.got g.fs.brk lim
 wp:mV tg w i p B ei g lim
def Mine (i:Nat)(t:Nat×Nat):Prop:=t.1=1\/t.1=i
theorem eH.below{tg:eM}{w w':World}{s i p:Nat}{B:WB}{ei:List Ob}{g:WG}{lim:Nat}(h:eH tg w s i p B ei g lim)(a:gS w w'):eH tg w' s i p B ei g lim:=by
 have m:eo (fun _=>False) tg tg w w':=eo.ew a;exact⟨h.two,h.st.moves m id id,h.wp.moves m (fun _=>id)⟩
theorem Oz:(Tryz.prog.info? 29).map (fun i=>(i.zero,i.size,i.bytes))=some (some (ed 0),1,8):=by kernel_rfl
theorem EI{ft:fQ}(p:Nat)(a:e5)(n cap bf bd:Nat)(id:Int)(w:World)(h:eW ft w p a n cap bf bd)(b:ft.b=true):
  eK 174 #[fj p,ed id] w fun e w'=>e=.returned (ed 14)/\w'=w.setCell (eb p 4) (.bool false):=by
 have c4:w.cell? (eb p 4)=some (.bool true):=by unfold eW at h;simp[World.cell?,h,b]
 have f4:w.frozen? (eb p 4)=false:=by unfold eW at h;simp[World.frozen?,h]
 clear h b;go_enter Tryz.func174,Tryz.ntmps174;go_wp2;go_ret;exact⟨rfl,rfl⟩
theorem S9(w:World)(c0:Value)(t:fL):∀j a,[c0][j]?=some a->(w.alloc (.cells #[c0] t)).cell? (((eb w.heap.size 0):Addr).add j)=some a:=by
 intro j a h
 match j,h with
 |0,h=>simpa [Addr.add]using h
 |j+1,h=>simp at h
theorem EJ{w b:World}{c:Obj}{r:Option Nat}(hg:(w.alloc c).grownBy b r){p:Nat}(hp:p<w.heap.size)(hr:some p≠r){v:Value}{i:Nat}(h:w.cell? (eb p i)=some v):b.cell? (eb p i)=some v:=by
 rw[ig (a:=(eb p i)) (hg.block p (by simp;omega) hr),SB _ _ _ hp,h]
theorem Af{w b:World}{c:Obj}{r:Option Nat}(hg:(w.alloc c).grownBy b r){p:Nat}(hp:p<w.heap.size)(hr:some p≠r){i:Nat}(h:w.frozen? (eb p i)=false):b.frozen? (eb p i)=false:=by
 rw[MW (a:=(eb p i)) (hg.block p (by simp;omega) hr),TD _ _ _ hp,h]
theorem Ht(p:Nat)(a:e5)(n c:Nat)(xs:fE)(id:Int)(w:World)(hp:p<w.heap.size)(c3:w.cell? (eb p 3)=some (.slice a n c))(f3:w.frozen? (eb p 3)=false)(c4:w.cell? (eb p 4)=some (.bool false))
  (h:w.ownsRow 0 29 1 (.slice a n c) n xs)(M2:some p≠(Value.slice a n c).ownBlock)(hn:n<1099511627776):
  eK 174 #[fj p,ed id] w fun e w'=>e=.returned (ed 0)/\
   ∃g d b,b.ownsRow 0 29 1 (.slice (some (eb g 0)) (n+1) d) (n+1) (xs++[ed id])/\(∃k,(w.alloc k).grownBy b (Value.slice a n c).ownBlock/\((some g:Option Nat)=(Value.slice a n c).ownBlock\/g=w.heap.size+1))/\w'=b.setCell (eb p 3) (.slice (some (eb g 0)) (n+1) d):=by
 obtain⟨l,hi,m,o,q⟩:=H4 Oz;have r:Hid (w.ownsRow 0 29 1 (.slice a n c) n xs):=h;have i:Hid (some p≠(Value.slice a n c).ownBlock):=M2;clear h M2;go_enter Tryz.func174,Tryz.ntmps174;go_wp2_with(first|(at_builtin;go_loud(refine Gi _ rfl (.tmp 16) (.tmp 18) 59 rfl 0 29 l _ 1 8 Tryz.underlying59 hi m o q rfl (by decide) (.slice a n c) n xs rfl (r.out.alloc _) (eb w.heap.size 0) 1 1 [ed id] rfl rfl (S9 w (ed id) 29) (by intro t hu;simp at hu;subst hu;rfl) (by unfold maxLen;omega) (by omega) (oY _) ?_;intro u b j f _ s;obtain⟨g,d,rfl⟩:=ej j (by omega);have v:=EJ f hp i.out c3;have x:=Af f hp i.out f3))|go_in);go_ret;exact⟨rfl,g,d,b,j,⟨_,f,by simpa [Value.ownBlock]using s⟩,rfl⟩
theorem jt.tail{ft iM:fQ}{F F':Nat->Prop}{w w':World}{s p:Nat}{ei:List Ob}(h:jt ft F w s p ei)(hp:∀a n cap bf bd,eW ft w p a n cap bf bd->eW iM w' p a n cap bf bd)(hk:∀k,k<w.heap.size->F k->k≠p->w'.heap[k]?=w.heap[k]?)(hF:∀k,k<w.heap.size->F k->F' k):jt iM F' w' s p ei:=by
 obtain⟨a,cap,bf,bd,Df,Dd,i⟩:=h;have c:s<w.heap.size:=(lF.1 i.hs).1;have l:s≠p:=kI i.hs i.fZ.at_ (by decide);have d:∀{b:Nat} {es:Array MapEntry} {q:Nat},w.heap[b]?=some (.map es q)->b≠p:=fun r e=>by subst e;have:=i.fZ.at_;unfold eW at this;rw[r]at this;cases this
 obtain⟨B,c1,u⟩:=pd i.files;obtain⟨e2,c2,x⟩:=pd i.xV;have f:∀v m t k xs,w.ownsRow 0 t k v m xs->t≠185->(∀g,v.ownBlock=some g->F g)->w'.ownsRow 0 t k v m xs:=fun v m t k xs hr ht y=>eh hr (fun g hg=>hk g (ee hr hg) (y g hg) (fun e=>by
  subst e;exact eI hr i.fZ.at_ (fun e=>ht e.symm) hg.symm))
 refine⟨a,cap,bf,bd,Df,Dd,⟨hF _ c i.fs,hF _ i.fZ.at_.lt i.fp,hF _ i.files.lt i.ff,hF _ i.xV.lt i.fd,fun g hg=>hF g (ee i.fZ.row hg) (i.fr g hg),(hk s c i.fs l).trans i.hs,⟨hp _ _ _ _ _ i.fZ.at_,f _ _ _ _ _ i.fZ.row (by decide) i.fr,i.fZ.len,i.fZ.many⟩,i.ne,
  pk i.files (hk _ i.files.lt i.ff (d u)),i.qO,pk i.xV (hk _ i.xV.lt i.fd (d x)),i.u5,fun o ho=>?_⟩⟩
 rcases i.xe o ho with h|⟨h1,h2,h3,z,A,h6,h8,j⟩
 ·exact .inl h
 ·exact .inr ⟨h1,h2,h3,z,A,h6,fun g hg=>hF g (ee j hg) (h8 g hg),f _ _ _ _ _ j (by decide) h8⟩
def F9 (t:Nat×Nat):Prop:=t=(1,0)\/t=(1,1)
def nZ (s p:Nat)(ei:List Ob)(got:List Int)(brk:Bool)(lim:Nat)(id:Int)(tg:eM)(w:World)(er:Int):Prop:=
 (brk=true/\er=14/\fO tg w s p ei got false lim)\/(brk=false/\er=0/\fO tg w s p ei (got++[id]) false (lim+1))
theorem wC{tg:eM}{w:World}{s p:Nat}{ei:List Ob}{got:List Int}{brk:Bool}{lim:Nat}(h:fO tg w s p ei got brk lim)(hl:lim<1099511627776)(id:Int):
  eK 174 #[fj p,ed id] w fun e w'=>∃er,e=.returned (ed er)/\∃ey,eo F9 tg ey w w'/\nZ s p ei got brk lim id ey w' er:=by
 obtain⟨pN,ft,j,hi,hg,hs,v⟩:=h;have x:=hi;obtain⟨a,cap,bf,bd,Df,Dd,i⟩:=x;have c:=i.fZ.at_;have n:=c.lt;have o:tg p=(1,0):=i.fp;have M2:some p≠(Value.slice ft.a ft.n ft.c).ownBlock:=eI hg.1 c (by decide);cases brk with
 |true=>
  refine(EI p a ei.length cap bf bd id w c j).mono ?_;rintro e w' ⟨rfl,rfl⟩;refine⟨14,rfl,tg,⟨rfl,rfl,rfl,by simp,fun _ _=>rfl,fun k hk hn=>ij _ _ _ _ (fun e=>hn (by rw[e,o];exact .inl rfl)),fun hf k hk=>hf k (by simpa using hk)⟩,.inl ⟨rfl,rfl,fun k hk=>pN k (by simpa using hk),{ ft with b:=false },rfl,?_,⟨?_,hg.2.1,hg.2.2⟩,hs,v⟩⟩
  ·refine hi.tail (fun y z q A B h'=>?_) (fun k hk hF hne=>ij _ _ _ _ hne) (fun k hk hF=>hF)
   unfold eW at h' ⊢;simp[World.setCell,xE,h']
  ·exact eh hg.1 (fun g C=>ij _ _ _ _ (fun e=>M2 (by rw[C,e])))
 |false=>
  have c3:w.cell? (eb p 3)=some (.slice ft.a ft.n ft.c):=by unfold eW at c;simp[World.cell?,c]
  have f3:w.frozen? (eb p 3)=false:=by unfold eW at c;simp[World.frozen?,c]
  have c4:w.cell? (eb p 4)=some (.bool false):=by unfold eW at c;simp[World.cell?,c,j]
  refine(Ht p ft.a ft.n ft.c _ id w n c3 f3 c4 hg.1 M2 (by rw[hg.2.1];omega)).mono ?_;rintro e w' ⟨rfl,g,q,d,r,⟨I,f,t⟩,rfl⟩;have D:=f.size;simp at D;have l:∀k,k<w.heap.size->some k≠(Value.slice ft.a ft.n ft.c).ownBlock->d.heap[k]?=w.heap[k]?:=fun k hk hne=>by
   rw[f.block k (by simp;omega) hne,jU _ _ _ hk]
  have E:g≠p:=by
   rintro rfl;rcases t with h|h
   ·exact M2 h
   ·omega
  have F:∀k,tg k=(1,0)->some k≠(Value.slice ft.a ft.n ft.c).ownBlock:=fun k hk e=>by have:=hg.2.2 k e.symm;rw[hk]at this;cases this
  refine⟨0,rfl,fun k=>if k<w.heap.size then tg k else if k<d.heap.size then(1,1) else(0,0),⟨f.os,f.tape,f.output,by simp;omega,fun k hk=>fY hk,fun k hk hn=>?_,fun hf k hk=>?_⟩,.inr ⟨rfl,rfl,fun k hk=>?_,⟨some (eb g 0),ft.n+1,q,false⟩,rfl,?_,⟨?_,?_,fun u m=>?_⟩,hs,by simp;omega⟩⟩
  ·rw[ij _ _ _ _ (fun e=>hn (by rw[e,o];exact .inl rfl)),l k hk (fun e=>hn (.inr (hg.2.2 k e.symm)))]
  ·have G:d.heap.size<=k:=by simpa using hk
   show(if _ then _ else _)=_;rw[eJ (by omega),eJ (by omega)]
  ·have G:d.heap.size<=k:=by simpa using hk
   show(if _ then _ else _)=_;rw[eJ (by omega),eJ (by omega)]
  ·refine hi.tail (fun y z J A B h'=>?_) (fun k hk hF hne=>?_) (fun k hk hF=>by show(if _ then _ else _)=_;rw[fY hk];exact hF)
   ·have H:d.heap[p]?=w.heap[p]?:=l p n M2
    unfold eW at h' ⊢;simp[World.setCell,xE,H,h',j]
   ·rw[ij _ _ _ _ hne,l k hk (F k hF)]
  ·rw[k7]
   exact eh r (fun u m=>by cases m;exact ij _ _ _ _ E)
  ·simp[hg.2.1]
  ·obtain rfl:g=u:=by simpa [Value.ownBlock]using m
   show(if _ then _ else _)=_;rcases t with h|h
   ·rw[fY (ee hg.1 h.symm)];exact hg.2.2 g h.symm
   ·rw[eJ (by omega),fY (by have:=ee r rfl;omega)]
theorem yM{ei:List Ob}{j:Nat}(hj:j<ei.length):bytesOf ei ((j:Int)+1)=ei[j].data:=by
 unfold bytesOf;rw[show((j:Int)+1-1).toNat=j by omega,gJ hj];rfl
theorem Lt{ei:List Ob}{j:Nat}(hj:j<ei.length):eR ei ((j:Int)+1)=ei[j].eG:=by
 unfold eR;rw[show((j:Int)+1-1).toNat=j by omega,gJ hj];rfl
section
variable {tg:eM}{w:World}{s p:Nat}{ei:List Ob}{got:List Int}{brk:Bool}{lim:Nat}
theorem fO.file(h:fO tg w s p ei got brk lim){id:Int}(hk:eC ei id=1):
  eK 84 #[fj p,ed id] w (ml (.tuple #[.string (bytesOf ei id),ed 0]) w):=by
 obtain⟨_,ft,_,⟨a,cap,bf,bd,Df,Dd,i⟩,_⟩:=h;refine(DG p a ei.length cap bf bd ei id w i.fZ).mono ?_;rintro e w' ⟨b,⟨hn,_⟩|⟨j,hj,rfl,_,c⟩⟩
 ·exact absurd hk hn
 ·rw[yM hj];exact⟨c,b⟩
theorem fO.dir(h:fO tg w s p ei got brk lim){id:Int}(hk:eC ei id=2):
  eK 85 #[fj p,ed id] w fun e w'=>∃g,e=.returned (.tuple #[.slice (some (eb g 0)) (eR ei id).length (eR ei id).length,ed 0])/\w'.ownsRow w.heap.size 96 3 (.slice (some (eb g 0)) (eR ei id).length (eR ei id).length) (eR ei id).length (flat (eR ei id))/\gS w w':=by
 obtain⟨_,ft,_,⟨a,cap,bf,bd,Df,Dd,i⟩,_⟩:=h;refine(xW i id).mono ?_;rintro e w' ⟨⟨hn,_⟩|⟨j,hj,rfl,_,g,b,hr⟩,c⟩
 ·exact absurd hk hn
 ·rw[Lt hj];exact⟨g,b,hr,c⟩
theorem rX(h:fO tg w s p ei got brk lim)(hl:lim<1099511627776){id:Int}(hk:eC ei id=1):
  eK 115 #[fj p,ed id] w fun e w'=>∃er,e=.returned (.tuple #[.string (if er=0 then bytesOf ei id else fy),ed er])/\∃ey,eo F9 tg ey w w'/\nZ s p ei got brk lim id ey w' er:=by
 have a:=wC h hl id;clear h hl;cases brk with
 |true=>
  have b:eK 174 #[fj p,ed id] w fun e w'=>e=.returned (ed 14)/\∃ey,eo F9 tg ey w w'/\nZ s p ei got true lim id ey w' 14:=a.mono (fun e w' ⟨er,c,ey,m,hD⟩=>by
   have j:er=14:=by rcases hD with⟨_,h,_⟩|⟨h,_⟩;exact h;cases h
   subst j;exact⟨c,ey,m,hD⟩)
  clear a;go_enter Tryz.func115,Tryz.ntmps115;go_wp2_with(go_at_call 174;refine b.mono ?_;rintro e k ⟨rfl,d⟩;have l:Hid _:=d;clear d);go_ret2;exact⟨14,rfl,l.out⟩
 |false=>
  have b:eK 174 #[fj p,ed id] w fun e w'=>e=.returned (ed 0)/\∃ey,eo F9 tg ey w w'/\fO ey w' s p ei (got++[id]) false (lim+1):=a.mono (fun e w' ⟨er,c,ey,m,hD⟩=>by
   rcases hD with⟨h,_⟩|⟨_,rfl,hS⟩
   ·cases h
   ·exact⟨c,ey,m,hS⟩)
  clear a;go_enter Tryz.func115,Tryz.ntmps115;go_wp2_with(first
   |(go_at_call 174;refine b.mono ?_;rintro e k ⟨rfl,n,f,hS⟩;have o:Hid _:=f;have g:Hid _:=hS;clear f hS)
   |(go_at_call 84;refine(fO.file g.out hk).mono ?_;rintro e q ⟨rfl,i⟩))
  go_ret2;exact⟨0,by rw[fY rfl];rfl,n,o.out.trans (eo.ew i),.inr ⟨rfl,rfl,g.out.moves (P:=fun _=>False) (eo.ew i) (fun x=>x) (fun x=>x)⟩⟩
theorem uq(h:fO tg w s p ei got brk lim)(hl:lim<1099511627776){id:Int}(hk:eC ei id=2):
  eK 117 #[fj p,ed id] w fun e w'=>∃er v,e=.returned (.tuple #[v,ed er])/\(er≠0->v=.slice none 0 0)/\∃ey,eo F9 tg ey w w'/\nZ s p ei got brk lim id ey w' er/\
   (er=0->∃g,v=.slice (some (eb g 0)) (eR ei id).length (eR ei id).length/\w.heap.size<=g/\ey g=(0,0)/\w'.ownsRow 0 96 3 v (eR ei id).length (flat (eR ei id))):=by
 have a:=wC h hl id;clear h hl;cases brk with
 |true=>
  have c:eK 174 #[fj p,ed id] w fun e w'=>e=.returned (ed 14)/\∃ey,eo F9 tg ey w w'/\nZ s p ei got true lim id ey w' 14:=a.mono (fun e w' ⟨er,d,ey,m,hD⟩=>by
   have r:er=14:=by rcases hD with⟨_,h,_⟩|⟨h,_⟩;exact h;cases h
   subst r;exact⟨d,ey,m,hD⟩)
  clear a;go_enter Tryz.func117,Tryz.ntmps117;go_wp2_with(go_at_call 174;refine c.mono ?_;rintro e i ⟨rfl,j⟩;have b:Hid _:=j;clear j);go_ret2;obtain⟨ey,m,hD⟩:=b.out;exact⟨14,_,rfl,fun _=>rfl,ey,m,hD,fun h=>by cases h⟩
 |false=>
  have c:eK 174 #[fj p,ed id] w fun e w'=>e=.returned (ed 0)/\∃ey,eo F9 tg ey w w'/\fO ey w' s p ei (got++[id]) false (lim+1):=a.mono (fun e w' ⟨er,d,ey,m,hD⟩=>by
   rcases hD with⟨h,_⟩|⟨_,rfl,hS⟩
   ·cases h
   ·exact⟨d,ey,m,hS⟩)
  clear a;go_enter Tryz.func117,Tryz.ntmps117;go_wp2_with(first
   |(go_at_call 174;refine c.mono ?_;rintro e i ⟨rfl,t,k,hS⟩;have l:Hid _:=k;have f:Hid _:=hS;clear k hS)
   |(go_at_call 85;refine(fO.dir f.out hk).mono ?_;rintro e y ⟨g,rfl,n,o⟩;have b:Hid _:=n;clear n))
  go_ret2;have hS:=f.out;have q:i.heap.size<=g:=by
   rcases b.out.2 with⟨h,_⟩|⟨z,_,_,hv,u,_⟩
   ·cases h
   ·cases hv;exact u
  refine⟨0,_,rfl,fun h=>absurd rfl h,t,l.out.trans (eo.ew o),.inr ⟨rfl,rfl,f.out.moves (P:=fun _=>False) (eo.ew o) (fun x=>x) (fun x=>x)⟩,fun _=>⟨g,rfl,pD l.out.size q,hS.fresh g q,?_⟩⟩;exact ri b.out
end
theorem wD:Maps.Keyed Tryz.prog 29:=Maps.int_keyed TG
theorem wE{id:Int}(h:(Lit.int .i64 id).wf=true):keyOf Tryz.prog 29 (ed id)=some (JA id):=by
 simp[keyOf,Tryz.underlying29,mapKey,h,JA]
theorem vu(w:World):(zeroValue 55).run Tryz.prog w=.ok (.slice none 0 0) w:=by kernel_rfl
theorem OA(b m p n:Nat)(M:Lit->Option Value)(id:Int)(d:eu)(w:World)(c1:w.cell? (eb b 1)=some (.map (some m)))(a:gu w 29 m n M)(hw:(Lit.int .i64 id).wf=true)(c:M (JA id)=some (.string d)):
  eK 213 #[fj b,ed id] w (tz (.tuple #[.string d,ed 0]) w):=by
 have hlk:=a.look_ok wD Tryz.underlying265 (lu w) (wE hw);rw[c]at hlk;clear a c;go_enter Tryz.func213,Tryz.ntmps213;go_wp2_with(simp only[hlk]);go_ret2;exact⟨rfl,rfl⟩
theorem Lu(b m p n:Nat)(M:Lit->Option Value)(id:Int)(R:World->Prop)(w:World)(c0:w.cell? (eb b 0)=some (.func (.func 115) #[ptr p] #[]))(c1:w.cell? (eb b 1)=some (.map (some m)))(a:gu w 29 m n M)(hw:(Lit.int .i64 id).wf=true)(c:M (JA id)=none)
  (f:eK 115 #[fj p,ed id] w fun e d=>e=.returned (.tuple #[.string fy,ed 14])/\R d):
  eK 213 #[fj b,ed id] w fun e w'=>e=.returned (.tuple #[.string fy,ed 14])/\R w':=by
 have hlk:=a.look_ok wD Tryz.underlying265 (lu w) (wE hw);rw[c]at hlk;unfold ptr at c0;clear a c;go_enter Tryz.func213,Tryz.ntmps213;go_wp2_with(first|(go_at_call 115;refine f.mono ?_;rintro e d ⟨rfl,g⟩));go_ret2;exact⟨rfl,g⟩
theorem OB(b m p n:Nat)(M:Lit->Option Value)(id:Int)(R:eu->World->Prop)(w:World)(c0:w.cell? (eb b 0)=some (.func (.func 115) #[ptr p] #[]))(c1:w.cell? (eb b 1)=some (.map (some m)))(f:gu w 29 m n M)(hw:(Lit.int .i64 id).wf=true)(g:M (JA id)=none)(hn:n<maxLen)
  (l:eK 115 #[fj p,ed id] w fun e a=>∃d:eu,e=.returned (.tuple #[.string d,ed 0])/\R d a)
  (o:∀d a,R d a->a.cell? (eb b 1)=some (.map (some m))/\gu a 29 m n M):
  eK 213 #[fj b,ed id] w fun e w'=>∃d:eu,e=.returned (.tuple #[.string d,ed 0])/\∃a,R d a/\gu w' 29 m (n+1) (x7 M (JA id) (some (.string d)))/\a.grownBy w' (some m)/\w'.heap.size=a.heap.size:=by
 have hlk:=f.look_ok wD Tryz.underlying265 (lu w) (wE hw);rw[g]at hlk;unfold ptr at c0;clear f g;go_enter Tryz.func213,Tryz.ntmps213;go_wp2_with(first|(go_at_call 115;refine l.mono ?_;rintro e a ⟨d,rfl,c⟩;obtain⟨u,h⟩:=o _ _ c;obtain⟨v,x,i,j,k⟩:=h.store wD Tryz.underlying265 hn (wE hw) (val:=.string d);have q:Hid _:=i;have r:Hid _:=j;have s:Hid _:=k;have t:Hid _:=c;clear h i j k c));go_ret2;exact⟨d,rfl,a,t.out,q.out,r.out,s.out⟩
theorem OC(b m p n:Nat)(M:Lit->Option Value)(id:Int)(la:e5)(a lc:Nat)(w:World)(c1:w.cell? (eb b 1)=some (.map (some m)))(c:gu w 29 m n M)(hw:(Lit.int .i64 id).wf=true)(d:M (JA id)=some (.slice la a lc)):
  eK 217 #[fj b,ed id] w (tz (.tuple #[.slice la a lc,ed 0]) w):=by
 have hlk:=c.look_ok wD Tryz.underlying269 (vu w) (wE hw);rw[d]at hlk;clear c d;go_enter Tryz.func217,Tryz.ntmps217;go_wp2_with(simp only[hlk]);go_ret2;exact⟨rfl,rfl⟩
theorem Lv(b m p n:Nat)(M:Lit->Option Value)(id:Int)(R:World->Prop)(w:World)(c0:w.cell? (eb b 0)=some (.func (.func 117) #[ptr p] #[]))(c1:w.cell? (eb b 1)=some (.map (some m)))(a:gu w 29 m n M)(hw:(Lit.int .i64 id).wf=true)(c:M (JA id)=none)
  (f:eK 117 #[fj p,ed id] w fun e d=>e=.returned (.tuple #[.slice none 0 0,ed 14])/\R d):
  eK 217 #[fj b,ed id] w fun e w'=>e=.returned (.tuple #[.slice none 0 0,ed 14])/\R w':=by
 have hlk:=a.look_ok wD Tryz.underlying269 (vu w) (wE hw);rw[c]at hlk;unfold ptr at c0;clear a c;go_enter Tryz.func217,Tryz.ntmps217;go_wp2_with(first|(go_at_call 117;refine f.mono ?_;rintro e d ⟨rfl,g⟩));go_ret2;exact⟨rfl,g⟩
theorem OD(b m p n:Nat)(M:Lit->Option Value)(id:Int)(R:e5->Nat->Nat->World->Prop)(w:World)(c0:w.cell? (eb b 0)=some (.func (.func 117) #[ptr p] #[]))(c1:w.cell? (eb b 1)=some (.map (some m)))(f:gu w 29 m n M)(hw:(Lit.int .i64 id).wf=true)(g:M (JA id)=none)(hn:n<maxLen)
  (l:eK 117 #[fj p,ed id] w fun e a=>∃la c lc,e=.returned (.tuple #[.slice la c lc,ed 0])/\R la c lc a)
  (o:∀la c lc a,R la c lc a->a.cell? (eb b 1)=some (.map (some m))/\gu a 29 m n M):
  eK 217 #[fj b,ed id] w fun e w'=>∃la c lc,e=.returned (.tuple #[.slice la c lc,ed 0])/\∃a,R la c lc a/\gu w' 29 m (n+1) (x7 M (JA id) (some (.slice la c lc)))/\a.grownBy w' (some m)/\w'.heap.size=a.heap.size:=by
 have hlk:=f.look_ok wD Tryz.underlying269 (vu w) (wE hw);rw[g]at hlk;unfold ptr at c0;clear f g;go_enter Tryz.func217,Tryz.ntmps217;go_wp2_with(first|(go_at_call 117;refine l.mono ?_;rintro e a ⟨la,c,lc,rfl,d⟩;obtain⟨u,h⟩:=o _ _ _ _ d;obtain⟨v,x,i,j,k⟩:=h.store wD Tryz.underlying269 hn (wE hw) (val:=.slice la c lc);have q:Hid _:=i;have r:Hid _:=j;have s:Hid _:=k;have t:Hid _:=d;clear h i j k d));go_ret2;exact⟨la,c,lc,rfl,a,t.out,q.out,r.out,s.out⟩
theorem ur{ei:List Ob}{id:Int}(h:eC ei id≠0):1<=id/\id<=ei.length:=by
 refine⟨Cq rfl h,?_⟩;by_cases h2:id<=ei.length
 ·exact h2
 ·exact absurd (wd (.inr (by omega))) h
theorem fO.many{tg:eM}{w:World}{s p:Nat}{ei:List Ob}{got:List Int}{brk:Bool}{lim:Nat}(h:fO tg w s p ei got brk lim):ei.length<=400:=by
 obtain⟨_,ft,_,⟨a,cap,bf,bd,Df,Dd,i⟩,_⟩:=h;exact i.fZ.many
theorem fO.wf{tg:eM}{w:World}{s p:Nat}{ei:List Ob}{got:List Int}{brk:Bool}{lim:Nat}(h:fO tg w s p ei got brk lim){id:Int}(hk:eC ei id≠0):(Lit.int .i64 id).wf=true:=by
 have h1:=ur hk;have h2:=h.many;exact Us (by omega)
theorem wA.mono{tg:eM}{w:World}{i:Nat}{B:WB}{ei:List Ob}{kF:Int->Bool}{lim a:Nat}(h:wA tg w i B ei kF lim)(hl:lim<=a):wA tg w i B ei kF a:=by
 obtain⟨ht,n,M,hn,r⟩:=h;exact⟨ht,n,M,pD hn hl,r⟩
theorem wB.mono{tg:eM}{w:World}{i:Nat}{B:WB}{ei:List Ob}{kD:Int->Bool}{lim a:Nat}(h:wB tg w i B ei kD lim)(hl:lim<=a):wB tg w i B ei kD a:=by
 obtain⟨ht,n,M,b,hn,r⟩:=h;exact⟨ht,n,M,b,pD hn hl,r⟩
theorem yL.mono{tg:eM}{w:World}{i:Nat}{B:WB}{of:eB->Option Nat}{lim a:Nat}(h:yL tg w i B of lim)(hl:lim<=a):yL tg w i B of a:=by
 obtain⟨ht,⟨n,hn,r⟩,hg⟩:=h;exact⟨ht,⟨n,pD hn hl,r⟩,hg⟩
theorem eZ.mono{tg:eM}{w:World}{i:Nat}{B:WB}{od:eB->Option (List eD)}{lim a:Nat}{vD:eB->Value}(h:eZ tg w i B od lim vD)(hl:lim<=a):eZ tg w i B od a vD:=by
 obtain⟨ht,⟨n,hn,r⟩,b,c,d⟩:=h;exact⟨ht,⟨n,pD hn hl,r⟩,b,c,d⟩
theorem mV.mono{tg:eM}{w:World}{i p:Nat}{B:WB}{ei:List Ob}{g:WG}{lim a:Nat}(h:mV tg w i p B ei g lim)(hl:lim<=a):mV tg w i p B ei g a:=by
 obtain⟨vD,hD⟩:=h.kX;exact⟨h.tree,h.jE.mono hl,h.jF.mono hl,h.nY.mono hl,⟨vD,hD.mono hl⟩,h.files,h.held,h.opens,h.ok⟩
theorem eH.mono{tg:eM}{w:World}{s i p:Nat}{B:WB}{ei:List Ob}{g:WG}{lim a:Nat}(h:eH tg w s i p B ei g lim)(hl:lim<=a):eH tg w s i p B ei g a:=⟨h.two,h.st.mono hl,h.wp.mono hl⟩
theorem mV.fs{P:Nat×Nat->Prop}{tg ey:eM}{w w':World}{i p:Nat}{B:WB}{ei:List Ob}{g:WG}{lim a:Nat}{fs':FS}(h:mV tg w i p B ei g lim)(m:eo P tg ey w w')(hn:∀k,k≠2->k≠3->¬P (i,k))(hl:lim<=a)
  (hF:wA ey w' i B ei fs'.kF a)(hD:wB ey w' i B ei fs'.kD a):mV ey w' i p B ei { g with fs:=fs' } a:=by
 obtain⟨vD,oD⟩:=h.kX;exact⟨h.tree.moves m (hn 1 (by decide) (by decide)),hF,hD,(h.nY.moves m (hn 4 (by decide) (by decide))).mono hl,⟨vD,(oD.moves m (hn 5 (by decide) (by decide))).mono hl⟩,h.files.moves m (hn 6 (by decide) (by decide)),h.held,h.opens.moves m (hn 0 (by decide) (by decide)) (hn 7 (by decide) (by decide)),h.ok⟩
theorem tR{i:Nat}(hi:2<=i)(k:Nat):¬F9 (i,k):=by
 rintro(h|h)
 ·cases h;omega
 ·cases h;omega
def fo (i:Nat)(t:Nat×Nat):Prop:=t.1=1\/t=(i,2)\/t=(i,3)
theorem fo.mine{i:Nat}{t:Nat×Nat}(h:fo i t):Mine i t:=by
 rcases h with h|h|h
 ·exact .inl h
 ·rw[h];exact .inr rfl
 ·rw[h];exact .inr rfl
theorem rq{i:Nat}{t:Nat×Nat}(h:F9 t):fo i t:=by
 rcases h with rfl|rfl
 ·exact .inl rfl
 ·exact .inl rfl
theorem rx{P:Nat×Nat->Prop}{tg:eM}{w w':World}{b:Nat}(hg:w.grownBy w' (some b))(hs:w'.heap.size=w.heap.size)(a:P (tg b)):eo P tg tg w w':=
 ⟨hg.os,hg.tape,hg.output,hg.size,fun _ _=>rfl,fun k hk hn=>hg.block k hk (fun e=>hn (by cases e;exact a)),fun hf k hk=>hf k (by omega)⟩
section
variable {tg:eM}{w:World}{s i p:Nat}{B:WB}{ei:List Ob}{g:WG}{lim:Nat}
theorem OE(h:eH tg w s i p B ei g lim)(hl:lim<1099511627776){id:Int}(hk:eC ei id=1):
  eK 213 #[fj B.sF,ed id] w fun e w'=>
   e=.returned (.tuple #[.string (if(g.fs.fA id).2 then bytesOf ei id else fy),ed (if(g.fs.fA id).2 then 0 else 14)])/\∃ey,eo (fo i) tg ey w w'/\eH ey w' s i p B ei { g with fs:=(g.fs.fA id).1 } (lim+1):=by
 have f:=h.st.wf (id:=id) (by rw[hk];decide);obtain⟨o,n,M,hn,a,j,z⟩:=h.wp.jE;have c0:w.cell? (eb B.sF 0)=some (.func (.func 115) #[ptr p] #[]):=by simp[World.cell?,h.wp.tree.hF]
 have c1:w.cell? (eb B.sF 1)=some (.map (some B.mF)):=by simp[World.cell?,h.wp.tree.hF]
 by_cases jY:g.fs.kF id=true
 ·have b:g.fs.fA id=(g.fs,true):=by unfold FS.fA;rw[fY jY]
  rw[b];refine(OA B.sF B.mF p n M id (bytesOf ei id) w c1 a f (by rw[j,fY jY])).mono ?_;rintro e w' ⟨rfl,rfl⟩;exact⟨rfl,tg,eo.refl _ _ _,h.mono (Hk _)⟩
 ·have q:M (JA id)=none:=by rw[j,eJ jY]
  cases c:g.fs.brk with
  |true=>
   have b:g.fs.fA id=({ g.fs with brk:=false },false):=by unfold FS.fA;rw[eJ jY,fY c]
   rw[b];refine(Lu B.sF B.mF p n M id (fun w'=>∃ey,eo F9 tg ey w w'/\fO ey w' s p ei g.fs.got false lim) w c0 c1 a f q ((rX h.st hl hk).mono ?_)).mono ?_
   ·rintro e w' ⟨er,rfl,ey,m,⟨_,rfl,hS⟩|⟨hc,_⟩⟩
    ·exact⟨rfl,ey,m,hS⟩
    ·rw[c]at hc;cases hc
   ·rintro e w' ⟨rfl,ey,m,hS⟩
    exact⟨rfl,ey,m.mono (fun t ht=>rq ht),h.two,hS.mono (Hk _),h.wp.fs m (fun k _ _=>tR h.two k) (Hk _) ((h.wp.jE.moves m (tR h.two 2)).mono (Hk _)) ((h.wp.jF.moves m (tR h.two 3)).mono (Hk _))⟩
  |false=>
   have b:g.fs.fA id=({ g.fs with got:=g.fs.got++[id],kF:=fun x=>decide (x=id) ||g.fs.kF x },true):=by unfold FS.fA;rw[eJ jY,eJ (by rw[c];decide)]
   rw[b];refine(OB B.sF B.mF p n M id (fun d w'=>d=bytesOf ei id/\∃ey,eo F9 tg ey w w'/\fO ey w' s p ei (g.fs.got++[id]) false (lim+1)) w c0 c1 a f q (by unfold maxLen;omega) ((rX h.st hl hk).mono ?_) ?_).mono ?_
   ·rintro e w' ⟨er,rfl,ey,m,⟨hc,_⟩|⟨_,rfl,hS⟩⟩
    ·rw[c]at hc;cases hc
    ·exact⟨bytesOf ei id,rfl,rfl,ey,m,hS⟩
   ·rintro d r ⟨_,ey,m,hS⟩
    have ht:=h.wp.tree.moves m (tR h.two 1);exact⟨by simp[World.cell?,ht.hF],(a.moves m o (tR h.two 2)).1⟩
   ·rintro e w' ⟨d,rfl,r,⟨rfl,ey,m,hS⟩,A,C,D⟩
    have u:=(a.moves m o (tR h.two 2)).2;have v:eo (fun t=>t=(i,2)) ey ey r w':=rx C D u;have l:eo (fun t=>F9 t\/t=(i,2)) tg ey w w':=(m.mono (fun t ht=>.inl ht)).trans (v.mono (fun t ht=>.inr ht));have hi:=h.two;refine⟨rfl,ey,l.mono (fun t ht=>ht.elim rq (fun e=>.inr (.inl e))),h.two,?_,h.wp.fs l (fun k h2 _=>?_) (Hk _) ?_ ?_⟩
    ·rw[show({ g.fs with got:=g.fs.got++[id],kF:=fun x=>decide (x=id) ||g.fs.kF x }:FS).brk=false from c]
     exact hS.moves v (fun e=>by cases e) (fun e=>by cases e)
    ·rintro(h|h)
     ·exact tR hi k h
     ·cases h;exact h2 rfl
    ·refine⟨u,n+1,_,by omega,A,fun x=>?_,fun x hx=>?_⟩
     ·by_cases hx:x=id
      ·subst hx;rw[iY];simp
      ·rw[Hm (fun e=>hx (by injection e)),j x];simp[hx]
     ·by_cases y:x=id
      ·rw[y];exact hk
      ·exact z x (by simpa [y]using hx)
    ·exact(h.wp.jF.moves l (by rintro(h|h);exact tR hi 3 h;cases h)).mono (Hk _)
theorem Ra(h:eH tg w s i p B ei g lim)(hl:lim<1099511627776){id:Int}(hk:eC ei id=2):
  eK 217 #[fj B.sD,ed id] w fun e w'=>
   ∃v,e=.returned (.tuple #[v,ed (if(g.fs.fM id).2 then 0 else 14)])/\∃ey,eo (fo i) tg ey w w'/\eH ey w' s i p B ei { g with fs:=(g.fs.fM id).1 } (lim+1)/\
    (if(g.fs.fM id).2 then jD ey w' (i,3) v (eR ei id)else v=.slice none 0 0)/\∀v es k,(k=3\/k=5)->jD tg w (i,k) v es->jD ey w' (i,k) v es:=by
 have z:=h.st.wf (id:=id) (by rw[hk];decide);obtain⟨y,n,M,G,hn,d,A,C⟩:=h.wp.jF;have c0:w.cell? (eb B.sD 0)=some (.func (.func 117) #[ptr p] #[]):=by simp[World.cell?,h.wp.tree.hD]
 have c1:w.cell? (eb B.sD 1)=some (.map (some B.mD)):=by simp[World.cell?,h.wp.tree.hD]
 by_cases jY:g.fs.kD id=true
 ·have l:g.fs.fM id=(g.fs,true):=by unfold FS.fM;rw[fY jY]
  rw[l];have f:=(C id jY).2;obtain⟨la,b,lc,hv⟩:∃la b lc,G id=.slice la b lc:=by
   rcases f.1.2 with⟨e,_⟩|⟨o,X,_,e,_⟩
   ·exact⟨_,_,_,e⟩
   ·exact⟨_,_,_,e⟩
  refine(OC B.sD B.mD p n M id la b lc w c1 d z (by rw[A,fY jY,hv])).mono ?_;rintro e w' ⟨rfl,rfl⟩;exact⟨_,rfl,tg,eo.refl _ _ _,h.mono (Hk _),by rw[fY rfl,<-hv];exact f,fun _ _ _ _ h=>h⟩
 ·have H:M (JA id)=none:=by rw[A,eJ jY]
  cases q:g.fs.brk with
  |true=>
   have l:g.fs.fM id=({ g.fs with brk:=false },false):=by unfold FS.fM;rw[eJ jY,fY q]
   rw[l];refine(Lv B.sD B.mD p n M id (fun w'=>∃ey,eo F9 tg ey w w'/\fO ey w' s p ei g.fs.got false lim) w c0 c1 d z H ((uq h.st hl hk).mono ?_)).mono ?_
   ·rintro e w' ⟨er,v,rfl,hv,ey,m,⟨_,rfl,hS⟩|⟨hc,_⟩,_⟩
    ·rw[hv (by decide)];exact⟨rfl,ey,m,hS⟩
    ·rw[q]at hc;cases hc
   ·rintro e w' ⟨rfl,ey,m,hS⟩
    exact⟨_,rfl,ey,m.mono (fun t ht=>rq ht),⟨h.two,hS.mono (Hk _),h.wp.fs m (fun k _ _=>tR h.two k) (Hk _) ((h.wp.jE.moves m (tR h.two 2)).mono (Hk _)) ((h.wp.jF.moves m (tR h.two 3)).mono (Hk _))⟩,rfl,fun _ _ k _ hr=>hr.moves m (tR h.two k)⟩
  |false=>
   have l:g.fs.fM id=({ g.fs with got:=g.fs.got++[id],kD:=fun x=>decide (x=id) ||g.fs.kD x },true):=by unfold FS.fM;rw[eJ jY,eJ (by rw[q];decide)]
   rw[l];refine(OD B.sD B.mD p n M id (fun la b lc w'=>∃a,Value.slice la b lc=.slice (some (eb a 0)) (eR ei id).length (eR ei id).length/\w.heap.size<=a/\w'.ownsRow 0 96 3 (.slice la b lc) (eR ei id).length (flat (eR ei id))/\∃ey,ey a=(0,0)/\eo F9 tg ey w w'/\fO ey w' s p ei (g.fs.got++[id]) false (lim+1)) w c0 c1 d z H (by unfold maxLen;omega) ((uq h.st hl hk).mono ?_) ?_).mono ?_
   ·rintro e w' ⟨er,v,rfl,_,ey,m,⟨hc,_⟩|⟨_,rfl,hS⟩,hr⟩
    ·rw[q]at hc;cases hc
    ·obtain⟨a,rfl,I,D,f⟩:=hr rfl
     exact⟨_,_,_,rfl,a,rfl,I,f,ey,D,m,hS⟩
   ·rintro la b lc j ⟨_,_,_,_,ey,_,m,hS⟩
    have ht:=h.wp.tree.moves m (tR h.two 1);exact⟨by simp[World.cell?,ht.hD],(d.moves m y (tR h.two 3)).1⟩
   ·rintro e w' ⟨la,b,lc,rfl,j,⟨a,J,I,f,c,D,m,hS⟩,Q,K,R⟩
    have Y:=(d.moves m y (tR h.two 3)).2;have hi:=h.two;have Z:a<j.heap.size:=ee f (by rw[J];rfl)
    -- S new row is S aa
    have L:gF (gY c a (i,3)) j:=fun k hk=>by rw[jh (by omega)];exact hS.fresh k hk
    have r:eo F9 tg (gY c a (i,3)) w j:=⟨m.os,m.tape,m.output,m.size,fun k hk=>by rw[jh (by omega)];exact m.tags k hk,m.block,fun _=>L⟩;have T:fO (gY c a (i,3)) j s p ei (g.fs.got++[id]) false (lim+1):=hS.wu L (fun k hk=>jh (fun e=>by rw[e,D]at hk;cases hk) _);have N:gY c a (i,3) B.mD=(i,3):=(d.moves r y (tR h.two 3)).2;have O:eo (fun t=>t=(i,3)) (gY c a (i,3)) (gY c a (i,3)) j w':=rx K R N;have E:eo (fun t=>F9 t\/t=(i,3)) tg (gY c a (i,3)) w w':=(r.mono (fun t ht=>.inl ht)).trans (O.mono (fun t ht=>.inr ht));obtain⟨ab,ac,U⟩:=(d.moves r y (tR h.two 3)).1.isMap;have TB:∀v es k,jD (gY c a (i,3)) j (i,k) v es->jD (gY c a (i,3)) w' (i,k) v es:=fun v es k hr=>hr.keep (fun o u V=>⟨K.block o V (fun e=>by
     have W:o=B.mD:=by injection e
     rw[W]at u;exact pu hr.1 U u.symm),rfl⟩)
    have P:jD (gY c a (i,3)) w' (i,3) (.slice la b lc) (eR ei id):=TB _ _ _ ⟨f,fun o u=>by
     rw[J]at u;obtain rfl:a=o:=by simpa [Value.ownBlock]using u
     exact oP _ _ _⟩
    refine⟨_,rfl,_,E.mono (fun t ht=>ht.elim rq (fun e=>.inr (.inr e))),⟨h.two,?_,h.wp.fs E (fun k _ h3=>?_) (Hk _) ?_ ?_⟩,P,fun v es k _ hr=>TB _ _ _ (hr.moves r (tR h.two k))⟩
    ·rw[show({ g.fs with got:=g.fs.got++[id],kD:=fun x=>decide (x=id) ||g.fs.kD x }:FS).brk=false from q]
     exact T.moves O (fun e=>by cases e) (fun e=>by cases e)
    ·rintro(h|h)
     ·exact tR hi k h
     ·cases h;exact h3 rfl
    ·exact(h.wp.jE.moves E (by rintro(h|h);exact tR hi 2 h;cases h)).mono (Hk _)
    ·refine⟨N,n+1,_,fun x=>if x=id then .slice la b lc else G x,by omega,Q,fun x=>?_,fun x hx=>?_⟩
     ·by_cases hx:x=id
      ·subst hx;rw[iY];simp
      ·rw[Hm (fun e=>hx (by injection e)),A x];simp[hx]
     ·by_cases F:x=id
      ·subst F
       show _/\jD _ _ _ (if x=x then _ else _) _;rw[fY rfl];exact⟨hk,P⟩
      ·show _/\jD _ _ _ (if x=id then _ else _) _
       rw[eJ F];have kN:g.fs.kD x=true:=by simpa [F]using hx
       exact⟨(C x kN).1,TB _ _ _ ((C x kN).2.moves r (tR h.two 3))⟩
end
end Go.Proofs.YtlgidcmmgohagaaGreat
