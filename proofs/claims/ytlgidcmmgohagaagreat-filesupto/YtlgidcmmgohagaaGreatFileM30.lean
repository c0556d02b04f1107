/- What is proved here: which flags may be. -/
import Derived.Test.YtlgidcmmgohagaaGreatFileM29
import Derived.Test.YtlgidcmmgohagaaGreatFileM14
import Derived.Test.YtlgidcmmgohagaaGreatFileM21
import Derived.Test.YtlgidcmmgohagaaGreatFileM05
import Derived.Deep.CutRange
namespace Go.Proofs.YtlgidcmmgohagaaGreat
open Go.RowKit Go.Sort Go.Shelf Go.Proofs.Tryz
set_option linter.unusedVariables false
set_option maxRecDepth 100000
set_option maxHeartbeats 16000000
variable {er fg many:Int}{a i k t:Nat}{d x:eD}{u:Bool}{l:List UInt8}
def tA (fl:Int):Bool:=
 if fl<0\/63<fl then false
 else if kA fl 1=false/\kA fl 2=false then false
 else if kA fl 2=false/\(kA fl 4=true\/kA fl 16=true\/kA fl 32=true)then false
 else !kA fl 8 ||kA fl 4
theorem Ku(fl:Int)(w:World):gc 157 #[eJ fl] w (Do (.bool (tA fl)) w):=by
 by_cases h0:fl<0
 ·have h:tA fl=false:=by unfold tA;rw[ie (.inl h0)]
  rw[h];go_enter func157,ntmps157;go_wp2;go_ret;exact⟨rfl,rfl⟩
 ·have t0:decide (fl<0)=false:=rk h0
  by_cases h1:63<fl
  ·have h:tA fl=false:=by unfold tA;rw[ie (.inr h1)]
   rw[h];go_enter func157,ntmps157;go_wp2;go_ret;exact⟨rfl,rfl⟩
  ·have t1:decide (63<fl)=false:=rk h1
   have i:Hid (∀f,1<=f/\f<=32->kA fl f=true->∀W,gc 159 #[eJ fl,eJ f] W (Do (.bool true) W)):=fun f hf e W=>by have:=jK fl f W (by omega) hf;rwa [e]at this
   have j:Hid (∀f,1<=f/\f<=32->kA fl f=false->∀W,gc 159 #[eJ fl,eJ f] W (Do (.bool false) W)):=fun f hf e W=>by have:=jK fl f W (by omega) hf;rwa [e]at this
   obtain⟨R,g⟩:∃R,R=tA fl:=⟨_,rfl⟩;rw[<-g];unfold tA at g;rw[fY (by omega)]at g;have k:Hid _:=g;clear g;have hc:(kA fl 2=false/\kA fl 1=false)\/(kA fl 2=false/\kA fl 1=true/\kA fl 4=true)\/(kA fl 2=false/\kA fl 1=true/\kA fl 4=false/\kA fl 16=true)\/(kA fl 2=false/\kA fl 1=true/\kA fl 4=false/\kA fl 16=false/\kA fl 32=true)\/(kA fl 2=false/\kA fl 1=true/\kA fl 4=false/\kA fl 16=false/\kA fl 32=false/\kA fl 8=true)\/(kA fl 2=false/\kA fl 1=true/\kA fl 4=false/\kA fl 16=false/\kA fl 32=false/\kA fl 8=false)\/
     (kA fl 2=true/\kA fl 1=true/\kA fl 8=false)\/(kA fl 2=true/\kA fl 1=true/\kA fl 8=true/\kA fl 4=true)\/(kA fl 2=true/\kA fl 1=true/\kA fl 8=true/\kA fl 4=false)\/(kA fl 2=true/\kA fl 1=false/\kA fl 8=false)\/(kA fl 2=true/\kA fl 1=false/\kA fl 8=true/\kA fl 4=true)\/(kA fl 2=true/\kA fl 1=false/\kA fl 8=true/\kA fl 4=false):=by
    clear i j k;cases kA fl 1<;>cases kA fl 2<;>cases kA fl 4<;>cases kA fl 8<;>cases kA fl 16<;>cases kA fl 32<;>decide
   clear h0 h1;rcases hc with⟨a,b⟩|⟨a,b,c⟩|⟨a,b,c,d⟩|⟨a,b,c,d,e⟩|⟨a,b,c,d,e,f⟩|⟨a,b,c,d,e,f⟩|⟨a,b,c⟩|⟨a,b,c,d⟩|⟨a,b,c,d⟩|⟨a,b,c⟩|⟨a,b,c,d⟩|⟨a,b,c,d⟩
   all_goals
    go_enter func157,ntmps157;go_wp2_with(go_at_call 159;(first|refine io (i.out _ (by decide) (by assumption) _) ?_|refine io (j.out _ (by decide) (by assumption) _) ?_);rintro _ _ ⟨rfl,rfl⟩);go_ret;exact⟨by rw[k.out];simp[*],rfl⟩
theorem Yy(fl:Int)(h0:-9223372036854775808<=fl)(h1:fl<9223372036854775808):(bits BinOp.andNot IntKind.i64 fl 63 != 0)=!(decide (0<=fl)&&decide (fl<=63)):=by
 have key:∀v:BitVec 64,(v &&& ~~~(63#64)).toNat=0↔v.toNat<=63:=by
  intro v;constructor
  ·intro h
   have h2:v &&& ~~~(63#64)=0#64:=BitVec.eq_of_toNat_eq h;have h3:v >>> 6=0#64:=by
    ext i hi
    have:=xr (fun x=>x.getLsbD (6+i)) h2
    by_cases h6:6+i<64
    ·have b:(63#64).getLsbD (6+i)=false:=by
      rw[BitVec.getLsbD_ofNat]
      have:Nat.testBit 63 (6+i)=false:=Nat.testBit_lt_two_pow (by
       have:2 ^ 6<=2 ^ (6+i):=Nat.pow_le_pow_right (by decide) (by omega)
       omega)
      rw[this];simp
     simp only[BitVec.getLsbD_and,BitVec.getLsbD_not,b,mz h6,Bool.not_false,Bool.and_true]at this;rw[BitVec.getElem_ushiftRight,this];simp
    ·simp
     exact BitVec.getLsbD_of_ge _ _ (by omega)
   have a:=xr BitVec.toNat h3;simp at a;rw[Nat.shiftRight_eq_div_pow]at a;omega
  ·intro h
   have:v.toNat<2 ^ 6:=by omega
   apply Nat.eq_of_testBit_eq;intro i;rw[BitVec.toNat_and,Nat.testBit_and];by_cases hi:i<6
   ·have:(~~~(63#64)).toNat.testBit i=false:=by
     have:i=0\/i=1\/i=2\/i=3\/i=4\/i=5:=by omega
     rcases this with h|h|h|h|h|h<;>subst h<;>decide
    rw[this];simp
   ·have:v.toNat.testBit i=false:=Nat.testBit_lt_two_pow (by
     have:2 ^ 6<=2 ^ i:=Nat.pow_le_pow_right (by decide) (by omega)
     omega)
    rw[this];simp
 have hw:∀n:Nat,n<18446744073709551616->((IntKind.i64.wrap (n:Int) != 0)=!(decide (n=0))):=by
  intro n hn;rw[xS];by_cases h:n=0
  ·subst h;decide
  ·rw[rk h]
   simp;omega
 show(IntKind.i64.wrap ((BitVec.ofInt 64 fl &&& ~~~(BitVec.ofInt 64 63)).toNat:Int) != 0)=_;rw[hw _ (BitVec.isLt _)];have e:BitVec.ofInt 64 63=63#64:=by decide
 rw[e]
 congr 1
 have:=key (BitVec.ofInt 64 fl)
 rw[BitVec.toNat_ofInt]at this;by_cases hf:0<=fl/\fl<=63
 ·rw[mz (this.2 (by omega)),mz hf.1,mz hf.2];rfl
 ·rw[rk (fun h=>hf (by have:=this.1 h;omega))]
  by_cases h:0<=fl
  ·rw[mz h,rk (fun h'=>hf ⟨h,h'⟩)];rfl
  ·rw[rk h];rfl
def OY (fl:Int):Int:=if(bits BinOp.and IntKind.i64 fl 8 != 0)=true then 6 else if(bits BinOp.and IntKind.i64 fl 52 != 0)=true then 2 else 0
theorem Su:∀n:Fin 64,tA (n.val:Int)=if(bits BinOp.and IntKind.i64 (n.val:Int) 3==0)=true then false else(bits BinOp.andNot IntKind.i64 (OY n.val) n.val==0):=by decide +kernel
theorem Yz:∀n:Fin 64,(bits BinOp.and IntKind.i64 (n.val:Int) 1==0)=!kA n.val 1/\(bits BinOp.and IntKind.i64 (n.val:Int) 2==0)=!kA n.val 2/\(bits BinOp.and IntKind.i64 (n.val:Int) 4 != 0)=kA n.val 4/\(bits BinOp.and IntKind.i64 (n.val:Int) 8 != 0)=kA n.val 8/\(bits BinOp.and IntKind.i64 (n.val:Int) 16 != 0)=kA n.val 16/\(bits BinOp.and IntKind.i64 (n.val:Int) 32 != 0)=kA n.val 32:=by decide +kernel
theorem CF{fl:Int}(h:0<=fl/\fl<=63):(bits BinOp.and IntKind.i64 fl 1==0)=!kA fl 1/\(bits BinOp.and IntKind.i64 fl 2==0)=!kA fl 2/\(bits BinOp.and IntKind.i64 fl 4 != 0)=kA fl 4/\(bits BinOp.and IntKind.i64 fl 8 != 0)=kA fl 8/\(bits BinOp.and IntKind.i64 fl 16 != 0)=kA fl 16/\(bits BinOp.and IntKind.i64 fl 32 != 0)=kA fl 32:=by
 obtain⟨n,hn,rfl⟩:∃n:Nat,n<64/\fl=(n:Int):=⟨fl.toNat,by omega,by omega⟩;exact Yz ⟨n,hn⟩
theorem NF(fl:Int)(w:World):gc 175 #[eJ fl] w (Do (eJ (OY fl)) w):=by
 unfold OY;cases h8:(bits BinOp.and IntKind.i64 fl 8 != 0) with
 |true=>
  go_enter func175,ntmps175;go_wp2;go_ret;exact⟨rfl,rfl⟩
 |false=>
  cases a:(bits BinOp.and IntKind.i64 fl 52 != 0) with
  |true=>
   go_enter func175,ntmps175;go_wp2;go_ret;exact⟨rfl,rfl⟩
  |false=>
   go_enter func175,ntmps175;go_wp2;go_ret;exact⟨rfl,rfl⟩
theorem Sv(fl:Int)(hr:-9223372036854775808<=fl/\fl<9223372036854775808)(w:World):gc 118 #[eJ fl] w (Do (.bool (tA fl)) w):=by
 have hm:=Yy fl hr.1 hr.2;by_cases hf:0<=fl/\fl<=63
 ·rw[mz hf.1,mz hf.2]at hm
  have hm:(bits BinOp.andNot IntKind.i64 fl 63 != 0)=false:=hm;obtain⟨n,hn,rfl⟩:∃n:Nat,n<64/\fl=(n:Int):=⟨fl.toNat,by omega,by omega⟩;have hv:=Su ⟨n,hn⟩;simp only at hv;have a:Hid _:=NF (n:Int) w;cases h3:(bits BinOp.and IntKind.i64 (n:Int) 3==0) with
  |true=>
   rw[hv,h3];clear hv;go_enter func118,ntmps118;go_wp2;go_ret;exact⟨rfl,rfl⟩
  |false=>
   rw[hv,h3];generalize OY (n:Int)=nd at a ⊢;clear hv;go_enter func118,ntmps118;go_wp2_with(go_at_call 175;refine io a.out ?_;rintro e b ⟨rfl,rfl⟩);go_ret;exact⟨rfl,rfl⟩
 ·have e:tA fl=false:=by unfold tA;rw[ie (by omega)]
  rw[e];have hm:(bits BinOp.andNot IntKind.i64 fl 63 != 0)=true:=by
   rw[hm];by_cases h:0<=fl
   ·rw[mz h,rk (fun h'=>hf ⟨h,h'⟩)];rfl
   ·rw[rk h];rfl
  go_enter func118,ntmps118;go_wp2;go_ret;exact⟨rfl,rfl⟩
theorem YA(W:World):(binOp .eql 86 (.pointer none) (.pointer none)).run prog W=.ok (.bool true) W:=by kernel_rfl
def vY (vs:Nat->Option Nat)(n:Int):Prop:=∀k:Nat,k<8->n=(k:Int)->vs k=none
theorem ua(b:Nat)(n:Int)(vs:Nat->Option Nat)(w:World)(h:lg w b vs)(hn:vY vs n):
  gc 122 #[.pointer (some (eI b 1)),eJ n] w (Do (.tuple #[.pointer none,eJ 3]) w):=by
 have a:=h.1;by_cases h0:n<0
 ·clear h hn
  go_enter func122,ntmps122;go_wp2;go_ret2;exact⟨rfl,rfl⟩
 ·have t0:decide (n<0)=false:=rk h0
  by_cases h8:8<=n
  ·clear h hn
   go_enter func122,ntmps122;go_wp2;go_ret2;exact⟨rfl,rfl⟩
  ·have t8:decide (8<=n)=false:=rk h8
   obtain⟨k,rfl⟩:∃k:Nat,n=(k:Int):=⟨n.toNat,by omega⟩;have hk:k<8:=by omega
   have hc:w.cell? (eI b (1+k))=some (.pointer none):=by rw[h.2.1 k hk,hn k hk rfl];rfl
   have c:(k:Int)<8:=by omega
   have hq:=YA;clear h hn;go_enter func122,ntmps122;go_wp2;go_ret2;exact⟨rfl,rfl⟩
section
variable {b:Nat}{n:Int}{vs:Nat->Option Nat}{w:World}
theorem Wd(h:lg w b vs)(hn:vY vs n):gc 65 #[hh b,eJ n] w (Do (eJ 3) w):=by
 have a:Hid _:=ua b n vs w h hn;have f:=h.1;have c:Hid (gc 124 #[.pointer (some (eI b 1)),eJ n] w (Do (eJ 3) w)):=by
  show Calls _ _ _ _ _;clear h hn;go_enter func124,ntmps124;go_wp2_with(go_at_call 122;refine io a.out ?_;rintro e d ⟨rfl,rfl⟩);go_ret;exact⟨rfl,rfl⟩
 clear h hn;go_enter func65,ntmps65;go_wp2_with(go_at_call 124;refine io c.out ?_;rintro e d ⟨rfl,rfl⟩);go_ret;exact⟨rfl,rfl⟩
theorem YB(h:lg w b vs)(hn:vY vs n)(m:Int):gc 66 #[hh b,eJ n,eJ m] w (Do (.tuple #[.string hZ,eJ 3]) w):=by
 have a:Hid _:=ua b n vs w h hn;have c:=h.1;clear h hn;go_enter func66,ntmps66;go_wp2_with(go_at_call 122;refine io a.out ?_;rintro e d ⟨rfl,rfl⟩);go_ret2;exact⟨rfl,rfl⟩
theorem We(h:lg w b vs)(hn:vY vs n)(d:eD):gc 64 #[hh b,eJ n,.string d] w (Do (eJ 3) w):=by
 have a:Hid _:=ua b n vs w h hn;have c:=h.1;clear h hn;go_enter func64,ntmps64;go_wp2_with(go_at_call 122;refine io a.out ?_;rintro e f ⟨rfl,rfl⟩);go_ret;exact⟨rfl,rfl⟩
theorem YC(h:lg w b vs)(hn:vY vs n)(m:Int):gc 102 #[hh b,eJ n,eJ m] w (Do (eJ 3) w):=by
 have a:Hid _:=ua b n vs w h hn;have c:=h.1;clear h hn;go_enter func102,ntmps102;go_wp2_with(go_at_call 122;refine io a.out ?_;rintro e d ⟨rfl,rfl⟩);go_ret;exact⟨rfl,rfl⟩
theorem Sw(h:lg w b vs)(hn:vY vs n)(m:Int):gc 100 #[hh b,eJ n,eJ m] w (Do (eJ 3) w):=by
 have a:Hid _:=ua b n vs w h hn;have c:=h.1;clear h hn;go_enter func100,ntmps100;go_wp2_with(go_at_call 122;refine io a.out ?_;rintro e d ⟨rfl,rfl⟩);go_ret;exact⟨rfl,rfl⟩
end
section
variable {o f:Nat}{fg pl:Int}{w:World}
theorem EP(n:Int)(ho:o<w.heap.size)(c1:w.cell? (eI o 1)=some (eJ fg))(c2:w.cell? (eI o 2)=some (eJ pl))(h0:0<=pl)(h1:pl<=256)
  (a:(n<0/\er=2)\/(0<=n/\(bits BinOp.and IntKind.i64 fg 1==0)=true/\er=12)\/(0<=n/\(bits BinOp.and IntKind.i64 fg 1==0)=false/\(n=0\/pl=256)/\er=0)):
  gc 125 #[hh o,eJ n] w (Do (.tuple #[.string hZ,eJ er]) w):=by
 rcases a with⟨hn,rfl⟩|⟨hn,b,rfl⟩|⟨hn,b,d,rfl⟩
 ·go_enter func125,ntmps125
  go_wp2;go_ret2;exact⟨rfl,rfl⟩
 ·have c:decide (n<0)=false:=rk (by omega)
  go_enter func125,ntmps125;go_wp2;go_ret2;exact⟨rfl,rfl⟩
 ·have c:decide (n<0)=false:=rk (by omega)
  have hm:min n (256-pl)=0:=by omega
  go_enter func125,ntmps125;go_wp2;go_ret2;exact⟨rfl,rfl⟩
theorem CG(d:eD)(ho:o<w.heap.size)(c1:w.cell? (eI o 1)=some (eJ fg))(c2:w.cell? (eI o 2)=some (eJ pl))(h0:0<=QQ fg pl 0)(h1:QQ fg pl 0<=256)(hd:d.size<=1048576)
  (a:((bits BinOp.and IntKind.i64 fg 2==0)=true/\er=12)\/((bits BinOp.and IntKind.i64 fg 2==0)=false/\1<=d.size/\256<QQ fg pl 0+d.size/\er=11)):
  gc 123 #[hh o,.string d] w (Do (eJ er) w):=by
 have b:Hid _:=qE o fg pl 0 w c1 c2;generalize QQ fg pl 0=g at b h0 h1 a;rcases a with⟨c,rfl⟩|⟨c,f,ht,rfl⟩
 ·go_enter func123,ntmps123
  go_wp2;go_ret;exact⟨rfl,rfl⟩
 ·have hn:=oP f
  go_enter func123,ntmps123;go_wp2_with(go_at_call 180;refine io b.out ?_;rintro e h ⟨rfl,rfl⟩);go_ret;exact⟨rfl,rfl⟩
theorem zM(m:Int)(ho:o<w.heap.size)(c1:w.cell? (eI o 1)=some (eJ fg))
  (a:((m<0\/256<m)/\er=2)\/(0<=m/\m<=256/\(bits BinOp.and IntKind.i64 fg 2==0)=true/\er=12)):
  gc 164 #[hh o,eJ m] w (Do (eJ er) w):=by
 by_cases h0:m<0
 ·obtain rfl:er=2:=by omega
  clear a;go_enter func164,ntmps164;go_wp2;go_ret;exact⟨rfl,rfl⟩
 ·have t0:decide (m<0)=false:=rk h0
  by_cases h1:256<m
  ·obtain rfl:er=2:=by omega
   clear a;go_enter func164,ntmps164;go_wp2;go_ret;exact⟨rfl,rfl⟩
  ·have t1:decide (256<m)=false:=rk h1
   obtain⟨b,rfl⟩:(bits BinOp.and IntKind.i64 fg 2==0)=true/\er=12:=by
    rcases a with h|h
    ·omega
    ·exact h.2.2
   clear a h0 h1;go_enter func164,ntmps164;go_wp2;go_ret;exact⟨rfl,rfl⟩
theorem Sy(a:Int)(h:a<0\/256<a)(W:World):gc 165 #[hh o,eJ a] W (Do (eJ 2) W):=by
 by_cases h0:a<0
 ·go_enter func165,ntmps165
  go_wp2;go_ret;exact⟨rfl,rfl⟩
 ·have t0:decide (a<0)=false:=rk h0
  have t1:256<a:=by omega
  go_enter func165,ntmps165;go_wp2;go_ret;exact⟨rfl,rfl⟩
end
theorem jL{hs:List rS}{x:Int×Int×Int}(h8:hs.length=8)(hk:hs[k]?=some (true,x)):pU hs (k:Int)=true:=by
 obtain⟨hl,e⟩:=wj.1 hk;rw[Cp hl h8,e]
theorem Kv(d:eD)(a:Nat):d.extract a a=hZ:=by
 apply KW;rw[Pg];simp;omega
theorem OZ{a x y:Nat}(hx:d.size<=x)(b:d.size<=y):d.extract a x=d.extract a y:=by
 apply KW;rw[Pg,Pg];have h:d.data.toList.length=d.size:=rfl;apply WH.1;rw[Array.toList_extract,Array.toList_extract];unfold List.extract;rw[lV (by rw[lz];omega),lV (by rw[lz];omega)]
theorem Wf(d:eD){a x:Nat}(h:a<=x):d.extract a x++d.extract x (x+1)=d.extract a (x+1):=by
 rw[ByteArray.extract_append_extract,xQ h,Nat.max_eq_right (by omega)]
section
variable {F:Nat->Prop}{w:World}{S:Nat}{na da:fD}{nc dc:Nat}{nodes:List eN}{data:eL}{hs:List rS}{more:fQ}
theorem fo.qa(h:fo F w S na da nc dc nodes data (rr hs++more)){j fg a:Int}(hk:hs[k]?=some (u,j,fg,a)):
  w.cell? (eI S (2+k*4))=some (.bool u)/\w.cell? (eI S (2+k*4+1))=some (eJ j)/\w.cell? (eI S (2+k*4+2))=some (eJ fg)/\w.cell? (eI S (2+k*4+3))=some (eJ a)/\∀o,w.frozen? (eI S o)=false:=by
 obtain⟨hl,e⟩:=wj.1 hk;have c:=fun f (hf:f<4)=>h.tab (f:=f) hl hf;rw[e]at c;exact⟨c 0 (by omega),c 1 (by omega),c 2 (by omega),c 3 (by omega),fun o=>by simp[World.frozen?,h.hS]⟩
theorem fo.place(h:fo F w S na da nc dc nodes data (rr hs++more)){j fg a:Int}(hk:hs[k]?=some (u,j,fg,a))(b:Int):
  fo F (w.setCell (eI S (2+k*4+3)) (eJ b)) S na da nc dc nodes data (rr (hs.set k (u,j,fg,b))++more)/\eA F w (w.setCell (eI S (2+k*4+3)) (eJ b)):=by
 obtain⟨hl,e⟩:=wj.1 hk;exact h.Du hl (by omega) (by rw[e];rfl)
theorem Wh(h:fo F w S na da nc dc nodes data (rr hs++more))(h8:hs.length=8){k j a:Nat}(hk:hs[k]?=some (true,(j:Int),fg,(a:Int)))(hj:data[j]?=some d)(hf:0<=fg/\fg<=63)(aj:a<=256)(hd:d.size<=256)(hm:0<=many)(A:kA fg 1=true)(hl:data.length<=1000000000):
  gc 98 #[hh S,eJ (k:Int),eJ many] w fun e w'=>e=.returned (.tuple #[.string (d.extract a (a+many.toNat)),eJ 0])/\
   fo F w' S na da nc dc nodes data (rr (hs.set k (true,(j:Int),fg,(a:Int)+(d.extract a (a+many.toNat)).size))++more)/\eA F w w':=by
 have ak:=h.lt;have B:Hid _:=gK h h8 (k:Int);rw[jL h8 hk]at B;have O:Hid (∀W,gc 159 #[eJ fg,eJ 1] W (Do (.bool true) W)):=fun W=>by have:=jK fg 1 W hf ⟨by decide,by decide⟩;rwa [A]at this
 obtain⟨c0,c1,c2,c3,l⟩:=h.qa hk;have P:=(wj.1 hk).1;have al:k<8:=by omega
 have t3:(k:Int)<8:=by omega
 have am:decide (many<0)=false:=rk (by omega);have Q:Hid (fo F w S na da nc dc nodes data (rr hs++more)):=h;have m:Hid (hs[k]?=some (true,(j:Int),fg,(a:Int))):=hk;have C:Hid (data[j]?=some d):=hj;clear h hk hj l A hf h8 P;go_enter func98,ntmps98;go_wp2_with fail;refine io B.out ?_;rintro _ w ⟨rfl,rfl⟩;go_wp2_with fail;refine io (O.out _) ?_;rintro _ f ⟨rfl,g⟩;have r:ik w f:=by rw[g];exact(lh _ _).alloc (kx _) _
 have R:f.cell? (eI w.heap.size 1)=some (eJ (j:Int)):=by rw[g];simp
 have D:f.cell? (eI w.heap.size 3)=some (eJ (a:Int)):=by rw[g];simp
 have E:w.heap.size<f.heap.size:=by rw[g];simp
 have b:=Q.out.below r;have G:=b.c1;obtain⟨an,T,ao,U,_⟩:=row_one b.gz (i:=j) (v:=.string d) (by simp[fU,C.out]);obtain⟨V,X,e2,Y,l⟩:=b.qa m.out;have f3:=l (2+k*4+3);have Z:=b.lt;have aa:j<data.length:=(wj.1 C.out).1;obtain⟨s,ab⟩:∃s,s=data.length:=⟨_,rfl⟩;rw[<-ab]at G aa hl;have ap:(j:Int)<(s:Int):=by omega
 subst T;have ac:Hid _:=b;have H:Hid _:=r;clear g c0 c1 c2 c3 b r l;go_wp2
 go_region
 go_wp2
 go_loopw [10,12] (fun ad t wr=>∃(x:Nat) (o:eD),x<=512/\o.size<=512/\t=.int .i64 (x:Int)/\ad=.string o/\Hid (o=d.extract a x)/\Hid (o.size+a=x/\(x=a\/x<=d.size))/\Hid ((o.size:Int)<=many)/\Hid (ik f wr)) (fun _ t _=>512-(intOf t).toNat)
 case atStart=>exact⟨a,hZ,by omega,by show 0<=512;omega,rfl,rfl,(Kv d a).symm,⟨by show 0+a=a;omega,.inl rfl⟩,by show((0:Nat):Int)<=many;omega,by first|exact(lh _ _).drew|exact lh _ _⟩
 case round=>
  obtain⟨x,o,h1,h2,rfl,rfl,I,J,ae,c⟩:=hrel;by_cases hq:x<d.size/\(o.size:Int)<many
  ·have K:(x:Int)<(d.size:Int):=by omega
   have af:=hq.2;have aq:(x:Int)+1<=(d.size:Int):=by omega
   clear hq;go_wp2;have ag:(d.extract x (x+1)).size=1:=by rw[WQ];omega
   have u:(o++d.extract x (x+1)).size=o.size+1:=by rw[Pd,ag]
   obtain⟨ah,ai⟩:=J.out;refine⟨⟨x+1,_,by omega,by rw[u];omega,rfl,rfl,?_,?_,?_,c⟩,by simp[intOf];omega⟩
   ·show _=_
    rw[I.out,Wf d (by omega)]
   ·exact⟨by rw[u];omega,.inr (by omega)⟩
   ·show(_:Int)<=_
    rw[u];omega
  ·have L:Hid (o=d.extract a (a+many.toNat)):=by
    obtain⟨ah,ai⟩:=J.out;have ar:=ae.out;show _=_;rw[I.out];by_cases q:x<d.size
    ·rw[show a+many.toNat=x by omega]
    ·exact OZ (by omega) (by omega)
   have n:=ac.out.below c.out;obtain⟨_,_,_,g3,M⟩:=n.qa m.out;have au:=M (2+k*4+3);have av:=(c.out.cell (p:=(eI w.heap.size 3)) E).trans D;have aw:=n.lt;have ax:=lO E c.out.size;have N:Hid _:=n;clear n M V X e2 Y f3 R D U G Z;by_cases q:x<d.size
   ·have K:(x:Int)<(d.size:Int):=by omega
    have af:decide ((o.size:Int)<many)=false:=rk (fun h=>hq ⟨q,h⟩);clear hq;go_wp2
    go_region
    go_wp2;go_ret2;rw[<-L.out];have hD:ik wr wr.drew:=(lh _ _).drew;obtain⟨y,z⟩:=(N.out.below hD).place m.out ((a:Int)+(o.size:Int));exact⟨rfl,y,((z.after hD).after c.out).after H.out⟩
   ·have K:decide ((x:Int)<(d.size:Int))=false:=rk (by omega)
    clear hq;go_wp2
    go_region
    go_wp2;go_ret2;rw[<-L.out];have hD:ik wr wr.drew:=(lh _ _).drew;obtain⟨y,z⟩:=(N.out.below hD).place m.out ((a:Int)+(o.size:Int));exact⟨rfl,y,((z.after hD).after c.out).after H.out⟩
theorem NG(h:fo F w S na da nc dc nodes data (rr hs++more))(h8:hs.length=8)(n many:Int)(hu:pU hs n=false):
  gc 98 #[hh S,eJ n,eJ many] w (pB (.tuple #[.string hZ,eJ 3]) w):=by
 have b:=h.lt;have a:Hid _:=gK h h8 n;rw[hu]at a;go_enter func98,ntmps98;go_wp2_with(go_at_call 163;refine io a.out ?_;rintro _ w ⟨rfl,rfl⟩);go_ret2;exact⟨rfl,lh _ _⟩
theorem Kw(h:fo F w S na da nc dc nodes data (rr hs++more))(h8:hs.length=8)(n:Int)(x:eD)(hu:pU hs n=false):
  gc 99 #[hh S,eJ n,.string x] w (pB (eJ 3) w):=by
 have b:=h.lt;have a:Hid _:=gK h h8 n;rw[hu]at a;go_enter func99,ntmps99;go_wp2_with(go_at_call 163;refine io a.out ?_;rintro _ w ⟨rfl,rfl⟩);go_ret;exact⟨rfl,lh _ _⟩
theorem GM(h:fo F w S na da nc dc nodes data (rr hs++more))(h8:hs.length=8)(n m:Int)(hu:pU hs n=false):
  gc 101 #[hh S,eJ n,eJ m] w (pB (eJ 3) w):=by
 have b:=h.lt;have a:Hid _:=gK h h8 n;rw[hu]at a;go_enter func101,ntmps101;go_wp2_with(go_at_call 163;refine io a.out ?_;rintro _ w ⟨rfl,rfl⟩);go_ret;exact⟨rfl,lh _ _⟩
theorem Sz(h:fo F w S na da nc dc nodes data (rr hs++more))(h8:hs.length=8){j fg a many:Int}(hk:hs[k]?=some (true,j,fg,a))(hf:0<=fg/\fg<=63)(c:(many<0/\er=2)\/(0<=many/\kA fg 1=false/\er=12)):
  gc 98 #[hh S,eJ (k:Int),eJ many] w (pB (.tuple #[.string hZ,eJ er]) w):=by
 have l:=h.lt;have d:Hid _:=gK h h8 (k:Int);rw[jL h8 hk]at d;obtain⟨c0,c1,c2,c3,f⟩:=h.qa hk;have g:=(wj.1 hk).1;have m:k<8:=by omega
 have t3:(k:Int)<8:=by omega
 have e:Hid (kA fg 1=false->∀W,gc 159 #[eJ fg,eJ 1] W (Do (.bool false) W)):=fun b W=>by have:=jK fg 1 W hf ⟨by decide,by decide⟩;rwa [b]at this
 clear h hk f hf h8 g;by_cases hm:many<0
 ·obtain rfl:er=2:=by omega
  clear c;go_enter func98,ntmps98;go_wp2_with(go_at_call 163;refine io d.out ?_;rintro _ w ⟨rfl,rfl⟩);go_ret2;exact⟨rfl,(lh _ _).alloc (kx _) _⟩
 ·obtain⟨b,rfl⟩:kA fg 1=false/\er=12:=by
   rcases c with h|h
   ·exact absurd h.1 hm
   ·exact h.2
  have n:decide (many<0)=false:=rk hm;have i:Hid _:=e.out b;clear c hm e b;go_enter func98,ntmps98;go_wp2_with fail;refine io d.out ?_;rintro _ w ⟨rfl,rfl⟩;go_wp2_with(go_at_call 159;refine io (i.out _) ?_;rintro _ _ ⟨rfl,rfl⟩);go_ret2;exact⟨rfl,(lh _ _).alloc (kx _) _⟩
theorem zN(h:fo F w S na da nc dc nodes data (rr hs++more))(h8:hs.length=8){j fg a m:Int}(hk:hs[k]?=some (true,j,fg,a))(hf:0<=fg/\fg<=63)(b:((m<0\/256<m)/\er=2)\/(0<=m/\m<=256/\kA fg 2=false/\er=12)):
  gc 101 #[hh S,eJ (k:Int),eJ m] w (pB (eJ er) w):=by
 have l:=h.lt;have c:Hid _:=gK h h8 (k:Int);rw[jL h8 hk]at c;obtain⟨c0,c1,c2,c3,f⟩:=h.qa hk;have g:=(wj.1 hk).1;have n:k<8:=by omega
 have t3:(k:Int)<8:=by omega
 have e:Hid (kA fg 2=false->∀W,gc 159 #[eJ fg,eJ 2] W (Do (.bool false) W)):=fun d W=>by have:=jK fg 2 W hf ⟨by decide,by decide⟩;rwa [d]at this
 clear h hk f hf h8 g;by_cases h0:m<0
 ·obtain rfl:er=2:=by omega
  clear b;go_enter func101,ntmps101;go_wp2_with(go_at_call 163;refine io c.out ?_;rintro _ w ⟨rfl,rfl⟩);go_ret;exact⟨rfl,lh _ _⟩
 ·have t0:decide (m<0)=false:=rk h0
  by_cases h1:256<m
  ·obtain rfl:er=2:=by omega
   clear b;go_enter func101,ntmps101;go_wp2_with(go_at_call 163;refine io c.out ?_;rintro _ w ⟨rfl,rfl⟩);go_ret;exact⟨rfl,lh _ _⟩
  ·have t1:decide (256<m)=false:=rk h1
   obtain⟨d,rfl⟩:kA fg 2=false/\er=12:=by
    rcases b with h|h
    ·omega
    ·exact h.2.2
   have i:Hid _:=e.out d;clear b h0 h1 e d;go_enter func101,ntmps101;go_wp2_with fail;refine io c.out ?_;rintro _ w ⟨rfl,rfl⟩;go_wp2_with(go_at_call 159;refine io (i.out _) ?_;rintro _ _ ⟨rfl,rfl⟩);go_ret;exact⟨rfl,lh _ _⟩
end
def qW (l:List UInt8)(n:Nat):List UInt8:=l++List.replicate (n-l.length) 0
theorem GN(l:List UInt8)(n:Nat):(qW l n).length=max l.length n:=by unfold qW;simp;omega
theorem Ky(h:l.length<=k):qW l k++[0]=qW l (k+1):=by
 unfold qW;rw[kC,show k+1-l.length=(k-l.length)+1 by omega,EZ]
theorem uN{n:Nat}(h:n<=l.length):qW l n=l:=by unfold qW;rw[show n-l.length=0 by omega];simp
def Hf (old d:List UInt8)(a i:Nat):List UInt8:=(qW old a).take a++d.take i++(qW old a).drop (a+i)
theorem YD(old d:List UInt8)(a:Nat):Hf old d a 0=qW old a:=by unfold Hf;simp
theorem Wi{old d:List UInt8}(h:i<=d.length):(Hf old d a i).length=max (max old.length a) (a+i):=by
 unfold Hf;simp[GN];omega
theorem YE{old d:List UInt8}(h:i<d.length):(Hf old d a i).take (a+i)++[d[i]]++(Hf old d a i).drop (a+i+1)=Hf old d a (i+1):=by
 have h1:((qW old a).take a++d.take i).length=a+i:=by simp[GN];omega
 unfold Hf;rw[Au h1,List.drop_append,h1,show a+i+1-(a+i)=1 by omega,WO (by omega),List.drop_drop,vZ h,zR];simp[Nat.add_assoc]
theorem cat(old d:List UInt8)(a:Nat):Hf old d a d.length=tu old d a:=by
 unfold Hf tu qW
 congr 1
 ·congr 1
  ·rcases Nat.le_total a old.length with h|h
   ·rw[show a-old.length=0 by omega];simp[Pe h]
   ·simp[List.take_append,lV h];omega
  ·exact xR
 ·rcases Nat.le_total (a+d.length) old.length with h|h
  ·rw[show a-old.length=0 by omega,Nat.max_eq_left h,show old.length-old.length=0 by omega]
  ·rw[WO (by simp;omega),WO (by simp;omega)]
def ba (l:List UInt8):eD:=⟨l.toArray⟩
theorem Al(l:List UInt8):(ba l).size=l.length:=by show l.toArray.size=_;simp
theorem GQ(a b:List UInt8):ba a++ba b=ba (a++b):=by
 apply KW;rw[ByteArray.data_append];simp[ba]
theorem Wj(d:eD):ba d.data.toList=d:=rfl
theorem GR(l:List UInt8)(i j:Nat):(ba l).extract i j=ba ((l.take j).drop i):=by
 apply KW;rw[Pg];apply WH.1;rw[Array.toList_extract];simp[ba,List.extract,List.drop_take]
theorem cbv(h:i<d.data.toList.length):d.extract i (i+1)=ba [d.data.toList[i]]:=by
 have:=GR d.data.toList i (i+1)
 rw[Wj,vZ h,Tj (by rw[gT];omega)]at this;exact this
section
variable {F:Nat->Prop}{w:World}{S:Nat}{na da:fD}{nc dc:Nat}{nodes:List eN}{data:eL}{hs:List rS}{more rest:fQ}
theorem fo.YF{g j:Nat}(h:fo F w S na (some (eI g 0)) nc dc nodes data rest)(hj:j<data.length)(v:eD):
  fo F (w.setCell (eI g j) (.string v)) S na (some (eI g 0)) nc dc nodes (data.set j v) rest/\eA F w (w.setCell (eI g j) (.string v)):=by
 obtain⟨a,hc⟩:=ww h.gz rfl;have hl:(data.set j v).length=data.length:=by simp
 refine⟨⟨h.fS,?_,jX h.kJ hc (by decide),?_,h.fn,?_⟩,jE (h.fd g rfl)⟩
 ·rw[hl,jQ _ _ _ _ (fun e=>fX h.gz h.hS (by decide) (by rw[show S=g from e];rfl))];exact h.hS
 ·rw[hl]
  have:=(h.gz.stored j (.string v)).1
  rw[fU,List.map_set];exact this
 ·rw[hl];exact h.fd
theorem CH(h:fo F w S na da nc dc nodes data (rr hs++more))(h8:hs.length=8){j fg a:Int}(hk:hs[k]?=some (true,j,fg,a))(hf:0<=fg/\fg<=63)(c:(kA fg 2=false/\er=12)\/(kA fg 2=true/\x=hZ/\er=0)):
  gc 99 #[hh S,eJ (k:Int),.string x] w (pB (eJ er) w):=by
 have i:=h.lt;have e:Hid _:=gK h h8 (k:Int);rw[jL h8 hk]at e;obtain⟨c0,c1,c2,c3,f⟩:=h.qa hk;have g:=(wj.1 hk).1;have l:k<8:=by omega
 have t3:(k:Int)<8:=by omega
 have d:Hid _:=fun W=>jK fg 2 W hf ⟨by decide,by decide⟩;clear h hk f hf h8 g;cases b:kA fg 2 with
 |false=>
  obtain rfl:er=12:=by
   rcases c with h|h
   ·exact h.2
   ·rw[b]at h;cases h.1
  rw[b]at d;clear c b;go_enter func99,ntmps99;go_wp2_with fail;refine io e.out ?_;rintro _ w ⟨rfl,rfl⟩;go_wp2_with(go_at_call 159;refine io (d.out _) ?_;rintro _ _ ⟨rfl,rfl⟩);go_ret;exact⟨rfl,(lh _ _).alloc (kx _) _⟩
 |true=>
  obtain⟨rfl,rfl⟩:x=hZ/\er=0:=by
   rcases c with h|h
   ·rw[b]at h;cases h.1
   ·exact h.2
  rw[b]at d;clear c b;go_enter func99,ntmps99;go_wp2_with fail;refine io e.out ?_;rintro _ w ⟨rfl,rfl⟩;go_wp2_with(go_at_call 159;refine io (d.out _) ?_;rintro _ _ ⟨rfl,rfl⟩);go_ret;exact⟨rfl,(lh _ _).alloc (kx _) _⟩
end
def YG (v:Value):Nat:=match v with|.string s=>s.size|_=>0
theorem gR(d:eD):d.data.toList.length=d.size:=rfl
theorem Pa{L:List UInt8}{x e:eD}(a:e=ba (Hf L x.data.toList t i))(hi:i<x.size){r:eD}(hr:r=ba ((Hf L x.data.toList t i).drop (t+i+1))):e.extract 0 (t+i)++x.extract i (i+1)++r=ba (Hf L x.data.toList t (i+1)):=by
 rw[a,hr,GR,cbv (d:=x) (by rw[gR];exact hi),GQ,GQ,Ar,YE]
theorem YH(l:List UInt8)(i:Nat):(ba l).extract i (ba l).size=ba (l.drop i):=by rw[GR,Al,xR]
theorem eA.two{F:Nat->Prop}{w a b:World}(h:eA F w a)(k:eA F a b):eA F w b:=⟨k.os.trans h.os,k.tape.trans h.tape,k.output.trans h.output,wl h.size k.size,fun x hx hn=>(k.block x (lO hx h.size) hn).trans (h.block x hx hn)⟩
section
variable {F:Nat->Prop}{w:World}{S:Nat}{na da:fD}{nc dc:Nat}{nodes:List eN}{data:eL}{hs:List rS}{more rest:fQ}
theorem SA(h:fo F w S na da nc dc nodes data (rr hs++more))(h8:hs.length=8){k j a t:Nat}(hk:hs[k]?=some (true,(j:Int),fg,(a:Int)))(hj:data[j]?=some d)(hf:0<=fg/\fg<=63)(ax:a<=256)(hd:d.size<=256)(C:kA fg 2=true)(hx:x.size≠0)(ht:(kA fg 32=true/\t=d.size)\/(kA fg 32=false/\t=a))(ay:t+x.size<=256)(hl:data.length<=1000000000):
  gc 99 #[hh S,eJ (k:Int),.string x] w fun e w'=>e=.returned (eJ 0)/\
   fo F w' S na da nc dc nodes (data.set j (oO d x t)) (rr (hs.set k (true,(j:Int),fg,(t:Int)+x.size))++more)/\eA F w w':=by
 have az:=h.lt;have y:Hid _:=gK h h8 (k:Int);rw[jL h8 hk]at y;have D:Hid (∀W,gc 159 #[eJ fg,eJ 2] W (Do (.bool true) W)):=fun W=>by have:=jK fg 2 W hf ⟨by decide,by decide⟩;rwa [C]at this
 have E:Hid _:=fun W=>jK fg 32 W hf ⟨by decide,by decide⟩;obtain⟨c0,c1,c2,c3,X⟩:=h.qa hk;have Y:=(wj.1 hk).1;have aA:k<8:=by omega
 have t3:(k:Int)<8:=by omega
 have Z:Hid (fo F w S na da nc dc nodes data (rr hs++more)):=h;have G:Hid (hs[k]?=some (true,(j:Int),fg,(a:Int))):=hk;have H:Hid (data[j]?=some d):=hj;have aB:(x.toList==[])=false:=oP (by omega);have aC:decide (256<(t:Int)+(x.size:Int))=false:=rk (by omega);have I:Hid _:=ht;clear h hk hj X C hf h8 Y ht;go_enter func99,ntmps99;go_wp2_with fail;refine io y.out ?_;rintro _ w ⟨rfl,rfl⟩;go_wp2_with fail;refine io (D.out _) ?_;rintro _ f ⟨rfl,l⟩;have z:ik w f:=by rw[l];exact(lh _ _).alloc (kx _) _
 have J:f.cell? (eI w.heap.size 1)=some (eJ (j:Int)):=by rw[l];simp
 have aa:f.cell? (eI w.heap.size 2)=some (eJ fg):=by rw[l];simp
 have ab:f.cell? (eI w.heap.size 3)=some (eJ (a:Int)):=by rw[l];simp
 have K:w.heap.size<f.heap.size:=by rw[l];simp
 have m:=Z.out.below z;have L:=m.c1;obtain⟨r,ac,M,N,_⟩:=row_one m.gz (i:=j) (v:=.string d) (by simp[fU,H.out]);have ad:=m.lt;have O:j<data.length:=(wj.1 H.out).1;obtain⟨A,B⟩:∃A,A=data.length:=⟨_,rfl⟩;rw[<-B]at L O hl;have aD:(j:Int)<(A:Int):=by omega
 subst ac;have ae:Hid _:=m;have af:Hid _:=z;clear l c0 c1 c2 c3 m z;go_wp2_with fail
 go_region
 go_upto_if 42 with(go_at_call 159;refine io (E.out _) ?_;rintro _ _ ⟨rfl,rfl⟩)
 go_cut [10]from 43 to 44 (fun v wx=>v=.int .i64 (t:Int)/\Hid (ik f wx))
 case first=>
  go_wp2
  all_goals
   go_meet;refine⟨?_,(lh _ _).drew⟩;rcases I.out with h|h<;>first|exact absurd (h.1.symm.trans (by assumption)) (by decide)|rw[h.2]
 case rest=>
  obtain⟨rfl,ag⟩:=hcut;clear E D y I;go_wp2
  go_loopw [9] (fun v wr=>∃e:eD,e.size<=600/\v=.string e/\Hid (e=ba (qW d.data.toList e.size)/\d.size<=e.size/\e.size<=max d.size t)/\Hid (ik f wr)) (fun v _=>600-YG v)
  case atStart=>exact⟨d,by omega,rfl,⟨by rw[<-gR,uN (kx _),Wj],kx _,Nat.le_max_left _ _⟩,ag⟩
  case round=>
   obtain⟨e,ah,rfl,c,b⟩:=hrel;by_cases q:e.size<t
   ·have s:(e.size:Int)<(t:Int):=by omega
    go_wp2;obtain⟨u,P,ai⟩:=c.out;have n:(e++(⟨#[0]⟩:eD)).size=e.size+1:=by rw[Pd];rfl
    refine⟨⟨_,by rw[n];omega,rfl,⟨?_,by rw[n];omega,by rw[n];omega⟩,b⟩,by unfold YG;simp only;rw[n];omega⟩;rw[n,<-Ky (by rw[gR];exact P),<-GQ,<-u];rfl
   ·have s:decide ((e.size:Int)<(t:Int))=false:=rk (by omega)
    have Q:Hid (e=ba (Hf d.data.toList x.data.toList t 0)):=by
     obtain⟨u,P,ai⟩:=c.out;show _=_;rw[YD];by_cases aj:t<=d.size
     ·rw[u,show e.size=d.size by omega,uN (by rw[gR];omega),uN (by rw[gR];exact aj)]
     ·rw[u,show e.size=t by omega]
    have R:Hid (ik f wr):=b;clear c b;go_wp2
    go_loopw [9,11] (fun ak al wr=>∃(e:eD) (i:Nat),i<=x.size/\e.size<=600/\ak=.string e/\al=.int .i64 (i:Int)/\Hid (e=ba (Hf d.data.toList x.data.toList t i))/\Hid (ik f wr)) (fun _ v _=>300-(intOf v).toNat)
    case atStart=>exact⟨e,0,by omega,by omega,rfl,rfl,Q,R⟩
    case round=>
     clear Q R s q;obtain⟨e,i,hi,ah,rfl,rfl,c,b⟩:=hrel;have am:Hid (e.size=max (max d.size t) (t+i)):=by
      have:=c.out
      show _=_;rw[this,Al,Wi (by rw[gR];exact hi),gR]
     have q0:(t:Int)+(i:Int)<=(e.size:Int):=by have:=am.out;omega
     by_cases q:i<x.size
     ·have s:(i:Int)<(x.size:Int):=by omega
      have aE:(i:Int)+1<=(x.size:Int):=(by omega);have T:Hid ((ba (Hf d.data.toList x.data.toList t (i+1))).size<=600):=by
       show _<=_;rw[Al,Wi (by rw[gR];exact q),gR];omega
      by_cases aF:t+i+1<e.size
      ·have an:(t:Int)+(i:Int)+1<(e.size:Int):=by omega
       go_wp2
       go_region
       go_wp2;have o:Hid (e.extract 0 (t+i)++x.extract i (i+1)++e.extract (t+i+1) e.size=ba (Hf d.data.toList x.data.toList t (i+1))):=Pa c.out q (by rw[c.out];exact YH _ _);exact⟨⟨_,i+1,q,by rw[o.out];exact T.out,rfl,rfl,o.out,b.out.drew⟩,by simp[intOf];omega⟩
      ·have an:decide ((t:Int)+(i:Int)+1<(e.size:Int))=false:=rk (by omega)
       go_wp2
       go_region
       go_wp2;have o:Hid (e.extract 0 (t+i)++x.extract i (i+1)++hZ=ba (Hf d.data.toList x.data.toList t (i+1))):=Pa c.out q (by
        rw[WO (by have:=c.out;have h2:=xr ByteArray.size this;rw[Al]at h2;omega)];rfl)
       exact⟨⟨_,i+1,q,by rw[o.out];exact T.out,rfl,rfl,o.out,b.out.drew⟩,by simp[intOf];omega⟩
     ·have s:decide ((i:Int)<(x.size:Int))=false:=rk (by omega)
      have ao:Hid (oO d x t=e):=by
       show _=_;rw[c.out,show i=x.data.toList.length by rw[gR];omega,cat];rfl
      have g:=ae.out.below b.out;obtain⟨_,_,_,g3,U⟩:=g.qa G.out;have f3:=U (2+k*4+3);have ap:=g.c1;rw[<-B]at ap;have aG:=(b.out.cell (p:=(eI w.heap.size 1)) K).trans J;have aH:=(b.out.cell (p:=(eI r j)) M).trans N;obtain⟨aI,V⟩:=ww g.gz rfl;have fd:wr.frozen? (eI r j)=false:=by simp[World.frozen?,V]
      have hne:r≠S:=fun e=>fX g.gz g.hS (by decide) (by rw[e];rfl);have TC:S≠r:=fun e=>hne e.symm;have aJ:=g.lt;have aK:=lO K b.out.size;have aL:=lO M b.out.size;have aq:Hid _:=g;clear g U J aa ab N L ad V;go_wp2
      go_region
      go_wp2;go_ret;rw[ao.out];obtain⟨ar,au⟩:=aq.out.YF (by rw[<-B];exact O) e;obtain⟨av,aw⟩:=ar.place G.out ((t:Int)+(x.size:Int));exact⟨rfl,av.below (lh _ _).drew,(((au.two aw).two (eA.eE (lh _ _).drew)).after b.out).after af.out⟩
end
end Go.Proofs.YtlgidcmmgohagaaGreat
