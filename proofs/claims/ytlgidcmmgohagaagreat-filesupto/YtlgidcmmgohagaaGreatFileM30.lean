/- What is proved here: which flags may be. -/
import Derived.Test.YtlgidcmmgohagaaGreatFileM29
import Derived.Test.YtlgidcmmgohagaaGreatFileM14
import Derived.Test.YtlgidcmmgohagaaGreatFileM21
import Derived.Test.YtlgidcmmgohagaaGreatFileM05
import Derived.Deep.CutRange
namespace Go.Proofs.YtlgidcmmgohagaaGreat
open Go.RowKit Go.Sort Go.Shelf Go.Proofs.Tryz
set_option linter.unusedVariables false
set_option maxRecDepth 100000
set_option maxHeartbeats 16000000
variable {l:List UInt8}{a i k t:Nat}{er fg many:Int}{d x:eu}{u:Bool}
def pj (fl:Int):Bool:=
 if fl<0\/63<fl then false
 else if iv fl 1=false/\iv fl 2=false then false
 else if iv fl 2=false/\(iv fl 4=true\/iv fl 16=true\/iv fl 32=true)then false
 else !iv fl 8 ||iv fl 4
theorem FW(fl:Int)(w:World):eK 157 #[ed fl] w (tz (.bool (pj fl)) w):=by
 by_cases h0:fl<0
 ·have h:pj fl=false:=by unfold pj;rw[fY (.inl h0)]
  rw[h];go_enter func157,ntmps157;go_wp2;go_ret;exact⟨rfl,rfl⟩
 ·have t0:decide (fl<0)=false:=m6 h0
  by_cases h1:63<fl
  ·have h:pj fl=false:=by unfold pj;rw[fY (.inr h1)]
   rw[h];go_enter func157,ntmps157;go_wp2;go_ret;exact⟨rfl,rfl⟩
  ·have t1:decide (63<fl)=false:=m6 h1
   have i:Hid (∀f,1<=f/\f<=32->iv fl f=true->∀W,eK 159 #[ed fl,ed f] W (tz (.bool true) W)):=fun f hf e W=>by have:=gV fl f W (by omega) hf;rwa [e]at this
   have j:Hid (∀f,1<=f/\f<=32->iv fl f=false->∀W,eK 159 #[ed fl,ed f] W (tz (.bool false) W)):=fun f hf e W=>by have:=gV fl f W (by omega) hf;rwa [e]at this
   obtain⟨R,g⟩:∃R,R=pj fl:=⟨_,rfl⟩;rw[<-g];unfold pj at g;rw[eJ (by omega)]at g;have k:Hid _:=g;clear g;have hc:(iv fl 2=false/\iv fl 1=false)\/(iv fl 2=false/\iv fl 1=true/\iv fl 4=true)\/(iv fl 2=false/\iv fl 1=true/\iv fl 4=false/\iv fl 16=true)\/(iv fl 2=false/\iv fl 1=true/\iv fl 4=false/\iv fl 16=false/\iv fl 32=true)\/(iv fl 2=false/\iv fl 1=true/\iv fl 4=false/\iv fl 16=false/\iv fl 32=false/\iv fl 8=true)\/(iv fl 2=false/\iv fl 1=true/\iv fl 4=false/\iv fl 16=false/\iv fl 32=false/\iv fl 8=false)\/
     (iv fl 2=true/\iv fl 1=true/\iv fl 8=false)\/(iv fl 2=true/\iv fl 1=true/\iv fl 8=true/\iv fl 4=true)\/(iv fl 2=true/\iv fl 1=true/\iv fl 8=true/\iv fl 4=false)\/(iv fl 2=true/\iv fl 1=false/\iv fl 8=false)\/(iv fl 2=true/\iv fl 1=false/\iv fl 8=true/\iv fl 4=true)\/(iv fl 2=true/\iv fl 1=false/\iv fl 8=true/\iv fl 4=false):=by
    clear i j k;cases iv fl 1<;>cases iv fl 2<;>cases iv fl 4<;>cases iv fl 8<;>cases iv fl 16<;>cases iv fl 32<;>decide
   clear h0 h1;rcases hc with⟨a,b⟩|⟨a,b,c⟩|⟨a,b,c,d⟩|⟨a,b,c,d,e⟩|⟨a,b,c,d,e,f⟩|⟨a,b,c,d,e,f⟩|⟨a,b,c⟩|⟨a,b,c,d⟩|⟨a,b,c,d⟩|⟨a,b,c⟩|⟨a,b,c,d⟩|⟨a,b,c,d⟩
   all_goals
    go_enter func157,ntmps157;go_wp2_with(go_at_call 159;(first|refine g7 (i.out _ (by decide) (by assumption) _) ?_|refine g7 (j.out _ (by decide) (by assumption) _) ?_);rintro _ _ ⟨rfl,rfl⟩);go_ret;exact⟨by rw[k.out];simp[*],rfl⟩
theorem RV(fl:Int)(h0:-9223372036854775808<=fl)(h1:fl<9223372036854775808):(bits BinOp.andNot IntKind.i64 fl 63 != 0)=!(decide (0<=fl)&&decide (fl<=63)):=by
 have key:∀v:BitVec 64,(v &&& ~~~(63#64)).toNat=0↔v.toNat<=63:=by
  intro v;constructor
  ·intro h
   have h2:v &&& ~~~(63#64)=0#64:=BitVec.eq_of_toNat_eq h;have h3:v >>> 6=0#64:=by
    ext i hi
    have:=rp (fun x=>x.getLsbD (6+i)) h2
    by_cases h6:6+i<64
    ·have b:(63#64).getLsbD (6+i)=false:=by
      rw[BitVec.getLsbD_ofNat]
      have:Nat.testBit 63 (6+i)=false:=Nat.testBit_lt_two_pow (by
       have:2 ^ 6<=2 ^ (6+i):=Nat.pow_le_pow_right (by decide) (by omega)
       omega)
      rw[this];simp
     simp only[BitVec.getLsbD_and,BitVec.getLsbD_not,b,jT h6,Bool.not_false,Bool.and_true]at this;rw[BitVec.getElem_ushiftRight,this];simp
    ·simp
     exact BitVec.getLsbD_of_ge _ _ (by omega)
   have a:=rp BitVec.toNat h3;simp at a;rw[Nat.shiftRight_eq_div_pow]at a;omega
  ·intro h
   have:v.toNat<2 ^ 6:=by omega
   apply Nat.eq_of_testBit_eq;intro i;rw[BitVec.toNat_and,Nat.testBit_and];by_cases hi:i<6
   ·have:(~~~(63#64)).toNat.testBit i=false:=by
     have:i=0\/i=1\/i=2\/i=3\/i=4\/i=5:=by omega
     rcases this with h|h|h|h|h|h<;>subst h<;>decide
    rw[this];simp
   ·have:v.toNat.testBit i=false:=Nat.testBit_lt_two_pow (by
     have:2 ^ 6<=2 ^ i:=Nat.pow_le_pow_right (by decide) (by omega)
     omega)
    rw[this];simp
 have hw:∀n:Nat,n<18446744073709551616->((IntKind.i64.wrap (n:Int) != 0)=!(decide (n=0))):=by
  intro n hn;rw[uP];by_cases h:n=0
  ·subst h;decide
  ·rw[m6 h]
   simp;omega
 show(IntKind.i64.wrap ((BitVec.ofInt 64 fl &&& ~~~(BitVec.ofInt 64 63)).toNat:Int) != 0)=_;rw[hw _ (BitVec.isLt _)];have e:BitVec.ofInt 64 63=63#64:=by decide
 rw[e]
 congr 1
 have:=key (BitVec.ofInt 64 fl)
 rw[BitVec.toNat_ofInt]at this;by_cases hf:0<=fl/\fl<=63
 ·rw[jT (this.2 (by omega)),jT hf.1,jT hf.2];rfl
 ·rw[m6 (fun h=>hf (by have:=this.1 h;omega))]
  by_cases h:0<=fl
  ·rw[jT h,m6 (fun h'=>hf ⟨h,h'⟩)];rfl
  ·rw[m6 h];rfl
def JZ (fl:Int):Int:=if(bits BinOp.and IntKind.i64 fl 8 != 0)=true then 6 else if(bits BinOp.and IntKind.i64 fl 52 != 0)=true then 2 else 0
theorem MF:∀n:Fin 64,pj (n.val:Int)=if(bits BinOp.and IntKind.i64 (n.val:Int) 3==0)=true then false else(bits BinOp.andNot IntKind.i64 (JZ n.val) n.val==0):=by decide +kernel
theorem RX:∀n:Fin 64,(bits BinOp.and IntKind.i64 (n.val:Int) 1==0)=!iv n.val 1/\(bits BinOp.and IntKind.i64 (n.val:Int) 2==0)=!iv n.val 2/\(bits BinOp.and IntKind.i64 (n.val:Int) 4 != 0)=iv n.val 4/\(bits BinOp.and IntKind.i64 (n.val:Int) 8 != 0)=iv n.val 8/\(bits BinOp.and IntKind.i64 (n.val:Int) 16 != 0)=iv n.val 16/\(bits BinOp.and IntKind.i64 (n.val:Int) 32 != 0)=iv n.val 32:=by decide +kernel
theorem zH{fl:Int}(h:0<=fl/\fl<=63):(bits BinOp.and IntKind.i64 fl 1==0)=!iv fl 1/\(bits BinOp.and IntKind.i64 fl 2==0)=!iv fl 2/\(bits BinOp.and IntKind.i64 fl 4 != 0)=iv fl 4/\(bits BinOp.and IntKind.i64 fl 8 != 0)=iv fl 8/\(bits BinOp.and IntKind.i64 fl 16 != 0)=iv fl 16/\(bits BinOp.and IntKind.i64 fl 32 != 0)=iv fl 32:=by
 obtain⟨n,hn,rfl⟩:∃n:Nat,n<64/\fl=(n:Int):=⟨fl.toNat,by omega,by omega⟩;exact RX ⟨n,hn⟩
theorem I3(fl:Int)(w:World):eK 175 #[ed fl] w (tz (ed (JZ fl)) w):=by
 unfold JZ;cases h8:(bits BinOp.and IntKind.i64 fl 8 != 0) with
 |true=>
  go_enter func175,ntmps175;go_wp2;go_ret;exact⟨rfl,rfl⟩
 |false=>
  cases a:(bits BinOp.and IntKind.i64 fl 52 != 0) with
  |true=>
   go_enter func175,ntmps175;go_wp2;go_ret;exact⟨rfl,rfl⟩
  |false=>
   go_enter func175,ntmps175;go_wp2;go_ret;exact⟨rfl,rfl⟩
theorem MG(fl:Int)(hr:-9223372036854775808<=fl/\fl<9223372036854775808)(w:World):eK 118 #[ed fl] w (tz (.bool (pj fl)) w):=by
 have hm:=RV fl hr.1 hr.2;by_cases hf:0<=fl/\fl<=63
 ·rw[jT hf.1,jT hf.2]at hm
  have hm:(bits BinOp.andNot IntKind.i64 fl 63 != 0)=false:=hm;obtain⟨n,hn,rfl⟩:∃n:Nat,n<64/\fl=(n:Int):=⟨fl.toNat,by omega,by omega⟩;have hv:=MF ⟨n,hn⟩;simp only at hv;have a:Hid _:=I3 (n:Int) w;cases h3:(bits BinOp.and IntKind.i64 (n:Int) 3==0) with
  |true=>
   rw[hv,h3];clear hv;go_enter func118,ntmps118;go_wp2;go_ret;exact⟨rfl,rfl⟩
  |false=>
   rw[hv,h3];generalize JZ (n:Int)=nd at a ⊢;clear hv;go_enter func118,ntmps118;go_wp2_with(go_at_call 175;refine g7 a.out ?_;rintro e b ⟨rfl,rfl⟩);go_ret;exact⟨rfl,rfl⟩
 ·have e:pj fl=false:=by unfold pj;rw[fY (by omega)]
  rw[e];have hm:(bits BinOp.andNot IntKind.i64 fl 63 != 0)=true:=by
   rw[hm];by_cases h:0<=fl
   ·rw[jT h,m6 (fun h'=>hf ⟨h,h'⟩)];rfl
   ·rw[m6 h];rfl
  go_enter func118,ntmps118;go_wp2;go_ret;exact⟨rfl,rfl⟩
theorem RY(W:World):(binOp .eql 86 (.pointer none) (.pointer none)).run prog W=.ok (.bool true) W:=by kernel_rfl
def sY (vs:Nat->Option Nat)(n:Int):Prop:=∀k:Nat,k<8->n=(k:Int)->vs k=none
theorem qK(b:Nat)(n:Int)(vs:Nat->Option Nat)(w:World)(h:jg w b vs)(hn:sY vs n):
  eK 122 #[.pointer (some (eb b 1)),ed n] w (tz (.tuple #[.pointer none,ed 3]) w):=by
 have a:=h.1;by_cases h0:n<0
 ·clear h hn
  go_enter func122,ntmps122;go_wp2;go_ret2;exact⟨rfl,rfl⟩
 ·have t0:decide (n<0)=false:=m6 h0
  by_cases h8:8<=n
  ·clear h hn
   go_enter func122,ntmps122;go_wp2;go_ret2;exact⟨rfl,rfl⟩
  ·have t8:decide (8<=n)=false:=m6 h8
   obtain⟨k,rfl⟩:∃k:Nat,n=(k:Int):=⟨n.toNat,by omega⟩;have hk:k<8:=by omega
   have hc:w.cell? (eb b (1+k))=some (.pointer none):=by rw[h.2.1 k hk,hn k hk rfl];rfl
   have c:(k:Int)<8:=by omega
   have hq:=RY;clear h hn;go_enter func122,ntmps122;go_wp2;go_ret2;exact⟨rfl,rfl⟩
section
variable {b:Nat}{n:Int}{vs:Nat->Option Nat}{w:World}
theorem PU(h:jg w b vs)(hn:sY vs n):eK 65 #[fj b,ed n] w (tz (ed 3) w):=by
 have a:Hid _:=qK b n vs w h hn;have f:=h.1;have c:Hid (eK 124 #[.pointer (some (eb b 1)),ed n] w (tz (ed 3) w)):=by
  show Calls _ _ _ _ _;clear h hn;go_enter func124,ntmps124;go_wp2_with(go_at_call 122;refine g7 a.out ?_;rintro e d ⟨rfl,rfl⟩);go_ret;exact⟨rfl,rfl⟩
 clear h hn;go_enter func65,ntmps65;go_wp2_with(go_at_call 124;refine g7 c.out ?_;rintro e d ⟨rfl,rfl⟩);go_ret;exact⟨rfl,rfl⟩
theorem RZ(h:jg w b vs)(hn:sY vs n)(m:Int):eK 66 #[fj b,ed n,ed m] w (tz (.tuple #[.string fy,ed 3]) w):=by
 have a:Hid _:=qK b n vs w h hn;have c:=h.1;clear h hn;go_enter func66,ntmps66;go_wp2_with(go_at_call 122;refine g7 a.out ?_;rintro e d ⟨rfl,rfl⟩);go_ret2;exact⟨rfl,rfl⟩
theorem PV(h:jg w b vs)(hn:sY vs n)(d:eu):eK 64 #[fj b,ed n,.string d] w (tz (ed 3) w):=by
 have a:Hid _:=qK b n vs w h hn;have c:=h.1;clear h hn;go_enter func64,ntmps64;go_wp2_with(go_at_call 122;refine g7 a.out ?_;rintro e f ⟨rfl,rfl⟩);go_ret;exact⟨rfl,rfl⟩
theorem R1(h:jg w b vs)(hn:sY vs n)(m:Int):eK 102 #[fj b,ed n,ed m] w (tz (ed 3) w):=by
 have a:Hid _:=qK b n vs w h hn;have c:=h.1;clear h hn;go_enter func102,ntmps102;go_wp2_with(go_at_call 122;refine g7 a.out ?_;rintro e d ⟨rfl,rfl⟩);go_ret;exact⟨rfl,rfl⟩
theorem MH(h:jg w b vs)(hn:sY vs n)(m:Int):eK 100 #[fj b,ed n,ed m] w (tz (ed 3) w):=by
 have a:Hid _:=qK b n vs w h hn;have c:=h.1;clear h hn;go_enter func100,ntmps100;go_wp2_with(go_at_call 122;refine g7 a.out ?_;rintro e d ⟨rfl,rfl⟩);go_ret;exact⟨rfl,rfl⟩
end
section
variable {o f:Nat}{fg pl:Int}{w:World}
theorem BJ(n:Int)(ho:o<w.heap.size)(c1:w.cell? (eb o 1)=some (ed fg))(c2:w.cell? (eb o 2)=some (ed pl))(h0:0<=pl)(h1:pl<=256)
  (a:(n<0/\er=2)\/(0<=n/\(bits BinOp.and IntKind.i64 fg 1==0)=true/\er=12)\/(0<=n/\(bits BinOp.and IntKind.i64 fg 1==0)=false/\(n=0\/pl=256)/\er=0)):
  eK 125 #[fj o,ed n] w (tz (.tuple #[.string fy,ed er]) w):=by
 rcases a with⟨hn,rfl⟩|⟨hn,b,rfl⟩|⟨hn,b,d,rfl⟩
 ·go_enter func125,ntmps125
  go_wp2;go_ret2;exact⟨rfl,rfl⟩
 ·have c:decide (n<0)=false:=m6 (by omega)
  go_enter func125,ntmps125;go_wp2;go_ret2;exact⟨rfl,rfl⟩
 ·have c:decide (n<0)=false:=m6 (by omega)
  have hm:min n (256-pl)=0:=by omega
  go_enter func125,ntmps125;go_wp2;go_ret2;exact⟨rfl,rfl⟩
theorem zI(d:eu)(ho:o<w.heap.size)(c1:w.cell? (eb o 1)=some (ed fg))(c2:w.cell? (eb o 2)=some (ed pl))(h0:0<=xc fg pl 0)(h1:xc fg pl 0<=256)(hd:d.size<=1048576)
  (a:((bits BinOp.and IntKind.i64 fg 2==0)=true/\er=12)\/((bits BinOp.and IntKind.i64 fg 2==0)=false/\1<=d.size/\256<xc fg pl 0+d.size/\er=11)):
  eK 123 #[fj o,.string d] w (tz (ed er) w):=by
 have b:Hid _:=nW o fg pl 0 w c1 c2;generalize xc fg pl 0=g at b h0 h1 a;rcases a with⟨c,rfl⟩|⟨c,f,ht,rfl⟩
 ·go_enter func123,ntmps123
  go_wp2;go_ret;exact⟨rfl,rfl⟩
 ·have hn:=mq f
  go_enter func123,ntmps123;go_wp2_with(go_at_call 180;refine g7 b.out ?_;rintro e h ⟨rfl,rfl⟩);go_ret;exact⟨rfl,rfl⟩
theorem wV(m:Int)(ho:o<w.heap.size)(c1:w.cell? (eb o 1)=some (ed fg))
  (a:((m<0\/256<m)/\er=2)\/(0<=m/\m<=256/\(bits BinOp.and IntKind.i64 fg 2==0)=true/\er=12)):
  eK 164 #[fj o,ed m] w (tz (ed er) w):=by
 by_cases h0:m<0
 ·obtain rfl:er=2:=by omega
  clear a;go_enter func164,ntmps164;go_wp2;go_ret;exact⟨rfl,rfl⟩
 ·have t0:decide (m<0)=false:=m6 h0
  by_cases h1:256<m
  ·obtain rfl:er=2:=by omega
   clear a;go_enter func164,ntmps164;go_wp2;go_ret;exact⟨rfl,rfl⟩
  ·have t1:decide (256<m)=false:=m6 h1
   obtain⟨b,rfl⟩:(bits BinOp.and IntKind.i64 fg 2==0)=true/\er=12:=by
    rcases a with h|h
    ·omega
    ·exact h.2.2
   clear a h0 h1;go_enter func164,ntmps164;go_wp2;go_ret;exact⟨rfl,rfl⟩
theorem MI(a:Int)(h:a<0\/256<a)(W:World):eK 165 #[fj o,ed a] W (tz (ed 2) W):=by
 by_cases h0:a<0
 ·go_enter func165,ntmps165
  go_wp2;go_ret;exact⟨rfl,rfl⟩
 ·have t0:decide (a<0)=false:=m6 h0
  have t1:256<a:=by omega
  go_enter func165,ntmps165;go_wp2;go_ret;exact⟨rfl,rfl⟩
end
theorem gW{hs:List pg}{x:Int×Int×Int}(h8:hs.length=8)(hk:hs[k]?=some (true,x)):ni hs (k:Int)=true:=by
 obtain⟨hl,e⟩:=s6.1 hk;rw[zm hl h8,e]
theorem FX(d:eu)(a:Nat):d.extract a a=fy:=by
 apply Gp;rw[J8];simp;omega
theorem J1{a x y:Nat}(hx:d.size<=x)(b:d.size<=y):d.extract a x=d.extract a y:=by
 apply Gp;rw[J8,J8];have h:d.data.toList.length=d.size:=rfl;apply Qm.1;rw[Array.toList_extract,Array.toList_extract];unfold List.extract;rw[jH (by rw[jl];omega),jH (by rw[jl];omega)]
theorem PW(d:eu){a x:Nat}(h:a<=x):d.extract a x++d.extract x (x+1)=d.extract a (x+1):=by
 rw[ByteArray.extract_append_extract,uN h,Nat.max_eq_right (by omega)]
section
variable {F:Nat->Prop}{w:World}{S:Nat}{na da:e5}{nc dc:Nat}{nodes:List eD}{data:eB}{hs:List pg}{more:fE}
theorem eV.nw(h:eV F w S na da nc dc nodes data (m9 hs++more)){j fg a:Int}(hk:hs[k]?=some (u,j,fg,a)):
  w.cell? (eb S (2+k*4))=some (.bool u)/\w.cell? (eb S (2+k*4+1))=some (ed j)/\w.cell? (eb S (2+k*4+2))=some (ed fg)/\w.cell? (eb S (2+k*4+3))=some (ed a)/\∀o,w.frozen? (eb S o)=false:=by
 obtain⟨hl,e⟩:=s6.1 hk;have c:=fun f (hf:f<4)=>h.tab (f:=f) hl hf;rw[e]at c;exact⟨c 0 (by omega),c 1 (by omega),c 2 (by omega),c 3 (by omega),fun o=>by simp[World.frozen?,h.hS]⟩
theorem eV.place(h:eV F w S na da nc dc nodes data (m9 hs++more)){j fg a:Int}(hk:hs[k]?=some (u,j,fg,a))(b:Int):
  eV F (w.setCell (eb S (2+k*4+3)) (ed b)) S na da nc dc nodes data (m9 (hs.set k (u,j,fg,b))++more)/\en F w (w.setCell (eb S (2+k*4+3)) (ed b)):=by
 obtain⟨hl,e⟩:=s6.1 hk;exact h.Ar hl (by omega) (by rw[e];rfl)
theorem PX(h:eV F w S na da nc dc nodes data (m9 hs++more))(h8:hs.length=8){k j a:Nat}(hk:hs[k]?=some (true,(j:Int),fg,(a:Int)))(hj:data[j]?=some d)(hf:0<=fg/\fg<=63)(aj:a<=256)(hd:d.size<=256)(hm:0<=many)(A:iv fg 1=true)(hl:data.length<=1000000000):
  eK 98 #[fj S,ed (k:Int),ed many] w fun e w'=>e=.returned (.tuple #[.string (d.extract a (a+many.toNat)),ed 0])/\
   eV F w' S na da nc dc nodes data (m9 (hs.set k (true,(j:Int),fg,(a:Int)+(d.extract a (a+many.toNat)).size))++more)/\en F w w':=by
 have ak:=h.lt;have B:Hid _:=z2 h h8 (k:Int);rw[gW h8 hk]at B;have O:Hid (∀W,eK 159 #[ed fg,ed 1] W (tz (.bool true) W)):=fun W=>by have:=gV fg 1 W hf ⟨by decide,by decide⟩;rwa [A]at this
 obtain⟨c0,c1,c2,c3,l⟩:=h.nw hk;have P:=(s6.1 hk).1;have al:k<8:=by omega
 have t3:(k:Int)<8:=by omega
 have am:decide (many<0)=false:=m6 (by omega);have Q:Hid (eV F w S na da nc dc nodes data (m9 hs++more)):=h;have m:Hid (hs[k]?=some (true,(j:Int),fg,(a:Int))):=hk;have C:Hid (data[j]?=some d):=hj;clear h hk hj l A hf h8 P;go_enter func98,ntmps98;go_wp2_with fail;refine g7 B.out ?_;rintro _ w ⟨rfl,rfl⟩;go_wp2_with fail;refine g7 (O.out _) ?_;rintro _ f ⟨rfl,g⟩;have r:gS w f:=by rw[g];exact(i7 _ _).alloc (io _) _
 have R:f.cell? (eb w.heap.size 1)=some (ed (j:Int)):=by rw[g];simp
 have D:f.cell? (eb w.heap.size 3)=some (ed (a:Int)):=by rw[g];simp
 have E:w.heap.size<f.heap.size:=by rw[g];simp
 have b:=Q.out.below r;have G:=b.c1;obtain⟨an,T,ao,U,_⟩:=row_one b.fP (i:=j) (v:=.string d) (by simp[fG,C.out]);obtain⟨V,X,e2,Y,l⟩:=b.nw m.out;have f3:=l (2+k*4+3);have Z:=b.lt;have aa:j<data.length:=(s6.1 C.out).1;obtain⟨s,ab⟩:∃s,s=data.length:=⟨_,rfl⟩;rw[<-ab]at G aa hl;have ap:(j:Int)<(s:Int):=by omega
 subst T;have ac:Hid _:=b;have H:Hid _:=r;clear g c0 c1 c2 c3 b r l;go_wp2
 go_region
 go_wp2
 go_loopw [10,12] (fun ad t wr=>∃(x:Nat) (o:eu),x<=512/\o.size<=512/\t=.int .i64 (x:Int)/\ad=.string o/\Hid (o=d.extract a x)/\Hid (o.size+a=x/\(x=a\/x<=d.size))/\Hid ((o.size:Int)<=many)/\Hid (gS f wr)) (fun _ t _=>512-(intOf t).toNat)
 case atStart=>exact⟨a,fy,by omega,by show 0<=512;omega,rfl,rfl,(FX d a).symm,⟨by show 0+a=a;omega,.inl rfl⟩,by show((0:Nat):Int)<=many;omega,by first|exact(i7 _ _).drew|exact i7 _ _⟩
 case round=>
  obtain⟨x,o,h1,h2,rfl,rfl,I,J,ae,c⟩:=hrel;by_cases hq:x<d.size/\(o.size:Int)<many
  ·have K:(x:Int)<(d.size:Int):=by omega
   have af:=hq.2;have aq:(x:Int)+1<=(d.size:Int):=by omega
   clear hq;go_wp2;have ag:(d.extract x (x+1)).size=1:=by rw[Qu];omega
   have u:(o++d.extract x (x+1)).size=o.size+1:=by rw[J5,ag]
   obtain⟨ah,ai⟩:=J.out;refine⟨⟨x+1,_,by omega,by rw[u];omega,rfl,rfl,?_,?_,?_,c⟩,by simp[intOf];omega⟩
   ·show _=_
    rw[I.out,PW d (by omega)]
   ·exact⟨by rw[u];omega,.inr (by omega)⟩
   ·show(_:Int)<=_
    rw[u];omega
  ·have L:Hid (o=d.extract a (a+many.toNat)):=by
    obtain⟨ah,ai⟩:=J.out;have ar:=ae.out;show _=_;rw[I.out];by_cases q:x<d.size
    ·rw[show a+many.toNat=x by omega]
    ·exact J1 (by omega) (by omega)
   have n:=ac.out.below c.out;obtain⟨_,_,_,g3,M⟩:=n.nw m.out;have au:=M (2+k*4+3);have av:=(c.out.cell (p:=(eb w.heap.size 3)) E).trans D;have aw:=n.lt;have ax:=kv E c.out.size;have N:Hid _:=n;clear n M V X e2 Y f3 R D U G Z;by_cases q:x<d.size
   ·have K:(x:Int)<(d.size:Int):=by omega
    have af:decide ((o.size:Int)<many)=false:=m6 (fun h=>hq ⟨q,h⟩);clear hq;go_wp2
    go_region
    go_wp2;go_ret2;rw[<-L.out];have hD:gS wr wr.drew:=(i7 _ _).drew;obtain⟨y,z⟩:=(N.out.below hD).place m.out ((a:Int)+(o.size:Int));exact⟨rfl,y,((z.after hD).after c.out).after H.out⟩
   ·have K:decide ((x:Int)<(d.size:Int))=false:=m6 (by omega)
    clear hq;go_wp2
    go_region
    go_wp2;go_ret2;rw[<-L.out];have hD:gS wr wr.drew:=(i7 _ _).drew;obtain⟨y,z⟩:=(N.out.below hD).place m.out ((a:Int)+(o.size:Int));exact⟨rfl,y,((z.after hD).after c.out).after H.out⟩
theorem I4(h:eV F w S na da nc dc nodes data (m9 hs++more))(h8:hs.length=8)(n many:Int)(hu:ni hs n=false):
  eK 98 #[fj S,ed n,ed many] w (ml (.tuple #[.string fy,ed 3]) w):=by
 have b:=h.lt;have a:Hid _:=z2 h h8 n;rw[hu]at a;go_enter func98,ntmps98;go_wp2_with(go_at_call 163;refine g7 a.out ?_;rintro _ w ⟨rfl,rfl⟩);go_ret2;exact⟨rfl,i7 _ _⟩
theorem FY(h:eV F w S na da nc dc nodes data (m9 hs++more))(h8:hs.length=8)(n:Int)(x:eu)(hu:ni hs n=false):
  eK 99 #[fj S,ed n,.string x] w (ml (ed 3) w):=by
 have b:=h.lt;have a:Hid _:=z2 h h8 n;rw[hu]at a;go_enter func99,ntmps99;go_wp2_with(go_at_call 163;refine g7 a.out ?_;rintro _ w ⟨rfl,rfl⟩);go_ret;exact⟨rfl,i7 _ _⟩
theorem C5(h:eV F w S na da nc dc nodes data (m9 hs++more))(h8:hs.length=8)(n m:Int)(hu:ni hs n=false):
  eK 101 #[fj S,ed n,ed m] w (ml (ed 3) w):=by
 have b:=h.lt;have a:Hid _:=z2 h h8 n;rw[hu]at a;go_enter func101,ntmps101;go_wp2_with(go_at_call 163;refine g7 a.out ?_;rintro _ w ⟨rfl,rfl⟩);go_ret;exact⟨rfl,i7 _ _⟩
theorem MJ(h:eV F w S na da nc dc nodes data (m9 hs++more))(h8:hs.length=8){j fg a many:Int}(hk:hs[k]?=some (true,j,fg,a))(hf:0<=fg/\fg<=63)(c:(many<0/\er=2)\/(0<=many/\iv fg 1=false/\er=12)):
  eK 98 #[fj S,ed (k:Int),ed many] w (ml (.tuple #[.string fy,ed er]) w):=by
 have l:=h.lt;have d:Hid _:=z2 h h8 (k:Int);rw[gW h8 hk]at d;obtain⟨c0,c1,c2,c3,f⟩:=h.nw hk;have g:=(s6.1 hk).1;have m:k<8:=by omega
 have t3:(k:Int)<8:=by omega
 have e:Hid (iv fg 1=false->∀W,eK 159 #[ed fg,ed 1] W (tz (.bool false) W)):=fun b W=>by have:=gV fg 1 W hf ⟨by decide,by decide⟩;rwa [b]at this
 clear h hk f hf h8 g;by_cases hm:many<0
 ·obtain rfl:er=2:=by omega
  clear c;go_enter func98,ntmps98;go_wp2_with(go_at_call 163;refine g7 d.out ?_;rintro _ w ⟨rfl,rfl⟩);go_ret2;exact⟨rfl,(i7 _ _).alloc (io _) _⟩
 ·obtain⟨b,rfl⟩:iv fg 1=false/\er=12:=by
   rcases c with h|h
   ·exact absurd h.1 hm
   ·exact h.2
  have n:decide (many<0)=false:=m6 hm;have i:Hid _:=e.out b;clear c hm e b;go_enter func98,ntmps98;go_wp2_with fail;refine g7 d.out ?_;rintro _ w ⟨rfl,rfl⟩;go_wp2_with(go_at_call 159;refine g7 (i.out _) ?_;rintro _ _ ⟨rfl,rfl⟩);go_ret2;exact⟨rfl,(i7 _ _).alloc (io _) _⟩
theorem wW(h:eV F w S na da nc dc nodes data (m9 hs++more))(h8:hs.length=8){j fg a m:Int}(hk:hs[k]?=some (true,j,fg,a))(hf:0<=fg/\fg<=63)(b:((m<0\/256<m)/\er=2)\/(0<=m/\m<=256/\iv fg 2=false/\er=12)):
  eK 101 #[fj S,ed (k:Int),ed m] w (ml (ed er) w):=by
 have l:=h.lt;have c:Hid _:=z2 h h8 (k:Int);rw[gW h8 hk]at c;obtain⟨c0,c1,c2,c3,f⟩:=h.nw hk;have g:=(s6.1 hk).1;have n:k<8:=by omega
 have t3:(k:Int)<8:=by omega
 have e:Hid (iv fg 2=false->∀W,eK 159 #[ed fg,ed 2] W (tz (.bool false) W)):=fun d W=>by have:=gV fg 2 W hf ⟨by decide,by decide⟩;rwa [d]at this
 clear h hk f hf h8 g;by_cases h0:m<0
 ·obtain rfl:er=2:=by omega
  clear b;go_enter func101,ntmps101;go_wp2_with(go_at_call 163;refine g7 c.out ?_;rintro _ w ⟨rfl,rfl⟩);go_ret;exact⟨rfl,i7 _ _⟩
 ·have t0:decide (m<0)=false:=m6 h0
  by_cases h1:256<m
  ·obtain rfl:er=2:=by omega
   clear b;go_enter func101,ntmps101;go_wp2_with(go_at_call 163;refine g7 c.out ?_;rintro _ w ⟨rfl,rfl⟩);go_ret;exact⟨rfl,i7 _ _⟩
  ·have t1:decide (256<m)=false:=m6 h1
   obtain⟨d,rfl⟩:iv fg 2=false/\er=12:=by
    rcases b with h|h
    ·omega
    ·exact h.2.2
   have i:Hid _:=e.out d;clear b h0 h1 e d;go_enter func101,ntmps101;go_wp2_with fail;refine g7 c.out ?_;rintro _ w ⟨rfl,rfl⟩;go_wp2_with(go_at_call 159;refine g7 (i.out _) ?_;rintro _ _ ⟨rfl,rfl⟩);go_ret;exact⟨rfl,i7 _ _⟩
end
def ow (l:List UInt8)(n:Nat):List UInt8:=l++List.replicate (n-l.length) 0
theorem C6(l:List UInt8)(n:Nat):(ow l n).length=max l.length n:=by unfold ow;simp;omega
theorem FZ(h:l.length<=k):ow l k++[0]=ow l (k+1):=by
 unfold ow;rw[iK,show k+1-l.length=(k-l.length)+1 by omega,BR]
theorem rJ{n:Nat}(h:n<=l.length):ow l n=l:=by unfold ow;rw[show n-l.length=0 by omega];simp
def Dh (old d:List UInt8)(a i:Nat):List UInt8:=(ow old a).take a++d.take i++(ow old a).drop (a+i)
theorem R2(old d:List UInt8)(a:Nat):Dh old d a 0=ow old a:=by unfold Dh;simp
theorem PY{old d:List UInt8}(h:i<=d.length):(Dh old d a i).length=max (max old.length a) (a+i):=by
 unfold Dh;simp[C6];omega
theorem R3{old d:List UInt8}(h:i<d.length):(Dh old d a i).take (a+i)++[d[i]]++(Dh old d a i).drop (a+i+1)=Dh old d a (i+1):=by
 have h1:((ow old a).take a++d.take i).length=a+i:=by simp[C6];omega
 unfold Dh;rw[xJ h1,List.drop_append,h1,show a+i+1-(a+i)=1 by omega,Qt (by omega),List.drop_drop,sZ h,w8];simp[Nat.add_assoc]
theorem Tu(old d:List UInt8)(a:Nat):Dh old d a d.length=ql old d a:=by
 unfold Dh ql ow
 congr 1
 ·congr 1
  ·rcases Nat.le_total a old.length with h|h
   ·rw[show a-old.length=0 by omega];simp[J6 h]
   ·simp[List.take_append,jH h];omega
  ·exact uO
 ·rcases Nat.le_total (a+d.length) old.length with h|h
  ·rw[show a-old.length=0 by omega,Nat.max_eq_left h,show old.length-old.length=0 by omega]
  ·rw[Qt (by simp;omega),Qt (by simp;omega)]
def ba (l:List UInt8):eu:=⟨l.toArray⟩
theorem xD(l:List UInt8):(ba l).size=l.length:=by show l.toArray.size=_;simp
theorem C7(a b:List UInt8):ba a++ba b=ba (a++b):=by
 apply Gp;rw[ByteArray.data_append];simp[ba]
theorem PZ(d:eu):ba d.data.toList=d:=rfl
theorem C8(l:List UInt8)(i j:Nat):(ba l).extract i j=ba ((l.take j).drop i):=by
 apply Gp;rw[J8];apply Qm.1;rw[Array.toList_extract];simp[ba,List.extract,List.drop_take]
theorem Tv(h:i<d.data.toList.length):d.extract i (i+1)=ba [d.data.toList[i]]:=by
 have:=C8 d.data.toList i (i+1)
 rw[PZ,sZ h,Nl (by rw[Hc];omega)]at this;exact this
section
variable {F:Nat->Prop}{w:World}{S:Nat}{na da:e5}{nc dc:Nat}{nodes:List eD}{data:eB}{hs:List pg}{more rest:fE}
theorem eV.R4{g j:Nat}(h:eV F w S na (some (eb g 0)) nc dc nodes data rest)(hj:j<data.length)(v:eu):
  eV F (w.setCell (eb g j) (.string v)) S na (some (eb g 0)) nc dc nodes (data.set j v) rest/\en F w (w.setCell (eb g j) (.string v)):=by
 obtain⟨a,hc⟩:=p3 h.fP rfl;have hl:(data.set j v).length=data.length:=by simp
 refine⟨⟨h.fS,?_,iA h.iP hc (by decide),?_,h.fn,?_⟩,gO (h.fd g rfl)⟩
 ·rw[hl,ij _ _ _ _ (fun e=>eI h.fP h.hS (by decide) (by rw[show S=g from e];rfl))];exact h.hS
 ·rw[hl]
  have:=(h.fP.stored j (.string v)).1
  rw[fG,List.map_set];exact this
 ·rw[hl];exact h.fd
theorem zJ(h:eV F w S na da nc dc nodes data (m9 hs++more))(h8:hs.length=8){j fg a:Int}(hk:hs[k]?=some (true,j,fg,a))(hf:0<=fg/\fg<=63)(c:(iv fg 2=false/\er=12)\/(iv fg 2=true/\x=fy/\er=0)):
  eK 99 #[fj S,ed (k:Int),.string x] w (ml (ed er) w):=by
 have i:=h.lt;have e:Hid _:=z2 h h8 (k:Int);rw[gW h8 hk]at e;obtain⟨c0,c1,c2,c3,f⟩:=h.nw hk;have g:=(s6.1 hk).1;have l:k<8:=by omega
 have t3:(k:Int)<8:=by omega
 have d:Hid _:=fun W=>gV fg 2 W hf ⟨by decide,by decide⟩;clear h hk f hf h8 g;cases b:iv fg 2 with
 |false=>
  obtain rfl:er=12:=by
   rcases c with h|h
   ·exact h.2
   ·rw[b]at h;cases h.1
  rw[b]at d;clear c b;go_enter func99,ntmps99;go_wp2_with fail;refine g7 e.out ?_;rintro _ w ⟨rfl,rfl⟩;go_wp2_with(go_at_call 159;refine g7 (d.out _) ?_;rintro _ _ ⟨rfl,rfl⟩);go_ret;exact⟨rfl,(i7 _ _).alloc (io _) _⟩
 |true=>
  obtain⟨rfl,rfl⟩:x=fy/\er=0:=by
   rcases c with h|h
   ·rw[b]at h;cases h.1
   ·exact h.2
  rw[b]at d;clear c b;go_enter func99,ntmps99;go_wp2_with fail;refine g7 e.out ?_;rintro _ w ⟨rfl,rfl⟩;go_wp2_with(go_at_call 159;refine g7 (d.out _) ?_;rintro _ _ ⟨rfl,rfl⟩);go_ret;exact⟨rfl,(i7 _ _).alloc (io _) _⟩
end
def R5 (v:Value):Nat:=match v with|.string s=>s.size|_=>0
theorem Hb(d:eu):d.data.toList.length=d.size:=rfl
theorem J2{L:List UInt8}{x e:eu}(a:e=ba (Dh L x.data.toList t i))(hi:i<x.size){r:eu}(hr:r=ba ((Dh L x.data.toList t i).drop (t+i+1))):e.extract 0 (t+i)++x.extract i (i+1)++r=ba (Dh L x.data.toList t (i+1)):=by
 rw[a,hr,C8,Tv (d:=x) (by rw[Hb];exact hi),C7,C7,xI,R3]
theorem R6(l:List UInt8)(i:Nat):(ba l).extract i (ba l).size=ba (l.drop i):=by rw[C8,xD,uO]
theorem en.two{F:Nat->Prop}{w a b:World}(h:en F w a)(k:en F a b):en F w b:=⟨k.os.trans h.os,k.tape.trans h.tape,k.output.trans h.output,pD h.size k.size,fun x hx hn=>(k.block x (kv hx h.size) hn).trans (h.block x hx hn)⟩
section
variable {F:Nat->Prop}{w:World}{S:Nat}{na da:e5}{nc dc:Nat}{nodes:List eD}{data:eB}{hs:List pg}{more rest:fE}
theorem MK(h:eV F w S na da nc dc nodes data (m9 hs++more))(h8:hs.length=8){k j a t:Nat}(hk:hs[k]?=some (true,(j:Int),fg,(a:Int)))(hj:data[j]?=some d)(hf:0<=fg/\fg<=63)(ax:a<=256)(hd:d.size<=256)(C:iv fg 2=true)(hx:x.size≠0)(ht:(iv fg 32=true/\t=d.size)\/(iv fg 32=false/\t=a))(ay:t+x.size<=256)(hl:data.length<=1000000000):
  eK 99 #[fj S,ed (k:Int),.string x] w fun e w'=>e=.returned (ed 0)/\
   eV F w' S na da nc dc nodes (data.set j (mo d x t)) (m9 (hs.set k (true,(j:Int),fg,(t:Int)+x.size))++more)/\en F w w':=by
 have az:=h.lt;have y:Hid _:=z2 h h8 (k:Int);rw[gW h8 hk]at y;have D:Hid (∀W,eK 159 #[ed fg,ed 2] W (tz (.bool true) W)):=fun W=>by have:=gV fg 2 W hf ⟨by decide,by decide⟩;rwa [C]at this
 have E:Hid _:=fun W=>gV fg 32 W hf ⟨by decide,by decide⟩;obtain⟨c0,c1,c2,c3,X⟩:=h.nw hk;have Y:=(s6.1 hk).1;have aA:k<8:=by omega
 have t3:(k:Int)<8:=by omega
 have Z:Hid (eV F w S na da nc dc nodes data (m9 hs++more)):=h;have G:Hid (hs[k]?=some (true,(j:Int),fg,(a:Int))):=hk;have H:Hid (data[j]?=some d):=hj;have aB:(x.toList==[])=false:=mq (by omega);have aC:decide (256<(t:Int)+(x.size:Int))=false:=m6 (by omega);have I:Hid _:=ht;clear h hk hj X C hf h8 Y ht;go_enter func99,ntmps99;go_wp2_with fail;refine g7 y.out ?_;rintro _ w ⟨rfl,rfl⟩;go_wp2_with fail;refine g7 (D.out _) ?_;rintro _ f ⟨rfl,l⟩;have z:gS w f:=by rw[l];exact(i7 _ _).alloc (io _) _
 have J:f.cell? (eb w.heap.size 1)=some (ed (j:Int)):=by rw[l];simp
 have aa:f.cell? (eb w.heap.size 2)=some (ed fg):=by rw[l];simp
 have ab:f.cell? (eb w.heap.size 3)=some (ed (a:Int)):=by rw[l];simp
 have K:w.heap.size<f.heap.size:=by rw[l];simp
 have m:=Z.out.below z;have L:=m.c1;obtain⟨r,ac,M,N,_⟩:=row_one m.fP (i:=j) (v:=.string d) (by simp[fG,H.out]);have ad:=m.lt;have O:j<data.length:=(s6.1 H.out).1;obtain⟨A,B⟩:∃A,A=data.length:=⟨_,rfl⟩;rw[<-B]at L O hl;have aD:(j:Int)<(A:Int):=by omega
 subst ac;have ae:Hid _:=m;have af:Hid _:=z;clear l c0 c1 c2 c3 m z;go_wp2_with fail
 go_region
 go_upto_if 42 with(go_at_call 159;refine g7 (E.out _) ?_;rintro _ _ ⟨rfl,rfl⟩)
 go_cut [10]from 43 to 44 (fun v wx=>v=.int .i64 (t:Int)/\Hid (gS f wx))
 case first=>
  go_wp2
  all_goals
   go_meet;refine⟨?_,(i7 _ _).drew⟩;rcases I.out with h|h<;>first|exact absurd (h.1.symm.trans (by assumption)) (by decide)|rw[h.2]
 case rest=>
  obtain⟨rfl,ag⟩:=hcut;clear E D y I;go_wp2
  go_loopw [9] (fun v wr=>∃e:eu,e.size<=600/\v=.string e/\Hid (e=ba (ow d.data.toList e.size)/\d.size<=e.size/\e.size<=max d.size t)/\Hid (gS f wr)) (fun v _=>600-R5 v)
  case atStart=>exact⟨d,by omega,rfl,⟨by rw[<-Hb,rJ (io _),PZ],io _,Nat.le_max_left _ _⟩,ag⟩
  case round=>
   obtain⟨e,ah,rfl,c,b⟩:=hrel;by_cases q:e.size<t
   ·have s:(e.size:Int)<(t:Int):=by omega
    go_wp2;obtain⟨u,P,ai⟩:=c.out;have n:(e++(⟨#[0]⟩:eu)).size=e.size+1:=by rw[J5];rfl
    refine⟨⟨_,by rw[n];omega,rfl,⟨?_,by rw[n];omega,by rw[n];omega⟩,b⟩,by unfold R5;simp only;rw[n];omega⟩;rw[n,<-FZ (by rw[Hb];exact P),<-C7,<-u];rfl
   ·have s:decide ((e.size:Int)<(t:Int))=false:=m6 (by omega)
    have Q:Hid (e=ba (Dh d.data.toList x.data.toList t 0)):=by
     obtain⟨u,P,ai⟩:=c.out;show _=_;rw[R2];by_cases aj:t<=d.size
     ·rw[u,show e.size=d.size by omega,rJ (by rw[Hb];omega),rJ (by rw[Hb];exact aj)]
     ·rw[u,show e.size=t by omega]
    have R:Hid (gS f wr):=b;clear c b;go_wp2
    go_loopw [9,11] (fun ak al wr=>∃(e:eu) (i:Nat),i<=x.size/\e.size<=600/\ak=.string e/\al=.int .i64 (i:Int)/\Hid (e=ba (Dh d.data.toList x.data.toList t i))/\Hid (gS f wr)) (fun _ v _=>300-(intOf v).toNat)
    case atStart=>exact⟨e,0,by omega,by omega,rfl,rfl,Q,R⟩
    case round=>
     clear Q R s q;obtain⟨e,i,hi,ah,rfl,rfl,c,b⟩:=hrel;have am:Hid (e.size=max (max d.size t) (t+i)):=by
      have:=c.out
      show _=_;rw[this,xD,PY (by rw[Hb];exact hi),Hb]
     have q0:(t:Int)+(i:Int)<=(e.size:Int):=by have:=am.out;omega
     by_cases q:i<x.size
     ·have s:(i:Int)<(x.size:Int):=by omega
      have aE:(i:Int)+1<=(x.size:Int):=(by omega);have T:Hid ((ba (Dh d.data.toList x.data.toList t (i+1))).size<=600):=by
       show _<=_;rw[xD,PY (by rw[Hb];exact q),Hb];omega
      by_cases aF:t+i+1<e.size
      ·have an:(t:Int)+(i:Int)+1<(e.size:Int):=by omega
       go_wp2
       go_region
       go_wp2;have o:Hid (e.extract 0 (t+i)++x.extract i (i+1)++e.extract (t+i+1) e.size=ba (Dh d.data.toList x.data.toList t (i+1))):=J2 c.out q (by rw[c.out];exact R6 _ _);exact⟨⟨_,i+1,q,by rw[o.out];exact T.out,rfl,rfl,o.out,b.out.drew⟩,by simp[intOf];omega⟩
      ·have an:decide ((t:Int)+(i:Int)+1<(e.size:Int))=false:=m6 (by omega)
       go_wp2
       go_region
       go_wp2;have o:Hid (e.extract 0 (t+i)++x.extract i (i+1)++fy=ba (Dh d.data.toList x.data.toList t (i+1))):=J2 c.out q (by
        rw[Qt (by have:=c.out;have h2:=rp ByteArray.size this;rw[xD]at h2;omega)];rfl)
       exact⟨⟨_,i+1,q,by rw[o.out];exact T.out,rfl,rfl,o.out,b.out.drew⟩,by simp[intOf];omega⟩
     ·have s:decide ((i:Int)<(x.size:Int))=false:=m6 (by omega)
      have ao:Hid (mo d x t=e):=by
       show _=_;rw[c.out,show i=x.data.toList.length by rw[Hb];omega,Tu];rfl
      have g:=ae.out.below b.out;obtain⟨_,_,_,g3,U⟩:=g.nw G.out;have f3:=U (2+k*4+3);have ap:=g.c1;rw[<-B]at ap;have aG:=(b.out.cell (p:=(eb w.heap.size 1)) K).trans J;have aH:=(b.out.cell (p:=(eb r j)) M).trans N;obtain⟨aI,V⟩:=p3 g.fP rfl;have fd:wr.frozen? (eb r j)=false:=by simp[World.frozen?,V]
      have hne:r≠S:=fun e=>eI g.fP g.hS (by decide) (by rw[e];rfl);have NG:S≠r:=fun e=>hne e.symm;have aJ:=g.lt;have aK:=kv K b.out.size;have aL:=kv M b.out.size;have aq:Hid _:=g;clear g U J aa ab N L ad V;go_wp2
      go_region
      go_wp2;go_ret;rw[ao.out];obtain⟨ar,au⟩:=aq.out.R4 (by rw[<-B];exact O) e;obtain⟨av,aw⟩:=ar.place G.out ((t:Int)+(x.size:Int));exact⟨rfl,av.below (i7 _ _).drew,(((au.two aw).two (en.ew (i7 _ _).drew)).after b.out).after af.out⟩
end
end Go.Proofs.YtlgidcmmgohagaaGreat
