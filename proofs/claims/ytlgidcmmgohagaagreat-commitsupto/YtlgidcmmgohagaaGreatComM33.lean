/- A part of the proof. -/
import Derived.Test.YtlgidcmmgohagaaGreatComM11
set_option linter.all false
namespace Go.Proofs.YtlgidcmmgohagaaGreat
open Go.RowKit Go.Sort Go.Shelf Go.Proofs.Tryz
open Go.Value renaming slice->fy,string->fA,pointer->fB,tuple->fC,agg->fD,bool->fE
open Go.Ending renaming returned->fF
open Option renaming some->fh,none->fj
open Bool renaming true->fm,false->fo
open Go renaming World->fq,Value->fu
open List renaming length->fv,reverse->fx
open Go.RowKit renaming Hid->fe
set_option maxRecDepth 100000
set_option maxHeartbeats 0
def hie(a b c d Z)(w:fq)
  (f:∀e,(Op.equalIn 10000 147 (fD<|ml a b c d Z)<|fD (ml a b c d Z)).run prog e=.ok fm e):
  ik 140 #[fD<|ml a b c d Z,fD<|ml a b c d Z] w (ut (fE fo) w):=by
 go_enter func140,ntmps140;go_wp2
 go_region
 all_goals
  go_wp2;go_ret;exact⟨fX,il<|((mi _ _).alloc (lw _) _).alloc (by simp) _⟩
theorem hif(j k l m Z c f g h i o p q r s)(d:Int)(b:Bool)(w:fq)
  (z:∀a,(Op.equalIn 10000 147 (fD<|ml j k l m Z)<|fD (ml c f g h i)).run prog a=.ok fo a)
  (u:∀a,ik 142 #[fD<|ml c f g h i] a<|ut (fY d) a)
  (v:∀a,ik 188 #[fD<|ml j k l m Z,fY d] a<|ut (fD<|ml o p q r s) a)
  (A:∀a,(Op.equalIn 10000 147 (fD<|ml o p q r s)<|fD (ml c f g h i)).run prog a=.ok b a):
  ik 140 #[fD<|ml j k l m Z,fD<|ml c f g h i] w (ut (fE b) w):=by
 go_enter func140,ntmps140;go_wp2
 go_region_with(first
  |(go_at_call 142;refine(u _).mono ?_;rintro e O ⟨rfl,n⟩;obtain⟨B,C⟩:=kw n;obtain⟨D,E⟩:=uF n;have x:ju w O:=gS (il<|((mi _ _).alloc (lw _) _).alloc (by simp) _) n)
  |(go_at_call 188;refine(v _).mono ?_;rintro e w2 ⟨rfl,t⟩;obtain⟨F,G⟩:=kw t;have y:=gS x t))
 all_goals
  go_wp2;go_ret;exact⟨fX,y⟩
theorem JR(l m)(c:Good l)(d:Good m)(w:fq):ik 140 #[ln l,ln m] w (ut (fE<|decide (m <+: l/\l≠m)) w):=by
 by_cases b:l=m;subst b;rw[yv λb=>b.2 fX];have f:∀a,(Op.equalIn 10000 147 (ln l)<|ln l).run prog a=.ok fm a:=λa=>by
  have:=gX c c a
  rw[qu fX]at this;exact this
 exact hie _ _ _ _ _ w f;have f:∀a,(Op.equalIn 10000 147 (ln l)<|ln m).run prog a=.ok fo a:=λa=>by
  have:=gX c d a
  rw[yv b]at this;exact this
 have g:=λa=>nN m d.val d.len a;have h:=λa=>OC l c.len (fv m) d.len a;have i:=λa=>gX (c.take<|fv m) d a;have j:decide (m <+: l/\l≠m)=decide (l.take (fv m)=m):=by
  refine decide_eq_decide.2 ⟨λb=>(List.prefix_iff_eq_take.1 b.1).symm,λe=>⟨?_,b⟩⟩;rw[<-e];exact List.take_prefix _ _
 rw[j];exact hif _ _ _ _ _ _ _ _ _ _ _ _ _ _ _ _ _ w f g h i
variable {W w H O:fq}{v:fu}{b base k I n:Nat}{o1 o2 o3:Obj}{T q r src:fT}
theorem Yq(l)(a:Nat):(jn l).toList[a]?=if a<5 then fh (hh<|l.getD a kq)else fj:=by
 by_cases b:a<5;rw[lv b];rcases(show a=0\/a=1\/a=2\/a=3\/a=4 by omega)with rfl|rfl|rfl|rfl|rfl<;>rfl
 rw[km b];exact wm (by show 5<=a;omega)
def Ps (p:fT)(f d:Nat):iN:=((jn p).toList.drop f).take<|Nat.min (5-f) (5-d)
theorem CH(p)(f d):fv (Ps p f d)=Nat.min (5-f) (5-d):=by
 grind [jn,Ps,kV,rG,EI,hTe]
theorem Yr(c:fv src+fv r<=5)(d:fv T+fv r<=5):
  (jn T).toList.take (fv T)++Ps (src++r) (fv src) (fv T)++(jn T).toList.drop (fv T+fv (Ps (src++r) (fv src)<|fv T))=(jn<|T++r).toList:=by
 have b:=CH (src++r) (fv src)<|fv T;generalize a:Nat.min (5-fv src) (5-fv T)=k at b;have e:k<=5-fv T:=by rw[<-a];exact hPa _ _
 have f:fv r<=k:=by rw[<-a];exact Nat.le_min.2 ⟨by omega,by omega⟩
 have g:k<=5-fv src:=by rw[<-a];exact hTe _ _
 refine KO λh=>?_
 grind [Yq,wk,lI,kV,MW,BU,EI,Ps,wm]
def BC (d:Nat):Nat:=if d=5 then 0 else d
def slP(b d:Nat)(a:d<=5)(W):(Instr.sliceAt 147 (ie b) (fh<|fY (d:Int)) fj fj).run prog W=.ok (my b (BC d) (5-d)<|5-d) W:=by
 rcases(show d=0\/d=1\/d=2\/d=3\/d=4\/d=5 by omega)with rfl|rfl|rfl|rfl|rfl|rfl<;>kernel_rfl
theorem Ys(a:fv src+fv r<=5)(b:fv T+fv r<=5):
  (jn T).toList.take (BC<|fv T)++Ps (src++r) (fv src) (fv T)++(jn T).toList.drop (BC (fv T)+fv (Ps (src++r) (fv src)<|fv T))=(jn<|T++r).toList:=by
 unfold BC;by_cases c:fv T=5
 grind [DY,Ps,CH,hPa]
 grind [Yr]
def four (w:fq)(p src T:fT):fq:=(((w.alloc<|.cells (jn p) 147).alloc<|.cells (jn src) 147).alloc<|.cells (jn T) 147).alloc<|.cells (jn []) 147
def JQ(w)(p src T):(four w p src T).heap.size=w.heap.size+4:=by unfold four;simp only[zw]
def Tb(w)(p src T):ju w (four w p src T):=by
 exact((((mi w.heap.size w).alloc (lw _) _).alloc (by simp) _).alloc (by simp;omega) _).alloc (by simp;omega) _
theorem VG(w)(p src T):(four w p src T).heap[w.heap.size]?=fh (.cells (jn p) 147 (0,0))/\(four w p src T).heap[w.heap.size+2]?=fh (.cells (jn T) 147 (0,0))/\(four w p src T).heap[w.heap.size+3]?=fh (.cells (jn []) 147 (0,0)):=by
 grind [four,World.alloc,Array.getElem?_push_lt,Array.getElem_push_lt,Array.getElem_push_eq]
theorem Tc(j:fv src+fv r<=5)(k:fv T+fv r<=5)(d:Below (four w (src++r) src T).heap.size (four w (src++r) src T) W):
  ∃c,(∀f,(Builtin.copy_ #[131,131] f #[my (w.heap.size+2) (BC<|fv T) (5-fv T)<|5-fv T,my w.heap.size (BC<|fv src) (5-fv src)<|5-fv src]).run prog W=.ok (goInt<|Nat.min (5-fv src) (5-fv T)) c)/\ju w c/\w.heap.size+3<c.heap.size/\
   c.heap[w.heap.size+2]?=fh (.cells (jn<|T++r) 147 (0,0))/\c.heap[w.heap.size+3]?=fh (.cells (jn []) 147 (0,0)):=by
 have y:=JQ w (src++r) src T;obtain⟨e,l,m⟩:=VG w (src++r) src T;have n:W.heap[w.heap.size]?=_:=(d.block _<|by omega).trans e;have g:W.heap[w.heap.size+2]?=_:=(d.block _<|by omega).trans l;have z:W.heap[w.heap.size+3]?=_:=(d.block _<|by omega).trans m;have o:=CH (src++r) (fv src)<|fv T;have p:=Ys j k;have A:(jn T).size=5:=fX;have q:BC (fv T)+fv (Ps (src++r) (fv src)<|fv T)<=(jn T).size:=by
  grind [hPa,BC]
 have s:∀v∈Ps (src++r) (fv src) (fv T),v.oneCell'=fm:=λv a=>by
  unfold Ps at a
  have:=Wy<|Av a
  simp only[jn,mB,cpu,or_false]at this;rcases this with rfl|rfl|rfl|rfl|rfl<;>rfl
 have t:∀b v,(Ps (src++r) (fv src)<|fv T)[b]?=fh v->W.cell? (((ii w.heap.size<|BC (fv src)):Addr).add b)=fh v:=λb v a=>by
  have h:b<Nat.min (5-fv src) (5-fv T):=by rw[<-o];exact(wH.1 a).1
  have B:b<5-fv src:=np h<|hTe _ _;unfold Ps at a;rw[MW h,Wx]at a;have u:BC (fv src)=fv src:=km (by omega);rw[u];have x:((ii w.heap.size<|fv src):Addr).add b=(ii w.heap.size<|fv src+b):=by
   unfold Addr.add;by_cases e:b=0;subst e;rfl;rw[km e]
  rw[x];simp only[World.cell?,n];rw[Wt]at a;exact a
 have i:=λf=>qT (P:=prog) W 131 131 f 9 1 (w.heap.size+2) (BC<|fv T) (5-fv T) (5-fv T) (ii w.heap.size<|BC (fv src)) (5-fv src) (5-fv src) (jn T) 147 (Ps (src++r) (fv src)<|fv T) underlying131 (by kernel_rfl) g (by omega) t q s;rw[p]at i;refine⟨_,i,?_,?_,?_,?_⟩;exact below_setRow ((Tb w (src++r) src T).trans<|d.mono (by omega)) (by omega) _
 grind [size_setRow]
 exact Hz W _ _ _ _ _ g
 grind [EJ]
def tZ{c d e f Z:fu}{t:lV}(a:w.heap[b]?=fh (.cells #[c,d,e,f,Z] t (0,0))):b<w.heap.size/\w.c b 0=fh c/\w.c b 1=fh d/\w.c b 2=fh e/\w.c b 3=fh f/\w.c b 4=fh Z/\(∀g,w.frozen? (ii b g)=fo):=
 ⟨(lW.1 a).1,by simp[World.cell?,a],by simp[World.cell?,a],by simp[World.cell?,a],by simp[World.cell?,a],by simp[World.cell?,a],λg=>by simp[World.frozen?,a]⟩
theorem Yt(src T r:(List ByteArray))(c:Good src)(d:Good T)(q:fv src+fv r<=5)(s:fv T+fv r<=5)(w:fq):
  Calls prog 197 #[ln<|src++r,ln src,ln T] w λe H=>e=fF (ln<|T++r)/\Below w.heap.size w H:=by
 have f:=λW=>nN T d.val d.len W;have g:=λW=>nN src c.val c.len W;have b:=λW=>Tc (w:=w) (W:=W) q s;have i:=λW=>slP (w.heap.size+2) (fv T) d.len W;have j:=λW=>slP w.heap.size (fv src) c.len W;have h:=JQ w (src++r) src T;have k:=VG w (src++r) src T;unfold four at b h k;obtain⟨t,u,x,y,z,A⟩:=sf<|src++r;obtain⟨l,m,n,o,Z,B⟩:=sf src;obtain⟨d0,d1,d2,d3,d4,C⟩:=sf T;obtain⟨Q,R,S,U,V,D⟩:=sf<|T++r;have E:jn [] = #[fA ⟨#[]⟩,fA ⟨#[]⟩,fA ⟨#[]⟩,fA ⟨#[]⟩,fA ⟨#[]⟩]:=fX;unfold ln at f g |-;simp only[A,B,C,D,E] at f g b k h |-;generalize BC (fv T)=od at i b;generalize BC (fv src)=am at j b;generalize 5-fv T=an at i b;generalize 5-fv src=M at j b;generalize (fv T:Int)=nd at f i;generalize (fv src:Int)=ao at g j;have F:fe _:=b;clear A B C D E b k q s c d;go_enter func197,ntmps197;go_wp2;have a:=il<|Below.refl ((((w.alloc<|.cells #[fA t,fA u,fA x,fA y,fA z] 147).alloc<|.cells #[fA l,fA m,fA n,fA o,fA Z] 147).alloc<|.cells #[fA d0,fA d1,fA d2,fA d3,fA d4] 147).alloc<|.cells #[fA ⟨#[]⟩,fA ⟨#[]⟩,fA ⟨#[]⟩,fA ⟨#[]⟩,fA ⟨#[]⟩] 147).heap.size ((((w.alloc<|.cells #[fA t,fA u,fA x,fA y,fA z] 147).alloc<|.cells #[fA l,fA m,fA n,fA o,fA Z] 147).alloc<|.cells #[fA d0,fA d1,fA d2,fA d3,fA d4] 147).alloc<|.cells #[fA ⟨#[]⟩,fA ⟨#[]⟩,fA ⟨#[]⟩,fA ⟨#[]⟩,fA ⟨#[]⟩] 147);have G:fe _:=(Nat.lt_of_lt_of_eq (Nat.lt_succ_self<|w.heap.size+3) h.symm);clear h
 go_region_with (first
  | (go_at_call_of 142 (Value.agg #[fA d0,fA d1,fA d2,fA d3,fA d4]);refine (f _).via λO p=>?_;replace a:=gS a p;have X:=(kw a).1;have Y:=Nat.lt_of_lt_of_le G a.size;obtain⟨aa,ab,I,ac,c2,c3⟩:=F _ a;obtain⟨ad,ae,af,ag,ah,ai,aj⟩:=tZ c2;obtain⟨ak,J,K,L,N,P,al⟩:=tZ c3;clear c2 c3)
  | (go_at_call_of 142 (Value.agg #[fA l,fA m,fA n,fA o,fA Z]);refine (g _).via λO p=>?_;replace a:=gS a p;have X:=(kw a).1;have Y:=Nat.lt_of_lt_of_le G a.size;obtain⟨aa,ab,I,ac,c2,c3⟩:=F _ a;obtain⟨ad,ae,af,ag,ah,ai,aj⟩:=tZ c2;obtain⟨ak,J,K,L,N,P,al⟩:=tZ c3;clear c2 c3))
 all_goals
  go_wp2;exact bodyPost_ret (v:=fD #[fA Q,fA R,fA S,fA U,fA V]) (by simp[results,results197,go_sem,Nat.add_assoc,J,K,L,N,P]) fX ⟨fX,by
   repeat (refine Below.setCell ?_ (by simp;omega) _)
   exact I⟩
