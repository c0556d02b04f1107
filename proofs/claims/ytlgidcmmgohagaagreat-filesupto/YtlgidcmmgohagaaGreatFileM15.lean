/- What is proved here: 'search'. -/
import Derived.Test.YtlgidcmmgohagaaGreatFileM14
import Derived.Deep.LoopGhost
import Derived.Shelf.RegionOpenPlain
import Derived.Deep.RegionLaw
namespace Go.Proofs.YtlgidcmmgohagaaGreat
open Go.RowKit Go.Sort Go.Shelf Go.Proofs.Tryz
set_option linter.unusedVariables false
set_option maxRecDepth 100000
set_option maxHeartbeats 16000000
variable {es:List eD}{g:WG}{b i lim:Nat}{W w w' w3:World}{q:eB}{tg ey:eM}{e:eD}{v:Value}
theorem mW(x:eD)(n:eu)(W:World):eK 190 #[.agg #[.string x.1,ed x.2.1,ed x.2.2],.string n] W (ml (ed (WP x.1 n)) W):=by
 have a:=fun w=>strings_Compare x.1 n w;go_enter func190,ntmps190;go_wp2_with(go_at_call 191;refine(a _).mono ?_;rintro e w' ⟨rfl,rfl⟩);go_ret;exact⟨rfl,(i7 _ _).alloc (io _) _⟩
theorem sK(hc:∀j a,(flat es)[j]?=some a->w.cell? (eb b j)=some a)(hi:i<es.length):
  w.cell? (eb b (i*3))=some (.string es[i].1)/\w.cell? (eb b (i*3+1))=some (.int .i64 es[i].2.1)/\w.cell? (eb b (i*3+2))=some (.int .i64 es[i].2.2):=by
 refine⟨hc _ _ ?_,hc _ _ ?_,hc _ _ ?_⟩
 ·have:=xp es i 0 hi (by decide);simpa [kA]using this
 ·have:=xp es i 1 hi (by decide);simpa [kA]using this
 ·have:=xp es i 2 hi (by decide);simpa [kA]using this
def yN (es:List eD)(n:eu)(a hi:Nat):Prop:=(∀j (h:j<es.length),j<a->WP es[j].1 n<0)/\(∀j (h:j<es.length),hi<=j->¬WP es[j].1 n<0)
theorem Hu{n:eu}{k:Nat}(hk:k<=es.length)(h:yN es n k k):mr es n=k:=by
 unfold mr;have e:es=es.take k++es.drop k:=(Dm k es).symm;rw[e,List.countP_append,List.countP_eq_length.2 (by
  intro x hx;obtain⟨j,hj,rfl⟩:=mH hx;rw[Hc]at hj;rw[List.getElem_take];exact jT (h.1 j (by omega) (by omega))),List.countP_eq_zero.2 (by
  intro x hx;obtain⟨j,hj,rfl⟩:=mH hx;rw[jl]at hj;rw[List.getElem_drop];simpa using h.2 (k+j) (by omega) (by omega)),Hc]
 omega
theorem ru(h:eF es){a b:Nat}(c:b<es.length)(hab:a<b):WP (es[a]'(by omega)).1 es[b].1<0:=MT.1 h a b (by omega) c hab
theorem Rb(b cap:Nat)(es:List eD)(n:eu)(w:World)(z:b<w.heap.size)(hc:∀j f,(flat es)[j]?=some f->w.cell? (eb b j)=some f)(hr:eF es)(hl:es.length<=16):
  eK 189 #[.slice (some (eb b 0)) es.length cap,.string n,.func (.func 190) #[] #[]] w (ml (.tuple #[ed (mr es n:Nat),.bool (g9 es n)]) w):=by
 have C:Aside (∀j f,(flat es)[j]?=some f->w.cell? (eb b j)=some f):=hc;have A:Aside (eF es):=hr;clear hc hr;go_enter func189,ntmps189;go_wp2
 go_loopg [9,10] es.length (fun D E F wr=>∃c hi:Nat,E=.int .i64 c/\F=.int .i64 hi/\c<=hi/\hi<=es.length/\hi-c<=D/\Aside (gS w wr)/\Aside (yN es n c hi))
 case atStart=>exact⟨0,es.length,rfl,rfl,oY _,io _,by omega,i7 _ _,(⟨fun j _ h=>absurd h (Nj _),fun j h1 h2=>absurd h2 (by omega)⟩:yN es n 0 es.length)⟩
 case round=>
  obtain⟨c,hi,rfl,rfl,H,jY,hg,d,s⟩:=hrel;have I:b<wr.heap.size:=kv z d.out.size;have cells:∀i (hi:i<es.length),wr.cell? (eb b (i*3))=some (.string es[i].1)/\wr.cell? (eb b (i*3+1))=some (.int .i64 es[i].2.1)/\wr.cell? (eb b (i*3+2))=some (.int .i64 es[i].2.2):=fun i hi=>sK (fun j f hu=>(d.out.cell (p:=(eb b j)) z).trans (C.out j f hu)) hi;have B:Aside _:=cells;clear cells;by_cases J:c<hi
  ·obtain⟨t,u,v⟩:=B.out ((c+hi) / 2) (by omega)
   generalize m:es[(c+hi) / 2]'(by omega)=y at t u v;have k:Aside (es[(c+hi) / 2]'(by omega)=y):=m;clear m;by_cases o:WP y.1 n<0
   ·go_wp2_with(go_at_call 190;refine(mW y n _).mono ?_;rintro e w' ⟨rfl,g⟩)
    go_roundg (hi-((c+hi) / 2+1))
    case measure=>omega
    case rel=>
     have x:Aside (yN es n ((c+hi) / 2+1) hi):=⟨fun j hj G=>by
      by_cases e:j=(c+hi) / 2
      ·subst e;rw[k.out];exact o
      ·have:=ru A.out (a:=j) (b:=(c+hi) / 2) (by omega) (by omega)
       rw[k.out]at this;exact lZ this o,s.out.2⟩
     exact⟨(c+hi) / 2+1,hi,by rw[show((c:Int)+(hi:Int)) / 2+1=(((c+hi) / 2+1:Nat):Int) by omega],rfl,by omega,jY,io _,d.out.trans (g.mono d.out.size),x⟩
   ·go_wp2_with(go_at_call 190;refine(mW y n _).mono ?_;rintro e w' ⟨rfl,g⟩)
    go_roundg ((c+hi) / 2-c)
    case measure=>omega
    case rel=>
     have x:Aside (yN es n c ((c+hi) / 2)):=⟨s.out.1,fun j hj G h=>by
      by_cases e:j=(c+hi) / 2
      ·subst e;rw[k.out]at h;omega
      ·have:=ru A.out (a:=(c+hi) / 2) (b:=j) hj (by omega)
       rw[k.out]at this
       have:=lZ this h
       omega⟩
     exact⟨c,(c+hi) / 2,rfl,by rw[show((c:Int)+(hi:Int)) / 2=(((c+hi) / 2:Nat):Int) by omega],by omega,by omega,io _,d.out.trans (g.mono d.out.size),x⟩
  ·obtain rfl:hi=c:=by omega
   have l:=Hu jY s.out;by_cases hn:hi<es.length
   ·obtain⟨t,u,v⟩:=B.out hi hn
    generalize m:es[hi]=y at t u v;have k:Aside (es[hi]=y):=m;clear m;have ht:g9 es n=decide (WP y.1 n=0):=by
     unfold g9;rw[l,gJ hn,k.out];show decide (y.1=n)=_;by_cases e:y.1=n
     ·rw[e,QQ];simp
     ·rw[m6 e,m6 (fun h=>e (AF h))]
    have q:Aside (mr es n=hi):=l;have r:Aside (g9 es n=decide (WP y.1 n=0)):=ht;clear l ht;by_cases o:WP y.1 n=0
    ·go_wp2_with(go_at_call 190;refine(mW y n _).mono ?_;rintro e w' ⟨rfl,g⟩)
     go_ret2;exact⟨by rw[q.out,r.out];simp[o],d.out.trans (g.mono d.out.size)⟩
    ·go_wp2_with(go_at_call 190;refine(mW y n _).mono ?_;rintro e w' ⟨rfl,g⟩)
     go_ret2;exact⟨by rw[q.out,r.out];simp[o],d.out.trans (g.mono d.out.size)⟩
   ·have ht:g9 es n=false:=by
     unfold g9;rw[l,mG (by omega)];rfl
    have q:Aside (mr es n=hi):=l;have r:Aside (g9 es n=false):=ht;clear l ht;go_wp2;go_ret2;exact⟨by rw[q.out,r.out];rfl,d.out⟩
theorem Hv(b cap:Nat)(es:List eD)(n:eu)(w:World)(d:b<w.heap.size)(hc:∀j c,(flat es)[j]?=some c->w.cell? (eb b j)=some c)(hr:eF es)(hl:es.length<=16):
  eK 133 #[.slice (some (eb b 0)) es.length cap,.string n] w (ml (.tuple #[ed (mr es n:Nat),.bool (g9 es n)]) w):=by
 have a:=Rb b cap es n w d hc hr hl;generalize mr es n=g at a ⊢;generalize g9 es n=h at a ⊢;clear hc hr hl;go_enter func133,ntmps133;go_wp2_with(go_at_call 189;refine a.mono ?_;rintro e w' ⟨rfl,f⟩);go_ret2;exact⟨rfl,f⟩
theorem Rc(n:eu)(w:World):eK 189 #[.slice none 0 0,.string n,.func (.func 190) #[] #[]] w (tz (.tuple #[ed 0,.bool false]) w):=by
 go_enter func189,ntmps189;go_wp2;refine Gm 1 ?_;rw[mJ];go_wp2;go_ret2;exact⟨rfl,rfl⟩
theorem Hw(n:eu)(w:World):eK 133 #[.slice none 0 0,.string n] w (tz (.tuple #[ed 0,.bool false]) w):=by
 go_enter func133,ntmps133;go_wp2_with(go_at_call 189;refine(Rc n _).mono ?_;rintro e w' ⟨rfl,rfl⟩);go_ret2;exact⟨rfl,rfl⟩
theorem H0(a:w.ownsRow 0 96 3 v es.length (flat es))(n:eu)(hr:eF es)(hl:es.length<=16):
  eK 133 #[v,.string n] w (ml (.tuple #[ed (mr es n:Nat),.bool (g9 es n)]) w):=by
 rcases a.2 with⟨rfl,h0⟩|⟨g,cap,c,rfl,_,hg,_⟩
 ·have:es=[]:=xF.1 h0
  subst this;refine(Hw n w).mono ?_;rintro e w' ⟨rfl,rfl⟩;exact⟨rfl,i7 _ _⟩
 ·refine Hv g cap es n w (lF.1 hg).1 (fun j b hu=>?_) hr hl
  have:=hh a j b hu
  rwa [PH]at this
theorem wF(hq:Good q):keyOf prog 147 (.agg (et q))=some (jo prog q):=iQ hq.val
theorem OG(t:Nat)(a b c d e nm:eu)(k id:Int)(w:World)(hk:k≠2):
  eK 187 #[fj t,.agg (ii a b c d e),.agg #[.string nm,ed k,ed id]] w (ml (.tuple #[.slice none 0 0,ed 5]) w):=by
 have f:(k==2)=false:=by simpa using hk
 go_enter func187,ntmps187;go_wp2;go_ret2;exact⟨rfl,((i7 _ _).alloc (io _) _).alloc (by simp) _⟩
theorem OH(t m:Nat)(a b c d e nm:eu)(v:Value)(w:World)(ht:t<w.heap.size)(c8:w.cell? (eb t 8)=some (.map (some m)))
  (hlk:∀W,gS w W->(Instr.lookup 162 (.map (some m)) (.agg (ii a b c d e)) false).run prog W=.ok v W):
  eK 187 #[fj t,.agg (ii a b c d e),.agg #[.string nm,ed 2,ed 0]] w (ml (.tuple #[v,ed 0]) w):=by
 have hl:=hlk _ (eQ (((i7 w.heap.size w).alloc (io _) (.cells (ii a b c d e) 147)).alloc (by simp) (.cells #[.string nm,ed 2,ed 0] 96)));clear hlk;go_enter func187,ntmps187;go_wp2
 go_region
 all_goals
  go_wp2;go_ret2;exact⟨rfl,eQ (((i7 _ _).alloc (io _) _).alloc (by simp) _)⟩
theorem OI(t d:Nat)(a b c f g nm:eu)(id:Int)(R:Value->Int->World->World->Prop)(w:World)(ht:t<w.heap.size)(c2:w.cell? (eb t 2)=some (fj d))(hid:id≠0)
  (h:∀W,gS w W->eK 217 #[fj d,ed id] W fun e w'=>∃v er,e=.returned (.tuple #[v,ed er])/\R v er W w'):
  eK 187 #[fj t,.agg (ii a b c f g),.agg #[.string nm,ed 2,ed id]] w fun e w'=>∃v er W,gS w W/\e=.returned (.tuple #[v,ed er])/\R v er W w':=by
 have hW:=eQ (((i7 w.heap.size w).alloc (io _) (.cells (ii a b c f g) 147)).alloc (by simp) (.cells #[.string nm,ed 2,ed id] 96));have hg:=h _ hW;have j:Hid _:=hW;have l:(id==0)=false:=by simpa using hid
 clear h hW;go_enter func187,ntmps187;go_wp2
 go_region_with(go_at_call 217;refine hg.mono ?_;rintro e m ⟨v,er,rfl,i⟩;have k:Hid _:=i;clear i)
 all_goals
  go_wp2;go_ret2;exact⟨v,er,_,j.out,rfl,k.out⟩
theorem pp(w:World)(b:Option Nat):w.grownBy w b:=⟨rfl,rfl,rfl,io _,fun _ _ _=>rfl⟩
theorem lj{b o:Nat}(h:w.grownBy w' (some b)):w.grownBy (w'.setCell (eb b o) v) (some b):=
 ⟨h.os,h.tape,h.output,by simp;exact h.size,fun k hk hne=>(ij _ _ _ _ (fun e=>hne (by rw[e]))).trans (h.block k hk hne)⟩
theorem wG{w w' a:World}(h:gS w w')(k:w'.grownBy a (some b)):w.grownBy a (some b):=
 ⟨k.os.trans h.os,k.tape.trans h.tape,k.output.trans h.output,pD h.size k.size,fun i hi hne=>(k.block i (kv hi h.size) hne).trans (h.block i hi)⟩
def qp (w W w3:World):Prop:=W.heap.size<=w3.heap.size/\∀b,w.heap.size<=b->b<W.heap.size->w3.heap[b]?=W.heap[b]?
theorem qp.cell(h:qp w W w3)(h1:w.heap.size<=b)(h2:b<W.heap.size)(o:Nat):w3.cell? (eb b o)=W.cell? (eb b o):=ig (a:=(eb b o)) (h.2 b h1 h2)
theorem qp.frozen(h:qp w W w3)(h1:w.heap.size<=b)(h2:b<W.heap.size)(o:Nat):w3.frozen? (eb b o)=W.frozen? (eb b o):=MW (a:=(eb b o)) (h.2 b h1 h2)
theorem Lx(t:Nat)(id:Int)(w:World)(ht:t<w.heap.size)(c4:w.cell? (eb t 4)=some (.string fy))(c5:w.cell? (eb t 5)=some (ed 2))(c6:w.cell? (eb t 6)=some (ed id)):
  eK 136 #[fj t,.agg (ii fy fy fy fy fy)] w (ml (.tuple #[.agg #[.string fy,ed 2,ed id],ed 0]) w):=by
 have a:=fun W=>px W;have heq:∀W,(Op.equalIn 10000 147 (hP []) (hP [])).run prog W=.ok true W:=fun W=>by
  have:=sf Good.nil Good.nil W
  rw[jT rfl]at this;exact this
 unfold hP et at a heq;simp only[k8]at a heq;go_enter func136,ntmps136;go_wp2
 go_region_with(go_at_call 75;refine(a _).mono ?_;rintro e c ⟨rfl,b⟩;obtain⟨d,f⟩:=gc b;obtain⟨g,h⟩:=nV b)
 all_goals
  have i:t<w.heap.size+2:=by omega
  go_wp2;exact jr (v:=.tuple #[.agg #[.string fy,ed 2,ed id],ed 0]) (by simp[results,results136,go_sem,d]) rfl ⟨rfl,by
   have h1:gS w c:=em (eQ (((i7 _ _).alloc (io _) _).alloc (by simp) _)) b
   repeat(first|exact h1|(refine oz ?_ (by simp) _))⟩
theorem OJ(t:Nat)(d f g h i n o p q r:eu)(R:Value->World->World->Prop)(er:Int)(her:(er==0)=false)(w:World)
  (heq:∀W,(Op.equalIn 10000 147 (.agg (ii d f g h i)) (.agg (ii fy fy fy fy fy))).run prog W=.ok false W)
  (x:∀W,eK 132 #[.agg (ii d f g h i)] W (ml (.agg (ii n o p q r)) W))
  (y:∀W,gS w W->eK 131 #[fj t,.agg (ii n o p q r)] W fun e w'=>∃v,e=.returned (.tuple #[v,ed er])/\R v W w')
  (z:∀v W w3,R v W w3->qp w W w3):
  eK 136 #[fj t,.agg (ii d f g h i)] w fun e w'=>e=.returned (.tuple #[.agg #[.string fy,ed 0,ed 0],ed er])/\∃v W w3,gS w W/\w.heap.size+1<W.heap.size/\R v W w3/\w3.grownBy w' (some (w.heap.size+1)):=by
 have j:=fun W=>px W;unfold hP et at j;simp only[k8]at j;go_enter func136,ntmps136;go_wp2
 go_region_with(go_at_call 75;refine(j _).mono ?_;rintro e A ⟨rfl,k⟩;obtain⟨B,G⟩:=gc k;obtain⟨C,s⟩:=nV k)
 all_goals
  have h1:gS w A:=em (eQ (((i7 _ _).alloc (io _) _).alloc (by simp) _)) k;go_wp2_with(first
   |(go_at_call 132;refine(x _).mono ?_;rintro e l ⟨rfl,a⟩;obtain⟨D,H⟩:=gc a;have c:w.heap.size+1<l.heap.size:=kv s a.size;have u:w.heap.size<l.heap.size:=kv C a.size)
   |(go_at_call 131;refine(y _ (em h1 a)).mono ?_;rintro e w3 ⟨v,rfl,m⟩;have hS:=z _ _ _ m;have I:=hS.cell (io _) u;have E:=hS.cell (b:=w.heap.size+1) (by omega) c;have J:=hS.frozen (b:=w.heap.size+1) (by omega) c;have F:Hid _:=m;have K:w.heap.size<w3.heap.size:=kv u hS.1;have L:w.heap.size+1<w3.heap.size:=kv c hS.1;clear m hS))
  exact jr (v:=.tuple #[.agg #[.string fy,ed 0,ed 0],ed er]) (by simp[results,results136,go_sem,B,D,E,s]) rfl ⟨rfl,v,l,w3,em h1 a,c,F.out,by
   repeat(first|exact pp _ _|(refine lj ?_))⟩
theorem Lz(t:Nat)(c d f g h o p q r s:eu)(R:Value->World->World->Prop)(x:eu)(C:Int)(w:World)
  (heq:∀W,(Op.equalIn 10000 147 (.agg (ii c d f g h)) (.agg (ii fy fy fy fy fy))).run prog W=.ok false W)
  (D:∀W,eK 132 #[.agg (ii c d f g h)] W (ml (.agg (ii o p q r s)) W))
  (E:∀W,gS w W->eK 131 #[fj t,.agg (ii o p q r s)] W fun e w'=>∃v,e=.returned (.tuple #[v,ed 0])/\R v W w')
  (F:∀W,eK 134 #[.agg (ii c d f g h)] W (ml (.string x) W))
  (G:∀v W w3,R v W w3->∀W2,gS w3 W2->eK 133 #[v,.string x] W2 (ml (.tuple #[ed C,.bool false]) W2))
  (H:∀v W w3,R v W w3->qp w W w3):
  eK 136 #[fj t,.agg (ii c d f g h)] w fun e w'=>e=.returned (.tuple #[.agg #[.string fy,ed 0,ed 0],ed 4])/\∃v W w3,gS w W/\w.heap.size+1<W.heap.size/\R v W w3/\w3.grownBy w' (some (w.heap.size+1)):=by
 have k:=fun W=>px W;unfold hP et at k;simp only[k8]at k;go_enter func136,ntmps136;go_wp2
 go_region_with(go_at_call 75;refine(k _).mono ?_;rintro e I ⟨rfl,l⟩;obtain⟨J,S⟩:=gc l;obtain⟨K,u⟩:=nV l)
 all_goals
  have h1:gS w I:=em (eQ (((i7 _ _).alloc (io _) _).alloc (by simp) _)) l;go_wp2_with(first
   |(go_at_call 132;refine(D _).mono ?_;rintro e m ⟨rfl,a⟩;obtain⟨L,T⟩:=gc a;have i:w.heap.size+1<m.heap.size:=kv u a.size;have y:w.heap.size<m.heap.size:=kv K a.size)
   |(go_at_call 131;refine(E _ (em h1 a)).mono ?_;rintro e w3 ⟨v,rfl,n⟩;have hS:=H _ _ _ n;have U:=hS.cell (io _) y;have M:=hS.cell (b:=w.heap.size+1) (by omega) i;have V:=hS.frozen (b:=w.heap.size+1) (by omega) i;have z:Hid _:=n;have X:w.heap.size<w3.heap.size:=kv y hS.1;have A:w.heap.size+1<w3.heap.size:=kv i hS.1;clear n hS)
   |(go_at_call 134;refine(F _).mono ?_;rintro e N ⟨rfl,j⟩;obtain⟨O,Y⟩:=gc j;have P:w.heap.size+1<N.heap.size:=kv A j.size)
   |(go_at_call 133;refine(G _ _ _ z.out _ j).mono ?_;rintro e w5 ⟨rfl,B⟩;obtain⟨Q,Z⟩:=gc B))
  exact jr (v:=.tuple #[.agg #[.string fy,ed 0,ed 0],ed 4]) (by simp[results,results136,go_sem,J,L,M,O,Q,u,A,P]) rfl ⟨rfl,v,m,w3,em h1 a,i,z.out,by
   refine wG (em j B) ?_
   repeat(first|exact pp _ _|(refine lj ?_))⟩
theorem LA(t:Nat)(h i j l m s u z A B:eu)(R:Value->World->World->Prop)(x:eu)(k:Nat)(y:eD)(w:World)
  (heq:∀W,(Op.equalIn 10000 147 (.agg (ii h i j l m)) (.agg (ii fy fy fy fy fy))).run prog W=.ok false W)
  (I:∀W,eK 132 #[.agg (ii h i j l m)] W (ml (.agg (ii s u z A B)) W))
  (J:∀W,gS w W->eK 131 #[fj t,.agg (ii s u z A B)] W fun e w'=>∃a c d,e=.returned (.tuple #[.slice (some (eb a 0)) c d,ed 0])/\R (.slice (some (eb a 0)) c d) W w')
  (K:∀W,eK 134 #[.agg (ii h i j l m)] W (ml (.string x) W))
  (L:∀v W w3,R v W w3->∀W2,gS w3 W2->eK 133 #[v,.string x] W2 (ml (.tuple #[ed (k:Int),.bool true]) W2))
  (M:∀a c d W w3,R (.slice (some (eb a 0)) c d) W w3->a<w3.heap.size/\k<c/\c<=16/\w3.cell? (eb a (k*3))=some (.string y.1)/\w3.cell? (eb a (k*3+1))=some (ed y.2.1)/\w3.cell? (eb a (k*3+2))=some (ed y.2.2))
  (N:∀v W w3,R v W w3->qp w W w3):
  eK 136 #[fj t,.agg (ii h i j l m)] w fun e w'=>e=.returned (.tuple #[.agg #[.string y.1,ed y.2.1,ed y.2.2],ed 0])/\∃v W w3,gS w W/\w.heap.size+1<W.heap.size/\R v W w3/\w3.grownBy w' (some (w.heap.size+1)):=by
 have p:=fun W=>px W;unfold hP et at p;simp only[k8]at p;go_enter func136,ntmps136;go_wp2
 go_region_with(go_at_call 75;refine(p _).mono ?_;rintro e O ⟨rfl,q⟩;obtain⟨P,Z⟩:=gc q;obtain⟨Q,C⟩:=nV q)
 all_goals
  have h1:gS w O:=em (eQ (((i7 _ _).alloc (io _) _).alloc (by simp) _)) q;go_wp2_with(first
   |(go_at_call 132;refine(I _).mono ?_;rintro e r ⟨rfl,f⟩;obtain⟨S,aa⟩:=gc f;have n:w.heap.size+1<r.heap.size:=kv C f.size;have D:w.heap.size<r.heap.size:=kv Q f.size)
   |(go_at_call 131;refine(J _ (em h1 f)).mono ?_;rintro e w3 ⟨a,c,d,rfl,o⟩;have hS:=N _ _ _ o;obtain⟨T,ab,ac,ad,ae,af⟩:=M _ _ _ _ _ o;have ag:=hS.cell (io _) D;have U:=hS.cell (b:=w.heap.size+1) (by omega) n;have ah:=hS.frozen (b:=w.heap.size+1) (by omega) n;have E:Hid _:=o;have ai:w.heap.size<w3.heap.size:=kv D hS.1;have F:w.heap.size+1<w3.heap.size:=kv n hS.1;clear o hS)
   |(go_at_call 134;refine(K _).mono ?_;rintro e G ⟨rfl,g⟩;obtain⟨V,aj⟩:=gc g;have X:w.heap.size+1<G.heap.size:=kv F g.size;have ak:a<G.heap.size:=kv T g.size)
   |(go_at_call 133;refine(L _ _ _ E.out _ g).mono ?_;rintro e w5 ⟨rfl,H⟩;obtain⟨Y,al⟩:=gc H))
  exact jr (v:=.tuple #[.agg #[.string y.1,ed y.2.1,ed y.2.2],ed 0]) (by simp[results,results136,go_sem,P,S,U,V,Y,C,F,X]) rfl ⟨rfl,_,r,w3,em h1 f,n,E.out,by
   refine wG (em g H) ?_
   repeat(first|exact pp _ _|(refine lj ?_))⟩
theorem OL(t:Nat)(b c d f g a:eu)(k id er:Int)(R:World->World->Prop)(w:World)(her:(er==0)=false)
  (h:∀W,gS w W->eK 136 #[fj t,.agg (ii b c d f g)] W fun e w'=>e=.returned (.tuple #[.agg #[.string a,ed k,ed id],ed er])/\R W w'):
  eK 131 #[fj t,.agg (ii b c d f g)] w fun e w'=>e=.returned (.tuple #[.slice none 0 0,ed er])/\∃W w3,gS w W/\R W w3/\gS w3 w':=by
 have hf:=h _ ((i7 w.heap.size w).alloc (io _) (.cells (ii b c d f g) 147));clear h;go_enter func131,ntmps131;go_wp2_with(go_at_call 136;refine hf.mono ?_;rintro e w3 ⟨rfl,i⟩;have j:Hid _:=i;clear i);go_ret2;exact⟨rfl,_,w3,(i7 w.heap.size w).alloc (io _) _,j.out,by repeat(first|exact i7 _ _|(refine MV ?_ (by simp) _)|(refine oz ?_ (by simp) _))⟩
theorem look_ok(t:Nat)(b c d f g a:eu)(k id:Int)(R:World->World->Prop)(S:Value->Int->World->World->Prop)(w:World)
  (i:∀W,gS w W->eK 136 #[fj t,.agg (ii b c d f g)] W fun e w'=>e=.returned (.tuple #[.agg #[.string a,ed k,ed id],ed 0])/\R W w')
  (l:∀W w3,R W w3->∀W2,gS w3 W2->eK 187 #[fj t,.agg (ii b c d f g),.agg #[.string a,ed k,ed id]] W2 fun e w'=>∃v er,e=.returned (.tuple #[v,ed er])/\S v er W2 w')
  (m:∀W w3,R W w3->qp w W w3):
  eK 131 #[fj t,.agg (ii b c d f g)] w fun e w'=>∃v er W w3 W2,gS w W/\R W w3/\gS w3 W2/\e=.returned (.tuple #[v,ed er])/\S v er W2 w':=by
 have hf:=i _ ((i7 w.heap.size w).alloc (io _) (.cells (ii b c d f g) 147));clear i;go_enter func131,ntmps131;go_wp2_with(first
  |(go_at_call 136;refine hf.mono ?_;rintro e w3 ⟨rfl,h⟩;have hS:=m _ _ h;have o:=hS.cell (io _) (by simp);have p:w.heap.size<w3.heap.size:=kv (by simp) hS.1;have j:Hid _:=h;clear h hS)
  |(go_at_call 187;refine(l _ _ j.out _ (by repeat(first|exact i7 _ _|(refine MV ?_ (by simp) _)|(refine oz ?_ (by simp) _)))).mono ?_;rintro e q ⟨v,er,rfl,hS⟩;have n:Hid _:=hS;clear hS))
 go_ret2;exact⟨v,er,_,w3,_,(i7 w.heap.size w).alloc (io _) _,j.out,by repeat(first|exact i7 _ _|(refine MV ?_ (by simp) _)|(refine oz ?_ (by simp) _)),rfl,n.out⟩
def pQ (tg:eM)(w:World)(i:Nat)(v:Value)(es:List eD):Prop:=w.ownsRow 0 96 3 v es.length (flat es)/\∀g,v.ownBlock=some g->tg g=(i,3)\/tg g=(i,5)
theorem JB(w:World):w.ownsRow 0 96 3 (.slice none 0 0) ([]:List eD).length (flat []):=⟨rfl,.inl ⟨rfl,rfl⟩⟩
theorem pQ.nil(tg:eM)(w:World)(i:Nat):pQ tg w i (.slice none 0 0) []:=⟨JB w,fun g hg=>by simp[Value.ownBlock]at hg⟩
theorem pQ.below(h:pQ tg w i v es)(a:gS w w'):pQ tg w' i v es:=⟨eh h.1 (fun g hg=>a.block g (ee h.1 hg)),h.2⟩
section
variable {tg:eM}{w:World}{s i p:Nat}{B:WB}{ei:List Ob}{g:WG}{lim:Nat}
theorem eZ.look{od:eB->Option (List eD)}{vD:eB->Value}(h:eZ tg w i B od lim vD)(hq:Good q)(b:gS w W):
  (Instr.lookup 162 (.map (some B.oD)) (.agg (et q)) false).run prog W=.ok (((od q).map fun _=>vD q).getD (.slice none 0 0)) W:=by
 obtain⟨n,_,M,a,c,_⟩:=h.map
 have:=(a.keep (w':=W) (b.block _ a.lt)).look rO underlying162 (vu W) (wF hq)
 rw[c q hq]at this;exact this
theorem jn{P:Nat×Nat->Prop}(a:gS w W)(m:eo P tg ey W w'):eo P tg ey w w':=(eo.ew a).trans m
theorem pQ.T4(h:pQ tg w i v es)(hk:∀v es k,(k=3\/k=5)->jD tg w (i,k) v es->jD ey w' (i,k) v es):pQ ey w' i v es:=by
 cases hv:v.ownBlock with
 |none=>
  have:=hk v es 3 (.inl rfl) ⟨h.1,fun g hg=>by rw[hv]at hg;cases hg⟩
  exact⟨this.1,fun g hg=>.inl (this.2 g hg)⟩
 |some b=>
  have a:∀g,v.ownBlock=some g->g=b:=fun g hg=>by rw[hv]at hg;exact(wZ hg).symm
  rcases h.2 b hv with e|e
  ·have:=hk v es 3 (.inl rfl) ⟨h.1,fun g hg=>by rw[a g hg];exact e⟩
   exact⟨this.1,fun g hg=>.inl (this.2 g hg)⟩
  ·have:=hk v es 5 (.inr rfl) ⟨h.1,fun g hg=>by rw[a g hg];exact e⟩
   exact⟨this.1,fun g hg=>.inr (this.2 g hg)⟩
theorem Cy(h:eH tg w s i p B ei g lim)(hl:lim<1099511627776)(hq:Good q)(n:jP ei e):
  eK 187 #[fj B.bt,.agg (et q),.agg #[.string e.1,ed e.2.1,ed e.2.2]] w fun b w'=>∃v,b=.returned (.tuple #[v,ed (ja ei g.ft g.fs q e).2.1])/\
   ∃ey,eo (fo i) tg ey w w'/\eH ey w' s i p B ei { g with fs:=(ja ei g.ft g.fs q e).1 } (lim+1)/\pQ ey w' i v (ja ei g.ft g.fs q e).2.2/\∀v es,pQ tg w i v es->pQ ey w' i v es:=by
 obtain⟨nm,k,id⟩:=e;have l:B.bt<w.heap.size:=(lF.1 h.wp.tree.ht).1;by_cases hk:k=2
 ·subst hk
  by_cases hid:id=0
  ·subst hid
   have c:ja ei g.ft g.fs q (nm,2,0)=(g.fs,0,(g.ft.od q).getD []):=rfl;rw[c];obtain⟨vD,hD⟩:=h.wp.kX;have c8:w.cell? (eb B.bt 8)=some (.map (some B.oD)):=by simp[World.cell?,h.wp.tree.ht]
   refine(OH B.bt B.oD _ _ _ _ _ nm _ w l c8 (fun W a=>hD.look hq a)).mono ?_;rintro b w' ⟨rfl,a⟩;refine⟨_,rfl,tg,eo.ew a,(h.below a).mono (Hk _),?_,fun _ _ hs=>hs.below a⟩;cases ho:g.ft.od q with
   |none=>exact pQ.nil _ _ _
   |some es=>
    have hr:=hD.row q es ho;exact pQ.below ⟨hr.1,fun f j=>.inr (hr.2 f j)⟩ a
  ·have o:=n.2 hid
   have c2:w.cell? (eb B.bt 2)=some (fj B.sD):=by simp[World.cell?,h.wp.tree.ht,ptr]
   have c:ja ei g.ft g.fs q (nm,2,id)=if(g.fs.fM id).2 then((g.fs.fM id).1,0,eR ei id) else((g.fs.fM id).1,14,[]):=by
    unfold ja;rw[eJ (show ¬((nm,(2:Int),id):eD).2.1≠2 from fun h=>h rfl),eJ hid]
   refine(OI B.bt B.sD _ _ _ _ _ nm id (fun v er W w'=>er=(if(g.fs.fM id).2 then 0 else 14)/\∃ey,eo (fo i) tg ey W w'/\eH ey w' s i p B ei { g with fs:=(g.fs.fM id).1 } (lim+1)/\(if(g.fs.fM id).2 then jD ey w' (i,3) v (eR ei id)else v=.slice none 0 0)/\∀v es,pQ tg W i v es->pQ ey w' i v es) w l c2 hid (fun W a=>(Ra (h.below a) hl o).mono ?_)).mono ?_
   ·rintro b w' ⟨v,rfl,ey,m,hW,hr,hk⟩
    exact⟨v,_,rfl,rfl,ey,m,hW,hr,fun v es hs=>pQ.T4 hs hk⟩
   ·rintro b w' ⟨v,er,W,a,rfl,rfl,ey,m,hW,hr,hk⟩
    rw[c];by_cases d:(g.fs.fM id).2=true
    ·rw[fY d]at hr ⊢
     rw[fY d];exact⟨v,rfl,ey,jn a m,hW,⟨hr.1,fun f j=>.inl (hr.2 f j)⟩,fun v es hs=>hk v es (hs.below a)⟩
    ·rw[eJ d]at hr ⊢
     rw[eJ d];subst hr;exact⟨_,rfl,ey,jn a m,hW,pQ.nil _ _ _,fun v es hs=>hk v es (hs.below a)⟩
 ·have c:ja ei g.ft g.fs q (nm,k,id)=(g.fs,5,[]):=by unfold ja;rw[fY hk]
  rw[c];refine(OG B.bt _ _ _ _ _ nm k id w hk).mono ?_;rintro b w' ⟨rfl,a⟩;exact⟨_,rfl,tg,eo.ew a,(h.below a).mono (Hk _),pQ.nil _ _ _,fun _ _ hs=>hs.below a⟩
theorem qq(h:eH tg w s i p B ei g lim)(hl:lim<1099511627776)(hq:Good q)(a:jP ei e):
  eK 187 #[fj B.bt,.agg (et q),.agg #[.string e.1,ed e.2.1,ed e.2.2]] w fun b w'=>∃v,b=.returned (.tuple #[v,ed (ja ei g.ft g.fs q e).2.1])/\
   ∃ey,eo (fo i) tg ey w w'/\eH ey w' s i p B ei { g with fs:=(ja ei g.ft g.fs q e).1 } (lim+1)/\pQ ey w' i v (ja ei g.ft g.fs q e).2.2:=
 (Cy h hl hq a).mono fun _ _ ⟨v,h1,ey,h2,h3,c,_⟩=>⟨v,h1,ey,h2,h3,c⟩
theorem sL(hS:Sound ei){ft:FT}(b:S8 ei ft)(hr:∀p es,ft.od p=some es->eF es/\es.length<=16)(fs:FS):∀r,((findF ei ft fs r).2.1=0->jP ei (findF ei ft fs r).2.2)/\(∀e∈(eT ei ft fs r).2.2,jP ei e)/\eF (eT ei ft fs r).2.2/\(eT ei ft fs r).2.2.length<=16:=by
 have key:∀r,((findF ei ft fs r).2.1=0->jP ei (findF ei ft fs r).2.2)->(∀e∈(eT ei ft fs r).2.2,jP ei e)/\eF (eT ei ft fs r).2.2/\(eT ei ft fs r).2.2.length<=16:=by
  intro r hf;unfold eT;by_cases h0:(findF ei ft fs r).2.1≠0
  ·simp only[fY h0];exact⟨by simp,List.Pairwise.nil,by simp⟩
  ·simp only[eJ h0]
   have a:=hf (jq.1 h0);unfold ja;by_cases hk:(findF ei ft fs r).2.2.2.1≠2
   ·rw[fY hk];exact⟨by simp,List.Pairwise.nil,by simp⟩
   ·rw[eJ hk]
    by_cases hid:(findF ei ft fs r).2.2.2.2=0
    ·rw[fY hid]
     cases ho:ft.od r.reverse with
     |none=>exact⟨by simp,List.Pairwise.nil,by simp⟩
     |some es=>exact⟨b.od _ es ho,(hr _ es ho).1,(hr _ es ho).2⟩
    ·rw[eJ hid]
     by_cases d:((findF ei ft fs r).1.fM (findF ei ft fs r).2.2.2.2).2=true
     ·rw[fY d]
      obtain⟨h,i,f⟩:=hS.2 _ ((a.2 hid).trans (jq.1 hk));exact⟨fun e a=>⟨(f e a).2.1,fun _=>(f e a).2.2.1⟩,h,i⟩
     ·rw[eJ d];exact⟨by simp,List.Pairwise.nil,by simp⟩
 have g:∀r,(findF ei ft fs r).2.1=0->jP ei (findF ei ft fs r).2.2:=by
  intro r
  induction r with
  |nil=>exact fun _=>⟨.inr rfl,b.root⟩
  |cons n r j=>
   intro h0;rw[iL]at h0 ⊢;by_cases hl:(eT ei ft fs r).2.1≠0
   ·rw[fY hl]at h0;exact absurd h0 hl
   ·rw[eJ hl]at h0 ⊢
    cases hg:l5 (eT ei ft fs r).2.2 n with
    |none=>rw[hg]at h0;simp at h0
    |some c=>
     simp only;have k:(n,c)∈(eT ei ft fs r).2.2:=by
      unfold l5 at hg;cases hf:(eT ei ft fs r).2.2.find? (fun x=>decide (x.1=n)) with
      |none=>rw[hf]at hg;simp at hg
      |some x=>
       rw[hf]at hg;have h1:=Kh hf;have h2:=BN hf;simp only[rL]at h1;simp only[jS,kE]at hg;rw[<-h1,<-hg];exact h2
     exact(key r j).1 _ k
 exact fun r=>⟨g r,key r (g r)⟩
end
theorem LB(hg:w.grownBy w' (some b))(ht:tg b=(0,0)):eo (fun t=>t=(0,0)) tg tg w w':=
 ⟨hg.os,hg.tape,hg.output,hg.size,fun _ _=>rfl,fun k hk hn=>hg.block k hk (fun e=>hn (by cases e;exact ht)),fun hf k hk=>hf k (pD hg.size hk)⟩
section
variable {s i p:Nat}{B:WB}{ei:List Ob}
theorem eH.own(h:eH tg w s i p B ei g lim)(hg:w.grownBy w' (some b))(ht:tg b=(0,0)):eH tg w' s i p B ei g lim:=by
 have hi:=h.two;have m:=LB hg ht;exact⟨h.two,h.st.moves m (fun e=>by cases e) (fun e=>by cases e),h.wp.moves m (fun k e=>by cases e;omega)⟩
theorem Hx(hi:2<=i)(hf:gF tg w)(m:eo (Mine i) tg ey W w3):qp w W w3:=
 ⟨m.size,fun b h1 h2=>m.block b h2 (by rw[hf b h1];rintro(h|h)<;>simp at h;omega)⟩
theorem uu(hi:2<=i)(hf:gF tg w)(m:eo (fo i) tg ey W w3):qp w W w3:=Hx hi hf (m.mono (fun _ h=>h.mine))
def iq (s i p:Nat)(B:WB)(ei:List Ob)(tg:eM)(w w':World)(a:WG)(lim:Nat):Prop:=∃ey,eo (fo i) tg ey w w'/\eH ey w' s i p B ei a lim
theorem uv{g b:WG}{lim c:Nat}(h:eH tg w s i p B ei g lim)(d:gS w W)(f:w.heap.size+1<W.heap.size)(hd:iq s i p B ei tg W w3 b c)(hg:w3.grownBy w' (some (w.heap.size+1))):iq s i p B ei tg w w' b c:=by
 obtain⟨ey,m,hW⟩:=hd;have ht:ey (w.heap.size+1)=(0,0):=(m.tags _ f).trans (h.st.fresh _ (by omega));have a:=jn d m;refine⟨ey,⟨hg.os.trans a.os,hg.tape.trans a.tape,hg.output.trans a.output,pD a.size hg.size,a.tags,fun k hk hn=>(hg.block k (kv hk a.size) (fun e=>by cases e;omega)).trans (a.block k hk hn),fun hf=>(hW.own hg ht).st.fresh⟩,hW.own hg ht⟩
def JC (s i p:Nat)(B:WB)(ei:List Ob)(r:eB):Prop:=∀(tg:eM) (w:World) (g:WG) (lim:Nat),eH tg w s i p B ei g lim->lim+10<1099511627776->Good r.reverse->
 Calls prog 136 #[.pointer (some ⟨B.bt,0,none⟩),.agg (et r.reverse)] w fun a w'=>a=.returned (.tuple #[.agg #[.string (findF ei g.ft g.fs r).2.2.1,.int .i64 (findF ei g.ft g.fs r).2.2.2.1,.int .i64 (findF ei g.ft g.fs r).2.2.2.2],.int .i64 (findF ei g.ft g.fs r).2.1])/\
  iq s i p B ei tg w w' { g with fs:=(findF ei g.ft g.fs r).1 } (lim+r.length)
def OM (s i p:Nat)(B:WB)(ei:List Ob)(r:eB):Prop:=∀(tg:eM) (w:World) (g:WG) (lim:Nat),eH tg w s i p B ei g lim->lim+10<1099511627776->Good r.reverse->
 Calls prog 131 #[.pointer (some ⟨B.bt,0,none⟩),.agg (et r.reverse)] w fun a w'=>∃v,a=.returned (.tuple #[v,.int .i64 (eT ei g.ft g.fs r).2.1])/\
  ∃ey,eo (fo i) tg ey w w'/\eH ey w' s i p B ei { g with fs:=(eT ei g.ft g.fs r).1 } (lim+r.length+1)/\pQ ey w' i v (eT ei g.ft g.fs r).2.2
theorem eH.rising(h:eH tg w s i p B ei g lim):∀q es,g.ft.od q=some es->eF es/\es.length<=16:=by
 obtain⟨vD,hD⟩:=h.wp.kX;exact fun q es a=>⟨(hD.good q es a).2.1,(hD.good q es a).2.2.1⟩
theorem JD(r:eB)(hF:JC s i p B ei r):OM s i p B ei r:=by
 intro tg w g lim h hl hr;have y:r.length<=5:=by have:=hr.len;simpa using this
 obtain⟨f1,_⟩:=sL h.st.sound h.wp.ok h.rising g.fs r;by_cases h0:(findF ei g.ft g.fs r).2.1=0
 ·have d:eT ei g.ft g.fs r=ja ei g.ft (findF ei g.ft g.fs r).1 r.reverse (findF ei g.ft g.fs r).2.2:=by
   unfold eT;simp only[eJ (show ¬(findF ei g.ft g.fs r).2.1≠0 from fun h=>h h0)]
  have n:=f1 h0;refine(look_ok B.bt _ _ _ _ _ (findF ei g.ft g.fs r).2.2.1 (findF ei g.ft g.fs r).2.2.2.1 (findF ei g.ft g.fs r).2.2.2.2 (fun W w3=>gS w W/\iq s i p B ei tg W w3 { g with fs:=(findF ei g.ft g.fs r).1 } (lim+r.length))
   (fun v er W2 w'=>er=(eT ei g.ft g.fs r).2.1/\∃ey,eo (fo i) tg ey w w'/\eH ey w' s i p B ei { g with fs:=(eT ei g.ft g.fs r).1 } (lim+r.length+1)/\pQ ey w' i v (eT ei g.ft g.fs r).2.2) w (fun W a=>?_) (fun W w3 e W2 a=>?_) (fun W w3 e=>?_)).mono ?_
  ·refine(hF tg W g lim (h.below a) hl hr).mono ?_
   rintro f w' ⟨k,hd⟩;rw[h0]at k;exact⟨k,a,hd⟩
  ·obtain⟨l,j,b,c⟩:=e
   refine(qq (c.below a) (by omega) hr n).mono ?_;rintro f w' ⟨v,rfl,o,q,t,u⟩;rw[d];exact⟨v,_,rfl,rfl,o,(jn l b).trans (jn a q),t,u⟩
  ·obtain⟨l,j,b,c⟩:=e
   exact uu h.two h.st.fresh b
  ·rintro f w' ⟨v,er,W,w3,W2,_,_,_,rfl,rfl,x⟩
   exact⟨v,rfl,x⟩
 ·have d:eT ei g.ft g.fs r=((findF ei g.ft g.fs r).1,(findF ei g.ft g.fs r).2.1,[]):=by
   unfold eT;simp only[fY h0]
  rw[d];refine(OL B.bt _ _ _ _ _ _ _ _ (findF ei g.ft g.fs r).2.1 (fun W w3=>iq s i p B ei tg W w3 { g with fs:=(findF ei g.ft g.fs r).1 } (lim+r.length)) w (by simpa using h0) (fun W a=>hF tg W g lim (h.below a) hl hr)).mono ?_;rintro f w' ⟨rfl,W,w3,a,⟨j,b,c⟩,m⟩;exact⟨_,rfl,j,(jn a b).trans (eo.ew m),(c.below m).mono (Hk _),pQ.nil _ _ _⟩
theorem OO:JC s i p B ei []:=by
 intro tg w g lim h hl hr;have b:B.bt<w.heap.size:=(lF.1 h.wp.tree.ht).1;refine(Lx B.bt g.ft.root w b (by simp[World.cell?,h.wp.tree.ht]) (by simp[World.cell?,h.wp.tree.ht]) (by simp[World.cell?,h.wp.tree.ht])).mono ?_;rintro c w' ⟨rfl,a⟩;exact⟨rfl,tg,eo.ew a,h.below a⟩
theorem LC(n:eu)(r:eB)(F:OM s i p B ei r):JC s i p B ei (n::r):=by
 intro tg w g lim h hl hr;have G:(n::r).reverse=r.reverse++[n]:=nC;rw[G]at hr ⊢;have hne:r.reverse++[n]≠[]:=by simp
 have H:Good r.reverse:=by have:=hr.dropLast;rwa [oy]at this
 have P:r.length<=4:=by have:=hr.len;simp at this;omega
 have heq:∀W,(Op.equalIn 10000 147 (hP (r.reverse++[n])) (hP [])).run prog W=.ok false W:=fun W=>by
  have:=sf hr Good.nil W
  rw[m6 hne]at this;exact this
 have l:=fun W=>xr (r.reverse++[n]) hr W;have t:=fun W=>iB (r.reverse++[n]) hr hne W;rw[oy]at l;simp only[BQ]at t;obtain⟨_,Q,A,C⟩:=sL h.st.sound h.wp.ok h.rising g.fs r;have u:∀(v:Value) (W w3:World),(gS w W/\∃ey,eo (fo i) tg ey W w3/\eH ey w3 s i p B ei { g with fs:=(eT ei g.ft g.fs r).1 } (lim+r.length+1)/\pQ ey w3 i v (eT ei g.ft g.fs r).2.2)->qp w W w3:=fun v W w3 ⟨a,ey,m,_,_⟩=>uu h.two h.st.fresh m;have D:∀W,gS w W->eK 131 #[fj B.bt,.agg (et r.reverse)] W fun d w'=>∃v,d=.returned (.tuple #[v,ed (eT ei g.ft g.fs r).2.1])/\
   (gS w W/\∃ey,eo (fo i) tg ey W w'/\eH ey w' s i p B ei { g with fs:=(eT ei g.ft g.fs r).1 } (lim+r.length+1)/\pQ ey w' i v (eT ei g.ft g.fs r).2.2):=fun W a=>(F tg W g lim (h.below a) hl H).mono (fun d w' ⟨v,I,J⟩=>⟨v,I,a,J⟩)
 have fin:∀{w':World} (v:Value) (W w3:World),gS w W->w.heap.size+1<W.heap.size->(∃ey,eo (fo i) tg ey W w3/\eH ey w3 s i p B ei { g with fs:=(eT ei g.ft g.fs r).1 } (lim+r.length+1)/\pQ ey w3 i v (eT ei g.ft g.fs r).2.2)->w3.grownBy w' (some (w.heap.size+1))->iq s i p B ei tg w w' { g with fs:=(eT ei g.ft g.fs r).1 } (lim+(n::r).length):=fun v W w3 a c ⟨ey,m,hW,_⟩ hg=>uv h a c ⟨ey,m,hW⟩ hg;have o:∀(v:Value) (W w3:World),(gS w W/\∃ey,eo (fo i) tg ey W w3/\eH ey w3 s i p B ei { g with fs:=(eT ei g.ft g.fs r).1 } (lim+r.length+1)/\pQ ey w3 i v (eT ei g.ft g.fs r).2.2)->∀W2,gS w3 W2->eK 133 #[v,.string n] W2 (ml (.tuple #[ed (mr (eT ei g.ft g.fs r).2.2 n:Nat),.bool (g9 (eT ei g.ft g.fs r).2.2 n)]) W2):=fun v W w3 ⟨_,ey,_,_,hs⟩ W2 a=>H0 (hs.below a).1 n A C;by_cases h0:(eT ei g.ft g.fs r).2.1=0
 ·have x:=D
  rw[h0]at x;have q:=l6 (n:=n) A;cases ht:g9 (eT ei g.ft g.fs r).2.2 n with
  |false=>
   rw[ht]at q;have f:findF ei g.ft g.fs (n::r)=((eT ei g.ft g.fs r).1,4,zE):=by
    rw[iL,eJ (fun h=>h h0),q];rfl
   rw[f];simp only[ht]at o;refine(Lz B.bt _ _ _ _ _ _ _ _ _ _ _ n _ w heq l x t o u).mono ?_;rintro d w' ⟨rfl,v,W,w3,a,c,⟨_,k⟩,hg⟩;exact⟨rfl,fin v W w3 a c k hg⟩
  |true=>
   have nD:=nL ht;rw[ht,fY rfl,gJ nD,jS]at q;have K:((eT ei g.ft g.fs r).2.2[mr (eT ei g.ft g.fs r).2.2 n]).1=n:=by
    unfold g9 at ht;rw[gJ nD]at ht;simpa using ht
   have f:findF ei g.ft g.fs (n::r)=((eT ei g.ft g.fs r).1,0,(eT ei g.ft g.fs r).2.2[mr (eT ei g.ft g.fs r).2.2 n]):=by
    rw[iL,eJ (fun h=>h h0),q];exact rp (fun y:eD=>((eT ei g.ft g.fs r).1,(0:Int),y)) (xN K.symm rfl)
   rw[f];simp only[ht]at o;refine(LA B.bt _ _ _ _ _ _ _ _ _ _ _ n _ ((eT ei g.ft g.fs r).2.2[mr (eT ei g.ft g.fs r).2.2 n]) w heq l (fun W a=>(x W a).mono ?_) t o ?_ u).mono ?_
   ·rintro d w' ⟨v,rfl,L,ey,m,hW,hs⟩
    obtain⟨z,E,rfl⟩:=ej hs.1 (by omega);exact⟨z,_,E,rfl,L,ey,m,hW,hs⟩
   ·rintro z M E W w3 ⟨_,ey,m,hW,hs⟩
    have N:M=(eT ei g.ft g.fs r).2.2.length:=by
     rcases hs.1.2 with⟨e,_⟩|⟨R,S,_,e,_⟩
     ·cases e
     ·cases e;rfl
    subst N;obtain⟨c0,c1,c2⟩:=sK (b:=z) (fun j O hu=>by have:=hh hs.1 j O hu;rwa [PH]at this) nD;exact⟨ee hs.1 rfl,nD,C,c0,c1,c2⟩
   ·rintro d w' ⟨rfl,v,W,w3,a,c,⟨_,k⟩,hg⟩
    exact⟨rfl,fin v W w3 a c k hg⟩
 ·have f:findF ei g.ft g.fs (n::r)=((eT ei g.ft g.fs r).1,(eT ei g.ft g.fs r).2.1,zE):=by
   rw[iL,fY h0]
  rw[f];refine(OJ B.bt _ _ _ _ _ _ _ _ _ _ _ (eT ei g.ft g.fs r).2.1 (by simpa using h0) w heq l D u).mono ?_;rintro d w' ⟨rfl,v,W,w3,a,c,⟨_,k⟩,hg⟩;exact⟨rfl,fin v W w3 a c k hg⟩
theorem qs:∀r:eB,JC s i p B ei r
 |[]=>OO
 |n::r=>LC n r (JD r (qs r))
theorem n4(r:eB):OM s i p B ei r:=JD r (qs r)
end
theorem xg{P:Program}{ops:Array Oper}{o:Oper}{a:Act}{K:Act->World->Prop}{l:Exit->Act->World->Prop}{p:Prop}
  (hg:o.guard=none)(s x:Operand)(t:fL)(q:o.op=Op.call { callee:=Callee.builtin Builtin.append,args:=#[s,x],argTypes:=#[t,t] })
  (e:fL)(i:TypeInfo)(size:Nat)(h1:P.underlying t=some (.slice e))(h2:P.info? e=some i)(r:i.size=size)
  (g n cap:Nat)(d:Array Value)(hs:a.eval s=.slice (some (eb g 0)) n cap)(u:w.heap[g]?=some (.cells d e (0,0)))
  (h:Addr)(m c:Nat)(b:fE)(hx:a.eval x=.slice (some h) m c)(hn:b.length=m*size)(hc:∀j f,b[j]?=some f->w.cell? (h.add j)=some f)(v:∀f∈b,f.oneCell'=true)
  (y:n+m<=cap)(z:n*size+b.length<=d.size)
  (k:K (a.put o.dst (.slice (some (eb g 0)) (n+m) cap)) (w.setRow g (d.toList.take (n*size)++b++d.toList.drop (n*size+b.length)).toArray)):
  if Region.wanted o (yielded ops a.tmps)=true then Oper.wp P o a w K l else p:=by
 have hw:Region.wanted o (yielded ops a.tmps)=true:=by simp[Region.wanted,hg]
 rw[fY hw];subst r;have A:=run_append_room (P:=P) w t o.type e i h1 h2 g n cap d u h m c b hn hc v y z;unfold Oper.wp;simp[execOp,q,resolve,invoke,builtin,hs,hx,A,Result.andThen];rw[iK]at k;exact k
theorem Hy(w:World)(d:fL)(g n c:Nat)(a:Array Value)(hg:w.heap[g]?=some (.cells a 96 (0,0)))(e:n*3+3<=a.size):
  (Builtin.clear_ #[55] d #[.slice (some (eb g (n*3))) 1 c]).run prog w=.ok (.tuple #[]) (w.setRow g (a.toList.take (n*3)++kA (fy,0,0)++a.toList.drop (n*3+3)).toArray):=by
 have hv:(zeroValue 96).run prog w=.ok (.agg #[.string fy,ed 0,ed 0]) w:=by kernel_rfl
 have f:(Builtin.zeroCells (Value.agg #[.string fy,ed 0,ed 0]).cells 1).toList=kA (fy,0,0):=by kernel_rfl
 have b:=run_storeCells_at prog g (n*3) 96 (kA (fy,0,0)) 0 a w hg (by simpa [kA]using e) (lL _);simp only[zT]at b;simp[Builtin.clear_,M7 underlying55,hv,f,b];rfl
theorem gG(a b:List eD):flat (a++b)=flat a++flat b:=by simp[flat]
theorem sM(es:List eD)(k:Nat)(h:k<=es.length):flat (es.take k)=(flat es).take (k*3):=by
 have e:flat es=flat (es.take k)++flat (es.drop k):=by rw[<-gG,Dm]
 rw[e,xJ (by rw[ib,Hc];omega)]
theorem sN(es:List eD)(k:Nat)(h:k<=es.length):flat (es.drop k)=(flat es).drop (k*3):=by
 have e:flat es=flat (es.take k)++flat (es.drop k):=by rw[<-gG,Dm]
 rw[e,Nl (by rw[ib,Hc];omega)]
theorem OP(g n c k:Nat)(es:List eD)(b:Array Value)(w:World)(hg:w.heap[g]?=some (.cells b 96 (0,0)))(hn:es.length=n)(hk:k<n)(W:n<=c)(H:c<=maxLen)(l:b.size=c*3)(ht:b.toList.take (n*3)=flat es):
  eK 194 #[.slice (some (eb g 0)) n c,ed (k:Int),ed ((k:Int)+1)] w fun e w'=>e=.returned (.slice (some (eb g 0)) (n-1) c)/\
   ∃q,w'.heap[g]?=some (.cells q 96 (0,0))/\q.size=c*3/\q.toList.take ((n-1)*3)=flat (es.eraseIdx k)/\w.grownBy w' (some g)/\w'.heap.size=w.heap.size:=by
 obtain⟨I,hi,X,J,Y⟩:=H4 uU;unfold maxLen at H;have Z:k<=c:=by omega
 have hk2:k+1<=c:=by omega
 obtain⟨a,m⟩:∃a,a=flat (es.drop (k+1)):=⟨_,rfl⟩;have o:a.length=(n-(k+1))*3:=by rw[m,ib,jl,hn]
 have z:∀j f,(flat es)[j]?=some f->w.cell? (eb g j)=some f:=fun j f hu=>by
  rw[<-ht,xG]at hu;split at hu
  ·simp[World.cell?,hg];simpa using hu
  ·cases hu
 obtain⟨p,aa,K⟩:∃p:Addr,(if c=k+1 then some ((eb g 0):Addr)else some (eb g ((k+1)*3)))=some p/\Hid (∀t f,a[t]?=some f->w.drew.cell? (p.add t)=some f):=by
  by_cases h:c=k+1
  ·refine⟨(eb g 0),by simp[h],fun t f hu=>?_⟩
   have h0:a.length=0:=by rw[o];omega
   rw[xF.1 h0]at hu;simp at hu
  ·refine⟨(eb g ((k+1)*3)),by simp[h],fun t f hu=>?_⟩
   rw[Gq];show w.cell? _=_;refine z _ _ ?_;rw[m,sN es (k+1) (by omega),J9]at hu;exact hu
 have L:Hid (∀f∈a,f.oneCell'=true):=by
  intro f hu;rw[m]at hu;exact PQ _ f hu
 have A:k*3+a.length<=b.size:=by rw[o,l];omega
 obtain⟨d,r⟩:∃d:Array Value,d=(b.toList.take (k*3)++a++b.toList.drop (k*3+a.length)).toArray:=⟨_,rfl⟩;have s:d.size=c*3:=by
  rw[r];simp only[zO,jM,Hc,jl,kG];omega
 obtain⟨i,u⟩:∃i,i=w.drew.setRow g d:=⟨_,rfl⟩;have v:i.heap[g]?=some (.cells d 96 (0,0)):=by rw[u];exact BX w.drew g _ _ 96 _ hg
 have ab:∀y,(Builtin.clear_ #[55] y #[.slice (some (eb g ((n-1)*3))) 1 (c-(n-1))]).run prog i=.ok (.tuple #[]) (i.setRow g (d.toList.take ((n-1)*3)++kA (fy,0,0)++d.toList.drop ((n-1)*3+3)).toArray):=
  fun y=>Hy i y g (n-1) _ d v (by rw[s];omega)
 have hW:Hid (i=w.drew.setRow g d):=u;have B:Hid (d=(b.toList.take (k*3)++a++b.toList.drop (k*3+a.length)).toArray):=r;have M:Hid (a=flat (es.drop (k+1))):=m;have C:Hid (a.length=(n-(k+1))*3):=o;have N:Hid (w.heap[g]?=some (.cells b 96 (0,0))):=hg;have O:Hid (i.heap[g]?=some (.cells d 96 (0,0))):=v;have P:Hid (k*3+a.length<=b.size):=A;have Q:Hid (b.toList.take (n*3)=flat es):=ht;have R:Hid (d.size=c*3):=s;have S:Hid (b.size=c*3):=l;have T:Hid (es.length=n):=hn;have c3:(0:Int)<=↑k+1:=by omega
 have c4:(↑k+1:Int)<=↑n:=by omega
 clear u r m o hg v A ht s l z hn;go_enter func194,ntmps194;go_wp2_with fail
 go_region_law(refine xg rfl (.tmp 22) (.tmp 25) 55 rfl 96 I 3 underlying55 hi J g k c b (by simp[Act.eval,Act.put]) N.out p (n-(k+1)) (c-(k+1)) a (by simp[Act.eval,Act.put]) C.out K.out L.out (by omega) P.out ?_;rw[<-B.out,<-hW.out])
 all_goals
  have D:k+(n-(k+1))=n-1:=by omega
  have d1:((n-1:Nat):Int)<=(n:Int):=by omega
  have d2:n-(n-1)=1:=by omega
  have d3:¬c=n-1:=by omega
  have d4:(0:Int)<=((n-1:Nat):Int):=by omega
  have d5:(n:Int)<=(c:Int):=by omega
  simp only[D];clear D;go_wp2;go_ret;have E:=R.out;have l:=S.out;have ac:=T.out;have F:(d.toList.take ((n-1)*3)).length=(n-1)*3:=by rw[Hc,kG,E];omega
  refine⟨rfl,_,BX i g _ _ 96 _ O.out,?_,?_,?_,?_⟩
  ·simp only[zO,jM,F,jl,kG,E,ui];omega
  ·rw[xJ F,B.out]
   have U:b.toList.take (k*3)=flat (es.take k):=by
    rw[sM es k (by omega),<-Q.out,List.take_take,uN (by omega)]
   have V:(b.toList.take (k*3)++a).length=(n-1)*3:=by
    rw[jM,C.out,Hc,kG,l];omega
   show List.take ((n-1)*3) (b.toList.take (k*3)++a++b.toList.drop (k*3+a.length))=_;rw[xJ V,U,M.out,<-gG,List.eraseIdx_eq_take_drop_succ]
  ·refine⟨by rw[hW.out];rfl,by rw[hW.out];rfl,by rw[hW.out];rfl,by rw[hW.out];simp,fun x hx hne=>?_⟩
   have G:x≠g:=fun e=>hne (by rw[e]);rw[xL i g x _ G,hW.out,xL w.drew g x _ G];rfl
  ·rw[hW.out];simp
end Go.Proofs.YtlgidcmmgohagaaGreat
