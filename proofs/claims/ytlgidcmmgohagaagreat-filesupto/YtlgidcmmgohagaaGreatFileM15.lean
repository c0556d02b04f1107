/- What is proved here: 'search'. -/
import Derived.Test.YtlgidcmmgohagaaGreatFileM14
import Derived.Deep.LoopGhost
import Derived.Shelf.RegionOpenPlain
import Derived.Deep.RegionLaw
namespace Go.Proofs.YtlgidcmmgohagaaGreat
open Go.RowKit Go.Sort Go.Shelf Go.Proofs.Tryz
set_option linter.unusedVariables false
set_option maxRecDepth 100000
set_option maxHeartbeats 16000000
variable {v:Value}{W w w' w3:World}{tg eF:eV}{e:eN}{b i lim:Nat}{es:List eN}{q:eL}{g:WG}
theorem pO(x:eN)(n:eD)(W:World):gc 190 #[.agg #[.string x.1,eJ x.2.1,eJ x.2.2],.string n] W (pB (eJ (jh x.1 n)) W):=by
 have a:=fun w=>strings_Compare x.1 n w;go_enter func190,ntmps190;go_wp2_with(go_at_call 191;refine(a _).mono ?_;rintro e w' ⟨rfl,rfl⟩);go_ret;exact⟨rfl,(lh _ _).alloc (kx _) _⟩
theorem vM(hc:∀j a,(flat es)[j]?=some a->w.cell? (eI b j)=some a)(hi:i<es.length):
  w.cell? (eI b (i*3))=some (.string es[i].1)/\w.cell? (eI b (i*3+1))=some (.int .i64 es[i].2.1)/\w.cell? (eI b (i*3+2))=some (.int .i64 es[i].2.2):=by
 refine⟨hc _ _ ?_,hc _ _ ?_,hc _ _ ?_⟩
 ·have:=WP es i 0 hi (by decide);simpa [ml]using this
 ·have:=WP es i 1 hi (by decide);simpa [ml]using this
 ·have:=WP es i 2 hi (by decide);simpa [ml]using this
def BG (es:List eN)(n:eD)(a hi:Nat):Prop:=(∀j (h:j<es.length),j<a->jh es[j].1 n<0)/\(∀j (h:j<es.length),hi<=j->¬jh es[j].1 n<0)
theorem Md{n:eD}{k:Nat}(hk:k<=es.length)(h:BG es n k k):pD es n=k:=by
 unfold pD;have e:es=es.take k++es.drop k:=(Hl k es).symm;rw[e,List.countP_append,List.countP_eq_length.2 (by
  intro x hx;obtain⟨j,hj,rfl⟩:=pg hx;rw[gT]at hj;rw[List.getElem_take];exact mz (h.1 j (by omega) (by omega))),List.countP_eq_zero.2 (by
  intro x hx;obtain⟨j,hj,rfl⟩:=pg hx;rw[lz]at hj;rw[List.getElem_drop];simpa using h.2 (k+j) (by omega) (by omega)),gT]
 omega
theorem uB(h:eP es){a b:Nat}(c:b<es.length)(hab:a<b):jh (es[a]'(by omega)).1 es[b].1<0:=SJ.1 h a b (by omega) c hab
theorem XC(b cap:Nat)(es:List eN)(n:eD)(w:World)(z:b<w.heap.size)(hc:∀j f,(flat es)[j]?=some f->w.cell? (eI b j)=some f)(hr:eP es)(hl:es.length<=16):
  gc 189 #[.slice (some (eI b 0)) es.length cap,.string n,.func (.func 190) #[] #[]] w (pB (.tuple #[eJ (pD es n:Nat),.bool (iv es n)]) w):=by
 have C:Aside (∀j f,(flat es)[j]?=some f->w.cell? (eI b j)=some f):=hc;have A:Aside (eP es):=hr;clear hc hr;go_enter func189,ntmps189;go_wp2
 go_loopg [9,10] es.length (fun D E F wr=>∃c hi:Nat,E=.int .i64 c/\F=.int .i64 hi/\c<=hi/\hi<=es.length/\hi-c<=D/\Aside (ik w wr)/\Aside (BG es n c hi))
 case atStart=>exact⟨0,es.length,rfl,rfl,tk _,kx _,by omega,lh _ _,(⟨fun j _ h=>absurd h (Th _),fun j h1 h2=>absurd h2 (by omega)⟩:BG es n 0 es.length)⟩
 case round=>
  obtain⟨c,hi,rfl,rfl,H,mG,hg,d,s⟩:=hrel;have I:b<wr.heap.size:=lO z d.out.size;have cells:∀i (hi:i<es.length),wr.cell? (eI b (i*3))=some (.string es[i].1)/\wr.cell? (eI b (i*3+1))=some (.int .i64 es[i].2.1)/\wr.cell? (eI b (i*3+2))=some (.int .i64 es[i].2.2):=fun i hi=>vM (fun j f hu=>(d.out.cell (p:=(eI b j)) z).trans (C.out j f hu)) hi;have B:Aside _:=cells;clear cells;by_cases J:c<hi
  ·obtain⟨t,u,v⟩:=B.out ((c+hi) / 2) (by omega)
   generalize m:es[(c+hi) / 2]'(by omega)=y at t u v;have k:Aside (es[(c+hi) / 2]'(by omega)=y):=m;clear m;by_cases o:jh y.1 n<0
   ·go_wp2_with(go_at_call 190;refine(pO y n _).mono ?_;rintro e w' ⟨rfl,g⟩)
    go_roundg (hi-((c+hi) / 2+1))
    case measure=>omega
    case rel=>
     have x:Aside (BG es n ((c+hi) / 2+1) hi):=⟨fun j hj G=>by
      by_cases e:j=(c+hi) / 2
      ·subst e;rw[k.out];exact o
      ·have:=uB A.out (a:=j) (b:=(c+hi) / 2) (by omega) (by omega)
       rw[k.out]at this;exact oA this o,s.out.2⟩
     exact⟨(c+hi) / 2+1,hi,by rw[show((c:Int)+(hi:Int)) / 2+1=(((c+hi) / 2+1:Nat):Int) by omega],rfl,by omega,mG,kx _,d.out.trans (g.mono d.out.size),x⟩
   ·go_wp2_with(go_at_call 190;refine(pO y n _).mono ?_;rintro e w' ⟨rfl,g⟩)
    go_roundg ((c+hi) / 2-c)
    case measure=>omega
    case rel=>
     have x:Aside (BG es n c ((c+hi) / 2)):=⟨s.out.1,fun j hj G h=>by
      by_cases e:j=(c+hi) / 2
      ·subst e;rw[k.out]at h;omega
      ·have:=uB A.out (a:=(c+hi) / 2) (b:=j) hj (by omega)
       rw[k.out]at this
       have:=oA this h
       omega⟩
     exact⟨c,(c+hi) / 2,rfl,by rw[show((c:Int)+(hi:Int)) / 2=(((c+hi) / 2:Nat):Int) by omega],by omega,by omega,kx _,d.out.trans (g.mono d.out.size),x⟩
  ·obtain rfl:hi=c:=by omega
   have l:=Md mG s.out;by_cases hn:hi<es.length
   ·obtain⟨t,u,v⟩:=B.out hi hn
    generalize m:es[hi]=y at t u v;have k:Aside (es[hi]=y):=m;clear m;have ht:iv es n=decide (jh y.1 n=0):=by
     unfold iv;rw[l,jy hn,k.out];show decide (y.1=n)=_;by_cases e:y.1=n
     ·rw[e,iX];simp
     ·rw[rk e,rk (fun h=>e (DG h))]
    have q:Aside (pD es n=hi):=l;have r:Aside (iv es n=decide (jh y.1 n=0)):=ht;clear l ht;by_cases o:jh y.1 n=0
    ·go_wp2_with(go_at_call 190;refine(pO y n _).mono ?_;rintro e w' ⟨rfl,g⟩)
     go_ret2;exact⟨by rw[q.out,r.out];simp[o],d.out.trans (g.mono d.out.size)⟩
    ·go_wp2_with(go_at_call 190;refine(pO y n _).mono ?_;rintro e w' ⟨rfl,g⟩)
     go_ret2;exact⟨by rw[q.out,r.out];simp[o],d.out.trans (g.mono d.out.size)⟩
   ·have ht:iv es n=false:=by
     unfold iv;rw[l,oZ (by omega)];rfl
    have q:Aside (pD es n=hi):=l;have r:Aside (iv es n=false):=ht;clear l ht;go_wp2;go_ret2;exact⟨by rw[q.out,r.out];rfl,d.out⟩
theorem Me(b cap:Nat)(es:List eN)(n:eD)(w:World)(d:b<w.heap.size)(hc:∀j c,(flat es)[j]?=some c->w.cell? (eI b j)=some c)(hr:eP es)(hl:es.length<=16):
  gc 133 #[.slice (some (eI b 0)) es.length cap,.string n] w (pB (.tuple #[eJ (pD es n:Nat),.bool (iv es n)]) w):=by
 have a:=XC b cap es n w d hc hr hl;generalize pD es n=g at a ⊢;generalize iv es n=h at a ⊢;clear hc hr hl;go_enter func133,ntmps133;go_wp2_with(go_at_call 189;refine a.mono ?_;rintro e w' ⟨rfl,f⟩);go_ret2;exact⟨rfl,f⟩
theorem XD(n:eD)(w:World):gc 189 #[.slice none 0 0,.string n,.func (.func 190) #[] #[]] w (Do (.tuple #[eJ 0,.bool false]) w):=by
 go_enter func189,ntmps189;go_wp2;refine KU 1 ?_;rw[pq];go_wp2;go_ret2;exact⟨rfl,rfl⟩
theorem Mf(n:eD)(w:World):gc 133 #[.slice none 0 0,.string n] w (Do (.tuple #[eJ 0,.bool false]) w):=by
 go_enter func133,ntmps133;go_wp2_with(go_at_call 189;refine(XD n _).mono ?_;rintro e w' ⟨rfl,rfl⟩);go_ret2;exact⟨rfl,rfl⟩
theorem gY(a:w.ownsRow 0 96 3 v es.length (flat es))(n:eD)(hr:eP es)(hl:es.length<=16):
  gc 133 #[v,.string n] w (pB (.tuple #[eJ (pD es n:Nat),.bool (iv es n)]) w):=by
 rcases a.2 with⟨rfl,h0⟩|⟨g,cap,c,rfl,_,hg,_⟩
 ·have:es=[]:=Ao.1 h0
  subst this;refine(Mf n w).mono ?_;rintro e w' ⟨rfl,rfl⟩;exact⟨rfl,lh _ _⟩
 ·refine Me g cap es n w (nX.1 hg).1 (fun j b hu=>?_) hr hl
  have:=jn a j b hu
  rwa [iP]at this
theorem zu(hq:Good q):keyOf prog 147 (.agg (fy q))=some (lC prog q):=kK hq.val
theorem UD(t:Nat)(a b c d e nm:eD)(k id:Int)(w:World)(hk:k≠2):
  gc 187 #[hh t,.agg (kq a b c d e),.agg #[.string nm,eJ k,eJ id]] w (pB (.tuple #[.slice none 0 0,eJ 5]) w):=by
 have f:(k==2)=false:=by simpa using hk
 go_enter func187,ntmps187;go_wp2;go_ret2;exact⟨rfl,((lh _ _).alloc (kx _) _).alloc (by simp) _⟩
theorem UE(t m:Nat)(a b c d e nm:eD)(v:Value)(w:World)(ht:t<w.heap.size)(c8:w.cell? (eI t 8)=some (.map (some m)))
  (hlk:∀W,ik w W->(Instr.lookup 162 (.map (some m)) (.agg (kq a b c d e)) false).run prog W=.ok v W):
  gc 187 #[hh t,.agg (kq a b c d e),.agg #[.string nm,eJ 2,eJ 0]] w (pB (.tuple #[v,eJ 0]) w):=by
 have hl:=hlk _ (gS (((lh w.heap.size w).alloc (kx _) (.cells (kq a b c d e) 147)).alloc (by simp) (.cells #[.string nm,eJ 2,eJ 0] 96)));clear hlk;go_enter func187,ntmps187;go_wp2
 go_region
 all_goals
  go_wp2;go_ret2;exact⟨rfl,gS (((lh _ _).alloc (kx _) _).alloc (by simp) _)⟩
theorem UF(t d:Nat)(a b c f g nm:eD)(id:Int)(R:Value->Int->World->World->Prop)(w:World)(ht:t<w.heap.size)(c2:w.cell? (eI t 2)=some (hh d))(hid:id≠0)
  (h:∀W,ik w W->gc 217 #[hh d,eJ id] W fun e w'=>∃v er,e=.returned (.tuple #[v,eJ er])/\R v er W w'):
  gc 187 #[hh t,.agg (kq a b c f g),.agg #[.string nm,eJ 2,eJ id]] w fun e w'=>∃v er W,ik w W/\e=.returned (.tuple #[v,eJ er])/\R v er W w':=by
 have hW:=gS (((lh w.heap.size w).alloc (kx _) (.cells (kq a b c f g) 147)).alloc (by simp) (.cells #[.string nm,eJ 2,eJ id] 96));have hg:=h _ hW;have j:Hid _:=hW;have l:(id==0)=false:=by simpa using hid
 clear h hW;go_enter func187,ntmps187;go_wp2
 go_region_with(go_at_call 217;refine hg.mono ?_;rintro e m ⟨v,er,rfl,i⟩;have k:Hid _:=i;clear i)
 all_goals
  go_wp2;go_ret2;exact⟨v,er,_,j.out,rfl,k.out⟩
theorem ui(w:World)(b:Option Nat):w.grownBy w b:=⟨rfl,rfl,rfl,kx _,fun _ _ _=>rfl⟩
theorem ol{b o:Nat}(h:w.grownBy w' (some b)):w.grownBy (w'.setCell (eI b o) v) (some b):=
 ⟨h.os,h.tape,h.output,by simp;exact h.size,fun k hk hne=>(jQ _ _ _ _ (fun e=>hne (by rw[e]))).trans (h.block k hk hne)⟩
theorem zv{w w' a:World}(h:ik w w')(k:w'.grownBy a (some b)):w.grownBy a (some b):=
 ⟨k.os.trans h.os,k.tape.trans h.tape,k.output.trans h.output,wl h.size k.size,fun i hi hne=>(k.block i (lO hi h.size) hne).trans (h.block i hi)⟩
def tE (w W w3:World):Prop:=W.heap.size<=w3.heap.size/\∀b,w.heap.size<=b->b<W.heap.size->w3.heap[b]?=W.heap[b]?
theorem tE.cell(h:tE w W w3)(h1:w.heap.size<=b)(h2:b<W.heap.size)(o:Nat):w3.cell? (eI b o)=W.cell? (eI b o):=jP (a:=(eI b o)) (h.2 b h1 h2)
theorem tE.frozen(h:tE w W w3)(h1:w.heap.size<=b)(h2:b<W.heap.size)(o:Nat):w3.frozen? (eI b o)=W.frozen? (eI b o):=SM (a:=(eI b o)) (h.2 b h1 h2)
theorem QW(t:Nat)(id:Int)(w:World)(ht:t<w.heap.size)(c4:w.cell? (eI t 4)=some (.string hZ))(c5:w.cell? (eI t 5)=some (eJ 2))(c6:w.cell? (eI t 6)=some (eJ id)):
  gc 136 #[hh t,.agg (kq hZ hZ hZ hZ hZ)] w (pB (.tuple #[.agg #[.string hZ,eJ 2,eJ id],eJ 0]) w):=by
 have a:=fun W=>ut W;have heq:∀W,(Op.equalIn 10000 147 (ju []) (ju [])).run prog W=.ok true W:=fun W=>by
  have:=yr Good.nil Good.nil W
  rw[mz rfl]at this;exact this
 unfold ju fy at a heq;simp only[nN]at a heq;go_enter func136,ntmps136;go_wp2
 go_region_with(go_at_call 75;refine(a _).mono ?_;rintro e c ⟨rfl,b⟩;obtain⟨d,f⟩:=ii b;obtain⟨g,h⟩:=qD b)
 all_goals
  have i:t<w.heap.size+2:=by omega
  go_wp2;exact lF (v:=.tuple #[.agg #[.string hZ,eJ 2,eJ id],eJ 0]) (by simp[results,results136,go_sem,d]) rfl ⟨rfl,by
   have h1:ik w c:=fx (gS (((lh _ _).alloc (kx _) _).alloc (by simp) _)) b
   repeat(first|exact h1|(refine qZ ?_ (by simp) _))⟩
theorem UG(t:Nat)(d f g h i n o p q r:eD)(R:Value->World->World->Prop)(er:Int)(her:(er==0)=false)(w:World)
  (heq:∀W,(Op.equalIn 10000 147 (.agg (kq d f g h i)) (.agg (kq hZ hZ hZ hZ hZ))).run prog W=.ok false W)
  (x:∀W,gc 132 #[.agg (kq d f g h i)] W (pB (.agg (kq n o p q r)) W))
  (y:∀W,ik w W->gc 131 #[hh t,.agg (kq n o p q r)] W fun e w'=>∃v,e=.returned (.tuple #[v,eJ er])/\R v W w')
  (z:∀v W w3,R v W w3->tE w W w3):
  gc 136 #[hh t,.agg (kq d f g h i)] w fun e w'=>e=.returned (.tuple #[.agg #[.string hZ,eJ 0,eJ 0],eJ er])/\∃v W w3,ik w W/\w.heap.size+1<W.heap.size/\R v W w3/\w3.grownBy w' (some (w.heap.size+1)):=by
 have j:=fun W=>ut W;unfold ju fy at j;simp only[nN]at j;go_enter func136,ntmps136;go_wp2
 go_region_with(go_at_call 75;refine(j _).mono ?_;rintro e A ⟨rfl,k⟩;obtain⟨B,G⟩:=ii k;obtain⟨C,s⟩:=qD k)
 all_goals
  have h1:ik w A:=fx (gS (((lh _ _).alloc (kx _) _).alloc (by simp) _)) k;go_wp2_with(first
   |(go_at_call 132;refine(x _).mono ?_;rintro e l ⟨rfl,a⟩;obtain⟨D,H⟩:=ii a;have c:w.heap.size+1<l.heap.size:=lO s a.size;have u:w.heap.size<l.heap.size:=lO C a.size)
   |(go_at_call 131;refine(y _ (fx h1 a)).mono ?_;rintro e w3 ⟨v,rfl,m⟩;have hS:=z _ _ _ m;have I:=hS.cell (kx _) u;have E:=hS.cell (b:=w.heap.size+1) (by omega) c;have J:=hS.frozen (b:=w.heap.size+1) (by omega) c;have F:Hid _:=m;have K:w.heap.size<w3.heap.size:=lO u hS.1;have L:w.heap.size+1<w3.heap.size:=lO c hS.1;clear m hS))
  exact lF (v:=.tuple #[.agg #[.string hZ,eJ 0,eJ 0],eJ er]) (by simp[results,results136,go_sem,B,D,E,s]) rfl ⟨rfl,v,l,w3,fx h1 a,c,F.out,by
   repeat(first|exact ui _ _|(refine ol ?_))⟩
theorem QX(t:Nat)(c d f g h o p q r s:eD)(R:Value->World->World->Prop)(x:eD)(C:Int)(w:World)
  (heq:∀W,(Op.equalIn 10000 147 (.agg (kq c d f g h)) (.agg (kq hZ hZ hZ hZ hZ))).run prog W=.ok false W)
  (D:∀W,gc 132 #[.agg (kq c d f g h)] W (pB (.agg (kq o p q r s)) W))
  (E:∀W,ik w W->gc 131 #[hh t,.agg (kq o p q r s)] W fun e w'=>∃v,e=.returned (.tuple #[v,eJ 0])/\R v W w')
  (F:∀W,gc 134 #[.agg (kq c d f g h)] W (pB (.string x) W))
  (G:∀v W w3,R v W w3->∀W2,ik w3 W2->gc 133 #[v,.string x] W2 (pB (.tuple #[eJ C,.bool false]) W2))
  (H:∀v W w3,R v W w3->tE w W w3):
  gc 136 #[hh t,.agg (kq c d f g h)] w fun e w'=>e=.returned (.tuple #[.agg #[.string hZ,eJ 0,eJ 0],eJ 4])/\∃v W w3,ik w W/\w.heap.size+1<W.heap.size/\R v W w3/\w3.grownBy w' (some (w.heap.size+1)):=by
 have k:=fun W=>ut W;unfold ju fy at k;simp only[nN]at k;go_enter func136,ntmps136;go_wp2
 go_region_with(go_at_call 75;refine(k _).mono ?_;rintro e I ⟨rfl,l⟩;obtain⟨J,S⟩:=ii l;obtain⟨K,u⟩:=qD l)
 all_goals
  have h1:ik w I:=fx (gS (((lh _ _).alloc (kx _) _).alloc (by simp) _)) l;go_wp2_with(first
   |(go_at_call 132;refine(D _).mono ?_;rintro e m ⟨rfl,a⟩;obtain⟨L,T⟩:=ii a;have i:w.heap.size+1<m.heap.size:=lO u a.size;have y:w.heap.size<m.heap.size:=lO K a.size)
   |(go_at_call 131;refine(E _ (fx h1 a)).mono ?_;rintro e w3 ⟨v,rfl,n⟩;have hS:=H _ _ _ n;have U:=hS.cell (kx _) y;have M:=hS.cell (b:=w.heap.size+1) (by omega) i;have V:=hS.frozen (b:=w.heap.size+1) (by omega) i;have z:Hid _:=n;have X:w.heap.size<w3.heap.size:=lO y hS.1;have A:w.heap.size+1<w3.heap.size:=lO i hS.1;clear n hS)
   |(go_at_call 134;refine(F _).mono ?_;rintro e N ⟨rfl,j⟩;obtain⟨O,Y⟩:=ii j;have P:w.heap.size+1<N.heap.size:=lO A j.size)
   |(go_at_call 133;refine(G _ _ _ z.out _ j).mono ?_;rintro e w5 ⟨rfl,B⟩;obtain⟨Q,Z⟩:=ii B))
  exact lF (v:=.tuple #[.agg #[.string hZ,eJ 0,eJ 0],eJ 4]) (by simp[results,results136,go_sem,J,L,M,O,Q,u,A,P]) rfl ⟨rfl,v,m,w3,fx h1 a,i,z.out,by
   refine zv (fx j B) ?_
   repeat(first|exact ui _ _|(refine ol ?_))⟩
theorem QY(t:Nat)(h i j l m s u z A B:eD)(R:Value->World->World->Prop)(x:eD)(k:Nat)(y:eN)(w:World)
  (heq:∀W,(Op.equalIn 10000 147 (.agg (kq h i j l m)) (.agg (kq hZ hZ hZ hZ hZ))).run prog W=.ok false W)
  (I:∀W,gc 132 #[.agg (kq h i j l m)] W (pB (.agg (kq s u z A B)) W))
  (J:∀W,ik w W->gc 131 #[hh t,.agg (kq s u z A B)] W fun e w'=>∃a c d,e=.returned (.tuple #[.slice (some (eI a 0)) c d,eJ 0])/\R (.slice (some (eI a 0)) c d) W w')
  (K:∀W,gc 134 #[.agg (kq h i j l m)] W (pB (.string x) W))
  (L:∀v W w3,R v W w3->∀W2,ik w3 W2->gc 133 #[v,.string x] W2 (pB (.tuple #[eJ (k:Int),.bool true]) W2))
  (M:∀a c d W w3,R (.slice (some (eI a 0)) c d) W w3->a<w3.heap.size/\k<c/\c<=16/\w3.cell? (eI a (k*3))=some (.string y.1)/\w3.cell? (eI a (k*3+1))=some (eJ y.2.1)/\w3.cell? (eI a (k*3+2))=some (eJ y.2.2))
  (N:∀v W w3,R v W w3->tE w W w3):
  gc 136 #[hh t,.agg (kq h i j l m)] w fun e w'=>e=.returned (.tuple #[.agg #[.string y.1,eJ y.2.1,eJ y.2.2],eJ 0])/\∃v W w3,ik w W/\w.heap.size+1<W.heap.size/\R v W w3/\w3.grownBy w' (some (w.heap.size+1)):=by
 have p:=fun W=>ut W;unfold ju fy at p;simp only[nN]at p;go_enter func136,ntmps136;go_wp2
 go_region_with(go_at_call 75;refine(p _).mono ?_;rintro e O ⟨rfl,q⟩;obtain⟨P,Z⟩:=ii q;obtain⟨Q,C⟩:=qD q)
 all_goals
  have h1:ik w O:=fx (gS (((lh _ _).alloc (kx _) _).alloc (by simp) _)) q;go_wp2_with(first
   |(go_at_call 132;refine(I _).mono ?_;rintro e r ⟨rfl,f⟩;obtain⟨S,aa⟩:=ii f;have n:w.heap.size+1<r.heap.size:=lO C f.size;have D:w.heap.size<r.heap.size:=lO Q f.size)
   |(go_at_call 131;refine(J _ (fx h1 f)).mono ?_;rintro e w3 ⟨a,c,d,rfl,o⟩;have hS:=N _ _ _ o;obtain⟨T,ab,ac,ad,ae,af⟩:=M _ _ _ _ _ o;have ag:=hS.cell (kx _) D;have U:=hS.cell (b:=w.heap.size+1) (by omega) n;have ah:=hS.frozen (b:=w.heap.size+1) (by omega) n;have E:Hid _:=o;have ai:w.heap.size<w3.heap.size:=lO D hS.1;have F:w.heap.size+1<w3.heap.size:=lO n hS.1;clear o hS)
   |(go_at_call 134;refine(K _).mono ?_;rintro e G ⟨rfl,g⟩;obtain⟨V,aj⟩:=ii g;have X:w.heap.size+1<G.heap.size:=lO F g.size;have ak:a<G.heap.size:=lO T g.size)
   |(go_at_call 133;refine(L _ _ _ E.out _ g).mono ?_;rintro e w5 ⟨rfl,H⟩;obtain⟨Y,al⟩:=ii H))
  exact lF (v:=.tuple #[.agg #[.string y.1,eJ y.2.1,eJ y.2.2],eJ 0]) (by simp[results,results136,go_sem,P,S,U,V,Y,C,F,X]) rfl ⟨rfl,_,r,w3,fx h1 f,n,E.out,by
   refine zv (fx g H) ?_
   repeat(first|exact ui _ _|(refine ol ?_))⟩
theorem UH(t:Nat)(b c d f g a:eD)(k id er:Int)(R:World->World->Prop)(w:World)(her:(er==0)=false)
  (h:∀W,ik w W->gc 136 #[hh t,.agg (kq b c d f g)] W fun e w'=>e=.returned (.tuple #[.agg #[.string a,eJ k,eJ id],eJ er])/\R W w'):
  gc 131 #[hh t,.agg (kq b c d f g)] w fun e w'=>e=.returned (.tuple #[.slice none 0 0,eJ er])/\∃W w3,ik w W/\R W w3/\ik w3 w':=by
 have hf:=h _ ((lh w.heap.size w).alloc (kx _) (.cells (kq b c d f g) 147));clear h;go_enter func131,ntmps131;go_wp2_with(go_at_call 136;refine hf.mono ?_;rintro e w3 ⟨rfl,i⟩;have j:Hid _:=i;clear i);go_ret2;exact⟨rfl,_,w3,(lh w.heap.size w).alloc (kx _) _,j.out,by repeat(first|exact lh _ _|(refine SL ?_ (by simp) _)|(refine qZ ?_ (by simp) _))⟩
theorem look_ok(t:Nat)(b c d f g a:eD)(k id:Int)(R:World->World->Prop)(S:Value->Int->World->World->Prop)(w:World)
  (i:∀W,ik w W->gc 136 #[hh t,.agg (kq b c d f g)] W fun e w'=>e=.returned (.tuple #[.agg #[.string a,eJ k,eJ id],eJ 0])/\R W w')
  (l:∀W w3,R W w3->∀W2,ik w3 W2->gc 187 #[hh t,.agg (kq b c d f g),.agg #[.string a,eJ k,eJ id]] W2 fun e w'=>∃v er,e=.returned (.tuple #[v,eJ er])/\S v er W2 w')
  (m:∀W w3,R W w3->tE w W w3):
  gc 131 #[hh t,.agg (kq b c d f g)] w fun e w'=>∃v er W w3 W2,ik w W/\R W w3/\ik w3 W2/\e=.returned (.tuple #[v,eJ er])/\S v er W2 w':=by
 have hf:=i _ ((lh w.heap.size w).alloc (kx _) (.cells (kq b c d f g) 147));clear i;go_enter func131,ntmps131;go_wp2_with(first
  |(go_at_call 136;refine hf.mono ?_;rintro e w3 ⟨rfl,h⟩;have hS:=m _ _ h;have o:=hS.cell (kx _) (by simp);have p:w.heap.size<w3.heap.size:=lO (by simp) hS.1;have j:Hid _:=h;clear h hS)
  |(go_at_call 187;refine(l _ _ j.out _ (by repeat(first|exact lh _ _|(refine SL ?_ (by simp) _)|(refine qZ ?_ (by simp) _)))).mono ?_;rintro e q ⟨v,er,rfl,hS⟩;have n:Hid _:=hS;clear hS))
 go_ret2;exact⟨v,er,_,w3,_,(lh w.heap.size w).alloc (kx _) _,j.out,by repeat(first|exact lh _ _|(refine SL ?_ (by simp) _)|(refine qZ ?_ (by simp) _)),rfl,n.out⟩
def sA (tg:eV)(w:World)(i:Nat)(v:Value)(es:List eN):Prop:=w.ownsRow 0 96 3 v es.length (flat es)/\∀g,v.ownBlock=some g->tg g=(i,3)\/tg g=(i,5)
theorem Ow(w:World):w.ownsRow 0 96 3 (.slice none 0 0) ([]:List eN).length (flat []):=⟨rfl,.inl ⟨rfl,rfl⟩⟩
theorem sA.nil(tg:eV)(w:World)(i:Nat):sA tg w i (.slice none 0 0) []:=⟨Ow w,fun g hg=>by simp[Value.ownBlock]at hg⟩
theorem sA.below(h:sA tg w i v es)(a:ik w w'):sA tg w' i v es:=⟨eQ h.1 (fun g hg=>a.block g (eK h.1 hg)),h.2⟩
section
variable {tg:eV}{w:World}{s i p:Nat}{B:WB}{ey:List Ob}{g:WG}{lim:Nat}
theorem fC.look{od:eL->Option (List eN)}{vD:eL->Value}(h:fC tg w i B od lim vD)(hq:Good q)(b:ik w W):
  (Instr.lookup 162 (.map (some B.oD)) (.agg (fy q)) false).run prog W=.ok (((od q).map fun _=>vD q).getD (.slice none 0 0)) W:=by
 obtain⟨n,_,M,a,c,_⟩:=h.map
 have:=(a.keep (w':=W) (b.block _ a.lt)).look uS underlying162 (yz W) (zu hq)
 rw[c q hq]at this;exact this
theorem li{P:Nat×Nat->Prop}(a:ik w W)(m:eB P tg eF W w'):eB P tg eF w w':=(eB.eE a).trans m
theorem sA.aaf(h:sA tg w i v es)(hk:∀v es k,(k=3\/k=5)->lR tg w (i,k) v es->lR eF w' (i,k) v es):sA eF w' i v es:=by
 cases hv:v.ownBlock with
 |none=>
  have:=hk v es 3 (.inl rfl) ⟨h.1,fun g hg=>by rw[hv]at hg;cases hg⟩
  exact⟨this.1,fun g hg=>.inl (this.2 g hg)⟩
 |some b=>
  have a:∀g,v.ownBlock=some g->g=b:=fun g hg=>by rw[hv]at hg;exact(zQ hg).symm
  rcases h.2 b hv with e|e
  ·have:=hk v es 3 (.inl rfl) ⟨h.1,fun g hg=>by rw[a g hg];exact e⟩
   exact⟨this.1,fun g hg=>.inl (this.2 g hg)⟩
  ·have:=hk v es 5 (.inr rfl) ⟨h.1,fun g hg=>by rw[a g hg];exact e⟩
   exact⟨this.1,fun g hg=>.inr (this.2 g hg)⟩
theorem Ga(h:eT tg w s i p B ey g lim)(hl:lim<1099511627776)(hq:Good q)(n:mj ey e):
  gc 187 #[hh B.bt,.agg (fy q),.agg #[.string e.1,eJ e.2.1,eJ e.2.2]] w fun b w'=>∃v,b=.returned (.tuple #[v,eJ (kU ey g.ft g.fs q e).2.1])/\
   ∃eF,eB (fK i) tg eF w w'/\eT eF w' s i p B ey { g with fs:=(kU ey g.ft g.fs q e).1 } (lim+1)/\sA eF w' i v (kU ey g.ft g.fs q e).2.2/\∀v es,sA tg w i v es->sA eF w' i v es:=by
 obtain⟨nm,k,id⟩:=e;have l:B.bt<w.heap.size:=(nX.1 h.wp.tree.ht).1;by_cases hk:k=2
 ·subst hk
  by_cases hid:id=0
  ·subst hid
   have c:kU ey g.ft g.fs q (nm,2,0)=(g.fs,0,(g.ft.od q).getD []):=rfl;rw[c];obtain⟨vD,hD⟩:=h.wp.nI;have c8:w.cell? (eI B.bt 8)=some (.map (some B.oD)):=by simp[World.cell?,h.wp.tree.ht]
   refine(UE B.bt B.oD _ _ _ _ _ nm _ w l c8 (fun W a=>hD.look hq a)).mono ?_;rintro b w' ⟨rfl,a⟩;refine⟨_,rfl,tg,eB.eE a,(h.below a).mono (gV _),?_,fun _ _ hs=>hs.below a⟩;cases ho:g.ft.od q with
   |none=>exact sA.nil _ _ _
   |some es=>
    have hr:=hD.row q es ho;exact sA.below ⟨hr.1,fun f j=>.inr (hr.2 f j)⟩ a
  ·have o:=n.2 hid
   have c2:w.cell? (eI B.bt 2)=some (hh B.sD):=by simp[World.cell?,h.wp.tree.ht,ptr]
   have c:kU ey g.ft g.fs q (nm,2,id)=if(g.fs.gj id).2 then((g.fs.gj id).1,0,eZ ey id) else((g.fs.gj id).1,14,[]):=by
    unfold kU;rw[fY (show ¬((nm,(2:Int),id):eN).2.1≠2 from fun h=>h rfl),fY hid]
   refine(UF B.bt B.sD _ _ _ _ _ nm id (fun v er W w'=>er=(if(g.fs.gj id).2 then 0 else 14)/\∃eF,eB (fK i) tg eF W w'/\eT eF w' s i p B ey { g with fs:=(g.fs.gj id).1 } (lim+1)/\(if(g.fs.gj id).2 then lR eF w' (i,3) v (eZ ey id)else v=.slice none 0 0)/\∀v es,sA tg W i v es->sA eF w' i v es) w l c2 hid (fun W a=>(XB (h.below a) hl o).mono ?_)).mono ?_
   ·rintro b w' ⟨v,rfl,eF,m,hW,hr,hk⟩
    exact⟨v,_,rfl,rfl,eF,m,hW,hr,fun v es hs=>sA.aaf hs hk⟩
   ·rintro b w' ⟨v,er,W,a,rfl,rfl,eF,m,hW,hr,hk⟩
    rw[c];by_cases d:(g.fs.gj id).2=true
    ·rw[ie d]at hr ⊢
     rw[ie d];exact⟨v,rfl,eF,li a m,hW,⟨hr.1,fun f j=>.inl (hr.2 f j)⟩,fun v es hs=>hk v es (hs.below a)⟩
    ·rw[fY d]at hr ⊢
     rw[fY d];subst hr;exact⟨_,rfl,eF,li a m,hW,sA.nil _ _ _,fun v es hs=>hk v es (hs.below a)⟩
 ·have c:kU ey g.ft g.fs q (nm,k,id)=(g.fs,5,[]):=by unfold kU;rw[ie hk]
  rw[c];refine(UD B.bt _ _ _ _ _ nm k id w hk).mono ?_;rintro b w' ⟨rfl,a⟩;exact⟨_,rfl,tg,eB.eE a,(h.below a).mono (gV _),sA.nil _ _ _,fun _ _ hs=>hs.below a⟩
theorem tG(h:eT tg w s i p B ey g lim)(hl:lim<1099511627776)(hq:Good q)(a:mj ey e):
  gc 187 #[hh B.bt,.agg (fy q),.agg #[.string e.1,eJ e.2.1,eJ e.2.2]] w fun b w'=>∃v,b=.returned (.tuple #[v,eJ (kU ey g.ft g.fs q e).2.1])/\
   ∃eF,eB (fK i) tg eF w w'/\eT eF w' s i p B ey { g with fs:=(kU ey g.ft g.fs q e).1 } (lim+1)/\sA eF w' i v (kU ey g.ft g.fs q e).2.2:=
 (Ga h hl hq a).mono fun _ _ ⟨v,h1,eF,h2,h3,c,_⟩=>⟨v,h1,eF,h2,h3,c⟩
theorem vN(hS:Sound ey){ft:FT}(b:ZL ey ft)(hr:∀p es,ft.od p=some es->eP es/\es.length<=16)(fs:FS):∀r,((findF ey ft fs r).2.1=0->mj ey (findF ey ft fs r).2.2)/\(∀e∈(fe ey ft fs r).2.2,mj ey e)/\eP (fe ey ft fs r).2.2/\(fe ey ft fs r).2.2.length<=16:=by
 have key:∀r,((findF ey ft fs r).2.1=0->mj ey (findF ey ft fs r).2.2)->(∀e∈(fe ey ft fs r).2.2,mj ey e)/\eP (fe ey ft fs r).2.2/\(fe ey ft fs r).2.2.length<=16:=by
  intro r hf;unfold fe;by_cases h0:(findF ey ft fs r).2.1≠0
  ·simp only[ie h0];exact⟨by simp,List.Pairwise.nil,by simp⟩
  ·simp only[fY h0]
   have a:=hf (lD.1 h0);unfold kU;by_cases hk:(findF ey ft fs r).2.2.2.1≠2
   ·rw[ie hk];exact⟨by simp,List.Pairwise.nil,by simp⟩
   ·rw[fY hk]
    by_cases hid:(findF ey ft fs r).2.2.2.2=0
    ·rw[ie hid]
     cases ho:ft.od r.reverse with
     |none=>exact⟨by simp,List.Pairwise.nil,by simp⟩
     |some es=>exact⟨b.od _ es ho,(hr _ es ho).1,(hr _ es ho).2⟩
    ·rw[fY hid]
     by_cases d:((findF ey ft fs r).1.gj (findF ey ft fs r).2.2.2.2).2=true
     ·rw[ie d]
      obtain⟨h,i,f⟩:=hS.2 _ ((a.2 hid).trans (lD.1 hk));exact⟨fun e a=>⟨(f e a).2.1,fun _=>(f e a).2.2.1⟩,h,i⟩
     ·rw[fY d];exact⟨by simp,List.Pairwise.nil,by simp⟩
 have g:∀r,(findF ey ft fs r).2.1=0->mj ey (findF ey ft fs r).2.2:=by
  intro r
  induction r with
  |nil=>exact fun _=>⟨.inr rfl,b.root⟩
  |cons n r j=>
   intro h0;rw[kE]at h0 ⊢;by_cases hl:(fe ey ft fs r).2.1≠0
   ·rw[ie hl]at h0;exact absurd h0 hl
   ·rw[fY hl]at h0 ⊢
    cases hg:oB (fe ey ft fs r).2.2 n with
    |none=>rw[hg]at h0;simp at h0
    |some c=>
     simp only;have k:(n,c)∈(fe ey ft fs r).2.2:=by
      unfold oB at hg;cases hf:(fe ey ft fs r).2.2.find? (fun x=>decide (x.1=n)) with
      |none=>rw[hf]at hg;simp at hg
      |some x=>
       rw[hf]at hg;have h1:=Pq hf;have h2:=EU hf;simp only[uP]at h1;simp only[mq,mZ]at hg;rw[<-h1,<-hg];exact h2
     exact(key r j).1 _ k
 exact fun r=>⟨g r,key r (g r)⟩
end
theorem QZ(hg:w.grownBy w' (some b))(ht:tg b=(0,0)):eB (fun t=>t=(0,0)) tg tg w w':=
 ⟨hg.os,hg.tape,hg.output,hg.size,fun _ _=>rfl,fun k hk hn=>hg.block k hk (fun e=>hn (by cases e;exact ht)),fun hf k hk=>hf k (wl hg.size hk)⟩
section
variable {s i p:Nat}{B:WB}{ey:List Ob}
theorem eT.own(h:eT tg w s i p B ey g lim)(hg:w.grownBy w' (some b))(ht:tg b=(0,0)):eT tg w' s i p B ey g lim:=by
 have hi:=h.two;have m:=QZ hg ht;exact⟨h.two,h.st.moves m (fun e=>by cases e) (fun e=>by cases e),h.wp.moves m (fun k e=>by cases e;omega)⟩
theorem Mg(hi:2<=i)(hf:jt tg w)(m:eB (Mine i) tg eF W w3):tE w W w3:=
 ⟨m.size,fun b h1 h2=>m.block b h2 (by rw[hf b h1];rintro(h|h)<;>simp at h;omega)⟩
theorem xx(hi:2<=i)(hf:jt tg w)(m:eB (fK i) tg eF W w3):tE w W w3:=Mg hi hf (m.mono (fun _ h=>h.mine))
def jR (s i p:Nat)(B:WB)(ey:List Ob)(tg:eV)(w w':World)(a:WG)(lim:Nat):Prop:=∃eF,eB (fK i) tg eF w w'/\eT eF w' s i p B ey a lim
theorem xy{g b:WG}{lim c:Nat}(h:eT tg w s i p B ey g lim)(d:ik w W)(f:w.heap.size+1<W.heap.size)(hd:jR s i p B ey tg W w3 b c)(hg:w3.grownBy w' (some (w.heap.size+1))):jR s i p B ey tg w w' b c:=by
 obtain⟨eF,m,hW⟩:=hd;have ht:eF (w.heap.size+1)=(0,0):=(m.tags _ f).trans (h.st.fresh _ (by omega));have a:=li d m;refine⟨eF,⟨hg.os.trans a.os,hg.tape.trans a.tape,hg.output.trans a.output,wl a.size hg.size,a.tags,fun k hk hn=>(hg.block k (lO hk a.size) (fun e=>by cases e;omega)).trans (a.block k hk hn),fun hf=>(hW.own hg ht).st.fresh⟩,hW.own hg ht⟩
def Ox (s i p:Nat)(B:WB)(ey:List Ob)(r:eL):Prop:=∀(tg:eV) (w:World) (g:WG) (lim:Nat),eT tg w s i p B ey g lim->lim+10<1099511627776->Good r.reverse->
 Calls prog 136 #[.pointer (some ⟨B.bt,0,none⟩),.agg (fy r.reverse)] w fun a w'=>a=.returned (.tuple #[.agg #[.string (findF ey g.ft g.fs r).2.2.1,.int .i64 (findF ey g.ft g.fs r).2.2.2.1,.int .i64 (findF ey g.ft g.fs r).2.2.2.2],.int .i64 (findF ey g.ft g.fs r).2.1])/\
  jR s i p B ey tg w w' { g with fs:=(findF ey g.ft g.fs r).1 } (lim+r.length)
def UI (s i p:Nat)(B:WB)(ey:List Ob)(r:eL):Prop:=∀(tg:eV) (w:World) (g:WG) (lim:Nat),eT tg w s i p B ey g lim->lim+10<1099511627776->Good r.reverse->
 Calls prog 131 #[.pointer (some ⟨B.bt,0,none⟩),.agg (fy r.reverse)] w fun a w'=>∃v,a=.returned (.tuple #[v,.int .i64 (fe ey g.ft g.fs r).2.1])/\
  ∃eF,eB (fK i) tg eF w w'/\eT eF w' s i p B ey { g with fs:=(fe ey g.ft g.fs r).1 } (lim+r.length+1)/\sA eF w' i v (fe ey g.ft g.fs r).2.2
theorem eT.rising(h:eT tg w s i p B ey g lim):∀q es,g.ft.od q=some es->eP es/\es.length<=16:=by
 obtain⟨vD,hD⟩:=h.wp.nI;exact fun q es a=>⟨(hD.good q es a).2.1,(hD.good q es a).2.2.1⟩
theorem Oy(r:eL)(hF:Ox s i p B ey r):UI s i p B ey r:=by
 intro tg w g lim h hl hr;have y:r.length<=5:=by have:=hr.len;simpa using this
 obtain⟨f1,_⟩:=vN h.st.sound h.wp.ok h.rising g.fs r;by_cases h0:(findF ey g.ft g.fs r).2.1=0
 ·have d:fe ey g.ft g.fs r=kU ey g.ft (findF ey g.ft g.fs r).1 r.reverse (findF ey g.ft g.fs r).2.2:=by
   unfold fe;simp only[fY (show ¬(findF ey g.ft g.fs r).2.1≠0 from fun h=>h h0)]
  have n:=f1 h0;refine(look_ok B.bt _ _ _ _ _ (findF ey g.ft g.fs r).2.2.1 (findF ey g.ft g.fs r).2.2.2.1 (findF ey g.ft g.fs r).2.2.2.2 (fun W w3=>ik w W/\jR s i p B ey tg W w3 { g with fs:=(findF ey g.ft g.fs r).1 } (lim+r.length))
   (fun v er W2 w'=>er=(fe ey g.ft g.fs r).2.1/\∃eF,eB (fK i) tg eF w w'/\eT eF w' s i p B ey { g with fs:=(fe ey g.ft g.fs r).1 } (lim+r.length+1)/\sA eF w' i v (fe ey g.ft g.fs r).2.2) w (fun W a=>?_) (fun W w3 e W2 a=>?_) (fun W w3 e=>?_)).mono ?_
  ·refine(hF tg W g lim (h.below a) hl hr).mono ?_
   rintro f w' ⟨k,hd⟩;rw[h0]at k;exact⟨k,a,hd⟩
  ·obtain⟨l,j,b,c⟩:=e
   refine(tG (c.below a) (by omega) hr n).mono ?_;rintro f w' ⟨v,rfl,o,q,t,u⟩;rw[d];exact⟨v,_,rfl,rfl,o,(li l b).trans (li a q),t,u⟩
  ·obtain⟨l,j,b,c⟩:=e
   exact xx h.two h.st.fresh b
  ·rintro f w' ⟨v,er,W,w3,W2,_,_,_,rfl,rfl,x⟩
   exact⟨v,rfl,x⟩
 ·have d:fe ey g.ft g.fs r=((findF ey g.ft g.fs r).1,(findF ey g.ft g.fs r).2.1,[]):=by
   unfold fe;simp only[ie h0]
  rw[d];refine(UH B.bt _ _ _ _ _ _ _ _ (findF ey g.ft g.fs r).2.1 (fun W w3=>jR s i p B ey tg W w3 { g with fs:=(findF ey g.ft g.fs r).1 } (lim+r.length)) w (by simpa using h0) (fun W a=>hF tg W g lim (h.below a) hl hr)).mono ?_;rintro f w' ⟨rfl,W,w3,a,⟨j,b,c⟩,m⟩;exact⟨_,rfl,j,(li a b).trans (eB.eE m),(c.below m).mono (gV _),sA.nil _ _ _⟩
theorem UJ:Ox s i p B ey []:=by
 intro tg w g lim h hl hr;have b:B.bt<w.heap.size:=(nX.1 h.wp.tree.ht).1;refine(QW B.bt g.ft.root w b (by simp[World.cell?,h.wp.tree.ht]) (by simp[World.cell?,h.wp.tree.ht]) (by simp[World.cell?,h.wp.tree.ht])).mono ?_;rintro c w' ⟨rfl,a⟩;exact⟨rfl,tg,eB.eE a,h.below a⟩
theorem Ra(n:eD)(r:eL)(F:UI s i p B ey r):Ox s i p B ey (n::r):=by
 intro tg w g lim h hl hr;have G:(n::r).reverse=r.reverse++[n]:=qh;rw[G]at hr ⊢;have hne:r.reverse++[n]≠[]:=by simp
 have H:Good r.reverse:=by have:=hr.dropLast;rwa [qY]at this
 have P:r.length<=4:=by have:=hr.len;simp at this;omega
 have heq:∀W,(Op.equalIn 10000 147 (ju (r.reverse++[n])) (ju [])).run prog W=.ok false W:=fun W=>by
  have:=yr hr Good.nil W
  rw[rk hne]at this;exact this
 have l:=fun W=>gp (r.reverse++[n]) hr W;have t:=fun W=>jY (r.reverse++[n]) hr hne W;rw[qY]at l;simp only[EY]at t;obtain⟨_,Q,A,C⟩:=vN h.st.sound h.wp.ok h.rising g.fs r;have u:∀(v:Value) (W w3:World),(ik w W/\∃eF,eB (fK i) tg eF W w3/\eT eF w3 s i p B ey { g with fs:=(fe ey g.ft g.fs r).1 } (lim+r.length+1)/\sA eF w3 i v (fe ey g.ft g.fs r).2.2)->tE w W w3:=fun v W w3 ⟨a,eF,m,_,_⟩=>xx h.two h.st.fresh m;have D:∀W,ik w W->gc 131 #[hh B.bt,.agg (fy r.reverse)] W fun d w'=>∃v,d=.returned (.tuple #[v,eJ (fe ey g.ft g.fs r).2.1])/\
   (ik w W/\∃eF,eB (fK i) tg eF W w'/\eT eF w' s i p B ey { g with fs:=(fe ey g.ft g.fs r).1 } (lim+r.length+1)/\sA eF w' i v (fe ey g.ft g.fs r).2.2):=fun W a=>(F tg W g lim (h.below a) hl H).mono (fun d w' ⟨v,I,J⟩=>⟨v,I,a,J⟩)
 have fin:∀{w':World} (v:Value) (W w3:World),ik w W->w.heap.size+1<W.heap.size->(∃eF,eB (fK i) tg eF W w3/\eT eF w3 s i p B ey { g with fs:=(fe ey g.ft g.fs r).1 } (lim+r.length+1)/\sA eF w3 i v (fe ey g.ft g.fs r).2.2)->w3.grownBy w' (some (w.heap.size+1))->jR s i p B ey tg w w' { g with fs:=(fe ey g.ft g.fs r).1 } (lim+(n::r).length):=fun v W w3 a c ⟨eF,m,hW,_⟩ hg=>xy h a c ⟨eF,m,hW⟩ hg;have o:∀(v:Value) (W w3:World),(ik w W/\∃eF,eB (fK i) tg eF W w3/\eT eF w3 s i p B ey { g with fs:=(fe ey g.ft g.fs r).1 } (lim+r.length+1)/\sA eF w3 i v (fe ey g.ft g.fs r).2.2)->∀W2,ik w3 W2->gc 133 #[v,.string n] W2 (pB (.tuple #[eJ (pD (fe ey g.ft g.fs r).2.2 n:Nat),.bool (iv (fe ey g.ft g.fs r).2.2 n)]) W2):=fun v W w3 ⟨_,eF,_,_,hs⟩ W2 a=>gY (hs.below a).1 n A C;by_cases h0:(fe ey g.ft g.fs r).2.1=0
 ·have x:=D
  rw[h0]at x;have q:=oC (n:=n) A;cases ht:iv (fe ey g.ft g.fs r).2.2 n with
  |false=>
   rw[ht]at q;have f:findF ey g.ft g.fs (n::r)=((fe ey g.ft g.fs r).1,4,zE):=by
    rw[kE,fY (fun h=>h h0),q];rfl
   rw[f];simp only[ht]at o;refine(QX B.bt _ _ _ _ _ _ _ _ _ _ _ n _ w heq l x t o u).mono ?_;rintro d w' ⟨rfl,v,W,w3,a,c,⟨_,k⟩,hg⟩;exact⟨rfl,fin v W w3 a c k hg⟩
  |true=>
   have qi:=qq ht;rw[ht,ie rfl,jy qi,mq]at q;have K:((fe ey g.ft g.fs r).2.2[pD (fe ey g.ft g.fs r).2.2 n]).1=n:=by
    unfold iv at ht;rw[jy qi]at ht;simpa using ht
   have f:findF ey g.ft g.fs (n::r)=((fe ey g.ft g.fs r).1,0,(fe ey g.ft g.fs r).2.2[pD (fe ey g.ft g.fs r).2.2 n]):=by
    rw[kE,fY (fun h=>h h0),q];exact xr (fun y:eN=>((fe ey g.ft g.fs r).1,(0:Int),y)) (Ay K.symm rfl)
   rw[f];simp only[ht]at o;refine(QY B.bt _ _ _ _ _ _ _ _ _ _ _ n _ ((fe ey g.ft g.fs r).2.2[pD (fe ey g.ft g.fs r).2.2 n]) w heq l (fun W a=>(x W a).mono ?_) t o ?_ u).mono ?_
   ·rintro d w' ⟨v,rfl,L,eF,m,hW,hs⟩
    obtain⟨z,E,rfl⟩:=fj hs.1 (by omega);exact⟨z,_,E,rfl,L,eF,m,hW,hs⟩
   ·rintro z M E W w3 ⟨_,eF,m,hW,hs⟩
    have N:M=(fe ey g.ft g.fs r).2.2.length:=by
     rcases hs.1.2 with⟨e,_⟩|⟨R,S,_,e,_⟩
     ·cases e
     ·cases e;rfl
    subst N;obtain⟨c0,c1,c2⟩:=vM (b:=z) (fun j O hu=>by have:=jn hs.1 j O hu;rwa [iP]at this) qi;exact⟨eK hs.1 rfl,qi,C,c0,c1,c2⟩
   ·rintro d w' ⟨rfl,v,W,w3,a,c,⟨_,k⟩,hg⟩
    exact⟨rfl,fin v W w3 a c k hg⟩
 ·have f:findF ey g.ft g.fs (n::r)=((fe ey g.ft g.fs r).1,(fe ey g.ft g.fs r).2.1,zE):=by
   rw[kE,ie h0]
  rw[f];refine(UG B.bt _ _ _ _ _ _ _ _ _ _ _ (fe ey g.ft g.fs r).2.1 (by simpa using h0) w heq l D u).mono ?_;rintro d w' ⟨rfl,v,W,w3,a,c,⟨_,k⟩,hg⟩;exact⟨rfl,fin v W w3 a c k hg⟩
theorem tH:∀r:eL,Ox s i p B ey r
 |[]=>UJ
 |n::r=>Ra n r (Oy r (tH r))
theorem qI(r:eL):UI s i p B ey r:=Oy r (tH r)
end
theorem zW{P:Program}{ops:Array Oper}{o:Oper}{a:Act}{K:Act->World->Prop}{l:Exit->Act->World->Prop}{p:Prop}
  (hg:o.guard=none)(s x:Operand)(t:gi)(q:o.op=Op.call { callee:=Callee.builtin Builtin.append,args:=#[s,x],argTypes:=#[t,t] })
  (e:gi)(i:TypeInfo)(size:Nat)(h1:P.underlying t=some (.slice e))(h2:P.info? e=some i)(r:i.size=size)
  (g n cap:Nat)(d:Array Value)(hs:a.eval s=.slice (some (eI g 0)) n cap)(u:w.heap[g]?=some (.cells d e (0,0)))
  (h:Addr)(m c:Nat)(b:fQ)(hx:a.eval x=.slice (some h) m c)(hn:b.length=m*size)(hc:∀j f,b[j]?=some f->w.cell? (h.add j)=some f)(v:∀f∈b,f.oneCell'=true)
  (y:n+m<=cap)(z:n*size+b.length<=d.size)
  (k:K (a.put o.dst (.slice (some (eI g 0)) (n+m) cap)) (w.setRow g (d.toList.take (n*size)++b++d.toList.drop (n*size+b.length)).toArray)):
  if Region.wanted o (yielded ops a.tmps)=true then Oper.wp P o a w K l else p:=by
 have hw:Region.wanted o (yielded ops a.tmps)=true:=by simp[Region.wanted,hg]
 rw[ie hw];subst r;have A:=run_append_room (P:=P) w t o.type e i h1 h2 g n cap d u h m c b hn hc v y z;unfold Oper.wp;simp[execOp,q,resolve,invoke,builtin,hs,hx,A,Result.andThen];rw[kC]at k;exact k
theorem Mh(w:World)(d:gi)(g n c:Nat)(a:Array Value)(hg:w.heap[g]?=some (.cells a 96 (0,0)))(e:n*3+3<=a.size):
  (Builtin.clear_ #[55] d #[.slice (some (eI g (n*3))) 1 c]).run prog w=.ok (.tuple #[]) (w.setRow g (a.toList.take (n*3)++ml (hZ,0,0)++a.toList.drop (n*3+3)).toArray):=by
 have hv:(zeroValue 96).run prog w=.ok (.agg #[.string hZ,eJ 0,eJ 0]) w:=by kernel_rfl
 have f:(Builtin.zeroCells (Value.agg #[.string hZ,eJ 0,eJ 0]).cells 1).toList=ml (hZ,0,0):=by kernel_rfl
 have b:=run_storeCells_at prog g (n*3) 96 (ml (hZ,0,0)) 0 a w hg (by simpa [ml]using e) (pp _);simp only[CQ]at b;simp[Builtin.clear_,SX underlying55,hv,f,b];rfl
theorem jv(a b:List eN):flat (a++b)=flat a++flat b:=by simp[flat]
theorem vO(es:List eN)(k:Nat)(h:k<=es.length):flat (es.take k)=(flat es).take (k*3):=by
 have e:flat es=flat (es.take k)++flat (es.drop k):=by rw[<-jv,Hl]
 rw[e,Au (by rw[km,gT];omega)]
theorem vP(es:List eN)(k:Nat)(h:k<=es.length):flat (es.drop k)=(flat es).drop (k*3):=by
 have e:flat es=flat (es.take k)++flat (es.drop k):=by rw[<-jv,Hl]
 rw[e,Tj (by rw[km,gT];omega)]
theorem UK(g n c k:Nat)(es:List eN)(b:Array Value)(w:World)(hg:w.heap[g]?=some (.cells b 96 (0,0)))(hn:es.length=n)(hk:k<n)(W:n<=c)(H:c<=maxLen)(l:b.size=c*3)(ht:b.toList.take (n*3)=flat es):
  gc 194 #[.slice (some (eI g 0)) n c,eJ (k:Int),eJ ((k:Int)+1)] w fun e w'=>e=.returned (.slice (some (eI g 0)) (n-1) c)/\
   ∃q,w'.heap[g]?=some (.cells q 96 (0,0))/\q.size=c*3/\q.toList.take ((n-1)*3)=flat (es.eraseIdx k)/\w.grownBy w' (some g)/\w'.heap.size=w.heap.size:=by
 obtain⟨I,hi,X,J,Y⟩:=iq xX;unfold maxLen at H;have Z:k<=c:=by omega
 have hk2:k+1<=c:=by omega
 obtain⟨a,m⟩:∃a,a=flat (es.drop (k+1)):=⟨_,rfl⟩;have o:a.length=(n-(k+1))*3:=by rw[m,km,lz,hn]
 have z:∀j f,(flat es)[j]?=some f->w.cell? (eI g j)=some f:=fun j f hu=>by
  rw[<-ht,Ap]at hu;split at hu
  ·simp[World.cell?,hg];simpa using hu
  ·cases hu
 obtain⟨p,aa,K⟩:∃p:Addr,(if c=k+1 then some ((eI g 0):Addr)else some (eI g ((k+1)*3)))=some p/\Hid (∀t f,a[t]?=some f->w.drew.cell? (p.add t)=some f):=by
  by_cases h:c=k+1
  ·refine⟨(eI g 0),by simp[h],fun t f hu=>?_⟩
   have h0:a.length=0:=by rw[o];omega
   rw[Ao.1 h0]at hu;simp at hu
  ·refine⟨(eI g ((k+1)*3)),by simp[h],fun t f hu=>?_⟩
   rw[KX];show w.cell? _=_;refine z _ _ ?_;rw[m,vP es (k+1) (by omega),Ph]at hu;exact hu
 have L:Hid (∀f∈a,f.oneCell'=true):=by
  intro f hu;rw[m]at hu;exact iR _ f hu
 have A:k*3+a.length<=b.size:=by rw[o,l];omega
 obtain⟨d,r⟩:∃d:Array Value,d=(b.toList.take (k*3)++a++b.toList.drop (k*3+a.length)).toArray:=⟨_,rfl⟩;have s:d.size=c*3:=by
  rw[r];simp only[CL,mb,gT,lz,ng];omega
 obtain⟨i,u⟩:∃i,i=w.drew.setRow g d:=⟨_,rfl⟩;have v:i.heap[g]?=some (.cells d 96 (0,0)):=by rw[u];exact Ff w.drew g _ _ 96 _ hg
 have ab:∀y,(Builtin.clear_ #[55] y #[.slice (some (eI g ((n-1)*3))) 1 (c-(n-1))]).run prog i=.ok (.tuple #[]) (i.setRow g (d.toList.take ((n-1)*3)++ml (hZ,0,0)++d.toList.drop ((n-1)*3+3)).toArray):=
  fun y=>Mh i y g (n-1) _ d v (by rw[s];omega)
 have hW:Hid (i=w.drew.setRow g d):=u;have B:Hid (d=(b.toList.take (k*3)++a++b.toList.drop (k*3+a.length)).toArray):=r;have M:Hid (a=flat (es.drop (k+1))):=m;have C:Hid (a.length=(n-(k+1))*3):=o;have N:Hid (w.heap[g]?=some (.cells b 96 (0,0))):=hg;have O:Hid (i.heap[g]?=some (.cells d 96 (0,0))):=v;have P:Hid (k*3+a.length<=b.size):=A;have Q:Hid (b.toList.take (n*3)=flat es):=ht;have R:Hid (d.size=c*3):=s;have S:Hid (b.size=c*3):=l;have T:Hid (es.length=n):=hn;have c3:(0:Int)<=↑k+1:=by omega
 have c4:(↑k+1:Int)<=↑n:=by omega
 clear u r m o hg v A ht s l z hn;go_enter func194,ntmps194;go_wp2_with fail
 go_region_law(refine zW rfl (.tmp 22) (.tmp 25) 55 rfl 96 I 3 underlying55 hi J g k c b (by simp[Act.eval,Act.put]) N.out p (n-(k+1)) (c-(k+1)) a (by simp[Act.eval,Act.put]) C.out K.out L.out (by omega) P.out ?_;rw[<-B.out,<-hW.out])
 all_goals
  have D:k+(n-(k+1))=n-1:=by omega
  have d1:((n-1:Nat):Int)<=(n:Int):=by omega
  have d2:n-(n-1)=1:=by omega
  have d3:¬c=n-1:=by omega
  have d4:(0:Int)<=((n-1:Nat):Int):=by omega
  have d5:(n:Int)<=(c:Int):=by omega
  simp only[D];clear D;go_wp2;go_ret;have E:=R.out;have l:=S.out;have ac:=T.out;have F:(d.toList.take ((n-1)*3)).length=(n-1)*3:=by rw[gT,ng,E];omega
  refine⟨rfl,_,Ff i g _ _ 96 _ O.out,?_,?_,?_,?_⟩
  ·simp only[CL,mb,F,lz,ng,E,Hc];omega
  ·rw[Au F,B.out]
   have U:b.toList.take (k*3)=flat (es.take k):=by
    rw[vO es k (by omega),<-Q.out,List.take_take,xQ (by omega)]
   have V:(b.toList.take (k*3)++a).length=(n-1)*3:=by
    rw[mb,C.out,gT,ng,l];omega
   show List.take ((n-1)*3) (b.toList.take (k*3)++a++b.toList.drop (k*3+a.length))=_;rw[Au V,U,M.out,<-jv,List.eraseIdx_eq_take_drop_succ]
  ·refine⟨by rw[hW.out];rfl,by rw[hW.out];rfl,by rw[hW.out];rfl,by rw[hW.out];simp,fun x hx hne=>?_⟩
   have G:x≠g:=fun e=>hne (by rw[e]);rw[Aw i g x _ G,hW.out,Aw w.drew g x _ G];rfl
  ·rw[hW.out];simp
end Go.Proofs.YtlgidcmmgohagaaGreat
