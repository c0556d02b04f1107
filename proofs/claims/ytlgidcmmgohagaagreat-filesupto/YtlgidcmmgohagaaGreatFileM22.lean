/- What is proved here: Stat of a tree. -/
import Derived.Test.YtlgidcmmgohagaaGreatFileM21
import Derived.Test.YtlgidcmmgohagaaGreatFileM02
import Derived.Test.YtlgidcmmgohagaaGreatFileM04
import Derived.Test.YtlgidcmmgohagaaGreatFileM16
import Derived.Test.YtlgidcmmgohagaaGreatFileM14
import Derived.Test.YtlgidcmmgohagaaGreatFileM19
import Derived.Deep.RegionHeld3
import Derived.Test.YtlgidcmmgohagaaGreatFileM18
import Derived.Test.YtlgidcmmgohagaaGreatFileM20
import Derived.Shelf.Small.Bits
import Derived.Shelf.Small.Strs
import Derived.Shelf.Strconv.Itoa0
import Derived.Shelf.LaysM
import Derived.Shelf.Strconv.Clone
import Derived.Shelf.Strings.Search1
import Derived.Shelf.Strings.Search2
import Derived.Shelf.Strings.Cut
import Derived.Shelf.Strings.Shaped
import Derived.Shelf.SlGeneric
import Derived.Shelf.SlSortCmp.SmallK
import Derived.Ground.SlsfProg
import Derived.Test.YtlgidcmmgohagaaGreatProg
import Derived.Shelf.SlSortCmp.NoneTotal
import Derived.Maps.AppendAt
import Derived.Test.YtlgidcmmgohagaaGreatRows
import Derived.Deep.Slices
import Derived.Deep.Strs
import Derived.ChangeShapes
import Derived.WalkLawsBesides
import Derived.Test.YtlgidcmmgohagaaGreatFileM08
import Derived.Test.YtlgidcmmgohagaaGreatFileM13
import Derived.Test.YtlgidcmmgohagaaGreatFileM12
import Derived.Test.YtlgidcmmgohagaaGreatFileM11
namespace Go.Proofs.YtlgidcmmgohagaaGreat
open Go.RowKit Go.Sort Go.Shelf
set_option linter.unusedVariables false
set_option maxRecDepth 100000
set_option maxHeartbeats 16000000
section
variable {s i p:Nat}{B:WB}{ey:List Ob}
theorem JI(t sF:Nat)(a b c f g nm d:eD)(id er:Int)(R:World->Prop)(w:World)(ht:t<w.heap.size)(hid:id≠0)(c1:w.cell? (eI t 1)=some (hh sF))
  (hg:∀W,ik w W->gc 213 #[hh sF,eJ id] W fun e w'=>e=.returned (.tuple #[.string d,eJ er])/\R w'):
  gc 214 #[hh t,.agg (kq a b c f g),.agg #[.string nm,eJ 1,eJ id]] w fun j w'=>j=.returned (.tuple #[.string d,eJ er])/\R w':=by
 have h:ik w ((w.alloc (.cells (kq a b c f g) 147)).alloc (.cells #[.string nm,eJ 1,eJ id] 96)).drew:=gS (((lh _ _).alloc (kx _) _).alloc (by simp) _);have i:=hg _ h;have k:Hid _:=i;have m:(id==0)=false:=by simpa using hid
 clear hg i h;go_enter Tryz.func214,Tryz.ntmps214;go_wp2
 go_region_with(go_at_call 213;refine io k.out ?_;rintro e n ⟨rfl,l⟩)
 all_goals
  go_wp2;go_ret2;exact⟨rfl,l⟩
theorem Cg(t:Nat)(a b c f g nm d:eD)(id er:Int)(hd:d.size<=256)(R:World->Prop)(w:World)
  (i:gc 214 #[hh t,.agg (kq a b c f g),.agg #[.string nm,eJ 1,eJ id]] ((w.alloc (.cells (kq a b c f g) 147)).alloc (.cells #[.string nm,eJ 1,eJ id] 96)) fun h w'=>h=.returned (.tuple #[.string d,eJ er])/\R w'):
  gc 183 #[hh t,.agg (kq a b c f g),.agg #[.string nm,eJ 1,eJ id]] w fun h w'=>h=.returned (.tuple #[eJ (d.size:Int),eJ er])/\R w':=by
 have j:Hid _:=i;clear i;go_enter Tryz.func183,Tryz.ntmps183;go_wp2_with fail;refine io j.out ?_;rintro e l ⟨rfl,k⟩;go_wp2;go_ret2;exact⟨rfl,k⟩
theorem RI(t n:Nat)(b d f g h nm:eD)(id er:Int)(R:World->Prop)(w:World)
  (j:gc 187 #[hh t,.agg (kq b d f g h),.agg #[.string nm,eJ 2,eJ id]] ((w.alloc (.cells (kq b d f g h) 147)).alloc (.cells #[.string nm,eJ 2,eJ id] 96)) fun i w'=>∃a c,i=.returned (.tuple #[.slice a n c,eJ er])/\R w'):
  gc 183 #[hh t,.agg (kq b d f g h),.agg #[.string nm,eJ 2,eJ id]] w fun i w'=>i=.returned (.tuple #[eJ (n:Int),eJ er])/\R w':=by
 have k:Hid _:=j;clear j;go_enter Tryz.func183,Tryz.ntmps183;go_wp2_with fail;refine io k.out ?_;rintro e m ⟨a,c,rfl,l⟩;go_wp2;go_ret2;exact⟨rfl,l⟩
theorem RJ(t:Nat)(c d f g h a:eD)(k id sz er:Int)(R:World->Prop)(j:World->Prop)(w:World)
  (l:gc 136 #[hh t,.agg (kq c d f g h)] ((w.alloc (.cells (kq c d f g h) 147)).alloc (.cells #[eJ 0,eJ 0] 141)) fun e w'=>e=.returned (.tuple #[.agg #[.string a,eJ k,eJ id],eJ 0])/\ja w' (w.heap.size+1)/\(∀o,w'.cell? (eI w.heap.size o)=((w.alloc (.cells (kq c d f g h) 147)).alloc (.cells #[eJ 0,eJ 0] 141)).cell? (eI w.heap.size o))/\R w')
  (m:∀w',R w'->ja w' (w.heap.size+1)->gc 183 #[hh t,.agg (kq c d f g h),.agg #[.string a,eJ k,eJ id]] (w'.alloc (.cells #[.string a,eJ k,eJ id] 96)) fun e b=>e=.returned (.tuple #[eJ sz,eJ er])/\ja b (w.heap.size+1)/\(∀o,b.cell? (eI w'.heap.size o)=(w'.alloc (.cells #[.string a,eJ k,eJ id] 96)).cell? (eI w'.heap.size o))/\w'.heap.size<b.heap.size/\j b):
  gc 126 #[hh t,.agg (kq c d f g h)] w fun e w'=>e=.returned (.tuple #[.agg (if er=0 then #[eJ k,eJ sz]else #[eJ 0,eJ 0]),eJ er])/\∃b,j b/\b.grownBy w' (some (w.heap.size+1)):=by
 have n:Hid _:=l;have p:Hid _:=m;clear l m;go_enter Tryz.func126,Tryz.ntmps126;go_wp2_with fail;refine io n.out ?_;rintro e w3 ⟨rfl,i,y,q⟩;obtain⟨z,c0,c1,f0⟩:=i.cells;have A:w.heap.size<w3.heap.size:=by omega
 have hs:=p.out w3 q i;have r:Hid _:=hs;clear i q n p hs;go_wp2_with fail;refine io r.out ?_;rintro e b ⟨rfl,s,B,C,u⟩;obtain⟨D,d0,d1,g0⟩:=s.cells;have x:Hid _:=u;clear s u r;by_cases her:er=0
 ·subst her
  go_wp2;refine lF (v:=.tuple #[.agg #[eJ k,eJ sz],eJ 0]) (by simp[results,Tryz.results126,go_sem,d0,d1]) rfl ?_;exact⟨rfl,b,x.out,ol (ol (ui _ _))⟩
 ·have E:(er==0)=false:=by simpa using her
  have F:Hid _:=her;clear her;go_wp2;refine lF (v:=.tuple #[.agg #[eJ 0,eJ 0],eJ er]) (by simp[results,Tryz.results126,go_sem,d0,d1]) rfl ?_;exact⟨rfl,b,x.out,ol (ol (ui _ _))⟩
theorem MN{tg:eV}{w:World}{g:WG}{lim f:Nat}{d nm:eD}{c:FS}{er:Int}(h:eT tg w s i p B ey g lim)(hl:lim<1099511627776)(o:tP ey g.fl){q:eL}(hq:Good q)(hf:g.ft.of q=some f){x:Int×eD}(hx:g.fl f=some x)(r:ub ey g.fl g.fs f=(c,er,d)):
  gc 214 #[hh B.bt,.agg (fy q),.agg #[.string nm,eJ 1,eJ 0]] w fun t w'=>t=.returned (.tuple #[.string d,eJ er])/\jR s i p B ey tg w w' { g with fs:=c } (lim+1):=by
 have a:ik w ((w.alloc (.cells (fy q) 147)).alloc (.cells #[.string nm,eJ 1,eJ 0] 96)).drew:=gS (((lh _ _).alloc (kx _) _).alloc (by simp) _);have hlk:=h.wp.qG.aag hq a;rw[hf]at hlk;have b:=oq (h.below a) hl o hx;rw[r]at b;obtain⟨z,t7,t8⟩:=h.tN;obtain⟨j,k,l,m,n,u⟩:∃j k l m n,fy q=(kq j k l m n):=⟨_,_,_,_,_,rfl⟩;rw[u]at hlk a b ⊢;simp only[mq,qj,ptr]at hlk;have v:Hid _:=a;have y:Hid _:=b;clear h a b;go_enter Tryz.func214,Tryz.ntmps214;go_wp2
 go_region_with(go_at_call 181;refine io y.out ?_;rintro e A ⟨rfl,hD⟩)
 all_goals
  go_wp2;go_ret2;exact⟨rfl,hD.via v.out⟩
end


variable {ft:gA}
variable {ft:gA}

variable {ft:gA}
variable {ft:gA}
section
variable {s i p:Nat}{B:WB}{ey:List Ob}
end

theorem XZ{w:World}{b:Nat}{c:Array Value}{t:gi}{z:Nat×Nat}(h:w.heap[b]?=some (.cells c t z))(o:Nat):w.cell? (eI b o)=c[o]?:=by simp[World.cell?,h]

section
variable {s i p:Nat}{B:WB}{ey:List Ob}
end
abbrev comp (l:eL)(k:Nat):eD:=l.getD k ⟨#[]⟩
section
variable {s i p:Nat}{B:WB}{ey:List Ob}
theorem apart{q a:eL}{x y:eD}(h:x≠y)(h1:q++[x] <+: a):¬q++[y] <+: a:=by
 rintro⟨l,rfl⟩;obtain⟨b,h2⟩:=h1;rw[kC,kC]at h2
 have:=EW h2
 simp at this;exact h this.1
theorem RL{tg:eV}{w:World}{g:WG}{lim:Nat}{t:LT}(h:eT tg w s i p B ey g lim)(hl:lim+10<1099511627776)(hF:Flat ey t g.ft)(G:eU ey 5 t)(z:tP ey g.fl){q:eL}(hq:Good q){c:LT}(n:t.at ey q=some c)(nm:eD):
  gc 183 #[hh B.bt,.agg (fy q),.agg #[.string nm,eJ c.kind,eJ c.id]] w fun o w'=>o=.returned (.tuple #[eJ (RK ey g.fl g.fs c).2.2,eJ (RK ey g.fl g.fs c).2.1])/\jR s i p B ey tg w w' { g with fs:=(RK ey g.fl g.fs c).1 } (lim+1):=by
 have hS:=h.st.sound;obtain⟨_,b,_⟩:=py hS q G n;have j:∀k id:Int,ik w ((w.alloc (.cells (fy q) 147)).alloc (.cells #[.string nm,eJ k,eJ id] 96)):=fun k id=>((lh _ _).alloc (kx _) _).alloc (by simp) _;have A:∀{m:Nat} (c:LT),c.kind=2->eU ey m c->t.at ey q=some c->(c.id≠0->eM ey c.id=2)->RK ey g.fl g.fs c=((pu ey g.fs c).1,(pu ey g.fs c).2.1,((pu ey g.fs c).2.2.length:Int))->
   gc 183 #[hh B.bt,.agg (fy q),.agg #[.string nm,eJ 2,eJ c.id]] w fun o w'=>o=.returned (.tuple #[eJ (RK ey g.fl g.fs c).2.2,eJ (RK ey g.fl g.fs c).2.1])/\jR s i p B ey tg w w' { g with fs:=(RK ey g.fl g.fs c).1 } (lim+1):=by
  intro m c hk H I hid l;have J:mj ey (nm,2,c.id):=⟨.inr rfl,hid⟩;have C:=uk hS hF H I g.fs nm;rw[hk]at C;have D:=tG (h.below (j 2 c.id)) (by omega) hq J;rw[C]at D;rw[l];refine RI B.bt _ _ _ _ _ _ nm c.id _ (fun w'=>jR s i p B ey tg w w' { g with fs:=(pu ey g.fs c).1 } (lim+1)) w (D.mono ?_);rintro o w' ⟨v,E,eF,K,hW,L⟩;obtain⟨la,M,rfl⟩:=L.len;rw[nD]at E;exact⟨la,M,E,eF,li (j 2 c.id) K,hW⟩
 cases c with
 |file id=>
  rw[eU]at b;have hid:id≠0:=fun e=>by have:=(PH (a:=ey) (id:=id) (by rw[b];decide)).1;omega
  have N:B.bt<w.heap.size:=(nX.1 h.wp.tree.ht).1;have O:=fun W (r:ik w W)=>UC (h.below r) (by omega) b;have h1:=h.below (j 1 id);have c1:((w.alloc (.cells (fy q) 147)).alloc (.cells #[.string nm,eJ 1,eJ id] 96)).cell? (eI B.bt 1)=some (hh B.sF):=XZ h1.wp.tree.ht 1;have P:(if(g.fs.fM id).2=true then bytesOf ey id else hZ).size<=256:=by
   split
   ·exact h.st.Ce b
   ·decide
  have:=Cg B.bt _ _ _ _ _ nm (if(g.fs.fM id).2=true then bytesOf ey id else hZ) id (if(g.fs.fM id).2=true then 0 else 14) P (fun w'=>jR s i p B ey tg w w' { g with fs:=(g.fs.fM id).1 } (lim+1)) w (JI B.bt B.sF _ _ _ _ _ nm _ id _ _ _ (lO N (j 1 id).size) hid c1 (fun W r=>(O W (fx (j 1 id) r)).mono (fun e w' ⟨h1,eF,m,hW⟩=>⟨h1,eF,li (fx (j 1 id) r) m,hW⟩)))
  have l:RK ey g.fl g.fs (.file id)=if(g.fs.fM id).2 then((g.fs.fM id).1,0,((bytesOf ey id).size:Int)) else((g.fs.fM id).1,14,0):=rfl;rw[l];cases F:(g.fs.fM id).2 with
  |true=>rw[F]at this;exact this
  |false=>rw[F]at this;exact this
 |held f=>
  have KF:g.ft.of q=some f:=by rw[hF.of,n];rfl
  obtain⟨x,hx⟩:=h.wp.held q f KF;obtain⟨u,er,d,y⟩:∃u er d,ub ey g.fl g.fs f=(u,er,d):=⟨_,_,_,rfl⟩;have l:RK ey g.fl g.fs (.held f)=(u,er,(d.size:Int)):=by simp only[RK,y]
  rw[l];have Q:=uF h z y;exact Cg B.bt _ _ _ _ _ nm d 0 er Q _ w ((MN (nm:=nm) (h.below (j 1 0)) (by omega) z hq KF hx y).mono (fun e w' ⟨h1,h2⟩=>⟨h1,h2.via (j 1 0)⟩))
 |dir id=>exact A (.dir id) rfl b n (fun h0=>by rw[eU]at b;exact b.1) rfl
 |own es=>exact A (.own es) rfl b n (fun h0=>absurd rfl h0) rfl
theorem RM{tg:eV}{w:World}{g:WG}{lim:Nat}{t:LT}(h:eT tg w s i p B ey g lim)(hl:lim+100<1099511627776)(hF:Flat ey t g.ft)(x:eU ey 5 t)(F:tP ey g.fl){r:eL}(hq:Good r.reverse):
  gc 126 #[hh B.bt,.agg (fy r.reverse)] w fun e w'=>e=.returned (.tuple #[.agg #[eJ (jo ey g.fl t g.fs r).2.2.1,eJ (jo ey g.fl t g.fs r).2.2.2],eJ (jo ey g.fl t g.fs r).2.1])/\jR s i p B ey tg w w' { g with fs:=(jo ey g.fl t g.fs r).1 } (lim+20):=by
 have hi:=h.two;have hS:=h.st.sound;have j:=JH w r.reverse;have y:=MM w r.reverse;have sw:tg (w.heap.size+1)=(0,0):=h.st.fresh _ (by omega);have G:tg w.heap.size=(0,0):=h.st.fresh _ (by omega);have Q:r.length<=5:=by have:=hq.len;simpa using this
 have k:=tH (s:=s) (i:=i) (p:=p) (B:=B) (ey:=ey) r tg _ g lim (h.below j) (by omega) hq;obtain⟨z,A,H⟩:=qs hS hF x g.fs r;by_cases her:(il ey t g.fs r).2.1=0
 ·obtain⟨I,J⟩:=H her
  rw[z,A,I,her]at k;have q:jo ey g.fl t g.fs r=(if(RK ey g.fl (il ey t g.fs r).1 (il ey t g.fs r).2.2).2.1≠0 then((RK ey g.fl (il ey t g.fs r).1 (il ey t g.fs r).2.2).1,(RK ey g.fl (il ey t g.fs r).1 (il ey t g.fs r).2.2).2.1,0,0) else((RK ey g.fl (il ey t g.fs r).1 (il ey t g.fs r).2.2).1,0,(il ey t g.fs r).2.2.kind,(RK ey g.fl (il ey t g.fs r).1 (il ey t g.fs r).2.2).2.2)):=by
   unfold jo;simp only[her];rfl
  generalize (il ey t g.fs r).2.2=c at *;generalize (il ey t g.fs r).1=d at *;have hw:=RJ B.bt _ _ _ _ _ (r.headD hZ) c.kind c.id (RK ey g.fl d c).2.2 (RK ey g.fl d c).2.1 (fun w3=>∃l,eB (fK i) tg l ((w.alloc (.cells (fy r.reverse) 147)).alloc (.cells #[eJ 0,eJ 0] 141)) w3/\eT l w3 s i p B ey { g with fs:=d } (lim+5)/\l (w.heap.size+1)=(0,0)) (fun w3=>jR s i p B ey tg ((w.alloc (.cells (fy r.reverse) 147)).alloc (.cells #[eJ 0,eJ 0] 141)) w3 { g with fs:=(RK ey g.fl d c).1 } (lim+20)) w (k.mono ?_) ?_
  ·refine hw.mono ?_
   rintro e w' ⟨b,w3,hd,hg⟩;rw[q];by_cases f:(RK ey g.fl d c).2.1=0
   ·rw[fY (fun h=>h f)]
    rw[ie f,f]at b;exact⟨b,xy h j (by simp) hd hg⟩
   ·rw[ie f]
    rw[fY f]at b;exact⟨b,xy h j (by simp) hd hg⟩
  ·rintro e w' ⟨b,eF,m,hW⟩
   obtain⟨u,C⟩:=pQ (mP hi) sw m y;exact⟨b,u,fun o=>jP (a:=(eI w.heap.size o)) (m.block w.heap.size (by simp;omega) (by rw[G];exact mP hi)),eF,m,hW.mono (by omega),C⟩
  ·rintro w3 ⟨l,K,D,L⟩ v
   have E:ik w3 (w3.alloc (.cells #[.string (r.headD hZ),eJ c.kind,eJ c.id] 96)):=(lh _ _).alloc (kx _) _;refine(RL (g:={ g with fs:=d }) (D.below E) (by omega) hF x F hq J (r.headD hZ)).mono ?_;rintro e R ⟨b,M,n,N⟩;have O:ja (w3.alloc (.cells #[.string (r.headD hZ),eJ c.kind,eJ c.id] 96)) (w.heap.size+1):=by
    unfold ja at v ⊢;rw[mA _ _ _ (nX.1 v).1];exact v
   refine⟨b,(pQ (mP hi) L n O).1,fun o=>jP (a:=(eI w3.heap.size o)) (n.block w3.heap.size (by simp) (by rw[D.st.fresh _ (kx _)];exact mP hi)),lO (by simp) n.size,M,K.trans (li E n),N.mono (by omega)⟩
 ·have q:jo ey g.fl t g.fs r=((il ey t g.fs r).1,(il ey t g.fs r).2.1,0,0):=by
   unfold jo;simp only[ie her]
  rw[q];rw[z,A]at k;have P:((il ey t g.fs r).2.1==0)=false:=by simpa using her
  have hw:=RG B.bt _ _ _ _ _ (findF ey g.ft g.fs r).2.2.1 (findF ey g.ft g.fs r).2.2.2.1 (findF ey g.ft g.fs r).2.2.2.2 (il ey t g.fs r).2.1 (fun w3=>jR s i p B ey tg ((w.alloc (.cells (fy r.reverse) 147)).alloc (.cells #[eJ 0,eJ 0] 141)) w3 { g with fs:=(il ey t g.fs r).1 } (lim+20)) w P (k.mono ?_)
  ·refine hw.mono ?_
   rintro e w' ⟨b,w3,hd,hg⟩;exact⟨b,xy h j (by simp) hd hg⟩
  ·rintro e w' ⟨b,eF,m,hW⟩
   obtain⟨u,C⟩:=pQ (mP hi) sw m y;exact⟨b,u,eF,m,hW.mono (by omega)⟩
theorem esc{tg:eV}{w:World}{g:WG}{lim:Nat}{t:LT}(h:gO tg w s i p B ey g lim t)(hl:lim+1000<1099511627776){r:eL}(c:Good r.reverse):
  gc 67 #[hh B.wb,.string (lf r.reverse)] w fun e w'=>e=.returned (.tuple #[.agg #[eJ (jo ey g.fl t g.fs r).2.2.1,eJ (jo ey g.fl t g.fs r).2.2.2],eJ (jo ey g.fl t g.fs r).2.1])/\OG s i p B ey tg w w' (lim+400) (yG g (jo ey g.fl t g.fs r).1 t):=by
 obtain⟨f,c0⟩:=adc h.inv;have hi:=h.inv.two;have sw:tg w.heap.size=(0,0):=h.inv.st.fresh _ (kx _);have hw:=XW B.wb B.bt r.reverse c (jo ey g.fl t g.fs r).2.2.1 (jo ey g.fl t g.fs r).2.2.2 (jo ey g.fl t g.fs r).2.1 (fun a=>∃eF,eB (fK i) tg eF w a/\eT eF a s i p B ey { g with fs:=(jo ey g.fl t g.fs r).1 } (lim+20)/\eF w.heap.size=(0,0)) w f.1 c0 (fun W d j=>(RM (h.inv.below d) (by omega) h.flat h.ok h.fl c).mono ?_)
 ·refine hw.mono ?_
  rintro e w' ⟨b,a,⟨eF,m,hW,ht⟩,hg⟩;obtain⟨k,l,n⟩:=RH hi m hW ht hg;exact⟨b,k,_,t,l.mono (fun t ht=>fK.mine ht),⟨n.mono (by omega),h.flat,h.ok,h.fl⟩,rfl,rfl,rfl,rfl,rfl⟩
 ·rintro e w' ⟨b,eF,m,hW⟩
  obtain⟨h1,h2⟩:=pQ (mP hi) sw m j;exact⟨b,h1,eF,li d m,hW,h2⟩
end

section
variable {s i p:Nat}{B:WB}{ey:List Ob}
end
def big (ey:List Ob):Nat->LT->Nat
 |0,_=>1
 |n+1,t=>1+(((kids ey t).getD []).map fun x=>big ey n x.2).sum
theorem Gq{ey:List Ob}{t:LT}{fs:FS}{r:eL}(h:(lL ey t fs r).2.1=0):∃d,t.at ey r.reverse=some d/\kids ey d=some (lL ey t fs r).2.2:=by
 exact(nR h).1
def fA (ey:List Ob)(t:LT):Prop:=∀x y b,t.at ey x=some (.held b)->t.at ey y=some (.held b)->x=y
theorem MO{ey:List Ob}{t d:LT}{q:eL}{ks:Kids}(a:t.at ey q=some d)(hk:kids ey d=some ks)(m:eD)(r:eL):t.at ey (q++m::r)=(ip ks m).bind fun c=>c.at ey r:=by
 rw[kB,a,qr,kh,hk,qr]
theorem yH{ey:List Ob}{t d:LT}{q:eL}{ks:Kids}{n:eD}(hr:eP ks)(a:t.at ey q=some d)(hk:kids ey d=some ks)(ht:iv ks n=true){x:eL}{b:Nat}(h:(rb ey (fun ks=>np ks n) q t).at ey x=some (.held b)):t.at ey x=some (.held b)/\¬q++[n] <+: x:=by
 rcases Ij _ a hk h with⟨m,r,rfl,h1⟩|⟨h1,h2⟩
 ·rw[jD hr ht]at h1
  by_cases e:m=n
  ·rw[ie e]at h1;simp at h1
  ·rw[fY e]at h1
   refine⟨by rw[MO a hk];exact h1,?_⟩;rintro⟨l,hl⟩;rw[kC]at hl
   have:=EW hl
   simp at this;exact e this.1.symm
 ·exact⟨h2,fun hp=>h1 ((nG _ _).trans hp)⟩
theorem JJ{ey:List Ob}{t d c:LT}{q:eL}{ks:Kids}{n:eD}(hr:eP ks)(a:t.at ey q=some d)(hk:kids ey d=some ks){x:eL}{b:Nat}(h:(rb ey (fun ks=>sf ks n c) q t).at ey x=some (.held b)):(∃r,x=q++n::r/\c.at ey r=some (.held b))\/(t.at ey x=some (.held b)/\¬q++[n] <+: x):=by
 rcases Ij _ a hk h with⟨m,r,rfl,h1⟩|⟨h1,h2⟩
 ·rw[sZ hr]at h1
  by_cases e:m=n
  ·rw[ie e,qr]at h1
   subst e;exact .inl ⟨r,rfl,h1⟩
  ·rw[fY e]at h1
   refine .inr ⟨by rw[MO a hk];exact h1,?_⟩;rintro⟨l,hl⟩;rw[kC]at hl
   have:=EW hl
   simp at this;exact e this.1.symm
 ·exact .inr ⟨h2,fun hp=>h1 ((nG _ _).trans hp)⟩
theorem Gr{ey:List Ob}{t d c:LT}{q:eL}{ks:Kids}{n:eD}(hi:fA ey t)(hr:eP ks)(e:t.at ey q=some d)(hk:kids ey d=some ks)(hc:fA ey c)(hf:∀r b y,c.at ey r=some (.held b)->t.at ey y=some (.held b)->q++[n] <+: y):fA ey (rb ey (fun ks=>sf ks n c) q t):=by
 intro x y b hx g;rcases JJ hr e hk hx with⟨r,rfl,h1⟩|⟨h1,h2⟩<;>rcases JJ hr e hk g with⟨f,rfl,a⟩|⟨a,h⟩
 ·rw[hc r f b h1 a]
 ·exact absurd (hf r b y h1 a) h
 ·exact absurd (hf f b x a h1) h2
 ·exact hi x y b h1 a
theorem JK{ey:List Ob}{t d:LT}{q:eL}{ks:Kids}{n:eD}(hi:fA ey t)(hr:eP ks)(a:t.at ey q=some d)(hk:kids ey d=some ks)(ht:iv ks n=true):fA ey (rb ey (fun ks=>np ks n) q t):=fun x y b hx c=>hi x y b (yH hr a hk ht hx).1 (yH hr a hk ht c).1
theorem JL(ey:List Ob)(r:eL)(b:Nat):(LT.own []).at ey r≠some (.held b):=by
 cases r with
 |nil=>rw[mr];intro h;cases h
 |cons m r=>rw[kh];simp[kids,ip]
theorem RN{ey:List Ob}(hS:Sound ey){t:LT}(c:eU ey 5 t)(hi:fA ey t)(fs:FS)(n:eD)(r:eL):fA ey (gG ey t fs (n::r)).2.2:=by
 unfold gG;simp only;split
 ·exact hi
 ·rename_i h0
  split
  ·exact hi
  ·split
   ·exact hi
   ·obtain⟨d,a,hk⟩:=Gq (lD.1 h0)
    obtain⟨_,hd,_⟩:=py hS _ c a;exact Gr hi (lj hS hd hk).1 a hk (fun x y b hx=>absurd hx (JL ey x b)) (fun r b y h=>absurd h (JL ey r b))
theorem MP{ey:List Ob}(hS:Sound ey){t:LT}(b:eU ey 5 t)(hi:fA ey t)(fs:FS)(n:eD)(r:eL):fA ey (yn ey t fs (n::r)).2.2:=by
 unfold yn;simp only;split
 ·exact hi
 ·rename_i hf
  split
  ·exact hi
  ·obtain⟨a,_,_,d,ks,h1,h2,h3⟩:=xA (ey:=ey) (t:=t) (fs:=fs) (n:=n) (r:=r) (fs':=(il ey t fs (n::r)).1) (c:=(il ey t fs (n::r)).2.2) (by rw[<-lD.1 hf])
   obtain⟨_,hd,_⟩:=py hS _ b h1;have hr:=(lj hS hd h2).1;exact JK hi hr h1 h2 (by rw[<-oY hr,h3];rfl)
theorem MQ{ey:List Ob}(hS:Sound ey){t:LT}(j:eU ey 5 t)(hi:fA ey t)(fs:FS)(n m:eD)(r q:eL):fA ey (xc ey t fs (n::r) (m::q)).2.2:=by
 unfold xc;simp only;split
 ·exact hi
 ·rename_i hf
  split
  ·exact hi
  ·rename_i qd
   split
   ·exact hi
   ·rename_i hlk
    split
    ·exact hi
    ·split
     ·exact hi
     ·obtain⟨a,_,_,d,ks,h1,h2,h3⟩:=xA (ey:=ey) (t:=t) (fs:=fs) (n:=n) (r:=r) (fs':=(il ey t fs (n::r)).1) (c:=(il ey t fs (n::r)).2.2) (by rw[<-lD.1 hf])
      generalize (il ey t fs (n::r)).2.2=c at a h3 ⊢;obtain⟨_,hd,_⟩:=py hS _ j h1;have hr:=(lj hS hd h2).1;have f:iv ks n=true:=by rw[<-oY hr,h3];rfl
      have o:t.at ey (r.reverse++[n])=some c:=(by rw[MO h1 h2,h3,qr,mr]);have g:∀x b,c.at ey x=some (.held b)->t.at ey ((r.reverse++[n])++x)=some (.held b):=fun x b hx=>by rw[kB,o,qr];exact hx
      have p:(lL ey t (il ey t fs (n::r)).1 q).2.1=0:=lD.1 (fun h=>hlk (.inl h));obtain⟨B,s,u⟩:=Gq p;have Ik:¬(r.reverse++[n]) <+: q.reverse:=by
       intro h;refine qd ⟨?_,fun e=>hlk (.inr e)⟩;rw[qh,qh];exact h.trans (nG _ _)
      obtain⟨d1,C,k,l,_⟩:=Ba hr h1 h2 f s u Ik;have v:=wT hS j h1 h2 n;obtain⟨_,w,_⟩:=py hS _ v k;refine Gr (JK hi hr h1 h2 f) (lj hS w l).1 k l (fun x y b hx i=>?_) (fun x b y hx i=>?_)
      ·exact EW (hi _ _ b (g x b hx) (g y b i))
      ·obtain⟨z,A⟩:=yH hr h1 h2 f i
       have:=hi _ _ b (g x b hx) z
       exact absurd ⟨x,this⟩ A
theorem Ya(f:Fn)(a:Array Value)(w:World):gc 114 #[.func f a #[]] w fun e w'=>e=.returned (.pointer (some (eI (w.heap.size+1) 0)))/\w'=(w.alloc (.map #[] 0)).alloc (.cells #[.func f a #[],.map (some w.heap.size)] 267):=by
 have b:=@run_makeMap Tryz.prog;go_enter Tryz.func114,Tryz.ntmps114;go_wp2;go_ret;exact⟨rfl,rfl⟩
theorem Yb(f:Fn)(a:Array Value)(w:World):gc 116 #[.func f a #[]] w fun e w'=>e=.returned (.pointer (some (eI (w.heap.size+1) 0)))/\w'=(w.alloc (.map #[] 0)).alloc (.cells #[.func f a #[],.map (some w.heap.size)] 271):=by
 have b:=@run_makeMap Tryz.prog;go_enter Tryz.func116,Tryz.ntmps116;go_wp2;go_ret;exact⟨rfl,rfl⟩
def rL (w:World)(p:Nat)(root:Int):World:=((((((w.alloc (.map #[] 0)).alloc (.cells #[.func (.func 115) #[ptr p] #[],.map (some w.heap.size)] 267)).alloc (.map #[] 0)).alloc (.cells #[.func (.func 117) #[ptr p] #[],.map (some (w.heap.size+2))] 271)).alloc (.map #[] 0)).alloc (.map #[] 0)).alloc (.cells #[ptr p,ptr (w.heap.size+1),ptr (w.heap.size+3),.int .i64 root,.string ⟨#[]⟩,.int .i64 2,.int .i64 root,.map (some (w.heap.size+4)),.map (some (w.heap.size+5))] 164)
theorem Vr(p:Nat)(root:Int)(w:World):gc 62 #[hh p,eJ root] w fun e w'=>e=.returned (.pointer (some (eI (w.heap.size+6) 0)))/\w'=rL w p root:=by
 have h1:=fun a W=>Ya (.func 115) a W;have h2:=fun a W=>Yb (.func 117) a W;have c:=@run_makeMap Tryz.prog;go_enter Tryz.func62,Tryz.ntmps62;go_wp2_with(first
  |(go_at_call 114;refine io (h1 _ _) ?_;rintro e b ⟨rfl,rfl⟩)
  |(go_at_call 116;refine io (h2 _ _) ?_;rintro e b ⟨rfl,rfl⟩))
 go_ret;exact⟨rfl,rfl⟩
def ny (w:World)(p:Nat)(root:Int):World:=(rL w p root).alloc (.cells #[ptr (w.heap.size+6),.pointer none,.pointer none,.pointer none,.pointer none,.pointer none,.pointer none,.pointer none,.pointer none] 91)
theorem Dp(s p:Nat)(id:Int)(w:World)(hs:s<w.heap.size)(c0:w.cell? (eI s 0)=some (hh p))(hk:gc 61 #[hh p,eJ id] w (pB (eJ 2) w)):
  gc 27 #[hh s,eJ id] w fun e w'=>∃a,ik w a/\e=.returned (.tuple #[.pointer (some (eI (a.heap.size+7) 0)),eJ 0])/\w'=ny a p id:=by
 have Vs:=fun W=>Vr p id W;have c:∀W,(rL W p id).heap.size=W.heap.size+7:=fun W=>by unfold rL;simp
 go_enter Tryz.func27,Tryz.ntmps27;go_wp2_with(first
  |(go_at_call 61;refine hk.mono ?_;rintro e a ⟨rfl,b⟩;have d0:=((ii b).1 s 0 hs).trans c0;have d:=lO hs b.size)
  |(go_at_call 62;refine io (Vs _) ?_;rintro e f ⟨rfl,rfl⟩))
 go_ret2;exact⟨a,b,rfl,rfl⟩
def wsB (n:Nat):WB:=⟨n+7,n+6,n+1,n+3,n,n+2,n+4,n+5⟩
def gH (tg:eV)(n i:Nat):eV:=fun k=>if k<n then tg k else if k=n then(i,2)else if k=n+1 then(i,1)else if k=n+2 then(i,3)else if k=n+3 then(i,1)else if k=n+4 then(i,4)else if k=n+5 then(i,5)else if k=n+6 then(i,1)else if k=n+7 then(i,0) else(0,0)
theorem MR(w:World)(p:Nat)(id:Int):(ny w p id).heap.size=w.heap.size+8:=by unfold ny rL;simp
theorem JM(w:World)(p:Nat)(id:Int):ik w (ny w p id):=by
 unfold ny rL;exact(((((((((lh w.heap.size w).alloc (kx _) _).alloc (by simp) _).alloc (by simp;omega) _).alloc (by simp;omega) _).alloc (by simp;omega) _).alloc (by simp;omega) _).alloc (by simp;omega) _).alloc (by simp;omega) _)
theorem MS(w:World)(p:Nat)(id:Int):
  (ny w p id).heap[w.heap.size]?=some (.map #[] 0)/\(ny w p id).heap[w.heap.size+1]?=some (.cells #[.func (.func 115) #[ptr p] #[],.map (some w.heap.size)] 267 (0,0))/\(ny w p id).heap[w.heap.size+2]?=some (.map #[] 0)/\(ny w p id).heap[w.heap.size+3]?=some (.cells #[.func (.func 117) #[ptr p] #[],.map (some (w.heap.size+2))] 271 (0,0))/\(ny w p id).heap[w.heap.size+4]?=some (.map #[] 0)/\(ny w p id).heap[w.heap.size+5]?=some (.map #[] 0)/\
  (ny w p id).heap[w.heap.size+6]?=some (.cells #[ptr p,ptr (w.heap.size+1),ptr (w.heap.size+3),eJ id,.string hZ,eJ 2,eJ id,.map (some (w.heap.size+4)),.map (some (w.heap.size+5))] 164 (0,0))/\(ny w p id).heap[w.heap.size+7]?=some (.cells #[ptr (w.heap.size+6),.pointer none,.pointer none,.pointer none,.pointer none,.pointer none,.pointer none,.pointer none,.pointer none] 91 (0,0)):=by
 unfold ny rL World.alloc;simp only[cpu,Array.size_push];refine⟨?_,?_,?_,?_,?_,?_,?_,?_⟩
 ·rw[fY (by omega),fY (by omega),fY (by omega),fY (by omega),fY (by omega),fY (by omega),fY (by omega),ie trivial]
 all_goals simp
def wg0 (id:Int)(got:List Int):WG:=⟨id,⟨id,fun _=>none,fun _=>none⟩,⟨got,false,fun _=>false,fun _=>false⟩,fun _=>none,fun _=>none⟩
section
variable {s i p:Nat}{ey:List Ob}
theorem atR{tg:eV}{w:World}{got:List Int}{lim:Nat}(h:gq tg w s p ey got false lim)(hi:2<=i){id:Int}(hk:eM ey id=2):
  eB (fun _=>False) tg (gH tg w.heap.size i) w (ny w p id)/\eT (gH tg w.heap.size i) (ny w p id) s i p (wsB w.heap.size) ey (wg0 id got) lim:=by
 have a:=JM w p id;obtain⟨c,e,g,j,n,o,t,u⟩:=MS w p id;have ht:∀k,k<w.heap.size->gH tg w.heap.size i k=tg k:=fun k hk=>by unfold gH;rw[ie hk]
 have m:eB (fun _=>False) tg (gH tg w.heap.size i) w (ny w p id):=⟨a.os,a.tape,a.output,a.size,ht,fun k hk _=>a.block k hk,fun hf k hk=>by
  rw[MR]at hk;unfold gH;rw[fY (by omega),fY (by omega),fY (by omega),fY (by omega),fY (by omega),fY (by omega),fY (by omega),fY (by omega),fY (by omega)]⟩
 have t0:gH tg w.heap.size i w.heap.size=(i,2):=by unfold gH;simp
 have t1:gH tg w.heap.size i (w.heap.size+1)=(i,1):=by unfold gH;rw[fY (by omega)];simp
 have t2:gH tg w.heap.size i (w.heap.size+2)=(i,3):=by unfold gH;rw[fY (by omega)];simp
 have t3:gH tg w.heap.size i (w.heap.size+3)=(i,1):=by unfold gH;rw[fY (by omega)];simp
 have t4:gH tg w.heap.size i (w.heap.size+4)=(i,4):=by unfold gH;rw[fY (by omega)];simp
 have t5:gH tg w.heap.size i (w.heap.size+5)=(i,5):=by unfold gH;rw[fY (by omega)];simp
 have t6:gH tg w.heap.size i (w.heap.size+6)=(i,1):=by unfold gH;rw[fY (by omega)];simp
 have t7:gH tg w.heap.size i (w.heap.size+7)=(i,0):=by unfold gH;rw[fY (by omega)];simp
 refine⟨m,hi,h.moves m (fun x=>x) (fun x=>x),⟨⟨t6,t1,t3,t,e,j⟩,⟨t0,0,fun _=>none,tk _,Ad c,fun id=>rfl,fun id hx=>by cases hx⟩,⟨t2,0,fun _=>none,fun _=>.slice none 0 0,tk _,Ad g,fun id=>rfl,fun id hx=>by cases hx⟩,⟨t4,⟨0,tk _,fun _=>none,Ad n,fun _ _=>rfl,fun kl _ hx=>absurd rfl hx⟩,fun q f hx=>by cases hx⟩,⟨fun _=>.slice none 0 0,t5,⟨0,tk _,fun _=>none,Ad o,fun _ _=>rfl,fun kl _ hx=>absurd rfl hx⟩,fun q es hx=>(by cases hx),fun q es hx=>(by cases hx),fun q r es fs v hx=>(by cases hx)⟩,fun f id d hx=>(by cases hx),fun q f hx=>(by cases hx),⟨t7,u,fun k hk=>rfl,fun k b f fg pl hx=>(by cases hx),fun k l x y hx=>(by cases hx)⟩,⟨fun _=>hk,fun q es hx=>(by cases hx)⟩⟩⟩
theorem qM(ey:List Ob):∀(q:eL) (id:Int),vu ((LT.dir id).at ey q)=none/\Lp ((LT.dir id).at ey q)=none
 |[],id=>by rw[mr];exact⟨rfl,rfl⟩
 |n::r,id=>by
  rw[kh]
  show vu ((ip ((eZ ey id).map iF) n).bind _)=none/\Lp ((ip ((eZ ey id).map iF) n).bind _)=none
  cases hp:ip ((eZ ey id).map iF) n with
  |none=>exact⟨rfl,rfl⟩
  |some c=>
   obtain⟨e,_,a⟩:=ij.1 (oI hp)
   have hc:c=ltOf e:=by unfold iF at a;exact(Prod.mk.inj a).2.symm
   rw[qr,hc]
   unfold ltOf
   split
   ·exact qM ey r _
   ·cases r with
    |nil=>rw[mr];exact⟨rfl,rfl⟩
    |cons m r=>rw[kh];exact⟨rfl,rfl⟩
theorem Vt(id:Int)(got:List Int):Flat ey (.dir id) (wg0 id got).ft:=⟨rfl,rfl,fun q=>(qM ey q id).1.symm,fun q=>(qM ey q id).2.symm⟩
end

theorem Za{i:Nat}(hi:2<=i):¬Mine i (0,0):=by
 rintro(h|h)
 ·cases h
 ·simp only at h;omega
theorem RO{tg:eV}{w:World}{s p i:Nat}{ey:List Ob}{got:List Int}{lim:Nat}(h:gq tg w s p ey got false lim)(hi:2<=i){id:Int}(c:eU ey 5 (.dir id)):
  gc 27 #[hh s,eJ id] w fun e w'=>∃B:WB,e=.returned (.tuple #[hh B.wb,eJ 0])/\∃eF,eB (fun _=>False) tg eF w w'/\gO eF w' s i p B ey (wg0 id got) lim (.dir id):=by
 have hk:eM ey id=2:=by rw[eU]at c;exact c.1
 have h0:=h;obtain⟨sw,ft,l,b,n⟩:=h;obtain⟨a,cap,bf,bd,Df,Dd,b⟩:=b;have hs:s<w.heap.size:=(nX.1 b.hs).1;have oV:=qm p a ey.length cap bf bd ey id w b.iI;rw[hk]at oV;refine(Dp s p id w hs b.c0 oV).mono ?_;rintro e w' ⟨g,j,rfl,rfl⟩;have k:gq tg g s p ey got false lim:=h0.moves (P:=fun _=>False) (eB.eE j) (fun h=>h) (fun h=>h);obtain⟨m,hW⟩:=atR k (i:=i) hi hk;exact⟨wsB g.heap.size,rfl,_,(eB.eE j).trans m,⟨hW,Vt id got,c,(fun f id d hx=>by cases hx)⟩⟩

def ki (a:List Ob)(fl:Nat->Option (Int×eD)):Hd:=fun f=>match fl f with
 |none=>⟨#[]⟩
 |some (id,d)=>if id≠0 then bytesOf a id else d

end Go.Proofs.YtlgidcmmgohagaaGreat
namespace Go.Proofs
open Go.Shelf
end Go.Proofs
namespace Go.Proofs.YtlgidcmmgohagaaGreat
open Go.RowKit Go.Sort Go.Shelf
set_option linter.unusedVariables false
set_option maxRecDepth 100000
set_option maxHeartbeats 16000000


section
variable {s i p:Nat}{B:WB}{ey:List Ob}
end
theorem Vu{ey:List Ob}(a:Exact ey):∀(n:Nat) (c:LT),eU ey n c->ig ey n c<=n
 |n,.file id,h=>by
  have hk:eM ey id=1:=by cases n<;>simpa [eU]using h
  have:ig ey n (.file id)=fB ey id:=by cases n<;>rfl
  rw[this,a.low id hk];omega
 |n,.held f,_=>by
  have:ig ey n (.held f)=0:=by cases n<;>rfl
  rw[this];omega
 |n,.dir id,h=>by
  have hk:fB ey id<=n:=by cases n<;>(rw[eU]at h;exact h.2)
  have:ig ey n (.dir id)=fB ey id:=by cases n<;>rfl
  rw[this];exact hk
 |0,.own es,_=>by rw[ig];omega
 |n+1,.own es,h=>by
  rw[eU]at h
  rw[ig,Fr]
  refine⟨by omega,fun x hx=>?_⟩
  have:=Vu a n x.2 (h.2.2 x hx).2
  omega
def cs (n:Nat)(ks:Kids):Nat:=(ks.map fun x=>day n x.2).sum

section
variable {s i p:Nat}{B:WB}{ey:List Ob}{tg0:eV}{w0:World}{base:Int}
end
abbrev Gs:=eD×Int×eD
def ndD:Nd->eD
 |.dir=>⟨#[]⟩
 |.file d=>d
def nT (a:List Ob)(fc:Hd):Nat->eL->LT->List Gs
 |0,_,_=>[]
 |n+1,q,c=>((kids a c).getD []).flatMap fun x=>(lf (q++[x.1]),x.2.kind,ndD (nd a fc x.2))::(if x.2.kind=2 then nT a fc n (q++[x.1]) x.2 else [])
def OH (a:List Ob)(fc:Hd)(n:Nat)(q:eL)(x:eD×LT):List Gs:=(lf (q++[x.1]),x.2.kind,ndD (nd a fc x.2))::(if x.2.kind=2 then nT a fc n (q++[x.1]) x.2 else [])
theorem JN{a:List Ob}{fc:Hd}{n:Nat}{q:eL}{c:LT}{ks:Kids}(hk:kids a c=some ks):nT a fc (n+1) q c=ks.flatMap (OH a fc n q):=by rw[nT,hk];rfl
theorem qN{a:List Ob}{c:LT}(h:c.kind=2):∃ks,kids a c=some ks:=by
 cases c with
 |file i=>cases h
 |held f=>cases h
 |dir i=>exact⟨_,rfl⟩
 |own es=>exact⟨_,rfl⟩
theorem mQ{a:List Ob}{c:LT}(h:c.kind≠2):kids a c=none:=by
 cases c with
 |file i=>rfl
 |held f=>rfl
 |dir i=>exact absurd rfl h
 |own es=>exact absurd rfl h
def Ch:Nat->Nat
 |0=>0
 |n+1=>16*(1+Ch n)
theorem zC{a c:Type}(f:a->List c)(b:Nat):∀(l:List a),(∀x∈l,(f x).length<=b)->(l.flatMap f).length<=l.length*b
 |[],_=>by simp
 |x::r,h=>by
  rw[col,mb,jA,Nat.succ_mul]
  have h1:=h x (jS ..)
  have h2:=zC f b r (fun y d=>h y (pn _ d))
  omega
theorem xI{a:List Ob}{fc:Hd}(b:Sound a):∀(n:Nat) (q:eL) (t:LT),eU a n t->(nT a fc n q t).length<=Ch n
 |0,q,t,_=>by rw[nT];simp[Ch]
 |n+1,q,t,ht=>by
  by_cases hk:t.kind=2
  ·obtain⟨ks,c⟩:=qN (a:=a) hk
   obtain⟨f,iE,hk2⟩:=lj b ht c
   rw[JN c,Ch]
   refine wl (zC _ (1+Ch n) ks (fun x hx=>?_)) (Nat.mul_le_mul_right _ iE)
   unfold OH
   rw[jA]
   obtain⟨m,e,o⟩:=(hk2 x hx).2
   have d:m=n:=by omega
   subst d
   split
   ·have:=xI (fc:=fc) b m (q++[x.1]) x.2 o
    omega
   ·simp
  ·rw[nT,mQ hk];simp
theorem Yc:(Tryz.prog.info? 9).map (fun i=>(i.zero,i.size,i.bytes))=some (some (.string ByteArray.empty),1,16):=by kernel_rfl
structure tQ (w:World)(nb:Nat)(es:List eN)(k:Nat):Prop where
 lt:nb<w.heap.size
 any:∀j,j<es.length->∃x,w.cell? ⟨nb,j,none⟩=some (.string x)
 free:∀o,w.frozen? ⟨nb,o,none⟩=false
 nms:∀j (hj:j<es.length),j<k->w.cell? ⟨nb,j,none⟩=some (.string es[j].1)
 blk:∃cs:Array Value,w.heap[nb]?=some (.cells cs 9 (0,0))/\cs.size=es.length
theorem JO(n:Nat)(hn:n<=16)(W:World):∃cs:Array Value,(Instr.makeSlice 131 (eJ (n:Int)) (eJ (n:Int))).run Tryz.prog W=.ok (.slice (some (eI W.heap.size 0)) n n) (W.alloc (.cells cs 9))/\cs.size=n/\∀j,j<n->∃x,cs[j]?=some (.string x):=by
 obtain⟨b,hi,c,a,d⟩:=iq Yc;refine⟨_,run_make W 131 9 b _ Wx hi c .i64 .i64 n n (by omega) (by omega) (by rw[d];omega) (by omega),?_,?_⟩
 ·simp[madeCells,a]
 ·intro j hj
  simp[madeCells,a,hj,Value.cells,Nat.mod_one]
theorem OI{w:World}{cs:Array Value}{es:List eN}(hs:cs.size=es.length)(hx:∀j,j<es.length->∃x,cs[j]?=some (.string x)):tQ (w.alloc (.cells cs 9)) w.heap.size es 0:=by
 have a:=su w (.cells cs 9);refine⟨by simp,fun j hj=>?_,fun o=>by simp only[World.frozen?,a];simp,fun j _ hj=>(by omega),⟨cs,a,hs⟩⟩;obtain⟨x,hx⟩:=hx j hj;exact⟨x,by simp only[World.cell?,a];exact hx⟩
theorem RP{w:World}{nb k:Nat}{es:List eN}(h:tQ w nb es k)(o:Obj):tQ (w.alloc o) nb es k:=by
 have hc:∀j,(w.alloc o).cell? (eI nb j)=w.cell? (eI nb j):=fun j=>by unfold World.cell?;rw[mA _ _ _ h.lt]
 have hf:∀j,(w.alloc o).frozen? (eI nb j)=w.frozen? (eI nb j):=fun j=>by unfold World.frozen?;rw[mA _ _ _ h.lt]
 exact⟨by simp;exact Nat.lt_succ_of_lt h.lt,fun j hj=>by rw[hc];exact h.any j hj,fun a=>by rw[hf];exact h.free a,fun j hj hk=>(by rw[hc];exact h.nms j hj hk),by obtain⟨cs,h1,h2⟩:=h.blk;exact⟨cs,(mA _ _ _ h.lt).trans h1,h2⟩⟩
theorem Yd{w:World}{nb k:Nat}{es:List eN}(h:tQ w nb es k)(hk:k<es.length):tQ (w.setCell (eI nb k) (.string es[k].1)) nb es (k+1):=by
 obtain⟨x,hx⟩:=h.any k hk;have a:(w.setCell (eI nb k) (.string es[k].1)).cell? (eI nb k)=some (.string es[k].1):=World.cell?_setCell_same _ _ _ hx;have b:∀j,j≠k->(w.setCell (eI nb k) (.string es[k].1)).cell? (eI nb j)=w.cell? (eI nb j):=fun j hj=>World.cell?_setCell_other _ _ _ _ (fun e=>hj (by injection e with _ e2 _;exact e2.symm));refine⟨by simpa using h.lt,fun j hj=>?_,fun o=>by rw[World.frozen?_setCell];exact h.free o,fun j hj c=>?_,by obtain⟨cs,h1,h2⟩:=h.blk;exact⟨cs.setIfInBounds k (.string es[k].1),by simp[World.setCell,Am,h1],by simpa using h2⟩⟩
 ·by_cases e:j=k
  ·subst e;exact⟨_,a⟩
  ·rw[b j e];exact h.any j hj
 ·by_cases e:j=k
  ·subst e;exact a
  ·rw[b j e];exact h.nms j hj (by omega)
theorem MT(t:Nat)(g h l m n:eD)(es:List eN)(R:World->Prop)(w:World)(hn:es.length<=16)
  (q:∀W,ik w W->gc 131 #[hh t,.agg (kq g h l m n)] W fun e w'=>∃a cap,e=.returned (.tuple #[.slice (some (eI a 0)) es.length cap,eJ 0])/\R w'/\a<w'.heap.size/\∀j r,(flat es)[j]?=some r->w'.cell? (eI a j)=some r):
  gc 127 #[hh t,.agg (kq g h l m n)] w fun e w'=>∃w3,R w3/\e=.returned (.tuple #[.slice (some (eI w3.heap.size 0)) es.length es.length,eJ 0])/\ik w3 w'/\tQ w' w3.heap.size es es.length:=by
 have hl:=q _ ((lh w.heap.size w).alloc (kx _) (.cells (kq g h l m n) 147));have s:Hid _:=hl;clear q hl;go_enter Tryz.func127,Tryz.ntmps127;go_wp2_with fail;refine io s.out ?_;rintro e w3 ⟨a,cap,rfl,u,d,hc⟩;obtain⟨cs,F,v,hx⟩:=JO es.length hn w3;have y:=OI (w:=w3) v hx;have A:Hid _:=y;have B:Hid _:=u;have C:Hid _:=hc;clear s u hc y hx v;go_wp2
 go_loopw [25] (fun i wr=>∃k:Nat,k<=es.length/\i=.int .i64 (k:Int)/\ik w3 wr/\Hid (tQ wr w3.heap.size es k)) (fun i _=>es.length-(intOf i).toNat)
 case atStart=>exact⟨0,tk _,rfl,(lh _ _).alloc (kx _) _,A.out⟩
 case round=>
  obtain⟨k,hk,rfl,b,c⟩:=hrel;by_cases f:k<es.length
  ·obtain⟨d0,d1,d2⟩:=vM C.out f
   have G:=(b.cell (p:=(eI a (k*3))) d).trans d0;have H:=(b.cell (p:=(eI a (k*3+1))) d).trans d1;have e2:=(b.cell (p:=(eI a (k*3+2))) d).trans d2;have I:a<wr.heap.size:=lO d b.size;have J:=c.out.lt;obtain⟨x,hx⟩:=c.out.any k f;have K:=c.out.free k;have z:=fun o=>RP (Yd c.out f) o;have D:Hid _:=z;clear d0 d1 d2 z;go_wp2;exact⟨⟨k+1,f,by simp,(qZ b (show w3.heap.size<=((eI w3.heap.size k):Addr).block from kx _) _).alloc (by simpa using b.size) _,D.out _⟩,by simp only[intOf];omega⟩
  ·have E:k=es.length:=by omega
   subst E;go_wp2;go_ret2;exact⟨w3,B.out,rfl,b,c.out⟩
theorem RQ(t:Nat)(a b c d f:eD)(er:Int)(her:er≠0)(R:World->Prop)(w:World)
  (g:∀W,ik w W->gc 131 #[hh t,.agg (kq a b c d f)] W fun e w'=>∃v,e=.returned (.tuple #[v,eJ er])/\R w'):
  gc 127 #[hh t,.agg (kq a b c d f)] w fun e w'=>R w'/\e=.returned (.tuple #[.slice none 0 0,eJ er]):=by
 have hl:=g _ ((lh w.heap.size w).alloc (kx _) (.cells (kq a b c d f) 147));have h:Hid _:=hl;have k:(er==0)=false:=by simpa using her
 clear g hl her;go_enter Tryz.func127,Tryz.ntmps127;go_wp2_with fail;refine io h.out ?_;rintro e w3 ⟨v,rfl,i⟩;have j:Hid _:=i;clear h i;go_wp2;go_ret2;exact⟨j.out,rfl⟩
theorem RR(t:Nat)(b d f g h:eD)(R:World->Prop)(w:World)
  (k:∀W,ik w W->gc 131 #[hh t,.agg (kq b d f g h)] W fun e w'=>∃a c,e=.returned (.tuple #[.slice a 0 c,eJ 0])/\R w'):
  gc 127 #[hh t,.agg (kq b d f g h)] w fun e w'=>∃w3,R w3/\e=.returned (.tuple #[.slice (some (eI w3.heap.size 0)) 0 0,eJ 0])/\ik w3 w'/\tQ w' w3.heap.size [] 0:=by
 have hl:=k _ ((lh w.heap.size w).alloc (kx _) (.cells (kq b d f g h) 147));have l:Hid _:=hl;clear k hl;go_enter Tryz.func127,Tryz.ntmps127;go_wp2_with fail;refine io l.out ?_;rintro e w3 ⟨a,c,rfl,m⟩;obtain⟨cs,n,o,hx⟩:=JO 0 (by decide) w3;have u:(Instr.makeSlice 131 (eJ 0) (eJ 0)).run Tryz.prog w3=.ok (.slice (some (eI w3.heap.size 0)) 0 0) (w3.alloc (.cells cs 9)):=n;have p:Hid _:=OI (w:=w3) (es:=[]) o (fun j hj=>absurd hj (Th _));have q:Hid _:=m;clear l m hx o n;go_wp2
 go_loopw [25] (fun i wr=>i=.int .i64 0/\ik w3 wr/\Hid (tQ wr w3.heap.size [] 0)) (fun _ _=>0)
 case atStart=>exact⟨rfl,(lh _ _).alloc (kx _) _,p.out⟩
 case round=>
  obtain⟨rfl,r,s⟩:=hrel;go_wp2;go_ret2;exact⟨w3,q.out,rfl,r,s.out⟩
theorem Vv(wb bt:Nat)(l:eL)(hl:Good l)(R:Value->Int->World->Prop)(w:World)(h:wb<w.heap.size)(c0:w.cell? (eI wb 0)=some (hh bt))
  (hc:∀W,ik w W->gc 127 #[hh bt,.agg (fy l)] W fun e w'=>∃v er,e=.returned (.tuple #[v,eJ er])/\R v er w'):
  gc 68 #[hh wb,.string (lf l)] w fun e w'=>∃v er,e=.returned (.tuple #[v,eJ er])/\R v er w':=by
 have iD:=fun W=>iC l hl W;obtain⟨b,c,d,f,g,i⟩:∃b c d f g,fy l=(kq b c d f g):=⟨_,_,_,_,_,rfl⟩;unfold ju at iD;simp only[i]at iD hc;have j:Hid _:=hc;clear hc i hl;generalize lf l=p at iD ⊢;go_enter Tryz.func68,Tryz.ntmps68;go_wp2_with(go_at_call 69;refine io (iD _) ?_;rintro e m ⟨rfl,a⟩;have d0:=((ii a).1 wb 0 h).trans c0;have q:=lO h a.size);have k:=j.out (m.alloc (.cells (kq b c d f g) 147)).drew (gS (a.alloc a.size _));have n:Hid _:=k;clear k j
 go_region_with(go_at_call 127;refine io n.out ?_;rintro e r ⟨v,er,rfl,o⟩)
 all_goals
  go_wp2;go_ret2;exact⟨v,er,rfl,o⟩
section
variable {s i p:Nat}{B:WB}{ey:List Ob}
end
section
variable {s i p:Nat}{B:WB}{ey:List Ob}{tg0:eV}{w0:World}{g0:WG}{t0:LT}
end
end Go.Proofs.YtlgidcmmgohagaaGreat
namespace Go
set_option linter.unusedVariables false
variable {P:Program}{w:World}
end Go
namespace Go.Proofs.YtlgidcmmgohagaaGreat
open Go.RowKit Go.Sort Go.Shelf Go.ChangeShapes Go.WideShapes Go.Deep
set_option linter.unusedVariables false
section
variable {H:Type}{enc:gi×Value->H}{w:World}{base:Nat}{sp:Nat->Bool}{held:Bool}
end
end Go.Proofs.YtlgidcmmgohagaaGreat
namespace Go.Proofs.YtlgidcmmgohagaaGreat
open Go.RowKit Go.Sort Go.Shelf
set_option linter.unusedVariables false
set_option maxRecDepth 100000
set_option maxHeartbeats 16000000
section
variable {s i p:Nat}{B:WB}{ey:List Ob}{tg0:eV}{w0:World}{g0:WG}{t0:LT}
end
section
variable {s i p:Nat}{B:WB}{ey:List Ob}
end

theorem vT{a:List Ob}{t:LT}(h:kids a t=none):IH a t=(5,[]):=by cases t<;>simp[kids,IH]at h ⊢
theorem rM{a:List Ob}{t:LT}{ks:Kids}(h:kids a t=some ks):IH a t=(0,ks):=by cases t<;>simp[kids,IH]at h ⊢<;>exact h
section
variable {a b:List Ob}{fc fc':Hd}
theorem rN{t:LT}{r:eL}(h:(ln a t r).1=0):t.at a r.reverse=some (ln a t r).2:=by
 rcases wW a (fun _=>hZ) t r with⟨_,h2⟩|⟨h1,_⟩
 ·exact h2
 ·exact absurd h h1
theorem Vw{a:List Ob}(b:Exact a){n:Nat}{t:LT}{ks:Kids}(hk:kids a t=some ks)(c:∀id,t=.dir id->eM a id=2):ig a (n+1) t=ks.foldl (fun h x=>max h (1+ig a n x.2)) 0:=by
 cases t with
 |file id=>cases hk
 |held f=>cases hk
 |own es=>cases hk;rw[ig]
 |dir id=>
  cases hk;rw[ig,b.high id (c id rfl),List.foldl_map];unfold fI
  congr 1
  funext h e
  unfold iF ltOf;split<;>rw[ig]
theorem MU{a:List Ob}{n:Nat}{t:LT}(h:eU a n t):∀id,t=.dir id->eM a id=2:=fun id e=>by subst e;rw[eU]at h;exact h.1
theorem Vx{a:List Ob}(b:Exact a){n m:Nat}{t:LT}(h:eU a m t)(hk:t.kind≠2):ig a n t=0:=by
 cases t with
 |file id=>rw[ig];rw[eU]at h;exact b.low id h
 |held f=>rw[ig]
 |own es=>exact absurd rfl hk
 |dir id=>exact absurd rfl hk
end
section
variable {a:List Ob}{fc:Hd}
theorem RS(x:eL):UV a fc (.own []) x=if x=[]then some .dir else none:=by
 cases x with
 |nil=>rw[gw];rfl
 |cons n r=>rw[yv,fY (by simp)];rfl
theorem Ci{t:LT}{r:eL}:(QR a t r).1≠14:=by
 unfold QR;simp only;rcases wW a (fun _=>hZ) t r with⟨h,_⟩|⟨h,_,h2⟩
 ·rw[fY (by simp[h])];exact sP _ _
 ·rw[ie h]
  show(ln a t r).1≠14;omega
theorem qO{t:LT}{r:eL}(h:(QR a t r).1=0):∃d,t.at a r.reverse=some d/\kids a d=some (QR a t r).2:=by
 have:=Gq (ey:=a) (t:=t) (fs:=lv) (r:=r) (by rw[jW];exact h)
 rw[jW]at this;exact this
theorem Ye{t d c:LT}{q:eL}{n:eD}{ks:Kids}(b:t.at a q=some d)(hk:kids a d=some ks)(hr:eP ks)(x:eL):
  UV a fc (rb a (fun ks=>sf ks n c) q t) x=if q++[n] <+: x then UV a fc c (x.drop (q++[n]).length)else UV a fc t x:=by
 obtain⟨e,f⟩:=Af (fc:=fc) (n:=n) hr b hk c;by_cases hx:(q++[n]) <+: x
 ·rw[ie hx]
  obtain⟨r,rfl⟩:=hx;rw[pZ,show q++[n]++r=q++n::r by simp,e]
 ·rw[fY hx,f x hx]
theorem xJ{p x:eL}(h:p <+: x):x.drop p.length=[]↔x=p:=by
 obtain⟨r,rfl⟩:=h;rw[pZ];constructor
 ·rintro rfl;simp
 ·intro e;simpa using e
theorem MV{t:LT}(hS:Sound a)(f:eU a 5 t)(n:eD)(r:eL){er:Int}{t':LT}(h:(gG a t lv (n::r)).2=(er,t')):
  er≠14/\(er≠0->t'=t)/\(er=0->UV a fc t (r.reverse++[n])=none/\∀x,UV a fc t' x=if x=r.reverse++[n]then some .dir else if r.reverse++[n] <+: x then none else UV a fc t x):=by
 unfold gG at h;simp only[jW]at h;split at h
 ·rename_i h0
  cases h;exact⟨Ci,fun _=>rfl,fun e=>absurd e h0⟩
 ·rename_i h0
  have z:=lD.1 h0;obtain⟨d,b,hk⟩:=qO z;have hr:=(lj hS (py hS _ f b).2.1 hk).1;split at h
  ·cases h;exact⟨by decide,fun _=>rfl,fun e=>by cases e⟩
  ·rename_i hp
   split at h
   ·cases h;exact⟨by decide,fun _=>rfl,fun e=>by cases e⟩
   ·cases h
    refine⟨by decide,fun e=>absurd rfl e,fun _=>⟨?_,fun x=>?_⟩⟩
    ·rw[kr b hk]
     cases g:ip (QR a t r).2 n with
     |none=>rfl
     |some c=>rw[g]at hp;exact absurd rfl hp
    ·rw[Ye b hk hr,RS]
     by_cases hx:r.reverse++[n] <+: x
     ·rw[ie hx]
      by_cases e:x=r.reverse++[n]
      ·rw[ie ((xJ hx).2 e),ie e]
      ·rw[fY (fun h=>e ((xJ hx).1 h)),fY e,ie hx]
     ·rw[fY hx,fY (fun e=>hx (by rw[e];exact oU _)),fY hx]
theorem EC{t:LT}{n:eD}{r:eL}(h:(ln a t (n::r)).1=0):∃d ks,t.at a r.reverse=some d/\kids a d=some ks/\ip ks n=some (ln a t (n::r)).2/\t.at a (r.reverse++[n])=some (ln a t (n::r)).2:=by
 have:=rN h
 rw[qh]at this;obtain⟨d,ks,h1,h2,h3⟩:=um this;exact⟨d,ks,h1,h2,h3,this⟩
theorem Cj{t:LT}{r:eL}:(ln a t r).1≠14:=by
 rcases wW a (fun _=>hZ) t r with⟨h,_⟩|⟨h,_,h2⟩<;>omega
theorem zD(c:LT):(rv a lv c).2=0\/(rv a lv c).2=5\/(rv a lv c).2=8:=by
 unfold rv;simp only[oL];split
 ·exact .inl rfl
 ·split
  ·exact .inr (.inr rfl)
  ·show(IH a c).1=0\/(IH a c).1=5\/(IH a c).1=8
   cases c<;>simp[IH]
theorem RT(b:Bool)(ks:Kids)(n:eD)(c:LT):(jM a lv b ks n c).2≠14:=by
 unfold jM;cases ip ks n with
 |none=>simp only;split<;>simp
 |some e=>
  simp only;unfold jd;split
  ·simp
  ·split
   ·simp
   ·have:=zD (a:=a) e
    omega
theorem JP{t:LT}(hS:Sound a)(c:eU a 5 t)(n:eD)(r:eL){er:Int}{t':LT}(h:(yn a t lv (n::r)).2=(er,t')):
  er≠14/\(er≠0->t'=t)/\(er=0->UV a fc t (r.reverse++[n])≠none/\∀x,UV a fc t' x=if r.reverse++[n] <+: x then none else UV a fc t x):=by
 unfold yn at h;simp only[jV]at h;split at h
 ·rename_i h0
  cases h;exact⟨Cj,fun _=>rfl,fun e=>absurd e h0⟩
 ·rename_i h0
  have z:=lD.1 h0;obtain⟨d,ks,b,hk,hp,f⟩:=EC z;have hr:=(lj hS (py hS _ c b).2.1 hk).1;split at h
  ·rename_i hv
   cases h
   have:=zD (a:=a) (ln a t (n::r)).2
   exact⟨by omega,fun _=>rfl,fun e=>absurd e hv⟩
  ·cases h
   obtain⟨g,i⟩:=Ix (fc:=fc) hr (by rw[<-oY hr,hp];rfl) b hk;refine⟨by decide,fun e=>absurd rfl e,fun _=>⟨by unfold UV;rw[f];simp,fun x=>?_⟩⟩;by_cases hx:r.reverse++[n] <+: x
   ·rw[ie hx]
    obtain⟨y,rfl⟩:=hx;rw[show r.reverse++[n]++y=r.reverse++n::y by simp,g]
   ·rw[fY hx,i x hx]
theorem JQ{t:LT}(hS:Sound a)(c:eU a 5 t)(n m:eD)(r q:eL){er:Int}{t':LT}(h:(xc a t lv (n::r) (m::q)).2=(er,t')):
  er≠14/\(er≠0->t'=t)/\(er=0->UV a fc t (r.reverse++[n])≠none/\(r.reverse++[n]≠q.reverse++[m]->¬r.reverse++[n] <+: q.reverse++[m])/\∀x,UV a fc t' x=if r.reverse++[n]=q.reverse++[m]then UV a fc t x else if q.reverse++[m] <+: x then UV a fc t (r.reverse++[n]++x.drop (q.reverse++[m]).length)else if r.reverse++[n] <+: x then none else UV a fc t x):=by
 have b:n::r=m::q↔r.reverse++[n]=q.reverse++[m]:=by
  rw[<-qh,<-qh];exact⟨fun e=>by rw[e],fun e=>Ta.1 e⟩
 unfold xc at h;simp only[jV,jW,qh]at h;split at h
 ·rename_i h0
  cases h;exact⟨Cj,fun _=>rfl,fun e=>absurd e h0⟩
 ·rename_i h0
  have z:=lD.1 h0;obtain⟨d,ks,f,hk,hp,g⟩:=EC z;have hr:=(lj hS (py hS _ c f).2.1 hk).1;have hne:UV a fc t (r.reverse++[n])≠none:=by unfold UV;rw[g];simp
  split at h
  ·cases h;exact⟨by decide,fun _=>rfl,fun e=>by cases e⟩
  ·rename_i qd
   split at h
   ·rename_i hl
    cases h;refine⟨Ci,fun _=>rfl,fun e=>?_⟩;rcases hl with hl|hl
    ·exact absurd e hl
    ·exact⟨hne,fun h=>absurd (b.1 hl) h,fun x=>by rw[ie (b.1 hl)]⟩
   ·rename_i hl
    have hl0:(QR a t q).1=0:=lD.1 (fun h=>hl (.inl h));have hle:¬n::r=m::q:=fun h=>hl (.inr h);have Ik:¬r.reverse++[n] <+: q.reverse++[m]:=fun h=>qd ⟨h,hle⟩;split at h
    ·rename_i hv
     cases h;exact⟨RT _ _ _ _,fun _=>rfl,fun e=>absurd e hv⟩
    ·split at h
     ·cases h;exact⟨by decide,fun _=>rfl,fun e=>by cases e⟩
     ·cases h
      obtain⟨k,i,j⟩:=qO hl0;refine⟨by decide,fun e=>absurd rfl e,fun _=>⟨hne,fun _=>Ik,fun x=>?_⟩⟩;rw[fY (fun e=>hle (b.2 e))];exact Lx (fc:=fc) hS c f hk hp i j Ik x
end
section
variable {a:List Ob}
end
section
variable {a b:List Ob}{fc fc':Hd}
end
abbrev Slot:=Nat×WB×WG×LT
structure zY (tg:eV)(w:World)(p:Nat)(ey:List Ob)(lim:Nat)(x:Slot):Prop where
 two:2<=x.1
 wp:pN tg w x.1 p x.2.1 ey x.2.2.1 lim
 flat:Flat ey x.2.2.2 x.2.2.1.ft
 ok:eU ey 5 x.2.2.2
 fl:tP ey x.2.2.1.fl
 inj:fA ey x.2.2.2
theorem zY.moves{P:Nat×Nat->Prop}{tg eF:eV}{w w':World}{p:Nat}{ey:List Ob}{lim:Nat}{x:Slot}(h:zY tg w p ey lim x)(m:eB P tg eF w w')(hn:∀k,¬P (x.1,k)):zY eF w' p ey lim x:=⟨h.two,h.wp.moves m hn,h.flat,h.ok,h.fl,h.inj⟩
section
variable {W wr:World}{s p:Nat}{ey:List Ob}{lim:Nat}{ws:List Slot}{rows:List (Value×List Gs)}
end
structure tT (F:Nat->Prop)(t tl:gi)(V:Nat->Value)(w:World)(ea:fD)(ec q:Nat)(hs:List gf):Prop where
 len:hs.length=4*q
 row:w.ownsRow 0 tl 1 (.slice ea (4*q) ec) (4*q) (hs.map fP)
 own:∀g,(Value.slice ea (4*q) ec).ownBlock=some g->F g
 lists:∀i (hi:i<hs.length),hs[i].2.1<=1000000000/\mh t (V (i / 4)) w hs[i]/\∀g,(fP hs[i]).ownBlock=some g->F g
 lt:∀k,F k->k<w.heap.size
theorem tT.keep{F:Nat->Prop}{t tl:gi}{V:Nat->Value}{w w':World}{ea:fD}{ec q:Nat}{hs:List gf}(h:tT F t tl V w ea ec q hs)(hk:∀k,F k->w'.heap[k]?=w.heap[k]?)(a:w.heap.size<=w'.heap.size):tT F t tl V w' ea ec q hs:=
 ⟨h.len,eQ h.row (fun g hg=>hk g (h.own g hg)),h.own,fun i hi=>⟨(h.lists i hi).1,eQ (h.lists i hi).2.1 (fun g hg=>hk g ((h.lists i hi).2.2 g hg)),(h.lists i hi).2.2⟩,fun k b=>lO (h.lt k b) a⟩
theorem tT.full{F:Nat->Prop}{t tl:gi}{V:Nat->Value}{w:World}{ea:fD}{ec q:Nat}{hs:List gf}(h:tT F t tl V w ea ec q hs):∀i (hi:i<hs.length),Bz w (V (i / 4)) hs[i]:=fun i hi j hj=>by
 have a:=(h.lists i hi).2.1
 unfold mh fP at a
 obtain⟨g,b,_,e2,_⟩:=row_one a (i:=j) (v:=V (i / 4)) (by simp[hj])
 exact⟨g,b,e2⟩
abbrev Doc:=Nat×List eN×eL×fQ
def VN (i:Nat):Value:=.string (zi i)
def VI (i:Nat):Value:=.int .i64 (-1000-(i:Int))
structure sg where
 pt:gA
 wa:fD
 wc:Nat
 ta:fD
 tc:Nat
 na:fD
 nc:Nat
 ea:fD
 ec:Nat
 ia:fD
 ic:Nat
 ns:List gf
 hs:List gf
 js:List gf
 FN:Nat->Prop
 FE:Nat->Prop
 FI:Nat->Prop
structure fF (R:sg)(tg:eV)(w:World)(B0 W s r p lim:Nat)(ey eC:List Ob)(got:List Int)(ws:List Slot)(ds:List Doc)(q8 q9 fV:Nat):Prop where
 fresh:jt tg w
 old:∀k,k<B0->tg k=(0,0)
 size:B0<=w.heap.size
 brk:R.pt.b=false
 RU:vL tg w R.pt got
 Dq:got.length<=lim
 w3:W3 ⟨R.pt,p,[]⟩ (fun k=>tg k=(0,1)) (fun k=>tg k=(0,2)) (fun k=>tg k=(1,0)) w W s r ey eC (.slice R.wa ws.length R.wc) (.slice R.ta ds.length R.tc) (.bool false) (.slice R.na (4*q8) R.nc) (.slice R.ea (4*q9) R.ec) (.slice none 0 0) (.slice R.ia (4*fV) R.ic)
 Ck:w.ownsRow 0 32 1 (.slice R.wa ws.length R.wc) ws.length (ws.map fun x=>ptr x.2.1.wb)
 rO:∀g,(Value.slice R.wa ws.length R.wc).ownBlock=some g->tg g=(0,3)
 gz:w.ownsRow 0 115 1 (.slice R.ta ds.length R.tc) ds.length (ds.map fun x=>ptr x.1)
 rP:∀g,(Value.slice R.ta ds.length R.tc).ownBlock=some g->tg g=(0,4)
 names:tT R.FN 9 131 VN w R.na R.nc q8 R.ns
 eR:Held R.FE w R.ea R.ec q9 R.hs
 ids:tT R.FI 29 59 VI w R.ia R.ic fV R.js
 holds:∀k,R.FN k\/R.FE k\/R.FI k->tg k=(0,0)/\B0<=k
 apart:∀k,¬(R.FN k/\R.FE k)/\¬(R.FN k/\R.FI k)/\¬(R.FE k/\R.FI k)
 xK:∀x∈ws,zY tg w p ey lim x
 slot:∀j (h:j<ws.length),ws[j].1=j+2
 MW:∀j (h:j<ds.length),eW (fun k=>tg k=(0,8+j)) w ds[j].1 ds[j].2.1 ds[j].2.2.1 ds[j].2.2.2
 cnt:∀x,got.count x=(ws.map fun y=>y.2.2.1.fs.kn x).sum
theorem jt.lt{tg:eV}{w:World}(h:jt tg w){k:Nat}(hk:tg k≠(0,0)):k<w.heap.size:=by
 rcases Pw k w.heap.size with hl|hl
 ·exact hl
 ·exact absurd (h k hl) hk
theorem nA{tg:eV}{w:World}(h:jt tg w):Sep w (fun k=>tg k=(0,1)) (fun k=>tg k=(0,2)) (fun k=>tg k=(1,0)):=
 ⟨fun k hk=>h.lt (by rw[hk];decide),fun k hk=>⟨h.lt (by rw[hk];decide),fun e=>by rw[hk]at e;cases e⟩,fun k hk=>⟨h.lt (by rw[hk];decide),fun e=>by rw[hk]at e;cases e⟩,fun k hk e=>by rw[hk]at e;cases e⟩
section
variable {R:sg}{tg eF:eV}{w w':World}{B0 W s r p lim:Nat}{ey eC:List Ob}{got:List Int}{ws:List Slot}{ds:List Doc}{q8 q9 fV:Nat}
theorem fF.after{P:Nat×Nat->Prop}(h:fF R tg w B0 W s r p lim ey eC got ws ds q8 q9 fV)(m:eB P tg eF w w')(o:∀c,¬P (0,c)){f:List Int}{l:Nat}{b:List Slot}{pt:gA}
  (hl:b.length=ws.length)(q:pt.b=false)(t:lG pt (fun k=>eF k=(1,0)) w' s p ey)(hg:vL eF w' pt f)(u:f.length<=l)(v:(b.map fun x=>ptr x.2.1.wb)=ws.map fun x=>ptr x.2.1.wb)(z:∀x∈b,zY eF w' p ey l x)(A:∀j (h:j<b.length),b[j].1=j+2)
  (B:∀x,f.count x=(b.map fun y=>y.2.2.1.fs.kn x).sum):fF { R with pt:=pt } eF w' B0 W s r p l ey eC f b ds q8 q9 fV:=by
 have n:=m.fresh h.fresh;have kept:∀k c,tg k=(0,c)->k<w.heap.size->w'.heap[k]?=w.heap[k]?:=fun k c hk a=>m.block k a (by rw[hk];exact o c);have tagged:∀k c,c≠0->tg k=(0,c)->eF k=(0,c)/\w'.heap[k]?=w.heap[k]?:=fun k c hc hk=>by
  have a:=h.fresh.lt (by rw[hk];intro e;exact hc (xr Prod.snd e));exact⟨(m.tags k a).trans hk,kept k c hk a⟩
 have i:∀k,R.FN k\/R.FE k\/R.FI k->k<w.heap.size->w'.heap[k]?=w.heap[k]?/\eF k=(0,0)/\B0<=k:=fun k hk a=>⟨kept k 0 (h.holds k hk).1 a,(m.tags k a).trans (h.holds k hk).1,(h.holds k hk).2⟩;have d:=h.w3;rw[<-hl]at d;refine⟨n,fun k hk=>(m.tags k (lO hk h.size)).trans (h.old k hk),wl h.size m.size,q,hg,u,⟨d.law.keep (fun k hk=>(tagged k 1 (by decide) hk).1) (fun k hk=>(tagged k 1 (by decide) hk).2),d.ref.keep (fun k hk=>(tagged k 2 (by decide) hk).1) (fun k hk=>(tagged k 2 (by decide) hk).2),⟨t,d.uu.2⟩,d.twin,d.at_,nA n⟩,?_,?_,?_,?_,?_,?_,?_,?_,h.apart,z,A,?_,B⟩
 ·rw[hl,v]
  exact eQ h.Ck (fun g hg=>(tagged g 3 (by decide) (h.rO g hg)).2)
 ·rw[hl];exact fun g hg=>(tagged g 3 (by decide) (h.rO g hg)).1
 ·exact eQ h.gz (fun g hg=>(tagged g 4 (by decide) (h.rP g hg)).2)
 ·exact fun g hg=>(tagged g 4 (by decide) (h.rP g hg)).1
 ·exact h.names.keep (fun k hk=>(i k (.inl hk) (h.names.lt k hk)).1) m.size
 ·exact h.eR.keep (fun k hk=>(i k (.inr (.inl hk)) (h.eR.lt k hk)).1) m.size
 ·exact h.ids.keep (fun k hk=>(i k (.inr (.inr hk)) (h.ids.lt k hk)).1) m.size
 ·intro k hk
  have a:k<w.heap.size:=by
   rcases hk with e|e|e
   ·exact h.names.lt k e
   ·exact h.eR.lt k e
   ·exact h.ids.lt k e
  exact(i k hk a).2
 ·intro j hj
  obtain⟨na,nc,da,dc,C⟩:=h.MW j hj;exact⟨na,nc,da,dc,C.keep (fun k hk=>(tagged k (8+j) (by omega) hk).1) (fun k hk=>(tagged k (8+j) (by omega) hk).2)⟩
theorem fF.Yf(h:fF R tg w B0 W s r p lim ey eC got ws ds q8 q9 fV):gq tg w s p ey got false lim:=⟨h.fresh,R.pt,h.brk,h.w3.uu.1,h.RU,h.w3.uu.2.2.1.sound,h.Dq⟩
theorem fF.below(h:fF R tg w B0 W s r p lim ey eC got ws ds q8 q9 fV)(a:ik w w'):fF R tg w' B0 W s r p lim ey eC got ws ds q8 q9 fV:=by
 have m:eB (fun _=>False) tg tg w w':=eB.eE a;exact h.after m (fun _ h=>h) rfl h.brk (h.w3.uu.1.below a (fun _ _ h=>h)) (h.RU.moves m (fun h=>h)) h.Dq rfl (fun x hx=>(h.xK x hx).moves m (fun _ h=>h)) h.slot h.cnt
theorem OJ{a:Type}(f:a->Nat):∀(l:List a) (j:Nat) (h:j<l.length) (y:a),(l.map f).sum+f y=((l.set j y).map f).sum+f l[j]
 |x::l,0,_,y=>by simp only[List.set_cons_zero,jg,List.sum_cons,KJ];omega
 |x::l,j+1,h,y=>by
  have:=OJ f l j (by simpa using h) y
  simp only[List.set_cons_succ,jg,List.sum_cons,cos]
  omega
theorem fF.work{j:Nat}{B:WB}{g:WG}{t:LT}(h:fF R tg w B0 W s r p lim ey eC got ws ds q8 q9 fV)(hj:j<ws.length)(hx:ws[j]=(j+2,B,g,t)):
  gO tg w s (j+2) p B ey { g with fs:={ g.fs with got:=got,brk:=false } } lim t/\fA ey t/\
  ∀{eF:eV} {w':World} {a:WG} {t':LT} {b:Nat},lim<=b->eB (Mine (j+2)) tg eF w w'->gO eF w' s (j+2) p B ey a b t'->a.fs.brk=false->(∃l,a.fs.got=got++l/\∀x,l.count x+g.fs.kn x=a.fs.kn x)->fA ey t'->
   ∃pt,fF { R with pt:=pt } eF w' B0 W s r p b ey eC a.fs.got (ws.set j (j+2,B,a,t')) ds q8 q9 fV:=by
 have f:(j+2,B,g,t)∈ws:=by rw[<-hx];exact kj hj
 have hw:=h.xK _ f;refine⟨⟨⟨hw.two,h.Yf,?_⟩,hw.flat,hw.ok,hw.fl⟩,hw.inj,fun {eF w' a t' b} hl m hQ i n hi=>?_⟩
 ·exact⟨hw.wp.tree,hw.wp.lS,hw.wp.lT,hw.wp.qG,hw.wp.nI,hw.wp.files,hw.wp.held,hw.wp.opens,hw.wp.ok⟩
 ·obtain⟨_,pt,o,q,u,hS,v⟩:=hQ.inv.st
  obtain⟨l,z,A⟩:=n;refine⟨_,h.after m (fun c hc=>?_) (by simp) (o.trans i) q u v ?_ (fun x C=>?_) (fun k hk=>?_) (fun x=>?_)⟩
  ·rcases hc with hc|hc<;>simp only at hc<;>omega
  ·apply List.ext_getElem (by simp)
   intro k h1 h2;simp only[Fa,Fe];split
   ·rename_i e;subst e;rw[hx]
   ·rfl
  ·obtain⟨k,hk,rfl⟩:=pg C
   rw[Fe];split
   ·exact⟨hw.two,hQ.inv.wp,hQ.flat,hQ.ok,hQ.fl,hi⟩
   ·rename_i hne
    have d:k<ws.length:=by simpa using hk
    have D:=h.xK _ (kj d);have E:=h.slot k d;have hm:=D.moves m (fun c hc=>by
     rcases hc with hc|hc<;>simp only at hc<;>omega)
    exact⟨hm.two,hm.wp.mono hl,hm.flat,hm.ok,hm.fl,hm.inj⟩
  ·rw[Fe]
   have d:k<ws.length:=by simpa using hk
   split
   ·rename_i e;subst e;rfl
   ·exact h.slot k d
  ·have h1:=OJ (fun y:Slot=>y.2.2.1.fs.kn x) ws j hj (j+2,B,a,t')
   rw[hx]at h1;simp only at h1;have h2:=h.cnt x;have h3:=A x;rw[z,List.count_append,h2];omega
theorem fF.aah{j:Nat}{d:Doc}(h:fF R tg w B0 W s r p lim ey eC got ws ds q8 q9 fV)(hj:j<ds.length)(hx:ds[j]=d):
  eW (fun k=>tg k=(0,8+j)) w d.1 d.2.1 d.2.2.1 d.2.2.2/\∀{w':World} {nodes:List eN} {data:eL} {rest:fQ},eW (kp (fun k=>tg k=(0,8+j)) w w') w' d.1 nodes data rest->eA (fun k=>tg k=(0,8+j)) w w'->
   ∃eF,fF R eF w' B0 W s r p lim ey eC got ws (ds.set j (d.1,nodes,data,rest)) q8 q9 fV:=by
 classical
 subst hx;refine⟨h.MW j hj,fun {w' nodes data rest} l hk=>?_⟩;obtain⟨eF,o⟩:∃eF:eV,eF=fun k=>if k<w.heap.size then tg k else if k<w'.heap.size then(0,8+j) else(0,0):=⟨_,rfl⟩
 have t1:∀k,k<w.heap.size->eF k=tg k:=fun k hk=>by rw[o];exact ie hk
 have q:jt eF w':=fun k C=>by
  rw[o];simp only;rw[fY (by have:=hk.size;omega),fY (by omega)]
 have m:eB (fun t=>t=(0,8+j)) tg eF w w':=⟨hk.os,hk.tape,hk.output,hk.size,t1,fun k a hn=>hk.block k a hn,fun _=>q⟩;have tagged:∀k c,c≠0->c≠8+j->tg k=(0,c)->eF k=(0,c)/\w'.heap[k]?=w.heap[k]?:=fun k c hc y a=>by
  have b:=h.fresh.lt (by rw[a];intro e;exact hc (xr Prod.snd e));exact⟨(t1 k b).trans a,m.block k b (by rw[a];intro e;exact y (xr Prod.snd e))⟩
 have n:∀k,R.FN k\/R.FE k\/R.FI k->k<w.heap.size->w'.heap[k]?=w.heap[k]?/\eF k=(0,0)/\B0<=k:=fun k a b=>⟨m.block k b (by rw[(h.holds k a).1];intro e;have:=xr Prod.snd e;simp only at this;omega),(t1 k b).trans (h.holds k a).1,(h.holds k a).2⟩;have f:=h.w3;have u:(ds.set j (ds[j].1,nodes,data,rest)).length=ds.length:=by simp
 refine⟨eF,⟨q,fun k a=>(t1 k (lO a h.size)).trans (h.old k a),wl h.size hk.size,h.brk,h.RU.moves m (fun e=>by cases e),h.Dq,?_,?_,?_,?_,?_,?_,?_,?_,?_,h.apart,fun x z=>?_,h.slot,?_,h.cnt⟩⟩
 ·rw[u]
  exact⟨f.law.keep (fun k hk=>(tagged k 1 (by decide) (by omega) hk).1) (fun k hk=>(tagged k 1 (by decide) (by omega) hk).2),f.ref.keep (fun k hk=>(tagged k 2 (by decide) (by omega) hk).1) (fun k hk=>(tagged k 2 (by decide) (by omega) hk).2),⟨f.uu.1.keep (fun k a hF=>m.block k a (by rw[hF];intro e;cases e)) (fun k a hF=>(t1 k a).trans hF),f.uu.2⟩,f.twin,f.at_,nA q⟩
 ·exact eQ h.Ck (fun g hg=>(tagged g 3 (by decide) (by omega) (h.rO g hg)).2)
 ·exact fun g hg=>(tagged g 3 (by decide) (by omega) (h.rO g hg)).1
 ·rw[u]
  have A:(ds.set j (ds[j].1,nodes,data,rest)).map (fun x=>ptr x.1)=ds.map fun x=>ptr x.1:=by
   apply List.ext_getElem (by simp);intro k h1 h2;simp only[Fa,Fe];split
   ·rename_i e;subst e;rfl
   ·rfl
  rw[A];exact eQ h.gz (fun g hg=>(tagged g 4 (by decide) (by omega) (h.rP g hg)).2)
 ·rw[u];exact fun g hg=>(tagged g 4 (by decide) (by omega) (h.rP g hg)).1
 ·exact h.names.keep (fun k a=>(n k (.inl a) (h.names.lt k a)).1) hk.size
 ·exact h.eR.keep (fun k a=>(n k (.inr (.inl a)) (h.eR.lt k a)).1) hk.size
 ·exact h.ids.keep (fun k a=>(n k (.inr (.inr a)) (h.ids.lt k a)).1) hk.size
 ·intro k a
  have b:k<w.heap.size:=by
   rcases a with e|e|e
   ·exact h.names.lt k e
   ·exact h.eR.lt k e
   ·exact h.ids.lt k e
  exact(n k a b).2
 ·have v:=h.xK x z
  exact v.moves m (fun c hc=>by have:=v.two;have:=xr Prod.fst hc;simp only at this;omega)
 ·intro i hi
  have B:i<ds.length:=by simpa using hi
  simp only[Fe];split
  ·rename_i e
   subst e;obtain⟨na,nc,da,dc,l⟩:=l;refine⟨na,nc,da,dc,l.keep (fun k a=>?_) (fun _ _=>rfl)⟩;rcases a with a|⟨a,hk2⟩
   ·exact(t1 k (h.fresh.lt (by rw[a];intro e;have:=xr Prod.snd e;simp only at this;omega))).trans a
   ·rw[o]
    simp only;rw[fY (by omega),ie hk2]
  ·obtain⟨na,nc,da,dc,l⟩:=h.MW i B
   exact⟨na,nc,da,dc,l.keep (fun k a=>(tagged k (8+i) (by omega) (by omega) a).1) (fun k a=>(tagged k (8+i) (by omega) (by omega) a).2)⟩
end
theorem OL{a:List Ob}(hS:Sound a)(l:List Ob)(fc:Hd):∀(x:eL) (n:Nat) (t:LT),eU a n t->UV (a++l) fc t x=UV a fc t x
 |[],n,t,h=>by
  rw[gw,gw]
  cases t with
  |file i=>rw[eU]at h;simp only[nd];rw[td l (by rw[h];decide)]
  |held f=>rfl
  |dir i=>rfl
  |own es=>rfl
 |m::r,n,t,h=>by
  have hk:kids (a++l) t=kids a t:=by
   cases t with
   |file i=>rfl
   |held f=>rfl
   |dir i=>rw[eU]at h;simp only[kids];rw[oK l (by rw[h.1];decide)]
   |own es=>rfl
  rw[yv,yv,hk];cases oV:kids a t with
  |none=>rfl
  |some ks=>
   rw[qr,qr];cases hp:ip ks m with
   |none=>rfl
   |some c=>
    rw[qr,qr];have d:∃y∈ks,y.2=c:=by
     unfold ip at hp;obtain⟨z,g,e⟩:=SS.1 hp;exact⟨z,EU g,e⟩
    obtain⟨y,j,e⟩:=d;obtain⟨k,_,b⟩:=((lj hS h oV).2.2 y j).2;rw[e]at b;exact OL hS l fc r k c b
theorem Vy{a:List Ob}(hS:Sound a)(l:List Ob):∀(x:eL) (n:Nat) (t:LT),eU a n t->t.at (a++l) x=t.at a x
 |[],n,t,_=>by rw[mr,mr]
 |m::x,n,t,ht=>by
  rw[kh,kh]
  have hk:kids (a++l) t=kids a t:=by
   cases t with
   |file i=>rfl
   |held f=>rfl
   |own es=>rfl
   |dir i=>
    have b:eM a i=2:=by cases n<;>(rw[eU]at ht;exact ht.1)
    show some _=some _;rw[oK l (by rw[b];decide)]
  rw[hk];cases d:kids a t with
  |none=>rfl
  |some ks=>
   simp only[qr];cases hp:ip ks m with
   |none=>rfl
   |some c=>
    simp only[qr];obtain⟨k,_,hc⟩:=((lj hS ht d).2.2 (m,c) (oI hp)).2;exact Vy hS l x k c hc
theorem zY.app{p:Nat}{ey:List Ob}{lim:Nat}{tg:eV}{w:World}{x:Slot}(hS:Sound ey)(h:zY tg w p ey lim x)(l:List Ob):zY tg w p (ey++l) lim x:=by
 have a:=fun q=>Vy hS l q 5 _ h.ok;have g:∀id,eM ey id=1->bytesOf (ey++l) id=bytesOf ey id:=fun id hk=>td l (by rw[hk];decide);have i:∀id,eM ey id=2->eZ (ey++l) id=eZ ey id:=fun id hk=>oK l (by rw[hk];decide);have oV:∀id k,eM ey id=k->k≠0->eM (ey++l) id=k:=fun id k hk h0=>by rw[jm l (by rw[hk];exact h0)];exact hk
 refine⟨h.two,?_,⟨h.flat.kind,h.flat.root,fun q=>by rw[a q];exact h.flat.od q,fun q=>by rw[a q];exact h.flat.of q⟩,Ir l 5 _ h.ok,fun f id d hf h0=>oV id 1 (h.fl f id d hf h0) (by decide),fun y z b h1 h2=>by rw[a]at h1 h2;exact h.inj y z b h1 h2⟩;have hw:=h.wp;obtain⟨tF,j,m,n,o,mF,kF⟩:=hw.lS;obtain⟨tD,r,s,t,u,vD,mD,kD⟩:=hw.lT;refine⟨hw.tree,⟨tF,j,m,n,o,fun id=>?_,fun id hid=>oV id 1 (kF id hid) (by decide)⟩,⟨tD,r,s,t,u,vD,mD,fun id hid=>⟨oV id 2 (kD id hid).1 (by decide),by rw[i id (kD id hid).1];exact(kD id hid).2⟩⟩,hw.qG,hw.nI,hw.files,hw.held,hw.opens,⟨fun h0=>oV _ 2 (hw.ok.root h0) (by decide),fun q es ho e hx=>?_⟩⟩
 ·rw[mF id]
  by_cases hk:x.2.2.1.fs.kF id=true
  ·rw[ie hk,ie hk,g id (kF id hk)]
  ·rw[fY hk,fY hk]
 ·obtain⟨c,e2⟩:=hw.ok.od q es ho e hx
  exact⟨c,fun h0=>oV _ _ (e2 h0) (by rcases c with h|h<;>(rw[h];decide))⟩
theorem fZ.reset{F F':Nat->Prop}{w w':World}{W s r n:Nat}{c5 c6 c7 c8 c9 c10 c11 d5 d6 d7 d8 d9 d10 d11:Value}(h:fZ F w W s r n c5 c6 c7 c8 c9 c10 c11)(hF:∀k,F k->F' k)
  (c:∀a a1 a2 a3 b,w.heap[W]?=some (.cells #[a,a1,a2,a3,b,c5,c6,c7,c8,c9,c10,c11] 71 (0,0))->w'.heap[W]?=some (.cells #[a,a1,a2,a3,b,d5,d6,d7,d8,d9,d10,d11] 71 (0,0)))(hk:∀k,F k->k≠W->w'.heap[k]?=w.heap[k]?):fZ F' w' W s r n d5 d6 d7 d8 d9 d10 d11:=by
 obtain⟨ia,ka,pa,ic,kc,pc,paths,hl,hp⟩:=h;have row:∀{t:gi} {v:Value} {n:Nat} {xs:fQ},w.ownsRow 0 t 1 v n xs->71≠t->(∀g,v.ownBlock=some g->F g)->w'.ownsRow 0 t 1 v n xs:=fun hr ht hf=>eQ hr (fun g hg=>hk g (hf g hg) (fun e=>fX hr hl.hW ht (by rw[<-e];exact hg.symm)));exact⟨ia,ka,pa,ic,kc,pc,paths,⟨hF _ hl.fw,c _ _ _ _ _ hl.hW,row hl.lW (by decide) hl.fi,row hl.pz (by decide) hl.fk,row hl.qc (by decide) hl.fp,fun g hg=>hF g (hl.fi g hg),fun g hg=>hF g (hl.fk g hg),fun g hg=>hF g (hl.fp g hg)⟩,hp⟩
theorem RV{la:fD}{n m c d:Nat}:(Value.slice la n c).ownBlock=(Value.slice la m d).ownBlock:=by cases la<;>rfl
theorem tT.next{F:Nat->Prop}{t tl:gi}{V:Nat->Value}{w w':World}{W q i:Nat}{cs:Array Value}{ea la:fD}{ec m c:Nat}{hs:List gf}(h:tT F t tl V w ea ec q hs)(A:t≠tl)(hk:BB t tl (V q) i w w' W q cs ea ec la m c hs)(hW:¬F W)
  (n:∀g,(Value.slice la m c).ownBlock=some g->¬F g/\g<w.heap.size)(hm:m+3<=1000000000):
  ∃b c4 B,w'.heap[W]?=some (.cells (cs.setIfInBounds i (.slice (some (eI b 0)) (4*(q+1)) c4)) 71 (0,0))/\tT (fun k=>F k\/some k=(Value.slice la m c).ownBlock\/(w.heap.size<=k/\k<w'.heap.size)) t tl V w' (some (eI b 0)) c4 (q+1) B/\eA (fun x=>x=W\/F x\/some x=(Value.slice la m c).ownBlock) w w':=by
 obtain⟨b,c4,o,p,r,C,s,N,O,P,D,E,a⟩:=hk;have z:=a.size;have G:eA (fun x=>x=W\/F x\/some x=(Value.slice la m c).ownBlock) w w':=⟨a.os,a.tape,a.output,a.size,fun k H hn=>a.block k H (by
  rintro(e|e|e)
  ·exact hn (.inl e)
  ·exact hn (.inr (.inl (h.own k e.symm)))
  ·exact hn (.inr (.inr e)))⟩
 refine⟨b,c4,_,C,⟨?_,s,?_,?_,?_⟩,G⟩
 ·simp[h.len];omega
 ·intro g hg
  simp only[Value.ownBlock,mZ]at hg;subst hg;rcases E with e|e
  ·exact .inl (h.own _ e.symm)
  ·exact .inr (.inr ⟨e,eK s rfl⟩)
 ·intro j hj
  by_cases u:j<hs.length
  ·rw[KM u]
   obtain⟨I,v,f⟩:=h.lists j u;refine⟨I,eQ v (fun x hx=>a.block x (h.lt x (f x hx)) ?_),fun g hg=>.inl (f g hg)⟩;rintro(e|e|e)
   ·subst e;exact hW (f _ hx)
   ·exact px v h.row A hx e
   ·exact(n x e.symm).1 (f x hx)
  ·obtain⟨d,rfl⟩:∃d,j=hs.length+d:=⟨j-hs.length,by omega⟩
   have hd:d<4:=by simp at hj;omega
   rw[WK (by omega)];have hq:(hs.length+d) / 4=q:=by rw[h.len];omega
   simp only[Pj,hq];have key:∀x∈[((la,m,c):gf),o,p,r],x.2.1<=1000000000->x.2.1<=1000000000/\mh t (V q) w' x/\∀g,(fP x).ownBlock=some g->F g\/some g=(Value.slice la m c).ownBlock\/(w.heap.size<=g/\g<w'.heap.size):=fun x hx J=>by
    obtain⟨y,K⟩:=D x hx;refine⟨J,y,fun g hg=>?_⟩;rcases K with⟨l,e2⟩|⟨L,l,e2⟩
    ·refine .inr (.inl ?_)
     rw[<-hg];unfold fP;rw[l];exact RV
    ·have M:L=g:=by
      unfold fP at hg;rw[l]at hg;exact zQ hg
     subst M;exact .inr (.inr ⟨e2,eK y hg⟩)
   match d,hd with
   |0,_=>exact key _ (by simp) (show m<=1000000000 by omega)
   |1,_=>exact key o (by simp) (by omega)
   |2,_=>exact key p (by simp) (by omega)
   |3,_=>exact key r (by simp) (by omega)
 ·rintro k (hk|hk|hk)
  ·exact lO (h.lt k hk) z
  ·exact lO (n k hk.symm).2 z
  ·exact hk.2
section
variable {R:sg}{tg eF:eV}{w w':World}{B0 W s r p lim:Nat}{ey eC:List Ob}{got:List Int}{ws:List Slot}{ds:List Doc}{q8 q9 fV:Nat}
theorem fF.fW(h:fF R tg w B0 W s r p lim ey eC got ws ds q8 q9 fV):tg W=(0,1):=by
 obtain⟨_,_,_,_,_,_,_,hl,_⟩:=h.w3.law;exact hl.fw
theorem fF.block(h:fF R tg w B0 W s r p lim ey eC got ws ds q8 q9 fV):∃a a1 a2 a3 b,w.heap[W]?=some (.cells #[a,a1,a2,a3,b,.slice R.wa ws.length R.wc,.slice R.ta ds.length R.tc,.bool false,.slice R.na (4*q8) R.nc,.slice R.ea (4*q9) R.ec,.slice none 0 0,.slice R.ia (4*fV) R.ic] 71 (0,0)):=h.w3.block
theorem fF.rest{P:Nat×Nat->Prop}(h:fF R tg w B0 W s r p lim ey eC got ws ds q8 q9 fV)(m:eB P tg eF w w')(d:∀t,P t->t.1=0/\t.2<=4/\t.2≠2):
  fh (fun k=>eF k=(0,2)) w' r eC/\gh ⟨R.pt,p,[]⟩ (fun k=>eF k=(1,0)) w' s ey/\vL eF w' R.pt got/\(∀x∈ws,zY eF w' p ey lim x)/\∀j (hj:j<ds.length),eW (fun k=>eF k=(0,8+j)) w' ds[j].1 ds[j].2.1 ds[j].2.2.1 ds[j].2.2.2:=by
 have hn:∀t,(t.1≠0\/4<t.2\/t.2=2)->¬P t:=fun t ht hp=>by have:=d t hp;omega
 have tagged:∀k t,t≠(0,0)->(t.1≠0\/4<t.2\/t.2=2)->tg k=t->eF k=t/\w'.heap[k]?=w.heap[k]?:=fun k t h0 ht hk=>by
  have a:=h.fresh.lt (by rw[hk];exact h0);exact⟨(m.tags k a).trans hk,m.block k a (by rw[hk];exact hn t ht)⟩
 refine⟨h.w3.ref.keep (fun k hk=>(tagged k (0,2) (by decide) (by decide) hk).1) (fun k hk=>(tagged k (0,2) (by decide) (by decide) hk).2),⟨h.w3.uu.1.keep (fun k _ hk=>(tagged k (1,0) (by decide) (by decide) hk).2) (fun k _ hk=>(tagged k (1,0) (by decide) (by decide) hk).1),h.w3.uu.2⟩,h.RU.moves m (hn _ (by decide)),fun x hx=>(h.xK x hx).moves m (fun c=>hn _ (by have:=(h.xK x hx).two;left;show x.1≠0;omega)),fun j hj=>?_⟩;obtain⟨na,nc,da,dc,f⟩:=h.MW j hj;have hne:((0,8+j):Nat×Nat)≠(0,0):=fun e=>by have:=xr Prod.snd e;simp only at this;omega
 have b:((0,8+j):Nat×Nat).1≠0\/4<((0,8+j):Nat×Nat).2\/((0,8+j):Nat×Nat).2=2:=by right;left;show 4<8+j;omega
 exact⟨na,nc,da,dc,f.keep (fun k hk=>(tagged k _ hne b hk).1) (fun k hk=>(tagged k _ hne b hk).2)⟩
theorem fF.low{X:Nat->Prop}(h:fF R tg w B0 W s r p lim ey eC got ws ds q8 q9 fV)(hk:eA X w w')(b:∀k,X k->tg k≠(0,0)\/B0<=k):Below B0 w w':=
 ⟨hk.os,hk.tape,hk.output,hk.size,fun k a=>hk.block k (lO a h.size) (fun hx=>by
  rcases b k hx with e|e
  ·exact e (h.old k a)
  ·omega)⟩
theorem fF.aai{la:fD}{m c:Nat}{xs:fQ}(h:fF R tg w B0 W s r p lim ey eC got ws ds q8 q9 fV)(hq:4*q8<=1000000000)(hm:m+3<=1000000000)(hl:w.ownsRow 0 9 1 (.slice la m c) m xs)(b:∀g,(Value.slice la m c).ownBlock=some g->tg g=(0,0)/\B0<=g/\¬R.FN g/\¬R.FE g/\¬R.FI g):
  gc 93 #[.pointer (some (eI W 8)),.slice la m c] w fun e w'=>e=.returned (.tuple #[])/\∃l,fF l tg w' B0 W s r p lim ey eC got ws ds (q8+1) q9 fV/\Below B0 w w':=by
 obtain⟨H,a1,a2,a3,I,hW⟩:=h.block;refine(Dh W q8 _ R.na R.nc m c la R.ns xs w hW rfl h.names.len hq h.names.row (by omega) hl).mono ?_;rintro e w' ⟨n,hk⟩;refine⟨n,?_⟩;have nFW:∀k,R.FN k\/R.FE k\/R.FI k->k≠W:=fun k hk e=>by have:=(h.holds k hk).1;rw[e,h.fW]at this;cases this
 obtain⟨o,c4,q,u,v,a⟩:=h.names.next (by decide) (show BB 9 131 (VN q8) 8 w w' W q8 _ R.na R.nc la m c R.ns from hk) (fun hf=>nFW W (.inl hf) rfl) (fun g hg=>⟨(b g hg).2.2.1,eK hl hg⟩) hm;have d:∀k,R.FN k\/some k=(Value.slice la m c).ownBlock->tg k=(0,0):=fun k hk=>by
  rcases hk with e|e
  ·exact(h.holds k (.inl e)).1
  ·exact(b k e.symm).1
 have sw:jt tg w':=fun k hk=>h.fresh k (wl a.size hk);have mv:eB (fun t=>t=(0,0)\/t=(0,1)) tg tg w w':=⟨a.os,a.tape,a.output,a.size,fun _ _=>rfl,fun k i hn=>a.block k i (by
  rintro(e|e)
  ·exact hn (.inr (by rw[e];exact h.fW))
  ·exact hn (.inl (d k e))),fun _=>sw⟩
 obtain⟨x,y,z,A,B⟩:=h.rest mv (by rintro t (rfl|rfl)<;>decide);have keep:∀k,k<w.heap.size->k≠W->¬R.FN k->some k≠(Value.slice la m c).ownBlock->w'.heap[k]?=w.heap[k]?:=fun k h1 h2 h3 C=>a.block k h1 (by
  rintro(e|e|e)
  ·exact h2 e
  ·exact h3 e
  ·exact C e)
 have qP:∀k,tg k≠(0,0)->k≠W->w'.heap[k]?=w.heap[k]?:=fun k h1 h2=>keep k (h.fresh.lt h1) h2 (fun e=>h1 (d k (.inl e))) (fun e=>h1 (d k (.inr e)));refine⟨{ R with na:=some (eI o 0),nc:=c4,ns:=q,FN:=fun k=>R.FN k\/some k=(Value.slice la m c).ownBlock\/(w.heap.size<=k/\k<w'.heap.size) },⟨sw,h.old,wl h.size a.size,h.brk,z,h.Dq,⟨?_,x,y,h.w3.twin,h.w3.at_,nA sw⟩,?_,h.rO,?_,h.rP,v,?_,?_,?_,?_,A,h.slot,B,h.cnt⟩,?_⟩
 ·refine h.w3.law.reset (fun _ h=>h) (fun J K L M N j=>?_) (fun k i hk2=>qP k (by rw[i];decide) hk2)
  rw[hW]at j;simp only[mZ,Tc,KV,sG,wC]at j;obtain⟨D,E,e2,F,G⟩:=j;rw[u,D,E,e2,F,G];rfl
 ·exact eQ h.Ck (fun g hg=>qP g (by rw[h.rO g hg];decide) (fun e=>by have:=h.rO g hg;rw[e,h.fW]at this;cases this))
 ·exact eQ h.gz (fun g hg=>qP g (by rw[h.rP g hg];decide) (fun e=>by have:=h.rP g hg;rw[e,h.fW]at this;cases this))
 ·exact h.eR.keep (fun k hk=>keep k (h.eR.lt k hk) (nFW k (.inr (.inl hk))) (fun e=>(h.apart k).1 ⟨e,hk⟩) (fun e=>(b k e.symm).2.2.2.1 hk)) a.size
 ·exact h.ids.keep (fun k hk=>keep k (h.ids.lt k hk) (nFW k (.inr (.inr hk))) (fun e=>(h.apart k).2.1 ⟨e,hk⟩) (fun e=>(b k e.symm).2.2.2.2 hk)) a.size
 ·rintro k ((e|e|e)|e|e)
  ·exact h.holds k (.inl e)
  ·exact⟨(b k e.symm).1,(b k e.symm).2.1⟩
  ·exact⟨h.fresh k e.1,wl h.size e.1⟩
  ·exact h.holds k (.inr (.inl e))
  ·exact h.holds k (.inr (.inr e))
 ·refine fun k=>⟨?_,?_,(h.apart k).2.2⟩
  ·rintro⟨e|e|e,f⟩
   ·exact(h.apart k).1 ⟨e,f⟩
   ·exact(b k e.symm).2.2.2.1 f
   ·have:=h.eR.lt k f;omega
  ·rintro⟨e|e|e,f⟩
   ·exact(h.apart k).2.1 ⟨e,f⟩
   ·exact(b k e.symm).2.2.2.2 f
   ·have:=h.ids.lt k f;omega
 ·exact h.low a (by
   rintro k (e|e|e)
   ·exact .inl (by rw[e,h.fW];decide)
   ·exact .inr (h.holds k (.inl e)).2
   ·exact .inr (b k e.symm).2.1)
theorem fF.aaj{la:fD}{m c:Nat}{xs:fQ}(h:fF R tg w B0 W s r p lim ey eC got ws ds q8 q9 fV)(hq:4*fV<=1000000000)(hm:m+3<=1000000000)(hl:w.ownsRow 0 29 1 (.slice la m c) m xs)(b:∀g,(Value.slice la m c).ownBlock=some g->tg g=(0,0)/\B0<=g/\¬R.FN g/\¬R.FE g/\¬R.FI g):
  gc 88 #[.pointer (some (eI W 8)),.slice la m c] w fun e w'=>e=.returned (.tuple #[])/\∃l,fF l tg w' B0 W s r p lim ey eC got ws ds q8 q9 (fV+1)/\Below B0 w w':=by
 obtain⟨H,a1,a2,a3,I,hW⟩:=h.block;refine(Jf W fV _ R.ia R.ic m c la R.js xs w hW rfl h.ids.len hq h.ids.row (by omega) hl).mono ?_;rintro e w' ⟨n,hk⟩;refine⟨n,?_⟩;have nFW:∀k,R.FN k\/R.FE k\/R.FI k->k≠W:=fun k hk e=>by have:=(h.holds k hk).1;rw[e,h.fW]at this;cases this
 obtain⟨o,c4,q,u,v,a⟩:=h.ids.next (by decide) (show BB 29 59 (VI fV) 11 w w' W fV _ R.ia R.ic la m c R.js from hk) (fun hf=>nFW W (.inr (.inr hf)) rfl) (fun g hg=>⟨(b g hg).2.2.2.2,eK hl hg⟩) hm;have d:∀k,R.FI k\/some k=(Value.slice la m c).ownBlock->tg k=(0,0):=fun k hk=>by
  rcases hk with e|e
  ·exact(h.holds k (.inr (.inr e))).1
  ·exact(b k e.symm).1
 have sw:jt tg w':=fun k hk=>h.fresh k (wl a.size hk);have mv:eB (fun t=>t=(0,0)\/t=(0,1)) tg tg w w':=⟨a.os,a.tape,a.output,a.size,fun _ _=>rfl,fun k i hn=>a.block k i (by
  rintro(e|e)
  ·exact hn (.inr (by rw[e];exact h.fW))
  ·exact hn (.inl (d k e))),fun _=>sw⟩
 obtain⟨x,y,z,A,B⟩:=h.rest mv (by rintro t (rfl|rfl)<;>decide);have keep:∀k,k<w.heap.size->k≠W->¬R.FI k->some k≠(Value.slice la m c).ownBlock->w'.heap[k]?=w.heap[k]?:=fun k h1 h2 h3 C=>a.block k h1 (by
  rintro(e|e|e)
  ·exact h2 e
  ·exact h3 e
  ·exact C e)
 have qP:∀k,tg k≠(0,0)->k≠W->w'.heap[k]?=w.heap[k]?:=fun k h1 h2=>keep k (h.fresh.lt h1) h2 (fun e=>h1 (d k (.inl e))) (fun e=>h1 (d k (.inr e)));refine⟨{ R with ia:=some (eI o 0),ic:=c4,js:=q,FI:=fun k=>R.FI k\/some k=(Value.slice la m c).ownBlock\/(w.heap.size<=k/\k<w'.heap.size) },⟨sw,h.old,wl h.size a.size,h.brk,z,h.Dq,⟨?_,x,y,h.w3.twin,h.w3.at_,nA sw⟩,?_,h.rO,?_,h.rP,?_,?_,v,?_,?_,A,h.slot,B,h.cnt⟩,?_⟩
 ·refine h.w3.law.reset (fun _ h=>h) (fun J K L M N j=>?_) (fun k i hk2=>qP k (by rw[i];decide) hk2)
  rw[hW]at j;simp only[mZ,Tc,KV,sG,wC]at j;obtain⟨D,E,e2,F,G⟩:=j;rw[u,D,E,e2,F,G];rfl
 ·exact eQ h.Ck (fun g hg=>qP g (by rw[h.rO g hg];decide) (fun e=>by have:=h.rO g hg;rw[e,h.fW]at this;cases this))
 ·exact eQ h.gz (fun g hg=>qP g (by rw[h.rP g hg];decide) (fun e=>by have:=h.rP g hg;rw[e,h.fW]at this;cases this))
 ·exact h.names.keep (fun k hk=>keep k (h.names.lt k hk) (nFW k (.inl hk)) (fun e=>(h.apart k).2.1 ⟨hk,e⟩) (fun e=>(b k e.symm).2.2.1 hk)) a.size
 ·exact h.eR.keep (fun k hk=>keep k (h.eR.lt k hk) (nFW k (.inr (.inl hk))) (fun e=>(h.apart k).2.2 ⟨hk,e⟩) (fun e=>(b k e.symm).2.2.2.1 hk)) a.size
 ·rintro k (e|e|e|e|e)
  ·exact h.holds k (.inl e)
  ·exact h.holds k (.inr (.inl e))
  ·exact h.holds k (.inr (.inr e))
  ·exact⟨(b k e.symm).1,(b k e.symm).2.1⟩
  ·exact⟨h.fresh k e.1,wl h.size e.1⟩
 ·refine fun k=>⟨(h.apart k).1,?_,?_⟩
  ·rintro⟨f,e|e|e⟩
   ·exact(h.apart k).2.1 ⟨f,e⟩
   ·exact(b k e.symm).2.2.1 f
   ·have:=h.names.lt k f;omega
  ·rintro⟨f,e|e|e⟩
   ·exact(h.apart k).2.2 ⟨f,e⟩
   ·exact(b k e.symm).2.2.2.1 f
   ·have:=h.eR.lt k f;omega
 ·exact h.low a (by
   rintro k (e|e|e)
   ·exact .inl (by rw[e,h.fW];decide)
   ·exact .inr (h.holds k (.inr (.inr e))).2
   ·exact .inr (b k e.symm).2.1)
theorem fF.still(h:fF R tg w B0 W s r p lim ey eC got ws ds q8 q9 fV)(h8:4*q8<=1000000000)(a:4*q9<=1000000000)(b:4*fV<=1000000000):
  gc 24 #[.pointer (some (eI W 8))] w (pB (.bool true) w):=by
 obtain⟨m,a1,a2,a3,n,hW⟩:=h.block;have c:w.cell? (eI W 8)=some (.slice R.na (4*q8) R.nc):=by simp[World.cell?,hW]
 have d:w.cell? (eI W 9)=some (.slice R.ea (4*q9) R.ec):=by simp[World.cell?,hW]
 have k:w.cell? (eI W 10)=some (.slice none 0 0):=by simp[World.cell?,hW]
 have e:w.cell? (eI W 11)=some (.slice R.ia (4*fV) R.ic):=by simp[World.cell?,hW]
 have f:=h.names.row;have g:=h.eR.row;have j:=h.ids.row;rw[<-h.names.len]at c h8 f;rw[<-h.eR.len]at d a g;rw[<-h.ids.len]at e b j;have l:W<w.heap.size:=(nX.1 hW).1;refine LV W R.na R.ea R.ia R.nc R.ec R.ic R.ns R.hs R.js w l c d k e f g j h.names.full h.eR.full h.ids.full h8 a b (fun x hx=>?_) (fun x hx=>?_) (fun x hx=>?_)
 ·obtain⟨i,hi,rfl⟩:=pg hx
  exact(h.names.lists i hi).1
 ·obtain⟨i,hi,rfl⟩:=pg hx
  have:=(h.eR.lists i hi).1
  omega
 ·obtain⟨i,hi,rfl⟩:=pg hx
  exact(h.ids.lists i hi).1
theorem fF.Ai(h:fF R tg w B0 W s r p lim ey eC got ws ds q8 q9 fV):W3 ⟨R.pt,p,ey⟩ (fun k=>tg k=(0,1)) (fun k=>tg k=(0,2)) (fun k=>tg k=(1,0)) w W s r ey eC (.slice R.wa ws.length R.wc) (.slice R.ta ds.length R.tc) (.bool false) (.slice R.na (4*q8) R.nc) (.slice R.ea (4*q9) R.ec) (.slice none 0 0) (.slice R.ia (4*fV) R.ic):=⟨h.w3.law,h.w3.ref,⟨h.w3.uu.1,oU _,h.w3.uu.2.2⟩,h.w3.twin,h.w3.at_,h.w3.sep⟩
theorem fF.ED{d i m n:Nat->Prop}{q D:List Ob}{u:fD}{v y:Nat}{E:List gf}(h:fF R tg w B0 W s r p lim ey eC got ws ds q8 q9 fV)
  (h':W3 ⟨R.pt,p,ey⟩ d i m w' W s r q D (.slice R.wa ws.length R.wc) (.slice R.ta ds.length R.tc) (.bool false) (.slice R.na (4*q8) R.nc) (.slice u (4*y) v) (.slice none 0 0) (.slice R.ia (4*fV) R.ic))(H:Held n w' u v y E)(I:∀k,n k->¬F3 d i m k)
  (z:yq (fun k=>tg k=(0,1)) (fun k=>tg k=(0,2)) (fun k=>tg k=(1,0)) d i m w.heap.size)(A:∀k,n k->R.FE k\/w.heap.size<=k)(a:eA (fun k=>F3 (fun k=>tg k=(0,1)) (fun k=>tg k=(0,2)) (fun k=>tg k=(1,0)) k\/R.FE k) w w'):
  ∃J eF l,q=ey++l/\fF J eF w' B0 W s r p lim q D got ws ds q8 y fV/\Below B0 w w':=by
 classical
 obtain⟨l,rfl⟩:∃l,q=ey++l:=by
  obtain⟨l,hl⟩:=h'.uu.2.1;exact⟨l,hl.symm⟩
 obtain⟨eF,b⟩:∃eF:eV,eF=fun k=>if k<w.heap.size then tg k else if d k then(0,1)else if i k then(0,2)else if m k then(1,0) else(0,0):=⟨_,rfl⟩;have t1:∀k,k<w.heap.size->eF k=tg k:=fun k hk=>by rw[b];exact ie hk
 have o:=a.size;have B:jt eF w':=fun k Q=>by
  rw[b];simp only;rw[fY (by omega),fY (fun e=>by have:=h'.sep.ll k e;omega),fY (fun e=>by have:=(h'.sep.rl k e).1;omega),fY (fun e=>by have:=(h'.sep.sl k e).1;omega)]
 have K:∀k,d k->eF k=(0,1):=fun k hk=>by
  rcases(z k).1 hk with e|e
  ·exact(t1 k (h.w3.sep.ll k e)).trans e
  ·rw[b];simp only;rw[fY (by omega),ie hk]
 have L:∀k,i k->eF k=(0,2):=fun k hk=>by
  rcases(z k).2.1 hk with e|e
  ·exact(t1 k (h.w3.sep.rl k e).1).trans e
  ·rw[b];simp only;rw[fY (by omega),fY (h'.sep.rl k hk).2,ie hk]
 have tS:∀k,m k->eF k=(1,0):=fun k hk=>by
  rcases(z k).2.2 hk with e|e
  ·exact(t1 k (h.w3.sep.sl k e).1).trans e
  ·rw[b];simp only;rw[fY (by omega),fY (h'.sep.sl k hk).2,fY (fun e=>h'.sep.rs k e hk),ie hk]
 have M:∀k,n k->eF k=(0,0)/\B0<=k:=fun k hk=>by
  rcases A k hk with e|e
  ·exact⟨(t1 k (h.eR.lt k e)).trans (h.holds k (.inr (.inl e))).1,(h.holds k (.inr (.inl e))).2⟩
  ·have hn:=I k hk
   refine⟨?_,wl h.size e⟩;rw[b];simp only;rw[fY (by omega),fY (fun x=>hn (.inl x)),fY (fun x=>hn (.inr (.inl x))),fY (fun x=>hn (.inr (.inr x)))]
 have keep:∀k,k<w.heap.size->tg k≠(0,1)->tg k≠(0,2)->tg k≠(1,0)->¬R.FE k->w'.heap[k]?=w.heap[k]?:=fun k h1 h2 h3 N O=>a.block k h1 (by
  rintro((e|e|e)|e)
  ·exact h2 e
  ·exact h3 e
  ·exact N e
  ·exact O e)
 have qP:∀k t,tg k=t->t≠(0,0)->t≠(0,1)->t≠(0,2)->t≠(1,0)->eF k=t/\w'.heap[k]?=w.heap[k]?:=fun k t hk h0 h1 h2 h3=>by
  have F:=h.fresh.lt (by rw[hk];exact h0);exact⟨(t1 k F).trans hk,keep k F (by rw[hk];exact h1) (by rw[hk];exact h2) (by rw[hk];exact h3) (fun e=>h0 (hk.symm.trans (h.holds k (.inr (.inl e))).1))⟩
 have mv:eB (fun t=>t=(0,0)\/t=(0,1)\/t=(0,2)\/t=(1,0)) tg eF w w':=⟨a.os,a.tape,a.output,o,t1,fun k hk hn=>keep k hk (fun e=>hn (.inr (.inl e))) (fun e=>hn (.inr (.inr (.inl e)))) (fun e=>hn (.inr (.inr (.inr e)))) (fun e=>hn (.inl (h.holds k (.inr (.inl e))).1)),fun _=>B⟩;refine⟨{ R with ea:=u,ec:=v,hs:=E,FE:=n },eF,l,rfl,⟨B,fun k hk=>(t1 k (lO hk h.size)).trans (h.old k hk),wl h.size o,h.brk,h.RU.moves mv (by rintro(e|e|e|e)<;>cases e),h.Dq,⟨h'.law.mono K,h'.ref.keep L (fun _ _=>rfl),⟨h'.uu.1.keep (fun _ _ _=>rfl) (fun k _ hk=>tS k hk),List.nil_prefix,h'.uu.2.2⟩,h'.twin,h'.at_,nA B⟩,?_,?_,?_,?_,?_,H,?_,?_,?_,?_,h.slot,?_,h.cnt⟩,?_⟩
 ·exact eQ h.Ck (fun g hg=>(qP g _ (h.rO g hg) (by decide) (by decide) (by decide) (by decide)).2)
 ·exact fun g hg=>(qP g _ (h.rO g hg) (by decide) (by decide) (by decide) (by decide)).1
 ·exact eQ h.gz (fun g hg=>(qP g _ (h.rP g hg) (by decide) (by decide) (by decide) (by decide)).2)
 ·exact fun g hg=>(qP g _ (h.rP g hg) (by decide) (by decide) (by decide) (by decide)).1
 ·exact h.names.keep (fun k hk=>keep k (h.names.lt k hk) (by rw[(h.holds k (.inl hk)).1];decide) (by rw[(h.holds k (.inl hk)).1];decide) (by rw[(h.holds k (.inl hk)).1];decide) (fun e=>(h.apart k).1 ⟨hk,e⟩)) o
 ·exact h.ids.keep (fun k hk=>keep k (h.ids.lt k hk) (by rw[(h.holds k (.inr (.inr hk))).1];decide) (by rw[(h.holds k (.inr (.inr hk))).1];decide) (by rw[(h.holds k (.inr (.inr hk))).1];decide) (fun e=>(h.apart k).2.2 ⟨e,hk⟩)) o
 ·rintro k (e|e|e)
  ·exact⟨(t1 k (h.names.lt k e)).trans (h.holds k (.inl e)).1,(h.holds k (.inl e)).2⟩
  ·exact M k e
  ·exact⟨(t1 k (h.ids.lt k e)).trans (h.holds k (.inr (.inr e))).1,(h.holds k (.inr (.inr e))).2⟩
 ·refine fun k=>⟨?_,(h.apart k).2.1,?_⟩
  ·rintro⟨e,f⟩
   rcases A k f with f|f
   ·exact(h.apart k).1 ⟨e,f⟩
   ·have:=h.names.lt k e;omega
  ·rintro⟨f,e⟩
   rcases A k f with f|f
   ·exact(h.apart k).2.2 ⟨f,e⟩
   ·have:=h.ids.lt k e;omega
 ·intro x hx
  exact((h.xK x hx).app h.w3.uu.2.2.1.sound l).moves mv (fun c hc=>by have:=(h.xK x hx).two;rcases hc with e|e|e|e<;>(have:=xr Prod.fst e;simp only at this;omega))
 ·intro j hj
  obtain⟨na,nc,da,dc,P⟩:=h.MW j hj;have C:∀c,c<8->((0,8+j):Nat×Nat)≠(0,c):=fun c hc e=>by have:=xr Prod.snd e;simp only at this;omega
  have G:=fun k (hk:tg k=(0,8+j))=>qP k _ hk (C 0 (by omega)) (C 1 (by omega)) (C 2 (by omega)) (fun e=>by cases e);exact⟨na,nc,da,dc,P.keep (fun k hk=>(G k hk).1) (fun k hk=>(G k hk).2)⟩
 ·refine⟨a.os,a.tape,a.output,o,fun k hk=>?_⟩
  have h0:=h.old k hk;exact keep k (lO hk h.size) (by rw[h0];decide) (by rw[h0];decide) (by rw[h0];decide) (fun e=>by have:=(h.holds k (.inr (.inl e))).2;omega)
theorem fF.step(h:fF R tg w B0 W s r p lim ey eC got ws ds q8 q9 fV)(hq:4*q9<=1000000000)(o:Step)(ho:o.Fits w)(hk:1<=o.kind/\o.kind<=5):
  gc 20 #[hh W,o.val] w fun e w'=>e=.returned (.bool true)/\∃b eF l c a,a<=q9+1/\fF b eF w' B0 W s r p lim (ey++l) c got ws ds q8 a fV/\Below B0 w w':=by
 have n3:∀k,tg k=(0,0)->¬F3 (fun k=>tg k=(0,1)) (fun k=>tg k=(0,2)) (fun k=>tg k=(1,0)) k:=fun k hk e=>by
  rcases e with e|e|e<;>(rw[hk]at e;cases e)
 refine(LM h.Ai h.eR (fun k hk=>n3 k (h.holds k (.inr (.inl hk))).1) hq o ho hk).mono ?_;rintro e w' ⟨d,a,hq',t,u,v,x,y,c,z,A,B,h',f,g,i,j,m⟩;obtain⟨b,eF,l,rfl,n,q⟩:=h.ED h' f g i j m;exact⟨d,b,eF,l,c,a,hq',n,q⟩
end
end Go.Proofs.YtlgidcmmgohagaaGreat
