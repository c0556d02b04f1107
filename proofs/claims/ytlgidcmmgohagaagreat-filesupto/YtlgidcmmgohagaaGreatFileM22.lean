/- What is proved here: Stat of a tree. -/
import Derived.Test.YtlgidcmmgohagaaGreatFileM21
import Derived.Test.YtlgidcmmgohagaaGreatFileM02
import Derived.Test.YtlgidcmmgohagaaGreatFileM04
import Derived.Test.YtlgidcmmgohagaaGreatFileM16
import Derived.Test.YtlgidcmmgohagaaGreatFileM14
import Derived.Test.YtlgidcmmgohagaaGreatFileM19
import Derived.Deep.RegionHeld3
import Derived.Test.YtlgidcmmgohagaaGreatFileM18
import Derived.Test.YtlgidcmmgohagaaGreatFileM20
import Derived.Shelf.Small.Bits
import Derived.Shelf.Small.Strs
import Derived.Shelf.Strconv.Itoa0
import Derived.Shelf.LaysM
import Derived.Shelf.Strconv.Clone
import Derived.Shelf.Strings.Search1
import Derived.Shelf.Strings.Search2
import Derived.Shelf.Strings.Cut
import Derived.Shelf.Strings.Shaped
import Derived.Shelf.SlGeneric
import Derived.Shelf.SlSortCmp.SmallK
import Derived.Ground.SlsfProg
import Derived.Test.YtlgidcmmgohagaaGreatProg
import Derived.Shelf.SlSortCmp.NoneTotal
import Derived.Maps.AppendAt
import Derived.Test.YtlgidcmmgohagaaGreatRows
import Derived.Deep.Slices
import Derived.Deep.Strs
import Derived.ChangeShapes
import Derived.WalkLawsBesides
import Derived.Test.YtlgidcmmgohagaaGreatFileM08
import Derived.Test.YtlgidcmmgohagaaGreatFileM13
import Derived.Test.YtlgidcmmgohagaaGreatFileM12
import Derived.Test.YtlgidcmmgohagaaGreatFileM11
namespace Go.Proofs.YtlgidcmmgohagaaGreat
open Go.RowKit Go.Sort Go.Shelf
set_option linter.unusedVariables false
set_option maxRecDepth 100000
set_option maxHeartbeats 16000000
section
variable {s i p:Nat}{B:WB}{ei:List Ob}
theorem E7(t sF:Nat)(a b c f g nm d:eu)(id er:Int)(R:World->Prop)(w:World)(ht:t<w.heap.size)(hid:id≠0)(c1:w.cell? (eb t 1)=some (fj sF))
  (hg:∀W,gS w W->eK 213 #[fj sF,ed id] W fun e w'=>e=.returned (.tuple #[.string d,ed er])/\R w'):
  eK 214 #[fj t,.agg (ii a b c f g),.agg #[.string nm,ed 1,ed id]] w fun j w'=>j=.returned (.tuple #[.string d,ed er])/\R w':=by
 have h:gS w ((w.alloc (.cells (ii a b c f g) 147)).alloc (.cells #[.string nm,ed 1,ed id] 96)).drew:=eQ (((i7 _ _).alloc (io _) _).alloc (by simp) _);have i:=hg _ h;have k:Hid _:=i;have m:(id==0)=false:=by simpa using hid
 clear hg i h;go_enter Tryz.func214,Tryz.ntmps214;go_wp2
 go_region_with(go_at_call 213;refine g7 k.out ?_;rintro e n ⟨rfl,l⟩)
 all_goals
  go_wp2;go_ret2;exact⟨rfl,l⟩
theorem zb(t:Nat)(a b c f g nm d:eu)(id er:Int)(hd:d.size<=256)(R:World->Prop)(w:World)
  (i:eK 214 #[fj t,.agg (ii a b c f g),.agg #[.string nm,ed 1,ed id]] ((w.alloc (.cells (ii a b c f g) 147)).alloc (.cells #[.string nm,ed 1,ed id] 96)) fun h w'=>h=.returned (.tuple #[.string d,ed er])/\R w'):
  eK 183 #[fj t,.agg (ii a b c f g),.agg #[.string nm,ed 1,ed id]] w fun h w'=>h=.returned (.tuple #[ed (d.size:Int),ed er])/\R w':=by
 have j:Hid _:=i;clear i;go_enter Tryz.func183,Tryz.ntmps183;go_wp2_with fail;refine g7 j.out ?_;rintro e l ⟨rfl,k⟩;go_wp2;go_ret2;exact⟨rfl,k⟩
theorem Ma(t n:Nat)(b d f g h nm:eu)(id er:Int)(R:World->Prop)(w:World)
  (j:eK 187 #[fj t,.agg (ii b d f g h),.agg #[.string nm,ed 2,ed id]] ((w.alloc (.cells (ii b d f g h) 147)).alloc (.cells #[.string nm,ed 2,ed id] 96)) fun i w'=>∃a c,i=.returned (.tuple #[.slice a n c,ed er])/\R w'):
  eK 183 #[fj t,.agg (ii b d f g h),.agg #[.string nm,ed 2,ed id]] w fun i w'=>i=.returned (.tuple #[ed (n:Int),ed er])/\R w':=by
 have k:Hid _:=j;clear j;go_enter Tryz.func183,Tryz.ntmps183;go_wp2_with fail;refine g7 k.out ?_;rintro e m ⟨a,c,rfl,l⟩;go_wp2;go_ret2;exact⟨rfl,l⟩
theorem Mb(t:Nat)(c d f g h a:eu)(k id sz er:Int)(R:World->Prop)(j:World->Prop)(w:World)
  (l:eK 136 #[fj t,.agg (ii c d f g h)] ((w.alloc (.cells (ii c d f g h) 147)).alloc (.cells #[ed 0,ed 0] 141)) fun e w'=>e=.returned (.tuple #[.agg #[.string a,ed k,ed id],ed 0])/\gw w' (w.heap.size+1)/\(∀o,w'.cell? (eb w.heap.size o)=((w.alloc (.cells (ii c d f g h) 147)).alloc (.cells #[ed 0,ed 0] 141)).cell? (eb w.heap.size o))/\R w')
  (m:∀w',R w'->gw w' (w.heap.size+1)->eK 183 #[fj t,.agg (ii c d f g h),.agg #[.string a,ed k,ed id]] (w'.alloc (.cells #[.string a,ed k,ed id] 96)) fun e b=>e=.returned (.tuple #[ed sz,ed er])/\gw b (w.heap.size+1)/\(∀o,b.cell? (eb w'.heap.size o)=(w'.alloc (.cells #[.string a,ed k,ed id] 96)).cell? (eb w'.heap.size o))/\w'.heap.size<b.heap.size/\j b):
  eK 126 #[fj t,.agg (ii c d f g h)] w fun e w'=>e=.returned (.tuple #[.agg (if er=0 then #[ed k,ed sz]else #[ed 0,ed 0]),ed er])/\∃b,j b/\b.grownBy w' (some (w.heap.size+1)):=by
 have n:Hid _:=l;have p:Hid _:=m;clear l m;go_enter Tryz.func126,Tryz.ntmps126;go_wp2_with fail;refine g7 n.out ?_;rintro e w3 ⟨rfl,i,y,q⟩;obtain⟨z,c0,c1,f0⟩:=i.cells;have A:w.heap.size<w3.heap.size:=by omega
 have hs:=p.out w3 q i;have r:Hid _:=hs;clear i q n p hs;go_wp2_with fail;refine g7 r.out ?_;rintro e b ⟨rfl,s,B,C,u⟩;obtain⟨D,d0,d1,g0⟩:=s.cells;have x:Hid _:=u;clear s u r;by_cases her:er=0
 ·subst her
  go_wp2;refine jr (v:=.tuple #[.agg #[ed k,ed sz],ed 0]) (by simp[results,Tryz.results126,go_sem,d0,d1]) rfl ?_;exact⟨rfl,b,x.out,lj (lj (pp _ _))⟩
 ·have E:(er==0)=false:=by simpa using her
  have F:Hid _:=her;clear her;go_wp2;refine jr (v:=.tuple #[.agg #[ed 0,ed 0],ed er]) (by simp[results,Tryz.results126,go_sem,d0,d1]) rfl ?_;exact⟨rfl,b,x.out,lj (lj (pp _ _))⟩
theorem Ie{tg:eM}{w:World}{g:WG}{lim f:Nat}{d nm:eu}{c:FS}{er:Int}(h:eH tg w s i p B ei g lim)(hl:lim<1099511627776)(o:qB ei g.fl){q:eB}(hq:Good q)(hf:g.ft.of q=some f){x:Int×eu}(hx:g.fl f=some x)(r:po ei g.fl g.fs f=(c,er,d)):
  eK 214 #[fj B.bt,.agg (et q),.agg #[.string nm,ed 1,ed 0]] w fun t w'=>t=.returned (.tuple #[.string d,ed er])/\iq s i p B ei tg w w' { g with fs:=c } (lim+1):=by
 have a:gS w ((w.alloc (.cells (et q) 147)).alloc (.cells #[.string nm,ed 1,ed 0] 96)).drew:=eQ (((i7 _ _).alloc (io _) _).alloc (by simp) _);have hlk:=h.wp.nY.T8 hq a;rw[hf]at hlk;have b:=lR (h.below a) hl o hx;rw[r]at b;obtain⟨z,t7,t8⟩:=h.qz;obtain⟨j,k,l,m,n,u⟩:∃j k l m n,et q=(ii j k l m n):=⟨_,_,_,_,_,rfl⟩;rw[u]at hlk a b ⊢;simp only[jS,nG,ptr]at hlk;have v:Hid _:=a;have y:Hid _:=b;clear h a b;go_enter Tryz.func214,Tryz.ntmps214;go_wp2
 go_region_with(go_at_call 181;refine g7 y.out ?_;rintro e A ⟨rfl,hD⟩)
 all_goals
  go_wp2;go_ret2;exact⟨rfl,hD.via v.out⟩
end


variable {ft:fQ}
variable {ft:fQ}

variable {ft:fQ}
variable {ft:fQ}
section
variable {s i p:Nat}{B:WB}{ei:List Ob}
end

theorem Rt{w:World}{b:Nat}{c:Array Value}{t:fL}{z:Nat×Nat}(h:w.heap[b]?=some (.cells c t z))(o:Nat):w.cell? (eb b o)=c[o]?:=by simp[World.cell?,h]

section
variable {s i p:Nat}{B:WB}{ei:List Ob}
end
abbrev comp (l:eB)(k:Nat):eu:=l.getD k ⟨#[]⟩
section
variable {s i p:Nat}{B:WB}{ei:List Ob}
theorem apart{q a:eB}{x y:eu}(h:x≠y)(h1:q++[x] <+: a):¬q++[y] <+: a:=by
 rintro⟨l,rfl⟩;obtain⟨b,h2⟩:=h1;rw[iK,iK]at h2
 have:=BO h2
 simp at this;exact h this.1
theorem Mc{tg:eM}{w:World}{g:WG}{lim:Nat}{t:LT}(h:eH tg w s i p B ei g lim)(hl:lim+10<1099511627776)(hF:Flat ei t g.ft)(G:eL ei 5 t)(z:qB ei g.fl){q:eB}(hq:Good q){c:LT}(n:t.at ei q=some c)(nm:eu):
  eK 183 #[fj B.bt,.agg (et q),.agg #[.string nm,ed c.kind,ed c.id]] w fun o w'=>o=.returned (.tuple #[ed (xi ei g.fl g.fs c).2.2,ed (xi ei g.fl g.fs c).2.1])/\iq s i p B ei tg w w' { g with fs:=(xi ei g.fl g.fs c).1 } (lim+1):=by
 have hS:=h.st.sound;obtain⟨_,b,_⟩:=mf hS q G n;have j:∀k id:Int,gS w ((w.alloc (.cells (et q) 147)).alloc (.cells #[.string nm,ed k,ed id] 96)):=fun k id=>((i7 _ _).alloc (io _) _).alloc (by simp) _;have A:∀{m:Nat} (c:LT),c.kind=2->eL ei m c->t.at ei q=some c->(c.id≠0->eC ei c.id=2)->xi ei g.fl g.fs c=((lO ei g.fs c).1,(lO ei g.fs c).2.1,((lO ei g.fs c).2.2.length:Int))->
   eK 183 #[fj B.bt,.agg (et q),.agg #[.string nm,ed 2,ed c.id]] w fun o w'=>o=.returned (.tuple #[ed (xi ei g.fl g.fs c).2.2,ed (xi ei g.fl g.fs c).2.1])/\iq s i p B ei tg w w' { g with fs:=(xi ei g.fl g.fs c).1 } (lim+1):=by
  intro m c hk H I hid l;have J:jP ei (nm,2,c.id):=⟨.inr rfl,hid⟩;have C:=qR hS hF H I g.fs nm;rw[hk]at C;have D:=qq (h.below (j 2 c.id)) (by omega) hq J;rw[C]at D;rw[l];refine Ma B.bt _ _ _ _ _ _ nm c.id _ (fun w'=>iq s i p B ei tg w w' { g with fs:=(lO ei g.fs c).1 } (lim+1)) w (D.mono ?_);rintro o w' ⟨v,E,ey,K,hW,L⟩;obtain⟨la,M,rfl⟩:=L.len;rw[kU]at E;exact⟨la,M,E,ey,jn (j 2 c.id) K,hW⟩
 cases c with
 |file id=>
  rw[eL]at b;have hid:id≠0:=fun e=>by have:=(wn (a:=ei) (id:=id) (by rw[b];decide)).1;omega
  have N:B.bt<w.heap.size:=(lF.1 h.wp.tree.ht).1;have O:=fun W (r:gS w W)=>OE (h.below r) (by omega) b;have h1:=h.below (j 1 id);have c1:((w.alloc (.cells (et q) 147)).alloc (.cells #[.string nm,ed 1,ed id] 96)).cell? (eb B.bt 1)=some (fj B.sF):=Rt h1.wp.tree.ht 1;have P:(if(g.fs.fA id).2=true then bytesOf ei id else fy).size<=256:=by
   split
   ·exact h.st.y9 b
   ·decide
  have:=zb B.bt _ _ _ _ _ nm (if(g.fs.fA id).2=true then bytesOf ei id else fy) id (if(g.fs.fA id).2=true then 0 else 14) P (fun w'=>iq s i p B ei tg w w' { g with fs:=(g.fs.fA id).1 } (lim+1)) w (E7 B.bt B.sF _ _ _ _ _ nm _ id _ _ _ (kv N (j 1 id).size) hid c1 (fun W r=>(O W (em (j 1 id) r)).mono (fun e w' ⟨h1,ey,m,hW⟩=>⟨h1,ey,jn (em (j 1 id) r) m,hW⟩)))
  have l:xi ei g.fl g.fs (.file id)=if(g.fs.fA id).2 then((g.fs.fA id).1,0,((bytesOf ei id).size:Int)) else((g.fs.fA id).1,14,0):=rfl;rw[l];cases F:(g.fs.fA id).2 with
  |true=>rw[F]at this;exact this
  |false=>rw[F]at this;exact this
 |held f=>
  have F8:g.ft.of q=some f:=by rw[hF.of,n];rfl
  obtain⟨x,hx⟩:=h.wp.held q f F8;obtain⟨u,er,d,y⟩:∃u er d,po ei g.fl g.fs f=(u,er,d):=⟨_,_,_,rfl⟩;have l:xi ei g.fl g.fs (.held f)=(u,er,(d.size:Int)):=by simp only[xi,y]
  rw[l];have Q:=rB h z y;exact zb B.bt _ _ _ _ _ nm d 0 er Q _ w ((Ie (nm:=nm) (h.below (j 1 0)) (by omega) z hq F8 hx y).mono (fun e w' ⟨h1,h2⟩=>⟨h1,h2.via (j 1 0)⟩))
 |dir id=>exact A (.dir id) rfl b n (fun h0=>by rw[eL]at b;exact b.1) rfl
 |own es=>exact A (.own es) rfl b n (fun h0=>absurd rfl h0) rfl
theorem Md{tg:eM}{w:World}{g:WG}{lim:Nat}{t:LT}(h:eH tg w s i p B ei g lim)(hl:lim+100<1099511627776)(hF:Flat ei t g.ft)(x:eL ei 5 t)(F:qB ei g.fl){r:eB}(hq:Good r.reverse):
  eK 126 #[fj B.bt,.agg (et r.reverse)] w fun e w'=>e=.returned (.tuple #[.agg #[ed (gB ei g.fl t g.fs r).2.2.1,ed (gB ei g.fl t g.fs r).2.2.2],ed (gB ei g.fl t g.fs r).2.1])/\iq s i p B ei tg w w' { g with fs:=(gB ei g.fl t g.fs r).1 } (lim+20):=by
 have hi:=h.two;have hS:=h.st.sound;have j:=E6 w r.reverse;have y:=Ic w r.reverse;have pN:tg (w.heap.size+1)=(0,0):=h.st.fresh _ (by omega);have G:tg w.heap.size=(0,0):=h.st.fresh _ (by omega);have Q:r.length<=5:=by have:=hq.len;simpa using this
 have k:=qs (s:=s) (i:=i) (p:=p) (B:=B) (ei:=ei) r tg _ g lim (h.below j) (by omega) hq;obtain⟨z,A,H⟩:=nM hS hF x g.fs r;by_cases her:(g5 ei t g.fs r).2.1=0
 ·obtain⟨I,J⟩:=H her
  rw[z,A,I,her]at k;have q:gB ei g.fl t g.fs r=(if(xi ei g.fl (g5 ei t g.fs r).1 (g5 ei t g.fs r).2.2).2.1≠0 then((xi ei g.fl (g5 ei t g.fs r).1 (g5 ei t g.fs r).2.2).1,(xi ei g.fl (g5 ei t g.fs r).1 (g5 ei t g.fs r).2.2).2.1,0,0) else((xi ei g.fl (g5 ei t g.fs r).1 (g5 ei t g.fs r).2.2).1,0,(g5 ei t g.fs r).2.2.kind,(xi ei g.fl (g5 ei t g.fs r).1 (g5 ei t g.fs r).2.2).2.2)):=by
   unfold gB;simp only[her];rfl
  generalize (g5 ei t g.fs r).2.2=c at *;generalize (g5 ei t g.fs r).1=d at *;have hw:=Mb B.bt _ _ _ _ _ (r.headD fy) c.kind c.id (xi ei g.fl d c).2.2 (xi ei g.fl d c).2.1 (fun w3=>∃l,eo (fo i) tg l ((w.alloc (.cells (et r.reverse) 147)).alloc (.cells #[ed 0,ed 0] 141)) w3/\eH l w3 s i p B ei { g with fs:=d } (lim+5)/\l (w.heap.size+1)=(0,0)) (fun w3=>iq s i p B ei tg ((w.alloc (.cells (et r.reverse) 147)).alloc (.cells #[ed 0,ed 0] 141)) w3 { g with fs:=(xi ei g.fl d c).1 } (lim+20)) w (k.mono ?_) ?_
  ·refine hw.mono ?_
   rintro e w' ⟨b,w3,hd,hg⟩;rw[q];by_cases f:(xi ei g.fl d c).2.1=0
   ·rw[eJ (fun h=>h f)]
    rw[fY f,f]at b;exact⟨b,uv h j (by simp) hd hg⟩
   ·rw[fY f]
    rw[eJ f]at b;exact⟨b,uv h j (by simp) hd hg⟩
  ·rintro e w' ⟨b,ey,m,hW⟩
   obtain⟨u,C⟩:=mY (j9 hi) pN m y;exact⟨b,u,fun o=>ig (a:=(eb w.heap.size o)) (m.block w.heap.size (by simp;omega) (by rw[G];exact j9 hi)),ey,m,hW.mono (by omega),C⟩
  ·rintro w3 ⟨l,K,D,L⟩ v
   have E:gS w3 (w3.alloc (.cells #[.string (r.headD fy),ed c.kind,ed c.id] 96)):=(i7 _ _).alloc (io _) _;refine(Mc (g:={ g with fs:=d }) (D.below E) (by omega) hF x F hq J (r.headD fy)).mono ?_;rintro e R ⟨b,M,n,N⟩;have O:gw (w3.alloc (.cells #[.string (r.headD fy),ed c.kind,ed c.id] 96)) (w.heap.size+1):=by
    unfold gw at v ⊢;rw[jU _ _ _ (lF.1 v).1];exact v
   refine⟨b,(mY (j9 hi) L n O).1,fun o=>ig (a:=(eb w3.heap.size o)) (n.block w3.heap.size (by simp) (by rw[D.st.fresh _ (io _)];exact j9 hi)),kv (by simp) n.size,M,K.trans (jn E n),N.mono (by omega)⟩
 ·have q:gB ei g.fl t g.fs r=((g5 ei t g.fs r).1,(g5 ei t g.fs r).2.1,0,0):=by
   unfold gB;simp only[fY her]
  rw[q];rw[z,A]at k;have P:((g5 ei t g.fs r).2.1==0)=false:=by simpa using her
  have hw:=L8 B.bt _ _ _ _ _ (findF ei g.ft g.fs r).2.2.1 (findF ei g.ft g.fs r).2.2.2.1 (findF ei g.ft g.fs r).2.2.2.2 (g5 ei t g.fs r).2.1 (fun w3=>iq s i p B ei tg ((w.alloc (.cells (et r.reverse) 147)).alloc (.cells #[ed 0,ed 0] 141)) w3 { g with fs:=(g5 ei t g.fs r).1 } (lim+20)) w P (k.mono ?_)
  ·refine hw.mono ?_
   rintro e w' ⟨b,w3,hd,hg⟩;exact⟨b,uv h j (by simp) hd hg⟩
  ·rintro e w' ⟨b,ey,m,hW⟩
   obtain⟨u,C⟩:=mY (j9 hi) pN m y;exact⟨b,u,ey,m,hW.mono (by omega)⟩
theorem T9{tg:eM}{w:World}{g:WG}{lim:Nat}{t:LT}(h:fT tg w s i p B ei g lim t)(hl:lim+1000<1099511627776){r:eB}(c:Good r.reverse):
  eK 67 #[fj B.wb,.string (i6 r.reverse)] w fun e w'=>e=.returned (.tuple #[.agg #[ed (gB ei g.fl t g.fs r).2.2.1,ed (gB ei g.fl t g.fs r).2.2.2],ed (gB ei g.fl t g.fs r).2.1])/\JK s i p B ei tg w w' (lim+400) (vC g (gB ei g.fl t g.fs r).1 t):=by
 obtain⟨f,c0⟩:=Td h.inv;have hi:=h.inv.two;have pN:tg w.heap.size=(0,0):=h.inv.st.fresh _ (io _);have hw:=Rp B.wb B.bt r.reverse c (gB ei g.fl t g.fs r).2.2.1 (gB ei g.fl t g.fs r).2.2.2 (gB ei g.fl t g.fs r).2.1 (fun a=>∃ey,eo (fo i) tg ey w a/\eH ey a s i p B ei { g with fs:=(gB ei g.fl t g.fs r).1 } (lim+20)/\ey w.heap.size=(0,0)) w f.1 c0 (fun W d j=>(Md (h.inv.below d) (by omega) h.flat h.ok h.fl c).mono ?_)
 ·refine hw.mono ?_
  rintro e w' ⟨b,a,⟨ey,m,hW,ht⟩,hg⟩;obtain⟨k,l,n⟩:=L9 hi m hW ht hg;exact⟨b,k,_,t,l.mono (fun t ht=>fo.mine ht),⟨n.mono (by omega),h.flat,h.ok,h.fl⟩,rfl,rfl,rfl,rfl,rfl⟩
 ·rintro e w' ⟨b,ey,m,hW⟩
  obtain⟨h1,h2⟩:=mY (j9 hi) pN m j;exact⟨b,h1,ey,jn d m,hW,h2⟩
end

section
variable {s i p:Nat}{B:WB}{ei:List Ob}
end
def big (ei:List Ob):Nat->LT->Nat
 |0,_=>1
 |n+1,t=>1+(((kids ei t).getD []).map fun x=>big ei n x.2).sum
theorem CL{ei:List Ob}{t:LT}{fs:FS}{r:eB}(h:(kq ei t fs r).2.1=0):∃d,t.at ei r.reverse=some d/\kids ei d=some (kq ei t fs r).2.2:=by
 exact(lq h).1
def eX (ei:List Ob)(t:LT):Prop:=∀x y b,t.at ei x=some (.held b)->t.at ei y=some (.held b)->x=y
theorem Ig{ei:List Ob}{t d:LT}{q:eB}{ks:Kids}(a:t.at ei q=some d)(hk:kids ei d=some ks)(m:eu)(r:eB):t.at ei (q++m::r)=(g8 ks m).bind fun c=>c.at ei r:=by
 rw[i1,a,my,h9,hk,my]
theorem vE{ei:List Ob}{t d:LT}{q:eB}{ks:Kids}{n:eu}(hr:eF ks)(a:t.at ei q=some d)(hk:kids ei d=some ks)(ht:g9 ks n=true){x:eB}{b:Nat}(h:(m1 ei (fun ks=>lh ks n) q t).at ei x=some (.held b)):t.at ei x=some (.held b)/\¬q++[n] <+: x:=by
 rcases DZ _ a hk h with⟨m,r,rfl,h1⟩|⟨h1,h2⟩
 ·rw[gN hr ht]at h1
  by_cases e:m=n
  ·rw[fY e]at h1;simp at h1
  ·rw[eJ e]at h1
   refine⟨by rw[Ig a hk];exact h1,?_⟩;rintro⟨l,hl⟩;rw[iK]at hl
   have:=BO hl
   simp at this;exact e this.1.symm
 ·exact⟨h2,fun hp=>h1 ((kV _ _).trans hp)⟩
theorem E8{ei:List Ob}{t d c:LT}{q:eB}{ks:Kids}{n:eu}(hr:eF ks)(a:t.at ei q=some d)(hk:kids ei d=some ks){x:eB}{b:Nat}(h:(m1 ei (fun ks=>n7 ks n c) q t).at ei x=some (.held b)):(∃r,x=q++n::r/\c.at ei r=some (.held b))\/(t.at ei x=some (.held b)/\¬q++[n] <+: x):=by
 rcases DZ _ a hk h with⟨m,r,rfl,h1⟩|⟨h1,h2⟩
 ·rw[qd hr]at h1
  by_cases e:m=n
  ·rw[fY e,my]at h1
   subst e;exact .inl ⟨r,rfl,h1⟩
  ·rw[eJ e]at h1
   refine .inr ⟨by rw[Ig a hk];exact h1,?_⟩;rintro⟨l,hl⟩;rw[iK]at hl
   have:=BO hl
   simp at this;exact e this.1.symm
 ·exact .inr ⟨h2,fun hp=>h1 ((kV _ _).trans hp)⟩
theorem CM{ei:List Ob}{t d c:LT}{q:eB}{ks:Kids}{n:eu}(hi:eX ei t)(hr:eF ks)(e:t.at ei q=some d)(hk:kids ei d=some ks)(hc:eX ei c)(hf:∀r b y,c.at ei r=some (.held b)->t.at ei y=some (.held b)->q++[n] <+: y):eX ei (m1 ei (fun ks=>n7 ks n c) q t):=by
 intro x y b hx g;rcases E8 hr e hk hx with⟨r,rfl,h1⟩|⟨h1,h2⟩<;>rcases E8 hr e hk g with⟨f,rfl,a⟩|⟨a,h⟩
 ·rw[hc r f b h1 a]
 ·exact absurd (hf r b y h1 a) h
 ·exact absurd (hf f b x a h1) h2
 ·exact hi x y b h1 a
theorem E9{ei:List Ob}{t d:LT}{q:eB}{ks:Kids}{n:eu}(hi:eX ei t)(hr:eF ks)(a:t.at ei q=some d)(hk:kids ei d=some ks)(ht:g9 ks n=true):eX ei (m1 ei (fun ks=>lh ks n) q t):=fun x y b hx c=>hi x y b (vE hr a hk ht hx).1 (vE hr a hk ht c).1
theorem Fa(ei:List Ob)(r:eB)(b:Nat):(LT.own []).at ei r≠some (.held b):=by
 cases r with
 |nil=>rw[k0];intro h;cases h
 |cons m r=>rw[h9];simp[kids,g8]
theorem Me{ei:List Ob}(hS:Sound ei){t:LT}(c:eL ei 5 t)(hi:eX ei t)(fs:FS)(n:eu)(r:eB):eX ei (y1 ei t fs (n::r)).2.2:=by
 unfold y1;simp only;split
 ·exact hi
 ·rename_i h0
  split
  ·exact hi
  ·split
   ·exact hi
   ·obtain⟨d,a,hk⟩:=CL (jq.1 h0)
    obtain⟨_,hd,_⟩:=mf hS _ c a;exact CM hi (jp hS hd hk).1 a hk (fun x y b hx=>absurd hx (Fa ei x b)) (fun r b y h=>absurd h (Fa ei r b))
theorem Ih{ei:List Ob}(hS:Sound ei){t:LT}(b:eL ei 5 t)(hi:eX ei t)(fs:FS)(n:eu)(r:eB):eX ei (se ei t fs (n::r)).2.2:=by
 unfold se;simp only;split
 ·exact hi
 ·rename_i hf
  split
  ·exact hi
  ·obtain⟨a,_,_,d,ks,h1,h2,h3⟩:=ux (ei:=ei) (t:=t) (fs:=fs) (n:=n) (r:=r) (fs':=(g5 ei t fs (n::r)).1) (c:=(g5 ei t fs (n::r)).2.2) (by rw[<-jq.1 hf])
   obtain⟨_,hd,_⟩:=mf hS _ b h1;have hr:=(jp hS hd h2).1;exact E9 hi hr h1 h2 (by rw[<-lr hr,h3];rfl)
theorem Ii{ei:List Ob}(hS:Sound ei){t:LT}(j:eL ei 5 t)(hi:eX ei t)(fs:FS)(n m:eu)(r q:eB):eX ei (ra ei t fs (n::r) (m::q)).2.2:=by
 unfold ra;simp only;split
 ·exact hi
 ·rename_i hf
  split
  ·exact hi
  ·rename_i nA
   split
   ·exact hi
   ·rename_i hlk
    split
    ·exact hi
    ·split
     ·exact hi
     ·obtain⟨a,_,_,d,ks,h1,h2,h3⟩:=ux (ei:=ei) (t:=t) (fs:=fs) (n:=n) (r:=r) (fs':=(g5 ei t fs (n::r)).1) (c:=(g5 ei t fs (n::r)).2.2) (by rw[<-jq.1 hf])
      generalize (g5 ei t fs (n::r)).2.2=c at a h3 ⊢;obtain⟨_,hd,_⟩:=mf hS _ j h1;have hr:=(jp hS hd h2).1;have f:g9 ks n=true:=by rw[<-lr hr,h3];rfl
      have o:t.at ei (r.reverse++[n])=some c:=(by rw[Ig h1 h2,h3,my,k0]);have g:∀x b,c.at ei x=some (.held b)->t.at ei ((r.reverse++[n])++x)=some (.held b):=fun x b hx=>by rw[i1,o,my];exact hx
      have p:(kq ei t (g5 ei t fs (n::r)).1 q).2.1=0:=jq.1 (fun h=>hlk (.inl h));obtain⟨B,s,u⟩:=CL p;have D1:¬(r.reverse++[n]) <+: q.reverse:=by
       intro h;refine nA ⟨?_,fun e=>hlk (.inr e)⟩;rw[nC,nC];exact h.trans (kV _ _)
      obtain⟨d1,C,k,l,_⟩:=ye hr h1 h2 f s u D1;have v:=tT hS j h1 h2 n;obtain⟨_,w,_⟩:=mf hS _ v k;refine CM (E9 hi hr h1 h2 f) (jp hS w l).1 k l (fun x y b hx i=>?_) (fun x b y hx i=>?_)
      ·exact BO (hi _ _ b (g x b hx) (g y b i))
      ·obtain⟨z,A⟩:=vE hr h1 h2 f i
       have:=hi _ _ b (g x b hx) z
       exact absurd ⟨x,this⟩ A
theorem Ru(f:Fn)(a:Array Value)(w:World):eK 114 #[.func f a #[]] w fun e w'=>e=.returned (.pointer (some (eb (w.heap.size+1) 0)))/\w'=(w.alloc (.map #[] 0)).alloc (.cells #[.func f a #[],.map (some w.heap.size)] 267):=by
 have b:=@run_makeMap Tryz.prog;go_enter Tryz.func114,Tryz.ntmps114;go_wp2;go_ret;exact⟨rfl,rfl⟩
theorem Rv(f:Fn)(a:Array Value)(w:World):eK 116 #[.func f a #[]] w fun e w'=>e=.returned (.pointer (some (eb (w.heap.size+1) 0)))/\w'=(w.alloc (.map #[] 0)).alloc (.cells #[.func f a #[],.map (some w.heap.size)] 271):=by
 have b:=@run_makeMap Tryz.prog;go_enter Tryz.func116,Tryz.ntmps116;go_wp2;go_ret;exact⟨rfl,rfl⟩
def oW (w:World)(p:Nat)(root:Int):World:=((((((w.alloc (.map #[] 0)).alloc (.cells #[.func (.func 115) #[ptr p] #[],.map (some w.heap.size)] 267)).alloc (.map #[] 0)).alloc (.cells #[.func (.func 117) #[ptr p] #[],.map (some (w.heap.size+2))] 271)).alloc (.map #[] 0)).alloc (.map #[] 0)).alloc (.cells #[ptr p,ptr (w.heap.size+1),ptr (w.heap.size+3),.int .i64 root,.string ⟨#[]⟩,.int .i64 2,.int .i64 root,.map (some (w.heap.size+4)),.map (some (w.heap.size+5))] 164)
theorem Pb(p:Nat)(root:Int)(w:World):eK 62 #[fj p,ed root] w fun e w'=>e=.returned (.pointer (some (eb (w.heap.size+6) 0)))/\w'=oW w p root:=by
 have h1:=fun a W=>Ru (.func 115) a W;have h2:=fun a W=>Rv (.func 117) a W;have c:=@run_makeMap Tryz.prog;go_enter Tryz.func62,Tryz.ntmps62;go_wp2_with(first
  |(go_at_call 114;refine g7 (h1 _ _) ?_;rintro e b ⟨rfl,rfl⟩)
  |(go_at_call 116;refine g7 (h2 _ _) ?_;rintro e b ⟨rfl,rfl⟩))
 go_ret;exact⟨rfl,rfl⟩
def kQ (w:World)(p:Nat)(root:Int):World:=(oW w p root).alloc (.cells #[ptr (w.heap.size+6),.pointer none,.pointer none,.pointer none,.pointer none,.pointer none,.pointer none,.pointer none,.pointer none] 91)
theorem Al(s p:Nat)(id:Int)(w:World)(hs:s<w.heap.size)(c0:w.cell? (eb s 0)=some (fj p))(hk:eK 61 #[fj p,ed id] w (ml (ed 2) w)):
  eK 27 #[fj s,ed id] w fun e w'=>∃a,gS w a/\e=.returned (.tuple #[.pointer (some (eb (a.heap.size+7) 0)),ed 0])/\w'=kQ a p id:=by
 have Pc:=fun W=>Pb p id W;have c:∀W,(oW W p id).heap.size=W.heap.size+7:=fun W=>by unfold oW;simp
 go_enter Tryz.func27,Tryz.ntmps27;go_wp2_with(first
  |(go_at_call 61;refine hk.mono ?_;rintro e a ⟨rfl,b⟩;have d0:=((gc b).1 s 0 hs).trans c0;have d:=kv hs b.size)
  |(go_at_call 62;refine g7 (Pc _) ?_;rintro e f ⟨rfl,rfl⟩))
 go_ret2;exact⟨a,b,rfl,rfl⟩
def U0 (n:Nat):WB:=⟨n+7,n+6,n+1,n+3,n,n+2,n+4,n+5⟩
def y2 (tg:eM)(n i:Nat):eM:=fun k=>if k<n then tg k else if k=n then(i,2)else if k=n+1 then(i,1)else if k=n+2 then(i,3)else if k=n+3 then(i,1)else if k=n+4 then(i,4)else if k=n+5 then(i,5)else if k=n+6 then(i,1)else if k=n+7 then(i,0) else(0,0)
theorem Ij(w:World)(p:Nat)(id:Int):(kQ w p id).heap.size=w.heap.size+8:=by unfold kQ oW;simp
theorem Fb(w:World)(p:Nat)(id:Int):gS w (kQ w p id):=by
 unfold kQ oW;exact(((((((((i7 w.heap.size w).alloc (io _) _).alloc (by simp) _).alloc (by simp;omega) _).alloc (by simp;omega) _).alloc (by simp;omega) _).alloc (by simp;omega) _).alloc (by simp;omega) _).alloc (by simp;omega) _)
theorem Ik(w:World)(p:Nat)(id:Int):
  (kQ w p id).heap[w.heap.size]?=some (.map #[] 0)/\(kQ w p id).heap[w.heap.size+1]?=some (.cells #[.func (.func 115) #[ptr p] #[],.map (some w.heap.size)] 267 (0,0))/\(kQ w p id).heap[w.heap.size+2]?=some (.map #[] 0)/\(kQ w p id).heap[w.heap.size+3]?=some (.cells #[.func (.func 117) #[ptr p] #[],.map (some (w.heap.size+2))] 271 (0,0))/\(kQ w p id).heap[w.heap.size+4]?=some (.map #[] 0)/\(kQ w p id).heap[w.heap.size+5]?=some (.map #[] 0)/\
  (kQ w p id).heap[w.heap.size+6]?=some (.cells #[ptr p,ptr (w.heap.size+1),ptr (w.heap.size+3),ed id,.string fy,ed 2,ed id,.map (some (w.heap.size+4)),.map (some (w.heap.size+5))] 164 (0,0))/\(kQ w p id).heap[w.heap.size+7]?=some (.cells #[ptr (w.heap.size+6),.pointer none,.pointer none,.pointer none,.pointer none,.pointer none,.pointer none,.pointer none,.pointer none] 91 (0,0)):=by
 unfold kQ oW World.alloc;simp only[TI,Array.size_push];refine⟨?_,?_,?_,?_,?_,?_,?_,?_⟩
 ·rw[eJ (by omega),eJ (by omega),eJ (by omega),eJ (by omega),eJ (by omega),eJ (by omega),eJ (by omega),fY trivial]
 all_goals simp
def Uo (id:Int)(got:List Int):WG:=⟨id,⟨id,fun _=>none,fun _=>none⟩,⟨got,false,fun _=>false,fun _=>false⟩,fun _=>none,fun _=>none⟩
section
variable {s i p:Nat}{ei:List Ob}
theorem Tf{tg:eM}{w:World}{got:List Int}{lim:Nat}(h:fO tg w s p ei got false lim)(hi:2<=i){id:Int}(hk:eC ei id=2):
  eo (fun _=>False) tg (y2 tg w.heap.size i) w (kQ w p id)/\eH (y2 tg w.heap.size i) (kQ w p id) s i p (U0 w.heap.size) ei (Uo id got) lim:=by
 have a:=Fb w p id;obtain⟨c,e,g,j,n,o,t,u⟩:=Ik w p id;have ht:∀k,k<w.heap.size->y2 tg w.heap.size i k=tg k:=fun k hk=>by unfold y2;rw[fY hk]
 have m:eo (fun _=>False) tg (y2 tg w.heap.size i) w (kQ w p id):=⟨a.os,a.tape,a.output,a.size,ht,fun k hk _=>a.block k hk,fun hf k hk=>by
  rw[Ij]at hk;unfold y2;rw[eJ (by omega),eJ (by omega),eJ (by omega),eJ (by omega),eJ (by omega),eJ (by omega),eJ (by omega),eJ (by omega),eJ (by omega)]⟩
 have t0:y2 tg w.heap.size i w.heap.size=(i,2):=by unfold y2;simp
 have t1:y2 tg w.heap.size i (w.heap.size+1)=(i,1):=by unfold y2;rw[eJ (by omega)];simp
 have t2:y2 tg w.heap.size i (w.heap.size+2)=(i,3):=by unfold y2;rw[eJ (by omega)];simp
 have t3:y2 tg w.heap.size i (w.heap.size+3)=(i,1):=by unfold y2;rw[eJ (by omega)];simp
 have t4:y2 tg w.heap.size i (w.heap.size+4)=(i,4):=by unfold y2;rw[eJ (by omega)];simp
 have t5:y2 tg w.heap.size i (w.heap.size+5)=(i,5):=by unfold y2;rw[eJ (by omega)];simp
 have t6:y2 tg w.heap.size i (w.heap.size+6)=(i,1):=by unfold y2;rw[eJ (by omega)];simp
 have t7:y2 tg w.heap.size i (w.heap.size+7)=(i,0):=by unfold y2;rw[eJ (by omega)];simp
 refine⟨m,hi,h.moves m (fun x=>x) (fun x=>x),⟨⟨t6,t1,t3,t,e,j⟩,⟨t0,0,fun _=>none,oY _,xu c,fun id=>rfl,fun id hx=>by cases hx⟩,⟨t2,0,fun _=>none,fun _=>.slice none 0 0,oY _,xu g,fun id=>rfl,fun id hx=>by cases hx⟩,⟨t4,⟨0,oY _,fun _=>none,xu n,fun _ _=>rfl,fun kl _ hx=>absurd rfl hx⟩,fun q f hx=>by cases hx⟩,⟨fun _=>.slice none 0 0,t5,⟨0,oY _,fun _=>none,xu o,fun _ _=>rfl,fun kl _ hx=>absurd rfl hx⟩,fun q es hx=>(by cases hx),fun q es hx=>(by cases hx),fun q r es fs v hx=>(by cases hx)⟩,fun f id d hx=>(by cases hx),fun q f hx=>(by cases hx),⟨t7,u,fun k hk=>rfl,fun k b f fg pl hx=>(by cases hx),fun k l x y hx=>(by cases hx)⟩,⟨fun _=>hk,fun q es hx=>(by cases hx)⟩⟩⟩
theorem oc(ei:List Ob):∀(q:eB) (id:Int),r9 ((LT.dir id).at ei q)=none/\GJ ((LT.dir id).at ei q)=none
 |[],id=>by rw[k0];exact⟨rfl,rfl⟩
 |n::r,id=>by
  rw[h9]
  show r9 ((g8 ((eR ei id).map Pl) n).bind _)=none/\GJ ((g8 ((eR ei id).map Pl) n).bind _)=none
  cases hp:g8 ((eR ei id).map Pl) n with
  |none=>exact⟨rfl,rfl⟩
  |some c=>
   obtain⟨e,_,a⟩:=H3.1 (l9 hp)
   have hc:c=ltOf e:=by unfold Pl at a;exact(Prod.mk.inj a).2.symm
   rw[my,hc]
   unfold ltOf
   split
   ·exact oc ei r _
   ·cases r with
    |nil=>rw[k0];exact⟨rfl,rfl⟩
    |cons m r=>rw[h9];exact⟨rfl,rfl⟩
theorem Pd(id:Int)(got:List Int):Flat ei (.dir id) (Uo id got).ft:=⟨rfl,rfl,fun q=>(oc ei q id).1.symm,fun q=>(oc ei q id).2.symm⟩
end

theorem Su{i:Nat}(hi:2<=i):¬Mine i (0,0):=by
 rintro(h|h)
 ·cases h
 ·simp only at h;omega
theorem Mf{tg:eM}{w:World}{s p i:Nat}{ei:List Ob}{got:List Int}{lim:Nat}(h:fO tg w s p ei got false lim)(hi:2<=i){id:Int}(c:eL ei 5 (.dir id)):
  eK 27 #[fj s,ed id] w fun e w'=>∃B:WB,e=.returned (.tuple #[fj B.wb,ed 0])/\∃ey,eo (fun _=>False) tg ey w w'/\fT ey w' s i p B ei (Uo id got) lim (.dir id):=by
 have hk:eC ei id=2:=by rw[eL]at c;exact c.1
 have h0:=h;obtain⟨pN,ft,l,b,n⟩:=h;obtain⟨a,cap,bf,bd,Df,Dd,b⟩:=b;have hs:s<w.heap.size:=(lF.1 b.hs).1;have mC:=nI p a ei.length cap bf bd ei id w b.fZ;rw[hk]at mC;refine(Al s p id w hs b.c0 mC).mono ?_;rintro e w' ⟨g,j,rfl,rfl⟩;have k:fO tg g s p ei got false lim:=h0.moves (P:=fun _=>False) (eo.ew j) (fun h=>h) (fun h=>h);obtain⟨m,hW⟩:=Tf k (i:=i) hi hk;exact⟨U0 g.heap.size,rfl,_,(eo.ew j).trans m,⟨hW,Pd id got,c,(fun f id d hx=>by cases hx)⟩⟩

def iE (a:List Ob)(fl:Nat->Option (Int×eu)):ul:=fun f=>match fl f with
 |none=>⟨#[]⟩
 |some (id,d)=>if id≠0 then bytesOf a id else d

end Go.Proofs.YtlgidcmmgohagaaGreat
namespace Go.Proofs
open Go.Shelf
end Go.Proofs
namespace Go.Proofs.YtlgidcmmgohagaaGreat
open Go.RowKit Go.Sort Go.Shelf
set_option linter.unusedVariables false
set_option maxRecDepth 100000
set_option maxHeartbeats 16000000


section
variable {s i p:Nat}{B:WB}{ei:List Ob}
end
theorem Pe{ei:List Ob}(a:Exact ei):∀(n:Nat) (c:LT),eL ei n c->H2 ei n c<=n
 |n,.file id,h=>by
  have hk:eC ei id=1:=by cases n<;>simpa [eL]using h
  have:H2 ei n (.file id)=eY ei id:=by cases n<;>rfl
  rw[this,a.low id hk];omega
 |n,.held f,_=>by
  have:H2 ei n (.held f)=0:=by cases n<;>rfl
  rw[this];omega
 |n,.dir id,h=>by
  have hk:eY ei id<=n:=by cases n<;>(rw[eL]at h;exact h.2)
  have:H2 ei n (.dir id)=eY ei id:=by cases n<;>rfl
  rw[this];exact hk
 |0,.own es,_=>by rw[H2];omega
 |n+1,.own es,h=>by
  rw[eL]at h
  rw[H2,tB]
  refine⟨by omega,fun x hx=>?_⟩
  have:=Pe a n x.2 (h.2.2 x hx).2
  omega
def cs (n:Nat)(ks:Kids):Nat:=(ks.map fun x=>TR n x.2).sum

section
variable {s i p:Nat}{B:WB}{ei:List Ob}{U1:eM}{w0:World}{base:Int}
end
abbrev CN:=eu×Int×eu
def UN:Nd->eu
 |.dir=>⟨#[]⟩
 |.file d=>d
def lz (a:List Ob)(fc:ul):Nat->eB->LT->List CN
 |0,_,_=>[]
 |n+1,q,c=>((kids a c).getD []).flatMap fun x=>(i6 (q++[x.1]),x.2.kind,UN (nd a fc x.2))::(if x.2.kind=2 then lz a fc n (q++[x.1]) x.2 else [])
def JL (a:List Ob)(fc:ul)(n:Nat)(q:eB)(x:eu×LT):List CN:=(i6 (q++[x.1]),x.2.kind,UN (nd a fc x.2))::(if x.2.kind=2 then lz a fc n (q++[x.1]) x.2 else [])
theorem Fc{a:List Ob}{fc:ul}{n:Nat}{q:eB}{c:LT}{ks:Kids}(hk:kids a c=some ks):lz a fc (n+1) q c=ks.flatMap (JL a fc n q):=by rw[lz,hk];rfl
theorem og{a:List Ob}{c:LT}(h:c.kind=2):∃ks,kids a c=some ks:=by
 cases c with
 |file i=>cases h
 |held f=>cases h
 |dir i=>exact⟨_,rfl⟩
 |own es=>exact⟨_,rfl⟩
theorem kg{a:List Ob}{c:LT}(h:c.kind≠2):kids a c=none:=by
 cases c with
 |file i=>rfl
 |held f=>rfl
 |dir i=>exact absurd rfl h
 |own es=>exact absurd rfl h
def ze:Nat->Nat
 |0=>0
 |n+1=>16*(1+ze n)
theorem wN{a c:Type}(f:a->List c)(b:Nat):∀(l:List a),(∀x∈l,(f x).length<=b)->(l.flatMap f).length<=l.length*b
 |[],_=>by simp
 |x::r,h=>by
  rw[TF,jM,gK,Nat.succ_mul]
  have h1:=h x (ir ..)
  have h2:=wN f b r (fun y d=>h y (mI _ d))
  omega
theorem uF{a:List Ob}{fc:ul}(b:Sound a):∀(n:Nat) (q:eB) (t:LT),eL a n t->(lz a fc n q t).length<=ze n
 |0,q,t,_=>by rw[lz];simp[ze]
 |n+1,q,t,ht=>by
  by_cases hk:t.kind=2
  ·obtain⟨ks,c⟩:=og (a:=a) hk
   obtain⟨f,NE,hk2⟩:=jp b ht c
   rw[Fc c,ze]
   refine pD (wN _ (1+ze n) ks (fun x hx=>?_)) (Nat.mul_le_mul_right _ NE)
   unfold JL
   rw[gK]
   obtain⟨m,e,o⟩:=(hk2 x hx).2
   have d:m=n:=by omega
   subst d
   split
   ·have:=uF (fc:=fc) b m (q++[x.1]) x.2 o
    omega
   ·simp
  ·rw[lz,kg hk];simp
theorem Rw:(Tryz.prog.info? 9).map (fun i=>(i.zero,i.size,i.bytes))=some (some (.string ByteArray.empty),1,16):=by kernel_rfl
structure qC (w:World)(nb:Nat)(es:List eD)(k:Nat):Prop where
 lt:nb<w.heap.size
 any:∀j,j<es.length->∃x,w.cell? ⟨nb,j,none⟩=some (.string x)
 free:∀o,w.frozen? ⟨nb,o,none⟩=false
 UO:∀j (hj:j<es.length),j<k->w.cell? ⟨nb,j,none⟩=some (.string es[j].1)
 blk:∃cs:Array Value,w.heap[nb]?=some (.cells cs 9 (0,0))/\cs.size=es.length
theorem Fe(n:Nat)(hn:n<=16)(W:World):∃cs:Array Value,(Instr.makeSlice 131 (ed (n:Int)) (ed (n:Int))).run Tryz.prog W=.ok (.slice (some (eb W.heap.size 0)) n n) (W.alloc (.cells cs 9))/\cs.size=n/\∀j,j<n->∃x,cs[j]?=some (.string x):=by
 obtain⟨b,hi,c,a,d⟩:=H4 Rw;refine⟨_,run_make W 131 9 b _ Qf hi c .i64 .i64 n n (by omega) (by omega) (by rw[d];omega) (by omega),?_,?_⟩
 ·simp[madeCells,a]
 ·intro j hj
  simp[madeCells,a,hj,Value.cells,Nat.mod_one]
theorem JM{w:World}{cs:Array Value}{es:List eD}(hs:cs.size=es.length)(hx:∀j,j<es.length->∃x,cs[j]?=some (.string x)):qC (w.alloc (.cells cs 9)) w.heap.size es 0:=by
 have a:=pM w (.cells cs 9);refine⟨by simp,fun j hj=>?_,fun o=>by simp only[World.frozen?,a];simp,fun j _ hj=>(by omega),⟨cs,a,hs⟩⟩;obtain⟨x,hx⟩:=hx j hj;exact⟨x,by simp only[World.cell?,a];exact hx⟩
theorem Mg{w:World}{nb k:Nat}{es:List eD}(h:qC w nb es k)(o:Obj):qC (w.alloc o) nb es k:=by
 have hc:∀j,(w.alloc o).cell? (eb nb j)=w.cell? (eb nb j):=fun j=>by unfold World.cell?;rw[jU _ _ _ h.lt]
 have hf:∀j,(w.alloc o).frozen? (eb nb j)=w.frozen? (eb nb j):=fun j=>by unfold World.frozen?;rw[jU _ _ _ h.lt]
 exact⟨by simp;exact Nat.lt_succ_of_lt h.lt,fun j hj=>by rw[hc];exact h.any j hj,fun a=>by rw[hf];exact h.free a,fun j hj hk=>(by rw[hc];exact h.UO j hj hk),by obtain⟨cs,h1,h2⟩:=h.blk;exact⟨cs,(jU _ _ _ h.lt).trans h1,h2⟩⟩
theorem Rx{w:World}{nb k:Nat}{es:List eD}(h:qC w nb es k)(hk:k<es.length):qC (w.setCell (eb nb k) (.string es[k].1)) nb es (k+1):=by
 obtain⟨x,hx⟩:=h.any k hk;have a:(w.setCell (eb nb k) (.string es[k].1)).cell? (eb nb k)=some (.string es[k].1):=World.cell?_setCell_same _ _ _ hx;have b:∀j,j≠k->(w.setCell (eb nb k) (.string es[k].1)).cell? (eb nb j)=w.cell? (eb nb j):=fun j hj=>World.cell?_setCell_other _ _ _ _ (fun e=>hj (by injection e with _ e2 _;exact e2.symm));refine⟨by simpa using h.lt,fun j hj=>?_,fun o=>by rw[World.frozen?_setCell];exact h.free o,fun j hj c=>?_,by obtain⟨cs,h1,h2⟩:=h.blk;exact⟨cs.setIfInBounds k (.string es[k].1),by simp[World.setCell,xE,h1],by simpa using h2⟩⟩
 ·by_cases e:j=k
  ·subst e;exact⟨_,a⟩
  ·rw[b j e];exact h.any j hj
 ·by_cases e:j=k
  ·subst e;exact a
  ·rw[b j e];exact h.UO j hj (by omega)
theorem Il(t:Nat)(g h l m n:eu)(es:List eD)(R:World->Prop)(w:World)(hn:es.length<=16)
  (q:∀W,gS w W->eK 131 #[fj t,.agg (ii g h l m n)] W fun e w'=>∃a cap,e=.returned (.tuple #[.slice (some (eb a 0)) es.length cap,ed 0])/\R w'/\a<w'.heap.size/\∀j r,(flat es)[j]?=some r->w'.cell? (eb a j)=some r):
  eK 127 #[fj t,.agg (ii g h l m n)] w fun e w'=>∃w3,R w3/\e=.returned (.tuple #[.slice (some (eb w3.heap.size 0)) es.length es.length,ed 0])/\gS w3 w'/\qC w' w3.heap.size es es.length:=by
 have hl:=q _ ((i7 w.heap.size w).alloc (io _) (.cells (ii g h l m n) 147));have s:Hid _:=hl;clear q hl;go_enter Tryz.func127,Tryz.ntmps127;go_wp2_with fail;refine g7 s.out ?_;rintro e w3 ⟨a,cap,rfl,u,d,hc⟩;obtain⟨cs,F,v,hx⟩:=Fe es.length hn w3;have y:=JM (w:=w3) v hx;have A:Hid _:=y;have B:Hid _:=u;have C:Hid _:=hc;clear s u hc y hx v;go_wp2
 go_loopw [25] (fun i wr=>∃k:Nat,k<=es.length/\i=.int .i64 (k:Int)/\gS w3 wr/\Hid (qC wr w3.heap.size es k)) (fun i _=>es.length-(intOf i).toNat)
 case atStart=>exact⟨0,oY _,rfl,(i7 _ _).alloc (io _) _,A.out⟩
 case round=>
  obtain⟨k,hk,rfl,b,c⟩:=hrel;by_cases f:k<es.length
  ·obtain⟨d0,d1,d2⟩:=sK C.out f
   have G:=(b.cell (p:=(eb a (k*3))) d).trans d0;have H:=(b.cell (p:=(eb a (k*3+1))) d).trans d1;have e2:=(b.cell (p:=(eb a (k*3+2))) d).trans d2;have I:a<wr.heap.size:=kv d b.size;have J:=c.out.lt;obtain⟨x,hx⟩:=c.out.any k f;have K:=c.out.free k;have z:=fun o=>Mg (Rx c.out f) o;have D:Hid _:=z;clear d0 d1 d2 z;go_wp2;exact⟨⟨k+1,f,by simp,(oz b (show w3.heap.size<=((eb w3.heap.size k):Addr).block from io _) _).alloc (by simpa using b.size) _,D.out _⟩,by simp only[intOf];omega⟩
  ·have E:k=es.length:=by omega
   subst E;go_wp2;go_ret2;exact⟨w3,B.out,rfl,b,c.out⟩
theorem Mh(t:Nat)(a b c d f:eu)(er:Int)(her:er≠0)(R:World->Prop)(w:World)
  (g:∀W,gS w W->eK 131 #[fj t,.agg (ii a b c d f)] W fun e w'=>∃v,e=.returned (.tuple #[v,ed er])/\R w'):
  eK 127 #[fj t,.agg (ii a b c d f)] w fun e w'=>R w'/\e=.returned (.tuple #[.slice none 0 0,ed er]):=by
 have hl:=g _ ((i7 w.heap.size w).alloc (io _) (.cells (ii a b c d f) 147));have h:Hid _:=hl;have k:(er==0)=false:=by simpa using her
 clear g hl her;go_enter Tryz.func127,Tryz.ntmps127;go_wp2_with fail;refine g7 h.out ?_;rintro e w3 ⟨v,rfl,i⟩;have j:Hid _:=i;clear h i;go_wp2;go_ret2;exact⟨j.out,rfl⟩
theorem Mi(t:Nat)(b d f g h:eu)(R:World->Prop)(w:World)
  (k:∀W,gS w W->eK 131 #[fj t,.agg (ii b d f g h)] W fun e w'=>∃a c,e=.returned (.tuple #[.slice a 0 c,ed 0])/\R w'):
  eK 127 #[fj t,.agg (ii b d f g h)] w fun e w'=>∃w3,R w3/\e=.returned (.tuple #[.slice (some (eb w3.heap.size 0)) 0 0,ed 0])/\gS w3 w'/\qC w' w3.heap.size [] 0:=by
 have hl:=k _ ((i7 w.heap.size w).alloc (io _) (.cells (ii b d f g h) 147));have l:Hid _:=hl;clear k hl;go_enter Tryz.func127,Tryz.ntmps127;go_wp2_with fail;refine g7 l.out ?_;rintro e w3 ⟨a,c,rfl,m⟩;obtain⟨cs,n,o,hx⟩:=Fe 0 (by decide) w3;have u:(Instr.makeSlice 131 (ed 0) (ed 0)).run Tryz.prog w3=.ok (.slice (some (eb w3.heap.size 0)) 0 0) (w3.alloc (.cells cs 9)):=n;have p:Hid _:=JM (w:=w3) (es:=[]) o (fun j hj=>absurd hj (Nj _));have q:Hid _:=m;clear l m hx o n;go_wp2
 go_loopw [25] (fun i wr=>i=.int .i64 0/\gS w3 wr/\Hid (qC wr w3.heap.size [] 0)) (fun _ _=>0)
 case atStart=>exact⟨rfl,(i7 _ _).alloc (io _) _,p.out⟩
 case round=>
  obtain⟨rfl,r,s⟩:=hrel;go_wp2;go_ret2;exact⟨w3,q.out,rfl,r,s.out⟩
theorem Pf(wb bt:Nat)(l:eB)(hl:Good l)(R:Value->Int->World->Prop)(w:World)(h:wb<w.heap.size)(c0:w.cell? (eb wb 0)=some (fj bt))
  (hc:∀W,gS w W->eK 127 #[fj bt,.agg (et l)] W fun e w'=>∃v er,e=.returned (.tuple #[v,ed er])/\R v er w'):
  eK 68 #[fj wb,.string (i6 l)] w fun e w'=>∃v er,e=.returned (.tuple #[v,ed er])/\R v er w':=by
 have M2:=fun W=>Lq l hl W;obtain⟨b,c,d,f,g,i⟩:∃b c d f g,et l=(ii b c d f g):=⟨_,_,_,_,_,rfl⟩;unfold hP at M2;simp only[i]at M2 hc;have j:Hid _:=hc;clear hc i hl;generalize i6 l=p at M2 ⊢;go_enter Tryz.func68,Tryz.ntmps68;go_wp2_with(go_at_call 69;refine g7 (M2 _) ?_;rintro e m ⟨rfl,a⟩;have d0:=((gc a).1 wb 0 h).trans c0;have q:=kv h a.size);have k:=j.out (m.alloc (.cells (ii b c d f g) 147)).drew (eQ (a.alloc a.size _));have n:Hid _:=k;clear k j
 go_region_with(go_at_call 127;refine g7 n.out ?_;rintro e r ⟨v,er,rfl,o⟩)
 all_goals
  go_wp2;go_ret2;exact⟨v,er,rfl,o⟩
section
variable {s i p:Nat}{B:WB}{ei:List Ob}
end
section
variable {s i p:Nat}{B:WB}{ei:List Ob}{U1:eM}{w0:World}{g0:WG}{t0:LT}
end
end Go.Proofs.YtlgidcmmgohagaaGreat
namespace Go
set_option linter.unusedVariables false
variable {P:Program}{w:World}
end Go
namespace Go.Proofs.YtlgidcmmgohagaaGreat
open Go.RowKit Go.Sort Go.Shelf Go.ChangeShapes Go.WideShapes Go.Deep
set_option linter.unusedVariables false
section
variable {H:Type}{enc:fL×Value->H}{w:World}{base:Nat}{sp:Nat->Bool}{held:Bool}
end
end Go.Proofs.YtlgidcmmgohagaaGreat
namespace Go.Proofs.YtlgidcmmgohagaaGreat
open Go.RowKit Go.Sort Go.Shelf
set_option linter.unusedVariables false
set_option maxRecDepth 100000
set_option maxHeartbeats 16000000
section
variable {s i p:Nat}{B:WB}{ei:List Ob}{U1:eM}{w0:World}{g0:WG}{t0:LT}
end
section
variable {s i p:Nat}{B:WB}{ei:List Ob}
end

theorem sR{a:List Ob}{t:LT}(h:kids a t=none):u2 a t=(5,[]):=by cases t<;>simp[kids,u2]at h ⊢
theorem oZ{a:List Ob}{t:LT}{ks:Kids}(h:kids a t=some ks):u2 a t=(0,ks):=by cases t<;>simp[kids,u2]at h ⊢<;>exact h
section
variable {a b:List Ob}{fc Vl:ul}
theorem o5{t:LT}{r:eB}(h:(ju a t r).1=0):t.at a r.reverse=some (ju a t r).2:=by
 rcases tW a (fun _=>fy) t r with⟨_,h2⟩|⟨h1,_⟩
 ·exact h2
 ·exact absurd h h1
theorem Pg{a:List Ob}(b:Exact a){n:Nat}{t:LT}{ks:Kids}(hk:kids a t=some ks)(c:∀id,t=.dir id->eC a id=2):H2 a (n+1) t=ks.foldl (fun h x=>max h (1+H2 a n x.2)) 0:=by
 cases t with
 |file id=>cases hk
 |held f=>cases hk
 |own es=>cases hk;rw[H2]
 |dir id=>
  cases hk;rw[H2,b.high id (c id rfl),List.foldl_map];unfold fe
  congr 1
  funext h e
  unfold Pl ltOf;split<;>rw[H2]
theorem Im{a:List Ob}{n:Nat}{t:LT}(h:eL a n t):∀id,t=.dir id->eC a id=2:=fun id e=>by subst e;rw[eL]at h;exact h.1
theorem Ph{a:List Ob}(b:Exact a){n m:Nat}{t:LT}(h:eL a m t)(hk:t.kind≠2):H2 a n t=0:=by
 cases t with
 |file id=>rw[H2];rw[eL]at h;exact b.low id h
 |held f=>rw[H2]
 |own es=>exact absurd rfl hk
 |dir id=>exact absurd rfl hk
end
section
variable {a:List Ob}{fc:ul}
theorem Mj(x:eB):xj a fc (.own []) x=if x=[]then some .dir else none:=by
 cases x with
 |nil=>rw[xv];rfl
 |cons n r=>rw[sk,eJ (by simp)];rfl
theorem zf{t:LT}{r:eB}:(xf a t r).1≠14:=by
 unfold xf;simp only;rcases tW a (fun _=>fy) t r with⟨h,_⟩|⟨h,_,h2⟩
 ·rw[eJ (by simp[h])];exact p5 _ _
 ·rw[fY h]
  show(ju a t r).1≠14;omega
theorem oh{t:LT}{r:eB}(h:(xf a t r).1=0):∃d,t.at a r.reverse=some d/\kids a d=some (xf a t r).2:=by
 have:=CL (ei:=a) (t:=t) (fs:=j1) (r:=r) (by rw[iz];exact h)
 rw[iz]at this;exact this
theorem Ry{t d c:LT}{q:eB}{n:eu}{ks:Kids}(b:t.at a q=some d)(hk:kids a d=some ks)(hr:eF ks)(x:eB):
  xj a fc (m1 a (fun ks=>n7 ks n c) q t) x=if q++[n] <+: x then xj a fc c (x.drop (q++[n]).length)else xj a fc t x:=by
 obtain⟨e,f⟩:=xx (fc:=fc) (n:=n) hr b hk c;by_cases hx:(q++[n]) <+: x
 ·rw[fY hx]
  obtain⟨r,rfl⟩:=hx;rw[nv,show q++[n]++r=q++n::r by simp,e]
 ·rw[eJ hx,f x hx]
theorem uG{p x:eB}(h:p <+: x):x.drop p.length=[]↔x=p:=by
 obtain⟨r,rfl⟩:=h;rw[nv];constructor
 ·rintro rfl;simp
 ·intro e;simpa using e
theorem Io{t:LT}(hS:Sound a)(f:eL a 5 t)(n:eu)(r:eB){er:Int}{t':LT}(h:(y1 a t j1 (n::r)).2=(er,t')):
  er≠14/\(er≠0->t'=t)/\(er=0->xj a fc t (r.reverse++[n])=none/\∀x,xj a fc t' x=if x=r.reverse++[n]then some .dir else if r.reverse++[n] <+: x then none else xj a fc t x):=by
 unfold y1 at h;simp only[iz]at h;split at h
 ·rename_i h0
  cases h;exact⟨zf,fun _=>rfl,fun e=>absurd e h0⟩
 ·rename_i h0
  have z:=jq.1 h0;obtain⟨d,b,hk⟩:=oh z;have hr:=(jp hS (mf hS _ f b).2.1 hk).1;split at h
  ·cases h;exact⟨by decide,fun _=>rfl,fun e=>by cases e⟩
  ·rename_i hp
   split at h
   ·cases h;exact⟨by decide,fun _=>rfl,fun e=>by cases e⟩
   ·cases h
    refine⟨by decide,fun e=>absurd rfl e,fun _=>⟨?_,fun x=>?_⟩⟩
    ·rw[iH b hk]
     cases g:g8 (xf a t r).2 n with
     |none=>rfl
     |some c=>rw[g]at hp;exact absurd rfl hp
    ·rw[Ry b hk hr,Mj]
     by_cases hx:r.reverse++[n] <+: x
     ·rw[fY hx]
      by_cases e:x=r.reverse++[n]
      ·rw[fY ((uG hx).2 e),fY e]
      ·rw[eJ (fun h=>e ((uG hx).1 h)),eJ e,fY hx]
     ·rw[eJ hx,eJ (fun e=>hx (by rw[e];exact mB _)),eJ hx]
theorem Bu{t:LT}{n:eu}{r:eB}(h:(ju a t (n::r)).1=0):∃d ks,t.at a r.reverse=some d/\kids a d=some ks/\g8 ks n=some (ju a t (n::r)).2/\t.at a (r.reverse++[n])=some (ju a t (n::r)).2:=by
 have:=o5 h
 rw[nC]at this;obtain⟨d,ks,h1,h2,h3⟩:=qT this;exact⟨d,ks,h1,h2,h3,this⟩
theorem zg{t:LT}{r:eB}:(ju a t r).1≠14:=by
 rcases tW a (fun _=>fy) t r with⟨h,_⟩|⟨h,_,h2⟩<;>omega
theorem wO(c:LT):(nl a j1 c).2=0\/(nl a j1 c).2=5\/(nl a j1 c).2=8:=by
 unfold nl;simp only[mh];split
 ·exact .inl rfl
 ·split
  ·exact .inr (.inr rfl)
  ·show(u2 a c).1=0\/(u2 a c).1=5\/(u2 a c).1=8
   cases c<;>simp[u2]
theorem Mk(b:Bool)(ks:Kids)(n:eu)(c:LT):(gX a j1 b ks n c).2≠14:=by
 unfold gX;cases g8 ks n with
 |none=>simp only;split<;>simp
 |some e=>
  simp only;unfold T1;split
  ·simp
  ·split
   ·simp
   ·have:=wO (a:=a) e
    omega
theorem Ff{t:LT}(hS:Sound a)(c:eL a 5 t)(n:eu)(r:eB){er:Int}{t':LT}(h:(se a t j1 (n::r)).2=(er,t')):
  er≠14/\(er≠0->t'=t)/\(er=0->xj a fc t (r.reverse++[n])≠none/\∀x,xj a fc t' x=if r.reverse++[n] <+: x then none else xj a fc t x):=by
 unfold se at h;simp only[iy]at h;split at h
 ·rename_i h0
  cases h;exact⟨zg,fun _=>rfl,fun e=>absurd e h0⟩
 ·rename_i h0
  have z:=jq.1 h0;obtain⟨d,ks,b,hk,hp,f⟩:=Bu z;have hr:=(jp hS (mf hS _ c b).2.1 hk).1;split at h
  ·rename_i hv
   cases h
   have:=wO (a:=a) (ju a t (n::r)).2
   exact⟨by omega,fun _=>rfl,fun e=>absurd e hv⟩
  ·cases h
   obtain⟨g,i⟩:=Ea (fc:=fc) hr (by rw[<-lr hr,hp];rfl) b hk;refine⟨by decide,fun e=>absurd rfl e,fun _=>⟨by unfold xj;rw[f];simp,fun x=>?_⟩⟩;by_cases hx:r.reverse++[n] <+: x
   ·rw[fY hx]
    obtain⟨y,rfl⟩:=hx;rw[show r.reverse++[n]++y=r.reverse++n::y by simp,g]
   ·rw[eJ hx,i x hx]
theorem Fg{t:LT}(hS:Sound a)(c:eL a 5 t)(n m:eu)(r q:eB){er:Int}{t':LT}(h:(ra a t j1 (n::r) (m::q)).2=(er,t')):
  er≠14/\(er≠0->t'=t)/\(er=0->xj a fc t (r.reverse++[n])≠none/\(r.reverse++[n]≠q.reverse++[m]->¬r.reverse++[n] <+: q.reverse++[m])/\∀x,xj a fc t' x=if r.reverse++[n]=q.reverse++[m]then xj a fc t x else if q.reverse++[m] <+: x then xj a fc t (r.reverse++[n]++x.drop (q.reverse++[m]).length)else if r.reverse++[n] <+: x then none else xj a fc t x):=by
 have b:n::r=m::q↔r.reverse++[n]=q.reverse++[m]:=by
  rw[<-nC,<-nC];exact⟨fun e=>by rw[e],fun e=>Na.1 e⟩
 unfold ra at h;simp only[iy,iz,nC]at h;split at h
 ·rename_i h0
  cases h;exact⟨zg,fun _=>rfl,fun e=>absurd e h0⟩
 ·rename_i h0
  have z:=jq.1 h0;obtain⟨d,ks,f,hk,hp,g⟩:=Bu z;have hr:=(jp hS (mf hS _ c f).2.1 hk).1;have hne:xj a fc t (r.reverse++[n])≠none:=by unfold xj;rw[g];simp
  split at h
  ·cases h;exact⟨by decide,fun _=>rfl,fun e=>by cases e⟩
  ·rename_i nA
   split at h
   ·rename_i hl
    cases h;refine⟨zf,fun _=>rfl,fun e=>?_⟩;rcases hl with hl|hl
    ·exact absurd e hl
    ·exact⟨hne,fun h=>absurd (b.1 hl) h,fun x=>by rw[fY (b.1 hl)]⟩
   ·rename_i hl
    have hl0:(xf a t q).1=0:=jq.1 (fun h=>hl (.inl h));have hle:¬n::r=m::q:=fun h=>hl (.inr h);have D1:¬r.reverse++[n] <+: q.reverse++[m]:=fun h=>nA ⟨h,hle⟩;split at h
    ·rename_i hv
     cases h;exact⟨Mk _ _ _ _,fun _=>rfl,fun e=>absurd e hv⟩
    ·split at h
     ·cases h;exact⟨by decide,fun _=>rfl,fun e=>by cases e⟩
     ·cases h
      obtain⟨k,i,j⟩:=oh hl0;refine⟨by decide,fun e=>absurd rfl e,fun _=>⟨hne,fun _=>D1,fun x=>?_⟩⟩;rw[eJ (fun e=>hle (b.2 e))];exact GR (fc:=fc) hS c f hk hp i j D1 x
end
section
variable {a:List Ob}
end
section
variable {a b:List Ob}{fc Vl:ul}
end
abbrev Slot:=Nat×WB×WG×LT
structure xk (tg:eM)(w:World)(p:Nat)(ei:List Ob)(lim:Nat)(x:Slot):Prop where
 two:2<=x.1
 wp:mV tg w x.1 p x.2.1 ei x.2.2.1 lim
 flat:Flat ei x.2.2.2 x.2.2.1.ft
 ok:eL ei 5 x.2.2.2
 fl:qB ei x.2.2.1.fl
 inj:eX ei x.2.2.2
theorem xk.moves{P:Nat×Nat->Prop}{tg ey:eM}{w w':World}{p:Nat}{ei:List Ob}{lim:Nat}{x:Slot}(h:xk tg w p ei lim x)(m:eo P tg ey w w')(hn:∀k,¬P (x.1,k)):xk ey w' p ei lim x:=⟨h.two,h.wp.moves m hn,h.flat,h.ok,h.fl,h.inj⟩
section
variable {W wr:World}{s p:Nat}{ei:List Ob}{lim:Nat}{ws:List Slot}{rows:List (Value×List CN)}
end
structure qD (F:Nat->Prop)(t tl:fL)(V:Nat->Value)(w:World)(ea:e5)(ec q:Nat)(hs:List fJ):Prop where
 len:hs.length=4*q
 row:w.ownsRow 0 tl 1 (.slice ea (4*q) ec) (4*q) (hs.map fD)
 own:∀g,(Value.slice ea (4*q) ec).ownBlock=some g->F g
 lists:∀i (hi:i<hs.length),hs[i].2.1<=1000000000/\jO t (V (i / 4)) w hs[i]/\∀g,(fD hs[i]).ownBlock=some g->F g
 lt:∀k,F k->k<w.heap.size
theorem qD.keep{F:Nat->Prop}{t tl:fL}{V:Nat->Value}{w w':World}{ea:e5}{ec q:Nat}{hs:List fJ}(h:qD F t tl V w ea ec q hs)(hk:∀k,F k->w'.heap[k]?=w.heap[k]?)(a:w.heap.size<=w'.heap.size):qD F t tl V w' ea ec q hs:=
 ⟨h.len,eh h.row (fun g hg=>hk g (h.own g hg)),h.own,fun i hi=>⟨(h.lists i hi).1,eh (h.lists i hi).2.1 (fun g hg=>hk g ((h.lists i hi).2.2 g hg)),(h.lists i hi).2.2⟩,fun k b=>kv (h.lt k b) a⟩
theorem qD.full{F:Nat->Prop}{t tl:fL}{V:Nat->Value}{w:World}{ea:e5}{ec q:Nat}{hs:List fJ}(h:qD F t tl V w ea ec q hs):∀i (hi:i<hs.length),yH w (V (i / 4)) hs[i]:=fun i hi j hj=>by
 have a:=(h.lists i hi).2.1
 unfold jO fD at a
 obtain⟨g,b,_,e2,_⟩:=row_one a (i:=j) (v:=V (i / 4)) (by simp[hj])
 exact⟨g,b,e2⟩
abbrev Doc:=Nat×List eD×eB×fE
def VN (i:Nat):Value:=.string (wk i)
def VI (i:Nat):Value:=.int .i64 (-1000-(i:Int))
structure pI where
 pt:fQ
 wa:e5
 wc:Nat
 ta:e5
 tc:Nat
 na:e5
 nc:Nat
 ea:e5
 ec:Nat
 ia:e5
 ic:Nat
 ns:List fJ
 hs:List fJ
 js:List fJ
 FN:Nat->Prop
 FE:Nat->Prop
 FI:Nat->Prop
structure e7 (R:pI)(tg:eM)(w:World)(B0 W s r p lim:Nat)(ei ep:List Ob)(got:List Int)(ws:List Slot)(ds:List Doc)(q8 q9 fH:Nat):Prop where
 fresh:gF tg w
 old:∀k,k<B0->tg k=(0,0)
 size:B0<=w.heap.size
 brk:R.pt.b=false
 Ml:sJ tg w R.pt got
 Am:got.length<=lim
 w3:W3 ⟨R.pt,p,[]⟩ (fun k=>tg k=(0,1)) (fun k=>tg k=(0,2)) (fun k=>tg k=(1,0)) w W s r ei ep (.slice R.wa ws.length R.wc) (.slice R.ta ds.length R.tc) (.bool false) (.slice R.na (4*q8) R.nc) (.slice R.ea (4*q9) R.ec) (.slice none 0 0) (.slice R.ia (4*fH) R.ic)
 zh:w.ownsRow 0 32 1 (.slice R.wa ws.length R.wc) ws.length (ws.map fun x=>ptr x.2.1.wb)
 o6:∀g,(Value.slice R.wa ws.length R.wc).ownBlock=some g->tg g=(0,3)
 fP:w.ownsRow 0 115 1 (.slice R.ta ds.length R.tc) ds.length (ds.map fun x=>ptr x.1)
 o7:∀g,(Value.slice R.ta ds.length R.tc).ownBlock=some g->tg g=(0,4)
 names:qD R.FN 9 131 VN w R.na R.nc q8 R.ns
 eG:Held R.FE w R.ea R.ec q9 R.hs
 ids:qD R.FI 29 59 VI w R.ia R.ic fH R.js
 holds:∀k,R.FN k\/R.FE k\/R.FI k->tg k=(0,0)/\B0<=k
 apart:∀k,¬(R.FN k/\R.FE k)/\¬(R.FN k/\R.FI k)/\¬(R.FE k/\R.FI k)
 uH:∀x∈ws,xk tg w p ei lim x
 slot:∀j (h:j<ws.length),ws[j].1=j+2
 Ip:∀j (h:j<ds.length),eN (fun k=>tg k=(0,8+j)) w ds[j].1 ds[j].2.1 ds[j].2.2.1 ds[j].2.2.2
 cnt:∀x,got.count x=(ws.map fun y=>y.2.2.1.fs.kn x).sum
theorem gF.lt{tg:eM}{w:World}(h:gF tg w){k:Nat}(hk:tg k≠(0,0)):k<w.heap.size:=by
 rcases Km k w.heap.size with hl|hl
 ·exact hl
 ·exact absurd (h k hl) hk
theorem kR{tg:eM}{w:World}(h:gF tg w):Sep w (fun k=>tg k=(0,1)) (fun k=>tg k=(0,2)) (fun k=>tg k=(1,0)):=
 ⟨fun k hk=>h.lt (by rw[hk];decide),fun k hk=>⟨h.lt (by rw[hk];decide),fun e=>by rw[hk]at e;cases e⟩,fun k hk=>⟨h.lt (by rw[hk];decide),fun e=>by rw[hk]at e;cases e⟩,fun k hk e=>by rw[hk]at e;cases e⟩
section
variable {R:pI}{tg ey:eM}{w w':World}{B0 W s r p lim:Nat}{ei ep:List Ob}{got:List Int}{ws:List Slot}{ds:List Doc}{q8 q9 fH:Nat}
theorem e7.after{P:Nat×Nat->Prop}(h:e7 R tg w B0 W s r p lim ei ep got ws ds q8 q9 fH)(m:eo P tg ey w w')(o:∀c,¬P (0,c)){f:List Int}{l:Nat}{b:List Slot}{pt:fQ}
  (hl:b.length=ws.length)(q:pt.b=false)(t:jt pt (fun k=>ey k=(1,0)) w' s p ei)(hg:sJ ey w' pt f)(u:f.length<=l)(v:(b.map fun x=>ptr x.2.1.wb)=ws.map fun x=>ptr x.2.1.wb)(z:∀x∈b,xk ey w' p ei l x)(A:∀j (h:j<b.length),b[j].1=j+2)
  (B:∀x,f.count x=(b.map fun y=>y.2.2.1.fs.kn x).sum):e7 { R with pt:=pt } ey w' B0 W s r p l ei ep f b ds q8 q9 fH:=by
 have n:=m.fresh h.fresh;have kept:∀k c,tg k=(0,c)->k<w.heap.size->w'.heap[k]?=w.heap[k]?:=fun k c hk a=>m.block k a (by rw[hk];exact o c);have tagged:∀k c,c≠0->tg k=(0,c)->ey k=(0,c)/\w'.heap[k]?=w.heap[k]?:=fun k c hc hk=>by
  have a:=h.fresh.lt (by rw[hk];intro e;exact hc (rp Prod.snd e));exact⟨(m.tags k a).trans hk,kept k c hk a⟩
 have i:∀k,R.FN k\/R.FE k\/R.FI k->k<w.heap.size->w'.heap[k]?=w.heap[k]?/\ey k=(0,0)/\B0<=k:=fun k hk a=>⟨kept k 0 (h.holds k hk).1 a,(m.tags k a).trans (h.holds k hk).1,(h.holds k hk).2⟩;have d:=h.w3;rw[<-hl]at d;refine⟨n,fun k hk=>(m.tags k (kv hk h.size)).trans (h.old k hk),pD h.size m.size,q,hg,u,⟨d.law.keep (fun k hk=>(tagged k 1 (by decide) hk).1) (fun k hk=>(tagged k 1 (by decide) hk).2),d.ref.keep (fun k hk=>(tagged k 2 (by decide) hk).1) (fun k hk=>(tagged k 2 (by decide) hk).2),⟨t,d.qX.2⟩,d.twin,d.at_,kR n⟩,?_,?_,?_,?_,?_,?_,?_,?_,h.apart,z,A,?_,B⟩
 ·rw[hl,v]
  exact eh h.zh (fun g hg=>(tagged g 3 (by decide) (h.o6 g hg)).2)
 ·rw[hl];exact fun g hg=>(tagged g 3 (by decide) (h.o6 g hg)).1
 ·exact eh h.fP (fun g hg=>(tagged g 4 (by decide) (h.o7 g hg)).2)
 ·exact fun g hg=>(tagged g 4 (by decide) (h.o7 g hg)).1
 ·exact h.names.keep (fun k hk=>(i k (.inl hk) (h.names.lt k hk)).1) m.size
 ·exact h.eG.keep (fun k hk=>(i k (.inr (.inl hk)) (h.eG.lt k hk)).1) m.size
 ·exact h.ids.keep (fun k hk=>(i k (.inr (.inr hk)) (h.ids.lt k hk)).1) m.size
 ·intro k hk
  have a:k<w.heap.size:=by
   rcases hk with e|e|e
   ·exact h.names.lt k e
   ·exact h.eG.lt k e
   ·exact h.ids.lt k e
  exact(i k hk a).2
 ·intro j hj
  obtain⟨na,nc,da,dc,C⟩:=h.Ip j hj;exact⟨na,nc,da,dc,C.keep (fun k hk=>(tagged k (8+j) (by omega) hk).1) (fun k hk=>(tagged k (8+j) (by omega) hk).2)⟩
theorem e7.Rz(h:e7 R tg w B0 W s r p lim ei ep got ws ds q8 q9 fH):fO tg w s p ei got false lim:=⟨h.fresh,R.pt,h.brk,h.w3.qX.1,h.Ml,h.w3.qX.2.2.1.sound,h.Am⟩
theorem e7.below(h:e7 R tg w B0 W s r p lim ei ep got ws ds q8 q9 fH)(a:gS w w'):e7 R tg w' B0 W s r p lim ei ep got ws ds q8 q9 fH:=by
 have m:eo (fun _=>False) tg tg w w':=eo.ew a;exact h.after m (fun _ h=>h) rfl h.brk (h.w3.qX.1.below a (fun _ _ h=>h)) (h.Ml.moves m (fun h=>h)) h.Am rfl (fun x hx=>(h.uH x hx).moves m (fun _ h=>h)) h.slot h.cnt
theorem JN{a:Type}(f:a->Nat):∀(l:List a) (j:Nat) (h:j<l.length) (y:a),(l.map f).sum+f y=((l.set j y).map f).sum+f l[j]
 |x::l,0,_,y=>by simp only[List.set_cons_zero,WF,List.sum_cons,Gc];omega
 |x::l,j+1,h,y=>by
  have:=JN f l j (by simpa using h) y
  simp only[List.set_cons_succ,WF,List.sum_cons,TH]
  omega
theorem e7.work{j:Nat}{B:WB}{g:WG}{t:LT}(h:e7 R tg w B0 W s r p lim ei ep got ws ds q8 q9 fH)(hj:j<ws.length)(hx:ws[j]=(j+2,B,g,t)):
  fT tg w s (j+2) p B ei { g with fs:={ g.fs with got:=got,brk:=false } } lim t/\eX ei t/\
  ∀{ey:eM} {w':World} {a:WG} {t':LT} {b:Nat},lim<=b->eo (Mine (j+2)) tg ey w w'->fT ey w' s (j+2) p B ei a b t'->a.fs.brk=false->(∃l,a.fs.got=got++l/\∀x,l.count x+g.fs.kn x=a.fs.kn x)->eX ei t'->
   ∃pt,e7 { R with pt:=pt } ey w' B0 W s r p b ei ep a.fs.got (ws.set j (j+2,B,a,t')) ds q8 q9 fH:=by
 have f:(j+2,B,g,t)∈ws:=by rw[<-hx];exact iF hj
 have hw:=h.uH _ f;refine⟨⟨⟨hw.two,h.Rz,?_⟩,hw.flat,hw.ok,hw.fl⟩,hw.inj,fun {ey w' a t' b} hl m hQ i n hi=>?_⟩
 ·exact⟨hw.wp.tree,hw.wp.jE,hw.wp.jF,hw.wp.nY,hw.wp.kX,hw.wp.files,hw.wp.held,hw.wp.opens,hw.wp.ok⟩
 ·obtain⟨_,pt,o,q,u,hS,v⟩:=hQ.inv.st
  obtain⟨l,z,A⟩:=n;refine⟨_,h.after m (fun c hc=>?_) (by simp) (o.trans i) q u v ?_ (fun x C=>?_) (fun k hk=>?_) (fun x=>?_)⟩
  ·rcases hc with hc|hc<;>simp only at hc<;>omega
  ·apply List.ext_getElem (by simp)
   intro k h1 h2;simp only[BS,BW];split
   ·rename_i e;subst e;rw[hx]
   ·rfl
  ·obtain⟨k,hk,rfl⟩:=mH C
   rw[BW];split
   ·exact⟨hw.two,hQ.inv.wp,hQ.flat,hQ.ok,hQ.fl,hi⟩
   ·rename_i hne
    have d:k<ws.length:=by simpa using hk
    have D:=h.uH _ (iF d);have E:=h.slot k d;have hm:=D.moves m (fun c hc=>by
     rcases hc with hc|hc<;>simp only at hc<;>omega)
    exact⟨hm.two,hm.wp.mono hl,hm.flat,hm.ok,hm.fl,hm.inj⟩
  ·rw[BW]
   have d:k<ws.length:=by simpa using hk
   split
   ·rename_i e;subst e;rfl
   ·exact h.slot k d
  ·have h1:=JN (fun y:Slot=>y.2.2.1.fs.kn x) ws j hj (j+2,B,a,t')
   rw[hx]at h1;simp only at h1;have h2:=h.cnt x;have h3:=A x;rw[z,List.count_append,h2];omega
theorem e7.Ua{j:Nat}{d:Doc}(h:e7 R tg w B0 W s r p lim ei ep got ws ds q8 q9 fH)(hj:j<ds.length)(hx:ds[j]=d):
  eN (fun k=>tg k=(0,8+j)) w d.1 d.2.1 d.2.2.1 d.2.2.2/\∀{w':World} {nodes:List eD} {data:eB} {rest:fE},eN (ie (fun k=>tg k=(0,8+j)) w w') w' d.1 nodes data rest->en (fun k=>tg k=(0,8+j)) w w'->
   ∃ey,e7 R ey w' B0 W s r p lim ei ep got ws (ds.set j (d.1,nodes,data,rest)) q8 q9 fH:=by
 classical
 subst hx;refine⟨h.Ip j hj,fun {w' nodes data rest} l hk=>?_⟩;obtain⟨ey,o⟩:∃ey:eM,ey=fun k=>if k<w.heap.size then tg k else if k<w'.heap.size then(0,8+j) else(0,0):=⟨_,rfl⟩
 have t1:∀k,k<w.heap.size->ey k=tg k:=fun k hk=>by rw[o];exact fY hk
 have q:gF ey w':=fun k C=>by
  rw[o];simp only;rw[eJ (by have:=hk.size;omega),eJ (by omega)]
 have m:eo (fun t=>t=(0,8+j)) tg ey w w':=⟨hk.os,hk.tape,hk.output,hk.size,t1,fun k a hn=>hk.block k a hn,fun _=>q⟩;have tagged:∀k c,c≠0->c≠8+j->tg k=(0,c)->ey k=(0,c)/\w'.heap[k]?=w.heap[k]?:=fun k c hc y a=>by
  have b:=h.fresh.lt (by rw[a];intro e;exact hc (rp Prod.snd e));exact⟨(t1 k b).trans a,m.block k b (by rw[a];intro e;exact y (rp Prod.snd e))⟩
 have n:∀k,R.FN k\/R.FE k\/R.FI k->k<w.heap.size->w'.heap[k]?=w.heap[k]?/\ey k=(0,0)/\B0<=k:=fun k a b=>⟨m.block k b (by rw[(h.holds k a).1];intro e;have:=rp Prod.snd e;simp only at this;omega),(t1 k b).trans (h.holds k a).1,(h.holds k a).2⟩;have f:=h.w3;have u:(ds.set j (ds[j].1,nodes,data,rest)).length=ds.length:=by simp
 refine⟨ey,⟨q,fun k a=>(t1 k (kv a h.size)).trans (h.old k a),pD h.size hk.size,h.brk,h.Ml.moves m (fun e=>by cases e),h.Am,?_,?_,?_,?_,?_,?_,?_,?_,?_,h.apart,fun x z=>?_,h.slot,?_,h.cnt⟩⟩
 ·rw[u]
  exact⟨f.law.keep (fun k hk=>(tagged k 1 (by decide) (by omega) hk).1) (fun k hk=>(tagged k 1 (by decide) (by omega) hk).2),f.ref.keep (fun k hk=>(tagged k 2 (by decide) (by omega) hk).1) (fun k hk=>(tagged k 2 (by decide) (by omega) hk).2),⟨f.qX.1.keep (fun k a hF=>m.block k a (by rw[hF];intro e;cases e)) (fun k a hF=>(t1 k a).trans hF),f.qX.2⟩,f.twin,f.at_,kR q⟩
 ·exact eh h.zh (fun g hg=>(tagged g 3 (by decide) (by omega) (h.o6 g hg)).2)
 ·exact fun g hg=>(tagged g 3 (by decide) (by omega) (h.o6 g hg)).1
 ·rw[u]
  have A:(ds.set j (ds[j].1,nodes,data,rest)).map (fun x=>ptr x.1)=ds.map fun x=>ptr x.1:=by
   apply List.ext_getElem (by simp);intro k h1 h2;simp only[BS,BW];split
   ·rename_i e;subst e;rfl
   ·rfl
  rw[A];exact eh h.fP (fun g hg=>(tagged g 4 (by decide) (by omega) (h.o7 g hg)).2)
 ·rw[u];exact fun g hg=>(tagged g 4 (by decide) (by omega) (h.o7 g hg)).1
 ·exact h.names.keep (fun k a=>(n k (.inl a) (h.names.lt k a)).1) hk.size
 ·exact h.eG.keep (fun k a=>(n k (.inr (.inl a)) (h.eG.lt k a)).1) hk.size
 ·exact h.ids.keep (fun k a=>(n k (.inr (.inr a)) (h.ids.lt k a)).1) hk.size
 ·intro k a
  have b:k<w.heap.size:=by
   rcases a with e|e|e
   ·exact h.names.lt k e
   ·exact h.eG.lt k e
   ·exact h.ids.lt k e
  exact(n k a b).2
 ·have v:=h.uH x z
  exact v.moves m (fun c hc=>by have:=v.two;have:=rp Prod.fst hc;simp only at this;omega)
 ·intro i hi
  have B:i<ds.length:=by simpa using hi
  simp only[BW];split
  ·rename_i e
   subst e;obtain⟨na,nc,da,dc,l⟩:=l;refine⟨na,nc,da,dc,l.keep (fun k a=>?_) (fun _ _=>rfl)⟩;rcases a with a|⟨a,hk2⟩
   ·exact(t1 k (h.fresh.lt (by rw[a];intro e;have:=rp Prod.snd e;simp only at this;omega))).trans a
   ·rw[o]
    simp only;rw[eJ (by omega),fY hk2]
  ·obtain⟨na,nc,da,dc,l⟩:=h.Ip i B
   exact⟨na,nc,da,dc,l.keep (fun k a=>(tagged k (8+i) (by omega) (by omega) a).1) (fun k a=>(tagged k (8+i) (by omega) (by omega) a).2)⟩
end
theorem JO{a:List Ob}(hS:Sound a)(l:List Ob)(fc:ul):∀(x:eB) (n:Nat) (t:LT),eL a n t->xj (a++l) fc t x=xj a fc t x
 |[],n,t,h=>by
  rw[xv,xv]
  cases t with
  |file i=>rw[eL]at h;simp only[nd];rw[qg l (by rw[h];decide)]
  |held f=>rfl
  |dir i=>rfl
  |own es=>rfl
 |m::r,n,t,h=>by
  have hk:kids (a++l) t=kids a t:=by
   cases t with
   |file i=>rfl
   |held f=>rfl
   |dir i=>rw[eL]at h;simp only[kids];rw[mg l (by rw[h.1];decide)]
   |own es=>rfl
  rw[sk,sk,hk];cases mC:kids a t with
  |none=>rfl
  |some ks=>
   rw[my,my];cases hp:g8 ks m with
   |none=>rfl
   |some c=>
    rw[my,my];have d:∃y∈ks,y.2=c:=by
     unfold g8 at hp;obtain⟨z,g,e⟩:=M4.1 hp;exact⟨z,BN g,e⟩
    obtain⟨y,j,e⟩:=d;obtain⟨k,_,b⟩:=((jp hS h mC).2.2 y j).2;rw[e]at b;exact JO hS l fc r k c b
theorem Pj{a:List Ob}(hS:Sound a)(l:List Ob):∀(x:eB) (n:Nat) (t:LT),eL a n t->t.at (a++l) x=t.at a x
 |[],n,t,_=>by rw[k0,k0]
 |m::x,n,t,ht=>by
  rw[h9,h9]
  have hk:kids (a++l) t=kids a t:=by
   cases t with
   |file i=>rfl
   |held f=>rfl
   |own es=>rfl
   |dir i=>
    have b:eC a i=2:=by cases n<;>(rw[eL]at ht;exact ht.1)
    show some _=some _;rw[mg l (by rw[b];decide)]
  rw[hk];cases d:kids a t with
  |none=>rfl
  |some ks=>
   simp only[my];cases hp:g8 ks m with
   |none=>rfl
   |some c=>
    simp only[my];obtain⟨k,_,hc⟩:=((jp hS ht d).2.2 (m,c) (l9 hp)).2;exact Pj hS l x k c hc
theorem xk.app{p:Nat}{ei:List Ob}{lim:Nat}{tg:eM}{w:World}{x:Slot}(hS:Sound ei)(h:xk tg w p ei lim x)(l:List Ob):xk tg w p (ei++l) lim x:=by
 have a:=fun q=>Pj hS l q 5 _ h.ok;have g:∀id,eC ei id=1->bytesOf (ei++l) id=bytesOf ei id:=fun id hk=>qg l (by rw[hk];decide);have i:∀id,eC ei id=2->eR (ei++l) id=eR ei id:=fun id hk=>mg l (by rw[hk];decide);have mC:∀id k,eC ei id=k->k≠0->eC (ei++l) id=k:=fun id k hk h0=>by rw[gA l (by rw[hk];exact h0)];exact hk
 refine⟨h.two,?_,⟨h.flat.kind,h.flat.root,fun q=>by rw[a q];exact h.flat.od q,fun q=>by rw[a q];exact h.flat.of q⟩,D7 l 5 _ h.ok,fun f id d hf h0=>mC id 1 (h.fl f id d hf h0) (by decide),fun y z b h1 h2=>by rw[a]at h1 h2;exact h.inj y z b h1 h2⟩;have hw:=h.wp;obtain⟨tF,j,m,n,o,mF,kF⟩:=hw.jE;obtain⟨tD,r,s,t,u,vD,mD,kD⟩:=hw.jF;refine⟨hw.tree,⟨tF,j,m,n,o,fun id=>?_,fun id hid=>mC id 1 (kF id hid) (by decide)⟩,⟨tD,r,s,t,u,vD,mD,fun id hid=>⟨mC id 2 (kD id hid).1 (by decide),by rw[i id (kD id hid).1];exact(kD id hid).2⟩⟩,hw.nY,hw.kX,hw.files,hw.held,hw.opens,⟨fun h0=>mC _ 2 (hw.ok.root h0) (by decide),fun q es ho e hx=>?_⟩⟩
 ·rw[mF id]
  by_cases hk:x.2.2.1.fs.kF id=true
  ·rw[fY hk,fY hk,g id (kF id hk)]
  ·rw[eJ hk,eJ hk]
 ·obtain⟨c,e2⟩:=hw.ok.od q es ho e hx
  exact⟨c,fun h0=>mC _ _ (e2 h0) (by rcases c with h|h<;>(rw[h];decide))⟩
theorem fI.reset{F F':Nat->Prop}{w w':World}{W s r n:Nat}{c5 c6 c7 c8 c9 c10 c11 d5 d6 d7 d8 d9 d10 d11:Value}(h:fI F w W s r n c5 c6 c7 c8 c9 c10 c11)(hF:∀k,F k->F' k)
  (c:∀a a1 a2 a3 b,w.heap[W]?=some (.cells #[a,a1,a2,a3,b,c5,c6,c7,c8,c9,c10,c11] 71 (0,0))->w'.heap[W]?=some (.cells #[a,a1,a2,a3,b,d5,d6,d7,d8,d9,d10,d11] 71 (0,0)))(hk:∀k,F k->k≠W->w'.heap[k]?=w.heap[k]?):fI F' w' W s r n d5 d6 d7 d8 d9 d10 d11:=by
 obtain⟨ia,ka,pa,ic,kc,pc,paths,hl,hp⟩:=h;have row:∀{t:fL} {v:Value} {n:Nat} {xs:fE},w.ownsRow 0 t 1 v n xs->71≠t->(∀g,v.ownBlock=some g->F g)->w'.ownsRow 0 t 1 v n xs:=fun hr ht hf=>eh hr (fun g hg=>hk g (hf g hg) (fun e=>eI hr hl.hW ht (by rw[<-e];exact hg.symm)));exact⟨ia,ka,pa,ic,kc,pc,paths,⟨hF _ hl.fw,c _ _ _ _ _ hl.hW,row hl.jI (by decide) hl.fi,row hl.mK (by decide) hl.fk,row hl.ny (by decide) hl.fp,fun g hg=>hF g (hl.fi g hg),fun g hg=>hF g (hl.fk g hg),fun g hg=>hF g (hl.fp g hg)⟩,hp⟩
theorem Mm{la:e5}{n m c d:Nat}:(Value.slice la n c).ownBlock=(Value.slice la m d).ownBlock:=by cases la<;>rfl
theorem qD.next{F:Nat->Prop}{t tl:fL}{V:Nat->Value}{w w':World}{W q i:Nat}{cs:Array Value}{ea la:e5}{ec m c:Nat}{hs:List fJ}(h:qD F t tl V w ea ec q hs)(A:t≠tl)(hk:yJ t tl (V q) i w w' W q cs ea ec la m c hs)(hW:¬F W)
  (n:∀g,(Value.slice la m c).ownBlock=some g->¬F g/\g<w.heap.size)(hm:m+3<=1000000000):
  ∃b c4 B,w'.heap[W]?=some (.cells (cs.setIfInBounds i (.slice (some (eb b 0)) (4*(q+1)) c4)) 71 (0,0))/\qD (fun k=>F k\/some k=(Value.slice la m c).ownBlock\/(w.heap.size<=k/\k<w'.heap.size)) t tl V w' (some (eb b 0)) c4 (q+1) B/\en (fun x=>x=W\/F x\/some x=(Value.slice la m c).ownBlock) w w':=by
 obtain⟨b,c4,o,p,r,C,s,N,O,P,D,E,a⟩:=hk;have z:=a.size;have G:en (fun x=>x=W\/F x\/some x=(Value.slice la m c).ownBlock) w w':=⟨a.os,a.tape,a.output,a.size,fun k H hn=>a.block k H (by
  rintro(e|e|e)
  ·exact hn (.inl e)
  ·exact hn (.inr (.inl (h.own k e.symm)))
  ·exact hn (.inr (.inr e)))⟩
 refine⟨b,c4,_,C,⟨?_,s,?_,?_,?_⟩,G⟩
 ·simp[h.len];omega
 ·intro g hg
  simp only[Value.ownBlock,kE]at hg;subst hg;rcases E with e|e
  ·exact .inl (h.own _ e.symm)
  ·exact .inr (.inr ⟨e,ee s rfl⟩)
 ·intro j hj
  by_cases u:j<hs.length
  ·rw[Ge u]
   obtain⟨I,v,f⟩:=h.lists j u;refine⟨I,eh v (fun x hx=>a.block x (h.lt x (f x hx)) ?_),fun g hg=>.inl (f g hg)⟩;rintro(e|e|e)
   ·subst e;exact hW (f _ hx)
   ·exact ma v h.row A hx e
   ·exact(n x e.symm).1 (f x hx)
  ·obtain⟨d,rfl⟩:∃d,j=hs.length+d:=⟨j-hs.length,by omega⟩
   have hd:d<4:=by simp at hj;omega
   rw[Qp (by omega)];have hq:(hs.length+d) / 4=q:=by rw[h.len];omega
   simp only[Ka,hq];have key:∀x∈[((la,m,c):fJ),o,p,r],x.2.1<=1000000000->x.2.1<=1000000000/\jO t (V q) w' x/\∀g,(fD x).ownBlock=some g->F g\/some g=(Value.slice la m c).ownBlock\/(w.heap.size<=g/\g<w'.heap.size):=fun x hx J=>by
    obtain⟨y,K⟩:=D x hx;refine⟨J,y,fun g hg=>?_⟩;rcases K with⟨l,e2⟩|⟨L,l,e2⟩
    ·refine .inr (.inl ?_)
     rw[<-hg];unfold fD;rw[l];exact Mm
    ·have M:L=g:=by
      unfold fD at hg;rw[l]at hg;exact wZ hg
     subst M;exact .inr (.inr ⟨e2,ee y hg⟩)
   match d,hd with
   |0,_=>exact key _ (by simp) (show m<=1000000000 by omega)
   |1,_=>exact key o (by simp) (by omega)
   |2,_=>exact key p (by simp) (by omega)
   |3,_=>exact key r (by simp) (by omega)
 ·rintro k (hk|hk|hk)
  ·exact kv (h.lt k hk) z
  ·exact kv (n k hk.symm).2 z
  ·exact hk.2
section
variable {R:pI}{tg ey:eM}{w w':World}{B0 W s r p lim:Nat}{ei ep:List Ob}{got:List Int}{ws:List Slot}{ds:List Doc}{q8 q9 fH:Nat}
theorem e7.fW(h:e7 R tg w B0 W s r p lim ei ep got ws ds q8 q9 fH):tg W=(0,1):=by
 obtain⟨_,_,_,_,_,_,_,hl,_⟩:=h.w3.law;exact hl.fw
theorem e7.block(h:e7 R tg w B0 W s r p lim ei ep got ws ds q8 q9 fH):∃a a1 a2 a3 b,w.heap[W]?=some (.cells #[a,a1,a2,a3,b,.slice R.wa ws.length R.wc,.slice R.ta ds.length R.tc,.bool false,.slice R.na (4*q8) R.nc,.slice R.ea (4*q9) R.ec,.slice none 0 0,.slice R.ia (4*fH) R.ic] 71 (0,0)):=h.w3.block
theorem e7.rest{P:Nat×Nat->Prop}(h:e7 R tg w B0 W s r p lim ei ep got ws ds q8 q9 fH)(m:eo P tg ey w w')(d:∀t,P t->t.1=0/\t.2<=4/\t.2≠2):
  eU (fun k=>ey k=(0,2)) w' r ep/\fK ⟨R.pt,p,[]⟩ (fun k=>ey k=(1,0)) w' s ei/\sJ ey w' R.pt got/\(∀x∈ws,xk ey w' p ei lim x)/\∀j (hj:j<ds.length),eN (fun k=>ey k=(0,8+j)) w' ds[j].1 ds[j].2.1 ds[j].2.2.1 ds[j].2.2.2:=by
 have hn:∀t,(t.1≠0\/4<t.2\/t.2=2)->¬P t:=fun t ht hp=>by have:=d t hp;omega
 have tagged:∀k t,t≠(0,0)->(t.1≠0\/4<t.2\/t.2=2)->tg k=t->ey k=t/\w'.heap[k]?=w.heap[k]?:=fun k t h0 ht hk=>by
  have a:=h.fresh.lt (by rw[hk];exact h0);exact⟨(m.tags k a).trans hk,m.block k a (by rw[hk];exact hn t ht)⟩
 refine⟨h.w3.ref.keep (fun k hk=>(tagged k (0,2) (by decide) (by decide) hk).1) (fun k hk=>(tagged k (0,2) (by decide) (by decide) hk).2),⟨h.w3.qX.1.keep (fun k _ hk=>(tagged k (1,0) (by decide) (by decide) hk).2) (fun k _ hk=>(tagged k (1,0) (by decide) (by decide) hk).1),h.w3.qX.2⟩,h.Ml.moves m (hn _ (by decide)),fun x hx=>(h.uH x hx).moves m (fun c=>hn _ (by have:=(h.uH x hx).two;left;show x.1≠0;omega)),fun j hj=>?_⟩;obtain⟨na,nc,da,dc,f⟩:=h.Ip j hj;have hne:((0,8+j):Nat×Nat)≠(0,0):=fun e=>by have:=rp Prod.snd e;simp only at this;omega
 have b:((0,8+j):Nat×Nat).1≠0\/4<((0,8+j):Nat×Nat).2\/((0,8+j):Nat×Nat).2=2:=by right;left;show 4<8+j;omega
 exact⟨na,nc,da,dc,f.keep (fun k hk=>(tagged k _ hne b hk).1) (fun k hk=>(tagged k _ hne b hk).2)⟩
theorem e7.low{X:Nat->Prop}(h:e7 R tg w B0 W s r p lim ei ep got ws ds q8 q9 fH)(hk:en X w w')(b:∀k,X k->tg k≠(0,0)\/B0<=k):Below B0 w w':=
 ⟨hk.os,hk.tape,hk.output,hk.size,fun k a=>hk.block k (kv a h.size) (fun hx=>by
  rcases b k hx with e|e
  ·exact e (h.old k a)
  ·omega)⟩
theorem e7.Ub{la:e5}{m c:Nat}{xs:fE}(h:e7 R tg w B0 W s r p lim ei ep got ws ds q8 q9 fH)(hq:4*q8<=1000000000)(hm:m+3<=1000000000)(hl:w.ownsRow 0 9 1 (.slice la m c) m xs)(b:∀g,(Value.slice la m c).ownBlock=some g->tg g=(0,0)/\B0<=g/\¬R.FN g/\¬R.FE g/\¬R.FI g):
  eK 93 #[.pointer (some (eb W 8)),.slice la m c] w fun e w'=>e=.returned (.tuple #[])/\∃l,e7 l tg w' B0 W s r p lim ei ep got ws ds (q8+1) q9 fH/\Below B0 w w':=by
 obtain⟨H,a1,a2,a3,I,hW⟩:=h.block;refine(Ae W q8 _ R.na R.nc m c la R.ns xs w hW rfl h.names.len hq h.names.row (by omega) hl).mono ?_;rintro e w' ⟨n,hk⟩;refine⟨n,?_⟩;have Tg:∀k,R.FN k\/R.FE k\/R.FI k->k≠W:=fun k hk e=>by have:=(h.holds k hk).1;rw[e,h.fW]at this;cases this
 obtain⟨o,c4,q,u,v,a⟩:=h.names.next (by decide) (show yJ 9 131 (VN q8) 8 w w' W q8 _ R.na R.nc la m c R.ns from hk) (fun hf=>Tg W (.inl hf) rfl) (fun g hg=>⟨(b g hg).2.2.1,ee hl hg⟩) hm;have d:∀k,R.FN k\/some k=(Value.slice la m c).ownBlock->tg k=(0,0):=fun k hk=>by
  rcases hk with e|e
  ·exact(h.holds k (.inl e)).1
  ·exact(b k e.symm).1
 have pN:gF tg w':=fun k hk=>h.fresh k (pD a.size hk);have mv:eo (fun t=>t=(0,0)\/t=(0,1)) tg tg w w':=⟨a.os,a.tape,a.output,a.size,fun _ _=>rfl,fun k i hn=>a.block k i (by
  rintro(e|e)
  ·exact hn (.inr (by rw[e];exact h.fW))
  ·exact hn (.inl (d k e))),fun _=>pN⟩
 obtain⟨x,y,z,A,B⟩:=h.rest mv (by rintro t (rfl|rfl)<;>decide);have keep:∀k,k<w.heap.size->k≠W->¬R.FN k->some k≠(Value.slice la m c).ownBlock->w'.heap[k]?=w.heap[k]?:=fun k h1 h2 h3 C=>a.block k h1 (by
  rintro(e|e|e)
  ·exact h2 e
  ·exact h3 e
  ·exact C e)
 have om:∀k,tg k≠(0,0)->k≠W->w'.heap[k]?=w.heap[k]?:=fun k h1 h2=>keep k (h.fresh.lt h1) h2 (fun e=>h1 (d k (.inl e))) (fun e=>h1 (d k (.inr e)));refine⟨{ R with na:=some (eb o 0),nc:=c4,ns:=q,FN:=fun k=>R.FN k\/some k=(Value.slice la m c).ownBlock\/(w.heap.size<=k/\k<w'.heap.size) },⟨pN,h.old,pD h.size a.size,h.brk,z,h.Am,⟨?_,x,y,h.w3.twin,h.w3.at_,kR pN⟩,?_,h.o6,?_,h.o7,v,?_,?_,?_,?_,A,h.slot,B,h.cnt⟩,?_⟩
 ·refine h.w3.law.reset (fun _ h=>h) (fun J K L M N j=>?_) (fun k i hk2=>om k (by rw[i];decide) hk2)
  rw[hW]at j;simp only[kE,Nc,Gn,pS,tj]at j;obtain⟨D,E,e2,F,G⟩:=j;rw[u,D,E,e2,F,G];rfl
 ·exact eh h.zh (fun g hg=>om g (by rw[h.o6 g hg];decide) (fun e=>by have:=h.o6 g hg;rw[e,h.fW]at this;cases this))
 ·exact eh h.fP (fun g hg=>om g (by rw[h.o7 g hg];decide) (fun e=>by have:=h.o7 g hg;rw[e,h.fW]at this;cases this))
 ·exact h.eG.keep (fun k hk=>keep k (h.eG.lt k hk) (Tg k (.inr (.inl hk))) (fun e=>(h.apart k).1 ⟨e,hk⟩) (fun e=>(b k e.symm).2.2.2.1 hk)) a.size
 ·exact h.ids.keep (fun k hk=>keep k (h.ids.lt k hk) (Tg k (.inr (.inr hk))) (fun e=>(h.apart k).2.1 ⟨e,hk⟩) (fun e=>(b k e.symm).2.2.2.2 hk)) a.size
 ·rintro k ((e|e|e)|e|e)
  ·exact h.holds k (.inl e)
  ·exact⟨(b k e.symm).1,(b k e.symm).2.1⟩
  ·exact⟨h.fresh k e.1,pD h.size e.1⟩
  ·exact h.holds k (.inr (.inl e))
  ·exact h.holds k (.inr (.inr e))
 ·refine fun k=>⟨?_,?_,(h.apart k).2.2⟩
  ·rintro⟨e|e|e,f⟩
   ·exact(h.apart k).1 ⟨e,f⟩
   ·exact(b k e.symm).2.2.2.1 f
   ·have:=h.eG.lt k f;omega
  ·rintro⟨e|e|e,f⟩
   ·exact(h.apart k).2.1 ⟨e,f⟩
   ·exact(b k e.symm).2.2.2.2 f
   ·have:=h.ids.lt k f;omega
 ·exact h.low a (by
   rintro k (e|e|e)
   ·exact .inl (by rw[e,h.fW];decide)
   ·exact .inr (h.holds k (.inl e)).2
   ·exact .inr (b k e.symm).2.1)
theorem e7.Uc{la:e5}{m c:Nat}{xs:fE}(h:e7 R tg w B0 W s r p lim ei ep got ws ds q8 q9 fH)(hq:4*fH<=1000000000)(hm:m+3<=1000000000)(hl:w.ownsRow 0 29 1 (.slice la m c) m xs)(b:∀g,(Value.slice la m c).ownBlock=some g->tg g=(0,0)/\B0<=g/\¬R.FN g/\¬R.FE g/\¬R.FI g):
  eK 88 #[.pointer (some (eb W 8)),.slice la m c] w fun e w'=>e=.returned (.tuple #[])/\∃l,e7 l tg w' B0 W s r p lim ei ep got ws ds q8 q9 (fH+1)/\Below B0 w w':=by
 obtain⟨H,a1,a2,a3,I,hW⟩:=h.block;refine(EC W fH _ R.ia R.ic m c la R.js xs w hW rfl h.ids.len hq h.ids.row (by omega) hl).mono ?_;rintro e w' ⟨n,hk⟩;refine⟨n,?_⟩;have Tg:∀k,R.FN k\/R.FE k\/R.FI k->k≠W:=fun k hk e=>by have:=(h.holds k hk).1;rw[e,h.fW]at this;cases this
 obtain⟨o,c4,q,u,v,a⟩:=h.ids.next (by decide) (show yJ 29 59 (VI fH) 11 w w' W fH _ R.ia R.ic la m c R.js from hk) (fun hf=>Tg W (.inr (.inr hf)) rfl) (fun g hg=>⟨(b g hg).2.2.2.2,ee hl hg⟩) hm;have d:∀k,R.FI k\/some k=(Value.slice la m c).ownBlock->tg k=(0,0):=fun k hk=>by
  rcases hk with e|e
  ·exact(h.holds k (.inr (.inr e))).1
  ·exact(b k e.symm).1
 have pN:gF tg w':=fun k hk=>h.fresh k (pD a.size hk);have mv:eo (fun t=>t=(0,0)\/t=(0,1)) tg tg w w':=⟨a.os,a.tape,a.output,a.size,fun _ _=>rfl,fun k i hn=>a.block k i (by
  rintro(e|e)
  ·exact hn (.inr (by rw[e];exact h.fW))
  ·exact hn (.inl (d k e))),fun _=>pN⟩
 obtain⟨x,y,z,A,B⟩:=h.rest mv (by rintro t (rfl|rfl)<;>decide);have keep:∀k,k<w.heap.size->k≠W->¬R.FI k->some k≠(Value.slice la m c).ownBlock->w'.heap[k]?=w.heap[k]?:=fun k h1 h2 h3 C=>a.block k h1 (by
  rintro(e|e|e)
  ·exact h2 e
  ·exact h3 e
  ·exact C e)
 have om:∀k,tg k≠(0,0)->k≠W->w'.heap[k]?=w.heap[k]?:=fun k h1 h2=>keep k (h.fresh.lt h1) h2 (fun e=>h1 (d k (.inl e))) (fun e=>h1 (d k (.inr e)));refine⟨{ R with ia:=some (eb o 0),ic:=c4,js:=q,FI:=fun k=>R.FI k\/some k=(Value.slice la m c).ownBlock\/(w.heap.size<=k/\k<w'.heap.size) },⟨pN,h.old,pD h.size a.size,h.brk,z,h.Am,⟨?_,x,y,h.w3.twin,h.w3.at_,kR pN⟩,?_,h.o6,?_,h.o7,?_,?_,v,?_,?_,A,h.slot,B,h.cnt⟩,?_⟩
 ·refine h.w3.law.reset (fun _ h=>h) (fun J K L M N j=>?_) (fun k i hk2=>om k (by rw[i];decide) hk2)
  rw[hW]at j;simp only[kE,Nc,Gn,pS,tj]at j;obtain⟨D,E,e2,F,G⟩:=j;rw[u,D,E,e2,F,G];rfl
 ·exact eh h.zh (fun g hg=>om g (by rw[h.o6 g hg];decide) (fun e=>by have:=h.o6 g hg;rw[e,h.fW]at this;cases this))
 ·exact eh h.fP (fun g hg=>om g (by rw[h.o7 g hg];decide) (fun e=>by have:=h.o7 g hg;rw[e,h.fW]at this;cases this))
 ·exact h.names.keep (fun k hk=>keep k (h.names.lt k hk) (Tg k (.inl hk)) (fun e=>(h.apart k).2.1 ⟨hk,e⟩) (fun e=>(b k e.symm).2.2.1 hk)) a.size
 ·exact h.eG.keep (fun k hk=>keep k (h.eG.lt k hk) (Tg k (.inr (.inl hk))) (fun e=>(h.apart k).2.2 ⟨hk,e⟩) (fun e=>(b k e.symm).2.2.2.1 hk)) a.size
 ·rintro k (e|e|e|e|e)
  ·exact h.holds k (.inl e)
  ·exact h.holds k (.inr (.inl e))
  ·exact h.holds k (.inr (.inr e))
  ·exact⟨(b k e.symm).1,(b k e.symm).2.1⟩
  ·exact⟨h.fresh k e.1,pD h.size e.1⟩
 ·refine fun k=>⟨(h.apart k).1,?_,?_⟩
  ·rintro⟨f,e|e|e⟩
   ·exact(h.apart k).2.1 ⟨f,e⟩
   ·exact(b k e.symm).2.2.1 f
   ·have:=h.names.lt k f;omega
  ·rintro⟨f,e|e|e⟩
   ·exact(h.apart k).2.2 ⟨f,e⟩
   ·exact(b k e.symm).2.2.2.1 f
   ·have:=h.eG.lt k f;omega
 ·exact h.low a (by
   rintro k (e|e|e)
   ·exact .inl (by rw[e,h.fW];decide)
   ·exact .inr (h.holds k (.inr (.inr e))).2
   ·exact .inr (b k e.symm).2.1)
theorem e7.still(h:e7 R tg w B0 W s r p lim ei ep got ws ds q8 q9 fH)(h8:4*q8<=1000000000)(a:4*q9<=1000000000)(b:4*fH<=1000000000):
  eK 24 #[.pointer (some (eb W 8))] w (ml (.bool true) w):=by
 obtain⟨m,a1,a2,a3,n,hW⟩:=h.block;have c:w.cell? (eb W 8)=some (.slice R.na (4*q8) R.nc):=by simp[World.cell?,hW]
 have d:w.cell? (eb W 9)=some (.slice R.ea (4*q9) R.ec):=by simp[World.cell?,hW]
 have k:w.cell? (eb W 10)=some (.slice none 0 0):=by simp[World.cell?,hW]
 have e:w.cell? (eb W 11)=some (.slice R.ia (4*fH) R.ic):=by simp[World.cell?,hW]
 have f:=h.names.row;have g:=h.eG.row;have j:=h.ids.row;rw[<-h.names.len]at c h8 f;rw[<-h.eG.len]at d a g;rw[<-h.ids.len]at e b j;have l:W<w.heap.size:=(lF.1 hW).1;refine Hj W R.na R.ea R.ia R.nc R.ec R.ic R.ns R.hs R.js w l c d k e f g j h.names.full h.eG.full h.ids.full h8 a b (fun x hx=>?_) (fun x hx=>?_) (fun x hx=>?_)
 ·obtain⟨i,hi,rfl⟩:=mH hx
  exact(h.names.lists i hi).1
 ·obtain⟨i,hi,rfl⟩:=mH hx
  have:=(h.eG.lists i hi).1
  omega
 ·obtain⟨i,hi,rfl⟩:=mH hx
  exact(h.ids.lists i hi).1
theorem e7.xA(h:e7 R tg w B0 W s r p lim ei ep got ws ds q8 q9 fH):W3 ⟨R.pt,p,ei⟩ (fun k=>tg k=(0,1)) (fun k=>tg k=(0,2)) (fun k=>tg k=(1,0)) w W s r ei ep (.slice R.wa ws.length R.wc) (.slice R.ta ds.length R.tc) (.bool false) (.slice R.na (4*q8) R.nc) (.slice R.ea (4*q9) R.ec) (.slice none 0 0) (.slice R.ia (4*fH) R.ic):=⟨h.w3.law,h.w3.ref,⟨h.w3.qX.1,mB _,h.w3.qX.2.2⟩,h.w3.twin,h.w3.at_,h.w3.sep⟩
theorem e7.Bv{d i m n:Nat->Prop}{q D:List Ob}{u:e5}{v y:Nat}{E:List fJ}(h:e7 R tg w B0 W s r p lim ei ep got ws ds q8 q9 fH)
  (h':W3 ⟨R.pt,p,ei⟩ d i m w' W s r q D (.slice R.wa ws.length R.wc) (.slice R.ta ds.length R.tc) (.bool false) (.slice R.na (4*q8) R.nc) (.slice u (4*y) v) (.slice none 0 0) (.slice R.ia (4*fH) R.ic))(H:Held n w' u v y E)(I:∀k,n k->¬F3 d i m k)
  (z:vn (fun k=>tg k=(0,1)) (fun k=>tg k=(0,2)) (fun k=>tg k=(1,0)) d i m w.heap.size)(A:∀k,n k->R.FE k\/w.heap.size<=k)(a:en (fun k=>F3 (fun k=>tg k=(0,1)) (fun k=>tg k=(0,2)) (fun k=>tg k=(1,0)) k\/R.FE k) w w'):
  ∃J ey l,q=ei++l/\e7 J ey w' B0 W s r p lim q D got ws ds q8 y fH/\Below B0 w w':=by
 classical
 obtain⟨l,rfl⟩:∃l,q=ei++l:=by
  obtain⟨l,hl⟩:=h'.qX.2.1;exact⟨l,hl.symm⟩
 obtain⟨ey,b⟩:∃ey:eM,ey=fun k=>if k<w.heap.size then tg k else if d k then(0,1)else if i k then(0,2)else if m k then(1,0) else(0,0):=⟨_,rfl⟩;have t1:∀k,k<w.heap.size->ey k=tg k:=fun k hk=>by rw[b];exact fY hk
 have o:=a.size;have B:gF ey w':=fun k Q=>by
  rw[b];simp only;rw[eJ (by omega),eJ (fun e=>by have:=h'.sep.ll k e;omega),eJ (fun e=>by have:=(h'.sep.rl k e).1;omega),eJ (fun e=>by have:=(h'.sep.sl k e).1;omega)]
 have K:∀k,d k->ey k=(0,1):=fun k hk=>by
  rcases(z k).1 hk with e|e
  ·exact(t1 k (h.w3.sep.ll k e)).trans e
  ·rw[b];simp only;rw[eJ (by omega),fY hk]
 have L:∀k,i k->ey k=(0,2):=fun k hk=>by
  rcases(z k).2.1 hk with e|e
  ·exact(t1 k (h.w3.sep.rl k e).1).trans e
  ·rw[b];simp only;rw[eJ (by omega),eJ (h'.sep.rl k hk).2,fY hk]
 have tS:∀k,m k->ey k=(1,0):=fun k hk=>by
  rcases(z k).2.2 hk with e|e
  ·exact(t1 k (h.w3.sep.sl k e).1).trans e
  ·rw[b];simp only;rw[eJ (by omega),eJ (h'.sep.sl k hk).2,eJ (fun e=>h'.sep.rs k e hk),fY hk]
 have M:∀k,n k->ey k=(0,0)/\B0<=k:=fun k hk=>by
  rcases A k hk with e|e
  ·exact⟨(t1 k (h.eG.lt k e)).trans (h.holds k (.inr (.inl e))).1,(h.holds k (.inr (.inl e))).2⟩
  ·have hn:=I k hk
   refine⟨?_,pD h.size e⟩;rw[b];simp only;rw[eJ (by omega),eJ (fun x=>hn (.inl x)),eJ (fun x=>hn (.inr (.inl x))),eJ (fun x=>hn (.inr (.inr x)))]
 have keep:∀k,k<w.heap.size->tg k≠(0,1)->tg k≠(0,2)->tg k≠(1,0)->¬R.FE k->w'.heap[k]?=w.heap[k]?:=fun k h1 h2 h3 N O=>a.block k h1 (by
  rintro((e|e|e)|e)
  ·exact h2 e
  ·exact h3 e
  ·exact N e
  ·exact O e)
 have om:∀k t,tg k=t->t≠(0,0)->t≠(0,1)->t≠(0,2)->t≠(1,0)->ey k=t/\w'.heap[k]?=w.heap[k]?:=fun k t hk h0 h1 h2 h3=>by
  have F:=h.fresh.lt (by rw[hk];exact h0);exact⟨(t1 k F).trans hk,keep k F (by rw[hk];exact h1) (by rw[hk];exact h2) (by rw[hk];exact h3) (fun e=>h0 (hk.symm.trans (h.holds k (.inr (.inl e))).1))⟩
 have mv:eo (fun t=>t=(0,0)\/t=(0,1)\/t=(0,2)\/t=(1,0)) tg ey w w':=⟨a.os,a.tape,a.output,o,t1,fun k hk hn=>keep k hk (fun e=>hn (.inr (.inl e))) (fun e=>hn (.inr (.inr (.inl e)))) (fun e=>hn (.inr (.inr (.inr e)))) (fun e=>hn (.inl (h.holds k (.inr (.inl e))).1)),fun _=>B⟩;refine⟨{ R with ea:=u,ec:=v,hs:=E,FE:=n },ey,l,rfl,⟨B,fun k hk=>(t1 k (kv hk h.size)).trans (h.old k hk),pD h.size o,h.brk,h.Ml.moves mv (by rintro(e|e|e|e)<;>cases e),h.Am,⟨h'.law.mono K,h'.ref.keep L (fun _ _=>rfl),⟨h'.qX.1.keep (fun _ _ _=>rfl) (fun k _ hk=>tS k hk),List.nil_prefix,h'.qX.2.2⟩,h'.twin,h'.at_,kR B⟩,?_,?_,?_,?_,?_,H,?_,?_,?_,?_,h.slot,?_,h.cnt⟩,?_⟩
 ·exact eh h.zh (fun g hg=>(om g _ (h.o6 g hg) (by decide) (by decide) (by decide) (by decide)).2)
 ·exact fun g hg=>(om g _ (h.o6 g hg) (by decide) (by decide) (by decide) (by decide)).1
 ·exact eh h.fP (fun g hg=>(om g _ (h.o7 g hg) (by decide) (by decide) (by decide) (by decide)).2)
 ·exact fun g hg=>(om g _ (h.o7 g hg) (by decide) (by decide) (by decide) (by decide)).1
 ·exact h.names.keep (fun k hk=>keep k (h.names.lt k hk) (by rw[(h.holds k (.inl hk)).1];decide) (by rw[(h.holds k (.inl hk)).1];decide) (by rw[(h.holds k (.inl hk)).1];decide) (fun e=>(h.apart k).1 ⟨hk,e⟩)) o
 ·exact h.ids.keep (fun k hk=>keep k (h.ids.lt k hk) (by rw[(h.holds k (.inr (.inr hk))).1];decide) (by rw[(h.holds k (.inr (.inr hk))).1];decide) (by rw[(h.holds k (.inr (.inr hk))).1];decide) (fun e=>(h.apart k).2.2 ⟨e,hk⟩)) o
 ·rintro k (e|e|e)
  ·exact⟨(t1 k (h.names.lt k e)).trans (h.holds k (.inl e)).1,(h.holds k (.inl e)).2⟩
  ·exact M k e
  ·exact⟨(t1 k (h.ids.lt k e)).trans (h.holds k (.inr (.inr e))).1,(h.holds k (.inr (.inr e))).2⟩
 ·refine fun k=>⟨?_,(h.apart k).2.1,?_⟩
  ·rintro⟨e,f⟩
   rcases A k f with f|f
   ·exact(h.apart k).1 ⟨e,f⟩
   ·have:=h.names.lt k e;omega
  ·rintro⟨f,e⟩
   rcases A k f with f|f
   ·exact(h.apart k).2.2 ⟨f,e⟩
   ·have:=h.ids.lt k e;omega
 ·intro x hx
  exact((h.uH x hx).app h.w3.qX.2.2.1.sound l).moves mv (fun c hc=>by have:=(h.uH x hx).two;rcases hc with e|e|e|e<;>(have:=rp Prod.fst e;simp only at this;omega))
 ·intro j hj
  obtain⟨na,nc,da,dc,P⟩:=h.Ip j hj;have C:∀c,c<8->((0,8+j):Nat×Nat)≠(0,c):=fun c hc e=>by have:=rp Prod.snd e;simp only at this;omega
  have G:=fun k (hk:tg k=(0,8+j))=>om k _ hk (C 0 (by omega)) (C 1 (by omega)) (C 2 (by omega)) (fun e=>by cases e);exact⟨na,nc,da,dc,P.keep (fun k hk=>(G k hk).1) (fun k hk=>(G k hk).2)⟩
 ·refine⟨a.os,a.tape,a.output,o,fun k hk=>?_⟩
  have h0:=h.old k hk;exact keep k (kv hk h.size) (by rw[h0];decide) (by rw[h0];decide) (by rw[h0];decide) (fun e=>by have:=(h.holds k (.inr (.inl e))).2;omega)
theorem e7.step(h:e7 R tg w B0 W s r p lim ei ep got ws ds q8 q9 fH)(hq:4*q9<=1000000000)(o:Step)(ho:o.Fits w)(hk:1<=o.kind/\o.kind<=5):
  eK 20 #[fj W,o.val] w fun e w'=>e=.returned (.bool true)/\∃b ey l c a,a<=q9+1/\e7 b ey w' B0 W s r p lim (ei++l) c got ws ds q8 a fH/\Below B0 w w':=by
 have n3:∀k,tg k=(0,0)->¬F3 (fun k=>tg k=(0,1)) (fun k=>tg k=(0,2)) (fun k=>tg k=(1,0)) k:=fun k hk e=>by
  rcases e with e|e|e<;>(rw[hk]at e;cases e)
 refine(G7 h.xA h.eG (fun k hk=>n3 k (h.holds k (.inr (.inl hk))).1) hq o ho hk).mono ?_;rintro e w' ⟨d,a,hq',t,u,v,x,y,c,z,A,B,h',f,g,i,j,m⟩;obtain⟨b,ey,l,rfl,n,q⟩:=h.Bv h' f g i j m;exact⟨d,b,ey,l,c,a,hq',n,q⟩
end
end Go.Proofs.YtlgidcmmgohagaaGreat
