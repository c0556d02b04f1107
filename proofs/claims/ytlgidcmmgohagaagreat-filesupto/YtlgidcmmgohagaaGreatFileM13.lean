/- What is proved here: 'keepIDs'. -/
import Derived.Test.YtlgidcmmgohagaaGreatFileM12
import Derived.Test.YtlgidcmmgohagaaGreatFileM04
import Derived.Lib.SliceRun
import Derived.Test.YtlgidcmmgohagaaGreatFileM01
namespace Go.Proofs.YtlgidcmmgohagaaGreat
open Go.RowKit Go.Sort Go.Shelf
set_option linter.unusedVariables false
set_option maxRecDepth 100000
set_option maxHeartbeats 16000000
theorem Q0:(Tryz.prog.info? 59).map (fun i=>(i.zero,i.size,i.bytes))=some (some (.slice none 0 0),1,24):=by kernel_rfl
def jO (t:fL)(V:Value)(w:World)(h:fJ):Prop:=w.ownsRow 0 t 1 (fD h) h.2.1 (List.replicate h.2.1 V)
def uj (la:e5)(c base:Nat)(h:fJ):Prop:=(h.1=la/\h.2.2=c)\/(∃g,h.1=some ⟨g,0,none⟩/\base<=g)
theorem gQ{w w':World}{la:e5}{c n base:Nat}{a:Value}(h:Room w w' la c a n)(e:base<=w.heap.size):∃b d,a=.slice b n d/\uj la c base (b,n,d):=by
 rcases h with⟨_,g,cap,rfl,hg⟩|⟨g,rfl,rfl,_⟩
 ·exact⟨some (eb g 0),cap,rfl,.inr ⟨g,rfl,pD e hg⟩⟩
 ·exact⟨some (eb g 0),c,rfl,.inl ⟨rfl,rfl⟩⟩
theorem lM{t:fL}{V:Value}{w w':World}{la:e5}{c n base:Nat}{a:Value}{x:fJ}(h:jO t V w x)(hn:uj la c base x)(b:∀g,la=some (eb g 0)->g<base)(hr:Room w w' la c a n)(hv:w'.ownsRow 0 t 1 a n (List.replicate n V))(hx:x.2.1<=n):jO t V w' x:=by
 rcases hr with⟨hg,_⟩|⟨g,rfl,rfl,hg⟩
 ·exact eh h (fun k hk=>hg.block k (ee h hk) (by simp))
 ·rcases hn with⟨h1,h2⟩|⟨d,h1,h2⟩
  ·obtain⟨f,i,j⟩:=x
   simp only at h1 h2 hx;subst h1;subst h2;exact yI hv hx
  ·have l:=b g rfl
   refine eh h (fun k hk=>hg.block k (ee h hk) (fun e=>?_));simp only[fD,h1,Value.ownBlock,kE]at hk e;omega
def yJ (t tl:fL)(V:Value)(i:Nat)(w w':World)(W q:Nat)(cs:Array Value)(ea:e5)(ec:Nat)(la:e5)(m c:Nat)(hs:List fJ):Prop:=
 ∃(a c4:Nat) (b d e:fJ),w'.heap[W]?=some (.cells (cs.setIfInBounds i (.slice (some ⟨a,0,none⟩) (4*q+4) c4)) 71 (0,0))/\
  w'.ownsRow 0 tl 1 (.slice (some ⟨a,0,none⟩) (4*q+4) c4) (4*q+4) ((hs++[(la,m,c),b,d,e]).map fD)/\b.2.1=m+1/\d.2.1=m+2/\e.2.1=m+3/\
  (∀h∈[((la,m,c):fJ),b,d,e],jO t V w' h/\uj la c w.heap.size h)/\
  ((some a:Option Nat)=(Value.slice ea (4*q) ec).ownBlock\/w.heap.size<=a)/\
  en (fun x=>x=W\/some x=(Value.slice ea (4*q) ec).ownBlock\/some x=(Value.slice la m c).ownBlock) w w'
theorem j4{w wr w':World}{o:Obj}{la:e5}{m c n:Nat}{a:Value}(hk:en (fun x=>some x=(Value.slice la m c).ownBlock) w wr)(hr:Room (wr.alloc o) w' la c a n):en (fun x=>some x=(Value.slice la m c).ownBlock) w w':=by
 have key:∀row,(wr.alloc o).grownBy w' row->(∀x,some x=row->some x=(Value.slice la m c).ownBlock)->en (fun x=>some x=(Value.slice la m c).ownBlock) w w':=fun row hg b=>by
  have hs:=hg.size;simp at hs
  have:=hk.size
  refine⟨hg.os.trans hk.os,hg.tape.trans hk.tape,hg.output.trans hk.output,by omega,fun x hx hne=>?_⟩;rw[hg.block x (by simp;omega) (fun e=>hne (b x e)),jU _ _ _ (by omega)];exact hk.block x hx hne
 rcases hr with⟨hg,_⟩|⟨g,rfl,_,hg⟩
 ·exact key _ hg (fun x hx=>by cases hx)
 ·exact key _ hg (fun x hx=>by rw[hx];rfl)
theorem lN{wr w':World}{o:Obj}{la:e5}{c n:Nat}{a:Value}(hr:Room (wr.alloc o) w' la c a n):wr.heap.size<w'.heap.size:=by
 rcases hr with⟨hg,_⟩|⟨g,rfl,_,hg⟩
 all_goals have:=hg.size;simp at this;omega
theorem EC(W q:Nat)(cs:Array Value)(ea:e5)(ec m c:Nat)(la:e5)(hs:List fJ)(xs:fE)(w:World)(hW:w.heap[W]?=some (.cells cs 71 (0,0)))(I:cs[11]?=some (.slice ea (4*q) ec))(hn:hs.length=4*q)(bp:4*q<=1000000000)
  (row:w.ownsRow 0 59 1 (.slice ea (4*q) ec) (4*q) (hs.map fD))(hm:m<=1000000000)(hl:w.ownsRow 0 29 1 (.slice la m c) m xs):
  eK 88 #[.pointer (some (eb W 8)),.slice la m c] w fun e w'=>e=.returned (.tuple #[])/\yJ 29 59 (ed (-1000-(q:Int))) 11 w w' W q cs ea ec la m c hs:=by
 obtain⟨aa,hi,ab,ac,ad⟩:=H4 Jp;obtain⟨J,hS,K,L,N⟩:=H4 Q0;have bq:W<w.heap.size:=(lF.1 hW).1;have br:w.cell? (eb W 11)=some (.slice ea (4*q) ec):=by simp[World.cell?,hW,I]
 have aU:Hid (w.ownsRow 0 29 1 (.slice la m c) m xs):=hl;have ae:Hid (w.ownsRow 0 59 1 (.slice ea (4*q) ec) (4*q) (hs.map fD)):=row;have aV:Hid (∀g,(Value.slice la m c).ownBlock=some g->g<w.heap.size/\g≠W):=fun g hg=>⟨ee hl hg,fun e=>by subst e;exact eI hl hW (by decide) hg.symm⟩;have af:11<cs.size:=(lF.1 I).1;have aW:∀v:Value,(cs.setIfInBounds 11 v)[11]?=some v:=fun v=>by simp[af]
 have bs:((4*q:Nat):Int) / 4=(q:Int):=by omega
 have bt:(4*(q:Int)) / 4=(q:Int):=by omega
 have aX:Hid (∃rest:fE,rest.length=m-0/\w.ownsRow 0 29 1 (.slice la m c) m (List.replicate 0 (Value.int .i64 (-1000-(q:Int)))++rest)):=⟨xs,by have:=hl.1;omega,by simpa using hl⟩;have ag:Hid (∀g,la=some (eb g 0)->g<w.heap.size):=fun g hg=>by subst hg;exact ee hl rfl
 clear hl row;go_enter Tryz.func88,Tryz.ntmps88;go_wp2
 go_loopw [5] (fun i wr=>∃k:Nat,k<=m/\i=.int .i64 (k:Int)/\Hid (en (fun x=>some x=(Value.slice la m c).ownBlock) w wr)/\Hid (∃rest:fE,rest.length=m-k/\wr.ownsRow 0 29 1 (.slice la m c) m (List.replicate k (Value.int .i64 (-1000-(q:Int)))++rest))) (fun i _=>m-(intOf i).toNat)
 case atStart=>exact⟨0,oY _,rfl,en.refl _,aX.out⟩
 case round=>
  obtain⟨k,hk,rfl,s,ah⟩:=hrel;have aY:w.heap.size<=wr.heap.size:=s.out.size;by_cases bu:k<m
  ·obtain⟨rest,ax,z⟩:=ah.out
   obtain⟨g,bv,ay⟩:=ej z (by omega);have aZ:=(kW ay).1;subst aZ;have bw:=fun j=>z.frozenAt j;have a0:∃v,wr.cell? (eb g k)=some v:=by
    rw[z.cellAt k (by omega)];exact⟨_,gJ (by rw[jM,s7,ax];omega)⟩
   obtain⟨bx,bz⟩:=a0;have bA:(k:Int)<(m:Int):=by omega
   have bB:g<wr.heap.size:=ee z rfl;have a1:Hid _:=z;clear z ay;go_wp2;go_roundw
   case rel=>
    refine⟨k+1,by omega,by go_num,?_,?_⟩
    ·exact⟨s.out.os,s.out.tape,s.out.output,by simpa using s.out.size,fun x hx hne=>by
      have a2:x≠g:=fun e=>hne (by rw[e];rfl);rw[ij _ _ _ _ a2];exact s.out.block x hx hne⟩
    ·exact⟨rest.drop 1,by rw[jl,ax];omega,TY a1.out (by omega)⟩
   case measure=>simp[intOf];omega
  ·have a3:k=m:=by omega
   subst a3;obtain⟨M,O⟩:∃M:Int,M=-1000-(q:Int):=⟨_,rfl⟩;have a4:Hid (wr.ownsRow 0 29 1 (.slice la k c) k (List.replicate k (ed M))):=by
    obtain⟨rest,h2,h3⟩:=ah.out
    have:rest=[]:=zN (by rw[h2];omega)
    subst this;show World.ownsRow _ _ _ _ _ _ _;rw[O];simpa using h3
   have bC:((k:Int)<(k:Int))=False:=by simp
   rw[<-O];have a5:Hid (M=-1000-(q:Int)):=O;clear O ah;have bD:w.heap.size<=wr.heap.size:=aY;go_wp2_with(at_builtin;refine zt rfl (.tmp 26) (.tmp 28) 59 rfl 29 aa _ 8 Tryz.underlying59 hi ab ac ad rfl (ed M) rfl la k c rfl (mL a4.out _) (eb wr.heap.size 0) 1 1 (by decide) rfl (gP wr [ed M] 29) (by unfold maxLen;omega) (by omega) ?_);intro bE wa az aA P;obtain⟨a,d,rfl,aB⟩:=gQ P (base:=w.heap.size) (by simp;omega);have bF:=lN P;have a6:Hid (en (fun x=>some x=(Value.slice la k c).ownBlock) w wa):=j4 s.out P;have a7:Hid (wa.ownsRow 0 29 1 (.slice la k c) k (List.replicate k (ed M))):=aA;have a8:Hid (jO 29 (ed M) wa (a,k+1,d)):=az;have ai:Hid (uj la c w.heap.size (a,k+1,d)):=aB;clear az aA P aB;go_wp2_with(at_builtin;refine zt rfl (.tmp 30) (.tmp 33) 59 rfl 29 aa _ 8 Tryz.underlying59 hi ab ac ad rfl (ed M) rfl la k c rfl (mL a7.out _) (eb wa.heap.size 0) 2 2 (by decide) rfl (gP wa [ed M,ed M] 29) (by unfold maxLen;omega) (by omega) ?_);intro bG wb aj aC D;obtain⟨p,r,rfl,aD⟩:=gQ D (base:=w.heap.size) (by simp;omega);have bH:=lN D;have a9:Hid (en (fun x=>some x=(Value.slice la k c).ownBlock) w wb):=j4 a6.out D;have bb:Hid (wb.ownsRow 0 29 1 (.slice la k c) k (List.replicate k (ed M))):=aC;have bc:Hid (jO 29 (ed M) wb (a,k+1,d)):=lM (mL a8.out _) ai.out ag.out D aj (by show k+1<=_;omega);have bd:Hid (jO 29 (ed M) wb (p,k+2,r)):=aj;have aE:Hid (uj la c w.heap.size (p,k+2,r)):=aD;clear aj aC D aD;go_wp2_with(at_builtin;refine zt rfl (.tmp 35) (.tmp 39) 59 rfl 29 aa _ 8 Tryz.underlying59 hi ab ac ad rfl (ed M) rfl la k c rfl (mL bb.out _) (eb wb.heap.size 0) 3 3 (by decide) rfl (gP wb [ed M,ed M,ed M] 29) (by unfold maxLen;omega) (by omega) ?_);intro bI wc Q aF A;obtain⟨E,F,rfl,aG⟩:=gQ A (base:=w.heap.size) (by simp;omega);have bJ:=lN A;have u:Hid (en (fun x=>some x=(Value.slice la k c).ownBlock) w wc):=j4 a9.out A;have be:Hid (wc.ownsRow 0 29 1 (.slice la k c) k (List.replicate k (ed M))):=aF;have bf:Hid (jO 29 (ed M) wc (a,k+1,d)):=lM (mL bc.out _) ai.out ag.out A Q (by show k+1<=_;omega);have bg:Hid (jO 29 (ed M) wc (p,k+2,r)):=lM (mL bd.out _) aE.out ag.out A Q (by show k+2<=_;omega);have bh:Hid (jO 29 (ed M) wc (E,k+3,F)):=Q;have bi:Hid (uj la c w.heap.size (E,k+3,F)):=aG;clear Q aF A aG;have B:wc.heap[W]?=some (.cells cs 71 (0,0)):=by
    rw[u.out.block W (by omega) (fun e=>(aV.out W e.symm).2 rfl)];exact hW
   have R:Hid (wc.ownsRow 0 59 1 (.slice ea (4*q) ec) (4*q) (hs.map fD)):=eh ae.out (fun g hg=>by
    have hl:=ee ae.out hg;exact u.out.block g (by omega) (fun e=>ma ae.out aU.out (by decide) hg e))
   have bK:W<wc.heap.size:=by omega
   have bj:wc.cell? (eb W 11)=some (.slice ea (4*q) ec):=by simp[World.cell?,B,I]
   have f8:wc.frozen? (eb W 11)=false:=by simp[World.frozen?,B]
   go_wp2_with(at_builtin;refine hE rfl (.tmp 45) (.tmp 47) 67 rfl 0 59 J _ 1 24 Tryz.underlying67 hS K L N rfl (by decide) (.slice ea (4*q) ec) (4*q) (hs.map fD) rfl (mL R.out _) (eb wc.heap.size 0) 1 1 [.slice la k c] rfl rfl (one_cell _ _ _ _ rfl) zr (by unfold maxLen;omega) (by omega) (oY _) ?_);intro bL C ak S aH;obtain⟨aI,c1,rfl⟩:=ej ak (by omega);have aJ:=kw (i:=11) B R.out (by decide) (hZ _ _) (by simp) ⟨rfl,rfl,rfl⟩ ak S aH (by omega);have al:=oX B (hZ _ _) (by simp) S (eI R.out B (by decide));have bM:wc.heap.size<=C.heap.size:=by have:=S.size;simp at this;omega
   have bk:C.cell? (eb W 11)=some (.slice ea (4*q) ec):=by simp[World.cell?,al,I]
   have f81:C.frozen? (eb W 11)=false:=by simp[World.frozen?,al]
   have f:Hid _:=aJ;have bN:W<C.heap.size:=by omega
   clear ak S aH aJ al bj f8;go_wp2_with(at_builtin;refine hE rfl (.tmp 55) (.tmp 57) 67 rfl 0 59 J _ 1 24 Tryz.underlying67 hS K L N rfl (by decide) (.slice (some (eb aI 0)) (4*q+1) c1) (4*q+1) (hs.map fD++[.slice la k c]) rfl (mL f.out.2.1 _) (eb C.heap.size 0) 1 1 [.slice a (k+1) d] rfl rfl (one_cell _ _ _ _ (by simp)) zr (by unfold maxLen;omega) (by omega) (oY _) ?_);intro bO y am T aK;obtain⟨an,c2,rfl⟩:=ej am (by omega);have aL:y.ownsRow 0 59 1 (.slice (some (eb an 0)) (4*q+1+1) c2) (4*q+1+1) (hs.map fD++[.slice la k c]++[.slice a (k+1) d]):=by simpa using am
   have aM:=kw (i:=11) f.out.1 f.out.2.1 (by decide) (hZ _ _) (by simp) ⟨rfl,rfl,rfl⟩ aL T aK (by simp);have ao:=oX f.out.1 (hZ _ _) (by simp) T (eI f.out.2.1 f.out.1 (by decide));have bQ:C.heap.size<=y.heap.size:=by have:=T.size;simp at this;omega
   have bl:y.cell? (eb W 11)=some (.slice (some (eb aI 0)) (4*q+1) c1):=by simp[World.cell?,ao,aW]
   have f82:y.frozen? (eb W 11)=false:=by simp[World.frozen?,ao]
   have n:Hid _:=aM;have bR:W<y.heap.size:=by omega
   clear am aL T aK aM ao bk f81;go_wp2_with(at_builtin;refine hE rfl (.tmp 65) (.tmp 67) 67 rfl 0 59 J _ 1 24 Tryz.underlying67 hS K L N rfl (by decide) (.slice (some (eb an 0)) (4*q+1+1) c2) (4*q+1+1) (hs.map fD++[.slice la k c]++[.slice a (k+1) d]) rfl (mL n.out.2.1 _) (eb y.heap.size 0) 1 1 [.slice p (k+2) r] rfl rfl (one_cell _ _ _ _ (by simp)) zr (by unfold maxLen;omega) (by omega) (oY _) ?_);intro bS w3 ap U aN;obtain⟨g3,c3,rfl⟩:=ej ap (by omega);have aO:w3.ownsRow 0 59 1 (.slice (some (eb g3 0)) (4*q+1+1+1) c3) (4*q+1+1+1) (hs.map fD++[.slice la k c]++[.slice a (k+1) d]++[.slice p (k+2) r]):=by simpa using ap
   have aP:=kw (i:=11) n.out.1 n.out.2.1 (by decide) (hZ _ _) (by simp) ⟨rfl,rfl,rfl⟩ aO U aN (by simp);have aq:=oX n.out.1 (hZ _ _) (by simp) U (eI n.out.2.1 n.out.1 (by decide));have bT:y.heap.size<=w3.heap.size:=by have:=U.size;simp at this;omega
   have bm:w3.cell? (eb W 11)=some (.slice (some (eb an 0)) (4*q+1+1) c2):=by simp[World.cell?,aq,af]
   have f83:w3.frozen? (eb W 11)=false:=by simp[World.frozen?,aq]
   have o:Hid _:=aP;have bU:W<w3.heap.size:=by omega
   clear ap aO U aN aP aq bl f82;go_wp2_with(at_builtin;refine hE rfl (.tmp 75) (.tmp 77) 67 rfl 0 59 J _ 1 24 Tryz.underlying67 hS K L N rfl (by decide) (.slice (some (eb g3 0)) (4*q+1+1+1) c3) (4*q+1+1+1) (hs.map fD++[.slice la k c]++[.slice a (k+1) d]++[.slice p (k+2) r]) rfl (mL o.out.2.1 _) (eb w3.heap.size 0) 1 1 [.slice E (k+3) F] rfl rfl (one_cell _ _ _ _ (by simp)) zr (by unfold maxLen;omega) (by omega) (oY _) ?_);intro bV G ar au aQ;obtain⟨H,c4,rfl⟩:=ej ar (by omega);have aR:G.ownsRow 0 59 1 (.slice (some (eb H 0)) (4*q+1+1+1+1) c4) (4*q+1+1+1+1) (hs.map fD++[.slice la k c]++[.slice a (k+1) d]++[.slice p (k+2) r]++[.slice E (k+3) F]):=by simpa using ar
   have aS:=kw (i:=11) o.out.1 o.out.2.1 (by decide) (hZ _ _) (by simp) ⟨rfl,rfl,rfl⟩ aR au aQ (by simp);have av:=oX o.out.1 (hZ _ _) (by simp) au (eI o.out.2.1 o.out.1 (by decide));have bW:G.cell? (eb W 11)=some (.slice (some (eb g3 0)) (4*q+1+1+1) c3):=by simp[World.cell?,av,af]
   have f84:G.frozen? (eb W 11)=false:=by simp[World.frozen?,av]
   have aw:Hid _:=aS;clear ar aR au aQ aS av bm f83;have bn:Hid (en (fun x=>x=W\/some x=(Value.slice ea (4*q) ec).ownBlock\/some x=(Value.slice la k c).ownBlock) w wc):=
    ⟨u.out.os,u.out.tape,u.out.output,u.out.size,fun x hx hne=>u.out.block x hx (fun e=>hne (.inr (.inr e)))⟩
   have V:=Ps (t:=29) (by decide) (by decide) (by decide) B R.out (fun x hx=>.inl hx.symm) bn.out f.out;have X:=Ps (t:=29) (by decide) (by decide) (by decide) f.out.1 f.out.2.1 V.1 V.2.1 n.out;have Y:=Ps (t:=29) (by decide) (by decide) (by decide) n.out.1 n.out.2.1 X.1 X.2.1 o.out;have Z:=Ps (t:=29) (by decide) (by decide) (by decide) o.out.1 o.out.2.1 Y.1 Y.2.1 aw.out;have bo:Hid (yJ 29 59 (ed (-1000-(q:Int))) 11 w (G.setCell (eb W 11) (.slice (some (eb H 0)) (4*q+1+1+1+1) c4)) W q cs ea ec la k c hs):=by
    have all:∀{b:Nat} {v:Value} {l:Nat} {ys:fE},wc.ownsRow b 29 1 v l ys->(G.setCell (eb W 11) (.slice (some (eb H 0)) (4*q+1+1+1+1) c4)).ownsRow b 29 1 v l ys:=fun h=>Z.2.2 (Y.2.2 (X.2.2 (V.2.2 h)));rw[<-a5.out];refine⟨H,c4,(a,k+1,d),(p,k+2,r),(E,k+3,F),?_,?_,rfl,rfl,rfl,?_,Z.1 H rfl,Z.2.1⟩
    ·have:=aw.out.1
     simpa using this
    ·have:=aw.out.2.1
     simpa [fD]using this
    ·intro h aT
     simp only[Hd,Gk,or_false]at aT;rcases aT with rfl|rfl|rfl|rfl
     ·exact⟨all be.out,.inl ⟨rfl,rfl⟩⟩
     ·exact⟨all bf.out,ai.out⟩
     ·exact⟨all bg.out,aE.out⟩
     ·exact⟨all bh.out,bi.out⟩
   clear V X Y Z;go_wp2;go_end0;exact⟨rfl,bo.out⟩
theorem Ae(W q:Nat)(cs:Array Value)(ea:e5)(ec m c:Nat)(la:e5)(hs:List fJ)(xs:fE)(w:World)(hW:w.heap[W]?=some (.cells cs 71 (0,0)))(I:cs[8]?=some (.slice ea (4*q) ec))(hn:hs.length=4*q)(bu:4*q<=1000000000)
  (row:w.ownsRow 0 131 1 (.slice ea (4*q) ec) (4*q) (hs.map fD))(hm:m<=1000000000)(hl:w.ownsRow 0 9 1 (.slice la m c) m xs):
  eK 93 #[.pointer (some (eb W 8)),.slice la m c] w fun e w'=>e=.returned (.tuple #[])/\yJ 9 131 (.string (wk q)) 8 w w' W q cs ea ec la m c hs:=by
 obtain⟨ac,hi,ad,ae,af⟩:=H4 nP;obtain⟨J,hS,K,L,N⟩:=H4 Oo;have bv:W<w.heap.size:=(lF.1 hW).1;have aX:w.cell? (eb W 8)=some (.slice ea (4*q) ec):=by simp[World.cell?,hW,I]
 have O:Hid (w.ownsRow 0 9 1 (.slice la m c) m xs):=hl;have ag:Hid (w.ownsRow 0 131 1 (.slice ea (4*q) ec) (4*q) (hs.map fD)):=row;have aY:Hid (∀g,(Value.slice la m c).ownBlock=some g->g<w.heap.size/\g≠W):=fun g hg=>⟨ee hl hg,fun e=>by subst e;exact eI hl hW (by decide) hg.symm⟩;have ah:8<cs.size:=(lF.1 I).1;have aZ:∀v:Value,(cs.setIfInBounds 8 v)[8]?=some v:=fun v=>by simp[ah]
 have bw:((4*q:Nat):Int) / 4=(q:Int):=by omega
 have bx:(4*(q:Int)) / 4=(q:Int):=by omega
 have ai:Hid (∀g,la=some (eb g 0)->g<w.heap.size):=fun g hg=>by subst hg;exact ee hl rfl
 obtain⟨M,aj⟩:∃M,M=wk q:=⟨_,rfl⟩;have a0:Hid (eK 58 #[ed (q:Int)] w (ml (.string M) w)):=by rw[aj];exact EB q w (by omega)
 rw[<-aj];clear aj;clear hl row;go_enter Tryz.func93,Tryz.ntmps93;go_wp2_with fail;refine g7 a0.out ?_;rintro _ P ⟨rfl,Q⟩;have a1:Hid (gS w P):=Q;have bz:w.heap.size<=P.heap.size:=Q.size;have a2:Hid (∃rest:fE,rest.length=m-0/\P.ownsRow 0 9 1 (.slice la m c) m (List.replicate 0 (Value.string M)++rest)):=⟨xs,by have:=O.out.1;omega,by simpa using eh O.out (fun x hx=>a1.out.block x (ee O.out hx))⟩;have a3:Hid (en (fun x=>some x=(Value.slice la m c).ownBlock) w P):=en.ew Q;clear Q aX;go_wp2
 go_loopw [5] (fun i wr=>∃k:Nat,k<=m/\i=.int .i64 (k:Int)/\Hid (en (fun x=>some x=(Value.slice la m c).ownBlock) w wr)/\Hid (∃rest:fE,rest.length=m-k/\wr.ownsRow 0 9 1 (.slice la m c) m (List.replicate k (Value.string M)++rest))) (fun i _=>m-(intOf i).toNat)
 case atStart=>exact⟨0,oY _,rfl,a3.out,a2.out⟩
 case round=>
  obtain⟨k,hk,rfl,s,ak⟩:=hrel;have a4:w.heap.size<=wr.heap.size:=s.out.size;by_cases bA:k<m
  ·obtain⟨rest,aA,z⟩:=ak.out
   obtain⟨g,bB,aB⟩:=ej z (by omega);have a5:=(kW aB).1;subst a5;have bC:=fun j=>z.frozenAt j;have a6:∃v,wr.cell? (eb g k)=some v:=by
    rw[z.cellAt k (by omega)];exact⟨_,gJ (by rw[jM,s7,aA];omega)⟩
   obtain⟨bD,bE⟩:=a6;have bF:(k:Int)<(m:Int):=by omega
   have bG:g<wr.heap.size:=ee z rfl;have a7:Hid _:=z;clear z aB;go_wp2;go_roundw
   case rel=>
    refine⟨k+1,by omega,by go_num,?_,?_⟩
    ·exact⟨s.out.os,s.out.tape,s.out.output,by simpa using s.out.size,fun x hx hne=>by
      have a8:x≠g:=fun e=>hne (by rw[e];rfl);rw[ij _ _ _ _ a8];exact s.out.block x hx hne⟩
    ·exact⟨rest.drop 1,by rw[jl,aA];omega,TY a7.out (by omega)⟩
   case measure=>simp[intOf];omega
  ·have a9:k=m:=by omega
   subst a9;have bb:Hid (wr.ownsRow 0 9 1 (.slice la k c) k (List.replicate k (.string M))):=by
    obtain⟨rest,h2,h3⟩:=ak.out
    have:rest=[]:=zN (by rw[h2];omega)
    subst this;show World.ownsRow _ _ _ _ _ _ _;simpa using h3
   have bH:((k:Int)<(k:Int))=False:=by simp
   clear ak;have bI:w.heap.size<=wr.heap.size:=a4;go_wp2_with(at_builtin;refine zt rfl (.tmp 26) (.tmp 28) 131 rfl 9 ac _ 16 Qf hi ad ae af rfl (.string M) rfl la k c rfl (mL bb.out _) (eb wr.heap.size 0) 1 1 (by decide) rfl (gP wr [.string M] 9) (by unfold maxLen;omega) (by omega) ?_);intro bJ wa aC aD R;obtain⟨a,d,rfl,aE⟩:=gQ R (base:=w.heap.size) (by simp;omega);have bK:=lN R;have bc:Hid (en (fun x=>some x=(Value.slice la k c).ownBlock) w wa):=j4 s.out R;have bd:Hid (wa.ownsRow 0 9 1 (.slice la k c) k (List.replicate k (.string M))):=aD;have be:Hid (jO 9 (.string M) wa (a,k+1,d)):=aC;have al:Hid (uj la c w.heap.size (a,k+1,d)):=aE;clear aC aD R aE;go_wp2_with(at_builtin;refine zt rfl (.tmp 30) (.tmp 33) 131 rfl 9 ac _ 16 Qf hi ad ae af rfl (.string M) rfl la k c rfl (mL bd.out _) (eb wa.heap.size 0) 2 2 (by decide) rfl (gP wa [.string M,.string M] 9) (by unfold maxLen;omega) (by omega) ?_);intro bL wb am aF D;obtain⟨p,r,rfl,aG⟩:=gQ D (base:=w.heap.size) (by simp;omega);have bM:=lN D;have bf:Hid (en (fun x=>some x=(Value.slice la k c).ownBlock) w wb):=j4 bc.out D;have bg:Hid (wb.ownsRow 0 9 1 (.slice la k c) k (List.replicate k (.string M))):=aF;have bh:Hid (jO 9 (.string M) wb (a,k+1,d)):=lM (mL be.out _) al.out ai.out D am (by show k+1<=_;omega);have bi:Hid (jO 9 (.string M) wb (p,k+2,r)):=am;have aH:Hid (uj la c w.heap.size (p,k+2,r)):=aG;clear am aF D aG;go_wp2_with(at_builtin;refine zt rfl (.tmp 35) (.tmp 39) 131 rfl 9 ac _ 16 Qf hi ad ae af rfl (.string M) rfl la k c rfl (mL bg.out _) (eb wb.heap.size 0) 3 3 (by decide) rfl (gP wb [.string M,.string M,.string M] 9) (by unfold maxLen;omega) (by omega) ?_);intro bN wc S aI A;obtain⟨E,F,rfl,aJ⟩:=gQ A (base:=w.heap.size) (by simp;omega);have bO:=lN A;have u:Hid (en (fun x=>some x=(Value.slice la k c).ownBlock) w wc):=j4 bf.out A;have bj:Hid (wc.ownsRow 0 9 1 (.slice la k c) k (List.replicate k (.string M))):=aI;have bk:Hid (jO 9 (.string M) wc (a,k+1,d)):=lM (mL bh.out _) al.out ai.out A S (by show k+1<=_;omega);have bl:Hid (jO 9 (.string M) wc (p,k+2,r)):=lM (mL bi.out _) aH.out ai.out A S (by show k+2<=_;omega);have bm:Hid (jO 9 (.string M) wc (E,k+3,F)):=S;have bn:Hid (uj la c w.heap.size (E,k+3,F)):=aJ;clear S aI A aJ;have B:wc.heap[W]?=some (.cells cs 71 (0,0)):=by
    rw[u.out.block W (by omega) (fun e=>(aY.out W e.symm).2 rfl)];exact hW
   have T:Hid (wc.ownsRow 0 131 1 (.slice ea (4*q) ec) (4*q) (hs.map fD)):=eh ag.out (fun g hg=>by
    have hl:=ee ag.out hg;exact u.out.block g (by omega) (fun e=>ma ag.out O.out (by decide) hg e))
   have bQ:W<wc.heap.size:=by omega
   have bo:wc.cell? (eb W 8)=some (.slice ea (4*q) ec):=by simp[World.cell?,B,I]
   have f8:wc.frozen? (eb W 8)=false:=by simp[World.frozen?,B]
   go_wp2_with(at_builtin;refine hE rfl (.tmp 45) (.tmp 47) 64 rfl 0 131 J _ 1 24 Tryz.underlying64 hS K L N rfl (by decide) (.slice ea (4*q) ec) (4*q) (hs.map fD) rfl (mL T.out _) (eb wc.heap.size 0) 1 1 [.slice la k c] rfl rfl (one_cell _ _ _ _ rfl) zr (by unfold maxLen;omega) (by omega) (oY _) ?_);intro bR C an U aK;obtain⟨aL,c1,rfl⟩:=ej an (by omega);have aM:=kw (i:=8) B T.out (by decide) (hZ _ _) (by simp) ⟨rfl,rfl,rfl⟩ an U aK (by omega);have ao:=oX B (hZ _ _) (by simp) U (eI T.out B (by decide));have bS:wc.heap.size<=C.heap.size:=by have:=U.size;simp at this;omega
   have bp:C.cell? (eb W 8)=some (.slice ea (4*q) ec):=by simp[World.cell?,ao,I]
   have f81:C.frozen? (eb W 8)=false:=by simp[World.frozen?,ao]
   have f:Hid _:=aM;have bT:W<C.heap.size:=by omega
   clear an U aK aM ao bo f8;go_wp2_with(at_builtin;refine hE rfl (.tmp 55) (.tmp 57) 64 rfl 0 131 J _ 1 24 Tryz.underlying64 hS K L N rfl (by decide) (.slice (some (eb aL 0)) (4*q+1) c1) (4*q+1) (hs.map fD++[.slice la k c]) rfl (mL f.out.2.1 _) (eb C.heap.size 0) 1 1 [.slice a (k+1) d] rfl rfl (one_cell _ _ _ _ (by simp)) zr (by unfold maxLen;omega) (by omega) (oY _) ?_);intro bU y ap V aN;obtain⟨aq,c2,rfl⟩:=ej ap (by omega);have aO:y.ownsRow 0 131 1 (.slice (some (eb aq 0)) (4*q+1+1) c2) (4*q+1+1) (hs.map fD++[.slice la k c]++[.slice a (k+1) d]):=by simpa using ap
   have aP:=kw (i:=8) f.out.1 f.out.2.1 (by decide) (hZ _ _) (by simp) ⟨rfl,rfl,rfl⟩ aO V aN (by simp);have ar:=oX f.out.1 (hZ _ _) (by simp) V (eI f.out.2.1 f.out.1 (by decide));have bV:C.heap.size<=y.heap.size:=by have:=V.size;simp at this;omega
   have bq:y.cell? (eb W 8)=some (.slice (some (eb aL 0)) (4*q+1) c1):=by simp[World.cell?,ar,aZ]
   have f82:y.frozen? (eb W 8)=false:=by simp[World.frozen?,ar]
   have n:Hid _:=aP;have bW:W<y.heap.size:=by omega
   clear ap aO V aN aP ar bp f81;go_wp2_with(at_builtin;refine hE rfl (.tmp 65) (.tmp 67) 64 rfl 0 131 J _ 1 24 Tryz.underlying64 hS K L N rfl (by decide) (.slice (some (eb aq 0)) (4*q+1+1) c2) (4*q+1+1) (hs.map fD++[.slice la k c]++[.slice a (k+1) d]) rfl (mL n.out.2.1 _) (eb y.heap.size 0) 1 1 [.slice p (k+2) r] rfl rfl (one_cell _ _ _ _ (by simp)) zr (by unfold maxLen;omega) (by omega) (oY _) ?_);intro bX w3 au X aQ;obtain⟨g3,c3,rfl⟩:=ej au (by omega);have aR:w3.ownsRow 0 131 1 (.slice (some (eb g3 0)) (4*q+1+1+1) c3) (4*q+1+1+1) (hs.map fD++[.slice la k c]++[.slice a (k+1) d]++[.slice p (k+2) r]):=by simpa using au
   have aS:=kw (i:=8) n.out.1 n.out.2.1 (by decide) (hZ _ _) (by simp) ⟨rfl,rfl,rfl⟩ aR X aQ (by simp);have av:=oX n.out.1 (hZ _ _) (by simp) X (eI n.out.2.1 n.out.1 (by decide));have bY:y.heap.size<=w3.heap.size:=by have:=X.size;simp at this;omega
   have br:w3.cell? (eb W 8)=some (.slice (some (eb aq 0)) (4*q+1+1) c2):=by simp[World.cell?,av,ah]
   have f83:w3.frozen? (eb W 8)=false:=by simp[World.frozen?,av]
   have o:Hid _:=aS;have bZ:W<w3.heap.size:=by omega
   clear au aR X aQ aS av bq f82;go_wp2_with(at_builtin;refine hE rfl (.tmp 75) (.tmp 77) 64 rfl 0 131 J _ 1 24 Tryz.underlying64 hS K L N rfl (by decide) (.slice (some (eb g3 0)) (4*q+1+1+1) c3) (4*q+1+1+1) (hs.map fD++[.slice la k c]++[.slice a (k+1) d]++[.slice p (k+2) r]) rfl (mL o.out.2.1 _) (eb w3.heap.size 0) 1 1 [.slice E (k+3) F] rfl rfl (one_cell _ _ _ _ (by simp)) zr (by unfold maxLen;omega) (by omega) (oY _) ?_);intro b0 G aw ax aT;obtain⟨H,c4,rfl⟩:=ej aw (by omega);have aU:G.ownsRow 0 131 1 (.slice (some (eb H 0)) (4*q+1+1+1+1) c4) (4*q+1+1+1+1) (hs.map fD++[.slice la k c]++[.slice a (k+1) d]++[.slice p (k+2) r]++[.slice E (k+3) F]):=by simpa using aw
   have aV:=kw (i:=8) o.out.1 o.out.2.1 (by decide) (hZ _ _) (by simp) ⟨rfl,rfl,rfl⟩ aU ax aT (by simp);have ay:=oX o.out.1 (hZ _ _) (by simp) ax (eI o.out.2.1 o.out.1 (by decide));have b1:G.cell? (eb W 8)=some (.slice (some (eb g3 0)) (4*q+1+1+1) c3):=by simp[World.cell?,ay,ah]
   have f84:G.frozen? (eb W 8)=false:=by simp[World.frozen?,ay]
   have az:Hid _:=aV;clear aw aU ax aT aV ay br f83;have bs:Hid (en (fun x=>x=W\/some x=(Value.slice ea (4*q) ec).ownBlock\/some x=(Value.slice la k c).ownBlock) w wc):=
    ⟨u.out.os,u.out.tape,u.out.output,u.out.size,fun x hx hne=>u.out.block x hx (fun e=>hne (.inr (.inr e)))⟩
   have Y:=Ps (t:=9) (by decide) (by decide) (by decide) B T.out (fun x hx=>.inl hx.symm) bs.out f.out;have Z:=Ps (t:=9) (by decide) (by decide) (by decide) f.out.1 f.out.2.1 Y.1 Y.2.1 n.out;have aa:=Ps (t:=9) (by decide) (by decide) (by decide) n.out.1 n.out.2.1 Z.1 Z.2.1 o.out;have ab:=Ps (t:=9) (by decide) (by decide) (by decide) o.out.1 o.out.2.1 aa.1 aa.2.1 az.out;have bt:Hid (yJ 9 131 (.string M) 8 w (G.setCell (eb W 8) (.slice (some (eb H 0)) (4*q+1+1+1+1) c4)) W q cs ea ec la k c hs):=by
    have all:∀{b:Nat} {v:Value} {l:Nat} {ys:fE},wc.ownsRow b 9 1 v l ys->(G.setCell (eb W 8) (.slice (some (eb H 0)) (4*q+1+1+1+1) c4)).ownsRow b 9 1 v l ys:=fun h=>ab.2.2 (aa.2.2 (Z.2.2 (Y.2.2 h)));refine⟨H,c4,(a,k+1,d),(p,k+2,r),(E,k+3,F),?_,?_,rfl,rfl,rfl,?_,ab.1 H rfl,ab.2.1⟩
    ·have:=az.out.1
     simpa using this
    ·have:=az.out.2.1
     simpa [fD]using this
    ·intro h aW
     simp only[Hd,Gk,or_false]at aW;rcases aW with rfl|rfl|rfl|rfl
     ·exact⟨all bj.out,.inl ⟨rfl,rfl⟩⟩
     ·exact⟨all bk.out,al.out⟩
     ·exact⟨all bl.out,aH.out⟩
     ·exact⟨all bm.out,bn.out⟩
   clear Y Z aa ab;go_wp2;go_end0;exact⟨rfl,bt.out⟩
def et (l:eB):Array Value:=#[.string (l.getD 0 ⟨#[]⟩),.string (l.getD 1 ⟨#[]⟩),.string (l.getD 2 ⟨#[]⟩),.string (l.getD 3 ⟨#[]⟩),.string (l.getD 4 ⟨#[]⟩)]
def hP (l:eB):Value:=.agg (et l)
structure Good (l:eB):Prop where
 val:eA l
 len:l.length<=5
theorem Good.nil:Good []:=⟨fun x hx=>by simp at hx,by simp⟩
theorem Good.take{l:eB}(h:Good l)(k:Nat):Good (l.take k):=⟨fun x hx=>h.val x (wY hx),by have:=h.len;rw[Hc];omega⟩
theorem Good.dropLast{l:eB}(h:Good l):Good l.dropLast:=by rw[List.dropLast_eq_take];exact h.take _
theorem ny:147<Tryz.prog.types.size:=s8 (by kernel_rfl)
theorem Oq:Tryz.prog.keyTypeAt 9 147=true:=by kernel_rfl
theorem rO:Maps.Keyed Tryz.prog 147:=Maps.Keyed.of_law (deep_law_laid laidOut (m:=9) (by omega) ny Oq (by rw[Qo]))
theorem Ot:Tryz.prog.cellsOf 147=5:=by kernel_rfl
theorem TZ:Tryz.prog.keyType 147=true:=by kernel_rfl
theorem La{l:eB}(h:eA l)(i:Nat):(l.getD i fy).size<=maxLen:=by
 rw[s5];by_cases hi:i<l.length
 ·rw[gJ hi]
  have:=(p2 (h _ (iF hi))).2
  show(l[i]).size<=maxLen;unfold maxLen;omega
 ·rw[mG (by omega)];decide
theorem T3(d:Nat)(l:eB)(h:eA l):∃b,Tryz.prog.keyLits (d+2) 147 (et l).toList=some b:=by
 have a:∀i,Tryz.prog.keyLits (d+1) 9 [.string (l.getD i fy)]=some [.string (l.getD i fy).data.toList]:=fun i=>by
  have:=La h i
  generalize l.getD i fy=x at this;unfold Program.keyLits;simp[Tryz.underlying9,this]
 obtain⟨ys,c⟩:=mapM_some (fun i=>Tryz.prog.keyLits (d+1) 9 (((et l).toList.drop (i*1)).take 1)) (List.range 5) (by
  intro i hi;rw[List.mem_range]at hi;have key:((et l).toList.drop (i*1)).take 1=[.string (l.getD i fy)]:=by
   rcases(show i=0\/i=1\/i=2\/i=3\/i=4 by omega)with rfl|rfl|rfl|rfl|rfl<;>rfl
  rw[key];exact⟨_,a i⟩)
 refine⟨ys.flatten,?_⟩;have hl:(et l).toList.length=5:=rfl;unfold Program.keyLits;simp only[Tryz.underlying147,Ot,hl,if_true,Nz,c,Option.map_some]
def jo (P:Program)(l:eB):Lit:=(keyOf P 147 (hP l)).getD .nil
theorem iQ{l:eB}(h:eA l):keyOf Tryz.prog 147 (hP l)=some (jo Tryz.prog l):=by
 have hx:∃k,keyOf Tryz.prog 147 (hP l)=some k:=by
  have a:Value.formed Tryz.prog 147 (.agg (et l))=true:=by
   unfold Value.formed;rw[Qo];simp[Ot,et]
  obtain⟨n,hn⟩:∃n,Tryz.prog.types.size+1=n+2:=⟨Tryz.prog.types.size-1,by have:=ny;omega⟩;obtain⟨c,b⟩:=T3 n l h;unfold keyOf hP;rw[Qo];simp only[TZ,a,Bool.and_self,Gr,Value.cells,hn,b,jS];exact⟨_,rfl⟩
 obtain⟨k,hk⟩:=hx;unfold jo;rw[hk];rfl
theorem A6{x:eu}(h:ez x=true):x≠fy:=fun e=>by
 have:=(p2 h).1
 rw[e]at this
 exact absurd this (by decide)
theorem Lb{p q:eB}(hp:Good p)(hq:Good q)(h:et p=et q):p=q:=by
 have key:∀i,i<5->p.getD i fy=q.getD i fy:=by
  intro i hi;unfold et at h;simp only[Gn,pS,Value.string.injEq,tj]at h;rcases(show i=0\/i=1\/i=2\/i=3\/i=4 by omega)with rfl|rfl|rfl|rfl|rfl
  ·exact h.1
  ·exact h.2.1
  ·exact h.2.2.1
  ·exact h.2.2.2.1
  ·exact h.2.2.2.2
 have c:=hp.len;have k5:=hq.len;apply Gd;intro i;by_cases hi:i<5
 ·have k:=key i hi
  rw[s5,s5]at k;cases b:p[i]? with
  |none=>
   cases a:q[i]? with
   |none=>rfl
   |some y=>rw[b,a]at k;exact absurd k.symm (A6 (hq.val y (MU a)))
  |some x=>
   cases a:q[i]? with
   |none=>rw[b,a]at k;exact absurd k (A6 (hp.val x (MU b)))
   |some y=>rw[b,a]at k;exact rp some k
 ·rw[mG (by omega),mG (by omega)]
theorem nU{p q:eB}(hp:Good p)(hq:Good q)(h:jo Tryz.prog p=jo Tryz.prog q):p=q:=by
 have a:=iQ hp.val;have b:=iQ hq.val;rw[<-h]at b
 have:=rO.inj a b
 exact Lb hp hq (Value.agg.inj this)
theorem Jx{p:eB}(hp:Good p):WideAt.IsKeyLit (jo Tryz.prog p):=rO.key (iQ hp.val)
theorem sf{p q:eB}(hp:Good p)(hq:Good q)(w:World):(Op.equal 147 (hP p) (hP q)).run Tryz.prog w=.ok (decide (p=q)) w:=by
 obtain⟨r,hr,a⟩:=run_equal_deep w (m:=9) (by omega) Oq (by rw[Qo]) (iQ hp.val) (iQ hq.val);rw[hr]
 have:r=decide (p=q):=by
  by_cases e:p=q
  ·subst e;rw[jT rfl];exact a.2 rfl
  ·rw[m6 e]
   cases b:r with
   |false=>rfl
   |true=>exact absurd (nU hp hq (a.1 b)) e
 rw[this]
theorem ww{x:eu}(h:ez x=true):(x.toList==[])=false:=BP.2 fun e=>by
 have h1:=(p2 h).1
 rw[y0]at e
 have h2:=rp List.length e
 rw[ly,td]at h2
 omega
theorem px(w:World):eK 75 #[] w (ml (hP []) w):=by
 go_enter Tryz.func75,Tryz.ntmps75;go_wp2;exact jr (v:=hP []) (by simp[results,Tryz.results75,go_sem,hP,et]) rfl ⟨rfl,by repeat(first|exact i7 _ _|(refine MV ?_ (by simp) _)|(refine oz ?_ (by simp) _))⟩
theorem Lc(c0 c1 c2 c3 c4:Value)(w:World):(Instr.index 147 (.agg #[c0,c1,c2,c3,c4]) (ed 0)).run Tryz.prog w=.ok c0 w:=by kernel_rfl
theorem Ld(c0 c1 c2 c3 c4:Value)(w:World):(Instr.index 147 (.agg #[c0,c1,c2,c3,c4]) (ed 1)).run Tryz.prog w=.ok c1 w:=by kernel_rfl
theorem Le(c0 c1 c2 c3 c4:Value)(w:World):(Instr.index 147 (.agg #[c0,c1,c2,c3,c4]) (ed 2)).run Tryz.prog w=.ok c2 w:=by kernel_rfl
theorem Lf(c0 c1 c2 c3 c4:Value)(w:World):(Instr.index 147 (.agg #[c0,c1,c2,c3,c4]) (ed 3)).run Tryz.prog w=.ok c3 w:=by kernel_rfl
theorem Lg(c0 c1 c2 c3 c4:Value)(w:World):(Instr.index 147 (.agg #[c0,c1,c2,c3,c4]) (ed 4)).run Tryz.prog w=.ok c4 w:=by kernel_rfl
theorem Q1  (w:World):eK 142 #[.agg (ii fy fy fy fy fy)] w (ml (ed 0) w):=by
 have a:=Lc;have b:=Ld;have c:=Le;have d:=Lf;have e:=Lg;go_enter Kl,Kk;go_wp2;refine Gm 7 ?_;rw[mJ];go_wp2;go_ret;exact⟨rfl,(i7 _ _).alloc (io _) _⟩
theorem Q2(a:eu)(h0:ez a=true)(w:World):eK 142 #[.agg (ii a fy fy fy fy)] w (ml (ed 1) w):=by
 have b:=ww h0;have c:=Lc;have d:=Ld;have e:=Le;have f:=Lf;have g:=Lg;clear h0;go_enter Kl,Kk;go_wp2;refine Gm 7 ?_;rw[mJ];go_wp2;rw[mJ];go_wp2;go_ret;exact⟨rfl,(i7 _ _).alloc (io _) _⟩
theorem Q3(a b:eu)(h0:ez a=true)(h1:ez b=true)(w:World):eK 142 #[.agg (ii a b fy fy fy)] w (ml (ed 2) w):=by
 have c:=ww h0;have d:=ww h1;have e:=Lc;have f:=Ld;have g:=Le;have h:=Lf;have i:=Lg;clear h0 h1;go_enter Kl,Kk;go_wp2;refine Gm 7 ?_;rw[mJ];go_wp2;rw[mJ];go_wp2;rw[mJ];go_wp2;go_ret;exact⟨rfl,(i7 _ _).alloc (io _) _⟩
theorem Q4(a b c:eu)(h0:ez a=true)(h1:ez b=true)(h2:ez c=true)(w:World):eK 142 #[.agg (ii a b c fy fy)] w (ml (ed 3) w):=by
 have d:=ww h0;have e:=ww h1;have e2:=ww h2;have f:=Lc;have g:=Ld;have h:=Le;have i:=Lf;have j:=Lg;clear h0 h1 h2;go_enter Kl,Kk;go_wp2;refine Gm 7 ?_;rw[mJ];go_wp2;rw[mJ];go_wp2;rw[mJ];go_wp2;rw[mJ];go_wp2;go_ret;exact⟨rfl,(i7 _ _).alloc (io _) _⟩
theorem Q5(a b c d:eu)(h0:ez a=true)(h1:ez b=true)(h2:ez c=true)(h3:ez d=true)(w:World):eK 142 #[.agg (ii a b c d fy)] w (ml (ed 4) w):=by
 have e:=ww h0;have f:=ww h1;have e2:=ww h2;have g:=ww h3;have h:=Lc;have i:=Ld;have j:=Le;have k:=Lf;have l:=Lg;clear h0 h1 h2 h3;go_enter Kl,Kk;go_wp2;refine Gm 7 ?_;rw[mJ];go_wp2;rw[mJ];go_wp2;rw[mJ];go_wp2;rw[mJ];go_wp2;rw[mJ];go_wp2;go_ret;exact⟨rfl,(i7 _ _).alloc (io _) _⟩
theorem Q6(a b c d e:eu)(h0:ez a=true)(h1:ez b=true)(h2:ez c=true)(h3:ez d=true)(f:ez e=true)(w:World):eK 142 #[.agg (ii a b c d e)] w (ml (ed 5) w):=by
 have g:=ww h0;have h:=ww h1;have e2:=ww h2;have i:=ww h3;have j:=ww f;have k:=Lc;have l:=Ld;have m:=Le;have n:=Lf;have o:=Lg;clear h0 h1 h2 h3 f;go_enter Kl,Kk;go_wp2;refine Gm 7 ?_;rw[mJ];go_wp2;rw[mJ];go_wp2;rw[mJ];go_wp2;rw[mJ];go_wp2;rw[mJ];go_wp2;rw[mJ];go_wp2;go_ret;exact⟨rfl,(i7 _ _).alloc (io _) _⟩
theorem j5(l:eB)(hv:eA l)(e:l.length<=5)(w:World):eK 142 #[hP l] w (ml (ed (l.length:Int)) w):=by
 match l,hv,e with
 |[],hv,_=>exact Q1  w
 |[a],hv,_=>exact Q2 a (hv a (by simp)) w
 |[a,b],hv,_=>exact Q3 a b (hv a (by simp)) (hv b (by simp)) w
 |[a,b,c],hv,_=>exact Q4 a b c (hv a (by simp)) (hv b (by simp)) (hv c (by simp)) w
 |[a,b,c,d],hv,_=>exact Q5 a b c d (hv a (by simp)) (hv b (by simp)) (hv c (by simp)) (hv d (by simp)) w
 |[a,b,c,d,f],hv,_=>exact Q6 a b c d f (hv a (by simp)) (hv b (by simp)) (hv c (by simp)) (hv d (by simp)) (hv f (by simp)) w
 |_::_::_::_::_::_::_,_,e=>exact absurd e (by simp)
theorem lu(w:World):(zeroValue 9).run Tryz.prog w=.ok (.string fy) w:=by kernel_rfl
theorem Ou(a c d e f:eu)(w:World):eK 188 #[.agg #[.string a,.string c,.string d,.string e,.string f],ed (-1)] w (ml (.agg #[.string fy,.string fy,.string fy,.string fy,.string fy]) w):=by
 have h:∀g,(Builtin.clear_ #[131] g #[.slice (some (eb w.heap.size 0)) 5 5]).run Tryz.prog ((w.alloc (.cells #[.string a,.string c,.string d,.string e,.string f] 147)).alloc (.cells #[.string fy,.string fy,.string fy,.string fy,.string fy] 147))=.ok (.tuple #[]) (((((((w.alloc (.cells #[.string a,.string c,.string d,.string e,.string f] 147)).alloc (.cells #[.string fy,.string fy,.string fy,.string fy,.string fy] 147)).setCell (eb w.heap.size 0) (.string fy)).setCell (eb w.heap.size 1) (.string fy)).setCell (eb w.heap.size 2) (.string fy)).setCell (eb w.heap.size 3) (.string fy)).setCell (eb w.heap.size 4) (.string fy)):=
  fun g=>Lib.run_clear_slice _ 131 9 g (.string fy) Tryz.underlying131 lu rfl rfl w.heap.size 0 5 5 (by omega)
   (fun j hj=>by rcases(show j=0\/j=1\/j=2\/j=3\/j=4 by omega)with rfl|rfl|rfl|rfl|rfl<;>first|omega|simp[World.cell?_alloc_past])
   (fun j hj=>by rcases(show j=0\/j=1\/j=2\/j=3\/j=4 by omega)with rfl|rfl|rfl|rfl|rfl<;>first|omega|simp[World.frozen?_alloc_past])
 have i:max (-1:Int) 0=0:=rfl;have k:∀(b:Nat) (W:World),(Instr.sliceAt 147 (fj b) (some (ed 0)) none none).run Tryz.prog W=.ok (.slice (some (eb b 0)) 5 5) W:=fun b W=>by kernel_rfl
 go_enter Tryz.func188,Tryz.ntmps188;go_wp2_with(first|simp only[i]|simp only[k]|simp only[h]);exact bodyPost_ret (v:=.agg #[.string fy,.string fy,.string fy,.string fy,.string fy]) (by simp[results,Tryz.results188,go_sem]) rfl ⟨rfl,by repeat(first|exact Below.refl _ _|(refine Below.alloc ?_ (by simp) _)|(refine Below.setCell ?_ (by simp) _))⟩
theorem SY(a c d e f:eu)(w:World):eK 188 #[.agg #[.string a,.string c,.string d,.string e,.string f],ed 0] w (ml (.agg #[.string fy,.string fy,.string fy,.string fy,.string fy]) w):=by
 have h:∀g,(Builtin.clear_ #[131] g #[.slice (some (eb w.heap.size 0)) 5 5]).run Tryz.prog ((w.alloc (.cells #[.string a,.string c,.string d,.string e,.string f] 147)).alloc (.cells #[.string fy,.string fy,.string fy,.string fy,.string fy] 147))=.ok (.tuple #[]) (((((((w.alloc (.cells #[.string a,.string c,.string d,.string e,.string f] 147)).alloc (.cells #[.string fy,.string fy,.string fy,.string fy,.string fy] 147)).setCell (eb w.heap.size 0) (.string fy)).setCell (eb w.heap.size 1) (.string fy)).setCell (eb w.heap.size 2) (.string fy)).setCell (eb w.heap.size 3) (.string fy)).setCell (eb w.heap.size 4) (.string fy)):=
  fun g=>Lib.run_clear_slice _ 131 9 g (.string fy) Tryz.underlying131 lu rfl rfl w.heap.size 0 5 5 (by omega)
   (fun j hj=>by rcases(show j=0\/j=1\/j=2\/j=3\/j=4 by omega)with rfl|rfl|rfl|rfl|rfl<;>first|omega|simp[World.cell?_alloc_past])
   (fun j hj=>by rcases(show j=0\/j=1\/j=2\/j=3\/j=4 by omega)with rfl|rfl|rfl|rfl|rfl<;>first|omega|simp[World.frozen?_alloc_past])
 have i:max (0:Int) 0=0:=rfl;have k:∀(b:Nat) (W:World),(Instr.sliceAt 147 (fj b) (some (ed 0)) none none).run Tryz.prog W=.ok (.slice (some (eb b 0)) 5 5) W:=fun b W=>by kernel_rfl
 go_enter Tryz.func188,Tryz.ntmps188;go_wp2_with(first|simp only[i]|simp only[k]|simp only[h]);exact bodyPost_ret (v:=.agg #[.string fy,.string fy,.string fy,.string fy,.string fy]) (by simp[results,Tryz.results188,go_sem]) rfl ⟨rfl,by repeat(first|exact Below.refl _ _|(refine Below.alloc ?_ (by simp) _)|(refine Below.setCell ?_ (by simp) _))⟩
theorem SZ(a c d e f:eu)(w:World):eK 188 #[.agg #[.string a,.string c,.string d,.string e,.string f],ed 1] w (ml (.agg #[.string a,.string fy,.string fy,.string fy,.string fy]) w):=by
 have h:∀g,(Builtin.clear_ #[131] g #[.slice (some (eb w.heap.size 1)) 4 4]).run Tryz.prog ((w.alloc (.cells #[.string a,.string c,.string d,.string e,.string f] 147)).alloc (.cells #[.string fy,.string fy,.string fy,.string fy,.string fy] 147))=.ok (.tuple #[]) ((((((w.alloc (.cells #[.string a,.string c,.string d,.string e,.string f] 147)).alloc (.cells #[.string fy,.string fy,.string fy,.string fy,.string fy] 147)).setCell (eb w.heap.size 1) (.string fy)).setCell (eb w.heap.size 2) (.string fy)).setCell (eb w.heap.size 3) (.string fy)).setCell (eb w.heap.size 4) (.string fy)):=
  fun g=>Lib.run_clear_slice _ 131 9 g (.string fy) Tryz.underlying131 lu rfl rfl w.heap.size 1 4 4 (by omega)
   (fun j hj=>by rcases(show j=0\/j=1\/j=2\/j=3\/j=4 by omega)with rfl|rfl|rfl|rfl|rfl<;>first|omega|simp[World.cell?_alloc_past])
   (fun j hj=>by rcases(show j=0\/j=1\/j=2\/j=3\/j=4 by omega)with rfl|rfl|rfl|rfl|rfl<;>first|omega|simp[World.frozen?_alloc_past])
 have i:max (1:Int) 0=1:=rfl;have k:∀(b:Nat) (W:World),(Instr.sliceAt 147 (fj b) (some (ed 1)) none none).run Tryz.prog W=.ok (.slice (some (eb b 1)) 4 4) W:=fun b W=>by kernel_rfl
 go_enter Tryz.func188,Tryz.ntmps188;go_wp2_with(first|simp only[i]|simp only[k]|simp only[h]);exact bodyPost_ret (v:=.agg #[.string a,.string fy,.string fy,.string fy,.string fy]) (by simp[results,Tryz.results188,go_sem]) rfl ⟨rfl,by repeat(first|exact Below.refl _ _|(refine Below.alloc ?_ (by simp) _)|(refine Below.setCell ?_ (by simp) _))⟩
theorem S0(a c d e f:eu)(w:World):eK 188 #[.agg #[.string a,.string c,.string d,.string e,.string f],ed 2] w (ml (.agg #[.string a,.string c,.string fy,.string fy,.string fy]) w):=by
 have h:∀g,(Builtin.clear_ #[131] g #[.slice (some (eb w.heap.size 2)) 3 3]).run Tryz.prog ((w.alloc (.cells #[.string a,.string c,.string d,.string e,.string f] 147)).alloc (.cells #[.string fy,.string fy,.string fy,.string fy,.string fy] 147))=.ok (.tuple #[]) (((((w.alloc (.cells #[.string a,.string c,.string d,.string e,.string f] 147)).alloc (.cells #[.string fy,.string fy,.string fy,.string fy,.string fy] 147)).setCell (eb w.heap.size 2) (.string fy)).setCell (eb w.heap.size 3) (.string fy)).setCell (eb w.heap.size 4) (.string fy)):=
  fun g=>Lib.run_clear_slice _ 131 9 g (.string fy) Tryz.underlying131 lu rfl rfl w.heap.size 2 3 3 (by omega)
   (fun j hj=>by rcases(show j=0\/j=1\/j=2\/j=3\/j=4 by omega)with rfl|rfl|rfl|rfl|rfl<;>first|omega|simp[World.cell?_alloc_past])
   (fun j hj=>by rcases(show j=0\/j=1\/j=2\/j=3\/j=4 by omega)with rfl|rfl|rfl|rfl|rfl<;>first|omega|simp[World.frozen?_alloc_past])
 have i:max (2:Int) 0=2:=rfl;have k:∀(b:Nat) (W:World),(Instr.sliceAt 147 (fj b) (some (ed 2)) none none).run Tryz.prog W=.ok (.slice (some (eb b 2)) 3 3) W:=fun b W=>by kernel_rfl
 go_enter Tryz.func188,Tryz.ntmps188;go_wp2_with(first|simp only[i]|simp only[k]|simp only[h]);exact bodyPost_ret (v:=.agg #[.string a,.string c,.string fy,.string fy,.string fy]) (by simp[results,Tryz.results188,go_sem]) rfl ⟨rfl,by repeat(first|exact Below.refl _ _|(refine Below.alloc ?_ (by simp) _)|(refine Below.setCell ?_ (by simp) _))⟩
theorem S1(a c d e f:eu)(w:World):eK 188 #[.agg #[.string a,.string c,.string d,.string e,.string f],ed 3] w (ml (.agg #[.string a,.string c,.string d,.string fy,.string fy]) w):=by
 have h:∀g,(Builtin.clear_ #[131] g #[.slice (some (eb w.heap.size 3)) 2 2]).run Tryz.prog ((w.alloc (.cells #[.string a,.string c,.string d,.string e,.string f] 147)).alloc (.cells #[.string fy,.string fy,.string fy,.string fy,.string fy] 147))=.ok (.tuple #[]) ((((w.alloc (.cells #[.string a,.string c,.string d,.string e,.string f] 147)).alloc (.cells #[.string fy,.string fy,.string fy,.string fy,.string fy] 147)).setCell (eb w.heap.size 3) (.string fy)).setCell (eb w.heap.size 4) (.string fy)):=
  fun g=>Lib.run_clear_slice _ 131 9 g (.string fy) Tryz.underlying131 lu rfl rfl w.heap.size 3 2 2 (by omega)
   (fun j hj=>by rcases(show j=0\/j=1\/j=2\/j=3\/j=4 by omega)with rfl|rfl|rfl|rfl|rfl<;>first|omega|simp[World.cell?_alloc_past])
   (fun j hj=>by rcases(show j=0\/j=1\/j=2\/j=3\/j=4 by omega)with rfl|rfl|rfl|rfl|rfl<;>first|omega|simp[World.frozen?_alloc_past])
 have i:max (3:Int) 0=3:=rfl;have k:∀(b:Nat) (W:World),(Instr.sliceAt 147 (fj b) (some (ed 3)) none none).run Tryz.prog W=.ok (.slice (some (eb b 3)) 2 2) W:=fun b W=>by kernel_rfl
 go_enter Tryz.func188,Tryz.ntmps188;go_wp2_with(first|simp only[i]|simp only[k]|simp only[h]);exact bodyPost_ret (v:=.agg #[.string a,.string c,.string d,.string fy,.string fy]) (by simp[results,Tryz.results188,go_sem]) rfl ⟨rfl,by repeat(first|exact Below.refl _ _|(refine Below.alloc ?_ (by simp) _)|(refine Below.setCell ?_ (by simp) _))⟩
theorem S2(a c d e f:eu)(w:World):eK 188 #[.agg #[.string a,.string c,.string d,.string e,.string f],ed 4] w (ml (.agg #[.string a,.string c,.string d,.string e,.string fy]) w):=by
 have h:∀g,(Builtin.clear_ #[131] g #[.slice (some (eb w.heap.size 4)) 1 1]).run Tryz.prog ((w.alloc (.cells #[.string a,.string c,.string d,.string e,.string f] 147)).alloc (.cells #[.string fy,.string fy,.string fy,.string fy,.string fy] 147))=.ok (.tuple #[]) (((w.alloc (.cells #[.string a,.string c,.string d,.string e,.string f] 147)).alloc (.cells #[.string fy,.string fy,.string fy,.string fy,.string fy] 147)).setCell (eb w.heap.size 4) (.string fy)):=
  fun g=>Lib.run_clear_slice _ 131 9 g (.string fy) Tryz.underlying131 lu rfl rfl w.heap.size 4 1 1 (by omega)
   (fun j hj=>by rcases(show j=0\/j=1\/j=2\/j=3\/j=4 by omega)with rfl|rfl|rfl|rfl|rfl<;>first|omega|simp[World.cell?_alloc_past])
   (fun j hj=>by rcases(show j=0\/j=1\/j=2\/j=3\/j=4 by omega)with rfl|rfl|rfl|rfl|rfl<;>first|omega|simp[World.frozen?_alloc_past])
 have i:max (4:Int) 0=4:=rfl;have k:∀(b:Nat) (W:World),(Instr.sliceAt 147 (fj b) (some (ed 4)) none none).run Tryz.prog W=.ok (.slice (some (eb b 4)) 1 1) W:=fun b W=>by kernel_rfl
 go_enter Tryz.func188,Tryz.ntmps188;go_wp2_with(first|simp only[i]|simp only[k]|simp only[h]);exact bodyPost_ret (v:=.agg #[.string a,.string c,.string d,.string e,.string fy]) (by simp[results,Tryz.results188,go_sem]) rfl ⟨rfl,by repeat(first|exact Below.refl _ _|(refine Below.alloc ?_ (by simp) _)|(refine Below.setCell ?_ (by simp) _))⟩
theorem S3(a c d e f:eu)(w:World):eK 188 #[.agg #[.string a,.string c,.string d,.string e,.string f],ed 5] w (ml (.agg #[.string a,.string c,.string d,.string e,.string f]) w):=by
 have h:∀g W,(Builtin.clear_ #[131] g #[.slice (some (eb w.heap.size 0)) 0 0]).run Tryz.prog W=.ok (.tuple #[]) W:=fun g W=>by simp[Builtin.clear_,run_underlying Tryz.underlying131]
 have i:max (5:Int) 0=5:=rfl;have j:∀(b:Nat) (W:World),(Instr.sliceAt 147 (fj b) (some (ed 5)) none none).run Tryz.prog W=.ok (.slice (some (eb b 0)) 0 0) W:=fun b W=>by kernel_rfl
 go_enter Tryz.func188,Tryz.ntmps188;go_wp2_with(first|simp only[i]|simp only[j]|simp only[h]);exact bodyPost_ret (v:=.agg #[.string a,.string c,.string d,.string e,.string f]) (by simp[results,Tryz.results188,go_sem]) rfl ⟨rfl,by repeat(first|exact Below.refl _ _|(refine Below.alloc ?_ (by simp) _)|(refine Below.setCell ?_ (by simp) _))⟩
theorem ED(l:eB)(a:l.length<=5)(n:Nat)(hn:n<=5)(w:World):eK 188 #[hP l,ed (n:Int)] w (ml (hP (l.take n)) w):=by
 have key:∀i,(l.take n).getD i fy=if i<n then l.getD i fy else fy:=by
  intro i;rw[s5,s5,xG];split<;>rfl
 unfold hP et;simp only[key];rcases(show n=0\/n=1\/n=2\/n=3\/n=4\/n=5 by omega)with rfl|rfl|rfl|rfl|rfl|rfl
 ·exact SY _ _ _ _ _ w
 ·exact SZ _ _ _ _ _ w
 ·exact S0 _ _ _ _ _ w
 ·exact S1 _ _ _ _ _ w
 ·exact S2 _ _ _ _ _ w
 ·exact S3 _ _ _ _ _ w
theorem Lh(l:eB)(w:World):eK 188 #[hP l,ed (-1)] w (ml (hP []) w):=Ou _ _ _ _ _ w
theorem gc{W a:World}(c:gS W a):(∀b o,b<W.heap.size->a.cell? (eb b o)=W.cell? (eb b o))/\(∀b o,b<W.heap.size->a.frozen? (eb b o)=W.frozen? (eb b o)):=
 ⟨fun b o h=>c.cell (p:=(eb b o)) h,fun b o h=>c.frozen (p:=(eb b o)) h⟩
theorem eQ{n:Nat}{w W:World}(h:Below n w W):Below n w W.drew:=⟨h.os,h.tape,h.output,h.size,h.block⟩
theorem em{w W a:World}(h0:gS w W)(h:gS W a):gS w a:=h0.trans (h.mono h0.size)
theorem nV{w a:World}{b o2:Obj}(h:Below ((w.alloc b).alloc o2).drew.heap.size ((w.alloc b).alloc o2).drew a):w.heap.size<a.heap.size/\w.heap.size+1<a.heap.size:=by
 have h2:((w.alloc b).alloc o2).heap.size<=a.heap.size:=h.size;rw[pL,pL]at h2;omega
theorem wm(a b c d f g h i j k:eu)(n m:Int)(w:World)(hm:IntKind.i64.wrap (n-1)=m)
  (hd:∀W,eK 142 #[.agg (ii a b c d f)] W (ml (ed n) W))
  (p:∀W,eK 188 #[.agg (ii a b c d f),ed m] W (ml (.agg (ii g h i j k)) W)):
  eK 132 #[.agg (ii a b c d f)] w (ml (.agg (ii g h i j k)) w):=by
 go_enter Tryz.func132,Tryz.ntmps132;go_wp2
 go_region_with(first
  |(go_at_call 142;refine(hd _).mono ?_;rintro e q ⟨rfl,l⟩;obtain⟨r,x⟩:=gc l;obtain⟨y,s⟩:=nV l)
  |(go_at_call 188;refine(p _).mono ?_;rintro e t ⟨rfl,o⟩;obtain⟨u,z⟩:=gc o))
 all_goals
  go_wp2;exact jr (v:=.agg (ii g h i j k)) (by simp[results,Tryz.results132,go_sem,r,u,s]) rfl ⟨rfl,by
   have h1:gS w q:=em (eQ (((i7 _ _).alloc (io _) _).alloc (by simp) _)) l;have h2:gS w t:=h1.trans (o.mono (by omega))
   repeat(first|exact h2|(refine oz ?_ (by simp) _))⟩
theorem gD{w a:World}{b:Obj}(h:Below (w.alloc b).drew.heap.size (w.alloc b).drew a):w.heap.size<a.heap.size:=by
 have h2:(w.alloc b).heap.size<=a.heap.size:=h.size;rw[pL]at h2;omega
theorem S4(a b c d f:eu)(w:World)
  (heq:∀W,(Op.equalIn 10000 147 (.agg (ii a b c d f)) (.agg (ii fy fy fy fy fy))).run Tryz.prog W=.ok false W)
  (hd:∀W,eK 142 #[.agg (ii a b c d f)] W (ml (ed 1) W)):
  eK 134 #[.agg (ii a b c d f)] w (ml (.string a) w):=by
 have g:=fun W=>px W;unfold hP et at g;simp only[k8]at g;go_enter Tryz.func134,Tryz.ntmps134;go_wp2
 go_region_with(first
  |(go_at_call 75;refine(g _).mono ?_;rintro e j ⟨rfl,h⟩;obtain⟨k,l⟩:=gc h;have m:=gD h))
 all_goals
  go_wp2_with(go_at_call 142;refine(hd _).mono ?_;rintro e n ⟨rfl,i⟩;obtain⟨o,p⟩:=gc i);go_ret;exact⟨rfl,em (em (eQ ((i7 _ _).alloc (io _) _)) h) i⟩
theorem S5(b a c d f:eu)(w:World)
  (heq:∀W,(Op.equalIn 10000 147 (.agg (ii b a c d f)) (.agg (ii fy fy fy fy fy))).run Tryz.prog W=.ok false W)
  (hd:∀W,eK 142 #[.agg (ii b a c d f)] W (ml (ed 2) W)):
  eK 134 #[.agg (ii b a c d f)] w (ml (.string a) w):=by
 have g:=fun W=>px W;unfold hP et at g;simp only[k8]at g;go_enter Tryz.func134,Tryz.ntmps134;go_wp2
 go_region_with(first
  |(go_at_call 75;refine(g _).mono ?_;rintro e j ⟨rfl,h⟩;obtain⟨k,l⟩:=gc h;have m:=gD h))
 all_goals
  go_wp2_with(go_at_call 142;refine(hd _).mono ?_;rintro e n ⟨rfl,i⟩;obtain⟨o,p⟩:=gc i);go_ret;exact⟨rfl,em (em (eQ ((i7 _ _).alloc (io _) _)) h) i⟩
theorem name_3(b c a d f:eu)(w:World)
  (heq:∀W,(Op.equalIn 10000 147 (.agg (ii b c a d f)) (.agg (ii fy fy fy fy fy))).run Tryz.prog W=.ok false W)
  (hd:∀W,eK 142 #[.agg (ii b c a d f)] W (ml (ed 3) W)):
  eK 134 #[.agg (ii b c a d f)] w (ml (.string a) w):=by
 have g:=fun W=>px W;unfold hP et at g;simp only[k8]at g;go_enter Tryz.func134,Tryz.ntmps134;go_wp2
 go_region_with(first
  |(go_at_call 75;refine(g _).mono ?_;rintro e j ⟨rfl,h⟩;obtain⟨k,l⟩:=gc h;have m:=gD h))
 all_goals
  go_wp2_with(go_at_call 142;refine(hd _).mono ?_;rintro e n ⟨rfl,i⟩;obtain⟨o,p⟩:=gc i);go_ret;exact⟨rfl,em (em (eQ ((i7 _ _).alloc (io _) _)) h) i⟩
theorem S6(b c d a f:eu)(w:World)
  (heq:∀W,(Op.equalIn 10000 147 (.agg (ii b c d a f)) (.agg (ii fy fy fy fy fy))).run Tryz.prog W=.ok false W)
  (hd:∀W,eK 142 #[.agg (ii b c d a f)] W (ml (ed 4) W)):
  eK 134 #[.agg (ii b c d a f)] w (ml (.string a) w):=by
 have g:=fun W=>px W;unfold hP et at g;simp only[k8]at g;go_enter Tryz.func134,Tryz.ntmps134;go_wp2
 go_region_with(first
  |(go_at_call 75;refine(g _).mono ?_;rintro e j ⟨rfl,h⟩;obtain⟨k,l⟩:=gc h;have m:=gD h))
 all_goals
  go_wp2_with(go_at_call 142;refine(hd _).mono ?_;rintro e n ⟨rfl,i⟩;obtain⟨o,p⟩:=gc i);go_ret;exact⟨rfl,em (em (eQ ((i7 _ _).alloc (io _) _)) h) i⟩
theorem S7(b c d f a:eu)(w:World)
  (heq:∀W,(Op.equalIn 10000 147 (.agg (ii b c d f a)) (.agg (ii fy fy fy fy fy))).run Tryz.prog W=.ok false W)
  (hd:∀W,eK 142 #[.agg (ii b c d f a)] W (ml (ed 5) W)):
  eK 134 #[.agg (ii b c d f a)] w (ml (.string a) w):=by
 have g:=fun W=>px W;unfold hP et at g;simp only[k8]at g;go_enter Tryz.func134,Tryz.ntmps134;go_wp2
 go_region_with(first
  |(go_at_call 75;refine(g _).mono ?_;rintro e j ⟨rfl,h⟩;obtain⟨k,l⟩:=gc h;have m:=gD h))
 all_goals
  go_wp2_with(go_at_call 142;refine(hd _).mono ?_;rintro e n ⟨rfl,i⟩;obtain⟨o,p⟩:=gc i);go_ret;exact⟨rfl,em (em (eQ ((i7 _ _).alloc (io _) _)) h) i⟩
theorem Li(l:eB)(h:l≠[]):l.getD (l.length-1) fy=l.getLast h:=by
 rw[List.getLast_eq_getElem,s5,gJ (by have:=Dn.2 h;omega)];rfl
theorem iB(l:eB)(hg:Good l)(h:l≠[])(w:World):eK 134 #[hP l] w (ml (.string (l.getLast h)) w):=by
 have heq:∀W,(Op.equalIn 10000 147 (hP l) (hP [])).run Tryz.prog W=.ok false W:=fun W=>by
  have:=sf hg Good.nil W
  rw[m6 h]at this;exact this
 have hd:=fun W=>j5 l hg.val hg.len W;have a:=hg.len;have hl:=Dn.2 h;rw[<-Li l h];generalize hn:l.length=k at hd a hl ⊢;unfold hP et at heq hd ⊢;simp only[k8]at heq;rcases(show k=1\/k=2\/k=3\/k=4\/k=5 by omega)with rfl|rfl|rfl|rfl|rfl
 ·exact S4 _ _ _ _ _ w heq hd
 ·exact S5 _ _ _ _ _ w heq hd
 ·exact name_3 _ _ _ _ _ w heq hd
 ·exact S6 _ _ _ _ _ w heq hd
 ·exact S7 _ _ _ _ _ w heq hd
theorem xr(l:eB)(hg:Good l)(w:World):eK 132 #[hP l] w (ml (hP l.dropLast) w):=by
 have hd:=fun W=>j5 l hg.val hg.len W;have b:=hg.len;by_cases hl:l=[]
 ·subst hl
  have a:=fun W=>Lh [] W;exact wm _ _ _ _ _ _ _ _ _ _ 0 (-1) w (by decide) hd a
 ·have hp:=Dn.2 hl
  have a:=fun W=>ED l hg.len (l.length-1) (by omega) W;rw[<-List.dropLast_eq_take]at a;refine wm _ _ _ _ _ _ _ _ _ _ (l.length:Int) ((l.length-1:Nat):Int) w ?_ hd a;rcases(show l.length=1\/l.length=2\/l.length=3\/l.length=4\/l.length=5 by omega)with e|e|e|e|e<;>(rw[e];decide)
end Go.Proofs.YtlgidcmmgohagaaGreat
namespace Go.Proofs.YtlgidcmmgohagaaGreat
open Go.RowKit
set_option linter.unusedVariables false
set_option maxRecDepth 100000 in
set_option maxHeartbeats 400000 in
theorem EE(b:Nat)(id:Int)(w:World):
  eK 211 #[fj b,ed id] w fun e w'=>e=.returned (fj w.heap.size)/\w'=w.alloc (.cells #[fj b,ed id,.string fy] 308):=by
 go_enter Tryz.func211,Tryz.ntmps211;go_wp2;go_ret;exact⟨rfl,rfl⟩
set_option maxRecDepth 100000 in
set_option maxHeartbeats 400000 in
theorem Hl(w:World):
  eK 210 #[] w fun e w'=>e=.returned (fj w.heap.size)/\w'=w.alloc (.cells #[.pointer none,ed 0,.string fy] 308):=by
 go_enter Tryz.func210,Tryz.ntmps210;go_wp2;go_ret;exact⟨rfl,rfl⟩
set_option maxRecDepth 100000 in
set_option maxHeartbeats 400000 in
theorem EF(f:Nat)(v:Value)(d:eu)(x y z:Value)(w:World)(hf:f<w.heap.size)(c0:w.cell? (eb f 0)=some x)(c1:w.cell? (eb f 1)=some y)(c2:w.cell? (eb f 2)=some z)(f0:∀o,w.frozen? (eb f o)=false)
  (hc:(convert 204 9 v).run Tryz.prog w=.ok (.string d) w):
  eK 212 #[fj f,v] w fun e w'=>e=.returned (.tuple #[])/\w'=((w.setCell (eb f 0) (.pointer none)).setCell (eb f 1) (ed 0)).setCell (eb f 2) (.string d):=by
 go_enter Tryz.func212,Tryz.ntmps212;go_wp2;go_end0;exact⟨rfl,rfl⟩
set_option maxRecDepth 100000 in
set_option maxHeartbeats 400000 in
theorem Lj(o:Nat)(fg pl n:Int)(w:World)(c1:w.cell? (eb o 1)=some (ed fg))(a:(bits BinOp.and IntKind.i64 fg 32 != 0)=true):
  eK 180 #[fj o,ed n] w (tz (ed n) w):=by
 go_enter Tryz.func180,Tryz.ntmps180;go_wp2;go_ret;exact⟨rfl,rfl⟩
end Go.Proofs.YtlgidcmmgohagaaGreat
