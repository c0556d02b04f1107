/- What is proved here: 'keepIDs'. -/
import Derived.Test.YtlgidcmmgohagaaGreatFileM12
import Derived.Test.YtlgidcmmgohagaaGreatFileM04
import Derived.Lib.SliceRun
import Derived.Test.YtlgidcmmgohagaaGreatFileM01
namespace Go.Proofs.YtlgidcmmgohagaaGreat
open Go.RowKit Go.Sort Go.Shelf
set_option linter.unusedVariables false
set_option maxRecDepth 100000
set_option maxHeartbeats 16000000
theorem Xs:(Tryz.prog.info? 59).map (fun i=>(i.zero,i.size,i.bytes))=some (some (.slice none 0 0),1,24):=by kernel_rfl
def mh (t:gi)(V:Value)(w:World)(h:gf):Prop:=w.ownsRow 0 t 1 (fP h) h.2.1 (List.replicate h.2.1 V)
def xl (la:fD)(c base:Nat)(h:gf):Prop:=(h.1=la/\h.2.2=c)\/(∃g,h.1=some ⟨g,0,none⟩/\base<=g)
theorem jG{w w':World}{la:fD}{c n base:Nat}{a:Value}(h:Room w w' la c a n)(e:base<=w.heap.size):∃b d,a=.slice b n d/\xl la c base (b,n,d):=by
 rcases h with⟨_,g,cap,rfl,hg⟩|⟨g,rfl,rfl,_⟩
 ·exact⟨some (eI g 0),cap,rfl,.inr ⟨g,rfl,wl e hg⟩⟩
 ·exact⟨some (eI g 0),c,rfl,.inl ⟨rfl,rfl⟩⟩
theorem oh{t:gi}{V:Value}{w w':World}{la:fD}{c n base:Nat}{a:Value}{x:gf}(h:mh t V w x)(hn:xl la c base x)(b:∀g,la=some (eI g 0)->g<base)(hr:Room w w' la c a n)(hv:w'.ownsRow 0 t 1 a n (List.replicate n V))(hx:x.2.1<=n):mh t V w' x:=by
 rcases hr with⟨hg,_⟩|⟨g,rfl,rfl,hg⟩
 ·exact eQ h (fun k hk=>hg.block k (eK h hk) (by simp))
 ·rcases hn with⟨h1,h2⟩|⟨d,h1,h2⟩
  ·obtain⟨f,i,j⟩:=x
   simp only at h1 h2 hx;subst h1;subst h2;exact BA hv hx
  ·have l:=b g rfl
   refine eQ h (fun k hk=>hg.block k (eK h hk) (fun e=>?_));simp only[fP,h1,Value.ownBlock,mZ]at hk e;omega
def BB (t tl:gi)(V:Value)(i:Nat)(w w':World)(W q:Nat)(cs:Array Value)(ea:fD)(ec:Nat)(la:fD)(m c:Nat)(hs:List gf):Prop:=
 ∃(a c4:Nat) (b d e:gf),w'.heap[W]?=some (.cells (cs.setIfInBounds i (.slice (some ⟨a,0,none⟩) (4*q+4) c4)) 71 (0,0))/\
  w'.ownsRow 0 tl 1 (.slice (some ⟨a,0,none⟩) (4*q+4) c4) (4*q+4) ((hs++[(la,m,c),b,d,e]).map fP)/\b.2.1=m+1/\d.2.1=m+2/\e.2.1=m+3/\
  (∀h∈[((la,m,c):gf),b,d,e],mh t V w' h/\xl la c w.heap.size h)/\
  ((some a:Option Nat)=(Value.slice ea (4*q) ec).ownBlock\/w.heap.size<=a)/\
  eA (fun x=>x=W\/some x=(Value.slice ea (4*q) ec).ownBlock\/some x=(Value.slice la m c).ownBlock) w w'
theorem mK{w wr w':World}{o:Obj}{la:fD}{m c n:Nat}{a:Value}(hk:eA (fun x=>some x=(Value.slice la m c).ownBlock) w wr)(hr:Room (wr.alloc o) w' la c a n):eA (fun x=>some x=(Value.slice la m c).ownBlock) w w':=by
 have key:∀row,(wr.alloc o).grownBy w' row->(∀x,some x=row->some x=(Value.slice la m c).ownBlock)->eA (fun x=>some x=(Value.slice la m c).ownBlock) w w':=fun row hg b=>by
  have hs:=hg.size;simp at hs
  have:=hk.size
  refine⟨hg.os.trans hk.os,hg.tape.trans hk.tape,hg.output.trans hk.output,by omega,fun x hx hne=>?_⟩;rw[hg.block x (by simp;omega) (fun e=>hne (b x e)),mA _ _ _ (by omega)];exact hk.block x hx hne
 rcases hr with⟨hg,_⟩|⟨g,rfl,_,hg⟩
 ·exact key _ hg (fun x hx=>by cases hx)
 ·exact key _ hg (fun x hx=>by rw[hx];rfl)
theorem om{wr w':World}{o:Obj}{la:fD}{c n:Nat}{a:Value}(hr:Room (wr.alloc o) w' la c a n):wr.heap.size<w'.heap.size:=by
 rcases hr with⟨hg,_⟩|⟨g,rfl,_,hg⟩
 all_goals have:=hg.size;simp at this;omega
theorem Jf(W q:Nat)(cs:Array Value)(ea:fD)(ec m c:Nat)(la:fD)(hs:List gf)(xs:fQ)(w:World)(hW:w.heap[W]?=some (.cells cs 71 (0,0)))(I:cs[11]?=some (.slice ea (4*q) ec))(hn:hs.length=4*q)(bA:4*q<=1000000000)
  (row:w.ownsRow 0 59 1 (.slice ea (4*q) ec) (4*q) (hs.map fP))(hm:m<=1000000000)(hl:w.ownsRow 0 29 1 (.slice la m c) m xs):
  gc 88 #[.pointer (some (eI W 8)),.slice la m c] w fun e w'=>e=.returned (.tuple #[])/\BB 29 59 (eJ (-1000-(q:Int))) 11 w w' W q cs ea ec la m c hs:=by
 obtain⟨aa,hi,ab,ac,ad⟩:=iq Oe;obtain⟨J,hS,K,L,N⟩:=iq Xs;have bB:W<w.heap.size:=(nX.1 hW).1;have bC:w.cell? (eI W 11)=some (.slice ea (4*q) ec):=by simp[World.cell?,hW,I]
 have aU:Hid (w.ownsRow 0 29 1 (.slice la m c) m xs):=hl;have ae:Hid (w.ownsRow 0 59 1 (.slice ea (4*q) ec) (4*q) (hs.map fP)):=row;have aV:Hid (∀g,(Value.slice la m c).ownBlock=some g->g<w.heap.size/\g≠W):=fun g hg=>⟨eK hl hg,fun e=>by subst e;exact fX hl hW (by decide) hg.symm⟩;have af:11<cs.size:=(nX.1 I).1;have aW:∀v:Value,(cs.setIfInBounds 11 v)[11]?=some v:=fun v=>by simp[af]
 have bD:((4*q:Nat):Int) / 4=(q:Int):=by omega
 have bE:(4*(q:Int)) / 4=(q:Int):=by omega
 have aX:Hid (∃rest:fQ,rest.length=m-0/\w.ownsRow 0 29 1 (.slice la m c) m (List.replicate 0 (Value.int .i64 (-1000-(q:Int)))++rest)):=⟨xs,by have:=hl.1;omega,by simpa using hl⟩;have ag:Hid (∀g,la=some (eI g 0)->g<w.heap.size):=fun g hg=>by subst hg;exact eK hl rfl
 clear hl row;go_enter Tryz.func88,Tryz.ntmps88;go_wp2
 go_loopw [5] (fun i wr=>∃k:Nat,k<=m/\i=.int .i64 (k:Int)/\Hid (eA (fun x=>some x=(Value.slice la m c).ownBlock) w wr)/\Hid (∃rest:fQ,rest.length=m-k/\wr.ownsRow 0 29 1 (.slice la m c) m (List.replicate k (Value.int .i64 (-1000-(q:Int)))++rest))) (fun i _=>m-(intOf i).toNat)
 case atStart=>exact⟨0,tk _,rfl,eA.refl _,aX.out⟩
 case round=>
  obtain⟨k,hk,rfl,s,ah⟩:=hrel;have aY:w.heap.size<=wr.heap.size:=s.out.size;by_cases bF:k<m
  ·obtain⟨rest,ax,z⟩:=ah.out
   obtain⟨g,bG,ay⟩:=fj z (by omega);have aZ:=(nH ay).1;subst aZ;have bH:=fun j=>z.frozenAt j;have bb:∃v,wr.cell? (eI g k)=some v:=by
    rw[z.cellAt k (by omega)];exact⟨_,jy (by rw[mb,wk,ax];omega)⟩
   obtain⟨bI,bJ⟩:=bb;have bK:(k:Int)<(m:Int):=by omega
   have bL:g<wr.heap.size:=eK z rfl;have bc:Hid _:=z;clear z ay;go_wp2;go_roundw
   case rel=>
    refine⟨k+1,by omega,by go_num,?_,?_⟩
    ·exact⟨s.out.os,s.out.tape,s.out.output,by simpa using s.out.size,fun x hx hne=>by
      have bd:x≠g:=fun e=>hne (by rw[e];rfl);rw[jQ _ _ _ _ bd];exact s.out.block x hx hne⟩
    ·exact⟨rest.drop 1,by rw[lz,ax];omega,dev bc.out (by omega)⟩
   case measure=>simp[intOf];omega
  ·have be:k=m:=by omega
   subst be;obtain⟨M,O⟩:∃M:Int,M=-1000-(q:Int):=⟨_,rfl⟩;have bf:Hid (wr.ownsRow 0 29 1 (.slice la k c) k (List.replicate k (eJ M))):=by
    obtain⟨rest,h2,h3⟩:=ah.out
    have:rest=[]:=CK (by rw[h2];omega)
    subst this;show World.ownsRow _ _ _ _ _ _ _;rw[O];simpa using h3
   have bM:((k:Int)<(k:Int))=False:=by simp
   rw[<-O];have bg:Hid (M=-1000-(q:Int)):=O;clear O ah;have bN:w.heap.size<=wr.heap.size:=aY;go_wp2_with(at_builtin;refine gJ rfl (.tmp 26) (.tmp 28) 59 rfl 29 aa _ 8 Tryz.underlying59 hi ab ac ad rfl (eJ M) rfl la k c rfl (pE bf.out _) (eI wr.heap.size 0) 1 1 (by decide) rfl (jF wr [eJ M] 29) (by unfold maxLen;omega) (by omega) ?_);intro bO wa az aA P;obtain⟨a,d,rfl,aB⟩:=jG P (base:=w.heap.size) (by simp;omega);have bQ:=om P;have bh:Hid (eA (fun x=>some x=(Value.slice la k c).ownBlock) w wa):=mK s.out P;have bi:Hid (wa.ownsRow 0 29 1 (.slice la k c) k (List.replicate k (eJ M))):=aA;have bj:Hid (mh 29 (eJ M) wa (a,k+1,d)):=az;have ai:Hid (xl la c w.heap.size (a,k+1,d)):=aB;clear az aA P aB;go_wp2_with(at_builtin;refine gJ rfl (.tmp 30) (.tmp 33) 59 rfl 29 aa _ 8 Tryz.underlying59 hi ab ac ad rfl (eJ M) rfl la k c rfl (pE bi.out _) (eI wa.heap.size 0) 2 2 (by decide) rfl (jF wa [eJ M,eJ M] 29) (by unfold maxLen;omega) (by omega) ?_);intro bR wb aj aC D;obtain⟨p,r,rfl,aD⟩:=jG D (base:=w.heap.size) (by simp;omega);have bS:=om D;have bk:Hid (eA (fun x=>some x=(Value.slice la k c).ownBlock) w wb):=mK bh.out D;have bl:Hid (wb.ownsRow 0 29 1 (.slice la k c) k (List.replicate k (eJ M))):=aC;have bm:Hid (mh 29 (eJ M) wb (a,k+1,d)):=oh (pE bj.out _) ai.out ag.out D aj (by show k+1<=_;omega);have bn:Hid (mh 29 (eJ M) wb (p,k+2,r)):=aj;have aE:Hid (xl la c w.heap.size (p,k+2,r)):=aD;clear aj aC D aD;go_wp2_with(at_builtin;refine gJ rfl (.tmp 35) (.tmp 39) 59 rfl 29 aa _ 8 Tryz.underlying59 hi ab ac ad rfl (eJ M) rfl la k c rfl (pE bl.out _) (eI wb.heap.size 0) 3 3 (by decide) rfl (jF wb [eJ M,eJ M,eJ M] 29) (by unfold maxLen;omega) (by omega) ?_);intro bT wc Q aF A;obtain⟨E,F,rfl,aG⟩:=jG A (base:=w.heap.size) (by simp;omega);have bU:=om A;have u:Hid (eA (fun x=>some x=(Value.slice la k c).ownBlock) w wc):=mK bk.out A;have bo:Hid (wc.ownsRow 0 29 1 (.slice la k c) k (List.replicate k (eJ M))):=aF;have bp:Hid (mh 29 (eJ M) wc (a,k+1,d)):=oh (pE bm.out _) ai.out ag.out A Q (by show k+1<=_;omega);have bq:Hid (mh 29 (eJ M) wc (p,k+2,r)):=oh (pE bn.out _) aE.out ag.out A Q (by show k+2<=_;omega);have br:Hid (mh 29 (eJ M) wc (E,k+3,F)):=Q;have bs:Hid (xl la c w.heap.size (E,k+3,F)):=aG;clear Q aF A aG;have B:wc.heap[W]?=some (.cells cs 71 (0,0)):=by
    rw[u.out.block W (by omega) (fun e=>(aV.out W e.symm).2 rfl)];exact hW
   have R:Hid (wc.ownsRow 0 59 1 (.slice ea (4*q) ec) (4*q) (hs.map fP)):=eQ ae.out (fun g hg=>by
    have hl:=eK ae.out hg;exact u.out.block g (by omega) (fun e=>px ae.out aU.out (by decide) hg e))
   have bV:W<wc.heap.size:=by omega
   have bt:wc.cell? (eI W 11)=some (.slice ea (4*q) ec):=by simp[World.cell?,B,I]
   have f8:wc.frozen? (eI W 11)=false:=by simp[World.frozen?,B]
   go_wp2_with(at_builtin;refine jp rfl (.tmp 45) (.tmp 47) 67 rfl 0 59 J _ 1 24 Tryz.underlying67 hS K L N rfl (by decide) (.slice ea (4*q) ec) (4*q) (hs.map fP) rfl (pE R.out _) (eI wc.heap.size 0) 1 1 [.slice la k c] rfl rfl (one_cell _ _ _ _ rfl) gI (by unfold maxLen;omega) (by omega) (tk _) ?_);intro bW C ak S aH;obtain⟨aI,c1,rfl⟩:=fj ak (by omega);have aJ:=ma (i:=11) B R.out (by decide) (jz _ _) (by simp) ⟨rfl,rfl,rfl⟩ ak S aH (by omega);have al:=sq B (jz _ _) (by simp) S (fX R.out B (by decide));have bX:wc.heap.size<=C.heap.size:=by have:=S.size;simp at this;omega
   have bu:C.cell? (eI W 11)=some (.slice ea (4*q) ec):=by simp[World.cell?,al,I]
   have f81:C.frozen? (eI W 11)=false:=by simp[World.frozen?,al]
   have f:Hid _:=aJ;have bY:W<C.heap.size:=by omega
   clear ak S aH aJ al bt f8;go_wp2_with(at_builtin;refine jp rfl (.tmp 55) (.tmp 57) 67 rfl 0 59 J _ 1 24 Tryz.underlying67 hS K L N rfl (by decide) (.slice (some (eI aI 0)) (4*q+1) c1) (4*q+1) (hs.map fP++[.slice la k c]) rfl (pE f.out.2.1 _) (eI C.heap.size 0) 1 1 [.slice a (k+1) d] rfl rfl (one_cell _ _ _ _ (by simp)) gI (by unfold maxLen;omega) (by omega) (tk _) ?_);intro bZ y am T aK;obtain⟨an,c2,rfl⟩:=fj am (by omega);have aL:y.ownsRow 0 59 1 (.slice (some (eI an 0)) (4*q+1+1) c2) (4*q+1+1) (hs.map fP++[.slice la k c]++[.slice a (k+1) d]):=by simpa using am
   have aM:=ma (i:=11) f.out.1 f.out.2.1 (by decide) (jz _ _) (by simp) ⟨rfl,rfl,rfl⟩ aL T aK (by simp);have ao:=sq f.out.1 (jz _ _) (by simp) T (fX f.out.2.1 f.out.1 (by decide));have ca:C.heap.size<=y.heap.size:=by have:=T.size;simp at this;omega
   have bv:y.cell? (eI W 11)=some (.slice (some (eI aI 0)) (4*q+1) c1):=by simp[World.cell?,ao,aW]
   have f82:y.frozen? (eI W 11)=false:=by simp[World.frozen?,ao]
   have n:Hid _:=aM;have cb:W<y.heap.size:=by omega
   clear am aL T aK aM ao bu f81;go_wp2_with(at_builtin;refine jp rfl (.tmp 65) (.tmp 67) 67 rfl 0 59 J _ 1 24 Tryz.underlying67 hS K L N rfl (by decide) (.slice (some (eI an 0)) (4*q+1+1) c2) (4*q+1+1) (hs.map fP++[.slice la k c]++[.slice a (k+1) d]) rfl (pE n.out.2.1 _) (eI y.heap.size 0) 1 1 [.slice p (k+2) r] rfl rfl (one_cell _ _ _ _ (by simp)) gI (by unfold maxLen;omega) (by omega) (tk _) ?_);intro cc w3 ap U aN;obtain⟨g3,c3,rfl⟩:=fj ap (by omega);have aO:w3.ownsRow 0 59 1 (.slice (some (eI g3 0)) (4*q+1+1+1) c3) (4*q+1+1+1) (hs.map fP++[.slice la k c]++[.slice a (k+1) d]++[.slice p (k+2) r]):=by simpa using ap
   have aP:=ma (i:=11) n.out.1 n.out.2.1 (by decide) (jz _ _) (by simp) ⟨rfl,rfl,rfl⟩ aO U aN (by simp);have aq:=sq n.out.1 (jz _ _) (by simp) U (fX n.out.2.1 n.out.1 (by decide));have cd:y.heap.size<=w3.heap.size:=by have:=U.size;simp at this;omega
   have bw:w3.cell? (eI W 11)=some (.slice (some (eI an 0)) (4*q+1+1) c2):=by simp[World.cell?,aq,af]
   have f83:w3.frozen? (eI W 11)=false:=by simp[World.frozen?,aq]
   have o:Hid _:=aP;have ce:W<w3.heap.size:=by omega
   clear ap aO U aN aP aq bv f82;go_wp2_with(at_builtin;refine jp rfl (.tmp 75) (.tmp 77) 67 rfl 0 59 J _ 1 24 Tryz.underlying67 hS K L N rfl (by decide) (.slice (some (eI g3 0)) (4*q+1+1+1) c3) (4*q+1+1+1) (hs.map fP++[.slice la k c]++[.slice a (k+1) d]++[.slice p (k+2) r]) rfl (pE o.out.2.1 _) (eI w3.heap.size 0) 1 1 [.slice E (k+3) F] rfl rfl (one_cell _ _ _ _ (by simp)) gI (by unfold maxLen;omega) (by omega) (tk _) ?_);intro cf G ar au aQ;obtain⟨H,c4,rfl⟩:=fj ar (by omega);have aR:G.ownsRow 0 59 1 (.slice (some (eI H 0)) (4*q+1+1+1+1) c4) (4*q+1+1+1+1) (hs.map fP++[.slice la k c]++[.slice a (k+1) d]++[.slice p (k+2) r]++[.slice E (k+3) F]):=by simpa using ar
   have aS:=ma (i:=11) o.out.1 o.out.2.1 (by decide) (jz _ _) (by simp) ⟨rfl,rfl,rfl⟩ aR au aQ (by simp);have av:=sq o.out.1 (jz _ _) (by simp) au (fX o.out.2.1 o.out.1 (by decide));have cg:G.cell? (eI W 11)=some (.slice (some (eI g3 0)) (4*q+1+1+1) c3):=by simp[World.cell?,av,af]
   have f84:G.frozen? (eI W 11)=false:=by simp[World.frozen?,av]
   have aw:Hid _:=aS;clear ar aR au aQ aS av bw f83;have bx:Hid (eA (fun x=>x=W\/some x=(Value.slice ea (4*q) ec).ownBlock\/some x=(Value.slice la k c).ownBlock) w wc):=
    ⟨u.out.os,u.out.tape,u.out.output,u.out.size,fun x hx hne=>u.out.block x hx (fun e=>hne (.inr (.inr e)))⟩
   have V:=iG (t:=29) (by decide) (by decide) (by decide) B R.out (fun x hx=>.inl hx.symm) bx.out f.out;have X:=iG (t:=29) (by decide) (by decide) (by decide) f.out.1 f.out.2.1 V.1 V.2.1 n.out;have Y:=iG (t:=29) (by decide) (by decide) (by decide) n.out.1 n.out.2.1 X.1 X.2.1 o.out;have Z:=iG (t:=29) (by decide) (by decide) (by decide) o.out.1 o.out.2.1 Y.1 Y.2.1 aw.out;have bz:Hid (BB 29 59 (eJ (-1000-(q:Int))) 11 w (G.setCell (eI W 11) (.slice (some (eI H 0)) (4*q+1+1+1+1) c4)) W q cs ea ec la k c hs):=by
    have all:∀{b:Nat} {v:Value} {l:Nat} {ys:fQ},wc.ownsRow b 29 1 v l ys->(G.setCell (eI W 11) (.slice (some (eI H 0)) (4*q+1+1+1+1) c4)).ownsRow b 29 1 v l ys:=fun h=>Z.2.2 (Y.2.2 (X.2.2 (V.2.2 h)));rw[<-bg.out];refine⟨H,c4,(a,k+1,d),(p,k+2,r),(E,k+3,F),?_,?_,rfl,rfl,rfl,?_,Z.1 H rfl,Z.2.1⟩
    ·have:=aw.out.1
     simpa using this
    ·have:=aw.out.2.1
     simpa [fP]using this
    ·intro h aT
     simp only[gU,KS,or_false]at aT;rcases aT with rfl|rfl|rfl|rfl
     ·exact⟨all bo.out,.inl ⟨rfl,rfl⟩⟩
     ·exact⟨all bp.out,ai.out⟩
     ·exact⟨all bq.out,aE.out⟩
     ·exact⟨all br.out,bs.out⟩
   clear V X Y Z;go_wp2;go_end0;exact⟨rfl,bz.out⟩
theorem Dh(W q:Nat)(cs:Array Value)(ea:fD)(ec m c:Nat)(la:fD)(hs:List gf)(xs:fQ)(w:World)(hW:w.heap[W]?=some (.cells cs 71 (0,0)))(I:cs[8]?=some (.slice ea (4*q) ec))(hn:hs.length=4*q)(bF:4*q<=1000000000)
  (row:w.ownsRow 0 131 1 (.slice ea (4*q) ec) (4*q) (hs.map fP))(hm:m<=1000000000)(hl:w.ownsRow 0 9 1 (.slice la m c) m xs):
  gc 93 #[.pointer (some (eI W 8)),.slice la m c] w fun e w'=>e=.returned (.tuple #[])/\BB 9 131 (.string (zi q)) 8 w w' W q cs ea ec la m c hs:=by
 obtain⟨ac,hi,ad,ae,af⟩:=iq qx;obtain⟨J,hS,K,L,N⟩:=iq Up;have bG:W<w.heap.size:=(nX.1 hW).1;have aX:w.cell? (eI W 8)=some (.slice ea (4*q) ec):=by simp[World.cell?,hW,I]
 have O:Hid (w.ownsRow 0 9 1 (.slice la m c) m xs):=hl;have ag:Hid (w.ownsRow 0 131 1 (.slice ea (4*q) ec) (4*q) (hs.map fP)):=row;have aY:Hid (∀g,(Value.slice la m c).ownBlock=some g->g<w.heap.size/\g≠W):=fun g hg=>⟨eK hl hg,fun e=>by subst e;exact fX hl hW (by decide) hg.symm⟩;have ah:8<cs.size:=(nX.1 I).1;have aZ:∀v:Value,(cs.setIfInBounds 8 v)[8]?=some v:=fun v=>by simp[ah]
 have bH:((4*q:Nat):Int) / 4=(q:Int):=by omega
 have bI:(4*(q:Int)) / 4=(q:Int):=by omega
 have ai:Hid (∀g,la=some (eI g 0)->g<w.heap.size):=fun g hg=>by subst hg;exact eK hl rfl
 obtain⟨M,aj⟩:∃M,M=zi q:=⟨_,rfl⟩;have bb:Hid (gc 58 #[eJ (q:Int)] w (pB (.string M) w)):=by rw[aj];exact Je q w (by omega)
 rw[<-aj];clear aj;clear hl row;go_enter Tryz.func93,Tryz.ntmps93;go_wp2_with fail;refine io bb.out ?_;rintro _ P ⟨rfl,Q⟩;have bc:Hid (ik w P):=Q;have bJ:w.heap.size<=P.heap.size:=Q.size;have bd:Hid (∃rest:fQ,rest.length=m-0/\P.ownsRow 0 9 1 (.slice la m c) m (List.replicate 0 (Value.string M)++rest)):=⟨xs,by have:=O.out.1;omega,by simpa using eQ O.out (fun x hx=>bc.out.block x (eK O.out hx))⟩;have be:Hid (eA (fun x=>some x=(Value.slice la m c).ownBlock) w P):=eA.eE Q;clear Q aX;go_wp2
 go_loopw [5] (fun i wr=>∃k:Nat,k<=m/\i=.int .i64 (k:Int)/\Hid (eA (fun x=>some x=(Value.slice la m c).ownBlock) w wr)/\Hid (∃rest:fQ,rest.length=m-k/\wr.ownsRow 0 9 1 (.slice la m c) m (List.replicate k (Value.string M)++rest))) (fun i _=>m-(intOf i).toNat)
 case atStart=>exact⟨0,tk _,rfl,be.out,bd.out⟩
 case round=>
  obtain⟨k,hk,rfl,s,ak⟩:=hrel;have bf:w.heap.size<=wr.heap.size:=s.out.size;by_cases bK:k<m
  ·obtain⟨rest,aA,z⟩:=ak.out
   obtain⟨g,bL,aB⟩:=fj z (by omega);have bg:=(nH aB).1;subst bg;have bM:=fun j=>z.frozenAt j;have bh:∃v,wr.cell? (eI g k)=some v:=by
    rw[z.cellAt k (by omega)];exact⟨_,jy (by rw[mb,wk,aA];omega)⟩
   obtain⟨bN,bO⟩:=bh;have bQ:(k:Int)<(m:Int):=by omega
   have bR:g<wr.heap.size:=eK z rfl;have bi:Hid _:=z;clear z aB;go_wp2;go_roundw
   case rel=>
    refine⟨k+1,by omega,by go_num,?_,?_⟩
    ·exact⟨s.out.os,s.out.tape,s.out.output,by simpa using s.out.size,fun x hx hne=>by
      have bj:x≠g:=fun e=>hne (by rw[e];rfl);rw[jQ _ _ _ _ bj];exact s.out.block x hx hne⟩
    ·exact⟨rest.drop 1,by rw[lz,aA];omega,dev bi.out (by omega)⟩
   case measure=>simp[intOf];omega
  ·have bk:k=m:=by omega
   subst bk;have bl:Hid (wr.ownsRow 0 9 1 (.slice la k c) k (List.replicate k (.string M))):=by
    obtain⟨rest,h2,h3⟩:=ak.out
    have:rest=[]:=CK (by rw[h2];omega)
    subst this;show World.ownsRow _ _ _ _ _ _ _;simpa using h3
   have bS:((k:Int)<(k:Int))=False:=by simp
   clear ak;have bT:w.heap.size<=wr.heap.size:=bf;go_wp2_with(at_builtin;refine gJ rfl (.tmp 26) (.tmp 28) 131 rfl 9 ac _ 16 Wx hi ad ae af rfl (.string M) rfl la k c rfl (pE bl.out _) (eI wr.heap.size 0) 1 1 (by decide) rfl (jF wr [.string M] 9) (by unfold maxLen;omega) (by omega) ?_);intro bU wa aC aD R;obtain⟨a,d,rfl,aE⟩:=jG R (base:=w.heap.size) (by simp;omega);have bV:=om R;have bm:Hid (eA (fun x=>some x=(Value.slice la k c).ownBlock) w wa):=mK s.out R;have bn:Hid (wa.ownsRow 0 9 1 (.slice la k c) k (List.replicate k (.string M))):=aD;have bo:Hid (mh 9 (.string M) wa (a,k+1,d)):=aC;have al:Hid (xl la c w.heap.size (a,k+1,d)):=aE;clear aC aD R aE;go_wp2_with(at_builtin;refine gJ rfl (.tmp 30) (.tmp 33) 131 rfl 9 ac _ 16 Wx hi ad ae af rfl (.string M) rfl la k c rfl (pE bn.out _) (eI wa.heap.size 0) 2 2 (by decide) rfl (jF wa [.string M,.string M] 9) (by unfold maxLen;omega) (by omega) ?_);intro bW wb am aF D;obtain⟨p,r,rfl,aG⟩:=jG D (base:=w.heap.size) (by simp;omega);have bX:=om D;have bp:Hid (eA (fun x=>some x=(Value.slice la k c).ownBlock) w wb):=mK bm.out D;have bq:Hid (wb.ownsRow 0 9 1 (.slice la k c) k (List.replicate k (.string M))):=aF;have br:Hid (mh 9 (.string M) wb (a,k+1,d)):=oh (pE bo.out _) al.out ai.out D am (by show k+1<=_;omega);have bs:Hid (mh 9 (.string M) wb (p,k+2,r)):=am;have aH:Hid (xl la c w.heap.size (p,k+2,r)):=aG;clear am aF D aG;go_wp2_with(at_builtin;refine gJ rfl (.tmp 35) (.tmp 39) 131 rfl 9 ac _ 16 Wx hi ad ae af rfl (.string M) rfl la k c rfl (pE bq.out _) (eI wb.heap.size 0) 3 3 (by decide) rfl (jF wb [.string M,.string M,.string M] 9) (by unfold maxLen;omega) (by omega) ?_);intro bY wc S aI A;obtain⟨E,F,rfl,aJ⟩:=jG A (base:=w.heap.size) (by simp;omega);have bZ:=om A;have u:Hid (eA (fun x=>some x=(Value.slice la k c).ownBlock) w wc):=mK bp.out A;have bt:Hid (wc.ownsRow 0 9 1 (.slice la k c) k (List.replicate k (.string M))):=aI;have bu:Hid (mh 9 (.string M) wc (a,k+1,d)):=oh (pE br.out _) al.out ai.out A S (by show k+1<=_;omega);have bv:Hid (mh 9 (.string M) wc (p,k+2,r)):=oh (pE bs.out _) aH.out ai.out A S (by show k+2<=_;omega);have bw:Hid (mh 9 (.string M) wc (E,k+3,F)):=S;have bx:Hid (xl la c w.heap.size (E,k+3,F)):=aJ;clear S aI A aJ;have B:wc.heap[W]?=some (.cells cs 71 (0,0)):=by
    rw[u.out.block W (by omega) (fun e=>(aY.out W e.symm).2 rfl)];exact hW
   have T:Hid (wc.ownsRow 0 131 1 (.slice ea (4*q) ec) (4*q) (hs.map fP)):=eQ ag.out (fun g hg=>by
    have hl:=eK ag.out hg;exact u.out.block g (by omega) (fun e=>px ag.out O.out (by decide) hg e))
   have ca:W<wc.heap.size:=by omega
   have bz:wc.cell? (eI W 8)=some (.slice ea (4*q) ec):=by simp[World.cell?,B,I]
   have f8:wc.frozen? (eI W 8)=false:=by simp[World.frozen?,B]
   go_wp2_with(at_builtin;refine jp rfl (.tmp 45) (.tmp 47) 64 rfl 0 131 J _ 1 24 Tryz.underlying64 hS K L N rfl (by decide) (.slice ea (4*q) ec) (4*q) (hs.map fP) rfl (pE T.out _) (eI wc.heap.size 0) 1 1 [.slice la k c] rfl rfl (one_cell _ _ _ _ rfl) gI (by unfold maxLen;omega) (by omega) (tk _) ?_);intro cb C an U aK;obtain⟨aL,c1,rfl⟩:=fj an (by omega);have aM:=ma (i:=8) B T.out (by decide) (jz _ _) (by simp) ⟨rfl,rfl,rfl⟩ an U aK (by omega);have ao:=sq B (jz _ _) (by simp) U (fX T.out B (by decide));have cc:wc.heap.size<=C.heap.size:=by have:=U.size;simp at this;omega
   have bA:C.cell? (eI W 8)=some (.slice ea (4*q) ec):=by simp[World.cell?,ao,I]
   have f81:C.frozen? (eI W 8)=false:=by simp[World.frozen?,ao]
   have f:Hid _:=aM;have cd:W<C.heap.size:=by omega
   clear an U aK aM ao bz f8;go_wp2_with(at_builtin;refine jp rfl (.tmp 55) (.tmp 57) 64 rfl 0 131 J _ 1 24 Tryz.underlying64 hS K L N rfl (by decide) (.slice (some (eI aL 0)) (4*q+1) c1) (4*q+1) (hs.map fP++[.slice la k c]) rfl (pE f.out.2.1 _) (eI C.heap.size 0) 1 1 [.slice a (k+1) d] rfl rfl (one_cell _ _ _ _ (by simp)) gI (by unfold maxLen;omega) (by omega) (tk _) ?_);intro ce y ap V aN;obtain⟨aq,c2,rfl⟩:=fj ap (by omega);have aO:y.ownsRow 0 131 1 (.slice (some (eI aq 0)) (4*q+1+1) c2) (4*q+1+1) (hs.map fP++[.slice la k c]++[.slice a (k+1) d]):=by simpa using ap
   have aP:=ma (i:=8) f.out.1 f.out.2.1 (by decide) (jz _ _) (by simp) ⟨rfl,rfl,rfl⟩ aO V aN (by simp);have ar:=sq f.out.1 (jz _ _) (by simp) V (fX f.out.2.1 f.out.1 (by decide));have cf:C.heap.size<=y.heap.size:=by have:=V.size;simp at this;omega
   have bB:y.cell? (eI W 8)=some (.slice (some (eI aL 0)) (4*q+1) c1):=by simp[World.cell?,ar,aZ]
   have f82:y.frozen? (eI W 8)=false:=by simp[World.frozen?,ar]
   have n:Hid _:=aP;have cg:W<y.heap.size:=by omega
   clear ap aO V aN aP ar bA f81;go_wp2_with(at_builtin;refine jp rfl (.tmp 65) (.tmp 67) 64 rfl 0 131 J _ 1 24 Tryz.underlying64 hS K L N rfl (by decide) (.slice (some (eI aq 0)) (4*q+1+1) c2) (4*q+1+1) (hs.map fP++[.slice la k c]++[.slice a (k+1) d]) rfl (pE n.out.2.1 _) (eI y.heap.size 0) 1 1 [.slice p (k+2) r] rfl rfl (one_cell _ _ _ _ (by simp)) gI (by unfold maxLen;omega) (by omega) (tk _) ?_);intro ch w3 au X aQ;obtain⟨g3,c3,rfl⟩:=fj au (by omega);have aR:w3.ownsRow 0 131 1 (.slice (some (eI g3 0)) (4*q+1+1+1) c3) (4*q+1+1+1) (hs.map fP++[.slice la k c]++[.slice a (k+1) d]++[.slice p (k+2) r]):=by simpa using au
   have aS:=ma (i:=8) n.out.1 n.out.2.1 (by decide) (jz _ _) (by simp) ⟨rfl,rfl,rfl⟩ aR X aQ (by simp);have av:=sq n.out.1 (jz _ _) (by simp) X (fX n.out.2.1 n.out.1 (by decide));have ci:y.heap.size<=w3.heap.size:=by have:=X.size;simp at this;omega
   have bC:w3.cell? (eI W 8)=some (.slice (some (eI aq 0)) (4*q+1+1) c2):=by simp[World.cell?,av,ah]
   have f83:w3.frozen? (eI W 8)=false:=by simp[World.frozen?,av]
   have o:Hid _:=aS;have cj:W<w3.heap.size:=by omega
   clear au aR X aQ aS av bB f82;go_wp2_with(at_builtin;refine jp rfl (.tmp 75) (.tmp 77) 64 rfl 0 131 J _ 1 24 Tryz.underlying64 hS K L N rfl (by decide) (.slice (some (eI g3 0)) (4*q+1+1+1) c3) (4*q+1+1+1) (hs.map fP++[.slice la k c]++[.slice a (k+1) d]++[.slice p (k+2) r]) rfl (pE o.out.2.1 _) (eI w3.heap.size 0) 1 1 [.slice E (k+3) F] rfl rfl (one_cell _ _ _ _ (by simp)) gI (by unfold maxLen;omega) (by omega) (tk _) ?_);intro ck G aw ax aT;obtain⟨H,c4,rfl⟩:=fj aw (by omega);have aU:G.ownsRow 0 131 1 (.slice (some (eI H 0)) (4*q+1+1+1+1) c4) (4*q+1+1+1+1) (hs.map fP++[.slice la k c]++[.slice a (k+1) d]++[.slice p (k+2) r]++[.slice E (k+3) F]):=by simpa using aw
   have aV:=ma (i:=8) o.out.1 o.out.2.1 (by decide) (jz _ _) (by simp) ⟨rfl,rfl,rfl⟩ aU ax aT (by simp);have ay:=sq o.out.1 (jz _ _) (by simp) ax (fX o.out.2.1 o.out.1 (by decide));have cl:G.cell? (eI W 8)=some (.slice (some (eI g3 0)) (4*q+1+1+1) c3):=by simp[World.cell?,ay,ah]
   have f84:G.frozen? (eI W 8)=false:=by simp[World.frozen?,ay]
   have az:Hid _:=aV;clear aw aU ax aT aV ay bC f83;have bD:Hid (eA (fun x=>x=W\/some x=(Value.slice ea (4*q) ec).ownBlock\/some x=(Value.slice la k c).ownBlock) w wc):=
    ⟨u.out.os,u.out.tape,u.out.output,u.out.size,fun x hx hne=>u.out.block x hx (fun e=>hne (.inr (.inr e)))⟩
   have Y:=iG (t:=9) (by decide) (by decide) (by decide) B T.out (fun x hx=>.inl hx.symm) bD.out f.out;have Z:=iG (t:=9) (by decide) (by decide) (by decide) f.out.1 f.out.2.1 Y.1 Y.2.1 n.out;have aa:=iG (t:=9) (by decide) (by decide) (by decide) n.out.1 n.out.2.1 Z.1 Z.2.1 o.out;have ab:=iG (t:=9) (by decide) (by decide) (by decide) o.out.1 o.out.2.1 aa.1 aa.2.1 az.out;have bE:Hid (BB 9 131 (.string M) 8 w (G.setCell (eI W 8) (.slice (some (eI H 0)) (4*q+1+1+1+1) c4)) W q cs ea ec la k c hs):=by
    have all:∀{b:Nat} {v:Value} {l:Nat} {ys:fQ},wc.ownsRow b 9 1 v l ys->(G.setCell (eI W 8) (.slice (some (eI H 0)) (4*q+1+1+1+1) c4)).ownsRow b 9 1 v l ys:=fun h=>ab.2.2 (aa.2.2 (Z.2.2 (Y.2.2 h)));refine⟨H,c4,(a,k+1,d),(p,k+2,r),(E,k+3,F),?_,?_,rfl,rfl,rfl,?_,ab.1 H rfl,ab.2.1⟩
    ·have:=az.out.1
     simpa using this
    ·have:=az.out.2.1
     simpa [fP]using this
    ·intro h aW
     simp only[gU,KS,or_false]at aW;rcases aW with rfl|rfl|rfl|rfl
     ·exact⟨all bt.out,.inl ⟨rfl,rfl⟩⟩
     ·exact⟨all bu.out,al.out⟩
     ·exact⟨all bv.out,aH.out⟩
     ·exact⟨all bw.out,bx.out⟩
   clear Y Z aa ab;go_wp2;go_end0;exact⟨rfl,bE.out⟩
def fy (l:eL):Array Value:=#[.string (l.getD 0 ⟨#[]⟩),.string (l.getD 1 ⟨#[]⟩),.string (l.getD 2 ⟨#[]⟩),.string (l.getD 3 ⟨#[]⟩),.string (l.getD 4 ⟨#[]⟩)]
def ju (l:eL):Value:=.agg (fy l)
structure Good (l:eL):Prop where
 val:eH l
 len:l.length<=5
theorem Good.nil:Good []:=⟨fun x hx=>by simp at hx,by simp⟩
theorem Good.take{l:eL}(h:Good l)(k:Nat):Good (l.take k):=⟨fun x hx=>h.val x (zP hx),by have:=h.len;rw[gT];omega⟩
theorem Good.dropLast{l:eL}(h:Good l):Good l.dropLast:=by rw[List.dropLast_eq_take];exact h.take _
theorem qc:147<Tryz.prog.types.size:=wm (by kernel_rfl)
theorem Uq:Tryz.prog.keyTypeAt 9 147=true:=by kernel_rfl
theorem uS:Maps.Keyed Tryz.prog 147:=Maps.Keyed.of_law (deep_law_laid laidOut (m:=9) (by omega) qc Uq (by rw[WJ]))
theorem Ur:Tryz.prog.cellsOf 147=5:=by kernel_rfl
theorem div:Tryz.prog.keyType 147=true:=by kernel_rfl
theorem Qy{l:eL}(h:eH l)(i:Nat):(l.getD i hZ).size<=maxLen:=by
 rw[wh];by_cases hi:i<l.length
 ·rw[jy hi]
  have:=(wn (h _ (kj hi))).2
  show(l[i]).size<=maxLen;unfold maxLen;omega
 ·rw[oZ (by omega)];decide
theorem dk1(d:Nat)(l:eL)(h:eH l):∃b,Tryz.prog.keyLits (d+2) 147 (fy l).toList=some b:=by
 have a:∀i,Tryz.prog.keyLits (d+1) 9 [.string (l.getD i hZ)]=some [.string (l.getD i hZ).data.toList]:=fun i=>by
  have:=Qy h i
  generalize l.getD i hZ=x at this;unfold Program.keyLits;simp[Tryz.underlying9,this]
 obtain⟨ys,c⟩:=mapM_some (fun i=>Tryz.prog.keyLits (d+1) 9 (((fy l).toList.drop (i*1)).take 1)) (List.range 5) (by
  intro i hi;rw[List.mem_range]at hi;have key:((fy l).toList.drop (i*1)).take 1=[.string (l.getD i hZ)]:=by
   rcases(show i=0\/i=1\/i=2\/i=3\/i=4 by omega)with rfl|rfl|rfl|rfl|rfl<;>rfl
  rw[key];exact⟨_,a i⟩)
 refine⟨ys.flatten,?_⟩;have hl:(fy l).toList.length=5:=rfl;unfold Program.keyLits;simp only[Tryz.underlying147,Ur,hl,if_true,Tw,c,Option.map_some]
def lC (P:Program)(l:eL):Lit:=(keyOf P 147 (ju l)).getD .nil
theorem kK{l:eL}(h:eH l):keyOf Tryz.prog 147 (ju l)=some (lC Tryz.prog l):=by
 have hx:∃k,keyOf Tryz.prog 147 (ju l)=some k:=by
  have a:Value.formed Tryz.prog 147 (.agg (fy l))=true:=by
   unfold Value.formed;rw[WJ];simp[Ur,fy]
  obtain⟨n,hn⟩:∃n,Tryz.prog.types.size+1=n+2:=⟨Tryz.prog.types.size-1,by have:=qc;omega⟩;obtain⟨c,b⟩:=dk1 n l h;unfold keyOf ju;rw[WJ];simp only[div,a,Bool.and_self,KY,Value.cells,hn,b,mq];exact⟨_,rfl⟩
 obtain⟨k,hk⟩:=hx;unfold lC;rw[hk];rfl
theorem Ef{x:eD}(h:eG x=true):x≠hZ:=fun e=>by
 have:=(wn h).1
 rw[e]at this
 exact absurd this (by decide)
theorem Qz{p q:eL}(hp:Good p)(hq:Good q)(h:fy p=fy q):p=q:=by
 have key:∀i,i<5->p.getD i hZ=q.getD i hZ:=by
  intro i hi;unfold fy at h;simp only[KV,sG,Value.string.injEq,wC]at h;rcases(show i=0\/i=1\/i=2\/i=3\/i=4 by omega)with rfl|rfl|rfl|rfl|rfl
  ·exact h.1
  ·exact h.2.1
  ·exact h.2.2.1
  ·exact h.2.2.2.1
  ·exact h.2.2.2.2
 have c:=hp.len;have k5:=hq.len;apply KL;intro i;by_cases hi:i<5
 ·have k:=key i hi
  rw[wh,wh]at k;cases b:p[i]? with
  |none=>
   cases a:q[i]? with
   |none=>rfl
   |some y=>rw[b,a]at k;exact absurd k.symm (Ef (hq.val y (SK a)))
  |some x=>
   cases a:q[i]? with
   |none=>rw[b,a]at k;exact absurd k (Ef (hp.val x (SK b)))
   |some y=>rw[b,a]at k;exact xr some k
 ·rw[oZ (by omega),oZ (by omega)]
theorem qC{p q:eL}(hp:Good p)(hq:Good q)(h:lC Tryz.prog p=lC Tryz.prog q):p=q:=by
 have a:=kK hp.val;have b:=kK hq.val;rw[<-h]at b
 have:=uS.inj a b
 exact Qz hp hq (Value.agg.inj this)
theorem Oq{p:eL}(hp:Good p):WideAt.IsKeyLit (lC Tryz.prog p):=uS.key (kK hp.val)
theorem yr{p q:eL}(hp:Good p)(hq:Good q)(w:World):(Op.equal 147 (ju p) (ju q)).run Tryz.prog w=.ok (decide (p=q)) w:=by
 obtain⟨r,hr,a⟩:=run_equal_deep w (m:=9) (by omega) Uq (by rw[WJ]) (kK hp.val) (kK hq.val);rw[hr]
 have:r=decide (p=q):=by
  by_cases e:p=q
  ·subst e;rw[mz rfl];exact a.2 rfl
  ·rw[rk e]
   cases b:r with
   |false=>rfl
   |true=>exact absurd (qC hp hq (a.1 b)) e
 rw[this]
theorem PP{x:eD}(h:eG x=true):(x.toList==[])=false:=EX.2 fun e=>by
 have h1:=(wn h).1
 rw[gF]at e
 have h2:=xr List.length e
 rw[pm,wA]at h2
 omega
theorem ut(w:World):gc 75 #[] w (pB (ju []) w):=by
 go_enter Tryz.func75,Tryz.ntmps75;go_wp2;exact lF (v:=ju []) (by simp[results,Tryz.results75,go_sem,ju,fy]) rfl ⟨rfl,by repeat(first|exact lh _ _|(refine SL ?_ (by simp) _)|(refine qZ ?_ (by simp) _))⟩
theorem QA(c0 c1 c2 c3 c4:Value)(w:World):(Instr.index 147 (.agg #[c0,c1,c2,c3,c4]) (eJ 0)).run Tryz.prog w=.ok c0 w:=by kernel_rfl
theorem QB(c0 c1 c2 c3 c4:Value)(w:World):(Instr.index 147 (.agg #[c0,c1,c2,c3,c4]) (eJ 1)).run Tryz.prog w=.ok c1 w:=by kernel_rfl
theorem QC(c0 c1 c2 c3 c4:Value)(w:World):(Instr.index 147 (.agg #[c0,c1,c2,c3,c4]) (eJ 2)).run Tryz.prog w=.ok c2 w:=by kernel_rfl
theorem QD(c0 c1 c2 c3 c4:Value)(w:World):(Instr.index 147 (.agg #[c0,c1,c2,c3,c4]) (eJ 3)).run Tryz.prog w=.ok c3 w:=by kernel_rfl
theorem QE(c0 c1 c2 c3 c4:Value)(w:World):(Instr.index 147 (.agg #[c0,c1,c2,c3,c4]) (eJ 4)).run Tryz.prog w=.ok c4 w:=by kernel_rfl
theorem Xt  (w:World):gc 142 #[.agg (kq hZ hZ hZ hZ hZ)] w (pB (eJ 0) w):=by
 have a:=QA;have b:=QB;have c:=QC;have d:=QD;have e:=QE;go_enter Pv,Pu;go_wp2;refine KU 7 ?_;rw[pq];go_wp2;go_ret;exact⟨rfl,(lh _ _).alloc (kx _) _⟩
theorem Xu(a:eD)(h0:eG a=true)(w:World):gc 142 #[.agg (kq a hZ hZ hZ hZ)] w (pB (eJ 1) w):=by
 have b:=PP h0;have c:=QA;have d:=QB;have e:=QC;have f:=QD;have g:=QE;clear h0;go_enter Pv,Pu;go_wp2;refine KU 7 ?_;rw[pq];go_wp2;rw[pq];go_wp2;go_ret;exact⟨rfl,(lh _ _).alloc (kx _) _⟩
theorem Xv(a b:eD)(h0:eG a=true)(h1:eG b=true)(w:World):gc 142 #[.agg (kq a b hZ hZ hZ)] w (pB (eJ 2) w):=by
 have c:=PP h0;have d:=PP h1;have e:=QA;have f:=QB;have g:=QC;have h:=QD;have i:=QE;clear h0 h1;go_enter Pv,Pu;go_wp2;refine KU 7 ?_;rw[pq];go_wp2;rw[pq];go_wp2;rw[pq];go_wp2;go_ret;exact⟨rfl,(lh _ _).alloc (kx _) _⟩
theorem Xw(a b c:eD)(h0:eG a=true)(h1:eG b=true)(h2:eG c=true)(w:World):gc 142 #[.agg (kq a b c hZ hZ)] w (pB (eJ 3) w):=by
 have d:=PP h0;have e:=PP h1;have e2:=PP h2;have f:=QA;have g:=QB;have h:=QC;have i:=QD;have j:=QE;clear h0 h1 h2;go_enter Pv,Pu;go_wp2;refine KU 7 ?_;rw[pq];go_wp2;rw[pq];go_wp2;rw[pq];go_wp2;rw[pq];go_wp2;go_ret;exact⟨rfl,(lh _ _).alloc (kx _) _⟩
theorem Xx(a b c d:eD)(h0:eG a=true)(h1:eG b=true)(h2:eG c=true)(h3:eG d=true)(w:World):gc 142 #[.agg (kq a b c d hZ)] w (pB (eJ 4) w):=by
 have e:=PP h0;have f:=PP h1;have e2:=PP h2;have g:=PP h3;have h:=QA;have i:=QB;have j:=QC;have k:=QD;have l:=QE;clear h0 h1 h2 h3;go_enter Pv,Pu;go_wp2;refine KU 7 ?_;rw[pq];go_wp2;rw[pq];go_wp2;rw[pq];go_wp2;rw[pq];go_wp2;rw[pq];go_wp2;go_ret;exact⟨rfl,(lh _ _).alloc (kx _) _⟩
theorem Xy(a b c d e:eD)(h0:eG a=true)(h1:eG b=true)(h2:eG c=true)(h3:eG d=true)(f:eG e=true)(w:World):gc 142 #[.agg (kq a b c d e)] w (pB (eJ 5) w):=by
 have g:=PP h0;have h:=PP h1;have e2:=PP h2;have i:=PP h3;have j:=PP f;have k:=QA;have l:=QB;have m:=QC;have n:=QD;have o:=QE;clear h0 h1 h2 h3 f;go_enter Pv,Pu;go_wp2;refine KU 7 ?_;rw[pq];go_wp2;rw[pq];go_wp2;rw[pq];go_wp2;rw[pq];go_wp2;rw[pq];go_wp2;rw[pq];go_wp2;go_ret;exact⟨rfl,(lh _ _).alloc (kx _) _⟩
theorem mL(l:eL)(hv:eH l)(e:l.length<=5)(w:World):gc 142 #[ju l] w (pB (eJ (l.length:Int)) w):=by
 match l,hv,e with
 |[],hv,_=>exact Xt  w
 |[a],hv,_=>exact Xu a (hv a (by simp)) w
 |[a,b],hv,_=>exact Xv a b (hv a (by simp)) (hv b (by simp)) w
 |[a,b,c],hv,_=>exact Xw a b c (hv a (by simp)) (hv b (by simp)) (hv c (by simp)) w
 |[a,b,c,d],hv,_=>exact Xx a b c d (hv a (by simp)) (hv b (by simp)) (hv c (by simp)) (hv d (by simp)) w
 |[a,b,c,d,f],hv,_=>exact Xy a b c d f (hv a (by simp)) (hv b (by simp)) (hv c (by simp)) (hv d (by simp)) (hv f (by simp)) w
 |_::_::_::_::_::_::_,_,e=>exact absurd e (by simp)
theorem nS(w:World):(zeroValue 9).run Tryz.prog w=.ok (.string hZ) w:=by kernel_rfl
theorem Us(a c d e f:eD)(w:World):gc 188 #[.agg #[.string a,.string c,.string d,.string e,.string f],eJ (-1)] w (pB (.agg #[.string hZ,.string hZ,.string hZ,.string hZ,.string hZ]) w):=by
 have h:∀g,(Builtin.clear_ #[131] g #[.slice (some (eI w.heap.size 0)) 5 5]).run Tryz.prog ((w.alloc (.cells #[.string a,.string c,.string d,.string e,.string f] 147)).alloc (.cells #[.string hZ,.string hZ,.string hZ,.string hZ,.string hZ] 147))=.ok (.tuple #[]) (((((((w.alloc (.cells #[.string a,.string c,.string d,.string e,.string f] 147)).alloc (.cells #[.string hZ,.string hZ,.string hZ,.string hZ,.string hZ] 147)).setCell (eI w.heap.size 0) (.string hZ)).setCell (eI w.heap.size 1) (.string hZ)).setCell (eI w.heap.size 2) (.string hZ)).setCell (eI w.heap.size 3) (.string hZ)).setCell (eI w.heap.size 4) (.string hZ)):=
  fun g=>Lib.run_clear_slice _ 131 9 g (.string hZ) Tryz.underlying131 nS rfl rfl w.heap.size 0 5 5 (by omega)
   (fun j hj=>by rcases(show j=0\/j=1\/j=2\/j=3\/j=4 by omega)with rfl|rfl|rfl|rfl|rfl<;>first|omega|simp[World.cell?_alloc_past])
   (fun j hj=>by rcases(show j=0\/j=1\/j=2\/j=3\/j=4 by omega)with rfl|rfl|rfl|rfl|rfl<;>first|omega|simp[World.frozen?_alloc_past])
 have i:max (-1:Int) 0=0:=rfl;have k:∀(b:Nat) (W:World),(Instr.sliceAt 147 (hh b) (some (eJ 0)) none none).run Tryz.prog W=.ok (.slice (some (eI b 0)) 5 5) W:=fun b W=>by kernel_rfl
 go_enter Tryz.func188,Tryz.ntmps188;go_wp2_with(first|simp only[i]|simp only[k]|simp only[h]);exact bodyPost_ret (v:=.agg #[.string hZ,.string hZ,.string hZ,.string hZ,.string hZ]) (by simp[results,Tryz.results188,go_sem]) rfl ⟨rfl,by repeat(first|exact Below.refl _ _|(refine Below.alloc ?_ (by simp) _)|(refine Below.setCell ?_ (by simp) _))⟩
theorem ZA(a c d e f:eD)(w:World):gc 188 #[.agg #[.string a,.string c,.string d,.string e,.string f],eJ 0] w (pB (.agg #[.string hZ,.string hZ,.string hZ,.string hZ,.string hZ]) w):=by
 have h:∀g,(Builtin.clear_ #[131] g #[.slice (some (eI w.heap.size 0)) 5 5]).run Tryz.prog ((w.alloc (.cells #[.string a,.string c,.string d,.string e,.string f] 147)).alloc (.cells #[.string hZ,.string hZ,.string hZ,.string hZ,.string hZ] 147))=.ok (.tuple #[]) (((((((w.alloc (.cells #[.string a,.string c,.string d,.string e,.string f] 147)).alloc (.cells #[.string hZ,.string hZ,.string hZ,.string hZ,.string hZ] 147)).setCell (eI w.heap.size 0) (.string hZ)).setCell (eI w.heap.size 1) (.string hZ)).setCell (eI w.heap.size 2) (.string hZ)).setCell (eI w.heap.size 3) (.string hZ)).setCell (eI w.heap.size 4) (.string hZ)):=
  fun g=>Lib.run_clear_slice _ 131 9 g (.string hZ) Tryz.underlying131 nS rfl rfl w.heap.size 0 5 5 (by omega)
   (fun j hj=>by rcases(show j=0\/j=1\/j=2\/j=3\/j=4 by omega)with rfl|rfl|rfl|rfl|rfl<;>first|omega|simp[World.cell?_alloc_past])
   (fun j hj=>by rcases(show j=0\/j=1\/j=2\/j=3\/j=4 by omega)with rfl|rfl|rfl|rfl|rfl<;>first|omega|simp[World.frozen?_alloc_past])
 have i:max (0:Int) 0=0:=rfl;have k:∀(b:Nat) (W:World),(Instr.sliceAt 147 (hh b) (some (eJ 0)) none none).run Tryz.prog W=.ok (.slice (some (eI b 0)) 5 5) W:=fun b W=>by kernel_rfl
 go_enter Tryz.func188,Tryz.ntmps188;go_wp2_with(first|simp only[i]|simp only[k]|simp only[h]);exact bodyPost_ret (v:=.agg #[.string hZ,.string hZ,.string hZ,.string hZ,.string hZ]) (by simp[results,Tryz.results188,go_sem]) rfl ⟨rfl,by repeat(first|exact Below.refl _ _|(refine Below.alloc ?_ (by simp) _)|(refine Below.setCell ?_ (by simp) _))⟩
theorem ZB(a c d e f:eD)(w:World):gc 188 #[.agg #[.string a,.string c,.string d,.string e,.string f],eJ 1] w (pB (.agg #[.string a,.string hZ,.string hZ,.string hZ,.string hZ]) w):=by
 have h:∀g,(Builtin.clear_ #[131] g #[.slice (some (eI w.heap.size 1)) 4 4]).run Tryz.prog ((w.alloc (.cells #[.string a,.string c,.string d,.string e,.string f] 147)).alloc (.cells #[.string hZ,.string hZ,.string hZ,.string hZ,.string hZ] 147))=.ok (.tuple #[]) ((((((w.alloc (.cells #[.string a,.string c,.string d,.string e,.string f] 147)).alloc (.cells #[.string hZ,.string hZ,.string hZ,.string hZ,.string hZ] 147)).setCell (eI w.heap.size 1) (.string hZ)).setCell (eI w.heap.size 2) (.string hZ)).setCell (eI w.heap.size 3) (.string hZ)).setCell (eI w.heap.size 4) (.string hZ)):=
  fun g=>Lib.run_clear_slice _ 131 9 g (.string hZ) Tryz.underlying131 nS rfl rfl w.heap.size 1 4 4 (by omega)
   (fun j hj=>by rcases(show j=0\/j=1\/j=2\/j=3\/j=4 by omega)with rfl|rfl|rfl|rfl|rfl<;>first|omega|simp[World.cell?_alloc_past])
   (fun j hj=>by rcases(show j=0\/j=1\/j=2\/j=3\/j=4 by omega)with rfl|rfl|rfl|rfl|rfl<;>first|omega|simp[World.frozen?_alloc_past])
 have i:max (1:Int) 0=1:=rfl;have k:∀(b:Nat) (W:World),(Instr.sliceAt 147 (hh b) (some (eJ 1)) none none).run Tryz.prog W=.ok (.slice (some (eI b 1)) 4 4) W:=fun b W=>by kernel_rfl
 go_enter Tryz.func188,Tryz.ntmps188;go_wp2_with(first|simp only[i]|simp only[k]|simp only[h]);exact bodyPost_ret (v:=.agg #[.string a,.string hZ,.string hZ,.string hZ,.string hZ]) (by simp[results,Tryz.results188,go_sem]) rfl ⟨rfl,by repeat(first|exact Below.refl _ _|(refine Below.alloc ?_ (by simp) _)|(refine Below.setCell ?_ (by simp) _))⟩
theorem ZC(a c d e f:eD)(w:World):gc 188 #[.agg #[.string a,.string c,.string d,.string e,.string f],eJ 2] w (pB (.agg #[.string a,.string c,.string hZ,.string hZ,.string hZ]) w):=by
 have h:∀g,(Builtin.clear_ #[131] g #[.slice (some (eI w.heap.size 2)) 3 3]).run Tryz.prog ((w.alloc (.cells #[.string a,.string c,.string d,.string e,.string f] 147)).alloc (.cells #[.string hZ,.string hZ,.string hZ,.string hZ,.string hZ] 147))=.ok (.tuple #[]) (((((w.alloc (.cells #[.string a,.string c,.string d,.string e,.string f] 147)).alloc (.cells #[.string hZ,.string hZ,.string hZ,.string hZ,.string hZ] 147)).setCell (eI w.heap.size 2) (.string hZ)).setCell (eI w.heap.size 3) (.string hZ)).setCell (eI w.heap.size 4) (.string hZ)):=
  fun g=>Lib.run_clear_slice _ 131 9 g (.string hZ) Tryz.underlying131 nS rfl rfl w.heap.size 2 3 3 (by omega)
   (fun j hj=>by rcases(show j=0\/j=1\/j=2\/j=3\/j=4 by omega)with rfl|rfl|rfl|rfl|rfl<;>first|omega|simp[World.cell?_alloc_past])
   (fun j hj=>by rcases(show j=0\/j=1\/j=2\/j=3\/j=4 by omega)with rfl|rfl|rfl|rfl|rfl<;>first|omega|simp[World.frozen?_alloc_past])
 have i:max (2:Int) 0=2:=rfl;have k:∀(b:Nat) (W:World),(Instr.sliceAt 147 (hh b) (some (eJ 2)) none none).run Tryz.prog W=.ok (.slice (some (eI b 2)) 3 3) W:=fun b W=>by kernel_rfl
 go_enter Tryz.func188,Tryz.ntmps188;go_wp2_with(first|simp only[i]|simp only[k]|simp only[h]);exact bodyPost_ret (v:=.agg #[.string a,.string c,.string hZ,.string hZ,.string hZ]) (by simp[results,Tryz.results188,go_sem]) rfl ⟨rfl,by repeat(first|exact Below.refl _ _|(refine Below.alloc ?_ (by simp) _)|(refine Below.setCell ?_ (by simp) _))⟩
theorem ZE(a c d e f:eD)(w:World):gc 188 #[.agg #[.string a,.string c,.string d,.string e,.string f],eJ 3] w (pB (.agg #[.string a,.string c,.string d,.string hZ,.string hZ]) w):=by
 have h:∀g,(Builtin.clear_ #[131] g #[.slice (some (eI w.heap.size 3)) 2 2]).run Tryz.prog ((w.alloc (.cells #[.string a,.string c,.string d,.string e,.string f] 147)).alloc (.cells #[.string hZ,.string hZ,.string hZ,.string hZ,.string hZ] 147))=.ok (.tuple #[]) ((((w.alloc (.cells #[.string a,.string c,.string d,.string e,.string f] 147)).alloc (.cells #[.string hZ,.string hZ,.string hZ,.string hZ,.string hZ] 147)).setCell (eI w.heap.size 3) (.string hZ)).setCell (eI w.heap.size 4) (.string hZ)):=
  fun g=>Lib.run_clear_slice _ 131 9 g (.string hZ) Tryz.underlying131 nS rfl rfl w.heap.size 3 2 2 (by omega)
   (fun j hj=>by rcases(show j=0\/j=1\/j=2\/j=3\/j=4 by omega)with rfl|rfl|rfl|rfl|rfl<;>first|omega|simp[World.cell?_alloc_past])
   (fun j hj=>by rcases(show j=0\/j=1\/j=2\/j=3\/j=4 by omega)with rfl|rfl|rfl|rfl|rfl<;>first|omega|simp[World.frozen?_alloc_past])
 have i:max (3:Int) 0=3:=rfl;have k:∀(b:Nat) (W:World),(Instr.sliceAt 147 (hh b) (some (eJ 3)) none none).run Tryz.prog W=.ok (.slice (some (eI b 3)) 2 2) W:=fun b W=>by kernel_rfl
 go_enter Tryz.func188,Tryz.ntmps188;go_wp2_with(first|simp only[i]|simp only[k]|simp only[h]);exact bodyPost_ret (v:=.agg #[.string a,.string c,.string d,.string hZ,.string hZ]) (by simp[results,Tryz.results188,go_sem]) rfl ⟨rfl,by repeat(first|exact Below.refl _ _|(refine Below.alloc ?_ (by simp) _)|(refine Below.setCell ?_ (by simp) _))⟩
theorem ZF(a c d e f:eD)(w:World):gc 188 #[.agg #[.string a,.string c,.string d,.string e,.string f],eJ 4] w (pB (.agg #[.string a,.string c,.string d,.string e,.string hZ]) w):=by
 have h:∀g,(Builtin.clear_ #[131] g #[.slice (some (eI w.heap.size 4)) 1 1]).run Tryz.prog ((w.alloc (.cells #[.string a,.string c,.string d,.string e,.string f] 147)).alloc (.cells #[.string hZ,.string hZ,.string hZ,.string hZ,.string hZ] 147))=.ok (.tuple #[]) (((w.alloc (.cells #[.string a,.string c,.string d,.string e,.string f] 147)).alloc (.cells #[.string hZ,.string hZ,.string hZ,.string hZ,.string hZ] 147)).setCell (eI w.heap.size 4) (.string hZ)):=
  fun g=>Lib.run_clear_slice _ 131 9 g (.string hZ) Tryz.underlying131 nS rfl rfl w.heap.size 4 1 1 (by omega)
   (fun j hj=>by rcases(show j=0\/j=1\/j=2\/j=3\/j=4 by omega)with rfl|rfl|rfl|rfl|rfl<;>first|omega|simp[World.cell?_alloc_past])
   (fun j hj=>by rcases(show j=0\/j=1\/j=2\/j=3\/j=4 by omega)with rfl|rfl|rfl|rfl|rfl<;>first|omega|simp[World.frozen?_alloc_past])
 have i:max (4:Int) 0=4:=rfl;have k:∀(b:Nat) (W:World),(Instr.sliceAt 147 (hh b) (some (eJ 4)) none none).run Tryz.prog W=.ok (.slice (some (eI b 4)) 1 1) W:=fun b W=>by kernel_rfl
 go_enter Tryz.func188,Tryz.ntmps188;go_wp2_with(first|simp only[i]|simp only[k]|simp only[h]);exact bodyPost_ret (v:=.agg #[.string a,.string c,.string d,.string e,.string hZ]) (by simp[results,Tryz.results188,go_sem]) rfl ⟨rfl,by repeat(first|exact Below.refl _ _|(refine Below.alloc ?_ (by simp) _)|(refine Below.setCell ?_ (by simp) _))⟩
theorem ZG(a c d e f:eD)(w:World):gc 188 #[.agg #[.string a,.string c,.string d,.string e,.string f],eJ 5] w (pB (.agg #[.string a,.string c,.string d,.string e,.string f]) w):=by
 have h:∀g W,(Builtin.clear_ #[131] g #[.slice (some (eI w.heap.size 0)) 0 0]).run Tryz.prog W=.ok (.tuple #[]) W:=fun g W=>by simp[Builtin.clear_,run_underlying Tryz.underlying131]
 have i:max (5:Int) 0=5:=rfl;have j:∀(b:Nat) (W:World),(Instr.sliceAt 147 (hh b) (some (eJ 5)) none none).run Tryz.prog W=.ok (.slice (some (eI b 0)) 0 0) W:=fun b W=>by kernel_rfl
 go_enter Tryz.func188,Tryz.ntmps188;go_wp2_with(first|simp only[i]|simp only[j]|simp only[h]);exact bodyPost_ret (v:=.agg #[.string a,.string c,.string d,.string e,.string f]) (by simp[results,Tryz.results188,go_sem]) rfl ⟨rfl,by repeat(first|exact Below.refl _ _|(refine Below.alloc ?_ (by simp) _)|(refine Below.setCell ?_ (by simp) _))⟩
theorem Jg(l:eL)(a:l.length<=5)(n:Nat)(hn:n<=5)(w:World):gc 188 #[ju l,eJ (n:Int)] w (pB (ju (l.take n)) w):=by
 have key:∀i,(l.take n).getD i hZ=if i<n then l.getD i hZ else hZ:=by
  intro i;rw[wh,wh,Ap];split<;>rfl
 unfold ju fy;simp only[key];rcases(show n=0\/n=1\/n=2\/n=3\/n=4\/n=5 by omega)with rfl|rfl|rfl|rfl|rfl|rfl
 ·exact ZA _ _ _ _ _ w
 ·exact ZB _ _ _ _ _ w
 ·exact ZC _ _ _ _ _ w
 ·exact ZE _ _ _ _ _ w
 ·exact ZF _ _ _ _ _ w
 ·exact ZG _ _ _ _ _ w
theorem QF(l:eL)(w:World):gc 188 #[ju l,eJ (-1)] w (pB (ju []) w):=Us _ _ _ _ _ w
theorem ii{W a:World}(c:ik W a):(∀b o,b<W.heap.size->a.cell? (eI b o)=W.cell? (eI b o))/\(∀b o,b<W.heap.size->a.frozen? (eI b o)=W.frozen? (eI b o)):=
 ⟨fun b o h=>c.cell (p:=(eI b o)) h,fun b o h=>c.frozen (p:=(eI b o)) h⟩
theorem gS{n:Nat}{w W:World}(h:Below n w W):Below n w W.drew:=⟨h.os,h.tape,h.output,h.size,h.block⟩
theorem fx{w W a:World}(h0:ik w W)(h:ik W a):ik w a:=h0.trans (h.mono h0.size)
theorem qD{w a:World}{b o2:Obj}(h:Below ((w.alloc b).alloc o2).drew.heap.size ((w.alloc b).alloc o2).drew a):w.heap.size<a.heap.size/\w.heap.size+1<a.heap.size:=by
 have h2:((w.alloc b).alloc o2).heap.size<=a.heap.size:=h.size;rw[sr,sr]at h2;omega
theorem zj(a b c d f g h i j k:eD)(n m:Int)(w:World)(hm:IntKind.i64.wrap (n-1)=m)
  (hd:∀W,gc 142 #[.agg (kq a b c d f)] W (pB (eJ n) W))
  (p:∀W,gc 188 #[.agg (kq a b c d f),eJ m] W (pB (.agg (kq g h i j k)) W)):
  gc 132 #[.agg (kq a b c d f)] w (pB (.agg (kq g h i j k)) w):=by
 go_enter Tryz.func132,Tryz.ntmps132;go_wp2
 go_region_with(first
  |(go_at_call 142;refine(hd _).mono ?_;rintro e q ⟨rfl,l⟩;obtain⟨r,x⟩:=ii l;obtain⟨y,s⟩:=qD l)
  |(go_at_call 188;refine(p _).mono ?_;rintro e t ⟨rfl,o⟩;obtain⟨u,z⟩:=ii o))
 all_goals
  go_wp2;exact lF (v:=.agg (kq g h i j k)) (by simp[results,Tryz.results132,go_sem,r,u,s]) rfl ⟨rfl,by
   have h1:ik w q:=fx (gS (((lh _ _).alloc (kx _) _).alloc (by simp) _)) l;have h2:ik w t:=h1.trans (o.mono (by omega))
   repeat(first|exact h2|(refine qZ ?_ (by simp) _))⟩
theorem jr{w a:World}{b:Obj}(h:Below (w.alloc b).drew.heap.size (w.alloc b).drew a):w.heap.size<a.heap.size:=by
 have h2:(w.alloc b).heap.size<=a.heap.size:=h.size;rw[sr]at h2;omega
theorem ZH(a b c d f:eD)(w:World)
  (heq:∀W,(Op.equalIn 10000 147 (.agg (kq a b c d f)) (.agg (kq hZ hZ hZ hZ hZ))).run Tryz.prog W=.ok false W)
  (hd:∀W,gc 142 #[.agg (kq a b c d f)] W (pB (eJ 1) W)):
  gc 134 #[.agg (kq a b c d f)] w (pB (.string a) w):=by
 have g:=fun W=>ut W;unfold ju fy at g;simp only[nN]at g;go_enter Tryz.func134,Tryz.ntmps134;go_wp2
 go_region_with(first
  |(go_at_call 75;refine(g _).mono ?_;rintro e j ⟨rfl,h⟩;obtain⟨k,l⟩:=ii h;have m:=jr h))
 all_goals
  go_wp2_with(go_at_call 142;refine(hd _).mono ?_;rintro e n ⟨rfl,i⟩;obtain⟨o,p⟩:=ii i);go_ret;exact⟨rfl,fx (fx (gS ((lh _ _).alloc (kx _) _)) h) i⟩
theorem ZI(b a c d f:eD)(w:World)
  (heq:∀W,(Op.equalIn 10000 147 (.agg (kq b a c d f)) (.agg (kq hZ hZ hZ hZ hZ))).run Tryz.prog W=.ok false W)
  (hd:∀W,gc 142 #[.agg (kq b a c d f)] W (pB (eJ 2) W)):
  gc 134 #[.agg (kq b a c d f)] w (pB (.string a) w):=by
 have g:=fun W=>ut W;unfold ju fy at g;simp only[nN]at g;go_enter Tryz.func134,Tryz.ntmps134;go_wp2
 go_region_with(first
  |(go_at_call 75;refine(g _).mono ?_;rintro e j ⟨rfl,h⟩;obtain⟨k,l⟩:=ii h;have m:=jr h))
 all_goals
  go_wp2_with(go_at_call 142;refine(hd _).mono ?_;rintro e n ⟨rfl,i⟩;obtain⟨o,p⟩:=ii i);go_ret;exact⟨rfl,fx (fx (gS ((lh _ _).alloc (kx _) _)) h) i⟩
theorem name_3(b c a d f:eD)(w:World)
  (heq:∀W,(Op.equalIn 10000 147 (.agg (kq b c a d f)) (.agg (kq hZ hZ hZ hZ hZ))).run Tryz.prog W=.ok false W)
  (hd:∀W,gc 142 #[.agg (kq b c a d f)] W (pB (eJ 3) W)):
  gc 134 #[.agg (kq b c a d f)] w (pB (.string a) w):=by
 have g:=fun W=>ut W;unfold ju fy at g;simp only[nN]at g;go_enter Tryz.func134,Tryz.ntmps134;go_wp2
 go_region_with(first
  |(go_at_call 75;refine(g _).mono ?_;rintro e j ⟨rfl,h⟩;obtain⟨k,l⟩:=ii h;have m:=jr h))
 all_goals
  go_wp2_with(go_at_call 142;refine(hd _).mono ?_;rintro e n ⟨rfl,i⟩;obtain⟨o,p⟩:=ii i);go_ret;exact⟨rfl,fx (fx (gS ((lh _ _).alloc (kx _) _)) h) i⟩
theorem ZJ(b c d a f:eD)(w:World)
  (heq:∀W,(Op.equalIn 10000 147 (.agg (kq b c d a f)) (.agg (kq hZ hZ hZ hZ hZ))).run Tryz.prog W=.ok false W)
  (hd:∀W,gc 142 #[.agg (kq b c d a f)] W (pB (eJ 4) W)):
  gc 134 #[.agg (kq b c d a f)] w (pB (.string a) w):=by
 have g:=fun W=>ut W;unfold ju fy at g;simp only[nN]at g;go_enter Tryz.func134,Tryz.ntmps134;go_wp2
 go_region_with(first
  |(go_at_call 75;refine(g _).mono ?_;rintro e j ⟨rfl,h⟩;obtain⟨k,l⟩:=ii h;have m:=jr h))
 all_goals
  go_wp2_with(go_at_call 142;refine(hd _).mono ?_;rintro e n ⟨rfl,i⟩;obtain⟨o,p⟩:=ii i);go_ret;exact⟨rfl,fx (fx (gS ((lh _ _).alloc (kx _) _)) h) i⟩
theorem ZK(b c d f a:eD)(w:World)
  (heq:∀W,(Op.equalIn 10000 147 (.agg (kq b c d f a)) (.agg (kq hZ hZ hZ hZ hZ))).run Tryz.prog W=.ok false W)
  (hd:∀W,gc 142 #[.agg (kq b c d f a)] W (pB (eJ 5) W)):
  gc 134 #[.agg (kq b c d f a)] w (pB (.string a) w):=by
 have g:=fun W=>ut W;unfold ju fy at g;simp only[nN]at g;go_enter Tryz.func134,Tryz.ntmps134;go_wp2
 go_region_with(first
  |(go_at_call 75;refine(g _).mono ?_;rintro e j ⟨rfl,h⟩;obtain⟨k,l⟩:=ii h;have m:=jr h))
 all_goals
  go_wp2_with(go_at_call 142;refine(hd _).mono ?_;rintro e n ⟨rfl,i⟩;obtain⟨o,p⟩:=ii i);go_ret;exact⟨rfl,fx (fx (gS ((lh _ _).alloc (kx _) _)) h) i⟩
theorem QG(l:eL)(h:l≠[]):l.getD (l.length-1) hZ=l.getLast h:=by
 rw[List.getLast_eq_getElem,wh,jy (by have:=Ho.2 h;omega)];rfl
theorem jY(l:eL)(hg:Good l)(h:l≠[])(w:World):gc 134 #[ju l] w (pB (.string (l.getLast h)) w):=by
 have heq:∀W,(Op.equalIn 10000 147 (ju l) (ju [])).run Tryz.prog W=.ok false W:=fun W=>by
  have:=yr hg Good.nil W
  rw[rk h]at this;exact this
 have hd:=fun W=>mL l hg.val hg.len W;have a:=hg.len;have hl:=Ho.2 h;rw[<-QG l h];generalize hn:l.length=k at hd a hl ⊢;unfold ju fy at heq hd ⊢;simp only[nN]at heq;rcases(show k=1\/k=2\/k=3\/k=4\/k=5 by omega)with rfl|rfl|rfl|rfl|rfl
 ·exact ZH _ _ _ _ _ w heq hd
 ·exact ZI _ _ _ _ _ w heq hd
 ·exact name_3 _ _ _ _ _ w heq hd
 ·exact ZJ _ _ _ _ _ w heq hd
 ·exact ZK _ _ _ _ _ w heq hd
theorem gp(l:eL)(hg:Good l)(w:World):gc 132 #[ju l] w (pB (ju l.dropLast) w):=by
 have hd:=fun W=>mL l hg.val hg.len W;have b:=hg.len;by_cases hl:l=[]
 ·subst hl
  have a:=fun W=>QF [] W;exact zj _ _ _ _ _ _ _ _ _ _ 0 (-1) w (by decide) hd a
 ·have hp:=Ho.2 hl
  have a:=fun W=>Jg l hg.len (l.length-1) (by omega) W;rw[<-List.dropLast_eq_take]at a;refine zj _ _ _ _ _ _ _ _ _ _ (l.length:Int) ((l.length-1:Nat):Int) w ?_ hd a;rcases(show l.length=1\/l.length=2\/l.length=3\/l.length=4\/l.length=5 by omega)with e|e|e|e|e<;>(rw[e];decide)
end Go.Proofs.YtlgidcmmgohagaaGreat
namespace Go.Proofs.YtlgidcmmgohagaaGreat
open Go.RowKit
set_option linter.unusedVariables false
set_option maxRecDepth 100000 in
set_option maxHeartbeats 400000 in
theorem Jh(b:Nat)(id:Int)(w:World):
  gc 211 #[hh b,eJ id] w fun e w'=>e=.returned (hh w.heap.size)/\w'=w.alloc (.cells #[hh b,eJ id,.string hZ] 308):=by
 go_enter Tryz.func211,Tryz.ntmps211;go_wp2;go_ret;exact⟨rfl,rfl⟩
set_option maxRecDepth 100000 in
set_option maxHeartbeats 400000 in
theorem LW(w:World):
  gc 210 #[] w fun e w'=>e=.returned (hh w.heap.size)/\w'=w.alloc (.cells #[.pointer none,eJ 0,.string hZ] 308):=by
 go_enter Tryz.func210,Tryz.ntmps210;go_wp2;go_ret;exact⟨rfl,rfl⟩
set_option maxRecDepth 100000 in
set_option maxHeartbeats 400000 in
theorem Ji(f:Nat)(v:Value)(d:eD)(x y z:Value)(w:World)(hf:f<w.heap.size)(c0:w.cell? (eI f 0)=some x)(c1:w.cell? (eI f 1)=some y)(c2:w.cell? (eI f 2)=some z)(f0:∀o,w.frozen? (eI f o)=false)
  (hc:(convert 204 9 v).run Tryz.prog w=.ok (.string d) w):
  gc 212 #[hh f,v] w fun e w'=>e=.returned (.tuple #[])/\w'=((w.setCell (eI f 0) (.pointer none)).setCell (eI f 1) (eJ 0)).setCell (eI f 2) (.string d):=by
 go_enter Tryz.func212,Tryz.ntmps212;go_wp2;go_end0;exact⟨rfl,rfl⟩
set_option maxRecDepth 100000 in
set_option maxHeartbeats 400000 in
theorem QH(o:Nat)(fg pl n:Int)(w:World)(c1:w.cell? (eI o 1)=some (eJ fg))(a:(bits BinOp.and IntKind.i64 fg 32 != 0)=true):
  gc 180 #[hh o,eJ n] w (Do (eJ n) w):=by
 go_enter Tryz.func180,Tryz.ntmps180;go_wp2;go_ret;exact⟨rfl,rfl⟩
end Go.Proofs.YtlgidcmmgohagaaGreat
