/- A part of the proof. -/
import Derived.Test.YtlgidcmmgohagaaGreatAllM17
import Derived.Test.YtlgidcmmgohagaaGreatAllM08
set_option linter.all false
namespace Go.Proofs.YtlgidcmmgohagaaGreat
open Go.RowKit Go.Sort Go.Shelf Go.Proofs.Tryz
open Go.Value renaming slice->fy,string->fA,pointer->fB,tuple->fC,agg->fD,bool->fE
open Go.Ending renaming returned->fF
open Option renaming some->fh,none->fj
open Bool renaming true->fm,false->fo
open Go renaming World->fq,Value->fu
open List renaming length->fv,reverse->fx
open Go.RowKit renaming Hid->fe
set_option maxRecDepth 100000
set_option maxHeartbeats 0
variable {s i p:Nat}{B:WB}{A:List Ob}
structure vX (D:Nat->Prop)(n:Nat)(W W':World):Prop where
 os:W'.os=W.os
 tape:W'.tape=W.tape
 output:W'.output=W.output
 size:W.heap.size<=W'.heap.size
 block:∀x,x<W.heap.size->(x<n\/D x)->W'.heap[x]?=W.heap[x]?
theorem vX.fK{c}{n}{W b}(a:ju W b):vX c n W b:=⟨a.os,a.tape,a.output,a.size,λx d _=>a.block x d⟩
def YS (a b c:Nat):Obj:=.cells #[fB<|fh ⟨a,0,fj⟩,fB<|fh ⟨b,0,fj⟩,.map<|fh c] 155
def YT (H a b c Z:fO):Obj:=.cells #[fA H,fA a,fA b,fA c,fA Z] 147
def Gl{w:fq}{b c d e:Nat}(a:w.heap[b]?=fh (YS c d e)):b<w.heap.size/\w.c b 0=fh (ii c)/\w.c b 1=fh (ii d)/\w.c b 2=fh (.map<|fh e):=⟨(lH.1 a).1,lf a 0,lf a 1,lf a 2⟩
def TE{w:fq}{b:Nat}{H c d e Z}(a:w.heap[b]?=fh (YT H c d e Z)):b<w.heap.size/\w.c b 0=fh (hZ H)/\w.c b 1=fh (hZ c)/\w.c b 2=fh (hZ d)/\w.c b 3=fh (hZ e)/\w.c b 4=fh (hZ Z):=⟨(lH.1 a).1,lf a 0,lf a 1,lf a 2,lf a 3,lf a 4⟩
structure sy (S:Nat->(Nat->Prop)->World->Prop)(n:Nat)(bo bp:Obj)(gE cE len:Nat)(E:Nat->List fV)(k:Nat)(D:Nat->Prop)(W:World):Prop where
 st:S k D W
 b0:W.heap[n]?=some bo
 b1:W.heap[n+1]?=some bp
 row:W.ownsRow 0 96 3 (.slice (some ⟨gE,0,none⟩) len cE) len (flat (E k))
 o:¬D n/\¬D (n+1)/\¬D gE
 ge:n+2<=gE
def sy.below{d:Nat->(Nat->Prop)->fq->Prop}{n}{f g}{h i len}{j:Nat->List fV}{k}{b}{W c}(a:sy d n f g h i len j k b W)(l:∀k b W c,d k b W->vX b n W c->d k b c)(e:ju W c):sy d n f g h i len j k b c:=
 ⟨l _ _ _ _ a.st<|.fK e,(e.block n (lH.1 a.b0).1).trans a.b0,(e.block _ (lH.1 a.b1).1).trans a.b1,gg a.row λm o=>e.block m<|gc a.row o,a.o,a.ge⟩
theorem sy.turn{h:Nat->(Nat->Prop)->fq->Prop}{n}{r s}{b l len}{d:Nat->List fV}{k}{g m}{W c}(a:sy h n r s b l len d k g W)(B:∀k g W c,h k g W->vX g n W c->h k g c)(f:sN g m W c)(C:h (k+1) m c)(F:k<len)(G:fv (d k)=len){id:Int}(t:d (k+1)=(d k).set k (((d k)[k]?).getD default |>.1,((d k)[k]?).getD default |>.2.1,id)):
  b<c.heap.size/\(∃x,c.c b (k*3+2)=fh x)/\c.frozen? (ie b<|k*3+2)=fo/\∀u,sy h n r s b l len d (k+1) m ((c.setCell (ie b<|k*3+2)<|fY id).drewN u):=by
 have v:=(lH.1 a.b0).1;have w:=(lH.1 a.b1).1;have j:b<W.heap.size:=gc a.row fX;have o:c.ownsRow 0 96 3 (my b 0 len l) len (flat<|d k):=gg a.row (λy z=>by
  obtain rfl:b=y:=by simpa [Value.ownBlock]using z
  exact f.keeps.block b j a.o.2.2)
 have p:k<fv (d k):=by omega
 have q:=(o.stored (k*3+2)<|fY id).1;rw[JQ p]at q;rw[jG p,jI]at t;rw[<-t]at q;have D:c.c b (k*3+2)=fh (fY ((d k)[k]).2.2):=by
  have:=ks o (k*3+2) (fY ((d k)[k]).2.2) (by rw[iO _ _ _ p<|by decide];rfl)
  grind
 have H:=a.ge;refine⟨nz j f.keeps.size,⟨_,D⟩,CZ o _,λu=>⟨?_,?_,?_,?_,⟨λi=>a.o.1<|f.own _ v i,λi=>a.o.2.1<|f.own _ w i,λi=>a.o.2.2<|f.own _ j i⟩,a.ge⟩⟩
 ·refine B _ _ _ _ C ⟨fX,fX,fX,?_,λx I E=>?_⟩
  ·all_goals simp_all
  show(c.setCell _ _).heap[x]?=_;refine sI _ _ _ _ (show x≠b from λe=>?_);rcases E with A|A
  omega;exact a.o.2.2<|f.own _ j (e▸A)
 show(c.setCell _ _).heap[n]?=_;rw[sI _ _ _ _ (show n≠b by omega),f.keeps.block n v a.o.1];exact a.b0;show(c.setCell _ _).heap[n+1]?=_;rw[sI _ _ _ _ (show n+1≠b by omega),f.keeps.block _ w a.o.2.1];exact a.b1;exact gg q λy z=>rfl
def sA (n m:Nat)(a b c:Nat)(H d e f Z g:fO)(h i:Int)(W:fq):Prop:=
 W.cell? ⟨n,0,fj⟩=fh (fB<|fh ⟨a,0,fj⟩)/\W.cell? ⟨n,1,fj⟩=fh (fB<|fh ⟨b,0,fj⟩)/\W.cell? ⟨n,2,fj⟩=fh (.map<|fh c)/\
 W.cell? ⟨n+1,0,fj⟩=fh (fA H)/\W.cell? ⟨n+1,1,fj⟩=fh (fA d)/\W.cell? ⟨n+1,2,fj⟩=fh (fA e)/\W.cell? ⟨n+1,3,fj⟩=fh (fA f)/\W.cell? ⟨n+1,4,fj⟩=fh (fA Z)/\
 W.cell? ⟨m,0,fj⟩=fh (fA g)/\W.cell? ⟨m,1,fj⟩=fh (.int .i64 h)/\W.cell? ⟨m,2,fj⟩=fh (.int .i64 i)
theorem sA.keep{n m c d e}{H f g h Z i}{j k:Int}{W b:fq}(l:sA n m c d e H f g h Z i j k W)(o:∀a,b.c n a=W.c n a)(p:∀a,b.c (n+1) a=W.c (n+1) a)(q:∀a,b.c m a=W.c m a):sA n m c d e H f g h Z i j k b:=by
 unfold sA at l |-
 grind
theorem TF{d:Nat->(Nat->Prop)->fq->Prop}{n}{e f g}{H h i j Z}{a l len}{b:Nat->List fV}{k}{m}{W}(c:sy d n (YS e f g) (YT H h i j Z) a l len b k m W)(o:k<fv (b k)):
  a<W.heap.size/\W.c a (k*3)=fh (hZ ((b k)[k]).1)/\W.c a (k*3+1)=fh (fY ((b k)[k]).2.1)/\W.c a (k*3+2)=fh (fY ((b k)[k]).2.2):=by
 have p:=ks c.row;obtain⟨c0,c1,c2⟩:=lr (off:=0) p o;rw[iR]at c0 c1 c2;exact⟨gc c.row fX,c0,c1,c2⟩
theorem YU(bt oD dr ow:Nat)(H s1 s2 s3 Z:ByteArray)(q:(List ByteArray))(v:Value)(es:List fV)(E:Nat->List fV)(r:Nat->Int)(rr:Int)(S:Nat->(Nat->Prop)->World->Prop)(R:World->Prop)(D0:Nat->Prop)(w:World)
  (hbt:bt<w.heap.size)(c8:w.cell? ⟨bt,8,none⟩=some (.map (some oD)))
  (hlk:∀W,Below w.heap.size w W->(Instr.lookup 162 (.map (some oD)) (.agg #[.string H,.string s1,.string s2,.string s3,.string Z]) false).run Tryz.prog W=.ok v W)
  (hrow:w.ownsRow 0 96 3 v es.length (flat es))(h16:es.length<=16)(hE0:E 0=es)(hEl:∀k,k<=es.length->(E k).length=es.length)(hEk:∀k(hk:k<es.length),(E k)[k]? = some es[k])(hEs:∀k(hk:k<es.length),E (k+1)=(E k).set k ((es[k]).1,(es[k]).2.1,r k))
  (hch:∀(x:ByteArray)W,x ∈ es.map (·.1)->Calls Tryz.prog 196 #[.agg #[.string H,.string s1,.string s2,.string s3,.string Z],.string x] W λe J=>e=.returned (.agg (jn (q ++ [x])))/\Below W.heap.size W J)
  (hS0:S 0 D0 w)(hD0:∀x,D0 x->x<w.heap.size)(qbv:∀k D W W',S k D W->vX D w.heap.size W W'->S k D W')(Rii:∀k D W,S k D W->∀x,D x->x<W.heap.size)
  (Rio:∀k(hk:k<es.length)D W,S k D W->Calls Tryz.prog 74 #[.agg #[.pointer (some ⟨bt,0,none⟩),.pointer (some ⟨dr,0,none⟩),.map (some ow)],.agg (jn (q ++ [(es[k]).1])),.agg #[.string (es[k]).1,.int .i64 (es[k]).2.1,.int .i64 (es[k]).2.2]] W λe J=>e=.returned (.int .i64 (r k))/\∃D',S (k+1) D' J/\sN D D' W J)
  (Roc:∀D W v',S es.length D W->W.ownsRow 0 96 3 v' es.length (flat (E es.length))->Calls Tryz.prog 199 #[.pointer (some ⟨dr,0,none⟩),v'] W λe J=>e=.returned (.int .i64 rr)/\R J):
  Calls Tryz.prog 147 #[.agg #[.pointer (some ⟨bt,0,none⟩),.pointer (some ⟨dr,0,none⟩),.map (some ow)],.agg #[.string H,.string s1,.string s2,.string s3,.string Z],.int .i64 2] w λe J=>e=.returned (.int .i64 rr)/\R J:=by
 obtain⟨hb0,hb1⟩:=rA w (.cells #[.pointer (some ⟨bt,0,none⟩),.pointer (some ⟨dr,0,none⟩),.map (some ow)] 155) (.cells #[.string H,.string s1,.string s2,.string s3,.string Z] 147);have hx0:=heap_alloc2_old w (.cells #[.pointer (some ⟨bt,0,none⟩),.pointer (some ⟨dr,0,none⟩),.map (some ow)] 155) (.cells #[.string H,.string s1,.string s2,.string s3,.string Z] 147);have hx1:=heap_alloc2_new w (.cells #[.pointer (some ⟨bt,0,none⟩),.pointer (some ⟨dr,0,none⟩),.map (some ow)] 155) (.cells #[.string H,.string s1,.string s2,.string s3,.string Z] 147);have hl:=hlk _ hb1;have hcl:=vR (w:=((w.alloc (.cells #[.pointer (some ⟨bt,0,none⟩),.pointer (some ⟨dr,0,none⟩),.map (some ow)] 155)).alloc (.cells #[.string H,.string s1,.string s2,.string s3,.string Z] 147)).drew) (gg hrow (λg hg=>hb1.block g (gc hrow hg))) h16;have HCL:Hid _:=hcl;have HX:Hid _:=And.intro hx0 (And.intro hx1 (And.intro hb0 hb1));have HCH:Hid _:=hch;have Roi:Hid _:=Rio;have Roo:Hid _:=Roc;have VI:Hid (∀k D W W',S k D W->vX D w.heap.size W W'->S k D W'):=qbv;have acK:Hid (∀k D W,S k D W->∀x,D x->x<W.heap.size):=Rii;have HE:Hid _:=And.intro hE0 (And.intro hEl (And.intro hEk hEs));have HS0:Hid _:=And.intro hS0 hD0;clear hlk hrow hcl hx0 hx1 hb0 hb1 hch Rio Roc qbv Rii hE0 hEl hEk hEs hS0 hD0;go_enter Tryz.func147,Tryz.ntmps147;go_wp2
 go_region_with (go_at_call 170;refine Calls.mono HCL.o ?_;rintro e w1 ⟨v',rfl,Kg,Rpc,hbc⟩)
 all_goals
  obtain⟨hE0,hEl,hEk,hEs⟩:=HE.o;obtain⟨hx0,hx1,hb0,hb1⟩:=HX.o;obtain⟨hS0,hD0⟩:=HS0.o;have hbw:Below w.heap.size w w1:=gS hb1 hbc;have hSw:S 0 D0 w1:=VI.o _ _ _ _ hS0 (.fK hbw);have hz2:w.heap.size+2<=w1.heap.size:=by have:=hbc.size;simpa using this
  have hk0:w1.heap[w.heap.size]? = some (YS bt dr ow):=(hbc.block w.heap.size (by simp;omega)).trans hx0;have hk1:w1.heap[w.heap.size+1]? = some (YT H s1 s2 s3 Z):=(hbc.block (w.heap.size+1) (by simp)).trans hx1;have hn0:¬D0 w.heap.size/\¬D0 (w.heap.size+1):=⟨λh=>by have:=hD0 _ h;omega,λh=>by have:=hD0 _ h;omega⟩;have Rxi:(v'=.slice none 0 0/\es.length=0)\/∃gE cE,v'=.slice (some ⟨gE,0,none⟩) es.length cE/\w.heap.size+2<=gE:=by
   rcases Kg.2 with ⟨e1,e2⟩ | ⟨g,c,cur,e1,_⟩
   ·exact .inl ⟨e1,e2⟩
   ·refine .inr ⟨g,c,e1,?_⟩
    have:=Rpc g (by rw[e1];rfl)
    simpa using this
  have HD0:Hid (∀x,w.heap.size<=x->¬D0 x):=λx hx h=>by have:=hD0 _ h;omega
  have hj1:Hid _:=Kg;have HK:Hid _:=And.intro hbw (And.intro hSw (And.intro hz2 (And.intro hk0 (And.intro hk1 hn0))));have HEE:Hid _:=And.intro hE0 (And.intro hEl (And.intro hEk hEs));clear hE0 hEl hEk hEs hx0 hx1 hb0 hb1 hS0 hD0 hbw hSw hz2 hk0 hk1 hn0 Kg Rpc hbc HX HCL HE HS0;rcases Rxi with ⟨rfl,rat⟩ | ⟨gE,cE,rfl,hgE⟩
  ·obtain⟨q0,q1,q2,q3⟩:=Gl HK.o.2.2.2.1
   have hd:=Roo.o D0 w1 (.slice none 0 0) (by rw[rat];exact HK.o.2.1) (by
    have h1:=hj1.o;have h2:E es.length=es:=by rw[rat];exact HEE.o.1
    rw[h2];exact h1)
   have HD:Hid _:=hd;clear hd HEE Roi HCH;go_wp2
   go_loopw [25] (λi wr=>i=.int .i64 0/\wr=w1) (λ_ _=>0)
   case atStart=>exact⟨rfl,rfl⟩
   case round=>
    obtain⟨rfl,rfl⟩:=hrel;go_wp2_with (go_at_call 199;refine Calls.mono HD.o ?_;rintro e w2 ⟨rfl,hR⟩);go_ret;exact⟨rfl,hR⟩
  ·have hst:sy S w.heap.size (YS bt dr ow) (YT H s1 s2 s3 Z) gE cE es.length E 0 D0 w1:=⟨HK.o.2.1,HK.o.2.2.2.1,HK.o.2.2.2.2.1,by rw[HEE.o.1];exact hj1.o,⟨HK.o.2.2.2.2.2.1,HK.o.2.2.2.2.2.2,HD0.o gE (by omega)⟩,hgE⟩
   have HST:Hid _:=hst;clear hst hj1 HK;go_wp2
   go_loopw [25] (λi wr=>∃k:Nat,k<=es.length/\i=.int .i64 k/\Hid (∃D,sy S w.heap.size (YS bt dr ow) (YT H s1 s2 s3 Z) gE cE es.length E k D wr)) (λi _=>es.length-(intOf i).toNat)
   case atStart=>exact⟨0,Nat.zero_le _,rfl,D0,HST.o⟩
   case round=>
    obtain⟨k,hk,rfl,HW⟩:=hrel;obtain⟨D,hW⟩:=HW.o;obtain⟨q0,q1,q2,q3⟩:=Gl hW.b0;obtain⟨p0,p1,p2,p3,p4,p5⟩:=TE hW.b1;by_cases hlt:k<es.length
    ·have hkl:k<(E k).length:=by rw[HEE.o.2.1 k hk];exact hlt
     obtain⟨hgl,e0,e1,e2⟩:=TF hW hkl;have hek:(E k)[k]=es[k]:=by
      have:=HEE.o.2.2.1 k hlt
      rw[List.getElem?_eq_getElem hkl] at this;exact Option.some.inj this
     rw[hek] at e0 e1 e2;have hcx:=λW=>HCH.o (es[k]).1 W (List.mem_map_of_mem (List.getElem_mem hlt))
     have hrx:=λW D hs=>Roi.o k hlt D W hs;have hturn:∀W W' D',Below wr.heap.size wr W->S (k+1) D' W'->sN D D' W W'->gE<W'.heap.size/\(∃x,W'.cell? ⟨gE,k*3+2,none⟩=some x)/\W'.frozen? ⟨gE,k*3+2,none⟩=false/\∀q,sy S w.heap.size (YS bt dr ow) (YT H s1 s2 s3 Z) gE cE es.length E (k+1) D' ((W'.setCell ⟨gE,k*3+2,none⟩ (.int .i64 (r k))).drewN q):=by
      intro W W' D' hb hs hT;refine sy.turn (hW.below VI.o hb) VI.o hT hs hlt (HEE.o.2.1 k hk) ?_;rw[HEE.o.2.2.1 k hlt];exact HEE.o.2.2.2 k hlt
     have Rxo:∀W,Below wr.heap.size wr W->S k D W:=λW hb=>(hW.below VI.o hb).st;have hzr:w.heap.size+2<=wr.heap.size:=by have:=hgl;have:=hW.ge;omega
     have hnD:¬D w.heap.size/\¬D (w.heap.size+1)/\¬D wr.heap.size:=⟨hW.o.1,hW.o.2.1,λh=>by have:=acK.o _ _ _ hW.st _ h;omega⟩;have hge:=hW.ge;have HRX:Hid _:=hrx;have HT:Hid _:=And.intro hturn (And.intro Rxo hnD);clear hrx hturn Rxo hek hW hnD;generalize r k=rk at HRX HT;generalize es[k]=x at e0 e1 e2 hcx HRX;obtain⟨xn,xk,xi⟩:=x;simp only at e0 e1 e2 hcx HRX;obtain⟨r0,r1,r2,r3,r4,hP'⟩:=sk (q ++ [xn]);rw[hP'] at hcx HRX;clear hP';have b0:Below wr.heap.size wr (wr.alloc (.cells #[.string xn,.int .i64 xk,.int .i64 xi] 96)).drew:=io ((Below.refl _ _).alloc (Nat.le_refl _) _);have Ab:sA w.heap.size wr.heap.size bt dr ow H s1 s2 s3 Z xn xk xi (wr.alloc (.cells #[.string xn,.int .i64 xk,.int .i64 xi] 96)).drew:=by
      refine⟨(b0.cell (p:=⟨w.heap.size,0,none⟩) q0).trans q1,(b0.cell (p:=⟨w.heap.size,1,none⟩) q0).trans q2,(b0.cell (p:=⟨w.heap.size,2,none⟩) q0).trans q3,(b0.cell (p:=⟨w.heap.size+1,0,none⟩) p0).trans p1,(b0.cell (p:=⟨w.heap.size+1,1,none⟩) p0).trans p2,(b0.cell (p:=⟨w.heap.size+1,2,none⟩) p0).trans p3,(b0.cell (p:=⟨w.heap.size+1,3,none⟩) p0).trans p4,(b0.cell (p:=⟨w.heap.size+1,4,none⟩) p0).trans p5,?_,?_,?_⟩
      ·exact lf (heap_alloc_new wr _) 0
      ·exact lf (heap_alloc_new wr _) 1
      ·exact lf (heap_alloc_new wr _) 2
     have hz0:wr.heap.size<(wr.alloc (.cells #[.string xn,.int .i64 xk,.int .i64 xi] 96)).drew.heap.size:=(by simp);go_wp2;unfold sA at Ab
     go_region_held3 (λW=>W.cell? ⟨w.heap.size,0,none⟩=some (.pointer (some ⟨bt,0,none⟩))/\W.cell? ⟨w.heap.size,1,none⟩=some (.pointer (some ⟨dr,0,none⟩))/\W.cell? ⟨w.heap.size,2,none⟩=some (.map (some ow))/\W.cell? ⟨w.heap.size+1,0,none⟩=some (.string H)/\W.cell? ⟨w.heap.size+1,1,none⟩=some (.string s1)/\W.cell? ⟨w.heap.size+1,2,none⟩=some (.string s2)/\W.cell? ⟨w.heap.size+1,3,none⟩=some (.string s3)/\W.cell? ⟨w.heap.size+1,4,none⟩=some (.string Z)/\W.cell? ⟨wr.heap.size,0,none⟩=some (.string xn)/\W.cell? ⟨wr.heap.size,1,none⟩=some (.int .i64 xk)/\W.cell? ⟨wr.heap.size,2,none⟩=some (.int .i64 xi))
      (first | exact Ab | exact hSb | exact hSc | exact hSd _ | exact SCC)
      (first
      | (go_at_call 196;refine (hcx _).mono ?_;rintro e w2 ⟨rfl,hb2⟩;have b1:=gS b0 hb2;have hSb:=sA.keep Ab (λo=>(kw hb2).1 w.heap.size o (by omega)) (λo=>(kw hb2).1 (w.heap.size+1) o (by omega)) (λo=>(kw hb2).1 wr.heap.size o hz0);unfold sA at hSb;have hz2:=Nat.lt_of_lt_of_le hz0 hb2.size)
      | (go_at_call 74;refine Calls.mono (HRX.o _ _ (HT.o.2.1 _ b1)) ?_;rintro e w3 ⟨rfl,D',hS',hTn⟩;obtain⟨t0,⟨tx,t1⟩,t2,t3⟩:=HT.o.1 _ _ _ b1 hS' hTn;have hSc:=sA.keep hSb (λo=>hTn.cell (by omega) HT.o.2.2.1 o) (λo=>hTn.cell (by omega) HT.o.2.2.2.1 o) (λo=>hTn.cell hz2 HT.o.2.2.2.2 o);have SCC:=sA.keep hSc (λo=>oH (b:=gE) (o:=k*3+2) (v:=.int .i64 rk) (show w.heap.size≠gE by omega)) (λo=>oH (b:=gE) (o:=k*3+2) (v:=.int .i64 rk) (show w.heap.size+1≠gE by omega)) (λo=>oH (b:=gE) (o:=k*3+2) (v:=.int .i64 rk) (show wr.heap.size≠gE by omega));unfold sA at hSc SCC;have HT3:Hid _:=t3;clear t3 hS' hTn))
     all_goals
      go_wp2;go_roundw
      case rel=>exact⟨k+1,by omega,by go_num,D',HT3.o 0⟩
      case measure=>simp[intOf];omega
    ·have hkm:k=es.length:=by omega
     subst hkm;have hd:=Roo.o D wr (.slice (some ⟨gE,0,none⟩) es.length cE) hW.st hW.row;have HD:Hid _:=hd;clear hd hW;go_wp2_with (go_at_call 199;refine Calls.mono HD.o ?_;rintro e w2 ⟨rfl,hR⟩);go_ret;exact⟨rfl,hR⟩
theorem CB.look{T}{w}{i}{B}{of:fQ->Option Nat}{I}(c:CB T w i B of I){a}(d:Good a){f:Nat}(e:of a=fh f){W}(g:ju w W):
  (Instr.lookup 161 (.map<|fh B.oF) (fD<|jn a) fo).run prog W=.ok (ii f) W:=by
 have⟨_,⟨n,_,b⟩,_⟩:=c
 have:=jT.look (b.keep<|g.block B.oF b.lt) abV (LQ W) d
 rwa [e]at this
def zl.aas{w0 W h}{g}{b}{f n:Nat}{a}{i}{j}(c:zl w0 p A g W b f a i j)(s:w0.heap.size<=n)(d:vX (TC g f) n W h):zl w0 p A g h b f a i j:=by
 have⟨m,q,r⟩:=c.map;have l:∀k,TC g f k->h.heap[k]?=W.heap[k]?:=λk e=>d.block k (c.Kf k e).2<|.inr e;refine⟨⟨d.os.trans c.below.os,d.tape.trans c.below.tape,d.output.trans c.below.output,ww c.below.size d.size,λk o=>?_⟩,λk e=>⟨(c.Kf k e).1,nz (c.Kf k e).2 d.size⟩,c.Py.keep (λk _ e=>l k<|.inl e) λ_ _ c=>c,c.nin,⟨m,q,r.keep<|l f (.inr fX)⟩,c.few⟩;rw[d.block k (nz o c.below.size)<|.inl (by omega),c.below.block k o]
def zm (w0:fq)(p:Nat)(A:List Ob)(f:Nat->Prop)(W J:fq)(b:DB)(a:Nat)(H:List Ob)(g:fQ->Option Int)(h:fQ)(i:Nat):Prop:=
 ∃d e,zl w0 p A d J b a H e i/\sN (TC f a) (TC d a) W J/\∀c,¬h <+: c->e c=g c
def qC (c:Nat->Option (Int×fO))(n:Nat)(b:Kids)(a:List Ob)(k:Nat):List fV:=(lj c n (b.take k) a).1++(b.drop k).map lL
theorem yB(c)(n):∀(b:Kids)(a:List Ob),(lj c n b a).1.length=fv b:=by
 intro b a;have d:∀l:Kids,(lj c n (fx l) a).1.length=fv (fx l):=by
  intro l
  induction l with
  |nil=>rfl
  |cons x f e=>rw[kL,kP,lI,e];simp
 have:=d<|fx b
 grind
theorem LZ(c)(n)(b)(a):qC c n b a 0=b.map lL/\qC c n b a (fv b)=(lj c n b a).1/\(∀k,k<=fv b->fv (qC c n b a k)=fv b)/\
  (∀k(d:k<fv b),(qC c n b a k)[k]?=fh (lL b[k]))/\∀k(d:k<fv b),qC c n b a (k+1)=(qC c n b a k).set k ((b[k]).1,(b[k]).2.kind,(mn c n (b[k]).2 (lj c n (b.take k) a).2).1):=by
 refine⟨by simp[qC,lj],by simp[qC],λk d=>?_,λk d=>?_,λk d=>?_⟩
 grind [qC,lI,yB,kT,oL,rL]
 grind [qC,lj,yB,kT,BX,jG]
 grind [qC,lj,yB,kT,vv,kP,KR,List.set_append_right,sP]
structure wq (tg:gC)(w0:World)(s i p:Nat)(B:WB)(gI:List Ob)(g:WG)(lim:Nat)(t:LT):Prop where
 inv:fZ tg w0 s i p B gI g lim
 flat:Flat gI t g.ft
 exact:Exact gI
 fl:vV gI g.fl
def wq.TG{T}{w0}{a}{I}{t}(b:wq T w0 s i p B A a I t):og A a.fl:=λc id d e=>⟨λf=>b.fl c id d e f,λ_=>(b.inv.wp.files c id d e).2.2⟩
theorem wq.gQ{T}{w0 W}{g}{I}{t}(c:wq T w0 s i p B A g I t){e}{b}{h}{a}{j}{l}(f:zl w0 p A e W b h a j l):(∃d,gP d (λk=>T k=(1,0)) W s p A)/\∀k,T k=(1,0)->¬e k:=by
 have⟨m,d,_,U,_⟩:=c.inv.st;refine⟨⟨d,U.below f.below λ_ _ c=>c⟩,λk o n=>?_⟩
 have:=m k (f.Kf k<|.inl n).1
 grind
theorem wq.tree{T}{w0 W}{b}{I}{t}(c:wq T w0 s i p B A b I t)(d:ju w0 W):B.bt<W.heap.size/\W.c B.bt 0=fh (ii p)/\W.c B.bt 7=fh (.map<|fh B.oF)/\W.c B.bt 8=fh (.map<|fh B.oD):=by
 have a:=(c.inv.below d).wp.tree.ht;exact⟨(lH.1 a).1,lf a 0,lf a 7,lf a 8⟩
theorem zm.fK{w0 W J}{c}{b}{d}{a}{f}{q}{e N':Nat}(h:zl w0 p A c W b d a f e)(g:ju W J)(i:e<=N'):zm w0 p A c W J b d a f q N':=
 ⟨c,f,(h.via g).mono i,sN.fK g,λ_ _=>rfl⟩
theorem hj2{T}{w0 W}{g}{I}{t}(f:wq T w0 s i p B A g I t){r}{b}{k}{a}{q}{l}(h:zl w0 p A r W b k a q l)(Q:l<3000000){j}(D:Good j){c:Nat}(E:t.at A j=fh (.held c)):
  ik 198 #[fD #[ii B.bt,ii b.dr,.map<|fh k],fD<|jn j] W λe J=>e=fF (fY (kI (g.fl c) a).1)/\zm w0 p A r W J b k (kI (g.fl c) a).2 q j (l+1):=by
 have u:g.ft.of j=fh c:=by rw[f.flat.of,E];rfl
 have⟨⟨id,d⟩,v⟩:=f.inv.wp.held j c u;have⟨w,_,c7,_⟩:=f.tree h.below;have o:=(f.inv.below h.below).wp.files c id d v;have x:=(lH.1 o.2.1).1;have y:=lf o.2.1 1;have F:=lf o.2.1 2;have z:∀m,ju W m->(Instr.lookup 161 (.map<|fh B.oF) (fD<|jn j) fo).run prog m=.ok (ii c) m:=λm n=>f.inv.wp.uf.look D u<|gS h.below n;rw[v];by_cases hid:id=0;subst hid;have e:kI (fh ((0:Int),d)) a=kg a d:=by simp[kI]
 rw[e];have⟨⟨R,G⟩,H⟩:=f.gQ h;refine YR B.bt B.oF b.dr k c _ _ _ _ _ d _ _ W w x c7 y F z λm n=>?_;have C:=h.via n;refine(YL (G.below n λ_ _ f=>f) H C.Py (by have:=h.few;omega) d o.2.2).mono ?_;rintro e J ⟨K,L,M⟩;have N:(kg a d).2.length<=l+1:=by
  have:=h.few
  grind [kg,fileAt]
 have⟨O,P⟩:=C.Pz L M (Ha l) N;exact⟨K,_,q,O,P.via n,λ_ _=>rfl⟩;have e:kI (fh (id,d)) a=(id,a):=by simp[kI,hid]
 rw[e];refine(LY B.bt B.oF b.dr k c _ _ _ _ _ id W w x c7 y hid z).mono ?_
 grind [zm.fK]
abbrev comp (l:fQ)(k:Nat):fO:=l.getD k ⟨#[]⟩
theorem hkh(n)(a:Kids)(k:Nat)(b:k<fv a):((a.take<|k+1).map λx=>jd n x.2).sum=((a.take k).map λx=>jd n x.2).sum+jd n (a[k]).2:=by
 grind [vv]
theorem PB(n)(a:Kids)(k):((a.take k).map λx=>jd n x.2).sum<=(a.map λx=>jd n x.2).sum:=by
 grind [KU]
theorem apart{a b:fQ}{x y:fO}(d:x≠y)(c:a++[x] <+: b):¬a++[y] <+: b:=by
 rintro⟨l,rfl⟩;obtain⟨e,f⟩:=c
 grind [sP,Hw]
theorem lop{a:List Ob}(d:fv a<10000000){e:fV}(b:fN e.1=fm)(f:e.2.1=1\/e.2.1=2)(g:fJ a e.2.2=e.2.1):Fits e/\1<=e.1.size:=by
 have c:=xj b;obtain⟨h,i⟩:=np (a:=a) (id:=e.2.2) (by omega);exact⟨⟨by unfold maxLen;omega,blt<|by omega,blt<|by omega⟩,c.1⟩
theorem zm.via{w0 W a J}{c}{b}{ow}{H}{d}{q}{N'}(e:ju W a)(f:zm w0 p A c a J b ow H d q N'):zm w0 p A c W J b ow H d q N':=by
 obtain⟨g,h,i,j,k⟩:=f;exact⟨g,h,i,j.via e,k⟩
theorem Ma(p)(w:fq):
  ik 146 #[ii p] w λe J=>e=fF (fB<|fh (ie (w.heap.size+2) 0))/\J=((w.alloc<|.map #[] 0).alloc<|.map #[] 0).k #[ii p,fy fj 0 0,.map<|fh w.heap.size,.map<|fh (w.heap.size+1)] 248:=by
 have a:=@run_makeMap prog;go_enter func146,ntmps146;go_wp2;go_ret;exact⟨fX,fX⟩
theorem Mb(a p:Nat)(w:fq)(c:a<w.heap.size)(c0:w.c a 0=fh (ii p)):
  ik 73 #[ii a] w λe J=>e=fF (fD #[ii a,fB<|fh (ie (w.heap.size+3) 0),.map<|fh (w.heap.size+4)])/\
   ∃b,J=((((w.alloc b).alloc<|.map #[] 0).alloc<|.map #[] 0).k #[ii p,fy fj 0 0,.map<|fh (w.heap.size+1),.map<|fh (w.heap.size+2)] 248).alloc (.map #[] 0):=by
 have d:=@run_makeMap prog;have oh:=λW=>Ma p W;go_enter func73,ntmps73;go_wp2_with(go_at_call 146;refine Ps (oh _) ?_;rintro e f ⟨rfl,rfl⟩);exact oa (v:=fD #[ii a,fB<|fh (ie (w.heap.size+3) 0),.map<|fh (w.heap.size+4)]) (by simp[results,results73,go_sem]) fX ⟨fX,_,fX⟩
theorem SOM(w:fq)(c a b d e):(((((w.alloc c).alloc a).alloc b).alloc d).alloc e).heap[w.heap.size+1]?=fh a/\(((((w.alloc c).alloc a).alloc b).alloc d).alloc e).heap[w.heap.size+2]?=fh b/\(((((w.alloc c).alloc a).alloc b).alloc d).alloc e).heap[w.heap.size+3]?=fh d/\(((((w.alloc c).alloc a).alloc b).alloc d).alloc e).heap[w.heap.size+4]?=fh e:=by
 refine⟨?_,?_,?_,?_⟩
 grind [RowKit.Below.heap_alloc,Wu]
 ·rw[RowKit.Below.heap_alloc _ _ _ (by simp_all),RowKit.Below.heap_alloc _ _ _ (by simp_all)]
  have:=oO ((w.alloc c).alloc a) b
  all_goals simp_all
 ·rw[RowKit.Below.heap_alloc _ _ _ (by simp_all)]
  have:=oO (((w.alloc c).alloc a).alloc b) d
  all_goals simp_all
 have:=oO ((((w.alloc c).alloc a).alloc b).alloc d) e
 all_goals simp_all
def uwd(w)(a b c d e):ju w (((((w.alloc a).alloc b).alloc c).alloc d).alloc e):=
 (((((mi _ _).alloc (lw _) _).alloc (by first|(simp;done)|(simp;omega)) _).alloc (by first|(simp;done)|(simp;omega)) _).alloc (by first|(simp;done)|(simp;omega)) _).alloc (by first|(simp;done)|(simp;omega)) _
theorem Dw{w:fq}{a p:Nat}(A)(o:a<w.heap.size)(c0:w.c a 0=fh (ii p)):
  ik 73 #[ii a] w λe J=>∃b h q,e=fF (fD #[ii a,ii b.dr,.map<|fh h])/\zl w p A q J b h A (λ_=>fj) (fv A)/\ju w J:=by
 refine(Mb a p w o c0).mono ?_;rintro e J ⟨r,j,s⟩;obtain⟨l,m,n,c⟩:=SOM w j (.map #[] 0) (.map #[] 0) (.cells #[ii p,fy fj 0 0,.map<|fh (w.heap.size+1),.map<|fh (w.heap.size+2)] 248)<|.map #[] 0;have f:=uwd w j (.map #[] 0) (.map #[] 0) (.cells #[ii p,fy fj 0 0,.map<|fh (w.heap.size+1),.map<|fh (w.heap.size+2)] 248)<|.map #[] 0;rw[<-s]at l m n c f;have x:=(lH.1 c).1;refine⟨⟨w.heap.size+3,w.heap.size+1,w.heap.size+2⟩,w.heap.size+4,λk=>w.heap.size<=k/\k<w.heap.size+4,r,⟨f,?_,⟨[],[],fj,0,.map [],.map [],by simp,fX,⟨⟨by simp,by simp⟩,⟨by simp,by simp⟩,⟨by simp,by simp⟩,λy t=>by simp[Value.ownBlock]at t,n,jY _ _ _ _,⟨#[],0,l,⟨by simp,cex 0,by simp⟩,lw _,fX⟩,?_,⟨#[],0,m,⟨by simp,cex 0,by simp⟩,lw _,fX⟩,?_,by simp,(λu g=>by cases g),(λu g=>by cases g)⟩⟩,by simp,⟨0,Fr _,⟨_,AJ c,λ_ _=>rfl,λz _ v=>absurd rfl v⟩⟩,lw _⟩,f⟩
 ·rintro k (⟨B,C⟩|rfl)
  all_goals omega
 intro d;exact⟨fX,λi U=>by cases U⟩;intro D _;exact⟨fX,λi U=>by cases U⟩
theorem PC(a U:Nat)(j:Int)(u:(Nat×Nat)->fq->Prop)(v:(Nat×Nat)->fq->Prop)(x:fq->Prop)(y g:Int)(w:fq)(V:a<w.heap.size)
  (c4:∀W,ju w W->W.c a 4=fh (hZ kq)/\W.c a 5=fh (fY 2)/\W.c a 6=fh (fY j))
  (r:ik 73 #[ii a] w λe J=>∃b,e=fF (fD #[ii a,ii b.1,.map<|fh b.2])/\u b J/\ju w J)
  (z:∀b W h,u b W->ju W h->ik 74 #[fD #[ii a,ii b.1,.map<|fh b.2],fD<|ml kq kq kq kq kq,fD #[hZ kq,fY 2,fY j]] h λe J=>e=fF (fY y)/\v b J/\ju w J/\h.heap.size<=J.heap.size/\∀k A,W.heap.size<=k->k<h.heap.size->J.c k A=h.c k A)
  (B:∀b W n,v b W->ik 76 #[ii b.1] (W.drewN n) λe J=>e=fF (fY g)/\x J)(H:g=0\/g=11):
  ik 34 #[ii a] w λe J=>e=qr #[fY<|if g=0 then y else 0,fY g]/\x J:=by
 have s:=λW=>gW W;have t:fe _:=c4
 change fe _ at r z B
 clear c4;unfold ln jn at s;simp at s;go_enter func34,ntmps34;go_wp2_with fail;apply Ps r;rintro e c ⟨⟨d,f⟩,rfl,C,D⟩;simp only;have I:fe _:=C;clear C r;have E:ju c (c.k #[ii a,ii d,.map<|fh f] 155).drew:=io<|(mi _ _).alloc (lw _) _;have⟨d4,d5,d6⟩:=t _<|gS D E;have K:=lf (oO c<|.cells #[ii a,ii d,.map<|fh f] 155) 0;have l:c.heap.size<(c.k #[ii a,ii d,.map<|fh f] 155).drew.heap.size:=by simp
 have m:(c.k #[ii a,ii d,.map<|fh f] 155).drew.c c.heap.size 0=fh (ii a)/\(c.k #[ii a,ii d,.map<|fh f] 155).drew.c c.heap.size 1=fh (ii d)/\(c.k #[ii a,ii d,.map<|fh f] 155).drew.c c.heap.size 2=fh (.map<|fh f)/\(c.k #[ii a,ii d,.map<|fh f] 155).drew.c a 4=fh (hZ kq)/\(c.k #[ii a,ii d,.map<|fh f] 155).drew.c a 5=fh (fY 2)/\(c.k #[ii a,ii d,.map<|fh f] 155).drew.c a 6=fh (fY j):=⟨K,(lf (oO c<|.cells #[ii a,ii d,.map<|fh f] 155) 1),(lf (oO c<|.cells #[ii a,ii d,.map<|fh f] 155) 2),d4,d5,d6⟩;go_wp2
 go_region_held3 (λW=>W.c c.heap.size 0=fh (ii a)/\W.c c.heap.size 1=fh (ii d)/\W.c c.heap.size 2=fh (.map<|fh f)/\W.c a 4=fh (hZ kq)/\W.c a 5=fh (fY 2)/\W.c a 6=fh (fY j))
  (first|exact m|exact o|exact L)
  (first
  |(go_at_call 75;refine(s _).via λX i=>?_;have F:=gS E i;have⟨f4,f5,f6⟩:=t _<|gS D F;have o:=And.intro (((kw i).1 c.heap.size 0 l).trans m.1)<|And.intro (((kw i).1 c.heap.size 1 l).trans m.2.1) (And.intro (((kw i).1 c.heap.size 2 l).trans m.2.2.1)<|And.intro f4 (And.intro f5 f6));have p:=nz l i.size)
  |(go_at_call 74;refine Hk (z (d,f) _ _ I F) λM⟨G,N,O,q⟩=>?_;have⟨P,Q,R⟩:=t _ N;have L:=And.intro ((q c.heap.size 0 (lw _) p).trans o.1)<|And.intro ((q c.heap.size 1 (lw _) p).trans o.2.1) (And.intro ((q c.heap.size 2 (lw _) p).trans o.2.2.1)<|And.intro P (And.intro Q R));have Y:=nz p O;have S:fe _:=G;clear G q))
 all_goals
  rcases H with rfl|rfl
  all_goals
   go_wp2_with(go_at_call 76;refine Hk (B (d,f) M 0 S) λZ T=>?_);go_ret2;exact⟨fX,T⟩
def YV(a b:Nat)(c d:Int)(f:fq->Prop)(w:fq)(i:a<w.heap.size)(c0:w.c a 0=fh (ii b))
  (g:ik 34 #[ii b] w λe J=>e=qr #[fY c,fY d]/\f J):
  ik 18 #[ii a] w λe J=>e=qr #[fY c,fY d]/\f J:=by
 change fe _ at g
 go_enter func18,ntmps18;go_wp2_with(go_at_call 34;refine Ps g ?_;rintro e j ⟨rfl,h⟩);go_ret2;exact⟨fX,h⟩
theorem YW{T}{w}{g}{I}{t}(f:fZ T w s i p B A g I)(ag:I+10<1099511627776)(hF:Flat A t g.ft)(Q:fM A 5 t)(D:vV A g.fl){b}(E:Good b){c:LT}(o:t.at A b=fh c)(nm):
  ik 183 #[ii B.bt,fD<|jn b,fD #[hZ nm,fY c.kind,fY c.id]] w λq J=>q=qr #[fY (iZ A g.fl g.fs c).2.2,fY (iZ A g.fl g.fs c).2.1]/\mm s i p B A T w J { g with fs:=(iZ A g.fl g.fs c).1 } (I+1):=by
 have F:=f.st.sound;obtain⟨_,j,_⟩:=tA F b Q o;have h:∀k id:Int,ju w ((w.k (jn b) 147).k #[hZ nm,fY k,fY id] 96):=λk id=>((mi _ _).alloc (lw _) _).alloc (by simp) _;have G:∀{m:Nat}(c:LT),c.kind=2->fM A m c->t.at A b=fh c->(c.id≠0->fJ A c.id=2)->iZ A g.fl g.fs c=((ut A g.fs c).1,(ut A g.fs c).2.1,((ut A g.fs c).2.2.length:Int))->
   ik 183 #[ii B.bt,fD<|jn b,fD #[hZ nm,fY 2,fY c.id]] w λq J=>q=qr #[fY (iZ A g.fl g.fs c).2.2,fY (iZ A g.fl g.fs c).2.1]/\mm s i p B A T w J { g with fs:=(iZ A g.fl g.fs c).1 } (I+1):=by
  intro m c R S U hid l;have V:oW A (nm,2,c.id):=⟨.inr fX,hid⟩;have H:=ya F hF S U g.fs nm;rw[R]at H;have K:=xB (f.below<|h 2 c.id) (by omega) E V;rw[H]at K;rw[l];refine YH B.bt _ _ _ _ _ _ nm c.id _ (λJ=>mm s i p B A T w J { g with fs:=(ut A g.fs c).1 }<|I+1) w<|K.mono ?_;rintro q J ⟨ah,L,M,X,y,Y⟩;obtain⟨Z,aa,rfl⟩:=Y.len;rw[oL]at L;exact⟨Z,aa,L,M,mr (h 2 c.id) X,y⟩
 cases c with
 |file id=>
  rw[fM]at j;have hid:id≠0:=λe=>by have:=(np (a:=A) (id:=id)<|by omega).1;omega
  have ab:B.bt<w.heap.size:=(lH.1 f.wp.tree.ht).1;have hsf:=λW(r:ju w W)=>hdf (f.below r) (by omega) j;have n:=f.below<|h 1 id;have c1:((w.k (jn b) 147).k #[hZ nm,fY 1,fY id] 96).c B.bt 1=fh (ii B.sF):=lf n.wp.tree.ht 1;have ac:(if(g.fs.gO id).2=fm then bytesOf A id else kq).size<=256:=by
   split;exact f.st.zZ j;decide
  have:=Gi B.bt _ _ _ _ _ nm (if(g.fs.gO id).2=fm then bytesOf A id else kq) id (if(g.fs.gO id).2=fm then 0 else 14) ac (λJ=>mm s i p B A T w J { g with fs:=(g.fs.gO id).1 }<|I+1) w (Pt B.bt B.sF _ _ _ _ _ nm _ id _ _ _ (nz ab (h 1 id).size) hid c1 λW r=>(hsf W (gS (h 1 id) r)).mono λe J⟨n,M,m,y⟩=>⟨n,M,mr (gS (h 1 id) r) m,y⟩)
  have l:iZ A g.fl g.fs (.file id)=if(g.fs.gO id).2 then((g.fs.gO id).1,0,((bytesOf A id).size:Int)) else((g.fs.gO id).1,14,0):=fX;rw[l];cases N:(g.fs.gO id).2 with
  |true=>rw[N]at this;exact this
  |false=>rw[N]at this;exact this
 |held u=>
  have O:g.ft.of b=fh u:=by rw[hF.of,o];rfl
  obtain⟨x,ad⟩:=f.wp.held b u O;obtain⟨z,v,d,C⟩:∃z v d,AC A g.fl g.fs u=(z,v,d):=⟨_,_,_,fX⟩;have l:iZ A g.fl g.fs (.held u)=(z,v,(d.size:Int)):=by simp only[iZ,C]
  rw[l];exact Gi B.bt _ _ _ _ _ nm d 0 v (CJ f D C) _ w ((Tu (nm:=nm) (f.below<|h 1 0) (by omega) D E O ad C).mono λe J⟨n,ae⟩=>⟨n,ae.via<|h 1 0⟩)
 |dir id=>exact G (.dir id) fX j o (λP=>by rw[fM]at j;exact j.1) fX
 |own af=>exact G (.own af) fX j o (λP=>absurd fX P) fX
theorem YX{T}{w}{g}{I}{t}(h:fZ T w s i p B A g I)(ac:I+100<1099511627776)(hF:Flat A t g.ft)(F:fM A 5 t)(Q:vV A g.fl){b:fQ}(v:Good (fx b)):
  ik 126 #[ii B.bt,fD<|jn (fx b)] w λe J=>e=qr #[fD #[fY (lQ A g.fl t g.fs b).2.2.1,fY (lQ A g.fl t g.fs b).2.2.2],fY (lQ A g.fl t g.fs b).2.1]/\mm s i p B A T w J { g with fs:=(lQ A g.fl t g.fs b).1 } (I+20):=by
 have U:=h.two;have l:=Pr w<|fx b;have G:=Tt w<|fx b;have H:T (w.heap.size+1)=(0,0):=h.st.fresh _ (by omega);have ad:T w.heap.size=(0,0):=h.st.fresh _ (by omega);have ae:fv b<=5:=by have:=v.len;simpa using this
 have n:=xC (s:=s) (i:=i) (p:=p) (B:=B) (A:=A) b T _ g I (h.below l) (by omega) v;obtain⟨K,L,R⟩:=ux h.st.sound hF F g.fs b;by_cases x:(ky A t g.fs b).2.1=0;obtain⟨S,V⟩:=R x;rw[K,L,S,x]at n;have y:lQ A g.fl t g.fs b=(if(iZ A g.fl (ky A t g.fs b).1 (ky A t g.fs b).2.2).2.1≠0 then((iZ A g.fl (ky A t g.fs b).1 (ky A t g.fs b).2.2).1,(iZ A g.fl (ky A t g.fs b).1 (ky A t g.fs b).2.2).2.1,0,0) else((iZ A g.fl (ky A t g.fs b).1 (ky A t g.fs b).2.2).1,0,(ky A t g.fs b).2.2.kind,(iZ A g.fl (ky A t g.fs b).1 (ky A t g.fs b).2.2).2.2)):=by
  grind [lQ]
 generalize (ky A t g.fs b).2.2=c at *;generalize (ky A t g.fs b).1=j at *;have z:=YI B.bt _ _ _ _ _ (b.headD kq) c.kind c.id (iZ A g.fl j c).2.2 (iZ A g.fl j c).2.1 (λd=>∃o,fI (gA i) T o ((w.k (jn<|fx b) 147).k #[fY 0,fY 0] 141) d/\fZ o d s i p B A { g with fs:=j } (I+5)/\o (w.heap.size+1)=(0,0)) (λd=>mm s i p B A T ((w.k (jn<|fx b) 147).k #[fY 0,fY 0] 141) d { g with fs:=(iZ A g.fl j c).1 }<|I+20) w (n.mono ?_) ?_;refine z.mono ?_;rintro e J ⟨f,d,q,r⟩;rw[y];by_cases k:(iZ A g.fl j c).2.1=0;rw[km λh=>h k];rw[lv k,k]at f;exact⟨f,Bx h l (by simp) q r⟩;rw[lv k];rw[km k]at f;exact⟨f,Bx h l (by simp) q r⟩;rintro e J ⟨f,M,m,C⟩;obtain⟨D,N⟩:=tC (pS U) H m G;exact⟨f,D,λE=>wJ (a:=(ie w.heap.size E))<|m.block w.heap.size (by simp;omega) (by grind [pS]),M,m,C.mono<|by omega,N⟩;rintro d ⟨o,W,O,X⟩ af;have P:ju d (d.k #[hZ<|b.headD kq,fY c.kind,fY c.id] 96):=(mi _ _).alloc (lw _) _;refine(YW (g:={ g with fs:=j }) (O.below P) (by omega) hF F Q v V<|b.headD kq).mono ?_;rintro e ag ⟨f,Y,u,Z⟩;have aa:lp (d.k #[hZ<|b.headD kq,fY c.kind,fY c.id] 96) (w.heap.size+1):=by
  grind [lp,sK,lH]
 refine⟨f,(tC (pS U) X u aa).1,λE=>wJ (a:=(ie d.heap.size E))<|u.block d.heap.size (by simp) (by rw[O.st.fresh _<|lw _];exact pS U),nz (by simp) u.size,Y,W.trans<|mr P u,Z.mono<|by omega⟩;have y:lQ A g.fl t g.fs b=((ky A t g.fs b).1,(ky A t g.fs b).2.1,0,0):=by
  grind [lQ]
 rw[y];rw[K,L]at n;have ab:((ky A t g.fs b).2.1==0)=fo:=by simpa using x
 have z:=YF B.bt _ _ _ _ _ (findF A g.ft g.fs b).2.2.1 (findF A g.ft g.fs b).2.2.2.1 (findF A g.ft g.fs b).2.2.2.2 (ky A t g.fs b).2.1 (λd=>mm s i p B A T ((w.k (jn<|fx b) 147).k #[fY 0,fY 0] 141) d { g with fs:=(ky A t g.fs b).1 }<|I+20) w ab<|n.mono ?_;refine z.mono ?_;rintro e J ⟨f,d,q,r⟩;exact⟨f,Bx h l (by simp) q r⟩;rintro e J ⟨f,M,m,C⟩;obtain⟨D,N⟩:=tC (pS U) H m G;exact⟨f,D,M,m,C.mono<|by omega⟩
theorem Tag{T}{w}{a}{I}{t}(c:mQ T w s i p B A a I t)(C:I+1000<1099511627776){b:fQ}(j:Good (fx b)):
  ik 67 #[ii B.wb,hZ<|lA (fx b)] w λe J=>e=qr #[fD #[fY (lQ A a.fl t a.fs b).2.2.1,fY (lQ A a.fl t a.fs b).2.2.2],fY (lQ A a.fl t a.fs b).2.1]/\Rg s i p B A T w J (I+400) (Aa a (lQ A a.fl t a.fs b).1 t):=by
 obtain⟨l,c0⟩:=ult c.inv;have U:=c.inv.two;have n:=c.inv.st.fresh _<|lw _;have o:=lfg B.wb B.bt (fx b) j (lQ A a.fl t a.fs b).2.2.1 (lQ A a.fl t a.fs b).2.2.2 (lQ A a.fl t a.fs b).2.1 (λd=>∃M,fI (gA i) T M w d/\fZ M d s i p B A { a with fs:=(lQ A a.fl t a.fs b).1 } (I+20)/\M w.heap.size=(0,0)) w l.1 c0 λW k q=>(YX (c.inv.below k) (by omega) c.flat c.ok c.fl j).mono ?_;refine o.mono ?_;rintro e J ⟨f,d,⟨M,m,g,h⟩,r⟩;obtain⟨u,v,x⟩:=YG U m g h r;exact⟨f,u,_,t,v.mono λt h=>gA.mine h,⟨x.mono<|by omega,c.flat,c.ok,c.fl⟩,fX,fX,fX,fX,fX⟩;rintro e J ⟨f,M,m,g⟩;obtain⟨y,z⟩:=tC (pS U) n m q;exact⟨f,y,M,mr k m,g,z⟩

def big (A:List Ob):Nat->LT->Nat
 |0,_=>1
 |n+1,t=>1+(((kids A t).getD []).map λx=>big A n x.2).sum
def Mc{A}{t}{fs}{r}(a:(pA A t fs r).2.1=0):∃d,t.at A (fx r)=fh d/\kids A d=fh (pA A t fs r).2.2:=by
 exact(qO a).1
def gL (A:List Ob)(t:LT):Prop:=∀x y b,t.at A x=fh (.held b)->t.at A y=fh (.held b)->x=y
theorem Gm{A}{t d:LT}{a}{Y:Kids}(e:t.at A a=fh d)(f:kids A d=fh Y)(m:fO)(b:fQ):t.at A (a++m::b)=(jp Y m).bind λc=>c.at A b:=by
 grind [lx,lh]
theorem CL{A}{t d:LT}{c}{Y}{n}(h:fP Y)(f:t.at A c=fh d)(g:kids A d=fh Y)(i:kA Y n=fm){x}{b:Nat}(j:(vy A (λY=>rb Y n) c t).at A x=fh (.held b)):t.at A x=fh (.held b)/\¬c++[n] <+: x:=by
 rcases NF _ f g j with⟨m,k,rfl,a⟩|⟨a,o⟩
 rw[mg h i]at a;by_cases e:m=n
 grind
 rw[km e]at a;refine⟨by rw[Gm f g];exact a,?_⟩;rintro⟨l,p⟩
 grind [sP,Hw]
 grind [qD]
theorem PD{A}{t d c:LT}{a}{Y}{n}(j:fP Y)(h:t.at A a=fh d)(i:kids A d=fh Y){x}{b:Nat}(k:(vy A (λY=>zr Y n c) a t).at A x=fh (.held b)):(∃g,x=a++n::g/\c.at A g=fh (.held b))\/(t.at A x=fh (.held b)/\¬a++[n] <+: x):=by
 rcases NF _ h i k with⟨m,g,rfl,f⟩|⟨f,o⟩
 rw[xd j]at f;by_cases e:m=n
 grind
 rw[km e]at f;refine .inr ⟨by rw[Gm h i];exact f,?_⟩;rintro⟨l,p⟩
 grind [sP,Hw]
 grind [qD]
theorem Md{A}{t d c:LT}{a}{Y}{n:fO}(U:gL A t)(h:fP Y)(i:t.at A a=fh d)(j:kids A d=fh Y)(k:gL A c)(p:∀e b y,c.at A e=fh (.held b)->t.at A y=fh (.held b)->a++[n] <+: y):gL A (vy A (λY=>zr Y n c) a t):=by
 intro x y b l m;rcases PD h i j l with⟨e,rfl,f⟩|⟨f,q⟩<;>rcases PD h i j m with⟨o,rfl,g⟩|⟨g,r⟩
 rw[k e o b f g]
 grind
 grind
 exact U x y b f g
theorem PE{A}{t d:LT}{a}{Y}{n}(U:gL A t)(c:fP Y)(e:t.at A a=fh d)(f:kids A d=fh Y)(g:kA Y n=fm):gL A (vy A (λY=>rb Y n) a t):=λx y b h i=>U x y b (CL c e f g h).1 (CL c e f g i).1
def PF(A:List Ob)(a:fQ)(b:Nat):(LT.own []).at A a≠fh (.held b):=by
 rcases a with _|⟨m,a⟩
 rw[pd];intro c;cases c;rw[lh];simp[kids,jp]
theorem YY{A}(c:Sound A){t}(g:fM A 5 t)(U:gL A t)(fs)(n:fO)(a:fQ):gL A (jD A t fs (n::a)).2.2:=by
 unfold jD;simp only;split;exact U
 rename_i h
 split;exact U;split;exact U;have⟨d,e,f⟩:=Mc<|oP.1 h;have⟨_,i,_⟩:=tA c _ g e;exact Md U (lO c i f).1 e f (λx y b j=>absurd j<|PF A x b) λa b y k=>absurd k<|PF A a b
theorem TH{A}(b:Sound A){t}(g:fM A 5 t)(U:gL A t)(fs)(n:fO)(r:fQ):gL A (gV A t fs (n::r)).2.2:=by
 unfold gV;simp only;split;exact U
 rename_i j
 split;exact U;have⟨a,_,_,d,Y,e,f,k⟩:=BA (A:=A) (t:=t) (fs:=fs) (n:=n) (r:=r) (fs':=(ky A t fs (n::r)).1) (c:=(ky A t fs (n::r)).2.2) (by grind);obtain⟨_,h,_⟩:=tA b _ g e;have i:=(lO b h f).1;exact PE U i e f (by grind [rh])
theorem TI{A}(g:Sound A){t}(p:fM A 5 t)(U:gL A t)(fs)(n m:fO)(r q:fQ):gL A (QP A t fs (n::r) (m::q)).2.2:=by
 unfold QP;simp only;split;exact U
 rename_i I
 split;exact U
 rename_i uy
 split;exact U
 rename_i v
 split;exact U;split;exact U;have⟨a,_,_,d,Y,e,f,j⟩:=BA (A:=A) (t:=t) (fs:=fs) (n:=n) (r:=r) (fs':=(ky A t fs (n::r)).1) (c:=(ky A t fs (n::r)).2.2) (by grind);generalize (ky A t fs (n::r)).2.2=c at a j |-;have⟨_,w,_⟩:=tA g _ p e;have i:=(lO g w f).1;have k:kA Y n=fm:=by rw[<-rh i,j];rfl
 have z:t.at A (fx r++[n])=fh c:=by rw[Gm e f,j,wy,pd]
 have l:∀x b,c.at A x=fh (.held b)->t.at A ((fx r++[n])++x)=fh (.held b):=λx b h=>by rw[lx,z,wy];exact h
 have B:=oP.1 λC=>v<|.inl C;obtain⟨J,D,E⟩:=Mc B;have F:¬(fx r++[n]) <+: fx q:=by
  grind
 have⟨d1,K,s,u,_⟩:=Fo i e f k D E F;have⟨_,G,_⟩:=tA g _ (AW g p e f n) s;refine Md (PE U i e f k) (lO g G u).1 s u (λx y b h o=>(Hw (U _ _ b (l x b h)<|l y b o))) λx b y h o=>?_;obtain⟨H,L⟩:=CL i e f k o
 have:=U _ _ b (l x b h) H
 grind
def lor(a:Fn)(b)(w:fq):ik 114 #[.func a b #[]] w λe J=>e=fF (fB<|fh (ie (w.heap.size+1) 0))/\J=(w.alloc<|.map #[] 0).k #[.func a b #[],.map<|fh w.heap.size] 267:=by
 have c:=@run_makeMap prog;go_enter func114,ntmps114;go_wp2;go_ret;exact⟨fX,fX⟩
def lpo(a:Fn)(b)(w:fq):ik 116 #[.func a b #[]] w λe J=>e=fF (fB<|fh (ie (w.heap.size+1) 0))/\J=(w.alloc<|.map #[] 0).k #[.func a b #[],.map<|fh w.heap.size] 271:=by
 have c:=@run_makeMap prog;go_enter func116,ntmps116;go_wp2;go_ret;exact⟨fX,fX⟩
def yC (w:fq)(p:Nat)(a:Int):fq:=((((((w.alloc<|.map #[] 0).alloc<|.cells #[.func (.func 115) #[ptr p] #[],.map<|fh w.heap.size] 267).alloc<|.map #[] 0).alloc<|.cells #[.func (.func 117) #[ptr p] #[],.map<|fh (w.heap.size+2)] 271).alloc<|.map #[] 0).alloc<|.map #[] 0).alloc<|.cells #[ptr p,ptr<|w.heap.size+1,ptr<|w.heap.size+3,.int .i64 a,fA ⟨#[]⟩,.int .i64 2,.int .i64 a,.map<|fh (w.heap.size+4),.map<|fh (w.heap.size+5)] 164
theorem hki(p)(b:Int)(w:fq):ik 62 #[ii p,fY b] w λe J=>e=fF (fB<|fh (ie (w.heap.size+6) 0))/\J=yC w p b:=by
 have c:=λa W=>lor (.func 115) a W;have d:=λa W=>lpo (.func 117) a W;have g:=@run_makeMap prog;go_enter func62,ntmps62;go_wp2_with(first
  |(go_at_call 114;refine Ps (c _ _) ?_;rintro e f ⟨rfl,rfl⟩)
  |(go_at_call 116;refine Ps (d _ _) ?_;rintro e f ⟨rfl,rfl⟩))
 go_ret;exact⟨fX,fX⟩
def qH (w:fq)(p:Nat)(a:Int):fq:=(yC w p a).alloc<|.cells #[ptr<|w.heap.size+6,fB fj,fB fj,fB fj,fB fj,fB fj,fB fj,fB fj,fB fj] 91
theorem IA(s p:Nat)(id:Int)(w:fq)(c:s<w.heap.size)(c0:w.c s 0=fh (ii p))(d:ik 61 #[ii p,fY id] w (vd (fY 2) w)):
  ik 27 #[ii s,fY id] w λe J=>∃a,ju w a/\e=qr #[fB<|fh (ie (a.heap.size+7) 0),fY 0]/\J=qH a p id:=by
 have f:=λW=>hki p id W;have g:∀W,(yC W p id).heap.size=W.heap.size+7:=λW=>by unfold yC;simp
 go_enter func27,ntmps27;go_wp2_with(first
  |(go_at_call 61;refine d.via λa b=>?_;have d0:=((kw b).1 s 0 c).trans c0;have h:=nz c b.size)
  |(go_at_call 62;refine Ps (f _) ?_;rintro e i ⟨rfl,rfl⟩))
 go_ret2;exact⟨a,b,fX,fX⟩
def wsB (n:Nat):WB:=⟨n+7,n+6,n+1,n+3,n,n+2,n+4,n+5⟩
def jE (T:gC)(n i:Nat):gC:=λk=>if k<n then T k else if k=n then(i,2)else if k=n+1 then(i,1)else if k=n+2 then(i,3)else if k=n+3 then(i,1)else if k=n+4 then(i,4)else if k=n+5 then(i,5)else if k=n+6 then(i,1)else if k=n+7 then(i,0) else(0,0)
def TJ(w)(p)(id:Int):(qH w p id).heap.size=w.heap.size+8:=by unfold qH yC;simp
def PG(w)(p)(id:Int):ju w (qH w p id):=by
 exact(((((((((mi w.heap.size w).alloc (lw _) _).alloc (by simp) _).alloc (by simp;omega) _).alloc (by simp;omega) _).alloc (by simp;omega) _).alloc (by simp;omega) _).alloc (by simp;omega) _).alloc (by simp;omega) _)
theorem TK(w)(p)(id:Int):
  (qH w p id).heap[w.heap.size]?=fh (.map #[] 0)/\(qH w p id).heap[w.heap.size+1]?=fh (.cells #[.func (.func 115) #[ptr p] #[],.map<|fh w.heap.size] 267 (0,0))/\(qH w p id).heap[w.heap.size+2]?=fh (.map #[] 0)/\(qH w p id).heap[w.heap.size+3]?=fh (.cells #[.func (.func 117) #[ptr p] #[],.map<|fh (w.heap.size+2)] 271 (0,0))/\(qH w p id).heap[w.heap.size+4]?=fh (.map #[] 0)/\(qH w p id).heap[w.heap.size+5]?=fh (.map #[] 0)/\
  (qH w p id).heap[w.heap.size+6]?=fh (.cells #[ptr p,ptr<|w.heap.size+1,ptr<|w.heap.size+3,fY id,hZ kq,fY 2,fY id,.map<|fh (w.heap.size+4),.map<|fh (w.heap.size+5)] 164 (0,0))/\(qH w p id).heap[w.heap.size+7]?=fh (.cells #[ptr<|w.heap.size+6,fB fj,fB fj,fB fj,fB fj,fB fj,fB fj,fB fj,fB fj] 91 (0,0)):=by
 unfold qH yC World.alloc;simp only[Array.getElem?_push,Array.size_push]
 grind
def wg0 (id:Int)(a:List Int)(b:Bool):WG:=⟨id,⟨id,λ_=>fj,λ_=>fj⟩,⟨a,b,λ_=>fo,λ_=>fo⟩,λ_=>fj,λ_=>fj⟩
theorem vcs{T}{w}{j}{b:Bool}{I}(n:jq T w s p A j b I)(U:2<=i){id:Int}(c:fJ A id=2):
  fI (λ_=>False) T (jE T w.heap.size i) w (qH w p id)/\fZ (jE T w.heap.size i) (qH w p id) s i p (wsB w.heap.size) A (wg0 id j b) I:=by
 have e:=PG w p id;have⟨o,q,r,t,u,v,z,B⟩:=TK w p id;have C:∀k,k<w.heap.size->jE T w.heap.size i k=T k:=λk c=>by unfold jE;rw[lv c]
 have m:fI (λ_=>False) T (jE T w.heap.size i) w (qH w p id):=⟨e.os,e.tape,e.output,e.size,C,λk c _=>e.block k c,λE k c=>by
  rw[TJ]at c;unfold jE;rw[km<|by omega,km<|by omega,km<|by omega,km<|by omega,km<|by omega,km<|by omega,km<|by omega,km<|by omega,km<|by omega]⟩
 have t0:jE T w.heap.size i w.heap.size=(i,2):=by unfold jE;simp
 have t1:jE T w.heap.size i (w.heap.size+1)=(i,1):=by unfold jE;rw[km<|by omega];simp
 have t2:jE T w.heap.size i (w.heap.size+2)=(i,3):=by unfold jE;rw[km<|by omega];simp
 have t3:jE T w.heap.size i (w.heap.size+3)=(i,1):=by unfold jE;rw[km<|by omega];simp
 have t4:jE T w.heap.size i (w.heap.size+4)=(i,4):=by unfold jE;rw[km<|by omega];simp
 have t5:jE T w.heap.size i (w.heap.size+5)=(i,5):=by unfold jE;rw[km<|by omega];simp
 have t6:jE T w.heap.size i (w.heap.size+6)=(i,1):=by unfold jE;rw[km<|by omega];simp
 have t7:jE T w.heap.size i (w.heap.size+7)=(i,0):=by unfold jE;rw[km<|by omega];simp
 refine⟨m,U,n.moves m (λx=>x) λx=>x,⟨⟨t6,t1,t3,z,q,t⟩,⟨t0,0,λ_=>fj,Fr _,AJ o,λid=>rfl,λid a=>by cases a⟩,⟨t2,0,λ_=>fj,λ_=>fy fj 0 0,Fr _,AJ r,λid=>rfl,λid a=>by cases a⟩,⟨t4,⟨0,Fr _,λ_=>fj,AJ u,λ_ _=>rfl,λD _ a=>absurd rfl a⟩,λf g a=>by cases a⟩,⟨λ_=>fy fj 0 0,t5,⟨0,Fr _,λ_=>fj,AJ v,λ_ _=>rfl,λD _ a=>absurd rfl a⟩,λf h a=>(by cases a),λf h a=>(by cases a),λf F h fs Y a=>(by cases a)⟩,λg id d a=>(by cases a),λf g a=>(by cases a),⟨t7,B,λk c=>rfl,λk b g fg G a=>(by cases a),λk l x y a=>(by cases a)⟩,⟨λ_=>c,λf h a=>(by cases a)⟩⟩⟩
theorem uU(A):∀(b:fQ)(id:Int),zA ((LT.dir id).at A b)=fj/\RQ ((LT.dir id).at A b)=fj
 |[],id=>by rw[pd];exact⟨fX,fX⟩
 |n::a,id=>by
  rw[lh]
  show zA ((jp ((fT A id).map wd) n).bind _)=fj/\RQ ((jp ((fT A id).map wd) n).bind _)=fj
  rcases f:jp ((fT A id).map wd) n with _|c
  exact⟨fX,fX⟩
  have⟨e,_,d⟩:=jC.1<|rX f
  have g:c=ltOf e:=by unfold wd at d;exact(Prod.mk.inj d).2.symm
  rw[wy,g]
  unfold ltOf
  split
  exact uU A a _
  cases a with
  |nil=>rw[pd];exact⟨fX,fX⟩
  |cons m a=>rw[lh];exact⟨fX,fX⟩
theorem hkn(id:Int)(c)(b:Bool):Flat A (.dir id) (wg0 id c b).ft:=⟨fX,fX,λa=>(uU A a id).1.symm,λa=>(uU A a id).2.symm⟩

theorem rbv{i:Nat}(U:2<=i):¬Mine i (0,0):=by
 rintro(a|a)
 all_goals omega
theorem YZ{T}{w}{s p i:Nat}{A}{g}{b:Bool}{I}(c:jq T w s p A g b I)(U:2<=i){id:Int}(j:fM A 5 (.dir id)):
  ik 27 #[ii s,fY id] w λe J=>∃B:WB,e=qr #[ii B.wb,fY 0]/\∃M,fI (λ_=>False) T M w J/\mQ M J s i p B A (wg0 id g b) I (.dir id):=by
 have k:fJ A id=2:=by rw[fM]at j;exact j.1
 have⟨y,z,C,f,D⟩:=c;have⟨a,h,q,r,E,F,f⟩:=f;have t:=(lH.1 f.hs).1;have l:=uq p a (fv A) h q r A id w f.gQ;rw[k]at l;refine(IA s p id w t f.c0 l).mono ?_;rintro e J ⟨n,o,rfl,rfl⟩;have u:jq T n s p A g b I:=c.moves (P:=λ_=>False) (fI.fK o) (λc=>c) λc=>c;have⟨m,v⟩:=vcs u (i:=i) U k;exact⟨wsB n.heap.size,fX,_,(fI.fK o).trans m,⟨v,hkn id g b,j,(λG id d x=>by cases x)⟩⟩
theorem je.once{x y}(b:je x y)(g:mL y):mL x:=by
 have h:∀i(j:i<fv x)(k:i<fv y),(x[i]).core=(y[i]).core:=by
  intro i l m;have n:=b.get i
  grind
 refine⟨λi U c=>?_,λi U c=>?_⟩;have d:i<fv y:=by rw[<-b.len];exact U
 have a:=h i U d;simp only[Ob.core,vw]at a;have e:(y[i]).kind=1:=by rw[<-a.1];exact c
 have f:(x[i]).data=(y[i]).data:=by have:=a.2.1;rw[lv c,lv e]at this;exact this
 rw[b.file,f];exact g.file i d e;have d:i<fv y:=by rw[<-b.len];exact U
 have a:=h i U d;simp only[Ob.core,vw]at a;have e:(y[i]).kind=2:=by rw[<-a.1];exact c
 have f:(x[i]).gh=(y[i]).gh:=by have:=a.2.2.1;rw[lv c,lv e]at this;exact this
 rw[b.dir,f];exact g.dir i d e
def gz (a:List Ob)(fl:Nat->Option (Int×fO)):ji:=λb=>match fl b with
 |none=>⟨#[]⟩
 |some (id,d)=>if id≠0 then bytesOf a id else d
theorem lrk{a}{fc}{t h}{Y b:Kids}(m:∀d,xc a fc t d=xc a fc h d)(q:kids a t=fh Y)(r:kids a h=fh b)(o:fP Y)(p:fP b):
  Y.map (·.1)=b.map (·.1)/\∀k(f:k<fv Y)(g:k<fv b),∀d,xc a fc (Y[k]).2 d=xc a fc (b[k]).2 d:=by
 have i:∀n e,((jp Y n).bind λc=>xc a fc c e)=((jp b n).bind λc=>xc a fc c e):=by
  intro n e
  have:=m (n::e)
  grind [ul]
 have j:Y.map (·.1)=b.map (·.1):=by
  refine exs o p λn=>?_
  have:=i n []
  cases f:jp Y n<;>cases g:jp b n<;>rw[f,g]at this<;>simp[px]at this |-
 refine⟨j,λk f g d=>?_⟩;have s:(Y[k]).1=(b[k]).1:=by
  have:=congrArg (λl=>l[k]?) j
  grind
 have:=i (Y[k]).1 d
 grind [yg]
theorem Gn(e):(∃i,(wd e).2=.file i)\/∃i,(wd e).2=.dir i:=by
 unfold wd ltOf;by_cases a:e.2.1=2;exact .inr ⟨e.2.2,by simp[a]⟩;exact .inl ⟨e.2.2,by simp[a]⟩
theorem PI(e):(wd e).2.id=e.2.2:=by
 grind [wd,ltOf,LT.id]
theorem Gp{e:fV}(a:e.2.1=1\/e.2.1=2):(wd e).2.kind=e.2.1:=by
 grind [wd,ltOf,LT.kind]
def Gq{a}{fc}{t c}(b:xc a fc t []=xc a fc c []):t.kind=c.kind:=by
 rw[px,px]at b;have b:=rK b;cases t<;>cases c<;>simp[nd,LT.kind]at b |-
theorem hkp{a}(V:Exact a)(f:mL a){b}(W:og a b):∀(n:Nat)(t h:LT),fM a n t->fM a n h->((∃i,h=.file i)\/∃i,h=.dir i)->(∀J,xc a (gz a b) t J=xc a (gz a b) h J)->mn b n t a=(h.id,a):=by
 have y:=V.sound
 -- files
 have K:∀(n:Nat)(t:LT)(id:Int),t.kind=1->fM a n t->fJ a id=1->nd a (gz a b) t=.file (bytesOf a id)->mn b n t a=(id,a):=by
  intro n t id j c hid oh;cases t with
  |file i=>
   have U:fJ a i=1:=by cases n<;>simpa [fM]using c
   have:bytesOf a i=bytesOf a id:=by simpa [nd]using oh
   have e:=f.NN U hid this
   grind [mn]
  |held o=>
   have X:mn b n (.held o) a=kI (b o) a:=by cases n<;>rw[mn]
   rw[X];have u:gz a b o=bytesOf a id:=by simpa [nd]using oh
   unfold gz at u;rcases D:b o with _|x
   rw[D]at u;show kg a kq=_;have z:kq=bytesOf a id:=u;rw[z];exact f.uB hid;obtain⟨i,d⟩:=x;rw[D]at u;by_cases A:i≠0;have z:bytesOf a i=bytesOf a id:=by simpa [A]using u
   have e:=f.NN ((W o i d D).1 A) hid z;show(if i≠0 then(i,a)else kg a d)=_
   grind
   have z:d=bytesOf a id:=by simpa [A]using u
   show(if i≠0 then(i,a)else kg a d)=_;rw[km A,z];exact f.uB hid
  |dir i=>cases j
  |own v=>cases j
 have L:∀(id:Int),fJ a id=2->∀e∈fT a id,(e.2.1=1\/e.2.1=2):=λid j e E=>((y.2 id j).2.2 e E).2.1;intro n
 induction n with
 |zero=>
  intro t h c p F w;have q:=Gq<|w [];rcases F with⟨id,rfl⟩|⟨id,rfl⟩
  have hid:fJ a id=1:=by simpa [fM]using p
  refine K 0 t id q c hid ?_
  have:=w []
  rw[px,px]at this;exact rK this;have hid:fJ a id=2/\gp a id<=0:=by simpa [fM]using p
  have Z:∀g,fJ a g=2->gp a g<=0->fT a g=[]:=by
   intro g B al;rcases E:fT a g with _|⟨e,am⟩
   rfl;have r:=((y.2 g B).2.2 e (by rw[E];simp)).2.2.2;have s:=y.1 e.2.2;omega
  cases t with
  |file i=>cases q
  |held o=>cases q
  |dir i=>
   have U:fJ a i=2/\gp a i<=0:=by simpa [fM]using c
   have e:=f.Vo U.1 hid.1 (by grind);rw[mn,e];rfl
  |own v=>
   rw[mn]
   have:=f.yf hid.1
   rwa [Z id hid.1 hid.2]at this
 |succ n aa=>
  intro t h c p F w;have q:=Gq<|w [];rcases F with⟨id,rfl⟩|⟨id,rfl⟩
  have hid:fJ a id=1:=by simpa [fM]using p
  refine K _ t id q c hid ?_
  have:=w []
  rw[px,px]at this;exact rK this;have hid:fJ a id=2:=by rw[fM]at p;exact p.1
  obtain⟨ab,_,ac⟩:=lO y p (Y:=(fT a id).map wd) fX
  -- what stands in t is,one by one,what stands in the stored Jz
  have M:∀(Y:Kids),kids a t=fh Y->fv Y=fv (fT a id)/\∀k(r:k<fv Y)(s:k<fv (fT a id)),(Y[k]).1=((fT a id)[k]).1/\(Y[k]).2.kind=((fT a id)[k]).2.1/\mn b n (Y[k]).2 a=(((fT a id)[k]).2.2,a):=by
   intro Y N;obtain⟨ad,_,ae⟩:=lO y c N;obtain⟨O,af⟩:=lrk w N (show kids a (.dir id)=fh ((fT a id).map wd)from fX) ad ab;have C:fv Y=fv (fT a id):=by have:=congrArg List.length O;simpa using this
   refine⟨C,λk r s=>?_⟩;have P:k<fv ((fT a id).map wd):=by simpa using s
   have G:=af k r P;rw[yP]at G;obtain⟨_,m,an,ag⟩:=ae _<|kK r;obtain rfl:m=n:=by omega
   have Q:=ac _<|kK P;rw[yP]at Q;obtain⟨_,ah,ao,ai⟩:=Q;obtain rfl:ah=m:=by omega
   have R:=aa (Y[k]).2 (wd (fT a id)[k]).2 ag ai (Gn _) G;rw[PI]at R;refine⟨?_,?_,R⟩
   have:=congrArg (λl=>l[k]?) O
   simp only[hRS,jG r,jG s,qA,pW]at this;exact this;rw[Gq<|G [],Gp<|L id hid _ (kK s)]
  cases t with
  |file i=>cases q
  |held o=>cases q
  |dir i=>
   have U:fJ a i=2:=by rw[fM]at c;exact c.1
   obtain⟨C,j⟩:=M _ fX;have aj:fT a i=fT a id:=by
    apply cos
    grind
    intro k r s;obtain⟨S,H,I⟩:=j k (by omega) s;rw[yP]at S H I;have ak:mn b n (wd (fT a i)[k]).2 a=((wd (fT a i)[k]).2.id,a):=by
     rcases Gn (fT a i)[k] with⟨g,B⟩|⟨g,B⟩<;>rw[B]<;>cases n<;>(rw[mn];rfl)
    rw[ak,PI]at I;rw[Gp<|L i U _ (kK r)]at H;exact EM S<|EM H (congrArg Prod.fst I)
   rw[mn,f.Vo U hid aj];rfl
  |own v=>
   obtain⟨C,j⟩:=M v fX;have uy:∀k,k<=fv v->lj b n (v.take k) a=((fT a id).take k,a):=by
    intro k
    induction k with
    |zero=>intro _;simp[lj]
    |succ k ap=>
     grind [fT,vv,kP]
   have T:=uy (fv v)<|lw _;rw[sL,C,sL]at T;rw[uA,T];exact f.yf hid

end Go.Proofs.YtlgidcmmgohagaaGreat
namespace Go.Proofs
open Go.Shelf
def Tryz.Za:Go.Shelf.Ren:=⟨λ|6=>167|15=>208|14=>207|28=>233|29=>234|20=>225|21=>226|22=>227|23=>228|24=>229|25=>230|26=>231|27=>232|46=>250|47=>251|48=>252|49=>253|50=>254|57=>263|n=>n,λ|22=>121|24=>133|25=>262|3=>3|39=>301|0=>0|53=>323|55=>325|4=>4|46=>317|45=>316|50=>232|5=>5|9=>9|66=>332|70=>336|76=>350|77=>98|n=>n,λ|n=>n⟩
theorem Tryz.aaA:Go.Proofs.SlLaysF0.n6 Tryz.prog Tryz.Za:={
 mixed:=by kernel_rfl
 f6:=⟨Tryz.f167.name,by decide,Au Tryz.func167<|by kernel_rfl⟩
 f14:=⟨Tryz.f207.name,by decide,Au Tryz.func207<|by kernel_rfl⟩
 f15:=Tryz.func208.trans (congrArg some<|by kernel_rfl)
 f20:=⟨Tryz.f225.name,by decide,Au Tryz.func225<|by kernel_rfl⟩
 f21:=⟨Tryz.f226.name,by decide,Au Tryz.func226<|by kernel_rfl⟩
 f22:=⟨Tryz.f227.name,by decide,Au Tryz.func227<|by kernel_rfl⟩
 f23:=⟨Tryz.f228.name,by decide,Au Tryz.func228<|by kernel_rfl⟩
 f24:=⟨Tryz.f229.name,by decide,Au Tryz.func229<|by kernel_rfl⟩
 f25:=⟨Tryz.f230.name,by decide,Au Tryz.func230<|by kernel_rfl⟩
 f26:=⟨Tryz.f231.name,by decide,Au Tryz.func231<|by kernel_rfl⟩
 f27:=⟨Tryz.f232.name,by decide,Au Tryz.func232<|by kernel_rfl⟩
 f28:=Tryz.func233.trans (congrArg some<|by kernel_rfl)
 f29:=Tryz.func234.trans (congrArg some<|by kernel_rfl)
 f46:=⟨Tryz.f250.name,by decide,Au Tryz.func250<|by kernel_rfl⟩
 f47:=Tryz.func251.trans (congrArg some<|by kernel_rfl)
 f48:=Tryz.func252.trans (congrArg some<|by kernel_rfl)
 f49:=⟨Tryz.f253.name,by decide,Au Tryz.func253<|by kernel_rfl⟩
 f50:=⟨Tryz.f254.name,by decide,Au Tryz.func254<|by kernel_rfl⟩
 f57:=⟨Tryz.f263.name,by decide,Au Tryz.func263<|by kernel_rfl⟩
 t0:=Tryz.underlying0
 a0:=Tryz.isAgg0
 z0:=Tryz.sizeOf0
 v0:=Tryz.zeroValue0
 t3:=Tryz.underlying3
 a3:=Tryz.isAgg3
 z3:=Tryz.sizeOf3
 v3:=Tryz.zeroValue3
 t4:=Tryz.underlying4
 a4:=Tryz.isAgg4
 z4:=Tryz.sizeOf4
 v4:=Tryz.zeroValue4
 t5:=Tryz.underlying5
 a5:=Tryz.isAgg5
 z5:=Tryz.sizeOf5
 v5:=Tryz.zeroValue5
 t9:=Tryz.underlying9
 a9:=Tryz.isAgg9
 z9:=Tryz.sizeOf9
 v9:=Tryz.zeroValue9
 t22:=Tryz.underlying121
 a22:=Tryz.isAgg121
 z22:=Tryz.sizeOf121
 v22:=Tryz.zeroValue121
 t25:=Tryz.underlying262
 a25:=Tryz.isAgg262
 z25:=Tryz.sizeOf262
 v25:=Tryz.zeroValue262
 t39:=Tryz.underlying301
 a39:=Tryz.isAgg301
 z39:=Tryz.sizeOf301
 v39:=Tryz.zeroValue301
 t45:=Tryz.underlying316
 a45:=Tryz.isAgg316
 z45:=Tryz.sizeOf316
 v45:=Tryz.zeroValue316
 t46:=Tryz.underlying317
 a46:=Tryz.isAgg317
 z46:=Tryz.sizeOf317
 v46:=Tryz.zeroValue317
 t50:=Tryz.underlying232
 a50:=Tryz.isAgg232
 z50:=Tryz.sizeOf232
 v50:=Tryz.zeroValue232
 t53:=Tryz.underlying323
 a53:=Tryz.isAgg323
 z53:=Tryz.sizeOf323
 v53:=Tryz.zeroValue323
 t55:=Tryz.underlying325
 a55:=Tryz.isAgg325
 z55:=Tryz.sizeOf325
 v55:=Tryz.zeroValue325
 t66:=Tryz.underlying332
 a66:=Tryz.isAgg332
 z66:=Tryz.sizeOf332
 v66:=Tryz.zeroValue332
 t70:=Tryz.underlying336
 a70:=Tryz.isAgg336
 z70:=Tryz.sizeOf336
 v70:=Tryz.zeroValue336
 t76:=Tryz.underlying350
 a76:=Tryz.isAgg350
 z76:=Tryz.sizeOf350
 v76:=Tryz.zeroValue350
 t77:=Tryz.underlying98
 a77:=Tryz.isAgg98
 z77:=Tryz.sizeOf98
 v77:=Tryz.zeroValue98 }
end Go.Proofs
namespace Go.Proofs.YtlgidcmmgohagaaGreat
open Go.RowKit Go.Sort Go.Shelf Go.Proofs.Tryz
open Go.Value renaming slice->fy,string->fA,pointer->fB,tuple->fC,agg->fD,bool->fE
open Go.Ending renaming returned->fF
open Option renaming some->fh,none->fj
open Bool renaming true->fm,false->fo
open Go renaming World->fq,Value->fu
open List renaming length->fv,reverse->fx
open Go.RowKit renaming Hid->fe
set_option maxRecDepth 100000
set_option maxHeartbeats 0
variable {s i p:Nat}{B:WB}{A:List Ob}{tg0:gC}{w0:fq}{base:Int}{N:WG}{t0:LT}
def TL(w:fq)(x y z):(((w.alloc x).alloc y).alloc z).heap[w.heap.size]?=fh x/\(((w.alloc x).alloc y).alloc z).heap[w.heap.size+1]?=fh y/\(((w.alloc x).alloc y).alloc z).heap[w.heap.size+2]?=fh z:=by
 refine⟨(xM w x y z).1,(xM w x y z).2,?_⟩
 have:=oO ((w.alloc x).alloc y) z
 simpa using this
def uV (n a b c d:Nat)(H e f g Z h l:fO)(k id i j:Int)(W:fq):Prop:=
 W.cell? ⟨a,0,fj⟩=fh (fB<|fh ⟨b,0,fj⟩)/\W.cell? ⟨a,1,fj⟩=fh (fB<|fh ⟨c,0,fj⟩)/\W.cell? ⟨a,2,fj⟩=fh (.map<|fh d)/\
 W.cell? ⟨n,0,fj⟩=fh (fA H)/\W.cell? ⟨n,1,fj⟩=fh (fA e)/\W.cell? ⟨n,2,fj⟩=fh (fA f)/\W.cell? ⟨n,3,fj⟩=fh (fA g)/\W.cell? ⟨n,4,fj⟩=fh (fA Z)/\
 W.cell? ⟨n+1,0,fj⟩=fh (fA h)/\W.cell? ⟨n+1,1,fj⟩=fh (.int .i64 k)/\W.cell? ⟨n+1,2,fj⟩=fh (.int .i64 id)/\
 W.cell? ⟨n+2,1,fj⟩=fh (.int .i64 i)/\W.cell? ⟨n+2,2,fj⟩=fh (.int .i64 j)

theorem hkt{A}(b:Exact A):∀(n:Nat)(c:LT),fM A n c->kO A n c<=n
 |n,.file id,a=>by
  have d:fJ A id=1:=by cases n<;>simpa [fM]using a
  have:kO A n (.file id)=gp A id:=by cases n<;>rfl
  rw[this,b.low id d];omega
 |n,.held g,_=>by
  grind [kO]
 |n,.dir id,a=>by
  grind [gp,fM,kO]
 |0,.own e,_=>by rw[kO];omega
 |n+1,.own e,a=>by
  rw[fM]at a
  rw[kO,iq]
  refine⟨by omega,λx f=>?_⟩
  have:=hkt b n x.2 (a.2.2 x f).2
  omega
def cs (n:Nat)(Y:Kids):Nat:=(Y.map λx=>jd n x.2).sum

abbrev Me:=fO×Int×fO
def ndD:Nd->fO
 |.dir=>⟨#[]⟩
 |.file d=>d
def qT (a:List Ob)(fc:ji):Nat->fQ->LT->List Me
 |0,_,_=>[]
 |n+1,b,c=>((kids a c).getD []).flatMap λx=>(lA (b++[x.1]),x.2.kind,ndD<|nd a fc x.2)::(if x.2.kind=2 then qT a fc n (b++[x.1]) x.2 else [])
def VJ (a:List Ob)(fc:ji)(n:Nat)(b:fQ)(x:fO×LT):List Me:=(lA<|b++[x.1],x.2.kind,ndD<|nd a fc x.2)::(if x.2.kind=2 then qT a fc n (b++[x.1]) x.2 else [])
def PJ{a}{fc}{n:Nat}{b:fQ}{c}{Y:Kids}(d:kids a c=fh Y):qT a fc (n+1) b c=Y.flatMap (VJ a fc n b):=by rw[qT,d];rfl
theorem vec{a b}{fc R}{t c}(d:xc a fc t []=xc b R c []):nd a fc t=nd b R c:=by
 grind [px,rK]
def lrl{a b}{fc R}{t c}(d:nd a fc t=nd b R c):t.kind=c.kind:=by
 cases t<;>cases c<;>simp[nd,LT.kind]at d |-
theorem rB{a}{c:LT}(b:c.kind=2):∃Y,kids a c=fh Y:=by
 cases c with
 |file i=>cases b
 |held d=>cases b
 |dir i=>exact⟨_,fX⟩
 |own e=>exact⟨_,fX⟩
theorem pT{a}{c:LT}(b:c.kind≠2):kids a c=fj:=by
 cases c with
 |file i=>rfl
 |held d=>rfl
 |dir i=>exact absurd fX b
 |own e=>exact absurd fX b
def Gr:Nat->Nat
 |0=>0
 |n+1=>16*(1+Gr n)
theorem Dx{c e:Type}(a:c->List e)(b:Nat):∀(l:List c),(∀x∈l,fv (a x)<=b)->fv (l.flatMap a)<=fv l*b
 |[],_=>by simp
 |x::f,d=>by
  rw[MX,lI,lg,Rt]
  have h:=d x<|oN ..
  have i:=Dx a b f λy g=>d y<|wC _ g
  omega
theorem BJ{a}{fc}(c:Sound a):∀(n:Nat)(b:fQ)(t:LT),fM a n t->fv (qT a fc n b t)<=Gr n
 |0,b,t,_=>by rw[qT];simp[Gr]
 |n+1,b,t,g=>by
  by_cases d:t.kind=2
  have⟨Y,f⟩:=rB (a:=a) d
  have⟨o,h,i⟩:=lO c g f
  rw[PJ f,Gr]
  refine ww (Dx _ (1+Gr n) Y λx j=>?_)<|EH _ h
  unfold VJ
  rw[lg]
  obtain⟨m,e,k⟩:=(i x j).2
  have l:m=n:=by omega
  subst l
  split
  have:=BJ (fc:=fc) c m (b++[x.1]) x.2 k
  omega
  simp
  rw[qT,pT d]
  simp
theorem vis{A}{fc R:ji}{t:LT}(b:∀x a,t.at A x=fh (.held a)->R a=fc a)(x):xc A R t x=xc A fc t x:=by
 unfold xc;rcases d:t.at A x with _|c
 rfl;cases c with
 |file i=>rfl
 |held a=>simp only[qA,nd];rw[b x a d]
 |dir i=>rfl
 |own e=>rfl
def lrr:(prog.info? 9).map (λi=>(i.zero,i.size,i.bytes))=fh (fh<|hZ ByteArray.empty,1,16):=by kernel_rfl
structure xN (w:World)(nb:Nat)(es:List fV)(k:Nat):Prop where
 lt:nb<w.heap.size
 any:∀j,j<es.length->∃x,w.cell? ⟨nb,j,none⟩=some (.string x)
 free:∀o,w.frozen? ⟨nb,o,none⟩=false
 nms:∀j (hj:j<es.length),j<k->w.cell? ⟨nb,j,none⟩=some (.string es[j].1)
 blk:∃cs:Array Value,w.heap[nb]?=some (.cells cs 9 (0,0))/\cs.size=es.length
theorem PK(n:Nat)(d:n<=16)(W):∃cs:Array fu,(Instr.makeSlice 131 (fY (n:Int))<|fY (n:Int)).run prog W=.ok (my W.heap.size 0 n n) (W.k cs 9)/\cs.size=n/\∀a,a<n->∃x,cs[a]?=fh (hZ x):=by
 have⟨b,U,c,e,f⟩:=kM lrr;refine⟨_,run_make W 131 9 b _ abT U c .i64 .i64 n n (by omega) (by omega) (by grind)<|by omega,?_,?_⟩
 all_goals grind [madeCells,Value.cells]
theorem VK{w:fq}{cs:Array fu}{es:List fV}(c:cs.size=fv es)(e:∀a,a<fv es->∃x,cs[a]?=fh (hZ x)):xN (w.k cs 9) w.heap.size es 0:=by
 have b:=oO w<|.cells cs 9;refine⟨by simp,λa d=>?_,λf=>by simp only[World.frozen?,b];simp,λa _ d=>(by omega),⟨cs,b,c⟩⟩
 all_goals simp_all
theorem Zb{w}{c k}{f}(b:xN w c f k)(d):xN (w.alloc d) c f k:=by
 have g:∀a,(w.alloc d).cell? (ie c a)=w.cell? (ie c a):=λa=>by unfold World.cell?;rw[sK _ _ _ b.lt]
 have h:∀a,(w.alloc d).frozen? (ie c a)=w.frozen? (ie c a):=λa=>by unfold World.frozen?;rw[sK _ _ _ b.lt]
 exact⟨by simp;exact Nat.lt_succ_of_lt b.lt,λa e=>by rw[g];exact b.any a e,λi=>by rw[h];exact b.free i,λa e j=>(by rw[g];exact b.nms a e j),by have⟨cs,l,m⟩:=b.blk;exact⟨cs,(sK _ _ _ b.lt).trans l,m⟩⟩
theorem lrs{w}{b k}{c}(d:xN w b c k)(h:k<fv c):xN (w.setCell (ie b k)<|fA c[k].1) b c (k+1):=by
 have⟨x,i⟩:=d.any k h;have n:(w.setCell (ie b k)<|fA c[k].1).cell? (ie b k)=fh (fA c[k].1):=World.cell?_setCell_same _ _ _ i;have g:∀a,a≠k->(w.setCell (ie b k) (fA c[k].1)).cell? (ie b a)=w.cell? (ie b a):=λa f=>seg _ _ _ _ λe=>f (by grind);refine⟨by simpa using d.lt,λa f=>?_,λj=>by rw[ss1];exact d.free j,λa f o=>?_,by have⟨cs,l,m⟩:=d.blk;exact⟨cs.setIfInBounds k<|fA c[k].1,by simp[World.setCell,ED,l],by simpa using m⟩⟩
 ·by_cases e:a=k
  ·all_goals grind
  rw[g a e];exact d.any a f
 by_cases e:a=k
 ·all_goals grind
 rw[g a e];exact d.nms a f<|by omega
theorem TM(t)(H l m n Z)(a:List fV)(q:fq->Prop)(w)(E:fv a<=16)
  (r:∀W,ju w W->ik 131 #[ii t,fD<|ml H l m n Z] W λe J=>∃c h,e=qr #[my c 0 (fv a) h,fY 0]/\q J/\c<J.heap.size/\∀s u,(flat a)[s]?=fh u->J.c c s=fh u):
  ik 127 #[ii t,fD<|ml H l m n Z] w λe J=>∃b,q b/\e=qr #[my b.heap.size 0 (fv a)<|fv a,fY 0]/\ju b J/\xN J b.heap.size a (fv a):=by
 have v:=r _<|(mi w.heap.size w).alloc (lw _) (.cells (ml H l m n Z) 147);have y:fe _:=v;clear r v;go_enter func127,ntmps127;go_wp2_with fail;refine Ps y ?_;rintro e b ⟨c,h,rfl,z,g,A⟩;obtain⟨cs,K,B,o⟩:=PK (fv a) E b;have C:=VK (w:=b) B o
 change fe _ at C z A
 clear y o B;go_wp2
 go_loopw [25] (λi wr=>∃k:Nat,k<=fv a/\i=.int .i64 (k:Int)/\ju b wr/\fe (xN wr b.heap.size a k)) (λi _=>fv a-(intOf i).toNat)
 case atStart=>exact⟨0,Fr _,rfl,(mi _ _).alloc (lw _) _,C⟩
 case round=>
  obtain⟨k,L,rfl,d,f⟩:=hrel;by_cases j:k<fv a
  ·obtain⟨d0,d1,d2⟩:=zS A j
   have M:=(d.cell (p:=(ie c<|k*3)) g).trans d0;have N:=(d.cell (p:=(ie c<|k*3+1)) g).trans d1;have O:=(d.cell (p:=(ie c<|k*3+2)) g).trans d2;have P:c<wr.heap.size:=nz g d.size;have Q:=f.o.lt;obtain⟨x,o⟩:=f.any k j;have R:=f.o.free k;have D:=λF=>Zb (lrs f j) F;have G:fe _:=D;clear d0 d1 d2 D;go_wp2;exact⟨⟨k+1,j,by simp,(wD d (show b.heap.size<=((ie b.heap.size k):Addr).block from lw _) _).alloc (by simpa using d.size) _,G _⟩,by simp only[intOf];omega⟩
  have I:k=fv a:=by omega
  subst I;go_wp2;go_ret2;exact⟨b,z,fX,d,f⟩
def Zc(t)(H b c d Z)(a:Int)(f:a≠0)(g:fq->Prop)(w)
  (h:∀W,ju w W->ik 131 #[ii t,fD<|ml H b c d Z] W λe J=>∃i,e=qr #[i,fY a]/\g J):
  ik 127 #[ii t,fD<|ml H b c d Z] w λe J=>g J/\e=(qr #[fy fj 0 0,fY a]):=by
 have j:=h _<|(mi w.heap.size w).alloc (lw _) (.cells (ml H b c d Z) 147);have k:fe _:=j;have n:(a==0)=fo:=by simpa using f
 clear h j f;go_enter func127,ntmps127;go_wp2_with fail;refine Ps k ?_;rintro e o ⟨i,rfl,l⟩;have m:fe _:=l;clear k l;go_wp2;go_ret2;exact⟨m,fX⟩
theorem Zd(t)(H d f g Z)(h:fq->Prop)(w)
  (j:∀W,ju w W->ik 131 #[ii t,fD<|ml H d f g Z] W λe J=>∃a c,e=qr #[fy a 0 c,fY 0]/\h J):
  ik 127 #[ii t,fD<|ml H d f g Z] w λe J=>∃b,h b/\e=qr #[my b.heap.size 0 0 0,fY 0]/\ju b J/\xN J b.heap.size [] 0:=by
 have k:=j _<|(mi w.heap.size w).alloc (lw _) (.cells (ml H d f g Z) 147);have l:fe _:=k;clear j k;go_enter func127,ntmps127;go_wp2_with fail;refine Ps l ?_;rintro e b ⟨a,c,rfl,m⟩;have⟨cs,n,o,p⟩:=PK 0 (by decide) b;have x:(Instr.makeSlice 131 (fY 0)<|fY 0).run prog b=.ok (my b.heap.size 0 0 0) (b.k cs 9):=n;have q:fe _:=VK (w:=b) (es:=[]) o λy r=>absurd r<|Rq _;have s:fe _:=m;clear l m p o n;go_wp2
 go_loopw [25] (λi wr=>i=.int .i64 0/\ju b wr/\fe (xN wr b.heap.size [] 0)) (λ_ _=>0)
 case atStart=>exact⟨rfl,(mi _ _).alloc (lw _) _,q⟩
 case round=>
  obtain⟨rfl,u,v⟩:=hrel;go_wp2;go_ret2;exact⟨b,s,fX,u,v⟩
theorem hkv(c h:Nat)(l)(i:Good l)(j:fu->Int->fq->Prop)(w:fq)(k:c<w.heap.size)(c0:w.c c 0=fh (ii h))
  (g:∀W,ju w W->ik 127 #[ii h,fD<|jn l] W λe J=>∃a b,e=qr #[a,fY b]/\j a b J):
  ik 68 #[ii c,hZ<|lA l] w λe J=>∃a b,e=qr #[a,fY b]/\j a b J:=by
 have d:=λW=>kj l i W;obtain⟨H,p,q,r,Z,m⟩:=sk l;unfold ln at d;simp only[m]at d g;have n:fe _:=g;clear g m i;generalize lA l=v at d |-;go_enter func68,ntmps68;go_wp2_with(go_at_call 69;refine Hk (d _) λs f=>?_;have d0:=((kw f).1 c 0 k).trans c0;have x:=nz k f.size);have o:=n (s.k (ml H p q r Z) 147).drew<|io (f.alloc f.size _);have t:fe _:=o;clear o n
 go_region_with(go_at_call 127;refine Ps t ?_;rintro e y ⟨a,b,rfl,u⟩)
 all_goals
  go_wp2;go_ret2;exact⟨a,b,fX,u⟩
end Go.Proofs.YtlgidcmmgohagaaGreat
namespace Go
variable {P:Program}{w:World}
end Go
namespace Go.Proofs.YtlgidcmmgohagaaGreat
open Go.RowKit Go.Sort Go.Shelf Go.ChangeShapes Go.WideShapes Go.Deep Go.Proofs.Tryz
open Go.Value renaming slice->fy,string->fA,pointer->fB,tuple->fC,agg->fD,bool->fE
open Go.Ending renaming returned->fF
open Option renaming some->fh,none->fj
open Bool renaming true->fm,false->fo
open Go renaming World->fq,Value->fu
open List renaming length->fv,reverse->fx
open Go.RowKit renaming Hid->fe
variable {H:Type}{w:fq}{base:Nat}{sp:Nat->Bool}{held:Bool}
section
variable {enc:ni×fu->H}
end
end Go.Proofs.YtlgidcmmgohagaaGreat
namespace Go.Proofs.YtlgidcmmgohagaaGreat
open Go.RowKit Go.Sort Go.Shelf Go.Proofs.Tryz
open Go.Value renaming slice->fy,string->fA,pointer->fB,tuple->fC,agg->fD,bool->fE
open Go.Ending renaming returned->fF
open Option renaming some->fh,none->fj
open Bool renaming true->fm,false->fo
open Go renaming World->fq,Value->fu
open List renaming length->fv,reverse->fx
open Go.RowKit renaming Hid->fe
set_option maxRecDepth 100000
set_option maxHeartbeats 0
variable {s i p I:Nat}{B:WB}{A a b:List Ob}{tg0:gC}{w0 W wr:fq}{N:WG}{t0:LT}{fc R:ji}{rows:List (fu×List Me)}

def uW (a:List Ob)(fc:ji)(t:LT)(b:List Ob)(R:ji)(c:LT):Prop:=∀x,xc a fc t x=xc b R c x
def Ac{a}{t}(b:kids a t=fj):jy a t=(5,[]):=by cases t<;>simp[kids,jy]at b |-
def vY{a}{t}{Y:Kids}(b:kids a t=fh Y):jy a t=(0,Y):=by cases t<;>simp[kids,jy]at b |-<;>exact b
theorem vZ{t}{b}(c:(pm a t b).1=0):t.at a (fx b)=fh (pm a t b).2:=by
 rcases Ba a (λ_=>kq) t b with⟨_,d⟩|⟨e,_⟩
 all_goals omega
theorem hkx{a}(c:Exact a){n:Nat}{t}{Y:Kids}(b:kids a t=fh Y)(d:∀id,t=.dir id->fJ a id=2):kO a (n+1) t=Y.foldl (λe x=>max e<|1+kO a n x.2) 0:=by
 cases t with
 |file id=>cases b
 |held f=>cases b
 |own g=>cases b;rw[kO]
 |dir id=>
  cases b;rw[kO,c.high id<|d id fX,List.foldl_map]
  grind [gy,wd,ltOf,kO]
def TN{a}{n}{t}(b:fM a n t):∀id,t=.dir id->fJ a id=2:=λid e=>by subst e;rw[fM]at b;exact b.1
theorem hkB{a}(d:Exact a){n m}{t}(b:fM a m t)(c:t.kind≠2):kO a n t=0:=by
 cases t with
 |file id=>rw[kO];rw[fM]at b;exact d.low id b
 |held e=>rw[kO]
 |own f=>exact absurd fX c
 |dir id=>exact absurd fX c
theorem Ze(x:fQ):xc a fc (.own []) x=if x=[]then fh .dir else fj:=by
 rcases x with _|⟨n,b⟩
 rw[px];rfl;rw[ul,km<|by simp];rfl
theorem Gs{t}{b}:(jA a t b).1≠14:=by
 unfold jA;simp only;rcases Ba a (λ_=>kq) t b with⟨c,_⟩|⟨c,_⟩
 all_goals grind [wT,pm]
theorem uX{t}{r}(b:(jA a t r).1=0):∃d,t.at a (fx r)=fh d/\kids a d=fh (jA a t r).2:=by
 have:=Mc (A:=a) (t:=t) (fs:=oY) (r:=r) (by rw[mK];exact b)
 grind [mK]
theorem lrv{t d c:LT}{b}{n}{Y:Kids}(f:t.at a b=fh d)(g:kids a d=fh Y)(h:fP Y)(x):
  xc a fc (vy a (λY=>zr Y n c) b t) x=if b++[n] <+: x then xc a fc c (x.drop<|fv (b++[n]))else xc a fc t x:=by
 have⟨i,j⟩:=Ev (fc:=fc) (n:=n) h f g c;by_cases e:(b++[n]) <+: x;rw[lv e];obtain⟨k,rfl⟩:=e
 grind
 grind
theorem Mf{p x:fQ}(a:p <+: x):x.drop (fv p)=[]↔x=p:=by
 obtain⟨b,rfl⟩:=a
 grind
theorem TP{t}(h:Sound a)(k:fM a 5 t)(n:fO)(c:fQ){er:Int}{t':LT}(b:(jD a t oY (n::c)).2=(er,t')):
  er≠14/\(er≠0->t'=t)/\(er=0->xc a fc t (fx c++[n])=fj/\∀x,xc a fc t' x=if x=fx c++[n]then fh .dir else if fx c++[n] <+: x then fj else xc a fc t x):=by
 unfold jD at b;simp only[mK]at b;split at b
 rename_i f
 cases b;exact⟨Gs,λ_=>rfl,λe=>absurd e f⟩
 rename_i f
 obtain⟨d,i,j⟩:=uX<|oP.1 f;split at b
 grind
 rename_i l
 split at b
 grind
 cases b;refine⟨by decide,λe=>absurd fX e,λ_=>⟨?_,λx=>?_⟩⟩
 ·all_goals grind [mY,jp,jA,absurd]
 rw[lrv i j<|(lO h (tA h _ k i).2.1 j).1,Ze];by_cases g:fx c++[n] <+: x;rw[lv g];by_cases e:x=fx c++[n]
 grind
 rw[km λb=>e<|(Mf g).1 b,km e,lv g]
 grind
theorem Kh{t}{n:fO}{b:fQ}(c:(pm a t (n::b)).1=0):∃d Y,t.at a (fx b)=fh d/\kids a d=fh Y/\jp Y n=fh (pm a t (n::b)).2/\t.at a (fx b++[n])=fh (pm a t (n::b)).2:=by
 have:=vZ c
 grind [kL,yb]
def Gt{t}{b}:(pm a t b).1≠14:=by
 rcases Ba a (λ_=>kq) t b with⟨c,_⟩|⟨c,_,d⟩<;>omega
def Dy(c):(yn a oY c).2=0\/(yn a oY c).2=5\/(yn a oY c).2=8:=by
 unfold yn;simp only[sg];split;omega;split;omega;cases c<;>simp[jy]
def Zf(b:Bool)(Y)(n)(c):(mC a oY b Y n c).2≠14:=by
 unfold mC;rcases jp Y n with _|e
 simp only;split<;>simp;simp only;unfold lB;split;simp;split;simp
 have:=Dy (a:=a) e
 omega
theorem PL{t}(g:Sound a)(l:fM a 5 t)(n:fO)(c:fQ){er:Int}{t':LT}(b:(gV a t oY (n::c)).2=(er,t')):
  er≠14/\(er≠0->t'=t)/\(er=0->xc a fc t (fx c++[n])≠fj/\∀x,xc a fc t' x=if fx c++[n] <+: x then fj else xc a fc t x):=by
 unfold gV at b;simp only[mJ]at b;split at b
 rename_i f
 cases b;exact⟨Gt,λ_=>rfl,λe=>absurd e f⟩
 rename_i f
 have z:=oP.1 f;have⟨d,Y,h,i,m,o⟩:=Kh z;have j:=(lO g (tA g _ l h).2.1 i).1;split at b
 rename_i p
 cases b
 have:=Dy (a:=a) (pm a t (n::c)).2
 grind
 cases b;obtain⟨q,r⟩:=NM (fc:=fc) j (by rw[<-rh j,m];rfl) h i;refine⟨by decide,λe=>absurd fX e,λ_=>⟨by unfold xc;rw[o];simp,λx=>?_⟩⟩;by_cases k:fx c++[n] <+: x
 ·rw[lv k]
  obtain⟨y,rfl⟩:=k
  all_goals grind
 all_goals grind
theorem PM{t}(l:Sound a)(o:fM a 5 t)(n m:fO)(c f:fQ){er:Int}{t':LT}(b:(QP a t oY (n::c) (m::f)).2=(er,t')):
  er≠14/\(er≠0->t'=t)/\(er=0->xc a fc t (fx c++[n])≠fj/\(fx c++[n]≠fx f++[m]->¬fx c++[n] <+: fx f++[m])/\∀x,xc a fc t' x=if fx c++[n]=fx f++[m]then xc a fc t x else if fx f++[m] <+: x then xc a fc t (fx c++[n]++x.drop (fv<|fx f++[m]))else if fx c++[n] <+: x then fj else xc a fc t x):=by
 have p:n::c=m::f↔fx c++[n]=fx f++[m]:=by
  grind [kL,cnf]
 unfold QP at b;simp only[mJ,mK,kL]at b;split at b
 rename_i g
 cases b;exact⟨Gt,λ_=>rfl,λe=>absurd e g⟩
 rename_i g
 have z:=oP.1 g;have⟨d,Y,q,r,s,i⟩:=Kh z;have u:xc a fc t (fx c++[n])≠fj:=by unfold xc;rw[i];simp
 split at b
 grind
 rename_i uy
 split at b
 ·rename_i h
  cases b;refine⟨Gs,λ_=>rfl,λe=>?_⟩
  all_goals grind
 rename_i h
 have j:=oP.1 λb=>h<|.inl b;have v:¬n::c=m::f:=λb=>h<|.inr b;split at b
 rename_i k
 cases b;exact⟨Zf _ _ _ _,λ_=>rfl,λe=>absurd e k⟩;split at b
 grind
 cases b;have⟨w,y,A⟩:=uX j
 grind [decide,absurd,RY]
abbrev Slot:=Nat×WB×WG×LT
structure En (tg:gC)(w:World)(p:Nat)(gI:List Ob)(lim:Nat)(x:Slot):Prop where
 two:2<=x.1
 wp:qF tg w x.1 p x.2.1 gI x.2.2.1 lim
 flat:Flat gI x.2.2.2 x.2.2.1.ft
 ok:fM gI 5 x.2.2.2
 fl:vV gI x.2.2.1.fl
 inj:gL gI x.2.2.2
def En.moves{P:Nat×Nat->Prop}{T M}{w J}{p}{A}{I}{x}(a:En T w p A I x)(m:fI P T M w J)(b:∀k,¬P (x.1,k)):En M J p A I x:=⟨a.two,a.wp.moves m b,a.flat,a.ok,a.fl,a.inj⟩
section
variable {ws:List Slot}
end
def kW (k id:Int):LT:=if k=2 then .dir id else .file id
def Zg(n:fO)(k id:Int):ltOf (n,k,id)=kW k id:=fX
theorem VL(a):∀(x:fQ)(t:LT),((∃i,t=.file i)\/∃i,t=.dir i)->∀b,t.at a x≠fh (.held b)
 |[],t,f,b,e=>by
  grind [pd]
 |n::h,t,f,b,e=>by
  rw[lh]at e
  rcases f with⟨i,rfl⟩|⟨i,rfl⟩
  cases e
  rw[show kids a (.dir i)=fh ((fT a i).map wd)from fX,wy]at e
  rcases d:jp ((fT a i).map wd) n with _|c
  rw[d]at e;cases e
  rw[d,wy]at e
  obtain⟨y,g,k⟩:∃y∈fT a i,c=ltOf y:=by
   unfold jp at d;obtain⟨z,j,rfl⟩:=EE.1 d;obtain⟨y,g,rfl⟩:=jC.1<|Hv j;exact⟨y,g,fX⟩
  refine VL a h c ?_ b e
  grind [ltOf]
def uY{a}{t:LT}(b:(∃i,t=.file i)\/∃i,t=.dir i)(fc R):uW a fc t a R t:=λx=>vis (λx c d=>absurd d<|VL a x t b c) x
theorem ng{a}(d:Sound a)(l:List Ob)(fc:ji):∀(x:fQ)(n:Nat)(t:LT),fM a n t->xc (a++l) fc t x=xc a fc t x
 |[],n,t,b=>by
  rw[px,px]
  cases t with
  |file i=>rw[fM]at b;simp only[nd];rw[tj l<|by omega]
  |held g=>rfl
  |dir i=>rfl
  |own h=>rfl
 |m::j,n,t,b=>by
  have o:kids (a++l) t=kids a t:=by
   cases t with
   |file i=>rfl
   |held g=>rfl
   |dir i=>rw[fM]at b;simp only[kids];rw[pK l<|by omega]
   |own h=>rfl
  rw[ul,ul,o];cases p:kids a t with
  |none=>rfl
  |some Y=>
   rw[wy,wy];rcases s:jp Y m with _|c
   rfl;rw[wy,wy];have q:∃y∈Y,y.2=c:=by
    grind [jp,EE,Hv]
   obtain⟨y,r,e⟩:=q;obtain⟨k,_,f⟩:=((lO d b p).2.2 y r).2;rw[e]at f;exact ng d l fc j k c f
def Mg{a}{b}(e:og a b)(l:List Ob):gz (a++l) b=gz a b:=by
 funext c
 unfold gz;rcases f:b c with _|x
 rfl;obtain⟨id,d⟩:=x;simp only;split
 rename_i g
 rw[tj l (by rw[(e c id d f).1 g];decide)];rfl
theorem PO(a)(fc)(i:Int)(x):xc a fc (.file i) x=if x=[]then fh (.file (bytesOf a i))else fj:=by
 rcases x with _|⟨n,b⟩
 rw[px];rfl;rw[ul,km<|by simp];rfl
def PS(a)(fc)(b)(x):xc a fc (.held b) x=if x=[]then fh (.file<|fc b)else fj:=by
 rcases x with _|⟨n,c⟩
 rw[px];rfl;rw[ul,km<|by simp];rfl
theorem TQ{a b:List Ob}{fc R}{Y ku:Kids}(f:fv Y=fv ku)(g:∀k(h:k<fv Y)(i:k<fv ku),(Y[k]).1=(ku[k]).1/\uW a fc (Y[k]).2 b R (ku[k]).2)(n)(x):((jp Y n).bind λc=>xc a fc c x)=((jp ku n).bind λc=>xc b R c x):=by
 induction Y generalizing ku with
 |nil=>
  rcases ku with _|⟨y,j⟩
  rfl;cases f
 |cons z j l=>
  rcases ku with _|⟨y,m⟩
  cases f;have d:=g 0 (by simp) (by simp);simp only[Hx]at d;have o:=l (ku:=m) (by grind) (λk h i=>by have:=g (k+1) (by grind) (by grind);simpa using this);unfold jp at o |-;rw[Na,Na,d.1];by_cases e:y.1=n;simp only[e,WJ,qA,wy];exact d.2 x
  grind
theorem TR(b:Nat->Option (Int×fO))(n:Nat)(r:n<=5)(j)(B:∀(c:LT)(a:List Ob),Exact a->fM a n c->og a b->uW (mn b n c a).2 j (kW c.kind (mn b n c a).1) a (gz a b) c):∀(l:Kids)(a:List Ob),Exact a->og a b->(∀x ∈ l.reverse,fN x.1=true/\fM a n x.2)->
  (lj b n l.reverse a).1.length=l.reverse.length/\∀k(e:k<(lj b n l.reverse a).1.length)(s:k<l.reverse.length),((lj b n l.reverse a).1[k]).1=(l.reverse[k]).1/\uW (lj b n l.reverse a).2 j (ltOf<|(lj b n l.reverse a).1[k]) a (gz a b) (l.reverse[k]).2:=by
 intro l
 induction l with
 | nil=>intro a _ _ _;exact⟨fX,λk e=>absurd e<|Rq _⟩
 | cons x d C=>
  intro a f g t;have u:∀y ∈ d.reverse,fN y.1=true/\fM a n y.2:=λy O=>t y (by grind)
  obtain⟨v,D⟩:=C a f g u;obtain⟨w,P,E,Q⟩:=rZ b n (λc a F h G=>kQ b n r c a F h G) d.reverse a f g u;obtain⟨i,m⟩:=w.app;obtain⟨_,h⟩:=t x (by simp);have z:fM (lj b n d.reverse a).2 n x.2:=by rw[m];exact jl i n _ h
  have A:og (lj b n d.reverse a).2 b:=by rw[m];exact g.app i
  have o:=w.exact f;obtain⟨H,I⟩:=(kQ b n r x.2 (lj b n d.reverse a).2 o z A).dr.app;rw[kL,kP];simp only;refine⟨by rw[lI,v,lI];rfl,λk e s=>?_⟩;by_cases p:k<d.reverse.length;have q:k<(lj b n d.reverse a).1.length:=by rw[v];exact p
  rw[KS q,KS p];obtain⟨J,K⟩:=D k q p;refine⟨J,λy=>?_⟩;rw[<-K y,I];obtain⟨_,_⟩:=E _<|kK q;refine ng o.sound H j y n _ ?_
  grind [ltOf,fM,kK,absurd]
  have L:k=d.reverse.length:=by
   grind
  subst L;have M:((lj b n d.reverse a).1 ++ [(x.1,x.2.kind,(mn b n x.2 (lj b n d.reverse a).2).1)])[d.reverse.length]'e=(x.1,x.2.kind,(mn b n x.2 (lj b n d.reverse a).2).1):=by
   grind
  have N:(d.reverse ++ [x])[d.reverse.length]'s=x:=by
   grind
  rw[M,N];refine⟨fX,λy=>?_⟩;rw[Zg,(B x.2 (lj b n d.reverse a).2 o z A) y,m,Mg g i];exact ng f.sound i _ y n _ h
theorem Gu(b:Nat->Option (Int×fO))(j):∀(n:Nat),n<=5->∀(c:LT)(a:List Ob),Exact a->fM a n c->og a b->uW (mn b n c a).2 j (kW c.kind (mn b n c a).1) a (gz a b) c:=by
 have u:∀(n f:Nat)(a:List Ob),Exact a->og a b->uW (kI (b f) a).2 j (.file (kI (b f) a).1) a (gz a b) (.held f):=by
  intro n f a g h x;rw[PO,PS]
  have:bytesOf (kI (b f) a).2 (kI (b f) a).1=gz a b f:=by
   unfold gz;cases A:b f with
   | none=>exact (AX g (d:=kq)<|by decide).2.2.1
   | some y=>
    obtain⟨id,d⟩:=y;simp only;by_cases q:id≠0
    grind [kI]
    rw[km q,show kI (some (id,d)) a=kg a d by simp[kI,q]];exact (AX g (d:=d)<|(h f id d A).2 (oP.1 q)).2.2.1
  rw[this]
 intro n
 induction n with
 | zero=>
  intro _ c a g i h;cases c with
  | file id=>rw[mn];exact uY (.inl ⟨_,fX⟩) _ _
  | dir id=>rw[mn];exact uY (.inr ⟨_,fX⟩) _ _
  | held f=>rw[mn];exact u 0 f a g h
  | own es=>
   have B:es = []:=by
    cases es with
    | nil=>rfl
    | cons x v=>obtain⟨_,m,e,_⟩:=(lO g.sound i (Y:=x :: v) fX).2.2 x<|oN ..;omega
   subst B;rw[mn];obtain⟨d1,d2,d3,_⟩:=Eu g (es:=[]) (by show (0:Int)<=5;decide) List.Pairwise.nil (by simp) (λe C=>by cases C);intro x;show xc (kC a []).2 j (.dir (kC a []).1) x=_;rcases x with _ | ⟨m,v⟩
   rw[px,px];rfl;rw[ul,ul];simp only[kids,d3];rfl
 | succ n D=>
  intro P c a g i h;cases c with
  | file id=>rw[mn];exact uY (.inl ⟨_,fX⟩) _ _
  | dir id=>rw[mn];exact uY (.inr ⟨_,fX⟩) _ _
  | held f=>rw[mn];exact u n f a g h
  | own es=>
   obtain⟨E,Q,F⟩:=lO g.sound i (Y:=es) fX;have G:∀y ∈ es,fN y.1=true/\fM a n y.2:=λy H=>by
    obtain⟨l,m,e,r⟩:=F y H
    have:m=n:=by omega
    subst this;exact⟨l,r⟩
   obtain⟨I,J,o,R⟩:=rZ b n (λc a s i t=>kQ b n (by omega) c a s i t) es a g h G;have hkr:=TR b n (by omega) j (λc a s i t=>D (by omega) c a s i t) es.reverse a g h (by grind);simp only[uo] at hkr;obtain⟨S,K⟩:=hkr;rw[uA];have w:=I.exact g;obtain⟨d1,d2,d3,_⟩:=Eu w (es:=(lj b n es a).1) (uz.2 ⟨by decide,λe p=>by have:=(o e p).2.2.2;omega⟩) (vK J E) (by omega) λe p=>⟨(o e p).1,(o e p).2.1,(o e p).2.2.1⟩;obtain⟨L,M⟩:=d1.app;intro x;show xc (kC (lj b n es a).2 (lj b n es a).1).2 j (.dir (kC (lj b n es a).2 (lj b n es a).1).1) x=_;cases x with
   | nil=>rw[px,px];rfl
   | cons m y=>
    rw[ul,ul];simp only[kids,d3,wy];refine TQ (by grind) (λk l r=>?_) m y;rw[oL] at l;obtain⟨N,O⟩:=K k l r;rw[yP];refine⟨N,λz=>?_⟩;rw[<-O z,M];obtain⟨_,T,U,V⟩:=o _<|kK l;refine ng w.sound L j z n _ ?_;show fM (lj b n es a).2 n<|ltOf _
    grind [ltOf,fM,absurd]
theorem hkN{a}(d:Sound a)(l:List Ob):∀(x:fQ)(n:Nat)(t:LT),fM a n t->t.at (a++l) x=t.at a x
 |[],n,t,_=>by rw[pd,pd]
 |m::x,n,t,b=>by
  rw[lh,lh]
  have e:kids (a++l) t=kids a t:=by
   cases t with
   |file i=>rfl
   |held j=>rfl
   |own o=>rfl
   |dir i=>
    have p:fJ a i=2:=by cases n<;>(rw[fM]at b;exact b.1)
    show fh _=fh _
    grind [pK,decide]
  rw[e];cases f:kids a t with
  |none=>rfl
  |some Y=>
   simp only[wy];rcases g:jp Y m with _|c
   rfl;simp only[wy];obtain⟨k,_,h⟩:=((lO d b f).2.2 (m,c)<|rX g).2;exact hkN d l x k c h
theorem En.app{p}{A}{I}{T}{w}{x}(q:Sound A)(a:En T w p A I x)(l:List Ob):En T w p (A++l) I x:=by
 have i:=λf=>hkN q l f 5 _ a.ok;have S:∀id,fJ A id=1->bytesOf (A++l) id=bytesOf A id:=λid j=>tj l (by omega);have r:∀id,fJ A id=2->fT (A++l) id=fT A id:=λid j=>pK l (by omega);have h:∀id k,fJ A id=k->k≠0->fJ (A++l) id=k:=λid k j g=>by rw[jR l<|by omega];exact j
 refine⟨a.two,?_,⟨a.flat.kind,a.flat.root,λf=>by rw[i f];exact a.flat.od f,λf=>by rw[i f];exact a.flat.of f⟩,jl l 5 _ a.ok,λs id d t g=>h id 1 (a.fl s id d t g)<|by decide,λy z b n o=>by rw[i]at n o;exact a.inj y z b n o⟩;have c:=a.wp;have⟨u,v,B,C,D,U,E⟩:=c.nP;have⟨F,G,H,J,K,O,L,m⟩:=c.nQ;refine⟨c.tree,⟨u,v,B,C,D,λid=>?_,λid hid=>h id 1 (E id hid)<|by decide⟩,⟨F,G,H,J,K,O,L,λid hid=>⟨h id 2 (m id hid).1<|by decide,by rw[r id (m id hid).1];exact(m id hid).2⟩⟩,c.uf,c.qo,c.files,c.held,c.opens,⟨λg=>h _ 2 (c.ok.root g)<|by decide,λf M N e P=>?_⟩⟩
 grind
 have⟨Q,R⟩:=c.ok.od f M N e P;exact⟨Q,λg=>h _ _ (R g)<|by omega⟩
theorem PT(a:fQ):∀k,k<=fv a->iT (oC a k)=iY ((a.take k).map iT)
 |0,_=>rfl
 |k+1,c=>by
  have d:=PT a k<|by omega
  have b:a.getD k kq=a[k]:=by rw[yN,jG<|by omega];rfl
  rw[vv<|by omega,nZ,lM,Cf]
  simp only[oC]
  rw[b,rW]
  split
  all_goals grind [zB,List.length,oL,kT,zw,rW,iT,oC,iY]
theorem jX(a):iT (fG a)=iY (a.map iT):=by
 grind [fG,PT,sL]
theorem Dz:∀(a:List UInt8)(c:UInt8),sf (a++[c])=if c=47 then sf a++[[]] else(sf a).dropLast++[(sf a).getLastD []++[c]]
 |[],c=>by
  grind [sf]
 |d::b,c=>by
  have f:=rj b
  simp only[Ea,sf]
  rw[(Dz b c)]
  rcases g:sf b with _|⟨y,t⟩
  exact absurd g f
  by_cases h:d=47
  ·all_goals grind
  simp only[km h]
  by_cases e:c=47
  simp[e]
  simp only[km e]
  cases t with
  |nil=>simp
  |cons z i=>simp
def hlb{s:fO}{i:Nat}(a:i<s.size):cutAt s i=decide (s[i]=47):=by unfold cutAt;rw[dif_pos a]
theorem Zh{s}:cutAt s s.size=fm:=by unfold cutAt;rw[dif_neg<|by omega]
theorem qu(s:fO)(a b):iT (s.extract a b)=((iT s).take b).drop a:=by
 unfold iT;rw[bwd];simp[List.drop_take]
theorem hlf(s:fO):∀i,i<=s.size->sf ((iT s).take i)=(lT s i).1.map iT++[((iT s).take i).drop (lT s i).2]
 |0,_=>rfl
 |i+1,b=>by
  have d:=JC s i
  have U:i<fv (iT s):=by rw[PP];omega
  obtain⟨c,a⟩:=oX<|(iT s)[i]
  have hcut:cutAt s i=decide (c=47):=by rw[hlb (by omega:i<s.size),a];rfl
  rw[vv U,<-a,Dz,(hlf s i<|by omega)]
  simp only[lT,hcut]
  by_cases e:c=47
  grind [WJ,qu,Wm,lI,kT,lg,zw]
  all_goals grind
theorem PU(s):(lT s<|s.size+1).1.map iT=sf (iT s):=by
 grind [hlf,iT,PP,sL,lT,Zh,qu]
theorem TS(s):fG (lT s<|s.size+1).1=s:=by
 apply iF;rw[jX,PU,wZ]
theorem Ad{x}(a:fN x=fm):∀c∈iT x,c≠47:=by
 unfold fN at a;simp only[EI,Hz]at a;intro c b e;subst e;have⟨g,d,f⟩:=rI b;exact Lg d f a.2
theorem xO:∀{a b:fQ},a.map iT=b.map iT->a=b
 |[],[],_=>rfl
 |[],_::_,c=>by cases c
 |_::_,[],c=>by cases c
 |x::d,y::t,c=>by
  simp only[lM,Ce]at c
  rw[iF c.1,xO c.2]
theorem xP{l:fQ}(d:∀x∈l,fN x=fm):(fG l).size=0↔l=[]:=by
 constructor;intro a;rcases l with _|⟨x,c⟩
 rfl;have e:=(xj<|d x (oN ..)).1;have b:fv (iT<|fG (x::c))=0:=by rw[PP];exact a
 rw[jX,lM]at b;cases c with
 |nil=>simp only[Cf,iY,PP]at b;omega
 |cons y t=>simp only[lM,iY,lI,lg]at b;omega
 intro a;subst a;rfl
theorem Zi{l:fQ}(a:l≠[])(b:∀x∈l,fN x=fm):(lT (fG l)<|(fG l).size+1).1=l:=by
 apply xO;rw[PU,jX];refine td _ (by simpa using a) λx c=>?_
 grind [Ad]
theorem Ae{l:fQ}(a:∀x∈l,fN x=fm):jz (fG l)=(l,decide (fv l<=5)):=by
 unfold jz
 grind [xP,Zi]
theorem Gv{p}(a:(jz p).2=fm):fG (jz p).1=p:=by
 unfold jz at a |-;split at a
 ·next h0=>
  rw[lv h0];apply iF
  have:fv (iT p)=0:=by rw[PP];exact h0
  rw[KQ this];rfl
 grind [TS]
theorem tk{a b:fQ}(c:∀x∈a,fN x=fm)(d:∀x∈b,fN x=fm)(e:fG a=fG b):a=b:=by
 grind [Ae,Prod.mk.inj]
def Ki:∀(a b:List UInt8),sf (a++47::b)=sf a++sf b
 |[],b=>by simp[sf]
 |c::d,b=>by
  simp only[Ea,sf]
  rw[(Ki d b)]
  rcases e:sf d with _|⟨y,t⟩
  exact absurd e<|rj d
  split<;>simp
theorem yD:∀(a b:List (List UInt8)),a≠[]->b≠[]->iY (a++b)=iY a++47::iY b
 |[],b,h,_=>absurd fX h
 |[x],b,_,c=>by rw[cbv,vI x c];rfl
 |x::y::d,b,_,c=>by
  have e:=yD (y::d) b (by simp) c
  grind [vI]
theorem PV{l:fQ}(a:l≠[])(b:fL l):iY (l.map iT)≠[]:=by
 intro e;rw[<-jX]at e;have c:(fG l).size=0:=by rw[<-PP,e];rfl
 exact a<|(xP b).1 c
theorem PW(p t):Do p t=fm↔∃a,a≠[]/\iT p=iT t++47::a:=by
 unfold Do;constructor
 ·intro b
  split at b
  ·next hl=>
   simp only[EI,Hz]at b;obtain⟨d,e⟩:=b;have c:iT (p.extract 0 t.size)=iT t:=by rw[<-mE,<-mE];exact eq_of_beq d
   rw[qu,Eb]at c;have f:t.size<fv (iT p):=by rw[PP];omega
   refine⟨(iT p).drop<|t.size+1,?_,?_⟩
   grind [List.length,rL,PP,zw]
   have g:=KU t.size<|iT p;rw[c,KR f]at g;have j:(iT p)[t.size]=47:=e
   grind
  cases b
 rintro⟨a,h,b⟩;have k:p.size=t.size+1+fv a:=by
  grind [List.length,PP,lI,lg]
 have l:0<fv a:=Ww.2 h;rw[dif_pos<|by omega];simp only[EI,Hz];constructor
 grind [iT,qu,PP,sL,mE]
 have i:(iT p)[t.size]'(by rw[PP];omega)=47:=by
  grind [List.getElem_append_right,PP]
 exact i
theorem nV{l m}(e:fL l)(h:fL m)(f:m≠[]):Do (fG l) (fG m)=fm↔∃a,a≠[]/\l=m++a:=by
 rw[PW,jX,jX];constructor;rintro⟨a,b,g⟩;have i:l≠[]:=by
  rintro rfl
  have:=congrArg List.length g
  grind [iY]
 have j:=congrArg sf g;rw[Ki,td _ (by simpa using i) (λx c=>by obtain⟨y,d,rfl⟩:=jC.1 c;exact Ad<|e y d),td _ (by simpa using f) (λx c=>by obtain⟨y,d,rfl⟩:=jC.1 c;exact Ad<|h y d)]at j;have k:(l.take<|fv m).map iT=m.map iT:=by
  grind [Wx,oM]
 grind [List.length,sf,Ww,rj,lI,oL,rL,zw,xO,kT,min,KU]
 rintro⟨a,b,rfl⟩;refine⟨iY<|a.map iT,PV b e.right,?_⟩;rw[nZ,yD _ _ (by simpa using f) (by simpa using b)]
theorem rC{l}(a:fL l):(jz<|fG l).1=l:=by rw[Ae a]
theorem kR{l d}(a:fL l)(b:fL d):wl (fG l) (fG d)=fm↔∃x,l=d++[x]:=by
 unfold wl;rw[rC a,EI,Hz];constructor;rintro⟨e,f⟩;have c:fG (l.take<|fv l-1)=fG d:=by
  grind [iF,mE]
 refine⟨l[fv l-1],?_⟩;rw[<-(tk (a.take _) b c)]
 have:=vv (l:=l) (i:=fv l-1)<|by omega
 grind
 rintro⟨x,rfl⟩;refine⟨by simp,?_⟩
 have:(d++[x]).take (fv (d++[x])-1)=d:=by simp
 grind
theorem Af{d:fQ}{x:fO}(a:fL (d++[x])):sr (fG<|d++[x])=x:=by
 grind [sr,rC]
def pU (E:List fV):Prop:=∀e∈E,∃l,l≠[]/\fL l/\fv l<=5/\e.1=fG l
def oJ (E:List fV):Prop:=(E.map (·.1)).Nodup
def gj (E:List fV)(l:fQ):Option (Int×Int):=if l=[]then fh (2,0) else(E.find? λe=>decide (e.1=fG l)).map (·.2)
theorem rD(E)(p):(QQ E p).bind (λi=>(E[i]?).map (·.2))=(E.find? λe=>decide (e.1=p)).map (·.2):=by
 unfold QQ;have e:(λe:fV=>decide (e.1.toList=p.toList))=λe=>decide (e.1=p):=by
  grind [yv,iF,mE]
 rw[e]
 induction E with
 |nil=>rfl
 |cons x a b=>
  rw[col,Na];cases c:decide (x.1=p) with
  |true=>simp
  |false=>
   rw[<-b];cases d:a.findIdx? (λe=>decide (e.1=p)) with
   |none=>simp
   |some i=>simp
theorem Zj{E}{l}(b:fL l):ol E (fG l)=((gj E l).map (·.1)).getD 0:=by
 unfold ol gj;by_cases a:l=[];subst a;rw[lv (by rw[mE];rfl),lv fX];rfl
 grind [fG,mE,jX,PV,rD,QQ]
theorem PX{a b}(d:fL a)(f:fL b):((fG a).toList==(fG b).toList)=decide (a=b):=by
 by_cases c:a=b;subst c;simp;rw[yv c];refine EF.2 λe=>c<|tk d f (iF ?_)
 grind [mE]
theorem qU{l m:fQ}:(m=l\/∃a,a≠[]/\m=l++a)↔l <+: m:=by
 constructor
 grind
 rintro⟨a,rfl⟩
 grind
theorem qw{a l}(b:fL a)(c:fL l)(d:l≠[]):(((fG a).toList==(fG l).toList)=fm\/Do (fG a) (fG l)=fm)↔l <+: a:=by
 grind [PX,nV,qU]
theorem nh{E}{m:fQ}(a:m≠[]):gj E m=(E.find? λe=>decide (e.1=fG m)).map (·.2):=by unfold gj;rw[km a]
theorem uZ{E}{l m}(d:fL l)(a:l≠[])(e:fL m):gj (vx E<|fG l) m=if l <+: m then fj else gj E m:=by
 by_cases b:m=[];subst b;rw[km λc=>a<|List.prefix_nil.1 c];rfl
 grind [nh,vx,qw,fG,absurd,Do]
theorem CM{E}{l m}{k f:Int}(c:fL l)(d:l≠[])(g:fL m)(h:gj E l=fj):gj (E++[(fG l,k,f)]) m=if m=l then fh (k,f)else gj E m:=by
 by_cases b:m=[];subst b;rw[km λa=>d a.symm];rfl;rw[nh b,nh b,List.find?_append];by_cases a:m=l
 grind [nh,decide,fG]
 rw[km a]
 have:decide (fG l=fG m)=fo:=yv λe=>a<|tk g c e.symm
 simp[this]
theorem Gw{b a:fQ}(g:fL (b++a))(d:b≠[])(t:fQ)(e:t≠[]):fG t++(fG<|b++a).extract (fG b).size (fG<|b++a).size=fG (t++a):=by
 apply iF;rw[rW,qu,jX<|t++a,jX t];have f:(fG<|b++a).size=fv (iT<|fG (b++a)):=(PP _).symm;rw[f,sL,<-PP,jX,jX];by_cases c:a=[]
 grind
 rw[nZ,nZ,yD _ _ (by simpa using d) (by simpa using c),yD _ _ (by simpa using e) (by simpa using c)]
 grind
theorem tG{b t a:fQ}{k n:Int}(d:fL b)(e:b≠[])(g:t≠[])(f:fL a):po (fG b) (fG t) (fG a,k,n)=if b <+: a then(fG<|t++a.drop (fv b),k,n) else(fG a,k,n):=by
 unfold po;by_cases c:b <+: a;rw[lv c,lv<|(qw f d e).2 c];obtain⟨h,rfl⟩:=c
 grind [Gw,yQ]
 grind [qw]
theorem tH{b:Type}(c:b->b)(d e:b->Bool):∀(f:List b),(∀a∈f,d (c a)=e a)->(f.map c).find? d=(f.find? e).map c
 |[],_=>rfl
 |x::g,h=>by
  have j:=tH c d e g λa i=>h a<|wC _ i
  grind
def qx{E}{p}{e:fV}(a:e∈vx E p):e∈E:=(Ax.1 a).1
theorem pU.gone{E}(a:pU E)(p):pU (vx E p):=λe b=>a e<|qx b
theorem DA{E}{b t m}(C:pU E)(v:fL b)(o:b≠[])(q:fL t)(h:t≠[])(D:¬b <+: t)(F:¬t <+: b)(i:fL m):
  gj ((vx E<|fG t).map<|po (fG b) (fG t)) m=if t <+: m then gj E (b++m.drop (fv t))else if b <+: m then fj else gj E m:=by
 have comp:∀j,¬t <+: b++j:=λj l=>by
  rcases List.prefix_or_prefix_of_prefix l (qD b j)with e|e
  exact F e;exact D e
 by_cases x:m=[];subst x;rw[km λl=>h<|List.prefix_nil.1 l,km λl=>o<|List.prefix_nil.1 l];rfl;rw[nh x];have y:∀e∈vx E (fG t),∃a,fL a/\e.1=fG a/\¬t <+: a:=λe g=>by
  have⟨a,_,c,_,d⟩:=C e<|qx g;refine⟨a,c,d,λl=>?_⟩
  have:=(Ax.1 g).2
  rw[d]at this;rcases(qw c q h).2 l with z|z
  rw[z]at this;cases this;rw[z]at this;simp at this
 by_cases r:t <+: m;obtain⟨j,rfl⟩:=r;rw[lv<|qD _ _,yQ];have B:=v.append i.right;have G:b++j≠[]:=by simp[o]
 rw[tH _ _ (λe=>decide (e.1=fG (b++j))) _ λe g=>?_];have u:=uZ (E:=E) q h B;rw[km<|comp j,nh G]at u;rw[<-u,css]
 congr 1
 grind [po,fG]
 have⟨a,c,d,A⟩:=y e g;have⟨p,k,n⟩:=e;simp only at d;subst d;rw[tG v o h c];by_cases f:b <+: a;obtain⟨s,rfl⟩:=f
 grind [qD,yQ,fL,yv,Hw,tk]
 rw[km f,yv λe=>A (by rw[tk c i e];exact qD _ _),yv λe=>f (by rw[tk c B e];exact qD _ _)];rw[km r];by_cases w:b <+: m;rw[lv w,tH _ _ (λ_=>fo) _ λe g=>?_]
 grind
 have⟨a,c,d,A⟩:=y e g;have⟨p,k,n⟩:=e;simp only at d;subst d;rw[tG v o h c];by_cases f:b <+: a;obtain⟨s,rfl⟩:=f;rw[lv<|qD _ _,yQ];exact yv λe=>r (by rw[<-tk (q.append c.right) i e];exact qD _ _);rw[km f];exact yv λe=>f (by rw[tk c i e];exact w);rw[km w,tH _ _ (λe=>decide (e.1=fG m)) _ λe g=>?_];have u:=uZ (E:=E) q h i;rw[km r,nh x]at u;rw[<-u,css]
 congr 1
 grind [po,fG]
 have⟨a,c,d,A⟩:=y e g;have⟨p,_⟩:=e;simp only at d;subst d;rw[tG v o h c];by_cases f:b <+: a;obtain⟨s,rfl⟩:=f;rw[lv<|qD _ _,yQ,yv λe=>r (by rw[<-tk (q.append c.right) i e];exact qD _ _),yv λe=>w (by rw[<-tk c i e];exact qD _ _)]
 grind
theorem jU{α:Type}[DecidableEq α]:∀{xs ys:List α},xs.Nodup->(∀x∈xs,x∈ys)->fv xs<=fv ys
 |[],_,_,_=>Fr _
 |x::r,ys,hn,hs=>by
  have hx:=hs x<|oN ..
  have h1:∀z∈r,z∈ys.erase x:=λz hz=>by
   have hne:z≠x:=λe=>(WC.1 hn).1<|e▸hz
   exact(List.mem_erase_of_ne hne).2<|hs z (wC _ hz)
  have h2:=jU (WC.1 hn).2 h1
  grind
def qV{a c:Type}(b:a->c){l:List a}(d:(l.map b).Nodup):l.Nodup:=(wK.1 d).imp λf e=>f<|congrArg b e
theorem BK{c d:Type}{f:c->d}{l:List c}(g:∀a∈l,∀b∈l,f a=f b->a=b)(h:l.Nodup):(l.map f).Nodup:=wK.2<|List.Pairwise.imp_of_mem (λ{a b}i j k e=>k<|g a i b j e) h
theorem yE{E}(i:pU E){d}(j:fL d){e:fV}:e∈fU E (fG d)↔∃x,fN x=fm/\(∃n∈E,n.1=fG (d++[x]))/\e=(x,0,0):=by
 unfold fU;rw[jC];constructor;rintro⟨n,f,rfl⟩;have⟨g,h⟩:=Ax.1 f;have⟨a,_,b,_,c⟩:=i n g;rw[c]at h;obtain⟨x,rfl⟩:=(kR b j).1 h;exact⟨x,b x<|by simp,⟨n,g,c⟩,by rw[c,Af b]⟩;rintro⟨x,k,⟨n,f,l⟩,rfl⟩
 grind [fL,om,kR,Af]
theorem rE{E}{l:fQ}(a:l≠[]):gj E l≠fj↔∃n∈E,n.1=fG l:=by
 rw[nh a]
 all_goals simp_all
theorem yF{E}(b:pU E){d}(c:fL d){x:fO}:x∈ij E (fG d)↔fN x=fm/\gj E (d++[x])≠fj:=by
 unfold ij;rw[jC,rE<|by simp];constructor;rintro⟨e,f,rfl⟩;obtain⟨y,g,a,rfl⟩:=(yE b c).1<|rS f;exact⟨g,a⟩;rintro⟨h,a⟩;exact⟨(x,0,0),(kG _).mem_iff.2<|(yE b c).2 ⟨x,h,a,fX⟩,fX⟩
theorem xQ{E}(i:pU E)(c:oJ E){d}(r:fL d):((fU E<|fG d).map (·.1)).Nodup:=by
 unfold fU;rw[Ed];unfold oJ at c;have oh:E.Nodup:=qV _ c;have j:(E.filter λe=>wl e.1<|fG d).Nodup:=oh.filter _;have s:∀a∈E,∀b∈E,a.1=b.1->a=b:=by
  intro a g b h e
  induction E with
  |nil=>cases g
  |cons x t k=>
   rw[lM,WC]at c;rcases oc.1 g with rfl|l<;>rcases oc.1 h with rfl|m
   rfl
   grind
   grind
   exact k (λz n=>i z<|wC _ n) c.2 (qV _ c.2) ((qV _ c.2).filter _) l m
 have o:∀a∈E.filter λe=>wl e.1<|fG d,∀b∈E.filter λe=>wl e.1<|fG d,sr a.1=sr b.1->a=b:=by
  intro a g b h e;have⟨p,ha2⟩:=Ax.1 g;obtain⟨q,u⟩:=Ax.1 h;obtain⟨v,_,LA,_,w⟩:=i a p;have⟨y,_,A,_,B⟩:=i b q
  grind [kR,Af]
 exact BK (f:=λe:fV=>sr e.1) (λa g b h e=>o a g b h e) j
def Mh{E}(a:pU E)(b:oJ E){d}(c:fL d):iI (gY<|fU E (fG d)):=tY<|xQ a b c
def PY{E}(a:pU E)(b:oJ E){d}(c:fL d):(ij E<|fG d).Nodup:=by
 exact((kG _).map _).nodup_iff.2<|xQ a b c
