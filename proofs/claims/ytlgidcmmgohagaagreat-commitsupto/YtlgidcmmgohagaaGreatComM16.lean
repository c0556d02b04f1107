/- A part of the proof. -/
import Derived.Test.YtlgidcmmgohagaaGreatComM15
import Derived.Test.YtlgidcmmgohagaaGreatComM33
import Derived.Deep.RegionHeld3
set_option linter.all false
namespace Go.Proofs.YtlgidcmmgohagaaGreat
open Go.RowKit Go.Sort Go.Shelf Go.Proofs.Tryz
open Go.Value renaming slice->fy,string->fA,pointer->fB,tuple->fC,agg->fD,bool->fE
open Go.Ending renaming returned->fF
open Option renaming some->fh,none->fj
open Bool renaming true->fm,false->fo
open Go renaming World->fq,Value->fu
open List renaming length->fv,reverse->fx
open Go.RowKit renaming Hid->fe
set_option maxRecDepth 100000
set_option maxHeartbeats 0
variable {a b c I n p s:Nat}{w H O w2 w3:fq}{T src x:fT}{g:WG}{xs:iN}{N:gF}{A:List Ob}{brk:Bool}{t:LT}{got:List Int}{X:Obj}
variable {b r n cnt s i p:Nat}{D:DataW fu}{f:fT->Option fu}{src:fT}{W2 wr:fq}{left:Lit->Bool}{L:List (fT)}{mv:fu}{B:WB}{A:List Ob}
theorem LN{f:fT->Option fu}{b:Lit->Option fu}{D:DataW fu}(src)(d:∀a,WideAt.IsKeyLit a->∀z,D.atKey a z=((b a).map DataW.held).getD z)(e:∀p,Good p->b (qi prog p)=f p):uL f src (Maps.has D) []:=by
 refine⟨List.nodup_nil,λx=>⟨λg=>(by cases g),λ⟨c,_,i,h⟩=>?_⟩⟩;rw[Fg<|d _ (Vy c),e x c]at h
 all_goals simp_all
def OZ(w:fq)(a):w.heap.size<=(w.alloc a).heap.size:=by simp
theorem Let(w:fq)(c0 c1 c2 c3 c4:fu)(t:lV):∀b c,[c0,c1,c2,c3,c4][b]?=fh c->(w.k #[c0,c1,c2,c3,c4] t).cell? (((ii w.heap.size 0):Addr).add b)=fh c:=by
 intro b c a
 match b,a with
 |0,a=>simpa [Addr.add]using a
 |1,a=>simpa [Addr.add]using a
 |2,a=>simpa [Addr.add]using a
 |3,a=>simpa [Addr.add]using a
 |4,a=>simpa [Addr.add]using a
 |b+5,a=>simp at a
theorem Lex(w:fq)(a)(c0 c1 c2 c3 c4:fu)(t:lV):∀b c,[c0,c1,c2,c3,c4][b]?=fh c->((w.alloc a).k #[c0,c1,c2,c3,c4] t).cell? (((ii (w.heap.size+1) 0):Addr).add b)=fh c:=by
 have d:=Let (w.alloc a) c0 c1 c2 c3 c4 t
 all_goals simp_all
theorem Pa(c d e f Z):∀a∈[Value.string c,hh d,hh e,hh f,hh Z],a.oneCell'=fm:=by
 intro a b;simp only[mB,cpu,or_false]at b;rcases b with rfl|rfl|rfl|rfl|rfl<;>rfl
def JS (H:fq)(a b c:Nat)(d e f g h i j k l Z d0 d1 d2 d3 d4:fP):Prop:=H.cell? ⟨a,0,fj⟩=fh (fA d)/\H.cell? ⟨a,1,fj⟩=fh (fA e)/\H.cell? ⟨a,2,fj⟩=fh (fA f)/\H.cell? ⟨a,3,fj⟩=fh (fA g)/\H.cell? ⟨a,4,fj⟩=fh (fA h)/\H.cell? ⟨b,0,fj⟩=fh (fA i)/\H.cell? ⟨b,1,fj⟩=fh (fA j)/\H.cell? ⟨b,2,fj⟩=fh (fA k)/\H.cell? ⟨b,3,fj⟩=fh (fA l)/\H.cell? ⟨b,4,fj⟩=fh (fA Z)/\H.cell? ⟨c,0,fj⟩=fh (fA d0)/\H.cell? ⟨c,1,fj⟩=fh (fA d1)/\H.cell? ⟨c,2,fj⟩=fh (fA d2)/\H.cell? ⟨c,3,fj⟩=fh (fA d3)/\H.cell? ⟨c,4,fj⟩=fh (fA d4)
theorem JS.keep{e f g h i j k l m Z d0 d1 d2 d3 d4}(n:JS w a b c e f g h i j k l m Z d0 d1 d2 d3 d4)(o:∀d,H.c a d=w.c a d)(p:∀d,H.c b d=w.c b d)(q:∀d,H.c c d=w.c c d):JS H a b c e f g h i j k l m Z d0 d1 d2 d3 d4:=by
 unfold JS at n |-
 grind
structure BD (b r n:Nat)(D:DataW Value)(f:fT->Option Value)(src:fT)(W2 wr:World)(left:Lit->Bool)(cnt:Nat)(L:List (fT))(mv:Value):Prop where
 rg:wr.ranges prog 147 kg b r n D left cnt
 ga:uL f src left L
 row:wr.ownsRow (r+1) 147 5 mv L.length (qC L)
 gr:W2.grownBy wr none
 sz:r+1<=wr.heap.size
 many:L.length+cnt<=n
theorem Pb{a}{e}{d k}{b}(f:w.ownsRow a e d b k xs)(j:c<a):fh c≠b.ownBlock:=by
 intro e;rcases f.2 with⟨i,_⟩|⟨g,h,l,i,m,_⟩
 all_goals grind [Value.ownBlock,pV]
theorem nT(a:ju w H):w.grownBy H fj:=⟨a.os,a.tape,a.output,a.size,λi U _=>a.block i U⟩
theorem BD.below(a:BD b r n D f src W2 wr left cnt L mv)(c:ju wr H):BD b r n D f src W2 H left cnt L mv:=
 ⟨a.rg.kept (nT c) (by simp)<|by simp,a.ga,gg a.row λg d=>c.block g<|gc a.row d,a.gr.andThen (nT c) (λh e=>by cases e),wy a.sz c.size,a.many⟩
theorem BD.box(e:BD b r n D f src W2 wr left cnt L mv)(g:c<W2.heap.size)(d):wr.c c d=W2.c c d:=wJ (a:=(ii c d))<|e.gr.block c g (by simp)
theorem BD.next(a:BD b r n D f src W2 wr left cnt L mv){j}{p}(hbr:b<r)(u:W2.heap.size<=r)(hrg:O.ranges prog 147 kg b r n D (λz=>left z&&!z.sameKey (qi prog p)) j)(E:j<cnt)(k:wr.grownBy O (fh r))(v:Good p)(A:left (qi prog p)=fm)(B:f p≠fj):
  (¬src <+: p->BD b r n D f src W2 O (λz=>left z&&!z.sameKey (qi prog p)) j L mv)/\
  (src <+: p->O.ownsRow (r+1) 147 5 mv (fv L) (qC L)/\r+1<=O.heap.size/\fv L+1<=n/\∀w2 w3 l,ju O w2->w3.ownsRow (r+1) 147 5 l (fv L+1) (qC L++(jn p).toList)->w2.grownBy w3 mv.ownBlock->BD b r n D f src W2 w3 (λz=>left z&&!z.sameKey (qi prog p)) j (L++[p]) l):=by
 have w:O.ownsRow (r+1) 147 5 mv (fv L) (qC L):=gg a.row (λg x=>k.block g (gc a.row x) (λe=>by
  have:=Pb a.row (c:=r)<|by omega
  exact this (by rw[x,e])))
 have y:W2.grownBy O fj:=a.gr.andThen k (λd i=>by cases i;exact .inl u);have m:=wy a.sz k.size;have F:=a.many;refine⟨λo=>⟨hrg,Ip a.ga v o,w,y,m,by omega⟩,λo=>⟨w,m,by omega,λw2 w3 l q G s=>?_⟩⟩;have H:=a.rg.owns.lt;have t:fh b≠mv.ownBlock/\fh r≠mv.ownBlock/\∀d,mv.ownBlock=fh d->r+1<=d:=by
  rcases a.row.2 with⟨C,_⟩|⟨g,h,I,C,J,_⟩
  all_goals grind [Value.ownBlock,pV]
 refine⟨(hrg.kept (nT q) (by simp)<|by simp).kept s t.1 t.2.1,LL a.ga v o B A,?_,?_,?_,?_⟩
 ·all_goals grind [lI,Td]
 exact(y.andThen (nT q) λd i=>by cases i).andThen s λd i=>.inl<|wy (wy u<|jh _) (t.2.2 d i);exact wy m<|wy q.size s.size;simp;omega
def Tf(d:Below (w2.alloc X).drew.heap.size (w2.alloc X).drew w3)(f:a<w2.heap.size)(g:c<w2.heap.size):
  (∀b,w3.c w2.heap.size b=(w2.alloc X).drew.c w2.heap.size b)/\(∀b,w3.c a b=(w2.alloc X).drew.c a b)/\(∀b,w3.c c b=(w2.alloc X).drew.c c b)/\w2.heap.size<w3.heap.size:=by
 have e:w2.heap.size<(w2.alloc X).drew.heap.size:=by simp
 exact⟨λb=>(kw d).1 _ b e,λb=>(kw d).1 _ b<|Nc f e,λb=>(kw d).1 _ b<|Nc g e,np e d.size⟩
theorem Tg{W2 w2 w3 k d:fq}{b r:Nat}{l:ig}{n m}(hbr:b<r)(u:W2.grownBy w2 (fh b))(i:w2.ownsRow (r+1) 147 5 (fy l m n) m xs)(v:r+1<=w2.heap.size)(f:ju w2 w3)(h:w3.grownBy k (fh b))(j:k.grownBy d (fh b)):
  W2.grownBy d (fh b)/\d.ownsRow (r+1) 147 5 (fy l m n) m xs/\r+1<=d.heap.size:=by
 refine⟨((u.andThen (nT f) λo a=>by cases a).andThen h λo a=>.inr (by rw[a])).andThen j λo a=>.inr (by rw[a]),gg i λg p=>?_,wy v<|wy f.size (wy h.size j.size)⟩;have q:=gc i p;have s:fh g≠fh b:=λe=>Pb i (c:=b) (by omega) (by rw[p,e]);have t:=np q f.size;rw[j.block g (np t h.size) s,h.block g t s,f.block g q]
theorem Dr(b n)(f:fT->Option fu)(src T)(w)(hih:Good src)(hdG:Good T)(hP:jV w b n f)(hn:n<1099511627776)
  (BA:∀x,T <+: x->f x=fj)(hlen:∀x,src <+: x->f x≠fj->fv T+(fv x-fv src)<=5)(hf:∀x,f x≠fj->Good x):
  (ik 144 #[.map<|fh b,fD<|jn src,fD<|jn T] w λe H=>e=pD #[]/\jV H b n (Lq f src T)/\w.grownBy H (fh b))/\ik 145 #[.map<|fh b,fD<|jn src,fD<|jn T] w λe H=>e=pD #[]/\jV H b n (Lq f src T)/\w.grownBy H (fh b):=by
 have⟨i0,U,iz0,iz1,iz2⟩:=kC Len;have hbl:=hP.lt;have HPM:fe _:=hP;have⟨M,⟨D,hD,hM⟩,h1,h2⟩:=hP;have lax:=λp(hp:Good p)W=>JR p src hp hih W;have heq:=λp(hp:Good p)W=>gX hp hih W;have hii:=λr(h1:fv src+fv r<=5)(h2:fv T+fv r<=5)W=>Yt src T r hih hdG h1 h2 W;have⟨s0,s1,s2,s3,Z,hS⟩:=sf src;have⟨d0,d1,d2,d3,d4,hDp⟩:=sf T;unfold ln at lax heq hii;rw[hS]at lax heq hii;rw[hDp]at hii;rw[hS,hDp];have HO:fe _:=pB (H:=(w.k (ml s0 s1 s2 s3 Z) 147).k (ml d0 d1 d2 d3 d4) 147) hD<|(((mi w.heap.size w).alloc (lw _) _).alloc (by simp) _).block b hbl;have HM:fe _:=And.intro hM<|And.intro h1 h2;have Log:fe _:=lax;have HEQ:fe _:=heq;have Lsp:fe _:=hii;have Map:fe _:=BA;have HLEN:fe _:=hlen;have HF:fe _:=hf;have HG:fe _:=And.intro hih hdG;have HS:fe _:=And.intro hS hDp;clear hD hM h1 h2 lax heq hii BA hlen hf hih hdG hS hDp;constructor
 case' left=>have HU:fe _:=underlying161;have HZ:fe _:=LM
 case' right=>have HU:fe _:=underlying162;have HZ:fe _:=CC
 all_goals
  first|go_enter func144,ntmps144|go_enter func145,ntmps145
  go_wp2_with(at_range;(first|refine wpList_range_own _ fX _ 161 fX 147 219 yV underlying161 kg b n D fX HO.o ?_|refine wpList_range_own _ fX _ 162 fX 147 55 yV underlying162 kg b n D fX HO.o ?_);intro w0 hrg0 hg0 hs0)
  go_frame
  have hWs:((w.k (ml s0 s1 s2 s3 Z) 147).k (ml d0 d1 d2 d3 d4) 147).heap.size=w.heap.size+2:=by simp
  have hmD:=World.ownsMap.size_le HO.o;generalize hr:((w.k (ml s0 s1 s2 s3 Z) 147).k (ml d0 d1 d2 d3 d4) 147).heap.size=r at hrg0 hs0 |-;have hbr:b<r:=by omega
  have hr0:w.heap.size<r:=by omega
  have hr1:w.heap.size+1<r:=by omega
  have HR2:fe (((w.k (ml s0 s1 s2 s3 Z) 147).k (ml d0 d1 d2 d3 d4) 147).heap.size<=r/\w.heap.size<((w.k (ml s0 s1 s2 s3 Z) 147).k (ml d0 d1 d2 d3 d4) 147).heap.size/\w.heap.size+1<((w.k (ml s0 s1 s2 s3 Z) 147).k (ml d0 d1 d2 d3 d4) 147).heap.size):=⟨EL hr,by omega,by omega⟩;have HST:fe (BD b r n D f src ((w.k (ml s0 s1 s2 s3 Z) 147).k (ml d0 d1 d2 d3 d4) 147) w0 (Maps.has D) (Maps.size D) []<|fy fj 0 0):=⟨hrg0,LN src HM.o.1 HM.o.2.1,kO _ _ _ _,hg0,by rw[hs0];exact lw _,by simpa using hmD⟩;clear hrg0 hg0 hs0 hr hWs hmD
  go_loopw [6] (λmv wr=>∃left cnt L,fe<|BD b r n D f src ((w.k (ml s0 s1 s2 s3 Z) 147).k (ml d0 d1 d2 d3 d4) 147) wr left cnt L mv) (λ_ wr=>wr.rangeLeft b r)
  case atStart=>exact⟨Maps.has D,Maps.size D,[],HST.o⟩
  case round=>
   have⟨left,cnt,L,Rh⟩:=hrel;obtain⟨la,lc,rfl⟩:=Yu Rh.o.row;go_wp2_with(at_next;apply kEx);show wpList _ _ _ _ _ _;refine wpList_next_ranges _ fX (.tmp 11) fX 147 yV kg (λx:fu=>x) (λx:fu=>x) (λkey kl _=>⟨key,fX⟩) (λv y _=>⟨v,fX⟩) b r n D left cnt fX Rh.o.rg ?_ ?_
   ·intro hc0 hl0
    have tot:fe (∀x,x∈L↔(src <+: x/\f x≠fj)):=λx=>(Rh.o.ga.2 x).trans ⟨λh=>⟨h.2.1,h.2.2.1⟩,λh=>⟨HF.o x h.2,h.1,h.2,hl0 _⟩⟩;have Net:fe L.Nodup:=Rh.o.ga.1;clear hl0 hc0;have Nil:fe (jV wr b n<|carried f src T []):=jV.congr ⟨M,⟨D,Rh.o.rg.owns,HM.o.1⟩,HM.o.2.1,HM.o.2.2⟩ λx _=>(OV f src T x).symm;have hLn:fv L<=n:=by have:=Rh.o.many;omega
    have Yv:fe (wr.ownsRow (r+1) 147 5 (fy la (fv L) lc) (fv L)<|qC L):=Rh.o.row;have HGR:fe _:=World.grownBy.but Rh.o.gr<|fh b;have acm:=Rh.o.sz;go_wp2
    go_loopw [30] (λi w2=>∃k:Nat,k<=fv L/\i=.int .i64 (k:Int)/\fe (jV w2 b n<|carried f src T (L.take k))/\fe (((w.k (ml s0 s1 s2 s3 Z) 147).k (ml d0 d1 d2 d3 d4) 147).grownBy w2<|fh b)/\fe (w2.ownsRow (r+1) 147 5 (fy la (fv L) lc) (fv L)<|qC L)/\r+1<=w2.heap.size) (λi _=>fv L-(intOf i).toNat)
    case atStart=>exact⟨0,zt _,rfl,Nil.o,HGR.o,Yv.o,acm⟩
    case round=>
     obtain⟨k,hk,rfl,HPK,HGK,HRK,aco⟩:=hrel;by_cases hkl:k<fv L
     ·have⟨g,c',hsl⟩:=hZ HRK.o (by omega)
      cases hsl;have Th:=kN hkl;have⟨hs,hfp⟩:=(tot.o L[k]).1 Th;have hp:=HF.o _ hfp;have ttl:L[k]∉L.take k:=by
       intro hin;have⟨j,hj,hje⟩:=rD hin;rw[kV]at hj;rw[List.getElem_take]at hje;exact Ri.1 Net.o j k (by omega) hkl (by omega) hje
      have htk:L.take (k+1)=L.take k++[L[k]]:=vk hkl;have hLk:∀x∈L.take k,src <+: x/\f x≠fj:=λx hx=>(tot.o x).1<|Av hx;have⟨p0,p1,p2,p3,p4,hPp⟩:=sf L[k];have⟨hgl,e0,e1,e2,e3,e4⟩:=acg HRK.o hkl hPp;generalize L[k]=p at Th hs hfp hp ttl htk hPp;cases hv:f p with
      |none=>exact absurd hv hfp
      |some v=>
       have hsr:=OW hs;have hl5:=HLEN.o p hs hfp;have hp5:=hp.len;have hd5:fv src+fv (p.drop<|fv src)<=5:=by rw[rG];have:=hs.length_le;omega
       have hmv:=Lsp.o (p.drop<|fv src) hd5 (by rw[rG];exact hl5);rw[hsr,hPp]at hmv;have hqG:Good (vM src T p):=⟨HG.o.2.val.append λx hx=>hp.val x<|Wy hx,by unfold vM;rw[lI,rG];exact hl5⟩;have hturn:=λW(hP:jV W b n (carried f src T<|L.take k))=>Te hP (by unfold maxLen;omega) Map.o hLk hp hs hv ttl hqG HU.o HZ.o 0
       change ∀W,ik 197 _ W λe H=>e=fF (fD<|jn (vM src T p))/\_ at hmv
       have⟨q0,q1,q2,q3,q4,hPq⟩:=sf<|vM src T p;rw[hPq]at hmv;simp only[hPp,hPq]at hturn;have Old:fe _:=hturn;have hb0:ju wr (wr.k (ml p0 p1 p2 p3 p4) 147).drew:=il<|(mi _ _).alloc (lw _) _;have hl0:=(hturn _<|HPK.o.keep (hb0.block b<|by omega)).1;have kS:=λo=>(ko HGK.o (c:=w.heap.size) HR2.o.2.1 (by omega) o);have kD:=λo=>(ko HGK.o (c:=w.heap.size+1) HR2.o.2.2 (by omega) o);have hz0:w.heap.size<wr.heap.size:=by omega
       have hz1:w.heap.size+1<wr.heap.size:=(by omega);have hbz:b<wr.heap.size:=by omega
       have hnb:wr.heap.size≠b:=(by omega);have acu:w.heap.size≠b:=by omega
       have acv:w.heap.size+1≠b:=(by omega);have HTK:fe _:=htk;have HB0:fe _:=hb0;clear hturn hb0 Th hs hfp hp ttl htk hPp hv hsr hl5 hp5 hd5 hqG hPq hLk;clear HO HM Log HEQ Lsp HLEN HF HG HS HPM Net Nil Yv HGR HST U iz0 iz1 iz2;go_wp2;clear e0 e1 e2 e3 e4;have hSD:JS (wr.k (ml p0 p1 p2 p3 p4) 147).drew wr.heap.size w.heap.size (w.heap.size+1) p0 p1 p2 p3 p4 s0 s1 s2 s3 Z d0 d1 d2 d3 d4:=by
        unfold JS;have q0:=Nat.ne_of_lt hz0;have q1:=Nat.ne_of_lt hz1;simp[slt,hz0,hz1,kS,kD]
       go_region_held3 (λH=>H.c wr.heap.size 0=fh (hh p0)/\H.c wr.heap.size 1=fh (hh p1)/\H.c wr.heap.size 2=fh (hh p2)/\H.c wr.heap.size 3=fh (hh p3)/\H.c wr.heap.size 4=fh (hh p4)/\H.c w.heap.size 0=fh (hh s0)/\H.c w.heap.size 1=fh (hh s1)/\H.c w.heap.size 2=fh (hh s2)/\H.c w.heap.size 3=fh (hh s3)/\H.c w.heap.size 4=fh (hh Z)/\H.c (w.heap.size+1) 0=fh (hh d0)/\H.c (w.heap.size+1) 1=fh (hh d1)/\H.c (w.heap.size+1) 2=fh (hh d2)/\H.c (w.heap.size+1) 3=fh (hh d3)/\H.c (w.heap.size+1) 4=fh (hh d4)) (first|exact hSD|exact hS3|exact hS4) (first|(go_at_call 197;refine(hmv _).via λw3 hb3=>?_;have⟨m1,m2,m3,m4⟩:=Tf hb3 hz0 hz1;have hS3:=hSD.keep m1 m2 m3;have typ:=gS HB0.o hb3;have⟨hl3,w4,w5,ady,adz,hP5,hg4,hg5,hs4,hs5⟩:=Old.o w3<|HPK.o.keep (typ.block b hbz);have hS4:=hS3.keep (ko hg4 m4 hnb) (ko hg4 (Nc hz0 m4) acu)<|ko hg4 (Nc hz1 m4) acv;have HE:fe _:=Tg hbr HGK.o HRK.o aco typ hg4 hg5;have HP5:fe _:=hP5;have hz4:wr.heap.size<w4.heap.size:=np m4<|EL hs4.symm;clear hg4 hg5 hs4 hs5 hP5 typ m1 m2 m3 hb3))
       all_goals
        go_wp2;go_roundw
        case rel=>exact⟨k+1,by omega,by go_num,by rw[HTK.o];exact HP5.o,HE.o.1,HE.o.2.1,HE.o.2.2⟩
        case measure=>simp[intOf];omega
     have hke:k=fv L:=(by omega);subst hke;rw[sH]at HPK;go_wp2;go_end0;refine⟨fX,HPK.o.congr λx _=>OX Map.o tot.o x,?_⟩;exact(World.grownBy.but (nT<|((mi w.heap.size w).alloc (lw _) _).alloc (by simp) _)<|fh b).andThen HGK.o λj hj=>.inr (by rw[hj])
   intro x c kl y O cnt1 hkey hlk hv hat hrg1 hlt hg1 hs1 hen;obtain⟨p,hp,rfl,rfl,hfp⟩:=came HM.o.1 HM.o.2.1 HM.o.2.2 hkey hat;have⟨p0,p1,p2,p3,p4,hPp⟩:=sf p;have hbp:=Log.o p hp;have hep:∀W,(Op.equalIn 10000 147 (fD<|jn p)<|fD (ml s0 s1 s2 s3 Z)).run prog W=.ok (decide (p=src)) W:=HEQ.o p hp;have⟨hno,Out⟩:=Rh.o.next hbr HR2.o.1 hrg1 hlt hg1 hp hlk hfp;have kS:=λo=>(ko hg1 (c:=w.heap.size) (np hr0<|Nat.le_of_succ_le Rh.o.sz) (by omega) o).trans<|Rh.o.box HR2.o.2.1 o
   have hz1:w.heap.size<O.heap.size:=by rw[hs1];exact np hr0<|Nat.le_of_succ_le Rh.o.sz
   have HLT:fe (cnt1<cnt):=hlt;have afm:fe _:=hrg1;rw[hPp]at hbp hep hen |-;have HPp:fe _:=hPp;have HNO:fe _:=hno;have Pos:fe _:=Out;clear hno Out hkey hlk hv hat hrg1 hlt hg1 hs1 hfp hPp;by_cases hs:src <+: p
   ·by_cases he:p=src
    ·rw[qu he]at hep
     clear hbp;have⟨y1,y2,y3,y4⟩:=Pos.o hs;have hW:ju O (O.k (ml p0 p1 p2 p3 p4) 147):=(mi _ _).alloc (lw _) _;have Yv:fe _:=y1.alloc<|.cells (ml p0 p1 p2 p3 p4) 147;have HSZ:fe _:=wy y2 hW.size;have Pc:fe _:=y4;have HW:fe _:=hW;have h63:fv L+1<=maxLen:=by unfold maxLen;omega
     have hby:(fv L+1)*80<=140737488355328:=(by omega);clear y1 y2 y4 hW;go_wp2_with(at_builtin;go_loud(apply cfg _ fX (.tmp 24) (.tmp 26) 289 fX (r+1) 147 i0 _ 5 80 underlying289 U iz0 iz1 iz2 fX (by decide) (fy la (fv L) lc) (fv L) (qC L) fX (rE Yv.o _) (ii (O.heap.size+1) 0) 1 1 [hh p0,hh p1,hh p2,hh p3,hh p4] fX fX (Lex O _ _ _ _ _ _ 147) (Pa _ _ _ _ _) h63 hby<|wy HSZ.o (OZ _ _);intro v' w3 hown' hgrow _ hloc;obtain⟨g',R,rfl⟩:=hZ hown'<|Nat.succ_pos _;have tys:fe _:=hown';have hij:fe _:=hgrow;clear hown' hgrow hloc));have Pd:fe (BD b r n D f src _ w3 _ cnt1 (L++[p]) _):=Pc.o _ w3 _ (HW.o.alloc HW.o.size<|.cells (ml p0 p1 p2 p3 p4) 147) (by rw[HPp.o];exact tys.o) hij.o;go_roundw
     case rel=>exact⟨_,_,_,Pd.o⟩
     case measure=>rw[Pd.o.rg.left_eq,Rh.o.rg.left_eq];exact HLT.o
    rw[yv he]at hep;rw[qu ⟨hs,he⟩]at hbp;have⟨y1,y2,y3,y4⟩:=Pos.o hs;have Pc:fe _:=y4;have h63:fv L+1<=maxLen:=by unfold maxLen;omega
    have hby:(fv L+1)*80<=140737488355328:=(by omega);clear y4;have hz2:w.heap.size<(O.k (ml p0 p1 p2 p3 p4) 147).heap.size:=by simp;omega
    have hz3:O.heap.size<(O.k (ml p0 p1 p2 p3 p4) 147).heap.size:=(by simp);go_wp2_with(first
     |(go_at_call 140;refine Calls.via (hbp _) λw2 hb2=>?_;have k2:=λo=>(kw hb2).1 O.heap.size o hz3;have hz4:=np hz3 hb2.size;have hW:=gS ((mi O.heap.size O).alloc (lw _) _) hb2;have Yv:fe (w2.ownsRow (r+1) 147 5 (fy la (fv L) lc) (fv L)<|qC L):=gg y1 λg hg=>hW.block g<|gc y1 hg;have HSZ:fe (r+1<=w2.heap.size):=wy y2 hW.size;have HW:fe _:=hW;clear hW)
     |(at_builtin;go_loud(apply cfg _ fX (.tmp 24) (.tmp 26) 289 fX (r+1) 147 i0 _ 5 80 underlying289 U iz0 iz1 iz2 fX (by decide) (fy la (fv L) lc) (fv L) (qC L) fX (rE Yv.o _) (ii w2.heap.size 0) 1 1 [hh p0,hh p1,hh p2,hh p3,hh p4] fX fX (Let w2 _ _ _ _ _ 147) (Pa _ _ _ _ _) h63 hby<|wy HSZ.o (OZ _ _);intro v' w3 hown' hgrow _ hloc;obtain⟨g',R,rfl⟩:=hZ hown'<|Nat.succ_pos _;have tys:fe _:=hown';have hij:fe _:=hgrow;clear hown' hgrow hloc)))
    have Pd:fe (BD b r n D f src _ w3 _ cnt1 (L++[p]) _):=Pc.o _ w3 _ (HW.o.alloc HW.o.size<|.cells (ml p0 p1 p2 p3 p4) 147) (by rw[HPp.o];exact tys.o) hij.o;go_roundw
    case rel=>exact⟨_,_,_,Pd.o⟩
    case measure=>rw[Pd.o.rg.left_eq,Rh.o.rg.left_eq];exact HLT.o
   have he:p≠src:=λe=>hs<|e▸sM _;rw[yv he]at hep;rw[yv λh=>hs h.1]at hbp;go_wp2_with(go_at_call 140;refine Calls.via (hbp _) λw2 hb2=>?_);have Pd:fe _:=(HNO.o hs).below<|gS ((mi _ _).alloc (lw _) _) hb2;go_roundw
   case rel=>exact⟨_,_,L,Pd.o⟩
   case measure=>rw[(BD.rg Pd.o).left_eq,Rh.o.rg.left_eq];exact HLT.o
theorem js.gy(c:js N w s p A got brk I):∀b∈A,0<=b.high/\b.high<=5:=by
 obtain⟨_,f,_,⟨a,h,g,j,k,l,i⟩,_⟩:=c;intro b d;rcases i.zz b d with⟨_,e,_⟩|⟨_,_,_,_,e,m,_⟩
 all_goals omega
theorem Yw(d:js N w s p A got brk I){id:Int}(e:fK A id≠0):
  ik 173 #[ie p,fY id] w (ut (fY<|gu A id) w):=by
 have⟨j,k⟩:=Br e;obtain⟨b,rfl⟩:∃b:Nat,id=(b:Int)+1:=⟨(id-1).toNat,by omega⟩;have c:b<fv A:=by omega
 have⟨_,l,_,⟨a,h,f,g,m,n,i⟩,_⟩:=d;rw[Cl c];exact IW p a (fv A) h f g A b c w i.gR
theorem Ga(b:∀a∈A,0<=a.high/\a.high<=5)(id:Int):0<=gu A id/\gu A id<=5:=by
 unfold gu;cases c:A[(id-1).toNat]? with
 |none=>exact⟨wC _,by decide⟩
 |some a=>exact b a<|cex c
def BF{b:Type}(f:b->Int)(l:List b)(a:Int):a<=l.foldl (λc x=>max c<|1+f x) a:=((gV f l a _).1<|wC _).1
theorem yy(a:∀d∈A,0<=d.high/\d.high<=5):∀(n:Nat)(c:LT),0<=kQ A n c/\kQ A n c<=5+n
 |n,.file id=>by
  have:=Ga a id
  grind [kQ,gu]
 |n,.held f=>by
  grind [kQ]
 |n,.dir id=>by
  have:=Ga a id
  grind [kQ,gu]
 |0,.own b=>by
  grind [kQ]
 |n+1,.own b=>by
  rw[kQ]
  refine⟨BF _ b 0,(gV (λx=>kQ A n x.2) b 0 _).2 ⟨by omega,λx _=>?_⟩⟩
  have:=yy a n x.2
  omega
theorem hil{b}{a:Kids}(d:t.at A b=fh (.own a))(e:fO a){x:fP×LT}(f:x∈a):t.at A (b++[x.1])=fh x.2:=by
 rw[lx,d,wd,lh];show(jp a x.1).bind _=_;cases g:jp a x.1 with
 |none=>
  grind [jp,bwd,hEq,absurd]
 |some c=>
  grind [nJ,oX]
def Em (A:List Ob)(n:Nat)(a:Kids):Int:=a.foldl (λb x=>max b<|1+kQ A n x.2) 0
def Yx(A)(n)(a:Kids)(x:fP×LT):Em A n (a++[x])=max (Em A n a) (1+kQ A n x.2):=by
 simp only[Em,cls,Hy,List.foldl_nil]
theorem Ti(c:∀b∈A,0<=b.high/\b.high<=5)(n)(a):0<=Em A n a/\Em A n a<=6+n:=by
 refine⟨BF _ a 0,(gV (λx=>kQ A n x.2) a 0 _).2 ⟨by omega,λx _=>?_⟩⟩
 have:=yy c n x.2
 omega
theorem Iq(t p:Nat)(c d e f Z g)(k id h:Int)(w:fq)(n:t<w.heap.size)(c0:w.c t 0=fh (ie p))(hid:id≠0)
  (i:∀a,ju w a->ik 173 #[ie p,fY id] a (ut (fY h) a)):
  ik 143 #[ie t,fD<|ml c d e f Z,fD #[hh g,fY k,fY id]] w (ut (fY h) w):=by
 have b:=il<|((mi w.heap.size w).alloc (lw _) (.cells (ml c d e f Z) 147)).alloc (by simp) (.cells #[hh g,fY k,fY id] 96);have j:=i _ b;have l:fe _:=b;have o:(id==0)=fo:=by simpa using hid
 clear i b;go_enter func143,ntmps143;go_wp2
 go_region_with(go_at_call 173;refine j.via λO m=>?_)
 all_goals
  go_wp2;go_ret;exact⟨fX,gS l.o m⟩
theorem xE(t m:Nat)(a b c d Z g)(k:Int)(w:fq)(n:t<w.heap.size)(o:w.c t 8=fh (.map<|fh m))
  (h:∀e,ju w e->(Instr.lookup 162 (.map<|fh m) (fD<|ml a b c d Z) fo).run prog e=.ok (fy fj 0 0) e):
  ik 143 #[ie t,fD<|ml a b c d Z,fD #[hh g,fY k,fY 0]] w (ut (fY 0) w):=by
 have f:=il<|((mi w.heap.size w).alloc (lw _) (.cells (ml a b c d Z) 147)).alloc (by simp) (.cells #[hh g,fY k,fY 0] 96);have p:=h _ f;have j:fe _:=f;clear h f;go_enter func143,ntmps143;go_wp2
 go_region
 all_goals
  go_wp2
  go_loopw [7,27] (λt i wr=>i=.int .i64 0/\t=.int .i64 0/\ju w wr) (λ_ _ _=>0)
  case atStart=>exact⟨rfl,rfl,j.o⟩
  case round=>
   obtain⟨rfl,rfl,l⟩:=hrel;go_wp2;go_ret;exact⟨fX,l⟩
theorem Tj{wr O:fq}(c:Below (wr.alloc X).drew.heap.size (wr.alloc X).drew O):
  (∀b,O.c wr.heap.size b=(wr.alloc X).drew.c wr.heap.size b)/\wr.heap.size<O.heap.size/\∀n a,n<=wr.heap.size->Below n a (wr.alloc X).drew->Below n a O:=by
 have d:wr.heap.size<(wr.alloc X).drew.heap.size:=by simp
 exact⟨λb=>(kw c).1 wr.heap.size b d,np d c.size,λn a f e=>e.trans<|c.mono (by omega)⟩
theorem Tk(t m g h n:Nat)(A:List Ob)(l o q r Z s)(D:fT)(k:Int)(a:Kids)(w:fq)(av:t<w.heap.size)(u:g<w.heap.size)(aw:w.c t 8=fh (.map<|fh m))
  (L:∀d,ju w d->(Instr.lookup 162 (.map<|fh m) (fD<|ml l o q r Z) fo).run prog d=.ok (my g 0 (fv a) h) d)
  (ax:fv a<=16)(hn5:n<=5)(M:∀N P,(flat<|a.map lL)[N]?=fh P->w.c g N=fh P)(E:∀v∈A,0<=v.high/\v.high<=5)
  (Q:∀(x:fP)d,x∈a.map (·.1)->ik 196 #[fD<|ml l o q r Z,hh x] d (ut (fD<|jn (D++[x])) d))
  (R:∀x∈a,∀d,ju w d->ik 143 #[ie t,fD<|jn (D++[x.1]),fD #[hh x.1,fY x.2.kind,fY x.2.id]] d (ut (fY<|kQ A n x.2) d)):
  ik 143 #[ie t,fD<|ml l o q r Z,fD #[hh s,fY k,fY 0]] w (ut (fY<|Em A n a) w):=by
 have F:=il<|((mi w.heap.size w).alloc (lw _) (.cells (ml l o q r Z) 147)).alloc (by simp) (.cells #[hh s,fY k,fY 0] 96);have ay:=L _ F;have af:fe _:=F;have ag:fe _:=M;have ah:fe _:=Q;have ai:fe _:=R;have aj:fe _:=λak:Kids=>Ti E n ak;have al:fe _:=λc:LT=>yy E n c;clear L F M Q R E;go_enter func143,ntmps143;go_wp2
 go_region
 all_goals
  go_wp2
  go_loopw [7,27] (λt i wr=>∃b:Nat,b<=fv a/\i=.int .i64 b/\t=.int .i64 (Em A n<|a.take b)/\ju w wr/\Below (w.heap.size+2) ((w.k (ml l o q r Z) 147).k #[hh s,fY k,fY 0] 96).drew wr) (λ_ i _=>fv a-(intOf i).toNat)
  case atStart=>exact⟨0,zt _,rfl,rfl,af.o,mi _ _⟩
  case round=>
   obtain⟨b,az,rfl,rfl,j,G⟩:=hrel;by_cases H:b<fv a
   ·have am:b<fv (a.map lL):=by rw[oI];exact H
    obtain⟨d0,d1,d2⟩:=zU ag.o am;rw[yS]at d0 d1 d2;have I:=(j.cell (p:=(ii g<|b*3)) u).trans d0;have y:=(j.cell (p:=(ii g<|b*3+1)) u).trans d1;have z:=(j.cell (p:=(ii g<|b*3+2)) u).trans d2;have aA:g<wr.heap.size:=np u j.size;have aB:=λv=>G.cell (p:=(ii w.heap.size v)) (by simp);have S:w.heap.size+2<=wr.heap.size:=by have:=G.size;simpa using this
    have aC:w.heap.size<wr.heap.size:=(by omega);have J:=kN H;have B:=λd=>ah.o (a[b]).1 d<|DZ J;have f:=ai.o a[b] J;have T:=al.o (a[b]).2;have U:=aj.o<|a.take b;have C:Em A n (a.take<|b+1)=max (Em A n<|a.take b) (1+kQ A n (a[b]).2):=by
     rw[vk H,Yx]
    generalize kQ A n (a[b]).2=V at f T C;generalize Em A n (a.take b)=aD at U C |-;have aE:IntKind.i64.wrap (1+V)=1+V:=by rw[Cb]<;>omega
    obtain⟨aF,aG⟩:=U;obtain⟨aH,aI⟩:=T;have an:fe _:=C;simp only[lL]at I y z;clear d0 d1 d2 C J;generalize a[b]=x at I y z B f;obtain⟨K,W⟩:=x;simp only at I y z B f;generalize W.kind=X at y f;generalize W.id=Y at z f;obtain⟨aJ,aK,aL,aM,aN,aa⟩:=sf<|D++[K];rw[aa]at B f;have ao:fe _:=f;clear f aa;have ap:ju w (wr.k #[hh K,fY X,fY Y] 96).drew:=il<|j.alloc j.size _;have aq:Below (w.heap.size+2) ((w.k (ml l o q r Z) 147).k #[hh s,fY k,fY 0] 96).drew (wr.k #[hh K,fY X,fY Y] 96).drew:=il<|G.alloc S _;go_wp2
    go_region_with(first
     |(go_at_call 196;refine(B _).mono ?_;rintro e O ⟨rfl,ab⟩;have ac:=gS ap ab;obtain⟨aO,aP,ad⟩:=Tj ab;have ar:=ad _ _ S aq;clear ad)
     |(go_at_call 143;refine(ao.o _ ac).mono ?_;rintro e w2 ⟨rfl,ae⟩))
    all_goals
     go_wp2;go_roundw
     case rel=>
      refine⟨b+1,by omega,by go_num,by rw[an.o],gS ac ae,ar.trans<|ae.mono (by omega)⟩
     case measure=>simp[intOf];omega
   have au:b=fv a:=by omega
   subst au;rw[sH];go_wp2;go_ret;exact⟨fX,j⟩
theorem Aa:∀(n m:Nat)(c:LT),n<=m->fM A n c->kQ A m c=kQ A n c
 |n,m,.file id,_,_=>by cases n<;>cases m<;>rfl
 |n,m,.held f,_,_=>by cases n<;>cases m<;>rfl
 |n,m,.dir id,_,_=>by cases n<;>cases m<;>rfl
 |0,m,.own d,_,b=>by
  rw[fM]at b
  subst b
  cases m<;>rfl
 |n+1,0,.own d,b,_=>by omega
 |n+1,m+1,.own d,b,e=>by
  rw[fM]at e
  rw[kQ,kQ]
  have h:∀(l:Kids)(a:Int),(∀x∈l,x∈d)->l.foldl (λb x=>max b<|1+kQ A m x.2) a=l.foldl (λb x=>max b<|1+kQ A n x.2) a:=by
   intro l
   induction l with
   |nil=>intro a _;rfl
   |cons y r i=>
    intro a g;rw[Hy,Hy,Aa n m y.2 (by omega) (e.2.2 y<|g y (by simp)).2]
    grind
  grind
theorem Tl(C:fZ N w s i p B A g I)(hF:Flat A t g.ft):∀(n:Nat)(c:LT)(b:fT),n<=5->fM A n c->t.at A b=fh c->Good b->fv b+n<=5->∀(h:fP)(a:fq),ju w a->
  ik 143 #[ie B.bt,fD<|jn b,fD #[hh h,fY c.kind,fY c.id]] a (ut (fY<|kQ A n c) a):=by
 have F:∀(a:fq),ju w a->B.bt<a.heap.size/\a.c B.bt 0=fh (ie p)/\a.c B.bt 8=fh (.map<|fh B.oD):=by
  intro a d;have M:=(C.below d).wp.tree.ht;exact⟨(lW.1 M).1,by simp[World.cell?,M,ptr],by simp[World.cell?,M]⟩
 have G:∀(c:LT)(b:fT)(h:fP)(a:fq),ju w a->fK A c.id≠0->
   ik 143 #[ie B.bt,fD<|jn b,fD #[hh h,fY c.kind,fY c.id]] a (ut (fY<|gu A c.id) a):=by
  intro c b h a d Q;have⟨q,H,u⟩:=F a d;have hid:c.id≠0:=λe=>by have:=(Br Q).1;omega
  exact Iq B.bt p _ _ _ _ _ h c.kind c.id _ a q H hid λj o=>Yw ((C.below d).below o).st Q
 have X:=C.st.gy;have⟨J,R⟩:=C.wp.qj;have O:∀(b:fT),Good b->∀(a:fq),ju w a->(Instr.lookup 162 (.map<|fh B.oD) (fD<|jn b) fo).run prog a=.ok (((g.ft.od b).map λ_=>J b).getD<|fy fj 0 0) a:=λb m a d=>R.look m d;have ah:=C.st.sound;have S:∀(n:Nat)(k:Kids)(b:fT)(h:fP)(a:fq),ju w a->n<=5->t.at A b=fh (.own k)->Good b->fO k->fv k<=16->(∀x∈k,fv b<=4)->
   (∀x∈k,∀j,ju w j->ik 143 #[ie B.bt,fD<|jn (b++[x.1]),fD #[hh x.1,fY x.2.kind,fY x.2.id]] j (ut (fY<|kQ A n x.2) j))->
   ik 143 #[ie B.bt,fD<|jn b,fD #[hh h,fY 2,fY 0]] a (ut (fY<|Em A n k) a):=by
  intro n k b h a d P v m ai Y Z aa;have⟨q,H,u⟩:=F a d;have T:g.ft.od b=fh (k.map lL):=by rw[hF.od,v];rfl
  have K:=R.row b _ T;have D:=λj(o:ju a j)=>O b m j<|gS d o;rw[T,oV,sA]at D;have ab:∀E c,J b=(my E 0 (fv k) c)->ik 143 #[ie B.bt,fD<|jn b,fD #[hh h,fY 2,fY 0]] a (ut (fY<|Em A n k) a):=by
   intro E c z;rw[z]at D K;have U:E<w.heap.size:=gc K.1 fX;have V:=K.1;rw[oI]at V;refine Tk B.bt B.oD E c n A _ _ _ _ _ h b 2 k a q (np U d.size) u D Y P (λW ac ad=>?_) X (λx j r=>?_) λx r j o=>aa x r j<|gS d o
   have:=ks V W ac ad
   rw[iO]at this;exact(d.cell (p:=(ii E W)) U).trans this;obtain⟨y,L,rfl⟩:=ja.1 r;exact CG b m (Z y L) y.1 j
  rcases K.1.2 with⟨z,r⟩|⟨aj,ak,al,z,_⟩
  have ae:k=[]:=by
   have af:fv (k.map lL)=0:=by first|exact r|(have:=congrArg List.length r;rw[ly]at this;simpa using this)
   simpa using af
  subst ae;rw[z]at D;exact xE B.bt B.oD _ _ _ _ _ h 2 a q u D;rw[oI]at z;exact ab _ _ z
 intro n
 induction n with
 |zero=>
  intro c b P l v m ag h a d;have⟨q,H,u⟩:=F a d;cases c with
  |file id=>exact G (.file id) b h a d (by rw[fM]at l;show fK A id≠0;rw[l];decide)
  |dir id=>exact G (.dir id) b h a d (by rw[fM]at l;show fK A id≠0;rw[l.1];decide)
  |held f=>exact xE B.bt B.oD _ _ _ _ _ h 1 a q u (λj o=>by
    have:=O b m j<|gS d o
    rwa [hF.od,v]at this)
  |own k=>
   rw[fM]at l;subst l;exact S 0 [] b h a d (by omega) v m List.Pairwise.nil (by simp) (by simp)<|by simp
 |succ n am=>
  intro c b P l v m ag h a d;have⟨q,H,u⟩:=F a d;cases c with
  |file id=>exact G (.file id) b h a d (by rw[fM]at l;show fK A id≠0;rw[l];decide)
  |dir id=>exact G (.dir id) b h a d (by rw[fM]at l;show fK A id≠0;rw[l.1];decide)
  |held f=>exact xE B.bt B.oD _ _ _ _ _ h 1 a q u (λj o=>by
    have:=O b m j<|gS d o
    rwa [hF.od,v]at this)
  |own k=>
   rw[fM]at l;refine S n k b h a d (by omega) v m l.1 l.2.1 (λ_ _=>by omega) λx r j o=>?_;have an:Good (b++[x.1]):=⟨m.val.append (λy L=>by simp at L;rw[L];exact(l.2.2 x r).1),by simp;omega⟩
   grind [hil]
theorem Tm{a b:Type}(f:fT->Option a)(m:a->b)(src T x):Lq (λp=>(f p).map m) src T x=(Lq f src T x).map m:=by
 grind [Lq]
theorem xF{a:Type}{f:fT->Option a}{y:a}(b:Lq f src T x=fh y):(T <+: x/\f (src++x.drop (fv T))=fh y)\/(¬T <+: x/\¬src <+: x/\f x=fh y):=by
 grind [Lq]
theorem Gb{b:Type}{f:fT->Option b}{y:b}(c:Good T)(d:∀p z,f p=fh z->Good p)(e:∀p z,src <+: p->f p=fh z->fv T+(fv p-fv src)<=5)(g:Lq f src T x=fh y):Good x:=by
 rcases xF g with⟨⟨r,rfl⟩,a⟩|⟨_,_,a⟩
 rw[yT]at a;have i:=e _ _ (qz _ _) a;refine⟨c.val.append λz h=>(d _ _ a).val z<|WA _ h,?_⟩
 grind
 grind
theorem JT{d:Nat×Nat->Prop}(a:w.grownBy H (fh b))(f:d (N b)):fI d N N w H:=
 ⟨a.os,a.tape,a.output,a.size,λ_ _=>rfl,λk c g=>a.block k c λe=>g (by cases e;exact f),λh k c=>h k<|wy a.size c⟩
theorem Ir(b:fZ N w s i p B A g I)(j:Good T)(k:∀x f,src <+: x->g.ft.of x=fh f->fv T+(fv x-fv src)<=5)(l:n<=I)(o:jV H B.oF n (Lq (λp=>(g.ft.of p).map ptr) src T))(q:w.grownBy H (fh B.oF)):
  fI (λt=>t=(i,4)) N N w H/\fZ N H s i p B A { g with ft:={ g.ft with of:=Lq g.ft.of src T } } I:=by
 have⟨h,_,r⟩:=b.wp.tY;have m:fI (λt=>t=(i,4)) N N w H:=JT q h;have a:=b.wp;have⟨J,u⟩:=a.qj;refine⟨m,b.two,b.st.moves m (λe=>by cases e) (λe=>by cases e),⟨a.tree.moves m (λe=>by cases e),a.nP.moves m (λe=>by cases e),a.nQ.moves m (λe=>by cases e),⟨h,⟨n,l,o.congr λx _=>Tm _ _ _ _ _⟩,λx f c=>Gb j r k c⟩,⟨J,u.moves m λe=>by cases e⟩,a.files.moves m (λe=>by cases e),λx f c=>?_,a.opens.moves m (λe=>by cases e) (λe=>by cases e),⟨a.ok.root,a.ok.od⟩⟩⟩;rcases xF c with⟨_,d⟩|⟨_,_,d⟩
 exact a.held _ f d;exact a.held _ f d
def Gc (J:fT->fu)(src T:fT):fT->fu:=λx=>if T <+: x then J (src++x.drop (fv T))else J x
theorem LO{J:fT->fu}(l:fZ N w s i p B A g I)(d:gG N w i B g.ft.od I J)(C:Good T)(D:∀x f,src <+: x->g.ft.od x=fh f->fv T+(fv x-fv src)<=5)(E:n<=I)(F:jV H B.oD n (Lq (λp=>(g.ft.od p).map λ_=>J p) src T))(o:w.grownBy H (fh B.oD)):
  fI (λt=>t=(i,5)) N N w H/\fZ N H s i p B A { g with ft:={ g.ft with od:=Lq g.ft.od src T } } I:=by
 obtain⟨aa,_,G⟩:=d.map;obtain⟨ab,ac,K⟩:=G.isMap;have m:fI (λt=>t=(i,5)) N N w H:=JT o d.tag;have h:∀x a,Lq g.ft.od src T x=fh a->∃y,g.ft.od y=fh a/\Gc J src T x=J y/\((T <+: x/\y=src++x.drop (fv T))\/(¬T <+: x/\¬src <+: x/\y=x)):=by
  intro x a c;rcases xF c with⟨j,b⟩|⟨j,q,b⟩
  exact⟨_,b,by unfold Gc;rw[lv j],.inl ⟨j,fX⟩⟩;exact⟨_,b,by unfold Gc;rw[km j],.inr ⟨j,q,fX⟩⟩
 have L:gG N H i B (Lq g.ft.od src T) I (Gc J src T):=by
  refine⟨d.tag,⟨n,E,F.congr λx _=>?_⟩,λx a c=>?_,λx a c=>?_,λx y u v M c O b k=>?_⟩;unfold Lq Gc
  grind
  have⟨y,b,_,_⟩:=h x a c;exact⟨Gb C (λp z P=>(d.good p z P).1) D c,(d.good y a b).2⟩;obtain⟨y,b,k,_⟩:=h x a c;rw[k];exact(d.row y a b).Bx K o;obtain⟨Q,R,S,U⟩:=h x u c;have⟨V,W,X,Y⟩:=h y v O;rw[S]at b;rw[X]at k;have e:=d.inj Q V u v M R W b k;rcases U with⟨⟨r,rfl⟩,Z⟩|⟨_,q,Z⟩
  ·rcases Y with⟨⟨t,rfl⟩,ad⟩|⟨_,_⟩
   all_goals grind [yT,Hu,qz]
  all_goals grind
 refine⟨m,l.od m (lw _) L λx a c=>?_⟩;obtain⟨y,b,_⟩:=h x a c;exact l.wp.ok.od y a b
