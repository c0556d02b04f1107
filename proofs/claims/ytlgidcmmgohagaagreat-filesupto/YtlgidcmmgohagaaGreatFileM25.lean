/- What is proved here: hfo. -/
import Derived.Test.YtlgidcmmgohagaaGreatFileM14
import Derived.Test.YtlgidcmmgohagaaGreatFileM13
import Derived.Test.YtlgidcmmgohagaaGreatFileM22
import Derived.Test.YtlgidcmmgohagaaGreatFileM21
import Derived.Test.YtlgidcmmgohagaaGreatFileM09
import Derived.Test.YtlgidcmmgohagaaGreatFileM10
import Derived.Test.YtlgidcmmgohagaaGreatFileM04
import Derived.Test.YtlgidcmmgohagaaGreatFileM11
import Derived.Test.YtlgidcmmgohagaaGreatFileM20
namespace Go.Proofs.YtlgidcmmgohagaaGreat
open Go.RowKit Go.Sort Go.Shelf Go.Proofs.Tryz
set_option linter.unusedVariables false
set_option maxRecDepth 100000
set_option maxHeartbeats 16000000
variable {fs':FS}{F L T a b d data l m q r y:eL}{S n p s x:eD}{rest:fQ}{c t t':LT}{f k:Nat}{e:eN}{fc:Hd}{ks:Kids}{nodes jb:List eN}{id:Int}{w':World}{ey:List Ob}
theorem VA(s:eD)(k:Nat)(w:World)(h:Lib.indexByte s.data.toList 47=(k:Int))(hk:k<s.size)(hm:s.size<=maxLen):gc 184 #[.string s,.string ⟨#[47]⟩] w (pB (.tuple #[.string (s.extract 0 k),.string (s.extract (k+1) s.size),.bool true]) w):=by
 have hi:=tC s w;rw[h]at hi;unfold maxLen at hm;have hw:IntKind.i64.wrap ((k:Int)+1)=(k:Int)+1:=by rw[xS]<;>omega
 have a:(0:Int)<=k:=by omega
 go_enter func184,ntmps184;go_wp2_with(go_at_call 215;refine hi.mono ?_;rintro e b ⟨rfl,rfl⟩)
 go_region
 all_goals
  go_wp2;exact lF (v:=.tuple #[.string (s.extract 0 k),.string (s.extract (k+1) s.size),.bool true]) (by simp[results,results184,go_sem]) rfl ⟨rfl,gS (lh _ _)⟩
theorem Yi(x:eD)(r:eL)(hx:∀c∈PQ x,c≠47)(hm:(lf (x::r)).size<=maxLen)(w:World):
  gc 128 #[.string (lf (x::r)),.string ⟨#[47]⟩] w (pB (.tuple #[.string x,.string (lf r),.bool (!r.isEmpty)]) w):=by
 cases r with
 |nil=>
  rw[qF,ux];exact xo _ _ _ _ w ((Ei x w (rF _ hx)).mono fun e w' ⟨h1,h2⟩=>⟨h1,by rw[h2];exact lh _ _⟩)
 |cons y t=>
  have h1:=mM x (r:=y::t) (by simp);have h2:Lib.indexByte (PQ (lf (x::y::t))) 47=((PQ x).length:Int):=by rw[h1];exact index_first _ _ hx
  have h3:(lf (x::y::t)).size=(PQ x).length+1+(PQ (lf (y::t))).length:=by rw[<-pm,h1,mb,jA];omega
  have a:=VA (lf (x::y::t)) (PQ x).length w h2 (by omega) hm;have b:(lf (x::y::t)).extract 0 (PQ x).length=x:=gy (by rw[pM,h1,List.take_left,Ar]);have e2:(lf (x::y::t)).extract ((PQ x).length+1) (lf (x::y::t)).size=lf (y::t):=gy (by
   rw[pM,lV (by rw[pm];exact kx _),h1,show PQ x++47::PQ (lf (y::t))=(PQ x++[47])++PQ (lf (y::t)) by simp];exact Tj (by simp))
  rw[b,e2]at a;exact xo _ _ _ _ w a
theorem Cl:∀(s:List UInt8),∀x∈pk s,∀c∈x,c≠47
 |[]=>by intro x hx c hc;simp[pk]at hx;subst hx;cases hc
 |d::r=>by
  intro x hx c hc
  have a:=Cl r
  rw[pk]at hx
  split at hx
  ·rcases gU.1 hx with rfl|hx
   ·cases hc
   ·exact a x hx c hc
  ·rename_i hd
   rcases gU.1 hx with rfl|hx
   ·rcases gU.1 hc with rfl|hc
    ·exact hd
    ·cases hs:pk r with
     |nil=>exact absurd hs (mH r)
     |cons y ys=>rw[hs]at hc;exact a y (by rw[hs];exact jS ..) c hc
   ·exact a x (List.mem_of_mem_tail hx) c hc
def Na (s:eD):eL:=(pk (PQ s)).map fun x=>⟨x.toArray⟩
theorem VB(s:eD):lf (Na s)=s:=by
 apply gy;show iw ((Na s).map PQ)=PQ s;unfold Na;rw[Fg]
 have:(pk (PQ s)).map (PQ∘fun x=>(⟨x.toArray⟩:eD))=pk (PQ s):=by
  conv=>rhs;rw[<-List.map_id (pk (PQ s))]
  apply Pp;intro x _;rfl
 rw[this,sX]
theorem VC(s:eD):∀x∈Na s,∀c∈PQ x,c≠47:=by
 intro x hx;obtain⟨y,a,rfl⟩:=ij.1 hx;exact Cl _ y a
theorem axs(s:eD):Na s≠[]:=by
 unfold Na;intro h;exact mH _ (List.map_eq_nil_iff.1 h)
theorem Yj(h:¬Good L):∃k,k<L.length/\k<=5/\(∀j (hj:j<L.length),j<k->eG L[j]=true)/\(k=5\/∃hk:k<L.length,eG L[k]=false):=by
 by_cases hv:∀j (hj:j<L.length),j<5->eG L[j]=true
 ·by_cases c:L.length<=5
  ·refine absurd ⟨fun x hx=>?_,c⟩ h
   obtain⟨j,hj,rfl⟩:=pg hx;exact hv j hj (by omega)
  ·exact⟨5,by omega,by omega,hv,.inl rfl⟩
 ·have key:∀n,(∃j,∃hj:j<L.length,j<n/\eG L[j]=false)->∃k,∃hk:k<L.length,k<n/\eG L[k]=false/\∀j (hj:j<L.length),j<k->eG L[j]=true:=by
   intro n
   induction n with
   |zero=>rintro⟨j,_,hj,_⟩;omega
   |succ n e=>
    rintro⟨j,hj,l,a⟩;by_cases d:∃j,∃hj:j<L.length,j<n/\eG L[j]=false
    ·obtain⟨k,hk,m,h1,h2⟩:=e d
     exact⟨k,hk,by omega,h1,h2⟩
    ·have b:∀i (hi:i<L.length),i<n->eG L[i]=true:=fun i hi mG=>by
      cases hv:eG L[i] with
      |true=>rfl
      |false=>exact absurd ⟨i,hi,mG,hv⟩ d
     have f:j=n:=by
      by_cases g:j<n
      ·rw[b j hj g]at a;cases a
      ·omega
     subst f;exact⟨j,hj,by omega,a,b⟩
  have:∃j,∃hj:j<L.length,j<5/\eG L[j]=false:=by
   refine Classical.byContradiction fun hc=>hv fun j hj c=>?_;cases a:eG L[j] with
   |true=>rfl
   |false=>exact absurd ⟨j,hj,c,a⟩ hc
  obtain⟨k,hk,o,a,b⟩:=key 5 this;exact⟨k,hk,by omega,b,.inr ⟨hk,a⟩⟩
theorem EE(j:Nat):(lf (L.drop j)).size<=(lf L).size:=by
 induction j generalizing L with
 |zero=>exact kx _
 |succ j a=>
  cases L with
  |nil=>exact kx _
  |cons x r=>
   rw[Pk];refine wl a ?_;cases r with
   |nil=>exact tk _
   |cons y t=>
    have:=xr List.length (mM x (r:=y::t) (by simp))
    rw[mb,jA,pm,pm,pm]at this;omega
theorem RX(s:eD)(hs:s.size<=maxLen)(Gt:∀l,Good l->s≠lf l)(w:World):gc 69 #[.string s] w (pB (.tuple #[ju [],eJ 1]) w):=by
 obtain⟨L,H⟩:∃L,L=Na s:=⟨_,rfl⟩;have hj:=VB s;have TB:=VC s;have hne:=axs s;rw[<-H]at hj TB hne;have hg:¬Good L:=fun h=>Gt L h hj.symm;have aq:(!(s).toList.isEmpty)=true:=by
  have h0:s≠hZ:=fun e=>Gt [] Good.nil (by rw[e,ux]);rw[gF];cases hx:PQ s with
  |nil=>exact absurd (gy (show PQ s=PQ hZ by rw[hx];rfl)) h0
  |cons c r=>rfl
 obtain⟨k,ar,au,I,J⟩:=Yj hg;have hcut:∀j (hj:j<L.length) W,gc 128 #[.string (lf (L.drop j)),.string ⟨#[47]⟩] W (pB (.tuple #[.string (L.getD j hZ),.string (lf (L.drop (j+1))),.bool (decide (j+1<L.length))]) W):=by
  intro j d W;have K:L.drop j=L[j]::L.drop (j+1):=Hh d;have hm:(lf (L.drop j)).size<=maxLen:=by
   have:=EE (L:=L) j
   rw[hj]at this;omega
  rw[K]at hm
  have:=Yi L[j] (L.drop (j+1)) (TB _ (kj d)) hm W
  rw[<-K]at this;have e2:(!(L.drop (j+1)).isEmpty)=decide (j+1<L.length):=by
   by_cases h:j+1<L.length
   ·rw[mz h,Hh h];rfl
   ·rw[rk h,Pf (by omega)];rfl
  rw[e2]at this;rw[wh,jy d,qj];exact this
 have M:∀j (hj:j<L.length) W,gc 129 #[.string (L.getD j hZ)] W (Do (.bool (eG (L.getD j hZ))) W):=by
  intro j d W;rw[wh,jy d,qj];refine xU L[j] W ?_;have h1:=EE (L:=L) j;rw[hj,Hh d]at h1;have h2:L[j].size<=(lf (L[j]::L.drop (j+1))).size:=by
   cases hr:L.drop (j+1) with
   |nil=>rw[qF];exact kx _
   |cons y t=>
    have:=xr List.length (mM L[j] (r:=y::t) (by simp))
    rw[mb,jA,pm,pm,pm]at this;omega
  omega
 have ig:∀j (hj:j<L.length),j<k->eG (L.getD j hZ)=true:=fun j hj h=>by
  rw[wh,jy hj,qj];exact I j hj h
 have N:k<5->eG (L.getD k hZ)=false:=fun h=>by
  rcases J with rfl|⟨hk,o⟩
  ·omega
  ·rw[wh,jy hk,qj];exact o
 have B:=fun W=>ut W;unfold ju fy at B;simp only[nN]at B;have T:ju []=.agg (kq hZ hZ hZ hZ hZ):=rfl;rw[T];have O:Hid _:=hcut;have P:Hid _:=M;have U:Hid _:=ig;have V:Hid _:=N;have X:Hid _:=hj;clear hcut M ig N I J TB hne hg Gt H hj;go_enter func69,ntmps69;go_wp2;have Y:Hid (fL ((w.alloc (.cells (kq hZ hZ hZ hZ hZ) 147)).alloc (.cells (kq hZ hZ hZ hZ hZ) 147)) w.heap.size []):=Ek w;have Z:Hid (fL ((w.alloc (.cells (kq hZ hZ hZ hZ hZ) 147)).alloc (.cells (kq hZ hZ hZ hZ hZ) 147)) (w.heap.size+1) []):=El w
 go_loopw [5,6,7] (fun r m i wr=>∃j:Nat,j<=k/\i=.int .i64 (j:Int)/\m=.bool true/\r=.string (lf (L.drop j))/\ik w wr/\Hid (fL wr w.heap.size [])/\Hid (fL wr (w.heap.size+1) (L.take j))) (fun _ _ i _=>k-(intOf i).toNat)
 case atStart=>exact⟨0,tk _,rfl,rfl,by rw[Ar,X.out],((lh _ _).alloc (kx _) _).alloc (by simp) _,Y.out,Z.out⟩
 case round=>
  obtain⟨j,hj,rfl,rfl,rfl,o,C,D⟩:=hrel;have d:j<L.length:=by omega
  have Q:w.heap.size+1<wr.heap.size:=D.out.1;have aa:w.heap.size<wr.heap.size:=C.out.1;by_cases ab:j<k
  ·have p:j<5:=by omega
   have ac:((j:Int)==5)=false:=by simp;omega
   have ad:(j:Int)<5:=by omega
   have f:=O.out j d;have g:=P.out j d;rw[U.out j d ab]at g;rw[mz (show j+1<L.length by omega)]at f;generalize hx:L.getD j hZ=x at f g;have ae:Hid _:=hx;clear hx;go_wp2_with fail;refine io (f wr) ?_;rintro e n ⟨rfl,a⟩;have R:w.heap.size+1<n.heap.size:=lO Q a.size;have E:=((D.out.keep a).2 j p);obtain⟨F,af⟩:=E;generalize (L.take j).getD j hZ=ag at F;go_wp2_with(go_at_call 129;refine io (g _) ?_;rintro e ah ⟨rfl,rfl⟩);go_roundw
   case rel=>
    refine⟨j+1,by omega,by go_num,rfl,rfl,?_,?_,?_⟩
    ·refine qZ ?_ (by simp) _
     exact fx o a
    ·exact(C.out.keep a).other (by omega)
    ·rw[<-ae.out];exact(D.out.keep a).set p
   case measure=>simp[intOf];omega
  ·have ai:j=k:=by omega
   subst ai;by_cases aj:j=5
   ·subst aj
    go_wp2_with(go_at_call 75;refine(B _).mono ?_;rintro e n ⟨rfl,a⟩;obtain⟨⟨q0,q,u,z,A⟩,b⟩:=(C.out.keep a).five;have ak:=b 0 (by omega);have al:=b 1 (by omega);have am:=b 2 (by omega);have an:=b 3 (by omega);have ao:=b 4 (by omega);have R:w.heap.size<n.heap.size:=lO aa a.size;clear b;simp only[nN]at q0 q u z A);exact lF (v:=.tuple #[.agg (kq hZ hZ hZ hZ hZ),eJ 1]) (by simp[results,results69,go_sem,q0,q,u,z,A]) rfl ⟨rfl,by
     repeat(refine qZ ?_ (by simp) _)
     exact fx o a⟩
   ·have p:j<5:=by omega
    have ac:((j:Int)==5)=false:=by simp;omega
    have ad:(j:Int)<5:=(by omega);have f:=O.out j d;have g:=P.out j d;rw[V.out p]at g;generalize L.getD j hZ=x at f g;generalize decide (j+1<L.length)=more at f;go_wp2_with fail;refine io (f wr) ?_;rintro e n ⟨rfl,a⟩;have R:w.heap.size+1<n.heap.size:=lO Q a.size;have E:=((D.out.keep a).2 j p);obtain⟨F,af⟩:=E;generalize (L.take j).getD j hZ=ag at F;have S:Hid (fL (n.setCell (eI (w.heap.size+1) j) (.string x)) w.heap.size []):=(C.out.keep a).other (by omega);have ap:ik w (n.setCell (eI (w.heap.size+1) j) (.string x)):=qZ (fx o a) (by simp) _;go_wp2_with(first
     |(go_at_call 129;refine io (g _) ?_;rintro e ah ⟨rfl,rfl⟩)
     |(go_at_call 75;refine(B _).mono ?_;rintro e w3 ⟨rfl,G⟩;obtain⟨⟨q0,q,u,z,A⟩,b⟩:=(S.out.keep G).five;have ak:=b 0 (by omega);have al:=b 1 (by omega);have am:=b 2 (by omega);have an:=b 3 (by omega);have ao:=b 4 (by omega);have av:w.heap.size<w3.heap.size:=(S.out.keep G).1;clear b;simp only[nN]at q0 q u z A))
    exact lF (v:=.tuple #[.agg (kq hZ hZ hZ hZ hZ),eJ 1]) (by simp[results,results69,go_sem,q0,q,u,z,A]) rfl ⟨rfl,by
     repeat(refine qZ ?_ (by simp) _)
     exact fx ap G⟩
def OO (a:Nat)(tg:eV)(w:World)(er:Int)(ks:Kids)(v:Value):Prop:=(er≠0/\v=.slice none 0 0)\/(er=0/\∃b,v=.slice (some ⟨b,0,none⟩) ks.length ks.length/\tQ w b (ks.map mn) ks.length/\tg b=(0,0)/\a<=b)
section
variable {s i p:Nat}{B:WB}{ey:List Ob}
theorem bce{tg:eV}{w:World}{g:WG}{lim:Nat}(h:gO tg w s i p B ey g lim t)(hl:lim+1000<1099511627776)(y:Good r.reverse):
  gc 68 #[hh B.wb,.string (lf r.reverse)] w fun e w'=>∃v,e=.returned (.tuple #[v,eJ (lL ey t g.fs r).2.1])/\∃eF,eB (Mine i) tg eF w w'/\gO eF w' s i p B ey { g with fs:=(lL ey t g.fs r).1 } (lim+400) t/\OO w.heap.size eF w' (lL ey t g.fs r).2.1 (lL ey t g.fs r).2.2 v:=by
 obtain⟨C,c0,_⟩:=h.ws;have I:r.length<=5:=by have:=y.len;simpa using this
 have d:=fun W (a:ik w W)=>qI (s:=s) (i:=i) (p:=p) (B:=B) (ey:=ey) r tg W g lim (h.inv.below a) (by omega) y;have z:((lL ey t g.fs r).2.2.map mn).length<=16:=by
  have:=(h.inv.eR g.fs r).len
  rw[kV h.inv.st.sound h.flat h.ok g.fs r]at this;exact this
 simp only[kV h.inv.st.sound h.flat h.ok g.fs r]at d;obtain⟨fs',er,ks,hlk⟩:∃fs' er ks,lL ey t g.fs r=(fs',er,ks):=⟨_,_,_,rfl⟩;rw[hlk]at z d ⊢;simp only at z d ⊢;refine(Vv B.wb B.bt r.reverse y (fun v e w'=>e=er/\∃eF,eB (Mine i) tg eF w w'/\gO eF w' s i p B ey { g with fs:=fs' } (lim+400) t/\OO w.heap.size eF w' er ks v) w C c0 (fun W a=>?_)).mono ?_
 ·have A:∀{w3 w':World} {eF:eV},eB (fK i) tg eF w w3->eT eF w3 s i p B ey { g with fs:=fs' } (lim+r.length+1)->ik w3 w'->eB (Mine i) tg eF w w'/\gO eF w' s i p B ey { g with fs:=fs' } (lim+400) t:=by
   intro w3 w' eF m hW f;exact⟨(m.mono (fun t ht=>fK.mine ht)).trans (eB.eE f),(hW.below f).mono (by omega),h.flat,h.ok,h.fl⟩
  by_cases her:er=0
  ·subst her
   by_cases hne:0<ks.length
   ·have l:=MT B.bt _ _ _ _ _ (ks.map mn) (fun w3=>∃eF,eB (fK i) tg eF w w3/\eT eF w3 s i p B ey { g with fs:=fs' } (lim+r.length+1)) W z (fun n b=>(d n (fx a b)).mono ?_)
    ·refine l.mono ?_
     rintro e w' ⟨w3,⟨eF,m,hW⟩,rfl,f,x⟩;rw[nD]at x ⊢;obtain⟨o,hQ⟩:=A m hW f;exact⟨_,_,rfl,rfl,eF,o,hQ,.inr ⟨rfl,_,rfl,x,hW.st.fresh _ (kx _),m.size⟩⟩
    ·rintro e w' ⟨v,rfl,eF,m,hW,q⟩
     obtain⟨D,E,rfl,F,_⟩:=q.at_ (k:=0) (by simpa using hne);refine⟨D,E,rfl,⟨eF,(li (fx a b) m),hW⟩,F,fun j u hu=>?_⟩
     have:=jn q.1 j u hu
     rwa [iP]at this
   ·obtain rfl:ks=[]:=Ao.1 (by omega)
    have l:=RR B.bt _ _ _ _ _ (fun w3=>∃eF,eB (fK i) tg eF w w3/\eT eF w3 s i p B ey { g with fs:=fs' } (lim+r.length+1)) W (fun n b=>(d n (fx a b)).mono ?_)
    ·refine l.mono ?_
     rintro e w' ⟨w3,⟨eF,m,hW⟩,rfl,f,x⟩;obtain⟨o,hQ⟩:=A m hW f;exact⟨_,_,rfl,rfl,eF,o,hQ,.inr ⟨rfl,_,rfl,x,hW.st.fresh _ (kx _),m.size⟩⟩
    ·rintro e w' ⟨v,rfl,eF,m,hW,q⟩
     obtain⟨la,c,rfl⟩:=q.len;exact⟨la,c,rfl,eF,(li (fx a b) m),hW⟩
  ·have l:=RQ B.bt _ _ _ _ _ er her (fun w3=>∃eF,eB (fK i) tg eF w w3/\eT eF w3 s i p B ey { g with fs:=fs' } (lim+r.length+1)) W (fun n b=>(d n (fx a b)).mono ?_)
   ·refine l.mono ?_
    rintro e w' ⟨⟨eF,m,hW⟩,rfl⟩;obtain⟨o,hQ⟩:=A m hW (lh _ _);exact⟨_,_,rfl,rfl,eF,o,hQ,.inl ⟨her,rfl⟩⟩
   ·rintro e w' ⟨v,rfl,eF,m,hW,q⟩
    exact⟨v,rfl,eF,(li (fx a b) m),hW⟩
 ·rintro e w' ⟨v,J,G,rfl,H⟩
  exact⟨v,G,H⟩
end
def kM (S:eD):Prop:=∀W,Calls prog 69 #[.string S] W fun e w'=>e=.returned (.tuple #[.agg #[.string ⟨#[]⟩,.string ⟨#[]⟩,.string ⟨#[]⟩,.string ⟨#[]⟩,.string ⟨#[]⟩],.int .i64 1])/\Below W.heap.size W w'
theorem RY(wb:Nat)(S:eD)(w:World)(hp:kM S):gc 31 #[hh wb,.string S] w (pB (eJ 1) w):=by
 unfold kM at hp;go_enter func31,ntmps31;go_wp2_with(go_at_call 69;refine io (hp _) ?_;rintro e b ⟨rfl,a⟩);go_ret
 first|exact⟨rfl,a⟩|exact⟨rfl,a.alloc a.size _⟩
theorem Nb(wb:Nat)(S:eD)(w:World)(hp:kM S):gc 32 #[hh wb,.string S] w (pB (eJ 1) w):=by
 unfold kM at hp;go_enter func32,ntmps32;go_wp2_with(go_at_call 69;refine io (hp _) ?_;rintro e b ⟨rfl,a⟩);go_ret
 first|exact⟨rfl,a⟩|exact⟨rfl,a.alloc a.size _⟩
theorem VD(wb:Nat)(S:eD)(w:World)(hp:kM S):gc 68 #[hh wb,.string S] w (pB (.tuple #[.slice none 0 0,eJ 1]) w):=by
 unfold kM at hp;go_enter func68,ntmps68;go_wp2_with(go_at_call 69;refine io (hp _) ?_;rintro e b ⟨rfl,a⟩);go_ret2
 first|exact⟨rfl,a⟩|exact⟨rfl,a.alloc a.size _⟩
theorem JR(wb:Nat)(S T:eD)(w:World)(hp:kM S):gc 33 #[hh wb,.string S,.string T] w (pB (eJ 1) w):=by
 unfold kM at hp;go_enter func33,ntmps33;go_wp2_with(go_at_call 69;refine io (hp _) ?_;rintro e b ⟨rfl,a⟩);go_ret
 first|exact⟨rfl,a⟩|exact⟨rfl,a.alloc a.size _⟩
theorem JS(wb:Nat)(l:eL)(hl:Good l)(T:eD)(w:World)(hp:kM T):gc 33 #[hh wb,.string (lf l),.string T] w (pB (eJ 1) w):=by
 unfold kM at hp;have iD:=fun W=>iC l hl W
 obtain⟨b,c,d,f,g,h⟩:∃b c d f g,fy l=(kq b c d f g):=⟨_,_,_,_,_,rfl⟩;unfold ju at iD;simp only[h]at iD;clear h hl;generalize lf l=j at iD ⊢;go_enter func33,ntmps33;go_wp2_with fail;refine io (iD _) ?_;rintro e k ⟨rfl,a⟩;go_wp2_with fail;refine io (hp _) ?_;rintro e m ⟨rfl,i⟩;go_wp2;go_ret;exact⟨rfl,SL (fx (a.alloc a.size _) i) (wl (wl a.size (by simp)) i.size) _⟩
theorem VE(wb:Nat)(S:eD)(w:World)(hp:kM S):gc 67 #[hh wb,.string S] w (pB (.tuple #[.agg #[eJ 0,eJ 0],eJ 1]) w):=by
 unfold kM at hp;have f:ik w (w.alloc (.cells #[eJ 0,eJ 0] 141)):=(lh _ _).alloc (kx _) _;have g:ja (w.alloc (.cells #[eJ 0,eJ 0] 141)) w.heap.size:=su _ _;have j:Hid _:=f;have k:Hid _:=g;clear f g;go_enter func67,ntmps67;go_wp2_with fail;refine io (hp _) ?_;rintro e a ⟨rfl,h⟩;have b:ja a w.heap.size:=(h.block w.heap.size (by simp)).trans k.out;obtain⟨p,q,r,f2⟩:=b.cells;have i:ik w a:=j.out.trans (h.mono (by simp));have c:((a.setCell (eI w.heap.size 0) (eJ 0)).setCell (eI w.heap.size 1) (eJ 0)).heap[w.heap.size]?=some (.cells #[eJ 0,eJ 0] 141 (0,0)):=by
  unfold ja at b;simp[World.setCell,Am,b]
 have d:∀o,(((a.setCell (eI w.heap.size 0) (eJ 0)).setCell (eI w.heap.size 1) (eJ 0)).alloc o).heap[w.heap.size]?=some (.cells #[eJ 0,eJ 0] 141 (0,0)):=fun o=>(mA _ _ _ (nX.1 c).1).trans c;have l:∀o,(((a.setCell (eI w.heap.size 0) (eJ 0)).setCell (eI w.heap.size 1) (eJ 0)).alloc o).cell? (eI w.heap.size 0)=some (eJ 0):=fun o=>by simp[World.cell?,d o]
 have m:∀o,(((a.setCell (eI w.heap.size 0) (eJ 0)).setCell (eI w.heap.size 1) (eJ 0)).alloc o).cell? (eI w.heap.size 1)=some (eJ 0):=fun o=>by simp[World.cell?,d o]
 have n:∀o,ik w (((a.setCell (eI w.heap.size 0) (eJ 0)).setCell (eI w.heap.size 1) (eJ 0)).alloc o):=fun o=>((i.setCell (kx _) _).setCell (kx _) _).alloc (by simpa using i.size) _;clear b c d;go_wp2;exact lF (v:=.tuple #[.agg #[eJ 0,eJ 0],eJ 1]) (by simp[results,results67,go_sem,l,m]) rfl ⟨rfl,n _⟩
theorem JT(xs:eL):∀k,k<=xs.length->PQ (lN xs k)=iw ((xs.take k).map PQ)
 |0,_=>rfl
 |k+1,h=>by
  have a:=JT xs k (by omega)
  have hg:xs.getD k hZ=xs[k]:=by rw[wh,jy (by omega)];rfl
  rw[vZ (by omega),nM,jg,vr]
  simp only[lN]
  rw[hg,oH]
  split
  ·next h0=>
   rw[vv _ _ (by intro e;have:=xr List.length e;rw[nD,gT,wA]at this;omega),oH,a]
   simp[PQ]
  ·next h0=>
   have:k=0:=by omega
   subst this
   simp[lN,PQ,iw]
theorem ir(xs:eL):PQ (ez xs)=iw (xs.map PQ):=by
 unfold ez;rw[JT xs xs.length (kx _),xR]
theorem zF:∀(a:List UInt8) (c:UInt8),pk (a++[c])=if c=47 then pk a++[[]] else(pk a).dropLast++[(pk a).getLastD []++[c]]
 |[],c=>by
  simp only[zR,pk]
  split<;>rfl
 |d::r,c=>by
  have b:=zF r c
  have hne:=mH r
  simp only[uQ,pk]
  rw[b]
  cases hs:pk r with
  |nil=>exact absurd hs hne
  |cons y t=>
   by_cases hd:d=47
   ·simp only[ie hd]
    by_cases hc:c=47
    ·simp[hc]
    ·simp[hc]
   ·simp only[fY hd]
    by_cases hc:c=47
    ·simp[hc]
    ·simp only[fY hc]
     cases t with
     |nil=>simp
     |cons z u=>simp
theorem VF{i:Nat}(h:i<s.size):cutAt s i=decide (s[i]=47):=by unfold cutAt;rw[dif_pos h]
theorem RZ:cutAt s s.size=true:=by unfold cutAt;rw[dif_neg (by omega)]
theorem nB(s:eD)(a b:Nat):PQ (s.extract a b)=((PQ s).take b).drop a:=by
 unfold PQ;rw[Pg];simp[List.drop_take]
theorem VG(s:eD):∀i,i<=s.size->pk ((PQ s).take i)=(iz s i).1.map PQ++[((PQ s).take i).drop (iz s i).2]
 |0,_=>rfl
 |i+1,h=>by
  have b:=VG s i (by omega)
  have hf:=Ed s i
  have hi:i<(PQ s).length:=by rw[pm];omega
  obtain⟨c,a⟩:∃c,c=(PQ s)[i]:=⟨_,rfl⟩
  have hcut:cutAt s i=decide (c=47):=by rw[VF (by omega:i<s.size),a];rfl
  rw[vZ hi,<-a,zF,b]
  simp only[iz,hcut]
  by_cases hc:c=47
  ·simp only[hc,KY,decide_true,nM,jg,vr,nB]
   congr 1
   rw[Pf]
   simp only[mb,gT,jA,wA]
   omega
  ·simp only[hc,Py,decide_false,Bool.false_eq_true,qY]
   congr 1
   have:((iz s i).1.map PQ++[((PQ s).take i).drop (iz s i).2]).getLastD []=((PQ s).take i).drop (iz s i).2:=by simp
   rw[this,List.drop_append_of_le_length (by rw[gT];omega)]
theorem JU(s:eD):(iz s (s.size+1)).1.map PQ=pk (PQ s):=by
 have h:=VG s s.size (kx _);have ht:(PQ s).take s.size=PQ s:=by rw[<-pm];exact xR
 rw[ht]at h;rw[h];simp only[iz];rw[RZ,ie rfl];simp only[nM,jg,vr,nB,ht]
theorem Nc(s:eD):ez (iz s (s.size+1)).1=s:=by
 apply gy;rw[ir,JU,sX]
theorem vU(h:eG x=true):∀c∈PQ x,c≠47:=by
 unfold eG at h;simp only[xP,uP]at h;intro c hc e;subst e;obtain⟨j,hj,a⟩:=pg hc;exact FB hj a h.2
theorem tU:∀{a b:eL},a.map PQ=b.map PQ->a=b
 |[],[],_=>rfl
 |[],_::_,h=>by cases h
 |_::_,[],h=>by cases h
 |x::r,y::t,h=>by
  simp only[jg,sG]at h
  rw[gy h.1,tU h.2]
theorem tV(hv:∀x∈l,eG x=true):(ez l).size=0↔l=[]:=by
 constructor
 ·intro h
  cases l with
  |nil=>rfl
  |cons x r=>
   have h1:=(wn (hv x (jS ..))).1;have h2:(PQ (ez (x::r))).length=0:=by rw[pm];exact h
   rw[ir,jg]at h2;cases r with
   |nil=>simp only[vr,iw,pm]at h2;omega
   |cons y t=>simp only[jg,iw,mb,jA]at h2;omega
 ·intro h;subst h;rfl
theorem Sa(hl:l≠[])(hv:∀x∈l,eG x=true):(iz (ez l) ((ez l).size+1)).1=l:=by
 apply tU;rw[JU,ir];refine pJ _ (by simpa using hl) (fun x hx=>?_);obtain⟨y,a,rfl⟩:=ij.1 hx;exact vU (hv y a)
theorem rQ(hv:∀x∈l,eG x=true):ib (ez l)=(l,decide (l.length<=5)):=by
 unfold ib;by_cases h:l=[]
 ·subst h;rfl
 ·rw[fY (fun e=>h ((tV hv).1 e)),Sa h hv,ie hv]
theorem Cm(h:(ib p).2=true):ez (ib p).1=p:=by
 unfold ib at h ⊢;split at h
 ·next h0=>
  rw[ie h0];apply gy
  have:(PQ p).length=0:=by rw[pm];exact h0
  rw[CK this];rfl
 ·next h0=>
  rw[fY h0];split at h
  ·next h1=>rw[ie h1];exact Nc p
  ·cases h
theorem pw(c:∀x∈a,eG x=true)(d:∀x∈b,eG x=true)(h:ez a=ez b):a=b:=by
 have h1:=rQ c;rw[h,rQ d]at h1;exact(Prod.mk.inj h1).1.symm
theorem EF:∀(a b:List UInt8),pk (a++47::b)=pk a++pk b
 |[],b=>by simp[pk]
 |c::r,b=>by
  have d:=EF r b
  simp only[uQ,pk]
  rw[d]
  cases hs:pk r with
  |nil=>exact absurd hs (mH r)
  |cons y t=>split<;>simp
theorem uH:∀(a b:List (List UInt8)),a≠[]->b≠[]->iw (a++b)=iw a++47::iw b
 |[],b,h,_=>absurd rfl h
 |[x],b,_,c=>by rw[SY,oG x c];rfl
 |x::y::r,b,_,c=>by
  have d:=uH (y::r) b (by simp) c
  rw[uQ,oG x (by simp),d,oG x (by simp)]
  simp
theorem JV(hl:l≠[])(hv:eH l):iw (l.map PQ)≠[]:=by
 intro e;rw[<-ir]at e;have h1:(ez l).size=0:=by rw[<-pm,e];rfl
 exact hl ((tV hv).1 h1)
theorem JW(p t:eD):rx p t=true↔∃r,r≠[]/\PQ p=PQ t++47::r:=by
 unfold rx;constructor
 ·intro h
  split at h
  ·next hl=>
   simp only[xP,uP]at h;obtain⟨h1,h2⟩:=h;have h3:PQ (p.extract 0 t.size)=PQ t:=by rw[<-gF,<-gF];exact eq_of_beq h1
   rw[nB,Ar]at h3;have b:t.size<(PQ p).length:=by rw[pm];omega
   refine⟨(PQ p).drop (t.size+1),?_,?_⟩
   ·intro e
    have:=xr List.length e
    rw[lz,pm,wA]at this;omega
   ·have a:=Hl t.size (PQ p)
    rw[h3,Hh b]at a;have e2:(PQ p)[t.size]=47:=h2;rw[e2]at a;exact a.symm
  ·cases h
 ·rintro⟨r,hr,h⟩
  have c:p.size=t.size+1+r.length:=by
   have:=xr List.length h
   rw[pm,mb,jA,pm]at this;omega
  have d:0<r.length:=Ho.2 hr;rw[dif_pos (by omega)];simp only[xP,uP];constructor
  ·have:PQ (p.extract 0 t.size)=PQ t:=by
    rw[nB,Ar,h,Pe (by rw[pm];exact kx _),<-pm,xR]
   rw[gF,gF,this];exact Tg _
  ·have hg:(PQ p)[t.size]'(by rw[pm];omega)=47:=by
    simp only[h];rw[WK (by rw[pm];exact kx _)];simp[pm]
   exact hg
theorem lu(hl:eH l)(hm:eH m)(hne:m≠[]):rx (ez l) (ez m)=true↔∃r,r≠[]/\l=m++r:=by
 rw[JW,ir,ir];constructor
 ·rintro⟨r,hr,h⟩
  have hle:l≠[]:=by
   rintro rfl
   have:=xr List.length h
   simp[iw]at this
  have h1:=xr pk h;rw[EF,pJ _ (by simpa using hle) (fun x hx=>by obtain⟨y,a,rfl⟩:=ij.1 hx;exact vU (hl y a)),pJ _ (by simpa using hne) (fun x hx=>by obtain⟨y,a,rfl⟩:=ij.1 hx;exact vU (hm y a))]at h1;have h2:(l.take m.length).map PQ=m.map PQ:=by
   rw[Pn,h1,Pe (by simp)];exact lV (by simp)
  refine⟨l.drop m.length,?_,?_⟩
  ·intro e
   have h3:=xr List.length h1;have b:=xr List.length e;have c:0<(pk r).length:=Ho.2 (mH r);rw[mb,nD,nD]at h3;rw[lz,wA]at b;omega
  ·rw[<-tU h2,gT]
   have h3:=xr List.length h1;rw[mb,nD,nD]at h3;rw[show min m.length l.length=m.length by omega];exact(Hl _ _).symm
 ·rintro⟨r,hr,rfl⟩
  refine⟨iw (r.map PQ),JV hr hl.right,?_⟩;rw[nM,uH _ _ (by simpa using hne) (by simpa using hr)]
theorem ot(hl:eH l):(ib (ez l)).1=l:=by rw[rQ hl]
theorem gP(hl:eH l)(hd:eH d):po (ez l) (ez d)=true↔∃x,l=d++[x]:=by
 unfold po;rw[ot hl,xP,uP];constructor
 ·rintro⟨h0,h1⟩
  have h2:ez (l.take (l.length-1))=ez d:=by
   apply gy;rw[<-gF,<-gF];exact eq_of_beq h1
  have h3:=pw (hl.take _) hd h2;refine⟨l[l.length-1],?_⟩;rw[<-h3]
  have:=vZ (l:=l) (i:=l.length-1) (by omega)
  rw[show l.length-1+1=l.length by omega,xR]at this;exact this
 ·rintro⟨x,rfl⟩
  refine⟨by simp,?_⟩
  have:(d++[x]).take ((d++[x]).length-1)=d:=by simp
  rw[this];exact Tg _
theorem rR(h:eH (d++[x])):oN (ez (d++[x]))=x:=by
 unfold oN;rw[ot h];simp
def mR (nodes:List eN):Prop:=∀e∈nodes,∃l,l≠[]/\eH l/\l.length<=5/\e.1=ez l
def mY (nodes:List eN):Prop:=(nodes.map (·.1)).Nodup
def eX (nodes:List eN)(l:eL):Option (Int×Int):=if l=[]then some (2,0) else(nodes.find? (fun e=>decide (e.1=ez l))).map (·.2)
theorem yI(nodes:List eN)(p:eD):(kY nodes p).bind (fun i=>(nodes[i]?).map (·.2))=(nodes.find? (fun e=>decide (e.1=p))).map (·.2):=by
 unfold kY;have e:(fun e:eN=>decide (e.1.toList=p.toList))=fun e=>decide (e.1=p):=by
  funext x
  by_cases h:x.1=p
  ·rw[h];simp
  ·rw[rk h,rk (fun e=>h (gy (by rw[<-gF,<-gF];exact e)))]
 rw[e]
 induction nodes with
 |nil=>rfl
 |cons x r a=>
  rw[KR,KT];cases hx:decide (x.1=p) with
  |true=>simp
  |false=>
   rw[<-a];cases hr:r.findIdx? (fun e=>decide (e.1=p)) with
   |none=>simp
   |some i=>simp
theorem Sc(hl:eH l):lx nodes (ez l)=((eX nodes l).map (·.1)).getD 0:=by
 unfold lx eX;by_cases h:l=[]
 ·subst h
  rw[ie (by rw[gF];rfl),ie rfl];rfl
 ·have h1:¬(ez l).toList=[]:=by rw[gF,ir];exact JV h hl
  rw[fY h1,fY h,<-yI];cases kY nodes (ez l) with
  |none=>rfl
  |some i=>cases hx:nodes[i]?<;>simp[hx]
theorem lU{d:Type}(p q:d->Bool)(c:Bool):∀(xs:List d),(∀a∈xs,q a=true->p a=c)->(xs.filter p).find? q=if c=true then xs.find? q else none
 |[],_=>by cases c<;>rfl
 |x::r,h=>by
  have b:=lU p q c r (fun a e=>h a (pn _ e))
  cases hq:q x with
  |true=>
   have hp:=h x (jS ..) hq
   cases c with
   |true=>rw[List.filter_cons_of_pos hp,Hi hq];simp[Hi hq]
   |false=>rw[List.filter_cons_of_neg (by rw[hp];decide),b];rfl
  |false=>
   rw[Hj (by rw[hq];decide)]
   cases hp:p x with
   |true=>rw[List.filter_cons_of_pos hp,Hj (by rw[hq];decide),b]
   |false=>rw[List.filter_cons_of_neg (by rw[hp];decide),b]
theorem JX(c:eH a)(d:eH b):((ez a).toList==(ez b).toList)=decide (a=b):=by
 by_cases h:a=b
 ·subst h;simp
 ·rw[rk h]
  refine EX.2 fun e=>h (pw c d (gy ?_));rw[<-gF,<-gF];exact e
theorem nU:(m=l\/∃r,r≠[]/\m=l++r)↔l <+: m:=by
 constructor
 ·rintro(rfl|⟨r,_,rfl⟩)
  ·exact List.prefix_rfl
  ·exact nG _ _
 ·rintro⟨r,rfl⟩
  cases r with
  |nil=>exact .inl (by simp)
  |cons x t=>exact .inr ⟨x::t,by simp,rfl⟩
theorem jx(b:eH a)(hl:eH l)(hne:l≠[]):(((ez a).toList==(ez l).toList)=true\/rx (ez a) (ez l)=true)↔l <+: a:=by
 rw[JX b hl,uP,lu b hl hne];exact nU
theorem kz(h:m≠[]):eX nodes m=(nodes.find? (fun e=>decide (e.1=ez m))).map (·.2):=by unfold eX;rw[fY h]
theorem qQ(hl:eH l)(hne:l≠[])(hm:eH m):eX (pA nodes (ez l)) m=if l <+: m then none else eX nodes m:=by
 by_cases h0:m=[]
 ·subst h0
  rw[fY (fun h=>hne (List.prefix_nil.1 h))];rfl
 ·rw[kz h0,kz h0]
  unfold pA;by_cases hp:l <+: m
  ·rw[lU _ _ false _ (fun a _ b=>?_),ie hp];rfl
   rw[wm b];rcases(jx hm hl hne).2 hp with e|e
   ·rw[e];rfl
   ·rw[e];simp
  ·rw[lU _ _ true _ (fun a _ b=>?_),fY hp];rfl
   rw[wm b];have h1:((ez m).toList==(ez l).toList)=false:=by
    cases e:((ez m).toList==(ez l).toList) with
    |true=>exact absurd ((jx hm hl hne).1 (.inl e)) hp
    |false=>rfl
   have h2:rx (ez m) (ez l)=false:=by
    cases e:rx (ez m) (ez l) with
    |true=>exact absurd ((jx hm hl hne).1 (.inr e)) hp
    |false=>rfl
   rw[h1,h2];rfl
theorem yJ{k f:Int}(hl:eH l)(hne:l≠[])(hm:eH m)(hn:eX nodes l=none):eX (nodes++[(ez l,k,f)]) m=if m=l then some (k,f)else eX nodes m:=by
 by_cases h0:m=[]
 ·subst h0
  rw[fY (fun h=>hne h.symm)];rfl
 ·rw[kz h0,kz h0,List.find?_append]
  by_cases h:m=l
  ·subst h
   rw[kz h0]at hn;rw[ie rfl]
   have:nodes.find? (fun e=>decide (e.1=ez m))=none:=by simpa using hn
   rw[this];simp
  ·rw[fY h]
   have:decide (ez l=ez m)=false:=rk fun e=>h (pw hm hl e.symm)
   simp[this]
theorem Cn{f r:eL}(hf:eH (f++r))(hne:f≠[])(t:eL)(ht:t≠[]):ez t++(ez (f++r)).extract (ez f).size (ez (f++r)).size=ez (t++r):=by
 apply gy;rw[oH,nB,ir (t++r),ir t];have a:(ez (f++r)).size=(PQ (ez (f++r))).length:=(pm _).symm;rw[a,xR,<-pm,ir,ir];by_cases hr:r=[]
 ·subst hr;simp
 ·rw[nM,nM,uH _ _ (by simpa using hne) (by simpa using hr),uH _ _ (by simpa using ht) (by simpa using hr)]
  congr 1
  rw[pZ]
theorem pR{f t a:eL}{k n:Int}(hf:eH f)(hfn:f≠[])(ht:t≠[])(b:eH a):lw (ez f) (ez t) (ez a,k,n)=if f <+: a then(ez (t++a.drop f.length),k,n) else(ez a,k,n):=by
 unfold lw;by_cases h:f <+: a
 ·rw[ie h,ie ((jx b hf hfn).2 h)]
  obtain⟨r,rfl⟩:=h;rw[Cn b hfn t ht,pZ]
 ·rw[fY h,fY (fun e=>h ((jx b hf hfn).1 e))]
theorem pS{b:Type}(g:b->b)(q c:b->Bool):∀(xs:List b),(∀a∈xs,q (g a)=c a)->(xs.map g).find? q=(xs.find? c).map g
 |[],_=>rfl
 |x::r,h=>by
  have d:=pS g q c r (fun a e=>h a (pn _ e))
  have hx:=h x (jS ..)
  rw[jg,KT,KT,hx,d]
  cases c x<;>rfl
theorem nC(h:e∈pA nodes p):e∈nodes:=(Av.1 h).1
theorem mR.gone(h:mR nodes)(p:eD):mR (pA nodes p):=fun e a=>h e (nC a)
theorem zG{f t m:eL}(hp:mR nodes)(hf:eH f)(hfn:f≠[])(ht:eH t)(Vs:t≠[])(i:¬f <+: t)(j:¬t <+: f)(hm:eH m):
  eX ((pA nodes (ez t)).map (lw (ez f) (ez t))) m=if t <+: m then eX nodes (f++m.drop t.length)else if f <+: m then none else eX nodes m:=by
 have comp:∀r,¬t <+: f++r:=fun r h=>by
  rcases List.prefix_or_prefix_of_prefix h (nG f r)with e|e
  ·exact j e
  ·exact i e
 by_cases h0:m=[]
 ·subst h0
  rw[fY (fun h=>Vs (List.prefix_nil.1 h)),fY (fun h=>hfn (List.prefix_nil.1 h))];rfl
 ·rw[kz h0]
  have key:∀e∈pA nodes (ez t),∃a,eH a/\e.1=ez a/\¬t <+: a:=fun e d=>by
   obtain⟨a,_,b,_,c⟩:=hp e (nC d);refine⟨a,b,c,fun h=>?_⟩
   have:=(Av.1 d).2
   rw[c]at this;rcases(jx b ht Vs).2 h with g|g
   ·rw[g]at this;cases this
   ·rw[g]at this;simp at this
  by_cases htm:t <+: m
  ·obtain⟨r,rfl⟩:=htm
   rw[ie (nG _ _),pZ];have hv:eH (f++r):=hf.append hm.right;have hne:f++r≠[]:=by simp[hfn]
   rw[pS _ _ (fun e=>decide (e.1=ez (f++r))) _ (fun e d=>?_)]
   ·have h1:=qQ (nodes:=nodes) ht Vs hv
    rw[fY (comp r),kz hne]at h1;rw[<-h1,Tk]
    congr 1
    funext e
    show(lw (ez f) (ez t) e).2=e.2;unfold lw;split<;>rfl
   ·obtain⟨a,b,c,Zb⟩:=key e d
    obtain⟨p,k,n⟩:=e;simp only at c;subst c;rw[pR hf hfn Vs b];by_cases oW:f <+: a
    ·obtain⟨s,rfl⟩:=oW
     rw[ie (nG _ _),pZ];have hs:eH s:=b.right;by_cases PT:s=r
     ·subst PT;simp
     ·rw[rk (fun e=>PT (EW (pw (ht.append hs) hm e))),rk (fun e=>PT (EW (pw b hv e)))]
    ·rw[fY oW,rk (fun e=>Zb (by rw[pw b hm e];exact nG _ _)),rk (fun e=>oW (by rw[pw b hv e];exact nG _ _))]
  ·rw[fY htm]
   by_cases hfm:f <+: m
   ·rw[ie hfm,pS _ _ (fun _=>false) _ (fun e d=>?_)]
    ·have:(pA nodes (ez t)).find? (fun _=>false)=none:=by simp
     rw[this];rfl
    ·obtain⟨a,b,c,Zb⟩:=key e d
     obtain⟨p,k,n⟩:=e;simp only at c;subst c;rw[pR hf hfn Vs b];by_cases oW:f <+: a
     ·obtain⟨s,rfl⟩:=oW
      rw[ie (nG _ _),pZ];exact rk (fun e=>htm (by rw[<-pw (ht.append b.right) hm e];exact nG _ _))
     ·rw[fY oW]
      exact rk (fun e=>oW (by rw[pw b hm e];exact hfm))
   ·rw[fY hfm,pS _ _ (fun e=>decide (e.1=ez m)) _ (fun e d=>?_)]
    ·have h1:=qQ (nodes:=nodes) ht Vs hm
     rw[fY htm,kz h0]at h1;rw[<-h1,Tk]
     congr 1
     funext e
     show(lw (ez f) (ez t) e).2=e.2;unfold lw;split<;>rfl
    ·obtain⟨a,b,c,Zb⟩:=key e d
     obtain⟨p,k,n⟩:=e;simp only at c;subst c;rw[pR hf hfn Vs b];by_cases oW:f <+: a
     ·obtain⟨s,rfl⟩:=oW
      rw[ie (nG _ _),pZ,rk (fun e=>htm (by rw[<-pw (ht.append b.right) hm e];exact nG _ _)),rk (fun e=>hfm (by rw[<-pw b hm e];exact nG _ _))]
     ·rw[fY oW]
theorem gZ{a:Type}[DecidableEq a]:∀{xs ys:List a},xs.Nodup->(∀x∈xs,x∈ys)->xs.length<=ys.length
 |[],_,_,_=>tk _
 |x::r,ys,hn,hs=>by
  have hx:x∈ys:=hs x (jS ..)
  have h1:∀z∈r,z∈ys.erase x:=fun z b=>by
   have hne:z≠x:=fun e=>(Ti.1 hn).1 (e▸b)
   exact(List.mem_erase_of_ne hne).2 (hs z (pn _ b))
  have h2:=gZ (Ti.1 hn).2 h1
  have h3:=List.length_erase_of_mem hx
  have c:0<ys.length:=List.length_pos_of_mem hx
  simp only[jA]
  omega
theorem nV{a b:Type}(f:a->b){l:List a}(h:(l.map f).Nodup):l.Nodup:=(CO.1 h).imp (fun hab e=>hab (xr f e))
theorem xL{c d:Type}{f:c->d}{l:List c}(h:∀a∈l,∀b∈l,f a=f b->a=b)(hn:l.Nodup):(l.map f).Nodup:=CO.2 (List.Pairwise.imp_of_mem (fun {a b} g i hab e=>hab (h a g b i e)) hn)
theorem uI(hp:mR nodes)(hd:eH d):e∈eO nodes (ez d)↔∃x,eG x=true/\(∃n∈nodes,n.1=ez (d++[x]))/\e=(x,0,0):=by
 unfold eO;rw[ij];constructor
 ·rintro⟨n,hn,rfl⟩
  obtain⟨f,g⟩:=Av.1 hn;obtain⟨a,_,b,_,c⟩:=hp n f;rw[c]at g;obtain⟨x,rfl⟩:=(gP b hd).1 g;exact⟨x,b x (by simp),⟨n,f,c⟩,by rw[c,rR b]⟩
 ·rintro⟨x,hx,⟨n,hn,hne⟩,rfl⟩
  have hv:eH (d++[x]):=hd.append (fun y h=>by rw[nh.1 h];exact hx);exact⟨n,Av.2 ⟨hn,by rw[hne];exact(gP hv hd).2 ⟨x,rfl⟩⟩,by rw[hne,rR hv]⟩
theorem ou(hne:l≠[]):eX nodes l≠none↔∃n∈nodes,n.1=ez l:=by
 rw[kz hne];constructor
 ·intro h
  cases hf:nodes.find? (fun e=>decide (e.1=ez l)) with
  |none=>rw[hf]at h;exact absurd rfl h
  |some n=>exact⟨n,EU hf,wm (Pq (p:=fun e:eN=>decide (e.1=ez l)) hf)⟩
 ·rintro⟨n,hn,a⟩ h
  have:nodes.find? (fun e=>decide (e.1=ez l))=none:=by simpa using h
  have h2:=Td.1 this n hn;simp[a]at h2
theorem uJ(hp:mR nodes)(hd:eH d):x∈xi nodes (ez d)↔eG x=true/\eX nodes (d++[x])≠none:=by
 unfold xi;rw[ij,ou (by simp)];constructor
 ·rintro⟨e,a,rfl⟩
  obtain⟨y,b,hn,rfl⟩:=(uI hp hd).1 (rq a);exact⟨b,hn⟩
 ·rintro⟨hx,hn⟩
  exact⟨(x,0,0),(jk _).mem_iff.2 ((uI hp hd).2 ⟨x,hx,hn,rfl⟩),rfl⟩
theorem tW(hp:mR nodes)(ho:mY nodes)(hd:eH d):((eO nodes (ez d)).map (·.1)).Nodup:=by
 unfold eO;rw[Fg];unfold mY at ho;have qa:nodes.Nodup:=nV _ ho;have s:(nodes.filter (fun e=>po e.1 (ez d))).Nodup:=qa.filter _;have t:∀a∈nodes,∀b∈nodes,a.1=b.1->a=b:=by
  intro a c b g e
  induction nodes with
  |nil=>cases c
  |cons x r u=>
   rw[jg,Ti]at ho;rcases gU.1 c with rfl|j<;>rcases gU.1 g with rfl|k
   ·rfl
   ·exact absurd (ij.2 ⟨b,k,e.symm⟩) ho.1
   ·exact absurd (ij.2 ⟨a,j,e⟩) ho.1
   ·exact u (fun z v=>hp z (pn _ v)) ho.2 (nV _ ho.2) ((nV _ ho.2).filter _) j k
 have key:∀a∈nodes.filter (fun e=>po e.1 (ez d)),∀b∈nodes.filter (fun e=>po e.1 (ez d)),oN a.1=oN b.1->a=b:=by
  intro a c b g e;obtain⟨l,m⟩:=Av.1 c;obtain⟨n,o⟩:=Av.1 g;obtain⟨la,_,p,_,h⟩:=hp a l;obtain⟨w,_,q,_,i⟩:=hp b n;rw[h]at m;rw[i]at o;obtain⟨x,rfl⟩:=(gP p hd).1 m;obtain⟨y,rfl⟩:=(gP q hd).1 o;rw[h,i,rR p,rR q]at e;subst e;exact t a l b n (by rw[h,i])
 exact xL (f:=fun e:eN=>oN e.1) (fun a c b g e=>key a c b g e) s
theorem Gu(hp:mR nodes)(ho:mY nodes)(hd:eH d):gC (Ps (eO nodes (ez d))):=uW (tW hp ho hd)
theorem JY(hp:mR nodes)(ho:mY nodes)(hd:eH d):(xi nodes (ez d)).Nodup:=by
 unfold xi;exact((jk _).map _).nodup_iff.2 (tW hp ho hd)
structure eY (nodes:List eN)(data:eL):Prop where
 iO:mR nodes
 one:mY nodes
 few:∀d,eH d->(eO nodes (ez d)).length<=16
 kinds:∀e∈nodes,e.2.1=1\/e.2.1=2
 files:∀e∈nodes,e.2.1=1->0<=e.2.2/\e.2.2<(data.length:Int)
 up:∀l x,eH (l++[x])->eX nodes (l++[x])≠none->∃f,eX nodes l=some (2,f)
theorem Nf(hv:eH l)(a:l.length<=5):(ez l).size<=65:=by
 have:=tq l (fun x hx=>(wn (hv x hx)).2) l.length
 unfold ez;omega
theorem eY.small(h:eY nodes data):∀e∈nodes,e.1.size<=65:=fun e a=>by
 obtain⟨l,_,hv,b,c⟩:=h.iO e a
 rw[c];exact Nf hv b
theorem Ng{d:eD}(h:∀e∈nodes,po e.1 d=false):eO nodes d=[]:=by
 unfold eO;rw[List.filter_eq_nil_iff.2 (fun e a=>by rw[h e a];decide)];rfl
theorem eY.fine(h:eY nodes data)(b:nodes.length<=1000000000):mg nodes data:=by
 refine⟨b,fun e a=>wl (h.small e a) (by decide),fun d=>?_,h.files⟩;by_cases hx:∃e∈nodes,po e.1 d=true
 ·obtain⟨e,a,hi⟩:=hx
  obtain⟨l,hl0,hv,_,c⟩:=h.iO e a;unfold po at hi;rw[c,ot hv,xP]at hi;have hd:d=ez (l.take (l.length-1)):=by
   apply gy;rw[<-gF,<-gF];exact(eq_of_beq hi.2).symm
  rw[hd];exact h.few _ (hv.take _)
 ·rw[Ng (fun e a=>by cases hc:po e.1 d with|true=>exact absurd ⟨e,a,hc⟩ hx|false=>rfl)]
  exact tk _
theorem jI(h:eY nodes data)(hl:eH l):(lx nodes (ez l)=0↔eX nodes l=none)/\(lx nodes (ez l)=2↔∃f,eX nodes l=some (2,f))/\(lx nodes (ez l)=1↔∃f,eX nodes l=some (1,f)):=by
 rw[Sc hl];cases hk:eX nodes l with
 |none=>simp
 |some v=>
  obtain⟨k,f⟩:=v;have oV:k=1\/k=2:=by
   by_cases h0:l=[]
   ·subst h0
    have:eX nodes []=some (2,0):=rfl
    rw[this]at hk;cases hk;exact .inr rfl
   ·rw[kz h0]at hk
    cases hf:nodes.find? (fun e=>decide (e.1=ez l)) with
    |none=>rw[hf]at hk;cases hk
    |some e=>
     rw[hf]at hk
     have:=h.kinds e (EU hf)
     have h2:e.2=(k,f):=zQ hk;rw[h2]at this;exact this
  rcases oV with rfl|rfl<;>simp
theorem Nh{d:eD}:(eO (nodes++[e]) d).length=(eO nodes d).length+if po e.1 d=true then 1 else 0:=by
 unfold eO;rw[Te,nM,mb];cases h:po e.1 d<;>simp[h]
theorem eY.push(h:eY nodes data)(hv:eH (l++[x]))(o:(l++[x]).length<=5)(p:∃f,eX nodes l=some (2,f))(hn:eX nodes (l++[x])=none)(iE:(eO nodes (ez l)).length<16){g f:Int}{i:eL}(q:g=1\/g=2)(w:data.length<=i.length)(hfn:g=1->0<=f/\f<(i.length:Int)):eY (nodes++[(ez (l++[x]),g,f)]) i:=by
 have hne:l++[x]≠[]:=by simp
 have look:=fun {m:eL} (hm:eH m)=>yJ (k:=g) (f:=f) hv hne hm hn;refine⟨fun e c=>?_,?_,fun d hd=>?_,fun e c=>?_,fun e c hk=>?_,fun m y hm hs=>?_⟩
 ·rcases sB.1 c with c|c
  ·exact h.iO e c
  ·rw[nh.1 c];exact⟨l++[x],hne,hv,o,rfl⟩
 ·unfold mY
  rw[nM,List.nodup_append];refine⟨h.one,by simp,fun a r b j e=>?_⟩;simp only[jg,vr,nh]at j;obtain⟨n,s,t⟩:=ij.1 r;exact(ou hne).2 ⟨n,s,by rw[t,e,j]⟩ hn
 ·rw[Nh]
  split
  ·next hi=>
   obtain⟨y,u⟩:=(gP hv hd).1 hi
   have:l=d:=(List.append_inj' u rfl).1
   subst this;omega
  ·have:=h.few d hd;omega
 ·rcases sB.1 c with c|c
  ·exact h.kinds e c
  ·rw[nh.1 c];exact q
 ·rcases sB.1 c with c|c
  ·have:=h.files e c hk;omega
  ·rw[nh.1 c]at hk ⊢;exact hfn hk
 ·rw[look hm]at hs
  have v:eH m:=hm.left;rw[look v];by_cases e:m++[y]=l++[x]
  ·have:m=l:=(List.append_inj' e rfl).1
   subst this;rw[fY (fun e2=>by have:=xr List.length e2;simp at this)];exact p
  ·rw[fY e]at hs
   obtain⟨f,hf⟩:=h.up m y hm hs;rw[fY (fun e2=>by rw[e2,hn]at hf;cases hf)];exact⟨f,hf⟩
theorem eY.aak(h:eY nodes data)(hv:eH (l++[x]))(a:(l++[x]).length<=5)(b:∃f,eX nodes l=some (2,f))(hn:eX nodes (l++[x])=none)(iE:(eO nodes (ez l)).length<16):eY (nodes++[(ez (l++[x]),2,0)]) data:=h.push hv a b hn iE (.inr rfl) (kx _) (fun e=>by cases e)
theorem Ds(nodes:List eN)(p d:eD):(eO (pA nodes p) d).length<=(eO nodes d).length:=by
 unfold eO pA;rw[nD,nD,List.filter_filter]
 have:(nodes.filter (fun a=>po a.1 d&&(!(a.1.toList==p.toList)&&!(rx a.1 p)))).length<=(nodes.filter (fun e=>po e.1 d)).length:=by
  rw[<-List.filter_filter];have h:=List.Sublist.filter (fun e:eN=>po e.1 d) (List.filter_sublist (p:=fun a:eN=>!(a.1.toList==p.toList)&&!(rx a.1 p)) (l:=nodes));exact h.length_le
 exact this
theorem eY.gone(h:eY nodes data)(hl:eH l)(hne:l≠[]):eY (pA nodes (ez l)) data:=by
 refine⟨h.iO.gone _,?_,fun d hd=>wl (Ds _ _ _) (h.few d hd),fun e a=>h.kinds e (nC a),fun e a hk=>h.files e (nC a) hk,fun m y hm hs=>?_⟩
 ·exact h.one.sublist ((List.filter_sublist (l:=nodes)).map _)
 ·rw[qQ hl hne hm]at hs
  have hp:¬l <+: m++[y]:=fun hp=>by rw[ie hp]at hs;exact hs rfl
  rw[fY hp]at hs;obtain⟨f,hf⟩:=h.up m y hm hs;rw[qQ hl hne hm.left,fY (fun b=>hp (b.trans (nG _ _)))];exact⟨f,hf⟩
theorem EG(f t:eD)(e:eN):(lw f t e).2=e.2:=by unfold lw;split<;>rfl
theorem VH{t:eL}(hp:mR nodes)(ht:eH t)(Vs:t≠[]):∀e∈pA nodes (ez t),∃a,a≠[]/\eH a/\a.length<=5/\e.1=ez a/\¬t <+: a:=fun e c=>by
 obtain⟨a,g,d,i,f⟩:=hp e (nC c)
 refine⟨a,g,d,i,f,fun h=>?_⟩
 have:=(Av.1 c).2
 rw[f]at this
 rcases(jx d ht Vs).2 h with b|b
 ·rw[b]at this;cases this
 ·rw[b]at this;simp at this
theorem yK{f t a:eL}(hf:eH f)(hfn:f≠[])(ht:t≠[])(c:eH a)(b:e.1=ez a):(lw (ez f) (ez t) e).1=ez (if f <+: a then t++a.drop f.length else a):=by
 obtain⟨p,k,n⟩:=e;simp only at b;subst b;rw[pR hf hfn ht c];split<;>rfl
theorem Co(h:eH a)(k:Nat):eH (a.drop k):=fun x hx=>h x (KN hx)
theorem eY.rename{data:(List ByteArray)}(h:eY nodes data){F P:(List ByteArray)}{y:ByteArray}(hF:eH F)(o:F≠[])(i:eH (P++[y]))(N:∀e∈nodes,∀a,eH a->e.1=ez a->F <+: a->(P++[y]).length+(a.length-F.length)<=5)(hFT:¬F <+: P++[y])(O:¬P++[y] <+: F)
  (Q:∃g,eX nodes P=some (2,g))(R:eX nodes (P++[y])≠none\/(eO nodes (ez P)).length<16\/∃z,F=P++[z]/\eX nodes F≠none):
  eY ((pA nodes (ez (P++[y]))).map (lw (ez F) (ez (P++[y])))) data:=by
 have j:P++[y]≠[]:=by simp
 have key:=VH h.iO i j;have look:=fun {m:(List ByteArray)} (hm:eH m)=>zG h.iO hF o i j hFT O hm;have iO:mR ((pA nodes (ez (P++[y]))).map (lw (ez F) (ez (P++[y])))):=by
  intro ae S;obtain⟨e,c,rfl⟩:=ij.1 S;obtain⟨a,T,f,U,A,Zb⟩:=key e c;rw[yK hF o j f A];by_cases oW:F <+: a
  ·rw[ie oW]
   refine⟨_,by simp,i.append (Co f _),?_,rfl⟩
   have:=N e (nC c) a f A oW
   rw[mb,lz];exact this
  ·rw[fY oW]
   exact⟨a,T,f,U,rfl⟩
 have one:mY ((pA nodes (ez (P++[y]))).map (lw (ez F) (ez (P++[y])))):=by
  unfold mY;rw[Fg];have hg:((pA nodes (ez (P++[y]))).map (·.1)).Nodup:=(h.gone i j).one;refine xL (fun B h1 e2 h2 c=>?_) (nV _ hg);obtain⟨a1,_,C,_,D,t1⟩:=key B h1;obtain⟨a2,_,E,_,G,t2⟩:=key e2 h2;simp only[Function.comp]at c;rw[yK hF o j C D,yK hF o j E G]at c;have H:∀{a:(List ByteArray)},eH a->eH (if F <+: a then(P++[y])++a.drop F.length else a):=fun {a} f=>by
   split
   ·exact i.append (Co f _)
   ·exact f
  have hq:=pw (H C) (H E) c;have V:a1=a2:=by
   by_cases f1:F <+: a1<;>by_cases f2:F <+: a2
   ·rw[ie f1,ie f2]at hq
    obtain⟨af,rfl⟩:=f1;obtain⟨ag,rfl⟩:=f2;rw[pZ,pZ]at hq;rw[EW hq]
   ·rw[ie f1,fY f2]at hq
    exact absurd ⟨_,hq⟩ t2
   ·rw[fY f1,ie f2]at hq
    exact absurd ⟨_,hq.symm⟩ t1
   ·rw[fY f1,fY f2]at hq
    exact hq
  have W:B.1=e2.1:=by rw[D,G,V]
  have:∀{l:List eN},(l.map (·.1)).Nodup->∀{a b:eN},a∈l->b∈l->a.1=b.1->a=b:=by
   intro l hl a b f X e
   induction l with
   |nil=>cases f
   |cons x r Y=>
    rw[jg,Ti]at hl;rcases gU.1 f with rfl|I<;>rcases gU.1 X with rfl|J
    ·rfl
    ·exact absurd (ij.2 ⟨b,J,e.symm⟩) hl.1
    ·exact absurd (ij.2 ⟨a,I,e⟩) hl.1
    ·exact Y hl.2 I J
  exact this hg h1 h2 W
 have k:∀{d:(List ByteArray)} {x:ByteArray},eH d->eG x=true->eX nodes (d++[x])≠none->x∈xi nodes (ez d):=fun hd hx hl=>(uJ h.iO hd).2 ⟨hx,hl⟩;refine⟨iO,one,fun d hd=>?_,fun e c=>?_,fun e c hk=>?_,fun m x hm hs=>?_⟩
 ·rw[<-og]
  have qa:=JY iO one hd;have q:∀x∈xi ((pA nodes (ez (P++[y]))).map (lw (ez F) (ez (P++[y])))) (ez d),eG x=true/\eH (d++[x])/\(if P++[y] <+: d++[x]then eX nodes (F++(d++[x]).drop (P++[y]).length)else if F <+: d++[x]then none else eX nodes (d++[x]))≠none:=fun x hx=>by
   obtain⟨h1,h2⟩:=(uJ iO hd).1 hx;have hv:eH (d++[x]):=hd.append (fun z n=>by rw[nh.1 n];exact h1);rw[look hv]at h2;exact⟨h1,hv,h2⟩
  have p:∀{d},eH d->(xi nodes (ez d)).length<=16:=fun hd=>by rw[og];exact h.few _ hd
  by_cases K:P++[y] <+: d
  ·obtain⟨r,rfl⟩:=K
   refine wl (gZ qa (fun x hx=>?_)) (p (hF.append hd.right));obtain⟨h1,hv,h2⟩:=q x hx;rw[ie ((nG _ r).trans (nG _ _)),kC,pZ,<-kC]at h2;exact k (hF.append hd.right) h1 h2
  ·by_cases L:d=P
   ·subst L
    have s:∀x∈xi ((pA nodes (ez (d++[y]))).map (lw (ez F) (ez (d++[y])))) (ez d),x=y\/(x∈xi nodes (ez d)/\¬F <+: d++[x]):=fun x hx=>by
     obtain⟨h1,hv,h2⟩:=q x hx;by_cases e:d++[y] <+: d++[x]
     ·obtain⟨r,hr⟩:=e
      have:r=[]:=by
       have:=xr List.length hr
       simp at this;exact this
      subst this;rw[ql]at hr
      have:=EW hr
      exact .inl (List.cons.inj this).1.symm
     ·rw[fY e]at h2
      by_cases e2:F <+: d++[x]
      ·rw[ie e2]at h2;exact absurd rfl h2
      ·rw[fY e2]at h2
       exact .inr ⟨k hd h1 h2,e2⟩
    have Z:eG y=true:=i y (by simp);rcases R with hc|hc|⟨z,n,aa⟩
    ·exact wl (gZ qa (fun x hx=>(s x hx).elim (fun e=>by rw[e];exact k hd Z hc) (·.1))) (p hd)
    ·have hle:=gZ qa (ys:=y::xi nodes (ez d)) (fun x hx=>(s x hx).elim (fun e=>by rw[e];exact jS ..) (fun e=>pn _ e.1))
     rw[jA,og nodes]at hle;omega
    ·have ab:eG z=true:=hF z (by rw[n];simp)
     have ac:z∈xi nodes (ez d):=k hd ab (by rw[<-n];exact aa);have hle:=gZ qa (ys:=y::(xi nodes (ez d)).filter (fun u=>decide (u≠z))) (fun x hx=>(s x hx).elim (fun e=>by rw[e];exact jS ..) (fun e=>pn _ (Av.2 ⟨e.1,mz (fun ad=>e.2 (by rw[ad,n];exact List.prefix_rfl))⟩)));have ah:((xi nodes (ez d)).filter (fun u=>decide (u≠z))).length<(xi nodes (ez d)).length:=List.length_filter_lt_length_iff_exists.2 ⟨z,ac,by simp⟩;rw[jA]at hle
     have:=p hd
     omega
   ·refine wl (gZ qa (fun x hx=>?_)) (p hd)
    obtain⟨h1,hv,h2⟩:=q x hx;have Ik:¬P++[y] <+: d++[x]:=fun e=>by
     rcases List.prefix_concat_iff.1 (by simpa using e)with e|e
     ·exact L (List.append_inj' e rfl).1.symm
     ·exact K e
    rw[fY Ik]at h2;by_cases e2:F <+: d++[x]
    ·rw[ie e2]at h2;exact absurd rfl h2
    ·rw[fY e2]at h2
     exact k hd h1 h2
 ·obtain⟨t,v,rfl⟩:=ij.1 c
  rw[EG];exact h.kinds t (nC v)
 ·obtain⟨t,v,rfl⟩:=ij.1 c
  rw[EG]at hk ⊢;exact h.files t (nC v) hk
 ·rw[look hm]at hs
  rw[look hm.left];by_cases w:P++[y] <+: m
  ·obtain⟨r,rfl⟩:=w
   rw[ie ((nG _ r).trans (nG _ _)),kC,pZ,<-kC]at hs;rw[ie (nG _ _),pZ];have hv:eH (F++r++[x]):=(hF.append hm.left.right).append hm.right;exact h.up (F++r) x hv hs
  ·rw[fY w]
   by_cases M:P++[y] <+: m++[x]
   ·rcases List.prefix_concat_iff.1 (by simpa using M)with e|e
    ·have:P=m:=(List.append_inj' e rfl).1
     subst this;rw[fY (fun e=>hFT (e.trans (nG _ _)))];exact Q
    ·exact absurd e w
   ·rw[fY M]at hs
    by_cases e2:F <+: m++[x]
    ·rw[ie e2]at hs;exact absurd rfl hs
    ·rw[fY e2]at hs
     rw[fY (fun e=>e2 (e.trans (nG _ _)))];exact h.up m x hm hs
theorem VJ(h:zt nodes l=0):∀k,k<l.length->lx nodes (ez (l.take k))=2/\lx nodes (ez (l.take (k+1)))≠0:=by
 intro k hk;have a:∀j,j<l.length->iA nodes l j=none:=by
  intro j hj;cases hw:(List.range l.length).findSome? (iA nodes l) with
  |none=>exact List.findSome?_eq_none_iff.1 hw j (Hp.2 hj)
  |some e=>
   exfalso;unfold zt at h;rw[hw]at h;obtain⟨i,_,hi⟩:=List.exists_of_findSome?_eq_some hw;unfold iA at hi;split at hi
   ·cases hi;cases h
   ·split at hi
    ·cases hi;cases h
    ·cases hi
 have:=a k hk
 unfold iA at this;split at this
 ·cases this
 ·next h1=>
  split at this
  ·cases this
  ·next h2=>exact⟨by simpa using h1,h2⟩
theorem JZ(hs:eY nodes data)(hl:eH l)(hne:l≠[])(h:zt nodes l=0):eX nodes l≠none:=by
 have hp:0<l.length:=Ho.2 hne
 have:=(VJ h (l.length-1) (by omega)).2
 rw[show l.length-1+1=l.length by omega,xR]at this;exact fun e=>this ((jI hs hl).1.2 e)
theorem OP(hs:eY nodes data)(hl:eH (l++[x]))(h:sy nodes (l++[x])=0):∃f,eX nodes l=some (2,f):=by
 unfold sy at h;have e:(l++[x]).take ((l++[x]).length-1)=l:=by simp
 rw[e]at h;split at h
 ·next h1=>exact absurd h h1
 ·split at h
  ·cases h
  ·next h2=>exact(jI hs hl.left).2.1.1 (by simpa using h2)
theorem uK(a:(ib p).2=true)(h0:(ib p).1.length≠0):∃l x,(ib p).1=l++[x]/\p=ez (l++[x])/\eH (l++[x])/\(l++[x]).length<=5:=by
 have hv:eH (ib p).1:=zg p;have b:=gN a;have hj:=Cm a;obtain⟨l,x,e⟩:∃l x,(ib p).1=l++[x]:=by
  have hne:(ib p).1≠[]:=fun e=>h0 (by rw[e];rfl);exact⟨(ib p).1.dropLast,(ib p).1.getLast hne,(List.dropLast_concat_getLast hne).symm⟩
 rw[e]at hv b hj;exact⟨l,x,e,hj.symm,hv,b⟩
theorem Ka(hs:eY nodes data)(p:eD):
  ((rc nodes p).2≠0/\(rc nodes p).1=nodes)\/((rc nodes p).2=0/\∃l x,p=ez (l++[x])/\eH (l++[x])/\(l++[x]).length<=5/\eX nodes (l++[x])=none/\eY (rc nodes p).1 data/\∀m,eH m->eX (rc nodes p).1 m=if m=l++[x]then some (2,0)else eX nodes m):=by
 unfold rc;split
 ·exact .inl ⟨by simp,rfl⟩
 ·next h1=>
  have b:(ib p).2=true:=by simpa using h1
  split
  ·exact .inl ⟨by simp,rfl⟩
  ·next h2=>
   obtain⟨l,x,e,hp,hv,a⟩:=uK b h2;have c:(l++[x]).take ((l++[x]).length-1)=l:=by simp
   rw[e,c];split
   ·next h3=>exact .inl ⟨h3,rfl⟩
   ·next h3=>
    split
    ·exact .inl ⟨by simp,rfl⟩
    ·next d=>
     split
     ·exact .inl ⟨by simp,rfl⟩
     ·next g=>
      have f:=OP hs hv (by simpa using h3);have hn:eX nodes (l++[x])=none:=(jI hs hv).1.1 (by rw[<-hp];simpa using d);rw[hp];refine .inr ⟨rfl,l,x,rfl,hv,a,hn,hs.aak hv a f hn (by omega),fun m hm=>yJ hv (by simp) hm hn⟩
theorem Gv(hs:eY nodes data)(p:eD):
  ((nz nodes p).2≠0/\(nz nodes p).1=nodes)\/((nz nodes p).2=0/\∃l x,p=ez (l++[x])/\eH (l++[x])/\(l++[x]).length<=5/\eX nodes (l++[x])≠none/\eO nodes p=[]/\eY (nz nodes p).1 data/\∀m,eH m->eX (nz nodes p).1 m=if l++[x] <+: m then none else eX nodes m):=by
 unfold nz;split
 ·exact .inl ⟨by simp,rfl⟩
 ·next h1=>
  have a:(ib p).2=true:=by simpa using h1
  split
  ·exact .inl ⟨by simp,rfl⟩
  ·next h2=>
   obtain⟨l,x,e,hp,hv,b⟩:=uK a h2;rw[e];split
   ·next h3=>exact .inl ⟨h3,rfl⟩
   ·next h3=>
    split
    ·exact .inl ⟨by simp,rfl⟩
    ·next c=>
     have hl:=JZ hs hv (by simp) (by simpa using h3);refine .inr ⟨rfl,l,x,hp,hv,b,hl,CK (by omega),?_,fun m hm=>?_⟩
     ·rw[hp];exact hs.gone hv (by simp)
     ·rw[hp];exact qQ hv (by simp) hm
theorem zH(hs:eY nodes data):∀(r:eL),r≠[]->eH (T++r)->eX nodes (T++r)≠none->(∃f,eX nodes T=some (2,f))/\eO nodes (ez T)≠[]
 |[],h,_,_=>absurd rfl h
 |[x],_,hv,hl=>by
  refine⟨hs.up T x hv hl,fun e=>?_⟩
  have hm:=(uJ hs.iO hv.left).2 ⟨hv x (by simp),hl⟩
  unfold xi at hm
  rw[e]at hm
  cases hm
 |x::y::r,_,hv,hl=>by
  have h1:∃f,eX nodes (T++(x::y::r).dropLast)=some (2,f):=by
   have e:T++x::y::r=(T++(x::y::r).dropLast)++[(x::y::r).getLast (by simp)]:=by rw[kC,List.dropLast_concat_getLast]
   rw[e]at hv hl;exact hs.up _ _ hv hl
  have a:eH (T++(x::y::r).dropLast):=fun z b=>hv z (by
   rcases sB.1 b with h|h
   ·exact List.mem_append_left _ h
   ·exact WR _ ((List.dropLast_prefix _).subset h))
  obtain⟨f,hf⟩:=h1;exact zH hs ((x::y::r).dropLast) (by simp) a (by rw[hf];simp)
 termination_by r=>r.length
 decreasing_by simp
theorem Yk{f:eL}{n m:Nat}(hf:eH f)(hfn:f≠[])(hn:n=f.length)(h:nodes.any (Lq (ez f) n m)=false):∀e∈nodes,∀a,eH a->e.1=ez a->f <+: a->a≠f->m+(a.length-f.length)<=5:=by
 intro e g a c d oW hne;have h1:=List.any_eq_false.1 h e g;have hu:rx e.1 (ez f)=true:=by
  rw[d];rcases nU.2 oW with b|b
  ·exact absurd b hne
  ·exact(lu c hf hfn).2 b
 unfold Lq at h1;rw[hu,d,ot c]at h1;simp only[Bool.true_and,uP]at h1;have hle:f.length<=a.length:=oW.length_le;omega
theorem Gw(hs:eY nodes data)(f t:eD):
  ((pd nodes f t).1=nodes/\((pd nodes f t).2≠0\/f=t))\/((pd nodes f t).2=0/\∃F P y,f=ez F/\t=ez (P++[y])/\F≠[]/\eH F/\F.length<=5/\eH (P++[y])/\(P++[y]).length<=5/\eX nodes F≠none/\¬F <+: P++[y]/\¬P++[y] <+: F/\eY (pd nodes f t).1 data/\
   ∀m,eH m->eX (pd nodes f t).1 m=if P++[y] <+: m then eX nodes (F++m.drop (P++[y]).length)else if F <+: m then none else eX nodes m):=by
 obtain⟨R,b⟩:∃R,R=pd nodes f t:=⟨_,rfl⟩;rw[<-b];unfold pd at b;by_cases h1:(ib f).2=false\/(ib t).2=false
 ·rw[ie h1]at b
  rw[b];exact .inl ⟨rfl,.inl (by simp)⟩
 rw[fY h1]at b;have E:(ib f).2=true:=by cases h:(ib f).2 with|true=>rfl|false=>exact absurd (.inl h) h1
 have G:(ib t).2=true:=by cases h:(ib t).2 with|true=>rfl|false=>exact absurd (.inr h) h1
 by_cases h2:(ib f).1.length=0\/(ib t).1.length=0
 ·rw[ie h2]at b
  rw[b];exact .inl ⟨rfl,.inl (by simp)⟩
 rw[fY h2]at b;obtain⟨l,x,H,g,c,v⟩:=uK E (fun e=>h2 (.inl e));obtain⟨P,y,e2,i,d,w⟩:=uK G (fun e=>h2 (.inr e));have I:(P++[y]).take ((P++[y]).length-1)=P:=by simp
 rw[H,e2,I]at b;obtain⟨F,hF⟩:∃F,F=l++[x]:=⟨_,rfl⟩;rw[<-hF]at g c v b;have j:F≠[]:=by rw[hF];simp
 by_cases h3:zt nodes F≠0
 ·rw[ie h3]at b
  rw[b];exact .inl ⟨rfl,.inl h3⟩
 rw[fY h3]at b;have k:=JZ hs c j (by simpa using h3);by_cases o:rx t f=true
 ·rw[ie o]at b
  rw[b];exact .inl ⟨rfl,.inl (by simp)⟩
 rw[fY o]at b;by_cases n:sy nodes (P++[y])≠0
 ·rw[ie n]at b
  rw[b];exact .inl ⟨rfl,.inl n⟩
 rw[fY n]at b;have J:=OP hs d (by simpa using n);by_cases h6:(f.toList==t.toList)=true
 ·rw[ie h6]at b
  rw[b];refine .inl ⟨rfl,.inr (gy ?_)⟩;rw[<-gF,<-gF];exact eq_of_beq h6
 rw[fY h6]at b;have hne:F≠P++[y]:=fun e=>h6 (by rw[g,i,e];exact Tg _)
 have hFT:¬F <+: P++[y]:=fun hp=>by
  rcases nU.2 hp with e|e
  ·exact hne e.symm
  ·exact o (by rw[g,i];exact(lu d c j).2 e)
 by_cases A:lx nodes t=2/\lx nodes f=1
 ·rw[ie A]at b
  rw[b];exact .inl ⟨rfl,.inl (by simp)⟩
 rw[fY A]at b;by_cases h8:lx nodes t=1/\lx nodes f=2
 ·rw[ie h8]at b
  rw[b];exact .inl ⟨rfl,.inl (by simp)⟩
 rw[fY h8]at b;by_cases p:lx nodes t=2/\0<(eO nodes t).length
 ·rw[ie p]at b
  rw[b];exact .inl ⟨rfl,.inl (by simp)⟩
 rw[fY p]at b;by_cases q:lx nodes t=0/\16<=(eO nodes (ez P)).length/\po f (ez P)=false
 ·rw[ie q]at b
  rw[b];exact .inl ⟨rfl,.inl (by simp)⟩
 rw[fY q]at b;by_cases s:(nodes.any (Lq f F.length (P++[y]).length))=true
 ·rw[ie s]at b
  rw[b];exact .inl ⟨rfl,.inl (by simp)⟩
 rw[fY s]at b;have u:¬P++[y] <+: F:=fun hp=>by
  rcases nU.2 hp with e|⟨r,hr,e⟩
  ·exact hne e
  ·rw[e]at k c
   obtain⟨hd,hi⟩:=zH hs r hr c k;refine p ⟨by rw[i];exact(jI hs d).2.1.2 hd,?_⟩;rw[i];exact Ho.2 hi
 have K:nodes.any (Lq (ez F) F.length (P++[y]).length)=false:=by rw[<-g];simpa using s
 have L:∀e∈nodes,∀a,eH a->e.1=ez a->F <+: a->(P++[y]).length+(a.length-F.length)<=5:=fun e M a N O oW=>by
  by_cases B:a=F
  ·rw[B,Hq];exact w
  ·exact Yk c j rfl K e M a N O oW B
 have Q:eX nodes (P++[y])≠none\/(eO nodes (ez P)).length<16\/∃z,F=P++[z]/\eX nodes F≠none:=by
  by_cases C:eX nodes (P++[y])=none
  ·right
   have S:lx nodes t=0:=by rw[i];exact(jI hs d).1.2 C
   by_cases iE:16<=(eO nodes (ez P)).length
   ·right
    have D:po f (ez P)=true:=by
     cases hc:po f (ez P) with
     |true=>rfl
     |false=>exact absurd ⟨S,iE,hc⟩ q
    rw[g]at D;obtain⟨z,T⟩:=(gP c d.left).1 D;exact⟨z,T,k⟩
   ·left;omega
  ·exact .inl C
 rw[b,g,i];exact .inr ⟨rfl,F,P,y,rfl,rfl,j,c,v,d,w,k,hFT,u,hs.rename c j d L hFT u J Q,fun m hm=>zG hs.iO c j d (by simp) hFT u hm⟩
def Gx (data:eL)(x:Int×Int):Nd:=if x.1=2 then .dir else .file ((data[x.2.toNat]?).getD ⟨#[]⟩)
def Reads (a:List Ob)(fc:Hd)(t:LT)(nodes:List eN)(data:eL):Prop:=∀q,eH q->UV a fc t q=(eX nodes q).map (Gx data)
theorem Kb(hr:eP ks){x:eD×LT}(h:x∈ks):ip ks x.1=some x.2:=by
 obtain⟨k,hk,rfl⟩:=pg h;exact DR hr hk
section
variable {a:List Ob}{fc:Hd}{t:LT}{nodes:List eN}{data:eL}
theorem Reads.empty(h:Reads a fc t nodes data)(hq:eH q):eX nodes q=none↔UV a fc t q=none:=by
 rw[h q hq,SU]
theorem Reads.Kc(h:Reads a fc t nodes data)(hs:eY nodes data)(hq:eH q):lx nodes (ez q)=0↔UV a fc t q=none:=(jI hs hq).1.trans (h.empty hq)
theorem Reads.si(h:Reads a fc t nodes data)(hs:eY nodes data)(hq:eH q):lx nodes (ez q)=2↔UV a fc t q=some .dir:=by
 rw[(jI hs hq).2.1,h q hq];constructor
 ·rintro⟨f,hf⟩
  rw[hf];rfl
 ·intro hx
  cases hl:eX nodes q with
  |none=>rw[hl]at hx;cases hx
  |some x=>
   rw[hl,mq,mZ,Gx]at hx;split at hx
   ·rename_i h2
    exact⟨x.2,by rw[<-h2]⟩
   ·cases hx
theorem xM(hs:eY nodes data){x:Int×Int}(h:eX nodes q=some x):x.1=1\/x.1=2:=by
 unfold eX at h;split at h
 ·rw[<-zQ h];exact .inr rfl
 ·obtain⟨e,a,rfl⟩:=SS.1 h
  exact hs.kinds e (EU a)
theorem Reads.OQ(h:Reads a fc t nodes data)(hs:eY nodes data)(hq:eH q):lx nodes (ez q)=1↔∃d,UV a fc t q=some (.file d):=by
 rw[(jI hs hq).2.2,h q hq];constructor
 ·rintro⟨f,hf⟩
  rw[hf];exact⟨_,rfl⟩
 ·rintro⟨d,hx⟩
  cases hl:eX nodes q with
  |none=>rw[hl]at hx;cases hx
  |some x=>
   rw[hl,mq,mZ,Gx]at hx;split at hx
   ·cases hx
   ·rename_i h2
    rcases xM hs hl with h1|h1
    ·exact⟨x.2,by rw[<-h1]⟩
    ·exact absurd h1 h2
theorem VK(nodes:List eN)(l:eL)(x:eD):zt nodes (l++[x])=if zt nodes l≠0 then zt nodes l else if lx nodes (ez l)≠2 then 5 else if lx nodes (ez (l++[x]))=0 then 4 else 0:=by
 have a:∀j,j<l.length->iA nodes (l++[x]) j=iA nodes l j:=fun j hj=>by
  unfold iA;rw[Pe (by omega),Pe (by omega)]
 have b:iA nodes (l++[x]) l.length=if lx nodes (ez l)≠2 then some 5 else if lx nodes (ez (l++[x]))=0 then some 4 else none:=by
  unfold iA;rw[Au rfl,lV (by simp)]
 have c:∀(m:Nat),m<=l.length->(List.range m).findSome? (iA nodes (l++[x]))=(List.range m).findSome? (iA nodes l):=by
  intro m hm
  induction m with
  |zero=>rfl
  |succ m d=>rw[List.range_succ,WS,WS,d (by omega)];simp only[List.findSome?_cons,List.findSome?_nil,a m (by omega)]
 have hne:∀e,(List.range l.length).findSome? (iA nodes l)=some e->e≠0:=fun e f=>by
  obtain⟨_,j,_,_,hj,_⟩:=List.findSome?_eq_some_iff.1 f;unfold iA at hj;split at hj
  ·cases hj;decide
  ·split at hj
   ·cases hj;decide
   ·cases hj
 have g:zt nodes (l++[x])=(((List.range l.length).findSome? (iA nodes l)).or (iA nodes (l++[x]) l.length)).getD 0:=by
  unfold zt;rw[mb,List.length_singleton,List.range_succ,WS,c _ (kx _),List.findSome?_cons];cases iA nodes (l++[x]) l.length<;>rfl
 rw[g,b];unfold zt;cases hf:(List.range l.length).findSome? (iA nodes l) with
 |some e=>
  have:=hne e hf
  simp[this]
 |none=>
  simp only[Option.none_or,WE,ne_eq,not_true_eq_false,Py];split
  ·rfl
  ·split<;>rfl
theorem pT(h:nd a fc c=.dir):∃ks,kids a c=some ks:=by
 cases c<;>first|exact⟨_,rfl⟩|cases h
theorem nW{d:eD}(h:nd a fc c=.file d):kids a c=none:=by
 cases c<;>first|rfl|cases h
theorem ov(h:Reads a fc t nodes data)(hs:eY nodes data):∀r:eL,eH r.reverse->(ln a t r).1=zt nodes r.reverse
 |[],_=>rfl
 |n::r,hv=>by
  rw[qh]at hv
  have i:=ov h hs r hv.left
  have j:ln a t (n::r)=(if(ln a t r).1≠0 then((ln a t r).1,.dir 0)else if(IH a (ln a t r).2).1≠0 then((IH a (ln a t r).2).1,.dir 0)else match ip (IH a (ln a t r).2).2 n with
   |none=>(4,.dir 0)
   |some c=>(0,c)):=rfl
  rw[qh,VK,<-i,j]
  by_cases h0:(ln a t r).1≠0
  ·rw[ie h0,ie h0]
  ·rw[fY h0,fY h0]
   have f:=rN (lD.1 h0)
   have g:UV a fc t r.reverse=some (nd a fc (ln a t r).2):=by unfold UV;rw[f];rfl
   cases hk:kids a (ln a t r).2 with
   |none=>
    rw[vT hk,ie (by decide),ie (fun h2=>?_)]
    have:=(h.si hs hv.left).1 h2
    rw[g,mZ]at this
    obtain⟨ks,e⟩:=pT this
    rw[hk]at e;cases e
   |some ks=>
    have k:lx nodes (ez r.reverse)=2:=(h.si hs hv.left).2 (by
     rw[g]
     cases hn:nd a fc (ln a t r).2 with
     |dir=>rfl
     |file d=>rw[nW hn]at hk;cases hk)
    rw[rM hk,fY (by simp),fY (by simp[k])]
    have b:=kr (fc:=fc) f hk n []
    cases hp:ip ks n with
    |none=>
     rw[hp]at b
     simp only
     rw[ie ((h.Kc hs hv).2 (by simpa using b))]
    |some c=>
     rw[hp]at b
     simp only
     rw[fY (fun h0=>by
      have:=(h.Kc hs hv).1 h0
      rw[show r.reverse++[n]=r.reverse++n::[]from rfl,b,qr,gw]at this
      cases this)]
theorem Gy(h:Reads a fc t nodes data)(hs:eY nodes data)(hv:eH r.reverse)(x:eD):(QR a t r).1=sy nodes (r.reverse++[x]):=by
 have hw:=ov h hs r hv;have c:(r.reverse++[x]).take ((r.reverse++[x]).length-1)=r.reverse:=Au (by simp);unfold sy QR;rw[c,<-hw];simp only;by_cases h0:(ln a t r).1≠0
 ·rw[ie h0,ie h0]
 ·rw[fY h0,fY h0]
  have f:=rN (lD.1 h0);have b:UV a fc t r.reverse=some (nd a fc (ln a t r).2):=by unfold UV;rw[f];rfl
  cases hk:kids a (ln a t r).2 with
  |none=>
   rw[vT hk,ie (fun h2=>?_)]
   have:=(h.si hs hv).1 h2
   rw[b,mZ]at this;obtain⟨ks,e⟩:=pT this;rw[hk]at e;cases e
  |some ks=>
   rw[rM hk,fY (fun h2=>h2 ((h.si hs hv).2 (by
    rw[b];cases hn:nd a fc (ln a t r).2 with
    |dir=>rfl
    |file d=>rw[nW hn]at hk;cases hk)))]
theorem vn:∀{L M:eL},L.Pairwise (fun x y=>jh x y<0)->M.Pairwise (fun x y=>jh x y<0)->(∀x,x∈L↔x∈M)->L=M
 |[],[],_,_,_=>rfl
 |[],y::M,_,_,h=>by have:=(h y).2 (jS ..);cases this
 |x::L,[],_,_,h=>by have:=(h x).1 (jS ..);cases this
 |x::L,y::M,f,g,h=>by
  obtain⟨c,i⟩:=sj.1 f
  obtain⟨d,j⟩:=sj.1 g
  have b:∀z:eD,¬jh z z<0:=fun z a=>by rw[iX]at a;omega
  have e:x=y:=by
   rcases gU.1 ((h x).1 (jS ..))with e|hx
   ·exact e
   ·rcases gU.1 ((h y).2 (jS ..))with e|k
    ·exact e.symm
    ·exact absurd (oA (d x hx) (c y k)) (b y)
  subst e
  congr 1
  refine vn i j (fun z=>⟨fun a=>?_,fun a=>?_⟩)
  ·rcases gU.1 ((h z).1 (pn _ a))with e|hx
   ·rw[e]at a;exact absurd (c x a) (b x)
   ·exact hx
  ·rcases gU.1 ((h z).2 (pn _ a))with e|hx
   ·rw[e]at a;exact absurd (d x a) (b x)
   ·exact hx
theorem EH(h:Reads a fc t nodes data)(hs:eY nodes data)(hS:Sound a)(j:eU a 5 t){d:LT}(b:t.at a q=some d)(hk:kids a d=some ks):ks.map (·.1)=xi nodes (ez q):=by
 obtain⟨_,k,hq⟩:=py hS q j b;obtain⟨hr,_,hv⟩:=lj hS k hk;refine vn (CO.2 (show ks.Pairwise (fun x y=>jh x.1 y.1<0)from hr)) ?_ (fun x=>?_)
 ·exact CO.2 (show(Ps (eO nodes (ez q))).Pairwise (fun x y=>jh x.1 y.1<0)from Gu hs.iO hs.one hq)
 ·rw[uJ hs.iO hq]
  constructor
  ·intro hx
   obtain⟨y,g,rfl⟩:=ij.1 hx;have i:=(hv y g).1;refine⟨i,fun hn=>?_⟩
   have:=(h.empty (hq.append (fun z f=>by rw[nh.1 f];exact i))).1 hn
   rw[show q++[y.1]=q++y.1::[]from rfl,kr b hk,Kb hr g,qr,gw]at this;cases this
  ·rintro⟨l,hn⟩
   have h1:UV a fc t (q++[x])≠none:=fun e=>hn ((h.empty (hq.append (fun z f=>by rw[nh.1 f];exact l))).2 e);rw[show q++[x]=q++x::[]from rfl,kr b hk]at h1;cases hp:ip ks x with
   |none=>rw[hp]at h1;exact absurd rfl h1
   |some c=>exact ij.2 ⟨_,oI hp,rfl⟩
theorem qR(h:Reads a fc t nodes data)(hs:eY nodes data)(hS:Sound a)(b:eU a 5 t){d:LT}(c:t.at a q=some d)(hk:kids a d=some ks):ks.length=(eO nodes (ez q)).length:=by
 rw[<-og,<-EH h hs hS b c hk,nD]
theorem Ni(b:Exact a):∀(n:Nat) (c:LT),0<=ig a n c
 |n,.file id=>by cases n<;>exact b.sound.1 id
 |n,.held f=>by cases n<;>exact sH _
 |n,.dir id=>by cases n<;>exact b.sound.1 id
 |0,.own es=>sH _
 |n+1,.own es=>by
  rw[ig]
  exact((Fr (fun x:eD×LT=>ig a n x.2) es 0 _).1 (sH _)).1
theorem Yl(b:Exact a):∀(n:Nat) (c:LT),eU a n c->∀m:Nat,ig a n c<=(m:Int)↔∀x,UV a fc c x≠none->x.length<=m:=by
 intro n
 induction n with
 |zero=>
  intro c hc m;have h0:ig a 0 c<=(m:Int):=by
   have:=Vu b 0 c hc
   omega
  refine⟨fun _ x hx=>?_,fun _=>h0⟩;cases i:c.at a x with
  |none=>unfold UV at hx;rw[i]at hx;exact absurd rfl hx
  |some d=>
   have:=(py b.sound x hc i).1
   omega
 |succ n j=>
  intro c hc m;by_cases hk:c.kind=2
  ·obtain⟨ks,f⟩:=qN (a:=a) hk
   rw[Vw b f (MU hc),Fr (fun x:eD×LT=>ig a n x.2)];obtain⟨hr,_,hv⟩:=lj b.sound hc f;have k:∀x∈ks,eU a n x.2:=fun x hx=>by
    obtain⟨_,m,e,h⟩:=hv x hx;cases e;exact h
   constructor
   ·rintro⟨_,g⟩ x hx
    cases x with
    |nil=>simp
    |cons y r=>
     rw[yv,f,qr]at hx;cases hp:ip ks y with
     |none=>rw[hp]at hx;exact absurd rfl hx
     |some e=>
      rw[hp,qr]at hx;have hm:=oI hp;have h1:=g _ hm;simp only at h1;have h2:0<=ig a n e:=(Ni b n e)
      have:=(j e (k _ hm) (m-1)).1 (by omega) r hx
      rw[jA];omega
   ·intro g
    refine⟨by omega,fun x hx=>?_⟩;have hp:=Kb hr hx;have h0:UV a fc c [x.1]≠none:=by rw[yv,f,qr,hp,qr,gw];simp
    have h1:=g _ h0;simp at h1
    have:=(j x.2 (k x hx) (m-1)).2 (fun y l=>by
     have:=g (x.1::y) (by rw[yv,f,qr,hp,qr];exact l)
     rw[jA]at this;omega)
    omega
  ·rw[Vx b hc hk]
   refine⟨fun _ x hx=>?_,fun _=>by omega⟩;cases x with
   |nil=>simp
   |cons y r=>rw[yv,mQ hk]at hx;exact absurd rfl hx
theorem AC(h:Good l):ib (ez l)=(l,true):=by
 rw[rQ h.val,mz h.len]
theorem bin{p x:eL}(h:UV a fc t p=none)(hp:p <+: x):UV a fc t x=none:=by
 obtain⟨r,rfl⟩:=hp;unfold UV at h ⊢;rw[kB];cases b:t.at a p with
 |none=>rfl
 |some c=>rw[b]at h;cases h
theorem yL(l:eL)(x:eD):(l++[x]).take ((l++[x]).length-1)=l:=Au (by simp)
theorem Sd(a:Good (l++[x])):rc nodes (ez (l++[x]))=if sy nodes (l++[x])≠0 then(nodes,sy nodes (l++[x]))else if lx nodes (ez (l++[x]))≠0 then(nodes,6)else if 16<=(eO nodes (ez l)).length then(nodes,11) else(nodes++[(ez (l++[x]),2,0)],0):=by
 unfold rc;rw[AC a];simp only;rw[fY (by simp),fY (by simp),yL]
theorem Nj(a:Good l)(hl:l≠[]):nz nodes (ez l)=if zt nodes l≠0 then(nodes,zt nodes l)else if 0<(eO nodes (ez l)).length then(nodes,8) else(pA nodes (ez l),0):=by
 unfold nz;rw[AC a];simp only;rw[fY (by simp),fY (by simpa using hl)]
theorem Ke(h:Reads a fc t nodes data)(hs:eY nodes data)(hS:Sound a)(k:eU a 5 t)(m:Good (r.reverse++[n])):
  (gG a t lv (n::r)).2.1=(rc nodes (ez (r.reverse++[n]))).2/\Reads a fc (gG a t lv (n::r)).2.2 (rc nodes (ez (r.reverse++[n]))).1 data/\eY (rc nodes (ez (r.reverse++[n]))).1 data:=by
 have hv:=m.val;have g:(gG a t lv (n::r)).2.1=(rc nodes (ez (r.reverse++[n]))).2:=by
  unfold gG;rw[Sd m,<-Gy h hs hv.left n];simp only[jW];by_cases h0:(QR a t r).1≠0
  ·rw[ie h0,ie h0]
  ·rw[fY h0,fY h0]
   obtain⟨d,o,hk⟩:=qO (lD.1 h0);have b:=kr (fc:=fc) o hk n [];rw[<-qR h hs hS k o hk];cases hp:ip (QR a t r).2 n with
   |some c=>
    rw[hp,qr,gw]at b;rw[ie (show(some c:Option LT).isSome=true from rfl),ie (show lx nodes (ez (r.reverse++[n]))≠0 from fun e=>by rw[show r.reverse++[n]=r.reverse++n::[]from rfl]at e;rw[(h.Kc hs hv).1 e]at b;cases b)]
   |none=>
    rw[hp]at b;rw[fY (show ¬(none:Option LT).isSome=true by simp),fY (show ¬lx nodes (ez (r.reverse++[n]))≠0 from fun e=>e ((h.Kc hs hv).2 b))];split<;>rfl
 refine⟨g,?_⟩;obtain⟨c1,c2,c3⟩:=MV (fc:=fc) hS k n r (er:=(gG a t lv (n::r)).2.1) (t':=(gG a t lv (n::r)).2.2) rfl;rcases Ka hs (ez (r.reverse++[n])) with⟨i,j⟩|⟨i,l,x,j,s,w,u,v,p⟩
 ·rw[c2 (by rw[g];exact i),j]
  exact⟨h,hs⟩
 ·have e:l++[x]=r.reverse++[n]:=pw s hv j.symm
  rw[e]at u p;obtain⟨d1,d2⟩:=c3 (by rw[g];exact i);refine⟨fun q hq=>?_,v⟩;rw[d2 q,p q hq];by_cases f:q=r.reverse++[n]
  ·rw[ie f,ie f];rfl
  ·rw[fY f,fY f]
   split
   ·rename_i qd
    have:=bin d1 qd
    rw[h q hq]at this;exact this.symm
   ·exact h q hq
theorem vo(h:Reads a fc t nodes data)(hs:eY nodes data)(hq:eH q)(hn:UV a fc t q≠some .dir):eO nodes (ez q)=[]:=by
 cases hi:eO nodes (ez q) with
 |nil=>rfl
 |cons y r=>
  exfalso;obtain⟨x,hx,⟨b,c,d⟩,_⟩:=(uI hs.iO hq).1 (show y∈eO nodes (ez q) by rw[hi];exact jS ..);have e:eH (q++[x]):=hq.append (fun z g=>by rw[nh.1 g];exact hx);obtain⟨f,hf⟩:=hs.up _ _ e ((ou (by simp)).2 ⟨b,c,d⟩);apply hn;rw[h q hq,hf];rfl
theorem EI(h:Reads a fc t nodes data)(hs:eY nodes data)(hS:Sound a)(f:eU a 5 t)(d:t.at a q=some c):(rv a lv c).2=if 0<(eO nodes (ez q)).length then 8 else 0:=by
 have hq:=(py hS q f d).2.2;unfold rv;simp only[oL];by_cases hk:c.kind=2
 ·obtain⟨ks,b⟩:=qN (a:=a) hk
  rw[fY (show ¬c.kind=1 by rw[hk];decide),rM b,<-qR h hs hS f d b];simp only[true_and];split<;>rfl
 ·have g:c.kind=1:=by cases c<;>first|rfl|exact absurd rfl hk
  have i:UV a fc t q≠some .dir:=fun e=>by
   unfold UV at e;rw[d,mq,mZ]at e;obtain⟨ks,b⟩:=pT e;rw[mQ hk]at b;cases b
  rw[ie g,vo h hs hq i];rfl
theorem EJ(h:Reads a fc t nodes data)(hs:eY nodes data)(hS:Sound a)(f:eU a 5 t)(g:Good (r.reverse++[n])):
  (yn a t lv (n::r)).2.1=(nz nodes (ez (r.reverse++[n]))).2/\Reads a fc (yn a t lv (n::r)).2.2 (nz nodes (ez (r.reverse++[n]))).1 data/\eY (nz nodes (ez (r.reverse++[n]))).1 data:=by
 have hv:=g.val;have b:(yn a t lv (n::r)).2.1=(nz nodes (ez (r.reverse++[n]))).2:=by
  unfold yn;rw[Nj g (by simp)];simp only[jV];have hw:=ov h hs (n::r) (by rw[qh];exact hv);rw[qh]at hw;rw[<-hw];by_cases h0:(ln a t (n::r)).1≠0
  ·rw[ie h0,ie h0]
  ·rw[fY h0,fY h0]
   have i:=rN (lD.1 h0);rw[qh]at i;rw[EI h hs hS f i];by_cases hl:0<(eO nodes (ez (r.reverse++[n]))).length
   ·rw[ie hl,ie hl];rfl
   ·rw[fY hl,fY hl];rfl
 refine⟨b,?_⟩;obtain⟨c1,c2,c3⟩:=JP (fc:=fc) hS f n r (er:=(yn a t lv (n::r)).2.1) (t':=(yn a t lv (n::r)).2.2) rfl;rcases Gv hs (ez (r.reverse++[n])) with⟨c,d⟩|⟨c,l,x,d,k,p,m,_,o,j⟩
 ·rw[c2 (by rw[b];exact c),d]
  exact⟨h,hs⟩
 ·have e:l++[x]=r.reverse++[n]:=pw k hv d.symm
  rw[e]at m j;obtain⟨d1,d2⟩:=c3 (by rw[b];exact c);refine⟨fun q hq=>?_,o⟩;rw[d2 q,j q hq];split
  ·rfl
  ·exact h q hq
theorem VL(h:Reads a fc t nodes data)(hs:eY nodes data)(hq:eH (q++[n])){d:LT}(e:t.at a q=some d)(hk:kids a d=some ks):
  (ip ks n=none/\lx nodes (ez (q++[n]))=0)\/∃c,ip ks n=some c/\t.at a (q++[n])=some c/\lx nodes (ez (q++[n]))=c.kind:=by
 have b:=kr (fc:=fc) e hk n [];cases hp:ip ks n with
 |none=>
  rw[hp]at b;exact .inl ⟨rfl,(h.Kc hs hq).2 b⟩
 |some c=>
  rw[hp,qr,gw]at b;refine .inr ⟨c,rfl,?_,?_⟩
  ·rw[kB,e,qr,kh,hk,qr,hp,qr,mr]
  ·cases c with
   |file i=>exact(h.OQ hs hq).2 ⟨_,b⟩
   |held f=>exact(h.OQ hs hq).2 ⟨_,b⟩
   |dir i=>exact(h.si hs hq).2 b
   |own es=>exact(h.si hs hq).2 b
theorem VM(h:Reads a fc t nodes data)(hs:eY nodes data)(d:Exact a)(k:eU a 5 t)(f:t.at a F=some c)(g:F≠[]){m:Nat}(hm:m<=5):
  (nodes.any (Lq (ez F) F.length m))=true↔5<(m:Int)+ig a 5 c:=by
 obtain⟨hl,hc,hF⟩:=py d.sound F k f;have p:ig a 5 c=ig a (5-F.length) c:=vS _ _ c (by omega) hc;have n:=Yl (fc:=fc) d (5-F.length) c hc (5-m);rw[<-p]at n;have q:5<(m:Int)+ig a 5 c↔¬ig a 5 c<=((5-m:Nat):Int):=by omega
 rw[q,n];constructor
 ·intro s u
  obtain⟨e,b,i⟩:=List.any_eq_true.1 s;unfold Lq at i;simp only[xP,uP]at i;obtain⟨hu,hd⟩:=i;obtain⟨l,v,j,B,hle⟩:=hs.iO e b;rw[hle]at hu hd;obtain⟨r,C,rfl⟩:=(lu j hF g).1 hu;rw[ot j,mb]at hd;have hk:eX nodes (F++r)≠none:=(ou v).2 ⟨e,b,hle⟩;have h1:UV a fc c r≠none:=fun w=>hk ((h.empty j).2 (by rw[yo f];exact w))
  have:=u r h1
  omega
 ·intro hn
  have y:∃x,UV a fc c x≠none/\¬x.length<=5-m:=by
   refine Classical.byContradiction fun hc=>hn fun x hx=>?_;exact Classical.byContradiction fun hl=>hc ⟨x,hx,hl⟩
  obtain⟨x,hx,z⟩:=y;have nv:UV a fc t (F++x)≠none:=by rw[yo f];exact hx
  have hv:eH (F++x):=by
   unfold UV at nv;cases o:t.at a (F++x) with
   |none=>rw[o]at nv;exact absurd rfl nv
   |some e=>exact(py d.sound _ k o).2.2
  have hk:eX nodes (F++x)≠none:=fun e=>nv ((h.empty hv).1 e);obtain⟨e,b,A⟩:=(ou (by simp[g])).1 hk;refine List.any_eq_true.2 ⟨e,b,?_⟩;unfold Lq;rw[A,ot hv,mb];simp only[xP,uP];refine⟨(lu hv hF g).2 ⟨x,?_,rfl⟩,by omega⟩;rintro rfl;simp at z
theorem Sg(hF:eH F)(a:eH T)(b:F≠[]):rx (ez T) (ez F)=true↔F <+: T/\F≠T:=by
 rw[lu a hF b];constructor
 ·rintro⟨r,hr,rfl⟩
  exact⟨nG _ _,fun e=>hr (by simpa using e.symm)⟩
 ·rintro⟨⟨r,rfl⟩,hn⟩
  exact⟨r,fun e=>hn (by rw[e];simp),rfl⟩
theorem Nk{y:eD}(hF:Good F)(a:Good (T++[y]))(b:F≠[]):pd nodes (ez F) (ez (T++[y])) =
  if zt nodes F≠0 then(nodes,zt nodes F)
  else if rx (ez (T++[y])) (ez F)=true then(nodes,9)
  else if sy nodes (T++[y])≠0 then(nodes,sy nodes (T++[y]))
  else if((ez F).toList==(ez (T++[y])).toList)=true then(nodes,0)
  else if lx nodes (ez (T++[y]))=2/\lx nodes (ez F)=1 then(nodes,7)
  else if lx nodes (ez (T++[y]))=1/\lx nodes (ez F)=2 then(nodes,5)
  else if lx nodes (ez (T++[y]))=2/\0<(eO nodes (ez (T++[y]))).length then(nodes,8)
  else if lx nodes (ez (T++[y]))=0/\16<=(eO nodes (ez T)).length/\po (ez F) (ez T)=false then(nodes,11)
  else if(nodes.any (Lq (ez F) F.length (T++[y]).length))=true then(nodes,11)
  else((pA nodes (ez (T++[y]))).map (lw (ez F) (ez (T++[y]))),0):=by
 unfold pd;rw[AC hF,AC a];simp only;rw[fY (by simp),fY (by simpa using b),yL]
theorem EK(h:Reads a fc t nodes data)(hs:eY nodes data)(G:Exact a)(j:eU a 5 t){n m:eD}(H:Good (r.reverse++[n]))(v:Good (q.reverse++[m])):
  (xc a t lv (n::r) (m::q)).2.1=(pd nodes (ez (r.reverse++[n])) (ez (q.reverse++[m]))).2/\Reads a fc (xc a t lv (n::r) (m::q)).2.2 (pd nodes (ez (r.reverse++[n])) (ez (q.reverse++[m]))).1 data/\eY (pd nodes (ez (r.reverse++[n])) (ez (q.reverse++[m]))).1 data:=by
 have hS:=G.sound;have hv:=H.val;have hw:=v.val;have l:n::r=m::q↔r.reverse++[n]=q.reverse++[m]:=by
  rw[<-qh,<-qh];exact⟨fun e=>by rw[e],fun e=>Ta.1 e⟩
 have N:((ez (r.reverse++[n])).toList==(ez (q.reverse++[m])).toList)=decide (n::r=m::q):=by
  rw[JX hv hw];by_cases e:n::r=m::q
  ·rw[mz e,mz (l.1 e)]
  ·rw[rk e,rk (fun h=>e (l.2 h))]
 have w:(xc a t lv (n::r) (m::q)).2.1=(pd nodes (ez (r.reverse++[n])) (ez (q.reverse++[m]))).2:=by
  unfold xc;rw[Nk H v (by simp),N];simp only[jV,jW,qh];have I:=ov h hs (n::r) (by rw[qh];exact hv);rw[qh]at I;rw[<-I,<-Gy h hs hw.left m];by_cases h0:(ln a t (n::r)).1≠0
  ·rw[ie h0,ie h0]
  ·rw[fY h0,fY h0]
   have A:=Sg hv hw (by simp);by_cases h1:r.reverse++[n] <+: q.reverse++[m]/\n::r≠m::q
   ·rw[ie h1,ie (A.2 ⟨h1.1,fun e=>h1.2 (l.2 e)⟩)]
   ·rw[fY h1,fY (fun e=>h1 ⟨(A.1 e).1,fun O=>(A.1 e).2 (l.1 O)⟩)]
    by_cases h2:(QR a t q).1≠0
    ·rw[ie (.inl h2),ie h2]
    ·rw[fY h2]
     by_cases h3:n::r=m::q
     ·rw[ie (.inr h3),ie (mz h3)]
      exact lD.1 h2
     ·rw[fY (show ¬((QR a t q).1≠0\/n::r=m::q)from fun e=>e.elim h2 h3),fY (show ¬decide (n::r=m::q)=true from fun e=>h3 (wm e))]
      have o:=rN (lD.1 h0);rw[qh]at o;obtain⟨c,hc⟩:∃c,c=(ln a t (n::r)).2:=⟨_,rfl⟩;rw[<-hc]at o ⊢;obtain⟨d,J,B⟩:=qO (lD.1 h2);obtain⟨ks,Q⟩:∃ks,ks=(QR a t q).2:=⟨_,rfl⟩;rw[<-Q]at B ⊢;have R:lx nodes (ez (r.reverse++[n]))=c.kind:=by
       have g:UV a fc t (r.reverse++[n])=some (nd a fc c):=by unfold UV;rw[o];rfl
       cases c with
       |file i=>exact(h.OQ hs hv).2 ⟨_,g⟩
       |held f=>exact(h.OQ hs hv).2 ⟨_,g⟩
       |dir i=>exact(h.si hs hv).2 g
       |own es=>exact(h.si hs hv).2 g
      have C:=VM h hs G j o (by simp) (m:=(q.reverse++[m]).length) v.len;have S:(((q.reverse++[m]).length:Nat):Int)=((q.length+1:Nat):Int):=by simp
      rw[S]at C;have T:po (ez (r.reverse++[n])) (ez q.reverse)=decide (r=q):=by
       by_cases e:r=q
       ·rw[mz e,(gP hv hw.left).2 ⟨n,by rw[e]⟩]
       ·rw[rk e]
        cases U:po (ez (r.reverse++[n])) (ez q.reverse) with
        |false=>rfl
        |true=>
         obtain⟨x,hx⟩:=(gP hv hw.left).1 U
         have:=List.append_inj_left' hx (by simp)
         exact absurd (Ta.1 this) e
      have V:(jM a lv (decide (r=q)) ks m c).2=if lx nodes (ez (q.reverse++[m]))=2/\c.kind=1 then 7 else if lx nodes (ez (q.reverse++[m]))=1/\c.kind=2 then 5 else if lx nodes (ez (q.reverse++[m]))=2/\0<(eO nodes (ez (q.reverse++[m]))).length then 8 else if lx nodes (ez (q.reverse++[m]))=0/\16<=ks.length/\decide (r=q)=false then 11 else 0:=by
       unfold jM;rcases VL h hs hw J B with⟨hp,p⟩|⟨e,hp,W,p⟩
       ·rw[hp,p]
        simp only;rw[fY (show ¬((0:Int)=2/\c.kind=1)from fun x=>absurd x.1 (by decide)),fY (show ¬((0:Int)=1/\c.kind=2)from fun x=>absurd x.1 (by decide)),fY (show ¬((0:Int)=2/\0<(eO nodes (ez (q.reverse++[m]))).length)from fun x=>absurd x.1 (by decide))];by_cases hf:16<=ks.length/\decide (r=q)=false
        ·rw[ie hf,ie ⟨trivial,hf⟩]
        ·rw[fY hf,fY (fun x=>hf x.2)]
       ·rw[hp,p]
        simp only;unfold jd;by_cases s:e.kind=2/\c.kind=1
        ·rw[ie s,ie s]
        ·rw[fY s,fY s]
         by_cases u:e.kind=1/\c.kind=2
         ·rw[ie u,ie u]
         ·rw[fY u,fY u,EI h hs hS j W]
          have K:e.kind=1\/e.kind=2:=by cases e<;>first|exact .inl rfl|exact .inr rfl
          have X:¬(e.kind=0/\16<=ks.length/\decide (r=q)=false):=fun x=>by rcases K with k|k<;>(rw[k]at x;exact absurd x.1 (by decide))
          rw[fY X];by_cases hl:0<(eO nodes (ez (q.reverse++[m]))).length
          ·have k:e.kind=2:=by
            refine K.resolve_left fun k=>?_;have g:UV a fc t (q.reverse++[m])≠some .dir:=fun x=>by
             have:=(h.si hs hw).2 x
             rw[p,k]at this;cases this
            rw[vo h hs hw g]at hl;simp at hl
           rw[ie hl,ie ⟨k,hl⟩]
          ·rw[fY hl,fY (fun x=>hl x.2)]
      rw[R,T,<-qR h hs hS j J B,V];by_cases c1:lx nodes (ez (q.reverse++[m]))=2/\c.kind=1
      ·rw[ie c1,ie c1];rfl
      ·rw[fY c1,fY c1]
       by_cases c2:lx nodes (ez (q.reverse++[m]))=1/\c.kind=2
       ·rw[ie c2,ie c2];rfl
       ·rw[fY c2,fY c2]
        by_cases c3:lx nodes (ez (q.reverse++[m]))=2/\0<(eO nodes (ez (q.reverse++[m]))).length
        ·rw[ie c3,ie c3];rfl
        ·rw[fY c3,fY c3]
         by_cases c4:lx nodes (ez (q.reverse++[m]))=0/\16<=ks.length/\decide (r=q)=false
         ·rw[ie c4,ie c4];rfl
         ·rw[fY c4,fY c4,fY (show ¬(0:Int)≠0 by decide)]
          by_cases hd:5<((q.length+1:Nat):Int)+ig a 5 c
          ·rw[ie hd,ie (C.2 hd)]
          ·rw[fY hd,fY (fun e=>hd (C.1 e))]
 refine⟨w,?_⟩;obtain⟨c1,c2,c3⟩:=JQ (fc:=fc) hS j n m r q (er:=(xc a t lv (n::r) (m::q)).2.1) (t':=(xc a t lv (n::r) (m::q)).2.2) rfl;rcases Gw hs (ez (r.reverse++[n])) (ez (q.reverse++[m])) with⟨D,b⟩|⟨D,F,P,y,b,Y,ac,Z,ad,aa,ae,af,m10,ag,ab,L⟩
 ·rw[D]
  refine⟨?_,hs⟩;by_cases E:(xc a t lv (n::r) (m::q)).2.1≠0
  ·rw[c2 E];exact h
  ·obtain⟨_,_,d3⟩:=c3 (lD.1 E)
   have heq:ez (r.reverse++[n])=ez (q.reverse++[m]):=by
    rcases b with b|b
    ·rw[<-w]at b;exact absurd b E
    ·exact b
   have:=pw hv hw heq
   intro x hx;rw[d3 x,ie this];exact h x hx
 ·have M:F=r.reverse++[n]:=pw Z hv b.symm
  have e2:P++[y]=q.reverse++[m]:=pw aa hw Y.symm;rw[M,e2]at L;rw[M,e2]at m10;obtain⟨_,_,d3⟩:=c3 (by rw[w];exact D);refine⟨fun x hx=>?_,ab⟩;rw[d3 x,L x hx,fY (fun e=>m10 (by rw[e];exact oU _))];split
  ·rename_i hp
   obtain⟨z,rfl⟩:=hp;rw[pZ];exact h _ (hv.append hx.right)
  ·split
   ·rfl
   ·exact h x hx
theorem EL(nodes:List eN)(data:eL)(hq:q≠[]):lQ nodes data (ez q)=match eX nodes q with
  |some (k,f)=>if k=1 then(1,(((data[f.toNat]?).getD hZ).size:Int)) else(2,((eO nodes (ez q)).length:Int))
  |none=>(2,((eO nodes (ez q)).length:Int)):=by
 have h1:=yI nodes (ez q);rw[<-kz hq]at h1;unfold lQ;cases hf:kY nodes (ez q) with
 |none=>
  rw[hf]at h1;rw[<-h1];rfl
 |some i=>
  rw[hf,qr]at h1;cases hn:nodes[i]? with
  |none=>
   exfalso
   have:=(zO.1 hf).1
   rw[jy this]at hn;cases hn
  |some e=>
   rw[hn,mq]at h1;rw[<-h1];simp only[hn,mq,qj,wh]
theorem VO(a:Good l):iU nodes data (ez l)=if zt nodes l≠0 then((0,0),zt nodes l) else(lQ nodes data (ez l),0):=by
 unfold iU;rw[AC a];simp only;rw[fY (by simp)]
theorem VP(a:Good l):Kd nodes (ez l)=if zt nodes l≠0 then([],zt nodes l)else if lx nodes (ez l)≠2 then([],5) else(xi nodes (ez l),0):=by
 unfold Kd;rw[AC a];simp only;rw[fY (by simp)]
theorem Ym(fl:Nat->Option (Int×eD))(h:Reads a (ki a fl) t nodes data)(hs:eY nodes data)(hS:Sound a)(p:eU a 5 t)(hk:t.kind=2)(q:Good r.reverse):
  (jo a fl t lv r).2.1=(iU nodes data (ez r.reverse)).2/\(jo a fl t lv r).2.2=(iU nodes data (ez r.reverse)).1:=by
 have hv:=q.val;have hw:=ov h hs r hv;unfold jo;rw[VO q,<-hw];simp only[jV];by_cases h0:(ln a t r).1≠0
 ·rw[ie h0,ie h0];exact⟨rfl,rfl⟩
 ·rw[fY h0,fY h0]
  have j:=rN (lD.1 h0);obtain⟨c,hc⟩:∃c,c=(ln a t r).2:=⟨_,rfl⟩;rw[<-hc]at j ⊢;have g:UV a (ki a fl) t r.reverse=some (nd a (ki a fl) c):=by unfold UV;rw[j];rfl
  have s:c.kind=2->(lQ nodes data (ez r.reverse))=(2,((eO nodes (ez r.reverse)).length:Int)):=by
   intro hk2;have n:UV a (ki a fl) t r.reverse=some .dir:=by
    rw[g];cases c<;>first|rfl|cases hk2
   by_cases hq:r.reverse=[]
   ·rw[hq]
    unfold lQ;cases hf:kY nodes (ez []) with
    |none=>rfl
    |some i=>
     exfalso;obtain⟨hi,m,_⟩:=zO.1 hf;obtain⟨l,v,w,_,hle⟩:=hs.iO _ (kj hi);simp only[uP]at m;rw[hle]at m
     have:ez l=ez []:=bytes_inj (by rw[xO,xO]at m;exact m)
     exact v (pw w (fun x hx=>by cases hx) this)
   ·rw[EL nodes data hq]
    rw[h _ hv]at n;cases hl:eX nodes r.reverse with
    |none=>rfl
    |some x=>
     obtain⟨k,f⟩:=x;rw[hl,mq,mZ,Gx]at n;simp only at n ⊢;split at n
     ·rename_i h2;rw[fY (by rw[h2];decide)]
     ·cases n
  have u:∀b,nd a (ki a fl) c=.file b->lQ nodes data (ez r.reverse)=(1,(b.size:Int)):=by
   intro b o;have hq:r.reverse≠[]:=by
    intro e;rw[e,mr]at j;have m:=zQ j;rw[<-m]at o;cases t<;>first|(cases o;done)|(cases hk;done)
   rw[EL nodes data hq];rw[o,h _ hv]at g;cases hl:eX nodes r.reverse with
   |none=>rw[hl]at g;cases g
   |some x=>
    obtain⟨k,f⟩:=x;rw[hl,mq,mZ,Gx]at g;simp only at g ⊢;split at g
    ·cases g
    ·rename_i h2
     rcases xM hs hl with h1|h1
     ·simp only at h1
      rw[ie h1];cases g;rfl
     ·exact absurd h1 h2
  cases c with
  |file id=>
   simp only[RK,wV,KY];rw[u _ rfl];exact⟨rfl,rfl⟩
  |held f=>
   rw[u _ rfl];have y:(ub a fl lv f).2=(0,ki a fl f):=by
    unfold ub ki;cases fl f with
    |none=>rfl
    |some x=>
     obtain⟨i,d⟩:=x;simp only[wV,KY];by_cases hi:i=0
     ·rw[ie hi,fY (show ¬i≠0 from fun e=>e hi)]
     ·rw[fY hi,ie hi]
   have z:(RK a fl lv (.held f)).2=(0,((ki a fl f).size:Int)):=by
    show((ub a fl lv f).2.1,((ub a fl lv f).2.2.size:Int))=_;rw[y]
   rw[z];exact⟨rfl,rfl⟩
  |dir id=>
   have hm:=qR h hs hS p j (show kids a (.dir id)=some _ from rfl);rw[s rfl];simp only[RK,oL,IH,hm];exact⟨rfl,rfl⟩
  |own es=>
   have hm:=qR h hs hS p j (show kids a (.own es)=some _ from rfl);rw[s rfl];simp only[RK,oL,IH,hm];exact⟨rfl,rfl⟩
theorem Yn(h:Reads a fc t nodes data)(hs:eY nodes data)(hS:Sound a)(i:eU a 5 t)(f:Good r.reverse):
  (QR a t r).1=(Kd nodes (ez r.reverse)).2/\(QR a t r).2.map (·.1)=(Kd nodes (ez r.reverse)).1:=by
 have hv:=f.val;have hw:=ov h hs r hv;rw[VP f,<-hw];unfold QR;simp only;by_cases h0:(ln a t r).1≠0
 ·rw[ie h0,ie h0];exact⟨rfl,rfl⟩
 ·rw[fY h0,fY h0]
  have b:=rN (lD.1 h0);obtain⟨c,hc⟩:∃c,c=(ln a t r).2:=⟨_,rfl⟩;rw[<-hc]at b ⊢;have g:UV a fc t r.reverse=some (nd a fc c):=by unfold UV;rw[b];rfl
  cases hk:kids a c with
  |none=>
   rw[vT hk,ie (fun h2=>?_)]
   ·exact⟨rfl,rfl⟩
   ·have:=(h.si hs hv).1 h2
    rw[g,mZ]at this;obtain⟨ks,e⟩:=pT this;rw[hk]at e;cases e
  |some ks=>
   rw[rM hk,fY (fun h2=>h2 ((h.si hs hv).2 (by
    rw[g];cases hn:nd a fc c with
    |dir=>rfl
    |file d=>rw[nW hn]at hk;cases hk)))]
   exact⟨rfl,EH h hs hS i b hk⟩
end
theorem Kf(t:Nat)(l m:eL)(hl:Good l)(hm:Good m)(h0:l=[]\/m=[])(w:World):
  gc 72 #[hh t,.agg (fy l),.agg (fy m)] w (pB (eJ 9) w):=by
 have k:=fun W=>ut W;have h:∀W,(Op.equalIn 10000 147 (ju l) (ju [])).run prog W=.ok (decide (l=[])) W:=fun W=>yr hl Good.nil W;have i:∀W,(Op.equalIn 10000 147 (ju m) (ju [])).run prog W=.ok (decide (m=[])) W:=fun W=>yr hm Good.nil W;obtain⟨a,b,c,d,f,n⟩:∃a b c d f,fy l=(kq a b c d f):=⟨_,_,_,_,_,rfl⟩;obtain⟨d0,d1,d2,d3,d4,hQ⟩:∃a b c d f,fy m=(kq a b c d f):=⟨_,_,_,_,_,rfl⟩;unfold ju at k h i;simp only[n,hQ]at h i;rw[n,hQ];unfold fy at k h i;simp only[nN]at k h i;obtain⟨o,r,s,u⟩:=Ex w a b c d f d0 d1 d2 d3 d4;have g:=lh ((w.alloc (.cells (kq a b c d f) 147)).alloc (.cells (kq d0 d1 d2 d3 d4) 147)).drew.heap.size ((w.alloc (.cells (kq a b c d f) 147)).alloc (.cells (kq d0 d1 d2 d3 d4) 147)).drew;have j:Hid _:=And.intro r (And.intro s u);clear r s u n hQ hl hm;by_cases p:l=[]
 ·rw[mz p]at h
  generalize decide (m=[])=y at i;go_enter func72,ntmps72;go_wp2
  go_region_with(first|(go_at_call 75;refine(k _).mono ?_;rintro e v ⟨rfl,q⟩;replace g:=fx g q;obtain⟨z,A,B,C,D,E,F,G,H,I⟩:=o.below g j.out.1 j.out.2.1))
  all_goals
   go_wp2;go_ret;exact⟨rfl,fx j.out.2.2 g⟩
 ·have e2:m=[]:=h0.resolve_left p
  rw[rk p]at h;rw[mz e2]at i;go_enter func72,ntmps72;go_wp2
  go_region_held3 (fun w'=>w'.cell? (eI w.heap.size 0)=some (.string a)/\w'.cell? (eI w.heap.size 1)=some (.string b)/\w'.cell? (eI w.heap.size 2)=some (.string c)/\w'.cell? (eI w.heap.size 3)=some (.string d)/\w'.cell? (eI w.heap.size 4)=some (.string f)/\w'.cell? (eI (w.heap.size+1) 0)=some (.string d0)/\w'.cell? (eI (w.heap.size+1) 1)=some (.string d1)/\w'.cell? (eI (w.heap.size+1) 2)=some (.string d2)/\w'.cell? (eI (w.heap.size+1) 3)=some (.string d3)/\w'.cell? (eI (w.heap.size+1) 4)=some (.string d4)) (first|exact o|exact x) (first|(go_at_call 75;refine(k _).mono ?_;rintro e v ⟨rfl,q⟩;replace g:=fx g q;have x:=o.below g j.out.1 j.out.2.1))
  all_goals
   go_wp2;go_ret;exact⟨rfl,fx j.out.2.2 g⟩
abbrev St:=List eN×eL
def jJ (a b:eD):eD:=if a.toList=[]then b else a++⟨#[47]⟩++b
def vV (eC:List Ob)(i:Int):eD:=((eC[i.toNat]?).map (fun o:Ob=>o.data)).getD ⟨#[]⟩
def Aj (eC:List Ob)(i:Nat):List eN:=((eC[i]?).map (fun o:Ob=>o.eR)).getD []
def vy (eC:List Ob)(b:Nat->eD->St->St)(a:eD)(st:St)(e:eN):St:=
 if e.2.1=1 then(st.1++[(jJ a e.1,1,(st.2.length:Int))],st.2++[vV eC e.2.2])else b e.2.2.toNat (jJ a e.1) (st.1++[(jJ a e.1,2,0)],st.2)
def gQ (eC:List Ob):Nat->Nat->eD->St->St
 |0,_,_,st=>st
 |fuel+1,at_,a,st=>(Aj eC at_).foldl (vy eC (gQ eC fuel) a) st
def oT (a b:St):Prop:=a.1.length<=b.1.length/\a.2.length<=b.2.length
theorem oT.trans{a b c:St}(h:oT a b)(k:oT b c):oT a c:=⟨wl h.1 k.1,wl h.2 k.2⟩
theorem vp(eC:List Ob)(b:Nat->eD->St->St)(hr:∀i p st,oT st (b i p st))(a:eD)(st:St)(e:eN):oT st (vy eC b a st e):=by
 unfold vy;split
 ·exact⟨by simp,by simp⟩
 ·have:=hr e.2.2.toNat (jJ a e.1) (st.1++[(jJ a e.1,2,0)],st.2)
  exact⟨wl (by simp) this.1,this.2⟩
theorem vW(eC:List Ob)(a:Nat->eD->St->St)(hr:∀i p st,oT st (a i p st))(b:eD):∀(es:List eN) (st:St),oT st (es.foldl (vy eC a b) st)
 |[],st=>⟨kx _,kx _⟩
 |e::r,st=>(vp eC a hr b st e).trans (vW eC a hr b r _)
theorem vX(eC:List Ob):∀(fuel i:Nat) (p:eD) (st:St),oT st (gQ eC fuel i p st)
 |0,_,_,_=>⟨kx _,kx _⟩
 |fuel+1,i,p,st=>vW eC _ (vX eC fuel) p _ st
abbrev rS:=Bool×Int×Int×Int
def jO (h:rS):fQ:=[.bool h.1,.int .i64 h.2.1,.int .i64 h.2.2.1,.int .i64 h.2.2.2]
def rr (hs:List rS):fQ:=hs.flatMap jO
theorem VQ:∀(hs:List rS) (k f:Nat) (h:k<hs.length) (hf:f<4),(rr hs)[4*k+f]?=(jO hs[k])[f]?
 |x::r,0,f,_,hf=>by
  show(jO x++rr r)[4*0+f]?=_
  rw[qX (by show 4*0+f<4;omega)]
  simp
 |x::r,k+1,f,h,hf=>by
  show(jO x++rr r)[4*(k+1)+f]?=_
  rw[CJ (by show 4<=4*(k+1)+f;omega)]
  have:=VQ r k f (by simpa using h) hf
  rw[show 4*(k+1)+f-(jO x).length=4*k+f by show 4*(k+1)+f-4=_;omega,this]
  rfl
theorem OS(hs:List rS):(rr hs).length=4*hs.length:=by
 induction hs with
 |nil=>rfl
 |cons x r a=>
  show(jO x++rr r).length=_;rw[mb,a];show 4+4*r.length=4*(r.length+1);omega
def pU (hs:List rS)(n:Int):Bool:=decide (0<=n)&&decide (n<8)&&(match hs[n.toNat]? with|some h=>h.1|none=>false)
theorem xN{hs:List rS}{n:Int}(h:¬(0<=n/\n<8)):pU hs n=false:=by
 unfold pU;by_cases h0:0<=n
 ·have:decide (n<8)=false:=rk (fun h8=>h ⟨h0,h8⟩)
  rw[this];simp
 ·rw[rk h0];rfl
theorem Cp{hs:List rS}(hk:k<hs.length)(h8:hs.length=8):pU hs (k:Int)=hs[k].1:=by
 unfold pU;rw[mz (by omega:(0:Int)<=k),mz (by omega:(k:Int)<8),ow,jy hk];rfl
section
variable {F:Nat->Prop}{w:World}{S:Nat}{na da:fD}{nc dc:Nat}{nodes:List eN}{data:eL}{hs:List rS}{more:fQ}
theorem fo.tab(h:fo F w S na da nc dc nodes data (rr hs++more))(hk:k<hs.length)(hf:f<4):w.cell? (eI S (2+k*4+f))=(jO hs[k])[f]?:=by
 have e:=VQ hs k f hk hf;have hl:4*k+f<(rr hs).length:=by rw[OS];omega
 simp only[World.cell?,h.hS];rw[show 2+k*4+f=(4*k+f)+2 by omega];simp only[List.getElem?_toArray,List.getElem?_cons_succ];rw[qX hl,e];rfl
theorem gK(h:fo F w S na da nc dc nodes data (rr hs++more))(h8:hs.length=8)(n:Int):
  gc 163 #[hh S,eJ n] w (Do (.bool (pU hs n)) w):=by
 have a:=h.lt;by_cases hn:0<=n/\n<8
 ·obtain⟨k,rfl⟩:∃k:Nat,n=(k:Int):=⟨n.toNat,by omega⟩
  have hk:k<hs.length:=by omega
  have c0:w.cell? (eI S (2+k*4))=some (.bool hs[k].1):=h.tab (f:=0) hk (by omega);rw[Cp hk h8];generalize hs[k].1=u at c0 ⊢;have t1:(0:Int)<=(k:Int):=by omega
  have t2:(k:Int)<8:=by omega
  have b:k<8:=by omega
  clear h hn hk h8;cases u with
  |true=>
   go_enter func163,ntmps163;go_wp2;go_ret;exact⟨rfl,rfl⟩
  |false=>
   go_enter func163,ntmps163;go_wp2;go_ret;exact⟨rfl,rfl⟩
 ·rw[xN hn]
  clear h h8;by_cases h0:0<=n
  ·have t2:decide (n<8)=false:=rk (fun h=>hn ⟨h0,h⟩)
   go_enter func163,ntmps163;go_wp2;go_ret;exact⟨rfl,rfl⟩
  ·have t1:decide (0<=n)=false:=rk h0
   go_enter func163,ntmps163;go_wp2;go_ret;exact⟨rfl,rfl⟩
end
abbrev Sh:=Nat->Option (Int×eD)
abbrev Yo:=Nat->Option (Nat×Nat×Int×Int)
def sx (nodes:List eN):Prop:=∀e∈nodes,∀a∈nodes,e.2.1=1->a.2.1=1->e.2.2=a.2.2->e.1=a.1
theorem Kg(h:sx nodes)(S:eD):sx (pA nodes S):=fun e a b c=>h e (Av.1 a).1 b (Av.1 c).1
theorem Kh(h:sx nodes){x:eN}(hx:x.2.1=1->∀e∈nodes,e.2.1=1->e.2.2≠x.2.2):sx (nodes++[x]):=by
 intro e d c f h1 h2 h3;rcases sB.1 d with a|a<;>rcases sB.1 f with b|b
 ·exact h e a c b h1 h2 h3
 ·rw[nh.1 b]at h2 h3;exact absurd h3 (hx h2 e a h1)
 ·rw[nh.1 a]at h1 h3;exact absurd h3.symm (hx h1 c b h2)
 ·rw[nh.1 a,nh.1 b]
theorem Si(h:sx nodes)(S T:eD):sx (nodes.map (lw S T)):=by
 have c:∀e,(lw S T e).2=e.2:=fun e=>by unfold lw;split<;>rfl
 have d:∀e a:eN,e.1=a.1->(lw S T e).1=(lw S T a).1:=fun e a b=>by unfold lw;rw[b];split<;>first|rfl|exact b
 intro e b a f h1 h2 h3;obtain⟨x,hx,rfl⟩:=ij.1 b;obtain⟨y,g,rfl⟩:=ij.1 f;rw[c]at h1 h3;rw[c]at h2 h3;exact d _ _ (h x hx y g h1 h2 h3)
theorem ly{d:Type}(P:d->Prop){c:Prop}[Decidable c]{a b:d}(e:P a)(f:P b):P (if c then a else b):=by
 by_cases h:c
 ·rw[ie h];exact e
 ·rw[fY h];exact f
def PN (x:List eN×Int):Prop:=sx x.1
theorem Sj(h:sx nodes)(S:eD):PN (rc nodes S):=by
 unfold rc
 repeat refine ly PN (show PN (nodes,_)from h) ?_
 exact Kh h (x:=(S,2,0)) (fun e=>by cases e)
theorem Nl(h:sx nodes)(S:eD):PN (nz nodes S):=by
 unfold nz
 repeat refine ly PN (show PN (nodes,_)from h) ?_
 exact Kg h S
theorem Nn(h:sx nodes)(S T:eD):PN (pd nodes S T):=by
 unfold pd
 repeat refine ly PN (show PN (nodes,_)from h) ?_
 exact Si (Kg h T) S T
def Over (fl:Sh)(φ:Nat->Nat)(data:eL)(c:Hd)(fE:eL):Prop:=
 fE.length=data.length/\(∀f,fl f≠none->fE[φ f]?=some (c f))/\∀k,(∀f,fl f≠none->φ f≠k)->fE[k]?=data[k]?
def Zc (φ:Nat->Nat):Option (Nat×Nat×Int×Int)->rS
 |none=>(false,0,0,0)
 |some x=>(true,(φ x.2.1:Int),x.2.2.1,x.2.2.2)
structure lZ (ey:List Ob)(fl:Sh)(op:Yo)(t:LT)(nodes:List eN)(data:eL)(hs:List rS)(φ:Nat->Nat):Prop where
 inj:∀f f',fl f≠none->fl f'≠none->φ f=φ f'->f=f'
 cont:∀f,fl f≠none->data[φ f]?=some (ki ey fl f)
 par:∀c fE,Over fl φ data c fE->Reads ey c t nodes fE
 num:sx nodes
 h8:hs.length=8
 tab:∀k,k<8->hs[k]?=some (Zc φ (op k))
 Wv:∀k x,op k=some x->fl x.2.1≠none
theorem vx{a:Type}{fl:Nat->Option a}{x:a}(f':Nat):rp fl f (some x) f'≠none↔f'=f\/fl f'≠none:=by
 unfold rp;split
 ·rename_i e;exact⟨fun _=>.inl e,fun _=>by simp⟩
 ·rename_i e;exact⟨.inr,fun h=>h.resolve_left e⟩
theorem OT(ey:List Ob)(fl:Sh)(f:Nat)(d:eD):ki ey (rp fl f (some (0,d))) f=d:=by unfold ki;rw[kw];rfl
theorem Cq(ey:List Ob){fl:Sh}{f f':Nat}(h:f'≠f)(x:Option (Int×eD)):ki ey (rp fl f x) f'=ki ey fl f':=by unfold ki;rw[kv h]
section
variable {ey:List Ob}{fl:Sh}{op:Yo}{t:LT}{nodes:List eN}{data:eL}{hs:List rS}{φ:Nat->Nat}
theorem lZ.reads(h:lZ ey fl op t nodes data hs φ):Reads ey (ki ey fl) t nodes data:=h.par _ _ ⟨rfl,h.cont,fun _ _=>rfl⟩
theorem lZ.tree(h:lZ ey fl op t nodes data hs φ)(hr:∀c fE,fE.length=data.length->Reads ey c t nodes fE->Reads ey c t' jb fE)(hn:sx jb):lZ ey fl op t' jb data hs φ:=
 ⟨h.inj,h.cont,fun c d hd=>hr c d hd.1 (h.par c d hd),hn,h.h8,h.tab,h.Wv⟩
theorem lZ.write(h:lZ ey fl op t nodes data hs φ)(hf:fl f≠none)(d:eD):lZ ey (rp fl f (some (0,d))) op t nodes (data.set (φ f) d) hs φ:=by
 have hd:∀f',rp fl f (some ((0:Int),d)) f'≠none->fl f'≠none:=fun f' h'=>((vx f').1 h').elim (fun e=>by rw[e];exact hf) id;have hu:∀f',fl f'≠none->rp fl f (some ((0:Int),d)) f'≠none:=fun f' h'=>(vx f').2 (.inr h');have i:=(wj.1 (h.cont f hf)).1;refine⟨fun a b g j=>h.inj a b (hd a g) (hd b j),fun a g=>?_,fun c l ⟨m,o2,o3⟩=>h.par c l ⟨by rw[m];simp,fun a g=>o2 a (hu a g),fun k hk=>?_⟩,h.num,h.h8,h.tab,fun k x hx=>hu _ (h.Wv k x hx)⟩
 ·by_cases e:a=f
  ·rw[e,OT,Pm i]
  ·rw[Cq ey e,wu (fun n=>e (h.inj _ _ hf (hd a g) n).symm),h.cont a (hd a g)]
 ·rw[o3 k (fun a g=>hk a (hd a g)),wu (hk f hf)]
theorem lZ.opens(h:lZ ey fl op t nodes data hs φ)(hk:k<8)(v:Option (Nat×Nat×Int×Int))(hv:∀x,v=some x->fl x.2.1≠none):lZ ey fl (rp op k v) t nodes data (hs.set k (Zc φ v)) φ:=by
 have h8:=h.h8;refine⟨h.inj,h.cont,h.par,h.num,by simpa using h.h8,fun j hj=>?_,fun j x hx=>?_⟩
 ·by_cases e:j=k
  ·rw[e,kw,Pm (by omega)]
  ·rw[kv e,wu (fun a=>e a.symm),h.tab j hj]
 ·by_cases e:j=k
  ·rw[e,kw]at hx;exact hv x hx
  ·rw[kv e]at hx;exact h.Wv j x hx
theorem Cr{x:eL}{y:Int}(h:eX nodes x=some (1,y)):∃e∈nodes,e.1=ez x/\e.2=(1,y):=by
 unfold eX at h;split at h
 ·cases h
 ·obtain⟨e,a,h2⟩:=SS.1 h
  exact⟨e,EU a,by have:=Pq a;simpa using this,h2⟩
theorem sx.look(h:sx nodes){x y:eL}{k:Int}(hx:eX nodes x=some (1,k))(b:eX nodes y=some (1,k))(c:eH x)(d:eH y):x=y:=by
 obtain⟨e,f,g,e2⟩:=Cr hx;obtain⟨i,j,l,a⟩:=Cr b;exact pw c d (by rw[<-g,<-l];exact h e f i j (by rw[e2]) (by rw[a]) (by rw[e2,a]))
theorem Cs(c:Hd){x:LT}(hx:x.kind=1)(m:eD)(r:eL):UV ey c x (m::r)=none:=by
 rw[yv];cases x<;>first|rfl|cases hx
theorem eY.num(hs:eY nodes data){x:eL}{y:Int×Int}(h:eX nodes x=some y)(h1:y.1=1):0<=y.2/\y.2<(data.length:Int):=by
 obtain⟨e,a,_,e2⟩:=Cr (y:=y.2) (by rw[h,<-h1])
 have:=hs.files e a (by rw[e2])
 rw[e2]at this;exact this
theorem OU(hs:eY nodes data){d1 d2:eL}{x:eL}(h:∀k:Nat,eX nodes x=some (1,(k:Int))->d1[k]?=d2[k]?):(eX nodes x).map (Gx d1)=(eX nodes x).map (Gx d2):=by
 cases hl:eX nodes x with
 |none=>rfl
 |some y=>
  obtain⟨a,m⟩:=y;rw[mq,mq];unfold Gx;rcases xM hs hl with e|e
  ·have e:a=1:=e
   subst e;obtain⟨b,_⟩:=hs.num hl rfl;obtain⟨k,rfl⟩:∃k:Nat,m=(k:Int):=⟨m.toNat,by simp only at b;omega⟩;rw[fY (by simp),fY (by simp),ow,h k hl]
  ·have e:a=2:=e
   subst e;rfl
theorem lZ.free(h:lZ ey fl op t nodes data hs φ){p:eL}(hv:eH p)(c:t.at ey p=some (.file id))(hn:eX nodes p=some (1,(k:Int))):∀f,fl f≠none->φ f≠k:=by
 intro f hf e;have b:=(wj.1 (h.cont f hf)).1;have key:∀X:eD,bytesOf ey id=X:=fun X=>by
  have:=h.par (rp (ki ey fl) f X) (data.set (φ f) X) ⟨by simp,fun a oW=>?_,fun k hk=>wu (hk f hf)⟩ p hv
  ·rw[hn,e]at this
   unfold UV at this;rw[c,mq,mq,mZ,Gx,fY (by simp),ow,Pm (by rw[<-e];exact b)]at this;exact Nd.file.inj this
  ·by_cases e2:a=f
   ·rw[e2,kw,Pm b]
   ·rw[kv e2,wu (fun d=>e2 (h.inj _ _ hf oW d).symm),h.cont a oW]
 have:=(key hZ).symm.trans (key ⟨#[0]⟩)
 cases this
theorem lZ.hold(h:lZ ey fl op t nodes data hs φ)(hS:Sound ey)(z:eU ey 5 t)(l:eY nodes data){d:LT}(hf:fl f=none)(hid:id≠0)(hv:eH (q++[n]))
  (i:t.at ey q=some d)(hk:kids ey d=some ks)(hp:ip ks n=some (.file id))(hn:eX nodes (q++[n])=some (1,(k:Int))):
  lZ ey (rp fl f (some (id,hZ))) op (rb ey (fun ks=>sf ks n (.held f)) q t) nodes data hs (rp φ f k):=by
 have s:t.at ey (q++[n])=some (.file id):=by rw[kB,i];show d.at ey [n]=_;rw[kh,hk,qr,hp,qr,mr]
 have VR:=h.free hv s hn;have hr:=(lj hS (py hS _ z i).2.1 hk).1;have hne:∀f',fl f'≠none->f'≠f:=fun f' h' e=>h' (by rw[e];exact hf);have o:=fun c:Hd=>Af (fc:=c) (n:=n) hr i hk (.held f);have u:data[k]?=some (bytesOf ey id):=by
  have:=h.reads (q++[n]) hv
  have A:=l.num hn rfl;have v:k<data.length:=by simp only at A;omega
  unfold UV at this;rw[s,hn,mq,mq,mZ,Gx,fY (by simp),ow,jy v]at this;rw[jy v];exact xr some (Nd.file.inj this).symm
 refine⟨fun a b i B e=>?_,fun a oW=>?_,fun c p ⟨w,o2,o3⟩ x hx=>?_,h.num,h.h8,fun j hj=>?_,fun j x hx=>(vx _).2 (.inr (h.Wv j x hx))⟩
 ·rcases(vx a).1 i with g|g<;>rcases(vx b).1 B with e2|e2
  ·rw[g,e2]
  ·rw[g,kw,kv (hne b e2)]at e;exact absurd e.symm (VR b e2)
  ·rw[e2,kw,kv (hne a g)]at e;exact absurd e (VR a g)
  ·rw[kv (hne a g),kv (hne b e2)]at e;exact h.inj a b g e2 e
 ·rcases(vx a).1 oW with g|g
  ·rw[g,kw,u];unfold ki;rw[kw];simp only[ie hid]
  ·rw[kv (hne a g),Cq ey (hne a g),h.cont a g]
 ·have C:k<p.length:=by
   have:=l.num hn rfl
   simp only at this;rw[w];omega
  have D:p[k]?=some (c f):=by have:=o2 f ((vx f).2 (.inl rfl));rwa [kw]at this
  have R:=h.par c (p.set k (bytesOf ey id)) ⟨by simpa using w,fun a oW=>by
    rw[wu (fun e=>VR a oW e.symm)]
    have:=o2 a ((vx a).2 (.inr oW))
    rwa [kv (hne a oW)]at this,fun j hj=>by
    by_cases e:k=j
    ·rw[<-e,Pm C,u]
    ·rw[wu e]
     refine o3 j (fun a oW=>?_);rcases(vx a).1 oW with g|g
     ·rw[g,kw];exact e
     ·rw[kv (hne a g)];exact hj a g⟩
  by_cases hpx:(q++[n]) <+: x
  ·obtain⟨r,rfl⟩:=hpx
   cases r with
   |nil=>
    have:=(o c).1 []
    rw[ql]at hx ⊢;rw[this,gw,hn,mq,Gx,fY (by simp),ow,D];rfl
   |cons m r=>
    have y:q++[n]++m::r=q++n::(m::r):=by simp
    have:=R _ hx
    rw[y,kr i hk,hp,qr,Cs c rfl]at this;rw[y,(o c).1,Cs c rfl];rw[SU.1 this.symm];rfl
  ·rw[(o c).2 x hpx,R x hx]
   refine OU l (fun j hj=>?_);by_cases e:k=j
   ·exact absurd (h.num.look hj (by rw[<-e];exact hn) hx hv) (fun e=>hpx (by rw[e];exact oU _))
   ·rw[wu e]
 ·rw[h.tab j hj]
  cases ho:op j with
  |none=>rfl
  |some x=>show some (true,((φ x.2.1:Nat):Int),_,_)=some (true,((rp φ f k x.2.1:Nat):Int),_,_);rw[kv (hne _ (h.Wv j x ho))]
theorem lZ.create(h:lZ ey fl op t nodes data hs φ)(hS:Sound ey)(w:eU ey 5 t)(o:eY nodes data){d:LT}(hf:fl f=none)(hv:eH (q++[n]))
  (i:t.at ey q=some d)(hk:kids ey d=some ks)(hp:ip ks n=none):
  lZ ey (rp fl f (some (0,hZ))) op (rb ey (fun ks=>sf ks n (.held f)) q t) (nodes++[(ez (q++[n]),1,(data.length:Int))]) (data++[hZ]) hs (rp φ f data.length):=by
 have hr:=(lj hS (py hS _ w i).2.1 hk).1;have hne:∀f',fl f'≠none->f'≠f:=fun f' h' e=>h' (by rw[e];exact hf);have l:∀f',fl f'≠none->φ f'<data.length:=fun f' h'=>(wj.1 (h.cont f' h')).1;have p:=fun c:Hd=>Af (fc:=c) (n:=n) hr i hk (.held f);have u:∀(c:Hd) (r:eL),UV ey c t (q++n::r)=none:=fun c r=>by rw[kr i hk,hp];rfl
 have y:eX nodes (q++[n])=none:=(h.reads.empty hv).2 (u _ []);have z:=fun {m:eL} (hm:eH m)=>yJ (k:=1) (f:=(data.length:Int)) hv (by simp) hm y;refine⟨fun a b i A e=>?_,fun a oW=>?_,fun c s ⟨B,o2,o3⟩ x hx=>?_,Kh h.num (fun _ e C h1=>?_),h.h8,fun j hj=>?_,fun j x hx=>(vx _).2 (.inr (h.Wv j x hx))⟩
 ·rcases(vx a).1 i with g|g<;>rcases(vx b).1 A with e2|e2
  ·rw[g,e2]
  ·rw[g,kw,kv (hne b e2)]at e;have:=l b e2;omega
  ·rw[e2,kw,kv (hne a g)]at e;have:=l a g;omega
  ·rw[kv (hne a g),kv (hne b e2)]at e;exact h.inj a b g e2 e
 ·rcases(vx a).1 oW with g|g
  ·rw[g,kw,OT];simp
  ·rw[kv (hne a g),Cq ey (hne a g),qX (l a g),h.cont a g]
 ·have E:s.length=data.length+1:=by simpa using B
  have D:s[data.length]?=some (c f):=by have:=o2 f ((vx f).2 (.inl rfl));rwa [kw]at this
  have R:=h.par c (s.take data.length) ⟨by rw[gT];omega,fun a oW=>by
    rw[KI (l a oW)]
    have:=o2 a ((vx a).2 (.inr oW))
    rwa [kv (hne a oW)]at this,fun j hj=>by
    by_cases e:j<data.length
    ·rw[KI e,o3 j (fun a oW=>?_),qX e]
     rcases(vx a).1 oW with g|g
     ·rw[g,kw];omega
     ·rw[kv (hne a g)];exact hj a g
    ·rw[oZ (by rw[gT];omega),oZ (by omega)]⟩
  rw[z hx];by_cases hpx:(q++[n]) <+: x
  ·obtain⟨r,rfl⟩:=hpx
   cases r with
   |nil=>
    have:=(p c).1 []
    rw[ql]at hx ⊢;rw[this,gw,ie rfl,mq,Gx,fY (by simp),ow,D];rfl
   |cons m r=>
    have v:q++[n]++m::r=q++n::(m::r):=by simp
    have:=R _ hx
    rw[v,u]at this;rw[fY (by simp),v,(p c).1,Cs c rfl,SU.1 this.symm];rfl
  ·rw[(p c).2 x hpx,R x hx,fY (fun e=>hpx (by rw[e];exact oU _))]
   refine OU o (fun j hj=>?_)
   have:=o.num hj rfl
   simp only at this;rw[KI (by omega)]
 ·have:=o.files e C h1
  simp only;omega
 ·rw[h.tab j hj]
  cases ho:op j with
  |none=>rfl
  |some x=>show some (true,((φ x.2.1:Nat):Int),_,_)=some (true,((rp φ f data.length x.2.1:Nat):Int),_,_);rw[kv (hne _ (h.Wv j x ho))]
end
theorem se(l:eL):lf l=ez l:=gy (by rw[ir];rfl)
theorem Gz(h:(ib S).2=true):Good (ib S).1:=by
 unfold ib at h ⊢;split
 ·exact Good.nil
 ·rename_i h0
  rw[fY h0]at h;split
  ·rename_i hv
   rw[ie hv]at h;exact⟨hv,wm h⟩
  ·rename_i hv
   rw[fY hv]at h;cases h
theorem kN(hS:S.size<=maxLen):((ib S).2=false/\kM S)\/∃l,Good l/\S=ez l:=by
 cases hs:(ib S).2 with
 |false=>
  refine .inl ⟨rfl,fun W=>RX S hS (fun l hl e=>?_) W⟩;rw[e,se,AC hl]at hs;cases hs
 |true=>exact .inr ⟨_,Gz hs,(Cm hs).symm⟩
theorem kO(l:eL):l=[]\/∃(n:eD) (r:eL),l=r.reverse++[n]:=by
 cases h:l.reverse with
 |nil=>exact .inl (List.reverse_eq_nil_iff.1 h)
 |cons n r=>exact .inr ⟨n,r,by rw[<-qh,<-h,pY]⟩
def iV (ey:List Ob)(fl:Sh)(op:Yo)(t:LT)(nodes:List eN)(data:eL)(rest:fQ):Prop:=(∃φ hs more,rest=rr hs++more/\lZ ey fl op t nodes data hs φ)/\eY nodes data
theorem iV.reads{fl:Sh}{op:Yo}(h:iV ey fl op t nodes data rest):Reads ey (ki ey fl) t nodes data:=by
 obtain⟨⟨φ,hs,more,_,a⟩,_⟩:=h;exact a.reads
theorem eY.len{data fE:eL}(h:eY nodes data)(hl:fE.length=data.length):eY nodes fE:=⟨h.iO,h.one,h.few,h.kinds,by rw[hl];exact h.files,h.up⟩
theorem iV.tree{fl:Sh}{op:Yo}(h:iV ey fl op t nodes data rest)(hr:∀c fE,Reads ey c t nodes fE->eY nodes fE->Reads ey c t' jb fE)(hn:sx nodes->sx jb)(b:eY jb data):iV ey fl op t' jb data rest:=by
 obtain⟨⟨φ,hs,more,e,a⟩,h2⟩:=h;exact⟨⟨φ,hs,more,e,a.tree (fun c d hl f=>hr c d f (h2.len hl)) (hn a.num)⟩,b⟩
def rT (s i p:Nat)(B:WB)(ey:List Ob)(tg:eV)(w w':World)(g:WG)(lim:Nat)(nodes:List eN)(data:eL)(rest:fQ):Prop:=
 ∃eF a t',eB (Mine i) tg eF w w'/\gO eF w' s i p B ey a lim t'/\a.fs.brk=false/\(∃l,a.fs.got=g.fs.got++l/\∀x,l.count x+g.fs.kn x=a.fs.kn x)/\fA ey t'/\iV ey a.fl a.op t' nodes data rest
section
variable {s i p:Nat}{B:WB}{ey:List Ob}{tg:eV}{w:World}{g:WG}{lim:Nat}{t:LT}{nodes:List eN}{data:eL}{rest:fQ}
theorem Hn(h:gO tg w s i p B ey g lim t)(b:g.fs.brk=false)(hi:fA ey t)(c:iV ey g.fl g.op t nodes data rest)(a:ik w w'):rT s i p B ey tg w w' g (lim+400) nodes data rest:=
 ⟨tg,g,t,eB.eE a,(h.below a).mono (by omega),b,⟨[],by simp,fun x=>by simp⟩,hi,c⟩
theorem tX{a:LT}(h:OG s i p B ey tg w w' (lim+400) (yG g fs' a))(c:g.fs.brk=false)(b:g.fs.Next fs')(hi:fA ey a)(d:iV ey g.fl g.op a jb data rest):rT s i p B ey tg w w' g (lim+400) jb data rest:=by
 obtain⟨eF,e,t',m,hQ,rfl,h2,h3,j,f⟩:=h;exact⟨eF,e,t',m,hQ,by rw[h2,b.1];exact c,by rw[h2];exact b.2.2.1,hi,by rw[h3,f];exact d⟩
theorem mS{b:Type}{fs fs':FS}{x all none:b}(h:Fair fs fs' x all none)(a:fs.brk=false):fs.Next fs'/\x=all:=by
 rcases h with h|⟨h,_⟩
 ·exact h
 ·rw[h.1]at a;cases a
theorem Yp(h:gO tg w s i p B ey g lim t)(hl:lim+1000<1099511627776)(j:g.fs.brk=false)(hi:fA ey t)(k:Exact ey)(b:iV ey g.fl g.op t nodes data rest)(S:eD)(hS:S.size<=maxLen):
  gc 31 #[hh B.wb,.string S] w fun e w'=>e=.returned (eJ (rc nodes S).2)/\rT s i p B ey tg w w' g (lim+400) (rc nodes S).1 data rest:=by
 have u:=b.reads;have hs:=b.2;obtain⟨v,c0,_⟩:=h.ws;rcases kN hS with⟨hf,hn⟩|⟨l,m,rfl⟩
 ·have e:rc nodes S=(nodes,1):=by unfold rc;rw[ie hf]
  rw[e];exact(RY B.wb S w hn).mono fun e w' ⟨a,f⟩=>⟨a,Hn h j hi b f⟩
 ·rcases kO l with rfl|⟨n,r,rfl⟩
  ·have e:rc nodes (ez [])=(nodes,6):=by unfold rc;rw[AC Good.nil];rfl
   rw[e,<-se];exact(JE B.wb B.bt [] Good.nil 6 (fun w'=>ik w w') w v c0 (fun W o=>(Ml B.bt W).mono fun e w' ⟨a,f⟩=>⟨a,o.trans (f.mono o.size)⟩)).mono fun e w' ⟨a,f⟩=>⟨a,Hn h j hi b f⟩
  ·obtain⟨x,q⟩:=mS (Lv ey t g.fs (n::r)) j
   obtain⟨y,A,z⟩:=Ke u hs k.sound h.ok m;rw[<-se];refine(aig h hl m).mono fun e w' ⟨a,hq⟩=>⟨?_,?_⟩
   ·rw[a,se,<-y,q]
   ·rw[se]
    exact tX hq j x (RN k.sound h.ok hi g.fs n r) (b.tree (fun c d hr hs=>by rw[q];exact(Ke hr hs k.sound h.ok m).2.1) (fun h=>Sj h _) z)
theorem VS(h:gO tg w s i p B ey g lim t)(hl:lim+1000<1099511627776)(j:g.fs.brk=false)(hi:fA ey t)(k:Exact ey)(b:iV ey g.fl g.op t nodes data rest)(S:eD)(hS:S.size<=maxLen):
  gc 32 #[hh B.wb,.string S] w fun e w'=>e=.returned (eJ (nz nodes S).2)/\rT s i p B ey tg w w' g (lim+400) (nz nodes S).1 data rest:=by
 have u:=b.reads;have hs:=b.2;obtain⟨v,c0,_⟩:=h.ws;rcases kN hS with⟨hf,hn⟩|⟨l,m,rfl⟩
 ·have e:nz nodes S=(nodes,1):=by unfold nz;rw[ie hf]
  rw[e];exact(Nb B.wb S w hn).mono fun e w' ⟨a,f⟩=>⟨a,Hn h j hi b f⟩
 ·rcases kO l with rfl|⟨n,r,rfl⟩
  ·have e:nz nodes (ez [])=(nodes,9):=by unfold nz;rw[AC Good.nil];rfl
   rw[e,<-se];exact(EA B.wb B.bt [] Good.nil 9 (fun w'=>ik w w') w v c0 (fun W o=>(Js B.bt W).mono fun e w' ⟨a,f⟩=>⟨a,o.trans (f.mono o.size)⟩)).mono fun e w' ⟨a,f⟩=>⟨a,Hn h j hi b f⟩
  ·obtain⟨x,q⟩:=mS (Iu ey t g.fs (n::r)) j
   obtain⟨y,A,z⟩:=EJ u hs k.sound h.ok m;rw[<-se];refine(XX h hl m).mono fun e w' ⟨a,hq⟩=>⟨?_,?_⟩
   ·rw[a,se,<-y,q]
   ·rw[se]
    exact tX hq j x (MP k.sound h.ok hi g.fs n r) (b.tree (fun c d hr hs=>by rw[q];exact(EJ hr hs k.sound h.ok m).2.1) (fun h=>Nl h _) z)
theorem zI{S T:eD}(h:(ib S).2=false\/(ib T).2=false):pd nodes S T=(nodes,1):=by unfold pd;rw[ie h]
theorem GA(hl:Good l)(hm:Good m)(h:l=[]\/m=[]):pd nodes (ez l) (ez m)=(nodes,9):=by
 unfold pd;rw[AC hl,AC hm];simp only;rw[fY (by simp),ie (by rcases h with rfl|rfl<;>simp)]
theorem VT(h:gO tg w s i p B ey g lim t)(hl:lim+1000<1099511627776)(o:g.fs.brk=false)(hi:fA ey t)(q:Exact ey)(j:iV ey g.fl g.op t nodes data rest)(S T:eD)(hS:S.size<=maxLen)(z:T.size<=maxLen):
  gc 33 #[hh B.wb,.string S,.string T] w fun e w'=>e=.returned (eJ (pd nodes S T).2)/\rT s i p B ey tg w w' g (lim+400) (pd nodes S T).1 data rest:=by
 have A:=j.reads;have hs:=j.2;obtain⟨C,c0,_⟩:=h.ws;rcases kN hS with⟨hf,hn⟩|⟨l,b,rfl⟩
 ·rw[zI (.inl hf)]
  exact(JR B.wb S T w hn).mono fun e w' ⟨a,f⟩=>⟨a,Hn h o hi j f⟩
 ·rcases kN z with⟨hf,hn⟩|⟨m,k,rfl⟩
  ·rw[zI (.inr hf),<-se]
   exact(JS B.wb l b T w hn).mono fun e w' ⟨a,f⟩=>⟨a,Hn h o hi j f⟩
  ·by_cases h0:l=[]\/m=[]
   ·rw[GA b k h0,<-se,<-se]
    exact(EB B.wb B.bt l m b k 9 (fun w'=>ik w w') w C c0 (fun W u=>(Kf B.bt l m b k h0 W).mono fun e w' ⟨a,f⟩=>⟨a,u.trans (f.mono u.size)⟩)).mono fun e w' ⟨a,f⟩=>⟨a,Hn h o hi j f⟩
   ·rcases kO l with rfl|⟨n,r,rfl⟩
    ·exact absurd (.inl rfl) h0
    ·rcases kO m with rfl|⟨v,x,rfl⟩
     ·exact absurd (.inr rfl) h0
     ·obtain⟨D,y⟩:=mS (Iw ey t g.fs (n::r) (v::x)) o
      obtain⟨E,G,F⟩:=EK A hs q h.ok b k;rw[<-se,<-se];refine(XY h hl b k).mono fun e w' ⟨a,hq⟩=>⟨?_,?_⟩
      ·rw[a,se,se,<-E,y]
      ·rw[se,se]
       exact tX hq o D (MQ q.sound h.ok hi g.fs n v r x) (j.tree (fun c d hr hs=>by rw[y];exact(EK hr hs q h.ok b k).2.1) (fun h=>Nn h _ _) F)
theorem bit(h:gO tg w s i p B ey g lim t)(hl:lim+1000<1099511627776)(b:g.fs.brk=false)(hi:fA ey t)(f:Exact ey)(hk:t.kind=2)(a:iV ey g.fl g.op t nodes data rest)(S:eD)(hS:S.size<=maxLen):
  gc 67 #[hh B.wb,.string S] w fun e w'=>e=.returned (.tuple #[.agg #[eJ (iU nodes data S).1.1,eJ (iU nodes data S).1.2],eJ (iU nodes data S).2])/\rT s i p B ey tg w w' g (lim+400) nodes data rest:=by
 have j:=a.reads;have hs:=a.2;rcases kN hS with⟨hf,hn⟩|⟨l,d,rfl⟩
 ·have e:iU nodes data S=((0,0),1):=by unfold iU;rw[ie hf]
  rw[e];exact(VE B.wb S w hn).mono fun e w' ⟨c,k⟩=>⟨c,Hn h b hi a k⟩
 ·obtain⟨r,rfl⟩:∃r:eL,l=r.reverse:=⟨l.reverse,by simp⟩
  obtain⟨m,n⟩:=mS (Qd ey g.fl t g.fs r) b;obtain⟨o,q⟩:=Ym g.fl j hs f.sound h.ok hk d;rw[<-se];refine(esc h hl d).mono fun e w' ⟨c,hq⟩=>⟨?_,tX hq b m hi a⟩;rw[c,se,<-o,<-q,n]
theorem Yq{W:World}{b:Nat}{es:List eN}(h:tQ W b es es.length)(hn:es.length<=16):W.ownsRow 0 9 1 (.slice (some (eI b 0)) es.length es.length) es.length (fU (es.map (·.1))):=by
 obtain⟨cs,h1,h2⟩:=h.blk;refine⟨by simp[fU],.inr ⟨b,es.length,cs,rfl,tk _,h1,kx _,by unfold maxLen;omega,by rw[h2,Nat.mul_one],?_⟩⟩;apply KL;intro k;by_cases hk:k<es.length
 ·have hc:=h.nms k hk hk
  rw[Ap,ie (by omega)];simp only[World.cell?,h1]at hc;have a:cs[k]?=some (.string es[k].1):=by simpa using hc
  rw[Zh,a];simp[fU,hk]
 ·rw[Ap,fY (by omega),oZ (by simp[fU];omega)]
theorem ble(h:gO tg w s i p B ey g lim t)(hl:lim+1000<1099511627776)(j:g.fs.brk=false)(hi:fA ey t)(o:Exact ey)(n:iV ey g.fl g.op t nodes data rest)(S:eD)(hS:S.size<=maxLen):
  gc 68 #[hh B.wb,.string S] w fun e w'=>∃a c,e=.returned (.tuple #[.slice a (Kd nodes S).1.length c,eJ (Kd nodes S).2])/\w'.ownsRow 0 9 1 (.slice a (Kd nodes S).1.length c) (Kd nodes S).1.length (fU (Kd nodes S).1)/\
   ∃eF f t',eB (Mine i) tg eF w w'/\gO eF w' s i p B ey f (lim+400) t'/\f.fs.brk=false/\(∃l,f.fs.got=g.fs.got++l/\∀x,l.count x+g.fs.kn x=f.fs.kn x)/\fA ey t'/\iV ey f.fl f.op t' nodes data rest/\(Kd nodes S).1.length<=16/\∀b,(Value.slice a (Kd nodes S).1.length c).ownBlock=some b->w.heap.size<=b/\eF b=(0,0):=by
 have I:=n.reads;have hs:=n.2;rcases kN hS with⟨hf,hn⟩|⟨l,y,rfl⟩
 ·have e:Kd nodes S=([],1):=by unfold Kd;rw[ie hf]
  rw[e];exact(VD B.wb S w hn).mono fun e w' ⟨k,z⟩=>⟨none,0,k,jf _ _ _ _,tg,g,t,eB.eE z,(h.below z).mono (by omega),j,⟨[],by simp,fun x=>by simp⟩,hi,n,tk _,fun b j=>by cases j⟩
 ·obtain⟨r,rfl⟩:∃r:eL,l=r.reverse:=⟨l.reverse,by simp⟩
  obtain⟨A,C⟩:=mS (uq ey t g.fs r) j;rw[jW]at C;obtain⟨D,q⟩:=Yn I hs o.sound h.ok y;have u:(QR ey t r).2.length=(Kd nodes (ez r.reverse)).1.length:=by rw[<-q,nD]
  have iE:(QR ey t r).2.length<=16:=by
   by_cases h0:(QR ey t r).1=0
   ·obtain⟨d,J,hk⟩:=qO h0
    exact(lj o.sound (py o.sound _ h.ok J).2.1 hk).2.1
   ·have:(QR ey t r).2=[]:=by
     unfold QR at h0 ⊢;simp only at h0 ⊢;split
     ·rfl
     ·rename_i h1
      rw[fY h1]at h0;cases hc:(ln ey t r).2<;>rw[hc]at h0<;>first|rfl|exact absurd rfl h0
    rw[this];exact tk _
  rw[<-se];refine(bce h hl y).mono ?_;rintro e w' ⟨v,k,eF,m,hQ,E⟩;rw[C]at k E;rw[se];have F:∀a c,(∀b,(Value.slice a (Kd nodes (ez r.reverse)).1.length c).ownBlock=some b->w.heap.size<=b/\eF b=(0,0))->∃eF f t',eB (Mine i) tg eF w w'/\gO eF w' s i p B ey f (lim+400) t'/\f.fs.brk=false/\(∃l,f.fs.got=g.fs.got++l/\∀x,l.count x+g.fs.kn x=f.fs.kn x)/\fA ey t'/\iV ey f.fl f.op t' nodes data rest/\(Kd nodes (ez r.reverse)).1.length<=16/\∀b,(Value.slice a (Kd nodes (ez r.reverse)).1.length c).ownBlock=some b->w.heap.size<=b/\eF b=(0,0):=
   fun a c K=>⟨eF,_,t,m,hQ,by rw[show({ g with fs:=(lL ey t g.fs r).1 }:WG).fs.brk=(lL ey t g.fs r).1.brk from rfl,A.1];exact j,A.2.2.1,hi,n,by rw[<-u];exact iE,K⟩
  rcases E with⟨h0,rfl⟩|⟨h0,b,rfl,L,M,N⟩
  ·have G:(Kd nodes (ez r.reverse)).1=[]:=by
    rw[<-q]
    have:(QR ey t r).2=[]:=by
     unfold QR at h0 ⊢;simp only at h0 ⊢;split
     ·rfl
     ·rename_i h1
      rw[fY h1]at h0;cases hc:(ln ey t r).2<;>rw[hc]at h0<;>first|rfl|exact absurd rfl h0
    rw[this];rfl
   refine⟨none,0,by rw[k,<-D,G];rfl,by rw[G];exact jf _ _ _ _,F none 0 (fun b j=>by cases j)⟩
  ·refine⟨some (eI b 0),(Kd nodes (ez r.reverse)).1.length,by rw[k,<-D,u],?_,F _ _ (fun O H=>?_)⟩
   ·have:=Yq (es:=(QR ey t r).2.map mn) (by rw[nD];exact L) (by rw[nD];exact iE)
    rw[nD,u,Fg,show((fun x:eN=>x.1)∘mn)=(fun x:eD×LT=>x.1)from rfl,q]at this;exact this
   ·simp only[Value.ownBlock,mZ]at H
    subst H;exact⟨N,M⟩
end
def ndK:Nd->Int
 |.dir=>2
 |.file _=>1
theorem blt(a:List Ob)(fc:Hd)(t:LT):ndK (nd a fc t)=t.kind:=by cases t<;>rfl
def OV (q:eL)(x:Nd):Gs:=(lf q,ndK x,ndD x)
def mf (a:List Ob)(fc:Hd):Nat->eL->LT->List (eL×Nd)
 |0,_,_=>[]
 |n+1,q,c=>((kids a c).getD []).flatMap fun x=>(q++[x.1],nd a fc x.2)::(if x.2.kind=2 then mf a fc n (q++[x.1]) x.2 else [])
theorem zJ{a:List Ob}:∀(n:Nat) (q:eL) (t:LT),nT a fc n q t=(mf a fc n q t).map fun x=>OV x.1 x.2
 |0,q,t=>rfl
 |n+1,q,t=>by
  rw[nT,mf,List.map_flatMap]
  congr 1
  funext x
  rw[jg]
  unfold OV
  rw[blt]
  split
  ·rw[zJ n (q++[x.1]) x.2];rfl
  ·rfl
theorem yM{a:List Ob}:∀(n:Nat) (q:eL) (t:LT) z,z∈mf a fc n q t->∃y,y≠[]/\z.1=q++y
 |0,q,t,z,h=>by cases h
 |n+1,q,t,z,h=>by
  rw[mf]at h
  obtain⟨x,hx,h⟩:=List.mem_flatMap.1 h
  rcases gU.1 h with rfl|h
  ·exact⟨[x.1],by simp,rfl⟩
  ·split at h
   ·obtain⟨y,b,e⟩:=yM n (q++[x.1]) x.2 z h
    exact⟨x.1::y,by simp,by rw[e,kC];rfl⟩
   ·cases h
theorem Ct{a:List Ob}(hS:Sound a):∀(n:Nat) (q:eL) (t:LT),eU a n t->(mf a fc n q t).Pairwise fun x y=>¬y.1 <+: x.1
 |0,q,t,_=>List.Pairwise.nil
 |n+1,q,t,ht=>by
  rw[mf]
  by_cases hk:t.kind=2
  ·obtain⟨ks,c⟩:=qN (a:=a) hk
   obtain⟨hr,_,f⟩:=lj hS ht c
   rw[c,qj,List.pairwise_flatMap]
   refine⟨fun x hx=>?_,?_⟩
   ·obtain⟨m,e,o⟩:=(f x hx).2
    have g:m=n:=by omega
    subst g
    refine sj.2 ⟨fun z b hp=>?_,?_⟩
    ·split at b
     ·obtain⟨y,d,e⟩:=yM m (q++[x.1]) x.2 z b
      rw[e]at hp
      have:=hp.length_le
      rw[mb]at this
      have:0<y.length:=Ho.2 d
      simp only at *
      omega
     ·cases b
    ·split
     ·exact Ct hS m (q++[x.1]) x.2 o
     ·exact List.Pairwise.nil
   ·refine List.Pairwise.imp ?_ hr
    intro h i j k l p r hp
    have key:∀(x:eD×LT) z,z∈((q++[x.1],nd a fc x.2)::(if x.2.kind=2 then mf a fc n (q++[x.1]) x.2 else []))->∃y,z.1=q++x.1::y:=by
     intro x z b;rcases gU.1 b with rfl|b
     ·exact⟨[],rfl⟩
     ·split at b
      ·obtain⟨y,d,e⟩:=yM n (q++[x.1]) x.2 z b
       exact⟨y,by rw[e,kC];rfl⟩
      ·cases b
    obtain⟨u,s⟩:=key h k l;obtain⟨v,e2⟩:=key i p r;rw[s,e2,SN,KP]at hp;rw[hp.1,iX]at j;omega
  ·rw[mQ hk];exact List.Pairwise.nil
theorem Cu{a:List Ob}(hS:Sound a)(ht:eU a 5 t){x:Nd}:(y,x)∈mf a fc 5 [] t↔y≠[]/\UV a fc t y=some x:=by
 have key:∀(n:Nat) (q:eL) (t:LT),eU a n t->∀z,z∈mf a fc n q t↔∃y x,y≠[]/\UV a fc t y=some x/\z=(q++y,x):=by
  intro n
  induction n with
  |zero=>
   intro q t ht z;rw[mf];constructor
   ·intro h;cases h
   ·rintro⟨y,x,d,hs,_⟩
    unfold UV at hs;obtain⟨c,hc,_⟩:=SS.1 hs
    have:=(py hS _ ht hc).1
    exact absurd (Ao.1 (by omega)) d
  |succ n j=>
   intro q t ht z;rw[mf];by_cases hk:t.kind=2
   ·obtain⟨ks,g⟩:=qN (a:=a) hk
    obtain⟨hr,_,l⟩:=lj hS ht g;rw[g,qj,List.mem_flatMap];have p:∀w∈ks,ip ks w.1=some w.2:=fun w hw=>by
     obtain⟨k,hk,rfl⟩:=pg hw;exact DR hr hk
    constructor
    ·rintro⟨w,hw,f⟩
     obtain⟨m,e,o⟩:=(l w hw).2;have i:m=n:=by omega
     subst i;rcases gU.1 f with f|f
     ·exact⟨[w.1],nd a fc w.2,by simp,by rw[yv,g,qr,p w hw,qr,gw],f⟩
     ·split at f
      ·obtain⟨y,x,d,hs,e⟩:=(j (q++[w.1]) w.2 o z).1 f
       exact⟨w.1::y,x,by simp,by rw[yv,g,qr,p w hw,qr];exact hs,by rw[e,kC];rfl⟩
      ·cases f
    ·rintro⟨y,x,d,hs,e⟩
     cases y with
     |nil=>exact absurd rfl d
     |cons b y=>
      rw[yv,g,qr]at hs;obtain⟨c,hc,hs⟩:=Option.bind_eq_some_iff.1 hs;have r:∃w∈ks,w.1=b/\w.2=c:=by
       unfold ip at hc;obtain⟨w,hw,e2⟩:=SS.1 hc;exact⟨w,EU hw,by simpa using Pq hw,e2⟩
      obtain⟨w,hw,rfl,rfl⟩:=r;obtain⟨m,u,o⟩:=(l w hw).2;have i:m=n:=by omega
      subst i;refine⟨w,hw,?_⟩;cases y with
      |nil=>
       rw[gw]at hs;rw[e,<-zQ hs];exact jS ..
      |cons s y=>
       refine pn _ ?_;have hk2:w.2.kind=2:=by
        by_cases h2:w.2.kind=2
        ·exact h2
        ·rw[yv,mQ h2]at hs;cases hs
       rw[ie hk2];exact(j (q++[w.1]) w.2 o z).2 ⟨s::y,x,by simp,hs,by rw[e,kC];rfl⟩
   ·rw[mQ hk]
    constructor
    ·intro h;cases h
    ·rintro⟨y,x,d,hs,_⟩
     cases y with
     |nil=>exact absurd rfl d
     |cons b y=>rw[yv,mQ hk]at hs;cases hs
 rw[key 5 [] t ht];constructor
 ·rintro⟨v,A,d,hs,e⟩
  cases e;exact⟨d,hs⟩
 ·rintro⟨d,hs⟩
  exact⟨y,x,d,hs,rfl⟩
section
variable {a b:List Ob}{fc fu:Hd}{t u:LT}
end
end Go.Proofs.YtlgidcmmgohagaaGreat
