/- What is proved here: U2. -/
import Derived.Test.YtlgidcmmgohagaaGreatFileM14
import Derived.Test.YtlgidcmmgohagaaGreatFileM13
import Derived.Test.YtlgidcmmgohagaaGreatFileM22
import Derived.Test.YtlgidcmmgohagaaGreatFileM21
import Derived.Test.YtlgidcmmgohagaaGreatFileM09
import Derived.Test.YtlgidcmmgohagaaGreatFileM10
import Derived.Test.YtlgidcmmgohagaaGreatFileM04
import Derived.Test.YtlgidcmmgohagaaGreatFileM11
import Derived.Test.YtlgidcmmgohagaaGreatFileM20
namespace Go.Proofs.YtlgidcmmgohagaaGreat
open Go.RowKit Go.Sort Go.Shelf Go.Proofs.Tryz
set_option linter.unusedVariables false
set_option maxRecDepth 100000
set_option maxHeartbeats 16000000
variable {F L T a b d data l m q r y:eB}{S n p s x:eu}{c t t':LT}{id:Int}{ei:List Ob}{f k:Nat}{fs':FS}{e:eD}{nodes RK:List eD}{ks:Kids}{rest:fE}{w':World}{fc:ul}
theorem Pm(s:eu)(k:Nat)(w:World)(h:Lib.indexByte s.data.toList 47=(k:Int))(hk:k<s.size)(hm:s.size<=maxLen):eK 184 #[.string s,.string ⟨#[47]⟩] w (ml (.tuple #[.string (s.extract 0 k),.string (s.extract (k+1) s.size),.bool true]) w):=by
 have hi:=qo s w;rw[h]at hi;unfold maxLen at hm;have hw:IntKind.i64.wrap ((k:Int)+1)=(k:Int)+1:=by rw[uP]<;>omega
 have a:(0:Int)<=k:=by omega
 go_enter func184,ntmps184;go_wp2_with(go_at_call 215;refine hi.mono ?_;rintro e b ⟨rfl,rfl⟩)
 go_region
 all_goals
  go_wp2;exact jr (v:=.tuple #[.string (s.extract 0 k),.string (s.extract (k+1) s.size),.bool true]) (by simp[results,results184,go_sem]) rfl ⟨rfl,eQ (i7 _ _)⟩
theorem RD(x:eu)(r:eB)(hx:∀c∈w7 x,c≠47)(hm:(i6 (x::r)).size<=maxLen)(w:World):
  eK 128 #[.string (i6 (x::r)),.string ⟨#[47]⟩] w (ml (.tuple #[.string x,.string (i6 r),.bool (!r.isEmpty)]) w):=by
 cases r with
 |nil=>
  rw[nX,q7];exact um _ _ _ _ w ((A9 x w (oO _ hx)).mono fun e w' ⟨h1,h2⟩=>⟨h1,by rw[h2];exact i7 _ _⟩)
 |cons y t=>
  have h1:=j6 x (r:=y::t) (by simp);have h2:Lib.indexByte (w7 (i6 (x::y::t))) 47=((w7 x).length:Int):=by rw[h1];exact index_first _ _ hx
  have h3:(i6 (x::y::t)).size=(w7 x).length+1+(w7 (i6 (y::t))).length:=by rw[<-ly,h1,jM,gK];omega
  have a:=Pm (i6 (x::y::t)) (w7 x).length w h2 (by omega) hm;have b:(i6 (x::y::t)).extract 0 (w7 x).length=x:=yi (by rw[mU,h1,List.take_left,xI]);have e2:(i6 (x::y::t)).extract ((w7 x).length+1) (i6 (x::y::t)).size=i6 (y::t):=yi (by
   rw[mU,jH (by rw[ly];exact io _),h1,show w7 x++47::w7 (i6 (y::t))=(w7 x++[47])++w7 (i6 (y::t)) by simp];exact Nl (by simp))
  rw[b,e2]at a;exact um _ _ _ _ w a
theorem zi:∀(s:List UInt8),∀x∈lx s,∀c∈x,c≠47
 |[]=>by intro x hx c hc;simp[lx]at hx;subst hx;cases hc
 |d::r=>by
  intro x hx c hc
  have a:=zi r
  rw[lx]at hx
  split at hx
  ·rcases Hd.1 hx with rfl|hx
   ·cases hc
   ·exact a x hx c hc
  ·rename_i hd
   rcases Hd.1 hx with rfl|hx
   ·rcases Hd.1 hc with rfl|hc
    ·exact hd
    ·cases hs:lx r with
     |nil=>exact absurd hs (jZ r)
     |cons y ys=>rw[hs]at hc;exact a y (by rw[hs];exact ir ..) c hc
   ·exact a x (List.mem_of_mem_tail hx) c hc
def Iu (s:eu):eB:=(lx (w7 s)).map fun x=>⟨x.toArray⟩
theorem Pn(s:eu):i6 (Iu s)=s:=by
 apply yi;show IH ((Iu s).map w7)=w7 s;unfold Iu;rw[BZ]
 have:(lx (w7 s)).map (w7∘fun x=>(⟨x.toArray⟩:eu))=lx (w7 s):=by
  conv=>rhs;rw[<-List.map_id (lx (w7 s))]
  apply Kg;intro x _;rfl
 rw[this,qb]
theorem Po(s:eu):∀x∈Iu s,∀c∈w7 x,c≠47:=by
 intro x hx;obtain⟨y,a,rfl⟩:=H3.1 hx;exact zi _ y a
theorem Th(s:eu):Iu s≠[]:=by
 unfold Iu;intro h;exact jZ _ (List.map_eq_nil_iff.1 h)
theorem RF(h:¬Good L):∃k,k<L.length/\k<=5/\(∀j (hj:j<L.length),j<k->ez L[j]=true)/\(k=5\/∃hk:k<L.length,ez L[k]=false):=by
 by_cases hv:∀j (hj:j<L.length),j<5->ez L[j]=true
 ·by_cases c:L.length<=5
  ·refine absurd ⟨fun x hx=>?_,c⟩ h
   obtain⟨j,hj,rfl⟩:=mH hx;exact hv j hj (by omega)
  ·exact⟨5,by omega,by omega,hv,.inl rfl⟩
 ·have key:∀n,(∃j,∃hj:j<L.length,j<n/\ez L[j]=false)->∃k,∃hk:k<L.length,k<n/\ez L[k]=false/\∀j (hj:j<L.length),j<k->ez L[j]=true:=by
   intro n
   induction n with
   |zero=>rintro⟨j,_,hj,_⟩;omega
   |succ n e=>
    rintro⟨j,hj,l,a⟩;by_cases d:∃j,∃hj:j<L.length,j<n/\ez L[j]=false
    ·obtain⟨k,hk,m,h1,h2⟩:=e d
     exact⟨k,hk,by omega,h1,h2⟩
    ·have b:∀i (hi:i<L.length),i<n->ez L[i]=true:=fun i hi jY=>by
      cases hv:ez L[i] with
      |true=>rfl
      |false=>exact absurd ⟨i,hi,jY,hv⟩ d
     have f:j=n:=by
      by_cases g:j<n
      ·rw[b j hj g]at a;cases a
      ·omega
     subst f;exact⟨j,hj,by omega,a,b⟩
  have:∃j,∃hj:j<L.length,j<5/\ez L[j]=false:=by
   refine Classical.byContradiction fun hc=>hv fun j hj c=>?_;cases a:ez L[j] with
   |true=>rfl
   |false=>exact absurd ⟨j,hj,c,a⟩ hc
  obtain⟨k,hk,o,a,b⟩:=key 5 this;exact⟨k,hk,by omega,b,.inr ⟨hk,a⟩⟩
theorem Bw(j:Nat):(i6 (L.drop j)).size<=(i6 L).size:=by
 induction j generalizing L with
 |zero=>exact io _
 |succ j a=>
  cases L with
  |nil=>exact io _
  |cons x r=>
   rw[Kb];refine pD a ?_;cases r with
   |nil=>exact oY _
   |cons y t=>
    have:=rp List.length (j6 x (r:=y::t) (by simp))
    rw[jM,gK,ly,ly,ly]at this;omega
theorem Mn(s:eu)(hs:s.size<=maxLen)(CO:∀l,Good l->s≠i6 l)(w:World):eK 69 #[.string s] w (ml (.tuple #[hP [],ed 1]) w):=by
 obtain⟨L,H⟩:∃L,L=Iu s:=⟨_,rfl⟩;have hj:=Pn s;have NF:=Po s;have hne:=Th s;rw[<-H]at hj NF hne;have hg:¬Good L:=fun h=>CO L h hj.symm;have aq:(!(s).toList.isEmpty)=true:=by
  have h0:s≠fy:=fun e=>CO [] Good.nil (by rw[e,q7]);rw[y0];cases hx:w7 s with
  |nil=>exact absurd (yi (show w7 s=w7 fy by rw[hx];rfl)) h0
  |cons c r=>rfl
 obtain⟨k,ar,au,I,J⟩:=RF hg;have hcut:∀j (hj:j<L.length) W,eK 128 #[.string (i6 (L.drop j)),.string ⟨#[47]⟩] W (ml (.tuple #[.string (L.getD j fy),.string (i6 (L.drop (j+1))),.bool (decide (j+1<L.length))]) W):=by
  intro j d W;have K:L.drop j=L[j]::L.drop (j+1):=Dj d;have hm:(i6 (L.drop j)).size<=maxLen:=by
   have:=Bw (L:=L) j
   rw[hj]at this;omega
  rw[K]at hm
  have:=RD L[j] (L.drop (j+1)) (NF _ (iF d)) hm W
  rw[<-K]at this;have e2:(!(L.drop (j+1)).isEmpty)=decide (j+1<L.length):=by
   by_cases h:j+1<L.length
   ·rw[jT h,Dj h];rfl
   ·rw[m6 h,J7 (by omega)];rfl
  rw[e2]at this;rw[s5,gJ d,nG];exact this
 have M:∀j (hj:j<L.length) W,eK 129 #[.string (L.getD j fy)] W (tz (.bool (ez (L.getD j fy))) W):=by
  intro j d W;rw[s5,gJ d,nG];refine uR L[j] W ?_;have h1:=Bw (L:=L) j;rw[hj,Dj d]at h1;have h2:L[j].size<=(i6 (L[j]::L.drop (j+1))).size:=by
   cases hr:L.drop (j+1) with
   |nil=>rw[nX];exact io _
   |cons y t=>
    have:=rp List.length (j6 L[j] (r:=y::t) (by simp))
    rw[jM,gK,ly,ly,ly]at this;omega
  omega
 have H2:∀j (hj:j<L.length),j<k->ez (L.getD j fy)=true:=fun j hj h=>by
  rw[s5,gJ hj,nG];exact I j hj h
 have N:k<5->ez (L.getD k fy)=false:=fun h=>by
  rcases J with rfl|⟨hk,o⟩
  ·omega
  ·rw[s5,gJ hk,nG];exact o
 have B:=fun W=>px W;unfold hP et at B;simp only[k8]at B;have T:hP []=.agg (ii fy fy fy fy fy):=rfl;rw[T];have O:Hid _:=hcut;have P:Hid _:=M;have U:Hid _:=H2;have V:Hid _:=N;have X:Hid _:=hj;clear hcut M H2 N I J NF hne hg CO H hj;go_enter func69,ntmps69;go_wp2;have Y:Hid (fq ((w.alloc (.cells (ii fy fy fy fy fy) 147)).alloc (.cells (ii fy fy fy fy fy) 147)) w.heap.size []):=Bb w;have Z:Hid (fq ((w.alloc (.cells (ii fy fy fy fy fy) 147)).alloc (.cells (ii fy fy fy fy fy) 147)) (w.heap.size+1) []):=Bc w
 go_loopw [5,6,7] (fun r m i wr=>∃j:Nat,j<=k/\i=.int .i64 (j:Int)/\m=.bool true/\r=.string (i6 (L.drop j))/\gS w wr/\Hid (fq wr w.heap.size [])/\Hid (fq wr (w.heap.size+1) (L.take j))) (fun _ _ i _=>k-(intOf i).toNat)
 case atStart=>exact⟨0,oY _,rfl,rfl,by rw[xI,X.out],((i7 _ _).alloc (io _) _).alloc (by simp) _,Y.out,Z.out⟩
 case round=>
  obtain⟨j,hj,rfl,rfl,rfl,o,C,D⟩:=hrel;have d:j<L.length:=by omega
  have Q:w.heap.size+1<wr.heap.size:=D.out.1;have aa:w.heap.size<wr.heap.size:=C.out.1;by_cases ab:j<k
  ·have p:j<5:=by omega
   have ac:((j:Int)==5)=false:=by simp;omega
   have ad:(j:Int)<5:=by omega
   have f:=O.out j d;have g:=P.out j d;rw[U.out j d ab]at g;rw[jT (show j+1<L.length by omega)]at f;generalize hx:L.getD j fy=x at f g;have ae:Hid _:=hx;clear hx;go_wp2_with fail;refine g7 (f wr) ?_;rintro e n ⟨rfl,a⟩;have R:w.heap.size+1<n.heap.size:=kv Q a.size;have E:=((D.out.keep a).2 j p);obtain⟨F,af⟩:=E;generalize (L.take j).getD j fy=ag at F;go_wp2_with(go_at_call 129;refine g7 (g _) ?_;rintro e ah ⟨rfl,rfl⟩);go_roundw
   case rel=>
    refine⟨j+1,by omega,by go_num,rfl,rfl,?_,?_,?_⟩
    ·refine oz ?_ (by simp) _
     exact em o a
    ·exact(C.out.keep a).other (by omega)
    ·rw[<-ae.out];exact(D.out.keep a).set p
   case measure=>simp[intOf];omega
  ·have ai:j=k:=by omega
   subst ai;by_cases aj:j=5
   ·subst aj
    go_wp2_with(go_at_call 75;refine(B _).mono ?_;rintro e n ⟨rfl,a⟩;obtain⟨⟨q0,q,u,z,A⟩,b⟩:=(C.out.keep a).five;have ak:=b 0 (by omega);have al:=b 1 (by omega);have am:=b 2 (by omega);have an:=b 3 (by omega);have ao:=b 4 (by omega);have R:w.heap.size<n.heap.size:=kv aa a.size;clear b;simp only[k8]at q0 q u z A);exact jr (v:=.tuple #[.agg (ii fy fy fy fy fy),ed 1]) (by simp[results,results69,go_sem,q0,q,u,z,A]) rfl ⟨rfl,by
     repeat(refine oz ?_ (by simp) _)
     exact em o a⟩
   ·have p:j<5:=by omega
    have ac:((j:Int)==5)=false:=by simp;omega
    have ad:(j:Int)<5:=(by omega);have f:=O.out j d;have g:=P.out j d;rw[V.out p]at g;generalize L.getD j fy=x at f g;generalize decide (j+1<L.length)=more at f;go_wp2_with fail;refine g7 (f wr) ?_;rintro e n ⟨rfl,a⟩;have R:w.heap.size+1<n.heap.size:=kv Q a.size;have E:=((D.out.keep a).2 j p);obtain⟨F,af⟩:=E;generalize (L.take j).getD j fy=ag at F;have S:Hid (fq (n.setCell (eb (w.heap.size+1) j) (.string x)) w.heap.size []):=(C.out.keep a).other (by omega);have ap:gS w (n.setCell (eb (w.heap.size+1) j) (.string x)):=oz (em o a) (by simp) _;go_wp2_with(first
     |(go_at_call 129;refine g7 (g _) ?_;rintro e ah ⟨rfl,rfl⟩)
     |(go_at_call 75;refine(B _).mono ?_;rintro e w3 ⟨rfl,G⟩;obtain⟨⟨q0,q,u,z,A⟩,b⟩:=(S.out.keep G).five;have ak:=b 0 (by omega);have al:=b 1 (by omega);have am:=b 2 (by omega);have an:=b 3 (by omega);have ao:=b 4 (by omega);have av:w.heap.size<w3.heap.size:=(S.out.keep G).1;clear b;simp only[k8]at q0 q u z A))
    exact jr (v:=.tuple #[.agg (ii fy fy fy fy fy),ed 1]) (by simp[results,results69,go_sem,q0,q,u,z,A]) rfl ⟨rfl,by
     repeat(refine oz ?_ (by simp) _)
     exact em ap G⟩
def JQ (a:Nat)(tg:eM)(w:World)(er:Int)(ks:Kids)(v:Value):Prop:=(er≠0/\v=.slice none 0 0)\/(er=0/\∃b,v=.slice (some ⟨b,0,none⟩) ks.length ks.length/\qC w b (ks.map kB) ks.length/\tg b=(0,0)/\a<=b)
section
variable {s i p:Nat}{B:WB}{ei:List Ob}
theorem Ti{tg:eM}{w:World}{g:WG}{lim:Nat}(h:fT tg w s i p B ei g lim t)(hl:lim+1000<1099511627776)(y:Good r.reverse):
  eK 68 #[fj B.wb,.string (i6 r.reverse)] w fun e w'=>∃v,e=.returned (.tuple #[v,ed (kq ei t g.fs r).2.1])/\∃ey,eo (Mine i) tg ey w w'/\fT ey w' s i p B ei { g with fs:=(kq ei t g.fs r).1 } (lim+400) t/\JQ w.heap.size ey w' (kq ei t g.fs r).2.1 (kq ei t g.fs r).2.2 v:=by
 obtain⟨C,c0,_⟩:=h.ws;have I:r.length<=5:=by have:=y.len;simpa using this
 have d:=fun W (a:gS w W)=>n4 (s:=s) (i:=i) (p:=p) (B:=B) (ei:=ei) r tg W g lim (h.inv.below a) (by omega) y;have z:((kq ei t g.fs r).2.2.map kB).length<=16:=by
  have:=(h.inv.eG g.fs r).len
  rw[jb h.inv.st.sound h.flat h.ok g.fs r]at this;exact this
 simp only[jb h.inv.st.sound h.flat h.ok g.fs r]at d;obtain⟨fs',er,ks,hlk⟩:∃fs' er ks,kq ei t g.fs r=(fs',er,ks):=⟨_,_,_,rfl⟩;rw[hlk]at z d ⊢;simp only at z d ⊢;refine(Pf B.wb B.bt r.reverse y (fun v e w'=>e=er/\∃ey,eo (Mine i) tg ey w w'/\fT ey w' s i p B ei { g with fs:=fs' } (lim+400) t/\JQ w.heap.size ey w' er ks v) w C c0 (fun W a=>?_)).mono ?_
 ·have A:∀{w3 w':World} {ey:eM},eo (fo i) tg ey w w3->eH ey w3 s i p B ei { g with fs:=fs' } (lim+r.length+1)->gS w3 w'->eo (Mine i) tg ey w w'/\fT ey w' s i p B ei { g with fs:=fs' } (lim+400) t:=by
   intro w3 w' ey m hW f;exact⟨(m.mono (fun t ht=>fo.mine ht)).trans (eo.ew f),(hW.below f).mono (by omega),h.flat,h.ok,h.fl⟩
  by_cases her:er=0
  ·subst her
   by_cases hne:0<ks.length
   ·have l:=Il B.bt _ _ _ _ _ (ks.map kB) (fun w3=>∃ey,eo (fo i) tg ey w w3/\eH ey w3 s i p B ei { g with fs:=fs' } (lim+r.length+1)) W z (fun n b=>(d n (em a b)).mono ?_)
    ·refine l.mono ?_
     rintro e w' ⟨w3,⟨ey,m,hW⟩,rfl,f,x⟩;rw[kU]at x ⊢;obtain⟨o,hQ⟩:=A m hW f;exact⟨_,_,rfl,rfl,ey,o,hQ,.inr ⟨rfl,_,rfl,x,hW.st.fresh _ (io _),m.size⟩⟩
    ·rintro e w' ⟨v,rfl,ey,m,hW,q⟩
     obtain⟨D,E,rfl,F,_⟩:=q.at_ (k:=0) (by simpa using hne);refine⟨D,E,rfl,⟨ey,(jn (em a b) m),hW⟩,F,fun j u hu=>?_⟩
     have:=hh q.1 j u hu
     rwa [PH]at this
   ·obtain rfl:ks=[]:=xF.1 (by omega)
    have l:=Mi B.bt _ _ _ _ _ (fun w3=>∃ey,eo (fo i) tg ey w w3/\eH ey w3 s i p B ei { g with fs:=fs' } (lim+r.length+1)) W (fun n b=>(d n (em a b)).mono ?_)
    ·refine l.mono ?_
     rintro e w' ⟨w3,⟨ey,m,hW⟩,rfl,f,x⟩;obtain⟨o,hQ⟩:=A m hW f;exact⟨_,_,rfl,rfl,ey,o,hQ,.inr ⟨rfl,_,rfl,x,hW.st.fresh _ (io _),m.size⟩⟩
    ·rintro e w' ⟨v,rfl,ey,m,hW,q⟩
     obtain⟨la,c,rfl⟩:=q.len;exact⟨la,c,rfl,ey,(jn (em a b) m),hW⟩
  ·have l:=Mh B.bt _ _ _ _ _ er her (fun w3=>∃ey,eo (fo i) tg ey w w3/\eH ey w3 s i p B ei { g with fs:=fs' } (lim+r.length+1)) W (fun n b=>(d n (em a b)).mono ?_)
   ·refine l.mono ?_
    rintro e w' ⟨⟨ey,m,hW⟩,rfl⟩;obtain⟨o,hQ⟩:=A m hW (i7 _ _);exact⟨_,_,rfl,rfl,ey,o,hQ,.inl ⟨her,rfl⟩⟩
   ·rintro e w' ⟨v,rfl,ey,m,hW,q⟩
    exact⟨v,rfl,ey,(jn (em a b) m),hW⟩
 ·rintro e w' ⟨v,J,G,rfl,H⟩
  exact⟨v,G,H⟩
end
def iT (S:eu):Prop:=∀W,Calls prog 69 #[.string S] W fun e w'=>e=.returned (.tuple #[.agg #[.string ⟨#[]⟩,.string ⟨#[]⟩,.string ⟨#[]⟩,.string ⟨#[]⟩,.string ⟨#[]⟩],.int .i64 1])/\Below W.heap.size W w'
theorem Mo(wb:Nat)(S:eu)(w:World)(hp:iT S):eK 31 #[fj wb,.string S] w (ml (ed 1) w):=by
 unfold iT at hp;go_enter func31,ntmps31;go_wp2_with(go_at_call 69;refine g7 (hp _) ?_;rintro e b ⟨rfl,a⟩);go_ret
 first|exact⟨rfl,a⟩|exact⟨rfl,a.alloc a.size _⟩
theorem Iw(wb:Nat)(S:eu)(w:World)(hp:iT S):eK 32 #[fj wb,.string S] w (ml (ed 1) w):=by
 unfold iT at hp;go_enter func32,ntmps32;go_wp2_with(go_at_call 69;refine g7 (hp _) ?_;rintro e b ⟨rfl,a⟩);go_ret
 first|exact⟨rfl,a⟩|exact⟨rfl,a.alloc a.size _⟩
theorem Pp(wb:Nat)(S:eu)(w:World)(hp:iT S):eK 68 #[fj wb,.string S] w (ml (.tuple #[.slice none 0 0,ed 1]) w):=by
 unfold iT at hp;go_enter func68,ntmps68;go_wp2_with(go_at_call 69;refine g7 (hp _) ?_;rintro e b ⟨rfl,a⟩);go_ret2
 first|exact⟨rfl,a⟩|exact⟨rfl,a.alloc a.size _⟩
theorem Fh(wb:Nat)(S T:eu)(w:World)(hp:iT S):eK 33 #[fj wb,.string S,.string T] w (ml (ed 1) w):=by
 unfold iT at hp;go_enter func33,ntmps33;go_wp2_with(go_at_call 69;refine g7 (hp _) ?_;rintro e b ⟨rfl,a⟩);go_ret
 first|exact⟨rfl,a⟩|exact⟨rfl,a.alloc a.size _⟩
theorem Fi(wb:Nat)(l:eB)(hl:Good l)(T:eu)(w:World)(hp:iT T):eK 33 #[fj wb,.string (i6 l),.string T] w (ml (ed 1) w):=by
 unfold iT at hp;have M2:=fun W=>Lq l hl W
 obtain⟨b,c,d,f,g,h⟩:∃b c d f g,et l=(ii b c d f g):=⟨_,_,_,_,_,rfl⟩;unfold hP at M2;simp only[h]at M2;clear h hl;generalize i6 l=j at M2 ⊢;go_enter func33,ntmps33;go_wp2_with fail;refine g7 (M2 _) ?_;rintro e k ⟨rfl,a⟩;go_wp2_with fail;refine g7 (hp _) ?_;rintro e m ⟨rfl,i⟩;go_wp2;go_ret;exact⟨rfl,MV (em (a.alloc a.size _) i) (pD (pD a.size (by simp)) i.size) _⟩
theorem Pq(wb:Nat)(S:eu)(w:World)(hp:iT S):eK 67 #[fj wb,.string S] w (ml (.tuple #[.agg #[ed 0,ed 0],ed 1]) w):=by
 unfold iT at hp;have f:gS w (w.alloc (.cells #[ed 0,ed 0] 141)):=(i7 _ _).alloc (io _) _;have g:gw (w.alloc (.cells #[ed 0,ed 0] 141)) w.heap.size:=pM _ _;have j:Hid _:=f;have k:Hid _:=g;clear f g;go_enter func67,ntmps67;go_wp2_with fail;refine g7 (hp _) ?_;rintro e a ⟨rfl,h⟩;have b:gw a w.heap.size:=(h.block w.heap.size (by simp)).trans k.out;obtain⟨p,q,r,f2⟩:=b.cells;have i:gS w a:=j.out.trans (h.mono (by simp));have c:((a.setCell (eb w.heap.size 0) (ed 0)).setCell (eb w.heap.size 1) (ed 0)).heap[w.heap.size]?=some (.cells #[ed 0,ed 0] 141 (0,0)):=by
  unfold gw at b;simp[World.setCell,xE,b]
 have d:∀o,(((a.setCell (eb w.heap.size 0) (ed 0)).setCell (eb w.heap.size 1) (ed 0)).alloc o).heap[w.heap.size]?=some (.cells #[ed 0,ed 0] 141 (0,0)):=fun o=>(jU _ _ _ (lF.1 c).1).trans c;have l:∀o,(((a.setCell (eb w.heap.size 0) (ed 0)).setCell (eb w.heap.size 1) (ed 0)).alloc o).cell? (eb w.heap.size 0)=some (ed 0):=fun o=>by simp[World.cell?,d o]
 have m:∀o,(((a.setCell (eb w.heap.size 0) (ed 0)).setCell (eb w.heap.size 1) (ed 0)).alloc o).cell? (eb w.heap.size 1)=some (ed 0):=fun o=>by simp[World.cell?,d o]
 have n:∀o,gS w (((a.setCell (eb w.heap.size 0) (ed 0)).setCell (eb w.heap.size 1) (ed 0)).alloc o):=fun o=>((i.setCell (io _) _).setCell (io _) _).alloc (by simpa using i.size) _;clear b c d;go_wp2;exact jr (v:=.tuple #[.agg #[ed 0,ed 0],ed 1]) (by simp[results,results67,go_sem,l,m]) rfl ⟨rfl,n _⟩
theorem Fj(xs:eB):∀k,k<=xs.length->w7 (jB xs k)=IH ((xs.take k).map w7)
 |0,_=>rfl
 |k+1,h=>by
  have a:=Fj xs k (by omega)
  have hg:xs.getD k fy=xs[k]:=by rw[s5,gJ (by omega)];rfl
  rw[sZ (by omega),k7,WF,r7]
  simp only[jB]
  rw[hg,l8]
  split
  ·next h0=>
   rw[sg _ _ (by intro e;have:=rp List.length e;rw[kU,Hc,td]at this;omega),l8,a]
   simp[w7]
  ·next h0=>
   have:k=0:=by omega
   subst this
   simp[jB,w7,IH]
theorem H5(xs:eB):w7 (ek xs)=IH (xs.map w7):=by
 unfold ek;rw[Fj xs xs.length (io _),uO]
theorem wP:∀(a:List UInt8) (c:UInt8),lx (a++[c])=if c=47 then lx a++[[]] else(lx a).dropLast++[(lx a).getLastD []++[c]]
 |[],c=>by
  simp only[w8,lx]
  split<;>rfl
 |d::r,c=>by
  have b:=wP r c
  have hne:=jZ r
  simp only[rM,lx]
  rw[b]
  cases hs:lx r with
  |nil=>exact absurd hs hne
  |cons y t=>
   by_cases hd:d=47
   ·simp only[fY hd]
    by_cases hc:c=47
    ·simp[hc]
    ·simp[hc]
   ·simp only[eJ hd]
    by_cases hc:c=47
    ·simp[hc]
    ·simp only[eJ hc]
     cases t with
     |nil=>simp
     |cons z u=>simp
theorem Pr{i:Nat}(h:i<s.size):cutAt s i=decide (s[i]=47):=by unfold cutAt;rw[dif_pos h]
theorem Mp:cutAt s s.size=true:=by unfold cutAt;rw[dif_neg (by omega)]
theorem kS(s:eu)(a b:Nat):w7 (s.extract a b)=((w7 s).take b).drop a:=by
 unfold w7;rw[J8];simp[List.drop_take]
theorem Pt(s:eu):∀i,i<=s.size->lx ((w7 s).take i)=(I0 s i).1.map w7++[((w7 s).take i).drop (I0 s i).2]
 |0,_=>rfl
 |i+1,h=>by
  have b:=Pt s i (by omega)
  have hf:=A4 s i
  have hi:i<(w7 s).length:=by rw[ly];omega
  obtain⟨c,a⟩:∃c,c=(w7 s)[i]:=⟨_,rfl⟩
  have hcut:cutAt s i=decide (c=47):=by rw[Pr (by omega:i<s.size),a];rfl
  rw[sZ hi,<-a,wP,b]
  simp only[I0,hcut]
  by_cases hc:c=47
  ·simp only[hc,Gr,decide_true,k7,WF,r7,kS]
   congr 1
   rw[J7]
   simp only[jM,Hc,gK,td]
   omega
  ·simp only[hc,Ko,decide_false,Bool.false_eq_true,oy]
   congr 1
   have:((I0 s i).1.map w7++[((w7 s).take i).drop (I0 s i).2]).getLastD []=((w7 s).take i).drop (I0 s i).2:=by simp
   rw[this,List.drop_append_of_le_length (by rw[Hc];omega)]
theorem Fk(s:eu):(I0 s (s.size+1)).1.map w7=lx (w7 s):=by
 have h:=Pt s s.size (io _);have ht:(w7 s).take s.size=w7 s:=by rw[<-ly];exact uO
 rw[ht]at h;rw[h];simp only[I0];rw[Mp,fY rfl];simp only[k7,WF,r7,kS,ht]
theorem Ix(s:eu):ek (I0 s (s.size+1)).1=s:=by
 apply yi;rw[H5,Fk,qb]
theorem sU(h:ez x=true):∀c∈w7 x,c≠47:=by
 unfold ez at h;simp only[uM,rL]at h;intro c hc e;subst e;obtain⟨j,hj,a⟩:=mH hc;exact Ci hj a h.2
theorem qE:∀{a b:eB},a.map w7=b.map w7->a=b
 |[],[],_=>rfl
 |[],_::_,h=>by cases h
 |_::_,[],h=>by cases h
 |x::r,y::t,h=>by
  simp only[WF,pS]at h
  rw[yi h.1,qE h.2]
theorem qF(hv:∀x∈l,ez x=true):(ek l).size=0↔l=[]:=by
 constructor
 ·intro h
  cases l with
  |nil=>rfl
  |cons x r=>
   have h1:=(p2 (hv x (ir ..))).1;have h2:(w7 (ek (x::r))).length=0:=by rw[ly];exact h
   rw[H5,WF]at h2;cases r with
   |nil=>simp only[r7,IH,ly]at h2;omega
   |cons y t=>simp only[WF,IH,jM,gK]at h2;omega
 ·intro h;subst h;rfl
theorem Mq(hl:l≠[])(hv:∀x∈l,ez x=true):(I0 (ek l) ((ek l).size+1)).1=l:=by
 apply qE;rw[Fk,H5];refine mQ _ (by simpa using hl) (fun x hx=>?_);obtain⟨y,a,rfl⟩:=H3.1 hx;exact sU (hv y a)
theorem o8(hv:∀x∈l,ez x=true):fX (ek l)=(l,decide (l.length<=5)):=by
 unfold fX;by_cases h:l=[]
 ·subst h;rfl
 ·rw[eJ (fun e=>h ((qF hv).1 e)),Mq h hv,fY hv]
theorem zj(h:(fX p).2=true):ek (fX p).1=p:=by
 unfold fX at h ⊢;split at h
 ·next h0=>
  rw[fY h0];apply yi
  have:(w7 p).length=0:=by rw[ly];exact h0
  rw[zN this];rfl
 ·next h0=>
  rw[eJ h0];split at h
  ·next h1=>rw[fY h1];exact Ix p
  ·cases h
theorem l4(c:∀x∈a,ez x=true)(d:∀x∈b,ez x=true)(h:ek a=ek b):a=b:=by
 have h1:=o8 c;rw[h,o8 d]at h1;exact(Prod.mk.inj h1).1.symm
theorem Bx:∀(a b:List UInt8),lx (a++47::b)=lx a++lx b
 |[],b=>by simp[lx]
 |c::r,b=>by
  have d:=Bx r b
  simp only[rM,lx]
  rw[d]
  cases hs:lx r with
  |nil=>exact absurd hs (jZ r)
  |cons y t=>split<;>simp
theorem rD:∀(a b:List (List UInt8)),a≠[]->b≠[]->IH (a++b)=IH a++47::IH b
 |[],b,h,_=>absurd rfl h
 |[x],b,_,c=>by rw[M8,l7 x c];rfl
 |x::y::r,b,_,c=>by
  have d:=rD (y::r) b (by simp) c
  rw[rM,l7 x (by simp),d,l7 x (by simp)]
  simp
theorem Fl(hl:l≠[])(hv:eA l):IH (l.map w7)≠[]:=by
 intro e;rw[<-H5]at e;have h1:(ek l).size=0:=by rw[<-ly,e];rfl
 exact hl ((qF hv).1 h1)
theorem Fm(p t:eu):np p t=true↔∃r,r≠[]/\w7 p=w7 t++47::r:=by
 unfold np;constructor
 ·intro h
  split at h
  ·next hl=>
   simp only[uM,rL]at h;obtain⟨h1,h2⟩:=h;have h3:w7 (p.extract 0 t.size)=w7 t:=by rw[<-y0,<-y0];exact eq_of_beq h1
   rw[kS,xI]at h3;have b:t.size<(w7 p).length:=by rw[ly];omega
   refine⟨(w7 p).drop (t.size+1),?_,?_⟩
   ·intro e
    have:=rp List.length e
    rw[jl,ly,td]at this;omega
   ·have a:=Dm t.size (w7 p)
    rw[h3,Dj b]at a;have e2:(w7 p)[t.size]=47:=h2;rw[e2]at a;exact a.symm
  ·cases h
 ·rintro⟨r,hr,h⟩
  have c:p.size=t.size+1+r.length:=by
   have:=rp List.length h
   rw[ly,jM,gK,ly]at this;omega
  have d:0<r.length:=Dn.2 hr;rw[dif_pos (by omega)];simp only[uM,rL];constructor
  ·have:w7 (p.extract 0 t.size)=w7 t:=by
    rw[kS,xI,h,J6 (by rw[ly];exact io _),<-ly,uO]
   rw[y0,y0,this];exact Ni _
  ·have hg:(w7 p)[t.size]'(by rw[ly];omega)=47:=by
    simp only[h];rw[Qp (by rw[ly];exact io _)];simp[ly]
   exact hg
theorem jk(hl:eA l)(hm:eA m)(hne:m≠[]):np (ek l) (ek m)=true↔∃r,r≠[]/\l=m++r:=by
 rw[Fm,H5,H5];constructor
 ·rintro⟨r,hr,h⟩
  have hle:l≠[]:=by
   rintro rfl
   have:=rp List.length h
   simp[IH]at this
  have h1:=rp lx h;rw[Bx,mQ _ (by simpa using hle) (fun x hx=>by obtain⟨y,a,rfl⟩:=H3.1 hx;exact sU (hl y a)),mQ _ (by simpa using hne) (fun x hx=>by obtain⟨y,a,rfl⟩:=H3.1 hx;exact sU (hm y a))]at h1;have h2:(l.take m.length).map w7=m.map w7:=by
   rw[Ke,h1,J6 (by simp)];exact jH (by simp)
  refine⟨l.drop m.length,?_,?_⟩
  ·intro e
   have h3:=rp List.length h1;have b:=rp List.length e;have c:0<(lx r).length:=Dn.2 (jZ r);rw[jM,kU,kU]at h3;rw[jl,td]at b;omega
  ·rw[<-qE h2,Hc]
   have h3:=rp List.length h1;rw[jM,kU,kU]at h3;rw[show min m.length l.length=m.length by omega];exact(Dm _ _).symm
 ·rintro⟨r,hr,rfl⟩
  refine⟨IH (r.map w7),Fl hr hl.right,?_⟩;rw[k7,rD _ _ (by simpa using hne) (by simpa using hr)]
theorem lS(hl:eA l):(fX (ek l)).1=l:=by rw[o8 hl]
theorem Fr(hl:eA l)(hd:eA d):lA (ek l) (ek d)=true↔∃x,l=d++[x]:=by
 unfold lA;rw[lS hl,uM,rL];constructor
 ·rintro⟨h0,h1⟩
  have h2:ek (l.take (l.length-1))=ek d:=by
   apply yi;rw[<-y0,<-y0];exact eq_of_beq h1
  have h3:=l4 (hl.take _) hd h2;refine⟨l[l.length-1],?_⟩;rw[<-h3]
  have:=sZ (l:=l) (i:=l.length-1) (by omega)
  rw[show l.length-1+1=l.length by omega,uO]at this;exact this
 ·rintro⟨x,rfl⟩
  refine⟨by simp,?_⟩
  have:(d++[x]).take ((d++[x]).length-1)=d:=by simp
  rw[this];exact Ni _
theorem o9(h:eA (d++[x])):mm (ek (d++[x]))=x:=by
 unfold mm;rw[lS h];simp
def ki (nodes:List eD):Prop:=∀e∈nodes,∃l,l≠[]/\eA l/\l.length<=5/\e.1=ek l
def kC (nodes:List eD):Prop:=(nodes.map (·.1)).Nodup
def eO (nodes:List eD)(l:eB):Option (Int×Int):=if l=[]then some (2,0) else(nodes.find? (fun e=>decide (e.1=ek l))).map (·.2)
theorem vF(nodes:List eD)(p:eu):(je nodes p).bind (fun i=>(nodes[i]?).map (·.2))=(nodes.find? (fun e=>decide (e.1=p))).map (·.2):=by
 unfold je;have e:(fun e:eD=>decide (e.1.toList=p.toList))=fun e=>decide (e.1=p):=by
  funext x
  by_cases h:x.1=p
  ·rw[h];simp
  ·rw[m6 h,m6 (fun e=>h (yi (by rw[<-y0,<-y0];exact e)))]
 rw[e]
 induction nodes with
 |nil=>rfl
 |cons x r a=>
  rw[Gj,Gl];cases hx:decide (x.1=p) with
  |true=>simp
  |false=>
   rw[<-a];cases hr:r.findIdx? (fun e=>decide (e.1=p)) with
   |none=>simp
   |some i=>simp
theorem Mr(hl:eA l):kh nodes (ek l)=((eO nodes l).map (·.1)).getD 0:=by
 unfold kh eO;by_cases h:l=[]
 ·subst h
  rw[fY (by rw[y0];rfl),fY rfl];rfl
 ·have h1:¬(ek l).toList=[]:=by rw[y0,H5];exact Fl h hl
  rw[eJ h1,eJ h,<-vF];cases je nodes (ek l) with
  |none=>rfl
  |some i=>cases hx:nodes[i]?<;>simp[hx]
theorem jG{d:Type}(p q:d->Bool)(c:Bool):∀(xs:List d),(∀a∈xs,q a=true->p a=c)->(xs.filter p).find? q=if c=true then xs.find? q else none
 |[],_=>by cases c<;>rfl
 |x::r,h=>by
  have b:=jG p q c r (fun a e=>h a (mI _ e))
  cases hq:q x with
  |true=>
   have hp:=h x (ir ..) hq
   cases c with
   |true=>rw[List.filter_cons_of_pos hp,Dk hq];simp[Dk hq]
   |false=>rw[List.filter_cons_of_neg (by rw[hp];decide),b];rfl
  |false=>
   rw[Dl (by rw[hq];decide)]
   cases hp:p x with
   |true=>rw[List.filter_cons_of_pos hp,Dl (by rw[hq];decide),b]
   |false=>rw[List.filter_cons_of_neg (by rw[hp];decide),b]
theorem Fo(c:eA a)(d:eA b):((ek a).toList==(ek b).toList)=decide (a=b):=by
 by_cases h:a=b
 ·subst h;simp
 ·rw[m6 h]
  refine BP.2 fun e=>h (l4 c d (yi ?_));rw[<-y0,<-y0];exact e
theorem lB:(m=l\/∃r,r≠[]/\m=l++r)↔l <+: m:=by
 constructor
 ·rintro(rfl|⟨r,_,rfl⟩)
  ·exact List.prefix_rfl
  ·exact kV _ _
 ·rintro⟨r,rfl⟩
  cases r with
  |nil=>exact .inl (by simp)
  |cons x t=>exact .inr ⟨x::t,by simp,rfl⟩
theorem gI(b:eA a)(hl:eA l)(hne:l≠[]):(((ek a).toList==(ek l).toList)=true\/np (ek a) (ek l)=true)↔l <+: a:=by
 rw[Fo b hl,rL,jk b hl hne];exact lB
theorem iJ(h:m≠[]):eO nodes m=(nodes.find? (fun e=>decide (e.1=ek m))).map (·.2):=by unfold eO;rw[eJ h]
theorem oo(hl:eA l)(hne:l≠[])(hm:eA m):eO (mi nodes (ek l)) m=if l <+: m then none else eO nodes m:=by
 by_cases h0:m=[]
 ·subst h0
  rw[eJ (fun h=>hne (List.prefix_nil.1 h))];rfl
 ·rw[iJ h0,iJ h0]
  unfold mi;by_cases hp:l <+: m
  ·rw[jG _ _ false _ (fun a _ b=>?_),fY hp];rfl
   rw[s8 b];rcases(gI hm hl hne).2 hp with e|e
   ·rw[e];rfl
   ·rw[e];simp
  ·rw[jG _ _ true _ (fun a _ b=>?_),eJ hp];rfl
   rw[s8 b];have h1:((ek m).toList==(ek l).toList)=false:=by
    cases e:((ek m).toList==(ek l).toList) with
    |true=>exact absurd ((gI hm hl hne).1 (.inl e)) hp
    |false=>rfl
   have h2:np (ek m) (ek l)=false:=by
    cases e:np (ek m) (ek l) with
    |true=>exact absurd ((gI hm hl hne).1 (.inr e)) hp
    |false=>rfl
   rw[h1,h2];rfl
theorem vG{k f:Int}(hl:eA l)(hne:l≠[])(hm:eA m)(hn:eO nodes l=none):eO (nodes++[(ek l,k,f)]) m=if m=l then some (k,f)else eO nodes m:=by
 by_cases h0:m=[]
 ·subst h0
  rw[eJ (fun h=>hne h.symm)];rfl
 ·rw[iJ h0,iJ h0,List.find?_append]
  by_cases h:m=l
  ·subst h
   rw[iJ h0]at hn;rw[fY rfl]
   have:nodes.find? (fun e=>decide (e.1=ek m))=none:=by simpa using hn
   rw[this];simp
  ·rw[eJ h]
   have:decide (ek l=ek m)=false:=m6 fun e=>h (l4 hm hl e.symm)
   simp[this]
theorem zk{f r:eB}(hf:eA (f++r))(hne:f≠[])(t:eB)(ht:t≠[]):ek t++(ek (f++r)).extract (ek f).size (ek (f++r)).size=ek (t++r):=by
 apply yi;rw[l8,kS,H5 (t++r),H5 t];have a:(ek (f++r)).size=(w7 (ek (f++r))).length:=(ly _).symm;rw[a,uO,<-ly,H5,H5];by_cases hr:r=[]
 ·subst hr;simp
 ·rw[k7,k7,rD _ _ (by simpa using hne) (by simpa using hr),rD _ _ (by simpa using ht) (by simpa using hr)]
  congr 1
  rw[nv]
theorem mZ{f t a:eB}{k n:Int}(hf:eA f)(hfn:f≠[])(ht:t≠[])(b:eA a):j2 (ek f) (ek t) (ek a,k,n)=if f <+: a then(ek (t++a.drop f.length),k,n) else(ek a,k,n):=by
 unfold j2;by_cases h:f <+: a
 ·rw[fY h,fY ((gI b hf hfn).2 h)]
  obtain⟨r,rfl⟩:=h;rw[zk b hfn t ht,nv]
 ·rw[eJ h,eJ (fun e=>h ((gI b hf hfn).1 e))]
theorem ng{b:Type}(g:b->b)(q c:b->Bool):∀(xs:List b),(∀a∈xs,q (g a)=c a)->(xs.map g).find? q=(xs.find? c).map g
 |[],_=>rfl
 |x::r,h=>by
  have d:=ng g q c r (fun a e=>h a (mI _ e))
  have hx:=h x (ir ..)
  rw[WF,Gl,Gl,hx,d]
  cases c x<;>rfl
theorem kT(h:e∈mi nodes p):e∈nodes:=(xK.1 h).1
theorem ki.gone(h:ki nodes)(p:eu):ki (mi nodes p):=fun e a=>h e (kT a)
theorem wQ{f t m:eB}(hp:ki nodes)(hf:eA f)(hfn:f≠[])(ht:eA t)(Pc:t≠[])(i:¬f <+: t)(j:¬t <+: f)(hm:eA m):
  eO ((mi nodes (ek t)).map (j2 (ek f) (ek t))) m=if t <+: m then eO nodes (f++m.drop t.length)else if f <+: m then none else eO nodes m:=by
 have comp:∀r,¬t <+: f++r:=fun r h=>by
  rcases List.prefix_or_prefix_of_prefix h (kV f r)with e|e
  ·exact j e
  ·exact i e
 by_cases h0:m=[]
 ·subst h0
  rw[eJ (fun h=>Pc (List.prefix_nil.1 h)),eJ (fun h=>hfn (List.prefix_nil.1 h))];rfl
 ·rw[iJ h0]
  have key:∀e∈mi nodes (ek t),∃a,eA a/\e.1=ek a/\¬t <+: a:=fun e d=>by
   obtain⟨a,_,b,_,c⟩:=hp e (kT d);refine⟨a,b,c,fun h=>?_⟩
   have:=(xK.1 d).2
   rw[c]at this;rcases(gI b ht Pc).2 h with g|g
   ·rw[g]at this;cases this
   ·rw[g]at this;simp at this
  by_cases Ue:t <+: m
  ·obtain⟨r,rfl⟩:=Ue
   rw[fY (kV _ _),nv];have hv:eA (f++r):=hf.append hm.right;have hne:f++r≠[]:=by simp[hfn]
   rw[ng _ _ (fun e=>decide (e.1=ek (f++r))) _ (fun e d=>?_)]
   ·have h1:=oo (nodes:=nodes) ht Pc hv
    rw[eJ (comp r),iJ hne]at h1;rw[<-h1,Nn]
    congr 1
    funext e
    show(j2 (ek f) (ek t) e).2=e.2;unfold j2;split<;>rfl
   ·obtain⟨a,b,c,Sv⟩:=key e d
    obtain⟨p,k,n⟩:=e;simp only at c;subst c;rw[mZ hf hfn Pc b];by_cases mE:f <+: a
    ·obtain⟨s,rfl⟩:=mE
     rw[fY (kV _ _),nv];have hs:eA s:=b.right;by_cases KE:s=r
     ·subst KE;simp
     ·rw[m6 (fun e=>KE (BO (l4 (ht.append hs) hm e))),m6 (fun e=>KE (BO (l4 b hv e)))]
    ·rw[eJ mE,m6 (fun e=>Sv (by rw[l4 b hm e];exact kV _ _)),m6 (fun e=>mE (by rw[l4 b hv e];exact kV _ _))]
  ·rw[eJ Ue]
   by_cases TA:f <+: m
   ·rw[fY TA,ng _ _ (fun _=>false) _ (fun e d=>?_)]
    ·have:(mi nodes (ek t)).find? (fun _=>false)=none:=by simp
     rw[this];rfl
    ·obtain⟨a,b,c,Sv⟩:=key e d
     obtain⟨p,k,n⟩:=e;simp only at c;subst c;rw[mZ hf hfn Pc b];by_cases mE:f <+: a
     ·obtain⟨s,rfl⟩:=mE
      rw[fY (kV _ _),nv];exact m6 (fun e=>Ue (by rw[<-l4 (ht.append b.right) hm e];exact kV _ _))
     ·rw[eJ mE]
      exact m6 (fun e=>mE (by rw[l4 b hm e];exact TA))
   ·rw[eJ TA,ng _ _ (fun e=>decide (e.1=ek m)) _ (fun e d=>?_)]
    ·have h1:=oo (nodes:=nodes) ht Pc hm
     rw[eJ Ue,iJ h0]at h1;rw[<-h1,Nn]
     congr 1
     funext e
     show(j2 (ek f) (ek t) e).2=e.2;unfold j2;split<;>rfl
    ·obtain⟨a,b,c,Sv⟩:=key e d
     obtain⟨p,k,n⟩:=e;simp only at c;subst c;rw[mZ hf hfn Pc b];by_cases mE:f <+: a
     ·obtain⟨s,rfl⟩:=mE
      rw[fY (kV _ _),nv,m6 (fun e=>Ue (by rw[<-l4 (ht.append b.right) hm e];exact kV _ _)),m6 (fun e=>TA (by rw[<-l4 b hm e];exact kV _ _))]
     ·rw[eJ mE]
theorem H1{a:Type}[DecidableEq a]:∀{xs ys:List a},xs.Nodup->(∀x∈xs,x∈ys)->xs.length<=ys.length
 |[],_,_,_=>oY _
 |x::r,ys,hn,hs=>by
  have hx:x∈ys:=hs x (ir ..)
  have h1:∀z∈r,z∈ys.erase x:=fun z b=>by
   have hne:z≠x:=fun e=>(Nk.1 hn).1 (e▸b)
   exact(List.mem_erase_of_ne hne).2 (hs z (mI _ b))
  have h2:=H1 (Nk.1 hn).2 h1
  have h3:=List.length_erase_of_mem hx
  have c:0<ys.length:=List.length_pos_of_mem hx
  simp only[gK]
  omega
theorem lC{a b:Type}(f:a->b){l:List a}(h:(l.map f).Nodup):l.Nodup:=(zR.1 h).imp (fun hab e=>hab (rp f e))
theorem uI{c d:Type}{f:c->d}{l:List c}(h:∀a∈l,∀b∈l,f a=f b->a=b)(hn:l.Nodup):(l.map f).Nodup:=zR.2 (List.Pairwise.imp_of_mem (fun {a b} g i hab e=>hab (h a g b i e)) hn)
theorem rE(hp:ki nodes)(hd:eA d):e∈eE nodes (ek d)↔∃x,ez x=true/\(∃n∈nodes,n.1=ek (d++[x]))/\e=(x,0,0):=by
 unfold eE;rw[H3];constructor
 ·rintro⟨n,hn,rfl⟩
  obtain⟨f,g⟩:=xK.1 hn;obtain⟨a,_,b,_,c⟩:=hp n f;rw[c]at g;obtain⟨x,rfl⟩:=(Fr b hd).1 g;exact⟨x,b x (by simp),⟨n,f,c⟩,by rw[c,o9 b]⟩
 ·rintro⟨x,hx,⟨n,hn,hne⟩,rfl⟩
  have hv:eA (d++[x]):=hd.append (fun y h=>by rw[kH.1 h];exact hx);exact⟨n,xK.2 ⟨hn,by rw[hne];exact(Fr hv hd).2 ⟨x,rfl⟩⟩,by rw[hne,o9 hv]⟩
theorem lT(hne:l≠[]):eO nodes l≠none↔∃n∈nodes,n.1=ek l:=by
 rw[iJ hne];constructor
 ·intro h
  cases hf:nodes.find? (fun e=>decide (e.1=ek l)) with
  |none=>rw[hf]at h;exact absurd rfl h
  |some n=>exact⟨n,BN hf,s8 (Kh (p:=fun e:eD=>decide (e.1=ek l)) hf)⟩
 ·rintro⟨n,hn,a⟩ h
  have:nodes.find? (fun e=>decide (e.1=ek l))=none:=by simpa using h
  have h2:=Nf.1 this n hn;simp[a]at h2
theorem rF(hp:ki nodes)(hd:eA d):x∈rc nodes (ek d)↔ez x=true/\eO nodes (d++[x])≠none:=by
 unfold rc;rw[H3,lT (by simp)];constructor
 ·rintro⟨e,a,rfl⟩
  obtain⟨y,b,hn,rfl⟩:=(rE hp hd).1 (oC a);exact⟨b,hn⟩
 ·rintro⟨hx,hn⟩
  exact⟨(x,0,0),(X2 _).mem_iff.2 ((rE hp hd).2 ⟨x,hx,hn,rfl⟩),rfl⟩
theorem qG(hp:ki nodes)(ho:kC nodes)(hd:eA d):((eE nodes (ek d)).map (·.1)).Nodup:=by
 unfold eE;rw[BZ];unfold kC at ho;have nw:nodes.Nodup:=lC _ ho;have s:(nodes.filter (fun e=>lA e.1 (ek d))).Nodup:=nw.filter _;have t:∀a∈nodes,∀b∈nodes,a.1=b.1->a=b:=by
  intro a c b g e
  induction nodes with
  |nil=>cases c
  |cons x r u=>
   rw[WF,Nk]at ho;rcases Hd.1 c with rfl|j<;>rcases Hd.1 g with rfl|k
   ·rfl
   ·exact absurd (H3.2 ⟨b,k,e.symm⟩) ho.1
   ·exact absurd (H3.2 ⟨a,j,e⟩) ho.1
   ·exact u (fun z v=>hp z (mI _ v)) ho.2 (lC _ ho.2) ((lC _ ho.2).filter _) j k
 have key:∀a∈nodes.filter (fun e=>lA e.1 (ek d)),∀b∈nodes.filter (fun e=>lA e.1 (ek d)),mm a.1=mm b.1->a=b:=by
  intro a c b g e;obtain⟨l,m⟩:=xK.1 c;obtain⟨n,o⟩:=xK.1 g;obtain⟨la,_,p,_,h⟩:=hp a l;obtain⟨w,_,q,_,i⟩:=hp b n;rw[h]at m;rw[i]at o;obtain⟨x,rfl⟩:=(Fr p hd).1 m;obtain⟨y,rfl⟩:=(Fr q hd).1 o;rw[h,i,o9 p,o9 q]at e;subst e;exact t a l b n (by rw[h,i])
 exact uI (f:=fun e:eD=>mm e.1) (fun a c b g e=>key a c b g e) s
theorem CP(hp:ki nodes)(ho:kC nodes)(hd:eA d):yr (wl (eE nodes (ek d))):=rR (qG hp ho hd)
theorem Fp(hp:ki nodes)(ho:kC nodes)(hd:eA d):(rc nodes (ek d)).Nodup:=by
 unfold rc;exact((X2 _).map _).nodup_iff.2 (qG hp ho hd)
structure eP (nodes:List eD)(data:eB):Prop where
 gp:ki nodes
 one:kC nodes
 few:∀d,eA d->(eE nodes (ek d)).length<=16
 kinds:∀e∈nodes,e.2.1=1\/e.2.1=2
 files:∀e∈nodes,e.2.1=1->0<=e.2.2/\e.2.2<(data.length:Int)
 up:∀l x,eA (l++[x])->eO nodes (l++[x])≠none->∃f,eO nodes l=some (2,f)
theorem Iy(hv:eA l)(a:l.length<=5):(ek l).size<=65:=by
 have:=qj l (fun x hx=>(p2 (hv x hx)).2) l.length
 unfold ek;omega
theorem eP.small(h:eP nodes data):∀e∈nodes,e.1.size<=65:=fun e a=>by
 obtain⟨l,_,hv,b,c⟩:=h.gp e a
 rw[c];exact Iy hv b
theorem Iz{d:eu}(h:∀e∈nodes,lA e.1 d=false):eE nodes d=[]:=by
 unfold eE;rw[List.filter_eq_nil_iff.2 (fun e a=>by rw[h e a];decide)];rfl
theorem eP.fine(h:eP nodes data)(b:nodes.length<=1000000000):jN nodes data:=by
 refine⟨b,fun e a=>pD (h.small e a) (by decide),fun d=>?_,h.files⟩;by_cases hx:∃e∈nodes,lA e.1 d=true
 ·obtain⟨e,a,hi⟩:=hx
  obtain⟨l,hl0,hv,_,c⟩:=h.gp e a;unfold lA at hi;rw[c,lS hv,uM]at hi;have hd:d=ek (l.take (l.length-1)):=by
   apply yi;rw[<-y0,<-y0];exact(eq_of_beq hi.2).symm
  rw[hd];exact h.few _ (hv.take _)
 ·rw[Iz (fun e a=>by cases hc:lA e.1 d with|true=>exact absurd ⟨e,a,hc⟩ hx|false=>rfl)]
  exact oY _
theorem gT(h:eP nodes data)(hl:eA l):(kh nodes (ek l)=0↔eO nodes l=none)/\(kh nodes (ek l)=2↔∃f,eO nodes l=some (2,f))/\(kh nodes (ek l)=1↔∃f,eO nodes l=some (1,f)):=by
 rw[Mr hl];cases hk:eO nodes l with
 |none=>simp
 |some v=>
  obtain⟨k,f⟩:=v;have mC:k=1\/k=2:=by
   by_cases h0:l=[]
   ·subst h0
    have:eO nodes []=some (2,0):=rfl
    rw[this]at hk;cases hk;exact .inr rfl
   ·rw[iJ h0]at hk
    cases hf:nodes.find? (fun e=>decide (e.1=ek l)) with
    |none=>rw[hf]at hk;cases hk
    |some e=>
     rw[hf]at hk
     have:=h.kinds e (BN hf)
     have h2:e.2=(k,f):=wZ hk;rw[h2]at this;exact this
  rcases mC with rfl|rfl<;>simp
theorem IA{d:eu}:(eE (nodes++[e]) d).length=(eE nodes d).length+if lA e.1 d=true then 1 else 0:=by
 unfold eE;rw[Ng,k7,jM];cases h:lA e.1 d<;>simp[h]
theorem eP.push(h:eP nodes data)(hv:eA (l++[x]))(o:(l++[x]).length<=5)(p:∃f,eO nodes l=some (2,f))(hn:eO nodes (l++[x])=none)(NE:(eE nodes (ek l)).length<16){g f:Int}{i:eB}(q:g=1\/g=2)(w:data.length<=i.length)(hfn:g=1->0<=f/\f<(i.length:Int)):eP (nodes++[(ek (l++[x]),g,f)]) i:=by
 have hne:l++[x]≠[]:=by simp
 have look:=fun {m:eB} (hm:eA m)=>vG (k:=g) (f:=f) hv hne hm hn;refine⟨fun e c=>?_,?_,fun d hd=>?_,fun e c=>?_,fun e c hk=>?_,fun m y hm hs=>?_⟩
 ·rcases pR.1 c with c|c
  ·exact h.gp e c
  ·rw[kH.1 c];exact⟨l++[x],hne,hv,o,rfl⟩
 ·unfold kC
  rw[k7,List.nodup_append];refine⟨h.one,by simp,fun a r b j e=>?_⟩;simp only[WF,r7,kH]at j;obtain⟨n,s,t⟩:=H3.1 r;exact(lT hne).2 ⟨n,s,by rw[t,e,j]⟩ hn
 ·rw[IA]
  split
  ·next hi=>
   obtain⟨y,u⟩:=(Fr hv hd).1 hi
   have:l=d:=(List.append_inj' u rfl).1
   subst this;omega
  ·have:=h.few d hd;omega
 ·rcases pR.1 c with c|c
  ·exact h.kinds e c
  ·rw[kH.1 c];exact q
 ·rcases pR.1 c with c|c
  ·have:=h.files e c hk;omega
  ·rw[kH.1 c]at hk ⊢;exact hfn hk
 ·rw[look hm]at hs
  have v:eA m:=hm.left;rw[look v];by_cases e:m++[y]=l++[x]
  ·have:m=l:=(List.append_inj' e rfl).1
   subst this;rw[eJ (fun e2=>by have:=rp List.length e2;simp at this)];exact p
  ·rw[eJ e]at hs
   obtain⟨f,hf⟩:=h.up m y hm hs;rw[eJ (fun e2=>by rw[e2,hn]at hf;cases hf)];exact⟨f,hf⟩
theorem eP.Uf(h:eP nodes data)(hv:eA (l++[x]))(a:(l++[x]).length<=5)(b:∃f,eO nodes l=some (2,f))(hn:eO nodes (l++[x])=none)(NE:(eE nodes (ek l)).length<16):eP (nodes++[(ek (l++[x]),2,0)]) data:=h.push hv a b hn NE (.inr rfl) (io _) (fun e=>by cases e)
theorem Ap(nodes:List eD)(p d:eu):(eE (mi nodes p) d).length<=(eE nodes d).length:=by
 unfold eE mi;rw[kU,kU,List.filter_filter]
 have:(nodes.filter (fun a=>lA a.1 d&&(!(a.1.toList==p.toList)&&!(np a.1 p)))).length<=(nodes.filter (fun e=>lA e.1 d)).length:=by
  rw[<-List.filter_filter];have h:=List.Sublist.filter (fun e:eD=>lA e.1 d) (List.filter_sublist (p:=fun a:eD=>!(a.1.toList==p.toList)&&!(np a.1 p)) (l:=nodes));exact h.length_le
 exact this
theorem eP.gone(h:eP nodes data)(hl:eA l)(hne:l≠[]):eP (mi nodes (ek l)) data:=by
 refine⟨h.gp.gone _,?_,fun d hd=>pD (Ap _ _ _) (h.few d hd),fun e a=>h.kinds e (kT a),fun e a hk=>h.files e (kT a) hk,fun m y hm hs=>?_⟩
 ·exact h.one.sublist ((List.filter_sublist (l:=nodes)).map _)
 ·rw[oo hl hne hm]at hs
  have hp:¬l <+: m++[y]:=fun hp=>by rw[fY hp]at hs;exact hs rfl
  rw[eJ hp]at hs;obtain⟨f,hf⟩:=h.up m y hm hs;rw[oo hl hne hm.left,eJ (fun b=>hp (b.trans (kV _ _)))];exact⟨f,hf⟩
theorem Bz(f t:eu)(e:eD):(j2 f t e).2=e.2:=by unfold j2;split<;>rfl
theorem Pu{t:eB}(hp:ki nodes)(ht:eA t)(Pc:t≠[]):∀e∈mi nodes (ek t),∃a,a≠[]/\eA a/\a.length<=5/\e.1=ek a/\¬t <+: a:=fun e c=>by
 obtain⟨a,g,d,i,f⟩:=hp e (kT c)
 refine⟨a,g,d,i,f,fun h=>?_⟩
 have:=(xK.1 c).2
 rw[f]at this
 rcases(gI d ht Pc).2 h with b|b
 ·rw[b]at this;cases this
 ·rw[b]at this;simp at this
theorem vH{f t a:eB}(hf:eA f)(hfn:f≠[])(ht:t≠[])(c:eA a)(b:e.1=ek a):(j2 (ek f) (ek t) e).1=ek (if f <+: a then t++a.drop f.length else a):=by
 obtain⟨p,k,n⟩:=e;simp only at b;subst b;rw[mZ hf hfn ht c];split<;>rfl
theorem zl(h:eA a)(k:Nat):eA (a.drop k):=fun x hx=>h x (Gf hx)
theorem eP.rename{data:(List ByteArray)}(h:eP nodes data){F P:(List ByteArray)}{y:ByteArray}(hF:eA F)(o:F≠[])(i:eA (P++[y]))(N:∀e∈nodes,∀a,eA a->e.1=ek a->F <+: a->(P++[y]).length+(a.length-F.length)<=5)(TC:¬F <+: P++[y])(O:¬P++[y] <+: F)
  (Q:∃g,eO nodes P=some (2,g))(R:eO nodes (P++[y])≠none\/(eE nodes (ek P)).length<16\/∃z,F=P++[z]/\eO nodes F≠none):
  eP ((mi nodes (ek (P++[y]))).map (j2 (ek F) (ek (P++[y])))) data:=by
 have j:P++[y]≠[]:=by simp
 have key:=Pu h.gp i j;have look:=fun {m:(List ByteArray)} (hm:eA m)=>wQ h.gp hF o i j TC O hm;have gp:ki ((mi nodes (ek (P++[y]))).map (j2 (ek F) (ek (P++[y])))):=by
  intro ae S;obtain⟨e,c,rfl⟩:=H3.1 S;obtain⟨a,T,f,U,A,Sv⟩:=key e c;rw[vH hF o j f A];by_cases mE:F <+: a
  ·rw[fY mE]
   refine⟨_,by simp,i.append (zl f _),?_,rfl⟩
   have:=N e (kT c) a f A mE
   rw[jM,jl];exact this
  ·rw[eJ mE]
   exact⟨a,T,f,U,rfl⟩
 have one:kC ((mi nodes (ek (P++[y]))).map (j2 (ek F) (ek (P++[y])))):=by
  unfold kC;rw[BZ];have hg:((mi nodes (ek (P++[y]))).map (·.1)).Nodup:=(h.gone i j).one;refine uI (fun B h1 e2 h2 c=>?_) (lC _ hg);obtain⟨a1,_,C,_,D,t1⟩:=key B h1;obtain⟨a2,_,E,_,G,t2⟩:=key e2 h2;simp only[Function.comp]at c;rw[vH hF o j C D,vH hF o j E G]at c;have H:∀{a:(List ByteArray)},eA a->eA (if F <+: a then(P++[y])++a.drop F.length else a):=fun {a} f=>by
   split
   ·exact i.append (zl f _)
   ·exact f
  have hq:=l4 (H C) (H E) c;have V:a1=a2:=by
   by_cases f1:F <+: a1<;>by_cases f2:F <+: a2
   ·rw[fY f1,fY f2]at hq
    obtain⟨af,rfl⟩:=f1;obtain⟨ag,rfl⟩:=f2;rw[nv,nv]at hq;rw[BO hq]
   ·rw[fY f1,eJ f2]at hq
    exact absurd ⟨_,hq⟩ t2
   ·rw[eJ f1,fY f2]at hq
    exact absurd ⟨_,hq.symm⟩ t1
   ·rw[eJ f1,eJ f2]at hq
    exact hq
  have W:B.1=e2.1:=by rw[D,G,V]
  have:∀{l:List eD},(l.map (·.1)).Nodup->∀{a b:eD},a∈l->b∈l->a.1=b.1->a=b:=by
   intro l hl a b f X e
   induction l with
   |nil=>cases f
   |cons x r Y=>
    rw[WF,Nk]at hl;rcases Hd.1 f with rfl|I<;>rcases Hd.1 X with rfl|J
    ·rfl
    ·exact absurd (H3.2 ⟨b,J,e.symm⟩) hl.1
    ·exact absurd (H3.2 ⟨a,I,e⟩) hl.1
    ·exact Y hl.2 I J
  exact this hg h1 h2 W
 have k:∀{d:(List ByteArray)} {x:ByteArray},eA d->ez x=true->eO nodes (d++[x])≠none->x∈rc nodes (ek d):=fun hd hx hl=>(rF h.gp hd).2 ⟨hx,hl⟩;refine⟨gp,one,fun d hd=>?_,fun e c=>?_,fun e c hk=>?_,fun m x hm hs=>?_⟩
 ·rw[<-lK]
  have nw:=Fp gp one hd;have q:∀x∈rc ((mi nodes (ek (P++[y]))).map (j2 (ek F) (ek (P++[y])))) (ek d),ez x=true/\eA (d++[x])/\(if P++[y] <+: d++[x]then eO nodes (F++(d++[x]).drop (P++[y]).length)else if F <+: d++[x]then none else eO nodes (d++[x]))≠none:=fun x hx=>by
   obtain⟨h1,h2⟩:=(rF gp hd).1 hx;have hv:eA (d++[x]):=hd.append (fun z n=>by rw[kH.1 n];exact h1);rw[look hv]at h2;exact⟨h1,hv,h2⟩
  have p:∀{d},eA d->(rc nodes (ek d)).length<=16:=fun hd=>by rw[lK];exact h.few _ hd
  by_cases K:P++[y] <+: d
  ·obtain⟨r,rfl⟩:=K
   refine pD (H1 nw (fun x hx=>?_)) (p (hF.append hd.right));obtain⟨h1,hv,h2⟩:=q x hx;rw[fY ((kV _ r).trans (kV _ _)),iK,nv,<-iK]at h2;exact k (hF.append hd.right) h1 h2
  ·by_cases L:d=P
   ·subst L
    have s:∀x∈rc ((mi nodes (ek (d++[y]))).map (j2 (ek F) (ek (d++[y])))) (ek d),x=y\/(x∈rc nodes (ek d)/\¬F <+: d++[x]):=fun x hx=>by
     obtain⟨h1,hv,h2⟩:=q x hx;by_cases e:d++[y] <+: d++[x]
     ·obtain⟨r,hr⟩:=e
      have:r=[]:=by
       have:=rp List.length hr
       simp at this;exact this
      subst this;rw[nH]at hr
      have:=BO hr
      exact .inl (List.cons.inj this).1.symm
     ·rw[eJ e]at h2
      by_cases e2:F <+: d++[x]
      ·rw[fY e2]at h2;exact absurd rfl h2
      ·rw[eJ e2]at h2
       exact .inr ⟨k hd h1 h2,e2⟩
    have Z:ez y=true:=i y (by simp);rcases R with hc|hc|⟨z,n,aa⟩
    ·exact pD (H1 nw (fun x hx=>(s x hx).elim (fun e=>by rw[e];exact k hd Z hc) (·.1))) (p hd)
    ·have hle:=H1 nw (ys:=y::rc nodes (ek d)) (fun x hx=>(s x hx).elim (fun e=>by rw[e];exact ir ..) (fun e=>mI _ e.1))
     rw[gK,lK nodes]at hle;omega
    ·have ab:ez z=true:=hF z (by rw[n];simp)
     have ac:z∈rc nodes (ek d):=k hd ab (by rw[<-n];exact aa);have hle:=H1 nw (ys:=y::(rc nodes (ek d)).filter (fun u=>decide (u≠z))) (fun x hx=>(s x hx).elim (fun e=>by rw[e];exact ir ..) (fun e=>mI _ (xK.2 ⟨e.1,jT (fun ad=>e.2 (by rw[ad,n];exact List.prefix_rfl))⟩)));have ah:((rc nodes (ek d)).filter (fun u=>decide (u≠z))).length<(rc nodes (ek d)).length:=List.length_filter_lt_length_iff_exists.2 ⟨z,ac,by simp⟩;rw[gK]at hle
     have:=p hd
     omega
   ·refine pD (H1 nw (fun x hx=>?_)) (p hd)
    obtain⟨h1,hv,h2⟩:=q x hx;have D1:¬P++[y] <+: d++[x]:=fun e=>by
     rcases List.prefix_concat_iff.1 (by simpa using e)with e|e
     ·exact L (List.append_inj' e rfl).1.symm
     ·exact K e
    rw[eJ D1]at h2;by_cases e2:F <+: d++[x]
    ·rw[fY e2]at h2;exact absurd rfl h2
    ·rw[eJ e2]at h2
     exact k hd h1 h2
 ·obtain⟨t,v,rfl⟩:=H3.1 c
  rw[Bz];exact h.kinds t (kT v)
 ·obtain⟨t,v,rfl⟩:=H3.1 c
  rw[Bz]at hk ⊢;exact h.files t (kT v) hk
 ·rw[look hm]at hs
  rw[look hm.left];by_cases w:P++[y] <+: m
  ·obtain⟨r,rfl⟩:=w
   rw[fY ((kV _ r).trans (kV _ _)),iK,nv,<-iK]at hs;rw[fY (kV _ _),nv];have hv:eA (F++r++[x]):=(hF.append hm.left.right).append hm.right;exact h.up (F++r) x hv hs
  ·rw[eJ w]
   by_cases M:P++[y] <+: m++[x]
   ·rcases List.prefix_concat_iff.1 (by simpa using M)with e|e
    ·have:P=m:=(List.append_inj' e rfl).1
     subst this;rw[eJ (fun e=>TC (e.trans (kV _ _)))];exact Q
    ·exact absurd e w
   ·rw[eJ M]at hs
    by_cases e2:F <+: m++[x]
    ·rw[fY e2]at hs;exact absurd rfl hs
    ·rw[eJ e2]at hs
     rw[eJ (fun e=>e2 (e.trans (kV _ _)))];exact h.up m x hm hs
theorem Pv(h:tk nodes l=0):∀k,k<l.length->kh nodes (ek (l.take k))=2/\kh nodes (ek (l.take (k+1)))≠0:=by
 intro k hk;have a:∀j,j<l.length->J0 nodes l j=none:=by
  intro j hj;cases hw:(List.range l.length).findSome? (J0 nodes l) with
  |none=>exact List.findSome?_eq_none_iff.1 hw j (Dp.2 hj)
  |some e=>
   exfalso;unfold tk at h;rw[hw]at h;obtain⟨i,_,hi⟩:=List.exists_of_findSome?_eq_some hw;unfold J0 at hi;split at hi
   ·cases hi;cases h
   ·split at hi
    ·cases hi;cases h
    ·cases hi
 have:=a k hk
 unfold J0 at this;split at this
 ·cases this
 ·next h1=>
  split at this
  ·cases this
  ·next h2=>exact⟨by simpa using h1,h2⟩
theorem Fq(hs:eP nodes data)(hl:eA l)(hne:l≠[])(h:tk nodes l=0):eO nodes l≠none:=by
 have hp:0<l.length:=Dn.2 hne
 have:=(Pv h (l.length-1) (by omega)).2
 rw[show l.length-1+1=l.length by omega,uO]at this;exact fun e=>this ((gT hs hl).1.2 e)
theorem JR(hs:eP nodes data)(hl:eA (l++[x]))(h:pP nodes (l++[x])=0):∃f,eO nodes l=some (2,f):=by
 unfold pP at h;have e:(l++[x]).take ((l++[x]).length-1)=l:=by simp
 rw[e]at h;split at h
 ·next h1=>exact absurd h h1
 ·split at h
  ·cases h
  ·next h2=>exact(gT hs hl.left).2.1.1 (by simpa using h2)
theorem rG(a:(fX p).2=true)(h0:(fX p).1.length≠0):∃l x,(fX p).1=l++[x]/\p=ek (l++[x])/\eA (l++[x])/\(l++[x]).length<=5:=by
 have hv:eA (fX p).1:=wh p;have b:=EQ a;have hj:=zj a;obtain⟨l,x,e⟩:∃l x,(fX p).1=l++[x]:=by
  have hne:(fX p).1≠[]:=fun e=>h0 (by rw[e];rfl);exact⟨(fX p).1.dropLast,(fX p).1.getLast hne,(List.dropLast_concat_getLast hne).symm⟩
 rw[e]at hv b hj;exact⟨l,x,e,hj.symm,hv,b⟩
theorem Fu(hs:eP nodes data)(p:eu):
  ((m4 nodes p).2≠0/\(m4 nodes p).1=nodes)\/((m4 nodes p).2=0/\∃l x,p=ek (l++[x])/\eA (l++[x])/\(l++[x]).length<=5/\eO nodes (l++[x])=none/\eP (m4 nodes p).1 data/\∀m,eA m->eO (m4 nodes p).1 m=if m=l++[x]then some (2,0)else eO nodes m):=by
 unfold m4;split
 ·exact .inl ⟨by simp,rfl⟩
 ·next h1=>
  have b:(fX p).2=true:=by simpa using h1
  split
  ·exact .inl ⟨by simp,rfl⟩
  ·next h2=>
   obtain⟨l,x,e,hp,hv,a⟩:=rG b h2;have c:(l++[x]).take ((l++[x]).length-1)=l:=by simp
   rw[e,c];split
   ·next h3=>exact .inl ⟨h3,rfl⟩
   ·next h3=>
    split
    ·exact .inl ⟨by simp,rfl⟩
    ·next d=>
     split
     ·exact .inl ⟨by simp,rfl⟩
     ·next g=>
      have f:=JR hs hv (by simpa using h3);have hn:eO nodes (l++[x])=none:=(gT hs hv).1.1 (by rw[<-hp];simpa using d);rw[hp];refine .inr ⟨rfl,l,x,rfl,hv,a,hn,hs.Uf hv a f hn (by omega),fun m hm=>vG hv (by simp) hm hn⟩
theorem CQ(hs:eP nodes data)(p:eu):
  ((li nodes p).2≠0/\(li nodes p).1=nodes)\/((li nodes p).2=0/\∃l x,p=ek (l++[x])/\eA (l++[x])/\(l++[x]).length<=5/\eO nodes (l++[x])≠none/\eE nodes p=[]/\eP (li nodes p).1 data/\∀m,eA m->eO (li nodes p).1 m=if l++[x] <+: m then none else eO nodes m):=by
 unfold li;split
 ·exact .inl ⟨by simp,rfl⟩
 ·next h1=>
  have a:(fX p).2=true:=by simpa using h1
  split
  ·exact .inl ⟨by simp,rfl⟩
  ·next h2=>
   obtain⟨l,x,e,hp,hv,b⟩:=rG a h2;rw[e];split
   ·next h3=>exact .inl ⟨h3,rfl⟩
   ·next h3=>
    split
    ·exact .inl ⟨by simp,rfl⟩
    ·next c=>
     have hl:=Fq hs hv (by simp) (by simpa using h3);refine .inr ⟨rfl,l,x,hp,hv,b,hl,zN (by omega),?_,fun m hm=>?_⟩
     ·rw[hp];exact hs.gone hv (by simp)
     ·rw[hp];exact oo hv (by simp) hm
theorem wR(hs:eP nodes data):∀(r:eB),r≠[]->eA (T++r)->eO nodes (T++r)≠none->(∃f,eO nodes T=some (2,f))/\eE nodes (ek T)≠[]
 |[],h,_,_=>absurd rfl h
 |[x],_,hv,hl=>by
  refine⟨hs.up T x hv hl,fun e=>?_⟩
  have hm:=(rF hs.gp hv.left).2 ⟨hv x (by simp),hl⟩
  unfold rc at hm
  rw[e]at hm
  cases hm
 |x::y::r,_,hv,hl=>by
  have h1:∃f,eO nodes (T++(x::y::r).dropLast)=some (2,f):=by
   have e:T++x::y::r=(T++(x::y::r).dropLast)++[(x::y::r).getLast (by simp)]:=by rw[iK,List.dropLast_concat_getLast]
   rw[e]at hv hl;exact hs.up _ _ hv hl
  have a:eA (T++(x::y::r).dropLast):=fun z b=>hv z (by
   rcases pR.1 b with h|h
   ·exact List.mem_append_left _ h
   ·exact Qv _ ((List.dropLast_prefix _).subset h))
  obtain⟨f,hf⟩:=h1;exact wR hs ((x::y::r).dropLast) (by simp) a (by rw[hf];simp)
 termination_by r=>r.length
 decreasing_by simp
theorem RG{f:eB}{n m:Nat}(hf:eA f)(hfn:f≠[])(hn:n=f.length)(h:nodes.any (vx (ek f) n m)=false):∀e∈nodes,∀a,eA a->e.1=ek a->f <+: a->a≠f->m+(a.length-f.length)<=5:=by
 intro e g a c d mE hne;have h1:=List.any_eq_false.1 h e g;have hu:np e.1 (ek f)=true:=by
  rw[d];rcases lB.2 mE with b|b
  ·exact absurd b hne
  ·exact(jk c hf hfn).2 b
 unfold vx at h1;rw[hu,d,lS c]at h1;simp only[Bool.true_and,rL]at h1;have hle:f.length<=a.length:=mE.length_le;omega
theorem CR(hs:eP nodes data)(f t:eu):
  ((lv nodes f t).1=nodes/\((lv nodes f t).2≠0\/f=t))\/((lv nodes f t).2=0/\∃F P y,f=ek F/\t=ek (P++[y])/\F≠[]/\eA F/\F.length<=5/\eA (P++[y])/\(P++[y]).length<=5/\eO nodes F≠none/\¬F <+: P++[y]/\¬P++[y] <+: F/\eP (lv nodes f t).1 data/\
   ∀m,eA m->eO (lv nodes f t).1 m=if P++[y] <+: m then eO nodes (F++m.drop (P++[y]).length)else if F <+: m then none else eO nodes m):=by
 obtain⟨R,b⟩:∃R,R=lv nodes f t:=⟨_,rfl⟩;rw[<-b];unfold lv at b;by_cases h1:(fX f).2=false\/(fX t).2=false
 ·rw[fY h1]at b
  rw[b];exact .inl ⟨rfl,.inl (by simp)⟩
 rw[eJ h1]at b;have E:(fX f).2=true:=by cases h:(fX f).2 with|true=>rfl|false=>exact absurd (.inl h) h1
 have G:(fX t).2=true:=by cases h:(fX t).2 with|true=>rfl|false=>exact absurd (.inr h) h1
 by_cases h2:(fX f).1.length=0\/(fX t).1.length=0
 ·rw[fY h2]at b
  rw[b];exact .inl ⟨rfl,.inl (by simp)⟩
 rw[eJ h2]at b;obtain⟨l,x,H,g,c,v⟩:=rG E (fun e=>h2 (.inl e));obtain⟨P,y,e2,i,d,w⟩:=rG G (fun e=>h2 (.inr e));have I:(P++[y]).take ((P++[y]).length-1)=P:=by simp
 rw[H,e2,I]at b;obtain⟨F,hF⟩:∃F,F=l++[x]:=⟨_,rfl⟩;rw[<-hF]at g c v b;have j:F≠[]:=by rw[hF];simp
 by_cases h3:tk nodes F≠0
 ·rw[fY h3]at b
  rw[b];exact .inl ⟨rfl,.inl h3⟩
 rw[eJ h3]at b;have k:=Fq hs c j (by simpa using h3);by_cases o:np t f=true
 ·rw[fY o]at b
  rw[b];exact .inl ⟨rfl,.inl (by simp)⟩
 rw[eJ o]at b;by_cases n:pP nodes (P++[y])≠0
 ·rw[fY n]at b
  rw[b];exact .inl ⟨rfl,.inl n⟩
 rw[eJ n]at b;have J:=JR hs d (by simpa using n);by_cases h6:(f.toList==t.toList)=true
 ·rw[fY h6]at b
  rw[b];refine .inl ⟨rfl,.inr (yi ?_)⟩;rw[<-y0,<-y0];exact eq_of_beq h6
 rw[eJ h6]at b;have hne:F≠P++[y]:=fun e=>h6 (by rw[g,i,e];exact Ni _)
 have TC:¬F <+: P++[y]:=fun hp=>by
  rcases lB.2 hp with e|e
  ·exact hne e.symm
  ·exact o (by rw[g,i];exact(jk d c j).2 e)
 by_cases A:kh nodes t=2/\kh nodes f=1
 ·rw[fY A]at b
  rw[b];exact .inl ⟨rfl,.inl (by simp)⟩
 rw[eJ A]at b;by_cases h8:kh nodes t=1/\kh nodes f=2
 ·rw[fY h8]at b
  rw[b];exact .inl ⟨rfl,.inl (by simp)⟩
 rw[eJ h8]at b;by_cases p:kh nodes t=2/\0<(eE nodes t).length
 ·rw[fY p]at b
  rw[b];exact .inl ⟨rfl,.inl (by simp)⟩
 rw[eJ p]at b;by_cases q:kh nodes t=0/\16<=(eE nodes (ek P)).length/\lA f (ek P)=false
 ·rw[fY q]at b
  rw[b];exact .inl ⟨rfl,.inl (by simp)⟩
 rw[eJ q]at b;by_cases s:(nodes.any (vx f F.length (P++[y]).length))=true
 ·rw[fY s]at b
  rw[b];exact .inl ⟨rfl,.inl (by simp)⟩
 rw[eJ s]at b;have u:¬P++[y] <+: F:=fun hp=>by
  rcases lB.2 hp with e|⟨r,hr,e⟩
  ·exact hne e
  ·rw[e]at k c
   obtain⟨hd,hi⟩:=wR hs r hr c k;refine p ⟨by rw[i];exact(gT hs d).2.1.2 hd,?_⟩;rw[i];exact Dn.2 hi
 have K:nodes.any (vx (ek F) F.length (P++[y]).length)=false:=by rw[<-g];simpa using s
 have L:∀e∈nodes,∀a,eA a->e.1=ek a->F <+: a->(P++[y]).length+(a.length-F.length)<=5:=fun e M a N O mE=>by
  by_cases B:a=F
  ·rw[B,Dq];exact w
  ·exact RG c j rfl K e M a N O mE B
 have Q:eO nodes (P++[y])≠none\/(eE nodes (ek P)).length<16\/∃z,F=P++[z]/\eO nodes F≠none:=by
  by_cases C:eO nodes (P++[y])=none
  ·right
   have S:kh nodes t=0:=by rw[i];exact(gT hs d).1.2 C
   by_cases NE:16<=(eE nodes (ek P)).length
   ·right
    have D:lA f (ek P)=true:=by
     cases hc:lA f (ek P) with
     |true=>rfl
     |false=>exact absurd ⟨S,NE,hc⟩ q
    rw[g]at D;obtain⟨z,T⟩:=(Fr c d.left).1 D;exact⟨z,T,k⟩
   ·left;omega
  ·exact .inl C
 rw[b,g,i];exact .inr ⟨rfl,F,P,y,rfl,rfl,j,c,v,d,w,k,TC,u,hs.rename c j d L TC u J Q,fun m hm=>wQ hs.gp c j d (by simp) TC u hm⟩
def CS (data:eB)(x:Int×Int):Nd:=if x.1=2 then .dir else .file ((data[x.2.toNat]?).getD ⟨#[]⟩)
def Reads (a:List Ob)(fc:ul)(t:LT)(nodes:List eD)(data:eB):Prop:=∀q,eA q->xj a fc t q=(eO nodes q).map (CS data)
theorem Fv(hr:eF ks){x:eu×LT}(h:x∈ks):g8 ks x.1=some x.2:=by
 obtain⟨k,hk,rfl⟩:=mH h;exact AQ hr hk
section
variable {a:List Ob}{fc:ul}{t:LT}{nodes:List eD}{data:eB}
theorem Reads.empty(h:Reads a fc t nodes data)(hq:eA q):eO nodes q=none↔xj a fc t q=none:=by
 rw[h q hq,M5]
theorem Reads.Fw(h:Reads a fc t nodes data)(hs:eP nodes data)(hq:eA q):kh nodes (ek q)=0↔xj a fc t q=none:=(gT hs hq).1.trans (h.empty hq)
theorem Reads.pJ(h:Reads a fc t nodes data)(hs:eP nodes data)(hq:eA q):kh nodes (ek q)=2↔xj a fc t q=some .dir:=by
 rw[(gT hs hq).2.1,h q hq];constructor
 ·rintro⟨f,hf⟩
  rw[hf];rfl
 ·intro hx
  cases hl:eO nodes q with
  |none=>rw[hl]at hx;cases hx
  |some x=>
   rw[hl,jS,kE,CS]at hx;split at hx
   ·rename_i h2
    exact⟨x.2,by rw[<-h2]⟩
   ·cases hx
theorem uJ(hs:eP nodes data){x:Int×Int}(h:eO nodes q=some x):x.1=1\/x.1=2:=by
 unfold eO at h;split at h
 ·rw[<-wZ h];exact .inr rfl
 ·obtain⟨e,a,rfl⟩:=M4.1 h
  exact hs.kinds e (BN a)
theorem Reads.JS(h:Reads a fc t nodes data)(hs:eP nodes data)(hq:eA q):kh nodes (ek q)=1↔∃d,xj a fc t q=some (.file d):=by
 rw[(gT hs hq).2.2,h q hq];constructor
 ·rintro⟨f,hf⟩
  rw[hf];exact⟨_,rfl⟩
 ·rintro⟨d,hx⟩
  cases hl:eO nodes q with
  |none=>rw[hl]at hx;cases hx
  |some x=>
   rw[hl,jS,kE,CS]at hx;split at hx
   ·cases hx
   ·rename_i h2
    rcases uJ hs hl with h1|h1
    ·exact⟨x.2,by rw[<-h1]⟩
    ·exact absurd h1 h2
theorem Pw(nodes:List eD)(l:eB)(x:eu):tk nodes (l++[x])=if tk nodes l≠0 then tk nodes l else if kh nodes (ek l)≠2 then 5 else if kh nodes (ek (l++[x]))=0 then 4 else 0:=by
 have a:∀j,j<l.length->J0 nodes (l++[x]) j=J0 nodes l j:=fun j hj=>by
  unfold J0;rw[J6 (by omega),J6 (by omega)]
 have b:J0 nodes (l++[x]) l.length=if kh nodes (ek l)≠2 then some 5 else if kh nodes (ek (l++[x]))=0 then some 4 else none:=by
  unfold J0;rw[xJ rfl,jH (by simp)]
 have c:∀(m:Nat),m<=l.length->(List.range m).findSome? (J0 nodes (l++[x]))=(List.range m).findSome? (J0 nodes l):=by
  intro m hm
  induction m with
  |zero=>rfl
  |succ m d=>rw[List.range_succ,Qw,Qw,d (by omega)];simp only[List.findSome?_cons,List.findSome?_nil,a m (by omega)]
 have hne:∀e,(List.range l.length).findSome? (J0 nodes l)=some e->e≠0:=fun e f=>by
  obtain⟨_,j,_,_,hj,_⟩:=List.findSome?_eq_some_iff.1 f;unfold J0 at hj;split at hj
  ·cases hj;decide
  ·split at hj
   ·cases hj;decide
   ·cases hj
 have g:tk nodes (l++[x])=(((List.range l.length).findSome? (J0 nodes l)).or (J0 nodes (l++[x]) l.length)).getD 0:=by
  unfold tk;rw[jM,List.length_singleton,List.range_succ,Qw,c _ (io _),List.findSome?_cons];cases J0 nodes (l++[x]) l.length<;>rfl
 rw[g,b];unfold tk;cases hf:(List.range l.length).findSome? (J0 nodes l) with
 |some e=>
  have:=hne e hf
  simp[this]
 |none=>
  simp only[Option.none_or,Ql,ne_eq,not_true_eq_false,Ko];split
  ·rfl
  ·split<;>rfl
theorem nh(h:nd a fc c=.dir):∃ks,kids a c=some ks:=by
 cases c<;>first|exact⟨_,rfl⟩|cases h
theorem lD{d:eu}(h:nd a fc c=.file d):kids a c=none:=by
 cases c<;>first|rfl|cases h
theorem lU(h:Reads a fc t nodes data)(hs:eP nodes data):∀r:eB,eA r.reverse->(ju a t r).1=tk nodes r.reverse
 |[],_=>rfl
 |n::r,hv=>by
  rw[nC]at hv
  have i:=lU h hs r hv.left
  have j:ju a t (n::r)=(if(ju a t r).1≠0 then((ju a t r).1,.dir 0)else if(u2 a (ju a t r).2).1≠0 then((u2 a (ju a t r).2).1,.dir 0)else match g8 (u2 a (ju a t r).2).2 n with
   |none=>(4,.dir 0)
   |some c=>(0,c)):=rfl
  rw[nC,Pw,<-i,j]
  by_cases h0:(ju a t r).1≠0
  ·rw[fY h0,fY h0]
  ·rw[eJ h0,eJ h0]
   have f:=o5 (jq.1 h0)
   have g:xj a fc t r.reverse=some (nd a fc (ju a t r).2):=by unfold xj;rw[f];rfl
   cases hk:kids a (ju a t r).2 with
   |none=>
    rw[sR hk,fY (by decide),fY (fun h2=>?_)]
    have:=(h.pJ hs hv.left).1 h2
    rw[g,kE]at this
    obtain⟨ks,e⟩:=nh this
    rw[hk]at e;cases e
   |some ks=>
    have k:kh nodes (ek r.reverse)=2:=(h.pJ hs hv.left).2 (by
     rw[g]
     cases hn:nd a fc (ju a t r).2 with
     |dir=>rfl
     |file d=>rw[lD hn]at hk;cases hk)
    rw[oZ hk,eJ (by simp),eJ (by simp[k])]
    have b:=iH (fc:=fc) f hk n []
    cases hp:g8 ks n with
    |none=>
     rw[hp]at b
     simp only
     rw[fY ((h.Fw hs hv).2 (by simpa using b))]
    |some c=>
     rw[hp]at b
     simp only
     rw[eJ (fun h0=>by
      have:=(h.Fw hs hv).1 h0
      rw[show r.reverse++[n]=r.reverse++n::[]from rfl,b,my,xv]at this
      cases this)]
theorem CT(h:Reads a fc t nodes data)(hs:eP nodes data)(hv:eA r.reverse)(x:eu):(xf a t r).1=pP nodes (r.reverse++[x]):=by
 have hw:=lU h hs r hv;have c:(r.reverse++[x]).take ((r.reverse++[x]).length-1)=r.reverse:=xJ (by simp);unfold pP xf;rw[c,<-hw];simp only;by_cases h0:(ju a t r).1≠0
 ·rw[fY h0,fY h0]
 ·rw[eJ h0,eJ h0]
  have f:=o5 (jq.1 h0);have b:xj a fc t r.reverse=some (nd a fc (ju a t r).2):=by unfold xj;rw[f];rfl
  cases hk:kids a (ju a t r).2 with
  |none=>
   rw[sR hk,fY (fun h2=>?_)]
   have:=(h.pJ hs hv).1 h2
   rw[b,kE]at this;obtain⟨ks,e⟩:=nh this;rw[hk]at e;cases e
  |some ks=>
   rw[oZ hk,eJ (fun h2=>h2 ((h.pJ hs hv).2 (by
    rw[b];cases hn:nd a fc (ju a t r).2 with
    |dir=>rfl
    |file d=>rw[lD hn]at hk;cases hk)))]
theorem rZ:∀{L M:eB},L.Pairwise (fun x y=>WP x y<0)->M.Pairwise (fun x y=>WP x y<0)->(∀x,x∈L↔x∈M)->L=M
 |[],[],_,_,_=>rfl
 |[],y::M,_,_,h=>by have:=(h y).2 (ir ..);cases this
 |x::L,[],_,_,h=>by have:=(h x).1 (ir ..);cases this
 |x::L,y::M,f,g,h=>by
  obtain⟨c,i⟩:=pK.1 f
  obtain⟨d,j⟩:=pK.1 g
  have b:∀z:eu,¬WP z z<0:=fun z a=>by rw[QQ]at a;omega
  have e:x=y:=by
   rcases Hd.1 ((h x).1 (ir ..))with e|hx
   ·exact e
   ·rcases Hd.1 ((h y).2 (ir ..))with e|k
    ·exact e.symm
    ·exact absurd (lZ (d x hx) (c y k)) (b y)
  subst e
  congr 1
  refine rZ i j (fun z=>⟨fun a=>?_,fun a=>?_⟩)
  ·rcases Hd.1 ((h z).1 (mI _ a))with e|hx
   ·rw[e]at a;exact absurd (c x a) (b x)
   ·exact hx
  ·rcases Hd.1 ((h z).2 (mI _ a))with e|hx
   ·rw[e]at a;exact absurd (d x a) (b x)
   ·exact hx
theorem BA(h:Reads a fc t nodes data)(hs:eP nodes data)(hS:Sound a)(j:eL a 5 t){d:LT}(b:t.at a q=some d)(hk:kids a d=some ks):ks.map (·.1)=rc nodes (ek q):=by
 obtain⟨_,k,hq⟩:=mf hS q j b;obtain⟨hr,_,hv⟩:=jp hS k hk;refine rZ (zR.2 (show ks.Pairwise (fun x y=>WP x.1 y.1<0)from hr)) ?_ (fun x=>?_)
 ·exact zR.2 (show(wl (eE nodes (ek q))).Pairwise (fun x y=>WP x.1 y.1<0)from CP hs.gp hs.one hq)
 ·rw[rF hs.gp hq]
  constructor
  ·intro hx
   obtain⟨y,g,rfl⟩:=H3.1 hx;have i:=(hv y g).1;refine⟨i,fun hn=>?_⟩
   have:=(h.empty (hq.append (fun z f=>by rw[kH.1 f];exact i))).1 hn
   rw[show q++[y.1]=q++y.1::[]from rfl,iH b hk,Fv hr g,my,xv]at this;cases this
  ·rintro⟨l,hn⟩
   have h1:xj a fc t (q++[x])≠none:=fun e=>hn ((h.empty (hq.append (fun z f=>by rw[kH.1 f];exact l))).2 e);rw[show q++[x]=q++x::[]from rfl,iH b hk]at h1;cases hp:g8 ks x with
   |none=>rw[hp]at h1;exact absurd rfl h1
   |some c=>exact H3.2 ⟨_,l9 hp,rfl⟩
theorem oq(h:Reads a fc t nodes data)(hs:eP nodes data)(hS:Sound a)(b:eL a 5 t){d:LT}(c:t.at a q=some d)(hk:kids a d=some ks):ks.length=(eE nodes (ek q)).length:=by
 rw[<-lK,<-BA h hs hS b c hk,kU]
theorem IB(b:Exact a):∀(n:Nat) (c:LT),0<=H2 a n c
 |n,.file id=>by cases n<;>exact b.sound.1 id
 |n,.held f=>by cases n<;>exact pT _
 |n,.dir id=>by cases n<;>exact b.sound.1 id
 |0,.own es=>pT _
 |n+1,.own es=>by
  rw[H2]
  exact((tB (fun x:eu×LT=>H2 a n x.2) es 0 _).1 (pT _)).1
theorem RH(b:Exact a):∀(n:Nat) (c:LT),eL a n c->∀m:Nat,H2 a n c<=(m:Int)↔∀x,xj a fc c x≠none->x.length<=m:=by
 intro n
 induction n with
 |zero=>
  intro c hc m;have h0:H2 a 0 c<=(m:Int):=by
   have:=Pe b 0 c hc
   omega
  refine⟨fun _ x hx=>?_,fun _=>h0⟩;cases i:c.at a x with
  |none=>unfold xj at hx;rw[i]at hx;exact absurd rfl hx
  |some d=>
   have:=(mf b.sound x hc i).1
   omega
 |succ n j=>
  intro c hc m;by_cases hk:c.kind=2
  ·obtain⟨ks,f⟩:=og (a:=a) hk
   rw[Pg b f (Im hc),tB (fun x:eu×LT=>H2 a n x.2)];obtain⟨hr,_,hv⟩:=jp b.sound hc f;have k:∀x∈ks,eL a n x.2:=fun x hx=>by
    obtain⟨_,m,e,h⟩:=hv x hx;cases e;exact h
   constructor
   ·rintro⟨_,g⟩ x hx
    cases x with
    |nil=>simp
    |cons y r=>
     rw[sk,f,my]at hx;cases hp:g8 ks y with
     |none=>rw[hp]at hx;exact absurd rfl hx
     |some e=>
      rw[hp,my]at hx;have hm:=l9 hp;have h1:=g _ hm;simp only at h1;have h2:0<=H2 a n e:=(IB b n e)
      have:=(j e (k _ hm) (m-1)).1 (by omega) r hx
      rw[gK];omega
   ·intro g
    refine⟨by omega,fun x hx=>?_⟩;have hp:=Fv hr hx;have h0:xj a fc c [x.1]≠none:=by rw[sk,f,my,hp,my,xv];simp
    have h1:=g _ h0;simp at h1
    have:=(j x.2 (k x hx) (m-1)).2 (fun y l=>by
     have:=g (x.1::y) (by rw[sk,f,my,hp,my];exact l)
     rw[gK]at this;omega)
    omega
  ·rw[Ph b hc hk]
   refine⟨fun _ x hx=>?_,fun _=>by omega⟩;cases x with
   |nil=>simp
   |cons y r=>rw[sk,kg hk]at hx;exact absurd rfl hx
theorem tx(h:Good l):fX (ek l)=(l,true):=by
 rw[o8 h.val,jT h.len]
theorem Tj{p x:eB}(h:xj a fc t p=none)(hp:p <+: x):xj a fc t x=none:=by
 obtain⟨r,rfl⟩:=hp;unfold xj at h ⊢;rw[i1];cases b:t.at a p with
 |none=>rfl
 |some c=>rw[b]at h;cases h
theorem vI(l:eB)(x:eu):(l++[x]).take ((l++[x]).length-1)=l:=xJ (by simp)
theorem Ms(a:Good (l++[x])):m4 nodes (ek (l++[x]))=if pP nodes (l++[x])≠0 then(nodes,pP nodes (l++[x]))else if kh nodes (ek (l++[x]))≠0 then(nodes,6)else if 16<=(eE nodes (ek l)).length then(nodes,11) else(nodes++[(ek (l++[x]),2,0)],0):=by
 unfold m4;rw[tx a];simp only;rw[eJ (by simp),eJ (by simp),vI]
theorem IC(a:Good l)(hl:l≠[]):li nodes (ek l)=if tk nodes l≠0 then(nodes,tk nodes l)else if 0<(eE nodes (ek l)).length then(nodes,8) else(mi nodes (ek l),0):=by
 unfold li;rw[tx a];simp only;rw[eJ (by simp),eJ (by simpa using hl)]
theorem Fx(h:Reads a fc t nodes data)(hs:eP nodes data)(hS:Sound a)(k:eL a 5 t)(m:Good (r.reverse++[n])):
  (y1 a t j1 (n::r)).2.1=(m4 nodes (ek (r.reverse++[n]))).2/\Reads a fc (y1 a t j1 (n::r)).2.2 (m4 nodes (ek (r.reverse++[n]))).1 data/\eP (m4 nodes (ek (r.reverse++[n]))).1 data:=by
 have hv:=m.val;have g:(y1 a t j1 (n::r)).2.1=(m4 nodes (ek (r.reverse++[n]))).2:=by
  unfold y1;rw[Ms m,<-CT h hs hv.left n];simp only[iz];by_cases h0:(xf a t r).1≠0
  ·rw[fY h0,fY h0]
  ·rw[eJ h0,eJ h0]
   obtain⟨d,o,hk⟩:=oh (jq.1 h0);have b:=iH (fc:=fc) o hk n [];rw[<-oq h hs hS k o hk];cases hp:g8 (xf a t r).2 n with
   |some c=>
    rw[hp,my,xv]at b;rw[fY (show(some c:Option LT).isSome=true from rfl),fY (show kh nodes (ek (r.reverse++[n]))≠0 from fun e=>by rw[show r.reverse++[n]=r.reverse++n::[]from rfl]at e;rw[(h.Fw hs hv).1 e]at b;cases b)]
   |none=>
    rw[hp]at b;rw[eJ (show ¬(none:Option LT).isSome=true by simp),eJ (show ¬kh nodes (ek (r.reverse++[n]))≠0 from fun e=>e ((h.Fw hs hv).2 b))];split<;>rfl
 refine⟨g,?_⟩;obtain⟨c1,c2,c3⟩:=Io (fc:=fc) hS k n r (er:=(y1 a t j1 (n::r)).2.1) (t':=(y1 a t j1 (n::r)).2.2) rfl;rcases Fu hs (ek (r.reverse++[n])) with⟨i,j⟩|⟨i,l,x,j,s,w,u,v,p⟩
 ·rw[c2 (by rw[g];exact i),j]
  exact⟨h,hs⟩
 ·have e:l++[x]=r.reverse++[n]:=l4 s hv j.symm
  rw[e]at u p;obtain⟨d1,d2⟩:=c3 (by rw[g];exact i);refine⟨fun q hq=>?_,v⟩;rw[d2 q,p q hq];by_cases f:q=r.reverse++[n]
  ·rw[fY f,fY f];rfl
  ·rw[eJ f,eJ f]
   split
   ·rename_i nA
    have:=Tj d1 nA
    rw[h q hq]at this;exact this.symm
   ·exact h q hq
theorem r4(h:Reads a fc t nodes data)(hs:eP nodes data)(hq:eA q)(hn:xj a fc t q≠some .dir):eE nodes (ek q)=[]:=by
 cases hi:eE nodes (ek q) with
 |nil=>rfl
 |cons y r=>
  exfalso;obtain⟨x,hx,⟨b,c,d⟩,_⟩:=(rE hs.gp hq).1 (show y∈eE nodes (ek q) by rw[hi];exact ir ..);have e:eA (q++[x]):=hq.append (fun z g=>by rw[kH.1 g];exact hx);obtain⟨f,hf⟩:=hs.up _ _ e ((lT (by simp)).2 ⟨b,c,d⟩);apply hn;rw[h q hq,hf];rfl
theorem BB(h:Reads a fc t nodes data)(hs:eP nodes data)(hS:Sound a)(f:eL a 5 t)(d:t.at a q=some c):(nl a j1 c).2=if 0<(eE nodes (ek q)).length then 8 else 0:=by
 have hq:=(mf hS q f d).2.2;unfold nl;simp only[mh];by_cases hk:c.kind=2
 ·obtain⟨ks,b⟩:=og (a:=a) hk
  rw[eJ (show ¬c.kind=1 by rw[hk];decide),oZ b,<-oq h hs hS f d b];simp only[true_and];split<;>rfl
 ·have g:c.kind=1:=by cases c<;>first|rfl|exact absurd rfl hk
  have i:xj a fc t q≠some .dir:=fun e=>by
   unfold xj at e;rw[d,jS,kE]at e;obtain⟨ks,b⟩:=nh e;rw[kg hk]at b;cases b
  rw[fY g,r4 h hs hq i];rfl
theorem BC(h:Reads a fc t nodes data)(hs:eP nodes data)(hS:Sound a)(f:eL a 5 t)(g:Good (r.reverse++[n])):
  (se a t j1 (n::r)).2.1=(li nodes (ek (r.reverse++[n]))).2/\Reads a fc (se a t j1 (n::r)).2.2 (li nodes (ek (r.reverse++[n]))).1 data/\eP (li nodes (ek (r.reverse++[n]))).1 data:=by
 have hv:=g.val;have b:(se a t j1 (n::r)).2.1=(li nodes (ek (r.reverse++[n]))).2:=by
  unfold se;rw[IC g (by simp)];simp only[iy];have hw:=lU h hs (n::r) (by rw[nC];exact hv);rw[nC]at hw;rw[<-hw];by_cases h0:(ju a t (n::r)).1≠0
  ·rw[fY h0,fY h0]
  ·rw[eJ h0,eJ h0]
   have i:=o5 (jq.1 h0);rw[nC]at i;rw[BB h hs hS f i];by_cases hl:0<(eE nodes (ek (r.reverse++[n]))).length
   ·rw[fY hl,fY hl];rfl
   ·rw[eJ hl,eJ hl];rfl
 refine⟨b,?_⟩;obtain⟨c1,c2,c3⟩:=Ff (fc:=fc) hS f n r (er:=(se a t j1 (n::r)).2.1) (t':=(se a t j1 (n::r)).2.2) rfl;rcases CQ hs (ek (r.reverse++[n])) with⟨c,d⟩|⟨c,l,x,d,k,p,m,_,o,j⟩
 ·rw[c2 (by rw[b];exact c),d]
  exact⟨h,hs⟩
 ·have e:l++[x]=r.reverse++[n]:=l4 k hv d.symm
  rw[e]at m j;obtain⟨d1,d2⟩:=c3 (by rw[b];exact c);refine⟨fun q hq=>?_,o⟩;rw[d2 q,j q hq];split
  ·rfl
  ·exact h q hq
theorem Px(h:Reads a fc t nodes data)(hs:eP nodes data)(hq:eA (q++[n])){d:LT}(e:t.at a q=some d)(hk:kids a d=some ks):
  (g8 ks n=none/\kh nodes (ek (q++[n]))=0)\/∃c,g8 ks n=some c/\t.at a (q++[n])=some c/\kh nodes (ek (q++[n]))=c.kind:=by
 have b:=iH (fc:=fc) e hk n [];cases hp:g8 ks n with
 |none=>
  rw[hp]at b;exact .inl ⟨rfl,(h.Fw hs hq).2 b⟩
 |some c=>
  rw[hp,my,xv]at b;refine .inr ⟨c,rfl,?_,?_⟩
  ·rw[i1,e,my,h9,hk,my,hp,my,k0]
  ·cases c with
   |file i=>exact(h.JS hs hq).2 ⟨_,b⟩
   |held f=>exact(h.JS hs hq).2 ⟨_,b⟩
   |dir i=>exact(h.pJ hs hq).2 b
   |own es=>exact(h.pJ hs hq).2 b
theorem Py(h:Reads a fc t nodes data)(hs:eP nodes data)(d:Exact a)(k:eL a 5 t)(f:t.at a F=some c)(g:F≠[]){m:Nat}(hm:m<=5):
  (nodes.any (vx (ek F) F.length m))=true↔5<(m:Int)+H2 a 5 c:=by
 obtain⟨hl,hc,hF⟩:=mf d.sound F k f;have p:H2 a 5 c=H2 a (5-F.length) c:=sQ _ _ c (by omega) hc;have n:=RH (fc:=fc) d (5-F.length) c hc (5-m);rw[<-p]at n;have q:5<(m:Int)+H2 a 5 c↔¬H2 a 5 c<=((5-m:Nat):Int):=by omega
 rw[q,n];constructor
 ·intro s u
  obtain⟨e,b,i⟩:=List.any_eq_true.1 s;unfold vx at i;simp only[uM,rL]at i;obtain⟨hu,hd⟩:=i;obtain⟨l,v,j,B,hle⟩:=hs.gp e b;rw[hle]at hu hd;obtain⟨r,C,rfl⟩:=(jk j hF g).1 hu;rw[lS j,jM]at hd;have hk:eO nodes (F++r)≠none:=(lT v).2 ⟨e,b,hle⟩;have h1:xj a fc c r≠none:=fun w=>hk ((h.empty j).2 (by rw[vk f];exact w))
  have:=u r h1
  omega
 ·intro hn
  have y:∃x,xj a fc c x≠none/\¬x.length<=5-m:=by
   refine Classical.byContradiction fun hc=>hn fun x hx=>?_;exact Classical.byContradiction fun hl=>hc ⟨x,hx,hl⟩
  obtain⟨x,hx,z⟩:=y;have kN:xj a fc t (F++x)≠none:=by rw[vk f];exact hx
  have hv:eA (F++x):=by
   unfold xj at kN;cases o:t.at a (F++x) with
   |none=>rw[o]at kN;exact absurd rfl kN
   |some e=>exact(mf d.sound _ k o).2.2
  have hk:eO nodes (F++x)≠none:=fun e=>kN ((h.empty hv).1 e);obtain⟨e,b,A⟩:=(lT (by simp[g])).1 hk;refine List.any_eq_true.2 ⟨e,b,?_⟩;unfold vx;rw[A,lS hv,jM];simp only[uM,rL];refine⟨(jk hv hF g).2 ⟨x,?_,rfl⟩,by omega⟩;rintro rfl;simp at z
theorem Mt(hF:eA F)(a:eA T)(b:F≠[]):np (ek T) (ek F)=true↔F <+: T/\F≠T:=by
 rw[jk a hF b];constructor
 ·rintro⟨r,hr,rfl⟩
  exact⟨kV _ _,fun e=>hr (by simpa using e.symm)⟩
 ·rintro⟨⟨r,rfl⟩,hn⟩
  exact⟨r,fun e=>hn (by rw[e];simp),rfl⟩
theorem ID{y:eu}(hF:Good F)(a:Good (T++[y]))(b:F≠[]):lv nodes (ek F) (ek (T++[y])) =
  if tk nodes F≠0 then(nodes,tk nodes F)
  else if np (ek (T++[y])) (ek F)=true then(nodes,9)
  else if pP nodes (T++[y])≠0 then(nodes,pP nodes (T++[y]))
  else if((ek F).toList==(ek (T++[y])).toList)=true then(nodes,0)
  else if kh nodes (ek (T++[y]))=2/\kh nodes (ek F)=1 then(nodes,7)
  else if kh nodes (ek (T++[y]))=1/\kh nodes (ek F)=2 then(nodes,5)
  else if kh nodes (ek (T++[y]))=2/\0<(eE nodes (ek (T++[y]))).length then(nodes,8)
  else if kh nodes (ek (T++[y]))=0/\16<=(eE nodes (ek T)).length/\lA (ek F) (ek T)=false then(nodes,11)
  else if(nodes.any (vx (ek F) F.length (T++[y]).length))=true then(nodes,11)
  else((mi nodes (ek (T++[y]))).map (j2 (ek F) (ek (T++[y]))),0):=by
 unfold lv;rw[tx hF,tx a];simp only;rw[eJ (by simp),eJ (by simpa using b),vI]
theorem BD(h:Reads a fc t nodes data)(hs:eP nodes data)(G:Exact a)(j:eL a 5 t){n m:eu}(H:Good (r.reverse++[n]))(v:Good (q.reverse++[m])):
  (ra a t j1 (n::r) (m::q)).2.1=(lv nodes (ek (r.reverse++[n])) (ek (q.reverse++[m]))).2/\Reads a fc (ra a t j1 (n::r) (m::q)).2.2 (lv nodes (ek (r.reverse++[n])) (ek (q.reverse++[m]))).1 data/\eP (lv nodes (ek (r.reverse++[n])) (ek (q.reverse++[m]))).1 data:=by
 have hS:=G.sound;have hv:=H.val;have hw:=v.val;have l:n::r=m::q↔r.reverse++[n]=q.reverse++[m]:=by
  rw[<-nC,<-nC];exact⟨fun e=>by rw[e],fun e=>Na.1 e⟩
 have N:((ek (r.reverse++[n])).toList==(ek (q.reverse++[m])).toList)=decide (n::r=m::q):=by
  rw[Fo hv hw];by_cases e:n::r=m::q
  ·rw[jT e,jT (l.1 e)]
  ·rw[m6 e,m6 (fun h=>e (l.2 h))]
 have w:(ra a t j1 (n::r) (m::q)).2.1=(lv nodes (ek (r.reverse++[n])) (ek (q.reverse++[m]))).2:=by
  unfold ra;rw[ID H v (by simp),N];simp only[iy,iz,nC];have I:=lU h hs (n::r) (by rw[nC];exact hv);rw[nC]at I;rw[<-I,<-CT h hs hw.left m];by_cases h0:(ju a t (n::r)).1≠0
  ·rw[fY h0,fY h0]
  ·rw[eJ h0,eJ h0]
   have A:=Mt hv hw (by simp);by_cases h1:r.reverse++[n] <+: q.reverse++[m]/\n::r≠m::q
   ·rw[fY h1,fY (A.2 ⟨h1.1,fun e=>h1.2 (l.2 e)⟩)]
   ·rw[eJ h1,eJ (fun e=>h1 ⟨(A.1 e).1,fun O=>(A.1 e).2 (l.1 O)⟩)]
    by_cases h2:(xf a t q).1≠0
    ·rw[fY (.inl h2),fY h2]
    ·rw[eJ h2]
     by_cases h3:n::r=m::q
     ·rw[fY (.inr h3),fY (jT h3)]
      exact jq.1 h2
     ·rw[eJ (show ¬((xf a t q).1≠0\/n::r=m::q)from fun e=>e.elim h2 h3),eJ (show ¬decide (n::r=m::q)=true from fun e=>h3 (s8 e))]
      have o:=o5 (jq.1 h0);rw[nC]at o;obtain⟨c,hc⟩:∃c,c=(ju a t (n::r)).2:=⟨_,rfl⟩;rw[<-hc]at o ⊢;obtain⟨d,J,B⟩:=oh (jq.1 h2);obtain⟨ks,Q⟩:∃ks,ks=(xf a t q).2:=⟨_,rfl⟩;rw[<-Q]at B ⊢;have R:kh nodes (ek (r.reverse++[n]))=c.kind:=by
       have g:xj a fc t (r.reverse++[n])=some (nd a fc c):=by unfold xj;rw[o];rfl
       cases c with
       |file i=>exact(h.JS hs hv).2 ⟨_,g⟩
       |held f=>exact(h.JS hs hv).2 ⟨_,g⟩
       |dir i=>exact(h.pJ hs hv).2 g
       |own es=>exact(h.pJ hs hv).2 g
      have C:=Py h hs G j o (by simp) (m:=(q.reverse++[m]).length) v.len;have S:(((q.reverse++[m]).length:Nat):Int)=((q.length+1:Nat):Int):=by simp
      rw[S]at C;have T:lA (ek (r.reverse++[n])) (ek q.reverse)=decide (r=q):=by
       by_cases e:r=q
       ·rw[jT e,(Fr hv hw.left).2 ⟨n,by rw[e]⟩]
       ·rw[m6 e]
        cases U:lA (ek (r.reverse++[n])) (ek q.reverse) with
        |false=>rfl
        |true=>
         obtain⟨x,hx⟩:=(Fr hv hw.left).1 U
         have:=List.append_inj_left' hx (by simp)
         exact absurd (Na.1 this) e
      have V:(gX a j1 (decide (r=q)) ks m c).2=if kh nodes (ek (q.reverse++[m]))=2/\c.kind=1 then 7 else if kh nodes (ek (q.reverse++[m]))=1/\c.kind=2 then 5 else if kh nodes (ek (q.reverse++[m]))=2/\0<(eE nodes (ek (q.reverse++[m]))).length then 8 else if kh nodes (ek (q.reverse++[m]))=0/\16<=ks.length/\decide (r=q)=false then 11 else 0:=by
       unfold gX;rcases Px h hs hw J B with⟨hp,p⟩|⟨e,hp,W,p⟩
       ·rw[hp,p]
        simp only;rw[eJ (show ¬((0:Int)=2/\c.kind=1)from fun x=>absurd x.1 (by decide)),eJ (show ¬((0:Int)=1/\c.kind=2)from fun x=>absurd x.1 (by decide)),eJ (show ¬((0:Int)=2/\0<(eE nodes (ek (q.reverse++[m]))).length)from fun x=>absurd x.1 (by decide))];by_cases hf:16<=ks.length/\decide (r=q)=false
        ·rw[fY hf,fY ⟨trivial,hf⟩]
        ·rw[eJ hf,eJ (fun x=>hf x.2)]
       ·rw[hp,p]
        simp only;unfold T1;by_cases s:e.kind=2/\c.kind=1
        ·rw[fY s,fY s]
        ·rw[eJ s,eJ s]
         by_cases u:e.kind=1/\c.kind=2
         ·rw[fY u,fY u]
         ·rw[eJ u,eJ u,BB h hs hS j W]
          have K:e.kind=1\/e.kind=2:=by cases e<;>first|exact .inl rfl|exact .inr rfl
          have X:¬(e.kind=0/\16<=ks.length/\decide (r=q)=false):=fun x=>by rcases K with k|k<;>(rw[k]at x;exact absurd x.1 (by decide))
          rw[eJ X];by_cases hl:0<(eE nodes (ek (q.reverse++[m]))).length
          ·have k:e.kind=2:=by
            refine K.resolve_left fun k=>?_;have g:xj a fc t (q.reverse++[m])≠some .dir:=fun x=>by
             have:=(h.pJ hs hw).2 x
             rw[p,k]at this;cases this
            rw[r4 h hs hw g]at hl;simp at hl
           rw[fY hl,fY ⟨k,hl⟩]
          ·rw[eJ hl,eJ (fun x=>hl x.2)]
      rw[R,T,<-oq h hs hS j J B,V];by_cases c1:kh nodes (ek (q.reverse++[m]))=2/\c.kind=1
      ·rw[fY c1,fY c1];rfl
      ·rw[eJ c1,eJ c1]
       by_cases c2:kh nodes (ek (q.reverse++[m]))=1/\c.kind=2
       ·rw[fY c2,fY c2];rfl
       ·rw[eJ c2,eJ c2]
        by_cases c3:kh nodes (ek (q.reverse++[m]))=2/\0<(eE nodes (ek (q.reverse++[m]))).length
        ·rw[fY c3,fY c3];rfl
        ·rw[eJ c3,eJ c3]
         by_cases c4:kh nodes (ek (q.reverse++[m]))=0/\16<=ks.length/\decide (r=q)=false
         ·rw[fY c4,fY c4];rfl
         ·rw[eJ c4,eJ c4,eJ (show ¬(0:Int)≠0 by decide)]
          by_cases hd:5<((q.length+1:Nat):Int)+H2 a 5 c
          ·rw[fY hd,fY (C.2 hd)]
          ·rw[eJ hd,eJ (fun e=>hd (C.1 e))]
 refine⟨w,?_⟩;obtain⟨c1,c2,c3⟩:=Fg (fc:=fc) hS j n m r q (er:=(ra a t j1 (n::r) (m::q)).2.1) (t':=(ra a t j1 (n::r) (m::q)).2.2) rfl;rcases CR hs (ek (r.reverse++[n])) (ek (q.reverse++[m])) with⟨D,b⟩|⟨D,F,P,y,b,Y,ac,Z,ad,aa,ae,af,m10,ag,ab,L⟩
 ·rw[D]
  refine⟨?_,hs⟩;by_cases E:(ra a t j1 (n::r) (m::q)).2.1≠0
  ·rw[c2 E];exact h
  ·obtain⟨_,_,d3⟩:=c3 (jq.1 E)
   have heq:ek (r.reverse++[n])=ek (q.reverse++[m]):=by
    rcases b with b|b
    ·rw[<-w]at b;exact absurd b E
    ·exact b
   have:=l4 hv hw heq
   intro x hx;rw[d3 x,fY this];exact h x hx
 ·have M:F=r.reverse++[n]:=l4 Z hv b.symm
  have e2:P++[y]=q.reverse++[m]:=l4 aa hw Y.symm;rw[M,e2]at L;rw[M,e2]at m10;obtain⟨_,_,d3⟩:=c3 (by rw[w];exact D);refine⟨fun x hx=>?_,ab⟩;rw[d3 x,L x hx,eJ (fun e=>m10 (by rw[e];exact mB _))];split
  ·rename_i hp
   obtain⟨z,rfl⟩:=hp;rw[nv];exact h _ (hv.append hx.right)
  ·split
   ·rfl
   ·exact h x hx
theorem BF(nodes:List eD)(data:eB)(hq:q≠[]):jC nodes data (ek q)=match eO nodes q with
  |some (k,f)=>if k=1 then(1,(((data[f.toNat]?).getD fy).size:Int)) else(2,((eE nodes (ek q)).length:Int))
  |none=>(2,((eE nodes (ek q)).length:Int)):=by
 have h1:=vF nodes (ek q);rw[<-iJ hq]at h1;unfold jC;cases hf:je nodes (ek q) with
 |none=>
  rw[hf]at h1;rw[<-h1];rfl
 |some i=>
  rw[hf,my]at h1;cases hn:nodes[i]? with
  |none=>
   exfalso
   have:=(wX.1 hf).1
   rw[gJ this]at hn;cases hn
  |some e=>
   rw[hn,jS]at h1;rw[<-h1];simp only[hn,jS,nG,s5]
theorem Pz(a:Good l):P2 nodes data (ek l)=if tk nodes l≠0 then((0,0),tk nodes l) else(jC nodes data (ek l),0):=by
 unfold P2;rw[tx a];simp only;rw[eJ (by simp)]
theorem PA(a:Good l):vd nodes (ek l)=if tk nodes l≠0 then([],tk nodes l)else if kh nodes (ek l)≠2 then([],5) else(rc nodes (ek l),0):=by
 unfold vd;rw[tx a];simp only;rw[eJ (by simp)]
theorem RI(fl:Nat->Option (Int×eu))(h:Reads a (iE a fl) t nodes data)(hs:eP nodes data)(hS:Sound a)(p:eL a 5 t)(hk:t.kind=2)(q:Good r.reverse):
  (gB a fl t j1 r).2.1=(P2 nodes data (ek r.reverse)).2/\(gB a fl t j1 r).2.2=(P2 nodes data (ek r.reverse)).1:=by
 have hv:=q.val;have hw:=lU h hs r hv;unfold gB;rw[Pz q,<-hw];simp only[iy];by_cases h0:(ju a t r).1≠0
 ·rw[fY h0,fY h0];exact⟨rfl,rfl⟩
 ·rw[eJ h0,eJ h0]
  have j:=o5 (jq.1 h0);obtain⟨c,hc⟩:∃c,c=(ju a t r).2:=⟨_,rfl⟩;rw[<-hc]at j ⊢;have g:xj a (iE a fl) t r.reverse=some (nd a (iE a fl) c):=by unfold xj;rw[j];rfl
  have s:c.kind=2->(jC nodes data (ek r.reverse))=(2,((eE nodes (ek r.reverse)).length:Int)):=by
   intro hk2;have n:xj a (iE a fl) t r.reverse=some .dir:=by
    rw[g];cases c<;>first|rfl|cases hk2
   by_cases hq:r.reverse=[]
   ·rw[hq]
    unfold jC;cases hf:je nodes (ek []) with
    |none=>rfl
    |some i=>
     exfalso;obtain⟨hi,m,_⟩:=wX.1 hf;obtain⟨l,v,w,_,hle⟩:=hs.gp _ (iF hi);simp only[rL]at m;rw[hle]at m
     have:ek l=ek []:=bytes_inj (by rw[uL,uL]at m;exact m)
     exact v (l4 w (fun x hx=>by cases hx) this)
   ·rw[BF nodes data hq]
    rw[h _ hv]at n;cases hl:eO nodes r.reverse with
    |none=>rfl
    |some x=>
     obtain⟨k,f⟩:=x;rw[hl,jS,kE,CS]at n;simp only at n ⊢;split at n
     ·rename_i h2;rw[eJ (by rw[h2];decide)]
     ·cases n
  have u:∀b,nd a (iE a fl) c=.file b->jC nodes data (ek r.reverse)=(1,(b.size:Int)):=by
   intro b o;have hq:r.reverse≠[]:=by
    intro e;rw[e,k0]at j;have m:=wZ j;rw[<-m]at o;cases t<;>first|(cases o;done)|(cases hk;done)
   rw[BF nodes data hq];rw[o,h _ hv]at g;cases hl:eO nodes r.reverse with
   |none=>rw[hl]at g;cases g
   |some x=>
    obtain⟨k,f⟩:=x;rw[hl,jS,kE,CS]at g;simp only at g ⊢;split at g
    ·cases g
    ·rename_i h2
     rcases uJ hs hl with h1|h1
     ·simp only at h1
      rw[fY h1];cases g;rfl
     ·exact absurd h1 h2
  cases c with
  |file id=>
   simp only[xi,tV,Gr];rw[u _ rfl];exact⟨rfl,rfl⟩
  |held f=>
   rw[u _ rfl];have y:(po a fl j1 f).2=(0,iE a fl f):=by
    unfold po iE;cases fl f with
    |none=>rfl
    |some x=>
     obtain⟨i,d⟩:=x;simp only[tV,Gr];by_cases hi:i=0
     ·rw[fY hi,eJ (show ¬i≠0 from fun e=>e hi)]
     ·rw[eJ hi,fY hi]
   have z:(xi a fl j1 (.held f)).2=(0,((iE a fl f).size:Int)):=by
    show((po a fl j1 f).2.1,((po a fl j1 f).2.2.size:Int))=_;rw[y]
   rw[z];exact⟨rfl,rfl⟩
  |dir id=>
   have hm:=oq h hs hS p j (show kids a (.dir id)=some _ from rfl);rw[s rfl];simp only[xi,mh,u2,hm];exact⟨rfl,rfl⟩
  |own es=>
   have hm:=oq h hs hS p j (show kids a (.own es)=some _ from rfl);rw[s rfl];simp only[xi,mh,u2,hm];exact⟨rfl,rfl⟩
theorem RJ(h:Reads a fc t nodes data)(hs:eP nodes data)(hS:Sound a)(i:eL a 5 t)(f:Good r.reverse):
  (xf a t r).1=(vd nodes (ek r.reverse)).2/\(xf a t r).2.map (·.1)=(vd nodes (ek r.reverse)).1:=by
 have hv:=f.val;have hw:=lU h hs r hv;rw[PA f,<-hw];unfold xf;simp only;by_cases h0:(ju a t r).1≠0
 ·rw[fY h0,fY h0];exact⟨rfl,rfl⟩
 ·rw[eJ h0,eJ h0]
  have b:=o5 (jq.1 h0);obtain⟨c,hc⟩:∃c,c=(ju a t r).2:=⟨_,rfl⟩;rw[<-hc]at b ⊢;have g:xj a fc t r.reverse=some (nd a fc c):=by unfold xj;rw[b];rfl
  cases hk:kids a c with
  |none=>
   rw[sR hk,fY (fun h2=>?_)]
   ·exact⟨rfl,rfl⟩
   ·have:=(h.pJ hs hv).1 h2
    rw[g,kE]at this;obtain⟨ks,e⟩:=nh this;rw[hk]at e;cases e
  |some ks=>
   rw[oZ hk,eJ (fun h2=>h2 ((h.pJ hs hv).2 (by
    rw[g];cases hn:nd a fc c with
    |dir=>rfl
    |file d=>rw[lD hn]at hk;cases hk)))]
   exact⟨rfl,BA h hs hS i b hk⟩
end
theorem Fy(t:Nat)(l m:eB)(hl:Good l)(hm:Good m)(h0:l=[]\/m=[])(w:World):
  eK 72 #[fj t,.agg (et l),.agg (et m)] w (ml (ed 9) w):=by
 have k:=fun W=>px W;have h:∀W,(Op.equalIn 10000 147 (hP l) (hP [])).run prog W=.ok (decide (l=[])) W:=fun W=>sf hl Good.nil W;have i:∀W,(Op.equalIn 10000 147 (hP m) (hP [])).run prog W=.ok (decide (m=[])) W:=fun W=>sf hm Good.nil W;obtain⟨a,b,c,d,f,n⟩:∃a b c d f,et l=(ii a b c d f):=⟨_,_,_,_,_,rfl⟩;obtain⟨d0,d1,d2,d3,d4,hQ⟩:∃a b c d f,et m=(ii a b c d f):=⟨_,_,_,_,_,rfl⟩;unfold hP at k h i;simp only[n,hQ]at h i;rw[n,hQ];unfold et at k h i;simp only[k8]at k h i;obtain⟨o,r,s,u⟩:=Bo w a b c d f d0 d1 d2 d3 d4;have g:=i7 ((w.alloc (.cells (ii a b c d f) 147)).alloc (.cells (ii d0 d1 d2 d3 d4) 147)).drew.heap.size ((w.alloc (.cells (ii a b c d f) 147)).alloc (.cells (ii d0 d1 d2 d3 d4) 147)).drew;have j:Hid _:=And.intro r (And.intro s u);clear r s u n hQ hl hm;by_cases p:l=[]
 ·rw[jT p]at h
  generalize decide (m=[])=y at i;go_enter func72,ntmps72;go_wp2
  go_region_with(first|(go_at_call 75;refine(k _).mono ?_;rintro e v ⟨rfl,q⟩;replace g:=em g q;obtain⟨z,A,B,C,D,E,F,G,H,I⟩:=o.below g j.out.1 j.out.2.1))
  all_goals
   go_wp2;go_ret;exact⟨rfl,em j.out.2.2 g⟩
 ·have e2:m=[]:=h0.resolve_left p
  rw[m6 p]at h;rw[jT e2]at i;go_enter func72,ntmps72;go_wp2
  go_region_held3 (fun w'=>w'.cell? (eb w.heap.size 0)=some (.string a)/\w'.cell? (eb w.heap.size 1)=some (.string b)/\w'.cell? (eb w.heap.size 2)=some (.string c)/\w'.cell? (eb w.heap.size 3)=some (.string d)/\w'.cell? (eb w.heap.size 4)=some (.string f)/\w'.cell? (eb (w.heap.size+1) 0)=some (.string d0)/\w'.cell? (eb (w.heap.size+1) 1)=some (.string d1)/\w'.cell? (eb (w.heap.size+1) 2)=some (.string d2)/\w'.cell? (eb (w.heap.size+1) 3)=some (.string d3)/\w'.cell? (eb (w.heap.size+1) 4)=some (.string d4)) (first|exact o|exact x) (first|(go_at_call 75;refine(k _).mono ?_;rintro e v ⟨rfl,q⟩;replace g:=em g q;have x:=o.below g j.out.1 j.out.2.1))
  all_goals
   go_wp2;go_ret;exact⟨rfl,em j.out.2.2 g⟩
abbrev St:=List eD×eB
def gU (a b:eu):eu:=if a.toList=[]then b else a++⟨#[47]⟩++b
def sV (ep:List Ob)(i:Int):eu:=((ep[i.toNat]?).map (fun o:Ob=>o.data)).getD ⟨#[]⟩
def xB (ep:List Ob)(i:Nat):List eD:=((ep[i]?).map (fun o:Ob=>o.eG)).getD []
def pB (ep:List Ob)(b:Nat->eu->St->St)(a:eu)(st:St)(e:eD):St:=
 if e.2.1=1 then(st.1++[(gU a e.1,1,(st.2.length:Int))],st.2++[sV ep e.2.2])else b e.2.2.toNat (gU a e.1) (st.1++[(gU a e.1,2,0)],st.2)
def Ha (ep:List Ob):Nat->Nat->eu->St->St
 |0,_,_,st=>st
 |fuel+1,at_,a,st=>(xB ep at_).foldl (pB ep (Ha ep fuel) a) st
def mA (a b:St):Prop:=a.1.length<=b.1.length/\a.2.length<=b.2.length
theorem mA.trans{a b c:St}(h:mA a b)(k:mA b c):mA a c:=⟨pD h.1 k.1,pD h.2 k.2⟩
theorem r5(ep:List Ob)(b:Nat->eu->St->St)(hr:∀i p st,mA st (b i p st))(a:eu)(st:St)(e:eD):mA st (pB ep b a st e):=by
 unfold pB;split
 ·exact⟨by simp,by simp⟩
 ·have:=hr e.2.2.toNat (gU a e.1) (st.1++[(gU a e.1,2,0)],st.2)
  exact⟨pD (by simp) this.1,this.2⟩
theorem sW(ep:List Ob)(a:Nat->eu->St->St)(hr:∀i p st,mA st (a i p st))(b:eu):∀(es:List eD) (st:St),mA st (es.foldl (pB ep a b) st)
 |[],st=>⟨io _,io _⟩
 |e::r,st=>(r5 ep a hr b st e).trans (sW ep a hr b r _)
theorem sX(ep:List Ob):∀(fuel i:Nat) (p:eu) (st:St),mA st (Ha ep fuel i p st)
 |0,_,_,_=>⟨io _,io _⟩
 |fuel+1,i,p,st=>sW ep _ (sX ep fuel) p _ st
abbrev pg:=Bool×Int×Int×Int
def gZ (h:pg):fE:=[.bool h.1,.int .i64 h.2.1,.int .i64 h.2.2.1,.int .i64 h.2.2.2]
def m9 (hs:List pg):fE:=hs.flatMap gZ
theorem PB:∀(hs:List pg) (k f:Nat) (h:k<hs.length) (hf:f<4),(m9 hs)[4*k+f]?=(gZ hs[k])[f]?
 |x::r,0,f,_,hf=>by
  show(gZ x++m9 r)[4*0+f]?=_
  rw[ox (by show 4*0+f<4;omega)]
  simp
 |x::r,k+1,f,h,hf=>by
  show(gZ x++m9 r)[4*(k+1)+f]?=_
  rw[zM (by show 4<=4*(k+1)+f;omega)]
  have:=PB r k f (by simpa using h) hf
  rw[show 4*(k+1)+f-(gZ x).length=4*k+f by show 4*(k+1)+f-4=_;omega,this]
  rfl
theorem JT(hs:List pg):(m9 hs).length=4*hs.length:=by
 induction hs with
 |nil=>rfl
 |cons x r a=>
  show(gZ x++m9 r).length=_;rw[jM,a];show 4+4*r.length=4*(r.length+1);omega
def ni (hs:List pg)(n:Int):Bool:=decide (0<=n)&&decide (n<8)&&(match hs[n.toNat]? with|some h=>h.1|none=>false)
theorem uK{hs:List pg}{n:Int}(h:¬(0<=n/\n<8)):ni hs n=false:=by
 unfold ni;by_cases h0:0<=n
 ·have:decide (n<8)=false:=m6 (fun h8=>h ⟨h0,h8⟩)
  rw[this];simp
 ·rw[m6 h0];rfl
theorem zm{hs:List pg}(hk:k<hs.length)(h8:hs.length=8):ni hs (k:Int)=hs[k].1:=by
 unfold ni;rw[jT (by omega:(0:Int)<=k),jT (by omega:(k:Int)<8),lV,gJ hk];rfl
section
variable {F:Nat->Prop}{w:World}{S:Nat}{na da:e5}{nc dc:Nat}{nodes:List eD}{data:eB}{hs:List pg}{more:fE}
theorem eV.tab(h:eV F w S na da nc dc nodes data (m9 hs++more))(hk:k<hs.length)(hf:f<4):w.cell? (eb S (2+k*4+f))=(gZ hs[k])[f]?:=by
 have e:=PB hs k f hk hf;have hl:4*k+f<(m9 hs).length:=by rw[JT];omega
 simp only[World.cell?,h.hS];rw[show 2+k*4+f=(4*k+f)+2 by omega];simp only[List.getElem?_toArray,List.getElem?_cons_succ];rw[ox hl,e];rfl
theorem z2(h:eV F w S na da nc dc nodes data (m9 hs++more))(h8:hs.length=8)(n:Int):
  eK 163 #[fj S,ed n] w (tz (.bool (ni hs n)) w):=by
 have a:=h.lt;by_cases hn:0<=n/\n<8
 ·obtain⟨k,rfl⟩:∃k:Nat,n=(k:Int):=⟨n.toNat,by omega⟩
  have hk:k<hs.length:=by omega
  have c0:w.cell? (eb S (2+k*4))=some (.bool hs[k].1):=h.tab (f:=0) hk (by omega);rw[zm hk h8];generalize hs[k].1=u at c0 ⊢;have t1:(0:Int)<=(k:Int):=by omega
  have t2:(k:Int)<8:=by omega
  have b:k<8:=by omega
  clear h hn hk h8;cases u with
  |true=>
   go_enter func163,ntmps163;go_wp2;go_ret;exact⟨rfl,rfl⟩
  |false=>
   go_enter func163,ntmps163;go_wp2;go_ret;exact⟨rfl,rfl⟩
 ·rw[uK hn]
  clear h h8;by_cases h0:0<=n
  ·have t2:decide (n<8)=false:=m6 (fun h=>hn ⟨h0,h⟩)
   go_enter func163,ntmps163;go_wp2;go_ret;exact⟨rfl,rfl⟩
  ·have t1:decide (0<=n)=false:=m6 h0
   go_enter func163,ntmps163;go_wp2;go_ret;exact⟨rfl,rfl⟩
end
abbrev Mu:=Nat->Option (Int×eu)
abbrev RL:=Nat->Option (Nat×Nat×Int×Int)
def pO (nodes:List eD):Prop:=∀e∈nodes,∀a∈nodes,e.2.1=1->a.2.1=1->e.2.2=a.2.2->e.1=a.1
theorem Fz(h:pO nodes)(S:eu):pO (mi nodes S):=fun e a b c=>h e (xK.1 a).1 b (xK.1 c).1
theorem FA(h:pO nodes){x:eD}(hx:x.2.1=1->∀e∈nodes,e.2.1=1->e.2.2≠x.2.2):pO (nodes++[x]):=by
 intro e d c f h1 h2 h3;rcases pR.1 d with a|a<;>rcases pR.1 f with b|b
 ·exact h e a c b h1 h2 h3
 ·rw[kH.1 b]at h2 h3;exact absurd h3 (hx h2 e a h1)
 ·rw[kH.1 a]at h1 h3;exact absurd h3.symm (hx h1 c b h2)
 ·rw[kH.1 a,kH.1 b]
theorem Mv(h:pO nodes)(S T:eu):pO (nodes.map (j2 S T)):=by
 have c:∀e,(j2 S T e).2=e.2:=fun e=>by unfold j2;split<;>rfl
 have d:∀e a:eD,e.1=a.1->(j2 S T e).1=(j2 S T a).1:=fun e a b=>by unfold j2;rw[b];split<;>first|rfl|exact b
 intro e b a f h1 h2 h3;obtain⟨x,hx,rfl⟩:=H3.1 b;obtain⟨y,g,rfl⟩:=H3.1 f;rw[c]at h1 h3;rw[c]at h2 h3;exact d _ _ (h x hx y g h1 h2 h3)
theorem km{d:Type}(P:d->Prop){c:Prop}[Decidable c]{a b:d}(e:P a)(f:P b):P (if c then a else b):=by
 by_cases h:c
 ·rw[fY h];exact e
 ·rw[eJ h];exact f
def PN (x:List eD×Int):Prop:=pO x.1
theorem Mw(h:pO nodes)(S:eu):PN (m4 nodes S):=by
 unfold m4
 repeat refine km PN (show PN (nodes,_)from h) ?_
 exact FA h (x:=(S,2,0)) (fun e=>by cases e)
theorem IE(h:pO nodes)(S:eu):PN (li nodes S):=by
 unfold li
 repeat refine km PN (show PN (nodes,_)from h) ?_
 exact Fz h S
theorem IG(h:pO nodes)(S T:eu):PN (lv nodes S T):=by
 unfold lv
 repeat refine km PN (show PN (nodes,_)from h) ?_
 exact Mv (Fz h T) S T
def Over (fl:Mu)(φ:Nat->Nat)(data:eB)(c:ul)(e6:eB):Prop:=
 e6.length=data.length/\(∀f,fl f≠none->e6[φ f]?=some (c f))/\∀k,(∀f,fl f≠none->φ f≠k)->e6[k]?=data[k]?
def Sw (φ:Nat->Nat):Option (Nat×Nat×Int×Int)->pg
 |none=>(false,0,0,0)
 |some x=>(true,(φ x.2.1:Int),x.2.2.1,x.2.2.2)
structure jL (ei:List Ob)(fl:Mu)(op:RL)(t:LT)(nodes:List eD)(data:eB)(hs:List pg)(φ:Nat->Nat):Prop where
 inj:∀f f',fl f≠none->fl f'≠none->φ f=φ f'->f=f'
 cont:∀f,fl f≠none->data[φ f]?=some (iE ei fl f)
 par:∀c e6,Over fl φ data c e6->Reads ei c t nodes e6
 num:pO nodes
 h8:hs.length=8
 tab:∀k,k<8->hs[k]?=some (Sw φ (op k))
 Qd:∀k x,op k=some x->fl x.2.1≠none
theorem pA{a:Type}{fl:Nat->Option a}{x:a}(f':Nat):m8 fl f (some x) f'≠none↔f'=f\/fl f'≠none:=by
 unfold m8;split
 ·rename_i e;exact⟨fun _=>.inl e,fun _=>by simp⟩
 ·rename_i e;exact⟨.inr,fun h=>h.resolve_left e⟩
theorem JU(ei:List Ob)(fl:Mu)(f:Nat)(d:eu):iE ei (m8 fl f (some (0,d))) f=d:=by unfold iE;rw[il];rfl
theorem zn(ei:List Ob){fl:Mu}{f f':Nat}(h:f'≠f)(x:Option (Int×eu)):iE ei (m8 fl f x) f'=iE ei fl f':=by unfold iE;rw[ik h]
section
variable {ei:List Ob}{fl:Mu}{op:RL}{t:LT}{nodes:List eD}{data:eB}{hs:List pg}{φ:Nat->Nat}
theorem jL.reads(h:jL ei fl op t nodes data hs φ):Reads ei (iE ei fl) t nodes data:=h.par _ _ ⟨rfl,h.cont,fun _ _=>rfl⟩
theorem jL.tree(h:jL ei fl op t nodes data hs φ)(hr:∀c e6,e6.length=data.length->Reads ei c t nodes e6->Reads ei c t' RK e6)(hn:pO RK):jL ei fl op t' RK data hs φ:=
 ⟨h.inj,h.cont,fun c d hd=>hr c d hd.1 (h.par c d hd),hn,h.h8,h.tab,h.Qd⟩
theorem jL.write(h:jL ei fl op t nodes data hs φ)(hf:fl f≠none)(d:eu):jL ei (m8 fl f (some (0,d))) op t nodes (data.set (φ f) d) hs φ:=by
 have hd:∀f',m8 fl f (some ((0:Int),d)) f'≠none->fl f'≠none:=fun f' h'=>((pA f').1 h').elim (fun e=>by rw[e];exact hf) id;have hu:∀f',fl f'≠none->m8 fl f (some ((0:Int),d)) f'≠none:=fun f' h'=>(pA f').2 (.inr h');have i:=(s6.1 (h.cont f hf)).1;refine⟨fun a b g j=>h.inj a b (hd a g) (hd b j),fun a g=>?_,fun c l ⟨m,o2,o3⟩=>h.par c l ⟨by rw[m];simp,fun a g=>o2 a (hu a g),fun k hk=>?_⟩,h.num,h.h8,h.tab,fun k x hx=>hu _ (h.Qd k x hx)⟩
 ·by_cases e:a=f
  ·rw[e,JU,Kc i]
  ·rw[zn ei e,s9 (fun n=>e (h.inj _ _ hf (hd a g) n).symm),h.cont a (hd a g)]
 ·rw[o3 k (fun a g=>hk a (hd a g)),s9 (hk f hf)]
theorem jL.opens(h:jL ei fl op t nodes data hs φ)(hk:k<8)(v:Option (Nat×Nat×Int×Int))(hv:∀x,v=some x->fl x.2.1≠none):jL ei fl (m8 op k v) t nodes data (hs.set k (Sw φ v)) φ:=by
 have h8:=h.h8;refine⟨h.inj,h.cont,h.par,h.num,by simpa using h.h8,fun j hj=>?_,fun j x hx=>?_⟩
 ·by_cases e:j=k
  ·rw[e,il,Kc (by omega)]
  ·rw[ik e,s9 (fun a=>e a.symm),h.tab j hj]
 ·by_cases e:j=k
  ·rw[e,il]at hx;exact hv x hx
  ·rw[ik e]at hx;exact h.Qd j x hx
theorem zo{x:eB}{y:Int}(h:eO nodes x=some (1,y)):∃e∈nodes,e.1=ek x/\e.2=(1,y):=by
 unfold eO at h;split at h
 ·cases h
 ·obtain⟨e,a,h2⟩:=M4.1 h
  exact⟨e,BN a,by have:=Kh a;simpa using this,h2⟩
theorem pO.look(h:pO nodes){x y:eB}{k:Int}(hx:eO nodes x=some (1,k))(b:eO nodes y=some (1,k))(c:eA x)(d:eA y):x=y:=by
 obtain⟨e,f,g,e2⟩:=zo hx;obtain⟨i,j,l,a⟩:=zo b;exact l4 c d (by rw[<-g,<-l];exact h e f i j (by rw[e2]) (by rw[a]) (by rw[e2,a]))
theorem zq(c:ul){x:LT}(hx:x.kind=1)(m:eu)(r:eB):xj ei c x (m::r)=none:=by
 rw[sk];cases x<;>first|rfl|cases hx
theorem eP.num(hs:eP nodes data){x:eB}{y:Int×Int}(h:eO nodes x=some y)(h1:y.1=1):0<=y.2/\y.2<(data.length:Int):=by
 obtain⟨e,a,_,e2⟩:=zo (y:=y.2) (by rw[h,<-h1])
 have:=hs.files e a (by rw[e2])
 rw[e2]at this;exact this
theorem JV(hs:eP nodes data){d1 d2:eB}{x:eB}(h:∀k:Nat,eO nodes x=some (1,(k:Int))->d1[k]?=d2[k]?):(eO nodes x).map (CS d1)=(eO nodes x).map (CS d2):=by
 cases hl:eO nodes x with
 |none=>rfl
 |some y=>
  obtain⟨a,m⟩:=y;rw[jS,jS];unfold CS;rcases uJ hs hl with e|e
  ·have e:a=1:=e
   subst e;obtain⟨b,_⟩:=hs.num hl rfl;obtain⟨k,rfl⟩:∃k:Nat,m=(k:Int):=⟨m.toNat,by simp only at b;omega⟩;rw[eJ (by simp),eJ (by simp),lV,h k hl]
  ·have e:a=2:=e
   subst e;rfl
theorem jL.free(h:jL ei fl op t nodes data hs φ){p:eB}(hv:eA p)(c:t.at ei p=some (.file id))(hn:eO nodes p=some (1,(k:Int))):∀f,fl f≠none->φ f≠k:=by
 intro f hf e;have b:=(s6.1 (h.cont f hf)).1;have key:∀X:eu,bytesOf ei id=X:=fun X=>by
  have:=h.par (m8 (iE ei fl) f X) (data.set (φ f) X) ⟨by simp,fun a mE=>?_,fun k hk=>s9 (hk f hf)⟩ p hv
  ·rw[hn,e]at this
   unfold xj at this;rw[c,jS,jS,kE,CS,eJ (by simp),lV,Kc (by rw[<-e];exact b)]at this;exact Nd.file.inj this
  ·by_cases e2:a=f
   ·rw[e2,il,Kc b]
   ·rw[ik e2,s9 (fun d=>e2 (h.inj _ _ hf mE d).symm),h.cont a mE]
 have:=(key fy).symm.trans (key ⟨#[0]⟩)
 cases this
theorem jL.hold(h:jL ei fl op t nodes data hs φ)(hS:Sound ei)(z:eL ei 5 t)(l:eP nodes data){d:LT}(hf:fl f=none)(hid:id≠0)(hv:eA (q++[n]))
  (i:t.at ei q=some d)(hk:kids ei d=some ks)(hp:g8 ks n=some (.file id))(hn:eO nodes (q++[n])=some (1,(k:Int))):
  jL ei (m8 fl f (some (id,fy))) op (m1 ei (fun ks=>n7 ks n (.held f)) q t) nodes data hs (m8 φ f k):=by
 have s:t.at ei (q++[n])=some (.file id):=by rw[i1,i];show d.at ei [n]=_;rw[h9,hk,my,hp,my,k0]
 have PC:=h.free hv s hn;have hr:=(jp hS (mf hS _ z i).2.1 hk).1;have hne:∀f',fl f'≠none->f'≠f:=fun f' h' e=>h' (by rw[e];exact hf);have o:=fun c:ul=>xx (fc:=c) (n:=n) hr i hk (.held f);have u:data[k]?=some (bytesOf ei id):=by
  have:=h.reads (q++[n]) hv
  have A:=l.num hn rfl;have v:k<data.length:=by simp only at A;omega
  unfold xj at this;rw[s,hn,jS,jS,kE,CS,eJ (by simp),lV,gJ v]at this;rw[gJ v];exact rp some (Nd.file.inj this).symm
 refine⟨fun a b i B e=>?_,fun a mE=>?_,fun c p ⟨w,o2,o3⟩ x hx=>?_,h.num,h.h8,fun j hj=>?_,fun j x hx=>(pA _).2 (.inr (h.Qd j x hx))⟩
 ·rcases(pA a).1 i with g|g<;>rcases(pA b).1 B with e2|e2
  ·rw[g,e2]
  ·rw[g,il,ik (hne b e2)]at e;exact absurd e.symm (PC b e2)
  ·rw[e2,il,ik (hne a g)]at e;exact absurd e (PC a g)
  ·rw[ik (hne a g),ik (hne b e2)]at e;exact h.inj a b g e2 e
 ·rcases(pA a).1 mE with g|g
  ·rw[g,il,u];unfold iE;rw[il];simp only[fY hid]
  ·rw[ik (hne a g),zn ei (hne a g),h.cont a g]
 ·have C:k<p.length:=by
   have:=l.num hn rfl
   simp only at this;rw[w];omega
  have D:p[k]?=some (c f):=by have:=o2 f ((pA f).2 (.inl rfl));rwa [il]at this
  have R:=h.par c (p.set k (bytesOf ei id)) ⟨by simpa using w,fun a mE=>by
    rw[s9 (fun e=>PC a mE e.symm)]
    have:=o2 a ((pA a).2 (.inr mE))
    rwa [ik (hne a mE)]at this,fun j hj=>by
    by_cases e:k=j
    ·rw[<-e,Kc C,u]
    ·rw[s9 e]
     refine o3 j (fun a mE=>?_);rcases(pA a).1 mE with g|g
     ·rw[g,il];exact e
     ·rw[ik (hne a g)];exact hj a g⟩
  by_cases Tk:(q++[n]) <+: x
  ·obtain⟨r,rfl⟩:=Tk
   cases r with
   |nil=>
    have:=(o c).1 []
    rw[nH]at hx ⊢;rw[this,xv,hn,jS,CS,eJ (by simp),lV,D];rfl
   |cons m r=>
    have y:q++[n]++m::r=q++n::(m::r):=by simp
    have:=R _ hx
    rw[y,iH i hk,hp,my,zq c rfl]at this;rw[y,(o c).1,zq c rfl];rw[M5.1 this.symm];rfl
  ·rw[(o c).2 x Tk,R x hx]
   refine JV l (fun j hj=>?_);by_cases e:k=j
   ·exact absurd (h.num.look hj (by rw[<-e];exact hn) hx hv) (fun e=>Tk (by rw[e];exact mB _))
   ·rw[s9 e]
 ·rw[h.tab j hj]
  cases ho:op j with
  |none=>rfl
  |some x=>show some (true,((φ x.2.1:Nat):Int),_,_)=some (true,((m8 φ f k x.2.1:Nat):Int),_,_);rw[ik (hne _ (h.Qd j x ho))]
theorem jL.create(h:jL ei fl op t nodes data hs φ)(hS:Sound ei)(w:eL ei 5 t)(o:eP nodes data){d:LT}(hf:fl f=none)(hv:eA (q++[n]))
  (i:t.at ei q=some d)(hk:kids ei d=some ks)(hp:g8 ks n=none):
  jL ei (m8 fl f (some (0,fy))) op (m1 ei (fun ks=>n7 ks n (.held f)) q t) (nodes++[(ek (q++[n]),1,(data.length:Int))]) (data++[fy]) hs (m8 φ f data.length):=by
 have hr:=(jp hS (mf hS _ w i).2.1 hk).1;have hne:∀f',fl f'≠none->f'≠f:=fun f' h' e=>h' (by rw[e];exact hf);have l:∀f',fl f'≠none->φ f'<data.length:=fun f' h'=>(s6.1 (h.cont f' h')).1;have p:=fun c:ul=>xx (fc:=c) (n:=n) hr i hk (.held f);have u:∀(c:ul) (r:eB),xj ei c t (q++n::r)=none:=fun c r=>by rw[iH i hk,hp];rfl
 have y:eO nodes (q++[n])=none:=(h.reads.empty hv).2 (u _ []);have z:=fun {m:eB} (hm:eA m)=>vG (k:=1) (f:=(data.length:Int)) hv (by simp) hm y;refine⟨fun a b i A e=>?_,fun a mE=>?_,fun c s ⟨B,o2,o3⟩ x hx=>?_,FA h.num (fun _ e C h1=>?_),h.h8,fun j hj=>?_,fun j x hx=>(pA _).2 (.inr (h.Qd j x hx))⟩
 ·rcases(pA a).1 i with g|g<;>rcases(pA b).1 A with e2|e2
  ·rw[g,e2]
  ·rw[g,il,ik (hne b e2)]at e;have:=l b e2;omega
  ·rw[e2,il,ik (hne a g)]at e;have:=l a g;omega
  ·rw[ik (hne a g),ik (hne b e2)]at e;exact h.inj a b g e2 e
 ·rcases(pA a).1 mE with g|g
  ·rw[g,il,JU];simp
  ·rw[ik (hne a g),zn ei (hne a g),ox (l a g),h.cont a g]
 ·have E:s.length=data.length+1:=by simpa using B
  have D:s[data.length]?=some (c f):=by have:=o2 f ((pA f).2 (.inl rfl));rwa [il]at this
  have R:=h.par c (s.take data.length) ⟨by rw[Hc];omega,fun a mE=>by
    rw[Gb (l a mE)]
    have:=o2 a ((pA a).2 (.inr mE))
    rwa [ik (hne a mE)]at this,fun j hj=>by
    by_cases e:j<data.length
    ·rw[Gb e,o3 j (fun a mE=>?_),ox e]
     rcases(pA a).1 mE with g|g
     ·rw[g,il];omega
     ·rw[ik (hne a g)];exact hj a g
    ·rw[mG (by rw[Hc];omega),mG (by omega)]⟩
  rw[z hx];by_cases Tk:(q++[n]) <+: x
  ·obtain⟨r,rfl⟩:=Tk
   cases r with
   |nil=>
    have:=(p c).1 []
    rw[nH]at hx ⊢;rw[this,xv,fY rfl,jS,CS,eJ (by simp),lV,D];rfl
   |cons m r=>
    have v:q++[n]++m::r=q++n::(m::r):=by simp
    have:=R _ hx
    rw[v,u]at this;rw[eJ (by simp),v,(p c).1,zq c rfl,M5.1 this.symm];rfl
  ·rw[(p c).2 x Tk,R x hx,eJ (fun e=>Tk (by rw[e];exact mB _))]
   refine JV o (fun j hj=>?_)
   have:=o.num hj rfl
   simp only at this;rw[Gb (by omega)]
 ·have:=o.files e C h1
  simp only;omega
 ·rw[h.tab j hj]
  cases ho:op j with
  |none=>rfl
  |some x=>show some (true,((φ x.2.1:Nat):Int),_,_)=some (true,((m8 φ f data.length x.2.1:Nat):Int),_,_);rw[ik (hne _ (h.Qd j x ho))]
end
theorem nz(l:eB):i6 l=ek l:=yi (by rw[H5];rfl)
theorem CU(h:(fX S).2=true):Good (fX S).1:=by
 unfold fX at h ⊢;split
 ·exact Good.nil
 ·rename_i h0
  rw[eJ h0]at h;split
  ·rename_i hv
   rw[fY hv]at h;exact⟨hv,s8 h⟩
  ·rename_i hv
   rw[eJ hv]at h;cases h
theorem iU(hS:S.size<=maxLen):((fX S).2=false/\iT S)\/∃l,Good l/\S=ek l:=by
 cases hs:(fX S).2 with
 |false=>
  refine .inl ⟨rfl,fun W=>Mn S hS (fun l hl e=>?_) W⟩;rw[e,nz,tx hl]at hs;cases hs
 |true=>exact .inr ⟨_,CU hs,(zj hs).symm⟩
theorem iV(l:eB):l=[]\/∃(n:eu) (r:eB),l=r.reverse++[n]:=by
 cases h:l.reverse with
 |nil=>exact .inl (List.reverse_eq_nil_iff.1 h)
 |cons n r=>exact .inr ⟨n,r,by rw[<-nC,<-h,nu]⟩
def gq (ei:List Ob)(fl:Mu)(op:RL)(t:LT)(nodes:List eD)(data:eB)(rest:fE):Prop:=(∃φ hs more,rest=m9 hs++more/\jL ei fl op t nodes data hs φ)/\eP nodes data
theorem gq.reads{fl:Mu}{op:RL}(h:gq ei fl op t nodes data rest):Reads ei (iE ei fl) t nodes data:=by
 obtain⟨⟨φ,hs,more,_,a⟩,_⟩:=h;exact a.reads
theorem eP.len{data e6:eB}(h:eP nodes data)(hl:e6.length=data.length):eP nodes e6:=⟨h.gp,h.one,h.few,h.kinds,by rw[hl];exact h.files,h.up⟩
theorem gq.tree{fl:Mu}{op:RL}(h:gq ei fl op t nodes data rest)(hr:∀c e6,Reads ei c t nodes e6->eP nodes e6->Reads ei c t' RK e6)(hn:pO nodes->pO RK)(b:eP RK data):gq ei fl op t' RK data rest:=by
 obtain⟨⟨φ,hs,more,e,a⟩,h2⟩:=h;exact⟨⟨φ,hs,more,e,a.tree (fun c d hl f=>hr c d f (h2.len hl)) (hn a.num)⟩,b⟩
def pn (s i p:Nat)(B:WB)(ei:List Ob)(tg:eM)(w w':World)(g:WG)(lim:Nat)(nodes:List eD)(data:eB)(rest:fE):Prop:=
 ∃ey a t',eo (Mine i) tg ey w w'/\fT ey w' s i p B ei a lim t'/\a.fs.brk=false/\(∃l,a.fs.got=g.fs.got++l/\∀x,l.count x+g.fs.kn x=a.fs.kn x)/\eX ei t'/\gq ei a.fl a.op t' nodes data rest
section
variable {s i p:Nat}{B:WB}{ei:List Ob}{tg:eM}{w:World}{g:WG}{lim:Nat}{t:LT}{nodes:List eD}{data:eB}{rest:fE}
theorem u1(h:fT tg w s i p B ei g lim t)(b:g.fs.brk=false)(hi:eX ei t)(c:gq ei g.fl g.op t nodes data rest)(a:gS w w'):pn s i p B ei tg w w' g (lim+400) nodes data rest:=
 ⟨tg,g,t,eo.ew a,(h.below a).mono (by omega),b,⟨[],by simp,fun x=>by simp⟩,hi,c⟩
theorem qH{a:LT}(h:JK s i p B ei tg w w' (lim+400) (vC g fs' a))(c:g.fs.brk=false)(b:g.fs.Next fs')(hi:eX ei a)(d:gq ei g.fl g.op a RK data rest):pn s i p B ei tg w w' g (lim+400) RK data rest:=by
 obtain⟨ey,e,t',m,hQ,rfl,h2,h3,j,f⟩:=h;exact⟨ey,e,t',m,hQ,by rw[h2,b.1];exact c,by rw[h2];exact b.2.2.1,hi,by rw[h3,f];exact d⟩
theorem kj{b:Type}{fs fs':FS}{x all none:b}(h:Fair fs fs' x all none)(a:fs.brk=false):fs.Next fs'/\x=all:=by
 rcases h with h|⟨h,_⟩
 ·exact h
 ·rw[h.1]at a;cases a
theorem RM(h:fT tg w s i p B ei g lim t)(hl:lim+1000<1099511627776)(j:g.fs.brk=false)(hi:eX ei t)(k:Exact ei)(b:gq ei g.fl g.op t nodes data rest)(S:eu)(hS:S.size<=maxLen):
  eK 31 #[fj B.wb,.string S] w fun e w'=>e=.returned (ed (m4 nodes S).2)/\pn s i p B ei tg w w' g (lim+400) (m4 nodes S).1 data rest:=by
 have u:=b.reads;have hs:=b.2;obtain⟨v,c0,_⟩:=h.ws;rcases iU hS with⟨hf,hn⟩|⟨l,m,rfl⟩
 ·have e:m4 nodes S=(nodes,1):=by unfold m4;rw[fY hf]
  rw[e];exact(Mo B.wb S w hn).mono fun e w' ⟨a,f⟩=>⟨a,u1 h j hi b f⟩
 ·rcases iV l with rfl|⟨n,r,rfl⟩
  ·have e:m4 nodes (ek [])=(nodes,6):=by unfold m4;rw[tx Good.nil];rfl
   rw[e,<-nz];exact(E3 B.wb B.bt [] Good.nil 6 (fun w'=>gS w w') w v c0 (fun W o=>(HE B.bt W).mono fun e w' ⟨a,f⟩=>⟨a,o.trans (f.mono o.size)⟩)).mono fun e w' ⟨a,f⟩=>⟨a,u1 h j hi b f⟩
  ·obtain⟨x,q⟩:=kj (GQ ei t g.fs (n::r)) j
   obtain⟨y,A,z⟩:=Fx u hs k.sound h.ok m;rw[<-nz];refine(Te h hl m).mono fun e w' ⟨a,hq⟩=>⟨?_,?_⟩
   ·rw[a,nz,<-y,q]
   ·rw[nz]
    exact qH hq j x (Me k.sound h.ok hi g.fs n r) (b.tree (fun c d hr hs=>by rw[q];exact(Fx hr hs k.sound h.ok m).2.1) (fun h=>Mw h _) z)
theorem PD(h:fT tg w s i p B ei g lim t)(hl:lim+1000<1099511627776)(j:g.fs.brk=false)(hi:eX ei t)(k:Exact ei)(b:gq ei g.fl g.op t nodes data rest)(S:eu)(hS:S.size<=maxLen):
  eK 32 #[fj B.wb,.string S] w fun e w'=>e=.returned (ed (li nodes S).2)/\pn s i p B ei tg w w' g (lim+400) (li nodes S).1 data rest:=by
 have u:=b.reads;have hs:=b.2;obtain⟨v,c0,_⟩:=h.ws;rcases iU hS with⟨hf,hn⟩|⟨l,m,rfl⟩
 ·have e:li nodes S=(nodes,1):=by unfold li;rw[fY hf]
  rw[e];exact(Iw B.wb S w hn).mono fun e w' ⟨a,f⟩=>⟨a,u1 h j hi b f⟩
 ·rcases iV l with rfl|⟨n,r,rfl⟩
  ·have e:li nodes (ek [])=(nodes,9):=by unfold li;rw[tx Good.nil];rfl
   rw[e,<-nz];exact(Br B.wb B.bt [] Good.nil 9 (fun w'=>gS w w') w v c0 (fun W o=>(EP B.bt W).mono fun e w' ⟨a,f⟩=>⟨a,o.trans (f.mono o.size)⟩)).mono fun e w' ⟨a,f⟩=>⟨a,u1 h j hi b f⟩
  ·obtain⟨x,q⟩:=kj (D8 ei t g.fs (n::r)) j
   obtain⟨y,A,z⟩:=BC u hs k.sound h.ok m;rw[<-nz];refine(Rq h hl m).mono fun e w' ⟨a,hq⟩=>⟨?_,?_⟩
   ·rw[a,nz,<-y,q]
   ·rw[nz]
    exact qH hq j x (Ih k.sound h.ok hi g.fs n r) (b.tree (fun c d hr hs=>by rw[q];exact(BC hr hs k.sound h.ok m).2.1) (fun h=>IE h _) z)
theorem wS{S T:eu}(h:(fX S).2=false\/(fX T).2=false):lv nodes S T=(nodes,1):=by unfold lv;rw[fY h]
theorem CV(hl:Good l)(hm:Good m)(h:l=[]\/m=[]):lv nodes (ek l) (ek m)=(nodes,9):=by
 unfold lv;rw[tx hl,tx hm];simp only;rw[eJ (by simp),fY (by rcases h with rfl|rfl<;>simp)]
theorem PE(h:fT tg w s i p B ei g lim t)(hl:lim+1000<1099511627776)(o:g.fs.brk=false)(hi:eX ei t)(q:Exact ei)(j:gq ei g.fl g.op t nodes data rest)(S T:eu)(hS:S.size<=maxLen)(z:T.size<=maxLen):
  eK 33 #[fj B.wb,.string S,.string T] w fun e w'=>e=.returned (ed (lv nodes S T).2)/\pn s i p B ei tg w w' g (lim+400) (lv nodes S T).1 data rest:=by
 have A:=j.reads;have hs:=j.2;obtain⟨C,c0,_⟩:=h.ws;rcases iU hS with⟨hf,hn⟩|⟨l,b,rfl⟩
 ·rw[wS (.inl hf)]
  exact(Fh B.wb S T w hn).mono fun e w' ⟨a,f⟩=>⟨a,u1 h o hi j f⟩
 ·rcases iU z with⟨hf,hn⟩|⟨m,k,rfl⟩
  ·rw[wS (.inr hf),<-nz]
   exact(Fi B.wb l b T w hn).mono fun e w' ⟨a,f⟩=>⟨a,u1 h o hi j f⟩
  ·by_cases h0:l=[]\/m=[]
   ·rw[CV b k h0,<-nz,<-nz]
    exact(Bt B.wb B.bt l m b k 9 (fun w'=>gS w w') w C c0 (fun W u=>(Fy B.bt l m b k h0 W).mono fun e w' ⟨a,f⟩=>⟨a,u.trans (f.mono u.size)⟩)).mono fun e w' ⟨a,f⟩=>⟨a,u1 h o hi j f⟩
   ·rcases iV l with rfl|⟨n,r,rfl⟩
    ·exact absurd (.inl rfl) h0
    ·rcases iV m with rfl|⟨v,x,rfl⟩
     ·exact absurd (.inr rfl) h0
     ·obtain⟨D,y⟩:=kj (D9 ei t g.fs (n::r) (v::x)) o
      obtain⟨E,G,F⟩:=BD A hs q h.ok b k;rw[<-nz,<-nz];refine(Rs h hl b k).mono fun e w' ⟨a,hq⟩=>⟨?_,?_⟩
      ·rw[a,nz,nz,<-E,y]
      ·rw[nz,nz]
       exact qH hq o D (Ii q.sound h.ok hi g.fs n v r x) (j.tree (fun c d hr hs=>by rw[y];exact(BD hr hs q h.ok b k).2.1) (fun h=>IG h _ _) F)
theorem Tl(h:fT tg w s i p B ei g lim t)(hl:lim+1000<1099511627776)(b:g.fs.brk=false)(hi:eX ei t)(f:Exact ei)(hk:t.kind=2)(a:gq ei g.fl g.op t nodes data rest)(S:eu)(hS:S.size<=maxLen):
  eK 67 #[fj B.wb,.string S] w fun e w'=>e=.returned (.tuple #[.agg #[ed (P2 nodes data S).1.1,ed (P2 nodes data S).1.2],ed (P2 nodes data S).2])/\pn s i p B ei tg w w' g (lim+400) nodes data rest:=by
 have j:=a.reads;have hs:=a.2;rcases iU hS with⟨hf,hn⟩|⟨l,d,rfl⟩
 ·have e:P2 nodes data S=((0,0),1):=by unfold P2;rw[fY hf]
  rw[e];exact(Pq B.wb S w hn).mono fun e w' ⟨c,k⟩=>⟨c,u1 h b hi a k⟩
 ·obtain⟨r,rfl⟩:∃r:eB,l=r.reverse:=⟨l.reverse,by simp⟩
  obtain⟨m,n⟩:=kj (KP ei g.fl t g.fs r) b;obtain⟨o,q⟩:=RI g.fl j hs f.sound h.ok hk d;rw[<-nz];refine(T9 h hl d).mono fun e w' ⟨c,hq⟩=>⟨?_,qH hq b m hi a⟩;rw[c,nz,<-o,<-q,n]
theorem RN{W:World}{b:Nat}{es:List eD}(h:qC W b es es.length)(hn:es.length<=16):W.ownsRow 0 9 1 (.slice (some (eb b 0)) es.length es.length) es.length (fG (es.map (·.1))):=by
 obtain⟨cs,h1,h2⟩:=h.blk;refine⟨by simp[fG],.inr ⟨b,es.length,cs,rfl,oY _,h1,io _,by unfold maxLen;omega,by rw[h2,Nat.mul_one],?_⟩⟩;apply Gd;intro k;by_cases hk:k<es.length
 ·have hc:=h.UO k hk hk
  rw[xG,fY (by omega)];simp only[World.cell?,h1]at hc;have a:cs[k]?=some (.string es[k].1):=by simpa using hc
  rw[SC,a];simp[fG,hk]
 ·rw[xG,eJ (by omega),mG (by simp[fG];omega)]
theorem Tm(h:fT tg w s i p B ei g lim t)(hl:lim+1000<1099511627776)(j:g.fs.brk=false)(hi:eX ei t)(o:Exact ei)(n:gq ei g.fl g.op t nodes data rest)(S:eu)(hS:S.size<=maxLen):
  eK 68 #[fj B.wb,.string S] w fun e w'=>∃a c,e=.returned (.tuple #[.slice a (vd nodes S).1.length c,ed (vd nodes S).2])/\w'.ownsRow 0 9 1 (.slice a (vd nodes S).1.length c) (vd nodes S).1.length (fG (vd nodes S).1)/\
   ∃ey f t',eo (Mine i) tg ey w w'/\fT ey w' s i p B ei f (lim+400) t'/\f.fs.brk=false/\(∃l,f.fs.got=g.fs.got++l/\∀x,l.count x+g.fs.kn x=f.fs.kn x)/\eX ei t'/\gq ei f.fl f.op t' nodes data rest/\(vd nodes S).1.length<=16/\∀b,(Value.slice a (vd nodes S).1.length c).ownBlock=some b->w.heap.size<=b/\ey b=(0,0):=by
 have I:=n.reads;have hs:=n.2;rcases iU hS with⟨hf,hn⟩|⟨l,y,rfl⟩
 ·have e:vd nodes S=([],1):=by unfold vd;rw[fY hf]
  rw[e];exact(Pp B.wb S w hn).mono fun e w' ⟨k,z⟩=>⟨none,0,k,UV _ _ _ _,tg,g,t,eo.ew z,(h.below z).mono (by omega),j,⟨[],by simp,fun x=>by simp⟩,hi,n,oY _,fun b j=>by cases j⟩
 ·obtain⟨r,rfl⟩:∃r:eB,l=r.reverse:=⟨l.reverse,by simp⟩
  obtain⟨A,C⟩:=kj (qV ei t g.fs r) j;rw[iz]at C;obtain⟨D,q⟩:=RJ I hs o.sound h.ok y;have u:(xf ei t r).2.length=(vd nodes (ek r.reverse)).1.length:=by rw[<-q,kU]
  have NE:(xf ei t r).2.length<=16:=by
   by_cases h0:(xf ei t r).1=0
   ·obtain⟨d,J,hk⟩:=oh h0
    exact(jp o.sound (mf o.sound _ h.ok J).2.1 hk).2.1
   ·have:(xf ei t r).2=[]:=by
     unfold xf at h0 ⊢;simp only at h0 ⊢;split
     ·rfl
     ·rename_i h1
      rw[eJ h1]at h0;cases hc:(ju ei t r).2<;>rw[hc]at h0<;>first|rfl|exact absurd rfl h0
    rw[this];exact oY _
  rw[<-nz];refine(Ti h hl y).mono ?_;rintro e w' ⟨v,k,ey,m,hQ,E⟩;rw[C]at k E;rw[nz];have F:∀a c,(∀b,(Value.slice a (vd nodes (ek r.reverse)).1.length c).ownBlock=some b->w.heap.size<=b/\ey b=(0,0))->∃ey f t',eo (Mine i) tg ey w w'/\fT ey w' s i p B ei f (lim+400) t'/\f.fs.brk=false/\(∃l,f.fs.got=g.fs.got++l/\∀x,l.count x+g.fs.kn x=f.fs.kn x)/\eX ei t'/\gq ei f.fl f.op t' nodes data rest/\(vd nodes (ek r.reverse)).1.length<=16/\∀b,(Value.slice a (vd nodes (ek r.reverse)).1.length c).ownBlock=some b->w.heap.size<=b/\ey b=(0,0):=
   fun a c K=>⟨ey,_,t,m,hQ,by rw[show({ g with fs:=(kq ei t g.fs r).1 }:WG).fs.brk=(kq ei t g.fs r).1.brk from rfl,A.1];exact j,A.2.2.1,hi,n,by rw[<-u];exact NE,K⟩
  rcases E with⟨h0,rfl⟩|⟨h0,b,rfl,L,M,N⟩
  ·have G:(vd nodes (ek r.reverse)).1=[]:=by
    rw[<-q]
    have:(xf ei t r).2=[]:=by
     unfold xf at h0 ⊢;simp only at h0 ⊢;split
     ·rfl
     ·rename_i h1
      rw[eJ h1]at h0;cases hc:(ju ei t r).2<;>rw[hc]at h0<;>first|rfl|exact absurd rfl h0
    rw[this];rfl
   refine⟨none,0,by rw[k,<-D,G];rfl,by rw[G];exact UV _ _ _ _,F none 0 (fun b j=>by cases j)⟩
  ·refine⟨some (eb b 0),(vd nodes (ek r.reverse)).1.length,by rw[k,<-D,u],?_,F _ _ (fun O H=>?_)⟩
   ·have:=RN (es:=(xf ei t r).2.map kB) (by rw[kU];exact L) (by rw[kU];exact NE)
    rw[kU,u,BZ,show((fun x:eD=>x.1)∘kB)=(fun x:eu×LT=>x.1)from rfl,q]at this;exact this
   ·simp only[Value.ownBlock,kE]at H
    subst H;exact⟨N,M⟩
end
def U3:Nd->Int
 |.dir=>2
 |.file _=>1
theorem Tn(a:List Ob)(fc:ul)(t:LT):U3 (nd a fc t)=t.kind:=by cases t<;>rfl
def JW (q:eB)(x:Nd):CN:=(i6 q,U3 x,UN x)
def kx (a:List Ob)(fc:ul):Nat->eB->LT->List (eB×Nd)
 |0,_,_=>[]
 |n+1,q,c=>((kids a c).getD []).flatMap fun x=>(q++[x.1],nd a fc x.2)::(if x.2.kind=2 then kx a fc n (q++[x.1]) x.2 else [])
theorem wT{a:List Ob}:∀(n:Nat) (q:eB) (t:LT),lz a fc n q t=(kx a fc n q t).map fun x=>JW x.1 x.2
 |0,q,t=>rfl
 |n+1,q,t=>by
  rw[lz,kx,List.map_flatMap]
  congr 1
  funext x
  rw[WF]
  unfold JW
  rw[Tn]
  split
  ·rw[wT n (q++[x.1]) x.2];rfl
  ·rfl
theorem vJ{a:List Ob}:∀(n:Nat) (q:eB) (t:LT) z,z∈kx a fc n q t->∃y,y≠[]/\z.1=q++y
 |0,q,t,z,h=>by cases h
 |n+1,q,t,z,h=>by
  rw[kx]at h
  obtain⟨x,hx,h⟩:=List.mem_flatMap.1 h
  rcases Hd.1 h with rfl|h
  ·exact⟨[x.1],by simp,rfl⟩
  ·split at h
   ·obtain⟨y,b,e⟩:=vJ n (q++[x.1]) x.2 z h
    exact⟨x.1::y,by simp,by rw[e,iK];rfl⟩
   ·cases h
theorem zu{a:List Ob}(hS:Sound a):∀(n:Nat) (q:eB) (t:LT),eL a n t->(kx a fc n q t).Pairwise fun x y=>¬y.1 <+: x.1
 |0,q,t,_=>List.Pairwise.nil
 |n+1,q,t,ht=>by
  rw[kx]
  by_cases hk:t.kind=2
  ·obtain⟨ks,c⟩:=og (a:=a) hk
   obtain⟨hr,_,f⟩:=jp hS ht c
   rw[c,nG,List.pairwise_flatMap]
   refine⟨fun x hx=>?_,?_⟩
   ·obtain⟨m,e,o⟩:=(f x hx).2
    have g:m=n:=by omega
    subst g
    refine pK.2 ⟨fun z b hp=>?_,?_⟩
    ·split at b
     ·obtain⟨y,d,e⟩:=vJ m (q++[x.1]) x.2 z b
      rw[e]at hp
      have:=hp.length_le
      rw[jM]at this
      have:0<y.length:=Dn.2 d
      simp only at *
      omega
     ·cases b
    ·split
     ·exact zu hS m (q++[x.1]) x.2 o
     ·exact List.Pairwise.nil
   ·refine List.Pairwise.imp ?_ hr
    intro h i j k l p r hp
    have key:∀(x:eu×LT) z,z∈((q++[x.1],nd a fc x.2)::(if x.2.kind=2 then kx a fc n (q++[x.1]) x.2 else []))->∃y,z.1=q++x.1::y:=by
     intro x z b;rcases Hd.1 b with rfl|b
     ·exact⟨[],rfl⟩
     ·split at b
      ·obtain⟨y,d,e⟩:=vJ n (q++[x.1]) x.2 z b
       exact⟨y,by rw[e,iK];rfl⟩
      ·cases b
    obtain⟨u,s⟩:=key h k l;obtain⟨v,e2⟩:=key i p r;rw[s,e2,MX,Gh]at hp;rw[hp.1,QQ]at j;omega
  ·rw[kg hk];exact List.Pairwise.nil
theorem zv{a:List Ob}(hS:Sound a)(ht:eL a 5 t){x:Nd}:(y,x)∈kx a fc 5 [] t↔y≠[]/\xj a fc t y=some x:=by
 have key:∀(n:Nat) (q:eB) (t:LT),eL a n t->∀z,z∈kx a fc n q t↔∃y x,y≠[]/\xj a fc t y=some x/\z=(q++y,x):=by
  intro n
  induction n with
  |zero=>
   intro q t ht z;rw[kx];constructor
   ·intro h;cases h
   ·rintro⟨y,x,d,hs,_⟩
    unfold xj at hs;obtain⟨c,hc,_⟩:=M4.1 hs
    have:=(mf hS _ ht hc).1
    exact absurd (xF.1 (by omega)) d
  |succ n j=>
   intro q t ht z;rw[kx];by_cases hk:t.kind=2
   ·obtain⟨ks,g⟩:=og (a:=a) hk
    obtain⟨hr,_,l⟩:=jp hS ht g;rw[g,nG,List.mem_flatMap];have p:∀w∈ks,g8 ks w.1=some w.2:=fun w hw=>by
     obtain⟨k,hk,rfl⟩:=mH hw;exact AQ hr hk
    constructor
    ·rintro⟨w,hw,f⟩
     obtain⟨m,e,o⟩:=(l w hw).2;have i:m=n:=by omega
     subst i;rcases Hd.1 f with f|f
     ·exact⟨[w.1],nd a fc w.2,by simp,by rw[sk,g,my,p w hw,my,xv],f⟩
     ·split at f
      ·obtain⟨y,x,d,hs,e⟩:=(j (q++[w.1]) w.2 o z).1 f
       exact⟨w.1::y,x,by simp,by rw[sk,g,my,p w hw,my];exact hs,by rw[e,iK];rfl⟩
      ·cases f
    ·rintro⟨y,x,d,hs,e⟩
     cases y with
     |nil=>exact absurd rfl d
     |cons b y=>
      rw[sk,g,my]at hs;obtain⟨c,hc,hs⟩:=Option.bind_eq_some_iff.1 hs;have r:∃w∈ks,w.1=b/\w.2=c:=by
       unfold g8 at hc;obtain⟨w,hw,e2⟩:=M4.1 hc;exact⟨w,BN hw,by simpa using Kh hw,e2⟩
      obtain⟨w,hw,rfl,rfl⟩:=r;obtain⟨m,u,o⟩:=(l w hw).2;have i:m=n:=by omega
      subst i;refine⟨w,hw,?_⟩;cases y with
      |nil=>
       rw[xv]at hs;rw[e,<-wZ hs];exact ir ..
      |cons s y=>
       refine mI _ ?_;have hk2:w.2.kind=2:=by
        by_cases h2:w.2.kind=2
        ·exact h2
        ·rw[sk,kg h2]at hs;cases hs
       rw[fY hk2];exact(j (q++[w.1]) w.2 o z).2 ⟨s::y,x,by simp,hs,by rw[e,iK];rfl⟩
   ·rw[kg hk]
    constructor
    ·intro h;cases h
    ·rintro⟨y,x,d,hs,_⟩
     cases y with
     |nil=>exact absurd rfl d
     |cons b y=>rw[sk,kg hk]at hs;cases hs
 rw[key 5 [] t ht];constructor
 ·rintro⟨v,A,d,hs,e⟩
  cases e;exact⟨d,hs⟩
 ·rintro⟨d,hs⟩
  exact⟨y,x,d,hs,rfl⟩
section
variable {a b:List Ob}{fc fu:ul}{t u:LT}
end
end Go.Proofs.YtlgidcmmgohagaaGreat
