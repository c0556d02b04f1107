/- What is proved here: the law's 'tree'. -/
import Derived.Test.YtlgidcmmgohagaaGreatFileM09
import Derived.Test.YtlgidcmmgohagaaGreatFileM11
import Derived.Laws.BytesArg
import Derived.Test.YtlgidcmmgohagaaGreatFileM08
import Derived.ArgAppend
import Derived.Maps.AppendAt
namespace Go.Proofs.YtlgidcmmgohagaaGreat
open Go.RowKit Go.Sort Go.Shelf Go.Proofs.Tryz
set_option linter.unusedVariables false
set_option maxRecDepth 100000
set_option maxHeartbeats 16000000
variable {t:gi}{g o:Nat}{V v:Value}{w:World}
def xk (b:Nat)(w w':World):Prop:=b<w'.heap.size/\∀o,w'.cell? ⟨b,o,none⟩=w.cell? ⟨b,o,none⟩
def Hm (k a1 a2 a3:Int)(S T:eD)(la:fD)(lm lc:Nat):Array Value:=#[.int .i64 k,.int .i64 a1,.int .i64 a2,.int .i64 a3,.string S,.string T,.slice la lm lc]
theorem LU(W wb Sb:Nat)(a1 a2 a3:Int)(S T:eD)(la:fD)(lm lc:Nat)(er:Int)(her:(er==14)=false)(c d:World->Prop)(w:World)
  (h1:∀a,ik w a->w.heap.size<a.heap.size->gc 31 #[hh wb,.string S] a fun e w'=>e=.returned (eJ er)/\xk w.heap.size a w'/\c w')
  (h2:∀f,c f->gc 95 #[hh Sb,.string S] f fun e w'=>e=.returned (eJ er)/\d w'):
  gc 50 #[hh W,hh wb,hh Sb,.agg (Hm 10 a1 a2 a3 S T la lm lc)] w fun e w'=>e=.returned (.bool true)/\d w':=by
 unfold Hm;have g:=fun(w':World)=>QP W er er true w' her
 have h:=fun(w':World)=>IR er w';have n:(er==er)=true:=by simp
 have i:Hid _:=h1;have j:Hid _:=h2;clear h1 h2;go_enter func50,ntmps50;go_wp2_with fail;refine io (i.out _ ((lh _ _).alloc (kx _) _) (by simp)) ?_;rintro e k ⟨rfl,b,l⟩;have o:k.cell? (eI w.heap.size 4)=some (.string S):=(b.2 4).trans (by simp);have p:=b.1;clear b;go_wp2_with(first
  |(go_at_call 22;refine io (h _) ?_;rintro _ _ ⟨rfl,rfl⟩)
  |(go_at_call 53;refine io (g _) ?_;rintro _ _ ⟨rfl,rfl⟩)
  |(go_at_call 95;refine io (j.out _ l) ?_;rintro e w3 ⟨rfl,m⟩))
 go_ret;exact⟨rfl,m⟩
theorem Jb(W wb Sb:Nat)(a1 a2 a3:Int)(S T:eD)(la:fD)(lm lc:Nat)(er:Int)(her:(er==14)=false)(c d:World->Prop)(w:World)
  (h1:∀a,ik w a->w.heap.size<a.heap.size->gc 32 #[hh wb,.string S] a fun e w'=>e=.returned (eJ er)/\xk w.heap.size a w'/\c w')
  (h2:∀f,c f->gc 96 #[hh Sb,.string S] f fun e w'=>e=.returned (eJ er)/\d w'):
  gc 50 #[hh W,hh wb,hh Sb,.agg (Hm 11 a1 a2 a3 S T la lm lc)] w fun e w'=>e=.returned (.bool true)/\d w':=by
 unfold Hm;have g:=fun(w':World)=>QP W er er true w' her
 have h:=fun(w':World)=>IR er w';have n:(er==er)=true:=by simp
 have i:Hid _:=h1;have j:Hid _:=h2;clear h1 h2;go_enter func50,ntmps50;go_wp2_with fail;refine io (i.out _ ((lh _ _).alloc (kx _) _) (by simp)) ?_;rintro e k ⟨rfl,b,l⟩;have o:k.cell? (eI w.heap.size 4)=some (.string S):=(b.2 4).trans (by simp);have p:=b.1;clear b;go_wp2_with(first
  |(go_at_call 22;refine io (h _) ?_;rintro _ _ ⟨rfl,rfl⟩)
  |(go_at_call 53;refine io (g _) ?_;rintro _ _ ⟨rfl,rfl⟩)
  |(go_at_call 96;refine io (j.out _ l) ?_;rintro e w3 ⟨rfl,m⟩))
 go_ret;exact⟨rfl,m⟩
theorem Jc(W wb Sb:Nat)(a1 a2 a3:Int)(S T:eD)(la:fD)(lm lc:Nat)(er:Int)(her:(er==14)=false)(c d:World->Prop)(w:World)
  (h1:∀a,ik w a->w.heap.size<a.heap.size->gc 33 #[hh wb,.string S,.string T] a fun e w'=>e=.returned (eJ er)/\xk w.heap.size a w'/\c w')
  (h2:∀f,c f->gc 97 #[hh Sb,.string S,.string T] f fun e w'=>e=.returned (eJ er)/\d w'):
  gc 50 #[hh W,hh wb,hh Sb,.agg (Hm 12 a1 a2 a3 S T la lm lc)] w fun e w'=>e=.returned (.bool true)/\d w':=by
 unfold Hm;have h:=fun(w':World)=>QP W er er true w' her
 have i:=fun(w':World)=>IR er w';have n:(er==er)=true:=by simp
 have j:Hid _:=h1;have k:Hid _:=h2;clear h1 h2;go_enter func50,ntmps50;go_wp2_with fail;refine io (j.out _ ((lh _ _).alloc (kx _) _) (by simp)) ?_;rintro e g ⟨rfl,b,l⟩;have o:g.cell? (eI w.heap.size 4)=some (.string S):=(b.2 4).trans (by simp);have p:g.cell? (eI w.heap.size 5)=some (.string T):=(b.2 5).trans (by simp);have q:=b.1;clear b;go_wp2_with(first
  |(go_at_call 22;refine io (i _) ?_;rintro _ _ ⟨rfl,rfl⟩)
  |(go_at_call 53;refine io (h _) ?_;rintro _ _ ⟨rfl,rfl⟩)
  |(go_at_call 97;refine io (k.out _ l) ?_;rintro e w3 ⟨rfl,m⟩))
 go_ret;exact⟨rfl,m⟩
theorem Qw(W wb Sb:Nat)(a1 a2 a3:Int)(S T:eD)(la:fD)(lm lc:Nat)(k sz er:Int)(her:(er==14)=false)(g:World->Prop)(w:World)
  (h1:∀f,ik w f->w.heap.size<f.heap.size->gc 67 #[hh wb,.string S] f fun e w'=>e=.returned (.tuple #[.agg #[eJ k,eJ sz],eJ er])/\xk w.heap.size f w'/\g w')
  (h2:∀c,g c->∀W2,ik c W2->gc 90 #[hh Sb,.string S] W2 (pB (.tuple #[.agg #[eJ k,eJ sz],eJ er]) W2)):
  gc 50 #[hh W,hh wb,hh Sb,.agg (Hm 8 a1 a2 a3 S T la lm lc)] w fun e w'=>e=.returned (.bool true)/\∃c,g c/\ik c w':=by
 unfold Hm;have l:=fun(b:Bool) (w':World)=>QP W er er b w' her
 have o:(er==er)=true:=by simp
 have m:Hid _:=h1;have n:Hid _:=h2;clear h1 h2;go_enter func50,ntmps50;go_wp2_with fail;refine io (m.out _ ((lh _ _).alloc (kx _) _) (by simp)) ?_;rintro e a ⟨rfl,h,i⟩;have q:a.cell? (eI w.heap.size 4)=some (.string S):=(h.2 4).trans (by simp);have r:=h.1;clear h;go_wp2_with fail;refine io (n.out _ i _ ((lh _ _).alloc (kx _) _)) ?_;rintro e w3 ⟨rfl,d⟩;have s:w3.cell? (eI a.heap.size 0)=some (eJ k):=(d.cell (p:=(eI a.heap.size 0)) (by simp)).trans (by simp);have t:w3.cell? (eI a.heap.size 1)=some (eJ sz):=(d.cell (p:=(eI a.heap.size 1)) (by simp)).trans (by simp);have u:a.heap.size<w3.heap.size:=by have:=d.size;simp at this;omega
 have j:ik a w3:=((lh _ _).alloc (kx _) _).trans (d.mono (by simp));clear d;go_wp2_with(go_at_call 53;refine io (l _ _) ?_;rintro _ _ ⟨rfl,rfl⟩)
 all_goals
  go_ret;exact⟨rfl,a,i,j.alloc j.size _⟩
theorem Qx(W wb Sb:Nat)(a1 a2 a3:Int)(S T:eD)(la:fD)(lm lc:Nat)(er:Int)(her:(er==14)=false)(xs:eL)(q:xs.length<=1000000000)(i:fD->Nat->World->Prop)(r:World->Prop)(w:World)
  (h1:∀h,ik w h->w.heap.size<h.heap.size->gc 68 #[hh wb,.string S] h fun e w'=>∃a c,e=.returned (.tuple #[.slice a xs.length c,eJ er])/\xk w.heap.size h w'/\w'.ownsRow 0 9 1 (.slice a xs.length c) xs.length (fU xs)/\i a c w')
  (h2:∀a c f,i a c f->∀W2,ik f W2->gc 91 #[hh Sb,.string S] W2 fun e w'=>∃a c,e=.returned (.tuple #[.slice a xs.length c,eJ er])/\w'.ownsRow 0 9 1 (.slice a xs.length c) xs.length (fU xs)/\ik W2 w')
  (h3:∀a c f,i a c f->∀W2,ik f W2->gc 93 #[.pointer (some (eI W 8)),.slice a xs.length c] W2 fun e w'=>e=.returned (.tuple #[])/\r w'):
  gc 50 #[hh W,hh wb,hh Sb,.agg (Hm 9 a1 a2 a3 S T la lm lc)] w fun e w'=>e=.returned (.bool true)/\r w':=by
 unfold Hm;have B:=fun(b:Bool) (w':World)=>QP W er er b w' her
 have P:(er==er)=true:=by simp
 have C:Hid _:=h1;have D:Hid _:=h2;have E:Hid _:=h3;have s:=fun(a b:fD) (c d:Nat) (F:World) G H=>De a b c d xs xs F q q G H;have I:Hid _:=s;obtain⟨n,hn⟩:∃n,n=xs.length:=⟨_,rfl⟩;have j:Hid (n=xs.length):=hn;clear h1 h2 h3 s hn;go_enter func50,ntmps50;go_wp2_with fail;refine io (C.out _ ((lh _ _).alloc (kx _) _) (by simp)) ?_;rintro e k ⟨a,c,rfl,l,t,u⟩;have Q:k.cell? (eI w.heap.size 4)=some (.string S):=(l.2 4).trans (by simp);have R:=l.1;clear l;have v:Hid (k.ownsRow 0 9 1 (.slice a xs.length c) xs.length (fU xs)):=t;clear t;go_wp2_with fail;refine io (D.out _ _ _ u _ (lh _ _)) ?_;rintro e w3 ⟨J,K,rfl,x,m⟩;have y:w3.ownsRow 0 9 1 (.slice a xs.length c) xs.length (fU xs):=eQ v.out (fun g hg=>m.block g (eK v.out hg));have o:=I.out a J c K w3 y x;simp only[decide_true]at o;have z:Hid _:=o;have A:Hid (ik k w3):=m;clear y o x m;rw[<-j.out];rw[<-j.out]at z;go_wp2_with(first
  |(go_at_call 53;refine io (B _ _) ?_;rintro _ _ ⟨rfl,rfl⟩)
  |(go_at_call 92;refine io z.out ?_;rintro _ L ⟨rfl,M⟩;have p:=E.out _ _ _ u L (A.out.trans (M.mono A.out.size));rw[<-j.out]at p;have N:Hid _:=p;clear p)
  |(go_at_call 93;refine io N.out ?_;rintro _ w5 ⟨rfl,O⟩))
 all_goals
  go_ret;exact⟨rfl,O⟩
def Jd (n:Nat)(s:eD):eD:=if h:n=0 then s else Jd (n / 10) (s++⟨#[UInt8.ofNat (65+n % 10)]⟩)
termination_by n
decreasing_by omega
def zi (n:Nat):eD:=Jd n ⟨#[109]⟩
theorem Uo(w:World)(n:Int):(convert 204 9 (.slice (some (eI w.heap.size 0)) 1 1)).run prog (w.alloc (.cells #[.int .u8 n] 5))=.ok (.string (strOfNums [n])) (w.alloc (.cells #[.int .u8 n] 5)):=
 run_convert_bytes_arg (P:=prog) (w.alloc (.cells #[.int .u8 n] 5)) 204 5 (by kernel_rfl) (by kernel_rfl) w.heap.size 0 1 1 [n] rfl (fun i hi=>by
  have:i=0:=by omega
  subst this
  simp) 9 (by kernel_rfl)
theorem Je(n:Nat)(w:World)(hn:n<=1000000000):
  gc 58 #[eJ (n:Int)] w (pB (.string (zi n)) w):=by
 go_enter func58,ntmps58;go_wp2
 go_loopw [0,3] (fun i s wr=>∃(k:Nat) (t:eD),t.size+k<=n+1/\i=.int .i64 (k:Int)/\s=.string t/\Hid (Jd k t=zi n)/\Hid (ik w wr)) (fun i _ _=>(intOf i).toNat)
 case atStart=>exact⟨n,⟨#[109]⟩,by show 1+n<=n+1;omega,rfl,rfl,rfl,lh _ _⟩
 case round=>
  obtain⟨k,t,hk,rfl,rfl,b,a⟩:=hrel;by_cases c:k=0
  ·subst c
   go_wp2;go_ret;refine⟨?_,a.out⟩
   have:=b.out
   rw[Jd]at this;simp at this;rw[<-this];rfl
  ·have hp:0<(k:Int):=by omega
   have d:(strOfNums [65+(k:Int) % 10]).size=1:=rfl;have f:=Uo wr (65+(k:Int) % 10);go_wp2;refine⟨⟨k / 10,_,?_,by go_num,rfl,?_,a.out.alloc a.out.size _⟩,by simp[intOf];omega⟩
   ·rw[Pd,d];omega
   ·show _=_
    rw[<-b.out];conv=>rhs;rw[Jd]
    rw[dif_neg c];have e:strOfNums [65+(k:Int) % 10]=⟨#[UInt8.ofNat (65+k % 10)]⟩:=by
     unfold strOfNums
     have:(65+(k:Int) % 10).toNat=65+k % 10:=by omega
     simp[this]
    rw[e]
theorem Up:(prog.info? 131).map (fun i=>(i.zero,i.size,i.bytes))=some (some (.slice none 0 0),1,24):=by kernel_rfl
theorem Xr(n:Nat)(h:V.oneCell'=true):∀a∈List.replicate n V,a.oneCell'=true:=fun a hu=>by rw[List.eq_of_mem_replicate hu];exact h
theorem dev{base:Nat}{g k a b:Nat}{rest:fQ}(h:w.ownsRow base t 1 (.slice (some (eI g 0)) a b) a (List.replicate k V++rest))(hr:1<=rest.length):
  (w.setCell (eI g k) V).ownsRow base t 1 (.slice (some (eI g 0)) a b) a (List.replicate (k+1) V++rest.drop 1):=by
 have h1:=(h.stored k V).1;cases rest with
 |nil=>simp at hr
 |cons r rs=>
  have e:(List.replicate k V++r::rs).set k V=List.replicate (k+1) V++(r::rs).drop 1:=by
   rw[KO _ _ (by simp),wk,Hq,EZ];simp
  rw[e]at h1;exact h1
theorem iG{t tl:gi}(m:t≠71)(r:t≠tl)(s:tl≠t){w S f:World}{W:Nat}{cs u:Array Value}{i o:Option Nat}{a:fD}{n c g j p:Nat}{xs y:fQ}(hW:S.heap[W]?=some (.cells cs 71 (0,0)))(row:S.ownsRow 0 tl 1 (.slice a n c) n xs)
  (q:∀x,(Value.slice a n c).ownBlock=some x->some x=i\/w.heap.size<=x)(hk:eA (fun x=>x=W\/some x=i\/some x=o) w S)
  (P:f.heap[W]?=some (.cells u 71 (0,0))/\f.ownsRow 0 tl 1 (.slice (some (eI g 0)) j p) j y/\((some g:Option Nat)=(Value.slice a n c).ownBlock\/S.heap.size<=g)/\eA (fun k=>k=W\/some k=(Value.slice a n c).ownBlock) S f):
  (∀x,(Value.slice (some (eI g 0)) j p).ownBlock=some x->some x=i\/w.heap.size<=x)/\eA (fun x=>x=W\/some x=i\/some x=o) w f/\
   ∀{b:Nat} {v:Value} {l:Nat} {ys:fQ},S.ownsRow b t 1 v l ys->f.ownsRow b t 1 v l ys:=by
 obtain⟨A,B,z,d⟩:=P;refine⟨fun x hx=>?_,⟨d.os.trans hk.os,d.tape.trans hk.tape,d.output.trans hk.output,wl hk.size d.size,fun x hx hn=>?_⟩,fun hr=>iW hr d hW (by first|exact m|exact m.symm) (fun g hg=>px hr row (by first|exact r|exact s) hg)⟩
 ·simp only[Value.ownBlock,mZ]at hx
  subst hx;rcases z with e|e
  ·exact q _ e.symm
  ·exact .inr (wl hk.size e)
 ·rw[d.block x (lO hx hk.size) ?_]
  ·exact hk.block x hx hn
  ·rintro(e|e)
   ·exact hn (.inl e)
   ·rcases q x e.symm with h|h
    ·exact hn (.inr (.inl h))
    ·omega
def Bz (w:World)(V:Value)(h:gf):Prop:=∀j,j<h.2.1->∃g,h.1=some ⟨g,0,none⟩/\w.cell? ⟨g,j,none⟩=some V
theorem uw(h:w.cell? (eI g o)=some v):g<w.heap.size:=by
 rcases Pw g w.heap.size with hl|hl
 ·exact hl
 ·have:w.heap[g]?=none:=Array.getElem?_eq_none hl
  simp[World.cell?,this]at h
theorem iB{w w':World}(a:ik w w')(h:w.cell? (eI g o)=some v):w'.cell? (eI g o)=some v:=(a.cell (p:=(eI g o)) (uw h)).trans h
theorem LV(W:Nat)(na ea ia:fD)(nc ec ic:Nat)(ns hs js:List gf)(w:World)(hW:W<w.heap.size)
  (E:w.cell? (eI W 8)=some (.slice na ns.length nc))(F:w.cell? (eI W 9)=some (.slice ea hs.length ec))(I:w.cell? (eI W 10)=some (.slice none 0 0))(G:w.cell? (eI W 11)=some (.slice ia js.length ic))
  (kJ:w.ownsRow 0 131 1 (.slice na ns.length nc) ns.length (ns.map fP))(J:w.ownsRow 0 55 1 (.slice ea hs.length ec) hs.length (hs.map fP))(lW:w.ownsRow 0 59 1 (.slice ia js.length ic) js.length (js.map fP))
  (K:∀i (hi:i<ns.length),Bz w (.string (zi (i / 4))) ns[i])(L:∀i (hi:i<hs.length),Full w i hs[i])(N:∀i (hi:i<js.length),Bz w (eJ (-1000-((i / 4:Nat):Int))) js[i])
  (aa:ns.length<=1000000000)(ab:hs.length<=1000000000)(ac:js.length<=1000000000)(O:∀h∈ns,h.2.1<=1000000000)(P:∀h∈hs,h.2.1<=1000000000)(Q:∀h∈js,h.2.1<=1000000000):
  gc 24 #[.pointer (some (eI W 8))] w (pB (.bool true) w):=by
 obtain⟨f,x⟩:∃n,n=ns.length:=⟨_,rfl⟩;obtain⟨ne,hne⟩:∃n,n=hs.length:=⟨_,rfl⟩;obtain⟨p,y⟩:∃n,n=js.length:=⟨_,rfl⟩;have ad:Hid (f=ns.length):=x;have ae:Hid (ne=hs.length):=hne;have af:Hid (p=js.length):=y;rw[<-x]at E aa;rw[<-hne]at F ab;rw[<-y]at G ac;have R:Hid _:=E;have ag:Hid _:=F;have ah:Hid _:=I;have ai:Hid _:=G;have aj:Hid (w.ownsRow 0 131 1 (.slice na f nc) f (ns.map fP)):=by rw[x];exact kJ
 have ak:Hid (w.ownsRow 0 55 1 (.slice ea ne ec) ne (hs.map fP)):=by rw[hne];exact J
 have al:Hid (w.ownsRow 0 59 1 (.slice ia p ic) p (js.map fP)):=by rw[y];exact lW
 have FN:Hid (∀i (hi:i<ns.length),Bz w (.string (zi (i / 4))) ns[i]):=K;have FE:Hid (∀i (hi:i<hs.length),Full w i hs[i]):=L;have FI:Hid (∀i (hi:i<js.length),Bz w (eJ (-1000-((i / 4:Nat):Int))) js[i]):=N;have am:Hid (∀h∈ns,h.2.1<=1000000000):=O;have an:Hid (∀h∈hs,h.2.1<=1000000000):=P;have ao:Hid (∀h∈js,h.2.1<=1000000000):=Q;clear E F I G kJ J lW K L N O P Q x hne y;go_enter func24,ntmps24;go_wp2
 go_loopw [3] (fun i wr=>∃k:Nat,k<=f/\i=.int .i64 (k:Int)/\Hid (ik w wr)) (fun i _=>f-(intOf i).toNat)
 case atStart=>exact⟨0,tk _,rfl,lh _ _⟩
 case round=>
  obtain⟨k,hk,rfl,a⟩:=hrel;have c8:=iB a.out R.out;have au:W<wr.heap.size:=by have:=a.out.size;omega
  by_cases r:k<f
  ·have c:k<ns.length:=by rw[<-ad.out];exact r
   obtain⟨⟨d,hm,hc⟩,b⟩:∃h:gf,h=ns[k]:=⟨_,rfl⟩;obtain⟨z,s,S,l,_⟩:=row_one aj.out (i:=k) (v:=.slice d hm hc) (by rw[WN,jy c,<-b];rfl);subst s;have T:hm<=1000000000:=by have:=am.out _ (kj c);rw[<-b]at this;exact this
   obtain⟨M,H⟩:∃M,M=zi (k / 4):=⟨_,rfl⟩;have t:Hid (Bz w (.string M) (d,hm,hc)):=by have:=FN.out k c;rw[<-b,<-H]at this;exact this
   have ap:Hid (gc 58 #[eJ ((k:Int) / 4)] wr (pB (.string M) wr)):=by
    have:=Je (k / 4) wr (by omega)
    rw[<-H,show((k / 4:Nat):Int)=(k:Int) / 4 by omega]at this;exact this
   have A:(k:Int)<(f:Int):=by omega
   have aq:Hid (w.cell? (eI z k)=some (.slice d hm hc)):=l;clear b H l;go_wp2_with fail;refine io ap.out ?_;rintro _ B ⟨rfl,U⟩;have q:Hid (ik w B):=a.out.trans (U.mono a.out.size);have d8:=iB q.out R.out;have C:=iB q.out aq.out;have av:W<B.heap.size:=by have:=q.out.size;omega
   have V:z<B.heap.size:=by have:=q.out.size;omega
   clear U c8;go_wp2
   go_loopw [5] (fun i wq=>∃j:Nat,j<=hm/\i=.int .i64 (j:Int)/\wq=B) (fun i _=>hm-(intOf i).toNat)
   case atStart=>exact⟨0,tk _,rfl,rfl⟩
   case round=>
    obtain⟨j,hj,rfl,rfl⟩:=hrel;rename World=>wz;by_cases u:j<hm
    ·obtain⟨g,m,o⟩:=t.out j u
     simp only at m;subst m;have X:(j:Int)<(hm:Int):=by omega
     have D:=iB q.out o;have Y:=uw D;clear o;go_wp2;go_roundw
     case rel=>exact⟨j+1,by omega,by go_num,by trivial⟩
     case measure=>simp[intOf];omega
    ·go_wp2
     go_roundw
     case rel=>exact⟨k+1,by omega,by go_num,q.out⟩
     case measure=>simp[intOf];omega
  ·have A:k=f:=by omega
   subst A;have c9:=iB a.out ag.out;go_wp2;rename World=>wz
   go_loopw [6] (fun i wq=>∃k:Nat,k<=ne/\i=.int .i64 (k:Int)/\wq=wz) (fun i _=>ne-(intOf i).toNat)
   case atStart=>exact⟨0,tk _,rfl,rfl⟩
   case round=>
    obtain⟨k,hk,rfl,e⟩:=hrel;subst e;by_cases r:k<ne
    ·have c:k<hs.length:=by rw[<-ae.out];exact r
     obtain⟨⟨d,hm,hc⟩,b⟩:∃h:gf,h=hs[k]:=⟨_,rfl⟩;obtain⟨z,s,S,l,_⟩:=row_one ak.out (i:=k) (v:=.slice d hm hc) (by rw[WN,jy c,<-b];rfl);subst s;have T:hm<=1000000000:=by have:=an.out _ (kj c);rw[<-b]at this;exact this
     have t:Hid (Full w k (d,hm,hc)):=by have:=FE.out k c;rw[<-b]at this;exact this
     have A:(k:Int)<(ne:Int):=(by omega);have ar:(0:Int)<=(k:Int):=by omega
     have C:=iB a.out l;have V:=uw C;clear b l;rename World=>wz;go_wp2
     go_loopw [7] (fun i wq=>∃j:Nat,j<=hm/\i=.int .i64 (j:Int)/\wq=wz) (fun i _=>hm-(intOf i).toNat)
     case atStart=>exact⟨0,tk _,rfl,rfl⟩
     case round=>
      obtain⟨j,hj,rfl,e⟩:=hrel;subst e;by_cases u:j<hm
      ·obtain⟨g,m,o,D,Z⟩:=t.out j u
       simp only at m;subst m;have X:(j:Int)<(hm:Int):=by omega
       have aw:(Bi k).1.toList=[]:=by show ByteArray.empty.toList=[];simp only[xO];decide
       have ax:(Bi k).2.1=-1000-(k:Int) / 4:=by show -1000-((k / 4:Nat):Int)=_;omega
       have ay:(Bi k).2.2=0:=rfl;have q0:=iB a.out o;have az:=iB a.out D;have aA:=iB a.out Z;have Y:=uw q0;clear o D Z;go_wp2;go_roundw
       case rel=>exact⟨j+1,by omega,by go_num,by trivial⟩
       case measure=>simp[intOf];omega
      ·go_wp2
       go_roundw
       case rel=>exact⟨k+1,by omega,by go_num,by trivial⟩
       case measure=>simp[intOf];omega
    ·have c10:=iB a.out ah.out
     have c11:=iB a.out ai.out;rename World=>wz;go_wp2
     go_loopw [8] (fun i wq=>i=.int .i64 0/\wq=wz) (fun _ _=>0)
     case atStart=>exact⟨rfl,rfl⟩
     case round=>
      obtain⟨rfl,e⟩:=hrel;subst e;rename World=>wy;go_wp2
      go_loopw [10] (fun i wq=>∃k:Nat,k<=p/\i=.int .i64 (k:Int)/\wq=wy) (fun i _=>p-(intOf i).toNat)
      case atStart=>exact⟨0,tk _,rfl,rfl⟩
      case round=>
       obtain⟨k,hk,rfl,e⟩:=hrel;subst e;by_cases r:k<p
       ·have c:k<js.length:=by rw[<-af.out];exact r
        obtain⟨⟨d,hm,hc⟩,b⟩:∃h:gf,h=js[k]:=⟨_,rfl⟩;obtain⟨z,s,S,l,_⟩:=row_one al.out (i:=k) (v:=.slice d hm hc) (by rw[WN,jy c,<-b];rfl);subst s;have T:hm<=1000000000:=by have:=ao.out _ (kj c);rw[<-b]at this;exact this
        have t:Hid (Bz w (eJ (-1000-(k:Int) / 4)) (d,hm,hc)):=by
         have:=FI.out k c
         rw[<-b,show((k / 4:Nat):Int)=(k:Int) / 4 by omega]at this;exact this
        have A:(k:Int)<(p:Int):=(by omega);have ar:(0:Int)<=(k:Int):=by omega
        have C:=iB a.out l;have V:=uw C;clear b l;rename World=>wx;go_wp2
        go_loopw [11] (fun i wq=>∃j:Nat,j<=hm/\i=.int .i64 (j:Int)/\wq=wx) (fun i _=>hm-(intOf i).toNat)
        case atStart=>exact⟨0,tk _,rfl,rfl⟩
        case round=>
         obtain⟨j,hj,rfl,e⟩:=hrel;subst e;by_cases u:j<hm
         ·obtain⟨g,m,o⟩:=t.out j u
          simp only at m;subst m;have X:(j:Int)<(hm:Int):=by omega
          have q0:=iB a.out o;have Y:=uw q0;clear o;go_wp2;go_roundw
          case rel=>exact⟨j+1,by omega,by go_num,by trivial⟩
          case measure=>simp[intOf];omega
         ·go_wp2
          go_roundw
          case rel=>exact⟨k+1,by omega,by go_num,by trivial⟩
          case measure=>simp[intOf];omega
       ·go_wp2
        go_ret;exact⟨rfl,a.out⟩
theorem BA{g a p b:Nat}(h:w.ownsRow 0 t 1 (.slice (some (eI g 0)) a b) a (List.replicate a V))(hp:p<=a):w.ownsRow 0 t 1 (.slice (some (eI g 0)) p b) p (List.replicate p V):=by
 obtain⟨h1,h2⟩:=h;rcases h2 with⟨hv,_⟩|⟨i,cap,c,hv,d,hg,j,e,f,ht⟩
 ·cases hv
 ·cases hv
  refine⟨by simp,.inr ⟨g,b,c,rfl,d,hg,by omega,e,f,?_⟩⟩
  have:=xr (List.take p) ht
  rw[List.take_take,List.take_replicate]at this;rw[Nat.mul_one]at this ⊢;rw[xQ hp]at this;exact this
def Room (w w':World)(la:fD)(c:Nat)(a:Value)(n:Nat):Prop:=
 (w.grownBy w' none/\∃g cap,a=.slice (some ⟨g,0,none⟩) n cap/\w.heap.size<=g)\/(∃g,la=some ⟨g,0,none⟩/\a=.slice (some ⟨g,0,none⟩) n c/\w.grownBy w' (some g))
theorem gJ{P:Program}{ops:Array Oper}{rest:List Oper}{o:Oper}{a:Act}{v:Exit->Act->World->Prop}(B:o.guard=none)(s x:Operand)(t:gi)
  (ho:o.op=.call { callee:=.builtin .append,args:=#[s,x],argTypes:=#[t,t] })
  (e:gi)(i:TypeInfo)(z:Value)(bytes:Nat)(ht:P.underlying t=some (.slice e))(hi:P.info? e=some i)(C:i.zero=some z)
  (r:i.size=1)(D:i.bytes=bytes)(E:z.cells.size=1)(V:Value)(I:V.oneCell'=true)
  (la:fD)(n c:Nat)(hs:a.eval s=.slice la n c)(p:w.ownsRow 0 e 1 (.slice la n c) n (List.replicate n V))
  (q:Addr)(m u:Nat)(hm:0<m)(hx:a.eval x=.slice (some q) m u)(y:∀j d,(List.replicate m V)[j]?=some d->w.cell? (q.add j)=some d)
  (F:n+m<=maxLen)(G:(n+m)*bytes<=140737488355328)
  (h:∀f w',w'.ownsRow 0 e 1 f (n+m) (List.replicate (n+m) V)->w'.ownsRow 0 e 1 (.slice la n c) n (List.replicate n V)->Room w w' la c f (n+m)->wpList P ops v rest (a.put o.dst f) w'):wpList P ops v (o::rest) a w:=by
 have hl:(List.replicate m V).length=m*1:=by simp
 have J:(List.replicate n V).length=n*1:=by simp
 have h1:∀d∈List.replicate m V,d.oneCell'=true:=Xr m I;have grow:c<n+m->(la=none->n=0/\c=0)->(∀b,la=some b->∀j d,(List.replicate n V)[j]?=some d->w.cell? (b.add j)=some d)->wpList P ops v (o::rest) a w:=fun hc hn K=>by
  refine WV w B s x t ho e i z 1 bytes ht hi C r D E (by decide) la n c (List.replicate n V) hs hn J K q m u (List.replicate m V) hx hl y h1 hc F G ?_;intro f w' hv hg;rw[WA]at hv;obtain⟨g,cap,rfl⟩:=fj hv (by omega);have L:w.heap.size<=g:=by
   rcases hv.2 with⟨h0,_⟩|⟨S,_,_,h0,l,_⟩
   ·cases h0
   ·cases h0;exact l
  exact h _ w' (pj hv (tk _)) (eQ p (fun k hk=>hg.block k (eK p hk) (by simp))) (.inl ⟨hg,g,cap,rfl,L⟩)
 rcases p.2 with⟨hv,T⟩|⟨g,cap,M,hv,l,hg,U,W,X,Y⟩
 ·cases hv
  exact grow (by omega) (fun _=>⟨rfl,rfl⟩) (fun b l=>by cases l)
 ·cases hv
  by_cases N:n+m<=c
  ·obtain⟨f,w',hr,A,O,_,Z⟩:=run_append_own_at (P:=P) w 0 t o.type e i z 1 bytes ht hi C r D E (by decide) _ n _ p q m u (List.replicate m V) hl y h1 F G (tk _)
   have H:=run_append_room (P:=P) w t o.type e i ht hi g n c M hg q m u (List.replicate m V) (by rw[r];exact hl) y h1 N (by rw[r];simp;omega);rw[hr]at H;have Q:f=.slice (some (eI g 0)) (n+m) c:=(Result.ok.inj H).1;subst Q;rw[WA]at A;refine Pr B fun _ R=>?_;unfold Oper.wp;simp[execOp,ho,resolve,invoke,builtin,hs,hx,hr,Result.andThen];exact R _ _ (h _ w' A (BA A (by omega)) (.inr ⟨g,rfl,rfl,O⟩))
  ·exact grow (by omega) (fun h0=>by cases h0) (fun b l=>by cases l;exact p.cells (g:=g) rfl)
end Go.Proofs.YtlgidcmmgohagaaGreat
