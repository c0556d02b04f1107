/- A part of the proof. -/
import Derived.Test.YtlgidcmmgohagaaGreatComM10
set_option linter.all false
namespace Go.Proofs.YtlgidcmmgohagaaGreat
open Go.RowKit Go.Sort Go.Shelf Go.Proofs.Tryz
open Go.Value renaming slice->fy,string->fA,pointer->fB,tuple->fC,agg->fD,bool->fE
open Go.Ending renaming returned->fF
open Option renaming some->fh,none->fj
open Bool renaming true->fm,false->fo
open Go renaming World->fq,Value->fu
open List renaming length->fv,reverse->fx
open Go.RowKit renaming Hid->fe
set_option maxRecDepth 100000
set_option maxHeartbeats 0
variable {W w O w4:fq}{o1:Obj}{l p q:fT}{f g n:Nat}{x:fP}
def itc:(prog.info? 59).map (λi=>(i.zero,i.size,i.bytes))=fh (fh<|fy fj 0 0,1,24):=by kernel_rfl
theorem FJ(W q:Nat)(cs:Array fu)(b:ig)(d m c:Nat)(a)(h:List ox)(G:iN)(w:fq)(l:w.heap[W]?=fh (.cells cs 71 (0,0)))(aj:4*q<=1000000000)(y:m<=1000000000):
  (cs[11]?=fh (fy b (4*q) d)->w.ownsRow 0 59 1 (fy b (4*q) d) (4*q) (h.map qL)->w.ownsRow 0 29 1 (fy a m c) m G->ik 88 #[fB<|fh (ii W 8),fy a m c] w λe H=>e=pD #[]/\rW 29 59 1 [fY<|-1000-(q:Int)] 11 w H W q cs b d a m c h)/\
  (cs[8]?=fh (fy b (4*q) d)->w.ownsRow 0 131 1 (fy b (4*q) d) (4*q) (h.map qL)->w.ownsRow 0 9 1 (fy a m c) m G->ik 93 #[fB<|fh (ii W 8),fy a m c] w λe H=>e=pD #[]/\rW 9 131 1 [hh<|JA q] 8 w H W q cs b d a m c h):=by
 have ak:W<w.heap.size:=(lW.1 l).1;have al:((4*q:Nat):Int) / 4=(q:Int):=by omega
 have am:(4*(q:Int)) / 4=(q:Int):=by omega
 obtain⟨n,z⟩:=ol<|JA q;have T:fe (ik 58 #[fY (q:Int)] w<|ut (hh n) w):=by rw[z];exact OA q w<|by omega
 rw[<-z];clear z;obtain⟨r,s⟩:=ol<|-1000-(q:Int);rw[<-s];constructor
 case' left=>
  intro t row j;have o:Ih 59 29 [fY r]:=⟨_,_,underlying59,Lk,Vn,fX,by simp,by decide⟩;have p:Ih 67 59 [fy fj 0 0]:=⟨_,_,underlying67,yj,itc,fX,by simp,by decide⟩;have I:w.c W 11=fh (fy b (4*q) d):=by simp[World.cell?,l,t]
  have u:fe (∀f,ju w f->iF 29 [fY r] w a m c f 0):=λf A=>iF.first j A
  have B:fe (∀{wr vs},nL 29 [fY r] w a m c wr vs->wr.heap[W]?=fh (.cells cs 71 (0,0))/\wr.ownsRow 0 59 1 (fy b (4*q) d) (4*q) (h.map qL)):=λC=>zR j l row (by decide) (by decide) C;obtain⟨J,D⟩:=ol (iF 29 [fY r] w a m c:fq->Nat->Prop)
 case' right=>
  intro t row j;have o:Ih 131 9 [hh n]:=⟨_,_,underlying131,Bg,uz,fX,by simp,by decide⟩;have p:Ih 64 131 [fy fj 0 0]:=⟨_,_,underlying64,yj,gid,fX,by simp,by decide⟩;have I:w.c W 8=fh (fy b (4*q) d):=by simp[World.cell?,l,t]
  have u:fe (∀f,ju w f->iF 9 [hh n] w a m c f 0):=λf A=>iF.first j A
  have B:fe (∀{wr vs},nL 9 [hh n] w a m c wr vs->wr.heap[W]?=fh (.cells cs 71 (0,0))/\wr.ownsRow 0 131 1 (fy b (4*q) d) (4*q) (h.map qL)):=λC=>zR j l row (by decide) (by decide) C;obtain⟨J,D⟩:=ol (iF 9 [hh n] w a m c:fq->Nat->Prop)
 all_goals
  have v:fe _:=D;clear j row D
  first|go_enter func88,ntmps88|go_enter func93,ntmps93
 case' left=>
  rw[s]at u B o v |-;have K:fe _:=u.o w<|mi _ _;clear s
 case' right=>
  clear s;go_wp2_with fail;refine Calls.via T.o λU L=>?_
  have K:fe _:=u.o U L;clear L I
 all_goals
  go_wp2
  go_loopw [5] (λi wr=>∃k:Nat,k<=m/\i=.int .i64 (k:Int)/\fe (J wr k)) (λi _=>m-(intOf i).toNat)
  case atStart=>exact⟨0,zt _,rfl,by rw[v.o];exact K.o⟩
  case round=>
   obtain⟨k,an,rfl,x⟩:=hrel;rw[v.o]at x;by_cases M:k<m
   ·obtain⟨g,rfl,ao,ap,aq,N⟩:=x.o.cells M
    have ar:(k:Int)<(m:Int):=(by omega);have⟨au,V⟩:=N 0 (by simp);simp only[lq,zy,iO,Nat.mul_one,Ee]at V;clear N;go_wp2;go_roundw
    case rel=>exact⟨k+1,by omega,by go_num,by rw[v.o];exact x.o.aaQ M⟩
    case measure=>simp[intOf];omega
   have X:k=m:=by omega
   subst X;have P:fe _:=x.o.done;have av:((k:Int)<(k:Int))=False:=by simp
   have aw:=P.o.keeps.size;go_wp2_with(at_builtin;apply nL.wp P o fX fX fX fX fX ⟨y,by decide⟩ fX);intro ax ay az aA Y;go_wp2_with(at_builtin;refine nL.wp Y o fX fX fX fX fX ⟨y,by decide⟩ fX ?_);intro aB aC aD aE Z;go_wp2_with(at_builtin;refine nL.wp Z o fX fX fX fX fX ⟨y,by decide⟩ fX ?_);intro aF aG wc aH Q;have⟨E,F⟩:=B.o Q.o;have R:fe _:=jU.first E t F
   have S:fe _:=And.intro E F;clear E F;have⟨aI,aa,f0⟩:=R.o.cells;go_wp2_with(at_builtin;apply jU.wp R (by decide) p fX (by omega) fX fX fX fX (by simp) fX);intro aJ c1 O aK ab f1 ac;clear aa f0;go_wp2_with(at_builtin;apply jU.wp ac (by decide) p fX (by omega) fX fX fX fX (by simp) fX);intro aL c2 aM aN ad f2 ae;clear ab f1;go_wp2_with(at_builtin;apply jU.wp ae (by decide) p fX (by omega) fX fX fX fX (by simp) fX);intro aO c3 aP aQ af f3 ag;clear ad f2;go_wp2_with(at_builtin;apply jU.wp ag (by decide) p fX (by omega) fX fX fX fX (by simp) fX);intro aR c4 w4 aS aT f4 ah;clear af f3;have ai:fe _:=NY Q.o S.o.1 S.o.2 (by decide) (by decide) ah.o fX fX fX;go_wp2;go_end0;exact⟨fX,ai.o⟩
def jn (l:fT):Array fu:=#[fA<|l.getD 0 ⟨#[]⟩,fA<|l.getD 1 ⟨#[]⟩,fA<|l.getD 2 ⟨#[]⟩,fA<|l.getD 3 ⟨#[]⟩,fA<|l.getD 4 ⟨#[]⟩]
def ln (l:fT):fu:=fD<|jn l
structure Good (l:fT):Prop where
 val:fL l
 len:l.length<=5
theorem Good.nil:Good []:=⟨λx a=>by simp at a,by simp⟩
theorem Good.take(a:Good l)(k):Good (l.take k):=⟨λx b=>a.val x<|Av b,by have:=a.len;rw[kV];omega⟩
def Good.dropLast(a:Good l):Good l.dropLast:=by rw[List.dropLast_eq_take];exact a.take _
def uj:147<prog.types.size:=BZ<|by kernel_rfl
def gmt:prog.keyTypeAt 9 147=fm:=by kernel_rfl
def yV:Maps.Keyed prog 147:=Maps.Keyed.of_law<|deep_law_laid laidOut (m:=9) (by omega) uj gmt (by rw[underlying147])
def goN:prog.cellsOf 147=5:=by kernel_rfl
def Kit:prog.keyType 147=fm:=by kernel_rfl
theorem XN(a:fL l)(i):(l.getD i kq).size<=maxLen:=by
 rw[wK];by_cases U:i<fv l;rw[jH U]
 have:=(xp<|a _ (kN U)).2
 grind [maxLen]
 rw[wm<|by omega];decide
theorem Lcm(d:Nat)(l)(a:fL l):∃M,prog.keyLits (d+2) 147 (jn l).toList=fh M:=by
 have b:∀i,prog.keyLits (d+1) 9 [.string<|l.getD i kq]=fh [.string (l.getD i kq).data.toList]:=λi=>by
  have:=XN a i
  generalize l.getD i kq=x at this;unfold Program.keyLits;simp[underlying9,this]
 have⟨c,e⟩:=mapM_some (λi=>prog.keyLits (d+1) 9<|((jn l).toList.drop (i*1)).take 1) (List.range 5) (by
  intro i U;rw[List.mem_range] at U;have f:((jn l).toList.drop<|i*1).take 1 = [.string<|l.getD i kq]:=by
   rcases (show i=0\/i=1\/i=2\/i=3\/i=4 by omega) with rfl | rfl | rfl | rfl | rfl <;> rfl
  rw[f];exact⟨_,b i⟩)
 refine⟨c.flatten,?_⟩;have g:(jn l).toList.length=5:=fX;unfold Program.keyLits;simp only[underlying147,goN,g,if_true,dk2,e,Option.map_some]
def qi (a:Program)(l:fT):Lit:=(keyOf a 147<|ln l).getD .nil
theorem nt(a:fL l):keyOf prog 147 (ln l)=fh (qi prog l):=by
 have e:∃k,keyOf prog 147 (ln l)=fh k:=by
  have b:Value.formed prog 147 (fD<|jn l)=fm:=by
   unfold Value.formed;rw[underlying147];simp[goN,jn]
  obtain⟨n,c⟩:∃n,prog.types.size+1=n+2:=⟨prog.types.size-1,by have:=uj;omega⟩;have⟨M,d⟩:=Lcm n l a;unfold keyOf ln;rw[underlying147];simp only[Kit,b,Bool.and_self,dat,Value.cells,c,d,oV]
  grind
 grind [qi]
def JB(a:fN x=fm):x≠kq:=λe=>by
 have:=(xp a).1
 rw[e]at this
 exact absurd this<|by decide
theorem XO(c:Good p)(d:Good q)(e:jn p=jn q):p=q:=by
 have f:∀i,i<5->p.getD i kq=q.getD i kq:=by
  intro i U;unfold jn at e
  grind
 have g:=c.len;have h:=d.len;apply KO;intro i;by_cases U:i<5;have k:=f i U;rw[wK,wK]at k;rcases b:p[i]? with _|x
 cases a:q[i]? with
 |none=>rfl
 |some y=>rw[b,a]at k;exact absurd k.symm<|JB (d.val y<|cex a)
 cases a:q[i]? with
 |none=>rw[b,a]at k;exact absurd k<|JB (c.val x<|cex b)
 |some y=>rw[b,a]at k;exact congrArg fh k
 grind
theorem uE(a:Good p)(b:Good q)(d:qi prog p=qi prog q):p=q:=by
 have c:=nt b.val;rw[<-d]at c
 have:=yV.inj (nt a.val) c
 exact XO a b<|Value.agg.inj this
def Vy(a:Good p):WideAt.IsKeyLit (qi prog p):=yV.key<|nt a.val
theorem gX(a:Good p)(b:Good q)(w):(Op.equal 147 (ln p)<|ln q).run prog w=.ok (decide (p=q)) w:=by
 have⟨c,_⟩:=run_equal_deep w (m:=9) (by omega) gmt (by rw[underlying147]) (nt a.val)<|nt b.val
 grind [decide,qu,yv,absurd,uE]
theorem sf(l):∃a b c d Z,jn l=(ml a b c d Z):=⟨_,_,_,_,_,fX⟩
def OB(a:fN x=fm):(x.toList==[])=fo:=EE.2 λe=>by
 have c:=(xp a).1
 rw[mC]at e
 have b:=congrArg List.length e
 rw[Kd,zy]at b
 omega
def QR(w:fq):ik 75 #[] w (ut (ln []) w):=by
 go_enter func75,ntmps75;go_wp2;exact ni (v:=ln []) (by simp[results,results75,go_sem,ln,jn]) fX ⟨fX,by repeat(first|exact mi _ _|(refine WO ?_ (by simp) _)|(refine wB ?_ (by simp) _))⟩
def ab7(c0 c1 c2 c3 c4:fu)(w):(Instr.index 147 (fD #[c0,c1,c2,c3,c4])<|fY 0).run prog w=.ok c0 w:=by kernel_rfl
def ab8(c0 c1 c2 c3 c4:fu)(w):(Instr.index 147 (fD #[c0,c1,c2,c3,c4])<|fY 1).run prog w=.ok c1 w:=by kernel_rfl
def ab9(c0 c1 c2 c3 c4:fu)(w):(Instr.index 147 (fD #[c0,c1,c2,c3,c4])<|fY 2).run prog w=.ok c2 w:=by kernel_rfl
def acd(c0 c1 c2 c3 c4:fu)(w):(Instr.index 147 (fD #[c0,c1,c2,c3,c4])<|fY 3).run prog w=.ok c3 w:=by kernel_rfl
def ace(c0 c1 c2 c3 c4:fu)(w):(Instr.index 147 (fD #[c0,c1,c2,c3,c4])<|fY 4).run prog w=.ok c4 w:=by kernel_rfl
theorem nN(l)(a:fL l)(b:fv l<=5)(w:fq):ik 142 #[ln l] w (ut (fY (fv l:Int)) w):=by
 have c:∀x∈l,(x.toList==[])=fo:=λx d=>OB<|a x d;have e:=ab7;have f:=ab8;have g:=ab9;have h:=acd;have i:=ace;clear a;unfold ln jn;rcases l with _|⟨j,_|⟨k,_|⟨m,_|⟨n,_|⟨Z,_|⟨o,l⟩⟩⟩⟩⟩⟩
 case cons.cons.cons.cons.cons.cons=>simp at b
 all_goals
  try simp only[List.forall_mem_cons]at c
  clear b;simp only[List.getD_cons_zero,List.getD_cons_succ,tQ];go_enter func142,ntmps142;go_wp2;refine wp_loop_rounds 7 ?_
  repeat(rw[rounds_succ];go_wp2)
  go_ret;exact⟨fX,(mi _ _).alloc (lw _) _⟩
def Ev(w):(zeroValue 9).run prog w=.ok (hh kq) w:=by kernel_rfl
def ixs(a)(W):(Instr.sliceAt 147 (ie a) (fh<|fY 0) fj fj).run prog W=.ok (my a 0 5 5) W/\(Instr.sliceAt 147 (ie a) (fh<|fY 1) fj fj).run prog W=.ok (my a 1 4 4) W/\(Instr.sliceAt 147 (ie a) (fh<|fY 2) fj fj).run prog W=.ok (my a 2 3 3) W/\(Instr.sliceAt 147 (ie a) (fh<|fY 3) fj fj).run prog W=.ok (my a 3 2 2) W/\(Instr.sliceAt 147 (ie a) (fh<|fY 4) fj fj).run prog W=.ok (my a 4 1 1) W/\(Instr.sliceAt 147 (ie a) (fh<|fY 5) fj fj).run prog W=.ok (my a 0 0 0) W:=⟨by kernel_rfl,by kernel_rfl,by kernel_rfl,by kernel_rfl,by kernel_rfl,by kernel_rfl⟩
theorem go2(a c d i Z)(n:Int)(b:Array fu)(w:fq)(j:(n=-1/\b=(ml kq kq kq kq kq))\/(n=0/\b=(ml kq kq kq kq kq))\/(n=1/\b=(ml a kq kq kq kq))\/(n=2/\b=(ml a c kq kq kq))\/(n=3/\b=(ml a c d kq kq))\/(n=4/\b=(ml a c d i kq))\/(n=5/\b=(ml a c d i Z))):
  ik 188 #[fD<|ml a c d i Z,fY n] w (ut (fD b) w):=by
 have f:∀k,k<5->∀g,(Builtin.clear_ #[131] g #[my w.heap.size k (5-k)<|5-k]).run prog ((w.k (ml a c d i Z) 147).k (ml kq kq kq kq kq) 147)=.ok (fC #[]) (((w.k (ml a c d i Z) 147).k (ml kq kq kq kq kq) 147).setCells w.heap.size k<|List.replicate (5-k) (hh kq)):=λk o g=>Lib.run_clear_slice _ 131 9 g (hh kq) underlying131 Ev fX fX w.heap.size k (5-k) (5-k) (by omega)
  (λh l=>by rcases(show k+h=0\/k+h=1\/k+h=2\/k+h=3\/k+h=4 by omega)with e|e|e|e|e<;>rw[e]<;>simp[hwn])
  (λh l=>by simp[rip])
 have c0:=f 0 (by decide);have c1:=f 1 (by decide);have c2:=f 2 (by decide);have c3:=f 3 (by decide);have c4:=f 4 (by decide);have c5:∀g W,(Builtin.clear_ #[131] g #[my w.heap.size 0 0 0]).run prog W=.ok (fC #[]) W:=λg W=>by simp[Builtin.clear_,WI underlying131]
 simp only[World.setCells,List.replicate,Nat.reduceAdd,Nat.reduceSub,Nat.sub_zero]at c0 c1 c2 c3 c4;have m:max (-1:Int) 0=0/\max (0:Int) 0=0/\max (1:Int) 0=1/\max (2:Int) 0=2/\max (3:Int) 0=3/\max (4:Int) 0=4/\max (5:Int) 0=5:=by decide
 clear f;rcases j with⟨rfl,rfl⟩|⟨rfl,rfl⟩|⟨rfl,rfl⟩|⟨rfl,rfl⟩|⟨rfl,rfl⟩|⟨rfl,rfl⟩|⟨rfl,rfl⟩
 all_goals
  go_enter func188,ntmps188;go_wp2_with(first|simp only[m]|simp only[ixs]|simp only[c0,c1,c2,c3,c4,c5]);exact ni (by simp[results,results188,go_sem]) fX ⟨fX,by repeat(first|exact mi _ _|(refine WO ?_ (by simp) _)|(refine wB ?_ (by simp) _))⟩
theorem OC(l:fT)(b:fv l<=5)(n:Nat)(c:n<=5)(w:fq):ik 188 #[ln l,fY (n:Int)] w (ut (ln<|l.take n) w):=by
 have a:∀i,(l.take n).getD i kq=if i<n then l.getD i kq else kq:=by
  grind
 unfold ln jn;simp only[a];rcases(show n=0\/n=1\/n=2\/n=3\/n=4\/n=5 by omega)with rfl|rfl|rfl|rfl|rfl|rfl<;>exact go2 _ _ _ _ _ _ _ w (by simp)
def XP(l)(w:fq):ik 188 #[ln l,fY<|-1] w (ut (ln []) w):=go2 _ _ _ _ _ _ _ w<|.inl ⟨fX,fX⟩
theorem kw(d:ju W O):(∀a b,a<W.heap.size->O.cell? (ii a b)=W.cell? (ii a b))/\(∀a b,a<W.heap.size->O.frozen? (ii a b)=W.frozen? (ii a b)):=
 ⟨λa b c=>d.cell (p:=(ii a b)) c,λa b c=>d.frozen (p:=(ii a b)) c⟩
def il(a:Below n w W):Below n w W.drew:=⟨a.os,a.tape,a.output,a.size,a.block⟩
theorem gS(a:ju w W)(b:ju W O):ju w O:=a.trans<|b.mono a.size
def uF{o1 a}(b:Below ((w.alloc o1).alloc a).drew.heap.size ((w.alloc o1).alloc a).drew O):w.heap.size<O.heap.size/\w.heap.size+1<O.heap.size:=by
 have c:((w.alloc o1).alloc a).heap.size<=O.heap.size:=b.size;rw[zw,zw]at c;omega
theorem Dl(a b c d Z e f g h i)(n m:Int)(w:fq)(u:IntKind.i64.wrap (n-1)=m)
  (l:∀W,ik 142 #[fD<|ml a b c d Z] W<|ut (fY n) W)
  (o:∀W,ik 188 #[fD<|ml a b c d Z,fY m] W<|ut (fD<|ml e f g h i) W):
  ik 132 #[fD<|ml a b c d Z] w (ut (fD<|ml e f g h i) w):=by
 go_enter func132,ntmps132;go_wp2
 go_region_with(first
  |(go_at_call 142;refine(l _).via λO j=>?_;have⟨p,x⟩:=kw j;have⟨y,q⟩:=uF j)
  |(go_at_call 188;refine(o _).via λz k=>?_;have⟨r,A⟩:=kw k))
 all_goals
  go_wp2;exact ni (v:=fD<|ml e f g h i) (by simp[results,results132,go_sem,p,r,q]) fX ⟨fX,by
   have s:=gS (il<|((mi _ _).alloc (lw _) _).alloc (by simp) _) j;have t:=s.trans<|k.mono (by omega)
   repeat(first|exact t|(refine wB ?_ (by simp) _))⟩
theorem rY(a:Below (w.alloc o1).drew.heap.size (w.alloc o1).drew O):w.heap.size<O.heap.size:=by
 have b:(w.alloc o1).heap.size<=O.heap.size:=a.size
 grind [zw]
theorem tid(b c d e Z:fP)(k:Int)(a:fP)(w:fq)(i:(k=1/\a=b)\/(k=2/\a=c)\/(k=3/\a=d)\/(k=4/\a=e)\/(k=5/\a=Z))
  (l:∀W,(Op.equalIn 10000 147 (fD<|ml b c d e Z)<|fD (ml kq kq kq kq kq)).run prog W=.ok fo W)
  (j:∀W,ik 142 #[fD<|ml b c d e Z] W<|ut (fY k) W):
  ik 134 #[fD<|ml b c d e Z] w (ut (hh a) w):=by
 have f:=λW=>QR W;unfold ln jn at f;simp only[tQ]at f;rcases i with⟨rfl,rfl⟩|⟨rfl,rfl⟩|⟨rfl,rfl⟩|⟨rfl,rfl⟩|⟨rfl,rfl⟩
 all_goals
  go_enter func134,ntmps134;go_wp2
  go_region_with(first
   |(go_at_call 75;refine(f _).via λO g=>?_;have⟨m,n⟩:=kw g;have o:=rY g))
  all_goals
   go_wp2_with(go_at_call 142;refine(j _).via λp h=>?_;have⟨q,r⟩:=kw h);go_ret;exact⟨fX,gS (gS (il<|(mi _ _).alloc (lw _) _) g) h⟩
theorem XQ(l:fT)(a:l≠[]):l.getD (fv l-1) kq=l.getLast a:=by
 grind
theorem mO(l)(a:Good l)(b:l≠[])(w:fq):ik 134 #[ln l] w (ut (hh<|l.getLast b) w):=by
 have c:∀W,(Op.equalIn 10000 147 (ln l)<|ln []).run prog W=.ok fo W:=λW=>by
  have:=gX a Good.nil W
  rwa [yv b]at this
 have d:=λW=>nN l a.val a.len W;have e:=a.len;have f:=WC.2 b;rw[<-XQ l b];generalize g:fv l=k at d e f |-;unfold ln jn at c d |-;simp only[tQ]at c;refine tid _ _ _ _ _ _ _ w ?_ c d
 grind
theorem jr(l)(a:Good l)(w:fq):ik 132 #[ln l] w (ut (ln l.dropLast) w):=by
 have c:=λW=>nN l a.val a.len W;have f:=a.len;by_cases d:l=[];subst d;have b:=λW=>XP [] W;exact Dl _ _ _ _ _ _ _ _ _ _ 0 (-1) w (by decide) c b;have g:=WC.2 d;have b:=λW=>OC l a.len (fv l-1) (by omega) W;rw[<-List.dropLast_eq_take]at b;refine Dl _ _ _ _ _ _ _ _ _ _ (fv l:Int) ((fv l-1:Nat):Int) w ?_ c b;rcases(show fv l=1\/fv l=2\/fv l=3\/fv l=4\/fv l=5 by omega)with e|e|e|e|e<;>(rw[e];decide)
def OD(a)(id:Int)(w:fq):
  ik 211 #[ie a,fY id] w λe H=>e=fF (ie w.heap.size)/\H=w.k #[ie a,fY id,hh kq] 308:=by
 go_enter func211,ntmps211;go_wp2;go_ret;exact⟨fX,fX⟩
def SF(w:fq):
  ik 210 #[] w λe H=>e=fF (ie w.heap.size)/\H=w.k #[fB fj,fY 0,hh kq] 308:=by
 go_enter func210,ntmps210;go_wp2;go_ret;exact⟨fX,fX⟩
def OE(f:Nat)(a)(d)(x y z:fu)(w:fq)(c:f<w.heap.size)(c0:w.c f 0=fh x)(c1:w.c f 1=fh y)(c2:w.c f 2=fh z)(f0:∀b,w.frozen? (ii f b)=fo)
  (g:(convert 204 9 a).run prog w=.ok (hh d) w):
  ik 212 #[ie f,a] w λe H=>e=pD #[]/\H=((w.setCell (ii f 0)<|fB fj).setCell (ii f 1)<|fY 0).setCell (ii f 2) (hh d):=by
 go_enter func212,ntmps212;go_wp2;go_end0;exact⟨fX,fX⟩
def XR(a)(fg b n:Int)(w:fq)(c1:w.c a 1=fh (fY fg))(c:(bits BinOp.and IntKind.i64 fg 32 != 0)=fm):
  ik 180 #[ie a,fY n] w (PP (fY n) w):=by
 go_enter func180,ntmps180;go_wp2;go_ret;exact⟨fX,fX⟩
def JC(f)(d)(w:fq)(c1:w.c f 1=fh (fY 0))(c2:w.c f 2=fh (hh d)):
  ik 181 #[ie f] w (PP (fC #[hh d,fY 0]) w):=by
 go_enter func181,ntmps181;go_wp2;go_ret2;exact⟨fX,fX⟩
theorem XS(f a:Nat)(id b:Int)(d)(c:fq->Prop)(w:fq)(i:f<w.heap.size)(c0:w.c f 0=fh (ie a))(c1:w.c f 1=fh (fY id))(hid:id≠0)
  (g:ik 213 #[ie a,fY id] w.drew λe H=>e=pD #[hh d,fY b]/\c H):
  ik 181 #[ie f] w λe H=>e=pD #[hh d,fY b]/\c H:=by
 go_enter func181,ntmps181;go_wp2
 go_region_with(go_at_call 213;refine g.via λO h=>?_)
 all_goals
  go_wp2;go_ret2;exact⟨fX,h⟩
theorem SG(f:Nat)(x y z:fu)(w:fq)(a:f<w.heap.size)(c0:w.c f 0=fh x)(c1:w.c f 1=fh y)(c2:w.c f 2=fh z)(f0:∀b,w.frozen? (ii f b)=fo)
  (c:(convert 204 9<|fy fj 0 0).run prog w=.ok (hh kq) w):
  ik 179 #[ie f] w λe H=>e=pD #[]/\H=((w.setCell (ii f 0)<|fB fj).setCell (ii f 1)<|fY 0).setCell (ii f 2) (hh kq):=by
 go_enter func179,ntmps179;go_wp2_with(go_at_call 212;refine(OE f (fy fj 0 0) kq x y z w a c0 c1 c2 f0 c).mono ?_;rintro e O ⟨rfl,rfl⟩);go_end0;exact⟨fX,fX⟩
def gtr(a)(fg b n:Int)(w:fq)(c1:w.c a 1=fh (fY fg))(c2:w.c a 2=fh (fY b))(c:(bits BinOp.and IntKind.i64 fg 32 != 0)=fo):
  ik 180 #[ie a,fY n] w (PP (fY b) w):=by
 go_enter func180,ntmps180;go_wp2;go_ret;exact⟨fX,fX⟩
theorem jmp(b f)(fg a n:Int)(d:fP)(c:fq->Prop)(w:fq)(c0:w.c b 0=fh (ie f))(c1:w.c b 1=fh (fY fg))(c2:w.c b 2=fh (fY a))
  (o:(bits BinOp.and IntKind.i64 fg 1==0)=fo)(p:1<=n)(q:0<=a)(r:a<256)(s:d.size<=256)
  (j:ik 181 #[ie f] w λe H=>e=pD #[hh d,fY 0]/\c H)
  (k:∀O,c O->b<O.heap.size/\O.c b 2=fh (fY a)/\O.frozen? (ii b 2)=fo):
  ik 125 #[ie b,fY n] w λe H=>e=pD #[fA<|d.extract (min a.toNat d.size) (min (min a.toNat d.size+(min n<|256-a).toNat) d.size),fY 0]/\∃O,c O/\H=O.setCell (ii b 2) (.int .i64<|a+(d.extract (min a.toNat d.size)<|min (min a.toNat d.size+(min n<|256-a).toNat) d.size).size):=by
 obtain⟨m,t⟩:=ol<|min n (256-a);have u:(m==0)=fo:=by simp;omega
 have v:IntKind.i64.wrap (256-a)=256-a:=by rw[Cb]<;>omega
 go_enter func125,ntmps125;go_wp2_with(go_at_call 181;refine j.via λO g=>?_;have⟨x,y,z⟩:=k O g);go_ret2;have h:(min a (d.size:Int)).toNat=min a.toNat d.size:=by omega
 have i:(min (min a (d.size:Int)+min n (256-a)) (d.size:Int)).toNat=min (min a.toNat d.size+(min n<|256-a).toNat) d.size:=by omega
 have l:(min (min (min a (d.size:Int)+min n (256-a)) (d.size:Int)).toNat d.size-(min a (d.size:Int)).toNat:Nat)=(d.extract (min a.toNat d.size)<|min (min a.toNat d.size+(min n<|256-a).toNat) d.size).size:=by
  rw[hxs,<-i,<-h]
 rw[l,h,i];exact⟨fX,O,g,fX⟩
def xu (a d:List UInt8)(b:Nat):List UInt8:=(a++List.replicate (max (fv a) (b+fv d)-fv a) 0).take b++d++(a++List.replicate (max (fv a) (b+fv d)-fv a) 0).drop (b+fv d)
def tX (a d:fP)(b:Nat):fP:=⟨(xu a.data.toList d.data.toList b).toArray⟩
theorem zh(a d)(b):fv (xu a d b)=max (fv a) (b+fv d):=by
 grind [xu]
def mY (w:fq)(f:Nat)(d:fP):fq:=((w.setCell ⟨f,0,fj⟩<|fB fj).setCell ⟨f,1,fj⟩<|.int .i64 0).setCell ⟨f,2,fj⟩<|fA d
def hac:(prog.info? 5).map (λi=>(i.zero,i.size,i.bytes))=fh (fh<|.int .u8 0,1,1):=by kernel_rfl
def LB:(prog.info? 5).map (·.size)=fh 1:=by kernel_rfl
theorem Bk{P:Program}{l:Array Oper}{rest:List Oper}{b:Oper}{f:Act}{m:Exit->Act->fq->Prop}(r:b.guard=fj)(d x:Operand)(h n:lV)
  (s:b.op=.call { callee:=.builtin .copy,args:=#[d,x],argTypes:=#[h,n] })(i:lV)(u:P.underlying h=fh (.slice i))(v:(P.info? i).map (·.size)=fh 1)
  (g off j o)(a:fP)(y:f.eval d=my g off j o)(z:f.eval x=fA a)
  (c:Array fu)(t)(p:w.heap[g]?=fh (.cells c t (0,0)))(A:a.size<=j)(B:off+a.size<=c.size)
  (new:Array fu)(C:new.toList=c.toList.take off++Lib.byteCells a.data.toList++c.toList.drop (off+a.size))
  (D:∀H,fe (H.heap[g]?=fh (.cells new t (0,0)))->w.grownBy H (fh g)->wpList P l m rest (f.put b.dst<|goInt a.size) H):wpList P l m (b::rest) f w:=by
 refine WL r λG E=>?_;have q:=Lib.run_copy_row_string (P:=P) w h n b.type i g off j o a c t u v p A B;rw[<-C,Def]at q;unfold Oper.wp;simp[execOp,s,resolve,invoke,builtin,y,z,q,Result.andThen];exact E _ _ (D _ (Hz w g _ _ t _ p) ⟨fX,fX,fX,by simp,λk I F=>EJ w g k _ λe=>F (by rw[e])⟩)
theorem FK(b:w.ownsRow 0 5 1 (my g 0 n n) n (madeCells (Value.int .u8 0).cells<|n*1).toList):∃a,fe (w.heap[g]?=fh (.cells a 5 (0,0)))/\fe (a.toList=Lib.byteCells (List.replicate n 0)):=by
 rcases b.2 with⟨c,_⟩|⟨f,R,a,d,_,e,_⟩
 cases c;cases d;refine⟨a,e,?_⟩;show a.toList=_;have h:(madeCells (Value.int .u8 0).cells<|n*1).toList=List.replicate n (Value.int .u8 0):=by rw[Nat.mul_one];exact toList_madeCells_one _ n
 grind [oJ,oW,Lib.byteCells,List.map_replicate]
def zT{w a b}(c:ju w a)(d:a.grownBy b (fh w.heap.size)):fe (ju w b):=c.grown d c.size (λk e=>by cases e;exact lw _)
theorem XT{l}(b:w.heap[g]?=fh (.cells (Lib.byteCells l).toArray 5 (0,0)))(h):(convert 204 9<|my g 0 (fv l) h).run prog w=.ok (fA ⟨l.toArray⟩) w:=
 run_convert_bytes_back w 204 9 5 (ii g 0) h l underlying204 underlying5 underlying9 (λa c=>by
  have d:((ii g 0):Addr).add a=(ii g a):=by unfold Addr.add;split<;>simp_all
  rw[d]
  simp[World.cell?,b,Lib.byteCells,c])
def XU{a:List UInt8}(b:fv a<=n):Lib.byteCells (a++List.replicate (n-fv a) 0)=(Lib.byteCells<|List.replicate n 0).take 0++Lib.byteCells a++(Lib.byteCells<|List.replicate n 0).drop (0+fv a):=by
 simp[Lib.byteCells]
def haj(l d:List UInt8)(a:Nat):Lib.byteCells (l.take a++d++l.drop (a+fv d))=(Lib.byteCells l).take a++Lib.byteCells d++(Lib.byteCells l).drop (a+fv d):=by
 simp[Lib.byteCells,List.map_take,List.map_drop]
theorem XV(b:ju O w4)(c:f<O.heap.size/\(∃x y z,O.c f 0=fh x/\O.c f 1=fh y/\O.c f 2=fh z)/\∀a,O.frozen? (ii f a)=fo):
  f<w4.heap.size/\(∃x y z,w4.c f 0=fh x/\w4.c f 1=fh y/\w4.c f 2=fh z)/\∀a,w4.frozen? (ii f a)=fo:=by
 obtain⟨d,⟨x,_⟩,e⟩:=c;have g:=b.block f d
 grind [wJ,Rk,np]
theorem Vz{l}(h)(a:ju O w4)(b:f<O.heap.size/\(∃x y z,O.c f 0=fh x/\O.c f 1=fh y/\O.c f 2=fh z)/\∀c,O.frozen? (ii f c)=fo)(d:w4.heap[g]?=fh (.cells (Lib.byteCells l).toArray 5 (0,0))):
  ik 212 #[ie f,my g 0 (fv l) h] w4 λe H=>e=pD #[]/\H=mY w4 f ⟨l.toArray⟩:=by
 obtain⟨i,⟨x,y,z,j,k,m⟩,n⟩:=XV a b;exact OE f _ ⟨l.toArray⟩ x y z w4 i j k m n (XT d h)
theorem OG(f a:Nat)(b d:fP)(h:fq->Prop)(w:fq)(S:1<=d.size)(T:a+d.size<=256)(V:b.size<=256)
  (A:ik 181 #[ie f] w λe H=>e=pD #[hh b,fY 0]/\h H)
  (j:∀O,h O->f<O.heap.size/\(∃x y z,O.c f 0=fh x/\O.c f 1=fh y/\O.c f 2=fh z)/\∀B,O.frozen? (ii f B)=fo):
  ik 182 #[ie f,fY (a:Int),hh d] w λe H=>e=fF (fY 0)/\∃O k,h O/\ju O k/\H=mY k f (tX b d a):=by
 obtain⟨n,i⟩:∃n:Nat,n=max b.size (a+d.size):=⟨_,fX⟩;have W:max (b.size:Int) ((a:Int)+(d.size:Int))=(n:Int):=by omega
 have X:a<n:=by omega
 have C:b.size<=n:=by omega
 obtain⟨D,U,E,F,G⟩:=kC hac;obtain⟨l,c⟩:=ol (b.data.toList++List.replicate (n-b.size) 0:List UInt8);obtain⟨m,g⟩:=ol (xu b.data.toList d.data.toList a:List UInt8);have I:fv m=n:=by rw[g,zh,i,Cg,Cg]
 change fe _ at c g i j
 go_enter func182,ntmps182;go_wp2_with(first
  |(go_at_call 181;refine A.via λO o=>?_;have p:fe _:=o;clear o)
  |(at_make;go_loud(refine cmn _ fX _ _ 204 fX 0 5 D _ 1 underlying204 U E F .i64 .i64 _ _ n fX fX fX fX ?_ ?_ (zt _) ?_;go_must(rw[G];omega);go_must(unfold maxLen;omega);intro J q r;obtain⟨K,L,s⟩:=FK q;have M:fe (ju O J):=oZ (mi _ _) r;clear q r))
  |(refine Bk fX (.tmp 26) (.tmp 27) 204 9 fX 5 underlying204 LB O.heap.size 0 n n b fX fX K 5 L C ?_ (Lib.byteCells l).toArray ?_ ?_;go_must(rw[<-oW,s.o,hBg,Rp];omega);go_must(rw[s.o,c.o,Cg];exact XU (by grind [Cg]));intro w4 N t;have P:=zT M t;clear t)
  |(refine Bk fX (.tmp 31) (.tmp 32) 204 9 fX 5 underlying204 LB O.heap.size a (n-a) (n-a) d fX fX (Lib.byteCells l).toArray 5 N ?_ ?_ (Lib.byteCells m).toArray ?_ ?_;go_must(omega);go_must(rw[BW,hBg,c.o,lI,Rp,<-Cg];omega);go_must(rw[g.o,c.o,xu,Cg,Cg,i.o,Cg,Cg];exact haj _ _ _);intro Q R u;have v:=zT P u;clear u)
  |(go_at_call 212;go_loud(rw[<-I];refine(Vz _ v (j _ p) R).mono ?_;rintro e Y ⟨rfl,rfl⟩)))
 go_ret;exact⟨fX,O,Q,p,v,by unfold tX;rw[<-g.o]⟩
