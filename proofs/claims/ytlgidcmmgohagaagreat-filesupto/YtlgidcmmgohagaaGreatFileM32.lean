/- What is proved here: Write at a uv. -/
import Derived.Test.YtlgidcmmgohagaaGreatFileM31
import Derived.Test.YtlgidcmmgohagaaGreatFileM30
import Derived.Test.YtlgidcmmgohagaaGreatFileM21
import Derived.Test.YtlgidcmmgohagaaGreatFileM26
import Derived.Test.YtlgidcmmgohagaaGreatFileM29
import Derived.Test.YtlgidcmmgohagaaGreatFileM28
namespace Go.Proofs.YtlgidcmmgohagaaGreat
open Go.RowKit Go.Sort Go.Shelf Go.Proofs.Tryz
set_option linter.unusedVariables false
set_option maxRecDepth 100000
set_option maxHeartbeats 16000000
theorem KA(o f:Nat)(fg pl a:Int)(old d:eD)(R:World->Prop)(w:World)(c0:w.cell? (eI o 0)=some (hh f))(c1:w.cell? (eI o 1)=some (eJ fg))(c2:w.cell? (eI o 2)=some (eJ pl))
  (q:(bits BinOp.and IntKind.i64 fg 2==0)=false)(hd:1<=d.size)(h0:0<=QQ fg pl 0)(h1:QQ fg pl 0+d.size<=256)(m:QQ fg pl old.size=a)(r:0<=a)(s:a<=256)(t:256<a+d.size)
  (hg:gc 181 #[hh f] w fun e w'=>e=.returned (.tuple #[.string old,eJ 0])/\R w')
  (c:∀b,R b->b.cell? (eI o 0)=some (hh f)/\b.cell? (eI o 1)=some (eJ fg)/\b.cell? (eI o 2)=some (eJ pl)):
  gc 123 #[hh o,.string d] w fun e w'=>e=.returned (eJ 11)/\R w':=by
 have k:=qE o fg pl 0 w c1 c2;have g:=fun b (h:R b)=>qE o fg pl old.size b (c b h).2.1 (c b h).2.2;simp only[m]at g;generalize QQ fg pl 0=i at k h0 h1;have u:=oP hd;have v:IntKind.i64.wrap (i+d.size)=i+d.size:=by rw[xS]<;>omega
 have ig:¬256<i+(d.size:Int):=by omega
 have x:IntKind.i64.wrap (a+d.size)=a+d.size:=by rw[xS]<;>omega
 have n:Hid _:=c;have p:Hid _:=g;clear c g;go_enter func123,ntmps123;go_wp2_with(first
  |(go_at_call_of 180 (Value.int .i64 0);refine k.mono ?_;rintro e b ⟨rfl,rfl⟩)
  |(go_at_call 181;refine hg.mono ?_;rintro e b ⟨rfl,j⟩;obtain⟨y,z,A⟩:=n.out b j;have l:Hid _:=j;clear j)
  |(go_at_call 180;refine(p.out _ l.out).mono ?_;rintro e B ⟨rfl,rfl⟩))
 go_ret;exact⟨rfl,l.out⟩
section
variable {s i p:Nat}{B:WB}{ey:List Ob}{tg:eV}{w:World}{g:WG}{lim:Nat}{t:LT}{nodes:List eN}{data:eL}{rest:fQ}
theorem ET{fg:Int}(h:0<=fg/\fg<=63)(pl n:Int):QQ fg pl n=if kA fg 32=true then n else pl:=by
 unfold QQ;rw[(CF h).2.2.2.2.2]
theorem tP.write{fl:Sh}(h:tP ey fl)(f:Nat)(d:eD):tP ey (rp fl f (some (0,d))):=fun f' id a hf h0=>by
 by_cases e:f'=f
 ·rw[e,kw]at hf
  cases hf
  exact absurd rfl h0
 ·rw[kv e]at hf
  exact h f' id a hf h0
def Dv (s i p:Nat)(B:WB)(ey:List Ob)(tg:eV)(w:World)(g:WG)(lim:Nat)(nodes:List eN)(data:eL)(rest:fQ)(fp fd:Nat)(args:fQ)(Sb:Nat):Prop:=
 ∃er fE b,(er==14)=false/\fE.length=data.length/\(Calls prog fp (.pointer (some ⟨B.wb,0,none⟩)::args).toArray w fun e w'=>e=.returned (.int .i64 er)/\rT s i p B ey tg w w' g (lim+400) nodes fE b)/\
   ∀{F:Nat->Prop} {a:World},eW F a Sb nodes data rest->Calls prog fd (.pointer (some ⟨Sb,0,none⟩)::args).toArray a fun e w'=>e=.returned (.int .i64 er)/\eW (kp F a w') w' Sb nodes fE b/\eA F a w'
theorem Dv.same{fp fd:Nat}{args:fQ}{Sb:Nat}(h:gO tg w s i p B ey g lim t)(f:g.fs.brk=false)(hi:fA ey t)(j:iV ey g.fl g.op t nodes data rest)(er:Int)(k:(er==14)=false)
  (hp:Calls prog fp ((hh B.wb)::args).toArray w (pB (eJ er) w))
  (hd:∀{F:Nat->Prop} {a:World} {na da:fD} {nc dc:Nat},fo F a Sb na da nc dc nodes data rest->Calls prog fd ((hh Sb)::args).toArray a (pB (eJ er) a)):Dv s i p B ey tg w g lim nodes data rest fp fd args Sb:=
 ⟨er,data,rest,k,rfl,hp.mono fun e w' ⟨b,c⟩=>⟨b,Hn h f hi j c⟩,fun⟨na,nc,da,dc,d⟩=>(hd d).mono fun e w' ⟨b,c⟩=>⟨b,rW ⟨na,nc,da,dc,d⟩ c⟩⟩
theorem YL(h:gO tg w s i p B ey g lim t)(hl:lim+1000<1099511627776)(m:g.fs.brk=false)(hi:fA ey t)(N:iV ey g.fl g.op t nodes data rest)(O:data.length<=1000000000)(Sb:Nat)(n:Int)(x:eD)(G:x.size<=1048576):
  Dv s i p B ey tg w g lim nodes data rest 64 99 [eJ n,.string x] Sb:=by
 have u:=N;obtain⟨⟨φ,hs,H,rfl,l⟩,X⟩:=N;obtain⟨ag,c0,Y⟩:=h.ws;have A:∀{w':World},w'=w->ik w w':=fun e=>by rw[e];exact lh _ _
 rcases l.used n with⟨hu,hn⟩|⟨k,b,f,fg,pl,hk,rfl,ho,C⟩
 ·exact Dv.same h m hi u 3 rfl ((We Y hn x).mono fun e w' ⟨c,hw⟩=>⟨c,A hw⟩) (fun j=>Kw j l.h8 n x hu)
 ·obtain⟨⟨y,D⟩,o,ah,ai⟩:=h.fg ho
  obtain⟨E,Z,c1,c2,aj⟩:=Hb h.inv ho;obtain⟨_,P,_⟩:=CF o;have Q:=ET o pl 0;have ws:∀{er:Int} {R:World->Prop},(gc 123 #[hh b,.string x] w fun e w'=>e=.returned (eJ er)/\R w')->gc 64 #[hh B.wb,eJ (k:Int),.string x] w fun e w'=>e=.returned (eJ er)/\R w':=fun hc=>Vn B.wb k b x _ _ w (h.cell hk ho) hk hc;have h0:0<=QQ fg pl 0/\QQ fg pl 0<=256:=by
   rw[Q];split<;>omega
  cases r:kA fg 2 with
  |false=>
   exact Dv.same h m hi u 12 rfl ((ws (CG x E c1 c2 h0.1 h0.2 G (.inl ⟨by rw[P,r];rfl,rfl⟩))).mono fun e w' ⟨c,hw⟩=>⟨c,A hw⟩) (fun j=>CH j l.h8 C o (.inl ⟨r,rfl⟩))
  |true=>
   have F:(bits BinOp.and IntKind.i64 fg 2==0)=false:=by rw[P,r];rfl
   by_cases I:x.size=0
   ·obtain rfl:x=hZ:=by
     apply KW;exact Array.eq_empty_of_size_eq_zero I
    exact Dv.same h m hi u 0 rfl ((ws (LY b fg w c1 F)).mono fun e w' ⟨c,hw⟩=>⟨c,A hw⟩) (fun j=>CH j l.h8 C o (.inr ⟨r,rfl,rfl⟩))
   ·obtain⟨ak,J,S,K⟩:=yR h m D
    have L:=l.cont f (by rw[D];simp);obtain⟨d,hd⟩:∃d,d=ki ey g.fl f:=⟨_,rfl⟩;rw[<-hd]at J K L;obtain⟨a,rfl⟩:∃a:Nat,pl=(a:Int):=⟨pl.toNat,by omega⟩;obtain⟨t',v⟩:∃t':Nat,(kA fg 32=true/\t'=d.size)\/(kA fg 32=false/\t'=a):=by
     cases al:kA fg 32 with
     |true=>exact⟨d.size,.inl ⟨rfl,rfl⟩⟩
     |false=>exact⟨a,.inr ⟨rfl,rfl⟩⟩
    have T:QQ fg (a:Int) (d.size:Int)=(t':Int):=by
     rw[ET o];rcases v with⟨q,e2⟩|⟨q,e2⟩<;>rw[q,e2]<;>rfl
    have hle:QQ fg (a:Int) 0<=(t':Int):=by
     rw[Q];rcases v with⟨q,e2⟩|⟨q,e2⟩<;>rw[q,e2]
     ·rw[ie rfl];omega
     ·rw[fY Bool.false_ne_true];omega
    have am:t'<=256:=by rcases v with⟨q,e2⟩|⟨q,e2⟩<;>omega
    by_cases U:t'+x.size<=256
    ·refine⟨0,data.set (φ f) (oO d x t'),rr (hs.set k (true,(φ f:Int),fg,(t':Int)+x.size))++H,rfl,by simp,?_,fun j=>?_⟩
     rotate_left
     ·obtain⟨na,nc,da,dc,j⟩:=j
      exact(SA j l.h8 C L o (by omega) K r I v U O).mono fun e w' ⟨c,h1,h2⟩=>⟨c,ud h1 h2⟩
     ·refine(ws (RF h.inv (by omega) h.fl ho F (by omega) h0.1 (by omega) J T U)).mono ?_
      rintro e w' ⟨c,eF,aa,hW⟩;refine⟨c,mV h hi aa hW (by omega) (h.fl.write f _) m S ⟨⟨φ,_,H,rfl,(l.write (f:=f) (by rw[D];simp) (oO d x t')).opens hk (some (b,f,fg,_)) (fun z ab=>?_)⟩,X.len (by simp)⟩⟩;cases ab;exact(vx _).2 (.inl rfl)
    ·refine⟨11,data,rr hs++H,rfl,rfl,?_,fun⟨na,nc,da,dc,j⟩=>(Kz j l.h8 C L o (by omega) K r I v (by omega) G O).mono fun e w' ⟨c,E⟩=>⟨c,rW ⟨na,nc,da,dc,j⟩ E⟩⟩
     by_cases hq:256<QQ fg (a:Int) 0+x.size
     ·exact(ws (CG x E c1 c2 h0.1 h0.2 G (.inr ⟨F,by omega,hq,rfl⟩))).mono fun e w' ⟨c,hw⟩=>⟨c,Hn h m hi u (A hw)⟩
     ·have V:=oq h.inv (by omega) h.fl D
      rw[J]at V;refine(ws (KA b f fg (a:Int) (t':Int) d x _ w Z c1 c2 F (by omega) h0.1 (by omega) T (by omega) (by omega) (by omega) V (fun an ac=>?_))).mono ?_
      ·obtain⟨ad,W,M⟩:=ac
       obtain⟨_,e2,ae,af,_⟩:=Hb M ho;exact⟨e2,ae,af⟩
      ·rintro e w' ⟨c,ad,W,M⟩
       exact⟨c,mV (yF:=g.fl) (op':=g.op) h hi (W.mono (fun _ h=>h.mine)) M (by omega) h.fl m S u⟩
end
theorem CI(o f:Nat)(fg m er:Int)(R:World->Prop)(w:World)(ho:o<w.heap.size)(c0:w.cell? (eI o 0)=some (hh f))(c1:w.cell? (eI o 1)=some (eJ fg))(c:(bits BinOp.and IntKind.i64 fg 2==0)=false)(h0:0<=m)(h1:m<=256)
  (hr:gc 203 #[hh f,eJ m] w fun e w'=>e=.returned (eJ er)/\R w'):
  gc 164 #[hh o,eJ m] w fun e w'=>e=.returned (eJ er)/\R w':=by
 have t0:decide (m<0)=false:=rk (by omega);have t1:decide (256<m)=false:=rk (by omega);have a:Hid _:=hr;clear hr;go_enter func164,ntmps164;go_wp2_with(go_at_call 203;refine io a.out ?_;rintro e d ⟨rfl,b⟩);go_ret;exact⟨rfl,b⟩
theorem GV(f:Nat)(R:World->Prop)(w:World)(hc:gc 179 #[hh f] w fun e w'=>e=.returned (.tuple #[])/\R w'):
  gc 203 #[hh f,eJ 0] w fun e w'=>e=.returned (eJ 0)/\R w':=by
 have a:Hid _:=hc;clear hc;go_enter func203,ntmps203;go_wp2_with(go_at_call 179;refine io a.out ?_;rintro e c ⟨rfl,b⟩);go_ret;exact⟨rfl,b⟩
theorem GX{P:Program}(w:World)(e sT k c:gi)(g o f l m:Nat)(s:eD)(a:Array Value)(t:gi)
  (hu:P.underlying e=some (.slice c))(hs:(P.info? c).map (·.size)=some 1)(hg:w.heap[g]?=some (.cells a t (0,0)))(h:Nat.min s.size f=m)(n:o+m<=a.size):
  (Builtin.copy_ #[e,sT] k #[.slice (some (eI g o)) f l,.string s]).run P w =
   .ok (goInt m) (w.setRow g (a.toList.take o++Lib.byteCells (s.data.toList.take m)++a.toList.drop (o+m)).toArray):=by
 have q:m<=s.size:=by rw[<-h];exact Nat.min_le_left _ _
 have j:(Lib.byteCells (s.data.toList.take m)).length=m:=by rw[WU,gT,<-wB];omega
 have d:=run_storeCells_at P g o t (Lib.byteCells (s.data.toList.take m)) 0 a w hg (by rw[j];simpa using n) (Lib.byteCells_one _);have p:List.take m (List.map (fun b:UInt8=>Value.int IntKind.u8 (b.toNat:Int)) s.data.toList)=Lib.byteCells (s.data.toList.take m):=by
  rw[<-Pn];rfl
 rw[j]at d;simp only[CQ]at d;cases hq:P.info? c with
 |none=>simp[hq]at hs
 |some i=>
  simp[Builtin.copy_,SX hu,Builtin.lenOf,Builtin.firstCells,sizeOf,typeInfo,hq,h];rw[p,d];simp[Result.andThen]
theorem GY{P:Program}{w:World}{ops:Array Oper}{rest:List Oper}{o:Oper}{a:Act}{j:Exit->Act->World->Prop}(p:o.guard=none)(d x:Operand)(c sT:gi)
  (ho:o.op=.call { callee:=.builtin .copy,args:=#[d,x],argTypes:=#[c,sT] })(f:gi)(hu:P.underlying c=some (.slice f))(q:(P.info? f).map (·.size)=some 1)
  (g off i l m:Nat)(s:eD)(hd:a.eval d=.slice (some (eI g off)) i l)(hs:a.eval x=.string s)
  (b:Array Value)(t:gi)(hg:w.heap[g]?=some (.cells b t (0,0)))(hle:Nat.min s.size i=m)(r:off+m<=b.size)
  (new:Array Value)(u:new.toList=b.toList.take off++Lib.byteCells (s.data.toList.take m)++b.toList.drop (off+m))
  (h:∀w',Hid (w'.heap[g]?=some (.cells new t (0,0)))->w.grownBy w' (some g)->wpList P ops j rest (a.put o.dst (goInt m)) w'):wpList P ops j (o::rest) a w:=by
 refine Pr p fun K v=>?_;have n:=GX (P:=P) w c sT o.type f g off i l m s b t hu q hg hle r;rw[<-u,Array.toArray_toList]at n;unfold Oper.wp;simp[execOp,ho,resolve,invoke,builtin,hd,hs,n,Result.andThen];exact v _ _ (h _ (Ff w g _ _ t _ hg) ⟨rfl,rfl,rfl,by simp,fun k hk hne=>Aw w g k _ (fun e=>hne (by rw[e]))⟩)
theorem YM{old:List UInt8}{n m:Nat}(hm:Nat.min old.length n=m):Lib.byteCells ((qW old n).take n)=(Lib.byteCells (List.replicate n 0)).take 0++Lib.byteCells (old.take m)++(Lib.byteCells (List.replicate n 0)).drop (0+m):=by
 have hm:min old.length n=m:=hm;unfold qW;rcases Nat.le_total old.length n with h|h
 ·rw[xQ h]at hm
  subst hm;rw[lV (l:=old++_) (by simp;omega),lV (l:=old) (kx _)];simp[Lib.byteCells]
 ·rw[Nat.min_eq_right h]at hm
  subst hm;rw[show n-old.length=0 by omega];simp[Lib.byteCells]
theorem Pc(old:List UInt8)(n:Nat):((qW old n).take n).length=n:=by rw[gT,GN];omega
theorem KB(d:eD)(n:Nat):(je d n).size=n:=by unfold je ba;simp only[ByteArray.size,CL,Pc]
theorem KC(d:eD):je d 0=hZ:=by unfold je ba;rw[SP]
theorem GZ(f n:Nat)(old:eD)(R:World->Prop)(w:World)(I:1<=n)(J:n<=256)(ho:old.size<=256)
  (hg:gc 181 #[hh f] w fun e w'=>e=.returned (.tuple #[.string old,eJ 0])/\R w')
  (d:∀a,R a->f<a.heap.size/\(∃x y z,a.cell? (eI f 0)=some x/\a.cell? (eI f 1)=some y/\a.cell? (eI f 2)=some z)/\∀o,a.frozen? (eI f o)=false):
  gc 203 #[hh f,eJ (n:Int)] w fun e w'=>e=.returned (eJ 0)/\∃a g,R a/\ik a g/\w'=ku g f (je old n):=by
 have K:((n:Int)==0)=false:=by simpa using(by omega:(n:Int)≠0)
 obtain⟨m,hm⟩:∃m:Nat,Nat.min old.size n=m:=⟨_,rfl⟩;have L:m<=n:=by rw[<-hm];exact Nat.min_le_right _ _
 obtain⟨t,hi,u,v,A⟩:=iq Uu;obtain⟨b,c⟩:∃b:List UInt8,b=(qW old.data.toList n).take n:=⟨_,rfl⟩;have h:Hid _:=c;have B:b.length=n:=by rw[c,Pc]
 have i:Hid (Nat.min old.size n=m):=hm;have C:Hid _:=d;clear c d hm;go_enter func203,ntmps203;go_wp2_with(first
  |(go_at_call 181;refine hg.mono ?_;rintro e a ⟨rfl,j⟩;have k:Hid _:=j;clear j)
  |(at_make;go_loud(refine SZ _ rfl _ _ 204 rfl 0 5 t _ 1 underlying204 hi u v .i64 .i64 _ _ n rfl rfl rfl rfl ?_ ?_ (tk _) ?_;go_must(rw[A];omega);go_must(unfold maxLen;omega);intro w3 l p;obtain⟨D,E,q⟩:=BC l;have F:Hid (ik a w3):=mC (lh _ _) p;clear l p))
  |(refine GY rfl (.tmp 22) (.tmp 23) 204 9 rfl 5 underlying204 FZ a.heap.size 0 n n m old rfl rfl D 5 E.out i.out ?_ (Lib.byteCells b).toArray ?_ ?_;go_must(rw[<-ng,q.out,WU,wk];omega);go_must(rw[q.out,h.out];exact YM (by rw[<-wB];exact i.out));intro G H r;have s:=vK F.out r;clear r)
  |(go_at_call 212;go_loud(rw[<-B];refine(Ot _ s.out (C.out _ k.out) H.out).mono ?_;rintro e w6 ⟨rfl,rfl⟩)))
 go_ret;exact⟨rfl,a,G,k.out,s.out,by unfold je ba;rw[<-h.out]⟩
section
variable {s i p:Nat}{B:WB}{ey:List Ob}{tg:eV}{w:World}{g:WG}{lim:Nat}{t:LT}{nodes:List eN}{data:eL}{rest:fQ}
theorem Wn(h:gO tg w s i p B ey g lim t)(hl:lim+1000<1099511627776)(o:g.fs.brk=false)(hi:fA ey t)(H:iV ey g.fl g.op t nodes data rest)(P:data.length<=1000000000)(Sb:Nat)(n z:Int):
  Dv s i p B ey tg w g lim nodes data rest 100 101 [eJ n,eJ z] Sb:=by
 have x:=H;obtain⟨⟨φ,hs,A,rfl,j⟩,Q⟩:=H;obtain⟨ab,c0,S⟩:=h.ws;have C:∀{w':World},w'=w->ik w w':=fun e=>by rw[e];exact lh _ _
 rcases j.used n with⟨hu,hn⟩|⟨k,b,f,fg,pl,hk,rfl,ho,D⟩
 ·exact Dv.same h o hi x 3 rfl ((Sw S hn z).mono fun e w' ⟨a,hw⟩=>⟨a,C hw⟩) (fun c=>GM c j.h8 n z hu)
 ·obtain⟨⟨y,l⟩,r,ac,ad⟩:=h.fg ho
  obtain⟨u,I,c1,c2,ae⟩:=Hb h.inv ho;obtain⟨_,q,_⟩:=CF r;have ws:∀{er:Int} {R:World->Prop},(gc 164 #[hh b,eJ z] w fun e w'=>e=.returned (eJ er)/\R w')->gc 100 #[hh B.wb,eJ (k:Int),eJ z] w fun e w'=>e=.returned (eJ er)/\R w':=fun hc=>SC B.wb k b z _ _ w (h.cell hk ho) hk hc;by_cases J:z<0\/256<z
  ·exact Dv.same h o hi x 2 rfl ((ws (zM z u c1 (.inl ⟨J,rfl⟩))).mono fun e w' ⟨a,hw⟩=>⟨a,C hw⟩) (fun c=>zN c j.h8 D r (.inl ⟨J,rfl⟩))
  ·cases v:kA fg 2 with
   |false=>
    exact Dv.same h o hi x 12 rfl ((ws (zM z u c1 (.inr ⟨by omega,by omega,by rw[q,v];rfl,rfl⟩))).mono fun e w' ⟨a,hw⟩=>⟨a,C hw⟩) (fun c=>zN c j.h8 D r (.inr ⟨by omega,by omega,v,rfl⟩))
   |true=>
    have K:(bits BinOp.and IntKind.i64 fg 2==0)=false:=by rw[q,v];rfl
    obtain⟨m,rfl⟩:∃m:Nat,z=(m:Int):=⟨z.toNat,by omega⟩;obtain⟨af,L,T,E⟩:=yR h o l;have M:=j.cont f (by rw[l];simp);obtain⟨d,hd⟩:∃d,d=ki ey g.fl f:=⟨_,rfl⟩;rw[<-hd]at L E M;refine⟨0,data.set (φ f) (je d m),rr hs++A,rfl,by simp,?_,fun c=>?_⟩
    rotate_left
    ·obtain⟨na,nc,da,dc,c⟩:=c
     exact(NH c j.h8 D M r E v (by omega) P).mono fun e w' ⟨a,h1,h2⟩=>⟨a,ud h1 h2⟩
    ·have F:iV ey (rp g.fl f (some (0,je d m))) g.op t nodes (data.set (φ f) (je d m)) (rr hs++A):=⟨⟨φ,hs,A,rfl,j.write (f:=f) (by rw[l];simp) (je d m)⟩,Q.len (by simp)⟩
     by_cases U:m=0
     ·subst U
      rw[KC]at F ⊢;refine(ws (CI b f fg _ 0 _ w u I c1 K (by omega) (by omega) (GV f _ w (yE h.inv l)))).mono ?_;rintro e w' ⟨a,V,hW⟩;exact⟨a,mV (fs':=g.fs) (op':=g.op) h hi (V.mono JD) hW (by omega) (h.fl.write f _) o (FS.Next.refl _) F⟩
     ·have N:=oq h.inv (by omega) h.fl l
      rw[L]at N;refine(ws (CI b f fg _ 0 _ w u I c1 K (by omega) (by omega) (GZ f m d _ w (by omega) (by omega) E N (fun W X=>?_)))).mono ?_
      ·obtain⟨Y,O,G⟩:=X
       exact Cf G l
      ·rintro e w' ⟨a,W,ag,⟨Y,O,G⟩,q,rfl⟩
       obtain⟨Z,aa⟩:=(G.below q).Ca l (d:=je d m) (by rw[KB];omega);exact⟨a,mV (op':=g.op) h hi ((O.mono (fun _ h=>h.mine)).trans ((eB.eE q).trans (Z.mono JD))) aa (by omega) (h.fl.write f _) o T F⟩
end
theorem index_none(b:Nat)(a:Nat->Option Nat)(w:World)(h:lg w b a)(h1:∀j,j<8->a j≠none):
  gc 176 #[.slice (some (eI b 1)) 8 8,.pointer none] w (Do (eJ (-1)) w):=by
 obtain⟨k,hc,_⟩:=h;have c:Hid _:=hc;have d:Hid _:=h1;clear hc h1;go_enter func176,ntmps176;go_wp2
 go_loopw [8] (fun i wr=>∃j:Nat,j<=8/\i=.int .i64 (j:Int)/\wr=w) (fun i _=>8-(intOf i).toNat)
 case atStart=>exact⟨0,tk _,rfl,rfl⟩
 case round=>
  obtain⟨j,hj,rfl,rfl⟩:=hrel;by_cases e:j=8
  ·subst e
   go_wp2;go_ret;exact⟨rfl,rfl⟩
  ·have f:j<8:=by omega
   have g:=c.out j f;have l:(j:Int)<8:=by omega
   cases hv:a j with
   |none=>exact absurd hv (d.out j (by omega))
   |some x=>
    rw[hv,mq]at g;have hq:∀W,(binOp .eql 86 (.pointer none) (hh x)).run prog W=.ok (.bool false) W:=Eg x;go_wp2;go_roundw
    case rel=>exact⟨j+1,by omega,by go_num,trivial⟩
    case measure=>simp[intOf];omega
theorem SD(b:Nat)(a:Nat->Option Nat)(w:World)(h:lg w b a)(h1:∀j,j<8->a j≠none):
  gc 119 #[.pointer (some (eI b 1))] w (Do (.tuple #[eJ 0,eJ 10]) w):=by
 have hi:=index_none b a w h h1;clear h h1;go_enter func119,ntmps119;go_wp2_with(go_at_call 176;refine hi.mono ?_;rintro e c ⟨rfl,rfl⟩);go_ret2;exact⟨rfl,rfl⟩
theorem Wo(wb:Nat)(S:eD)(fg:Int)(w:World)(hp:kM S):gc 63 #[hh wb,.string S,eJ fg] w (pB (.tuple #[eJ 0,eJ 1]) w):=by
 unfold kM at hp;go_enter func63,ntmps63;go_wp2_with(go_at_call 69;refine io (hp _) ?_;rintro e b ⟨rfl,a⟩);go_ret2
 first|exact⟨rfl,a⟩|exact⟨rfl,a.alloc a.size _⟩
theorem NK(wb:Nat)(l:eL)(hl:Good l)(fg:Int)(w:World)(hv:∀W,gc 118 #[eJ fg] W (Do (.bool false) W)):
  gc 63 #[hh wb,.string (lf l),eJ fg] w (pB (.tuple #[eJ 0,eJ 2]) w):=by
 have iD:=fun W=>iC l hl W;obtain⟨b,c,d,f,g,h⟩:∃b c d f g,fy l=(kq b c d f g):=⟨_,_,_,_,_,rfl⟩;unfold ju at iD;simp only[h]at iD;clear h hl;generalize lf l=i at iD ⊢;go_enter func63,ntmps63;go_wp2_with(first
  |(go_at_call 69;refine io (iD _) ?_;rintro e j ⟨rfl,a⟩)
  |(go_at_call 118;refine io (hv _) ?_;rintro e k ⟨rfl,rfl⟩))
 go_ret2
 first|exact⟨rfl,a⟩|exact⟨rfl,a.alloc a.size _⟩
theorem SE(wb:Nat)(b:Nat->Option Nat)(l:eL)(hl:Good l)(fg:Int)(w:World)(ht:lg w wb b)(h1:∀j,j<8->b j≠none)(hv:∀W,gc 118 #[eJ fg] W (Do (.bool true) W)):
  gc 63 #[hh wb,.string (lf l),eJ fg] w (pB (.tuple #[eJ 0,eJ 10]) w):=by
 have iD:=fun W=>iC l hl W;have k:=ht.1;obtain⟨c,d,f,g,h,i⟩:∃c d f g h,fy l=(kq c d f g h):=⟨_,_,_,_,_,rfl⟩;unfold ju at iD;simp only[i]at iD;have sw:=fun W (m:ik w W)=>SD wb b W (ht.below m) h1;have n:Hid _:=sw;clear i hl sw ht h1;generalize lf l=o at iD ⊢;go_enter func63,ntmps63;go_wp2_with(first
  |(go_at_call 69;refine io (iD _) ?_;rintro e p ⟨rfl,a⟩;have q:=lO k a.size)
  |(go_at_call 118;refine io (hv _) ?_;rintro e r ⟨rfl,rfl⟩)
  |(go_at_call 119;go_loud(refine io (n.out _ (a.alloc a.size _)) ?_;rintro e w3 ⟨rfl,rfl⟩)))
 go_ret2
 first|exact⟨rfl,a⟩|exact⟨rfl,a.alloc a.size _⟩
theorem NL(t:Nat)(fg:Int)(w:World):gc 120 #[hh t,.agg (kq hZ hZ hZ hZ hZ),eJ fg] w (pB (.tuple #[.pointer none,eJ 7]) w):=by
 have a:=fun W=>ut W;have heq:∀W,(Op.equalIn 10000 147 (ju []) (ju [])).run prog W=.ok true W:=fun W=>by
  have:=yr Good.nil Good.nil W
  rw[mz rfl]at this;exact this
 unfold ju fy at a heq;simp only[nN]at a heq;go_enter func120,ntmps120;go_wp2
 go_region_with(go_at_call 75;refine(a _).mono ?_;rintro e c ⟨rfl,b⟩;obtain⟨d,f⟩:=ii b;have g:=jr b)
 all_goals
  go_wp2;go_ret2;exact⟨rfl,fx (gS ((lh _ _).alloc (kx _) _)) b⟩
theorem Dw{fl:Int}(h:tA fl=true):(0<=fl/\fl<=63)/\(kA fl 8 ||kA fl 4)=kA fl 4:=by
 unfold tA at h;split at h
 ·cases h
 ·split at h
  ·cases h
  ·split at h
   ·cases h
   ·refine⟨by omega,?_⟩
    revert h
    cases kA fl 8<;>cases kA fl 4<;>simp
section
variable {nodes:List eN}{data:eL}{hs:List rS}
def He (nodes:List eN)(data:eL)(hs:List rS)(p:eD)(fl:Int)(k:Nat)(a:eD):Option (Int×Int)->Opd
 |some x=>if x.1=2 then((0,7),nodes,data,hs)else if kA fl 8=true then((0,6),nodes,data,hs) else(((k:Int),0),nodes,if kA fl 16=true then data.set x.2.toNat ⟨#[]⟩else data,hs.set k (true,x.2,fl,0))
 |none=>if kA fl 4=false then((0,4),nodes,data,hs)else if 16<=(eO nodes a).length then((0,11),nodes,data,hs)
  else(((k:Int),0),nodes++[(p,1,(data.length:Int))],data++[⟨#[]⟩],hs.set k (true,(data.length:Int),fl,0))
theorem NM{q:eL}(hq:q≠[])(fl:Int)(k:Nat)(a:eD):rV nodes data hs (ez q) fl k a=He nodes data hs (ez q) fl k a (eX nodes q):=by
 have h1:=yI nodes (ez q);rw[<-kz hq]at h1;unfold rV;cases hf:kY nodes (ez q) with
 |none=>
  rw[hf]at h1;rw[<-h1];rfl
 |some i=>
  rw[hf,qr]at h1;cases hn:nodes[i]? with
  |none=>
   exfalso
   have:=(zO.1 hf).1
   rw[jy this]at hn;cases hn
  |some e=>
   rw[hn,mq]at h1;rw[<-h1];simp only[hn];rfl
theorem yS{l:eL}{x:eD}(a:Good (l++[x]))(fl:Int):xp nodes data hs (ez (l++[x])) fl=if tA fl=false then((0,2),nodes,data,hs)else if gB hs=8 then((0,10),nodes,data,hs)else if sy nodes (l++[x])≠0 then((0,sy nodes (l++[x])),nodes,data,hs)else He nodes data hs (ez (l++[x])) fl (gB hs) (ez l) (eX nodes (l++[x])):=by
 unfold xp;rw[AC a];simp only;rw[fY (by simp),yL,NM (by simp)];rw[fY (show ¬(l++[x]).length=0 by simp)]
theorem NN{S:eD}(h:(ib S).2=false)(fl:Int):xp nodes data hs S fl=((0,1),nodes,data,hs):=by unfold xp;rw[ie h]
theorem ue(fl:Int):xp nodes data hs (ez []) fl=if tA fl=false then((0,2),nodes,data,hs)else if gB hs=8 then((0,10),nodes,data,hs) else((0,7),nodes,data,hs):=by
 unfold xp;rw[AC Good.nil];simp only;rw[fY (by simp)];rw[ie (show([]:eL).length=0 from rfl)]
def PO (x:Opd):Prop:=(x.1.2==14)=false
theorem NP(S:eD)(fl:Int):((xp nodes data hs S fl).1.2==14)=false:=by
 show PO (xp nodes data hs S fl);unfold xp;refine ly PO (show PO ((0,_),_)from rfl) ?_;refine ly PO (show PO ((0,_),_)from rfl) ?_;refine ly PO (show PO ((0,_),_)from rfl) ?_;refine ly PO (show PO ((0,_),_)from rfl) ?_;refine ly PO (show PO ((0,sy nodes _),_)from Cz (Cy _ _)) ?_;unfold rV;cases kY nodes S with
 |none=>
  refine ly PO (show PO ((0,_),_)from rfl) ?_;refine ly PO (show PO ((0,_),_)from rfl) ?_;rfl
 |some i=>
  simp only;cases nodes[i]? with
  |none=>rfl
  |some e=>
   simp only;refine ly PO (show PO ((0,_),_)from rfl) ?_;refine ly PO (show PO ((0,_),_)from rfl) ?_;rfl
def QO (n m:Nat)(x:Opd):Prop:=x.2.1.length<=n+1/\x.2.2.1.length<=m+1
theorem Wp(S:eD)(fl:Int):QO nodes.length data.length (xp nodes data hs S fl):=by
 have l:∀e:Int×Int,QO nodes.length data.length (e,nodes,data,hs):=fun e=>⟨gV _,gV _⟩;unfold xp;refine ly (QO _ _) (l _) ?_;refine ly (QO _ _) (l _) ?_;refine ly (QO _ _) (l _) ?_;refine ly (QO _ _) (l _) ?_;refine ly (QO _ _) (l _) ?_;unfold rV;cases kY nodes S with
 |none=>
  refine ly (QO _ _) (l _) ?_;refine ly (QO _ _) (l _) ?_;exact⟨by simp,by simp⟩
 |some i=>
  simp only;cases nodes[i]? with
  |none=>exact l _
  |some e=>
   simp only;refine ly (QO _ _) (l _) ?_;refine ly (QO _ _) (l _) ?_;refine⟨gV _,?_⟩;show(if _ then _ else _:eL).length<=_;split<;>simp
end
section
variable {ey:List Ob}{fl:Sh}{op:Yo}{t:LT}{nodes:List eN}{data:eL}{hs:List rS}{φ:Nat->Nat}
theorem lZ.aau(h:lZ ey fl op t nodes data hs φ)(b:eY nodes data){p:eL}{f:Nat}(hv:eH p)(hf:fl f≠none)(c:t.at ey p=some (.held f)):eX nodes p=some (1,(φ f:Int)):=by
 have hr:=h.reads p hv;unfold UV at hr;rw[c,mq]at hr;cases hl:eX nodes p with
 |none=>rw[hl]at hr;cases hr
 |some y=>
  rw[hl,mq,mZ]at hr;have g:=xM b hl;obtain⟨d,m⟩:=y;have i:d=1:=by
   rcases g with e|e
   ·exact e
   ·have e:d=2:=e
    subst e;rw[Gx,ie rfl]at hr;cases hr
  subst i;obtain⟨j,l⟩:=b.num hl rfl;simp only at j l;obtain⟨k,rfl⟩:∃k:Nat,m=(k:Int):=⟨m.toNat,by omega⟩;by_cases e:φ f=k
  ·rw[e]
  ·exfalso
   have n:=(wj.1 (h.cont f hf)).1;have key:∀X:eD,X=(data[k]?).getD hZ:=fun X=>by
    have:=h.par (rp (ki ey fl) f X) (data.set (φ f) X) ⟨by simp,fun a oW=>?_,fun k hk=>wu (hk f hf)⟩ p hv
    ·unfold UV at this
     rw[c,hl,mq,mq,mZ,Gx,fY (by simp),ow,wu e]at this;have h2:Nd.file (rp (ki ey fl) f X f)=Nd.file ((data[k]?).getD hZ):=this;rw[kw]at h2;exact Nd.file.inj h2
    ·by_cases e2:a=f
     ·rw[e2,kw,Pm n]
     ·rw[kv e2,wu (fun o=>e2 (h.inj _ _ hf oW o).symm),h.cont a oW]
   have:=(key hZ).trans (key ⟨#[0]⟩).symm
   cases this
theorem lZ.least(h:lZ ey fl op t nodes data hs φ):(gB hs=8/\∀j,j<8->(op j).map (·.1)≠none)\/(gB hs<8/\(op (gB hs)).map (·.1)=none/\∀j,j<gB hs->(op j).map (·.1)≠none):=by
 have key:∀j (hj:j<8),(hs[j]'(by rw[h.h8];exact hj)).1=(op j).isSome:=fun j hj=>by
  have:=h.tab j hj
  rw[jy (by rw[h.h8];exact hj),mZ]at this;rw[this];cases op j<;>rfl
 have hne:∀{j},(op j).isSome=true->(op j).map (·.1)≠none:=fun {j} hj=>by
  cases ho:op j with
  |none=>rw[ho]at hj;cases hj
  |some x=>simp
 rcases Pw (gB hs) hs.length with hl|hl
 ·have h8:gB hs<8:=by rw[<-h.h8];exact hl
  have h1:(!(hs[gB hs]'hl).1)=true:=List.findIdx_getElem (w:=hl);refine .inr ⟨h8,?_,fun j hj=>hne ?_⟩
  ·rw[key _ h8]at h1
   cases ho:op (gB hs) with
   |none=>rfl
   |some x=>rw[ho]at h1;cases h1
  ·have:=List.not_of_lt_findIdx (p:=fun h:rS=>!h.1) hj
   rw[<-key j (by omega)];simpa using this
 ·have a:gB hs=8:=by
   have:gB hs<=hs.length:=List.findIdx_le_length
   have:=h.h8
   omega
  refine .inl ⟨a,fun j hj=>hne ?_⟩
  have:=List.not_of_lt_findIdx (p:=fun h:rS=>!h.1) (xs:=hs) (i:=j) (by show j<gB hs;omega)
  rw[<-key j hj];simpa using this
end
theorem KD(nodes:List eN)(data:eL)(hs:List rS)(p:eD)(fl:Int)(k:Nat)(a:eD):He nodes data hs p fl k a none=if kA fl 4=false then((0,4),nodes,data,hs)else if 16<=(eO nodes a).length then((0,11),nodes,data,hs)
  else(((k:Int),0),nodes++[(p,1,(data.length:Int))],data++[hZ],hs.set k (true,(data.length:Int),fl,0)):=rfl
theorem KE(nodes:List eN)(data:eL)(hs:List rS)(p:eD)(fl:Int)(k:Nat)(a:eD)(x:Int×Int):He nodes data hs p fl k a (some x)=if x.1=2 then((0,7),nodes,data,hs)else if kA fl 8=true then((0,6),nodes,data,hs) else(((k:Int),0),nodes,if kA fl 16=true then data.set x.2.toNat hZ else data,hs.set k (true,x.2,fl,0)):=rfl
section
variable {s i p:Nat}{B:WB}{ey:List Ob}{tg:eV}{w:World}{g:WG}{lim:Nat}{t:LT}{nodes:List eN}{data:eL}{rest:fQ}
theorem cin(h:gO tg w s i p B ey g lim t)(hl:lim+1000<1099511627776)(Y:g.fs.brk=false)(hi:fA ey t)(aL:Exact ey)(au:iV ey g.fl g.op t nodes data rest)(aM:nodes.length<=1000000000)(aN:data.length<=1000000000)(Sb:Nat)(S:eD)(hS:S.size<=1048576)(fg:Int)(hr:-9223372036854775808<=fg/\fg<9223372036854775808):
  ∃a er I fE av,(er==14)=false/\I.length<=nodes.length+1/\fE.length<=data.length+1/\
   (gc 63 #[hh B.wb,.string S,eJ fg] w fun e w'=>e=.returned (.tuple #[eJ a,eJ er])/\rT s i p B ey tg w w' g (lim+400) I fE av)/\
   ∀{F:Nat->Prop} {M:World},eW F M Sb nodes data rest->gc 94 #[hh Sb,.string S,eJ fg] M fun e w'=>e=.returned (.tuple #[eJ a,eJ er])/\eW (kp F M w') w' Sb I fE av/\eA F M w':=by
 have aw:=au;obtain⟨⟨φ,hs,N,rfl,v⟩,o⟩:=au;obtain⟨bu,c0,O⟩:=h.ws;obtain⟨aO,aP⟩:=Wp (nodes:=nodes) (data:=data) (hs:=hs) S fg;refine⟨(xp nodes data hs S fg).1.1,(xp nodes data hs S fg).1.2,(xp nodes data hs S fg).2.1,(xp nodes data hs S fg).2.2.1,rr (xp nodes data hs S fg).2.2.2++N,NP S fg,aO,aP,?_,fun ah=>by
  obtain⟨na,nc,da,dc,ah⟩:=ah;exact NJ ah v.h8 (o.fine aM) o.kinds aN S (by omega) fg⟩
 have same:∀{er:Int},xp nodes data hs S fg=((0,er),nodes,data,hs)->(gc 63 #[hh B.wb,.string S,eJ fg] w (pB (.tuple #[eJ 0,eJ er]) w))->
   gc 63 #[hh B.wb,.string S,eJ fg] w fun e w'=>e=.returned (.tuple #[eJ (xp nodes data hs S fg).1.1,eJ (xp nodes data hs S fg).1.2])/\rT s i p B ey tg w w' g (lim+400) (xp nodes data hs S fg).2.1 (xp nodes data hs S fg).2.2.1 (rr (xp nodes data hs S fg).2.2.2++N):=fun e hc=>by
  rw[e];exact hc.mono fun e w' ⟨D,ai⟩=>⟨D,Hn h Y hi aw ai⟩
 have J:=fun W=>Sv fg hr W;rcases kN (S:=S) (wl hS (by decide)) with⟨hf,hn⟩|⟨l,E,rfl⟩
 ·exact same (NN hf fg) (Wo B.wb S fg w hn)
 ·cases P:tA fg with
  |false=>
   rw[P]at J;refine same (er:=2) ?_ (by rw[<-se];exact NK B.wb l E fg w J);rcases kO l with rfl|⟨n,r,rfl⟩
   ·rw[ue,ie P]
   ·rw[yS E,ie P]
  |true=>
   rw[P]at J;have Z:¬tA fg=false:=by rw[P];simp
   obtain⟨ax,aQ⟩:=Dw P;rcases v.least with⟨h8,U⟩|⟨h8,aj,U⟩
   ·refine same (er:=10) ?_ (by rw[<-se];exact SE B.wb _ l E fg w O U J)
    rcases kO l with rfl|⟨n,r,rfl⟩
    ·rw[ue,fY Z,ie h8]
    ·rw[yS E,fY Z,ie h8]
   ·have ay:¬gB hs=8:=by omega
    obtain⟨k,hk⟩:∃k,k=gB hs:=⟨_,rfl⟩;rcases kO l with rfl|⟨n,r,rfl⟩
    ·refine same (er:=7) (by rw[ue,fY Z,fY ay]) ?_
     rw[<-se];exact zB B.wb B.bt (gB hs) _ fg [] Good.nil 7 (by decide) (fun w'=>ik w w') w O c0 h8 aj U J (fun W u=>(NL B.bt fg W).mono fun e w' ⟨D,ai⟩=>⟨D,u.trans (ai.mono u.size)⟩)
    ·have hv:=E.val
     have Q:=aL.sound;obtain⟨_,_,aR,aS,aT,_⟩:=CF ax;obtain⟨aa,ab⟩:=mS (uq ey t g.fs r) Y;rw[jW]at ab;have ab:(lL ey t g.fs r).2=QR ey t r:=ab;have aU:=Gy v.reads o hv.left n;have K:=fun W (u:ik w W)=>RD (h.inv.below u) (by omega) h.flat h.ok E fg _ _ _ aS aR aT;simp only[ab]at K;generalize (lL ey t g.fs r).1=fs' at aa K;rw[yS E,fY Z,fY ay,<-aU,<-se];have az:∀A,A≠0->(∀W,ik w W->gc 120 #[hh B.bt,.agg (fy (r.reverse++[n])),eJ fg] W fun e w'=>e=.returned (.tuple #[.pointer none,eJ A])/\Left s i p B ey tg W w' g fs' t (lim+300))->
       gc 63 #[hh B.wb,.string (lf (r.reverse++[n])),eJ fg] w fun e w'=>e=.returned (.tuple #[eJ 0,eJ A])/\rT s i p B ey tg w w' g (lim+400) nodes data (rr hs++N):=by
      intro A hne hc;refine(zB B.wb B.bt (gB hs) _ fg _ E A hne _ w O c0 h8 aj U J (fun W u=>(hc W u).mono fun e w' ⟨h1,h2⟩=>⟨h1,uG u h2⟩)).mono ?_;rintro e w' ⟨h1,h2⟩;exact⟨h1,tX ((OG.of h h2).mono (by omega)) Y aa hi aw⟩
     by_cases h0:(QR ey t r).1=0
     ·rw[fY (by rw[h0];simp)]
      obtain⟨d,H,C⟩:=qO h0;obtain⟨ks,aV⟩:∃ks,ks=(QR ey t r).2:=⟨_,rfl⟩;rw[<-aV]at C K;rw[h0]at K;have oV:=lj Q (py Q _ h.ok H).2.1 C;have aW:=qR v.reads o Q h.ok H C;have L:∀A,xH ks n (kA fg 8) (kA fg 4)=A->A≠0->gc 63 #[hh B.wb,.string (lf (r.reverse++[n])),eJ fg] w fun e w'=>e=.returned (.tuple #[eJ 0,eJ A])/\rT s i p B ey tg w w' g (lim+400) nodes data (rr hs++N):=fun A D hne=>by
       refine az A hne (fun W u=>(K W u).mono ?_);rintro e w' (⟨hx,_⟩|⟨_,hx,h1,h2⟩|⟨_,hx,_⟩)
       ·exact absurd rfl hx
       ·exact⟨by rw[<-D];exact h1,h2⟩
       ·rw[D]at hx;exact absurd hx hne
      -- bv file bw is bx
      have ac:xH ks n (kA fg 8) (kA fg 4)=0->∀{I:List eN} {fE:eL} {num:Int},(∀f yF t',w.heap.size<=f\/g.fl f≠none->eU ey 5 t'->MK ey w.heap.size g.fl ks t r.reverse n (kA fg 16) f yF t'->tP ey yF/\(∃x,yF f=some x)/\fA ey t'/\∃R,num=((R f:Nat):Int)/\lZ ey yF g.op t' I fE hs R/\eY I fE)->
        gc 63 #[hh B.wb,.string (lf (r.reverse++[n])),eJ fg] w fun e w'=>e=.returned (.tuple #[eJ (gB hs:Int),eJ 0])/\rT s i p B ey tg w w' g (lim+400) I fE (rr (hs.set (gB hs) (true,num,fg,0))++N):=by
       intro aX I fE num aY;refine(ML B.wb B.bt (gB hs) (fun k=>(g.op k).map (·.1)) fg _ E (fun f w'=>∃eF kG yF t',eB (Mine i) tg eF w w'/\eT eF w' s i p B ey { g with fs:=fs',ft:=kG,fl:=yF } (lim+300)/\Flat ey t' kG/\eU ey 5 t'/\MK ey w.heap.size g.fl ks t r.reverse n (kA fg 16) f yF t') w O c0 h8 aj U J (fun W u=>(K W u).mono ?_) ?_).mono ?_
       ·rintro e w' (⟨hx,_⟩|⟨_,hx,_⟩|⟨_,_,f,eF,kG,yF,t',D,m,hW,hF,aZ,O⟩)
        ·exact absurd rfl hx
        ·exact absurd aX hx
        ·refine⟨f,D,eF,kG,yF,t',li u m,hW,hF,aZ,?_⟩
         have aA:=u.size;rcases O with⟨a1,a2,a3,ak⟩|a|⟨id,a1,a2,a3,ak⟩
         ·exact .inl ⟨a1,wl aA a2,a3,ak⟩
         ·exact .inr (.inl a)
         ·exact .inr (.inr ⟨id,a1,wl aA a2,a3,ak⟩)
       ·rintro f w' ⟨eF,kG,yF,t',m,hW,_⟩
        exact hW.wp.opens.tab.1
       ·rintro e w' ⟨D,f,M,⟨bz,bA,bb,t1,al,bc,bd,aB,aC⟩,rfl⟩
        have aD:w.heap.size<=f\/g.fl f≠none:=by
         rcases aC with⟨_,a2,_⟩|⟨a1,_⟩|⟨id,_,a2,_⟩
         ·exact .inl a2
         ·refine .inr ?_
          have T:t.at ey (r.reverse++[n])=some (.held f):=(by rw[kB,H,qr,kh,C,qr,a1,qr,mr]);obtain⟨x,hx⟩:=h.inv.wp.held (r.reverse++[n]) f (by rw[h.flat.of,T];rfl);rw[hx];simp
         ·exact .inl a2
        obtain⟨be,⟨x,hx⟩,bf,R,rfl,bg,bh⟩:=aY f bb t1 aD aB aC;obtain⟨bi,bj⟩:=bc.XV (k:=gB hs) (f:=f) (fg:=fg) h8 hx ax.1 (by omega);refine⟨D,_,_,t1,al.trans (bi.mono (fun x hx=>.inr (by rw[hx]))),⟨bj.mono (by omega),bd,aB,be⟩,aa.1.trans Y,aa.2.2.1,bf,⟨R,_,N,rfl,bg.opens h8 (some (M.heap.size,f,fg,0)) (fun z ad=>?_)⟩,bh⟩;cases ad;rw[hx];simp
      have am:∀{f},w.heap.size<=f->g.fl f=none:=fun {f} hf=>by
       cases hg:g.fl f with
       |none=>rfl
       |some x=>
        obtain⟨id,d⟩:=x
        have:=(nX.1 (h.inv.wp.files f id d hg).2.1).1
        omega
      have bk:∀{f},w.heap.size<=f->∀y,t.at ey y≠some (.held f):=fun {f} hf y V=>by
       obtain⟨x,hx⟩:=h.inv.wp.held y f (by rw[h.flat.of,V];rfl);rw[am hf]at hx;cases hx
      have bl:∀f,fA ey (.held f):=fun f x y b hx V=>by
       have:∀z,(LT.held f).at ey z=some (.held b)->z=[]:=fun z ad=>by
        cases z with
        |nil=>rfl
        |cons m r=>rw[kh]at ad;simp[kids]at ad
       rw[this x hx,this y V]
      have an:∀{f},w.heap.size<=f->fA ey (rb ey (fun ks=>sf ks n (.held f)) r.reverse t):=fun {f} hf=>by
       refine Gr hi oV.1 H C (bl f) (fun x b y hx V=>?_);exfalso;cases x with
       |nil=>rw[mr]at hx;cases hx;exact bk hf y V
       |cons m r=>rw[kh]at hx;simp[kids]at hx
      cases hp:ip ks n with
      |none=>
       have aE:eX nodes (r.reverse++[n])=none:=(v.reads.empty hv).2 (by rw[kr H C,hp];rfl);have q:=Cb hp (ex:=kA fg 8) (cr:=kA fg 4);rw[aQ]at q;rw[aE,KD];cases ae:kA fg 4 with
       |false=>
        rw[ae,fY (by simp)]at q;rw[ie rfl];rw[ae]at L;exact L 4 q (by decide)
       |true=>
        rw[ae,ie rfl,aW]at q;rw[ae]at L ac;rw[fY (by simp)];by_cases iE:16<=(eO nodes (ez r.reverse)).length
        ·rw[ie iE]at q
         rw[ie iE];exact L 11 q (by decide)
        ·rw[fY iE]at q
         rw[fY iE];refine ac q (fun f yF t' _ bm ao=>?_);rcases ao with⟨_,a2,rfl,rfl⟩|⟨a1,_⟩|⟨id,a1,_⟩
         ·show _/\_/\_/\∃R,_/\lZ ey _ _ _ (nodes++[(lf (r.reverse++[n]),1,(data.length:Int))]) (data++[hZ]) hs R/\eY (nodes++[(lf (r.reverse++[n]),1,(data.length:Int))]) (data++[hZ])
          rw[se];refine⟨h.fl.write f _,⟨_,kw _ _ _⟩,an a2,rp φ f data.length,by rw[kw],v.create Q h.ok o (am a2) hv H C hp,?_⟩;have bB:=v.reads r.reverse hv.left;have hk2:lx nodes (ez r.reverse)=2:=(v.reads.si o hv.left).2 (by
           unfold UV;rw[H,mq];cases d with
           |file j=>simp[kids]at C
           |held j=>simp[kids]at C
           |dir j=>rfl
           |own es=>rfl)
          refine o.push hv E.len ((jI o hv.left).2.1.1 hk2) aE (by omega) (.inl rfl) (by simp) (fun _=>⟨by omega,by simp only[mb,jA,wA];omega⟩)
         ·rw[hp]at a1;cases a1
         ·rw[hp]at a1;cases a1
      |some c=>
       have T:t.at ey (r.reverse++[n])=some c:=(by rw[kB,H,qr,kh,C,qr,hp,qr,mr]);have q:=Cc hp (ex:=kA fg 8) (cr:=kA fg 4);have G:=v.reads (r.reverse++[n]) hv;unfold UV at G;rw[T,mq]at G;cases hlk:eX nodes (r.reverse++[n]) with
       |none=>rw[hlk]at G;cases G
       |some y=>
        rw[hlk,mq,mZ]at G;have aF:=xM o hlk;have ap:y.1=2↔c.kind=2:=by
         unfold Gx at G;constructor
         ·intro e
          rw[ie e]at G;cases c<;>first|rfl|cases G
         ·intro e
          rcases aF with aq|aq
          ·exfalso
           rw[fY (by rw[aq];decide)]at G;cases c<;>first|cases G|cases e
          ·exact aq
        rw[KE];by_cases hk2:c.kind=2
        ·rw[ie (ap.2 hk2)]
         rw[ie hk2]at q;exact L 7 q (by decide)
        ·rw[fY (fun e=>hk2 (ap.1 e))]
         rw[fY hk2]at q;cases af:kA fg 8 with
         |true=>
          rw[af,ie rfl]at q;rw[ie rfl];rw[af]at L;exact L 6 q (by decide)
         |false=>
          rw[af,fY (by simp)]at q;rw[fY (by simp)];rw[af]at ac;have ar:y.1=1:=aF.resolve_right (fun e=>hk2 (ap.1 e));obtain⟨bn,aG⟩:=y;have ar:bn=1:=ar;subst ar;obtain⟨bo,al⟩:=o.num hlk rfl;simp only at bo al;obtain⟨j,rfl⟩:∃j:Nat,aG=(j:Int):=⟨aG.toNat,by omega⟩;refine ac q (fun f yF t' aD bm ao=>?_);rw[ow];rcases ao with⟨a1,_⟩|⟨a1,rfl,rfl⟩|⟨id,a1,a2,rfl,rfl⟩
          ·rw[hp]at a1;cases a1
          ·rw[hp]at a1
           cases a1;have X:g.fl f≠none:=by
            obtain⟨x,hx⟩:=h.inv.wp.held (r.reverse++[n]) f (by rw[h.flat.of,T];rfl);rw[hx];simp
           have aH:=v.aau o hv X T;rw[hlk,mZ,uR]at aH;have hj:j=φ f:=by have:=aH.2;omega
           cases bp:kA fg 16 with
           |false=>
            rw[fY (by simp),fY (by simp)];exact⟨h.fl,Option.ne_none_iff_exists'.1 X,hi,φ,by rw[hj],v,o⟩
           |true=>
            rw[ie rfl,ie rfl,hj];exact⟨h.fl.write f _,⟨_,kw _ _ _⟩,hi,φ,rfl,v.write X _,o.len (by simp)⟩
          ·rw[hp]at a1
           cases a1;have hid:eM ey id=1:=by
            have:=(py Q _ h.ok T).2.1
            generalize 5-(r.reverse++[n]).length=m at this;cases m<;>exact this
           have bq:id≠0:=fun e=>by
            have:=(xw (ey:=ey) (id:=id) (by rw[hid];decide)).1
            omega
           have aI:=v.hold Q h.ok o (am a2) bq hv H C hp hlk;have aJ:tP ey (rp g.fl f (some (id,hZ))):=fun f' br bs ag bt=>by
            by_cases e:f'=f
            ·rw[e,kw]at ag
             cases ag;exact hid
            ·rw[kv e]at ag
             exact h.fl f' br bs ag bt
           have X:rp g.fl f (some (id,hZ)) f≠none:=by rw[kw];simp
           cases bp:kA fg 16 with
           |false=>
            rw[fY (by simp),fY (by simp)];exact⟨aJ,⟨_,kw _ _ _⟩,an a2,rp φ f j,by rw[kw],aI,o⟩
           |true=>
            rw[ie rfl,ie rfl];have aK:=aI.write X hZ;rw[kw]at aK;exact⟨aJ.write f _,⟨_,kw _ _ _⟩,an a2,rp φ f j,by rw[kw],aK,o.len (by simp)⟩
     ·rw[ie h0]
      refine az _ h0 (fun W u=>(K W u).mono ?_);rintro e w' (⟨_,h1,h2⟩|⟨hx,_⟩|⟨hx,_⟩)
      ·exact⟨h1,h2⟩
      ·exact absurd hx h0
      ·exact absurd hx h0
end
theorem NQ(W n j g h wc tc wb Sb:Nat)(f a1 a2 a3:Int)(S T:eD)(la:fD)(lm lc:Nat)(R:World->Prop)(w:World)(hW:W<w.heap.size)(y:13<f)(z:f<=18)(c5:w.cell? (eI W 5)=some (.slice (some (eI g 0)) n wc))(c6:w.cell? (eI W 6)=some (.slice (some (eI h 0)) n tc))
  (l:g<w.heap.size)(ig:h<w.heap.size)(A:j<n)(hn:n<=1000000000)(m:w.cell? (eI g j)=some (hh wb))(o:w.cell? (eI h j)=some (hh Sb))(t:-9223372036854775808<=a1/\a1<=9223372036854775807)(r:lM a1 (n:Int)=(j:Int))
  (h1:∀i,ik w i->gc 51 #[hh W,hh wb,hh Sb,.agg (Hm f a1 a2 a3 S T la lm lc)] i fun e w'=>e=.returned (.bool true)/\R w'):
  gc 23 #[hh W,.agg (Hm f a1 a2 a3 S T la lm lc)] w fun e w'=>e=.returned (.bool true)/\R w':=by
 have k:=fun i=>IP a1 (n:Int) i t (by omega) (by omega);rw[r]at k;have t13:decide (f<=13)=false:=rk (by omega);unfold Hm at h1 ⊢;obtain⟨s,c⟩:∃B:Obj,B=.cells #[eJ f,eJ a1,eJ a2,eJ a3,.string S,.string T,.slice la lm lc] 57:=⟨_,rfl⟩;obtain⟨a,b⟩:∃a,a=w.alloc s:=⟨_,rfl⟩;have d:ik w a:=by rw[b];exact(lh _ _).alloc (kx _) s
 have C:w.heap.size<a.heap.size:=by rw[b];simp
 have D:a.cell? (eI w.heap.size 0)=some (eJ f):=by rw[b,c];simp
 have E:a.cell? (eI w.heap.size 1)=some (eJ a1):=by rw[b,c];simp
 have F:a.cell? (eI w.heap.size 2)=some (eJ a2):=by rw[b,c];simp
 have G:a.cell? (eI w.heap.size 3)=some (eJ a3):=by rw[b,c];simp
 have H:a.cell? (eI w.heap.size 4)=some (.string S):=by rw[b,c];simp
 have I:a.cell? (eI w.heap.size 5)=some (.string T):=by rw[b,c];simp
 have J:a.cell? (eI w.heap.size 6)=some (.slice la lm lc):=by rw[b,c];simp
 have K:=(d.cell (p:=(eI W 5)) hW).trans c5;have L:=(d.cell (p:=(eI W 6)) hW).trans c6;have M:=(d.cell (p:=(eI g j)) l).trans m;have N:=(d.cell (p:=(eI h j)) ig).trans o;have O:W<a.heap.size:=lO hW d.size;have P:g<a.heap.size:=lO l d.size;have Q:h<a.heap.size:=lO ig d.size;have U:(j:Int)<(n:Int):=by omega
 have u:Hid _:=fun q=>h1 (a.drewN q) (iQ d q);have v:Hid _:=k;clear h1 k c5 c6 m o r;go_enter func23,ntmps23;go_upto_region 1 with fail;rw[<-c,<-b];clear c b d
 go_region_with(go_at_call 49;refine io (v.out _) ?_;rintro _ _ ⟨rfl,rfl⟩)
 all_goals
  go_wp2_with(go_at_call 51;refine io (u.out _) ?_;rintro _ w5 ⟨rfl,x⟩);go_ret;exact⟨rfl,x⟩
section
variable {R:sg}{tg:eV}{w:World}{B0 W s r p lim:Nat}{ey eC:List Ob}{got:List Int}{ws:List Slot}{ds:List Doc}{q8 q9 fV j n:Nat}{B:WB}{g:WG}{t:LT}
theorem uO{f:Nat}{args:Array Value}{v:Value}{b:List eN}{fE:eL}{c:fQ}{a:World}(M:fF R tg w B0 W s r p lim ey eC got ws ds q8 q9 fV)(hj:j<ws.length)(hx:ws[j]=(j+2,B,g,t))(d:ik w a)(h:w.heap.size<a.heap.size)
  (hp:Calls prog f args a fun e w'=>e=.returned v/\rT s (j+2) p B ey tg a w' (VW g got) (lim+400) b fE c):
  Calls prog f args a fun e w'=>e=.returned v/\xk w.heap.size a w'/\Half B0 w w' W s r p lim ey eC ws ds q8 q9 fV j B b fE c:=by
 obtain⟨hQ,hi,i⟩:=(M.below d).work hj hx;refine hp.mono ?_;rintro e w' ⟨k,eF,l,t',m,n,o,hg,q,u⟩;obtain⟨pt,x⟩:=i (by omega) m n o hg q;exact⟨k,yP M h m,_,eF,l,t',_,x,u,yO M d m⟩
theorem YN(hn:n<=1048600)(M:fF R tg w B0 W s r p lim ey eC got ws ds q8 q9 fV)(L:L4 ey ws ds (1200000+n))(l:lim<=900*n)(h8:q8<=n)(m:q9<=n)(o:fV<=n)(q:1<=ws.length)(u:ws.length<=n)(hj:j<ws.length)(f:j<ds.length)(a1 a2 a3:Int)(S T:eD)(la:fD)(lm lc:Nat)(hS:S.size<=1048576)(v:-9223372036854775808<=a2/\a2<9223372036854775808):
  gc 50 #[hh W,.pointer (some (eI (ws[j].2.1.wb) 0)),.pointer (some (eI (ds[j].1) 0)),.agg (Hm 13 a1 a2 a3 S T la lm lc)] w fun e w'=>e=.returned (.bool true)/\fJ B0 w' W s r (n+1)/\Below B0 w w':=by
 obtain⟨B,g,t,hx⟩:∃B g t,ws[j]=(j+2,B,g,t):=⟨_,_,_,by rw[<-M.slot j hj]⟩;obtain⟨Sb,nodes,data,rest,hd⟩:∃Sb nodes data rest,ds[j]=(Sb,nodes,data,rest):=⟨_,_,_,_,rfl⟩;obtain⟨c,h,i⟩:=L.same j hj f;rw[hx,hd]at c;rw[hd]at h i;rw[hx,hd];simp only at c h i ⊢;have x:Exact ey:=M.w3.uu.2.2.1;have y:lim+1000<1099511627776:=by omega
 obtain⟨b,d⟩:∃b,b=w.alloc (.cells (Hm 13 a1 a2 a3 S T la lm lc) 57):=⟨_,rfl⟩;have k:ik w b:=by rw[d];exact(lh _ _).alloc (kx _) _
 have z:w.heap.size<b.heap.size:=by rw[d];simp
 obtain⟨hQ,hi,_⟩:=(M.below k).work hj hx;obtain⟨a,er,A,fE,I,C,J,K,hp,D⟩:=cin hQ y rfl hi x c (by omega) (by omega) Sb S hS a2 v;refine(Sr W B.wb Sb a1 a2 a3 S T la lm lc a er C _ _ w b d (uO M hj hx k z hp) (rU f hd D)).mono ?_;rintro e w' ⟨E,N,eF,O,t',P,F,G,H⟩;exact⟨E,tZ L l (by omega) m o q u hj F G (by show A.length<=_;omega) (by show fE.length<=_;omega),H⟩
theorem Wq(hn:n<=1048600)(M:fF R tg w B0 W s r p lim ey eC got ws ds q8 q9 fV)(L:L4 ey ws ds (1200000+n))(D:lim<=900*n)(h8:q8<=n)(E:q9<=n)(F:fV<=n)(G:1<=ws.length)(H:ws.length<=n)(hj:j<ws.length)(l:j<ds.length)(b a1 a2 a3:Int)(S T:eD)(la:fD)(lm lc:Nat)(hS:S.size<=1048576)(hk:14<=b/\b<=18):
  gc 51 #[hh W,.pointer (some (eI (ws[j].2.1.wb) 0)),.pointer (some (eI (ds[j].1) 0)),.agg (Hm b a1 a2 a3 S T la lm lc)] w fun e w'=>e=.returned (.bool true)/\fJ B0 w' W s r (n+1)/\Below B0 w w':=by
 obtain⟨B,g,t,hx⟩:∃B g t,ws[j]=(j+2,B,g,t):=⟨_,_,_,by rw[<-M.slot j hj]⟩;obtain⟨Sb,nodes,data,rest,hd⟩:∃Sb nodes data rest,ds[j]=(Sb,nodes,data,rest):=⟨_,_,_,_,rfl⟩;obtain⟨i,x,z⟩:=L.same j hj l;rw[hx,hd]at i;rw[hd]at x z;rw[hx,hd];simp only at i x z ⊢;have y:lim+1000<1099511627776:=by omega
 obtain⟨c,k⟩:∃c,c=w.alloc (.cells (Hm b a1 a2 a3 S T la lm lc) 57):=⟨_,rfl⟩;have m:ik w c:=by rw[k];exact(lh _ _).alloc (kx _) _
 have o:w.heap.size<c.heap.size:=by rw[k];simp
 obtain⟨hQ,hi,_⟩:=(M.below m).work hj hx;have I:b=14\/b=15\/b=16\/b=17\/b=18:=by omega
 have fin:∀{e:Ending} {w':World} {fE:eL} {f:fQ},fE.length=data.length->(e=.returned (.bool true)/\∃A eF u t' C,fF A eF w' B0 W s r p (lim+400) ey eC C (ws.set j (j+2,B,u,t')) (ds.set j (Sb,nodes,fE,f)) q8 q9 fV/\iV ey u.fl u.op t' nodes fE f/\Below B0 w w')->e=.returned (.bool true)/\fJ B0 w' W s r (n+1)/\Below B0 w w':=by
  rintro e w' fE f v ⟨J,A,eF,u,t',C,K,N,O⟩;exact⟨J,tZ L D (by omega) E F G H hj K N (Fc x) (by show fE.length<=_;omega),O⟩
 rcases I with rfl|rfl|rfl|rfl|rfl
 ·obtain⟨a,er,f,q,hp,d⟩:=cfg hQ y rfl hi i (by omega) Sb a2 a3
  exact(NB W B.wb Sb a1 a2 a3 S T la lm lc a er q _ _ w c k (uO M hj hx m o hp) (rU l hd d)).mono fun e w' h=>fin rfl h
 ·obtain⟨er,fE,f,q,v,hp,d⟩:=YL hQ y rfl hi i (by omega) Sb a2 S hS
  exact(Kr W B.wb Sb a1 a2 a3 S T la lm lc er q _ _ w c k (uO M hj hx m o hp) (rU l hd d)).mono fun e w' h=>fin v h
 ·obtain⟨er,f,hp,d⟩:=cex hQ rfl hi i Sb a2 a3
  exact(NC W B.wb Sb a1 a2 a3 S T la lm lc er _ _ w c k (uO M hj hx m o hp) (rU l hd d)).mono fun e w' h=>fin rfl h
 ·obtain⟨er,fE,f,q,v,hp,d⟩:=Wn hQ y rfl hi i (by omega) Sb a2 a3
  exact(GL W B.wb Sb a1 a2 a3 S T la lm lc er q _ _ w c k (uO M hj hx m o hp) (rU l hd d)).mono fun e w' h=>fin v h
 ·obtain⟨er,f,hp,d⟩:=YK hQ rfl hi i Sb a2
  exact(Ks W B.wb Sb a1 a2 a3 S T la lm lc er _ _ w c k (uO M hj hx m o hp) (rU l hd d)).mono fun e w' h=>fin rfl h
theorem SF(hn:n<=1048600)(l:fJ B0 w W s r n)(a a1 a2 a3:Int)(S T:eD)(la:fD)(lm lc:Nat)(hS:S.size<=1048576)(D:T.size<=1048576)(d:-9223372036854775808<=a1/\a1<=9223372036854775807)(E:-9223372036854775808<=a2/\a2<9223372036854775808)(hk:8<=a/\a<=18):
  gc 23 #[hh W,.agg (Hm a a1 a2 a3 S T la lm lc)] w fun e w'=>e=.returned (.bool true)/\fJ B0 w' W s r (n+1)/\Below B0 w w':=by
 by_cases F:a<=12
 ·exact Yx hn l a a1 a2 a3 S T la lm lc hS D d ⟨hk.1,F⟩
 obtain⟨R,tg,p,lim,ey,eC,got,ws,ds,q8,q9,fV,M,L,m,h8,o,q,t,u⟩:=l;have J:=yw a1 (n:=(ws.length:Int)) (by omega);obtain⟨j,hj⟩:∃j:Nat,lM a1 (ws.length:Int)=(j:Int):=⟨(lM a1 (ws.length:Int)).toNat,by omega⟩;have b:j<ws.length:=by omega
 have f:j<ds.length:=by rw[L.len];exact b
 obtain⟨x,G,y,z,_⟩:=row_one M.Ck (i:=j) (v:=ptr ws[j].2.1.wb) (by simp[b]);obtain⟨A,Zb,ig,B,_⟩:=row_one M.gz (i:=j) (v:=ptr ds[j].1) (by simp[f]);obtain⟨_,_,C,c5,c6⟩:=M.Wu;rw[G]at c5;rw[Zb,L.len]at c6;by_cases H:a=13
 ·subst H
  refine CC W ws.length j x A R.wc R.tc ws[j].2.1.wb ds[j].1 13 a1 a2 a3 S T la lm lc _ w C (by omega) c5 c6 y ig b (by omega) z B d hj (fun I c=>?_);refine(YN hn (M.below c) L m h8 o q t u b f a1 a2 a3 S T la lm lc hS E).mono ?_;rintro e w' ⟨g,h,k⟩;exact⟨g,h,(mU M c).trans k⟩
 ·refine NQ W ws.length j x A R.wc R.tc ws[j].2.1.wb ds[j].1 a a1 a2 a3 S T la lm lc _ w C (by omega) hk.2 c5 c6 y ig b (by omega) z B d hj (fun I c=>?_)
  refine(Wq hn (M.below c) L m h8 o q t u b f a a1 a2 a3 S T la lm lc hS ⟨by omega,hk.2⟩).mono ?_;rintro e w' ⟨g,h,k⟩;exact⟨g,h,(mU M c).trans k⟩
end
end Go.Proofs.YtlgidcmmgohagaaGreat
