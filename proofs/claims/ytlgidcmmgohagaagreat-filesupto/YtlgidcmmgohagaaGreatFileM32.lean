/- What is proved here: Write at a qY. -/
import Derived.Test.YtlgidcmmgohagaaGreatFileM31
import Derived.Test.YtlgidcmmgohagaaGreatFileM30
import Derived.Test.YtlgidcmmgohagaaGreatFileM21
import Derived.Test.YtlgidcmmgohagaaGreatFileM26
import Derived.Test.YtlgidcmmgohagaaGreatFileM29
import Derived.Test.YtlgidcmmgohagaaGreatFileM28
namespace Go.Proofs.YtlgidcmmgohagaaGreat
open Go.RowKit Go.Sort Go.Shelf Go.Proofs.Tryz
set_option linter.unusedVariables false
set_option maxRecDepth 100000
set_option maxHeartbeats 16000000
theorem F2(o f:Nat)(fg pl a:Int)(old d:eu)(R:World->Prop)(w:World)(c0:w.cell? (eb o 0)=some (fj f))(c1:w.cell? (eb o 1)=some (ed fg))(c2:w.cell? (eb o 2)=some (ed pl))
  (q:(bits BinOp.and IntKind.i64 fg 2==0)=false)(hd:1<=d.size)(h0:0<=xc fg pl 0)(h1:xc fg pl 0+d.size<=256)(m:xc fg pl old.size=a)(r:0<=a)(s:a<=256)(t:256<a+d.size)
  (hg:eK 181 #[fj f] w fun e w'=>e=.returned (.tuple #[.string old,ed 0])/\R w')
  (c:∀b,R b->b.cell? (eb o 0)=some (fj f)/\b.cell? (eb o 1)=some (ed fg)/\b.cell? (eb o 2)=some (ed pl)):
  eK 123 #[fj o,.string d] w fun e w'=>e=.returned (ed 11)/\R w':=by
 have k:=nW o fg pl 0 w c1 c2;have g:=fun b (h:R b)=>nW o fg pl old.size b (c b h).2.1 (c b h).2.2;simp only[m]at g;generalize xc fg pl 0=i at k h0 h1;have u:=mq hd;have v:IntKind.i64.wrap (i+d.size)=i+d.size:=by rw[uP]<;>omega
 have H2:¬256<i+(d.size:Int):=by omega
 have x:IntKind.i64.wrap (a+d.size)=a+d.size:=by rw[uP]<;>omega
 have n:Hid _:=c;have p:Hid _:=g;clear c g;go_enter func123,ntmps123;go_wp2_with(first
  |(go_at_call_of 180 (Value.int .i64 0);refine k.mono ?_;rintro e b ⟨rfl,rfl⟩)
  |(go_at_call 181;refine hg.mono ?_;rintro e b ⟨rfl,j⟩;obtain⟨y,z,A⟩:=n.out b j;have l:Hid _:=j;clear j)
  |(go_at_call 180;refine(p.out _ l.out).mono ?_;rintro e B ⟨rfl,rfl⟩))
 go_ret;exact⟨rfl,l.out⟩
section
variable {s i p:Nat}{B:WB}{ei:List Ob}{tg:eM}{w:World}{g:WG}{lim:Nat}{t:LT}{nodes:List eD}{data:eB}{rest:fE}
theorem BM{fg:Int}(h:0<=fg/\fg<=63)(pl n:Int):xc fg pl n=if iv fg 32=true then n else pl:=by
 unfold xc;rw[(zH h).2.2.2.2.2]
theorem qB.write{fl:Mu}(h:qB ei fl)(f:Nat)(d:eu):qB ei (m8 fl f (some (0,d))):=fun f' id a hf h0=>by
 by_cases e:f'=f
 ·rw[e,il]at hf
  cases hf
  exact absurd rfl h0
 ·rw[ik e]at hf
  exact h f' id a hf h0
def Au (s i p:Nat)(B:WB)(ei:List Ob)(tg:eM)(w:World)(g:WG)(lim:Nat)(nodes:List eD)(data:eB)(rest:fE)(fp fd:Nat)(args:fE)(Sb:Nat):Prop:=
 ∃er e6 b,(er==14)=false/\e6.length=data.length/\(Calls prog fp (.pointer (some ⟨B.wb,0,none⟩)::args).toArray w fun e w'=>e=.returned (.int .i64 er)/\pn s i p B ei tg w w' g (lim+400) nodes e6 b)/\
   ∀{F:Nat->Prop} {a:World},eN F a Sb nodes data rest->Calls prog fd (.pointer (some ⟨Sb,0,none⟩)::args).toArray a fun e w'=>e=.returned (.int .i64 er)/\eN (ie F a w') w' Sb nodes e6 b/\en F a w'
theorem Au.same{fp fd:Nat}{args:fE}{Sb:Nat}(h:fT tg w s i p B ei g lim t)(f:g.fs.brk=false)(hi:eX ei t)(j:gq ei g.fl g.op t nodes data rest)(er:Int)(k:(er==14)=false)
  (hp:Calls prog fp ((fj B.wb)::args).toArray w (ml (ed er) w))
  (hd:∀{F:Nat->Prop} {a:World} {na da:e5} {nc dc:Nat},eV F a Sb na da nc dc nodes data rest->Calls prog fd ((fj Sb)::args).toArray a (ml (ed er) a)):Au s i p B ei tg w g lim nodes data rest fp fd args Sb:=
 ⟨er,data,rest,k,rfl,hp.mono fun e w' ⟨b,c⟩=>⟨b,u1 h f hi j c⟩,fun⟨na,nc,da,dc,d⟩=>(hd d).mono fun e w' ⟨b,c⟩=>⟨b,pE ⟨na,nc,da,dc,d⟩ c⟩⟩
theorem Sa(h:fT tg w s i p B ei g lim t)(hl:lim+1000<1099511627776)(m:g.fs.brk=false)(hi:eX ei t)(N:gq ei g.fl g.op t nodes data rest)(O:data.length<=1000000000)(Sb:Nat)(n:Int)(x:eu)(G:x.size<=1048576):
  Au s i p B ei tg w g lim nodes data rest 64 99 [ed n,.string x] Sb:=by
 have u:=N;obtain⟨⟨φ,hs,H,rfl,l⟩,X⟩:=N;obtain⟨ag,c0,Y⟩:=h.ws;have A:∀{w':World},w'=w->gS w w':=fun e=>by rw[e];exact i7 _ _
 rcases l.used n with⟨hu,hn⟩|⟨k,b,f,fg,pl,hk,rfl,ho,C⟩
 ·exact Au.same h m hi u 3 rfl ((PV Y hn x).mono fun e w' ⟨c,hw⟩=>⟨c,A hw⟩) (fun j=>FY j l.h8 n x hu)
 ·obtain⟨⟨y,D⟩,o,ah,ai⟩:=h.fg ho
  obtain⟨E,Z,c1,c2,aj⟩:=ub h.inv ho;obtain⟨_,P,_⟩:=zH o;have Q:=BM o pl 0;have ws:∀{er:Int} {R:World->Prop},(eK 123 #[fj b,.string x] w fun e w'=>e=.returned (ed er)/\R w')->eK 64 #[fj B.wb,ed (k:Int),.string x] w fun e w'=>e=.returned (ed er)/\R w':=fun hc=>O7 B.wb k b x _ _ w (h.cell hk ho) hk hc;have h0:0<=xc fg pl 0/\xc fg pl 0<=256:=by
   rw[Q];split<;>omega
  cases r:iv fg 2 with
  |false=>
   exact Au.same h m hi u 12 rfl ((ws (zI x E c1 c2 h0.1 h0.2 G (.inl ⟨by rw[P,r];rfl,rfl⟩))).mono fun e w' ⟨c,hw⟩=>⟨c,A hw⟩) (fun j=>zJ j l.h8 C o (.inl ⟨r,rfl⟩))
  |true=>
   have F:(bits BinOp.and IntKind.i64 fg 2==0)=false:=by rw[P,r];rfl
   by_cases I:x.size=0
   ·obtain rfl:x=fy:=by
     apply Gp;exact Array.eq_empty_of_size_eq_zero I
    exact Au.same h m hi u 0 rfl ((ws (Hp b fg w c1 F)).mono fun e w' ⟨c,hw⟩=>⟨c,A hw⟩) (fun j=>zJ j l.h8 C o (.inr ⟨r,rfl,rfl⟩))
   ·obtain⟨ak,J,S,K⟩:=vO h m D
    have L:=l.cont f (by rw[D];simp);obtain⟨d,hd⟩:∃d,d=iE ei g.fl f:=⟨_,rfl⟩;rw[<-hd]at J K L;obtain⟨a,rfl⟩:∃a:Nat,pl=(a:Int):=⟨pl.toNat,by omega⟩;obtain⟨t',v⟩:∃t':Nat,(iv fg 32=true/\t'=d.size)\/(iv fg 32=false/\t'=a):=by
     cases al:iv fg 32 with
     |true=>exact⟨d.size,.inl ⟨rfl,rfl⟩⟩
     |false=>exact⟨a,.inr ⟨rfl,rfl⟩⟩
    have T:xc fg (a:Int) (d.size:Int)=(t':Int):=by
     rw[BM o];rcases v with⟨q,e2⟩|⟨q,e2⟩<;>rw[q,e2]<;>rfl
    have hle:xc fg (a:Int) 0<=(t':Int):=by
     rw[Q];rcases v with⟨q,e2⟩|⟨q,e2⟩<;>rw[q,e2]
     ·rw[fY rfl];omega
     ·rw[eJ Bool.false_ne_true];omega
    have am:t'<=256:=by rcases v with⟨q,e2⟩|⟨q,e2⟩<;>omega
    by_cases U:t'+x.size<=256
    ·refine⟨0,data.set (φ f) (mo d x t'),m9 (hs.set k (true,(φ f:Int),fg,(t':Int)+x.size))++H,rfl,by simp,?_,fun j=>?_⟩
     rotate_left
     ·obtain⟨na,nc,da,dc,j⟩:=j
      exact(MK j l.h8 C L o (by omega) K r I v U O).mono fun e w' ⟨c,h1,h2⟩=>⟨c,qL h1 h2⟩
     ·refine(ws (L6 h.inv (by omega) h.fl ho F (by omega) h0.1 (by omega) J T U)).mono ?_
      rintro e w' ⟨c,ey,aa,hW⟩;refine⟨c,kr h hi aa hW (by omega) (h.fl.write f _) m S ⟨⟨φ,_,H,rfl,(l.write (f:=f) (by rw[D];simp) (mo d x t')).opens hk (some (b,f,fg,_)) (fun z ab=>?_)⟩,X.len (by simp)⟩⟩;cases ab;exact(pA _).2 (.inl rfl)
    ·refine⟨11,data,m9 hs++H,rfl,rfl,?_,fun⟨na,nc,da,dc,j⟩=>(F0 j l.h8 C L o (by omega) K r I v (by omega) G O).mono fun e w' ⟨c,E⟩=>⟨c,pE ⟨na,nc,da,dc,j⟩ E⟩⟩
     by_cases hq:256<xc fg (a:Int) 0+x.size
     ·exact(ws (zI x E c1 c2 h0.1 h0.2 G (.inr ⟨F,by omega,hq,rfl⟩))).mono fun e w' ⟨c,hw⟩=>⟨c,u1 h m hi u (A hw)⟩
     ·have V:=lR h.inv (by omega) h.fl D
      rw[J]at V;refine(ws (F2 b f fg (a:Int) (t':Int) d x _ w Z c1 c2 F (by omega) h0.1 (by omega) T (by omega) (by omega) (by omega) V (fun an ac=>?_))).mono ?_
      ·obtain⟨ad,W,M⟩:=ac
       obtain⟨_,e2,ae,af,_⟩:=ub M ho;exact⟨e2,ae,af⟩
      ·rintro e w' ⟨c,ad,W,M⟩
       exact⟨c,kr (vB:=g.fl) (op':=g.op) h hi (W.mono (fun _ h=>h.mine)) M (by omega) h.fl m S u⟩
end
theorem zL(o f:Nat)(fg m er:Int)(R:World->Prop)(w:World)(ho:o<w.heap.size)(c0:w.cell? (eb o 0)=some (fj f))(c1:w.cell? (eb o 1)=some (ed fg))(c:(bits BinOp.and IntKind.i64 fg 2==0)=false)(h0:0<=m)(h1:m<=256)
  (hr:eK 203 #[fj f,ed m] w fun e w'=>e=.returned (ed er)/\R w'):
  eK 164 #[fj o,ed m] w fun e w'=>e=.returned (ed er)/\R w':=by
 have t0:decide (m<0)=false:=m6 (by omega);have t1:decide (256<m)=false:=m6 (by omega);have a:Hid _:=hr;clear hr;go_enter func164,ntmps164;go_wp2_with(go_at_call 203;refine g7 a.out ?_;rintro e d ⟨rfl,b⟩);go_ret;exact⟨rfl,b⟩
theorem Da(f:Nat)(R:World->Prop)(w:World)(hc:eK 179 #[fj f] w fun e w'=>e=.returned (.tuple #[])/\R w'):
  eK 203 #[fj f,ed 0] w fun e w'=>e=.returned (ed 0)/\R w':=by
 have a:Hid _:=hc;clear hc;go_enter func203,ntmps203;go_wp2_with(go_at_call 179;refine g7 a.out ?_;rintro e c ⟨rfl,b⟩);go_ret;exact⟨rfl,b⟩
theorem Db{P:Program}(w:World)(e sT k c:fL)(g o f l m:Nat)(s:eu)(a:Array Value)(t:fL)
  (hu:P.underlying e=some (.slice c))(hs:(P.info? c).map (·.size)=some 1)(hg:w.heap[g]?=some (.cells a t (0,0)))(h:Nat.min s.size f=m)(n:o+m<=a.size):
  (Builtin.copy_ #[e,sT] k #[.slice (some (eb g o)) f l,.string s]).run P w =
   .ok (goInt m) (w.setRow g (a.toList.take o++Lib.byteCells (s.data.toList.take m)++a.toList.drop (o+m)).toArray):=by
 have q:m<=s.size:=by rw[<-h];exact Nat.min_le_left _ _
 have j:(Lib.byteCells (s.data.toList.take m)).length=m:=by rw[Qy,Hc,<-th];omega
 have d:=run_storeCells_at P g o t (Lib.byteCells (s.data.toList.take m)) 0 a w hg (by rw[j];simpa using n) (Lib.byteCells_one _);have p:List.take m (List.map (fun b:UInt8=>Value.int IntKind.u8 (b.toNat:Int)) s.data.toList)=Lib.byteCells (s.data.toList.take m):=by
  rw[<-Ke];rfl
 rw[j]at d;simp only[zT]at d;cases hq:P.info? c with
 |none=>simp[hq]at hs
 |some i=>
  simp[Builtin.copy_,M7 hu,Builtin.lenOf,Builtin.firstCells,sizeOf,typeInfo,hq,h];rw[p,d];simp[Result.andThen]
theorem Dc{P:Program}{w:World}{ops:Array Oper}{rest:List Oper}{o:Oper}{a:Act}{j:Exit->Act->World->Prop}(p:o.guard=none)(d x:Operand)(c sT:fL)
  (ho:o.op=.call { callee:=.builtin .copy,args:=#[d,x],argTypes:=#[c,sT] })(f:fL)(hu:P.underlying c=some (.slice f))(q:(P.info? f).map (·.size)=some 1)
  (g off i l m:Nat)(s:eu)(hd:a.eval d=.slice (some (eb g off)) i l)(hs:a.eval x=.string s)
  (b:Array Value)(t:fL)(hg:w.heap[g]?=some (.cells b t (0,0)))(hle:Nat.min s.size i=m)(r:off+m<=b.size)
  (new:Array Value)(u:new.toList=b.toList.take off++Lib.byteCells (s.data.toList.take m)++b.toList.drop (off+m))
  (h:∀w',Hid (w'.heap[g]?=some (.cells new t (0,0)))->w.grownBy w' (some g)->wpList P ops j rest (a.put o.dst (goInt m)) w'):wpList P ops j (o::rest) a w:=by
 refine Ki p fun K v=>?_;have n:=Db (P:=P) w c sT o.type f g off i l m s b t hu q hg hle r;rw[<-u,Array.toArray_toList]at n;unfold Oper.wp;simp[execOp,ho,resolve,invoke,builtin,hd,hs,n,Result.andThen];exact v _ _ (h _ (BX w g _ _ t _ hg) ⟨rfl,rfl,rfl,by simp,fun k hk hne=>xL w g k _ (fun e=>hne (by rw[e]))⟩)
theorem Sc{old:List UInt8}{n m:Nat}(hm:Nat.min old.length n=m):Lib.byteCells ((ow old n).take n)=(Lib.byteCells (List.replicate n 0)).take 0++Lib.byteCells (old.take m)++(Lib.byteCells (List.replicate n 0)).drop (0+m):=by
 have hm:min old.length n=m:=hm;unfold ow;rcases Nat.le_total old.length n with h|h
 ·rw[uN h]at hm
  subst hm;rw[jH (l:=old++_) (by simp;omega),jH (l:=old) (io _)];simp[Lib.byteCells]
 ·rw[Nat.min_eq_right h]at hm
  subst hm;rw[show n-old.length=0 by omega];simp[Lib.byteCells]
theorem J4(old:List UInt8)(n:Nat):((ow old n).take n).length=n:=by rw[Hc,C6];omega
theorem F4(d:eu)(n:Nat):(T2 d n).size=n:=by unfold T2 ba;simp only[ByteArray.size,zO,J4]
theorem F5(d:eu):T2 d 0=fy:=by unfold T2 ba;rw[MZ]
theorem De(f n:Nat)(old:eu)(R:World->Prop)(w:World)(I:1<=n)(J:n<=256)(ho:old.size<=256)
  (hg:eK 181 #[fj f] w fun e w'=>e=.returned (.tuple #[.string old,ed 0])/\R w')
  (d:∀a,R a->f<a.heap.size/\(∃x y z,a.cell? (eb f 0)=some x/\a.cell? (eb f 1)=some y/\a.cell? (eb f 2)=some z)/\∀o,a.frozen? (eb f o)=false):
  eK 203 #[fj f,ed (n:Int)] w fun e w'=>e=.returned (ed 0)/\∃a g,R a/\gS a g/\w'=iI g f (T2 old n):=by
 have K:((n:Int)==0)=false:=by simpa using(by omega:(n:Int)≠0)
 obtain⟨m,hm⟩:∃m:Nat,Nat.min old.size n=m:=⟨_,rfl⟩;have L:m<=n:=by rw[<-hm];exact Nat.min_le_right _ _
 obtain⟨t,hi,u,v,A⟩:=H4 Ow;obtain⟨b,c⟩:∃b:List UInt8,b=(ow old.data.toList n).take n:=⟨_,rfl⟩;have h:Hid _:=c;have B:b.length=n:=by rw[c,J4]
 have i:Hid (Nat.min old.size n=m):=hm;have C:Hid _:=d;clear c d hm;go_enter func203,ntmps203;go_wp2_with(first
  |(go_at_call 181;refine hg.mono ?_;rintro e a ⟨rfl,j⟩;have k:Hid _:=j;clear j)
  |(at_make;go_loud(refine M9 _ rfl _ _ 204 rfl 0 5 t _ 1 underlying204 hi u v .i64 .i64 _ _ n rfl rfl rfl rfl ?_ ?_ (oY _) ?_;go_must(rw[A];omega);go_must(unfold maxLen;omega);intro w3 l p;obtain⟨D,E,q⟩:=yK l;have F:Hid (gS a w3):=jW (i7 _ _) p;clear l p))
  |(refine Dc rfl (.tmp 22) (.tmp 23) 204 9 rfl 5 underlying204 Cx a.heap.size 0 n n m old rfl rfl D 5 E.out i.out ?_ (Lib.byteCells b).toArray ?_ ?_;go_must(rw[<-kG,q.out,Qy,s7];omega);go_must(rw[q.out,h.out];exact Sc (by rw[<-th];exact i.out));intro G H r;have s:=sI F.out r;clear r)
  |(go_at_call 212;go_loud(rw[<-B];refine(Jy _ s.out (C.out _ k.out) H.out).mono ?_;rintro e w6 ⟨rfl,rfl⟩)))
 go_ret;exact⟨rfl,a,G,k.out,s.out,by unfold T2 ba;rw[<-h.out]⟩
section
variable {s i p:Nat}{B:WB}{ei:List Ob}{tg:eM}{w:World}{g:WG}{lim:Nat}{t:LT}{nodes:List eD}{data:eB}{rest:fE}
theorem P5(h:fT tg w s i p B ei g lim t)(hl:lim+1000<1099511627776)(o:g.fs.brk=false)(hi:eX ei t)(H:gq ei g.fl g.op t nodes data rest)(P:data.length<=1000000000)(Sb:Nat)(n z:Int):
  Au s i p B ei tg w g lim nodes data rest 100 101 [ed n,ed z] Sb:=by
 have x:=H;obtain⟨⟨φ,hs,A,rfl,j⟩,Q⟩:=H;obtain⟨ab,c0,S⟩:=h.ws;have C:∀{w':World},w'=w->gS w w':=fun e=>by rw[e];exact i7 _ _
 rcases j.used n with⟨hu,hn⟩|⟨k,b,f,fg,pl,hk,rfl,ho,D⟩
 ·exact Au.same h o hi x 3 rfl ((MH S hn z).mono fun e w' ⟨a,hw⟩=>⟨a,C hw⟩) (fun c=>C5 c j.h8 n z hu)
 ·obtain⟨⟨y,l⟩,r,ac,ad⟩:=h.fg ho
  obtain⟨u,I,c1,c2,ae⟩:=ub h.inv ho;obtain⟨_,q,_⟩:=zH r;have ws:∀{er:Int} {R:World->Prop},(eK 164 #[fj b,ed z] w fun e w'=>e=.returned (ed er)/\R w')->eK 100 #[fj B.wb,ed (k:Int),ed z] w fun e w'=>e=.returned (ed er)/\R w':=fun hc=>MM B.wb k b z _ _ w (h.cell hk ho) hk hc;by_cases J:z<0\/256<z
  ·exact Au.same h o hi x 2 rfl ((ws (wV z u c1 (.inl ⟨J,rfl⟩))).mono fun e w' ⟨a,hw⟩=>⟨a,C hw⟩) (fun c=>wW c j.h8 D r (.inl ⟨J,rfl⟩))
  ·cases v:iv fg 2 with
   |false=>
    exact Au.same h o hi x 12 rfl ((ws (wV z u c1 (.inr ⟨by omega,by omega,by rw[q,v];rfl,rfl⟩))).mono fun e w' ⟨a,hw⟩=>⟨a,C hw⟩) (fun c=>wW c j.h8 D r (.inr ⟨by omega,by omega,v,rfl⟩))
   |true=>
    have K:(bits BinOp.and IntKind.i64 fg 2==0)=false:=by rw[q,v];rfl
    obtain⟨m,rfl⟩:∃m:Nat,z=(m:Int):=⟨z.toNat,by omega⟩;obtain⟨af,L,T,E⟩:=vO h o l;have M:=j.cont f (by rw[l];simp);obtain⟨d,hd⟩:∃d,d=iE ei g.fl f:=⟨_,rfl⟩;rw[<-hd]at L E M;refine⟨0,data.set (φ f) (T2 d m),m9 hs++A,rfl,by simp,?_,fun c=>?_⟩
    rotate_left
    ·obtain⟨na,nc,da,dc,c⟩:=c
     exact(I5 c j.h8 D M r E v (by omega) P).mono fun e w' ⟨a,h1,h2⟩=>⟨a,qL h1 h2⟩
    ·have F:gq ei (m8 g.fl f (some (0,T2 d m))) g.op t nodes (data.set (φ f) (T2 d m)) (m9 hs++A):=⟨⟨φ,hs,A,rfl,j.write (f:=f) (by rw[l];simp) (T2 d m)⟩,Q.len (by simp)⟩
     by_cases U:m=0
     ·subst U
      rw[F5]at F ⊢;refine(ws (zL b f fg _ 0 _ w u I c1 K (by omega) (by omega) (Da f _ w (vA h.inv l)))).mono ?_;rintro e w' ⟨a,V,hW⟩;exact⟨a,kr (fs':=g.fs) (op':=g.op) h hi (V.mono E2) hW (by omega) (h.fl.write f _) o (FS.Next.refl _) F⟩
     ·have N:=lR h.inv (by omega) h.fl l
      rw[L]at N;refine(ws (zL b f fg _ 0 _ w u I c1 K (by omega) (by omega) (De f m d _ w (by omega) (by omega) E N (fun W X=>?_)))).mono ?_
      ·obtain⟨Y,O,G⟩:=X
       exact za G l
      ·rintro e w' ⟨a,W,ag,⟨Y,O,G⟩,q,rfl⟩
       obtain⟨Z,aa⟩:=(G.below q).y6 l (d:=T2 d m) (by rw[F4];omega);exact⟨a,kr (op':=g.op) h hi ((O.mono (fun _ h=>h.mine)).trans ((eo.ew q).trans (Z.mono E2))) aa (by omega) (h.fl.write f _) o T F⟩
end
theorem index_none(b:Nat)(a:Nat->Option Nat)(w:World)(h:jg w b a)(h1:∀j,j<8->a j≠none):
  eK 176 #[.slice (some (eb b 1)) 8 8,.pointer none] w (tz (ed (-1)) w):=by
 obtain⟨k,hc,_⟩:=h;have c:Hid _:=hc;have d:Hid _:=h1;clear hc h1;go_enter func176,ntmps176;go_wp2
 go_loopw [8] (fun i wr=>∃j:Nat,j<=8/\i=.int .i64 (j:Int)/\wr=w) (fun i _=>8-(intOf i).toNat)
 case atStart=>exact⟨0,oY _,rfl,rfl⟩
 case round=>
  obtain⟨j,hj,rfl,rfl⟩:=hrel;by_cases e:j=8
  ·subst e
   go_wp2;go_ret;exact⟨rfl,rfl⟩
  ·have f:j<8:=by omega
   have g:=c.out j f;have l:(j:Int)<8:=by omega
   cases hv:a j with
   |none=>exact absurd hv (d.out j (by omega))
   |some x=>
    rw[hv,jS]at g;have hq:∀W,(binOp .eql 86 (.pointer none) (fj x)).run prog W=.ok (.bool false) W:=A7 x;go_wp2;go_roundw
    case rel=>exact⟨j+1,by omega,by go_num,trivial⟩
    case measure=>simp[intOf];omega
theorem MN(b:Nat)(a:Nat->Option Nat)(w:World)(h:jg w b a)(h1:∀j,j<8->a j≠none):
  eK 119 #[.pointer (some (eb b 1))] w (tz (.tuple #[ed 0,ed 10]) w):=by
 have hi:=index_none b a w h h1;clear h h1;go_enter func119,ntmps119;go_wp2_with(go_at_call 176;refine hi.mono ?_;rintro e c ⟨rfl,rfl⟩);go_ret2;exact⟨rfl,rfl⟩
theorem P6(wb:Nat)(S:eu)(fg:Int)(w:World)(hp:iT S):eK 63 #[fj wb,.string S,ed fg] w (ml (.tuple #[ed 0,ed 1]) w):=by
 unfold iT at hp;go_enter func63,ntmps63;go_wp2_with(go_at_call 69;refine g7 (hp _) ?_;rintro e b ⟨rfl,a⟩);go_ret2
 first|exact⟨rfl,a⟩|exact⟨rfl,a.alloc a.size _⟩
theorem I8(wb:Nat)(l:eB)(hl:Good l)(fg:Int)(w:World)(hv:∀W,eK 118 #[ed fg] W (tz (.bool false) W)):
  eK 63 #[fj wb,.string (i6 l),ed fg] w (ml (.tuple #[ed 0,ed 2]) w):=by
 have M2:=fun W=>Lq l hl W;obtain⟨b,c,d,f,g,h⟩:∃b c d f g,et l=(ii b c d f g):=⟨_,_,_,_,_,rfl⟩;unfold hP at M2;simp only[h]at M2;clear h hl;generalize i6 l=i at M2 ⊢;go_enter func63,ntmps63;go_wp2_with(first
  |(go_at_call 69;refine g7 (M2 _) ?_;rintro e j ⟨rfl,a⟩)
  |(go_at_call 118;refine g7 (hv _) ?_;rintro e k ⟨rfl,rfl⟩))
 go_ret2
 first|exact⟨rfl,a⟩|exact⟨rfl,a.alloc a.size _⟩
theorem MO(wb:Nat)(b:Nat->Option Nat)(l:eB)(hl:Good l)(fg:Int)(w:World)(ht:jg w wb b)(h1:∀j,j<8->b j≠none)(hv:∀W,eK 118 #[ed fg] W (tz (.bool true) W)):
  eK 63 #[fj wb,.string (i6 l),ed fg] w (ml (.tuple #[ed 0,ed 10]) w):=by
 have M2:=fun W=>Lq l hl W;have k:=ht.1;obtain⟨c,d,f,g,h,i⟩:∃c d f g h,et l=(ii c d f g h):=⟨_,_,_,_,_,rfl⟩;unfold hP at M2;simp only[i]at M2;have pN:=fun W (m:gS w W)=>MN wb b W (ht.below m) h1;have n:Hid _:=pN;clear i hl pN ht h1;generalize i6 l=o at M2 ⊢;go_enter func63,ntmps63;go_wp2_with(first
  |(go_at_call 69;refine g7 (M2 _) ?_;rintro e p ⟨rfl,a⟩;have q:=kv k a.size)
  |(go_at_call 118;refine g7 (hv _) ?_;rintro e r ⟨rfl,rfl⟩)
  |(go_at_call 119;go_loud(refine g7 (n.out _ (a.alloc a.size _)) ?_;rintro e w3 ⟨rfl,rfl⟩)))
 go_ret2
 first|exact⟨rfl,a⟩|exact⟨rfl,a.alloc a.size _⟩
theorem I9(t:Nat)(fg:Int)(w:World):eK 120 #[fj t,.agg (ii fy fy fy fy fy),ed fg] w (ml (.tuple #[.pointer none,ed 7]) w):=by
 have a:=fun W=>px W;have heq:∀W,(Op.equalIn 10000 147 (hP []) (hP [])).run prog W=.ok true W:=fun W=>by
  have:=sf Good.nil Good.nil W
  rw[jT rfl]at this;exact this
 unfold hP et at a heq;simp only[k8]at a heq;go_enter func120,ntmps120;go_wp2
 go_region_with(go_at_call 75;refine(a _).mono ?_;rintro e c ⟨rfl,b⟩;obtain⟨d,f⟩:=gc b;have g:=gD b)
 all_goals
  go_wp2;go_ret2;exact⟨rfl,em (eQ ((i7 _ _).alloc (io _) _)) b⟩
theorem Av{fl:Int}(h:pj fl=true):(0<=fl/\fl<=63)/\(iv fl 8 ||iv fl 4)=iv fl 4:=by
 unfold pj at h;split at h
 ·cases h
 ·split at h
  ·cases h
  ·split at h
   ·cases h
   ·refine⟨by omega,?_⟩
    revert h
    cases iv fl 8<;>cases iv fl 4<;>simp
section
variable {nodes:List eD}{data:eB}{hs:List pg}
def Dg (nodes:List eD)(data:eB)(hs:List pg)(p:eu)(fl:Int)(k:Nat)(a:eu):Option (Int×Int)->Ui
 |some x=>if x.1=2 then((0,7),nodes,data,hs)else if iv fl 8=true then((0,6),nodes,data,hs) else(((k:Int),0),nodes,if iv fl 16=true then data.set x.2.toNat ⟨#[]⟩else data,hs.set k (true,x.2,fl,0))
 |none=>if iv fl 4=false then((0,4),nodes,data,hs)else if 16<=(eE nodes a).length then((0,11),nodes,data,hs)
  else(((k:Int),0),nodes++[(p,1,(data.length:Int))],data++[⟨#[]⟩],hs.set k (true,(data.length:Int),fl,0))
theorem Ja{q:eB}(hq:q≠[])(fl:Int)(k:Nat)(a:eu):pz nodes data hs (ek q) fl k a=Dg nodes data hs (ek q) fl k a (eO nodes q):=by
 have h1:=vF nodes (ek q);rw[<-iJ hq]at h1;unfold pz;cases hf:je nodes (ek q) with
 |none=>
  rw[hf]at h1;rw[<-h1];rfl
 |some i=>
  rw[hf,my]at h1;cases hn:nodes[i]? with
  |none=>
   exfalso
   have:=(wX.1 hf).1
   rw[gJ this]at hn;cases hn
  |some e=>
   rw[hn,jS]at h1;rw[<-h1];simp only[hn];rfl
theorem vP{l:eB}{x:eu}(a:Good (l++[x]))(fl:Int):ro nodes data hs (ek (l++[x])) fl=if pj fl=false then((0,2),nodes,data,hs)else if yn hs=8 then((0,10),nodes,data,hs)else if pP nodes (l++[x])≠0 then((0,pP nodes (l++[x])),nodes,data,hs)else Dg nodes data hs (ek (l++[x])) fl (yn hs) (ek l) (eO nodes (l++[x])):=by
 unfold ro;rw[tx a];simp only;rw[eJ (by simp),vI,Ja (by simp)];rw[eJ (show ¬(l++[x]).length=0 by simp)]
theorem Jb{S:eu}(h:(fX S).2=false)(fl:Int):ro nodes data hs S fl=((0,1),nodes,data,hs):=by unfold ro;rw[fY h]
theorem qM(fl:Int):ro nodes data hs (ek []) fl=if pj fl=false then((0,2),nodes,data,hs)else if yn hs=8 then((0,10),nodes,data,hs) else((0,7),nodes,data,hs):=by
 unfold ro;rw[tx Good.nil];simp only;rw[eJ (by simp)];rw[fY (show([]:eB).length=0 from rfl)]
def PO (x:Ui):Prop:=(x.1.2==14)=false
theorem Jc(S:eu)(fl:Int):((ro nodes data hs S fl).1.2==14)=false:=by
 show PO (ro nodes data hs S fl);unfold ro;refine km PO (show PO ((0,_),_)from rfl) ?_;refine km PO (show PO ((0,_),_)from rfl) ?_;refine km PO (show PO ((0,_),_)from rfl) ?_;refine km PO (show PO ((0,_),_)from rfl) ?_;refine km PO (show PO ((0,pP nodes _),_)from zA (zz _ _)) ?_;unfold pz;cases je nodes S with
 |none=>
  refine km PO (show PO ((0,_),_)from rfl) ?_;refine km PO (show PO ((0,_),_)from rfl) ?_;rfl
 |some i=>
  simp only;cases nodes[i]? with
  |none=>rfl
  |some e=>
   simp only;refine km PO (show PO ((0,_),_)from rfl) ?_;refine km PO (show PO ((0,_),_)from rfl) ?_;rfl
def QO (n m:Nat)(x:Ui):Prop:=x.2.1.length<=n+1/\x.2.2.1.length<=m+1
theorem P7(S:eu)(fl:Int):QO nodes.length data.length (ro nodes data hs S fl):=by
 have l:∀e:Int×Int,QO nodes.length data.length (e,nodes,data,hs):=fun e=>⟨Hk _,Hk _⟩;unfold ro;refine km (QO _ _) (l _) ?_;refine km (QO _ _) (l _) ?_;refine km (QO _ _) (l _) ?_;refine km (QO _ _) (l _) ?_;refine km (QO _ _) (l _) ?_;unfold pz;cases je nodes S with
 |none=>
  refine km (QO _ _) (l _) ?_;refine km (QO _ _) (l _) ?_;exact⟨by simp,by simp⟩
 |some i=>
  simp only;cases nodes[i]? with
  |none=>exact l _
  |some e=>
   simp only;refine km (QO _ _) (l _) ?_;refine km (QO _ _) (l _) ?_;refine⟨Hk _,?_⟩;show(if _ then _ else _:eB).length<=_;split<;>simp
end
section
variable {ei:List Ob}{fl:Mu}{op:RL}{t:LT}{nodes:List eD}{data:eB}{hs:List pg}{φ:Nat->Nat}
theorem jL.UU(h:jL ei fl op t nodes data hs φ)(b:eP nodes data){p:eB}{f:Nat}(hv:eA p)(hf:fl f≠none)(c:t.at ei p=some (.held f)):eO nodes p=some (1,(φ f:Int)):=by
 have hr:=h.reads p hv;unfold xj at hr;rw[c,jS]at hr;cases hl:eO nodes p with
 |none=>rw[hl]at hr;cases hr
 |some y=>
  rw[hl,jS,kE]at hr;have g:=uJ b hl;obtain⟨d,m⟩:=y;have i:d=1:=by
   rcases g with e|e
   ·exact e
   ·have e:d=2:=e
    subst e;rw[CS,fY rfl]at hr;cases hr
  subst i;obtain⟨j,l⟩:=b.num hl rfl;simp only at j l;obtain⟨k,rfl⟩:∃k:Nat,m=(k:Int):=⟨m.toNat,by omega⟩;by_cases e:φ f=k
  ·rw[e]
  ·exfalso
   have n:=(s6.1 (h.cont f hf)).1;have key:∀X:eu,X=(data[k]?).getD fy:=fun X=>by
    have:=h.par (m8 (iE ei fl) f X) (data.set (φ f) X) ⟨by simp,fun a mE=>?_,fun k hk=>s9 (hk f hf)⟩ p hv
    ·unfold xj at this
     rw[c,hl,jS,jS,kE,CS,eJ (by simp),lV,s9 e]at this;have h2:Nd.file (m8 (iE ei fl) f X f)=Nd.file ((data[k]?).getD fy):=this;rw[il]at h2;exact Nd.file.inj h2
    ·by_cases e2:a=f
     ·rw[e2,il,Kc n]
     ·rw[ik e2,s9 (fun o=>e2 (h.inj _ _ hf mE o).symm),h.cont a mE]
   have:=(key fy).trans (key ⟨#[0]⟩).symm
   cases this
theorem jL.least(h:jL ei fl op t nodes data hs φ):(yn hs=8/\∀j,j<8->(op j).map (·.1)≠none)\/(yn hs<8/\(op (yn hs)).map (·.1)=none/\∀j,j<yn hs->(op j).map (·.1)≠none):=by
 have key:∀j (hj:j<8),(hs[j]'(by rw[h.h8];exact hj)).1=(op j).isSome:=fun j hj=>by
  have:=h.tab j hj
  rw[gJ (by rw[h.h8];exact hj),kE]at this;rw[this];cases op j<;>rfl
 have hne:∀{j},(op j).isSome=true->(op j).map (·.1)≠none:=fun {j} hj=>by
  cases ho:op j with
  |none=>rw[ho]at hj;cases hj
  |some x=>simp
 rcases Km (yn hs) hs.length with hl|hl
 ·have h8:yn hs<8:=by rw[<-h.h8];exact hl
  have h1:(!(hs[yn hs]'hl).1)=true:=List.findIdx_getElem (w:=hl);refine .inr ⟨h8,?_,fun j hj=>hne ?_⟩
  ·rw[key _ h8]at h1
   cases ho:op (yn hs) with
   |none=>rfl
   |some x=>rw[ho]at h1;cases h1
  ·have:=List.not_of_lt_findIdx (p:=fun h:pg=>!h.1) hj
   rw[<-key j (by omega)];simpa using this
 ·have a:yn hs=8:=by
   have:yn hs<=hs.length:=List.findIdx_le_length
   have:=h.h8
   omega
  refine .inl ⟨a,fun j hj=>hne ?_⟩
  have:=List.not_of_lt_findIdx (p:=fun h:pg=>!h.1) (xs:=hs) (i:=j) (by show j<yn hs;omega)
  rw[<-key j hj];simpa using this
end
theorem F6(nodes:List eD)(data:eB)(hs:List pg)(p:eu)(fl:Int)(k:Nat)(a:eu):Dg nodes data hs p fl k a none=if iv fl 4=false then((0,4),nodes,data,hs)else if 16<=(eE nodes a).length then((0,11),nodes,data,hs)
  else(((k:Int),0),nodes++[(p,1,(data.length:Int))],data++[fy],hs.set k (true,(data.length:Int),fl,0)):=rfl
theorem F7(nodes:List eD)(data:eB)(hs:List pg)(p:eu)(fl:Int)(k:Nat)(a:eu)(x:Int×Int):Dg nodes data hs p fl k a (some x)=if x.1=2 then((0,7),nodes,data,hs)else if iv fl 8=true then((0,6),nodes,data,hs) else(((k:Int),0),nodes,if iv fl 16=true then data.set x.2.toNat fy else data,hs.set k (true,x.2,fl,0)):=rfl
section
variable {s i p:Nat}{B:WB}{ei:List Ob}{tg:eM}{w:World}{g:WG}{lim:Nat}{t:LT}{nodes:List eD}{data:eB}{rest:fE}
theorem Ty(h:fT tg w s i p B ei g lim t)(hl:lim+1000<1099511627776)(Y:g.fs.brk=false)(hi:eX ei t)(aL:Exact ei)(au:gq ei g.fl g.op t nodes data rest)(aM:nodes.length<=1000000000)(aN:data.length<=1000000000)(Sb:Nat)(S:eu)(hS:S.size<=1048576)(fg:Int)(hr:-9223372036854775808<=fg/\fg<9223372036854775808):
  ∃a er I e6 av,(er==14)=false/\I.length<=nodes.length+1/\e6.length<=data.length+1/\
   (eK 63 #[fj B.wb,.string S,ed fg] w fun e w'=>e=.returned (.tuple #[ed a,ed er])/\pn s i p B ei tg w w' g (lim+400) I e6 av)/\
   ∀{F:Nat->Prop} {M:World},eN F M Sb nodes data rest->eK 94 #[fj Sb,.string S,ed fg] M fun e w'=>e=.returned (.tuple #[ed a,ed er])/\eN (ie F M w') w' Sb I e6 av/\en F M w':=by
 have aw:=au;obtain⟨⟨φ,hs,N,rfl,v⟩,o⟩:=au;obtain⟨bn,c0,O⟩:=h.ws;obtain⟨aO,aP⟩:=P7 (nodes:=nodes) (data:=data) (hs:=hs) S fg;refine⟨(ro nodes data hs S fg).1.1,(ro nodes data hs S fg).1.2,(ro nodes data hs S fg).2.1,(ro nodes data hs S fg).2.2.1,m9 (ro nodes data hs S fg).2.2.2++N,Jc S fg,aO,aP,?_,fun ah=>by
  obtain⟨na,nc,da,dc,ah⟩:=ah;exact I7 ah v.h8 (o.fine aM) o.kinds aN S (by omega) fg⟩
 have same:∀{er:Int},ro nodes data hs S fg=((0,er),nodes,data,hs)->(eK 63 #[fj B.wb,.string S,ed fg] w (ml (.tuple #[ed 0,ed er]) w))->
   eK 63 #[fj B.wb,.string S,ed fg] w fun e w'=>e=.returned (.tuple #[ed (ro nodes data hs S fg).1.1,ed (ro nodes data hs S fg).1.2])/\pn s i p B ei tg w w' g (lim+400) (ro nodes data hs S fg).2.1 (ro nodes data hs S fg).2.2.1 (m9 (ro nodes data hs S fg).2.2.2++N):=fun e hc=>by
  rw[e];exact hc.mono fun e w' ⟨D,ai⟩=>⟨D,u1 h Y hi aw ai⟩
 have J:=fun W=>MG fg hr W;rcases iU (S:=S) (pD hS (by decide)) with⟨hf,hn⟩|⟨l,E,rfl⟩
 ·exact same (Jb hf fg) (P6 B.wb S fg w hn)
 ·cases P:pj fg with
  |false=>
   rw[P]at J;refine same (er:=2) ?_ (by rw[<-nz];exact I8 B.wb l E fg w J);rcases iV l with rfl|⟨n,r,rfl⟩
   ·rw[qM,fY P]
   ·rw[vP E,fY P]
  |true=>
   rw[P]at J;have Z:¬pj fg=false:=by rw[P];simp
   obtain⟨ax,aQ⟩:=Av P;rcases v.least with⟨h8,U⟩|⟨h8,aj,U⟩
   ·refine same (er:=10) ?_ (by rw[<-nz];exact MO B.wb _ l E fg w O U J)
    rcases iV l with rfl|⟨n,r,rfl⟩
    ·rw[qM,eJ Z,fY h8]
    ·rw[vP E,eJ Z,fY h8]
   ·have ay:¬yn hs=8:=by omega
    obtain⟨k,hk⟩:∃k,k=yn hs:=⟨_,rfl⟩;rcases iV l with rfl|⟨n,r,rfl⟩
    ·refine same (er:=7) (by rw[qM,eJ Z,eJ ay]) ?_
     rw[<-nz];exact wM B.wb B.bt (yn hs) _ fg [] Good.nil 7 (by decide) (fun w'=>gS w w') w O c0 h8 aj U J (fun W u=>(I9 B.bt fg W).mono fun e w' ⟨D,ai⟩=>⟨D,u.trans (ai.mono u.size)⟩)
    ·have hv:=E.val
     have Q:=aL.sound;obtain⟨_,_,aR,aS,aT,_⟩:=zH ax;obtain⟨aa,ab⟩:=kj (qV ei t g.fs r) Y;rw[iz]at ab;have ab:(kq ei t g.fs r).2=xf ei t r:=ab;have aU:=CT v.reads o hv.left n;have K:=fun W (u:gS w W)=>L5 (h.inv.below u) (by omega) h.flat h.ok E fg _ _ _ aS aR aT;simp only[ab]at K;generalize (kq ei t g.fs r).1=fs' at aa K;rw[vP E,eJ Z,eJ ay,<-aU,<-nz];have az:∀A,A≠0->(∀W,gS w W->eK 120 #[fj B.bt,.agg (et (r.reverse++[n])),ed fg] W fun e w'=>e=.returned (.tuple #[.pointer none,ed A])/\Left s i p B ei tg W w' g fs' t (lim+300))->
       eK 63 #[fj B.wb,.string (i6 (r.reverse++[n])),ed fg] w fun e w'=>e=.returned (.tuple #[ed 0,ed A])/\pn s i p B ei tg w w' g (lim+400) nodes data (m9 hs++N):=by
      intro A hne hc;refine(wM B.wb B.bt (yn hs) _ fg _ E A hne _ w O c0 h8 aj U J (fun W u=>(hc W u).mono fun e w' ⟨h1,h2⟩=>⟨h1,rC u h2⟩)).mono ?_;rintro e w' ⟨h1,h2⟩;exact⟨h1,qH ((JK.of h h2).mono (by omega)) Y aa hi aw⟩
     by_cases h0:(xf ei t r).1=0
     ·rw[eJ (by rw[h0];simp)]
      obtain⟨d,H,C⟩:=oh h0;obtain⟨ks,aV⟩:∃ks,ks=(xf ei t r).2:=⟨_,rfl⟩;rw[<-aV]at C K;rw[h0]at K;have mC:=jp Q (mf Q _ h.ok H).2.1 C;have aW:=oq v.reads o Q h.ok H C;have L:∀A,uE ks n (iv fg 8) (iv fg 4)=A->A≠0->eK 63 #[fj B.wb,.string (i6 (r.reverse++[n])),ed fg] w fun e w'=>e=.returned (.tuple #[ed 0,ed A])/\pn s i p B ei tg w w' g (lim+400) nodes data (m9 hs++N):=fun A D hne=>by
       refine az A hne (fun W u=>(K W u).mono ?_);rintro e w' (⟨hx,_⟩|⟨_,hx,h1,h2⟩|⟨_,hx,_⟩)
       ·exact absurd rfl hx
       ·exact⟨by rw[<-D];exact h1,h2⟩
       ·rw[D]at hx;exact absurd hx hne
      -- bo file bp is bq
      have ac:uE ks n (iv fg 8) (iv fg 4)=0->∀{I:List eD} {e6:eB} {num:Int},(∀f vB t',w.heap.size<=f\/g.fl f≠none->eL ei 5 t'->Ia ei w.heap.size g.fl ks t r.reverse n (iv fg 16) f vB t'->qB ei vB/\(∃x,vB f=some x)/\eX ei t'/\∃R,num=((R f:Nat):Int)/\jL ei vB g.op t' I e6 hs R/\eP I e6)->
        eK 63 #[fj B.wb,.string (i6 (r.reverse++[n])),ed fg] w fun e w'=>e=.returned (.tuple #[ed (yn hs:Int),ed 0])/\pn s i p B ei tg w w' g (lim+400) I e6 (m9 (hs.set (yn hs) (true,num,fg,0))++N):=by
       intro aX I e6 num aY;refine(Ib B.wb B.bt (yn hs) (fun k=>(g.op k).map (·.1)) fg _ E (fun f w'=>∃ey iM vB t',eo (Mine i) tg ey w w'/\eH ey w' s i p B ei { g with fs:=fs',ft:=iM,fl:=vB } (lim+300)/\Flat ei t' iM/\eL ei 5 t'/\Ia ei w.heap.size g.fl ks t r.reverse n (iv fg 16) f vB t') w O c0 h8 aj U J (fun W u=>(K W u).mono ?_) ?_).mono ?_
       ·rintro e w' (⟨hx,_⟩|⟨_,hx,_⟩|⟨_,_,f,ey,iM,vB,t',D,m,hW,hF,aZ,O⟩)
        ·exact absurd rfl hx
        ·exact absurd aX hx
        ·refine⟨f,D,ey,iM,vB,t',jn u m,hW,hF,aZ,?_⟩
         have aA:=u.size;rcases O with⟨a1,a2,a3,ak⟩|a|⟨id,a1,a2,a3,ak⟩
         ·exact .inl ⟨a1,pD aA a2,a3,ak⟩
         ·exact .inr (.inl a)
         ·exact .inr (.inr ⟨id,a1,pD aA a2,a3,ak⟩)
       ·rintro f w' ⟨ey,iM,vB,t',m,hW,_⟩
        exact hW.wp.opens.tab.1
       ·rintro e w' ⟨D,f,M,⟨br,bs,a0,t1,al,a4,a5,aB,aC⟩,rfl⟩
        have aD:w.heap.size<=f\/g.fl f≠none:=by
         rcases aC with⟨_,a2,_⟩|⟨a1,_⟩|⟨id,_,a2,_⟩
         ·exact .inl a2
         ·refine .inr ?_
          have T:t.at ei (r.reverse++[n])=some (.held f):=(by rw[i1,H,my,h9,C,my,a1,my,k0]);obtain⟨x,hx⟩:=h.inv.wp.held (r.reverse++[n]) f (by rw[h.flat.of,T];rfl);rw[hx];simp
         ·exact .inl a2
        obtain⟨a6,⟨x,hx⟩,a7,R,rfl,a8,a9⟩:=aY f a0 t1 aD aB aC;obtain⟨bb,bc⟩:=a4.Ro (k:=yn hs) (f:=f) (fg:=fg) h8 hx ax.1 (by omega);refine⟨D,_,_,t1,al.trans (bb.mono (fun x hx=>.inr (by rw[hx]))),⟨bc.mono (by omega),a5,aB,a6⟩,aa.1.trans Y,aa.2.2.1,a7,⟨R,_,N,rfl,a8.opens h8 (some (M.heap.size,f,fg,0)) (fun z ad=>?_)⟩,a9⟩;cases ad;rw[hx];simp
      have am:∀{f},w.heap.size<=f->g.fl f=none:=fun {f} hf=>by
       cases hg:g.fl f with
       |none=>rfl
       |some x=>
        obtain⟨id,d⟩:=x
        have:=(lF.1 (h.inv.wp.files f id d hg).2.1).1
        omega
      have bd:∀{f},w.heap.size<=f->∀y,t.at ei y≠some (.held f):=fun {f} hf y V=>by
       obtain⟨x,hx⟩:=h.inv.wp.held y f (by rw[h.flat.of,V];rfl);rw[am hf]at hx;cases hx
      have be:∀f,eX ei (.held f):=fun f x y b hx V=>by
       have:∀z,(LT.held f).at ei z=some (.held b)->z=[]:=fun z ad=>by
        cases z with
        |nil=>rfl
        |cons m r=>rw[h9]at ad;simp[kids]at ad
       rw[this x hx,this y V]
      have an:∀{f},w.heap.size<=f->eX ei (m1 ei (fun ks=>n7 ks n (.held f)) r.reverse t):=fun {f} hf=>by
       refine CM hi mC.1 H C (be f) (fun x b y hx V=>?_);exfalso;cases x with
       |nil=>rw[k0]at hx;cases hx;exact bd hf y V
       |cons m r=>rw[h9]at hx;simp[kids]at hx
      cases hp:g8 ks n with
      |none=>
       have aE:eO nodes (r.reverse++[n])=none:=(v.reads.empty hv).2 (by rw[iH H C,hp];rfl);have q:=y7 hp (ex:=iv fg 8) (cr:=iv fg 4);rw[aQ]at q;rw[aE,F6];cases ae:iv fg 4 with
       |false=>
        rw[ae,eJ (by simp)]at q;rw[fY rfl];rw[ae]at L;exact L 4 q (by decide)
       |true=>
        rw[ae,fY rfl,aW]at q;rw[ae]at L ac;rw[eJ (by simp)];by_cases NE:16<=(eE nodes (ek r.reverse)).length
        ·rw[fY NE]at q
         rw[fY NE];exact L 11 q (by decide)
        ·rw[eJ NE]at q
         rw[eJ NE];refine ac q (fun f vB t' _ bf ao=>?_);rcases ao with⟨_,a2,rfl,rfl⟩|⟨a1,_⟩|⟨id,a1,_⟩
         ·show _/\_/\_/\∃R,_/\jL ei _ _ _ (nodes++[(i6 (r.reverse++[n]),1,(data.length:Int))]) (data++[fy]) hs R/\eP (nodes++[(i6 (r.reverse++[n]),1,(data.length:Int))]) (data++[fy])
          rw[nz];refine⟨h.fl.write f _,⟨_,il _ _ _⟩,an a2,m8 φ f data.length,by rw[il],v.create Q h.ok o (am a2) hv H C hp,?_⟩;have bt:=v.reads r.reverse hv.left;have hk2:kh nodes (ek r.reverse)=2:=(v.reads.pJ o hv.left).2 (by
           unfold xj;rw[H,jS];cases d with
           |file j=>simp[kids]at C
           |held j=>simp[kids]at C
           |dir j=>rfl
           |own es=>rfl)
          refine o.push hv E.len ((gT o hv.left).2.1.1 hk2) aE (by omega) (.inl rfl) (by simp) (fun _=>⟨by omega,by simp only[jM,gK,td];omega⟩)
         ·rw[hp]at a1;cases a1
         ·rw[hp]at a1;cases a1
      |some c=>
       have T:t.at ei (r.reverse++[n])=some c:=(by rw[i1,H,my,h9,C,my,hp,my,k0]);have q:=y8 hp (ex:=iv fg 8) (cr:=iv fg 4);have G:=v.reads (r.reverse++[n]) hv;unfold xj at G;rw[T,jS]at G;cases hlk:eO nodes (r.reverse++[n]) with
       |none=>rw[hlk]at G;cases G
       |some y=>
        rw[hlk,jS,kE]at G;have aF:=uJ o hlk;have ap:y.1=2↔c.kind=2:=by
         unfold CS at G;constructor
         ·intro e
          rw[fY e]at G;cases c<;>first|rfl|cases G
         ·intro e
          rcases aF with aq|aq
          ·exfalso
           rw[eJ (by rw[aq];decide)]at G;cases c<;>first|cases G|cases e
          ·exact aq
        rw[F7];by_cases hk2:c.kind=2
        ·rw[fY (ap.2 hk2)]
         rw[fY hk2]at q;exact L 7 q (by decide)
        ·rw[eJ (fun e=>hk2 (ap.1 e))]
         rw[eJ hk2]at q;cases af:iv fg 8 with
         |true=>
          rw[af,fY rfl]at q;rw[fY rfl];rw[af]at L;exact L 6 q (by decide)
         |false=>
          rw[af,eJ (by simp)]at q;rw[eJ (by simp)];rw[af]at ac;have ar:y.1=1:=aF.resolve_right (fun e=>hk2 (ap.1 e));obtain⟨bg,aG⟩:=y;have ar:bg=1:=ar;subst ar;obtain⟨bh,al⟩:=o.num hlk rfl;simp only at bh al;obtain⟨j,rfl⟩:∃j:Nat,aG=(j:Int):=⟨aG.toNat,by omega⟩;refine ac q (fun f vB t' aD bf ao=>?_);rw[lV];rcases ao with⟨a1,_⟩|⟨a1,rfl,rfl⟩|⟨id,a1,a2,rfl,rfl⟩
          ·rw[hp]at a1;cases a1
          ·rw[hp]at a1
           cases a1;have X:g.fl f≠none:=by
            obtain⟨x,hx⟩:=h.inv.wp.held (r.reverse++[n]) f (by rw[h.flat.of,T];rfl);rw[hx];simp
           have aH:=v.UU o hv X T;rw[hlk,kE,rN]at aH;have hj:j=φ f:=by have:=aH.2;omega
           cases bi:iv fg 16 with
           |false=>
            rw[eJ (by simp),eJ (by simp)];exact⟨h.fl,Option.ne_none_iff_exists'.1 X,hi,φ,by rw[hj],v,o⟩
           |true=>
            rw[fY rfl,fY rfl,hj];exact⟨h.fl.write f _,⟨_,il _ _ _⟩,hi,φ,rfl,v.write X _,o.len (by simp)⟩
          ·rw[hp]at a1
           cases a1;have hid:eC ei id=1:=by
            have:=(mf Q _ h.ok T).2.1
            generalize 5-(r.reverse++[n]).length=m at this;cases m<;>exact this
           have bj:id≠0:=fun e=>by
            have:=(ur (ei:=ei) (id:=id) (by rw[hid];decide)).1
            omega
           have aI:=v.hold Q h.ok o (am a2) bj hv H C hp hlk;have aJ:qB ei (m8 g.fl f (some (id,fy))):=fun f' bk bl ag bm=>by
            by_cases e:f'=f
            ·rw[e,il]at ag
             cases ag;exact hid
            ·rw[ik e]at ag
             exact h.fl f' bk bl ag bm
           have X:m8 g.fl f (some (id,fy)) f≠none:=by rw[il];simp
           cases bi:iv fg 16 with
           |false=>
            rw[eJ (by simp),eJ (by simp)];exact⟨aJ,⟨_,il _ _ _⟩,an a2,m8 φ f j,by rw[il],aI,o⟩
           |true=>
            rw[fY rfl,fY rfl];have aK:=aI.write X fy;rw[il]at aK;exact⟨aJ.write f _,⟨_,il _ _ _⟩,an a2,m8 φ f j,by rw[il],aK,o.len (by simp)⟩
     ·rw[fY h0]
      refine az _ h0 (fun W u=>(K W u).mono ?_);rintro e w' (⟨_,h1,h2⟩|⟨hx,_⟩|⟨hx,_⟩)
      ·exact⟨h1,h2⟩
      ·exact absurd hx h0
      ·exact absurd hx h0
end
theorem Jd(W n j g h wc tc wb Sb:Nat)(f a1 a2 a3:Int)(S T:eu)(la:e5)(lm lc:Nat)(R:World->Prop)(w:World)(hW:W<w.heap.size)(y:13<f)(z:f<=18)(c5:w.cell? (eb W 5)=some (.slice (some (eb g 0)) n wc))(c6:w.cell? (eb W 6)=some (.slice (some (eb h 0)) n tc))
  (l:g<w.heap.size)(H2:h<w.heap.size)(A:j<n)(hn:n<=1000000000)(m:w.cell? (eb g j)=some (fj wb))(o:w.cell? (eb h j)=some (fj Sb))(t:-9223372036854775808<=a1/\a1<=9223372036854775807)(r:jA a1 (n:Int)=(j:Int))
  (h1:∀i,gS w i->eK 51 #[fj W,fj wb,fj Sb,.agg (ut f a1 a2 a3 S T la lm lc)] i fun e w'=>e=.returned (.bool true)/\R w'):
  eK 23 #[fj W,.agg (ut f a1 a2 a3 S T la lm lc)] w fun e w'=>e=.returned (.bool true)/\R w':=by
 have k:=fun i=>Eo a1 (n:Int) i t (by omega) (by omega);rw[r]at k;have t13:decide (f<=13)=false:=m6 (by omega);unfold ut at h1 ⊢;obtain⟨s,c⟩:∃B:Obj,B=.cells #[ed f,ed a1,ed a2,ed a3,.string S,.string T,.slice la lm lc] 57:=⟨_,rfl⟩;obtain⟨a,b⟩:∃a,a=w.alloc s:=⟨_,rfl⟩;have d:gS w a:=by rw[b];exact(i7 _ _).alloc (io _) s
 have C:w.heap.size<a.heap.size:=by rw[b];simp
 have D:a.cell? (eb w.heap.size 0)=some (ed f):=by rw[b,c];simp
 have E:a.cell? (eb w.heap.size 1)=some (ed a1):=by rw[b,c];simp
 have F:a.cell? (eb w.heap.size 2)=some (ed a2):=by rw[b,c];simp
 have G:a.cell? (eb w.heap.size 3)=some (ed a3):=by rw[b,c];simp
 have H:a.cell? (eb w.heap.size 4)=some (.string S):=by rw[b,c];simp
 have I:a.cell? (eb w.heap.size 5)=some (.string T):=by rw[b,c];simp
 have J:a.cell? (eb w.heap.size 6)=some (.slice la lm lc):=by rw[b,c];simp
 have K:=(d.cell (p:=(eb W 5)) hW).trans c5;have L:=(d.cell (p:=(eb W 6)) hW).trans c6;have M:=(d.cell (p:=(eb g j)) l).trans m;have N:=(d.cell (p:=(eb h j)) H2).trans o;have O:W<a.heap.size:=kv hW d.size;have P:g<a.heap.size:=kv l d.size;have Q:h<a.heap.size:=kv H2 d.size;have U:(j:Int)<(n:Int):=by omega
 have u:Hid _:=fun q=>h1 (a.drewN q) (PP d q);have v:Hid _:=k;clear h1 k c5 c6 m o r;go_enter func23,ntmps23;go_upto_region 1 with fail;rw[<-c,<-b];clear c b d
 go_region_with(go_at_call 49;refine g7 (v.out _) ?_;rintro _ _ ⟨rfl,rfl⟩)
 all_goals
  go_wp2_with(go_at_call 51;refine g7 (u.out _) ?_;rintro _ w5 ⟨rfl,x⟩);go_ret;exact⟨rfl,x⟩
section
variable {R:pI}{tg:eM}{w:World}{B0 W s r p lim:Nat}{ei ep:List Ob}{got:List Int}{ws:List Slot}{ds:List Doc}{q8 q9 fH j n:Nat}{B:WB}{g:WG}{t:LT}
theorem rK{f:Nat}{args:Array Value}{v:Value}{b:List eD}{e6:eB}{c:fE}{a:World}(M:e7 R tg w B0 W s r p lim ei ep got ws ds q8 q9 fH)(hj:j<ws.length)(hx:ws[j]=(j+2,B,g,t))(d:gS w a)(h:w.heap.size<a.heap.size)
  (hp:Calls prog f args a fun e w'=>e=.returned v/\pn s (j+2) p B ei tg a w' (PI g got) (lim+400) b e6 c):
  Calls prog f args a fun e w'=>e=.returned v/\uh w.heap.size a w'/\Half B0 w w' W s r p lim ei ep ws ds q8 q9 fH j B b e6 c:=by
 obtain⟨hQ,hi,i⟩:=(M.below d).work hj hx;refine hp.mono ?_;rintro e w' ⟨k,ey,l,t',m,n,o,hg,q,u⟩;obtain⟨pt,x⟩:=i (by omega) m n o hg q;exact⟨k,vM M h m,_,ey,l,t',_,x,u,vL M d m⟩
theorem Sd(hn:n<=1048600)(M:e7 R tg w B0 W s r p lim ei ep got ws ds q8 q9 fH)(L:L4 ei ws ds (1200000+n))(l:lim<=900*n)(h8:q8<=n)(m:q9<=n)(o:fH<=n)(q:1<=ws.length)(u:ws.length<=n)(hj:j<ws.length)(f:j<ds.length)(a1 a2 a3:Int)(S T:eu)(la:e5)(lm lc:Nat)(hS:S.size<=1048576)(v:-9223372036854775808<=a2/\a2<9223372036854775808):
  eK 50 #[fj W,.pointer (some (eb (ws[j].2.1.wb) 0)),.pointer (some (eb (ds[j].1) 0)),.agg (ut 13 a1 a2 a3 S T la lm lc)] w fun e w'=>e=.returned (.bool true)/\fh B0 w' W s r (n+1)/\Below B0 w w':=by
 obtain⟨B,g,t,hx⟩:∃B g t,ws[j]=(j+2,B,g,t):=⟨_,_,_,by rw[<-M.slot j hj]⟩;obtain⟨Sb,nodes,data,rest,hd⟩:∃Sb nodes data rest,ds[j]=(Sb,nodes,data,rest):=⟨_,_,_,_,rfl⟩;obtain⟨c,h,i⟩:=L.same j hj f;rw[hx,hd]at c;rw[hd]at h i;rw[hx,hd];simp only at c h i ⊢;have x:Exact ei:=M.w3.qX.2.2.1;have y:lim+1000<1099511627776:=by omega
 obtain⟨b,d⟩:∃b,b=w.alloc (.cells (ut 13 a1 a2 a3 S T la lm lc) 57):=⟨_,rfl⟩;have k:gS w b:=by rw[d];exact(i7 _ _).alloc (io _) _
 have z:w.heap.size<b.heap.size:=by rw[d];simp
 obtain⟨hQ,hi,_⟩:=(M.below k).work hj hx;obtain⟨a,er,A,e6,I,C,J,K,hp,D⟩:=Ty hQ y rfl hi x c (by omega) (by omega) Sb S hS a2 v;refine(MD W B.wb Sb a1 a2 a3 S T la lm lc a er C _ _ w b d (rK M hj hx k z hp) (pq f hd D)).mono ?_;rintro e w' ⟨E,N,ey,O,t',P,F,G,H⟩;exact⟨E,qJ L l (by omega) m o q u hj F G (by show A.length<=_;omega) (by show e6.length<=_;omega),H⟩
theorem P8(hn:n<=1048600)(M:e7 R tg w B0 W s r p lim ei ep got ws ds q8 q9 fH)(L:L4 ei ws ds (1200000+n))(D:lim<=900*n)(h8:q8<=n)(E:q9<=n)(F:fH<=n)(G:1<=ws.length)(H:ws.length<=n)(hj:j<ws.length)(l:j<ds.length)(b a1 a2 a3:Int)(S T:eu)(la:e5)(lm lc:Nat)(hS:S.size<=1048576)(hk:14<=b/\b<=18):
  eK 51 #[fj W,.pointer (some (eb (ws[j].2.1.wb) 0)),.pointer (some (eb (ds[j].1) 0)),.agg (ut b a1 a2 a3 S T la lm lc)] w fun e w'=>e=.returned (.bool true)/\fh B0 w' W s r (n+1)/\Below B0 w w':=by
 obtain⟨B,g,t,hx⟩:∃B g t,ws[j]=(j+2,B,g,t):=⟨_,_,_,by rw[<-M.slot j hj]⟩;obtain⟨Sb,nodes,data,rest,hd⟩:∃Sb nodes data rest,ds[j]=(Sb,nodes,data,rest):=⟨_,_,_,_,rfl⟩;obtain⟨i,x,z⟩:=L.same j hj l;rw[hx,hd]at i;rw[hd]at x z;rw[hx,hd];simp only at i x z ⊢;have y:lim+1000<1099511627776:=by omega
 obtain⟨c,k⟩:∃c,c=w.alloc (.cells (ut b a1 a2 a3 S T la lm lc) 57):=⟨_,rfl⟩;have m:gS w c:=by rw[k];exact(i7 _ _).alloc (io _) _
 have o:w.heap.size<c.heap.size:=by rw[k];simp
 obtain⟨hQ,hi,_⟩:=(M.below m).work hj hx;have I:b=14\/b=15\/b=16\/b=17\/b=18:=by omega
 have fin:∀{e:Ending} {w':World} {e6:eB} {f:fE},e6.length=data.length->(e=.returned (.bool true)/\∃A ey u t' C,e7 A ey w' B0 W s r p (lim+400) ei ep C (ws.set j (j+2,B,u,t')) (ds.set j (Sb,nodes,e6,f)) q8 q9 fH/\gq ei u.fl u.op t' nodes e6 f/\Below B0 w w')->e=.returned (.bool true)/\fh B0 w' W s r (n+1)/\Below B0 w w':=by
  rintro e w' e6 f v ⟨J,A,ey,u,t',C,K,N,O⟩;exact⟨J,qJ L D (by omega) E F G H hj K N (BV x) (by show e6.length<=_;omega),O⟩
 rcases I with rfl|rfl|rfl|rfl|rfl
 ·obtain⟨a,er,f,q,hp,d⟩:=Tx hQ y rfl hi i (by omega) Sb a2 a3
  exact(IZ W B.wb Sb a1 a2 a3 S T la lm lc a er q _ _ w c k (rK M hj hx m o hp) (pq l hd d)).mono fun e w' h=>fin rfl h
 ·obtain⟨er,e6,f,q,v,hp,d⟩:=Sa hQ y rfl hi i (by omega) Sb a2 S hS
  exact(FQ W B.wb Sb a1 a2 a3 S T la lm lc er q _ _ w c k (rK M hj hx m o hp) (pq l hd d)).mono fun e w' h=>fin v h
 ·obtain⟨er,f,hp,d⟩:=Tw hQ rfl hi i Sb a2 a3
  exact(I1 W B.wb Sb a1 a2 a3 S T la lm lc er _ _ w c k (rK M hj hx m o hp) (pq l hd d)).mono fun e w' h=>fin rfl h
 ·obtain⟨er,e6,f,q,v,hp,d⟩:=P5 hQ y rfl hi i (by omega) Sb a2 a3
  exact(C4 W B.wb Sb a1 a2 a3 S T la lm lc er q _ _ w c k (rK M hj hx m o hp) (pq l hd d)).mono fun e w' h=>fin v h
 ·obtain⟨er,f,hp,d⟩:=R9 hQ rfl hi i Sb a2
  exact(FU W B.wb Sb a1 a2 a3 S T la lm lc er _ _ w c k (rK M hj hx m o hp) (pq l hd d)).mono fun e w' h=>fin rfl h
theorem MP(hn:n<=1048600)(l:fh B0 w W s r n)(a a1 a2 a3:Int)(S T:eu)(la:e5)(lm lc:Nat)(hS:S.size<=1048576)(D:T.size<=1048576)(d:-9223372036854775808<=a1/\a1<=9223372036854775807)(E:-9223372036854775808<=a2/\a2<9223372036854775808)(hk:8<=a/\a<=18):
  eK 23 #[fj W,.agg (ut a a1 a2 a3 S T la lm lc)] w fun e w'=>e=.returned (.bool true)/\fh B0 w' W s r (n+1)/\Below B0 w w':=by
 by_cases F:a<=12
 ·exact RU hn l a a1 a2 a3 S T la lm lc hS D d ⟨hk.1,F⟩
 obtain⟨R,tg,p,lim,ei,ep,got,ws,ds,q8,q9,fH,M,L,m,h8,o,q,t,u⟩:=l;have J:=vq a1 (n:=(ws.length:Int)) (by omega);obtain⟨j,hj⟩:∃j:Nat,jA a1 (ws.length:Int)=(j:Int):=⟨(jA a1 (ws.length:Int)).toNat,by omega⟩;have b:j<ws.length:=by omega
 have f:j<ds.length:=by rw[L.len];exact b
 obtain⟨x,G,y,z,_⟩:=row_one M.zh (i:=j) (v:=ptr ws[j].2.1.wb) (by simp[b]);obtain⟨A,Sv,H2,B,_⟩:=row_one M.fP (i:=j) (v:=ptr ds[j].1) (by simp[f]);obtain⟨_,_,C,c5,c6⟩:=M.Qc;rw[G]at c5;rw[Sv,L.len]at c6;by_cases H:a=13
 ·subst H
  refine zD W ws.length j x A R.wc R.tc ws[j].2.1.wb ds[j].1 13 a1 a2 a3 S T la lm lc _ w C (by omega) c5 c6 y H2 b (by omega) z B d hj (fun I c=>?_);refine(Sd hn (M.below c) L m h8 o q t u b f a1 a2 a3 S T la lm lc hS E).mono ?_;rintro e w' ⟨g,h,k⟩;exact⟨g,h,(ko M c).trans k⟩
 ·refine Jd W ws.length j x A R.wc R.tc ws[j].2.1.wb ds[j].1 a a1 a2 a3 S T la lm lc _ w C (by omega) hk.2 c5 c6 y H2 b (by omega) z B d hj (fun I c=>?_)
  refine(P8 hn (M.below c) L m h8 o q t u b f a a1 a2 a3 S T la lm lc hS ⟨by omega,hk.2⟩).mono ?_;rintro e w' ⟨g,h,k⟩;exact⟨g,h,(ko M c).trans k⟩
end
end Go.Proofs.YtlgidcmmgohagaaGreat
