/- What is proved here: the law's steps ae6 and ae7. -/
import Derived.Test.YtlgidcmmgohagaaGreatTreeM07
import Derived.BigQuiet
import Derived.Deep.RegionLaw
namespace Go.Proofs.YtlgidcmmgohagaaGreat
open Go.RowKit Go.Sort Go.Shelf Go.Proofs.Tryz
set_option linter.unusedVariables false
set_option maxRecDepth 100000
set_option maxHeartbeats 16000000
variable {ft:CX}
theorem O7 (n:Nat)(x:Int):Ff (qj n) x=x:=by
 unfold Ff;split
 ·next h=>
  rw[dm] at h;have hj:(x-1).toNat<n:=by omega
  have:(qj n)[(x-1).toNat]? = some (((x-1).toNat:Int)+1):=s7 hj
  rw[List.getD_eq_getElem?_getD,this];show (((x-1).toNat:Int)+1)=x;omega
 ·rfl
section
variable {FL FR FS:Nat->Prop}{w:World}{W s r:Nat}{ag au:List Ob}{c5 c6 c7 c8 c9 c10 c11:Value}
theorem W3.few (h:W3 ft FL FR FS w W s r ag au c5 c6 c7 c8 c9 c10 c11):ag.length<=400/\au.length=ag.length:=by
 obtain⟨_,_,hr⟩:=h.ref
 have:=hr.many
 have:=h.twin.1
 omega
theorem zm (h:W3 ft FL FR FS w W s r ag au c5 c6 c7 c8 c9 c10 c11)(x:Int):Calls prog 39 #[.pointer (some ⟨W,0,none⟩),.int .i64 x] w fun e w'=>e=.returned (.int .i64 x)/\w'=w:=by
 have hf:=h.few;obtain⟨_,_,_,_,_,_,_,hl,_⟩:=h.law
 have:=Y4 hl x (by rw[dm];exact hf.1)
 rw[O7] at this;exact this
theorem oT (h:W3 ft FL FR FS w W s r ag au c5 c6 c7 c8 c9 c10 c11)(j:Nat)(hj:j<ag.length):Calls prog 41 #[.pointer (some ⟨W,0,none⟩),.int .i64 ((j:Int)+1)] w fun e w'=>e=.returned (.int .i64 (j:Int))/\w'=w:=by
 have hf:=h.few;obtain⟨_,_,_,_,_,_,_,hl,_⟩:=h.law
 have:=uk hl ((j:Int)+1) (by rw[dm];exact hf.1)
 have e:=Bn hj [];rw[List.append_nil] at e;rw[e] at this;exact this
theorem vJ (h:W3 ft FL FR FS w W s r ag au c5 c6 c7 c8 c9 c10 c11)(x:Int)(hx:x<1\/(ag.length:Int)<x):Calls prog 41 #[.pointer (some ⟨W,0,none⟩),.int .i64 x] w fun e w'=>e=.returned (.int .i64 (-1))/\w'=w:=by
 have hf:=h.few;obtain⟨_,_,_,_,_,_,_,hl,_⟩:=h.law
 have:=uk hl x (by rw[dm];exact hf.1)
 have e:=DO hx [] (fun _ h=>by cases h);rw[List.append_nil] at e;rw[e] at this;exact this
theorem xe (h:W3 ft FL FR FS w W s r ag au c5 c6 c7 c8 c9 c10 c11)(j:Nat)(hj:j<ag.length):Calls prog 42 #[.pointer (some ⟨W,0,none⟩),.int .i64 (j:Int)] w fun e w'=>e=.returned (.int .i64 ag[j].kind)/\w'=w:=by
 have hf:=h.few;obtain⟨_,_,_,_,_,_,_,hl,_⟩:=h.law
 have:=Sa hl h.ref j (by omega)
 rw[(h.twin.2.1 j hj (by omega)).kind] at this;exact this
theorem Bw {F:Nat->Prop}(h:fT ft F w s ag)(x:Int)(hk:aH ag x≠1):
  Calls prog 40 #[.pointer (some ⟨s,0,none⟩),.int .i64 x] w fun e w'=>e=.returned (.tuple #[.string ByteArray.empty,.int .i64 13])/\Below w.heap.size w w':=by
 refine (uV h x).mono fun e w' ⟨hf,hb⟩=>⟨?_,hb⟩;rcases hf with ⟨_,h1⟩ | ⟨j,hj,he,h2,_⟩
 ·exact h1
 ·rw[he,dL hj] at hk;exact absurd h2 hk
theorem W3.obj (h:W3 ft FL FR FS w W s r ag au c5 c6 c7 c8 c9 c10 c11)(j:Nat)(hj:j<ag.length)(hk:ag[j].kind=1):∃g cap,w.cell? ⟨r,0,none⟩=some (.slice (some ⟨g,0,none⟩) ag.length cap)/\r<w.heap.size/\g<w.heap.size/\w.cell? ⟨g,j*4+1,none⟩=some (.string ag[j].data):=by
 have hf:=h.few;have hda:=(h.twin.2.1 j hj (by omega)).data hk;obtain⟨a,cap,hr⟩:=h.ref;have hl:au.length=ag.length:=hf.2;obtain⟨g,rfl,hg,q0,q1,q2,q3⟩:=j0 hr.row rfl (show j<au.length by omega);refine⟨g,cap,?_,hr.lt,hg,?_⟩
 ·rw[<-hl];exact hr.c0
 ·rw[<-hda];exact q1
theorem Im (h:W3 ft FL FR FS w W s r ag au c5 c6 c7 c8 c9 c10 c11)(a1 N a3:Int)(S T:ByteArray)(la:Option Addr)(lm lc:Nat)(hN:N<1\/(ag.length:Int)<N):
  Calls prog 20 #[.pointer (some ⟨W,0,none⟩),.agg #[.int .i64 3,.int .i64 a1,.int .i64 N,.int .i64 a3,.string S,.string T,.slice la lm lc]] w fun e w'=>e=.returned (.bool true)/\Below w.heap.size w w':=by
 obtain⟨k0,k1,qu,Nt⟩:=h.law.cells;have b1:∀B,Below w.heap.size w (w.alloc B):=fun B=>(Below.refl _ _).alloc (bA _) _;have hid:=fun B=>zm (h.below (b1 B)) N;have lG:=fun B=>Bw (h.below (b1 B)).uQ N (by rw[fD hN];decide);have hpl:=fun B W2 (hb:Below (w.alloc B).heap.size (w.alloc B) W2)=>vJ ((h.below (b1 B)).below hb) N hN;have lM:=fun (W2:World)=>Dx (W:=W) (w:=W2) (-1) (by decide);have lH:=fun (e:Int) (W':World)=>ji e W';have HI:Hid _:=hid;have HG:Hid _:=lG;have HP:Hid _:=hpl;have HK:Hid _:=lM;have HN:Hid _:=lH;clear hid lG hpl lM lH h hN;go_enter func20,ntmps20;go_wp2_with (first
  | (go_at_call 39;refine Calls.mono (HI.out _) ?_;rintro _ _ ⟨rfl,rfl⟩)
  | (go_at_call 40;refine Calls.mono (HG.out _) ?_;rintro _ w2 ⟨rfl,hb2⟩)
  | (go_at_call 41;refine Calls.mono (HP.out _ _ hb2) ?_;rintro _ _ ⟨rfl,rfl⟩)
  | (go_at_call 42;refine Calls.mono (HK.out _) ?_;rintro _ _ ⟨rfl,rfl⟩)
  | (go_at_call 22;refine Calls.mono (HN.out _ _) ?_;rintro _ _ ⟨rfl,rfl⟩))
 go_ret;exact⟨rfl,(b1 _).trans (hb2.mono (by simp))⟩
theorem Io (h:W3 ft FL FR FS w W s r ag au c5 c6 c7 c8 c9 c10 c11)(a1 a3:Int)(S T:ByteArray)(la:Option Addr)(lm lc:Nat)(j:Nat)(hj:j<ag.length)(hk:ag[j].kind≠1):
  Calls prog 20 #[.pointer (some ⟨W,0,none⟩),.agg #[.int .i64 3,.int .i64 a1,.int .i64 ((j:Int)+1),.int .i64 a3,.string S,.string T,.slice la lm lc]] w fun e w'=>e=.returned (.bool true)/\Below w.heap.size w w':=by
 obtain⟨k0,k1,qu,Nt⟩:=h.law.cells;have b1:∀B,Below w.heap.size w (w.alloc B):=fun B=>(Below.refl _ _).alloc (bA _) _;have hid:=fun B=>zm (h.below (b1 B)) ((j:Int)+1);have lG:=fun B=>Bw (h.below (b1 B)).uQ ((j:Int)+1) (by rw[dL hj];exact hk);have hpl:=fun B W2 (hb:Below (w.alloc B).heap.size (w.alloc B) W2)=>oT ((h.below (b1 B)).below hb) j hj;have lM:=fun B W2 (hb:Below (w.alloc B).heap.size (w.alloc B) W2)=>xe ((h.below (b1 B)).below hb) j hj;have lH:=fun (e:Int) (W':World)=>ji e W';obtain⟨kk,qs⟩:∃kk,kk=ag[j].kind:=⟨_,rfl⟩;rw[<-qs] at hk lM;have dy:(kk != 1)=true:=by simpa using hk
 have HI:Hid _:=hid;have HG:Hid _:=lG;have HP:Hid _:=hpl;have HK:Hid _:=lM;have HN:Hid _:=lH;clear hid lG hpl lM lH h qs;go_enter func20,ntmps20;go_wp2_with (first
  | (go_at_call 39;refine Calls.mono (HI.out _) ?_;rintro _ _ ⟨rfl,rfl⟩)
  | (go_at_call 40;refine Calls.mono (HG.out _) ?_;rintro _ w2 ⟨rfl,hb2⟩)
  | (go_at_call 41;refine Calls.mono (HP.out _ _ hb2) ?_;rintro _ _ ⟨rfl,rfl⟩)
  | (go_at_call 42;refine Calls.mono (HK.out _ _ hb2) ?_;rintro _ _ ⟨rfl,rfl⟩)
  | (go_at_call 22;refine Calls.mono (HN.out _ _) ?_;rintro _ _ ⟨rfl,rfl⟩))
 go_ret;exact⟨rfl,(b1 _).trans (hb2.mono (by simp))⟩
theorem Fp (h:W3 ft FL FR FS w W s r ag au c5 c6 c7 c8 c9 c10 c11)(a1 a3:Int)(S T:ByteArray)(la:Option Addr)(lm lc:Nat)(j:Nat)(hj:j<ag.length)(hk:ag[j].kind=1):
  Calls prog 20 #[.pointer (some ⟨W,0,none⟩),.agg #[.int .i64 3,.int .i64 a1,.int .i64 ((j:Int)+1),.int .i64 a3,.string S,.string T,.slice la lm lc]] w fun e w'=>e=.returned (.bool true)/\Below w.heap.size w w':=by
 obtain⟨k0,k1,qu,Nt⟩:=h.law.cells;have hf:=h.few;have b1:∀B,Below w.heap.size w (w.alloc B):=fun B=>(Below.refl _ _).alloc (bA _) _;have hid:=fun B=>zm (h.below (b1 B)) ((j:Int)+1);have lG:=fun B=>Bl (h.below (b1 B)).uQ j hj hk;have hpl:=fun B W2 (hb:Below (w.alloc B).heap.size (w.alloc B) W2)=>oT ((h.below (b1 B)).below hb) j hj;have lM:=fun B W2 (hb:Below (w.alloc B).heap.size (w.alloc B) W2)=>xe ((h.below (b1 B)).below hb) j hj;rw[hk] at lM;have pG:=fun B W2 (hb:Below (w.alloc B).heap.size (w.alloc B) W2)=>W3.obj ((h.below (b1 B)).below hb) j hj hk;have hw:=fun B W2 (hb:Below (w.alloc B).heap.size (w.alloc B) W2)=>fJ.cells ((h.below (b1 B)).below hb).law;have lH:=fun (e:Int) (W':World)=>ji e W';obtain⟨dd,hdd⟩:∃dd,dd=ag[j].data:=⟨_,rfl⟩;rw[<-hdd] at pG lG;have HI:Hid _:=hid;have HG:Hid _:=lG;have HP:Hid _:=hpl;have HK:Hid _:=lM;have HN:Hid _:=lH;have HO:Hid _:=pG;have HW:Hid _:=hw;obtain⟨n,hn⟩:∃n,n=ag.length:=⟨_,rfl⟩;have OH:(j:Int)<(n:Int):=by omega
 have HNn:Hid (n=ag.length):=hn;clear hid lG hpl lM lH h pG hw hn hk hdd;go_enter func20,ntmps20;go_wp2_with (first
  | (go_at_call 39;refine Calls.mono (HI.out _) ?_;rintro _ _ ⟨rfl,rfl⟩)
  | (go_at_call 40;refine Calls.mono (HG.out _) ?_;rintro _ w2 ⟨rfl,hb2⟩;obtain⟨_,m1,mW,_⟩:=HW.out _ _ hb2;obtain⟨g,cap,o0,orl,ogl,o1⟩:=HO.out _ _ hb2;rw[<-HNn.out] at o0)
  | (go_at_call 41;refine Calls.mono (HP.out _ _ hb2) ?_;rintro _ _ ⟨rfl,rfl⟩)
  | (go_at_call 42;refine Calls.mono (HK.out _ _ hb2) ?_;rintro _ _ ⟨rfl,rfl⟩)
  | (go_at_call 22;refine Calls.mono (HN.out _ _) ?_;rintro _ _ ⟨rfl,rfl⟩))
 go_ret;exact⟨rfl,(b1 _).trans (hb2.mono (by simp))⟩
theorem mE {w':World}(h:W3 ft FL FR FS w W s r ag au c5 c6 c7 c8 c9 c10 c11)(hb:Below w.heap.size w w'):Stepped ft FL FR FS w w' W s r c5 c6 c7 c8 c9 c10 c11:=
 ⟨FL,FR,FS,ag,au,h.below hb,yA.refl,ax.aM hb⟩
theorem C0 (h:W3 ft FL FR FS w W s r ag au c5 c6 c7 c8 c9 c10 c11)(a1 N a3:Int)(S T:ByteArray)(la:Option Addr)(lm lc:Nat):
  Calls prog 20 #[.pointer (some ⟨W,0,none⟩),.agg #[.int .i64 3,.int .i64 a1,.int .i64 N,.int .i64 a3,.string S,.string T,.slice la lm lc]] w fun e w'=>e=.returned (.bool true)/\Stepped ft FL FR FS w w' W s r c5 c6 c7 c8 c9 c10 c11:=by
 by_cases hN:N<1\/(ag.length:Int)<N
 ·exact (Im h a1 N a3 S T la lm lc hN).mono fun e w' ⟨he,hb⟩=>⟨he,mE h hb⟩
 ·obtain⟨j,rfl⟩:∃j:Nat,N=(j:Int)+1:=⟨(N-1).toNat,by omega⟩
  have hj:j<ag.length:=by omega
  by_cases hk:ag[j].kind=1
  ·exact (Fp h a1 a3 S T la lm lc j hj hk).mono fun e w' ⟨he,hb⟩=>⟨he,mE h hb⟩
  ·exact (Io h a1 a3 S T la lm lc j hj hk).mono fun e w' ⟨he,hb⟩=>⟨he,mE h hb⟩
theorem C1 (h:W3 ft FL FR FS w W s r ag au c5 c6 c7 c8 c9 c10 c11)(a1 N a3:Int)(S T:ByteArray)(la:Option Addr)(lm lc:Nat):
  Calls prog 20 #[.pointer (some ⟨W,0,none⟩),.agg #[.int .i64 5,.int .i64 a1,.int .i64 N,.int .i64 a3,.string S,.string T,.slice la lm lc]] w fun e w'=>e=.returned (.bool true)/\Stepped ft FL FR FS w w' W s r c5 c6 c7 c8 c9 c10 c11:=by
 obtain⟨k0,k1,qu,Nt⟩:=h.law.cells;obtain⟨B,hB⟩:∃B:Obj,B=.cells #[.int .i64 5,.int .i64 a1,.int .i64 N,.int .i64 a3,.string S,.string T,.slice la lm lc] 57:=⟨_,rfl⟩;obtain⟨w1,jb⟩:∃w1,w1=w.alloc B:=⟨_,rfl⟩;have hb0:Below w.heap.size w w1:=by rw[jb];exact (Below.refl _ _).alloc (bA _) B
 have acs:=fun q=>CY (h.below (below_drewN hb0 q)).uQ;have HO:Hid _:=acs;have k01:=(hb0.cell (p:=⟨W,0,none⟩) qu).trans k0;have Yf:=(hb0.cell (p:=⟨W,1,none⟩) qu).trans k1;have hf:=h.few;have r01:∃a cap,w1.cell? ⟨r,0,none⟩=some (.slice a ag.length cap)/\r<w1.heap.size:=by
  obtain⟨a,cap,hr⟩:=(h.below hb0).ref;exact⟨a,cap,by rw[<-hf.2];exact hr.c0,hr.lt⟩
 obtain⟨ra,Sh,r01,uS⟩:=r01;have Zq:W<w1.heap.size:=cv qu hb0.size;have HS:Hid (∀q,Stepped ft FL FR FS w (w1.drewN q) W s r c5 c6 c7 c8 c9 c10 c11):=fun q=>mE h (below_drewN hb0 q);obtain⟨n,hn⟩:∃n,n=ag.length:=⟨_,rfl⟩;rw[<-hn] at HO r01;clear acs h hf hn;go_enter func20,ntmps20;go_wp2;rw[<-hB,<-jb];clear hB jb
 go_quiet (first | (go_at_call 45;exact Calls.quiet_of_same (HO.out _)))
 go_wp2;go_ret;exact⟨rfl,HS.out _⟩
end
variable {ft:CX}
theorem SM (i:Nat):vH (i / 4)=Bp i:=rfl
structure Held (FH:Nat->Prop)(w:World)(ea:Option Addr)(ec q:Nat)(hs:List fK):Prop where
 len:hs.length=4*q
 row:w.ownsRow 0 55 1 (.slice ea (4*q) ec) (4*q) (hs.map eR)
 own:∀g,(Value.slice ea (4*q) ec).ownBlock=some g->FH g
 lists:∀i (hi:i<hs.length),hs[i].2.1<=19/\((hs[i].1=none/\hs[i].2.1=0)\/∃g,hs[i].1=some ⟨g,0,none⟩/\FH g/\w.ownsRow 0 96 3 (eR hs[i]) hs[i].2.1 (flat (List.replicate hs[i].2.1 (vH (i / 4)))))
 lt:∀k,FH k->k<w.heap.size
theorem Held.keep {FH:Nat->Prop}{w w':World}{ea:Option Addr}{ec q:Nat}{hs:List fK}(h:Held FH w ea ec q hs)(hk:∀k,FH k->w'.heap[k]? = w.heap[k]?)(hz:w.heap.size<=w'.heap.size):Held FH w' ea ec q hs:=
 ⟨h.len,ai h.row (fun g hg=>hk g (h.own g hg)),h.own,fun i hi=>⟨(h.lists i hi).1,by
  rcases (h.lists i hi).2 with e | ⟨g,e1,e2,e3⟩
  ·exact .inl e
  ·exact .inr ⟨g,e1,e2,ai e3 (fun x hx=>by
    have:x=g:=by unfold eR at hx;rw[e1] at hx;exact (Option.some.inj hx).symm
    rw[this];exact hk g e2)⟩⟩,fun k dy=>cv (h.lt k dy) hz⟩
theorem Held.full {FH:Nat->Prop}{w:World}{ea:Option Addr}{ec q:Nat}{hs:List fK}(h:Held FH w ea ec q hs):∀i (hi:i<hs.length),Full w i hs[i]:=by
 intro i hi j hj;rcases (h.lists i hi).2 with ⟨_,e⟩ | ⟨g,e1,_,e3⟩
 ·omega
 ·unfold eR at e3
  rw[e1] at e3;obtain⟨p0,p1,p2⟩:=bg (off:=0) (aQ e3) (i:=j) (by simpa using hj);rw[Nat.zero_add,List.getElem_replicate,SM] at p0 p1 p2;exact⟨g,e1,p0,p1,p2⟩
section
variable {FL FR FS FH:Nat->Prop}{w:World}{W s r:Nat}{ag au:List Ob}{c5 c6 c7 c8 c9 c10 c11:Value}{ea:Option Addr}{ec q:Nat}{hs:List fK}
theorem W3.block (h:W3 ft FL FR FS w W s r ag au c5 c6 c7 c8 c9 c10 c11):∃a0 a1 a2 a3 a4,w.heap[W]? = some (.cells #[a0,a1,a2,a3,a4,c5,c6,c7,c8,c9,c10,c11] 71 (0,0)):=by
 obtain⟨_,_,_,_,_,_,_,hl,_⟩:=h.law;exact⟨_,_,_,_,_,hl.hW⟩
theorem DX {w':World}{a0 a1 a2 a3 a4:Value}{la:Option Addr}{m:Nat}(h:W3 ft FL FR FS w W s r ag au c5 c6 c7 c8 (.slice ea (4*q) ec) c10 c11)(hh:Held FH w ea ec q hs)(hap:∀k,FH k->¬F3 FL FR FS k)(hm:m<=16)
  (pQ:∀g,(Value.slice la m m).ownBlock=some g->¬F3 FL FR FS g/\¬FH g/\g<w.heap.size)(hnil:la=none->m=0)(hW:w.heap[W]? = some (.cells #[a0,a1,a2,a3,a4,c5,c6,c7,c8,.slice ea (4*q) ec,c10,c11] 71 (0,0)))
  (hk:ur w w' W q #[a0,a1,a2,a3,a4,c5,c6,c7,c8,.slice ea (4*q) ec,c10,c11] ea ec la m hs):
  ∃GC Nu GA sw,W3 ft FL FR FS w' W s r ag au c5 c6 c7 c8 (.slice Nu (4*(q+1)) GA) c10 c11/\Held GC w' Nu GA (q+1) sw/\(∀k,GC k->¬F3 FL FR FS k)/\(∀k,GC k->FH k\/w.heap.size<=k\/some k=(Value.slice la m m).ownBlock)/\
   ax (fun k=>k=W\/FH k\/some k=(Value.slice la m m).ownBlock) w w':=by
 obtain⟨g4,c4,ga,ca,gb,cb,gc,cc,k1,k2,k3,k4,k5,k6,k7,k8⟩:=hk;have z:=k8.size;have fW:FL W:=by obtain⟨_,_,_,_,_,_,_,hl,_⟩:=h.law;exact hl.fw
 have keep:∀k,k<w.heap.size->k≠W->¬FH k->(∀g,(Value.slice la m m).ownBlock=some g->k≠g)->w'.heap[k]? = w.heap[k]?:=fun k fM hk2 hk3 hk4=>k8.block k fM (by
  rintro (e | e | e)
  ·exact hk2 e
  ·exact hk3 (hh.own k e.symm)
  ·exact hk4 k e.symm rfl)
 have n3:∀k,F3 FL FR FS k->¬FH k:=fun k hk hf=>hap k hf hk;have nla:∀k,F3 FL FR FS k->∀g,(Value.slice la m m).ownBlock=some g->k≠g:=fun k hk g hg e=>(pQ g hg).1 (e ▸ hk);have law':fJ FL w' W s r ag.length c5 c6 c7 c8 (.slice (some ⟨g4,0,none⟩) (4*(q+1)) c4) c10 c11:=by
  obtain⟨ia,ka,pa,ic,kc,pc,paths,hl,hp⟩:=h.law;have row:∀{t:TypeId} {v:Value} {n:Nat} {xs:List Value},w.ownsRow 0 t 1 v n xs->71≠t->(∀g,v.ownBlock=some g->FL g)->w'.ownsRow 0 t 1 v n xs:=fun hr ht hf=>ai hr (fun g hg=>keep g (ah hr hg) (fun e=>aA hr hl.hW ht (by rw[<-e];exact hg.symm)) (n3 g (.inl (hf g hg))) (nla g (.inl (hf g hg))));refine⟨ia,ka,pa,ic,kc,pc,paths,⟨hl.fw,?_,row hl.lC (by decide) hl.fi,row hl.pg (by decide) hl.fk,row hl.qg (by decide) hl.fp,hl.fi,hl.fk,hl.fp⟩,hp⟩;have e:=hW.symm.trans hl.hW;simp only[Option.some.injEq,Obj.cells.injEq,Array.mk.injEq,List.cons.injEq,and_true] at e;obtain⟨e0,e1,e2,e3,e4⟩:=e;rw[k1,e0,e1,e2,e3,e4];rfl
 have nW:∀k,FR k\/FS k->k≠W:=fun k hk e=>by
  rcases hk with h1 | h1
  ·exact (h.sep.rl k h1).2 (e ▸ fW)
  ·exact (h.sep.sl k h1).2 (e ▸ fW)
 refine⟨fun k=>FH k\/(some k=(Value.slice la m m).ownBlock)\/(w.heap.size<=k/\k<w'.heap.size),some ⟨g4,0,none⟩,c4,_,⟨law',h.ref.keep (fun _ h=>h) (fun k hk=>keep k (h.sep.rl k hk).1 (nW k (.inl hk)) (n3 k (.inr (.inl hk))) (nla k (.inr (.inl hk)))),fT.keep h.uQ (fun _ h=>h) (fun k hk=>keep k (h.sep.sl k hk).1 (nW k (.inr hk)) (n3 k (.inr (.inr hk))) (nla k (.inr (.inr hk)))),h.twin,h.at_,h.sep.below z⟩,
  ⟨?_,k2,?_,?_,?_⟩,?_,?_,⟨k8.os,k8.tape,k8.output,k8.size,fun k fM hn=>k8.block k fM (by rintro (e | e | e);exact hn (.inl e);exact hn (.inr (.inl (hh.own k e.symm)));exact hn (.inr (.inr e)))⟩⟩
 ·simp[hh.len];omega
 ·intro g hg
  simp only[Value.ownBlock,Option.some.injEq] at hg;subst hg;rcases k7 with e | e
  ·exact .inl (hh.own _ e.symm)
  ·exact .inr (.inr ⟨e,ah k2 rfl⟩)
 ·intro i hi
  by_cases hlt:i<hs.length
  ·rw[List.getElem_append_left hlt]
   refine⟨(hh.lists i hlt).1,?_⟩;rcases (hh.lists i hlt).2 with e | ⟨g,e1,e2,e3⟩
   ·exact .inl e
   ·refine .inr ⟨g,e1,.inl e2,ai e3 (fun x hx=>?_)⟩
    have Ra:x=g:=by unfold eR at hx;rw[e1] at hx;exact (Option.some.inj hx).symm
    subst Ra;refine k8.block x (hh.lt x e2) ?_;rintro (e | e | e)
    ·subst e;exact hap _ e2 (.inl fW)
    ·exact cS e3 hh.row (by decide) hx e
    ·exact (pQ x e.symm).2.1 e2
  ·obtain⟨d,rfl⟩:∃d,i=hs.length+d:=⟨i-hs.length,by omega⟩
   have hd:d<4:=by simp at hi;omega
   rw[List.getElem_append_right (by omega)];have hq:(hs.length+d) / 4=q:=by rw[hh.len];omega
   simp only[Nat.add_sub_cancel_left,hq];have new:∀{g n c:Nat},w'.ownsRow w.heap.size 96 3 (.slice (some ⟨g,0,none⟩) n c) n (flat (List.replicate n (vH q)))->∃g',(some ⟨g,0,none⟩:Option Addr)=some ⟨g',0,none⟩/\(FH g'\/(some g'=(Value.slice la m m).ownBlock)\/(w.heap.size<=g'/\g'<w'.heap.size))/\w'.ownsRow 0 96 3 (.slice (some ⟨g,0,none⟩) n c) n (flat (List.replicate n (vH q))):=fun {g n c} hr=>⟨g,rfl,.inr (.inr (hr.lt g rfl)),cL hr (dG _)⟩
   match d,hd with
   | 0,_=>
    refine⟨show m<=19 by omega,?_⟩;cases la with
    | none=>exact .inl ⟨rfl,hnil rfl⟩
    | some b=>
     obtain⟨g,rfl,hr⟩:=k3 b rfl;exact .inr ⟨g,rfl,.inr (.inl rfl),hr⟩
   | 1,_=>exact⟨show m+1<=19 by omega,.inr (new k4)⟩
   | 2,_=>exact⟨show m+2<=19 by omega,.inr (new k5)⟩
   | 3,_=>exact⟨show m+3<=19 by omega,.inr (new k6)⟩
 ·rintro k (hk | hk | hk)
  ·exact cv (hh.lt k hk) z
  ·exact cv (pQ k hk.symm).2.2 z
  ·exact hk.2
 ·rintro k (hk | hk | hk) hf
  ·exact hap k hk hf
  ·exact (pQ k hk.symm).1 hf
  ·have:k<w.heap.size:=by
    rcases hf with h1 | h1 | h1
    ·exact h.sep.ll k h1
    ·exact (h.sep.rl k h1).1
    ·exact (h.sep.sl k h1).1
   omega
 ·rintro k (hk | hk | hk)
  ·exact .inl hk
  ·exact .inr (.inr hk)
  ·exact .inr (.inl hk.1)
def rK (ft:CX)(FL FR FS FH:Nat->Prop)(w w':World)(W s r q:Nat)(c5 c6 c7 c8 c10 c11:Value):Prop:=
 ∃s8 sx sy GC aN bC Nu GA sw,W3 ft s8 sx sy w' W s r aN bC c5 c6 c7 c8 (.slice Nu (4*q) GA) c10 c11/\Held GC w' Nu GA q sw/\(∀k,GC k->¬F3 s8 sx sy k)/\
  yA FL FR FS s8 sx sy w.heap.size/\(∀k,GC k->FH k\/w.heap.size<=k)/\ax (fun k=>F3 FL FR FS k\/FH k) w w'
theorem xg {w':World}(h:W3 ft FL FR FS w W s r ag au c5 c6 c7 c8 (.slice ea (4*q) ec) c10 c11)(hh:Held FH w ea ec q hs)(hap:∀k,FH k->¬F3 FL FR FS k)(sw:Stepped ft FL FR FS w w' W s r c5 c6 c7 c8 (.slice ea (4*q) ec) c10 c11):rK ft FL FR FS FH w w' W s r q c5 c6 c7 c8 c10 c11:=by
 obtain⟨s8,sx,sy,aN,bC,h3,nw,hk⟩:=sw;refine⟨s8,sx,sy,FH,aN,bC,ea,ec,hs,h3,hh.keep (fun k hf=>hk.block k (hh.lt k hf) (hap k hf)) hk.size,fun k hf V7=>?_,nw,fun k dy=>.inl dy,⟨hk.os,hk.tape,hk.output,hk.size,fun k fM hn=>hk.block k fM (fun h=>hn (.inl h))⟩⟩
 ·rcases nw.all k V7 with e | e
  ·exact hap k hf e
  ·have:=hh.lt k hf;omega
end
variable {ft:CX}
theorem Zt {t:TypeId}(P:Program)(W:World)(x y:aK)(h:(binOp .eql t (.agg #[.string x.1,.int .i64 x.2.1,.int .i64 x.2.2]) (.agg #[.string y.1,.int .i64 y.2.1,.int .i64 y.2.2])).run P W=(if x.fst.toList=y.fst.toList then
   if x.snd.fst=y.snd.fst then
    if x.snd.snd=y.snd.snd then Result.ok (Value.bool true) W else Result.ok (Value.bool false) W
   else Result.ok (Value.bool false) W
  else Result.ok (Value.bool false) W)):(binOp .eql t (.agg #[.string x.1,.int .i64 x.2.1,.int .i64 x.2.2]) (.agg #[.string y.1,.int .i64 y.2.1,.int .i64 y.2.2])).run P W=.ok (.bool (decide (x=y))) W:=by
 rw[h];by_cases e:x=y
 ·subst e;simp
 ·rw[dY e]
  split
  ·next h1=>
   split
   ·next h2=>
    split
    ·next h3=>exact absurd (Prod.ext (sH h1) (Prod.ext h2 h3)) e
    ·rfl
   ·rfl
  ·rfl
theorem SN (W:World)(x y:aK):(binOp .eql 96 (.agg #[.string x.1,.int .i64 x.2.1,.int .i64 x.2.2]) (.agg #[.string y.1,.int .i64 y.2.1,.int .i64 y.2.2])).run prog W=.ok (.bool (decide (x=y))) W:=by
 refine Zt _ W x y ?_
 go_simp
section
variable {FL FR FS FH:Nat->Prop}{w:World}{W s r:Nat}{ag au:List Ob}{c5 c6 c7 c8 c9 c10 c11:Value}{ea:Option Addr}{ec q:Nat}{hs:List fK}
theorem SP (h:W3 ft FL FR FS w W s r ag au c5 c6 c7 c8 c9 c10 c11)(j:Nat)(hj:j<ag.length):
  Calls prog 37 #[.pointer (some ⟨W,0,none⟩),.int .i64 (j:Int),.int .i64 ((j:Int)+1)] w fun e w'=>e=.returned (.bool true)/\W3 ft (bq FL w w') FR FS w' W s r ag au c5 c6 c7 c8 c9 c10 c11/\ax FL w w':=by
 have j8:=h.sep;have V6:∀w':World,ax FL w w'->Sep w' (bq FL w w') FR FS:=fun w' hk=>⟨fun k dy=>by rcases dy with h | h;exact cv (j8.ll k h) hk.size;exact h.2,
   fun k dy=>⟨cv (j8.rl k dy).1 hk.size,fun h=>by rcases h with h | h;exact (j8.rl k dy).2 h;have:=(j8.rl k dy).1;omega⟩,
   fun k dy=>⟨cv (j8.sl k dy).1 hk.size,fun h=>by rcases h with h | h;exact (j8.sl k dy).2 h;have:=(j8.sl k dy).1;omega⟩,j8.rs⟩
 exact (rF h.law h.ref j8.rl h.twin.1.symm h.at_ j hj).mono fun e w' ⟨he,CO,hk⟩=>⟨he,⟨CO,og h.ref j8.rl hk,fT.keep h.uQ (fun _ h=>h) (fun k dy=>hk.block k (j8.sl k dy).1 (j8.sl k dy).2),h.twin,h.at_,V6 w' hk⟩,hk⟩
theorem O8 {F:Nat->Prop}(h:fT ft F w s ag)(x:Int)(hk:aH ag x≠2):
  Calls prog 43 #[.pointer (some ⟨s,0,none⟩),.int .i64 x] w fun e w'=>e=.returned (.tuple #[.slice none 0 0,.int .i64 13])/\Below w.heap.size w w':=by
 refine (wX h x).mono fun e w' ⟨hf,hb⟩=>⟨?_,hb⟩;rcases hf with ⟨_,h1⟩ | ⟨j,hj,he,h2,_⟩
 ·exact h1
 ·rw[he,dL hj] at hk;exact absurd h2 hk
theorem Ip (W s r:Nat)(ag au:List Ob)(c5 c6 c7 c8 c9 c10 c11:Value)(x:Int)(hx:aH ag x≠2):∃pz kz:Int,kz≠2/\∀{FL FR FS:Nat->Prop} (w:World),W3 ft FL FR FS w W s r ag au c5 c6 c7 c8 c9 c10 c11->
  Calls prog 41 #[.pointer (some ⟨W,0,none⟩),.int .i64 x] w (fun e w'=>e=.returned (.int .i64 pz)/\w'=w)/\Calls prog 42 #[.pointer (some ⟨W,0,none⟩),.int .i64 pz] w (fun e w'=>e=.returned (.int .i64 kz)/\w'=w):=by
 by_cases hN:x<1\/(ag.length:Int)<x
 ·exact⟨-1,0,by decide,fun w h=>⟨vJ h x hN,Dx (-1) (by decide)⟩⟩
 ·obtain⟨j,rfl⟩:∃j:Nat,x=(j:Int)+1:=⟨(x-1).toNat,by omega⟩
  have hj:j<ag.length:=by omega
  rw[dL hj] at hx;exact⟨j,ag[j].kind,hx,fun w h=>⟨oT h j hj,xe h j hj⟩⟩
theorem Iq (h:W3 ft FL FR FS w W s r ag au c5 c6 c7 c8 (.slice ea (4*q) ec) c10 c11)(hh:Held FH w ea ec q hs)(hap:∀k,FH k->¬F3 FL FR FS k)(hq:4*q<=1000000000)(a1 N a3:Int)(S T:ByteArray)(la:Option Addr)(lm lc:Nat)(hN:aH ag N≠2):
  Calls prog 20 #[.pointer (some ⟨W,0,none⟩),.agg #[.int .i64 4,.int .i64 a1,.int .i64 N,.int .i64 a3,.string S,.string T,.slice la lm lc]] w fun e w'=>e=.returned (.bool true)/\rK ft FL FR FS FH w w' W s r (q+1) c5 c6 c7 c8 c10 c11:=by
 obtain⟨k0,k1,qu,Nt⟩:=h.law.cells;obtain⟨b0,b1',b2,b3,b4,hW⟩:=h.block;have b1:∀B,Below w.heap.size w (w.alloc B):=fun B=>(Below.refl _ _).alloc (bA _) _;have bb:∀B W2,Below (w.alloc B).heap.size (w.alloc B) W2->Below w.heap.size w W2:=fun B W2 hb=>(b1 B).trans (hb.mono (by simp));have hid:=fun B=>zm (h.below (b1 B)) N;have lG:=fun B=>O8 (h.below (b1 B)).uQ N hN;obtain⟨pz,kz,O9,hwh⟩:=Ip W s r ag au c5 c6 c7 c8 (.slice ea (4*q) ec) c10 c11 N hN;have hpl:=fun B W2 (hb:Below (w.alloc B).heap.size (w.alloc B) W2)=>(hwh W2 (h.below (bb B W2 hb))).1;have lM:=fun B W2 (hb:Below (w.alloc B).heap.size (w.alloc B) W2)=>(hwh W2 (h.below (bb B W2 hb))).2;have lH:=fun (e:Int) (W':World)=>ji e W';have j4:=fun B W2 (hb:Below (w.alloc B).heap.size (w.alloc B) W2)=>su W q #[b0,b1',b2,b3,b4,c5,c6,c7,c8,.slice ea (4*q) ec,c10,c11] ea ec 0 none hs W2 (((bb B W2 hb).block W qu).trans hW) rfl hh.len hq (ai hh.row (fun g hg=>(bb B W2 hb).block g (ah hh.row hg))) (by omega) ⟨fun _=>rfl,fun b h=>by cases h⟩;have HF:Hid (∀B W2 W3',Below (w.alloc B).heap.size (w.alloc B) W2->ur W2 W3' W q #[b0,b1',b2,b3,b4,c5,c6,c7,c8,.slice ea (4*q) ec,c10,c11] ea ec none 0 hs->rK ft FL FR FS FH w W3' W s r (q+1) c5 c6 c7 c8 c10 c11):=fun B W2 W3' hb hk=>by
  have iG:=bb B W2 hb;obtain⟨GC,Nu,GA,sw,n1,n2,n3,n4,n5⟩:=DX (h.below iG) (hh.keep (fun k hk=>iG.block k (hh.lt k hk)) iG.size) hap (dG _) (fun g hg=>by cases hg) (fun _=>rfl) ((iG.block W qu).trans hW) hk;refine⟨FL,FR,FS,GC,ag,au,Nu,GA,sw,n1,n2,n3,yA.refl,fun k e=>?_,⟨n5.os.trans iG.os,n5.tape.trans iG.tape,n5.output.trans iG.output,eU iG.size n5.size,fun k hk hn=>?_⟩⟩
  ·rcases n4 k e with e | e | e
   ·exact .inl e
   ·exact .inr (eU iG.size e)
   ·cases e
  ·rw[n5.block k (cv hk iG.size) ?_]
   ·exact iG.block k hk
   ·rintro (e | e | e)
    ·exact hn (.inl (.inl (e ▸ Nt)))
    ·exact hn (.inr e)
    ·cases e
 have amB:(kz == 2)=false:=by simpa using O9
 have HI:Hid _:=hid;have HG:Hid _:=lG;have HP:Hid _:=hpl;have HK:Hid _:=lM;have HN:Hid _:=lH;have HE:Hid _:=j4;clear hid lG hpl lM lH h hh hap hwh j4 hW hN O9;go_enter func20,ntmps20;go_wp2_with (first
  | (go_at_call 39;refine Calls.mono (HI.out _) ?_;rintro _ _ ⟨rfl,rfl⟩)
  | (go_at_call 43;refine Calls.mono (HG.out _) ?_;rintro _ w2 ⟨rfl,hb2⟩;have V4:=cv qu (bb _ _ hb2).size)
  | (go_at_call 41;refine Calls.mono (HP.out _ _ hb2) ?_;rintro _ _ ⟨rfl,rfl⟩)
  | (go_at_call 42;refine Calls.mono (HK.out _ _ hb2) ?_;rintro _ _ ⟨rfl,rfl⟩)
  | (go_at_call 22;refine Calls.mono (HN.out _ _) ?_;rintro _ _ ⟨rfl,rfl⟩)
  | (go_at_call 44;refine Calls.mono (HE.out _ _ hb2) ?_;rintro _ w4 ⟨rfl,hk4⟩;have HK4:=HF.out _ _ _ hb2 hk4;clear hk4;have Zu:Hid _:=HK4;clear HK4))
 go_ret;exact⟨rfl,Zu.out⟩
theorem W3.items (h:W3 ft FL FR FS w W s r ag au c5 c6 c7 c8 c9 c10 c11)(j:Nat)(hj:j<ag.length)(hk:ag[j].kind=2):∃g cap ia ic,w.cell? ⟨r,0,none⟩=some (.slice (some ⟨g,0,none⟩) ag.length cap)/\r<w.heap.size/\g<w.heap.size/\
  w.cell? ⟨g,j*4+2,none⟩=some (.slice ia ag[j].aV.length ic)/\w.ownsRow 0 112 3 (.slice ia ag[j].aV.length ic) ag[j].aV.length (flat (ag[j].aV.map dg)):=by
 have hf:=h.few;have hx:=(h.twin.2.1 j hj (by omega)).aV hk;obtain⟨a,cap,hr⟩:=h.ref;have Gy:j<au.length:=by omega
 obtain⟨g,rfl,hg,q0,q1,q2,q3⟩:=j0 hr.row rfl Gy;have pG:=hr.zZ _ (jk Gy);have hle:ag[j].aV.length=au[j].el:=by rw[<-pG.len,hx,List.length_map]
 refine⟨g,cap,au[j].ea,au[j].ec,?_,hr.lt,hg,?_,?_⟩
 ·rw[<-hf.2];exact hr.c0
 ·rw[hle];exact q2
 ·rw[hle,<-hx];exact pG.row
theorem W3.acu (h:W3 ft FL FR FS w W s r ag au c5 c6 c7 c8 c9 c10 c11)(j:Nat)(hj:j<ag.length)(hk:ag[j].kind=2):ag[j].aV.length<=16/\∀e ∈ ag[j].aV,1<=e.2.2/\e.2.2<=(j:Int):=by
 have hf:=h.few;have hx:=(h.twin.2.1 j hj (by omega)).aV hk;have hat:=h.at_ j (by omega);obtain⟨a,cap,hr⟩:=h.ref;have Gy:j<au.length:=by omega
 have pG:=hr.zZ _ (jk Gy);have hle:ag[j].aV.length=au[j].el:=by rw[<-pG.len,hx,List.length_map]
 refine⟨by rw[hle];exact pG.few,fun e he=>?_⟩;rw[hx] at hat
 have:0<=e.2.2-1/\e.2.2-1<(j:Int):=hat (dg e) (List.mem_map_of_mem he)
 omega
theorem W3.ids (h:W3 ft FL FR FS w W s r ag au c5 c6 c7 c8 c9 c10 c11)(i:Nat)(hi:i<ag.length):∃g c,w.cell? ⟨W,2,none⟩=some (.slice (some ⟨g,0,none⟩) ag.length c)/\g<w.heap.size/\w.cell? ⟨g,i,none⟩=some (.int .i64 ((i:Int)+1)):=by
 obtain⟨ia,_,_,ic,_,_,_,hl,_⟩:=h.law;obtain⟨g,rfl,fo,cc,_⟩:=row_one hl.lC (i:=i) (v:=.int .i64 ((i:Int)+1)) (by simp[encI,s7 hi]);refine⟨g,ic,?_,fo,cc⟩
 have:=hl.c2
 rw[dm] at this;exact this
end
variable {ft:CX}
section
variable {FL FR FS FH:Nat->Prop}{w:World}{W s r:Nat}{ag au:List Ob}{c5 c6 c7 c8 c9 c10 c11:Value}{ea:Option Addr}{ec q:Nat}{hs:List fK}
theorem KZ {w2 w3 wr w4:World}{gl m:Nat}{a0 a1 a2 a3 a4:Value}(h:W3 ft FL FR FS w W s r ag au c5 c6 c7 c8 (.slice ea (4*q) ec) c10 c11)(hh:Held FH w ea ec q hs)(hap:∀k,FH k->¬F3 FL FR FS k)(hm:m<=16)
  (hb2:Below w.heap.size w w2)(fo:w.heap.size<=gl/\gl<w2.heap.size)(h3:W3 ft (bq FL w2 w3) FR FS w3 W s r ag au c5 c6 c7 c8 (.slice ea (4*q) ec) c10 c11)(hk3:ax FL w2 w3)(hbr:Below w3.heap.size w3 wr)
  (hW:wr.heap[W]? = some (.cells #[a0,a1,a2,a3,a4,c5,c6,c7,c8,.slice ea (4*q) ec,c10,c11] 71 (0,0)))(hk:ur wr w4 W q #[a0,a1,a2,a3,a4,c5,c6,c7,c8,.slice ea (4*q) ec,c10,c11] ea ec (some ⟨gl,0,none⟩) m hs):
  rK ft FL FR FS FH w w4 W s r (q+1) c5 c6 c7 c8 c10 c11:=by
 have z2:=hb2.size;have z3:=hk3.size;have zr:=hbr.size;have fW:FL W:=by obtain⟨_,_,_,_,_,_,_,hl,_⟩:=h.law;exact hl.fw
 have lt3:∀k,F3 FL FR FS k->k<w.heap.size:=fun k hk=>by
  rcases hk with h1 | h1 | h1
  ·exact h.sep.ll k h1
  ·exact (h.sep.rl k h1).1
  ·exact (h.sep.sl k h1).1
 have SQ:∀k,FH k->¬F3 (bq FL w2 w3) FR FS k:=fun k hk hf=>by
  have:=hh.lt k hk
  rcases hf with (h1 | h1) | h1 | h1
  ·exact hap k hk (.inl h1)
  ·have:=h1.1;omega
  ·exact hap k hk (.inr (.inl h1))
  ·exact hap k hk (.inr (.inr h1))
 have hhr:Held FH wr ea ec q hs:=hh.keep (fun k hk=>by
  have:=hh.lt k hk
  rw[hbr.block k (by omega),hk3.block k (by omega) (fun hf=>hap k hk (.inl hf)),hb2.block k this]) (by omega)
 obtain⟨GC,Nu,GA,sw,n1,n2,n3,n4,n5⟩:=DX (la:=some ⟨gl,0,none⟩) (m:=m) (h3.below hbr) hhr SQ hm (fun g hg=>by
  obtain rfl:gl=g:=by simpa [Value.ownBlock] using hg
  refine⟨fun hf=>?_,fun hf=>by have:=hh.lt gl hf;omega,by omega⟩;rcases hf with (h1 | h1) | h1 | h1
  ·have:=lt3 gl (.inl h1);omega
  ·have:=h1.1;omega
  ·have:=lt3 gl (.inr (.inl h1));omega
  ·have:=lt3 gl (.inr (.inr h1));omega) (fun e=>by cases e) hW hk
 refine⟨bq FL w2 w3,FR,FS,GC,ag,au,Nu,GA,sw,n1,n2,n3,fun k=>⟨fun h1=>?_,.inl,.inl⟩,fun k e=>?_,⟨n5.os.trans (hbr.os.trans (hk3.os.trans hb2.os)),n5.tape.trans (hbr.tape.trans (hk3.tape.trans hb2.tape)),n5.output.trans (hbr.output.trans (hk3.output.trans hb2.output)),by have:=n5.size;omega,fun k hk hn=>?_⟩⟩
 ·rcases h1 with h1 | h1
  ·exact .inl h1
  ·exact .inr (by have:=h1.1;omega)
 ·rcases n4 k e with e | e | e
  ·exact .inl e
  ·exact .inr (by omega)
  ·obtain rfl:k=gl:=by simpa [Value.ownBlock] using e
   exact .inr fo.1
 ·rw[n5.block k (by omega) ?_,hbr.block k (by omega),hk3.block k (by omega) (fun hf=>hn (.inl (.inl hf))),hb2.block k hk]
  rintro (e | e | e)
  ·exact hn (.inl (.inl (e ▸ fW)))
  ·exact hn (.inr e)
  ·have:k=gl:=by simpa [Value.ownBlock] using e
   omega
theorem K0 {w2 w3:World}{gl m base:Nat}{es:List aK}(h:W3 ft FL FR FS w W s r ag au c5 c6 c7 c8 c9 c10 c11)(ho:w2.ownsRow base 96 3 (.slice (some ⟨gl,0,none⟩) m m) m (flat es))(hb:Below w.heap.size w w2)(h3:W3 ft (bq FL w2 w3) FR FS w3 W s r ag au c5 c6 c7 c8 c9 c10 c11)(hk:ax FL w2 w3)(hbase:w.heap.size<=base:=by simp):
  w3.ownsRow 0 96 3 (.slice (some ⟨gl,0,none⟩) m m) m (flat es)/\∃w2,Below w.heap.size w w2/\(w.heap.size<=gl/\gl<w2.heap.size)/\W3 ft (bq FL w2 w3) FR FS w3 W s r ag au c5 c6 c7 c8 c9 c10 c11/\ax FL w2 w3:=by
 obtain⟨l1,l2⟩:=ho.lt gl rfl;refine⟨ai (cL ho (dG _)) (fun x hx=>?_),w2,hb,⟨by omega,l2⟩,h3,hk⟩;obtain rfl:gl=x:=by simpa [Value.ownBlock] using hx
 exact hk.block gl l2 (fun hf=>by have:=h.sep.ll gl hf;omega)
theorem K3 (h:W3 ft FL FR FS w W s r ag au c5 c6 c7 c8 (.slice ea (4*q) ec) c10 c11)(hh:Held FH w ea ec q hs)(hap:∀k,FH k->¬F3 FL FR FS k)(hq:4*q<=1000000000)(a1 a3:Int)(S T:ByteArray)(la:Option Addr)(lm lc:Nat)(j:Nat)(hj:j<ag.length)(hk:ag[j].kind=2):
  Calls prog 20 #[.pointer (some ⟨W,0,none⟩),.agg #[.int .i64 4,.int .i64 a1,.int .i64 ((j:Int)+1),.int .i64 a3,.string S,.string T,.slice la lm lc]] w fun e w'=>e=.returned (.bool true)/\rK ft FL FR FS FH w w' W s r (q+1) c5 c6 c7 c8 c10 c11:=by
 obtain⟨k0,k1,qu,Nt⟩:=h.law.cells;obtain⟨wB,hat⟩:=h.acu j hj hk;have acv:=h.few.1;have b1:∀B,Below w.heap.size w (w.alloc B):=fun B=>(Below.refl _ _).alloc (bA _) _;have bb:∀B W2,Below (w.alloc B).heap.size (w.alloc B) W2->Below w.heap.size w W2:=fun B W2 hb=>(b1 B).trans (hb.mono (by simp));have hid:=fun B=>zm (h.below (b1 B)) ((j:Int)+1);have lG:=fun B=>DN (h.below (b1 B)).uQ j hj hk;have hpl:=fun B W2 (hb:Below (w.alloc B).heap.size (w.alloc B) W2)=>oT (h.below (bb B W2 hb)) j hj;have lM:=fun B W2 (hb:Below (w.alloc B).heap.size (w.alloc B) W2)=>xe (h.below (bb B W2 hb)) j hj;rw[hk] at lM;have K4:=fun B W2 (hb:Below (w.alloc B).heap.size (w.alloc B) W2)=>SP (h.below (bb B W2 hb)) j hj;have lH:=fun (e:Int) (W':World)=>ji e W';have SR:Hid (∀{FL FR FS:Nat->Prop} (w:World),W3 ft FL FR FS w W s r ag au c5 c6 c7 c8 (.slice ea (4*q) ec) c10 c11->_):=fun w h=>W3.items h j hj hk;have K5:Hid (∀{FL FR FS:Nat->Prop} (w:World),W3 ft FL FR FS w W s r ag au c5 c6 c7 c8 (.slice ea (4*q) ec) c10 c11->∀i,i<ag.length->_):=fun w h i hi=>W3.ids h i hi;have HH:Hid (Held FH w ea ec q hs):=hh;have HAP:Hid (∀k,FH k->¬F3 FL FR FS k):=hap;have H0:Hid (W3 ft FL FR FS w W s r ag au c5 c6 c7 c8 (.slice ea (4*q) ec) c10 c11):=h;obtain⟨es,hes⟩:∃es,es=ag[j].aV:=⟨_,rfl⟩;rw[<-hes] at lG wB hat SR;obtain⟨m,EL⟩:∃m,m=es.length:=⟨_,rfl⟩;rw[<-EL] at lG wB SR;obtain⟨n,Ao⟩:∃n,n=ag.length:=⟨_,rfl⟩;rw[<-Ao] at SR K5 acv;have OH:(j:Int)<(n:Int):=by omega
 have Y5:j<n:=by omega
 have HM:Hid (m=es.length):=EL;have E2:Hid (∀e ∈ es,1<=e.2.2/\e.2.2<=(j:Int)):=hat;have HI:Hid _:=hid;have HG:Hid _:=lG;have HP:Hid _:=hpl;have HK:Hid _:=lM;have HN:Hid _:=lH;have HLN:Hid _:=K4;have HBB:Hid (∀B W2,Below (w.alloc B).heap.size (w.alloc B) W2->Below w.heap.size w W2):=bb;clear hid lG hpl lM lH h hh hap K4 hes EL Ao hat hk hj bb;go_enter func20,ntmps20;go_wp2_with (first
  | (go_at_call 39;refine Calls.mono (HI.out _) ?_;rintro _ _ ⟨rfl,rfl⟩)
  | (go_at_call 43;refine Calls.mono (HG.out _) ?_;rintro _ w2 ⟨gl,rfl,hown2,hb2⟩;have X0:Hid _:=hown2;clear hown2;have zg:Hid (Below w.heap.size w w2):=HBB.out _ _ hb2)
  | (go_at_call 41;refine Calls.mono (HP.out _ _ hb2) ?_;rintro _ _ ⟨rfl,rfl⟩)
  | (go_at_call 42;refine Calls.mono (HK.out _ _ hb2) ?_;rintro _ _ ⟨rfl,rfl⟩)
  | (go_at_call 22;refine Calls.mono (HN.out _ _) ?_;rintro _ _ ⟨rfl,rfl⟩)
  | (go_at_call 37;refine Calls.mono (HLN.out _ _ hb2) ?_;rintro _ w3 ⟨rfl,h3,hk3⟩;have qA:Hid _:=K0 H0.out X0.out zg.out h3 hk3;have H3:Hid (∃s8,W3 ft s8 FR FS w3 W s r ag au c5 c6 c7 c8 (.slice ea (4*q) ec) c10 c11):=⟨_,h3⟩;obtain⟨m0,m1,mW,_⟩:=fJ.cells h3.law;obtain⟨g,cap,ia,ic,o0,orl,ogl,o2,o9⟩:=SR.out _ h3;clear h3 hk3))
 clear X0 zg hb2 HI HG HP HK HN HLN HBB b1 k0 k1 o0 o2 orl ogl o9 m0 m1
 go_loopw [19,20] (fun o i wr=>∃k:Nat,k<=m/\o=.bool true/\i=.int .i64 (k:Int)/\Below w3.heap.size w3 wr) (fun _ i _=>m-(intOf i).toNat)
 case atStart=>exact⟨0,dG _,rfl,rfl,Below.refl _ _⟩
 case round=>
  obtain⟨k,hk,rfl,rfl,hb⟩:=hrel;obtain⟨s8,h3⟩:=H3.out;have hr:=h3.below hb;have HR:Hid (W3 ft s8 FR FS wr W s r ag au c5 c6 c7 c8 (.slice ea (4*q) ec) c10 c11):=hr;obtain⟨_,m1,mWr,_⟩:=fJ.cells hr.law;by_cases hlt:k<m
  ·have j4:k<es.length:=by rw[<-HM.out];exact hlt
   obtain⟨g,cap,ia,ic,o0,orl,ogl,o2,o3⟩:=SR.out _ hr;obtain⟨gi,ci,Hg⟩:=ak o3 (by omega);rw[(Value.slice.inj Hg).1] at o2 o3;have Kz:=ah o3 rfl;obtain⟨i0,i1,i2⟩:=bg (off:=0) (aQ o3) (i:=k) (by simpa using j4);rw[Nat.zero_add,List.getElem_map] at i0 i1 i2;obtain⟨x,hx⟩:∃x,x=es[k]:=⟨_,rfl⟩;have HX:Hid (x=es[k]):=hx;rw[<-hx] at i0 i1 i2;obtain⟨hx1,hx2⟩:=E2.out x (by rw[hx];exact jk j4);obtain⟨jj,Vl⟩:∃jj:Nat,x.2.2=(jj:Int)+1:=⟨(x.2.2-1).toNat,by omega⟩;have i2':wr.cell? ⟨gi,k*3+2,none⟩=some (.int .i64 (jj:Int)):=by rw[i2];unfold dg;rw[Vl];simp
   have i0':wr.cell? ⟨gi,k*3,none⟩=some (.string x.1):=i0;have i1':wr.cell? ⟨gi,k*3+1,none⟩=some (.int .i64 x.2.1):=i1;have uP:(k:Int)<(m:Int):=by omega
   have HJ:Hid (x.2.2=(jj:Int)+1):=Vl;have amG:(jj:Int)<(n:Int):=by omega
   have acw:jj<n:=by omega
   clear hr h3 i0 i1 i2 o3 Hg hx hx1 hx2 Vl;go_wp2;obtain⟨X,hX⟩:∃X:Obj,X=.cells #[.string x.1,.int .i64 x.2.1,.int .i64 (jj:Int)] 112:=⟨_,rfl⟩;obtain⟨w5,Zv⟩:∃w5,w5=wr.alloc X:=⟨_,rfl⟩;have Zw:Below wr.heap.size wr w5:=by rw[Zv];exact (Below.refl _ _).alloc (bA _) X
   have j3:Below w3.heap.size w3 w5:=hb.trans (Zw.mono hb.size);have y0:w5.cell? ⟨wr.heap.size,0,none⟩=some (.string x.1):=by rw[Zv,hX];simp
   have y1:w5.cell? ⟨wr.heap.size,1,none⟩=some (.int .i64 x.2.1):=by rw[Zv,hX];simp
   have y2:w5.cell? ⟨wr.heap.size,2,none⟩=some (.int .i64 (jj:Int)):=by rw[Zv,hX];simp
   have hs5:w5.heap.size=wr.heap.size+1:=by rw[Zv];simp
   obtain⟨l0,l1,l2⟩:=bg (off:=0) (aQ qA.out.1) j4;rw[Nat.zero_add,<-HX.out] at l0 l1 l2;have Zx:gl<w3.heap.size:=ah qA.out.1 rfl;have HLD:Hid (∀q,(loadVar 96 ⟨gl,k*3,none⟩).run prog (w5.drewN q)=.ok (.agg #[.string x.1,.int .i64 x.2.1,.int .i64 x.2.2]) (w5.drewN q)):=fun q=>ldE _ gl (k*3) x ((j3.cell (p:=⟨gl,k*3,none⟩) Zx).trans l0) ((j3.cell (p:=⟨gl,k*3+1,none⟩) Zx).trans l1) ((j3.cell (p:=⟨gl,k*3+2,none⟩) Zx).trans l2);obtain⟨gd,cd,d0,hgd,d1⟩:=K5.out _ HR.out jj acw;have d05:=(Zw.cell (p:=⟨W,2,none⟩) mWr).trans d0;have d15:=(Zw.cell (p:=⟨gd,jj,none⟩) hgd).trans d1;have mW5:W<w5.heap.size:=by omega
   have amI:gd<w5.heap.size:=by omega
   rw[<-hX,<-Zv];clear hX Zv l0 l1 l2 d0 d1 i0' i1' i2' o0 o2;refine wp_region_quiet_lit (by kernel_rfl) (by kernel_rfl) ?_
   iterate 3 quiet_step (fail)
   refine iZ rfl 96 _ rfl ⟨gl,k*3,none⟩ rfl (.agg #[.string x.1,.int .i64 x.2.1,.int .i64 x.2.2]) (by rintro _ ⟨n,rfl⟩;exact HLD.out _) ?_
   go_frame
   iterate 13 quiet_step (fail)
   refine sL rfl .eql 96 96 _ _ rfl (.agg #[.string x.1,.int .i64 x.2.1,.int .i64 x.2.2]) (.agg #[.string x.1,.int .i64 x.2.1,.int .i64 ((jj:Int)+1)]) (.bool (decide (x=(x.1,x.2.1,(jj:Int)+1)))) rfl rfl (by rintro _ ⟨n,rfl⟩;exact SC _ _ _ _ _ _) (by rintro _ ⟨n,rfl⟩;exact SN _ x (x.1,x.2.1,(jj:Int)+1)) ?_
   go_frame
   iterate 1 quiet_step (fail)
   refine wpQuiet_nil ?_;rintro _ ⟨nq,rfl⟩;have hd:decide (x=(x.1,x.2.1,(jj:Int)+1))=true:=decide_eq_true (Prod.ext rfl (Prod.ext rfl HJ.out));rw[hd];clear hd;go_wp2;go_roundw
   case rel=>exact⟨k+1,by omega,rfl,by go_num,below_drewN j3 nq⟩
   case measure=>simp[intOf];omega
  ·have uP:k=m:=by omega
   have DR:decide ((k:Int)<(m:Int))=false:=dY (by omega);obtain⟨b0,b1,b2,b3,b4,hWb⟩:=hr.block;have hrow:wr.ownsRow 0 55 1 (.slice ea (4*q) ec) (4*q) (hs.map eR):=by
    obtain⟨_,w2,hb2,_,_,hk3⟩:=qA.out;have z2:=hb2.size;have z3:=hk3.size;refine ai HH.out.row (fun x hx=>?_);have hf:=HH.out.own x hx
    have:=HH.out.lt x hf
    rw[hb.block x (by omega),hk3.block x (by omega) (fun h=>HAP.out x hf (.inl h)),hb2.block x this]
   have Yg:Zn wr (some ⟨gl,0,none⟩) m:=⟨(fun e=>by cases e),fun b e=>⟨gl,_,(Option.some.inj e).symm,ai qA.out.1 (fun x hx=>hb.block x (ah qA.out.1 hx))⟩⟩;have j4:=su W q #[b0,b1,b2,b3,b4,c5,c6,c7,c8,.slice ea (4*q) ec,c10,c11] ea ec m (some ⟨gl,0,none⟩) hs wr hWb rfl HH.out.len hq hrow wB Yg;have HKE:Hid _:=j4;have nO:Hid (∀w4,ur wr w4 W q #[b0,b1,b2,b3,b4,c5,c6,c7,c8,.slice ea (4*q) ec,c10,c11] ea ec (some ⟨gl,0,none⟩) m hs->rK ft FL FR FS FH w w4 W s r (q+1) c5 c6 c7 c8 c10 c11):=fun w4 hk4=>by
    obtain⟨_,w2,hb2,fo,V7,hk3⟩:=qA.out;exact KZ H0.out HH.out HAP.out wB hb2 fo V7 hk3 hb hWb hk4
   clear hr h3 hrow Yg j4 hWb;go_wp2_with (go_at_call 44;refine Calls.mono HKE.out ?_;rintro _ w4 ⟨rfl,hk4⟩;have Zu:Hid _:=nO.out _ hk4;clear hk4);go_ret;exact⟨rfl,Zu.out⟩
theorem Fq (h:W3 ft FL FR FS w W s r ag au c5 c6 c7 c8 (.slice ea (4*q) ec) c10 c11)(hh:Held FH w ea ec q hs)(hap:∀k,FH k->¬F3 FL FR FS k)(hq:4*q<=1000000000)(a1 N a3:Int)(S T:ByteArray)(la:Option Addr)(lm lc:Nat):
  Calls prog 20 #[.pointer (some ⟨W,0,none⟩),.agg #[.int .i64 4,.int .i64 a1,.int .i64 N,.int .i64 a3,.string S,.string T,.slice la lm lc]] w fun e w'=>e=.returned (.bool true)/\rK ft FL FR FS FH w w' W s r (q+1) c5 c6 c7 c8 c10 c11:=by
 by_cases hk:aH ag N=2
 ·have hid:¬(N<1\/(ag.length:Int)<N):=fun h=>by rw[fD h] at hk;cases hk
  obtain⟨j,rfl⟩:∃j:Nat,N=(j:Int)+1:=⟨(N-1).toNat,by omega⟩;have hj:j<ag.length:=by omega
  rw[dL hj] at hk;exact K3 h hh hap hq a1 a3 S T la lm lc j hj hk
 ·exact Iq h hh hap hq a1 N a3 S T la lm lc hk
end
variable {ft:CX}
section
variable {FL FR FS FH:Nat->Prop}{w:World}{W s r:Nat}{ag au:List Ob}{c5 c6 c7 c8 c9 c10 c11:Value}
theorem uY {w1 w2 w3:World}{aN bC:List Ob}{es:List aK}{e:Ending}{id ec x y:Int}(h:W3 ft FL FR FS w W s r ag au c5 c6 c7 c8 c9 c10 c11)(hb:Below w.heap.size w w1)(hk:ax FS w1 w2)(hi:fT ft (bq FS w1 w2) w2 s aN)
  (yB:ax FR w2 w3)(CJ:bS (bq FR w2 w3) w3 r bC)(nC:iJ ag aN es e)(Il:wJ au bC (es.map (gL ag.length)) x y)(he:e=.returned (.tuple #[.int .i64 id,.int .i64 ec])):
  vI ag aN au bC id ec x y/\fJ FL w3 W s r ag.length c5 c6 c7 c8 c9 c10 c11/\fT ft (bq FS w1 w2) w3 s aN/\bS (bq FR w2 w3) w3 r bC/\Sep w3 FL (bq FR w2 w3) (bq FS w1 w2)/\iM bC/\ax (F3 FL FR FS) w w3:=by
 have z1:=hb.size;have z2:=hk.size;have z3:w2.heap.size<=w3.heap.size:=yB.size;obtain⟨id',GA,CS,hA⟩:=O4 h.twin nC Il;rw[he] at CS;have e1:id=id'/\ec=GA:=by simpa using CS
 obtain⟨rfl,rfl⟩:=e1;have Zs:∀k,k<w2.heap.size->¬FR k->w3.heap[k]? = w2.heap[k]?:=fun k hk hn=>yB.block k hk hn;have hl:fJ FL w2 W s r ag.length c5 c6 c7 c8 c9 c10 c11:=h.law.keep (fun _ h=>h) (fun k dy=>by
  have hlt:=h.sep.ll k dy;rw[hk.block k (by omega) (fun hf=>(h.sep.sl k hf).2 dy),hb.block k hlt])
 refine⟨hA,hl.keep (fun _ h=>h) (fun k dy=>Zs k (by have:=h.sep.ll k dy;omega) (fun hr=>(h.sep.rl k hr).2 dy)),fT.keep hi (fun _ h=>h) (fun k dy=>Zs k ?_ (fun hr=>?_)),CJ,⟨fun k dy=>by have:=h.sep.ll k dy;omega,fun k dy=>?_,fun k dy=>?_,fun k dy hs=>?_⟩,O5 h.at_ (fun e he=>?_) Il,⟨?_,?_,?_,by omega,fun k dy hn=>?_⟩⟩
 ·rcases dy with h' | h'
  ·have:=(h.sep.sl k h').1;omega
  ·exact h'.2
 ·rcases dy with h' | h'
  ·exact h.sep.rs k hr h'
  ·have:=(h.sep.rl k hr).1;omega
 ·rcases dy with h' | h'
  ·exact⟨by have:=(h.sep.rl k h').1;omega,(h.sep.rl k h').2⟩
  ·exact⟨h'.2,fun hf=>by have:=h.sep.ll k hf;have:=h'.1;omega⟩
 ·rcases dy with h' | h'
  ·exact⟨by have:=(h.sep.sl k h').1;omega,(h.sep.sl k h').2⟩
  ·exact⟨by have:=h'.2;omega,fun hf=>by have:=h.sep.ll k hf;have:=h'.1;omega⟩
 ·rcases dy with h' | h'
  ·rcases hs with h2 | h2
   ·exact h.sep.rs k h' h2
   ·have:=(h.sep.rl k h').1;have:=h2.1;omega
  ·rcases hs with h2 | h2
   ·have:=(h.sep.sl k h2).1;have:=h'.1;omega
   ·have:=h'.1;have:=h2.2;omega
 ·obtain⟨e0,_,rfl⟩:=List.mem_map.1 he
  have:=h.twin.1
  unfold gL;split
  ·next hh=>show e0.2.2-1<_;omega
  ·show (-1:Int)<_;omega
 ·exact yB.os.trans (hk.os.trans hb.os)
 ·exact yB.tape.trans (hk.tape.trans hb.tape)
 ·exact yB.output.trans (hk.output.trans hb.output)
 ·rw[Zs k (by omega) (fun hr=>hn (.inr (.inl hr))),hk.block k (by omega) (fun hr=>hn (.inr (.inr hr))),hb.block k dy]
theorem Bz {w3 w4:World}{sx sy:Nat->Prop}{aN bC:List Ob}{gi:Nat}(hl:fJ FL w3 W s r ag.length c5 c6 c7 c8 c9 c10 c11)(hi:fT ft sy w3 s aN)(hr:bS sx w3 r bC)(hs:Sep w3 FL sx sy)(hk:ax (F3 FL FR FS) w w3)
  (h4:ax (fun k=>k=gi) w3 w4)(n1:¬FL gi)(n2:¬sx gi)(n3:¬sy gi)(hg:w.heap.size<=gi):
  fJ FL w4 W s r ag.length c5 c6 c7 c8 c9 c10 c11/\fT ft sy w4 s aN/\bS sx w4 r bC/\Sep w4 FL sx sy/\ax (F3 FL FR FS) w w4:=
 ⟨hl.keep (fun _ h=>h) (fun k dy=>h4.block k (hs.ll k dy) (fun e=>n1 (e ▸ dy))),fT.keep hi (fun _ h=>h) (fun k dy=>h4.block k (hs.sl k dy).1 (fun e=>n3 (e ▸ dy))),hr.keep (fun _ h=>h) (fun k dy=>h4.block k (hs.rl k dy).1 (fun e=>n2 (e ▸ dy))),hs.below h4.size,
  ⟨h4.os.trans hk.os,h4.tape.trans hk.tape,h4.output.trans hk.output,eU hk.size h4.size,fun k fM hn=>(h4.block k (cv fM hk.size) (fun e=>by omega)).trans (hk.block k fM hn)⟩⟩
end
end Go.Proofs.YtlgidcmmgohagaaGreat
