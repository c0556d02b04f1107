/- What is proved here: 'grows'. -/
import Derived.Test.YtlgidcmmgohagaaGreatTreeM04
import Derived.Test.YtlgidcmmgohagaaGreatTreeM02
import Derived.Maps.RangeWalk
namespace Go.Proofs.YtlgidcmmgohagaaGreat
open Go.RowKit Go.Sort Go.Shelf Go.Proofs.Tryz
set_option linter.unusedVariables false
set_option maxRecDepth 100000
set_option maxHeartbeats 16000000
theorem Nh:(prog.info? 29).map (fun i=>(i.zero,i.size,i.bytes))=some (some (.int .i64 0),1,8):=by kernel_rfl
theorem ab3:(prog.info? 4).map (fun i=>(i.zero,i.size,i.bytes))=some (some (.bool false),1,1):=by kernel_rfl
theorem ab4:(prog.info? 3).map (fun i=>(i.zero,i.size,i.bytes))=some (some (.int .i64 0),1,8):=by kernel_rfl
def zi (W:Nat)(w:World):Nat:=match w.cell? ⟨W,2,none⟩ with | some (.slice _ n _)=>n | _=>0
theorem one_cell (w:World)(v:Value)(t:TypeId)(n:Nat)(hn:n=w.heap.size):∀j u,[v][j]? = some u->(w.alloc (.cells #[v] t)).cell? ((⟨n,0,none⟩:Addr).add j)=some u:=by
 subst hn;intro j u h
 match j,h with
 | 0,h=>simpa [Addr.add] using h
 | j+1,h=>simp at h
section
variable {F G:Nat->Prop}{w:World}{W s r:Nat}{ia ka pa:Option Addr}{ic kc pc:Nat}{ids:List Int}{known:List Bool}{paths:List Int}{c5 c6 c7 c8 c9 c10 c11:Value}{au:List Ob}
def bP:Nat->Int
 | 0=>0
 | 1=>16
 | 2=>272
 | _+3=>301
def cP:Nat->Int
 | 0=>0
 | 1=>1
 | 2=>17
 | _+3=>302
def pI (ps:List Int):Prop:=∀i (h:i<ps.length),0<=ps[i]/\ps[i]<=bP i
theorem X9 (n:Nat):0<=bP n/\bP n<=301:=by
 match n with
 | 0=>decide
 | 1=>decide
 | 2=>decide
 | _+3=>exact⟨show (0:Int)<=301 by decide,show (301:Int)<=301 by decide⟩
theorem ab5 {j n:Nat}(h:j<n):1+bP j<=cP n:=by
 match n,h with
 | 1,h=>
  obtain rfl:j=0:=by omega
  decide
 | 2,h=>
  have:j=0\/j=1:=by omega
  rcases this with rfl | rfl <;> decide
 | _+3,_=>
  have:=(X9 j).2
  show 1+bP j<=302;omega
theorem Sc (n:Nat):0<=cP n/\cP n<=302:=by
 match n with
 | 0=>decide
 | 1=>decide
 | 2=>decide
 | _+3=>exact⟨show (0:Int)<=302 by decide,show (302:Int)<=302 by decide⟩
theorem Sd {n:Nat}{x:Int}(h:x<=cP n*16):(300<x->(301:Int)<=bP n)/\(¬300<x->x<=bP n):=by
 match n,h with
 | 0,h=>exact⟨fun h1=>by simp only[cP] at h;omega,fun _=>by simp only[cP,bP] at h ⊢;omega⟩
 | 1,h=>exact⟨fun h1=>by simp only[cP] at h;omega,fun _=>by simp only[cP,bP] at h ⊢;omega⟩
 | 2,h=>exact⟨fun h1=>by simp only[cP] at h;omega,fun _=>by simp only[cP,bP] at h ⊢;omega⟩
 | _+3,h=>exact⟨fun _=>Int.le_refl _,fun h1=>by show x<=301;omega⟩
theorem pI.snoc {ps:List Int}{x:Int}(h:pI ps)(hx:0<=x/\x<=bP ps.length):pI (ps ++ [x]):=by
 intro i hi;rw[List.getElem_append];split
 ·exact h i (by assumption)
 ·rename_i hn
  have:i=ps.length:=by simp at hi;omega
  subst this;simpa using hx
def iL (F:Nat->Prop)(w wo:World)(W s r:Nat)(ids:List Int)(known:List Bool)(n0 k:Nat)(c5 c6 c7 c8 c9 c10 c11:Value):Prop:=
 ∃ia ka pa ic kc pc paths,cZ (bq F w wo) wo W s r ia ka pa ic kc pc (ids++List.replicate k 0) (known++List.replicate k false) paths c5 c6 c7 c8 c9 c10 c11/\paths.length=n0+k/\pI paths/\ax F w wo
theorem iL.drewN {F:Nat->Prop}{w wo:World}{W s r:Nat}{ids:List Int}{known:List Bool}{n0 k:Nat}{c5 c6 c7 c8 c9 c10 c11:Value}(h:iL F w wo W s r ids known n0 k c5 c6 c7 c8 c9 c10 c11)(q:Nat):iL F w (wo.drewN q) W s r ids known n0 k c5 c6 c7 c8 c9 c10 c11:=by
 obtain⟨ia,ka,pa,ic,kc,pc,ps,hl,hpl,Dy,gU⟩:=h;exact⟨ia,ka,pa,ic,kc,pc,ps,hl.keep (fun _ h=>h) (fun _ _=>rfl),hpl,Dy,ry gU q⟩
theorem Aq {x:Int}:∀u ∈ [Value.int .i64 x],u.oneCell'=true:=by intro u hu;simp at hu;subst hu;rfl
theorem Hl {x:Bool}:∀u ∈ [Value.bool x],u.oneCell'=true:=by intro u hu;simp at hu;subst hu;rfl
theorem mO (w:World)(q:Nat)(o:Obj):∀k,k<w.heap.size->((w.drewN q).alloc o).heap[k]? = w.heap[k]?:=fun k hk=>Below.heap_alloc _ _ _ hk
theorem bh (w:World)(o:Obj):∀k,k<w.heap.size->(w.alloc o).heap[k]? = w.heap[k]?:=fun k hk=>Below.heap_alloc _ _ _ hk
theorem dW {w w0 w2:World}{W:Nat}{cs:Array Value}{T:TypeId}{own:Option Nat}(hW:w.heap[W]? = some (.cells cs T (0,0)))(kb:∀k,k<w.heap.size->w0.heap[k]? = w.heap[k]?)(hs:w.heap.size<=w0.heap.size)(hg:w0.grownBy w2 own)(hne:some W≠own):w2.heap[W]? = some (.cells cs T (0,0)):=by
 have hl:W<w.heap.size:=(Array.getElem?_eq_some_iff.1 hW).1;rw[hg.block W (by omega) hne,kb W hl,hW]
theorem um {w:World}{W:Nat}{a0 a1 a2 a3 a4 a5 a6 a7 a8 a9 a10 a11:Value}{T:TypeId}(h:w.heap[W]? = some (.cells #[a0,a1,a2,a3,a4,a5,a6,a7,a8,a9,a10,a11] T (0,0))):
  w.cell? ⟨W,0,none⟩=some a0/\w.cell? ⟨W,1,none⟩=some a1/\w.cell? ⟨W,2,none⟩=some a2/\w.cell? ⟨W,3,none⟩=some a3/\w.cell? ⟨W,4,none⟩=some a4/\∀i,w.frozen? ⟨W,i,none⟩=false:=by
 refine⟨?_,?_,?_,?_,?_,fun i=>?_⟩ <;> simp[World.cell?,World.frozen?,h]
theorem cZ.mono {F F':Nat->Prop}{w:World}{W s r:Nat}{ia ka pa:Option Addr}{ic kc pc:Nat}{ids:List Int}{known:List Bool}{paths:List Int}{c5 c6 c7 c8 c9 c10 c11:Value}(h:cZ F w W s r ia ka pa ic kc pc ids known paths c5 c6 c7 c8 c9 c10 c11)(hF:∀k,F k->F' k):cZ F' w W s r ia ka pa ic kc pc ids known paths c5 c6 c7 c8 c9 c10 c11:=h.keep hF (fun _ _=>rfl)
theorem ig {F:Nat->Prop}{w w1 w2:World}(h1:w.heap.size<=w1.heap.size)(h2:w1.heap.size<=w2.heap.size){k:Nat}(h:bq (bq F w w1) w1 w2 k):bq F w w2 k:=by
 rcases h with (h | h) | h
 ·exact .inl h
 ·exact .inr ⟨h.1,cv h.2 h2⟩
 ·exact .inr ⟨eU h1 h.1,h.2⟩
theorem dr {F:Nat->Prop}{w w1 w2:World}(h1:ax F w w1)(h2:ax (bq F w w1) w1 w2):ax F w w2:=
 ⟨h2.os.trans h1.os,h2.tape.trans h1.tape,h2.output.trans h1.output,eU h1.size h2.size,fun k hk hn=>(h2.block k (cv hk h1.size) (by rintro (h | h);exact hn h;omega)).trans (h1.block k hk hn)⟩
theorem iL.three {F:Nat->Prop}{w wo w1 w2 w3:World}{W s r:Nat}{i1 k1 p1 i2 k2 p2 i3 k3 p3:Option Addr}{ic1 kc1 pc1 ic2 kc2 pc2 ic3 kc3 pc3:Nat}{ids:List Int}{known:List Bool}{ps:List Int}{n0 k:Nat}{x:Int}{c5 c6 c7 c8 c9 c10 c11:Value}(gU:ax F w wo)
  (h1:cZ (bq (bq F w wo) wo w1) w1 W s r i1 k1 p1 ic1 kc1 pc1 ((ids++List.replicate k 0) ++ [0]) (known++List.replicate k false) ps c5 c6 c7 c8 c9 c10 c11/\ax (bq F w wo) wo w1)
  (h2:cZ (bq (bq (bq F w wo) wo w1) w1 w2) w2 W s r i2 k2 p2 ic2 kc2 pc2 ((ids++List.replicate k 0) ++ [0]) ((known++List.replicate k false) ++ [false]) ps c5 c6 c7 c8 c9 c10 c11/\ax (bq (bq F w wo) wo w1) w1 w2)
  (h3:cZ (bq (bq (bq (bq F w wo) wo w1) w1 w2) w2 w3) w3 W s r i3 k3 p3 ic3 kc3 pc3 ((ids++List.replicate k 0) ++ [0]) ((known++List.replicate k false) ++ [false]) (ps ++ [x]) c5 c6 c7 c8 c9 c10 c11/\ax (bq (bq (bq F w wo) wo w1) w1 w2) w2 w3)
  (hpl:ps.length=n0+k)(Dy:pI ps)(hx:0<=x/\x<=bP ps.length):iL F w w3 W s r ids known n0 (k+1) c5 c6 c7 c8 c9 c10 c11:=by
 have s1:=h1.2.size;have s2:=h2.2.size;have s3:=h3.2.size;have s0:=gU.size;refine⟨i3,k3,p3,ic3,kc3,pc3,ps ++ [x],?_,by simp[hpl];omega,?_,?_⟩
 ·have:=h3.1.mono (F':=bq F w w3) (fun q hq=>by
   rcases hq with ((( h | h) | h) | h) | h
   ·exact .inl h
   ·exact .inr ⟨h.1,by omega⟩
   ·exact .inr ⟨by omega,by omega⟩
   ·exact .inr ⟨by omega,by omega⟩
   ·exact .inr ⟨by omega,h.2⟩)
  rw[List.append_assoc,List.append_assoc,<-List.replicate_succ',<-List.replicate_succ'] at this;exact this
 ·exact Dy.snoc hx
 ·have a:=dr (dr h1.2 h2.2:ax (bq F w wo) wo w2) ((⟨h3.2.os,h3.2.tape,h3.2.output,h3.2.size,fun q hq hn=>h3.2.block q hq (fun h=>hn (ig s1 s2 h))⟩:ax (bq (bq F w wo) wo w2) w2 w3))
  exact dr gU a
theorem iL.zi {F:Nat->Prop}{w wo:World}{W s r:Nat}{ids:List Int}{known:List Bool}{n0 k:Nat}{c5 c6 c7 c8 c9 c10 c11:Value}(h:iL F w wo W s r ids known n0 k c5 c6 c7 c8 c9 c10 c11):YtlgidcmmgohagaaGreat.zi W wo=ids.length+k:=by
 obtain⟨ia,ka,pa,ic,kc,pc,ps,hl,hpl,Dy,gU⟩:=h;unfold YtlgidcmmgohagaaGreat.zi;rw[hl.c2];simp
theorem og {F G:Nat->Prop}{w wo:World}{r:Nat}{au:List Ob}(hr:bS G w r au)(Ni:∀k,G k->k<w.heap.size/\¬F k)(hk:ax F w wo):bS G wo r au:=
 hr.keep (fun _ h=>h) (fun k dy=>hk.block k (Ni k dy).1 (Ni k dy).2)
theorem Dz (h:cZ F w W s r ia ka pa ic kc pc ids known paths c5 c6 c7 c8 c9 c10 c11)(hr:bS G w r au)(Ni:∀k,G k->k<w.heap.size/\¬F k)(hlk:known.length=ids.length)(hlp:paths.length=ids.length)(hle:ids.length<=au.length)
  (hAt:∀i (hi:i<au.length),∀e ∈ au[i].aV,0<=e.2.2/\e.2.2<(i:Int))(hP:pI paths):
  Calls prog 79 #[.pointer (some ⟨W,0,none⟩)] w fun e w'=>e=.returned (.tuple #[])/\iL F w w' W s r ids known ids.length (au.length-ids.length) c5 c6 c7 c8 c9 c10 c11:=by
 have HR:Hid (bS G w r au):=hr;have HG:Hid (∀k,G k->k<w.heap.size/\¬F k):=Ni;have HA:Hid (∀i (hi:i<au.length),∀e ∈ au[i].aV,0<=e.2.2/\e.2.2<(i:Int)):=hAt;have HK:Hid (known.length=ids.length):=hlk;have HS:Hid (iL F w w W s r ids known ids.length 0 c5 c6 c7 c8 c9 c10 c11):=⟨ia,ka,pa,ic,kc,pc,paths,by rw[List.replicate_zero,List.replicate_zero,List.append_nil,List.append_nil];exact h.keep (fun k hk=>Or.inl hk) (fun _ _=>rfl),by simpa using hlp,hP,⟨rfl,rfl,rfl,bA _,fun _ _ _=>rfl⟩⟩;have hm:au.length<=400:=by obtain⟨_,_,h⟩:=hr;exact h.many
 clear h hr Ni hAt hP hlk hlp;go_enter func79,ntmps79;go_wp2
 go_loopw [] (fun wr=>∃k:Nat,ids.length+k<=au.length/\Hid (iL F w wr W s r ids known ids.length k c5 c6 c7 c8 c9 c10 c11)) (fun wr=>au.length-zi W wr)
 case atStart=>exact⟨0,hle,HS.out⟩
 case round=>
  obtain⟨k,hk,HGr⟩:=hrel;obtain⟨ia,ka,pa,ic,kc,pc,ps,hl,hpl,Dy,gU⟩:=HGr.out;have Sg:(ids++List.replicate k (0:Int)).length=ids.length+k:=by simp
  have oG:(known++List.replicate k false).length=ids.length+k:=by simp[HK.out]
  have e1:=hl.c1;have e2:=hl.c2;have e4:=hl.c4;rw[Sg] at e2;rw[hpl] at e4;obtain⟨ra,Sh,qd⟩:=og HR.out HG.out gU;have r0:=qd.c0;obtain⟨n,hn⟩:∃n,n=ids.length+k:=⟨_,rfl⟩;rw[<-hn] at e2 e4 hk;have HN:Hid (n=ids.length+k):=hn;have HMs:Hid (zi W wr=n):=by unfold zi;rw[e2];rfl
  by_cases hlt:n<au.length
  ·have Oz:(n:Int)<(au.length:Int):=by omega
   obtain⟨g,rfl,fo,_,_,cI,_⟩:=j0 qd.row rfl hlt;have pG:=qd.zZ au[n] (jk hlt);have hat:=HA.out n hlt;obtain⟨o,ho⟩:∃o,o=au[n]:=⟨_,rfl⟩;rw[<-ho] at pG hat cI;obtain⟨ok,od,oa,el,oc,es,oh⟩:=o;have hrow:wr.ownsRow 0 112 3 (.slice oa el oc) el (flat es):=pG.row;have cI':wr.cell? ⟨g,n*4+2,none⟩=some (.slice oa el oc):=cI;have RF:el<=16:=pG.few;have HE:Hid (es.length=el):=pG.len;have HT:Hid (∀e ∈ es,0<=e.2.2/\e.2.2<(n:Int)):=hat;have HPs:Hid (ps.length=n):=by rw[hn];exact hpl
   clear ho pG hat cI hn;go_wp2
   go_quiet (fail)
   go_wp2
   go_quiet (fail)
   go_wp2;rename World=>wo
   go_loopw [3,4] (fun v i wq=>∃j:Nat,∃x:Int,j<=el/\i=.int .i64 j/\v=.int .i64 x/\0<=x/\x<=cP n*j/\(∃q,wq=wo.drewN q)) (fun _ i _=>el-(intOf i).toNat)
   case atStart=>exact⟨0,0,dG _,rfl,rfl,by omega,by omega,⟨_,by rw[World.drewN_drewN]⟩⟩
   case round=>
    obtain⟨j,x,hj,rfl,rfl,hx0,hx1,⟨q,rfl⟩⟩:=hrel;by_cases lU:j<el
    ·have KB:j<es.length:=by rw[HE.out];exact lU
     obtain⟨gi,ci,Hg⟩:=ak hrow (by omega);obtain rfl:=(Value.slice.inj Hg).1;have Kz:gi<wo.heap.size:=ah hrow rfl;obtain⟨_,_,a2⟩:=bg (off:=0) (aQ hrow) KB;rw[Nat.zero_add] at a2;obtain⟨ha0,ha1⟩:=HT.out _ (jk KB);obtain⟨jj,Vl⟩:∃jj:Nat,es[j].2.2=(jj:Int):=⟨es[j].2.2.toNat,by omega⟩;have OH:jj<n:=by omega
     have Y5:(jj:Int)<(n:Int):=(by omega);rw[Vl] at a2;have hjp:jj<ps.length:=by rw[HPs.out];exact OH
     obtain⟨gp,kP,al2,cp,_⟩:=row_one hl.qg (i:=jj) (v:=.int .i64 ps[jj]) (by simp[encI,kO hjp]);rw[kP] at e4;obtain⟨hp0,Am⟩:=Dy jj hjp;have Ya:=ab5 OH;have Vm:=(X9 jj).2;have hcc:=Sc n;have hjc:(cP n)*((j:Int)+1)=cP n*(j:Int)+cP n:=by rw[Int.mul_add,Int.mul_one]
     have J4:cP n*(j:Int)<=302*16:=Int.mul_le_mul hcc.2 (by omega) (by omega) (by omega);clear Hg kP Vl ha0 ha1;go_wp2
     go_quiet (fail)
     go_wp2;go_roundw
     case rel=>exact⟨j+1,x+1+ps[jj],by omega,by go_num,rfl,by omega,by push_cast;rw[hjc];omega,⟨_,rfl⟩⟩
     case measure=>simp[intOf];omega
    ·have RI:Hid (wo.ownsRow 0 29 1 (.slice ia n ic) n (encI (ids++List.replicate k 0))):=by have:=hl.lC;rw[Sg,<-HN.out] at this;exact this
     have e3:=hl.c3;rw[oG,<-HN.out] at e3;have fz:=hl.fz;obtain⟨iI,hI,Ho,J5,Si⟩:=info_parts Nh;obtain⟨iB,hB,hB0,hB1,hB2⟩:=info_parts ab3;obtain⟨iP,hP,hP0,hP1,Yb⟩:=info_parts ab4;have qu:W<wo.heap.size:=hl.lt;by_cases hx3:300<x
     ·skip
      have hyr:(0:Int)<=(301:Int)/\(301:Int)<=bP ps.length:=⟨by omega,by rw[HPs.out];exact (Sd (Int.le_trans hx1 (Int.mul_le_mul_of_nonneg_left (by omega) (Sc n).1))).1 hx3⟩;go_wp2_with (at_builtin;refine aY rfl (.tmp 60) (.tmp 61) 59 rfl 0 29 iI _ 1 8 underlying59 hI Ho J5 Si rfl (by decide) (.slice ia n ic) n (encI (ids++List.replicate k 0)) rfl (RI.out.alloc _) ⟨wo.heap.size,0,none⟩ 1 1 [.int .i64 0] rfl rfl (one_cell (wo.drewN q) _ _ _ rfl) Aq (by unfold maxLen;omega) (by omega) (dG _) ?_);intro v1 w1 Fg hg1 pJ;obtain⟨g1,agb,rfl⟩:=ak Fg (by omega);have hW1:=dW hl.hW (mO wo q _) (by simp) hg1 (aA RI.out hl.hW (by decide));have P1:=cq (i:=2) hl.hW RI.out (by decide) (mO wo q _) (by simp) ⟨rfl,rfl,rfl⟩ Fg hg1 pJ (by omega);have L1:=hl.X6 (x:=0) (by rw[Sg,<-HN.out];exact P1);obtain⟨f10,f11,f12,f13,f14,f1z⟩:=um hW1;rw[oG,<-HN.out] at f13;rw[hpl,<-HN.out] at f14;rw[Sg,<-HN.out] at f12;have Y6:=L1.1.pg;rw[oG,<-HN.out] at Y6;have hs1:wo.heap.size<=w1.heap.size:=by have:=L1.2.size;simpa using this
      have Sj:Hid _:=L1;have KC:Hid _:=Y6;clear Fg hg1 pJ P1 L1 Y6 hW1;go_wp2_with (at_builtin;refine aY rfl (.tmp 69) (.tmp 70) 60 rfl 0 4 iB _ 1 1 underlying60 hB hB0 hB1 hB2 rfl (by decide) (.slice ka n kc) n (Hj (known++List.replicate k false)) rfl (World.ownsRow.alloc KC.out _) ⟨w1.heap.size,0,none⟩ 1 1 [.bool false] rfl rfl (one_cell _ _ _ _ (by simp)) Hl (by unfold maxLen;omega) (by omega) (dG _) ?_);intro v2 w2 Fh hg2 pK;obtain⟨g2,zY,rfl⟩:=ak Fh (by omega);have hW2:=dW Sj.out.1.hW (bh _ _) (by simp) hg2 (aA KC.out Sj.out.1.hW (by decide));have P2:=cq (i:=3) Sj.out.1.hW KC.out (by decide) (bh _ _) (by simp) ⟨rfl,rfl,rfl⟩ Fh hg2 pK (by simp);have L2:=Sj.out.1.X7 (x:=false) (by rw[oG,<-HN.out];exact P2);obtain⟨f20,f21,f22,f23,f24,f2z⟩:=um hW2;rw[oG,<-HN.out] at f23;rw[hpl,<-HN.out] at f24;have Y7:=L2.1.qg;rw[hpl,<-HN.out] at Y7;have Sk:Hid _:=L2;have KD:Hid _:=Y7;clear Fh hg2 pK P2 L2 Y7 hW2 f10 f11 f12 f13 f14 f1z;go_wp2_with (at_builtin;refine aY rfl (.tmp 78) (.tmp 80) 61 rfl 0 3 iP _ 1 8 underlying61 hP hP0 hP1 Yb rfl (by decide) (.slice pa n pc) n (encI ps) rfl (World.ownsRow.alloc KD.out _) ⟨w2.heap.size,0,none⟩ 1 1 [.int .i64 (301)] rfl rfl (one_cell _ _ _ _ (by simp)) Aq (by unfold maxLen;omega) (by omega) (dG _) ?_);intro v3 w3 wL hg3 kG;obtain⟨g3,Y8,rfl⟩:=ak wL (by omega);have hW3:=dW Sk.out.1.hW (bh _ _) (by simp) hg3 (aA KD.out Sk.out.1.hW (by decide));have P3:=cq (i:=4) Sk.out.1.hW KD.out (by decide) (bh _ _) (by simp) ⟨rfl,rfl,rfl⟩ wL hg3 kG (by simp);have L3:=Sk.out.1.X8 (x:=301) (by rw[hpl,<-HN.out];exact P3);obtain⟨f30,f31,f32,f33,f34,f3z⟩:=um hW3;rw[hpl,<-HN.out] at f34;have L3h:Hid _:=L3;clear wL hg3 kG P3 L3 hW3 f20 f21 f22 f23 f24 f2z;go_wp2;have HF:iL F w (w3.setCell ⟨W,4,none⟩ (.slice (some ⟨g3,0,none⟩) (n+1) Y8)) W s r ids known ids.length (k+1) c5 c6 c7 c8 c9 c10 c11:=iL.three gU Sj.out Sk.out L3h.out hpl Dy hyr;go_roundw
      case rel=>exact⟨k+1,by have:=HN.out;omega,HF⟩
      case measure=>
       have e:=HF.zi;rw[e,HMs.out]
       have:=HN.out
       omega
     ·skip
      have hyr:(0:Int)<=(x:Int)/\(x:Int)<=bP ps.length:=⟨by omega,by rw[HPs.out];exact (Sd (Int.le_trans hx1 (Int.mul_le_mul_of_nonneg_left (by omega) (Sc n).1))).2 hx3⟩;go_wp2_with (at_builtin;refine aY rfl (.tmp 60) (.tmp 61) 59 rfl 0 29 iI _ 1 8 underlying59 hI Ho J5 Si rfl (by decide) (.slice ia n ic) n (encI (ids++List.replicate k 0)) rfl (RI.out.alloc _) ⟨wo.heap.size,0,none⟩ 1 1 [.int .i64 0] rfl rfl (one_cell (wo.drewN q) _ _ _ rfl) Aq (by unfold maxLen;omega) (by omega) (dG _) ?_);intro v1 w1 Fg hg1 pJ;obtain⟨g1,agb,rfl⟩:=ak Fg (by omega);have hW1:=dW hl.hW (mO wo q _) (by simp) hg1 (aA RI.out hl.hW (by decide));have P1:=cq (i:=2) hl.hW RI.out (by decide) (mO wo q _) (by simp) ⟨rfl,rfl,rfl⟩ Fg hg1 pJ (by omega);have L1:=hl.X6 (x:=0) (by rw[Sg,<-HN.out];exact P1);obtain⟨f10,f11,f12,f13,f14,f1z⟩:=um hW1;rw[oG,<-HN.out] at f13;rw[hpl,<-HN.out] at f14;rw[Sg,<-HN.out] at f12;have Y6:=L1.1.pg;rw[oG,<-HN.out] at Y6;have hs1:wo.heap.size<=w1.heap.size:=by have:=L1.2.size;simpa using this
      have Sj:Hid _:=L1;have KC:Hid _:=Y6;clear Fg hg1 pJ P1 L1 Y6 hW1;go_wp2_with (at_builtin;refine aY rfl (.tmp 69) (.tmp 70) 60 rfl 0 4 iB _ 1 1 underlying60 hB hB0 hB1 hB2 rfl (by decide) (.slice ka n kc) n (Hj (known++List.replicate k false)) rfl (World.ownsRow.alloc KC.out _) ⟨w1.heap.size,0,none⟩ 1 1 [.bool false] rfl rfl (one_cell _ _ _ _ (by simp)) Hl (by unfold maxLen;omega) (by omega) (dG _) ?_);intro v2 w2 Fh hg2 pK;obtain⟨g2,zY,rfl⟩:=ak Fh (by omega);have hW2:=dW Sj.out.1.hW (bh _ _) (by simp) hg2 (aA KC.out Sj.out.1.hW (by decide));have P2:=cq (i:=3) Sj.out.1.hW KC.out (by decide) (bh _ _) (by simp) ⟨rfl,rfl,rfl⟩ Fh hg2 pK (by simp);have L2:=Sj.out.1.X7 (x:=false) (by rw[oG,<-HN.out];exact P2);obtain⟨f20,f21,f22,f23,f24,f2z⟩:=um hW2;rw[oG,<-HN.out] at f23;rw[hpl,<-HN.out] at f24;have Y7:=L2.1.qg;rw[hpl,<-HN.out] at Y7;have Sk:Hid _:=L2;have KD:Hid _:=Y7;clear Fh hg2 pK P2 L2 Y7 hW2 f10 f11 f12 f13 f14 f1z;go_wp2_with (at_builtin;refine aY rfl (.tmp 78) (.tmp 80) 61 rfl 0 3 iP _ 1 8 underlying61 hP hP0 hP1 Yb rfl (by decide) (.slice pa n pc) n (encI ps) rfl (World.ownsRow.alloc KD.out _) ⟨w2.heap.size,0,none⟩ 1 1 [.int .i64 (x)] rfl rfl (one_cell _ _ _ _ (by simp)) Aq (by unfold maxLen;omega) (by omega) (dG _) ?_);intro v3 w3 wL hg3 kG;obtain⟨g3,Y8,rfl⟩:=ak wL (by omega);have hW3:=dW Sk.out.1.hW (bh _ _) (by simp) hg3 (aA KD.out Sk.out.1.hW (by decide));have P3:=cq (i:=4) Sk.out.1.hW KD.out (by decide) (bh _ _) (by simp) ⟨rfl,rfl,rfl⟩ wL hg3 kG (by simp);have L3:=Sk.out.1.X8 (x:=x) (by rw[hpl,<-HN.out];exact P3);obtain⟨f30,f31,f32,f33,f34,f3z⟩:=um hW3;rw[hpl,<-HN.out] at f34;have L3h:Hid _:=L3;clear wL hg3 kG P3 L3 hW3 f20 f21 f22 f23 f24 f2z;go_wp2;have HF:iL F w (w3.setCell ⟨W,4,none⟩ (.slice (some ⟨g3,0,none⟩) (n+1) Y8)) W s r ids known ids.length (k+1) c5 c6 c7 c8 c9 c10 c11:=iL.three gU Sj.out Sk.out L3h.out hpl Dy hyr;go_roundw
      case rel=>exact⟨k+1,by have:=HN.out;omega,HF⟩
      case measure=>
       have e:=HF.zi;rw[e,HMs.out]
       have:=HN.out
       omega
  ·have HD:Hid (k=au.length-ids.length):=by have:=HN.out;show _=_;omega
   have Ao:¬(n:Int)<(au.length:Int):=by omega
   have zW:decide ((n:Int)<(au.length:Int))=false:=dY Ao;clear hn;go_wp2
   go_quiet (fail)
   go_wp2;go_end0;refine⟨rfl,?_⟩;rw[<-HD.out];exact iL.drewN HGr.out nq
end
def ij (v:Value):Option (DataW Value×List MemPlace):=some (.held v,[])
def je (w:World)(k:TypeId)(b n:Nat)(M:Lit->Option Value):Prop:=
 ∃D:DataW Value,w.ownsMap prog k ij b n D/\∀kl,WideAt.IsKeyLit kl->∀z,D.atKey kl z=((M kl).map DataW.held).getD z
theorem je.lt {w:World}{k:TypeId}{b n:Nat}{M:Lit->Option Value}(h:je w k b n M):b<w.heap.size:=by
 obtain⟨D,hD,_⟩:=h;exact hD.lt
theorem je.keep {w w':World}{k:TypeId}{b n:Nat}{M:Lit->Option Value}(h:je w k b n M)(e:w'.heap[b]? = w.heap[b]?):je w' k b n M:=by
 obtain⟨D,hD,hM⟩:=h;exact⟨D,dQ hD e,hM⟩
theorem je.isMap {w:World}{k:TypeId}{b n:Nat}{M:Lit->Option Value}(h:je w k b n M):∃es clock,w.heap[b]? = some (.map es clock):=by
 obtain⟨D,hD,_⟩:=h;exact dM hD
theorem Ar {w:World}{k:TypeId}{b:Nat}(h:w.heap[b]? = some (.map #[] 0)):je w k b 0 (fun _=>none):=
 ⟨.map [],⟨#[],0,h,⟨by simp,MapKept.stamped_empty 0,by simp⟩,bA _,rfl⟩,fun kl _ z=>rfl⟩
theorem Ba {D:DataW Value}{M:Lit->Option Value}{kl:Lit}(h:∀z,D.atKey kl z=((M kl).map DataW.held).getD z):Maps.has D kl=(M kl).isSome:=by
 cases hm:M kl with
 | none=>rw[hm] at h;exact Maps.has_false_of_atKey h
 | some v=>rw[hm] at h;exact Maps.has_true_of_atKey h
theorem je.look_ok {w:World}{k:TypeId}{b n:Nat}{M:Lit->Option Value}(h:je w k b n M)(K:Maps.Keyed prog k){t e:TypeId}(ht:prog.underlying t=some (.map k e)){z:Value}(hz:(zeroValue e).run prog w=.ok z w)
  {key:Value}{kl:Lit}(hkey:keyOf prog k key=some kl):(Instr.lookup t (.map (some b)) key true).run prog w=.ok (.tuple #[(M kl).getD z,.bool (M kl).isSome]) w:=by
 obtain⟨D,hD,hM⟩:=h;have hk:=K.key hkey;obtain⟨v,ps,hrun,hv⟩:=hD.look_ok K ht hz (zd:=.held z) (zp:=[]) rfl hkey;rw[hM kl hk,] at hv;rw[hrun,Ba (hM kl hk)];cases hm:M kl with
 | none=>rw[hm] at hv;simp only[ij,Option.map_none,Option.getD_none,Option.some.injEq,Prod.mk.injEq,DataW.held.injEq] at hv;rw[hv.1];rfl
 | some u=>rw[hm] at hv;simp only[ij,Option.map_some,Option.getD_some,Option.some.injEq,Prod.mk.injEq,DataW.held.injEq] at hv;rw[hv.1];rfl
theorem je.look {w:World}{k:TypeId}{b n:Nat}{M:Lit->Option Value}(h:je w k b n M)(K:Maps.Keyed prog k){t e:TypeId}(ht:prog.underlying t=some (.map k e)){z:Value}(hz:(zeroValue e).run prog w=.ok z w)
  {key:Value}{kl:Lit}(hkey:keyOf prog k key=some kl):(Instr.lookup t (.map (some b)) key false).run prog w=.ok ((M kl).getD z) w:=by
 obtain⟨D,hD,hM⟩:=h;have hk:=K.key hkey;obtain⟨v,ps,hrun,hv⟩:=hD.lookup K ht hz (zd:=.held z) (zp:=[]) rfl hkey;rw[hM kl hk] at hv;rw[hrun];cases hm:M kl with
 | none=>rw[hm] at hv;simp only[ij,Option.map_none,Option.getD_none,Option.some.injEq,Prod.mk.injEq,DataW.held.injEq] at hv;rw[hv.1];rfl
 | some u=>rw[hm] at hv;simp only[ij,Option.map_some,Option.getD_some,Option.some.injEq,Prod.mk.injEq,DataW.held.injEq] at hv;rw[hv.1];rfl
noncomputable def Bb (M:Lit->Option Value)(kl:Lit)(v:Option Value):Lit->Option Value:=fun x=>by
 classical exact if x=kl then v else M x
theorem kH (M:Lit->Option Value)(kl:Lit)(v:Option Value):Bb M kl v kl=v:=by simp[Bb]
theorem gQ {M:Lit->Option Value}{kl x:Lit}(h:x≠kl)(v:Option Value):Bb M kl v x=M x:=by simp[Bb,h]
theorem Sl {D:DataW Value}{M:Lit->Option Value}(hm:Maps.IsMap D)(hM:∀kl,WideAt.IsKeyLit kl->∀z,D.atKey kl z=((M kl).map DataW.held).getD z){kl:Lit}(hk:WideAt.IsKeyLit kl)(v:Value):
  ∀x,WideAt.IsKeyLit x->∀z,(D.put kl (.held v)).atKey x z=((Bb M kl (some v) x).map DataW.held).getD z:=by
 intro x hx z;by_cases e:x=kl
 ·subst e;rw[Maps.atKey_put_same hm hk,kH];rfl
 ·rw[Maps.atKey_put_other e,gQ e,hM x hx]
theorem Hp {D:DataW Value}{M:Lit->Option Value}(hM:∀kl,WideAt.IsKeyLit kl->∀z,D.atKey kl z=((M kl).map DataW.held).getD z)(kl:Lit):
  ∀x,WideAt.IsKeyLit x->∀z,(D.del kl).atKey x z=((Bb M kl none x).map DataW.held).getD z:=by
 intro x hx z;by_cases e:x=kl
 ·subst e;rw[Maps.atKey_del_same,kH];rfl
 ·rw[Maps.atKey_del_other e,gQ e,hM x hx]
theorem je.store {w:World}{k:TypeId}{b n:Nat}{M:Lit->Option Value}(h:je w k b n M)(K:Maps.Keyed prog k){t e:TypeId}(ht:prog.underlying t=some (.map k e))(hn:n<maxLen)
  {key val:Value}{kl:Lit}(hkey:keyOf prog k key=some kl):
  ∃w',(Instr.mapUpdate t (.map (some b)) key val).run prog w=.ok () w'/\je w' k b (n+1) (Bb M kl (some val))/\w.grownBy w' (some b)/\w'.heap.size=w.heap.size:=by
 obtain⟨D,hD,hM⟩:=h;have hk:=K.key hkey;obtain⟨w',hrun,CT,hg⟩:=hD.store K ht hn hkey (val:=val) (d:=.held val) (ps:=[]) rfl;refine⟨w',hrun,⟨_,CT,Sl hD.isMap hM hk val⟩,hg.grown,?_⟩;obtain⟨es,clock,es',clock',hb,rfl⟩:=hg;simp[ChangeMaps.setBlock]
theorem je.drop {w:World}{k:TypeId}{b n:Nat}{M:Lit->Option Value}(h:je w k b n M)(K:Maps.Keyed prog k){t e:TypeId}(ht:prog.underlying t=some (.map k e))
  {key:Value}{kl:Lit}(hkey:keyOf prog k key=some kl)(ty:TypeId):
  ∃w',(Builtin.delete_ #[t,k] ty #[.map (some b),key]).run prog w=.ok (.tuple #[]) w'/\je w' k b n (Bb M kl none)/\w.grownBy w' (some b)/\w'.heap.size=w.heap.size:=by
 obtain⟨D,hD,hM⟩:=h;obtain⟨w',hrun,CT,hg⟩:=hD.drop K ht hkey ty;refine⟨w',hrun,⟨_,CT,Hp hM kl⟩,hg.grown,?_⟩;obtain⟨es,clock,es',clock',hb,rfl⟩:=hg;simp[ChangeMaps.setBlock]
inductive LT where
 | file (id:Int)
 | held (f:Nat)
 | dir (id:Int)
 | own (es:List (ByteArray×LT))
abbrev Kids:=List (ByteArray×LT)
def LT.kind:LT->Int
 | .file _=>1
 | .held _=>1
 | .dir _=>2
 | .own _=>2
def LT.id:LT->Int
 | .file i=>i
 | .held _=>0
 | .dir i=>i
 | .own _=>0
def cK (x:ByteArray×LT):aK:=(x.1,x.2.kind,x.2.id)
def ltOf (e:aK):LT:=if e.2.1=2 then .dir e.2.2 else .file e.2.2
def iA (e:aK):ByteArray×LT:=(e.1,ltOf e)
def bR (ag:List Ob)(id:Int):List aK:=((ag[(id-1).toNat]?).map (fun o:Ob=>o.aV)).getD []
def bytesOf (ag:List Ob)(id:Int):ByteArray:=((ag[(id-1).toNat]?).map (fun o:Ob=>o.data)).getD ⟨#[]⟩
def kids (ag:List Ob):LT->Option Kids
 | .own es=>some es
 | .dir id=>some ((bR ag id).map iA)
 | _=>none
def aS (es:Kids)(n:ByteArray):Option LT:=(es.find? (fun x=>decide (x.1=n))).map (·.2)
def LT.at (ag:List Ob):LT->List ByteArray->Option LT
 | t,[]=>some t
 | t,n :: r=>(kids ag t).bind fun es=>(aS es n).bind fun c=>c.at ag r
theorem bw (ag:List Ob)(t:LT)(n:ByteArray)(r:List ByteArray):t.at ag (n :: r)=(kids ag t).bind fun es=>(aS es n).bind fun c=>c.at ag r:=by rw[LT.at]
theorem di (ag:List Ob)(t:LT):t.at ag []=some t:=by rw[LT.at]
theorem bH (ag:List Ob):∀(p q:List ByteArray) (t:LT),t.at ag (p++q)=(t.at ag p).bind fun c=>c.at ag q
 | [],q,t=>by rw[List.nil_append,di];rfl
 | n :: r,q,t=>by
  rw[List.cons_append,bw,bw]
  cases kids ag t with
  | none=>rfl
  | some es=>
   simp only[Option.bind_some]
   cases aS es n with
   | none=>rfl
   | some c=>simp only[Option.bind_some];exact bH ag r q c
def dK (ag:List Ob)(f:Kids->Kids):List ByteArray->LT->LT
 | [],t=>.own (f ((kids ag t).getD []))
 | n :: r,t=>.own (((kids ag t).getD []).map fun x=>if x.1=n then (x.1,dK ag f r x.2) else x)
theorem DA (ag:List Ob)(f:Kids->Kids)(t:LT):kids ag (dK ag f [] t)=some (f ((kids ag t).getD [])):=by rw[dK];rfl
theorem om (ag:List Ob)(f:Kids->Kids)(n:ByteArray)(r:List ByteArray)(t:LT):kids ag (dK ag f (n :: r) t)=some (((kids ag t).getD []).map fun x=>if x.1=n then (x.1,dK ag f r x.2) else x):=by rw[dK];rfl
theorem mP (n:ByteArray)(g:LT->LT)(m:ByteArray):∀es:Kids,aS (es.map fun x=>if x.1=n then (x.1,g x.2) else x) m=if m=n then (aS es m).map g else aS es m
 | []=>by split <;> rfl
 | x :: r=>by
  have ih:=mP n g m r
  unfold aS at ih ⊢
  rw[List.map_cons]
  by_cases hx:x.1=n
  ·rw[aL hx]
   by_cases hm:x.1=m
   ·have hmn:m=n:=hm.symm.trans hx
    rw[aL hmn,List.find?_cons_of_pos (by simpa using hm),List.find?_cons_of_pos (by simpa using hm)];rfl
   ·rw[List.find?_cons_of_neg (by simpa using hm),List.find?_cons_of_neg (by simpa using hm)];exact ih
  ·rw[ay hx]
   by_cases hm:x.1=m
   ·have hmn:¬m=n:=fun e=>hx (hm.trans e)
    rw[ay hmn,List.find?_cons_of_pos (by simpa using hm),List.find?_cons_of_pos (by simpa using hm)]
   ·rw[List.find?_cons_of_neg (by simpa using hm),List.find?_cons_of_neg (by simpa using hm)];exact ih
inductive Nd where
 | dir
 | file (d:ByteArray)
 deriving DecidableEq
abbrev e7:=Nat->ByteArray
def nd (ag:List Ob)(fc:e7):LT->Nd
 | .file i=>.file (bytesOf ag i)
 | .held f=>.file (fc f)
 | .dir _=>.dir
 | .own _=>.dir
def gV (ag:List Ob)(fc:e7)(t:LT)(p:List ByteArray):Option Nd:=(t.at ag p).map (nd ag fc)
theorem gY (ag:List Ob)(fc:e7)(t:LT):gV ag fc t []=some (nd ag fc t):=by unfold gV;rw[di];rfl
theorem fe (ag:List Ob)(fc:e7)(t:LT)(n:ByteArray)(r:List ByteArray):gV ag fc t (n :: r)=(kids ag t).bind fun es=>(aS es n).bind fun c=>gV ag fc c r:=by
 unfold gV;rw[bw];cases kids ag t with
 | none=>rfl
 | some es=>
  simp only[Option.bind_some];cases aS es n <;> rfl
theorem Fi (ag:List Ob)(fc:e7)(f:Kids->Kids):∀(p:List ByteArray) (t d:LT) (ks:Kids),t.at ag p=some d->kids ag d=some ks->
  (∀n r,gV ag fc (dK ag f p t) (p++n :: r)=(aS (f ks) n).bind fun c=>gV ag fc c r)/\
  (∀q,(¬ ∃n r,q=p++n :: r)->gV ag fc (dK ag f p t) q=gV ag fc t q)
 | [],t,d,ks,ha,hk=>by
  rw[di] at ha;cases ha
  refine⟨fun n r=>?_,fun q hq=>?_⟩
  ·rw[List.nil_append,fe,DA,hk];rfl
  ·cases q with
   | nil=>
    rw[gY,gY,dK]
    cases t <;> first | rfl | (simp[kids] at hk)
   | cons n r=>exact absurd ⟨n,r,rfl⟩ hq
 | m :: p,t,d,ks,ha,hk=>by
  rw[bw] at ha
  cases jQ:kids ag t with
  | none=>rw[jQ] at ha;simp at ha
  | some es=>
   rw[jQ] at ha
   simp only[Option.bind_some] at ha
   cases hc:aS es m with
   | none=>rw[hc] at ha;simp at ha
   | some c=>
    rw[hc] at ha
    simp only[Option.bind_some] at ha
    obtain⟨i1,i2⟩:=Fi ag fc f p c d ks ha hk
    refine⟨fun n r=>?_,fun q hq=>?_⟩
    ·rw[List.cons_append,fe,om,jQ,Option.getD_some,Option.bind_some,mP,aL rfl,hc,Option.map_some,Option.bind_some]
     exact i1 n r
    ·cases q with
     | nil=>
      rw[gY,gY,dK]
      cases t <;> first | rfl | (simp[kids] at jQ)
     | cons n r=>
      rw[fe,fe,om,jQ,Option.getD_some,Option.bind_some,Option.bind_some,mP]
      by_cases hn:n=m
      ·subst hn
       rw[aL rfl,hc,Option.map_some,Option.bind_some,Option.bind_some]
       exact i2 r (fun⟨x,y,e⟩=>hq ⟨x,y,by rw[e];rfl⟩)
      ·rw[ay hn]
structure FS where
 got:List Int
 brk:Bool
 kF:Int->Bool
 kD:Int->Bool
def FS.gf (s:FS)(id:Int):FS×Bool:=
 if s.kD id then (s,true) else if s.brk then ({ s with brk:=false },false) else ({ s with got:=s.got ++ [id],kD:=fun x=>decide (x=id) || s.kD x },true)
def FS.ep (s:FS)(id:Int):FS×Bool:=
 if s.kF id then (s,true) else if s.brk then ({ s with brk:=false },false) else ({ s with got:=s.got ++ [id],kF:=fun x=>decide (x=id) || s.kF x },true)
def FS.kn (s:FS)(x:Int):Nat:=(s.kF x).toNat+(s.kD x).toNat
def FS.Next (s s':FS):Prop:=s'.brk=s.brk/\(s.brk=true->s'=s)/\(∃l,s'.got=s.got++l/\∀x,l.count x+s.kn x=s'.kn x)/\(∀x,s.kF x=true->s'.kF x=true)/\(∀x,s.kD x=true->s'.kD x=true)
def FS.Fj (s s':FS):Prop:=s.brk=true/\s' = { s with brk:=false }
theorem FS.Next.refl (s:FS):s.Next s:=⟨rfl,fun _=>rfl,⟨[],by simp,fun x=>by simp⟩,fun _ h=>h,fun _ h=>h⟩
theorem FS.Next.trans {s s' s'':FS}(h:s.Next s')(k:s'.Next s''):s.Next s'':=by
 obtain⟨h1,h2,⟨l,h3,h6⟩,h4,h5⟩:=h;obtain⟨k1,k2,⟨m,k3,k6⟩,k4,k5⟩:=k;refine⟨k1.trans h1,fun hb=>?_,⟨l++m,by rw[k3,h3,List.append_assoc],fun x=>by rw[List.count_append];have:=h6 x;have:=k6 x;omega⟩,fun x hx=>k4 x (h4 x hx),fun x hx=>k5 x (h5 x hx)⟩;rw[k2 (h1.trans hb),h2 hb]
theorem FS.Next.fail {s s' s'':FS}(h:s.Next s')(k:s'.Fj s''):s.Fj s'':=by
 obtain⟨k1,k2⟩:=k;have hb:s.brk=true:=h.1.symm.trans k1;have he:=h.2.1 hb;subst he;exact⟨hb,k2⟩
theorem Sm {f:Int->Bool}{id:Int}(h:¬f id=true){n:Nat}(x:Int):[id].count x+(n+(f x).toNat)=n+(decide (x=id) || f x).toNat:=by
 by_cases hx:x=id
 ·subst hx
  have:f x=false:=by simpa using h
  simp[this];omega
 ·have rA:¬id=x:=fun e=>hx e.symm
  simp[hx,rA]
theorem FS.Bc (s:FS)(id:Int):((s.gf id).2=true/\s.Next (s.gf id).1/\(s.gf id).1.kD id=true)\/((s.gf id).2=false/\s.Fj (s.gf id).1):=by
 unfold FS.gf;by_cases h:s.kD id=true
 ·rw[aL h];exact .inl ⟨rfl,FS.Next.refl s,h⟩
 ·rw[ay h]
  by_cases hb:s.brk=true
  ·rw[aL hb];exact .inr ⟨rfl,hb,rfl⟩
  ·rw[ay hb]
   exact .inl ⟨rfl,⟨rfl,fun h=>absurd h hb,⟨[id],rfl,fun x=>Sm h x⟩,fun _ h=>h,fun x hx=>by simp[hx]⟩,by simp⟩
theorem FS.Hq (s:FS)(id:Int):((s.ep id).2=true/\s.Next (s.ep id).1/\(s.ep id).1.kF id=true)\/((s.ep id).2=false/\s.Fj (s.ep id).1):=by
 unfold FS.ep;by_cases h:s.kF id=true
 ·rw[aL h];exact .inl ⟨rfl,FS.Next.refl s,h⟩
 ·rw[ay h]
  by_cases hb:s.brk=true
  ·rw[aL hb];exact .inr ⟨rfl,hb,rfl⟩
  ·rw[ay hb]
   exact .inl ⟨rfl,⟨rfl,fun h=>absurd h hb,⟨[id],rfl,fun x=>by have:=Sm h (n:=0) x;unfold FS.kn;simp only;omega⟩,fun x hx=>by simp[hx],fun _ h=>h⟩,by simp⟩
def cQ (ag:List Ob)(s:FS):LT->FS×Int×Kids
 | .own es=>(s,0,es)
 | .dir id=>if (s.gf id).2 then ((s.gf id).1,0,(bR ag id).map iA) else ((s.gf id).1,14,[])
 | _=>(s,5,[])
def fq (ag:List Ob):LT->Int×Kids
 | .own es=>(0,es)
 | .dir id=>(0,(bR ag id).map iA)
 | _=>(5,[])
def aO (ag:List Ob)(t:LT)(s:FS):List ByteArray->FS×Int×LT
 | []=>(s,0,t)
 | n :: r=>
  let a:=aO ag t s r
  if a.2.1≠0 then (a.1,a.2.1,.dir 0) else
  let b:=cQ ag a.1 a.2.2
  if b.2.1≠0 then (b.1,b.2.1,.dir 0) else
  match aS b.2.2 n with
  | none=>(b.1,4,.dir 0)
  | some c=>(b.1,0,c)
def bK (ag:List Ob)(t:LT):List ByteArray->Int×LT
 | []=>(0,t)
 | n :: r=>
  let a:=bK ag t r
  if a.1≠0 then (a.1,.dir 0) else
  let b:=fq ag a.2
  if b.1≠0 then (b.1,.dir 0) else
  match aS b.2 n with
  | none=>(4,.dir 0)
  | some c=>(0,c)
def cA (ag:List Ob)(t:LT)(s:FS)(r:List ByteArray):FS×Int×Kids:=
 let a:=aO ag t s r
 if a.2.1≠0 then (a.1,a.2.1,[]) else cQ ag a.1 a.2.2
def gK (ag:List Ob)(t:LT)(r:List ByteArray):Int×Kids:=
 let a:=bK ag t r
 if a.1≠0 then (a.1,[]) else fq ag a.2
theorem sN (ag:List Ob)(t:LT):(fq ag t).1≠14:=by cases t <;> simp[fq]
theorem sO (ag:List Ob)(s:FS)(t:LT):(s.Next (cQ ag s t).1/\(cQ ag s t).2=fq ag t)\/(s.Fj (cQ ag s t).1/\(cQ ag s t).2=(14,[])):=by
 cases t with
 | file i=>exact .inl ⟨FS.Next.refl s,rfl⟩
 | held f=>exact .inl ⟨FS.Next.refl s,rfl⟩
 | own es=>exact .inl ⟨FS.Next.refl s,rfl⟩
 | dir id=>
  have e1:cQ ag s (.dir id)=if (s.gf id).2 then ((s.gf id).1,0,(bR ag id).map iA) else ((s.gf id).1,14,[]):=rfl;have e2:fq ag (.dir id)=(0,(bR ag id).map iA):=rfl;rw[e1,e2];rcases s.Bc id with ⟨h,hn,_⟩ | ⟨h,hf⟩
  ·rw[aL h];exact .inl ⟨hn,rfl⟩
  ·rw[ay (by rw[h];decide)];exact .inr ⟨hf,rfl⟩
theorem sP (ag:List Ob)(t:LT)(s:FS):∀r,(s.Next (aO ag t s r).1/\(aO ag t s r).2=bK ag t r/\(bK ag t r).1≠14)\/(s.Fj (aO ag t s r).1/\(aO ag t s r).2=(14,.dir 0))
 | []=>.inl ⟨FS.Next.refl s,rfl,by simp[bK]⟩
 | n :: r=>by
  rcases sP ag t s r with ⟨hn,he,Y9⟩ | ⟨hf,he⟩
  ·have e1:(aO ag t s r).2.1=(bK ag t r).1:=by rw[he]
   have e2:(aO ag t s r).2.2=(bK ag t r).2:=by rw[he]
   unfold aO bK
   by_cases h0:(bK ag t r).1≠0
   ·simp only[e1,aL h0]
    exact .inl ⟨hn,trivial,Y9⟩
   ·simp only[e1,e2,ay h0]
    rcases sO ag (aO ag t s r).1 (bK ag t r).2 with ⟨kn,ke⟩ | ⟨kf,ke⟩
    ·have k1:(cQ ag (aO ag t s r).1 (bK ag t r).2).2.1=(fq ag (bK ag t r).2).1:=by rw[ke]
     have k2:(cQ ag (aO ag t s r).1 (bK ag t r).2).2.2=(fq ag (bK ag t r).2).2:=by rw[ke]
     rw[k1,k2]
     have hk:=sN ag (bK ag t r).2
     by_cases hb:(fq ag (bK ag t r).2).1≠0
     ·rw[aL hb,aL hb];exact .inl ⟨hn.trans kn,rfl,hk⟩
     ·rw[ay hb,ay hb]
      cases hp:aS (fq ag (bK ag t r).2).2 n with
      | none=>exact .inl ⟨hn.trans kn,rfl,by simp⟩
      | some c=>exact .inl ⟨hn.trans kn,rfl,by simp⟩
    ·have k1:(cQ ag (aO ag t s r).1 (bK ag t r).2).2.1=14:=by rw[ke]
     rw[k1,aL (by decide)]
     exact .inr ⟨hn.fail kf,rfl⟩
  ·have e1:(aO ag t s r).2.1=14:=by rw[he]
   unfold aO
   simp only[e1]
   rw[aL (by decide)]
   exact .inr ⟨hf,rfl⟩
theorem Hr (ag:List Ob)(t:LT)(s:FS)(r:List ByteArray):(s.Next (cA ag t s r).1/\(cA ag t s r).2=gK ag t r/\(gK ag t r).1≠14)\/(s.Fj (cA ag t s r).1/\(cA ag t s r).2=(14,[])):=by
 rcases sP ag t s r with ⟨hn,he,Y9⟩ | ⟨hf,he⟩
 ·have e1:(aO ag t s r).2.1=(bK ag t r).1:=by rw[he]
  have e2:(aO ag t s r).2.2=(bK ag t r).2:=by rw[he]
  unfold cA gK;by_cases h0:(bK ag t r).1≠0
  ·simp only[e1,aL h0];exact .inl ⟨hn,trivial,Y9⟩
  ·simp only[e1,e2,ay h0]
   rcases sO ag (aO ag t s r).1 (bK ag t r).2 with ⟨kn,ke⟩ | ⟨kf,ke⟩
   ·exact .inl ⟨hn.trans kn,ke,sN _ _⟩
   ·exact .inr ⟨hn.fail kf,ke⟩
 ·have e1:(aO ag t s r).2.1=14:=by rw[he]
  unfold cA;simp only[e1];rw[aL (by decide)];exact .inr ⟨hf,rfl⟩
theorem Bd (ag:List Ob)(t:LT):∀r,((bK ag t r).1=0->t.at ag r.reverse=some (bK ag t r).2)/\((bK ag t r).1≠0->t.at ag r.reverse=none)
 | []=>⟨fun _=>by rw[List.reverse_nil,di];rfl,fun h=>absurd rfl h⟩
 | n :: r=>by
  obtain⟨i1,i2⟩:=Bd ag t r
  have hsn:t.at ag (n :: r).reverse=(t.at ag r.reverse).bind fun c=>c.at ag [n]:=by rw[List.reverse_cons,bH]
  have h1:∀c:LT,c.at ag [n]=(kids ag c).bind fun es=>aS es n:=by
   intro c;rw[bw];cases kids ag c with
   | none=>rfl
   | some es=>
    simp only[Option.bind_some];cases aS es n with
    | none=>rfl
    | some x=>simp only[Option.bind_some];rw[di]
  rw[hsn];unfold bK;by_cases h0:(bK ag t r).1≠0
  ·simp only[aL h0]
   rw[i2 h0];exact⟨fun h=>absurd h h0,fun _=>rfl⟩
  ·simp only[ay h0]
   rw[i1 (Decidable.not_not.1 h0),Option.bind_some,h1];cases hd:(bK ag t r).2 with
   | file i=>simp[fq,kids]
   | held f=>simp[fq,kids]
   | own es=>
    simp only[fq,kids,Option.bind_some];cases hp:aS es n <;> simp
   | dir id=>
    simp only[fq,kids,Option.bind_some];cases hp:aS ((bR ag id).map iA) n <;> simp
section
variable {α β:Type}
def jm (a b:ByteArray):Int:=Lib.compareBytes a.data.toList b.data.toList
theorem jd (a:ByteArray):jm a a=0:=sG _
theorem DB {a b:ByteArray}(h:jm a b=0):a=b:=bytes_inj (ku _ _ h)
theorem OI (a b:ByteArray):jm b a = - jm a b:=oB _ _
theorem oI {a b c:ByteArray}(h:jm a b<0)(k:jm b c<0):jm a c<0:=lT _ _ _ h k
def aU (es:List (ByteArray×α)):Prop:=es.Pairwise fun x y=>jm x.1 y.1<0
def dz (es:List (ByteArray×α))(n:ByteArray):Nat:=es.countP fun x=>decide (jm x.1 n<0)
def aW (es:List (ByteArray×α))(n:ByteArray):Bool:=((es[dz es n]?).map fun x=>decide (x.1=n)).getD false
def oJ (es:List (ByteArray×α))(n:ByteArray):Option α:=(es.find? fun x=>decide (x.1=n)).map (·.2)
theorem Nj (es:List (ByteArray×α))(n:ByteArray):dz es n<=es.length:=List.countP_le_length
theorem nL {x:ByteArray×α}{r:List (ByteArray×α)}{n:ByteArray}(h:jm x.1 n<0):dz (x :: r) n=dz r n+1:=by unfold dz;rw[List.countP_cons_of_pos (by simpa using h)]
theorem nM {x:ByteArray×α}{r:List (ByteArray×α)}{n:ByteArray}(hr:aU (x :: r))(h:¬jm x.1 n<0):dz (x :: r) n=0:=by
 unfold dz;rw[List.countP_eq_zero];intro y hy;rcases List.mem_cons.1 hy with rfl | hy
 ·simpa using h
 ·have h1:=(List.pairwise_cons.1 hr).1 y hy
  simp only[decide_eq_true_eq];exact fun h2=>h (oI h1 h2)
theorem aU.tail {x:ByteArray×α}{r:List (ByteArray×α)}(h:aU (x :: r)):aU r:=(List.pairwise_cons.1 h).2
theorem gR {x:ByteArray×α}{r:List (ByteArray×α)}{n:ByteArray}(h:x.1=n):oJ (x :: r) n=some x.2:=by unfold oJ;rw[List.find?_cons_of_pos (by simpa using h)];rfl
theorem dZ {x:ByteArray×α}{r:List (ByteArray×α)}{n:ByteArray}(h:x.1≠n):oJ (x :: r) n=oJ r n:=by unfold oJ;rw[List.find?_cons_of_neg (by simpa using h)]
theorem wM {es:List (ByteArray×α)}{n:ByteArray}(h:∀x ∈ es,x.1≠n):oJ es n=none:=by
 unfold oJ;rw[List.find?_eq_none.2 (by intro x hx;simpa using h x hx)];rfl
theorem oK:∀{es:List (ByteArray×α)} {n:ByteArray},aU es->oJ es n=if aW es n then (es[dz es n]?).map (·.2) else none
 | [],n,_=>by simp[oJ,aW,dz]
 | x :: r,n,h=>by
  by_cases hx:jm x.1 n<0
  ·have hne:x.1≠n:=fun e=>by rw[e,jd] at hx;omega
   have ih:=oK (n:=n) h.tail
   rw[dZ hne,ih]
   unfold aW
   rw[nL hx]
   simp
  ·unfold aW
   rw[nM h hx]
   simp only[List.getElem?_cons_zero,Option.map_some,Option.getD_some]
   by_cases hn:x.1=n
   ·rw[gR hn];simp[hn]
   ·rw[dZ hn,wM]
    ·simp[hn]
    ·intro y hy e
     have h1:=(List.pairwise_cons.1 h).1 y hy
     rw[e] at h1
     exact hx h1
def eH (es:List (ByteArray×α))(n:ByteArray)(c:α):List (ByteArray×α):=if aW es n then es.set (dz es n) (n,c) else es.take (dz es n)++(n,c) :: es.drop (dz es n)
def cE (es:List (ByteArray×α))(n:ByteArray):List (ByteArray×α):=es.eraseIdx (dz es n)
theorem sQ {x:ByteArray×α}{r:List (ByteArray×α)}{n:ByteArray}(h:jm x.1 n<0):aW (x :: r) n=aW r n:=by unfold aW;rw[nL h];rfl
theorem wN {x:ByteArray×α}{r:List (ByteArray×α)}{n:ByteArray}{c:α}(h:jm x.1 n<0):eH (x :: r) n c=x :: eH r n c:=by
 unfold eH;rw[sQ h,nL h];split <;> simp
theorem CU {x:ByteArray×α}{r:List (ByteArray×α)}{n:ByteArray}(h:jm x.1 n<0):cE (x :: r) n=x :: cE r n:=by unfold cE;rw[nL h];rfl
theorem sR {x:ByteArray×α}{r:List (ByteArray×α)}{n:ByteArray}(hr:aU (x :: r))(h:¬jm x.1 n<0):aW (x :: r) n=decide (x.1=n):=by unfold aW;rw[nM hr h];rfl
theorem wO {x:ByteArray×α}{r:List (ByteArray×α)}{n:ByteArray}{c:α}(hr:aU (x :: r))(h:¬jm x.1 n<0):eH (x :: r) n c=if x.1=n then (n,c) :: r else (n,c) :: x :: r:=by
 unfold eH;rw[sR hr h,nM hr h];by_cases e:x.1=n <;> simp[e]
theorem CV {x:ByteArray×α}{r:List (ByteArray×α)}{n:ByteArray}(hr:aU (x :: r))(h:¬jm x.1 n<0):cE (x :: r) n=r:=by unfold cE;rw[nM hr h];rfl
theorem Hs:∀{es:List (ByteArray×α)} {n:ByteArray} {c:α},aU es->∀m,oJ (eH es n c) m=if m=n then some c else oJ es m
 | [],n,c,_,m=>by
  by_cases e:m=n
  ·subst e;simp[eH,aW,dz,oJ]
  ·have:¬n=m:=fun h=>e h.symm
   simp[eH,aW,dz,oJ,e,this]
 | x :: r,n,c,h,m=>by
  by_cases hx:jm x.1 n<0
  ·have hne:x.1≠n:=fun e=>by rw[e,jd] at hx;omega
   rw[wN hx]
   by_cases hm:x.1=m
   ·rw[gR hm,gR hm,ay (fun e=>hne (hm.trans e))]
   ·rw[dZ hm,dZ hm];exact Hs h.tail m
  ·rw[wO h hx]
   by_cases hn:x.1=n
   ·rw[aL hn]
    by_cases hm:m=n
    ·rw[aL hm,gR hm.symm]
    ·rw[ay hm,dZ (fun e=>hm e.symm),dZ (fun e=>hm (e.symm.trans hn))]
   ·rw[ay hn]
    by_cases hm:m=n
    ·rw[aL hm,gR hm.symm]
    ·rw[ay hm,dZ (fun e=>hm e.symm)]
theorem DC:∀{es:List (ByteArray×α)} {n:ByteArray},aU es->aW es n=true->∀m,oJ (cE es n) m=if m=n then none else oJ es m
 | [],n,_,ht,m=>by simp[aW,dz] at ht
 | x :: r,n,h,ht,m=>by
  by_cases hx:jm x.1 n<0
  ·have hne:x.1≠n:=fun e=>by rw[e,jd] at hx;omega
   rw[sQ hx] at ht
   rw[CU hx]
   by_cases hm:x.1=m
   ·rw[gR hm,gR hm,ay (fun e=>hne (hm.trans e))]
   ·rw[dZ hm,dZ hm];exact DC h.tail ht m
  ·rw[sR h hx] at ht
   have hn:x.1=n:=by simpa using ht
   rw[CV h hx]
   by_cases hm:m=n
   ·rw[aL hm]
    refine wM fun y hy e=>?_
    have h1:=(List.pairwise_cons.1 h).1 y hy
    rw[e,hm,hn,jd] at h1;omega
   ·rw[ay hm,dZ (fun e=>hm (e.symm.trans hn))]
theorem Sn:∀{es:List (ByteArray×α)} {n:ByteArray} {c:α} {y:ByteArray×α},aU es->y ∈ eH es n c->y=(n,c)\/y ∈ es:=by
 intro es n c y h hy;unfold eH at hy;split at hy
 ·exact (List.mem_or_eq_of_mem_set hy).symm
 ·rw[List.mem_append,List.mem_cons] at hy
  rcases hy with h1 | h1 | h1
  ·exact .inr (List.mem_of_mem_take h1)
  ·exact .inl h1
  ·exact .inr (List.mem_of_mem_drop h1)
theorem sU:∀{es:List (ByteArray×α)} {n:ByteArray} {c:α},aU es->aU (eH es n c)
 | [],n,c,_=>by simp[eH,aW,dz,aU]
 | x :: r,n,c,h=>by
  by_cases hx:jm x.1 n<0
  ·rw[wN hx]
   refine List.pairwise_cons.2 ⟨fun y hy=>?_,sU h.tail⟩
   rcases Sn h.tail hy with rfl | hy
   ·exact hx
   ·exact (List.pairwise_cons.1 h).1 y hy
  ·rw[wO h hx]
   by_cases hn:x.1=n
   ·rw[aL hn]
    exact List.pairwise_cons.2 ⟨fun y hy=>by have:=(List.pairwise_cons.1 h).1 y hy;rw[hn] at this;exact this,h.tail⟩
   ·rw[ay hn]
    have iX:jm n x.1<0:=by
     have h1:=OI x.1 n;have h2:jm x.1 n≠0:=fun e=>hn (DB e);omega
    refine List.pairwise_cons.2 ⟨fun y hy=>?_,h⟩;rcases List.mem_cons.1 hy with rfl | hy
    ·exact iX
    ·exact oI iX ((List.pairwise_cons.1 h).1 y hy)
theorem pL (es:List (ByteArray×α))(n:ByteArray)(c:α):(eH es n c).length=if aW es n then es.length else es.length+1:=by
 unfold eH
 have:=Nj es n
 split <;> simp;omega
theorem qx {es:List (ByteArray×α)}{n:ByteArray}(h:aW es n=true):dz es n<es.length:=by
 unfold aW at h;by_cases hi:dz es n<es.length
 ·exact hi
 ·rw[List.getElem?_eq_none (by omega)] at h;simp at h
theorem wP {es:List (ByteArray×α)}{n:ByteArray}(h:aW es n=true):(cE es n).length=es.length-1:=by
 unfold cE;rw[List.length_eraseIdx_of_lt (qx h)]
def yj (f:ByteArray×α->β)(es:List (ByteArray×α)):List (ByteArray×β):=es.map fun x=>(x.1,f x)
theorem Be (f:ByteArray×α->β)(es:List (ByteArray×α))(n:ByteArray):dz (yj f es) n=dz es n:=by
 unfold dz yj;rw[List.countP_map];rfl
theorem Bf (f:ByteArray×α->β)(es:List (ByteArray×α))(n:ByteArray):aW (yj f es) n=aW es n:=by
 unfold aW;rw[Be];unfold yj;rw[List.getElem?_map];cases es[dz es n]? <;> rfl
theorem mQ (f:ByteArray×α->β){es:List (ByteArray×α)}(h:aU es):aU (yj f es):=by
 unfold aU yj;rw[List.pairwise_map];exact h
theorem OJ (f:ByteArray×α->β)(es:List (ByteArray×α))(n:ByteArray):yj f (cE es n)=cE (yj f es) n:=by
 unfold cE;rw[Be];unfold yj;simp[List.eraseIdx_eq_take_drop_succ,List.map_take,List.map_drop]
end
theorem KE (es:Kids)(n:ByteArray):aS es n=oJ es n:=rfl
def zE:aK:=(⟨#[]⟩,0,0)
structure FT where
 root:Int
 od:List ByteArray->Option (List aK)
 of:List ByteArray->Option Nat
def upd {β:Type}(f:List ByteArray->β)(p:List ByteArray)(v:β):List ByteArray->β:=fun q=>if q=p then v else f q
theorem upd_same {β:Type}(f:List ByteArray->β)(p:List ByteArray)(v:β):upd f p v p=v:=by unfold upd;rw[aL rfl]
theorem aJ {β:Type}{f:List ByteArray->β}{p q:List ByteArray}(h:q≠p)(v:β):upd f p v q=f q:=by unfold upd;rw[ay h]
def kI (ag:List Ob)(ft:FT)(fs:FS)(p:List ByteArray)(e:aK):FS×Int×List aK:=
 if e.2.1≠2 then (fs,5,[]) else
 if e.2.2=0 then (fs,0,(ft.od p).getD []) else
 if (fs.gf e.2.2).2 then ((fs.gf e.2.2).1,0,bR ag e.2.2) else ((fs.gf e.2.2).1,14,[])
def findF (ag:List Ob)(ft:FT)(fs:FS):List ByteArray->FS×Int×aK
 | []=>(fs,0,(⟨#[]⟩,2,ft.root))
 | n :: r=>
  let a:=findF ag ft fs r
  if a.2.1≠0 then (a.1,a.2.1,zE) else
  let b:=kI ag ft a.1 r.reverse a.2.2
  if b.2.1≠0 then (b.1,b.2.1,zE) else
  match oJ b.2.2 n with
  | none=>(b.1,4,zE)
  | some c=>(b.1,0,(n,c))
def bO (ag:List Ob)(ft:FT)(fs:FS)(r:List ByteArray):FS×Int×List aK:=
 let a:=findF ag ft fs r
 if a.2.1≠0 then (a.1,a.2.1,[]) else kI ag ft a.1 r.reverse a.2.2
theorem j5 (ag:List Ob)(ft:FT)(fs:FS)(n:ByteArray)(r:List ByteArray):findF ag ft fs (n :: r) =
  if (bO ag ft fs r).2.1≠0 then ((bO ag ft fs r).1,(bO ag ft fs r).2.1,zE) else
  match oJ (bO ag ft fs r).2.2 n with
  | none=>((bO ag ft fs r).1,4,zE)
  | some c=>((bO ag ft fs r).1,0,(n,c)):=by
 unfold bO;rw[findF];by_cases h:(findF ag ft fs r).2.1≠0
 ·simp only[aL h]
 ·simp only[ay h]
def vt:Option LT->Option (List aK)
 | some (.own es)=>some (es.map cK)
 | _=>none
def KF:Option LT->Option Nat
 | some (.held f)=>some f
 | _=>none
structure Flat (ag:List Ob)(t:LT)(ft:FT):Prop where
 kind:t.kind=2
 root:ft.root=t.id
 od:∀p,ft.od p=vt (t.at ag p)
 of:∀p,ft.of p=KF (t.at ag p)
def fO (s:ByteArray):List UInt8:=s.data.toList
theorem gy {a b:ByteArray}(h:fO a=fO b):a=b:=bytes_inj h
theorem cN (s:ByteArray):(fO s).length=s.size:=Array.length_toList
theorem gF (s:ByteArray):s.toList=fO s:=by simp only[ByteArray.toList_eq];rfl
def iq:List (List UInt8)->List UInt8
 | []=>[]
 | [x]=>x
 | x :: y :: r=>x++47 :: iq (y :: r)
def cM:List UInt8->List (List UInt8)
 | []=>[[]]
 | c :: r=>if c=47 then [] :: cM r else ((c :: (cM r).headD []) :: (cM r).tail)
theorem lW (s:List UInt8):cM s ≠ []:=by
 cases s with
 | nil=>simp[cM]
 | cons c r=>simp only[cM];split <;> simp
theorem wQ:∀(a b:List UInt8),(∀c ∈ a,c≠47)->cM (a++47 :: b)=a :: cM b
 | [],b,_=>by simp[cM]
 | c :: r,b,h=>by
  have hc:c≠47:=h c (List.mem_cons_self ..)
  have ih:=wQ r b (fun d hd=>h d (List.mem_cons_of_mem _ hd))
  simp only[List.cons_append,cM]
  rw[ay hc,ih];rfl
theorem zj:∀(a:List UInt8),(∀c ∈ a,c≠47)->cM a = [a]
 | [],_=>rfl
 | c :: r,h=>by
  have hc:c≠47:=h c (List.mem_cons_self ..)
  have ih:=zj r (fun d hd=>h d (List.mem_cons_of_mem _ hd))
  simp only[cM]
  rw[ay hc,ih];rfl
theorem pM:∀(l:List (List UInt8)),l ≠ []->(∀x ∈ l,∀c ∈ x,c≠47)->cM (iq l)=l
 | [],h,_=>absurd rfl h
 | [x],_,h=>by simp only[iq];exact zj x (h x (List.mem_cons_self ..))
 | x :: y :: r,_,h=>by
  simp only[iq]
  rw[wQ x _ (h x (List.mem_cons_self ..)),pM (y :: r) (by simp) (fun z hz=>h z (List.mem_cons_of_mem _ hz))]
theorem oL (x:List UInt8){r:List (List UInt8)}(h:r ≠ []):iq (x :: r)=x++47 :: iq r:=by
 cases r with
 | nil=>exact absurd rfl h
 | cons y t=>rfl
theorem KG (c:UInt8)(x:List UInt8)(r:List (List UInt8)):iq ((c :: x) :: r)=c :: iq (x :: r):=by
 cases r with
 | nil=>rfl
 | cons y t=>rfl
theorem sV:∀(s:List UInt8),iq (cM s)=s
 | []=>rfl
 | c :: r=>by
  have ih:=sV r
  simp only[cM]
  split
  ·next hc=>rw[oL _ (lW r),ih,hc];rfl
  ·rw[KG]
   congr 1
   cases hs:cM r with
   | nil=>exact absurd hs (lW r)
   | cons y t=>rw[hs] at ih;exact ih
theorem vu (x:List UInt8):∀(l:List (List UInt8)),l ≠ []->iq (l ++ [x])=iq l++47 :: x
 | [],h=>absurd rfl h
 | [y],_=>rfl
 | y :: z :: r,_=>by
  have ih:=vu x (z :: r) (by simp)
  show y++47 :: iq (z :: r ++ [x])=(y++47 :: iq (z :: r))++47 :: x
  rw[ih];simp
theorem oM (a b:ByteArray):fO (a++b)=fO a++fO b:=by
 unfold fO;simp
def aI (l:List ByteArray):Prop:=∀x ∈ l,aF x=true
theorem aI.append {a b:List ByteArray}(ha:aI a)(hb:aI b):aI (a++b):=fun x hx=>(List.mem_append.1 hx).elim (ha x) (hb x)
theorem aI.left {a b:List ByteArray}(h:aI (a++b)):aI a:=fun x hx=>h x (List.mem_append_left _ hx)
theorem aI.right {a b:List ByteArray}(h:aI (a++b)):aI b:=fun x hx=>h x (List.mem_append_right _ hx)
theorem aI.take {a:List ByteArray}(h:aI a)(k:Nat):aI (a.take k):=fun x hx=>h x (List.mem_of_mem_take hx)
theorem yl (ag:List Ob)(f:Kids->Kids):∀(p:List ByteArray) (t d:LT) (ks:Kids),t.at ag p=some d->kids ag d=some ks->
  (∀n r,(dK ag f p t).at ag (p++n :: r)=(aS (f ks) n).bind fun c=>c.at ag r)/\(dK ag f p t).at ag p=some (.own (f ks))
 | [],t,d,ks,ha,hk=>by
  rw[di] at ha;cases ha
  refine⟨fun n r=>?_,?_⟩
  ·rw[List.nil_append,bw,DA,hk];rfl
  ·rw[di,dK,hk];rfl
 | m :: p,t,d,ks,ha,hk=>by
  rw[bw] at ha
  cases jQ:kids ag t with
  | none=>rw[jQ] at ha;simp at ha
  | some es=>
   rw[jQ,Option.bind_some] at ha
   cases hc:aS es m with
   | none=>rw[hc] at ha;simp at ha
   | some c=>
    rw[hc,Option.bind_some] at ha
    obtain⟨i1,i2⟩:=yl ag f p c d ks ha hk
    refine⟨fun n r=>?_,?_⟩
    ·rw[List.cons_append,bw,om,jQ,Option.getD_some,Option.bind_some,mP,aL rfl,hc,Option.map_some,Option.bind_some]
     exact i1 n r
    ·rw[bw,om,jQ,Option.getD_some,Option.bind_some,mP,aL rfl,hc,Option.map_some,Option.bind_some]
     exact i2
theorem lX (ag:List Ob)(f:Kids->Kids):∀(q:List ByteArray) (m:ByteArray) (r:List ByteArray) (t d:LT),t.at ag (q++m :: r)=some d->
  ∃dq kq,t.at ag q=some dq/\kids ag dq=some kq/\(dK ag f (q++m :: r) t).at ag q=some (.own (kq.map fun x=>if x.1=m then (x.1,dK ag f r x.2) else x))
 | [],m,r,t,d,ha=>by
  rw[List.nil_append,bw] at ha
  cases jQ:kids ag t with
  | none=>rw[jQ] at ha;simp at ha
  | some es=>exact⟨t,es,di _ _,jQ,by rw[di,List.nil_append,dK,jQ];rfl⟩
 | n :: q,m,r,t,d,ha=>by
  rw[List.cons_append,bw] at ha
  cases jQ:kids ag t with
  | none=>rw[jQ] at ha;simp at ha
  | some es=>
   rw[jQ,Option.bind_some] at ha
   cases hc:aS es n with
   | none=>rw[hc] at ha;simp at ha
   | some c=>
    rw[hc,Option.bind_some] at ha
    obtain⟨dq,kq,h1,h2,h3⟩:=lX ag f q m r c d ha
    refine⟨dq,kq,?_,h2,?_⟩
    ·rw[bw,jQ,Option.bind_some,hc,Option.bind_some];exact h1
    ·rw[List.cons_append,bw,om,jQ,Option.getD_some,Option.bind_some,mP,aL rfl,hc,Option.map_some,Option.bind_some]
     exact h3
theorem jJ (ag:List Ob)(f:Kids->Kids):∀(p q:List ByteArray) (t d:LT),t.at ag p=some d->¬q <+: p->¬p <+: q->(dK ag f p t).at ag q=t.at ag q
 | [],q,t,d,ha,h1,h2=>absurd (List.nil_prefix) h2
 | m :: p,[],t,d,ha,h1,h2=>absurd (List.nil_prefix) h1
 | m :: p,n :: q,t,d,ha,h1,h2=>by
  rw[bw] at ha
  cases jQ:kids ag t with
  | none=>rw[jQ] at ha;simp at ha
  | some es=>
   rw[jQ,Option.bind_some] at ha
   rw[bw,bw,om,jQ,Option.getD_some,Option.bind_some,Option.bind_some,mP]
   by_cases hn:n=m
   ·subst hn
    rw[aL rfl]
    cases hc:aS es n with
    | none=>rfl
    | some c=>
     rw[hc,Option.bind_some] at ha
     rw[Option.map_some,Option.bind_some,Option.bind_some]
     exact jJ ag f p q c d ha (fun h=>h1 (List.cons_prefix_cons.2 ⟨rfl,h⟩)) (fun h=>h2 (List.cons_prefix_cons.2 ⟨rfl,h⟩))
   ·rw[ay hn]
def Sound (ag:List Ob):Prop:=(∀id,0<=cC ag id)/\∀id,aH ag id=2->aU (bR ag id)/\(bR ag id).length<=16/\∀e ∈ bR ag id,aF e.1=true/\(e.2.1=1\/e.2.1=2)/\aH ag e.2.2=e.2.1/\cC ag e.2.2+1<=cC ag id
def bu (ag:List Ob):Nat->LT->Prop
 | _,.file id=>aH ag id=1
 | _,.held _=>True
 | n,.dir id=>aH ag id=2/\cC ag id<=n
 | 0,.own es=>es = []
 | n+1,.own es=>aU es/\es.length<=16/\∀x ∈ es,aF x.1=true/\bu ag n x.2
theorem cr {ag:List Ob}(hS:Sound ag){n:Nat}{t:LT}(h:bu ag n t){ks:Kids}(hk:kids ag t=some ks):aU ks/\ks.length<=16/\∀x ∈ ks,aF x.1=true/\∃m,n=m+1/\bu ag m x.2:=by
 cases t with
 | file i=>simp[kids] at hk
 | held f=>simp[kids] at hk
 | own es=>
  simp only[kids,Option.some.injEq] at hk;subst hk;cases n with
  | zero=>rw[bu] at h;subst h;exact⟨List.Pairwise.nil,by simp,by simp⟩
  | succ m=>rw[bu] at h;exact⟨h.1,h.2.1,fun x hx=>⟨(h.2.2 x hx).1,m,rfl,(h.2.2 x hx).2⟩⟩
 | dir id=>
  have hk2:(bR ag id).map iA=ks:=by simpa [kids] using hk
  subst hk2;have h':aH ag id=2/\cC ag id<=n:=by cases n <;> simpa [bu] using h
  obtain⟨s1,s2,s3⟩:=hS.2 id h'.1;refine⟨?_,by simpa using s2,fun x hx=>?_⟩
  ·unfold aU;rw[List.pairwise_map];exact s1
  ·obtain⟨e,he,rfl⟩:=List.mem_map.1 hx
   obtain⟨v,k12,j4,hh⟩:=s3 e he;have h0:=hS.1 e.2.2;refine⟨v,n-1,by omega,?_⟩;show bu ag (n-1) (ltOf e);unfold ltOf;by_cases h2:e.2.1=2
   ·rw[aL h2]
    have:aH ag e.2.2=2/\cC ag e.2.2<=((n-1:Nat):Int):=⟨j4.trans h2,by omega⟩
    cases hn:n-1 <;> (rw[hn] at this;simpa [bu] using this)
   ·rw[ay h2]
    have:aH ag e.2.2=1:=j4.trans (by omega)
    cases hn:n-1 <;> simpa [bu] using this
theorem oN {ks:Kids}{n:ByteArray}{c:LT}(h:aS ks n=some c):(n,c) ∈ ks:=by
 unfold aS at h;cases hf:ks.find? (fun x=>decide (x.1=n)) with
 | none=>rw[hf] at h;simp at h
 | some x=>
  rw[hf] at h;simp only[Option.map_some,Option.some.injEq] at h;have h1:=List.find?_some hf;have h2:=List.mem_of_find?_eq_some hf;simp only[decide_eq_true_eq] at h1;rw[<-h1,<-h];exact h2
theorem dN {ag:List Ob}(hS:Sound ag):∀(p:List ByteArray) {n:Nat} {t c:LT},bu ag n t->t.at ag p=some c->p.length<=n/\bu ag (n-p.length) c/\aI p
 | [],n,t,c,h,ha=>by rw[di] at ha;cases ha;exact⟨by simp,by simpa using h,fun x hx=>by simp at hx⟩
 | m :: p,n,t,c,h,ha=>by
  rw[bw] at ha
  cases jQ:kids ag t with
  | none=>rw[jQ] at ha;simp at ha
  | some ks=>
   rw[jQ,Option.bind_some] at ha
   cases hc:aS ks m with
   | none=>rw[hc] at ha;simp at ha
   | some x=>
    rw[hc,Option.bind_some] at ha
    obtain⟨_,_,h3⟩:=cr hS h jQ
    obtain⟨hv,k,rfl,hx⟩:=h3 _ (oN hc)
    obtain⟨i1,i2,i3⟩:=dN hS p hx ha
    refine⟨by simp;omega,?_,fun y hy=>?_⟩
    ·rw[List.length_cons,show k+1-(p.length+1)=k-p.length by omega];exact i2
    ·rcases List.mem_cons.1 hy with rfl | hy
     ·exact hv
     ·exact i3 y hy
theorem Nk {ag:List Ob}{id k:Int}(h:aH ag id=k)(hk:k≠0):1<=id:=by
 unfold aH at h;by_cases h1:1<=id
 ·exact h1
 ·rw[ay h1] at h;exact absurd h.symm hk
theorem OL {es:List aK}(h:∀e ∈ es,e.2.1=1\/e.2.1=2):(es.map iA).map cK=es:=by
 rw[List.map_map];conv=>rhs;rw[<-List.map_id es]
 refine List.map_congr_left fun e he=>?_;show cK (iA e)=id e;unfold cK iA ltOf;obtain⟨a,k,i⟩:=e;rcases h _ he with h | h
 ·simp only at h;subst h;rfl
 ·simp only at h;subst h;rfl
theorem Ht (ks:Kids)(n:ByteArray):oJ (ks.map cK) n=(aS ks n).map fun c=>(c.kind,c.id):=by
 unfold oJ aS;rw[List.find?_map];show ((ks.find? _).map cK).map _=_;rw[Option.map_map,Option.map_map];rfl
theorem uo {ag:List Ob}{t c:LT}{ft:FT}(hS:Sound ag)(hF:Flat ag t ft){n:Nat}{p:List ByteArray}(hc:bu ag n c)(ha:t.at ag p=some c)(fs:FS)(nm:ByteArray):
  kI ag ft fs p (nm,c.kind,c.id)=((cQ ag fs c).1,(cQ ag fs c).2.1,(cQ ag fs c).2.2.map cK):=by
 unfold kI;cases c with
 | file i=>rfl
 | held f=>rfl
 | own es=>
  have Q5:=hF.od p;rw[ha] at Q5;simp only[LT.kind,LT.id,Q5];rfl
 | dir id=>
  have h':aH ag id=2:=by cases n <;> simp[bu] at hc <;> exact hc.1
  have h1:=Nk h' (by decide);have hb:=OL (fun e he=>((hS.2 id h').2.2 e he).2.1);rw[ay (show ¬((nm,(LT.dir id).kind,(LT.dir id).id):aK).2.1≠2 from fun h=>h rfl),ay (show ¬((nm,(LT.dir id).kind,(LT.dir id).id):aK).2.2=0 from by show ¬id=0;omega)];show (if (fs.gf id).2=true then _ else _)=_;have e1:cQ ag fs (.dir id)=if (fs.gf id).2 then ((fs.gf id).1,0,(bR ag id).map iA) else ((fs.gf id).1,14,[]):=rfl;rw[e1];by_cases hg:(fs.gf id).2=true
  ·rw[aL hg,aL hg];simp only[hb];rfl
  ·rw[ay hg,ay hg];rfl
theorem qy {ag:List Ob}{t:LT}{ft:FT}(hS:Sound ag)(hF:Flat ag t ft){n:Nat}(cz:bu ag n t)(fs:FS):∀r:List ByteArray,
  (findF ag ft fs r).1=(aO ag t fs r).1/\(findF ag ft fs r).2.1=(aO ag t fs r).2.1/\
  ((aO ag t fs r).2.1=0->(findF ag ft fs r).2.2=(r.headD ⟨#[]⟩,(aO ag t fs r).2.2.kind,(aO ag t fs r).2.2.id)/\t.at ag r.reverse=some (aO ag t fs r).2.2)
 | []=>⟨rfl,rfl,fun _=>⟨by show (_,(2:Int),ft.root)=_;rw[hF.root,<-hF.kind];rfl,di _ _⟩⟩
 | m :: r=>by
  obtain⟨i1,i2,i3⟩:=qy hS hF cz fs r
  rw[findF,aO]
  simp only[i1,i2]
  by_cases h0:(aO ag t fs r).2.1≠0
  ·simp only[aL h0]
   exact⟨trivial,trivial,fun h=>absurd h h0⟩
  ·simp only[ay h0]
   obtain⟨i4,i5⟩:=i3 (Decidable.not_not.1 h0)
   have hc:=(dN hS _ cz i5).2.1
   have he:=uo hS hF hc i5 (aO ag t fs r).1 (r.headD ⟨#[]⟩)
   rw[i4,he]
   simp only
   by_cases hb:(cQ ag (aO ag t fs r).1 (aO ag t fs r).2.2).2.1≠0
   ·rw[aL hb,aL hb]
    exact⟨rfl,rfl,fun h=>absurd h hb⟩
   ·rw[ay hb,ay hb,Ht]
    have Fk:(kids ag (aO ag t fs r).2.2)=some (cQ ag (aO ag t fs r).1 (aO ag t fs r).2.2).2.2:=by
     generalize (aO ag t fs r).2.2=x at hb ⊢;generalize (aO ag t fs r).1=y at hb ⊢;cases x with
     | file i=>simp[cQ] at hb
     | held f=>simp[cQ] at hb
     | own es=>rfl
     | dir id=>
      simp only[cQ] at hb ⊢;by_cases hg:(y.gf id).2=true
      ·rw[aL hg];rfl
      ·rw[ay hg] at hb;simp at hb
    cases hp:aS (cQ ag (aO ag t fs r).1 (aO ag t fs r).2.2).2.2 m with
    | none=>exact⟨rfl,rfl,fun h=>by simp at h⟩
    | some x=>
     refine⟨rfl,rfl,fun _=>⟨rfl,?_⟩⟩;rw[List.reverse_cons,bH,i5,Option.bind_some,bw,Fk,Option.bind_some,hp,Option.bind_some,di]
theorem lY {ag:List Ob}{t:LT}{ft:FT}(hS:Sound ag)(hF:Flat ag t ft){n:Nat}(cz:bu ag n t)(fs:FS)(r:List ByteArray):
  bO ag ft fs r=((cA ag t fs r).1,(cA ag t fs r).2.1,(cA ag t fs r).2.2.map cK):=by
 obtain⟨i1,i2,i3⟩:=qy hS hF cz fs r;unfold bO cA;simp only[i1,i2];by_cases h0:(aO ag t fs r).2.1≠0
 ·simp only[aL h0];rfl
 ·simp only[ay h0]
  obtain⟨i4,i5⟩:=i3 (Decidable.not_not.1 h0);have hc:=(dN hS _ cz i5).2.1;rw[i4,uo hS hF hc i5 (aO ag t fs r).1 (r.headD ⟨#[]⟩)]
def jv (es:List aK)(n:ByteArray):List aK:=es.map fun e=>if e.1=n then (e.1,e.2.1,0) else e
def cT (ag:List Ob)(fs:FS)(ft:FT):List ByteArray->FT
 | []=>if (ft.od []).isSome then ft else { ft with od:=upd ft.od [] (some (bO ag ft fs []).2.2),root:=0 }
 | n :: r=>
  if (ft.od (n :: r).reverse).isSome then ft else
  let ft2:=cT ag fs { ft with od:=upd ft.od (n :: r).reverse (some (bO ag ft fs (n :: r)).2.2) } r
  { ft2 with od:=upd ft2.od r.reverse (some (jv ((ft2.od r.reverse).getD []) n)) }
theorem vv (ag:List Ob)(fs:FS){ft oo:FT}(hr:oo.root=ft.root):∀r:List ByteArray,(∀x,x <+: r.reverse->oo.od x=ft.od x)->findF ag oo fs r=findF ag ft fs r/\bO ag oo fs r=bO ag ft fs r
 | [],h=>by
  have hf:findF ag oo fs []=findF ag ft fs []:=by rw[findF,findF,hr]
  refine⟨hf,?_⟩
  unfold bO
  rw[hf]
  unfold kI
  rw[show oo.od ([]:List ByteArray).reverse=ft.od ([]:List ByteArray).reverse from h _ (List.prefix_refl _)]
 | n :: r,h=>by
  have hp:∀x,x <+: r.reverse->oo.od x=ft.od x:=fun x hx=>h x (hx.trans (by rw[List.reverse_cons];exact List.prefix_append _ _))
  obtain⟨_,i2⟩:=vv ag fs hr r hp
  have hf:findF ag oo fs (n :: r)=findF ag ft fs (n :: r):=by rw[j5,j5,i2]
  refine⟨hf,?_⟩
  unfold bO
  rw[hf]
  unfold kI
  rw[show oo.od (n :: r).reverse=ft.od (n :: r).reverse from h _ (List.prefix_refl _)]
structure gh (ag:List Ob)(fs:FS)(ft:FT)(K:List ByteArray->List aK)(p:List ByteArray):Prop where
 look:∀q,q <+: p->bO ag ft fs q.reverse=(fs,0,K q)
 own:∀q,q <+: p->∀es,ft.od q=some es->es=K q
 up:∀q m,(q ++ [m]) <+: p->(ft.od (q ++ [m])).isSome=true->(ft.od q).isSome=true/\jv (K q) m=K q
 root:(ft.od []).isSome=true->ft.root=0
def zK (K:List ByteArray->List aK)(p x:List ByteArray):List aK:=match p[x.length]? with
 | some m=>jv (K x) m
 | none=>K x
theorem sW {α:Type}{x p:List α}{n:α}(h:x <+: p ++ [n]):x <+: p\/x=p ++ [n]:=by
 rw[List.prefix_concat_iff] at h;rcases h with h | h
 ·exact .inr h
 ·exact .inl h
theorem j6 {α:Type}{x p:List α}(h:x <+: p)(hne:x≠p):∃m,p[x.length]? = some m/\(x ++ [m]) <+: p:=by
 obtain⟨t,rfl⟩:=h;cases t with
 | nil=>simp at hne
 | cons m r=>exact⟨m,by simp,⟨r,by simp⟩⟩
theorem vw {ag:List Ob}{fs:FS}{ft:FT}{K:List ByteArray->List aK}:∀{r:List ByteArray},gh ag fs ft K r.reverse->(ft.od r.reverse).isSome=true->ft.root=0/\∀x,x <+: r.reverse->ft.od x=some (zK K r.reverse x)
 | [],h,ho=>by
  refine⟨h.root ho,fun x hx=>?_⟩
  have:x = []:=by simpa using hx
  subst this
  obtain⟨es,he⟩:=Option.isSome_iff_exists.1 ho
  have:=h.own [] (List.prefix_refl _) es he
  show ft.od ([]:List ByteArray).reverse=_
  rw[he,this];rfl
 | n :: r,h,ho=>by
  rw[List.reverse_cons] at h ho ⊢
  obtain⟨hu,hz⟩:=h.up r.reverse n (List.prefix_refl _) ho
  have qh:∀x,x <+: r.reverse->x <+: r.reverse ++ [n]:=fun x hx=>hx.trans (List.prefix_append _ _)
  have h':gh ag fs ft K r.reverse:=⟨fun q hq=>h.look q (qh q hq),fun q hq=>h.own q (qh q hq),fun q m hq=>h.up q m (qh _ hq),h.root⟩
  obtain⟨i1,i2⟩:=vw h' hu
  refine⟨i1,fun x hx=>?_⟩
  rcases sW hx with hx | rfl
  ·rw[i2 x hx]
   by_cases Hu:x=r.reverse
   ·subst Hu
    have e1:zK K r.reverse r.reverse=K r.reverse:=by unfold zK;rw[List.getElem?_eq_none (bA _)]
    have e2:zK K (r.reverse ++ [n]) r.reverse=jv (K r.reverse) n:=by unfold zK;rw[List.getElem?_append_right (bA _)];simp
    rw[e1,e2,hz]
   ·obtain⟨m,hm,_⟩:=j6 hx Hu
    have hlt:x.length<r.reverse.length:=(List.getElem?_eq_some_iff.1 hm).1
    unfold zK
    rw[List.getElem?_append_left hlt,hm]
  ·obtain⟨es,he⟩:=Option.isSome_iff_exists.1 ho
   have:=h.own _ (List.prefix_refl _) es he
   rw[he,this]
   unfold zK
   rw[List.getElem?_eq_none (by simp)]
theorem vz {ag:List Ob}{fs:FS}{K:List ByteArray->List aK}:∀{r:List ByteArray} {ft:FT},gh ag fs ft K r.reverse->
  (cT ag fs ft r).root=0/\(cT ag fs ft r).of=ft.of/\∀x,(cT ag fs ft r).od x=if x <+: r.reverse then some (zK K r.reverse x) else ft.od x
 | [],ft,h=>by
  rw[cT]
  by_cases ho:(ft.od []).isSome=true
  ·rw[aL ho]
   obtain⟨h1,h2⟩:=vw (r:=[]) h ho
   refine⟨h1,rfl,fun x=>?_⟩
   split
   ·next hx=>exact h2 x hx
   ·rfl
  ·rw[ay ho]
   refine⟨rfl,rfl,fun x=>?_⟩
   have hl:=h.look [] (List.prefix_refl _)
   show upd ft.od [] _ x=_
   by_cases hx:x = []
   ·subst hx
    rw[upd_same,aL (by simp),show bO ag ft fs []=(fs,0,K []) from hl];rfl
   ·rw[aJ hx,ay (by simpa using hx)]
 | n :: r,ft,h=>by
  rw[cT]
  by_cases ho:(ft.od (n :: r).reverse).isSome=true
  ·rw[aL ho]
   obtain⟨h1,h2⟩:=vw (r:=n :: r) h ho
   refine⟨h1,rfl,fun x=>?_⟩
   split
   ·next hx=>exact h2 x hx
   ·rfl
  ·rw[ay ho]
   have Za:(n :: r).reverse=r.reverse ++ [n]:=List.reverse_cons
   rw[Za] at h ⊢
   have hl:=h.look (r.reverse ++ [n]) (List.prefix_refl _)
   rw[List.reverse_append,List.reverse_reverse] at hl
   have hl':bO ag ft fs (n :: r)=(fs,0,K (r.reverse ++ [n])):=hl
   rw[hl']
   have qh:∀x,x <+: r.reverse->x <+: r.reverse ++ [n]:=fun x hx=>hx.trans (List.prefix_append _ _)
   have hne:∀x,x <+: r.reverse->x≠r.reverse ++ [n]:=fun x hx e=>by
    have:=hx.length_le
    rw[e] at this;simp at this;omega
   have h':gh ag fs { ft with od:=upd ft.od (r.reverse ++ [n]) (some (fs,(0:Int),K (r.reverse ++ [n])).2.2) } K r.reverse:=by
    refine⟨fun q hq=>?_,fun q hq es he=>?_,fun q m hq hs=>?_,fun hs=>?_⟩
    ·rw[(vv ag fs (ft:=ft) (oo:={ ft with od:=upd ft.od (r.reverse ++ [n]) (some (fs,(0:Int),K (r.reverse ++ [n])).2.2) }) rfl q.reverse (fun x hx=>aJ (hne x (by rw[List.reverse_reverse] at hx;exact hx.trans hq)) _)).2]
     exact h.look q (qh q hq)
    ·exact h.own q (qh q hq) es ((aJ (f:=ft.od) (hne q hq) (some (K (r.reverse ++ [n])))).symm.trans he)
    ·have e1:=aJ (f:=ft.od) (hne _ hq) (some (K (r.reverse ++ [n])))
     have hqr:q <+: r.reverse:=(List.prefix_append q [m]).trans hq;have e2:=aJ (f:=ft.od) (hne _ hqr) (some (K (r.reverse ++ [n])));show (upd ft.od _ _ q).isSome=true/\_;rw[e2];exact h.up q m (qh _ hq) (by rw[<-e1];exact hs)
    ·exact h.root (by rw[<-aJ (f:=ft.od) (hne [] (by simp)) (some (K (r.reverse ++ [n])))];exact hs)
   obtain⟨i1,i2,i3⟩:=vz h';refine⟨i1,i2,fun x=>?_⟩;show upd (cT ag fs _ r).od r.reverse _ x=_;rw[i3 r.reverse,aL (List.prefix_refl _)];have e1:zK K r.reverse r.reverse=K r.reverse:=by unfold zK;rw[List.getElem?_eq_none (bA _)]
   rw[e1];by_cases hx:x=r.reverse
   ·subst hx
    rw[upd_same,aL (List.prefix_append _ _)];have e2:zK K (r.reverse ++ [n]) r.reverse=jv (K r.reverse) n:=by unfold zK;rw[List.getElem?_append_right (bA _)];simp
    rw[e2];rfl
   ·rw[aJ hx,i3]
    by_cases hxp:x <+: r.reverse
    ·rw[aL hxp,aL (qh x hxp)]
     obtain⟨m,hm,_⟩:=j6 hxp hx;have hlt:x.length<r.reverse.length:=(List.getElem?_eq_some_iff.1 hm).1;unfold zK;rw[List.getElem?_append_left hlt,hm]
    ·rw[ay hxp]
     show upd ft.od _ _ x=_;by_cases hxn:x=r.reverse ++ [n]
     ·subst hxn
      rw[upd_same,aL (List.prefix_refl _)];unfold zK;rw[List.getElem?_eq_none (by simp)]
     ·rw[aJ hxn,ay]
      intro hx2;rcases sW hx2 with h3 | h3
      ·exact hxp h3
      ·exact hxn h3
def gz (ag:List Ob)(t:LT)(fs:FS)(p:List ByteArray):Prop:=∀x id,x <+: p->t.at ag x=some (.dir id)->fs.kD id=true
theorem gz.mono {ag:List Ob}{t:LT}{fs fs':FS}{p:List ByteArray}(h:gz ag t fs p)(hk:∀x,fs.kD x=true->fs'.kD x=true):gz ag t fs' p:=fun x id hx ha=>hk _ (h x id hx ha)
theorem gz.pre {ag:List Ob}{t:LT}{fs:FS}{p q:List ByteArray}(h:gz ag t fs p)(hq:q <+: p):gz ag t fs q:=fun x id hx ha=>h x id (hx.trans hq) ha
theorem Bg {ag:List Ob}{fs:FS}{c:LT}{ks:Kids}(hk:kids ag c=some ks)(h:∀id,c=.dir id->fs.kD id=true):cQ ag fs c=(fs,0,ks):=by
 cases c with
 | file i=>simp[kids] at hk
 | held f=>simp[kids] at hk
 | own es=>simp only[kids,Option.some.injEq] at hk;subst hk;rfl
 | dir id=>
  have h1:fs.gf id=(fs,true):=by unfold FS.gf;rw[aL (h id rfl)]
  simp only[kids,Option.some.injEq] at hk;subst hk;have e1:cQ ag fs (.dir id)=if (fs.gf id).2 then ((fs.gf id).1,0,(bR ag id).map iA) else ((fs.gf id).1,14,[]):=rfl;rw[e1,h1];rfl
theorem uq {ag:List Ob}{t:LT}{q:List ByteArray}{n:ByteArray}{c:LT}(h:t.at ag (q ++ [n])=some c):∃d ks,t.at ag q=some d/\kids ag d=some ks/\aS ks n=some c:=by
 rw[bH] at h;cases hd:t.at ag q with
 | none=>rw[hd] at h;simp at h
 | some d=>
  rw[hd,Option.bind_some,bw] at h;cases hk:kids ag d with
  | none=>rw[hk] at h;simp at h
  | some ks=>
   rw[hk,Option.bind_some] at h;cases hp:aS ks n with
   | none=>rw[hp] at h;simp at h
   | some x=>rw[hp,Option.bind_some,di] at h;cases h;exact⟨d,ks,rfl,hk,hp⟩
theorem DD {ag:List Ob}{t:LT}{fs:FS}:∀{r:List ByteArray} {c:LT},t.at ag r.reverse=some c->(∀x id,x <+: r.reverse->x≠r.reverse->t.at ag x=some (.dir id)->fs.kD id=true)->aO ag t fs r=(fs,0,c)
 | [],c,ha,hk=>by rw[List.reverse_nil,di] at ha;cases ha;rfl
 | n :: r,c,ha,hk=>by
  rw[List.reverse_cons] at ha hk
  obtain⟨d,ks,h1,h2,h3⟩:=uq ha
  have hne:∀x,x <+: r.reverse->x≠r.reverse ++ [n]:=fun x hx e=>by
   have:=hx.length_le
   rw[e] at this;simp at this;omega
  have ih:=DD h1 (fun x id hx Hu Sp=>hk x id (hx.trans (List.prefix_append _ _)) (hne x hx) Sp)
  rw[aO]
  simp only[ih]
  rw[ay (by decide),Bg h2 (fun id hd=>hk r.reverse id (List.prefix_append _ _) (hne _ (List.prefix_refl _)) (by rw[h1,hd]))]
  simp only
  rw[ay (by decide),h3]
theorem DF {ag:List Ob}{t:LT}{fs:FS}{r:List ByteArray}{c:LT}{ks:Kids}(ha:t.at ag r.reverse=some c)(hk:kids ag c=some ks)(h:gz ag t fs r.reverse):cA ag t fs r=(fs,0,ks):=by
 unfold cA;simp only[DD ha (fun x id hx _ Sp=>h x id hx Sp)];rw[ay (by decide)];exact Bg hk (fun id hd=>h _ id (List.prefix_refl _) (by rw[ha,hd]))
theorem vA {ag:List Ob}{fs:FS}{c:LT}(h:(cQ ag fs c).2.1=0):kids ag c=some (cQ ag fs c).2.2/\fs.Next (cQ ag fs c).1/\∀id,c=.dir id->(cQ ag fs c).1.kD id=true:=by
 cases c with
 | file i=>simp[cQ] at h
 | held f=>simp[cQ] at h
 | own es=>exact⟨rfl,FS.Next.refl _,fun id hd=>by cases hd⟩
 | dir id=>
  have e1:cQ ag fs (.dir id)=if (fs.gf id).2 then ((fs.gf id).1,0,(bR ag id).map iA) else ((fs.gf id).1,14,[]):=rfl;rw[e1] at h ⊢;rcases fs.Bc id with ⟨h1,h2,h3⟩ | ⟨h1,_⟩
  ·rw[aL h1]
   exact⟨rfl,h2,fun id' hd=>by cases hd;exact h3⟩
  ·rw[h1] at h;simp at h
theorem rB {ag:List Ob}{t:LT}{fs:FS}:∀{r:List ByteArray},(aO ag t fs r).2.1=0->t.at ag r.reverse=some (aO ag t fs r).2.2/\fs.Next (aO ag t fs r).1/\∀x id,x <+: r.reverse->x≠r.reverse->t.at ag x=some (.dir id)->(aO ag t fs r).1.kD id=true
 | [],_=>⟨di _ _,FS.Next.refl _,fun x id hx Hu=>absurd (by simpa using hx) Hu⟩
 | n :: r,h=>by
  rw[aO] at h ⊢
  by_cases h0:(aO ag t fs r).2.1≠0
  ·simp only[aL h0] at h;exact absurd h h0
  ·simp only[ay h0] at h ⊢
   obtain⟨i1,i2,i3⟩:=rB (Decidable.not_not.1 h0)
   by_cases hb:(cQ ag (aO ag t fs r).1 (aO ag t fs r).2.2).2.1≠0
   ·rw[aL hb] at h;exact absurd h hb
   ·rw[ay hb] at h ⊢
    obtain⟨k1,k2,k3⟩:=vA (Decidable.not_not.1 hb)
    cases hp:aS (cQ ag (aO ag t fs r).1 (aO ag t fs r).2.2).2.2 n with
    | none=>rw[hp] at h;simp at h
    | some c=>
     rw[hp] at h
     simp only
     refine⟨?_,i2.trans k2,fun x id hx Hu Sp=>?_⟩
     ·rw[List.reverse_cons,bH,i1,Option.bind_some,bw,k1,Option.bind_some,hp,Option.bind_some,di]
     ·rw[List.reverse_cons] at hx Hu
      rcases sW hx with hx | hx
      ·by_cases hxr:x=r.reverse
       ·subst hxr
        rw[i1] at Sp
        exact k3 id (Option.some.inj Sp)
       ·exact k2.2.2.2.2 id (i3 x id hx hxr Sp)
      ·exact absurd hx Hu
theorem rC {ag:List Ob}{t:LT}{fs:FS}{r:List ByteArray}(h:(cA ag t fs r).2.1=0):
  (∃d,t.at ag r.reverse=some d/\kids ag d=some (cA ag t fs r).2.2)/\fs.Next (cA ag t fs r).1/\gz ag t (cA ag t fs r).1 r.reverse:=by
 unfold cA at h ⊢;by_cases h0:(aO ag t fs r).2.1≠0
 ·simp only[aL h0] at h;exact absurd h h0
 ·simp only[ay h0] at h ⊢
  obtain⟨i1,i2,i3⟩:=rB (Decidable.not_not.1 h0);obtain⟨k1,k2,k3⟩:=vA h;refine⟨⟨_,i1,k1⟩,i2.trans k2,fun x id hx Sp=>?_⟩;by_cases hxr:x=r.reverse
  ·subst hxr
   rw[i1] at Sp;exact k3 id (Option.some.inj Sp)
  ·exact k2.2.2.2.2 id (i3 x id hx hxr Sp)
def qi (ag:List Ob)(t:LT)(q:List ByteArray):List aK:=(((t.at ag q).bind (kids ag)).getD []).map cK
theorem OM {es:List aK}{n:ByteArray}(h:∀e ∈ es,e.1=n->e.2.2=0):jv es n=es:=by
 unfold jv;conv=>rhs;rw[<-List.map_id es]
 refine List.map_congr_left fun e he=>?_;show (if e.1=n then _ else _)=e;split
 ·next hn=>have:=h e he hn;obtain⟨a,b,c⟩:=e;simp only at this;subst this;rfl
 ·rfl
theorem mR {ks:Kids}(hr:aU ks){n:ByteArray}{c:LT}(hp:aS ks n=some c){x:ByteArray×LT}(hx:x ∈ ks)(hn:x.1=n):x.2=c:=by
 induction ks with
 | nil=>simp at hx
 | cons y r ih=>
  unfold aS at hp;by_cases hy:y.1=n
  ·rw[List.find?_cons_of_pos (by simpa using hy)] at hp
   rcases List.mem_cons.1 hx with rfl | hx
   ·simpa using hp
   ·have:=(List.pairwise_cons.1 hr).1 x hx
    rw[hy,hn,jd] at this;omega
  ·rw[List.find?_cons_of_neg (by simpa using hy)] at hp
   rcases List.mem_cons.1 hx with rfl | hx
   ·exact absurd hn hy
   ·exact ih hr.tail hp hx
theorem jw {ag:List Ob}{t:LT}{ft:FT}{fs:FS}(hS:Sound ag)(hF:Flat ag t ft){n:Nat}(cz:bu ag n t){p:List ByteArray}{d:LT}{ks:Kids}(ha:t.at ag p=some d)(hk:kids ag d=some ks)(hw:gz ag t fs p):gh ag fs ft (qi ag t) p:=by
 have dir:∀q,q <+: p->∃c kq,t.at ag q=some c/\kids ag c=some kq:=fun q hq=>by
  obtain⟨s,rfl⟩:=hq;cases s with
  | nil=>rw[List.append_nil] at ha;exact⟨d,ks,ha,hk⟩
  | cons m s=>
   rw[show q++m :: s=(q ++ [m])++s by simp,bH] at ha;cases hx:t.at ag (q ++ [m]) with
   | none=>rw[hx] at ha;simp at ha
   | some y=>obtain⟨c,kq,h1,h2,_⟩:=uq hx;exact⟨c,kq,h1,h2⟩
 refine⟨fun q hq=>?_,fun q hq es he=>?_,fun q m hq hs=>?_,fun hs=>?_⟩
 ·obtain⟨c,kq,h1,h2⟩:=dir q hq
  have:=DF (r:=q.reverse) (by rw[List.reverse_reverse];exact h1) h2 (by rw[List.reverse_reverse];exact hw.pre hq)
  rw[lY hS hF cz fs q.reverse,this];unfold qi;rw[h1,Option.bind_some,h2];rfl
 ·have:=hF.od q
  rw[he] at this;unfold qi;cases hc:t.at ag q with
  | none=>rw[hc] at this;simp[vt] at this
  | some c=>
   rw[hc] at this;cases c with
   | own es'=>simp only[vt,Option.some.injEq] at this;rw[this];rfl
   | file i=>simp[vt] at this
   | held f=>simp[vt] at this
   | dir i=>simp[vt] at this
 ·rw[hF.od] at hs
  cases hc:t.at ag (q ++ [m]) with
  | none=>rw[hc] at hs;simp[vt] at hs
  | some c=>
   rw[hc] at hs;obtain⟨es',rfl⟩:∃es',c=.own es':=by cases c <;> first | exact⟨_,rfl⟩ | (simp[vt] at hs)
   obtain⟨c',kq,h1,h2,h3⟩:=uq hc;have hc':=(dN hS _ cz h1).2.1;have mS:=oN h3;obtain⟨es'',rfl⟩:∃es'',c'=.own es'':=by
    cases c' with
    | own es=>exact⟨es,rfl⟩
    | file i=>simp[kids] at h2
    | held f=>simp[kids] at h2
    | dir i=>
     simp only[kids,Option.some.injEq] at h2;subst h2;obtain⟨e,_,he⟩:=List.mem_map.1 mS
     have:=congrArg Prod.snd he
     unfold iA ltOf at this;by_cases h2:e.2.1=2 <;> simp[h2] at this
   simp only[kids,Option.some.injEq] at h2;subst h2;refine⟨by rw[hF.od,h1];rfl,?_⟩;unfold qi;rw[h1];refine OM fun e he hn=>?_
   obtain⟨x,hx,rfl⟩:=List.mem_map.1 he;have hr:=(cr hS hc' rfl).1
   have:=mR hr h3 hx hn
   show x.2.id=0;rw[this];rfl
 ·rw[hF.od,di] at hs
  rw[hF.root];cases t <;> first | rfl | (simp[vt] at hs)
theorem Hv {ag:List Ob}{t:LT}{ft oo:FT}{fs:FS}(hS:Sound ag)(hF:Flat ag t ft){n:Nat}(cz:bu ag n t){q:List ByteArray}{d:LT}{ks:Kids}(ha:t.at ag q=some d)(hk:kids ag d=some ks)(f:Kids->Kids)
  (bB:oo.root=0)(Q5:∀x,¬q <+: x->oo.od x=if x <+: q then some (zK (qi ag t) q x) else ft.od x)(Q6:∀x,¬q <+: x->oo.of x=ft.of x)
  (hq:oo.od q=some ((f ks).map cK))(hq':oo.of q=none)
  (hb:∀m r,oo.od (q++m :: r)=vt ((aS (f ks) m).bind fun c=>c.at ag r))(hb':∀m r,oo.of (q++m :: r)=KF ((aS (f ks) m).bind fun c=>c.at ag r)):
  Flat ag (dK ag f q t) oo:=by
 obtain⟨m1,m2⟩:=yl ag f q t d ks ha hk;have key:∀x,oo.od x=vt ((dK ag f q t).at ag x)/\oo.of x=KF ((dK ag f q t).at ag x):=by
  intro x;by_cases Vn:q <+: x
  ·obtain⟨s,rfl⟩:=Vn
   cases s with
   | nil=>rw[List.append_nil,m2,hq,hq'];exact⟨rfl,rfl⟩
   | cons m r=>rw[m1,hb,hb'];exact⟨rfl,rfl⟩
  ·rw[Q5 x Vn,Q6 x Vn]
   by_cases Zb:x <+: q
   ·rw[aL Zb]
    obtain⟨m,hm,KH⟩:=j6 Zb (fun e=>Vn (e ▸ List.prefix_refl _));obtain⟨r,hr⟩:=KH;have CW:q=x++m :: r:=by rw[<-hr];simp
    have ha':=ha;rw[CW] at ha';obtain⟨dq,kq,h1,h2,h3⟩:=lX ag f x m r t d ha';rw[<-CW] at h3;rw[h3];have agi:dq.kind=2:=by cases dq <;> first | rfl | (simp[kids] at h2)
    refine⟨?_,?_⟩
    ·show some _=some _
     congr 1
     unfold zK qi;rw[hm,h1,Option.bind_some,h2,Option.getD_some];show List.map (fun e:aK=>if e.1=m then (e.1,e.2.1,(0:Int)) else e) (List.map cK kq)=_;rw[List.map_map,List.map_map];refine List.map_congr_left fun y hy=>?_
     show (if y.1=m then (y.1,y.2.kind,(0:Int)) else cK y)=cK (if y.1=m then (y.1,dK ag f r y.2) else y);by_cases OO:y.1=m
     ·rw[aL OO,aL OO]
      have wA:y.2.kind=2:=by
       rw[bH,h1,Option.bind_some,bw,h2,Option.bind_some] at ha';cases hc:aS kq m with
       | none=>rw[hc] at ha';simp at ha'
       | some c=>
        rw[hc,Option.bind_some] at ha';have hdq:=(dN hS _ cz h1).2.1;rw[mR (cr hS hdq h2).1 hc hy OO];cases r with
        | nil=>rw[di] at ha';obtain rfl:=Option.some.inj ha';cases c <;> first | rfl | (simp[kids] at hk)
        | cons z r=>
         rw[bw] at ha';cases c <;> first | rfl | (simp[kids] at ha')
      rw[wA];cases r <;> rfl
     ·rw[ay OO,ay OO]
    ·rw[hF.of x,h1]
     cases dq <;> first | rfl | (simp[kids] at h2)
   ·rw[ay Zb,jJ ag f q x t d ha Zb Vn]
    exact⟨hF.od x,hF.of x⟩
 refine⟨?_,?_,fun x=>(key x).1,fun x=>(key x).2⟩
 ·cases q <;> rfl
 ·rw[bB];cases q <;> rfl
theorem mB (ks:Kids):ks.map cK=yj (fun x=>(x.2.kind,x.2.id)) ks:=rfl
theorem Sq {α β:Type}(f:ByteArray×α->β)(es:List (ByteArray×α))(n:ByteArray)(c:α):yj f (eH es n c)=eH (yj f es) n (f (n,c)):=by
 unfold eH;rw[Bf,Be];unfold yj;split
 ·rw[List.map_set]
 ·simp[List.map_take,List.map_drop]
theorem VZ (ks:Kids)(n:ByteArray)(c:LT):(eH ks n c).map cK=eH (ks.map cK) n (c.kind,c.id):=by rw[mB,Sq,<-mB]
theorem Sr (ks:Kids)(n:ByteArray):(cE ks n).map cK=cE (ks.map cK) n:=by rw[mB,OJ,<-mB]
theorem kJ (ks:Kids)(n:ByteArray):aW (ks.map cK) n=aW ks n:=by rw[mB,Bf]
theorem sX {ks:Kids}(h:aU ks)(n:ByteArray)(c:LT)(m:ByteArray):aS (eH ks n c) m=if m=n then some c else aS ks m:=Hs h m
theorem jK {ks:Kids}(h:aU ks){n:ByteArray}(ht:aW ks n=true)(m:ByteArray):aS (cE ks n) m=if m=n then none else aS ks m:=DC h ht m
theorem dR {ks:Kids}(h:aU ks)(n:ByteArray):(aS ks n).isSome=aW ks n:=by
 rw[KE,oK h];cases ht:aW ks n with
 | false=>simp
 | true=>
  have:=qx ht
  simp[kO this]
theorem nv {ag:List Ob}{t d:LT}{q:List ByteArray}{ks:Kids}(ha:t.at ag q=some d)(hk:kids ag d=some ks):qi ag t q=ks.map cK:=by
 unfold qi;rw[ha,Option.bind_some,hk];rfl
theorem pN {q x:List ByteArray}{n:ByteArray}(h:q ++ [n] <+: x):q <+: x:=(List.prefix_append q [n]).trans h
theorem Hw {ag:List Ob}{t:LT}{ft oo:FT}{fs:FS}(hS:Sound ag)(hF:Flat ag t ft){k:Nat}(cz:bu ag k t){q:List ByteArray}{d:LT}{ks:Kids}(ha:t.at ag q=some d)(hk:kids ag d=some ks)(n:ByteArray)(c:LT)
  (bB:oo.root=0)(Q5:∀x,¬(q ++ [n]) <+: x->oo.od x=if x=q then some (eH (ks.map cK) n (c.kind,c.id)) else if x <+: q then some (zK (qi ag t) q x) else ft.od x)
  (Q6:∀x,¬(q ++ [n]) <+: x->oo.of x=ft.of x)(hb:∀r,oo.od (q++n :: r)=vt (c.at ag r))(hb':∀r,oo.of (q++n :: r)=KF (c.at ag r)):
  Flat ag (dK ag (fun ks=>eH ks n c) q t) oo:=by
 have hr:=(cr hS (dN hS _ cz ha).2.1 hk).1;have Rx:¬(q ++ [n]) <+: q:=fun h=>by have:=h.length_le;simp at this;omega
 have Zc:ft.of q=none:=by rw[hF.of,ha];cases d <;> first | rfl | (simp[kids] at hk)
 refine Hv hS (fs:=fs) hF cz ha hk _ bB (fun x hx=>?_) (fun x hx=>Q6 x (fun h=>hx (pN h))) ?_ ?_ (fun m r=>?_) (fun m r=>?_)
 ·rw[Q5 x (fun h=>hx (pN h)),ay (fun e:x=q=>hx (by rw[e];exact List.prefix_refl _))]
 ·rw[Q5 q Rx,aL rfl,VZ]
 ·rw[Q6 q Rx,Zc]
 ·rw[sX hr]
  by_cases hm:m=n
  ·subst hm;rw[aL rfl,Option.bind_some];exact hb r
  ·have hx:¬(q ++ [n]) <+: (q++m :: r):=fun h=>by
    rw[List.prefix_append_right_inj,List.cons_prefix_cons] at h;exact hm h.1.symm
   rw[ay hm,Q5 _ hx,ay (by simp),ay (fun h=>by have:=h.length_le;simp at this;omega),hF.od,bH,ha,Option.bind_some,bw,hk,Option.bind_some]
 ·rw[sX hr]
  by_cases hm:m=n
  ·subst hm;rw[aL rfl,Option.bind_some];exact hb' r
  ·have hx:¬(q ++ [n]) <+: (q++m :: r):=fun h=>by
    rw[List.prefix_append_right_inj,List.cons_prefix_cons] at h;exact hm h.1.symm
   rw[ay hm,Q6 _ hx,hF.of,bH,ha,Option.bind_some,bw,hk,Option.bind_some]
theorem DG {ag:List Ob}{t:LT}{ft oo:FT}{fs:FS}(hS:Sound ag)(hF:Flat ag t ft){k:Nat}(cz:bu ag k t){q:List ByteArray}{d:LT}{ks:Kids}(ha:t.at ag q=some d)(hk:kids ag d=some ks)(n:ByteArray)(ht:aW ks n=true)
  (bB:oo.root=0)(Q5:∀x,¬(q ++ [n]) <+: x->oo.od x=if x=q then some (cE (ks.map cK) n) else if x <+: q then some (zK (qi ag t) q x) else ft.od x)
  (Q6:∀x,¬(q ++ [n]) <+: x->oo.of x=ft.of x)(hb:∀r,oo.od (q++n :: r)=none)(hb':∀r,oo.of (q++n :: r)=none):
  Flat ag (dK ag (fun ks=>cE ks n) q t) oo:=by
 have hr:=(cr hS (dN hS _ cz ha).2.1 hk).1;have Rx:¬(q ++ [n]) <+: q:=fun h=>by have:=h.length_le;simp at this;omega
 have Zc:ft.of q=none:=by rw[hF.of,ha];cases d <;> first | rfl | (simp[kids] at hk)
 refine Hv hS (fs:=fs) hF cz ha hk _ bB (fun x hx=>?_) (fun x hx=>Q6 x (fun h=>hx (pN h))) ?_ ?_ (fun m r=>?_) (fun m r=>?_)
 ·rw[Q5 x (fun h=>hx (pN h)),ay (fun e:x=q=>hx (by rw[e];exact List.prefix_refl _))]
 ·rw[Q5 q Rx,aL rfl,Sr]
 ·rw[Q6 q Rx,Zc]
 ·rw[jK hr ht]
  by_cases hm:m=n
  ·subst hm;rw[aL rfl];exact hb r
  ·have hx:¬(q ++ [n]) <+: (q++m :: r):=fun h=>by
    rw[List.prefix_append_right_inj,List.cons_prefix_cons] at h;exact hm h.1.symm
   rw[ay hm,Q5 _ hx,ay (by simp),ay (fun h=>by have:=h.length_le;simp at this;omega),hF.od,bH,ha,Option.bind_some,bw,hk,Option.bind_some]
 ·rw[jK hr ht]
  by_cases hm:m=n
  ·subst hm;rw[aL rfl];exact hb' r
  ·have hx:¬(q ++ [n]) <+: (q++m :: r):=fun h=>by
    rw[List.prefix_append_right_inj,List.cons_prefix_cons] at h;exact hm h.1.symm
   rw[ay hm,Q6 _ hx,hF.of,bH,ha,Option.bind_some,bw,hk,Option.bind_some]
theorem Hx {α:Type}{es:List (ByteArray×α)}{n:ByteArray}{c:α}{x:ByteArray×α}(h:x ∈ eH es n c):x=(n,c)\/x ∈ es:=by
 unfold eH at h;split at h
 ·rcases List.mem_or_eq_of_mem_set h with h | h
  ·exact .inr h
  ·exact .inl h
 ·rcases List.mem_append.1 h with h | h
  ·exact .inr (List.mem_of_mem_take h)
  ·rcases List.mem_cons.1 h with h | h
   ·exact .inl h
   ·exact .inr (List.mem_of_mem_drop h)
theorem DI {α:Type}{es:List (ByteArray×α)}{n:ByteArray}{x:ByteArray×α}(h:x ∈ cE es n):x ∈ es:=List.mem_of_mem_eraseIdx h
theorem vB {ag:List Ob}{n:Nat}{es:Kids}(hr:aU es)(hl:es.length<=16)(h:∀x ∈ es,aF x.1=true/\∃m,n=m+1/\bu ag m x.2):bu ag n (.own es):=by
 cases n with
 | zero=>
  rw[bu];cases es with
  | nil=>rfl
  | cons x r=>obtain⟨_,m,hm,_⟩:=h x (List.mem_cons_self ..);omega
 | succ k=>
  rw[bu];refine⟨hr,hl,fun x hx=>?_⟩;obtain⟨hv,m,hm,hx⟩:=h x hx;obtain rfl:k=m:=by omega
  exact⟨hv,hx⟩
theorem KI {ks:Kids}(h:aU ks)(n:ByteArray)(g:LT->LT):aU (ks.map fun x=>if x.1=n then (x.1,g x.2) else x):=by
 unfold aU at h ⊢;rw[List.pairwise_map];refine h.imp fun {a b} hab=>?_
 have e:∀x:ByteArray×LT,(if x.1=n then (x.1,g x.2) else x).1=x.1:=fun x=>by split <;> rfl
 rw[e,e];exact hab
theorem KJ {ag:List Ob}(hS:Sound ag)(f:Kids->Kids):∀(q:List ByteArray) {n:Nat} {t d:LT} {ks:Kids},bu ag n t->t.at ag q=some d->kids ag d=some ks->bu ag (n-q.length) (.own (f ks))->bu ag n (dK ag f q t)
 | [],n,t,d,ks,cz,ha,hk,h=>by
  rw[di] at ha;cases ha
  rw[dK,hk];simpa using h
 | m :: q,n,t,d,ks,cz,ha,hk,h=>by
  rw[bw] at ha
  cases jQ:kids ag t with
  | none=>rw[jQ] at ha;simp at ha
  | some es=>
   rw[jQ,Option.bind_some] at ha
   cases hc:aS es m with
   | none=>rw[hc] at ha;simp at ha
   | some c=>
    rw[hc,Option.bind_some] at ha
    obtain⟨h1,h2,h3⟩:=cr hS cz jQ
    rw[dK,jQ,Option.getD_some]
    refine vB (KI h1 m _) (by simpa using h2) (fun x hx=>?_)
    obtain⟨y,hy,rfl⟩:=List.mem_map.1 hx
    obtain⟨hv,j,rfl,hj⟩:=h3 y hy
    by_cases OO:y.1=m
    ·rw[aL OO]
     refine⟨hv,j,rfl,?_⟩
     have hyc:=mR h1 hc hy OO
     rw[hyc] at hj ⊢
     exact KJ hS f q hj ha hk (by rw[List.length_cons,show j+1-(q.length+1)=j-q.length by omega] at h;exact h)
    ·rw[ay OO];exact⟨hv,j,rfl,hj⟩
theorem Hy {ag:List Ob}(f:Kids->Kids){q:List ByteArray}{t d:LT}{ks:Kids}(ha:t.at ag q=some d)(hk:kids ag d=some ks){x:List ByteArray}{b:Nat}(h:(dK ag f q t).at ag x=some (.held b)):
  (∃m r,x=q++m :: r/\((aS (f ks) m).bind fun c=>c.at ag r)=some (.held b))\/(¬q <+: x/\t.at ag x=some (.held b)):=by
 obtain⟨m1,m2⟩:=yl ag f q t d ks ha hk;by_cases Vn:q <+: x
 ·obtain⟨s,rfl⟩:=Vn
  cases s with
  | nil=>rw[List.append_nil,m2] at h;cases h
  | cons m r=>rw[m1] at h;exact .inl ⟨m,r,rfl,h⟩
 ·refine .inr ⟨Vn,?_⟩
  by_cases Zb:x <+: q
  ·obtain⟨m,hm,KH⟩:=j6 Zb (fun e=>Vn (e ▸ List.prefix_refl _))
   obtain⟨r,hr⟩:=KH;have CW:q=x++m :: r:=by rw[<-hr];simp
   rw[CW] at ha h;obtain⟨dq,kq,h1,h2,h3⟩:=lX ag f x m r t d ha;rw[h3] at h;cases h
  ·rw[jJ ag f q x t d ha Zb Vn] at h;exact h
def mU (ag:List Ob)(fs:FS)(ft:FT)(q:List ByteArray)(n:ByteArray)(v:Int×Int):FT:=
 let Vo:=cT ag fs ft q.reverse
 let es:=(Vo.od q).getD []
 if aW es n then { root:=Vo.root,od:=upd (upd Vo.od q (some (eH es n v))) (q ++ [n]) none,of:=upd Vo.of (q ++ [n]) none }
 else { Vo with od:=upd Vo.od q (some (eH es n v)) }
def jU (ag:List Ob)(fs:FS)(ft:FT)(q:List ByteArray)(n:ByteArray):FT:=
 let Vo:=cT ag fs ft q.reverse
 { Vo with od:=upd Vo.od q (some (cE ((Vo.od q).getD []) n)) }
def wR (ft:FT)(p:List ByteArray):FT:={ ft with od:=upd ft.od p none,of:=upd ft.of p none }
def ez {β:Type}(f:List ByteArray->Option β)(src dst:List ByteArray):List ByteArray->Option β:=fun x=>if dst <+: x then f (src++x.drop dst.length) else if src <+: x then none else f x
def Zd (ft:FT)(src dst:List ByteArray):FT:={ ft with od:=ez ft.od src dst,of:=ez ft.of src dst }
theorem Nl (q:List ByteArray)(n:ByteArray):q ++ [n]≠q:=fun e=>by have:=congrArg List.length e;simp at this
theorem sY {ag:List Ob}{fs:FS}{ft:FT}{K:List ByteArray->List aK}{q:List ByteArray}(hw:gh ag fs ft K q):
  (cT ag fs ft q.reverse).root=0/\(cT ag fs ft q.reverse).of=ft.of/\(cT ag fs ft q.reverse).od q=some (K q)/\∀x,x≠q->(cT ag fs ft q.reverse).od x=if x <+: q then some (zK K q x) else ft.od x:=by
 obtain⟨h1,h2,h3⟩:=vz (r:=q.reverse) (by rw[List.reverse_reverse];exact hw);rw[List.reverse_reverse] at h3;refine⟨h1,h2,?_,fun x _=>h3 x⟩;rw[h3,aL (List.prefix_refl _)];unfold zK;rw[List.getElem?_eq_none (bA _)]
theorem ym {ag:List Ob}{fs:FS}{ft:FT}{K:List ByteArray->List aK}{q:List ByteArray}(hw:gh ag fs ft K q)(n:ByteArray)(v:Int×Int):
  (mU ag fs ft q n v).root=0/\(∀x,x≠q ++ [n]->(mU ag fs ft q n v).od x=if x=q then some (eH (K q) n v) else if x <+: q then some (zK K q x) else ft.od x)/\(∀x,x≠q ++ [n]->(mU ag fs ft q n v).of x=ft.of x)/\
  (mU ag fs ft q n v).od (q ++ [n])=(if aW (K q) n then none else ft.od (q ++ [n]))/\(mU ag fs ft q n v).of (q ++ [n])=(if aW (K q) n then none else ft.of (q ++ [n])):=by
 obtain⟨h1,h2,h3,h4⟩:=sY hw;have KL:¬(q ++ [n]) <+: q:=fun h=>by have:=h.length_le;simp at this;omega
 unfold mU;simp only[h3,Option.getD_some];by_cases ht:aW (K q) n=true
 ·rw[aL ht,aL ht,aL ht]
  refine⟨h1,fun x hx=>?_,fun x hx=>?_,upd_same _ _ _,upd_same _ _ _⟩
  ·show upd (upd _ _ _) _ _ x=_
   rw[aJ hx];by_cases hq:x=q
   ·subst hq;rw[upd_same,aL rfl]
   ·rw[aJ hq,ay hq,h4 x hq]
  ·show upd _ _ _ x=_
   rw[aJ hx,h2]
 ·rw[ay ht,ay ht,ay ht]
  refine⟨h1,fun x hx=>?_,fun x hx=>by show (cT ag fs ft q.reverse).of x=_;rw[h2],?_,by show (cT ag fs ft q.reverse).of _=_;rw[h2]⟩
  ·show upd _ _ _ x=_
   by_cases hq:x=q
   ·subst hq;rw[upd_same,aL rfl]
   ·rw[aJ hq,ay hq,h4 x hq]
  ·show upd _ _ _ (q ++ [n])=_
   rw[aJ (Nl q n),h4 _ (Nl q n),ay KL]
theorem vC {ag:List Ob}{fs:FS}{ft:FT}{K:List ByteArray->List aK}{q:List ByteArray}(hw:gh ag fs ft K q)(n:ByteArray):
  (jU ag fs ft q n).root=0/\(∀x,(jU ag fs ft q n).od x=if x=q then some (cE (K q) n) else if x <+: q then some (zK K q x) else ft.od x)/\(jU ag fs ft q n).of=ft.of:=by
 obtain⟨h1,h2,h3,h4⟩:=sY hw;unfold jU;simp only[h3,Option.getD_some];refine⟨h1,fun x=>?_,h2⟩;by_cases hq:x=q
 ·subst hq;rw[upd_same,aL rfl]
 ·rw[aJ hq,ay hq,h4 x hq]
theorem gh.congr {ag:List Ob}{fs:FS}{ft oo:FT}{K:List ByteArray->List aK}{q:List ByteArray}(h:gh ag fs ft K q)(hr:oo.root=ft.root)(ho:∀x,x <+: q->oo.od x=ft.od x):gh ag fs oo K q:=by
 refine⟨fun x hx=>?_,fun x hx es he=>h.own x hx es (by rw[<-ho x hx];exact he),fun x m hx hs=>?_,fun hs=>?_⟩
 ·rw[(vv ag fs hr x.reverse (fun y hy=>ho y (by rw[List.reverse_reverse] at hy;exact hy.trans hx))).2]
  exact h.look x hx
 ·rw[ho x ((List.prefix_append x [m]).trans hx)]
  exact h.up x m hx (by rw[<-ho _ hx];exact hs)
 ·rw[hr];exact h.root (by rw[<-ho [] (List.nil_prefix)];exact hs)
section
variable {ag:List Ob}{t:LT}{ft:FT}{fs:FS}{q:List ByteArray}{d:LT}{ks:Kids}{n:ByteArray}
theorem sZ (hF:Flat ag t ft)(ha:t.at ag q=some d)(hk:kids ag d=some ks)(hp:aS ks n=none)(r:List ByteArray):ft.od (q++n :: r)=none/\ft.of (q++n :: r)=none:=by
 have:t.at ag (q++n :: r)=none:=by rw[bH,ha,Option.bind_some,bw,hk,Option.bind_some,hp];rfl
 rw[hF.od,hF.of,this];exact⟨rfl,rfl⟩
theorem rD {p:List ByteArray}{c:LT}(ha:t.at ag p=some c)(hc:kids ag c=none\/kids ag c=some [])(m:ByteArray)(r:List ByteArray):t.at ag (p++m :: r)=none:=by
 rw[bH,ha,Option.bind_some,bw];rcases hc with h | h
 ·rw[h];rfl
 ·rw[h];rfl
theorem KM (hS:Sound ag)(hF:Flat ag t ft){k:Nat}(cz:bu ag k t)(ha:t.at ag q=some d)(hk:kids ag d=some ks)(hw:gz ag t fs q)(hp:aS ks n=none):
  Flat ag (dK ag (fun ks=>eH ks n (.own [])) q t) { mU ag fs ft q n (2,0) with od:=upd (mU ag fs ft q n (2,0)).od (q ++ [n]) (some []) }:=by
 have W:=jw hS hF cz ha hk hw;have hr:=(cr hS (dN hS _ cz ha).2.1 hk).1;have ht:aW (qi ag t q) n=false:=by rw[nv ha hk,kJ,<-dR hr,hp];rfl
 obtain⟨h1,h2,h3,h4,h5⟩:=ym W n (2,0);rw[ht,ay (by decide)] at h5;refine Hw hS (fs:=fs) hF cz ha hk n (.own []) h1 (fun x hx=>?_) (fun x hx=>?_) (fun r=>?_) (fun r=>?_)
 ·have rA:x≠q ++ [n]:=fun e=>hx (e ▸ List.prefix_refl _)
  show upd _ _ _ x=_;rw[aJ rA,h2 x rA,nv ha hk];rfl
 ·exact h3 x (fun e=>hx (e ▸ List.prefix_refl _))
 ·show upd _ _ _ _=_
  cases r with
  | nil=>rw[upd_same,di];rfl
  | cons m r=>
   have hne:q++n :: m :: r≠q ++ [n]:=by simp
   rw[aJ hne,h2 _ hne,ay (by simp),ay (fun h=>by have:=h.length_le;simp at this;omega),(sZ hF ha hk hp _).1,bw];rfl
 ·show (mU ag fs ft q n (2,0)).of _=_
  cases r with
  | nil=>rw[h5,(sZ hF ha hk hp []).2,di];rfl
  | cons m r=>rw[h3 _ (by simp),(sZ hF ha hk hp _).2,bw];rfl
theorem Hz (hS:Sound ag)(hF:Flat ag t ft){k:Nat}(cz:bu ag k t)(ha:t.at ag q=some d)(hk:kids ag d=some ks)(hw:gz ag t fs q){c:LT}(hp:aS ks n=some c)(hc:kids ag c=none\/kids ag c=some []):
  Flat ag (dK ag (fun ks=>cE ks n) q t) (wR (jU ag fs ft q n) (q ++ [n])):=by
 have W:=jw hS hF cz ha hk hw;have hr:=(cr hS (dN hS _ cz ha).2.1 hk).1;have ht:aW ks n=true:=by rw[<-dR hr,hp];rfl
 obtain⟨h1,h2,h3⟩:=vC W n;have hat:t.at ag (q ++ [n])=some c:=by rw[bH,ha,Option.bind_some,bw,hk,Option.bind_some,hp,Option.bind_some,di]
 refine DG hS (fs:=fs) hF cz ha hk n ht h1 (fun x hx=>?_) (fun x hx=>?_) (fun r=>?_) (fun r=>?_)
 ·show upd _ _ _ x=_
  rw[aJ (fun e:x=q ++ [n]=>hx (by rw[e];exact List.prefix_refl _)),h2,nv ha hk]
 ·show upd _ _ _ x=_
  rw[aJ (fun e:x=q ++ [n]=>hx (by rw[e];exact List.prefix_refl _)),h3]
 ·show upd _ _ _ _=_
  cases r with
  | nil=>rw[upd_same]
  | cons m r=>
   rw[aJ (by simp),h2,ay (by simp),ay (fun h=>by have:=h.length_le;simp at this;omega),hF.od,show q++n :: m :: r=(q ++ [n])++m :: r by simp,rD hat hc];rfl
 ·show upd _ _ _ _=_
  cases r with
  | nil=>rw[upd_same]
  | cons m r=>
   rw[aJ (by simp),h3,hF.of,show q++n :: m :: r=(q ++ [n])++m :: r by simp,rD hat hc];rfl
end
theorem Bh {ag:List Ob}{t:LT}{qf qt:List ByteArray}{nf:ByteArray}{df dt:LT}{kf kt:Kids}(hr:aU kf)(ha:t.at ag qf=some df)(hk:kids ag df=some kf)(ht:aW kf nf=true)(hb:t.at ag qt=some dt)(jQ:kids ag dt=some kt)(OP:¬(qf ++ [nf]) <+: qt):
  ∃d1 k1,(dK ag (fun ks=>cE ks nf) qf t).at ag qt=some d1/\kids ag d1=some k1/\∀id,d1=.dir id->dt=.dir id:=by
 obtain⟨m1,m2⟩:=yl ag (fun ks=>cE ks nf) qf t df kf ha hk;by_cases h:qf <+: qt
 ·obtain⟨s,rfl⟩:=h
  cases s with
  | nil=>rw[List.append_nil] at hb ⊢;exact⟨_,_,m2,rfl,fun id e=>by cases e⟩
  | cons m r=>
   have hm:m≠nf:=fun e=>OP (by rw[e];exact⟨r,by simp⟩);rw[m1,jK hr ht,ay hm];rw[bH,ha,Option.bind_some,bw,hk,Option.bind_some] at hb;exact⟨dt,kt,hb,jQ,fun id e=>e⟩
 ·by_cases h2:qt <+: qf
  ·obtain⟨m,hm,KH⟩:=j6 h2 (fun e=>h (e ▸ List.prefix_refl _))
   obtain⟨r,CW⟩:=KH;have CW:qf=qt++m :: r:=by rw[<-CW];simp
   rw[CW] at ha ⊢;obtain⟨dq,kq,h1,h2,h3⟩:=lX ag (fun ks=>cE ks nf) qt m r t df ha;exact⟨_,_,h3,rfl,fun id e=>by cases e⟩
  ·rw[jJ ag _ qf qt t df ha h2 h]
   exact⟨dt,kt,hb,jQ,fun id e=>e⟩
theorem H6 {ag:List Ob}{t:LT}{qf:List ByteArray}{nf:ByteArray}{df:LT}{kf:Kids}(hr:aU kf)(ha:t.at ag qf=some df)(hk:kids ag df=some kf)(ht:aW kf nf=true){x:List ByteArray}{id:Int}(h:(dK ag (fun ks=>cE ks nf) qf t).at ag x=some (.dir id)):t.at ag x=some (.dir id):=by
 obtain⟨m1,m2⟩:=yl ag (fun ks=>cE ks nf) qf t df kf ha hk;by_cases hx:qf <+: x
 ·obtain⟨s,rfl⟩:=hx
  cases s with
  | nil=>rw[List.append_nil,m2] at h;cases h
  | cons m r=>
   rw[m1,jK hr ht] at h;by_cases hm:m=nf
   ·rw[aL hm] at h;cases h
   ·rw[ay hm] at h
    rw[bH,ha,Option.bind_some,bw,hk,Option.bind_some];exact h
 ·by_cases h2:x <+: qf
  ·obtain⟨m,hm,KH⟩:=j6 h2 (fun e=>hx (e ▸ List.prefix_refl _))
   obtain⟨r,CW⟩:=KH;have CW:qf=x++m :: r:=by rw[<-CW];simp
   rw[CW] at ha h;obtain⟨dq,kq,h1,h2,h3⟩:=lX ag (fun ks=>cE ks nf) x m r t df ha;rw[h3] at h;cases h
  ·rw[jJ ag _ qf x t df ha h2 hx] at h;exact h
theorem wS {ag:List Ob}(hS:Sound ag){k:Nat}{t:LT}(cz:bu ag k t){q:List ByteArray}{d:LT}{ks:Kids}(ha:t.at ag q=some d)(hk:kids ag d=some ks)(n:ByteArray):bu ag k (dK ag (fun ks=>cE ks n) q t):=by
 obtain⟨h1,h2,h3⟩:=cr hS (dN hS _ cz ha).2.1 hk;refine KJ hS _ q cz ha hk (vB ?_ ?_ (fun x hx=>h3 x (DI hx)))
 ·unfold cE;exact List.Pairwise.sublist (List.eraseIdx_sublist _ _) h1
 ·unfold cE;exact eU (List.length_eraseIdx_le _ _) h2
def Ze (ft:FT)(p:List ByteArray):FT:=⟨ft.root,fun x=>if p <+: x then none else ft.od x,fun x=>if p <+: x then none else ft.of x⟩
theorem wT (ft:FT)(p x:List ByteArray):(Ze ft p).od x=if p <+: x then none else ft.od x:=rfl
theorem Au (ft:FT)(p x:List ByteArray):(Ze ft p).of x=if p <+: x then none else ft.of x:=rfl
theorem H7 {ag:List Ob}{t:LT}{ft:FT}{fs:FS}(hS:Sound ag)(hF:Flat ag t ft){k:Nat}(cz:bu ag k t){qf qt:List ByteArray}{nf nt:ByteArray}{df dt c:LT}{kf kt:Kids}
  (ha:t.at ag qf=some df)(hk:kids ag df=some kf)(hp:aS kf nf=some c)(hb:t.at ag qt=some dt)(jQ:kids ag dt=some kt)(Q7:gz ag t fs qf)(hwt:gz ag t fs qt)
  (OP:¬(qf ++ [nf]) <+: (qt ++ [nt]))(hnt:¬(qt ++ [nt]) <+: (qf ++ [nf])):
  ∃d1 k1,(dK ag (fun ks=>cE ks nf) qf t).at ag qt=some d1/\kids ag d1=some k1/\
   Flat ag (dK ag (fun ks=>eH ks nt c) qt (dK ag (fun ks=>cE ks nf) qf t)) (Zd (mU ag fs (jU ag fs ft qf nf) qt nt (c.kind,c.id)) (qf ++ [nf]) (qt ++ [nt]))/\gh ag fs (jU ag fs ft qf nf) (qi ag (dK ag (fun ks=>cE ks nf) qf t)) qt:=by
 have hr:=(cr hS (dN hS _ cz ha).2.1 hk).1;have ht:aW kf nf=true:=by rw[<-dR hr,hp];rfl
 have Nn:¬(qf ++ [nf]) <+: qt:=fun h=>OP (h.trans (List.prefix_append _ _));have z7:=wS hS cz ha hk nf;obtain⟨d1,k1,e1,e2,e3⟩:=Bh hr ha hk ht hb jQ Nn;have Wf:=jw hS hF cz ha hk Q7;obtain⟨t1,t2,t3⟩:=vC Wf nf;have hat:∀r,t.at ag (qf++nf :: r)=c.at ag r:=fun r=>by rw[bH,ha,Option.bind_some,bw,hk,Option.bind_some,hp,Option.bind_some]
 -- the maps without what hangs below 'from'
 have F1:Flat ag (dK ag (fun ks=>cE ks nf) qf t) (Ze (jU ag fs ft qf nf) (qf ++ [nf])):=by
  refine DG hS (fs:=fs) hF cz ha hk nf ht t1 (fun x hx=>?_) (fun x hx=>?_) (fun r=>?_) (fun r=>?_)
  ·rw[wT,ay hx,t2,nv ha hk]
  ·rw[Au,ay hx,t3]
  ·rw[wT,aL ⟨r,by simp⟩]
  ·rw[Au,aL ⟨r,by simp⟩]
 have jb:gz ag (dK ag (fun ks=>cE ks nf) qf t) fs qt:=fun x id hx h=>hwt x id hx (H6 hr ha hk ht h);have W1:=jw hS F1 z7 e1 e2 jb;have qh:∀x,x <+: qt->¬(qf ++ [nf]) <+: x:=fun x hx h=>Nn (h.trans hx);have W2:gh ag fs (jU ag fs ft qf nf) (qi ag (dK ag (fun ks=>cE ks nf) qf t)) qt:=W1.congr rfl (fun x hx=>by rw[wT,ay (qh x hx)]);obtain⟨p1,p2,p3,p4,p5⟩:=ym W2 nt (c.kind,c.id);refine⟨d1,k1,e1,e2,?_,W2⟩;have mI:∀r,(qf++nf :: r)≠qt ++ [nt]:=fun r e=>OP (by rw[<-e];exact⟨r,by simp⟩);have hsq:∀r,(qf++nf :: r)≠qt:=fun r e=>Nn (by rw[<-e];exact⟨r,by simp⟩);have hsp:∀r,¬(qf++nf :: r) <+: qt:=fun r h=>Nn (List.IsPrefix.trans ⟨r,by simp⟩ h);have hsf:∀r,(qf++nf :: r)≠qf:=fun r e=>by have:=congrArg List.length e;simp at this
 have agk:∀r,¬(qf++nf :: r) <+: qf:=fun r h=>by have:=h.length_le;simp at this;omega
 have Yc:∀r,(qt++nt :: r).drop (qt ++ [nt]).length=r:=fun r=>by rw[show qt++nt :: r=(qt ++ [nt])++r by simp,List.drop_left]
 refine Hw hS (fs:=fs) F1 z7 e1 e2 nt c p1 (fun x hx=>?_) (fun x hx=>?_) (fun r=>?_) (fun r=>?_)
 ·have rA:x≠qt ++ [nt]:=fun e=>hx (e ▸ List.prefix_refl _)
  show ez _ _ _ x=_;unfold ez;rw[ay hx];by_cases hs:(qf ++ [nf]) <+: x
  ·rw[aL hs,ay (fun e:x=qt=>Nn (e ▸ hs)),ay (fun h=>qh x h hs),wT,aL hs]
  ·rw[ay hs,p2 x rA,wT,ay hs,nv e1 e2]
 ·have rA:x≠qt ++ [nt]:=fun e=>hx (e ▸ List.prefix_refl _)
  show ez _ _ _ x=_;unfold ez;rw[ay hx];by_cases hs:(qf ++ [nf]) <+: x
  ·rw[aL hs,Au,aL hs]
  ·rw[ay hs,p3 x rA,Au,ay hs]
 ·show ez _ _ _ _=_
  unfold ez;rw[aL ⟨r,by simp⟩,Yc,show (qf ++ [nf])++r=qf++nf :: r by simp,p2 _ (mI r),ay (hsq r),ay (hsp r),t2,ay (hsf r),ay (agk r),hF.od,hat]
 ·show ez _ _ _ _=_
  unfold ez;rw[aL ⟨r,by simp⟩,Yc,show (qf ++ [nf])++r=qf++nf :: r by simp,p3 _ (mI r),t3,hF.of,hat]
def iX (ag:List Ob):Nat->LT->Int
 | _,.file id=>cC ag id
 | _,.held _=>0
 | _,.dir id=>cC ag id
 | 0,.own _=>0
 | n+1,.own es=>es.foldl (fun h x=>max h (1+iX ag n x.2)) 0
theorem eX {α:Type}(f:α->Int):∀(l:List α) (a m:Int),l.foldl (fun h x=>max h (1+f x)) a<=m↔a<=m/\∀x ∈ l,1+f x<=m
 | [],a,m=>by simp
 | y :: r,a,m=>by
  rw[List.foldl_cons,eX f r]
  constructor
  ·rintro ⟨h1,h2⟩
   refine⟨by omega,fun x hx=>?_⟩
   rcases List.mem_cons.1 hx with rfl | hx
   ·omega
   ·exact h2 x hx
  ·rintro ⟨h1,h2⟩
   have:=h2 y (List.mem_cons_self ..)
   exact⟨by omega,fun x hx=>h2 x (List.mem_cons_of_mem _ hx)⟩
theorem Ss {ag:List Ob}(hS:Sound ag):∀(n:Nat) {c:LT} {m:Nat},bu ag n c->iX ag n c<=m->bu ag m c
 | n,.file id,m,h,_=>by
  have:aH ag id=1:=by cases n <;> simpa [bu] using h
  cases m <;> simpa [bu] using this
 | n,.held f,m,_,_=>by cases m <;> simp[bu]
 | n,.dir id,m,h,hm=>by
  have h1:aH ag id=2:=by cases n <;> simp[bu] at h <;> exact h.1
  have h2:cC ag id<=m:=by cases n <;> simpa [iX] using hm
  cases m <;> (rw[bu];exact⟨h1,h2⟩)
 | 0,.own es,m,h,_=>by
  rw[bu] at h
  subst h
  exact vB List.Pairwise.nil (by simp) (by simp)
 | n+1,.own es,m,h,hm=>by
  rw[bu] at h
  rw[iX,eX] at hm
  refine vB h.1 h.2.1 (fun x hx=>?_)
  have h1:=hm.2 x hx
  obtain⟨hv,rA⟩:=h.2.2 x hx
  have h0:0<=iX ag n x.2:=by
   cases n with
   | zero=>cases hc:x.2 <;> simp[iX] <;> exact hS.1 _
   | succ j=>
    cases hc:x.2 with
    | file i=>simp[iX];exact hS.1 _
    | held f=>simp[iX]
    | dir i=>simp[iX];exact hS.1 _
    | own es'=>
     rw[iX];exact ((eX (fun x=>iX ag j x.2) es' 0 _).1 (Int.le_refl _)).1
  refine⟨hv,m-1,by omega,Ss hS n rA (by omega)⟩
theorem fG {a:List Ob}{id:Int}(h:aH a id≠0):1<=id/\(id-1).toNat<a.length:=by
 unfold aH at h;by_cases h1:1<=id
 ·rw[aL h1] at h
  refine⟨h1,?_⟩;by_cases h2:(id-1).toNat<a.length
  ·exact h2
  ·rw[List.getElem?_eq_none (by omega)] at h;exact absurd rfl h
 ·rw[ay h1] at h;exact absurd rfl h
theorem jx {a:List Ob}(l:List Ob){id:Int}(h:aH a id≠0):aH (a++l) id=aH a id:=by
 obtain⟨h1,h2⟩:=fG h;unfold aH;rw[aL h1,aL h1,List.getElem?_append_left h2]
theorem j7 {a:List Ob}(l:List Ob){id:Int}(h:aH a id≠0):cC (a++l) id=cC a id:=by
 obtain⟨h1,h2⟩:=fG h;unfold cC;rw[List.getElem?_append_left h2]
theorem oO {a:List Ob}(l:List Ob){id:Int}(h:aH a id≠0):bR (a++l) id=bR a id:=by
 obtain⟨h1,h2⟩:=fG h;unfold bR;rw[List.getElem?_append_left h2]
theorem s6 {a:List Ob}(l:List Ob){id:Int}(h:aH a id≠0):bytesOf (a++l) id=bytesOf a id:=by
 obtain⟨h1,h2⟩:=fG h;unfold bytesOf;rw[List.getElem?_append_left h2]
theorem V0 (a:List Ob)(o:Ob):aH (a ++ [o]) ((a.length:Int)+1)=o.kind/\cC (a ++ [o]) ((a.length:Int)+1)=o.high/\bR (a ++ [o]) ((a.length:Int)+1)=o.aV/\bytesOf (a ++ [o]) ((a.length:Int)+1)=o.data:=by
 have e:(((a.length:Int)+1)-1).toNat=a.length:=by omega
 refine⟨?_,?_,?_,?_⟩
 ·unfold aH;rw[aL (by omega),e];simp
 ·unfold cC;rw[e];simp
 ·unfold bR;rw[e];simp
 ·unfold bytesOf;rw[e];simp
theorem OQ {a:List Ob}{o:Ob}{id:Int}(h:aH (a ++ [o]) id≠0):aH a id≠0\/id=(a.length:Int)+1\/((id-1).toNat<a.length/\aH a id=0/\1<=id):=by
 obtain⟨h1,h2⟩:=fG h;by_cases h3:(id-1).toNat<a.length
 ·by_cases h4:aH a id=0
  ·exact .inr (.inr ⟨h3,h4,h1⟩)
  ·exact .inl h4
 ·refine .inr (.inl ?_)
  simp only[List.length_append,List.length_singleton] at h2;omega
structure Exact (a:List Ob):Prop where
 sound:Sound a
 kinds:∀o ∈ a,o.kind=1\/o.kind=2
 low:∀id,aH a id=1->cC a id=0
 high:∀id,aH a id=2->cC a id=dn a (bR a id)
theorem Bi {a:List Ob}(hk:∀o ∈ a,o.kind=1\/o.kind=2){id:Int}(h1:1<=id)(h2:(id-1).toNat<a.length):aH a id=1\/aH a id=2:=by
 unfold aH;rw[aL h1,kO h2];exact hk _ (jk h2)
structure H8 (a:List Ob)(o:Ob):Prop where
 or:(o.kind=1/\o.high=0/\o.data.size<=256/\fileAt a o.data=none)\/
  (o.kind=2/\o.high=dn a o.aV/\dn a o.aV<=5/\aU o.aV/\o.aV.length<=16/\(∀e ∈ o.aV,aF e.1=true/\(e.2.1=1\/e.2.1=2)/\aH a e.2.2=e.2.1)/\mK a o.aV=none)
theorem DJ {a:List Ob}(l:List Ob){es:List aK}(h:∀e ∈ es,aH a e.2.2≠0):dn (a++l) es=dn a es:=by
 unfold dn;have key:∀(xs:List aK) (b:Int),(∀e ∈ xs,aH a e.2.2≠0)->xs.foldl (fun h e=>max h (1+cC (a++l) e.2.2)) b=xs.foldl (fun h e=>max h (1+cC a e.2.2)) b:=by
  intro xs
  induction xs with
  | nil=>intro b _;rfl
  | cons x r ih=>
   intro b hx;rw[List.foldl_cons,List.foldl_cons,j7 l (hx x (by simp))];exact ih _ (fun e he=>hx e (by simp[he]))
 exact key es 0 h
theorem Bj {a:List Ob}{es:List aK}{m:Int}:dn a es<=m↔0<=m/\∀e ∈ es,1+cC a e.2.2<=m:=eX (fun e:aK=>cC a e.2.2) es 0 m
theorem Fl (a:List Ob)(es:List aK):0<=dn a es:=(Bj.1 (Int.le_refl _)).1
theorem ne0 {k:Int}(h:k=1\/k=2):k≠0:=by omega
theorem Exact.snoc {a:List Ob}(h:Exact a){o:Ob}(ho:H8 a o):Exact (a ++ [o]):=by
 obtain⟨l1,l2,l3,l4⟩:=V0 a o;have hc:∀id,aH (a ++ [o]) id≠0->aH a id≠0\/id=(a.length:Int)+1:=by
  intro id hid;rcases OQ hid with h1 | h1 | ⟨h1,h2,h3⟩
  ·exact .inl h1
  ·exact .inr h1
  ·rcases Bi h.kinds h3 h1 with k | k <;> (rw[k] at h2;cases h2)
 have pO:∀id,aH a id=2->∀e ∈ bR a id,aH a e.2.2≠0:=by
  intro id hid e he;obtain⟨_,k12,hk,_⟩:=(h.sound.2 id hid).2.2 e he;rw[hk];exact ne0 k12
 have hoe:o.kind=2->∀e ∈ o.aV,aH a e.2.2≠0:=by
  intro hk e he;rcases ho.or with ⟨k,_⟩ | ⟨_,_,_,_,_,q,_⟩
  ·rw[k] at hk;cases hk
  ·rw[(q e he).2.2];exact ne0 (q e he).2.1
 refine⟨⟨?_,?_⟩,?_,?_,?_⟩
 ·intro id
  unfold cC;by_cases h1:(id-1).toNat<a.length
  ·rw[List.getElem?_append_left h1];exact h.sound.1 id
  ·by_cases h2:(id-1).toNat=a.length
   ·rw[h2]
    simp only[List.getElem?_append_right (bA _),Nat.sub_self,List.getElem?_cons_zero,Option.map_some,Option.getD_some];rcases ho.or with ⟨_,k,_⟩ | ⟨_,k,_⟩
    ·rw[k];exact Int.le_refl _
    ·rw[k];exact Fl _ _
   ·rw[List.getElem?_eq_none (by simp;omega)];exact Int.le_refl _
 ·intro id hid
  rcases hc id (by rw[hid];decide) with h1 | h1
  ·rw[jx _ h1] at hid
   obtain⟨s1,s2,s3⟩:=h.sound.2 id hid;rw[oO _ h1];refine⟨s1,s2,fun e he=>?_⟩;obtain⟨q1,q2,q3,q4⟩:=s3 e he;have hne:aH a e.2.2≠0:=by rw[q3];exact ne0 q2
   rw[jx _ hne,j7 _ hne,j7 _ h1];exact⟨q1,q2,q3,q4⟩
  ·subst h1
   rw[l1] at hid;rw[l3,l2];rcases ho.or with ⟨k,_⟩ | ⟨_,k2,k3,k4,k5,k6,_⟩
   ·rw[k] at hid;cases hid
   ·refine⟨k4,k5,fun e he=>?_⟩
    have hne:=hoe hid e he;rw[jx _ hne,j7 _ hne,k2]
    have:=(Bj.1 (Int.le_refl (dn a o.aV))).2 e he
    exact⟨(k6 e he).1,(k6 e he).2.1,(k6 e he).2.2,by omega⟩
 ·intro x hx
  rcases List.mem_append.1 hx with hx | hx
  ·exact h.kinds x hx
  ·rw[List.mem_singleton.1 hx]
   rcases ho.or with ⟨k,_⟩ | ⟨k,_⟩
   ·exact .inl k
   ·exact .inr k
 ·intro id hid
  rcases hc id (by rw[hid];decide) with h1 | h1
  ·rw[jx _ h1] at hid
   rw[j7 _ h1];exact h.low id hid
  ·subst h1
   rw[l1] at hid;rw[l2];rcases ho.or with ⟨_,k,_⟩ | ⟨k,_⟩
   ·exact k
   ·rw[k] at hid;cases hid
 ·intro id hid
  rcases hc id (by rw[hid];decide) with h1 | h1
  ·rw[jx _ h1] at hid
   rw[j7 _ h1,oO _ h1,DJ _ (pO id hid)];exact h.high id hid
  ·subst h1
   rw[l1] at hid;rw[l2,l3,DJ _ (hoe hid)];rcases ho.or with ⟨k,_⟩ | ⟨_,k,_⟩
   ·rw[k] at hid;cases hid
   ·exact k
theorem H9 {a:List Ob}(l:List Ob):∀(n:Nat) (t:LT),bu a n t->bu (a++l) n t
 | n,.file id,h=>by
  rw[bu] at h ⊢
  rw[jx l (by rw[h];decide)];exact h
 | n,.held f,h=>by rw[bu];trivial
 | n,.dir id,h=>by
  rw[bu] at h ⊢
  have hne:aH a id≠0:=by rw[h.1];decide
  rw[jx l hne,j7 l hne];exact h
 | 0,.own es,h=>by rw[bu] at h ⊢;exact h
 | n+1,.own es,h=>by
  rw[bu] at h ⊢
  exact⟨h.1,h.2.1,fun x hx=>⟨(h.2.2 x hx).1,H9 l n x.2 (h.2.2 x hx).2⟩⟩
def ace:Nat->LT->Nat
 | _,.file _=>0
 | _,.dir _=>0
 | _,.held _=>1
 | 0,.own _=>1
 | n+1,.own es=>1+(es.map fun x=>ace n x.2).sum
def bT:FS:=⟨[],false,fun _=>true,fun _=>true⟩
def Fair {β:Type}(fs fs':FS)(x all none:β):Prop:=(fs.Next fs'/\x=all)\/(fs.Fj fs'/\x=none)
theorem wU (id:Int):bT.ep id=(bT,true):=rfl
theorem oP (ag:List Ob)(c:LT):cQ ag bT c=(bT,fq ag c):=by
 cases c <;> rfl
theorem yo (ag:List Ob)(fs:FS)(c:LT):Fair fs (cQ ag fs c).1 (cQ ag fs c).2 (cQ ag bT c).2 (14,[]):=by
 rw[oP];rcases sO ag fs c with ⟨h1,h2⟩ | ⟨h1,h2⟩
 ·exact .inl ⟨h1,h2⟩
 ·exact .inr ⟨h1,h2⟩
theorem jV (ag:List Ob)(t:LT)(r:List ByteArray):aO ag t bT r=(bT,bK ag t r):=by
 induction r with
 | nil=>rfl
 | cons n r ih=>
  unfold aO bK;simp only[ih,oP];by_cases h0:(bK ag t r).1≠0
  ·simp only[aL h0]
  ·simp only[ay h0]
   by_cases hb:(fq ag (bK ag t r).2).1≠0
   ·simp only[aL hb]
   ·simp only[ay hb]
    cases aS (fq ag (bK ag t r).2).2 n <;> rfl
theorem kX (ag:List Ob)(t:LT)(r:List ByteArray):cA ag t bT r=(bT,gK ag t r):=by
 unfold cA gK;simp only[jV,oP];by_cases h0:(bK ag t r).1≠0
 ·simp only[aL h0]
 ·simp only[ay h0]
theorem yq (ag:List Ob)(t:LT)(fs:FS)(r:List ByteArray):Fair fs (aO ag t fs r).1 (aO ag t fs r).2 (aO ag t bT r).2 (14,.dir 0):=by
 rw[jV];rcases sP ag t fs r with ⟨h1,h2,_⟩ | ⟨h1,h2⟩
 ·exact .inl ⟨h1,h2⟩
 ·exact .inr ⟨h1,h2⟩
theorem yu (ag:List Ob)(t:LT)(fs:FS)(r:List ByteArray):Fair fs (cA ag t fs r).1 (cA ag t fs r).2 (cA ag t bT r).2 (14,[]):=by
 rw[kX];rcases Hr ag t fs r with ⟨h1,h2,_⟩ | ⟨h1,h2⟩
 ·exact .inl ⟨h1,h2⟩
 ·exact .inr ⟨h1,h2⟩
def ir (ag:List Ob)(fl:Nat->Option (Int×ByteArray))(fs:FS)(f:Nat):FS×Int×ByteArray:=
 match fl f with
 | none=>(fs,0,⟨#[]⟩)
 | some (id,d)=>if id=0 then (fs,0,d) else if (fs.ep id).2 then ((fs.ep id).1,0,bytesOf ag id) else ((fs.ep id).1,14,⟨#[]⟩)
def fQ (ag:List Ob)(fl:Nat->Option (Int×ByteArray))(fs:FS):LT->FS×Int×Int
 | .file id=>if (fs.ep id).2 then ((fs.ep id).1,0,((bytesOf ag id).size:Int)) else ((fs.ep id).1,14,0)
 | .held f=>((ir ag fl fs f).1,(ir ag fl fs f).2.1,((ir ag fl fs f).2.2.size:Int))
 | c=>((cQ ag fs c).1,(cQ ag fs c).2.1,((cQ ag fs c).2.2.length:Int))
def jy (ag:List Ob)(fl:Nat->Option (Int×ByteArray))(t:LT)(fs:FS)(r:List ByteArray):FS×Int×Int×Int:=
 let a:=aO ag t fs r
 if a.2.1≠0 then (a.1,a.2.1,0,0) else
 let b:=fQ ag fl a.1 a.2.2
 if b.2.1≠0 then (b.1,b.2.1,0,0) else (b.1,0,a.2.2.kind,b.2.2)
def gG (ag:List Ob)(t:LT)(fs:FS):List ByteArray->FS×Int×LT
 | []=>(fs,6,t)
 | n :: r=>
  let a:=cA ag t fs r
  if a.2.1≠0 then (a.1,a.2.1,t) else
  if (aS a.2.2 n).isSome then (a.1,6,t) else
  if 16<=a.2.2.length then (a.1,11,t) else (a.1,0,dK ag (fun ks=>eH ks n (.own [])) r.reverse t)
def dA (ag:List Ob)(fs:FS)(c:LT):FS×Int:=
 if c.kind=1 then (fs,0) else
 let k:=cQ ag fs c
 if k.2.1=0/\0<k.2.2.length then (k.1,8) else (k.1,k.2.1)
def eE (ag:List Ob)(t:LT)(fs:FS):List ByteArray->FS×Int×LT
 | []=>(fs,9,t)
 | n :: r=>
  let a:=aO ag t fs (n :: r)
  if a.2.1≠0 then (a.1,a.2.1,t) else
  let v:=dA ag a.1 a.2.2
  if v.2≠0 then (v.1,v.2,t) else (v.1,0,dK ag (fun ks=>cE ks n) r.reverse t)
def jh (ag:List Ob)(fs:FS)(e c:LT):FS×Int:=
 if e.kind=2/\c.kind=1 then (fs,7) else
 if e.kind=1/\c.kind=2 then (fs,5) else dA ag fs e
def jR (ag:List Ob)(fs:FS)(same:Bool)(ks:Kids)(n:ByteArray)(c:LT):FS×Int:=
 match aS ks n with
 | some e=>jh ag fs e c
 | none=>if 16<=ks.length/\same=false then (fs,11) else (fs,0)
def eA (ag:List Ob)(t:LT)(fs:FS):List ByteArray->List ByteArray->FS×Int×LT
 | nf :: rf,nt :: rt=>
  let a:=aO ag t fs (nf :: rf)
  if a.2.1≠0 then (a.1,a.2.1,t) else
  if (nf :: rf).reverse <+: (nt :: rt).reverse/\nf :: rf≠nt :: rt then (a.1,9,t) else
  let b:=cA ag t a.1 rt
  if b.2.1≠0\/nf :: rf=nt :: rt then (b.1,b.2.1,t) else
  let v:=jR ag b.1 (decide (rf=rt)) b.2.2 nt a.2.2
  if v.2≠0 then (v.1,v.2,t) else
  if 5<((rt.length+1:Nat):Int)+iX ag 5 a.2.2 then (v.1,11,t) else
  (v.1,0,dK ag (fun ks=>eH ks nt a.2.2) rt.reverse (dK ag (fun ks=>cE ks nf) rf.reverse t))
 | _,_=>(fs,9,t)
theorem Fair.bind {β γ:Type}{fs wu Su:FS}{x a n:β}{y b m:γ}(h:Fair fs wu x a n)(good:fs.Next wu->x=a->Fair wu Su y b m)(bad:fs.Fj wu->x=n->Su=wu/\y=m):Fair fs Su y b m:=by
 rcases h with ⟨h1,h2⟩ | ⟨h1,h2⟩
 ·rcases good h1 h2 with ⟨k1,k2⟩ | ⟨k1,k2⟩
  ·exact .inl ⟨h1.trans k1,k2⟩
  ·exact .inr ⟨h1.fail k1,k2⟩
 ·obtain⟨rfl,k⟩:=bad h1 h2
  exact .inr ⟨h1,k⟩
theorem bW {β:Type}(fs:FS)(x bad:β):Fair fs fs x x bad:=.inl ⟨FS.Next.refl _,rfl⟩
theorem KN (ag:List Ob)(t:LT)(fs:FS)(r:List ByteArray):Fair fs (gG ag t fs r).1 (gG ag t fs r).2 (gG ag t bT r).2 (14,t):=by
 cases r with
 | nil=>exact bW _ _ _
 | cons n r=>
  unfold gG;rcases yu ag t fs r with ⟨h1,h2⟩ | ⟨h1,h2⟩
  ·have e1:=congrArg Prod.fst h2
   have e2:=congrArg Prod.snd h2;simp only[e1,e2];refine .inl ⟨?_,?_⟩
   ·split
    ·exact h1
    ·split
     ·exact h1
     ·split <;> exact h1
   ·split
    ·rfl
    ·split
     ·rfl
     ·split <;> rfl
  ·have e1:=congrArg Prod.fst h2
   simp only at e1;simp only[e1];exact .inr ⟨h1,rfl⟩
theorem zk (ag:List Ob)(fs:FS)(c:LT):Fair fs (dA ag fs c).1 (dA ag fs c).2 (dA ag bT c).2 14:=by
 unfold dA;by_cases h1:c.kind=1
 ·rw[aL h1,aL h1];exact bW _ _ _
 ·rw[ay h1,ay h1]
  refine (yo ag fs c).bind (fun hn he=>?_) (fun hf he=>?_)
  ·simp only[he]
   by_cases h:(cQ ag bT c).2.1=0/\0<(cQ ag bT c).2.2.length
   ·simp only[aL h];exact bW _ _ _
   ·simp only[ay h];exact bW _ _ _
  ·simp only[he];exact⟨rfl,rfl⟩
theorem Ia (ag:List Ob)(t:LT)(fs:FS)(r:List ByteArray):Fair fs (eE ag t fs r).1 (eE ag t fs r).2 (eE ag t bT r).2 (14,t):=by
 cases r with
 | nil=>exact bW _ _ _
 | cons n r=>
  unfold eE;refine (yq ag t fs (n :: r)).bind (fun hn he=>?_) (fun hf he=>?_)
  ·simp only[he]
   by_cases h0:(aO ag t bT (n :: r)).2.1≠0
   ·simp only[aL h0];exact bW _ _ _
   ·simp only[ay h0]
    have hall:(aO ag t bT (n :: r)).1=bT:=(by rw[jV]);rw[hall];generalize (aO ag t bT (n :: r)).2.2=c;refine (zk ag _ c).bind (fun hn he=>?_) (fun hf he=>?_)
    ·simp only[he]
     by_cases hv:(dA ag bT c).2≠0
     ·simp only[aL hv];exact bW _ _ _
     ·simp only[ay hv];exact bW _ _ _
    ·simp only[he];exact⟨rfl,rfl⟩
  ·simp only[he];exact⟨rfl,rfl⟩
theorem OS (ag:List Ob)(fs:FS)(b:Bool)(ks:Kids)(n:ByteArray)(c:LT):Fair fs (jR ag fs b ks n c).1 (jR ag fs b ks n c).2 (jR ag bT b ks n c).2 14:=by
 unfold jR;cases aS ks n with
 | none=>
  simp only;by_cases h:16<=ks.length/\b=false
  ·rw[aL h,aL h];exact bW _ _ _
  ·rw[ay h,ay h];exact bW _ _ _
 | some e=>
  simp only;unfold jh;by_cases h:e.kind=2/\c.kind=1
  ·rw[aL h,aL h];exact bW _ _ _
  ·rw[ay h,ay h]
   by_cases h:e.kind=1/\c.kind=2
   ·rw[aL h,aL h];exact bW _ _ _
   ·rw[ay h,ay h];exact zk ag fs e
theorem Ib (ag:List Ob)(t:LT)(fs:FS)(rf rt:List ByteArray):Fair fs (eA ag t fs rf rt).1 (eA ag t fs rf rt).2 (eA ag t bT rf rt).2 (14,t):=by
 cases rf with
 | nil=>cases rt <;> exact bW _ _ _
 | cons nf rf=>
  cases rt with
  | nil=>exact bW _ _ _
  | cons nt rt=>
   unfold eA;refine (yq ag t fs (nf :: rf)).bind (fun hn he=>?_) (fun hf he=>?_)
   ·simp only[he]
    by_cases h0:(aO ag t bT (nf :: rf)).2.1≠0
    ·simp only[aL h0];exact bW _ _ _
    ·simp only[ay h0]
     by_cases h9:(nf :: rf).reverse <+: (nt :: rt).reverse/\nf :: rf≠nt :: rt
     ·simp only[aL h9];exact bW _ _ _
     ·simp only[ay h9]
      generalize (aO ag t fs (nf :: rf)).1=wu;have hall:(aO ag t bT (nf :: rf)).1=bT:=by rw[jV]
      rw[hall];generalize (aO ag t bT (nf :: rf)).2.2=c;refine (yu ag t wu rt).bind (fun hn he=>?_) (fun hf he=>?_)
      ·simp only[he]
       by_cases h1:(cA ag t bT rt).2.1≠0\/nf :: rf=nt :: rt
       ·simp only[aL h1];exact bW _ _ _
       ·simp only[ay h1]
        have hall:(cA ag t bT rt).1=bT:=(by rw[kX]);rw[hall];generalize (cA ag t bT rt).2.2=ks;generalize (cA ag t wu rt).1=Su;refine (OS ag Su (decide (rf=rt)) ks nt c).bind (fun hn he=>?_) (fun hf he=>?_)
        ·simp only[he]
         by_cases hv:(jR ag bT (decide (rf=rt)) ks nt c).2≠0
         ·simp only[aL hv];exact bW _ _ _
         ·simp only[ay hv]
          by_cases h5:5<((rt.length+1:Nat):Int)+iX ag 5 c
          ·simp only[aL h5];exact bW _ _ _
          ·simp only[ay h5];exact bW _ _ _
        ·simp only[he];exact⟨rfl,rfl⟩
      ·simp only[he]
       rw[aL (.inl (by decide))];exact⟨rfl,rfl⟩
   ·simp only[he];exact⟨rfl,rfl⟩
theorem DK (fs:FS)(id:Int):Fair fs (fs.ep id).1 (fs.ep id).2 true false:=by
 rcases fs.Hq id with ⟨h1,h2,_⟩ | ⟨h1,h2⟩
 ·exact .inl ⟨h2,h1⟩
 ·exact .inr ⟨h2,h1⟩
theorem KO (ag:List Ob)(fl:Nat->Option (Int×ByteArray))(fs:FS)(f:Nat):Fair fs (ir ag fl fs f).1 (ir ag fl fs f).2 (ir ag fl bT f).2 (14,⟨#[]⟩):=by
 unfold ir;cases fl f with
 | none=>exact bW _ _ _
 | some x=>
  obtain⟨id,d⟩:=x;simp only;by_cases h:id=0
  ·rw[aL h,aL h];exact bW _ _ _
  ·rw[ay h,ay h,wU]
   refine (DK fs id).bind (fun hn he=>?_) (fun hf he=>?_)
   ·rw[aL he];exact bW _ _ _
   ·rw[ay (by rw[he];decide)];exact⟨rfl,rfl⟩
theorem OT (ag:List Ob)(fl:Nat->Option (Int×ByteArray))(fs:FS)(c:LT):Fair fs (fQ ag fl fs c).1 (fQ ag fl fs c).2 (fQ ag fl bT c).2 (14,0):=by
 cases c with
 | file id=>
  simp only[fQ,wU];refine (DK fs id).bind (fun hn he=>?_) (fun hf he=>?_)
  ·rw[aL he];exact bW _ _ _
  ·rw[ay (by rw[he];decide)];exact⟨rfl,rfl⟩
 | held f=>
  simp only[fQ];refine (KO ag fl fs f).bind (fun hn he=>?_) (fun hf he=>?_)
  ·simp only[he];exact bW _ _ _
  ·simp only[he];exact⟨trivial,rfl⟩
 | dir id=>
  simp only[fQ];refine (yo ag fs (.dir id)).bind (fun hn he=>?_) (fun hf he=>?_)
  ·simp only[he];exact bW _ _ _
  ·simp only[he];exact⟨trivial,rfl⟩
 | own es=>
  simp only[fQ];refine (yo ag fs (.own es)).bind (fun hn he=>?_) (fun hf he=>?_)
  ·simp only[he];exact bW _ _ _
  ·simp only[he];exact⟨trivial,rfl⟩
theorem OU (ag:List Ob)(fl:Nat->Option (Int×ByteArray))(t:LT)(fs:FS)(r:List ByteArray):Fair fs (jy ag fl t fs r).1 (jy ag fl t fs r).2 (jy ag fl t bT r).2 (14,0,0):=by
 unfold jy;refine (yq ag t fs r).bind (fun hn he=>?_) (fun hf he=>?_)
 ·simp only[he]
  by_cases h0:(aO ag t bT r).2.1≠0
  ·simp only[aL h0];exact bW _ _ _
  ·simp only[ay h0]
   have hall:(aO ag t bT r).1=bT:=by rw[jV]
   rw[hall];generalize (aO ag t bT r).2.2=c;refine (OT ag fl _ c).bind (fun hn he=>?_) (fun hf he=>?_)
   ·simp only[he]
    by_cases hv:(fQ ag fl bT c).2.1≠0
    ·simp only[aL hv];exact bW _ _ _
    ·simp only[ay hv];exact bW _ _ _
   ·simp only[he];exact⟨rfl,rfl⟩
 ·simp only[he];exact⟨rfl,rfl⟩
section
variable {ag:List Ob}{fc:e7}{t d:LT}{q:List ByteArray}{ks:Kids}{n:ByteArray}
theorem yx (ha:t.at ag q=some d)(r:List ByteArray):gV ag fc t (q++r)=gV ag fc d r:=by
 unfold gV;rw[bH,ha];rfl
theorem nN (ha:t.at ag q=some d)(hk:kids ag d=some ks)(m:ByteArray)(r:List ByteArray):gV ag fc t (q++m :: r)=(aS ks m).bind fun c=>gV ag fc c r:=by
 rw[yx ha,fe,hk,Option.bind_some]
theorem Np (hr:aU ks)(ha:t.at ag q=some d)(hk:kids ag d=some ks)(c:LT):
  (∀r,gV ag fc (dK ag (fun ks=>eH ks n c) q t) (q++n :: r)=gV ag fc c r)/\∀x,¬(q ++ [n]) <+: x->gV ag fc (dK ag (fun ks=>eH ks n c) q t) x=gV ag fc t x:=by
 obtain⟨h1,h2⟩:=Fi ag fc (fun ks=>eH ks n c) q t d ks ha hk;refine⟨fun r=>?_,fun x hx=>?_⟩
 ·rw[h1,sX hr,aL rfl];rfl
 ·by_cases hq:∃m r,x=q++m :: r
  ·obtain⟨m,r,rfl⟩:=hq
   have hm:m≠n:=fun e=>hx (by rw[e];exact⟨r,by simp⟩);rw[h1,sX hr,ay hm,nN ha hk]
  ·exact h2 x hq
theorem Ic (hr:aU ks)(ht:aW ks n=true)(ha:t.at ag q=some d)(hk:kids ag d=some ks):
  (∀r,gV ag fc (dK ag (fun ks=>cE ks n) q t) (q++n :: r)=none)/\∀x,¬(q ++ [n]) <+: x->gV ag fc (dK ag (fun ks=>cE ks n) q t) x=gV ag fc t x:=by
 obtain⟨h1,h2⟩:=Fi ag fc (fun ks=>cE ks n) q t d ks ha hk;refine⟨fun r=>?_,fun x hx=>?_⟩
 ·rw[h1,jK hr ht,aL rfl];rfl
 ·by_cases hq:∃m r,x=q++m :: r
  ·obtain⟨m,r,rfl⟩:=hq
   have hm:m≠n:=fun e=>hx (by rw[e];exact⟨r,by simp⟩);rw[h1,jK hr ht,ay hm,nN ha hk]
  ·exact h2 x hq
end
theorem KP {ag:List Ob}{fc:e7}(hS:Sound ag){k:Nat}{t:LT}(cz:bu ag k t){qf qt:List ByteArray}{nf nt:ByteArray}{df dt c:LT}{kf kt:Kids}
  (ha:t.at ag qf=some df)(hk:kids ag df=some kf)(hp:aS kf nf=some c)(hb:t.at ag qt=some dt)(jQ:kids ag dt=some kt)(OP:¬(qf ++ [nf]) <+: (qt ++ [nt]))(x:List ByteArray):
  gV ag fc (dK ag (fun ks=>eH ks nt c) qt (dK ag (fun ks=>cE ks nf) qf t)) x =
   if (qt ++ [nt]) <+: x then gV ag fc t ((qf ++ [nf])++x.drop (qt ++ [nt]).length) else if (qf ++ [nf]) <+: x then none else gV ag fc t x:=by
 have hr:=(cr hS (dN hS _ cz ha).2.1 hk).1;have ht:aW kf nf=true:=by rw[<-dR hr,hp];rfl
 have Nn:¬(qf ++ [nf]) <+: qt:=fun h=>OP (h.trans (List.prefix_append _ _));obtain⟨d1,k1,e1,e2,_⟩:=Bh hr ha hk ht hb jQ Nn;have z7:=wS hS cz ha hk nf;have hr1:=(cr hS (dN hS _ z7 e1).2.1 e2).1;obtain⟨p1,p2⟩:=Np (fc:=fc) (n:=nt) hr1 e1 e2 c;obtain⟨s1,s2⟩:=Ic (fc:=fc) hr ht ha hk;by_cases h:(qt ++ [nt]) <+: x
 ·rw[aL h]
  obtain⟨r,rfl⟩:=h;rw[List.drop_left,show (qt ++ [nt])++r=qt++nt :: r by simp,p1,show (qf ++ [nf])++r=qf++nf :: r by simp,nN ha hk,hp];rfl
 ·rw[ay h,p2 x h]
  by_cases h2:(qf ++ [nf]) <+: x
  ·rw[aL h2]
   obtain⟨r,rfl⟩:=h2;rw[show (qf ++ [nf])++r=qf++nf :: r by simp,s1]
  ·rw[ay h2,s2 x h2]
theorem wV (ag:List Ob)(fc:e7)(t:LT):∀r:List ByteArray,
  ((bK ag t r).1=0/\t.at ag r.reverse=some (bK ag t r).2)\/((bK ag t r).1≠0/\gV ag fc t r.reverse=none/\((bK ag t r).1=4\/(bK ag t r).1=5))
 | []=>.inl ⟨rfl,di _ _⟩
 | n :: r=>by
  by_cases h:(bK ag t (n :: r)).1=0
  ·exact .inl ⟨h,(Bd ag t (n :: r)).1 h⟩
  ·refine .inr ⟨h,?_,?_⟩
   ·unfold gV;rw[(Bd ag t (n :: r)).2 h];rfl
   ·rcases wV ag fc t r with ⟨h0,ha⟩ | ⟨h0,_,h45⟩
    ·rw[bK] at h ⊢
     simp only at h ⊢
     rw[ay (by simpa using h0)] at h ⊢
     cases hd:(bK ag t r).2 with
     | file i=>rw[hd] at h;simp[fq]
     | held f=>rw[hd] at h;simp[fq]
     | own es=>simp only[hd,fq] at h ⊢;cases hp:aS es n <;> simp[hp] at h ⊢
     | dir id=>simp only[hd,fq] at h ⊢;cases hp:aS ((bR ag id).map iA) n <;> simp[hp] at h ⊢
    ·rw[bK]
     simp only
     rw[aL h0];exact h45
structure Sv (a:List Ob):Prop where
 file:∀i (h:i<a.length),a[i].kind=1->fileAt a a[i].data=some i
 dir:∀i (h:i<a.length),a[i].kind=2->mK a a[i].aV=some i
theorem Sv.snoc {a:List Ob}(h:Sv a){o:Ob}(ho:H8 a o):Sv (a ++ [o]):=by
 refine⟨fun i hi hk=>?_,fun i hi hk=>?_⟩
 ·rw[sK]
  by_cases h1:i<a.length
  ·rw[List.getElem_append_left h1] at hk ⊢
   rw[h.file i h1 hk];rfl
  ·have h2:i=a.length:=by simp at hi;omega
   subst h2;simp only[List.getElem_concat_length] at hk ⊢;rcases ho.or with ⟨_,_,_,hf⟩ | ⟨hk2,_⟩
   ·rw[hf,aL ⟨hk,trivial⟩];rfl
   ·rw[hk] at hk2;cases hk2
 ·rw[vq]
  by_cases h1:i<a.length
  ·rw[List.getElem_append_left h1] at hk ⊢
   rw[h.dir i h1 hk];rfl
  ·have h2:i=a.length:=by simp at hi;omega
   subst h2;simp only[List.getElem_concat_length] at hk ⊢;rcases ho.or with ⟨hk2,_⟩ | ⟨_,_,_,_,_,_,hf⟩
   ·rw[hk] at hk2;cases hk2
   ·rw[hf,aL ⟨hk,trivial⟩];rfl
theorem DM {ks:Kids}(hr:aU ks){k:Nat}(hk:k<ks.length):aS ks (ks[k]).1=some (ks[k]).2:=by
 cases h:aS ks (ks[k]).1 with
 | none=>
  exfalso;unfold aS at h;rw[Option.map_eq_none_iff,List.find?_eq_none] at h;exact h _ (jk hk) (by simp)
 | some c=>rw[mR hr h (jk hk) rfl]
structure CX where
 t:gA
 p:Nat
 base:List Ob
def fT (ft:CX)(F:Nat->Prop)(w:World)(s:Nat)(ag:List Ob):Prop:=kU ft.t F w s ft.p ag/\ft.base <+: ag/\Exact ag/\Sv ag
section
variable {ft:CX}{F F':Nat->Prop}{w w':World}{s:Nat}{ag aN:List Ob}
theorem fT.inv (h:fT ft F w s ag):Inv ft.t F w s ag:=h.1.inv
theorem fT.keep (h:fT ft F w s ag)(hF:∀k,F k->F' k)(hk:∀k,F k->w'.heap[k]? = w.heap[k]?):fT ft F' w' s ag:=⟨h.1.keep (fun k _=>hk k) (fun k _=>hF k),h.2⟩
theorem fT.below (h:fT ft F w s ag)(hb:Below w.heap.size w w')(hF:∀k,k<w.heap.size->F k->F' k):fT ft F' w' s ag:=⟨h.1.below hb hF,h.2⟩
theorem Ie {d:ByteArray}{e:Ending}(h:jI ag aN d e):aN=ag\/∃o,H8 ag o/\aN=ag ++ [o]:=by
 rcases h with ⟨_,h,_⟩ | ⟨_,h,_⟩ | ⟨_,_,_,h,_⟩ | ⟨h1,h2,_,h,_⟩
 ·exact .inl h
 ·exact .inl h
 ·exact .inl h
 ·exact .inr ⟨eP d,⟨.inl ⟨rfl,rfl,h1,h2⟩⟩,h⟩
theorem KQ {es:List aK}{e:Ending}(hX:Exact ag)(h:iJ ag aN es e):aN=ag\/∃o,H8 ag o/\aN=ag ++ [o]:=by
 rcases h with ⟨_,h,_⟩ | ⟨hv,⟨_,h,_⟩ | ⟨_,_,h,_⟩ | ⟨_,_,_,h,_⟩ | ⟨_,jS,hg,es',hP,hR,_,⟨_,h,_⟩ | ⟨_,h,_⟩ | ⟨_,_,_,h,_⟩ | ⟨h5,hd,_,⟨o,hk,he,hh,h⟩,_⟩⟩⟩
 ·exact .inl h
 ·exact .inl h
 ·exact .inl h
 ·exact .inl h
 ·exact .inl h
 ·exact .inl h
 ·exact .inl h
 ·refine .inr ⟨o,⟨.inr ⟨hk,by rw[he];exact hh,by rw[he];exact h5,by rw[he];exact hR,by rw[he,hP.length_eq];exact jS,fun e hme=>?_,by rw[he];exact hd⟩⟩,h⟩
  rw[he] at hme;have hm:=hP.mem_iff.1 hme;have KR:=hg e hm;unfold eV at KR;simp only[Bool.and_eq_true,Bool.not_eq_true',beq_eq_false_iff_ne,beq_iff_eq] at KR;refine⟨hv e hm,?_,KR.2⟩;obtain⟨k1,k2⟩:=fG KR.1
  have:=Bi hX.kinds k1 k2
  rw[KR.2] at this;exact this
theorem fT.put (h:fT ft F w s ag)(hp:kU ft.t F' w' s ft.p aN)(ho:aN=ag\/∃o,H8 ag o/\aN=ag ++ [o]):fT ft F' w' s aN:=by
 obtain⟨_,h2,h3,h4⟩:=h;rcases ho with rfl | ⟨o,ho,rfl⟩
 ·exact⟨hp,h2,h3,h4⟩
 ·exact⟨hp,h2.trans (List.prefix_append _ _),h3.snoc ho,h4.snoc ho⟩
theorem uU (h:fT ft F w s ag)(d:ByteArray)(hd:d.size<=maxLen):
  Calls prog 35 #[.pointer (some ⟨s,0,none⟩),.string d] w fun e w'=>∃aN,jI ag aN d e/\fT ft (bq F w w') w' s aN/\ax F w w':=
 (CQ h.1 d hd).mono fun e w' ⟨aN,h1,h2,h3⟩=>⟨aN,h1,h.put h2 (Ie h1),h3⟩
theorem wW (h:fT ft F w s ag)(b off m c0:Nat)(es:List aK)
  (hl:es.length=m)(hbl:b<w.heap.size)(jl:m*32<=140737488355328)(hc:∀j u,(flat es)[j]? = some u->w.cell? ⟨b,off+j,none⟩=some u)(hsz:∀e ∈ es,e.1.size<=maxLen):
  Calls prog 26 #[.pointer (some ⟨s,0,none⟩),.slice (some ⟨b,off,none⟩) m c0] w fun e w'=>∃aN,iJ ag aN es e/\fT ft (bq F w w') w' s aN/\ax F w w':=
 (E3 h.1 b off m c0 es hl hbl jl hc hsz).mono fun e w' ⟨aN,h1,h2,h3⟩=>⟨aN,h1,h.put h2 (KQ h.2.2.1 h1),h3⟩
theorem uV (h:fT ft F w s ag)(id:Int):
  Calls prog 40 #[.pointer (some ⟨s,0,none⟩),.int .i64 id] w fun e w'=>E4 ag id e/\Below w.heap.size w w':=Fa h.inv id
theorem wX (h:fT ft F w s ag)(id:Int):
  Calls prog 43 #[.pointer (some ⟨s,0,none⟩),.int .i64 id] w fun e w'=>E5 w w' ag id e/\Below w.heap.size w w':=G8 h.inv id
theorem CY (h:fT ft F w s ag):
  Calls prog 45 #[.pointer (some ⟨s,0,none⟩)] w fun e w'=>e=.returned (.int .i64 (ag.length:Int))/\w'=w:=Fb h.inv
end
theorem Bk (id:Int):aH [] id=0:=fD (by simp;omega)
theorem OV:Exact []:=⟨⟨fun id=>by unfold cC;simp,fun id hk=>by rw[Bk] at hk;cases hk⟩,fun o ho=>(by cases ho),fun id hk=>(by rw[Bk] at hk;cases hk),fun id hk=>(by rw[Bk] at hk;cases hk)⟩
theorem Sw:Sv []:=⟨fun i h=>(by cases h),fun i h=>(by cases h)⟩
end Go.Proofs.YtlgidcmmgohagaaGreat
