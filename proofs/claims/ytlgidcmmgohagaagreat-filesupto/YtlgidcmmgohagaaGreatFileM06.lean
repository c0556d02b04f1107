/- What is proved here: 'grows'. -/
import Derived.Test.YtlgidcmmgohagaaGreatFileM05
import Derived.Test.YtlgidcmmgohagaaGreatFileM02
import Derived.Maps.RangeWalk
namespace Go.Proofs.YtlgidcmmgohagaaGreat
open Go.RowKit Go.Sort Go.Shelf Go.Proofs.Tryz
set_option linter.unusedVariables false
set_option maxRecDepth 100000
set_option maxHeartbeats 16000000
theorem infoIDR:(prog.info? 29).map (fun i=>(i.zero,i.size,i.bytes))=some (some (.int .i64 0),1,8):=by kernel_rfl
theorem infoB:(prog.info? 4).map (fun i=>(i.zero,i.size,i.bytes))=some (some (.bool false),1,1):=by kernel_rfl
theorem infoI:(prog.info? 3).map (fun i=>(i.zero,i.size,i.bytes))=some (some (.int .i64 0),1,8):=by kernel_rfl
def lenAt (W:Nat)(w:World):Nat:=match w.cell? ⟨W,2,none⟩ with | some (.slice _ n _)=>n | _=>0
theorem one_cell (w:World)(v:Value)(t:TypeId)(n:Nat)(hn:n=w.heap.size):∀j u,[v][j]? = some u->(w.alloc (.cells #[v] t)).cell? ((⟨n,0,none⟩:Addr).add j)=some u:=by
 subst hn;intro j u h
 match j,h with
 | 0,h=>simpa [Addr.add] using h
 | j+1,h=>simp at h
section
variable {F G:Nat->Prop}{w:World}{W s r:Nat}{ia ka pa:Option Addr}{ic kc pc:Nat}{ids:List Int}{known:List Bool}{paths:List Int}{c5 c6 c7 c8 c9 c10 c11:Value}{ros:List Ob}
def bP:Nat->Int
 | 0=>0
 | 1=>16
 | 2=>272
 | _+3=>301
def cP:Nat->Int
 | 0=>0
 | 1=>1
 | 2=>17
 | _+3=>302
def PathsOk (ps:List Int):Prop:=∀i (h:i<ps.length),0<=ps[i]/\ps[i]<=bP i
theorem bP_le (n:Nat):0<=bP n/\bP n<=301:=by
 match n with
 | 0=>decide
 | 1=>decide
 | 2=>decide
 | _+3=>exact⟨show (0:Int)<=301 by decide,show (301:Int)<=301 by decide⟩
theorem cP_ok {j n:Nat}(h:j<n):1+bP j<=cP n:=by
 match n,h with
 | 1,h=>
  obtain rfl:j=0:=by omega
  decide
 | 2,h=>
  have:j=0\/j=1:=by omega
  rcases this with rfl | rfl <;> decide
 | _+3,_=>
  have:=(bP_le j).2
  show 1+bP j<=302;omega
theorem cP_le (n:Nat):0<=cP n/\cP n<=302:=by
 match n with
 | 0=>decide
 | 1=>decide
 | 2=>decide
 | _+3=>exact⟨show (0:Int)<=302 by decide,show (302:Int)<=302 by decide⟩
theorem cP_end {n:Nat}{x:Int}(h:x<=cP n*16):(300<x->(301:Int)<=bP n)/\(¬300<x->x<=bP n):=by
 match n,h with
 | 0,h=>exact⟨fun h1=>by simp only[cP] at h;omega,fun _=>by simp only[cP,bP] at h ⊢;omega⟩
 | 1,h=>exact⟨fun h1=>by simp only[cP] at h;omega,fun _=>by simp only[cP,bP] at h ⊢;omega⟩
 | 2,h=>exact⟨fun h1=>by simp only[cP] at h;omega,fun _=>by simp only[cP,bP] at h ⊢;omega⟩
 | _+3,h=>exact⟨fun _=>Int.le_refl _,fun h1=>by show x<=301;omega⟩
theorem PathsOk.snoc {ps:List Int}{x:Int}(h:PathsOk ps)(hx:0<=x/\x<=bP ps.length):PathsOk (ps ++ [x]):=by
 intro i hi;rw[List.getElem_append];split
 ·exact h i (by assumption)
 ·rename_i hn
  have:i=ps.length:=by simp at hi;omega
  subst this;simpa using hx
def Growing (F:Nat->Prop)(w wo:World)(W s r:Nat)(ids:List Int)(known:List Bool)(n0 k:Nat)(c5 c6 c7 c8 c9 c10 c11:Value):Prop:=
 ∃ia ka pa ic kc pc paths,LawAt (NewF F w wo) wo W s r ia ka pa ic kc pc (ids++List.replicate k 0) (known++List.replicate k false) paths c5 c6 c7 c8 c9 c10 c11/\paths.length=n0+k/\PathsOk paths/\Keeps F w wo
theorem Growing.drewN {F:Nat->Prop}{w wo:World}{W s r:Nat}{ids:List Int}{known:List Bool}{n0 k:Nat}{c5 c6 c7 c8 c9 c10 c11:Value}(h:Growing F w wo W s r ids known n0 k c5 c6 c7 c8 c9 c10 c11)(q:Nat):Growing F w (wo.drewN q) W s r ids known n0 k c5 c6 c7 c8 c9 c10 c11:=by
 obtain⟨ia,ka,pa,ic,kc,pc,ps,hl,hpl,hpr,hkp⟩:=h;exact⟨ia,ka,pa,ic,kc,pc,ps,hl.keep (fun _ h=>h) (fun _ _=>rfl),hpl,hpr,keeps_drewNR hkp q⟩
theorem one_int {x:Int}:∀u ∈ [Value.int .i64 x],u.oneCell'=true:=by intro u hu;simp at hu;subst hu;rfl
theorem one_bool {x:Bool}:∀u ∈ [Value.bool x],u.oneCell'=true:=by intro u hu;simp at hu;subst hu;rfl
theorem kb_alloc (w:World)(q:Nat)(o:Obj):∀k,k<w.heap.size->((w.drewN q).alloc o).heap[k]? = w.heap[k]?:=fun k hk=>Below.heap_alloc _ _ _ hk
theorem kb_alloc0 (w:World)(o:Obj):∀k,k<w.heap.size->(w.alloc o).heap[k]? = w.heap[k]?:=fun k hk=>Below.heap_alloc _ _ _ hk
theorem grown_W {w w0 w2:World}{W:Nat}{cs:Array Value}{T:TypeId}{own:Option Nat}(hW:w.heap[W]? = some (.cells cs T (0,0)))(kb:∀k,k<w.heap.size->w0.heap[k]? = w.heap[k]?)(hs:w.heap.size<=w0.heap.size)(hg:w0.grownBy w2 own)(hne:some W≠own):w2.heap[W]? = some (.cells cs T (0,0)):=by
 have hl:W<w.heap.size:=(Array.getElem?_eq_some_iff.1 hW).1;rw[hg.block W (by omega) hne,kb W hl,hW]
theorem W_cells {w:World}{W:Nat}{a0 a1 a2 a3 a4 a5 a6 a7 a8 a9 a10 a11:Value}{T:TypeId}(h:w.heap[W]? = some (.cells #[a0,a1,a2,a3,a4,a5,a6,a7,a8,a9,a10,a11] T (0,0))):
  w.cell? ⟨W,0,none⟩=some a0/\w.cell? ⟨W,1,none⟩=some a1/\w.cell? ⟨W,2,none⟩=some a2/\w.cell? ⟨W,3,none⟩=some a3/\w.cell? ⟨W,4,none⟩=some a4/\∀i,w.frozen? ⟨W,i,none⟩=false:=by
 refine⟨?_,?_,?_,?_,?_,fun i=>?_⟩ <;> simp[World.cell?,World.frozen?,h]
theorem LawAt.mono {F F':Nat->Prop}{w:World}{W s r:Nat}{ia ka pa:Option Addr}{ic kc pc:Nat}{ids:List Int}{known:List Bool}{paths:List Int}{c5 c6 c7 c8 c9 c10 c11:Value}(h:LawAt F w W s r ia ka pa ic kc pc ids known paths c5 c6 c7 c8 c9 c10 c11)(hF:∀k,F k->F' k):LawAt F' w W s r ia ka pa ic kc pc ids known paths c5 c6 c7 c8 c9 c10 c11:=h.keep hF (fun _ _=>rfl)
theorem newF_newF {F:Nat->Prop}{w w1 w2:World}(h1:w.heap.size<=w1.heap.size)(h2:w1.heap.size<=w2.heap.size){k:Nat}(h:NewF (NewF F w w1) w1 w2 k):NewF F w w2 k:=by
 rcases h with (h | h) | h
 ·exact .inl h
 ·exact .inr ⟨h.1,zzA h.2 h2⟩
 ·exact .inr ⟨zzG h1 h.1,h.2⟩
theorem keeps_trans {F:Nat->Prop}{w w1 w2:World}(h1:Keeps F w w1)(h2:Keeps (NewF F w w1) w1 w2):Keeps F w w2:=
 ⟨h2.os.trans h1.os,h2.tape.trans h1.tape,h2.output.trans h1.output,zzG h1.size h2.size,fun k hk hn=>(h2.block k (zzA hk h1.size) (by rintro (h | h);exact hn h;omega)).trans (h1.block k hk hn)⟩
theorem Growing.three {F:Nat->Prop}{w wo w1 w2 w3:World}{W s r:Nat}{i1 k1 p1 i2 k2 p2 i3 k3 p3:Option Addr}{ic1 kc1 pc1 ic2 kc2 pc2 ic3 kc3 pc3:Nat}{ids:List Int}{known:List Bool}{ps:List Int}{n0 k:Nat}{x:Int}{c5 c6 c7 c8 c9 c10 c11:Value}(hkp:Keeps F w wo)
  (h1:LawAt (NewF (NewF F w wo) wo w1) w1 W s r i1 k1 p1 ic1 kc1 pc1 ((ids++List.replicate k 0) ++ [0]) (known++List.replicate k false) ps c5 c6 c7 c8 c9 c10 c11/\Keeps (NewF F w wo) wo w1)
  (h2:LawAt (NewF (NewF (NewF F w wo) wo w1) w1 w2) w2 W s r i2 k2 p2 ic2 kc2 pc2 ((ids++List.replicate k 0) ++ [0]) ((known++List.replicate k false) ++ [false]) ps c5 c6 c7 c8 c9 c10 c11/\Keeps (NewF (NewF F w wo) wo w1) w1 w2)
  (h3:LawAt (NewF (NewF (NewF (NewF F w wo) wo w1) w1 w2) w2 w3) w3 W s r i3 k3 p3 ic3 kc3 pc3 ((ids++List.replicate k 0) ++ [0]) ((known++List.replicate k false) ++ [false]) (ps ++ [x]) c5 c6 c7 c8 c9 c10 c11/\Keeps (NewF (NewF (NewF F w wo) wo w1) w1 w2) w2 w3)
  (hpl:ps.length=n0+k)(hpr:PathsOk ps)(hx:0<=x/\x<=bP ps.length):Growing F w w3 W s r ids known n0 (k+1) c5 c6 c7 c8 c9 c10 c11:=by
 have s1:=h1.2.size;have s2:=h2.2.size;have s3:=h3.2.size;have s0:=hkp.size;refine⟨i3,k3,p3,ic3,kc3,pc3,ps ++ [x],?_,by simp[hpl];omega,?_,?_⟩
 ·have:=h3.1.mono (F':=NewF F w w3) (fun q hq=>by
   rcases hq with ((( h | h) | h) | h) | h
   ·exact .inl h
   ·exact .inr ⟨h.1,by omega⟩
   ·exact .inr ⟨by omega,by omega⟩
   ·exact .inr ⟨by omega,by omega⟩
   ·exact .inr ⟨by omega,h.2⟩)
  rw[List.append_assoc,List.append_assoc,<-List.replicate_succ',<-List.replicate_succ'] at this;exact this
 ·exact hpr.snoc hx
 ·have a:=keeps_trans (keeps_trans h1.2 h2.2:Keeps (NewF F w wo) wo w2) ((⟨h3.2.os,h3.2.tape,h3.2.output,h3.2.size,fun q hq hn=>h3.2.block q hq (fun h=>hn (newF_newF s1 s2 h))⟩:Keeps (NewF (NewF F w wo) wo w2) w2 w3))
  exact keeps_trans hkp a
theorem Growing.lenAt {F:Nat->Prop}{w wo:World}{W s r:Nat}{ids:List Int}{known:List Bool}{n0 k:Nat}{c5 c6 c7 c8 c9 c10 c11:Value}(h:Growing F w wo W s r ids known n0 k c5 c6 c7 c8 c9 c10 c11):YtlgidcmmgohagaaGreat.lenAt W wo=ids.length+k:=by
 obtain⟨ia,ka,pa,ic,kc,pc,ps,hl,hpl,hpr,hkp⟩:=h;unfold YtlgidcmmgohagaaGreat.lenAt;rw[hl.c2];simp
theorem ref_stays {F G:Nat->Prop}{w wo:World}{r:Nat}{ros:List Ob}(hr:RefInv G w r ros)(hGF:∀k,G k->k<w.heap.size/\¬F k)(hk:Keeps F w wo):RefInv G wo r ros:=
 hr.keep (fun _ h=>h) (fun k hk'=>hk.block k (hGF k hk').1 (hGF k hk').2)
theorem grows_any (h:LawAt F w W s r ia ka pa ic kc pc ids known paths c5 c6 c7 c8 c9 c10 c11)(hr:RefInv G w r ros)(hGF:∀k,G k->k<w.heap.size/\¬F k)(hlk:known.length=ids.length)(hlp:paths.length=ids.length)(hle:ids.length<=ros.length)
  (hAt:∀i (hi:i<ros.length),∀e ∈ ros[i].ents,0<=e.2.2/\e.2.2<(i:Int))(hP:PathsOk paths):
  Calls prog 79 #[.pointer (some ⟨W,0,none⟩)] w fun e w'=>e=.returned (.tuple #[])/\Growing F w w' W s r ids known ids.length (ros.length-ids.length) c5 c6 c7 c8 c9 c10 c11:=by
 have HR:Hid (RefInv G w r ros):=hr;have HG:Hid (∀k,G k->k<w.heap.size/\¬F k):=hGF;have HA:Hid (∀i (hi:i<ros.length),∀e ∈ ros[i].ents,0<=e.2.2/\e.2.2<(i:Int)):=hAt;have HK:Hid (known.length=ids.length):=hlk;have HS:Hid (Growing F w w W s r ids known ids.length 0 c5 c6 c7 c8 c9 c10 c11):=⟨ia,ka,pa,ic,kc,pc,paths,by rw[List.replicate_zero,List.replicate_zero,List.append_nil,List.append_nil];exact h.keep (fun k hk=>Or.inl hk) (fun _ _=>rfl),by simpa using hlp,hP,⟨rfl,rfl,rfl,zzC _,fun _ _ _=>rfl⟩⟩;have hm:ros.length<=400:=by obtain⟨_,_,h⟩:=hr;exact h.many
 clear h hr hGF hAt hP hlk hlp;go_enter func79,ntmps79;go_wp2
 go_loopw [] (fun wr=>∃k:Nat,ids.length+k<=ros.length/\Hid (Growing F w wr W s r ids known ids.length k c5 c6 c7 c8 c9 c10 c11)) (fun wr=>ros.length-lenAt W wr)
 case atStart=>exact⟨0,hle,HS.out⟩
 case round=>
  obtain⟨k,hk,HGr⟩:=hrel;obtain⟨ia,ka,pa,ic,kc,pc,ps,hl,hpl,hpr,hkp⟩:=HGr.out;have hil:(ids++List.replicate k (0:Int)).length=ids.length+k:=by simp
  have hkl:(known++List.replicate k false).length=ids.length+k:=by simp[HK.out]
  have e1:=hl.c1;have e2:=hl.c2;have e4:=hl.c4;rw[hil] at e2;rw[hpl] at e4;obtain⟨ra,rcap,hra⟩:=ref_stays HR.out HG.out hkp;have r0:=hra.c0;obtain⟨n,hn⟩:∃n,n=ids.length+k:=⟨_,rfl⟩;rw[<-hn] at e2 e4 hk;have HN:Hid (n=ids.length+k):=hn;have HMs:Hid (lenAt W wr=n):=by unfold lenAt;rw[e2];rfl
  by_cases hlt:n<ros.length
  ·have hlt':(n:Int)<(ros.length:Int):=by omega
   obtain⟨g,rfl,hgl,_,_,cI,_⟩:=row_obs hra.row rfl hlt;have hob:=hra.obs ros[n] (zzJ hlt);have hat:=HA.out n hlt;obtain⟨o,ho⟩:∃o,o=ros[n]:=⟨_,rfl⟩;rw[<-ho] at hob hat cI;obtain⟨ok,od,oa,el,oc,es,oh⟩:=o;have hrow:wr.ownsRow 0 112 3 (.slice oa el oc) el (flat es):=hob.row;have cI':wr.cell? ⟨g,n*4+2,none⟩=some (.slice oa el oc):=cI;have hel:el<=16:=hob.few;have HE:Hid (es.length=el):=hob.len;have HT:Hid (∀e ∈ es,0<=e.2.2/\e.2.2<(n:Int)):=hat;have HPs:Hid (ps.length=n):=by rw[hn];exact hpl
   clear ho hob hat cI hn;go_wp2
   go_quiet (fail)
   go_wp2
   go_quiet (fail)
   go_wp2;rename World=>wo
   go_loopw [3,4] (fun v i wq=>∃j:Nat,∃x:Int,j<=el/\i=.int .i64 j/\v=.int .i64 x/\0<=x/\x<=cP n*j/\(∃q,wq=wo.drewN q)) (fun _ i _=>el-(intOf i).toNat)
   case atStart=>exact⟨0,0,zzF _,rfl,rfl,by omega,by omega,⟨_,by rw[World.drewN_drewN]⟩⟩
   case round=>
    obtain⟨j,x,hj,rfl,rfl,hx0,hx1,⟨q,rfl⟩⟩:=hrel;by_cases hjl:j<el
    ·have hje:j<es.length:=by rw[HE.out];exact hjl
     obtain⟨gi,ci,hvi⟩:=slice_of_owns hrow (by omega);obtain rfl:=(Value.slice.inj hvi).1;have hgil:gi<wo.heap.size:=ownsRow_lt hrow rfl;obtain⟨_,_,a2⟩:=row_cells (off:=0) (owns_cells hrow) hje;rw[Nat.zero_add] at a2;obtain⟨ha0,ha1⟩:=HT.out _ (zzJ hje);obtain⟨jj,hjj⟩:∃jj:Nat,es[j].2.2=(jj:Int):=⟨es[j].2.2.toNat,by omega⟩;have hjn:jj<n:=by omega
     have hjn':(jj:Int)<(n:Int):=(by omega);rw[hjj] at a2;have hjp:jj<ps.length:=by rw[HPs.out];exact hjn
     obtain⟨gp,hpa,hgpl,cp,_⟩:=row_one hl.rowP (i:=jj) (v:=.int .i64 ps[jj]) (by simp[encI,zzH hjp]);rw[hpa] at e4;obtain⟨hp0,hp1⟩:=hpr jj hjp;have hpc:=cP_ok hjn;have hpb:=(bP_le jj).2;have hcc:=cP_le n;have hjc:(cP n)*((j:Int)+1)=cP n*(j:Int)+cP n:=by rw[Int.mul_add,Int.mul_one]
     have hcj:cP n*(j:Int)<=302*16:=Int.mul_le_mul hcc.2 (by omega) (by omega) (by omega);clear hvi hpa hjj ha0 ha1;go_wp2
     go_quiet (fail)
     go_wp2;go_roundw
     case rel=>exact⟨j+1,x+1+ps[jj],by omega,by go_num,rfl,by omega,by push_cast;rw[hjc];omega,⟨_,rfl⟩⟩
     case measure=>simp[intOf];omega
    ·have RI:Hid (wo.ownsRow 0 29 1 (.slice ia n ic) n (encI (ids++List.replicate k 0))):=by have:=hl.rowI;rw[hil,<-HN.out] at this;exact this
     have e3:=hl.c3;rw[hkl,<-HN.out] at e3;have fz:=hl.fz;obtain⟨iI,hI,hI0,hI1,hI2⟩:=info_parts infoIDR;obtain⟨iB,hB,hB0,hB1,hB2⟩:=info_parts infoB;obtain⟨iP,hP,hP0,hP1,hP2⟩:=info_parts infoI;have hWl:W<wo.heap.size:=hl.lt;by_cases hx3:300<x
     ·skip
      have hyr:(0:Int)<=(301:Int)/\(301:Int)<=bP ps.length:=⟨by omega,by rw[HPs.out];exact (cP_end (Int.le_trans hx1 (Int.mul_le_mul_of_nonneg_left (by omega) (cP_le n).1))).1 hx3⟩;go_wp2_with (at_builtin;refine wpList_append_at rfl (.tmp 60) (.tmp 61) 59 rfl 0 29 iI _ 1 8 underlying59 hI hI0 hI1 hI2 rfl (by decide) (.slice ia n ic) n (encI (ids++List.replicate k 0)) rfl (RI.out.alloc _) ⟨wo.heap.size,0,none⟩ 1 1 [.int .i64 0] rfl rfl (one_cell (wo.drewN q) _ _ _ rfl) one_int (by unfold maxLen;omega) (by omega) (zzF _) ?_);intro v1 w1 ho1 hg1 hloc1;obtain⟨g1,cap1,rfl⟩:=slice_of_owns ho1 (by omega);have hW1:=grown_W hl.hW (kb_alloc wo q _) (by simp) hg1 (owns_ne_cells RI.out hl.hW (by decide));have P1:=push_after (i:=2) hl.hW RI.out (by decide) (kb_alloc wo q _) (by simp) ⟨rfl,rfl,rfl⟩ ho1 hg1 hloc1 (by omega);have L1:=hl.pushI (x:=0) (by rw[hil,<-HN.out];exact P1);obtain⟨f10,f11,f12,f13,f14,f1z⟩:=W_cells hW1;rw[hkl,<-HN.out] at f13;rw[hpl,<-HN.out] at f14;rw[hil,<-HN.out] at f12;have RK1:=L1.1.rowK;rw[hkl,<-HN.out] at RK1;have hs1:wo.heap.size<=w1.heap.size:=by have:=L1.2.size;simpa using this
      have L1h:Hid _:=L1;have HRK1:Hid _:=RK1;clear ho1 hg1 hloc1 P1 L1 RK1 hW1;go_wp2_with (at_builtin;refine wpList_append_at rfl (.tmp 69) (.tmp 70) 60 rfl 0 4 iB _ 1 1 underlying60 hB hB0 hB1 hB2 rfl (by decide) (.slice ka n kc) n (encB (known++List.replicate k false)) rfl (World.ownsRow.alloc HRK1.out _) ⟨w1.heap.size,0,none⟩ 1 1 [.bool false] rfl rfl (one_cell _ _ _ _ (by simp)) one_bool (by unfold maxLen;omega) (by omega) (zzF _) ?_);intro v2 w2 ho2 hg2 hloc2;obtain⟨g2,cap2,rfl⟩:=slice_of_owns ho2 (by omega);have hW2:=grown_W L1h.out.1.hW (kb_alloc0 _ _) (by simp) hg2 (owns_ne_cells HRK1.out L1h.out.1.hW (by decide));have P2:=push_after (i:=3) L1h.out.1.hW HRK1.out (by decide) (kb_alloc0 _ _) (by simp) ⟨rfl,rfl,rfl⟩ ho2 hg2 hloc2 (by simp);have L2:=L1h.out.1.pushK (x:=false) (by rw[hkl,<-HN.out];exact P2);obtain⟨f20,f21,f22,f23,f24,f2z⟩:=W_cells hW2;rw[hkl,<-HN.out] at f23;rw[hpl,<-HN.out] at f24;have RP2:=L2.1.rowP;rw[hpl,<-HN.out] at RP2;have L2h:Hid _:=L2;have HRP2:Hid _:=RP2;clear ho2 hg2 hloc2 P2 L2 RP2 hW2 f10 f11 f12 f13 f14 f1z;go_wp2_with (at_builtin;refine wpList_append_at rfl (.tmp 78) (.tmp 80) 61 rfl 0 3 iP _ 1 8 underlying61 hP hP0 hP1 hP2 rfl (by decide) (.slice pa n pc) n (encI ps) rfl (World.ownsRow.alloc HRP2.out _) ⟨w2.heap.size,0,none⟩ 1 1 [.int .i64 (301)] rfl rfl (one_cell _ _ _ _ (by simp)) one_int (by unfold maxLen;omega) (by omega) (zzF _) ?_);intro v3 w3 ho3 hg3 hloc3;obtain⟨g3,cap3,rfl⟩:=slice_of_owns ho3 (by omega);have hW3:=grown_W L2h.out.1.hW (kb_alloc0 _ _) (by simp) hg3 (owns_ne_cells HRP2.out L2h.out.1.hW (by decide));have P3:=push_after (i:=4) L2h.out.1.hW HRP2.out (by decide) (kb_alloc0 _ _) (by simp) ⟨rfl,rfl,rfl⟩ ho3 hg3 hloc3 (by simp);have L3:=L2h.out.1.pushP (x:=301) (by rw[hpl,<-HN.out];exact P3);obtain⟨f30,f31,f32,f33,f34,f3z⟩:=W_cells hW3;rw[hpl,<-HN.out] at f34;have L3h:Hid _:=L3;clear ho3 hg3 hloc3 P3 L3 hW3 f20 f21 f22 f23 f24 f2z;go_wp2;have HF:Growing F w (w3.setCell ⟨W,4,none⟩ (.slice (some ⟨g3,0,none⟩) (n+1) cap3)) W s r ids known ids.length (k+1) c5 c6 c7 c8 c9 c10 c11:=Growing.three hkp L1h.out L2h.out L3h.out hpl hpr hyr;go_roundw
      case rel=>exact⟨k+1,by have:=HN.out;omega,HF⟩
      case measure=>
       have e:=HF.lenAt;rw[e,HMs.out]
       have:=HN.out
       omega
     ·skip
      have hyr:(0:Int)<=(x:Int)/\(x:Int)<=bP ps.length:=⟨by omega,by rw[HPs.out];exact (cP_end (Int.le_trans hx1 (Int.mul_le_mul_of_nonneg_left (by omega) (cP_le n).1))).2 hx3⟩;go_wp2_with (at_builtin;refine wpList_append_at rfl (.tmp 60) (.tmp 61) 59 rfl 0 29 iI _ 1 8 underlying59 hI hI0 hI1 hI2 rfl (by decide) (.slice ia n ic) n (encI (ids++List.replicate k 0)) rfl (RI.out.alloc _) ⟨wo.heap.size,0,none⟩ 1 1 [.int .i64 0] rfl rfl (one_cell (wo.drewN q) _ _ _ rfl) one_int (by unfold maxLen;omega) (by omega) (zzF _) ?_);intro v1 w1 ho1 hg1 hloc1;obtain⟨g1,cap1,rfl⟩:=slice_of_owns ho1 (by omega);have hW1:=grown_W hl.hW (kb_alloc wo q _) (by simp) hg1 (owns_ne_cells RI.out hl.hW (by decide));have P1:=push_after (i:=2) hl.hW RI.out (by decide) (kb_alloc wo q _) (by simp) ⟨rfl,rfl,rfl⟩ ho1 hg1 hloc1 (by omega);have L1:=hl.pushI (x:=0) (by rw[hil,<-HN.out];exact P1);obtain⟨f10,f11,f12,f13,f14,f1z⟩:=W_cells hW1;rw[hkl,<-HN.out] at f13;rw[hpl,<-HN.out] at f14;rw[hil,<-HN.out] at f12;have RK1:=L1.1.rowK;rw[hkl,<-HN.out] at RK1;have hs1:wo.heap.size<=w1.heap.size:=by have:=L1.2.size;simpa using this
      have L1h:Hid _:=L1;have HRK1:Hid _:=RK1;clear ho1 hg1 hloc1 P1 L1 RK1 hW1;go_wp2_with (at_builtin;refine wpList_append_at rfl (.tmp 69) (.tmp 70) 60 rfl 0 4 iB _ 1 1 underlying60 hB hB0 hB1 hB2 rfl (by decide) (.slice ka n kc) n (encB (known++List.replicate k false)) rfl (World.ownsRow.alloc HRK1.out _) ⟨w1.heap.size,0,none⟩ 1 1 [.bool false] rfl rfl (one_cell _ _ _ _ (by simp)) one_bool (by unfold maxLen;omega) (by omega) (zzF _) ?_);intro v2 w2 ho2 hg2 hloc2;obtain⟨g2,cap2,rfl⟩:=slice_of_owns ho2 (by omega);have hW2:=grown_W L1h.out.1.hW (kb_alloc0 _ _) (by simp) hg2 (owns_ne_cells HRK1.out L1h.out.1.hW (by decide));have P2:=push_after (i:=3) L1h.out.1.hW HRK1.out (by decide) (kb_alloc0 _ _) (by simp) ⟨rfl,rfl,rfl⟩ ho2 hg2 hloc2 (by simp);have L2:=L1h.out.1.pushK (x:=false) (by rw[hkl,<-HN.out];exact P2);obtain⟨f20,f21,f22,f23,f24,f2z⟩:=W_cells hW2;rw[hkl,<-HN.out] at f23;rw[hpl,<-HN.out] at f24;have RP2:=L2.1.rowP;rw[hpl,<-HN.out] at RP2;have L2h:Hid _:=L2;have HRP2:Hid _:=RP2;clear ho2 hg2 hloc2 P2 L2 RP2 hW2 f10 f11 f12 f13 f14 f1z;go_wp2_with (at_builtin;refine wpList_append_at rfl (.tmp 78) (.tmp 80) 61 rfl 0 3 iP _ 1 8 underlying61 hP hP0 hP1 hP2 rfl (by decide) (.slice pa n pc) n (encI ps) rfl (World.ownsRow.alloc HRP2.out _) ⟨w2.heap.size,0,none⟩ 1 1 [.int .i64 (x)] rfl rfl (one_cell _ _ _ _ (by simp)) one_int (by unfold maxLen;omega) (by omega) (zzF _) ?_);intro v3 w3 ho3 hg3 hloc3;obtain⟨g3,cap3,rfl⟩:=slice_of_owns ho3 (by omega);have hW3:=grown_W L2h.out.1.hW (kb_alloc0 _ _) (by simp) hg3 (owns_ne_cells HRP2.out L2h.out.1.hW (by decide));have P3:=push_after (i:=4) L2h.out.1.hW HRP2.out (by decide) (kb_alloc0 _ _) (by simp) ⟨rfl,rfl,rfl⟩ ho3 hg3 hloc3 (by simp);have L3:=L2h.out.1.pushP (x:=x) (by rw[hpl,<-HN.out];exact P3);obtain⟨f30,f31,f32,f33,f34,f3z⟩:=W_cells hW3;rw[hpl,<-HN.out] at f34;have L3h:Hid _:=L3;clear ho3 hg3 hloc3 P3 L3 hW3 f20 f21 f22 f23 f24 f2z;go_wp2;have HF:Growing F w (w3.setCell ⟨W,4,none⟩ (.slice (some ⟨g3,0,none⟩) (n+1) cap3)) W s r ids known ids.length (k+1) c5 c6 c7 c8 c9 c10 c11:=Growing.three hkp L1h.out L2h.out L3h.out hpl hpr hyr;go_roundw
      case rel=>exact⟨k+1,by have:=HN.out;omega,HF⟩
      case measure=>
       have e:=HF.lenAt;rw[e,HMs.out]
       have:=HN.out
       omega
  ·have HD:Hid (k=ros.length-ids.length):=by have:=HN.out;show _=_;omega
   have hnn:¬(n:Int)<(ros.length:Int):=by omega
   have hnd:decide ((n:Int)<(ros.length:Int))=false:=zzE hnn;clear hn;go_wp2
   go_quiet (fail)
   go_wp2;go_end0;refine⟨rfl,?_⟩;rw[<-HD.out];exact Growing.drewN HGr.out nq
end
def heldElem (v:Value):Option (DataW Value×List MemPlace):=some (.held v,[])
def VMap (w:World)(k:TypeId)(b n:Nat)(M:Lit->Option Value):Prop:=
 ∃D:DataW Value,w.ownsMap prog k heldElem b n D/\∀kl,WideAt.IsKeyLit kl->∀z,D.atKey kl z=((M kl).map DataW.held).getD z
theorem VMap.lt {w:World}{k:TypeId}{b n:Nat}{M:Lit->Option Value}(h:VMap w k b n M):b<w.heap.size:=by
 obtain⟨D,hD,_⟩:=h;exact hD.lt
theorem VMap.keep {w w':World}{k:TypeId}{b n:Nat}{M:Lit->Option Value}(h:VMap w k b n M)(e:w'.heap[b]? = w.heap[b]?):VMap w' k b n M:=by
 obtain⟨D,hD,hM⟩:=h;exact⟨D,ownsMap_keep hD e,hM⟩
theorem VMap.isMap {w:World}{k:TypeId}{b n:Nat}{M:Lit->Option Value}(h:VMap w k b n M):∃es clock,w.heap[b]? = some (.map es clock):=by
 obtain⟨D,hD,_⟩:=h;exact ownsMap_isMap hD
theorem vmap_at {w:World}{k:TypeId}{b:Nat}(h:w.heap[b]? = some (.map #[] 0)):VMap w k b 0 (fun _=>none):=
 ⟨.map [],⟨#[],0,h,⟨by simp,MapKept.stamped_empty 0,by simp⟩,zzC _,rfl⟩,fun kl _ z=>rfl⟩
theorem vmap_has {D:DataW Value}{M:Lit->Option Value}{kl:Lit}(h:∀z,D.atKey kl z=((M kl).map DataW.held).getD z):Maps.has D kl=(M kl).isSome:=by
 cases hm:M kl with
 | none=>rw[hm] at h;exact Maps.has_false_of_atKey h
 | some v=>rw[hm] at h;exact Maps.has_true_of_atKey h
theorem VMap.look_ok {w:World}{k:TypeId}{b n:Nat}{M:Lit->Option Value}(h:VMap w k b n M)(K:Maps.Keyed prog k){t e:TypeId}(ht:prog.underlying t=some (.map k e)){z:Value}(hz:(zeroValue e).run prog w=.ok z w)
  {key:Value}{kl:Lit}(hkey:keyOf prog k key=some kl):(Instr.lookup t (.map (some b)) key true).run prog w=.ok (.tuple #[(M kl).getD z,.bool (M kl).isSome]) w:=by
 obtain⟨D,hD,hM⟩:=h;have hk:=K.key hkey;obtain⟨v,ps,hrun,hv⟩:=hD.look_ok K ht hz (zd:=.held z) (zp:=[]) rfl hkey;rw[hM kl hk,] at hv;rw[hrun,vmap_has (hM kl hk)];cases hm:M kl with
 | none=>rw[hm] at hv;simp only[heldElem,Option.map_none,Option.getD_none,Option.some.injEq,Prod.mk.injEq,DataW.held.injEq] at hv;rw[hv.1];rfl
 | some u=>rw[hm] at hv;simp only[heldElem,Option.map_some,Option.getD_some,Option.some.injEq,Prod.mk.injEq,DataW.held.injEq] at hv;rw[hv.1];rfl
theorem VMap.look {w:World}{k:TypeId}{b n:Nat}{M:Lit->Option Value}(h:VMap w k b n M)(K:Maps.Keyed prog k){t e:TypeId}(ht:prog.underlying t=some (.map k e)){z:Value}(hz:(zeroValue e).run prog w=.ok z w)
  {key:Value}{kl:Lit}(hkey:keyOf prog k key=some kl):(Instr.lookup t (.map (some b)) key false).run prog w=.ok ((M kl).getD z) w:=by
 obtain⟨D,hD,hM⟩:=h;have hk:=K.key hkey;obtain⟨v,ps,hrun,hv⟩:=hD.lookup K ht hz (zd:=.held z) (zp:=[]) rfl hkey;rw[hM kl hk] at hv;rw[hrun];cases hm:M kl with
 | none=>rw[hm] at hv;simp only[heldElem,Option.map_none,Option.getD_none,Option.some.injEq,Prod.mk.injEq,DataW.held.injEq] at hv;rw[hv.1];rfl
 | some u=>rw[hm] at hv;simp only[heldElem,Option.map_some,Option.getD_some,Option.some.injEq,Prod.mk.injEq,DataW.held.injEq] at hv;rw[hv.1];rfl
noncomputable def mset (M:Lit->Option Value)(kl:Lit)(v:Option Value):Lit->Option Value:=fun x=>by
 classical exact if x=kl then v else M x
theorem mset_same (M:Lit->Option Value)(kl:Lit)(v:Option Value):mset M kl v kl=v:=by simp[mset]
theorem mset_other {M:Lit->Option Value}{kl x:Lit}(h:x≠kl)(v:Option Value):mset M kl v x=M x:=by simp[mset,h]
theorem vmap_put {D:DataW Value}{M:Lit->Option Value}(hm:Maps.IsMap D)(hM:∀kl,WideAt.IsKeyLit kl->∀z,D.atKey kl z=((M kl).map DataW.held).getD z){kl:Lit}(hk:WideAt.IsKeyLit kl)(v:Value):
  ∀x,WideAt.IsKeyLit x->∀z,(D.put kl (.held v)).atKey x z=((mset M kl (some v) x).map DataW.held).getD z:=by
 intro x hx z;by_cases e:x=kl
 ·subst e;rw[Maps.atKey_put_same hm hk,mset_same];rfl
 ·rw[Maps.atKey_put_other e,mset_other e,hM x hx]
theorem vmap_del {D:DataW Value}{M:Lit->Option Value}(hM:∀kl,WideAt.IsKeyLit kl->∀z,D.atKey kl z=((M kl).map DataW.held).getD z)(kl:Lit):
  ∀x,WideAt.IsKeyLit x->∀z,(D.del kl).atKey x z=((mset M kl none x).map DataW.held).getD z:=by
 intro x hx z;by_cases e:x=kl
 ·subst e;rw[Maps.atKey_del_same,mset_same];rfl
 ·rw[Maps.atKey_del_other e,mset_other e,hM x hx]
theorem VMap.store {w:World}{k:TypeId}{b n:Nat}{M:Lit->Option Value}(h:VMap w k b n M)(K:Maps.Keyed prog k){t e:TypeId}(ht:prog.underlying t=some (.map k e))(hn:n<maxLen)
  {key val:Value}{kl:Lit}(hkey:keyOf prog k key=some kl):
  ∃w',(Instr.mapUpdate t (.map (some b)) key val).run prog w=.ok () w'/\VMap w' k b (n+1) (mset M kl (some val))/\w.grownBy w' (some b)/\w'.heap.size=w.heap.size:=by
 obtain⟨D,hD,hM⟩:=h;have hk:=K.key hkey;obtain⟨w',hrun,hD',hg⟩:=hD.store K ht hn hkey (val:=val) (d:=.held val) (ps:=[]) rfl;refine⟨w',hrun,⟨_,hD',vmap_put hD.isMap hM hk val⟩,hg.grown,?_⟩;obtain⟨es,clock,es',clock',hb,rfl⟩:=hg;simp[ChangeMaps.setBlock]
theorem VMap.drop {w:World}{k:TypeId}{b n:Nat}{M:Lit->Option Value}(h:VMap w k b n M)(K:Maps.Keyed prog k){t e:TypeId}(ht:prog.underlying t=some (.map k e))
  {key:Value}{kl:Lit}(hkey:keyOf prog k key=some kl)(ty:TypeId):
  ∃w',(Builtin.delete_ #[t,k] ty #[.map (some b),key]).run prog w=.ok (.tuple #[]) w'/\VMap w' k b n (mset M kl none)/\w.grownBy w' (some b)/\w'.heap.size=w.heap.size:=by
 obtain⟨D,hD,hM⟩:=h;obtain⟨w',hrun,hD',hg⟩:=hD.drop K ht hkey ty;refine⟨w',hrun,⟨_,hD',vmap_del hM kl⟩,hg.grown,?_⟩;obtain⟨es,clock,es',clock',hb,rfl⟩:=hg;simp[ChangeMaps.setBlock]
inductive LT where
 | file (id:Int)
 | held (f:Nat)
 | dir (id:Int)
 | own (es:List (ByteArray×LT))
abbrev Kids:=List (ByteArray×LT)
def LT.kind:LT->Int
 | .file _=>1
 | .held _=>1
 | .dir _=>2
 | .own _=>2
def LT.id:LT->Int
 | .file i=>i
 | .held _=>0
 | .dir i=>i
 | .own _=>0
def entOf (x:ByteArray×LT):Ent:=(x.1,x.2.kind,x.2.id)
def ltOf (e:Ent):LT:=if e.2.1=2 then .dir e.2.2 else .file e.2.2
def kidOf (e:Ent):ByteArray×LT:=(e.1,ltOf e)
def entsOf (objs:List Ob)(id:Int):List Ent:=((objs[(id-1).toNat]?).map (fun o:Ob=>o.ents)).getD []
def bytesOf (objs:List Ob)(id:Int):ByteArray:=((objs[(id-1).toNat]?).map (fun o:Ob=>o.data)).getD ⟨#[]⟩
def kids (objs:List Ob):LT->Option Kids
 | .own es=>some es
 | .dir id=>some ((entsOf objs id).map kidOf)
 | _=>none
def pickK (es:Kids)(n:ByteArray):Option LT:=(es.find? (fun x=>decide (x.1=n))).map (·.2)
def LT.at (objs:List Ob):LT->List ByteArray->Option LT
 | t,[]=>some t
 | t,n :: r=>(kids objs t).bind fun es=>(pickK es n).bind fun c=>c.at objs r
theorem at_cons (objs:List Ob)(t:LT)(n:ByteArray)(r:List ByteArray):t.at objs (n :: r)=(kids objs t).bind fun es=>(pickK es n).bind fun c=>c.at objs r:=by rw[LT.at]
theorem at_nil (objs:List Ob)(t:LT):t.at objs []=some t:=by rw[LT.at]
theorem at_append (objs:List Ob):∀(p q:List ByteArray) (t:LT),t.at objs (p++q)=(t.at objs p).bind fun c=>c.at objs q
 | [],q,t=>by rw[List.nil_append,at_nil];rfl
 | n :: r,q,t=>by
  rw[List.cons_append,at_cons,at_cons]
  cases kids objs t with
  | none=>rfl
  | some es=>
   simp only[Option.bind_some]
   cases pickK es n with
   | none=>rfl
   | some c=>simp only[Option.bind_some];exact at_append objs r q c
def modG (objs:List Ob)(f:Kids->Kids):List ByteArray->LT->LT
 | [],t=>.own (f ((kids objs t).getD []))
 | n :: r,t=>.own (((kids objs t).getD []).map fun x=>if x.1=n then (x.1,modG objs f r x.2) else x)
theorem modG_kids (objs:List Ob)(f:Kids->Kids)(t:LT):kids objs (modG objs f [] t)=some (f ((kids objs t).getD [])):=by rw[modG];rfl
theorem modG_cons (objs:List Ob)(f:Kids->Kids)(n:ByteArray)(r:List ByteArray)(t:LT):kids objs (modG objs f (n :: r) t)=some (((kids objs t).getD []).map fun x=>if x.1=n then (x.1,modG objs f r x.2) else x):=by rw[modG];rfl
theorem pick_map (n:ByteArray)(g:LT->LT)(m:ByteArray):∀es:Kids,pickK (es.map fun x=>if x.1=n then (x.1,g x.2) else x) m=if m=n then (pickK es m).map g else pickK es m
 | []=>by split <;> rfl
 | x :: r=>by
  have ih:=pick_map n g m r
  unfold pickK at ih ⊢
  rw[List.map_cons]
  by_cases hx:x.1=n
  ·rw[zzD hx]
   by_cases hm:x.1=m
   ·have hmn:m=n:=hm.symm.trans hx
    rw[zzD hmn,List.find?_cons_of_pos (by simpa using hm),List.find?_cons_of_pos (by simpa using hm)];rfl
   ·rw[List.find?_cons_of_neg (by simpa using hm),List.find?_cons_of_neg (by simpa using hm)];exact ih
  ·rw[zzB hx]
   by_cases hm:x.1=m
   ·have hmn:¬m=n:=fun e=>hx (hm.trans e)
    rw[zzB hmn,List.find?_cons_of_pos (by simpa using hm),List.find?_cons_of_pos (by simpa using hm)]
   ·rw[List.find?_cons_of_neg (by simpa using hm),List.find?_cons_of_neg (by simpa using hm)];exact ih
inductive Nd where
 | dir
 | file (d:ByteArray)
 deriving DecidableEq
abbrev FileC:=Nat->ByteArray
def nd (objs:List Ob)(fc:FileC):LT->Nd
 | .file i=>.file (bytesOf objs i)
 | .held f=>.file (fc f)
 | .dir _=>.dir
 | .own _=>.dir
def sem (objs:List Ob)(fc:FileC)(t:LT)(p:List ByteArray):Option Nd:=(t.at objs p).map (nd objs fc)
theorem sem_nil (objs:List Ob)(fc:FileC)(t:LT):sem objs fc t []=some (nd objs fc t):=by unfold sem;rw[at_nil];rfl
theorem sem_cons (objs:List Ob)(fc:FileC)(t:LT)(n:ByteArray)(r:List ByteArray):sem objs fc t (n :: r)=(kids objs t).bind fun es=>(pickK es n).bind fun c=>sem objs fc c r:=by
 unfold sem;rw[at_cons];cases kids objs t with
 | none=>rfl
 | some es=>
  simp only[Option.bind_some];cases pickK es n <;> rfl
theorem sem_mod (objs:List Ob)(fc:FileC)(f:Kids->Kids):∀(p:List ByteArray) (t d:LT) (ks:Kids),t.at objs p=some d->kids objs d=some ks->
  (∀n r,sem objs fc (modG objs f p t) (p++n :: r)=(pickK (f ks) n).bind fun c=>sem objs fc c r)/\
  (∀q,(¬ ∃n r,q=p++n :: r)->sem objs fc (modG objs f p t) q=sem objs fc t q)
 | [],t,d,ks,ha,hk=>by
  rw[at_nil] at ha;cases ha
  refine⟨fun n r=>?_,fun q hq=>?_⟩
  ·rw[List.nil_append,sem_cons,modG_kids,hk];rfl
  ·cases q with
   | nil=>
    rw[sem_nil,sem_nil,modG]
    cases t <;> first | rfl | (simp[kids] at hk)
   | cons n r=>exact absurd ⟨n,r,rfl⟩ hq
 | m :: p,t,d,ks,ha,hk=>by
  rw[at_cons] at ha
  cases hkt:kids objs t with
  | none=>rw[hkt] at ha;simp at ha
  | some es=>
   rw[hkt] at ha
   simp only[Option.bind_some] at ha
   cases hc:pickK es m with
   | none=>rw[hc] at ha;simp at ha
   | some c=>
    rw[hc] at ha
    simp only[Option.bind_some] at ha
    obtain⟨i1,i2⟩:=sem_mod objs fc f p c d ks ha hk
    refine⟨fun n r=>?_,fun q hq=>?_⟩
    ·rw[List.cons_append,sem_cons,modG_cons,hkt,Option.getD_some,Option.bind_some,pick_map,zzD rfl,hc,Option.map_some,Option.bind_some]
     exact i1 n r
    ·cases q with
     | nil=>
      rw[sem_nil,sem_nil,modG]
      cases t <;> first | rfl | (simp[kids] at hkt)
     | cons n r=>
      rw[sem_cons,sem_cons,modG_cons,hkt,Option.getD_some,Option.bind_some,Option.bind_some,pick_map]
      by_cases hn:n=m
      ·subst hn
       rw[zzD rfl,hc,Option.map_some,Option.bind_some,Option.bind_some]
       exact i2 r (fun⟨x,y,e⟩=>hq ⟨x,y,by rw[e];rfl⟩)
      ·rw[zzB hn]
structure FS where
 got:List Int
 brk:Bool
 kF:Int->Bool
 kD:Int->Bool
def FS.dirG (s:FS)(id:Int):FS×Bool:=
 if s.kD id then (s,true) else if s.brk then ({ s with brk:=false },false) else ({ s with got:=s.got ++ [id],kD:=fun x=>decide (x=id) || s.kD x },true)
def FS.fileG (s:FS)(id:Int):FS×Bool:=
 if s.kF id then (s,true) else if s.brk then ({ s with brk:=false },false) else ({ s with got:=s.got ++ [id],kF:=fun x=>decide (x=id) || s.kF x },true)
def FS.kn (s:FS)(x:Int):Nat:=(s.kF x).toNat+(s.kD x).toNat
def FS.Next (s s':FS):Prop:=s'.brk=s.brk/\(s.brk=true->s'=s)/\(∃l,s'.got=s.got++l/\∀x,l.count x+s.kn x=s'.kn x)/\(∀x,s.kF x=true->s'.kF x=true)/\(∀x,s.kD x=true->s'.kD x=true)
def FS.Fail (s s':FS):Prop:=s.brk=true/\s' = { s with brk:=false }
theorem FS.Next.refl (s:FS):s.Next s:=⟨rfl,fun _=>rfl,⟨[],by simp,fun x=>by simp⟩,fun _ h=>h,fun _ h=>h⟩
theorem FS.Next.trans {s s' s'':FS}(h:s.Next s')(k:s'.Next s''):s.Next s'':=by
 obtain⟨h1,h2,⟨l,h3,h6⟩,h4,h5⟩:=h;obtain⟨k1,k2,⟨m,k3,k6⟩,k4,k5⟩:=k;refine⟨k1.trans h1,fun hb=>?_,⟨l++m,by rw[k3,h3,List.append_assoc],fun x=>by rw[List.count_append];have:=h6 x;have:=k6 x;omega⟩,fun x hx=>k4 x (h4 x hx),fun x hx=>k5 x (h5 x hx)⟩;rw[k2 (h1.trans hb),h2 hb]
theorem FS.Next.fail {s s' s'':FS}(h:s.Next s')(k:s'.Fail s''):s.Fail s'':=by
 obtain⟨k1,k2⟩:=k;have hb:s.brk=true:=h.1.symm.trans k1;have he:=h.2.1 hb;subst he;exact⟨hb,k2⟩
theorem kn_one {f:Int->Bool}{id:Int}(h:¬f id=true){n:Nat}(x:Int):[id].count x+(n+(f x).toNat)=n+(decide (x=id) || f x).toNat:=by
 by_cases hx:x=id
 ·subst hx
  have:f x=false:=by simpa using h
  simp[this];omega
 ·have hx':¬id=x:=fun e=>hx e.symm
  simp[hx,hx']
theorem FS.dirG_cases (s:FS)(id:Int):((s.dirG id).2=true/\s.Next (s.dirG id).1/\(s.dirG id).1.kD id=true)\/((s.dirG id).2=false/\s.Fail (s.dirG id).1):=by
 unfold FS.dirG;by_cases h:s.kD id=true
 ·rw[zzD h];exact .inl ⟨rfl,FS.Next.refl s,h⟩
 ·rw[zzB h]
  by_cases hb:s.brk=true
  ·rw[zzD hb];exact .inr ⟨rfl,hb,rfl⟩
  ·rw[zzB hb]
   exact .inl ⟨rfl,⟨rfl,fun h=>absurd h hb,⟨[id],rfl,fun x=>kn_one h x⟩,fun _ h=>h,fun x hx=>by simp[hx]⟩,by simp⟩
theorem FS.fileG_cases (s:FS)(id:Int):((s.fileG id).2=true/\s.Next (s.fileG id).1/\(s.fileG id).1.kF id=true)\/((s.fileG id).2=false/\s.Fail (s.fileG id).1):=by
 unfold FS.fileG;by_cases h:s.kF id=true
 ·rw[zzD h];exact .inl ⟨rfl,FS.Next.refl s,h⟩
 ·rw[zzB h]
  by_cases hb:s.brk=true
  ·rw[zzD hb];exact .inr ⟨rfl,hb,rfl⟩
  ·rw[zzB hb]
   exact .inl ⟨rfl,⟨rfl,fun h=>absurd h hb,⟨[id],rfl,fun x=>by have:=kn_one h (n:=0) x;unfold FS.kn;simp only;omega⟩,fun x hx=>by simp[hx],fun _ h=>h⟩,by simp⟩
def kidsG (objs:List Ob)(s:FS):LT->FS×Int×Kids
 | .own es=>(s,0,es)
 | .dir id=>if (s.dirG id).2 then ((s.dirG id).1,0,(entsOf objs id).map kidOf) else ((s.dirG id).1,14,[])
 | _=>(s,5,[])
def kidsE (objs:List Ob):LT->Int×Kids
 | .own es=>(0,es)
 | .dir id=>(0,(entsOf objs id).map kidOf)
 | _=>(5,[])
def findR (objs:List Ob)(t:LT)(s:FS):List ByteArray->FS×Int×LT
 | []=>(s,0,t)
 | n :: r=>
  let a:=findR objs t s r
  if a.2.1≠0 then (a.1,a.2.1,.dir 0) else
  let b:=kidsG objs a.1 a.2.2
  if b.2.1≠0 then (b.1,b.2.1,.dir 0) else
  match pickK b.2.2 n with
  | none=>(b.1,4,.dir 0)
  | some c=>(b.1,0,c)
def findE (objs:List Ob)(t:LT):List ByteArray->Int×LT
 | []=>(0,t)
 | n :: r=>
  let a:=findE objs t r
  if a.1≠0 then (a.1,.dir 0) else
  let b:=kidsE objs a.2
  if b.1≠0 then (b.1,.dir 0) else
  match pickK b.2 n with
  | none=>(4,.dir 0)
  | some c=>(0,c)
def lookR (objs:List Ob)(t:LT)(s:FS)(r:List ByteArray):FS×Int×Kids:=
 let a:=findR objs t s r
 if a.2.1≠0 then (a.1,a.2.1,[]) else kidsG objs a.1 a.2.2
def lookE (objs:List Ob)(t:LT)(r:List ByteArray):Int×Kids:=
 let a:=findE objs t r
 if a.1≠0 then (a.1,[]) else kidsE objs a.2
theorem kidsE_not14 (objs:List Ob)(t:LT):(kidsE objs t).1≠14:=by cases t <;> simp[kidsE]
theorem kidsG_cases (objs:List Ob)(s:FS)(t:LT):(s.Next (kidsG objs s t).1/\(kidsG objs s t).2=kidsE objs t)\/(s.Fail (kidsG objs s t).1/\(kidsG objs s t).2=(14,[])):=by
 cases t with
 | file i=>exact .inl ⟨FS.Next.refl s,rfl⟩
 | held f=>exact .inl ⟨FS.Next.refl s,rfl⟩
 | own es=>exact .inl ⟨FS.Next.refl s,rfl⟩
 | dir id=>
  have e1:kidsG objs s (.dir id)=if (s.dirG id).2 then ((s.dirG id).1,0,(entsOf objs id).map kidOf) else ((s.dirG id).1,14,[]):=rfl;have e2:kidsE objs (.dir id)=(0,(entsOf objs id).map kidOf):=rfl;rw[e1,e2];rcases s.dirG_cases id with ⟨h,hn,_⟩ | ⟨h,hf⟩
  ·rw[zzD h];exact .inl ⟨hn,rfl⟩
  ·rw[zzB (by rw[h];decide)];exact .inr ⟨hf,rfl⟩
theorem findR_cases (objs:List Ob)(t:LT)(s:FS):∀r,(s.Next (findR objs t s r).1/\(findR objs t s r).2=findE objs t r/\(findE objs t r).1≠14)\/(s.Fail (findR objs t s r).1/\(findR objs t s r).2=(14,.dir 0))
 | []=>.inl ⟨FS.Next.refl s,rfl,by simp[findE]⟩
 | n :: r=>by
  rcases findR_cases objs t s r with ⟨hn,he,h14⟩ | ⟨hf,he⟩
  ·have e1:(findR objs t s r).2.1=(findE objs t r).1:=by rw[he]
   have e2:(findR objs t s r).2.2=(findE objs t r).2:=by rw[he]
   unfold findR findE
   by_cases h0:(findE objs t r).1≠0
   ·simp only[e1,zzD h0]
    exact .inl ⟨hn,trivial,h14⟩
   ·simp only[e1,e2,zzB h0]
    rcases kidsG_cases objs (findR objs t s r).1 (findE objs t r).2 with ⟨kn,ke⟩ | ⟨kf,ke⟩
    ·have k1:(kidsG objs (findR objs t s r).1 (findE objs t r).2).2.1=(kidsE objs (findE objs t r).2).1:=by rw[ke]
     have k2:(kidsG objs (findR objs t s r).1 (findE objs t r).2).2.2=(kidsE objs (findE objs t r).2).2:=by rw[ke]
     rw[k1,k2]
     have hk:=kidsE_not14 objs (findE objs t r).2
     by_cases hb:(kidsE objs (findE objs t r).2).1≠0
     ·rw[zzD hb,zzD hb];exact .inl ⟨hn.trans kn,rfl,hk⟩
     ·rw[zzB hb,zzB hb]
      cases hp:pickK (kidsE objs (findE objs t r).2).2 n with
      | none=>exact .inl ⟨hn.trans kn,rfl,by simp⟩
      | some c=>exact .inl ⟨hn.trans kn,rfl,by simp⟩
    ·have k1:(kidsG objs (findR objs t s r).1 (findE objs t r).2).2.1=14:=by rw[ke]
     rw[k1,zzD (by decide)]
     exact .inr ⟨hn.fail kf,rfl⟩
  ·have e1:(findR objs t s r).2.1=14:=by rw[he]
   unfold findR
   simp only[e1]
   rw[zzD (by decide)]
   exact .inr ⟨hf,rfl⟩
theorem lookR_cases (objs:List Ob)(t:LT)(s:FS)(r:List ByteArray):(s.Next (lookR objs t s r).1/\(lookR objs t s r).2=lookE objs t r/\(lookE objs t r).1≠14)\/(s.Fail (lookR objs t s r).1/\(lookR objs t s r).2=(14,[])):=by
 rcases findR_cases objs t s r with ⟨hn,he,h14⟩ | ⟨hf,he⟩
 ·have e1:(findR objs t s r).2.1=(findE objs t r).1:=by rw[he]
  have e2:(findR objs t s r).2.2=(findE objs t r).2:=by rw[he]
  unfold lookR lookE;by_cases h0:(findE objs t r).1≠0
  ·simp only[e1,zzD h0];exact .inl ⟨hn,trivial,h14⟩
  ·simp only[e1,e2,zzB h0]
   rcases kidsG_cases objs (findR objs t s r).1 (findE objs t r).2 with ⟨kn,ke⟩ | ⟨kf,ke⟩
   ·exact .inl ⟨hn.trans kn,ke,kidsE_not14 _ _⟩
   ·exact .inr ⟨hn.fail kf,ke⟩
 ·have e1:(findR objs t s r).2.1=14:=by rw[he]
  unfold lookR;simp only[e1];rw[zzD (by decide)];exact .inr ⟨hf,rfl⟩
theorem findE_at (objs:List Ob)(t:LT):∀r,((findE objs t r).1=0->t.at objs r.reverse=some (findE objs t r).2)/\((findE objs t r).1≠0->t.at objs r.reverse=none)
 | []=>⟨fun _=>by rw[List.reverse_nil,at_nil];rfl,fun h=>absurd rfl h⟩
 | n :: r=>by
  obtain⟨i1,i2⟩:=findE_at objs t r
  have hsn:t.at objs (n :: r).reverse=(t.at objs r.reverse).bind fun c=>c.at objs [n]:=by rw[List.reverse_cons,at_append]
  have h1:∀c:LT,c.at objs [n]=(kids objs c).bind fun es=>pickK es n:=by
   intro c;rw[at_cons];cases kids objs c with
   | none=>rfl
   | some es=>
    simp only[Option.bind_some];cases pickK es n with
    | none=>rfl
    | some x=>simp only[Option.bind_some];rw[at_nil]
  rw[hsn];unfold findE;by_cases h0:(findE objs t r).1≠0
  ·simp only[zzD h0]
   rw[i2 h0];exact⟨fun h=>absurd h h0,fun _=>rfl⟩
  ·simp only[zzB h0]
   rw[i1 (Decidable.not_not.1 h0),Option.bind_some,h1];cases hd:(findE objs t r).2 with
   | file i=>simp[kidsE,kids]
   | held f=>simp[kidsE,kids]
   | own es=>
    simp only[kidsE,kids,Option.bind_some];cases hp:pickK es n <;> simp
   | dir id=>
    simp only[kidsE,kids,Option.bind_some];cases hp:pickK ((entsOf objs id).map kidOf) n <;> simp
section
variable {α β:Type}
def cmpN (a b:ByteArray):Int:=Lib.compareBytes a.data.toList b.data.toList
theorem cmpN_self (a:ByteArray):cmpN a a=0:=cmp_self _
theorem cmpN_zero {a b:ByteArray}(h:cmpN a b=0):a=b:=bytes_inj (cmp_eq_zero _ _ h)
theorem cmpN_swap (a b:ByteArray):cmpN b a = - cmpN a b:=cmp_swap _ _
theorem cmpN_trans {a b c:ByteArray}(h:cmpN a b<0)(k:cmpN b c<0):cmpN a c<0:=cmp_trans _ _ _ h k
def RisingK (es:List (ByteArray×α)):Prop:=es.Pairwise fun x y=>cmpN x.1 y.1<0
def idxK (es:List (ByteArray×α))(n:ByteArray):Nat:=es.countP fun x=>decide (cmpN x.1 n<0)
def thereK (es:List (ByteArray×α))(n:ByteArray):Bool:=((es[idxK es n]?).map fun x=>decide (x.1=n)).getD false
def getK (es:List (ByteArray×α))(n:ByteArray):Option α:=(es.find? fun x=>decide (x.1=n)).map (·.2)
theorem idxK_le (es:List (ByteArray×α))(n:ByteArray):idxK es n<=es.length:=List.countP_le_length
theorem idxK_cons_lt {x:ByteArray×α}{r:List (ByteArray×α)}{n:ByteArray}(h:cmpN x.1 n<0):idxK (x :: r) n=idxK r n+1:=by unfold idxK;rw[List.countP_cons_of_pos (by simpa using h)]
theorem idxK_cons_ge {x:ByteArray×α}{r:List (ByteArray×α)}{n:ByteArray}(hr:RisingK (x :: r))(h:¬cmpN x.1 n<0):idxK (x :: r) n=0:=by
 unfold idxK;rw[List.countP_eq_zero];intro y hy;rcases List.mem_cons.1 hy with rfl | hy
 ·simpa using h
 ·have h1:=(List.pairwise_cons.1 hr).1 y hy
  simp only[decide_eq_true_eq];exact fun h2=>h (cmpN_trans h1 h2)
theorem RisingK.tail {x:ByteArray×α}{r:List (ByteArray×α)}(h:RisingK (x :: r)):RisingK r:=(List.pairwise_cons.1 h).2
theorem getK_cons_pos {x:ByteArray×α}{r:List (ByteArray×α)}{n:ByteArray}(h:x.1=n):getK (x :: r) n=some x.2:=by unfold getK;rw[List.find?_cons_of_pos (by simpa using h)];rfl
theorem getK_cons_neg {x:ByteArray×α}{r:List (ByteArray×α)}{n:ByteArray}(h:x.1≠n):getK (x :: r) n=getK r n:=by unfold getK;rw[List.find?_cons_of_neg (by simpa using h)]
theorem getK_none_of {es:List (ByteArray×α)}{n:ByteArray}(h:∀x ∈ es,x.1≠n):getK es n=none:=by
 unfold getK;rw[List.find?_eq_none.2 (by intro x hx;simpa using h x hx)];rfl
theorem getK_there:∀{es:List (ByteArray×α)} {n:ByteArray},RisingK es->getK es n=if thereK es n then (es[idxK es n]?).map (·.2) else none
 | [],n,_=>by simp[getK,thereK,idxK]
 | x :: r,n,h=>by
  by_cases hx:cmpN x.1 n<0
  ·have hne:x.1≠n:=fun e=>by rw[e,cmpN_self] at hx;omega
   have ih:=getK_there (n:=n) h.tail
   rw[getK_cons_neg hne,ih]
   unfold thereK
   rw[idxK_cons_lt hx]
   simp
  ·unfold thereK
   rw[idxK_cons_ge h hx]
   simp only[List.getElem?_cons_zero,Option.map_some,Option.getD_some]
   by_cases hn:x.1=n
   ·rw[getK_cons_pos hn];simp[hn]
   ·rw[getK_cons_neg hn,getK_none_of]
    ·simp[hn]
    ·intro y hy e
     have h1:=(List.pairwise_cons.1 h).1 y hy
     rw[e] at h1
     exact hx h1
def putK (es:List (ByteArray×α))(n:ByteArray)(c:α):List (ByteArray×α):=if thereK es n then es.set (idxK es n) (n,c) else es.take (idxK es n)++(n,c) :: es.drop (idxK es n)
def dropK (es:List (ByteArray×α))(n:ByteArray):List (ByteArray×α):=es.eraseIdx (idxK es n)
theorem thereK_cons_lt {x:ByteArray×α}{r:List (ByteArray×α)}{n:ByteArray}(h:cmpN x.1 n<0):thereK (x :: r) n=thereK r n:=by unfold thereK;rw[idxK_cons_lt h];rfl
theorem putK_cons_lt {x:ByteArray×α}{r:List (ByteArray×α)}{n:ByteArray}{c:α}(h:cmpN x.1 n<0):putK (x :: r) n c=x :: putK r n c:=by
 unfold putK;rw[thereK_cons_lt h,idxK_cons_lt h];split <;> simp
theorem dropK_cons_lt {x:ByteArray×α}{r:List (ByteArray×α)}{n:ByteArray}(h:cmpN x.1 n<0):dropK (x :: r) n=x :: dropK r n:=by unfold dropK;rw[idxK_cons_lt h];rfl
theorem thereK_cons_ge {x:ByteArray×α}{r:List (ByteArray×α)}{n:ByteArray}(hr:RisingK (x :: r))(h:¬cmpN x.1 n<0):thereK (x :: r) n=decide (x.1=n):=by unfold thereK;rw[idxK_cons_ge hr h];rfl
theorem putK_cons_ge {x:ByteArray×α}{r:List (ByteArray×α)}{n:ByteArray}{c:α}(hr:RisingK (x :: r))(h:¬cmpN x.1 n<0):putK (x :: r) n c=if x.1=n then (n,c) :: r else (n,c) :: x :: r:=by
 unfold putK;rw[thereK_cons_ge hr h,idxK_cons_ge hr h];by_cases e:x.1=n <;> simp[e]
theorem dropK_cons_ge {x:ByteArray×α}{r:List (ByteArray×α)}{n:ByteArray}(hr:RisingK (x :: r))(h:¬cmpN x.1 n<0):dropK (x :: r) n=r:=by unfold dropK;rw[idxK_cons_ge hr h];rfl
theorem getK_put:∀{es:List (ByteArray×α)} {n:ByteArray} {c:α},RisingK es->∀m,getK (putK es n c) m=if m=n then some c else getK es m
 | [],n,c,_,m=>by
  by_cases e:m=n
  ·subst e;simp[putK,thereK,idxK,getK]
  ·have:¬n=m:=fun h=>e h.symm
   simp[putK,thereK,idxK,getK,e,this]
 | x :: r,n,c,h,m=>by
  by_cases hx:cmpN x.1 n<0
  ·have hne:x.1≠n:=fun e=>by rw[e,cmpN_self] at hx;omega
   rw[putK_cons_lt hx]
   by_cases hm:x.1=m
   ·rw[getK_cons_pos hm,getK_cons_pos hm,zzB (fun e=>hne (hm.trans e))]
   ·rw[getK_cons_neg hm,getK_cons_neg hm];exact getK_put h.tail m
  ·rw[putK_cons_ge h hx]
   by_cases hn:x.1=n
   ·rw[zzD hn]
    by_cases hm:m=n
    ·rw[zzD hm,getK_cons_pos hm.symm]
    ·rw[zzB hm,getK_cons_neg (fun e=>hm e.symm),getK_cons_neg (fun e=>hm (e.symm.trans hn))]
   ·rw[zzB hn]
    by_cases hm:m=n
    ·rw[zzD hm,getK_cons_pos hm.symm]
    ·rw[zzB hm,getK_cons_neg (fun e=>hm e.symm)]
theorem getK_drop:∀{es:List (ByteArray×α)} {n:ByteArray},RisingK es->thereK es n=true->∀m,getK (dropK es n) m=if m=n then none else getK es m
 | [],n,_,ht,m=>by simp[thereK,idxK] at ht
 | x :: r,n,h,ht,m=>by
  by_cases hx:cmpN x.1 n<0
  ·have hne:x.1≠n:=fun e=>by rw[e,cmpN_self] at hx;omega
   rw[thereK_cons_lt hx] at ht
   rw[dropK_cons_lt hx]
   by_cases hm:x.1=m
   ·rw[getK_cons_pos hm,getK_cons_pos hm,zzB (fun e=>hne (hm.trans e))]
   ·rw[getK_cons_neg hm,getK_cons_neg hm];exact getK_drop h.tail ht m
  ·rw[thereK_cons_ge h hx] at ht
   have hn:x.1=n:=by simpa using ht
   rw[dropK_cons_ge h hx]
   by_cases hm:m=n
   ·rw[zzD hm]
    refine getK_none_of fun y hy e=>?_
    have h1:=(List.pairwise_cons.1 h).1 y hy
    rw[e,hm,hn,cmpN_self] at h1;omega
   ·rw[zzB hm,getK_cons_neg (fun e=>hm (e.symm.trans hn))]
theorem putK_mem:∀{es:List (ByteArray×α)} {n:ByteArray} {c:α} {y:ByteArray×α},RisingK es->y ∈ putK es n c->y=(n,c)\/y ∈ es:=by
 intro es n c y h hy;unfold putK at hy;split at hy
 ·exact (List.mem_or_eq_of_mem_set hy).symm
 ·rw[List.mem_append,List.mem_cons] at hy
  rcases hy with h1 | h1 | h1
  ·exact .inr (List.mem_of_mem_take h1)
  ·exact .inl h1
  ·exact .inr (List.mem_of_mem_drop h1)
theorem putK_rising:∀{es:List (ByteArray×α)} {n:ByteArray} {c:α},RisingK es->RisingK (putK es n c)
 | [],n,c,_=>by simp[putK,thereK,idxK,RisingK]
 | x :: r,n,c,h=>by
  by_cases hx:cmpN x.1 n<0
  ·rw[putK_cons_lt hx]
   refine List.pairwise_cons.2 ⟨fun y hy=>?_,putK_rising h.tail⟩
   rcases putK_mem h.tail hy with rfl | hy
   ·exact hx
   ·exact (List.pairwise_cons.1 h).1 y hy
  ·rw[putK_cons_ge h hx]
   by_cases hn:x.1=n
   ·rw[zzD hn]
    exact List.pairwise_cons.2 ⟨fun y hy=>by have:=(List.pairwise_cons.1 h).1 y hy;rw[hn] at this;exact this,h.tail⟩
   ·rw[zzB hn]
    have hgt:cmpN n x.1<0:=by
     have h1:=cmpN_swap x.1 n;have h2:cmpN x.1 n≠0:=fun e=>hn (cmpN_zero e);omega
    refine List.pairwise_cons.2 ⟨fun y hy=>?_,h⟩;rcases List.mem_cons.1 hy with rfl | hy
    ·exact hgt
    ·exact cmpN_trans hgt ((List.pairwise_cons.1 h).1 y hy)
theorem putK_length (es:List (ByteArray×α))(n:ByteArray)(c:α):(putK es n c).length=if thereK es n then es.length else es.length+1:=by
 unfold putK
 have:=idxK_le es n
 split <;> simp;omega
theorem thereK_lt {es:List (ByteArray×α)}{n:ByteArray}(h:thereK es n=true):idxK es n<es.length:=by
 unfold thereK at h;by_cases hi:idxK es n<es.length
 ·exact hi
 ·rw[List.getElem?_eq_none (by omega)] at h;simp at h
theorem dropK_length {es:List (ByteArray×α)}{n:ByteArray}(h:thereK es n=true):(dropK es n).length=es.length-1:=by
 unfold dropK;rw[List.length_eraseIdx_of_lt (thereK_lt h)]
def mapK (f:ByteArray×α->β)(es:List (ByteArray×α)):List (ByteArray×β):=es.map fun x=>(x.1,f x)
theorem mapK_idx (f:ByteArray×α->β)(es:List (ByteArray×α))(n:ByteArray):idxK (mapK f es) n=idxK es n:=by
 unfold idxK mapK;rw[List.countP_map];rfl
theorem mapK_there (f:ByteArray×α->β)(es:List (ByteArray×α))(n:ByteArray):thereK (mapK f es) n=thereK es n:=by
 unfold thereK;rw[mapK_idx];unfold mapK;rw[List.getElem?_map];cases es[idxK es n]? <;> rfl
theorem mapK_rising (f:ByteArray×α->β){es:List (ByteArray×α)}(h:RisingK es):RisingK (mapK f es):=by
 unfold RisingK mapK;rw[List.pairwise_map];exact h
theorem mapK_drop (f:ByteArray×α->β)(es:List (ByteArray×α))(n:ByteArray):mapK f (dropK es n)=dropK (mapK f es) n:=by
 unfold dropK;rw[mapK_idx];unfold mapK;simp[List.eraseIdx_eq_take_drop_succ,List.map_take,List.map_drop]
end
theorem pickK_getK (es:Kids)(n:ByteArray):pickK es n=getK es n:=rfl
def zE:Ent:=(⟨#[]⟩,0,0)
structure FT where
 root:Int
 od:List ByteArray->Option (List Ent)
 of:List ByteArray->Option Nat
def upd {β:Type}(f:List ByteArray->β)(p:List ByteArray)(v:β):List ByteArray->β:=fun q=>if q=p then v else f q
theorem upd_same {β:Type}(f:List ByteArray->β)(p:List ByteArray)(v:β):upd f p v p=v:=by unfold upd;rw[zzD rfl]
theorem upd_other {β:Type}{f:List ByteArray->β}{p q:List ByteArray}(h:q≠p)(v:β):upd f p v q=f q:=by unfold upd;rw[zzB h]
def entsF (objs:List Ob)(ft:FT)(fs:FS)(p:List ByteArray)(e:Ent):FS×Int×List Ent:=
 if e.2.1≠2 then (fs,5,[]) else
 if e.2.2=0 then (fs,0,(ft.od p).getD []) else
 if (fs.dirG e.2.2).2 then ((fs.dirG e.2.2).1,0,entsOf objs e.2.2) else ((fs.dirG e.2.2).1,14,[])
def findF (objs:List Ob)(ft:FT)(fs:FS):List ByteArray->FS×Int×Ent
 | []=>(fs,0,(⟨#[]⟩,2,ft.root))
 | n :: r=>
  let a:=findF objs ft fs r
  if a.2.1≠0 then (a.1,a.2.1,zE) else
  let b:=entsF objs ft a.1 r.reverse a.2.2
  if b.2.1≠0 then (b.1,b.2.1,zE) else
  match getK b.2.2 n with
  | none=>(b.1,4,zE)
  | some c=>(b.1,0,(n,c))
def lookF (objs:List Ob)(ft:FT)(fs:FS)(r:List ByteArray):FS×Int×List Ent:=
 let a:=findF objs ft fs r
 if a.2.1≠0 then (a.1,a.2.1,[]) else entsF objs ft a.1 r.reverse a.2.2
theorem findF_cons (objs:List Ob)(ft:FT)(fs:FS)(n:ByteArray)(r:List ByteArray):findF objs ft fs (n :: r) =
  if (lookF objs ft fs r).2.1≠0 then ((lookF objs ft fs r).1,(lookF objs ft fs r).2.1,zE) else
  match getK (lookF objs ft fs r).2.2 n with
  | none=>((lookF objs ft fs r).1,4,zE)
  | some c=>((lookF objs ft fs r).1,0,(n,c)):=by
 unfold lookF;rw[findF];by_cases h:(findF objs ft fs r).2.1≠0
 ·simp only[zzD h]
 ·simp only[zzB h]
def odOf:Option LT->Option (List Ent)
 | some (.own es)=>some (es.map entOf)
 | _=>none
def ofOf:Option LT->Option Nat
 | some (.held f)=>some f
 | _=>none
structure Flat (objs:List Ob)(t:LT)(ft:FT):Prop where
 kind:t.kind=2
 root:ft.root=t.id
 od:∀p,ft.od p=odOf (t.at objs p)
 of:∀p,ft.of p=ofOf (t.at objs p)
def toL (s:ByteArray):List UInt8:=s.data.toList
theorem toL_inj {a b:ByteArray}(h:toL a=toL b):a=b:=bytes_inj h
theorem toL_len (s:ByteArray):(toL s).length=s.size:=Array.length_toList
theorem toL_eq (s:ByteArray):s.toList=toL s:=by simp only[ByteArray.toList_eq];rfl
def joinL:List (List UInt8)->List UInt8
 | []=>[]
 | [x]=>x
 | x :: y :: r=>x++47 :: joinL (y :: r)
def splitL:List UInt8->List (List UInt8)
 | []=>[[]]
 | c :: r=>if c=47 then [] :: splitL r else ((c :: (splitL r).headD []) :: (splitL r).tail)
theorem splitL_ne (s:List UInt8):splitL s ≠ []:=by
 cases s with
 | nil=>simp[splitL]
 | cons c r=>simp only[splitL];split <;> simp
theorem split_append:∀(a b:List UInt8),(∀c ∈ a,c≠47)->splitL (a++47 :: b)=a :: splitL b
 | [],b,_=>by simp[splitL]
 | c :: r,b,h=>by
  have hc:c≠47:=h c (List.mem_cons_self ..)
  have ih:=split_append r b (fun d hd=>h d (List.mem_cons_of_mem _ hd))
  simp only[List.cons_append,splitL]
  rw[zzB hc,ih];rfl
theorem split_plain:∀(a:List UInt8),(∀c ∈ a,c≠47)->splitL a = [a]
 | [],_=>rfl
 | c :: r,h=>by
  have hc:c≠47:=h c (List.mem_cons_self ..)
  have ih:=split_plain r (fun d hd=>h d (List.mem_cons_of_mem _ hd))
  simp only[splitL]
  rw[zzB hc,ih];rfl
theorem split_joinL:∀(l:List (List UInt8)),l ≠ []->(∀x ∈ l,∀c ∈ x,c≠47)->splitL (joinL l)=l
 | [],h,_=>absurd rfl h
 | [x],_,h=>by simp only[joinL];exact split_plain x (h x (List.mem_cons_self ..))
 | x :: y :: r,_,h=>by
  simp only[joinL]
  rw[split_append x _ (h x (List.mem_cons_self ..)),split_joinL (y :: r) (by simp) (fun z hz=>h z (List.mem_cons_of_mem _ hz))]
theorem joinL_cons (x:List UInt8){r:List (List UInt8)}(h:r ≠ []):joinL (x :: r)=x++47 :: joinL r:=by
 cases r with
 | nil=>exact absurd rfl h
 | cons y t=>rfl
theorem joinL_head (c:UInt8)(x:List UInt8)(r:List (List UInt8)):joinL ((c :: x) :: r)=c :: joinL (x :: r):=by
 cases r with
 | nil=>rfl
 | cons y t=>rfl
theorem join_splitL:∀(s:List UInt8),joinL (splitL s)=s
 | []=>rfl
 | c :: r=>by
  have ih:=join_splitL r
  simp only[splitL]
  split
  ·next hc=>rw[joinL_cons _ (splitL_ne r),ih,hc];rfl
  ·rw[joinL_head]
   congr 1
   cases hs:splitL r with
   | nil=>exact absurd hs (splitL_ne r)
   | cons y t=>rw[hs] at ih;exact ih
theorem joinL_snoc (x:List UInt8):∀(l:List (List UInt8)),l ≠ []->joinL (l ++ [x])=joinL l++47 :: x
 | [],h=>absurd rfl h
 | [y],_=>rfl
 | y :: z :: r,_=>by
  have ih:=joinL_snoc x (z :: r) (by simp)
  show y++47 :: joinL (z :: r ++ [x])=(y++47 :: joinL (z :: r))++47 :: x
  rw[ih];simp
theorem toL_append (a b:ByteArray):toL (a++b)=toL a++toL b:=by
 unfold toL;simp
def Valids (l:List ByteArray):Prop:=∀x ∈ l,validB x=true
theorem Valids.append {a b:List ByteArray}(ha:Valids a)(hb:Valids b):Valids (a++b):=fun x hx=>(List.mem_append.1 hx).elim (ha x) (hb x)
theorem Valids.left {a b:List ByteArray}(h:Valids (a++b)):Valids a:=fun x hx=>h x (List.mem_append_left _ hx)
theorem Valids.right {a b:List ByteArray}(h:Valids (a++b)):Valids b:=fun x hx=>h x (List.mem_append_right _ hx)
theorem Valids.take {a:List ByteArray}(h:Valids a)(k:Nat):Valids (a.take k):=fun x hx=>h x (List.mem_of_mem_take hx)
theorem at_mod (objs:List Ob)(f:Kids->Kids):∀(p:List ByteArray) (t d:LT) (ks:Kids),t.at objs p=some d->kids objs d=some ks->
  (∀n r,(modG objs f p t).at objs (p++n :: r)=(pickK (f ks) n).bind fun c=>c.at objs r)/\(modG objs f p t).at objs p=some (.own (f ks))
 | [],t,d,ks,ha,hk=>by
  rw[at_nil] at ha;cases ha
  refine⟨fun n r=>?_,?_⟩
  ·rw[List.nil_append,at_cons,modG_kids,hk];rfl
  ·rw[at_nil,modG,hk];rfl
 | m :: p,t,d,ks,ha,hk=>by
  rw[at_cons] at ha
  cases hkt:kids objs t with
  | none=>rw[hkt] at ha;simp at ha
  | some es=>
   rw[hkt,Option.bind_some] at ha
   cases hc:pickK es m with
   | none=>rw[hc] at ha;simp at ha
   | some c=>
    rw[hc,Option.bind_some] at ha
    obtain⟨i1,i2⟩:=at_mod objs f p c d ks ha hk
    refine⟨fun n r=>?_,?_⟩
    ·rw[List.cons_append,at_cons,modG_cons,hkt,Option.getD_some,Option.bind_some,pick_map,zzD rfl,hc,Option.map_some,Option.bind_some]
     exact i1 n r
    ·rw[at_cons,modG_cons,hkt,Option.getD_some,Option.bind_some,pick_map,zzD rfl,hc,Option.map_some,Option.bind_some]
     exact i2
theorem at_mod_way (objs:List Ob)(f:Kids->Kids):∀(q:List ByteArray) (m:ByteArray) (r:List ByteArray) (t d:LT),t.at objs (q++m :: r)=some d->
  ∃dq kq,t.at objs q=some dq/\kids objs dq=some kq/\(modG objs f (q++m :: r) t).at objs q=some (.own (kq.map fun x=>if x.1=m then (x.1,modG objs f r x.2) else x))
 | [],m,r,t,d,ha=>by
  rw[List.nil_append,at_cons] at ha
  cases hkt:kids objs t with
  | none=>rw[hkt] at ha;simp at ha
  | some es=>exact⟨t,es,at_nil _ _,hkt,by rw[at_nil,List.nil_append,modG,hkt];rfl⟩
 | n :: q,m,r,t,d,ha=>by
  rw[List.cons_append,at_cons] at ha
  cases hkt:kids objs t with
  | none=>rw[hkt] at ha;simp at ha
  | some es=>
   rw[hkt,Option.bind_some] at ha
   cases hc:pickK es n with
   | none=>rw[hc] at ha;simp at ha
   | some c=>
    rw[hc,Option.bind_some] at ha
    obtain⟨dq,kq,h1,h2,h3⟩:=at_mod_way objs f q m r c d ha
    refine⟨dq,kq,?_,h2,?_⟩
    ·rw[at_cons,hkt,Option.bind_some,hc,Option.bind_some];exact h1
    ·rw[List.cons_append,at_cons,modG_cons,hkt,Option.getD_some,Option.bind_some,pick_map,zzD rfl,hc,Option.map_some,Option.bind_some]
     exact h3
theorem at_mod_other (objs:List Ob)(f:Kids->Kids):∀(p q:List ByteArray) (t d:LT),t.at objs p=some d->¬q <+: p->¬p <+: q->(modG objs f p t).at objs q=t.at objs q
 | [],q,t,d,ha,h1,h2=>absurd (List.nil_prefix) h2
 | m :: p,[],t,d,ha,h1,h2=>absurd (List.nil_prefix) h1
 | m :: p,n :: q,t,d,ha,h1,h2=>by
  rw[at_cons] at ha
  cases hkt:kids objs t with
  | none=>rw[hkt] at ha;simp at ha
  | some es=>
   rw[hkt,Option.bind_some] at ha
   rw[at_cons,at_cons,modG_cons,hkt,Option.getD_some,Option.bind_some,Option.bind_some,pick_map]
   by_cases hn:n=m
   ·subst hn
    rw[zzD rfl]
    cases hc:pickK es n with
    | none=>rfl
    | some c=>
     rw[hc,Option.bind_some] at ha
     rw[Option.map_some,Option.bind_some,Option.bind_some]
     exact at_mod_other objs f p q c d ha (fun h=>h1 (List.cons_prefix_cons.2 ⟨rfl,h⟩)) (fun h=>h2 (List.cons_prefix_cons.2 ⟨rfl,h⟩))
   ·rw[zzB hn]
def Sound (objs:List Ob):Prop:=(∀id,0<=highOf objs id)/\∀id,kindOf objs id=2->RisingK (entsOf objs id)/\(entsOf objs id).length<=16/\∀e ∈ entsOf objs id,validB e.1=true/\(e.2.1=1\/e.2.1=2)/\kindOf objs e.2.2=e.2.1/\highOf objs e.2.2+1<=highOf objs id
def LTok (objs:List Ob):Nat->LT->Prop
 | _,.file id=>kindOf objs id=1
 | _,.held _=>True
 | n,.dir id=>kindOf objs id=2/\highOf objs id<=n
 | 0,.own es=>es = []
 | n+1,.own es=>RisingK es/\es.length<=16/\∀x ∈ es,validB x.1=true/\LTok objs n x.2
theorem ok_kids {objs:List Ob}(hS:Sound objs){n:Nat}{t:LT}(h:LTok objs n t){ks:Kids}(hk:kids objs t=some ks):RisingK ks/\ks.length<=16/\∀x ∈ ks,validB x.1=true/\∃m,n=m+1/\LTok objs m x.2:=by
 cases t with
 | file i=>simp[kids] at hk
 | held f=>simp[kids] at hk
 | own es=>
  simp only[kids,Option.some.injEq] at hk;subst hk;cases n with
  | zero=>rw[LTok] at h;subst h;exact⟨List.Pairwise.nil,by simp,by simp⟩
  | succ m=>rw[LTok] at h;exact⟨h.1,h.2.1,fun x hx=>⟨(h.2.2 x hx).1,m,rfl,(h.2.2 x hx).2⟩⟩
 | dir id=>
  have hk2:(entsOf objs id).map kidOf=ks:=by simpa [kids] using hk
  subst hk2;have h':kindOf objs id=2/\highOf objs id<=n:=by cases n <;> simpa [LTok] using h
  obtain⟨s1,s2,s3⟩:=hS.2 id h'.1;refine⟨?_,by simpa using s2,fun x hx=>?_⟩
  ·unfold RisingK;rw[List.pairwise_map];exact s1
  ·obtain⟨e,he,rfl⟩:=List.mem_map.1 hx
   obtain⟨v,k12,hke,hh⟩:=s3 e he;have h0:=hS.1 e.2.2;refine⟨v,n-1,by omega,?_⟩;show LTok objs (n-1) (ltOf e);unfold ltOf;by_cases h2:e.2.1=2
   ·rw[zzD h2]
    have:kindOf objs e.2.2=2/\highOf objs e.2.2<=((n-1:Nat):Int):=⟨hke.trans h2,by omega⟩
    cases hn:n-1 <;> (rw[hn] at this;simpa [LTok] using this)
   ·rw[zzB h2]
    have:kindOf objs e.2.2=1:=hke.trans (by omega)
    cases hn:n-1 <;> simpa [LTok] using this
theorem pick_mem {ks:Kids}{n:ByteArray}{c:LT}(h:pickK ks n=some c):(n,c) ∈ ks:=by
 unfold pickK at h;cases hf:ks.find? (fun x=>decide (x.1=n)) with
 | none=>rw[hf] at h;simp at h
 | some x=>
  rw[hf] at h;simp only[Option.map_some,Option.some.injEq] at h;have h1:=List.find?_some hf;have h2:=List.mem_of_find?_eq_some hf;simp only[decide_eq_true_eq] at h1;rw[<-h1,<-h];exact h2
theorem ok_at {objs:List Ob}(hS:Sound objs):∀(p:List ByteArray) {n:Nat} {t c:LT},LTok objs n t->t.at objs p=some c->p.length<=n/\LTok objs (n-p.length) c/\Valids p
 | [],n,t,c,h,ha=>by rw[at_nil] at ha;cases ha;exact⟨by simp,by simpa using h,fun x hx=>by simp at hx⟩
 | m :: p,n,t,c,h,ha=>by
  rw[at_cons] at ha
  cases hkt:kids objs t with
  | none=>rw[hkt] at ha;simp at ha
  | some ks=>
   rw[hkt,Option.bind_some] at ha
   cases hc:pickK ks m with
   | none=>rw[hc] at ha;simp at ha
   | some x=>
    rw[hc,Option.bind_some] at ha
    obtain⟨_,_,h3⟩:=ok_kids hS h hkt
    obtain⟨hv,k,rfl,hx⟩:=h3 _ (pick_mem hc)
    obtain⟨i1,i2,i3⟩:=ok_at hS p hx ha
    refine⟨by simp;omega,?_,fun y hy=>?_⟩
    ·rw[List.length_cons,show k+1-(p.length+1)=k-p.length by omega];exact i2
    ·rcases List.mem_cons.1 hy with rfl | hy
     ·exact hv
     ·exact i3 y hy
theorem kind_id {objs:List Ob}{id k:Int}(h:kindOf objs id=k)(hk:k≠0):1<=id:=by
 unfold kindOf at h;by_cases h1:1<=id
 ·exact h1
 ·rw[zzB h1] at h;exact absurd h.symm hk
theorem ents_back {es:List Ent}(h:∀e ∈ es,e.2.1=1\/e.2.1=2):(es.map kidOf).map entOf=es:=by
 rw[List.map_map];conv=>rhs;rw[<-List.map_id es]
 refine List.map_congr_left fun e he=>?_;show entOf (kidOf e)=id e;unfold entOf kidOf ltOf;obtain⟨a,k,i⟩:=e;rcases h _ he with h | h
 ·simp only at h;subst h;rfl
 ·simp only at h;subst h;rfl
theorem getK_map (ks:Kids)(n:ByteArray):getK (ks.map entOf) n=(pickK ks n).map fun c=>(c.kind,c.id):=by
 unfold getK pickK;rw[List.find?_map];show ((ks.find? _).map entOf).map _=_;rw[Option.map_map,Option.map_map];rfl
theorem flat_ents {objs:List Ob}{t c:LT}{ft:FT}(hS:Sound objs)(hF:Flat objs t ft){n:Nat}{p:List ByteArray}(hc:LTok objs n c)(ha:t.at objs p=some c)(fs:FS)(nm:ByteArray):
  entsF objs ft fs p (nm,c.kind,c.id)=((kidsG objs fs c).1,(kidsG objs fs c).2.1,(kidsG objs fs c).2.2.map entOf):=by
 unfold entsF;cases c with
 | file i=>rfl
 | held f=>rfl
 | own es=>
  have hod:=hF.od p;rw[ha] at hod;simp only[LT.kind,LT.id,hod];rfl
 | dir id=>
  have h':kindOf objs id=2:=by cases n <;> simp[LTok] at hc <;> exact hc.1
  have h1:=kind_id h' (by decide);have hb:=ents_back (fun e he=>((hS.2 id h').2.2 e he).2.1);rw[zzB (show ¬((nm,(LT.dir id).kind,(LT.dir id).id):Ent).2.1≠2 from fun h=>h rfl),zzB (show ¬((nm,(LT.dir id).kind,(LT.dir id).id):Ent).2.2=0 from by show ¬id=0;omega)];show (if (fs.dirG id).2=true then _ else _)=_;have e1:kidsG objs fs (.dir id)=if (fs.dirG id).2 then ((fs.dirG id).1,0,(entsOf objs id).map kidOf) else ((fs.dirG id).1,14,[]):=rfl;rw[e1];by_cases hg:(fs.dirG id).2=true
  ·rw[zzD hg,zzD hg];simp only[hb];rfl
  ·rw[zzB hg,zzB hg];rfl
theorem flat_find {objs:List Ob}{t:LT}{ft:FT}(hS:Sound objs)(hF:Flat objs t ft){n:Nat}(hok:LTok objs n t)(fs:FS):∀r:List ByteArray,
  (findF objs ft fs r).1=(findR objs t fs r).1/\(findF objs ft fs r).2.1=(findR objs t fs r).2.1/\
  ((findR objs t fs r).2.1=0->(findF objs ft fs r).2.2=(r.headD ⟨#[]⟩,(findR objs t fs r).2.2.kind,(findR objs t fs r).2.2.id)/\t.at objs r.reverse=some (findR objs t fs r).2.2)
 | []=>⟨rfl,rfl,fun _=>⟨by show (_,(2:Int),ft.root)=_;rw[hF.root,<-hF.kind];rfl,at_nil _ _⟩⟩
 | m :: r=>by
  obtain⟨i1,i2,i3⟩:=flat_find hS hF hok fs r
  rw[findF,findR]
  simp only[i1,i2]
  by_cases h0:(findR objs t fs r).2.1≠0
  ·simp only[zzD h0]
   exact⟨trivial,trivial,fun h=>absurd h h0⟩
  ·simp only[zzB h0]
   obtain⟨i4,i5⟩:=i3 (Decidable.not_not.1 h0)
   have hc:=(ok_at hS _ hok i5).2.1
   have he:=flat_ents hS hF hc i5 (findR objs t fs r).1 (r.headD ⟨#[]⟩)
   rw[i4,he]
   simp only
   by_cases hb:(kidsG objs (findR objs t fs r).1 (findR objs t fs r).2.2).2.1≠0
   ·rw[zzD hb,zzD hb]
    exact⟨rfl,rfl,fun h=>absurd h hb⟩
   ·rw[zzB hb,zzB hb,getK_map]
    have hkid:(kids objs (findR objs t fs r).2.2)=some (kidsG objs (findR objs t fs r).1 (findR objs t fs r).2.2).2.2:=by
     generalize (findR objs t fs r).2.2=x at hb ⊢;generalize (findR objs t fs r).1=y at hb ⊢;cases x with
     | file i=>simp[kidsG] at hb
     | held f=>simp[kidsG] at hb
     | own es=>rfl
     | dir id=>
      simp only[kidsG] at hb ⊢;by_cases hg:(y.dirG id).2=true
      ·rw[zzD hg];rfl
      ·rw[zzB hg] at hb;simp at hb
    cases hp:pickK (kidsG objs (findR objs t fs r).1 (findR objs t fs r).2.2).2.2 m with
    | none=>exact⟨rfl,rfl,fun h=>by simp at h⟩
    | some x=>
     refine⟨rfl,rfl,fun _=>⟨rfl,?_⟩⟩;rw[List.reverse_cons,at_append,i5,Option.bind_some,at_cons,hkid,Option.bind_some,hp,Option.bind_some,at_nil]
theorem flat_look {objs:List Ob}{t:LT}{ft:FT}(hS:Sound objs)(hF:Flat objs t ft){n:Nat}(hok:LTok objs n t)(fs:FS)(r:List ByteArray):
  lookF objs ft fs r=((lookR objs t fs r).1,(lookR objs t fs r).2.1,(lookR objs t fs r).2.2.map entOf):=by
 obtain⟨i1,i2,i3⟩:=flat_find hS hF hok fs r;unfold lookF lookR;simp only[i1,i2];by_cases h0:(findR objs t fs r).2.1≠0
 ·simp only[zzD h0];rfl
 ·simp only[zzB h0]
  obtain⟨i4,i5⟩:=i3 (Decidable.not_not.1 h0);have hc:=(ok_at hS _ hok i5).2.1;rw[i4,flat_ents hS hF hc i5 (findR objs t fs r).1 (r.headD ⟨#[]⟩)]
def zeroK (es:List Ent)(n:ByteArray):List Ent:=es.map fun e=>if e.1=n then (e.1,e.2.1,0) else e
def claimF (objs:List Ob)(fs:FS)(ft:FT):List ByteArray->FT
 | []=>if (ft.od []).isSome then ft else { ft with od:=upd ft.od [] (some (lookF objs ft fs []).2.2),root:=0 }
 | n :: r=>
  if (ft.od (n :: r).reverse).isSome then ft else
  let ft2:=claimF objs fs { ft with od:=upd ft.od (n :: r).reverse (some (lookF objs ft fs (n :: r)).2.2) } r
  { ft2 with od:=upd ft2.od r.reverse (some (zeroK ((ft2.od r.reverse).getD []) n)) }
theorem look_congr (objs:List Ob)(fs:FS){ft ft':FT}(hr:ft'.root=ft.root):∀r:List ByteArray,(∀x,x <+: r.reverse->ft'.od x=ft.od x)->findF objs ft' fs r=findF objs ft fs r/\lookF objs ft' fs r=lookF objs ft fs r
 | [],h=>by
  have hf:findF objs ft' fs []=findF objs ft fs []:=by rw[findF,findF,hr]
  refine⟨hf,?_⟩
  unfold lookF
  rw[hf]
  unfold entsF
  rw[show ft'.od ([]:List ByteArray).reverse=ft.od ([]:List ByteArray).reverse from h _ (List.prefix_refl _)]
 | n :: r,h=>by
  have hp:∀x,x <+: r.reverse->ft'.od x=ft.od x:=fun x hx=>h x (hx.trans (by rw[List.reverse_cons];exact List.prefix_append _ _))
  obtain⟨_,i2⟩:=look_congr objs fs hr r hp
  have hf:findF objs ft' fs (n :: r)=findF objs ft fs (n :: r):=by rw[findF_cons,findF_cons,i2]
  refine⟨hf,?_⟩
  unfold lookF
  rw[hf]
  unfold entsF
  rw[show ft'.od (n :: r).reverse=ft.od (n :: r).reverse from h _ (List.prefix_refl _)]
structure OwnWay (objs:List Ob)(fs:FS)(ft:FT)(K:List ByteArray->List Ent)(p:List ByteArray):Prop where
 look:∀q,q <+: p->lookF objs ft fs q.reverse=(fs,0,K q)
 own:∀q,q <+: p->∀es,ft.od q=some es->es=K q
 up:∀q m,(q ++ [m]) <+: p->(ft.od (q ++ [m])).isSome=true->(ft.od q).isSome=true/\zeroK (K q) m=K q
 root:(ft.od []).isSome=true->ft.root=0
def zK (K:List ByteArray->List Ent)(p x:List ByteArray):List Ent:=match p[x.length]? with
 | some m=>zeroK (K x) m
 | none=>K x
theorem prefix_snoc {α:Type}{x p:List α}{n:α}(h:x <+: p ++ [n]):x <+: p\/x=p ++ [n]:=by
 rw[List.prefix_concat_iff] at h;rcases h with h | h
 ·exact .inr h
 ·exact .inl h
theorem prefix_get {α:Type}{x p:List α}(h:x <+: p)(hne:x≠p):∃m,p[x.length]? = some m/\(x ++ [m]) <+: p:=by
 obtain⟨t,rfl⟩:=h;cases t with
 | nil=>simp at hne
 | cons m r=>exact⟨m,by simp,⟨r,by simp⟩⟩
theorem ownWay_all {objs:List Ob}{fs:FS}{ft:FT}{K:List ByteArray->List Ent}:∀{r:List ByteArray},OwnWay objs fs ft K r.reverse->(ft.od r.reverse).isSome=true->ft.root=0/\∀x,x <+: r.reverse->ft.od x=some (zK K r.reverse x)
 | [],h,ho=>by
  refine⟨h.root ho,fun x hx=>?_⟩
  have:x = []:=by simpa using hx
  subst this
  obtain⟨es,he⟩:=Option.isSome_iff_exists.1 ho
  have:=h.own [] (List.prefix_refl _) es he
  show ft.od ([]:List ByteArray).reverse=_
  rw[he,this];rfl
 | n :: r,h,ho=>by
  rw[List.reverse_cons] at h ho ⊢
  obtain⟨hu,hz⟩:=h.up r.reverse n (List.prefix_refl _) ho
  have hpre:∀x,x <+: r.reverse->x <+: r.reverse ++ [n]:=fun x hx=>hx.trans (List.prefix_append _ _)
  have h':OwnWay objs fs ft K r.reverse:=⟨fun q hq=>h.look q (hpre q hq),fun q hq=>h.own q (hpre q hq),fun q m hq=>h.up q m (hpre _ hq),h.root⟩
  obtain⟨i1,i2⟩:=ownWay_all h' hu
  refine⟨i1,fun x hx=>?_⟩
  rcases prefix_snoc hx with hx | rfl
  ·rw[i2 x hx]
   by_cases hxe:x=r.reverse
   ·subst hxe
    have e1:zK K r.reverse r.reverse=K r.reverse:=by unfold zK;rw[List.getElem?_eq_none (zzC _)]
    have e2:zK K (r.reverse ++ [n]) r.reverse=zeroK (K r.reverse) n:=by unfold zK;rw[List.getElem?_append_right (zzC _)];simp
    rw[e1,e2,hz]
   ·obtain⟨m,hm,_⟩:=prefix_get hx hxe
    have hlt:x.length<r.reverse.length:=(List.getElem?_eq_some_iff.1 hm).1
    unfold zK
    rw[List.getElem?_append_left hlt,hm]
  ·obtain⟨es,he⟩:=Option.isSome_iff_exists.1 ho
   have:=h.own _ (List.prefix_refl _) es he
   rw[he,this]
   unfold zK
   rw[List.getElem?_eq_none (by simp)]
theorem claim_maps {objs:List Ob}{fs:FS}{K:List ByteArray->List Ent}:∀{r:List ByteArray} {ft:FT},OwnWay objs fs ft K r.reverse->
  (claimF objs fs ft r).root=0/\(claimF objs fs ft r).of=ft.of/\∀x,(claimF objs fs ft r).od x=if x <+: r.reverse then some (zK K r.reverse x) else ft.od x
 | [],ft,h=>by
  rw[claimF]
  by_cases ho:(ft.od []).isSome=true
  ·rw[zzD ho]
   obtain⟨h1,h2⟩:=ownWay_all (r:=[]) h ho
   refine⟨h1,rfl,fun x=>?_⟩
   split
   ·next hx=>exact h2 x hx
   ·rfl
  ·rw[zzB ho]
   refine⟨rfl,rfl,fun x=>?_⟩
   have hl:=h.look [] (List.prefix_refl _)
   show upd ft.od [] _ x=_
   by_cases hx:x = []
   ·subst hx
    rw[upd_same,zzD (by simp),show lookF objs ft fs []=(fs,0,K []) from hl];rfl
   ·rw[upd_other hx,zzB (by simpa using hx)]
 | n :: r,ft,h=>by
  rw[claimF]
  by_cases ho:(ft.od (n :: r).reverse).isSome=true
  ·rw[zzD ho]
   obtain⟨h1,h2⟩:=ownWay_all (r:=n :: r) h ho
   refine⟨h1,rfl,fun x=>?_⟩
   split
   ·next hx=>exact h2 x hx
   ·rfl
  ·rw[zzB ho]
   have hrev:(n :: r).reverse=r.reverse ++ [n]:=List.reverse_cons
   rw[hrev] at h ⊢
   have hl:=h.look (r.reverse ++ [n]) (List.prefix_refl _)
   rw[List.reverse_append,List.reverse_reverse] at hl
   have hl':lookF objs ft fs (n :: r)=(fs,0,K (r.reverse ++ [n])):=hl
   rw[hl']
   have hpre:∀x,x <+: r.reverse->x <+: r.reverse ++ [n]:=fun x hx=>hx.trans (List.prefix_append _ _)
   have hne:∀x,x <+: r.reverse->x≠r.reverse ++ [n]:=fun x hx e=>by
    have:=hx.length_le
    rw[e] at this;simp at this;omega
   have h':OwnWay objs fs { ft with od:=upd ft.od (r.reverse ++ [n]) (some (fs,(0:Int),K (r.reverse ++ [n])).2.2) } K r.reverse:=by
    refine⟨fun q hq=>?_,fun q hq es he=>?_,fun q m hq hs=>?_,fun hs=>?_⟩
    ·rw[(look_congr objs fs (ft:=ft) (ft':={ ft with od:=upd ft.od (r.reverse ++ [n]) (some (fs,(0:Int),K (r.reverse ++ [n])).2.2) }) rfl q.reverse (fun x hx=>upd_other (hne x (by rw[List.reverse_reverse] at hx;exact hx.trans hq)) _)).2]
     exact h.look q (hpre q hq)
    ·exact h.own q (hpre q hq) es ((upd_other (f:=ft.od) (hne q hq) (some (K (r.reverse ++ [n])))).symm.trans he)
    ·have e1:=upd_other (f:=ft.od) (hne _ hq) (some (K (r.reverse ++ [n])))
     have hqr:q <+: r.reverse:=(List.prefix_append q [m]).trans hq;have e2:=upd_other (f:=ft.od) (hne _ hqr) (some (K (r.reverse ++ [n])));show (upd ft.od _ _ q).isSome=true/\_;rw[e2];exact h.up q m (hpre _ hq) (by rw[<-e1];exact hs)
    ·exact h.root (by rw[<-upd_other (f:=ft.od) (hne [] (by simp)) (some (K (r.reverse ++ [n])))];exact hs)
   obtain⟨i1,i2,i3⟩:=claim_maps h';refine⟨i1,i2,fun x=>?_⟩;show upd (claimF objs fs _ r).od r.reverse _ x=_;rw[i3 r.reverse,zzD (List.prefix_refl _)];have e1:zK K r.reverse r.reverse=K r.reverse:=by unfold zK;rw[List.getElem?_eq_none (zzC _)]
   rw[e1];by_cases hx:x=r.reverse
   ·subst hx
    rw[upd_same,zzD (List.prefix_append _ _)];have e2:zK K (r.reverse ++ [n]) r.reverse=zeroK (K r.reverse) n:=by unfold zK;rw[List.getElem?_append_right (zzC _)];simp
    rw[e2];rfl
   ·rw[upd_other hx,i3]
    by_cases hxp:x <+: r.reverse
    ·rw[zzD hxp,zzD (hpre x hxp)]
     obtain⟨m,hm,_⟩:=prefix_get hxp hx;have hlt:x.length<r.reverse.length:=(List.getElem?_eq_some_iff.1 hm).1;unfold zK;rw[List.getElem?_append_left hlt,hm]
    ·rw[zzB hxp]
     show upd ft.od _ _ x=_;by_cases hxn:x=r.reverse ++ [n]
     ·subst hxn
      rw[upd_same,zzD (List.prefix_refl _)];unfold zK;rw[List.getElem?_eq_none (by simp)]
     ·rw[upd_other hxn,zzB]
      intro hx2;rcases prefix_snoc hx2 with h3 | h3
      ·exact hxp h3
      ·exact hxn h3
def KeptWay (objs:List Ob)(t:LT)(fs:FS)(p:List ByteArray):Prop:=∀x id,x <+: p->t.at objs x=some (.dir id)->fs.kD id=true
theorem KeptWay.mono {objs:List Ob}{t:LT}{fs fs':FS}{p:List ByteArray}(h:KeptWay objs t fs p)(hk:∀x,fs.kD x=true->fs'.kD x=true):KeptWay objs t fs' p:=fun x id hx ha=>hk _ (h x id hx ha)
theorem KeptWay.pre {objs:List Ob}{t:LT}{fs:FS}{p q:List ByteArray}(h:KeptWay objs t fs p)(hq:q <+: p):KeptWay objs t fs q:=fun x id hx ha=>h x id (hx.trans hq) ha
theorem kidsG_kept {objs:List Ob}{fs:FS}{c:LT}{ks:Kids}(hk:kids objs c=some ks)(h:∀id,c=.dir id->fs.kD id=true):kidsG objs fs c=(fs,0,ks):=by
 cases c with
 | file i=>simp[kids] at hk
 | held f=>simp[kids] at hk
 | own es=>simp only[kids,Option.some.injEq] at hk;subst hk;rfl
 | dir id=>
  have h1:fs.dirG id=(fs,true):=by unfold FS.dirG;rw[zzD (h id rfl)]
  simp only[kids,Option.some.injEq] at hk;subst hk;have e1:kidsG objs fs (.dir id)=if (fs.dirG id).2 then ((fs.dirG id).1,0,(entsOf objs id).map kidOf) else ((fs.dirG id).1,14,[]):=rfl;rw[e1,h1];rfl
theorem at_snoc {objs:List Ob}{t:LT}{q:List ByteArray}{n:ByteArray}{c:LT}(h:t.at objs (q ++ [n])=some c):∃d ks,t.at objs q=some d/\kids objs d=some ks/\pickK ks n=some c:=by
 rw[at_append] at h;cases hd:t.at objs q with
 | none=>rw[hd] at h;simp at h
 | some d=>
  rw[hd,Option.bind_some,at_cons] at h;cases hk:kids objs d with
  | none=>rw[hk] at h;simp at h
  | some ks=>
   rw[hk,Option.bind_some] at h;cases hp:pickK ks n with
   | none=>rw[hp] at h;simp at h
   | some x=>rw[hp,Option.bind_some,at_nil] at h;cases h;exact⟨d,ks,rfl,hk,hp⟩
theorem find_kept {objs:List Ob}{t:LT}{fs:FS}:∀{r:List ByteArray} {c:LT},t.at objs r.reverse=some c->(∀x id,x <+: r.reverse->x≠r.reverse->t.at objs x=some (.dir id)->fs.kD id=true)->findR objs t fs r=(fs,0,c)
 | [],c,ha,hk=>by rw[List.reverse_nil,at_nil] at ha;cases ha;rfl
 | n :: r,c,ha,hk=>by
  rw[List.reverse_cons] at ha hk
  obtain⟨d,ks,h1,h2,h3⟩:=at_snoc ha
  have hne:∀x,x <+: r.reverse->x≠r.reverse ++ [n]:=fun x hx e=>by
   have:=hx.length_le
   rw[e] at this;simp at this;omega
  have ih:=find_kept h1 (fun x id hx hxe hxa=>hk x id (hx.trans (List.prefix_append _ _)) (hne x hx) hxa)
  rw[findR]
  simp only[ih]
  rw[zzB (by decide),kidsG_kept h2 (fun id hd=>hk r.reverse id (List.prefix_append _ _) (hne _ (List.prefix_refl _)) (by rw[h1,hd]))]
  simp only
  rw[zzB (by decide),h3]
theorem look_kept {objs:List Ob}{t:LT}{fs:FS}{r:List ByteArray}{c:LT}{ks:Kids}(ha:t.at objs r.reverse=some c)(hk:kids objs c=some ks)(h:KeptWay objs t fs r.reverse):lookR objs t fs r=(fs,0,ks):=by
 unfold lookR;simp only[find_kept ha (fun x id hx _ hxa=>h x id hx hxa)];rw[zzB (by decide)];exact kidsG_kept hk (fun id hd=>h _ id (List.prefix_refl _) (by rw[ha,hd]))
theorem kidsG_kids {objs:List Ob}{fs:FS}{c:LT}(h:(kidsG objs fs c).2.1=0):kids objs c=some (kidsG objs fs c).2.2/\fs.Next (kidsG objs fs c).1/\∀id,c=.dir id->(kidsG objs fs c).1.kD id=true:=by
 cases c with
 | file i=>simp[kidsG] at h
 | held f=>simp[kidsG] at h
 | own es=>exact⟨rfl,FS.Next.refl _,fun id hd=>by cases hd⟩
 | dir id=>
  have e1:kidsG objs fs (.dir id)=if (fs.dirG id).2 then ((fs.dirG id).1,0,(entsOf objs id).map kidOf) else ((fs.dirG id).1,14,[]):=rfl;rw[e1] at h ⊢;rcases fs.dirG_cases id with ⟨h1,h2,h3⟩ | ⟨h1,_⟩
  ·rw[zzD h1]
   exact⟨rfl,h2,fun id' hd=>by cases hd;exact h3⟩
  ·rw[h1] at h;simp at h
theorem kept_of_find {objs:List Ob}{t:LT}{fs:FS}:∀{r:List ByteArray},(findR objs t fs r).2.1=0->t.at objs r.reverse=some (findR objs t fs r).2.2/\fs.Next (findR objs t fs r).1/\∀x id,x <+: r.reverse->x≠r.reverse->t.at objs x=some (.dir id)->(findR objs t fs r).1.kD id=true
 | [],_=>⟨at_nil _ _,FS.Next.refl _,fun x id hx hxe=>absurd (by simpa using hx) hxe⟩
 | n :: r,h=>by
  rw[findR] at h ⊢
  by_cases h0:(findR objs t fs r).2.1≠0
  ·simp only[zzD h0] at h;exact absurd h h0
  ·simp only[zzB h0] at h ⊢
   obtain⟨i1,i2,i3⟩:=kept_of_find (Decidable.not_not.1 h0)
   by_cases hb:(kidsG objs (findR objs t fs r).1 (findR objs t fs r).2.2).2.1≠0
   ·rw[zzD hb] at h;exact absurd h hb
   ·rw[zzB hb] at h ⊢
    obtain⟨k1,k2,k3⟩:=kidsG_kids (Decidable.not_not.1 hb)
    cases hp:pickK (kidsG objs (findR objs t fs r).1 (findR objs t fs r).2.2).2.2 n with
    | none=>rw[hp] at h;simp at h
    | some c=>
     rw[hp] at h
     simp only
     refine⟨?_,i2.trans k2,fun x id hx hxe hxa=>?_⟩
     ·rw[List.reverse_cons,at_append,i1,Option.bind_some,at_cons,k1,Option.bind_some,hp,Option.bind_some,at_nil]
     ·rw[List.reverse_cons] at hx hxe
      rcases prefix_snoc hx with hx | hx
      ·by_cases hxr:x=r.reverse
       ·subst hxr
        rw[i1] at hxa
        exact k3 id (Option.some.inj hxa)
       ·exact k2.2.2.2.2 id (i3 x id hx hxr hxa)
      ·exact absurd hx hxe
theorem kept_of_look {objs:List Ob}{t:LT}{fs:FS}{r:List ByteArray}(h:(lookR objs t fs r).2.1=0):
  (∃d,t.at objs r.reverse=some d/\kids objs d=some (lookR objs t fs r).2.2)/\fs.Next (lookR objs t fs r).1/\KeptWay objs t (lookR objs t fs r).1 r.reverse:=by
 unfold lookR at h ⊢;by_cases h0:(findR objs t fs r).2.1≠0
 ·simp only[zzD h0] at h;exact absurd h h0
 ·simp only[zzB h0] at h ⊢
  obtain⟨i1,i2,i3⟩:=kept_of_find (Decidable.not_not.1 h0);obtain⟨k1,k2,k3⟩:=kidsG_kids h;refine⟨⟨_,i1,k1⟩,i2.trans k2,fun x id hx hxa=>?_⟩;by_cases hxr:x=r.reverse
  ·subst hxr
   rw[i1] at hxa;exact k3 id (Option.some.inj hxa)
  ·exact k2.2.2.2.2 id (i3 x id hx hxr hxa)
def curK (objs:List Ob)(t:LT)(q:List ByteArray):List Ent:=(((t.at objs q).bind (kids objs)).getD []).map entOf
theorem zero_none {es:List Ent}{n:ByteArray}(h:∀e ∈ es,e.1=n->e.2.2=0):zeroK es n=es:=by
 unfold zeroK;conv=>rhs;rw[<-List.map_id es]
 refine List.map_congr_left fun e he=>?_;show (if e.1=n then _ else _)=e;split
 ·next hn=>have:=h e he hn;obtain⟨a,b,c⟩:=e;simp only at this;subst this;rfl
 ·rfl
theorem pick_unique {ks:Kids}(hr:RisingK ks){n:ByteArray}{c:LT}(hp:pickK ks n=some c){x:ByteArray×LT}(hx:x ∈ ks)(hn:x.1=n):x.2=c:=by
 induction ks with
 | nil=>simp at hx
 | cons y r ih=>
  unfold pickK at hp;by_cases hy:y.1=n
  ·rw[List.find?_cons_of_pos (by simpa using hy)] at hp
   rcases List.mem_cons.1 hx with rfl | hx
   ·simpa using hp
   ·have:=(List.pairwise_cons.1 hr).1 x hx
    rw[hy,hn,cmpN_self] at this;omega
  ·rw[List.find?_cons_of_neg (by simpa using hy)] at hp
   rcases List.mem_cons.1 hx with rfl | hx
   ·exact absurd hn hy
   ·exact ih hr.tail hp hx
theorem ownWay_flat {objs:List Ob}{t:LT}{ft:FT}{fs:FS}(hS:Sound objs)(hF:Flat objs t ft){n:Nat}(hok:LTok objs n t){p:List ByteArray}{d:LT}{ks:Kids}(ha:t.at objs p=some d)(hk:kids objs d=some ks)(hw:KeptWay objs t fs p):OwnWay objs fs ft (curK objs t) p:=by
 have dir:∀q,q <+: p->∃c kq,t.at objs q=some c/\kids objs c=some kq:=fun q hq=>by
  obtain⟨s,rfl⟩:=hq;cases s with
  | nil=>rw[List.append_nil] at ha;exact⟨d,ks,ha,hk⟩
  | cons m s=>
   rw[show q++m :: s=(q ++ [m])++s by simp,at_append] at ha;cases hx:t.at objs (q ++ [m]) with
   | none=>rw[hx] at ha;simp at ha
   | some y=>obtain⟨c,kq,h1,h2,_⟩:=at_snoc hx;exact⟨c,kq,h1,h2⟩
 refine⟨fun q hq=>?_,fun q hq es he=>?_,fun q m hq hs=>?_,fun hs=>?_⟩
 ·obtain⟨c,kq,h1,h2⟩:=dir q hq
  have:=look_kept (r:=q.reverse) (by rw[List.reverse_reverse];exact h1) h2 (by rw[List.reverse_reverse];exact hw.pre hq)
  rw[flat_look hS hF hok fs q.reverse,this];unfold curK;rw[h1,Option.bind_some,h2];rfl
 ·have:=hF.od q
  rw[he] at this;unfold curK;cases hc:t.at objs q with
  | none=>rw[hc] at this;simp[odOf] at this
  | some c=>
   rw[hc] at this;cases c with
   | own es'=>simp only[odOf,Option.some.injEq] at this;rw[this];rfl
   | file i=>simp[odOf] at this
   | held f=>simp[odOf] at this
   | dir i=>simp[odOf] at this
 ·rw[hF.od] at hs
  cases hc:t.at objs (q ++ [m]) with
  | none=>rw[hc] at hs;simp[odOf] at hs
  | some c=>
   rw[hc] at hs;obtain⟨es',rfl⟩:∃es',c=.own es':=by cases c <;> first | exact⟨_,rfl⟩ | (simp[odOf] at hs)
   obtain⟨c',kq,h1,h2,h3⟩:=at_snoc hc;have hc':=(ok_at hS _ hok h1).2.1;have hmem:=pick_mem h3;obtain⟨es'',rfl⟩:∃es'',c'=.own es'':=by
    cases c' with
    | own es=>exact⟨es,rfl⟩
    | file i=>simp[kids] at h2
    | held f=>simp[kids] at h2
    | dir i=>
     simp only[kids,Option.some.injEq] at h2;subst h2;obtain⟨e,_,he⟩:=List.mem_map.1 hmem
     have:=congrArg Prod.snd he
     unfold kidOf ltOf at this;by_cases h2:e.2.1=2 <;> simp[h2] at this
   simp only[kids,Option.some.injEq] at h2;subst h2;refine⟨by rw[hF.od,h1];rfl,?_⟩;unfold curK;rw[h1];refine zero_none fun e he hn=>?_
   obtain⟨x,hx,rfl⟩:=List.mem_map.1 he;have hr:=(ok_kids hS hc' rfl).1
   have:=pick_unique hr h3 hx hn
   show x.2.id=0;rw[this];rfl
 ·rw[hF.od,at_nil] at hs
  rw[hF.root];cases t <;> first | rfl | (simp[odOf] at hs)
theorem flat_mod {objs:List Ob}{t:LT}{ft ft':FT}{fs:FS}(hS:Sound objs)(hF:Flat objs t ft){n:Nat}(hok:LTok objs n t){q:List ByteArray}{d:LT}{ks:Kids}(ha:t.at objs q=some d)(hk:kids objs d=some ks)(f:Kids->Kids)
  (hroot:ft'.root=0)(hod:∀x,¬q <+: x->ft'.od x=if x <+: q then some (zK (curK objs t) q x) else ft.od x)(hof:∀x,¬q <+: x->ft'.of x=ft.of x)
  (hq:ft'.od q=some ((f ks).map entOf))(hq':ft'.of q=none)
  (hb:∀m r,ft'.od (q++m :: r)=odOf ((pickK (f ks) m).bind fun c=>c.at objs r))(hb':∀m r,ft'.of (q++m :: r)=ofOf ((pickK (f ks) m).bind fun c=>c.at objs r)):
  Flat objs (modG objs f q t) ft':=by
 obtain⟨m1,m2⟩:=at_mod objs f q t d ks ha hk;have key:∀x,ft'.od x=odOf ((modG objs f q t).at objs x)/\ft'.of x=ofOf ((modG objs f q t).at objs x):=by
  intro x;by_cases hqx:q <+: x
  ·obtain⟨s,rfl⟩:=hqx
   cases s with
   | nil=>rw[List.append_nil,m2,hq,hq'];exact⟨rfl,rfl⟩
   | cons m r=>rw[m1,hb,hb'];exact⟨rfl,rfl⟩
  ·rw[hod x hqx,hof x hqx]
   by_cases hxq:x <+: q
   ·rw[zzD hxq]
    obtain⟨m,hm,hxm⟩:=prefix_get hxq (fun e=>hqx (e ▸ List.prefix_refl _));obtain⟨r,hr⟩:=hxm;have hr':q=x++m :: r:=by rw[<-hr];simp
    have ha':=ha;rw[hr'] at ha';obtain⟨dq,kq,h1,h2,h3⟩:=at_mod_way objs f x m r t d ha';rw[<-hr'] at h3;rw[h3];have hkindx:dq.kind=2:=by cases dq <;> first | rfl | (simp[kids] at h2)
    refine⟨?_,?_⟩
    ·show some _=some _
     congr 1
     unfold zK curK;rw[hm,h1,Option.bind_some,h2,Option.getD_some];show List.map (fun e:Ent=>if e.1=m then (e.1,e.2.1,(0:Int)) else e) (List.map entOf kq)=_;rw[List.map_map,List.map_map];refine List.map_congr_left fun y hy=>?_
     show (if y.1=m then (y.1,y.2.kind,(0:Int)) else entOf y)=entOf (if y.1=m then (y.1,modG objs f r y.2) else y);by_cases hym:y.1=m
     ·rw[zzD hym,zzD hym]
      have hkind:y.2.kind=2:=by
       rw[at_append,h1,Option.bind_some,at_cons,h2,Option.bind_some] at ha';cases hc:pickK kq m with
       | none=>rw[hc] at ha';simp at ha'
       | some c=>
        rw[hc,Option.bind_some] at ha';have hdq:=(ok_at hS _ hok h1).2.1;rw[pick_unique (ok_kids hS hdq h2).1 hc hy hym];cases r with
        | nil=>rw[at_nil] at ha';obtain rfl:=Option.some.inj ha';cases c <;> first | rfl | (simp[kids] at hk)
        | cons z r=>
         rw[at_cons] at ha';cases c <;> first | rfl | (simp[kids] at ha')
      rw[hkind];cases r <;> rfl
     ·rw[zzB hym,zzB hym]
    ·rw[hF.of x,h1]
     cases dq <;> first | rfl | (simp[kids] at h2)
   ·rw[zzB hxq,at_mod_other objs f q x t d ha hxq hqx]
    exact⟨hF.od x,hF.of x⟩
 refine⟨?_,?_,fun x=>(key x).1,fun x=>(key x).2⟩
 ·cases q <;> rfl
 ·rw[hroot];cases q <;> rfl
theorem map_ent (ks:Kids):ks.map entOf=mapK (fun x=>(x.2.kind,x.2.id)) ks:=rfl
theorem mapK_put {α β:Type}(f:ByteArray×α->β)(es:List (ByteArray×α))(n:ByteArray)(c:α):mapK f (putK es n c)=putK (mapK f es) n (f (n,c)):=by
 unfold putK;rw[mapK_there,mapK_idx];unfold mapK;split
 ·rw[List.map_set]
 ·simp[List.map_take,List.map_drop]
theorem ent_put (ks:Kids)(n:ByteArray)(c:LT):(putK ks n c).map entOf=putK (ks.map entOf) n (c.kind,c.id):=by rw[map_ent,mapK_put,<-map_ent]
theorem ent_drop (ks:Kids)(n:ByteArray):(dropK ks n).map entOf=dropK (ks.map entOf) n:=by rw[map_ent,mapK_drop,<-map_ent]
theorem there_ent (ks:Kids)(n:ByteArray):thereK (ks.map entOf) n=thereK ks n:=by rw[map_ent,mapK_there]
theorem pick_put {ks:Kids}(h:RisingK ks)(n:ByteArray)(c:LT)(m:ByteArray):pickK (putK ks n c) m=if m=n then some c else pickK ks m:=getK_put h m
theorem pick_drop {ks:Kids}(h:RisingK ks){n:ByteArray}(ht:thereK ks n=true)(m:ByteArray):pickK (dropK ks n) m=if m=n then none else pickK ks m:=getK_drop h ht m
theorem pick_there {ks:Kids}(h:RisingK ks)(n:ByteArray):(pickK ks n).isSome=thereK ks n:=by
 rw[pickK_getK,getK_there h];cases ht:thereK ks n with
 | false=>simp
 | true=>
  have:=thereK_lt ht
  simp[zzH this]
theorem cur_at {objs:List Ob}{t d:LT}{q:List ByteArray}{ks:Kids}(ha:t.at objs q=some d)(hk:kids objs d=some ks):curK objs t q=ks.map entOf:=by
 unfold curK;rw[ha,Option.bind_some,hk];rfl
theorem pre_snoc_of {q x:List ByteArray}{n:ByteArray}(h:q ++ [n] <+: x):q <+: x:=(List.prefix_append q [n]).trans h
theorem flat_put {objs:List Ob}{t:LT}{ft ft':FT}{fs:FS}(hS:Sound objs)(hF:Flat objs t ft){k:Nat}(hok:LTok objs k t){q:List ByteArray}{d:LT}{ks:Kids}(ha:t.at objs q=some d)(hk:kids objs d=some ks)(n:ByteArray)(c:LT)
  (hroot:ft'.root=0)(hod:∀x,¬(q ++ [n]) <+: x->ft'.od x=if x=q then some (putK (ks.map entOf) n (c.kind,c.id)) else if x <+: q then some (zK (curK objs t) q x) else ft.od x)
  (hof:∀x,¬(q ++ [n]) <+: x->ft'.of x=ft.of x)(hb:∀r,ft'.od (q++n :: r)=odOf (c.at objs r))(hb':∀r,ft'.of (q++n :: r)=ofOf (c.at objs r)):
  Flat objs (modG objs (fun ks=>putK ks n c) q t) ft':=by
 have hr:=(ok_kids hS (ok_at hS _ hok ha).2.1 hk).1;have hqn:¬(q ++ [n]) <+: q:=fun h=>by have:=h.length_le;simp at this;omega
 have hofq:ft.of q=none:=by rw[hF.of,ha];cases d <;> first | rfl | (simp[kids] at hk)
 refine flat_mod hS (fs:=fs) hF hok ha hk _ hroot (fun x hx=>?_) (fun x hx=>hof x (fun h=>hx (pre_snoc_of h))) ?_ ?_ (fun m r=>?_) (fun m r=>?_)
 ·rw[hod x (fun h=>hx (pre_snoc_of h)),zzB (fun e:x=q=>hx (by rw[e];exact List.prefix_refl _))]
 ·rw[hod q hqn,zzD rfl,ent_put]
 ·rw[hof q hqn,hofq]
 ·rw[pick_put hr]
  by_cases hm:m=n
  ·subst hm;rw[zzD rfl,Option.bind_some];exact hb r
  ·have hx:¬(q ++ [n]) <+: (q++m :: r):=fun h=>by
    rw[List.prefix_append_right_inj,List.cons_prefix_cons] at h;exact hm h.1.symm
   rw[zzB hm,hod _ hx,zzB (by simp),zzB (fun h=>by have:=h.length_le;simp at this;omega),hF.od,at_append,ha,Option.bind_some,at_cons,hk,Option.bind_some]
 ·rw[pick_put hr]
  by_cases hm:m=n
  ·subst hm;rw[zzD rfl,Option.bind_some];exact hb' r
  ·have hx:¬(q ++ [n]) <+: (q++m :: r):=fun h=>by
    rw[List.prefix_append_right_inj,List.cons_prefix_cons] at h;exact hm h.1.symm
   rw[zzB hm,hof _ hx,hF.of,at_append,ha,Option.bind_some,at_cons,hk,Option.bind_some]
theorem flat_drop {objs:List Ob}{t:LT}{ft ft':FT}{fs:FS}(hS:Sound objs)(hF:Flat objs t ft){k:Nat}(hok:LTok objs k t){q:List ByteArray}{d:LT}{ks:Kids}(ha:t.at objs q=some d)(hk:kids objs d=some ks)(n:ByteArray)(ht:thereK ks n=true)
  (hroot:ft'.root=0)(hod:∀x,¬(q ++ [n]) <+: x->ft'.od x=if x=q then some (dropK (ks.map entOf) n) else if x <+: q then some (zK (curK objs t) q x) else ft.od x)
  (hof:∀x,¬(q ++ [n]) <+: x->ft'.of x=ft.of x)(hb:∀r,ft'.od (q++n :: r)=none)(hb':∀r,ft'.of (q++n :: r)=none):
  Flat objs (modG objs (fun ks=>dropK ks n) q t) ft':=by
 have hr:=(ok_kids hS (ok_at hS _ hok ha).2.1 hk).1;have hqn:¬(q ++ [n]) <+: q:=fun h=>by have:=h.length_le;simp at this;omega
 have hofq:ft.of q=none:=by rw[hF.of,ha];cases d <;> first | rfl | (simp[kids] at hk)
 refine flat_mod hS (fs:=fs) hF hok ha hk _ hroot (fun x hx=>?_) (fun x hx=>hof x (fun h=>hx (pre_snoc_of h))) ?_ ?_ (fun m r=>?_) (fun m r=>?_)
 ·rw[hod x (fun h=>hx (pre_snoc_of h)),zzB (fun e:x=q=>hx (by rw[e];exact List.prefix_refl _))]
 ·rw[hod q hqn,zzD rfl,ent_drop]
 ·rw[hof q hqn,hofq]
 ·rw[pick_drop hr ht]
  by_cases hm:m=n
  ·subst hm;rw[zzD rfl];exact hb r
  ·have hx:¬(q ++ [n]) <+: (q++m :: r):=fun h=>by
    rw[List.prefix_append_right_inj,List.cons_prefix_cons] at h;exact hm h.1.symm
   rw[zzB hm,hod _ hx,zzB (by simp),zzB (fun h=>by have:=h.length_le;simp at this;omega),hF.od,at_append,ha,Option.bind_some,at_cons,hk,Option.bind_some]
 ·rw[pick_drop hr ht]
  by_cases hm:m=n
  ·subst hm;rw[zzD rfl];exact hb' r
  ·have hx:¬(q ++ [n]) <+: (q++m :: r):=fun h=>by
    rw[List.prefix_append_right_inj,List.cons_prefix_cons] at h;exact hm h.1.symm
   rw[zzB hm,hof _ hx,hF.of,at_append,ha,Option.bind_some,at_cons,hk,Option.bind_some]
theorem mapK_mem {α:Type}{es:List (ByteArray×α)}{n:ByteArray}{c:α}{x:ByteArray×α}(h:x ∈ putK es n c):x=(n,c)\/x ∈ es:=by
 unfold putK at h;split at h
 ·rcases List.mem_or_eq_of_mem_set h with h | h
  ·exact .inr h
  ·exact .inl h
 ·rcases List.mem_append.1 h with h | h
  ·exact .inr (List.mem_of_mem_take h)
  ·rcases List.mem_cons.1 h with h | h
   ·exact .inl h
   ·exact .inr (List.mem_of_mem_drop h)
theorem dropK_mem {α:Type}{es:List (ByteArray×α)}{n:ByteArray}{x:ByteArray×α}(h:x ∈ dropK es n):x ∈ es:=List.mem_of_mem_eraseIdx h
theorem ok_own {objs:List Ob}{n:Nat}{es:Kids}(hr:RisingK es)(hl:es.length<=16)(h:∀x ∈ es,validB x.1=true/\∃m,n=m+1/\LTok objs m x.2):LTok objs n (.own es):=by
 cases n with
 | zero=>
  rw[LTok];cases es with
  | nil=>rfl
  | cons x r=>obtain⟨_,m,hm,_⟩:=h x (List.mem_cons_self ..);omega
 | succ k=>
  rw[LTok];refine⟨hr,hl,fun x hx=>?_⟩;obtain⟨hv,m,hm,hx⟩:=h x hx;obtain rfl:k=m:=by omega
  exact⟨hv,hx⟩
theorem rising_map {ks:Kids}(h:RisingK ks)(n:ByteArray)(g:LT->LT):RisingK (ks.map fun x=>if x.1=n then (x.1,g x.2) else x):=by
 unfold RisingK at h ⊢;rw[List.pairwise_map];refine h.imp fun {a b} hab=>?_
 have e:∀x:ByteArray×LT,(if x.1=n then (x.1,g x.2) else x).1=x.1:=fun x=>by split <;> rfl
 rw[e,e];exact hab
theorem ok_mod {objs:List Ob}(hS:Sound objs)(f:Kids->Kids):∀(q:List ByteArray) {n:Nat} {t d:LT} {ks:Kids},LTok objs n t->t.at objs q=some d->kids objs d=some ks->LTok objs (n-q.length) (.own (f ks))->LTok objs n (modG objs f q t)
 | [],n,t,d,ks,hok,ha,hk,h=>by
  rw[at_nil] at ha;cases ha
  rw[modG,hk];simpa using h
 | m :: q,n,t,d,ks,hok,ha,hk,h=>by
  rw[at_cons] at ha
  cases hkt:kids objs t with
  | none=>rw[hkt] at ha;simp at ha
  | some es=>
   rw[hkt,Option.bind_some] at ha
   cases hc:pickK es m with
   | none=>rw[hc] at ha;simp at ha
   | some c=>
    rw[hc,Option.bind_some] at ha
    obtain⟨h1,h2,h3⟩:=ok_kids hS hok hkt
    rw[modG,hkt,Option.getD_some]
    refine ok_own (rising_map h1 m _) (by simpa using h2) (fun x hx=>?_)
    obtain⟨y,hy,rfl⟩:=List.mem_map.1 hx
    obtain⟨hv,j,rfl,hj⟩:=h3 y hy
    by_cases hym:y.1=m
    ·rw[zzD hym]
     refine⟨hv,j,rfl,?_⟩
     have hyc:=pick_unique h1 hc hy hym
     rw[hyc] at hj ⊢
     exact ok_mod hS f q hj ha hk (by rw[List.length_cons,show j+1-(q.length+1)=j-q.length by omega] at h;exact h)
    ·rw[zzB hym];exact⟨hv,j,rfl,hj⟩
theorem held_mod {objs:List Ob}(f:Kids->Kids){q:List ByteArray}{t d:LT}{ks:Kids}(ha:t.at objs q=some d)(hk:kids objs d=some ks){x:List ByteArray}{b:Nat}(h:(modG objs f q t).at objs x=some (.held b)):
  (∃m r,x=q++m :: r/\((pickK (f ks) m).bind fun c=>c.at objs r)=some (.held b))\/(¬q <+: x/\t.at objs x=some (.held b)):=by
 obtain⟨m1,m2⟩:=at_mod objs f q t d ks ha hk;by_cases hqx:q <+: x
 ·obtain⟨s,rfl⟩:=hqx
  cases s with
  | nil=>rw[List.append_nil,m2] at h;cases h
  | cons m r=>rw[m1] at h;exact .inl ⟨m,r,rfl,h⟩
 ·refine .inr ⟨hqx,?_⟩
  by_cases hxq:x <+: q
  ·obtain⟨m,hm,hxm⟩:=prefix_get hxq (fun e=>hqx (e ▸ List.prefix_refl _))
   obtain⟨r,hr⟩:=hxm;have hr':q=x++m :: r:=by rw[<-hr];simp
   rw[hr'] at ha h;obtain⟨dq,kq,h1,h2,h3⟩:=at_mod_way objs f x m r t d ha;rw[h3] at h;cases h
  ·rw[at_mod_other objs f q x t d ha hxq hqx] at h;exact h
def putF (objs:List Ob)(fs:FS)(ft:FT)(q:List ByteArray)(n:ByteArray)(v:Int×Int):FT:=
 let ft1:=claimF objs fs ft q.reverse
 let es:=(ft1.od q).getD []
 if thereK es n then { root:=ft1.root,od:=upd (upd ft1.od q (some (putK es n v))) (q ++ [n]) none,of:=upd ft1.of (q ++ [n]) none }
 else { ft1 with od:=upd ft1.od q (some (putK es n v)) }
def takeF (objs:List Ob)(fs:FS)(ft:FT)(q:List ByteArray)(n:ByteArray):FT:=
 let ft1:=claimF objs fs ft q.reverse
 { ft1 with od:=upd ft1.od q (some (dropK ((ft1.od q).getD []) n)) }
def forgetF (ft:FT)(p:List ByteArray):FT:={ ft with od:=upd ft.od p none,of:=upd ft.of p none }
def carryG {β:Type}(f:List ByteArray->Option β)(src dst:List ByteArray):List ByteArray->Option β:=fun x=>if dst <+: x then f (src++x.drop dst.length) else if src <+: x then none else f x
def carryF (ft:FT)(src dst:List ByteArray):FT:={ ft with od:=carryG ft.od src dst,of:=carryG ft.of src dst }
theorem snoc_ne (q:List ByteArray)(n:ByteArray):q ++ [n]≠q:=fun e=>by have:=congrArg List.length e;simp at this
theorem claim_at {objs:List Ob}{fs:FS}{ft:FT}{K:List ByteArray->List Ent}{q:List ByteArray}(hw:OwnWay objs fs ft K q):
  (claimF objs fs ft q.reverse).root=0/\(claimF objs fs ft q.reverse).of=ft.of/\(claimF objs fs ft q.reverse).od q=some (K q)/\∀x,x≠q->(claimF objs fs ft q.reverse).od x=if x <+: q then some (zK K q x) else ft.od x:=by
 obtain⟨h1,h2,h3⟩:=claim_maps (r:=q.reverse) (by rw[List.reverse_reverse];exact hw);rw[List.reverse_reverse] at h3;refine⟨h1,h2,?_,fun x _=>h3 x⟩;rw[h3,zzD (List.prefix_refl _)];unfold zK;rw[List.getElem?_eq_none (zzC _)]
theorem putF_maps {objs:List Ob}{fs:FS}{ft:FT}{K:List ByteArray->List Ent}{q:List ByteArray}(hw:OwnWay objs fs ft K q)(n:ByteArray)(v:Int×Int):
  (putF objs fs ft q n v).root=0/\(∀x,x≠q ++ [n]->(putF objs fs ft q n v).od x=if x=q then some (putK (K q) n v) else if x <+: q then some (zK K q x) else ft.od x)/\(∀x,x≠q ++ [n]->(putF objs fs ft q n v).of x=ft.of x)/\
  (putF objs fs ft q n v).od (q ++ [n])=(if thereK (K q) n then none else ft.od (q ++ [n]))/\(putF objs fs ft q n v).of (q ++ [n])=(if thereK (K q) n then none else ft.of (q ++ [n])):=by
 obtain⟨h1,h2,h3,h4⟩:=claim_at hw;have hnp:¬(q ++ [n]) <+: q:=fun h=>by have:=h.length_le;simp at this;omega
 unfold putF;simp only[h3,Option.getD_some];by_cases ht:thereK (K q) n=true
 ·rw[zzD ht,zzD ht,zzD ht]
  refine⟨h1,fun x hx=>?_,fun x hx=>?_,upd_same _ _ _,upd_same _ _ _⟩
  ·show upd (upd _ _ _) _ _ x=_
   rw[upd_other hx];by_cases hq:x=q
   ·subst hq;rw[upd_same,zzD rfl]
   ·rw[upd_other hq,zzB hq,h4 x hq]
  ·show upd _ _ _ x=_
   rw[upd_other hx,h2]
 ·rw[zzB ht,zzB ht,zzB ht]
  refine⟨h1,fun x hx=>?_,fun x hx=>by show (claimF objs fs ft q.reverse).of x=_;rw[h2],?_,by show (claimF objs fs ft q.reverse).of _=_;rw[h2]⟩
  ·show upd _ _ _ x=_
   by_cases hq:x=q
   ·subst hq;rw[upd_same,zzD rfl]
   ·rw[upd_other hq,zzB hq,h4 x hq]
  ·show upd _ _ _ (q ++ [n])=_
   rw[upd_other (snoc_ne q n),h4 _ (snoc_ne q n),zzB hnp]
theorem takeF_maps {objs:List Ob}{fs:FS}{ft:FT}{K:List ByteArray->List Ent}{q:List ByteArray}(hw:OwnWay objs fs ft K q)(n:ByteArray):
  (takeF objs fs ft q n).root=0/\(∀x,(takeF objs fs ft q n).od x=if x=q then some (dropK (K q) n) else if x <+: q then some (zK K q x) else ft.od x)/\(takeF objs fs ft q n).of=ft.of:=by
 obtain⟨h1,h2,h3,h4⟩:=claim_at hw;unfold takeF;simp only[h3,Option.getD_some];refine⟨h1,fun x=>?_,h2⟩;by_cases hq:x=q
 ·subst hq;rw[upd_same,zzD rfl]
 ·rw[upd_other hq,zzB hq,h4 x hq]
theorem OwnWay.congr {objs:List Ob}{fs:FS}{ft ft':FT}{K:List ByteArray->List Ent}{q:List ByteArray}(h:OwnWay objs fs ft K q)(hr:ft'.root=ft.root)(ho:∀x,x <+: q->ft'.od x=ft.od x):OwnWay objs fs ft' K q:=by
 refine⟨fun x hx=>?_,fun x hx es he=>h.own x hx es (by rw[<-ho x hx];exact he),fun x m hx hs=>?_,fun hs=>?_⟩
 ·rw[(look_congr objs fs hr x.reverse (fun y hy=>ho y (by rw[List.reverse_reverse] at hy;exact hy.trans hx))).2]
  exact h.look x hx
 ·rw[ho x ((List.prefix_append x [m]).trans hx)]
  exact h.up x m hx (by rw[<-ho _ hx];exact hs)
 ·rw[hr];exact h.root (by rw[<-ho [] (List.nil_prefix)];exact hs)
section
variable {objs:List Ob}{t:LT}{ft:FT}{fs:FS}{q:List ByteArray}{d:LT}{ks:Kids}{n:ByteArray}
theorem flat_absent (hF:Flat objs t ft)(ha:t.at objs q=some d)(hk:kids objs d=some ks)(hp:pickK ks n=none)(r:List ByteArray):ft.od (q++n :: r)=none/\ft.of (q++n :: r)=none:=by
 have:t.at objs (q++n :: r)=none:=by rw[at_append,ha,Option.bind_some,at_cons,hk,Option.bind_some,hp];rfl
 rw[hF.od,hF.of,this];exact⟨rfl,rfl⟩
theorem below_none {p:List ByteArray}{c:LT}(ha:t.at objs p=some c)(hc:kids objs c=none\/kids objs c=some [])(m:ByteArray)(r:List ByteArray):t.at objs (p++m :: r)=none:=by
 rw[at_append,ha,Option.bind_some,at_cons];rcases hc with h | h
 ·rw[h];rfl
 ·rw[h];rfl
theorem flat_mkdir (hS:Sound objs)(hF:Flat objs t ft){k:Nat}(hok:LTok objs k t)(ha:t.at objs q=some d)(hk:kids objs d=some ks)(hw:KeptWay objs t fs q)(hp:pickK ks n=none):
  Flat objs (modG objs (fun ks=>putK ks n (.own [])) q t) { putF objs fs ft q n (2,0) with od:=upd (putF objs fs ft q n (2,0)).od (q ++ [n]) (some []) }:=by
 have W:=ownWay_flat hS hF hok ha hk hw;have hr:=(ok_kids hS (ok_at hS _ hok ha).2.1 hk).1;have ht:thereK (curK objs t q) n=false:=by rw[cur_at ha hk,there_ent,<-pick_there hr,hp];rfl
 obtain⟨h1,h2,h3,h4,h5⟩:=putF_maps W n (2,0);rw[ht,zzB (by decide)] at h5;refine flat_put hS (fs:=fs) hF hok ha hk n (.own []) h1 (fun x hx=>?_) (fun x hx=>?_) (fun r=>?_) (fun r=>?_)
 ·have hx':x≠q ++ [n]:=fun e=>hx (e ▸ List.prefix_refl _)
  show upd _ _ _ x=_;rw[upd_other hx',h2 x hx',cur_at ha hk];rfl
 ·exact h3 x (fun e=>hx (e ▸ List.prefix_refl _))
 ·show upd _ _ _ _=_
  cases r with
  | nil=>rw[upd_same,at_nil];rfl
  | cons m r=>
   have hne:q++n :: m :: r≠q ++ [n]:=by simp
   rw[upd_other hne,h2 _ hne,zzB (by simp),zzB (fun h=>by have:=h.length_le;simp at this;omega),(flat_absent hF ha hk hp _).1,at_cons];rfl
 ·show (putF objs fs ft q n (2,0)).of _=_
  cases r with
  | nil=>rw[h5,(flat_absent hF ha hk hp []).2,at_nil];rfl
  | cons m r=>rw[h3 _ (by simp),(flat_absent hF ha hk hp _).2,at_cons];rfl
theorem flat_create (hS:Sound objs)(hF:Flat objs t ft){k:Nat}(hok:LTok objs k t)(ha:t.at objs q=some d)(hk:kids objs d=some ks)(hw:KeptWay objs t fs q)(hp:pickK ks n=none)(f:Nat):
  Flat objs (modG objs (fun ks=>putK ks n (.held f)) q t) { putF objs fs ft q n (1,0) with of:=upd (putF objs fs ft q n (1,0)).of (q ++ [n]) (some f) }:=by
 have W:=ownWay_flat hS hF hok ha hk hw;have hr:=(ok_kids hS (ok_at hS _ hok ha).2.1 hk).1;have ht:thereK (curK objs t q) n=false:=by rw[cur_at ha hk,there_ent,<-pick_there hr,hp];rfl
 obtain⟨h1,h2,h3,h4,h5⟩:=putF_maps W n (1,0);rw[ht,zzB (by decide)] at h4;refine flat_put hS (fs:=fs) hF hok ha hk n (.held f) h1 (fun x hx=>?_) (fun x hx=>?_) (fun r=>?_) (fun r=>?_)
 ·have hx':x≠q ++ [n]:=fun e=>hx (e ▸ List.prefix_refl _)
  show (putF objs fs ft q n (1,0)).od x=_;rw[h2 x hx',cur_at ha hk];rfl
 ·show upd _ _ _ x=_
  have hx':x≠q ++ [n]:=fun e=>hx (e ▸ List.prefix_refl _);rw[upd_other hx',h3 x hx']
 ·show (putF objs fs ft q n (1,0)).od _=_
  cases r with
  | nil=>rw[h4,(flat_absent hF ha hk hp []).1,at_nil];rfl
  | cons m r=>
   have hne:q++n :: m :: r≠q ++ [n]:=by simp
   rw[h2 _ hne,zzB (by simp),zzB (fun h=>by have:=h.length_le;simp at this;omega),(flat_absent hF ha hk hp _).1,at_cons];rfl
 ·show upd _ _ _ _=_
  cases r with
  | nil=>rw[upd_same,at_nil];rfl
  | cons m r=>rw[upd_other (by simp),h3 _ (by simp),(flat_absent hF ha hk hp _).2,at_cons];rfl
theorem flat_hold (hS:Sound objs)(hF:Flat objs t ft){k:Nat}(hok:LTok objs k t)(ha:t.at objs q=some d)(hk:kids objs d=some ks)(hw:KeptWay objs t fs q){id:Int}(hp:pickK ks n=some (.file id))(f:Nat):
  Flat objs (modG objs (fun ks=>putK ks n (.held f)) q t) { claimF objs fs ft q.reverse with od:=upd (claimF objs fs ft q.reverse).od q (some (putK (((claimF objs fs ft q.reverse).od q).getD []) n (1,0))),of:=upd (claimF objs fs ft q.reverse).of (q ++ [n]) (some f) }:=by
 have W:=ownWay_flat hS hF hok ha hk hw;obtain⟨h1,h2,h3,h4⟩:=claim_at W;have hat:t.at objs (q ++ [n])=some (.file id):=by rw[at_append,ha,Option.bind_some,at_cons,hk,Option.bind_some,hp,Option.bind_some,at_nil]
 have hnp:¬(q ++ [n]) <+: q:=fun h=>by have:=h.length_le;simp at this;omega
 refine flat_put hS (fs:=fs) hF hok ha hk n (.held f) h1 (fun x hx=>?_) (fun x hx=>?_) (fun r=>?_) (fun r=>?_)
 ·show upd _ _ _ x=_
  by_cases hq:x=q
  ·subst hq;rw[upd_same,zzD rfl,h3,Option.getD_some,cur_at ha hk];rfl
  ·rw[upd_other hq,zzB hq,h4 x hq]
 ·show upd _ _ _ x=_
  rw[upd_other (fun e:x=q ++ [n]=>hx (by rw[e];exact List.prefix_refl _)),h2]
 ·show upd _ _ _ _=_
  have hne:q++n :: r≠q:=fun e=>by have:=congrArg List.length e;simp at this
  rw[upd_other hne,h4 _ hne,zzB (fun h=>by have:=h.length_le;simp at this;omega),hF.od];cases r with
  | nil=>rw[hat,at_nil];rfl
  | cons m r=>rw[show q++n :: m :: r=(q ++ [n])++m :: r by simp,below_none hat (.inl rfl),at_cons];rfl
 ·show upd _ _ _ _=_
  cases r with
  | nil=>rw[upd_same,at_nil];rfl
  | cons m r=>
   rw[upd_other (by simp),h2,hF.of,show q++n :: m :: r=(q ++ [n])++m :: r by simp,below_none hat (.inl rfl),at_cons];rfl
theorem flat_remove (hS:Sound objs)(hF:Flat objs t ft){k:Nat}(hok:LTok objs k t)(ha:t.at objs q=some d)(hk:kids objs d=some ks)(hw:KeptWay objs t fs q){c:LT}(hp:pickK ks n=some c)(hc:kids objs c=none\/kids objs c=some []):
  Flat objs (modG objs (fun ks=>dropK ks n) q t) (forgetF (takeF objs fs ft q n) (q ++ [n])):=by
 have W:=ownWay_flat hS hF hok ha hk hw;have hr:=(ok_kids hS (ok_at hS _ hok ha).2.1 hk).1;have ht:thereK ks n=true:=by rw[<-pick_there hr,hp];rfl
 obtain⟨h1,h2,h3⟩:=takeF_maps W n;have hat:t.at objs (q ++ [n])=some c:=by rw[at_append,ha,Option.bind_some,at_cons,hk,Option.bind_some,hp,Option.bind_some,at_nil]
 refine flat_drop hS (fs:=fs) hF hok ha hk n ht h1 (fun x hx=>?_) (fun x hx=>?_) (fun r=>?_) (fun r=>?_)
 ·show upd _ _ _ x=_
  rw[upd_other (fun e:x=q ++ [n]=>hx (by rw[e];exact List.prefix_refl _)),h2,cur_at ha hk]
 ·show upd _ _ _ x=_
  rw[upd_other (fun e:x=q ++ [n]=>hx (by rw[e];exact List.prefix_refl _)),h3]
 ·show upd _ _ _ _=_
  cases r with
  | nil=>rw[upd_same]
  | cons m r=>
   rw[upd_other (by simp),h2,zzB (by simp),zzB (fun h=>by have:=h.length_le;simp at this;omega),hF.od,show q++n :: m :: r=(q ++ [n])++m :: r by simp,below_none hat hc];rfl
 ·show upd _ _ _ _=_
  cases r with
  | nil=>rw[upd_same]
  | cons m r=>
   rw[upd_other (by simp),h3,hF.of,show q++n :: m :: r=(q ++ [n])++m :: r by simp,below_none hat hc];rfl
end
theorem drop_dir {objs:List Ob}{t:LT}{qf qt:List ByteArray}{nf:ByteArray}{df dt:LT}{kf kt:Kids}(hr:RisingK kf)(ha:t.at objs qf=some df)(hk:kids objs df=some kf)(ht:thereK kf nf=true)(hb:t.at objs qt=some dt)(hkt:kids objs dt=some kt)(hnf:¬(qf ++ [nf]) <+: qt):
  ∃d1 k1,(modG objs (fun ks=>dropK ks nf) qf t).at objs qt=some d1/\kids objs d1=some k1/\∀id,d1=.dir id->dt=.dir id:=by
 obtain⟨m1,m2⟩:=at_mod objs (fun ks=>dropK ks nf) qf t df kf ha hk;by_cases h:qf <+: qt
 ·obtain⟨s,rfl⟩:=h
  cases s with
  | nil=>rw[List.append_nil] at hb ⊢;exact⟨_,_,m2,rfl,fun id e=>by cases e⟩
  | cons m r=>
   have hm:m≠nf:=fun e=>hnf (by rw[e];exact⟨r,by simp⟩);rw[m1,pick_drop hr ht,zzB hm];rw[at_append,ha,Option.bind_some,at_cons,hk,Option.bind_some] at hb;exact⟨dt,kt,hb,hkt,fun id e=>e⟩
 ·by_cases h2:qt <+: qf
  ·obtain⟨m,hm,hxm⟩:=prefix_get h2 (fun e=>h (e ▸ List.prefix_refl _))
   obtain⟨r,hr'⟩:=hxm;have hr':qf=qt++m :: r:=by rw[<-hr'];simp
   rw[hr'] at ha ⊢;obtain⟨dq,kq,h1,h2,h3⟩:=at_mod_way objs (fun ks=>dropK ks nf) qt m r t df ha;exact⟨_,_,h3,rfl,fun id e=>by cases e⟩
  ·rw[at_mod_other objs _ qf qt t df ha h2 h]
   exact⟨dt,kt,hb,hkt,fun id e=>e⟩
theorem drop_stored {objs:List Ob}{t:LT}{qf:List ByteArray}{nf:ByteArray}{df:LT}{kf:Kids}(hr:RisingK kf)(ha:t.at objs qf=some df)(hk:kids objs df=some kf)(ht:thereK kf nf=true){x:List ByteArray}{id:Int}(h:(modG objs (fun ks=>dropK ks nf) qf t).at objs x=some (.dir id)):t.at objs x=some (.dir id):=by
 obtain⟨m1,m2⟩:=at_mod objs (fun ks=>dropK ks nf) qf t df kf ha hk;by_cases hx:qf <+: x
 ·obtain⟨s,rfl⟩:=hx
  cases s with
  | nil=>rw[List.append_nil,m2] at h;cases h
  | cons m r=>
   rw[m1,pick_drop hr ht] at h;by_cases hm:m=nf
   ·rw[zzD hm] at h;cases h
   ·rw[zzB hm] at h
    rw[at_append,ha,Option.bind_some,at_cons,hk,Option.bind_some];exact h
 ·by_cases h2:x <+: qf
  ·obtain⟨m,hm,hxm⟩:=prefix_get h2 (fun e=>hx (e ▸ List.prefix_refl _))
   obtain⟨r,hr'⟩:=hxm;have hr':qf=x++m :: r:=by rw[<-hr'];simp
   rw[hr'] at ha h;obtain⟨dq,kq,h1,h2,h3⟩:=at_mod_way objs (fun ks=>dropK ks nf) x m r t df ha;rw[h3] at h;cases h
  ·rw[at_mod_other objs _ qf x t df ha h2 hx] at h;exact h
theorem drop_ok {objs:List Ob}(hS:Sound objs){k:Nat}{t:LT}(hok:LTok objs k t){q:List ByteArray}{d:LT}{ks:Kids}(ha:t.at objs q=some d)(hk:kids objs d=some ks)(n:ByteArray):LTok objs k (modG objs (fun ks=>dropK ks n) q t):=by
 obtain⟨h1,h2,h3⟩:=ok_kids hS (ok_at hS _ hok ha).2.1 hk;refine ok_mod hS _ q hok ha hk (ok_own ?_ ?_ (fun x hx=>h3 x (dropK_mem hx)))
 ·unfold dropK;exact List.Pairwise.sublist (List.eraseIdx_sublist _ _) h1
 ·unfold dropK;exact zzG (List.length_eraseIdx_le _ _) h2
def cutF (ft:FT)(p:List ByteArray):FT:=⟨ft.root,fun x=>if p <+: x then none else ft.od x,fun x=>if p <+: x then none else ft.of x⟩
theorem cutF_od (ft:FT)(p x:List ByteArray):(cutF ft p).od x=if p <+: x then none else ft.od x:=rfl
theorem cutF_of (ft:FT)(p x:List ByteArray):(cutF ft p).of x=if p <+: x then none else ft.of x:=rfl
theorem flat_rename {objs:List Ob}{t:LT}{ft:FT}{fs:FS}(hS:Sound objs)(hF:Flat objs t ft){k:Nat}(hok:LTok objs k t){qf qt:List ByteArray}{nf nt:ByteArray}{df dt c:LT}{kf kt:Kids}
  (ha:t.at objs qf=some df)(hk:kids objs df=some kf)(hp:pickK kf nf=some c)(hb:t.at objs qt=some dt)(hkt:kids objs dt=some kt)(hwf:KeptWay objs t fs qf)(hwt:KeptWay objs t fs qt)
  (hnf:¬(qf ++ [nf]) <+: (qt ++ [nt]))(hnt:¬(qt ++ [nt]) <+: (qf ++ [nf])):
  ∃d1 k1,(modG objs (fun ks=>dropK ks nf) qf t).at objs qt=some d1/\kids objs d1=some k1/\
   Flat objs (modG objs (fun ks=>putK ks nt c) qt (modG objs (fun ks=>dropK ks nf) qf t)) (carryF (putF objs fs (takeF objs fs ft qf nf) qt nt (c.kind,c.id)) (qf ++ [nf]) (qt ++ [nt]))/\OwnWay objs fs (takeF objs fs ft qf nf) (curK objs (modG objs (fun ks=>dropK ks nf) qf t)) qt:=by
 have hr:=(ok_kids hS (ok_at hS _ hok ha).2.1 hk).1;have ht:thereK kf nf=true:=by rw[<-pick_there hr,hp];rfl
 have hnq:¬(qf ++ [nf]) <+: qt:=fun h=>hnf (h.trans (List.prefix_append _ _));have hok1:=drop_ok hS hok ha hk nf;obtain⟨d1,k1,e1,e2,e3⟩:=drop_dir hr ha hk ht hb hkt hnq;have Wf:=ownWay_flat hS hF hok ha hk hwf;obtain⟨t1,t2,t3⟩:=takeF_maps Wf nf;have hat:∀r,t.at objs (qf++nf :: r)=c.at objs r:=fun r=>by rw[at_append,ha,Option.bind_some,at_cons,hk,Option.bind_some,hp,Option.bind_some]
 -- the maps without what hangs below 'from'
 have F1:Flat objs (modG objs (fun ks=>dropK ks nf) qf t) (cutF (takeF objs fs ft qf nf) (qf ++ [nf])):=by
  refine flat_drop hS (fs:=fs) hF hok ha hk nf ht t1 (fun x hx=>?_) (fun x hx=>?_) (fun r=>?_) (fun r=>?_)
  ·rw[cutF_od,zzB hx,t2,cur_at ha hk]
  ·rw[cutF_of,zzB hx,t3]
  ·rw[cutF_od,zzD ⟨r,by simp⟩]
  ·rw[cutF_of,zzD ⟨r,by simp⟩]
 have hw1:KeptWay objs (modG objs (fun ks=>dropK ks nf) qf t) fs qt:=fun x id hx h=>hwt x id hx (drop_stored hr ha hk ht h);have W1:=ownWay_flat hS F1 hok1 e1 e2 hw1;have hpre:∀x,x <+: qt->¬(qf ++ [nf]) <+: x:=fun x hx h=>hnq (h.trans hx);have W2:OwnWay objs fs (takeF objs fs ft qf nf) (curK objs (modG objs (fun ks=>dropK ks nf) qf t)) qt:=W1.congr rfl (fun x hx=>by rw[cutF_od,zzB (hpre x hx)]);obtain⟨p1,p2,p3,p4,p5⟩:=putF_maps W2 nt (c.kind,c.id);refine⟨d1,k1,e1,e2,?_,W2⟩;have hsrc:∀r,(qf++nf :: r)≠qt ++ [nt]:=fun r e=>hnf (by rw[<-e];exact⟨r,by simp⟩);have hsq:∀r,(qf++nf :: r)≠qt:=fun r e=>hnq (by rw[<-e];exact⟨r,by simp⟩);have hsp:∀r,¬(qf++nf :: r) <+: qt:=fun r h=>hnq (List.IsPrefix.trans ⟨r,by simp⟩ h);have hsf:∀r,(qf++nf :: r)≠qf:=fun r e=>by have:=congrArg List.length e;simp at this
 have hsfp:∀r,¬(qf++nf :: r) <+: qf:=fun r h=>by have:=h.length_le;simp at this;omega
 have hdrop:∀r,(qt++nt :: r).drop (qt ++ [nt]).length=r:=fun r=>by rw[show qt++nt :: r=(qt ++ [nt])++r by simp,List.drop_left]
 refine flat_put hS (fs:=fs) F1 hok1 e1 e2 nt c p1 (fun x hx=>?_) (fun x hx=>?_) (fun r=>?_) (fun r=>?_)
 ·have hx':x≠qt ++ [nt]:=fun e=>hx (e ▸ List.prefix_refl _)
  show carryG _ _ _ x=_;unfold carryG;rw[zzB hx];by_cases hs:(qf ++ [nf]) <+: x
  ·rw[zzD hs,zzB (fun e:x=qt=>hnq (e ▸ hs)),zzB (fun h=>hpre x h hs),cutF_od,zzD hs]
  ·rw[zzB hs,p2 x hx',cutF_od,zzB hs,cur_at e1 e2]
 ·have hx':x≠qt ++ [nt]:=fun e=>hx (e ▸ List.prefix_refl _)
  show carryG _ _ _ x=_;unfold carryG;rw[zzB hx];by_cases hs:(qf ++ [nf]) <+: x
  ·rw[zzD hs,cutF_of,zzD hs]
  ·rw[zzB hs,p3 x hx',cutF_of,zzB hs]
 ·show carryG _ _ _ _=_
  unfold carryG;rw[zzD ⟨r,by simp⟩,hdrop,show (qf ++ [nf])++r=qf++nf :: r by simp,p2 _ (hsrc r),zzB (hsq r),zzB (hsp r),t2,zzB (hsf r),zzB (hsfp r),hF.od,hat]
 ·show carryG _ _ _ _=_
  unfold carryG;rw[zzD ⟨r,by simp⟩,hdrop,show (qf ++ [nf])++r=qf++nf :: r by simp,p3 _ (hsrc r),t3,hF.of,hat]
def hgt (objs:List Ob):Nat->LT->Int
 | _,.file id=>highOf objs id
 | _,.held _=>0
 | _,.dir id=>highOf objs id
 | 0,.own _=>0
 | n+1,.own es=>es.foldl (fun h x=>max h (1+hgt objs n x.2)) 0
theorem foldl_max_le {α:Type}(f:α->Int):∀(l:List α) (a m:Int),l.foldl (fun h x=>max h (1+f x)) a<=m↔a<=m/\∀x ∈ l,1+f x<=m
 | [],a,m=>by simp
 | y :: r,a,m=>by
  rw[List.foldl_cons,foldl_max_le f r]
  constructor
  ·rintro ⟨h1,h2⟩
   refine⟨by omega,fun x hx=>?_⟩
   rcases List.mem_cons.1 hx with rfl | hx
   ·omega
   ·exact h2 x hx
  ·rintro ⟨h1,h2⟩
   have:=h2 y (List.mem_cons_self ..)
   exact⟨by omega,fun x hx=>h2 x (List.mem_cons_of_mem _ hx)⟩
theorem ok_hgt {objs:List Ob}(hS:Sound objs):∀(n:Nat) {c:LT} {m:Nat},LTok objs n c->hgt objs n c<=m->LTok objs m c
 | n,.file id,m,h,_=>by
  have:kindOf objs id=1:=by cases n <;> simpa [LTok] using h
  cases m <;> simpa [LTok] using this
 | n,.held f,m,_,_=>by cases m <;> simp[LTok]
 | n,.dir id,m,h,hm=>by
  have h1:kindOf objs id=2:=by cases n <;> simp[LTok] at h <;> exact h.1
  have h2:highOf objs id<=m:=by cases n <;> simpa [hgt] using hm
  cases m <;> (rw[LTok];exact⟨h1,h2⟩)
 | 0,.own es,m,h,_=>by
  rw[LTok] at h
  subst h
  exact ok_own List.Pairwise.nil (by simp) (by simp)
 | n+1,.own es,m,h,hm=>by
  rw[LTok] at h
  rw[hgt,foldl_max_le] at hm
  refine ok_own h.1 h.2.1 (fun x hx=>?_)
  have h1:=hm.2 x hx
  obtain⟨hv,hx'⟩:=h.2.2 x hx
  have h0:0<=hgt objs n x.2:=by
   cases n with
   | zero=>cases hc:x.2 <;> simp[hgt] <;> exact hS.1 _
   | succ j=>
    cases hc:x.2 with
    | file i=>simp[hgt];exact hS.1 _
    | held f=>simp[hgt]
    | dir i=>simp[hgt];exact hS.1 _
    | own es'=>
     rw[hgt];exact ((foldl_max_le (fun x=>hgt objs j x.2) es' 0 _).1 (Int.le_refl _)).1
  refine⟨hv,m-1,by omega,ok_hgt hS n hx' (by omega)⟩
theorem kindOf_pos {a:List Ob}{id:Int}(h:kindOf a id≠0):1<=id/\(id-1).toNat<a.length:=by
 unfold kindOf at h;by_cases h1:1<=id
 ·rw[zzD h1] at h
  refine⟨h1,?_⟩;by_cases h2:(id-1).toNat<a.length
  ·exact h2
  ·rw[List.getElem?_eq_none (by omega)] at h;exact absurd rfl h
 ·rw[zzB h1] at h;exact absurd rfl h
theorem kindOf_app {a:List Ob}(l:List Ob){id:Int}(h:kindOf a id≠0):kindOf (a++l) id=kindOf a id:=by
 obtain⟨h1,h2⟩:=kindOf_pos h;unfold kindOf;rw[zzD h1,zzD h1,List.getElem?_append_left h2]
theorem highOf_app {a:List Ob}(l:List Ob){id:Int}(h:kindOf a id≠0):highOf (a++l) id=highOf a id:=by
 obtain⟨h1,h2⟩:=kindOf_pos h;unfold highOf;rw[List.getElem?_append_left h2]
theorem entsOf_app {a:List Ob}(l:List Ob){id:Int}(h:kindOf a id≠0):entsOf (a++l) id=entsOf a id:=by
 obtain⟨h1,h2⟩:=kindOf_pos h;unfold entsOf;rw[List.getElem?_append_left h2]
theorem bytesOf_app {a:List Ob}(l:List Ob){id:Int}(h:kindOf a id≠0):bytesOf (a++l) id=bytesOf a id:=by
 obtain⟨h1,h2⟩:=kindOf_pos h;unfold bytesOf;rw[List.getElem?_append_left h2]
theorem last_ob (a:List Ob)(o:Ob):kindOf (a ++ [o]) ((a.length:Int)+1)=o.kind/\highOf (a ++ [o]) ((a.length:Int)+1)=o.high/\entsOf (a ++ [o]) ((a.length:Int)+1)=o.ents/\bytesOf (a ++ [o]) ((a.length:Int)+1)=o.data:=by
 have e:(((a.length:Int)+1)-1).toNat=a.length:=by omega
 refine⟨?_,?_,?_,?_⟩
 ·unfold kindOf;rw[zzD (by omega),e];simp
 ·unfold highOf;rw[e];simp
 ·unfold entsOf;rw[e];simp
 ·unfold bytesOf;rw[e];simp
theorem kind_snoc {a:List Ob}{o:Ob}{id:Int}(h:kindOf (a ++ [o]) id≠0):kindOf a id≠0\/id=(a.length:Int)+1\/((id-1).toNat<a.length/\kindOf a id=0/\1<=id):=by
 obtain⟨h1,h2⟩:=kindOf_pos h;by_cases h3:(id-1).toNat<a.length
 ·by_cases h4:kindOf a id=0
  ·exact .inr (.inr ⟨h3,h4,h1⟩)
  ·exact .inl h4
 ·refine .inr (.inl ?_)
  simp only[List.length_append,List.length_singleton] at h2;omega
structure Exact (a:List Ob):Prop where
 sound:Sound a
 kinds:∀o ∈ a,o.kind=1\/o.kind=2
 low:∀id,kindOf a id=1->highOf a id=0
 high:∀id,kindOf a id=2->highOf a id=highs a (entsOf a id)
theorem kind_of_lt {a:List Ob}(hk:∀o ∈ a,o.kind=1\/o.kind=2){id:Int}(h1:1<=id)(h2:(id-1).toNat<a.length):kindOf a id=1\/kindOf a id=2:=by
 unfold kindOf;rw[zzD h1,zzH h2];exact hk _ (zzJ h2)
structure PutOk (a:List Ob)(o:Ob):Prop where
 or:(o.kind=1/\o.high=0/\o.data.size<=256/\fileAt a o.data=none)\/
  (o.kind=2/\o.high=highs a o.ents/\highs a o.ents<=5/\RisingK o.ents/\o.ents.length<=16/\(∀e ∈ o.ents,validB e.1=true/\(e.2.1=1\/e.2.1=2)/\kindOf a e.2.2=e.2.1)/\dirAt a o.ents=none)
theorem highs_app {a:List Ob}(l:List Ob){es:List Ent}(h:∀e ∈ es,kindOf a e.2.2≠0):highs (a++l) es=highs a es:=by
 unfold highs;have key:∀(xs:List Ent) (b:Int),(∀e ∈ xs,kindOf a e.2.2≠0)->xs.foldl (fun h e=>max h (1+highOf (a++l) e.2.2)) b=xs.foldl (fun h e=>max h (1+highOf a e.2.2)) b:=by
  intro xs
  induction xs with
  | nil=>intro b _;rfl
  | cons x r ih=>
   intro b hx;rw[List.foldl_cons,List.foldl_cons,highOf_app l (hx x (by simp))];exact ih _ (fun e he=>hx e (by simp[he]))
 exact key es 0 h
theorem highs_le {a:List Ob}{es:List Ent}{m:Int}:highs a es<=m↔0<=m/\∀e ∈ es,1+highOf a e.2.2<=m:=foldl_max_le (fun e:Ent=>highOf a e.2.2) es 0 m
theorem highs_nonneg (a:List Ob)(es:List Ent):0<=highs a es:=(highs_le.1 (Int.le_refl _)).1
theorem ne0 {k:Int}(h:k=1\/k=2):k≠0:=by omega
theorem Exact.snoc {a:List Ob}(h:Exact a){o:Ob}(ho:PutOk a o):Exact (a ++ [o]):=by
 obtain⟨l1,l2,l3,l4⟩:=last_ob a o;have hc:∀id,kindOf (a ++ [o]) id≠0->kindOf a id≠0\/id=(a.length:Int)+1:=by
  intro id hid;rcases kind_snoc hid with h1 | h1 | ⟨h1,h2,h3⟩
  ·exact .inl h1
  ·exact .inr h1
  ·rcases kind_of_lt h.kinds h3 h1 with k | k <;> (rw[k] at h2;cases h2)
 have hents:∀id,kindOf a id=2->∀e ∈ entsOf a id,kindOf a e.2.2≠0:=by
  intro id hid e he;obtain⟨_,k12,hk,_⟩:=(h.sound.2 id hid).2.2 e he;rw[hk];exact ne0 k12
 have hoe:o.kind=2->∀e ∈ o.ents,kindOf a e.2.2≠0:=by
  intro hk e he;rcases ho.or with ⟨k,_⟩ | ⟨_,_,_,_,_,q,_⟩
  ·rw[k] at hk;cases hk
  ·rw[(q e he).2.2];exact ne0 (q e he).2.1
 refine⟨⟨?_,?_⟩,?_,?_,?_⟩
 ·intro id
  unfold highOf;by_cases h1:(id-1).toNat<a.length
  ·rw[List.getElem?_append_left h1];exact h.sound.1 id
  ·by_cases h2:(id-1).toNat=a.length
   ·rw[h2]
    simp only[List.getElem?_append_right (zzC _),Nat.sub_self,List.getElem?_cons_zero,Option.map_some,Option.getD_some];rcases ho.or with ⟨_,k,_⟩ | ⟨_,k,_⟩
    ·rw[k];exact Int.le_refl _
    ·rw[k];exact highs_nonneg _ _
   ·rw[List.getElem?_eq_none (by simp;omega)];exact Int.le_refl _
 ·intro id hid
  rcases hc id (by rw[hid];decide) with h1 | h1
  ·rw[kindOf_app _ h1] at hid
   obtain⟨s1,s2,s3⟩:=h.sound.2 id hid;rw[entsOf_app _ h1];refine⟨s1,s2,fun e he=>?_⟩;obtain⟨q1,q2,q3,q4⟩:=s3 e he;have hne:kindOf a e.2.2≠0:=by rw[q3];exact ne0 q2
   rw[kindOf_app _ hne,highOf_app _ hne,highOf_app _ h1];exact⟨q1,q2,q3,q4⟩
  ·subst h1
   rw[l1] at hid;rw[l3,l2];rcases ho.or with ⟨k,_⟩ | ⟨_,k2,k3,k4,k5,k6,_⟩
   ·rw[k] at hid;cases hid
   ·refine⟨k4,k5,fun e he=>?_⟩
    have hne:=hoe hid e he;rw[kindOf_app _ hne,highOf_app _ hne,k2]
    have:=(highs_le.1 (Int.le_refl (highs a o.ents))).2 e he
    exact⟨(k6 e he).1,(k6 e he).2.1,(k6 e he).2.2,by omega⟩
 ·intro x hx
  rcases List.mem_append.1 hx with hx | hx
  ·exact h.kinds x hx
  ·rw[List.mem_singleton.1 hx]
   rcases ho.or with ⟨k,_⟩ | ⟨k,_⟩
   ·exact .inl k
   ·exact .inr k
 ·intro id hid
  rcases hc id (by rw[hid];decide) with h1 | h1
  ·rw[kindOf_app _ h1] at hid
   rw[highOf_app _ h1];exact h.low id hid
  ·subst h1
   rw[l1] at hid;rw[l2];rcases ho.or with ⟨_,k,_⟩ | ⟨k,_⟩
   ·exact k
   ·rw[k] at hid;cases hid
 ·intro id hid
  rcases hc id (by rw[hid];decide) with h1 | h1
  ·rw[kindOf_app _ h1] at hid
   rw[highOf_app _ h1,entsOf_app _ h1,highs_app _ (hents id hid)];exact h.high id hid
  ·subst h1
   rw[l1] at hid;rw[l2,l3,highs_app _ (hoe hid)];rcases ho.or with ⟨k,_⟩ | ⟨_,k,_⟩
   ·rw[k] at hid;cases hid
   ·exact k
theorem LTok_app {a:List Ob}(l:List Ob):∀(n:Nat) (t:LT),LTok a n t->LTok (a++l) n t
 | n,.file id,h=>by
  rw[LTok] at h ⊢
  rw[kindOf_app l (by rw[h];decide)];exact h
 | n,.held f,h=>by rw[LTok];trivial
 | n,.dir id,h=>by
  rw[LTok] at h ⊢
  have hne:kindOf a id≠0:=by rw[h.1];decide
  rw[kindOf_app l hne,highOf_app l hne];exact h
 | 0,.own es,h=>by rw[LTok] at h ⊢;exact h
 | n+1,.own es,h=>by
  rw[LTok] at h ⊢
  exact⟨h.1,h.2.1,fun x hx=>⟨(h.2.2 x hx).1,LTok_app l n x.2 (h.2.2 x hx).2⟩⟩
def cntO:Nat->LT->Nat
 | _,.file _=>0
 | _,.dir _=>0
 | _,.held _=>1
 | 0,.own _=>1
 | n+1,.own es=>1+(es.map fun x=>cntO n x.2).sum
end Go.Proofs.YtlgidcmmgohagaaGreat
