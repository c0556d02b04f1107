/- What is proved here: 'holds'. -/
import Derived.Test.YtlgidcmmgohagaaGreatTreeM05
import Derived.Laws.OwnMore
namespace Go.Proofs.YtlgidcmmgohagaaGreat
open Go.RowKit Go.Sort Go.Shelf Go.Proofs.Tryz
set_option linter.unusedVariables false
set_option maxRecDepth 100000
set_option maxHeartbeats 16000000
variable {ft:CX}
def dg (e:aK):aK:=(e.1,e.2.1,e.2.2-1)
structure vE (o x:Ob):Prop where
 kind:x.kind=o.kind
 data:o.kind=1->x.data=o.data
 aV:o.kind=2->x.aV=o.aV.map dg
 high:x.high=o.high
 none:o.kind=1->x.aV = []
 empty:o.kind=2->x.data=ByteArray.empty
theorem Bl {F:Nat->Prop}{w:World}{s:Nat}{ag:List Ob}(h:fT ft F w s ag)(j:Nat)(hj:j<ag.length)(hk:ag[j].kind=1):
  Calls prog 40 #[.pointer (some ⟨s,0,none⟩),.int .i64 ((j:Int)+1)] w fun e w'=>e=.returned (.tuple #[.string ag[j].data,.int .i64 0])/\Below w.heap.size w w':=by
 refine (uV h ((j:Int)+1)).mono fun e w' ⟨hf,hb⟩=>⟨?_,hb⟩;rcases hf with ⟨h1,_⟩ | ⟨j',Vd,he,_,h2⟩
 ·rw[dL hj] at h1;exact absurd hk h1
 ·have:j'=j:=by omega
  subst this;exact h2
theorem DN {F:Nat->Prop}{w:World}{s:Nat}{ag:List Ob}(h:fT ft F w s ag)(j:Nat)(hj:j<ag.length)(hk:ag[j].kind=2):
  Calls prog 43 #[.pointer (some ⟨s,0,none⟩),.int .i64 ((j:Int)+1)] w fun e w'=>∃g,e=.returned (.tuple #[.slice (some ⟨g,0,none⟩) ag[j].aV.length ag[j].aV.length,.int .i64 0])/\
   w'.ownsRow w.heap.size 96 3 (.slice (some ⟨g,0,none⟩) ag[j].aV.length ag[j].aV.length) ag[j].aV.length (flat ag[j].aV)/\Below w.heap.size w w':=by
 refine (wX h ((j:Int)+1)).mono fun e w' ⟨hf,hb⟩=>?_;rcases hf with ⟨h1,_⟩ | ⟨j',Vd,he,_,g,h2,h3⟩
 ·rw[dL hj] at h1;exact absurd hk h1
 ·have:j'=j:=by omega
  subst this;exact⟨g,h2,h3,hb⟩
section
variable {F G Fs:Nat->Prop}{w:World}{W s r:Nat}{ia ka pa:Option Addr}{ic kc pc:Nat}{ids:List Int}{known:List Bool}{paths:List Int}{c5 c6 c7 c8 c9 c10 c11:Value}{au ag:List Ob}
theorem KS (h:cZ F w W s r ia ka pa ic kc pc ids known paths c5 c6 c7 c8 c9 c10 c11)(hr:bS G w r au)(hs:fT ft Fs w s ag)(j:Nat)(hj:j<ag.length)(Gy:j<au.length)(hk:ag[j].kind=1)(hx:vE ag[j] au[j]):
  Calls prog 80 #[.pointer (some ⟨W,0,none⟩),.int .i64 (j:Int),.int .i64 ((j:Int)+1)] w fun e w'=>e=.returned (.tuple #[.slice none 0 0,.bool true])/\Below w.heap.size w w':=by
 have k0:=h.c0;have k1:=h.c1;have qu:=h.lt;obtain⟨ra,Sh,qd⟩:=hr;have r0:=qd.c0;have uS:=qd.lt;have hm:=qd.many;obtain⟨g,rfl,fo,q0,q1,q2,q3⟩:=j0 qd.row rfl Gy;have hd:=hx.data hk;have qs:=hx.kind;rw[qs,hk] at q0;rw[hd] at q1;have b1:∀B,Below w.heap.size w (w.alloc B):=fun B=>(Below.refl _ _).alloc (bA _) _;have lG:=fun (B:Obj)=>Bl (hs.below (b1 B) (fun _ _ h=>h)) j hj hk;have HGl:Hid (∀B:Obj,Calls prog 40 #[.pointer (some ⟨s,0,none⟩),.int .i64 ((j:Int)+1)] (w.alloc B) fun e w'=>e=.returned (.tuple #[.string ag[j].data,.int .i64 0])/\Below (w.alloc B).heap.size (w.alloc B) w'):=lG;clear h qd hd qs hx hs hk lG;go_enter func80,ntmps80;go_wp2_with fail;refine (HGl.out _).mono ?_;rintro e w1 ⟨rfl,hb1⟩;have bx:=hb1.cell (p:=⟨w.heap.size,1,none⟩) (by simp);have iG:=(b1 _).trans (hb1.mono (by simp));simp at bx;go_wp2;go_ret2;exact⟨rfl,iG⟩
theorem OW (h:cZ F w W s r ia ka pa ic kc pc ids known paths c5 c6 c7 c8 c9 c10 c11)(hr:bS G w r au)(hs:fT ft Fs w s ag)(j:Nat)(hj:j<ag.length)(Gy:j<au.length)(hk:ag[j].kind=2)(hx:vE ag[j] au[j]):
  Calls prog 80 #[.pointer (some ⟨W,0,none⟩),.int .i64 (j:Int),.int .i64 ((j:Int)+1)] w fun e w'=>∃g,e=.returned (.tuple #[.slice (some ⟨g,0,none⟩) ag[j].aV.length ag[j].aV.length,.bool true])/\
   w'.ownsRow w.heap.size 96 3 (.slice (some ⟨g,0,none⟩) ag[j].aV.length ag[j].aV.length) ag[j].aV.length (flat ag[j].aV)/\Below w.heap.size w w':=by
 have k0:=h.c0;have k1:=h.c1;have qu:=h.lt;obtain⟨ra,Sh,qd⟩:=hr;have r0:=qd.c0;have uS:=qd.lt;have hm:=qd.many;obtain⟨g,rfl,fo,q0,q1,q2,q3⟩:=j0 qd.row rfl Gy;have pG:=qd.zZ _ (jk Gy);have he:=hx.aV hk;have qs:=hx.kind;rw[qs,hk] at q0;have b1:∀B,Below w.heap.size w (w.alloc B):=fun B=>(Below.refl _ _).alloc (bA _) _;have lG:=fun (B:Obj)=>DN (hs.below (b1 B) (fun _ _ h=>h)) j hj hk;obtain⟨es,hes⟩:∃es,es=ag[j].aV:=⟨_,rfl⟩;rw[<-hes] at lG he ⊢;have hrow:=pG.row;have hlen:=pG.len;have Fm:=pG.few;rw[he] at hrow hlen;rw[List.length_map] at hlen;rw[<-hlen] at hrow q2 Fm;obtain⟨oa,Q8⟩:∃oa,oa=au[j].ea:=⟨_,rfl⟩;obtain⟨oc,J6⟩:∃oc,oc=au[j].ec:=⟨_,rfl⟩;rw[<-Q8,<-J6] at hrow q2;obtain⟨m,EL⟩:∃m,m=es.length:=⟨_,rfl⟩;rw[<-EL] at hrow q2 Fm lG ⊢;have HM:Hid (m=es.length):=EL;have HGl:Hid (∀B:Obj,Calls prog 43 #[.pointer (some ⟨s,0,none⟩),.int .i64 ((j:Int)+1)] (w.alloc B) fun e w'=>∃g,e=.returned (.tuple #[.slice (some ⟨g,0,none⟩) m m,.int .i64 0])/\w'.ownsRow (w.alloc B).heap.size 96 3 (.slice (some ⟨g,0,none⟩) m m) m (flat es)/\Below (w.alloc B).heap.size (w.alloc B) w'):=lG;have HRW:Hid (w.ownsRow 0 112 3 (.slice oa m oc) m (flat (es.map dg))):=hrow;clear h qd qs hx hs hk lG hes he pG hlen Q8 J6 EL hrow;go_enter func80,ntmps80;go_wp2_with fail;refine (HGl.out _).mono ?_;rintro e w1 ⟨gl,rfl,hown1,hb1⟩;have bx:=hb1.cell (p:=⟨w.heap.size,2,none⟩) (by simp);have iG:=(b1 _).trans (hb1.mono (by simp));simp at bx;have HOW:Hid (w1.ownsRow w.heap.size 96 3 (.slice (some ⟨gl,0,none⟩) m m) m (flat es)):=cL hown1 (by simp);have hml:((m:Int) != (m:Int))=false:=by simp
 clear hown1 hb1 HGl;go_wp2
 go_loopw [13] (fun i wr=>∃k:Nat,k<=m/\i=.int .i64 k/\(∃q,wr=w1.drewN q)) (fun i _=>m-(intOf i).toNat)
 case atStart=>exact⟨0,dG _,rfl,⟨0,rfl⟩⟩
 case round=>
  obtain⟨k,hk,rfl,⟨q,rfl⟩⟩:=hrel;by_cases hlt:k<m
  ·have j4:k<es.length:=by rw[<-HM.out];exact hlt
   have uP:k<(es.map dg).length:=by simpa using j4
   obtain⟨gi,ci,Hg⟩:=ak HRW.out (by omega);obtain rfl:=(Value.slice.inj Hg).1;have Kz:gi<w.heap.size:=ah HRW.out rfl;obtain⟨t0,t1,_⟩:=bg (off:=0) (aQ HRW.out) uP;obtain⟨u0,u1,_⟩:=bg (off:=0) (aQ HOW.out) j4;rw[Nat.zero_add] at t0 t1 u0 u1;have t0':=(iG.cell (p:=⟨gi,k*3,none⟩) Kz).trans t0;have t1':=(iG.cell (p:=⟨gi,k*3+1,none⟩) Kz).trans t1;have al8:=fun q=>(show (w1.drewN q).cell? ⟨gi,k*3,none⟩=some (.string es[k].1) by rw[List.getElem_map] at t0';exact t0');have al9:=fun q=>(show (w1.drewN q).cell? ⟨gi,k*3+1,none⟩=some (.int .i64 es[k].2.1) by rw[List.getElem_map] at t1';exact t1');have ama:=fun q=>(show (w1.drewN q).cell? ⟨gl,k*3,none⟩=some (.string es[k].1) from u0);have amb:=fun q=>(show (w1.drewN q).cell? ⟨gl,k*3+1,none⟩=some (.int .i64 es[k].2.1) from u1);have amc:=fun q=>(show (w1.drewN q).cell? ⟨w.heap.size,2,none⟩=some (.slice (some ⟨gi,0,none⟩) m oc) from bx);have amd:(k:Int)<(m:Int):=by omega
   have Sy:(es[k].1.toList == es[k].1.toList)=true:=by simp
   have qs:(es[k].2.1 != es[k].2.1)=false:=by simp
   clear t0 t1 t0' t1' u0 u1 Hg;go_wp2
   go_quiet (fail)
   go_wp2;go_roundw
   case rel=>exact⟨k+1,by omega,by go_num,⟨_,rfl⟩⟩
   case measure=>simp[intOf];omega
  ·go_wp2
   go_ret2;exact⟨gl,rfl,HOW.out,below_drewN iG q⟩
end
variable {ft:CX}
def qj (n:Nat):List Int:=(List.range n).map fun i:Nat=>(i:Int)+1
theorem dm (n:Nat):(qj n).length=n:=by simp[qj]
theorem s7 {n j:Nat}(h:j<n):(qj n)[j]? = some ((j:Int)+1):=by simp[qj,h]
theorem OX (n:Nat):qj (n+1)=qj n ++ [(n:Int)+1]:=by simp[qj,List.range_succ]
theorem Bn {n j:Nat}(h:j<n)(zs:List Int):placeOf (qj n++zs) ((j:Int)+1)=some j:=by
 unfold placeOf;rw[aL (by omega)];have hl:j<(qj n++zs).length:=by simp[dm];omega
 refine List.findIdx?_eq_some_iff_getElem.2 ⟨hl,?_,fun i hi=>?_⟩
 ·have:(qj n++zs)[j]? = some ((j:Int)+1):=by rw[List.getElem?_append_left (by rw[dm];exact h)];exact s7 h
  obtain⟨_,e⟩:=List.getElem?_eq_some_iff.1 this;rw[e];simp
 ·have:(qj n++zs)[i]? = some ((i:Int)+1):=by rw[List.getElem?_append_left (by rw[dm];omega)];exact s7 (by omega)
  obtain⟨_,e⟩:=List.getElem?_eq_some_iff.1 this;rw[e];simp;omega
theorem DO {n:Nat}{id:Int}(h:id<1\/(n:Int)<id)(zs:List Int)(hz:∀z ∈ zs,z=0):placeOf (qj n++zs) id=none:=by
 unfold placeOf;split
 ·next hp=>
  refine List.findIdx?_eq_none_iff.2 fun x hx=>?_;rcases List.mem_append.1 hx with hx | hx
  ·simp only[qj,List.mem_map,List.mem_range] at hx
   obtain⟨i,hi,rfl⟩:=hx;simp;omega
  ·rw[hz x hx];simp;omega
 ·rfl
section
variable {F G Fs:Nat->Prop}{w:World}{W s r:Nat}{ia ka pa:Option Addr}{ic kc pc:Nat}{ids:List Int}{known:List Bool}{paths:List Int}{c5 c6 c7 c8 c9 c10 c11:Value}{au ag:List Ob}
theorem kK {F:Nat->Prop}{w:World}{g j:Nat}{v:Value}(hg:F g):ax F w (w.setCell ⟨g,j,none⟩ v):=
 ⟨rfl,rfl,rfl,by simp,fun k hk hn=>Below.heap_setCell _ _ _ _ (fun e=>hn (by cases e;exact hg))⟩
theorem mC {w:World}{b:Nat}{t t':TypeId}{z n:Nat}{v u:Value}{xs:List Value}{g j:Nat}{cur:Array Value}(h:w.ownsRow b t z v n xs)(hg:w.heap[g]? = some (.cells cur t' (0,0)))(ht:t'≠t):(w.setCell ⟨g,j,none⟩ u).ownsRow b t z v n xs:=
 ai h (fun k hk=>Below.heap_setCell _ _ _ _ (fun e=>aA h hg ht (by cases e;exact hk.symm)))
theorem cZ.agn {g:Nat}(h:cZ F w W s r (some ⟨g,0,none⟩) ka pa ic kc pc ids known paths c5 c6 c7 c8 c9 c10 c11)(j:Nat)(x:Int):
  cZ F (w.setCell ⟨g,j,none⟩ (.int .i64 x)) W s r (some ⟨g,0,none⟩) ka pa ic kc pc (ids.set j x) known paths c5 c6 c7 c8 c9 c10 c11/\ax F w (w.setCell ⟨g,j,none⟩ (.int .i64 x)):=by
 obtain⟨cur,hc⟩:=iK h.lC rfl;have hl:(ids.set j x).length=ids.length:=by simp
 refine⟨⟨h.fw,?_,?_,mC h.pg hc (by decide),mC h.qg hc (by decide),?_,h.fk,h.fp⟩,kK (h.fi g rfl)⟩
 ·rw[hl,Below.heap_setCell _ _ _ _ (fun e=>aA h.lC h.hW (by decide) (by rw[show W=g from e];rfl))];exact h.hW
 ·rw[hl]
  have:=(h.lC.stored j (.int .i64 x)).1
  rw[encI,List.map_set];exact this
 ·rw[hl];exact h.fi
theorem cZ.ago {g:Nat}(h:cZ F w W s r ia (some ⟨g,0,none⟩) pa ic kc pc ids known paths c5 c6 c7 c8 c9 c10 c11)(j:Nat)(x:Bool):
  cZ F (w.setCell ⟨g,j,none⟩ (.bool x)) W s r ia (some ⟨g,0,none⟩) pa ic kc pc ids (known.set j x) paths c5 c6 c7 c8 c9 c10 c11/\ax F w (w.setCell ⟨g,j,none⟩ (.bool x)):=by
 obtain⟨cur,hc⟩:=iK h.pg rfl;have hl:(known.set j x).length=known.length:=by simp
 refine⟨⟨h.fw,?_,mC h.lC hc (by decide),?_,mC h.qg hc (by decide),h.fi,?_,h.fp⟩,kK (h.fk g rfl)⟩
 ·rw[hl,Below.heap_setCell _ _ _ _ (fun e=>aA h.pg h.hW (by decide) (by rw[show W=g from e];rfl))];exact h.hW
 ·rw[hl]
  have:=(h.pg.stored j (.bool x)).1
  rw[Hj,List.map_set];exact this
 ·rw[hl];exact h.fk
def fJ (F:Nat->Prop)(w:World)(W s r n:Nat)(c5 c6 c7 c8 c9 c10 c11:Value):Prop:=
 ∃ia ka pa ic kc pc paths,cZ F w W s r ia ka pa ic kc pc (qj n) (List.replicate n true) paths c5 c6 c7 c8 c9 c10 c11/\paths.length=n/\pI paths
def iM (au:List Ob):Prop:=∀i (hi:i<au.length),∀e ∈ au[i].aV,0<=e.2.2/\e.2.2<(i:Int)
theorem rF {n:Nat}(h:fJ F w W s r n c5 c6 c7 c8 c9 c10 c11)(hr:bS G w r au)(Ni:∀k,G k->k<w.heap.size/\¬F k)(hn:au.length=n)(hA:iM au)(j:Nat)(hj:j<n):
  Calls prog 37 #[.pointer (some ⟨W,0,none⟩),.int .i64 (j:Int),.int .i64 ((j:Int)+1)] w fun e w'=>e=.returned (.bool true)/\fJ (bq F w w') w' W s r n c5 c6 c7 c8 c9 c10 c11/\ax F w w':=by
 obtain⟨ia,ka,pa,ic,kc,pc,paths,hl,hpl,Dy⟩:=h;have hm:n<=400:=by obtain⟨_,_,h⟩:=hr;rw[<-hn];exact h.many
 have hgr:=Dz hl hr Ni (by simp[dm]) (by rw[hpl,dm]) (by rw[dm];omega) hA Dy;rw[dm,hn,Nat.sub_self] at hgr;clear hl hr hpl Dy;go_enter func37,ntmps37;go_wp2_with fail;refine hgr.mono ?_;rintro e w1 ⟨rfl,ia,ka,pa,ic,kc,pc,paths,hl,hpl,Dy,gU⟩;simp only[List.replicate_zero,List.append_nil,Nat.add_zero] at hl hpl;clear hgr;have Ya:=uk hl ((j:Int)+1) (by rw[dm];exact hm);have e:=Bn hj [];rw[List.append_nil] at e;rw[e] at Ya;have V1:Calls prog 41 #[.pointer (some ⟨W,0,none⟩),.int .i64 ((j:Int)+1)] w1 fun e w'=>e=.returned (.int .i64 (j:Int))/\w'=w1:=Ya;clear Ya e;have k2:=hl.c2;have k3:=hl.c3;rw[dm] at k2;rw[List.length_replicate] at k3;have qu:=hl.lt;obtain⟨g,hia,fo,cc,_⟩:=row_one hl.lC (i:=j) (v:=.int .i64 ((j:Int)+1)) (by simp[encI,s7 hj]);subst hia;obtain⟨gk,hka,acf,ck,_⟩:=row_one hl.pg (i:=j) (v:=.bool true) (by simp[Hj,hj]);subst hka;have ET:w1.frozen? ⟨g,j,none⟩=false:=by have:=hl.lC;rw[dm] at this;exact this.frozenAt j
 have za:=qZ cc;have n1:¬(j:Int)+1<1:=by omega
 have n1':decide ((j:Int)+1<1)=false:=dY n1;have n2:((j:Int)+1 != 0)=true:=by simp;omega
 have n3:((j:Int)+1 != (j:Int)+1)=false:=by simp
 have n4:((j:Int) != (j:Int))=false:=by simp
 have HF:Hid (fJ (bq F w w1) w1 W s r n c5 c6 c7 c8 c9 c10 c11/\ax F w w1):=⟨⟨_,_,pa,ic,kc,pc,paths,hl,hpl,Dy⟩,gU⟩;clear hl Dy gU;go_wp2_with fail;refine V1.mono ?_;rintro e w2 ⟨rfl,rfl⟩;go_wp2;go_ret;exact⟨rfl,HF.out⟩
theorem zl {F:Nat->Prop}{w w1 w2:World}(h:ax F w w1)(hb:Below w1.heap.size w1 w2):ax F w w2:=
 ⟨hb.os.trans h.os,hb.tape.trans h.tape,hb.output.trans h.output,eU h.size hb.size,fun k hk hn=>(hb.block k (cv hk h.size)).trans (h.block k hk hn)⟩
theorem fJ.mono {F F':Nat->Prop}{w:World}{W s r n:Nat}{c5 c6 c7 c8 c9 c10 c11:Value}(h:fJ F w W s r n c5 c6 c7 c8 c9 c10 c11)(hF:∀k,F k->F' k):fJ F' w W s r n c5 c6 c7 c8 c9 c10 c11:=by
 obtain⟨ia,ka,pa,ic,kc,pc,paths,hl,hp⟩:=h;exact⟨ia,ka,pa,ic,kc,pc,paths,hl.mono hF,hp⟩
theorem fJ.drew {F:Nat->Prop}{w:World}{W s r n:Nat}{c5 c6 c7 c8 c9 c10 c11:Value}(h:fJ F w W s r n c5 c6 c7 c8 c9 c10 c11):fJ F w.drew W s r n c5 c6 c7 c8 c9 c10 c11:=by
 obtain⟨ia,ka,pa,ic,kc,pc,paths,hl,hp⟩:=h;exact⟨ia,ka,pa,ic,kc,pc,paths,hl.keep (fun _ h=>h) (fun _ _=>rfl),hp⟩
theorem Sz (n:Nat)(x:Int):(qj n ++ [(0:Int)]).set n x=qj n ++ [x]:=by
 rw[List.set_append_right _ _ (by rw[dm];exact bA _),dm,Nat.sub_self];rfl
theorem OY (n:Nat):(List.replicate n true ++ [false]).set n true=List.replicate (n+1) true:=by
 rw[List.set_append_right _ _ (by simp),List.length_replicate,Nat.sub_self,List.replicate_succ'];rfl
theorem KT {n:Nat}(h:fJ F w W s r n c5 c6 c7 c8 c9 c10 c11)(hr:bS G w r au)(hs:fT ft Fs w s ag)(Ni:∀k,G k->k<w.heap.size/\¬F k)(hSF:∀k,Fs k->k<w.heap.size/\¬F k)(Zf:∀k,F k->k<w.heap.size)
  (hn:au.length=n+1)(ho:ag.length=n+1)(hA:iM au)(hx:vE (ag[n]'(by omega)) (au[n]'(by omega))):
  Calls prog 37 #[.pointer (some ⟨W,0,none⟩),.int .i64 (n:Int),.int .i64 ((n:Int)+1)] w fun e w'=>e=.returned (.bool true)/\fJ (bq F w w') w' W s r (n+1) c5 c6 c7 c8 c9 c10 c11/\ax F w w':=by
 obtain⟨ia,ka,pa,ic,kc,pc,paths,hl,hpl,Dy⟩:=h;have hm:n+1<=400:=by obtain⟨_,_,h⟩:=hr;rw[<-hn];exact h.many
 have hgr:=Dz hl hr Ni (by simp[dm]) (by rw[hpl,dm]) (by rw[dm];omega) hA Dy;rw[dm,hn,Nat.add_sub_cancel_left] at hgr;have HR:Hid (bS G w r au):=hr;have HI:Hid (fT ft Fs w s ag):=hs;have HG:Hid (∀k,G k->k<w.heap.size/\¬F k):=Ni;have HS:Hid (∀k,Fs k->k<w.heap.size/\¬F k):=hSF;have z8:Hid (∀k,F k->k<w.heap.size):=Zf;have HA:Hid (iM au):=hA;have HN:Hid (au.length=n+1):=hn;have HO:Hid (ag.length=n+1):=ho;have Zg:n<au.length:=by omega
 have hno:n<ag.length:=by omega
 have HX:Hid (vE ag[n] au[n]):=hx;clear hl hr hpl Dy hs Ni hSF Zf hA hx hn ho;go_enter func37,ntmps37;go_wp2_with fail;refine hgr.mono ?_;rintro e w1 ⟨rfl,ia,ka,pa,ic,kc,pc,paths,hl,hpl,Dy,gU⟩;simp only[List.replicate_one] at hl;clear hgr;have Ya:=uk hl ((n:Int)+1) (by simp[dm];omega);rw[DO (.inr (by omega)) [0] (fun z hz=>List.mem_singleton.1 hz)] at Ya;have V1:Calls prog 41 #[.pointer (some ⟨W,0,none⟩),.int .i64 ((n:Int)+1)] w1 fun e w'=>e=.returned (.int .i64 (-1))/\w'=w1:=Ya;clear Ya;have k2:=hl.c2;have k3:=hl.c3;have li:(qj n ++ [(0:Int)]).length=n+1:=by simp[dm]
 have lk:(List.replicate n true ++ [false]).length=n+1:=by simp
 rw[li] at k2;rw[lk] at k3;have qu:=hl.lt;obtain⟨g,hia,fo,cc,_⟩:=row_one hl.lC (i:=n) (v:=.int .i64 0) (by simp[encI,dm]);subst hia;obtain⟨gk,hka,acf,ck,_⟩:=row_one hl.pg (i:=n) (v:=.bool false) (by simp[Hj]);subst hka;have ET:w1.frozen? ⟨g,n,none⟩=false:=by have:=hl.lC;rw[li] at this;exact this.frozenAt n
 have hfk:w1.frozen? ⟨gk,n,none⟩=false:=by have:=hl.pg;rw[lk] at this;exact this.frozenAt n
 have ggk:g≠gk:=by
  obtain⟨_,h1⟩:=iK hl.lC rfl;obtain⟨_,h2⟩:=iK hl.pg rfl;exact mJ h1 h2 (by decide)
 have gW:g≠W:=by
  obtain⟨_,h1⟩:=iK hl.lC rfl;exact mJ h1 hl.hW (by decide)
 have gkW:gk≠W:=by
  obtain⟨_,h1⟩:=iK hl.pg rfl;exact mJ h1 hl.hW (by decide)
 have n1':decide ((n:Int)+1<1)=false:=dY (by omega);have nn:(n:Int)<(n:Int)+1:=by omega
 have L2:=hl.agn n ((n:Int)+1);have L3:=L2.1.ago n true;rw[Sz,<-OX,OY] at L3;have HL3:Hid _:=L3;have Yd:Hid (ax F w ((w1.setCell ⟨g,n,none⟩ (.int .i64 ((n:Int)+1))).setCell ⟨gk,n,none⟩ (.bool true))):=by
  have a:ax (bq F w w1) w1 ((w1.setCell ⟨g,n,none⟩ (.int .i64 ((n:Int)+1))).setCell ⟨gk,n,none⟩ (.bool true)):=⟨rfl,rfl,rfl,by simp,fun k hk RP=>(L3.2.block k (by simpa using hk) RP).trans (L2.2.block k hk RP)⟩;exact dr gU a
 have HP:Hid (paths.length=n+1/\pI paths):=⟨hpl,Dy⟩;clear hl Dy gU L2 L3 hpl;go_wp2_with fail;refine V1.mono ?_;rintro e w2 ⟨rfl,rfl⟩;clear V1;go_wp2_with fail;have hss:w2.heap.size=((w2.setCell ⟨g,n,none⟩ (.int .i64 ((n:Int)+1))).setCell ⟨gk,n,none⟩ (.bool true)).heap.size:=by simp
 obtain⟨w3,hw3⟩:∃w3,w3=(w2.setCell ⟨g,n,none⟩ (.int .i64 ((n:Int)+1))).setCell ⟨gk,n,none⟩ (.bool true):=⟨_,rfl⟩;rw[<-hw3] at HL3 Yd hss ⊢;have Ye:cZ (bq F w w3) w3 W s r (some ⟨g,0,none⟩) (some ⟨gk,0,none⟩) pa ic kc pc (qj (n+1)) (List.replicate (n+1) true) paths c5 c6 c7 c8 c9 c10 c11:=HL3.out.1.mono (fun k hk=>by rcases hk with h | h;exact .inl h;exact .inr ⟨h.1,by omega⟩);have HL:Hid (cZ (bq F w w3) w3 W s r (some ⟨g,0,none⟩) (some ⟨gk,0,none⟩) pa ic kc pc (qj (n+1)) (List.replicate (n+1) true) paths c5 c6 c7 c8 c9 c10 c11):=Ye;have R3:Hid (bS G w3 r au):=og HR.out HG.out Yd.out;have I3:Hid (fT ft Fs w3 s ag):=HI.out.keep (fun _ h=>h) (fun k hk=>Yd.out.block k (HS.out k hk).1 (HS.out k hk).2);clear Ye cc ck ET hfk k2 k3 fo acf hw3 HL3 qu li lk;have Zh:ag[n].kind=1\/ag[n].kind=2:=by exact I3.out.2.2.1.kinds _ (jk hno)
 rcases Zh with lM | lM
 ·have Zi:=KS HL.out R3.out I3.out n hno Zg lM HX.out
  clear lM;refine Zi.mono ?_;rintro e w4 ⟨rfl,hb4⟩;clear Zi;have HF:Hid (fJ (bq F w w4) w4 W s r (n+1) c5 c6 c7 c8 c9 c10 c11/\ax F w w4):=⟨⟨_,_,pa,ic,kc,pc,paths,(HL.out.below hb4).mono (fun k hk=>by rcases hk with h | h;exact .inl h;exact .inr ⟨h.1,cv h.2 hb4.size⟩),HP.out⟩,zl Yd.out hb4⟩;go_wp2
  go_loopw [9,10] (fun o i wr=>o=.bool true/\i=.int .i64 0/\wr=w4) (fun _ _ _=>0)
  case atStart=>exact⟨rfl,rfl,rfl⟩
  case round=>
   obtain⟨rfl,rfl,rfl⟩:=hrel;go_wp2;go_ret;exact⟨rfl,HF.out⟩
 ·have Zi:=OW HL.out R3.out I3.out n hno Zg lM HX.out
  have pO:=HX.out.aV lM;obtain⟨es,hes⟩:∃es,es=ag[n].aV:=⟨_,rfl⟩;rw[<-hes] at Zi pO;have hat:=HA.out n Zg;rw[pO] at hat;have E2:Hid (∀e ∈ es,1<=e.2.2/\e.2.2<=(n:Int)):=fun e he=>by
   have:0<=e.2.2-1/\e.2.2-1<(n:Int):=hat (dg e) (List.mem_map_of_mem he)
   omega
  have Fm:Hid (es.length<=16):=by
   obtain⟨_,_,qd⟩:=R3.out;have h1:=(qd.zZ _ (jk Zg)).len;have h2:=(qd.zZ _ (jk Zg)).few;rw[pO,List.length_map] at h1;show _<=_;omega
  have Zj:Hid (au[n].aV=es.map dg):=pO;clear lM pO hat hes;obtain⟨m,EL⟩:∃m,m=es.length:=⟨_,rfl⟩;rw[<-EL] at Zi Fm;have wB:m<=16:=Fm.out;have HM:Hid (m=es.length):=EL;clear EL;refine Zi.mono ?_;rintro e w4 ⟨gl,rfl,wY,hb4⟩;clear Zi;have hl4:Hid (gl<w4.heap.size/\w3.heap.size<=gl):=by have:=wY.lt gl rfl;exact⟨this.2,this.1⟩
  have Zk:Hid (w4.ownsRow w3.heap.size 96 3 (.slice (some ⟨gl,0,none⟩) m m) m (flat es)):=wY;have hF3:Hid (∀k,bq F w w3 k->k<w3.heap.size):=fun k hk=>by rcases hk with h | h;exact cv (z8.out k h) Yd.out.size;exact h.2
  have hLS:Hid (fJ (bq F w w3) w4 W s r (n+1) c5 c6 c7 c8 c9 c10 c11):=⟨_,_,pa,ic,kc,pc,paths,HL.out.below hb4,HP.out⟩;have R4:Hid (bS G w4 r au):=R3.out.below hb4 (fun _ h=>h);have HG4:Hid (∀k,G k->k<w4.heap.size/\¬bq F w w3 k):=fun k hk=>⟨cv (HG.out k hk).1 (eU Yd.out.size hb4.size),fun h=>by rcases h with h | h;exact (HG.out k hk).2 h;have:=(HG.out k hk).1;omega⟩;clear wY;go_wp2
  go_loopw [9,10] (fun o i wr=>∃k:Nat,k<=m/\o=.bool true/\i=.int .i64 k/\Hid (fJ (bq (bq F w w3) w4 wr) wr W s r (n+1) c5 c6 c7 c8 c9 c10 c11/\ax (bq F w w3) w4 wr)) (fun _ i _=>m-(intOf i).toNat)
  case atStart=>exact⟨0,dG _,rfl,rfl,fJ.mono hLS.out (fun k hk=>.inl hk),⟨rfl,rfl,rfl,bA _,fun _ _ _=>rfl⟩⟩
  case round=>
   obtain⟨k,hk,rfl,rfl,HW⟩:=hrel;have gU:=HW.out.2;by_cases hlt:k<m
   ·have j4:k<es.length:=by rw[<-HM.out];exact hlt
    have R5:=og R4.out HG4.out gU;have gP:=rF (w:=wr.drew) (fJ.drew HW.out.1) (R5.keep (fun _ h=>h) (fun _ _=>rfl)) (fun q hq=>⟨cv (HG4.out q hq).1 gU.size,fun h=>by rcases h with h | h;exact (HG4.out q hq).2 h;have:=(HG4.out q hq).1;omega⟩) HN.out HA.out;obtain⟨_,_,_,_,_,_,_,Kr,_⟩:=HW.out.1;have k1:=Kr.c1;obtain⟨ra,Sh,qd⟩:=R5;have r0:=qd.c0;rw[HN.out] at r0;obtain⟨gr,xR,agr,_,_,cI,_⟩:=j0 qd.row rfl Zg;subst xR;have pG:=qd.zZ _ (jk Zg);have hrow:=pG.row;have hlen:=pG.len;rw[Zj.out] at hrow hlen;rw[List.length_map,<-HM.out] at hlen;rw[<-hlen] at hrow cI;obtain⟨gi,ci,Hg⟩:=ak hrow (by omega);rw[(Value.slice.inj Hg).1] at hrow cI;obtain⟨_,_,i2⟩:=bg (off:=0) (aQ hrow) (i:=k) (by simpa using j4);rw[Nat.zero_add,List.getElem_map] at i2;obtain⟨ha0,ha1⟩:=E2.out es[k] (jk j4);obtain⟨jj,Vl⟩:∃jj:Nat,es[k].2.2=(jj:Int)+1:=⟨(es[k].2.2-1).toNat,by omega⟩;have i2':wr.cell? ⟨gi,k*3+2,none⟩=some (.int .i64 (jj:Int)):=by rw[i2];unfold dg;rw[Vl];simp
    have hO5:wr.ownsRow 0 96 3 (.slice (some ⟨gl,0,none⟩) m m) m (flat es):=ai (cL Zk.out (dG _)) (fun q hq=>by
     cases hq;exact gU.block gl hl4.out.1 (fun h=>by have:=hF3.out gl h;have:=hl4.out.2;omega))
    obtain⟨_,_,l2⟩:=bg (off:=0) (aQ hO5) j4;rw[Nat.zero_add,Vl] at l2;have acg:=gP jj (by omega);have uP:(k:Int)<(m:Int):=by omega
    have HKN:Hid (Calls prog 37 #[.pointer (some ⟨W,0,none⟩),.int .i64 (jj:Int),.int .i64 ((jj:Int)+1)] wr.drew fun e w'=>e=.returned (.bool true)/\fJ (bq (bq (bq F w w3) w4 wr) wr.drew w') w' W s r (n+1) c5 c6 c7 c8 c9 c10 c11/\ax (bq (bq F w w3) w4 wr) wr.drew w'):=acg;clear gP acg Kr qd pG hlen hrow Hg i2 hO5 ha0 ha1 Vl;go_wp2;refine wp_region_still_tail 21 (by kernel_rfl) (by kernel_rfl) ?_;simp only[List.take_succ_cons,List.take_zero,List.drop_succ_cons,List.drop_zero]
    iterate 21 still_step
    refine wpStill_nil ?_;go_wp2_with fail;refine HKN.out.mono ?_;rintro e w5 ⟨rfl,ach,KU⟩;have HF5:Hid (fJ (bq (bq F w w3) w4 w5) w5 W s r (n+1) c5 c6 c7 c8 c9 c10 c11/\ax (bq F w w3) w4 w5):=⟨fJ.mono ach (fun q hq=>ig gU.size KU.size hq),dr gU ⟨KU.os,KU.tape,KU.output,KU.size,KU.block⟩⟩;clear ach KU;go_wp2;go_roundw
    case rel=>exact⟨k+1,by omega,rfl,by go_num,HF5.out⟩
    case measure=>simp[intOf];omega
   ·have Aa:Hid (fJ (bq F w wr) wr W s r (n+1) c5 c6 c7 c8 c9 c10 c11/\ax F w wr):=by
     have z1:=Yd.out.size;have z2:=hb4.size;have z3:=gU.size;refine⟨fJ.mono HW.out.1 (fun q hq=>?_),?_⟩
     ·rcases hq with (h | h) | h
      ·exact .inl h
      ·exact .inr ⟨h.1,by omega⟩
      ·exact .inr ⟨by omega,h.2⟩
     ·refine dr (zl Yd.out hb4) ⟨gU.os,gU.tape,gU.output,gU.size,fun q hq RP=>gU.block q hq (fun h=>RP ?_)⟩
      rcases h with h | h
      ·exact .inl h
      ·exact .inr ⟨h.1,by omega⟩
    have DR:decide ((k:Int)<(m:Int))=false:=dY (by omega);go_wp2;go_ret;exact⟨rfl,Aa.out⟩
end
theorem DS {p:Prop}(h:Hid p):p:=h.out
def vG:aK:=(ByteArray.empty,-77,0)
theorem Ig:(prog.info? 96).map (fun i=>(i.zero,i.size,i.bytes))=some (some (.agg #[.string ByteArray.empty,.int .i64 0,.int .i64 0]),3,32):=by kernel_rfl
theorem Nq:(prog.info? 96).map (·.size)=some 3:=by kernel_rfl
theorem agt (pre:List Value)(a b c:Value):∀(rest:List Value),3<=rest.length->(((pre++rest).set pre.length a).set (pre.length+1) b).set (pre.length+2) c=pre ++ [a,b,c]++rest.drop 3
 | [],h=>by simp at h
 | [_],h=>by simp at h
 | [_,_],h=>by simp at h
 | r0 :: r1 :: r2 :: r',_=>by
  rw[List.set_append_right _ _ (bA _),Nat.sub_self,List.set_append_right _ _ (by omega),Nat.add_sub_cancel_left,List.set_append_right _ _ (by omega),Nat.add_sub_cancel_left]
  simp
theorem Zl {w:World}{base:Nat}{t:TypeId}{g n N C:Nat}{A:List aK}{rest:List Value}(h:w.ownsRow base t 3 (.slice (some ⟨g,0,none⟩) N C) N (flat A++rest))(hA:A.length=n)(hr:3<=rest.length)(e:aK):
  (((w.setCell ⟨g,n*3,none⟩ (.string e.1)).setCell ⟨g,n*3+1,none⟩ (.int .i64 e.2.1)).setCell ⟨g,n*3+2,none⟩ (.int .i64 e.2.2)).ownsRow base t 3 (.slice (some ⟨g,0,none⟩) N C) N (flat (A ++ [e])++rest.drop 3):=by
 have h1:=(h.stored (n*3) (.string e.1)).1;have h2:=(h1.stored (n*3+1) (.int .i64 e.2.1)).1;have h3:=(h2.stored (n*3+2) (.int .i64 e.2.2)).1;have hl:(flat A).length=n*3:=by rw[bl,hA]
 have e3:=agt (flat A) (.string e.1) (.int .i64 e.2.1) (.int .i64 e.2.2) rest hr;rw[hl] at e3;rw[e3] at h3;rw[aZ,bp];exact h3
theorem OZ (b off m c0:Nat)(es:List aK)(w:World)(hl:es.length=m)(hbl:b<w.heap.size)(jl:(m+3)*32<=140737488355328)(hc:∀j u,(flat es)[j]? = some u->w.cell? ⟨b,off+j,none⟩=some u):
  Calls prog 81 #[.slice (some ⟨b,off,none⟩) m c0] w fun e w'=>∃g,e=.returned (.slice (some ⟨g,0,none⟩) (m+3) (m+3))/\w'.ownsRow w.heap.size 96 3 (.slice (some ⟨g,0,none⟩) (m+3) (m+3)) (m+3) (flat (es++List.replicate 3 vG))/\Below w.heap.size w w':=by
 obtain⟨i0,hi,hz0,hz1,hz2⟩:=info_parts Ig;have HC:Hid (∀j u,(flat es)[j]? = some u->w.cell? ⟨b,off+j,none⟩=some u):=hc;have HL:Hid (es.length=m):=hl;clear hc hl;go_enter func81,ntmps81;go_wp2_with (at_make;refine wpList_make_full _ rfl _ _ 55 rfl 0 96 i0 _ 3 underlying55 hi hz0 hz1 .i64 .i64 _ _ (m+3) rfl rfl rfl rfl ?_ ?_ (dG _) ?_;go_must (rw[hz2];omega);go_must (unfold maxLen;omega);intro w3 jq hg3;obtain⟨cur,HB,Ve⟩:=AU jq;have Ko:=rj (Below.refl w.heap.size w) hg3;refine DS ?_);refine (show Hid _ from (?_:wpList _ _ _ _ _ _));clear jq hg3;have c1:Hid ((flat es).length=Nat.min m (m+3)*3):=by show _=_;rw[bl,HL.out,show Nat.min m (m+3)=m from Nat.min_eq_left (by omega)]
 have c2:Hid (∀j v,(flat es)[j]? = some v->w3.cell? ((⟨b,off,none⟩:Addr).add j)=some v):=fun j v hv=>by rw[oC,Ko.out.cell (p:=⟨b,off+j,none⟩) hbl];exact HC.out j v hv
 have c3:Hid (0+(flat es).length<=cur.size):=by show _<=_;rw[bl,HL.out,Ve.out];omega
 have c4:Hid ((flat es++cur.toList.drop (m*3)).toArray.toList=cur.toList.take 0++flat es++cur.toList.drop (0+(flat es).length)):=by show _=_;rw[bl,HL.out];simp
 go_wp2_with (refine q7 rfl (.tmp 9) (.tmp 10) 55 55 rfl 96 underlying55 3 Nq w.heap.size 0 (m+3) (m+3) ⟨b,off,none⟩ m c0 rfl rfl cur 96 HB.out (flat es) c1.out c2.out c3.out (iY es) (flat es++cur.toList.drop (m*3)).toArray c4.out ?_;intro w4 H4 hg4);have hb4:Below w.heap.size w w4:=Ko.out.grown hg4 Ko.out.size (fun k h=>by cases h;exact bA _);have uS:(cur.toList.drop (m*3)).length=9:=by rw[List.length_drop,Array.length_toList,Ve.out];omega
 have wY:w4.ownsRow w.heap.size 96 3 (.slice (some ⟨w.heap.size,0,none⟩) (m+3) (m+3)) (m+3) (flat es++cur.toList.drop (m*3)):=by
  refine⟨by rw[List.length_append,bl,HL.out,uS];omega,.inr ⟨w.heap.size,m+3,_,rfl,bA _,H4.out,bA _,by unfold maxLen;omega,?_,?_⟩⟩
  ·simp only[List.size_toArray,List.length_append,bl,HL.out,uS];omega
  ·simp only
   exact List.take_of_length_le (by rw[List.length_append,bl,HL.out,uS];omega)
 have Zk:Hid (∃rest:List Value,rest.length=9/\w4.ownsRow w.heap.size 96 3 (.slice (some ⟨w.heap.size,0,none⟩) (m+3) (m+3)) (m+3) (flat (es++List.replicate 0 vG)++rest)):=⟨_,uS,by simpa using wY⟩;clear wY uS c1 c2 c3 c4 HB Ve H4 hg4 Ko;go_wp2
 go_loopw [4] (fun i wr=>∃k:Nat,k<=3/\i=.int .i64 ((m:Int)+k)/\Below w.heap.size w wr/\Hid (∃rest:List Value,rest.length=(3-k)*3/\wr.ownsRow w.heap.size 96 3 (.slice (some ⟨w.heap.size,0,none⟩) (m+3) (m+3)) (m+3) (flat (es++List.replicate k vG)++rest))) (fun i _=>m+3-(intOf i).toNat)
 case atStart=>exact⟨0,by omega,by simp,hb4,Zk.out⟩
 case round=>
  obtain⟨k,hk,rfl,hb,HR⟩:=hrel;obtain⟨rest,uS,hown⟩:=HR.out;by_cases hlt:k<3
  ·have ET:=fun j=>hown.frozenAt j
   obtain⟨n,hn⟩:∃n:Nat,n=m+k:=⟨_,rfl⟩;have hni:(m:Int)+(k:Int)=(n:Int):=by omega
   have hcs:∀j,j<3->∃v,wr.cell? ⟨w.heap.size,n*3+j,none⟩=some v:=fun j hj=>by
    rw[hown.cellAt (n*3+j) (by omega)];exact⟨_,kO (by rw[List.length_append,bl,List.length_append,HL.out,List.length_replicate,uS];omega)⟩
   obtain⟨v0,e0⟩:=hcs 0 (by omega);obtain⟨v1,e1⟩:=hcs 1 (by omega);obtain⟨v2,e2⟩:=hcs 2 (by omega);rw[Nat.add_zero] at e0;have sA:(n:Int)<(m:Int)+3:=by omega
   have fo:w.heap.size<wr.heap.size:=ah hown rfl;have HN:Hid (n=m+k):=hn;have HO:Hid _:=hown;clear hcs hn HR hown;rw[hni];go_wp2;refine⟨⟨k+1,by omega,by have:=HN.out;go_num,((hb.setCell (bA _) _).setCell (bA _) _).setCell (bA _) _,rest.drop 3,by rw[List.length_drop,uS];omega,?_⟩,by simp[intOf];omega⟩
   have:=Zl (n:=n) HO.out (by rw[List.length_append,HL.out,List.length_replicate,HN.out]) (by omega) vG
   rw[List.append_assoc,<-List.replicate_succ'] at this;exact this
  ·have hk3:k=3:=by omega
   subst hk3;have V2:rest = []:=List.eq_nil_of_length_eq_zero (by omega);subst V2;rw[List.append_nil] at hown;have HO:Hid _:=hown;clear hown HR;go_wp2;go_ret;exact⟨_,rfl,HO.out,hb⟩
theorem SA (w:World)(g n:Nat):(Builtin.copy_ #[55,55] 3 #[.slice (some ⟨g,0,none⟩) n n,.slice none 0 0]).run prog w=.ok (.int .i64 0) w:=by
 have hu:prog.underlying 55=some (.slice 96):=underlying55;have hl:=run_loadCells_list (P:=prog) w;cases hq:prog.info? 96 with
 | none=>have:=Nq;simp[hq] at this
 | some i=>
  simp[Builtin.copy_,run_underlying hu,Builtin.lenOf,Builtin.firstCells,sizeOf,typeInfo,hq];rfl
theorem SB (w:World):
  Calls prog 81 #[.slice none 0 0] w fun e w'=>∃g,e=.returned (.slice (some ⟨g,0,none⟩) 3 3)/\w'.ownsRow w.heap.size 96 3 (.slice (some ⟨g,0,none⟩) 3 3) 3 (flat (List.replicate 3 vG))/\Below w.heap.size w w':=by
 obtain⟨i0,hi,hz0,hz1,hz2⟩:=info_parts Ig;go_enter func81,ntmps81;go_wp2_with (at_make;refine wpList_make_full _ rfl _ _ 55 rfl 0 96 i0 _ 3 underlying55 hi hz0 hz1 .i64 .i64 _ _ 3 rfl rfl rfl rfl ?_ ?_ (dG _) ?_;go_must (rw[hz2];omega);go_must (unfold maxLen;omega);intro w3 jq hg3;refine DS ?_);refine (show Hid _ from (?_:wpList _ _ _ _ _ _));have hb3:Below w.heap.size w w3:=(rj (Below.refl w.heap.size w) hg3).out;have V3:=SA w3 w.heap.size 3;have XY:Hid (∃rest:List Value,rest.length=9/\w3.ownsRow w.heap.size 96 3 (.slice (some ⟨w.heap.size,0,none⟩) 3 3) 3 (flat ([]++List.replicate 0 vG)++rest)):=by
  obtain⟨h1,h2⟩:=jq;exact⟨_,h1,h1,by rcases h2 with ⟨h,_⟩ | ⟨g,c,cur,hv,_,r⟩;cases h;cases hv;exact .inr ⟨_,_,cur,rfl,bA _,r⟩⟩
 clear jq hg3;go_wp2
 go_loopw [4] (fun i wr=>∃k:Nat,k<=3/\i=.int .i64 (k:Int)/\Below w.heap.size w wr/\Hid (∃rest:List Value,rest.length=(3-k)*3/\wr.ownsRow w.heap.size 96 3 (.slice (some ⟨w.heap.size,0,none⟩) 3 3) 3 (flat ([]++List.replicate k vG)++rest))) (fun i _=>3-(intOf i).toNat)
 case atStart=>exact⟨0,by omega,by simp,hb3,XY.out⟩
 case round=>
  obtain⟨n,hk,rfl,hb,HR⟩:=hrel;obtain⟨rest,uS,hown⟩:=HR.out;by_cases hlt:n<3
  ·have ET:=fun j=>hown.frozenAt j
   have hcs:∀j,j<3->∃v,wr.cell? ⟨w.heap.size,n*3+j,none⟩=some v:=fun j hj=>by
    rw[hown.cellAt (n*3+j) (by omega)];exact⟨_,kO (by rw[List.length_append,bl,List.length_append,List.length_replicate,uS];simp;omega)⟩
   obtain⟨v0,e0⟩:=hcs 0 (by omega);obtain⟨v1,e1⟩:=hcs 1 (by omega);obtain⟨v2,e2⟩:=hcs 2 (by omega);rw[Nat.add_zero] at e0;have sA:(n:Int)<3:=by omega
   have fo:w.heap.size<wr.heap.size:=ah hown rfl;have HO:Hid _:=hown;clear hcs HR hown;go_wp2;refine⟨⟨n+1,by omega,by go_num,((hb.setCell (bA _) _).setCell (bA _) _).setCell (bA _) _,rest.drop 3,by rw[List.length_drop,uS];omega,?_⟩,by simp[intOf];omega⟩
   have:=Zl (n:=n) HO.out (by simp) (by omega) vG
   rw[List.append_assoc,<-List.replicate_succ'] at this;exact this
  ·have hk3:n=3:=by omega
   subst hk3;have V2:rest = []:=List.eq_nil_of_length_eq_zero (by omega);subst V2;rw[List.append_nil,List.nil_append] at hown;have HO:Hid _:=hown;clear hown HR;go_wp2;go_ret;exact⟨_,rfl,HO.out,hb⟩
theorem Bo (a:Option Addr)(m c0:Nat)(es:List aK)(w:World)(hl:eW w a m es)(jl:(m+3)*32<=140737488355328)(hnil:m=0->a=none/\c0=0):
  Calls prog 81 #[.slice a m c0] w fun e w'=>∃g,e=.returned (.slice (some ⟨g,0,none⟩) (m+3) (m+3))/\w'.ownsRow w.heap.size 96 3 (.slice (some ⟨g,0,none⟩) (m+3) (m+3)) (m+3) (flat (es++List.replicate 3 vG))/\Below w.heap.size w w':=by
 rcases Nat.eq_zero_or_pos m with rfl | hp
 ·obtain⟨rfl,rfl⟩:=hnil rfl
  have:es = []:=List.eq_nil_of_length_eq_zero hl.1
  subst this;exact SB w
 ·obtain⟨b,off,rfl,hbl,hc⟩:=hl.2 hp
  exact OZ b off m c0 es w hl.1 hbl jl hc
theorem ldE (W:World)(g o:Nat)(x:aK)(c0:W.cell? ⟨g,o,none⟩=some (.string x.1))(c1:W.cell? ⟨g,o+1,none⟩=some (.int .i64 x.2.1))(c2:W.cell? ⟨g,o+2,none⟩=some (.int .i64 x.2.2)):(loadVar 96 ⟨g,o,none⟩).run prog W=.ok (.agg #[.string x.1,.int .i64 x.2.1,.int .i64 x.2.2]) W:=by
 unfold loadVar
 go_simp
theorem SC (op:BinOp)(W:World)(x y:Operand)(X Y:Array Value):(eqGuard op 96 x y (.agg X) (.agg Y)).run prog W=.ok () W:=G9 (by kernel_rfl) op W x y X Y
theorem SD (g:Nat)(a:Option Addr)(m c0:Nat)(es:List aK)(w:World)(hl:eW w a m es)(jl:(m+3)*32<=140737488355328)(hnil:m=0->a=none/\c0=0)(b0:Nat)
  (lV:w.ownsRow b0 96 3 (.slice (some ⟨g,0,none⟩) (m+3) (m+3)) (m+3) (flat (es++List.replicate 3 vG))):
  Calls prog 83 #[.slice (some ⟨g,0,none⟩) (m+3) (m+3),.slice a m c0] w fun e w'=>e=.returned (.bool true)/\Below w.heap.size w w':=by
 have wZ:=Bo a m c0 es w hl jl hnil;obtain⟨ls,CO⟩:∃ls,ls=es++List.replicate 3 vG:=⟨_,rfl⟩;have HLL:Hid (ls.length=m+3):=by rw[CO,List.length_append,hl.1,List.length_replicate];rfl
 rw[<-CO] at lV wZ;have HI:Hid (w.ownsRow b0 96 3 (.slice (some ⟨g,0,none⟩) (m+3) (m+3)) (m+3) (flat ls)):=lV;have fo:g<w.heap.size:=ah lV rfl;clear lV CO hl hnil;go_enter func83,ntmps83;go_wp2_with fail;refine wZ.mono ?_;rintro e w1 ⟨gw,rfl,hown1,hb1⟩;have HO:Hid (w1.ownsRow w.heap.size 96 3 (.slice (some ⟨gw,0,none⟩) (m+3) (m+3)) (m+3) (flat ls)):=hown1;clear wZ hown1;go_wp2
 go_loopw [6] (fun i wr=>∃k:Nat,k<=m+3/\i=.int .i64 (k:Int)/\(∃q,wr=w1.drewN q)) (fun i _=>m+3-(intOf i).toNat)
 case atStart=>exact⟨0,by omega,rfl,⟨0,rfl⟩⟩
 case round=>
  obtain⟨k,hk,rfl,⟨q,rfl⟩⟩:=hrel;by_cases hlt:k<m+3
  ·have j4:k<ls.length:=by rw[HLL.out];exact hlt
   obtain⟨p0,p1,p2⟩:=bg (off:=0) (aQ HI.out) j4;obtain⟨q0,q1,q2⟩:=bg (off:=0) (aQ HO.out) j4;rw[Nat.zero_add] at p0 p1 p2 q0 q1 q2;obtain⟨x,hx⟩:∃x,x=ls[k]:=⟨_,rfl⟩;rw[<-hx] at p0 p1 p2 q0 q1 q2;have HL1:Hid (∀q,(loadVar 96 ⟨g,k*3,none⟩).run prog (w1.drewN q)=.ok (.agg #[.string x.1,.int .i64 x.2.1,.int .i64 x.2.2]) (w1.drewN q)):=fun q=>ldE _ g (k*3) x ((hb1.cell (p:=⟨g,k*3,none⟩) fo).trans p0) ((hb1.cell (p:=⟨g,k*3+1,none⟩) fo).trans p1) ((hb1.cell (p:=⟨g,k*3+2,none⟩) fo).trans p2);have HL2:Hid (∀q,(loadVar 96 ⟨gw,k*3,none⟩).run prog (w1.drewN q)=.ok (.agg #[.string x.1,.int .i64 x.2.1,.int .i64 x.2.2]) (w1.drewN q)):=fun q=>ldE _ gw (k*3) x q0 q1 q2;have uP:(k:Int)<(m:Int)+3:=by omega
   clear p0 p1 p2 q0 q1 q2 hx;go_wp2;refine wp_region_quiet_lit (by kernel_rfl) (by kernel_rfl) ?_
   iterate 3 quiet_step (fail)
   refine iZ rfl 96 _ rfl ⟨g,k*3,none⟩ rfl (.agg #[.string x.1,.int .i64 x.2.1,.int .i64 x.2.2]) (by rintro _ ⟨n,rfl⟩;rw[World.drewN_drewN];exact HL1.out _) ?_
   go_frame
   iterate 3 quiet_step (fail)
   refine iZ rfl 96 _ rfl ⟨gw,k*3,none⟩ rfl (.agg #[.string x.1,.int .i64 x.2.1,.int .i64 x.2.2]) (by rintro _ ⟨n,rfl⟩;rw[World.drewN_drewN];exact HL2.out _) ?_
   go_frame
   refine sL rfl .neq 96 96 _ _ rfl (.agg #[.string x.1,.int .i64 x.2.1,.int .i64 x.2.2]) (.agg #[.string x.1,.int .i64 x.2.1,.int .i64 x.2.2]) (.bool (!(decide (x=x)))) rfl rfl (by rintro _ ⟨n,rfl⟩;exact SC _ _ _ _ _ _) (by rintro _ ⟨n,rfl⟩;exact RU _ x x) ?_
   go_frame
   refine wpQuiet_nil ?_;rintro _ ⟨nq,rfl⟩;simp only[decide_true,Bool.not_true];go_wp2;go_roundw
   case rel=>exact⟨k+1,by omega,by go_num,⟨_,rfl⟩⟩
   case measure=>simp[intOf];omega
  ·go_wp2
   go_ret;exact⟨rfl,below_drewN hb1 q⟩
end Go.Proofs.YtlgidcmmgohagaaGreat
