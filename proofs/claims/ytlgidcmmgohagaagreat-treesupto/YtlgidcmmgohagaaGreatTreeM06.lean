/-
  What is proved here: 'holds': the object of an ID holds what the document's one does. 'learns': an object's ID, when all are known; when it is the last and new. 'lent', 'kept': the caller's list, with others in ..
-/
import Derived.Test.YtlgidcmmgohagaaGreatTreeM05
import Derived.Laws.OwnMore
namespace Go.Proofs.YtlgidcmmgohagaaGreat
open Go.RowKit Go.Sort Go.Shelf
set_option linter.unusedVariables false
set_option maxRecDepth 100000
set_option maxHeartbeats 16000000
variable {ft:PTp}
def toItem (e:Ent):Ent:=(e.1,e.2.1,e.2.2-1)
structure AlikeR (o x:Ob):Prop where
 kind:x.kind=o.kind
 data:o.kind=1->x.data=o.data
 ents:o.kind=2->x.ents=o.ents.map toItem
 high:x.high=o.high
 none:o.kind=1->x.ents = []
 empty:o.kind=2->x.data=ByteArray.empty
theorem getFile_at {F:Nat->Prop}{w:World}{s:Nat}{objs:List Ob}(h:InvQ ft F w s objs)(j:Nat)(hj:j<objs.length)(hk:objs[j].kind=1):
  Calls Tryz.prog 40 #[.pointer (some ⟨s,0,none⟩),.int .i64 ((j:Int)+1)] w fun e w'=>e=.returned (.tuple #[.string objs[j].data,.int .i64 0])/\Below w.heap.size w w':=by
 refine (storeGetFileQ h ((j:Int)+1)).mono fun e w' ⟨hf,hb⟩=>⟨?_,hb⟩
 rcases hf with ⟨h1,_⟩ | ⟨j',hj',he,_,h2⟩
 ·rw[kindOf_in hj] at h1;exact absurd hk h1
 ·have:j'=j:=by omega
  subst this;exact h2
theorem getDir_at {F:Nat->Prop}{w:World}{s:Nat}{objs:List Ob}(h:InvQ ft F w s objs)(j:Nat)(hj:j<objs.length)(hk:objs[j].kind=2):
  Calls Tryz.prog 43 #[.pointer (some ⟨s,0,none⟩),.int .i64 ((j:Int)+1)] w fun e w'=>∃ g,e=.returned (.tuple #[.slice (some ⟨g,0,none⟩) objs[j].ents.length objs[j].ents.length,.int .i64 0])/\
   w'.ownsRow w.heap.size 96 3 (.slice (some ⟨g,0,none⟩) objs[j].ents.length objs[j].ents.length) objs[j].ents.length (flat objs[j].ents)/\Below w.heap.size w w':=by
 refine (storeGetDirQ h ((j:Int)+1)).mono fun e w' ⟨hf,hb⟩=>?_
 rcases hf with ⟨h1,_⟩ | ⟨j',hj',he,_,g,h2,h3⟩
 ·rw[kindOf_in hj] at h1;exact absurd hk h1
 ·have:j'=j:=by omega
  subst this;exact⟨g,h2,h3,hb⟩
section
variable {F G Fs:Nat->Prop}{w:World}{W s r:Nat}{ia ka pa:Option Addr}{ic kc pc:Nat}{ids:List Int}{known:List Bool}{paths:List Int}{c5 c6 c7 c8 c9 c10 c11:Value}{ros objs:List Ob}
theorem holds_file (h:LawAt F w W s r ia ka pa ic kc pc ids known paths c5 c6 c7 c8 c9 c10 c11)(hr:RefInv G w r ros)(hs:InvQ ft Fs w s objs)(j:Nat)(hj:j<objs.length)(hjr:j<ros.length)(hk:objs[j].kind=1)(hx:AlikeR objs[j] ros[j]):
  Calls Tryz.prog 80 #[.pointer (some ⟨W,0,none⟩),.int .i64 (j:Int),.int .i64 ((j:Int)+1)] w fun e w'=>e=.returned (.tuple #[.slice none 0 0,.bool true])/\Below w.heap.size w w':=by
 have k0:=h.c0
 have k1:=h.c1
 have hWl:=h.lt
 obtain⟨ra,rcap,hra⟩:=hr
 have r0:=hra.c0
 have hrl:=hra.lt
 have hm:=hra.many
 obtain⟨g,rfl,hgl,q0,q1,q2,q3⟩:=row_obs hra.row rfl hjr
 have hd:=hx.data hk
 have hkk:=hx.kind
 rw[hkk,hk] at q0
 rw[hd] at q1
 have b1:∀ B,Below w.heap.size w (w.alloc B):=fun B=>(Below.refl _ _).alloc (Nat.le_refl _) _
 have hget:=fun (B:Obj)=>getFile_at (hs.below (b1 B) (fun _ _ h=>h)) j hj hk
 have HGl:Hid (∀ B:Obj,Calls Tryz.prog 40 #[.pointer (some ⟨s,0,none⟩),.int .i64 ((j:Int)+1)] (w.alloc B) fun e w'=>e=.returned (.tuple #[.string objs[j].data,.int .i64 0])/\Below (w.alloc B).heap.size (w.alloc B) w'):=hget
 clear h hra hd hkk hx hs hk hget
 go_enter Tryz.func80,Tryz.ntmps80
 go_wp2_with fail
 refine (HGl.out _).mono ?_
 rintro e w1 ⟨rfl,hb1⟩
 have bx:=hb1.cell (p:=⟨w.heap.size,1,none⟩) (by simp)
 have hbw:=(b1 _).trans (hb1.mono (by simp))
 simp at bx
 go_wp2
 go_ret2
 exact⟨rfl,hbw⟩
theorem holds_dir (h:LawAt F w W s r ia ka pa ic kc pc ids known paths c5 c6 c7 c8 c9 c10 c11)(hr:RefInv G w r ros)(hs:InvQ ft Fs w s objs)(j:Nat)(hj:j<objs.length)(hjr:j<ros.length)(hk:objs[j].kind=2)(hx:AlikeR objs[j] ros[j]):
  Calls Tryz.prog 80 #[.pointer (some ⟨W,0,none⟩),.int .i64 (j:Int),.int .i64 ((j:Int)+1)] w fun e w'=>∃ g,e=.returned (.tuple #[.slice (some ⟨g,0,none⟩) objs[j].ents.length objs[j].ents.length,.bool true])/\
   w'.ownsRow w.heap.size 96 3 (.slice (some ⟨g,0,none⟩) objs[j].ents.length objs[j].ents.length) objs[j].ents.length (flat objs[j].ents)/\Below w.heap.size w w':=by
 have k0:=h.c0
 have k1:=h.c1
 have hWl:=h.lt
 obtain⟨ra,rcap,hra⟩:=hr
 have r0:=hra.c0
 have hrl:=hra.lt
 have hm:=hra.many
 obtain⟨g,rfl,hgl,q0,q1,q2,q3⟩:=row_obs hra.row rfl hjr
 have hob:=hra.obs _ (List.getElem_mem hjr)
 have he:=hx.ents hk
 have hkk:=hx.kind
 rw[hkk,hk] at q0
 have b1:∀ B,Below w.heap.size w (w.alloc B):=fun B=>(Below.refl _ _).alloc (Nat.le_refl _) _
 have hget:=fun (B:Obj)=>getDir_at (hs.below (b1 B) (fun _ _ h=>h)) j hj hk
 obtain⟨es,hes⟩:∃ es,es=objs[j].ents:=⟨_,rfl⟩
 rw[<- hes] at hget he ⊢
 have hrow:=hob.row
 have hlen:=hob.len
 have hfew:=hob.few
 rw[he] at hrow hlen
 rw[List.length_map] at hlen
 rw[<- hlen] at hrow q2 hfew
 obtain⟨oa,hoa⟩:∃ oa,oa=ros[j].ea:=⟨_,rfl⟩
 obtain⟨oc,hoc⟩:∃ oc,oc=ros[j].ec:=⟨_,rfl⟩
 rw[<- hoa,<- hoc] at hrow q2
 obtain⟨m,hmm⟩:∃ m,m=es.length:=⟨_,rfl⟩
 rw[<- hmm] at hrow q2 hfew hget ⊢
 have HM:Hid (m=es.length):=hmm
 have HGl:Hid (∀ B:Obj,Calls Tryz.prog 43 #[.pointer (some ⟨s,0,none⟩),.int .i64 ((j:Int)+1)] (w.alloc B) fun e w'=>∃ g,e=.returned (.tuple #[.slice (some ⟨g,0,none⟩) m m,.int .i64 0])/\w'.ownsRow (w.alloc B).heap.size 96 3 (.slice (some ⟨g,0,none⟩) m m) m (flat es)/\Below (w.alloc B).heap.size (w.alloc B) w'):=hget
 have HRW:Hid (w.ownsRow 0 112 3 (.slice oa m oc) m (flat (es.map toItem))):=hrow
 clear h hra hkk hx hs hk hget hes he hob hlen hoa hoc hmm hrow
 go_enter Tryz.func80,Tryz.ntmps80
 go_wp2_with fail
 refine (HGl.out _).mono ?_
 rintro e w1 ⟨gl,rfl,hown1,hb1⟩
 have bx:=hb1.cell (p:=⟨w.heap.size,2,none⟩) (by simp)
 have hbw:=(b1 _).trans (hb1.mono (by simp))
 simp at bx
 have HOW:Hid (w1.ownsRow w.heap.size 96 3 (.slice (some ⟨gl,0,none⟩) m m) m (flat es)):=owns_mono hown1 (by simp)
 have hml:((m:Int) != (m:Int))=false:=by simp
 clear hown1 hb1 HGl
 go_wp2
 go_loopw [13] (fun i wr=>∃ k:Nat,k<=m/\i=.int .i64 k/\(∃ q,wr=w1.drewN q)) (fun i _=>m-(intOf i).toNat)
 case atStart=>exact⟨0,Nat.zero_le _,rfl,⟨0,rfl⟩⟩
 case round=>
  obtain⟨k,hk,rfl,⟨q,rfl⟩⟩:=hrel
  by_cases hlt:k<m
  ·have hke:k<es.length:=by rw[<- HM.out];exact hlt
   have hkm:k<(es.map toItem).length:=by simpa using hke
   obtain⟨gi,ci,hvi⟩:=slice_of_owns HRW.out (by omega)
   obtain rfl:=(Value.slice.inj hvi).1
   have hgil:gi<w.heap.size:=ownsRow_lt HRW.out rfl
   obtain⟨t0,t1,_⟩:=row_cells (off:=0) (owns_cells HRW.out) hkm
   obtain⟨u0,u1,_⟩:=row_cells (off:=0) (owns_cells HOW.out) hke
   rw[Nat.zero_add] at t0 t1 u0 u1
   have t0':=(hbw.cell (p:=⟨gi,k*3,none⟩) hgil).trans t0
   have t1':=(hbw.cell (p:=⟨gi,k*3+1,none⟩) hgil).trans t1
   have t0'':=fun q=>(show (w1.drewN q).cell? ⟨gi,k*3,none⟩=some (.string es[k].1) by rw[List.getElem_map] at t0';exact t0')
   have t1'':=fun q=>(show (w1.drewN q).cell? ⟨gi,k*3+1,none⟩=some (.int .i64 es[k].2.1) by rw[List.getElem_map] at t1';exact t1')
   have u0'':=fun q=>(show (w1.drewN q).cell? ⟨gl,k*3,none⟩=some (.string es[k].1) from u0)
   have u1'':=fun q=>(show (w1.drewN q).cell? ⟨gl,k*3+1,none⟩=some (.int .i64 es[k].2.1) from u1)
   have bx'':=fun q=>(show (w1.drewN q).cell? ⟨w.heap.size,2,none⟩=some (.slice (some ⟨gi,0,none⟩) m oc) from bx)
   have hkm':(k:Int)<(m:Int):=by omega
   have hee:(es[k].1.toList == es[k].1.toList)=true:=by simp
   have hkk:(es[k].2.1 != es[k].2.1)=false:=by simp
   clear t0 t1 t0' t1' u0 u1 hvi
   go_wp2
   go_quiet (fail)
   go_wp2
   go_roundw
   case rel=>exact⟨k+1,by omega,by go_num,⟨_,rfl⟩⟩
   case measure=>simp[intOf];omega
  ·go_wp2
   go_ret2
   exact⟨gl,rfl,HOW.out,below_drewN hbw q⟩
end
variable {ft:PTp}
def idsN (n:Nat):List Int:=(List.range n).map fun i:Nat=>(i:Int)+1
theorem idsN_len (n:Nat):(idsN n).length=n:=by simp[idsN]
theorem idsN_get {n j:Nat}(h:j<n):(idsN n)[j]? = some ((j:Int)+1):=by simp[idsN,h]
theorem idsN_succ (n:Nat):idsN (n+1)=idsN n ++ [(n:Int)+1]:=by simp[idsN,List.range_succ]
theorem place_idsN {n j:Nat}(h:j<n)(zs:List Int):placeOf (idsN n++zs) ((j:Int)+1)=some j:=by
 unfold placeOf
 rw[if_pos (by omega)]
 have hl:j<(idsN n++zs).length:=by simp[idsN_len];omega
 refine List.findIdx?_eq_some_iff_getElem.2 ⟨hl,?_,fun i hi=>?_⟩
 ·have:(idsN n++zs)[j]? = some ((j:Int)+1):=by rw[List.getElem?_append_left (by rw[idsN_len];exact h)];exact idsN_get h
  obtain⟨_,e⟩:=List.getElem?_eq_some_iff.1 this
  rw[e];simp
 ·have:(idsN n++zs)[i]? = some ((i:Int)+1):=by rw[List.getElem?_append_left (by rw[idsN_len];omega)];exact idsN_get (by omega)
  obtain⟨_,e⟩:=List.getElem?_eq_some_iff.1 this
  rw[e];simp;omega
theorem place_out {n:Nat}{id:Int}(h:id<1\/(n:Int)<id)(zs:List Int)(hz:∀ z ∈ zs,z=0):placeOf (idsN n++zs) id=none:=by
 unfold placeOf
 split
 ·next hp=>
  refine List.findIdx?_eq_none_iff.2 fun x hx=>?_
  rcases List.mem_append.1 hx with hx | hx
  ·simp only[idsN,List.mem_map,List.mem_range] at hx
   obtain⟨i,hi,rfl⟩:=hx
   simp;omega
  ·rw[hz x hx];simp;omega
 ·rfl
section
variable {F G Fs:Nat->Prop}{w:World}{W s r:Nat}{ia ka pa:Option Addr}{ic kc pc:Nat}{ids:List Int}{known:List Bool}{paths:List Int}{c5 c6 c7 c8 c9 c10 c11:Value}{ros objs:List Ob}
theorem keeps_set {F:Nat->Prop}{w:World}{g j:Nat}{v:Value}(hg:F g):Keeps F w (w.setCell ⟨g,j,none⟩ v):=
 ⟨rfl,rfl,rfl,by simp,fun k hk hn=>Below.heap_setCell _ _ _ _ (fun e=>hn (by cases e;exact hg))⟩
theorem row_set_other {w:World}{b:Nat}{t t':TypeId}{z n:Nat}{v u:Value}{xs:List Value}{g j:Nat}{cur:Array Value}(h:w.ownsRow b t z v n xs)(hg:w.heap[g]? = some (.cells cur t' (0,0)))(ht:t'≠t):(w.setCell ⟨g,j,none⟩ u).ownsRow b t z v n xs:=
 ownsRow_keep h (fun k hk=>Below.heap_setCell _ _ _ _ (fun e=>owns_ne_cells h hg ht (by cases e;exact hk.symm)))
theorem LawAt.setI {g:Nat}(h:LawAt F w W s r (some ⟨g,0,none⟩) ka pa ic kc pc ids known paths c5 c6 c7 c8 c9 c10 c11)(j:Nat)(x:Int):
  LawAt F (w.setCell ⟨g,j,none⟩ (.int .i64 x)) W s r (some ⟨g,0,none⟩) ka pa ic kc pc (ids.set j x) known paths c5 c6 c7 c8 c9 c10 c11/\Keeps F w (w.setCell ⟨g,j,none⟩ (.int .i64 x)):=by
 obtain⟨cur,hc⟩:=owns_block h.rowI rfl
 have hl:(ids.set j x).length=ids.length:=by simp
 refine⟨⟨h.fw,?_,?_,row_set_other h.rowK hc (by decide),row_set_other h.rowP hc (by decide),?_,h.fk,h.fp⟩,keeps_set (h.fi g rfl)⟩
 ·rw[hl,Below.heap_setCell _ _ _ _ (fun e=>owns_ne_cells h.rowI h.hW (by decide) (by rw[show W=g from e];rfl))];exact h.hW
 ·rw[hl]
  have:=(h.rowI.stored j (.int .i64 x)).1
  rw[encI,List.map_set]
  exact this
 ·rw[hl];exact h.fi
theorem LawAt.setK {g:Nat}(h:LawAt F w W s r ia (some ⟨g,0,none⟩) pa ic kc pc ids known paths c5 c6 c7 c8 c9 c10 c11)(j:Nat)(x:Bool):
  LawAt F (w.setCell ⟨g,j,none⟩ (.bool x)) W s r ia (some ⟨g,0,none⟩) pa ic kc pc ids (known.set j x) paths c5 c6 c7 c8 c9 c10 c11/\Keeps F w (w.setCell ⟨g,j,none⟩ (.bool x)):=by
 obtain⟨cur,hc⟩:=owns_block h.rowK rfl
 have hl:(known.set j x).length=known.length:=by simp
 refine⟨⟨h.fw,?_,row_set_other h.rowI hc (by decide),?_,row_set_other h.rowP hc (by decide),h.fi,?_,h.fp⟩,keeps_set (h.fk g rfl)⟩
 ·rw[hl,Below.heap_setCell _ _ _ _ (fun e=>owns_ne_cells h.rowK h.hW (by decide) (by rw[show W=g from e];rfl))];exact h.hW
 ·rw[hl]
  have:=(h.rowK.stored j (.bool x)).1
  rw[encB,List.map_set]
  exact this
 ·rw[hl];exact h.fk
def LawS (F:Nat->Prop)(w:World)(W s r n:Nat)(c5 c6 c7 c8 c9 c10 c11:Value):Prop:=
 ∃ ia ka pa ic kc pc paths,LawAt F w W s r ia ka pa ic kc pc (idsN n) (List.replicate n true) paths c5 c6 c7 c8 c9 c10 c11/\paths.length=n/\PathsOk paths
def Below0 (ros:List Ob):Prop:=∀ i (hi:i<ros.length),∀ e ∈ ros[i].ents,0<=e.2.2/\e.2.2<(i:Int)
theorem learns_known {n:Nat}(h:LawS F w W s r n c5 c6 c7 c8 c9 c10 c11)(hr:RefInv G w r ros)(hGF:∀ k,G k->k<w.heap.size/\¬ F k)(hn:ros.length=n)(hA:Below0 ros)(j:Nat)(hj:j<n):
  Calls Tryz.prog 37 #[.pointer (some ⟨W,0,none⟩),.int .i64 (j:Int),.int .i64 ((j:Int)+1)] w fun e w'=>e=.returned (.bool true)/\LawS (NewF F w w') w' W s r n c5 c6 c7 c8 c9 c10 c11/\Keeps F w w':=by
 obtain⟨ia,ka,pa,ic,kc,pc,paths,hl,hpl,hpr⟩:=h
 have hm:n<=400:=by obtain⟨_,_,h⟩:=hr;rw[<- hn];exact h.many
 have hgr:=grows_any hl hr hGF (by simp[idsN_len]) (by rw[hpl,idsN_len]) (by rw[idsN_len];omega) hA hpr
 rw[idsN_len,hn,Nat.sub_self] at hgr
 clear hl hr hpl hpr
 go_enter Tryz.func37,Tryz.ntmps37
 go_wp2_with fail
 refine hgr.mono ?_
 rintro e w1 ⟨rfl,ia,ka,pa,ic,kc,pc,paths,hl,hpl,hpr,hkp⟩
 simp only[List.replicate_zero,List.append_nil,Nat.add_zero] at hl hpl
 clear hgr
 have hpc:=place_any hl ((j:Int)+1) (by rw[idsN_len];exact hm)
 have e:=place_idsN hj []
 rw[List.append_nil] at e
 rw[e] at hpc
 have hpc':Calls Tryz.prog 41 #[.pointer (some ⟨W,0,none⟩),.int .i64 ((j:Int)+1)] w1 fun e w'=>e=.returned (.int .i64 (j:Int))/\w'=w1:=hpc
 clear hpc e
 have k2:=hl.c2
 have k3:=hl.c3
 rw[idsN_len] at k2
 rw[List.length_replicate] at k3
 have hWl:=hl.lt
 obtain⟨g,hia,hgl,cc,_⟩:=row_one hl.rowI (i:=j) (v:=.int .i64 ((j:Int)+1)) (by simp[encI,idsN_get hj])
 subst hia
 obtain⟨gk,hka,hgkl,ck,_⟩:=row_one hl.rowK (i:=j) (v:=.bool true) (by simp[encB,hj])
 subst hka
 have hfz:w1.frozen? ⟨g,j,none⟩=false:=by have:=hl.rowI;rw[idsN_len] at this;exact this.frozenAt j
 have hsame:=setCell_self cc
 have n1:¬ (j:Int)+1<1:=by omega
 have n1':decide ((j:Int)+1<1)=false:=decide_eq_false n1
 have n2:((j:Int)+1 != 0)=true:=by simp;omega
 have n3:((j:Int)+1 != (j:Int)+1)=false:=by simp
 have n4:((j:Int) != (j:Int))=false:=by simp
 have HF:Hid (LawS (NewF F w w1) w1 W s r n c5 c6 c7 c8 c9 c10 c11/\Keeps F w w1):=⟨⟨_,_,pa,ic,kc,pc,paths,hl,hpl,hpr⟩,hkp⟩
 clear hl hpr hkp
 go_wp2_with fail
 refine hpc'.mono ?_
 rintro e w2 ⟨rfl,rfl⟩
 go_wp2
 go_ret
 exact⟨rfl,HF.out⟩
theorem keeps_below {F:Nat->Prop}{w w1 w2:World}(h:Keeps F w w1)(hb:Below w1.heap.size w1 w2):Keeps F w w2:=
 ⟨hb.os.trans h.os,hb.tape.trans h.tape,hb.output.trans h.output,Nat.le_trans h.size hb.size,fun k hk hn=>(hb.block k (Nat.lt_of_lt_of_le hk h.size)).trans (h.block k hk hn)⟩
theorem LawS.mono {F F':Nat->Prop}{w:World}{W s r n:Nat}{c5 c6 c7 c8 c9 c10 c11:Value}(h:LawS F w W s r n c5 c6 c7 c8 c9 c10 c11)(hF:∀ k,F k->F' k):LawS F' w W s r n c5 c6 c7 c8 c9 c10 c11:=by
 obtain⟨ia,ka,pa,ic,kc,pc,paths,hl,hp⟩:=h
 exact⟨ia,ka,pa,ic,kc,pc,paths,hl.mono hF,hp⟩
theorem LawS.drew {F:Nat->Prop}{w:World}{W s r n:Nat}{c5 c6 c7 c8 c9 c10 c11:Value}(h:LawS F w W s r n c5 c6 c7 c8 c9 c10 c11):LawS F w.drew W s r n c5 c6 c7 c8 c9 c10 c11:=by
 obtain⟨ia,ka,pa,ic,kc,pc,paths,hl,hp⟩:=h
 exact⟨ia,ka,pa,ic,kc,pc,paths,hl.keep (fun _ h=>h) (fun _ _=>rfl),hp⟩
theorem set_last (n:Nat)(x:Int):(idsN n ++ [(0:Int)]).set n x=idsN n ++ [x]:=by
 rw[List.set_append_right _ _ (by rw[idsN_len];exact Nat.le_refl _),idsN_len,Nat.sub_self];rfl
theorem set_lastB (n:Nat):(List.replicate n true ++ [false]).set n true=List.replicate (n+1) true:=by
 rw[List.set_append_right _ _ (by simp),List.length_replicate,Nat.sub_self,List.replicate_succ'];rfl
theorem learns_new {n:Nat}(h:LawS F w W s r n c5 c6 c7 c8 c9 c10 c11)(hr:RefInv G w r ros)(hs:InvQ ft Fs w s objs)(hGF:∀ k,G k->k<w.heap.size/\¬ F k)(hSF:∀ k,Fs k->k<w.heap.size/\¬ F k)(hFl:∀ k,F k->k<w.heap.size)
  (hn:ros.length=n+1)(ho:objs.length=n+1)(hA:Below0 ros)(hx:AlikeR (objs[n]'(by omega)) (ros[n]'(by omega))):
  Calls Tryz.prog 37 #[.pointer (some ⟨W,0,none⟩),.int .i64 (n:Int),.int .i64 ((n:Int)+1)] w fun e w'=>e=.returned (.bool true)/\LawS (NewF F w w') w' W s r (n+1) c5 c6 c7 c8 c9 c10 c11/\Keeps F w w':=by
 obtain⟨ia,ka,pa,ic,kc,pc,paths,hl,hpl,hpr⟩:=h
 have hm:n+1<=400:=by obtain⟨_,_,h⟩:=hr;rw[<- hn];exact h.many
 have hgr:=grows_any hl hr hGF (by simp[idsN_len]) (by rw[hpl,idsN_len]) (by rw[idsN_len];omega) hA hpr
 rw[idsN_len,hn,Nat.add_sub_cancel_left] at hgr
 have HR:Hid (RefInv G w r ros):=hr
 have HI:Hid (InvQ ft Fs w s objs):=hs
 have HG:Hid (∀ k,G k->k<w.heap.size/\¬ F k):=hGF
 have HS:Hid (∀ k,Fs k->k<w.heap.size/\¬ F k):=hSF
 have HFl:Hid (∀ k,F k->k<w.heap.size):=hFl
 have HA:Hid (Below0 ros):=hA
 have HN:Hid (ros.length=n+1):=hn
 have HO:Hid (objs.length=n+1):=ho
 have hnr:n<ros.length:=by omega
 have hno:n<objs.length:=by omega
 have HX:Hid (AlikeR objs[n] ros[n]):=hx
 clear hl hr hpl hpr hs hGF hSF hFl hA hx hn ho
 go_enter Tryz.func37,Tryz.ntmps37
 go_wp2_with fail
 refine hgr.mono ?_
 rintro e w1 ⟨rfl,ia,ka,pa,ic,kc,pc,paths,hl,hpl,hpr,hkp⟩
 simp only[List.replicate_one] at hl
 clear hgr
 have hpc:=place_any hl ((n:Int)+1) (by simp[idsN_len];omega)
 rw[place_out (.inr (by omega)) [0] (fun z hz=>List.mem_singleton.1 hz)] at hpc
 have hpc':Calls Tryz.prog 41 #[.pointer (some ⟨W,0,none⟩),.int .i64 ((n:Int)+1)] w1 fun e w'=>e=.returned (.int .i64 (-1))/\w'=w1:=hpc
 clear hpc
 have k2:=hl.c2
 have k3:=hl.c3
 have li:(idsN n ++ [(0:Int)]).length=n+1:=by simp[idsN_len]
 have lk:(List.replicate n true ++ [false]).length=n+1:=by simp
 rw[li] at k2
 rw[lk] at k3
 have hWl:=hl.lt
 obtain⟨g,hia,hgl,cc,_⟩:=row_one hl.rowI (i:=n) (v:=.int .i64 0) (by simp[encI,idsN_len])
 subst hia
 obtain⟨gk,hka,hgkl,ck,_⟩:=row_one hl.rowK (i:=n) (v:=.bool false) (by simp[encB])
 subst hka
 have hfz:w1.frozen? ⟨g,n,none⟩=false:=by have:=hl.rowI;rw[li] at this;exact this.frozenAt n
 have hfk:w1.frozen? ⟨gk,n,none⟩=false:=by have:=hl.rowK;rw[lk] at this;exact this.frozenAt n
 have ggk:g≠gk:=by
  obtain⟨_,h1⟩:=owns_block hl.rowI rfl
  obtain⟨_,h2⟩:=owns_block hl.rowK rfl
  exact cells_ne h1 h2 (by decide)
 have gW:g≠W:=by
  obtain⟨_,h1⟩:=owns_block hl.rowI rfl
  exact cells_ne h1 hl.hW (by decide)
 have gkW:gk≠W:=by
  obtain⟨_,h1⟩:=owns_block hl.rowK rfl
  exact cells_ne h1 hl.hW (by decide)
 have n1':decide ((n:Int)+1<1)=false:=decide_eq_false (by omega)
 have nn:(n:Int)<(n:Int)+1:=by omega
 have L2:=hl.setI n ((n:Int)+1)
 have L3:=L2.1.setK n true
 rw[set_last,<- idsN_succ,set_lastB] at L3
 have HL3:Hid _:=L3
 have HK3:Hid (Keeps F w ((w1.setCell ⟨g,n,none⟩ (.int .i64 ((n:Int)+1))).setCell ⟨gk,n,none⟩ (.bool true))):=by
  have a:Keeps (NewF F w w1) w1 ((w1.setCell ⟨g,n,none⟩ (.int .i64 ((n:Int)+1))).setCell ⟨gk,n,none⟩ (.bool true)):=⟨rfl,rfl,rfl,by simp,fun k hk hnF=>(L3.2.block k (by simpa using hk) hnF).trans (L2.2.block k hk hnF)⟩
  exact keeps_trans hkp a
 have HP:Hid (paths.length=n+1/\PathsOk paths):=⟨hpl,hpr⟩
 clear hl hpr hkp L2 L3 hpl
 go_wp2_with fail
 refine hpc'.mono ?_
 rintro e w2 ⟨rfl,rfl⟩
 clear hpc'
 go_wp2_with fail
 have hss:w2.heap.size=((w2.setCell ⟨g,n,none⟩ (.int .i64 ((n:Int)+1))).setCell ⟨gk,n,none⟩ (.bool true)).heap.size:=by simp
 obtain⟨w3,hw3⟩:∃ w3,w3=(w2.setCell ⟨g,n,none⟩ (.int .i64 ((n:Int)+1))).setCell ⟨gk,n,none⟩ (.bool true):=⟨_,rfl⟩
 rw[<- hw3] at HL3 HK3 hss ⊢
 have hl3:LawAt (NewF F w w3) w3 W s r (some ⟨g,0,none⟩) (some ⟨gk,0,none⟩) pa ic kc pc (idsN (n+1)) (List.replicate (n+1) true) paths c5 c6 c7 c8 c9 c10 c11:=HL3.out.1.mono (fun k hk=>by rcases hk with h | h;exact .inl h;exact .inr ⟨h.1,by omega⟩)
 have HL:Hid (LawAt (NewF F w w3) w3 W s r (some ⟨g,0,none⟩) (some ⟨gk,0,none⟩) pa ic kc pc (idsN (n+1)) (List.replicate (n+1) true) paths c5 c6 c7 c8 c9 c10 c11):=hl3
 have R3:Hid (RefInv G w3 r ros):=ref_stays HR.out HG.out HK3.out
 have I3:Hid (InvQ ft Fs w3 s objs):=HI.out.keep (fun _ h=>h) (fun k hk=>HK3.out.block k (HS.out k hk).1 (HS.out k hk).2)
 clear hl3 cc ck hfz hfk k2 k3 hgl hgkl hw3 HL3 hWl li lk
 have hkinds:objs[n].kind=1\/objs[n].kind=2:=by exact I3.out.2.2.1.kinds _ (List.getElem_mem hno)
 rcases hkinds with hkd | hkd
 ·have hho:=holds_file HL.out R3.out I3.out n hno hnr hkd HX.out
  clear hkd
  refine hho.mono ?_
  rintro e w4 ⟨rfl,hb4⟩
  clear hho
  have HF:Hid (LawS (NewF F w w4) w4 W s r (n+1) c5 c6 c7 c8 c9 c10 c11/\Keeps F w w4):=⟨⟨_,_,pa,ic,kc,pc,paths,(HL.out.below hb4).mono (fun k hk=>by rcases hk with h | h;exact .inl h;exact .inr ⟨h.1,Nat.lt_of_lt_of_le h.2 hb4.size⟩),HP.out⟩,keeps_below HK3.out hb4⟩
  go_wp2
  go_loopw [9,10] (fun o i wr=>o=.bool true/\i=.int .i64 0/\wr=w4) (fun _ _ _=>0)
  case atStart=>exact⟨rfl,rfl,rfl⟩
  case round=>
   obtain⟨rfl,rfl,rfl⟩:=hrel
   go_wp2
   go_ret
   exact⟨rfl,HF.out⟩
 ·have hho:=holds_dir HL.out R3.out I3.out n hno hnr hkd HX.out
  have hents:=HX.out.ents hkd
  obtain⟨es,hes⟩:∃ es,es=objs[n].ents:=⟨_,rfl⟩
  rw[<- hes] at hho hents
  have hat:=HA.out n hnr
  rw[hents] at hat
  have HAT:Hid (∀ e ∈ es,1<=e.2.2/\e.2.2<=(n:Int)):=fun e he=>by
   have:0<=e.2.2-1/\e.2.2-1<(n:Int):=hat (toItem e) (List.mem_map_of_mem he)
   omega
  have hfew:Hid (es.length<=16):=by
   obtain⟨_,_,hra⟩:=R3.out
   have h1:=(hra.obs _ (List.getElem_mem hnr)).len
   have h2:=(hra.obs _ (List.getElem_mem hnr)).few
   rw[hents,List.length_map] at h1
   show _<=_
   omega
  have HEN:Hid (ros[n].ents=es.map toItem):=hents
  clear hkd hents hat hes
  obtain⟨m,hmm⟩:∃ m,m=es.length:=⟨_,rfl⟩
  rw[<- hmm] at hho hfew
  have hm16:m<=16:=hfew.out
  have HM:Hid (m=es.length):=hmm
  clear hmm
  refine hho.mono ?_
  rintro e w4 ⟨gl,rfl,hown4,hb4⟩
  clear hho
  have hl4:Hid (gl<w4.heap.size/\w3.heap.size<=gl):=by have:=hown4.lt gl rfl;exact⟨this.2,this.1⟩
  have HO4:Hid (w4.ownsRow w3.heap.size 96 3 (.slice (some ⟨gl,0,none⟩) m m) m (flat es)):=hown4
  have hF3:Hid (∀ k,NewF F w w3 k->k<w3.heap.size):=fun k hk=>by rcases hk with h | h;exact Nat.lt_of_lt_of_le (HFl.out k h) HK3.out.size;exact h.2
  have hLS:Hid (LawS (NewF F w w3) w4 W s r (n+1) c5 c6 c7 c8 c9 c10 c11):=⟨_,_,pa,ic,kc,pc,paths,HL.out.below hb4,HP.out⟩
  have R4:Hid (RefInv G w4 r ros):=R3.out.below hb4 (fun _ h=>h)
  have HG4:Hid (∀ k,G k->k<w4.heap.size/\¬ NewF F w w3 k):=fun k hk=>⟨Nat.lt_of_lt_of_le (HG.out k hk).1 (Nat.le_trans HK3.out.size hb4.size),fun h=>by rcases h with h | h;exact (HG.out k hk).2 h;have:=(HG.out k hk).1;omega⟩
  clear hown4
  go_wp2
  go_loopw [9,10] (fun o i wr=>∃ k:Nat,k<=m/\o=.bool true/\i=.int .i64 k/\Hid (LawS (NewF (NewF F w w3) w4 wr) wr W s r (n+1) c5 c6 c7 c8 c9 c10 c11/\Keeps (NewF F w w3) w4 wr)) (fun _ i _=>m-(intOf i).toNat)
  case atStart=>exact⟨0,Nat.zero_le _,rfl,rfl,LawS.mono hLS.out (fun k hk=>.inl hk),⟨rfl,rfl,rfl,Nat.le_refl _,fun _ _ _=>rfl⟩⟩
  case round=>
   obtain⟨k,hk,rfl,rfl,HW⟩:=hrel
   have hkp:=HW.out.2
   by_cases hlt:k<m
   ·have hke:k<es.length:=by rw[<- HM.out];exact hlt
    have R5:=ref_stays R4.out HG4.out hkp
    have hkn:=learns_known (w:=wr.drew) (LawS.drew HW.out.1) (R5.keep (fun _ h=>h) (fun _ _=>rfl)) (fun q hq=>⟨Nat.lt_of_lt_of_le (HG4.out q hq).1 hkp.size,fun h=>by rcases h with h | h;exact (HG4.out q hq).2 h;have:=(HG4.out q hq).1;omega⟩) HN.out HA.out
    obtain⟨_,_,_,_,_,_,_,hl5,_⟩:=HW.out.1
    have k1:=hl5.c1
    obtain⟨ra,rcap,hra⟩:=R5
    have r0:=hra.c0
    rw[HN.out] at r0
    obtain⟨gr,hga,hgrl,_,_,cI,_⟩:=row_obs hra.row rfl hnr
    subst hga
    have hob:=hra.obs _ (List.getElem_mem hnr)
    have hrow:=hob.row
    have hlen:=hob.len
    rw[HEN.out] at hrow hlen
    rw[List.length_map,<- HM.out] at hlen
    rw[<- hlen] at hrow cI
    obtain⟨gi,ci,hvi⟩:=slice_of_owns hrow (by omega)
    rw[(Value.slice.inj hvi).1] at hrow cI
    obtain⟨_,_,i2⟩:=row_cells (off:=0) (owns_cells hrow) (i:=k) (by simpa using hke)
    rw[Nat.zero_add,List.getElem_map] at i2
    obtain⟨ha0,ha1⟩:=HAT.out es[k] (List.getElem_mem hke)
    obtain⟨jj,hjj⟩:∃ jj:Nat,es[k].2.2=(jj:Int)+1:=⟨(es[k].2.2-1).toNat,by omega⟩
    have i2':wr.cell? ⟨gi,k*3+2,none⟩=some (.int .i64 (jj:Int)):=by rw[i2];unfold toItem;rw[hjj];simp
    have hO5:wr.ownsRow 0 96 3 (.slice (some ⟨gl,0,none⟩) m m) m (flat es):=ownsRow_keep (owns_mono HO4.out (Nat.zero_le _)) (fun q hq=>by
     cases hq
     exact hkp.block gl hl4.out.1 (fun h=>by have:=hF3.out gl h;have:=hl4.out.2;omega))
    obtain⟨_,_,l2⟩:=row_cells (off:=0) (owns_cells hO5) hke
    rw[Nat.zero_add,hjj] at l2
    have hkn':=hkn jj (by omega)
    have hkm:(k:Int)<(m:Int):=by omega
    have HKN:Hid (Calls Tryz.prog 37 #[.pointer (some ⟨W,0,none⟩),.int .i64 (jj:Int),.int .i64 ((jj:Int)+1)] wr.drew fun e w'=>e=.returned (.bool true)/\LawS (NewF (NewF (NewF F w w3) w4 wr) wr.drew w') w' W s r (n+1) c5 c6 c7 c8 c9 c10 c11/\Keeps (NewF (NewF F w w3) w4 wr) wr.drew w'):=hkn'
    clear hkn hkn' hl5 hra hob hlen hrow hvi i2 hO5 ha0 ha1 hjj
    go_wp2
    refine wp_region_still_tail 21 (by kernel_rfl) (by kernel_rfl) ?_
    simp only[List.take_succ_cons,List.take_zero,List.drop_succ_cons,List.drop_zero]
    iterate 21 still_step
    refine wpStill_nil ?_
    go_wp2_with fail
    refine HKN.out.mono ?_
    rintro e w5 ⟨rfl,hls5,hk5⟩
    have HF5:Hid (LawS (NewF (NewF F w w3) w4 w5) w5 W s r (n+1) c5 c6 c7 c8 c9 c10 c11/\Keeps (NewF F w w3) w4 w5):=⟨LawS.mono hls5 (fun q hq=>newF_newF hkp.size hk5.size hq),keeps_trans hkp ⟨hk5.os,hk5.tape,hk5.output,hk5.size,hk5.block⟩⟩
    clear hls5 hk5
    go_wp2
    go_roundw
    case rel=>exact⟨k+1,by omega,rfl,by go_num,HF5.out⟩
    case measure=>simp[intOf];omega
   ·have HFF:Hid (LawS (NewF F w wr) wr W s r (n+1) c5 c6 c7 c8 c9 c10 c11/\Keeps F w wr):=by
     have z1:=HK3.out.size
     have z2:=hb4.size
     have z3:=hkp.size
     refine⟨LawS.mono HW.out.1 (fun q hq=>?_),?_⟩
     ·rcases hq with (h | h) | h
      ·exact .inl h
      ·exact .inr ⟨h.1,by omega⟩
      ·exact .inr ⟨by omega,h.2⟩
     ·refine keeps_trans (keeps_below HK3.out hb4) ⟨hkp.os,hkp.tape,hkp.output,hkp.size,fun q hq hnF=>hkp.block q hq (fun h=>hnF ?_)⟩
      rcases h with h | h
      ·exact .inl h
      ·exact .inr ⟨h.1,by omega⟩
    have hnl:decide ((k:Int)<(m:Int))=false:=decide_eq_false (by omega)
    go_wp2
    go_ret
    exact⟨rfl,HFF.out⟩
end
theorem stop_here {p:Prop}(h:Hid p):p:=h.out
def mk77:Ent:=(ByteArray.empty,-77,0)
theorem infoE:(Tryz.prog.info? 96).map (fun i=>(i.zero,i.size,i.bytes))=some (some (.agg #[.string ByteArray.empty,.int .i64 0,.int .i64 0]),3,32):=by kernel_rfl
theorem infoE3R:(Tryz.prog.info? 96).map (·.size)=some 3:=by kernel_rfl
theorem set3 (pre:List Value)(a b c:Value):∀ (rest:List Value),3<=rest.length->(((pre++rest).set pre.length a).set (pre.length+1) b).set (pre.length+2) c=pre ++ [a,b,c]++rest.drop 3
 | [],h=>by simp at h
 | [_],h=>by simp at h
 | [_,_],h=>by simp at h
 | r0 :: r1 :: r2 :: r',_=>by
  rw[List.set_append_right _ _ (Nat.le_refl _),Nat.sub_self,List.set_append_right _ _ (by omega),Nat.add_sub_cancel_left,List.set_append_right _ _ (by omega),Nat.add_sub_cancel_left]
  simp
theorem put3 {w:World}{base:Nat}{t:TypeId}{g n N C:Nat}{A:List Ent}{rest:List Value}(h:w.ownsRow base t 3 (.slice (some ⟨g,0,none⟩) N C) N (flat A++rest))(hA:A.length=n)(hr:3<=rest.length)(e:Ent):
  (((w.setCell ⟨g,n*3,none⟩ (.string e.1)).setCell ⟨g,n*3+1,none⟩ (.int .i64 e.2.1)).setCell ⟨g,n*3+2,none⟩ (.int .i64 e.2.2)).ownsRow base t 3 (.slice (some ⟨g,0,none⟩) N C) N (flat (A ++ [e])++rest.drop 3):=by
 have h1:=(h.stored (n*3) (.string e.1)).1
 have h2:=(h1.stored (n*3+1) (.int .i64 e.2.1)).1
 have h3:=(h2.stored (n*3+2) (.int .i64 e.2.2)).1
 have hl:(flat A).length=n*3:=by rw[flat_len,hA]
 have e3:=set3 (flat A) (.string e.1) (.int .i64 e.2.1) (.int .i64 e.2.2) rest hr
 rw[hl] at e3
 rw[e3] at h3
 rw[flat_appendR,flat_one_item]
 exact h3
theorem lent_some (b off m c0:Nat)(es:List Ent)(w:World)(hl:es.length=m)(hbl:b<w.heap.size)(hbig:(m+3)*32<=140737488355328)(hc:∀ j u,(flat es)[j]? = some u->w.cell? ⟨b,off+j,none⟩=some u):
  Calls Tryz.prog 81 #[.slice (some ⟨b,off,none⟩) m c0] w fun e w'=>∃ g,e=.returned (.slice (some ⟨g,0,none⟩) (m+3) (m+3))/\w'.ownsRow w.heap.size 96 3 (.slice (some ⟨g,0,none⟩) (m+3) (m+3)) (m+3) (flat (es++List.replicate 3 mk77))/\Below w.heap.size w w':=by
 obtain⟨i0,hi,hz0,hz1,hz2⟩:=info_parts infoE
 have HC:Hid (∀ j u,(flat es)[j]? = some u->w.cell? ⟨b,off+j,none⟩=some u):=hc
 have HL:Hid (es.length=m):=hl
 clear hc hl
 go_enter Tryz.func81,Tryz.ntmps81
 go_wp2_with (at_make;refine wpList_make_full _ rfl _ _ 55 rfl 0 96 i0 _ 3 Tryz.underlying55 hi hz0 hz1 .i64 .i64 _ _ (m+3) rfl rfl rfl rfl ?_ ?_ (Nat.zero_le _) ?_;go_must (rw[hz2];omega);go_must (unfold maxLen;omega);intro w3 hown3 hg3;obtain⟨cur,HB,HCS⟩:=made_block hown3;have HB3:=grown_none (Below.refl w.heap.size w) hg3;refine stop_here ?_)
 refine (show Hid _ from (?_:wpList _ _ _ _ _ _))
 clear hown3 hg3
 have c1:Hid ((flat es).length=Nat.min m (m+3)*3):=by show _=_;rw[flat_len,HL.out,show Nat.min m (m+3)=m from Nat.min_eq_left (by omega)]
 have c2:Hid (∀ j v,(flat es)[j]? = some v->w3.cell? ((⟨b,off,none⟩:Addr).add j)=some v):=fun j v hv=>by rw[add_flat,HB3.out.cell (p:=⟨b,off+j,none⟩) hbl];exact HC.out j v hv
 have c3:Hid (0+(flat es).length<=cur.size):=by show _<=_;rw[flat_len,HL.out,HCS.out];omega
 have c4:Hid ((flat es++cur.toList.drop (m*3)).toArray.toList=cur.toList.take 0++flat es++cur.toList.drop (0+(flat es).length)):=by show _=_;rw[flat_len,HL.out];simp
 go_wp2_with (refine wpList_copyK rfl (.tmp 9) (.tmp 10) 55 55 rfl 96 Tryz.underlying55 3 infoE3R w.heap.size 0 (m+3) (m+3) ⟨b,off,none⟩ m c0 rfl rfl cur 96 HB.out (flat es) c1.out c2.out c3.out (flat_one es) (flat es++cur.toList.drop (m*3)).toArray c4.out ?_;intro w4 H4 hg4)
 have hb4:Below w.heap.size w w4:=HB3.out.grown hg4 HB3.out.size (fun k h=>by cases h;exact Nat.le_refl _)
 have hrl:(cur.toList.drop (m*3)).length=9:=by rw[List.length_drop,Array.length_toList,HCS.out];omega
 have hown4:w4.ownsRow w.heap.size 96 3 (.slice (some ⟨w.heap.size,0,none⟩) (m+3) (m+3)) (m+3) (flat es++cur.toList.drop (m*3)):=by
  refine⟨by rw[List.length_append,flat_len,HL.out,hrl];omega,.inr ⟨w.heap.size,m+3,_,rfl,Nat.le_refl _,H4.out,Nat.le_refl _,by unfold maxLen;omega,?_,?_⟩⟩
  ·simp only[List.size_toArray,List.length_append,flat_len,HL.out,hrl];omega
  ·simp only
   exact List.take_of_length_le (by rw[List.length_append,flat_len,HL.out,hrl];omega)
 have HO4:Hid (∃ rest:List Value,rest.length=9/\w4.ownsRow w.heap.size 96 3 (.slice (some ⟨w.heap.size,0,none⟩) (m+3) (m+3)) (m+3) (flat (es++List.replicate 0 mk77)++rest)):=⟨_,hrl,by simpa using hown4⟩
 clear hown4 hrl c1 c2 c3 c4 HB HCS H4 hg4 HB3
 go_wp2
 go_loopw [4] (fun i wr=>∃ k:Nat,k<=3/\i=.int .i64 ((m:Int)+k)/\Below w.heap.size w wr/\Hid (∃ rest:List Value,rest.length=(3-k)*3/\wr.ownsRow w.heap.size 96 3 (.slice (some ⟨w.heap.size,0,none⟩) (m+3) (m+3)) (m+3) (flat (es++List.replicate k mk77)++rest))) (fun i _=>m+3-(intOf i).toNat)
 case atStart=>exact⟨0,by omega,by simp,hb4,HO4.out⟩
 case round=>
  obtain⟨k,hk,rfl,hb,HR⟩:=hrel
  obtain⟨rest,hrl,hown⟩:=HR.out
  by_cases hlt:k<3
  ·have hfz:=fun j=>hown.frozenAt j
   obtain⟨n,hn⟩:∃ n:Nat,n=m+k:=⟨_,rfl⟩
   have hni:(m:Int)+(k:Int)=(n:Int):=by omega
   have hcs:∀ j,j<3->∃ v,wr.cell? ⟨w.heap.size,n*3+j,none⟩=some v:=fun j hj=>by
    rw[hown.cellAt (n*3+j) (by omega)]
    exact⟨_,List.getElem?_eq_getElem (by rw[List.length_append,flat_len,List.length_append,HL.out,List.length_replicate,hrl];omega)⟩
   obtain⟨v0,e0⟩:=hcs 0 (by omega)
   obtain⟨v1,e1⟩:=hcs 1 (by omega)
   obtain⟨v2,e2⟩:=hcs 2 (by omega)
   rw[Nat.add_zero] at e0
   have hnm:(n:Int)<(m:Int)+3:=by omega
   have hgl:w.heap.size<wr.heap.size:=ownsRow_lt hown rfl
   have HN:Hid (n=m+k):=hn
   have HO:Hid _:=hown
   clear hcs hn HR hown
   rw[hni]
   go_wp2
   refine⟨⟨k+1,by omega,by have:=HN.out;go_num,((hb.setCell (Nat.le_refl _) _).setCell (Nat.le_refl _) _).setCell (Nat.le_refl _) _,rest.drop 3,by rw[List.length_drop,hrl];omega,?_⟩,by simp[intOf];omega⟩
   have:=put3 (n:=n) HO.out (by rw[List.length_append,HL.out,List.length_replicate,HN.out]) (by omega) mk77
   rw[List.append_assoc,<- List.replicate_succ'] at this
   exact this
  ·have hk3:k=3:=by omega
   subst hk3
   have hr0:rest = []:=List.eq_nil_of_length_eq_zero (by omega)
   subst hr0
   rw[List.append_nil] at hown
   have HO:Hid _:=hown
   clear hown HR
   go_wp2
   go_ret
   exact⟨_,rfl,HO.out,hb⟩
theorem copy_nil (w:World)(g n:Nat):(Builtin.copy_ #[55,55] 3 #[.slice (some ⟨g,0,none⟩) n n,.slice none 0 0]).run Tryz.prog w=.ok (.int .i64 0) w:=by
 have hu:Tryz.prog.underlying 55=some (.slice 96):=Tryz.underlying55
 have hl:=run_loadCells_list (P:=Tryz.prog) w
 cases hq:Tryz.prog.info? 96 with
 | none=>have:=infoE3R;simp[hq] at this
 | some i=>
  simp[Builtin.copy_,run_underlying hu,Builtin.lenOf,Builtin.firstCells,sizeOf,typeInfo,hq]
  rfl
theorem lent_nil (w:World):
  Calls Tryz.prog 81 #[.slice none 0 0] w fun e w'=>∃ g,e=.returned (.slice (some ⟨g,0,none⟩) 3 3)/\w'.ownsRow w.heap.size 96 3 (.slice (some ⟨g,0,none⟩) 3 3) 3 (flat (List.replicate 3 mk77))/\Below w.heap.size w w':=by
 obtain⟨i0,hi,hz0,hz1,hz2⟩:=info_parts infoE
 go_enter Tryz.func81,Tryz.ntmps81
 go_wp2_with (at_make;refine wpList_make_full _ rfl _ _ 55 rfl 0 96 i0 _ 3 Tryz.underlying55 hi hz0 hz1 .i64 .i64 _ _ 3 rfl rfl rfl rfl ?_ ?_ (Nat.zero_le _) ?_;go_must (rw[hz2];omega);go_must (unfold maxLen;omega);intro w3 hown3 hg3;refine stop_here ?_)
 refine (show Hid _ from (?_:wpList _ _ _ _ _ _))
 have hb3:Below w.heap.size w w3:=(grown_none (Below.refl w.heap.size w) hg3).out
 have hcp:=copy_nil w3 w.heap.size 3
 have HO3:Hid (∃ rest:List Value,rest.length=9/\w3.ownsRow w.heap.size 96 3 (.slice (some ⟨w.heap.size,0,none⟩) 3 3) 3 (flat ([]++List.replicate 0 mk77)++rest)):=by
  obtain⟨h1,h2⟩:=hown3
  exact⟨_,h1,h1,by rcases h2 with ⟨h,_⟩ | ⟨g,c,cur,hv,_,r⟩;cases h;cases hv;exact .inr ⟨_,_,cur,rfl,Nat.le_refl _,r⟩⟩
 clear hown3 hg3
 go_wp2
 go_loopw [4] (fun i wr=>∃ k:Nat,k<=3/\i=.int .i64 (k:Int)/\Below w.heap.size w wr/\Hid (∃ rest:List Value,rest.length=(3-k)*3/\wr.ownsRow w.heap.size 96 3 (.slice (some ⟨w.heap.size,0,none⟩) 3 3) 3 (flat ([]++List.replicate k mk77)++rest))) (fun i _=>3-(intOf i).toNat)
 case atStart=>exact⟨0,by omega,by simp,hb3,HO3.out⟩
 case round=>
  obtain⟨n,hk,rfl,hb,HR⟩:=hrel
  obtain⟨rest,hrl,hown⟩:=HR.out
  by_cases hlt:n<3
  ·have hfz:=fun j=>hown.frozenAt j
   have hcs:∀ j,j<3->∃ v,wr.cell? ⟨w.heap.size,n*3+j,none⟩=some v:=fun j hj=>by
    rw[hown.cellAt (n*3+j) (by omega)]
    exact⟨_,List.getElem?_eq_getElem (by rw[List.length_append,flat_len,List.length_append,List.length_replicate,hrl];simp;omega)⟩
   obtain⟨v0,e0⟩:=hcs 0 (by omega)
   obtain⟨v1,e1⟩:=hcs 1 (by omega)
   obtain⟨v2,e2⟩:=hcs 2 (by omega)
   rw[Nat.add_zero] at e0
   have hnm:(n:Int)<3:=by omega
   have hgl:w.heap.size<wr.heap.size:=ownsRow_lt hown rfl
   have HO:Hid _:=hown
   clear hcs HR hown
   go_wp2
   refine⟨⟨n+1,by omega,by go_num,((hb.setCell (Nat.le_refl _) _).setCell (Nat.le_refl _) _).setCell (Nat.le_refl _) _,rest.drop 3,by rw[List.length_drop,hrl];omega,?_⟩,by simp[intOf];omega⟩
   have:=put3 (n:=n) HO.out (by simp) (by omega) mk77
   rw[List.append_assoc,<- List.replicate_succ'] at this
   exact this
  ·have hk3:n=3:=by omega
   subst hk3
   have hr0:rest = []:=List.eq_nil_of_length_eq_zero (by omega)
   subst hr0
   rw[List.append_nil,List.nil_append] at hown
   have HO:Hid _:=hown
   clear hown HR
   go_wp2
   go_ret
   exact⟨_,rfl,HO.out,hb⟩
theorem lent_gen (a:Option Addr)(m c0:Nat)(es:List Ent)(w:World)(hl:ListedR w a m es)(hbig:(m+3)*32<=140737488355328)(hnil:m=0->a=none/\c0=0):
  Calls Tryz.prog 81 #[.slice a m c0] w fun e w'=>∃ g,e=.returned (.slice (some ⟨g,0,none⟩) (m+3) (m+3))/\w'.ownsRow w.heap.size 96 3 (.slice (some ⟨g,0,none⟩) (m+3) (m+3)) (m+3) (flat (es++List.replicate 3 mk77))/\Below w.heap.size w w':=by
 rcases Nat.eq_zero_or_pos m with rfl | hp
 ·obtain⟨rfl,rfl⟩:=hnil rfl
  have:es = []:=List.eq_nil_of_length_eq_zero hl.1
  subst this
  exact lent_nil w
 ·obtain⟨b,off,rfl,hbl,hc⟩:=hl.2 hp
  exact lent_some b off m c0 es w hl.1 hbl hbig hc
theorem ldE (W:World)(g o:Nat)(x:Ent)(c0:W.cell? ⟨g,o,none⟩=some (.string x.1))(c1:W.cell? ⟨g,o+1,none⟩=some (.int .i64 x.2.1))(c2:W.cell? ⟨g,o+2,none⟩=some (.int .i64 x.2.2)):(loadVar 96 ⟨g,o,none⟩).run Tryz.prog W=.ok (.agg #[.string x.1,.int .i64 x.2.1,.int .i64 x.2.2]) W:=by
 unfold loadVar
 go_simp
theorem guardE (op:BinOp)(W:World)(x y:Operand)(X Y:Array Value):(eqGuard op 96 x y (.agg X) (.agg Y)).run Tryz.prog W=.ok () W:=guardRun (by kernel_rfl) op W x y X Y
theorem kept_gen (g:Nat)(a:Option Addr)(m c0:Nat)(es:List Ent)(w:World)(hl:ListedR w a m es)(hbig:(m+3)*32<=140737488355328)(hnil:m=0->a=none/\c0=0)(b0:Nat)
  (hin:w.ownsRow b0 96 3 (.slice (some ⟨g,0,none⟩) (m+3) (m+3)) (m+3) (flat (es++List.replicate 3 mk77))):
  Calls Tryz.prog 83 #[.slice (some ⟨g,0,none⟩) (m+3) (m+3),.slice a m c0] w fun e w'=>e=.returned (.bool true)/\Below w.heap.size w w':=by
 have hlent:=lent_gen a m c0 es w hl hbig hnil
 obtain⟨ls,hls⟩:∃ ls,ls=es++List.replicate 3 mk77:=⟨_,rfl⟩
 have HLL:Hid (ls.length=m+3):=by rw[hls,List.length_append,hl.1,List.length_replicate];rfl
 rw[<- hls] at hin hlent
 have HI:Hid (w.ownsRow b0 96 3 (.slice (some ⟨g,0,none⟩) (m+3) (m+3)) (m+3) (flat ls)):=hin
 have hgl:g<w.heap.size:=ownsRow_lt hin rfl
 clear hin hls hl hnil
 go_enter Tryz.func83,Tryz.ntmps83
 go_wp2_with fail
 refine hlent.mono ?_
 rintro e w1 ⟨gw,rfl,hown1,hb1⟩
 have HO:Hid (w1.ownsRow w.heap.size 96 3 (.slice (some ⟨gw,0,none⟩) (m+3) (m+3)) (m+3) (flat ls)):=hown1
 clear hlent hown1
 go_wp2
 go_loopw [6] (fun i wr=>∃ k:Nat,k<=m+3/\i=.int .i64 (k:Int)/\(∃ q,wr=w1.drewN q)) (fun i _=>m+3-(intOf i).toNat)
 case atStart=>exact⟨0,by omega,rfl,⟨0,rfl⟩⟩
 case round=>
  obtain⟨k,hk,rfl,⟨q,rfl⟩⟩:=hrel
  by_cases hlt:k<m+3
  ·have hke:k<ls.length:=by rw[HLL.out];exact hlt
   obtain⟨p0,p1,p2⟩:=row_cells (off:=0) (owns_cells HI.out) hke
   obtain⟨q0,q1,q2⟩:=row_cells (off:=0) (owns_cells HO.out) hke
   rw[Nat.zero_add] at p0 p1 p2 q0 q1 q2
   obtain⟨x,hx⟩:∃ x,x=ls[k]:=⟨_,rfl⟩
   rw[<- hx] at p0 p1 p2 q0 q1 q2
   have HL1:Hid (∀ q,(loadVar 96 ⟨g,k*3,none⟩).run Tryz.prog (w1.drewN q)=.ok (.agg #[.string x.1,.int .i64 x.2.1,.int .i64 x.2.2]) (w1.drewN q)):=fun q=>ldE _ g (k*3) x ((hb1.cell (p:=⟨g,k*3,none⟩) hgl).trans p0) ((hb1.cell (p:=⟨g,k*3+1,none⟩) hgl).trans p1) ((hb1.cell (p:=⟨g,k*3+2,none⟩) hgl).trans p2)
   have HL2:Hid (∀ q,(loadVar 96 ⟨gw,k*3,none⟩).run Tryz.prog (w1.drewN q)=.ok (.agg #[.string x.1,.int .i64 x.2.1,.int .i64 x.2.2]) (w1.drewN q)):=fun q=>ldE _ gw (k*3) x q0 q1 q2
   have hkm:(k:Int)<(m:Int)+3:=by omega
   clear p0 p1 p2 q0 q1 q2 hx
   go_wp2
   refine wp_region_quiet_lit (by kernel_rfl) (by kernel_rfl) ?_
   iterate 3 quiet_step (fail)
   refine wpQuiet_load_at rfl 96 _ rfl ⟨g,k*3,none⟩ rfl (.agg #[.string x.1,.int .i64 x.2.1,.int .i64 x.2.2]) (by rintro _ ⟨n,rfl⟩;rw[World.drewN_drewN];exact HL1.out _) ?_
   go_frame
   iterate 3 quiet_step (fail)
   refine wpQuiet_load_at rfl 96 _ rfl ⟨gw,k*3,none⟩ rfl (.agg #[.string x.1,.int .i64 x.2.1,.int .i64 x.2.2]) (by rintro _ ⟨n,rfl⟩;rw[World.drewN_drewN];exact HL2.out _) ?_
   go_frame
   refine wpQuiet_bin rfl .neq 96 96 _ _ rfl (.agg #[.string x.1,.int .i64 x.2.1,.int .i64 x.2.2]) (.agg #[.string x.1,.int .i64 x.2.1,.int .i64 x.2.2]) (.bool (!(decide (x=x)))) rfl rfl (by rintro _ ⟨n,rfl⟩;exact guardE _ _ _ _ _ _) (by rintro _ ⟨n,rfl⟩;exact neqEntry _ x x) ?_
   go_frame
   refine wpQuiet_nil ?_
   rintro _ ⟨nq,rfl⟩
   simp only[decide_true,Bool.not_true]
   go_wp2
   go_roundw
   case rel=>exact⟨k+1,by omega,by go_num,⟨_,rfl⟩⟩
   case measure=>simp[intOf];omega
  ·go_wp2
   go_ret
   exact⟨rfl,below_drewN hb1 q⟩
end Go.Proofs.YtlgidcmmgohagaaGreat
