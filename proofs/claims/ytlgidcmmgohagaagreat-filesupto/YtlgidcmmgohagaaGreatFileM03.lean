/- What is proved here: the document's own answer. -/
import Derived.Test.YtlgidcmmgohagaaGreatFileM02
import Derived.OwnWalk
import Derived.StillTailTactics
namespace Go.Proofs.YtlgidcmmgohagaaGreat
open Go.RowKit Go.Sort Go.Shelf Go.Proofs.Tryz
set_option linter.unusedVariables false
set_option maxRecDepth 100000
set_option maxHeartbeats 16000000
theorem infoItem:(prog.info? 112).map (fun i=>(i.zero,i.size,i.bytes))=some (some (.agg #[.string ByteArray.empty,.int .i64 0,.int .i64 0]),3,32):=by kernel_rfl
def insE (out:List Ent)(x:Ent):List Ent:=out.takeWhile (fun y=>lessB y.1 x.1)++x :: out.dropWhile (fun y=>lessB y.1 x.1)
def insAll (ls:List Ent):List Ent:=ls.foldl insE []
theorem takeWhile_eq {α:Type}(p:α->Bool):∀(l:List α) (k:Nat),k<=l.length->(∀j (hj:j<l.length),j<k->p l[j]=true)->(∀hk:k<l.length,p l[k]=false)->l.takeWhile p=l.take k/\l.dropWhile p=l.drop k
 | [],0,_,_,_=>⟨rfl,rfl⟩
 | [],k+1,h,_,_=>by simp at h
 | x :: r,0,_,_,h=>by have:=h (by simp);simp only[List.getElem_cons_zero] at this;simp[List.takeWhile,List.dropWhile,this]
 | x :: r,k+1,h1,h2,h3=>by
  have hx:=h2 0 (by simp) (by omega)
  simp only[List.getElem_cons_zero] at hx
  have ih:=takeWhile_eq p r k (by simpa using h1) (fun j hj hjk=>by have:=h2 (j+1) (by simpa using hj) (by omega);simpa using this) (fun hk=>by have:=h3 (by simpa using hk);simpa using this)
  simp[List.takeWhile,List.dropWhile,hx,ih.1,ih.2]
theorem flat_appendR (a b:List Ent):flat (a++b)=flat a++flat b:=by simp[flat]
theorem item_cells (W:World)(x:Ent)(t:TypeId)(n:Nat)(hn:n=W.heap.size):∀j u,(encE x)[j]? = some u->(W.alloc (.cells #[.string x.1,.int .i64 x.2.1,.int .i64 x.2.2] t)).cell? ((⟨n,0,none⟩:Addr).add j)=some u:=by
 subst hn;intro j u h
 match j,h with
 | 0,h=>simpa [Addr.add,encE] using h
 | 1,h=>simpa [Addr.add,encE] using h
 | 2,h=>simpa [Addr.add,encE] using h
 | j+3,h=>simp[encE] at h
theorem grown_own {B:Nat}{wo W W1:World}{e:TypeId}{size n:Nat}{v:Value}{xs:List Value}(hb:Below B wo W)(hB:B<=W.heap.size)(hown:W.ownsRow B e size v n xs)(hg:W.grownBy W1 v.ownBlock):Below B wo W1:=
 hb.grown hg hB (fun k h=>(hown.lt k h).1)
theorem owns_cap {w:World}{base:Nat}{e:TypeId}{size g n cap:Nat}{xs:List Value}(h:w.ownsRow base e size (.slice (some ⟨g,0,none⟩) n cap) n xs):n<=cap/\cap<=maxLen:=by
 rcases h.2 with ⟨h,_⟩ | ⟨g',cap',cur,hv,_,_,h1,h2,_⟩
 ·cases h
 ·cases hv;exact⟨h1,h2⟩
theorem flat_cons (x:Ent)(l:List Ent):flat (x :: l)=encE x++flat l:=rfl
theorem drop_cells {out:List Ent}{k j:Nat}{u:Value}(h:(flat (out.drop k))[j]? = some u):(flat out)[k*3+j]? = some u:=by
 by_cases hk:k<=out.length
 ·have e:flat out=flat (out.take k)++flat (out.drop k):=by rw[<-flat_appendR,List.take_append_drop]
  have hl:(flat (out.take k)).length=k*3:=by rw[flat_len,List.length_take,Nat.min_eq_left hk]
  rw[e,List.getElem?_append_right (by omega),hl,Nat.add_sub_cancel_left];exact h
 ·rw[List.drop_eq_nil_of_le (by omega)] at h;simp[flat] at h
theorem owns_mono {w:World}{base base':Nat}{e:TypeId}{size:Nat}{v:Value}{n:Nat}{xs:List Value}(h:w.ownsRow base e size v n xs)(hb:base'<=base):w.ownsRow base' e size v n xs:=by
 refine⟨h.1,?_⟩;rcases h.2 with h | ⟨g,c,cur,hv,hg,r⟩
 ·exact .inl h
 ·exact .inr ⟨g,c,cur,hv,zzG hb hg,r⟩
theorem add_flat (g o j:Nat):(⟨g,o,none⟩:Addr).add j=⟨g,o+j,none⟩:=by
 unfold Addr.add;split
 ·next h=>subst h;rfl
 ·rfl
theorem insE_perm (out:List Ent)(x:Ent):(insE out x).Perm (x :: out):=by
 unfold insE;refine List.perm_middle.trans ?_;rw[List.takeWhile_append_dropWhile]
theorem insAll_perm_aux:∀(ls out:List Ent),(ls.foldl insE out).Perm (ls++out)
 | [],out=>List.Perm.refl _
 | x :: r,out=>by
  rw[List.foldl_cons]
  refine (insAll_perm_aux r (insE out x)).trans ?_
  refine ((insE_perm out x).append_left r).trans ?_
  exact List.perm_middle
theorem insAll_perm (ls:List Ent):(insAll ls).Perm ls:=by
 have:=insAll_perm_aux ls []
 rwa [List.append_nil] at this
theorem mem_insAll {ls:List Ent}{y:Ent}(h:y ∈ insAll ls):y ∈ ls:=(insAll_perm ls).mem_iff.1 h
theorem flat_one_item (x:Ent):flat [x]=encE x:=by simp[flat]
theorem take_snoc {out:List Ent}{k:Nat}(hk:k<out.length):flat (out.take k)++encE out[k]=flat (out.take (k+1)):=by
 rw[zzI hk,flat_appendR,flat_one_item]
theorem sorted_any (b off m c0:Nat)(ls:List Ent)(w:World)(hl:ls.length=m)(hm:m<=16)(hbl:b<w.heap.size)(hc:∀j u,(flat ls)[j]? = some u->w.cell? ⟨b,off+j,none⟩=some u)(hsz:∀e ∈ ls,e.1.size<=maxLen):
  Calls prog 107 #[.slice (some ⟨b,off,none⟩) m c0] w fun e w'=>∃v,e=.returned v/\w'.ownsRow w.heap.size 112 3 v m (flat (insAll ls))/\Below w.heap.size w w':=by
 obtain⟨i0,hi,hz0,hz1,hz2⟩:=info_parts infoItem;have HC:Hid (∀j u,(flat ls)[j]? = some u->w.cell? ⟨b,off+j,none⟩=some u):=hc;have HS:Hid (∀e ∈ ls,e.1.size<=maxLen):=hsz;have HL:Hid (ls.length=m):=hl;clear hc hsz hl;go_enter func107,ntmps107;go_wp2
 go_loopw [3,4] (fun v i wo=>∃k:Nat,k<=m/\i=.int .i64 k/\Below w.heap.size w wo/\wo.ownsRow w.heap.size 112 3 v k (flat (insAll (ls.take k)))/\(k=0->v=.slice none 0 0)) (fun _ i _=>m-(intOf i).toNat)
 case atStart=>exact⟨0,zzF _,rfl,Below.refl _ _,World.ownsRow_nil _ _ _ _,fun _=>rfl⟩
 case round=>
  obtain⟨i,hk,rfl,hb,hown,hnil⟩:=hrel;by_cases hlt:i<m
  ·have hi':i<ls.length:=by rw[HL.out];exact hlt
   obtain⟨c0,c1,c2⟩:=row_cells HC.out hi';obtain⟨x,hx⟩:∃x,x=ls[i]:=⟨_,rfl⟩;rw[<-hx] at c0 c1 c2;obtain⟨out,hout⟩:∃out,out=insAll (ls.take i):=⟨_,rfl⟩;have HO:Hid (insAll (ls.take (i+1))=insE out x):=by
    show _=_;rw[zzI hi',insAll,List.foldl_append,hout,hx];rfl
   have HX:Hid (x.1.size<=maxLen):=by rw[hx];exact HS.out _ (zzJ hi')
   have HO2:Hid (∀y ∈ out,y.1.size<=maxLen):=by
    intro y hy;rw[hout] at hy;exact HS.out y (List.mem_of_mem_take (mem_insAll hy))
   have hol:out.length=i:=by
    have:=hown.1
    rw[flat_len,<-hout] at this;omega
   rw[<-hout] at hown;clear hout hx;have x0:=fun (W:World) (hW:Below wr.heap.size wr W)=>((hb.trans (hW.mono hb.size)).cell (p:=⟨b,off+i*3,none⟩) hbl).trans c0
   have x1:=fun (W:World) (hW:Below wr.heap.size wr W)=>((hb.trans (hW.mono hb.size)).cell (p:=⟨b,off+i*3+1,none⟩) hbl).trans c1;have x2:=fun (W:World) (hW:Below wr.heap.size wr W)=>((hb.trans (hW.mono hb.size)).cell (p:=⟨b,off+i*3+2,none⟩) hbl).trans c2;clear c0 c1 c2;rename World=>wo;go_wp2
   go_loopw [5,6] (fun v j wq=>∃k:Nat,k<=i/\j=.int .i64 k/\Below wo.heap.size wo wq/\wq.ownsRow wo.heap.size 112 3 v k (flat (out.take k))/\Hid (∀j (hj:j<out.length),j<k->lessB out[j].1 x.1=true)) (fun _ j _=>i-(intOf j).toNat)
   case atStart=>exact⟨0,zzF _,rfl,Below.refl _ _,World.ownsRow_nil _ _ _ _,fun j hj h=>by omega⟩
   case round=>
    obtain⟨k,hki,rfl,hbq,hownq,HV⟩:=hrel;have d0:=x0 _ hbq;have d1:=x1 _ hbq;have d2:=x2 _ hbq;by_cases hkl:k<i
    ·obtain⟨g,cap,rfl⟩:=slice_of_owns hown (by omega)
     have hgl:g<wo.heap.size:=ownsRow_lt hown rfl;have hko:k<out.length:=by rw[hol];exact hkl
     obtain⟨o0,o1,o2⟩:=row_cells (off:=0) (owns_cells hown) hko;rw[Nat.zero_add] at o0 o1 o2;have p0:=(hbq.cell (p:=⟨g,k*3,none⟩) hgl).trans o0;have p1:=(hbq.cell (p:=⟨g,k*3+1,none⟩) hgl).trans o1;have p2:=(hbq.cell (p:=⟨g,k*3+2,none⟩) hgl).trans o2;have hless:=fun W=>less_any out[k].1 x.1 W (HO2.out _ (zzJ hko)) HX.out;cases hlb:lessB out[k].1 x.1 with
     | true=>
      rw[hlb] at hless;have HB:Hid (lessB out[k].1 x.1=true):=hlb;clear hlb o0 o1 o2;go_wp2
      go_quiet (first | (go_at_call 169;exact Calls.quiet_of (hless _)))
      go_wp2_with (at_builtin;refine wpList_append_own _ rfl (.tmp 30) (.tmp 35) 106 rfl wo.heap.size 112 i0 _ 3 32 underlying106 hi hz0 hz1 hz2 rfl (by decide) _ _ _ rfl (hownq.alloc _) ⟨wr.heap.size,0,none⟩ 1 1 (encE out[k]) rfl rfl ?c1 ?c2 ?c3 ?c4 ?c5 ?_)
      case c1=>exact item_cells (wr.drewN nq) out[k] _ _ rfl
      case c2=>exact encE_one out[k]
      case c3=>unfold maxLen;omega
      case c4=>omega
      case c5=>have:=hbq.size;simp;omega
      intro v' w1 hown' hgrow _;have hB:wo.heap.size<=((wr.drewN nq).alloc (Obj.cells #[Value.string out[k].fst,Value.int IntKind.i64 out[k].snd.fst,Value.int IntKind.i64 out[k].snd.snd] 112)).heap.size:=by have:=hbq.size;simp;omega
      have hb1:=grown_own ((below_drewN hbq nq).alloc hbq.size _) hB (hownq.alloc _) hgrow;have hown1:w1.ownsRow wo.heap.size 112 3 v' (k+1) (flat (out.take (k+1))):=by rw[<-take_snoc hko];exact hown'
      clear hown' hgrow hB;go_wp2;go_roundw
      case rel=>
       refine⟨k+1,by omega,by go_num,hb1,hown1,?_⟩;intro j hj hjk;by_cases e:j=k
       ·subst e;exact HB.out
       ·exact HV.out j hj (by omega)
      case measure=>simp[intOf];omega
     | false=>
      rw[hlb] at hless;have HB:Hid (lessB out[k].1 x.1=false):=hlb;clear hlb o0 o1 o2;go_wp2
      go_quiet (first | (go_at_call 169;exact Calls.quiet_of (hless _)))
      go_wp2_with (at_builtin;refine wpList_append_own _ rfl (.tmp 39) (.tmp 44) 106 rfl wo.heap.size 112 i0 _ 3 32 underlying106 hi hz0 hz1 hz2 rfl (by decide) _ _ _ rfl (hownq.alloc _) ⟨wr.heap.size,0,none⟩ 1 1 (encE x) rfl rfl ?c1 ?c2 ?c3 ?c4 ?c5 ?_)
      case c1=>exact item_cells (wr.drewN nq) x _ _ rfl
      case c2=>exact encE_one x
      case c3=>unfold maxLen;omega
      case c4=>omega
      case c5=>have:=hbq.size;simp;omega
      intro v' w1 hown' hgrow _;have hB:wo.heap.size<=((wr.drewN nq).alloc (Obj.cells #[Value.string x.fst,Value.int IntKind.i64 x.snd.fst,Value.int IntKind.i64 x.snd.snd] 112)).heap.size:=by have:=hbq.size;simp;omega
      have hb1:=grown_own ((below_drewN hbq nq).alloc hbq.size _) hB (hownq.alloc _) hgrow;obtain⟨hc1,hc2⟩:=owns_cap hown;clear hgrow hB;have hdl:(flat (out.drop k)).length=(i-k)*3:=by rw[flat_len,List.length_drop,hol]
      have hdc:∀j u,(flat (out.drop k))[j]? = some u->w1.cell? ((⟨g,k*3,none⟩:Addr).add j)=some u:=by
       intro j u hju;have h1:=drop_cells hju;have h2:=owns_cells hown _ _ h1;rw[Nat.zero_add] at h2;have h3:=(hb1.cell (p:=⟨g,k*3+j,none⟩) hgl).trans h2;rw[add_flat];exact h3
      have HDC:Hid (∀j u,(flat (out.drop k))[j]? = some u->w1.cell? ((⟨g,k*3,none⟩:Addr).add j)=some u):=hdc;clear hdc;go_wp2_with (at_builtin;refine wpList_append_own _ rfl (.tmp 46) (.tmp 49) 106 rfl wo.heap.size 112 i0 _ 3 32 underlying106 hi hz0 hz1 hz2 rfl (by decide) _ _ _ rfl hown' ⟨g,k*3,none⟩ (i-k) _ (flat (out.drop k)) rfl hdl HDC.out (flat_one _) ?c3 ?c4 ?c5 ?_)
      case c3=>unfold maxLen;omega
      case c4=>omega
      case c5=>exact hb1.size
      intro v2 w2 hown2 hgrow2 _;have hb2:=grown_own hb1 hb1.size hown' hgrow2;have hown3:w2.ownsRow w.heap.size 112 3 v2 (i+1) (flat (insAll (ls.take (i+1)))):=by
       rw[HO.out];have e1:=takeWhile_eq (fun y:Ent=>lessB y.1 x.1) out k (by omega) (fun j hj hjk=>HV.out j hj hjk) (fun _=>HB.out)
       have:=owns_mono hown2 hb.size
       rw[show k+1+(i-k)=i+1 by omega] at this;unfold insE;rw[e1.1,e1.2,flat_appendR,flat_cons];simpa only[List.append_assoc] using this
      clear hown2 hgrow2 hown' HDC;go_wp2;go_roundw
      case rel=>exact⟨i+1,by omega,by go_num,hb.trans (hb2.mono hb.size),hown3,fun h=>by omega⟩
      case measure=>simp[intOf];omega
    ·have hke:k=i:=by omega
     subst hke;have HT:Hid (out.take k=out):=List.take_of_length_le (by rw[hol];exact zzC _);have hdk:decide ((k:Int)<(k:Int))=false:=by simp
     rw[HT.out] at hownq;rcases Nat.eq_zero_or_pos k with hz | hz
     ·have hn:=hnil hz
      subst hn;subst hz;simp only[Nat.zero_mul,Nat.add_zero] at d0 d1 d2;go_wp2
      go_quiet (fail)
      go_wp2_with (at_builtin;refine wpList_append_own _ rfl (.tmp 39) (.tmp 44) 106 rfl wo.heap.size 112 i0 _ 3 32 underlying106 hi hz0 hz1 hz2 rfl (by decide) _ _ _ rfl (hownq.alloc _) ⟨wr.heap.size,0,none⟩ 1 1 (encE x) rfl rfl ?c1 ?c2 ?c3 ?c4 ?c5 ?_)
      case c1=>exact item_cells (wr.drewN nq) x _ _ rfl
      case c2=>exact encE_one x
      case c3=>unfold maxLen;omega
      case c4=>omega
      case c5=>have:=hbq.size;simp;omega
      intro v' w1 hown' hgrow _;have hB:wo.heap.size<=((wr.drewN nq).alloc (Obj.cells #[Value.string x.fst,Value.int IntKind.i64 x.snd.fst,Value.int IntKind.i64 x.snd.snd] 112)).heap.size:=by have:=hbq.size;simp;omega
      have hb1:=grown_own ((below_drewN hbq nq).alloc hbq.size _) hB (hownq.alloc _) hgrow;obtain⟨g',cap',rfl⟩:=slice_of_owns hown' (by omega);obtain⟨hc3,hc4⟩:=owns_cap hown';have hown3:w1.ownsRow w.heap.size 112 3 (.slice (some ⟨g',0,none⟩) (0+1) cap') (0+1) (flat (insAll (ls.take (0+1)))):=by
       rw[HO.out];have e1:=takeWhile_eq (fun y:Ent=>lessB y.1 x.1) out 0 (by omega) (fun j hj hjk=>HV.out j hj hjk) (fun h=>by omega)
       have:=owns_mono hown' hb.size
       unfold insE;rw[e1.1,e1.2,HT.out,List.drop_eq_nil_of_le (by omega),flat_appendR,flat_one_item];exact this
      clear hown' hgrow hB;go_wp2
      all_goals
       go_roundw
       case rel=>exact⟨0+1,by omega,by go_num,hb.trans (hb1.mono hb.size),hown3,fun h=>by omega⟩
       case measure=>simp[intOf];omega
     ·obtain⟨g,cap,rfl⟩:=slice_of_owns hown hz
      obtain⟨hc1,hc2⟩:=owns_cap hown;go_wp2
      go_quiet (fail)
      go_wp2_with (at_builtin;refine wpList_append_own _ rfl (.tmp 39) (.tmp 44) 106 rfl wo.heap.size 112 i0 _ 3 32 underlying106 hi hz0 hz1 hz2 rfl (by decide) _ _ _ rfl (hownq.alloc _) ⟨wr.heap.size,0,none⟩ 1 1 (encE x) rfl rfl ?c1 ?c2 ?c3 ?c4 ?c5 ?_)
      case c1=>exact item_cells (wr.drewN nq) x _ _ rfl
      case c2=>exact encE_one x
      case c3=>unfold maxLen;omega
      case c4=>omega
      case c5=>have:=hbq.size;simp;omega
      intro v' w1 hown' hgrow _;have hB:wo.heap.size<=((wr.drewN nq).alloc (Obj.cells #[Value.string x.fst,Value.int IntKind.i64 x.snd.fst,Value.int IntKind.i64 x.snd.snd] 112)).heap.size:=by have:=hbq.size;simp;omega
      have hb1:=grown_own ((below_drewN hbq nq).alloc hbq.size _) hB (hownq.alloc _) hgrow;obtain⟨g',cap',rfl⟩:=slice_of_owns hown' (by omega);obtain⟨hc3,hc4⟩:=owns_cap hown';have hown3:w1.ownsRow w.heap.size 112 3 (.slice (some ⟨g',0,none⟩) (k+1) cap') (k+1) (flat (insAll (ls.take (k+1)))):=by
       rw[HO.out];have e1:=takeWhile_eq (fun y:Ent=>lessB y.1 x.1) out k (by omega) (fun j hj hjk=>HV.out j hj hjk) (fun h=>by omega)
       have:=owns_mono hown' hb.size
       unfold insE;rw[e1.1,e1.2,HT.out,List.drop_eq_nil_of_le (by omega),flat_appendR,flat_one_item];exact this
      clear hown' hgrow hB;go_wp2
      all_goals
       go_roundw
       case rel=>exact⟨k+1,by omega,by go_num,hb.trans (hb1.mono hb.size),hown3,fun h=>by omega⟩
       case measure=>simp[intOf];omega
  ·have him:i=m:=by omega
   subst him;have HT:Hid (ls.take i=ls):=List.take_of_length_le (by rw[HL.out];omega);rw[HT.out] at hown;go_wp2;go_ret;exact⟨_,rfl,hown,hb⟩
theorem neqRun {t:TypeId}(P:Program)(W:World)(x y:Ent)(h:(binOp .neq t (.agg #[.string x.1,.int .i64 x.2.1,.int .i64 x.2.2]) (.agg #[.string y.1,.int .i64 y.2.1,.int .i64 y.2.2])).run P W=(if x.fst.toList=y.fst.toList then
   if x.snd.fst=y.snd.fst then
    if x.snd.snd=y.snd.snd then Result.ok (Value.bool false) W else Result.ok (Value.bool true) W
   else Result.ok (Value.bool true) W
  else Result.ok (Value.bool true) W)):(binOp .neq t (.agg #[.string x.1,.int .i64 x.2.1,.int .i64 x.2.2]) (.agg #[.string y.1,.int .i64 y.2.1,.int .i64 y.2.2])).run P W=.ok (.bool (!(decide (x=y)))) W:=by
 rw[h];by_cases e:x=y
 ·subst e;simp
 ·rw[zzE e]
  split
  ·next h1=>
   split
   ·next h2=>
    split
    ·next h3=>exact absurd (Prod.ext (bytes_eq h1) (Prod.ext h2 h3)) e
    ·rfl
   ·rfl
  ·rfl
theorem neqItem (W:World)(x y:Ent):(binOp .neq 112 (.agg #[.string x.1,.int .i64 x.2.1,.int .i64 x.2.2]) (.agg #[.string y.1,.int .i64 y.2.1,.int .i64 y.2.2])).run prog W=.ok (.bool (!(decide (x=y)))) W:=by
 refine neqRun _ W x y ?_
 go_simp
theorem neqEntry (W:World)(x y:Ent):(binOp .neq 96 (.agg #[.string x.1,.int .i64 x.2.1,.int .i64 x.2.2]) (.agg #[.string y.1,.int .i64 y.2.1,.int .i64 y.2.2])).run prog W=.ok (.bool (!(decide (x=y)))) W:=by
 refine neqRun _ W x y ?_
 go_simp
theorem wpQuiet_load_at {P:Program}{ops:Array Oper}{C:World->Prop}{Q:Act->Prop}{o:Oper}{rest:List Oper}{a:Act}(hg:o.guard=none)(ty:TypeId)(x:Operand)(h:o.op=.load ty x)(ad:Addr)(hx:a.eval x=.pointer (some ad))
  (cs:Value)(hC:∀w,C w->(loadVar ty ad).run P w=.ok cs w)(hk:wpQuiet P ops C Q rest (a.put o.dst cs)):wpQuiet P ops C Q (o :: rest) a:=by
 have hw:Region.wanted o (yielded ops a.tmps)=true:=by simp[Region.wanted,hg]
 refine wpQuiet_step fun K hK=>?_;rw[zzD hw];refine⟨_,fun w hw=>?_,hK _ hk⟩;unfold Oper.quietAt execOp;simp only[h,hx,Instr.loadAt,Instr.sureAddr,Sem.run_bind,Sem.run_pure,Result.andThen_ok,hC w hw];exact⟨rfl,rfl⟩
theorem wpQuiet_bin {P:Program}{ops:Array Oper}{C:World->Prop}{Q:Act->Prop}{o:Oper}{rest:List Oper}{a:Act}(hg:o.guard=none)(op:BinOp)(t u:TypeId)(x y:Operand)(h:o.op=.binOp op t x y u)(X Y v:Value)(hx:a.eval x=X)(hy:a.eval y=Y)
  (hG:∀w,C w->(eqGuard op t x y X Y).run P w=.ok () w)(hC:∀w,C w->(binOp op t X Y).run P w=.ok v w)(hk:wpQuiet P ops C Q rest (a.put o.dst v)):wpQuiet P ops C Q (o :: rest) a:=by
 have hw:Region.wanted o (yielded ops a.tmps)=true:=by simp[Region.wanted,hg]
 refine wpQuiet_step fun K hK=>?_;rw[zzD hw];refine⟨_,fun w hw=>?_,hK _ hk⟩;unfold Oper.quietAt execOp;simp only[h,hx,hy,Sem.run_bind,Sem.run_pure,Result.andThen_ok,hG w hw,hC w hw];exact⟨rfl,rfl⟩
theorem guardRun {P:Program}{t:TypeId}(hp:P.eqGuardType P.depth t=false)(op:BinOp)(W:World)(x y:Operand)(X Y:Array Value):(eqGuard op t x y (.agg X) (.agg Y)).run P W=.ok () W:=by
 have hr:(program).run P W=.ok P W:=rfl;unfold eqGuard;cases op <;> simp[Sem.run_bind,hr,Result.andThen_ok,hp,Sem.run_pure]
theorem guardItem (W:World)(x y:Operand)(X Y:Array Value):(eqGuard .neq 112 x y (.agg X) (.agg Y)).run prog W=.ok () W:=guardRun (by kernel_rfl) _ W x y X Y
theorem ld3 (W:World)(g o:Nat)(x:Ent)(c0:W.cell? ⟨g,o,none⟩=some (.string x.1))(c1:W.cell? ⟨g,o+1,none⟩=some (.int .i64 x.2.1))(c2:W.cell? ⟨g,o+2,none⟩=some (.int .i64 x.2.2)):(loadVar 112 ⟨g,o,none⟩).run prog W=.ok (.agg #[.string x.1,.int .i64 x.2.1,.int .i64 x.2.2]) W:=by
 unfold loadVar
 go_simp
structure RObOk (F:Nat->Prop)(w:World)(o:Ob):Prop where
 kind:o.kind=1\/o.kind=2
 size:o.data.size<=256
 len:o.ents.length=o.el
 few:o.el<=16
 high0:0<=o.high
 high5:o.high<=5
 row:w.ownsRow 0 112 3 (.slice o.ea o.el o.ec) o.el (flat o.ents)
 own:∀g,(Value.slice o.ea o.el o.ec).ownBlock=some g->F g
theorem RObOk.keep {F F':Nat->Prop}{w w':World}{o:Ob}(h:RObOk F w o)(hF:∀k,F k->F' k)(hk:∀k,F k->w'.heap[k]? = w.heap[k]?):RObOk F' w' o:=
 ⟨h.kind,h.size,h.len,h.few,h.high0,h.high5,ownsRow_keep h.row (fun g hg=>hk g (h.own g hg)),fun g hg=>hF g (h.own g hg)⟩
def sameB (o1 o2:Ob):Bool:=decide (o1.kind=o2.kind) && decide (o1.data=o2.data) && decide (o1.ents=o2.ents)
def oAgg (o:Ob):Value:=.agg #[.int .i64 o.kind,.string o.data,.slice o.ea o.el o.ec,.int .i64 o.high]
theorem two_boxesR (w:World)(a b:Obj):Below w.heap.size w ((w.alloc a).alloc b):=((Below.refl _ _).alloc (zzC _) _).alloc (by simp) _
theorem same_not (o1 o2:Ob)(w:World)(z1:o1.el<=16)(z2:o2.el<=16)
  (h:(o1.kind != o2.kind)=true\/(o1.kind != o2.kind)=false/\((o1.data.toList == o2.data.toList)=false\/(o1.data.toList == o2.data.toList)=true/\((o1.el:Int) != (o2.el:Int))=true)):
  Calls prog 200 #[oAgg o1,oAgg o2] w fun e w'=>e=.returned (.bool false)/\Below w.heap.size w w':=by
 unfold oAgg;rcases h with h | ⟨h0,h | ⟨h1,h⟩⟩
 all_goals
  go_enter func200,ntmps200;go_wp2;go_ret;exact⟨rfl,two_boxesR _ _ _⟩
theorem same_loop (k1 k2 n1 n2:Int)(d1 d2:ByteArray)(ea1 ea2:Option Addr)(c1 c2 m:Nat)(es1 es2:List Ent)(w:World)(z1:m<=16)(l1:es1.length=m)(l2:es2.length=m)
  (r1:w.ownsRow 0 112 3 (.slice ea1 m c1) m (flat es1))(r2:w.ownsRow 0 112 3 (.slice ea2 m c2) m (flat es2))
  (h0:(k1 != k2)=false)(h1:(d1.toList == d2.toList)=true):
  Calls prog 200 #[.agg #[.int .i64 k1,.string d1,.slice ea1 m c1,.int .i64 n1],.agg #[.int .i64 k2,.string d2,.slice ea2 m c2,.int .i64 n2]] w fun e w'=>e=.returned (.bool (decide (es1=es2)))/\Below w.heap.size w w':=by
 have h2:((m:Int) != (m:Int))=false:=by simp
 go_enter func200,ntmps200;go_wp2
 go_loopw [5] (fun i wr=>∃k:Nat,k<=m/\i=.int .i64 k/\(∃q,wr=((w.alloc (.cells #[.int .i64 k1,.string d1,.slice ea1 m c1,.int .i64 n1] 108)).alloc (.cells #[.int .i64 k2,.string d2,.slice ea2 m c2,.int .i64 n2] 108)).drewN q)/\Hid (es1.take k=es2.take k)) (fun i _=>m-(intOf i).toNat)
 case atStart=>exact⟨0,zzF _,rfl,⟨0,rfl⟩,rfl⟩
 case round=>
  obtain⟨k,hk,rfl,⟨q,rfl⟩,HT⟩:=hrel;by_cases hlt:k<m
  ·obtain⟨g1,c1',hv1⟩:=slice_of_owns r1 (by omega)
   obtain⟨g2,c2',hv2⟩:=slice_of_owns r2 (by omega);obtain⟨rfl,_,_⟩:=Value.slice.inj hv1;obtain⟨rfl,_,_⟩:=Value.slice.inj hv2;have k1':k<es1.length:=by omega
   have k2':k<es2.length:=by omega
   have gl1:g1<w.heap.size:=ownsRow_lt r1 rfl;have gl2:g2<w.heap.size:=ownsRow_lt r2 rfl;have hbw:∀a b:Obj,Below w.heap.size w (((w.alloc a).alloc b).drewN q):=fun a b=>below_drewN (two_boxesR w a b) q;obtain⟨a0,a1,a2⟩:=row_cells (off:=0) (owns_cells r1) k1';obtain⟨b0,b1,b2⟩:=row_cells (off:=0) (owns_cells r2) k2';rw[Nat.zero_add] at a0 a1 a2 b0 b1 b2;obtain⟨x,hx⟩:∃x,x=es1[k]:=⟨_,rfl⟩;obtain⟨y,hy⟩:∃y,y=es2[k]:=⟨_,rfl⟩;rw[<-hx] at a0 a1 a2;rw[<-hy] at b0 b1 b2;have p0:=fun a b:Obj=>((hbw a b).cell (p:=⟨g1,k*3,none⟩) gl1).trans a0;have p1:=fun a b:Obj=>((hbw a b).cell (p:=⟨g1,k*3+1,none⟩) gl1).trans a1;have p2:=fun a b:Obj=>((hbw a b).cell (p:=⟨g1,k*3+2,none⟩) gl1).trans a2;have q0:=fun a b:Obj=>((hbw a b).cell (p:=⟨g2,k*3,none⟩) gl2).trans b0;have q1:=fun a b:Obj=>((hbw a b).cell (p:=⟨g2,k*3+1,none⟩) gl2).trans b1;have q2:=fun a b:Obj=>((hbw a b).cell (p:=⟨g2,k*3+2,none⟩) gl2).trans b2;clear a0 a1 a2 b0 b1 b2;have HX:Hid (x=es1[k]):=hx;have HY:Hid (y=es2[k]):=hy;clear hx hy;go_wp2;refine wp_region_quiet_lit (by kernel_rfl) (by kernel_rfl) ?_
   iterate 4 quiet_step (fail)
   refine wpQuiet_load_at rfl 112 _ rfl ⟨g1,k*3,none⟩ rfl (.agg #[.string x.1,.int .i64 x.2.1,.int .i64 x.2.2]) (by rintro _ ⟨n,rfl⟩;exact ld3 _ g1 (k*3) x (p0 _ _) (p1 _ _) (p2 _ _)) ?_
   go_frame
   iterate 4 quiet_step (fail)
   refine wpQuiet_load_at rfl 112 _ rfl ⟨g2,k*3,none⟩ rfl (.agg #[.string y.1,.int .i64 y.2.1,.int .i64 y.2.2]) (by rintro _ ⟨n,rfl⟩;exact ld3 _ g2 (k*3) y (q0 _ _) (q1 _ _) (q2 _ _)) ?_
   go_frame
   refine wpQuiet_bin rfl .neq 112 112 _ _ rfl (.agg #[.string x.1,.int .i64 x.2.1,.int .i64 x.2.2]) (.agg #[.string y.1,.int .i64 y.2.1,.int .i64 y.2.2]) (.bool (!(decide (x=y)))) rfl rfl (by rintro _ ⟨n,rfl⟩;exact guardItem _ _ _ _ _) (by rintro _ ⟨n,rfl⟩;exact neqItem _ x y) ?_
   go_frame
   refine wpQuiet_nil ?_;rintro _ ⟨nq,rfl⟩;by_cases hxy:x=y
   ·have HD:Hid (x=y):=hxy
    rw[decide_eq_true hxy];clear hxy;go_wp2;go_roundw
    case rel=>
     refine⟨k+1,by omega,by go_num,⟨q+nq,rfl⟩,?_⟩;show _=_;rw[zzI k1',zzI k2',HT.out,<-HX.out,<-HY.out,HD.out]
    case measure=>simp[intOf];omega
   ·have HD:Hid (es1≠es2):=fun h=>hxy (by rw[HX.out,HY.out];simp only[h])
    rw[zzE hxy];clear hxy;go_wp2;go_ret;exact⟨by rw[zzE HD.out];rfl,below_drewN (below_drewN (two_boxesR _ _ _) q) nq⟩
  ·have hkm:k=m:=by omega
   have HD:Hid (es1=es2):=by
    have:=HT.out
    rwa [hkm,List.take_of_length_le (by omega),List.take_of_length_le (by omega)] at this
   go_wp2;go_ret;exact⟨by rw[decide_eq_true HD.out];rfl,below_drewN (two_boxesR _ _ _) q⟩
theorem same_any {F G:Nat->Prop}(o1 o2:Ob)(w:World)(h1:RObOk F w o1)(h2:RObOk G w o2):
  Calls prog 200 #[oAgg o1,oAgg o2] w fun e w'=>e=.returned (.bool (sameB o1 o2))/\Below w.heap.size w w':=by
 by_cases hk:o1.kind=o2.kind
 ·by_cases hd:o1.data=o2.data
  ·by_cases hl:o1.el=o2.el
   ·have:=same_loop o1.kind o2.kind o1.high o2.high o1.data o2.data o1.ea o2.ea o1.ec o2.ec o1.el o1.ents o2.ents w h1.few h1.len (by rw[h2.len,hl]) h1.row (by have:=h2.row;rwa [<-hl] at this) (by rw[hk];simp) (by rw[hd];simp)
    have e:sameB o1 o2=decide (o1.ents=o2.ents):=by unfold sameB;simp[hk,hd]
    rw[e];unfold oAgg;rw[<-hl];exact this
   ·have e:sameB o1 o2=false:=by
     have:o1.ents≠o2.ents:=fun h=>hl (by rw[<-h1.len,<-h2.len,h])
     unfold sameB;simp[this]
    rw[e];exact same_not o1 o2 w h1.few h2.few (.inr ⟨by rw[hk];simp,.inr ⟨by rw[hd];simp,by simp;omega⟩⟩)
  ·have e:sameB o1 o2=false:=by unfold sameB;simp[hd]
   rw[e];exact same_not o1 o2 w h1.few h2.few (.inr ⟨by rw[hk];simp,.inl (by simp;exact fun h=>hd (bytes_eq h))⟩)
 ·have e:sameB o1 o2=false:=by unfold sameB;simp[hk]
  rw[e];exact same_not o1 o2 w h1.few h2.few (.inl (by simpa using hk))
structure RefAt (F:Nat->Prop)(w:World)(r:Nat)(a:Option Addr)(cap:Nat)(ros:List Ob):Prop where
 fr:F r
 fa:∀g,(Value.slice a ros.length cap).ownBlock=some g->F g
 hr:w.heap[r]? = some (.cells #[.slice a ros.length cap] 94 (0,0))
 row:w.ownsRow 0 108 4 (.slice a ros.length cap) ros.length (obCells ros)
 many:ros.length<=400
 obs:∀o ∈ ros,RObOk F w o
theorem RefAt.keep {F F':Nat->Prop}{w w':World}{r:Nat}{a:Option Addr}{cap:Nat}{ros:List Ob}(h:RefAt F w r a cap ros)(hF:∀k,F k->F' k)(hk:∀k,F k->w'.heap[k]? = w.heap[k]?):RefAt F' w' r a cap ros:=
 ⟨hF _ h.fr,fun g hg=>hF g (h.fa g hg),(hk r h.fr).trans h.hr,ownsRow_keep h.row (fun g hg=>hk g (h.fa g hg)),h.many,fun o ho=>(h.obs o ho).keep hF hk⟩
theorem RefAt.lt {F:Nat->Prop}{w:World}{r:Nat}{a:Option Addr}{cap:Nat}{ros:List Ob}(h:RefAt F w r a cap ros):r<w.heap.size:=(Array.getElem?_eq_some_iff.1 h.hr).1
theorem RefAt.c0 {F:Nat->Prop}{w:World}{r:Nat}{a:Option Addr}{cap:Nat}{ros:List Ob}(h:RefAt F w r a cap ros):w.cell? ⟨r,0,none⟩=some (.slice a ros.length cap):=by simp[World.cell?,h.hr]
theorem RefAt.f0 {F:Nat->Prop}{w:World}{r:Nat}{a:Option Addr}{cap:Nat}{ros:List Ob}(h:RefAt F w r a cap ros):w.frozen? ⟨r,0,none⟩=false:=by simp[World.frozen?,h.hr]
theorem RObOk.below {F:Nat->Prop}{w w':World}{o:Ob}(h:RObOk F w o)(hb:Below w.heap.size w w'):RObOk F w' o:=
 ⟨h.kind,h.size,h.len,h.few,h.high0,h.high5,ownsRow_keep h.row (fun g hg=>hb.block g (ownsRow_lt h.row hg)),h.own⟩
theorem RefAt.below {F:Nat->Prop}{w w':World}{r:Nat}{a:Option Addr}{cap:Nat}{ros:List Ob}(h:RefAt F w r a cap ros)(hb:Below w.heap.size w w'):RefAt F w' r a cap ros:=
 ⟨h.fr,h.fa,(hb.block r h.lt).trans h.hr,ownsRow_keep h.row (fun g hg=>hb.block g (ownsRow_lt h.row hg)),h.many,fun o ho=>(h.obs o ho).below hb⟩
theorem row_obs {w:World}{t:TypeId}{a:Option Addr}{n cap:Nat}{ros:List Ob}(h:w.ownsRow 0 t 4 (.slice a n cap) n (obCells ros))(hl:ros.length=n){i:Nat}(hi:i<ros.length):
  ∃g,a=some ⟨g,0,none⟩/\g<w.heap.size/\w.cell? ⟨g,i*4,none⟩=some (.int .i64 ros[i].kind)/\w.cell? ⟨g,i*4+1,none⟩=some (.string ros[i].data)/\
   w.cell? ⟨g,i*4+2,none⟩=some (.slice ros[i].ea ros[i].el ros[i].ec)/\w.cell? ⟨g,i*4+3,none⟩=some (.int .i64 ros[i].high):=by
 have hn:i<n:=by rw[<-hl];exact hi
 rcases h.2 with ⟨_,h0⟩ | ⟨g,cap',cur,hv,_,hg,_,_,hcur,ht⟩
 ·omega
 ·cases hv
  have key:∀j u,j<4->(ros[i].cells)[j]? = some u->w.cell? ⟨g,i*4+j,none⟩=some u:=by
   intro j u hj hu;rw[<-obCells_get ros i j hi hj,<-ht,List.getElem?_take_of_lt (by omega),Array.getElem?_toList] at hu;simp[World.cell?,hg,hu]
  exact⟨g,rfl,(Array.getElem?_eq_some_iff.1 hg).1,key 0 _ (by omega) rfl,key 1 _ (by omega) rfl,key 2 _ (by omega) rfl,key 3 _ (by omega) rfl⟩
theorem wpStill_load_at {P:Program}{ops:Array Oper}{w:World}{Q:Act->Prop}{o:Oper}{rest:List Oper}{a:Act}(hg:o.guard=none)(ty:TypeId)(x:Operand)(h:o.op=.load ty x)(ad:Addr)(hx:a.eval x=.pointer (some ad))
  (cs:Value)(hrun:(loadVar ty ad).run P w=.ok cs w)(hk:wpStill P ops w Q rest (a.put o.dst cs)):wpStill P ops w Q (o :: rest) a:=by
 have hw:Region.wanted o (yielded ops a.tmps)=true:=by simp[Region.wanted,hg]
 refine wpStill_step fun K hK=>?_;rw[zzD hw];unfold Oper.still execOp;simp only[h,hx,Instr.loadAt,Instr.sureAddr,Sem.run_bind,Sem.run_pure,Result.andThen_ok,hrun];exact⟨rfl,hK _ hk⟩
theorem ld4 (W:World)(g o:Nat)(x:Ob)(c0:W.cell? ⟨g,o,none⟩=some (.int .i64 x.kind))(c1:W.cell? ⟨g,o+1,none⟩=some (.string x.data))(c2:W.cell? ⟨g,o+2,none⟩=some (.slice x.ea x.el x.ec))(c3:W.cell? ⟨g,o+3,none⟩=some (.int .i64 x.high)):
  (loadVar 108 ⟨g,o,none⟩).run prog W=.ok (oAgg x) W:=by
 unfold loadVar oAgg
 go_simp
def findAt (ros:List Ob)(o:Ob):Option Nat:=ros.findIdx? fun x=>sameB x o
def placeI (p:Option Nat):Int:=match p with | some i=>i | none=>-1
theorem find_anyR {F G:Nat->Prop}(r:Nat)(a:Option Addr)(cap:Nat)(ros:List Ob)(o:Ob)(w:World)(h:RefAt F w r a cap ros)(ho:RObOk G w o):
  Calls prog 149 #[.pointer (some ⟨r,0,none⟩),oAgg o] w fun e w'=>e=.returned (.int .i64 (placeI (findAt ros o)))/\Below w.heap.size w w':=by
 unfold oAgg;obtain⟨n,hn⟩:∃n,n=ros.length:=⟨_,rfl⟩;have hmany:n<=400:=by rw[hn];exact h.many
 have HN:Hid (n=ros.length):=hn;clear hn;obtain⟨B,hB⟩:∃B:Obj,B=.cells #[.int .i64 o.kind,.string o.data,.slice o.ea o.el o.ec,.int .i64 o.high] 108:=⟨_,rfl⟩;go_enter func149,ntmps149;go_wp2;rw[<-hB]
 go_loopw [5] (fun i wr=>∃k:Nat,k<=n/\i=.int .i64 k/\Below (w.alloc B).heap.size (w.alloc B) wr/\Hid (∀j (hj:j<ros.length),j<k->sameB ros[j] o=false)) (fun i _=>n-(intOf i).toNat)
 case atStart=>exact⟨0,zzF _,rfl,Below.refl _ _,fun j hj h=>by omega⟩
 case round=>
  obtain⟨k,hk,rfl,hb,HV⟩:=hrel;have hbw:Below w.heap.size w wr:=((Below.refl _ _).alloc (zzC _) B).trans (hb.mono (by simp));have hc0:=(h.below hbw).c0;rw[<-HN.out] at hc0;by_cases hlt:k<n
  ·have hk':k<ros.length:=by rw[<-HN.out];exact hlt
   obtain⟨g,hga,hgl,c0,c1,c2,c3⟩:=row_obs (h.below hbw).row rfl hk';rw[hga] at hc0;have bx:∀j,j<4->wr.cell? ⟨w.heap.size,j,none⟩=(oAgg o).cells[j]?:=by
    intro j hj;rw[hb.cell (p:=⟨w.heap.size,j,none⟩) (by simp)];subst hB
    match j,hj with
    | 0,_=>simp[oAgg,Value.cells]
    | 1,_=>simp[oAgg,Value.cells]
    | 2,_=>simp[oAgg,Value.cells]
    | 3,_=>simp[oAgg,Value.cells]
   have hl1:=ld4 wr g (k*4) ros[k] c0 c1 c2 c3;have hl2:=ld4 wr w.heap.size 0 o (bx 0 (by omega)) (bx 1 (by omega)) (bx 2 (by omega)) (bx 3 (by omega));have HL1:Hid ((loadVar 108 ⟨g,k*4,none⟩).run prog wr.drew=.ok (oAgg ros[k]) wr.drew):=ld4 wr.drew g (k*4) ros[k] c0 c1 c2 c3;have HL2:Hid ((loadVar 108 ⟨w.heap.size,0,none⟩).run prog wr.drew=.ok (oAgg o) wr.drew):=ld4 wr.drew w.heap.size 0 o (bx 0 (by omega)) (bx 1 (by omega)) (bx 2 (by omega)) (bx 3 (by omega));clear c0 c1 c2 c3 bx hl1 hl2;have hsame:=same_any ros[k] o wr.drew ((h.below (below_drewN hbw 1)).obs _ (zzJ hk')) (ho.below (below_drewN hbw 1));go_wp2;refine wp_region_still_tail 8 (by kernel_rfl) (by kernel_rfl) ?_;simp only[List.take_succ_cons,List.take_zero,List.drop_succ_cons,List.drop_zero]
   iterate 6 still_step
   refine wpStill_load_at rfl 108 _ rfl ⟨g,k*4,none⟩ rfl (oAgg ros[k]) HL1.out ?_
   go_frame
   refine wpStill_load_at rfl 108 _ rfl ⟨w.heap.size,0,none⟩ rfl (oAgg o) HL2.out ?_
   go_frame
   refine wpStill_nil ?_;cases hsb:sameB ros[k] o with
   | true=>
    have HS:Hid (sameB ros[k] o=true):=hsb;rw[hsb] at hsame;clear hsb;go_wp2_with fail;refine hsame.mono ?_;rintro e w1 ⟨rfl,hb1⟩;go_wp2;go_ret;refine⟨?_,hbw.trans ((below_drewN (Below.refl wr.heap.size wr) 1).trans hb1 |>.mono hbw.size)⟩;have e:findAt ros o=some k:=List.findIdx?_eq_some_iff_getElem.2 ⟨hk',HS.out,fun j hj=>by have:=HV.out j (by omega) hj;simp[this]⟩;rw[e];rfl
   | false=>
    have HS:Hid (sameB ros[k] o=false):=hsb;rw[hsb] at hsame;clear hsb;go_wp2_with fail;refine hsame.mono ?_;rintro e w1 ⟨rfl,hb1⟩;go_wp2;go_roundw
    case rel=>
     refine⟨k+1,by omega,by go_num,hb.trans ((below_drewN (Below.refl wr.heap.size wr) 1).trans hb1 |>.mono hb.size),?_⟩;intro j hj hjk;by_cases e:j=k
     ·subst e;exact HS.out
     ·exact HV.out j hj (by omega)
    case measure=>simp[intOf];omega
  ·go_wp2
   go_ret;refine⟨?_,hbw⟩;have e:findAt ros o=none:=List.findIdx?_eq_none_iff.2 fun x hx=>by
    obtain⟨j,hj,rfl⟩:=List.getElem_of_mem hx;exact HV.out j hj (by rw[<-HN.out] at hj;omega)
   rw[e];rfl
end Go.Proofs.YtlgidcmmgohagaaGreat
