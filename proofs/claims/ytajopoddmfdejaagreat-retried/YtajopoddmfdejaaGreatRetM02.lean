/-
  What is proved here: 'arrange' over every list of entries that lies in memory: its first error, or a new list by rising names. the listing of a directory as one value: its entries' cells, and nothing behind ..
-/
import Derived.Test.YtajopoddmfdejaaGreatRetM01
import Derived.Laws.CopyOwn
import Derived.DeepKeys4
namespace Go.Proofs.YtajopoddmfdejaaGreat
open Go.RowKit Go.Sort Go.Shelf
set_option linter.unusedVariables false
set_option maxRecDepth 100000
set_option maxHeartbeats 16000000
theorem bytes_eq {a b:ByteArray}(h:a.toList=b.toList):a=b:=by
 rw[ByteArray.toList_eq,ByteArray.toList_eq] at h
 cases a;cases b
 congr 1
 exact Array.toList_inj.1 h
theorem owns_cells {w:World}{base:Nat}{e:TypeId}{g n cap:Nat}{es:List Ent}(h:w.ownsRow base e 3 (.slice (some ⟨g,0,none⟩) n cap) n (flat es)):∀ j u,(flat es)[j]? = some u->w.cell? ⟨g,0+j,none⟩=some u:=by
 intro j u hu
 rcases h.2 with ⟨h0,_⟩ | ⟨g',cap',cur,hv,_,hg,_,_,_,ht⟩
 ·cases h0
 ·cases hv
  rw[<- ht] at hu
  have hj:j<n*3:=by
   have:=(List.getElem?_eq_some_iff.1 hu).1
   simp at this;omega
  rw[List.getElem?_take_of_lt hj,Array.getElem?_toList] at hu
  simp[World.cell?,hg,hu]
theorem owns_frozen {w:World}{base:Nat}{e:TypeId}{g n cap size:Nat}{xs:List Value}(h:w.ownsRow base e size (.slice (some ⟨g,0,none⟩) n cap) n xs)(j:Nat):w.frozen? ⟨g,j,none⟩=false:=by
 rcases h.2 with ⟨h0,_⟩ | ⟨g',cap',cur,hv,_,hg,_⟩
 ·cases h0
 ·cases hv
  simp[World.frozen?,hg]
theorem arrange_some (b off n cap:Nat)(es:List Ent)(w:World)(hl:es.length=n)(hbl:b<w.heap.size)(hbig:n*32<=140737488355328)(hc:∀ j u,(flat es)[j]? = some u->w.cell? ⟨b,off+j,none⟩=some u)
  (hsz:∀ e ∈ es,e.1.size<=maxLen):
  Calls Tryz.prog 68 #[.slice (some ⟨b,off,none⟩) n cap] w fun e w'=>Arranged w w' es n e:=by
 have HC:Hid (∀ j u,(flat es)[j]? = some u->w.cell? ⟨b,off+j,none⟩=some u):=hc
 have HS:Hid (∀ e ∈ es,e.1.size<=maxLen):=hsz
 have HL:Hid (es.length=n):=hl
 clear hc hsz hl
 go_enter Tryz.func68,Tryz.ntmps68
 go_wp2
 go_loopw [11] (fun i wr=>∃ k:Nat,k<=n/\i=.int .i64 k/\Below w.heap.size w wr/\Hid (∀ j (hj:j<es.length),j<k->validB es[j].1=true)) (fun i _=>n-(intOf i).toNat)
 case atStart=>exact⟨0,Nat.zero_le _,rfl,Below.refl _ _,fun j hj h=>by omega⟩
 case round=>
  obtain⟨k,hk,rfl,hb,HV⟩:=hrel
  by_cases hlt:k<n
  ·have hk':k<es.length:=by rw[HL.out];exact hlt
   obtain⟨c0,c1,c2⟩:=row_cells HC.out hk'
   have d0:=(hb.cell (p:=⟨b,off+k*3,none⟩) hbl).trans c0
   have d1:=(hb.cell (p:=⟨b,off+k*3+1,none⟩) hbl).trans c1
   have d2:=(hb.cell (p:=⟨b,off+k*3+2,none⟩) hbl).trans c2
   have hv:=fun W=>valid_any es[k].1 W (HS.out es[k] (List.getElem_mem hk'))
   cases hvb:validB es[k].1 with
   | false=>
    have HVB:Hid (validB es[k].1=false):=hvb
    rw[hvb] at hv
    clear hvb
    go_wp2_with (go_at_call 73;refine (hv _).mono ?_;rintro e w' ⟨rfl,rfl⟩)
    go_ret2
    exact⟨hb.alloc hb.size _,.inl ⟨⟨es[k],List.getElem_mem hk',HVB.out⟩,rfl⟩⟩
   | true=>
    have HVB:Hid (validB es[k].1=true):=hvb
    rw[hvb] at hv
    clear hvb
    go_wp2_with (go_at_call 73;refine (hv _).mono ?_;rintro e w' ⟨rfl,rfl⟩)
    go_roundw
    case rel=>
     refine⟨k+1,by omega,by go_num,hb.alloc hb.size _,?_⟩
     intro j hj hjk
     by_cases e:j=k
     ·subst e;exact HVB.out
     ·exact HV.out j hj (by omega)
    case measure=>simp[intOf];omega
  ·have hkn:k=n:=by omega
   have HVA:Hid (∀ x ∈ es,validB x.1=true):=by
    intro x hx
    obtain⟨j,hj,rfl⟩:=List.getElem_of_mem hx
    exact HV.out j hj (by rw[hkn,<- HL.out];exact hj)
   have hcl:=cloneE_any b off n cap es wr HL.out hbig (fun j u h=>(hb.cell (p:=⟨b,off+j,none⟩) hbl).trans (HC.out j u h))
   go_wp2_with fail
   refine hcl.mono ?_
   rintro e w1 ⟨v1,rfl,hown1,hnn,hb1⟩
   have hex:∃ g cap' cur,v1=.slice (some ⟨g,0,none⟩) n cap'/\wr.heap.size<=g/\w1.heap[g]? = some (.cells cur 76 (0,0))/\n<=cap'/\cap'<=maxLen/\cur.size=cap'*3/\cur.toList.take (n*3)=flat es:=by
    rcases hown1.2 with ⟨h,_⟩ | ⟨g,cap',cur,h,h2,h3,h4,h5,h6,h7⟩
    ·exact absurd h hnn
    ·exact⟨g,cap',cur,h,h2,h3,h4,h5,h6,h7⟩
   obtain⟨g,cap',cur,hv1,hg1,hg2,hg3,hg4,hg5,hg6⟩:=hex
   rw[hv1]
   clear hcl hown1 hnn hv1
   have hH:=holdsK_of_row (es:=es) hg2 (by rw[HL.out];exact hg6)
   have hso:=sort_any g cap' es.toArray w1 hH (Array.getElem?_eq_some_iff.1 hg2).1 (by simp only[List.size_toArray];rw[HL.out];omega)
   rw[show es.toArray.size=n by simp only[List.size_toArray];exact HL.out] at hso
   go_wp2_with fail
   refine hso.mono ?_
   rintro e w2 ⟨rfl,d',nn,os,hperm,hsort,hw2⟩
   have hds:d'.size=n:=by have:=hperm.1;simp only[List.size_toArray] at this;rw[this];exact HL.out
   have hown2:w2.ownsRow w.heap.size 76 3 (.slice (some ⟨g,0,none⟩) n cap') n (flat d'.toList):=by
    rw[hw2];exact ownsRow_sortedK hds (Nat.le_trans hb.size hg1) hg2 hg3 hg4 hg5
   have hb2:Below w.heap.size w w2:=by
    rw[hw2];exact ((hb.trans (hb1.mono hb.size)).grown (grownBy_sortedK d') (Nat.le_trans hb.size hb1.size) (fun k h=>by cases h;exact Nat.le_trans hb.size hg1))
   obtain⟨es',hes'⟩:∃ es',es'=d'.toList:=⟨_,rfl⟩
   have HP:Hid (es'.Perm es):=by
    rw[hes'];exact perm_of es d' (by simpa only[List.size_toArray,HL.out] using hperm)
   have HL':Hid (es'.length=n):=by rw[hes',Array.length_toList];exact hds
   have HR:Hid ((∀ j (hj:j<es'.length),1<=j->es'[j].1≠(es'[j-1]'(by omega)).1)->Rising es'):=by
    subst hes';exact rising_of d' (by rw[hds];exact hsort)
   rw[<- hes'] at hown2
   clear hso hperm hsort hw2 hH hg2 hg6 hb1 hg1 hg3 hg4 hg5 hds hes' hkn HV HC
   go_wp2
   go_loopw [7] (fun i wq=>∃ m:Nat,i=.int .i64 ((m:Int)+1)/\m<=n/\Below w.heap.size w wq/\wq.ownsRow w.heap.size 76 3 (.slice (some ⟨g,0,none⟩) n cap') n (flat es')/\Hid (∀ j (hj:j<es'.length),1<=j->j<m+1->es'[j].1≠(es'[j-1]'(by omega)).1)) (fun i _=>n-(intOf i).toNat)
   case atStart=>exact⟨0,by go_num,Nat.zero_le _,hb2,hown2,fun j hj h1 h2=>by omega⟩
   case round=>
    obtain⟨m,rfl,hmn,hbq,hownq,HD⟩:=hrel
    by_cases hlt2:m+1<n
    ·have hm1:m+1<es'.length:=by rw[HL'.out];exact hlt2
     have hm0:m<es'.length:=by omega
     obtain⟨c0,_,_⟩:=row_cells (off:=0) (owns_cells hownq) hm1
     obtain⟨e0,_,_⟩:=row_cells (off:=0) (owns_cells hownq) hm0
     rw[Nat.zero_add] at c0 e0
     have a1:((m:Int)+1-1)=m:=by omega
     have a2:((m:Int)+1)<n:=by omega
     cases hnm:es'[m+1].1.toList == es'[m].1.toList with
     | true=>
      have HN:Hid ((es'[m+1].1.toList == es'[m].1.toList)=true):=hnm
      go_wp2
      go_quiet (fail)
      go_wp2
      go_ret2
      refine⟨below_drewN hbq _,.inr (.inl ⟨HVA.out,?_,rfl⟩)⟩
      intro hnd
      have hnd':=(HP.out.map (·.1)).nodup_iff.2 hnd
      have hne:=List.pairwise_iff_getElem.1 hnd' m (m+1) (by simpa using hm0) (by simpa using hm1) (by omega)
      simp only[List.getElem_map] at hne
      exact hne (bytes_eq (by simpa using HN.out)).symm
     | false=>
      have HN:Hid ((es'[m+1].1.toList == es'[m].1.toList)=false):=hnm
      go_wp2
      go_quiet (fail)
      go_wp2
      go_roundw
      case rel=>
       refine⟨m+1,by go_num,by omega,below_drewN hbq _,hownq,?_⟩
       intro j hj h1 h2
       by_cases e:j=m+1
       ·subst e
        intro h
        have hn:=HN.out
        rw[h] at hn
        simp at hn
       ·exact HD.out j hj h1 (by omega)
      case measure=>simp[intOf];omega
    ·have HRis:Hid (Rising es'):=HR.out (fun j hj h1=>HD.out j hj h1 (by rw[HL'.out] at hj;omega))
     have HND:Hid ((es.map (·.1)).Nodup):=(List.Perm.nodup_iff (HP.out.map (fun x:Ent=>x.1))).1 (nodup_of_rising HRis.out)
     clear HD HR
     by_cases h16:16<n
     ·have h16':(16:Int)<n:=by omega
      go_wp2
      go_ret2
      exact⟨hbq,.inr (.inr (.inl ⟨HVA.out,HND.out,by rw[HL.out];exact h16,rfl⟩))⟩
     ·have h16':¬ ((16:Int)<n):=by omega
      go_wp2
      go_loopw [47] (fun i wq=>∃ m:Nat,i=.int .i64 (m:Int)/\m<=n/\Below w.heap.size w wq/\wq.ownsRow w.heap.size 76 3 (.slice (some ⟨g,0,none⟩) n cap') n (flat es')) (fun i _=>n-(intOf i).toNat)
      case atStart=>exact⟨0,rfl,Nat.zero_le _,hbq,hownq⟩
      case round=>
       obtain⟨q,rfl,hqn,hbz,hownz⟩:=hrel
       by_cases hlt3:q<n
       ·have hq0:q<es'.length:=by rw[HL'.out];exact hlt3
        obtain⟨c0,_,_⟩:=row_cells (off:=0) (owns_cells hownz) hq0
        rw[Nat.zero_add] at c0
        have hsq:=(valid_size (HVA.out _ (HP.out.mem_iff.1 (List.getElem_mem hq0)))).2
        have hcq:=clone_any es'[q].1 wr (by omega)
        have hgl:g<wr.heap.size:=ownsRow_lt hownz rfl
        have hfz:=owns_frozen hownz (q*3)
        go_wp2_with (go_at_call 74;refine hcq.mono ?_;rintro e w3 ⟨rfl,hb3⟩;have c1:=(hb3.cell (p:=⟨g,q*3,none⟩) hgl).trans c0;have f1:=(hb3.frozen (p:=⟨g,q*3,none⟩) hgl).trans hfz)
        go_roundw
        case rel=>
         refine⟨q+1,by go_num,by omega,?_,?_⟩
         ·rw[setCell_self c1];exact hbz.trans (hb3.mono hbz.size)
         ·rw[setCell_self c1];exact ownsRow_keep hownz (fun g' hg'=>hb3.block g' (ownsRow_lt hownz hg'))
        case measure=>simp[intOf];omega
       ·go_wp2
        go_ret2
        exact⟨hbz,.inr (.inr (.inr ⟨HVA.out,HND.out,by rw[HL.out];omega,es',_,cap',rfl,HP.out,HRis.out,hownz⟩))⟩
theorem run_copyK {P:Program}(w:World)(dT sT ty elem:TypeId)(size g o dLen dCap:Nat)(a:Addr)(sLen sCap:Nat)(cur:Array Value)(t:TypeId)(cs:List Value)
  (hu:P.underlying dT=some (.slice elem))(hs:(P.info? elem).map (·.size)=some size)
  (hg:w.heap[g]? = some (.cells cur t (0,0)))(hn:cs.length=Nat.min sLen dLen*size)
  (hsrc:∀ j v,cs[j]? = some v->w.cell? (a.add j)=some v)(hfit:o+cs.length<=cur.size)(h1:∀ v ∈ cs,v.oneCell'=true):
  (Builtin.copy_ #[dT,sT] ty #[.slice (some ⟨g,o,none⟩) dLen dCap,.slice (some a) sLen sCap]).run P w =
   .ok (goInt (Nat.min sLen dLen)) (w.setRow g (cur.toList.take o++cs++cur.toList.drop (o+cs.length)).toArray):=by
 have hl:=run_loadCells_list (P:=P) w a cs hsrc
 have hst:=run_storeCells_at P g o t cs 0 cur w hg (by simpa using hfit) h1
 cases hq:P.info? elem with
 | none=>simp[hq] at hs
 | some i=>
  have hi:i.size=size:=by simpa [hq] using hs
  simp[Builtin.copy_,run_underlying hu,Builtin.lenOf,Builtin.firstCells,sizeOf,typeInfo,hq,hi,<- hn,hl,hst]
theorem wpList_copyK {P:Program}{w:World}{ops:Array Oper}{rest:List Oper}{o:Oper}{a:Act}{Q:Exit->Act->World->Prop}(hgd:o.guard=none)(d s:Operand)(dT sT:TypeId)
  (ho:o.op=.call { callee:=.builtin .copy,args:=#[d,s],argTypes:=#[dT,sT] })(elem:TypeId)(hu:P.underlying dT=some (.slice elem))(size:Nat)(hsz:(P.info? elem).map (·.size)=some size)
  (g off dLen dCap:Nat)(ad:Addr)(sLen sCap:Nat)(hd:a.eval d=.slice (some ⟨g,off,none⟩) dLen dCap)(hs:a.eval s=.slice (some ad) sLen sCap)
  (cur:Array Value)(t:TypeId)(hg:w.heap[g]? = some (.cells cur t (0,0)))(cs:List Value)(hn:cs.length=Nat.min sLen dLen*size)
  (hsrc:∀ j v,cs[j]? = some v->w.cell? (ad.add j)=some v)(hfit:off+cs.length<=cur.size)(h1:∀ v ∈ cs,v.oneCell'=true)
  (new:Array Value)(hnew:new.toList=cur.toList.take off++cs++cur.toList.drop (off+cs.length))
  (h:∀ w',Hid (w'.heap[g]? = some (.cells new t (0,0)))->w.grownBy w' (some g)->wpList P ops Q rest (a.put o.dst (goInt (Nat.min sLen dLen))) w'):wpList P ops Q (o :: rest) a w:=by
 refine wpList_plain hgd fun K hK=>?_
 have hrun:=run_copyK (P:=P) w dT sT o.type elem size g off dLen dCap ad sLen sCap cur t cs hu hsz hg hn hsrc hfit h1
 rw[<- hnew,Array.toArray_toList] at hrun
 unfold Oper.wp
 simp[execOp,ho,resolve,invoke,builtin,hd,hs,hrun,Result.andThen]
 exact hK _ _ (h _ (setRow_heap w g _ _ t _ hg) ⟨rfl,rfl,rfl,by simp,fun k hk hne=>setRow_other w g k _ (fun e=>hne (by rw[e]))⟩)
def zeroL:List Value:=(List.replicate 16 (encE (ByteArray.empty,0,0))).flatten
theorem zeroL_len:zeroL.length=48:=by decide
theorem zeroL_one:∀ v ∈ zeroL,v.oneCell'=true:=by
 intro v hv
 obtain⟨l,hl,h⟩:=List.mem_flatten.1 hv
 rw[(List.mem_replicate.1 hl).2] at h
 exact encE_one _ v h
def listing (es:List Ent):Array Value:=(flat es++zeroL.drop (es.length*3)).toArray
theorem listing_size {es:List Ent}(h:es.length<=16):(listing es).size=48:=by
 simp only[listing,List.size_toArray,List.length_append,flat_len,List.length_drop,zeroL_len];omega
theorem listing_one (es:List Ent):(listing es).all (·.oneCell')=true:=by
 rw[Array.all_eq_true']
 intro v hv
 simp only[listing,List.mem_toArray,List.mem_append] at hv
 rcases hv with h | h
 ·exact flat_one es v h
 ·exact zeroL_one v (List.mem_of_mem_drop h)
theorem info58:(Tryz.prog.info? 140).map (·.size)=some 48:=by kernel_rfl
theorem info34s:(Tryz.prog.info? 76).map (·.size)=some 3:=by kernel_rfl
theorem listing_some (g n cap:Nat)(es:List Ent)(w:World)(hl:es.length=n)(hgl:g<w.heap.size)(h16:n<=16)(hc:∀ j u,(flat es)[j]? = some u->w.cell? ⟨g,0+j,none⟩=some u):
  Calls Tryz.prog 70 #[.slice (some ⟨g,0,none⟩) n cap] w fun e w'=>e=.returned (.agg (listing es))/\Below w.heap.size w w':=by
 have HC:Hid (∀ j u,(flat es)[j]? = some u->w.cell? ⟨g,0+j,none⟩=some u):=hc
 have HL:Hid (es.length=n):=hl
 have HM:Hid (Nat.min n 16=n):=Nat.min_eq_left h16
 have HZ:Hid ((listing es).size=48):=listing_size (by omega)
 have HSRC:Hid (∀ A B j v,(flat es)[j]? = some v->((w.alloc A).alloc B).cell? ((⟨g,0,none⟩:Addr).add j)=some v):=by
  intro A B j v h
  have h1:=hc j v h
  have h2:(⟨g,0,none⟩:Addr).add j=⟨g,0+j,none⟩:=by unfold Addr.add;split <;> simp_all
  rw[h2,World.cell?_alloc_past _ _ _ (by simp;omega),World.cell?_alloc_past _ _ _ hgl,h1]
 have HNEW:Hid ((listing es).toList=zeroL.take 0++flat es++zeroL.drop (0+(flat es).length)):=by
  show (listing es).toList=_
  simp only[listing,List.take_zero,List.nil_append,Nat.zero_add,flat_len]
 have HN:Hid ((flat es).length=Nat.min n 16*3):=by
  show (flat es).length=_
  rw[flat_len,hl,HM.out]
 have HF:Hid (0+(flat es).length<=48):=by
  show 0+(flat es).length<=48
  rw[flat_len,hl];omega
 clear hc hl
 go_enter Tryz.func70,Tryz.ntmps70
 go_wp2_with (first
  | (refine wpList_copyK rfl (.tmp 4) (.tmp 5) 72 72 rfl 76 Tryz.underlying72 3 info34s (w.heap.size+1) 0 16 16 ⟨g,0,none⟩ n cap rfl rfl _ 140 (heap_alloc2_new _ _ _) (flat es) ?_ ?_ ?_ (flat_one es) (listing es) ?_ ?_;go_must (exact HN.out);go_must (exact HSRC.out _ _);go_must (exact HF.out);go_must (exact HNEW.out);intro w1 H1 hg1)
  | (refine wpList_load_row rfl 140 _ rfl (w.heap.size+1) rfl 140 (listing es) (0,0) _ H1.out Tryz.underlying140 rfl (by rw[HZ.out];exact info58) ?_)
  | (refine wpList_store_row rfl 140 _ _ rfl w.heap.size (listing es) rfl rfl 140 _ ((hg1.block w.heap.size (by simp;omega) (by simp)).trans (heap_alloc2_old _ _ _)) (by rw[HZ.out];exact info58) (by rw[HZ.out];rfl) (listing_one es) ?_)
  | go_in)
 have h0:(w1.setRow w.heap.size (listing es)).heap[w.heap.size]? = some (.cells (listing es) 140 (0,0)):=setRow_heap w1 w.heap.size _ _ 140 (0,0) ((hg1.block w.heap.size (by simp;omega) (by simp)).trans (heap_alloc2_old _ _ _))
 refine bodyPost_ret (v:=.agg (listing es)) (results_cell_row Tryz.results70 _ _ w.heap.size 140 (listing es) (0,0) _ rfl h0 Tryz.underlying140 rfl (by rw[HZ.out];exact info58)) rfl ⟨rfl,?_⟩
 have hb1:Below w.heap.size w w1:=(((Below.refl _ _).alloc (Nat.le_refl _) _).alloc (by simp) _).grown hg1 (by simp;omega) (fun k h=>by cases h;omega)
 exact below_setRow hb1 (Nat.le_refl _) _
theorem laidOut:laidOutB Tryz.prog=true:=by kernel_rfl
theorem row58:140<Tryz.prog.types.size:=of_decide_eq_true (by kernel_rfl)
theorem law58:Maps.Keyed Tryz.prog 140:=Maps.Keyed.of_law (deep_law_laid laidOut (m:=9) (by omega) row58 (by kernel_rfl) (by rw[Tryz.underlying140]))
theorem cells58:Tryz.prog.cellsOf 140=48:=by kernel_rfl
theorem cells34:Tryz.prog.cellsOf 76=3:=by kernel_rfl
theorem cells9:Tryz.prog.cellsOf 9=1:=by kernel_rfl
theorem cells3:Tryz.prog.cellsOf 3=1:=by kernel_rfl
theorem cells25:Tryz.prog.cellsOf 26=1:=by kernel_rfl
theorem keyT58:Tryz.prog.keyType 140=true:=by kernel_rfl
def Fits (e:Ent):Prop:=e.1.size<=maxLen/\(Lit.int .i64 e.2.1).wf=true/\(Lit.int .i64 e.2.2).wf=true
theorem lits34 (d:Nat)(e:Ent)(h:Fits e):∃ ls,Tryz.prog.keyLits (d+2) 76 (encE e)=some ls:=by
 obtain⟨h1,h2,h3⟩:=h
 have a1:Tryz.prog.keyLits (d+1) 9 [.string e.1]=some [.string e.1.data.toList]:=by unfold Program.keyLits;simp[Tryz.underlying9,h1]
 have a2:Tryz.prog.keyLits (d+1) 3 [.int .i64 e.2.1]=some [.int .i64 e.2.1]:=by unfold Program.keyLits;simp[Tryz.underlying3,h2]
 have a3:Tryz.prog.keyLits (d+1) 26 [.int .i64 e.2.2]=some [.int .i64 e.2.2]:=by unfold Program.keyLits;simp[Tryz.underlying26,h3]
 unfold Program.keyLits
 simp[Tryz.underlying76,encE,cells34,cells9,cells3,cells25,a1,a2,a3]
theorem mapM_some {α β:Type}(f:α->Option β):∀ l:List α,(∀ x ∈ l,∃ y,f x=some y)->∃ ys,l.mapM f=some ys
 | [],_=>⟨[],rfl⟩
 | x :: r,h=>by
  obtain⟨y,hy⟩:=h x (by simp)
  obtain⟨ys,hys⟩:=mapM_some f r (fun z hz=>h z (by simp[hz]))
  exact⟨y :: ys,by simp[List.mapM_cons,hy,hys]⟩
theorem listing_place (es:List Ent)(h16:es.length<=16)(i:Nat)(hi:i<16):((listing es).toList.drop (i*3)).take 3=encE ((es[i]?).getD (ByteArray.empty,0,0)):=by
 have hfl:=flat_len es
 apply List.ext_getElem?
 intro j
 by_cases hj:j<3
 ·rw[List.getElem?_take_of_lt hj,List.getElem?_drop]
  simp only[listing]
  by_cases hi2:i<es.length
  ·rw[List.getElem?_append_left (by rw[hfl];omega),flat_get es i j hi2 hj,List.getElem?_eq_getElem hi2];rfl
  ·rw[List.getElem?_append_right (by rw[hfl];omega),List.getElem?_drop,hfl,List.getElem?_eq_none (l:=es) (by omega)]
   have e1:es.length*3+(i*3+j-es.length*3)=i*3+j:=by omega
   rw[e1]
   have hz:=flat_get (List.replicate 16 (ByteArray.empty,0,0)) i j (by simp;omega) hj
   rw[List.getElem_replicate] at hz
   exact hz
 ·rw[List.getElem?_take_eq_none (by omega),List.getElem?_eq_none (by rw[encE_len];omega)]
theorem lits58 (d:Nat)(es:List Ent)(h16:es.length<=16)(hf:∀ e ∈ es,Fits e):∃ ls,Tryz.prog.keyLits (d+3) 140 (listing es).toList=some ls:=by
 have hl:(listing es).toList.length=48:=by simp[listing_size h16]
 obtain⟨ys,hys⟩:=mapM_some (fun i=>Tryz.prog.keyLits (d+2) 76 (((listing es).toList.drop (i*3)).take 3)) (List.range 16) (by
  intro i hi
  rw[List.mem_range] at hi
  rw[listing_place es h16 i hi]
  refine lits34 d _ ?_
  by_cases h:i<es.length
  ·rw[List.getElem?_eq_getElem h];exact hf _ (List.getElem_mem h)
  ·rw[List.getElem?_eq_none (by omega)];exact⟨by decide,by decide,by decide⟩)
 refine⟨ys.flatten,?_⟩
 unfold Program.keyLits
 simp only[Tryz.underlying140,cells58,hl,if_true,cells34,hys,Option.map_some]
def keyFor (P:Program)(es:List Ent):Lit:=(keyOf P 140 (.agg (listing es))).getD .nil
theorem keyOf_listing (es:List Ent)(h16:es.length<=16)(hf:∀ e ∈ es,Fits e):keyOf Tryz.prog 140 (.agg (listing es))=some (keyFor Tryz.prog es):=by
 have hx:∃ k,keyOf Tryz.prog 140 (.agg (listing es))=some k:=by
  have hfo:Value.formed Tryz.prog 140 (.agg (listing es))=true:=by
   unfold Value.formed
   rw[Tryz.underlying140]
   simp[cells58,listing_size h16]
  obtain⟨n,hn⟩:∃ n,Tryz.prog.types.size+1=n+3:=⟨Tryz.prog.types.size-2,by have:=row58;omega⟩
  obtain⟨ls,hls⟩:=lits58 n es h16 hf
  unfold keyOf
  rw[Tryz.underlying140]
  simp only[keyT58,hfo,Bool.and_self,if_true,Value.cells,hn,hls,Option.map_some]
  exact⟨_,rfl⟩
 obtain⟨k,hk⟩:=hx
 unfold keyFor
 rw[hk];rfl
theorem listing_inj {es fs:List Ent}(h1:es.length<=16)(h2:fs.length<=16)(n1:∀ e ∈ es,1<=e.1.size)(n2:∀ e ∈ fs,1<=e.1.size)(h:listing es=listing fs):es=fs:=by
 have key:∀ i,i<16->(es[i]?).getD (ByteArray.empty,0,0)=(fs[i]?).getD (ByteArray.empty,0,0):=by
  intro i hi
  have a:=listing_place es h1 i hi
  rw[h,listing_place fs h2 i hi] at a
  simp only[encE,List.cons.injEq,Value.string.injEq,Value.int.injEq,true_and,and_true] at a
  exact (Prod.ext a.1 (Prod.ext a.2.1 a.2.2)).symm
 have e0:ByteArray.empty.size=0:=rfl
 apply List.ext_getElem?
 intro i
 by_cases hi:i<16
 ·have k:=key i hi
  cases ha:es[i]? with
  | none=>
   cases hb:fs[i]? with
   | none=>rfl
   | some y=>
    rw[ha,hb] at k
    simp only[Option.getD_none,Option.getD_some] at k
    have:=n2 y (List.mem_of_getElem? hb)
    rw[<- k,e0] at this;omega
  | some x=>
   cases hb:fs[i]? with
   | none=>
    rw[ha,hb] at k
    simp only[Option.getD_none,Option.getD_some] at k
    have:=n1 x (List.mem_of_getElem? ha)
    rw[k,e0] at this;omega
   | some y=>
    rw[ha,hb] at k
    simp only[Option.getD_some] at k
    rw[k]
 ·rw[List.getElem?_eq_none (by omega),List.getElem?_eq_none (by omega)]
theorem keyFor_inj {es fs:List Ent}(h1:es.length<=16)(h2:fs.length<=16)(f1:∀ e ∈ es,Fits e)(f2:∀ e ∈ fs,Fits e)(n1:∀ e ∈ es,1<=e.1.size)(n2:∀ e ∈ fs,1<=e.1.size)
  (h:keyFor Tryz.prog es=keyFor Tryz.prog fs):es=fs:=by
 have a:=keyOf_listing es h1 f1
 have b:=keyOf_listing fs h2 f2
 rw[<- h] at b
 have:=law58.inj a b
 exact listing_inj h1 h2 n1 n2 (by simpa using this)
variable {ft:PTail}
structure Ob where
 kind:Int
 data:ByteArray
 ea:Option Addr
 el:Nat
 ec:Nat
 ents:List Ent
 high:Int
def Ob.cells (o:Ob):List Value:=[.int .i64 o.kind,.string o.data,.slice o.ea o.el o.ec,.int .i64 o.high]
def obCells (objs:List Ob):List Value:=objs.flatMap Ob.cells
theorem obCells_get:∀ (es:List Ob) (i j:Nat) (hi:i<es.length),j<4->(obCells es)[i*4+j]? = (es[i].cells)[j]?
 | [],i,j,hi,_=>by simp at hi
 | e :: r,0,j,_,hj=>by
  simp only[obCells,List.flatMap_cons,Nat.zero_mul,Nat.zero_add,List.getElem_cons_zero]
  rw[List.getElem?_append_left (by simpa [Ob.cells] using hj)]
 | e :: r,i+1,j,hi,hj=>by
  have ih:=obCells_get r i j (by simpa using hi) hj
  have h4:e.cells.length=4:=rfl
  simp only[obCells,List.flatMap_cons,List.getElem_cons_succ] at ih ⊢
  rw[List.getElem?_append_right (by rw[h4];omega),h4,<- ih]
  congr 1;omega
structure Pooled (ft:PTail)(w:World)(p:Nat)(a:Option Addr)(n cap bf bd:Nat)(objs:List Ob):Prop where
 at_:PoolAt ft w p a n cap bf bd
 row:w.ownsRow 0 145 4 (.slice a n cap) n (obCells objs)
 len:objs.length=n
 many:n<=400
theorem Pooled.below {w w':World}{p:Nat}{a:Option Addr}{n cap bf bd:Nat}{objs:List Ob}(h:Pooled ft w p a n cap bf bd objs)(hb:Below w.heap.size w w'):Pooled ft w' p a n cap bf bd objs:=
 ⟨h.at_.below hb,ownsRow_keep h.row (fun g hg=>hb.block g (ownsRow_lt h.row hg)),h.len,h.many⟩
theorem Pooled.cells {w:World}{p:Nat}{a:Option Addr}{n cap bf bd:Nat}{objs:List Ob}(h:Pooled ft w p a n cap bf bd objs){i:Nat}(hi:i<objs.length):
  ∃ g,a=some ⟨g,0,none⟩/\g<w.heap.size/\w.cell? ⟨g,i*4,none⟩=some (.int .i64 objs[i].kind)/\w.cell? ⟨g,i*4+1,none⟩=some (.string objs[i].data)/\
   w.cell? ⟨g,i*4+2,none⟩=some (.slice objs[i].ea objs[i].el objs[i].ec)/\w.cell? ⟨g,i*4+3,none⟩=some (.int .i64 objs[i].high):=by
 have hn:i<n:=by rw[<- h.len];exact hi
 rcases h.row.2 with ⟨_,h0⟩ | ⟨g,cap',cur,hv,_,hg,_,_,hcur,ht⟩
 ·omega
 ·cases hv
  have key:∀ j u,j<4->(objs[i].cells)[j]? = some u->w.cell? ⟨g,i*4+j,none⟩=some u:=by
   intro j u hj hu
   rw[<- obCells_get objs i j hi hj,<- ht,List.getElem?_take_of_lt (by omega),Array.getElem?_toList] at hu
   simp[World.cell?,hg,hu]
  exact⟨g,rfl,(Array.getElem?_eq_some_iff.1 hg).1,key 0 _ (by omega) rfl,key 1 _ (by omega) rfl,key 2 _ (by omega) rfl,key 3 _ (by omega) rfl⟩
def kindOf (objs:List Ob)(id:Int):Int:=if 1<=id then ((objs[(id-1).toNat]?).map (·.kind)).getD 0 else 0
def highOf (objs:List Ob)(id:Int):Int:=((objs[(id-1).toNat]?).map (·.high)).getD 0
theorem kindOf_in {objs:List Ob}{j:Nat}(hj:j<objs.length):kindOf objs ((j:Int)+1)=objs[j].kind:=by
 unfold kindOf
 rw[if_pos (by omega),show ((j:Int)+1-1).toNat=j by omega,List.getElem?_eq_getElem hj];rfl
theorem highOf_in {objs:List Ob}{j:Nat}(hj:j<objs.length):highOf objs ((j:Int)+1)=objs[j].high:=by
 unfold highOf
 rw[show ((j:Int)+1-1).toNat=j by omega,List.getElem?_eq_getElem hj];rfl
theorem kindOf_out {objs:List Ob}{id:Int}(h:id<1\/(objs.length:Int)<id):kindOf objs id=0:=by
 unfold kindOf
 rcases h with h | h
 ·rw[if_neg (by omega)]
 ·rw[if_pos (by omega),List.getElem?_eq_none (by omega)];rfl
theorem kind_any (p:Nat)(a:Option Addr)(n cap bf bd:Nat)(objs:List Ob)(id:Int)(w:World)(h:Pooled ft w p a n cap bf bd objs):
  Calls Tryz.prog 61 #[.pointer (some ⟨p,0,none⟩),.int .i64 id] w fun e w'=>e=.returned (.int .i64 (kindOf objs id))/\Below w.heap.size w w':=by
 by_cases hid:id<1\/(n:Int)<id
 ·rw[kindOf_out (by rw[h.len];exact hid)]
  exact (kind_none p n cap a id w h.at_.c0 h.many hid).mono fun e w' ⟨he,hw⟩=>⟨he,by rw[hw];exact Below.refl _ _⟩
 ·obtain⟨j,rfl⟩:∃ j:Nat,id=(j:Int)+1:=⟨(id-1).toNat,by omega⟩
  have hj:j<objs.length:=by rw[h.len];omega
  obtain⟨g,rfl,hg,c0,c1,c2,c3⟩:=h.cells hj
  rw[kindOf_in hj]
  exact (kind_some p g n cap j _ _ _ _ _ _ w h.at_.lt hg h.at_.c0 (by omega) h.many c0 c1 c2 c3).mono fun e w' ⟨he,hw⟩=>⟨he,by rw[hw];exact (Below.refl _ _).alloc (Nat.le_refl _) _⟩
theorem at_in (p:Nat)(a:Option Addr)(n cap bf bd:Nat)(objs:List Ob)(j:Nat)(hj:j<objs.length)(w:World)(h:Pooled ft w p a n cap bf bd objs):
  Calls Tryz.prog 102 #[.pointer (some ⟨p,0,none⟩),.int .i64 ((j:Int)+1)] w fun e w'=>e=.returned (.agg #[.int .i64 objs[j].kind,.string objs[j].data,.slice objs[j].ea objs[j].el objs[j].ec,.int .i64 objs[j].high])/\Below w.heap.size w w':=by
 obtain⟨g,rfl,hg,c0,c1,c2,c3⟩:=h.cells hj
 exact (at_any p g n cap j _ _ _ _ _ _ w h.at_.lt hg h.at_.c0 (by rw[<- h.len];exact hj) h.many c0 c1 c2 c3).mono fun e w' ⟨he,hw⟩=>⟨he,by rw[hw];exact (Below.refl _ _).alloc (Nat.le_refl _) _⟩
theorem height_in (p:Nat)(a:Option Addr)(n cap bf bd:Nat)(objs:List Ob)(j:Nat)(hj:j<objs.length)(w:World)(h:Pooled ft w p a n cap bf bd objs):
  Calls Tryz.prog 114 #[.pointer (some ⟨p,0,none⟩),.int .i64 ((j:Int)+1)] w fun e w'=>e=.returned (.int .i64 objs[j].high)/\Below w.heap.size w w':=by
 have hcon:=at_in p a n cap bf bd objs j hj w h
 have f3:=fld3
 go_enter Tryz.func114,Tryz.ntmps114
 go_wp2_with (go_at_call 102;refine hcon.mono ?_;rintro e w' ⟨rfl,hb⟩)
 go_ret
 exact⟨rfl,hb⟩
theorem file_any (p:Nat)(a:Option Addr)(n cap bf bd:Nat)(objs:List Ob)(id:Int)(w:World)(h:Pooled ft w p a n cap bf bd objs):
  Calls Tryz.prog 58 #[.pointer (some ⟨p,0,none⟩),.int .i64 id] w fun e w'=>Below w.heap.size w w'/\
   ((kindOf objs id≠1/\e=.returned (.tuple #[.string ByteArray.empty,.int .i64 13]))\/∃ j,∃ hj:j<objs.length,id=(j:Int)+1/\objs[j].kind=1/\e=.returned (.tuple #[.string objs[j].data,.int .i64 0])):=by
 by_cases hid:id<1\/(n:Int)<id
 ·exact (file_not p n cap a id w h.at_.c0 h.many hid).mono fun e w' ⟨he,hw⟩=>⟨by rw[hw];exact Below.refl _ _,.inl ⟨by rw[kindOf_out (by rw[h.len];exact hid)];decide,he⟩⟩
 ·obtain⟨j,rfl⟩:∃ j:Nat,id=(j:Int)+1:=⟨(id-1).toNat,by omega⟩
  have hj:j<objs.length:=by rw[h.len];omega
  obtain⟨g,rfl,hg,c0,c1,c2,c3⟩:=h.cells hj
  refine (file_some p g n cap j _ _ _ _ _ _ w h.at_.lt hg h.at_.c0 (by omega) h.many c0 c1 c2 c3).mono fun e w' ⟨he,hw⟩=>⟨hw,?_⟩
  by_cases hk:objs[j].kind=1
  ·rw[if_pos hk] at he;exact .inr ⟨j,hj,rfl,hk,he⟩
  ·rw[if_neg hk] at he;exact .inl ⟨by rw[kindOf_in hj];exact hk,he⟩
end Go.Proofs.YtajopoddmfdejaaGreat
