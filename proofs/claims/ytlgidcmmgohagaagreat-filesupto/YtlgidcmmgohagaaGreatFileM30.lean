/- What is proved here: Parse. -/
import Derived.Test.YtlgidcmmgohagaaGreatFileM18
import Derived.Test.YtlgidcmmgohagaaGreatFileM17
import Derived.Test.YtlgidcmmgohagaaGreatFileM28
import Derived.Test.YtlgidcmmgohagaaGreatFileM27
import Derived.Test.YtlgidcmmgohagaaGreatFileM11
import Derived.Test.YtlgidcmmgohagaaGreatFileM13
import Derived.Test.YtlgidcmmgohagaaGreatFileM06
import Derived.Test.YtlgidcmmgohagaaGreatFileM14
import Derived.Test.YtlgidcmmgohagaaGreatFileM25
namespace Go.Proofs.YtlgidcmmgohagaaGreat
open Go.RowKit Go.Sort Go.Shelf Go.Proofs.Tryz
set_option linter.unusedVariables false
set_option maxRecDepth 100000
set_option maxHeartbeats 16000000
theorem lcut_big (s:ByteArray)(k:Nat)(w:World)(h:Lib.indexByte s.data.toList 47=(k:Int))(hk:k<s.size)(hm:s.size<=maxLen):Calls prog 184 #[.string s,.string ⟨#[47]⟩] w fun e w'=>e=.returned (.tuple #[.string (s.extract 0 k),.string (s.extract (k+1) s.size),.bool true])/\Below w.heap.size w w':=by
 have hi:=index_slash s w;rw[h] at hi;unfold maxLen at hm;have hw:IntKind.i64.wrap ((k:Int)+1)=(k:Int)+1:=by rw[IntKind.wrap_i64] <;> omega
 have hk0:(0:Int)<=k:=by omega
 go_enter func184,ntmps184;go_wp2_with (go_at_call 215;refine hi.mono ?_;rintro e w1 ⟨rfl,rfl⟩)
 go_region
 all_goals
  go_wp2;exact bodyPost_ret (v:=.tuple #[.string (s.extract 0 k),.string (s.extract (k+1) s.size),.bool true]) (by simp[results,results184,go_sem]) rfl ⟨rfl,below_drew (Below.refl _ _)⟩
theorem cut_gen (x:ByteArray)(r:List ByteArray)(hx:∀c ∈ toL x,c≠47)(hm:(joinB (x :: r)).size<=maxLen)(w:World):
  Calls prog 128 #[.string (joinB (x :: r)),.string ⟨#[47]⟩] w fun e w'=>e=.returned (.tuple #[.string x,.string (joinB r),.bool (!r.isEmpty)])/\Below w.heap.size w w':=by
 cases r with
 | nil=>
  rw[joinB_one,joinB_nil];exact cut_walk _ _ _ _ w ((lcut_none x w (index_absent _ hx)).mono fun e w' ⟨h1,h2⟩=>⟨h1,by rw[h2];exact Below.refl _ _⟩)
 | cons y t=>
  have h1:=joinB_cons x (r:=y :: t) (by simp);have h2:Lib.indexByte (toL (joinB (x :: y :: t))) 47=((toL x).length:Int):=by rw[h1];exact index_first _ _ hx
  have h3:(joinB (x :: y :: t)).size=(toL x).length+1+(toL (joinB (y :: t))).length:=by rw[<-toL_len,h1,List.length_append,List.length_cons];omega
  have h4:=lcut_big (joinB (x :: y :: t)) (toL x).length w h2 (by omega) hm;have e1:(joinB (x :: y :: t)).extract 0 (toL x).length=x:=toL_inj (by rw[extract_toL,h1,List.take_left,List.drop_zero]);have e2:(joinB (x :: y :: t)).extract ((toL x).length+1) (joinB (x :: y :: t)).size=joinB (y :: t):=toL_inj (by
   rw[extract_toL,List.take_of_length_le (by rw[toL_len];exact zzC _),h1,show toL x++47 :: toL (joinB (y :: t))=(toL x ++ [47])++toL (joinB (y :: t)) by simp];exact List.drop_left' (by simp))
  rw[e1,e2] at h4;exact cut_walk _ _ _ _ w h4
theorem split_no47:∀(s:List UInt8),∀x ∈ splitL s,∀c ∈ x,c≠47
 | []=>by intro x hx c hc;simp[splitL] at hx;subst hx;cases hc
 | d :: r=>by
  intro x hx c hc
  have ih:=split_no47 r
  rw[splitL] at hx
  split at hx
  ·rcases List.mem_cons.1 hx with rfl | hx
   ·cases hc
   ·exact ih x hx c hc
  ·rename_i hd
   rcases List.mem_cons.1 hx with rfl | hx
   ·rcases List.mem_cons.1 hc with rfl | hc
    ·exact hd
    ·cases hs:splitL r with
     | nil=>exact absurd hs (splitL_ne r)
     | cons y ys=>rw[hs] at hc;exact ih y (by rw[hs];exact List.mem_cons_self ..) c hc
   ·exact ih x (List.mem_of_mem_tail hx) c hc
def segB (s:ByteArray):List ByteArray:=(splitL (toL s)).map fun x=>⟨x.toArray⟩
theorem seg_join (s:ByteArray):joinB (segB s)=s:=by
 apply toL_inj;show joinL ((segB s).map toL)=toL s;unfold segB;rw[List.map_map]
 have:(splitL (toL s)).map (toL ∘ fun x=>(⟨x.toArray⟩:ByteArray))=splitL (toL s):=by
  conv=>rhs;rw[<-List.map_id (splitL (toL s))]
  apply List.map_congr_left;intro x _;rfl
 rw[this,join_splitL]
theorem seg_no47 (s:ByteArray):∀x ∈ segB s,∀c ∈ toL x,c≠47:=by
 intro x hx;obtain⟨y,hy,rfl⟩:=List.mem_map.1 hx;exact split_no47 _ y hy
theorem seg_ne (s:ByteArray):segB s ≠ []:=by
 unfold segB;intro h;exact splitL_ne _ (List.map_eq_nil_iff.1 h)
theorem seg_bad {L:List ByteArray}(h:¬Good L):∃k,k<L.length/\k<=5/\(∀j (hj:j<L.length),j<k->validB L[j]=true)/\(k=5\/∃hk:k<L.length,validB L[k]=false):=by
 by_cases hv:∀j (hj:j<L.length),j<5->validB L[j]=true
 ·by_cases h5:L.length<=5
  ·refine absurd ⟨fun x hx=>?_,h5⟩ h
   obtain⟨j,hj,rfl⟩:=List.getElem_of_mem hx;exact hv j hj (by omega)
  ·exact⟨5,by omega,by omega,hv,.inl rfl⟩
 ·have key:∀n,(∃j,∃hj:j<L.length,j<n/\validB L[j]=false)->∃k,∃hk:k<L.length,k<n/\validB L[k]=false/\∀j (hj:j<L.length),j<k->validB L[j]=true:=by
   intro n
   induction n with
   | zero=>rintro ⟨j,_,hj,_⟩;omega
   | succ n ih=>
    rintro ⟨j,hj,hjn,hb⟩;by_cases he:∃j,∃hj:j<L.length,j<n/\validB L[j]=false
    ·obtain⟨k,hk,hkn,h1,h2⟩:=ih he
     exact⟨k,hk,by omega,h1,h2⟩
    ·have hall:∀i (hi:i<L.length),i<n->validB L[i]=true:=fun i hi hin=>by
      cases hv:validB L[i] with
      | true=>rfl
      | false=>exact absurd ⟨i,hi,hin,hv⟩ he
     have hjn':j=n:=by
      by_cases hlt:j<n
      ·rw[hall j hj hlt] at hb;cases hb
      ·omega
     subst hjn';exact⟨j,hj,by omega,hb,hall⟩
  have:∃j,∃hj:j<L.length,j<5/\validB L[j]=false:=by
   refine Classical.byContradiction fun hc=>hv fun j hj h5=>?_;cases hb:validB L[j] with
   | true=>rfl
   | false=>exact absurd ⟨j,hj,h5,hb⟩ hc
  obtain⟨k,hk,hk5,hb,hall⟩:=key 5 this;exact⟨k,hk,by omega,hall,.inr ⟨hk,hb⟩⟩
theorem drop_size {L:List ByteArray}(j:Nat):(joinB (L.drop j)).size<=(joinB L).size:=by
 induction j generalizing L with
 | zero=>exact zzC _
 | succ j ih=>
  cases L with
  | nil=>exact zzC _
  | cons x r=>
   rw[List.drop_succ_cons];refine zzG ih ?_;cases r with
   | nil=>exact zzF _
   | cons y t=>
    have:=congrArg List.length (joinB_cons x (r:=y :: t) (by simp))
    rw[List.length_append,List.length_cons,toL_len,toL_len,toL_len] at this;omega
theorem parse_bad (s:ByteArray)(hs:s.size<=maxLen)(hbad:∀l,Good l->s≠joinB l)(w:World):Calls prog 69 #[.string s] w fun e w'=>e=.returned (.tuple #[pathV [],.int .i64 1])/\Below w.heap.size w w':=by
 obtain⟨L,hL⟩:∃L,L=segB s:=⟨_,rfl⟩;have hj:=seg_join s;have h47:=seg_no47 s;have hne:=seg_ne s;rw[<-hL] at hj h47 hne;have hg:¬Good L:=fun h=>hbad L h hj.symm;have hs0:(!(s).toList.isEmpty)=true:=by
  have h0:s≠⟨#[]⟩:=fun e=>hbad [] Good.nil (by rw[e,joinB_nil]);rw[toL_eq];cases hx:toL s with
  | nil=>exact absurd (toL_inj (show toL s=toL ⟨#[]⟩ by rw[hx];rfl)) h0
  | cons c r=>rfl
 obtain⟨k,hkl,hk5,hval,hend⟩:=seg_bad hg;have hcut:∀j (hj:j<L.length) W,Calls prog 128 #[.string (joinB (L.drop j)),.string ⟨#[47]⟩] W fun e w'=>e=.returned (.tuple #[.string (L.getD j ⟨#[]⟩),.string (joinB (L.drop (j+1))),.bool (decide (j+1<L.length))])/\Below W.heap.size W w':=by
  intro j hjl W;have e1:L.drop j=L[j] :: L.drop (j+1):=List.drop_eq_getElem_cons hjl;have hm:(joinB (L.drop j)).size<=maxLen:=by
   have:=drop_size (L:=L) j
   rw[hj] at this;omega
  rw[e1] at hm
  have:=cut_gen L[j] (L.drop (j+1)) (h47 _ (zzJ hjl)) hm W
  rw[<-e1] at this;have e2:(!(L.drop (j+1)).isEmpty)=decide (j+1<L.length):=by
   by_cases h:j+1<L.length
   ·rw[decide_eq_true h,List.drop_eq_getElem_cons h];rfl
   ·rw[zzE h,List.drop_eq_nil_of_le (by omega)];rfl
  rw[e2] at this;rw[List.getD_eq_getElem?_getD,zzH hjl,Option.getD_some];exact this
 have hval2:∀j (hj:j<L.length) W,Calls prog 129 #[.string (L.getD j ⟨#[]⟩)] W fun e w'=>e=.returned (.bool (validB (L.getD j ⟨#[]⟩)))/\w'=W:=by
  intro j hjl W;rw[List.getD_eq_getElem?_getD,zzH hjl,Option.getD_some];refine valid_any L[j] W ?_;have h1:=drop_size (L:=L) j;rw[hj,List.drop_eq_getElem_cons hjl] at h1;have h2:L[j].size<=(joinB (L[j] :: L.drop (j+1))).size:=by
   cases hr:L.drop (j+1) with
   | nil=>rw[joinB_one];exact zzC _
   | cons y t=>
    have:=congrArg List.length (joinB_cons L[j] (r:=y :: t) (by simp))
    rw[List.length_append,List.length_cons,toL_len,toL_len,toL_len] at this;omega
  omega
 have hgt:∀j (hj:j<L.length),j<k->validB (L.getD j ⟨#[]⟩)=true:=fun j hj h=>by
  rw[List.getD_eq_getElem?_getD,zzH hj,Option.getD_some];exact hval j hj h
 have hgf:k<5->validB (L.getD k ⟨#[]⟩)=false:=fun h=>by
  rcases hend with rfl | ⟨hk,hb⟩
  ·omega
  ·rw[List.getD_eq_getElem?_getD,zzH hk,Option.getD_some];exact hb
 have hroot:=fun W=>root_any W;unfold pathV pathA at hroot;simp only[List.getD_nil] at hroot;have hv0:pathV []=.agg #[.string ⟨#[]⟩,.string ⟨#[]⟩,.string ⟨#[]⟩,.string ⟨#[]⟩,.string ⟨#[]⟩]:=rfl;rw[hv0];have HCUT:Hid _:=hcut;have HVAL:Hid _:=hval2;have HGT:Hid _:=hgt;have HGF:Hid _:=hgf;have HJ:Hid _:=hj;clear hcut hval2 hgt hgf hval hend h47 hne hg hbad hL hj;go_enter func69,ntmps69;go_wp2;have HA0:Hid (PathAt ((w.alloc (.cells #[.string ⟨#[]⟩,.string ⟨#[]⟩,.string ⟨#[]⟩,.string ⟨#[]⟩,.string ⟨#[]⟩] 147)).alloc (.cells #[.string ⟨#[]⟩,.string ⟨#[]⟩,.string ⟨#[]⟩,.string ⟨#[]⟩,.string ⟨#[]⟩] 147)) w.heap.size []):=path_new0 w;have HA1:Hid (PathAt ((w.alloc (.cells #[.string ⟨#[]⟩,.string ⟨#[]⟩,.string ⟨#[]⟩,.string ⟨#[]⟩,.string ⟨#[]⟩] 147)).alloc (.cells #[.string ⟨#[]⟩,.string ⟨#[]⟩,.string ⟨#[]⟩,.string ⟨#[]⟩,.string ⟨#[]⟩] 147)) (w.heap.size+1) []):=path_new1 w
 go_loopw [5,6,7] (fun r m i wr=>∃j:Nat,j<=k/\i=.int .i64 (j:Int)/\m=.bool true/\r=.string (joinB (L.drop j))/\Below w.heap.size w wr/\Hid (PathAt wr w.heap.size [])/\Hid (PathAt wr (w.heap.size+1) (L.take j))) (fun _ _ i _=>k-(intOf i).toNat)
 case atStart=>exact⟨0,zzF _,rfl,rfl,by rw[List.drop_zero,HJ.out],((Below.refl _ _).alloc (zzC _) _).alloc (by simp) _,HA0.out,HA1.out⟩
 case round=>
  obtain⟨j,hj,rfl,rfl,rfl,hb,HP0,HP1⟩:=hrel;have hjl:j<L.length:=by omega
  have hzz:w.heap.size+1<wr.heap.size:=HP1.out.1;have hz0:w.heap.size<wr.heap.size:=HP0.out.1;by_cases hlt:j<k
  ·have hj5:j<5:=by omega
   have hj5':((j:Int) == 5)=false:=by simp;omega
   have hji:(j:Int)<5:=by omega
   have hcj:=HCUT.out j hjl;have hvj:=HVAL.out j hjl;rw[HGT.out j hjl hlt] at hvj;rw[decide_eq_true (show j+1<L.length by omega)] at hcj;generalize hx:L.getD j ⟨#[]⟩=x at hcj hvj;have HX:Hid _:=hx;clear hx;go_wp2_with fail;refine Calls.mono (hcj wr) ?_;rintro e w1 ⟨rfl,hb1⟩;have hz1:w.heap.size+1<w1.heap.size:=zzA hzz hb1.size;have k1:=((HP1.out.keep hb1).2 j hj5);obtain⟨k1c,k1f⟩:=k1;generalize (L.take j).getD j ⟨#[]⟩=x0 at k1c;go_wp2_with (go_at_call 129;refine Calls.mono (hvj _) ?_;rintro e w2 ⟨rfl,rfl⟩);go_roundw
   case rel=>
    refine⟨j+1,by omega,by go_num,rfl,rfl,?_,?_,?_⟩
    ·refine Below.setCell ?_ (by simp) _
     exact below_via hb hb1
    ·exact (HP0.out.keep hb1).other (by omega)
    ·rw[<-HX.out];exact (HP1.out.keep hb1).set hj5
   case measure=>simp[intOf];omega
  ·have hje:j=k:=by omega
   subst hje;by_cases h5:j=5
   ·subst h5
    go_wp2_with (go_at_call 75;refine (hroot _).mono ?_;rintro e w1 ⟨rfl,hb1⟩;obtain⟨⟨q0,q1,q2,q3,q4⟩,qf⟩:=(HP0.out.keep hb1).five;have qf0:=qf 0 (by omega);have qf1:=qf 1 (by omega);have qf2:=qf 2 (by omega);have qf3:=qf 3 (by omega);have qf4:=qf 4 (by omega);have hz1:w.heap.size<w1.heap.size:=zzA hz0 hb1.size;clear qf;simp only[List.getD_nil] at q0 q1 q2 q3 q4);exact bodyPost_ret (v:=.tuple #[.agg #[.string ⟨#[]⟩,.string ⟨#[]⟩,.string ⟨#[]⟩,.string ⟨#[]⟩,.string ⟨#[]⟩],.int .i64 1]) (by simp[results,results69,go_sem,q0,q1,q2,q3,q4]) rfl ⟨rfl,by
     repeat (refine Below.setCell ?_ (by simp) _)
     exact below_via hb hb1⟩
   ·have hj5:j<5:=by omega
    have hj5':((j:Int) == 5)=false:=by simp;omega
    have hji:(j:Int)<5:=(by omega);have hcj:=HCUT.out j hjl;have hvj:=HVAL.out j hjl;rw[HGF.out hj5] at hvj;generalize L.getD j ⟨#[]⟩=x at hcj hvj;generalize decide (j+1<L.length)=more at hcj;go_wp2_with fail;refine Calls.mono (hcj wr) ?_;rintro e w1 ⟨rfl,hb1⟩;have hz1:w.heap.size+1<w1.heap.size:=zzA hzz hb1.size;have k1:=((HP1.out.keep hb1).2 j hj5);obtain⟨k1c,k1f⟩:=k1;generalize (L.take j).getD j ⟨#[]⟩=x0 at k1c;have HP2:Hid (PathAt (w1.setCell ⟨w.heap.size+1,j,none⟩ (.string x)) w.heap.size []):=(HP0.out.keep hb1).other (by omega);have hb2:Below w.heap.size w (w1.setCell ⟨w.heap.size+1,j,none⟩ (.string x)):=Below.setCell (below_via hb hb1) (by simp) _;go_wp2_with (first
     | (go_at_call 129;refine Calls.mono (hvj _) ?_;rintro e w2 ⟨rfl,rfl⟩)
     | (go_at_call 75;refine (hroot _).mono ?_;rintro e w3 ⟨rfl,hb3⟩;obtain⟨⟨q0,q1,q2,q3,q4⟩,qf⟩:=(HP2.out.keep hb3).five;have qf0:=qf 0 (by omega);have qf1:=qf 1 (by omega);have qf2:=qf 2 (by omega);have qf3:=qf 3 (by omega);have qf4:=qf 4 (by omega);have hz3:w.heap.size<w3.heap.size:=(HP2.out.keep hb3).1;clear qf;simp only[List.getD_nil] at q0 q1 q2 q3 q4))
    exact bodyPost_ret (v:=.tuple #[.agg #[.string ⟨#[]⟩,.string ⟨#[]⟩,.string ⟨#[]⟩,.string ⟨#[]⟩,.string ⟨#[]⟩],.int .i64 1]) (by simp[results,results69,go_sem,q0,q1,q2,q3,q4]) rfl ⟨rfl,by
     repeat (refine Below.setCell ?_ (by simp) _)
     exact below_via hb2 hb3⟩
def Listed9 (n0:Nat)(tg:Tags)(w:World)(er:Int)(ks:Kids)(v:Value):Prop:=(er≠0/\v=.slice none 0 0)\/(er=0/\∃b,v=.slice (some ⟨b,0,none⟩) ks.length ks.length/\NmsAt w b (ks.map entOf) ks.length/\tg b=(0,0)/\n0<=b)
section
variable {s i p:Nat}{B:WB}{objs:List Ob}
theorem qlist9 {tg:Tags}{w:World}{g:WG}{lim:Nat}{t:LT}(h:QInv tg w s i p B objs g lim t)(hl:lim+1000<1099511627776){r:List ByteArray}(hL:Good r.reverse):
  Calls prog 68 #[.pointer (some ⟨B.wb,0,none⟩),.string (joinB r.reverse)] w fun e w'=>∃v,e=.returned (.tuple #[v,.int .i64 (lookR objs t g.fs r).2.1])/\∃tg',Moves (Mine i) tg tg' w w'/\QInv tg' w' s i p B objs { g with fs:=(lookR objs t g.fs r).1 } (lim+400) t/\Listed9 w.heap.size tg' w' (lookR objs t g.fs r).2.1 (lookR objs t g.fs r).2.2 v:=by
 obtain⟨hwb,c0,_⟩:=h.ws;have hr5:r.length<=5:=by have:=hL.len;simpa using this
 have hlook:=fun W (hb:Below w.heap.size w W)=>look_all (s:=s) (i:=i) (p:=p) (B:=B) (objs:=objs) r tg W g lim (h.inv.below hb) (by omega) hL;have he16:((lookR objs t g.fs r).2.2.map entOf).length<=16:=by
  have:=(h.inv.ents g.fs r).len
  rw[flat_look h.inv.st.sound h.flat h.ok g.fs r] at this;exact this
 simp only[flat_look h.inv.st.sound h.flat h.ok g.fs r] at hlook;obtain⟨fs',er,ks,hlk⟩:∃fs' er ks,lookR objs t g.fs r=(fs',er,ks):=⟨_,_,_,rfl⟩;rw[hlk] at he16 hlook ⊢;simp only at he16 hlook ⊢;refine (list_wsG B.wb B.bt r.reverse hL (fun v e w'=>e=er/\∃tg',Moves (Mine i) tg tg' w w'/\QInv tg' w' s i p B objs { g with fs:=fs' } (lim+400) t/\Listed9 w.heap.size tg' w' er ks v) w hwb c0 (fun W hb=>?_)).mono ?_
 ·have hmk:∀{w3 w':World} {tg':Tags},Moves (Fetches i) tg tg' w w3->WInv tg' w3 s i p B objs { g with fs:=fs' } (lim+r.length+1)->Below w3.heap.size w3 w'->Moves (Mine i) tg tg' w w'/\QInv tg' w' s i p B objs { g with fs:=fs' } (lim+400) t:=by
   intro w3 w' tg' m hW hb3;exact⟨(m.mono (fun t ht=>Fetches.mine ht)).trans (Moves.of_below hb3),(hW.below hb3).mono (by omega),h.flat,h.ok,h.fl⟩
  by_cases her:er=0
  ·subst her
   by_cases hne:0<ks.length
   ·have htl:=tlist_walk B.bt _ _ _ _ _ (ks.map entOf) (fun w3=>∃tg',Moves (Fetches i) tg tg' w w3/\WInv tg' w3 s i p B objs { g with fs:=fs' } (lim+r.length+1)) W he16 (fun W' hb'=>(hlook W' (below_via hb hb')).mono ?_)
    ·refine htl.mono ?_
     rintro e w' ⟨w3,⟨tg',m,hW⟩,rfl,hb3,hN⟩;rw[List.length_map] at hN ⊢;obtain⟨m',hQ⟩:=hmk m hW hb3;exact⟨_,_,rfl,rfl,tg',m',hQ,.inr ⟨rfl,_,rfl,hN,hW.st.fresh _ (zzC _),m.size⟩⟩
    ·rintro e w' ⟨v,rfl,tg',m,hW,hsl⟩
     obtain⟨gb,cp,rfl,hgb,_⟩:=hsl.at_ (k:=0) (by simpa using hne);refine⟨gb,cp,rfl,⟨tg',(call_moves (below_via hb hb') m),hW⟩,hgb,fun j u hu=>?_⟩
     have:=owns_cells hsl.1 j u hu
     rwa [Nat.zero_add] at this
   ·obtain rfl:ks = []:=List.length_eq_zero_iff.1 (by omega)
    have htl:=tlist_nil B.bt _ _ _ _ _ (fun w3=>∃tg',Moves (Fetches i) tg tg' w w3/\WInv tg' w3 s i p B objs { g with fs:=fs' } (lim+r.length+1)) W (fun W' hb'=>(hlook W' (below_via hb hb')).mono ?_)
    ·refine htl.mono ?_
     rintro e w' ⟨w3,⟨tg',m,hW⟩,rfl,hb3,hN⟩;obtain⟨m',hQ⟩:=hmk m hW hb3;exact⟨_,_,rfl,rfl,tg',m',hQ,.inr ⟨rfl,_,rfl,hN,hW.st.fresh _ (zzC _),m.size⟩⟩
    ·rintro e w' ⟨v,rfl,tg',m,hW,hsl⟩
     obtain⟨la,c,rfl⟩:=hsl.len;exact⟨la,c,rfl,tg',(call_moves (below_via hb hb') m),hW⟩
  ·have htl:=tlist_err B.bt _ _ _ _ _ er her (fun w3=>∃tg',Moves (Fetches i) tg tg' w w3/\WInv tg' w3 s i p B objs { g with fs:=fs' } (lim+r.length+1)) W (fun W' hb'=>(hlook W' (below_via hb hb')).mono ?_)
   ·refine htl.mono ?_
    rintro e w' ⟨⟨tg',m,hW⟩,rfl⟩;obtain⟨m',hQ⟩:=hmk m hW (Below.refl _ _);exact⟨_,_,rfl,rfl,tg',m',hQ,.inl ⟨her,rfl⟩⟩
   ·rintro e w' ⟨v,rfl,tg',m,hW,hsl⟩
    exact⟨v,rfl,tg',(call_moves (below_via hb hb') m),hW⟩
 ·rintro e w' ⟨v,er',he,rfl,hR⟩
  exact⟨v,he,hR⟩
end
def NoPath (S:ByteArray):Prop:=∀W,Calls prog 69 #[.string S] W fun e w'=>e=.returned (.tuple #[.agg #[.string ⟨#[]⟩,.string ⟨#[]⟩,.string ⟨#[]⟩,.string ⟨#[]⟩,.string ⟨#[]⟩],.int .i64 1])/\Below W.heap.size W w'
theorem mkdir_bad (wb:Nat)(S:ByteArray)(w:World)(hp:NoPath S):Calls prog 31 #[.pointer (some ⟨wb,0,none⟩),.string S] w fun e w'=>e=.returned (.int .i64 1)/\Below w.heap.size w w':=by
 unfold NoPath at hp;go_enter func31,ntmps31;go_wp2_with (go_at_call 69;refine Calls.mono (hp _) ?_;rintro e w1 ⟨rfl,hb1⟩);go_ret
 first | exact⟨rfl,hb1⟩ | exact⟨rfl,hb1.alloc hb1.size _⟩
theorem remove_bad (wb:Nat)(S:ByteArray)(w:World)(hp:NoPath S):Calls prog 32 #[.pointer (some ⟨wb,0,none⟩),.string S] w fun e w'=>e=.returned (.int .i64 1)/\Below w.heap.size w w':=by
 unfold NoPath at hp;go_enter func32,ntmps32;go_wp2_with (go_at_call 69;refine Calls.mono (hp _) ?_;rintro e w1 ⟨rfl,hb1⟩);go_ret
 first | exact⟨rfl,hb1⟩ | exact⟨rfl,hb1.alloc hb1.size _⟩
theorem list_bad (wb:Nat)(S:ByteArray)(w:World)(hp:NoPath S):Calls prog 68 #[.pointer (some ⟨wb,0,none⟩),.string S] w fun e w'=>e=.returned (.tuple #[.slice none 0 0,.int .i64 1])/\Below w.heap.size w w':=by
 unfold NoPath at hp;go_enter func68,ntmps68;go_wp2_with (go_at_call 69;refine Calls.mono (hp _) ?_;rintro e w1 ⟨rfl,hb1⟩);go_ret2
 first | exact⟨rfl,hb1⟩ | exact⟨rfl,hb1.alloc hb1.size _⟩
theorem rename_bad1 (wb:Nat)(S T:ByteArray)(w:World)(hp:NoPath S):Calls prog 33 #[.pointer (some ⟨wb,0,none⟩),.string S,.string T] w fun e w'=>e=.returned (.int .i64 1)/\Below w.heap.size w w':=by
 unfold NoPath at hp;go_enter func33,ntmps33;go_wp2_with (go_at_call 69;refine Calls.mono (hp _) ?_;rintro e w1 ⟨rfl,hb1⟩);go_ret
 first | exact⟨rfl,hb1⟩ | exact⟨rfl,hb1.alloc hb1.size _⟩
theorem rename_bad2 (wb:Nat)(l:List ByteArray)(hl:Good l)(T:ByteArray)(w:World)(hp:NoPath T):Calls prog 33 #[.pointer (some ⟨wb,0,none⟩),.string (joinB l),.string T] w fun e w'=>e=.returned (.int .i64 1)/\Below w.heap.size w w':=by
 unfold NoPath at hp;have hpa:=fun W=>parse_any l hl W
 obtain⟨s0,s1,s2,s3,s4,hP⟩:∃s0 s1 s2 s3 s4,pathA l = #[.string s0,.string s1,.string s2,.string s3,.string s4]:=⟨_,_,_,_,_,rfl⟩;unfold pathV at hpa;simp only[hP] at hpa;clear hP hl;generalize joinB l=tx at hpa ⊢;go_enter func33,ntmps33;go_wp2_with fail;refine Calls.mono (hpa _) ?_;rintro e w1 ⟨rfl,hb1⟩;go_wp2_with fail;refine Calls.mono (hp _) ?_;rintro e w2 ⟨rfl,hb2⟩;go_wp2;go_ret;exact⟨rfl,Below.alloc (below_via (hb1.alloc hb1.size _) hb2) (zzG (zzG hb1.size (by simp)) hb2.size) _⟩
theorem stat_bad (wb:Nat)(S:ByteArray)(w:World)(hp:NoPath S):Calls prog 67 #[.pointer (some ⟨wb,0,none⟩),.string S] w fun e w'=>e=.returned (.tuple #[.agg #[.int .i64 0,.int .i64 0],.int .i64 1])/\Below w.heap.size w w':=by
 unfold NoPath at hp;have hb0:Below w.heap.size w (w.alloc (.cells #[.int .i64 0,.int .i64 0] 141)):=(Below.refl _ _).alloc (zzC _) _;have hI0:InfoAt (w.alloc (.cells #[.int .i64 0,.int .i64 0] 141)) w.heap.size:=heap_alloc_new _ _;have HB0:Hid _:=hb0;have HI0:Hid _:=hI0;clear hb0 hI0;go_enter func67,ntmps67;go_wp2_with fail;refine Calls.mono (hp _) ?_;rintro e w1 ⟨rfl,hb1⟩;have hI1:InfoAt w1 w.heap.size:=(hb1.block w.heap.size (by simp)).trans HI0.out;obtain⟨hl2,e0,e1,f2⟩:=hI1.cells;have hbx:Below w.heap.size w w1:=HB0.out.trans (hb1.mono (by simp));have hX:((w1.setCell ⟨w.heap.size,0,none⟩ (.int .i64 0)).setCell ⟨w.heap.size,1,none⟩ (.int .i64 0)).heap[w.heap.size]? = some (.cells #[.int .i64 0,.int .i64 0] 141 (0,0)):=by
  unfold InfoAt at hI1;simp[World.setCell,Array.getElem?_modify,hI1]
 have hY:∀o,(((w1.setCell ⟨w.heap.size,0,none⟩ (.int .i64 0)).setCell ⟨w.heap.size,1,none⟩ (.int .i64 0)).alloc o).heap[w.heap.size]? = some (.cells #[.int .i64 0,.int .i64 0] 141 (0,0)):=fun o=>(Below.heap_alloc _ _ _ (Array.getElem?_eq_some_iff.1 hX).1).trans hX;have y0:∀o,(((w1.setCell ⟨w.heap.size,0,none⟩ (.int .i64 0)).setCell ⟨w.heap.size,1,none⟩ (.int .i64 0)).alloc o).cell? ⟨w.heap.size,0,none⟩=some (.int .i64 0):=fun o=>by simp[World.cell?,hY o]
 have y1:∀o,(((w1.setCell ⟨w.heap.size,0,none⟩ (.int .i64 0)).setCell ⟨w.heap.size,1,none⟩ (.int .i64 0)).alloc o).cell? ⟨w.heap.size,1,none⟩=some (.int .i64 0):=fun o=>by simp[World.cell?,hY o]
 have hbz:∀o,Below w.heap.size w (((w1.setCell ⟨w.heap.size,0,none⟩ (.int .i64 0)).setCell ⟨w.heap.size,1,none⟩ (.int .i64 0)).alloc o):=fun o=>((hbx.setCell (zzC _) _).setCell (zzC _) _).alloc (by simpa using hbx.size) _;clear hI1 hX hY;go_wp2;exact bodyPost_ret (v:=.tuple #[.agg #[.int .i64 0,.int .i64 0],.int .i64 1]) (by simp[results,results67,go_sem,y0,y1]) rfl ⟨rfl,hbz _⟩
theorem joinTo_L (xs:List ByteArray):∀k,k<=xs.length->toL (joinTo xs k)=joinL ((xs.take k).map toL)
 | 0,_=>rfl
 | k+1,h=>by
  have ih:=joinTo_L xs k (by omega)
  have hg:xs.getD k ⟨#[]⟩=xs[k]:=by rw[List.getD_eq_getElem?_getD,zzH (by omega)];rfl
  rw[zzI (by omega),List.map_append,List.map_cons,List.map_nil]
  simp only[joinTo]
  rw[hg,toL_append]
  split
  ·next h0=>
   rw[joinL_snoc _ _ (by intro e;have:=congrArg List.length e;rw[List.length_map,List.length_take,List.length_nil] at this;omega),toL_append,ih]
   simp[toL]
  ·next h0=>
   have:k=0:=by omega
   subst this
   simp[joinTo,toL,joinL]
theorem joinP_L (xs:List ByteArray):toL (joinP xs)=joinL (xs.map toL):=by
 unfold joinP;rw[joinTo_L xs xs.length (zzC _),List.take_length]
theorem splitL_snoc:∀(a:List UInt8) (c:UInt8),splitL (a ++ [c])=if c=47 then splitL a ++ [[]] else (splitL a).dropLast ++ [(splitL a).getLastD [] ++ [c]]
 | [],c=>by
  simp only[List.nil_append,splitL]
  split <;> rfl
 | d :: r,c=>by
  have ih:=splitL_snoc r c
  have hne:=splitL_ne r
  simp only[List.cons_append,splitL]
  rw[ih]
  cases hs:splitL r with
  | nil=>exact absurd hs hne
  | cons y t=>
   by_cases hd:d=47
   ·simp only[zzD hd]
    by_cases hc:c=47
    ·simp[hc]
    ·simp[hc]
   ·simp only[zzB hd]
    by_cases hc:c=47
    ·simp[hc]
    ·simp only[zzB hc]
     cases t with
     | nil=>simp
     | cons z u=>simp
theorem cutAt_in {s:ByteArray}{i:Nat}(h:i<s.size):cutAt s i=decide (s[i]=47):=by unfold cutAt;rw[dif_pos h]
theorem cutAt_end {s:ByteArray}:cutAt s s.size=true:=by unfold cutAt;rw[dif_neg (by omega)]
theorem toL_extract (s:ByteArray)(a b:Nat):toL (s.extract a b)=((toL s).take b).drop a:=by
 unfold toL;rw[ByteArray.data_extract];simp[List.drop_take]
theorem segs_L (s:ByteArray):∀i,i<=s.size->splitL ((toL s).take i)=(segs s i).1.map toL ++ [((toL s).take i).drop (segs s i).2]
 | 0,_=>rfl
 | i+1,h=>by
  have ih:=segs_L s i (by omega)
  have hf:=segs_from s i
  have hi:i<(toL s).length:=by rw[toL_len];omega
  obtain⟨c,hcd⟩:∃c,c=(toL s)[i]:=⟨_,rfl⟩
  have hcut:cutAt s i=decide (c=47):=by rw[cutAt_in (by omega:i<s.size),hcd];rfl
  rw[zzI hi,<-hcd,splitL_snoc,ih]
  simp only[segs,hcut]
  by_cases hc:c=47
  ·simp only[hc,if_true,decide_true,List.map_append,List.map_cons,List.map_nil,toL_extract]
   congr 1
   rw[List.drop_eq_nil_of_le]
   simp only[List.length_append,List.length_take,List.length_cons,List.length_nil]
   omega
  ·simp only[hc,if_false,decide_false,Bool.false_eq_true,List.dropLast_concat]
   congr 1
   have:((segs s i).1.map toL ++ [((toL s).take i).drop (segs s i).2]).getLastD []=((toL s).take i).drop (segs s i).2:=by simp
   rw[this,List.drop_append_of_le_length (by rw[List.length_take];omega)]
theorem segs_all (s:ByteArray):(segs s (s.size+1)).1.map toL=splitL (toL s):=by
 have h:=segs_L s s.size (zzC _);have ht:(toL s).take s.size=toL s:=by rw[<-toL_len];exact List.take_length
 rw[ht] at h;rw[h];simp only[segs];rw[cutAt_end,zzD rfl];simp only[List.map_append,List.map_cons,List.map_nil,toL_extract,ht]
theorem joinP_segs (s:ByteArray):joinP (segs s (s.size+1)).1=s:=by
 apply toL_inj;rw[joinP_L,segs_all,join_splitL]
theorem valid_no47 {x:ByteArray}(h:validB x=true):∀c ∈ toL x,c≠47:=by
 unfold validB at h;simp only[Bool.and_eq_true,decide_eq_true_eq] at h;intro c hc e;subst e;obtain⟨j,hj,hjc⟩:=List.getElem_of_mem hc;exact idx_pos hj hjc h.2
theorem map_toL_inj:∀{a b:List ByteArray},a.map toL=b.map toL->a=b
 | [],[],_=>rfl
 | [],_ :: _,h=>by cases h
 | _ :: _,[],h=>by cases h
 | x :: r,y :: t,h=>by
  simp only[List.map_cons,List.cons.injEq] at h
  rw[toL_inj h.1,map_toL_inj h.2]
theorem joinP_size0 {l:List ByteArray}(hv:∀x ∈ l,validB x=true):(joinP l).size=0↔l = []:=by
 constructor
 ·intro h
  cases l with
  | nil=>rfl
  | cons x r=>
   have h1:=(valid_size (hv x (List.mem_cons_self ..))).1;have h2:(toL (joinP (x :: r))).length=0:=by rw[toL_len];exact h
   rw[joinP_L,List.map_cons] at h2;cases r with
   | nil=>simp only[List.map_nil,joinL,toL_len] at h2;omega
   | cons y t=>simp only[List.map_cons,joinL,List.length_append,List.length_cons] at h2;omega
 ·intro h;subst h;rfl
theorem segs_join {l:List ByteArray}(hl:l ≠ [])(hv:∀x ∈ l,validB x=true):(segs (joinP l) ((joinP l).size+1)).1=l:=by
 apply map_toL_inj;rw[segs_all,joinP_L];refine split_joinL _ (by simpa using hl) (fun x hx=>?_);obtain⟨y,hy,rfl⟩:=List.mem_map.1 hx;exact valid_no47 (hv y hy)
theorem split_join {l:List ByteArray}(hv:∀x ∈ l,validB x=true):splitP (joinP l)=(l,decide (l.length<=5)):=by
 unfold splitP;by_cases h:l = []
 ·subst h;rfl
 ·rw[zzB (fun e=>h ((joinP_size0 hv).1 e)),segs_join h hv,zzD hv]
theorem join_split {p:ByteArray}(h:(splitP p).2=true):joinP (splitP p).1=p:=by
 unfold splitP at h ⊢;split at h
 ·next h0=>
  rw[zzD h0];apply toL_inj
  have:(toL p).length=0:=by rw[toL_len];exact h0
  rw[List.eq_nil_of_length_eq_zero this];rfl
 ·next h0=>
  rw[zzB h0];split at h
  ·next h1=>rw[zzD h1];exact joinP_segs p
  ·cases h
theorem joinP_inj {a b:List ByteArray}(ha:∀x ∈ a,validB x=true)(hb:∀x ∈ b,validB x=true)(h:joinP a=joinP b):a=b:=by
 have h1:=split_join ha;rw[h,split_join hb] at h1;exact (Prod.mk.inj h1).1.symm
theorem split_app:∀(a b:List UInt8),splitL (a++47 :: b)=splitL a++splitL b
 | [],b=>by simp[splitL]
 | c :: r,b=>by
  have ih:=split_app r b
  simp only[List.cons_append,splitL]
  rw[ih]
  cases hs:splitL r with
  | nil=>exact absurd hs (splitL_ne r)
  | cons y t=>split <;> simp
theorem joinL_app:∀(a b:List (List UInt8)),a ≠ []->b ≠ []->joinL (a++b)=joinL a++47 :: joinL b
 | [],b,h,_=>absurd rfl h
 | [x],b,_,hb=>by rw[List.singleton_append,joinL_cons x hb];rfl
 | x :: y :: r,b,_,hb=>by
  have ih:=joinL_app (y :: r) b (by simp) hb
  rw[List.cons_append,joinL_cons x (by simp),ih,joinL_cons x (by simp)]
  simp
theorem joinL_ne {l:List ByteArray}(hl:l ≠ [])(hv:Valids l):joinL (l.map toL) ≠ []:=by
 intro e;rw[<-joinP_L] at e;have h1:(joinP l).size=0:=by rw[<-toL_len,e];rfl
 exact hl ((joinP_size0 hv).1 h1)
theorem under_bytes (p t:ByteArray):underP p t=true ↔ ∃r,r ≠ []/\toL p=toL t++47 :: r:=by
 unfold underP;constructor
 ·intro h
  split at h
  ·next hl=>
   simp only[Bool.and_eq_true,decide_eq_true_eq] at h;obtain⟨h1,h2⟩:=h;have h3:toL (p.extract 0 t.size)=toL t:=by rw[<-toL_eq,<-toL_eq];exact eq_of_beq h1
   rw[toL_extract,List.drop_zero] at h3;have hlt:t.size<(toL p).length:=by rw[toL_len];omega
   refine⟨(toL p).drop (t.size+1),?_,?_⟩
   ·intro e
    have:=congrArg List.length e
    rw[List.length_drop,toL_len,List.length_nil] at this;omega
   ·have e1:=List.take_append_drop t.size (toL p)
    rw[h3,List.drop_eq_getElem_cons hlt] at e1;have e2:(toL p)[t.size]=47:=h2;rw[e2] at e1;exact e1.symm
  ·cases h
 ·rintro ⟨r,hr,h⟩
  have hlen:p.size=t.size+1+r.length:=by
   have:=congrArg List.length h
   rw[toL_len,List.length_append,List.length_cons,toL_len] at this;omega
  have hr1:0<r.length:=List.length_pos_iff.2 hr;rw[dif_pos (by omega)];simp only[Bool.and_eq_true,decide_eq_true_eq];constructor
  ·have:toL (p.extract 0 t.size)=toL t:=by
    rw[toL_extract,List.drop_zero,h,List.take_append_of_le_length (by rw[toL_len];exact zzC _),<-toL_len,List.take_length]
   rw[toL_eq,toL_eq,this];exact beq_self_eq_true _
  ·have hg:(toL p)[t.size]'(by rw[toL_len];omega)=47:=by
    simp only[h];rw[List.getElem_append_right (by rw[toL_len];exact zzC _)];simp[toL_len]
   exact hg
theorem under_names {l m:List ByteArray}(hl:Valids l)(hm:Valids m)(hne:m ≠ []):underP (joinP l) (joinP m)=true ↔ ∃r,r ≠ []/\l=m++r:=by
 rw[under_bytes,joinP_L,joinP_L];constructor
 ·rintro ⟨r,hr,h⟩
  have hle:l ≠ []:=by
   rintro rfl
   have:=congrArg List.length h
   simp[joinL] at this
  have h1:=congrArg splitL h;rw[split_app,split_joinL _ (by simpa using hle) (fun x hx=>by obtain⟨y,hy,rfl⟩:=List.mem_map.1 hx;exact valid_no47 (hl y hy)),split_joinL _ (by simpa using hne) (fun x hx=>by obtain⟨y,hy,rfl⟩:=List.mem_map.1 hx;exact valid_no47 (hm y hy))] at h1;have h2:(l.take m.length).map toL=m.map toL:=by
   rw[List.map_take,h1,List.take_append_of_le_length (by simp)];exact List.take_of_length_le (by simp)
  refine⟨l.drop m.length,?_,?_⟩
  ·intro e
   have h3:=congrArg List.length h1;have h4:=congrArg List.length e;have h5:0<(splitL r).length:=List.length_pos_iff.2 (splitL_ne r);rw[List.length_append,List.length_map,List.length_map] at h3;rw[List.length_drop,List.length_nil] at h4;omega
  ·rw[<-map_toL_inj h2,List.length_take]
   have h3:=congrArg List.length h1;rw[List.length_append,List.length_map,List.length_map] at h3;rw[show min m.length l.length=m.length by omega];exact (List.take_append_drop _ _).symm
 ·rintro ⟨r,hr,rfl⟩
  refine⟨joinL (r.map toL),joinL_ne hr hl.right,?_⟩;rw[List.map_append,joinL_app _ _ (by simpa using hne) (by simpa using hr)]
theorem split_fst {l:List ByteArray}(hl:Valids l):(splitP (joinP l)).1=l:=by rw[split_join hl]
theorem inside_names {l d:List ByteArray}(hl:Valids l)(hd:Valids d):insideP (joinP l) (joinP d)=true ↔ ∃x,l=d ++ [x]:=by
 unfold insideP;rw[split_fst hl,Bool.and_eq_true,decide_eq_true_eq];constructor
 ·rintro ⟨h0,h1⟩
  have h2:joinP (l.take (l.length-1))=joinP d:=by
   apply toL_inj;rw[<-toL_eq,<-toL_eq];exact eq_of_beq h1
  have h3:=joinP_inj (hl.take _) hd h2;refine⟨l[l.length-1],?_⟩;rw[<-h3]
  have:=zzI (l:=l) (i:=l.length-1) (by omega)
  rw[show l.length-1+1=l.length by omega,List.take_length] at this;exact this
 ·rintro ⟨x,rfl⟩
  refine⟨by simp,?_⟩
  have:(d ++ [x]).take ((d ++ [x]).length-1)=d:=by simp
  rw[this];exact beq_self_eq_true _
theorem last_names {d:List ByteArray}{x:ByteArray}(h:Valids (d ++ [x])):lastP (joinP (d ++ [x]))=x:=by
 unfold lastP;rw[split_fst h];simp
def Pathed (nodes:List Ent):Prop:=∀e ∈ nodes,∃l,l ≠ []/\Valids l/\l.length<=5/\e.1=joinP l
def OnePath (nodes:List Ent):Prop:=(nodes.map (·.1)).Nodup
def lookN (nodes:List Ent)(l:List ByteArray):Option (Int×Int):=if l = [] then some (2,0) else (nodes.find? (fun e=>decide (e.1=joinP l))).map (·.2)
theorem find_look (nodes:List Ent)(p:ByteArray):(findP nodes p).bind (fun i=>(nodes[i]?).map (·.2))=(nodes.find? (fun e=>decide (e.1=p))).map (·.2):=by
 unfold findP;have e:(fun e:Ent=>decide (e.1.toList=p.toList))=fun e=>decide (e.1=p):=by
  funext x
  by_cases h:x.1=p
  ·rw[h];simp
  ·rw[zzE h,zzE (fun e=>h (toL_inj (by rw[<-toL_eq,<-toL_eq];exact e)))]
 rw[e]
 induction nodes with
 | nil=>rfl
 | cons x r ih=>
  rw[List.findIdx?_cons,List.find?_cons];cases hx:decide (x.1=p) with
  | true=>simp
  | false=>
   rw[<-ih];cases hr:r.findIdx? (fun e=>decide (e.1=p)) with
   | none=>simp
   | some i=>simp
theorem kind_look {nodes:List Ent}{l:List ByteArray}(hl:Valids l):kindP nodes (joinP l)=((lookN nodes l).map (·.1)).getD 0:=by
 unfold kindP lookN;by_cases h:l = []
 ·subst h
  rw[zzD (by rw[toL_eq];rfl),zzD rfl];rfl
 ·have h1:¬(joinP l).toList = []:=by rw[toL_eq,joinP_L];exact joinL_ne h hl
  rw[zzB h1,zzB h,<-find_look];cases findP nodes (joinP l) with
  | none=>rfl
  | some i=>cases hx:nodes[i]? <;> simp[hx]
theorem find_filter_const {α:Type}(p q:α->Bool)(c:Bool):∀(xs:List α),(∀a ∈ xs,q a=true->p a=c)->(xs.filter p).find? q=if c=true then xs.find? q else none
 | [],_=>by cases c <;> rfl
 | x :: r,h=>by
  have ih:=find_filter_const p q c r (fun a ha=>h a (List.mem_cons_of_mem _ ha))
  cases hq:q x with
  | true=>
   have hp:=h x (List.mem_cons_self ..) hq
   cases c with
   | true=>rw[List.filter_cons_of_pos hp,List.find?_cons_of_pos hq];simp[List.find?_cons_of_pos hq]
   | false=>rw[List.filter_cons_of_neg (by rw[hp];decide),ih];rfl
  | false=>
   rw[List.find?_cons_of_neg (by rw[hq];decide)]
   cases hp:p x with
   | true=>rw[List.filter_cons_of_pos hp,List.find?_cons_of_neg (by rw[hq];decide),ih]
   | false=>rw[List.filter_cons_of_neg (by rw[hp];decide),ih]
theorem beq_join {a b:List ByteArray}(ha:Valids a)(hb:Valids b):((joinP a).toList == (joinP b).toList)=decide (a=b):=by
 by_cases h:a=b
 ·subst h;simp
 ·rw[zzE h]
  refine beq_eq_false_iff_ne.2 fun e=>h (joinP_inj ha hb (toL_inj ?_));rw[<-toL_eq,<-toL_eq];exact e
theorem prefix_split {l m:List ByteArray}:(m=l\/∃r,r ≠ []/\m=l++r)↔l <+: m:=by
 constructor
 ·rintro (rfl | ⟨r,_,rfl⟩)
  ·exact List.prefix_rfl
  ·exact List.prefix_append _ _
 ·rintro ⟨r,rfl⟩
  cases r with
  | nil=>exact .inl (by simp)
  | cons x t=>exact .inr ⟨x :: t,by simp,rfl⟩
theorem at_or_below {a l:List ByteArray}(ha:Valids a)(hl:Valids l)(hne:l ≠ []):(((joinP a).toList == (joinP l).toList)=true\/underP (joinP a) (joinP l)=true)↔l <+: a:=by
 rw[beq_join ha hl,decide_eq_true_eq,under_names ha hl hne];exact prefix_split
theorem look_ne {nodes:List Ent}{m:List ByteArray}(h:m ≠ []):lookN nodes m=(nodes.find? (fun e=>decide (e.1=joinP m))).map (·.2):=by unfold lookN;rw[zzB h]
theorem look_gone {nodes:List Ent}{l m:List ByteArray}(hl:Valids l)(hne:l ≠ [])(hm:Valids m):lookN (goneP nodes (joinP l)) m=if l <+: m then none else lookN nodes m:=by
 by_cases h0:m = []
 ·subst h0
  rw[zzB (fun h=>hne (List.prefix_nil.1 h))];rfl
 ·rw[look_ne h0,look_ne h0]
  unfold goneP;by_cases hp:l <+: m
  ·rw[find_filter_const _ _ false _ (fun a _ ha=>?_),zzD hp];rfl
   rw[of_decide_eq_true ha];rcases (at_or_below hm hl hne).2 hp with e | e
   ·rw[e];rfl
   ·rw[e];simp
  ·rw[find_filter_const _ _ true _ (fun a _ ha=>?_),zzB hp];rfl
   rw[of_decide_eq_true ha];have h1:((joinP m).toList == (joinP l).toList)=false:=by
    cases e:((joinP m).toList == (joinP l).toList) with
    | true=>exact absurd ((at_or_below hm hl hne).1 (.inl e)) hp
    | false=>rfl
   have h2:underP (joinP m) (joinP l)=false:=by
    cases e:underP (joinP m) (joinP l) with
    | true=>exact absurd ((at_or_below hm hl hne).1 (.inr e)) hp
    | false=>rfl
   rw[h1,h2];rfl
theorem look_push {nodes:List Ent}{l m:List ByteArray}{k f:Int}(hl:Valids l)(hne:l ≠ [])(hm:Valids m)(hn:lookN nodes l=none):lookN (nodes ++ [(joinP l,k,f)]) m=if m=l then some (k,f) else lookN nodes m:=by
 by_cases h0:m = []
 ·subst h0
  rw[zzB (fun h=>hne h.symm)];rfl
 ·rw[look_ne h0,look_ne h0,List.find?_append]
  by_cases h:m=l
  ·subst h
   rw[look_ne h0] at hn;rw[zzD rfl]
   have:nodes.find? (fun e=>decide (e.1=joinP m))=none:=by simpa using hn
   rw[this];simp
  ·rw[zzB h]
   have:decide (joinP l=joinP m)=false:=zzE fun e=>h (joinP_inj hm hl e.symm)
   simp[this]
theorem drop_size_join {f r:List ByteArray}(hf:Valids (f++r))(hne:f ≠ [])(t:List ByteArray)(ht:t ≠ []):joinP t++(joinP (f++r)).extract (joinP f).size (joinP (f++r)).size=joinP (t++r):=by
 apply toL_inj;rw[toL_append,toL_extract,joinP_L (t++r),joinP_L t];have hsz:(joinP (f++r)).size=(toL (joinP (f++r))).length:=(toL_len _).symm;rw[hsz,List.take_length,<-toL_len,joinP_L,joinP_L];by_cases hr:r = []
 ·subst hr;simp
 ·rw[List.map_append,List.map_append,joinL_app _ _ (by simpa using hne) (by simpa using hr),joinL_app _ _ (by simpa using ht) (by simpa using hr)]
  congr 1
  rw[List.drop_left]
theorem moved_names {f t a:List ByteArray}{k n:Int}(hf:Valids f)(hfn:f ≠ [])(ht:t ≠ [])(ha:Valids a):movedPR (joinP f) (joinP t) (joinP a,k,n)=if f <+: a then (joinP (t++a.drop f.length),k,n) else (joinP a,k,n):=by
 unfold movedPR;by_cases h:f <+: a
 ·rw[zzD h,zzD ((at_or_below ha hf hfn).2 h)]
  obtain⟨r,rfl⟩:=h;rw[drop_size_join ha hfn t ht,List.drop_left]
 ·rw[zzB h,zzB (fun e=>h ((at_or_below ha hf hfn).1 e))]
theorem find_map_eq {α:Type}(g:α->α)(q q':α->Bool):∀(xs:List α),(∀a ∈ xs,q (g a)=q' a)->(xs.map g).find? q=(xs.find? q').map g
 | [],_=>rfl
 | x :: r,h=>by
  have ih:=find_map_eq g q q' r (fun a ha=>h a (List.mem_cons_of_mem _ ha))
  have hx:=h x (List.mem_cons_self ..)
  rw[List.map_cons,List.find?_cons,List.find?_cons,hx,ih]
  cases q' x <;> rfl
theorem gone_mem {nodes:List Ent}{p:ByteArray}{e:Ent}(h:e ∈ goneP nodes p):e ∈ nodes:=(List.mem_filter.1 h).1
theorem Pathed.gone {nodes:List Ent}(h:Pathed nodes)(p:ByteArray):Pathed (goneP nodes p):=fun e he=>h e (gone_mem he)
theorem look_rename {nodes:List Ent}{f t m:List ByteArray}(hp:Pathed nodes)(hf:Valids f)(hfn:f ≠ [])(ht:Valids t)(htn:t ≠ [])(hft:¬f <+: t)(htf:¬t <+: f)(hm:Valids m):
  lookN ((goneP nodes (joinP t)).map (movedPR (joinP f) (joinP t))) m=if t <+: m then lookN nodes (f++m.drop t.length) else if f <+: m then none else lookN nodes m:=by
 have comp:∀r,¬t <+: f++r:=fun r h=>by
  rcases List.prefix_or_prefix_of_prefix h (List.prefix_append f r) with e | e
  ·exact htf e
  ·exact hft e
 by_cases h0:m = []
 ·subst h0
  rw[zzB (fun h=>htn (List.prefix_nil.1 h)),zzB (fun h=>hfn (List.prefix_nil.1 h))];rfl
 ·rw[look_ne h0]
  have key:∀e ∈ goneP nodes (joinP t),∃a,Valids a/\e.1=joinP a/\¬t <+: a:=fun e he=>by
   obtain⟨a,_,ha,_,hea⟩:=hp e (gone_mem he);refine⟨a,ha,hea,fun h=>?_⟩
   have:=(List.mem_filter.1 he).2
   rw[hea] at this;rcases (at_or_below ha ht htn).2 h with e1 | e1
   ·rw[e1] at this;cases this
   ·rw[e1] at this;simp at this
  by_cases htm:t <+: m
  ·obtain⟨r,rfl⟩:=htm
   rw[zzD (List.prefix_append _ _),List.drop_left];have hv:Valids (f++r):=hf.append hm.right;have hne:f++r ≠ []:=by simp[hfn]
   rw[find_map_eq _ _ (fun e=>decide (e.1=joinP (f++r))) _ (fun e he=>?_)]
   ·have h1:=look_gone (nodes:=nodes) ht htn hv
    rw[zzB (comp r),look_ne hne] at h1;rw[<-h1,Option.map_map]
    congr 1
    funext e
    show (movedPR (joinP f) (joinP t) e).2=e.2;unfold movedPR;split <;> rfl
   ·obtain⟨a,ha,hea,hta⟩:=key e he
    obtain⟨p,k,n⟩:=e;simp only at hea;subst hea;rw[moved_names hf hfn htn ha];by_cases hfa:f <+: a
    ·obtain⟨s,rfl⟩:=hfa
     rw[zzD (List.prefix_append _ _),List.drop_left];have hs:Valids s:=ha.right;by_cases hsr:s=r
     ·subst hsr;simp
     ·rw[zzE (fun e=>hsr (List.append_cancel_left (joinP_inj (ht.append hs) hm e))),zzE (fun e=>hsr (List.append_cancel_left (joinP_inj ha hv e)))]
    ·rw[zzB hfa,zzE (fun e=>hta (by rw[joinP_inj ha hm e];exact List.prefix_append _ _)),zzE (fun e=>hfa (by rw[joinP_inj ha hv e];exact List.prefix_append _ _))]
  ·rw[zzB htm]
   by_cases hfm:f <+: m
   ·rw[zzD hfm,find_map_eq _ _ (fun _=>false) _ (fun e he=>?_)]
    ·have:(goneP nodes (joinP t)).find? (fun _=>false)=none:=by simp
     rw[this];rfl
    ·obtain⟨a,ha,hea,hta⟩:=key e he
     obtain⟨p,k,n⟩:=e;simp only at hea;subst hea;rw[moved_names hf hfn htn ha];by_cases hfa:f <+: a
     ·obtain⟨s,rfl⟩:=hfa
      rw[zzD (List.prefix_append _ _),List.drop_left];exact zzE (fun e=>htm (by rw[<-joinP_inj (ht.append ha.right) hm e];exact List.prefix_append _ _))
     ·rw[zzB hfa]
      exact zzE (fun e=>hfa (by rw[joinP_inj ha hm e];exact hfm))
   ·rw[zzB hfm,find_map_eq _ _ (fun e=>decide (e.1=joinP m)) _ (fun e he=>?_)]
    ·have h1:=look_gone (nodes:=nodes) ht htn hm
     rw[zzB htm,look_ne h0] at h1;rw[<-h1,Option.map_map]
     congr 1
     funext e
     show (movedPR (joinP f) (joinP t) e).2=e.2;unfold movedPR;split <;> rfl
    ·obtain⟨a,ha,hea,hta⟩:=key e he
     obtain⟨p,k,n⟩:=e;simp only at hea;subst hea;rw[moved_names hf hfn htn ha];by_cases hfa:f <+: a
     ·obtain⟨s,rfl⟩:=hfa
      rw[zzD (List.prefix_append _ _),List.drop_left,zzE (fun e=>htm (by rw[<-joinP_inj (ht.append ha.right) hm e];exact List.prefix_append _ _)),zzE (fun e=>hfm (by rw[<-joinP_inj ha hm e];exact List.prefix_append _ _))]
     ·rw[zzB hfa]
theorem nodup_sub_len {α:Type}[DecidableEq α]:∀{xs ys:List α},xs.Nodup->(∀x ∈ xs,x ∈ ys)->xs.length<=ys.length
 | [],_,_,_=>zzF _
 | x :: r,ys,hn,hs=>by
  have hx:x ∈ ys:=hs x (List.mem_cons_self ..)
  have h1:∀z ∈ r,z ∈ ys.erase x:=fun z hz=>by
   have hne:z≠x:=fun e=>(List.nodup_cons.1 hn).1 (e ▸ hz)
   exact (List.mem_erase_of_ne hne).2 (hs z (List.mem_cons_of_mem _ hz))
  have h2:=nodup_sub_len (List.nodup_cons.1 hn).2 h1
  have h3:=List.length_erase_of_mem hx
  have h4:0<ys.length:=List.length_pos_of_mem hx
  simp only[List.length_cons]
  omega
theorem nodup_of_map {α β:Type}(f:α->β){l:List α}(h:(l.map f).Nodup):l.Nodup:=(List.pairwise_map.1 h).imp (fun hab e=>hab (congrArg f e))
theorem nodup_map_on {α β:Type}{f:α->β}{l:List α}(h:∀a ∈ l,∀b ∈ l,f a=f b->a=b)(hn:l.Nodup):(l.map f).Nodup:=List.pairwise_map.2 (List.Pairwise.imp_of_mem (fun {a b} ha hb hab e=>hab (h a ha b hb e)) hn)
theorem mem_items {nodes:List Ent}(hp:Pathed nodes){d:List ByteArray}(hd:Valids d){e:Ent}:e ∈ itemsP nodes (joinP d) ↔ ∃x,validB x=true/\(∃n ∈ nodes,n.1=joinP (d ++ [x]))/\e=(x,0,0):=by
 unfold itemsP;rw[List.mem_map];constructor
 ·rintro ⟨n,hn,rfl⟩
  obtain⟨hn1,hn2⟩:=List.mem_filter.1 hn;obtain⟨a,_,ha,_,hea⟩:=hp n hn1;rw[hea] at hn2;obtain⟨x,rfl⟩:=(inside_names ha hd).1 hn2;exact⟨x,ha x (by simp),⟨n,hn1,hea⟩,by rw[hea,last_names ha]⟩
 ·rintro ⟨x,hx,⟨n,hn,hne⟩,rfl⟩
  have hv:Valids (d ++ [x]):=hd.append (fun y hy=>by rw[List.mem_singleton.1 hy];exact hx);exact⟨n,List.mem_filter.2 ⟨hn,by rw[hne];exact (inside_names hv hd).2 ⟨x,rfl⟩⟩,by rw[hne,last_names hv]⟩
theorem look_some {nodes:List Ent}{l:List ByteArray}(hne:l ≠ []):lookN nodes l≠none ↔ ∃n ∈ nodes,n.1=joinP l:=by
 rw[look_ne hne];constructor
 ·intro h
  cases hf:nodes.find? (fun e=>decide (e.1=joinP l)) with
  | none=>rw[hf] at h;exact absurd rfl h
  | some n=>exact⟨n,List.mem_of_find?_eq_some hf,of_decide_eq_true (List.find?_some (p:=fun e:Ent=>decide (e.1=joinP l)) hf)⟩
 ·rintro ⟨n,hn,he⟩ h
  have:nodes.find? (fun e=>decide (e.1=joinP l))=none:=by simpa using h
  have h2:=List.find?_eq_none.1 this n hn;simp[he] at h2
theorem mem_names {nodes:List Ent}(hp:Pathed nodes){d:List ByteArray}(hd:Valids d){x:ByteArray}:x ∈ namesP nodes (joinP d)↔validB x=true/\lookN nodes (d ++ [x])≠none:=by
 unfold namesP;rw[List.mem_map,look_some (by simp)];constructor
 ·rintro ⟨e,he,rfl⟩
  obtain⟨y,hy,hn,rfl⟩:=(mem_items hp hd).1 (mem_insAll he);exact⟨hy,hn⟩
 ·rintro ⟨hx,hn⟩
  exact⟨(x,0,0),(insAll_perm _).mem_iff.2 ((mem_items hp hd).2 ⟨x,hx,hn,rfl⟩),rfl⟩
theorem items_nodup {nodes:List Ent}(hp:Pathed nodes)(ho:OnePath nodes){d:List ByteArray}(hd:Valids d):((itemsP nodes (joinP d)).map (·.1)).Nodup:=by
 unfold itemsP;rw[List.map_map];unfold OnePath at ho;have hnd:nodes.Nodup:=nodup_of_map _ ho;have hsub:(nodes.filter (fun e=>insideP e.1 (joinP d))).Nodup:=hnd.filter _;have hinj:∀a ∈ nodes,∀b ∈ nodes,a.1=b.1->a=b:=by
  intro a ha b hb e
  induction nodes with
  | nil=>cases ha
  | cons x r ih=>
   rw[List.map_cons,List.nodup_cons] at ho;rcases List.mem_cons.1 ha with rfl | ha' <;> rcases List.mem_cons.1 hb with rfl | hb'
   ·rfl
   ·exact absurd (List.mem_map.2 ⟨b,hb',e.symm⟩) ho.1
   ·exact absurd (List.mem_map.2 ⟨a,ha',e⟩) ho.1
   ·exact ih (fun z hz=>hp z (List.mem_cons_of_mem _ hz)) ho.2 (nodup_of_map _ ho.2) ((nodup_of_map _ ho.2).filter _) ha' hb'
 have key:∀a ∈ nodes.filter (fun e=>insideP e.1 (joinP d)),∀b ∈ nodes.filter (fun e=>insideP e.1 (joinP d)),lastP a.1=lastP b.1->a=b:=by
  intro a ha b hb e;obtain⟨ha1,ha2⟩:=List.mem_filter.1 ha;obtain⟨hb1,hb2⟩:=List.mem_filter.1 hb;obtain⟨la,_,hla,_,hea⟩:=hp a ha1;obtain⟨lb,_,hlb,_,heb⟩:=hp b hb1;rw[hea] at ha2;rw[heb] at hb2;obtain⟨x,rfl⟩:=(inside_names hla hd).1 ha2;obtain⟨y,rfl⟩:=(inside_names hlb hd).1 hb2;rw[hea,heb,last_names hla,last_names hlb] at e;subst e;exact hinj a ha1 b hb1 (by rw[hea,heb])
 exact nodup_map_on (f:=fun e:Ent=>lastP e.1) (fun a ha b hb e=>key a ha b hb e) hsub
theorem names_rising {nodes:List Ent}(hp:Pathed nodes)(ho:OnePath nodes){d:List ByteArray}(hd:Valids d):Rising (insAll (itemsP nodes (joinP d))):=rising_insAll (items_nodup hp ho hd)
theorem names_nodup {nodes:List Ent}(hp:Pathed nodes)(ho:OnePath nodes){d:List ByteArray}(hd:Valids d):(namesP nodes (joinP d)).Nodup:=by
 unfold namesP;exact ((insAll_perm _).map _).nodup_iff.2 (items_nodup hp ho hd)
structure SoundR (nodes:List Ent)(data:List ByteArray):Prop where
 pathed:Pathed nodes
 one:OnePath nodes
 few:∀d,Valids d->(itemsP nodes (joinP d)).length<=16
 kinds:∀e ∈ nodes,e.2.1=1\/e.2.1=2
 files:∀e ∈ nodes,e.2.1=1->0<=e.2.2/\e.2.2<(data.length:Int)
 up:∀l x,Valids (l ++ [x])->lookN nodes (l ++ [x])≠none->∃f,lookN nodes l=some (2,f)
theorem joinP_size {l:List ByteArray}(hv:Valids l)(h5:l.length<=5):(joinP l).size<=65:=by
 have:=joinTo_size l (fun x hx=>(valid_size (hv x hx)).2) l.length
 unfold joinP;omega
theorem SoundR.small {nodes:List Ent}{data:List ByteArray}(h:SoundR nodes data):∀e ∈ nodes,e.1.size<=65:=fun e he=>by
 obtain⟨l,_,hv,h5,hea⟩:=h.pathed e he
 rw[hea];exact joinP_size hv h5
theorem items_none {nodes:List Ent}{d:ByteArray}(h:∀e ∈ nodes,insideP e.1 d=false):itemsP nodes d = []:=by
 unfold itemsP;rw[List.filter_eq_nil_iff.2 (fun e he=>by rw[h e he];decide)];rfl
theorem SoundR.fine {nodes:List Ent}{data:List ByteArray}(h:SoundR nodes data)(hb:nodes.length<=1000000000):FineN nodes data:=by
 refine⟨hb,fun e he=>zzG (h.small e he) (by decide),fun d=>?_,h.files⟩;by_cases hx:∃e ∈ nodes,insideP e.1 d=true
 ·obtain⟨e,he,hi⟩:=hx
  obtain⟨l,hl0,hv,_,hea⟩:=h.pathed e he;unfold insideP at hi;rw[hea,split_fst hv,Bool.and_eq_true] at hi;have hd:d=joinP (l.take (l.length-1)):=by
   apply toL_inj;rw[<-toL_eq,<-toL_eq];exact (eq_of_beq hi.2).symm
  rw[hd];exact h.few _ (hv.take _)
 ·rw[items_none (fun e he=>by cases hc:insideP e.1 d with | true=>exact absurd ⟨e,he,hc⟩ hx | false=>rfl)]
  exact zzF _
theorem look_kind {nodes:List Ent}{data:List ByteArray}(h:SoundR nodes data){l:List ByteArray}(hl:Valids l):(kindP nodes (joinP l)=0↔lookN nodes l=none)/\(kindP nodes (joinP l)=2 ↔ ∃f,lookN nodes l=some (2,f))/\(kindP nodes (joinP l)=1 ↔ ∃f,lookN nodes l=some (1,f)):=by
 rw[kind_look hl];cases hk:lookN nodes l with
 | none=>simp
 | some v=>
  obtain⟨k,f⟩:=v;have hkk:k=1\/k=2:=by
   by_cases h0:l = []
   ·subst h0
    have:lookN nodes []=some (2,0):=rfl
    rw[this] at hk;cases hk;exact .inr rfl
   ·rw[look_ne h0] at hk
    cases hf:nodes.find? (fun e=>decide (e.1=joinP l)) with
    | none=>rw[hf] at hk;cases hk
    | some e=>
     rw[hf] at hk
     have:=h.kinds e (List.mem_of_find?_eq_some hf)
     have h2:e.2=(k,f):=Option.some.inj hk;rw[h2] at this;exact this
  rcases hkk with rfl | rfl <;> simp
theorem items_push {nodes:List Ent}{e:Ent}{d:ByteArray}:(itemsP (nodes ++ [e]) d).length=(itemsP nodes d).length+if insideP e.1 d=true then 1 else 0:=by
 unfold itemsP;rw[List.filter_append,List.map_append,List.length_append];cases h:insideP e.1 d <;> simp[h]
theorem SoundR.push {nodes:List Ent}{data:List ByteArray}(h:SoundR nodes data){l:List ByteArray}{x:ByteArray}(hv:Valids (l ++ [x]))(h5:(l ++ [x]).length<=5)(hpar:∃f,lookN nodes l=some (2,f))(hn:lookN nodes (l ++ [x])=none)(h16:(itemsP nodes (joinP l)).length<16){kd f:Int}{data2:List ByteArray}(hkd:kd=1\/kd=2)(hlen:data.length<=data2.length)(hfn:kd=1->0<=f/\f<(data2.length:Int)):SoundR (nodes ++ [(joinP (l ++ [x]),kd,f)]) data2:=by
 have hne:l ++ [x] ≠ []:=by simp
 have look:=fun {m:List ByteArray} (hm:Valids m)=>look_push (k:=kd) (f:=f) hv hne hm hn;refine⟨fun e he=>?_,?_,fun d hd=>?_,fun e he=>?_,fun e he hk=>?_,fun m y hm hs=>?_⟩
 ·rcases List.mem_append.1 he with he | he
  ·exact h.pathed e he
  ·rw[List.mem_singleton.1 he];exact⟨l ++ [x],hne,hv,h5,rfl⟩
 ·unfold OnePath
  rw[List.map_append,List.nodup_append];refine⟨h.one,by simp,fun a ha b hb e=>?_⟩;simp only[List.map_cons,List.map_nil,List.mem_singleton] at hb;obtain⟨n,hn1,hn2⟩:=List.mem_map.1 ha;exact (look_some hne).2 ⟨n,hn1,by rw[hn2,e,hb]⟩ hn
 ·rw[items_push]
  split
  ·next hi=>
   obtain⟨y,hy⟩:=(inside_names hv hd).1 hi
   have:l=d:=(List.append_inj' hy rfl).1
   subst this;omega
  ·have:=h.few d hd;omega
 ·rcases List.mem_append.1 he with he | he
  ·exact h.kinds e he
  ·rw[List.mem_singleton.1 he];exact hkd
 ·rcases List.mem_append.1 he with he | he
  ·have:=h.files e he hk;omega
  ·rw[List.mem_singleton.1 he] at hk ⊢;exact hfn hk
 ·rw[look hm] at hs
  have hml:Valids m:=hm.left;rw[look hml];by_cases e:m ++ [y]=l ++ [x]
  ·have:m=l:=(List.append_inj' e rfl).1
   subst this;rw[zzB (fun e2=>by have:=congrArg List.length e2;simp at this)];exact hpar
  ·rw[zzB e] at hs
   obtain⟨f,hf⟩:=h.up m y hm hs;rw[zzB (fun e2=>by rw[e2,hn] at hf;cases hf)];exact⟨f,hf⟩
theorem SoundR.mkdir {nodes:List Ent}{data:List ByteArray}(h:SoundR nodes data){l:List ByteArray}{x:ByteArray}(hv:Valids (l ++ [x]))(h5:(l ++ [x]).length<=5)(hpar:∃f,lookN nodes l=some (2,f))(hn:lookN nodes (l ++ [x])=none)(h16:(itemsP nodes (joinP l)).length<16):SoundR (nodes ++ [(joinP (l ++ [x]),2,0)]) data:=h.push hv h5 hpar hn h16 (.inr rfl) (zzC _) (fun e=>by cases e)
theorem items_gone_le (nodes:List Ent)(p d:ByteArray):(itemsP (goneP nodes p) d).length<=(itemsP nodes d).length:=by
 unfold itemsP goneP;rw[List.length_map,List.length_map,List.filter_filter]
 have:(nodes.filter (fun a=>insideP a.1 d && (!(a.1.toList == p.toList) && !(underP a.1 p)))).length<=(nodes.filter (fun e=>insideP e.1 d)).length:=by
  rw[<-List.filter_filter];have h:=List.Sublist.filter (fun e:Ent=>insideP e.1 d) (List.filter_sublist (p:=fun a:Ent=>!(a.1.toList == p.toList) && !(underP a.1 p)) (l:=nodes));exact h.length_le
 exact this
theorem SoundR.gone {nodes:List Ent}{data:List ByteArray}(h:SoundR nodes data){l:List ByteArray}(hl:Valids l)(hne:l ≠ []):SoundR (goneP nodes (joinP l)) data:=by
 refine⟨h.pathed.gone _,?_,fun d hd=>zzG (items_gone_le _ _ _) (h.few d hd),fun e he=>h.kinds e (gone_mem he),fun e he hk=>h.files e (gone_mem he) hk,fun m y hm hs=>?_⟩
 ·exact h.one.sublist ((List.filter_sublist (l:=nodes)).map _)
 ·rw[look_gone hl hne hm] at hs
  have hp:¬l <+: m ++ [y]:=fun hp=>by rw[zzD hp] at hs;exact hs rfl
  rw[zzB hp] at hs;obtain⟨f,hf⟩:=h.up m y hm hs;rw[look_gone hl hne hm.left,zzB (fun hp2=>hp (hp2.trans (List.prefix_append _ _)))];exact⟨f,hf⟩
theorem moved_snd (f t:ByteArray)(e:Ent):(movedPR f t e).2=e.2:=by unfold movedPR;split <;> rfl
theorem gone_key {nodes:List Ent}{t:List ByteArray}(hp:Pathed nodes)(ht:Valids t)(htn:t ≠ []):∀e ∈ goneP nodes (joinP t),∃a,a ≠ []/\Valids a/\a.length<=5/\e.1=joinP a/\¬t <+: a:=fun e he=>by
 obtain⟨a,ha0,ha,h5,hea⟩:=hp e (gone_mem he)
 refine⟨a,ha0,ha,h5,hea,fun h=>?_⟩
 have:=(List.mem_filter.1 he).2
 rw[hea] at this
 rcases (at_or_below ha ht htn).2 h with e1 | e1
 ·rw[e1] at this;cases this
 ·rw[e1] at this;simp at this
theorem moved_fst {f t a:List ByteArray}{e:Ent}(hf:Valids f)(hfn:f ≠ [])(ht:t ≠ [])(ha:Valids a)(he:e.1=joinP a):(movedPR (joinP f) (joinP t) e).1=joinP (if f <+: a then t++a.drop f.length else a):=by
 obtain⟨p,k,n⟩:=e;simp only at he;subst he;rw[moved_names hf hfn ht ha];split <;> rfl
theorem drop_valid {a:List ByteArray}(h:Valids a)(k:Nat):Valids (a.drop k):=fun x hx=>h x (List.mem_of_mem_drop hx)
theorem SoundR.rename {nodes:List Ent}{data:List ByteArray}(h:SoundR nodes data){F P:List ByteArray}{y:ByteArray}(hF:Valids F)(hFn:F ≠ [])(hT:Valids (P ++ [y]))(hdeep:∀e ∈ nodes,∀a,Valids a->e.1=joinP a->F <+: a->(P ++ [y]).length+(a.length-F.length)<=5)(hFT:¬F <+: P ++ [y])(hTF:¬P ++ [y] <+: F)
  (hpar:∃g,lookN nodes P=some (2,g))(hcnt:lookN nodes (P ++ [y])≠none\/(itemsP nodes (joinP P)).length<16\/∃z,F=P ++ [z]/\lookN nodes F≠none):
  SoundR ((goneP nodes (joinP (P ++ [y]))).map (movedPR (joinP F) (joinP (P ++ [y])))) data:=by
 have hTn:P ++ [y] ≠ []:=by simp
 have key:=gone_key h.pathed hT hTn;have look:=fun {m:List ByteArray} (hm:Valids m)=>look_rename h.pathed hF hFn hT hTn hFT hTF hm;have pathed:Pathed ((goneP nodes (joinP (P ++ [y]))).map (movedPR (joinP F) (joinP (P ++ [y])))):=by
  intro e' he';obtain⟨e,he,rfl⟩:=List.mem_map.1 he';obtain⟨a,ha0,ha,h5,hea,hta⟩:=key e he;rw[moved_fst hF hFn hTn ha hea];by_cases hfa:F <+: a
  ·rw[zzD hfa]
   refine⟨_,by simp,hT.append (drop_valid ha _),?_,rfl⟩
   have:=hdeep e (gone_mem he) a ha hea hfa
   rw[List.length_append,List.length_drop];exact this
  ·rw[zzB hfa]
   exact⟨a,ha0,ha,h5,rfl⟩
 have one:OnePath ((goneP nodes (joinP (P ++ [y]))).map (movedPR (joinP F) (joinP (P ++ [y])))):=by
  unfold OnePath;rw[List.map_map];have hg:((goneP nodes (joinP (P ++ [y]))).map (·.1)).Nodup:=(h.gone hT hTn).one;refine nodup_map_on (fun e1 h1 e2 h2 he=>?_) (nodup_of_map _ hg);obtain⟨a1,_,v1,_,p1,t1⟩:=key e1 h1;obtain⟨a2,_,v2,_,p2,t2⟩:=key e2 h2;simp only[Function.comp] at he;rw[moved_fst hF hFn hTn v1 p1,moved_fst hF hFn hTn v2 p2] at he;have hvv:∀{a:List ByteArray},Valids a->Valids (if F <+: a then (P ++ [y])++a.drop F.length else a):=fun {a} ha=>by
   split
   ·exact hT.append (drop_valid ha _)
   ·exact ha
  have hq:=joinP_inj (hvv v1) (hvv v2) he;have hpe:a1=a2:=by
   by_cases f1:F <+: a1 <;> by_cases f2:F <+: a2
   ·rw[zzD f1,zzD f2] at hq
    obtain⟨r1,rfl⟩:=f1;obtain⟨r2,rfl⟩:=f2;rw[List.drop_left,List.drop_left] at hq;rw[List.append_cancel_left hq]
   ·rw[zzD f1,zzB f2] at hq
    exact absurd ⟨_,hq⟩ t2
   ·rw[zzB f1,zzD f2] at hq
    exact absurd ⟨_,hq.symm⟩ t1
   ·rw[zzB f1,zzB f2] at hq
    exact hq
  have hfst:e1.1=e2.1:=by rw[p1,p2,hpe]
  have:∀{l:List Ent},(l.map (·.1)).Nodup->∀{a b:Ent},a ∈ l->b ∈ l->a.1=b.1->a=b:=by
   intro l hl a b ha hb e
   induction l with
   | nil=>cases ha
   | cons x r ih=>
    rw[List.map_cons,List.nodup_cons] at hl;rcases List.mem_cons.1 ha with rfl | ha' <;> rcases List.mem_cons.1 hb with rfl | hb'
    ·rfl
    ·exact absurd (List.mem_map.2 ⟨b,hb',e.symm⟩) hl.1
    ·exact absurd (List.mem_map.2 ⟨a,ha',e⟩) hl.1
    ·exact ih hl.2 ha' hb'
  exact this hg h1 h2 hfst
 have in_old:∀{d:List ByteArray} {x:ByteArray},Valids d->validB x=true->lookN nodes (d ++ [x])≠none->x ∈ namesP nodes (joinP d):=fun hd hx hl=>(mem_names h.pathed hd).2 ⟨hx,hl⟩;refine⟨pathed,one,fun d hd=>?_,fun e he=>?_,fun e he hk=>?_,fun m x hm hs=>?_⟩
 ·rw[<-names_len]
  have hnd:=names_nodup pathed one hd;have hmem:∀x ∈ namesP ((goneP nodes (joinP (P ++ [y]))).map (movedPR (joinP F) (joinP (P ++ [y])))) (joinP d),validB x=true/\Valids (d ++ [x])/\(if P ++ [y] <+: d ++ [x] then lookN nodes (F++(d ++ [x]).drop (P ++ [y]).length) else if F <+: d ++ [x] then none else lookN nodes (d ++ [x]))≠none:=fun x hx=>by
   obtain⟨h1,h2⟩:=(mem_names pathed hd).1 hx;have hv:Valids (d ++ [x]):=hd.append (fun z hz=>by rw[List.mem_singleton.1 hz];exact h1);rw[look hv] at h2;exact⟨h1,hv,h2⟩
  have l16:∀{d},Valids d->(namesP nodes (joinP d)).length<=16:=fun hd=>by rw[names_len];exact h.few _ hd
  by_cases hTd:P ++ [y] <+: d
  ·obtain⟨r,rfl⟩:=hTd
   refine zzG (nodup_sub_len hnd (fun x hx=>?_)) (l16 (hF.append hd.right));obtain⟨h1,hv,h2⟩:=hmem x hx;rw[zzD ((List.prefix_append _ r).trans (List.prefix_append _ _)),List.append_assoc,List.drop_left,<-List.append_assoc] at h2;exact in_old (hF.append hd.right) h1 h2
  ·by_cases hPd:d=P
   ·subst hPd
    have sub:∀x ∈ namesP ((goneP nodes (joinP (d ++ [y]))).map (movedPR (joinP F) (joinP (d ++ [y])))) (joinP d),x=y\/(x ∈ namesP nodes (joinP d)/\¬F <+: d ++ [x]):=fun x hx=>by
     obtain⟨h1,hv,h2⟩:=hmem x hx;by_cases e:d ++ [y] <+: d ++ [x]
     ·obtain⟨r,hr⟩:=e
      have:r = []:=by
       have:=congrArg List.length hr
       simp at this;exact this
      subst this;rw[List.append_nil] at hr
      have:=List.append_cancel_left hr
      exact .inl (List.cons.inj this).1.symm
     ·rw[zzB e] at h2
      by_cases e2:F <+: d ++ [x]
      ·rw[zzD e2] at h2;exact absurd rfl h2
      ·rw[zzB e2] at h2
       exact .inr ⟨in_old hd h1 h2,e2⟩
    have hyv:validB y=true:=hT y (by simp);rcases hcnt with hc | hc | ⟨z,hz,hzl⟩
    ·exact zzG (nodup_sub_len hnd (fun x hx=>(sub x hx).elim (fun e=>by rw[e];exact in_old hd hyv hc) (·.1))) (l16 hd)
    ·have hle:=nodup_sub_len hnd (ys:=y :: namesP nodes (joinP d)) (fun x hx=>(sub x hx).elim (fun e=>by rw[e];exact List.mem_cons_self ..) (fun e=>List.mem_cons_of_mem _ e.1))
     rw[List.length_cons,names_len nodes] at hle;omega
    ·have hzv:validB z=true:=hF z (by rw[hz];simp)
     have hzm:z ∈ namesP nodes (joinP d):=in_old hd hzv (by rw[<-hz];exact hzl);have hle:=nodup_sub_len hnd (ys:=y :: (namesP nodes (joinP d)).filter (fun u=>decide (u≠z))) (fun x hx=>(sub x hx).elim (fun e=>by rw[e];exact List.mem_cons_self ..) (fun e=>List.mem_cons_of_mem _ (List.mem_filter.2 ⟨e.1,decide_eq_true (fun exz=>e.2 (by rw[exz,hz];exact List.prefix_rfl))⟩)));have hlt:((namesP nodes (joinP d)).filter (fun u=>decide (u≠z))).length<(namesP nodes (joinP d)).length:=List.length_filter_lt_length_iff_exists.2 ⟨z,hzm,by simp⟩;rw[List.length_cons] at hle
     have:=l16 hd
     omega
   ·refine zzG (nodup_sub_len hnd (fun x hx=>?_)) (l16 hd)
    obtain⟨h1,hv,h2⟩:=hmem x hx;have hnp:¬P ++ [y] <+: d ++ [x]:=fun e=>by
     rcases List.prefix_concat_iff.1 (by simpa using e) with e | e
     ·exact hPd (List.append_inj' e rfl).1.symm
     ·exact hTd e
    rw[zzB hnp] at h2;by_cases e2:F <+: d ++ [x]
    ·rw[zzD e2] at h2;exact absurd rfl h2
    ·rw[zzB e2] at h2
     exact in_old hd h1 h2
 ·obtain⟨e0,he0,rfl⟩:=List.mem_map.1 he
  rw[moved_snd];exact h.kinds e0 (gone_mem he0)
 ·obtain⟨e0,he0,rfl⟩:=List.mem_map.1 he
  rw[moved_snd] at hk ⊢;exact h.files e0 (gone_mem he0) hk
 ·rw[look hm] at hs
  rw[look hm.left];by_cases hTm:P ++ [y] <+: m
  ·obtain⟨r,rfl⟩:=hTm
   rw[zzD ((List.prefix_append _ r).trans (List.prefix_append _ _)),List.append_assoc,List.drop_left,<-List.append_assoc] at hs;rw[zzD (List.prefix_append _ _),List.drop_left];have hv:Valids (F++r ++ [x]):=(hF.append hm.left.right).append hm.right;exact h.up (F++r) x hv hs
  ·rw[zzB hTm]
   by_cases hTx:P ++ [y] <+: m ++ [x]
   ·rcases List.prefix_concat_iff.1 (by simpa using hTx) with e | e
    ·have:P=m:=(List.append_inj' e rfl).1
     subst this;rw[zzB (fun e=>hFT (e.trans (List.prefix_append _ _)))];exact hpar
    ·exact absurd e hTm
   ·rw[zzB hTx] at hs
    by_cases e2:F <+: m ++ [x]
    ·rw[zzD e2] at hs;exact absurd rfl hs
    ·rw[zzB e2] at hs
     rw[zzB (fun e=>e2 (e.trans (List.prefix_append _ _)))];exact h.up m x hm hs
theorem way_zero {nodes:List Ent}{l:List ByteArray}(h:wayP nodes l=0):∀k,k<l.length->kindP nodes (joinP (l.take k))=2/\kindP nodes (joinP (l.take (k+1)))≠0:=by
 intro k hk;have hall:∀j,j<l.length->wayAt nodes l j=none:=by
  intro j hj;cases hw:(List.range l.length).findSome? (wayAt nodes l) with
  | none=>exact List.findSome?_eq_none_iff.1 hw j (List.mem_range.2 hj)
  | some e=>
   exfalso;unfold wayP at h;rw[hw] at h;obtain⟨i,_,hi⟩:=List.exists_of_findSome?_eq_some hw;unfold wayAt at hi;split at hi
   ·cases hi;cases h
   ·split at hi
    ·cases hi;cases h
    ·cases hi
 have:=hall k hk
 unfold wayAt at this;split at this
 ·cases this
 ·next h1=>
  split at this
  ·cases this
  ·next h2=>exact⟨by simpa using h1,h2⟩
theorem way_look {nodes:List Ent}{data:List ByteArray}(hs:SoundR nodes data){l:List ByteArray}(hl:Valids l)(hne:l ≠ [])(h:wayP nodes l=0):lookN nodes l≠none:=by
 have hp:0<l.length:=List.length_pos_iff.2 hne
 have:=(way_zero h (l.length-1) (by omega)).2
 rw[show l.length-1+1=l.length by omega,List.take_length] at this;exact fun e=>this ((look_kind hs hl).1.2 e)
theorem up_look {nodes:List Ent}{data:List ByteArray}(hs:SoundR nodes data){l:List ByteArray}{x:ByteArray}(hl:Valids (l ++ [x]))(h:upP nodes (l ++ [x])=0):∃f,lookN nodes l=some (2,f):=by
 unfold upP at h;have e:(l ++ [x]).take ((l ++ [x]).length-1)=l:=by simp
 rw[e] at h;split at h
 ·next h1=>exact absurd h h1
 ·split at h
  ·cases h
  ·next h2=>exact (look_kind hs hl.left).2.1.1 (by simpa using h2)
theorem path_snoc {p:ByteArray}(hok:(splitP p).2=true)(h0:(splitP p).1.length≠0):∃l x,(splitP p).1=l ++ [x]/\p=joinP (l ++ [x])/\Valids (l ++ [x])/\(l ++ [x]).length<=5:=by
 have hv:Valids (splitP p).1:=split_valid p;have h5:=split_ok_len hok;have hj:=join_split hok;obtain⟨l,x,e⟩:∃l x,(splitP p).1=l ++ [x]:=by
  have hne:(splitP p).1 ≠ []:=fun e=>h0 (by rw[e];rfl);exact⟨(splitP p).1.dropLast,(splitP p).1.getLast hne,(List.dropLast_concat_getLast hne).symm⟩
 rw[e] at hv h5 hj;exact⟨l,x,e,hj.symm,hv,h5⟩
theorem mkdir_sound {nodes:List Ent}{data:List ByteArray}(hs:SoundR nodes data)(p:ByteArray):
  ((mkdirP nodes p).2≠0/\(mkdirP nodes p).1=nodes)\/((mkdirP nodes p).2=0/\∃l x,p=joinP (l ++ [x])/\Valids (l ++ [x])/\(l ++ [x]).length<=5/\lookN nodes (l ++ [x])=none/\SoundR (mkdirP nodes p).1 data/\∀m,Valids m->lookN (mkdirP nodes p).1 m=if m=l ++ [x] then some (2,0) else lookN nodes m):=by
 unfold mkdirP;split
 ·exact .inl ⟨by simp,rfl⟩
 ·next h1=>
  have hok:(splitP p).2=true:=by simpa using h1
  split
  ·exact .inl ⟨by simp,rfl⟩
  ·next h2=>
   obtain⟨l,x,e,hp,hv,h5⟩:=path_snoc hok h2;have et:(l ++ [x]).take ((l ++ [x]).length-1)=l:=by simp
   rw[e,et];split
   ·next h3=>exact .inl ⟨h3,rfl⟩
   ·next h3=>
    split
    ·exact .inl ⟨by simp,rfl⟩
    ·next h4=>
     split
     ·exact .inl ⟨by simp,rfl⟩
     ·next h5'=>
      have hup:=up_look hs hv (by simpa using h3);have hn:lookN nodes (l ++ [x])=none:=(look_kind hs hv).1.1 (by rw[<-hp];simpa using h4);rw[hp];refine .inr ⟨rfl,l,x,rfl,hv,h5,hn,hs.mkdir hv h5 hup hn (by omega),fun m hm=>look_push hv (by simp) hm hn⟩
theorem remove_sound {nodes:List Ent}{data:List ByteArray}(hs:SoundR nodes data)(p:ByteArray):
  ((removeP nodes p).2≠0/\(removeP nodes p).1=nodes)\/((removeP nodes p).2=0/\∃l x,p=joinP (l ++ [x])/\Valids (l ++ [x])/\(l ++ [x]).length<=5/\lookN nodes (l ++ [x])≠none/\itemsP nodes p = []/\SoundR (removeP nodes p).1 data/\∀m,Valids m->lookN (removeP nodes p).1 m=if l ++ [x] <+: m then none else lookN nodes m):=by
 unfold removeP;split
 ·exact .inl ⟨by simp,rfl⟩
 ·next h1=>
  have hok:(splitP p).2=true:=by simpa using h1
  split
  ·exact .inl ⟨by simp,rfl⟩
  ·next h2=>
   obtain⟨l,x,e,hp,hv,h5⟩:=path_snoc hok h2;rw[e];split
   ·next h3=>exact .inl ⟨h3,rfl⟩
   ·next h3=>
    split
    ·exact .inl ⟨by simp,rfl⟩
    ·next h4=>
     have hl:=way_look hs hv (by simp) (by simpa using h3);refine .inr ⟨rfl,l,x,hp,hv,h5,hl,List.eq_nil_of_length_eq_zero (by omega),?_,fun m hm=>?_⟩
     ·rw[hp];exact hs.gone hv (by simp)
     ·rw[hp];exact look_gone hv (by simp) hm
theorem below_items {nodes:List Ent}{data:List ByteArray}(hs:SoundR nodes data){T:List ByteArray}:∀(r:List ByteArray),r ≠ []->Valids (T++r)->lookN nodes (T++r)≠none->(∃f,lookN nodes T=some (2,f))/\itemsP nodes (joinP T) ≠ []
 | [],h,_,_=>absurd rfl h
 | [x],_,hv,hl=>by
  refine⟨hs.up T x hv hl,fun e=>?_⟩
  have hm:=(mem_names hs.pathed hv.left).2 ⟨hv x (by simp),hl⟩
  unfold namesP at hm
  rw[e] at hm
  cases hm
 | x :: y :: r,_,hv,hl=>by
  have h1:∃f,lookN nodes (T++(x :: y :: r).dropLast)=some (2,f):=by
   have e:T++x :: y :: r=(T++(x :: y :: r).dropLast) ++ [(x :: y :: r).getLast (by simp)]:=by rw[List.append_assoc,List.dropLast_concat_getLast]
   rw[e] at hv hl;exact hs.up _ _ hv hl
  have hv2:Valids (T++(x :: y :: r).dropLast):=fun z hz=>hv z (by
   rcases List.mem_append.1 hz with h | h
   ·exact List.mem_append_left _ h
   ·exact List.mem_append_right _ ((List.dropLast_prefix _).subset h))
  obtain⟨f,hf⟩:=h1;exact below_items hs ((x :: y :: r).dropLast) (by simp) hv2 (by rw[hf];simp)
 termination_by r=>r.length
 decreasing_by simp
theorem deep_ok {nodes:List Ent}{f:List ByteArray}{n m:Nat}(hf:Valids f)(hfn:f ≠ [])(hn:n=f.length)(h:nodes.any (tooDeep (joinP f) n m)=false):∀e ∈ nodes,∀a,Valids a->e.1=joinP a->f <+: a->a≠f->m+(a.length-f.length)<=5:=by
 intro e he a ha hea hfa hne;have h1:=List.any_eq_false.1 h e he;have hu:underP e.1 (joinP f)=true:=by
  rw[hea];rcases prefix_split.2 hfa with e1 | e1
  ·exact absurd e1 hne
  ·exact (under_names ha hf hfn).2 e1
 unfold tooDeep at h1;rw[hu,hea,split_fst ha] at h1;simp only[Bool.true_and,decide_eq_true_eq] at h1;have hle:f.length<=a.length:=hfa.length_le;omega
theorem rename_sound {nodes:List Ent}{data:List ByteArray}(hs:SoundR nodes data)(f t:ByteArray):
  ((renameP nodes f t).1=nodes/\((renameP nodes f t).2≠0\/f=t))\/((renameP nodes f t).2=0/\∃F P y,f=joinP F/\t=joinP (P ++ [y])/\F ≠ []/\Valids F/\F.length<=5/\Valids (P ++ [y])/\(P ++ [y]).length<=5/\lookN nodes F≠none/\¬F <+: P ++ [y]/\¬P ++ [y] <+: F/\SoundR (renameP nodes f t).1 data/\
   ∀m,Valids m->lookN (renameP nodes f t).1 m=if P ++ [y] <+: m then lookN nodes (F++m.drop (P ++ [y]).length) else if F <+: m then none else lookN nodes m):=by
 obtain⟨R,hR⟩:∃R,R=renameP nodes f t:=⟨_,rfl⟩;rw[<-hR];unfold renameP at hR;by_cases h1:(splitP f).2=false\/(splitP t).2=false
 ·rw[zzD h1] at hR
  rw[hR];exact .inl ⟨rfl,.inl (by simp)⟩
 rw[zzB h1] at hR;have ok1:(splitP f).2=true:=by cases h:(splitP f).2 with | true=>rfl | false=>exact absurd (.inl h) h1
 have ok2:(splitP t).2=true:=by cases h:(splitP t).2 with | true=>rfl | false=>exact absurd (.inr h) h1
 by_cases h2:(splitP f).1.length=0\/(splitP t).1.length=0
 ·rw[zzD h2] at hR
  rw[hR];exact .inl ⟨rfl,.inl (by simp)⟩
 rw[zzB h2] at hR;obtain⟨l,x,e1,hp1,hv1,h51⟩:=path_snoc ok1 (fun e=>h2 (.inl e));obtain⟨P,y,e2,hp2,hv2,h52⟩:=path_snoc ok2 (fun e=>h2 (.inr e));have et:(P ++ [y]).take ((P ++ [y]).length-1)=P:=by simp
 rw[e1,e2,et] at hR;obtain⟨F,hF⟩:∃F,F=l ++ [x]:=⟨_,rfl⟩;rw[<-hF] at hp1 hv1 h51 hR;have hFn:F ≠ []:=by rw[hF];simp
 by_cases h3:wayP nodes F≠0
 ·rw[zzD h3] at hR
  rw[hR];exact .inl ⟨rfl,.inl h3⟩
 rw[zzB h3] at hR;have hlF:=way_look hs hv1 hFn (by simpa using h3);by_cases h4:underP t f=true
 ·rw[zzD h4] at hR
  rw[hR];exact .inl ⟨rfl,.inl (by simp)⟩
 rw[zzB h4] at hR;by_cases h5:upP nodes (P ++ [y])≠0
 ·rw[zzD h5] at hR
  rw[hR];exact .inl ⟨rfl,.inl h5⟩
 rw[zzB h5] at hR;have hpar:=up_look hs hv2 (by simpa using h5);by_cases h6:(f.toList == t.toList)=true
 ·rw[zzD h6] at hR
  rw[hR];refine .inl ⟨rfl,.inr (toL_inj ?_)⟩;rw[<-toL_eq,<-toL_eq];exact eq_of_beq h6
 rw[zzB h6] at hR;have hne:F≠P ++ [y]:=fun e=>h6 (by rw[hp1,hp2,e];exact beq_self_eq_true _)
 have hFT:¬F <+: P ++ [y]:=fun hp=>by
  rcases prefix_split.2 hp with e | e
  ·exact hne e.symm
  ·exact h4 (by rw[hp1,hp2];exact (under_names hv2 hv1 hFn).2 e)
 by_cases h7:kindP nodes t=2/\kindP nodes f=1
 ·rw[zzD h7] at hR
  rw[hR];exact .inl ⟨rfl,.inl (by simp)⟩
 rw[zzB h7] at hR;by_cases h8:kindP nodes t=1/\kindP nodes f=2
 ·rw[zzD h8] at hR
  rw[hR];exact .inl ⟨rfl,.inl (by simp)⟩
 rw[zzB h8] at hR;by_cases h9:kindP nodes t=2/\0<(itemsP nodes t).length
 ·rw[zzD h9] at hR
  rw[hR];exact .inl ⟨rfl,.inl (by simp)⟩
 rw[zzB h9] at hR;by_cases h10:kindP nodes t=0/\16<=(itemsP nodes (joinP P)).length/\insideP f (joinP P)=false
 ·rw[zzD h10] at hR
  rw[hR];exact .inl ⟨rfl,.inl (by simp)⟩
 rw[zzB h10] at hR;by_cases h11:(nodes.any (tooDeep f F.length (P ++ [y]).length))=true
 ·rw[zzD h11] at hR
  rw[hR];exact .inl ⟨rfl,.inl (by simp)⟩
 rw[zzB h11] at hR;have hTF:¬P ++ [y] <+: F:=fun hp=>by
  rcases prefix_split.2 hp with e | ⟨r,hr,e⟩
  ·exact hne e
  ·rw[e] at hlF hv1
   obtain⟨hd,hi⟩:=below_items hs r hr hv1 hlF;refine h9 ⟨by rw[hp2];exact (look_kind hs hv2).2.1.2 hd,?_⟩;rw[hp2];exact List.length_pos_iff.2 hi
 have hany:nodes.any (tooDeep (joinP F) F.length (P ++ [y]).length)=false:=by rw[<-hp1];simpa using h11
 have hdeep:∀e ∈ nodes,∀a,Valids a->e.1=joinP a->F <+: a->(P ++ [y]).length+(a.length-F.length)<=5:=fun e he a ha hea hfa=>by
  by_cases haF:a=F
  ·rw[haF,Nat.sub_self];exact h52
  ·exact deep_ok hv1 hFn rfl hany e he a ha hea hfa haF
 have hcnt:lookN nodes (P ++ [y])≠none\/(itemsP nodes (joinP P)).length<16\/∃z,F=P ++ [z]/\lookN nodes F≠none:=by
  by_cases hT:lookN nodes (P ++ [y])=none
  ·right
   have hk0:kindP nodes t=0:=by rw[hp2];exact (look_kind hs hv2).1.2 hT
   by_cases h16:16<=(itemsP nodes (joinP P)).length
   ·right
    have hins:insideP f (joinP P)=true:=by
     cases hc:insideP f (joinP P) with
     | true=>rfl
     | false=>exact absurd ⟨hk0,h16,hc⟩ h10
    rw[hp1] at hins;obtain⟨z,hz⟩:=(inside_names hv1 hv2.left).1 hins;exact⟨z,hz,hlF⟩
   ·left;omega
  ·exact .inl hT
 rw[hR,hp1,hp2];exact .inr ⟨rfl,F,P,y,rfl,rfl,hFn,hv1,h51,hv2,h52,hlF,hFT,hTF,hs.rename hv1 hFn hv2 hdeep hFT hTF hpar hcnt,fun m hm=>look_rename hs.pathed hv1 hFn hv2 (by simp) hFT hTF hm⟩
def ndR (data:List ByteArray)(x:Int×Int):Nd:=if x.1=2 then .dir else .file ((data[x.2.toNat]?).getD ⟨#[]⟩)
def Reads (a:List Ob)(fc:FileC)(t:LT)(nodes:List Ent)(data:List ByteArray):Prop:=∀q,Valids q->sem a fc t q=(lookN nodes q).map (ndR data)
theorem pick_of9 {ks:Kids}(hr:RisingK ks){x:ByteArray×LT}(h:x ∈ ks):pickK ks x.1=some x.2:=by
 obtain⟨k,hk,rfl⟩:=List.getElem_of_mem h;exact pick_getK hr hk
section
variable {a:List Ob}{fc:FileC}{t:LT}{nodes:List Ent}{data:List ByteArray}
theorem Reads.empty (h:Reads a fc t nodes data){q:List ByteArray}(hq:Valids q):lookN nodes q=none↔sem a fc t q=none:=by
 rw[h q hq,Option.map_eq_none_iff]
theorem Reads.kind0 (h:Reads a fc t nodes data)(hs:SoundR nodes data){q:List ByteArray}(hq:Valids q):kindP nodes (joinP q)=0↔sem a fc t q=none:=(look_kind hs hq).1.trans (h.empty hq)
theorem Reads.kind2 (h:Reads a fc t nodes data)(hs:SoundR nodes data){q:List ByteArray}(hq:Valids q):kindP nodes (joinP q)=2↔sem a fc t q=some .dir:=by
 rw[(look_kind hs hq).2.1,h q hq];constructor
 ·rintro ⟨f,hf⟩
  rw[hf];rfl
 ·intro hx
  cases hl:lookN nodes q with
  | none=>rw[hl] at hx;cases hx
  | some x=>
   rw[hl,Option.map_some,Option.some.injEq,ndR] at hx;split at hx
   ·rename_i h2
    exact⟨x.2,by rw[<-h2]⟩
   ·cases hx
theorem look_12 (hs:SoundR nodes data){q:List ByteArray}{x:Int×Int}(h:lookN nodes q=some x):x.1=1\/x.1=2:=by
 unfold lookN at h;split at h
 ·rw[<-Option.some.inj h];exact .inr rfl
 ·obtain⟨e,he,rfl⟩:=Option.map_eq_some_iff.1 h
  exact hs.kinds e (List.mem_of_find?_eq_some he)
theorem Reads.kind1 (h:Reads a fc t nodes data)(hs:SoundR nodes data){q:List ByteArray}(hq:Valids q):kindP nodes (joinP q)=1 ↔ ∃d,sem a fc t q=some (.file d):=by
 rw[(look_kind hs hq).2.2,h q hq];constructor
 ·rintro ⟨f,hf⟩
  rw[hf];exact⟨_,rfl⟩
 ·rintro ⟨d,hx⟩
  cases hl:lookN nodes q with
  | none=>rw[hl] at hx;cases hx
  | some x=>
   rw[hl,Option.map_some,Option.some.injEq,ndR] at hx;split at hx
   ·cases hx
   ·rename_i h2
    rcases look_12 hs hl with h1 | h1
    ·exact⟨x.2,by rw[<-h1]⟩
    ·exact absurd h1 h2
theorem way_snoc (nodes:List Ent)(l:List ByteArray)(x:ByteArray):wayP nodes (l ++ [x])=if wayP nodes l≠0 then wayP nodes l else if kindP nodes (joinP l)≠2 then 5 else if kindP nodes (joinP (l ++ [x]))=0 then 4 else 0:=by
 have hat:∀j,j<l.length->wayAt nodes (l ++ [x]) j=wayAt nodes l j:=fun j hj=>by
  unfold wayAt;rw[List.take_append_of_le_length (by omega),List.take_append_of_le_length (by omega)]
 have hlast:wayAt nodes (l ++ [x]) l.length=if kindP nodes (joinP l)≠2 then some 5 else if kindP nodes (joinP (l ++ [x]))=0 then some 4 else none:=by
  unfold wayAt;rw[List.take_left' rfl,List.take_of_length_le (by simp)]
 have hcongr:∀(m:Nat),m<=l.length->(List.range m).findSome? (wayAt nodes (l ++ [x]))=(List.range m).findSome? (wayAt nodes l):=by
  intro m hm
  induction m with
  | zero=>rfl
  | succ m ih=>rw[List.range_succ,List.findSome?_append,List.findSome?_append,ih (by omega)];simp only[List.findSome?_cons,List.findSome?_nil,hat m (by omega)]
 have hne:∀e,(List.range l.length).findSome? (wayAt nodes l)=some e->e≠0:=fun e he=>by
  obtain⟨_,j,_,_,hj,_⟩:=List.findSome?_eq_some_iff.1 he;unfold wayAt at hj;split at hj
  ·cases hj;decide
  ·split at hj
   ·cases hj;decide
   ·cases hj
 have e1:wayP nodes (l ++ [x])=(((List.range l.length).findSome? (wayAt nodes l)).or (wayAt nodes (l ++ [x]) l.length)).getD 0:=by
  unfold wayP;rw[List.length_append,List.length_singleton,List.range_succ,List.findSome?_append,hcongr _ (zzC _),List.findSome?_cons];cases wayAt nodes (l ++ [x]) l.length <;> rfl
 rw[e1,hlast];unfold wayP;cases hf:(List.range l.length).findSome? (wayAt nodes l) with
 | some e=>
  have:=hne e hf
  simp[this]
 | none=>
  simp only[Option.none_or,Option.getD_none,ne_eq,not_true_eq_false,if_false];split
  ·rfl
  ·split <;> rfl
theorem nd_dir_kids {c:LT}(h:nd a fc c=.dir):∃ks,kids a c=some ks:=by
 cases c <;> first | exact⟨_,rfl⟩ | cases h
theorem nd_file_kids {c:LT}{d:ByteArray}(h:nd a fc c=.file d):kids a c=none:=by
 cases c <;> first | rfl | cases h
theorem find_way9 (h:Reads a fc t nodes data)(hs:SoundR nodes data):∀r:List ByteArray,Valids r.reverse->(findE a t r).1=wayP nodes r.reverse
 | [],_=>rfl
 | n :: r,hv=>by
  rw[List.reverse_cons] at hv
  have ih:=find_way9 h hs r hv.left
  have hE:findE a t (n :: r)=(if (findE a t r).1≠0 then ((findE a t r).1,.dir 0) else if (kidsE a (findE a t r).2).1≠0 then ((kidsE a (findE a t r).2).1,.dir 0) else match pickK (kidsE a (findE a t r).2).2 n with
   | none=>(4,.dir 0)
   | some c=>(0,c)):=rfl
  rw[List.reverse_cons,way_snoc,<-ih,hE]
  by_cases h0:(findE a t r).1≠0
  ·rw[zzD h0,zzD h0]
  ·rw[zzB h0,zzB h0]
   have hat:=find_at (Decidable.not_not.1 h0)
   have hsem:sem a fc t r.reverse=some (nd a fc (findE a t r).2):=by unfold sem;rw[hat];rfl
   cases hk:kids a (findE a t r).2 with
   | none=>
    rw[kidsE_none hk,zzD (by decide),zzD (fun h2=>?_)]
    have:=(h.kind2 hs hv.left).1 h2
    rw[hsem,Option.some.injEq] at this
    obtain⟨ks,e⟩:=nd_dir_kids this
    rw[hk] at e;cases e
   | some ks=>
    have hdir:kindP nodes (joinP r.reverse)=2:=(h.kind2 hs hv.left).2 (by
     rw[hsem]
     cases hn:nd a fc (findE a t r).2 with
     | dir=>rfl
     | file d=>rw[nd_file_kids hn] at hk;cases hk)
    rw[kidsE_some hk,zzB (by simp),zzB (by simp[hdir])]
    have hsk:=sem_kid (fc:=fc) hat hk n []
    cases hp:pickK ks n with
    | none=>
     rw[hp] at hsk
     simp only
     rw[zzD ((h.kind0 hs hv).2 (by simpa using hsk))]
    | some c=>
     rw[hp] at hsk
     simp only
     rw[zzB (fun h0=>by
      have:=(h.kind0 hs hv).1 h0
      rw[show r.reverse ++ [n]=r.reverse++n :: [] from rfl,hsk,Option.bind_some,sem_nil] at this
      cases this)]
theorem look_up (h:Reads a fc t nodes data)(hs:SoundR nodes data){r:List ByteArray}(hv:Valids r.reverse)(x:ByteArray):(lookE a t r).1=upP nodes (r.reverse ++ [x]):=by
 have hw:=find_way9 h hs r hv;have e1:(r.reverse ++ [x]).take ((r.reverse ++ [x]).length-1)=r.reverse:=List.take_left' (by simp);unfold upP lookE;rw[e1,<-hw];simp only;by_cases h0:(findE a t r).1≠0
 ·rw[zzD h0,zzD h0]
 ·rw[zzB h0,zzB h0]
  have hat:=find_at (Decidable.not_not.1 h0);have hsem:sem a fc t r.reverse=some (nd a fc (findE a t r).2):=by unfold sem;rw[hat];rfl
  cases hk:kids a (findE a t r).2 with
  | none=>
   rw[kidsE_none hk,zzD (fun h2=>?_)]
   have:=(h.kind2 hs hv).1 h2
   rw[hsem,Option.some.injEq] at this;obtain⟨ks,e⟩:=nd_dir_kids this;rw[hk] at e;cases e
  | some ks=>
   rw[kidsE_some hk,zzB (fun h2=>h2 ((h.kind2 hs hv).2 (by
    rw[hsem];cases hn:nd a fc (findE a t r).2 with
    | dir=>rfl
    | file d=>rw[nd_file_kids hn] at hk;cases hk)))]
theorem rising_names9:∀{L M:List ByteArray},L.Pairwise (fun x y=>cmpN x y<0)->M.Pairwise (fun x y=>cmpN x y<0)->(∀x,x ∈ L↔x ∈ M)->L=M
 | [],[],_,_,_=>rfl
 | [],y :: M,_,_,h=>by have:=(h y).2 (List.mem_cons_self ..);cases this
 | x :: L,[],_,_,h=>by have:=(h x).1 (List.mem_cons_self ..);cases this
 | x :: L,y :: M,hL,hM,h=>by
  obtain⟨l1,l2⟩:=List.pairwise_cons.1 hL
  obtain⟨m1,m2⟩:=List.pairwise_cons.1 hM
  have irr:∀z:ByteArray,¬cmpN z z<0:=fun z hz=>by rw[cmpN_self] at hz;omega
  have e:x=y:=by
   rcases List.mem_cons.1 ((h x).1 (List.mem_cons_self ..)) with e | hx
   ·exact e
   ·rcases List.mem_cons.1 ((h y).2 (List.mem_cons_self ..)) with e | hy
    ·exact e.symm
    ·exact absurd (cmpN_trans (m1 x hx) (l1 y hy)) (irr y)
  subst e
  congr 1
  refine rising_names9 l2 m2 (fun z=>⟨fun hz=>?_,fun hz=>?_⟩)
  ·rcases List.mem_cons.1 ((h z).1 (List.mem_cons_of_mem _ hz)) with e | hx
   ·rw[e] at hz;exact absurd (l1 x hz) (irr x)
   ·exact hx
  ·rcases List.mem_cons.1 ((h z).2 (List.mem_cons_of_mem _ hz)) with e | hx
   ·rw[e] at hz;exact absurd (m1 x hz) (irr x)
   ·exact hx
theorem kid_names (h:Reads a fc t nodes data)(hs:SoundR nodes data)(hS:Sound a)(hok:LTok a 5 t){q:List ByteArray}{d:LT}{ks:Kids}(ha:t.at a q=some d)(hk:kids a d=some ks):ks.map (·.1)=namesP nodes (joinP q):=by
 obtain⟨_,hokd,hq⟩:=ok_at hS q hok ha;obtain⟨hr,_,hv⟩:=ok_kids hS hokd hk;refine rising_names9 (List.pairwise_map.2 (show ks.Pairwise (fun x y=>cmpN x.1 y.1<0) from hr)) ?_ (fun x=>?_)
 ·exact List.pairwise_map.2 (show (insAll (itemsP nodes (joinP q))).Pairwise (fun x y=>cmpN x.1 y.1<0) from names_rising hs.pathed hs.one hq)
 ·rw[mem_names hs.pathed hq]
  constructor
  ·intro hx
   obtain⟨y,hy,rfl⟩:=List.mem_map.1 hx;have hvy:=(hv y hy).1;refine⟨hvy,fun hn=>?_⟩
   have:=(h.empty (hq.append (fun z hz=>by rw[List.mem_singleton.1 hz];exact hvy))).1 hn
   rw[show q ++ [y.1]=q++y.1 :: [] from rfl,sem_kid ha hk,pick_of9 hr hy,Option.bind_some,sem_nil] at this;cases this
  ·rintro ⟨hvx,hn⟩
   have h1:sem a fc t (q ++ [x])≠none:=fun e=>hn ((h.empty (hq.append (fun z hz=>by rw[List.mem_singleton.1 hz];exact hvx))).2 e);rw[show q ++ [x]=q++x :: [] from rfl,sem_kid ha hk] at h1;cases hp:pickK ks x with
   | none=>rw[hp] at h1;exact absurd rfl h1
   | some c=>exact List.mem_map.2 ⟨_,pick_mem hp,rfl⟩
theorem kid_many (h:Reads a fc t nodes data)(hs:SoundR nodes data)(hS:Sound a)(hok:LTok a 5 t){q:List ByteArray}{d:LT}{ks:Kids}(ha:t.at a q=some d)(hk:kids a d=some ks):ks.length=(itemsP nodes (joinP q)).length:=by
 rw[<-names_len,<-kid_names h hs hS hok ha hk,List.length_map]
theorem hgt_nonneg (hX:Exact a):∀(n:Nat) (c:LT),0<=hgt a n c
 | n,.file id=>by cases n <;> exact hX.sound.1 id
 | n,.held f=>by cases n <;> exact Int.le_refl _
 | n,.dir id=>by cases n <;> exact hX.sound.1 id
 | 0,.own es=>Int.le_refl _
 | n+1,.own es=>by
  rw[hgt]
  exact ((foldl_max_le (fun x:ByteArray×LT=>hgt a n x.2) es 0 _).1 (Int.le_refl _)).1
theorem hgt_sem (hX:Exact a):∀(n:Nat) (c:LT),LTok a n c->∀m:Nat,hgt a n c<=(m:Int) ↔ ∀x,sem a fc c x≠none->x.length<=m:=by
 intro n
 induction n with
 | zero=>
  intro c hc m;have h0:hgt a 0 c<=(m:Int):=by
   have:=hgt_le hX 0 c hc
   omega
  refine⟨fun _ x hx=>?_,fun _=>h0⟩;cases hat:c.at a x with
  | none=>unfold sem at hx;rw[hat] at hx;exact absurd rfl hx
  | some d=>
   have:=(ok_at hX.sound x hc hat).1
   omega
 | succ n ih=>
  intro c hc m;by_cases hk:c.kind=2
  ·obtain⟨ks,hks⟩:=kids_some (a:=a) hk
   rw[hgt_kids hX hks (ok_dirkind hc),foldl_max_le (fun x:ByteArray×LT=>hgt a n x.2)];obtain⟨hr,_,hv⟩:=ok_kids hX.sound hc hks;have hv':∀x ∈ ks,LTok a n x.2:=fun x hx=>by
    obtain⟨_,m,e,h⟩:=hv x hx;cases e;exact h
   constructor
   ·rintro ⟨_,hall⟩ x hx
    cases x with
    | nil=>simp
    | cons y r=>
     rw[sem_cons,hks,Option.bind_some] at hx;cases hp:pickK ks y with
     | none=>rw[hp] at hx;exact absurd rfl hx
     | some e=>
      rw[hp,Option.bind_some] at hx;have hm:=pick_mem hp;have h1:=hall _ hm;simp only at h1;have h2:0<=hgt a n e:=(hgt_nonneg hX n e)
      have:=(ih e (hv' _ hm) (m-1)).1 (by omega) r hx
      rw[List.length_cons];omega
   ·intro hall
    refine⟨by omega,fun x hx=>?_⟩;have hp:=pick_of9 hr hx;have h0:sem a fc c [x.1]≠none:=by rw[sem_cons,hks,Option.bind_some,hp,Option.bind_some,sem_nil];simp
    have h1:=hall _ h0;simp at h1
    have:=(ih x.2 (hv' x hx) (m-1)).2 (fun y hy=>by
     have:=hall (x.1 :: y) (by rw[sem_cons,hks,Option.bind_some,hp,Option.bind_some];exact hy)
     rw[List.length_cons] at this;omega)
    omega
  ·rw[hgt_file hX hc hk]
   refine⟨fun _ x hx=>?_,fun _=>by omega⟩;cases x with
   | nil=>simp
   | cons y r=>rw[sem_cons,kids_none hk] at hx;exact absurd rfl hx
theorem split_good {l:List ByteArray}(h:Good l):splitP (joinP l)=(l,true):=by
 rw[split_join h.val,decide_eq_true h.len]
theorem sem_up {p x:List ByteArray}(h:sem a fc t p=none)(hp:p <+: x):sem a fc t x=none:=by
 obtain⟨r,rfl⟩:=hp;unfold sem at h ⊢;rw[at_append];cases hat:t.at a p with
 | none=>rfl
 | some c=>rw[hat] at h;cases h
theorem snoc_take (l:List ByteArray)(x:ByteArray):(l ++ [x]).take ((l ++ [x]).length-1)=l:=List.take_left' (by simp)
theorem mkdirP_at {l:List ByteArray}{x:ByteArray}(hG:Good (l ++ [x])):mkdirP nodes (joinP (l ++ [x]))=if upP nodes (l ++ [x])≠0 then (nodes,upP nodes (l ++ [x])) else if kindP nodes (joinP (l ++ [x]))≠0 then (nodes,6) else if 16<=(itemsP nodes (joinP l)).length then (nodes,11) else (nodes ++ [(joinP (l ++ [x]),2,0)],0):=by
 unfold mkdirP;rw[split_good hG];simp only;rw[zzB (by simp),zzB (by simp),snoc_take]
theorem removeP_at {l:List ByteArray}(hG:Good l)(hl:l ≠ []):removeP nodes (joinP l)=if wayP nodes l≠0 then (nodes,wayP nodes l) else if 0<(itemsP nodes (joinP l)).length then (nodes,8) else (goneP nodes (joinP l),0):=by
 unfold removeP;rw[split_good hG];simp only;rw[zzB (by simp),zzB (by simpa using hl)]
theorem rd_mkdir (h:Reads a fc t nodes data)(hs:SoundR nodes data)(hS:Sound a)(hok:LTok a 5 t){n:ByteArray}{r:List ByteArray}(hG:Good (r.reverse ++ [n])):
  (mkdirR a t fsAll (n :: r)).2.1=(mkdirP nodes (joinP (r.reverse ++ [n]))).2/\Reads a fc (mkdirR a t fsAll (n :: r)).2.2 (mkdirP nodes (joinP (r.reverse ++ [n]))).1 data/\SoundR (mkdirP nodes (joinP (r.reverse ++ [n]))).1 data:=by
 have hv:=hG.val;have herr:(mkdirR a t fsAll (n :: r)).2.1=(mkdirP nodes (joinP (r.reverse ++ [n]))).2:=by
  unfold mkdirR;rw[mkdirP_at hG,<-look_up h hs hv.left n];simp only[all_look];by_cases h0:(lookE a t r).1≠0
  ·rw[zzD h0,zzD h0]
  ·rw[zzB h0,zzB h0]
   obtain⟨d,ha,hk⟩:=look_atE (Decidable.not_not.1 h0);have hsk:=sem_kid (fc:=fc) ha hk n [];rw[<-kid_many h hs hS hok ha hk];cases hp:pickK (lookE a t r).2 n with
   | some c=>
    rw[hp,Option.bind_some,sem_nil] at hsk;rw[zzD (show (some c:Option LT).isSome=true from rfl),zzD (show kindP nodes (joinP (r.reverse ++ [n]))≠0 from fun e=>by rw[show r.reverse ++ [n]=r.reverse++n :: [] from rfl] at e;rw[(h.kind0 hs hv).1 e] at hsk;cases hsk)]
   | none=>
    rw[hp] at hsk;rw[zzB (show ¬(none:Option LT).isSome=true by simp),zzB (show ¬kindP nodes (joinP (r.reverse ++ [n]))≠0 from fun e=>e ((h.kind0 hs hv).2 hsk))];split <;> rfl
 refine⟨herr,?_⟩;obtain⟨c1,c2,c3⟩:=code_mkdir (fc:=fc) hS hok n r (er:=(mkdirR a t fsAll (n :: r)).2.1) (t':=(mkdirR a t fsAll (n :: r)).2.2) rfl;rcases mkdir_sound hs (joinP (r.reverse ++ [n])) with ⟨m1,m2⟩ | ⟨m1,l,x,m2,m3,m4,m5,m6,m7⟩
 ·rw[c2 (by rw[herr];exact m1),m2]
  exact⟨h,hs⟩
 ·have e:l ++ [x]=r.reverse ++ [n]:=joinP_inj m3 hv m2.symm
  rw[e] at m5 m7;obtain⟨d1,d2⟩:=c3 (by rw[herr];exact m1);refine⟨fun q hq=>?_,m6⟩;rw[d2 q,m7 q hq];by_cases hqe:q=r.reverse ++ [n]
  ·rw[zzD hqe,zzD hqe];rfl
  ·rw[zzB hqe,zzB hqe]
   split
   ·rename_i hpre
    have:=sem_up d1 hpre
    rw[h q hq] at this;exact this.symm
   ·exact h q hq
theorem items_of_file (h:Reads a fc t nodes data)(hs:SoundR nodes data){q:List ByteArray}(hq:Valids q)(hn:sem a fc t q≠some .dir):itemsP nodes (joinP q) = []:=by
 cases hi:itemsP nodes (joinP q) with
 | nil=>rfl
 | cons y r=>
  exfalso;obtain⟨x,hx,⟨n',hn',he'⟩,_⟩:=(mem_items hs.pathed hq).1 (show y ∈ itemsP nodes (joinP q) by rw[hi];exact List.mem_cons_self ..);have hvx:Valids (q ++ [x]):=hq.append (fun z hz=>by rw[List.mem_singleton.1 hz];exact hx);obtain⟨f,hf⟩:=hs.up _ _ hvx ((look_some (by simp)).2 ⟨n',hn',he'⟩);apply hn;rw[h q hq,hf];rfl
theorem vac_items (h:Reads a fc t nodes data)(hs:SoundR nodes data)(hS:Sound a)(hok:LTok a 5 t){q:List ByteArray}{c:LT}(hat:t.at a q=some c):(vacantG a fsAll c).2=if 0<(itemsP nodes (joinP q)).length then 8 else 0:=by
 have hq:=(ok_at hS q hok hat).2.2;unfold vacantG;simp only[all_kids];by_cases hk:c.kind=2
 ·obtain⟨ks,hks⟩:=kids_some (a:=a) hk
  rw[zzB (show ¬c.kind=1 by rw[hk];decide),kidsE_some hks,<-kid_many h hs hS hok hat hks];simp only[true_and];split <;> rfl
 ·have hk1:c.kind=1:=by cases c <;> first | rfl | exact absurd rfl hk
  have hsem:sem a fc t q≠some .dir:=fun e=>by
   unfold sem at e;rw[hat,Option.map_some,Option.some.injEq] at e;obtain⟨ks,hks⟩:=nd_dir_kids e;rw[kids_none hk] at hks;cases hks
  rw[zzD hk1,items_of_file h hs hq hsem];rfl
theorem rd_remove (h:Reads a fc t nodes data)(hs:SoundR nodes data)(hS:Sound a)(hok:LTok a 5 t){n:ByteArray}{r:List ByteArray}(hG:Good (r.reverse ++ [n])):
  (removeR a t fsAll (n :: r)).2.1=(removeP nodes (joinP (r.reverse ++ [n]))).2/\Reads a fc (removeR a t fsAll (n :: r)).2.2 (removeP nodes (joinP (r.reverse ++ [n]))).1 data/\SoundR (removeP nodes (joinP (r.reverse ++ [n]))).1 data:=by
 have hv:=hG.val;have herr:(removeR a t fsAll (n :: r)).2.1=(removeP nodes (joinP (r.reverse ++ [n]))).2:=by
  unfold removeR;rw[removeP_at hG (by simp)];simp only[all_find];have hw:=find_way9 h hs (n :: r) (by rw[List.reverse_cons];exact hv);rw[List.reverse_cons] at hw;rw[<-hw];by_cases h0:(findE a t (n :: r)).1≠0
  ·rw[zzD h0,zzD h0]
  ·rw[zzB h0,zzB h0]
   have hat:=find_at (Decidable.not_not.1 h0);rw[List.reverse_cons] at hat;rw[vac_items h hs hS hok hat];by_cases hl:0<(itemsP nodes (joinP (r.reverse ++ [n]))).length
   ·rw[zzD hl,zzD hl];rfl
   ·rw[zzB hl,zzB hl];rfl
 refine⟨herr,?_⟩;obtain⟨c1,c2,c3⟩:=code_remove (fc:=fc) hS hok n r (er:=(removeR a t fsAll (n :: r)).2.1) (t':=(removeR a t fsAll (n :: r)).2.2) rfl;rcases remove_sound hs (joinP (r.reverse ++ [n])) with ⟨m1,m2⟩ | ⟨m1,l,x,m2,m3,m4,m5,_,m6,m7⟩
 ·rw[c2 (by rw[herr];exact m1),m2]
  exact⟨h,hs⟩
 ·have e:l ++ [x]=r.reverse ++ [n]:=joinP_inj m3 hv m2.symm
  rw[e] at m5 m7;obtain⟨d1,d2⟩:=c3 (by rw[herr];exact m1);refine⟨fun q hq=>?_,m6⟩;rw[d2 q,m7 q hq];split
  ·rfl
  ·exact h q hq
theorem pick_sem (h:Reads a fc t nodes data)(hs:SoundR nodes data){q:List ByteArray}{n:ByteArray}(hq:Valids (q ++ [n])){d:LT}{ks:Kids}(ha:t.at a q=some d)(hk:kids a d=some ks):
  (pickK ks n=none/\kindP nodes (joinP (q ++ [n]))=0)\/∃c,pickK ks n=some c/\t.at a (q ++ [n])=some c/\kindP nodes (joinP (q ++ [n]))=c.kind:=by
 have hsk:=sem_kid (fc:=fc) ha hk n [];cases hp:pickK ks n with
 | none=>
  rw[hp] at hsk;exact .inl ⟨rfl,(h.kind0 hs hq).2 hsk⟩
 | some c=>
  rw[hp,Option.bind_some,sem_nil] at hsk;refine .inr ⟨c,rfl,?_,?_⟩
  ·rw[at_append,ha,Option.bind_some,at_cons,hk,Option.bind_some,hp,Option.bind_some,at_nil]
  ·cases c with
   | file i=>exact (h.kind1 hs hq).2 ⟨_,hsk⟩
   | held f=>exact (h.kind1 hs hq).2 ⟨_,hsk⟩
   | dir i=>exact (h.kind2 hs hq).2 hsk
   | own es=>exact (h.kind2 hs hq).2 hsk
theorem deep_iff (h:Reads a fc t nodes data)(hs:SoundR nodes data)(hX:Exact a)(hok:LTok a 5 t){F:List ByteArray}{c:LT}(ha:t.at a F=some c)(hFn:F ≠ []){m:Nat}(hm:m<=5):
  (nodes.any (tooDeep (joinP F) F.length m))=true↔5<(m:Int)+hgt a 5 c:=by
 obtain⟨hl,hc,hF⟩:=ok_at hX.sound F hok ha;have e5:hgt a 5 c=hgt a (5-F.length) c:=hgt_stable _ _ c (by omega) hc;have hsem:=hgt_sem (fc:=fc) hX (5-F.length) c hc (5-m);rw[<-e5] at hsem;have hiff:5<(m:Int)+hgt a 5 c ↔ ¬hgt a 5 c<=((5-m:Nat):Int):=by omega
 rw[hiff,hsem];constructor
 ·intro hany hall
  obtain⟨e,he,htd⟩:=List.any_eq_true.1 hany;unfold tooDeep at htd;simp only[Bool.and_eq_true,decide_eq_true_eq] at htd;obtain⟨hu,hd⟩:=htd;obtain⟨l,hln,hlv,hl5,hle⟩:=hs.pathed e he;rw[hle] at hu hd;obtain⟨r,hrn,rfl⟩:=(under_names hlv hF hFn).1 hu;rw[split_fst hlv,List.length_append] at hd;have hk:lookN nodes (F++r)≠none:=(look_some hln).2 ⟨e,he,hle⟩;have h1:sem a fc c r≠none:=fun e1=>hk ((h.empty hlv).2 (by rw[sem_below ha];exact e1))
  have:=hall r h1
  omega
 ·intro hn
  have hex:∃x,sem a fc c x≠none/\¬x.length<=5-m:=by
   refine Classical.byContradiction fun hc=>hn fun x hx=>?_;exact Classical.byContradiction fun hl=>hc ⟨x,hx,hl⟩
  obtain⟨x,hx,hxl⟩:=hex;have hx':sem a fc t (F++x)≠none:=by rw[sem_below ha];exact hx
  have hv:Valids (F++x):=by
   unfold sem at hx';cases hat:t.at a (F++x) with
   | none=>rw[hat] at hx';exact absurd rfl hx'
   | some e=>exact (ok_at hX.sound _ hok hat).2.2
  have hk:lookN nodes (F++x)≠none:=fun e=>hx' ((h.empty hv).1 e);obtain⟨e,he,hee⟩:=(look_some (by simp[hFn])).1 hk;refine List.any_eq_true.2 ⟨e,he,?_⟩;unfold tooDeep;rw[hee,split_fst hv,List.length_append];simp only[Bool.and_eq_true,decide_eq_true_eq];refine⟨(under_names hv hF hFn).2 ⟨x,?_,rfl⟩,by omega⟩;rintro rfl;simp at hxl
theorem under_iff {F T:List ByteArray}(hF:Valids F)(hT:Valids T)(hFn:F ≠ []):underP (joinP T) (joinP F)=true↔F <+: T/\F≠T:=by
 rw[under_names hT hF hFn];constructor
 ·rintro ⟨r,hr,rfl⟩
  exact⟨List.prefix_append _ _,fun e=>hr (by simpa using e.symm)⟩
 ·rintro ⟨⟨r,rfl⟩,hn⟩
  exact⟨r,fun e=>hn (by rw[e];simp),rfl⟩
theorem renameP_at {F T:List ByteArray}{y:ByteArray}(hF:Good F)(hT:Good (T ++ [y]))(hFn:F ≠ []):renameP nodes (joinP F) (joinP (T ++ [y])) =
  if wayP nodes F≠0 then (nodes,wayP nodes F)
  else if underP (joinP (T ++ [y])) (joinP F)=true then (nodes,9)
  else if upP nodes (T ++ [y])≠0 then (nodes,upP nodes (T ++ [y]))
  else if ((joinP F).toList == (joinP (T ++ [y])).toList)=true then (nodes,0)
  else if kindP nodes (joinP (T ++ [y]))=2/\kindP nodes (joinP F)=1 then (nodes,7)
  else if kindP nodes (joinP (T ++ [y]))=1/\kindP nodes (joinP F)=2 then (nodes,5)
  else if kindP nodes (joinP (T ++ [y]))=2/\0<(itemsP nodes (joinP (T ++ [y]))).length then (nodes,8)
  else if kindP nodes (joinP (T ++ [y]))=0/\16<=(itemsP nodes (joinP T)).length/\insideP (joinP F) (joinP T)=false then (nodes,11)
  else if (nodes.any (tooDeep (joinP F) F.length (T ++ [y]).length))=true then (nodes,11)
  else ((goneP nodes (joinP (T ++ [y]))).map (movedPR (joinP F) (joinP (T ++ [y]))),0):=by
 unfold renameP;rw[split_good hF,split_good hT];simp only;rw[zzB (by simp),zzB (by simpa using hFn),snoc_take]
theorem rd_rename (h:Reads a fc t nodes data)(hs:SoundR nodes data)(hX:Exact a)(hok:LTok a 5 t){n m:ByteArray}{r q:List ByteArray}(hG:Good (r.reverse ++ [n]))(hH:Good (q.reverse ++ [m])):
  (renameR a t fsAll (n :: r) (m :: q)).2.1=(renameP nodes (joinP (r.reverse ++ [n])) (joinP (q.reverse ++ [m]))).2/\Reads a fc (renameR a t fsAll (n :: r) (m :: q)).2.2 (renameP nodes (joinP (r.reverse ++ [n])) (joinP (q.reverse ++ [m]))).1 data/\SoundR (renameP nodes (joinP (r.reverse ++ [n])) (joinP (q.reverse ++ [m]))).1 data:=by
 have hS:=hX.sound;have hv:=hG.val;have hw:=hH.val;have hinj:n :: r=m :: q↔r.reverse ++ [n]=q.reverse ++ [m]:=by
  rw[<-List.reverse_cons,<-List.reverse_cons];exact⟨fun e=>by rw[e],fun e=>List.reverse_inj.1 e⟩
 have hbeq:((joinP (r.reverse ++ [n])).toList == (joinP (q.reverse ++ [m])).toList)=decide (n :: r=m :: q):=by
  rw[beq_join hv hw];by_cases e:n :: r=m :: q
  ·rw[decide_eq_true e,decide_eq_true (hinj.1 e)]
  ·rw[zzE e,zzE (fun h=>e (hinj.2 h))]
 have herr:(renameR a t fsAll (n :: r) (m :: q)).2.1=(renameP nodes (joinP (r.reverse ++ [n])) (joinP (q.reverse ++ [m]))).2:=by
  unfold renameR;rw[renameP_at hG hH (by simp),hbeq];simp only[all_find,all_look,List.reverse_cons];have hfw:=find_way9 h hs (n :: r) (by rw[List.reverse_cons];exact hv);rw[List.reverse_cons] at hfw;rw[<-hfw,<-look_up h hs hw.left m];by_cases h0:(findE a t (n :: r)).1≠0
  ·rw[zzD h0,zzD h0]
  ·rw[zzB h0,zzB h0]
   have hun:=under_iff hv hw (by simp);by_cases h1:r.reverse ++ [n] <+: q.reverse ++ [m]/\n :: r≠m :: q
   ·rw[zzD h1,zzD (hun.2 ⟨h1.1,fun e=>h1.2 (hinj.2 e)⟩)]
   ·rw[zzB h1,zzB (fun e=>h1 ⟨(hun.1 e).1,fun e'=>(hun.1 e).2 (hinj.1 e')⟩)]
    by_cases h2:(lookE a t q).1≠0
    ·rw[zzD (.inl h2),zzD h2]
    ·rw[zzB h2]
     by_cases h3:n :: r=m :: q
     ·rw[zzD (.inr h3),zzD (decide_eq_true h3)]
      exact Decidable.not_not.1 h2
     ·rw[zzB (show ¬((lookE a t q).1≠0\/n :: r=m :: q) from fun e=>e.elim h2 h3),zzB (show ¬decide (n :: r=m :: q)=true from fun e=>h3 (of_decide_eq_true e))]
      have hat:=find_at (Decidable.not_not.1 h0);rw[List.reverse_cons] at hat;obtain⟨c,hc⟩:∃c,c=(findE a t (n :: r)).2:=⟨_,rfl⟩;rw[<-hc] at hat ⊢;obtain⟨d,had,hkd⟩:=look_atE (Decidable.not_not.1 h2);obtain⟨ks,hks⟩:∃ks,ks=(lookE a t q).2:=⟨_,rfl⟩;rw[<-hks] at hkd ⊢;have hckind:kindP nodes (joinP (r.reverse ++ [n]))=c.kind:=by
       have hsem:sem a fc t (r.reverse ++ [n])=some (nd a fc c):=by unfold sem;rw[hat];rfl
       cases c with
       | file i=>exact (h.kind1 hs hv).2 ⟨_,hsem⟩
       | held f=>exact (h.kind1 hs hv).2 ⟨_,hsem⟩
       | dir i=>exact (h.kind2 hs hv).2 hsem
       | own es=>exact (h.kind2 hs hv).2 hsem
      have hdeep:=deep_iff h hs hX hok hat (by simp) (m:=(q.reverse ++ [m]).length) hH.len;have hlen:(((q.reverse ++ [m]).length:Nat):Int)=((q.length+1:Nat):Int):=by simp
      rw[hlen] at hdeep;have hins:insideP (joinP (r.reverse ++ [n])) (joinP q.reverse)=decide (r=q):=by
       by_cases e:r=q
       ·rw[decide_eq_true e,(inside_names hv hw.left).2 ⟨n,by rw[e]⟩]
       ·rw[zzE e]
        cases hb:insideP (joinP (r.reverse ++ [n])) (joinP q.reverse) with
        | false=>rfl
        | true=>
         obtain⟨x,hx⟩:=(inside_names hv hw.left).1 hb
         have:=List.append_inj_left' hx (by simp)
         exact absurd (List.reverse_inj.1 this) e
      have hroom:(roomG a fsAll (decide (r=q)) ks m c).2=if kindP nodes (joinP (q.reverse ++ [m]))=2/\c.kind=1 then 7 else if kindP nodes (joinP (q.reverse ++ [m]))=1/\c.kind=2 then 5 else if kindP nodes (joinP (q.reverse ++ [m]))=2/\0<(itemsP nodes (joinP (q.reverse ++ [m]))).length then 8 else if kindP nodes (joinP (q.reverse ++ [m]))=0/\16<=ks.length/\decide (r=q)=false then 11 else 0:=by
       unfold roomG;rcases pick_sem h hs hw had hkd with ⟨hp,hz⟩ | ⟨e,hp,hea,hz⟩
       ·rw[hp,hz]
        simp only;rw[zzB (show ¬((0:Int)=2/\c.kind=1) from fun x=>absurd x.1 (by decide)),zzB (show ¬((0:Int)=1/\c.kind=2) from fun x=>absurd x.1 (by decide)),zzB (show ¬((0:Int)=2/\0<(itemsP nodes (joinP (q.reverse ++ [m]))).length) from fun x=>absurd x.1 (by decide))];by_cases hf:16<=ks.length/\decide (r=q)=false
        ·rw[zzD hf,zzD ⟨trivial,hf⟩]
        ·rw[zzB hf,zzB (fun x=>hf x.2)]
       ·rw[hp,hz]
        simp only;unfold yieldsG;by_cases k1:e.kind=2/\c.kind=1
        ·rw[zzD k1,zzD k1]
        ·rw[zzB k1,zzB k1]
         by_cases k2:e.kind=1/\c.kind=2
         ·rw[zzD k2,zzD k2]
         ·rw[zzB k2,zzB k2,vac_items h hs hS hok hea]
          have hk12:e.kind=1\/e.kind=2:=by cases e <;> first | exact .inl rfl | exact .inr rfl
          have h0k:¬(e.kind=0/\16<=ks.length/\decide (r=q)=false):=fun x=>by rcases hk12 with k | k <;> (rw[k] at x;exact absurd x.1 (by decide))
          rw[zzB h0k];by_cases hl:0<(itemsP nodes (joinP (q.reverse ++ [m]))).length
          ·have k:e.kind=2:=by
            refine hk12.resolve_left fun k=>?_;have hsem:sem a fc t (q.reverse ++ [m])≠some .dir:=fun x=>by
             have:=(h.kind2 hs hw).2 x
             rw[hz,k] at this;cases this
            rw[items_of_file h hs hw hsem] at hl;simp at hl
           rw[zzD hl,zzD ⟨k,hl⟩]
          ·rw[zzB hl,zzB (fun x=>hl x.2)]
      rw[hckind,hins,<-kid_many h hs hS hok had hkd,hroom];by_cases c1:kindP nodes (joinP (q.reverse ++ [m]))=2/\c.kind=1
      ·rw[zzD c1,zzD c1];rfl
      ·rw[zzB c1,zzB c1]
       by_cases c2:kindP nodes (joinP (q.reverse ++ [m]))=1/\c.kind=2
       ·rw[zzD c2,zzD c2];rfl
       ·rw[zzB c2,zzB c2]
        by_cases c3:kindP nodes (joinP (q.reverse ++ [m]))=2/\0<(itemsP nodes (joinP (q.reverse ++ [m]))).length
        ·rw[zzD c3,zzD c3];rfl
        ·rw[zzB c3,zzB c3]
         by_cases c4:kindP nodes (joinP (q.reverse ++ [m]))=0/\16<=ks.length/\decide (r=q)=false
         ·rw[zzD c4,zzD c4];rfl
         ·rw[zzB c4,zzB c4,zzB (show ¬(0:Int)≠0 by decide)]
          by_cases hd:5<((q.length+1:Nat):Int)+hgt a 5 c
          ·rw[zzD hd,zzD (hdeep.2 hd)]
          ·rw[zzB hd,zzB (fun e=>hd (hdeep.1 e))]
 refine⟨herr,?_⟩;obtain⟨c1,c2,c3⟩:=code_rename (fc:=fc) hS hok n m r q (er:=(renameR a t fsAll (n :: r) (m :: q)).2.1) (t':=(renameR a t fsAll (n :: r) (m :: q)).2.2) rfl;rcases rename_sound hs (joinP (r.reverse ++ [n])) (joinP (q.reverse ++ [m])) with ⟨m1,m2⟩ | ⟨m1,F,P,y,m2,m3,m4,m5,m6,m7,m8,m9,m10,m11,m12,m13⟩
 ·rw[m1]
  refine⟨?_,hs⟩;by_cases he:(renameR a t fsAll (n :: r) (m :: q)).2.1≠0
  ·rw[c2 he];exact h
  ·obtain⟨_,_,d3⟩:=c3 (Decidable.not_not.1 he)
   have heq:joinP (r.reverse ++ [n])=joinP (q.reverse ++ [m]):=by
    rcases m2 with m2 | m2
    ·rw[<-herr] at m2;exact absurd m2 he
    ·exact m2
   have:=joinP_inj hv hw heq
   intro x hx;rw[d3 x,zzD this];exact h x hx
 ·have e1:F=r.reverse ++ [n]:=joinP_inj m5 hv m2.symm
  have e2:P ++ [y]=q.reverse ++ [m]:=joinP_inj m7 hw m3.symm;rw[e1,e2] at m13;rw[e1,e2] at m10;obtain⟨_,_,d3⟩:=c3 (by rw[herr];exact m1);refine⟨fun x hx=>?_,m12⟩;rw[d3 x,m13 x hx,zzB (fun e=>m10 (by rw[e];exact List.prefix_refl _))];split
  ·rename_i hp
   obtain⟨z,rfl⟩:=hp;rw[List.drop_left];exact h _ (hv.append hx.right)
  ·split
   ·rfl
   ·exact h x hx
theorem stat_look (nodes:List Ent)(data:List ByteArray){q:List ByteArray}(hq:q ≠ []):statAt nodes data (joinP q)=match lookN nodes q with
  | some (k,f)=>if k=1 then (1,(((data[f.toNat]?).getD ⟨#[]⟩).size:Int)) else (2,((itemsP nodes (joinP q)).length:Int))
  | none=>(2,((itemsP nodes (joinP q)).length:Int)):=by
 have h1:=find_look nodes (joinP q);rw[<-look_ne hq] at h1;unfold statAt;cases hf:findP nodes (joinP q) with
 | none=>
  rw[hf] at h1;rw[<-h1];rfl
 | some i=>
  rw[hf,Option.bind_some] at h1;cases hn:nodes[i]? with
  | none=>
   exfalso
   have:=(List.findIdx?_eq_some_iff_getElem.1 hf).1
   rw[zzH this] at hn;cases hn
  | some e=>
   rw[hn,Option.map_some] at h1;rw[<-h1];simp only[hn,Option.map_some,Option.getD_some,List.getD_eq_getElem?_getD]
theorem statP_at {l:List ByteArray}(hG:Good l):statP nodes data (joinP l)=if wayP nodes l≠0 then ((0,0),wayP nodes l) else (statAt nodes data (joinP l),0):=by
 unfold statP;rw[split_good hG];simp only;rw[zzB (by simp)]
theorem listP_at {l:List ByteArray}(hG:Good l):listP nodes (joinP l)=if wayP nodes l≠0 then ([],wayP nodes l) else if kindP nodes (joinP l)≠2 then ([],5) else (namesP nodes (joinP l),0):=by
 unfold listP;rw[split_good hG];simp only;rw[zzB (by simp)]
theorem rd_stat (fl:Nat->Option (Int×ByteArray))(h:Reads a (fcOf a fl) t nodes data)(hs:SoundR nodes data)(hS:Sound a)(hok:LTok a 5 t)(hk:t.kind=2){r:List ByteArray}(hG:Good r.reverse):
  (statR a fl t fsAll r).2.1=(statP nodes data (joinP r.reverse)).2/\(statR a fl t fsAll r).2.2=(statP nodes data (joinP r.reverse)).1:=by
 have hv:=hG.val;have hw:=find_way9 h hs r hv;unfold statR;rw[statP_at hG,<-hw];simp only[all_find];by_cases h0:(findE a t r).1≠0
 ·rw[zzD h0,zzD h0];exact⟨rfl,rfl⟩
 ·rw[zzB h0,zzB h0]
  have hat:=find_at (Decidable.not_not.1 h0);obtain⟨c,hc⟩:∃c,c=(findE a t r).2:=⟨_,rfl⟩;rw[<-hc] at hat ⊢;have hsem:sem a (fcOf a fl) t r.reverse=some (nd a (fcOf a fl) c):=by unfold sem;rw[hat];rfl
  have hdir:c.kind=2->(statAt nodes data (joinP r.reverse))=(2,((itemsP nodes (joinP r.reverse)).length:Int)):=by
   intro hk2;have hz:sem a (fcOf a fl) t r.reverse=some .dir:=by
    rw[hsem];cases c <;> first | rfl | cases hk2
   by_cases hq:r.reverse = []
   ·rw[hq]
    unfold statAt;cases hf:findP nodes (joinP []) with
    | none=>rfl
    | some i=>
     exfalso;obtain⟨hi,he,_⟩:=List.findIdx?_eq_some_iff_getElem.1 hf;obtain⟨l,hln,hlv,_,hle⟩:=hs.pathed _ (zzJ hi);simp only[decide_eq_true_eq] at he;rw[hle] at he
     have:joinP l=joinP []:=bytes_inj (by rw[ByteArray.toList_eq,ByteArray.toList_eq] at he;exact he)
     exact hln (joinP_inj hlv (fun x hx=>by cases hx) this)
   ·rw[stat_look nodes data hq]
    rw[h _ hv] at hz;cases hl:lookN nodes r.reverse with
    | none=>rfl
    | some x=>
     obtain⟨k,f⟩:=x;rw[hl,Option.map_some,Option.some.injEq,ndR] at hz;simp only at hz ⊢;split at hz
     ·rename_i h2;rw[zzB (by rw[h2];decide)]
     ·cases hz
  have hfile:∀b,nd a (fcOf a fl) c=.file b->statAt nodes data (joinP r.reverse)=(1,(b.size:Int)):=by
   intro b hb;have hq:r.reverse ≠ []:=by
    intro e;rw[e,at_nil] at hat;have he:=Option.some.inj hat;rw[<-he] at hb;cases t <;> first | (cases hb;done) | (cases hk;done)
   rw[stat_look nodes data hq];rw[hb,h _ hv] at hsem;cases hl:lookN nodes r.reverse with
   | none=>rw[hl] at hsem;cases hsem
   | some x=>
    obtain⟨k,f⟩:=x;rw[hl,Option.map_some,Option.some.injEq,ndR] at hsem;simp only at hsem ⊢;split at hsem
    ·cases hsem
    ·rename_i h2
     rcases look_12 hs hl with h1 | h1
     ·simp only at h1
      rw[zzD h1];cases hsem;rfl
     ·exact absurd h1 h2
  cases c with
  | file id=>
   simp only[sizeG,all_file,if_true];rw[hfile _ rfl];exact⟨rfl,rfl⟩
  | held f=>
   rw[hfile _ rfl];have hbg:(bytesG a fl fsAll f).2=(0,fcOf a fl f):=by
    unfold bytesG fcOf;cases fl f with
    | none=>rfl
    | some x=>
     obtain⟨i,d⟩:=x;simp only[all_file,if_true];by_cases hi:i=0
     ·rw[zzD hi,zzB (show ¬i≠0 from fun e=>e hi)]
     ·rw[zzB hi,zzD hi]
   have hsz:(sizeG a fl fsAll (.held f)).2=(0,((fcOf a fl f).size:Int)):=by
    show ((bytesG a fl fsAll f).2.1,((bytesG a fl fsAll f).2.2.size:Int))=_;rw[hbg]
   rw[hsz];exact⟨rfl,rfl⟩
  | dir id=>
   have hm:=kid_many h hs hS hok hat (show kids a (.dir id)=some _ from rfl);rw[hdir rfl];simp only[sizeG,all_kids,kidsE,hm];exact⟨rfl,rfl⟩
  | own es=>
   have hm:=kid_many h hs hS hok hat (show kids a (.own es)=some _ from rfl);rw[hdir rfl];simp only[sizeG,all_kids,kidsE,hm];exact⟨rfl,rfl⟩
theorem rd_list (h:Reads a fc t nodes data)(hs:SoundR nodes data)(hS:Sound a)(hok:LTok a 5 t){r:List ByteArray}(hG:Good r.reverse):
  (lookE a t r).1=(listP nodes (joinP r.reverse)).2/\(lookE a t r).2.map (·.1)=(listP nodes (joinP r.reverse)).1:=by
 have hv:=hG.val;have hw:=find_way9 h hs r hv;rw[listP_at hG,<-hw];unfold lookE;simp only;by_cases h0:(findE a t r).1≠0
 ·rw[zzD h0,zzD h0];exact⟨rfl,rfl⟩
 ·rw[zzB h0,zzB h0]
  have hat:=find_at (Decidable.not_not.1 h0);obtain⟨c,hc⟩:∃c,c=(findE a t r).2:=⟨_,rfl⟩;rw[<-hc] at hat ⊢;have hsem:sem a fc t r.reverse=some (nd a fc c):=by unfold sem;rw[hat];rfl
  cases hk:kids a c with
  | none=>
   rw[kidsE_none hk,zzD (fun h2=>?_)]
   ·exact⟨rfl,rfl⟩
   ·have:=(h.kind2 hs hv).1 h2
    rw[hsem,Option.some.injEq] at this;obtain⟨ks,e⟩:=nd_dir_kids this;rw[hk] at e;cases e
  | some ks=>
   rw[kidsE_some hk,zzB (fun h2=>h2 ((h.kind2 hs hv).2 (by
    rw[hsem];cases hn:nd a fc c with
    | dir=>rfl
    | file d=>rw[nd_file_kids hn] at hk;cases hk)))]
   exact⟨rfl,kid_names h hs hS hok hat hk⟩
end
theorem rename_root (t:Nat)(l m:List ByteArray)(hl:Good l)(hm:Good m)(h0:l = []\/m = [])(w:World):
  Calls prog 72 #[.pointer (some ⟨t,0,none⟩),.agg (pathA l),.agg (pathA m)] w fun e w'=>e=.returned (.int .i64 9)/\Below w.heap.size w w':=by
 have hroot:=fun W=>root_any W;have heq1:∀W,(Op.equalIn 10000 147 (pathV l) (pathV [])).run prog W=.ok (decide (l = [])) W:=fun W=>run_eqP hl Good.nil W;have heq2:∀W,(Op.equalIn 10000 147 (pathV m) (pathV [])).run prog W=.ok (decide (m = [])) W:=fun W=>run_eqP hm Good.nil W;obtain⟨s0,s1,s2,s3,s4,hP⟩:∃s0 s1 s2 s3 s4,pathA l = #[.string s0,.string s1,.string s2,.string s3,.string s4]:=⟨_,_,_,_,_,rfl⟩;obtain⟨d0,d1,d2,d3,d4,hQ⟩:∃s0 s1 s2 s3 s4,pathA m = #[.string s0,.string s1,.string s2,.string s3,.string s4]:=⟨_,_,_,_,_,rfl⟩;unfold pathV at hroot heq1 heq2;simp only[hP,hQ] at heq1 heq2;rw[hP,hQ];unfold pathA at hroot heq1 heq2;simp only[List.getD_nil] at hroot heq1 heq2;obtain⟨hSD,z0,z1,bz0⟩:=two_start w s0 s1 s2 s3 s4 d0 d1 d2 d3 d4;have bz:=Below.refl ((w.alloc (.cells #[.string s0,.string s1,.string s2,.string s3,.string s4] 147)).alloc (.cells #[.string d0,.string d1,.string d2,.string d3,.string d4] 147)).drew.heap.size ((w.alloc (.cells #[.string s0,.string s1,.string s2,.string s3,.string s4] 147)).alloc (.cells #[.string d0,.string d1,.string d2,.string d3,.string d4] 147)).drew;have HZ:Hid _:=And.intro z0 (And.intro z1 bz0);clear z0 z1 bz0 hP hQ hl hm;by_cases e1:l = []
 ·rw[decide_eq_true e1] at heq1
  generalize decide (m = [])=b2 at heq2;go_enter func72,ntmps72;go_wp2
  go_region_with (first | (go_at_call 75;refine (hroot _).mono ?_;rintro e w1 ⟨rfl,hb1⟩;replace bz:=below_via bz hb1;obtain⟨y0,y1,y2,y3,y4,y5,y6,y7,y8,y9⟩:=hSD.below bz HZ.out.1 HZ.out.2.1))
  all_goals
   go_wp2;go_ret;exact⟨rfl,below_via HZ.out.2.2 bz⟩
 ·have e2:m = []:=h0.resolve_left e1
  rw[zzE e1] at heq1;rw[decide_eq_true e2] at heq2;go_enter func72,ntmps72;go_wp2
  go_region_held3 (fun w'=>w'.cell? ⟨w.heap.size,0,none⟩=some (.string s0)/\w'.cell? ⟨w.heap.size,1,none⟩=some (.string s1)/\w'.cell? ⟨w.heap.size,2,none⟩=some (.string s2)/\w'.cell? ⟨w.heap.size,3,none⟩=some (.string s3)/\w'.cell? ⟨w.heap.size,4,none⟩=some (.string s4)/\w'.cell? ⟨w.heap.size+1,0,none⟩=some (.string d0)/\w'.cell? ⟨w.heap.size+1,1,none⟩=some (.string d1)/\w'.cell? ⟨w.heap.size+1,2,none⟩=some (.string d2)/\w'.cell? ⟨w.heap.size+1,3,none⟩=some (.string d3)/\w'.cell? ⟨w.heap.size+1,4,none⟩=some (.string d4)) (first | exact hSD | exact hS1) (first | (go_at_call 75;refine (hroot _).mono ?_;rintro e w1 ⟨rfl,hb1⟩;replace bz:=below_via bz hb1;have hS1:=hSD.below bz HZ.out.1 HZ.out.2.1))
  all_goals
   go_wp2;go_ret;exact⟨rfl,below_via HZ.out.2.2 bz⟩
abbrev St:=List Ent×List ByteArray
def outPath (path name:ByteArray):ByteArray:=if path.toList = [] then name else path++⟨#[47]⟩++name
def dataAt (ros:List Ob)(i:Int):ByteArray:=((ros[i.toNat]?).map (fun o:Ob=>o.data)).getD ⟨#[]⟩
def entsAtR (ros:List Ob)(i:Nat):List Ent:=((ros[i]?).map (fun o:Ob=>o.ents)).getD []
def outStep (ros:List Ob)(rec:Nat->ByteArray->St->St)(path:ByteArray)(st:St)(e:Ent):St:=
 if e.2.1=1 then (st.1 ++ [(outPath path e.1,1,(st.2.length:Int))],st.2 ++ [dataAt ros e.2.2]) else rec e.2.2.toNat (outPath path e.1) (st.1 ++ [(outPath path e.1,2,0)],st.2)
def outP (ros:List Ob):Nat->Nat->ByteArray->St->St
 | 0,_,_,st=>st
 | fuel+1,at_,path,st=>(entsAtR ros at_).foldl (outStep ros (outP ros fuel) path) st
def Grows2 (a b:St):Prop:=a.1.length<=b.1.length/\a.2.length<=b.2.length
theorem Grows2.trans {a b c:St}(h:Grows2 a b)(k:Grows2 b c):Grows2 a c:=⟨zzG h.1 k.1,zzG h.2 k.2⟩
theorem outStep_grows (ros:List Ob)(rec:Nat->ByteArray->St->St)(hr:∀i p st,Grows2 st (rec i p st))(path:ByteArray)(st:St)(e:Ent):Grows2 st (outStep ros rec path st e):=by
 unfold outStep;split
 ·exact⟨by simp,by simp⟩
 ·have:=hr e.2.2.toNat (outPath path e.1) (st.1 ++ [(outPath path e.1,2,0)],st.2)
  exact⟨zzG (by simp) this.1,this.2⟩
theorem fold_grows (ros:List Ob)(rec:Nat->ByteArray->St->St)(hr:∀i p st,Grows2 st (rec i p st))(path:ByteArray):∀(es:List Ent) (st:St),Grows2 st (es.foldl (outStep ros rec path) st)
 | [],st=>⟨zzC _,zzC _⟩
 | e :: r,st=>(outStep_grows ros rec hr path st e).trans (fold_grows ros rec hr path r _)
theorem outP_grows (ros:List Ob):∀(fuel i:Nat) (p:ByteArray) (st:St),Grows2 st (outP ros fuel i p st)
 | 0,_,_,_=>⟨zzC _,zzC _⟩
 | fuel+1,i,p,st=>fold_grows ros _ (outP_grows ros fuel) p _ st
abbrev Hnd:=Bool×Int×Int×Int
def encHn (h:Hnd):List Value:=[.bool h.1,.int .i64 h.2.1,.int .i64 h.2.2.1,.int .i64 h.2.2.2]
def tabV (hs:List Hnd):List Value:=hs.flatMap encHn
theorem tab_at:∀(hs:List Hnd) (k f:Nat) (h:k<hs.length) (hf:f<4),(tabV hs)[4*k+f]? = (encHn hs[k])[f]?
 | x :: r,0,f,_,hf=>by
  show (encHn x++tabV r)[4*0+f]? = _
  rw[List.getElem?_append_left (by show 4*0+f<4;omega)]
  simp
 | x :: r,k+1,f,h,hf=>by
  show (encHn x++tabV r)[4*(k+1)+f]? = _
  rw[List.getElem?_append_right (by show 4<=4*(k+1)+f;omega)]
  have:=tab_at r k f (by simpa using h) hf
  rw[show 4*(k+1)+f-(encHn x).length=4*k+f by show 4*(k+1)+f-4=_;omega,this]
  rfl
theorem tab_len (hs:List Hnd):(tabV hs).length=4*hs.length:=by
 induction hs with
 | nil=>rfl
 | cons x r ih=>
  show (encHn x++tabV r).length=_;rw[List.length_append,ih];show 4+4*r.length=4*(r.length+1);omega
def usedH (hs:List Hnd)(n:Int):Bool:=decide (0<=n) && decide (n<8) && (match hs[n.toNat]? with | some h=>h.1 | none=>false)
theorem usedH_no {hs:List Hnd}{n:Int}(h:¬(0<=n/\n<8)):usedH hs n=false:=by
 unfold usedH;by_cases h0:0<=n
 ·have:decide (n<8)=false:=zzE (fun h8=>h ⟨h0,h8⟩)
  rw[this];simp
 ·rw[zzE h0];rfl
theorem usedH_at {hs:List Hnd}{k:Nat}(hk:k<hs.length)(h8:hs.length=8):usedH hs (k:Int)=hs[k].1:=by
 unfold usedH;rw[decide_eq_true (by omega:(0:Int)<=k),decide_eq_true (by omega:(k:Int)<8),Int.toNat_natCast,zzH hk];rfl
section
variable {F:Nat->Prop}{w:World}{S:Nat}{na da:Option Addr}{nc dc:Nat}{nodes:List Ent}{data:List ByteArray}{hs:List Hnd}{more:List Value}
theorem StAt.tab (h:StAt F w S na da nc dc nodes data (tabV hs++more)){k f:Nat}(hk:k<hs.length)(hf:f<4):w.cell? ⟨S,2+k*4+f,none⟩=(encHn hs[k])[f]?:=by
 have e:=tab_at hs k f hk hf;have hl:4*k+f<(tabV hs).length:=by rw[tab_len];omega
 simp only[World.cell?,h.hS];rw[show 2+k*4+f=(4*k+f)+2 by omega];simp only[List.getElem?_toArray,List.getElem?_cons_succ];rw[List.getElem?_append_left hl,e];rfl
theorem sopen_any (h:StAt F w S na da nc dc nodes data (tabV hs++more))(h8:hs.length=8)(n:Int):
  Calls prog 163 #[.pointer (some ⟨S,0,none⟩),.int .i64 n] w fun e w'=>e=.returned (.bool (usedH hs n))/\w'=w:=by
 have hlt:=h.lt;by_cases hn:0<=n/\n<8
 ·obtain⟨k,rfl⟩:∃k:Nat,n=(k:Int):=⟨n.toNat,by omega⟩
  have hk:k<hs.length:=by omega
  have c0:w.cell? ⟨S,2+k*4,none⟩=some (.bool hs[k].1):=h.tab (f:=0) hk (by omega);rw[usedH_at hk h8];generalize hs[k].1=u at c0 ⊢;have t1:(0:Int)<=(k:Int):=by omega
  have t2:(k:Int)<8:=by omega
  have hk8:k<8:=by omega
  clear h hn hk h8;cases u with
  | true=>
   go_enter func163,ntmps163;go_wp2;go_ret;exact⟨rfl,rfl⟩
  | false=>
   go_enter func163,ntmps163;go_wp2;go_ret;exact⟨rfl,rfl⟩
 ·rw[usedH_no hn]
  clear h h8;by_cases h0:0<=n
  ·have t2:decide (n<8)=false:=zzE (fun h=>hn ⟨h0,h⟩)
   go_enter func163,ntmps163;go_wp2;go_ret;exact⟨rfl,rfl⟩
  ·have t1:decide (0<=n)=false:=zzE h0
   go_enter func163,ntmps163;go_wp2;go_ret;exact⟨rfl,rfl⟩
end
abbrev Fls:=Nat->Option (Int×ByteArray)
abbrev Ops:=Nat->Option (Nat×Nat×Int×Int)
def NumU (nodes:List Ent):Prop:=∀e ∈ nodes,∀e' ∈ nodes,e.2.1=1->e'.2.1=1->e.2.2=e'.2.2->e.1=e'.1
theorem num_gone {nodes:List Ent}(h:NumU nodes)(S:ByteArray):NumU (goneP nodes S):=fun e he e' he'=>h e (List.mem_filter.1 he).1 e' (List.mem_filter.1 he').1
theorem num_push {nodes:List Ent}(h:NumU nodes){x:Ent}(hx:x.2.1=1->∀e ∈ nodes,e.2.1=1->e.2.2≠x.2.2):NumU (nodes ++ [x]):=by
 intro e he e' he' h1 h2 h3;rcases List.mem_append.1 he with a | a <;> rcases List.mem_append.1 he' with b | b
 ·exact h e a e' b h1 h2 h3
 ·rw[List.mem_singleton.1 b] at h2 h3;exact absurd h3 (hx h2 e a h1)
 ·rw[List.mem_singleton.1 a] at h1 h3;exact absurd h3.symm (hx h1 e' b h2)
 ·rw[List.mem_singleton.1 a,List.mem_singleton.1 b]
theorem num_moved {nodes:List Ent}(h:NumU nodes)(S T:ByteArray):NumU (nodes.map (movedPR S T)):=by
 have m2:∀e,(movedPR S T e).2=e.2:=fun e=>by unfold movedPR;split <;> rfl
 have m1:∀e e':Ent,e.1=e'.1->(movedPR S T e).1=(movedPR S T e').1:=fun e e' he=>by unfold movedPR;rw[he];split <;> first | rfl | exact he
 intro e he e' he' h1 h2 h3;obtain⟨x,hx,rfl⟩:=List.mem_map.1 he;obtain⟨y,hy,rfl⟩:=List.mem_map.1 he';rw[m2] at h1 h3;rw[m2] at h2 h3;exact m1 _ _ (h x hx y hy h1 h2 h3)
theorem ite_all {α:Type}(P:α->Prop){c:Prop}[Decidable c]{a b:α}(ha:P a)(hb:P b):P (if c then a else b):=by
 by_cases h:c
 ·rw[zzD h];exact ha
 ·rw[zzB h];exact hb
def PN (x:List Ent×Int):Prop:=NumU x.1
theorem num_mkdir {nodes:List Ent}(h:NumU nodes)(S:ByteArray):PN (mkdirP nodes S):=by
 unfold mkdirP
 repeat refine ite_all PN (show PN (nodes,_) from h) ?_
 exact num_push h (x:=(S,2,0)) (fun e=>by cases e)
theorem num_remove {nodes:List Ent}(h:NumU nodes)(S:ByteArray):PN (removeP nodes S):=by
 unfold removeP
 repeat refine ite_all PN (show PN (nodes,_) from h) ?_
 exact num_gone h S
theorem num_rename {nodes:List Ent}(h:NumU nodes)(S T:ByteArray):PN (renameP nodes S T):=by
 unfold renameP
 repeat refine ite_all PN (show PN (nodes,_) from h) ?_
 exact num_moved (num_gone h T) S T
def Over (fl:Fls)(φ:Nat->Nat)(data:List ByteArray)(c:FileC)(data':List ByteArray):Prop:=
 data'.length=data.length/\(∀f,fl f≠none->data'[φ f]? = some (c f))/\∀k,(∀f,fl f≠none->φ f≠k)->data'[k]? = data[k]?
def hndOf (φ:Nat->Nat):Option (Nat×Nat×Int×Int)->Hnd
 | none=>(false,0,0,0)
 | some x=>(true,(φ x.2.1:Int),x.2.2.1,x.2.2.2)
structure Mate (objs:List Ob)(fl:Fls)(op:Ops)(t:LT)(nodes:List Ent)(data:List ByteArray)(hs:List Hnd)(φ:Nat->Nat):Prop where
 inj:∀f f',fl f≠none->fl f'≠none->φ f=φ f'->f=f'
 cont:∀f,fl f≠none->data[φ f]? = some (fcOf objs fl f)
 par:∀c data',Over fl φ data c data'->Reads objs c t nodes data'
 num:NumU nodes
 h8:hs.length=8
 tab:∀k,k<8->hs[k]? = some (hndOf φ (op k))
 opf:∀k x,op k=some x->fl x.2.1≠none
theorem updN_some {β:Type}{fl:Nat->Option β}{f:Nat}{x:β}(f':Nat):updN fl f (some x) f'≠none↔f'=f\/fl f'≠none:=by
 unfold updN;split
 ·rename_i e;exact⟨fun _=>.inl e,fun _=>by simp⟩
 ·rename_i e;exact⟨.inr,fun h=>h.resolve_left e⟩
theorem fc_same (objs:List Ob)(fl:Fls)(f:Nat)(d:ByteArray):fcOf objs (updN fl f (some (0,d))) f=d:=by unfold fcOf;rw[updN_same];rfl
theorem fc_other (objs:List Ob){fl:Fls}{f f':Nat}(h:f'≠f)(x:Option (Int×ByteArray)):fcOf objs (updN fl f x) f'=fcOf objs fl f':=by unfold fcOf;rw[updN_other h]
section
variable {objs:List Ob}{fl:Fls}{op:Ops}{t:LT}{nodes:List Ent}{data:List ByteArray}{hs:List Hnd}{φ:Nat->Nat}
theorem Mate.reads (h:Mate objs fl op t nodes data hs φ):Reads objs (fcOf objs fl) t nodes data:=h.par _ _ ⟨rfl,h.cont,fun _ _=>rfl⟩
theorem Mate.tree (h:Mate objs fl op t nodes data hs φ){t':LT}{nodes':List Ent}(hr:∀c data',data'.length=data.length->Reads objs c t nodes data'->Reads objs c t' nodes' data')(hn:NumU nodes'):Mate objs fl op t' nodes' data hs φ:=
 ⟨h.inj,h.cont,fun c d hd=>hr c d hd.1 (h.par c d hd),hn,h.h8,h.tab,h.opf⟩
theorem Mate.write (h:Mate objs fl op t nodes data hs φ){f:Nat}(hf:fl f≠none)(d:ByteArray):Mate objs (updN fl f (some (0,d))) op t nodes (data.set (φ f) d) hs φ:=by
 have hd:∀f',updN fl f (some ((0:Int),d)) f'≠none->fl f'≠none:=fun f' h'=>((updN_some f').1 h').elim (fun e=>by rw[e];exact hf) id;have hu:∀f',fl f'≠none->updN fl f (some ((0:Int),d)) f'≠none:=fun f' h'=>(updN_some f').2 (.inr h');have hlt:=(List.getElem?_eq_some_iff.1 (h.cont f hf)).1;refine⟨fun a b ha hb=>h.inj a b (hd a ha) (hd b hb),fun a ha=>?_,fun c d' ⟨o1,o2,o3⟩=>h.par c d' ⟨by rw[o1];simp,fun a ha=>o2 a (hu a ha),fun k hk=>?_⟩,h.num,h.h8,h.tab,fun k x hx=>hu _ (h.opf k x hx)⟩
 ·by_cases e:a=f
  ·rw[e,fc_same,List.getElem?_set_self hlt]
  ·rw[fc_other objs e,List.getElem?_set_ne (fun e'=>e (h.inj _ _ hf (hd a ha) e').symm),h.cont a (hd a ha)]
 ·rw[o3 k (fun a ha=>hk a (hd a ha)),List.getElem?_set_ne (hk f hf)]
theorem Mate.opens (h:Mate objs fl op t nodes data hs φ){k:Nat}(hk:k<8)(v:Option (Nat×Nat×Int×Int))(hv:∀x,v=some x->fl x.2.1≠none):Mate objs fl (updN op k v) t nodes data (hs.set k (hndOf φ v)) φ:=by
 have h8:=h.h8;refine⟨h.inj,h.cont,h.par,h.num,by simpa using h.h8,fun j hj=>?_,fun j x hx=>?_⟩
 ·by_cases e:j=k
  ·rw[e,updN_same,List.getElem?_set_self (by omega)]
  ·rw[updN_other e,List.getElem?_set_ne (fun e'=>e e'.symm),h.tab j hj]
 ·by_cases e:j=k
  ·rw[e,updN_same] at hx;exact hv x hx
  ·rw[updN_other e] at hx;exact h.opf j x hx
theorem look_mem {x:List ByteArray}{y:Int}(h:lookN nodes x=some (1,y)):∃e ∈ nodes,e.1=joinP x/\e.2=(1,y):=by
 unfold lookN at h;split at h
 ·cases h
 ·obtain⟨e,he,h2⟩:=Option.map_eq_some_iff.1 h
  exact⟨e,List.mem_of_find?_eq_some he,by have:=List.find?_some he;simpa using this,h2⟩
theorem NumU.look (h:NumU nodes){x y:List ByteArray}{k:Int}(hx:lookN nodes x=some (1,k))(hy:lookN nodes y=some (1,k))(vx:Valids x)(vy:Valids y):x=y:=by
 obtain⟨e,he,e1,e2⟩:=look_mem hx;obtain⟨e',he',e1',e2'⟩:=look_mem hy;exact joinP_inj vx vy (by rw[<-e1,<-e1'];exact h e he e' he' (by rw[e2]) (by rw[e2']) (by rw[e2,e2']))
theorem sem_leaf (c:FileC){x:LT}(hx:x.kind=1)(m:ByteArray)(r:List ByteArray):sem objs c x (m :: r)=none:=by
 rw[sem_cons];cases x <;> first | rfl | cases hx
theorem SoundR.num (hs:SoundR nodes data){x:List ByteArray}{y:Int×Int}(h:lookN nodes x=some y)(h1:y.1=1):0<=y.2/\y.2<(data.length:Int):=by
 obtain⟨e,he,_,e2⟩:=look_mem (y:=y.2) (by rw[h,<-h1])
 have:=hs.files e he (by rw[e2])
 rw[e2] at this;exact this
theorem nd_same (hs:SoundR nodes data){d1 d2:List ByteArray}{x:List ByteArray}(h:∀k:Nat,lookN nodes x=some (1,(k:Int))->d1[k]? = d2[k]?):(lookN nodes x).map (ndR d1)=(lookN nodes x).map (ndR d2):=by
 cases hl:lookN nodes x with
 | none=>rfl
 | some y=>
  obtain⟨kd,m⟩:=y;rw[Option.map_some,Option.map_some];unfold ndR;rcases look_12 hs hl with e | e
  ·have e:kd=1:=e
   subst e;obtain⟨m0,_⟩:=hs.num hl rfl;obtain⟨k,rfl⟩:∃k:Nat,m=(k:Int):=⟨m.toNat,by simp only at m0;omega⟩;rw[zzB (by simp),zzB (by simp),Int.toNat_natCast,h k hl]
  ·have e:kd=2:=e
   subst e;rfl
theorem Mate.free (h:Mate objs fl op t nodes data hs φ){p:List ByteArray}{k:Nat}{id:Int}(hv:Valids p)(ha:t.at objs p=some (.file id))(hn:lookN nodes p=some (1,(k:Int))):∀f,fl f≠none->φ f≠k:=by
 intro f hf e;have hlt:=(List.getElem?_eq_some_iff.1 (h.cont f hf)).1;have key:∀X:ByteArray,bytesOf objs id=X:=fun X=>by
  have:=h.par (updN (fcOf objs fl) f X) (data.set (φ f) X) ⟨by simp,fun a hfa=>?_,fun k hk=>List.getElem?_set_ne (hk f hf)⟩ p hv
  ·rw[hn,e] at this
   unfold sem at this;rw[ha,Option.map_some,Option.map_some,Option.some.injEq,ndR,zzB (by simp),Int.toNat_natCast,List.getElem?_set_self (by rw[<-e];exact hlt)] at this;exact Nd.file.inj this
  ·by_cases e2:a=f
   ·rw[e2,updN_same,List.getElem?_set_self hlt]
   ·rw[updN_other e2,List.getElem?_set_ne (fun e'=>e2 (h.inj _ _ hf hfa e').symm),h.cont a hfa]
 have:=(key ⟨#[]⟩).symm.trans (key ⟨#[0]⟩)
 cases this
theorem Mate.hold (h:Mate objs fl op t nodes data hs φ)(hS:Sound objs)(hok:LTok objs 5 t)(hs':SoundR nodes data){f k:Nat}{id:Int}{q:List ByteArray}{n:ByteArray}{d:LT}{ks:Kids}(hf:fl f=none)(hid:id≠0)(hv:Valids (q ++ [n]))
  (ha:t.at objs q=some d)(hk:kids objs d=some ks)(hp:pickK ks n=some (.file id))(hn:lookN nodes (q ++ [n])=some (1,(k:Int))):
  Mate objs (updN fl f (some (id,⟨#[]⟩))) op (modG objs (fun ks=>putK ks n (.held f)) q t) nodes data hs (updN φ f k):=by
 have hat:t.at objs (q ++ [n])=some (.file id):=by rw[at_append,ha];show d.at objs [n]=_;rw[at_cons,hk,Option.bind_some,hp,Option.bind_some,at_nil]
 have hfree:=h.free hv hat hn;have hr:=(ok_kids hS (ok_at hS _ hok ha).2.1 hk).1;have hne:∀f',fl f'≠none->f'≠f:=fun f' h' e=>h' (by rw[e];exact hf);have hsp:=fun c:FileC=>sem_put (fc:=c) (n:=n) hr ha hk (.held f);have hdk:data[k]? = some (bytesOf objs id):=by
  have:=h.reads (q ++ [n]) hv
  have hnum:=hs'.num hn rfl;have hkl:k<data.length:=by simp only at hnum;omega
  unfold sem at this;rw[hat,hn,Option.map_some,Option.map_some,Option.some.injEq,ndR,zzB (by simp),Int.toNat_natCast,zzH hkl] at this;rw[zzH hkl];exact congrArg some (Nd.file.inj this).symm
 refine⟨fun a b ha hb e=>?_,fun a hfa=>?_,fun c d' ⟨o1,o2,o3⟩ x hx=>?_,h.num,h.h8,fun j hj=>?_,fun j x hx=>(updN_some _).2 (.inr (h.opf j x hx))⟩
 ·rcases (updN_some a).1 ha with e1 | e1 <;> rcases (updN_some b).1 hb with e2 | e2
  ·rw[e1,e2]
  ·rw[e1,updN_same,updN_other (hne b e2)] at e;exact absurd e.symm (hfree b e2)
  ·rw[e2,updN_same,updN_other (hne a e1)] at e;exact absurd e (hfree a e1)
  ·rw[updN_other (hne a e1),updN_other (hne b e2)] at e;exact h.inj a b e1 e2 e
 ·rcases (updN_some a).1 hfa with e1 | e1
  ·rw[e1,updN_same,hdk];unfold fcOf;rw[updN_same];simp only[zzD hid]
  ·rw[updN_other (hne a e1),fc_other objs (hne a e1),h.cont a e1]
 ·have hkd:k<d'.length:=by
   have:=hs'.num hn rfl
   simp only at this;rw[o1];omega
  have hck:d'[k]? = some (c f):=by have:=o2 f ((updN_some f).2 (.inl rfl));rwa [updN_same] at this
  have R:=h.par c (d'.set k (bytesOf objs id)) ⟨by simpa using o1,fun a hfa=>by
    rw[List.getElem?_set_ne (fun e=>hfree a hfa e.symm)]
    have:=o2 a ((updN_some a).2 (.inr hfa))
    rwa [updN_other (hne a hfa)] at this,fun j hj=>by
    by_cases e:k=j
    ·rw[<-e,List.getElem?_set_self hkd,hdk]
    ·rw[List.getElem?_set_ne e]
     refine o3 j (fun a hfa=>?_);rcases (updN_some a).1 hfa with e1 | e1
     ·rw[e1,updN_same];exact e
     ·rw[updN_other (hne a e1)];exact hj a e1⟩
  by_cases hpx:(q ++ [n]) <+: x
  ·obtain⟨r,rfl⟩:=hpx
   cases r with
   | nil=>
    have:=(hsp c).1 []
    rw[List.append_nil] at hx ⊢;rw[this,sem_nil,hn,Option.map_some,ndR,zzB (by simp),Int.toNat_natCast,hck];rfl
   | cons m r=>
    have e0:q ++ [n]++m :: r=q++n :: (m :: r):=by simp
    have:=R _ hx
    rw[e0,sem_kid ha hk,hp,Option.bind_some,sem_leaf c rfl] at this;rw[e0,(hsp c).1,sem_leaf c rfl];rw[Option.map_eq_none_iff.1 this.symm];rfl
  ·rw[(hsp c).2 x hpx,R x hx]
   refine nd_same hs' (fun j hj=>?_);by_cases e:k=j
   ·exact absurd (h.num.look hj (by rw[<-e];exact hn) hx hv) (fun e=>hpx (by rw[e];exact List.prefix_refl _))
   ·rw[List.getElem?_set_ne e]
 ·rw[h.tab j hj]
  cases ho:op j with
  | none=>rfl
  | some x=>show some (true,((φ x.2.1:Nat):Int),_,_)=some (true,((updN φ f k x.2.1:Nat):Int),_,_);rw[updN_other (hne _ (h.opf j x ho))]
theorem Mate.create (h:Mate objs fl op t nodes data hs φ)(hS:Sound objs)(hok:LTok objs 5 t)(hs':SoundR nodes data){f:Nat}{q:List ByteArray}{n:ByteArray}{d:LT}{ks:Kids}(hf:fl f=none)(hv:Valids (q ++ [n]))
  (ha:t.at objs q=some d)(hk:kids objs d=some ks)(hp:pickK ks n=none):
  Mate objs (updN fl f (some (0,⟨#[]⟩))) op (modG objs (fun ks=>putK ks n (.held f)) q t) (nodes ++ [(joinP (q ++ [n]),1,(data.length:Int))]) (data ++ [⟨#[]⟩]) hs (updN φ f data.length):=by
 have hr:=(ok_kids hS (ok_at hS _ hok ha).2.1 hk).1;have hne:∀f',fl f'≠none->f'≠f:=fun f' h' e=>h' (by rw[e];exact hf);have hlt:∀f',fl f'≠none->φ f'<data.length:=fun f' h'=>(List.getElem?_eq_some_iff.1 (h.cont f' h')).1;have hsp:=fun c:FileC=>sem_put (fc:=c) (n:=n) hr ha hk (.held f);have hno:∀(c:FileC) (r:List ByteArray),sem objs c t (q++n :: r)=none:=fun c r=>by rw[sem_kid ha hk,hp];rfl
 have hnl:lookN nodes (q ++ [n])=none:=(h.reads.empty hv).2 (hno _ []);have hlp:=fun {m:List ByteArray} (hm:Valids m)=>look_push (k:=1) (f:=(data.length:Int)) hv (by simp) hm hnl;refine⟨fun a b ha hb e=>?_,fun a hfa=>?_,fun c d' ⟨o1,o2,o3⟩ x hx=>?_,num_push h.num (fun _ e he h1=>?_),h.h8,fun j hj=>?_,fun j x hx=>(updN_some _).2 (.inr (h.opf j x hx))⟩
 ·rcases (updN_some a).1 ha with e1 | e1 <;> rcases (updN_some b).1 hb with e2 | e2
  ·rw[e1,e2]
  ·rw[e1,updN_same,updN_other (hne b e2)] at e;have:=hlt b e2;omega
  ·rw[e2,updN_same,updN_other (hne a e1)] at e;have:=hlt a e1;omega
  ·rw[updN_other (hne a e1),updN_other (hne b e2)] at e;exact h.inj a b e1 e2 e
 ·rcases (updN_some a).1 hfa with e1 | e1
  ·rw[e1,updN_same,fc_same];simp
  ·rw[updN_other (hne a e1),fc_other objs (hne a e1),List.getElem?_append_left (hlt a e1),h.cont a e1]
 ·have o1':d'.length=data.length+1:=by simpa using o1
  have hck:d'[data.length]? = some (c f):=by have:=o2 f ((updN_some f).2 (.inl rfl));rwa [updN_same] at this
  have R:=h.par c (d'.take data.length) ⟨by rw[List.length_take];omega,fun a hfa=>by
    rw[List.getElem?_take_of_lt (hlt a hfa)]
    have:=o2 a ((updN_some a).2 (.inr hfa))
    rwa [updN_other (hne a hfa)] at this,fun j hj=>by
    by_cases e:j<data.length
    ·rw[List.getElem?_take_of_lt e,o3 j (fun a hfa=>?_),List.getElem?_append_left e]
     rcases (updN_some a).1 hfa with e1 | e1
     ·rw[e1,updN_same];omega
     ·rw[updN_other (hne a e1)];exact hj a e1
    ·rw[List.getElem?_eq_none (by rw[List.length_take];omega),List.getElem?_eq_none (by omega)]⟩
  rw[hlp hx];by_cases hpx:(q ++ [n]) <+: x
  ·obtain⟨r,rfl⟩:=hpx
   cases r with
   | nil=>
    have:=(hsp c).1 []
    rw[List.append_nil] at hx ⊢;rw[this,sem_nil,zzD rfl,Option.map_some,ndR,zzB (by simp),Int.toNat_natCast,hck];rfl
   | cons m r=>
    have e0:q ++ [n]++m :: r=q++n :: (m :: r):=by simp
    have:=R _ hx
    rw[e0,hno] at this;rw[zzB (by simp),e0,(hsp c).1,sem_leaf c rfl,Option.map_eq_none_iff.1 this.symm];rfl
  ·rw[(hsp c).2 x hpx,R x hx,zzB (fun e=>hpx (by rw[e];exact List.prefix_refl _))]
   refine nd_same hs' (fun j hj=>?_)
   have:=hs'.num hj rfl
   simp only at this;rw[List.getElem?_take_of_lt (by omega)]
 ·have:=hs'.files e he h1
  simp only;omega
 ·rw[h.tab j hj]
  cases ho:op j with
  | none=>rfl
  | some x=>show some (true,((φ x.2.1:Nat):Int),_,_)=some (true,((updN φ f data.length x.2.1:Nat):Int),_,_);rw[updN_other (hne _ (h.opf j x ho))]
end
theorem joinB_P (l:List ByteArray):joinB l=joinP l:=toL_inj (by rw[joinP_L];rfl)
theorem split_valid9 {S:ByteArray}(h:(splitP S).2=true):Good (splitP S).1:=by
 unfold splitP at h ⊢;split
 ·exact Good.nil
 ·rename_i h0
  rw[zzB h0] at h;split
  ·rename_i hv
   rw[zzD hv] at h;exact⟨hv,of_decide_eq_true h⟩
  ·rename_i hv
   rw[zzB hv] at h;cases h
theorem path_cases {S:ByteArray}(hS:S.size<=maxLen):((splitP S).2=false/\NoPath S)\/∃l,Good l/\S=joinP l:=by
 cases hs:(splitP S).2 with
 | false=>
  refine .inl ⟨rfl,fun W=>parse_bad S hS (fun l hl e=>?_) W⟩;rw[e,joinB_P,split_good hl] at hs;cases hs
 | true=>exact .inr ⟨_,split_valid9 hs,(join_split hs).symm⟩
theorem snoc_cases (l:List ByteArray):l = []\/∃(n:ByteArray) (r:List ByteArray),l=r.reverse ++ [n]:=by
 cases h:l.reverse with
 | nil=>exact .inl (List.reverse_eq_nil_iff.1 h)
 | cons n r=>exact .inr ⟨n,r,by rw[<-List.reverse_cons,<-h,List.reverse_reverse]⟩
def Tied (objs:List Ob)(fl:Fls)(op:Ops)(t:LT)(nodes:List Ent)(data:List ByteArray)(rest:List Value):Prop:=(∃φ hs more,rest=tabV hs++more/\Mate objs fl op t nodes data hs φ)/\SoundR nodes data
theorem Tied.reads {objs:List Ob}{fl:Fls}{op:Ops}{t:LT}{nodes:List Ent}{data:List ByteArray}{rest:List Value}(h:Tied objs fl op t nodes data rest):Reads objs (fcOf objs fl) t nodes data:=by
 obtain⟨⟨φ,hs,more,_,hM⟩,_⟩:=h;exact hM.reads
theorem SoundR.len {nodes:List Ent}{data data':List ByteArray}(h:SoundR nodes data)(hl:data'.length=data.length):SoundR nodes data':=⟨h.pathed,h.one,h.few,h.kinds,by rw[hl];exact h.files,h.up⟩
theorem Tied.tree {objs:List Ob}{fl:Fls}{op:Ops}{t t':LT}{nodes nodes':List Ent}{data:List ByteArray}{rest:List Value}(h:Tied objs fl op t nodes data rest)(hr:∀c data',Reads objs c t nodes data'->SoundR nodes data'->Reads objs c t' nodes' data')(hn:NumU nodes->NumU nodes')(hs':SoundR nodes' data):Tied objs fl op t' nodes' data rest:=by
 obtain⟨⟨φ,hs,more,e,hM⟩,h2⟩:=h;exact⟨⟨φ,hs,more,e,hM.tree (fun c d hl hR=>hr c d hR (h2.len hl)) (hn hM.num)⟩,hs'⟩
def Did9 (s i p:Nat)(B:WB)(objs:List Ob)(tg:Tags)(w w':World)(g:WG)(lim:Nat)(nodes:List Ent)(data:List ByteArray)(rest:List Value):Prop:=
 ∃tg' g' t',Moves (Mine i) tg tg' w w'/\QInv tg' w' s i p B objs g' lim t'/\g'.fs.brk=false/\(∃l,g'.fs.got=g.fs.got++l/\∀x,l.count x+g.fs.kn x=g'.fs.kn x)/\HeldInj objs t'/\Tied objs g'.fl g'.op t' nodes data rest
section
variable {s i p:Nat}{B:WB}{objs:List Ob}{tg:Tags}{w:World}{g:WG}{lim:Nat}{t:LT}{nodes:List Ent}{data:List ByteArray}{rest:List Value}
theorem did_same {w':World}(h:QInv tg w s i p B objs g lim t)(hb:g.fs.brk=false)(hi:HeldInj objs t)(hY:Tied objs g.fl g.op t nodes data rest)(hbl:Below w.heap.size w w'):Did9 s i p B objs tg w w' g (lim+400) nodes data rest:=
 ⟨tg,g,t,Moves.of_below hbl,(h.below hbl).mono (by omega),hb,⟨[],by simp,fun x=>by simp⟩,hi,hY⟩
theorem did_tree {w':World}{fs':FS}{tn:LT}{nodes':List Ent}(h:QTo s i p B objs tg w w' (lim+400) (TreeTo g fs' tn))(hb:g.fs.brk=false)(hN:g.fs.Next fs')(hi:HeldInj objs tn)(hY:Tied objs g.fl g.op tn nodes' data rest):Did9 s i p B objs tg w w' g (lim+400) nodes' data rest:=by
 obtain⟨tg',g',t',m,hQ,rfl,h2,h3,h4,h5⟩:=h;exact⟨tg',g',t',m,hQ,by rw[h2,hN.1];exact hb,by rw[h2];exact hN.2.2.1,hi,by rw[h3,h5];exact hY⟩
theorem fair_next {β:Type}{fs fs':FS}{x all none:β}(h:Fair fs fs' x all none)(hb:fs.brk=false):fs.Next fs'/\x=all:=by
 rcases h with h | ⟨h,_⟩
 ·exact h
 ·rw[h.1] at hb;cases hb
theorem p_mkdir (h:QInv tg w s i p B objs g lim t)(hl:lim+1000<1099511627776)(hb:g.fs.brk=false)(hi:HeldInj objs t)(hX:Exact objs)(hY:Tied objs g.fl g.op t nodes data rest)(S:ByteArray)(hS:S.size<=maxLen):
  Calls prog 31 #[.pointer (some ⟨B.wb,0,none⟩),.string S] w fun e w'=>e=.returned (.int .i64 (mkdirP nodes S).2)/\Did9 s i p B objs tg w w' g (lim+400) (mkdirP nodes S).1 data rest:=by
 have hR:=hY.reads;have hs:=hY.2;obtain⟨hwb,c0,_⟩:=h.ws;rcases path_cases hS with ⟨hf,hn⟩ | ⟨l,hG,rfl⟩
 ·have e:mkdirP nodes S=(nodes,1):=by unfold mkdirP;rw[zzD hf]
  rw[e];exact (mkdir_bad B.wb S w hn).mono fun e w' ⟨he,hbl⟩=>⟨he,did_same h hb hi hY hbl⟩
 ·rcases snoc_cases l with rfl | ⟨n,r,rfl⟩
  ·have e:mkdirP nodes (joinP [])=(nodes,6):=by unfold mkdirP;rw[split_good Good.nil];rfl
   rw[e,<-joinB_P];exact (mkdir_ws B.wb B.bt [] Good.nil 6 (fun w'=>Below w.heap.size w w') w hwb c0 (fun W hbW=>(mkdir_root B.bt W).mono fun e w' ⟨he,hbl⟩=>⟨he,hbW.trans (hbl.mono hbW.size)⟩)).mono fun e w' ⟨he,hbl⟩=>⟨he,did_same h hb hi hY hbl⟩
  ·obtain⟨hN,hE⟩:=fair_next (fair_mkdir objs t g.fs (n :: r)) hb
   obtain⟨r1,r2,r3⟩:=rd_mkdir hR hs hX.sound h.ok hG;rw[<-joinB_P];refine (qmkdir h hl hG).mono fun e w' ⟨he,hq⟩=>⟨?_,?_⟩
   ·rw[he,joinB_P,<-r1,hE]
   ·rw[joinB_P]
    exact did_tree hq hb hN (inj_mkdir hX.sound h.ok hi g.fs n r) (hY.tree (fun c d hr hs=>by rw[hE];exact (rd_mkdir hr hs hX.sound h.ok hG).2.1) (fun h=>num_mkdir h _) r3)
theorem p_remove (h:QInv tg w s i p B objs g lim t)(hl:lim+1000<1099511627776)(hb:g.fs.brk=false)(hi:HeldInj objs t)(hX:Exact objs)(hY:Tied objs g.fl g.op t nodes data rest)(S:ByteArray)(hS:S.size<=maxLen):
  Calls prog 32 #[.pointer (some ⟨B.wb,0,none⟩),.string S] w fun e w'=>e=.returned (.int .i64 (removeP nodes S).2)/\Did9 s i p B objs tg w w' g (lim+400) (removeP nodes S).1 data rest:=by
 have hR:=hY.reads;have hs:=hY.2;obtain⟨hwb,c0,_⟩:=h.ws;rcases path_cases hS with ⟨hf,hn⟩ | ⟨l,hG,rfl⟩
 ·have e:removeP nodes S=(nodes,1):=by unfold removeP;rw[zzD hf]
  rw[e];exact (remove_bad B.wb S w hn).mono fun e w' ⟨he,hbl⟩=>⟨he,did_same h hb hi hY hbl⟩
 ·rcases snoc_cases l with rfl | ⟨n,r,rfl⟩
  ·have e:removeP nodes (joinP [])=(nodes,9):=by unfold removeP;rw[split_good Good.nil];rfl
   rw[e,<-joinB_P];exact (remove_ws B.wb B.bt [] Good.nil 9 (fun w'=>Below w.heap.size w w') w hwb c0 (fun W hbW=>(remove_root B.bt W).mono fun e w' ⟨he,hbl⟩=>⟨he,hbW.trans (hbl.mono hbW.size)⟩)).mono fun e w' ⟨he,hbl⟩=>⟨he,did_same h hb hi hY hbl⟩
  ·obtain⟨hN,hE⟩:=fair_next (fair_remove objs t g.fs (n :: r)) hb
   obtain⟨r1,r2,r3⟩:=rd_remove hR hs hX.sound h.ok hG;rw[<-joinB_P];refine (qremove h hl hG).mono fun e w' ⟨he,hq⟩=>⟨?_,?_⟩
   ·rw[he,joinB_P,<-r1,hE]
   ·rw[joinB_P]
    exact did_tree hq hb hN (inj_remove hX.sound h.ok hi g.fs n r) (hY.tree (fun c d hr hs=>by rw[hE];exact (rd_remove hr hs hX.sound h.ok hG).2.1) (fun h=>num_remove h _) r3)
theorem renameP_bad {S T:ByteArray}(h:(splitP S).2=false\/(splitP T).2=false):renameP nodes S T=(nodes,1):=by unfold renameP;rw[zzD h]
theorem renameP_root {l m:List ByteArray}(hl:Good l)(hm:Good m)(h:l = []\/m = []):renameP nodes (joinP l) (joinP m)=(nodes,9):=by
 unfold renameP;rw[split_good hl,split_good hm];simp only;rw[zzB (by simp),zzD (by rcases h with rfl | rfl <;> simp)]
theorem p_rename (h:QInv tg w s i p B objs g lim t)(hl:lim+1000<1099511627776)(hb:g.fs.brk=false)(hi:HeldInj objs t)(hX:Exact objs)(hY:Tied objs g.fl g.op t nodes data rest)(S T:ByteArray)(hS:S.size<=maxLen)(hT:T.size<=maxLen):
  Calls prog 33 #[.pointer (some ⟨B.wb,0,none⟩),.string S,.string T] w fun e w'=>e=.returned (.int .i64 (renameP nodes S T).2)/\Did9 s i p B objs tg w w' g (lim+400) (renameP nodes S T).1 data rest:=by
 have hR:=hY.reads;have hs:=hY.2;obtain⟨hwb,c0,_⟩:=h.ws;rcases path_cases hS with ⟨hf,hn⟩ | ⟨l,hG,rfl⟩
 ·rw[renameP_bad (.inl hf)]
  exact (rename_bad1 B.wb S T w hn).mono fun e w' ⟨he,hbl⟩=>⟨he,did_same h hb hi hY hbl⟩
 ·rcases path_cases hT with ⟨hf,hn⟩ | ⟨m,hH,rfl⟩
  ·rw[renameP_bad (.inr hf),<-joinB_P]
   exact (rename_bad2 B.wb l hG T w hn).mono fun e w' ⟨he,hbl⟩=>⟨he,did_same h hb hi hY hbl⟩
  ·by_cases h0:l = []\/m = []
   ·rw[renameP_root hG hH h0,<-joinB_P,<-joinB_P]
    exact (rename_ws B.wb B.bt l m hG hH 9 (fun w'=>Below w.heap.size w w') w hwb c0 (fun W hbW=>(rename_root B.bt l m hG hH h0 W).mono fun e w' ⟨he,hbl⟩=>⟨he,hbW.trans (hbl.mono hbW.size)⟩)).mono fun e w' ⟨he,hbl⟩=>⟨he,did_same h hb hi hY hbl⟩
   ·rcases snoc_cases l with rfl | ⟨n,r,rfl⟩
    ·exact absurd (.inl rfl) h0
    ·rcases snoc_cases m with rfl | ⟨n',r',rfl⟩
     ·exact absurd (.inr rfl) h0
     ·obtain⟨hN,hE⟩:=fair_next (fair_rename objs t g.fs (n :: r) (n' :: r')) hb
      obtain⟨r1,r2,r3⟩:=rd_rename hR hs hX h.ok hG hH;rw[<-joinB_P,<-joinB_P];refine (qrename h hl hG hH).mono fun e w' ⟨he,hq⟩=>⟨?_,?_⟩
      ·rw[he,joinB_P,joinB_P,<-r1,hE]
      ·rw[joinB_P,joinB_P]
       exact did_tree hq hb hN (inj_rename hX.sound h.ok hi g.fs n n' r r') (hY.tree (fun c d hr hs=>by rw[hE];exact (rd_rename hr hs hX h.ok hG hH).2.1) (fun h=>num_rename h _ _) r3)
theorem p_stat (h:QInv tg w s i p B objs g lim t)(hl:lim+1000<1099511627776)(hb:g.fs.brk=false)(hi:HeldInj objs t)(hX:Exact objs)(hk:t.kind=2)(hY:Tied objs g.fl g.op t nodes data rest)(S:ByteArray)(hS:S.size<=maxLen):
  Calls prog 67 #[.pointer (some ⟨B.wb,0,none⟩),.string S] w fun e w'=>e=.returned (.tuple #[.agg #[.int .i64 (statP nodes data S).1.1,.int .i64 (statP nodes data S).1.2],.int .i64 (statP nodes data S).2])/\Did9 s i p B objs tg w w' g (lim+400) nodes data rest:=by
 have hR:=hY.reads;have hs:=hY.2;rcases path_cases hS with ⟨hf,hn⟩ | ⟨l,hG,rfl⟩
 ·have e:statP nodes data S=((0,0),1):=by unfold statP;rw[zzD hf]
  rw[e];exact (stat_bad B.wb S w hn).mono fun e w' ⟨he,hbl⟩=>⟨he,did_same h hb hi hY hbl⟩
 ·obtain⟨r,rfl⟩:∃r:List ByteArray,l=r.reverse:=⟨l.reverse,by simp⟩
  obtain⟨hN,hE⟩:=fair_next (fair_stat objs g.fl t g.fs r) hb;obtain⟨r1,r2⟩:=rd_stat g.fl hR hs hX.sound h.ok hk hG;rw[<-joinB_P];refine (qstat h hl hG).mono fun e w' ⟨he,hq⟩=>⟨?_,did_tree hq hb hN hi hY⟩;rw[he,joinB_P,<-r1,<-r2,hE]
theorem nms_row {W:World}{b:Nat}{es:List Ent}(h:NmsAt W b es es.length)(hn:es.length<=16):W.ownsRow 0 9 1 (.slice (some ⟨b,0,none⟩) es.length es.length) es.length (encS (es.map (·.1))):=by
 obtain⟨cs,h1,h2⟩:=h.blk;refine⟨by simp[encS],.inr ⟨b,es.length,cs,rfl,zzF _,h1,zzC _,by unfold maxLen;omega,by rw[h2,Nat.mul_one],?_⟩⟩;apply List.ext_getElem?;intro k;by_cases hk:k<es.length
 ·have hc:=h.nms k hk hk
  rw[List.getElem?_take,zzD (by omega)];simp only[World.cell?,h1] at hc;have hc':cs[k]? = some (.string es[k].1):=by simpa using hc
  rw[Array.getElem?_toList,hc'];simp[encS,hk]
 ·rw[List.getElem?_take,zzB (by omega),List.getElem?_eq_none (by simp[encS];omega)]
theorem p_list (h:QInv tg w s i p B objs g lim t)(hl:lim+1000<1099511627776)(hb:g.fs.brk=false)(hi:HeldInj objs t)(hX:Exact objs)(hY:Tied objs g.fl g.op t nodes data rest)(S:ByteArray)(hS:S.size<=maxLen):
  Calls prog 68 #[.pointer (some ⟨B.wb,0,none⟩),.string S] w fun e w'=>∃a c,e=.returned (.tuple #[.slice a (listP nodes S).1.length c,.int .i64 (listP nodes S).2])/\w'.ownsRow 0 9 1 (.slice a (listP nodes S).1.length c) (listP nodes S).1.length (encS (listP nodes S).1)/\
   ∃tg' g' t',Moves (Mine i) tg tg' w w'/\QInv tg' w' s i p B objs g' (lim+400) t'/\g'.fs.brk=false/\(∃l,g'.fs.got=g.fs.got++l/\∀x,l.count x+g.fs.kn x=g'.fs.kn x)/\HeldInj objs t'/\Tied objs g'.fl g'.op t' nodes data rest/\(listP nodes S).1.length<=16/\∀b,(Value.slice a (listP nodes S).1.length c).ownBlock=some b->w.heap.size<=b/\tg' b=(0,0):=by
 have hR:=hY.reads;have hs:=hY.2;rcases path_cases hS with ⟨hf,hn⟩ | ⟨l,hG,rfl⟩
 ·have e:listP nodes S=([],1):=by unfold listP;rw[zzD hf]
  rw[e];exact (list_bad B.wb S w hn).mono fun e w' ⟨he,hbl⟩=>⟨none,0,he,World.ownsRow_nil _ _ _ _,tg,g,t,Moves.of_below hbl,(h.below hbl).mono (by omega),hb,⟨[],by simp,fun x=>by simp⟩,hi,hY,zzF _,fun b hb=>by cases hb⟩
 ·obtain⟨r,rfl⟩:∃r:List ByteArray,l=r.reverse:=⟨l.reverse,by simp⟩
  obtain⟨hN,hE⟩:=fair_next (fair_look objs t g.fs r) hb;rw[all_look] at hE;obtain⟨r1,r2⟩:=rd_list hR hs hX.sound h.ok hG;have hlen:(lookE objs t r).2.length=(listP nodes (joinP r.reverse)).1.length:=by rw[<-r2,List.length_map]
  have h16:(lookE objs t r).2.length<=16:=by
   by_cases h0:(lookE objs t r).1=0
   ·obtain⟨d,ha,hk⟩:=look_atE h0
    exact (ok_kids hX.sound (ok_at hX.sound _ h.ok ha).2.1 hk).2.1
   ·have:(lookE objs t r).2 = []:=by
     unfold lookE at h0 ⊢;simp only at h0 ⊢;split
     ·rfl
     ·rename_i h1
      rw[zzB h1] at h0;cases hc:(findE objs t r).2 <;> rw[hc] at h0 <;> first | rfl | exact absurd rfl h0
    rw[this];exact zzF _
  rw[<-joinB_P];refine (qlist9 h hl hG).mono ?_;rintro e w' ⟨v,he,tg',m,hQ,hL⟩;rw[hE] at he hL;rw[joinB_P];have hrest:∀a c,(∀b,(Value.slice a (listP nodes (joinP r.reverse)).1.length c).ownBlock=some b->w.heap.size<=b/\tg' b=(0,0))->∃tg' g' t',Moves (Mine i) tg tg' w w'/\QInv tg' w' s i p B objs g' (lim+400) t'/\g'.fs.brk=false/\(∃l,g'.fs.got=g.fs.got++l/\∀x,l.count x+g.fs.kn x=g'.fs.kn x)/\HeldInj objs t'/\Tied objs g'.fl g'.op t' nodes data rest/\(listP nodes (joinP r.reverse)).1.length<=16/\∀b,(Value.slice a (listP nodes (joinP r.reverse)).1.length c).ownBlock=some b->w.heap.size<=b/\tg' b=(0,0):=
   fun a c hbb=>⟨tg',_,t,m,hQ,by rw[show ({ g with fs:=(lookR objs t g.fs r).1 }:WG).fs.brk=(lookR objs t g.fs r).1.brk from rfl,hN.1];exact hb,hN.2.2.1,hi,hY,by rw[<-hlen];exact h16,hbb⟩
  rcases hL with ⟨h0,rfl⟩ | ⟨h0,b,rfl,hnm,hbt,hbn⟩
  ·have hnil:(listP nodes (joinP r.reverse)).1 = []:=by
    rw[<-r2]
    have:(lookE objs t r).2 = []:=by
     unfold lookE at h0 ⊢;simp only at h0 ⊢;split
     ·rfl
     ·rename_i h1
      rw[zzB h1] at h0;cases hc:(findE objs t r).2 <;> rw[hc] at h0 <;> first | rfl | exact absurd rfl h0
    rw[this];rfl
   refine⟨none,0,by rw[he,<-r1,hnil];rfl,by rw[hnil];exact World.ownsRow_nil _ _ _ _,hrest none 0 (fun b hb=>by cases hb)⟩
  ·refine⟨some ⟨b,0,none⟩,(listP nodes (joinP r.reverse)).1.length,by rw[he,<-r1,hlen],?_,hrest _ _ (fun b' hb'=>?_)⟩
   ·have:=nms_row (es:=(lookE objs t r).2.map entOf) (by rw[List.length_map];exact hnm) (by rw[List.length_map];exact h16)
    rw[List.length_map,hlen,List.map_map,show ((fun x:Ent=>x.1) ∘ entOf)=(fun x:ByteArray×LT=>x.1) from rfl,r2] at this;exact this
   ·simp only[Value.ownBlock,Option.some.injEq] at hb'
    subst hb';exact⟨hbn,hbt⟩
end
def ndK:Nd->Int
 | .dir=>2
 | .file _=>1
theorem ndK_nd (a:List Ob)(fc:FileC)(t:LT):ndK (nd a fc t)=t.kind:=by cases t <;> rfl
def thingAt (q:List ByteArray)(x:Nd):Thing8:=(joinB q,ndK x,ndD x)
def thingsP (a:List Ob)(fc:FileC):Nat->List ByteArray->LT->List (List ByteArray×Nd)
 | 0,_,_=>[]
 | n+1,q,c=>((kids a c).getD []).flatMap fun x=>(q ++ [x.1],nd a fc x.2) :: (if x.2.kind=2 then thingsP a fc n (q ++ [x.1]) x.2 else [])
theorem things_path {a:List Ob}{fc:FileC}:∀(n:Nat) (q:List ByteArray) (t:LT),thingsR a fc n q t=(thingsP a fc n q t).map fun x=>thingAt x.1 x.2
 | 0,q,t=>rfl
 | n+1,q,t=>by
  rw[thingsR,thingsP,List.map_flatMap]
  congr 1
  funext x
  rw[List.map_cons]
  unfold thingAt
  rw[ndK_nd]
  split
  ·rw[things_path n (q ++ [x.1]) x.2];rfl
  ·rfl
theorem path_long {a:List Ob}{fc:FileC}:∀(n:Nat) (q:List ByteArray) (t:LT) z,z ∈ thingsP a fc n q t->∃y,y ≠ []/\z.1=q++y
 | 0,q,t,z,h=>by cases h
 | n+1,q,t,z,h=>by
  rw[thingsP] at h
  obtain⟨x,hx,h⟩:=List.mem_flatMap.1 h
  rcases List.mem_cons.1 h with rfl | h
  ·exact⟨[x.1],by simp,rfl⟩
  ·split at h
   ·obtain⟨y,hy,e⟩:=path_long n (q ++ [x.1]) x.2 z h
    exact⟨x.1 :: y,by simp,by rw[e,List.append_assoc];rfl⟩
   ·cases h
theorem path_order {a:List Ob}(hS:Sound a){fc:FileC}:∀(n:Nat) (q:List ByteArray) (t:LT),LTok a n t->(thingsP a fc n q t).Pairwise fun x y=>¬y.1 <+: x.1
 | 0,q,t,_=>List.Pairwise.nil
 | n+1,q,t,ht=>by
  rw[thingsP]
  by_cases hk:t.kind=2
  ·obtain⟨ks,hks⟩:=kids_some (a:=a) hk
   obtain⟨hr,_,hkid⟩:=ok_kids hS ht hks
   rw[hks,Option.getD_some,List.pairwise_flatMap]
   refine⟨fun x hx=>?_,?_⟩
   ·obtain⟨m,e,o⟩:=(hkid x hx).2
    have e':m=n:=by omega
    subst e'
    refine List.pairwise_cons.2 ⟨fun z hz hp=>?_,?_⟩
    ·split at hz
     ·obtain⟨y,hy,e⟩:=path_long m (q ++ [x.1]) x.2 z hz
      rw[e] at hp
      have:=hp.length_le
      rw[List.length_append] at this
      have:0<y.length:=List.length_pos_iff.2 hy
      simp only at *
      omega
     ·cases hz
    ·split
     ·exact path_order hS m (q ++ [x.1]) x.2 o
     ·exact List.Pairwise.nil
   ·refine List.Pairwise.imp ?_ hr
    intro x1 x2 hlt z1 hz1 z2 hz2 hp
    have key:∀(x:ByteArray×LT) z,z ∈ ((q ++ [x.1],nd a fc x.2) :: (if x.2.kind=2 then thingsP a fc n (q ++ [x.1]) x.2 else []))->∃y,z.1=q++x.1 :: y:=by
     intro x z hz;rcases List.mem_cons.1 hz with rfl | hz
     ·exact⟨[],rfl⟩
     ·split at hz
      ·obtain⟨y,hy,e⟩:=path_long n (q ++ [x.1]) x.2 z hz
       exact⟨y,by rw[e,List.append_assoc];rfl⟩
      ·cases hz
    obtain⟨y1,e1⟩:=key x1 z1 hz1;obtain⟨y2,e2⟩:=key x2 z2 hz2;rw[e1,e2,List.prefix_append_right_inj,List.cons_prefix_cons] at hp;rw[hp.1,cmpN_self] at hlt;omega
  ·rw[kids_none hk];exact List.Pairwise.nil
theorem path_mem {a:List Ob}(hS:Sound a){fc:FileC}{t:LT}(ht:LTok a 5 t){y:List ByteArray}{x:Nd}:(y,x) ∈ thingsP a fc 5 [] t↔y ≠ []/\sem a fc t y=some x:=by
 have key:∀(n:Nat) (q:List ByteArray) (t:LT),LTok a n t->∀z,z ∈ thingsP a fc n q t ↔ ∃y x,y ≠ []/\sem a fc t y=some x/\z=(q++y,x):=by
  intro n
  induction n with
  | zero=>
   intro q t ht z;rw[thingsP];constructor
   ·intro h;cases h
   ·rintro ⟨y,x,hy,hs,_⟩
    unfold sem at hs;obtain⟨c,hc,_⟩:=Option.map_eq_some_iff.1 hs
    have:=(ok_at hS _ ht hc).1
    exact absurd (List.length_eq_zero_iff.1 (by omega)) hy
  | succ n ih=>
   intro q t ht z;rw[thingsP];by_cases hk:t.kind=2
   ·obtain⟨ks,hks⟩:=kids_some (a:=a) hk
    obtain⟨hr,_,hkid⟩:=ok_kids hS ht hks;rw[hks,Option.getD_some,List.mem_flatMap];have hpick:∀w ∈ ks,pickK ks w.1=some w.2:=fun w hw=>by
     obtain⟨k,hk,rfl⟩:=List.getElem_of_mem hw;exact pick_getK hr hk
    constructor
    ·rintro ⟨w,hw,hz⟩
     obtain⟨m,e,o⟩:=(hkid w hw).2;have e':m=n:=by omega
     subst e';rcases List.mem_cons.1 hz with hz | hz
     ·exact⟨[w.1],nd a fc w.2,by simp,by rw[sem_cons,hks,Option.bind_some,hpick w hw,Option.bind_some,sem_nil],hz⟩
     ·split at hz
      ·obtain⟨y,x,hy,hs,e⟩:=(ih (q ++ [w.1]) w.2 o z).1 hz
       exact⟨w.1 :: y,x,by simp,by rw[sem_cons,hks,Option.bind_some,hpick w hw,Option.bind_some];exact hs,by rw[e,List.append_assoc];rfl⟩
      ·cases hz
    ·rintro ⟨y,x,hy,hs,e⟩
     cases y with
     | nil=>exact absurd rfl hy
     | cons b y=>
      rw[sem_cons,hks,Option.bind_some] at hs;obtain⟨c,hc,hs⟩:=Option.bind_eq_some_iff.1 hs;have hmem:∃w ∈ ks,w.1=b/\w.2=c:=by
       unfold pickK at hc;obtain⟨w,hw,e2⟩:=Option.map_eq_some_iff.1 hc;exact⟨w,List.mem_of_find?_eq_some hw,by simpa using List.find?_some hw,e2⟩
      obtain⟨w,hw,rfl,rfl⟩:=hmem;obtain⟨m,e1,o⟩:=(hkid w hw).2;have e':m=n:=by omega
      subst e';refine⟨w,hw,?_⟩;cases y with
      | nil=>
       rw[sem_nil] at hs;rw[e,<-Option.some.inj hs];exact List.mem_cons_self ..
      | cons b2 y=>
       refine List.mem_cons_of_mem _ ?_;have hk2:w.2.kind=2:=by
        by_cases h2:w.2.kind=2
        ·exact h2
        ·rw[sem_cons,kids_none h2] at hs;cases hs
       rw[zzD hk2];exact (ih (q ++ [w.1]) w.2 o z).2 ⟨b2 :: y,x,by simp,hs,by rw[e,List.append_assoc];rfl⟩
   ·rw[kids_none hk]
    constructor
    ·intro h;cases h
    ·rintro ⟨y,x,hy,hs,_⟩
     cases y with
     | nil=>exact absurd rfl hy
     | cons b y=>rw[sem_cons,kids_none hk] at hs;cases hs
 rw[key 5 [] t ht];constructor
 ·rintro ⟨y',x',hy,hs,e⟩
  cases e;exact⟨hy,hs⟩
 ·rintro ⟨hy,hs⟩
  exact⟨y,x,hy,hs,rfl⟩
section
variable {a b:List Ob}{fc fu:FileC}{t u:LT}
end
end Go.Proofs.YtlgidcmmgohagaaGreat
