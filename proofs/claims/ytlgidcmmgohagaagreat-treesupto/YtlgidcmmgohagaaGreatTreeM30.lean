/- What is proved here: ac2. -/
import Derived.Test.YtlgidcmmgohagaaGreatTreeM16
import Derived.Test.YtlgidcmmgohagaaGreatTreeM15
import Derived.Test.YtlgidcmmgohagaaGreatTreeM26
import Derived.Test.YtlgidcmmgohagaaGreatTreeM23
import Derived.Test.YtlgidcmmgohagaaGreatTreeM25
import Derived.Test.YtlgidcmmgohagaaGreatTreeM10
import Derived.Test.YtlgidcmmgohagaaGreatTreeM11
import Derived.Test.YtlgidcmmgohagaaGreatTreeM05
import Derived.Test.YtlgidcmmgohagaaGreatTreeM12
import Derived.Test.YtlgidcmmgohagaaGreatTreeM28
import Derived.Test.YtlgidcmmgohagaaGreatTreeM21
import Derived.Test.YtlgidcmmgohagaaGreatTreeM07
namespace Go.Proofs.YtlgidcmmgohagaaGreat
open Go.RowKit Go.Sort Go.Shelf Go.Proofs.Tryz
set_option linter.unusedVariables false
set_option maxRecDepth 100000
set_option maxHeartbeats 16000000
theorem UA (s:ByteArray)(k:Nat)(w:World)(h:Lib.indexByte s.data.toList 47=(k:Int))(hk:k<s.size)(hm:s.size<=maxLen):Calls prog 184 #[.string s,.string ⟨#[47]⟩] w fun e w'=>e=.returned (.tuple #[.string (s.extract 0 k),.string (s.extract (k+1) s.size),.bool true])/\Below w.heap.size w w':=by
 have hi:=tE s w;rw[h] at hi;unfold maxLen at hm;have hw:IntKind.i64.wrap ((k:Int)+1)=(k:Int)+1:=by rw[IntKind.wrap_i64] <;> omega
 have hk0:(0:Int)<=k:=by omega
 go_enter func184,ntmps184;go_wp2_with (go_at_call 215;refine hi.mono ?_;rintro e w1 ⟨rfl,rfl⟩)
 go_region
 all_goals
  go_wp2;exact bodyPost_ret (v:=.tuple #[.string (s.extract 0 k),.string (s.extract (k+1) s.size),.bool true]) (by simp[results,results184,go_sem]) rfl ⟨rfl,aB (Below.refl _ _)⟩
theorem Xw (x:ByteArray)(r:List ByteArray)(hx:∀c ∈ fO x,c≠47)(hm:(bV (x :: r)).size<=maxLen)(w:World):
  Calls prog 128 #[.string (bV (x :: r)),.string ⟨#[47]⟩] w fun e w'=>e=.returned (.tuple #[.string x,.string (bV r),.bool (!r.isEmpty)])/\Below w.heap.size w w':=by
 cases r with
 | nil=>
  rw[qJ,ux];exact xq _ _ _ _ w ((D8 x w (rS _ hx)).mono fun e w' ⟨h1,h2⟩=>⟨h1,by rw[h2];exact Below.refl _ _⟩)
 | cons y t=>
  have h1:=l9 x (r:=y :: t) (by simp);have h2:Lib.indexByte (fO (bV (x :: y :: t))) 47=((fO x).length:Int):=by rw[h1];exact index_first _ _ hx
  have h3:(bV (x :: y :: t)).size=(fO x).length+1+(fO (bV (y :: t))).length:=by rw[<-cN,h1,List.length_append,List.length_cons];omega
  have h4:=UA (bV (x :: y :: t)) (fO x).length w h2 (by omega) hm;have e1:(bV (x :: y :: t)).extract 0 (fO x).length=x:=gy (by rw[pR,h1,List.take_left,List.drop_zero]);have e2:(bV (x :: y :: t)).extract ((fO x).length+1) (bV (x :: y :: t)).size=bV (y :: t):=gy (by
   rw[pR,List.take_of_length_le (by rw[cN];exact bA _),h1,show fO x++47 :: fO (bV (y :: t))=(fO x ++ [47])++fO (bV (y :: t)) by simp];exact List.drop_left' (by simp))
  rw[e1,e2] at h4;exact xq _ _ _ _ w h4
theorem Co:∀(s:List UInt8),∀x ∈ cM s,∀c ∈ x,c≠47
 | []=>by intro x hx c hc;simp[cM] at hx;subst hx;cases hc
 | d :: r=>by
  intro x hx c hc
  have ih:=Co r
  rw[cM] at hx
  split at hx
  ·rcases List.mem_cons.1 hx with rfl | hx
   ·cases hc
   ·exact ih x hx c hc
  ·rename_i hd
   rcases List.mem_cons.1 hx with rfl | hx
   ·rcases List.mem_cons.1 hc with rfl | hc
    ·exact hd
    ·cases hs:cM r with
     | nil=>exact absurd hs (lW r)
     | cons y ys=>rw[hs] at hc;exact ih y (by rw[hs];exact List.mem_cons_self ..) c hc
   ·exact ih x (List.mem_of_mem_tail hx) c hc
def Mr (s:ByteArray):List ByteArray:=(cM (fO s)).map fun x=>⟨x.toArray⟩
theorem UB (s:ByteArray):bV (Mr s)=s:=by
 apply gy;show iq ((Mr s).map fO)=fO s;unfold Mr;rw[List.map_map]
 have:(cM (fO s)).map (fO ∘ fun x=>(⟨x.toArray⟩:ByteArray))=cM (fO s):=by
  conv=>rhs;rw[<-List.map_id (cM (fO s))]
  apply List.map_congr_left;intro x _;rfl
 rw[this,sV]
theorem UC (s:ByteArray):∀x ∈ Mr s,∀c ∈ fO x,c≠47:=by
 intro x hx;obtain⟨y,hy,rfl⟩:=List.mem_map.1 hx;exact Co _ y hy
theorem aaJ (s:ByteArray):Mr s ≠ []:=by
 unfold Mr;intro h;exact lW _ (List.map_eq_nil_iff.1 h)
theorem Xx {L:List ByteArray}(h:¬Good L):∃k,k<L.length/\k<=5/\(∀j (hj:j<L.length),j<k->aF L[j]=true)/\(k=5\/∃hk:k<L.length,aF L[k]=false):=by
 by_cases hv:∀j (hj:j<L.length),j<5->aF L[j]=true
 ·by_cases h5:L.length<=5
  ·refine absurd ⟨fun x hx=>?_,h5⟩ h
   obtain⟨j,hj,rfl⟩:=List.getElem_of_mem hx;exact hv j hj (by omega)
  ·exact⟨5,by omega,by omega,hv,.inl rfl⟩
 ·have key:∀n,(∃j,∃hj:j<L.length,j<n/\aF L[j]=false)->∃k,∃hk:k<L.length,k<n/\aF L[k]=false/\∀j (hj:j<L.length),j<k->aF L[j]=true:=by
   intro n
   induction n with
   | zero=>rintro ⟨j,_,hj,_⟩;omega
   | succ n ih=>
    rintro ⟨j,hj,OH,hb⟩;by_cases he:∃j,∃hj:j<L.length,j<n/\aF L[j]=false
    ·obtain⟨k,hk,gP,h1,h2⟩:=ih he
     exact⟨k,hk,by omega,h1,h2⟩
    ·have hall:∀i (hi:i<L.length),i<n->aF L[i]=true:=fun i hi lV=>by
      cases hv:aF L[i] with
      | true=>rfl
      | false=>exact absurd ⟨i,hi,lV,hv⟩ he
     have Y5:j=n:=by
      by_cases hlt:j<n
      ·rw[hall j hj hlt] at hb;cases hb
      ·omega
     subst Y5;exact⟨j,hj,by omega,hb,hall⟩
  have:∃j,∃hj:j<L.length,j<5/\aF L[j]=false:=by
   refine Classical.byContradiction fun hc=>hv fun j hj h5=>?_;cases hb:aF L[j] with
   | true=>rfl
   | false=>exact absurd ⟨j,hj,h5,hb⟩ hc
  obtain⟨k,hk,KU,hb,hall⟩:=key 5 this;exact⟨k,hk,by omega,hall,.inr ⟨hk,hb⟩⟩
theorem Es {L:List ByteArray}(j:Nat):(bV (L.drop j)).size<=(bV L).size:=by
 induction j generalizing L with
 | zero=>exact bA _
 | succ j ih=>
  cases L with
  | nil=>exact bA _
  | cons x r=>
   rw[List.drop_succ_cons];refine eU ih ?_;cases r with
   | nil=>exact dG _
   | cons y t=>
    have:=congrArg List.length (l9 x (r:=y :: t) (by simp))
    rw[List.length_append,List.length_cons,cN,cN,cN] at this;omega
theorem QG (s:ByteArray)(hs:s.size<=maxLen)(Gd:∀l,Good l->s≠bV l)(w:World):Calls prog 69 #[.string s] w fun e w'=>e=.returned (.tuple #[bn [],.int .i64 1])/\Below w.heap.size w w':=by
 obtain⟨L,hL⟩:∃L,L=Mr s:=⟨_,rfl⟩;have hj:=UB s;have RL:=UC s;have hne:=aaJ s;rw[<-hL] at hj RL hne;have hg:¬Good L:=fun h=>Gd L h hj.symm;have hs0:(!(s).toList.isEmpty)=true:=by
  have h0:s≠⟨#[]⟩:=fun e=>Gd [] Good.nil (by rw[e,ux]);rw[gF];cases hx:fO s with
  | nil=>exact absurd (gy (show fO s=fO ⟨#[]⟩ by rw[hx];rfl)) h0
  | cons c r=>rfl
 obtain⟨k,oG,KU,hval,hend⟩:=Xx hg;have hcut:∀j (hj:j<L.length) W,Calls prog 128 #[.string (bV (L.drop j)),.string ⟨#[47]⟩] W fun e w'=>e=.returned (.tuple #[.string (L.getD j ⟨#[]⟩),.string (bV (L.drop (j+1))),.bool (decide (j+1<L.length))])/\Below W.heap.size W w':=by
  intro j lU W;have e1:L.drop j=L[j] :: L.drop (j+1):=List.drop_eq_getElem_cons lU;have hm:(bV (L.drop j)).size<=maxLen:=by
   have:=Es (L:=L) j
   rw[hj] at this;omega
  rw[e1] at hm
  have:=Xw L[j] (L.drop (j+1)) (RL _ (jk lU)) hm W
  rw[<-e1] at this;have e2:(!(L.drop (j+1)).isEmpty)=decide (j+1<L.length):=by
   by_cases h:j+1<L.length
   ·rw[decide_eq_true h,List.drop_eq_getElem_cons h];rfl
   ·rw[dY h,List.drop_eq_nil_of_le (by omega)];rfl
  rw[e2] at this;rw[List.getD_eq_getElem?_getD,kO lU,Option.getD_some];exact this
 have YH:∀j (hj:j<L.length) W,Calls prog 129 #[.string (L.getD j ⟨#[]⟩)] W fun e w'=>e=.returned (.bool (aF (L.getD j ⟨#[]⟩)))/\w'=W:=by
  intro j lU W;rw[List.getD_eq_getElem?_getD,kO lU,Option.getD_some];refine xX L[j] W ?_;have h1:=Es (L:=L) j;rw[hj,List.drop_eq_getElem_cons lU] at h1;have h2:L[j].size<=(bV (L[j] :: L.drop (j+1))).size:=by
   cases hr:L.drop (j+1) with
   | nil=>rw[qJ];exact bA _
   | cons y t=>
    have:=congrArg List.length (l9 L[j] (r:=y :: t) (by simp))
    rw[List.length_append,List.length_cons,cN,cN,cN] at this;omega
  omega
 have iX:∀j (hj:j<L.length),j<k->aF (L.getD j ⟨#[]⟩)=true:=fun j hj h=>by
  rw[List.getD_eq_getElem?_getD,kO hj,Option.getD_some];exact hval j hj h
 have qo:k<5->aF (L.getD k ⟨#[]⟩)=false:=fun h=>by
  rcases hend with rfl | ⟨hk,hb⟩
  ·omega
  ·rw[List.getD_eq_getElem?_getD,kO hk,Option.getD_some];exact hb
 have bB:=fun W=>eM W;unfold bn av at bB;simp only[List.getD_nil] at bB;have hv0:bn []=.agg #[.string ⟨#[]⟩,.string ⟨#[]⟩,.string ⟨#[]⟩,.string ⟨#[]⟩,.string ⟨#[]⟩]:=rfl;rw[hv0];have WH:Hid _:=hcut;have WI:Hid _:=YH;have HGT:Hid _:=iX;have Aj:Hid _:=qo;have HJ:Hid _:=hj;clear hcut YH iX qo hval hend RL hne hg Gd hL hj;go_enter func69,ntmps69;go_wp2;have HA0:Hid (dO ((w.alloc (.cells #[.string ⟨#[]⟩,.string ⟨#[]⟩,.string ⟨#[]⟩,.string ⟨#[]⟩,.string ⟨#[]⟩] 147)).alloc (.cells #[.string ⟨#[]⟩,.string ⟨#[]⟩,.string ⟨#[]⟩,.string ⟨#[]⟩,.string ⟨#[]⟩] 147)) w.heap.size []):=Ea w;have J9:Hid (dO ((w.alloc (.cells #[.string ⟨#[]⟩,.string ⟨#[]⟩,.string ⟨#[]⟩,.string ⟨#[]⟩,.string ⟨#[]⟩] 147)).alloc (.cells #[.string ⟨#[]⟩,.string ⟨#[]⟩,.string ⟨#[]⟩,.string ⟨#[]⟩,.string ⟨#[]⟩] 147)) (w.heap.size+1) []):=Eb w
 go_loopw [5,6,7] (fun r m i wr=>∃j:Nat,j<=k/\i=.int .i64 (j:Int)/\m=.bool true/\r=.string (bV (L.drop j))/\Below w.heap.size w wr/\Hid (dO wr w.heap.size [])/\Hid (dO wr (w.heap.size+1) (L.take j))) (fun _ _ i _=>k-(intOf i).toNat)
 case atStart=>exact⟨0,dG _,rfl,rfl,by rw[List.drop_zero,HJ.out],((Below.refl _ _).alloc (bA _) _).alloc (by simp) _,HA0.out,J9.out⟩
 case round=>
  obtain⟨j,hj,rfl,rfl,rfl,hb,ZX,VA⟩:=hrel;have lU:j<L.length:=by omega
  have hzz:w.heap.size+1<wr.heap.size:=VA.out.1;have hz0:w.heap.size<wr.heap.size:=ZX.out.1;by_cases hlt:j<k
  ·have RB:j<5:=by omega
   have ac4:((j:Int) == 5)=false:=by simp;omega
   have hji:(j:Int)<5:=by omega
   have J4:=WH.out j lU;have VB:=WI.out j lU;rw[HGT.out j lU hlt] at VB;rw[decide_eq_true (show j+1<L.length by omega)] at J4;generalize hx:L.getD j ⟨#[]⟩=x at J4 VB;have HX:Hid _:=hx;clear hx;go_wp2_with fail;refine Calls.mono (J4 wr) ?_;rintro e w1 ⟨rfl,hb1⟩;have hz1:w.heap.size+1<w1.heap.size:=cv hzz hb1.size;have k1:=((VA.out.keep hb1).2 j RB);obtain⟨k1c,k1f⟩:=k1;generalize (L.take j).getD j ⟨#[]⟩=x0 at k1c;go_wp2_with (go_at_call 129;refine Calls.mono (VB _) ?_;rintro e w2 ⟨rfl,rfl⟩);go_roundw
   case rel=>
    refine⟨j+1,by omega,by go_num,rfl,rfl,?_,?_,?_⟩
    ·refine Below.setCell ?_ (by simp) _
     exact aq hb hb1
    ·exact (ZX.out.keep hb1).other (by omega)
    ·rw[<-HX.out];exact (VA.out.keep hb1).set RB
   case measure=>simp[intOf];omega
  ·have KB:j=k:=by omega
   subst KB;by_cases h5:j=5
   ·subst h5
    go_wp2_with (go_at_call 75;refine (bB _).mono ?_;rintro e w1 ⟨rfl,hb1⟩;obtain⟨⟨q0,q1,q2,q3,q4⟩,qf⟩:=(ZX.out.keep hb1).five;have qf0:=qf 0 (by omega);have qf1:=qf 1 (by omega);have qf2:=qf 2 (by omega);have qf3:=qf 3 (by omega);have qf4:=qf 4 (by omega);have hz1:w.heap.size<w1.heap.size:=cv hz0 hb1.size;clear qf;simp only[List.getD_nil] at q0 q1 q2 q3 q4);exact bodyPost_ret (v:=.tuple #[.agg #[.string ⟨#[]⟩,.string ⟨#[]⟩,.string ⟨#[]⟩,.string ⟨#[]⟩,.string ⟨#[]⟩],.int .i64 1]) (by simp[results,results69,go_sem,q0,q1,q2,q3,q4]) rfl ⟨rfl,by
     repeat (refine Below.setCell ?_ (by simp) _)
     exact aq hb hb1⟩
   ·have RB:j<5:=by omega
    have ac4:((j:Int) == 5)=false:=by simp;omega
    have hji:(j:Int)<5:=(by omega);have J4:=WH.out j lU;have VB:=WI.out j lU;rw[Aj.out RB] at VB;generalize L.getD j ⟨#[]⟩=x at J4 VB;generalize decide (j+1<L.length)=more at J4;go_wp2_with fail;refine Calls.mono (J4 wr) ?_;rintro e w1 ⟨rfl,hb1⟩;have hz1:w.heap.size+1<w1.heap.size:=cv hzz hb1.size;have k1:=((VA.out.keep hb1).2 j RB);obtain⟨k1c,k1f⟩:=k1;generalize (L.take j).getD j ⟨#[]⟩=x0 at k1c;have HP2:Hid (dO (w1.setCell ⟨w.heap.size+1,j,none⟩ (.string x)) w.heap.size []):=(ZX.out.keep hb1).other (by omega);have hb2:Below w.heap.size w (w1.setCell ⟨w.heap.size+1,j,none⟩ (.string x)):=Below.setCell (aq hb hb1) (by simp) _;go_wp2_with (first
     | (go_at_call 129;refine Calls.mono (VB _) ?_;rintro e w2 ⟨rfl,rfl⟩)
     | (go_at_call 75;refine (bB _).mono ?_;rintro e w3 ⟨rfl,hb3⟩;obtain⟨⟨q0,q1,q2,q3,q4⟩,qf⟩:=(HP2.out.keep hb3).five;have qf0:=qf 0 (by omega);have qf1:=qf 1 (by omega);have qf2:=qf 2 (by omega);have qf3:=qf 3 (by omega);have qf4:=qf 4 (by omega);have hz3:w.heap.size<w3.heap.size:=(HP2.out.keep hb3).1;clear qf;simp only[List.getD_nil] at q0 q1 q2 q3 q4))
    exact bodyPost_ret (v:=.tuple #[.agg #[.string ⟨#[]⟩,.string ⟨#[]⟩,.string ⟨#[]⟩,.string ⟨#[]⟩,.string ⟨#[]⟩],.int .i64 1]) (by simp[results,results69,go_sem,q0,q1,q2,q3,q4]) rfl ⟨rfl,by
     repeat (refine Below.setCell ?_ (by simp) _)
     exact aq hb2 hb3⟩
def N5 (n0:Nat)(tg:aP)(w:World)(er:Int)(ks:Kids)(v:Value):Prop:=(er≠0/\v=.slice none 0 0)\/(er=0/\∃b,v=.slice (some ⟨b,0,none⟩) ks.length ks.length/\tW w b (ks.map cK) ks.length/\tg b=(0,0)/\n0<=b)
section
variable {s i p:Nat}{B:WB}{ag:List Ob}
theorem aaK {tg:aP}{w:World}{g:WG}{lim:Nat}{t:LT}(h:kj tg w s i p B ag g lim t)(hl:lim+1000<1099511627776){r:List ByteArray}(hL:Good r.reverse):
  Calls prog 68 #[.pointer (some ⟨B.wb,0,none⟩),.string (bV r.reverse)] w fun e w'=>∃v,e=.returned (.tuple #[v,.int .i64 (cA ag t g.fs r).2.1])/\∃aC,az (Mine i) tg aC w w'/\kj aC w' s i p B ag { g with fs:=(cA ag t g.fs r).1 } (lim+400) t/\N5 w.heap.size aC w' (cA ag t g.fs r).2.1 (cA ag t g.fs r).2.2 v:=by
 obtain⟨xV,c0,_⟩:=h.ws;have RH:r.length<=5:=by have:=hL.len;simpa using this
 have dx:=fun W (hb:Below w.heap.size w W)=>tN (s:=s) (i:=i) (p:=p) (B:=B) (ag:=ag) r tg W g lim (h.inv.below hb) (by omega) hL;have aaL:((cA ag t g.fs r).2.2.map cK).length<=16:=by
  have:=(h.inv.aV g.fs r).len
  rw[lY h.inv.st.sound h.flat h.ok g.fs r] at this;exact this
 simp only[lY h.inv.st.sound h.flat h.ok g.fs r] at dx;obtain⟨fs',er,ks,hlk⟩:∃fs' er ks,cA ag t g.fs r=(fs',er,ks):=⟨_,_,_,rfl⟩;rw[hlk] at aaL dx ⊢;simp only at aaL dx ⊢;refine (Ut B.wb B.bt r.reverse hL (fun v e w'=>e=er/\∃aC,az (Mine i) tg aC w w'/\kj aC w' s i p B ag { g with fs:=fs' } (lim+400) t/\N5 w.heap.size aC w' er ks v) w xV c0 (fun W hb=>?_)).mono ?_
 ·have gB:∀{w3 w':World} {aC:aP},az (dB i) tg aC w w3->bF aC w3 s i p B ag { g with fs:=fs' } (lim+r.length+1)->Below w3.heap.size w3 w'->az (Mine i) tg aC w w'/\kj aC w' s i p B ag { g with fs:=fs' } (lim+400) t:=by
   intro w3 w' aC m hW hb3;exact⟨(m.mono (fun t ht=>dB.mine ht)).trans (az.aM hb3),(hW.below hb3).mono (by omega),h.flat,h.ok,h.fl,h.op⟩
  by_cases her:er=0
  ·subst her
   by_cases hne:0<ks.length
   ·have Wq:=Ml B.bt _ _ _ _ _ (ks.map cK) (fun w3=>∃aC,az (dB i) tg aC w w3/\bF aC w3 s i p B ag { g with fs:=fs' } (lim+r.length+1)) W aaL (fun W' hb'=>(dx W' (aq hb hb')).mono ?_)
    ·refine Wq.mono ?_
     rintro e w' ⟨w3,⟨aC,m,hW⟩,rfl,hb3,hN⟩;rw[List.length_map] at hN ⊢;obtain⟨m',hQ⟩:=gB m hW hb3;exact⟨_,_,rfl,rfl,aC,m',hQ,.inr ⟨rfl,_,rfl,hN,hW.st.fresh _ (bA _),m.size⟩⟩
    ·rintro e w' ⟨v,rfl,aC,m,hW,nP⟩
     obtain⟨gb,cp,rfl,hgb,_⟩:=nP.at_ (k:=0) (by simpa using hne);refine⟨gb,cp,rfl,⟨aC,(bY (aq hb hb') m),hW⟩,hgb,fun j u hu=>?_⟩
     have:=aQ nP.1 j u hu
     rwa [Nat.zero_add] at this
   ·obtain rfl:ks = []:=List.length_eq_zero_iff.1 (by omega)
    have Wq:=QB B.bt _ _ _ _ _ (fun w3=>∃aC,az (dB i) tg aC w w3/\bF aC w3 s i p B ag { g with fs:=fs' } (lim+r.length+1)) W (fun W' hb'=>(dx W' (aq hb hb')).mono ?_)
    ·refine Wq.mono ?_
     rintro e w' ⟨w3,⟨aC,m,hW⟩,rfl,hb3,hN⟩;obtain⟨m',hQ⟩:=gB m hW hb3;exact⟨_,_,rfl,rfl,aC,m',hQ,.inr ⟨rfl,_,rfl,hN,hW.st.fresh _ (bA _),m.size⟩⟩
    ·rintro e w' ⟨v,rfl,aC,m,hW,nP⟩
     obtain⟨la,c,rfl⟩:=nP.len;exact⟨la,c,rfl,aC,(bY (aq hb hb') m),hW⟩
  ·have Wq:=QA B.bt _ _ _ _ _ er her (fun w3=>∃aC,az (dB i) tg aC w w3/\bF aC w3 s i p B ag { g with fs:=fs' } (lim+r.length+1)) W (fun W' hb'=>(dx W' (aq hb hb')).mono ?_)
   ·refine Wq.mono ?_
    rintro e w' ⟨⟨aC,m,hW⟩,rfl⟩;obtain⟨m',hQ⟩:=gB m hW (Below.refl _ _);exact⟨_,_,rfl,rfl,aC,m',hQ,.inl ⟨her,rfl⟩⟩
   ·rintro e w' ⟨v,rfl,aC,m,hW,nP⟩
    exact⟨v,rfl,aC,(bY (aq hb hb') m),hW⟩
 ·rintro e w' ⟨v,er',he,rfl,hR⟩
  exact⟨v,he,hR⟩
end
def mo (S:ByteArray):Prop:=∀W,Calls prog 69 #[.string S] W fun e w'=>e=.returned (.tuple #[.agg #[.string ⟨#[]⟩,.string ⟨#[]⟩,.string ⟨#[]⟩,.string ⟨#[]⟩,.string ⟨#[]⟩],.int .i64 1])/\Below W.heap.size W w'
theorem QH (wb:Nat)(S:ByteArray)(w:World)(hp:mo S):Calls prog 31 #[.pointer (some ⟨wb,0,none⟩),.string S] w fun e w'=>e=.returned (.int .i64 1)/\Below w.heap.size w w':=by
 unfold mo at hp;go_enter func31,ntmps31;go_wp2_with (go_at_call 69;refine Calls.mono (hp _) ?_;rintro e w1 ⟨rfl,hb1⟩);go_ret
 first | exact⟨rfl,hb1⟩ | exact⟨rfl,hb1.alloc hb1.size _⟩
theorem Ms (wb:Nat)(S:ByteArray)(w:World)(hp:mo S):Calls prog 32 #[.pointer (some ⟨wb,0,none⟩),.string S] w fun e w'=>e=.returned (.int .i64 1)/\Below w.heap.size w w':=by
 unfold mo at hp;go_enter func32,ntmps32;go_wp2_with (go_at_call 69;refine Calls.mono (hp _) ?_;rintro e w1 ⟨rfl,hb1⟩);go_ret
 first | exact⟨rfl,hb1⟩ | exact⟨rfl,hb1.alloc hb1.size _⟩
theorem UD (wb:Nat)(S:ByteArray)(w:World)(hp:mo S):Calls prog 68 #[.pointer (some ⟨wb,0,none⟩),.string S] w fun e w'=>e=.returned (.tuple #[.slice none 0 0,.int .i64 1])/\Below w.heap.size w w':=by
 unfold mo at hp;go_enter func68,ntmps68;go_wp2_with (go_at_call 69;refine Calls.mono (hp _) ?_;rintro e w1 ⟨rfl,hb1⟩);go_ret2
 first | exact⟨rfl,hb1⟩ | exact⟨rfl,hb1.alloc hb1.size _⟩
theorem JD (wb:Nat)(S T:ByteArray)(w:World)(hp:mo S):Calls prog 33 #[.pointer (some ⟨wb,0,none⟩),.string S,.string T] w fun e w'=>e=.returned (.int .i64 1)/\Below w.heap.size w w':=by
 unfold mo at hp;go_enter func33,ntmps33;go_wp2_with (go_at_call 69;refine Calls.mono (hp _) ?_;rintro e w1 ⟨rfl,hb1⟩);go_ret
 first | exact⟨rfl,hb1⟩ | exact⟨rfl,hb1.alloc hb1.size _⟩
theorem JE (wb:Nat)(l:List ByteArray)(hl:Good l)(T:ByteArray)(w:World)(hp:mo T):Calls prog 33 #[.pointer (some ⟨wb,0,none⟩),.string (bV l),.string T] w fun e w'=>e=.returned (.int .i64 1)/\Below w.heap.size w w':=by
 unfold mo at hp;have kP:=fun W=>mb l hl W
 obtain⟨s0,s1,s2,s3,s4,hP⟩:∃s0 s1 s2 s3 s4,av l = #[.string s0,.string s1,.string s2,.string s3,.string s4]:=⟨_,_,_,_,_,rfl⟩;unfold bn at kP;simp only[hP] at kP;clear hP hl;generalize bV l=tx at kP ⊢;go_enter func33,ntmps33;go_wp2_with fail;refine Calls.mono (kP _) ?_;rintro e w1 ⟨rfl,hb1⟩;go_wp2_with fail;refine Calls.mono (hp _) ?_;rintro e w2 ⟨rfl,hb2⟩;go_wp2;go_ret;exact⟨rfl,Below.alloc (aq (hb1.alloc hb1.size _) hb2) (eU (eU hb1.size (by simp)) hb2.size) _⟩
theorem UE (wb:Nat)(S:ByteArray)(w:World)(hp:mo S):Calls prog 67 #[.pointer (some ⟨wb,0,none⟩),.string S] w fun e w'=>e=.returned (.tuple #[.agg #[.int .i64 0,.int .i64 0],.int .i64 1])/\Below w.heap.size w w':=by
 unfold mo at hp;have hb0:Below w.heap.size w (w.alloc (.cells #[.int .i64 0,.int .i64 0] 141)):=(Below.refl _ _).alloc (bA _) _;have Ho:jf (w.alloc (.cells #[.int .i64 0,.int .i64 0] 141)) w.heap.size:=heap_alloc_new _ _;have Lp:Hid _:=hb0;have HI0:Hid _:=Ho;clear hb0 Ho;go_enter func67,ntmps67;go_wp2_with fail;refine Calls.mono (hp _) ?_;rintro e w1 ⟨rfl,hb1⟩;have J5:jf w1 w.heap.size:=(hb1.block w.heap.size (by simp)).trans HI0.out;obtain⟨hl2,e0,e1,f2⟩:=J5.cells;have z6:Below w.heap.size w w1:=Lp.out.trans (hb1.mono (by simp));have hX:((w1.setCell ⟨w.heap.size,0,none⟩ (.int .i64 0)).setCell ⟨w.heap.size,1,none⟩ (.int .i64 0)).heap[w.heap.size]? = some (.cells #[.int .i64 0,.int .i64 0] 141 (0,0)):=by
  unfold jf at J5;simp[World.setCell,Array.getElem?_modify,J5]
 have hY:∀o,(((w1.setCell ⟨w.heap.size,0,none⟩ (.int .i64 0)).setCell ⟨w.heap.size,1,none⟩ (.int .i64 0)).alloc o).heap[w.heap.size]? = some (.cells #[.int .i64 0,.int .i64 0] 141 (0,0)):=fun o=>(Below.heap_alloc _ _ _ (Array.getElem?_eq_some_iff.1 hX).1).trans hX;have y0:∀o,(((w1.setCell ⟨w.heap.size,0,none⟩ (.int .i64 0)).setCell ⟨w.heap.size,1,none⟩ (.int .i64 0)).alloc o).cell? ⟨w.heap.size,0,none⟩=some (.int .i64 0):=fun o=>by simp[World.cell?,hY o]
 have y1:∀o,(((w1.setCell ⟨w.heap.size,0,none⟩ (.int .i64 0)).setCell ⟨w.heap.size,1,none⟩ (.int .i64 0)).alloc o).cell? ⟨w.heap.size,1,none⟩=some (.int .i64 0):=fun o=>by simp[World.cell?,hY o]
 have Gv:∀o,Below w.heap.size w (((w1.setCell ⟨w.heap.size,0,none⟩ (.int .i64 0)).setCell ⟨w.heap.size,1,none⟩ (.int .i64 0)).alloc o):=fun o=>((z6.setCell (bA _) _).setCell (bA _) _).alloc (by simpa using z6.size) _;clear J5 hX hY;go_wp2;exact bodyPost_ret (v:=.tuple #[.agg #[.int .i64 0,.int .i64 0],.int .i64 1]) (by simp[results,results67,go_sem,y0,y1]) rfl ⟨rfl,Gv _⟩
theorem JF (xs:List ByteArray):∀k,k<=xs.length->fO (kZ xs k)=iq ((xs.take k).map fO)
 | 0,_=>rfl
 | k+1,h=>by
  have ih:=JF xs k (by omega)
  have hg:xs.getD k ⟨#[]⟩=xs[k]:=by rw[List.getD_eq_getElem?_getD,kO (by omega)];rfl
  rw[qX (by omega),List.map_append,List.map_cons,List.map_nil]
  simp only[kZ]
  rw[hg,oM]
  split
  ·next h0=>
   rw[vu _ _ (by intro e;have:=congrArg List.length e;rw[List.length_map,List.length_take,List.length_nil] at this;omega),oM,ih]
   simp[fO]
  ·next h0=>
   have:k=0:=by omega
   subst this
   simp[kZ,fO,iq]
theorem gZ (xs:List ByteArray):fO (aj xs)=iq (xs.map fO):=by
 unfold aj;rw[JF xs xs.length (bA _),List.take_length]
theorem zO:∀(a:List UInt8) (c:UInt8),cM (a ++ [c])=if c=47 then cM a ++ [[]] else (cM a).dropLast ++ [(cM a).getLastD [] ++ [c]]
 | [],c=>by
  simp only[List.nil_append,cM]
  split <;> rfl
 | d :: r,c=>by
  have ih:=zO r c
  have hne:=lW r
  simp only[List.cons_append,cM]
  rw[ih]
  cases hs:cM r with
  | nil=>exact absurd hs hne
  | cons y t=>
   by_cases hd:d=47
   ·simp only[aL hd]
    by_cases hc:c=47
    ·simp[hc]
    ·simp[hc]
   ·simp only[ay hd]
    by_cases hc:c=47
    ·simp[hc]
    ·simp only[ay hc]
     cases t with
     | nil=>simp
     | cons z u=>simp
theorem UF {s:ByteArray}{i:Nat}(h:i<s.size):cutAt s i=decide (s[i]=47):=by unfold cutAt;rw[dif_pos h]
theorem QI {s:ByteArray}:cutAt s s.size=true:=by unfold cutAt;rw[dif_neg (by omega)]
theorem nj (s:ByteArray)(a b:Nat):fO (s.extract a b)=((fO s).take b).drop a:=by
 unfold fO;rw[ByteArray.data_extract];simp[List.drop_take]
theorem UG (s:ByteArray):∀i,i<=s.size->cM ((fO s).take i)=(iu s i).1.map fO ++ [((fO s).take i).drop (iu s i).2]
 | 0,_=>rfl
 | i+1,h=>by
  have ih:=UG s i (by omega)
  have hf:=D3 s i
  have hi:i<(fO s).length:=by rw[cN];omega
  obtain⟨c,hcd⟩:∃c,c=(fO s)[i]:=⟨_,rfl⟩
  have hcut:cutAt s i=decide (c=47):=by rw[UF (by omega:i<s.size),hcd];rfl
  rw[qX hi,<-hcd,zO,ih]
  simp only[iu,hcut]
  by_cases hc:c=47
  ·simp only[hc,if_true,decide_true,List.map_append,List.map_cons,List.map_nil,nj]
   congr 1
   rw[List.drop_eq_nil_of_le]
   simp only[List.length_append,List.length_take,List.length_cons,List.length_nil]
   omega
  ·simp only[hc,if_false,decide_false,Bool.false_eq_true,List.dropLast_concat]
   congr 1
   have:((iu s i).1.map fO ++ [((fO s).take i).drop (iu s i).2]).getLastD []=((fO s).take i).drop (iu s i).2:=by simp
   rw[this,List.drop_append_of_le_length (by rw[List.length_take];omega)]
theorem JG (s:ByteArray):(iu s (s.size+1)).1.map fO=cM (fO s):=by
 have h:=UG s s.size (bA _);have ht:(fO s).take s.size=fO s:=by rw[<-cN];exact List.take_length
 rw[ht] at h;rw[h];simp only[iu];rw[QI,aL rfl];simp only[List.map_append,List.map_cons,List.map_nil,nj,ht]
theorem Mt (s:ByteArray):aj (iu s (s.size+1)).1=s:=by
 apply gy;rw[gZ,JG,sV]
theorem vY {x:ByteArray}(h:aF x=true):∀c ∈ fO x,c≠47:=by
 unfold aF at h;simp only[Bool.and_eq_true,decide_eq_true_eq] at h;intro c hc e;subst e;obtain⟨j,hj,hjc⟩:=List.getElem_of_mem hc;exact E7 hj hjc h.2
theorem tZ:∀{a b:List ByteArray},a.map fO=b.map fO->a=b
 | [],[],_=>rfl
 | [],_ :: _,h=>by cases h
 | _ :: _,[],h=>by cases h
 | x :: r,y :: t,h=>by
  simp only[List.map_cons,List.cons.injEq] at h
  rw[gy h.1,tZ h.2]
theorem ua {l:List ByteArray}(hv:∀x ∈ l,aF x=true):(aj l).size=0↔l = []:=by
 constructor
 ·intro h
  cases l with
  | nil=>rfl
  | cons x r=>
   have h1:=(eo (hv x (List.mem_cons_self ..))).1;have h2:(fO (aj (x :: r))).length=0:=by rw[cN];exact h
   rw[gZ,List.map_cons] at h2;cases r with
   | nil=>simp only[List.map_nil,iq,cN] at h2;omega
   | cons y t=>simp only[List.map_cons,iq,List.length_append,List.length_cons] at h2;omega
 ·intro h;subst h;rfl
theorem QJ {l:List ByteArray}(hl:l ≠ [])(hv:∀x ∈ l,aF x=true):(iu (aj l) ((aj l).size+1)).1=l:=by
 apply tZ;rw[JG,gZ];refine pM _ (by simpa using hl) (fun x hx=>?_);obtain⟨y,hy,rfl⟩:=List.mem_map.1 hx;exact vY (hv y hy)
theorem r8 {l:List ByteArray}(hv:∀x ∈ l,aF x=true):aG (aj l)=(l,decide (l.length<=5)):=by
 unfold aG;by_cases h:l = []
 ·subst h;rfl
 ·rw[ay (fun e=>h ((ua hv).1 e)),QJ h hv,aL hv]
theorem Cp {p:ByteArray}(h:(aG p).2=true):aj (aG p).1=p:=by
 unfold aG at h ⊢;split at h
 ·next h0=>
  rw[aL h0];apply gy
  have:(fO p).length=0:=by rw[cN];exact h0
  rw[List.eq_nil_of_length_eq_zero this];rfl
 ·next h0=>
  rw[ay h0];split at h
  ·next h1=>rw[aL h1];exact Mt p
  ·cases h
theorem dh {a b:List ByteArray}(ha:∀x ∈ a,aF x=true)(hb:∀x ∈ b,aF x=true)(h:aj a=aj b):a=b:=by
 have h1:=r8 ha;rw[h,r8 hb] at h1;exact (Prod.mk.inj h1).1.symm
theorem Et:∀(a b:List UInt8),cM (a++47 :: b)=cM a++cM b
 | [],b=>by simp[cM]
 | c :: r,b=>by
  have ih:=Et r b
  simp only[List.cons_append,cM]
  rw[ih]
  cases hs:cM r with
  | nil=>exact absurd hs (lW r)
  | cons y t=>split <;> simp
theorem uI:∀(a b:List (List UInt8)),a ≠ []->b ≠ []->iq (a++b)=iq a++47 :: iq b
 | [],b,h,_=>absurd rfl h
 | [x],b,_,hb=>by rw[List.singleton_append,oL x hb];rfl
 | x :: y :: r,b,_,hb=>by
  have ih:=uI (y :: r) b (by simp) hb
  rw[List.cons_append,oL x (by simp),ih,oL x (by simp)]
  simp
theorem JH {l:List ByteArray}(hl:l ≠ [])(hv:aI l):iq (l.map fO) ≠ []:=by
 intro e;rw[<-gZ] at e;have h1:(aj l).size=0:=by rw[<-cN,e];rfl
 exact hl ((ua hv).1 h1)
theorem JI (p t:ByteArray):cD p t=true ↔ ∃r,r ≠ []/\fO p=fO t++47 :: r:=by
 unfold cD;constructor
 ·intro h
  split at h
  ·next hl=>
   simp only[Bool.and_eq_true,decide_eq_true_eq] at h;obtain⟨h1,h2⟩:=h;have h3:fO (p.extract 0 t.size)=fO t:=by rw[<-gF,<-gF];exact eq_of_beq h1
   rw[nj,List.drop_zero] at h3;have hlt:t.size<(fO p).length:=by rw[cN];omega
   refine⟨(fO p).drop (t.size+1),?_,?_⟩
   ·intro e
    have:=congrArg List.length e
    rw[List.length_drop,cN,List.length_nil] at this;omega
   ·have e1:=List.take_append_drop t.size (fO p)
    rw[h3,List.drop_eq_getElem_cons hlt] at e1;have e2:(fO p)[t.size]=47:=h2;rw[e2] at e1;exact e1.symm
  ·cases h
 ·rintro ⟨r,hr,h⟩
  have hlen:p.size=t.size+1+r.length:=by
   have:=congrArg List.length h
   rw[cN,List.length_append,List.length_cons,cN] at this;omega
  have hr1:0<r.length:=List.length_pos_iff.2 hr;rw[dif_pos (by omega)];simp only[Bool.and_eq_true,decide_eq_true_eq];constructor
  ·have:fO (p.extract 0 t.size)=fO t:=by
    rw[nj,List.drop_zero,h,List.take_append_of_le_length (by rw[cN];exact bA _),<-cN,List.take_length]
   rw[gF,gF,this];exact beq_self_eq_true _
  ·have hg:(fO p)[t.size]'(by rw[cN];omega)=47:=by
    simp only[h];rw[List.getElem_append_right (by rw[cN];exact bA _)];simp[cN]
   exact hg
theorem kM {l m:List ByteArray}(hl:aI l)(hm:aI m)(hne:m ≠ []):cD (aj l) (aj m)=true ↔ ∃r,r ≠ []/\l=m++r:=by
 rw[JI,gZ,gZ];constructor
 ·rintro ⟨r,hr,h⟩
  have hle:l ≠ []:=by
   rintro rfl
   have:=congrArg List.length h
   simp[iq] at this
  have h1:=congrArg cM h;rw[Et,pM _ (by simpa using hle) (fun x hx=>by obtain⟨y,hy,rfl⟩:=List.mem_map.1 hx;exact vY (hl y hy)),pM _ (by simpa using hne) (fun x hx=>by obtain⟨y,hy,rfl⟩:=List.mem_map.1 hx;exact vY (hm y hy))] at h1;have h2:(l.take m.length).map fO=m.map fO:=by
   rw[List.map_take,h1,List.take_append_of_le_length (by simp)];exact List.take_of_length_le (by simp)
  refine⟨l.drop m.length,?_,?_⟩
  ·intro e
   have h3:=congrArg List.length h1;have h4:=congrArg List.length e;have h5:0<(cM r).length:=List.length_pos_iff.2 (lW r);rw[List.length_append,List.length_map,List.length_map] at h3;rw[List.length_drop,List.length_nil] at h4;omega
  ·rw[<-tZ h2,List.length_take]
   have h3:=congrArg List.length h1;rw[List.length_append,List.length_map,List.length_map] at h3;rw[show min m.length l.length=m.length by omega];exact (List.take_append_drop _ _).symm
 ·rintro ⟨r,hr,rfl⟩
  refine⟨iq (r.map fO),JH hr hl.right,?_⟩;rw[List.map_append,uI _ _ (by simpa using hne) (by simpa using hr)]
theorem ox {l:List ByteArray}(hl:aI l):(aG (aj l)).1=l:=by rw[r8 hl]
theorem gN {l d:List ByteArray}(hl:aI l)(hd:aI d):cO (aj l) (aj d)=true ↔ ∃x,l=d ++ [x]:=by
 unfold cO;rw[ox hl,Bool.and_eq_true,decide_eq_true_eq];constructor
 ·rintro ⟨h0,h1⟩
  have h2:aj (l.take (l.length-1))=aj d:=by
   apply gy;rw[<-gF,<-gF];exact eq_of_beq h1
  have h3:=dh (hl.take _) hd h2;refine⟨l[l.length-1],?_⟩;rw[<-h3]
  have:=qX (l:=l) (i:=l.length-1) (by omega)
  rw[show l.length-1+1=l.length by omega,List.take_length] at this;exact this
 ·rintro ⟨x,rfl⟩
  refine⟨by simp,?_⟩
  have:(d ++ [x]).take ((d ++ [x]).length-1)=d:=by simp
  rw[this];exact beq_self_eq_true _
theorem r9 {d:List ByteArray}{x:ByteArray}(h:aI (d ++ [x])):oW (aj (d ++ [x]))=x:=by
 unfold oW;rw[ox h];simp
def mq (nodes:List aK):Prop:=∀e ∈ nodes,∃l,l ≠ []/\aI l/\l.length<=5/\e.1=aj l
def mG (nodes:List aK):Prop:=(nodes.map (·.1)).Nodup
def cB (nodes:List aK)(l:List ByteArray):Option (Int×Int):=if l = [] then some (2,0) else (nodes.find? (fun e=>decide (e.1=aj l))).map (·.2)
theorem Eu (nodes:List aK)(p:ByteArray):(oV nodes p).bind (fun i=>(nodes[i]?).map (·.2))=(nodes.find? (fun e=>decide (e.1=p))).map (·.2):=by
 unfold oV;have e:(fun e:aK=>decide (e.1.toList=p.toList))=fun e=>decide (e.1=p):=by
  funext x
  by_cases h:x.1=p
  ·rw[h];simp
  ·rw[dY h,dY (fun e=>h (gy (by rw[<-gF,<-gF];exact e)))]
 rw[e]
 induction nodes with
 | nil=>rfl
 | cons x r ih=>
  rw[List.findIdx?_cons,List.find?_cons];cases hx:decide (x.1=p) with
  | true=>simp
  | false=>
   rw[<-ih];cases hr:r.findIdx? (fun e=>decide (e.1=p)) with
   | none=>simp
   | some i=>simp
theorem QK {nodes:List aK}{l:List ByteArray}(hl:aI l):bU nodes (aj l)=((cB nodes l).map (·.1)).getD 0:=by
 unfold bU cB;by_cases h:l = []
 ·subst h
  rw[aL (by rw[gF];rfl),aL rfl];rfl
 ·have h1:¬(aj l).toList = []:=by rw[gF,gZ];exact JH h hl
  rw[ay h1,ay h,<-Eu];cases oV nodes (aj l) with
  | none=>rfl
  | some i=>cases hx:nodes[i]? <;> simp[hx]
theorem lz {α:Type}(p q:α->Bool)(c:Bool):∀(xs:List α),(∀a ∈ xs,q a=true->p a=c)->(xs.filter p).find? q=if c=true then xs.find? q else none
 | [],_=>by cases c <;> rfl
 | x :: r,h=>by
  have ih:=lz p q c r (fun a ha=>h a (List.mem_cons_of_mem _ ha))
  cases hq:q x with
  | true=>
   have hp:=h x (List.mem_cons_self ..) hq
   cases c with
   | true=>rw[List.filter_cons_of_pos hp,List.find?_cons_of_pos hq];simp[List.find?_cons_of_pos hq]
   | false=>rw[List.filter_cons_of_neg (by rw[hp];decide),ih];rfl
  | false=>
   rw[List.find?_cons_of_neg (by rw[hq];decide)]
   cases hp:p x with
   | true=>rw[List.filter_cons_of_pos hp,List.find?_cons_of_neg (by rw[hq];decide),ih]
   | false=>rw[List.filter_cons_of_neg (by rw[hp];decide),ih]
theorem JJ {a b:List ByteArray}(ha:aI a)(hb:aI b):((aj a).toList == (aj b).toList)=decide (a=b):=by
 by_cases h:a=b
 ·subst h;simp
 ·rw[dY h]
  refine beq_eq_false_iff_ne.2 fun e=>h (dh ha hb (gy ?_));rw[<-gF,<-gF];exact e
theorem nV {l m:List ByteArray}:(m=l\/∃r,r ≠ []/\m=l++r)↔l <+: m:=by
 constructor
 ·rintro (rfl | ⟨r,_,rfl⟩)
  ·exact List.prefix_rfl
  ·exact List.prefix_append _ _
 ·rintro ⟨r,rfl⟩
  cases r with
  | nil=>exact .inl (by simp)
  | cons x t=>exact .inr ⟨x :: t,by simp,rfl⟩
theorem jH {a l:List ByteArray}(ha:aI a)(hl:aI l)(hne:l ≠ []):(((aj a).toList == (aj l).toList)=true\/cD (aj a) (aj l)=true)↔l <+: a:=by
 rw[JJ ha hl,decide_eq_true_eq,kM ha hl hne];exact nV
theorem lB {nodes:List aK}{m:List ByteArray}(h:m ≠ []):cB nodes m=(nodes.find? (fun e=>decide (e.1=aj m))).map (·.2):=by unfold cB;rw[ay h]
theorem qR {nodes:List aK}{l m:List ByteArray}(hl:aI l)(hne:l ≠ [])(hm:aI m):cB (cF nodes (aj l)) m=if l <+: m then none else cB nodes m:=by
 by_cases h0:m = []
 ·subst h0
  rw[ay (fun h=>hne (List.prefix_nil.1 h))];rfl
 ·rw[lB h0,lB h0]
  unfold cF;by_cases hp:l <+: m
  ·rw[lz _ _ false _ (fun a _ ha=>?_),aL hp];rfl
   rw[of_decide_eq_true ha];rcases (jH hm hl hne).2 hp with e | e
   ·rw[e];rfl
   ·rw[e];simp
  ·rw[lz _ _ true _ (fun a _ ha=>?_),ay hp];rfl
   rw[of_decide_eq_true ha];have h1:((aj m).toList == (aj l).toList)=false:=by
    cases e:((aj m).toList == (aj l).toList) with
    | true=>exact absurd ((jH hm hl hne).1 (.inl e)) hp
    | false=>rfl
   have h2:cD (aj m) (aj l)=false:=by
    cases e:cD (aj m) (aj l) with
    | true=>exact absurd ((jH hm hl hne).1 (.inr e)) hp
    | false=>rfl
   rw[h1,h2];rfl
theorem Ev {nodes:List aK}{l m:List ByteArray}{k f:Int}(hl:aI l)(hne:l ≠ [])(hm:aI m)(hn:cB nodes l=none):cB (nodes ++ [(aj l,k,f)]) m=if m=l then some (k,f) else cB nodes m:=by
 by_cases h0:m = []
 ·subst h0
  rw[ay (fun h=>hne h.symm)];rfl
 ·rw[lB h0,lB h0,List.find?_append]
  by_cases h:m=l
  ·subst h
   rw[lB h0] at hn;rw[aL rfl]
   have:nodes.find? (fun e=>decide (e.1=aj m))=none:=by simpa using hn
   rw[this];simp
  ·rw[ay h]
   have:decide (aj l=aj m)=false:=dY fun e=>h (dh hm hl e.symm)
   simp[this]
theorem Cq {f r:List ByteArray}(hf:aI (f++r))(hne:f ≠ [])(t:List ByteArray)(ht:t ≠ []):aj t++(aj (f++r)).extract (aj f).size (aj (f++r)).size=aj (t++r):=by
 apply gy;rw[oM,nj,gZ (t++r),gZ t];have hsz:(aj (f++r)).size=(fO (aj (f++r))).length:=(cN _).symm;rw[hsz,List.take_length,<-cN,gZ,gZ];by_cases hr:r = []
 ·subst hr;simp
 ·rw[List.map_append,List.map_append,uI _ _ (by simpa using hne) (by simpa using hr),uI _ _ (by simpa using ht) (by simpa using hr)]
  congr 1
  rw[List.drop_left]
theorem pX {f t a:List ByteArray}{k n:Int}(hf:aI f)(hfn:f ≠ [])(ht:t ≠ [])(ha:aI a):aD (aj f) (aj t) (aj a,k,n)=if f <+: a then (aj (t++a.drop f.length),k,n) else (aj a,k,n):=by
 unfold aD;by_cases h:f <+: a
 ·rw[aL h,aL ((jH ha hf hfn).2 h)]
  obtain⟨r,rfl⟩:=h;rw[Cq ha hfn t ht,List.drop_left]
 ·rw[ay h,ay (fun e=>h ((jH ha hf hfn).1 e))]
theorem pY {α:Type}(g:α->α)(q q':α->Bool):∀(xs:List α),(∀a ∈ xs,q (g a)=q' a)->(xs.map g).find? q=(xs.find? q').map g
 | [],_=>rfl
 | x :: r,h=>by
  have ih:=pY g q q' r (fun a ha=>h a (List.mem_cons_of_mem _ ha))
  have hx:=h x (List.mem_cons_self ..)
  rw[List.map_cons,List.find?_cons,List.find?_cons,hx,ih]
  cases q' x <;> rfl
theorem nk {nodes:List aK}{p:ByteArray}{e:aK}(h:e ∈ cF nodes p):e ∈ nodes:=(List.mem_filter.1 h).1
theorem mq.gone {nodes:List aK}(h:mq nodes)(p:ByteArray):mq (cF nodes p):=fun e he=>h e (nk he)
theorem zP {nodes:List aK}{f t m:List ByteArray}(hp:mq nodes)(hf:aI f)(hfn:f ≠ [])(ht:aI t)(Uq:t ≠ [])(hft:¬f <+: t)(htf:¬t <+: f)(hm:aI m):
  cB ((cF nodes (aj t)).map (aD (aj f) (aj t))) m=if t <+: m then cB nodes (f++m.drop t.length) else if f <+: m then none else cB nodes m:=by
 have comp:∀r,¬t <+: f++r:=fun r h=>by
  rcases List.prefix_or_prefix_of_prefix h (List.prefix_append f r) with e | e
  ·exact htf e
  ·exact hft e
 by_cases h0:m = []
 ·subst h0
  rw[ay (fun h=>Uq (List.prefix_nil.1 h)),ay (fun h=>hfn (List.prefix_nil.1 h))];rfl
 ·rw[lB h0]
  have key:∀e ∈ cF nodes (aj t),∃a,aI a/\e.1=aj a/\¬t <+: a:=fun e he=>by
   obtain⟨a,_,ha,_,nu⟩:=hp e (nk he);refine⟨a,ha,nu,fun h=>?_⟩
   have:=(List.mem_filter.1 he).2
   rw[nu] at this;rcases (jH ha ht Uq).2 h with e1 | e1
   ·rw[e1] at this;cases this
   ·rw[e1] at this;simp at this
  by_cases htm:t <+: m
  ·obtain⟨r,rfl⟩:=htm
   rw[aL (List.prefix_append _ _),List.drop_left];have hv:aI (f++r):=hf.append hm.right;have hne:f++r ≠ []:=by simp[hfn]
   rw[pY _ _ (fun e=>decide (e.1=aj (f++r))) _ (fun e he=>?_)]
   ·have h1:=qR (nodes:=nodes) ht Uq hv
    rw[ay (comp r),lB hne] at h1;rw[<-h1,Option.map_map]
    congr 1
    funext e
    show (aD (aj f) (aj t) e).2=e.2;unfold aD;split <;> rfl
   ·obtain⟨a,ha,nu,hta⟩:=key e he
    obtain⟨p,k,n⟩:=e;simp only at nu;subst nu;rw[pX hf hfn Uq ha];by_cases AD:f <+: a
    ·obtain⟨s,rfl⟩:=AD
     rw[aL (List.prefix_append _ _),List.drop_left];have hs:aI s:=ha.right;by_cases OG:s=r
     ·subst OG;simp
     ·rw[dY (fun e=>OG (List.append_cancel_left (dh (ht.append hs) hm e))),dY (fun e=>OG (List.append_cancel_left (dh ha hv e)))]
    ·rw[ay AD,dY (fun e=>hta (by rw[dh ha hm e];exact List.prefix_append _ _)),dY (fun e=>AD (by rw[dh ha hv e];exact List.prefix_append _ _))]
  ·rw[ay htm]
   by_cases hfm:f <+: m
   ·rw[aL hfm,pY _ _ (fun _=>false) _ (fun e he=>?_)]
    ·have:(cF nodes (aj t)).find? (fun _=>false)=none:=by simp
     rw[this];rfl
    ·obtain⟨a,ha,nu,hta⟩:=key e he
     obtain⟨p,k,n⟩:=e;simp only at nu;subst nu;rw[pX hf hfn Uq ha];by_cases AD:f <+: a
     ·obtain⟨s,rfl⟩:=AD
      rw[aL (List.prefix_append _ _),List.drop_left];exact dY (fun e=>htm (by rw[<-dh (ht.append ha.right) hm e];exact List.prefix_append _ _))
     ·rw[ay AD]
      exact dY (fun e=>AD (by rw[dh ha hm e];exact hfm))
   ·rw[ay hfm,pY _ _ (fun e=>decide (e.1=aj m)) _ (fun e he=>?_)]
    ·have h1:=qR (nodes:=nodes) ht Uq hm
     rw[ay htm,lB h0] at h1;rw[<-h1,Option.map_map]
     congr 1
     funext e
     show (aD (aj f) (aj t) e).2=e.2;unfold aD;split <;> rfl
    ·obtain⟨a,ha,nu,hta⟩:=key e he
     obtain⟨p,k,n⟩:=e;simp only at nu;subst nu;rw[pX hf hfn Uq ha];by_cases AD:f <+: a
     ·obtain⟨s,rfl⟩:=AD
      rw[aL (List.prefix_append _ _),List.drop_left,dY (fun e=>htm (by rw[<-dh (ht.append ha.right) hm e];exact List.prefix_append _ _)),dY (fun e=>hfm (by rw[<-dh ha hm e];exact List.prefix_append _ _))]
     ·rw[ay AD]
theorem gT {α:Type}[DecidableEq α]:∀{xs ys:List α},xs.Nodup->(∀x ∈ xs,x ∈ ys)->xs.length<=ys.length
 | [],_,_,_=>dG _
 | x :: r,ys,hn,hs=>by
  have hx:x ∈ ys:=hs x (List.mem_cons_self ..)
  have h1:∀z ∈ r,z ∈ ys.erase x:=fun z hz=>by
   have hne:z≠x:=fun e=>(List.nodup_cons.1 hn).1 (e ▸ hz)
   exact (List.mem_erase_of_ne hne).2 (hs z (List.mem_cons_of_mem _ hz))
  have h2:=gT (List.nodup_cons.1 hn).2 h1
  have h3:=List.length_erase_of_mem hx
  have h4:0<ys.length:=List.length_pos_of_mem hx
  simp only[List.length_cons]
  omega
theorem nX {α β:Type}(f:α->β){l:List α}(h:(l.map f).Nodup):l.Nodup:=(List.pairwise_map.1 h).imp (fun hab e=>hab (congrArg f e))
theorem xO {α β:Type}{f:α->β}{l:List α}(h:∀a ∈ l,∀b ∈ l,f a=f b->a=b)(hn:l.Nodup):(l.map f).Nodup:=List.pairwise_map.2 (List.Pairwise.imp_of_mem (fun {a b} ha hb hab e=>hab (h a ha b hb e)) hn)
theorem uJ {nodes:List aK}(hp:mq nodes){d:List ByteArray}(hd:aI d){e:aK}:e ∈ aT nodes (aj d) ↔ ∃x,aF x=true/\(∃n ∈ nodes,n.1=aj (d ++ [x]))/\e=(x,0,0):=by
 unfold aT;rw[List.mem_map];constructor
 ·rintro ⟨n,hn,rfl⟩
  obtain⟨Kb,hn2⟩:=List.mem_filter.1 hn;obtain⟨a,_,ha,_,nu⟩:=hp n Kb;rw[nu] at hn2;obtain⟨x,rfl⟩:=(gN ha hd).1 hn2;exact⟨x,ha x (by simp),⟨n,Kb,nu⟩,by rw[nu,r9 ha]⟩
 ·rintro ⟨x,hx,⟨n,hn,hne⟩,rfl⟩
  have hv:aI (d ++ [x]):=hd.append (fun y hy=>by rw[List.mem_singleton.1 hy];exact hx);exact⟨n,List.mem_filter.2 ⟨hn,by rw[hne];exact (gN hv hd).2 ⟨x,rfl⟩⟩,by rw[hne,r9 hv]⟩
theorem oy {nodes:List aK}{l:List ByteArray}(hne:l ≠ []):cB nodes l≠none ↔ ∃n ∈ nodes,n.1=aj l:=by
 rw[lB hne];constructor
 ·intro h
  cases hf:nodes.find? (fun e=>decide (e.1=aj l)) with
  | none=>rw[hf] at h;exact absurd rfl h
  | some n=>exact⟨n,List.mem_of_find?_eq_some hf,of_decide_eq_true (List.find?_some (p:=fun e:aK=>decide (e.1=aj l)) hf)⟩
 ·rintro ⟨n,hn,he⟩ h
  have:nodes.find? (fun e=>decide (e.1=aj l))=none:=by simpa using h
  have h2:=List.find?_eq_none.1 this n hn;simp[he] at h2
theorem uK {nodes:List aK}(hp:mq nodes){d:List ByteArray}(hd:aI d){x:ByteArray}:x ∈ eB nodes (aj d)↔aF x=true/\cB nodes (d ++ [x])≠none:=by
 unfold eB;rw[List.mem_map,oy (by simp)];constructor
 ·rintro ⟨e,he,rfl⟩
  obtain⟨y,hy,hn,rfl⟩:=(uJ hp hd).1 (rq he);exact⟨hy,hn⟩
 ·rintro ⟨hx,hn⟩
  exact⟨(x,0,0),(jt _).mem_iff.2 ((uJ hp hd).2 ⟨x,hx,hn,rfl⟩),rfl⟩
theorem ud {nodes:List aK}(hp:mq nodes)(ho:mG nodes){d:List ByteArray}(hd:aI d):((aT nodes (aj d)).map (·.1)).Nodup:=by
 unfold aT;rw[List.map_map];unfold mG at ho;have zW:nodes.Nodup:=nX _ ho;have nw:(nodes.filter (fun e=>cO e.1 (aj d))).Nodup:=zW.filter _;have Dj:∀a ∈ nodes,∀b ∈ nodes,a.1=b.1->a=b:=by
  intro a ha b hb e
  induction nodes with
  | nil=>cases ha
  | cons x r ih=>
   rw[List.map_cons,List.nodup_cons] at ho;rcases List.mem_cons.1 ha with rfl | ha' <;> rcases List.mem_cons.1 hb with rfl | hb'
   ·rfl
   ·exact absurd (List.mem_map.2 ⟨b,hb',e.symm⟩) ho.1
   ·exact absurd (List.mem_map.2 ⟨a,ha',e⟩) ho.1
   ·exact ih (fun z hz=>hp z (List.mem_cons_of_mem _ hz)) ho.2 (nX _ ho.2) ((nX _ ho.2).filter _) ha' hb'
 have key:∀a ∈ nodes.filter (fun e=>cO e.1 (aj d)),∀b ∈ nodes.filter (fun e=>cO e.1 (aj d)),oW a.1=oW b.1->a=b:=by
  intro a ha b hb e;obtain⟨ha1,ha2⟩:=List.mem_filter.1 ha;obtain⟨hb1,hb2⟩:=List.mem_filter.1 hb;obtain⟨la,_,pQ,_,nu⟩:=hp a ha1;obtain⟨lb,_,Ky,_,heb⟩:=hp b hb1;rw[nu] at ha2;rw[heb] at hb2;obtain⟨x,rfl⟩:=(gN pQ hd).1 ha2;obtain⟨y,rfl⟩:=(gN Ky hd).1 hb2;rw[nu,heb,r9 pQ,r9 Ky] at e;subst e;exact Dj a ha1 b hb1 (by rw[nu,heb])
 exact xO (f:=fun e:aK=>oW e.1) (fun a ha b hb e=>key a ha b hb e) nw
theorem Ge {nodes:List aK}(hp:mq nodes)(ho:mG nodes){d:List ByteArray}(hd:aI d):gC (fF (aT nodes (aj d))):=uW (ud hp ho hd)
theorem JK {nodes:List aK}(hp:mq nodes)(ho:mG nodes){d:List ByteArray}(hd:aI d):(eB nodes (aj d)).Nodup:=by
 unfold eB;exact ((jt _).map _).nodup_iff.2 (ud hp ho hd)
structure bG (nodes:List aK)(data:List ByteArray):Prop where
 jg:mq nodes
 one:mG nodes
 few:∀d,aI d->(aT nodes (aj d)).length<=16
 kinds:∀e ∈ nodes,e.2.1=1\/e.2.1=2
 files:∀e ∈ nodes,e.2.1=1->0<=e.2.2/\e.2.2<(data.length:Int)
 up:∀l x,aI (l ++ [x])->cB nodes (l ++ [x])≠none->∃f,cB nodes l=some (2,f)
theorem Mu {l:List ByteArray}(hv:aI l)(h5:l.length<=5):(aj l).size<=65:=by
 have:=tu l (fun x hx=>(eo (hv x hx)).2) l.length
 unfold aj;omega
theorem bG.small {nodes:List aK}{data:List ByteArray}(h:bG nodes data):∀e ∈ nodes,e.1.size<=65:=fun e he=>by
 obtain⟨l,_,hv,h5,nu⟩:=h.jg e he
 rw[nu];exact Mu hv h5
theorem Mv {nodes:List aK}{d:ByteArray}(h:∀e ∈ nodes,cO e.1 d=false):aT nodes d = []:=by
 unfold aT;rw[List.filter_eq_nil_iff.2 (fun e he=>by rw[h e he];decide)];rfl
theorem bG.fine {nodes:List aK}{data:List ByteArray}(h:bG nodes data)(hb:nodes.length<=1000000000):nJ nodes data:=by
 refine⟨hb,fun e he=>eU (h.small e he) (by decide),fun d=>?_,h.files⟩;by_cases hx:∃e ∈ nodes,cO e.1 d=true
 ·obtain⟨e,he,hi⟩:=hx
  obtain⟨l,hl0,hv,_,nu⟩:=h.jg e he;unfold cO at hi;rw[nu,ox hv,Bool.and_eq_true] at hi;have hd:d=aj (l.take (l.length-1)):=by
   apply gy;rw[<-gF,<-gF];exact (eq_of_beq hi.2).symm
  rw[hd];exact h.few _ (hv.take _)
 ·rw[Mv (fun e he=>by cases hc:cO e.1 d with | true=>exact absurd ⟨e,he,hc⟩ hx | false=>rfl)]
  exact dG _
theorem kN {nodes:List aK}{data:List ByteArray}(h:bG nodes data){l:List ByteArray}(hl:aI l):(bU nodes (aj l)=0↔cB nodes l=none)/\(bU nodes (aj l)=2 ↔ ∃f,cB nodes l=some (2,f))/\(bU nodes (aj l)=1 ↔ ∃f,cB nodes l=some (1,f)):=by
 rw[QK hl];cases hk:cB nodes l with
 | none=>simp
 | some v=>
  obtain⟨k,f⟩:=v;have qs:k=1\/k=2:=by
   by_cases h0:l = []
   ·subst h0
    have:cB nodes []=some (2,0):=rfl
    rw[this] at hk;cases hk;exact .inr rfl
   ·rw[lB h0] at hk
    cases hf:nodes.find? (fun e=>decide (e.1=aj l)) with
    | none=>rw[hf] at hk;cases hk
    | some e=>
     rw[hf] at hk
     have:=h.kinds e (List.mem_of_find?_eq_some hf)
     have h2:e.2=(k,f):=Option.some.inj hk;rw[h2] at this;exact this
  rcases qs with rfl | rfl <;> simp
theorem Mw {nodes:List aK}{e:aK}{d:ByteArray}:(aT (nodes ++ [e]) d).length=(aT nodes d).length+if cO e.1 d=true then 1 else 0:=by
 unfold aT;rw[List.filter_append,List.map_append,List.length_append];cases h:cO e.1 d <;> simp[h]
theorem bG.aer {nodes:List aK}{data:List ByteArray}(h:bG nodes data){l:List ByteArray}{x:ByteArray}(hv:aI (l ++ [x]))(h5:(l ++ [x]).length<=5)(gq:∃f,cB nodes l=some (2,f))(hn:cB nodes (l ++ [x])=none)(jS:(aT nodes (aj l)).length<16):bG (nodes ++ [(aj (l ++ [x]),2,0)]) data:=by
 have hne:l ++ [x] ≠ []:=by simp
 have look:=fun {m:List ByteArray} (hm:aI m)=>Ev (k:=2) (f:=0) hv hne hm hn;refine⟨fun e he=>?_,?_,fun d hd=>?_,fun e he=>?_,fun e he hk=>?_,fun m y hm hs=>?_⟩
 ·rcases List.mem_append.1 he with he | he
  ·exact h.jg e he
  ·rw[List.mem_singleton.1 he];exact⟨l ++ [x],hne,hv,h5,rfl⟩
 ·unfold mG
  rw[List.map_append,List.nodup_append];refine⟨h.one,by simp,fun a ha b hb e=>?_⟩;simp only[List.map_cons,List.map_nil,List.mem_singleton] at hb;obtain⟨n,Kb,hn2⟩:=List.mem_map.1 ha;exact (oy hne).2 ⟨n,Kb,by rw[hn2,e,hb]⟩ hn
 ·rw[Mw]
  split
  ·next hi=>
   obtain⟨y,hy⟩:=(gN hv hd).1 hi
   have:l=d:=(List.append_inj' hy rfl).1
   subst this;omega
  ·have:=h.few d hd;omega
 ·rcases List.mem_append.1 he with he | he
  ·exact h.kinds e he
  ·rw[List.mem_singleton.1 he];exact .inr rfl
 ·rcases List.mem_append.1 he with he | he
  ·exact h.files e he hk
  ·rw[List.mem_singleton.1 he] at hk;cases hk
 ·rw[look hm] at hs
  have hml:aI m:=hm.left;rw[look hml];by_cases e:m ++ [y]=l ++ [x]
  ·have:m=l:=(List.append_inj' e rfl).1
   subst this;rw[ay (fun e2=>by have:=congrArg List.length e2;simp at this)];exact gq
  ·rw[ay e] at hs
   obtain⟨f,hf⟩:=h.up m y hm hs;split
   ·exact⟨0,rfl⟩
   ·exact⟨f,hf⟩
theorem Dn (nodes:List aK)(p d:ByteArray):(aT (cF nodes p) d).length<=(aT nodes d).length:=by
 unfold aT cF;rw[List.length_map,List.length_map,List.filter_filter]
 have:(nodes.filter (fun a=>cO a.1 d && (!(a.1.toList == p.toList) && !(cD a.1 p)))).length<=(nodes.filter (fun e=>cO e.1 d)).length:=by
  rw[<-List.filter_filter];have h:=List.Sublist.filter (fun e:aK=>cO e.1 d) (List.filter_sublist (p:=fun a:aK=>!(a.1.toList == p.toList) && !(cD a.1 p)) (l:=nodes));exact h.length_le
 exact this
theorem bG.gone {nodes:List aK}{data:List ByteArray}(h:bG nodes data){l:List ByteArray}(hl:aI l)(hne:l ≠ []):bG (cF nodes (aj l)) data:=by
 refine⟨h.jg.gone _,?_,fun d hd=>eU (Dn _ _ _) (h.few d hd),fun e he=>h.kinds e (nk he),fun e he hk=>h.files e (nk he) hk,fun m y hm hs=>?_⟩
 ·exact h.one.sublist ((List.filter_sublist (l:=nodes)).map _)
 ·rw[qR hl hne hm] at hs
  have hp:¬l <+: m ++ [y]:=fun hp=>by rw[aL hp] at hs;exact hs rfl
  rw[ay hp] at hs;obtain⟨f,hf⟩:=h.up m y hm hs;rw[qR hl hne hm.left,ay (fun CK=>hp (CK.trans (List.prefix_append _ _)))];exact⟨f,hf⟩
theorem Ew (f t:ByteArray)(e:aK):(aD f t e).2=e.2:=by unfold aD;split <;> rfl
theorem UH {nodes:List aK}{t:List ByteArray}(hp:mq nodes)(ht:aI t)(Uq:t ≠ []):∀e ∈ cF nodes (aj t),∃a,a ≠ []/\aI a/\a.length<=5/\e.1=aj a/\¬t <+: a:=fun e he=>by
 obtain⟨a,ha0,ha,h5,nu⟩:=hp e (nk he)
 refine⟨a,ha0,ha,h5,nu,fun h=>?_⟩
 have:=(List.mem_filter.1 he).2
 rw[nu] at this
 rcases (jH ha ht Uq).2 h with e1 | e1
 ·rw[e1] at this;cases this
 ·rw[e1] at this;simp at this
theorem yU {f t a:List ByteArray}{e:aK}(hf:aI f)(hfn:f ≠ [])(ht:t ≠ [])(ha:aI a)(he:e.1=aj a):(aD (aj f) (aj t) e).1=aj (if f <+: a then t++a.drop f.length else a):=by
 obtain⟨p,k,n⟩:=e;simp only at he;subst he;rw[pX hf hfn ht ha];split <;> rfl
theorem Cr {a:List ByteArray}(h:aI a)(k:Nat):aI (a.drop k):=fun x hx=>h x (List.mem_of_mem_drop hx)
theorem bG.rename {nodes:List aK}{data:List ByteArray}(h:bG nodes data){F P:List ByteArray}{y:ByteArray}(hF:aI F)(Gf:F ≠ [])(hT:aI (P ++ [y]))(Cs:∀e ∈ nodes,∀a,aI a->e.1=aj a->F <+: a->(P ++ [y]).length+(a.length-F.length)<=5)(hFT:¬F <+: P ++ [y])(hTF:¬P ++ [y] <+: F)
  (gq:∃g,cB nodes P=some (2,g))(JA:cB nodes (P ++ [y])≠none\/(aT nodes (aj P)).length<16\/∃z,F=P ++ [z]/\cB nodes F≠none):
  bG ((cF nodes (aj (P ++ [y]))).map (aD (aj F) (aj (P ++ [y])))) data:=by
 have hTn:P ++ [y] ≠ []:=by simp
 have key:=UH h.jg hT hTn;have look:=fun {m:List ByteArray} (hm:aI m)=>zP h.jg hF Gf hT hTn hFT hTF hm;have jg:mq ((cF nodes (aj (P ++ [y]))).map (aD (aj F) (aj (P ++ [y])))):=by
  intro e' CS;obtain⟨e,he,rfl⟩:=List.mem_map.1 CS;obtain⟨a,ha0,ha,h5,nu,hta⟩:=key e he;rw[yU hF Gf hTn ha nu];by_cases AD:F <+: a
  ·rw[aL AD]
   refine⟨_,by simp,hT.append (Cr ha _),?_,rfl⟩
   have:=Cs e (nk he) a ha nu AD
   rw[List.length_append,List.length_drop];exact this
  ·rw[ay AD]
   exact⟨a,ha0,ha,h5,rfl⟩
 have one:mG ((cF nodes (aj (P ++ [y]))).map (aD (aj F) (aj (P ++ [y])))):=by
  unfold mG;rw[List.map_map];have hg:((cF nodes (aj (P ++ [y]))).map (·.1)).Nodup:=(h.gone hT hTn).one;refine xO (fun e1 h1 e2 h2 he=>?_) (nX _ hg);obtain⟨a1,_,v1,_,p1,t1⟩:=key e1 h1;obtain⟨a2,_,v2,_,p2,t2⟩:=key e2 h2;simp only[Function.comp] at he;rw[yU hF Gf hTn v1 p1,yU hF Gf hTn v2 p2] at he;have hvv:∀{a:List ByteArray},aI a->aI (if F <+: a then (P ++ [y])++a.drop F.length else a):=fun {a} ha=>by
   split
   ·exact hT.append (Cr ha _)
   ·exact ha
  have hq:=dh (hvv v1) (hvv v2) he;have hpe:a1=a2:=by
   by_cases f1:F <+: a1 <;> by_cases f2:F <+: a2
   ·rw[aL f1,aL f2] at hq
    obtain⟨r1,rfl⟩:=f1;obtain⟨r2,rfl⟩:=f2;rw[List.drop_left,List.drop_left] at hq;rw[List.append_cancel_left hq]
   ·rw[aL f1,ay f2] at hq
    exact absurd ⟨_,hq⟩ t2
   ·rw[ay f1,aL f2] at hq
    exact absurd ⟨_,hq.symm⟩ t1
   ·rw[ay f1,ay f2] at hq
    exact hq
  have aiX:e1.1=e2.1:=by rw[p1,p2,hpe]
  have:∀{l:List aK},(l.map (·.1)).Nodup->∀{a b:aK},a ∈ l->b ∈ l->a.1=b.1->a=b:=by
   intro l hl a b ha hb e
   induction l with
   | nil=>cases ha
   | cons x r ih=>
    rw[List.map_cons,List.nodup_cons] at hl;rcases List.mem_cons.1 ha with rfl | ha' <;> rcases List.mem_cons.1 hb with rfl | hb'
    ·rfl
    ·exact absurd (List.mem_map.2 ⟨b,hb',e.symm⟩) hl.1
    ·exact absurd (List.mem_map.2 ⟨a,ha',e⟩) hl.1
    ·exact ih hl.2 ha' hb'
  exact this hg h1 h2 aiX
 have Ct:∀{d:List ByteArray} {x:ByteArray},aI d->aF x=true->cB nodes (d ++ [x])≠none->x ∈ eB nodes (aj d):=fun hd hx hl=>(uK h.jg hd).2 ⟨hx,hl⟩;refine⟨jg,one,fun d hd=>?_,fun e he=>?_,fun e he hk=>?_,fun m x hm hs=>?_⟩
 ·rw[<-ot]
  have zW:=JK jg one hd;have mS:∀x ∈ eB ((cF nodes (aj (P ++ [y]))).map (aD (aj F) (aj (P ++ [y])))) (aj d),aF x=true/\aI (d ++ [x])/\(if P ++ [y] <+: d ++ [x] then cB nodes (F++(d ++ [x]).drop (P ++ [y]).length) else if F <+: d ++ [x] then none else cB nodes (d ++ [x]))≠none:=fun x hx=>by
   obtain⟨h1,h2⟩:=(uK jg hd).1 hx;have hv:aI (d ++ [x]):=hd.append (fun z hz=>by rw[List.mem_singleton.1 hz];exact h1);rw[look hv] at h2;exact⟨h1,hv,h2⟩
  have l16:∀{d},aI d->(eB nodes (aj d)).length<=16:=fun hd=>by rw[ot];exact h.few _ hd
  by_cases hTd:P ++ [y] <+: d
  ·obtain⟨r,rfl⟩:=hTd
   refine eU (gT zW (fun x hx=>?_)) (l16 (hF.append hd.right));obtain⟨h1,hv,h2⟩:=mS x hx;rw[aL ((List.prefix_append _ r).trans (List.prefix_append _ _)),List.append_assoc,List.drop_left,<-List.append_assoc] at h2;exact Ct (hF.append hd.right) h1 h2
  ·by_cases hPd:d=P
   ·subst hPd
    have sub:∀x ∈ eB ((cF nodes (aj (d ++ [y]))).map (aD (aj F) (aj (d ++ [y])))) (aj d),x=y\/(x ∈ eB nodes (aj d)/\¬F <+: d ++ [x]):=fun x hx=>by
     obtain⟨h1,hv,h2⟩:=mS x hx;by_cases e:d ++ [y] <+: d ++ [x]
     ·obtain⟨r,hr⟩:=e
      have:r = []:=by
       have:=congrArg List.length hr
       simp at this;exact this
      subst this;rw[List.append_nil] at hr
      have:=List.append_cancel_left hr
      exact .inl (List.cons.inj this).1.symm
     ·rw[ay e] at h2
      by_cases e2:F <+: d ++ [x]
      ·rw[aL e2] at h2;exact absurd rfl h2
      ·rw[ay e2] at h2
       exact .inr ⟨Ct hd h1 h2,e2⟩
    have hyv:aF y=true:=hT y (by simp);rcases JA with hc | hc | ⟨z,hz,hzl⟩
    ·exact eU (gT zW (fun x hx=>(sub x hx).elim (fun e=>by rw[e];exact Ct hd hyv hc) (·.1))) (l16 hd)
    ·have hle:=gT zW (ys:=y :: eB nodes (aj d)) (fun x hx=>(sub x hx).elim (fun e=>by rw[e];exact List.mem_cons_self ..) (fun e=>List.mem_cons_of_mem _ e.1))
     rw[List.length_cons,ot nodes] at hle;omega
    ·have hzv:aF z=true:=hF z (by rw[hz];simp)
     have hzm:z ∈ eB nodes (aj d):=Ct hd hzv (by rw[<-hz];exact hzl);have hle:=gT zW (ys:=y :: (eB nodes (aj d)).filter (fun u=>decide (u≠z))) (fun x hx=>(sub x hx).elim (fun e=>by rw[e];exact List.mem_cons_self ..) (fun e=>List.mem_cons_of_mem _ (List.mem_filter.2 ⟨e.1,decide_eq_true (fun exz=>e.2 (by rw[exz,hz];exact List.prefix_rfl))⟩)));have hlt:((eB nodes (aj d)).filter (fun u=>decide (u≠z))).length<(eB nodes (aj d)).length:=List.length_filter_lt_length_iff_exists.2 ⟨z,hzm,by simp⟩;rw[List.length_cons] at hle
     have:=l16 hd
     omega
   ·refine eU (gT zW (fun x hx=>?_)) (l16 hd)
    obtain⟨h1,hv,h2⟩:=mS x hx;have KL:¬P ++ [y] <+: d ++ [x]:=fun e=>by
     rcases List.prefix_concat_iff.1 (by simpa using e) with e | e
     ·exact hPd (List.append_inj' e rfl).1.symm
     ·exact hTd e
    rw[ay KL] at h2;by_cases e2:F <+: d ++ [x]
    ·rw[aL e2] at h2;exact absurd rfl h2
    ·rw[ay e2] at h2
     exact Ct hd h1 h2
 ·obtain⟨e0,he0,rfl⟩:=List.mem_map.1 he
  rw[Ew];exact h.kinds e0 (nk he0)
 ·obtain⟨e0,he0,rfl⟩:=List.mem_map.1 he
  rw[Ew] at hk ⊢;exact h.files e0 (nk he0) hk
 ·rw[look hm] at hs
  rw[look hm.left];by_cases hTm:P ++ [y] <+: m
  ·obtain⟨r,rfl⟩:=hTm
   rw[aL ((List.prefix_append _ r).trans (List.prefix_append _ _)),List.append_assoc,List.drop_left,<-List.append_assoc] at hs;rw[aL (List.prefix_append _ _),List.drop_left];have hv:aI (F++r ++ [x]):=(hF.append hm.left.right).append hm.right;exact h.up (F++r) x hv hs
  ·rw[ay hTm]
   by_cases hTx:P ++ [y] <+: m ++ [x]
   ·rcases List.prefix_concat_iff.1 (by simpa using hTx) with e | e
    ·have:P=m:=(List.append_inj' e rfl).1
     subst this;rw[ay (fun e=>hFT (e.trans (List.prefix_append _ _)))];exact gq
    ·exact absurd e hTm
   ·rw[ay hTx] at hs
    by_cases e2:F <+: m ++ [x]
    ·rw[aL e2] at hs;exact absurd rfl hs
    ·rw[ay e2] at hs
     rw[ay (fun e=>e2 (e.trans (List.prefix_append _ _)))];exact h.up m x hm hs
theorem UI {nodes:List aK}{l:List ByteArray}(h:eT nodes l=0):∀k,k<l.length->bU nodes (aj (l.take k))=2/\bU nodes (aj (l.take (k+1)))≠0:=by
 intro k hk;have hall:∀j,j<l.length->iw nodes l j=none:=by
  intro j hj;cases hw:(List.range l.length).findSome? (iw nodes l) with
  | none=>exact List.findSome?_eq_none_iff.1 hw j (List.mem_range.2 hj)
  | some e=>
   exfalso;unfold eT at h;rw[hw] at h;obtain⟨i,_,hi⟩:=List.exists_of_findSome?_eq_some hw;unfold iw at hi;split at hi
   ·cases hi;cases h
   ·split at hi
    ·cases hi;cases h
    ·cases hi
 have:=hall k hk
 unfold iw at this;split at this
 ·cases this
 ·next h1=>
  split at this
  ·cases this
  ·next h2=>exact⟨by simpa using h1,h2⟩
theorem JL {nodes:List aK}{data:List ByteArray}(hs:bG nodes data){l:List ByteArray}(hl:aI l)(hne:l ≠ [])(h:eT nodes l=0):cB nodes l≠none:=by
 have hp:0<l.length:=List.length_pos_iff.2 hne
 have:=(UI h (l.length-1) (by omega)).2
 rw[show l.length-1+1=l.length by omega,List.take_length] at this;exact fun e=>this ((kN hs hl).1.2 e)
theorem N6 {nodes:List aK}{data:List ByteArray}(hs:bG nodes data){l:List ByteArray}{x:ByteArray}(hl:aI (l ++ [x]))(h:xU nodes (l ++ [x])=0):∃f,cB nodes l=some (2,f):=by
 unfold xU at h;have e:(l ++ [x]).take ((l ++ [x]).length-1)=l:=by simp
 rw[e] at h;split at h
 ·next h1=>exact absurd h h1
 ·split at h
  ·cases h
  ·next h2=>exact (kN hs hl.left).2.1.1 (by simpa using h2)
theorem uL {p:ByteArray}(cz:(aG p).2=true)(h0:(aG p).1.length≠0):∃l x,(aG p).1=l ++ [x]/\p=aj (l ++ [x])/\aI (l ++ [x])/\(l ++ [x]).length<=5:=by
 have hv:aI (aG p).1:=zn p;have h5:=iR cz;have hj:=Cp cz;obtain⟨l,x,e⟩:∃l x,(aG p).1=l ++ [x]:=by
  have hne:(aG p).1 ≠ []:=fun e=>h0 (by rw[e];rfl);exact⟨(aG p).1.dropLast,(aG p).1.getLast hne,(List.dropLast_concat_getLast hne).symm⟩
 rw[e] at hv h5 hj;exact⟨l,x,e,hj.symm,hv,h5⟩
theorem JM {nodes:List aK}{data:List ByteArray}(hs:bG nodes data)(p:ByteArray):
  ((dw nodes p).2≠0/\(dw nodes p).1=nodes)\/((dw nodes p).2=0/\∃l x,p=aj (l ++ [x])/\aI (l ++ [x])/\(l ++ [x]).length<=5/\cB nodes (l ++ [x])=none/\bG (dw nodes p).1 data/\∀m,aI m->cB (dw nodes p).1 m=if m=l ++ [x] then some (2,0) else cB nodes m):=by
 unfold dw;split
 ·exact .inl ⟨by simp,rfl⟩
 ·next h1=>
  have cz:(aG p).2=true:=by simpa using h1
  split
  ·exact .inl ⟨by simp,rfl⟩
  ·next h2=>
   obtain⟨l,x,e,hp,hv,h5⟩:=uL cz h2;have et:(l ++ [x]).take ((l ++ [x]).length-1)=l:=by simp
   rw[e,et];split
   ·next h3=>exact .inl ⟨h3,rfl⟩
   ·next h3=>
    split
    ·exact .inl ⟨by simp,rfl⟩
    ·next h4=>
     split
     ·exact .inl ⟨by simp,rfl⟩
     ·next h5'=>
      have Vt:=N6 hs hv (by simpa using h3);have hn:cB nodes (l ++ [x])=none:=(kN hs hv).1.1 (by rw[<-hp];simpa using h4);rw[hp];refine .inr ⟨rfl,l,x,rfl,hv,h5,hn,hs.aer hv h5 Vt hn (by omega),fun m hm=>Ev hv (by simp) hm hn⟩
theorem Gg {nodes:List aK}{data:List ByteArray}(hs:bG nodes data)(p:ByteArray):
  ((cH nodes p).2≠0/\(cH nodes p).1=nodes)\/((cH nodes p).2=0/\∃l x,p=aj (l ++ [x])/\aI (l ++ [x])/\(l ++ [x]).length<=5/\cB nodes (l ++ [x])≠none/\aT nodes p = []/\bG (cH nodes p).1 data/\∀m,aI m->cB (cH nodes p).1 m=if l ++ [x] <+: m then none else cB nodes m):=by
 unfold cH;split
 ·exact .inl ⟨by simp,rfl⟩
 ·next h1=>
  have cz:(aG p).2=true:=by simpa using h1
  split
  ·exact .inl ⟨by simp,rfl⟩
  ·next h2=>
   obtain⟨l,x,e,hp,hv,h5⟩:=uL cz h2;rw[e];split
   ·next h3=>exact .inl ⟨h3,rfl⟩
   ·next h3=>
    split
    ·exact .inl ⟨by simp,rfl⟩
    ·next h4=>
     have hl:=JL hs hv (by simp) (by simpa using h3);refine .inr ⟨rfl,l,x,hp,hv,h5,hl,List.eq_nil_of_length_eq_zero (by omega),?_,fun m hm=>?_⟩
     ·rw[hp];exact hs.gone hv (by simp)
     ·rw[hp];exact qR hv (by simp) hm
theorem zQ {nodes:List aK}{data:List ByteArray}(hs:bG nodes data){T:List ByteArray}:∀(r:List ByteArray),r ≠ []->aI (T++r)->cB nodes (T++r)≠none->(∃f,cB nodes T=some (2,f))/\aT nodes (aj T) ≠ []
 | [],h,_,_=>absurd rfl h
 | [x],_,hv,hl=>by
  refine⟨hs.up T x hv hl,fun e=>?_⟩
  have hm:=(uK hs.jg hv.left).2 ⟨hv x (by simp),hl⟩
  unfold eB at hm
  rw[e] at hm
  cases hm
 | x :: y :: r,_,hv,hl=>by
  have h1:∃f,cB nodes (T++(x :: y :: r).dropLast)=some (2,f):=by
   have e:T++x :: y :: r=(T++(x :: y :: r).dropLast) ++ [(x :: y :: r).getLast (by simp)]:=by rw[List.append_assoc,List.dropLast_concat_getLast]
   rw[e] at hv hl;exact hs.up _ _ hv hl
  have hv2:aI (T++(x :: y :: r).dropLast):=fun z hz=>hv z (by
   rcases List.mem_append.1 hz with h | h
   ·exact List.mem_append_left _ h
   ·exact List.mem_append_right _ ((List.dropLast_prefix _).subset h))
  obtain⟨f,hf⟩:=h1;exact zQ hs ((x :: y :: r).dropLast) (by simp) hv2 (by rw[hf];simp)
 termination_by r=>r.length
 decreasing_by simp
theorem Xy {nodes:List aK}{f:List ByteArray}{n m:Nat}(hf:aI f)(hfn:f ≠ [])(hn:n=f.length)(h:nodes.any (bQ (aj f) n m)=false):∀e ∈ nodes,∀a,aI a->e.1=aj a->f <+: a->a≠f->m+(a.length-f.length)<=5:=by
 intro e he a ha nu AD hne;have h1:=List.any_eq_false.1 h e he;have hu:cD e.1 (aj f)=true:=by
  rw[nu];rcases nV.2 AD with e1 | e1
  ·exact absurd e1 hne
  ·exact (kM ha hf hfn).2 e1
 unfold bQ at h1;rw[hu,nu,ox ha] at h1;simp only[Bool.true_and,decide_eq_true_eq] at h1;have hle:f.length<=a.length:=AD.length_le;omega
theorem Gh {nodes:List aK}{data:List ByteArray}(hs:bG nodes data)(f t:ByteArray):
  ((cU nodes f t).1=nodes/\((cU nodes f t).2≠0\/f=t))\/((cU nodes f t).2=0/\∃F P y,f=aj F/\t=aj (P ++ [y])/\F ≠ []/\aI F/\F.length<=5/\aI (P ++ [y])/\(P ++ [y]).length<=5/\cB nodes F≠none/\¬F <+: P ++ [y]/\¬P ++ [y] <+: F/\bG (cU nodes f t).1 data/\
   ∀m,aI m->cB (cU nodes f t).1 m=if P ++ [y] <+: m then cB nodes (F++m.drop (P ++ [y]).length) else if F <+: m then none else cB nodes m):=by
 obtain⟨R,hR⟩:∃R,R=cU nodes f t:=⟨_,rfl⟩;rw[<-hR];unfold cU at hR;by_cases h1:(aG f).2=false\/(aG t).2=false
 ·rw[aL h1] at hR
  rw[hR];exact .inl ⟨rfl,.inl (by simp)⟩
 rw[ay h1] at hR;have ok1:(aG f).2=true:=by cases h:(aG f).2 with | true=>rfl | false=>exact absurd (.inl h) h1
 have ok2:(aG t).2=true:=by cases h:(aG t).2 with | true=>rfl | false=>exact absurd (.inr h) h1
 by_cases h2:(aG f).1.length=0\/(aG t).1.length=0
 ·rw[aL h2] at hR
  rw[hR];exact .inl ⟨rfl,.inl (by simp)⟩
 rw[ay h2] at hR;obtain⟨l,x,e1,Am,xQ,h51⟩:=uL ok1 (fun e=>h2 (.inl e));obtain⟨P,y,e2,CK,hv2,h52⟩:=uL ok2 (fun e=>h2 (.inr e));have et:(P ++ [y]).take ((P ++ [y]).length-1)=P:=by simp
 rw[e1,e2,et] at hR;obtain⟨F,hF⟩:∃F,F=l ++ [x]:=⟨_,rfl⟩;rw[<-hF] at Am xQ h51 hR;have Gf:F ≠ []:=by rw[hF];simp
 by_cases h3:eT nodes F≠0
 ·rw[aL h3] at hR
  rw[hR];exact .inl ⟨rfl,.inl h3⟩
 rw[ay h3] at hR;have hlF:=JL hs xQ Gf (by simpa using h3);by_cases h4:cD t f=true
 ·rw[aL h4] at hR
  rw[hR];exact .inl ⟨rfl,.inl (by simp)⟩
 rw[ay h4] at hR;by_cases h5:xU nodes (P ++ [y])≠0
 ·rw[aL h5] at hR
  rw[hR];exact .inl ⟨rfl,.inl h5⟩
 rw[ay h5] at hR;have gq:=N6 hs hv2 (by simpa using h5);by_cases h6:(f.toList == t.toList)=true
 ·rw[aL h6] at hR
  rw[hR];refine .inl ⟨rfl,.inr (gy ?_)⟩;rw[<-gF,<-gF];exact eq_of_beq h6
 rw[ay h6] at hR;have hne:F≠P ++ [y]:=fun e=>h6 (by rw[Am,CK,e];exact beq_self_eq_true _)
 have hFT:¬F <+: P ++ [y]:=fun hp=>by
  rcases nV.2 hp with e | e
  ·exact hne e.symm
  ·exact h4 (by rw[Am,CK];exact (kM hv2 xQ Gf).2 e)
 by_cases h7:bU nodes t=2/\bU nodes f=1
 ·rw[aL h7] at hR
  rw[hR];exact .inl ⟨rfl,.inl (by simp)⟩
 rw[ay h7] at hR;by_cases h8:bU nodes t=1/\bU nodes f=2
 ·rw[aL h8] at hR
  rw[hR];exact .inl ⟨rfl,.inl (by simp)⟩
 rw[ay h8] at hR;by_cases h9:bU nodes t=2/\0<(aT nodes t).length
 ·rw[aL h9] at hR
  rw[hR];exact .inl ⟨rfl,.inl (by simp)⟩
 rw[ay h9] at hR;by_cases h10:bU nodes t=0/\16<=(aT nodes (aj P)).length/\cO f (aj P)=false
 ·rw[aL h10] at hR
  rw[hR];exact .inl ⟨rfl,.inl (by simp)⟩
 rw[ay h10] at hR;by_cases h11:(nodes.any (bQ f F.length (P ++ [y]).length))=true
 ·rw[aL h11] at hR
  rw[hR];exact .inl ⟨rfl,.inl (by simp)⟩
 rw[ay h11] at hR;have hTF:¬P ++ [y] <+: F:=fun hp=>by
  rcases nV.2 hp with e | ⟨r,hr,e⟩
  ·exact hne e
  ·rw[e] at hlF xQ
   obtain⟨hd,hi⟩:=zQ hs r hr xQ hlF;refine h9 ⟨by rw[CK];exact (kN hs hv2).2.1.2 hd,?_⟩;rw[CK];exact List.length_pos_iff.2 hi
 have aaN:nodes.any (bQ (aj F) F.length (P ++ [y]).length)=false:=by rw[<-Am];simpa using h11
 have Cs:∀e ∈ nodes,∀a,aI a->e.1=aj a->F <+: a->(P ++ [y]).length+(a.length-F.length)<=5:=fun e he a ha nu AD=>by
  by_cases haF:a=F
  ·rw[haF,Nat.sub_self];exact h52
  ·exact Xy xQ Gf rfl aaN e he a ha nu AD haF
 have JA:cB nodes (P ++ [y])≠none\/(aT nodes (aj P)).length<16\/∃z,F=P ++ [z]/\cB nodes F≠none:=by
  by_cases hT:cB nodes (P ++ [y])=none
  ·right
   have hk0:bU nodes t=0:=by rw[CK];exact (kN hs hv2).1.2 hT
   by_cases jS:16<=(aT nodes (aj P)).length
   ·right
    have yz:cO f (aj P)=true:=by
     cases hc:cO f (aj P) with
     | true=>rfl
     | false=>exact absurd ⟨hk0,jS,hc⟩ h10
    rw[Am] at yz;obtain⟨z,hz⟩:=(gN xQ hv2.left).1 yz;exact⟨z,hz,hlF⟩
   ·left;omega
  ·exact .inl hT
 rw[hR,Am,CK];exact .inr ⟨rfl,F,P,y,rfl,rfl,Gf,xQ,h51,hv2,h52,hlF,hFT,hTF,hs.rename xQ Gf hv2 Cs hFT hTF gq JA,fun m hm=>zP hs.jg xQ Gf hv2 (by simp) hFT hTF hm⟩
def Xz (data:List ByteArray)(x:Int×Int):Nd:=if x.1=2 then .dir else .file ((data[x.2.toNat]?).getD ⟨#[]⟩)
def Reads (a:List Ob)(fc:e7)(t:LT)(nodes:List aK)(data:List ByteArray):Prop:=∀q,aI q->gV a fc t q=(cB nodes q).map (Xz data)
theorem JN {ks:Kids}(hr:aU ks){x:ByteArray×LT}(h:x ∈ ks):aS ks x.1=some x.2:=by
 obtain⟨k,hk,rfl⟩:=List.getElem_of_mem h;exact DM hr hk
section
variable {a:List Ob}{fc:e7}{t:LT}{nodes:List aK}{data:List ByteArray}
theorem Reads.empty (h:Reads a fc t nodes data){q:List ByteArray}(hq:aI q):cB nodes q=none↔gV a fc t q=none:=by
 rw[h q hq,Option.map_eq_none_iff]
theorem Reads.JO (h:Reads a fc t nodes data)(hs:bG nodes data){q:List ByteArray}(hq:aI q):bU nodes (aj q)=0↔gV a fc t q=none:=(kN hs hq).1.trans (h.empty hq)
theorem Reads.ue (h:Reads a fc t nodes data)(hs:bG nodes data){q:List ByteArray}(hq:aI q):bU nodes (aj q)=2↔gV a fc t q=some .dir:=by
 rw[(kN hs hq).2.1,h q hq];constructor
 ·rintro ⟨f,hf⟩
  rw[hf];rfl
 ·intro hx
  cases hl:cB nodes q with
  | none=>rw[hl] at hx;cases hx
  | some x=>
   rw[hl,Option.map_some,Option.some.injEq,Xz] at hx;split at hx
   ·rename_i h2
    exact⟨x.2,by rw[<-h2]⟩
   ·cases hx
theorem N7 (hs:bG nodes data){q:List ByteArray}{x:Int×Int}(h:cB nodes q=some x):x.1=1\/x.1=2:=by
 unfold cB at h;split at h
 ·rw[<-Option.some.inj h];exact .inr rfl
 ·obtain⟨e,he,rfl⟩:=Option.map_eq_some_iff.1 h
  exact hs.kinds e (List.mem_of_find?_eq_some he)
theorem Reads.N8 (h:Reads a fc t nodes data)(hs:bG nodes data){q:List ByteArray}(hq:aI q):bU nodes (aj q)=1 ↔ ∃d,gV a fc t q=some (.file d):=by
 rw[(kN hs hq).2.2,h q hq];constructor
 ·rintro ⟨f,hf⟩
  rw[hf];exact⟨_,rfl⟩
 ·rintro ⟨d,hx⟩
  cases hl:cB nodes q with
  | none=>rw[hl] at hx;cases hx
  | some x=>
   rw[hl,Option.map_some,Option.some.injEq,Xz] at hx;split at hx
   ·cases hx
   ·rename_i h2
    rcases N7 hs hl with h1 | h1
    ·exact⟨x.2,by rw[<-h1]⟩
    ·exact absurd h1 h2
theorem UJ (nodes:List aK)(l:List ByteArray)(x:ByteArray):eT nodes (l ++ [x])=if eT nodes l≠0 then eT nodes l else if bU nodes (aj l)≠2 then 5 else if bU nodes (aj (l ++ [x]))=0 then 4 else 0:=by
 have hat:∀j,j<l.length->iw nodes (l ++ [x]) j=iw nodes l j:=fun j hj=>by
  unfold iw;rw[List.take_append_of_le_length (by omega),List.take_append_of_le_length (by omega)]
 have aeu:iw nodes (l ++ [x]) l.length=if bU nodes (aj l)≠2 then some 5 else if bU nodes (aj (l ++ [x]))=0 then some 4 else none:=by
  unfold iw;rw[List.take_left' rfl,List.take_of_length_le (by simp)]
 have aaO:∀(m:Nat),m<=l.length->(List.range m).findSome? (iw nodes (l ++ [x]))=(List.range m).findSome? (iw nodes l):=by
  intro m hm
  induction m with
  | zero=>rfl
  | succ m ih=>rw[List.range_succ,List.findSome?_append,List.findSome?_append,ih (by omega)];simp only[List.findSome?_cons,List.findSome?_nil,hat m (by omega)]
 have hne:∀e,(List.range l.length).findSome? (iw nodes l)=some e->e≠0:=fun e he=>by
  obtain⟨_,j,_,_,hj,_⟩:=List.findSome?_eq_some_iff.1 he;unfold iw at hj;split at hj
  ·cases hj;decide
  ·split at hj
   ·cases hj;decide
   ·cases hj
 have e1:eT nodes (l ++ [x])=(((List.range l.length).findSome? (iw nodes l)).or (iw nodes (l ++ [x]) l.length)).getD 0:=by
  unfold eT;rw[List.length_append,List.length_singleton,List.range_succ,List.findSome?_append,aaO _ (bA _),List.findSome?_cons];cases iw nodes (l ++ [x]) l.length <;> rfl
 rw[e1,aeu];unfold eT;cases hf:(List.range l.length).findSome? (iw nodes l) with
 | some e=>
  have:=hne e hf
  simp[this]
 | none=>
  simp only[Option.none_or,Option.getD_none,ne_eq,not_true_eq_false,if_false];split
  ·rfl
  ·split <;> rfl
theorem pZ {c:LT}(h:nd a fc c=.dir):∃ks,kids a c=some ks:=by
 cases c <;> first | exact⟨_,rfl⟩ | cases h
theorem nY {c:LT}{d:ByteArray}(h:nd a fc c=.file d):kids a c=none:=by
 cases c <;> first | rfl | cases h
theorem oz (h:Reads a fc t nodes data)(hs:bG nodes data):∀r:List ByteArray,aI r.reverse->(bK a t r).1=eT nodes r.reverse
 | [],_=>rfl
 | n :: r,hv=>by
  rw[List.reverse_cons] at hv
  have ih:=oz h hs r hv.left
  have hE:bK a t (n :: r)=(if (bK a t r).1≠0 then ((bK a t r).1,.dir 0) else if (fq a (bK a t r).2).1≠0 then ((fq a (bK a t r).2).1,.dir 0) else match aS (fq a (bK a t r).2).2 n with
   | none=>(4,.dir 0)
   | some c=>(0,c)):=rfl
  rw[List.reverse_cons,UJ,<-ih,hE]
  by_cases h0:(bK a t r).1≠0
  ·rw[aL h0,aL h0]
  ·rw[ay h0,ay h0]
   have hat:=rZ (Decidable.not_not.1 h0)
   have kR:gV a fc t r.reverse=some (nd a fc (bK a t r).2):=by unfold gV;rw[hat];rfl
   cases hk:kids a (bK a t r).2 with
   | none=>
    rw[vX hk,aL (by decide),aL (fun h2=>?_)]
    have:=(h.ue hs hv.left).1 h2
    rw[kR,Option.some.injEq] at this
    obtain⟨ks,e⟩:=pZ this
    rw[hk] at e;cases e
   | some ks=>
    have XA:bU nodes (aj r.reverse)=2:=(h.ue hs hv.left).2 (by
     rw[kR]
     cases hn:nd a fc (bK a t r).2 with
     | dir=>rfl
     | file d=>rw[nY hn] at hk;cases hk)
    rw[rY hk,ay (by simp),ay (by simp[XA])]
    have hsk:=nN (fc:=fc) hat hk n []
    cases hp:aS ks n with
    | none=>
     rw[hp] at hsk
     simp only
     rw[aL ((h.JO hs hv).2 (by simpa using hsk))]
    | some c=>
     rw[hp] at hsk
     simp only
     rw[ay (fun h0=>by
      have:=(h.JO hs hv).1 h0
      rw[show r.reverse ++ [n]=r.reverse++n :: [] from rfl,hsk,Option.bind_some,gY] at this
      cases this)]
theorem N9 (h:Reads a fc t nodes data)(hs:bG nodes data){r:List ByteArray}(hv:aI r.reverse)(x:ByteArray):(gK a t r).1=xU nodes (r.reverse ++ [x]):=by
 have hw:=oz h hs r hv;have e1:(r.reverse ++ [x]).take ((r.reverse ++ [x]).length-1)=r.reverse:=List.take_left' (by simp);unfold xU gK;rw[e1,<-hw];simp only;by_cases h0:(bK a t r).1≠0
 ·rw[aL h0,aL h0]
 ·rw[ay h0,ay h0]
  have hat:=rZ (Decidable.not_not.1 h0);have kR:gV a fc t r.reverse=some (nd a fc (bK a t r).2):=by unfold gV;rw[hat];rfl
  cases hk:kids a (bK a t r).2 with
  | none=>
   rw[vX hk,aL (fun h2=>?_)]
   have:=(h.ue hs hv).1 h2
   rw[kR,Option.some.injEq] at this;obtain⟨ks,e⟩:=pZ this;rw[hk] at e;cases e
  | some ks=>
   rw[rY hk,ay (fun h2=>h2 ((h.ue hs hv).2 (by
    rw[kR];cases hn:nd a fc (bK a t r).2 with
    | dir=>rfl
    | file d=>rw[nY hn] at hk;cases hk)))]
theorem ve:∀{L M:List ByteArray},L.Pairwise (fun x y=>jm x y<0)->M.Pairwise (fun x y=>jm x y<0)->(∀x,x ∈ L↔x ∈ M)->L=M
 | [],[],_,_,_=>rfl
 | [],y :: M,_,_,h=>by have:=(h y).2 (List.mem_cons_self ..);cases this
 | x :: L,[],_,_,h=>by have:=(h x).1 (List.mem_cons_self ..);cases this
 | x :: L,y :: M,hL,hM,h=>by
  obtain⟨l1,l2⟩:=List.pairwise_cons.1 hL
  obtain⟨m1,m2⟩:=List.pairwise_cons.1 hM
  have irr:∀z:ByteArray,¬jm z z<0:=fun z hz=>by rw[jd] at hz;omega
  have e:x=y:=by
   rcases List.mem_cons.1 ((h x).1 (List.mem_cons_self ..)) with e | hx
   ·exact e
   ·rcases List.mem_cons.1 ((h y).2 (List.mem_cons_self ..)) with e | hy
    ·exact e.symm
    ·exact absurd (oI (m1 x hx) (l1 y hy)) (irr y)
  subst e
  congr 1
  refine ve l2 m2 (fun z=>⟨fun hz=>?_,fun hz=>?_⟩)
  ·rcases List.mem_cons.1 ((h z).1 (List.mem_cons_of_mem _ hz)) with e | hx
   ·rw[e] at hz;exact absurd (l1 x hz) (irr x)
   ·exact hx
  ·rcases List.mem_cons.1 ((h z).2 (List.mem_cons_of_mem _ hz)) with e | hx
   ·rw[e] at hz;exact absurd (m1 x hz) (irr x)
   ·exact hx
theorem Ex (h:Reads a fc t nodes data)(hs:bG nodes data)(hS:Sound a)(cz:bu a 5 t){q:List ByteArray}{d:LT}{ks:Kids}(ha:t.at a q=some d)(hk:kids a d=some ks):ks.map (·.1)=eB nodes (aj q):=by
 obtain⟨_,XB,hq⟩:=dN hS q cz ha;obtain⟨hr,_,hv⟩:=cr hS XB hk;refine ve (List.pairwise_map.2 (show ks.Pairwise (fun x y=>jm x.1 y.1<0) from hr)) ?_ (fun x=>?_)
 ·exact List.pairwise_map.2 (show (fF (aT nodes (aj q))).Pairwise (fun x y=>jm x.1 y.1<0) from Ge hs.jg hs.one hq)
 ·rw[uK hs.jg hq]
  constructor
  ·intro hx
   obtain⟨y,hy,rfl⟩:=List.mem_map.1 hx;have hvy:=(hv y hy).1;refine⟨hvy,fun hn=>?_⟩
   have:=(h.empty (hq.append (fun z hz=>by rw[List.mem_singleton.1 hz];exact hvy))).1 hn
   rw[show q ++ [y.1]=q++y.1 :: [] from rfl,nN ha hk,JN hr hy,Option.bind_some,gY] at this;cases this
  ·rintro ⟨hvx,hn⟩
   have h1:gV a fc t (q ++ [x])≠none:=fun e=>hn ((h.empty (hq.append (fun z hz=>by rw[List.mem_singleton.1 hz];exact hvx))).2 e);rw[show q ++ [x]=q++x :: [] from rfl,nN ha hk] at h1;cases hp:aS ks x with
   | none=>rw[hp] at h1;exact absurd rfl h1
   | some c=>exact List.mem_map.2 ⟨_,oN hp,rfl⟩
theorem uf (h:Reads a fc t nodes data)(hs:bG nodes data)(hS:Sound a)(cz:bu a 5 t){q:List ByteArray}{d:LT}{ks:Kids}(ha:t.at a q=some d)(hk:kids a d=some ks):ks.length=(aT nodes (aj q)).length:=by
 rw[<-ot,<-Ex h hs hS cz ha hk,List.length_map]
theorem Mx (hX:Exact a):∀(n:Nat) (c:LT),0<=iX a n c
 | n,.file id=>by cases n <;> exact hX.sound.1 id
 | n,.held f=>by cases n <;> exact Int.le_refl _
 | n,.dir id=>by cases n <;> exact hX.sound.1 id
 | 0,.own es=>Int.le_refl _
 | n+1,.own es=>by
  rw[iX]
  exact ((eX (fun x:ByteArray×LT=>iX a n x.2) es 0 _).1 (Int.le_refl _)).1
theorem XC (hX:Exact a):∀(n:Nat) (c:LT),bu a n c->∀m:Nat,iX a n c<=(m:Int) ↔ ∀x,gV a fc c x≠none->x.length<=m:=by
 intro n
 induction n with
 | zero=>
  intro c hc m;have h0:iX a 0 c<=(m:Int):=by
   have:=Us hX 0 c hc
   omega
  refine⟨fun _ x hx=>?_,fun _=>h0⟩;cases hat:c.at a x with
  | none=>unfold gV at hx;rw[hat] at hx;exact absurd rfl hx
  | some d=>
   have:=(dN hX.sound x hc hat).1
   omega
 | succ n ih=>
  intro c hc m;by_cases hk:c.kind=2
  ·obtain⟨ks,yT⟩:=qP (a:=a) hk
   rw[Uu hX yT (Mm hc),eX (fun x:ByteArray×LT=>iX a n x.2)];obtain⟨hr,_,hv⟩:=cr hX.sound hc yT;have hv':∀x ∈ ks,bu a n x.2:=fun x hx=>by
    obtain⟨_,m,e,h⟩:=hv x hx;cases e;exact h
   constructor
   ·rintro ⟨_,hall⟩ x hx
    cases x with
    | nil=>simp
    | cons y r=>
     rw[fe,yT,Option.bind_some] at hx;cases hp:aS ks y with
     | none=>rw[hp] at hx;exact absurd rfl hx
     | some e=>
      rw[hp,Option.bind_some] at hx;have hm:=oN hp;have h1:=hall _ hm;simp only at h1;have h2:0<=iX a n e:=(Mx hX n e)
      have:=(ih e (hv' _ hm) (m-1)).1 (by omega) r hx
      rw[List.length_cons];omega
   ·intro hall
    refine⟨by omega,fun x hx=>?_⟩;have hp:=JN hr hx;have h0:gV a fc c [x.1]≠none:=by rw[fe,yT,Option.bind_some,hp,Option.bind_some,gY];simp
    have h1:=hall _ h0;simp at h1
    have:=(ih x.2 (hv' x hx) (m-1)).2 (fun y hy=>by
     have:=hall (x.1 :: y) (by rw[fe,yT,Option.bind_some,hp,Option.bind_some];exact hy)
     rw[List.length_cons] at this;omega)
    omega
  ·rw[Uv hX hc hk]
   refine⟨fun _ x hx=>?_,fun _=>by omega⟩;cases x with
   | nil=>simp
   | cons y r=>rw[fe,mm hk] at hx;exact absurd rfl hx
theorem gu {l:List ByteArray}(h:Good l):aG (aj l)=(l,true):=by
 rw[r8 h.val,decide_eq_true h.len]
theorem aaP {p x:List ByteArray}(h:gV a fc t p=none)(hp:p <+: x):gV a fc t x=none:=by
 obtain⟨r,rfl⟩:=hp;unfold gV at h ⊢;rw[bH];cases hat:t.at a p with
 | none=>rfl
 | some c=>rw[hat] at h;cases h
theorem Ey (l:List ByteArray)(x:ByteArray):(l ++ [x]).take ((l ++ [x]).length-1)=l:=List.take_left' (by simp)
theorem QL {l:List ByteArray}{x:ByteArray}(hG:Good (l ++ [x])):dw nodes (aj (l ++ [x]))=if xU nodes (l ++ [x])≠0 then (nodes,xU nodes (l ++ [x])) else if bU nodes (aj (l ++ [x]))≠0 then (nodes,6) else if 16<=(aT nodes (aj l)).length then (nodes,11) else (nodes ++ [(aj (l ++ [x]),2,0)],0):=by
 unfold dw;rw[gu hG];simp only;rw[ay (by simp),ay (by simp),Ey]
theorem My {l:List ByteArray}(hG:Good l)(hl:l ≠ []):cH nodes (aj l)=if eT nodes l≠0 then (nodes,eT nodes l) else if 0<(aT nodes (aj l)).length then (nodes,8) else (cF nodes (aj l),0):=by
 unfold cH;rw[gu hG];simp only;rw[ay (by simp),ay (by simpa using hl)]
theorem UK (h:Reads a fc t nodes data)(hs:bG nodes data)(hS:Sound a)(cz:bu a 5 t){n:ByteArray}{r:List ByteArray}(hG:Good (r.reverse ++ [n])):
  (gG a t bT (n :: r)).2.1=(dw nodes (aj (r.reverse ++ [n]))).2/\Reads a fc (gG a t bT (n :: r)).2.2 (dw nodes (aj (r.reverse ++ [n]))).1 data/\bG (dw nodes (aj (r.reverse ++ [n]))).1 data:=by
 have hv:=hG.val;have Cu:(gG a t bT (n :: r)).2.1=(dw nodes (aj (r.reverse ++ [n]))).2:=by
  unfold gG;rw[QL hG,<-N9 h hs hv.left n];simp only[kX];by_cases h0:(gK a t r).1≠0
  ·rw[aL h0,aL h0]
  ·rw[ay h0,ay h0]
   obtain⟨d,ha,hk⟩:=tX (Decidable.not_not.1 h0);have hsk:=nN (fc:=fc) ha hk n [];rw[<-uf h hs hS cz ha hk];cases hp:aS (gK a t r).2 n with
   | some c=>
    rw[hp,Option.bind_some,gY] at hsk;rw[aL (show (some c:Option LT).isSome=true from rfl),aL (show bU nodes (aj (r.reverse ++ [n]))≠0 from fun e=>by rw[show r.reverse ++ [n]=r.reverse++n :: [] from rfl] at e;rw[(h.JO hs hv).1 e] at hsk;cases hsk)]
   | none=>
    rw[hp] at hsk;rw[ay (show ¬(none:Option LT).isSome=true by simp),ay (show ¬bU nodes (aj (r.reverse ++ [n]))≠0 from fun e=>e ((h.JO hs hv).2 hsk))];split <;> rfl
 refine⟨Cu,?_⟩;obtain⟨c1,c2,c3⟩:=Mn (fc:=fc) hS cz n r (er:=(gG a t bT (n :: r)).2.1) (t':=(gG a t bT (n :: r)).2.2) rfl;rcases JM hs (aj (r.reverse ++ [n])) with ⟨m1,m2⟩ | ⟨m1,l,x,m2,m3,m4,m5,m6,m7⟩
 ·rw[c2 (by rw[Cu];exact m1),m2]
  exact⟨h,hs⟩
 ·have e:l ++ [x]=r.reverse ++ [n]:=dh m3 hv m2.symm
  rw[e] at m5 m7;obtain⟨d1,d2⟩:=c3 (by rw[Cu];exact m1);refine⟨fun q hq=>?_,m6⟩;rw[d2 q,m7 q hq];by_cases hqe:q=r.reverse ++ [n]
  ·rw[aL hqe,aL hqe];rfl
  ·rw[ay hqe,ay hqe]
   split
   ·rename_i qh
    have:=aaP d1 qh
    rw[h q hq] at this;exact this.symm
   ·exact h q hq
theorem vg (h:Reads a fc t nodes data)(hs:bG nodes data){q:List ByteArray}(hq:aI q)(hn:gV a fc t q≠some .dir):aT nodes (aj q) = []:=by
 cases hi:aT nodes (aj q) with
 | nil=>rfl
 | cons y r=>
  exfalso;obtain⟨x,hx,⟨n',CI,CS⟩,_⟩:=(uJ hs.jg hq).1 (show y ∈ aT nodes (aj q) by rw[hi];exact List.mem_cons_self ..);have hvx:aI (q ++ [x]):=hq.append (fun z hz=>by rw[List.mem_singleton.1 hz];exact hx);obtain⟨f,hf⟩:=hs.up _ _ hvx ((oy (by simp)).2 ⟨n',CI,CS⟩);apply hn;rw[h q hq,hf];rfl
theorem Ez (h:Reads a fc t nodes data)(hs:bG nodes data)(hS:Sound a)(cz:bu a 5 t){q:List ByteArray}{c:LT}(hat:t.at a q=some c):(dA a bT c).2=if 0<(aT nodes (aj q)).length then 8 else 0:=by
 have hq:=(dN hS q cz hat).2.2;unfold dA;simp only[oP];by_cases hk:c.kind=2
 ·obtain⟨ks,yT⟩:=qP (a:=a) hk
  rw[ay (show ¬c.kind=1 by rw[hk];decide),rY yT,<-uf h hs hS cz hat yT];simp only[true_and];split <;> rfl
 ·have fM:c.kind=1:=by cases c <;> first | rfl | exact absurd rfl hk
  have kR:gV a fc t q≠some .dir:=fun e=>by
   unfold gV at e;rw[hat,Option.map_some,Option.some.injEq] at e;obtain⟨ks,yT⟩:=pZ e;rw[mm hk] at yT;cases yT
  rw[aL fM,vg h hs hq kR];rfl
theorem QM (h:Reads a fc t nodes data)(hs:bG nodes data)(hS:Sound a)(cz:bu a 5 t){n:ByteArray}{r:List ByteArray}(hG:Good (r.reverse ++ [n])):
  (eE a t bT (n :: r)).2.1=(cH nodes (aj (r.reverse ++ [n]))).2/\Reads a fc (eE a t bT (n :: r)).2.2 (cH nodes (aj (r.reverse ++ [n]))).1 data/\bG (cH nodes (aj (r.reverse ++ [n]))).1 data:=by
 have hv:=hG.val;have Cu:(eE a t bT (n :: r)).2.1=(cH nodes (aj (r.reverse ++ [n]))).2:=by
  unfold eE;rw[My hG (by simp)];simp only[jV];have hw:=oz h hs (n :: r) (by rw[List.reverse_cons];exact hv);rw[List.reverse_cons] at hw;rw[<-hw];by_cases h0:(bK a t (n :: r)).1≠0
  ·rw[aL h0,aL h0]
  ·rw[ay h0,ay h0]
   have hat:=rZ (Decidable.not_not.1 h0);rw[List.reverse_cons] at hat;rw[Ez h hs hS cz hat];by_cases hl:0<(aT nodes (aj (r.reverse ++ [n]))).length
   ·rw[aL hl,aL hl];rfl
   ·rw[ay hl,ay hl];rfl
 refine⟨Cu,?_⟩;obtain⟨c1,c2,c3⟩:=Jy (fc:=fc) hS cz n r (er:=(eE a t bT (n :: r)).2.1) (t':=(eE a t bT (n :: r)).2.2) rfl;rcases Gg hs (aj (r.reverse ++ [n])) with ⟨m1,m2⟩ | ⟨m1,l,x,m2,m3,m4,m5,_,m6,m7⟩
 ·rw[c2 (by rw[Cu];exact m1),m2]
  exact⟨h,hs⟩
 ·have e:l ++ [x]=r.reverse ++ [n]:=dh m3 hv m2.symm
  rw[e] at m5 m7;obtain⟨d1,d2⟩:=c3 (by rw[Cu];exact m1);refine⟨fun q hq=>?_,m6⟩;rw[d2 q,m7 q hq];split
  ·rfl
  ·exact h q hq
theorem UL (h:Reads a fc t nodes data)(hs:bG nodes data){q:List ByteArray}{n:ByteArray}(hq:aI (q ++ [n])){d:LT}{ks:Kids}(ha:t.at a q=some d)(hk:kids a d=some ks):
  (aS ks n=none/\bU nodes (aj (q ++ [n]))=0)\/∃c,aS ks n=some c/\t.at a (q ++ [n])=some c/\bU nodes (aj (q ++ [n]))=c.kind:=by
 have hsk:=nN (fc:=fc) ha hk n [];cases hp:aS ks n with
 | none=>
  rw[hp] at hsk;exact .inl ⟨rfl,(h.JO hs hq).2 hsk⟩
 | some c=>
  rw[hp,Option.bind_some,gY] at hsk;refine .inr ⟨c,rfl,?_,?_⟩
  ·rw[bH,ha,Option.bind_some,bw,hk,Option.bind_some,hp,Option.bind_some,di]
  ·cases c with
   | file i=>exact (h.N8 hs hq).2 ⟨_,hsk⟩
   | held f=>exact (h.N8 hs hq).2 ⟨_,hsk⟩
   | dir i=>exact (h.ue hs hq).2 hsk
   | own es=>exact (h.ue hs hq).2 hsk
theorem UM (h:Reads a fc t nodes data)(hs:bG nodes data)(hX:Exact a)(cz:bu a 5 t){F:List ByteArray}{c:LT}(ha:t.at a F=some c)(Gf:F ≠ []){m:Nat}(hm:m<=5):
  (nodes.any (bQ (aj F) F.length m))=true↔5<(m:Int)+iX a 5 c:=by
 obtain⟨hl,hc,hF⟩:=dN hX.sound F cz ha;have e5:iX a 5 c=iX a (5-F.length) c:=vV _ _ c (by omega) hc;have kR:=XC (fc:=fc) hX (5-F.length) c hc (5-m);rw[<-e5] at kR;have Ww:5<(m:Int)+iX a 5 c ↔ ¬iX a 5 c<=((5-m:Nat):Int):=by omega
 rw[Ww,kR];constructor
 ·intro aaN hall
  obtain⟨e,he,htd⟩:=List.any_eq_true.1 aaN;unfold bQ at htd;simp only[Bool.and_eq_true,decide_eq_true_eq] at htd;obtain⟨hu,hd⟩:=htd;obtain⟨l,K4,hlv,Kr,hle⟩:=hs.jg e he;rw[hle] at hu hd;obtain⟨r,hrn,rfl⟩:=(kM hlv hF Gf).1 hu;rw[ox hlv,List.length_append] at hd;have hk:cB nodes (F++r)≠none:=(oy K4).2 ⟨e,he,hle⟩;have h1:gV a fc c r≠none:=fun e1=>hk ((h.empty hlv).2 (by rw[yx ha];exact e1))
  have:=hall r h1
  omega
 ·intro hn
  have hex:∃x,gV a fc c x≠none/\¬x.length<=5-m:=by
   refine Classical.byContradiction fun hc=>hn fun x hx=>?_;exact Classical.byContradiction fun hl=>hc ⟨x,hx,hl⟩
  obtain⟨x,hx,hxl⟩:=hex;have rA:gV a fc t (F++x)≠none:=by rw[yx ha];exact hx
  have hv:aI (F++x):=by
   unfold gV at rA;cases hat:t.at a (F++x) with
   | none=>rw[hat] at rA;exact absurd rfl rA
   | some e=>exact (dN hX.sound _ cz hat).2.2
  have hk:cB nodes (F++x)≠none:=fun e=>rA ((h.empty hv).1 e);obtain⟨e,he,Sy⟩:=(oy (by simp[Gf])).1 hk;refine List.any_eq_true.2 ⟨e,he,?_⟩;unfold bQ;rw[Sy,ox hv,List.length_append];simp only[Bool.and_eq_true,decide_eq_true_eq];refine⟨(kM hv hF Gf).2 ⟨x,?_,rfl⟩,by omega⟩;rintro rfl;simp at hxl
theorem QN {F T:List ByteArray}(hF:aI F)(hT:aI T)(Gf:F ≠ []):cD (aj T) (aj F)=true↔F <+: T/\F≠T:=by
 rw[kM hT hF Gf];constructor
 ·rintro ⟨r,hr,rfl⟩
  exact⟨List.prefix_append _ _,fun e=>hr (by simpa using e.symm)⟩
 ·rintro ⟨⟨r,rfl⟩,hn⟩
  exact⟨r,fun e=>hn (by rw[e];simp),rfl⟩
theorem Mz {F T:List ByteArray}{y:ByteArray}(hF:Good F)(hT:Good (T ++ [y]))(Gf:F ≠ []):cU nodes (aj F) (aj (T ++ [y])) =
  if eT nodes F≠0 then (nodes,eT nodes F)
  else if cD (aj (T ++ [y])) (aj F)=true then (nodes,9)
  else if xU nodes (T ++ [y])≠0 then (nodes,xU nodes (T ++ [y]))
  else if ((aj F).toList == (aj (T ++ [y])).toList)=true then (nodes,0)
  else if bU nodes (aj (T ++ [y]))=2/\bU nodes (aj F)=1 then (nodes,7)
  else if bU nodes (aj (T ++ [y]))=1/\bU nodes (aj F)=2 then (nodes,5)
  else if bU nodes (aj (T ++ [y]))=2/\0<(aT nodes (aj (T ++ [y]))).length then (nodes,8)
  else if bU nodes (aj (T ++ [y]))=0/\16<=(aT nodes (aj T)).length/\cO (aj F) (aj T)=false then (nodes,11)
  else if (nodes.any (bQ (aj F) F.length (T ++ [y]).length))=true then (nodes,11)
  else ((cF nodes (aj (T ++ [y]))).map (aD (aj F) (aj (T ++ [y]))),0):=by
 unfold cU;rw[gu hF,gu hT];simp only;rw[ay (by simp),ay (by simpa using Gf),Ey]
theorem QO (h:Reads a fc t nodes data)(hs:bG nodes data)(hX:Exact a)(cz:bu a 5 t){n m:ByteArray}{r q:List ByteArray}(hG:Good (r.reverse ++ [n]))(hH:Good (q.reverse ++ [m])):
  (eA a t bT (n :: r) (m :: q)).2.1=(cU nodes (aj (r.reverse ++ [n])) (aj (q.reverse ++ [m]))).2/\Reads a fc (eA a t bT (n :: r) (m :: q)).2.2 (cU nodes (aj (r.reverse ++ [n])) (aj (q.reverse ++ [m]))).1 data/\bG (cU nodes (aj (r.reverse ++ [n])) (aj (q.reverse ++ [m]))).1 data:=by
 have hS:=hX.sound;have hv:=hG.val;have hw:=hH.val;have Dj:n :: r=m :: q↔r.reverse ++ [n]=q.reverse ++ [m]:=by
  rw[<-List.reverse_cons,<-List.reverse_cons];exact⟨fun e=>by rw[e],fun e=>List.reverse_inj.1 e⟩
 have aiZ:((aj (r.reverse ++ [n])).toList == (aj (q.reverse ++ [m])).toList)=decide (n :: r=m :: q):=by
  rw[JJ hv hw];by_cases e:n :: r=m :: q
  ·rw[decide_eq_true e,decide_eq_true (Dj.1 e)]
  ·rw[dY e,dY (fun h=>e (Dj.2 h))]
 have Cu:(eA a t bT (n :: r) (m :: q)).2.1=(cU nodes (aj (r.reverse ++ [n])) (aj (q.reverse ++ [m]))).2:=by
  unfold eA;rw[Mz hG hH (by simp),aiZ];simp only[jV,kX,List.reverse_cons];have hfw:=oz h hs (n :: r) (by rw[List.reverse_cons];exact hv);rw[List.reverse_cons] at hfw;rw[<-hfw,<-N9 h hs hw.left m];by_cases h0:(bK a t (n :: r)).1≠0
  ·rw[aL h0,aL h0]
  ·rw[ay h0,ay h0]
   have Ld:=QN hv hw (by simp);by_cases h1:r.reverse ++ [n] <+: q.reverse ++ [m]/\n :: r≠m :: q
   ·rw[aL h1,aL (Ld.2 ⟨h1.1,fun e=>h1.2 (Dj.2 e)⟩)]
   ·rw[ay h1,ay (fun e=>h1 ⟨(Ld.1 e).1,fun e'=>(Ld.1 e).2 (Dj.1 e')⟩)]
    by_cases h2:(gK a t q).1≠0
    ·rw[aL (.inl h2),aL h2]
    ·rw[ay h2]
     by_cases h3:n :: r=m :: q
     ·rw[aL (.inr h3),aL (decide_eq_true h3)]
      exact Decidable.not_not.1 h2
     ·rw[ay (show ¬((gK a t q).1≠0\/n :: r=m :: q) from fun e=>e.elim h2 h3),ay (show ¬decide (n :: r=m :: q)=true from fun e=>h3 (of_decide_eq_true e))]
      have hat:=rZ (Decidable.not_not.1 h0);rw[List.reverse_cons] at hat;obtain⟨c,hc⟩:∃c,c=(bK a t (n :: r)).2:=⟨_,rfl⟩;rw[<-hc] at hat ⊢;obtain⟨d,had,lM⟩:=tX (Decidable.not_not.1 h2);obtain⟨ks,yT⟩:∃ks,ks=(gK a t q).2:=⟨_,rfl⟩;rw[<-yT] at lM ⊢;have aaQ:bU nodes (aj (r.reverse ++ [n]))=c.kind:=by
       have kR:gV a fc t (r.reverse ++ [n])=some (nd a fc c):=by unfold gV;rw[hat];rfl
       cases c with
       | file i=>exact (h.N8 hs hv).2 ⟨_,kR⟩
       | held f=>exact (h.N8 hs hv).2 ⟨_,kR⟩
       | dir i=>exact (h.ue hs hv).2 kR
       | own es=>exact (h.ue hs hv).2 kR
      have Cs:=UM h hs hX cz hat (by simp) (m:=(q.reverse ++ [m]).length) hH.len;have hlen:(((q.reverse ++ [m]).length:Nat):Int)=((q.length+1:Nat):Int):=by simp
      rw[hlen] at Cs;have yz:cO (aj (r.reverse ++ [n])) (aj q.reverse)=decide (r=q):=by
       by_cases e:r=q
       ·rw[decide_eq_true e,(gN hv hw.left).2 ⟨n,by rw[e]⟩]
       ·rw[dY e]
        cases hb:cO (aj (r.reverse ++ [n])) (aj q.reverse) with
        | false=>rfl
        | true=>
         obtain⟨x,hx⟩:=(gN hv hw.left).1 hb
         have:=List.append_inj_left' hx (by simp)
         exact absurd (List.reverse_inj.1 this) e
      have hroom:(jR a bT (decide (r=q)) ks m c).2=if bU nodes (aj (q.reverse ++ [m]))=2/\c.kind=1 then 7 else if bU nodes (aj (q.reverse ++ [m]))=1/\c.kind=2 then 5 else if bU nodes (aj (q.reverse ++ [m]))=2/\0<(aT nodes (aj (q.reverse ++ [m]))).length then 8 else if bU nodes (aj (q.reverse ++ [m]))=0/\16<=ks.length/\decide (r=q)=false then 11 else 0:=by
       unfold jR;rcases UL h hs hw had lM with ⟨hp,hz⟩ | ⟨e,hp,nu,hz⟩
       ·rw[hp,hz]
        simp only;rw[ay (show ¬((0:Int)=2/\c.kind=1) from fun x=>absurd x.1 (by decide)),ay (show ¬((0:Int)=1/\c.kind=2) from fun x=>absurd x.1 (by decide)),ay (show ¬((0:Int)=2/\0<(aT nodes (aj (q.reverse ++ [m]))).length) from fun x=>absurd x.1 (by decide))];by_cases hf:16<=ks.length/\decide (r=q)=false
        ·rw[aL hf,aL ⟨trivial,hf⟩]
        ·rw[ay hf,ay (fun x=>hf x.2)]
       ·rw[hp,hz]
        simp only;unfold jh;by_cases k1:e.kind=2/\c.kind=1
        ·rw[aL k1,aL k1]
        ·rw[ay k1,ay k1]
         by_cases k2:e.kind=1/\c.kind=2
         ·rw[aL k2,aL k2]
         ·rw[ay k2,ay k2,Ez h hs hS cz nu]
          have aev:e.kind=1\/e.kind=2:=by cases e <;> first | exact .inl rfl | exact .inr rfl
          have h0k:¬(e.kind=0/\16<=ks.length/\decide (r=q)=false):=fun x=>by rcases aev with k | k <;> (rw[k] at x;exact absurd x.1 (by decide))
          rw[ay h0k];by_cases hl:0<(aT nodes (aj (q.reverse ++ [m]))).length
          ·have k:e.kind=2:=by
            refine aev.resolve_left fun k=>?_;have kR:gV a fc t (q.reverse ++ [m])≠some .dir:=fun x=>by
             have:=(h.ue hs hw).2 x
             rw[hz,k] at this;cases this
            rw[vg h hs hw kR] at hl;simp at hl
           rw[aL hl,aL ⟨k,hl⟩]
          ·rw[ay hl,ay (fun x=>hl x.2)]
      rw[aaQ,yz,<-uf h hs hS cz had lM,hroom];by_cases c1:bU nodes (aj (q.reverse ++ [m]))=2/\c.kind=1
      ·rw[aL c1,aL c1];rfl
      ·rw[ay c1,ay c1]
       by_cases c2:bU nodes (aj (q.reverse ++ [m]))=1/\c.kind=2
       ·rw[aL c2,aL c2];rfl
       ·rw[ay c2,ay c2]
        by_cases c3:bU nodes (aj (q.reverse ++ [m]))=2/\0<(aT nodes (aj (q.reverse ++ [m]))).length
        ·rw[aL c3,aL c3];rfl
        ·rw[ay c3,ay c3]
         by_cases c4:bU nodes (aj (q.reverse ++ [m]))=0/\16<=ks.length/\decide (r=q)=false
         ·rw[aL c4,aL c4];rfl
         ·rw[ay c4,ay c4,ay (show ¬(0:Int)≠0 by decide)]
          by_cases hd:5<((q.length+1:Nat):Int)+iX a 5 c
          ·rw[aL hd,aL (Cs.2 hd)]
          ·rw[ay hd,ay (fun e=>hd (Cs.1 e))]
 refine⟨Cu,?_⟩;obtain⟨c1,c2,c3⟩:=Jz (fc:=fc) hS cz n m r q (er:=(eA a t bT (n :: r) (m :: q)).2.1) (t':=(eA a t bT (n :: r) (m :: q)).2.2) rfl;rcases Gh hs (aj (r.reverse ++ [n])) (aj (q.reverse ++ [m])) with ⟨m1,m2⟩ | ⟨m1,F,P,y,m2,m3,m4,m5,m6,m7,m8,m9,m10,m11,m12,m13⟩
 ·rw[m1]
  refine⟨?_,hs⟩;by_cases he:(eA a t bT (n :: r) (m :: q)).2.1≠0
  ·rw[c2 he];exact h
  ·obtain⟨_,_,d3⟩:=c3 (Decidable.not_not.1 he)
   have heq:aj (r.reverse ++ [n])=aj (q.reverse ++ [m]):=by
    rcases m2 with m2 | m2
    ·rw[<-Cu] at m2;exact absurd m2 he
    ·exact m2
   have:=dh hv hw heq
   intro x hx;rw[d3 x,aL this];exact h x hx
 ·have e1:F=r.reverse ++ [n]:=dh m5 hv m2.symm
  have e2:P ++ [y]=q.reverse ++ [m]:=dh m7 hw m3.symm;rw[e1,e2] at m13;rw[e1,e2] at m10;obtain⟨_,_,d3⟩:=c3 (by rw[Cu];exact m1);refine⟨fun x hx=>?_,m12⟩;rw[d3 x,m13 x hx,ay (fun e=>m10 (by rw[e];exact List.prefix_refl _))];split
  ·rename_i hp
   obtain⟨z,rfl⟩:=hp;rw[List.drop_left];exact h _ (hv.append hx.right)
  ·split
   ·rfl
   ·exact h x hx
theorem EA (nodes:List aK)(data:List ByteArray){q:List ByteArray}(hq:q ≠ []):lg nodes data (aj q)=match cB nodes q with
  | some (k,f)=>if k=1 then (1,(((data[f.toNat]?).getD ⟨#[]⟩).size:Int)) else (2,((aT nodes (aj q)).length:Int))
  | none=>(2,((aT nodes (aj q)).length:Int)):=by
 have h1:=Eu nodes (aj q);rw[<-lB hq] at h1;unfold lg;cases hf:oV nodes (aj q) with
 | none=>
  rw[hf] at h1;rw[<-h1];rfl
 | some i=>
  rw[hf,Option.bind_some] at h1;cases hn:nodes[i]? with
  | none=>
   exfalso
   have:=(List.findIdx?_eq_some_iff_getElem.1 hf).1
   rw[kO this] at hn;cases hn
  | some e=>
   rw[hn,Option.map_some] at h1;rw[<-h1];simp only[hn,Option.map_some,Option.getD_some,List.getD_eq_getElem?_getD]
theorem UN {l:List ByteArray}(hG:Good l):ja nodes data (aj l)=if eT nodes l≠0 then ((0,0),eT nodes l) else (lg nodes data (aj l),0):=by
 unfold ja;rw[gu hG];simp only;rw[ay (by simp)]
theorem UO {l:List ByteArray}(hG:Good l):fA nodes (aj l)=if eT nodes l≠0 then ([],eT nodes l) else if bU nodes (aj l)≠2 then ([],5) else (eB nodes (aj l),0):=by
 unfold fA;rw[gu hG];simp only;rw[ay (by simp)]
theorem XD (fl:Nat->Option (Int×ByteArray))(h:Reads a (ko a fl) t nodes data)(hs:bG nodes data)(hS:Sound a)(cz:bu a 5 t)(hk:t.kind=2){r:List ByteArray}(hG:Good r.reverse):
  (jy a fl t bT r).2.1=(ja nodes data (aj r.reverse)).2/\(jy a fl t bT r).2.2=(ja nodes data (aj r.reverse)).1:=by
 have hv:=hG.val;have hw:=oz h hs r hv;unfold jy;rw[UN hG,<-hw];simp only[jV];by_cases h0:(bK a t r).1≠0
 ·rw[aL h0,aL h0];exact⟨rfl,rfl⟩
 ·rw[ay h0,ay h0]
  have hat:=rZ (Decidable.not_not.1 h0);obtain⟨c,hc⟩:∃c,c=(bK a t r).2:=⟨_,rfl⟩;rw[<-hc] at hat ⊢;have kR:gV a (ko a fl) t r.reverse=some (nd a (ko a fl) c):=by unfold gV;rw[hat];rfl
  have XA:c.kind=2->(lg nodes data (aj r.reverse))=(2,((aT nodes (aj r.reverse)).length:Int)):=by
   intro hk2;have hz:gV a (ko a fl) t r.reverse=some .dir:=by
    rw[kR];cases c <;> first | rfl | cases hk2
   by_cases hq:r.reverse = []
   ·rw[hq]
    unfold lg;cases hf:oV nodes (aj []) with
    | none=>rfl
    | some i=>
     exfalso;obtain⟨hi,he,_⟩:=List.findIdx?_eq_some_iff_getElem.1 hf;obtain⟨l,K4,hlv,_,hle⟩:=hs.jg _ (jk hi);simp only[decide_eq_true_eq] at he;rw[hle] at he
     have:aj l=aj []:=bytes_inj (by rw[ByteArray.toList_eq,ByteArray.toList_eq] at he;exact he)
     exact K4 (dh hlv (fun x hx=>by cases hx) this)
   ·rw[EA nodes data hq]
    rw[h _ hv] at hz;cases hl:cB nodes r.reverse with
    | none=>rfl
    | some x=>
     obtain⟨k,f⟩:=x;rw[hl,Option.map_some,Option.some.injEq,Xz] at hz;simp only at hz ⊢;split at hz
     ·rename_i h2;rw[ay (by rw[h2];decide)]
     ·cases hz
  have YI:∀b,nd a (ko a fl) c=.file b->lg nodes data (aj r.reverse)=(1,(b.size:Int)):=by
   intro b hb;have hq:r.reverse ≠ []:=by
    intro e;rw[e,di] at hat;have he:=Option.some.inj hat;rw[<-he] at hb;cases t <;> first | (cases hb;done) | (cases hk;done)
   rw[EA nodes data hq];rw[hb,h _ hv] at kR;cases hl:cB nodes r.reverse with
   | none=>rw[hl] at kR;cases kR
   | some x=>
    obtain⟨k,f⟩:=x;rw[hl,Option.map_some,Option.some.injEq,Xz] at kR;simp only at kR ⊢;split at kR
    ·cases kR
    ·rename_i h2
     rcases N7 hs hl with h1 | h1
     ·simp only at h1
      rw[aL h1];cases kR;rfl
     ·exact absurd h1 h2
  cases c with
  | file id=>
   simp only[fQ,wU,if_true];rw[YI _ rfl];exact⟨rfl,rfl⟩
  | held f=>
   rw[YI _ rfl];have hbg:(ir a fl bT f).2=(0,ko a fl f):=by
    unfold ir ko;cases fl f with
    | none=>rfl
    | some x=>
     obtain⟨i,d⟩:=x;simp only[wU,if_true];by_cases hi:i=0
     ·rw[aL hi,ay (show ¬i≠0 from fun e=>e hi)]
     ·rw[ay hi,aL hi]
   have hsz:(fQ a fl bT (.held f)).2=(0,((ko a fl f).size:Int)):=by
    show ((ir a fl bT f).2.1,((ir a fl bT f).2.2.size:Int))=_;rw[hbg]
   rw[hsz];exact⟨rfl,rfl⟩
  | dir id=>
   have hm:=uf h hs hS cz hat (show kids a (.dir id)=some _ from rfl);rw[XA rfl];simp only[fQ,oP,fq,hm];exact⟨rfl,rfl⟩
  | own es=>
   have hm:=uf h hs hS cz hat (show kids a (.own es)=some _ from rfl);rw[XA rfl];simp only[fQ,oP,fq,hm];exact⟨rfl,rfl⟩
theorem XE (h:Reads a fc t nodes data)(hs:bG nodes data)(hS:Sound a)(cz:bu a 5 t){r:List ByteArray}(hG:Good r.reverse):
  (gK a t r).1=(fA nodes (aj r.reverse)).2/\(gK a t r).2.map (·.1)=(fA nodes (aj r.reverse)).1:=by
 have hv:=hG.val;have hw:=oz h hs r hv;rw[UO hG,<-hw];unfold gK;simp only;by_cases h0:(bK a t r).1≠0
 ·rw[aL h0,aL h0];exact⟨rfl,rfl⟩
 ·rw[ay h0,ay h0]
  have hat:=rZ (Decidable.not_not.1 h0);obtain⟨c,hc⟩:∃c,c=(bK a t r).2:=⟨_,rfl⟩;rw[<-hc] at hat ⊢;have kR:gV a fc t r.reverse=some (nd a fc c):=by unfold gV;rw[hat];rfl
  cases hk:kids a c with
  | none=>
   rw[vX hk,aL (fun h2=>?_)]
   ·exact⟨rfl,rfl⟩
   ·have:=(h.ue hs hv).1 h2
    rw[kR,Option.some.injEq] at this;obtain⟨ks,e⟩:=pZ this;rw[hk] at e;cases e
  | some ks=>
   rw[rY hk,ay (fun h2=>h2 ((h.ue hs hv).2 (by
    rw[kR];cases hn:nd a fc c with
    | dir=>rfl
    | file d=>rw[nY hn] at hk;cases hk)))]
   exact⟨rfl,Ex h hs hS cz hat hk⟩
end
theorem JP (t:Nat)(l m:List ByteArray)(hl:Good l)(hm:Good m)(h0:l = []\/m = [])(w:World):
  Calls prog 72 #[.pointer (some ⟨t,0,none⟩),.agg (av l),.agg (av m)] w fun e w'=>e=.returned (.int .i64 9)/\Below w.heap.size w w':=by
 have bB:=fun W=>eM W;have Ah:∀W,(Op.equalIn 10000 147 (bn l) (bn [])).run prog W=.ok (decide (l = [])) W:=fun W=>fB hl Good.nil W;have vU:∀W,(Op.equalIn 10000 147 (bn m) (bn [])).run prog W=.ok (decide (m = [])) W:=fun W=>fB hm Good.nil W;obtain⟨s0,s1,s2,s3,s4,hP⟩:∃s0 s1 s2 s3 s4,av l = #[.string s0,.string s1,.string s2,.string s3,.string s4]:=⟨_,_,_,_,_,rfl⟩;obtain⟨d0,d1,d2,d3,d4,hQ⟩:∃s0 s1 s2 s3 s4,av m = #[.string s0,.string s1,.string s2,.string s3,.string s4]:=⟨_,_,_,_,_,rfl⟩;unfold bn at bB Ah vU;simp only[hP,hQ] at Ah vU;rw[hP,hQ];unfold av at bB Ah vU;simp only[List.getD_nil] at bB Ah vU;obtain⟨Ej,z0,z1,bz0⟩:=Em w s0 s1 s2 s3 s4 d0 d1 d2 d3 d4;have bz:=Below.refl ((w.alloc (.cells #[.string s0,.string s1,.string s2,.string s3,.string s4] 147)).alloc (.cells #[.string d0,.string d1,.string d2,.string d3,.string d4] 147)).drew.heap.size ((w.alloc (.cells #[.string s0,.string s1,.string s2,.string s3,.string s4] 147)).alloc (.cells #[.string d0,.string d1,.string d2,.string d3,.string d4] 147)).drew;have HZ:Hid _:=And.intro z0 (And.intro z1 bz0);clear z0 z1 bz0 hP hQ hl hm;by_cases e1:l = []
 ·rw[decide_eq_true e1] at Ah
  generalize decide (m = [])=b2 at vU;go_enter func72,ntmps72;go_wp2
  go_region_with (first | (go_at_call 75;refine (bB _).mono ?_;rintro e w1 ⟨rfl,hb1⟩;replace bz:=aq bz hb1;obtain⟨y0,y1,y2,y3,y4,y5,y6,y7,y8,y9⟩:=Ej.below bz HZ.out.1 HZ.out.2.1))
  all_goals
   go_wp2;go_ret;exact⟨rfl,aq HZ.out.2.2 bz⟩
 ·have e2:m = []:=h0.resolve_left e1
  rw[dY e1] at Ah;rw[decide_eq_true e2] at vU;go_enter func72,ntmps72;go_wp2
  go_region_held3 (fun w'=>w'.cell? ⟨w.heap.size,0,none⟩=some (.string s0)/\w'.cell? ⟨w.heap.size,1,none⟩=some (.string s1)/\w'.cell? ⟨w.heap.size,2,none⟩=some (.string s2)/\w'.cell? ⟨w.heap.size,3,none⟩=some (.string s3)/\w'.cell? ⟨w.heap.size,4,none⟩=some (.string s4)/\w'.cell? ⟨w.heap.size+1,0,none⟩=some (.string d0)/\w'.cell? ⟨w.heap.size+1,1,none⟩=some (.string d1)/\w'.cell? ⟨w.heap.size+1,2,none⟩=some (.string d2)/\w'.cell? ⟨w.heap.size+1,3,none⟩=some (.string d3)/\w'.cell? ⟨w.heap.size+1,4,none⟩=some (.string d4)) (first | exact Ej | exact hS1) (first | (go_at_call 75;refine (bB _).mono ?_;rintro e w1 ⟨rfl,hb1⟩;replace bz:=aq bz hb1;have hS1:=Ej.below bz HZ.out.1 HZ.out.2.1))
  all_goals
   go_wp2;go_ret;exact⟨rfl,aq HZ.out.2.2 bz⟩
theorem eF (l:List ByteArray):bV l=aj l:=gy (by rw[gZ];rfl)
theorem Gi {S:ByteArray}(h:(aG S).2=true):Good (aG S).1:=by
 unfold aG at h ⊢;split
 ·exact Good.nil
 ·rename_i h0
  rw[ay h0] at h;split
  ·rename_i hv
   rw[aL hv] at h;exact⟨hv,of_decide_eq_true h⟩
  ·rename_i hv
   rw[ay hv] at h;cases h
theorem mz {S:ByteArray}(hS:S.size<=maxLen):((aG S).2=false/\mo S)\/∃l,Good l/\S=aj l:=by
 cases hs:(aG S).2 with
 | false=>
  refine .inl ⟨rfl,fun W=>QG S hS (fun l hl e=>?_) W⟩;rw[e,eF,gu hl] at hs;cases hs
 | true=>exact .inr ⟨_,Gi hs,(Cp hs).symm⟩
theorem sg (l:List ByteArray):l = []\/∃(n:ByteArray) (r:List ByteArray),l=r.reverse ++ [n]:=by
 cases h:l.reverse with
 | nil=>exact .inl (List.reverse_eq_nil_iff.1 h)
 | cons n r=>exact .inr ⟨n,r,by rw[<-List.reverse_cons,<-h,List.reverse_reverse]⟩
def MA (s i p:Nat)(B:WB)(ag:List Ob)(tg:aP)(w w':World)(g:WG)(lim:Nat)(nodes:List aK)(data:List ByteArray):Prop:=
 ∃aC g' t',az (Mine i) tg aC w w'/\kj aC w' s i p B ag g' lim t'/\g'.fs.brk=false/\(∃l,g'.fs.got=g.fs.got++l/\∀x,l.count x+g.fs.kn x=g'.fs.kn x)/\dI ag t'/\Reads ag (ko ag g'.fl) t' nodes data/\bG nodes data
section
variable {s i p:Nat}{B:WB}{ag:List Ob}{tg:aP}{w:World}{g:WG}{lim:Nat}{t:LT}{nodes:List aK}{data:List ByteArray}
theorem nr {w':World}(h:kj tg w s i p B ag g lim t)(hb:g.fs.brk=false)(hi:dI ag t)(hR:Reads ag (ko ag g.fl) t nodes data)(hs:bG nodes data)(hbl:Below w.heap.size w w'):MA s i p B ag tg w w' g (lim+400) nodes data:=
 ⟨tg,g,t,az.aM hbl,(h.below hbl).mono (by omega),hb,⟨[],by simp,fun x=>by simp⟩,hi,hR,hs⟩
theorem xP {w':World}{fs':FS}{tn:LT}{kr:List aK}(h:Qs s i p B ag tg w w' (lim+400) (yQ g fs' tn))(hb:g.fs.brk=false)(hN:g.fs.Next fs')(hi:dI ag tn)(hR:Reads ag (ko ag g.fl) tn kr data)(hs:bG kr data):MA s i p B ag tg w w' g (lim+400) kr data:=by
 obtain⟨aC,g',t',m,hQ,rfl,h2,h3,h4⟩:=h;refine⟨aC,g',t',m,hQ,by rw[h2,hN.1];exact hb,by rw[h2];exact hN.2.2.1,hi,by rw[h3];exact hR,hs⟩
theorem qT {β:Type}{fs fs':FS}{x all none:β}(h:Fair fs fs' x all none)(hb:fs.brk=false):fs.Next fs'/\x=all:=by
 rcases h with h | ⟨h,_⟩
 ·exact h
 ·rw[h.1] at hb;cases hb
theorem XF (h:kj tg w s i p B ag g lim t)(hl:lim+1000<1099511627776)(hb:g.fs.brk=false)(hi:dI ag t)(hX:Exact ag)(hR:Reads ag (ko ag g.fl) t nodes data)(hs:bG nodes data)(S:ByteArray)(hS:S.size<=maxLen):
  Calls prog 31 #[.pointer (some ⟨B.wb,0,none⟩),.string S] w fun e w'=>e=.returned (.int .i64 (dw nodes S).2)/\MA s i p B ag tg w w' g (lim+400) (dw nodes S).1 data:=by
 obtain⟨xV,c0,_⟩:=h.ws;rcases mz hS with ⟨hf,hn⟩ | ⟨l,hG,rfl⟩
 ·have e:dw nodes S=(nodes,1):=by unfold dw;rw[aL hf]
  rw[e];exact (QH B.wb S w hn).mono fun e w' ⟨he,hbl⟩=>⟨he,nr h hb hi hR hs hbl⟩
 ·rcases sg l with rfl | ⟨n,r,rfl⟩
  ·have e:dw nodes (aj [])=(nodes,6):=by unfold dw;rw[gu Good.nil];rfl
   rw[e,<-eF];exact (Jo B.wb B.bt [] Good.nil 6 (fun w'=>Below w.heap.size w w') w xV c0 (fun W TD=>(LN B.bt W).mono fun e w' ⟨he,hbl⟩=>⟨he,TD.trans (hbl.mono TD.size)⟩)).mono fun e w' ⟨he,hbl⟩=>⟨he,nr h hb hi hR hs hbl⟩
  ·obtain⟨hN,hE⟩:=qT (KN ag t g.fs (n :: r)) hb
   obtain⟨r1,r2,r3⟩:=UK hR hs hX.sound h.ok hG;rw[<-eF];refine (aaD h hl hG).mono fun e w' ⟨he,hq⟩=>⟨?_,?_⟩
   ·rw[he,eF,<-r1,hE]
   ·rw[eF]
    exact xP hq hb hN (Qx hX.sound h.ok hi g.fs n r) (by rw[hE];exact r2) r3
theorem UQ (h:kj tg w s i p B ag g lim t)(hl:lim+1000<1099511627776)(hb:g.fs.brk=false)(hi:dI ag t)(hX:Exact ag)(hR:Reads ag (ko ag g.fl) t nodes data)(hs:bG nodes data)(S:ByteArray)(hS:S.size<=maxLen):
  Calls prog 32 #[.pointer (some ⟨B.wb,0,none⟩),.string S] w fun e w'=>e=.returned (.int .i64 (cH nodes S).2)/\MA s i p B ag tg w w' g (lim+400) (cH nodes S).1 data:=by
 obtain⟨xV,c0,_⟩:=h.ws;rcases mz hS with ⟨hf,hn⟩ | ⟨l,hG,rfl⟩
 ·have e:cH nodes S=(nodes,1):=by unfold cH;rw[aL hf]
  rw[e];exact (Ms B.wb S w hn).mono fun e w' ⟨he,hbl⟩=>⟨he,nr h hb hi hR hs hbl⟩
 ·rcases sg l with rfl | ⟨n,r,rfl⟩
  ·have e:cH nodes (aj [])=(nodes,9):=by unfold cH;rw[gu Good.nil];rfl
   rw[e,<-eF];exact (En B.wb B.bt [] Good.nil 9 (fun w'=>Below w.heap.size w w') w xV c0 (fun W TD=>(Jc B.bt W).mono fun e w' ⟨he,hbl⟩=>⟨he,TD.trans (hbl.mono TD.size)⟩)).mono fun e w' ⟨he,hbl⟩=>⟨he,nr h hb hi hR hs hbl⟩
  ·obtain⟨hN,hE⟩:=qT (Ia ag t g.fs (n :: r)) hb
   obtain⟨r1,r2,r3⟩:=QM hR hs hX.sound h.ok hG;rw[<-eF];refine (Xk h hl hG).mono fun e w' ⟨he,hq⟩=>⟨?_,?_⟩
   ·rw[he,eF,<-r1,hE]
   ·rw[eF]
    exact xP hq hb hN (Mh hX.sound h.ok hi g.fs n r) (by rw[hE];exact r2) r3
theorem zR {S T:ByteArray}(h:(aG S).2=false\/(aG T).2=false):cU nodes S T=(nodes,1):=by unfold cU;rw[aL h]
theorem Gj {l m:List ByteArray}(hl:Good l)(hm:Good m)(h:l = []\/m = []):cU nodes (aj l) (aj m)=(nodes,9):=by
 unfold cU;rw[gu hl,gu hm];simp only;rw[ay (by simp),aL (by rcases h with rfl | rfl <;> simp)]
theorem UR (h:kj tg w s i p B ag g lim t)(hl:lim+1000<1099511627776)(hb:g.fs.brk=false)(hi:dI ag t)(hX:Exact ag)(hR:Reads ag (ko ag g.fl) t nodes data)(hs:bG nodes data)(S T:ByteArray)(hS:S.size<=maxLen)(hT:T.size<=maxLen):
  Calls prog 33 #[.pointer (some ⟨B.wb,0,none⟩),.string S,.string T] w fun e w'=>e=.returned (.int .i64 (cU nodes S T).2)/\MA s i p B ag tg w w' g (lim+400) (cU nodes S T).1 data:=by
 obtain⟨xV,c0,_⟩:=h.ws;rcases mz hS with ⟨hf,hn⟩ | ⟨l,hG,rfl⟩
 ·rw[zR (.inl hf)]
  exact (JD B.wb S T w hn).mono fun e w' ⟨he,hbl⟩=>⟨he,nr h hb hi hR hs hbl⟩
 ·rcases mz hT with ⟨hf,hn⟩ | ⟨m,hH,rfl⟩
  ·rw[zR (.inr hf),<-eF]
   exact (JE B.wb l hG T w hn).mono fun e w' ⟨he,hbl⟩=>⟨he,nr h hb hi hR hs hbl⟩
  ·by_cases h0:l = []\/m = []
   ·rw[Gj hG hH h0,<-eF,<-eF]
    exact (Eo B.wb B.bt l m hG hH 9 (fun w'=>Below w.heap.size w w') w xV c0 (fun W TD=>(JP B.bt l m hG hH h0 W).mono fun e w' ⟨he,hbl⟩=>⟨he,TD.trans (hbl.mono TD.size)⟩)).mono fun e w' ⟨he,hbl⟩=>⟨he,nr h hb hi hR hs hbl⟩
   ·rcases sg l with rfl | ⟨n,r,rfl⟩
    ·exact absurd (.inl rfl) h0
    ·rcases sg m with rfl | ⟨n',r',rfl⟩
     ·exact absurd (.inr rfl) h0
     ·obtain⟨hN,hE⟩:=qT (Ib ag t g.fs (n :: r) (n' :: r')) hb
      obtain⟨r1,r2,r3⟩:=QO hR hs hX h.ok hG hH;rw[<-eF,<-eF];refine (Xl h hl hG hH).mono fun e w' ⟨he,hq⟩=>⟨?_,?_⟩
      ·rw[he,eF,eF,<-r1,hE]
      ·rw[eF,eF]
       exact xP hq hb hN (Mi hX.sound h.ok hi g.fs n n' r r') (by rw[hE];exact r2) r3
theorem aaR (h:kj tg w s i p B ag g lim t)(hl:lim+1000<1099511627776)(hb:g.fs.brk=false)(hi:dI ag t)(hX:Exact ag)(hk:t.kind=2)(hR:Reads ag (ko ag g.fl) t nodes data)(hs:bG nodes data)(S:ByteArray)(hS:S.size<=maxLen):
  Calls prog 67 #[.pointer (some ⟨B.wb,0,none⟩),.string S] w fun e w'=>e=.returned (.tuple #[.agg #[.int .i64 (ja nodes data S).1.1,.int .i64 (ja nodes data S).1.2],.int .i64 (ja nodes data S).2])/\MA s i p B ag tg w w' g (lim+400) nodes data:=by
 rcases mz hS with ⟨hf,hn⟩ | ⟨l,hG,rfl⟩
 ·have e:ja nodes data S=((0,0),1):=by unfold ja;rw[aL hf]
  rw[e];exact (UE B.wb S w hn).mono fun e w' ⟨he,hbl⟩=>⟨he,nr h hb hi hR hs hbl⟩
 ·obtain⟨r,rfl⟩:∃r:List ByteArray,l=r.reverse:=⟨l.reverse,by simp⟩
  obtain⟨hN,hE⟩:=qT (OU ag g.fl t g.fs r) hb;obtain⟨r1,r2⟩:=XD g.fl hR hs hX.sound h.ok hk hG;rw[<-eF];refine (aeb h hl hG).mono fun e w' ⟨he,hq⟩=>⟨?_,xP hq hb hN hi hR hs⟩;rw[he,eF,<-r1,<-r2,hE]
theorem XG {W:World}{b:Nat}{es:List aK}(h:tW W b es es.length)(hn:es.length<=16):W.ownsRow 0 9 1 (.slice (some ⟨b,0,none⟩) es.length es.length) es.length (gM (es.map (·.1))):=by
 obtain⟨cs,h1,h2⟩:=h.blk;refine⟨by simp[gM],.inr ⟨b,es.length,cs,rfl,dG _,h1,bA _,by unfold maxLen;omega,by rw[h2,Nat.mul_one],?_⟩⟩;apply List.ext_getElem?;intro k;by_cases hk:k<es.length
 ·have hc:=h.nms k hk hk
  rw[List.getElem?_take,aL (by omega)];simp only[World.cell?,h1] at hc;have hc':cs[k]? = some (.string es[k].1):=by simpa using hc
  rw[Array.getElem?_toList,hc'];simp[gM,hk]
 ·rw[List.getElem?_take,ay (by omega),List.getElem?_eq_none (by simp[gM];omega)]
theorem aaS (h:kj tg w s i p B ag g lim t)(hl:lim+1000<1099511627776)(hb:g.fs.brk=false)(hi:dI ag t)(hX:Exact ag)(hR:Reads ag (ko ag g.fl) t nodes data)(hs:bG nodes data)(S:ByteArray)(hS:S.size<=maxLen):
  Calls prog 68 #[.pointer (some ⟨B.wb,0,none⟩),.string S] w fun e w'=>∃a c,e=.returned (.tuple #[.slice a (fA nodes S).1.length c,.int .i64 (fA nodes S).2])/\w'.ownsRow 0 9 1 (.slice a (fA nodes S).1.length c) (fA nodes S).1.length (gM (fA nodes S).1)/\
   ∃aC g' t',az (Mine i) tg aC w w'/\kj aC w' s i p B ag g' (lim+400) t'/\g'.fs.brk=false/\(∃l,g'.fs.got=g.fs.got++l/\∀x,l.count x+g.fs.kn x=g'.fs.kn x)/\dI ag t'/\Reads ag (ko ag g'.fl) t' nodes data/\(fA nodes S).1.length<=16/\∀b,(Value.slice a (fA nodes S).1.length c).ownBlock=some b->w.heap.size<=b/\aC b=(0,0):=by
 rcases mz hS with ⟨hf,hn⟩ | ⟨l,hG,rfl⟩
 ·have e:fA nodes S=([],1):=by unfold fA;rw[aL hf]
  rw[e];exact (UD B.wb S w hn).mono fun e w' ⟨he,hbl⟩=>⟨none,0,he,World.ownsRow_nil _ _ _ _,tg,g,t,az.aM hbl,(h.below hbl).mono (by omega),hb,⟨[],by simp,fun x=>by simp⟩,hi,hR,dG _,fun b hb=>by cases hb⟩
 ·obtain⟨r,rfl⟩:∃r:List ByteArray,l=r.reverse:=⟨l.reverse,by simp⟩
  obtain⟨hN,hE⟩:=qT (yu ag t g.fs r) hb;rw[kX] at hE;obtain⟨r1,r2⟩:=XE hR hs hX.sound h.ok hG;have hlen:(gK ag t r).2.length=(fA nodes (aj r.reverse)).1.length:=by rw[<-r2,List.length_map]
  have jS:(gK ag t r).2.length<=16:=by
   by_cases h0:(gK ag t r).1=0
   ·obtain⟨d,ha,hk⟩:=tX h0
    exact (cr hX.sound (dN hX.sound _ h.ok ha).2.1 hk).2.1
   ·have:(gK ag t r).2 = []:=by
     unfold gK at h0 ⊢;simp only at h0 ⊢;split
     ·rfl
     ·rename_i h1
      rw[ay h1] at h0;cases hc:(bK ag t r).2 <;> rw[hc] at h0 <;> first | rfl | exact absurd rfl h0
    rw[this];exact dG _
  rw[<-eF];refine (aaK h hl hG).mono ?_;rintro e w' ⟨v,he,aC,m,hQ,hL⟩;rw[hE] at he hL;rw[eF];have kE:∀a c,(∀b,(Value.slice a (fA nodes (aj r.reverse)).1.length c).ownBlock=some b->w.heap.size<=b/\aC b=(0,0))->∃aC g' t',az (Mine i) tg aC w w'/\kj aC w' s i p B ag g' (lim+400) t'/\g'.fs.brk=false/\(∃l,g'.fs.got=g.fs.got++l/\∀x,l.count x+g.fs.kn x=g'.fs.kn x)/\dI ag t'/\Reads ag (ko ag g'.fl) t' nodes data/\(fA nodes (aj r.reverse)).1.length<=16/\∀b,(Value.slice a (fA nodes (aj r.reverse)).1.length c).ownBlock=some b->w.heap.size<=b/\aC b=(0,0):=
   fun a c Vk=>⟨aC,_,t,m,hQ,by rw[show ({ g with fs:=(cA ag t g.fs r).1 }:WG).fs.brk=(cA ag t g.fs r).1.brk from rfl,hN.1];exact hb,hN.2.2.1,hi,hR,by rw[<-hlen];exact jS,Vk⟩
  rcases hL with ⟨h0,rfl⟩ | ⟨h0,b,rfl,sA,hbt,hbn⟩
  ·have hnil:(fA nodes (aj r.reverse)).1 = []:=by
    rw[<-r2]
    have:(gK ag t r).2 = []:=by
     unfold gK at h0 ⊢;simp only at h0 ⊢;split
     ·rfl
     ·rename_i h1
      rw[ay h1] at h0;cases hc:(bK ag t r).2 <;> rw[hc] at h0 <;> first | rfl | exact absurd rfl h0
    rw[this];rfl
   refine⟨none,0,by rw[he,<-r1,hnil];rfl,by rw[hnil];exact World.ownsRow_nil _ _ _ _,kE none 0 (fun b hb=>by cases hb)⟩
  ·refine⟨some ⟨b,0,none⟩,(fA nodes (aj r.reverse)).1.length,by rw[he,<-r1,hlen],?_,kE _ _ (fun b' hb'=>?_)⟩
   ·have:=XG (es:=(gK ag t r).2.map cK) (by rw[List.length_map];exact sA) (by rw[List.length_map];exact jS)
    rw[List.length_map,hlen,List.map_map,show ((fun x:aK=>x.1) ∘ cK)=(fun x:ByteArray×LT=>x.1) from rfl,r2] at this;exact this
   ·simp only[Value.ownBlock,Option.some.injEq] at hb'
    subst hb';exact⟨hbn,hbt⟩
end
def ndK:Nd->Int
 | .dir=>2
 | .file _=>1
theorem aaT (a:List Ob)(fc:e7)(t:LT):ndK (nd a fc t)=t.kind:=by cases t <;> rfl
def Oa (q:List ByteArray)(x:Nd):Gc:=(bV q,ndK x,ndD x)
def bZ (a:List Ob)(fc:e7):Nat->List ByteArray->LT->List (List ByteArray×Nd)
 | 0,_,_=>[]
 | n+1,q,c=>((kids a c).getD []).flatMap fun x=>(q ++ [x.1],nd a fc x.2) :: (if x.2.kind=2 then bZ a fc n (q ++ [x.1]) x.2 else [])
theorem zS {a:List Ob}{fc:e7}:∀(n:Nat) (q:List ByteArray) (t:LT),nT a fc n q t=(bZ a fc n q t).map fun x=>Oa x.1 x.2
 | 0,q,t=>rfl
 | n+1,q,t=>by
  rw[nT,bZ,List.map_flatMap]
  congr 1
  funext x
  rw[List.map_cons]
  unfold Oa
  rw[aaT]
  split
  ·rw[zS n (q ++ [x.1]) x.2];rfl
  ·rfl
theorem yV {a:List Ob}{fc:e7}:∀(n:Nat) (q:List ByteArray) (t:LT) z,z ∈ bZ a fc n q t->∃y,y ≠ []/\z.1=q++y
 | 0,q,t,z,h=>by cases h
 | n+1,q,t,z,h=>by
  rw[bZ] at h
  obtain⟨x,hx,h⟩:=List.mem_flatMap.1 h
  rcases List.mem_cons.1 h with rfl | h
  ·exact⟨[x.1],by simp,rfl⟩
  ·split at h
   ·obtain⟨y,hy,e⟩:=yV n (q ++ [x.1]) x.2 z h
    exact⟨x.1 :: y,by simp,by rw[e,List.append_assoc];rfl⟩
   ·cases h
theorem Cv {a:List Ob}(hS:Sound a){fc:e7}:∀(n:Nat) (q:List ByteArray) (t:LT),bu a n t->(bZ a fc n q t).Pairwise fun x y=>¬y.1 <+: x.1
 | 0,q,t,_=>List.Pairwise.nil
 | n+1,q,t,ht=>by
  rw[bZ]
  by_cases hk:t.kind=2
  ·obtain⟨ks,yT⟩:=qP (a:=a) hk
   obtain⟨hr,_,Fk⟩:=cr hS ht yT
   rw[yT,Option.getD_some,List.pairwise_flatMap]
   refine⟨fun x hx=>?_,?_⟩
   ·obtain⟨m,e,o⟩:=(Fk x hx).2
    have e':m=n:=by omega
    subst e'
    refine List.pairwise_cons.2 ⟨fun z hz hp=>?_,?_⟩
    ·split at hz
     ·obtain⟨y,hy,e⟩:=yV m (q ++ [x.1]) x.2 z hz
      rw[e] at hp
      have:=hp.length_le
      rw[List.length_append] at this
      have:0<y.length:=List.length_pos_iff.2 hy
      simp only at *
      omega
     ·cases hz
    ·split
     ·exact Cv hS m (q ++ [x.1]) x.2 o
     ·exact List.Pairwise.nil
   ·refine List.Pairwise.imp ?_ hr
    intro x1 x2 hlt z1 hz1 z2 hz2 hp
    have key:∀(x:ByteArray×LT) z,z ∈ ((q ++ [x.1],nd a fc x.2) :: (if x.2.kind=2 then bZ a fc n (q ++ [x.1]) x.2 else []))->∃y,z.1=q++x.1 :: y:=by
     intro x z hz;rcases List.mem_cons.1 hz with rfl | hz
     ·exact⟨[],rfl⟩
     ·split at hz
      ·obtain⟨y,hy,e⟩:=yV n (q ++ [x.1]) x.2 z hz
       exact⟨y,by rw[e,List.append_assoc];rfl⟩
      ·cases hz
    obtain⟨y1,e1⟩:=key x1 z1 hz1;obtain⟨y2,e2⟩:=key x2 z2 hz2;rw[e1,e2,List.prefix_append_right_inj,List.cons_prefix_cons] at hp;rw[hp.1,jd] at hlt;omega
  ·rw[mm hk];exact List.Pairwise.nil
theorem Cw {a:List Ob}(hS:Sound a){fc:e7}{t:LT}(ht:bu a 5 t){y:List ByteArray}{x:Nd}:(y,x) ∈ bZ a fc 5 [] t↔y ≠ []/\gV a fc t y=some x:=by
 have key:∀(n:Nat) (q:List ByteArray) (t:LT),bu a n t->∀z,z ∈ bZ a fc n q t ↔ ∃y x,y ≠ []/\gV a fc t y=some x/\z=(q++y,x):=by
  intro n
  induction n with
  | zero=>
   intro q t ht z;rw[bZ];constructor
   ·intro h;cases h
   ·rintro ⟨y,x,hy,hs,_⟩
    unfold gV at hs;obtain⟨c,hc,_⟩:=Option.map_eq_some_iff.1 hs
    have:=(dN hS _ ht hc).1
    exact absurd (List.length_eq_zero_iff.1 (by omega)) hy
  | succ n ih=>
   intro q t ht z;rw[bZ];by_cases hk:t.kind=2
   ·obtain⟨ks,yT⟩:=qP (a:=a) hk
    obtain⟨hr,_,Fk⟩:=cr hS ht yT;rw[yT,Option.getD_some,List.mem_flatMap];have EB:∀w ∈ ks,aS ks w.1=some w.2:=fun w hw=>by
     obtain⟨k,hk,rfl⟩:=List.getElem_of_mem hw;exact DM hr hk
    constructor
    ·rintro ⟨w,hw,hz⟩
     obtain⟨m,e,o⟩:=(Fk w hw).2;have e':m=n:=by omega
     subst e';rcases List.mem_cons.1 hz with hz | hz
     ·exact⟨[w.1],nd a fc w.2,by simp,by rw[fe,yT,Option.bind_some,EB w hw,Option.bind_some,gY],hz⟩
     ·split at hz
      ·obtain⟨y,x,hy,hs,e⟩:=(ih (q ++ [w.1]) w.2 o z).1 hz
       exact⟨w.1 :: y,x,by simp,by rw[fe,yT,Option.bind_some,EB w hw,Option.bind_some];exact hs,by rw[e,List.append_assoc];rfl⟩
      ·cases hz
    ·rintro ⟨y,x,hy,hs,e⟩
     cases y with
     | nil=>exact absurd rfl hy
     | cons b y=>
      rw[fe,yT,Option.bind_some] at hs;obtain⟨c,hc,hs⟩:=Option.bind_eq_some_iff.1 hs;have mS:∃w ∈ ks,w.1=b/\w.2=c:=by
       unfold aS at hc;obtain⟨w,hw,e2⟩:=Option.map_eq_some_iff.1 hc;exact⟨w,List.mem_of_find?_eq_some hw,by simpa using List.find?_some hw,e2⟩
      obtain⟨w,hw,rfl,rfl⟩:=mS;obtain⟨m,e1,o⟩:=(Fk w hw).2;have e':m=n:=by omega
      subst e';refine⟨w,hw,?_⟩;cases y with
      | nil=>
       rw[gY] at hs;rw[e,<-Option.some.inj hs];exact List.mem_cons_self ..
      | cons b2 y=>
       refine List.mem_cons_of_mem _ ?_;have hk2:w.2.kind=2:=by
        by_cases h2:w.2.kind=2
        ·exact h2
        ·rw[fe,mm h2] at hs;cases hs
       rw[aL hk2];exact (ih (q ++ [w.1]) w.2 o z).2 ⟨b2 :: y,x,by simp,hs,by rw[e,List.append_assoc];rfl⟩
   ·rw[mm hk]
    constructor
    ·intro h;cases h
    ·rintro ⟨y,x,hy,hs,_⟩
     cases y with
     | nil=>exact absurd rfl hy
     | cons b y=>rw[fe,mm hk] at hs;cases hs
 rw[key 5 [] t ht];constructor
 ·rintro ⟨y',x',hy,hs,e⟩
  cases e;exact⟨hy,hs⟩
 ·rintro ⟨hy,hs⟩
  exact⟨y,x,hy,hs,rfl⟩
section
variable {a b:List Ob}{fc fu:e7}{t u:LT}
end
abbrev St:=List aK×List ByteArray
def jP (path name:ByteArray):ByteArray:=if path.toList = [] then name else path++⟨#[47]⟩++name
def vZ (au:List Ob)(i:Int):ByteArray:=((au[i.toNat]?).map (fun o:Ob=>o.data)).getD ⟨#[]⟩
def AH (au:List Ob)(i:Nat):List aK:=((au[i]?).map (fun o:Ob=>o.aV)).getD []
def dX (au:List Ob)(rec:Nat->ByteArray->St->St)(path:ByteArray)(st:St)(e:aK):St:=
 if e.2.1=1 then (st.1 ++ [(jP path e.1,1,(st.2.length:Int))],st.2 ++ [vZ au e.2.2]) else rec e.2.2.toNat (jP path e.1) (st.1 ++ [(jP path e.1,2,0)],st.2)
def gO (au:List Ob):Nat->Nat->ByteArray->St->St
 | 0,_,_,st=>st
 | fuel+1,at_,path,st=>(AH au at_).foldl (dX au (gO au fuel) path) st
def o8 (a b:St):Prop:=a.1.length<=b.1.length/\a.2.length<=b.2.length
theorem o8.trans {a b c:St}(h:o8 a b)(k:o8 b c):o8 a c:=⟨eU h.1 k.1,eU h.2 k.2⟩
theorem vh (au:List Ob)(rec:Nat->ByteArray->St->St)(hr:∀i p st,o8 st (rec i p st))(path:ByteArray)(st:St)(e:aK):o8 st (dX au rec path st e):=by
 unfold dX;split
 ·exact⟨by simp,by simp⟩
 ·have:=hr e.2.2.toNat (jP path e.1) (st.1 ++ [(jP path e.1,2,0)],st.2)
  exact⟨eU (by simp) this.1,this.2⟩
theorem wh (au:List Ob)(rec:Nat->ByteArray->St->St)(hr:∀i p st,o8 st (rec i p st))(path:ByteArray):∀(es:List aK) (st:St),o8 st (es.foldl (dX au rec path) st)
 | [],st=>⟨bA _,bA _⟩
 | e :: r,st=>(vh au rec hr path st e).trans (wh au rec hr path r _)
theorem wj (au:List Ob):∀(fuel i:Nat) (p:ByteArray) (st:St),o8 st (gO au fuel i p st)
 | 0,_,_,_=>⟨bA _,bA _⟩
 | fuel+1,i,p,st=>wh au _ (wj au fuel) p _ st
def dJ:Nat->List (List ByteArray×Nd)->List aK
 | _,[]=>[]
 | k,(y,.dir) :: r=>(aj y,2,0) :: dJ k r
 | k,(y,.file d) :: r=>(aj y,1,(k:Int)) :: dJ (k+1) r
def cu:List (List ByteArray×Nd)->List ByteArray
 | []=>[]
 | (_,.dir) :: r=>cu r
 | (_,.file d) :: r=>d :: cu r
theorem uM:∀(L M:List (List ByteArray×Nd)) (k:Nat),dJ k (L++M)=dJ k L++dJ (k+(cu L).length) M
 | [],M,k=>rfl
 | (y,.dir) :: r,M,k=>by
  rw[List.cons_append,dJ,dJ,uM r M k,cu];rfl
 | (y,.file d) :: r,M,k=>by
  rw[List.cons_append,dJ,dJ,uM r M (k+1),cu,List.length_cons,show k+((cu r).length+1)=k+1+(cu r).length by omega];rfl
theorem p7:∀(L M:List (List ByteArray×Nd)),cu (L++M)=cu L++cu M
 | [],M=>rfl
 | (y,.dir) :: r,M=>by rw[List.cons_append,cu,cu,p7 r M]
 | (y,.file d) :: r,M=>by rw[List.cons_append,cu,cu,p7 r M];rfl
theorem yX:∀(L:List (List ByteArray×Nd)) (k:Nat),(dJ k L).length=L.length
 | [],k=>rfl
 | (y,.dir) :: r,k=>by rw[dJ,List.length_cons,List.length_cons,yX r k]
 | (y,.file d) :: r,k=>by rw[dJ,List.length_cons,List.length_cons,yX r (k+1)]
theorem ug:∀(L:List (List ByteArray×Nd)),(cu L).length<=L.length
 | []=>bA _
 | (y,.dir) :: r=>by rw[cu,List.length_cons];exact Nat.le_succ_of_le (ug r)
 | (y,.file d) :: r=>by rw[cu,List.length_cons,List.length_cons];exact Nat.succ_le_succ (ug r)
theorem qa:∀(L:List (List ByteArray×Nd)) (k:Nat),(dJ k L).map (·.1)=L.map fun x=>aj x.1
 | [],k=>rfl
 | (y,.dir) :: r,k=>by rw[dJ,List.map_cons,List.map_cons,qa r k]
 | (y,.file d) :: r,k=>by rw[dJ,List.map_cons,List.map_cons,qa r (k+1)]
theorem qb:∀(L:List (List ByteArray×Nd)) (k:Nat),∀e ∈ dJ k L,(e.2.1=1\/e.2.1=2)/\(e.2.1=1->0<=e.2.2/\e.2.2<((k+(cu L).length:Nat):Int))
 | [],k=>by intro e he;cases he
 | (y,.dir) :: r,k=>by
  intro e he
  rw[dJ] at he
  rcases List.mem_cons.1 he with rfl | he
  ·exact⟨.inr rfl,fun h=>by cases h⟩
  ·rw[cu];exact qb r k e he
 | (y,.file d) :: r,k=>by
  intro e he
  rw[dJ] at he
  rw[cu,List.length_cons]
  rcases List.mem_cons.1 he with rfl | he
  ·exact⟨.inl rfl,fun _=>⟨show (0:Int)<=(k:Int) by omega,show (k:Int)<_ by omega⟩⟩
  ·have:=qb r (k+1) e he
   rw[show k+1+(cu r).length=k+((cu r).length+1) by omega] at this
   exact this
theorem Cx {q:List ByteArray}(hq:aI q):∀(L:List (List ByteArray×Nd)) (ds zs:List ByteArray),(∀x ∈ L,aI x.1)->
  (((dJ ds.length L).find? fun e=>decide (e.1=aj q)).map fun e=>Xz (ds++cu L++zs) e.2)=(L.find? fun x=>decide (x.1=q)).map (·.2)
 | [],ds,zs,_=>rfl
 | (y,.dir) :: r,ds,zs,h=>by
  rw[dJ,List.find?_cons,List.find?_cons]
  have hy:=h _ (List.mem_cons_self ..)
  by_cases e:y=q
  ·subst e
   simp only[decide_true,Option.map_some]
   rfl
  ·have e':¬aj y=aj q:=fun h=>e (dh hy hq h)
   simp only[dY e,dY e']
   exact Cx hq r ds zs (fun x hx=>h x (List.mem_cons_of_mem _ hx))
 | (y,.file d) :: r,ds,zs,h=>by
  rw[dJ,List.find?_cons,List.find?_cons]
  have hy:=h _ (List.mem_cons_self ..)
  by_cases e:y=q
  ·subst e
   simp only[decide_true,Option.map_some,cu]
   have:Xz (ds++d :: cu r++zs) (1,(ds.length:Int))=.file d:=by
    unfold Xz;rw[ay (show ¬(1:Int)=2 by decide)];simp
   rw[this]
  ·have e':¬aj y=aj q:=fun h=>e (dh hy hq h)
   simp only[dY e,dY e']
   have:=Cx hq r (ds ++ [d]) zs (fun x hx=>h x (List.mem_cons_of_mem _ hx))
   rw[List.length_append,List.length_singleton,List.append_assoc ds,List.singleton_append] at this;exact this
theorem Cy {P:List ByteArray}(x:ByteArray)(hP:aI P):jP (aj P) x=aj (P ++ [x]):=by
 apply gy;unfold jP;by_cases h:P = []
 ·subst h
  rw[aL (by rw[gF];exact gZ []),gZ];rfl
 ·have h1:¬(aj P).toList = []:=fun e=>h ((ua hP).1 (by rw[<-cN,<-gF,e];rfl))
  rw[ay h1,oM,oM,gZ,gZ,List.map_append,List.map_singleton,vu _ _ (by simpa using h)];simp[fO]
section
variable {ag au:List Ob}{fc:e7}
theorem Oc (h:Twin ag au){i:Nat}(hi:i<ag.length):∃hr:i<au.length,vE ag[i] au[i]:=⟨by rw[<-h.1];exact hi,h.2.1 i hi (by rw[<-h.1];exact hi)⟩
def thX (ag:List Ob)(fc:e7)(n:Nat)(P:List ByteArray)(x:ByteArray×LT):List (List ByteArray×Nd):=(P ++ [x.1],nd ag fc x.2) :: (if x.2.kind=2 then bZ ag fc n (P ++ [x.1]) x.2 else [])
theorem UT (n:Nat)(P:List ByteArray)(m:ByteArray)(i:Int):thX ag fc n P (m,.file i) = [(P ++ [m],.file (bytesOf ag i))]:=rfl
theorem XH (n:Nat)(P:List ByteArray)(m:ByteArray)(i:Int):thX ag fc n P (m,.dir i)=(P ++ [m],.dir) :: bZ ag fc n (P ++ [m]) (.dir i):=rfl
theorem JQ {fuel n:Nat}{P:List ByteArray}(hP:aI P)(UU:Nat->ByteArray->St->St)
  (Db:∀(e:aK) (st:St),(dg e).2.2.toNat<fuel->aF e.1=true->e.2.1=2->aH ag e.2.2=2->cC ag e.2.2<=n->UU (dg e).2.2.toNat (aj (P ++ [e.1])) st=(st.1++dJ st.2.length (bZ ag fc n (P ++ [e.1]) (.dir e.2.2)),st.2++cu (bZ ag fc n (P ++ [e.1]) (.dir e.2.2))))
  (XI:∀e:aK,aH ag e.2.2=1->vZ au (dg e).2.2=bytesOf ag e.2.2):
  ∀(es:List aK) (st:St),(∀e ∈ es,aF e.1=true/\(e.2.1=1\/e.2.1=2)/\aH ag e.2.2=e.2.1/\cC ag e.2.2<=n/\(dg e).2.2.toNat<fuel)->
   (es.map dg).foldl (dX au UU (aj P)) st=(st.1++dJ st.2.length ((es.map iA).flatMap (thX ag fc n P)),st.2++cu ((es.map iA).flatMap (thX ag fc n P)))
 | [],st,_=>by simp[dJ,cu]
 | e :: r,st,h=>by
  obtain⟨h1,h2,h3,h4,h5⟩:=h e (List.mem_cons_self ..)
  rw[List.map_cons,List.foldl_cons,List.map_cons,List.flatMap_cons]
  have hit:(dg e).1=e.1/\(dg e).2.1=e.2.1:=⟨rfl,rfl⟩
  have ih:=fun st'=>JQ (fuel:=fuel) hP UU Db XI r st' (fun x hx=>h x (List.mem_cons_of_mem _ hx))
  rcases h2 with k | k
  ·have hk:iA e=(e.1,.file e.2.2):=by unfold iA ltOf;rw[ay (by rw[k];decide)]
   have hs:dX au UU (aj P) st (dg e)=(st.1 ++ [(aj (P ++ [e.1]),1,(st.2.length:Int))],st.2 ++ [bytesOf ag e.2.2]):=by
    unfold dX;rw[aL (by rw[hit.2];exact k),hit.1,Cy _ hP,XI e (h3.trans k)]
   rw[hs,ih,hk,UT,uM,p7];simp only[dJ,cu,List.length_append,List.length_cons,List.length_nil,List.append_assoc,List.cons_append,List.nil_append]
  ·have hk:iA e=(e.1,.dir e.2.2):=by unfold iA ltOf;rw[aL k]
   have hs:dX au UU (aj P) st (dg e)=((st.1 ++ [(aj (P ++ [e.1]),2,0)])++dJ st.2.length (bZ ag fc n (P ++ [e.1]) (.dir e.2.2)),st.2++cu (bZ ag fc n (P ++ [e.1]) (.dir e.2.2))):=by
    unfold dX;rw[ay (by rw[hit.2,k];decide),hit.1,Cy _ hP,Db e _ h5 h1 k (h3.trans k) h4]
   rw[hs,ih,hk,XH,uM,p7];simp only[dJ,cu,List.length_append,List.append_assoc,List.cons_append,List.nil_append]
theorem Cz (hT:Twin ag au)(hX:Exact ag)(hB:iM au):∀(n fuel at_:Nat) (P:List ByteArray) (st:St),at_<fuel->aI P->aH ag ((at_:Int)+1)=2->cC ag ((at_:Int)+1)<=n->
  gO au fuel at_ (aj P) st=(st.1++dJ st.2.length (bZ ag fc n P (.dir ((at_:Int)+1))),st.2++cu (bZ ag fc n P (.dir ((at_:Int)+1))))
 | n,0,at_,P,st,h,_,_,_=>absurd h (Nat.not_lt_zero _)
 | n,fuel+1,at_,P,st,h,hP,hk,hh=>by
  have hlt:at_<ag.length:=by
   by_cases hl:at_<ag.length
   ·exact hl
   ·rw[fD (.inr (by omega))] at hk;cases hk
  obtain⟨hr,QS⟩:=Oc hT hlt;have j4:ag[at_].kind=2:=by rw[<-dL hlt];exact hk
  have pO:bR ag ((at_:Int)+1)=ag[at_].aV:=by
   unfold bR;rw[show ((at_:Int)+1-1).toNat=at_ by omega,kO hlt];rfl
  obtain⟨_,_,s3⟩:=hX.sound.2 _ hk;rw[pO] at s3;have he:AH au at_=ag[at_].aV.map dg:=by
   unfold AH;rw[kO hr,Option.map_some,Option.getD_some,QS.aV j4]
  rw[gO,he];have XI:∀e:aK,aH ag e.2.2=1->vZ au (dg e).2.2=bytesOf ag e.2.2:=fun e fM=>by
   obtain⟨p1,p2⟩:=fG (by rw[fM];decide);obtain⟨hr1,ai1⟩:=Oc hT p2;have Wc:ag[(e.2.2-1).toNat].kind=1:=by
    have:=fM
    unfold aH at this;rw[aL p1,kO p2] at this;exact this
   unfold vZ bytesOf dg;rw[kO hr1,kO p2,Option.map_some,Option.map_some,Option.getD_some,Option.getD_some,ai1.data Wc]
  cases n with
  | zero=>
   have:ag[at_].aV = []:=by
    cases hes:ag[at_].aV with
    | nil=>rfl
    | cons e r=>
     have:=(s3 e (by rw[hes];exact List.mem_cons_self ..)).2.2.2
     have:=hX.sound.1 e.2.2
     omega
   rw[this];simp[bZ,dJ,cu]
  | succ n=>
   rw[bZ];simp only[kids,Option.getD_some,pO];refine JQ (fuel:=fuel) hP (gO au fuel) (fun e st' e0 e1 e2 e3 e4=>?_) XI ag[at_].aV st (fun e he=>?_)
   ·obtain⟨p1,p2⟩:=fG (by rw[e3];decide)
    have hx:(((dg e).2.2.toNat:Nat):Int)+1=e.2.2:=by unfold dg;simp only;omega
    have:=Cz hT hX hB n fuel (dg e).2.2.toNat (P ++ [e.1]) st' e0 (hP.append (fun z hz=>by rw[List.mem_singleton.1 hz];exact e1)) (by rw[hx];exact e3) (by rw[hx];exact e4)
    rw[hx] at this;exact this
   ·obtain⟨t1,t2,t3,t4⟩:=s3 e he
    have hb:=hB at_ hr (dg e) (by rw[QS.aV j4];exact List.mem_map_of_mem he);exact⟨t1,t2,t3,by omega,by omega⟩
theorem QT {a:List Ob}(hS:Sound a){fc:e7}{t:LT}(ht:bu a 5 t){q:List ByteArray}(hq:q ≠ []):((bZ a fc 5 [] t).find? fun x=>decide (x.1=q)).map (·.2)=gV a fc t q:=by
 cases hf:(bZ a fc 5 [] t).find? fun x=>decide (x.1=q) with
 | some x=>
  have h1:=List.mem_of_find?_eq_some hf;have h2:x.1=q:=by simpa using List.find?_some hf
  obtain⟨_,h3⟩:=(Cw hS ht).1 (show (x.1,x.2) ∈ _ from h1);rw[h2] at h3;rw[h3];rfl
 | none=>
  cases hs:gV a fc t q with
  | none=>rfl
  | some d=>
   have:=List.find?_eq_none.1 hf _ ((Cw hS ht).2 ⟨hq,hs⟩)
   simp at this
theorem uN {a:List Ob}(hS:Sound a){fc:e7}{t:LT}(ht:bu a 5 t):∀x ∈ bZ a fc 5 [] t,x.1 ≠ []/\aI x.1/\x.1.length<=5:=fun x hx=>by
 obtain⟨h1,h2⟩:=(Cw hS ht).1 (show (x.1,x.2) ∈ _ from hx)
 unfold gV at h2
 cases hat:t.at a x.1 with
 | none=>rw[hat] at h2;cases h2
 | some c=>
  have:=dN hS _ ht hat
  exact⟨h1,this.2.2,this.1⟩
theorem EC {a:List Ob}(hS:Sound a){fc:e7}{t:LT}(ht:bu a 5 t)(hk:t.kind=2):Reads a fc t (dJ 0 (bZ a fc 5 [] t)) (cu (bZ a fc 5 [] t)):=fun q hq=>by
 unfold cB
 by_cases h0:q = []
 ·subst h0
  rw[aL rfl,gY]
  cases t <;> first | rfl | cases hk
 ·rw[ay h0,Option.map_map,<-QT hS ht h0]
  have:=Cx hq (bZ a fc 5 [] t) [] [] (fun x hx=>(uN hS ht x hx).2.1)
  simp only[List.nil_append,List.append_nil,List.length_nil] at this
  rw[<-this]
  rfl
theorem QU {a:List Ob}(hS:Sound a){fc:e7}{t:LT}(ht:bu a 5 t)(hk:t.kind=2):bG (dJ 0 (bZ a fc 5 [] t)) (cu (bZ a fc 5 [] t)):=by
 have hR:=EC (fc:=fc) hS ht hk;have UW:mq (dJ 0 (bZ a fc 5 [] t)):=fun e he=>by
  have hm:e.1 ∈ (dJ 0 (bZ a fc 5 [] t)).map (·.1):=List.mem_map_of_mem he;rw[qa] at hm;obtain⟨x,hx,Hu⟩:=List.mem_map.1 hm;obtain⟨g1,g2,g3⟩:=uN hS ht x hx;exact⟨x.1,g1,g2,g3,Hu.symm⟩
 have Xc:mG (dJ 0 (bZ a fc 5 [] t)):=by
  unfold mG;rw[qa];refine List.pairwise_map.2 ((Cv hS (fc:=fc) 5 [] t ht).imp_of_mem (fun {x y} hx hy Ap e=>Ap ?_))
  have:=dh (uN hS ht x hx).2.1 (uN hS ht y hy).2.1 e
  rw[this];exact List.prefix_refl _
 have Vt:∀l x,aI (l ++ [x])->cB (dJ 0 (bZ a fc 5 [] t)) (l ++ [x])≠none->∃d ks,t.at a l=some d/\kids a d=some ks/\x ∈ ks.map (·.1):=fun l x hv hn=>by
  have h1:gV a fc t (l ++ [x])≠none:=fun e=>hn ((hR.empty hv).2 e);unfold gV at h1;cases hat:t.at a (l ++ [x]) with
  | none=>rw[hat] at h1;exact absurd rfl h1
  | some c=>
   obtain⟨d,ks,h2,h3,h4⟩:=uq hat;exact⟨d,ks,h2,h3,List.mem_map.2 ⟨_,oN h4,rfl⟩⟩
 refine⟨UW,Xc,fun d hd=>?_,fun e he=>(qb _ _ e he).1,fun e he h1=>?_,fun l x hv hn=>?_⟩
 ·cases hi:aT (dJ 0 (bZ a fc 5 [] t)) (aj d) with
  | nil=>simp
  | cons y r=>
   rw[<-hi];have zW:=ud UW Xc hd;have mS:∀z ∈ (aT (dJ 0 (bZ a fc 5 [] t)) (aj d)).map (·.1),aF z=true/\cB (dJ 0 (bZ a fc 5 [] t)) (d ++ [z])≠none:=fun z hz=>by
    obtain⟨e,he,rfl⟩:=List.mem_map.1 hz;obtain⟨x,hx,hn,rfl⟩:=(uJ UW hd).1 he;exact⟨hx,(oy (by simp)).2 hn⟩
   have hval:∀z,aF z=true->aI (d ++ [z]):=fun z hz=>hd.append (fun u hu=>by rw[List.mem_singleton.1 hu];exact hz);obtain⟨h1,h2⟩:=mS y.1 (by rw[hi];exact List.mem_cons_self ..);obtain⟨c,ks,hc,Nz,_⟩:=Vt d y.1 (hval _ h1) h2;have jS:=(cr hS (dN hS d ht hc).2.1 Nz).2.1
   have:=gT zW (ys:=ks.map (·.1)) (fun z hz=>by
    obtain⟨z1,z2⟩:=mS z hz;obtain⟨c',ks',hc',dy,hm⟩:=Vt d z (hval _ z1) z2;rw[hc] at hc';cases hc';rw[Nz] at dy;cases dy;exact hm)
   rw[List.length_map,List.length_map] at this;omega
 ·have:=(qb _ _ e he).2 h1
  rw[Nat.zero_add] at this;exact this
 ·obtain⟨c,ks,hc,Nz,_⟩:=Vt l x hv hn
  have h1:=hR l hv.left;unfold gV at h1;rw[hc,Option.map_some] at h1;cases hl:cB (dJ 0 (bZ a fc 5 [] t)) l with
  | none=>rw[hl] at h1;cases h1
  | some y=>
   rw[hl,Option.map_some,Option.some.injEq] at h1;have hn:nd a fc c=.dir:=by
    cases zW:nd a fc c with
    | dir=>rfl
    | file b=>rw[nY zW] at Nz;cases Nz
   rw[hn,Xz] at h1;split at h1
   ·rename_i h2
    exact⟨y.2,by rw[<-h2]⟩
   ·cases h1
theorem MB {a:List Ob}(hS:Sound a){fc:e7}{t:LT}(ht:bu a 5 t):(bZ a fc 5 [] t).length<=1200000:=by
 have h1:=xJ (fc:=fc) hS 5 [] t ht;rw[zS,List.length_map] at h1;exact eU h1 (by decide)
end
end Go.Proofs.YtlgidcmmgohagaaGreat
