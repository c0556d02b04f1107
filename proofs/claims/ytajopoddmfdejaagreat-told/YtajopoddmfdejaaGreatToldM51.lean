/-
  What is proved here: canopykeep's Told returns true, and what was there stands.
-/
import Derived.Test.YtajopoddmfdejaaGreatToldM50
import Derived.Deep.Cut
import Derived.Deep.CutRange
namespace Go.Proofs.YtajopoddmfdejaaGreat
open Go.RowKit Go.Sort Go.Shelf
set_option linter.unusedVariables false
set_option maxRecDepth 100000
set_option maxHeartbeats 16000000
theorem TdW.old {W wr:World}{s p:Nat}{objs:List Ob}{id:Int}{Bw Bv:WB}{lim N:Nat}(h:TdW W wr s p objs id Bw Bv lim N):Below W.heap.size W wr:=by
 obtain⟨g,t,gv,hM,_⟩:=h
 exact hM.old
theorem TdA1.row {W wr:World}{s p:Nat}{objs:List Ob}{id:Int}{Bw Bv:WB}{lim:Nat}{v:Value}{L:List Thing8}(h:TdA1 W wr s p objs id Bw Bv lim v L):wr.ownsRow 0 40 3 v L.length (flatT L):=by
 obtain⟨g,t,gv,hM,_⟩:=h
 exact hM.row (r:=(v,L)) (List.mem_cons_self ..)
theorem TdA2.row {W wr:World}{s p:Nat}{objs:List Ob}{id:Int}{Bw:WB}{lim:Nat}{v v':Value}{L O:List Thing8}(h:TdA2 W wr s p objs id Bw lim v v' L O):wr.ownsRow 0 40 3 v' O.length (flatT O):=by
 obtain⟨g,t,⟨x,hM⟩,_⟩:=h
 exact hM.row (r:=(v',O)) (List.mem_cons_self ..)
theorem rowC_shape {w:World}{base:Nat}{v:Value}{n:Nat}{xs:List Value}(h:w.ownsRow base 58 2 v n xs):∃ a c,v=.slice a n c:=by
 rcases h.2 with ⟨e,h0⟩ | ⟨g',c',_,e,_⟩
 ·exact⟨none,0,by rw[e,h0]⟩
 ·exact⟨_,_,e⟩
theorem rowC_cells {w:World}{base:Nat}{v:Value}{n:Nat}{L:List Chg8}(h:w.ownsRow base 58 2 v n (flatC L))(hn:n=L.length){k:Nat}(hk:k<L.length):∃ g c,v=.slice (some ⟨g,0,none⟩) n c/\g<w.heap.size/\w.cell? ⟨g,k*2,none⟩=some (.string (L[k]).1)/\w.cell? ⟨g,k*2+1,none⟩=some (.int .i64 (L[k]).2):=by
 obtain⟨g,c,rfl⟩:=slice_of_owns h (by omega)
 have h1:=World.ownsRow.cells h (g:=g) rfl
 have e0:=flatC_get L k 0 hk (by omega)
 have e1:=flatC_get L k 1 hk (by omega)
 refine⟨g,c,rfl,ownsRow_lt h rfl,?_,?_⟩
 ·have:=h1 (k*2) _ e0
  rw[add_plain,Nat.zero_add] at this
  exact this
 ·have:=h1 (k*2+1) _ e1
  rw[add_plain,Nat.zero_add] at this
  exact this
theorem new_cases (O:List Thing8)(x:Thing8):(x.2.1≠1/\newB O x=false)\/(x.2.1=1/\findT O x.1=none/\newB O x=true)\/(x.2.1=1/\(∃ P k d,findT O x.1=some (P,k,d)/\k≠1)/\newB O x=true)\/(x.2.1=1/\(∃ P d,findT O x.1=some (P,1,d)/\d≠x.2.2)/\newB O x=true)\/(x.2.1=1/\(∃ P,findT O x.1=some (P,1,x.2.2))/\newB O x=false):=by
 unfold newB
 by_cases h1:x.2.1=1
 ·rw[decide_eq_true h1,Bool.true_and]
  cases hf:findT O x.1 with
  | none=>exact .inr (.inl ⟨h1,rfl,rfl⟩)
  | some o=>
   obtain⟨P,k,d⟩:=o
   by_cases hk:k=1
   ·subst hk
    by_cases hd:d=x.2.2
    ·exact .inr (.inr (.inr (.inr ⟨h1,⟨P,by rw[hd]⟩,by simp[hd]⟩)))
    ·exact .inr (.inr (.inr (.inl ⟨h1,⟨P,d,rfl,hd⟩,by simp[hd]⟩)))
   ·exact .inr (.inr (.inl ⟨h1,⟨P,k,d,rfl,hk⟩,by simp[hk]⟩))
 ·exact .inl ⟨h1,by rw[decide_eq_false h1,Bool.false_and]⟩
theorem gone_cases (L:List Thing8)(x:Thing8):(x.2.1≠1/\goneB L x=false)\/(x.2.1=1/\findT L x.1=none/\goneB L x=true)\/(x.2.1=1/\(∃ P k d,findT L x.1=some (P,k,d)/\k≠1)/\goneB L x=true)\/(x.2.1=1/\(∃ P d,findT L x.1=some (P,1,d))/\goneB L x=false):=by
 unfold goneB
 by_cases h1:x.2.1=1
 ·rw[decide_eq_true h1,Bool.true_and]
  cases hf:findT L x.1 with
  | none=>exact .inr (.inl ⟨h1,rfl,rfl⟩)
  | some o=>
   obtain⟨P,k,d⟩:=o
   by_cases hk:k=1
   ·subst hk
    exact .inr (.inr (.inr ⟨h1,⟨P,d,rfl⟩,by simp⟩))
   ·exact .inr (.inr (.inl ⟨h1,⟨P,k,d,rfl,hk⟩,by simp[hk]⟩))
 ·exact .inl ⟨h1,by rw[decide_eq_false h1,Bool.false_and]⟩
theorem thing_shape (o:Option Thing8):∃ s k d,thingV o=.agg #[.string s,.int .i64 k,.string d]:=by
 cases o with
 | none=>exact⟨_,_,_,rfl⟩
 | some x=>exact⟨_,_,_,rfl⟩
def fileB:Option Thing8->Bool
 | none=>false
 | some x=>decide (x.2.1=1)
theorem thing_file (o:Option Thing8):∃ s k d,thingV o=.agg #[.string s,.int .i64 k,.string d]/\((o.isSome=false/\fileB o=false)\/(o.isSome=true/\k=1/\fileB o=true)\/(o.isSome=true/\k≠1/\fileB o=false)):=by
 cases o with
 | none=>exact⟨_,_,_,rfl,.inl ⟨rfl,rfl⟩⟩
 | some x=>
  refine⟨_,_,_,rfl,.inr ?_⟩
  by_cases h:x.2.1=1
  ·exact .inl ⟨rfl,h,decide_eq_true h⟩
  ·exact .inr ⟨rfl,h,decide_eq_false h⟩
theorem nofile_b {o:Option Thing8}(h:NoFile o):fileB o=false:=by
 rcases h with rfl | ⟨P,k,d,rfl,hk⟩
 ·rfl
 ·exact decide_eq_false hk
theorem tells_file {fo fl:Option Thing8}{q0 q2 u0 u2:ByteArray}{q1 u1 wh:Int}(hq:thingV fo=.agg #[.string q0,.int .i64 q1,.string q2])(hu:thingV fl=.agg #[.string u0,.int .i64 u1,.string u2])(h:Tells fo fl wh):(wh=2/\fileB fo=true/\fileB fl=true/\q2≠u2)\/(wh=1/\fileB fo=false/\fileB fl=true)\/(wh=3/\fileB fo=true/\fileB fl=false):=by
 rcases h with ⟨rfl,P,Q,d,d',rfl,rfl,hne⟩ | ⟨rfl,hno,Q,d,rfl⟩ | ⟨rfl,⟨P,d',rfl⟩,hno⟩
 ·refine .inl ⟨rfl,rfl,rfl,?_⟩
  simp[thingV] at hq hu
  rw[<- hq.2.2,<- hu.2.2]
  exact hne
 ·exact .inr (.inl ⟨rfl,nofile_b hno,rfl⟩)
 ·exact .inr (.inr ⟨rfl,rfl,nofile_b hno⟩)
theorem filter_len {α:Type}(p:α->Bool)(l:List α){k:Nat}(hk:k<l.length):((l.take (k+1)).filter p).length=((l.take k).filter p).length+(if p l[k] then 1 else 0):=by
 rw[List.take_succ_eq_append_getElem hk,List.filter_append,List.length_append]
 by_cases hp:p l[k]=true
 ·simp[hp]
 ·simp[hp]
theorem bytes_ne {x y:ByteArray}(h:x≠y):(x.toList == y.toList)=false:=by
 cases e:(x.toList == y.toList) with
 | false=>rfl
 | true=>exact absurd (bytes_eq (by simpa using e)) h
theorem bytes_self (x:ByteArray):(x.toList == x.toList)=true:=by simp
theorem told_law (W:World)(a a1:Option Addr)(len cap len1 cap1:Nat)(hS:StepsAt W a len)(hlen:len<=maxLen)(hS1:StepsAt W a1 len1)(hlen1:len1<=maxLen):
  Calls Tryz.prog 5 #[.slice a len cap,.slice a1 len1 cap1] W fun e w'=>e=.returned (.bool true)/\Below W.heap.size W w':=by
 have hmd:=made_walk2 W a len cap hS hlen
 have HS1:Hid _:=hS1
 unfold maxLen at hlen1
 clear hS hS1 hlen
 go_enter Tryz.func5,Tryz.ntmps5
 go_wp2_with fail
 refine Calls.mono hmd ?_
 rintro e w1 ⟨s,p,id,rfl,hM⟩
 obtain⟨objs,hObs,hbig,hm⟩:=many_made2 hM
 have HO:Hid _:=hObs
 have HBG:Hid _:=hbig
 have HW:Hid _:=many_work hm (i:=3) (by decide) (fun x hx=>by cases hx) HO.out.ok
 clear hmd hM hm hObs hbig
 go_wp2_with fail
 refine Calls.mono HW.out ?_
 rintro e w2 ⟨Bw,gw,rfl,hgw,hgb,h2⟩
 have HW2:Hid _:=many_work h2 (i:=4) (by decide) (fun x hx=>by rw[List.mem_singleton.1 hx];show (3:Nat)≠4;decide) HO.out.ok
 have HGB:Hid _:=hgb
 clear HW h2 hgw hgb
 go_wp2_with fail
 refine Calls.mono HW2.out ?_
 rintro e w3 ⟨Bv,gv,rfl,hgv,hgb2,h3⟩
 have HN0:Hid _:=td_begin HBG.out HGB.out h3
 clear HW2 h3 hgv hgb2
 go_wp2
 go_loopw [12] (fun i wr=>∃ k:Nat,k<=90/\i=.int .i64 (k:Int)/\Hid (TdW W wr s p objs id Bw Bv (60000+k*500) (95+k))) (fun i _=>90-(intOf i).toNat)
 case atStart=>exact⟨0,Nat.zero_le _,rfl,HN0⟩
 case round=>
  obtain⟨k,hk9,rfl,HR⟩:=hrel
  rename World=>wr
  clear HN0
  go_upto_region 9 with fail
  go_cut [66] from 59 to 74 (fun c wx=>c=.bool (decide (k<len1/\k<90))/\wx=wr)
  case first=>
   by_cases h1:k<len1
   ·by_cases h2:k<90
    ·go_wp2
     go_meet
     exact⟨by rw[decide_eq_true (show k<len1/\k<90 from ⟨h1,h2⟩),decide_eq_true (show (k:Int)<90 by omega)],rfl⟩
    ·go_wp2
     go_meet
     exact⟨by rw[decide_eq_false (show ¬ (k<len1/\k<90) from fun h=>h2 h.2),decide_eq_false (show ¬ (k:Int)<90 by omega)],rfl⟩
   ·go_wp2
    go_meet
    exact⟨by rw[decide_eq_false (show ¬ (k<len1/\k<90) from fun h=>h1 h.1)],rfl⟩
  case rest=>
  obtain⟨rfl,hw⟩:=hcut
  obtain rfl:=hw.symm
  by_cases hgo:k<len1/\k<90
  ·rw[decide_eq_true hgo]
   obtain⟨hlt,hl9⟩:=hgo
   obtain⟨b,o,rfl,hb,hst⟩:=HS1.out.at_ (by omega)
   obtain⟨kd,x,y,d,h1,h2,h3,h4,c0,c1,c2,c3⟩:=hst k hlt
   have hbel:Below W.heap.size W wr:=TdW.old HR.out
   have e0:=(hbel.cell (p:=⟨b,o+k*4,none⟩) hb).trans c0
   have e1:=(hbel.cell (p:=⟨b,o+k*4+1,none⟩) hb).trans c1
   have e2:=(hbel.cell (p:=⟨b,o+k*4+2,none⟩) hb).trans c2
   have e3:=(hbel.cell (p:=⟨b,o+k*4+3,none⟩) hb).trans c3
   have hbr:b<wr.heap.size:=Nat.lt_of_lt_of_le hb hbel.size
   have HD:Hid _:=td_do HR.out (by omega) h1 h2 h3 h4
   clear c0 c1 c2 c3 hst hbel h1 h2 h3 h4 HR HS1
   go_wp2_with fail
   refine Calls.mono HD.out ?_
   rintro e w4 ⟨er,rfl,h4⟩
   have H4:Hid _:=h4
   clear h4 HD
   go_wp2
   exact⟨⟨k+1,by omega,by simp,by rw[show 60000+(k+1)*500=60000+k*500+500 by omega];exact H4⟩,by simp only[intOf];omega⟩
  ·rw[decide_eq_false hgo]
   clear hgo
   have HAL:Hid _:=td_all HR.out (by omega) (by omega)
   clear HR HS1
   go_wp2_with fail
   refine Calls.mono HAL.out ?_
   rintro e w5 ⟨v,L,rfl,h5⟩
   obtain⟨av,cv,hv⟩:=rowT_shape (TdA1.row h5)
   subst hv
   have HAL2:Hid _:=td_all2 h5 (by omega)
   clear HAL h5
   go_wp2_with fail
   refine Calls.mono HAL2.out ?_
   rintro e w6 ⟨v',O,rfl,h6⟩
   obtain⟨ao,co,hv⟩:=rowT_shape (TdA2.row h6)
   subst hv
   have HST:Hid _:=td_status HO.out h6 (by omega)
   clear HAL2 h6
   go_wp2_with fail
   refine Calls.mono HST.out ?_
   rintro e w7 ⟨u,C,rfl,hF,h7⟩
   obtain⟨ac,cc,hv⟩:=rowC_shape (TdS.rows3 h7).2.2
   subst hv
   have HF:Hid _:=hF
   have hL1:L.length<=1118480:=hF.l1
   have hL2:O.length<=1118480:=hF.l2
   have hL3:C.length<=2236960:=by
    have h1:=hF.len
    have h2:=List.length_filter_le (newB O) L
    have h3:=List.length_filter_le (goneB L) O
    omega
   obtain⟨nL,hNL⟩:∃ nL,nL=L.length:=⟨_,rfl⟩
   obtain⟨nO,hNO⟩:∃ nO,nO=O.length:=⟨_,rfl⟩
   obtain⟨nC,hNC⟩:∃ nC,nC=C.length:=⟨_,rfl⟩
   obtain⟨lim8,hlim8⟩:∃ lim8,lim8=60000+k*500+4000000000+4000000000+110000000:=⟨_,rfl⟩
   have H7:Hid (TdS W w7 s p objs Bw lim8 (.slice av nL cv) (.slice ao nO co) (.slice ac nC cc) L O C):=by
    show TdS W w7 s p objs Bw lim8 _ _ _ L O C
    rw[hNL,hNO,hNC,hlim8]
    exact h7
   rw[<- hNL] at hL1 ⊢
   rw[<- hNO] at hL2 ⊢
   rw[<- hNC] at hL3 ⊢
   have HNL:Hid _:=hNL
   have HNO:Hid _:=hNO
   have HNC:Hid _:=hNC
   have HLM:Hid (lim8+110000000<1099511627776):=by show lim8+110000000<1099511627776;omega
   clear HST h7 hF hNL hNO hNC hlim8
   go_wp2
   go_loopw [17,18] (fun nv iv wr=>∃ k c:Nat,k<=nL/\iv=.int .i64 (k:Int)/\nv=.int .i64 (c:Int)/\c<=k/\Hid (c=((L.take k).filter (newB O)).length)/\Hid (TdS W wr s p objs Bw lim8 (.slice av nL cv) (.slice ao nO co) (.slice ac nC cc) L O C)) (fun _ iv _=>nL-(intOf iv).toNat)
   case atStart=>exact⟨0,0,Nat.zero_le _,rfl,rfl,Nat.le_refl _,rfl,H7⟩
   case round=>
    obtain⟨k,c,hk,rfl,rfl,hck,HC,HS⟩:=hrel
    rename World=>wr
    clear H7
    by_cases hkn:k<nL
    ·have hkl:k<L.length:=by rw[<- HNL.out];exact hkn
     obtain⟨gL,c1,e1,hg,x0,x1,x2⟩:=rowT_cells (n:=nL) (by have:=(TdS.rows3 HS.out).1;rw[HNL.out] at this ⊢;exact this) HNL.out hkl
     cases e1
     have HFN:Hid _:=find_any (.slice ao nO co) nO O (L[k]).1 0 wr (by have:=(TdS.rows3 HS.out).2.1;rw[HNO.out] at this ⊢;exact this) HNO.out (by omega)
     have HST:Hid _:=filter_len (newB O) L hkl
     have hcs:=new_cases O L[k]
     generalize newB O L[k]=nb at HST hcs
     generalize findT O (L[k]).1=fo at HFN hcs
     generalize (L[k]).1=p0 at x0 HFN
     generalize (L[k]).2.1=k0 at x1 hcs
     generalize (L[k]).2.2=d0 at x2 hcs
     rcases hcs with ⟨hk1,rfl⟩ | ⟨rfl,rfl,rfl⟩ | ⟨rfl,⟨P,kk,d,rfl,hkk⟩,rfl⟩ | ⟨rfl,⟨P,d,rfl,hdd⟩,rfl⟩ | ⟨rfl,⟨P,rfl⟩,rfl⟩
     case' inl=>
      obtain⟨q0,q1,q2,hq⟩:=thing_shape fo
      rw[hq] at HFN
      generalize fo.isSome=is at HFN
      have hkb:(k0 == 1)=false:=by simpa using hk1
      clear hq hk1
      go_wp2_with fail
      refine Calls.mono HFN.out ?_
      rintro e w8 ⟨rfl,hb8⟩
      have hbF:Below wr.heap.size wr w8:=hb8
      have hgL:=(hb8.block gL hg)
      have x0:=(hb8.cell (p:=⟨gL,k*3,none⟩) hg).trans x0
      have x1:=(hb8.cell (p:=⟨gL,k*3+1,none⟩) hg).trans x1
      have x2:=(hb8.cell (p:=⟨gL,k*3+2,none⟩) hg).trans x2
      have hg8:gL<w8.heap.size:=Nat.lt_of_lt_of_le hg hb8.size
      have hs8:wr.heap.size<=w8.heap.size:=hb8.size
      clear HFN hgL
      go_wp2
      go_quiet (fail)
      go_wp2
      exact⟨⟨k+1,c,by omega,by simp,rfl,by omega,by show c=_;rw[HST.out,<- HC.out];rfl,by refine TdS.below HS.out ?_;repeat (first | exact hbF | (refine below_drewN ?_ _) | (refine below_drew ?_) | (refine Below.setCell ?_ (by first | omega | (simp;omega)) _) | (refine Below.alloc ?_ (by first | omega | (simp;omega)) _))⟩,by simp[intOf];omega⟩
     case' inr.inl=>
      simp only[thingV,Option.isSome_none] at HFN
      go_wp2_with fail
      refine Calls.mono HFN.out ?_
      rintro e w8 ⟨rfl,hb8⟩
      have hbF:Below wr.heap.size wr w8:=hb8
      have hgL:=(hb8.block gL hg)
      have x0:=(hb8.cell (p:=⟨gL,k*3,none⟩) hg).trans x0
      have x1:=(hb8.cell (p:=⟨gL,k*3+1,none⟩) hg).trans x1
      have x2:=(hb8.cell (p:=⟨gL,k*3+2,none⟩) hg).trans x2
      have hg8:gL<w8.heap.size:=Nat.lt_of_lt_of_le hg hb8.size
      have hs8:wr.heap.size<=w8.heap.size:=hb8.size
      clear HFN hgL
      go_wp2
      go_quiet (fail)
      go_wp2
      exact⟨⟨k+1,c+1,by omega,by simp,by simp,by omega,by show c+1=_;rw[HST.out,<- HC.out];rfl,by refine TdS.below HS.out ?_;repeat (first | exact hbF | (refine below_drewN ?_ _) | (refine below_drew ?_) | (refine Below.setCell ?_ (by first | omega | (simp;omega)) _) | (refine Below.alloc ?_ (by first | omega | (simp;omega)) _))⟩,by simp[intOf];omega⟩
     case' inr.inr.inl=>
      have hkb:(kk == 1)=false:=by simpa using hkk
      have hkn2:(kk != 1)=true:=by simpa using hkk
      simp only[thingV,Option.isSome_some] at HFN
      clear hkk
      go_wp2_with fail
      refine Calls.mono HFN.out ?_
      rintro e w8 ⟨rfl,hb8⟩
      have hbF:Below wr.heap.size wr w8:=hb8
      have hgL:=(hb8.block gL hg)
      have x0:=(hb8.cell (p:=⟨gL,k*3,none⟩) hg).trans x0
      have x1:=(hb8.cell (p:=⟨gL,k*3+1,none⟩) hg).trans x1
      have x2:=(hb8.cell (p:=⟨gL,k*3+2,none⟩) hg).trans x2
      have hg8:gL<w8.heap.size:=Nat.lt_of_lt_of_le hg hb8.size
      have hs8:wr.heap.size<=w8.heap.size:=hb8.size
      clear HFN hgL
      go_wp2
      go_quiet (fail)
      go_wp2
      exact⟨⟨k+1,c+1,by omega,by simp,by simp,by omega,by show c+1=_;rw[HST.out,<- HC.out];rfl,by refine TdS.below HS.out ?_;repeat (first | exact hbF | (refine below_drewN ?_ _) | (refine below_drew ?_) | (refine Below.setCell ?_ (by first | omega | (simp;omega)) _) | (refine Below.alloc ?_ (by first | omega | (simp;omega)) _))⟩,by simp[intOf];omega⟩
     case' inr.inr.inr.inl=>
      have hkb:(d.toList == d0.toList)=false:=bytes_ne hdd
      have hkn2:(d.toList != d0.toList)=true:=by rw[bne,hkb];rfl
      simp only[thingV,Option.isSome_some] at HFN
      clear hdd
      go_wp2_with fail
      refine Calls.mono HFN.out ?_
      rintro e w8 ⟨rfl,hb8⟩
      have hbF:Below wr.heap.size wr w8:=hb8
      have hgL:=(hb8.block gL hg)
      have x0:=(hb8.cell (p:=⟨gL,k*3,none⟩) hg).trans x0
      have x1:=(hb8.cell (p:=⟨gL,k*3+1,none⟩) hg).trans x1
      have x2:=(hb8.cell (p:=⟨gL,k*3+2,none⟩) hg).trans x2
      have hg8:gL<w8.heap.size:=Nat.lt_of_lt_of_le hg hb8.size
      have hs8:wr.heap.size<=w8.heap.size:=hb8.size
      clear HFN hgL
      go_wp2
      go_quiet (fail)
      go_wp2
      exact⟨⟨k+1,c+1,by omega,by simp,by simp,by omega,by show c+1=_;rw[HST.out,<- HC.out];rfl,by refine TdS.below HS.out ?_;repeat (first | exact hbF | (refine below_drewN ?_ _) | (refine below_drew ?_) | (refine Below.setCell ?_ (by first | omega | (simp;omega)) _) | (refine Below.alloc ?_ (by first | omega | (simp;omega)) _))⟩,by simp[intOf];omega⟩
     case' inr.inr.inr.inr=>
      have hkb:(d0.toList == d0.toList)=true:=bytes_self _
      have hkn2:(d0.toList != d0.toList)=false:=by rw[bne,hkb];rfl
      simp only[thingV,Option.isSome_some] at HFN
      go_wp2_with fail
      refine Calls.mono HFN.out ?_
      rintro e w8 ⟨rfl,hb8⟩
      have hbF:Below wr.heap.size wr w8:=hb8
      have hgL:=(hb8.block gL hg)
      have x0:=(hb8.cell (p:=⟨gL,k*3,none⟩) hg).trans x0
      have x1:=(hb8.cell (p:=⟨gL,k*3+1,none⟩) hg).trans x1
      have x2:=(hb8.cell (p:=⟨gL,k*3+2,none⟩) hg).trans x2
      have hg8:gL<w8.heap.size:=Nat.lt_of_lt_of_le hg hb8.size
      have hs8:wr.heap.size<=w8.heap.size:=hb8.size
      clear HFN hgL
      go_wp2
      go_quiet (fail)
      go_wp2
      exact⟨⟨k+1,c,by omega,by simp,rfl,by omega,by show c=_;rw[HST.out,<- HC.out];rfl,by refine TdS.below HS.out ?_;repeat (first | exact hbF | (refine below_drewN ?_ _) | (refine below_drew ?_) | (refine Below.setCell ?_ (by first | omega | (simp;omega)) _) | (refine Below.alloc ?_ (by first | omega | (simp;omega)) _))⟩,by simp[intOf];omega⟩
    ·have hke:k=nL:=by omega
     have HC1:Hid (c=(L.filter (newB O)).length):=by
      have:=HC.out
      rw[hke,HNL.out,List.take_length] at this
      exact this
     have hcL:c<=nL:=(by omega)
     clear HC hke hck
     go_wp2
     clear hkn hk
     go_loopw [17,21] (fun nv iv wr=>∃ k c2:Nat,k<=nO/\iv=.int .i64 (k:Int)/\nv=.int .i64 ((c+c2:Nat):Int)/\c2<=k/\Hid (c2=((O.take k).filter (goneB L)).length)/\Hid (TdS W wr s p objs Bw lim8 (.slice av nL cv) (.slice ao nO co) (.slice ac nC cc) L O C)) (fun _ iv _=>nO-(intOf iv).toNat)
     case atStart=>exact⟨0,0,Nat.zero_le _,rfl,by simp,Nat.le_refl _,rfl,HS⟩
     case round=>
      obtain⟨k,c2,hk,rfl,rfl,hck2,HC,HS⟩:=hrel
      rename World=>wr
      by_cases hkn:k<nO
      ·have hkl:k<O.length:=by rw[<- HNO.out];exact hkn
       obtain⟨gL,c1,e1,hg,x0,x1,x2⟩:=rowT_cells (n:=nO) (by have:=(TdS.rows3 HS.out).2.1;rw[HNO.out] at this ⊢;exact this) HNO.out hkl
       cases e1
       have HFN:Hid _:=find_any (.slice av nL cv) nL L (O[k]).1 0 wr (by have:=(TdS.rows3 HS.out).1;rw[HNL.out] at this ⊢;exact this) HNL.out (by omega)
       have HST:Hid _:=filter_len (goneB L) O hkl
       have hcs:=gone_cases L O[k]
       generalize goneB L O[k]=nb at HST hcs
       generalize findT L (O[k]).1=fo at HFN hcs
       generalize (O[k]).1=p0 at x0 HFN
       generalize (O[k]).2.1=k0 at x1 hcs
       generalize (O[k]).2.2=d0 at x2
       rcases hcs with ⟨hk1,rfl⟩ | ⟨rfl,rfl,rfl⟩ | ⟨rfl,⟨P,kk,d,rfl,hkk⟩,rfl⟩ | ⟨rfl,⟨P,d,rfl⟩,rfl⟩
       case' inl=>
        obtain⟨q0,q1,q2,hq⟩:=thing_shape fo
        rw[hq] at HFN
        generalize fo.isSome=is at HFN
        have hkb:(k0 == 1)=false:=by simpa using hk1
        clear hq hk1
        go_wp2_with fail
        refine Calls.mono HFN.out ?_
        rintro e w8 ⟨rfl,hb8⟩
        have hbF:Below wr.heap.size wr w8:=hb8
        have hgL:=(hb8.block gL hg)
        have x0:=(hb8.cell (p:=⟨gL,k*3,none⟩) hg).trans x0
        have x1:=(hb8.cell (p:=⟨gL,k*3+1,none⟩) hg).trans x1
        have x2:=(hb8.cell (p:=⟨gL,k*3+2,none⟩) hg).trans x2
        have hg8:gL<w8.heap.size:=Nat.lt_of_lt_of_le hg hb8.size
        have hs8:wr.heap.size<=w8.heap.size:=hb8.size
        clear HFN hgL
        go_wp2
        exact⟨⟨k+1,c2,by omega,by simp,rfl,by omega,by show c2=_;rw[HST.out,<- HC.out];rfl,by refine TdS.below HS.out ?_;repeat (first | exact hbF | (refine below_drewN ?_ _) | (refine below_drew ?_) | (refine Below.setCell ?_ (by first | omega | (simp;omega)) _) | (refine Below.alloc ?_ (by first | omega | (simp;omega)) _))⟩,by simp[intOf];omega⟩
       case' inr.inl=>
        simp only[thingV,Option.isSome_none] at HFN
        go_wp2_with fail
        refine Calls.mono HFN.out ?_
        rintro e w8 ⟨rfl,hb8⟩
        have hbF:Below wr.heap.size wr w8:=hb8
        have hgL:=(hb8.block gL hg)
        have x0:=(hb8.cell (p:=⟨gL,k*3,none⟩) hg).trans x0
        have x1:=(hb8.cell (p:=⟨gL,k*3+1,none⟩) hg).trans x1
        have x2:=(hb8.cell (p:=⟨gL,k*3+2,none⟩) hg).trans x2
        have hg8:gL<w8.heap.size:=Nat.lt_of_lt_of_le hg hb8.size
        have hs8:wr.heap.size<=w8.heap.size:=hb8.size
        clear HFN hgL
        go_wp2
        exact⟨⟨k+1,c2+1,by omega,by simp,by rw[show ((c+(c2+1):Nat):Int)=(c:Int)+c2+1 by omega],by omega,by show c2+1=_;rw[HST.out,<- HC.out];rfl,by refine TdS.below HS.out ?_;repeat (first | exact hbF | (refine below_drewN ?_ _) | (refine below_drew ?_) | (refine Below.setCell ?_ (by first | omega | (simp;omega)) _) | (refine Below.alloc ?_ (by first | omega | (simp;omega)) _))⟩,by simp[intOf];omega⟩
       case' inr.inr.inl=>
        have hkb:(kk == 1)=false:=by simpa using hkk
        have hkn2:(kk != 1)=true:=by simpa using hkk
        simp only[thingV,Option.isSome_some] at HFN
        clear hkk
        go_wp2_with fail
        refine Calls.mono HFN.out ?_
        rintro e w8 ⟨rfl,hb8⟩
        have hbF:Below wr.heap.size wr w8:=hb8
        have hgL:=(hb8.block gL hg)
        have x0:=(hb8.cell (p:=⟨gL,k*3,none⟩) hg).trans x0
        have x1:=(hb8.cell (p:=⟨gL,k*3+1,none⟩) hg).trans x1
        have x2:=(hb8.cell (p:=⟨gL,k*3+2,none⟩) hg).trans x2
        have hg8:gL<w8.heap.size:=Nat.lt_of_lt_of_le hg hb8.size
        have hs8:wr.heap.size<=w8.heap.size:=hb8.size
        clear HFN hgL
        go_wp2
        exact⟨⟨k+1,c2+1,by omega,by simp,by rw[show ((c+(c2+1):Nat):Int)=(c:Int)+c2+1 by omega],by omega,by show c2+1=_;rw[HST.out,<- HC.out];rfl,by refine TdS.below HS.out ?_;repeat (first | exact hbF | (refine below_drewN ?_ _) | (refine below_drew ?_) | (refine Below.setCell ?_ (by first | omega | (simp;omega)) _) | (refine Below.alloc ?_ (by first | omega | (simp;omega)) _))⟩,by simp[intOf];omega⟩
       case' inr.inr.inr=>
        simp only[thingV,Option.isSome_some] at HFN
        go_wp2_with fail
        refine Calls.mono HFN.out ?_
        rintro e w8 ⟨rfl,hb8⟩
        have hbF:Below wr.heap.size wr w8:=hb8
        have hgL:=(hb8.block gL hg)
        have x0:=(hb8.cell (p:=⟨gL,k*3,none⟩) hg).trans x0
        have x1:=(hb8.cell (p:=⟨gL,k*3+1,none⟩) hg).trans x1
        have x2:=(hb8.cell (p:=⟨gL,k*3+2,none⟩) hg).trans x2
        have hg8:gL<w8.heap.size:=Nat.lt_of_lt_of_le hg hb8.size
        have hs8:wr.heap.size<=w8.heap.size:=hb8.size
        clear HFN hgL
        go_wp2
        exact⟨⟨k+1,c2,by omega,by simp,rfl,by omega,by show c2=_;rw[HST.out,<- HC.out];rfl,by refine TdS.below HS.out ?_;repeat (first | exact hbF | (refine below_drewN ?_ _) | (refine below_drew ?_) | (refine Below.setCell ?_ (by first | omega | (simp;omega)) _) | (refine Below.alloc ?_ (by first | omega | (simp;omega)) _))⟩,by simp[intOf];omega⟩
      ·have hke:k=nO:=by omega
       have hcc:c+c2=nC:=by
        have h1:=HC.out
        rw[hke,HNO.out,List.take_length] at h1
        rw[HNC.out,HF.out.len,<- HC1.out,<- h1]
       rw[hcc]
       clear HC HC1 hke hcc hck2 hcL
       go_wp2
       clear hkn hk
       go_loopw [24] (fun iv wr=>∃ k:Nat,k<=nC/\iv=.int .i64 (k:Int)/\Hid (TdS W wr s p objs Bw lim8 (.slice av nL cv) (.slice ao nO co) (.slice ac nC cc) L O C)) (fun iv _=>nC-(intOf iv).toNat)
       case atStart=>exact⟨0,Nat.zero_le _,rfl,HS⟩
       case round=>
        obtain⟨k,hk,rfl,HS⟩:=hrel
        rename World=>wr
        by_cases hkn:k<nC
        ·have hkl:k<C.length:=by rw[<- HNC.out];exact hkn
         have hrowC:wr.ownsRow 0 58 2 (.slice ac nC cc) nC (flatC C):=by have:=(TdS.rows3 HS.out).2.2;rw[HNC.out] at this ⊢;exact this
         obtain⟨gC,c1,e1,hg,x0,x1⟩:=rowC_cells hrowC HNC.out hkl
         have HFO:Hid _:=find_any (.slice ao nO co) nO O (C[k]).1 0 wr (by have:=(TdS.rows3 HS.out).2.1;rw[HNO.out] at this ⊢;exact this) HNO.out (by omega)
         have HFL:Hid (∀ W',Below wr.heap.size wr W'->Calls Tryz.prog 17 #[.slice av nL cv,.string (C[k]).1] W' fun e w'=>e=.returned (.tuple #[thingV (findT L (C[k]).1),.bool (findT L (C[k]).1).isSome])/\Below W'.heap.size W' w'):=fun W' hb=>find_any (.slice av nL cv) nL L (C[k]).1 0 W' (rowT_below (by have:=(TdS.rows3 HS.out).1;rw[HNL.out] at this ⊢;exact this) hb) HNL.out (by omega)
         have htl:=HF.out.tells _ (List.getElem_mem hkl)
         have HPV:Hid (∀ j (hj:j<C.length),j+1=k->wr.cell? ⟨gC,j*2,none⟩=some (.string (C[j]).1)/\Op.bytesLess (C[j]).1.toList (C[k]).1.toList=true):=fun j hj e=>⟨by
          obtain⟨g2,c2,e2,_,y0,_⟩:=rowC_cells hrowC HNC.out hj
          rw[e1] at e2
          cases e2
          exact y0,by
          have:=List.pairwise_iff_getElem.1 HF.out.rising j k hj hkl (by omega)
          simp only[ByteArray.toList_eq]
          exact less_of_cmp _ _ this⟩
         cases e1
         clear hrowC
         generalize findT O (C[k]).1=fo at HFO htl
         generalize findT L (C[k]).1=fl at HFL htl
         generalize (C[k]).1=p0 at x0 HFO HFL HPV
         generalize (C[k]).2=wh at x1 htl
         obtain⟨q0,q1,q2,hq,hqf⟩:=thing_file fo
         obtain⟨u0,u1,u2,hu,huf⟩:=thing_file fl
         have HTL:Hid _:=tells_file hq hu htl
         rw[hq] at HFO
         rw[hu] at HFL
         generalize fo.isSome=is at HFO hqf
         generalize fl.isSome=th at HFL huf
         generalize fileB fo=isF at hqf HTL
         generalize fileB fl=thF at huf HTL
         have HQF:Hid _:=hqf
         have HUF:Hid _:=huf
         clear hq hu htl hqf huf
         go_wp2_with fail
         refine Calls.mono HFO.out ?_
         rintro e w8 ⟨rfl,hb8⟩
         have hb8a:Below wr.heap.size wr (w8.alloc (.cells #[.string q0,.int .i64 q1,.string q2] 40)):=hb8.alloc hb8.size _
         have z0:=(hb8.cell (p:=⟨gC,k*2,none⟩) hg).trans x0
         have hg8:gC<w8.heap.size:=Nat.lt_of_lt_of_le hg hb8.size
         clear HFO
         go_wp2_with fail
         refine Calls.mono (HFL.out _ hb8a) ?_
         rintro e w9 ⟨rfl,hb9⟩
         have hbF:Below wr.heap.size wr w9:=below_via hb8a hb9
         have hbox:=hb9.block w8.heap.size (by simp)
         rw[heap_alloc_new] at hbox
         have t1:=(cellsT3 hbox).2.2.1
         have t2:=(cellsT3 hbox).2.2.2.1
         have hz9:w8.heap.size<w9.heap.size:=(cellsT3 hbox).1
         have y0:=(hbF.cell (p:=⟨gC,k*2,none⟩) hg).trans x0
         have y1:=(hbF.cell (p:=⟨gC,k*2+1,none⟩) hg).trans x1
         have hg9:gC<w9.heap.size:=Nat.lt_of_lt_of_le hg hbF.size
         have hs9:wr.heap.size<=w9.heap.size:=hbF.size
         have HYP:Hid (∀ j (hj:j<C.length),j+1=k->w9.cell? ⟨gC,j*2,none⟩=some (.string (C[j]).1)/\Op.bytesLess (C[j]).1.toList p0.toList=true):=fun j hj e=>⟨(hbF.cell (p:=⟨gC,j*2,none⟩) hg).trans (HPV.out j hj e).1,(HPV.out j hj e).2⟩
         clear HFL hbox z0 HPV x0 x1 hb8 hb9 hb8a
         go_upto_region 37 with fail
         go_cut [26] from 180 to 266 (fun c wx=>c=.bool isF/\wx=w9.alloc (.cells #[.string u0,.int .i64 u1,.string u2] 40))
         case first=>
          rcases HQF.out with ⟨rfl,rfl⟩ | ⟨rfl,rfl,rfl⟩ | ⟨rfl,hk1,rfl⟩
          ·go_wp2
           go_meet
           exact⟨rfl,rfl⟩
          ·go_wp2
           go_meet
           exact⟨rfl,rfl⟩
          ·have hkb:(q1 == 1)=false:=by simpa using hk1
           go_wp2
           go_meet
           exact⟨rfl,rfl⟩
         case rest=>
         obtain⟨rfl,hw⟩:=hcut
         subst hw
         clear HQF
         go_upto_region 38 with fail
         go_cut [28] from 180 to 266 (fun c wx=>c=.bool thF/\wx=w9.alloc (.cells #[.string u0,.int .i64 u1,.string u2] 40))
         case first=>
          rcases HUF.out with ⟨rfl,rfl⟩ | ⟨rfl,rfl,rfl⟩ | ⟨rfl,hk1,rfl⟩
          ·go_wp2
           go_meet
           exact⟨rfl,rfl⟩
          ·go_wp2
           go_meet
           exact⟨rfl,rfl⟩
          ·have hkb:(u1 == 1)=false:=by simpa using hk1
           go_wp2
           go_meet
           exact⟨rfl,rfl⟩
         case rest=>
         obtain⟨rfl,hw⟩:=hcut
         subst hw
         clear HUF
         have hlt:=HTL.out
         clear HTL
         by_cases hk0:k=0
         case' pos=>
          have hgd:decide (0<k)=false:=by simp;omega
          clear hk0 HYP
         case' neg=>
          obtain⟨j,hj⟩:∃ j:Nat,j+1=k:=⟨k-1,by omega⟩
          have hje:j<C.length:=by omega
          obtain⟨cp,hless⟩:=HYP.out j hje hj
          have hji:((k:Int)-1)=(j:Int):=by omega
          have hgd:decide (0<k)=true:=by simp;omega
          have hjm:j<nC:=by omega
          generalize (C[j]).1=pv at cp hless
          clear HYP hk0 hj hje
         all_goals
          rcases hlt with ⟨rfl,rfl,rfl,hne⟩ | ⟨rfl,rfl,rfl⟩ | ⟨rfl,rfl,rfl⟩
          case' inl=>
           have hkb:(q2.toList == u2.toList)=false:=bytes_ne hne
           clear hne
          all_goals as_aux_lemma=>
           go_wp2
           go_quiet (fail)
           go_wp2
           exact⟨⟨k+1,by omega,by simp,by refine TdS.below HS.out ?_;repeat (first | exact hbF | (refine below_drewN ?_ _) | (refine below_drew ?_) | (refine Below.setCell ?_ (by first | omega | (simp;omega)) _) | (refine Below.alloc ?_ (by first | omega | (simp;omega)) _))⟩,by simp[intOf];omega⟩
        ·have HCO:Hid _:=td_commit HO.out HS.out
         clear HS HF
         go_wp2_with fail
         refine Calls.mono HCO.out ?_
         rintro e w8 ⟨cid,x',rfl,hX',hok',hlen',h8⟩
         have HX:Hid _:=And.intro hX' (And.intro hok' hlen')
         have HWK:Hid _:=many_work h8 (i:=3) (by decide) (fun x hx=>by cases hx) hok'
         clear HCO hX' hok' hlen' h8
         go_wp2_with fail
         refine Calls.mono HWK.out ?_
         rintro e w9 ⟨B9,g9,rfl,hg9,hgb9,h9⟩
         have HNO9:Hid _:=td_none HX.out.1.1 HX.out.1.2 HX.out.2.1 HX.out.2.2 hgb9 HLM.out h9
         clear HWK h9 hg9 hgb9
         go_wp2_with fail
         refine Calls.mono HNO9.out ?_
         rintro e w10 ⟨na,nk,rfl,hb10⟩
         go_wp2
         go_ret
         exact⟨rfl,hb10⟩
end Go.Proofs.YtajopoddmfdejaaGreat
