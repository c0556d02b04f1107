/-
  What is proved here: canopykeep's Retried returns true, and what was there stands.
-/
import Derived.Test.YtajopoddmfdejaaGreatRetM49
import Derived.Deep.Cut
import Derived.Deep.CutRange
namespace Go.Proofs.YtajopoddmfdejaaGreat
open Go.RowKit Go.Sort Go.Shelf
set_option linter.unusedVariables false
set_option maxRecDepth 100000
set_option maxHeartbeats 16000000
theorem infoErr:(Tryz.prog.info? 35).map (fun i=>(i.zero,i.size,i.bytes))=some (some (.int .i64 0),1,8):=by kernel_rfl
theorem ManyG.many {W wr:World}{s p:Nat}{objs:List Ob}{lim:Nat}{ws:List Slot}(h:ManyG W wr s p objs lim false ws []):Many W wr s p objs lim ws []:=by
 obtain⟨tg,got,hO,hS,hw,hn,_⟩:=h
 exact⟨tg,got,hO,hS,hw,hn,fun r hr=>by cases hr⟩
theorem errs_cell {w:World}{base n:Nat}{v:Value}{E:Nat->Int}(h:w.ownsRow base 35 1 v n (errsN E n)){i:Nat}(hi:i<n):∃ g c,v=.slice (some ⟨g,0,none⟩) n c/\g<w.heap.size/\w.cell? ⟨g,i,none⟩=some (.int .i64 (E i)):=by
 obtain⟨g,c,rfl⟩:=slice_of_owns h (by omega)
 have:=World.ownsRow.cells h (g:=g) rfl i (.int .i64 (E i)) (by simp[errsN,hi])
 rw[add_plain,Nat.zero_add] at this
 exact⟨g,c,rfl,ownsRow_lt h rfl,this⟩
theorem owns_len {w:World}{base:Nat}{e:TypeId}{size:Nat}{v:Value}{n:Nat}{xs:List Value}(h:w.ownsRow base e size v n xs):n<=9223372036854775807:=by
 rcases h.2 with ⟨_,h0⟩ | ⟨_,c,_,_,_,_,h1,h2,_⟩
 ·omega
 ·unfold maxLen at h2;omega
theorem err_shape {w:World}{base n:Nat}{v:Value}{xs:List Value}(h:w.ownsRow base 35 1 v n xs):∃ a c,v=.slice a n c:=by
 rcases h.2 with ⟨e,h0⟩ | ⟨g',c',_,e,_⟩
 ·exact⟨none,0,by rw[e,h0]⟩
 ·exact⟨_,_,e⟩
theorem retried_law (W:World)(a a1 a2:Option Addr)(len cap len1 cap1 len2 cap2:Nat)(hS:StepsAt W a len)(hlen:len<=maxLen)(hS1:StepsAt W a1 len1)(hlen1:len1<=maxLen)(hI:IntsAt W a2 len2)(hlen2:len2<=maxLen):
  Calls Tryz.prog 9 #[.slice a len cap,.slice a1 len1 cap1,.slice a2 len2 cap2] W fun e w'=>e=.returned (.bool true)/\Below W.heap.size W w':=by
 have hmd:=made_walk2 W a len cap hS hlen
 obtain⟨M,hM1⟩:=steps_fun hS1
 have HSF:Hid _:=hM1
 have HI:Hid _:=hI
 obtain⟨i0,hi0,hz0,hz1,hz2⟩:=info_parts infoErr
 unfold maxLen at hlen1 hlen2
 clear hS hS1 hlen hM1 hI
 go_enter Tryz.func9,Tryz.ntmps9
 go_wp2_with fail
 refine Calls.mono hmd ?_
 rintro e w1 ⟨s,p,id,rfl,hM⟩
 obtain⟨objs,hObs,hbig,hne,hm⟩:=many_made3 hM
 have HO:Hid _:=hObs
 have HBG:Hid _:=hbig
 have h16:(entsOf objs id).length<=16:=by
  have hk:kindOf objs id=2:=by have:=hObs.ok;rw[LTok] at this;exact this.1
  exact (hObs.exact.sound.2 id hk).2.1
 have HNE:Hid _:=And.intro hne h16
 have HR1:Hid _:=refuses_any (ManyG.of hm) HO.out.ok HNE.out.1 HNE.out.2 (how:=1) (.inl rfl) (by decide)
 clear hmd hM hm hObs hbig hne h16
 go_wp2_with fail
 refine Calls.mono HR1.out ?_
 rintro e w2 ⟨rfl,h2⟩
 have HR2:Hid _:=refuses_any h2 HO.out.ok HNE.out.1 HNE.out.2 (how:=2) (.inr rfl) (by decide)
 clear HR1 h2
 go_wp2_with fail
 refine Calls.mono HR2.out ?_
 rintro e w3 ⟨rfl,h3⟩
 have HW:Hid _:=many_work (ManyG.many h3) (i:=3) (by decide) (fun x hx=>by cases hx) HO.out.ok
 clear HR2 h3
 go_wp2_with fail
 refine Calls.mono HW.out ?_
 rintro e w4 ⟨Bw,gw,rfl,hgw,hgb,h4⟩
 have HW2:Hid _:=many_work h4 (i:=4) (by decide) (fun x hx=>by rw[List.mem_singleton.1 hx];show (3:Nat)≠4;decide) HO.out.ok
 have HGB:Hid _:=hgb
 clear HW h4 hgw hgb
 go_wp2_with fail
 refine Calls.mono HW2.out ?_
 rintro e w5 ⟨Bv,gv,rfl,hgv,hgb2,h5⟩
 have HN0:Hid _:=rv_begin (M:=M) HO.out.ok HBG.out HGB.out hgb2 hgv h5
 clear HW2 h5 hgv hgb2
 go_wp2
 go_loopw [16,17] (fun tv iv wr=>∃ (k:Nat) (ta:Option Addr) (tc:Nat),k<=90/\k<=len1/\iv=.int .i64 (k:Int)/\tv=.slice ta k tc/\Hid (RtV W wr s p objs id Bw Bv (61600+k*500) M k (.slice ta k tc))) (fun _ iv _=>90-(intOf iv).toNat)
 case atStart=>exact⟨0,none,0,Nat.zero_le _,Nat.zero_le _,rfl,rfl,HN0⟩
 case round=>
  obtain⟨k,ta,tc,hk9,hkl,rfl,rfl,HR⟩:=hrel
  rename World=>wr
  clear HN0
  go_upto_region 14 with fail
  go_cut [76] from 69 to 89 (fun c wx=>c=.bool (decide (k<len1/\k<90))/\wx=wr)
  case first=>
   by_cases h1:k<len1
   ·by_cases h2:k<90
    ·go_wp2
     go_meet
     exact⟨by rw[decide_eq_true (show k<len1/\k<90 from ⟨h1,h2⟩),decide_eq_true (show (k:Int)<90 by omega)],rfl⟩
    ·go_wp2
     go_meet
     exact⟨by rw[decide_eq_false (show ¬ (k<len1/\k<90) from fun h=>h2 h.2),decide_eq_false (show ¬ (k:Int)<90 by omega)],rfl⟩
   ·go_wp2
    go_meet
    exact⟨by rw[decide_eq_false (show ¬ (k<len1/\k<90) from fun h=>h1 h.1)],rfl⟩
  case rest=>
  obtain⟨rfl,hw⟩:=hcut
  obtain rfl:=hw.symm
  by_cases hgo:k<len1/\k<90
  ·rw[decide_eq_true hgo]
   obtain⟨hlt,hl9⟩:=hgo
   obtain⟨b,o,d,ha,hb,h1,h2,h3,h4,c0,c1,c2,c3⟩:=HSF.out k hlt
   subst ha
   have hbel:Below W.heap.size W wr:=RtV.old HR.out
   have e0:=(hbel.cell (p:=⟨b,o+k*4,none⟩) hb).trans c0
   have e1:=(hbel.cell (p:=⟨b,o+k*4+1,none⟩) hb).trans c1
   have e2:=(hbel.cell (p:=⟨b,o+k*4+2,none⟩) hb).trans c2
   have e3:=(hbel.cell (p:=⟨b,o+k*4+3,none⟩) hb).trans c3
   have hbr:b<wr.heap.size:=Nat.lt_of_lt_of_le hb hbel.size
   have HSI:Hid _:=single_any (M k).1 (M k).2.1 (M k).2.2 d wr h1
   have HD:Hid (∀ W1,Below wr.heap.size wr W1->_):=fun W1 hb1=>rv_do (d:=d) HO.out.exact HR.out (by omega) h1 h2 h3 h4 hb1
   clear c0 c1 c2 c3 hbel h1 h2 h3 h4 HR HSF
   generalize stepK (M k).1=sk at HSI HD
   generalize (M k).1=m0 at e0 HSI
   generalize (M k).2.1=m1 at e1 HSI HD
   generalize (M k).2.2=m2 at e2 HSI HD
   go_wp2_with fail
   refine Calls.mono HSI.out ?_
   rintro e w6 ⟨rfl,hb6⟩
   have HDO:Hid _:=HD.out _ hb6
   clear HSI HD
   go_wp2_with fail
   refine Calls.mono HDO.out ?_
   rintro e w7 ⟨er,xs,rfl,hrow7,hsz7,hgr7⟩
   have HGR:Hid _:=hgr7
   have HRW:Hid _:=hrow7
   clear hgr7 hrow7 HDO
   go_wp2_with (at_builtin;(refine wpList_append_own_at _ rfl (.tmp 86) (.tmp 88) 82 rfl W.heap.size 35 i0 _ 1 8 Tryz.underlying82 hi0 hz0 hz1 hz2 rfl (by decide) (.slice ta k tc) k xs rfl (World.ownsRow.alloc HRW.out _) ⟨w7.heap.size,0,none⟩ 1 1 [.int .i64 er] rfl rfl (cells1 w7 (.int .i64 er) 35) (by intro u hu;simp at hu;subst hu;rfl) (by unfold maxLen;omega) (by omega) (by simp;omega) ?_))
   intro v' w8 hown' hgrow _ hloc
   obtain⟨ta',tc',hv⟩:=err_shape hown'
   subst hv
   have H8:Hid _:=HGR.out w8 _ hown' _ ((Below.refl w7.heap.size w7).alloc (Nat.le_refl _) (.cells #[.int .i64 er] 35)) hgrow (by simpa using hloc)
   clear hown' hgrow hloc HGR HRW
   go_wp2
   exact⟨⟨k+1,ta',tc',by omega,by omega,by simp,rfl,by rw[show 61600+(k+1)*500=61600+k*500+500 by omega];exact H8⟩,by simp only[intOf];omega⟩
  ·rw[decide_eq_false hgo]
   clear hgo
   have HST:Hid _:=rv_status HO.out hk9 HR.out (by omega)
   clear HR
   go_wp2_with fail
   refine Calls.mono HST.out ?_
   rintro e w6 ⟨ua,uk,uc,rfl,h6⟩
   have HCO:Hid _:=rv_commit HO.out HBG.out hk9 h6
   clear HST h6
   go_wp2_with fail
   refine Calls.mono HCO.out ?_
   rintro e w7 ⟨cid,A,T,F,E,L,rfl,hkL,hF,h7⟩
   have HF:Hid _:=hF
   have HKL:Hid _:=hkL
   obtain⟨lim7,hlim7⟩:∃ lim7,lim7=61600+k*500+110000000:=⟨_,rfl⟩
   have H7:Hid (RtW W w7 s p objs A id Bw lim7 k T F E L (.slice ta k tc) (.slice ua uk uc) 0 false):=by
    show RtW W w7 s p objs A id Bw lim7 k T F E L (.slice ta k tc) (.slice ua uk uc) 0 false
    rw[hlim7];exact h7
   have hlm:lim7<=120000000:=by omega
   clear HCO h7 hF hkL hlim7
   go_wp2
   go_loopw [23] (fun iv wr=>∃ (i lk:Nat) (brk:Bool),i<=k/\iv=.int .i64 (i:Int)/\lk<=lim7+i*1000/\Hid (RtW W wr s p objs A id Bw lk k T F E L (.slice ta k tc) (.slice ua uk uc) i brk)) (fun iv _=>k-(intOf iv).toNat)
   case atStart=>exact⟨0,lim7,false,Nat.zero_le _,rfl,by omega,H7⟩
   case round=>
    obtain⟨i,lk,brk,hi,rfl,hlk,HR⟩:=hrel
    rename World=>wr
    clear H7
    by_cases him:i<k
    ·obtain⟨b,o,d,ha,hb,h1,h2,h3,h4,c0,c1,c2,c3⟩:=HSF.out i (by omega)
     subst ha
     have HCL:Hid (∀ w',Below W.heap.size W w'->b<w'.heap.size/\w'.cell? ⟨b,o+i*4,none⟩=some (.int .i64 (M i).1)/\w'.cell? ⟨b,o+i*4+1,none⟩=some (.int .i64 (M i).2.1)/\w'.cell? ⟨b,o+i*4+2,none⟩=some (.int .i64 (M i).2.2)/\w'.cell? ⟨b,o+i*4+3,none⟩=some (.string d)):=fun w' hbel=>⟨Nat.lt_of_lt_of_le hb hbel.size,(hbel.cell (p:=⟨b,o+i*4,none⟩) hb).trans c0,(hbel.cell (p:=⟨b,o+i*4+1,none⟩) hb).trans c1,(hbel.cell (p:=⟨b,o+i*4+2,none⟩) hb).trans c2,(hbel.cell (p:=⟨b,o+i*4+3,none⟩) hb).trans c3⟩
     have HSI:Hid (∀ w',Calls Tryz.prog 37 #[.agg #[.int .i64 (M i).1,.int .i64 (M i).2.1,.int .i64 (M i).2.2,.string d]] w' fun e w''=>e=.returned (.agg #[.int .i64 (stepK (M i).1),.int .i64 (M i).2.1,.int .i64 (M i).2.2,.string d])/\Below w'.heap.size w' w''):=fun w'=>single_any (M i).1 (M i).2.1 (M i).2.2 d w' h1
     have HD:Hid (∀ w' lk brk W1,RtW W w' s p objs A id Bw lk k T F E L (.slice ta k tc) (.slice ua uk uc) i brk->lk+1000<1099511627776->Below w'.heap.size w' W1->Calls Tryz.prog 14 #[.pointer (some ⟨Bw.wb,0,none⟩),.agg #[.int .i64 (stepK (M i).1),.int .i64 (M i).2.1,.int .i64 (M i).2.2,.string d]] W1 fun e w''=>∃ er,e=.returned (.int .i64 er)/\((er=14/\brk=true/\RtW W w'' s p objs A id Bw (lk+500) k T F E L (.slice ta k tc) (.slice ua uk uc) i false)\/(er=E i/\er≠14/\RtW W w'' s p objs A id Bw (lk+500) k T F E L (.slice ta k tc) (.slice ua uk uc) (i+1) brk))):=fun w' lk brk W1 hw hl hb1=>rw_do HF.out him hw hl h1 h2 h3 h4 hb1
     clear c0 c1 c2 c3 h1 h2 h3 h4 hb
     generalize stepK (M i).1=sk at HSI HD
     generalize (M i).1=m0 at HCL HSI
     generalize (M i).2.1=m1 at HCL HSI HD
     generalize (M i).2.2=m2 at HCL HSI HD
     by_cases h0:len2=0
     case' pos=>
      have hg0:decide (0<len2)=false:=by simp;omega
      clear h0
      have HPK:Hid _:=fun W'=>kpick_any 0 2 W' (by decide) (by decide) (by decide)
      have hr:=pickN_range (c:=0) (n:=2) (by decide)
      generalize pickN 0 2=r at HPK hr
     case' neg=>
      have hg0:decide (0<len2)=true:=by simp;omega
      have hlt2:i % len2<len2:=Nat.mod_lt _ (by omega)
      obtain⟨b2,o2,x2,ha2,hb2,hx2,cx2⟩:=HI.out (i % len2) hlt2
      subst ha2
      have hbel:Below W.heap.size W wr:=RtW.old HR.out
      have ex:=(hbel.cell (p:=⟨b2,o2+i % len2,none⟩) hb2).trans cx2
      have hbr2:b2<wr.heap.size:=Nat.lt_of_lt_of_le hb2 hbel.size
      have hrem:Int.tmod (i:Int) (len2:Int)=((i % len2:Nat):Int):=by rw[Int.tmod_eq_emod_of_nonneg (by omega)];omega
      have HPK:Hid _:=fun W'=>kpick_any x2 2 W' hx2 (by decide) (by decide)
      have hr:=pickN_range (c:=x2) (n:=2) (by decide)
      generalize pickN x2 2=r at HPK hr
      obtain⟨jm,hjm⟩:∃ jm,jm=i % len2:=⟨_,rfl⟩
      rw[<- hjm] at hlt2 ex hrem
      clear cx2 hx2 hb2 hbel hjm
     all_goals
      obtain⟨hr0,hr1⟩:=hr
      have hwr:IntKind.i64.wrap (1+r)=1+r:=by rw[IntKind.wrap_i64] <;> omega
      have HBK:Hid _:=rw_break HR.out (how:=1+r) (by omega)
      clear HR
      go_wp2_with fail
      refine Calls.mono (HPK.out _) ?_
      rintro e w8 ⟨rfl,hw⟩
      obtain rfl:=hw.symm
      clear HPK
      go_wp2_with fail
      refine Calls.mono HBK.out ?_
      rintro e w9 ⟨rfl,h9⟩
      obtain⟨hb9,e0,e1,e2,e3⟩:=HCL.out w9 (RtW.old h9)
      have HD9:Hid _:=fun W1 hb1=>HD.out w9 lk true W1 h9 (by omega) hb1
      clear HBK h9
      try clear ex hbr2 hrem
      go_wp2_with fail
      refine Calls.mono (HSI.out _) ?_
      rintro e w10 ⟨rfl,hb10⟩
      have HDX:Hid _:=HD9.out _ hb10
      clear HD9
      go_wp2_with fail
      refine Calls.mono HDX.out ?_
      rintro e w11 ⟨er,rfl,⟨rfl,_,h11⟩ | ⟨rfl,hn14,h11⟩⟩
      ·obtain⟨hb11,e0,e1,e2,e3⟩:=HCL.out w11 (RtW.old h11)
       have HDY:Hid _:=fun W1 hb1=>HD.out w11 (lk+500) false W1 h11 (by omega) hb1
       clear HDX h11 hb10 hb9
       go_wp2_with fail
       refine Calls.mono (HSI.out _) ?_
       rintro e w12 ⟨rfl,hb12⟩
       have HDZ:Hid _:=HDY.out _ hb12
       clear HDY
       go_wp2_with fail
       refine Calls.mono HDZ.out ?_
       rintro e w13 ⟨er,rfl,⟨_,hbad,_⟩ | ⟨rfl,hn14,h13⟩⟩
       ·cases hbad
       ·obtain⟨gt,ct,et,hgt,ht⟩:=errs_cell (RtW.rows2 h13).2 him
        cases et
        have H13:Hid _:=h13
        generalize E i=ei at ht hn14
        clear h13 HDZ hb12 hb11 e0 e1 e2 e3
        go_wp2
        exact⟨⟨i+1,lk+500+500,false,by omega,by simp,by omega,H13⟩,by simp[intOf];omega⟩
      ·obtain⟨gt,ct,et,hgt,ht⟩:=errs_cell (RtW.rows2 h11).2 him
       cases et
       have H11:Hid _:=h11
       generalize E i=ei at ht hn14
       have h14b:(ei == 14)=false:=by simpa using hn14
       clear h11 HDX hb10 hb9 e0 e1 e2 e3
       go_wp2
       exact⟨⟨i+1,lk+500,true,by omega,by simp,by omega,H11⟩,by simp[intOf];omega⟩
    ·have hie:i=k:=by omega
     have HRK:Hid (RtW W wr s p objs A id Bw lk k T F E L (.slice ta k tc) (.slice ua uk uc) k brk):=by
      have:=HR.out
      rw[hie] at this
      exact this
     have HSA:Hid _:=rw_status HF.out HRK.out (by omega)
     have hlk2:lk<=121000000:=by omega
     clear HR HRK hie
     go_wp2_with fail
     refine Calls.mono HSA.out ?_
     rintro e w8 ⟨mb,mk,mc,er,rfl,⟨rfl,rfl,h8⟩ | ⟨rfl,hmk,hrow8,h8⟩⟩
     ·have HSB:Hid _:=rw_status HF.out h8 (by omega)
      clear HSA h8
      go_wp2_with fail
      refine Calls.mono HSB.out ?_
      rintro e w9 ⟨mb',mk',mc',er,rfl,⟨_,hbad,_⟩ | ⟨rfl,hmk,hrow8,h8⟩⟩
      ·cases hbad
      ·clear HSB
       have HRW:Hid _:=hrow8
       have H8:Hid _:=h8
       have hmu:mk'=uk:=by rw[hmk,HKL.out]
       subst hmu
       have hL8:mk'<=9223372036854775807:=owns_len HRW.out
       clear hrow8 h8 hmk
       go_wp2
       go_loopw [29] (fun iv wr=>∃ i:Nat,i<=mk'/\iv=.int .i64 (i:Int)/\Below w9.heap.size w9 wr) (fun iv _=>mk'-(intOf iv).toNat)
       case atStart=>exact⟨0,Nat.zero_le _,rfl,Below.refl _ _⟩
       case round=>
        obtain⟨i,hi,rfl,hbr⟩:=hrel
        rename World=>wr
        by_cases him:i<mk'
        ·have hil:i<L.length:=by rw[<- HKL.out];exact him
         obtain⟨g1,c1,e1,hg1,x0,x1⟩:=rowC_cells (n:=mk') (L:=L) (rowT_below (by have:=(RtW.rows2 H8.out).1;rw[<- HKL.out] at this;exact this) hbr) HKL.out hil
         obtain⟨g2,c2,e2,hg2,y0,y1⟩:=rowC_cells (n:=mk') (L:=L) (rowT_below HRW.out hbr) HKL.out hil
         cases e1
         cases e2
         generalize (L[i]).1=z0 at x0 y0
         generalize (L[i]).2=z1 at x1 y1
         go_wp2
         go_quiet (fail)
         go_wp2
         exact⟨⟨i+1,by omega,by simp,below_drewN hbr _⟩,by simp[intOf];omega⟩
        ·have HCW:Hid _:=rw_commit HF.out (RtW.below H8.out hbr)
         clear H8 HRW
         go_wp2_with fail
         refine Calls.mono HCW.out ?_
         rintro e w12 ⟨rfl,hb12⟩
         go_wp2
         go_ret
         exact⟨rfl,hb12⟩
     ·clear HSA
      have HRW:Hid _:=hrow8
      have H8:Hid _:=h8
      have hmu:mk=uk:=by rw[hmk,HKL.out]
      subst hmu
      have hL8:mk<=9223372036854775807:=owns_len HRW.out
      clear hrow8 h8 hmk
      go_wp2
      go_loopw [29] (fun iv wr=>∃ i:Nat,i<=mk/\iv=.int .i64 (i:Int)/\Below w8.heap.size w8 wr) (fun iv _=>mk-(intOf iv).toNat)
      case atStart=>exact⟨0,Nat.zero_le _,rfl,Below.refl _ _⟩
      case round=>
       obtain⟨i,hi,rfl,hbr⟩:=hrel
       rename World=>wr
       by_cases him:i<mk
       ·have hil:i<L.length:=by rw[<- HKL.out];exact him
        obtain⟨g1,c1,e1,hg1,x0,x1⟩:=rowC_cells (n:=mk) (L:=L) (rowT_below (by have:=(RtW.rows2 H8.out).1;rw[<- HKL.out] at this;exact this) hbr) HKL.out hil
        obtain⟨g2,c2,e2,hg2,y0,y1⟩:=rowC_cells (n:=mk) (L:=L) (rowT_below HRW.out hbr) HKL.out hil
        cases e1
        cases e2
        generalize (L[i]).1=z0 at x0 y0
        generalize (L[i]).2=z1 at x1 y1
        go_wp2
        go_quiet (fail)
        go_wp2
        exact⟨⟨i+1,by omega,by simp,below_drewN hbr _⟩,by simp[intOf];omega⟩
       ·have HCW:Hid _:=rw_commit HF.out (RtW.below H8.out hbr)
        clear H8 HRW
        go_wp2_with fail
        refine Calls.mono HCW.out ?_
        rintro e w12 ⟨rfl,hb12⟩
        go_wp2
        go_ret
        exact⟨rfl,hb12⟩
end Go.Proofs.YtajopoddmfdejaaGreat
