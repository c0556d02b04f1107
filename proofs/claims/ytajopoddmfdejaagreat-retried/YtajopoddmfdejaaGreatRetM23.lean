/-
  What is proved here: 'carry' over the map of a tree's own directories.
-/
import Derived.Test.YtajopoddmfdejaaGreatRetM22
namespace Go.Proofs.YtajopoddmfdejaaGreat
open Go.RowKit Go.Sort Go.Shelf
set_option linter.unusedVariables false
set_option maxRecDepth 100000
set_option maxHeartbeats 16000000
theorem carryD_walk (b n:Nat)(f:List ByteArray->Option Value)(src dst:List ByteArray)(w:World)(hsrc:Good src)(hdG:Good dst)(hP:PMap w b n f)(hn:n<1099511627776)
  (hdst:∀ x,dst <+: x->f x=none)(hlen:∀ x,src <+: x->f x≠none->dst.length+(x.length-src.length)<=5)(hf:∀ x,f x≠none->Good x):
  Calls Tryz.prog 87 #[.map (some b),.agg (pathA src),.agg (pathA dst)] w fun e w'=>e=.returned (.tuple #[])/\PMap w' b n (carryG f src dst)/\w.grownBy w' (some b):=by
 obtain⟨i0,hi,iz0,iz1,iz2⟩:=info_parts infoP
 have hbl:=hP.lt
 have HPM:Hid _:=hP
 obtain⟨M,⟨D,hD,hM⟩,h1,h2⟩:=hP
 have hbel:=fun p (hp:Good p) W=>below_any p src hp hsrc W
 have heq:=fun p (hp:Good p) W=>run_eqP hp hsrc W
 have hmov:=fun r (h1:src.length+r.length<=5) (h2:dst.length+r.length<=5) W=>moved_any src dst r hsrc hdG h1 h2 W
 obtain⟨s0,s1,s2,s3,s4,hS⟩:∃ s0 s1 s2 s3 s4,pathA src = #[.string s0,.string s1,.string s2,.string s3,.string s4]:=⟨_,_,_,_,_,rfl⟩
 obtain⟨d0,d1,d2,d3,d4,hDp⟩:∃ s0 s1 s2 s3 s4,pathA dst = #[.string s0,.string s1,.string s2,.string s3,.string s4]:=⟨_,_,_,_,_,rfl⟩
 unfold pathV at hbel heq hmov
 rw[hS] at hbel heq hmov
 rw[hDp] at hmov
 rw[hS,hDp]
 have HO:Hid _:=ownsMap_keep (w':=(w.alloc (.cells #[.string s0,.string s1,.string s2,.string s3,.string s4] 104)).alloc (.cells #[.string d0,.string d1,.string d2,.string d3,.string d4] 104)) hD ((((Below.refl w.heap.size w).alloc (Nat.le_refl _) _).alloc (by simp) _).block b hbl)
 have HM:Hid _:=And.intro hM (And.intro h1 h2)
 have HBEL:Hid _:=hbel
 have HEQ:Hid _:=heq
 have HMOV:Hid _:=hmov
 have HDST:Hid _:=hdst
 have HLEN:Hid _:=hlen
 have HF:Hid _:=hf
 have HG:Hid _:=And.intro hsrc hdG
 have HS:Hid _:=And.intro hS hDp
 clear hD hM h1 h2 hbel heq hmov hdst hlen hf hsrc hdG hS hDp
 go_enter Tryz.func87,Tryz.ntmps87
 go_wp2_with (at_range;go_loud (refine wpList_range_own _ rfl _ 128 rfl 104 72 lawP Tryz.underlying128 heldElem b n D rfl HO.out ?_;intro w0 hrg0 hg0 hs0))
 go_frame
 have hWs:((w.alloc (.cells #[.string s0,.string s1,.string s2,.string s3,.string s4] 104)).alloc (.cells #[.string d0,.string d1,.string d2,.string d3,.string d4] 104)).heap.size=w.heap.size+2:=by simp
 have hmD:=World.ownsMap.size_le HO.out
 generalize hr:((w.alloc (.cells #[.string s0,.string s1,.string s2,.string s3,.string s4] 104)).alloc (.cells #[.string d0,.string d1,.string d2,.string d3,.string d4] 104)).heap.size=r at hrg0 hs0 ⊢
 have hbr:b<r:=by omega
 have hr0:w.heap.size<r:=by omega
 have hr1:w.heap.size+1<r:=by omega
 have HR2:Hid (((w.alloc (.cells #[.string s0,.string s1,.string s2,.string s3,.string s4] 104)).alloc (.cells #[.string d0,.string d1,.string d2,.string d3,.string d4] 104)).heap.size<=r/\w.heap.size<((w.alloc (.cells #[.string s0,.string s1,.string s2,.string s3,.string s4] 104)).alloc (.cells #[.string d0,.string d1,.string d2,.string d3,.string d4] 104)).heap.size/\w.heap.size+1<((w.alloc (.cells #[.string s0,.string s1,.string s2,.string s3,.string s4] 104)).alloc (.cells #[.string d0,.string d1,.string d2,.string d3,.string d4] 104)).heap.size):=⟨Nat.le_of_eq hr,by omega,by omega⟩
 have HST:Hid (Gath b r n D f src ((w.alloc (.cells #[.string s0,.string s1,.string s2,.string s3,.string s4] 104)).alloc (.cells #[.string d0,.string d1,.string d2,.string d3,.string d4] 104)) w0 (Maps.has D) (Maps.size D) [] (.slice none 0 0)):=⟨hrg0,gathered_nil src HM.out.1 HM.out.2.1,World.ownsRow_nil _ _ _ _,hg0,by rw[hs0];exact Nat.le_refl _,by simpa using hmD⟩
 clear hrg0 hg0 hs0 hr hWs hmD
 go_loopw [6] (fun mv wr=>∃ left cnt L,Hid (Gath b r n D f src ((w.alloc (.cells #[.string s0,.string s1,.string s2,.string s3,.string s4] 104)).alloc (.cells #[.string d0,.string d1,.string d2,.string d3,.string d4] 104)) wr left cnt L mv)) (fun _ wr=>wr.rangeLeft b r)
 case atStart=>exact⟨Maps.has D,Maps.size D,[],HST.out⟩
 case round=>
  obtain⟨left,cnt,L,HGA⟩:=hrel
  obtain⟨la,lc,rfl⟩:=row_shape HGA.out.row
  go_wp2_with (at_next;refine stop_at ?_)
  show wpList _ _ _ _ _ _
  refine wpList_next_ranges _ rfl (.tmp 11) rfl 104 lawP heldElem (fun x:Value=>x) (fun x:Value=>x) (fun key kl _=>⟨key,rfl⟩) (fun v y _=>⟨v,rfl⟩) b r n D left cnt rfl HGA.out.rg ?_ ?_
  ·intro hc0 hl0
   have HALL:Hid (∀ x,x ∈ L↔(src <+: x/\f x≠none)):=fun x=>(HGA.out.ga.2 x).trans ⟨fun h=>⟨h.2.1,h.2.2.1⟩,fun h=>⟨HF.out x h.2,h.1,h.2,hl0 _⟩⟩
   have HNOD:Hid L.Nodup:=HGA.out.ga.1
   clear hl0 hc0
   have HST2:Hid (PMap wr b n (carried f src dst [])):=PMap.congr ⟨M,⟨D,HGA.out.rg.owns,HM.out.1⟩,HM.out.2.1,HM.out.2.2⟩ (fun x _=>(carried_nil f src dst x).symm)
   have hLn:L.length<=n:=by have:=HGA.out.many;omega
   have HROW:Hid (wr.ownsRow (r+1) 104 5 (.slice la L.length lc) L.length (flatP L)):=HGA.out.row
   have HGR:Hid _:=World.grownBy.but HGA.out.gr (some b)
   have hszr:=HGA.out.sz
   go_wp2
   go_loopw [30] (fun i w2=>∃ k:Nat,k<=L.length/\i=.int .i64 (k:Int)/\Hid (PMap w2 b n (carried f src dst (L.take k)))/\Hid (((w.alloc (.cells #[.string s0,.string s1,.string s2,.string s3,.string s4] 104)).alloc (.cells #[.string d0,.string d1,.string d2,.string d3,.string d4] 104)).grownBy w2 (some b))/\Hid (w2.ownsRow (r+1) 104 5 (.slice la L.length lc) L.length (flatP L))/\r+1<=w2.heap.size) (fun i _=>L.length-(intOf i).toNat)
   case atStart=>exact⟨0,Nat.zero_le _,rfl,HST2.out,HGR.out,HROW.out,hszr⟩
   case round=>
    obtain⟨k,hk,rfl,HPK,HGK,HRK,hszk⟩:=hrel
    by_cases hkl:k<L.length
    ·obtain⟨g,c',hsl⟩:=slice_of_owns HRK.out (by omega)
     cases hsl
     have hmem:=List.getElem_mem hkl
     obtain⟨hs,hfp⟩:=(HALL.out L[k]).1 hmem
     have hp:=HF.out _ hfp
     have hnin:L[k] ∉ L.take k:=by
      intro hin
      obtain⟨j,hj,hje⟩:=List.getElem_of_mem hin
      rw[List.length_take] at hj
      rw[List.getElem_take] at hje
      exact List.pairwise_iff_getElem.1 HNOD.out j k (by omega) hkl (by omega) hje
     have htk:L.take (k+1)=L.take k ++ [L[k]]:=List.take_succ_eq_append_getElem hkl
     have hLk:∀ x ∈ L.take k,src <+: x/\f x≠none:=fun x hx=>(HALL.out x).1 (List.mem_of_mem_take hx)
     obtain⟨p0,p1,p2,p3,p4,hPp⟩:∃ s0 s1 s2 s3 s4,pathA L[k] = #[.string s0,.string s1,.string s2,.string s3,.string s4]:=⟨_,_,_,_,_,rfl⟩
     obtain⟨hgl,e0,e1,e2,e3,e4⟩:=row5 HRK.out hkl hPp
     generalize L[k]=p at hmem hs hfp hp hnin htk hPp
     cases hv:f p with
     | none=>exact absurd hv hfp
     | some v=>
      have hsr:=pre_drop hs
      have hl5:=HLEN.out p hs hfp
      have hp5:=hp.len
      have hd5:src.length+(p.drop src.length).length<=5:=by rw[List.length_drop];have:=hs.length_le;omega
      have hmv:=HMOV.out (p.drop src.length) hd5 (by rw[List.length_drop];exact hl5)
      rw[hsr,hPp] at hmv
      have hqG:Good (movedP src dst p):=⟨HG.out.2.val.append (fun x hx=>hp.val x (List.mem_of_mem_drop hx)),by unfold movedP;rw[List.length_append,List.length_drop];exact hl5⟩
      have hturn:=fun W (hP:PMap W b n (carried f src dst (L.take k)))=>carry_turn hP (by unfold maxLen;omega) HDST.out hLk hp hs hv hnin hqG Tryz.underlying128 zeroEs 0
      change ∀ W,Calls Tryz.prog 128 _ W fun e w'=>e=.returned (.agg (pathA (movedP src dst p)))/\_ at hmv
      obtain⟨q0,q1,q2,q3,q4,hPq⟩:∃ s0 s1 s2 s3 s4,pathA (movedP src dst p) = #[.string s0,.string s1,.string s2,.string s3,.string s4]:=⟨_,_,_,_,_,rfl⟩
      rw[hPq] at hmv
      simp only[hPp,hPq] at hturn
      have HTURN:Hid _:=hturn
      have hb0:Below wr.heap.size wr (wr.alloc (.cells #[.string p0,.string p1,.string p2,.string p3,.string p4] 104)).drew:=below_drew ((Below.refl _ _).alloc (Nat.le_refl _) _)
      have hl0:=(hturn _ (HPK.out.keep (hb0.block b (by omega)))).1
      have kS:=fun o=>(out_cell HGK.out (c:=w.heap.size) HR2.out.2.1 (by omega) o)
      have kD:=fun o=>(out_cell HGK.out (c:=w.heap.size+1) HR2.out.2.2 (by omega) o)
      have hz0:w.heap.size<wr.heap.size:=by omega
      have hz1:w.heap.size+1<wr.heap.size:=by omega
      have hbz:b<wr.heap.size:=by omega
      have hnb:wr.heap.size≠b:=by omega
      have hnb0:w.heap.size≠b:=by omega
      have hnb1:w.heap.size+1≠b:=by omega
      have HTK:Hid _:=htk
      have HB0:Hid _:=hb0
      clear hturn hb0 hmem hs hfp hp hnin htk hPp hv hsr hl5 hp5 hd5 hqG hPq hLk
      clear HO HM HBEL HEQ HMOV HLEN HF HG HS HPM HNOD HST2 HROW HGR HST hi iz0 iz1 iz2
      go_wp2
      clear e0 e1 e2 e3 e4
      have hSD:Three (wr.alloc (.cells #[.string p0,.string p1,.string p2,.string p3,.string p4] 104)).drew wr.heap.size w.heap.size (w.heap.size+1) p0 p1 p2 p3 p4 s0 s1 s2 s3 s4 d0 d1 d2 d3 d4:=by
       unfold Three
       have q0:=Nat.ne_of_lt hz0
       have q1:=Nat.ne_of_lt hz1
       simp[World.cell?_alloc_lt,hz0,hz1,kS,kD]
      go_region_held3 (fun w'=>w'.cell? ⟨wr.heap.size,0,none⟩=some (.string p0)/\w'.cell? ⟨wr.heap.size,1,none⟩=some (.string p1)/\w'.cell? ⟨wr.heap.size,2,none⟩=some (.string p2)/\w'.cell? ⟨wr.heap.size,3,none⟩=some (.string p3)/\w'.cell? ⟨wr.heap.size,4,none⟩=some (.string p4)/\w'.cell? ⟨w.heap.size,0,none⟩=some (.string s0)/\w'.cell? ⟨w.heap.size,1,none⟩=some (.string s1)/\w'.cell? ⟨w.heap.size,2,none⟩=some (.string s2)/\w'.cell? ⟨w.heap.size,3,none⟩=some (.string s3)/\w'.cell? ⟨w.heap.size,4,none⟩=some (.string s4)/\w'.cell? ⟨w.heap.size+1,0,none⟩=some (.string d0)/\w'.cell? ⟨w.heap.size+1,1,none⟩=some (.string d1)/\w'.cell? ⟨w.heap.size+1,2,none⟩=some (.string d2)/\w'.cell? ⟨w.heap.size+1,3,none⟩=some (.string d3)/\w'.cell? ⟨w.heap.size+1,4,none⟩=some (.string d4)) (first | exact hSD | exact hS3 | exact hS4) (first | (go_at_call 128;refine (hmv _).mono ?_;rintro e w3 ⟨rfl,hb3⟩;obtain⟨m1,m2,m3,m4⟩:=moved_keep hb3 hz0 hz1;have hS3:=hSD.keep m1 m2 m3;have hb03:=below_via HB0.out hb3;obtain⟨hl3,w4,w5,hrun4,hrun5,hP5,hg4,hg5,hs4,hs5⟩:=HTURN.out w3 (HPK.out.keep (hb03.block b hbz));have hS4:=hS3.keep (out_cell hg4 m4 hnb) (out_cell hg4 (Nat.lt_trans hz0 m4) hnb0) (out_cell hg4 (Nat.lt_trans hz1 m4) hnb1);have HE:Hid _:=carry_keep hbr HGK.out HRK.out hszk hb03 hg4 hg5;have HP5:Hid _:=hP5;have hz4:wr.heap.size<w4.heap.size:=Nat.lt_of_lt_of_le m4 (Nat.le_of_eq hs4.symm);clear hg4 hg5 hs4 hs5 hP5 hb03 m1 m2 m3 hb3))
      all_goals
       go_wp2
       go_roundw
       case rel=>exact⟨k+1,by omega,by go_num,by rw[HTK.out];exact HP5.out,HE.out.1,HE.out.2.1,HE.out.2.2⟩
       case measure=>simp[intOf];omega
    ·have hke:k=L.length:=by omega
     subst hke
     rw[List.take_length] at HPK
     go_wp2
     go_end0
     refine⟨rfl,HPK.out.congr (fun x _=>carried_all HDST.out HALL.out x),?_⟩
     exact (World.grownBy.but (below_grown (((Below.refl w.heap.size w).alloc (Nat.le_refl _) _).alloc (by simp) _)) (some b)).andThen HGK.out (fun j hj=>.inr (by rw[hj]))
  ·intro x c kl y w1 cnt1 hkey hlk hv hat hrg1 hlt hg1 hs1 hen
   obtain⟨p,hp,rfl,rfl,hfp⟩:=came HM.out.1 HM.out.2.1 HM.out.2.2 hkey hat
   obtain⟨p0,p1,p2,p3,p4,hPp⟩:∃ s0 s1 s2 s3 s4,pathA p = #[.string s0,.string s1,.string s2,.string s3,.string s4]:=⟨_,_,_,_,_,rfl⟩
   have hbp:=HBEL.out p hp
   have hep:∀ W,(Op.equalIn 10000 104 (.agg (pathA p)) (.agg #[.string s0,.string s1,.string s2,.string s3,.string s4])).run Tryz.prog W=.ok (decide (p=src)) W:=HEQ.out p hp
   obtain⟨hno,hyes⟩:=HGA.out.next hbr HR2.out.1 hrg1 hlt hg1 hp hlk hfp
   have kS:=fun o=>(out_cell hg1 (c:=w.heap.size) (Nat.lt_of_lt_of_le hr0 (Nat.le_of_succ_le HGA.out.sz)) (by omega) o).trans (HGA.out.box HR2.out.2.1 o)
   have hz1:w.heap.size<w1.heap.size:=by rw[hs1];exact Nat.lt_of_lt_of_le hr0 (Nat.le_of_succ_le HGA.out.sz)
   have HLT:Hid (cnt1<cnt):=hlt
   have HRG1:Hid _:=hrg1
   rw[hPp] at hbp hep hen ⊢
   have HPp:Hid _:=hPp
   have HNO:Hid _:=hno
   have HYES:Hid _:=hyes
   clear hno hyes hkey hlk hv hat hrg1 hlt hg1 hs1 hfp hPp
   by_cases hs:src <+: p
   ·by_cases he:p=src
    ·rw[decide_eq_true he] at hep
     clear hbp
     obtain⟨y1,y2,y3,y4⟩:=HYES.out hs
     have hW:Below w1.heap.size w1 (w1.alloc (.cells #[.string p0,.string p1,.string p2,.string p3,.string p4] 104)):=(Below.refl _ _).alloc (Nat.le_refl _) _
     have HROW:Hid _:=y1.alloc (.cells #[.string p0,.string p1,.string p2,.string p3,.string p4] 104)
     have HSZ:Hid _:=Nat.le_trans y2 hW.size
     have HEND:Hid _:=y4
     have HW:Hid _:=hW
     have h63:L.length+1<=maxLen:=by unfold maxLen;omega
     have hby:(L.length+1)*80<=140737488355328:=by omega
     clear y1 y2 y4 hW
     go_wp2_with (at_builtin;go_loud (refine wpList_append_own_at _ rfl (.tmp 24) (.tmp 26) 200 rfl (r+1) 104 i0 _ 5 80 Tryz.underlying200 hi iz0 iz1 iz2 rfl (by decide) (.slice la L.length lc) L.length (flatP L) rfl (World.ownsRow.alloc HROW.out _) ⟨w1.heap.size+1,0,none⟩ 1 1 [.string p0,.string p1,.string p2,.string p3,.string p4] rfl rfl (new5b w1 _ _ _ _ _ _ 104) (five_one _ _ _ _ _) h63 hby (Nat.le_trans HSZ.out (alloc_le _ _)) ?_;intro v' w3 hown' hgrow _ hloc;obtain⟨g',cap',rfl⟩:=slice_of_owns hown' (Nat.succ_pos _);have HOWN:Hid _:=hown';have HGROW:Hid _:=hgrow;clear hown' hgrow hloc))
     have HNEW:Hid (Gath b r n D f src _ w3 _ cnt1 (L ++ [p]) _):=HEND.out _ w3 _ (HW.out.alloc HW.out.size (.cells #[.string p0,.string p1,.string p2,.string p3,.string p4] 104)) (by rw[HPp.out];exact HOWN.out) HGROW.out
     go_roundw
     case rel=>exact⟨_,_,_,HNEW.out⟩
     case measure=>rw[HNEW.out.rg.left_eq,HGA.out.rg.left_eq];exact HLT.out
    ·rw[decide_eq_false he] at hep
     rw[decide_eq_true ⟨hs,he⟩] at hbp
     obtain⟨y1,y2,y3,y4⟩:=HYES.out hs
     have HEND:Hid _:=y4
     have h63:L.length+1<=maxLen:=by unfold maxLen;omega
     have hby:(L.length+1)*80<=140737488355328:=by omega
     clear y4
     have hz2:w.heap.size<(w1.alloc (.cells #[.string p0,.string p1,.string p2,.string p3,.string p4] 104)).heap.size:=by simp;omega
     have hz3:w1.heap.size<(w1.alloc (.cells #[.string p0,.string p1,.string p2,.string p3,.string p4] 104)).heap.size:=by simp
     go_wp2_with (first
      | (go_at_call 81;refine Calls.mono (hbp _) ?_;rintro e w2 ⟨rfl,hb2⟩;have k2:=fun o=>(bcell hb2).1 w1.heap.size o hz3;have hz4:=Nat.lt_of_lt_of_le hz3 hb2.size;have hW:=below_via ((Below.refl w1.heap.size w1).alloc (Nat.le_refl _) _) hb2;have HROW:Hid (w2.ownsRow (r+1) 104 5 (.slice la L.length lc) L.length (flatP L)):=ownsRow_keep y1 (fun g hg=>hW.block g (ownsRow_lt y1 hg));have HSZ:Hid (r+1<=w2.heap.size):=Nat.le_trans y2 hW.size;have HW:Hid _:=hW;clear hW)
      | (at_builtin;go_loud (refine wpList_append_own_at _ rfl (.tmp 24) (.tmp 26) 200 rfl (r+1) 104 i0 _ 5 80 Tryz.underlying200 hi iz0 iz1 iz2 rfl (by decide) (.slice la L.length lc) L.length (flatP L) rfl (World.ownsRow.alloc HROW.out _) ⟨w2.heap.size,0,none⟩ 1 1 [.string p0,.string p1,.string p2,.string p3,.string p4] rfl rfl (new5 w2 _ _ _ _ _ 104) (five_one _ _ _ _ _) h63 hby (Nat.le_trans HSZ.out (alloc_le _ _)) ?_;intro v' w3 hown' hgrow _ hloc;obtain⟨g',cap',rfl⟩:=slice_of_owns hown' (Nat.succ_pos _);have HOWN:Hid _:=hown';have HGROW:Hid _:=hgrow;clear hown' hgrow hloc)))
     have HNEW:Hid (Gath b r n D f src _ w3 _ cnt1 (L ++ [p]) _):=HEND.out _ w3 _ (HW.out.alloc HW.out.size (.cells #[.string p0,.string p1,.string p2,.string p3,.string p4] 104)) (by rw[HPp.out];exact HOWN.out) HGROW.out
     go_roundw
     case rel=>exact⟨_,_,_,HNEW.out⟩
     case measure=>rw[HNEW.out.rg.left_eq,HGA.out.rg.left_eq];exact HLT.out
   ·have he:p≠src:=fun e=>hs (e ▸ List.prefix_refl _)
    rw[decide_eq_false he] at hep
    rw[decide_eq_false (fun h=>hs h.1)] at hbp
    go_wp2_with (go_at_call 81;refine Calls.mono (hbp _) ?_;rintro e w2 ⟨rfl,hb2⟩)
    have HNEW:Hid _:=(HNO.out hs).below (below_via ((Below.refl _ _).alloc (Nat.le_refl _) _) hb2)
    go_roundw
    case rel=>exact⟨_,_,L,HNEW.out⟩
    case measure=>rw[(Gath.rg HNEW.out).left_eq,HGA.out.rg.left_eq];exact HLT.out
end Go.Proofs.YtajopoddmfdejaaGreat
