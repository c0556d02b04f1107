/- What is proved here: the document's own store. -/
import Derived.Test.YtlgidcmmgohagaaGreatFileM04
namespace Go.Proofs.YtlgidcmmgohagaaGreat
open Go.RowKit Go.Sort Go.Shelf Go.Proofs.Tryz
set_option linter.unusedVariables false
set_option maxRecDepth 100000
set_option maxHeartbeats 16000000
theorem sorted_zero (a:Option Addr)(c0:Nat)(w:World):Calls prog 107 #[.slice a 0 c0] w fun e w'=>e=.returned (.slice none 0 0)/\w'=w:=by
 go_enter func107,ntmps107;go_wp2
 go_loopw [3,4] (fun v i wo=>v=.slice none 0 0/\i=.int .i64 0/\wo=w) (fun _ _ _=>0)
 case atStart=>exact⟨rfl,rfl,rfl⟩
 case round=>
  obtain⟨rfl,rfl,rfl⟩:=hrel;go_wp2;go_ret;exact⟨rfl,rfl⟩
def ListedR (w:World)(a:Option Addr)(m:Nat)(ls:List Ent):Prop:=ls.length=m/\(0<m->∃b off,a=some ⟨b,off,none⟩/\b<w.heap.size/\∀j u,(flat ls)[j]? = some u->w.cell? ⟨b,off+j,none⟩=some u)
theorem sorted_gen (a:Option Addr)(m c0:Nat)(ls:List Ent)(w:World)(hl:ListedR w a m ls)(hm:m<=16)(hsz:∀e ∈ ls,e.1.size<=maxLen):
  Calls prog 107 #[.slice a m c0] w fun e w'=>∃v,e=.returned v/\w'.ownsRow w.heap.size 112 3 v m (flat (insAll ls))/\Below w.heap.size w w':=by
 rcases Nat.eq_zero_or_pos m with rfl | hp
 ·have:ls = []:=List.eq_nil_of_length_eq_zero hl.1
  subst this;exact (sorted_zero a c0 w).mono fun e w' ⟨he,hw⟩=>⟨_,he,by subst hw;exact World.ownsRow_nil _ _ _ _,by subst hw;exact Below.refl _ _⟩
 ·obtain⟨b,off,rfl,hbl,hc⟩:=hl.2 hp
  exact sorted_any b off m c0 ls w hl.1 hm hbl hc hsz
def rgood (ros:List Ob)(e:Ent):Bool:=decide (0<=e.2.2) && decide (((ros[e.2.2.toNat]?).map (·.kind)).getD 0=e.2.1)
def dirR (v:Option Addr×Nat)(m:Nat)(es:List Ent):Ob:={ kind:=2,data:=ByteArray.empty,ea:=v.1,el:=m,ec:=v.2,ents:=es,high:=0 }
def RDirPut (ros ros':List Ob)(ls:List Ent)(x y:Int):Prop:=
 ((∃e ∈ ls,validB e.1=false)/\ros'=ros/\x = -1/\y=1)\/
 ((∀e ∈ ls,validB e.1=true)/\
  ((¬(ls.map (·.1)).Nodup/\ros'=ros/\x = -1/\y=6)\/
   ((ls.map (·.1)).Nodup/\16<ls.length/\ros'=ros/\x = -1/\y=11)\/
   ((ls.map (·.1)).Nodup/\ls.length<=16/\(∃e ∈ ls,rgood ros e=false)/\ros'=ros/\x = -1/\y=13)\/
   ((ls.map (·.1)).Nodup/\ls.length<=16/\(∀e ∈ ls,rgood ros e=true)/\5<rhighs ros ls/\ros'=ros/\x = -1/\y=11)\/
   ((ls.map (·.1)).Nodup/\ls.length<=16/\(∀e ∈ ls,rgood ros e=true)/\rhighs ros ls<=5/\∃v z,RPutG ros ros' (dirR v ls.length (insAll ls)) z/\((z<0/\x = -1/\y=11)\/(0<=z/\x=z/\y=0)))))
theorem owns_form {w:World}{base:Nat}{e:TypeId}{size n:Nat}{v:Value}{xs:List Value}(h:w.ownsRow base e size v n xs):∃a c,v=.slice a n c:=by
 rcases h.2 with ⟨rfl,rfl⟩ | ⟨g,cap,_,hv,_⟩
 ·exact⟨none,0,rfl⟩
 ·exact⟨_,_,hv⟩
theorem Keeps.after {F:Nat->Prop}{w w1 w2:World}(h:Keeps F w1 w2)(hb:Below w.heap.size w w1):Keeps F w w2:=
 ⟨h.os.trans hb.os,h.tape.trans hb.tape,h.output.trans hb.output,zzG hb.size h.size,fun k hk hn=>(h.block k (zzA hk hb.size) hn).trans (hb.block k hk)⟩
theorem rhighs_perm (ros:List Ob){es fs:List Ent}(h:es.Perm fs):rhighs ros es=rhighs ros fs:=by
 unfold rhighs;refine List.Perm.foldl_eq' h (fun x _ y _ z=>?_) 0;omega
theorem rputDir_any {F:Nat->Prop}{w:World}{r:Nat}{ros:List Ob}(h:RefInv F w r ros)(a:Option Addr)(m c0:Nat)(ls:List Ent)(hl:ListedR w a m ls)(hbig:m*32<=140737488355328)(hsz:∀e ∈ ls,e.1.size<=maxLen)
  (hat:∀e ∈ ls,-1<=e.2.2/\e.2.2<(ros.length:Int)):
  Calls prog 82 #[.pointer (some ⟨r,0,none⟩),.slice a m c0] w fun e w'=>∃x y ros',e=.returned (.tuple #[.int .i64 x,.int .i64 y])/\RDirPut ros ros' ls x y/\RefInv (NewF F w w') w' r ros'/\Keeps F w w':=by
 have HR:Hid (RefInv F w r ros):=h;have HS:Hid (∀e ∈ ls,e.1.size<=maxLen):=hsz;have HA:Hid (∀e ∈ ls,-1<=e.2.2/\e.2.2<(ros.length:Int)):=hat;have HL:Hid (ls.length=m):=hl.1;have HC:Hid (ListedR w a m ls):=hl;have HK:∀q,Hid (RefInv (NewF F w (w.drewN q)) (w.drewN q) r ros/\Keeps F w (w.drewN q)):=fun q=>⟨HR.out.below (below_drewN (Below.refl _ _) q) (fun k hk=>.inl hk),Keeps.of_below (below_drewN (Below.refl _ _) q)⟩;clear h hsz hat hl;go_enter func82,ntmps82;go_wp2
 go_loopw [6] (fun i wr=>∃k:Nat,k<=m/\i=.int .i64 k/\(∃q,wr=w.drewN q)/\Hid (∀j (hj:j<ls.length),j<k->validB ls[j].1=true)) (fun i _=>m-(intOf i).toNat)
 case atStart=>exact⟨0,zzF _,rfl,⟨0,rfl⟩,fun j hj h=>by omega⟩
 case round=>
  obtain⟨k,hk,rfl,⟨q,rfl⟩,HV⟩:=hrel;by_cases hlt:k<m
  ·have hk':k<ls.length:=by rw[HL.out];exact hlt
   obtain⟨b,off,rfl,hbl,hc⟩:=HC.out.2 (by omega);obtain⟨d0,_,_⟩:=row_cells hc hk';have HCC:Hid (∀j u,(flat ls)[j]? = some u->w.cell? ⟨b,off+j,none⟩=some u):=hc;clear hc;have d0':(w.drewN q).cell? ⟨b,off+k*3,none⟩=some (.string ls[k].1):=d0;have hv:=fun W=>named_any ls[k].1 W (HS.out ls[k] (zzJ hk'));cases hvb:validB ls[k].1 with
   | false=>
    have HVB:Hid (validB ls[k].1=false):=hvb;rw[hvb] at hv;clear hvb;go_wp2_with (go_at_call 150;refine (hv _).mono ?_;rintro e w' ⟨rfl,q2,rfl⟩);go_ret2;exact⟨_,_,ros,rfl,.inl ⟨⟨ls[k],zzJ hk',HVB.out⟩,rfl,rfl,rfl⟩,(HK (q+q2)).out⟩
   | true=>
    have HVB:Hid (validB ls[k].1=true):=hvb;rw[hvb] at hv;clear hvb;go_wp2_with (go_at_call 150;refine (hv _).mono ?_;rintro e w' ⟨rfl,q2,rfl⟩);go_roundw
    case rel=>
     refine⟨k+1,by omega,by go_num,⟨q+q2,rfl⟩,?_⟩;intro j hj hjk;by_cases e:j=k
     ·subst e;exact HVB.out
     ·exact HV.out j hj (by omega)
    case measure=>simp[intOf];omega
  ·have HVA:Hid (∀x ∈ ls,validB x.1=true):=by
    intro x hx;obtain⟨j,hj,rfl⟩:=List.getElem_of_mem hx;exact HV.out j hj (by rw[HL.out] at hj;omega)
   clear HV;go_wp2
   go_loopw [8] (fun i wr=>∃k:Nat,k<=m/\i=.int .i64 k/\(∃q,wr=w.drewN q)/\Hid (∀i j (hi:i<ls.length) (hj:j<ls.length),i<k->j<i->ls[i].1≠ls[j].1)) (fun i _=>m-(intOf i).toNat)
   case atStart=>exact⟨0,zzF _,rfl,⟨q,rfl⟩,fun i j hi hj h1 h2=>by omega⟩
   case round=>
    obtain⟨k2,hk2,rfl,⟨q3,rfl⟩,HD⟩:=hrel;by_cases hlt2:k2<m
    ·have hk2':k2<ls.length:=by rw[HL.out];exact hlt2
     obtain⟨b,off,rfl,hbl,hc⟩:=HC.out.2 (by omega);obtain⟨d0,_,_⟩:=row_cells hc hk2';have HCC:Hid (∀j u,(flat ls)[j]? = some u->w.cell? ⟨b,off+j,none⟩=some u):=hc;clear hc;have hkm2:(k2:Int)<(m:Int):=by omega
     go_wp2
     go_loopw [9] (fun i wr=>∃k3:Nat,k3<=k2/\i=.int .i64 k3/\(∃q,wr=w.drewN q)/\Hid (∀j (hj:j<ls.length),j<k3->ls[k2].1≠ls[j].1)) (fun i _=>k2-(intOf i).toNat)
     case atStart=>exact⟨0,zzF _,rfl,⟨q3,rfl⟩,fun j hj h=>by omega⟩
     case round=>
      obtain⟨k3,hk3,rfl,⟨q4,rfl⟩,HE⟩:=hrel;by_cases hlt3:k3<k2
      ·have hk3':k3<ls.length:=by omega
       obtain⟨e0,_,_⟩:=row_cells HCC.out hk3';have d0':(w.drewN q4).cell? ⟨b,off+k2*3,none⟩=some (.string ls[k2].1):=d0;have e0':(w.drewN q4).cell? ⟨b,off+k3*3,none⟩=some (.string ls[k3].1):=e0;have hkm3:(k3:Int)<(m:Int):=by omega
       cases hnm:ls[k2].1.toList == ls[k3].1.toList with
       | true=>
        have HN:Hid ((ls[k2].1.toList == ls[k3].1.toList)=true):=hnm;go_wp2
        go_quiet (fail)
        go_wp2;go_ret2;refine⟨_,_,ros,rfl,.inr ⟨HVA.out,.inl ⟨?_,rfl,rfl,rfl⟩⟩,by rw[World.drewN_drewN];exact (HK _).out⟩;intro hnd;have hne:=List.pairwise_iff_getElem.1 hnd k3 k2 (by simpa using hk3') (by simpa using hk2') hlt3;simp only[List.getElem_map] at hne;exact hne (bytes_eq (by simpa using HN.out)).symm
       | false=>
        have HN:Hid ((ls[k2].1.toList == ls[k3].1.toList)=false):=hnm;go_wp2
        go_quiet (fail)
        go_wp2;go_roundw
        case rel=>
         refine⟨k3+1,by omega,by go_num,⟨q4+nq,rfl⟩,?_⟩;intro j hj hjk;by_cases e:j=k3
         ·subst e;intro h;have:=HN.out;rw[h] at this;simp at this
         ·exact HE.out j hj (by omega)
        case measure=>simp[intOf];omega
      ·go_wp2
       go_roundw
       case rel=>
        refine⟨k2+1,by omega,by go_num,⟨q4,rfl⟩,?_⟩;intro i j hi hj h1 h2;by_cases e:i=k2
        ·subst e;exact HE.out j hj (by omega)
        ·exact HD.out i j hi hj (by omega) h2
       case measure=>simp[intOf];omega
    ·have HND:Hid ((ls.map (·.1)).Nodup):=by
      refine List.pairwise_iff_getElem.2 fun i j hi hj hij=>?_;simp only[List.getElem_map];simp only[List.length_map] at hi hj;exact (HD.out j i hj hi (by rw[HL.out] at hj;omega) hij).symm
     clear HD;by_cases h16:16<m
     ·go_wp2
      go_ret2;exact⟨_,_,ros,rfl,.inr ⟨HVA.out,.inr (.inl ⟨HND.out,by rw[HL.out];exact h16,rfl,rfl,rfl⟩)⟩,(HK q3).out⟩
     ·have hm16:m<=16:=by omega
      go_wp2
      go_loopw [10,11] (fun t i wr=>∃k:Nat,∃dp:Bool,k<=m/\i=.int .i64 k/\t=.bool dp/\(∃q,wr=w.drewN q)/\Hid (dp=decide (5<rhighs ros (ls.take k)))/\Hid (∀j (hj:j<ls.length),j<k->rgood ros ls[j]=true)) (fun _ i _=>m-(intOf i).toNat)
      case atStart=>exact⟨0,false,zzF _,rfl,rfl,⟨q3,rfl⟩,rfl,fun j hj h=>by omega⟩
      case round=>
       obtain⟨k4,dp,hk4,rfl,rfl,⟨q5,rfl⟩,HDP,HG⟩:=hrel;by_cases hlt4:k4<m
       ·have hk4':k4<ls.length:=by rw[HL.out];exact hlt4
        obtain⟨b,off,rfl,hbl,hc⟩:=HC.out.2 (by omega);obtain⟨_,d1,d2⟩:=row_cells hc hk4';have d1':(w.drewN q5).cell? ⟨b,off+k4*3+1,none⟩=some (.int .i64 ls[k4].2.1):=d1;have hkm4:(k4:Int)<(m:Int):=by omega
        clear hc;obtain⟨ha0,ha1⟩:=HA.out _ (zzJ hk4');by_cases hneg:ls[k4].2.2<0
        ·have hm1:ls[k4].2.2 = -1:=by omega
         rw[hm1] at d2;have d2':(w.drewN q5).cell? ⟨b,off+k4*3+2,none⟩=some (.int .i64 (-1)):=d2;have HB:Hid (rgood ros ls[k4]=false):=by
          show rgood ros ls[k4]=false;unfold rgood;rw[zzE (by omega)];rfl
         clear hm1 hneg ha0 ha1;go_wp2
         go_quiet (fail)
         go_wp2;go_ret2;exact⟨_,_,ros,rfl,.inr ⟨HVA.out,.inr (.inr (.inl ⟨HND.out,by rw[HL.out];exact hm16,⟨ls[k4],zzJ hk4',HB.out⟩,rfl,rfl,rfl⟩))⟩,by rw[World.drewN_drewN];exact (HK _).out⟩
        ·obtain⟨j,hj⟩:∃j:Nat,ls[k4].2.2=(j:Int):=⟨ls[k4].2.2.toNat,by omega⟩
         have hjl:j<ros.length:=(by omega);have hjl':(j:Int)<(ros.length:Int):=by omega
         rw[hj] at d2;have d2':(w.drewN q5).cell? ⟨b,off+k4*3+2,none⟩=some (.int .i64 (j:Int)):=d2;have hj0:decide ((j:Int)<0)=false:=by simp
         obtain⟨aa,cap,hra⟩:=HR.out;obtain⟨g,rfl,hgl,c0,_,_,c3⟩:=row_obs hra.row rfl hjl;have c0':=fun q=>(show (w.drewN q).cell? ⟨g,j*4,none⟩=some (.int .i64 ros[j].kind) from c0);have c3':=fun q=>(show (w.drewN q).cell? ⟨g,j*4+3,none⟩=some (.int .i64 ros[j].high) from c3);have r0':=fun q=>(show (w.drewN q).cell? ⟨r,0,none⟩=some (.slice (some ⟨g,0,none⟩) ros.length cap) from hra.c0);have d2'':=fun q=>(show (w.drewN q).cell? ⟨b,off+k4*3+2,none⟩=some (.int .i64 (j:Int)) from d2);obtain⟨hh0,hh5⟩:0<=ros[j].high/\ros[j].high<=5:=⟨(hra.obs _ (zzJ hjl)).high0,(hra.obs _ (zzJ hjl)).high5⟩;have d1'':=fun q=>(show (w.drewN q).cell? ⟨b,off+k4*3+1,none⟩=some (.int .i64 ls[k4].2.1) from d1);have HJ:Hid (ls[k4].2.2=(j:Int)):=hj;clear hj hneg ha0 ha1 hra d1' d2';cases hkk:(ros[j].kind != ls[k4].2.1) with
         | true=>
          have HB:Hid (rgood ros ls[k4]=false):=by
           show rgood ros ls[k4]=false;unfold rgood;rw[HJ.out,Int.toNat_natCast,zzH hjl]
           have:¬ros[j].kind=ls[k4].2.1:=by simpa using hkk
           simp[this]
          go_wp2
          go_quiet (fail)
          go_wp2;go_ret2;exact⟨_,_,ros,rfl,.inr ⟨HVA.out,.inr (.inr (.inl ⟨HND.out,by rw[HL.out];exact hm16,⟨ls[k4],zzJ hk4',HB.out⟩,rfl,rfl,rfl⟩))⟩,by rw[World.drewN_drewN];exact (HK _).out⟩
         | false=>
          have HB:Hid (rgood ros ls[k4]=true):=by
           show rgood ros ls[k4]=true;unfold rgood;rw[HJ.out,Int.toNat_natCast,zzH hjl]
           have:ros[j].kind=ls[k4].2.1:=by simpa using hkk
           simp[this]
          have HST:Hid (rhighs ros (ls.take (k4+1))=max (rhighs ros (ls.take k4)) (1+ros[j].high)):=by
           show _=_;rw[zzI hk4',rhighs_snoc];unfold rhigh;rw[HJ.out,Int.toNat_natCast,zzH hjl];rfl
          cases dp with
          | true=>
           go_wp2
           go_quiet (fail)
           go_wp2
           go_quiet (fail)
           go_wp2;go_roundw
           case rel=>
            refine⟨k4+1,true,by omega,by go_num,rfl,⟨_,rfl⟩,?_,?_⟩
            ·have:=of_decide_eq_true HDP.out.symm
             show true=_;rw[HST.out,decide_eq_true (by omega)]
            ·intro i hi hik
             by_cases e:i=k4
             ·subst e;exact HB.out
             ·exact HG.out i hi (by omega)
           case measure=>simp[intOf];omega
          | false=>
           by_cases h6:5<1+ros[j].high
           ·go_wp2
            go_quiet (fail)
            go_wp2
            go_quiet (fail)
            go_wp2;go_roundw
            case rel=>
             refine⟨k4+1,true,by omega,by go_num,by first | rfl | simp[h6],⟨_,rfl⟩,?_,?_⟩
             ·show true=_
              rw[HST.out,decide_eq_true (by omega)]
             ·intro i hi hik
              by_cases e:i=k4
              ·subst e;exact HB.out
              ·exact HG.out i hi (by omega)
            case measure=>simp[intOf];omega
           ·go_wp2
            go_quiet (fail)
            go_wp2
            go_quiet (fail)
            go_wp2;go_roundw
            case rel=>
             refine⟨k4+1,false,by omega,by go_num,by first | rfl | simp[h6],⟨_,rfl⟩,?_,?_⟩
             ·have:=of_decide_eq_false HDP.out.symm
              show false=_;rw[HST.out,zzE (by omega)]
             ·intro i hi hik
              by_cases e:i=k4
              ·subst e;exact HB.out
              ·exact HG.out i hi (by omega)
            case measure=>simp[intOf];omega
       ·have HGA:Hid (∀x ∈ ls,rgood ros x=true):=by
         intro x hx;obtain⟨j,hj,rfl⟩:=List.getElem_of_mem hx;exact HG.out j hj (by rw[HL.out] at hj;omega)
        have HT:Hid (ls.take k4=ls):=List.take_of_length_le (by rw[HL.out];omega);rw[HT.out] at HDP;have hl16:Hid (ls.length<=16):=by rw[HL.out];exact hm16
        clear HG;cases dp with
        | true=>
         go_wp2;go_ret2;exact⟨_,_,ros,rfl,.inr ⟨HVA.out,.inr (.inr (.inr (.inl ⟨HND.out,hl16.out,HGA.out,of_decide_eq_true HDP.out.symm,rfl,rfl,rfl⟩)))⟩,(HK q5).out⟩
        | false=>
         have H5:Hid (rhighs ros ls<=5):=by have:=of_decide_eq_false HDP.out.symm;exact Int.not_lt.1 this
         have hso:=sorted_gen a m c0 ls (w.drewN q5) HC.out hm16 HS.out;go_wp2_with fail;refine hso.mono ?_;rintro e w1 ⟨v,rfl,hown1,hb1⟩;have hb1':Below w.heap.size w w1:=(below_drewN (Below.refl _ _) q5).trans hb1;obtain⟨va,vc,hv⟩:=owns_form hown1;subst hv;have ho:RObOk (fun k=>w.heap.size<=k/\k<w1.heap.size) w1 (dirR (va,vc) m (insAll ls)):=
          ⟨.inr rfl,by show 0<=256;omega,by show (insAll ls).length=m;rw[(insAll_perm ls).length_eq,HL.out],hm16,Int.le_refl _,by show (0:Int)<=5;omega,owns_mono hown1 (zzF _),fun g hg=>hown1.lt g hg⟩
         have hinv1:RefInv F w1 r ros:=HR.out.below hb1' (fun _ h=>h);have hput:=rput_any hinv1 (dirR (va,vc) m (insAll ls)) ho rfl (by show rhighs ros (insAll ls)<=5;rw[rhighs_perm ros (insAll_perm ls)];exact H5.out) (fun e he=>by
          have he':e ∈ ls:=mem_insAll he;have h1:=HGA.out e he';have h2:=HA.out e he';unfold rgood at h1;simp only[Bool.and_eq_true,decide_eq_true_eq] at h1;exact⟨h1.1,h2.2⟩)
         have hput':Calls prog 78 #[.pointer (some ⟨r,0,none⟩),.agg #[.int .i64 2,.string ByteArray.empty,.slice va m vc,.int .i64 0]] w1 fun e w'=>∃x ros',e=.returned (.int .i64 x)/\RPutG ros ros' (dirR (va,vc) m (insAll ls)) x/\RefInv (Grow F (fun k=>w.heap.size<=k/\k<w1.heap.size) w1 w') w' r ros'/\Keeps F w1 w':=hput;clear hso hput hown1 ho hinv1;go_wp2_with fail;refine hput'.mono ?_;rintro e w2 ⟨z,ros',rfl,hp,hi2,hk2⟩;have HI:Hid (RefInv (NewF F w w2) w2 r ros'/\Keeps F w w2):=⟨hi2.keep (fun k hk=>by
          rcases hk with h | h | h
          ·exact .inl h
          ·exact .inr ⟨h.1,zzA h.2 hk2.size⟩
          ·exact .inr ⟨zzG hb1'.size h.1,h.2⟩) (fun _ _=>rfl),hk2.after hb1'⟩
         have HP:Hid (RPutG ros ros' (dirR (va,vc) ls.length (insAll ls)) z):=by rw[HL.out];exact hp
         clear hput' hi2 hk2 hp hb1;by_cases hz:z<0
         ·go_wp2
          go_ret2;exact⟨_,_,ros',rfl,.inr ⟨HVA.out,.inr (.inr (.inr (.inr ⟨HND.out,hl16.out,HGA.out,H5.out,_,z,HP.out,.inl ⟨hz,rfl,rfl⟩⟩)))⟩,HI.out⟩
         ·go_wp2
          go_ret2;exact⟨_,_,ros',rfl,.inr ⟨HVA.out,.inr (.inr (.inr (.inr ⟨HND.out,hl16.out,HGA.out,H5.out,_,z,HP.out,.inr ⟨by omega,rfl,rfl⟩⟩)))⟩,HI.out⟩
def encI (xs:List Int):List Value:=xs.map (Value.int .i64)
def encB (xs:List Bool):List Value:=xs.map Value.bool
structure LawAt (F:Nat->Prop)(w:World)(W s r:Nat)(ia ka pa:Option Addr)(ic kc pc:Nat)(ids:List Int)(known:List Bool)(paths:List Int)(c5 c6 c7 c8 c9 c10 c11:Value):Prop where
 fw:F W
 hW:w.heap[W]? = some (.cells #[.pointer (some ⟨s,0,none⟩),.pointer (some ⟨r,0,none⟩),.slice ia ids.length ic,.slice ka known.length kc,.slice pa paths.length pc,c5,c6,c7,c8,c9,c10,c11] 71 (0,0))
 rowI:w.ownsRow 0 29 1 (.slice ia ids.length ic) ids.length (encI ids)
 rowK:w.ownsRow 0 4 1 (.slice ka known.length kc) known.length (encB known)
 rowP:w.ownsRow 0 3 1 (.slice pa paths.length pc) paths.length (encI paths)
 fi:∀g,(Value.slice ia ids.length ic).ownBlock=some g->F g
 fk:∀g,(Value.slice ka known.length kc).ownBlock=some g->F g
 fp:∀g,(Value.slice pa paths.length pc).ownBlock=some g->F g
section
variable {F:Nat->Prop}{w:World}{W s r:Nat}{ia ka pa:Option Addr}{ic kc pc:Nat}{ids:List Int}{known:List Bool}{paths:List Int}{c5 c6 c7 c8 c9 c10 c11:Value}
theorem LawAt.keep {F':Nat->Prop}{w':World}(h:LawAt F w W s r ia ka pa ic kc pc ids known paths c5 c6 c7 c8 c9 c10 c11)(hF:∀k,F k->F' k)(hk:∀k,F k->w'.heap[k]? = w.heap[k]?):LawAt F' w' W s r ia ka pa ic kc pc ids known paths c5 c6 c7 c8 c9 c10 c11:=
 ⟨hF _ h.fw,(hk W h.fw).trans h.hW,ownsRow_keep h.rowI (fun g hg=>hk g (h.fi g hg)),ownsRow_keep h.rowK (fun g hg=>hk g (h.fk g hg)),ownsRow_keep h.rowP (fun g hg=>hk g (h.fp g hg)),fun g hg=>hF g (h.fi g hg),fun g hg=>hF g (h.fk g hg),fun g hg=>hF g (h.fp g hg)⟩
theorem LawAt.lt (h:LawAt F w W s r ia ka pa ic kc pc ids known paths c5 c6 c7 c8 c9 c10 c11):W<w.heap.size:=(Array.getElem?_eq_some_iff.1 h.hW).1
theorem LawAt.below {w':World}(h:LawAt F w W s r ia ka pa ic kc pc ids known paths c5 c6 c7 c8 c9 c10 c11)(hb:Below w.heap.size w w'):LawAt F w' W s r ia ka pa ic kc pc ids known paths c5 c6 c7 c8 c9 c10 c11:=
 ⟨h.fw,(hb.block W h.lt).trans h.hW,ownsRow_keep h.rowI (fun g hg=>hb.block g (ownsRow_lt h.rowI hg)),ownsRow_keep h.rowK (fun g hg=>hb.block g (ownsRow_lt h.rowK hg)),ownsRow_keep h.rowP (fun g hg=>hb.block g (ownsRow_lt h.rowP hg)),h.fi,h.fk,h.fp⟩
theorem LawAt.c0 (h:LawAt F w W s r ia ka pa ic kc pc ids known paths c5 c6 c7 c8 c9 c10 c11):w.cell? ⟨W,0,none⟩=some (.pointer (some ⟨s,0,none⟩)):=by simp[World.cell?,h.hW]
theorem LawAt.c1 (h:LawAt F w W s r ia ka pa ic kc pc ids known paths c5 c6 c7 c8 c9 c10 c11):w.cell? ⟨W,1,none⟩=some (.pointer (some ⟨r,0,none⟩)):=by simp[World.cell?,h.hW]
theorem LawAt.c2 (h:LawAt F w W s r ia ka pa ic kc pc ids known paths c5 c6 c7 c8 c9 c10 c11):w.cell? ⟨W,2,none⟩=some (.slice ia ids.length ic):=by simp[World.cell?,h.hW]
theorem LawAt.c3 (h:LawAt F w W s r ia ka pa ic kc pc ids known paths c5 c6 c7 c8 c9 c10 c11):w.cell? ⟨W,3,none⟩=some (.slice ka known.length kc):=by simp[World.cell?,h.hW]
theorem LawAt.c4 (h:LawAt F w W s r ia ka pa ic kc pc ids known paths c5 c6 c7 c8 c9 c10 c11):w.cell? ⟨W,4,none⟩=some (.slice pa paths.length pc):=by simp[World.cell?,h.hW]
theorem LawAt.fz (h:LawAt F w W s r ia ka pa ic kc pc ids known paths c5 c6 c7 c8 c9 c10 c11)(i:Nat):w.frozen? ⟨W,i,none⟩=false:=by simp[World.frozen?,h.hW]
theorem row_one {w:World}{t:TypeId}{a:Option Addr}{n c:Nat}{xs:List Value}(h:w.ownsRow 0 t 1 (.slice a n c) n xs){i:Nat}{v:Value}(hi:xs[i]? = some v):∃g,a=some ⟨g,0,none⟩/\g<w.heap.size/\w.cell? ⟨g,i,none⟩=some v/\i<n:=by
 have hin:i<n:=by have:=(List.getElem?_eq_some_iff.1 hi).1;have:=h.1;omega
 obtain⟨g,cap,hv⟩:=slice_of_owns h (by omega);have ha:=(Value.slice.inj hv).1;subst ha;refine⟨g,rfl,ownsRow_lt h rfl,?_,hin⟩
 have:=h.cells (g:=g) rfl i v hi
 rw[add_flat,Nat.zero_add] at this;exact this
def idOf (ids:List Int)(n:Int):Int:=if 1<=n/\n<=ids.length then ids.getD (n-1).toNat 0 else n
theorem id_any (h:LawAt F w W s r ia ka pa ic kc pc ids known paths c5 c6 c7 c8 c9 c10 c11)(n:Int)(hlen:ids.length<=400):
  Calls prog 39 #[.pointer (some ⟨W,0,none⟩),.int .i64 n] w fun e w'=>e=.returned (.int .i64 (idOf ids n))/\w'=w:=by
 have k2:=h.c2;have hlt:=h.lt;by_cases h1:1<=n
 ·by_cases h2:n<=(ids.length:Int)
  ·obtain⟨j,hj⟩:∃j:Nat,n=(j:Int)+1:=⟨(n-1).toNat,by omega⟩
   subst hj;have hjl:j<ids.length:=by omega
   obtain⟨g,rfl,hgl,c,_⟩:=row_one h.rowI (i:=j) (v:=.int .i64 ids[j]) (by simp[encI,zzH hjl]);have HE:Hid (idOf ids ((j:Int)+1)=ids[j]):=by
    show _=_;unfold idOf;rw[zzD ⟨h1,h2⟩,show ((j:Int)+1-1).toNat=j by omega];simp[hjl]
   have a1:(j:Int)+1-1=j:=by omega
   have a2:(j:Int)<ids.length:=by omega
   clear h;go_enter func39,ntmps39;go_wp2;go_ret;exact⟨by rw[HE.out];rfl,rfl⟩
  ·have HE:Hid (idOf ids n=n):=by show _=_;unfold idOf;rw[zzB (fun h=>h2 h.2)]
   have h2':decide (n<=(ids.length:Int))=false:=zzE h2;clear h;go_enter func39,ntmps39;go_wp2;go_ret;exact⟨by rw[HE.out];rfl,rfl⟩
 ·have HE:Hid (idOf ids n=n):=by show _=_;unfold idOf;rw[zzB (fun h=>h1 h.1)]
  have h1':decide (1<=n)=false:=zzE h1;clear h;go_enter func39,ntmps39;go_wp2;go_ret;exact⟨by rw[HE.out];rfl,rfl⟩
def placeOf (ids:List Int)(id:Int):Option Nat:=if 0<id then ids.findIdx? (fun x=>x == id) else none
theorem place_any (h:LawAt F w W s r ia ka pa ic kc pc ids known paths c5 c6 c7 c8 c9 c10 c11)(id:Int)(hlen:ids.length<=400):
  Calls prog 41 #[.pointer (some ⟨W,0,none⟩),.int .i64 id] w fun e w'=>e=.returned (.int .i64 (placeI (placeOf ids id)))/\w'=w:=by
 have k2:=h.c2;have hlt:=h.lt;have HR:Hid (w.ownsRow 0 29 1 (.slice ia ids.length ic) ids.length (encI ids)):=h.rowI;clear h;go_enter func41,ntmps41;go_wp2
 go_loopw [5] (fun i wr=>∃k:Nat,k<=ids.length/\i=.int .i64 k/\wr=w/\Hid (∀j (hj:j<ids.length),j<k->0<id->(ids[j] == id)=false)) (fun i _=>ids.length-(intOf i).toNat)
 case atStart=>exact⟨0,zzF _,rfl,rfl,fun j hj h=>by omega⟩
 case round=>
  obtain⟨k,hk,rfl,rfl,HV⟩:=hrel;by_cases hkl:k<ids.length
  ·obtain⟨g,rfl,hgl,c,_⟩:=row_one HR.out (i:=k) (v:=.int .i64 ids[k]) (by simp[encI,zzH hkl])
   cases he:(ids[k] == id) with
   | true=>
    have HE:Hid ((ids[k] == id)=true):=he;by_cases hp:0<id
    ·go_wp2
     go_ret;refine⟨?_,rfl⟩;have e:placeOf ids id=some k:=by
      unfold placeOf;rw[zzD hp];exact List.findIdx?_eq_some_iff_getElem.2 ⟨hkl,HE.out,fun j hj=>by have:=HV.out j (by omega) hj hp;simp[this]⟩
     rw[e];rfl
    ·have hp':decide (0<id)=false:=zzE hp
     go_wp2;go_roundw
     case rel=>exact⟨k+1,by omega,by go_num,by trivial,fun j hj hjk h0=>absurd h0 hp⟩
     case measure=>simp[intOf];omega
   | false=>
    have HE:Hid ((ids[k] == id)=false):=he;go_wp2;go_roundw
    case rel=>
     refine⟨k+1,by omega,by go_num,by trivial,fun j hj hjk h0=>?_⟩;by_cases e:j=k
     ·subst e;exact HE.out
     ·exact HV.out j hj (by omega) h0
    case measure=>simp[intOf];omega
  ·go_wp2
   go_ret;refine⟨?_,rfl⟩;have e:placeOf ids id=none:=by
    unfold placeOf;split
    ·next hp=>
     refine List.findIdx?_eq_none_iff.2 fun x hx=>?_;obtain⟨j,hj,rfl⟩:=List.getElem_of_mem hx;exact HV.out j hj (by omega) hp
    ·rfl
   rw[e];rfl
theorem wkind_neg (at_:Int)(hn:at_<0):Calls prog 42 #[.pointer (some ⟨W,0,none⟩),.int .i64 at_] w fun e w'=>e=.returned (.int .i64 0)/\w'=w:=by
 go_enter func42,ntmps42;go_wp2;go_ret;exact⟨rfl,rfl⟩
theorem wkind_at {G:Nat->Prop}{ros:List Ob}(h:LawAt F w W s r ia ka pa ic kc pc ids known paths c5 c6 c7 c8 c9 c10 c11)(hr:RefInv G w r ros)(j:Nat)(hj:j<ros.length):
  Calls prog 42 #[.pointer (some ⟨W,0,none⟩),.int .i64 (j:Int)] w fun e w'=>e=.returned (.int .i64 ros[j].kind)/\w'=w:=by
 have k1:=h.c1;obtain⟨a,cap,hra⟩:=hr;have k2:=hra.c0;have hm:=hra.many;obtain⟨g,rfl,hgl,c0,_⟩:=row_obs hra.row rfl hj;clear h hra;go_enter func42,ntmps42;go_wp2;go_ret;exact⟨rfl,rfl⟩
end
theorem wpList_append_at {P:Program}{w:World}{ops:Array Oper}{rest:List Oper}{o:Oper}{a:Act}{Q:Exit->Act->World->Prop}(hgd:o.guard=none)(s x:Operand)(t:TypeId)
  (ho:o.op=.call { callee:=.builtin .append,args:=#[s,x],argTypes:=#[t,t] })
  (base:Nat)(e:TypeId)(i:TypeInfo)(z:Value)(size bytes:Nat)(ht:P.underlying t=some (.slice e))(hi:P.info? e=some i)(hz:i.zero=some z)
  (hsize:i.size=size)(hby:i.bytes=bytes)(hzs:z.cells.size=size)(hsz:0<size)
  (v:Value)(n:Nat)(xs:List Value)(hs:a.eval s=v)(hown:w.ownsRow base e size v n xs)
  (ad:Addr)(m c:Nat)(news:List Value)(hx:a.eval x=.slice (some ad) m c)(hl:news.length=m*size)(hnews:∀j u,news[j]? = some u->w.cell? (ad.add j)=some u)(h1:∀u ∈ news,u.oneCell'=true)
  (h63:n+m<=maxLen)(hbytes:(n+m)*bytes<=140737488355328)(hbase:base<=w.heap.size)
  (h:∀v' w',w'.ownsRow base e size v' (n+m) (xs++news)->w.grownBy w' v.ownBlock->(v'.ownBlock=v.ownBlock\/v'.ownBlock=some w.heap.size)->wpList P ops Q rest (a.put o.dst v') w'):wpList P ops Q (o :: rest) a w:=by
 obtain⟨v',w',hrun,r1,r2,_,r3⟩:=run_append_own_at (P:=P) w base t o.type e i z size bytes ht hi hz hsize hby hzs hsz v n xs hown ad m c news hl hnews h1 h63 hbytes hbase;refine wpList_plain hgd fun _ hK=>?_;unfold Oper.wp;simp[execOp,ho,resolve,invoke,builtin,hs,hx,hrun,Result.andThen];exact hK _ _ (h v' w' r1 r2 r3)
theorem push_after {w w0 w2:World}{W i:Nat}{cs:Array Value}{T t:TypeId}{size n m:Nat}{a:Option Addr}{cap g cap':Nat}{xs news:List Value}(hW:w.heap[W]? = some (.cells cs T (0,0)))(row:w.ownsRow 0 t size (.slice a n cap) n xs)(hT:T≠t)
  (kb:∀q,q<w.heap.size->w0.heap[q]? = w.heap[q]?)(hsr:w.heap.size<=w0.heap.size)(hq:w0.os=w.os/\w0.tape=w.tape/\w0.output=w.output)(hown:w2.ownsRow 0 t size (.slice (some ⟨g,0,none⟩) (n+m) cap') (n+m) (xs++news))
  (hg:w0.grownBy w2 (Value.slice a n cap).ownBlock){b:Nat}(hloc:(Value.slice (some ⟨g,0,none⟩) (n+m) cap').ownBlock=(Value.slice a n cap).ownBlock\/(Value.slice (some ⟨g,0,none⟩) (n+m) cap').ownBlock=some b)(hbb:w.heap.size<=b):
  (w2.setCell ⟨W,i,none⟩ (.slice (some ⟨g,0,none⟩) (n+m) cap')).heap[W]? = some (.cells (cs.setIfInBounds i (.slice (some ⟨g,0,none⟩) (n+m) cap')) T (0,0))/\(w2.setCell ⟨W,i,none⟩ (.slice (some ⟨g,0,none⟩) (n+m) cap')).ownsRow 0 t size (.slice (some ⟨g,0,none⟩) (n+m) cap') (n+m) (xs++news)/\
    ((some g:Option Nat)=(Value.slice a n cap).ownBlock\/w.heap.size<=g)/\Keeps (fun k=>k=W\/some k=(Value.slice a n cap).ownBlock) w (w2.setCell ⟨W,i,none⟩ (.slice (some ⟨g,0,none⟩) (n+m) cap')):=by
 have hWl:W<w.heap.size:=(Array.getElem?_eq_some_iff.1 hW).1;have hpa:some W≠(Value.slice a n cap).ownBlock:=owns_ne_cells row hW hT;have hkeep:∀k,k<w.heap.size->some k≠(Value.slice a n cap).ownBlock->w2.heap[k]? = w.heap[k]?:=by
  intro k hk hne;rw[hg.block k (by omega) hne,kb k hk]
 have hw2:w2.heap[W]? = some (.cells cs T (0,0)):=by rw[hkeep W hWl hpa,hW]
 have hgr:g≠W:=by
  rintro rfl;rcases hloc with h1 | h1
  ·exact hpa h1
  ·simp[Value.ownBlock] at h1;omega
 have hs:=hg.size;refine⟨?_,?_,?_,⟨hg.os.trans hq.1,hg.tape.trans hq.2.1,hg.output.trans hq.2.2,by simp;omega,?_⟩⟩
 ·simp[World.setCell,Array.getElem?_modify,hw2]
 ·obtain⟨h1,h2⟩:=hown
  refine⟨h1,?_⟩;rcases h2 with ⟨h,_⟩ | ⟨g0,cap0,cur,hv,hb,hh,r⟩
  ·cases h
  ·cases hv
   exact Or.inr ⟨g,cap',cur,rfl,hb,by rw[Below.heap_setCell _ _ _ _ hgr];exact hh,r⟩
 ·rcases hloc with h | h
  ·exact Or.inl h
  ·simp[Value.ownBlock] at h;exact Or.inr (by omega)
 ·intro k hk hne
  rw[Below.heap_setCell _ _ _ _ (fun e=>hne (.inl e)),hkeep k hk (fun e=>hne (.inr e))]
theorem rows_apart {w:World}{b b':Nat}{t t':TypeId}{z z' n n':Nat}{v v':Value}{xs xs':List Value}(h:w.ownsRow b t z v n xs)(h':w.ownsRow b' t' z' v' n' xs')(ht:t≠t'){g:Nat}(hg:v.ownBlock=some g):some g≠v'.ownBlock:=by
 obtain⟨cur,hc⟩:=owns_block h hg;exact owns_ne_cells h' hc ht
theorem row_stays {w w':World}{W:Nat}{own:Option Nat}{b:Nat}{t:TypeId}{z n:Nat}{v:Value}{xs:List Value}(h:w.ownsRow b t z v n xs)(hk:Keeps (fun k=>k=W\/some k=own) w w'){cs:Array Value}{T:TypeId}(hW:w.heap[W]? = some (.cells cs T (0,0)))(hT:T≠t)(ho:∀g,v.ownBlock=some g->some g≠own):w'.ownsRow b t z v n xs:=by
 refine ownsRow_keep h fun g hg=>hk.block g (ownsRow_lt h hg) ?_;rintro (rfl | e)
 ·exact owns_ne_cells h hW hT hg.symm
 ·exact ho g hg e
section
variable {F:Nat->Prop}{w:World}{W s r:Nat}{ia ka pa:Option Addr}{ic kc pc:Nat}{ids:List Int}{known:List Bool}{paths:List Int}{c5 c6 c7 c8 c9 c10 c11:Value}
theorem keeps_sub {F:Nat->Prop}{w w':World}{W:Nat}{own:Option Nat}(h:Keeps (fun k=>k=W\/some k=own) w w')(h1:F W)(h2:∀g,own=some g->F g):Keeps F w w':=
 ⟨h.os,h.tape,h.output,h.size,fun k hk hn=>h.block k hk (by rintro (rfl | e);exact hn h1;exact hn (h2 k e.symm))⟩
theorem newF_of {F:Nat->Prop}{w w':World}{g n c:Nat}{own:Option Nat}{t:TypeId}{z:Nat}{xs:List Value}(p2:w'.ownsRow 0 t z (.slice (some ⟨g,0,none⟩) n c) n xs)(p3:(some g:Option Nat)=own\/w.heap.size<=g)(h2:∀g,own=some g->F g):∀k,(Value.slice (some ⟨g,0,none⟩) n c).ownBlock=some k->NewF F w w' k:=by
 intro k hk;simp only[Value.ownBlock,Option.some.injEq] at hk;subst hk;rcases p3 with e | e
 ·exact .inl (h2 _ e.symm)
 ·exact .inr ⟨e,ownsRow_lt p2 rfl⟩
theorem LawAt.pushI (h:LawAt F w W s r ia ka pa ic kc pc ids known paths c5 c6 c7 c8 c9 c10 c11){w':World}{g cap':Nat}{x:Int}
  (p:w'.heap[W]? = some (.cells (Array.setIfInBounds #[.pointer (some ⟨s,0,none⟩),.pointer (some ⟨r,0,none⟩),.slice ia ids.length ic,.slice ka known.length kc,.slice pa paths.length pc,c5,c6,c7,c8,c9,c10,c11] 2 (.slice (some ⟨g,0,none⟩) (ids.length+1) cap')) 71 (0,0))/\w'.ownsRow 0 29 1 (.slice (some ⟨g,0,none⟩) (ids.length+1) cap') (ids.length+1) (encI ids ++ [.int .i64 x])/\
    ((some g:Option Nat)=(Value.slice ia ids.length ic).ownBlock\/w.heap.size<=g)/\Keeps (fun k=>k=W\/some k=(Value.slice ia ids.length ic).ownBlock) w w'):
  LawAt (NewF F w w') w' W s r (some ⟨g,0,none⟩) ka pa cap' kc pc (ids ++ [x]) known paths c5 c6 c7 c8 c9 c10 c11/\Keeps F w w':=by
 obtain⟨p1,p2,p3,p4⟩:=p;have hl:(ids ++ [x]).length=ids.length+1:=by simp
 refine⟨⟨.inl h.fw,?_,?_,row_stays h.rowK p4 h.hW (by decide) (fun g hg=>rows_apart h.rowK h.rowI (by decide) hg),row_stays h.rowP p4 h.hW (by decide) (fun g hg=>rows_apart h.rowP h.rowI (by decide) hg),?_,fun g hg=>.inl (h.fk g hg),fun g hg=>.inl (h.fp g hg)⟩,keeps_sub p4 h.fw h.fi⟩
 ·rw[hl];exact p1
 ·rw[hl];simpa [encI] using p2
 ·rw[hl];exact newF_of p2 p3 h.fi
theorem LawAt.pushK (h:LawAt F w W s r ia ka pa ic kc pc ids known paths c5 c6 c7 c8 c9 c10 c11){w':World}{g cap':Nat}{x:Bool}
  (p:w'.heap[W]? = some (.cells (Array.setIfInBounds #[.pointer (some ⟨s,0,none⟩),.pointer (some ⟨r,0,none⟩),.slice ia ids.length ic,.slice ka known.length kc,.slice pa paths.length pc,c5,c6,c7,c8,c9,c10,c11] 3 (.slice (some ⟨g,0,none⟩) (known.length+1) cap')) 71 (0,0))/\w'.ownsRow 0 4 1 (.slice (some ⟨g,0,none⟩) (known.length+1) cap') (known.length+1) (encB known ++ [.bool x])/\
    ((some g:Option Nat)=(Value.slice ka known.length kc).ownBlock\/w.heap.size<=g)/\Keeps (fun k=>k=W\/some k=(Value.slice ka known.length kc).ownBlock) w w'):
  LawAt (NewF F w w') w' W s r ia (some ⟨g,0,none⟩) pa ic cap' pc ids (known ++ [x]) paths c5 c6 c7 c8 c9 c10 c11/\Keeps F w w':=by
 obtain⟨p1,p2,p3,p4⟩:=p;have hl:(known ++ [x]).length=known.length+1:=by simp
 refine⟨⟨.inl h.fw,?_,row_stays h.rowI p4 h.hW (by decide) (fun g hg=>rows_apart h.rowI h.rowK (by decide) hg),?_,row_stays h.rowP p4 h.hW (by decide) (fun g hg=>rows_apart h.rowP h.rowK (by decide) hg),fun g hg=>.inl (h.fi g hg),?_,fun g hg=>.inl (h.fp g hg)⟩,keeps_sub p4 h.fw h.fk⟩
 ·rw[hl];exact p1
 ·rw[hl];simpa [encB] using p2
 ·rw[hl];exact newF_of p2 p3 h.fk
theorem LawAt.pushP (h:LawAt F w W s r ia ka pa ic kc pc ids known paths c5 c6 c7 c8 c9 c10 c11){w':World}{g cap':Nat}{x:Int}
  (p:w'.heap[W]? = some (.cells (Array.setIfInBounds #[.pointer (some ⟨s,0,none⟩),.pointer (some ⟨r,0,none⟩),.slice ia ids.length ic,.slice ka known.length kc,.slice pa paths.length pc,c5,c6,c7,c8,c9,c10,c11] 4 (.slice (some ⟨g,0,none⟩) (paths.length+1) cap')) 71 (0,0))/\w'.ownsRow 0 3 1 (.slice (some ⟨g,0,none⟩) (paths.length+1) cap') (paths.length+1) (encI paths ++ [.int .i64 x])/\
    ((some g:Option Nat)=(Value.slice pa paths.length pc).ownBlock\/w.heap.size<=g)/\Keeps (fun k=>k=W\/some k=(Value.slice pa paths.length pc).ownBlock) w w'):
  LawAt (NewF F w w') w' W s r ia ka (some ⟨g,0,none⟩) ic kc cap' ids known (paths ++ [x]) c5 c6 c7 c8 c9 c10 c11/\Keeps F w w':=by
 obtain⟨p1,p2,p3,p4⟩:=p;have hl:(paths ++ [x]).length=paths.length+1:=by simp
 refine⟨⟨.inl h.fw,?_,row_stays h.rowI p4 h.hW (by decide) (fun g hg=>rows_apart h.rowI h.rowP (by decide) hg),row_stays h.rowK p4 h.hW (by decide) (fun g hg=>rows_apart h.rowK h.rowP (by decide) hg),?_,fun g hg=>.inl (h.fi g hg),fun g hg=>.inl (h.fk g hg),?_⟩,keeps_sub p4 h.fw h.fp⟩
 ·rw[hl];exact p1
 ·rw[hl];simpa [encI] using p2
 ·rw[hl];exact newF_of p2 p3 h.fp
end
end Go.Proofs.YtlgidcmmgohagaaGreat
