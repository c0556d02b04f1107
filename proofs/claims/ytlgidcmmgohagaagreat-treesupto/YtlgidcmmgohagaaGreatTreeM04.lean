/- What is proved here: the oH own store. -/
import Derived.Test.YtlgidcmmgohagaaGreatTreeM03
namespace Go.Proofs.YtlgidcmmgohagaaGreat
open Go.RowKit Go.Sort Go.Shelf Go.Proofs.Tryz
set_option linter.unusedVariables false
set_option maxRecDepth 100000
set_option maxHeartbeats 16000000
theorem Hi (a:Option Addr)(c0:Nat)(w:World):Calls prog 107 #[.slice a 0 c0] w fun e w'=>e=.returned (.slice none 0 0)/\w'=w:=by
 go_enter func107,ntmps107;go_wp2
 go_loopw [3,4] (fun v i wo=>v=.slice none 0 0/\i=.int .i64 0/\wo=w) (fun _ _ _=>0)
 case atStart=>exact⟨rfl,rfl,rfl⟩
 case round=>
  obtain⟨rfl,rfl,rfl⟩:=hrel;go_wp2;go_ret;exact⟨rfl,rfl⟩
def eW (w:World)(a:Option Addr)(m:Nat)(ls:List aK):Prop:=ls.length=m/\(0<m->∃b off,a=some ⟨b,off,none⟩/\b<w.heap.size/\∀j u,(flat ls)[j]? = some u->w.cell? ⟨b,off+j,none⟩=some u)
theorem A9 (a:Option Addr)(m c0:Nat)(ls:List aK)(w:World)(hl:eW w a m ls)(hm:m<=16)(hsz:∀e ∈ ls,e.1.size<=maxLen):
  Calls prog 107 #[.slice a m c0] w fun e w'=>∃v,e=.returned v/\w'.ownsRow w.heap.size 112 3 v m (flat (fF ls))/\Below w.heap.size w w':=by
 rcases Nat.eq_zero_or_pos m with rfl | hp
 ·have:ls = []:=List.eq_nil_of_length_eq_zero hl.1
  subst this;exact (Hi a c0 w).mono fun e w' ⟨he,hw⟩=>⟨_,he,by subst hw;exact World.ownsRow_nil _ _ _ _,by subst hw;exact Below.refl _ _⟩
 ·obtain⟨b,off,rfl,hbl,hc⟩:=hl.2 hp
  exact Kw b off m c0 ls w hl.1 hm hbl hc hsz
def kW (au:List Ob)(e:aK):Bool:=decide (0<=e.2.2) && decide (((au[e.2.2.toNat]?).map (·.kind)).getD 0=e.2.1)
def KA (v:Option Addr×Nat)(m:Nat)(es:List aK):Ob:={ kind:=2,data:=ByteArray.empty,ea:=v.1,el:=m,ec:=v.2,aV:=es,high:=0 }
def wJ (au bC:List Ob)(ls:List aK)(x y:Int):Prop:=
 ((∃e ∈ ls,aF e.1=false)/\bC=au/\x = -1/\y=1)\/
 ((∀e ∈ ls,aF e.1=true)/\
  ((¬(ls.map (·.1)).Nodup/\bC=au/\x = -1/\y=6)\/
   ((ls.map (·.1)).Nodup/\16<ls.length/\bC=au/\x = -1/\y=11)\/
   ((ls.map (·.1)).Nodup/\ls.length<=16/\(∃e ∈ ls,kW au e=false)/\bC=au/\x = -1/\y=13)\/
   ((ls.map (·.1)).Nodup/\ls.length<=16/\(∀e ∈ ls,kW au e=true)/\5<dH au ls/\bC=au/\x = -1/\y=11)\/
   ((ls.map (·.1)).Nodup/\ls.length<=16/\(∀e ∈ ls,kW au e=true)/\dH au ls<=5/\∃v z,A8 au bC (KA v ls.length (fF ls)) z/\((z<0/\x = -1/\y=11)\/(0<=z/\x=z/\y=0)))))
theorem aX {w:World}{base:Nat}{e:TypeId}{size n:Nat}{v:Value}{xs:List Value}(h:w.ownsRow base e size v n xs):∃a c,v=.slice a n c:=by
 rcases h.2 with ⟨rfl,rfl⟩ | ⟨g,cap,_,hv,_⟩
 ·exact⟨none,0,rfl⟩
 ·exact⟨_,_,hv⟩
theorem ax.after {F:Nat->Prop}{w w1 w2:World}(h:ax F w1 w2)(hb:Below w.heap.size w w1):ax F w w2:=
 ⟨h.os.trans hb.os,h.tape.trans hb.tape,h.output.trans hb.output,eU hb.size h.size,fun k hk hn=>(h.block k (cv hk hb.size) hn).trans (hb.block k hk)⟩
theorem sM (au:List Ob){es fs:List aK}(h:es.Perm fs):dH au es=dH au fs:=by
 unfold dH;refine List.Perm.foldl_eq' h (fun x _ y _ z=>?_) 0;omega
theorem zh {F:Nat->Prop}{w:World}{r:Nat}{au:List Ob}(h:bS F w r au)(a:Option Addr)(m c0:Nat)(ls:List aK)(hl:eW w a m ls)(jl:m*32<=140737488355328)(hsz:∀e ∈ ls,e.1.size<=maxLen)
  (hat:∀e ∈ ls,-1<=e.2.2/\e.2.2<(au.length:Int)):
  Calls prog 82 #[.pointer (some ⟨r,0,none⟩),.slice a m c0] w fun e w'=>∃x y bC,e=.returned (.tuple #[.int .i64 x,.int .i64 y])/\wJ au bC ls x y/\bS (bq F w w') w' r bC/\ax F w w':=by
 have HR:Hid (bS F w r au):=h;have HS:Hid (∀e ∈ ls,e.1.size<=maxLen):=hsz;have HA:Hid (∀e ∈ ls,-1<=e.2.2/\e.2.2<(au.length:Int)):=hat;have HL:Hid (ls.length=m):=hl.1;have HC:Hid (eW w a m ls):=hl;have HK:∀q,Hid (bS (bq F w (w.drewN q)) (w.drewN q) r au/\ax F w (w.drewN q)):=fun q=>⟨HR.out.below (below_drewN (Below.refl _ _) q) (fun k hk=>.inl hk),ax.aM (below_drewN (Below.refl _ _) q)⟩;clear h hsz hat hl;go_enter func82,ntmps82;go_wp2
 go_loopw [6] (fun i wr=>∃k:Nat,k<=m/\i=.int .i64 k/\(∃q,wr=w.drewN q)/\Hid (∀j (hj:j<ls.length),j<k->aF ls[j].1=true)) (fun i _=>m-(intOf i).toNat)
 case atStart=>exact⟨0,dG _,rfl,⟨0,rfl⟩,fun j hj h=>by omega⟩
 case round=>
  obtain⟨k,hk,rfl,⟨q,rfl⟩,HV⟩:=hrel;by_cases hlt:k<m
  ·have dy:k<ls.length:=by rw[HL.out];exact hlt
   obtain⟨b,off,rfl,hbl,hc⟩:=HC.out.2 (by omega);obtain⟨d0,_,_⟩:=bg hc dy;have Q4:Hid (∀j u,(flat ls)[j]? = some u->w.cell? ⟨b,off+j,none⟩=some u):=hc;clear hc;have d0':(w.drewN q).cell? ⟨b,off+k*3,none⟩=some (.string ls[k].1):=d0;have hv:=fun W=>Dv ls[k].1 W (HS.out ls[k] (jk dy));cases J3:aF ls[k].1 with
   | false=>
    have YQ:Hid (aF ls[k].1=false):=J3;rw[J3] at hv;clear J3;go_wp2_with (go_at_call 150;refine (hv _).mono ?_;rintro e w' ⟨rfl,q2,rfl⟩);go_ret2;exact⟨_,_,au,rfl,.inl ⟨⟨ls[k],jk dy,YQ.out⟩,rfl,rfl,rfl⟩,(HK (q+q2)).out⟩
   | true=>
    have YQ:Hid (aF ls[k].1=true):=J3;rw[J3] at hv;clear J3;go_wp2_with (go_at_call 150;refine (hv _).mono ?_;rintro e w' ⟨rfl,q2,rfl⟩);go_roundw
    case rel=>
     refine⟨k+1,by omega,by go_num,⟨q+q2,rfl⟩,?_⟩;intro j hj hjk;by_cases e:j=k
     ·subst e;exact YQ.out
     ·exact HV.out j hj (by omega)
    case measure=>simp[intOf];omega
  ·have Kl:Hid (∀x ∈ ls,aF x.1=true):=by
    intro x hx;obtain⟨j,hj,rfl⟩:=List.getElem_of_mem hx;exact HV.out j hj (by rw[HL.out] at hj;omega)
   clear HV;go_wp2
   go_loopw [8] (fun i wr=>∃k:Nat,k<=m/\i=.int .i64 k/\(∃q,wr=w.drewN q)/\Hid (∀i j (hi:i<ls.length) (hj:j<ls.length),i<k->j<i->ls[i].1≠ls[j].1)) (fun i _=>m-(intOf i).toNat)
   case atStart=>exact⟨0,dG _,rfl,⟨q,rfl⟩,fun i j hi hj h1 h2=>by omega⟩
   case round=>
    obtain⟨k2,hk2,rfl,⟨q3,rfl⟩,HD⟩:=hrel;by_cases x8:k2<m
    ·have abZ:k2<ls.length:=by rw[HL.out];exact x8
     obtain⟨b,off,rfl,hbl,hc⟩:=HC.out.2 (by omega);obtain⟨d0,_,_⟩:=bg hc abZ;have Q4:Hid (∀j u,(flat ls)[j]? = some u->w.cell? ⟨b,off+j,none⟩=some u):=hc;clear hc;have alO:(k2:Int)<(m:Int):=by omega
     go_wp2
     go_loopw [9] (fun i wr=>∃k3:Nat,k3<=k2/\i=.int .i64 k3/\(∃q,wr=w.drewN q)/\Hid (∀j (hj:j<ls.length),j<k3->ls[k2].1≠ls[j].1)) (fun i _=>k2-(intOf i).toNat)
     case atStart=>exact⟨0,dG _,rfl,⟨q3,rfl⟩,fun j hj h=>by omega⟩
     case round=>
      obtain⟨k3,hk3,rfl,⟨q4,rfl⟩,HE⟩:=hrel;by_cases YR:k3<k2
      ·have ab0:k3<ls.length:=by omega
       obtain⟨e0,_,_⟩:=bg Q4.out ab0;have d0':(w.drewN q4).cell? ⟨b,off+k2*3,none⟩=some (.string ls[k2].1):=d0;have e0':(w.drewN q4).cell? ⟨b,off+k3*3,none⟩=some (.string ls[k3].1):=e0;have alP:(k3:Int)<(m:Int):=by omega
       cases sA:ls[k2].1.toList == ls[k3].1.toList with
       | true=>
        have HN:Hid ((ls[k2].1.toList == ls[k3].1.toList)=true):=sA;go_wp2
        go_quiet (fail)
        go_wp2;go_ret2;refine⟨_,_,au,rfl,.inr ⟨Kl.out,.inl ⟨?_,rfl,rfl,rfl⟩⟩,by rw[World.drewN_drewN];exact (HK _).out⟩;intro zW;have hne:=List.pairwise_iff_getElem.1 zW k3 k2 (by simpa using ab0) (by simpa using abZ) YR;simp only[List.getElem_map] at hne;exact hne (sH (by simpa using HN.out)).symm
       | false=>
        have HN:Hid ((ls[k2].1.toList == ls[k3].1.toList)=false):=sA;go_wp2
        go_quiet (fail)
        go_wp2;go_roundw
        case rel=>
         refine⟨k3+1,by omega,by go_num,⟨q4+nq,rfl⟩,?_⟩;intro j hj hjk;by_cases e:j=k3
         ·subst e;intro h;have:=HN.out;rw[h] at this;simp at this
         ·exact HE.out j hj (by omega)
        case measure=>simp[intOf];omega
      ·go_wp2
       go_roundw
       case rel=>
        refine⟨k2+1,by omega,by go_num,⟨q4,rfl⟩,?_⟩;intro i j hi hj h1 h2;by_cases e:i=k2
        ·subst e;exact HE.out j hj (by omega)
        ·exact HD.out i j hi hj (by omega) h2
       case measure=>simp[intOf];omega
    ·have Gu:Hid ((ls.map (·.1)).Nodup):=by
      refine List.pairwise_iff_getElem.2 fun i j hi hj hij=>?_;simp only[List.getElem_map];simp only[List.length_map] at hi hj;exact (HD.out j i hj hi (by rw[HL.out] at hj;omega) hij).symm
     clear HD;by_cases jS:16<m
     ·go_wp2
      go_ret2;exact⟨_,_,au,rfl,.inr ⟨Kl.out,.inr (.inl ⟨Gu.out,by rw[HL.out];exact jS,rfl,rfl,rfl⟩)⟩,(HK q3).out⟩
     ·have wB:m<=16:=by omega
      go_wp2
      go_loopw [10,11] (fun t i wr=>∃k:Nat,∃dp:Bool,k<=m/\i=.int .i64 k/\t=.bool dp/\(∃q,wr=w.drewN q)/\Hid (dp=decide (5<dH au (ls.take k)))/\Hid (∀j (hj:j<ls.length),j<k->kW au ls[j]=true)) (fun _ i _=>m-(intOf i).toNat)
      case atStart=>exact⟨0,false,dG _,rfl,rfl,⟨q3,rfl⟩,rfl,fun j hj h=>by omega⟩
      case round=>
       obtain⟨k4,dp,hk4,rfl,rfl,⟨q5,rfl⟩,VY,HG⟩:=hrel;by_cases ab1:k4<m
       ·have RZ:k4<ls.length:=by rw[HL.out];exact ab1
        obtain⟨b,off,rfl,hbl,hc⟩:=HC.out.2 (by omega);obtain⟨_,d1,d2⟩:=bg hc RZ;have d1':(w.drewN q5).cell? ⟨b,off+k4*3+1,none⟩=some (.int .i64 ls[k4].2.1):=d1;have alR:(k4:Int)<(m:Int):=by omega
        clear hc;obtain⟨ha0,ha1⟩:=HA.out _ (jk RZ);by_cases ab2:ls[k4].2.2<0
        ·have Om:ls[k4].2.2 = -1:=by omega
         rw[Om] at d2;have d2':(w.drewN q5).cell? ⟨b,off+k4*3+2,none⟩=some (.int .i64 (-1)):=d2;have HB:Hid (kW au ls[k4]=false):=by
          show kW au ls[k4]=false;unfold kW;rw[dY (by omega)];rfl
         clear Om ab2 ha0 ha1;go_wp2
         go_quiet (fail)
         go_wp2;go_ret2;exact⟨_,_,au,rfl,.inr ⟨Kl.out,.inr (.inr (.inl ⟨Gu.out,by rw[HL.out];exact wB,⟨ls[k4],jk RZ,HB.out⟩,rfl,rfl,rfl⟩))⟩,by rw[World.drewN_drewN];exact (HK _).out⟩
        ·obtain⟨j,hj⟩:∃j:Nat,ls[k4].2.2=(j:Int):=⟨ls[k4].2.2.toNat,by omega⟩
         have lU:j<au.length:=(by omega);have alS:(j:Int)<(au.length:Int):=by omega
         rw[hj] at d2;have d2':(w.drewN q5).cell? ⟨b,off+k4*3+2,none⟩=some (.int .i64 (j:Int)):=d2;have hj0:decide ((j:Int)<0)=false:=by simp
         obtain⟨aa,cap,qd⟩:=HR.out;obtain⟨g,rfl,fo,c0,_,_,c3⟩:=j0 qd.row rfl lU;have c0':=fun q=>(show (w.drewN q).cell? ⟨g,j*4,none⟩=some (.int .i64 au[j].kind) from c0);have c3':=fun q=>(show (w.drewN q).cell? ⟨g,j*4+3,none⟩=some (.int .i64 au[j].high) from c3);have r0':=fun q=>(show (w.drewN q).cell? ⟨r,0,none⟩=some (.slice (some ⟨g,0,none⟩) au.length cap) from qd.c0);have alT:=fun q=>(show (w.drewN q).cell? ⟨b,off+k4*3+2,none⟩=some (.int .i64 (j:Int)) from d2);obtain⟨hh0,hh5⟩:0<=au[j].high/\au[j].high<=5:=⟨(qd.zZ _ (jk lU)).He,(qd.zZ _ (jk lU)).Hf⟩;have alU:=fun q=>(show (w.drewN q).cell? ⟨b,off+k4*3+1,none⟩=some (.int .i64 ls[k4].2.1) from d1);have HJ:Hid (ls[k4].2.2=(j:Int)):=hj;clear hj ab2 ha0 ha1 qd d1' d2';cases qs:(au[j].kind != ls[k4].2.1) with
         | true=>
          have HB:Hid (kW au ls[k4]=false):=by
           show kW au ls[k4]=false;unfold kW;rw[HJ.out,Int.toNat_natCast,kO lU]
           have:¬au[j].kind=ls[k4].2.1:=by simpa using qs
           simp[this]
          go_wp2
          go_quiet (fail)
          go_wp2;go_ret2;exact⟨_,_,au,rfl,.inr ⟨Kl.out,.inr (.inr (.inl ⟨Gu.out,by rw[HL.out];exact wB,⟨ls[k4],jk RZ,HB.out⟩,rfl,rfl,rfl⟩))⟩,by rw[World.drewN_drewN];exact (HK _).out⟩
         | false=>
          have HB:Hid (kW au ls[k4]=true):=by
           show kW au ls[k4]=true;unfold kW;rw[HJ.out,Int.toNat_natCast,kO lU]
           have:au[j].kind=ls[k4].2.1:=by simpa using qs
           simp[this]
          have HST:Hid (dH au (ls.take (k4+1))=max (dH au (ls.take k4)) (1+au[j].high)):=by
           show _=_;rw[qX RZ,zf];unfold ze;rw[HJ.out,Int.toNat_natCast,kO lU];rfl
          cases dp with
          | true=>
           go_wp2
           go_quiet (fail)
           go_wp2
           go_quiet (fail)
           go_wp2;go_roundw
           case rel=>
            refine⟨k4+1,true,by omega,by go_num,rfl,⟨_,rfl⟩,?_,?_⟩
            ·have:=of_decide_eq_true VY.out.symm
             show true=_;rw[HST.out,decide_eq_true (by omega)]
            ·intro i hi hik
             by_cases e:i=k4
             ·subst e;exact HB.out
             ·exact HG.out i hi (by omega)
           case measure=>simp[intOf];omega
          | false=>
           by_cases h6:5<1+au[j].high
           ·go_wp2
            go_quiet (fail)
            go_wp2
            go_quiet (fail)
            go_wp2;go_roundw
            case rel=>
             refine⟨k4+1,true,by omega,by go_num,by first | rfl | simp[h6],⟨_,rfl⟩,?_,?_⟩
             ·show true=_
              rw[HST.out,decide_eq_true (by omega)]
             ·intro i hi hik
              by_cases e:i=k4
              ·subst e;exact HB.out
              ·exact HG.out i hi (by omega)
            case measure=>simp[intOf];omega
           ·go_wp2
            go_quiet (fail)
            go_wp2
            go_quiet (fail)
            go_wp2;go_roundw
            case rel=>
             refine⟨k4+1,false,by omega,by go_num,by first | rfl | simp[h6],⟨_,rfl⟩,?_,?_⟩
             ·have:=of_decide_eq_false VY.out.symm
              show false=_;rw[HST.out,dY (by omega)]
             ·intro i hi hik
              by_cases e:i=k4
              ·subst e;exact HB.out
              ·exact HG.out i hi (by omega)
            case measure=>simp[intOf];omega
       ·have sr:Hid (∀x ∈ ls,kW au x=true):=by
         intro x hx;obtain⟨j,hj,rfl⟩:=List.getElem_of_mem hx;exact HG.out j hj (by rw[HL.out] at hj;omega)
        have HT:Hid (ls.take k4=ls):=List.take_of_length_le (by rw[HL.out];omega);rw[HT.out] at VY;have R8:Hid (ls.length<=16):=by rw[HL.out];exact wB
        clear HG;cases dp with
        | true=>
         go_wp2;go_ret2;exact⟨_,_,au,rfl,.inr ⟨Kl.out,.inr (.inr (.inr (.inl ⟨Gu.out,R8.out,sr.out,of_decide_eq_true VY.out.symm,rfl,rfl,rfl⟩)))⟩,(HK q5).out⟩
        | false=>
         have H5:Hid (dH au ls<=5):=by have:=of_decide_eq_false VY.out.symm;exact Int.not_lt.1 this
         have Rs:=A9 a m c0 ls (w.drewN q5) HC.out wB HS.out;go_wp2_with fail;refine Rs.mono ?_;rintro e w1 ⟨v,rfl,hown1,hb1⟩;have Y3:Below w.heap.size w w1:=(below_drewN (Below.refl _ _) q5).trans hb1;obtain⟨va,vc,hv⟩:=aX hown1;subst hv;have ho:mM (fun k=>w.heap.size<=k/\k<w1.heap.size) w1 (KA (va,vc) m (fF ls)):=
          ⟨.inr rfl,by show 0<=256;omega,by show (fF ls).length=m;rw[(jt ls).length_eq,HL.out],wB,Int.le_refl _,by show (0:Int)<=5;omega,cL hown1 (dG _),fun g hg=>hown1.lt g hg⟩
         have X4:bS F w1 r au:=HR.out.below Y3 (fun _ h=>h);have hput:=Hh X4 (KA (va,vc) m (fF ls)) ho rfl (by show dH au (fF ls)<=5;rw[sM au (jt ls)];exact H5.out) (fun e he=>by
          have CS:e ∈ ls:=rq he;have h1:=sr.out e CS;have h2:=HA.out e CS;unfold kW at h1;simp only[Bool.and_eq_true,decide_eq_true_eq] at h1;exact⟨h1.1,h2.2⟩)
         have X5:Calls prog 78 #[.pointer (some ⟨r,0,none⟩),.agg #[.int .i64 2,.string ByteArray.empty,.slice va m vc,.int .i64 0]] w1 fun e w'=>∃x bC,e=.returned (.int .i64 x)/\A8 au bC (KA (va,vc) m (fF ls)) x/\bS (Grow F (fun k=>w.heap.size<=k/\k<w1.heap.size) w1 w') w' r bC/\ax F w1 w':=hput;clear Rs hput hown1 ho X4;go_wp2_with fail;refine X5.mono ?_;rintro e w2 ⟨z,bC,rfl,hp,Q2,hk2⟩;have HI:Hid (bS (bq F w w2) w2 r bC/\ax F w w2):=⟨Q2.keep (fun k hk=>by
          rcases hk with h | h | h
          ·exact .inl h
          ·exact .inr ⟨h.1,cv h.2 hk2.size⟩
          ·exact .inr ⟨eU Y3.size h.1,h.2⟩) (fun _ _=>rfl),hk2.after Y3⟩
         have HP:Hid (A8 au bC (KA (va,vc) ls.length (fF ls)) z):=by rw[HL.out];exact hp
         clear X5 Q2 hk2 hp hb1;by_cases hz:z<0
         ·go_wp2
          go_ret2;exact⟨_,_,bC,rfl,.inr ⟨Kl.out,.inr (.inr (.inr (.inr ⟨Gu.out,R8.out,sr.out,H5.out,_,z,HP.out,.inl ⟨hz,rfl,rfl⟩⟩)))⟩,HI.out⟩
         ·go_wp2
          go_ret2;exact⟨_,_,bC,rfl,.inr ⟨Kl.out,.inr (.inr (.inr (.inr ⟨Gu.out,R8.out,sr.out,H5.out,_,z,HP.out,.inr ⟨by omega,rfl,rfl⟩⟩)))⟩,HI.out⟩
def encI (xs:List Int):List Value:=xs.map (Value.int .i64)
def Hj (xs:List Bool):List Value:=xs.map Value.bool
structure cZ (F:Nat->Prop)(w:World)(W s r:Nat)(ia ka pa:Option Addr)(ic kc pc:Nat)(ids:List Int)(known:List Bool)(paths:List Int)(c5 c6 c7 c8 c9 c10 c11:Value):Prop where
 fw:F W
 hW:w.heap[W]? = some (.cells #[.pointer (some ⟨s,0,none⟩),.pointer (some ⟨r,0,none⟩),.slice ia ids.length ic,.slice ka known.length kc,.slice pa paths.length pc,c5,c6,c7,c8,c9,c10,c11] 71 (0,0))
 lC:w.ownsRow 0 29 1 (.slice ia ids.length ic) ids.length (encI ids)
 pg:w.ownsRow 0 4 1 (.slice ka known.length kc) known.length (Hj known)
 qg:w.ownsRow 0 3 1 (.slice pa paths.length pc) paths.length (encI paths)
 fi:∀g,(Value.slice ia ids.length ic).ownBlock=some g->F g
 fk:∀g,(Value.slice ka known.length kc).ownBlock=some g->F g
 fp:∀g,(Value.slice pa paths.length pc).ownBlock=some g->F g
section
variable {F:Nat->Prop}{w:World}{W s r:Nat}{ia ka pa:Option Addr}{ic kc pc:Nat}{ids:List Int}{known:List Bool}{paths:List Int}{c5 c6 c7 c8 c9 c10 c11:Value}
theorem cZ.keep {F':Nat->Prop}{w':World}(h:cZ F w W s r ia ka pa ic kc pc ids known paths c5 c6 c7 c8 c9 c10 c11)(hF:∀k,F k->F' k)(hk:∀k,F k->w'.heap[k]? = w.heap[k]?):cZ F' w' W s r ia ka pa ic kc pc ids known paths c5 c6 c7 c8 c9 c10 c11:=
 ⟨hF _ h.fw,(hk W h.fw).trans h.hW,ai h.lC (fun g hg=>hk g (h.fi g hg)),ai h.pg (fun g hg=>hk g (h.fk g hg)),ai h.qg (fun g hg=>hk g (h.fp g hg)),fun g hg=>hF g (h.fi g hg),fun g hg=>hF g (h.fk g hg),fun g hg=>hF g (h.fp g hg)⟩
theorem cZ.lt (h:cZ F w W s r ia ka pa ic kc pc ids known paths c5 c6 c7 c8 c9 c10 c11):W<w.heap.size:=(Array.getElem?_eq_some_iff.1 h.hW).1
theorem cZ.below {w':World}(h:cZ F w W s r ia ka pa ic kc pc ids known paths c5 c6 c7 c8 c9 c10 c11)(hb:Below w.heap.size w w'):cZ F w' W s r ia ka pa ic kc pc ids known paths c5 c6 c7 c8 c9 c10 c11:=
 ⟨h.fw,(hb.block W h.lt).trans h.hW,ai h.lC (fun g hg=>hb.block g (ah h.lC hg)),ai h.pg (fun g hg=>hb.block g (ah h.pg hg)),ai h.qg (fun g hg=>hb.block g (ah h.qg hg)),h.fi,h.fk,h.fp⟩
theorem cZ.c0 (h:cZ F w W s r ia ka pa ic kc pc ids known paths c5 c6 c7 c8 c9 c10 c11):w.cell? ⟨W,0,none⟩=some (.pointer (some ⟨s,0,none⟩)):=by simp[World.cell?,h.hW]
theorem cZ.c1 (h:cZ F w W s r ia ka pa ic kc pc ids known paths c5 c6 c7 c8 c9 c10 c11):w.cell? ⟨W,1,none⟩=some (.pointer (some ⟨r,0,none⟩)):=by simp[World.cell?,h.hW]
theorem cZ.c2 (h:cZ F w W s r ia ka pa ic kc pc ids known paths c5 c6 c7 c8 c9 c10 c11):w.cell? ⟨W,2,none⟩=some (.slice ia ids.length ic):=by simp[World.cell?,h.hW]
theorem cZ.c3 (h:cZ F w W s r ia ka pa ic kc pc ids known paths c5 c6 c7 c8 c9 c10 c11):w.cell? ⟨W,3,none⟩=some (.slice ka known.length kc):=by simp[World.cell?,h.hW]
theorem cZ.c4 (h:cZ F w W s r ia ka pa ic kc pc ids known paths c5 c6 c7 c8 c9 c10 c11):w.cell? ⟨W,4,none⟩=some (.slice pa paths.length pc):=by simp[World.cell?,h.hW]
theorem cZ.fz (h:cZ F w W s r ia ka pa ic kc pc ids known paths c5 c6 c7 c8 c9 c10 c11)(i:Nat):w.frozen? ⟨W,i,none⟩=false:=by simp[World.frozen?,h.hW]
theorem row_one {w:World}{t:TypeId}{a:Option Addr}{n c:Nat}{xs:List Value}(h:w.ownsRow 0 t 1 (.slice a n c) n xs){i:Nat}{v:Value}(hi:xs[i]? = some v):∃g,a=some ⟨g,0,none⟩/\g<w.heap.size/\w.cell? ⟨g,i,none⟩=some v/\i<n:=by
 have lV:i<n:=by have:=(List.getElem?_eq_some_iff.1 hi).1;have:=h.1;omega
 obtain⟨g,cap,hv⟩:=ak h (by omega);have ha:=(Value.slice.inj hv).1;subst ha;refine⟨g,rfl,ah h rfl,?_,lV⟩
 have:=h.cells (g:=g) rfl i v hi
 rw[oC,Nat.zero_add] at this;exact this
def Ff (ids:List Int)(n:Int):Int:=if 1<=n/\n<=ids.length then ids.getD (n-1).toNat 0 else n
theorem Y4 (h:cZ F w W s r ia ka pa ic kc pc ids known paths c5 c6 c7 c8 c9 c10 c11)(n:Int)(hlen:ids.length<=400):
  Calls prog 39 #[.pointer (some ⟨W,0,none⟩),.int .i64 n] w fun e w'=>e=.returned (.int .i64 (Ff ids n))/\w'=w:=by
 have k2:=h.c2;have hlt:=h.lt;by_cases h1:1<=n
 ·by_cases h2:n<=(ids.length:Int)
  ·obtain⟨j,hj⟩:∃j:Nat,n=(j:Int)+1:=⟨(n-1).toNat,by omega⟩
   subst hj;have lU:j<ids.length:=by omega
   obtain⟨g,rfl,fo,c,_⟩:=row_one h.lC (i:=j) (v:=.int .i64 ids[j]) (by simp[encI,kO lU]);have HE:Hid (Ff ids ((j:Int)+1)=ids[j]):=by
    show _=_;unfold Ff;rw[aL ⟨h1,h2⟩,show ((j:Int)+1-1).toNat=j by omega];simp[lU]
   have a1:(j:Int)+1-1=j:=by omega
   have a2:(j:Int)<ids.length:=by omega
   clear h;go_enter func39,ntmps39;go_wp2;go_ret;exact⟨by rw[HE.out];rfl,rfl⟩
  ·have HE:Hid (Ff ids n=n):=by show _=_;unfold Ff;rw[ay (fun h=>h2 h.2)]
   have R9:decide (n<=(ids.length:Int))=false:=dY h2;clear h;go_enter func39,ntmps39;go_wp2;go_ret;exact⟨by rw[HE.out];rfl,rfl⟩
 ·have HE:Hid (Ff ids n=n):=by show _=_;unfold Ff;rw[ay (fun h=>h1 h.1)]
  have Gx:decide (1<=n)=false:=dY h1;clear h;go_enter func39,ntmps39;go_wp2;go_ret;exact⟨by rw[HE.out];rfl,rfl⟩
def placeOf (ids:List Int)(id:Int):Option Nat:=if 0<id then ids.findIdx? (fun x=>x == id) else none
theorem uk (h:cZ F w W s r ia ka pa ic kc pc ids known paths c5 c6 c7 c8 c9 c10 c11)(id:Int)(hlen:ids.length<=400):
  Calls prog 41 #[.pointer (some ⟨W,0,none⟩),.int .i64 id] w fun e w'=>e=.returned (.int .i64 (Fc (placeOf ids id)))/\w'=w:=by
 have k2:=h.c2;have hlt:=h.lt;have HR:Hid (w.ownsRow 0 29 1 (.slice ia ids.length ic) ids.length (encI ids)):=h.lC;clear h;go_enter func41,ntmps41;go_wp2
 go_loopw [5] (fun i wr=>∃k:Nat,k<=ids.length/\i=.int .i64 k/\wr=w/\Hid (∀j (hj:j<ids.length),j<k->0<id->(ids[j] == id)=false)) (fun i _=>ids.length-(intOf i).toNat)
 case atStart=>exact⟨0,dG _,rfl,rfl,fun j hj h=>by omega⟩
 case round=>
  obtain⟨k,hk,rfl,rfl,HV⟩:=hrel;by_cases oG:k<ids.length
  ·obtain⟨g,rfl,fo,c,_⟩:=row_one HR.out (i:=k) (v:=.int .i64 ids[k]) (by simp[encI,kO oG])
   cases he:(ids[k] == id) with
   | true=>
    have HE:Hid ((ids[k] == id)=true):=he;by_cases hp:0<id
    ·go_wp2
     go_ret;refine⟨?_,rfl⟩;have e:placeOf ids id=some k:=by
      unfold placeOf;rw[aL hp];exact List.findIdx?_eq_some_iff_getElem.2 ⟨oG,HE.out,fun j hj=>by have:=HV.out j (by omega) hj hp;simp[this]⟩
     rw[e];rfl
    ·have Vj:decide (0<id)=false:=dY hp
     go_wp2;go_roundw
     case rel=>exact⟨k+1,by omega,by go_num,by trivial,fun j hj hjk h0=>absurd h0 hp⟩
     case measure=>simp[intOf];omega
   | false=>
    have HE:Hid ((ids[k] == id)=false):=he;go_wp2;go_roundw
    case rel=>
     refine⟨k+1,by omega,by go_num,by trivial,fun j hj hjk h0=>?_⟩;by_cases e:j=k
     ·subst e;exact HE.out
     ·exact HV.out j hj (by omega) h0
    case measure=>simp[intOf];omega
  ·go_wp2
   go_ret;refine⟨?_,rfl⟩;have e:placeOf ids id=none:=by
    unfold placeOf;split
    ·next hp=>
     refine List.findIdx?_eq_none_iff.2 fun x hx=>?_;obtain⟨j,hj,rfl⟩:=List.getElem_of_mem hx;exact HV.out j hj (by omega) hp
    ·rfl
   rw[e];rfl
theorem Dx (at_:Int)(hn:at_<0):Calls prog 42 #[.pointer (some ⟨W,0,none⟩),.int .i64 at_] w fun e w'=>e=.returned (.int .i64 0)/\w'=w:=by
 go_enter func42,ntmps42;go_wp2;go_ret;exact⟨rfl,rfl⟩
theorem Sa {G:Nat->Prop}{au:List Ob}(h:cZ F w W s r ia ka pa ic kc pc ids known paths c5 c6 c7 c8 c9 c10 c11)(hr:bS G w r au)(j:Nat)(hj:j<au.length):
  Calls prog 42 #[.pointer (some ⟨W,0,none⟩),.int .i64 (j:Int)] w fun e w'=>e=.returned (.int .i64 au[j].kind)/\w'=w:=by
 have k1:=h.c1;obtain⟨a,cap,qd⟩:=hr;have k2:=qd.c0;have hm:=qd.many;obtain⟨g,rfl,fo,c0,_⟩:=j0 qd.row rfl hj;clear h qd;go_enter func42,ntmps42;go_wp2;go_ret;exact⟨rfl,rfl⟩
end
theorem aY {P:Program}{w:World}{ops:Array Oper}{rest:List Oper}{o:Oper}{a:Act}{Q:Exit->Act->World->Prop}(hgd:o.guard=none)(s x:Operand)(t:TypeId)
  (ho:o.op=.call { callee:=.builtin .append,args:=#[s,x],argTypes:=#[t,t] })
  (base:Nat)(e:TypeId)(i:TypeInfo)(z:Value)(size bytes:Nat)(ht:P.underlying t=some (.slice e))(hi:P.info? e=some i)(hz:i.zero=some z)
  (hsize:i.size=size)(hby:i.bytes=bytes)(hzs:z.cells.size=size)(hsz:0<size)
  (v:Value)(n:Nat)(xs:List Value)(hs:a.eval s=v)(hown:w.ownsRow base e size v n xs)
  (ad:Addr)(m c:Nat)(news:List Value)(hx:a.eval x=.slice (some ad) m c)(hl:news.length=m*size)(hnews:∀j u,news[j]? = some u->w.cell? (ad.add j)=some u)(h1:∀u ∈ news,u.oneCell'=true)
  (h63:n+m<=maxLen)(hbytes:(n+m)*bytes<=140737488355328)(hbase:base<=w.heap.size)
  (h:∀v' w',w'.ownsRow base e size v' (n+m) (xs++news)->w.grownBy w' v.ownBlock->(v'.ownBlock=v.ownBlock\/v'.ownBlock=some w.heap.size)->wpList P ops Q rest (a.put o.dst v') w'):wpList P ops Q (o :: rest) a w:=by
 obtain⟨v',w',hrun,r1,r2,_,r3⟩:=run_append_own_at (P:=P) w base t o.type e i z size bytes ht hi hz hsize hby hzs hsz v n xs hown ad m c news hl hnews h1 h63 hbytes hbase;refine wpList_plain hgd fun _ hK=>?_;unfold Oper.wp;simp[execOp,ho,resolve,invoke,builtin,hs,hx,hrun,Result.andThen];exact hK _ _ (h v' w' r1 r2 r3)
theorem cq {w w0 w2:World}{W i:Nat}{cs:Array Value}{T t:TypeId}{size n m:Nat}{a:Option Addr}{cap g cap':Nat}{xs news:List Value}(hW:w.heap[W]? = some (.cells cs T (0,0)))(row:w.ownsRow 0 t size (.slice a n cap) n xs)(hT:T≠t)
  (kb:∀q,q<w.heap.size->w0.heap[q]? = w.heap[q]?)(OG:w.heap.size<=w0.heap.size)(hq:w0.os=w.os/\w0.tape=w.tape/\w0.output=w.output)(hown:w2.ownsRow 0 t size (.slice (some ⟨g,0,none⟩) (n+m) cap') (n+m) (xs++news))
  (hg:w0.grownBy w2 (Value.slice a n cap).ownBlock){b:Nat}(hloc:(Value.slice (some ⟨g,0,none⟩) (n+m) cap').ownBlock=(Value.slice a n cap).ownBlock\/(Value.slice (some ⟨g,0,none⟩) (n+m) cap').ownBlock=some b)(Vk:w.heap.size<=b):
  (w2.setCell ⟨W,i,none⟩ (.slice (some ⟨g,0,none⟩) (n+m) cap')).heap[W]? = some (.cells (cs.setIfInBounds i (.slice (some ⟨g,0,none⟩) (n+m) cap')) T (0,0))/\(w2.setCell ⟨W,i,none⟩ (.slice (some ⟨g,0,none⟩) (n+m) cap')).ownsRow 0 t size (.slice (some ⟨g,0,none⟩) (n+m) cap') (n+m) (xs++news)/\
    ((some g:Option Nat)=(Value.slice a n cap).ownBlock\/w.heap.size<=g)/\ax (fun k=>k=W\/some k=(Value.slice a n cap).ownBlock) w (w2.setCell ⟨W,i,none⟩ (.slice (some ⟨g,0,none⟩) (n+m) cap')):=by
 have qu:W<w.heap.size:=(Array.getElem?_eq_some_iff.1 hW).1;have kP:some W≠(Value.slice a n cap).ownBlock:=aA row hW hT;have jo:∀k,k<w.heap.size->some k≠(Value.slice a n cap).ownBlock->w2.heap[k]? = w.heap[k]?:=by
  intro k hk hne;rw[hg.block k (by omega) hne,kb k hk]
 have hw2:w2.heap[W]? = some (.cells cs T (0,0)):=by rw[jo W qu kP,hW]
 have hgr:g≠W:=by
  rintro rfl;rcases hloc with h1 | h1
  ·exact kP h1
  ·simp[Value.ownBlock] at h1;omega
 have hs:=hg.size;refine⟨?_,?_,?_,⟨hg.os.trans hq.1,hg.tape.trans hq.2.1,hg.output.trans hq.2.2,by simp;omega,?_⟩⟩
 ·simp[World.setCell,Array.getElem?_modify,hw2]
 ·obtain⟨h1,h2⟩:=hown
  refine⟨h1,?_⟩;rcases h2 with ⟨h,_⟩ | ⟨g0,abK,cur,hv,hb,hh,r⟩
  ·cases h
  ·cases hv
   exact Or.inr ⟨g,cap',cur,rfl,hb,by rw[Below.heap_setCell _ _ _ _ hgr];exact hh,r⟩
 ·rcases hloc with h | h
  ·exact Or.inl h
  ·simp[Value.ownBlock] at h;exact Or.inr (by omega)
 ·intro k hk hne
  rw[Below.heap_setCell _ _ _ _ (fun e=>hne (.inl e)),jo k hk (fun e=>hne (.inr e))]
theorem cS {w:World}{b b':Nat}{t t':TypeId}{z z' n n':Nat}{v v':Value}{xs xs':List Value}(h:w.ownsRow b t z v n xs)(h':w.ownsRow b' t' z' v' n' xs')(ht:t≠t'){g:Nat}(hg:v.ownBlock=some g):some g≠v'.ownBlock:=by
 obtain⟨cur,hc⟩:=iK h hg;exact aA h' hc ht
theorem jc {w w':World}{W:Nat}{own:Option Nat}{b:Nat}{t:TypeId}{z n:Nat}{v:Value}{xs:List Value}(h:w.ownsRow b t z v n xs)(hk:ax (fun k=>k=W\/some k=own) w w'){cs:Array Value}{T:TypeId}(hW:w.heap[W]? = some (.cells cs T (0,0)))(hT:T≠t)(ho:∀g,v.ownBlock=some g->some g≠own):w'.ownsRow b t z v n xs:=by
 refine ai h fun g hg=>hk.block g (ah h hg) ?_;rintro (rfl | e)
 ·exact aA h hW hT hg.symm
 ·exact ho g hg e
section
variable {F:Nat->Prop}{w:World}{W s r:Nat}{ia ka pa:Option Addr}{ic kc pc:Nat}{ids:List Int}{known:List Bool}{paths:List Int}{c5 c6 c7 c8 c9 c10 c11:Value}
theorem qw {F:Nat->Prop}{w w':World}{W:Nat}{own:Option Nat}(h:ax (fun k=>k=W\/some k=own) w w')(h1:F W)(h2:∀g,own=some g->F g):ax F w w':=
 ⟨h.os,h.tape,h.output,h.size,fun k hk hn=>h.block k hk (by rintro (rfl | e);exact hn h1;exact hn (h2 k e.symm))⟩
theorem wK {F:Nat->Prop}{w w':World}{g n c:Nat}{own:Option Nat}{t:TypeId}{z:Nat}{xs:List Value}(p2:w'.ownsRow 0 t z (.slice (some ⟨g,0,none⟩) n c) n xs)(p3:(some g:Option Nat)=own\/w.heap.size<=g)(h2:∀g,own=some g->F g):∀k,(Value.slice (some ⟨g,0,none⟩) n c).ownBlock=some k->bq F w w' k:=by
 intro k hk;simp only[Value.ownBlock,Option.some.injEq] at hk;subst hk;rcases p3 with e | e
 ·exact .inl (h2 _ e.symm)
 ·exact .inr ⟨e,ah p2 rfl⟩
theorem cZ.X6 (h:cZ F w W s r ia ka pa ic kc pc ids known paths c5 c6 c7 c8 c9 c10 c11){w':World}{g cap':Nat}{x:Int}
  (p:w'.heap[W]? = some (.cells (Array.setIfInBounds #[.pointer (some ⟨s,0,none⟩),.pointer (some ⟨r,0,none⟩),.slice ia ids.length ic,.slice ka known.length kc,.slice pa paths.length pc,c5,c6,c7,c8,c9,c10,c11] 2 (.slice (some ⟨g,0,none⟩) (ids.length+1) cap')) 71 (0,0))/\w'.ownsRow 0 29 1 (.slice (some ⟨g,0,none⟩) (ids.length+1) cap') (ids.length+1) (encI ids ++ [.int .i64 x])/\
    ((some g:Option Nat)=(Value.slice ia ids.length ic).ownBlock\/w.heap.size<=g)/\ax (fun k=>k=W\/some k=(Value.slice ia ids.length ic).ownBlock) w w'):
  cZ (bq F w w') w' W s r (some ⟨g,0,none⟩) ka pa cap' kc pc (ids ++ [x]) known paths c5 c6 c7 c8 c9 c10 c11/\ax F w w':=by
 obtain⟨p1,p2,p3,p4⟩:=p;have hl:(ids ++ [x]).length=ids.length+1:=by simp
 refine⟨⟨.inl h.fw,?_,?_,jc h.pg p4 h.hW (by decide) (fun g hg=>cS h.pg h.lC (by decide) hg),jc h.qg p4 h.hW (by decide) (fun g hg=>cS h.qg h.lC (by decide) hg),?_,fun g hg=>.inl (h.fk g hg),fun g hg=>.inl (h.fp g hg)⟩,qw p4 h.fw h.fi⟩
 ·rw[hl];exact p1
 ·rw[hl];simpa [encI] using p2
 ·rw[hl];exact wK p2 p3 h.fi
theorem cZ.X7 (h:cZ F w W s r ia ka pa ic kc pc ids known paths c5 c6 c7 c8 c9 c10 c11){w':World}{g cap':Nat}{x:Bool}
  (p:w'.heap[W]? = some (.cells (Array.setIfInBounds #[.pointer (some ⟨s,0,none⟩),.pointer (some ⟨r,0,none⟩),.slice ia ids.length ic,.slice ka known.length kc,.slice pa paths.length pc,c5,c6,c7,c8,c9,c10,c11] 3 (.slice (some ⟨g,0,none⟩) (known.length+1) cap')) 71 (0,0))/\w'.ownsRow 0 4 1 (.slice (some ⟨g,0,none⟩) (known.length+1) cap') (known.length+1) (Hj known ++ [.bool x])/\
    ((some g:Option Nat)=(Value.slice ka known.length kc).ownBlock\/w.heap.size<=g)/\ax (fun k=>k=W\/some k=(Value.slice ka known.length kc).ownBlock) w w'):
  cZ (bq F w w') w' W s r ia (some ⟨g,0,none⟩) pa ic cap' pc ids (known ++ [x]) paths c5 c6 c7 c8 c9 c10 c11/\ax F w w':=by
 obtain⟨p1,p2,p3,p4⟩:=p;have hl:(known ++ [x]).length=known.length+1:=by simp
 refine⟨⟨.inl h.fw,?_,jc h.lC p4 h.hW (by decide) (fun g hg=>cS h.lC h.pg (by decide) hg),?_,jc h.qg p4 h.hW (by decide) (fun g hg=>cS h.qg h.pg (by decide) hg),fun g hg=>.inl (h.fi g hg),?_,fun g hg=>.inl (h.fp g hg)⟩,qw p4 h.fw h.fk⟩
 ·rw[hl];exact p1
 ·rw[hl];simpa [Hj] using p2
 ·rw[hl];exact wK p2 p3 h.fk
theorem cZ.X8 (h:cZ F w W s r ia ka pa ic kc pc ids known paths c5 c6 c7 c8 c9 c10 c11){w':World}{g cap':Nat}{x:Int}
  (p:w'.heap[W]? = some (.cells (Array.setIfInBounds #[.pointer (some ⟨s,0,none⟩),.pointer (some ⟨r,0,none⟩),.slice ia ids.length ic,.slice ka known.length kc,.slice pa paths.length pc,c5,c6,c7,c8,c9,c10,c11] 4 (.slice (some ⟨g,0,none⟩) (paths.length+1) cap')) 71 (0,0))/\w'.ownsRow 0 3 1 (.slice (some ⟨g,0,none⟩) (paths.length+1) cap') (paths.length+1) (encI paths ++ [.int .i64 x])/\
    ((some g:Option Nat)=(Value.slice pa paths.length pc).ownBlock\/w.heap.size<=g)/\ax (fun k=>k=W\/some k=(Value.slice pa paths.length pc).ownBlock) w w'):
  cZ (bq F w w') w' W s r ia ka (some ⟨g,0,none⟩) ic kc cap' ids known (paths ++ [x]) c5 c6 c7 c8 c9 c10 c11/\ax F w w':=by
 obtain⟨p1,p2,p3,p4⟩:=p;have hl:(paths ++ [x]).length=paths.length+1:=by simp
 refine⟨⟨.inl h.fw,?_,jc h.lC p4 h.hW (by decide) (fun g hg=>cS h.lC h.qg (by decide) hg),jc h.pg p4 h.hW (by decide) (fun g hg=>cS h.pg h.qg (by decide) hg),?_,fun g hg=>.inl (h.fi g hg),fun g hg=>.inl (h.fk g hg),?_⟩,qw p4 h.fw h.fp⟩
 ·rw[hl];exact p1
 ·rw[hl];simpa [encI] using p2
 ·rw[hl];exact wK p2 p3 h.fp
end
end Go.Proofs.YtlgidcmmgohagaaGreat
