/- What is proved here: the document's OpenFile. -/
import Derived.Test.YtlgidcmmgohagaaGreatFileM36
import Derived.Test.YtlgidcmmgohagaaGreatFileM32
import Derived.Test.YtlgidcmmgohagaaGreatFileM35
import Derived.Test.YtlgidcmmgohagaaGreatFileM30
import Derived.Test.YtlgidcmmgohagaaGreatFileM27
namespace Go.Proofs.YtlgidcmmgohagaaGreat
open Go.RowKit Go.Sort Go.Shelf Go.Proofs.Tryz
set_option linter.unusedVariables false
set_option maxRecDepth 100000
set_option maxHeartbeats 16000000
def freeH (hs:List Hnd):Nat:=hs.findIdx (fun h=>!h.1)
abbrev Opd:=(Int×Int)×List Ent×List ByteArray×List Hnd
def openGP (nodes:List Ent)(data:List ByteArray)(hs:List Hnd)(p:ByteArray)(fl:Int)(k:Nat)(pp:ByteArray):Opd:=
 match findP nodes p with
 | some i=>(match nodes[i]? with
  | none=>((0,0),nodes,data,hs)
  | some x=>if x.2.1=2 then ((0,7),nodes,data,hs) else if bitB fl 8=true then ((0,6),nodes,data,hs) else (((k:Int),0),nodes,if bitB fl 16=true then data.set x.2.2.toNat ⟨#[]⟩ else data,hs.set k (true,x.2.2,fl,0)))
 | none=>if bitB fl 4=false then ((0,4),nodes,data,hs) else if 16<=(itemsP nodes pp).length then ((0,11),nodes,data,hs)
  else (((k:Int),0),nodes ++ [(p,1,(data.length:Int))],data ++ [⟨#[]⟩],hs.set k (true,(data.length:Int),fl,0))
def openFP (nodes:List Ent)(data:List ByteArray)(hs:List Hnd)(p:ByteArray)(fl:Int):Opd:=
 if (splitP p).2=false then ((0,1),nodes,data,hs)
 else if flaggedB fl=false then ((0,2),nodes,data,hs)
 else if freeH hs=8 then ((0,10),nodes,data,hs)
 else if (splitP p).1.length=0 then ((0,7),nodes,data,hs)
 else if upP nodes (splitP p).1≠0 then ((0,upP nodes (splitP p).1),nodes,data,hs)
 else openGP nodes data hs p fl (freeH hs) (joinP ((splitP p).1.take ((splitP p).1.length-1)))
theorem out_pushD0 {F:Nat->Prop}{w1 wr w4:World}{S:Nat}{na da:Option Addr}{nc dc nd g4 c4 b:Nat}{ns:List Ent}{ds:List ByteArray}{rest:List Value}{x:ByteArray}{o:Obj}(h:StAt (NewF F w1 wr) wr S na da nc dc ns ds rest)(hk:Keeps F w1 wr)(hn:nd=ds.length)
  (hown:w4.ownsRow 0 9 1 (.slice (some ⟨g4,0,none⟩) (nd+1) c4) (nd+1) (encS ds ++ [.string x]))(hg:(wr.alloc o).grownBy w4 (Value.slice da nd dc).ownBlock)(hloc:(Value.slice (some ⟨g4,0,none⟩) (nd+1) c4).ownBlock=(Value.slice da nd dc).ownBlock\/(Value.slice (some ⟨g4,0,none⟩) (nd+1) c4).ownBlock=some b)(hb:wr.heap.size<=b:=by simp):
  StInv (NewF F w1 (w4.setCell ⟨S,1,none⟩ (.slice (some ⟨g4,0,none⟩) (nd+1) c4))) (w4.setCell ⟨S,1,none⟩ (.slice (some ⟨g4,0,none⟩) (nd+1) c4)) S ns (ds ++ [x]) rest/\Keeps F w1 (w4.setCell ⟨S,1,none⟩ (.slice (some ⟨g4,0,none⟩) (nd+1) c4)):=by
 subst hn;have P:=push_after (i:=1) h.hS h.rowD (by decide) (kb_alloc0 wr o) (by simp) ⟨rfl,rfl,rfl⟩ hown hg hloc hb;obtain⟨hsi,hk2⟩:=h.pushD P;have hk3:=keeps_trans hk hk2;exact⟨hsi.widen (fun k hk'=>newF_newF hk.size hk2.size hk'),hk3⟩
theorem newF_grow {F:Nat->Prop}{w w1 w2:World}{k:Nat}(h:NewF F w w1 k)(hs:w1.heap.size<=w2.heap.size):NewF F w w2 k:=by
 rcases h with h | h
 ·exact .inl h
 ·exact .inr ⟨h.1,zzA h.2 hs⟩
theorem keeps_old {F:Nat->Prop}{w w1 w2:World}(h:Keeps F w w1)(k:Keeps (NewF F w w1) w1 w2):Keeps F w w2:=by
 refine⟨k.os.trans h.os,k.tape.trans h.tape,k.output.trans h.output,zzG h.size k.size,fun x hx hn=>?_⟩;rw[k.block x (zzA hx h.size) (fun hf=>?_),h.block x hx hn];rcases hf with hf | ⟨hf,_⟩
 ·exact hn hf
 ·omega
theorem free_at {hs:List Hnd}{k:Nat}(hk:k<hs.length)(h0:hs[k].1=false)(h1:∀i (h:i<hs.length),i<k->hs[i].1=true):freeH hs=k:=by
 unfold freeH;rw[List.findIdx_eq hk];exact⟨by rw[h0];rfl,fun j hj=>by rw[h1 j (by omega) hj];rfl⟩
theorem free_none {hs:List Hnd}(h8:hs.length=8)(h1:∀i (h:i<hs.length),i<8->hs[i].1=true):freeH hs=8:=by
 unfold freeH;rw[<-h8,List.findIdx_eq_length];intro x hx;obtain⟨i,hi,rfl⟩:=List.getElem_of_mem hx;rw[h1 i hi (by omega)];rfl
section
variable {F:Nat->Prop}{w:World}{S:Nat}{na da:Option Addr}{nc dc:Nat}{nodes:List Ent}{data:List ByteArray}{hs:List Hnd}{more rest:List Value}
theorem StAt.allH (h:StAt F w S na da nc dc nodes data (tabV hs++more)){k:Nat}(hk:k<hs.length)(u:Bool)(j fg a:Int):
  StAt F ((((w.setCell ⟨S,2+k*4,none⟩ (.bool u)).setCell ⟨S,2+k*4+1,none⟩ (.int .i64 j)).setCell ⟨S,2+k*4+2,none⟩ (.int .i64 fg)).setCell ⟨S,2+k*4+3,none⟩ (.int .i64 a)) S na da nc dc nodes data (tabV (hs.set k (u,j,fg,a))++more)/\
   Keeps F w ((((w.setCell ⟨S,2+k*4,none⟩ (.bool u)).setCell ⟨S,2+k*4+1,none⟩ (.int .i64 j)).setCell ⟨S,2+k*4+2,none⟩ (.int .i64 fg)).setCell ⟨S,2+k*4+3,none⟩ (.int .i64 a)):=by
 obtain⟨h1,k1⟩:=h.setH (f:=0) (v:=.bool u) (x:=(u,hs[k].2.1,hs[k].2.2.1,hs[k].2.2.2)) hk (by omega) rfl;obtain⟨h2,k2⟩:=h1.setH (k:=k) (f:=1) (v:=.int .i64 j) (x:=(u,j,hs[k].2.2.1,hs[k].2.2.2)) (by simpa using hk) (by omega) (by simp[encHn]);rw[List.set_set] at h2;obtain⟨h3,k3⟩:=h2.setH (k:=k) (f:=2) (v:=.int .i64 fg) (x:=(u,j,fg,hs[k].2.2.2)) (by simpa using hk) (by omega) (by simp[encHn]);rw[List.set_set] at h3;obtain⟨h4,k4⟩:=h3.setH (k:=k) (f:=3) (v:=.int .i64 a) (x:=(u,j,fg,a)) (by simpa using hk) (by omega) (by simp[encHn]);rw[List.set_set] at h4;exact⟨h4,((k1.two k2).two k3).two k4⟩
theorem sopenf_any (h:StAt F w S na da nc dc nodes data (tabV hs++more))(h8:hs.length=8)(hf:FineN nodes data)(hkn:∀e ∈ nodes,e.2.1=1\/e.2.1=2)(hdl:data.length<=1000000000)(p:ByteArray)(hp:p.size<=2097152)(fl:Int):
  Calls prog 94 #[.pointer (some ⟨S,0,none⟩),.string p,.int .i64 fl] w fun e w'=>e=.returned (.tuple #[.int .i64 (openFP nodes data hs p fl).1.1,.int .i64 (openFP nodes data hs p fl).1.2])/\
   StInv (NewF F w w') w' S (openFP nodes data hs p fl).2.1 (openFP nodes data hs p fl).2.2.1 (tabV (openFP nodes data hs p fl).2.2.2++more)/\Keeps F w w':=by
 have hsp:=split_any p w hp;have HST:Hid (StAt F w S na da nc dc nodes data (tabV hs++more)):=h;have HF:Hid (FineN nodes data):=hf;have HSAME:Hid (∀w',Below w.heap.size w w'->StInv (NewF F w w') w' S nodes data (tabV hs++more)/\Keeps F w w'):=fun w' hb=>⟨StInv.below ⟨na,nc,da,dc,h⟩ hb,Keeps.of_below hb⟩;have HSX:Hid (∀x ∈ (splitP p).1,x.size<=12):=split_small p;have HSL:Hid ((splitP p).2=true->(splitP p).1.length<=5):=split_ok_len;obtain⟨ok,hok⟩:∃b,b=(splitP p).2:=⟨_,rfl⟩;obtain⟨xs,hxs⟩:∃xs,xs=(splitP p).1:=⟨_,rfl⟩;obtain⟨k,hk⟩:∃k,k=freeH hs:=⟨_,rfl⟩;obtain⟨n,hn⟩:∃n,n=xs.length:=⟨_,rfl⟩;obtain⟨R,hR⟩:∃R,R=openFP nodes data hs p fl:=⟨_,rfl⟩;rw[<-hR];unfold openFP at hR;rw[<-hok,<-hxs] at hsp hR HSL;rw[<-hxs] at HSX;rw[<-hk] at hR;rw[<-hn] at hsp hR HSL;obtain⟨pp,hpp⟩:∃pp,pp=joinP (xs.take (n-1)):=⟨_,rfl⟩;rw[<-hpp] at hR;have HPP:Hid (pp=joinP (xs.take (xs.length-1))):=by rw[hpp,hn];rfl
 have HN:Hid (n=xs.length):=hn;have HKN:Hid _:=hkn;have HSP:Hid _:=hsp;have HR:Hid _:=hR;have HK:Hid (k=freeH hs):=hk;have HFL:Hid _:=fun W=>flagged_any fl W;clear h hf hsp hok hxs hR hk hn hpp hkn;go_enter func94,ntmps94;go_wp2_with fail;refine Calls.mono HSP.out ?_;rintro _ w1 ⟨v,rfl,hown,hb⟩;obtain⟨al,cl,rfl⟩:=owns_form hown;have hcap:=owns_capS hown;have hst1:=HST.out.below hb;have hbs:=hb.size;have hSl:=hst1.lt;have HST1:Hid _:=hst1;have HOWN:Hid _:=hown;have HB:Hid _:=hb;clear HSP hown hb hst1;go_wp2
 go_loopw [10] (fun v wr=>∃i:Nat,i<=8/\v=.int .i64 (i:Int)/\Hid (∀j (h:j<hs.length),j<i->hs[j].1=true)/\Hid (Below w1.heap.size w1 wr)) (fun v _=>8-(intOf v).toNat)
 case atStart=>exact⟨0,by omega,rfl,fun j h1 h2=>absurd h2 (Nat.not_lt_zero _),Below.refl _ _⟩
 case round=>
  obtain⟨i,hi,rfl,HU,HBL⟩:=hrel;by_cases q:i<8
  ·have q1:(i:Int)<8:=by omega
   have hil:i<hs.length:=by omega
   have hst2:=HST1.out.below HBL.out;have c0:wr.cell? ⟨S,2+i*4,none⟩=some (.bool hs[i].1):=hst2.tab (f:=0) hil (by omega);have hSl2:=hst2.lt;have HST2:Hid _:=hst2;clear hst2;cases hu:hs[i].1 with
   | true=>
    rw[hu] at c0;go_wp2;exact⟨⟨i+1,by omega,rfl,fun j h1 h2=>by
     rcases Nat.lt_or_ge j i with h | h
     ·exact HU.out j h1 h
     ·rw[<-hu];congr 2;omega,HBL⟩,by simp[intOf];omega⟩
   | false=>
    rw[hu] at c0;have HKI:Hid (k=i):=HK.out.trans (free_at hil hu HU.out);clear hu;cases hok:ok with
    | false=>
     have HR2:Hid (R=((0,1),nodes,data,hs)):=by show _=_;rw[HR.out,hok];rfl
     subst hok;go_wp2_with (go_at_call 157;refine Calls.mono (HFL.out _) ?_;rintro _ _ ⟨rfl,rfl⟩);go_ret2;rw[HR2.out];exact⟨rfl,HSAME.out _ (HB.out.trans (HBL.out.mono hbs))⟩
    | true=>
     have hok':=hok;subst hok;cases hfl:flaggedB fl with
     | false=>
      have HR2:Hid (R=((0,2),nodes,data,hs)):=by show _=_;rw[HR.out,hfl];rfl
      rw[hfl] at HFL;go_wp2_with (go_at_call 157;refine Calls.mono (HFL.out _) ?_;rintro _ _ ⟨rfl,rfl⟩);go_ret2;rw[HR2.out];exact⟨rfl,HSAME.out _ (HB.out.trans (HBL.out.mono hbs))⟩
     | true=>
      rw[hfl] at HFL;have hf63:0<=fl/\fl<=63:=by
       unfold flaggedB at hfl;split at hfl
       ·cases hfl
       ·omega
      have h5:n<=5:=HSL.out rfl;have HR2:Hid (R=if n=0 then ((0,7),nodes,data,hs) else if upP nodes xs≠0 then ((0,upP nodes xs),nodes,data,hs) else openGP nodes data hs p fl k pp):=by
       show _=_;rw[HR.out,zzB (by simp),zzB (by rw[hfl];simp),zzB (by rw[HKI.out];omega)]
      have hik:k=i:=HKI.out;subst hik;have HBW:Hid (Below w.heap.size w wr):=HB.out.trans (HBL.out.mono hbs);have hwz:=HBW.out.size;clear HR hfl hok' HKI HU HK;by_cases h0:n=0
      ·have HR3:Hid (R=((0,7),nodes,data,hs)):=by show _=_;rw[HR2.out,zzD h0]
       subst h0;go_wp2_with (go_at_call 157;refine Calls.mono (HFL.out _) ?_;rintro _ _ ⟨rfl,rfl⟩);go_ret2;rw[HR3.out];exact⟨rfl,HSAME.out _ HBW.out⟩
      ·have h0':((n:Int) == 0)=false:=by simp[h0]
       have hownr:=ownsRow_keep HOWN.out (fun g hg=>HBL.out.block g (ownsRow_lt HOWN.out hg));have hup:=up_any HST2.out HF.out al n cl xs (listedS_of_owns hownr) HSX.out (by omega) (by omega) hcap;rw[<-HPP.out] at hup;obtain⟨e,he⟩:∃e,e=upP nodes xs:=⟨_,rfl⟩;rw[<-he] at hup HR2;have HU:Hid _:=hup;clear hup he hownr;by_cases h1:e=0
       ·have h1':(e != 0)=false:=by simp[h1]
        have HR3:Hid (R=openGP nodes data hs p fl k pp):=by show _=_;rw[HR2.out,zzB h0,zzB (by simp[h1])]
        clear HR2 h1 h0;have hfd:=nfind_any na nodes.length nc nodes p wr (listed_of_owns HST2.out.rowN) HF.out.big;have hma:=many_any HST2.out HF.out pp;obtain⟨q,hq⟩:∃q,q=(itemsP nodes pp).length:=⟨_,rfl⟩;obtain⟨m,hm⟩:∃m,m=nodes.length:=⟨_,rfl⟩;have k0:=HST2.out.c0;have hmb:m<=1000000000:=by rw[hm];exact HF.out.big
        rw[<-hm] at hfd k0;rw[<-hq] at hma;have HM:Hid _:=hma;have HMM:Hid (m=nodes.length):=hm;have HQ:Hid (q=(itemsP nodes pp).length):=hq;have HBT:Hid (∀f,1<=f/\f<=32->bitB fl f=true->∀W,Calls prog 159 #[.int .i64 fl,.int .i64 f] W fun e w'=>e=.returned (.bool true)/\w'=W):=fun f hf e W=>by have:=bit_any fl f W hf63 hf;rwa [e] at this
        have HBN:Hid (∀f,1<=f/\f<=32->bitB fl f=false->∀W,Calls prog 159 #[.int .i64 fl,.int .i64 f] W fun e w'=>e=.returned (.bool false)/\w'=W):=fun f hf e W=>by have:=bit_any fl f W hf63 hf;rwa [e] at this
        clear hma hm hq hf63;cases hfi:findP nodes p with
        | none=>
         rw[hfi] at hfd;have HFD:Hid (Calls prog 106 #[.slice na m nc,.string p] wr fun e w'=>e=.returned (.int .i64 (-1))/\w'=wr):=hfd;have HR4:Hid (R=if bitB fl 4=false then ((0,4),nodes,data,hs) else if 16<=q then ((0,11),nodes,data,hs) else (((k:Int),0),nodes ++ [(p,1,(data.length:Int))],data ++ [⟨#[]⟩],hs.set k (true,(data.length:Int),fl,0))):=by
          show _=_;rw[HR3.out,HQ.out];unfold openGP;rw[hfi]
         clear hfd hfi HR3;go_wp2_with fail;refine Calls.mono (HFL.out _) ?_;rintro _ wr ⟨rfl,rfl⟩;go_wp2_with fail;refine Calls.mono HU.out ?_;rintro _ wr ⟨rfl,rfl⟩;go_wp2_with fail;refine Calls.mono HFD.out ?_;rintro _ wr ⟨rfl,rfl⟩;go_wp2_with fail;refine Calls.mono HM.out ?_;rintro _ w2 ⟨rfl,hb2⟩;have HBW2:Hid _:=HBW.out.trans (hb2.mono hwz);have hst3:=HST2.out.below hb2;have HST3:Hid _:=hst3;have hSl3:=hst3.lt;have hz2:=HBW2.out.size;clear k0 c0;cases b4:bitB fl 4 with
         | false=>
          have HR5:Hid (R=((0,4),nodes,data,hs)):=by show _=_;rw[HR4.out,zzD b4]
          go_wp2_with (go_at_call 159;(first | refine Calls.mono (HBT.out _ (by decide) (by assumption) _) ?_ | refine Calls.mono (HBN.out _ (by decide) (by assumption) _) ?_);rintro _ _ ⟨rfl,rfl⟩);go_ret2;rw[HR5.out];exact⟨rfl,HSAME.out _ HBW2.out⟩
         | true=>
          by_cases h16:16<=q
          ·have h16':(16:Int)<=(q:Int):=by omega
           have HR5:Hid (R=((0,11),nodes,data,hs)):=by show _=_;rw[HR4.out,zzB (by rw[b4];simp),zzD h16]
           go_wp2_with (go_at_call 159;(first | refine Calls.mono (HBT.out _ (by decide) (by assumption) _) ?_ | refine Calls.mono (HBN.out _ (by decide) (by assumption) _) ?_);rintro _ _ ⟨rfl,rfl⟩);go_ret2;rw[HR5.out];exact⟨rfl,HSAME.out _ HBW2.out⟩
          ·have h16':decide ((16:Int)<=(q:Int))=false:=zzE (by omega)
           have HR5:Hid (R=(((k:Int),0),nodes ++ [(p,1,(data.length:Int))],data ++ [⟨#[]⟩],hs.set k (true,(data.length:Int),fl,0))):=by show _=_;rw[HR4.out,zzB (by rw[b4];simp),zzB h16]
           clear HR4;obtain⟨iN,hiN,hN0,hN1,hN2⟩:=info_parts infoNode;obtain⟨iS,hiS,hS0,hS1,hS2⟩:=info_parts infoStrR;obtain⟨nd,hnd⟩:∃nd,nd=data.length:=⟨_,rfl⟩;have k03:=hst3.c0;have k13:=hst3.c1;rw[<-HMM.out] at k03;rw[<-hnd] at k13 hdl;have HND:Hid (nd=data.length):=hnd;have HRN:Hid (w2.ownsRow 0 200 3 (.slice na m nc) m (flat nodes)):=by show World.ownsRow _ _ _ _ _ _ _;rw[HMM.out];exact hst3.rowN
           have HAT2:Hid (StAt (NewF F w w2) w2 S na da nc dc nodes data (tabV hs++more)):=hst3.keep (fun _ h=>.inl h) (fun _ _=>rfl);have HKP:Hid (Keeps F w w2):=Keeps.of_below HBW2.out;clear hst3 hnd h16;go_upto_region 29 with (go_at_call 159;(first | refine Calls.mono (HBT.out _ (by decide) (by assumption) _) ?_ | refine Calls.mono (HBN.out _ (by decide) (by assumption) _) ?_);rintro _ w2 ⟨rfl,rfl⟩)
           go_cut [] from 112 to 127 (fun wx=>Hid (StInv (NewF F w wx) wx S (nodes ++ [(p,1,(nd:Int))]) data (tabV hs++more)/\Keeps F w wx))
           case first=>
            go_region_law (refine step_append_own_at rfl (.tmp 116) (.tmp 124) 174 rfl 0 200 iN _ 3 32 underlying174 hiN hN0 hN1 hN2 rfl (by decide) (.slice na m nc) m (flat nodes) (by simp[Act.eval]) (World.ownsRow.alloc (show (w2.drewN 1).ownsRow _ _ _ _ _ _ from HRN.out) _) ⟨w2.heap.size,0,none⟩ 1 1 (encE (p,1,(nd:Int))) (by simp[Act.eval]) rfl (item_cells (w2.drewN 1) (p,1,(nd:Int)) _ _ rfl) (encE_one _) (by unfold maxLen;omega) (by omega) (zzF _) ?_;intro v4 w4 hown4 hgrow4 hloc4;obtain⟨g4,c4,rfl⟩:=slice_of_owns hown4 (by omega);have hW4:=grown_W HAT2.out.hS (kb_alloc w2 1 _) (by simp) hgrow4 (owns_ne_cells HRN.out HAT2.out.hS (by decide));have p04:w4.cell? ⟨S,0,none⟩=some (.slice na nodes.length nc):=(by simp[World.cell?,hW4]);have f04:w4.frozen? ⟨S,0,none⟩=false:=(by simp[World.frozen?,hW4]);have hSl4:S<w4.heap.size:=(zzA hSl3 (by have:=hgrow4.size;simp at this;omega)))
            all_goals
             go_wp2_with fail;go_meet;exact out_push HAT2.out HKP.out HMM.out hown4 hgrow4 hloc4
           case rest=>
            rename World=>w5;obtain⟨⟨na2,nc2,da2,dc2,hst5⟩,hk5⟩:=hcut.out;have HK5:Hid (Keeps F w w5):=hk5;have HAT5:Hid (StAt (NewF F w w5) w5 S na2 da2 nc2 dc2 (nodes ++ [(p,1,(nd:Int))]) data (tabV hs++more)):=hst5;have k15:=hst5.c1;have hSl5:=hst5.lt;rw[<-HND.out] at k15;have HRD:Hid (w5.ownsRow 0 9 1 (.slice da2 nd dc2) nd (encS data)):=by show World.ownsRow _ _ _ _ _ _ _;rw[HND.out];exact hst5.rowD
            clear hcut hst5 hk5 k03 k13 hSl3;go_wp2_with (at_builtin;refine wpList_append_at rfl (.tmp 132) (.tmp 133) 131 rfl 0 9 iS _ 1 16 underlying131 hiS hS0 hS1 hS2 rfl (by decide) (.slice da2 nd dc2) nd (encS data) rfl (World.ownsRow.alloc HRD.out _) ⟨w5.heap.size,0,none⟩ 1 1 [.string ⟨#[]⟩] rfl rfl (one_cell w5 _ _ _ rfl) one_str (by unfold maxLen;omega) (by omega) (zzF _) ?_);intro v6 w6 hown6 hgrow6 hloc6;obtain⟨g6,c6,rfl⟩:=slice_of_owns hown6 (by omega);have hW6:=grown_W HAT5.out.hS (kb_alloc0 w5 _) (by simp) hgrow6 (owns_ne_cells HRD.out HAT5.out.hS (by decide));have p16:w6.cell? ⟨S,1,none⟩=some (.slice da2 data.length dc2):=by simp[World.cell?,hW6]
            have f16:w6.frozen? ⟨S,1,none⟩=false:=(by simp[World.frozen?,hW6]);have hSl6:S<w6.heap.size:=zzA hSl5 (by have:=hgrow6.size;simp at this;omega);obtain⟨hsi8,hk8⟩:=out_pushD0 HAT5.out HK5.out HND.out hown6 hgrow6 hloc6;have HSI8:Hid _:=hsi8;have HK8:Hid _:=hk8;clear hsi8 hk8 hown6 hgrow6 hloc6 hW6 k15;go_upto_region 31 with fail;obtain⟨w8,hw8⟩:∃w8,w8=w6.setCell ⟨S,1,none⟩ (.slice (some ⟨g6,0,none⟩) (nd+1) c6):=⟨_,rfl⟩;rw[<-hw8] at HSI8 HK8 ⊢;clear hw8 p16 f16 hSl6;obtain⟨na8,nc8,da8,dc8,hst8⟩:=HSI8.out;have hml:m<(nodes ++ [(p,1,(nd:Int))]).length:=by rw[HMM.out];simp
            have k08:=hst8.c0;have k18:=hst8.c1;have e1:(nodes ++ [(p,1,(nd:Int))]).length=m+1:=by rw[HMM.out];simp
            have e2:(data ++ [(⟨#[]⟩:ByteArray)]).length=nd+1:=by rw[HND.out];simp
            rw[e1] at k08;rw[e2] at k18;have hrow:=hst8.rowN;obtain⟨g,c',hv⟩:=slice_of_owns hrow (by omega);have ha:=(Value.slice.inj hv).1;subst ha;obtain⟨_,_,x2⟩:=row_cells (off:=0) (owns_cells hrow) hml;rw[Nat.zero_add] at x2;have e3:(nodes ++ [(p,1,(nd:Int))])[m].2.2=(nd:Int):=by
             have hmm:=HMM.out;subst hmm;simp
            rw[e3] at x2;have hgl:=ownsRow_lt hrow rfl;have him:(m:Int)<((m+1:Nat):Int):=by omega
            have hdm:(nd:Int)<((nd+1:Nat):Int):=(by omega);have hSl8:=hst8.lt;obtain⟨gd,hgd,hgdl,xd,_⟩:=row_one hst8.rowD (i:=nd) (v:=.string ⟨#[]⟩) (by rw[HND.out];simp[encS]);have hkl:k<hs.length:=by omega
            obtain⟨⟨u0,j0,g0,a0⟩,hke⟩:∃x,hs[k]? = some x:=⟨_,zzH hkl⟩;obtain⟨y0,y1,y2,y3,hfz⟩:=hst8.hnd hke;have z0:=hfz (2+k*4);have z1:=hfz (2+k*4+1);have z2:=hfz (2+k*4+2);have z3:=hfz (2+k*4+3);subst hgd;obtain⟨cur,hcur⟩:=owns_block hst8.rowD rfl;have fd:w8.frozen? ⟨gd,nd,none⟩=false:=by simp[World.frozen?,hcur]
            have hne:gd≠S:=fun e=>owns_ne_cells hst8.rowD hst8.hS (by decide) (by rw[e];rfl);have hne2:S≠gd:=fun e=>hne e.symm;have HST8:Hid _:=hst8;have HE2:Hid _:=e2;clear hfz hcur hke hrow hv hst8 e1 e2 HSI8;cases b16:bitB fl 16 with
            | true=>
             go_wp2_with (go_at_call 159;(first | refine Calls.mono (HBT.out _ (by decide) (by assumption) _) ?_ | refine Calls.mono (HBN.out _ (by decide) (by assumption) _) ?_);rintro _ _ ⟨rfl,rfl⟩);go_ret2;rw[HR5.out];obtain⟨p1,p2⟩:=HST8.out.setD (j:=nd) (by rw[HE2.out];omega) ⟨#[]⟩;obtain⟨p3,p4⟩:=p1.allH hkl true (nd:Int) fl 0;have es:(data ++ [(⟨#[]⟩:ByteArray)]).set nd ⟨#[]⟩=data ++ [⟨#[]⟩]:=by rw[HND.out];simp
             rw[es] at p3;rw[<-HND.out];exact⟨rfl,⟨_,_,_,_,p3.keep (fun _ h=>newF_grow h (p2.two p4).size) (fun _ _=>rfl)⟩,keeps_old HK8.out (p2.two p4)⟩
            | false=>
             go_wp2_with (go_at_call 159;(first | refine Calls.mono (HBT.out _ (by decide) (by assumption) _) ?_ | refine Calls.mono (HBN.out _ (by decide) (by assumption) _) ?_);rintro _ _ ⟨rfl,rfl⟩);go_ret2;rw[HR5.out];obtain⟨p3,p4⟩:=HST8.out.allH hkl true (nd:Int) fl 0;rw[<-HND.out];exact⟨rfl,⟨_,_,_,_,p3.keep (fun _ h=>newF_grow h p4.size) (fun _ _=>rfl)⟩,keeps_old HK8.out p4⟩
        | some ii=>
         rw[hfi] at hfd;have HFD:Hid (Calls prog 106 #[.slice na m nc,.string p] wr fun e w'=>e=.returned (.int .i64 (ii:Int))/\w'=wr):=hfd;have hil2:ii<nodes.length:=(List.findIdx?_eq_some_iff_getElem.1 hfi).1;have HR4:Hid (R=if nodes[ii].2.1=2 then ((0,7),nodes,data,hs) else if bitB fl 8=true then ((0,6),nodes,data,hs) else (((k:Int),0),nodes,if bitB fl 16=true then data.set nodes[ii].2.2.toNat ⟨#[]⟩ else data,hs.set k (true,nodes[ii].2.2,fl,0))):=by
          show _=_;rw[HR3.out];unfold openGP;rw[hfi];simp only[zzH hil2]
         clear hfd hfi HR3;go_wp2_with fail;refine Calls.mono (HFL.out _) ?_;rintro _ wr ⟨rfl,rfl⟩;go_wp2_with fail;refine Calls.mono HU.out ?_;rintro _ wr ⟨rfl,rfl⟩;go_wp2_with fail;refine Calls.mono HFD.out ?_;rintro _ wr ⟨rfl,rfl⟩;go_wp2_with fail;refine Calls.mono HM.out ?_;rintro _ w2 ⟨rfl,hb2⟩;have hbw2:Below w.heap.size w w2:=HBW.out.trans (hb2.mono hwz);have hst3:=HST2.out.below hb2;have k03:=hst3.c0;have k13:=hst3.c1;rw[<-HMM.out] at k03;have hrow:=hst3.rowN;obtain⟨g,c',hv⟩:=slice_of_owns hrow (by omega);have ha:=(Value.slice.inj hv).1;subst ha;obtain⟨_,x1,x2⟩:=row_cells (off:=0) (owns_cells hrow) hil2;rw[Nat.zero_add] at x1 x2;have hgl:=ownsRow_lt hrow rfl;have him:(ii:Int)<(m:Int):=by have:=HMM.out;omega
         have hSl3:=hst3.lt;have HST3:Hid _:=hst3;have HBW2:Hid _:=hbw2;have hz2:=hbw2.size;clear hrow hv hst3 hbw2 k0 c0;by_cases hk2:nodes[ii].2.1=2
         ·have HR5:Hid (R=((0,7),nodes,data,hs)):=by show _=_;rw[HR4.out,zzD hk2]
          rw[hk2] at x1;clear hk2;go_wp2;go_ret2;rw[HR5.out];exact⟨rfl,HSAME.out _ HBW2.out⟩
         ·have hk1:nodes[ii].2.1=1:=(HKN.out _ (zzJ hil2)).resolve_right hk2
          obtain⟨hf0,hf1⟩:=HF.out.files _ (zzJ hil2) hk1;obtain⟨j,hj⟩:∃j:Nat,nodes[ii].2.2=(j:Int):=⟨nodes[ii].2.2.toNat,by omega⟩;have hjd:j<data.length:=by omega
          have HR5:Hid (R=if bitB fl 8=true then ((0,6),nodes,data,hs) else (((k:Int),0),nodes,if bitB fl 16=true then data.set j ⟨#[]⟩ else data,hs.set k (true,(j:Int),fl,0))):=by show _=_;rw[HR4.out,zzB hk2,hj,Int.toNat_natCast]
          rw[hk1] at x1;rw[hj] at x2;clear hk2 hk1 hf0 hf1 hj HR4;cases b8:bitB fl 8 with
          | true=>
           have HR6:Hid (R=((0,6),nodes,data,hs)):=by show _=_;rw[HR5.out,zzD b8]
           go_wp2_with (go_at_call 159;refine Calls.mono (HBT.out _ (by decide) (by assumption) _) ?_;rintro _ _ ⟨rfl,rfl⟩);go_ret2;rw[HR6.out];exact⟨rfl,HSAME.out _ HBW2.out⟩
          | false=>
           have hkl:k<hs.length:=(by omega);obtain⟨gd,hgd,hgdl,xd,_⟩:=row_one HST3.out.rowD (i:=j) (v:=.string data[j]) (by simp[encS,hjd]);obtain⟨dv,hdv⟩:∃dv,dv=data[j]:=⟨_,rfl⟩;rw[<-hdv] at xd;obtain⟨md,hmd⟩:∃md,md=data.length:=⟨_,rfl⟩;rw[<-hmd] at k13 hdl;have hjm:(j:Int)<(md:Int):=by omega
           obtain⟨⟨u0,j0,g0,a0⟩,hke⟩:∃x,hs[k]? = some x:=⟨_,zzH hkl⟩;obtain⟨y0,y1,y2,y3,hfz⟩:=HST3.out.hnd hke;have z0:=hfz (2+k*4);have z1:=hfz (2+k*4+1);have z2:=hfz (2+k*4+2);have z3:=hfz (2+k*4+3);subst hgd;obtain⟨cur,hcur⟩:=owns_block HST3.out.rowD rfl;have fd:w2.frozen? ⟨gd,j,none⟩=false:=by simp[World.frozen?,hcur]
           have hne:gd≠S:=fun e=>owns_ne_cells HST3.out.rowD HST3.out.hS (by decide) (by rw[e];rfl);have hne2:S≠gd:=fun e=>hne e.symm;have HJD:Hid (j<data.length):=hjd;clear hfz hcur hdv hke hjd;cases b16:bitB fl 16 with
           | true=>
            have HR6:Hid (R=(((k:Int),0),nodes,data.set j ⟨#[]⟩,hs.set k (true,(j:Int),fl,0))):=by show _=_;rw[HR5.out,zzB (by rw[b8];simp),zzD b16]
            go_wp2_with (go_at_call 159;(first | refine Calls.mono (HBT.out _ (by decide) (by assumption) _) ?_ | refine Calls.mono (HBN.out _ (by decide) (by assumption) _) ?_);rintro _ _ ⟨rfl,rfl⟩);go_ret2;rw[HR6.out];obtain⟨p1,p2⟩:=HST3.out.setD HJD.out ⟨#[]⟩;obtain⟨p3,p4⟩:=p1.allH hkl true (j:Int) fl 0;exact⟨rfl,⟨_,_,_,_,p3.keep (fun _ h=>.inl h) (fun _ _=>rfl)⟩,(p2.two p4).after HBW2.out⟩
           | false=>
            have HR6:Hid (R=(((k:Int),0),nodes,data,hs.set k (true,(j:Int),fl,0))):=by show _=_;rw[HR5.out,zzB (by rw[b8];simp),zzB (by rw[b16];simp)]
            go_wp2_with (go_at_call 159;(first | refine Calls.mono (HBT.out _ (by decide) (by assumption) _) ?_ | refine Calls.mono (HBN.out _ (by decide) (by assumption) _) ?_);rintro _ _ ⟨rfl,rfl⟩);go_ret2;rw[HR6.out];obtain⟨p3,p4⟩:=HST3.out.allH hkl true (j:Int) fl 0;exact⟨rfl,⟨_,_,_,_,p3.keep (fun _ h=>.inl h) (fun _ _=>rfl)⟩,p4.after HBW2.out⟩
       ·have h1':(e != 0)=true:=by simp[h1]
        have HR3:Hid (R=((0,e),nodes,data,hs)):=by show _=_;rw[HR2.out,zzB h0,zzD h1]
        clear h1 h0;go_wp2_with fail;refine Calls.mono (HFL.out _) ?_;rintro _ wr ⟨rfl,rfl⟩;go_wp2_with fail;refine Calls.mono HU.out ?_;rintro _ wr ⟨rfl,rfl⟩;go_wp2;go_ret2;rw[HR3.out];exact⟨rfl,HSAME.out _ HBW.out⟩
  ·obtain rfl:i=8:=by omega
   have HKI:Hid (k=8):=HK.out.trans (free_none h8 HU.out);cases hok:ok with
   | false=>
    have HR2:Hid (R=((0,1),nodes,data,hs)):=by show _=_;rw[HR.out,hok];rfl
    subst hok;go_wp2_with (go_at_call 157;refine Calls.mono (HFL.out _) ?_;rintro _ _ ⟨rfl,rfl⟩);go_ret2;rw[HR2.out];exact⟨rfl,HSAME.out _ (HB.out.trans (HBL.out.mono hbs))⟩
   | true=>
    subst hok;cases hfl:flaggedB fl with
    | false=>
     have HR2:Hid (R=((0,2),nodes,data,hs)):=by show _=_;rw[HR.out,hfl];rfl
     rw[hfl] at HFL;go_wp2_with (go_at_call 157;refine Calls.mono (HFL.out _) ?_;rintro _ _ ⟨rfl,rfl⟩);go_ret2;rw[HR2.out];exact⟨rfl,HSAME.out _ (HB.out.trans (HBL.out.mono hbs))⟩
    | true=>
     have HR2:Hid (R=((0,10),nodes,data,hs)):=by show _=_;rw[HR.out,hfl,HKI.out];rfl
     rw[hfl] at HFL;go_wp2_with (go_at_call 157;refine Calls.mono (HFL.out _) ?_;rintro _ _ ⟨rfl,rfl⟩);go_ret2;rw[HR2.out];exact⟨rfl,HSAME.out _ (HB.out.trans (HBL.out.mono hbs))⟩
end
theorem oseek_ok (o:Nat)(x:Value)(a:Int)(h0:0<=a)(h1:a<=256)(w:World)(ho:o<w.heap.size)(c2:w.cell? ⟨o,2,none⟩=some x)(f2:w.frozen? ⟨o,2,none⟩=false):Calls prog 165 #[.pointer (some ⟨o,0,none⟩),.int .i64 a] w fun e w'=>e=.returned (.int .i64 0)/\w'=w.setCell ⟨o,2,none⟩ (.int .i64 a):=by
 have t0:decide (a<0)=false:=zzE (by omega);have t1:decide (256<a)=false:=zzE (by omega);go_enter func165,ntmps165;go_wp2;go_ret;exact⟨rfl,rfl⟩
theorem seek_ws (wb k o:Nat)(n er:Int)(R:World->Prop)(w:World)(hc:w.cell? ⟨wb,1+k,none⟩=some (.pointer (some ⟨o,0,none⟩)))(hk:k<8)
  (hr:Calls prog 165 #[.pointer (some ⟨o,0,none⟩),.int .i64 n] w fun e w'=>e=.returned (.int .i64 er)/\R w'):
  Calls prog 102 #[.pointer (some ⟨wb,0,none⟩),.int .i64 (k:Int),.int .i64 n] w fun e w'=>e=.returned (.int .i64 er)/\R w':=by
 have hat:=tat_some wb k o w hc hk;go_enter func102,ntmps102;go_wp2_with (first
  | (go_at_call 122;refine hat.mono ?_;rintro e w1 ⟨rfl,rfl⟩)
  | (go_at_call 165;refine hr.mono ?_;rintro e w1 ⟨rfl,hR⟩))
 go_ret;exact⟨rfl,hR⟩
theorem resize_ws (wb k o:Nat)(n er:Int)(R:World->Prop)(w:World)(hc:w.cell? ⟨wb,1+k,none⟩=some (.pointer (some ⟨o,0,none⟩)))(hk:k<8)
  (hr:Calls prog 164 #[.pointer (some ⟨o,0,none⟩),.int .i64 n] w fun e w'=>e=.returned (.int .i64 er)/\R w'):
  Calls prog 100 #[.pointer (some ⟨wb,0,none⟩),.int .i64 (k:Int),.int .i64 n] w fun e w'=>e=.returned (.int .i64 er)/\R w':=by
 have hat:=tat_some wb k o w hc hk;go_enter func100,ntmps100;go_wp2_with (first
  | (go_at_call 122;refine hat.mono ?_;rintro e w1 ⟨rfl,rfl⟩)
  | (go_at_call 164;refine hr.mono ?_;rintro e w1 ⟨rfl,hR⟩))
 go_ret;exact⟨rfl,hR⟩
theorem Mate.used {objs:List Ob}{fl:Fls}{op:Ops}{t:LT}{nodes:List Ent}{data:List ByteArray}{hs:List Hnd}{φ:Nat->Nat}(h:Mate objs fl op t nodes data hs φ)(n:Int):
  (usedH hs n=false/\NoneAt (fun k=>(op k).map (·.1)) n)\/∃(k b f:Nat) (fg pl:Int),k<8/\n=(k:Int)/\op k=some (b,f,fg,pl)/\hs[k]? = some (true,(φ f:Int),fg,pl):=by
 by_cases hn:0<=n/\n<8
 ·obtain⟨k,rfl⟩:∃k:Nat,n=(k:Int):=⟨n.toNat,by omega⟩
  have hk:k<8:=by omega
  have ht:=h.tab k hk;cases ho:op k with
  | none=>
   refine .inl ⟨?_,fun j _ hj=>?_⟩
   ·rw[ho] at ht
    obtain⟨hl,e⟩:=List.getElem?_eq_some_iff.1 ht;rw[usedH_at hl h.h8,e];rfl
   ·obtain rfl:j=k:=by omega
    show (op j).map _=none;rw[ho];rfl
  | some x=>
   obtain⟨b,f,fg,pl⟩:=x;rw[ho] at ht;exact .inr ⟨k,b,f,fg,pl,hk,rfl,ho,ht⟩
 ·exact .inl ⟨usedH_no hn,fun k hk e=>absurd ⟨by omega,by omega⟩ hn⟩
section
variable {s i p:Nat}{B:WB}{objs:List Ob}{tg:Tags}{w:World}{g:WG}{lim:Nat}{t:LT}{nodes:List Ent}{data:List ByteArray}{rest:List Value}
theorem did_files {w':World}{tg':Tags}{fs':FS}{fl':Fls}{op':Ops}{lim':Nat}{data':List ByteArray}{rest':List Value}(h:QInv tg w s i p B objs g lim t)(hi:HeldInj objs t)(m:Moves (Mine i) tg tg' w w')(hW:WInv tg' w' s i p B objs { g with fs:=fs',fl:=fl',op:=op' } lim')(hl:lim'<=lim+400)(hfl:FlOk objs fl')(hb:g.fs.brk=false)(hN:g.fs.Next fs')(hY:Tied objs fl' op' t nodes data' rest'):Did9 s i p B objs tg w w' g (lim+400) nodes data' rest':=
 ⟨tg',_,t,m,⟨hW.mono hl,h.flat,h.ok,hfl⟩,hN.1.trans hb,hN.2.2.1,hi,hY⟩
theorem QInv.cell (h:QInv tg w s i p B objs g lim t){k b f:Nat}{fg pl:Int}(hk:k<8)(ho:g.op k=some (b,f,fg,pl)):w.cell? ⟨B.wb,1+k,none⟩=some (.pointer (some ⟨b,0,none⟩)):=by
 obtain⟨_,_,h1⟩:=h.ws;rw[h1.2.1 k hk];show some (Value.pointer (Option.map _ (Option.map _ (g.op k))))=_;rw[ho];rfl
theorem QInv.fg (h:QInv tg w s i p B objs g lim t){k b f:Nat}{fg pl:Int}(ho:g.op k=some (b,f,fg,pl)):(∃x,g.fl f=some x)/\(0<=fg/\fg<=63)/\0<=pl/\pl<=256:=by
 obtain⟨_,_,hx,h1,h2,h3,h4⟩:=h.inv.wp.opens.at_ k b f fg pl ho;exact⟨hx,⟨h1,by omega⟩,h3,h4⟩
theorem stinv_same {F:Nat->Prop}{w1 w':World}{Sb:Nat}(h:StInv F w1 Sb nodes data rest)(hb:Below w1.heap.size w1 w'):StInv (NewF F w1 w') w' Sb nodes data rest/\Keeps F w1 w':=⟨StInv.below h hb,Keeps.of_below hb⟩
theorem stinv_of {F:Nat->Prop}{w1 w':World}{Sb:Nat}{na da:Option Addr}{nc dc:Nat}(h:StAt F w' Sb na da nc dc nodes data rest)(hk:Keeps F w1 w'):StInv (NewF F w1 w') w' Sb nodes data rest/\Keeps F w1 w':=⟨⟨na,nc,da,dc,h.keep (fun _ h=>.inl h) (fun _ _=>rfl)⟩,hk⟩
theorem p_seek (h:QInv tg w s i p B objs g lim t)(hb:g.fs.brk=false)(hi:HeldInj objs t)(hY:Tied objs g.fl g.op t nodes data rest)(Sb:Nat)(n a:Int):
  ∃er rest',(Calls prog 102 #[.pointer (some ⟨B.wb,0,none⟩),.int .i64 n,.int .i64 a] w fun e w'=>e=.returned (.int .i64 er)/\Did9 s i p B objs tg w w' g (lim+400) nodes data rest')/\
   ∀{F:Nat->Prop} {w1:World},StInv F w1 Sb nodes data rest->Calls prog 103 #[.pointer (some ⟨Sb,0,none⟩),.int .i64 n,.int .i64 a] w1 fun e w'=>e=.returned (.int .i64 er)/\StInv (NewF F w1 w') w' Sb nodes data rest'/\Keeps F w1 w':=by
 have hY':=hY;obtain⟨⟨φ,hs,more,rfl,hM⟩,hsd⟩:=hY;obtain⟨hwb,c0,hT⟩:=h.ws;have hdoc:∀{F:Nat->Prop} {w1:World},StInv F w1 Sb nodes data (tabV hs++more)->Calls prog 103 #[.pointer (some ⟨Sb,0,none⟩),.int .i64 n,.int .i64 a] w1 fun e w'=>e=.returned (.int .i64 (seekH hs n a).2)/\StInv (NewF F w1 w') w' Sb nodes data (tabV (seekH hs n a).1++more)/\Keeps F w1 w':=fun hst=>by
  obtain⟨na,nc,da,dc,hst⟩:=hst;exact (sseek_any hst hM.h8 n a).mono fun e w' ⟨he,h1,h2⟩=>⟨he,stinv_of h1 h2⟩
 refine⟨_,_,?_,hdoc⟩;rcases hM.used n with ⟨hu,hn⟩ | ⟨k,b,f,fg,pl,hk,rfl,ho,hh⟩
 ·have e:seekH hs n a=(hs,3):=by unfold seekH;rw[zzD hu]
  rw[e];exact (seek_no hT hn a).mono fun e w' ⟨he,hw⟩=>⟨he,did_same h hb hi hY' (by rw[hw];exact Below.refl _ _)⟩
 ·have hu:=used_true hM.h8 hh
  obtain⟨hx,hfg,hp0,hp1⟩:=h.fg ho;obtain⟨hbl,_,_,c2,hfz⟩:=opened_cells h.inv ho;by_cases ha:a<0\/256<a
  ·have e:seekH hs (k:Int) a=(hs,2):=by unfold seekH;rw[zzB (by rw[hu];simp),zzD ha]
   rw[e];exact (seek_ws B.wb k b a 2 (fun w'=>w'=w) w (h.cell hk ho) hk (oseek_err a ha w)).mono fun e w' ⟨he,hw⟩=>⟨he,did_same h hb hi hY' (by rw[hw];exact Below.refl _ _)⟩
  ·have e:seekH hs (k:Int) a=(hs.set k (true,(φ f:Int),fg,a),0):=by unfold seekH;rw[zzB (by rw[hu];simp),zzB ha,Int.toNat_natCast,hh]
   rw[e];refine (seek_ws B.wb k b a 0 _ w (h.cell hk ho) hk (oseek_ok b _ a (by omega) (by omega) w hbl c2 (hfz 2))).mono ?_;rintro e w' ⟨he,rfl⟩;obtain⟨m,hW⟩:=h.inv.place ho (pl':=a) (by omega) (by omega);refine⟨he,did_files (fs':=g.fs) (fl':=g.fl) h hi (m.mono mine7) hW (by omega) h.fl hb (FS.Next.refl _) ⟨⟨φ,_,more,rfl,hM.opens hk (some (b,f,fg,a)) (fun x hx=>?_)⟩,hsd⟩⟩;cases hx;exact hM.opf k (b,f,fg,pl) ho
theorem p_close (h:QInv tg w s i p B objs g lim t)(hb:g.fs.brk=false)(hi:HeldInj objs t)(hY:Tied objs g.fl g.op t nodes data rest)(Sb:Nat)(n:Int):
  ∃er rest',(Calls prog 65 #[.pointer (some ⟨B.wb,0,none⟩),.int .i64 n] w fun e w'=>e=.returned (.int .i64 er)/\Did9 s i p B objs tg w w' g (lim+400) nodes data rest')/\
   ∀{F:Nat->Prop} {w1:World},StInv F w1 Sb nodes data rest->Calls prog 104 #[.pointer (some ⟨Sb,0,none⟩),.int .i64 n] w1 fun e w'=>e=.returned (.int .i64 er)/\StInv (NewF F w1 w') w' Sb nodes data rest'/\Keeps F w1 w':=by
 have hY':=hY;obtain⟨⟨φ,hs,more,rfl,hM⟩,hsd⟩:=hY;obtain⟨hwb,c0,hT⟩:=h.ws;have hdoc:∀{F:Nat->Prop} {w1:World},StInv F w1 Sb nodes data (tabV hs++more)->Calls prog 104 #[.pointer (some ⟨Sb,0,none⟩),.int .i64 n] w1 fun e w'=>e=.returned (.int .i64 (closeH hs n).2)/\StInv (NewF F w1 w') w' Sb nodes data (tabV (closeH hs n).1++more)/\Keeps F w1 w':=fun hst=>by
  obtain⟨na,nc,da,dc,hst⟩:=hst;exact (sclose_any hst hM.h8 n).mono fun e w' ⟨he,h1,h2⟩=>⟨he,stinv_of h1 h2⟩
 refine⟨_,_,?_,hdoc⟩;rcases hM.used n with ⟨hu,hn⟩ | ⟨k,b,f,fg,pl,hk,rfl,ho,hh⟩
 ·have e:closeH hs n=(hs,3):=by unfold closeH;rw[zzD hu]
  rw[e];exact (close_no hT hn).mono fun e w' ⟨he,hw⟩=>⟨he,did_same h hb hi hY' (by rw[hw];exact Below.refl _ _)⟩
 ·have hu:=used_true hM.h8 hh
  have e:closeH hs (k:Int)=(hs.set k (false,0,0,0),0):=by unfold closeH;rw[zzB (by rw[hu];simp),Int.toNat_natCast]
  rw[e];refine (close_ws B.wb k b w hwb (h.cell hk ho) (hT.2.2 _) hk).mono ?_;rintro e w' ⟨he,rfl⟩;obtain⟨m,hW⟩:=h.inv.close hk;exact⟨he,did_files (fs':=g.fs) (fl':=g.fl) h hi (m.mono (fun _ h=>.inr (by rw[h]))) hW (by omega) h.fl hb (FS.Next.refl _) ⟨⟨φ,_,more,rfl,hM.opens hk none (fun x hx=>by cases hx)⟩,hsd⟩⟩
end
end Go.Proofs.YtlgidcmmgohagaaGreat
