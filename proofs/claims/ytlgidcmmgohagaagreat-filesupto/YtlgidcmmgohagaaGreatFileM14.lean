/- What is proved here: the document's own workspace. -/
import Derived.Test.YtlgidcmmgohagaaGreatFileM13
namespace Go.Proofs.YtlgidcmmgohagaaGreat
open Go.RowKit Go.Sort Go.Shelf Go.Proofs.Tryz
set_option linter.unusedVariables false
set_option maxRecDepth 100000
set_option maxHeartbeats 16000000
def movedPR (f t:ByteArray)(e:Ent):Ent:=if (e.1.toList == f.toList)=true\/underP e.1 f=true then (t++e.1.extract f.size e.1.size,e.2.1,e.2.2) else e
def tooDeep (f:ByteArray)(n m:Nat)(e:Ent):Bool:=underP e.1 f && decide (5<((splitP e.1).1.length:Int)-(n:Int)+(m:Int))
def renameP (nodes:List Ent)(f t:ByteArray):List Ent×Int:=
 if (splitP f).2=false\/(splitP t).2=false then (nodes,1)
 else if (splitP f).1.length=0\/(splitP t).1.length=0 then (nodes,9)
 else if wayP nodes (splitP f).1≠0 then (nodes,wayP nodes (splitP f).1)
 else if underP t f=true then (nodes,9)
 else if upP nodes (splitP t).1≠0 then (nodes,upP nodes (splitP t).1)
 else if (f.toList == t.toList)=true then (nodes,0)
 else if kindP nodes t=2/\kindP nodes f=1 then (nodes,7)
 else if kindP nodes t=1/\kindP nodes f=2 then (nodes,5)
 else if kindP nodes t=2/\0<(itemsP nodes t).length then (nodes,8)
 else if kindP nodes t=0/\16<=(itemsP nodes (joinP ((splitP t).1.take ((splitP t).1.length-1)))).length/\insideP f (joinP ((splitP t).1.take ((splitP t).1.length-1)))=false then (nodes,11)
 else if (nodes.any (tooDeep f (splitP f).1.length (splitP t).1.length))=true then (nodes,11)
 else ((goneP nodes t).map (movedPR f t),0)
theorem any_take_false {nodes:List Ent}{P:Ent->Bool}(h:∀j (hj:j<nodes.length),P nodes[j]=false):nodes.any P=false:=by
 rw[List.any_eq_false];intro x hx;obtain⟨j,hj,rfl⟩:=List.getElem_of_mem hx;rw[h j hj];decide
theorem gone_fine {nodes:List Ent}{data:List ByteArray}(h:FineN nodes data)(p:ByteArray):(goneP nodes p).length<=1000000000/\∀e ∈ goneP nodes p,e.1.size<=2097152:=by
 refine⟨zzG (List.length_filter_le _ _) h.big,fun e he=>h.small e (List.mem_filter.1 he).1⟩
theorem under_size {p t:ByteArray}(h:underP p t=true):t.size+1<p.size:=by
 unfold underP at h;split at h
 ·assumption
 ·cases h
section
variable {F:Nat->Prop}{w:World}{S:Nat}{na da:Option Addr}{nc dc:Nat}{nodes:List Ent}{data:List ByteArray}{rest:List Value}
theorem srename_any (h:StAt F w S na da nc dc nodes data rest)(hf:FineN nodes data)(f t:ByteArray)(hfs:f.size<=1048576)(hts:t.size<=1048576):
  Calls prog 97 #[.pointer (some ⟨S,0,none⟩),.string f,.string t] w fun e w'=>e=.returned (.int .i64 (renameP nodes f t).2)/\StInv (NewF F w w') w' S (renameP nodes f t).1 data rest/\Keeps F w w':=by
 obtain⟨i0,hi,hz0,hz1,hz2⟩:=info_parts infoNode;have HS1:Hid _:=split_any f w (by omega);have HS2:Hid (∀w1,_):=fun w1=>split_any t w1 (by omega);have HST:Hid (StAt F w S na da nc dc nodes data rest):=h;have HF:Hid (FineN nodes data):=hf;have HSAME:Hid (∀w',Below w.heap.size w w'->StInv (NewF F w w') w' S nodes data rest/\Keeps F w w'):=fun w' hb=>⟨StInv.below ⟨na,nc,da,dc,h⟩ hb,Keeps.of_below hb⟩;obtain⟨R,hR⟩:∃R,R=renameP nodes f t:=⟨_,rfl⟩;rw[<-hR];have HX:=split_small f;have HY:=split_small t;have h5f:(splitP f).2=true->(splitP f).1.length<=5:=split_ok_len;have h5t:(splitP t).2=true->(splitP t).1.length<=5:=split_ok_len;have HFB:=split_len f;have HTB:=split_len t;unfold renameP at hR;obtain⟨xs,hxs⟩:∃xs,xs=(splitP f).1:=⟨_,rfl⟩;obtain⟨ys,hys⟩:∃ys,ys=(splitP t).1:=⟨_,rfl⟩;obtain⟨ok1,hok1⟩:∃b,b=(splitP f).2:=⟨_,rfl⟩;obtain⟨ok2,hok2⟩:∃b,b=(splitP t).2:=⟨_,rfl⟩;rw[<-hxs,<-hok1] at HS1 hR h5f;rw[<-hys,<-hok2] at HS2 hR h5t;rw[<-hxs] at HX HFB;rw[<-hys] at HY HTB;have HXX:Hid (∀x ∈ xs,x.size<=12):=HX;have HYY:Hid (∀x ∈ ys,x.size<=12):=HY;obtain⟨pp,hpp⟩:∃pp,pp=joinP (ys.take (ys.length-1)):=⟨_,rfl⟩;rw[<-hpp] at hR;have HPP:Hid (pp=joinP (ys.take (ys.length-1))):=hpp;obtain⟨n,hn⟩:∃n,n=xs.length:=⟨_,rfl⟩;obtain⟨m,hm⟩:∃m,m=ys.length:=⟨_,rfl⟩;rw[<-hn] at HS1 hR h5f HFB;rw[<-hm] at HS2 hR h5t HTB;have HNN:Hid (n=xs.length):=hn;have HMM:Hid (m=ys.length):=hm;have HR:Hid (R=_):=hR;clear h hf hR HX HY hxs hys hok1 hok2 hpp hn hm;go_enter func97,ntmps97;go_wp2_with fail;refine Calls.mono HS1.out ?_;rintro _ w1 ⟨v1,rfl,hown1,hb1⟩;obtain⟨al,cl,rfl⟩:=owns_form hown1;have hcap1:=owns_capS hown1;have HO1:Hid _:=hown1;clear hown1;go_wp2_with fail;refine Calls.mono (HS2.out _) ?_;rintro _ w2 ⟨v2,rfl,hown2,hb2⟩;obtain⟨am,cm,rfl⟩:=owns_form hown2;have hcap2:=owns_capS hown2;have hbw2:Below w.heap.size w w2:=hb1.trans (hb2.mono hb1.size);have HL1:Hid (ListedS w2 al n xs):=(listedS_of_owns HO1.out).below hb2;have HL2:Hid (ListedS w2 am m ys):=listedS_of_owns hown2;have HT2:Hid (StAt F w2 S na da nc dc nodes data rest):=HST.out.below hbw2;have hbs2:=hbw2.size;clear hown2 HO1 HS1 HS2 hb1 hb2;cases ok1 with
 | false=>
  have HRR:Hid (R=(nodes,1)):=by show _=_;rw[HR.out,zzD (Or.inl rfl)]
  go_wp2;go_ret;rw[HRR.out];exact⟨rfl,HSAME.out _ hbw2⟩
 | true=>
 cases ok2 with
 | false=>
  have HRR:Hid (R=(nodes,1)):=by show _=_;rw[HR.out,zzD (Or.inr rfl)]
  go_wp2;go_ret;rw[HRR.out];exact⟨rfl,HSAME.out _ hbw2⟩
 | true=>
 have c0:¬((true:Bool)=false\/(true:Bool)=false):=by decide
 have HC0:Hid (¬((true:Bool)=false\/(true:Bool)=false)):=c0;have hn5:n<=5:=h5f rfl;have hm5:m<=5:=h5t rfl;clear c0;by_cases e0:n=0
 ·have HRR:Hid (R=(nodes,9)):=by show _=_;rw[HR.out,zzB HC0.out,zzD (Or.inl e0)]
  obtain rfl:=e0;go_wp2;go_ret;rw[HRR.out];exact⟨rfl,HSAME.out _ hbw2⟩
 by_cases e1:m=0
 ·have HRR:Hid (R=(nodes,9)):=by show _=_;rw[HR.out,zzB HC0.out,zzD (Or.inr e1)]
  have hn0:((n:Int) == 0)=false:=by simp[e0]
  obtain rfl:=e1;go_wp2;go_ret;rw[HRR.out];exact⟨rfl,HSAME.out _ hbw2⟩
 have hn0:((n:Int) == 0)=false:=by simp[e0]
 have hm0:((m:Int) == 0)=false:=by simp[e1]
 have HC1:Hid (¬(n=0\/m=0)):=fun h=>h.elim e0 e1;have hm1:0<m:=by omega
 obtain⟨ew,hew⟩:∃ew,ew=wayP nodes xs:=⟨_,rfl⟩;obtain⟨eu,heu⟩:∃eu,eu=upP nodes ys:=⟨_,rfl⟩;obtain⟨kf,hkf⟩:∃kf,kf=kindP nodes f:=⟨_,rfl⟩;obtain⟨kt,hkt⟩:∃kt,kt=kindP nodes t:=⟨_,rfl⟩;obtain⟨it,hit⟩:∃it,it=(itemsP nodes t).length:=⟨_,rfl⟩;obtain⟨ip,hip⟩:∃ip,ip=(itemsP nodes pp).length:=⟨_,rfl⟩;obtain⟨un,hun⟩:∃un,un=underP t f:=⟨_,rfl⟩;obtain⟨ins,hins⟩:∃ins,ins=insideP f pp:=⟨_,rfl⟩;obtain⟨eqb,heqb⟩:∃b,b=(f.toList == t.toList):=⟨_,rfl⟩;rw[<-hew,<-heu,<-hkf,<-hkt,<-hit,<-hip,<-hun,<-hins,<-heqb] at HR;have HW:Hid (Calls prog 153 #[.pointer (some ⟨S,0,none⟩),.slice al n cl] w2 fun e w'=>e=.returned (.int .i64 ew)/\w'=w2):=by rw[hew];exact way_any HT2.out al n cl xs HL1.out HXX.out (by omega) hcap1 HF.out.big
 have HU:Hid (Calls prog 161 #[.string t,.string f] w2 fun e w'=>e=.returned (.bool un)/\w'=w2):=by rw[hun];exact under_any t f w2 (by omega) (by omega)
 have HUP:Hid (Calls prog 158 #[.pointer (some ⟨S,0,none⟩),.slice am m cm] w2 fun e w'=>e=.returned (.tuple #[.string pp,.int .i64 eu])/\w'=w2):=by rw[heu,HPP.out];exact up_any HT2.out HF.out am m cm ys HL2.out HYY.out (by omega) hm1 hcap2
 have HKF:Hid (Calls prog 155 #[.pointer (some ⟨S,0,none⟩),.string f] w2 fun e w'=>e=.returned (.int .i64 kf)/\w'=w2):=by rw[hkf];exact skind_any HT2.out f HF.out.big
 have HKT:Hid (Calls prog 155 #[.pointer (some ⟨S,0,none⟩),.string t] w2 fun e w'=>e=.returned (.int .i64 kt)/\w'=w2):=by rw[hkt];exact skind_any HT2.out t HF.out.big
 have HMT:Hid (Calls prog 154 #[.pointer (some ⟨S,0,none⟩),.string t] w2 fun e w'=>e=.returned (.int .i64 (it:Int))/\Below w2.heap.size w2 w'):=by rw[hit];exact many_any HT2.out HF.out t
 have HMP:Hid (∀w3,Below w2.heap.size w2 w3->Calls prog 154 #[.pointer (some ⟨S,0,none⟩),.string pp] w3 fun e w'=>e=.returned (.int .i64 (ip:Int))/\Below w3.heap.size w3 w'):=fun w3 hb3=>by rw[hip];exact many_any (HT2.out.below hb3) HF.out pp
 have HIN:Hid (∀w4,Calls prog 162 #[.string f,.string pp] w4 fun e w'=>e=.returned (.bool ins)/\Below w4.heap.size w4 w'):=fun w4=>by rw[hins];exact inside_anyR f pp w4 (by omega)
 have HEQ:Hid (eqb=(f.toList == t.toList)):=heqb;clear hew heu hkf hkt hit hip hun hins e0 e1;by_cases a1:ew=0
 case neg=>
  have HRR:Hid (R=(nodes,ew)):=by show _=_;rw[HR.out,zzB HC0.out,zzB HC1.out,zzD a1]
  have a1':(ew != 0)=true:=by simp[a1]
  clear a1;go_wp2_with fail;refine Calls.mono HW.out ?_;rintro _ _ ⟨rfl,rfl⟩;go_wp2;go_ret;rw[HRR.out];exact⟨rfl,HSAME.out _ hbw2⟩
 have HA1:Hid (¬ew≠0):=fun h=>h a1;have a1':(ew != 0)=false:=by simp[a1]
 clear a1;go_wp2_with fail;refine Calls.mono HW.out ?_;rintro _ _ ⟨rfl,rfl⟩;go_wp2_with fail;refine Calls.mono HU.out ?_;rintro _ _ ⟨rfl,rfl⟩;cases un with
 | true=>
  have HRR:Hid (R=(nodes,9)):=by show _=_;rw[HR.out,zzB HC0.out,zzB HC1.out,zzB HA1.out,zzD rfl]
  go_wp2;go_ret;rw[HRR.out];exact⟨rfl,HSAME.out _ hbw2⟩
 | false=>
 have HA2:Hid (¬(false:Bool)=true):=fun h=>Bool.noConfusion h;go_wp2_with fail;refine Calls.mono HUP.out ?_;rintro _ _ ⟨rfl,rfl⟩;by_cases a3:eu=0
 case neg=>
  have HRR:Hid (R=(nodes,eu)):=by show _=_;rw[HR.out,zzB HC0.out,zzB HC1.out,zzB HA1.out,zzB HA2.out,zzD a3]
  have a3':(eu != 0)=true:=by simp[a3]
  clear a3;go_wp2;go_ret;rw[HRR.out];exact⟨rfl,HSAME.out _ hbw2⟩
 have HA3:Hid (¬eu≠0):=fun h=>h a3;have a3':(eu != 0)=false:=by simp[a3]
 clear a3;cases eqb with
 | true=>
  have HRR:Hid (R=(nodes,0)):=by show _=_;rw[HR.out,zzB HC0.out,zzB HC1.out,zzB HA1.out,zzB HA2.out,zzB HA3.out,zzD rfl]
  have heq':(f.toList == t.toList)=true:=heqb.symm;clear heqb;go_wp2;go_ret;rw[HRR.out];exact⟨rfl,HSAME.out _ hbw2⟩
 | false=>
 have heq':(f.toList == t.toList)=false:=heqb.symm;clear heqb;go_wp2_with fail;refine Calls.mono HKF.out ?_;rintro _ _ ⟨rfl,rfl⟩;go_wp2_with fail;refine Calls.mono HKT.out ?_;rintro _ _ ⟨rfl,rfl⟩;go_wp2_with fail;refine Calls.mono HMT.out ?_;rintro _ w3 ⟨rfl,hb3⟩;go_wp2_with fail;refine Calls.mono (HMP.out _ hb3) ?_;rintro _ w4 ⟨rfl,hb4⟩;go_wp2_with fail;refine Calls.mono (HIN.out _) ?_;rintro _ w5 ⟨rfl,hb5⟩;have hs3:=hb3.size;have hs4:=hb4.size;have hs5:=hb5.size;have HA4:Hid (¬(false:Bool)=true):=fun h=>Bool.noConfusion h;have hbw5a:Below w.heap.size w w5:=hbw2.trans (((hb3.trans (hb4.mono hs3)).trans (hb5.mono (by omega))).mono hbs2);rw[zzB HC0.out,zzB HC1.out,zzB HA1.out,zzB HA2.out,zzB HA3.out,zzB HA4.out] at HR;by_cases t2:kt=2
 case' pos=>
  subst t2;by_cases f1:kf=1
  ·have HRR:Hid (R=(nodes,7)):=by show _=_;rw[HR.out,zzD ⟨rfl,f1⟩]
   subst f1;go_wp2;go_ret;rw[HRR.out];exact⟨rfl,HSAME.out _ hbw5a⟩
  have f1':(kf == 1)=false:=by simpa using f1
  by_cases q0:0<it
  ·have HRR:Hid (R=(nodes,8)):=by show _=_;rw[HR.out,zzB (fun h=>f1 h.2),zzB (fun h=>absurd h.1 (by decide)),zzD ⟨rfl,q0⟩]
   clear f1;go_wp2;go_ret;rw[HRR.out];exact⟨rfl,HSAME.out _ hbw5a⟩
  obtain rfl:it=0:=by omega
  have HGO:Hid (R=if (nodes.any (tooDeep f n m))=true then (nodes,11) else ((goneP nodes t).map (movedPR f t),0)):=by show _=_;rw[HR.out,zzB (fun h=>f1 h.2),zzB (fun h=>absurd h.1 (by decide)),zzB (fun h=>q0 h.2),zzB (fun h=>absurd h.1 (by decide))]
  clear f1 q0
 case' neg=>
  have t2':(kt == 2)=false:=by simpa using t2
  by_cases t1:kt=1
  case' pos=>
   subst t1;by_cases f2:kf=2
   ·have HRR:Hid (R=(nodes,5)):=by show _=_;rw[HR.out,zzB (fun h=>t2 h.1),zzD ⟨rfl,f2⟩]
    subst f2;go_wp2;go_ret;rw[HRR.out];exact⟨rfl,HSAME.out _ hbw5a⟩
   have f2':(kf == 2)=false:=by simpa using f2
   have HGO:Hid (R=if (nodes.any (tooDeep f n m))=true then (nodes,11) else ((goneP nodes t).map (movedPR f t),0)):=by show _=_;rw[HR.out,zzB (fun h=>t2 h.1),zzB (fun h=>f2 h.2),zzB (fun h=>t2 h.1),zzB (fun h=>absurd h.1 (by decide))]
   clear f2 t2
  case' neg=>
   have t1':(kt == 1)=false:=by simpa using t1
   by_cases t0:kt=0
   case' neg=>
    have t0':(kt == 0)=false:=by simpa using t0
    have HGO:Hid (R=if (nodes.any (tooDeep f n m))=true then (nodes,11) else ((goneP nodes t).map (movedPR f t),0)):=by show _=_;rw[HR.out,zzB (fun h=>t2 h.1),zzB (fun h=>t1 h.1),zzB (fun h=>t2 h.1),zzB (fun h=>t0 h.1)]
    clear t2 t1 t0
   case' pos=>
    subst t0;by_cases q16:16<=ip
    case' pos=>
     have q16':(16:Int)<=(ip:Int):=(by omega);by_cases hz:ins=true
     case' neg=>
      obtain rfl:ins=false:=by simpa using hz
      clear hz;have HRR:Hid (R=(nodes,11)):=by show _=_;rw[HR.out,zzB (fun h=>t2 h.1),zzB (fun h=>t1 h.1),zzB (fun h=>t2 h.1),zzD ⟨rfl,q16,rfl⟩]
      clear t2 t1;go_wp2;go_ret;rw[HRR.out];exact⟨rfl,HSAME.out _ hbw5a⟩
     subst hz;have HGO:Hid (R=if (nodes.any (tooDeep f n m))=true then (nodes,11) else ((goneP nodes t).map (movedPR f t),0)):=by show _=_;rw[HR.out,zzB (fun h=>t2 h.1),zzB (fun h=>t1 h.1),zzB (fun h=>t2 h.1),zzB (fun h=>Bool.noConfusion h.2.2)]
     clear t2 t1
    case' neg=>
     have q16':decide ((16:Int)<=(ip:Int))=false:=zzE (by omega);have HGO:Hid (R=if (nodes.any (tooDeep f n m))=true then (nodes,11) else ((goneP nodes t).map (movedPR f t),0)):=by show _=_;rw[HR.out,zzB (fun h=>t2 h.1),zzB (fun h=>t1 h.1),zzB (fun h=>t2 h.1),zzB (fun h=>q16 h.2.1)]
     clear t2 t1
 all_goals
  have hbw5:Below w.heap.size w w5:=hbw2.trans (((hb3.trans (hb4.mono hs3)).trans (hb5.mono (by omega))).mono hbs2);have HT5:Hid (StAt F w5 S na da nc dc nodes data rest):=HST.out.below hbw5;obtain⟨N,hN⟩:∃N,N=nodes.length:=⟨_,rfl⟩;have hNb:N<=1000000000:=by rw[hN];exact HF.out.big
  have HNS:Hid (N=nodes.length):=hN;clear hN;go_wp2
  go_loopw [18] (fun i wr=>∃k:Nat,k<=N/\i=.int .i64 (k:Int)/\Below w5.heap.size w5 wr/\Hid (∀j (hj:j<nodes.length),j<k->tooDeep f n m nodes[j]=false)) (fun i _=>N-(intOf i).toNat)
  case atStart=>exact⟨0,zzF _,rfl,Below.refl _ _,fun j hj h=>by omega⟩
  case round=>
   obtain⟨k,hk,rfl,hbr,HV⟩:=hrel;have hst:=HT5.out.below hbr;have k0:=hst.c0;have hSl:=hst.lt;rw[<-HNS.out] at k0;have hszr:=hbr.size;by_cases hlt:k<N
   ·have hkn:k<nodes.length:=by rw[<-HNS.out];exact hlt
    have hrow:=hst.rowN;obtain⟨g,c',hv⟩:=slice_of_owns hrow (by omega);have ha:=(Value.slice.inj hv).1;subst ha;obtain⟨c0,_,_⟩:=row_cells (off:=0) (owns_cells hrow) hkn;rw[Nat.zero_add] at c0;have hgl:=ownsRow_lt hrow rfl;have hpk:=HF.out.small _ (zzJ hkn);obtain⟨x,hx⟩:∃x,x=nodes[k]:=⟨_,rfl⟩;rw[<-hx] at c0 hpk;have HXN:Hid (x=nodes[k]):=hx;have hkm:(k:Int)<(N:Int):=by omega
    cases hu:underP x.1 f with
    | false=>
     have HUN:Hid (Calls prog 161 #[.string x.1,.string f] wr fun e w'=>e=.returned (.bool false)/\w'=wr):=by rw[<-hu];exact under_any x.1 f wr hpk (by omega)
     have HTD:Hid (tooDeep f n m x=false):=by show _=_;unfold tooDeep;rw[hu];rfl
     clear hv hrow hst hx hu;go_wp2_with fail;refine Calls.mono HUN.out ?_;rintro _ _ ⟨rfl,rfl⟩;go_wp2;go_roundw
     case rel=>
      refine⟨k+1,by omega,by go_num,hbr,fun j hj hjk=>?_⟩;by_cases e:j=k
      ·subst e;rw[<-HXN.out];exact HTD.out
      ·exact HV.out j hj (by omega)
     case measure=>simp[intOf];omega
    | true=>
     have HUN:Hid (Calls prog 161 #[.string x.1,.string f] wr fun e w'=>e=.returned (.bool true)/\w'=wr):=by rw[<-hu];exact under_any x.1 f wr hpk (by omega)
     have HSX:Hid _:=split_any x.1 wr hpk;obtain⟨sl,hsl⟩:∃sl,sl=(splitP x.1).1.length:=⟨_,rfl⟩;have hslb:sl<=2097153:=by have:=split_len x.1;omega
     have HTE:Hid (tooDeep f n m x=decide (5<(sl:Int)-(n:Int)+(m:Int))):=by show _=_;unfold tooDeep;rw[hu,hsl];rfl
     rw[<-hsl] at HSX;clear hv hrow hst hx hu hsl;by_cases hd5:5<(sl:Int)-(n:Int)+(m:Int)
     ·have HRR:Hid (R=(nodes,11)):=by
       show _=_;rw[HGO.out,zzD];rw[List.any_eq_true];exact⟨nodes[k],zzJ hkn,by rw[<-HXN.out,HTE.out];exact decide_eq_true hd5⟩
      go_wp2_with fail;refine Calls.mono HUN.out ?_;rintro _ _ ⟨rfl,rfl⟩;go_wp2_with fail;refine Calls.mono HSX.out ?_;rintro _ w6 ⟨v6,rfl,hown6,hb6⟩;obtain⟨a6,c6,rfl⟩:=owns_form hown6;clear hown6;go_wp2;go_ret;rw[HRR.out];exact⟨rfl,HSAME.out _ (hbw5.trans ((hbr.trans (hb6.mono hszr)).mono hbw5.size))⟩
     ·have hd5':decide (5<(sl:Int)-(n:Int)+(m:Int))=false:=zzE hd5
      have HTD:Hid (tooDeep f n m x=false):=by show _=_;rw[HTE.out];exact hd5'
      go_wp2_with fail;refine Calls.mono HUN.out ?_;rintro _ _ ⟨rfl,rfl⟩;go_wp2_with fail;refine Calls.mono HSX.out ?_;rintro _ w6 ⟨v6,rfl,hown6,hb6⟩;obtain⟨a6,c6,rfl⟩:=owns_form hown6;clear hown6;go_wp2;go_roundw
      case rel=>
       refine⟨k+1,by omega,by go_num,hbr.trans (hb6.mono hszr),fun j hj hjk=>?_⟩;by_cases e:j=k
       ·subst e;rw[<-HXN.out];exact HTD.out
       ·exact HV.out j hj (by omega)
      case measure=>simp[intOf];omega
   ·have hnl:decide ((k:Int)<(N:Int))=false:=zzE (by omega)
    have HRR:Hid (R=((goneP nodes t).map (movedPR f t),0)):=by
     show _=_;rw[HGO.out,zzB];rw[any_take_false (fun j hj=>HV.out j hj (by have:=HNS.out;omega))];decide
    have HGN:Hid _:=gone_any hst HF.out t (by omega);have hbw6:Below w.heap.size w wr:=hbw5.trans (hbr.mono hbw5.size);rename World=>w6;have hbs6:=hbw6.size;clear hst;go_wp2_with fail;refine Calls.mono HGN.out ?_;rintro _ w7 ⟨rfl,⟨na7,nc7,da7,dc7,hst7⟩,hk7⟩;obtain⟨ns,hns⟩:∃ns,ns=goneP nodes t:=⟨_,rfl⟩;have hgf:=gone_fine HF.out t;rw[<-hns] at hst7 hgf HRR;have HSM:Hid (∀e ∈ ns,e.1.size<=2097152):=hgf.2;have HT7:Hid (StAt (NewF F w6 w7) w7 S na7 da7 nc7 dc7 ns data rest):=hst7;have HK7:Hid (Keeps F w6 w7):=hk7;obtain⟨M,hM⟩:∃M,M=ns.length:=⟨_,rfl⟩;have hMb:M<=1000000000:=by rw[hM];exact hgf.1
    have HMS:Hid (M=ns.length):=hM;clear hst7 hk7 hns hgf hM HGN;go_wp2
    go_loopw [22,23] (fun o i wr=>∃(k2:Nat) (ao:Option Addr) (co:Nat),k2<=M/\i=.int .i64 (k2:Int)/\o=.slice ao k2 co/\Below w7.heap.size w7 wr/\Hid (wr.ownsRow w7.heap.size 200 3 (.slice ao k2 co) k2 (flat ((ns.take k2).map (movedPR f t))))) (fun _ i _=>M-(intOf i).toNat)
    case atStart=>exact⟨0,none,0,zzF _,rfl,rfl,Below.refl _ _,World.ownsRow_nil _ _ _ _⟩
    case round=>
     obtain⟨k2,ao,co,hk2,rfl,rfl,hbq,HO⟩:=hrel;have hst:=HT7.out.below hbq;have k0:=hst.c0;have hSl:=hst.lt;rw[<-HMS.out] at k0;have hszq:=hbq.size;by_cases hlt2:k2<M
     ·have hkn:k2<ns.length:=by rw[<-HMS.out];exact hlt2
      have hrow:=hst.rowN;obtain⟨g,c',hv⟩:=slice_of_owns hrow (by omega);have ha:=(Value.slice.inj hv).1;subst ha;obtain⟨c0,c1,c2⟩:=row_cells (off:=0) (owns_cells hrow) hkn;rw[Nat.zero_add] at c0 c1 c2;have hgl:=ownsRow_lt hrow rfl;have hpk:=HSM.out _ (zzJ hkn);obtain⟨x,hx⟩:∃x,x=ns[k2]:=⟨_,rfl⟩;rw[<-hx] at c0 c1 c2 hpk;have HXN:Hid (x=ns[k2]):=hx;have hkm:(k2:Int)<(M:Int):=by omega
      have HUN:Hid (∀W',Calls prog 161 #[.string x.1,.string f] W' fun e w'=>e=.returned (.bool (underP x.1 f))/\w'=W'):=fun W'=>under_any x.1 f W' hpk (by omega);clear hv hrow hst hx;rename World=>wq;cases he:(x.1.toList == f.toList) with
      | true=>
       have HMV:Hid (movedPR f t x=(t++x.1.extract f.size x.1.size,x.2.1,x.2.2)):=by show _=_;unfold movedPR;rw[zzD (Or.inl he)]
       have hsx:f.size<=x.1.size:=by
        have:=congrArg List.length (eq_of_beq he)
        simp only[ByteArray.toList_eq,Array.length_toList] at this;exact Nat.le_of_eq this.symm
       have hsx':(f.size:Int)<=(x.1.size:Int):=(by omega);go_wp2_with (at_builtin;refine wpList_append_own _ rfl (.tmp 188) (.tmp 190) 174 rfl w7.heap.size 200 i0 _ 3 32 underlying174 hi hz0 hz1 hz2 rfl (by decide) _ _ _ rfl ((HO.out.alloc _).alloc _) ⟨wq.heap.size+1,0,none⟩ 1 1 (encE (t++x.1.extract f.size x.1.size,x.2.1,x.2.2)) rfl rfl (item_cells (wq.alloc _) (t++x.1.extract f.size x.1.size,x.2.1,x.2.2) _ _ (by simp)) (encE_one _) (by unfold maxLen;omega) (by omega) (by simp;omega) ?_);intro v' w9 hown' hgrow _;have hb9:Below w7.heap.size w7 w9:=grown_own ((hbq.alloc hszq _).alloc (by simp;omega) _) (by simp;omega) ((HO.out.alloc _).alloc _) hgrow;obtain⟨ao',co',rfl⟩:=owns_form hown';have HO9:Hid (w9.ownsRow w7.heap.size 200 3 (.slice ao' (k2+1) co') (k2+1) (flat ((ns.take (k2+1)).map (movedPR f t)))):=by
        show World.ownsRow _ _ _ _ _ _ _;rw[zzI hkn,List.map_append,List.map_cons,List.map_nil,flat_appendR,flat_one_item,<-HXN.out,HMV.out,List.map_take];exact hown'
       clear hown' hgrow;go_wp2;go_roundw
       case rel=>exact⟨k2+1,ao',co',by omega,by go_num,rfl,hb9,HO9.out⟩
       case measure=>simp[intOf];omega
      | false=>
       cases hu:underP x.1 f with
       | true=>
        have HMV:Hid (movedPR f t x=(t++x.1.extract f.size x.1.size,x.2.1,x.2.2)):=by show _=_;unfold movedPR;rw[zzD (Or.inr hu)]
        have hsx:f.size<=x.1.size:=by have:=under_size hu;omega
        have hsx':(f.size:Int)<=(x.1.size:Int):=(by omega);rw[hu] at HUN;clear hu;go_wp2_with fail;refine Calls.mono (HUN.out _) ?_;rintro _ _ ⟨rfl,rfl⟩;go_wp2_with (at_builtin;refine wpList_append_own _ rfl (.tmp 188) (.tmp 190) 174 rfl w7.heap.size 200 i0 _ 3 32 underlying174 hi hz0 hz1 hz2 rfl (by decide) _ _ _ rfl ((HO.out.alloc _).alloc _) ⟨wq.heap.size+1,0,none⟩ 1 1 (encE (t++x.1.extract f.size x.1.size,x.2.1,x.2.2)) rfl rfl (item_cells (wq.alloc _) (t++x.1.extract f.size x.1.size,x.2.1,x.2.2) _ _ (by simp)) (encE_one _) (by unfold maxLen;omega) (by omega) (by simp;omega) ?_);intro v' w9 hown' hgrow _;have hb9:Below w7.heap.size w7 w9:=grown_own ((hbq.alloc hszq _).alloc (by simp;omega) _) (by simp;omega) ((HO.out.alloc _).alloc _) hgrow;obtain⟨ao',co',rfl⟩:=owns_form hown';have HO9:Hid (w9.ownsRow w7.heap.size 200 3 (.slice ao' (k2+1) co') (k2+1) (flat ((ns.take (k2+1)).map (movedPR f t)))):=by
         show World.ownsRow _ _ _ _ _ _ _;rw[zzI hkn,List.map_append,List.map_cons,List.map_nil,flat_appendR,flat_one_item,<-HXN.out,HMV.out,List.map_take];exact hown'
        clear hown' hgrow;go_wp2;go_roundw
        case rel=>exact⟨k2+1,ao',co',by omega,by go_num,rfl,hb9,HO9.out⟩
        case measure=>simp[intOf];omega
       | false=>
        have HMV:Hid (movedPR f t x=x):=by show _=_;unfold movedPR;rw[zzB (by rw[he,hu];decide)]
        rw[hu] at HUN;clear hu;go_wp2_with fail;refine Calls.mono (HUN.out _) ?_;rintro _ _ ⟨rfl,rfl⟩;go_wp2_with (at_builtin;refine wpList_append_own _ rfl (.tmp 188) (.tmp 190) 174 rfl w7.heap.size 200 i0 _ 3 32 underlying174 hi hz0 hz1 hz2 rfl (by decide) _ _ _ rfl ((HO.out.alloc _).alloc _) ⟨wq.heap.size+1,0,none⟩ 1 1 (encE x) rfl rfl (item_cells (wq.alloc _) x _ _ (by simp)) (encE_one _) (by unfold maxLen;omega) (by omega) (by simp;omega) ?_);intro v' w9 hown' hgrow _;have hb9:Below w7.heap.size w7 w9:=grown_own ((hbq.alloc hszq _).alloc (by simp;omega) _) (by simp;omega) ((HO.out.alloc _).alloc _) hgrow;obtain⟨ao',co',rfl⟩:=owns_form hown';have HO9:Hid (w9.ownsRow w7.heap.size 200 3 (.slice ao' (k2+1) co') (k2+1) (flat ((ns.take (k2+1)).map (movedPR f t)))):=by
         show World.ownsRow _ _ _ _ _ _ _;rw[zzI hkn,List.map_append,List.map_cons,List.map_nil,flat_appendR,flat_one_item,<-HXN.out,HMV.out,List.map_take];exact hown'
        clear hown' hgrow;go_wp2;go_roundw
        case rel=>exact⟨k2+1,ao',co',by omega,by go_num,rfl,hb9,HO9.out⟩
        case measure=>simp[intOf];omega
     ·have hnl2:decide ((k2:Int)<(M:Int))=false:=zzE (by omega)
      have HTK:Hid ((ns.take k2).map (movedPR f t)=ns.map (movedPR f t)):=by show _=_;rw[List.take_of_length_le (by have:=HMS.out;omega)]
      have HQ2:Hid (k2=(ns.map (movedPR f t)).length):=by show _=_;rw[List.length_map];have:=HMS.out;omega
      rw[HTK.out] at HO;have hfz:wr.frozen? ⟨S,0,none⟩=false:=by simp[World.frozen?,hst.hS]
      have HFIN:Hid (StInv (NewF F w (wr.setCell ⟨S,0,none⟩ (.slice ao k2 co))) (wr.setCell ⟨S,0,none⟩ (.slice ao k2 co)) S (ns.map (movedPR f t)) data rest/\Keeps F w (wr.setCell ⟨S,0,none⟩ (.slice ao k2 co))):=by
       obtain⟨⟨na',nc',da',dc',hsi⟩,hk8⟩:=HT7.out.setNodes hbq HQ2.out HO.out;have hk68:=keeps_trans HK7.out hk8;exact⟨⟨na',nc',da',dc',hsi.keep (fun q hq=>by
        rcases newF_newF HK7.out.size hk8.size hq with h | h
        ·exact .inl h
        ·exact .inr ⟨by omega,h.2⟩) (fun _ _=>rfl)⟩,Keeps.after hk68 hbw6⟩
      clear hst;go_wp2;go_ret;rw[HRR.out];exact⟨rfl,HFIN.out⟩
end
end Go.Proofs.YtlgidcmmgohagaaGreat
