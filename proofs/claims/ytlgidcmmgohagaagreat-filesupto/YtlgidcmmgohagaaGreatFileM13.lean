/- What is proved here: the document's own workspace. -/
import Derived.Test.YtlgidcmmgohagaaGreatFileM12
namespace Go.Proofs.YtlgidcmmgohagaaGreat
open Go.RowKit Go.Sort Go.Shelf Go.Proofs.Tryz
set_option linter.unusedVariables false
set_option maxRecDepth 100000
set_option maxHeartbeats 16000000
def removeP (nodes:List Ent)(p:ByteArray):List Ent×Int:=
 if (splitP p).2=false then (nodes,1) else if (splitP p).1.length=0 then (nodes,9) else if wayP nodes (splitP p).1≠0 then (nodes,wayP nodes (splitP p).1) else if 0<(itemsP nodes p).length then (nodes,8) else (goneP nodes p,0)
def mkdirP (nodes:List Ent)(p:ByteArray):List Ent×Int:=
 if (splitP p).2=false then (nodes,1) else if (splitP p).1.length=0 then (nodes,6) else if upP nodes (splitP p).1≠0 then (nodes,upP nodes (splitP p).1) else if kindP nodes p≠0 then (nodes,6)
 else if 16<=(itemsP nodes (joinP ((splitP p).1.take ((splitP p).1.length-1)))).length then (nodes,11) else (nodes ++ [(p,2,0)],0)
section
variable {F:Nat->Prop}{w:World}{S:Nat}{na da:Option Addr}{nc dc:Nat}{nodes:List Ent}{data:List ByteArray}{rest:List Value}
theorem StInv.below {w':World}(h:StInv F w S nodes data rest)(hb:Below w.heap.size w w'):StInv (NewF F w w') w' S nodes data rest:=by
 obtain⟨na,nc,da,dc,h⟩:=h;exact⟨na,nc,da,dc,(h.below hb).keep (fun _ h=>.inl h) (fun _ _=>rfl)⟩
theorem sremove_any (h:StAt F w S na da nc dc nodes data rest)(hf:FineN nodes data)(p:ByteArray)(hp:p.size<=2097152):
  Calls prog 96 #[.pointer (some ⟨S,0,none⟩),.string p] w fun e w'=>e=.returned (.int .i64 (removeP nodes p).2)/\StInv (NewF F w w') w' S (removeP nodes p).1 data rest/\Keeps F w w':=by
 have hsp:=split_any p w hp;have HX:=split_small p;have HST:Hid (StAt F w S na da nc dc nodes data rest):=h;have HF:Hid (FineN nodes data):=hf;have HSAME:Hid (∀w',Below w.heap.size w w'->StInv (NewF F w w') w' S nodes data rest/\Keeps F w w'):=fun w' hb=>⟨StInv.below ⟨na,nc,da,dc,h⟩ hb,Keeps.of_below hb⟩;clear h hf;cases hok:(splitP p).2 with
 | false=>
  have HR:Hid (removeP nodes p=(nodes,1)):=by show _=_;unfold removeP;rw[zzD hok]
  rw[hok] at hsp;have HSP:Hid _:=hsp;clear hsp hok;go_enter func96,ntmps96;go_wp2_with fail;refine Calls.mono HSP.out ?_;rintro _ w1 ⟨v,rfl,hown,hb⟩;clear hown;go_wp2;go_ret;rw[HR.out];exact⟨rfl,HSAME.out _ hb⟩
 | true=>
  have h5:=split_ok_len hok;rw[hok] at hsp;obtain⟨xs,hxs⟩:∃xs,xs=(splitP p).1:=⟨_,rfl⟩;have HL:Hid (removeP nodes p=if xs.length=0 then (nodes,9) else if wayP nodes xs≠0 then (nodes,wayP nodes xs) else if 0<(itemsP nodes p).length then (nodes,8) else (goneP nodes p,0)):=by show _=_;unfold removeP;rw[zzB (by rw[hok];decide),hxs]
  rw[<-hxs] at hsp HX h5;have HXX:Hid (∀x ∈ xs,x.size<=12):=HX;obtain⟨n,hn⟩:∃n,n=xs.length:=⟨_,rfl⟩;rw[<-hn] at hsp h5 HL;have HSP:Hid _:=hsp;clear hsp hok hxs HX hn;go_enter func96,ntmps96;go_wp2_with fail;refine Calls.mono HSP.out ?_;rintro _ w1 ⟨v,rfl,hown,hb⟩;obtain⟨al,cl,rfl⟩:=owns_form hown;have hcap:=owns_capS hown;have hst1:=HST.out.below hb;have hbs:=hb.size;by_cases h0:n=0
  ·have HR:Hid (removeP nodes p=(nodes,9)):=by show _=_;rw[HL.out,zzD h0]
   have h0':((n:Int) == 0)=true:=by simp[h0]
   clear h0 hown hst1 HSP;go_wp2;go_ret;rw[HR.out];exact⟨rfl,HSAME.out _ hb⟩
  ·have h0':((n:Int) == 0)=false:=by simp[h0]
   have hw:=way_any hst1 al n cl xs (listedS_of_owns hown) HXX.out (by omega) hcap HF.out.big;have hma:=many_any hst1 HF.out p;obtain⟨e,he⟩:∃e,e=wayP nodes xs:=⟨_,rfl⟩;obtain⟨q,hq⟩:∃q,q=(itemsP nodes p).length:=⟨_,rfl⟩;rw[<-he] at hw HL;rw[<-hq] at hma HL;have HW:Hid _:=hw;have HM:Hid _:=hma;have HST1:Hid _:=hst1;clear hw hma he hq hown hst1 HSP;by_cases h1:e=0
   ·have h1':(e != 0)=false:=by simp[h1]
    by_cases h2:0<q
    ·have h2':(0:Int)<(q:Int):=by omega
     have HR:Hid (removeP nodes p=(nodes,8)):=by show _=_;rw[HL.out,zzB h0,zzB (by simp[h1]),zzD h2]
     clear h1 h2 h0;go_wp2_with fail;refine Calls.mono HW.out ?_;rintro _ _ ⟨rfl,rfl⟩;go_wp2_with fail;refine Calls.mono HM.out ?_;rintro _ w2 ⟨rfl,hb2⟩;go_wp2;go_ret;rw[HR.out];exact⟨rfl,HSAME.out _ (hb.trans (hb2.mono hbs))⟩
    ·have h2':decide ((0:Int)<(q:Int))=false:=zzE (by omega)
     have HR:Hid (removeP nodes p=(goneP nodes p,0)):=by show _=_;rw[HL.out,zzB h0,zzB (by simp[h1]),zzB h2]
     obtain rfl:q=0:=by omega
     clear h1 h2 h0 h2';go_wp2_with fail;refine Calls.mono HW.out ?_;rintro _ _ ⟨rfl,rfl⟩;go_wp2_with fail;refine Calls.mono HM.out ?_;rintro _ w2 ⟨rfl,hb2⟩;have hbw:Below w.heap.size w w2:=hb.trans (hb2.mono hbs);have HG:Hid _:=gone_any (StAt.below HST1.out hb2) HF.out p hp;go_wp2_with fail;refine Calls.mono HG.out ?_;rintro _ w3 ⟨rfl,hsi,hk3⟩;have hbw2:=hbw.size;have HFIN:Hid (StInv (NewF F w w3) w3 S (goneP nodes p) data rest/\Keeps F w w3):=by
      obtain⟨na',nc',da',dc',hsi⟩:=hsi;exact⟨⟨na',nc',da',dc',hsi.keep (fun k hk=>by rcases hk with h | h;exact .inl h;exact .inr ⟨by omega,h.2⟩) (fun _ _=>rfl)⟩,Keeps.after hk3 hbw⟩
     clear hsi hk3 HG;go_wp2;go_ret;rw[HR.out];exact⟨rfl,HFIN.out⟩
   ·have h1':(e != 0)=true:=by simp[h1]
    have HR:Hid (removeP nodes p=(nodes,e)):=by show _=_;rw[HL.out,zzB h0,zzD h1]
    clear h1 h0;go_wp2_with fail;refine Calls.mono HW.out ?_;rintro _ _ ⟨rfl,rfl⟩;go_wp2;go_ret;rw[HR.out];exact⟨rfl,HSAME.out _ hb⟩
theorem StAt.push (h:StAt F w S na da nc dc nodes data rest){w':World}{g cap':Nat}{x:Ent}(P:w'.heap[S]? = some (.cells ((Value.slice na nodes.length nc :: Value.slice da data.length dc :: rest).toArray.setIfInBounds 0 (.slice (some ⟨g,0,none⟩) (nodes.length+1) cap')) 179 (0,0))/\
   w'.ownsRow 0 200 3 (.slice (some ⟨g,0,none⟩) (nodes.length+1) cap') (nodes.length+1) (flat nodes++encE x)/\((some g:Option Nat)=(Value.slice na nodes.length nc).ownBlock\/w.heap.size<=g)/\Keeps (fun k=>k=S\/some k=(Value.slice na nodes.length nc).ownBlock) w w'):
  StInv (NewF F w w') w' S (nodes ++ [x]) data rest/\Keeps F w w':=by
 obtain⟨p1,p2,p3,p4⟩:=P;have hl:(nodes ++ [x]).length=nodes.length+1:=by simp
 refine⟨⟨some ⟨g,0,none⟩,cap',da,dc,⟨.inl h.fS,?_,?_,?_,?_,?_⟩⟩,keeps_sub p4 h.fS h.fn⟩
 ·rw[hl,p1];simp
 ·rw[hl,flat_appendR,flat_one_item];exact p2
 ·exact row_stays h.rowD p4 h.hS (by decide) (fun g hg=>rows_apart h.rowD h.rowN (by decide) hg)
 ·rw[hl];exact newF_of p2 p3 h.fn
 ·intro g hg;exact .inl (h.fd g hg)
theorem smkdir_any (h:StAt F w S na da nc dc nodes data rest)(hf:FineN nodes data)(p:ByteArray)(hp:p.size<=2097152):
  Calls prog 95 #[.pointer (some ⟨S,0,none⟩),.string p] w fun e w'=>e=.returned (.int .i64 (mkdirP nodes p).2)/\StInv (NewF F w w') w' S (mkdirP nodes p).1 data rest/\Keeps F w w':=by
 obtain⟨i0,hi,hz0,hz1,hz2⟩:=info_parts infoNode;have hsp:=split_any p w hp;have HX:=split_small p;have HST:Hid (StAt F w S na da nc dc nodes data rest):=h;have HF:Hid (FineN nodes data):=hf;have HSAME:Hid (∀w',Below w.heap.size w w'->StInv (NewF F w w') w' S nodes data rest/\Keeps F w w'):=fun w' hb=>⟨StInv.below ⟨na,nc,da,dc,h⟩ hb,Keeps.of_below hb⟩;clear h hf;cases hok:(splitP p).2 with
 | false=>
  have HR:Hid (mkdirP nodes p=(nodes,1)):=by show _=_;unfold mkdirP;rw[zzD hok]
  rw[hok] at hsp;have HSP:Hid _:=hsp;clear hsp hok;go_enter func95,ntmps95;go_wp2_with fail;refine Calls.mono HSP.out ?_;rintro _ w1 ⟨v,rfl,hown,hb⟩;clear hown;go_wp2;go_ret;rw[HR.out];exact⟨rfl,HSAME.out _ hb⟩
 | true=>
  have h5:=split_ok_len hok;rw[hok] at hsp;obtain⟨xs,hxs⟩:∃xs,xs=(splitP p).1:=⟨_,rfl⟩;have HL:Hid (mkdirP nodes p=if xs.length=0 then (nodes,6) else if upP nodes xs≠0 then (nodes,upP nodes xs) else if kindP nodes p≠0 then (nodes,6) else if 16<=(itemsP nodes (joinP (xs.take (xs.length-1)))).length then (nodes,11) else (nodes ++ [(p,2,0)],0)):=by
   show _=_;unfold mkdirP;rw[zzB (by rw[hok];decide),hxs]
  rw[<-hxs] at hsp HX h5;have HXX:Hid (∀x ∈ xs,x.size<=12):=HX;obtain⟨pp,hpp⟩:∃pp,pp=joinP (xs.take (xs.length-1)):=⟨_,rfl⟩;rw[<-hpp] at HL;have HPP:Hid (pp=joinP (xs.take (xs.length-1))):=hpp;obtain⟨n,hn⟩:∃n,n=xs.length:=⟨_,rfl⟩;rw[<-hn] at hsp h5 HL;have HSP:Hid _:=hsp;clear hsp hok hxs HX hn hpp;go_enter func95,ntmps95;go_wp2_with fail;refine Calls.mono HSP.out ?_;rintro _ w1 ⟨v,rfl,hown,hb⟩;obtain⟨al,cl,rfl⟩:=owns_form hown;have hcap:=owns_capS hown;have hst1:=HST.out.below hb;have hbs:=hb.size;by_cases h0:n=0
  ·have HR:Hid (mkdirP nodes p=(nodes,6)):=by show _=_;rw[HL.out,zzD h0]
   subst h0;clear hown hst1 HSP;go_wp2;go_ret;rw[HR.out];exact⟨rfl,HSAME.out _ hb⟩
  ·have h0':((n:Int) == 0)=false:=by simp[h0]
   have hup:=up_any hst1 HF.out al n cl xs (listedS_of_owns hown) HXX.out (by omega) (by omega) hcap;rw[<-HPP.out] at hup;have hkd:=skind_any hst1 p HF.out.big;have hma:=many_any hst1 HF.out pp;obtain⟨e,he⟩:∃e,e=upP nodes xs:=⟨_,rfl⟩;obtain⟨kd,hkk⟩:∃kd,kd=kindP nodes p:=⟨_,rfl⟩;obtain⟨q,hq⟩:∃q,q=(itemsP nodes pp).length:=⟨_,rfl⟩;rw[<-he] at hup HL;rw[<-hkk] at hkd HL;rw[<-hq] at hma HL;have HU:Hid _:=hup;have HK:Hid _:=hkd;have HM:Hid _:=hma;have HST1:Hid _:=hst1;clear hup hkd hma he hkk hq hown hst1 HSP;by_cases h1:e=0
   ·have h1':(e != 0)=false:=by simp[h1]
    by_cases h2:kd=0
    ·have h2':(kd != 0)=false:=by simp[h2]
     by_cases h3:16<=q
     ·have h3':(16:Int)<=(q:Int):=by omega
      have HR:Hid (mkdirP nodes p=(nodes,11)):=by show _=_;rw[HL.out,zzB h0,zzB (by simp[h1]),zzB (by simp[h2]),zzD h3]
      clear h1 h2 h0;go_wp2_with fail;refine Calls.mono HU.out ?_;rintro _ _ ⟨rfl,rfl⟩;go_wp2_with fail;refine Calls.mono HK.out ?_;rintro _ _ ⟨rfl,rfl⟩;go_wp2_with fail;refine Calls.mono HM.out ?_;rintro _ w2 ⟨rfl,hb2⟩;go_wp2;go_ret;rw[HR.out];exact⟨rfl,HSAME.out _ (hb.trans (hb2.mono hbs))⟩
     ·have h3':decide ((16:Int)<=(q:Int))=false:=zzE (by omega)
      have h3'':¬(16:Int)<=(q:Int):=(by omega);have HR:Hid (mkdirP nodes p=(nodes ++ [(p,2,0)],0)):=by show _=_;rw[HL.out,zzB h0,zzB (by simp[h1]),zzB (by simp[h2]),zzB h3]
      clear h1 h2 h0;go_wp2_with fail;refine Calls.mono HU.out ?_;rintro _ _ ⟨rfl,rfl⟩;go_wp2_with fail;refine Calls.mono HK.out ?_;rintro _ _ ⟨rfl,rfl⟩;go_wp2_with fail;refine Calls.mono HM.out ?_;rintro _ w2 ⟨rfl,hb2⟩;have hbw:Below w.heap.size w w2:=hb.trans (hb2.mono hbs);have hst2:=StAt.below HST1.out hb2;have k0:=hst2.c0;have hSl:=hst2.lt;obtain⟨m,hm⟩:∃m,m=nodes.length:=⟨_,rfl⟩;have hmb:m<=1000000000:=by rw[hm];exact HF.out.big
      have HMM:Hid (m=nodes.length):=hm;have HR2:Hid (w2.ownsRow 0 200 3 (.slice na m nc) m (flat nodes)):=by rw[hm];exact hst2.rowN
      have HS2:Hid (StAt F w2 S na da nc dc nodes data rest):=hst2;rw[<-hm] at k0;clear hst2 hm;go_wp2_with (at_builtin;refine wpList_append_at rfl (.tmp 44) (.tmp 47) 174 rfl 0 200 i0 _ 3 32 underlying174 hi hz0 hz1 hz2 rfl (by decide) (.slice na m nc) m (flat nodes) rfl (World.ownsRow.alloc HR2.out _) ⟨w2.heap.size,0,none⟩ 1 1 (encE (p,2,0)) rfl rfl (item_cells w2 (p,2,0) _ _ rfl) (encE_one _) (by unfold maxLen;omega) (by omega) (zzF _) ?_);intro v3 w3 ho3 hg3 hloc3;obtain⟨g3,c3,rfl⟩:=slice_of_owns ho3 (by omega);have hS2:=HS2.out.hS;have hW3:=grown_W hS2 (kb_alloc0 _ _) (by simp) hg3 (owns_ne_cells HR2.out hS2 (by decide));have hs3:w2.heap.size<=w3.heap.size:=by have:=hg3.size;simp at this;omega
      have p03:w3.cell? ⟨S,0,none⟩=some (.slice na m nc):=by rw[HMM.out];simp[World.cell?,hW3]
      have f03:w3.frozen? ⟨S,0,none⟩=false:=(by simp[World.frozen?,hW3]);have hSl3:S<w3.heap.size:=by omega
      have P3:=push_after (i:=0) hS2 HR2.out (by decide) (kb_alloc0 _ _) (by simp) ⟨rfl,rfl,rfl⟩ ho3 hg3 hloc3 (by simp);have HFIN:Hid (StInv (NewF F w (w3.setCell ⟨S,0,none⟩ (.slice (some ⟨g3,0,none⟩) (m+1) c3))) (w3.setCell ⟨S,0,none⟩ (.slice (some ⟨g3,0,none⟩) (m+1) c3)) S (nodes ++ [(p,2,0)]) data rest/\Keeps F w (w3.setCell ⟨S,0,none⟩ (.slice (some ⟨g3,0,none⟩) (m+1) c3))):=by
       have hm:=HMM.out;subst hm;obtain⟨⟨na',nc',da',dc',hsi⟩,hk3⟩:=HS2.out.push P3
       have:=hbw.size
       exact⟨⟨na',nc',da',dc',hsi.keep (fun k hk=>by rcases hk with h | h;exact .inl h;exact .inr ⟨by omega,h.2⟩) (fun _ _=>rfl)⟩,Keeps.after hk3 hbw⟩
      clear ho3 hg3 hloc3 P3 hW3 hS2;go_wp2;go_ret;rw[HR.out];exact⟨rfl,HFIN.out⟩
    ·have h2':(kd != 0)=true:=by simp[h2]
     have HR:Hid (mkdirP nodes p=(nodes,6)):=by show _=_;rw[HL.out,zzB h0,zzB (by simp[h1]),zzD h2]
     clear h1 h2 h0;go_wp2_with fail;refine Calls.mono HU.out ?_;rintro _ _ ⟨rfl,rfl⟩;go_wp2_with fail;refine Calls.mono HK.out ?_;rintro _ _ ⟨rfl,rfl⟩;go_wp2_with fail;refine Calls.mono HM.out ?_;rintro _ w2 ⟨rfl,hb2⟩;go_wp2;go_ret;rw[HR.out];exact⟨rfl,HSAME.out _ (hb.trans (hb2.mono hbs))⟩
   ·have h1':(e != 0)=true:=by simp[h1]
    have HR:Hid (mkdirP nodes p=(nodes,e)):=by show _=_;rw[HL.out,zzB h0,zzD h1]
    clear h1 h0;go_wp2_with fail;refine Calls.mono HU.out ?_;rintro _ _ ⟨rfl,rfl⟩;go_wp2;go_ret;rw[HR.out];exact⟨rfl,HSAME.out _ hb⟩
end
def statAt (nodes:List Ent)(data:List ByteArray)(p:ByteArray):Int×Int:=
 match findP nodes p with
 | some i=>if ((nodes[i]?).map (fun e:Ent=>e.2.1)).getD 0=1 then (1,((data.getD (((nodes[i]?).map (fun e:Ent=>e.2.2)).getD 0).toNat ⟨#[]⟩).size:Int)) else (2,((itemsP nodes p).length:Int))
 | none=>(2,((itemsP nodes p).length:Int))
def statP (nodes:List Ent)(data:List ByteArray)(p:ByteArray):(Int×Int)×Int:=
 if (splitP p).2=false then ((0,0),1) else if wayP nodes (splitP p).1≠0 then ((0,0),wayP nodes (splitP p).1) else (statAt nodes data p,0)
theorem statAt_none {nodes:List Ent}{data:List ByteArray}{p:ByteArray}(h:findP nodes p=none):statAt nodes data p=(2,((itemsP nodes p).length:Int)):=by unfold statAt;rw[h]
theorem statAt_dir {nodes:List Ent}{data:List ByteArray}{p:ByteArray}{i:Nat}(h:findP nodes p=some i)(hi:i<nodes.length)(hk:nodes[i].2.1≠1):statAt nodes data p=(2,((itemsP nodes p).length:Int)):=by
 unfold statAt;rw[h];simp only[zzH hi,Option.map_some,Option.getD_some];rw[zzB hk]
theorem statAt_file {nodes:List Ent}{data:List ByteArray}{p:ByteArray}{i j:Nat}(h:findP nodes p=some i)(hi:i<nodes.length)(hk:nodes[i].2.1=1)(hj:nodes[i].2.2=(j:Int))(hjd:j<data.length):statAt nodes data p=(1,(data[j].size:Int)):=by
 unfold statAt;rw[h];simp only[zzH hi,Option.map_some,Option.getD_some];rw[zzD hk,hj,Int.toNat_natCast,List.getD_eq_getElem?_getD,zzH hjd];rfl
section
variable {F:Nat->Prop}{w:World}{S:Nat}{na da:Option Addr}{nc dc:Nat}{nodes:List Ent}{data:List ByteArray}{rest:List Value}
theorem sstat_any (h:StAt F w S na da nc dc nodes data rest)(hf:FineN nodes data)(p:ByteArray)(hp:p.size<=2097152)(hd:data.length<=1000000000):
  Calls prog 90 #[.pointer (some ⟨S,0,none⟩),.string p] w fun e w'=>e=.returned (.tuple #[.agg #[.int .i64 (statP nodes data p).1.1,.int .i64 (statP nodes data p).1.2],.int .i64 (statP nodes data p).2])/\Below w.heap.size w w':=by
 have b1:∀B,Below w.heap.size w (w.alloc B):=fun B=>(Below.refl _ _).alloc (zzC _) _;have hsp:=fun B=>split_any p (w.alloc B) hp;have HX:=split_small p;cases hok:(splitP p).2 with
 | false=>
  have HR:Hid (statP nodes data p=((0,0),1)):=by show _=_;unfold statP;rw[zzD hok]
  rw[hok] at hsp;have HSP:Hid _:=hsp;clear hsp hok h hf;go_enter func90,ntmps90;go_wp2_with fail;refine Calls.mono (HSP.out _) ?_;rintro _ w1 ⟨v,rfl,hown,hb⟩;have hbw:=(b1 _).trans (hb.mono (by simp));have y0:=hb.cell (p:=⟨w.heap.size,0,none⟩) (by simp);have y1:=hb.cell (p:=⟨w.heap.size,1,none⟩) (by simp);have f0:=hb.frozen (p:=⟨w.heap.size,0,none⟩) (by simp);have f1:=hb.frozen (p:=⟨w.heap.size,1,none⟩) (by simp);simp at y0 y1 f0 f1;have hbl:=zzA (show w.heap.size<w.heap.size+1 by omega) (by have:=hb.size;simpa using this);clear hown;go_wp2;rw[HR.out];exact bodyPost_ret (v:=.tuple #[.agg #[.int .i64 0,.int .i64 0],.int .i64 1]) (by simp[results,results90,go_sem,y0,y1]) rfl ⟨rfl,(hbw.setCell (zzC _) _).setCell (zzC _) _⟩
 | true=>
  have h5:=split_ok_len hok;rw[hok] at hsp;obtain⟨xs,hxs⟩:∃xs,xs=(splitP p).1:=⟨_,rfl⟩;obtain⟨q,hq⟩:∃q,q=(itemsP nodes p).length:=⟨_,rfl⟩;have HL:Hid (statP nodes data p=if wayP nodes xs≠0 then ((0,0),wayP nodes xs) else (statAt nodes data p,0)):=by show _=_;unfold statP;rw[zzB (by rw[hok];decide),hxs]
  rw[<-hxs] at hsp HX h5;have HXX:Hid (∀x ∈ xs,x.size<=12):=HX;have HQ:Hid (q=(itemsP nodes p).length):=hq;have HST:Hid (StAt F w S na da nc dc nodes data rest):=h;have HF:Hid (FineN nodes data):=hf;obtain⟨n,hn⟩:∃n,n=xs.length:=⟨_,rfl⟩;rw[<-hn] at hsp h5;have HSP:Hid _:=hsp;clear hsp hok hxs HX h hf hn hq;go_enter func90,ntmps90;go_wp2_with fail;refine Calls.mono (HSP.out _) ?_;rintro _ w1 ⟨v,rfl,hown,hb⟩;have hbw:=(b1 _).trans (hb.mono (by simp));have y0:=hb.cell (p:=⟨w.heap.size,0,none⟩) (by simp);have y1:=hb.cell (p:=⟨w.heap.size,1,none⟩) (by simp);have f0:=hb.frozen (p:=⟨w.heap.size,0,none⟩) (by simp);have f1:=hb.frozen (p:=⟨w.heap.size,1,none⟩) (by simp);simp at y0 y1 f0 f1;have hRl:w.heap.size<w1.heap.size:=zzA (show w.heap.size<w.heap.size+1 by omega) (by have:=hb.size;simpa using this);have hbs:=hbw.size;obtain⟨al,cl,rfl⟩:=owns_form hown;have hcap:=owns_capS hown;have hst1:=HST.out.below hbw;have hw:=way_any hst1 al n cl xs (listedS_of_owns hown) HXX.out (by omega) hcap HF.out.big;have hma:=many_any hst1 HF.out p;rw[<-HQ.out] at hma;have hfd:=nfind_any na nodes.length nc nodes p w1 (listed_of_owns hst1.rowN) HF.out.big;have k0:=hst1.c0;have k1:=hst1.c1;have hSl:=hst1.lt;obtain⟨m,hm⟩:∃m,m=nodes.length:=⟨_,rfl⟩;have hmb:m<=1000000000:=by rw[hm];exact HF.out.big
  have HMM:Hid (m=nodes.length):=hm;rw[<-hm] at k0 hfd;obtain⟨md,hmd⟩:∃md,md=data.length:=⟨_,rfl⟩;have HMD:Hid (md=data.length):=hmd;rw[<-hmd] at k1 hd;obtain⟨e,he⟩:∃e,e=wayP nodes xs:=⟨_,rfl⟩;rw[<-he] at hw HL;have HW:Hid _:=hw;have HM:Hid _:=hma;have HST1:Hid (StAt F w1 S na da nc dc nodes data rest):=hst1;clear hw hma he hown hst1 HSP hb hm hmd;by_cases h1:e=0
  ·have h1':(e != 0)=false:=by simp[h1]
   cases hfi:findP nodes p with
   | none=>
    have HR:Hid (statP nodes data p=((2,(q:Int)),0)):=by show _=_;rw[HL.out,zzB (by simp[h1]),statAt_none hfi,HQ.out]
    rw[hfi] at hfd;have HFD:Hid (Calls prog 106 #[.slice na m nc,.string p] w1 fun e w'=>e=.returned (.int .i64 (-1))/\w'=w1):=hfd;clear h1 hfd hfi;go_wp2_with fail;refine Calls.mono HW.out ?_;rintro _ _ ⟨rfl,rfl⟩;go_wp2_with fail;refine Calls.mono HFD.out ?_;rintro _ _ ⟨rfl,rfl⟩;go_wp2_with fail;refine Calls.mono HM.out ?_;rintro _ w2 ⟨rfl,hb2⟩;have hbw2:Below w.heap.size w w2:=hbw.trans (hb2.mono hbs);have z0:=(hb2.cell (p:=⟨w.heap.size,0,none⟩) hRl).trans y0;have z1:=(hb2.cell (p:=⟨w.heap.size,1,none⟩) hRl).trans y1;have g0:=(hb2.frozen (p:=⟨w.heap.size,0,none⟩) hRl).trans f0;have g1:=(hb2.frozen (p:=⟨w.heap.size,1,none⟩) hRl).trans f1;have hRl2:w.heap.size<w2.heap.size:=zzA hRl hb2.size;go_wp2;rw[HR.out];exact bodyPost_ret (v:=.tuple #[.agg #[.int .i64 2,.int .i64 (q:Int)],.int .i64 0]) (by simp[results,results90,go_sem,z0,z1]) rfl ⟨rfl,(hbw2.setCell (zzC _) _).setCell (zzC _) _⟩
   | some i=>
    have hil:i<nodes.length:=(List.findIdx?_eq_some_iff_getElem.1 hfi).1;rw[hfi] at hfd;have HFD:Hid (Calls prog 106 #[.slice na m nc,.string p] w1 fun e w'=>e=.returned (.int .i64 (i:Int))/\w'=w1):=hfd;have hrow:=HST1.out.rowN;obtain⟨g,c',hv⟩:=slice_of_owns hrow (by omega);have ha:=(Value.slice.inj hv).1;subst ha;obtain⟨_,x1,x2⟩:=row_cells (off:=0) (owns_cells hrow) hil;rw[Nat.zero_add] at x1 x2;have hgl:=ownsRow_lt hrow rfl;have hin:(i:Int)<(m:Int):=by have:=HMM.out;omega
    have hi0:(0:Int)<=(i:Int):=(by omega);by_cases hk1:nodes[i].2.1=1
    ·obtain⟨hf0,hf1⟩:=HF.out.files _ (zzJ hil) hk1
     obtain⟨j,hj⟩:∃j:Nat,nodes[i].2.2=(j:Int):=⟨nodes[i].2.2.toNat,by omega⟩;have hjd:j<data.length:=by omega
     have hrowd:=HST1.out.rowD;obtain⟨gd,hgd,hgdl,xd,_⟩:=row_one hrowd (i:=j) (v:=.string data[j]) (by simp[encS,hjd]);subst hgd;have HR:Hid (statP nodes data p=((1,(data[j].size:Int)),0)):=by
      show _=_;rw[HL.out,zzB (by simp[h1]),statAt_file hfi hil hk1 hj hjd]
     rw[hk1] at x1;rw[hj] at x2;obtain⟨dd,hdd⟩:∃dd,dd=data[j]:=⟨_,rfl⟩;rw[<-hdd] at xd HR;have hjm:(j:Int)<(md:Int):=by have:=HMD.out;omega
     clear h1 hfd hfi hrow hrowd hv hk1 hj hf0 hf1 hdd;go_wp2_with fail;refine Calls.mono HW.out ?_;rintro _ _ ⟨rfl,rfl⟩;go_wp2_with fail;refine Calls.mono HFD.out ?_;rintro _ _ ⟨rfl,rfl⟩;go_wp2
     go_region
     all_goals
      go_wp2;rw[HR.out];exact bodyPost_ret (v:=.tuple #[.agg #[.int .i64 1,.int .i64 (dd.size:Int)],.int .i64 0]) (by simp[results,results90,go_sem,y0,y1]) rfl ⟨rfl,((hbw.setCell (zzC _) _).setCell (zzC _) _).drew⟩
    ·have hk1':(nodes[i].2.1 == 1)=false:=by simpa using hk1
     have HR:Hid (statP nodes data p=((2,(q:Int)),0)):=by
      show _=_;rw[HL.out,zzB (by simp[h1]),statAt_dir hfi hil hk1,HQ.out]
     clear h1 hfd hfi hrow hv hk1;go_wp2_with fail;refine Calls.mono HW.out ?_;rintro _ _ ⟨rfl,rfl⟩;go_wp2_with fail;refine Calls.mono HFD.out ?_;rintro _ _ ⟨rfl,rfl⟩;go_wp2_with fail;refine Calls.mono HM.out ?_;rintro _ w2 ⟨rfl,hb2⟩;have hbw2:Below w.heap.size w w2:=hbw.trans (hb2.mono hbs);have z0:=(hb2.cell (p:=⟨w.heap.size,0,none⟩) hRl).trans y0;have z1:=(hb2.cell (p:=⟨w.heap.size,1,none⟩) hRl).trans y1;have g0:=(hb2.frozen (p:=⟨w.heap.size,0,none⟩) hRl).trans f0;have g1:=(hb2.frozen (p:=⟨w.heap.size,1,none⟩) hRl).trans f1;have hRl2:w.heap.size<w2.heap.size:=zzA hRl hb2.size;go_wp2;rw[HR.out];exact bodyPost_ret (v:=.tuple #[.agg #[.int .i64 2,.int .i64 (q:Int)],.int .i64 0]) (by simp[results,results90,go_sem,z0,z1]) rfl ⟨rfl,(hbw2.setCell (zzC _) _).setCell (zzC _) _⟩
  ·have h1':(e != 0)=true:=by simp[h1]
   have HR:Hid (statP nodes data p=((0,0),e)):=by show _=_;rw[HL.out,zzD h1]
   clear h1;go_wp2_with fail;refine Calls.mono HW.out ?_;rintro _ _ ⟨rfl,rfl⟩;go_wp2;rw[HR.out];exact bodyPost_ret (v:=.tuple #[.agg #[.int .i64 0,.int .i64 0],.int .i64 e]) (by simp[results,results90,go_sem,y0,y1]) rfl ⟨rfl,(hbw.setCell (zzC _) _).setCell (zzC _) _⟩
end
end Go.Proofs.YtlgidcmmgohagaaGreat
