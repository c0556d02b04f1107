/-
  What is proved here: the document's own workspace: way, up, inside. the document's own workspace: inside, names, many. the document's own workspace: names, many. the document's own workspace: many, up, List. ..
-/
import Derived.Test.YtlgidcmmgohagaaGreatTreeM10
namespace Go.Proofs.YtlgidcmmgohagaaGreat
open Go.RowKit Go.Sort Go.Shelf
set_option linter.unusedVariables false
set_option maxRecDepth 100000
set_option maxHeartbeats 16000000
def wayAt (nodes:List Ent)(l:List ByteArray)(i:Nat):Option Int:=if kindP nodes (joinP (l.take i))≠2 then some 5 else if kindP nodes (joinP (l.take (i+1)))=0 then some 4 else none
def wayP (nodes:List Ent)(l:List ByteArray):Int:=((List.range l.length).findSome? (wayAt nodes l)).getD 0
theorem way_none {nodes:List Ent}{l:List ByteArray}(h:∀ j,j<l.length->wayAt nodes l j=none):wayP nodes l=0:=by
 unfold wayP
 rw[List.findSome?_eq_none_iff.2 (fun j hj=>h j (List.mem_range.1 hj))];rfl
theorem way_some {nodes:List Ent}{l:List ByteArray}{k:Nat}{e:Int}(hk:k<l.length)(h:∀ j,j<k->wayAt nodes l j=none)(he:wayAt nodes l k=some e):wayP nodes l=e:=by
 unfold wayP
 have e1:List.range l.length=List.range k++k :: (List.range (l.length-k-1)).map (k+1 + ·):=by
  have h1:=@List.range_add k (l.length-k)
  rw[show k+(l.length-k)=l.length by omega] at h1
  rw[h1,show l.length-k=l.length-k-1+1 by omega,List.range_succ_eq_map,List.map_cons,List.map_map]
  simp only[Nat.add_zero,Nat.add_sub_cancel]
  congr 2
  refine List.map_congr_left fun x _=>?_
  simp only[Function.comp];omega
 rw[e1,List.findSome?_append,List.findSome?_eq_none_iff.2 (fun j hj=>h j (List.mem_range.1 hj))]
 simp[he]
section
variable {F:Nat->Prop}{w:World}{S:Nat}{na da:Option Addr}{nc dc:Nat}{nodes:List Ent}{data:List ByteArray}{rest:List Value}
theorem way_any (h:StAt F w S na da nc dc nodes data rest)(a:Option Addr)(m c:Nat)(l:List ByteArray)(hl:ListedS w a m l)(hx:∀ x ∈ l,x.size<=12)(hm:m<=2097152)(hc:m<=c)(hbig:nodes.length<=1000000000):
  Calls Tryz.prog 153 #[.pointer (some ⟨S,0,none⟩),.slice a m c] w fun e w'=>e=.returned (.int .i64 (wayP nodes l))/\w'=w:=by
 have HL:Hid (ListedS w a m l):=hl
 have HK:Hid (∀ p,Calls Tryz.prog 155 #[.pointer (some ⟨S,0,none⟩),.string p] w fun e w'=>e=.returned (.int .i64 (kindP nodes p))/\w'=w):=fun p=>skind_any h p hbig
 have HJ:Hid (∀ k,k<=m->Calls Tryz.prog 202 #[.slice a k c] w fun e w'=>e=.returned (.string (joinP (l.take k)))/\w'=w):=fun k hk=>join_any a k c (l.take k) w (hl.take k hk) (fun x hx'=>hx x (List.mem_of_mem_take hx')) (by omega)
 clear hl hx h
 go_enter Tryz.func153,Tryz.ntmps153
 go_wp2
 go_loopw [5] (fun i wr=>∃ k:Nat,k<=m/\i=.int .i64 (k:Int)/\wr=w/\Hid (∀ j,j<k->wayAt nodes l j=none)) (fun i _=>m-(intOf i).toNat)
 case atStart=>exact⟨0,Nat.zero_le _,rfl,rfl,fun j h=>by omega⟩
 case round=>
  obtain⟨k,hk,rfl,rfl,HV⟩:=hrel
  by_cases hlt:k<m
  ·have hkl:k<l.length:=by rw[HL.out.1];exact hlt
   obtain⟨b,off,ha,hbl,_⟩:=HL.out.2 (by omega)
   subst ha
   have hkm:(k:Int)<(m:Int):=by omega
   have HJ1:=HJ.out k (by omega)
   have HJ2:=HJ.out (k+1) (by omega)
   have HK1:=HK.out (joinP (l.take k))
   have HK2:=HK.out (joinP (l.take (k+1)))
   obtain⟨p1,hp1⟩:∃ p1,p1=joinP (l.take k):=⟨_,rfl⟩
   obtain⟨p2,hp2⟩:∃ p2,p2=joinP (l.take (k+1)):=⟨_,rfl⟩
   rw[<- hp1] at HJ1 HK1
   rw[<- hp2] at HJ2 HK2
   obtain⟨v1,hv1⟩:∃ v1,v1=kindP nodes p1:=⟨_,rfl⟩
   obtain⟨v2,hv2⟩:∃ v2,v2=kindP nodes p2:=⟨_,rfl⟩
   rw[<- hv1] at HK1
   rw[<- hv2] at HK2
   have HW:Hid (wayAt nodes l k=if v1≠2 then some 5 else if v2=0 then some 4 else none):=by show _=_;unfold wayAt;rw[hv1,hv2,hp1,hp2]
   have J1:Hid _:=HJ1
   have J2:Hid _:=HJ2
   have K1:Hid _:=HK1
   have K2:Hid _:=HK2
   have hkc:(k:Int)<=(c:Int):=by omega
   have hkc1:(k:Int)+1<=(c:Int):=by omega
   clear hp1 hp2 hv1 hv2 HJ1 HJ2 HK1 HK2
   by_cases h1:v1=2
   ·have h1':(v1 != 2)=false:=by simp[h1]
    by_cases h2:v2=0
    ·have h2':(v2 == 0)=true:=by simp[h2]
     have HR:Hid (wayP nodes l=4):=way_some hkl HV.out (by rw[HW.out,if_neg (by simp[h1]),if_pos h2])
     clear h1 h2
     go_wp2_with fail
     refine Calls.mono J1.out ?_
     rintro _ _ ⟨rfl,rfl⟩
     go_wp2_with fail
     refine Calls.mono K1.out ?_
     rintro _ _ ⟨rfl,rfl⟩
     go_wp2_with fail
     refine Calls.mono J2.out ?_
     rintro _ _ ⟨rfl,rfl⟩
     go_wp2_with fail
     refine Calls.mono K2.out ?_
     rintro _ _ ⟨rfl,rfl⟩
     go_wp2
     go_ret
     exact⟨by rw[HR.out];rfl,rfl⟩
    ·have h2':(v2 == 0)=false:=by simp[h2]
     have HN:Hid (wayAt nodes l k=none):=by show _=_;rw[HW.out,if_neg (by simp[h1]),if_neg h2]
     clear h1 h2
     go_wp2_with fail
     refine Calls.mono J1.out ?_
     rintro _ _ ⟨rfl,rfl⟩
     go_wp2_with fail
     refine Calls.mono K1.out ?_
     rintro _ _ ⟨rfl,rfl⟩
     go_wp2_with fail
     refine Calls.mono J2.out ?_
     rintro _ _ ⟨rfl,rfl⟩
     go_wp2_with fail
     refine Calls.mono K2.out ?_
     rintro _ _ ⟨rfl,rfl⟩
     go_wp2
     go_roundw
     case rel=>
      refine⟨k+1,by omega,by go_num,by trivial,fun j hj=>?_⟩
      by_cases e:j=k
      ·subst e;exact HN.out
      ·exact HV.out j (by omega)
     case measure=>simp[intOf];omega
   ·have h1':(v1 != 2)=true:=by simp[h1]
    have HR:Hid (wayP nodes l=5):=way_some hkl HV.out (by rw[HW.out,if_pos h1])
    clear h1
    go_wp2_with fail
    refine Calls.mono J1.out ?_
    rintro _ _ ⟨rfl,rfl⟩
    go_wp2_with fail
    refine Calls.mono K1.out ?_
    rintro _ _ ⟨rfl,rfl⟩
    go_wp2
    go_ret
    exact⟨by rw[HR.out];rfl,rfl⟩
  ·have hnl:decide ((k:Int)<(m:Int))=false:=decide_eq_false (by omega)
   have HR:Hid (wayP nodes l=0):=way_none (fun j hj=>HV.out j (by have:=HL.out.1;omega))
   go_wp2
   go_ret
   exact⟨by rw[HR.out];rfl,rfl⟩
end
theorem split_valid (s:ByteArray):∀ x ∈ (splitP s).1,validB x=true:=by
 unfold splitP
 split
 ·intro x hx;cases hx
 ·split
  ·next h=>exact h
  ·intro x hx;cases hx
theorem split_small (s:ByteArray):∀ x ∈ (splitP s).1,x.size<=12:=fun x hx=>(valid_size (split_valid s x hx)).2
theorem split_len (s:ByteArray):(splitP s).1.length<=s.size+1:=by
 unfold splitP
 split
 ·exact Nat.zero_le _
 ·split
  ·exact segs_len s _
  ·exact Nat.zero_le _
def insideP (p d:ByteArray):Bool:=decide (0<(splitP p).1.length) && ((joinP ((splitP p).1.take ((splitP p).1.length-1))).toList == d.toList)
theorem owns_capS {w:World}{b:Nat}{t:TypeId}{z:Nat}{a:Option Addr}{m c:Nat}{xs:List Value}(h:w.ownsRow b t z (.slice a m c) m xs):m<=c:=by
 rcases h.2 with ⟨e,h0⟩ | ⟨g,cap,_,e,_,_,h1,_⟩
 ·omega
 ·rw[(Value.slice.inj e).2.2];exact h1
theorem inside_anyR (p d:ByteArray)(w:World)(hp:p.size<=2097152):
  Calls Tryz.prog 162 #[.string p,.string d] w fun e w'=>e=.returned (.bool (insideP p d))/\Below w.heap.size w w':=by
 have hsp:=split_any p w hp
 have hsm:=split_small p
 have hln:=split_len p
 obtain⟨xs,hxs⟩:∃ xs,xs=(splitP p).1:=⟨_,rfl⟩
 have HI:Hid (insideP p d=(decide (0<xs.length) && ((joinP (xs.take (xs.length-1))).toList == d.toList))):=by show _=_;unfold insideP;rw[hxs]
 rw[<- hxs] at hsp hsm hln
 have HX:Hid (∀ x ∈ xs,x.size<=12):=hsm
 obtain⟨n,hn⟩:∃ n,n=xs.length:=⟨_,rfl⟩
 rw[<- hn] at hsp hln HI
 have HN:Hid (n=xs.length):=hn
 have HSP:Hid _:=hsp
 clear hsp hsm hxs hn
 go_enter Tryz.func162,Tryz.ntmps162
 go_wp2_with fail
 refine Calls.mono HSP.out ?_
 rintro _ w1 ⟨v,rfl,hown,hb⟩
 obtain⟨al,cl,rfl⟩:=owns_form hown
 have hcap:=owns_capS hown
 have HO:Hid _:=hown
 clear hown HSP
 by_cases h0:0<n
 ·have h0':0<(n:Int):=by omega
  obtain⟨m,hm⟩:∃ m:Nat,n=m+1:=⟨n-1,by omega⟩
  have hj:=join_any al m cl (xs.take m) w1 (ListedS.take (listedS_of_owns HO.out) m (by omega)) (fun x hx=>HX.out x (List.mem_of_mem_take hx)) (by omega)
  have HJ:Hid _:=hj
  obtain⟨g,c',hv⟩:=slice_of_owns HO.out h0
  have ha:=(Value.slice.inj hv).1
  subst ha
  have HR:Hid (insideP p d=((joinP (xs.take m)).toList == d.toList)):=by show _=_;rw[HI.out,decide_eq_true h0,show n-1=m by omega];rfl
  have hmi:(n:Int)-1=(m:Int):=by omega
  have hmc:(m:Int)<=(cl:Int):=by omega
  clear hj hv hm
  go_wp2_with fail
  refine Calls.mono HJ.out ?_
  rintro _ _ ⟨rfl,rfl⟩
  go_wp2
  go_ret
  exact⟨by rw[HR.out];rfl,hb⟩
 ·have h0':decide (0<(n:Int))=false:=decide_eq_false (by omega)
  have HR:Hid (insideP p d=false):=by show _=_;rw[HI.out,decide_eq_false h0];rfl
  go_wp2
  go_ret
  exact⟨by rw[HR.out];rfl,hb⟩
def lastP (p:ByteArray):ByteArray:=(splitP p).1.getD ((splitP p).1.length-1) ⟨#[]⟩
def itemsP (nodes:List Ent)(d:ByteArray):List Ent:=(nodes.filter (fun e=>insideP e.1 d)).map (fun e=>(lastP e.1,0,0))
def namesP (nodes:List Ent)(d:ByteArray):List ByteArray:=(insAll (itemsP nodes d)).map (·.1)
theorem items_snoc_in {nodes:List Ent}{d:ByteArray}{k:Nat}(hk:k<nodes.length)(h:insideP nodes[k].1 d=true):itemsP (nodes.take (k+1)) d=itemsP (nodes.take k) d ++ [(lastP nodes[k].1,0,0)]:=by
 unfold itemsP
 rw[List.take_succ_eq_append_getElem hk,List.filter_append,List.map_append]
 simp[h]
theorem items_snoc_out {nodes:List Ent}{d:ByteArray}{k:Nat}(hk:k<nodes.length)(h:insideP nodes[k].1 d=false):itemsP (nodes.take (k+1)) d=itemsP (nodes.take k) d:=by
 unfold itemsP
 rw[List.take_succ_eq_append_getElem hk,List.filter_append,List.map_append]
 simp[h]
theorem items_small (nodes:List Ent)(d:ByteArray):∀ e ∈ itemsP nodes d,e.1.size<=maxLen:=by
 intro e he
 obtain⟨x,_,rfl⟩:=List.mem_map.1 he
 show (lastP x.1).size<=maxLen
 unfold lastP
 rw[List.getD_eq_getElem?_getD]
 cases hx:(splitP x.1).1[(splitP x.1).1.length-1]? with
 | none=>exact Nat.zero_le _
 | some y=>have:=split_small x.1 y (List.mem_of_getElem? hx);exact Nat.le_trans this (by decide)
section
variable {F:Nat->Prop}{w:World}{S:Nat}{na da:Option Addr}{nc dc:Nat}{nodes:List Ent}{data:List ByteArray}{rest:List Value}
theorem names_any (h:StAt F w S na da nc dc nodes data rest)(d:ByteArray)(hbig:nodes.length<=1000000000)(hp:∀ e ∈ nodes,e.1.size<=2097152)(h16:(itemsP nodes d).length<=16):
  Calls Tryz.prog 156 #[.pointer (some ⟨S,0,none⟩),.string d] w fun e w'=>∃ v,e=.returned v/\w'.ownsRow w.heap.size 9 1 v (namesP nodes d).length (encS (namesP nodes d))/\Below w.heap.size w w':=by
 obtain⟨iI,hI,hI0,hI1,hI2⟩:=info_parts infoItem
 obtain⟨i0,hi,hz0,hz1,hz2⟩:=info_parts infoStrR
 have HS:Hid (StAt F w S na da nc dc nodes data rest):=h
 have HP:Hid (∀ e ∈ nodes,e.1.size<=2097152):=hp
 have H16:Hid ((itemsP nodes d).length<=16):=h16
 obtain⟨n,hn⟩:∃ n,n=nodes.length:=⟨_,rfl⟩
 have HN:Hid (n=nodes.length):=hn
 rw[<- hn] at hbig
 clear h hp h16 hn
 go_enter Tryz.func156,Tryz.ntmps156
 go_wp2
 go_loopw [5,6] (fun l i wr=>∃ (k q:Nat) (al:Option Addr) (cl:Nat),k<=n/\i=.int .i64 (k:Int)/\l=.slice al q cl/\q<=k/\Below w.heap.size w wr/\Hid (q=(itemsP (nodes.take k) d).length)/\Hid (wr.ownsRow w.heap.size 112 3 (.slice al q cl) q (flat (itemsP (nodes.take k) d)))) (fun _ i _=>n-(intOf i).toNat)
 case atStart=>exact⟨0,0,none,0,Nat.zero_le _,rfl,rfl,Nat.le_refl _,Below.refl _ _,rfl,World.ownsRow_nil _ _ _ _⟩
 case round=>
  obtain⟨k,q,al,cl,hk,rfl,rfl,hqk,hb,HQ,HO⟩:=hrel
  have hst:=HS.out.below hb
  have k0:=hst.c0
  have hSl:=hst.lt
  rw[<- HN.out] at k0
  have hsz:=hb.size
  by_cases hlt:k<n
  ·have hkn:k<nodes.length:=by rw[<- HN.out];exact hlt
   have hrow:=hst.rowN
   obtain⟨g,c',hv⟩:=slice_of_owns hrow (by omega)
   have ha:=(Value.slice.inj hv).1
   subst ha
   obtain⟨c0,_,_⟩:=row_cells (off:=0) (owns_cells hrow) hkn
   rw[Nat.zero_add] at c0
   have hgl:=ownsRow_lt hrow rfl
   have hpk:=HP.out _ (List.getElem_mem hkn)
   obtain⟨p,hpp⟩:∃ p,p=nodes[k].1:=⟨_,rfl⟩
   rw[<- hpp] at c0 hpk
   have hin:=inside_anyR p d wr hpk
   have hkm:(k:Int)<(n:Int):=by omega
   cases hi':insideP p d with
   | false=>
    rw[hi'] at hin
    have HIN:Hid _:=hin
    have HIT:Hid (itemsP (nodes.take (k+1)) d=itemsP (nodes.take k) d):=items_snoc_out hkn (by rw[<- hpp];exact hi')
    clear hin hi' hpp hv hrow hst
    go_wp2_with fail
    refine Calls.mono HIN.out ?_
    rintro _ w2 ⟨rfl,hb2⟩
    have hbw:Below w.heap.size w w2:=hb.trans (hb2.mono hsz)
    have HO2:Hid (w2.ownsRow w.heap.size 112 3 (.slice al q cl) q (flat (itemsP (nodes.take (k+1)) d))):=by show World.ownsRow _ _ _ _ _ _ _;rw[HIT.out];exact ownsRow_keep HO.out (fun g hg=>hb2.block g (ownsRow_lt HO.out hg))
    go_wp2
    go_roundw
    case rel=>exact⟨k+1,q,al,cl,by omega,by go_num,rfl,by omega,hbw,by show _=_;rw[HIT.out];exact HQ.out,HO2.out⟩
    case measure=>simp[intOf];omega
   | true=>
    rw[hi'] at hin
    have HIN:Hid _:=hin
    have HIT:Hid (itemsP (nodes.take (k+1)) d=itemsP (nodes.take k) d ++ [(lastP p,0,0)]):=by show _=_;rw[items_snoc_in hkn (by rw[<- hpp];exact hi'),hpp]
    have h0:0<(splitP p).1.length:=by unfold insideP at hi';rw[Bool.and_eq_true] at hi';exact of_decide_eq_true hi'.1
    have HST:Hid (StAt F wr S (some ⟨g,0,none⟩) da nc dc nodes data rest):=hst
    clear hin hi' hpp hv hrow hst
    go_wp2_with fail
    refine Calls.mono HIN.out ?_
    rintro _ w2 ⟨rfl,hb2⟩
    have hbw:Below w.heap.size w w2:=hb.trans (hb2.mono hsz)
    have k02:=(hb2.cell (p:=⟨S,0,none⟩) hSl).trans k0
    have c02:=(hb2.cell (p:=⟨g,k*3,none⟩) hgl).trans c0
    have hsz2:=hb2.size
    have HSP:Hid _:=split_any p w2 hpk
    go_wp2_with fail
    refine Calls.mono HSP.out ?_
    rintro _ w3 ⟨v,rfl,hown3,hb3⟩
    obtain⟨asl,csl,rfl⟩:=owns_form hown3
    obtain⟨gs,c'',hv⟩:=slice_of_owns hown3 h0
    have ha:=(Value.slice.inj hv).1
    subst ha
    obtain⟨m,hm⟩:∃ m:Nat,(splitP p).1.length=m+1:=⟨(splitP p).1.length-1,by omega⟩
    have HLAST:Hid (lastP p=(splitP p).1[m]):=by show _=_;unfold lastP;rw[List.getD_eq_getElem?_getD,show (splitP p).1.length-1=m by omega,List.getElem?_eq_getElem (by omega)];rfl
    obtain⟨g',e',hgs,cs0,_⟩:=row_one (owns_mono hown3 (Nat.zero_le _)) (i:=m) (v:=.string (lastP p)) (by rw[HLAST.out];simp[encS,hm])
    cases e'
    obtain⟨y,hy⟩:∃ y,y=lastP p:=⟨_,rfl⟩
    rw[<- hy] at cs0
    have HY:Hid (y=lastP p):=hy
    obtain⟨sl,hsl⟩:∃ sl,sl=(splitP p).1.length:=⟨_,rfl⟩
    have hslm:sl=m+1:=by omega
    have hslb:sl<=2097153:=by have:=split_len p;omega
    rw[<- hsl]
    have hmi:(sl:Int)-1=(m:Int):=by omega
    have hms:(m:Int)<(sl:Int):=by omega
    have HO3:Hid (w3.ownsRow w.heap.size 112 3 (.slice al q cl) q (flat (itemsP (nodes.take k) d))):=ownsRow_keep HO.out (fun x hx=>by have:=ownsRow_lt HO.out hx;rw[hb3.block x (by omega),hb2.block x this])
    have hbw3:Below w.heap.size w w3:=hbw.trans (hb3.mono (by omega))
    have hsz3:=hb3.size
    clear HLAST hown3 hv hm hy hsl hslm HSP HIN
    go_wp2_with (at_builtin;refine wpList_append_own _ rfl (.tmp 44) (.tmp 52) 106 rfl w.heap.size 112 iI _ 3 32 Tryz.underlying106 hI hI0 hI1 hI2 rfl (by decide) _ _ _ rfl (HO3.out.alloc _) ⟨w3.heap.size,0,none⟩ 1 1 (encE (y,0,0)) rfl rfl (item_cells w3 (y,0,0) _ _ rfl) (encE_one _) (by unfold maxLen;omega) (by omega) (by simp;omega) ?_)
    intro v' w4 hown' hgrow _
    have hb4:Below w.heap.size w w4:=grown_own (hbw3.alloc (by omega) _) (by simp;omega) (HO3.out.alloc _) hgrow
    obtain⟨al',cl',rfl⟩:=owns_form hown'
    have HO4:Hid (w4.ownsRow w.heap.size 112 3 (.slice al' (q+1) cl') (q+1) (flat (itemsP (nodes.take (k+1)) d))):=by show World.ownsRow _ _ _ _ _ _ _;rw[HIT.out,flat_appendR,flat_one_item,<- HY.out];exact hown'
    clear hown' hgrow
    go_wp2
    go_roundw
    case rel=>exact⟨k+1,q+1,al',cl',by omega,by go_num,rfl,by omega,hb4,by show _=_;rw[HIT.out,HQ.out];simp,HO4.out⟩
    case measure=>simp[intOf];omega
  ·have hkk:k=n:=by omega
   have HT:Hid (nodes.take k=nodes):=List.take_of_length_le (by have:=HN.out;omega)
   rw[HT.out] at HQ HO
   have hq16:q<=16:=by have:=H16.out;rw[<- HQ.out] at this;exact this
   have hso:=sorted_gen al q cl (itemsP nodes d) wr (listed_of_owns HO.out) hq16 (items_small nodes d)
   have HSO:Hid _:=hso
   have hnl:decide ((k:Int)<(n:Int))=false:=decide_eq_false (by omega)
   rename World=>w5
   clear hso hst hkk
   go_wp2_with fail
   refine Calls.mono HSO.out ?_
   rintro _ w6 ⟨v,rfl,hown6,hb6⟩
   obtain⟨asl,csl,rfl⟩:=owns_form hown6
   have HO6:Hid _:=hown6
   have hb6w:Below w.heap.size w w6:=hb.trans (hb6.mono hsz)
   have hsz6:=hb6.size
   clear hown6 HSO
   obtain⟨xs,hxs⟩:∃ xs,xs=insAll (itemsP nodes d):=⟨_,rfl⟩
   rw[<- hxs] at HO6
   have HXS:Hid (namesP nodes d=xs.map (·.1)):=by show _=_;unfold namesP;rw[hxs]
   have HXL:Hid (xs.length=q):=by show _=_;have:=HO6.out.1;rw[flat_len] at this;omega
   clear hxs
   go_wp2
   go_loopw [10,11] (fun o i wr=>∃ (j:Nat) (ao:Option Addr) (co:Nat),j<=q/\i=.int .i64 (j:Int)/\o=.slice ao j co/\Below w6.heap.size w6 wr/\Hid (wr.ownsRow w6.heap.size 9 1 (.slice ao j co) j (encS ((xs.take j).map (·.1))))) (fun _ i _=>q-(intOf i).toNat)
   case atStart=>exact⟨0,none,0,Nat.zero_le _,rfl,rfl,Below.refl _ _,World.ownsRow_nil _ _ _ _⟩
   case round=>
    obtain⟨j,ao,co,hj,rfl,rfl,hbr,HOO⟩:=hrel
    have hszr:=hbr.size
    by_cases hjl:j<q
    ·have hjx:j<xs.length:=by rw[HXL.out];exact hjl
     obtain⟨gx,cx,hvx⟩:=slice_of_owns HO6.out (by omega)
     have hax:=(Value.slice.inj hvx).1
     subst hax
     have hgx:gx<w6.heap.size:=ownsRow_lt HO6.out rfl
     obtain⟨x0,_,_⟩:=row_cells (off:=0) (owns_cells HO6.out) hjx
     rw[Nat.zero_add] at x0
     have x0r:=(hbr.cell (p:=⟨gx,j*3,none⟩) hgx).trans x0
     have hgxr:gx<wr.heap.size:=by omega
     obtain⟨y,hy⟩:∃ y,y=xs[j].1:=⟨_,rfl⟩
     rw[<- hy] at x0r
     have HY:Hid (y=xs[j].1):=hy
     have hjq:(j:Int)<(q:Int):=by omega
     clear x0 hvx hy
     go_wp2_with (at_builtin;refine wpList_append_own _ rfl (.tmp 62) (.tmp 68) 131 rfl w6.heap.size 9 i0 _ 1 16 Tryz.underlying131 hi hz0 hz1 hz2 rfl (by decide) _ _ _ rfl (HOO.out.alloc _) ⟨wr.heap.size,0,none⟩ 1 1 [.string y] rfl rfl (one_cell _ _ _ _ rfl) one_str (by unfold maxLen;omega) (by omega) (by simp;omega) ?_)
     intro v' w7 hown' hgrow _
     have hb7:Below w6.heap.size w6 w7:=grown_own (hbr.alloc hszr _) (by simp;omega) (HOO.out.alloc _) hgrow
     obtain⟨ao',co',rfl⟩:=owns_form hown'
     have HO7:Hid (w7.ownsRow w6.heap.size 9 1 (.slice ao' (j+1) co') (j+1) (encS ((xs.take (j+1)).map (·.1)))):=by
      show World.ownsRow _ _ _ _ _ _ _
      rw[List.take_succ_eq_append_getElem hjx,List.map_append,encS,List.map_append,List.map_cons,List.map_nil,List.map_cons,List.map_nil,<- HY.out,List.map_take]
      exact hown'
     clear hown' hgrow
     go_wp2
     go_roundw
     case rel=>exact⟨j+1,ao',co',by omega,by go_num,rfl,hb7,HO7.out⟩
     case measure=>simp[intOf];omega
    ·have hnl2:decide ((j:Int)<(q:Int))=false:=decide_eq_false (by omega)
     have HJQ:Hid (j=q):=by show _=_;omega
     have HTT:Hid ((xs.take j).map (·.1)=namesP nodes d):=by show _=_;rw[HXS.out,List.take_of_length_le (by rw[HXL.out];omega)]
     have HLN:Hid ((namesP nodes d).length=j):=by show _=_;rw[HXS.out,List.length_map,HXL.out,HJQ.out]
     go_wp2
     go_ret
     refine⟨.slice ao j co,rfl,?_,hb6w.trans (hbr.mono (by omega))⟩
     rw[HLN.out,<- HTT.out]
     exact owns_mono HOO.out (by omega)
end
structure FineN (nodes:List Ent)(data:List ByteArray):Prop where
 big:nodes.length<=1000000000
 small:∀ e ∈ nodes,e.1.size<=2097152
 few:∀ d,(itemsP nodes d).length<=16
 files:∀ e ∈ nodes,e.2.1=1->0<=e.2.2/\e.2.2<(data.length:Int)
theorem insAll_len (ls:List Ent):(insAll ls).length=ls.length:=(insAll_perm ls).length_eq
theorem names_len (nodes:List Ent)(d:ByteArray):(namesP nodes d).length=(itemsP nodes d).length:=by
 unfold namesP;rw[List.length_map,insAll_len]
def upP (nodes:List Ent)(l:List ByteArray):Int:=
 if wayP nodes (l.take (l.length-1))≠0 then wayP nodes (l.take (l.length-1)) else if kindP nodes (joinP (l.take (l.length-1)))≠2 then 5 else 0
def listP (nodes:List Ent)(p:ByteArray):List ByteArray×Int:=
 if (splitP p).2=false then ([],1) else if wayP nodes (splitP p).1≠0 then ([],wayP nodes (splitP p).1) else if kindP nodes p≠2 then ([],5) else (namesP nodes p,0)
section
variable {F:Nat->Prop}{w:World}{S:Nat}{na da:Option Addr}{nc dc:Nat}{nodes:List Ent}{data:List ByteArray}{rest:List Value}
theorem many_any (h:StAt F w S na da nc dc nodes data rest)(hf:FineN nodes data)(d:ByteArray):
  Calls Tryz.prog 154 #[.pointer (some ⟨S,0,none⟩),.string d] w fun e w'=>e=.returned (.int .i64 ((itemsP nodes d).length:Int))/\Below w.heap.size w w':=by
 have hn:=names_any h d hf.big hf.small (hf.few d)
 rw[names_len] at hn
 obtain⟨n,hnn⟩:∃ n,n=(itemsP nodes d).length:=⟨_,rfl⟩
 rw[<- hnn] at hn ⊢
 have HN:Hid _:=hn
 clear hn h hf hnn
 go_enter Tryz.func154,Tryz.ntmps154
 go_wp2_with fail
 refine Calls.mono HN.out ?_
 rintro _ w1 ⟨v,rfl,hown,hb⟩
 obtain⟨al,cl,rfl⟩:=owns_form hown
 clear hown
 go_wp2
 go_ret
 exact⟨rfl,hb⟩
theorem up_any (h:StAt F w S na da nc dc nodes data rest)(hf:FineN nodes data)(a:Option Addr)(m c:Nat)(l:List ByteArray)(hl:ListedS w a m l)(hx:∀ x ∈ l,x.size<=12)(hm:m<=2097152)(h0:0<m)(hc:m<=c):
  Calls Tryz.prog 158 #[.pointer (some ⟨S,0,none⟩),.slice a m c] w fun e w'=>e=.returned (.tuple #[.string (joinP (l.take (l.length-1))),.int .i64 (upP nodes l)])/\w'=w:=by
 obtain⟨b,off,ha,hbl,_⟩:=hl.2 h0
 subst ha
 obtain⟨k,hk⟩:∃ k:Nat,m=k+1:=⟨m-1,by omega⟩
 have hj:=join_any (some ⟨b,off,none⟩) k c (l.take k) w (hl.take k (by omega)) (fun x hx'=>hx x (List.mem_of_mem_take hx')) (by omega)
 have hw:=way_any h (some ⟨b,off,none⟩) k c (l.take k) (hl.take k (by omega)) (fun x hx'=>hx x (List.mem_of_mem_take hx')) (by omega) (by omega) hf.big
 have hkd:=skind_any h (joinP (l.take k)) hf.big
 have hlk:l.length-1=k:=by have:=hl.1;omega
 have HU:Hid (upP nodes l=if wayP nodes (l.take k)≠0 then wayP nodes (l.take k) else if kindP nodes (joinP (l.take k))≠2 then 5 else 0):=by show _=_;unfold upP;rw[hlk]
 rw[hlk]
 obtain⟨p,hp⟩:∃ p,p=joinP (l.take k):=⟨_,rfl⟩
 obtain⟨e,he⟩:∃ e,e=wayP nodes (l.take k):=⟨_,rfl⟩
 rw[<- hp] at hj hkd HU ⊢
 obtain⟨v,hv⟩:∃ v,v=kindP nodes p:=⟨_,rfl⟩
 rw[<- he] at hw HU
 rw[<- hv] at hkd HU
 have HJ:Hid _:=hj
 have HW:Hid _:=hw
 have HK:Hid _:=hkd
 have hmi:(m:Int)-1=(k:Int):=by omega
 have hkc:(k:Int)<=(c:Int):=by omega
 clear hj hw hkd hp he hv hlk hl hx h hf hk
 by_cases h1:e=0
 ·have h1':(e != 0)=false:=by simp[h1]
  by_cases h2:v=2
  ·have h2':(v != 2)=false:=by simp[h2]
   have HR:Hid (upP nodes l=0):=by show _=_;rw[HU.out,if_neg (by simp[h1]),if_neg (by simp[h2])]
   clear h1 h2
   go_enter Tryz.func158,Tryz.ntmps158
   go_wp2_with fail
   refine Calls.mono HJ.out ?_
   rintro _ _ ⟨rfl,rfl⟩
   go_wp2_with fail
   refine Calls.mono HW.out ?_
   rintro _ _ ⟨rfl,rfl⟩
   go_wp2_with fail
   refine Calls.mono HK.out ?_
   rintro _ _ ⟨rfl,rfl⟩
   go_wp2
   go_ret2
   exact⟨by rw[HR.out];rfl,rfl⟩
  ·have h2':(v != 2)=true:=by simp[h2]
   have HR:Hid (upP nodes l=5):=by show _=_;rw[HU.out,if_neg (by simp[h1]),if_pos h2]
   clear h1 h2
   go_enter Tryz.func158,Tryz.ntmps158
   go_wp2_with fail
   refine Calls.mono HJ.out ?_
   rintro _ _ ⟨rfl,rfl⟩
   go_wp2_with fail
   refine Calls.mono HW.out ?_
   rintro _ _ ⟨rfl,rfl⟩
   go_wp2_with fail
   refine Calls.mono HK.out ?_
   rintro _ _ ⟨rfl,rfl⟩
   go_wp2
   go_ret2
   exact⟨by rw[HR.out];rfl,rfl⟩
 ·have h1':(e != 0)=true:=by simp[h1]
  have HR:Hid (upP nodes l=e):=by show _=_;rw[HU.out,if_pos h1]
  clear h1
  go_enter Tryz.func158,Tryz.ntmps158
  go_wp2_with fail
  refine Calls.mono HJ.out ?_
  rintro _ _ ⟨rfl,rfl⟩
  go_wp2_with fail
  refine Calls.mono HW.out ?_
  rintro _ _ ⟨rfl,rfl⟩
  go_wp2
  go_ret2
  exact⟨by rw[HR.out];rfl,rfl⟩
theorem split_ok_len {s:ByteArray}(h:(splitP s).2=true):(splitP s).1.length<=5:=by
 unfold splitP at h ⊢
 split at h
 ·next h0=>rw[if_pos h0];exact Nat.zero_le _
 ·next h0=>
  rw[if_neg h0]
  split at h
  ·next h1=>rw[if_pos h1];exact of_decide_eq_true h
  ·cases h
theorem slist_any (h:StAt F w S na da nc dc nodes data rest)(hf:FineN nodes data)(p:ByteArray)(hp:p.size<=2097152):
  Calls Tryz.prog 91 #[.pointer (some ⟨S,0,none⟩),.string p] w fun e w'=>∃ v,e=.returned (.tuple #[v,.int .i64 (listP nodes p).2])/\w'.ownsRow w.heap.size 9 1 v (listP nodes p).1.length (encS (listP nodes p).1)/\Below w.heap.size w w':=by
 have hsp:=split_any p w hp
 have HX:=split_small p
 cases hok:(splitP p).2 with
 | false=>
  have HR:Hid (listP nodes p=([],1)):=by show _=_;unfold listP;rw[if_pos hok]
  rw[hok] at hsp
  have HSP:Hid _:=hsp
  clear hsp hok h hf
  go_enter Tryz.func91,Tryz.ntmps91
  go_wp2_with fail
  refine Calls.mono HSP.out ?_
  rintro _ w1 ⟨v,rfl,hown,hb⟩
  clear hown
  go_wp2
  go_ret2
  rw[HR.out]
  exact⟨_,rfl,World.ownsRow_nil _ _ _ _,hb⟩
 | true=>
  have h5:=split_ok_len hok
  rw[hok] at hsp
  obtain⟨xs,hxs⟩:∃ xs,xs=(splitP p).1:=⟨_,rfl⟩
  have HL:Hid (listP nodes p=if wayP nodes xs≠0 then ([],wayP nodes xs) else if kindP nodes p≠2 then ([],5) else (namesP nodes p,0)):=by show _=_;unfold listP;rw[if_neg (by rw[hok];decide),hxs]
  rw[<- hxs] at hsp HX h5
  have HXX:Hid (∀ x ∈ xs,x.size<=12):=HX
  have HST:Hid (StAt F w S na da nc dc nodes data rest):=h
  have HF:Hid (FineN nodes data):=hf
  obtain⟨n,hn⟩:∃ n,n=xs.length:=⟨_,rfl⟩
  rw[<- hn] at hsp h5
  have HSP:Hid _:=hsp
  clear hsp hok hxs HX h hf hn
  go_enter Tryz.func91,Tryz.ntmps91
  go_wp2_with fail
  refine Calls.mono HSP.out ?_
  rintro _ w1 ⟨v,rfl,hown,hb⟩
  obtain⟨al,cl,rfl⟩:=owns_form hown
  have hcap:=owns_capS hown
  have hst1:=HST.out.below hb
  have hw:=way_any hst1 al n cl xs (listedS_of_owns hown) HXX.out (by omega) hcap HF.out.big
  have hkd:=skind_any hst1 p HF.out.big
  have hna:=names_any hst1 p HF.out.big HF.out.small (HF.out.few p)
  obtain⟨e,he⟩:∃ e,e=wayP nodes xs:=⟨_,rfl⟩
  obtain⟨kd,hkk⟩:∃ kd,kd=kindP nodes p:=⟨_,rfl⟩
  rw[<- he] at hw HL
  rw[<- hkk] at hkd HL
  have HW:Hid _:=hw
  have HK:Hid _:=hkd
  have HNA:Hid _:=hna
  have hbs:=hb.size
  clear hw hkd hna he hkk hown hst1 HSP
  by_cases h1:e=0
  ·have h1':(e != 0)=false:=by simp[h1]
   by_cases h2:kd=2
   ·have h2':(kd != 2)=false:=by simp[h2]
    have HR:Hid (listP nodes p=(namesP nodes p,0)):=by show _=_;rw[HL.out,if_neg (by simp[h1]),if_neg (by simp[h2])]
    clear h1 h2
    go_wp2_with fail
    refine Calls.mono HW.out ?_
    rintro _ _ ⟨rfl,rfl⟩
    go_wp2_with fail
    refine Calls.mono HK.out ?_
    rintro _ _ ⟨rfl,rfl⟩
    go_wp2_with fail
    refine Calls.mono HNA.out ?_
    rintro _ w2 ⟨v,rfl,hown2,hb2⟩
    have HO2:Hid _:=hown2
    clear hown2
    go_wp2
    go_ret2
    rw[HR.out]
    exact⟨v,rfl,owns_mono HO2.out hbs,hb.trans (hb2.mono hbs)⟩
   ·have h2':(kd != 2)=true:=by simp[h2]
    have HR:Hid (listP nodes p=([],5)):=by show _=_;rw[HL.out,if_neg (by simp[h1]),if_pos h2]
    clear h1 h2
    go_wp2_with fail
    refine Calls.mono HW.out ?_
    rintro _ _ ⟨rfl,rfl⟩
    go_wp2_with fail
    refine Calls.mono HK.out ?_
    rintro _ _ ⟨rfl,rfl⟩
    go_wp2
    go_ret2
    rw[HR.out]
    exact⟨_,rfl,World.ownsRow_nil _ _ _ _,hb⟩
  ·have h1':(e != 0)=true:=by simp[h1]
   have HR:Hid (listP nodes p=([],e)):=by show _=_;rw[HL.out,if_pos h1]
   clear h1
   go_wp2_with fail
   refine Calls.mono HW.out ?_
   rintro _ _ ⟨rfl,rfl⟩
   go_wp2
   go_ret2
   rw[HR.out]
   exact⟨_,rfl,World.ownsRow_nil _ _ _ _,hb⟩
end
def underP (p t:ByteArray):Bool:=if h:t.size+1<p.size then ((p.extract 0 t.size).toList == t.toList) && decide (p[t.size]'(by omega)=47) else false
def goneP (nodes:List Ent)(p:ByteArray):List Ent:=nodes.filter (fun e=>!(e.1.toList == p.toList) && !(underP e.1 p))
theorem under_any (p t:ByteArray)(w:World)(hp:p.size<=2097152)(ht:t.size<=2097152):
  Calls Tryz.prog 161 #[.string p,.string t] w fun e w'=>e=.returned (.bool (underP p t))/\w'=w:=by
 by_cases h1:t.size+1<p.size
 ·have h1':(t.size:Int)+1<(p.size:Int):=by omega
  have hle:(t.size:Int)<=(p.size:Int):=by omega
  have hlt:(t.size:Int)<(p.size:Int):=by omega
  have hltn:t.size<p.size:=by omega
  cases h2:((p.extract 0 t.size).toList == t.toList) with
  | true=>
   by_cases h3:p[t.size]=47
   ·have h3':((p[t.size].toNat:Int) == 47)=true:=by rw[h3];rfl
    have HR:Hid (underP p t=true):=by show _=_;unfold underP;rw[dif_pos h1,h2,decide_eq_true h3];rfl
    clear h3
    go_enter Tryz.func161,Tryz.ntmps161
    go_wp2
    go_ret
    exact⟨by rw[HR.out];rfl,rfl⟩
   ·have h3':((p[t.size].toNat:Int) == 47)=false:=beq_eq_false_iff_ne.2 fun e=>h3 (UInt8.toNat_inj.1 (by have:(47:UInt8).toNat=47:=rfl;omega))
    have HR:Hid (underP p t=false):=by show _=_;unfold underP;rw[dif_pos h1,h2,decide_eq_false h3];rfl
    clear h3
    go_enter Tryz.func161,Tryz.ntmps161
    go_wp2
    go_ret
    exact⟨by rw[HR.out];rfl,rfl⟩
  | false=>
   have HR:Hid (underP p t=false):=by show _=_;unfold underP;rw[dif_pos h1,h2];rfl
   go_enter Tryz.func161,Tryz.ntmps161
   go_wp2
   go_ret
   exact⟨by rw[HR.out];rfl,rfl⟩
 ·have h1':decide ((t.size:Int)+1<(p.size:Int))=false:=decide_eq_false (by omega)
  have HR:Hid (underP p t=false):=by show _=_;unfold underP;rw[dif_neg h1]
  go_enter Tryz.func161,Tryz.ntmps161
  go_wp2
  go_ret
  exact⟨by rw[HR.out];rfl,rfl⟩
def StInv (F:Nat->Prop)(w:World)(S:Nat)(nodes:List Ent)(data:List ByteArray)(rest:List Value):Prop:=∃ na nc da dc,StAt F w S na da nc dc nodes data rest
theorem gone_snoc_in {nodes:List Ent}{p:ByteArray}{k:Nat}(hk:k<nodes.length)(h:(!(nodes[k].1.toList == p.toList) && !(underP nodes[k].1 p))=true):goneP (nodes.take (k+1)) p=goneP (nodes.take k) p ++ [nodes[k]]:=by
 unfold goneP
 rw[List.take_succ_eq_append_getElem hk,List.filter_append];simp only[List.filter_cons,h,if_true,List.filter_nil]
theorem gone_snoc_out {nodes:List Ent}{p:ByteArray}{k:Nat}(hk:k<nodes.length)(h:(!(nodes[k].1.toList == p.toList) && !(underP nodes[k].1 p))=false):goneP (nodes.take (k+1)) p=goneP (nodes.take k) p:=by
 unfold goneP
 rw[List.take_succ_eq_append_getElem hk,List.filter_append];simp[h]
theorem infoNode:(Tryz.prog.info? 200).map (fun i=>(i.zero,i.size,i.bytes))=some (some (.agg #[.string ByteArray.empty,.int .i64 0,.int .i64 0]),3,32):=by kernel_rfl
section
variable {F:Nat->Prop}{w:World}{S:Nat}{na da:Option Addr}{nc dc:Nat}{nodes:List Ent}{data:List ByteArray}{rest:List Value}
theorem StAt.setNodes (h:StAt F w S na da nc dc nodes data rest){wr:World}(hb:Below w.heap.size w wr){ao:Option Addr}{q co:Nat}{ns:List Ent}(hq:q=ns.length)(ho:wr.ownsRow w.heap.size 200 3 (.slice ao q co) q (flat ns)):
  StInv (NewF F w (wr.setCell ⟨S,0,none⟩ (.slice ao q co))) (wr.setCell ⟨S,0,none⟩ (.slice ao q co)) S ns data rest/\Keeps F w (wr.setCell ⟨S,0,none⟩ (.slice ao q co)):=by
 subst hq
 have hSr:wr.heap[S]? = some (.cells (Value.slice na nodes.length nc :: Value.slice da data.length dc :: rest).toArray 179 (0,0)):=(hb.block S h.lt).trans h.hS
 have hz:=hb.size
 have hne:∀ {t:TypeId} {b z n:Nat} {v:Value} {xs:List Value},wr.ownsRow b t z v n xs->179≠t->∀ g,v.ownBlock=some g->g≠S:=fun hr ht g hg e=>owns_ne_cells hr hSr ht (by rw[<- e];exact hg.symm)
 refine⟨⟨ao,co,da,dc,⟨.inl h.fS,?_,?_,?_,?_,?_⟩⟩,⟨hb.os,hb.tape,hb.output,by simpa using hz,fun k hk hn=>?_⟩⟩
 ·simp[World.setCell,Array.getElem?_modify,hSr]
 ·exact owns_mono (ownsRow_keep ho (fun g hg=>Below.heap_setCell _ _ _ _ (hne ho (by decide) g hg))) (Nat.zero_le _)
 ·have hd:=ownsRow_keep h.rowD (fun g hg=>hb.block g (ownsRow_lt h.rowD hg))
  exact ownsRow_keep hd (fun g hg=>Below.heap_setCell _ _ _ _ (hne hd (by decide) g hg))
 ·intro g hg
  have:=ho.lt g hg
  exact .inr ⟨this.1,by simpa using this.2⟩
 ·intro g hg;exact .inl (h.fd g hg)
 ·rw[Below.heap_setCell _ _ _ _ (fun e=>hn (by rw[show k=S from e];exact h.fS)),hb.block k hk]
theorem gone_any (h:StAt F w S na da nc dc nodes data rest)(hf:FineN nodes data)(p:ByteArray)(hp:p.size<=2097152):
  Calls Tryz.prog 160 #[.pointer (some ⟨S,0,none⟩),.string p] w fun e w'=>e=.returned (.tuple #[])/\StInv (NewF F w w') w' S (goneP nodes p) data rest/\Keeps F w w':=by
 obtain⟨i0,hi,hz0,hz1,hz2⟩:=info_parts infoNode
 have HS:Hid (StAt F w S na da nc dc nodes data rest):=h
 have HF:Hid (FineN nodes data):=hf
 obtain⟨n,hn⟩:∃ n,n=nodes.length:=⟨_,rfl⟩
 have HN:Hid (n=nodes.length):=hn
 have hbig:n<=1000000000:=by rw[hn];exact hf.big
 clear h hf hn
 go_enter Tryz.func160,Tryz.ntmps160
 go_wp2
 go_loopw [4,5] (fun o i wr=>∃ (k q:Nat) (ao:Option Addr) (co:Nat),k<=n/\i=.int .i64 (k:Int)/\o=.slice ao q co/\q<=k/\Below w.heap.size w wr/\Hid (q=(goneP (nodes.take k) p).length)/\Hid (wr.ownsRow w.heap.size 200 3 (.slice ao q co) q (flat (goneP (nodes.take k) p)))) (fun _ i _=>n-(intOf i).toNat)
 case atStart=>exact⟨0,0,none,0,Nat.zero_le _,rfl,rfl,Nat.le_refl _,Below.refl _ _,rfl,World.ownsRow_nil _ _ _ _⟩
 case round=>
  obtain⟨k,q,ao,co,hk,rfl,rfl,hqk,hb,HQ,HO⟩:=hrel
  have hst:=HS.out.below hb
  have k0:=hst.c0
  have hSl:=hst.lt
  rw[<- HN.out] at k0
  have hsz:=hb.size
  by_cases hlt:k<n
  ·have hkn:k<nodes.length:=by rw[<- HN.out];exact hlt
   have hrow:=hst.rowN
   obtain⟨g,c',hv⟩:=slice_of_owns hrow (by omega)
   have ha:=(Value.slice.inj hv).1
   subst ha
   obtain⟨c0,c1,c2⟩:=row_cells (off:=0) (owns_cells hrow) hkn
   rw[Nat.zero_add] at c0 c1 c2
   have hgl:=ownsRow_lt hrow rfl
   have hpk:=HF.out.small _ (List.getElem_mem hkn)
   obtain⟨x,hx⟩:∃ x,x=nodes[k]:=⟨_,rfl⟩
   rw[<- hx] at c0 c1 c2 hpk
   have HX:Hid (x=nodes[k]):=hx
   have hun:=under_any x.1 p wr hpk hp
   have hkm:(k:Int)<(n:Int):=by omega
   cases he:(x.1.toList == p.toList) with
   | true=>
    have he':(x.1.toList != p.toList)=false:=by rw[bne,he];rfl
    have HG:Hid (goneP (nodes.take (k+1)) p=goneP (nodes.take k) p):=gone_snoc_out hkn (by rw[<- hx,he];rfl)
    clear hun hx hv hrow hst
    go_wp2
    go_roundw
    case rel=>exact⟨k+1,q,ao,co,by omega,by go_num,rfl,by omega,hb,by show _=_;rw[HG.out];exact HQ.out,by show World.ownsRow _ _ _ _ _ _ _;rw[HG.out];exact HO.out⟩
    case measure=>simp[intOf];omega
   | false=>
    have he':(x.1.toList != p.toList)=true:=by rw[bne,he];rfl
    cases hu:underP x.1 p with
    | true=>
     have HG:Hid (goneP (nodes.take (k+1)) p=goneP (nodes.take k) p):=gone_snoc_out hkn (by rw[<- hx,he,hu];rfl)
     rw[hu] at hun
     have HU:Hid _:=hun
     clear hun hx hv hrow hst hu
     go_wp2_with fail
     refine Calls.mono HU.out ?_
     rintro _ _ ⟨rfl,rfl⟩
     go_wp2
     go_roundw
     case rel=>exact⟨k+1,q,ao,co,by omega,by go_num,rfl,by omega,hb,by show _=_;rw[HG.out];exact HQ.out,by show World.ownsRow _ _ _ _ _ _ _;rw[HG.out];exact HO.out⟩
     case measure=>simp[intOf];omega
    | false=>
     have HG:Hid (goneP (nodes.take (k+1)) p=goneP (nodes.take k) p ++ [x]):=by show _=_;rw[gone_snoc_in hkn (by rw[<- hx,he,hu];rfl),<- hx]
     rw[hu] at hun
     have HU:Hid _:=hun
     clear hun hx hv hrow hst hu
     go_wp2_with fail
     refine Calls.mono HU.out ?_
     rintro _ _ ⟨rfl,rfl⟩
     rename World=>wq
     go_wp2_with (at_builtin;refine wpList_append_own _ rfl (.tmp 33) (.tmp 41) 174 rfl w.heap.size 200 i0 _ 3 32 Tryz.underlying174 hi hz0 hz1 hz2 rfl (by decide) _ _ _ rfl (HO.out.alloc _) ⟨wq.heap.size,0,none⟩ 1 1 (encE x) rfl rfl (item_cells wq x _ _ rfl) (encE_one _) (by unfold maxLen;omega) (by omega) (by simp;omega) ?_)
     intro v' w4 hown' hgrow _
     have hb4:Below w.heap.size w w4:=grown_own (hb.alloc hsz _) (by simp;omega) (HO.out.alloc _) hgrow
     obtain⟨ao',co',rfl⟩:=owns_form hown'
     have HO4:Hid (w4.ownsRow w.heap.size 200 3 (.slice ao' (q+1) co') (q+1) (flat (goneP (nodes.take (k+1)) p))):=by show World.ownsRow _ _ _ _ _ _ _;rw[HG.out,flat_appendR,flat_one_item];exact hown'
     clear hown' hgrow
     go_wp2
     go_roundw
     case rel=>exact⟨k+1,q+1,ao',co',by omega,by go_num,rfl,by omega,hb4,by show _=_;rw[HG.out,HQ.out];simp,HO4.out⟩
     case measure=>simp[intOf];omega
  ·have HT:Hid (nodes.take k=nodes):=List.take_of_length_le (by have:=HN.out;omega)
   rw[HT.out] at HQ HO
   have hnl:decide ((k:Int)<(n:Int))=false:=decide_eq_false (by omega)
   have hfz:wr.frozen? ⟨S,0,none⟩=false:=by simp[World.frozen?,hst.hS]
   have HFIN:Hid _:=HS.out.setNodes hb HQ.out HO.out
   clear hst
   go_wp2
   go_end0
   exact⟨rfl,HFIN.out⟩
end
def removeP (nodes:List Ent)(p:ByteArray):List Ent×Int:=
 if (splitP p).2=false then (nodes,1) else if (splitP p).1.length=0 then (nodes,9) else if wayP nodes (splitP p).1≠0 then (nodes,wayP nodes (splitP p).1) else if 0<(itemsP nodes p).length then (nodes,8) else (goneP nodes p,0)
def mkdirP (nodes:List Ent)(p:ByteArray):List Ent×Int:=
 if (splitP p).2=false then (nodes,1) else if (splitP p).1.length=0 then (nodes,6) else if upP nodes (splitP p).1≠0 then (nodes,upP nodes (splitP p).1) else if kindP nodes p≠0 then (nodes,6)
 else if 16<=(itemsP nodes (joinP ((splitP p).1.take ((splitP p).1.length-1)))).length then (nodes,11) else (nodes ++ [(p,2,0)],0)
section
variable {F:Nat->Prop}{w:World}{S:Nat}{na da:Option Addr}{nc dc:Nat}{nodes:List Ent}{data:List ByteArray}{rest:List Value}
theorem StInv.below {w':World}(h:StInv F w S nodes data rest)(hb:Below w.heap.size w w'):StInv (NewF F w w') w' S nodes data rest:=by
 obtain⟨na,nc,da,dc,h⟩:=h
 exact⟨na,nc,da,dc,(h.below hb).keep (fun _ h=>.inl h) (fun _ _=>rfl)⟩
theorem sremove_any (h:StAt F w S na da nc dc nodes data rest)(hf:FineN nodes data)(p:ByteArray)(hp:p.size<=2097152):
  Calls Tryz.prog 96 #[.pointer (some ⟨S,0,none⟩),.string p] w fun e w'=>e=.returned (.int .i64 (removeP nodes p).2)/\StInv (NewF F w w') w' S (removeP nodes p).1 data rest/\Keeps F w w':=by
 have hsp:=split_any p w hp
 have HX:=split_small p
 have HST:Hid (StAt F w S na da nc dc nodes data rest):=h
 have HF:Hid (FineN nodes data):=hf
 have HSAME:Hid (∀ w',Below w.heap.size w w'->StInv (NewF F w w') w' S nodes data rest/\Keeps F w w'):=fun w' hb=>⟨StInv.below ⟨na,nc,da,dc,h⟩ hb,Keeps.of_below hb⟩
 clear h hf
 cases hok:(splitP p).2 with
 | false=>
  have HR:Hid (removeP nodes p=(nodes,1)):=by show _=_;unfold removeP;rw[if_pos hok]
  rw[hok] at hsp
  have HSP:Hid _:=hsp
  clear hsp hok
  go_enter Tryz.func96,Tryz.ntmps96
  go_wp2_with fail
  refine Calls.mono HSP.out ?_
  rintro _ w1 ⟨v,rfl,hown,hb⟩
  clear hown
  go_wp2
  go_ret
  rw[HR.out]
  exact⟨rfl,HSAME.out _ hb⟩
 | true=>
  have h5:=split_ok_len hok
  rw[hok] at hsp
  obtain⟨xs,hxs⟩:∃ xs,xs=(splitP p).1:=⟨_,rfl⟩
  have HL:Hid (removeP nodes p=if xs.length=0 then (nodes,9) else if wayP nodes xs≠0 then (nodes,wayP nodes xs) else if 0<(itemsP nodes p).length then (nodes,8) else (goneP nodes p,0)):=by show _=_;unfold removeP;rw[if_neg (by rw[hok];decide),hxs]
  rw[<- hxs] at hsp HX h5
  have HXX:Hid (∀ x ∈ xs,x.size<=12):=HX
  obtain⟨n,hn⟩:∃ n,n=xs.length:=⟨_,rfl⟩
  rw[<- hn] at hsp h5 HL
  have HSP:Hid _:=hsp
  clear hsp hok hxs HX hn
  go_enter Tryz.func96,Tryz.ntmps96
  go_wp2_with fail
  refine Calls.mono HSP.out ?_
  rintro _ w1 ⟨v,rfl,hown,hb⟩
  obtain⟨al,cl,rfl⟩:=owns_form hown
  have hcap:=owns_capS hown
  have hst1:=HST.out.below hb
  have hbs:=hb.size
  by_cases h0:n=0
  ·have HR:Hid (removeP nodes p=(nodes,9)):=by show _=_;rw[HL.out,if_pos h0]
   have h0':((n:Int) == 0)=true:=by simp[h0]
   clear h0 hown hst1 HSP
   go_wp2
   go_ret
   rw[HR.out]
   exact⟨rfl,HSAME.out _ hb⟩
  ·have h0':((n:Int) == 0)=false:=by simp[h0]
   have hw:=way_any hst1 al n cl xs (listedS_of_owns hown) HXX.out (by omega) hcap HF.out.big
   have hma:=many_any hst1 HF.out p
   obtain⟨e,he⟩:∃ e,e=wayP nodes xs:=⟨_,rfl⟩
   obtain⟨q,hq⟩:∃ q,q=(itemsP nodes p).length:=⟨_,rfl⟩
   rw[<- he] at hw HL
   rw[<- hq] at hma HL
   have HW:Hid _:=hw
   have HM:Hid _:=hma
   have HST1:Hid _:=hst1
   clear hw hma he hq hown hst1 HSP
   by_cases h1:e=0
   ·have h1':(e != 0)=false:=by simp[h1]
    by_cases h2:0<q
    ·have h2':(0:Int)<(q:Int):=by omega
     have HR:Hid (removeP nodes p=(nodes,8)):=by show _=_;rw[HL.out,if_neg h0,if_neg (by simp[h1]),if_pos h2]
     clear h1 h2 h0
     go_wp2_with fail
     refine Calls.mono HW.out ?_
     rintro _ _ ⟨rfl,rfl⟩
     go_wp2_with fail
     refine Calls.mono HM.out ?_
     rintro _ w2 ⟨rfl,hb2⟩
     go_wp2
     go_ret
     rw[HR.out]
     exact⟨rfl,HSAME.out _ (hb.trans (hb2.mono hbs))⟩
    ·have h2':decide ((0:Int)<(q:Int))=false:=decide_eq_false (by omega)
     have HR:Hid (removeP nodes p=(goneP nodes p,0)):=by show _=_;rw[HL.out,if_neg h0,if_neg (by simp[h1]),if_neg h2]
     obtain rfl:q=0:=by omega
     clear h1 h2 h0 h2'
     go_wp2_with fail
     refine Calls.mono HW.out ?_
     rintro _ _ ⟨rfl,rfl⟩
     go_wp2_with fail
     refine Calls.mono HM.out ?_
     rintro _ w2 ⟨rfl,hb2⟩
     have hbw:Below w.heap.size w w2:=hb.trans (hb2.mono hbs)
     have HG:Hid _:=gone_any (StAt.below HST1.out hb2) HF.out p hp
     go_wp2_with fail
     refine Calls.mono HG.out ?_
     rintro _ w3 ⟨rfl,hsi,hk3⟩
     have hbw2:=hbw.size
     have HFIN:Hid (StInv (NewF F w w3) w3 S (goneP nodes p) data rest/\Keeps F w w3):=by
      obtain⟨na',nc',da',dc',hsi⟩:=hsi
      exact⟨⟨na',nc',da',dc',hsi.keep (fun k hk=>by rcases hk with h | h;exact .inl h;exact .inr ⟨by omega,h.2⟩) (fun _ _=>rfl)⟩,Keeps.after hk3 hbw⟩
     clear hsi hk3 HG
     go_wp2
     go_ret
     rw[HR.out]
     exact⟨rfl,HFIN.out⟩
   ·have h1':(e != 0)=true:=by simp[h1]
    have HR:Hid (removeP nodes p=(nodes,e)):=by show _=_;rw[HL.out,if_neg h0,if_pos h1]
    clear h1 h0
    go_wp2_with fail
    refine Calls.mono HW.out ?_
    rintro _ _ ⟨rfl,rfl⟩
    go_wp2
    go_ret
    rw[HR.out]
    exact⟨rfl,HSAME.out _ hb⟩
theorem StAt.push (h:StAt F w S na da nc dc nodes data rest){w':World}{g cap':Nat}{x:Ent}(P:w'.heap[S]? = some (.cells ((Value.slice na nodes.length nc :: Value.slice da data.length dc :: rest).toArray.setIfInBounds 0 (.slice (some ⟨g,0,none⟩) (nodes.length+1) cap')) 179 (0,0))/\
   w'.ownsRow 0 200 3 (.slice (some ⟨g,0,none⟩) (nodes.length+1) cap') (nodes.length+1) (flat nodes++encE x)/\((some g:Option Nat)=(Value.slice na nodes.length nc).ownBlock\/w.heap.size<=g)/\Keeps (fun k=>k=S\/some k=(Value.slice na nodes.length nc).ownBlock) w w'):
  StInv (NewF F w w') w' S (nodes ++ [x]) data rest/\Keeps F w w':=by
 obtain⟨p1,p2,p3,p4⟩:=P
 have hl:(nodes ++ [x]).length=nodes.length+1:=by simp
 refine⟨⟨some ⟨g,0,none⟩,cap',da,dc,⟨.inl h.fS,?_,?_,?_,?_,?_⟩⟩,keeps_sub p4 h.fS h.fn⟩
 ·rw[hl,p1];simp
 ·rw[hl,flat_appendR,flat_one_item];exact p2
 ·exact row_stays h.rowD p4 h.hS (by decide) (fun g hg=>rows_apart h.rowD h.rowN (by decide) hg)
 ·rw[hl];exact newF_of p2 p3 h.fn
 ·intro g hg;exact .inl (h.fd g hg)
theorem smkdir_any (h:StAt F w S na da nc dc nodes data rest)(hf:FineN nodes data)(p:ByteArray)(hp:p.size<=2097152):
  Calls Tryz.prog 95 #[.pointer (some ⟨S,0,none⟩),.string p] w fun e w'=>e=.returned (.int .i64 (mkdirP nodes p).2)/\StInv (NewF F w w') w' S (mkdirP nodes p).1 data rest/\Keeps F w w':=by
 obtain⟨i0,hi,hz0,hz1,hz2⟩:=info_parts infoNode
 have hsp:=split_any p w hp
 have HX:=split_small p
 have HST:Hid (StAt F w S na da nc dc nodes data rest):=h
 have HF:Hid (FineN nodes data):=hf
 have HSAME:Hid (∀ w',Below w.heap.size w w'->StInv (NewF F w w') w' S nodes data rest/\Keeps F w w'):=fun w' hb=>⟨StInv.below ⟨na,nc,da,dc,h⟩ hb,Keeps.of_below hb⟩
 clear h hf
 cases hok:(splitP p).2 with
 | false=>
  have HR:Hid (mkdirP nodes p=(nodes,1)):=by show _=_;unfold mkdirP;rw[if_pos hok]
  rw[hok] at hsp
  have HSP:Hid _:=hsp
  clear hsp hok
  go_enter Tryz.func95,Tryz.ntmps95
  go_wp2_with fail
  refine Calls.mono HSP.out ?_
  rintro _ w1 ⟨v,rfl,hown,hb⟩
  clear hown
  go_wp2
  go_ret
  rw[HR.out]
  exact⟨rfl,HSAME.out _ hb⟩
 | true=>
  have h5:=split_ok_len hok
  rw[hok] at hsp
  obtain⟨xs,hxs⟩:∃ xs,xs=(splitP p).1:=⟨_,rfl⟩
  have HL:Hid (mkdirP nodes p=if xs.length=0 then (nodes,6) else if upP nodes xs≠0 then (nodes,upP nodes xs) else if kindP nodes p≠0 then (nodes,6) else if 16<=(itemsP nodes (joinP (xs.take (xs.length-1)))).length then (nodes,11) else (nodes ++ [(p,2,0)],0)):=by
   show _=_;unfold mkdirP;rw[if_neg (by rw[hok];decide),hxs]
  rw[<- hxs] at hsp HX h5
  have HXX:Hid (∀ x ∈ xs,x.size<=12):=HX
  obtain⟨pp,hpp⟩:∃ pp,pp=joinP (xs.take (xs.length-1)):=⟨_,rfl⟩
  rw[<- hpp] at HL
  have HPP:Hid (pp=joinP (xs.take (xs.length-1))):=hpp
  obtain⟨n,hn⟩:∃ n,n=xs.length:=⟨_,rfl⟩
  rw[<- hn] at hsp h5 HL
  have HSP:Hid _:=hsp
  clear hsp hok hxs HX hn hpp
  go_enter Tryz.func95,Tryz.ntmps95
  go_wp2_with fail
  refine Calls.mono HSP.out ?_
  rintro _ w1 ⟨v,rfl,hown,hb⟩
  obtain⟨al,cl,rfl⟩:=owns_form hown
  have hcap:=owns_capS hown
  have hst1:=HST.out.below hb
  have hbs:=hb.size
  by_cases h0:n=0
  ·have HR:Hid (mkdirP nodes p=(nodes,6)):=by show _=_;rw[HL.out,if_pos h0]
   subst h0
   clear hown hst1 HSP
   go_wp2
   go_ret
   rw[HR.out]
   exact⟨rfl,HSAME.out _ hb⟩
  ·have h0':((n:Int) == 0)=false:=by simp[h0]
   have hup:=up_any hst1 HF.out al n cl xs (listedS_of_owns hown) HXX.out (by omega) (by omega) hcap
   rw[<- HPP.out] at hup
   have hkd:=skind_any hst1 p HF.out.big
   have hma:=many_any hst1 HF.out pp
   obtain⟨e,he⟩:∃ e,e=upP nodes xs:=⟨_,rfl⟩
   obtain⟨kd,hkk⟩:∃ kd,kd=kindP nodes p:=⟨_,rfl⟩
   obtain⟨q,hq⟩:∃ q,q=(itemsP nodes pp).length:=⟨_,rfl⟩
   rw[<- he] at hup HL
   rw[<- hkk] at hkd HL
   rw[<- hq] at hma HL
   have HU:Hid _:=hup
   have HK:Hid _:=hkd
   have HM:Hid _:=hma
   have HST1:Hid _:=hst1
   clear hup hkd hma he hkk hq hown hst1 HSP
   by_cases h1:e=0
   ·have h1':(e != 0)=false:=by simp[h1]
    by_cases h2:kd=0
    ·have h2':(kd != 0)=false:=by simp[h2]
     by_cases h3:16<=q
     ·have h3':(16:Int)<=(q:Int):=by omega
      have HR:Hid (mkdirP nodes p=(nodes,11)):=by show _=_;rw[HL.out,if_neg h0,if_neg (by simp[h1]),if_neg (by simp[h2]),if_pos h3]
      clear h1 h2 h0
      go_wp2_with fail
      refine Calls.mono HU.out ?_
      rintro _ _ ⟨rfl,rfl⟩
      go_wp2_with fail
      refine Calls.mono HK.out ?_
      rintro _ _ ⟨rfl,rfl⟩
      go_wp2_with fail
      refine Calls.mono HM.out ?_
      rintro _ w2 ⟨rfl,hb2⟩
      go_wp2
      go_ret
      rw[HR.out]
      exact⟨rfl,HSAME.out _ (hb.trans (hb2.mono hbs))⟩
     ·have h3':decide ((16:Int)<=(q:Int))=false:=decide_eq_false (by omega)
      have h3'':¬ (16:Int)<=(q:Int):=by omega
      have HR:Hid (mkdirP nodes p=(nodes ++ [(p,2,0)],0)):=by show _=_;rw[HL.out,if_neg h0,if_neg (by simp[h1]),if_neg (by simp[h2]),if_neg h3]
      clear h1 h2 h0
      go_wp2_with fail
      refine Calls.mono HU.out ?_
      rintro _ _ ⟨rfl,rfl⟩
      go_wp2_with fail
      refine Calls.mono HK.out ?_
      rintro _ _ ⟨rfl,rfl⟩
      go_wp2_with fail
      refine Calls.mono HM.out ?_
      rintro _ w2 ⟨rfl,hb2⟩
      have hbw:Below w.heap.size w w2:=hb.trans (hb2.mono hbs)
      have hst2:=StAt.below HST1.out hb2
      have k0:=hst2.c0
      have hSl:=hst2.lt
      obtain⟨m,hm⟩:∃ m,m=nodes.length:=⟨_,rfl⟩
      have hmb:m<=1000000000:=by rw[hm];exact HF.out.big
      have HMM:Hid (m=nodes.length):=hm
      have HR2:Hid (w2.ownsRow 0 200 3 (.slice na m nc) m (flat nodes)):=by rw[hm];exact hst2.rowN
      have HS2:Hid (StAt F w2 S na da nc dc nodes data rest):=hst2
      rw[<- hm] at k0
      clear hst2 hm
      go_wp2_with (at_builtin;refine wpList_append_at rfl (.tmp 44) (.tmp 47) 174 rfl 0 200 i0 _ 3 32 Tryz.underlying174 hi hz0 hz1 hz2 rfl (by decide) (.slice na m nc) m (flat nodes) rfl (World.ownsRow.alloc HR2.out _) ⟨w2.heap.size,0,none⟩ 1 1 (encE (p,2,0)) rfl rfl (item_cells w2 (p,2,0) _ _ rfl) (encE_one _) (by unfold maxLen;omega) (by omega) (Nat.zero_le _) ?_)
      intro v3 w3 ho3 hg3 hloc3
      obtain⟨g3,c3,rfl⟩:=slice_of_owns ho3 (by omega)
      have hS2:=HS2.out.hS
      have hW3:=grown_W hS2 (kb_alloc0 _ _) (by simp) hg3 (owns_ne_cells HR2.out hS2 (by decide))
      have hs3:w2.heap.size<=w3.heap.size:=by have:=hg3.size;simp at this;omega
      have p03:w3.cell? ⟨S,0,none⟩=some (.slice na m nc):=by rw[HMM.out];simp[World.cell?,hW3]
      have f03:w3.frozen? ⟨S,0,none⟩=false:=by simp[World.frozen?,hW3]
      have hSl3:S<w3.heap.size:=by omega
      have P3:=push_after (i:=0) hS2 HR2.out (by decide) (kb_alloc0 _ _) (by simp) ⟨rfl,rfl,rfl⟩ ho3 hg3 hloc3 (by simp)
      have HFIN:Hid (StInv (NewF F w (w3.setCell ⟨S,0,none⟩ (.slice (some ⟨g3,0,none⟩) (m+1) c3))) (w3.setCell ⟨S,0,none⟩ (.slice (some ⟨g3,0,none⟩) (m+1) c3)) S (nodes ++ [(p,2,0)]) data rest/\Keeps F w (w3.setCell ⟨S,0,none⟩ (.slice (some ⟨g3,0,none⟩) (m+1) c3))):=by
       have hm:=HMM.out
       subst hm
       obtain⟨⟨na',nc',da',dc',hsi⟩,hk3⟩:=HS2.out.push P3
       have:=hbw.size
       exact⟨⟨na',nc',da',dc',hsi.keep (fun k hk=>by rcases hk with h | h;exact .inl h;exact .inr ⟨by omega,h.2⟩) (fun _ _=>rfl)⟩,Keeps.after hk3 hbw⟩
      clear ho3 hg3 hloc3 P3 hW3 hS2
      go_wp2
      go_ret
      rw[HR.out]
      exact⟨rfl,HFIN.out⟩
    ·have h2':(kd != 0)=true:=by simp[h2]
     have HR:Hid (mkdirP nodes p=(nodes,6)):=by show _=_;rw[HL.out,if_neg h0,if_neg (by simp[h1]),if_pos h2]
     clear h1 h2 h0
     go_wp2_with fail
     refine Calls.mono HU.out ?_
     rintro _ _ ⟨rfl,rfl⟩
     go_wp2_with fail
     refine Calls.mono HK.out ?_
     rintro _ _ ⟨rfl,rfl⟩
     go_wp2_with fail
     refine Calls.mono HM.out ?_
     rintro _ w2 ⟨rfl,hb2⟩
     go_wp2
     go_ret
     rw[HR.out]
     exact⟨rfl,HSAME.out _ (hb.trans (hb2.mono hbs))⟩
   ·have h1':(e != 0)=true:=by simp[h1]
    have HR:Hid (mkdirP nodes p=(nodes,e)):=by show _=_;rw[HL.out,if_neg h0,if_pos h1]
    clear h1 h0
    go_wp2_with fail
    refine Calls.mono HU.out ?_
    rintro _ _ ⟨rfl,rfl⟩
    go_wp2
    go_ret
    rw[HR.out]
    exact⟨rfl,HSAME.out _ hb⟩
end
def statAt (nodes:List Ent)(data:List ByteArray)(p:ByteArray):Int×Int:=
 match findP nodes p with
 | some i=>if ((nodes[i]?).map (fun e:Ent=>e.2.1)).getD 0=1 then (1,((data.getD (((nodes[i]?).map (fun e:Ent=>e.2.2)).getD 0).toNat ⟨#[]⟩).size:Int)) else (2,((itemsP nodes p).length:Int))
 | none=>(2,((itemsP nodes p).length:Int))
def statP (nodes:List Ent)(data:List ByteArray)(p:ByteArray):(Int×Int)×Int:=
 if (splitP p).2=false then ((0,0),1) else if wayP nodes (splitP p).1≠0 then ((0,0),wayP nodes (splitP p).1) else (statAt nodes data p,0)
theorem statAt_none {nodes:List Ent}{data:List ByteArray}{p:ByteArray}(h:findP nodes p=none):statAt nodes data p=(2,((itemsP nodes p).length:Int)):=by unfold statAt;rw[h]
theorem statAt_dir {nodes:List Ent}{data:List ByteArray}{p:ByteArray}{i:Nat}(h:findP nodes p=some i)(hi:i<nodes.length)(hk:nodes[i].2.1≠1):statAt nodes data p=(2,((itemsP nodes p).length:Int)):=by
 unfold statAt
 rw[h]
 simp only[List.getElem?_eq_getElem hi,Option.map_some,Option.getD_some]
 rw[if_neg hk]
theorem statAt_file {nodes:List Ent}{data:List ByteArray}{p:ByteArray}{i j:Nat}(h:findP nodes p=some i)(hi:i<nodes.length)(hk:nodes[i].2.1=1)(hj:nodes[i].2.2=(j:Int))(hjd:j<data.length):statAt nodes data p=(1,(data[j].size:Int)):=by
 unfold statAt
 rw[h]
 simp only[List.getElem?_eq_getElem hi,Option.map_some,Option.getD_some]
 rw[if_pos hk,hj,Int.toNat_natCast,List.getD_eq_getElem?_getD,List.getElem?_eq_getElem hjd]
 rfl
section
variable {F:Nat->Prop}{w:World}{S:Nat}{na da:Option Addr}{nc dc:Nat}{nodes:List Ent}{data:List ByteArray}{rest:List Value}
theorem sstat_any (h:StAt F w S na da nc dc nodes data rest)(hf:FineN nodes data)(p:ByteArray)(hp:p.size<=2097152)(hd:data.length<=1000000000):
  Calls Tryz.prog 90 #[.pointer (some ⟨S,0,none⟩),.string p] w fun e w'=>e=.returned (.tuple #[.agg #[.int .i64 (statP nodes data p).1.1,.int .i64 (statP nodes data p).1.2],.int .i64 (statP nodes data p).2])/\Below w.heap.size w w':=by
 have b1:∀ B,Below w.heap.size w (w.alloc B):=fun B=>(Below.refl _ _).alloc (Nat.le_refl _) _
 have hsp:=fun B=>split_any p (w.alloc B) hp
 have HX:=split_small p
 cases hok:(splitP p).2 with
 | false=>
  have HR:Hid (statP nodes data p=((0,0),1)):=by show _=_;unfold statP;rw[if_pos hok]
  rw[hok] at hsp
  have HSP:Hid _:=hsp
  clear hsp hok h hf
  go_enter Tryz.func90,Tryz.ntmps90
  go_wp2_with fail
  refine Calls.mono (HSP.out _) ?_
  rintro _ w1 ⟨v,rfl,hown,hb⟩
  have hbw:=(b1 _).trans (hb.mono (by simp))
  have y0:=hb.cell (p:=⟨w.heap.size,0,none⟩) (by simp)
  have y1:=hb.cell (p:=⟨w.heap.size,1,none⟩) (by simp)
  have f0:=hb.frozen (p:=⟨w.heap.size,0,none⟩) (by simp)
  have f1:=hb.frozen (p:=⟨w.heap.size,1,none⟩) (by simp)
  simp at y0 y1 f0 f1
  have hbl:=Nat.lt_of_lt_of_le (show w.heap.size<w.heap.size+1 by omega) (by have:=hb.size;simpa using this)
  clear hown
  go_wp2
  rw[HR.out]
  exact bodyPost_ret (v:=.tuple #[.agg #[.int .i64 0,.int .i64 0],.int .i64 1]) (by simp[results,Tryz.results90,go_sem,y0,y1]) rfl ⟨rfl,(hbw.setCell (Nat.le_refl _) _).setCell (Nat.le_refl _) _⟩
 | true=>
  have h5:=split_ok_len hok
  rw[hok] at hsp
  obtain⟨xs,hxs⟩:∃ xs,xs=(splitP p).1:=⟨_,rfl⟩
  obtain⟨q,hq⟩:∃ q,q=(itemsP nodes p).length:=⟨_,rfl⟩
  have HL:Hid (statP nodes data p=if wayP nodes xs≠0 then ((0,0),wayP nodes xs) else (statAt nodes data p,0)):=by show _=_;unfold statP;rw[if_neg (by rw[hok];decide),hxs]
  rw[<- hxs] at hsp HX h5
  have HXX:Hid (∀ x ∈ xs,x.size<=12):=HX
  have HQ:Hid (q=(itemsP nodes p).length):=hq
  have HST:Hid (StAt F w S na da nc dc nodes data rest):=h
  have HF:Hid (FineN nodes data):=hf
  obtain⟨n,hn⟩:∃ n,n=xs.length:=⟨_,rfl⟩
  rw[<- hn] at hsp h5
  have HSP:Hid _:=hsp
  clear hsp hok hxs HX h hf hn hq
  go_enter Tryz.func90,Tryz.ntmps90
  go_wp2_with fail
  refine Calls.mono (HSP.out _) ?_
  rintro _ w1 ⟨v,rfl,hown,hb⟩
  have hbw:=(b1 _).trans (hb.mono (by simp))
  have y0:=hb.cell (p:=⟨w.heap.size,0,none⟩) (by simp)
  have y1:=hb.cell (p:=⟨w.heap.size,1,none⟩) (by simp)
  have f0:=hb.frozen (p:=⟨w.heap.size,0,none⟩) (by simp)
  have f1:=hb.frozen (p:=⟨w.heap.size,1,none⟩) (by simp)
  simp at y0 y1 f0 f1
  have hRl:w.heap.size<w1.heap.size:=Nat.lt_of_lt_of_le (show w.heap.size<w.heap.size+1 by omega) (by have:=hb.size;simpa using this)
  have hbs:=hbw.size
  obtain⟨al,cl,rfl⟩:=owns_form hown
  have hcap:=owns_capS hown
  have hst1:=HST.out.below hbw
  have hw:=way_any hst1 al n cl xs (listedS_of_owns hown) HXX.out (by omega) hcap HF.out.big
  have hma:=many_any hst1 HF.out p
  rw[<- HQ.out] at hma
  have hfd:=nfind_any na nodes.length nc nodes p w1 (listed_of_owns hst1.rowN) HF.out.big
  have k0:=hst1.c0
  have k1:=hst1.c1
  have hSl:=hst1.lt
  obtain⟨m,hm⟩:∃ m,m=nodes.length:=⟨_,rfl⟩
  have hmb:m<=1000000000:=by rw[hm];exact HF.out.big
  have HMM:Hid (m=nodes.length):=hm
  rw[<- hm] at k0 hfd
  obtain⟨md,hmd⟩:∃ md,md=data.length:=⟨_,rfl⟩
  have HMD:Hid (md=data.length):=hmd
  rw[<- hmd] at k1 hd
  obtain⟨e,he⟩:∃ e,e=wayP nodes xs:=⟨_,rfl⟩
  rw[<- he] at hw HL
  have HW:Hid _:=hw
  have HM:Hid _:=hma
  have HST1:Hid (StAt F w1 S na da nc dc nodes data rest):=hst1
  clear hw hma he hown hst1 HSP hb hm hmd
  by_cases h1:e=0
  ·have h1':(e != 0)=false:=by simp[h1]
   cases hfi:findP nodes p with
   | none=>
    have HR:Hid (statP nodes data p=((2,(q:Int)),0)):=by show _=_;rw[HL.out,if_neg (by simp[h1]),statAt_none hfi,HQ.out]
    rw[hfi] at hfd
    have HFD:Hid (Calls Tryz.prog 106 #[.slice na m nc,.string p] w1 fun e w'=>e=.returned (.int .i64 (-1))/\w'=w1):=hfd
    clear h1 hfd hfi
    go_wp2_with fail
    refine Calls.mono HW.out ?_
    rintro _ _ ⟨rfl,rfl⟩
    go_wp2_with fail
    refine Calls.mono HFD.out ?_
    rintro _ _ ⟨rfl,rfl⟩
    go_wp2_with fail
    refine Calls.mono HM.out ?_
    rintro _ w2 ⟨rfl,hb2⟩
    have hbw2:Below w.heap.size w w2:=hbw.trans (hb2.mono hbs)
    have z0:=(hb2.cell (p:=⟨w.heap.size,0,none⟩) hRl).trans y0
    have z1:=(hb2.cell (p:=⟨w.heap.size,1,none⟩) hRl).trans y1
    have g0:=(hb2.frozen (p:=⟨w.heap.size,0,none⟩) hRl).trans f0
    have g1:=(hb2.frozen (p:=⟨w.heap.size,1,none⟩) hRl).trans f1
    have hRl2:w.heap.size<w2.heap.size:=Nat.lt_of_lt_of_le hRl hb2.size
    go_wp2
    rw[HR.out]
    exact bodyPost_ret (v:=.tuple #[.agg #[.int .i64 2,.int .i64 (q:Int)],.int .i64 0]) (by simp[results,Tryz.results90,go_sem,z0,z1]) rfl ⟨rfl,(hbw2.setCell (Nat.le_refl _) _).setCell (Nat.le_refl _) _⟩
   | some i=>
    have hil:i<nodes.length:=(List.findIdx?_eq_some_iff_getElem.1 hfi).1
    rw[hfi] at hfd
    have HFD:Hid (Calls Tryz.prog 106 #[.slice na m nc,.string p] w1 fun e w'=>e=.returned (.int .i64 (i:Int))/\w'=w1):=hfd
    have hrow:=HST1.out.rowN
    obtain⟨g,c',hv⟩:=slice_of_owns hrow (by omega)
    have ha:=(Value.slice.inj hv).1
    subst ha
    obtain⟨_,x1,x2⟩:=row_cells (off:=0) (owns_cells hrow) hil
    rw[Nat.zero_add] at x1 x2
    have hgl:=ownsRow_lt hrow rfl
    have hin:(i:Int)<(m:Int):=by have:=HMM.out;omega
    have hi0:(0:Int)<=(i:Int):=by omega
    by_cases hk1:nodes[i].2.1=1
    ·obtain⟨hf0,hf1⟩:=HF.out.files _ (List.getElem_mem hil) hk1
     obtain⟨j,hj⟩:∃ j:Nat,nodes[i].2.2=(j:Int):=⟨nodes[i].2.2.toNat,by omega⟩
     have hjd:j<data.length:=by omega
     have hrowd:=HST1.out.rowD
     obtain⟨gd,hgd,hgdl,xd,_⟩:=row_one hrowd (i:=j) (v:=.string data[j]) (by simp[encS,hjd])
     subst hgd
     have HR:Hid (statP nodes data p=((1,(data[j].size:Int)),0)):=by
      show _=_
      rw[HL.out,if_neg (by simp[h1]),statAt_file hfi hil hk1 hj hjd]
     rw[hk1] at x1
     rw[hj] at x2
     obtain⟨dd,hdd⟩:∃ dd,dd=data[j]:=⟨_,rfl⟩
     rw[<- hdd] at xd HR
     have hjm:(j:Int)<(md:Int):=by have:=HMD.out;omega
     clear h1 hfd hfi hrow hrowd hv hk1 hj hf0 hf1 hdd
     go_wp2_with fail
     refine Calls.mono HW.out ?_
     rintro _ _ ⟨rfl,rfl⟩
     go_wp2_with fail
     refine Calls.mono HFD.out ?_
     rintro _ _ ⟨rfl,rfl⟩
     go_wp2
     go_region
     all_goals
      go_wp2
      rw[HR.out]
      exact bodyPost_ret (v:=.tuple #[.agg #[.int .i64 1,.int .i64 (dd.size:Int)],.int .i64 0]) (by simp[results,Tryz.results90,go_sem,y0,y1]) rfl ⟨rfl,((hbw.setCell (Nat.le_refl _) _).setCell (Nat.le_refl _) _).drew⟩
    ·have hk1':(nodes[i].2.1 == 1)=false:=by simpa using hk1
     have HR:Hid (statP nodes data p=((2,(q:Int)),0)):=by
      show _=_
      rw[HL.out,if_neg (by simp[h1]),statAt_dir hfi hil hk1,HQ.out]
     clear h1 hfd hfi hrow hv hk1
     go_wp2_with fail
     refine Calls.mono HW.out ?_
     rintro _ _ ⟨rfl,rfl⟩
     go_wp2_with fail
     refine Calls.mono HFD.out ?_
     rintro _ _ ⟨rfl,rfl⟩
     go_wp2_with fail
     refine Calls.mono HM.out ?_
     rintro _ w2 ⟨rfl,hb2⟩
     have hbw2:Below w.heap.size w w2:=hbw.trans (hb2.mono hbs)
     have z0:=(hb2.cell (p:=⟨w.heap.size,0,none⟩) hRl).trans y0
     have z1:=(hb2.cell (p:=⟨w.heap.size,1,none⟩) hRl).trans y1
     have g0:=(hb2.frozen (p:=⟨w.heap.size,0,none⟩) hRl).trans f0
     have g1:=(hb2.frozen (p:=⟨w.heap.size,1,none⟩) hRl).trans f1
     have hRl2:w.heap.size<w2.heap.size:=Nat.lt_of_lt_of_le hRl hb2.size
     go_wp2
     rw[HR.out]
     exact bodyPost_ret (v:=.tuple #[.agg #[.int .i64 2,.int .i64 (q:Int)],.int .i64 0]) (by simp[results,Tryz.results90,go_sem,z0,z1]) rfl ⟨rfl,(hbw2.setCell (Nat.le_refl _) _).setCell (Nat.le_refl _) _⟩
  ·have h1':(e != 0)=true:=by simp[h1]
   have HR:Hid (statP nodes data p=((0,0),e)):=by show _=_;rw[HL.out,if_pos h1]
   clear h1
   go_wp2_with fail
   refine Calls.mono HW.out ?_
   rintro _ _ ⟨rfl,rfl⟩
   go_wp2
   rw[HR.out]
   exact bodyPost_ret (v:=.tuple #[.agg #[.int .i64 0,.int .i64 0],.int .i64 e]) (by simp[results,Tryz.results90,go_sem,y0,y1]) rfl ⟨rfl,(hbw.setCell (Nat.le_refl _) _).setCell (Nat.le_refl _) _⟩
end
end Go.Proofs.YtlgidcmmgohagaaGreat
