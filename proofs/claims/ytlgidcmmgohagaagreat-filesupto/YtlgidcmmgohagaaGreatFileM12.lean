/- What is proved here: the law's small functions for workspaces. -/
import Derived.Test.YtlgidcmmgohagaaGreatFileM07
import Derived.Test.YtlgidcmmgohagaaGreatFileM11
namespace Go.Proofs.YtlgidcmmgohagaaGreat
open Go.RowKit Go.Sort Go.Shelf Go.Proofs.Tryz
set_option linter.unusedVariables false
set_option maxRecDepth 100000
set_option maxHeartbeats 16000000
def pickOf (c n:Int):Int:=(if c<0 then -(c+1) else c).tmod n
theorem pickOf_lt (c:Int){n:Int}(hn:0<n):0<=pickOf c n/\pickOf c n<n:=by
 unfold pickOf;have h0:0<=(if c<0 then -(c+1) else c):=by split <;> omega
 exact⟨Int.tmod_nonneg _ h0,Int.tmod_lt_of_pos _ hn⟩
theorem pick_any (c n:Int)(w:World)(hc:-9223372036854775808<=c/\c<=9223372036854775807)(hn:0<n)(hn2:n<=1000000000):
  Calls prog 49 #[.int .i64 c,.int .i64 n] w fun e w'=>e=.returned (.int .i64 (pickOf c n))/\w'=w:=by
 have hb:=pickOf_lt c hn;by_cases h:c<0
 ·have HE:Hid (pickOf c n=(-(c+1)).tmod n):=by show _=_;unfold pickOf;rw[zzD h]
  rw[HE.out] at hb;go_enter func49,ntmps49;go_wp2;go_ret;exact⟨by rw[HE.out,Int.neg_tmod];rfl,rfl⟩
 ·have HE:Hid (pickOf c n=c.tmod n):=by show _=_;unfold pickOf;rw[zzB h]
  rw[HE.out] at hb;have h':decide (c<0)=false:=zzE h;go_enter func49,ntmps49;go_wp2;go_ret;exact⟨by rw[HE.out,Int.tmod_eq_emod_of_nonneg h];rfl,rfl⟩
theorem sameNames_any (a b:Option Addr)(c d:Nat)(xs ys:List ByteArray)(w:World)(z1:xs.length<=1000000000)(z2:ys.length<=1000000000)
  (r1:w.ownsRow 0 9 1 (.slice a xs.length c) xs.length (encS xs))(r2:w.ownsRow 0 9 1 (.slice b ys.length d) ys.length (encS ys)):
  Calls prog 92 #[.slice a xs.length c,.slice b ys.length d] w fun e w'=>e=.returned (.bool (decide (xs=ys)))/\Below w.heap.size w w':=by
 by_cases hl:xs.length=ys.length
 ·obtain⟨m,hm⟩:∃m,m=xs.length:=⟨_,rfl⟩
  have l1:Hid (xs.length=m):=hm.symm;have l2:Hid (ys.length=m):=by rw[hm];exact hl.symm
  rw[<-hl,<-hm] at r2;rw[<-hl,<-hm];rw[<-hm] at r1 z1;have R1:Hid (w.ownsRow 0 9 1 (.slice a m c) m (encS xs)):=r1;have R2:Hid (w.ownsRow 0 9 1 (.slice b m d) m (encS ys)):=r2;clear r1 r2 hl hm z2;have h2:((m:Int) != (m:Int))=false:=by simp
  go_enter func92,ntmps92;go_wp2
  go_loopw [5] (fun i wr=>∃k:Nat,k<=m/\i=.int .i64 k/\Hid (∃q,wr=w.drewN q)/\Hid (xs.take k=ys.take k)) (fun i _=>m-(intOf i).toNat)
  case atStart=>exact⟨0,zzF _,rfl,⟨0,by first | rfl | trivial⟩,rfl⟩
  case round=>
   obtain⟨k,hk,rfl,HQ,HT⟩:=hrel;by_cases hlt:k<m
   ·have k1':k<xs.length:=by rw[l1.out];exact hlt
    have k2':k<ys.length:=by rw[l2.out];exact hlt
    obtain⟨x,hx⟩:∃x,x=xs[k]:=⟨_,rfl⟩;obtain⟨y,hy⟩:∃y,y=ys[k]:=⟨_,rfl⟩;obtain⟨g1,rfl,gl1,p,_⟩:=row_one R1.out (i:=k) (v:=.string x) (by simp[encS,zzH k1',hx]);obtain⟨g2,rfl,gl2,p',_⟩:=row_one R2.out (i:=k) (v:=.string y) (by simp[encS,zzH k2',hy]);have p1:wr.cell? ⟨g1,k,none⟩=some (.string x):=by obtain⟨q,hq⟩:=HQ.out;rw[hq];exact p
    have p2:wr.cell? ⟨g2,k,none⟩=some (.string y):=by obtain⟨q,hq⟩:=HQ.out;rw[hq];exact p'
    have s1:g1<wr.heap.size:=by obtain⟨q,hq⟩:=HQ.out;rw[hq];exact gl1
    have s2:g2<wr.heap.size:=by obtain⟨q,hq⟩:=HQ.out;rw[hq];exact gl2
    clear p p' gl1 gl2;have HX:Hid (x=xs[k]):=hx;have HY:Hid (y=ys[k]):=hy;clear hx hy;cases hxy:(x.toList == y.toList) with
    | true=>
     have HD:Hid (x=y):=ByteArray.ext (Array.toList_inj.1 (by simpa [ByteArray.toList_eq] using hxy));go_wp2
     go_quiet (fail)
     go_wp2;go_roundw
     case rel=>
      refine⟨k+1,by omega,by go_num,(by obtain⟨q,hq⟩:=HQ.out;exact⟨q+nq,by rw[hq];simp⟩),?_⟩;show _=_;rw[zzI k1',zzI k2',HT.out,<-HX.out,<-HY.out,HD.out]
     case measure=>simp[intOf];omega
    | false=>
     have HD:Hid (xs≠ys):=fun h=>by
      have:x=y:=by rw[HX.out,HY.out];simp only[h]
      rw[this] at hxy;simp at hxy
     go_wp2
     go_quiet (fail)
     go_wp2;go_ret;exact⟨by rw[zzE HD.out];rfl,by obtain⟨q,hq⟩:=HQ.out;rw[hq];exact below_drewN (below_drewN (Below.refl _ _) _) _⟩
   ·have hkm:k=m:=by omega
    have HD:Hid (xs=ys):=by
     have:=HT.out
     rwa [hkm,List.take_of_length_le (by rw[l1.out];exact zzC _),List.take_of_length_le (by rw[l2.out];exact zzC _)] at this
    go_wp2;go_ret;exact⟨by rw[decide_eq_true HD.out];rfl,by obtain⟨q,hq⟩:=HQ.out;rw[hq];exact below_drewN (Below.refl _ _) _⟩
 ·have HD:Hid (xs≠ys):=fun h=>hl (by rw[h])
  have h2:((xs.length:Int) != (ys.length:Int))=true:=by simp;omega
  clear hl;go_enter func92,ntmps92;go_wp2;go_ret;exact⟨by rw[zzE HD.out];rfl,Below.refl _ _⟩
theorem answered_any (W:Nat)(e f:Int)(none:Bool)(w:World)(he:(e == 14)=false):
  Calls prog 53 #[.pointer (some ⟨W,0,.none⟩),.int .i64 e,.int .i64 f,.bool none] w fun r w'=>r=.returned (.tuple #[.bool false,.bool (e == f)])/\w'=w:=by
 have hnum:=num_any;go_enter func53,ntmps53;go_wp2_with (go_at_call 22;refine Calls.mono (hnum _ _) ?_;rintro _ _ ⟨rfl,rfl⟩);go_ret2;exact⟨rfl,rfl⟩
def ListedS (w:World)(a:Option Addr)(m:Nat)(xs:List ByteArray):Prop:=xs.length=m/\(0<m->∃b off,a=some ⟨b,off,none⟩/\b<w.heap.size/\∀j (hj:j<xs.length),w.cell? ⟨b,off+j,none⟩=some (.string xs[j]))
theorem listedS_of_owns {w:World}{b:Nat}{a:Option Addr}{m c:Nat}{xs:List ByteArray}(h:w.ownsRow b 9 1 (.slice a m c) m (encS xs)):ListedS w a m xs:=by
 have hl:xs.length=m:=by have:=h.1;simp only[encS,List.length_map] at this;omega
 refine⟨hl,fun hp=>?_⟩;obtain⟨g,_,hgl,_⟩:=row_one (owns_mono h (zzF _)) (i:=0) (v:=.string xs[0]) (by simp[encS])
 subst_vars
 refine⟨g,0,rfl,hgl,fun j hj=>?_⟩;obtain⟨g',e,_,hc,_⟩:=row_one (owns_mono h (zzF _)) (i:=j) (v:=.string xs[j]) (by simp[encS,hj]);cases e;rw[Nat.zero_add];exact hc
theorem ListedS.below {w w':World}{a:Option Addr}{m:Nat}{xs:List ByteArray}(h:ListedS w a m xs)(hb:Below w.heap.size w w'):ListedS w' a m xs:=
 ⟨h.1,fun hp=>by
  obtain⟨b,off,ha,hbl,hc⟩:=h.2 hp
  exact⟨b,off,ha,zzA hbl hb.size,fun j hj=>(hb.cell (p:=⟨b,off+j,none⟩) hbl).trans (hc j hj)⟩⟩
theorem ListedS.take {w:World}{a:Option Addr}{m:Nat}{xs:List ByteArray}(h:ListedS w a m xs)(k:Nat)(hk:k<=m):ListedS w a k (xs.take k):=by
 refine⟨by rw[List.length_take,h.1];omega,fun hp=>?_⟩;obtain⟨b,off,ha,hbl,hc⟩:=h.2 (by omega);refine⟨b,off,ha,hbl,fun j hj=>?_⟩;rw[List.getElem_take];exact hc j (by rw[List.length_take] at hj;omega)
def joinTo (xs:List ByteArray):Nat->ByteArray
 | 0=>⟨#[]⟩
 | k+1=>(if 0<k then joinTo xs k++⟨#[47]⟩ else joinTo xs k)++xs.getD k ⟨#[]⟩
def joinP (xs:List ByteArray):ByteArray:=joinTo xs xs.length
theorem joinTo_size (xs:List ByteArray)(h:∀x ∈ xs,x.size<=12):∀k,(joinTo xs k).size<=13*k
 | 0=>zzC _
 | k+1=>by
  have ih:=joinTo_size xs h k
  have hg:(xs.getD k ⟨#[]⟩).size<=12:=by
   rw[List.getD_eq_getElem?_getD];cases hx:xs[k]? with
   | none=>exact zzF _
   | some x=>exact h x (List.mem_of_getElem? hx)
  simp only[joinTo];split
  ·rw[ByteArray.size_append,ByteArray.size_append]
   have:(⟨#[47]⟩:ByteArray).size=1:=rfl
   omega
  ·rw[ByteArray.size_append]
   omega
theorem join_any (a:Option Addr)(m c:Nat)(xs:List ByteArray)(w:World)(hl:ListedS w a m xs)(hx:∀x ∈ xs,x.size<=12)(hm:m<=2097153):
  Calls prog 202 #[.slice a m c] w fun e w'=>e=.returned (.string (joinP xs))/\w'=w:=by
 have HL:Hid (ListedS w a m xs):=hl;have HX:Hid (∀k,(joinTo xs k).size<=13*k):=joinTo_size xs hx;have HX2:Hid (∀x ∈ xs,x.size<=12):=hx;clear hl hx;go_enter func202,ntmps202;go_wp2
 go_loopw [3,4] (fun t i wr=>∃(k:Nat) (s:ByteArray),k<=m/\i=.int .i64 (k:Int)/\t=.string s/\s.size<=13*k/\wr=w/\Hid (s=joinTo xs k)) (fun _ i _=>m-(intOf i).toNat)
 case atStart=>exact⟨0,⟨#[]⟩,zzF _,rfl,rfl,zzC _,rfl,rfl⟩
 case round=>
  obtain⟨k,s,hk,rfl,rfl,hsz,rfl,HS⟩:=hrel;by_cases hlt:k<m
  ·have hkx:k<xs.length:=by rw[HL.out.1];exact hlt
   obtain⟨b,off,ha,hbl,hc⟩:=HL.out.2 (by omega);have c0:=hc k hkx;subst ha;have hx12:=HX2.out _ (zzJ hkx);obtain⟨x,hxx⟩:∃x,x=xs[k]:=⟨_,rfl⟩;rw[<-hxx] at c0 hx12;have HXX:Hid (x=xs[k]):=hxx;have hkm:(k:Int)<(m:Int):=by omega
   clear hc hxx;have HG:Hid (xs.getD k ⟨#[]⟩=x):=by show _=_;rw[HXX.out,List.getD_eq_getElem?_getD,zzH hkx];rfl
   by_cases h0:0<k
   ·have h0':0<(k:Int):=by omega
    have HJ:Hid (s++⟨#[47]⟩++x=joinTo xs (k+1)):=by show _=_;rw[HS.out];simp only[joinTo];rw[zzD h0,HG.out]
    go_wp2;refine⟨⟨k+1,_,by omega,by go_num,rfl,?_,by trivial,HJ.out⟩,by simp[intOf];omega⟩;rw[HJ.out];exact HX.out _
   ·have h0':decide (0<(k:Int))=false:=zzE (by omega)
    have HJ:Hid (s++x=joinTo xs (k+1)):=by show _=_;rw[HS.out];simp only[joinTo];rw[zzB h0,HG.out]
    go_wp2;refine⟨⟨k+1,_,by omega,by go_num,rfl,?_,by trivial,HJ.out⟩,by simp[intOf];omega⟩;rw[HJ.out];exact HX.out _
  ·have hnl:decide ((k:Int)<(m:Int))=false:=zzE (by omega)
   have HJ:Hid (s=joinP xs):=by show _=_;rw[HS.out];unfold joinP;rw[HL.out.1];congr 1;omega
   go_wp2;go_ret;exact⟨by rw[<-HJ.out];rfl,rfl⟩
structure StAt (F:Nat->Prop)(w:World)(S:Nat)(na da:Option Addr)(nc dc:Nat)(nodes:List Ent)(data:List ByteArray)(rest:List Value):Prop where
 fS:F S
 hS:w.heap[S]? = some (.cells (Value.slice na nodes.length nc :: Value.slice da data.length dc :: rest).toArray 179 (0,0))
 rowN:w.ownsRow 0 200 3 (.slice na nodes.length nc) nodes.length (flat nodes)
 rowD:w.ownsRow 0 9 1 (.slice da data.length dc) data.length (encS data)
 fn:∀g,(Value.slice na nodes.length nc).ownBlock=some g->F g
 fd:∀g,(Value.slice da data.length dc).ownBlock=some g->F g
section
variable {F:Nat->Prop}{w:World}{S:Nat}{na da:Option Addr}{nc dc:Nat}{nodes:List Ent}{data:List ByteArray}{rest:List Value}
theorem StAt.lt (h:StAt F w S na da nc dc nodes data rest):S<w.heap.size:=(Array.getElem?_eq_some_iff.1 h.hS).1
theorem StAt.c0 (h:StAt F w S na da nc dc nodes data rest):w.cell? ⟨S,0,none⟩=some (.slice na nodes.length nc):=by simp[World.cell?,h.hS]
theorem StAt.c1 (h:StAt F w S na da nc dc nodes data rest):w.cell? ⟨S,1,none⟩=some (.slice da data.length dc):=by simp[World.cell?,h.hS]
theorem StAt.keep {F':Nat->Prop}{w':World}(h:StAt F w S na da nc dc nodes data rest)(hF:∀k,F k->F' k)(hk:∀k,F k->w'.heap[k]? = w.heap[k]?):StAt F' w' S na da nc dc nodes data rest:=
 ⟨hF _ h.fS,(hk S h.fS).trans h.hS,ownsRow_keep h.rowN (fun g hg=>hk g (h.fn g hg)),ownsRow_keep h.rowD (fun g hg=>hk g (h.fd g hg)),fun g hg=>hF g (h.fn g hg),fun g hg=>hF g (h.fd g hg)⟩
theorem StAt.below {w':World}(h:StAt F w S na da nc dc nodes data rest)(hb:Below w.heap.size w w'):StAt F w' S na da nc dc nodes data rest:=
 ⟨h.fS,(hb.block S h.lt).trans h.hS,ownsRow_keep h.rowN (fun g hg=>hb.block g (ownsRow_lt h.rowN hg)),ownsRow_keep h.rowD (fun g hg=>hb.block g (ownsRow_lt h.rowD hg)),h.fn,h.fd⟩
def findP (nodes:List Ent)(p:ByteArray):Option Nat:=nodes.findIdx? (fun e=>decide (e.1.toList=p.toList))
def kindP (nodes:List Ent)(p:ByteArray):Int:=if p.toList = [] then 2 else match findP nodes p with | some i=>((nodes[i]?).map (·.2.1)).getD 0 | none=>0
theorem nfind_any (a:Option Addr)(m c:Nat)(nodes:List Ent)(p:ByteArray)(w:World)(hl:ListedR w a m nodes)(hm:m<=1000000000):
  Calls prog 106 #[.slice a m c,.string p] w fun e w'=>e=.returned (.int .i64 (placeI (findP nodes p)))/\w'=w:=by
 have HL:Hid (ListedR w a m nodes):=hl;clear hl;go_enter func106,ntmps106;go_wp2
 go_loopw [5] (fun i wr=>∃k:Nat,k<=m/\i=.int .i64 k/\wr=w/\Hid (∀j (hj:j<nodes.length),j<k->decide (nodes[j].1.toList=p.toList)=false)) (fun i _=>m-(intOf i).toNat)
 case atStart=>exact⟨0,zzF _,rfl,rfl,fun j hj h=>by omega⟩
 case round=>
  obtain⟨k,hk,rfl,rfl,HV⟩:=hrel;by_cases hkl:k<m
  ·have hkn:k<nodes.length:=by rw[HL.out.1];exact hkl
   obtain⟨b,off,ha,hbl,hc⟩:=HL.out.2 (by omega);obtain⟨c0,_,_⟩:=row_cells hc hkn;subst ha;have hkm:(k:Int)<(m:Int):=by omega
   clear hc;by_cases he:nodes[k].1.toList=p.toList
   ·have HE:Hid (nodes[k].1.toList=p.toList):=he
    have he':(nodes[k].1.toList == p.toList)=true:=by rw[he];exact beq_self_eq_true _
    clear he;go_wp2;go_ret;refine⟨?_,rfl⟩;have e:findP nodes p=some k:=List.findIdx?_eq_some_iff_getElem.2 ⟨hkn,decide_eq_true HE.out,fun j hj=>by have:=HV.out j (by omega) hj;simp[this]⟩;rw[e];rfl
   ·have HE:Hid (decide (nodes[k].1.toList=p.toList)=false):=zzE he
    have he':(nodes[k].1.toList == p.toList)=false:=beq_eq_false_iff_ne.2 he;clear he;go_wp2;go_roundw
    case rel=>
     refine⟨k+1,by omega,by go_num,by trivial,fun j hj hjk=>?_⟩;by_cases e:j=k
     ·subst e;exact HE.out
     ·exact HV.out j hj (by omega)
    case measure=>simp[intOf];omega
  ·go_wp2
   go_ret;refine⟨?_,rfl⟩;have e:findP nodes p=none:=List.findIdx?_eq_none_iff.2 fun x hx=>by
    obtain⟨j,hj,rfl⟩:=List.getElem_of_mem hx;exact HV.out j hj (by have:=HL.out.1;omega)
   rw[e];rfl
theorem skind_any (h:StAt F w S na da nc dc nodes data rest)(p:ByteArray)(hbig:nodes.length<=1000000000):
  Calls prog 155 #[.pointer (some ⟨S,0,none⟩),.string p] w fun e w'=>e=.returned (.int .i64 (kindP nodes p))/\w'=w:=by
 have k0:=h.c0;have hlt:=h.lt;have hf:=nfind_any na nodes.length nc nodes p w (listed_of_owns h.rowN) hbig;have HR:Hid (w.ownsRow 0 200 3 (.slice na nodes.length nc) nodes.length (flat nodes)):=h.rowN;have HF:Hid _:=hf;obtain⟨n,hn⟩:∃n,n=nodes.length:=⟨_,rfl⟩;have HNN:Hid (n=nodes.length):=hn;rw[<-hn] at k0 HF hbig;clear h hf;by_cases hp:p.toList = []
 ·have HE:Hid (kindP nodes p=2):=by show _=_;unfold kindP;rw[zzD hp]
  have hp':(p.toList == [])=true:=by rw[hp];rfl
  clear hp;rw[HE.out];clear hn;go_enter func155,ntmps155;go_wp2;go_ret;exact⟨rfl,rfl⟩
 ·have hp':(p.toList == [])=false:=beq_eq_false_iff_ne.2 hp
  cases hfi:findP nodes p with
  | none=>
   have HE:Hid (kindP nodes p=0):=by show _=_;unfold kindP;rw[zzB hp,hfi]
   rw[hfi] at HF;have HF':Hid (Calls prog 106 #[.slice na n nc,.string p] w fun e w'=>e=.returned (.int .i64 (-1))/\w'=w):=HF.out;rw[HE.out];clear hn hfi HF hp;go_enter func155,ntmps155;go_wp2_with (go_at_call 106;refine Calls.mono HF'.out ?_;rintro _ _ ⟨rfl,rfl⟩);go_ret;exact⟨rfl,rfl⟩
  | some i=>
   have hi:i<nodes.length:=(List.findIdx?_eq_some_iff_getElem.1 hfi).1;have HE:Hid (kindP nodes p=nodes[i].2.1):=by show _=_;unfold kindP;rw[zzB hp,hfi];simp[hi]
   rw[hfi] at HF;have HF':Hid (Calls prog 106 #[.slice na n nc,.string p] w fun e w'=>e=.returned (.int .i64 (i:Int))/\w'=w):=HF.out;rw[HE.out];obtain⟨g,c',hv⟩:=slice_of_owns HR.out (by omega);have ha:=(Value.slice.inj hv).1;subst ha;obtain⟨_,c1,_⟩:=row_cells (off:=0) (owns_cells HR.out) hi;rw[Nat.zero_add] at c1;have hgl:=ownsRow_lt HR.out rfl;have hin:(i:Int)<(n:Int):=by omega
   have hi0:decide ((i:Int)<0)=false:=zzE (by omega);clear hn hfi HF hv hp;go_enter func155,ntmps155;go_wp2_with (go_at_call 106;refine Calls.mono HF'.out ?_;rintro _ _ ⟨rfl,rfl⟩);go_ret;exact⟨rfl,rfl⟩
end
def wayAt (nodes:List Ent)(l:List ByteArray)(i:Nat):Option Int:=if kindP nodes (joinP (l.take i))≠2 then some 5 else if kindP nodes (joinP (l.take (i+1)))=0 then some 4 else none
def wayP (nodes:List Ent)(l:List ByteArray):Int:=((List.range l.length).findSome? (wayAt nodes l)).getD 0
theorem way_none {nodes:List Ent}{l:List ByteArray}(h:∀j,j<l.length->wayAt nodes l j=none):wayP nodes l=0:=by
 unfold wayP;rw[List.findSome?_eq_none_iff.2 (fun j hj=>h j (List.mem_range.1 hj))];rfl
theorem way_some {nodes:List Ent}{l:List ByteArray}{k:Nat}{e:Int}(hk:k<l.length)(h:∀j,j<k->wayAt nodes l j=none)(he:wayAt nodes l k=some e):wayP nodes l=e:=by
 unfold wayP;have e1:List.range l.length=List.range k++k :: (List.range (l.length-k-1)).map (k+1 + ·):=by
  have h1:=@List.range_add k (l.length-k);rw[show k+(l.length-k)=l.length by omega] at h1;rw[h1,show l.length-k=l.length-k-1+1 by omega,List.range_succ_eq_map,List.map_cons,List.map_map];simp only[Nat.add_zero,Nat.add_sub_cancel]
  congr 2
  refine List.map_congr_left fun x _=>?_;simp only[Function.comp];omega
 rw[e1,List.findSome?_append,List.findSome?_eq_none_iff.2 (fun j hj=>h j (List.mem_range.1 hj))];simp[he]
section
variable {F:Nat->Prop}{w:World}{S:Nat}{na da:Option Addr}{nc dc:Nat}{nodes:List Ent}{data:List ByteArray}{rest:List Value}
theorem way_any (h:StAt F w S na da nc dc nodes data rest)(a:Option Addr)(m c:Nat)(l:List ByteArray)(hl:ListedS w a m l)(hx:∀x ∈ l,x.size<=12)(hm:m<=2097152)(hc:m<=c)(hbig:nodes.length<=1000000000):
  Calls prog 153 #[.pointer (some ⟨S,0,none⟩),.slice a m c] w fun e w'=>e=.returned (.int .i64 (wayP nodes l))/\w'=w:=by
 have HL:Hid (ListedS w a m l):=hl;have HK:Hid (∀p,Calls prog 155 #[.pointer (some ⟨S,0,none⟩),.string p] w fun e w'=>e=.returned (.int .i64 (kindP nodes p))/\w'=w):=fun p=>skind_any h p hbig;have HJ:Hid (∀k,k<=m->Calls prog 202 #[.slice a k c] w fun e w'=>e=.returned (.string (joinP (l.take k)))/\w'=w):=fun k hk=>join_any a k c (l.take k) w (hl.take k hk) (fun x hx'=>hx x (List.mem_of_mem_take hx')) (by omega);clear hl hx h;go_enter func153,ntmps153;go_wp2
 go_loopw [5] (fun i wr=>∃k:Nat,k<=m/\i=.int .i64 (k:Int)/\wr=w/\Hid (∀j,j<k->wayAt nodes l j=none)) (fun i _=>m-(intOf i).toNat)
 case atStart=>exact⟨0,zzF _,rfl,rfl,fun j h=>by omega⟩
 case round=>
  obtain⟨k,hk,rfl,rfl,HV⟩:=hrel;by_cases hlt:k<m
  ·have hkl:k<l.length:=by rw[HL.out.1];exact hlt
   obtain⟨b,off,ha,hbl,_⟩:=HL.out.2 (by omega);subst ha;have hkm:(k:Int)<(m:Int):=by omega
   have HJ1:=HJ.out k (by omega);have HJ2:=HJ.out (k+1) (by omega);have HK1:=HK.out (joinP (l.take k));have HK2:=HK.out (joinP (l.take (k+1)));obtain⟨p1,hp1⟩:∃p1,p1=joinP (l.take k):=⟨_,rfl⟩;obtain⟨p2,hp2⟩:∃p2,p2=joinP (l.take (k+1)):=⟨_,rfl⟩;rw[<-hp1] at HJ1 HK1;rw[<-hp2] at HJ2 HK2;obtain⟨v1,hv1⟩:∃v1,v1=kindP nodes p1:=⟨_,rfl⟩;obtain⟨v2,hv2⟩:∃v2,v2=kindP nodes p2:=⟨_,rfl⟩;rw[<-hv1] at HK1;rw[<-hv2] at HK2;have HW:Hid (wayAt nodes l k=if v1≠2 then some 5 else if v2=0 then some 4 else none):=by show _=_;unfold wayAt;rw[hv1,hv2,hp1,hp2]
   have J1:Hid _:=HJ1;have J2:Hid _:=HJ2;have K1:Hid _:=HK1;have K2:Hid _:=HK2;have hkc:(k:Int)<=(c:Int):=by omega
   have hkc1:(k:Int)+1<=(c:Int):=by omega
   clear hp1 hp2 hv1 hv2 HJ1 HJ2 HK1 HK2;by_cases h1:v1=2
   ·have h1':(v1 != 2)=false:=by simp[h1]
    by_cases h2:v2=0
    ·have h2':(v2 == 0)=true:=by simp[h2]
     have HR:Hid (wayP nodes l=4):=way_some hkl HV.out (by rw[HW.out,zzB (by simp[h1]),zzD h2]);clear h1 h2;go_wp2_with fail;refine Calls.mono J1.out ?_;rintro _ _ ⟨rfl,rfl⟩;go_wp2_with fail;refine Calls.mono K1.out ?_;rintro _ _ ⟨rfl,rfl⟩;go_wp2_with fail;refine Calls.mono J2.out ?_;rintro _ _ ⟨rfl,rfl⟩;go_wp2_with fail;refine Calls.mono K2.out ?_;rintro _ _ ⟨rfl,rfl⟩;go_wp2;go_ret;exact⟨by rw[HR.out];rfl,rfl⟩
    ·have h2':(v2 == 0)=false:=by simp[h2]
     have HN:Hid (wayAt nodes l k=none):=by show _=_;rw[HW.out,zzB (by simp[h1]),zzB h2]
     clear h1 h2;go_wp2_with fail;refine Calls.mono J1.out ?_;rintro _ _ ⟨rfl,rfl⟩;go_wp2_with fail;refine Calls.mono K1.out ?_;rintro _ _ ⟨rfl,rfl⟩;go_wp2_with fail;refine Calls.mono J2.out ?_;rintro _ _ ⟨rfl,rfl⟩;go_wp2_with fail;refine Calls.mono K2.out ?_;rintro _ _ ⟨rfl,rfl⟩;go_wp2;go_roundw
     case rel=>
      refine⟨k+1,by omega,by go_num,by trivial,fun j hj=>?_⟩;by_cases e:j=k
      ·subst e;exact HN.out
      ·exact HV.out j (by omega)
     case measure=>simp[intOf];omega
   ·have h1':(v1 != 2)=true:=by simp[h1]
    have HR:Hid (wayP nodes l=5):=way_some hkl HV.out (by rw[HW.out,zzD h1]);clear h1;go_wp2_with fail;refine Calls.mono J1.out ?_;rintro _ _ ⟨rfl,rfl⟩;go_wp2_with fail;refine Calls.mono K1.out ?_;rintro _ _ ⟨rfl,rfl⟩;go_wp2;go_ret;exact⟨by rw[HR.out];rfl,rfl⟩
  ·have hnl:decide ((k:Int)<(m:Int))=false:=zzE (by omega)
   have HR:Hid (wayP nodes l=0):=way_none (fun j hj=>HV.out j (by have:=HL.out.1;omega));go_wp2;go_ret;exact⟨by rw[HR.out];rfl,rfl⟩
end
theorem split_valid (s:ByteArray):∀x ∈ (splitP s).1,validB x=true:=by
 unfold splitP;split
 ·intro x hx;cases hx
 ·split
  ·next h=>exact h
  ·intro x hx;cases hx
theorem split_small (s:ByteArray):∀x ∈ (splitP s).1,x.size<=12:=fun x hx=>(valid_size (split_valid s x hx)).2
theorem split_len (s:ByteArray):(splitP s).1.length<=s.size+1:=by
 unfold splitP;split
 ·exact zzF _
 ·split
  ·exact segs_len s _
  ·exact zzF _
def insideP (p d:ByteArray):Bool:=decide (0<(splitP p).1.length) && ((joinP ((splitP p).1.take ((splitP p).1.length-1))).toList == d.toList)
theorem owns_capS {w:World}{b:Nat}{t:TypeId}{z:Nat}{a:Option Addr}{m c:Nat}{xs:List Value}(h:w.ownsRow b t z (.slice a m c) m xs):m<=c:=by
 rcases h.2 with ⟨e,h0⟩ | ⟨g,cap,_,e,_,_,h1,_⟩
 ·omega
 ·rw[(Value.slice.inj e).2.2];exact h1
theorem inside_anyR (p d:ByteArray)(w:World)(hp:p.size<=2097152):
  Calls prog 162 #[.string p,.string d] w fun e w'=>e=.returned (.bool (insideP p d))/\Below w.heap.size w w':=by
 have hsp:=split_any p w hp;have hsm:=split_small p;have hln:=split_len p;obtain⟨xs,hxs⟩:∃xs,xs=(splitP p).1:=⟨_,rfl⟩;have HI:Hid (insideP p d=(decide (0<xs.length) && ((joinP (xs.take (xs.length-1))).toList == d.toList))):=by show _=_;unfold insideP;rw[hxs]
 rw[<-hxs] at hsp hsm hln;have HX:Hid (∀x ∈ xs,x.size<=12):=hsm;obtain⟨n,hn⟩:∃n,n=xs.length:=⟨_,rfl⟩;rw[<-hn] at hsp hln HI;have HN:Hid (n=xs.length):=hn;have HSP:Hid _:=hsp;clear hsp hsm hxs hn;go_enter func162,ntmps162;go_wp2_with fail;refine Calls.mono HSP.out ?_;rintro _ w1 ⟨v,rfl,hown,hb⟩;obtain⟨al,cl,rfl⟩:=owns_form hown;have hcap:=owns_capS hown;have HO:Hid _:=hown;clear hown HSP;by_cases h0:0<n
 ·have h0':0<(n:Int):=by omega
  obtain⟨m,hm⟩:∃m:Nat,n=m+1:=⟨n-1,by omega⟩;have hj:=join_any al m cl (xs.take m) w1 (ListedS.take (listedS_of_owns HO.out) m (by omega)) (fun x hx=>HX.out x (List.mem_of_mem_take hx)) (by omega);have HJ:Hid _:=hj;obtain⟨g,c',hv⟩:=slice_of_owns HO.out h0;have ha:=(Value.slice.inj hv).1;subst ha;have HR:Hid (insideP p d=((joinP (xs.take m)).toList == d.toList)):=by show _=_;rw[HI.out,decide_eq_true h0,show n-1=m by omega];rfl
  have hmi:(n:Int)-1=(m:Int):=by omega
  have hmc:(m:Int)<=(cl:Int):=by omega
  clear hj hv hm;go_wp2_with fail;refine Calls.mono HJ.out ?_;rintro _ _ ⟨rfl,rfl⟩;go_wp2;go_ret;exact⟨by rw[HR.out];rfl,hb⟩
 ·have h0':decide (0<(n:Int))=false:=zzE (by omega)
  have HR:Hid (insideP p d=false):=by show _=_;rw[HI.out,zzE h0];rfl
  go_wp2;go_ret;exact⟨by rw[HR.out];rfl,hb⟩
def lastP (p:ByteArray):ByteArray:=(splitP p).1.getD ((splitP p).1.length-1) ⟨#[]⟩
def itemsP (nodes:List Ent)(d:ByteArray):List Ent:=(nodes.filter (fun e=>insideP e.1 d)).map (fun e=>(lastP e.1,0,0))
def namesP (nodes:List Ent)(d:ByteArray):List ByteArray:=(insAll (itemsP nodes d)).map (·.1)
theorem items_snoc_in {nodes:List Ent}{d:ByteArray}{k:Nat}(hk:k<nodes.length)(h:insideP nodes[k].1 d=true):itemsP (nodes.take (k+1)) d=itemsP (nodes.take k) d ++ [(lastP nodes[k].1,0,0)]:=by
 unfold itemsP;rw[zzI hk,List.filter_append,List.map_append];simp[h]
theorem items_snoc_out {nodes:List Ent}{d:ByteArray}{k:Nat}(hk:k<nodes.length)(h:insideP nodes[k].1 d=false):itemsP (nodes.take (k+1)) d=itemsP (nodes.take k) d:=by
 unfold itemsP;rw[zzI hk,List.filter_append,List.map_append];simp[h]
theorem items_small (nodes:List Ent)(d:ByteArray):∀e ∈ itemsP nodes d,e.1.size<=maxLen:=by
 intro e he;obtain⟨x,_,rfl⟩:=List.mem_map.1 he;show (lastP x.1).size<=maxLen;unfold lastP;rw[List.getD_eq_getElem?_getD];cases hx:(splitP x.1).1[(splitP x.1).1.length-1]? with
 | none=>exact zzF _
 | some y=>have:=split_small x.1 y (List.mem_of_getElem? hx);exact zzG this (by decide)
section
variable {F:Nat->Prop}{w:World}{S:Nat}{na da:Option Addr}{nc dc:Nat}{nodes:List Ent}{data:List ByteArray}{rest:List Value}
theorem names_any (h:StAt F w S na da nc dc nodes data rest)(d:ByteArray)(hbig:nodes.length<=1000000000)(hp:∀e ∈ nodes,e.1.size<=2097152)(h16:(itemsP nodes d).length<=16):
  Calls prog 156 #[.pointer (some ⟨S,0,none⟩),.string d] w fun e w'=>∃v,e=.returned v/\w'.ownsRow w.heap.size 9 1 v (namesP nodes d).length (encS (namesP nodes d))/\Below w.heap.size w w':=by
 obtain⟨iI,hI,hI0,hI1,hI2⟩:=info_parts infoItem;obtain⟨i0,hi,hz0,hz1,hz2⟩:=info_parts infoStrR;have HS:Hid (StAt F w S na da nc dc nodes data rest):=h;have HP:Hid (∀e ∈ nodes,e.1.size<=2097152):=hp;have H16:Hid ((itemsP nodes d).length<=16):=h16;obtain⟨n,hn⟩:∃n,n=nodes.length:=⟨_,rfl⟩;have HN:Hid (n=nodes.length):=hn;rw[<-hn] at hbig;clear h hp h16 hn;go_enter func156,ntmps156;go_wp2
 go_loopw [5,6] (fun l i wr=>∃(k q:Nat) (al:Option Addr) (cl:Nat),k<=n/\i=.int .i64 (k:Int)/\l=.slice al q cl/\q<=k/\Below w.heap.size w wr/\Hid (q=(itemsP (nodes.take k) d).length)/\Hid (wr.ownsRow w.heap.size 112 3 (.slice al q cl) q (flat (itemsP (nodes.take k) d)))) (fun _ i _=>n-(intOf i).toNat)
 case atStart=>exact⟨0,0,none,0,zzF _,rfl,rfl,zzC _,Below.refl _ _,rfl,World.ownsRow_nil _ _ _ _⟩
 case round=>
  obtain⟨k,q,al,cl,hk,rfl,rfl,hqk,hb,HQ,HO⟩:=hrel;have hst:=HS.out.below hb;have k0:=hst.c0;have hSl:=hst.lt;rw[<-HN.out] at k0;have hsz:=hb.size;by_cases hlt:k<n
  ·have hkn:k<nodes.length:=by rw[<-HN.out];exact hlt
   have hrow:=hst.rowN;obtain⟨g,c',hv⟩:=slice_of_owns hrow (by omega);have ha:=(Value.slice.inj hv).1;subst ha;obtain⟨c0,_,_⟩:=row_cells (off:=0) (owns_cells hrow) hkn;rw[Nat.zero_add] at c0;have hgl:=ownsRow_lt hrow rfl;have hpk:=HP.out _ (zzJ hkn);obtain⟨p,hpp⟩:∃p,p=nodes[k].1:=⟨_,rfl⟩;rw[<-hpp] at c0 hpk;have hin:=inside_anyR p d wr hpk;have hkm:(k:Int)<(n:Int):=by omega
   cases hi':insideP p d with
   | false=>
    rw[hi'] at hin;have HIN:Hid _:=hin;have HIT:Hid (itemsP (nodes.take (k+1)) d=itemsP (nodes.take k) d):=items_snoc_out hkn (by rw[<-hpp];exact hi');clear hin hi' hpp hv hrow hst;go_wp2_with fail;refine Calls.mono HIN.out ?_;rintro _ w2 ⟨rfl,hb2⟩;have hbw:Below w.heap.size w w2:=hb.trans (hb2.mono hsz);have HO2:Hid (w2.ownsRow w.heap.size 112 3 (.slice al q cl) q (flat (itemsP (nodes.take (k+1)) d))):=by show World.ownsRow _ _ _ _ _ _ _;rw[HIT.out];exact ownsRow_keep HO.out (fun g hg=>hb2.block g (ownsRow_lt HO.out hg))
    go_wp2;go_roundw
    case rel=>exact⟨k+1,q,al,cl,by omega,by go_num,rfl,by omega,hbw,by show _=_;rw[HIT.out];exact HQ.out,HO2.out⟩
    case measure=>simp[intOf];omega
   | true=>
    rw[hi'] at hin;have HIN:Hid _:=hin;have HIT:Hid (itemsP (nodes.take (k+1)) d=itemsP (nodes.take k) d ++ [(lastP p,0,0)]):=by show _=_;rw[items_snoc_in hkn (by rw[<-hpp];exact hi'),hpp]
    have h0:0<(splitP p).1.length:=by unfold insideP at hi';rw[Bool.and_eq_true] at hi';exact of_decide_eq_true hi'.1
    have HST:Hid (StAt F wr S (some ⟨g,0,none⟩) da nc dc nodes data rest):=hst;clear hin hi' hpp hv hrow hst;go_wp2_with fail;refine Calls.mono HIN.out ?_;rintro _ w2 ⟨rfl,hb2⟩;have hbw:Below w.heap.size w w2:=hb.trans (hb2.mono hsz);have k02:=(hb2.cell (p:=⟨S,0,none⟩) hSl).trans k0;have c02:=(hb2.cell (p:=⟨g,k*3,none⟩) hgl).trans c0;have hsz2:=hb2.size;have HSP:Hid _:=split_any p w2 hpk;go_wp2_with fail;refine Calls.mono HSP.out ?_;rintro _ w3 ⟨v,rfl,hown3,hb3⟩;obtain⟨asl,csl,rfl⟩:=owns_form hown3;obtain⟨gs,c'',hv⟩:=slice_of_owns hown3 h0;have ha:=(Value.slice.inj hv).1;subst ha;obtain⟨m,hm⟩:∃m:Nat,(splitP p).1.length=m+1:=⟨(splitP p).1.length-1,by omega⟩;have HLAST:Hid (lastP p=(splitP p).1[m]):=by show _=_;unfold lastP;rw[List.getD_eq_getElem?_getD,show (splitP p).1.length-1=m by omega,zzH (by omega)];rfl
    obtain⟨g',e',hgs,cs0,_⟩:=row_one (owns_mono hown3 (zzF _)) (i:=m) (v:=.string (lastP p)) (by rw[HLAST.out];simp[encS,hm]);cases e';obtain⟨y,hy⟩:∃y,y=lastP p:=⟨_,rfl⟩;rw[<-hy] at cs0;have HY:Hid (y=lastP p):=hy;obtain⟨sl,hsl⟩:∃sl,sl=(splitP p).1.length:=⟨_,rfl⟩;have hslm:sl=m+1:=by omega
    have hslb:sl<=2097153:=by have:=split_len p;omega
    rw[<-hsl];have hmi:(sl:Int)-1=(m:Int):=by omega
    have hms:(m:Int)<(sl:Int):=(by omega);have HO3:Hid (w3.ownsRow w.heap.size 112 3 (.slice al q cl) q (flat (itemsP (nodes.take k) d))):=ownsRow_keep HO.out (fun x hx=>by have:=ownsRow_lt HO.out hx;rw[hb3.block x (by omega),hb2.block x this]);have hbw3:Below w.heap.size w w3:=hbw.trans (hb3.mono (by omega));have hsz3:=hb3.size;clear HLAST hown3 hv hm hy hsl hslm HSP HIN;go_wp2_with (at_builtin;refine wpList_append_own _ rfl (.tmp 44) (.tmp 52) 106 rfl w.heap.size 112 iI _ 3 32 underlying106 hI hI0 hI1 hI2 rfl (by decide) _ _ _ rfl (HO3.out.alloc _) ⟨w3.heap.size,0,none⟩ 1 1 (encE (y,0,0)) rfl rfl (item_cells w3 (y,0,0) _ _ rfl) (encE_one _) (by unfold maxLen;omega) (by omega) (by simp;omega) ?_);intro v' w4 hown' hgrow _;have hb4:Below w.heap.size w w4:=grown_own (hbw3.alloc (by omega) _) (by simp;omega) (HO3.out.alloc _) hgrow;obtain⟨al',cl',rfl⟩:=owns_form hown';have HO4:Hid (w4.ownsRow w.heap.size 112 3 (.slice al' (q+1) cl') (q+1) (flat (itemsP (nodes.take (k+1)) d))):=by show World.ownsRow _ _ _ _ _ _ _;rw[HIT.out,flat_appendR,flat_one_item,<-HY.out];exact hown'
    clear hown' hgrow;go_wp2;go_roundw
    case rel=>exact⟨k+1,q+1,al',cl',by omega,by go_num,rfl,by omega,hb4,by show _=_;rw[HIT.out,HQ.out];simp,HO4.out⟩
    case measure=>simp[intOf];omega
  ·have hkk:k=n:=by omega
   have HT:Hid (nodes.take k=nodes):=List.take_of_length_le (by have:=HN.out;omega);rw[HT.out] at HQ HO;have hq16:q<=16:=by have:=H16.out;rw[<-HQ.out] at this;exact this
   have hso:=sorted_gen al q cl (itemsP nodes d) wr (listed_of_owns HO.out) hq16 (items_small nodes d);have HSO:Hid _:=hso;have hnl:decide ((k:Int)<(n:Int))=false:=zzE (by omega);rename World=>w5;clear hso hst hkk;go_wp2_with fail;refine Calls.mono HSO.out ?_;rintro _ w6 ⟨v,rfl,hown6,hb6⟩;obtain⟨asl,csl,rfl⟩:=owns_form hown6;have HO6:Hid _:=hown6;have hb6w:Below w.heap.size w w6:=hb.trans (hb6.mono hsz);have hsz6:=hb6.size;clear hown6 HSO;obtain⟨xs,hxs⟩:∃xs,xs=insAll (itemsP nodes d):=⟨_,rfl⟩;rw[<-hxs] at HO6;have HXS:Hid (namesP nodes d=xs.map (·.1)):=by show _=_;unfold namesP;rw[hxs]
   have HXL:Hid (xs.length=q):=by show _=_;have:=HO6.out.1;rw[flat_len] at this;omega
   clear hxs;go_wp2
   go_loopw [10,11] (fun o i wr=>∃(j:Nat) (ao:Option Addr) (co:Nat),j<=q/\i=.int .i64 (j:Int)/\o=.slice ao j co/\Below w6.heap.size w6 wr/\Hid (wr.ownsRow w6.heap.size 9 1 (.slice ao j co) j (encS ((xs.take j).map (·.1))))) (fun _ i _=>q-(intOf i).toNat)
   case atStart=>exact⟨0,none,0,zzF _,rfl,rfl,Below.refl _ _,World.ownsRow_nil _ _ _ _⟩
   case round=>
    obtain⟨j,ao,co,hj,rfl,rfl,hbr,HOO⟩:=hrel;have hszr:=hbr.size;by_cases hjl:j<q
    ·have hjx:j<xs.length:=by rw[HXL.out];exact hjl
     obtain⟨gx,cx,hvx⟩:=slice_of_owns HO6.out (by omega);have hax:=(Value.slice.inj hvx).1;subst hax;have hgx:gx<w6.heap.size:=ownsRow_lt HO6.out rfl;obtain⟨x0,_,_⟩:=row_cells (off:=0) (owns_cells HO6.out) hjx;rw[Nat.zero_add] at x0;have x0r:=(hbr.cell (p:=⟨gx,j*3,none⟩) hgx).trans x0;have hgxr:gx<wr.heap.size:=by omega
     obtain⟨y,hy⟩:∃y,y=xs[j].1:=⟨_,rfl⟩;rw[<-hy] at x0r;have HY:Hid (y=xs[j].1):=hy;have hjq:(j:Int)<(q:Int):=by omega
     clear x0 hvx hy;go_wp2_with (at_builtin;refine wpList_append_own _ rfl (.tmp 62) (.tmp 68) 131 rfl w6.heap.size 9 i0 _ 1 16 underlying131 hi hz0 hz1 hz2 rfl (by decide) _ _ _ rfl (HOO.out.alloc _) ⟨wr.heap.size,0,none⟩ 1 1 [.string y] rfl rfl (one_cell _ _ _ _ rfl) one_str (by unfold maxLen;omega) (by omega) (by simp;omega) ?_);intro v' w7 hown' hgrow _;have hb7:Below w6.heap.size w6 w7:=grown_own (hbr.alloc hszr _) (by simp;omega) (HOO.out.alloc _) hgrow;obtain⟨ao',co',rfl⟩:=owns_form hown';have HO7:Hid (w7.ownsRow w6.heap.size 9 1 (.slice ao' (j+1) co') (j+1) (encS ((xs.take (j+1)).map (·.1)))):=by
      show World.ownsRow _ _ _ _ _ _ _;rw[zzI hjx,List.map_append,encS,List.map_append,List.map_cons,List.map_nil,List.map_cons,List.map_nil,<-HY.out,List.map_take];exact hown'
     clear hown' hgrow;go_wp2;go_roundw
     case rel=>exact⟨j+1,ao',co',by omega,by go_num,rfl,hb7,HO7.out⟩
     case measure=>simp[intOf];omega
    ·have hnl2:decide ((j:Int)<(q:Int))=false:=zzE (by omega)
     have HJQ:Hid (j=q):=by show _=_;omega
     have HTT:Hid ((xs.take j).map (·.1)=namesP nodes d):=by show _=_;rw[HXS.out,List.take_of_length_le (by rw[HXL.out];omega)]
     have HLN:Hid ((namesP nodes d).length=j):=by show _=_;rw[HXS.out,List.length_map,HXL.out,HJQ.out]
     go_wp2;go_ret;refine⟨.slice ao j co,rfl,?_,hb6w.trans (hbr.mono (by omega))⟩;rw[HLN.out,<-HTT.out];exact owns_mono HOO.out (by omega)
end
structure FineN (nodes:List Ent)(data:List ByteArray):Prop where
 big:nodes.length<=1000000000
 small:∀e ∈ nodes,e.1.size<=2097152
 few:∀d,(itemsP nodes d).length<=16
 files:∀e ∈ nodes,e.2.1=1->0<=e.2.2/\e.2.2<(data.length:Int)
theorem insAll_len (ls:List Ent):(insAll ls).length=ls.length:=(insAll_perm ls).length_eq
theorem names_len (nodes:List Ent)(d:ByteArray):(namesP nodes d).length=(itemsP nodes d).length:=by
 unfold namesP;rw[List.length_map,insAll_len]
def upP (nodes:List Ent)(l:List ByteArray):Int:=
 if wayP nodes (l.take (l.length-1))≠0 then wayP nodes (l.take (l.length-1)) else if kindP nodes (joinP (l.take (l.length-1)))≠2 then 5 else 0
def listP (nodes:List Ent)(p:ByteArray):List ByteArray×Int:=
 if (splitP p).2=false then ([],1) else if wayP nodes (splitP p).1≠0 then ([],wayP nodes (splitP p).1) else if kindP nodes p≠2 then ([],5) else (namesP nodes p,0)
section
variable {F:Nat->Prop}{w:World}{S:Nat}{na da:Option Addr}{nc dc:Nat}{nodes:List Ent}{data:List ByteArray}{rest:List Value}
theorem many_any (h:StAt F w S na da nc dc nodes data rest)(hf:FineN nodes data)(d:ByteArray):
  Calls prog 154 #[.pointer (some ⟨S,0,none⟩),.string d] w fun e w'=>e=.returned (.int .i64 ((itemsP nodes d).length:Int))/\Below w.heap.size w w':=by
 have hn:=names_any h d hf.big hf.small (hf.few d);rw[names_len] at hn;obtain⟨n,hnn⟩:∃n,n=(itemsP nodes d).length:=⟨_,rfl⟩;rw[<-hnn] at hn ⊢;have HN:Hid _:=hn;clear hn h hf hnn;go_enter func154,ntmps154;go_wp2_with fail;refine Calls.mono HN.out ?_;rintro _ w1 ⟨v,rfl,hown,hb⟩;obtain⟨al,cl,rfl⟩:=owns_form hown;clear hown;go_wp2;go_ret;exact⟨rfl,hb⟩
theorem up_any (h:StAt F w S na da nc dc nodes data rest)(hf:FineN nodes data)(a:Option Addr)(m c:Nat)(l:List ByteArray)(hl:ListedS w a m l)(hx:∀x ∈ l,x.size<=12)(hm:m<=2097152)(h0:0<m)(hc:m<=c):
  Calls prog 158 #[.pointer (some ⟨S,0,none⟩),.slice a m c] w fun e w'=>e=.returned (.tuple #[.string (joinP (l.take (l.length-1))),.int .i64 (upP nodes l)])/\w'=w:=by
 obtain⟨b,off,ha,hbl,_⟩:=hl.2 h0;subst ha;obtain⟨k,hk⟩:∃k:Nat,m=k+1:=⟨m-1,by omega⟩;have hj:=join_any (some ⟨b,off,none⟩) k c (l.take k) w (hl.take k (by omega)) (fun x hx'=>hx x (List.mem_of_mem_take hx')) (by omega);have hw:=way_any h (some ⟨b,off,none⟩) k c (l.take k) (hl.take k (by omega)) (fun x hx'=>hx x (List.mem_of_mem_take hx')) (by omega) (by omega) hf.big;have hkd:=skind_any h (joinP (l.take k)) hf.big;have hlk:l.length-1=k:=by have:=hl.1;omega
 have HU:Hid (upP nodes l=if wayP nodes (l.take k)≠0 then wayP nodes (l.take k) else if kindP nodes (joinP (l.take k))≠2 then 5 else 0):=by show _=_;unfold upP;rw[hlk]
 rw[hlk];obtain⟨p,hp⟩:∃p,p=joinP (l.take k):=⟨_,rfl⟩;obtain⟨e,he⟩:∃e,e=wayP nodes (l.take k):=⟨_,rfl⟩;rw[<-hp] at hj hkd HU ⊢;obtain⟨v,hv⟩:∃v,v=kindP nodes p:=⟨_,rfl⟩;rw[<-he] at hw HU;rw[<-hv] at hkd HU;have HJ:Hid _:=hj;have HW:Hid _:=hw;have HK:Hid _:=hkd;have hmi:(m:Int)-1=(k:Int):=by omega
 have hkc:(k:Int)<=(c:Int):=by omega
 clear hj hw hkd hp he hv hlk hl hx h hf hk;by_cases h1:e=0
 ·have h1':(e != 0)=false:=by simp[h1]
  by_cases h2:v=2
  ·have h2':(v != 2)=false:=by simp[h2]
   have HR:Hid (upP nodes l=0):=by show _=_;rw[HU.out,zzB (by simp[h1]),zzB (by simp[h2])]
   clear h1 h2;go_enter func158,ntmps158;go_wp2_with fail;refine Calls.mono HJ.out ?_;rintro _ _ ⟨rfl,rfl⟩;go_wp2_with fail;refine Calls.mono HW.out ?_;rintro _ _ ⟨rfl,rfl⟩;go_wp2_with fail;refine Calls.mono HK.out ?_;rintro _ _ ⟨rfl,rfl⟩;go_wp2;go_ret2;exact⟨by rw[HR.out];rfl,rfl⟩
  ·have h2':(v != 2)=true:=by simp[h2]
   have HR:Hid (upP nodes l=5):=by show _=_;rw[HU.out,zzB (by simp[h1]),zzD h2]
   clear h1 h2;go_enter func158,ntmps158;go_wp2_with fail;refine Calls.mono HJ.out ?_;rintro _ _ ⟨rfl,rfl⟩;go_wp2_with fail;refine Calls.mono HW.out ?_;rintro _ _ ⟨rfl,rfl⟩;go_wp2_with fail;refine Calls.mono HK.out ?_;rintro _ _ ⟨rfl,rfl⟩;go_wp2;go_ret2;exact⟨by rw[HR.out];rfl,rfl⟩
 ·have h1':(e != 0)=true:=by simp[h1]
  have HR:Hid (upP nodes l=e):=by show _=_;rw[HU.out,zzD h1]
  clear h1;go_enter func158,ntmps158;go_wp2_with fail;refine Calls.mono HJ.out ?_;rintro _ _ ⟨rfl,rfl⟩;go_wp2_with fail;refine Calls.mono HW.out ?_;rintro _ _ ⟨rfl,rfl⟩;go_wp2;go_ret2;exact⟨by rw[HR.out];rfl,rfl⟩
theorem split_ok_len {s:ByteArray}(h:(splitP s).2=true):(splitP s).1.length<=5:=by
 unfold splitP at h ⊢;split at h
 ·next h0=>rw[zzD h0];exact zzF _
 ·next h0=>
  rw[zzB h0];split at h
  ·next h1=>rw[zzD h1];exact of_decide_eq_true h
  ·cases h
theorem slist_any (h:StAt F w S na da nc dc nodes data rest)(hf:FineN nodes data)(p:ByteArray)(hp:p.size<=2097152):
  Calls prog 91 #[.pointer (some ⟨S,0,none⟩),.string p] w fun e w'=>∃v,e=.returned (.tuple #[v,.int .i64 (listP nodes p).2])/\w'.ownsRow w.heap.size 9 1 v (listP nodes p).1.length (encS (listP nodes p).1)/\Below w.heap.size w w':=by
 have hsp:=split_any p w hp;have HX:=split_small p;cases hok:(splitP p).2 with
 | false=>
  have HR:Hid (listP nodes p=([],1)):=by show _=_;unfold listP;rw[zzD hok]
  rw[hok] at hsp;have HSP:Hid _:=hsp;clear hsp hok h hf;go_enter func91,ntmps91;go_wp2_with fail;refine Calls.mono HSP.out ?_;rintro _ w1 ⟨v,rfl,hown,hb⟩;clear hown;go_wp2;go_ret2;rw[HR.out];exact⟨_,rfl,World.ownsRow_nil _ _ _ _,hb⟩
 | true=>
  have h5:=split_ok_len hok;rw[hok] at hsp;obtain⟨xs,hxs⟩:∃xs,xs=(splitP p).1:=⟨_,rfl⟩;have HL:Hid (listP nodes p=if wayP nodes xs≠0 then ([],wayP nodes xs) else if kindP nodes p≠2 then ([],5) else (namesP nodes p,0)):=by show _=_;unfold listP;rw[zzB (by rw[hok];decide),hxs]
  rw[<-hxs] at hsp HX h5;have HXX:Hid (∀x ∈ xs,x.size<=12):=HX;have HST:Hid (StAt F w S na da nc dc nodes data rest):=h;have HF:Hid (FineN nodes data):=hf;obtain⟨n,hn⟩:∃n,n=xs.length:=⟨_,rfl⟩;rw[<-hn] at hsp h5;have HSP:Hid _:=hsp;clear hsp hok hxs HX h hf hn;go_enter func91,ntmps91;go_wp2_with fail;refine Calls.mono HSP.out ?_;rintro _ w1 ⟨v,rfl,hown,hb⟩;obtain⟨al,cl,rfl⟩:=owns_form hown;have hcap:=owns_capS hown;have hst1:=HST.out.below hb;have hw:=way_any hst1 al n cl xs (listedS_of_owns hown) HXX.out (by omega) hcap HF.out.big;have hkd:=skind_any hst1 p HF.out.big;have hna:=names_any hst1 p HF.out.big HF.out.small (HF.out.few p);obtain⟨e,he⟩:∃e,e=wayP nodes xs:=⟨_,rfl⟩;obtain⟨kd,hkk⟩:∃kd,kd=kindP nodes p:=⟨_,rfl⟩;rw[<-he] at hw HL;rw[<-hkk] at hkd HL;have HW:Hid _:=hw;have HK:Hid _:=hkd;have HNA:Hid _:=hna;have hbs:=hb.size;clear hw hkd hna he hkk hown hst1 HSP;by_cases h1:e=0
  ·have h1':(e != 0)=false:=by simp[h1]
   by_cases h2:kd=2
   ·have h2':(kd != 2)=false:=by simp[h2]
    have HR:Hid (listP nodes p=(namesP nodes p,0)):=by show _=_;rw[HL.out,zzB (by simp[h1]),zzB (by simp[h2])]
    clear h1 h2;go_wp2_with fail;refine Calls.mono HW.out ?_;rintro _ _ ⟨rfl,rfl⟩;go_wp2_with fail;refine Calls.mono HK.out ?_;rintro _ _ ⟨rfl,rfl⟩;go_wp2_with fail;refine Calls.mono HNA.out ?_;rintro _ w2 ⟨v,rfl,hown2,hb2⟩;have HO2:Hid _:=hown2;clear hown2;go_wp2;go_ret2;rw[HR.out];exact⟨v,rfl,owns_mono HO2.out hbs,hb.trans (hb2.mono hbs)⟩
   ·have h2':(kd != 2)=true:=by simp[h2]
    have HR:Hid (listP nodes p=([],5)):=by show _=_;rw[HL.out,zzB (by simp[h1]),zzD h2]
    clear h1 h2;go_wp2_with fail;refine Calls.mono HW.out ?_;rintro _ _ ⟨rfl,rfl⟩;go_wp2_with fail;refine Calls.mono HK.out ?_;rintro _ _ ⟨rfl,rfl⟩;go_wp2;go_ret2;rw[HR.out];exact⟨_,rfl,World.ownsRow_nil _ _ _ _,hb⟩
  ·have h1':(e != 0)=true:=by simp[h1]
   have HR:Hid (listP nodes p=([],e)):=by show _=_;rw[HL.out,zzD h1]
   clear h1;go_wp2_with fail;refine Calls.mono HW.out ?_;rintro _ _ ⟨rfl,rfl⟩;go_wp2;go_ret2;rw[HR.out];exact⟨_,rfl,World.ownsRow_nil _ _ _ _,hb⟩
end
def underP (p t:ByteArray):Bool:=if h:t.size+1<p.size then ((p.extract 0 t.size).toList == t.toList) && decide (p[t.size]'(by omega)=47) else false
def goneP (nodes:List Ent)(p:ByteArray):List Ent:=nodes.filter (fun e=>!(e.1.toList == p.toList) && !(underP e.1 p))
theorem under_any (p t:ByteArray)(w:World)(hp:p.size<=2097152)(ht:t.size<=2097152):
  Calls prog 161 #[.string p,.string t] w fun e w'=>e=.returned (.bool (underP p t))/\w'=w:=by
 by_cases h1:t.size+1<p.size
 ·have h1':(t.size:Int)+1<(p.size:Int):=by omega
  have hle:(t.size:Int)<=(p.size:Int):=by omega
  have hlt:(t.size:Int)<(p.size:Int):=by omega
  have hltn:t.size<p.size:=by omega
  cases h2:((p.extract 0 t.size).toList == t.toList) with
  | true=>
   by_cases h3:p[t.size]=47
   ·have h3':((p[t.size].toNat:Int) == 47)=true:=by rw[h3];rfl
    have HR:Hid (underP p t=true):=by show _=_;unfold underP;rw[dif_pos h1,h2,decide_eq_true h3];rfl
    clear h3;go_enter func161,ntmps161;go_wp2;go_ret;exact⟨by rw[HR.out];rfl,rfl⟩
   ·have h3':((p[t.size].toNat:Int) == 47)=false:=beq_eq_false_iff_ne.2 fun e=>h3 (UInt8.toNat_inj.1 (by have:(47:UInt8).toNat=47:=rfl;omega))
    have HR:Hid (underP p t=false):=by show _=_;unfold underP;rw[dif_pos h1,h2,zzE h3];rfl
    clear h3;go_enter func161,ntmps161;go_wp2;go_ret;exact⟨by rw[HR.out];rfl,rfl⟩
  | false=>
   have HR:Hid (underP p t=false):=by show _=_;unfold underP;rw[dif_pos h1,h2];rfl
   go_enter func161,ntmps161;go_wp2;go_ret;exact⟨by rw[HR.out];rfl,rfl⟩
 ·have h1':decide ((t.size:Int)+1<(p.size:Int))=false:=zzE (by omega)
  have HR:Hid (underP p t=false):=by show _=_;unfold underP;rw[dif_neg h1]
  go_enter func161,ntmps161;go_wp2;go_ret;exact⟨by rw[HR.out];rfl,rfl⟩
def StInv (F:Nat->Prop)(w:World)(S:Nat)(nodes:List Ent)(data:List ByteArray)(rest:List Value):Prop:=∃na nc da dc,StAt F w S na da nc dc nodes data rest
theorem gone_snoc_in {nodes:List Ent}{p:ByteArray}{k:Nat}(hk:k<nodes.length)(h:(!(nodes[k].1.toList == p.toList) && !(underP nodes[k].1 p))=true):goneP (nodes.take (k+1)) p=goneP (nodes.take k) p ++ [nodes[k]]:=by
 unfold goneP;rw[zzI hk,List.filter_append];simp only[List.filter_cons,h,if_true,List.filter_nil]
theorem gone_snoc_out {nodes:List Ent}{p:ByteArray}{k:Nat}(hk:k<nodes.length)(h:(!(nodes[k].1.toList == p.toList) && !(underP nodes[k].1 p))=false):goneP (nodes.take (k+1)) p=goneP (nodes.take k) p:=by
 unfold goneP;rw[zzI hk,List.filter_append];simp[h]
theorem infoNode:(prog.info? 200).map (fun i=>(i.zero,i.size,i.bytes))=some (some (.agg #[.string ByteArray.empty,.int .i64 0,.int .i64 0]),3,32):=by kernel_rfl
section
variable {F:Nat->Prop}{w:World}{S:Nat}{na da:Option Addr}{nc dc:Nat}{nodes:List Ent}{data:List ByteArray}{rest:List Value}
theorem StAt.setNodes (h:StAt F w S na da nc dc nodes data rest){wr:World}(hb:Below w.heap.size w wr){ao:Option Addr}{q co:Nat}{ns:List Ent}(hq:q=ns.length)(ho:wr.ownsRow w.heap.size 200 3 (.slice ao q co) q (flat ns)):
  StInv (NewF F w (wr.setCell ⟨S,0,none⟩ (.slice ao q co))) (wr.setCell ⟨S,0,none⟩ (.slice ao q co)) S ns data rest/\Keeps F w (wr.setCell ⟨S,0,none⟩ (.slice ao q co)):=by
 subst hq;have hSr:wr.heap[S]? = some (.cells (Value.slice na nodes.length nc :: Value.slice da data.length dc :: rest).toArray 179 (0,0)):=(hb.block S h.lt).trans h.hS;have hz:=hb.size;have hne:∀{t:TypeId} {b z n:Nat} {v:Value} {xs:List Value},wr.ownsRow b t z v n xs->179≠t->∀g,v.ownBlock=some g->g≠S:=fun hr ht g hg e=>owns_ne_cells hr hSr ht (by rw[<-e];exact hg.symm)
 refine⟨⟨ao,co,da,dc,⟨.inl h.fS,?_,?_,?_,?_,?_⟩⟩,⟨hb.os,hb.tape,hb.output,by simpa using hz,fun k hk hn=>?_⟩⟩
 ·simp[World.setCell,Array.getElem?_modify,hSr]
 ·exact owns_mono (ownsRow_keep ho (fun g hg=>Below.heap_setCell _ _ _ _ (hne ho (by decide) g hg))) (zzF _)
 ·have hd:=ownsRow_keep h.rowD (fun g hg=>hb.block g (ownsRow_lt h.rowD hg))
  exact ownsRow_keep hd (fun g hg=>Below.heap_setCell _ _ _ _ (hne hd (by decide) g hg))
 ·intro g hg
  have:=ho.lt g hg
  exact .inr ⟨this.1,by simpa using this.2⟩
 ·intro g hg;exact .inl (h.fd g hg)
 ·rw[Below.heap_setCell _ _ _ _ (fun e=>hn (by rw[show k=S from e];exact h.fS)),hb.block k hk]
theorem gone_any (h:StAt F w S na da nc dc nodes data rest)(hf:FineN nodes data)(p:ByteArray)(hp:p.size<=2097152):
  Calls prog 160 #[.pointer (some ⟨S,0,none⟩),.string p] w fun e w'=>e=.returned (.tuple #[])/\StInv (NewF F w w') w' S (goneP nodes p) data rest/\Keeps F w w':=by
 obtain⟨i0,hi,hz0,hz1,hz2⟩:=info_parts infoNode;have HS:Hid (StAt F w S na da nc dc nodes data rest):=h;have HF:Hid (FineN nodes data):=hf;obtain⟨n,hn⟩:∃n,n=nodes.length:=⟨_,rfl⟩;have HN:Hid (n=nodes.length):=hn;have hbig:n<=1000000000:=by rw[hn];exact hf.big
 clear h hf hn;go_enter func160,ntmps160;go_wp2
 go_loopw [4,5] (fun o i wr=>∃(k q:Nat) (ao:Option Addr) (co:Nat),k<=n/\i=.int .i64 (k:Int)/\o=.slice ao q co/\q<=k/\Below w.heap.size w wr/\Hid (q=(goneP (nodes.take k) p).length)/\Hid (wr.ownsRow w.heap.size 200 3 (.slice ao q co) q (flat (goneP (nodes.take k) p)))) (fun _ i _=>n-(intOf i).toNat)
 case atStart=>exact⟨0,0,none,0,zzF _,rfl,rfl,zzC _,Below.refl _ _,rfl,World.ownsRow_nil _ _ _ _⟩
 case round=>
  obtain⟨k,q,ao,co,hk,rfl,rfl,hqk,hb,HQ,HO⟩:=hrel;have hst:=HS.out.below hb;have k0:=hst.c0;have hSl:=hst.lt;rw[<-HN.out] at k0;have hsz:=hb.size;by_cases hlt:k<n
  ·have hkn:k<nodes.length:=by rw[<-HN.out];exact hlt
   have hrow:=hst.rowN;obtain⟨g,c',hv⟩:=slice_of_owns hrow (by omega);have ha:=(Value.slice.inj hv).1;subst ha;obtain⟨c0,c1,c2⟩:=row_cells (off:=0) (owns_cells hrow) hkn;rw[Nat.zero_add] at c0 c1 c2;have hgl:=ownsRow_lt hrow rfl;have hpk:=HF.out.small _ (zzJ hkn);obtain⟨x,hx⟩:∃x,x=nodes[k]:=⟨_,rfl⟩;rw[<-hx] at c0 c1 c2 hpk;have HX:Hid (x=nodes[k]):=hx;have hun:=under_any x.1 p wr hpk hp;have hkm:(k:Int)<(n:Int):=by omega
   cases he:(x.1.toList == p.toList) with
   | true=>
    have he':(x.1.toList != p.toList)=false:=by rw[bne,he];rfl
    have HG:Hid (goneP (nodes.take (k+1)) p=goneP (nodes.take k) p):=gone_snoc_out hkn (by rw[<-hx,he];rfl);clear hun hx hv hrow hst;go_wp2;go_roundw
    case rel=>exact⟨k+1,q,ao,co,by omega,by go_num,rfl,by omega,hb,by show _=_;rw[HG.out];exact HQ.out,by show World.ownsRow _ _ _ _ _ _ _;rw[HG.out];exact HO.out⟩
    case measure=>simp[intOf];omega
   | false=>
    have he':(x.1.toList != p.toList)=true:=by rw[bne,he];rfl
    cases hu:underP x.1 p with
    | true=>
     have HG:Hid (goneP (nodes.take (k+1)) p=goneP (nodes.take k) p):=gone_snoc_out hkn (by rw[<-hx,he,hu];rfl);rw[hu] at hun;have HU:Hid _:=hun;clear hun hx hv hrow hst hu;go_wp2_with fail;refine Calls.mono HU.out ?_;rintro _ _ ⟨rfl,rfl⟩;go_wp2;go_roundw
     case rel=>exact⟨k+1,q,ao,co,by omega,by go_num,rfl,by omega,hb,by show _=_;rw[HG.out];exact HQ.out,by show World.ownsRow _ _ _ _ _ _ _;rw[HG.out];exact HO.out⟩
     case measure=>simp[intOf];omega
    | false=>
     have HG:Hid (goneP (nodes.take (k+1)) p=goneP (nodes.take k) p ++ [x]):=by show _=_;rw[gone_snoc_in hkn (by rw[<-hx,he,hu];rfl),<-hx]
     rw[hu] at hun;have HU:Hid _:=hun;clear hun hx hv hrow hst hu;go_wp2_with fail;refine Calls.mono HU.out ?_;rintro _ _ ⟨rfl,rfl⟩;rename World=>wq
     go_wp2_with (at_builtin;refine wpList_append_own _ rfl (.tmp 33) (.tmp 41) 174 rfl w.heap.size 200 i0 _ 3 32 underlying174 hi hz0 hz1 hz2 rfl (by decide) _ _ _ rfl (HO.out.alloc _) ⟨wq.heap.size,0,none⟩ 1 1 (encE x) rfl rfl (item_cells wq x _ _ rfl) (encE_one _) (by unfold maxLen;omega) (by omega) (by simp;omega) ?_);intro v' w4 hown' hgrow _;have hb4:Below w.heap.size w w4:=grown_own (hb.alloc hsz _) (by simp;omega) (HO.out.alloc _) hgrow;obtain⟨ao',co',rfl⟩:=owns_form hown';have HO4:Hid (w4.ownsRow w.heap.size 200 3 (.slice ao' (q+1) co') (q+1) (flat (goneP (nodes.take (k+1)) p))):=by show World.ownsRow _ _ _ _ _ _ _;rw[HG.out,flat_appendR,flat_one_item];exact hown'
     clear hown' hgrow;go_wp2;go_roundw
     case rel=>exact⟨k+1,q+1,ao',co',by omega,by go_num,rfl,by omega,hb4,by show _=_;rw[HG.out,HQ.out];simp,HO4.out⟩
     case measure=>simp[intOf];omega
  ·have HT:Hid (nodes.take k=nodes):=List.take_of_length_le (by have:=HN.out;omega)
   rw[HT.out] at HQ HO;have hnl:decide ((k:Int)<(n:Int))=false:=zzE (by omega);have hfz:wr.frozen? ⟨S,0,none⟩=false:=by simp[World.frozen?,hst.hS]
   have HFIN:Hid _:=HS.out.setNodes hb HQ.out HO.out;clear hst;go_wp2;go_end0;exact⟨rfl,HFIN.out⟩
end
end Go.Proofs.YtlgidcmmgohagaaGreat
