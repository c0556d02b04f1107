/- What is proved here: 'still'. -/
import Derived.Test.YtlgidcmmgohagaaGreatFileM15
import Derived.Maps.AppendAt
namespace Go.Proofs.YtlgidcmmgohagaaGreat
open Go.RowKit Go.Sort Go.Shelf Go.Proofs.Tryz
set_option linter.unusedVariables false
set_option maxRecDepth 100000
set_option maxHeartbeats 16000000
def Full1 (w:World)(V:Value)(h:HeldL):Prop:=∀j,j<h.2.1->∃g,h.1=some ⟨g,0,none⟩/\w.cell? ⟨g,j,none⟩=some V
theorem cell_lt {w:World}{g o:Nat}{v:Value}(h:w.cell? ⟨g,o,none⟩=some v):g<w.heap.size:=by
 rcases Nat.lt_or_ge g w.heap.size with hl | hl
 ·exact hl
 ·have:w.heap[g]? = none:=Array.getElem?_eq_none hl
  simp[World.cell?,this] at h
theorem below_at {w w':World}{g o:Nat}{v:Value}(hb:Below w.heap.size w w')(h:w.cell? ⟨g,o,none⟩=some v):w'.cell? ⟨g,o,none⟩=some v:=(hb.cell (p:=⟨g,o,none⟩) (cell_lt h)).trans h
theorem still_more (W:Nat)(na ea ia:Option Addr)(nc ec ic:Nat)(ns hs js:List HeldL)(w:World)(hW:W<w.heap.size)
  (e8:w.cell? ⟨W,8,none⟩=some (.slice na ns.length nc))(e9:w.cell? ⟨W,9,none⟩=some (.slice ea hs.length ec))(e10:w.cell? ⟨W,10,none⟩=some (.slice none 0 0))(e11:w.cell? ⟨W,11,none⟩=some (.slice ia js.length ic))
  (rowN:w.ownsRow 0 131 1 (.slice na ns.length nc) ns.length (ns.map encH))(rowE:w.ownsRow 0 55 1 (.slice ea hs.length ec) hs.length (hs.map encH))(rowI:w.ownsRow 0 59 1 (.slice ia js.length ic) js.length (js.map encH))
  (fN:∀i (hi:i<ns.length),Full1 w (.string (markS (i / 4))) ns[i])(fE:∀i (hi:i<hs.length),Full w i hs[i])(fI:∀i (hi:i<js.length),Full1 w (.int .i64 (-1000-((i / 4:Nat):Int))) js[i])
  (lN:ns.length<=1000000000)(lE:hs.length<=1000000000)(lI:js.length<=1000000000)(bN:∀h ∈ ns,h.2.1<=1000000000)(bE:∀h ∈ hs,h.2.1<=1000000000)(bI:∀h ∈ js,h.2.1<=1000000000):
  Calls prog 24 #[.pointer (some ⟨W,8,none⟩)] w fun e w'=>e=.returned (.bool true)/\Below w.heap.size w w':=by
 obtain⟨nn,hnn⟩:∃n,n=ns.length:=⟨_,rfl⟩;obtain⟨ne,hne⟩:∃n,n=hs.length:=⟨_,rfl⟩;obtain⟨ni,hni⟩:∃n,n=js.length:=⟨_,rfl⟩;have HNN:Hid (nn=ns.length):=hnn;have HNE:Hid (ne=hs.length):=hne;have HNI:Hid (ni=js.length):=hni;rw[<-hnn] at e8 lN;rw[<-hne] at e9 lE;rw[<-hni] at e11 lI;have E8:Hid _:=e8;have E9:Hid _:=e9;have E10:Hid _:=e10;have E11:Hid _:=e11;have RN:Hid (w.ownsRow 0 131 1 (.slice na nn nc) nn (ns.map encH)):=by rw[hnn];exact rowN
 have RE:Hid (w.ownsRow 0 55 1 (.slice ea ne ec) ne (hs.map encH)):=by rw[hne];exact rowE
 have RI:Hid (w.ownsRow 0 59 1 (.slice ia ni ic) ni (js.map encH)):=by rw[hni];exact rowI
 have FN:Hid (∀i (hi:i<ns.length),Full1 w (.string (markS (i / 4))) ns[i]):=fN;have FE:Hid (∀i (hi:i<hs.length),Full w i hs[i]):=fE;have FI:Hid (∀i (hi:i<js.length),Full1 w (.int .i64 (-1000-((i / 4:Nat):Int))) js[i]):=fI;have BN:Hid (∀h ∈ ns,h.2.1<=1000000000):=bN;have BE:Hid (∀h ∈ hs,h.2.1<=1000000000):=bE;have BI:Hid (∀h ∈ js,h.2.1<=1000000000):=bI;clear e8 e9 e10 e11 rowN rowE rowI fN fE fI bN bE bI hnn hne hni;go_enter func24,ntmps24;go_wp2
 go_loopw [3] (fun i wr=>∃k:Nat,k<=nn/\i=.int .i64 (k:Int)/\Hid (Below w.heap.size w wr)) (fun i _=>nn-(intOf i).toNat)
 case atStart=>exact⟨0,zzF _,rfl,Below.refl _ _⟩
 case round=>
  obtain⟨k,hk,rfl,HB⟩:=hrel;have c8:=below_at HB.out E8.out;have hWr:W<wr.heap.size:=by have:=HB.out.size;omega
  by_cases hlt:k<nn
  ·have hkl:k<ns.length:=by rw[<-HNN.out];exact hlt
   obtain⟨⟨ha,hm,hc⟩,hh⟩:∃h:HeldL,h=ns[k]:=⟨_,rfl⟩;obtain⟨ge,hea,hgel,ce,_⟩:=row_one RN.out (i:=k) (v:=.slice ha hm hc) (by rw[List.getElem?_map,zzH hkl,<-hh];rfl);subst hea;have hmb:hm<=1000000000:=by have:=BN.out _ (zzJ hkl);rw[<-hh] at this;exact this
   obtain⟨M,hM⟩:∃M,M=markS (k / 4):=⟨_,rfl⟩;have HFk:Hid (Full1 w (.string M) (ha,hm,hc)):=by have:=FN.out k hkl;rw[<-hh,<-hM] at this;exact this
   have HMK:Hid (Calls prog 58 #[.int .i64 ((k:Int) / 4)] wr fun e w'=>e=.returned (.string M)/\Below wr.heap.size wr w'):=by
    have:=mark_any (k / 4) wr (by omega)
    rw[<-hM,show ((k / 4:Nat):Int)=(k:Int) / 4 by omega] at this;exact this
   have hkn:(k:Int)<(nn:Int):=by omega
   have CE:Hid (w.cell? ⟨ge,k,none⟩=some (.slice ha hm hc)):=ce;clear hh hM ce;go_wp2_with fail;refine Calls.mono HMK.out ?_;rintro _ w2 ⟨rfl,hb2⟩;have HB2:Hid (Below w.heap.size w w2):=HB.out.trans (hb2.mono HB.out.size);have d8:=below_at HB2.out E8.out;have de:=below_at HB2.out CE.out;have hW2:W<w2.heap.size:=by have:=HB2.out.size;omega
   have hge2:ge<w2.heap.size:=by have:=HB2.out.size;omega
   clear hb2 c8;go_wp2
   go_loopw [5] (fun i wq=>∃j:Nat,j<=hm/\i=.int .i64 (j:Int)/\wq=w2) (fun i _=>hm-(intOf i).toNat)
   case atStart=>exact⟨0,zzF _,rfl,rfl⟩
   case round=>
    obtain⟨j,hj,rfl,rfl⟩:=hrel;rename World=>wz;by_cases hjl:j<hm
    ·obtain⟨g,hga,g0⟩:=HFk.out j hjl
     simp only at hga;subst hga;have hjm:(j:Int)<(hm:Int):=by omega
     have g1:=below_at HB2.out g0;have hgl:=cell_lt g1;clear g0;go_wp2;go_roundw
     case rel=>exact⟨j+1,by omega,by go_num,by trivial⟩
     case measure=>simp[intOf];omega
    ·go_wp2
     go_roundw
     case rel=>exact⟨k+1,by omega,by go_num,HB2.out⟩
     case measure=>simp[intOf];omega
  ·have hkn:k=nn:=by omega
   subst hkn;have c9:=below_at HB.out E9.out;go_wp2;rename World=>wz
   go_loopw [6] (fun i wq=>∃k:Nat,k<=ne/\i=.int .i64 (k:Int)/\wq=wz) (fun i _=>ne-(intOf i).toNat)
   case atStart=>exact⟨0,zzF _,rfl,rfl⟩
   case round=>
    obtain⟨k,hk,rfl,hwq⟩:=hrel;subst hwq;by_cases hlt:k<ne
    ·have hkl:k<hs.length:=by rw[<-HNE.out];exact hlt
     obtain⟨⟨ha,hm,hc⟩,hh⟩:∃h:HeldL,h=hs[k]:=⟨_,rfl⟩;obtain⟨ge,hea,hgel,ce,_⟩:=row_one RE.out (i:=k) (v:=.slice ha hm hc) (by rw[List.getElem?_map,zzH hkl,<-hh];rfl);subst hea;have hmb:hm<=1000000000:=by have:=BE.out _ (zzJ hkl);rw[<-hh] at this;exact this
     have HFk:Hid (Full w k (ha,hm,hc)):=by have:=FE.out k hkl;rw[<-hh] at this;exact this
     have hkn:(k:Int)<(ne:Int):=(by omega);have hk0:(0:Int)<=(k:Int):=by omega
     have de:=below_at HB.out ce;have hge2:=cell_lt de;clear hh ce;rename World=>wz;go_wp2
     go_loopw [7] (fun i wq=>∃j:Nat,j<=hm/\i=.int .i64 (j:Int)/\wq=wz) (fun i _=>hm-(intOf i).toNat)
     case atStart=>exact⟨0,zzF _,rfl,rfl⟩
     case round=>
      obtain⟨j,hj,rfl,hwq⟩:=hrel;subst hwq;by_cases hjl:j<hm
      ·obtain⟨g,hga,g0,g1,g2⟩:=HFk.out j hjl
       simp only at hga;subst hga;have hjm:(j:Int)<(hm:Int):=by omega
       have m1:(markE k).1.toList = []:=by show ByteArray.empty.toList = [];simp only[ByteArray.toList_eq];decide
       have m2:(markE k).2.1 = -1000-(k:Int) / 4:=by show -1000-((k / 4:Nat):Int)=_;omega
       have m3:(markE k).2.2=0:=rfl;have q0:=below_at HB.out g0;have q1:=below_at HB.out g1;have q2:=below_at HB.out g2;have hgl:=cell_lt q0;clear g0 g1 g2;go_wp2;go_roundw
       case rel=>exact⟨j+1,by omega,by go_num,by trivial⟩
       case measure=>simp[intOf];omega
      ·go_wp2
       go_roundw
       case rel=>exact⟨k+1,by omega,by go_num,by trivial⟩
       case measure=>simp[intOf];omega
    ·have c10:=below_at HB.out E10.out
     have c11:=below_at HB.out E11.out;rename World=>wz;go_wp2
     go_loopw [8] (fun i wq=>i=.int .i64 0/\wq=wz) (fun _ _=>0)
     case atStart=>exact⟨rfl,rfl⟩
     case round=>
      obtain⟨rfl,hwq⟩:=hrel;subst hwq;rename World=>wy;go_wp2
      go_loopw [10] (fun i wq=>∃k:Nat,k<=ni/\i=.int .i64 (k:Int)/\wq=wy) (fun i _=>ni-(intOf i).toNat)
      case atStart=>exact⟨0,zzF _,rfl,rfl⟩
      case round=>
       obtain⟨k,hk,rfl,hwq⟩:=hrel;subst hwq;by_cases hlt:k<ni
       ·have hkl:k<js.length:=by rw[<-HNI.out];exact hlt
        obtain⟨⟨ha,hm,hc⟩,hh⟩:∃h:HeldL,h=js[k]:=⟨_,rfl⟩;obtain⟨ge,hea,hgel,ce,_⟩:=row_one RI.out (i:=k) (v:=.slice ha hm hc) (by rw[List.getElem?_map,zzH hkl,<-hh];rfl);subst hea;have hmb:hm<=1000000000:=by have:=BI.out _ (zzJ hkl);rw[<-hh] at this;exact this
        have HFk:Hid (Full1 w (.int .i64 (-1000-(k:Int) / 4)) (ha,hm,hc)):=by
         have:=FI.out k hkl
         rw[<-hh,show ((k / 4:Nat):Int)=(k:Int) / 4 by omega] at this;exact this
        have hkn:(k:Int)<(ni:Int):=(by omega);have hk0:(0:Int)<=(k:Int):=by omega
        have de:=below_at HB.out ce;have hge2:=cell_lt de;clear hh ce;rename World=>wx;go_wp2
        go_loopw [11] (fun i wq=>∃j:Nat,j<=hm/\i=.int .i64 (j:Int)/\wq=wx) (fun i _=>hm-(intOf i).toNat)
        case atStart=>exact⟨0,zzF _,rfl,rfl⟩
        case round=>
         obtain⟨j,hj,rfl,hwq⟩:=hrel;subst hwq;by_cases hjl:j<hm
         ·obtain⟨g,hga,g0⟩:=HFk.out j hjl
          simp only at hga;subst hga;have hjm:(j:Int)<(hm:Int):=by omega
          have q0:=below_at HB.out g0;have hgl:=cell_lt q0;clear g0;go_wp2;go_roundw
          case rel=>exact⟨j+1,by omega,by go_num,by trivial⟩
          case measure=>simp[intOf];omega
         ·go_wp2
          go_roundw
          case rel=>exact⟨k+1,by omega,by go_num,by trivial⟩
          case measure=>simp[intOf];omega
       ·go_wp2
        go_ret;exact⟨rfl,HB.out⟩
theorem rep_prefix {w:World}{t:TypeId}{g N p C:Nat}{V:Value}(h:w.ownsRow 0 t 1 (.slice (some ⟨g,0,none⟩) N C) N (List.replicate N V))(hp:p<=N):w.ownsRow 0 t 1 (.slice (some ⟨g,0,none⟩) p C) p (List.replicate p V):=by
 obtain⟨h1,h2⟩:=h;rcases h2 with ⟨hv,_⟩ | ⟨g',cap,cur,hv,hb,hg,hnc,hcm,hcs,ht⟩
 ·cases hv
 ·cases hv
  refine⟨by simp,.inr ⟨g,C,cur,rfl,hb,hg,by omega,hcm,hcs,?_⟩⟩
  have:=congrArg (List.take p) ht
  rw[List.take_take,List.take_replicate] at this;rw[Nat.mul_one] at this ⊢;rw[Nat.min_eq_left hp] at this;exact this
def Room (w w':World)(la:Option Addr)(c:Nat)(v':Value)(n:Nat):Prop:=
 (w.grownBy w' none/\∃g cap,v'=.slice (some ⟨g,0,none⟩) n cap/\w.heap.size<=g)\/(∃g,la=some ⟨g,0,none⟩/\v'=.slice (some ⟨g,0,none⟩) n c/\w.grownBy w' (some g))
theorem wpList_append_V {P:Program}{w:World}{ops:Array Oper}{rest:List Oper}{o:Oper}{a:Act}{Q:Exit->Act->World->Prop}(hgd:o.guard=none)(s x:Operand)(t:TypeId)
  (ho:o.op=.call { callee:=.builtin .append,args:=#[s,x],argTypes:=#[t,t] })
  (e:TypeId)(i:TypeInfo)(z:Value)(bytes:Nat)(ht:P.underlying t=some (.slice e))(hi:P.info? e=some i)(hz:i.zero=some z)
  (hsize:i.size=1)(hby:i.bytes=bytes)(hzs:z.cells.size=1)(V:Value)(hV:V.oneCell'=true)
  (la:Option Addr)(n c:Nat)(hs:a.eval s=.slice la n c)(hown:w.ownsRow 0 e 1 (.slice la n c) n (List.replicate n V))
  (ad:Addr)(m c':Nat)(hm:0<m)(hx:a.eval x=.slice (some ad) m c')(hnews:∀j u,(List.replicate m V)[j]? = some u->w.cell? (ad.add j)=some u)
  (h63:n+m<=maxLen)(hbytes:(n+m)*bytes<=140737488355328)
  (h:∀v' w',w'.ownsRow 0 e 1 v' (n+m) (List.replicate (n+m) V)->w'.ownsRow 0 e 1 (.slice la n c) n (List.replicate n V)->Room w w' la c v' (n+m)->wpList P ops Q rest (a.put o.dst v') w'):wpList P ops Q (o :: rest) a w:=by
 have hl:(List.replicate m V).length=m*1:=by simp
 have hlo:(List.replicate n V).length=n*1:=by simp
 have h1:∀u ∈ List.replicate m V,u.oneCell'=true:=rep_one m hV;have grow:c<n+m->(la=none->n=0/\c=0)->(∀b,la=some b->∀j u,(List.replicate n V)[j]? = some u->w.cell? (b.add j)=some u)->wpList P ops Q (o :: rest) a w:=fun hc hn hh=>by
  refine wpList_append_grows w hgd s x t ho e i z 1 bytes ht hi hz hsize hby hzs (by decide) la n c (List.replicate n V) hs hn hlo hh ad m c' (List.replicate m V) hx hl hnews h1 hc h63 hbytes ?_;intro v' w' hv hg;rw[List.replicate_append_replicate] at hv;obtain⟨g,cap,rfl⟩:=slice_of_owns hv (by omega);have hge:w.heap.size<=g:=by
   rcases hv.2 with ⟨h0,_⟩ | ⟨g',_,_,h0,hb,_⟩
   ·cases h0
   ·cases h0;exact hb
  exact h _ w' (owns_mono hv (zzF _)) (ownsRow_keep hown (fun k hk=>hg.block k (ownsRow_lt hown hk) (by simp))) (.inl ⟨hg,g,cap,rfl,hge⟩)
 rcases hown.2 with ⟨hv,hn0⟩ | ⟨g,cap,cur,hv,hb,hg,hnc,hcm,hcs,htk⟩
 ·cases hv
  exact grow (by omega) (fun _=>⟨rfl,rfl⟩) (fun b hb=>by cases hb)
 ·cases hv
  by_cases hroom:n+m<=c
  ·obtain⟨v',w',hr,r1,r2,_,r3⟩:=run_append_own_at (P:=P) w 0 t o.type e i z 1 bytes ht hi hz hsize hby hzs (by decide) _ n _ hown ad m c' (List.replicate m V) hl hnews h1 h63 hbytes (zzF _)
   have hrr:=run_append_room (P:=P) w t o.type e i ht hi g n c cur hg ad m c' (List.replicate m V) (by rw[hsize];exact hl) hnews h1 hroom (by rw[hsize];simp;omega);rw[hr] at hrr;have hv':v'=.slice (some ⟨g,0,none⟩) (n+m) c:=(Result.ok.inj hrr).1;subst hv';rw[List.replicate_append_replicate] at r1;refine wpList_plain hgd fun _ hK=>?_;unfold Oper.wp;simp[execOp,ho,resolve,invoke,builtin,hs,hx,hr,Result.andThen];exact hK _ _ (h _ w' r1 (rep_prefix r1 (by omega)) (.inr ⟨g,rfl,rfl,r2⟩))
  ·exact grow (by omega) (fun h0=>by cases h0) (fun b hb=>by cases hb;exact hown.cells (g:=g) rfl)
theorem infoIDs:(prog.info? 59).map (fun i=>(i.zero,i.size,i.bytes))=some (some (.slice none 0 0),1,24):=by kernel_rfl
def SeesV (t:TypeId)(V:Value)(w:World)(h:HeldL):Prop:=w.ownsRow 0 t 1 (encH h) h.2.1 (List.replicate h.2.1 V)
def NearL (la:Option Addr)(c base:Nat)(h:HeldL):Prop:=(h.1=la/\h.2.2=c)\/(∃g,h.1=some ⟨g,0,none⟩/\base<=g)
theorem near_of_room {w w':World}{la:Option Addr}{c n base:Nat}{v':Value}(h:Room w w' la c v' n)(hb:base<=w.heap.size):∃xa xc,v'=.slice xa n xc/\NearL la c base (xa,n,xc):=by
 rcases h with ⟨_,g,cap,rfl,hg⟩ | ⟨g,rfl,rfl,_⟩
 ·exact⟨some ⟨g,0,none⟩,cap,rfl,.inr ⟨g,rfl,zzG hb hg⟩⟩
 ·exact⟨some ⟨g,0,none⟩,c,rfl,.inl ⟨rfl,rfl⟩⟩
theorem sees_step {t:TypeId}{V:Value}{w w':World}{la:Option Addr}{c n base:Nat}{v':Value}{x:HeldL}(h:SeesV t V w x)(hn:NearL la c base x)(hla:∀g,la=some ⟨g,0,none⟩->g<base)(hr:Room w w' la c v' n)(hv:w'.ownsRow 0 t 1 v' n (List.replicate n V))(hx:x.2.1<=n):SeesV t V w' x:=by
 rcases hr with ⟨hg,_⟩ | ⟨g,rfl,rfl,hg⟩
 ·exact ownsRow_keep h (fun k hk=>hg.block k (ownsRow_lt h hk) (by simp))
 ·rcases hn with ⟨h1,h2⟩ | ⟨gb,h1,h2⟩
  ·obtain⟨xa,xn,xc⟩:=x
   simp only at h1 h2 hx;subst h1;subst h2;exact rep_prefix hv hx
  ·have hgl:=hla g rfl
   refine ownsRow_keep h (fun k hk=>hg.block k (ownsRow_lt h hk) (fun e=>?_));simp only[encH,h1,Value.ownBlock,Option.some.injEq] at hk e;omega
def Kept2 (t tl:TypeId)(V:Value)(i:Nat)(w w':World)(W q:Nat)(cs:Array Value)(ea:Option Addr)(ec:Nat)(la:Option Addr)(m c:Nat)(hs:List HeldL):Prop:=
 ∃(g4 c4:Nat) (va vb vc:HeldL),w'.heap[W]? = some (.cells (cs.setIfInBounds i (.slice (some ⟨g4,0,none⟩) (4*q+4) c4)) 71 (0,0))/\
  w'.ownsRow 0 tl 1 (.slice (some ⟨g4,0,none⟩) (4*q+4) c4) (4*q+4) ((hs ++ [(la,m,c),va,vb,vc]).map encH)/\va.2.1=m+1/\vb.2.1=m+2/\vc.2.1=m+3/\
  (∀h ∈ [((la,m,c):HeldL),va,vb,vc],SeesV t V w' h/\NearL la c w.heap.size h)/\
  ((some g4:Option Nat)=(Value.slice ea (4*q) ec).ownBlock\/w.heap.size<=g4)/\
  Keeps (fun x=>x=W\/some x=(Value.slice ea (4*q) ec).ownBlock\/some x=(Value.slice la m c).ownBlock) w w'
theorem room_keeps {w wr w':World}{o:Obj}{la:Option Addr}{m c n:Nat}{v':Value}(hk:Keeps (fun x=>some x=(Value.slice la m c).ownBlock) w wr)(hr:Room (wr.alloc o) w' la c v' n):Keeps (fun x=>some x=(Value.slice la m c).ownBlock) w w':=by
 have key:∀row,(wr.alloc o).grownBy w' row->(∀x,some x=row->some x=(Value.slice la m c).ownBlock)->Keeps (fun x=>some x=(Value.slice la m c).ownBlock) w w':=fun row hg hrow=>by
  have hs:=hg.size;simp at hs
  have:=hk.size
  refine⟨hg.os.trans hk.os,hg.tape.trans hk.tape,hg.output.trans hk.output,by omega,fun x hx hne=>?_⟩;rw[hg.block x (by simp;omega) (fun e=>hne (hrow x e)),Below.heap_alloc _ _ _ (by omega)];exact hk.block x hx hne
 rcases hr with ⟨hg,_⟩ | ⟨g,rfl,_,hg⟩
 ·exact key _ hg (fun x hx=>by cases hx)
 ·exact key _ hg (fun x hx=>by rw[hx];rfl)
theorem room_size {wr w':World}{o:Obj}{la:Option Addr}{c n:Nat}{v':Value}(hr:Room (wr.alloc o) w' la c v' n):wr.heap.size<w'.heap.size:=by
 rcases hr with ⟨hg,_⟩ | ⟨g,rfl,_,hg⟩
 all_goals have:=hg.size;simp at this;omega
theorem keepIDs_any (W q:Nat)(cs:Array Value)(ea:Option Addr)(ec m c:Nat)(la:Option Addr)(hs:List HeldL)(xs:List Value)(w:World)(hW:w.heap[W]? = some (.cells cs 71 (0,0)))(h11:cs[11]? = some (.slice ea (4*q) ec))(hn:hs.length=4*q)(hlen:4*q<=1000000000)
  (row:w.ownsRow 0 59 1 (.slice ea (4*q) ec) (4*q) (hs.map encH))(hm:m<=1000000000)(hl:w.ownsRow 0 29 1 (.slice la m c) m xs):
  Calls prog 88 #[.pointer (some ⟨W,8,none⟩),.slice la m c] w fun e w'=>e=.returned (.tuple #[])/\Kept2 29 59 (.int .i64 (-1000-(q:Int))) 11 w w' W q cs ea ec la m c hs:=by
 obtain⟨i0,hi,hz0,hz1,hz2⟩:=info_parts infoIDR;obtain⟨iS,hS,hS0,hS1,hS2⟩:=info_parts infoIDs;have hWl:W<w.heap.size:=(Array.getElem?_eq_some_iff.1 hW).1;have e11:w.cell? ⟨W,11,none⟩=some (.slice ea (4*q) ec):=by simp[World.cell?,hW,h11]
 have HC:Hid (w.ownsRow 0 29 1 (.slice la m c) m xs):=hl;have HR:Hid (w.ownsRow 0 59 1 (.slice ea (4*q) ec) (4*q) (hs.map encH)):=row;have HOL:Hid (∀g,(Value.slice la m c).ownBlock=some g->g<w.heap.size/\g≠W):=fun g hg=>⟨ownsRow_lt hl hg,fun e=>by subst e;exact owns_ne_cells hl hW (by decide) hg.symm⟩;have h11l:11<cs.size:=(Array.getElem?_eq_some_iff.1 h11).1;have h11s:∀v:Value,(cs.setIfInBounds 11 v)[11]? = some v:=fun v=>by simp[h11l]
 have hq4:((4*q:Nat):Int) / 4=(q:Int):=by omega
 have hq4':(4*(q:Int)) / 4=(q:Int):=by omega
 have HFI:Hid (∃rest:List Value,rest.length=m-0/\w.ownsRow 0 29 1 (.slice la m c) m (List.replicate 0 (Value.int .i64 (-1000-(q:Int)))++rest)):=⟨xs,by have:=hl.1;omega,by simpa using hl⟩;have HLA:Hid (∀g,la=some ⟨g,0,none⟩->g<w.heap.size):=fun g hg=>by subst hg;exact ownsRow_lt hl rfl
 clear hl row;go_enter func88,ntmps88;go_wp2
 go_loopw [5] (fun i wr=>∃k:Nat,k<=m/\i=.int .i64 (k:Int)/\Hid (Keeps (fun x=>some x=(Value.slice la m c).ownBlock) w wr)/\Hid (∃rest:List Value,rest.length=m-k/\wr.ownsRow 0 29 1 (.slice la m c) m (List.replicate k (Value.int .i64 (-1000-(q:Int)))++rest))) (fun i _=>m-(intOf i).toNat)
 case atStart=>exact⟨0,zzF _,rfl,Keeps.refl _,HFI.out⟩
 case round=>
  obtain⟨k,hk,rfl,HK,HF⟩:=hrel;have hsz:w.heap.size<=wr.heap.size:=HK.out.size;by_cases hlt:k<m
  ·obtain⟨rest,hrl,hown⟩:=HF.out
   obtain⟨g,cg,hvg⟩:=slice_of_owns hown (by omega);have hga:=(Value.slice.inj hvg).1;subst hga;have hfz:=fun j=>hown.frozenAt j;have hcs:∃v,wr.cell? ⟨g,k,none⟩=some v:=by
    rw[hown.cellAt k (by omega)];exact⟨_,zzH (by rw[List.length_append,List.length_replicate,hrl];omega)⟩
   obtain⟨v0,y0⟩:=hcs;have hkm:(k:Int)<(m:Int):=by omega
   have hgl:g<wr.heap.size:=ownsRow_lt hown rfl;have HO:Hid _:=hown;clear hown hvg;go_wp2;go_roundw
   case rel=>
    refine⟨k+1,by omega,by go_num,?_,?_⟩
    ·exact⟨HK.out.os,HK.out.tape,HK.out.output,by simpa using HK.out.size,fun x hx hne=>by
      have hxg:x≠g:=fun e=>hne (by rw[e];rfl);rw[Below.heap_setCell _ _ _ _ hxg];exact HK.out.block x hx hne⟩
    ·exact⟨rest.drop 1,by rw[List.length_drop,hrl];omega,put1 HO.out (by omega)⟩
   case measure=>simp[intOf];omega
  ·have hke:k=m:=by omega
   subst hke;obtain⟨M,hM⟩:∃M:Int,M = -1000-(q:Int):=⟨_,rfl⟩;have HFm:Hid (wr.ownsRow 0 29 1 (.slice la k c) k (List.replicate k (.int .i64 M))):=by
    obtain⟨rest,h2,h3⟩:=HF.out
    have:rest = []:=List.eq_nil_of_length_eq_zero (by rw[h2];omega)
    subst this;show World.ownsRow _ _ _ _ _ _ _;rw[hM];simpa using h3
   have hlm:((k:Int)<(k:Int))=False:=by simp
   rw[<-hM];have HM:Hid (M = -1000-(q:Int)):=hM;clear hM HF;have hsz0:w.heap.size<=wr.heap.size:=hsz;go_wp2_with (at_builtin;refine wpList_append_V rfl (.tmp 26) (.tmp 28) 59 rfl 29 i0 _ 8 underlying59 hi hz0 hz1 hz2 rfl (.int .i64 M) rfl la k c rfl (World.ownsRow.alloc HFm.out _) ⟨wr.heap.size,0,none⟩ 1 1 (by decide) rfl (lit_cells wr [.int .i64 M] 29) (by unfold maxLen;omega) (by omega) ?_);intro va0 wa hoa hla hRa;obtain⟨aa,ca,rfl,hNa⟩:=near_of_room hRa (base:=w.heap.size) (by simp;omega);have sa:=room_size hRa;have HKa:Hid (Keeps (fun x=>some x=(Value.slice la k c).ownBlock) w wa):=room_keeps HK.out hRa;have HLa:Hid (wa.ownsRow 0 29 1 (.slice la k c) k (List.replicate k (.int .i64 M))):=hla;have HSa:Hid (SeesV 29 (.int .i64 M) wa (aa,k+1,ca)):=hoa;have HNa:Hid (NearL la c w.heap.size (aa,k+1,ca)):=hNa;clear hoa hla hRa hNa;go_wp2_with (at_builtin;refine wpList_append_V rfl (.tmp 30) (.tmp 33) 59 rfl 29 i0 _ 8 underlying59 hi hz0 hz1 hz2 rfl (.int .i64 M) rfl la k c rfl (World.ownsRow.alloc HLa.out _) ⟨wa.heap.size,0,none⟩ 2 2 (by decide) rfl (lit_cells wa [.int .i64 M,.int .i64 M] 29) (by unfold maxLen;omega) (by omega) ?_);intro vb0 wb hob hlb hRb;obtain⟨ab,cb,rfl,hNb⟩:=near_of_room hRb (base:=w.heap.size) (by simp;omega);have sb:=room_size hRb;have HKb:Hid (Keeps (fun x=>some x=(Value.slice la k c).ownBlock) w wb):=room_keeps HKa.out hRb;have HLb:Hid (wb.ownsRow 0 29 1 (.slice la k c) k (List.replicate k (.int .i64 M))):=hlb;have HSab:Hid (SeesV 29 (.int .i64 M) wb (aa,k+1,ca)):=sees_step (World.ownsRow.alloc HSa.out _) HNa.out HLA.out hRb hob (by show k+1<=_;omega);have HSb:Hid (SeesV 29 (.int .i64 M) wb (ab,k+2,cb)):=hob;have HNb:Hid (NearL la c w.heap.size (ab,k+2,cb)):=hNb;clear hob hlb hRb hNb;go_wp2_with (at_builtin;refine wpList_append_V rfl (.tmp 35) (.tmp 39) 59 rfl 29 i0 _ 8 underlying59 hi hz0 hz1 hz2 rfl (.int .i64 M) rfl la k c rfl (World.ownsRow.alloc HLb.out _) ⟨wb.heap.size,0,none⟩ 3 3 (by decide) rfl (lit_cells wb [.int .i64 M,.int .i64 M,.int .i64 M] 29) (by unfold maxLen;omega) (by omega) ?_);intro vc0 wc hoc hlc hRc;obtain⟨ac,cc,rfl,hNc⟩:=near_of_room hRc (base:=w.heap.size) (by simp;omega);have sc:=room_size hRc;have HKc:Hid (Keeps (fun x=>some x=(Value.slice la k c).ownBlock) w wc):=room_keeps HKb.out hRc;have HLc:Hid (wc.ownsRow 0 29 1 (.slice la k c) k (List.replicate k (.int .i64 M))):=hlc;have HSac:Hid (SeesV 29 (.int .i64 M) wc (aa,k+1,ca)):=sees_step (World.ownsRow.alloc HSab.out _) HNa.out HLA.out hRc hoc (by show k+1<=_;omega);have HSbc:Hid (SeesV 29 (.int .i64 M) wc (ab,k+2,cb)):=sees_step (World.ownsRow.alloc HSb.out _) HNb.out HLA.out hRc hoc (by show k+2<=_;omega);have HSc:Hid (SeesV 29 (.int .i64 M) wc (ac,k+3,cc)):=hoc;have HNc:Hid (NearL la c w.heap.size (ac,k+3,cc)):=hNc;clear hoc hlc hRc hNc;have hWc:wc.heap[W]? = some (.cells cs 71 (0,0)):=by
    rw[HKc.out.block W (by omega) (fun e=>(HOL.out W e.symm).2 rfl)];exact hW
   have HRc:Hid (wc.ownsRow 0 59 1 (.slice ea (4*q) ec) (4*q) (hs.map encH)):=ownsRow_keep HR.out (fun g hg=>by
    have hl:=ownsRow_lt HR.out hg;exact HKc.out.block g (by omega) (fun e=>rows_apart HR.out HC.out (by decide) hg e))
   have hWcl:W<wc.heap.size:=by omega
   have p8:wc.cell? ⟨W,11,none⟩=some (.slice ea (4*q) ec):=by simp[World.cell?,hWc,h11]
   have f8:wc.frozen? ⟨W,11,none⟩=false:=by simp[World.frozen?,hWc]
   go_wp2_with (at_builtin;refine wpList_append_at rfl (.tmp 45) (.tmp 47) 67 rfl 0 59 iS _ 1 24 underlying67 hS hS0 hS1 hS2 rfl (by decide) (.slice ea (4*q) ec) (4*q) (hs.map encH) rfl (World.ownsRow.alloc HRc.out _) ⟨wc.heap.size,0,none⟩ 1 1 [.slice la k c] rfl rfl (one_cell _ _ _ _ rfl) one_slice (by unfold maxLen;omega) (by omega) (zzF _) ?_);intro v1 w1 ho1 hg1 hloc1;obtain⟨g1,c1,rfl⟩:=slice_of_owns ho1 (by omega);have P1:=push_after (i:=11) hWc HRc.out (by decide) (kb_alloc0 _ _) (by simp) ⟨rfl,rfl,rfl⟩ ho1 hg1 hloc1 (by omega);have hW1:=grown_W hWc (kb_alloc0 _ _) (by simp) hg1 (owns_ne_cells HRc.out hWc (by decide));have s1:wc.heap.size<=w1.heap.size:=by have:=hg1.size;simp at this;omega
   have p81:w1.cell? ⟨W,11,none⟩=some (.slice ea (4*q) ec):=by simp[World.cell?,hW1,h11]
   have f81:w1.frozen? ⟨W,11,none⟩=false:=by simp[World.frozen?,hW1]
   have H1:Hid _:=P1;have hWl1:W<w1.heap.size:=by omega
   clear ho1 hg1 hloc1 P1 hW1 p8 f8;go_wp2_with (at_builtin;refine wpList_append_at rfl (.tmp 55) (.tmp 57) 67 rfl 0 59 iS _ 1 24 underlying67 hS hS0 hS1 hS2 rfl (by decide) (.slice (some ⟨g1,0,none⟩) (4*q+1) c1) (4*q+1) (hs.map encH ++ [.slice la k c]) rfl (World.ownsRow.alloc H1.out.2.1 _) ⟨w1.heap.size,0,none⟩ 1 1 [.slice aa (k+1) ca] rfl rfl (one_cell _ _ _ _ (by simp)) one_slice (by unfold maxLen;omega) (by omega) (zzF _) ?_);intro v2 w2 ho2 hg2 hloc2;obtain⟨g2,c2,rfl⟩:=slice_of_owns ho2 (by omega);have ho2':w2.ownsRow 0 59 1 (.slice (some ⟨g2,0,none⟩) (4*q+1+1) c2) (4*q+1+1) (hs.map encH ++ [.slice la k c] ++ [.slice aa (k+1) ca]):=by simpa using ho2
   have P2:=push_after (i:=11) H1.out.1 H1.out.2.1 (by decide) (kb_alloc0 _ _) (by simp) ⟨rfl,rfl,rfl⟩ ho2' hg2 hloc2 (by simp);have hW2:=grown_W H1.out.1 (kb_alloc0 _ _) (by simp) hg2 (owns_ne_cells H1.out.2.1 H1.out.1 (by decide));have s2:w1.heap.size<=w2.heap.size:=by have:=hg2.size;simp at this;omega
   have p82:w2.cell? ⟨W,11,none⟩=some (.slice (some ⟨g1,0,none⟩) (4*q+1) c1):=by simp[World.cell?,hW2,h11s]
   have f82:w2.frozen? ⟨W,11,none⟩=false:=by simp[World.frozen?,hW2]
   have H2:Hid _:=P2;have hWl2:W<w2.heap.size:=by omega
   clear ho2 ho2' hg2 hloc2 P2 hW2 p81 f81;go_wp2_with (at_builtin;refine wpList_append_at rfl (.tmp 65) (.tmp 67) 67 rfl 0 59 iS _ 1 24 underlying67 hS hS0 hS1 hS2 rfl (by decide) (.slice (some ⟨g2,0,none⟩) (4*q+1+1) c2) (4*q+1+1) (hs.map encH ++ [.slice la k c] ++ [.slice aa (k+1) ca]) rfl (World.ownsRow.alloc H2.out.2.1 _) ⟨w2.heap.size,0,none⟩ 1 1 [.slice ab (k+2) cb] rfl rfl (one_cell _ _ _ _ (by simp)) one_slice (by unfold maxLen;omega) (by omega) (zzF _) ?_);intro v3 w3 ho3 hg3 hloc3;obtain⟨g3,c3,rfl⟩:=slice_of_owns ho3 (by omega);have ho3':w3.ownsRow 0 59 1 (.slice (some ⟨g3,0,none⟩) (4*q+1+1+1) c3) (4*q+1+1+1) (hs.map encH ++ [.slice la k c] ++ [.slice aa (k+1) ca] ++ [.slice ab (k+2) cb]):=by simpa using ho3
   have P3:=push_after (i:=11) H2.out.1 H2.out.2.1 (by decide) (kb_alloc0 _ _) (by simp) ⟨rfl,rfl,rfl⟩ ho3' hg3 hloc3 (by simp);have hW3:=grown_W H2.out.1 (kb_alloc0 _ _) (by simp) hg3 (owns_ne_cells H2.out.2.1 H2.out.1 (by decide));have s3:w2.heap.size<=w3.heap.size:=by have:=hg3.size;simp at this;omega
   have p83:w3.cell? ⟨W,11,none⟩=some (.slice (some ⟨g2,0,none⟩) (4*q+1+1) c2):=by simp[World.cell?,hW3,h11l]
   have f83:w3.frozen? ⟨W,11,none⟩=false:=by simp[World.frozen?,hW3]
   have H3:Hid _:=P3;have hWl3:W<w3.heap.size:=by omega
   clear ho3 ho3' hg3 hloc3 P3 hW3 p82 f82;go_wp2_with (at_builtin;refine wpList_append_at rfl (.tmp 75) (.tmp 77) 67 rfl 0 59 iS _ 1 24 underlying67 hS hS0 hS1 hS2 rfl (by decide) (.slice (some ⟨g3,0,none⟩) (4*q+1+1+1) c3) (4*q+1+1+1) (hs.map encH ++ [.slice la k c] ++ [.slice aa (k+1) ca] ++ [.slice ab (k+2) cb]) rfl (World.ownsRow.alloc H3.out.2.1 _) ⟨w3.heap.size,0,none⟩ 1 1 [.slice ac (k+3) cc] rfl rfl (one_cell _ _ _ _ (by simp)) one_slice (by unfold maxLen;omega) (by omega) (zzF _) ?_);intro v4 w4 ho4 hg4 hloc4;obtain⟨g4,c4,rfl⟩:=slice_of_owns ho4 (by omega);have ho4':w4.ownsRow 0 59 1 (.slice (some ⟨g4,0,none⟩) (4*q+1+1+1+1) c4) (4*q+1+1+1+1) (hs.map encH ++ [.slice la k c] ++ [.slice aa (k+1) ca] ++ [.slice ab (k+2) cb] ++ [.slice ac (k+3) cc]):=by simpa using ho4
   have P4:=push_after (i:=11) H3.out.1 H3.out.2.1 (by decide) (kb_alloc0 _ _) (by simp) ⟨rfl,rfl,rfl⟩ ho4' hg4 hloc4 (by simp);have hW4:=grown_W H3.out.1 (kb_alloc0 _ _) (by simp) hg4 (owns_ne_cells H3.out.2.1 H3.out.1 (by decide));have p84:w4.cell? ⟨W,11,none⟩=some (.slice (some ⟨g3,0,none⟩) (4*q+1+1+1) c3):=by simp[World.cell?,hW4,h11l]
   have f84:w4.frozen? ⟨W,11,none⟩=false:=by simp[World.frozen?,hW4]
   have H4:Hid _:=P4;clear ho4 ho4' hg4 hloc4 P4 hW4 p83 f83;have HKC:Hid (Keeps (fun x=>x=W\/some x=(Value.slice ea (4*q) ec).ownBlock\/some x=(Value.slice la k c).ownBlock) w wc):=
    ⟨HKc.out.os,HKc.out.tape,HKc.out.output,HKc.out.size,fun x hx hne=>HKc.out.block x hx (fun e=>hne (.inr (.inr e)))⟩
   have T1:=stage1_next (t:=29) (by decide) (by decide) (by decide) hWc HRc.out (fun x hx=>.inl hx.symm) HKC.out H1.out;have T2:=stage1_next (t:=29) (by decide) (by decide) (by decide) H1.out.1 H1.out.2.1 T1.1 T1.2.1 H2.out;have T3:=stage1_next (t:=29) (by decide) (by decide) (by decide) H2.out.1 H2.out.2.1 T2.1 T2.2.1 H3.out;have T4:=stage1_next (t:=29) (by decide) (by decide) (by decide) H3.out.1 H3.out.2.1 T3.1 T3.2.1 H4.out;have HALL:Hid (Kept2 29 59 (.int .i64 (-1000-(q:Int))) 11 w (w4.setCell ⟨W,11,none⟩ (.slice (some ⟨g4,0,none⟩) (4*q+1+1+1+1) c4)) W q cs ea ec la k c hs):=by
    have all:∀{b:Nat} {v:Value} {l:Nat} {ys:List Value},wc.ownsRow b 29 1 v l ys->(w4.setCell ⟨W,11,none⟩ (.slice (some ⟨g4,0,none⟩) (4*q+1+1+1+1) c4)).ownsRow b 29 1 v l ys:=fun h=>T4.2.2 (T3.2.2 (T2.2.2 (T1.2.2 h)));rw[<-HM.out];refine⟨g4,c4,(aa,k+1,ca),(ab,k+2,cb),(ac,k+3,cc),?_,?_,rfl,rfl,rfl,?_,T4.1 g4 rfl,T4.2.1⟩
    ·have:=H4.out.1
     simpa using this
    ·have:=H4.out.2.1
     simpa [encH] using this
    ·intro h hh
     simp only[List.mem_cons,List.not_mem_nil,or_false] at hh;rcases hh with rfl | rfl | rfl | rfl
     ·exact⟨all HLc.out,.inl ⟨rfl,rfl⟩⟩
     ·exact⟨all HSac.out,HNa.out⟩
     ·exact⟨all HSbc.out,HNb.out⟩
     ·exact⟨all HSc.out,HNc.out⟩
   clear T1 T2 T3 T4;go_wp2;go_end0;exact⟨rfl,HALL.out⟩
end Go.Proofs.YtlgidcmmgohagaaGreat
