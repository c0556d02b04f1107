/- What is proved here: 'still'. -/
import Derived.Test.YtlgidcmmgohagaaGreatTreeM13
import Derived.Maps.AppendAt
import Derived.Test.YtlgidcmmgohagaaGreatTreeM05
namespace Go.Proofs.YtlgidcmmgohagaaGreat
open Go.RowKit Go.Sort Go.Shelf Go.Proofs.Tryz
set_option linter.unusedVariables false
set_option maxRecDepth 100000
set_option maxHeartbeats 16000000
def BO (w:World)(V:Value)(h:fK):Prop:=∀j,j<h.2.1->∃g,h.1=some ⟨g,0,none⟩/\w.cell? ⟨g,j,none⟩=some V
theorem uw {w:World}{g o:Nat}{v:Value}(h:w.cell? ⟨g,o,none⟩=some v):g<w.heap.size:=by
 rcases Nat.lt_or_ge g w.heap.size with hl | hl
 ·exact hl
 ·have:w.heap[g]? = none:=Array.getElem?_eq_none hl
  simp[World.cell?,this] at h
theorem iy {w w':World}{g o:Nat}{v:Value}(hb:Below w.heap.size w w')(h:w.cell? ⟨g,o,none⟩=some v):w'.cell? ⟨g,o,none⟩=some v:=(hb.cell (p:=⟨g,o,none⟩) (uw h)).trans h
theorem Ll (W:Nat)(na ea ia:Option Addr)(nc ec ic:Nat)(ns hs js:List fK)(w:World)(hW:W<w.heap.size)
  (e8:w.cell? ⟨W,8,none⟩=some (.slice na ns.length nc))(e9:w.cell? ⟨W,9,none⟩=some (.slice ea hs.length ec))(e10:w.cell? ⟨W,10,none⟩=some (.slice none 0 0))(e11:w.cell? ⟨W,11,none⟩=some (.slice ia js.length ic))
  (jW:w.ownsRow 0 131 1 (.slice na ns.length nc) ns.length (ns.map eR))(acS:w.ownsRow 0 55 1 (.slice ea hs.length ec) hs.length (hs.map eR))(lC:w.ownsRow 0 59 1 (.slice ia js.length ic) js.length (js.map eR))
  (fN:∀i (hi:i<ns.length),BO w (.string (zq (i / 4))) ns[i])(fE:∀i (hi:i<hs.length),Full w i hs[i])(fI:∀i (hi:i<js.length),BO w (.int .i64 (-1000-((i / 4:Nat):Int))) js[i])
  (lN:ns.length<=1000000000)(lE:hs.length<=1000000000)(lI:js.length<=1000000000)(bN:∀h ∈ ns,h.2.1<=1000000000)(bE:∀h ∈ hs,h.2.1<=1000000000)(bI:∀h ∈ js,h.2.1<=1000000000):
  Calls prog 24 #[.pointer (some ⟨W,8,none⟩)] w fun e w'=>e=.returned (.bool true)/\Below w.heap.size w w':=by
 obtain⟨nn,Ao⟩:∃n,n=ns.length:=⟨_,rfl⟩;obtain⟨ne,hne⟩:∃n,n=hs.length:=⟨_,rfl⟩;obtain⟨ni,hni⟩:∃n,n=js.length:=⟨_,rfl⟩;have S8:Hid (nn=ns.length):=Ao;have HNE:Hid (ne=hs.length):=hne;have HNI:Hid (ni=js.length):=hni;rw[<-Ao] at e8 lN;rw[<-hne] at e9 lE;rw[<-hni] at e11 lI;have E8:Hid _:=e8;have E9:Hid _:=e9;have E10:Hid _:=e10;have E11:Hid _:=e11;have RN:Hid (w.ownsRow 0 131 1 (.slice na nn nc) nn (ns.map eR)):=by rw[Ao];exact jW
 have RE:Hid (w.ownsRow 0 55 1 (.slice ea ne ec) ne (hs.map eR)):=by rw[hne];exact acS
 have RI:Hid (w.ownsRow 0 59 1 (.slice ia ni ic) ni (js.map eR)):=by rw[hni];exact lC
 have FN:Hid (∀i (hi:i<ns.length),BO w (.string (zq (i / 4))) ns[i]):=fN;have FE:Hid (∀i (hi:i<hs.length),Full w i hs[i]):=fE;have FI:Hid (∀i (hi:i<js.length),BO w (.int .i64 (-1000-((i / 4:Nat):Int))) js[i]):=fI;have BN:Hid (∀h ∈ ns,h.2.1<=1000000000):=bN;have BE:Hid (∀h ∈ hs,h.2.1<=1000000000):=bE;have BI:Hid (∀h ∈ js,h.2.1<=1000000000):=bI;clear e8 e9 e10 e11 jW acS lC fN fE fI bN bE bI Ao hne hni;go_enter func24,ntmps24;go_wp2
 go_loopw [3] (fun i wr=>∃k:Nat,k<=nn/\i=.int .i64 (k:Int)/\Hid (Below w.heap.size w wr)) (fun i _=>nn-(intOf i).toNat)
 case atStart=>exact⟨0,dG _,rfl,Below.refl _ _⟩
 case round=>
  obtain⟨k,hk,rfl,HB⟩:=hrel;have c8:=iy HB.out E8.out;have hWr:W<wr.heap.size:=by have:=HB.out.size;omega
  by_cases hlt:k<nn
  ·have oG:k<ns.length:=by rw[<-S8.out];exact hlt
   obtain⟨⟨ha,hm,hc⟩,hh⟩:∃h:fK,h=ns[k]:=⟨_,rfl⟩;obtain⟨ge,nu,acT,ce,_⟩:=row_one RN.out (i:=k) (v:=.slice ha hm hc) (by rw[List.getElem?_map,kO oG,<-hh];rfl);subst nu;have hmb:hm<=1000000000:=by have:=BN.out _ (jk oG);rw[<-hh] at this;exact this
   obtain⟨M,hM⟩:∃M,M=zq (k / 4):=⟨_,rfl⟩;have HFk:Hid (BO w (.string M) (ha,hm,hc)):=by have:=FN.out k oG;rw[<-hh,<-hM] at this;exact this
   have vM:Hid (Calls prog 58 #[.int .i64 ((k:Int) / 4)] wr fun e w'=>e=.returned (.string M)/\Below wr.heap.size wr w'):=by
    have:=IV (k / 4) wr (by omega)
    rw[<-hM,show ((k / 4:Nat):Int)=(k:Int) / 4 by omega] at this;exact this
   have gP:(k:Int)<(nn:Int):=by omega
   have CE:Hid (w.cell? ⟨ge,k,none⟩=some (.slice ha hm hc)):=ce;clear hh hM ce;go_wp2_with fail;refine Calls.mono vM.out ?_;rintro _ w2 ⟨rfl,hb2⟩;have zg:Hid (Below w.heap.size w w2):=HB.out.trans (hb2.mono HB.out.size);have d8:=iy zg.out E8.out;have de:=iy zg.out CE.out;have hW2:W<w2.heap.size:=by have:=zg.out.size;omega
   have acV:ge<w2.heap.size:=by have:=zg.out.size;omega
   clear hb2 c8;go_wp2
   go_loopw [5] (fun i wq=>∃j:Nat,j<=hm/\i=.int .i64 (j:Int)/\wq=w2) (fun i _=>hm-(intOf i).toNat)
   case atStart=>exact⟨0,dG _,rfl,rfl⟩
   case round=>
    obtain⟨j,hj,rfl,rfl⟩:=hrel;rename World=>wz;by_cases lU:j<hm
    ·obtain⟨g,xR,g0⟩:=HFk.out j lU
     simp only at xR;subst xR;have hjm:(j:Int)<(hm:Int):=by omega
     have g1:=iy zg.out g0;have fo:=uw g1;clear g0;go_wp2;go_roundw
     case rel=>exact⟨j+1,by omega,by go_num,by trivial⟩
     case measure=>simp[intOf];omega
    ·go_wp2
     go_roundw
     case rel=>exact⟨k+1,by omega,by go_num,zg.out⟩
     case measure=>simp[intOf];omega
  ·have gP:k=nn:=by omega
   subst gP;have c9:=iy HB.out E9.out;go_wp2;rename World=>wz
   go_loopw [6] (fun i wq=>∃k:Nat,k<=ne/\i=.int .i64 (k:Int)/\wq=wz) (fun i _=>ne-(intOf i).toNat)
   case atStart=>exact⟨0,dG _,rfl,rfl⟩
   case round=>
    obtain⟨k,hk,rfl,Ws⟩:=hrel;subst Ws;by_cases hlt:k<ne
    ·have oG:k<hs.length:=by rw[<-HNE.out];exact hlt
     obtain⟨⟨ha,hm,hc⟩,hh⟩:∃h:fK,h=hs[k]:=⟨_,rfl⟩;obtain⟨ge,nu,acT,ce,_⟩:=row_one RE.out (i:=k) (v:=.slice ha hm hc) (by rw[List.getElem?_map,kO oG,<-hh];rfl);subst nu;have hmb:hm<=1000000000:=by have:=BE.out _ (jk oG);rw[<-hh] at this;exact this
     have HFk:Hid (Full w k (ha,hm,hc)):=by have:=FE.out k oG;rw[<-hh] at this;exact this
     have gP:(k:Int)<(ne:Int):=(by omega);have hk0:(0:Int)<=(k:Int):=by omega
     have de:=iy HB.out ce;have acV:=uw de;clear hh ce;rename World=>wz;go_wp2
     go_loopw [7] (fun i wq=>∃j:Nat,j<=hm/\i=.int .i64 (j:Int)/\wq=wz) (fun i _=>hm-(intOf i).toNat)
     case atStart=>exact⟨0,dG _,rfl,rfl⟩
     case round=>
      obtain⟨j,hj,rfl,Ws⟩:=hrel;subst Ws;by_cases lU:j<hm
      ·obtain⟨g,xR,g0,g1,g2⟩:=HFk.out j lU
       simp only at xR;subst xR;have hjm:(j:Int)<(hm:Int):=by omega
       have m1:(Bp k).1.toList = []:=by show ByteArray.empty.toList = [];simp only[ByteArray.toList_eq];decide
       have m2:(Bp k).2.1 = -1000-(k:Int) / 4:=by show -1000-((k / 4:Nat):Int)=_;omega
       have m3:(Bp k).2.2=0:=rfl;have q0:=iy HB.out g0;have q1:=iy HB.out g1;have q2:=iy HB.out g2;have fo:=uw q0;clear g0 g1 g2;go_wp2;go_roundw
       case rel=>exact⟨j+1,by omega,by go_num,by trivial⟩
       case measure=>simp[intOf];omega
      ·go_wp2
       go_roundw
       case rel=>exact⟨k+1,by omega,by go_num,by trivial⟩
       case measure=>simp[intOf];omega
    ·have c10:=iy HB.out E10.out
     have c11:=iy HB.out E11.out;rename World=>wz;go_wp2
     go_loopw [8] (fun i wq=>i=.int .i64 0/\wq=wz) (fun _ _=>0)
     case atStart=>exact⟨rfl,rfl⟩
     case round=>
      obtain⟨rfl,Ws⟩:=hrel;subst Ws;rename World=>wy;go_wp2
      go_loopw [10] (fun i wq=>∃k:Nat,k<=ni/\i=.int .i64 (k:Int)/\wq=wy) (fun i _=>ni-(intOf i).toNat)
      case atStart=>exact⟨0,dG _,rfl,rfl⟩
      case round=>
       obtain⟨k,hk,rfl,Ws⟩:=hrel;subst Ws;by_cases hlt:k<ni
       ·have oG:k<js.length:=by rw[<-HNI.out];exact hlt
        obtain⟨⟨ha,hm,hc⟩,hh⟩:∃h:fK,h=js[k]:=⟨_,rfl⟩;obtain⟨ge,nu,acT,ce,_⟩:=row_one RI.out (i:=k) (v:=.slice ha hm hc) (by rw[List.getElem?_map,kO oG,<-hh];rfl);subst nu;have hmb:hm<=1000000000:=by have:=BI.out _ (jk oG);rw[<-hh] at this;exact this
        have HFk:Hid (BO w (.int .i64 (-1000-(k:Int) / 4)) (ha,hm,hc)):=by
         have:=FI.out k oG
         rw[<-hh,show ((k / 4:Nat):Int)=(k:Int) / 4 by omega] at this;exact this
        have gP:(k:Int)<(ni:Int):=(by omega);have hk0:(0:Int)<=(k:Int):=by omega
        have de:=iy HB.out ce;have acV:=uw de;clear hh ce;rename World=>wx;go_wp2
        go_loopw [11] (fun i wq=>∃j:Nat,j<=hm/\i=.int .i64 (j:Int)/\wq=wx) (fun i _=>hm-(intOf i).toNat)
        case atStart=>exact⟨0,dG _,rfl,rfl⟩
        case round=>
         obtain⟨j,hj,rfl,Ws⟩:=hrel;subst Ws;by_cases lU:j<hm
         ·obtain⟨g,xR,g0⟩:=HFk.out j lU
          simp only at xR;subst xR;have hjm:(j:Int)<(hm:Int):=by omega
          have q0:=iy HB.out g0;have fo:=uw q0;clear g0;go_wp2;go_roundw
          case rel=>exact⟨j+1,by omega,by go_num,by trivial⟩
          case measure=>simp[intOf];omega
         ·go_wp2
          go_roundw
          case rel=>exact⟨k+1,by omega,by go_num,by trivial⟩
          case measure=>simp[intOf];omega
       ·go_wp2
        go_ret;exact⟨rfl,HB.out⟩
theorem BP {w:World}{t:TypeId}{g N p C:Nat}{V:Value}(h:w.ownsRow 0 t 1 (.slice (some ⟨g,0,none⟩) N C) N (List.replicate N V))(hp:p<=N):w.ownsRow 0 t 1 (.slice (some ⟨g,0,none⟩) p C) p (List.replicate p V):=by
 obtain⟨h1,h2⟩:=h;rcases h2 with ⟨hv,_⟩ | ⟨g',cap,cur,hv,hb,hg,Th,hcm,hcs,ht⟩
 ·cases hv
 ·cases hv
  refine⟨by simp,.inr ⟨g,C,cur,rfl,hb,hg,by omega,hcm,hcs,?_⟩⟩
  have:=congrArg (List.take p) ht
  rw[List.take_take,List.take_replicate] at this;rw[Nat.mul_one] at this ⊢;rw[Nat.min_eq_left hp] at this;exact this
def Room (w w':World)(la:Option Addr)(c:Nat)(v':Value)(n:Nat):Prop:=
 (w.grownBy w' none/\∃g cap,v'=.slice (some ⟨g,0,none⟩) n cap/\w.heap.size<=g)\/(∃g,la=some ⟨g,0,none⟩/\v'=.slice (some ⟨g,0,none⟩) n c/\w.grownBy w' (some g))
theorem gJ {P:Program}{w:World}{ops:Array Oper}{rest:List Oper}{o:Oper}{a:Act}{Q:Exit->Act->World->Prop}(hgd:o.guard=none)(s x:Operand)(t:TypeId)
  (ho:o.op=.call { callee:=.builtin .append,args:=#[s,x],argTypes:=#[t,t] })
  (e:TypeId)(i:TypeInfo)(z:Value)(bytes:Nat)(ht:P.underlying t=some (.slice e))(hi:P.info? e=some i)(hz:i.zero=some z)
  (hsize:i.size=1)(hby:i.bytes=bytes)(hzs:z.cells.size=1)(V:Value)(hV:V.oneCell'=true)
  (la:Option Addr)(n c:Nat)(hs:a.eval s=.slice la n c)(hown:w.ownsRow 0 e 1 (.slice la n c) n (List.replicate n V))
  (ad:Addr)(m c':Nat)(hm:0<m)(hx:a.eval x=.slice (some ad) m c')(hnews:∀j u,(List.replicate m V)[j]? = some u->w.cell? (ad.add j)=some u)
  (h63:n+m<=maxLen)(hbytes:(n+m)*bytes<=140737488355328)
  (h:∀v' w',w'.ownsRow 0 e 1 v' (n+m) (List.replicate (n+m) V)->w'.ownsRow 0 e 1 (.slice la n c) n (List.replicate n V)->Room w w' la c v' (n+m)->wpList P ops Q rest (a.put o.dst v') w'):wpList P ops Q (o :: rest) a w:=by
 have hl:(List.replicate m V).length=m*1:=by simp
 have hlo:(List.replicate n V).length=n*1:=by simp
 have h1:∀u ∈ List.replicate m V,u.oneCell'=true:=Wp m hV;have grow:c<n+m->(la=none->n=0/\c=0)->(∀b,la=some b->∀j u,(List.replicate n V)[j]? = some u->w.cell? (b.add j)=some u)->wpList P ops Q (o :: rest) a w:=fun hc hn hh=>by
  refine wpList_append_grows w hgd s x t ho e i z 1 bytes ht hi hz hsize hby hzs (by decide) la n c (List.replicate n V) hs hn hlo hh ad m c' (List.replicate m V) hx hl hnews h1 hc h63 hbytes ?_;intro v' w' hv hg;rw[List.replicate_append_replicate] at hv;obtain⟨g,cap,rfl⟩:=ak hv (by omega);have KR:w.heap.size<=g:=by
   rcases hv.2 with ⟨h0,_⟩ | ⟨g',_,_,h0,hb,_⟩
   ·cases h0
   ·cases h0;exact hb
  exact h _ w' (cL hv (dG _)) (ai hown (fun k hk=>hg.block k (ah hown hk) (by simp))) (.inl ⟨hg,g,cap,rfl,KR⟩)
 rcases hown.2 with ⟨hv,hn0⟩ | ⟨g,cap,cur,hv,hb,hg,Th,hcm,hcs,BQ⟩
 ·cases hv
  exact grow (by omega) (fun _=>⟨rfl,rfl⟩) (fun b hb=>by cases hb)
 ·cases hv
  by_cases hroom:n+m<=c
  ·obtain⟨v',w',hr,r1,r2,_,r3⟩:=run_append_own_at (P:=P) w 0 t o.type e i z 1 bytes ht hi hz hsize hby hzs (by decide) _ n _ hown ad m c' (List.replicate m V) hl hnews h1 h63 hbytes (dG _)
   have hrr:=run_append_room (P:=P) w t o.type e i ht hi g n c cur hg ad m c' (List.replicate m V) (by rw[hsize];exact hl) hnews h1 hroom (by rw[hsize];simp;omega);rw[hr] at hrr;have hv':v'=.slice (some ⟨g,0,none⟩) (n+m) c:=(Result.ok.inj hrr).1;subst hv';rw[List.replicate_append_replicate] at r1;refine wpList_plain hgd fun _ hK=>?_;unfold Oper.wp;simp[execOp,ho,resolve,invoke,builtin,hs,hx,hr,Result.andThen];exact hK _ _ (h _ w' r1 (BP r1 (by omega)) (.inr ⟨g,rfl,rfl,r2⟩))
  ·exact grow (by omega) (fun h0=>by cases h0) (fun b hb=>by cases hb;exact hown.cells (g:=g) rfl)
theorem Wt:(prog.info? 59).map (fun i=>(i.zero,i.size,i.bytes))=some (some (.slice none 0 0),1,24):=by kernel_rfl
def lQ (t:TypeId)(V:Value)(w:World)(h:fK):Prop:=w.ownsRow 0 t 1 (eR h) h.2.1 (List.replicate h.2.1 V)
def xo (la:Option Addr)(c base:Nat)(h:fK):Prop:=(h.1=la/\h.2.2=c)\/(∃g,h.1=some ⟨g,0,none⟩/\base<=g)
theorem jN {w w':World}{la:Option Addr}{c n base:Nat}{v':Value}(h:Room w w' la c v' n)(hb:base<=w.heap.size):∃xa xc,v'=.slice xa n xc/\xo la c base (xa,n,xc):=by
 rcases h with ⟨_,g,cap,rfl,hg⟩ | ⟨g,rfl,rfl,_⟩
 ·exact⟨some ⟨g,0,none⟩,cap,rfl,.inr ⟨g,rfl,eU hb hg⟩⟩
 ·exact⟨some ⟨g,0,none⟩,c,rfl,.inl ⟨rfl,rfl⟩⟩
theorem ou {t:TypeId}{V:Value}{w w':World}{la:Option Addr}{c n base:Nat}{v':Value}{x:fK}(h:lQ t V w x)(hn:xo la c base x)(pQ:∀g,la=some ⟨g,0,none⟩->g<base)(hr:Room w w' la c v' n)(hv:w'.ownsRow 0 t 1 v' n (List.replicate n V))(hx:x.2.1<=n):lQ t V w' x:=by
 rcases hr with ⟨hg,_⟩ | ⟨g,rfl,rfl,hg⟩
 ·exact ai h (fun k hk=>hg.block k (ah h hk) (by simp))
 ·rcases hn with ⟨h1,h2⟩ | ⟨gb,h1,h2⟩
  ·obtain⟨xa,xn,xc⟩:=x
   simp only at h1 h2 hx;subst h1;subst h2;exact BP hv hx
  ·have fo:=pQ g rfl
   refine ai h (fun k hk=>hg.block k (ah h hk) (fun e=>?_));simp only[eR,h1,Value.ownBlock,Option.some.injEq] at hk e;omega
def BS (t tl:TypeId)(V:Value)(i:Nat)(w w':World)(W q:Nat)(cs:Array Value)(ea:Option Addr)(ec:Nat)(la:Option Addr)(m c:Nat)(hs:List fK):Prop:=
 ∃(g4 c4:Nat) (va vb vc:fK),w'.heap[W]? = some (.cells (cs.setIfInBounds i (.slice (some ⟨g4,0,none⟩) (4*q+4) c4)) 71 (0,0))/\
  w'.ownsRow 0 tl 1 (.slice (some ⟨g4,0,none⟩) (4*q+4) c4) (4*q+4) ((hs ++ [(la,m,c),va,vb,vc]).map eR)/\va.2.1=m+1/\vb.2.1=m+2/\vc.2.1=m+3/\
  (∀h ∈ [((la,m,c):fK),va,vb,vc],lQ t V w' h/\xo la c w.heap.size h)/\
  ((some g4:Option Nat)=(Value.slice ea (4*q) ec).ownBlock\/w.heap.size<=g4)/\
  ax (fun x=>x=W\/some x=(Value.slice ea (4*q) ec).ownBlock\/some x=(Value.slice la m c).ownBlock) w w'
theorem l7 {w wr w':World}{o:Obj}{la:Option Addr}{m c n:Nat}{v':Value}(hk:ax (fun x=>some x=(Value.slice la m c).ownBlock) w wr)(hr:Room (wr.alloc o) w' la c v' n):ax (fun x=>some x=(Value.slice la m c).ownBlock) w w':=by
 have key:∀row,(wr.alloc o).grownBy w' row->(∀x,some x=row->some x=(Value.slice la m c).ownBlock)->ax (fun x=>some x=(Value.slice la m c).ownBlock) w w':=fun row hg hrow=>by
  have hs:=hg.size;simp at hs
  have:=hk.size
  refine⟨hg.os.trans hk.os,hg.tape.trans hk.tape,hg.output.trans hk.output,by omega,fun x hx hne=>?_⟩;rw[hg.block x (by simp;omega) (fun e=>hne (hrow x e)),Below.heap_alloc _ _ _ (by omega)];exact hk.block x hx hne
 rcases hr with ⟨hg,_⟩ | ⟨g,rfl,_,hg⟩
 ·exact key _ hg (fun x hx=>by cases hx)
 ·exact key _ hg (fun x hx=>by rw[hx];rfl)
theorem ov {wr w':World}{o:Obj}{la:Option Addr}{c n:Nat}{v':Value}(hr:Room (wr.alloc o) w' la c v' n):wr.heap.size<w'.heap.size:=by
 rcases hr with ⟨hg,_⟩ | ⟨g,rfl,_,hg⟩
 all_goals have:=hg.size;simp at this;omega
theorem IW (W q:Nat)(cs:Array Value)(ea:Option Addr)(ec m c:Nat)(la:Option Addr)(hs:List fK)(xs:List Value)(w:World)(hW:w.heap[W]? = some (.cells cs 71 (0,0)))(h11:cs[11]? = some (.slice ea (4*q) ec))(hn:hs.length=4*q)(hlen:4*q<=1000000000)
  (row:w.ownsRow 0 59 1 (.slice ea (4*q) ec) (4*q) (hs.map eR))(hm:m<=1000000000)(hl:w.ownsRow 0 29 1 (.slice la m c) m xs):
  Calls prog 88 #[.pointer (some ⟨W,8,none⟩),.slice la m c] w fun e w'=>e=.returned (.tuple #[])/\BS 29 59 (.int .i64 (-1000-(q:Int))) 11 w w' W q cs ea ec la m c hs:=by
 obtain⟨i0,hi,hz0,hz1,hz2⟩:=info_parts Nh;obtain⟨iS,hS,Gz,hS1,yy⟩:=info_parts Wt;have qu:W<w.heap.size:=(Array.getElem?_eq_some_iff.1 hW).1;have e11:w.cell? ⟨W,11,none⟩=some (.slice ea (4*q) ec):=by simp[World.cell?,hW,h11]
 have HC:Hid (w.ownsRow 0 29 1 (.slice la m c) m xs):=hl;have HR:Hid (w.ownsRow 0 59 1 (.slice ea (4*q) ec) (4*q) (hs.map eR)):=row;have xT:Hid (∀g,(Value.slice la m c).ownBlock=some g->g<w.heap.size/\g≠W):=fun g hg=>⟨ah hl hg,fun e=>by subst e;exact aA hl hW (by decide) hg.symm⟩;have Lm:11<cs.size:=(Array.getElem?_eq_some_iff.1 h11).1;have ZG:∀v:Value,(cs.setIfInBounds 11 v)[11]? = some v:=fun v=>by simp[Lm]
 have hq4:((4*q:Nat):Int) / 4=(q:Int):=by omega
 have aho:(4*(q:Int)) / 4=(q:Int):=by omega
 have HFI:Hid (∃rest:List Value,rest.length=m-0/\w.ownsRow 0 29 1 (.slice la m c) m (List.replicate 0 (Value.int .i64 (-1000-(q:Int)))++rest)):=⟨xs,by have:=hl.1;omega,by simpa using hl⟩;have Gw:Hid (∀g,la=some ⟨g,0,none⟩->g<w.heap.size):=fun g hg=>by subst hg;exact ah hl rfl
 clear hl row;go_enter func88,ntmps88;go_wp2
 go_loopw [5] (fun i wr=>∃k:Nat,k<=m/\i=.int .i64 (k:Int)/\Hid (ax (fun x=>some x=(Value.slice la m c).ownBlock) w wr)/\Hid (∃rest:List Value,rest.length=m-k/\wr.ownsRow 0 29 1 (.slice la m c) m (List.replicate k (Value.int .i64 (-1000-(q:Int)))++rest))) (fun i _=>m-(intOf i).toNat)
 case atStart=>exact⟨0,dG _,rfl,ax.refl _,HFI.out⟩
 case round=>
  obtain⟨k,hk,rfl,HK,HF⟩:=hrel;have hsz:w.heap.size<=wr.heap.size:=HK.out.size;by_cases hlt:k<m
  ·obtain⟨rest,uS,hown⟩:=HF.out
   obtain⟨g,cg,Vz⟩:=ak hown (by omega);have xR:=(Value.slice.inj Vz).1;subst xR;have ET:=fun j=>hown.frozenAt j;have hcs:∃v,wr.cell? ⟨g,k,none⟩=some v:=by
    rw[hown.cellAt k (by omega)];exact⟨_,kO (by rw[List.length_append,List.length_replicate,uS];omega)⟩
   obtain⟨v0,y0⟩:=hcs;have uP:(k:Int)<(m:Int):=by omega
   have fo:g<wr.heap.size:=ah hown rfl;have HO:Hid _:=hown;clear hown Vz;go_wp2;go_roundw
   case rel=>
    refine⟨k+1,by omega,by go_num,?_,?_⟩
    ·exact⟨HK.out.os,HK.out.tape,HK.out.output,by simpa using HK.out.size,fun x hx hne=>by
      have Ra:x≠g:=fun e=>hne (by rw[e];rfl);rw[Below.heap_setCell _ _ _ _ Ra];exact HK.out.block x hx hne⟩
    ·exact⟨rest.drop 1,by rw[List.length_drop,uS];omega,acR HO.out (by omega)⟩
   case measure=>simp[intOf];omega
  ·have j4:k=m:=by omega
   subst j4;obtain⟨M,hM⟩:∃M:Int,M = -1000-(q:Int):=⟨_,rfl⟩;have Zo:Hid (wr.ownsRow 0 29 1 (.slice la k c) k (List.replicate k (.int .i64 M))):=by
    obtain⟨rest,h2,h3⟩:=HF.out
    have:rest = []:=List.eq_nil_of_length_eq_zero (by rw[h2];omega)
    subst this;show World.ownsRow _ _ _ _ _ _ _;rw[hM];simpa using h3
   have O0:((k:Int)<(k:Int))=False:=by simp
   rw[<-hM];have HM:Hid (M = -1000-(q:Int)):=hM;clear hM HF;have ahp:w.heap.size<=wr.heap.size:=hsz;go_wp2_with (at_builtin;refine gJ rfl (.tmp 26) (.tmp 28) 59 rfl 29 i0 _ 8 underlying59 hi hz0 hz1 hz2 rfl (.int .i64 M) rfl la k c rfl (World.ownsRow.alloc Zo.out _) ⟨wr.heap.size,0,none⟩ 1 1 (by decide) rfl (jL wr [.int .i64 M] 29) (by unfold maxLen;omega) (by omega) ?_);intro va0 wa Q8 pQ Wu;obtain⟨aa,ca,rfl,hNa⟩:=jN Wu (base:=w.heap.size) (by simp;omega);have sa:=ov Wu;have HKa:Hid (ax (fun x=>some x=(Value.slice la k c).ownBlock) w wa):=l7 HK.out Wu;have HLa:Hid (wa.ownsRow 0 29 1 (.slice la k c) k (List.replicate k (.int .i64 M))):=pQ;have HSa:Hid (lQ 29 (.int .i64 M) wa (aa,k+1,ca)):=Q8;have ZH:Hid (xo la c w.heap.size (aa,k+1,ca)):=hNa;clear Q8 pQ Wu hNa;go_wp2_with (at_builtin;refine gJ rfl (.tmp 30) (.tmp 33) 59 rfl 29 i0 _ 8 underlying59 hi hz0 hz1 hz2 rfl (.int .i64 M) rfl la k c rfl (World.ownsRow.alloc HLa.out _) ⟨wa.heap.size,0,none⟩ 2 2 (by decide) rfl (jL wa [.int .i64 M,.int .i64 M] 29) (by unfold maxLen;omega) (by omega) ?_);intro vb0 wb pG Ky Ti;obtain⟨ab,cb,rfl,hNb⟩:=jN Ti (base:=w.heap.size) (by simp;omega);have sb:=ov Ti;have HKb:Hid (ax (fun x=>some x=(Value.slice la k c).ownBlock) w wb):=l7 HKa.out Ti;have HLb:Hid (wb.ownsRow 0 29 1 (.slice la k c) k (List.replicate k (.int .i64 M))):=Ky;have ZI:Hid (lQ 29 (.int .i64 M) wb (aa,k+1,ca)):=ou (World.ownsRow.alloc HSa.out _) ZH.out Gw.out Ti pG (by show k+1<=_;omega);have HSb:Hid (lQ 29 (.int .i64 M) wb (ab,k+2,cb)):=pG;have HNb:Hid (xo la c w.heap.size (ab,k+2,cb)):=hNb;clear pG Ky Ti hNb;go_wp2_with (at_builtin;refine gJ rfl (.tmp 35) (.tmp 39) 59 rfl 29 i0 _ 8 underlying59 hi hz0 hz1 hz2 rfl (.int .i64 M) rfl la k c rfl (World.ownsRow.alloc HLb.out _) ⟨wb.heap.size,0,none⟩ 3 3 (by decide) rfl (jL wb [.int .i64 M,.int .i64 M,.int .i64 M] 29) (by unfold maxLen;omega) (by omega) ?_);intro vc0 wc J6 hlc Pr;obtain⟨ac,cc,rfl,hNc⟩:=jN Pr (base:=w.heap.size) (by simp;omega);have sc:=ov Pr;have Ln:Hid (ax (fun x=>some x=(Value.slice la k c).ownBlock) w wc):=l7 HKb.out Pr;have HLc:Hid (wc.ownsRow 0 29 1 (.slice la k c) k (List.replicate k (.int .i64 M))):=hlc;have ZJ:Hid (lQ 29 (.int .i64 M) wc (aa,k+1,ca)):=ou (World.ownsRow.alloc ZI.out _) ZH.out Gw.out Pr J6 (by show k+1<=_;omega);have ZK:Hid (lQ 29 (.int .i64 M) wc (ab,k+2,cb)):=ou (World.ownsRow.alloc HSb.out _) HNb.out Gw.out Pr J6 (by show k+2<=_;omega);have HSc:Hid (lQ 29 (.int .i64 M) wc (ac,k+3,cc)):=J6;have HNc:Hid (xo la c w.heap.size (ac,k+3,cc)):=hNc;clear J6 hlc Pr hNc;have DT:wc.heap[W]? = some (.cells cs 71 (0,0)):=by
    rw[Ln.out.block W (by omega) (fun e=>(xT.out W e.symm).2 rfl)];exact hW
   have Nr:Hid (wc.ownsRow 0 59 1 (.slice ea (4*q) ec) (4*q) (hs.map eR)):=ai HR.out (fun g hg=>by
    have hl:=ah HR.out hg;exact Ln.out.block g (by omega) (fun e=>cS HR.out HC.out (by decide) hg e))
   have acn:W<wc.heap.size:=by omega
   have p8:wc.cell? ⟨W,11,none⟩=some (.slice ea (4*q) ec):=by simp[World.cell?,DT,h11]
   have f8:wc.frozen? ⟨W,11,none⟩=false:=by simp[World.frozen?,DT]
   go_wp2_with (at_builtin;refine aY rfl (.tmp 45) (.tmp 47) 67 rfl 0 59 iS _ 1 24 underlying67 hS Gz hS1 yy rfl (by decide) (.slice ea (4*q) ec) (4*q) (hs.map eR) rfl (World.ownsRow.alloc Nr.out _) ⟨wc.heap.size,0,none⟩ 1 1 [.slice la k c] rfl rfl (one_cell _ _ _ _ rfl) gI (by unfold maxLen;omega) (by omega) (dG _) ?_);intro v1 w1 Fg hg1 pJ;obtain⟨g1,c1,rfl⟩:=ak Fg (by omega);have P1:=cq (i:=11) DT Nr.out (by decide) (bh _ _) (by simp) ⟨rfl,rfl,rfl⟩ Fg hg1 pJ (by omega);have hW1:=dW DT (bh _ _) (by simp) hg1 (aA Nr.out DT (by decide));have s1:wc.heap.size<=w1.heap.size:=by have:=hg1.size;simp at this;omega
   have p81:w1.cell? ⟨W,11,none⟩=some (.slice ea (4*q) ec):=by simp[World.cell?,hW1,h11]
   have f81:w1.frozen? ⟨W,11,none⟩=false:=by simp[World.frozen?,hW1]
   have H1:Hid _:=P1;have Zq:W<w1.heap.size:=by omega
   clear Fg hg1 pJ P1 hW1 p8 f8;go_wp2_with (at_builtin;refine aY rfl (.tmp 55) (.tmp 57) 67 rfl 0 59 iS _ 1 24 underlying67 hS Gz hS1 yy rfl (by decide) (.slice (some ⟨g1,0,none⟩) (4*q+1) c1) (4*q+1) (hs.map eR ++ [.slice la k c]) rfl (World.ownsRow.alloc H1.out.2.1 _) ⟨w1.heap.size,0,none⟩ 1 1 [.slice aa (k+1) ca] rfl rfl (one_cell _ _ _ _ (by simp)) gI (by unfold maxLen;omega) (by omega) (dG _) ?_);intro v2 w2 Fh hg2 pK;obtain⟨g2,c2,rfl⟩:=ak Fh (by omega);have Ih:w2.ownsRow 0 59 1 (.slice (some ⟨g2,0,none⟩) (4*q+1+1) c2) (4*q+1+1) (hs.map eR ++ [.slice la k c] ++ [.slice aa (k+1) ca]):=by simpa using Fh
   have P2:=cq (i:=11) H1.out.1 H1.out.2.1 (by decide) (bh _ _) (by simp) ⟨rfl,rfl,rfl⟩ Ih hg2 pK (by simp);have hW2:=dW H1.out.1 (bh _ _) (by simp) hg2 (aA H1.out.2.1 H1.out.1 (by decide));have s2:w1.heap.size<=w2.heap.size:=by have:=hg2.size;simp at this;omega
   have p82:w2.cell? ⟨W,11,none⟩=some (.slice (some ⟨g1,0,none⟩) (4*q+1) c1):=by simp[World.cell?,hW2,ZG]
   have f82:w2.frozen? ⟨W,11,none⟩=false:=by simp[World.frozen?,hW2]
   have H2:Hid _:=P2;have V4:W<w2.heap.size:=by omega
   clear Fh Ih hg2 pK P2 hW2 p81 f81;go_wp2_with (at_builtin;refine aY rfl (.tmp 65) (.tmp 67) 67 rfl 0 59 iS _ 1 24 underlying67 hS Gz hS1 yy rfl (by decide) (.slice (some ⟨g2,0,none⟩) (4*q+1+1) c2) (4*q+1+1) (hs.map eR ++ [.slice la k c] ++ [.slice aa (k+1) ca]) rfl (World.ownsRow.alloc H2.out.2.1 _) ⟨w2.heap.size,0,none⟩ 1 1 [.slice ab (k+2) cb] rfl rfl (one_cell _ _ _ _ (by simp)) gI (by unfold maxLen;omega) (by omega) (dG _) ?_);intro v3 w3 wL hg3 kG;obtain⟨g3,c3,rfl⟩:=ak wL (by omega);have Ii:w3.ownsRow 0 59 1 (.slice (some ⟨g3,0,none⟩) (4*q+1+1+1) c3) (4*q+1+1+1) (hs.map eR ++ [.slice la k c] ++ [.slice aa (k+1) ca] ++ [.slice ab (k+2) cb]):=by simpa using wL
   have P3:=cq (i:=11) H2.out.1 H2.out.2.1 (by decide) (bh _ _) (by simp) ⟨rfl,rfl,rfl⟩ Ii hg3 kG (by simp);have hW3:=dW H2.out.1 (bh _ _) (by simp) hg3 (aA H2.out.2.1 H2.out.1 (by decide));have s3:w2.heap.size<=w3.heap.size:=by have:=hg3.size;simp at this;omega
   have p83:w3.cell? ⟨W,11,none⟩=some (.slice (some ⟨g2,0,none⟩) (4*q+1+1) c2):=by simp[World.cell?,hW3,Lm]
   have f83:w3.frozen? ⟨W,11,none⟩=false:=by simp[World.frozen?,hW3]
   have H3:Hid _:=P3;have Zr:W<w3.heap.size:=by omega
   clear wL Ii hg3 kG P3 hW3 p82 f82;go_wp2_with (at_builtin;refine aY rfl (.tmp 75) (.tmp 77) 67 rfl 0 59 iS _ 1 24 underlying67 hS Gz hS1 yy rfl (by decide) (.slice (some ⟨g3,0,none⟩) (4*q+1+1+1) c3) (4*q+1+1+1) (hs.map eR ++ [.slice la k c] ++ [.slice aa (k+1) ca] ++ [.slice ab (k+2) cb]) rfl (World.ownsRow.alloc H3.out.2.1 _) ⟨w3.heap.size,0,none⟩ 1 1 [.slice ac (k+3) cc] rfl rfl (one_cell _ _ _ _ (by simp)) gI (by unfold maxLen;omega) (by omega) (dG _) ?_);intro v4 w4 KV hg4 qz;obtain⟨g4,c4,rfl⟩:=ak KV (by omega);have Ij:w4.ownsRow 0 59 1 (.slice (some ⟨g4,0,none⟩) (4*q+1+1+1+1) c4) (4*q+1+1+1+1) (hs.map eR ++ [.slice la k c] ++ [.slice aa (k+1) ca] ++ [.slice ab (k+2) cb] ++ [.slice ac (k+3) cc]):=by simpa using KV
   have P4:=cq (i:=11) H3.out.1 H3.out.2.1 (by decide) (bh _ _) (by simp) ⟨rfl,rfl,rfl⟩ Ij hg4 qz (by simp);have Bq:=dW H3.out.1 (bh _ _) (by simp) hg4 (aA H3.out.2.1 H3.out.1 (by decide));have p84:w4.cell? ⟨W,11,none⟩=some (.slice (some ⟨g3,0,none⟩) (4*q+1+1+1) c3):=by simp[World.cell?,Bq,Lm]
   have f84:w4.frozen? ⟨W,11,none⟩=false:=by simp[World.frozen?,Bq]
   have H4:Hid _:=P4;clear KV Ij hg4 qz P4 Bq p83 f83;have HKC:Hid (ax (fun x=>x=W\/some x=(Value.slice ea (4*q) ec).ownBlock\/some x=(Value.slice la k c).ownBlock) w wc):=
    ⟨Ln.out.os,Ln.out.tape,Ln.out.output,Ln.out.size,fun x hx hne=>Ln.out.block x hx (fun e=>hne (.inr (.inr e)))⟩
   have T1:=iE (t:=29) (by decide) (by decide) (by decide) DT Nr.out (fun x hx=>.inl hx.symm) HKC.out H1.out;have T2:=iE (t:=29) (by decide) (by decide) (by decide) H1.out.1 H1.out.2.1 T1.1 T1.2.1 H2.out;have T3:=iE (t:=29) (by decide) (by decide) (by decide) H2.out.1 H2.out.2.1 T2.1 T2.2.1 H3.out;have T4:=iE (t:=29) (by decide) (by decide) (by decide) H3.out.1 H3.out.2.1 T3.1 T3.2.1 H4.out;have qA:Hid (BS 29 59 (.int .i64 (-1000-(q:Int))) 11 w (w4.setCell ⟨W,11,none⟩ (.slice (some ⟨g4,0,none⟩) (4*q+1+1+1+1) c4)) W q cs ea ec la k c hs):=by
    have all:∀{b:Nat} {v:Value} {l:Nat} {ys:List Value},wc.ownsRow b 29 1 v l ys->(w4.setCell ⟨W,11,none⟩ (.slice (some ⟨g4,0,none⟩) (4*q+1+1+1+1) c4)).ownsRow b 29 1 v l ys:=fun h=>T4.2.2 (T3.2.2 (T2.2.2 (T1.2.2 h)));rw[<-HM.out];refine⟨g4,c4,(aa,k+1,ca),(ab,k+2,cb),(ac,k+3,cc),?_,?_,rfl,rfl,rfl,?_,T4.1 g4 rfl,T4.2.1⟩
    ·have:=H4.out.1
     simpa using this
    ·have:=H4.out.2.1
     simpa [eR] using this
    ·intro h hh
     simp only[List.mem_cons,List.not_mem_nil,or_false] at hh;rcases hh with rfl | rfl | rfl | rfl
     ·exact⟨all HLc.out,.inl ⟨rfl,rfl⟩⟩
     ·exact⟨all ZJ.out,ZH.out⟩
     ·exact⟨all ZK.out,HNb.out⟩
     ·exact⟨all HSc.out,HNc.out⟩
   clear T1 T2 T3 T4;go_wp2;go_end0;exact⟨rfl,qA.out⟩
theorem C7 (W q:Nat)(cs:Array Value)(ea:Option Addr)(ec m c:Nat)(la:Option Addr)(hs:List fK)(xs:List Value)(w:World)(hW:w.heap[W]? = some (.cells cs 71 (0,0)))(h11:cs[8]? = some (.slice ea (4*q) ec))(hn:hs.length=4*q)(hlen:4*q<=1000000000)
  (row:w.ownsRow 0 131 1 (.slice ea (4*q) ec) (4*q) (hs.map eR))(hm:m<=1000000000)(hl:w.ownsRow 0 9 1 (.slice la m c) m xs):
  Calls prog 93 #[.pointer (some ⟨W,8,none⟩),.slice la m c] w fun e w'=>e=.returned (.tuple #[])/\BS 9 131 (.string (zq q)) 8 w w' W q cs ea ec la m c hs:=by
 obtain⟨i0,hi,hz0,hz1,hz2⟩:=info_parts tq;obtain⟨iS,hS,Gz,hS1,yy⟩:=info_parts Tg;have qu:W<w.heap.size:=(Array.getElem?_eq_some_iff.1 hW).1;have e11:w.cell? ⟨W,8,none⟩=some (.slice ea (4*q) ec):=by simp[World.cell?,hW,h11]
 have HC:Hid (w.ownsRow 0 9 1 (.slice la m c) m xs):=hl;have HR:Hid (w.ownsRow 0 131 1 (.slice ea (4*q) ec) (4*q) (hs.map eR)):=row;have xT:Hid (∀g,(Value.slice la m c).ownBlock=some g->g<w.heap.size/\g≠W):=fun g hg=>⟨ah hl hg,fun e=>by subst e;exact aA hl hW (by decide) hg.symm⟩;have Lm:8<cs.size:=(Array.getElem?_eq_some_iff.1 h11).1;have ZG:∀v:Value,(cs.setIfInBounds 8 v)[8]? = some v:=fun v=>by simp[Lm]
 have hq4:((4*q:Nat):Int) / 4=(q:Int):=by omega
 have aho:(4*(q:Int)) / 4=(q:Int):=by omega
 have Gw:Hid (∀g,la=some ⟨g,0,none⟩->g<w.heap.size):=fun g hg=>by subst hg;exact ah hl rfl
 obtain⟨M,hM⟩:∃M,M=zq q:=⟨_,rfl⟩;have vM:Hid (Calls prog 58 #[.int .i64 (q:Int)] w fun e w'=>e=.returned (.string M)/\Below w.heap.size w w'):=by rw[hM];exact IV q w (by omega)
 rw[<-hM];clear hM;clear hl row;go_enter func93,ntmps93;go_wp2_with fail;refine Calls.mono vM.out ?_;rintro _ w0 ⟨rfl,Wv⟩;have Lp:Hid (Below w.heap.size w w0):=Wv;have hs0:w.heap.size<=w0.heap.size:=Wv.size;have HFI:Hid (∃rest:List Value,rest.length=m-0/\w0.ownsRow 0 9 1 (.slice la m c) m (List.replicate 0 (Value.string M)++rest)):=⟨xs,by have:=HC.out.1;omega,by simpa using ai HC.out (fun x hx=>Lp.out.block x (ah HC.out hx))⟩;have HK0:Hid (ax (fun x=>some x=(Value.slice la m c).ownBlock) w w0):=ax.aM Wv;clear Wv e11;go_wp2
 go_loopw [5] (fun i wr=>∃k:Nat,k<=m/\i=.int .i64 (k:Int)/\Hid (ax (fun x=>some x=(Value.slice la m c).ownBlock) w wr)/\Hid (∃rest:List Value,rest.length=m-k/\wr.ownsRow 0 9 1 (.slice la m c) m (List.replicate k (Value.string M)++rest))) (fun i _=>m-(intOf i).toNat)
 case atStart=>exact⟨0,dG _,rfl,HK0.out,HFI.out⟩
 case round=>
  obtain⟨k,hk,rfl,HK,HF⟩:=hrel;have hsz:w.heap.size<=wr.heap.size:=HK.out.size;by_cases hlt:k<m
  ·obtain⟨rest,uS,hown⟩:=HF.out
   obtain⟨g,cg,Vz⟩:=ak hown (by omega);have xR:=(Value.slice.inj Vz).1;subst xR;have ET:=fun j=>hown.frozenAt j;have hcs:∃v,wr.cell? ⟨g,k,none⟩=some v:=by
    rw[hown.cellAt k (by omega)];exact⟨_,kO (by rw[List.length_append,List.length_replicate,uS];omega)⟩
   obtain⟨v0,y0⟩:=hcs;have uP:(k:Int)<(m:Int):=by omega
   have fo:g<wr.heap.size:=ah hown rfl;have HO:Hid _:=hown;clear hown Vz;go_wp2;go_roundw
   case rel=>
    refine⟨k+1,by omega,by go_num,?_,?_⟩
    ·exact⟨HK.out.os,HK.out.tape,HK.out.output,by simpa using HK.out.size,fun x hx hne=>by
      have Ra:x≠g:=fun e=>hne (by rw[e];rfl);rw[Below.heap_setCell _ _ _ _ Ra];exact HK.out.block x hx hne⟩
    ·exact⟨rest.drop 1,by rw[List.length_drop,uS];omega,acR HO.out (by omega)⟩
   case measure=>simp[intOf];omega
  ·have j4:k=m:=by omega
   subst j4;have Zo:Hid (wr.ownsRow 0 9 1 (.slice la k c) k (List.replicate k (.string M))):=by
    obtain⟨rest,h2,h3⟩:=HF.out
    have:rest = []:=List.eq_nil_of_length_eq_zero (by rw[h2];omega)
    subst this;show World.ownsRow _ _ _ _ _ _ _;simpa using h3
   have O0:((k:Int)<(k:Int))=False:=by simp
   clear HF;have ahp:w.heap.size<=wr.heap.size:=hsz;go_wp2_with (at_builtin;refine gJ rfl (.tmp 26) (.tmp 28) 131 rfl 9 i0 _ 16 underlying131 hi hz0 hz1 hz2 rfl (.string M) rfl la k c rfl (World.ownsRow.alloc Zo.out _) ⟨wr.heap.size,0,none⟩ 1 1 (by decide) rfl (jL wr [.string M] 9) (by unfold maxLen;omega) (by omega) ?_);intro va0 wa Q8 pQ Wu;obtain⟨aa,ca,rfl,hNa⟩:=jN Wu (base:=w.heap.size) (by simp;omega);have sa:=ov Wu;have HKa:Hid (ax (fun x=>some x=(Value.slice la k c).ownBlock) w wa):=l7 HK.out Wu;have HLa:Hid (wa.ownsRow 0 9 1 (.slice la k c) k (List.replicate k (.string M))):=pQ;have HSa:Hid (lQ 9 (.string M) wa (aa,k+1,ca)):=Q8;have ZH:Hid (xo la c w.heap.size (aa,k+1,ca)):=hNa;clear Q8 pQ Wu hNa;go_wp2_with (at_builtin;refine gJ rfl (.tmp 30) (.tmp 33) 131 rfl 9 i0 _ 16 underlying131 hi hz0 hz1 hz2 rfl (.string M) rfl la k c rfl (World.ownsRow.alloc HLa.out _) ⟨wa.heap.size,0,none⟩ 2 2 (by decide) rfl (jL wa [.string M,.string M] 9) (by unfold maxLen;omega) (by omega) ?_);intro vb0 wb pG Ky Ti;obtain⟨ab,cb,rfl,hNb⟩:=jN Ti (base:=w.heap.size) (by simp;omega);have sb:=ov Ti;have HKb:Hid (ax (fun x=>some x=(Value.slice la k c).ownBlock) w wb):=l7 HKa.out Ti;have HLb:Hid (wb.ownsRow 0 9 1 (.slice la k c) k (List.replicate k (.string M))):=Ky;have ZI:Hid (lQ 9 (.string M) wb (aa,k+1,ca)):=ou (World.ownsRow.alloc HSa.out _) ZH.out Gw.out Ti pG (by show k+1<=_;omega);have HSb:Hid (lQ 9 (.string M) wb (ab,k+2,cb)):=pG;have HNb:Hid (xo la c w.heap.size (ab,k+2,cb)):=hNb;clear pG Ky Ti hNb;go_wp2_with (at_builtin;refine gJ rfl (.tmp 35) (.tmp 39) 131 rfl 9 i0 _ 16 underlying131 hi hz0 hz1 hz2 rfl (.string M) rfl la k c rfl (World.ownsRow.alloc HLb.out _) ⟨wb.heap.size,0,none⟩ 3 3 (by decide) rfl (jL wb [.string M,.string M,.string M] 9) (by unfold maxLen;omega) (by omega) ?_);intro vc0 wc J6 hlc Pr;obtain⟨ac,cc,rfl,hNc⟩:=jN Pr (base:=w.heap.size) (by simp;omega);have sc:=ov Pr;have Ln:Hid (ax (fun x=>some x=(Value.slice la k c).ownBlock) w wc):=l7 HKb.out Pr;have HLc:Hid (wc.ownsRow 0 9 1 (.slice la k c) k (List.replicate k (.string M))):=hlc;have ZJ:Hid (lQ 9 (.string M) wc (aa,k+1,ca)):=ou (World.ownsRow.alloc ZI.out _) ZH.out Gw.out Pr J6 (by show k+1<=_;omega);have ZK:Hid (lQ 9 (.string M) wc (ab,k+2,cb)):=ou (World.ownsRow.alloc HSb.out _) HNb.out Gw.out Pr J6 (by show k+2<=_;omega);have HSc:Hid (lQ 9 (.string M) wc (ac,k+3,cc)):=J6;have HNc:Hid (xo la c w.heap.size (ac,k+3,cc)):=hNc;clear J6 hlc Pr hNc;have DT:wc.heap[W]? = some (.cells cs 71 (0,0)):=by
    rw[Ln.out.block W (by omega) (fun e=>(xT.out W e.symm).2 rfl)];exact hW
   have Nr:Hid (wc.ownsRow 0 131 1 (.slice ea (4*q) ec) (4*q) (hs.map eR)):=ai HR.out (fun g hg=>by
    have hl:=ah HR.out hg;exact Ln.out.block g (by omega) (fun e=>cS HR.out HC.out (by decide) hg e))
   have acn:W<wc.heap.size:=by omega
   have p8:wc.cell? ⟨W,8,none⟩=some (.slice ea (4*q) ec):=by simp[World.cell?,DT,h11]
   have f8:wc.frozen? ⟨W,8,none⟩=false:=by simp[World.frozen?,DT]
   go_wp2_with (at_builtin;refine aY rfl (.tmp 45) (.tmp 47) 64 rfl 0 131 iS _ 1 24 underlying64 hS Gz hS1 yy rfl (by decide) (.slice ea (4*q) ec) (4*q) (hs.map eR) rfl (World.ownsRow.alloc Nr.out _) ⟨wc.heap.size,0,none⟩ 1 1 [.slice la k c] rfl rfl (one_cell _ _ _ _ rfl) gI (by unfold maxLen;omega) (by omega) (dG _) ?_);intro v1 w1 Fg hg1 pJ;obtain⟨g1,c1,rfl⟩:=ak Fg (by omega);have P1:=cq (i:=8) DT Nr.out (by decide) (bh _ _) (by simp) ⟨rfl,rfl,rfl⟩ Fg hg1 pJ (by omega);have hW1:=dW DT (bh _ _) (by simp) hg1 (aA Nr.out DT (by decide));have s1:wc.heap.size<=w1.heap.size:=by have:=hg1.size;simp at this;omega
   have p81:w1.cell? ⟨W,8,none⟩=some (.slice ea (4*q) ec):=by simp[World.cell?,hW1,h11]
   have f81:w1.frozen? ⟨W,8,none⟩=false:=by simp[World.frozen?,hW1]
   have H1:Hid _:=P1;have Zq:W<w1.heap.size:=by omega
   clear Fg hg1 pJ P1 hW1 p8 f8;go_wp2_with (at_builtin;refine aY rfl (.tmp 55) (.tmp 57) 64 rfl 0 131 iS _ 1 24 underlying64 hS Gz hS1 yy rfl (by decide) (.slice (some ⟨g1,0,none⟩) (4*q+1) c1) (4*q+1) (hs.map eR ++ [.slice la k c]) rfl (World.ownsRow.alloc H1.out.2.1 _) ⟨w1.heap.size,0,none⟩ 1 1 [.slice aa (k+1) ca] rfl rfl (one_cell _ _ _ _ (by simp)) gI (by unfold maxLen;omega) (by omega) (dG _) ?_);intro v2 w2 Fh hg2 pK;obtain⟨g2,c2,rfl⟩:=ak Fh (by omega);have Ih:w2.ownsRow 0 131 1 (.slice (some ⟨g2,0,none⟩) (4*q+1+1) c2) (4*q+1+1) (hs.map eR ++ [.slice la k c] ++ [.slice aa (k+1) ca]):=by simpa using Fh
   have P2:=cq (i:=8) H1.out.1 H1.out.2.1 (by decide) (bh _ _) (by simp) ⟨rfl,rfl,rfl⟩ Ih hg2 pK (by simp);have hW2:=dW H1.out.1 (bh _ _) (by simp) hg2 (aA H1.out.2.1 H1.out.1 (by decide));have s2:w1.heap.size<=w2.heap.size:=by have:=hg2.size;simp at this;omega
   have p82:w2.cell? ⟨W,8,none⟩=some (.slice (some ⟨g1,0,none⟩) (4*q+1) c1):=by simp[World.cell?,hW2,ZG]
   have f82:w2.frozen? ⟨W,8,none⟩=false:=by simp[World.frozen?,hW2]
   have H2:Hid _:=P2;have V4:W<w2.heap.size:=by omega
   clear Fh Ih hg2 pK P2 hW2 p81 f81;go_wp2_with (at_builtin;refine aY rfl (.tmp 65) (.tmp 67) 64 rfl 0 131 iS _ 1 24 underlying64 hS Gz hS1 yy rfl (by decide) (.slice (some ⟨g2,0,none⟩) (4*q+1+1) c2) (4*q+1+1) (hs.map eR ++ [.slice la k c] ++ [.slice aa (k+1) ca]) rfl (World.ownsRow.alloc H2.out.2.1 _) ⟨w2.heap.size,0,none⟩ 1 1 [.slice ab (k+2) cb] rfl rfl (one_cell _ _ _ _ (by simp)) gI (by unfold maxLen;omega) (by omega) (dG _) ?_);intro v3 w3 wL hg3 kG;obtain⟨g3,c3,rfl⟩:=ak wL (by omega);have Ii:w3.ownsRow 0 131 1 (.slice (some ⟨g3,0,none⟩) (4*q+1+1+1) c3) (4*q+1+1+1) (hs.map eR ++ [.slice la k c] ++ [.slice aa (k+1) ca] ++ [.slice ab (k+2) cb]):=by simpa using wL
   have P3:=cq (i:=8) H2.out.1 H2.out.2.1 (by decide) (bh _ _) (by simp) ⟨rfl,rfl,rfl⟩ Ii hg3 kG (by simp);have hW3:=dW H2.out.1 (bh _ _) (by simp) hg3 (aA H2.out.2.1 H2.out.1 (by decide));have s3:w2.heap.size<=w3.heap.size:=by have:=hg3.size;simp at this;omega
   have p83:w3.cell? ⟨W,8,none⟩=some (.slice (some ⟨g2,0,none⟩) (4*q+1+1) c2):=by simp[World.cell?,hW3,Lm]
   have f83:w3.frozen? ⟨W,8,none⟩=false:=by simp[World.frozen?,hW3]
   have H3:Hid _:=P3;have Zr:W<w3.heap.size:=by omega
   clear wL Ii hg3 kG P3 hW3 p82 f82;go_wp2_with (at_builtin;refine aY rfl (.tmp 75) (.tmp 77) 64 rfl 0 131 iS _ 1 24 underlying64 hS Gz hS1 yy rfl (by decide) (.slice (some ⟨g3,0,none⟩) (4*q+1+1+1) c3) (4*q+1+1+1) (hs.map eR ++ [.slice la k c] ++ [.slice aa (k+1) ca] ++ [.slice ab (k+2) cb]) rfl (World.ownsRow.alloc H3.out.2.1 _) ⟨w3.heap.size,0,none⟩ 1 1 [.slice ac (k+3) cc] rfl rfl (one_cell _ _ _ _ (by simp)) gI (by unfold maxLen;omega) (by omega) (dG _) ?_);intro v4 w4 KV hg4 qz;obtain⟨g4,c4,rfl⟩:=ak KV (by omega);have Ij:w4.ownsRow 0 131 1 (.slice (some ⟨g4,0,none⟩) (4*q+1+1+1+1) c4) (4*q+1+1+1+1) (hs.map eR ++ [.slice la k c] ++ [.slice aa (k+1) ca] ++ [.slice ab (k+2) cb] ++ [.slice ac (k+3) cc]):=by simpa using KV
   have P4:=cq (i:=8) H3.out.1 H3.out.2.1 (by decide) (bh _ _) (by simp) ⟨rfl,rfl,rfl⟩ Ij hg4 qz (by simp);have Bq:=dW H3.out.1 (bh _ _) (by simp) hg4 (aA H3.out.2.1 H3.out.1 (by decide));have p84:w4.cell? ⟨W,8,none⟩=some (.slice (some ⟨g3,0,none⟩) (4*q+1+1+1) c3):=by simp[World.cell?,Bq,Lm]
   have f84:w4.frozen? ⟨W,8,none⟩=false:=by simp[World.frozen?,Bq]
   have H4:Hid _:=P4;clear KV Ij hg4 qz P4 Bq p83 f83;have HKC:Hid (ax (fun x=>x=W\/some x=(Value.slice ea (4*q) ec).ownBlock\/some x=(Value.slice la k c).ownBlock) w wc):=
    ⟨Ln.out.os,Ln.out.tape,Ln.out.output,Ln.out.size,fun x hx hne=>Ln.out.block x hx (fun e=>hne (.inr (.inr e)))⟩
   have T1:=iE (t:=9) (by decide) (by decide) (by decide) DT Nr.out (fun x hx=>.inl hx.symm) HKC.out H1.out;have T2:=iE (t:=9) (by decide) (by decide) (by decide) H1.out.1 H1.out.2.1 T1.1 T1.2.1 H2.out;have T3:=iE (t:=9) (by decide) (by decide) (by decide) H2.out.1 H2.out.2.1 T2.1 T2.2.1 H3.out;have T4:=iE (t:=9) (by decide) (by decide) (by decide) H3.out.1 H3.out.2.1 T3.1 T3.2.1 H4.out;have qA:Hid (BS 9 131 (.string M) 8 w (w4.setCell ⟨W,8,none⟩ (.slice (some ⟨g4,0,none⟩) (4*q+1+1+1+1) c4)) W q cs ea ec la k c hs):=by
    have all:∀{b:Nat} {v:Value} {l:Nat} {ys:List Value},wc.ownsRow b 9 1 v l ys->(w4.setCell ⟨W,8,none⟩ (.slice (some ⟨g4,0,none⟩) (4*q+1+1+1+1) c4)).ownsRow b 9 1 v l ys:=fun h=>T4.2.2 (T3.2.2 (T2.2.2 (T1.2.2 h)));refine⟨g4,c4,(aa,k+1,ca),(ab,k+2,cb),(ac,k+3,cc),?_,?_,rfl,rfl,rfl,?_,T4.1 g4 rfl,T4.2.1⟩
    ·have:=H4.out.1
     simpa using this
    ·have:=H4.out.2.1
     simpa [eR] using this
    ·intro h hh
     simp only[List.mem_cons,List.not_mem_nil,or_false] at hh;rcases hh with rfl | rfl | rfl | rfl
     ·exact⟨all HLc.out,.inl ⟨rfl,rfl⟩⟩
     ·exact⟨all ZJ.out,ZH.out⟩
     ·exact⟨all ZK.out,HNb.out⟩
     ·exact⟨all HSc.out,HNc.out⟩
   clear T1 T2 T3 T4;go_wp2;go_end0;exact⟨rfl,qA.out⟩
def av (l:List ByteArray):Array Value:=#[.string (l.getD 0 ⟨#[]⟩),.string (l.getD 1 ⟨#[]⟩),.string (l.getD 2 ⟨#[]⟩),.string (l.getD 3 ⟨#[]⟩),.string (l.getD 4 ⟨#[]⟩)]
def bn (l:List ByteArray):Value:=.agg (av l)
structure Good (l:List ByteArray):Prop where
 val:aI l
 len:l.length<=5
theorem Good.nil:Good []:=⟨fun x hx=>by simp at hx,by simp⟩
theorem Good.take {l:List ByteArray}(h:Good l)(k:Nat):Good (l.take k):=⟨fun x hx=>h.val x (List.mem_of_mem_take hx),by have:=h.len;rw[List.length_take];omega⟩
theorem Good.dropLast {l:List ByteArray}(h:Good l):Good l.dropLast:=by rw[List.dropLast_eq_take];exact h.take _
theorem qg:147<prog.types.size:=of_decide_eq_true (by kernel_rfl)
theorem Tj:prog.keyTypeAt 9 147=true:=by kernel_rfl
theorem vN:Maps.Keyed prog 147:=Maps.Keyed.of_law (deep_law_laid laidOut (m:=9) (by omega) qg Tj (by rw[underlying147]))
theorem Tk:prog.cellsOf 147=5:=by kernel_rfl
theorem ac0:prog.keyType 147=true:=by kernel_rfl
theorem Pt {l:List ByteArray}(h:aI l)(i:Nat):(l.getD i ⟨#[]⟩).size<=maxLen:=by
 rw[List.getD_eq_getElem?_getD];by_cases hi:i<l.length
 ·rw[kO hi]
  have:=(eo (h _ (jk hi))).2
  show (l[i]).size<=maxLen;unfold maxLen;omega
 ·rw[List.getElem?_eq_none (by omega)];decide
theorem ac1 (d:Nat)(l:List ByteArray)(h:aI l):∃ls,prog.keyLits (d+2) 147 (av l).toList=some ls:=by
 have a:∀i,prog.keyLits (d+1) 9 [.string (l.getD i ⟨#[]⟩)]=some [.string (l.getD i ⟨#[]⟩).data.toList]:=fun i=>by
  have:=Pt h i
  generalize l.getD i ⟨#[]⟩=x at this;unfold Program.keyLits;simp[underlying9,this]
 obtain⟨ys,VR⟩:=mapM_some (fun i=>prog.keyLits (d+1) 9 (((av l).toList.drop (i*1)).take 1)) (List.range 5) (by
  intro i hi;rw[List.mem_range] at hi;have key:((av l).toList.drop (i*1)).take 1 = [.string (l.getD i ⟨#[]⟩)]:=by
   rcases (show i=0\/i=1\/i=2\/i=3\/i=4 by omega) with rfl | rfl | rfl | rfl | rfl <;> rfl
  rw[key];exact⟨_,a i⟩)
 refine⟨ys.flatten,?_⟩;have hl:(av l).toList.length=5:=rfl;unfold Program.keyLits;simp only[underlying147,Tk,hl,if_true,Ry,VR,Option.map_some]
def lp (P:Program)(l:List ByteArray):Lit:=(keyOf P 147 (bn l)).getD .nil
theorem j9 {l:List ByteArray}(h:aI l):keyOf prog 147 (bn l)=some (lp prog l):=by
 have hx:∃k,keyOf prog 147 (bn l)=some k:=by
  have hfo:Value.formed prog 147 (.agg (av l))=true:=by
   unfold Value.formed;rw[underlying147];simp[Tk,av]
  obtain⟨n,hn⟩:∃n,prog.types.size+1=n+2:=⟨prog.types.size-1,by have:=qg;omega⟩;obtain⟨ls,CO⟩:=ac1 n l h;unfold keyOf bn;rw[underlying147];simp only[ac0,hfo,Bool.and_self,if_true,Value.cells,hn,CO,Option.map_some];exact⟨_,rfl⟩
 obtain⟨k,hk⟩:=hx;unfold lp;rw[hk];rfl
theorem D7 {x:ByteArray}(h:aF x=true):x≠⟨#[]⟩:=fun e=>by
 have:=(eo h).1
 rw[e] at this
 exact absurd this (by decide)
theorem Pu {p q:List ByteArray}(hp:Good p)(hq:Good q)(h:av p=av q):p=q:=by
 have key:∀i,i<5->p.getD i ⟨#[]⟩=q.getD i ⟨#[]⟩:=by
  intro i hi;unfold av at h;simp only[Array.mk.injEq,List.cons.injEq,Value.string.injEq,and_true] at h;rcases (show i=0\/i=1\/i=2\/i=3\/i=4 by omega) with rfl | rfl | rfl | rfl | rfl
  ·exact h.1
  ·exact h.2.1
  ·exact h.2.2.1
  ·exact h.2.2.2.1
  ·exact h.2.2.2.2
 have h5:=hp.len;have k5:=hq.len;apply List.ext_getElem?;intro i;by_cases hi:i<5
 ·have k:=key i hi
  rw[List.getD_eq_getElem?_getD,List.getD_eq_getElem?_getD] at k;cases ha:p[i]? with
  | none=>
   cases hb:q[i]? with
   | none=>rfl
   | some y=>rw[ha,hb] at k;exact absurd k.symm (D7 (hq.val y (List.mem_of_getElem? hb)))
  | some x=>
   cases hb:q[i]? with
   | none=>rw[ha,hb] at k;exact absurd k (D7 (hp.val x (List.mem_of_getElem? ha)))
   | some y=>rw[ha,hb] at k;exact congrArg some k
 ·rw[List.getElem?_eq_none (by omega),List.getElem?_eq_none (by omega)]
theorem qH {p q:List ByteArray}(hp:Good p)(hq:Good q)(h:lp prog p=lp prog q):p=q:=by
 have a:=j9 hp.val;have b:=j9 hq.val;rw[<-h] at b
 have:=vN.inj a b
 exact Pu hp hq (Value.agg.inj this)
theorem NJ {p:List ByteArray}(hp:Good p):WideAt.IsKeyLit (lp prog p):=vN.key (j9 hp.val)
theorem fB {p q:List ByteArray}(hp:Good p)(hq:Good q)(w:World):(Op.equal 147 (bn p) (bn q)).run prog w=.ok (decide (p=q)) w:=by
 obtain⟨r,hr,Ww⟩:=run_equal_deep w (m:=9) (by omega) Tj (by rw[underlying147]) (j9 hp.val) (j9 hq.val);rw[hr]
 have:r=decide (p=q):=by
  by_cases e:p=q
  ·subst e;rw[decide_eq_true rfl];exact Ww.2 rfl
  ·rw[dY e]
   cases CW:r with
   | false=>rfl
   | true=>exact absurd (qH hp hq (Ww.1 CW)) e
 rw[this]
end Go.Proofs.YtlgidcmmgohagaaGreat
