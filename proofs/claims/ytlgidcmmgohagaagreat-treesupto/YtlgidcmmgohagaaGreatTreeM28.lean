/- What is proved here: xI below and all answer all that stands in a tree. -/
import Derived.Test.YtlgidcmmgohagaaGreatTreeM27
import Derived.Test.YtlgidcmmgohagaaGreatTreeM26
import Derived.Test.YtlgidcmmgohagaaGreatTreeM25
import Derived.Test.YtlgidcmmgohagaaGreatTreeM05
import Derived.Test.YtlgidcmmgohagaaGreatTreeM09
import Derived.Test.YtlgidcmmgohagaaGreatTreeM14
import Derived.Test.YtlgidcmmgohagaaGreatTreeM12
namespace Go.Proofs.YtlgidcmmgohagaaGreat
open Go.RowKit Go.Sort Go.Shelf Go.Proofs.Tryz
set_option linter.unusedVariables false
set_option maxRecDepth 100000
set_option maxHeartbeats 16000000
section
variable {s i p:Nat}{B:WB}{ag:List Ob}
end

theorem vX {a:List Ob}{t:LT}(h:kids a t=none):fq a t=(5,[]):=by cases t <;> simp[kids,fq] at h ⊢
theorem rY {a:List Ob}{t:LT}{ks:Kids}(h:kids a t=some ks):fq a t=(0,ks):=by cases t <;> simp[kids,fq] at h ⊢ <;> exact h
section
variable {a b:List Ob}{fc fc':e7}
theorem rZ {t:LT}{r:List ByteArray}(h:(bK a t r).1=0):t.at a r.reverse=some (bK a t r).2:=by
 rcases wV a (fun _=>⟨#[]⟩) t r with ⟨_,h2⟩ | ⟨h1,_⟩
 ·exact h2
 ·exact absurd h h1
theorem Uu {a:List Ob}(hX:Exact a){n:Nat}{t:LT}{ks:Kids}(hk:kids a t=some ks)(lM:∀id,t=.dir id->aH a id=2):iX a (n+1) t=ks.foldl (fun h x=>max h (1+iX a n x.2)) 0:=by
 cases t with
 | file id=>cases hk
 | held f=>cases hk
 | own es=>cases hk;rw[iX]
 | dir id=>
  cases hk;rw[iX,hX.high id (lM id rfl),List.foldl_map];unfold dn
  congr 1
  funext h e
  unfold iA ltOf;split <;> rw[iX]
theorem Mm {a:List Ob}{n:Nat}{t:LT}(h:bu a n t):∀id,t=.dir id->aH a id=2:=fun id e=>by subst e;rw[bu] at h;exact h.1
theorem Uv {a:List Ob}(hX:Exact a){n m:Nat}{t:LT}(h:bu a m t)(hk:t.kind≠2):iX a n t=0:=by
 cases t with
 | file id=>rw[iX];rw[bu] at h;exact hX.low id h
 | held f=>rw[iX]
 | own es=>exact absurd rfl hk
 | dir id=>exact absurd rfl hk
end
section
variable {a:List Ob}{fc:e7}
theorem QC (x:List ByteArray):gV a fc (.own []) x=if x = [] then some .dir else none:=by
 cases x with
 | nil=>rw[gY];rfl
 | cons n r=>rw[fe,ay (by simp)];rfl
theorem Cm {t:LT}{r:List ByteArray}:(gK a t r).1≠14:=by
 unfold gK;simp only;rcases wV a (fun _=>⟨#[]⟩) t r with ⟨h,_⟩ | ⟨h,_,h2⟩
 ·rw[ay (by simp[h])];exact sN _ _
 ·rw[aL h]
  show (bK a t r).1≠14;omega
theorem tX {t:LT}{r:List ByteArray}(h:(gK a t r).1=0):∃d,t.at a r.reverse=some d/\kids a d=some (gK a t r).2:=by
 have:=Gb (ag:=a) (t:=t) (fs:=bT) (r:=r) (by rw[kX];exact h)
 rw[kX] at this;exact this
theorem Xr {t d c:LT}{q:List ByteArray}{n:ByteArray}{ks:Kids}(ha:t.at a q=some d)(hk:kids a d=some ks)(hr:aU ks)(x:List ByteArray):
  gV a fc (dK a (fun ks=>eH ks n c) q t) x=if q ++ [n] <+: x then gV a fc c (x.drop (q ++ [n]).length) else gV a fc t x:=by
 obtain⟨p1,p2⟩:=Np (fc:=fc) (n:=n) hr ha hk c;by_cases hx:(q ++ [n]) <+: x
 ·rw[aL hx]
  obtain⟨r,rfl⟩:=hx;rw[List.drop_left,show q ++ [n]++r=q++n :: r by simp,p1]
 ·rw[ay hx,p2 x hx]
theorem xK {p x:List ByteArray}(h:p <+: x):x.drop p.length = []↔x=p:=by
 obtain⟨r,rfl⟩:=h;rw[List.drop_left];constructor
 ·rintro rfl;simp
 ·intro e;simpa using e
theorem Mn {t:LT}(hS:Sound a)(cz:bu a 5 t)(n:ByteArray)(r:List ByteArray){er:Int}{t':LT}(h:(gG a t bT (n :: r)).2=(er,t')):
  er≠14/\(er≠0->t'=t)/\(er=0->gV a fc t (r.reverse ++ [n])=none/\∀x,gV a fc t' x=if x=r.reverse ++ [n] then some .dir else if r.reverse ++ [n] <+: x then none else gV a fc t x):=by
 unfold gG at h;simp only[kX] at h;split at h
 ·rename_i h0
  cases h;exact⟨Cm,fun _=>rfl,fun e=>absurd e h0⟩
 ·rename_i h0
  have z:=Decidable.not_not.1 h0;obtain⟨d,ha,hk⟩:=tX z;have hr:=(cr hS (dN hS _ cz ha).2.1 hk).1;split at h
  ·cases h;exact⟨by decide,fun _=>rfl,fun e=>by cases e⟩
  ·rename_i hp
   split at h
   ·cases h;exact⟨by decide,fun _=>rfl,fun e=>by cases e⟩
   ·cases h
    refine⟨by decide,fun e=>absurd rfl e,fun _=>⟨?_,fun x=>?_⟩⟩
    ·rw[nN ha hk]
     cases lJ:aS (gK a t r).2 n with
     | none=>rfl
     | some c=>rw[lJ] at hp;exact absurd rfl hp
    ·rw[Xr ha hk hr,QC]
     by_cases hx:r.reverse ++ [n] <+: x
     ·rw[aL hx]
      by_cases e:x=r.reverse ++ [n]
      ·rw[aL ((xK hx).2 e),aL e]
      ·rw[ay (fun h=>e ((xK hx).1 h)),ay e,aL hx]
     ·rw[ay hx,ay (fun e=>hx (by rw[e];exact List.prefix_refl _)),ay hx]
theorem Ep {t:LT}{n:ByteArray}{r:List ByteArray}(h:(bK a t (n :: r)).1=0):∃d ks,t.at a r.reverse=some d/\kids a d=some ks/\aS ks n=some (bK a t (n :: r)).2/\t.at a (r.reverse ++ [n])=some (bK a t (n :: r)).2:=by
 have:=rZ h
 rw[List.reverse_cons] at this;obtain⟨d,ks,h1,h2,h3⟩:=uq this;exact⟨d,ks,h1,h2,h3,this⟩
theorem Cn {t:LT}{r:List ByteArray}:(bK a t r).1≠14:=by
 rcases wV a (fun _=>⟨#[]⟩) t r with ⟨h,_⟩ | ⟨h,_,h2⟩ <;> omega
theorem zN (c:LT):(dA a bT c).2=0\/(dA a bT c).2=5\/(dA a bT c).2=8:=by
 unfold dA;simp only[oP];split
 ·exact .inl rfl
 ·split
  ·exact .inr (.inr rfl)
  ·show (fq a c).1=0\/(fq a c).1=5\/(fq a c).1=8
   cases c <;> simp[fq]
theorem QD (b:Bool)(ks:Kids)(n:ByteArray)(c:LT):(jR a bT b ks n c).2≠14:=by
 unfold jR;cases aS ks n with
 | none=>simp only;split <;> simp
 | some e=>
  simp only;unfold jh;split
  ·simp
  ·split
   ·simp
   ·have:=zN (a:=a) e
    omega
theorem Jy {t:LT}(hS:Sound a)(cz:bu a 5 t)(n:ByteArray)(r:List ByteArray){er:Int}{t':LT}(h:(eE a t bT (n :: r)).2=(er,t')):
  er≠14/\(er≠0->t'=t)/\(er=0->gV a fc t (r.reverse ++ [n])≠none/\∀x,gV a fc t' x=if r.reverse ++ [n] <+: x then none else gV a fc t x):=by
 unfold eE at h;simp only[jV] at h;split at h
 ·rename_i h0
  cases h;exact⟨Cn,fun _=>rfl,fun e=>absurd e h0⟩
 ·rename_i h0
  have z:=Decidable.not_not.1 h0;obtain⟨d,ks,ha,hk,hp,hat⟩:=Ep z;have hr:=(cr hS (dN hS _ cz ha).2.1 hk).1;split at h
  ·rename_i hv
   cases h
   have:=zN (a:=a) (bK a t (n :: r)).2
   exact⟨by omega,fun _=>rfl,fun e=>absurd e hv⟩
  ·cases h
   obtain⟨s1,s2⟩:=Ic (fc:=fc) hr (by rw[<-dR hr,hp];rfl) ha hk;refine⟨by decide,fun e=>absurd rfl e,fun _=>⟨by unfold gV;rw[hat];simp,fun x=>?_⟩⟩;by_cases hx:r.reverse ++ [n] <+: x
   ·rw[aL hx]
    obtain⟨y,rfl⟩:=hx;rw[show r.reverse ++ [n]++y=r.reverse++n :: y by simp,s1]
   ·rw[ay hx,s2 x hx]
theorem Jz {t:LT}(hS:Sound a)(cz:bu a 5 t)(n m:ByteArray)(r q:List ByteArray){er:Int}{t':LT}(h:(eA a t bT (n :: r) (m :: q)).2=(er,t')):
  er≠14/\(er≠0->t'=t)/\(er=0->gV a fc t (r.reverse ++ [n])≠none/\(r.reverse ++ [n]≠q.reverse ++ [m]->¬r.reverse ++ [n] <+: q.reverse ++ [m])/\∀x,gV a fc t' x=if r.reverse ++ [n]=q.reverse ++ [m] then gV a fc t x else if q.reverse ++ [m] <+: x then gV a fc t (r.reverse ++ [n]++x.drop (q.reverse ++ [m]).length) else if r.reverse ++ [n] <+: x then none else gV a fc t x):=by
 have Dj:n :: r=m :: q↔r.reverse ++ [n]=q.reverse ++ [m]:=by
  rw[<-List.reverse_cons,<-List.reverse_cons];exact⟨fun e=>by rw[e],fun e=>List.reverse_inj.1 e⟩
 unfold eA at h;simp only[jV,kX,List.reverse_cons] at h;split at h
 ·rename_i h0
  cases h;exact⟨Cn,fun _=>rfl,fun e=>absurd e h0⟩
 ·rename_i h0
  have z:=Decidable.not_not.1 h0;obtain⟨d,ks,ha,hk,hp,hat⟩:=Ep z;have hr:=(cr hS (dN hS _ cz ha).2.1 hk).1;have hne:gV a fc t (r.reverse ++ [n])≠none:=by unfold gV;rw[hat];simp
  split at h
  ·cases h;exact⟨by decide,fun _=>rfl,fun e=>by cases e⟩
  ·rename_i qh
   split at h
   ·rename_i hl
    cases h;refine⟨Cm,fun _=>rfl,fun e=>?_⟩;rcases hl with hl | hl
    ·exact absurd e hl
    ·exact⟨hne,fun h=>absurd (Dj.1 hl) h,fun x=>by rw[aL (Dj.1 hl)]⟩
   ·rename_i hl
    have hl0:(gK a t q).1=0:=Decidable.not_not.1 (fun h=>hl (.inl h));have hle:¬n :: r=m :: q:=fun h=>hl (.inr h);have KL:¬r.reverse ++ [n] <+: q.reverse ++ [m]:=fun h=>qh ⟨h,hle⟩;split at h
    ·rename_i hv
     cases h;exact⟨QD _ _ _ _,fun _=>rfl,fun e=>absurd e hv⟩
    ·split at h
     ·cases h;exact⟨by decide,fun _=>rfl,fun e=>by cases e⟩
     ·cases h
      obtain⟨dt,hat',jQ⟩:=tX hl0;refine⟨by decide,fun e=>absurd rfl e,fun _=>⟨hne,fun _=>KL,fun x=>?_⟩⟩;rw[ay (fun e=>hle (Dj.2 e))];exact KP (fc:=fc) hS cz ha hk hp hat' jQ KL x
end
section
variable {a:List Ob}
end
section
variable {a b:List Ob}{fc fc':e7}
end
abbrev Slot:=Nat×WB×WG×LT
structure Ai (tg:aP)(w:World)(p:Nat)(ag:List Ob)(lim:Nat)(x:Slot):Prop where
 two:2<=x.1
 wp:pT tg w x.1 p x.2.1 ag x.2.2.1 lim
 flat:Flat ag x.2.2.2 x.2.2.1.ft
 ok:bu ag 5 x.2.2.2
 fl:Ga ag x.2.2.1.fl
 op:∀k,x.2.2.1.op k=none
 inj:dI ag x.2.2.2
theorem Ai.moves {P:Nat×Nat->Prop}{tg aC:aP}{w w':World}{p:Nat}{ag:List Ob}{lim:Nat}{x:Slot}(h:Ai tg w p ag lim x)(m:az P tg aC w w')(hn:∀k,¬P (x.1,k)):Ai aC w' p ag lim x:=⟨h.two,h.wp.moves m hn,h.flat,h.ok,h.fl,h.op,h.inj⟩
section
variable {W wr:World}{s p:Nat}{ag:List Ob}{lim:Nat}{ws:List Slot}{rows:List (Value×List Gc)}
end
structure tY (F:Nat->Prop)(t tl:TypeId)(V:Nat->Value)(w:World)(ea:Option Addr)(ec q:Nat)(hs:List fK):Prop where
 len:hs.length=4*q
 row:w.ownsRow 0 tl 1 (.slice ea (4*q) ec) (4*q) (hs.map eR)
 own:∀g,(Value.slice ea (4*q) ec).ownBlock=some g->F g
 lists:∀i (hi:i<hs.length),hs[i].2.1<=1000000000/\lQ t (V (i / 4)) w hs[i]/\∀g,(eR hs[i]).ownBlock=some g->F g
 lt:∀k,F k->k<w.heap.size
theorem tY.keep {F:Nat->Prop}{t tl:TypeId}{V:Nat->Value}{w w':World}{ea:Option Addr}{ec q:Nat}{hs:List fK}(h:tY F t tl V w ea ec q hs)(hk:∀k,F k->w'.heap[k]? = w.heap[k]?)(hz:w.heap.size<=w'.heap.size):tY F t tl V w' ea ec q hs:=
 ⟨h.len,ai h.row (fun g hg=>hk g (h.own g hg)),h.own,fun i hi=>⟨(h.lists i hi).1,ai (h.lists i hi).2.1 (fun g hg=>hk g ((h.lists i hi).2.2 g hg)),(h.lists i hi).2.2⟩,fun k dy=>cv (h.lt k dy) hz⟩
theorem tY.full {F:Nat->Prop}{t tl:TypeId}{V:Nat->Value}{w:World}{ea:Option Addr}{ec q:Nat}{hs:List fK}(h:tY F t tl V w ea ec q hs):∀i (hi:i<hs.length),BO w (V (i / 4)) hs[i]:=fun i hi j hj=>by
 have sw:=(h.lists i hi).2.1
 unfold lQ eR at sw
 obtain⟨g,e1,_,e2,_⟩:=row_one sw (i:=j) (v:=V (i / 4)) (by simp[hj])
 exact⟨g,e1,e2⟩
abbrev Doc:=Nat×List aK×List ByteArray×List Value
def VN (i:Nat):Value:=.string (zq i)
def VI (i:Nat):Value:=.int .i64 (-1000-(i:Int))
structure u9 where
 pt:gA
 wa:Option Addr
 wc:Nat
 ta:Option Addr
 tc:Nat
 na:Option Addr
 nc:Nat
 ea:Option Addr
 ec:Nat
 ia:Option Addr
 ic:Nat
 ns:List fK
 hs:List fK
 js:List fK
 FN:Nat->Prop
 FE:Nat->Prop
 FI:Nat->Prop
structure cW (R:u9)(tg:aP)(w:World)(B0 W s r p lim:Nat)(ag au:List Ob)(got:List Int)(ws:List Slot)(ds:List Doc)(q8 q9 fP:Nat):Prop where
 fresh:jC tg w
 old:∀k,k<B0->tg k=(0,0)
 size:B0<=w.heap.size
 brk:R.pt.b=false
 QE:vO tg w R.pt got
 Dk:got.length<=lim
 w3:W3 ⟨R.pt,p,[]⟩ (fun k=>tg k=(0,1)) (fun k=>tg k=(0,2)) (fun k=>tg k=(1,0)) w W s r ag au (.slice R.wa ws.length R.wc) (.slice R.ta ds.length R.tc) (.bool false) (.slice R.na (4*q8) R.nc) (.slice R.ea (4*q9) R.ec) (.slice none 0 0) (.slice R.ia (4*fP) R.ic)
 Dl:w.ownsRow 0 32 1 (.slice R.wa ws.length R.wc) ws.length (ws.map fun x=>ptr x.2.1.wb)
 r6:∀g,(Value.slice R.wa ws.length R.wc).ownBlock=some g->tg g=(0,3)
 ny:w.ownsRow 0 115 1 (.slice R.ta ds.length R.tc) ds.length (ds.map fun x=>ptr x.1)
 r7:∀g,(Value.slice R.ta ds.length R.tc).ownBlock=some g->tg g=(0,4)
 names:tY R.FN 9 131 VN w R.na R.nc q8 R.ns
 aV:Held R.FE w R.ea R.ec q9 R.hs
 ids:tY R.FI 29 59 VI w R.ia R.ic fP R.js
 holds:∀k,R.FN k\/R.FE k\/R.FI k->tg k=(0,0)/\B0<=k
 apart:∀k,¬(R.FN k/\R.FE k)/\¬(R.FN k/\R.FI k)/\¬(R.FE k/\R.FI k)
 xL:∀x ∈ ws,Ai tg w p ag lim x
 slot:∀j (h:j<ws.length),ws[j].1=j+2
 Mo:∀j (h:j<ds.length),b9 (fun k=>tg k=(0,8+j)) w ds[j].1 ds[j].2.1 ds[j].2.2.1 ds[j].2.2.2
 cnt:∀x,got.count x=(ws.map fun y=>y.2.2.1.fs.kn x).sum
theorem jC.lt {tg:aP}{w:World}(h:jC tg w){k:Nat}(hk:tg k≠(0,0)):k<w.heap.size:=by
 rcases Nat.lt_or_ge k w.heap.size with hl | hl
 ·exact hl
 ·exact absurd (h k hl) hk
theorem nh {tg:aP}{w:World}(h:jC tg w):Sep w (fun k=>tg k=(0,1)) (fun k=>tg k=(0,2)) (fun k=>tg k=(1,0)):=
 ⟨fun k hk=>h.lt (by rw[hk];decide),fun k hk=>⟨h.lt (by rw[hk];decide),fun e=>by rw[hk] at e;cases e⟩,fun k hk=>⟨h.lt (by rw[hk];decide),fun e=>by rw[hk] at e;cases e⟩,fun k hk e=>by rw[hk] at e;cases e⟩
section
variable {R:u9}{tg aC:aP}{w w':World}{B0 W s r p lim:Nat}{ag au:List Ob}{got:List Int}{ws:List Slot}{ds:List Doc}{q8 q9 fP:Nat}
theorem cW.after {P:Nat×Nat->Prop}(h:cW R tg w B0 W s r p lim ag au got ws ds q8 q9 fP)(m:az P tg aC w w')(hP:∀c,¬P (0,c)){nU:List Int}{eN:Nat}{AE:List Slot}{pt:gA}
  (hl:AE.length=ws.length)(hb:pt.b=false)(hI:kU pt (fun k=>aC k=(1,0)) w' s p ag)(hg:vO aC w' pt nU)(hlen:nU.length<=eN)(aiP:(AE.map fun x=>ptr x.2.1.wb)=ws.map fun x=>ptr x.2.1.wb)(hws:∀x ∈ AE,Ai aC w' p ag eN x)(aef:∀j (h:j<AE.length),AE[j].1=j+2)
  (JA:∀x,nU.count x=(AE.map fun y=>y.2.2.1.fs.kn x).sum):cW { R with pt:=pt } aC w' B0 W s r p eN ag au nU AE ds q8 q9 fP:=by
 have hf':=m.fresh h.fresh;have kept:∀k c,tg k=(0,c)->k<w.heap.size->w'.heap[k]? = w.heap[k]?:=fun k c hk hlt=>m.block k hlt (by rw[hk];exact hP c);have tagged:∀k c,c≠0->tg k=(0,c)->aC k=(0,c)/\w'.heap[k]? = w.heap[k]?:=fun k c hc hk=>by
  have hlt:=h.fresh.lt (by rw[hk];intro e;exact hc (congrArg Prod.snd e));exact⟨(m.tags k hlt).trans hk,kept k c hk hlt⟩
 have xM:∀k,R.FN k\/R.FE k\/R.FI k->k<w.heap.size->w'.heap[k]? = w.heap[k]?/\aC k=(0,0)/\B0<=k:=fun k hk hlt=>⟨kept k 0 (h.holds k hk).1 hlt,(m.tags k hlt).trans (h.holds k hk).1,(h.holds k hk).2⟩;have hw3:=h.w3;rw[<-hl] at hw3;refine⟨hf',fun k hk=>(m.tags k (cv hk h.size)).trans (h.old k hk),eU h.size m.size,hb,hg,hlen,⟨hw3.law.keep (fun k hk=>(tagged k 1 (by decide) hk).1) (fun k hk=>(tagged k 1 (by decide) hk).2),hw3.ref.keep (fun k hk=>(tagged k 2 (by decide) hk).1) (fun k hk=>(tagged k 2 (by decide) hk).2),⟨hI,hw3.uQ.2⟩,hw3.twin,hw3.at_,nh hf'⟩,?_,?_,?_,?_,?_,?_,?_,?_,h.apart,hws,aef,?_,JA⟩
 ·rw[hl,aiP]
  exact ai h.Dl (fun g hg=>(tagged g 3 (by decide) (h.r6 g hg)).2)
 ·rw[hl];exact fun g hg=>(tagged g 3 (by decide) (h.r6 g hg)).1
 ·exact ai h.ny (fun g hg=>(tagged g 4 (by decide) (h.r7 g hg)).2)
 ·exact fun g hg=>(tagged g 4 (by decide) (h.r7 g hg)).1
 ·exact h.names.keep (fun k hk=>(xM k (.inl hk) (h.names.lt k hk)).1) m.size
 ·exact h.aV.keep (fun k hk=>(xM k (.inr (.inl hk)) (h.aV.lt k hk)).1) m.size
 ·exact h.ids.keep (fun k hk=>(xM k (.inr (.inr hk)) (h.ids.lt k hk)).1) m.size
 ·intro k hk
  have hlt:k<w.heap.size:=by
   rcases hk with e | e | e
   ·exact h.names.lt k e
   ·exact h.aV.lt k e
   ·exact h.ids.lt k e
  exact (xM k hk hlt).2
 ·intro j hj
  obtain⟨na,nc,da,dc,hst⟩:=h.Mo j hj;exact⟨na,nc,da,dc,hst.keep (fun k hk=>(tagged k (8+j) (by omega) hk).1) (fun k hk=>(tagged k (8+j) (by omega) hk).2)⟩
theorem cW.Xs (h:cW R tg w B0 W s r p lim ag au got ws ds q8 q9 fP):gj tg w s p ag got false lim:=⟨h.fresh,R.pt,h.brk,h.w3.uQ.1,h.QE,h.w3.uQ.2.2.1.sound,h.Dk⟩
theorem cW.below (h:cW R tg w B0 W s r p lim ag au got ws ds q8 q9 fP)(hb:Below w.heap.size w w'):cW R tg w' B0 W s r p lim ag au got ws ds q8 q9 fP:=by
 have m:az (fun _=>False) tg tg w w':=az.aM hb;exact h.after m (fun _ h=>h) rfl h.brk (h.w3.uQ.1.below hb (fun _ _ h=>h)) (h.QE.moves m (fun h=>h)) h.Dk rfl (fun x hx=>(h.xL x hx).moves m (fun _ h=>h)) h.slot h.cnt
theorem N1 {α:Type}(f:α->Nat):∀(l:List α) (j:Nat) (h:j<l.length) (y:α),(l.map f).sum+f y=((l.set j y).map f).sum+f l[j]
 | x :: l,0,_,y=>by simp only[List.set_cons_zero,List.map_cons,List.sum_cons,List.getElem_cons_zero];omega
 | x :: l,j+1,h,y=>by
  have:=N1 f l j (by simpa using h) y
  simp only[List.set_cons_succ,List.map_cons,List.sum_cons,List.getElem_cons_succ]
  omega
theorem cW.work {j:Nat}{B:WB}{g:WG}{t:LT}(h:cW R tg w B0 W s r p lim ag au got ws ds q8 q9 fP)(hj:j<ws.length)(hx:ws[j]=(j+2,B,g,t)):
  kj tg w s (j+2) p B ag { g with fs:={ g.fs with got:=got,brk:=false } } lim t/\dI ag t/\
  ∀{aC:aP} {w':World} {g':WG} {t':LT} {eN:Nat},lim<=eN->az (Mine (j+2)) tg aC w w'->kj aC w' s (j+2) p B ag g' eN t'->g'.fs.brk=false->(∃l,g'.fs.got=got++l/\∀x,l.count x+g.fs.kn x=g'.fs.kn x)->dI ag t'->
   ∃pt,cW { R with pt:=pt } aC w' B0 W s r p eN ag au g'.fs.got (ws.set j (j+2,B,g',t')) ds q8 q9 fP:=by
 have KH:(j+2,B,g,t) ∈ ws:=by rw[<-hx];exact jk hj
 have hw:=h.xL _ KH;refine⟨⟨⟨hw.two,h.Xs,?_⟩,hw.flat,hw.ok,hw.fl,hw.op⟩,hw.inj,fun {aC w' g' t' eN} hl m hQ S3 aiQ hi=>?_⟩
 ·exact⟨hw.wp.tree,hw.wp.qK,hw.wp.qL,hw.wp.Ac,hw.wp.tG,hw.wp.files,hw.wp.held,hw.wp.opens,hw.wp.ok⟩
 ·obtain⟨_,pt,Vm,hI,hG,hS,fo⟩:=hQ.inv.st
  obtain⟨l,aeg,gP⟩:=aiQ;refine⟨_,h.after m (fun c hc=>?_) (by simp) (Vm.trans S3) hI hG fo ?_ (fun x Fx=>?_) (fun k hk=>?_) (fun x=>?_)⟩
  ·rcases hc with hc | hc <;> simp only at hc <;> omega
  ·apply List.ext_getElem (by simp)
   intro k h1 h2;simp only[List.getElem_map,List.getElem_set];split
   ·rename_i e;subst e;rw[hx]
   ·rfl
  ·obtain⟨k,hk,rfl⟩:=List.getElem_of_mem Fx
   rw[List.getElem_set];split
   ·exact⟨hw.two,hQ.inv.wp,hQ.flat,hQ.ok,hQ.fl,hQ.op,hi⟩
   ·rename_i hne
    have dy:k<ws.length:=by simpa using hk
    have hx1:=h.xL _ (jk dy);have nP:=h.slot k dy;have hm:=hx1.moves m (fun c hc=>by
     rcases hc with hc | hc <;> simp only at hc <;> omega)
    exact⟨hm.two,hm.wp.mono hl,hm.flat,hm.ok,hm.fl,hm.op,hm.inj⟩
  ·rw[List.getElem_set]
   have dy:k<ws.length:=by simpa using hk
   split
   ·rename_i e;subst e;rfl
   ·exact h.slot k dy
  ·have h1:=N1 (fun y:Slot=>y.2.2.1.fs.kn x) ws j hj (j+2,B,g',t')
   rw[hx] at h1;simp only at h1;have h2:=h.cnt x;have h3:=gP x;rw[aeg,List.count_append,h2];omega
theorem cW.aeh {j:Nat}{d:Doc}(h:cW R tg w B0 W s r p lim ag au got ws ds q8 q9 fP)(hj:j<ds.length)(hx:ds[j]=d):
  b9 (fun k=>tg k=(0,8+j)) w d.1 d.2.1 d.2.2.1 d.2.2.2/\∀{w':World} {nodes:List aK} {data:List ByteArray} {rest:List Value},b9 (bq (fun k=>tg k=(0,8+j)) w w') w' d.1 nodes data rest->ax (fun k=>tg k=(0,8+j)) w w'->
   ∃aC,cW R aC w' B0 W s r p lim ag au got ws (ds.set j (d.1,nodes,data,rest)) q8 q9 fP:=by
 classical
 subst hx;refine⟨h.Mo j hj,fun {w' nodes data rest} hst hk=>?_⟩;obtain⟨aC,xW⟩:∃aC:aP,aC=fun k=>if k<w.heap.size then tg k else if k<w'.heap.size then (0,8+j) else (0,0):=⟨_,rfl⟩
 have t1:∀k,k<w.heap.size->aC k=tg k:=fun k hk=>by rw[xW];exact aL hk
 have hf':jC aC w':=fun k dy=>by
  rw[xW];simp only;rw[ay (by have:=hk.size;omega),ay (by omega)]
 have m:az (fun t=>t=(0,8+j)) tg aC w w':=⟨hk.os,hk.tape,hk.output,hk.size,t1,fun k fM hn=>hk.block k fM hn,fun _=>hf'⟩;have tagged:∀k c,c≠0->c≠8+j->tg k=(0,c)->aC k=(0,c)/\w'.heap[k]? = w.heap[k]?:=fun k c hc J4 fM=>by
  have hlt:=h.fresh.lt (by rw[fM];intro e;exact hc (congrArg Prod.snd e));exact⟨(t1 k hlt).trans fM,m.block k hlt (by rw[fM];intro e;exact J4 (congrArg Prod.snd e))⟩
 have xM:∀k,R.FN k\/R.FE k\/R.FI k->k<w.heap.size->w'.heap[k]? = w.heap[k]?/\aC k=(0,0)/\B0<=k:=fun k fM hlt=>⟨m.block k hlt (by rw[(h.holds k fM).1];intro e;have:=congrArg Prod.snd e;simp only at this;omega),(t1 k hlt).trans (h.holds k fM).1,(h.holds k fM).2⟩;have hw3:=h.w3;have Vh:(ds.set j (ds[j].1,nodes,data,rest)).length=ds.length:=by simp
 refine⟨aC,⟨hf',fun k fM=>(t1 k (cv fM h.size)).trans (h.old k fM),eU h.size hk.size,h.brk,h.QE.moves m (fun e=>by cases e),h.Dk,?_,?_,?_,?_,?_,?_,?_,?_,?_,h.apart,fun x Fx=>?_,h.slot,?_,h.cnt⟩⟩
 ·rw[Vh]
  exact⟨hw3.law.keep (fun k hk=>(tagged k 1 (by decide) (by omega) hk).1) (fun k hk=>(tagged k 1 (by decide) (by omega) hk).2),hw3.ref.keep (fun k hk=>(tagged k 2 (by decide) (by omega) hk).1) (fun k hk=>(tagged k 2 (by decide) (by omega) hk).2),⟨hw3.uQ.1.keep (fun k fM hF=>m.block k fM (by rw[hF];intro e;cases e)) (fun k fM hF=>(t1 k fM).trans hF),hw3.uQ.2⟩,hw3.twin,hw3.at_,nh hf'⟩
 ·exact ai h.Dl (fun g hg=>(tagged g 3 (by decide) (by omega) (h.r6 g hg)).2)
 ·exact fun g hg=>(tagged g 3 (by decide) (by omega) (h.r6 g hg)).1
 ·rw[Vh]
  have hmap:(ds.set j (ds[j].1,nodes,data,rest)).map (fun x=>ptr x.1)=ds.map fun x=>ptr x.1:=by
   apply List.ext_getElem (by simp);intro k h1 h2;simp only[List.getElem_map,List.getElem_set];split
   ·rename_i e;subst e;rfl
   ·rfl
  rw[hmap];exact ai h.ny (fun g hg=>(tagged g 4 (by decide) (by omega) (h.r7 g hg)).2)
 ·rw[Vh];exact fun g hg=>(tagged g 4 (by decide) (by omega) (h.r7 g hg)).1
 ·exact h.names.keep (fun k fM=>(xM k (.inl fM) (h.names.lt k fM)).1) hk.size
 ·exact h.aV.keep (fun k fM=>(xM k (.inr (.inl fM)) (h.aV.lt k fM)).1) hk.size
 ·exact h.ids.keep (fun k fM=>(xM k (.inr (.inr fM)) (h.ids.lt k fM)).1) hk.size
 ·intro k fM
  have hlt:k<w.heap.size:=by
   rcases fM with e | e | e
   ·exact h.names.lt k e
   ·exact h.aV.lt k e
   ·exact h.ids.lt k e
  exact (xM k fM hlt).2
 ·have hx1:=h.xL x Fx
  exact hx1.moves m (fun c hc=>by have:=hx1.two;have:=congrArg Prod.fst hc;simp only at this;omega)
 ·intro i hi
  have vn:i<ds.length:=by simpa using hi
  simp only[List.getElem_set];split
  ·rename_i e
   subst e;obtain⟨na,nc,da,dc,hst⟩:=hst;refine⟨na,nc,da,dc,hst.keep (fun k fM=>?_) (fun _ _=>rfl)⟩;rcases fM with fM | ⟨fM,hk2⟩
   ·exact (t1 k (h.fresh.lt (by rw[fM];intro e;have:=congrArg Prod.snd e;simp only at this;omega))).trans fM
   ·rw[xW]
    simp only;rw[ay (by omega),aL hk2]
  ·obtain⟨na,nc,da,dc,hst⟩:=h.Mo i vn
   exact⟨na,nc,da,dc,hst.keep (fun k fM=>(tagged k (8+i) (by omega) (by omega) fM).1) (fun k fM=>(tagged k (8+i) (by omega) (by omega) fM).2)⟩
end
theorem N2 {a:List Ob}(hS:Sound a)(l:List Ob)(fc:e7):∀(x:List ByteArray) (n:Nat) (t:LT),bu a n t->gV (a++l) fc t x=gV a fc t x
 | [],n,t,h=>by
  rw[gY,gY]
  cases t with
  | file i=>rw[bu] at h;simp only[nd];rw[s6 l (by rw[h];decide)]
  | held f=>rfl
  | dir i=>rfl
  | own es=>rfl
 | m :: r,n,t,h=>by
  have hk:kids (a++l) t=kids a t:=by
   cases t with
   | file i=>rfl
   | held f=>rfl
   | dir i=>rw[bu] at h;simp only[kids];rw[oO l (by rw[h.1];decide)]
   | own es=>rfl
  rw[fe,fe,hk];cases qs:kids a t with
  | none=>rfl
  | some ks=>
   rw[Option.bind_some,Option.bind_some];cases hp:aS ks m with
   | none=>rfl
   | some c=>
    rw[Option.bind_some,Option.bind_some];have mS:∃y ∈ ks,y.2=c:=by
     unfold aS at hp;obtain⟨z,hz,e⟩:=Option.map_eq_some_iff.1 hp;exact⟨z,List.mem_of_find?_eq_some hz,e⟩
    obtain⟨y,hy,e⟩:=mS;obtain⟨k,_,cz⟩:=((cr hS h qs).2.2 y hy).2;rw[e] at cz;exact N2 hS l fc r k c cz
theorem Uw {a:List Ob}(hS:Sound a)(l:List Ob):∀(x:List ByteArray) (n:Nat) (t:LT),bu a n t->t.at (a++l) x=t.at a x
 | [],n,t,_=>by rw[di,di]
 | m :: x,n,t,ht=>by
  rw[bw,bw]
  have hk:kids (a++l) t=kids a t:=by
   cases t with
   | file i=>rfl
   | held f=>rfl
   | own es=>rfl
   | dir i=>
    have hki:aH a i=2:=by cases n <;> (rw[bu] at ht;exact ht.1)
    show some _=some _;rw[oO l (by rw[hki];decide)]
  rw[hk];cases yT:kids a t with
  | none=>rfl
  | some ks=>
   simp only[Option.bind_some];cases hp:aS ks m with
   | none=>rfl
   | some c=>
    simp only[Option.bind_some];obtain⟨k,_,hc⟩:=((cr hS ht yT).2.2 (m,c) (oN hp)).2;exact Uw hS l x k c hc
theorem Ai.app {p:Nat}{ag:List Ob}{lim:Nat}{tg:aP}{w:World}{x:Slot}(hS:Sound ag)(h:Ai tg w p ag lim x)(l:List Ob):Ai tg w p (ag++l) lim x:=by
 have hat:=fun q=>Uw hS l q 5 _ h.ok;have hb:∀id,aH ag id=1->bytesOf (ag++l) id=bytesOf ag id:=fun id hk=>s6 l (by rw[hk];decide);have he:∀id,aH ag id=2->bR (ag++l) id=bR ag id:=fun id hk=>oO l (by rw[hk];decide);have qs:∀id k,aH ag id=k->k≠0->aH (ag++l) id=k:=fun id k hk h0=>by rw[jx l (by rw[hk];exact h0)];exact hk
 refine⟨h.two,?_,⟨h.flat.kind,h.flat.root,fun q=>by rw[hat q];exact h.flat.od q,fun q=>by rw[hat q];exact h.flat.of q⟩,H9 l 5 _ h.ok,fun f id d hf h0=>qs id 1 (h.fl f id d hf h0) (by decide),h.op,fun y z b h1 h2=>by rw[hat] at h1 h2;exact h.inj y z b h1 h2⟩;have hw:=h.wp;obtain⟨tF,nF,MF,lF,vF,mF,kF⟩:=hw.qK;obtain⟨tD,nD,MD,vK,lD,vD,mD,kD⟩:=hw.qL;refine⟨hw.tree,⟨tF,nF,MF,lF,vF,fun id=>?_,fun id hid=>qs id 1 (kF id hid) (by decide)⟩,⟨tD,nD,MD,vK,lD,vD,mD,fun id hid=>⟨qs id 2 (kD id hid).1 (by decide),by rw[he id (kD id hid).1];exact (kD id hid).2⟩⟩,hw.Ac,hw.tG,hw.files,hw.held,hw.opens,⟨fun h0=>qs _ 2 (hw.ok.root h0) (by decide),fun q es ho e hx=>?_⟩⟩
 ·rw[mF id]
  by_cases hk:x.2.2.1.fs.kF id=true
  ·rw[aL hk,aL hk,hb id (kF id hk)]
  ·rw[ay hk,ay hk]
 ·obtain⟨e1,e2⟩:=hw.ok.od q es ho e hx
  exact⟨e1,fun h0=>qs _ _ (e2 h0) (by rcases e1 with h | h <;> (rw[h];decide))⟩
theorem fJ.reset {F F':Nat->Prop}{w w':World}{W s r n:Nat}{c5 c6 c7 c8 c9 c10 c11 d5 d6 d7 d8 d9 d10 d11:Value}(h:fJ F w W s r n c5 c6 c7 c8 c9 c10 c11)(hF:∀k,F k->F' k)
  (hb:∀a0 a1 a2 a3 a4,w.heap[W]? = some (.cells #[a0,a1,a2,a3,a4,c5,c6,c7,c8,c9,c10,c11] 71 (0,0))->w'.heap[W]? = some (.cells #[a0,a1,a2,a3,a4,d5,d6,d7,d8,d9,d10,d11] 71 (0,0)))(hk:∀k,F k->k≠W->w'.heap[k]? = w.heap[k]?):fJ F' w' W s r n d5 d6 d7 d8 d9 d10 d11:=by
 obtain⟨ia,ka,pa,ic,kc,pc,paths,hl,hp⟩:=h;have row:∀{t:TypeId} {v:Value} {n:Nat} {xs:List Value},w.ownsRow 0 t 1 v n xs->71≠t->(∀g,v.ownBlock=some g->F g)->w'.ownsRow 0 t 1 v n xs:=fun hr ht hf=>ai hr (fun g hg=>hk g (hf g hg) (fun e=>aA hr hl.hW ht (by rw[<-e];exact hg.symm)));exact⟨ia,ka,pa,ic,kc,pc,paths,⟨hF _ hl.fw,hb _ _ _ _ _ hl.hW,row hl.lC (by decide) hl.fi,row hl.pg (by decide) hl.fk,row hl.qg (by decide) hl.fp,fun g hg=>hF g (hl.fi g hg),fun g hg=>hF g (hl.fk g hg),fun g hg=>hF g (hl.fp g hg)⟩,hp⟩
theorem QF {la:Option Addr}{n m c d:Nat}:(Value.slice la n c).ownBlock=(Value.slice la m d).ownBlock:=by cases la <;> rfl
theorem tY.next {F:Nat->Prop}{t tl:TypeId}{V:Nat->Value}{w w':World}{W q i:Nat}{cs:Array Value}{ea la:Option Addr}{ec m c:Nat}{hs:List fK}(h:tY F t tl V w ea ec q hs)(Wq:t≠tl)(hk:BS t tl (V q) i w w' W q cs ea ec la m c hs)(hW:¬F W)
  (pQ:∀g,(Value.slice la m c).ownBlock=some g->¬F g/\g<w.heap.size)(hm:m+3<=1000000000):
  ∃g4 c4 sw,w'.heap[W]? = some (.cells (cs.setIfInBounds i (.slice (some ⟨g4,0,none⟩) (4*(q+1)) c4)) 71 (0,0))/\tY (fun k=>F k\/some k=(Value.slice la m c).ownBlock\/(w.heap.size<=k/\k<w'.heap.size)) t tl V w' (some ⟨g4,0,none⟩) c4 (q+1) sw/\ax (fun x=>x=W\/F x\/some x=(Value.slice la m c).ownBlock) w w':=by
 obtain⟨g4,c4,va,vb,vc,k1,k2,ea1,eb1,ec1,aiR,k7,k8⟩:=hk;have z:=k8.size;have nw:ax (fun x=>x=W\/F x\/some x=(Value.slice la m c).ownBlock) w w':=⟨k8.os,k8.tape,k8.output,k8.size,fun k fM hn=>k8.block k fM (by
  rintro (e | e | e)
  ·exact hn (.inl e)
  ·exact hn (.inr (.inl (h.own k e.symm)))
  ·exact hn (.inr (.inr e)))⟩
 refine⟨g4,c4,_,k1,⟨?_,k2,?_,?_,?_⟩,nw⟩
 ·simp[h.len];omega
 ·intro g hg
  simp only[Value.ownBlock,Option.some.injEq] at hg;subst hg;rcases k7 with e | e
  ·exact .inl (h.own _ e.symm)
  ·exact .inr (.inr ⟨e,ah k2 rfl⟩)
 ·intro j hj
  by_cases hlt:j<hs.length
  ·rw[List.getElem_append_left hlt]
   obtain⟨l1,l2,l3⟩:=h.lists j hlt;refine⟨l1,ai l2 (fun x hx=>k8.block x (h.lt x (l3 x hx)) ?_),fun g hg=>.inl (l3 g hg)⟩;rintro (e | e | e)
   ·subst e;exact hW (l3 _ hx)
   ·exact cS l2 h.row Wq hx e
   ·exact (pQ x e.symm).1 (l3 x hx)
  ·obtain⟨d,rfl⟩:∃d,j=hs.length+d:=⟨j-hs.length,by omega⟩
   have hd:d<4:=by simp at hj;omega
   rw[List.getElem_append_right (by omega)];have hq:(hs.length+d) / 4=q:=by rw[h.len];omega
   simp only[Nat.add_sub_cancel_left,hq];have key:∀x ∈ [((la,m,c):fK),va,vb,vc],x.2.1<=1000000000->x.2.1<=1000000000/\lQ t (V q) w' x/\∀g,(eR x).ownBlock=some g->F g\/some g=(Value.slice la m c).ownBlock\/(w.heap.size<=g/\g<w'.heap.size):=fun x hx hx1=>by
    obtain⟨s1,s2⟩:=aiR x hx;refine⟨hx1,s1,fun g hg=>?_⟩;rcases s2 with ⟨e1,e2⟩ | ⟨g',e1,e2⟩
    ·refine .inr (.inl ?_)
     rw[<-hg];unfold eR;rw[e1];exact QF
    ·have Q3:g'=g:=by
      unfold eR at hg;rw[e1] at hg;exact Option.some.inj hg
     subst Q3;exact .inr (.inr ⟨e2,ah s1 hg⟩)
   match d,hd with
   | 0,_=>exact key _ (by simp) (show m<=1000000000 by omega)
   | 1,_=>exact key va (by simp) (by omega)
   | 2,_=>exact key vb (by simp) (by omega)
   | 3,_=>exact key vc (by simp) (by omega)
 ·rintro k (hk | hk | hk)
  ·exact cv (h.lt k hk) z
  ·exact cv (pQ k hk.symm).2 z
  ·exact hk.2
section
variable {R:u9}{tg aC:aP}{w w':World}{B0 W s r p lim:Nat}{ag au:List Ob}{got:List Int}{ws:List Slot}{ds:List Doc}{q8 q9 fP:Nat}
theorem cW.fW (h:cW R tg w B0 W s r p lim ag au got ws ds q8 q9 fP):tg W=(0,1):=by
 obtain⟨_,_,_,_,_,_,_,hl,_⟩:=h.w3.law;exact hl.fw
theorem cW.block (h:cW R tg w B0 W s r p lim ag au got ws ds q8 q9 fP):∃a0 a1 a2 a3 a4,w.heap[W]? = some (.cells #[a0,a1,a2,a3,a4,.slice R.wa ws.length R.wc,.slice R.ta ds.length R.tc,.bool false,.slice R.na (4*q8) R.nc,.slice R.ea (4*q9) R.ec,.slice none 0 0,.slice R.ia (4*fP) R.ic] 71 (0,0)):=h.w3.block
theorem cW.rest {P:Nat×Nat->Prop}(h:cW R tg w B0 W s r p lim ag au got ws ds q8 q9 fP)(m:az P tg aC w w')(hP:∀t,P t->t.1=0/\t.2<=4/\t.2≠2):
  bS (fun k=>aC k=(0,2)) w' r au/\fT ⟨R.pt,p,[]⟩ (fun k=>aC k=(1,0)) w' s ag/\vO aC w' R.pt got/\(∀x ∈ ws,Ai aC w' p ag lim x)/\∀j (hj:j<ds.length),b9 (fun k=>aC k=(0,8+j)) w' ds[j].1 ds[j].2.1 ds[j].2.2.1 ds[j].2.2.2:=by
 have hn:∀t,(t.1≠0\/4<t.2\/t.2=2)->¬P t:=fun t ht hp=>by have:=hP t hp;omega
 have tagged:∀k t,t≠(0,0)->(t.1≠0\/4<t.2\/t.2=2)->tg k=t->aC k=t/\w'.heap[k]? = w.heap[k]?:=fun k t h0 ht hk=>by
  have hlt:=h.fresh.lt (by rw[hk];exact h0);exact⟨(m.tags k hlt).trans hk,m.block k hlt (by rw[hk];exact hn t ht)⟩
 refine⟨h.w3.ref.keep (fun k hk=>(tagged k (0,2) (by decide) (by decide) hk).1) (fun k hk=>(tagged k (0,2) (by decide) (by decide) hk).2),⟨h.w3.uQ.1.keep (fun k _ hk=>(tagged k (1,0) (by decide) (by decide) hk).2) (fun k _ hk=>(tagged k (1,0) (by decide) (by decide) hk).1),h.w3.uQ.2⟩,h.QE.moves m (hn _ (by decide)),fun x hx=>(h.xL x hx).moves m (fun c=>hn _ (by have:=(h.xL x hx).two;left;show x.1≠0;omega)),fun j hj=>?_⟩;obtain⟨na,nc,da,dc,hst⟩:=h.Mo j hj;have hne:((0,8+j):Nat×Nat)≠(0,0):=fun e=>by have:=congrArg Prod.snd e;simp only at this;omega
 have hlg:((0,8+j):Nat×Nat).1≠0\/4<((0,8+j):Nat×Nat).2\/((0,8+j):Nat×Nat).2=2:=by right;left;show 4<8+j;omega
 exact⟨na,nc,da,dc,hst.keep (fun k hk=>(tagged k _ hne hlg hk).1) (fun k hk=>(tagged k _ hne hlg hk).2)⟩
theorem cW.low {X:Nat->Prop}(h:cW R tg w B0 W s r p lim ag au got ws ds q8 q9 fP)(hk:ax X w w')(hX:∀k,X k->tg k≠(0,0)\/B0<=k):Below B0 w w':=
 ⟨hk.os,hk.tape,hk.output,hk.size,fun k fM=>hk.block k (cv fM h.size) (fun hx=>by
  rcases hX k hx with e | e
  ·exact e (h.old k fM)
  ·omega)⟩
theorem cW.aei {la:Option Addr}{m c:Nat}{xs:List Value}(h:cW R tg w B0 W s r p lim ag au got ws ds q8 q9 fP)(hq:4*q8<=1000000000)(hm:m+3<=1000000000)(hl:w.ownsRow 0 9 1 (.slice la m c) m xs)(pQ:∀g,(Value.slice la m c).ownBlock=some g->tg g=(0,0)/\B0<=g/\¬R.FN g/\¬R.FE g/\¬R.FI g):
  Calls prog 93 #[.pointer (some ⟨W,8,none⟩),.slice la m c] w fun e w'=>e=.returned (.tuple #[])/\∃R',cW R' tg w' B0 W s r p lim ag au got ws ds (q8+1) q9 fP/\Below B0 w w':=by
 obtain⟨a0,a1,a2,a3,a4,hW⟩:=h.block;refine (C7 W q8 _ R.na R.nc m c la R.ns xs w hW rfl h.names.len hq h.names.row (by omega) hl).mono ?_;rintro e w' ⟨he,hk⟩;refine⟨he,?_⟩;have nFW:∀k,R.FN k\/R.FE k\/R.FI k->k≠W:=fun k hk e=>by have:=(h.holds k hk).1;rw[e,h.fW] at this;cases this
 obtain⟨g4,c4,sw,k1,k2,k3⟩:=h.names.next (by decide) (show BS 9 131 (VN q8) 8 w w' W q8 _ R.na R.nc la m c R.ns from hk) (fun hf=>nFW W (.inl hf) rfl) (fun g hg=>⟨(pQ g hg).2.2.1,ah hl hg⟩) hm;have FQ:∀k,R.FN k\/some k=(Value.slice la m c).ownBlock->tg k=(0,0):=fun k hk=>by
  rcases hk with e | e
  ·exact (h.holds k (.inl e)).1
  ·exact (pQ k e.symm).1
 have xS:jC tg w':=fun k hk=>h.fresh k (eU k3.size hk);have mv:az (fun t=>t=(0,0)\/t=(0,1)) tg tg w w':=⟨k3.os,k3.tape,k3.output,k3.size,fun _ _=>rfl,fun k fM hn=>k3.block k fM (by
  rintro (e | e)
  ·exact hn (.inr (by rw[e];exact h.fW))
  ·exact hn (.inl (FQ k e))),fun _=>xS⟩
 obtain⟨r1,r2,r3,r4,r5⟩:=h.rest mv (by rintro t (rfl | rfl) <;> decide);have keep:∀k,k<w.heap.size->k≠W->¬R.FN k->some k≠(Value.slice la m c).ownBlock->w'.heap[k]? = w.heap[k]?:=fun k h1 h2 h3 h4=>k3.block k h1 (by
  rintro (e | e | e)
  ·exact h2 e
  ·exact h3 e
  ·exact h4 e)
 have qQ:∀k,tg k≠(0,0)->k≠W->w'.heap[k]? = w.heap[k]?:=fun k h1 h2=>keep k (h.fresh.lt h1) h2 (fun e=>h1 (FQ k (.inl e))) (fun e=>h1 (FQ k (.inr e)));refine⟨{ R with na:=some ⟨g4,0,none⟩,nc:=c4,ns:=sw,FN:=fun k=>R.FN k\/some k=(Value.slice la m c).ownBlock\/(w.heap.size<=k/\k<w'.heap.size) },⟨xS,h.old,eU h.size k3.size,h.brk,r3,h.Dk,⟨?_,r1,r2,h.w3.twin,h.w3.at_,nh xS⟩,?_,h.r6,?_,h.r7,k2,?_,?_,?_,?_,r4,h.slot,r5,h.cnt⟩,?_⟩
 ·refine h.w3.law.reset (fun _ h=>h) (fun b0 b1 b2 b3 b4 hb=>?_) (fun k fM hk2=>qQ k (by rw[fM];decide) hk2)
  rw[hW] at hb;simp only[Option.some.injEq,Obj.cells.injEq,Array.mk.injEq,List.cons.injEq,and_true] at hb;obtain⟨e0,e1,e2,e3,e4⟩:=hb;rw[k1,e0,e1,e2,e3,e4];rfl
 ·exact ai h.Dl (fun g hg=>qQ g (by rw[h.r6 g hg];decide) (fun e=>by have:=h.r6 g hg;rw[e,h.fW] at this;cases this))
 ·exact ai h.ny (fun g hg=>qQ g (by rw[h.r7 g hg];decide) (fun e=>by have:=h.r7 g hg;rw[e,h.fW] at this;cases this))
 ·exact h.aV.keep (fun k hk=>keep k (h.aV.lt k hk) (nFW k (.inr (.inl hk))) (fun e=>(h.apart k).1 ⟨e,hk⟩) (fun e=>(pQ k e.symm).2.2.2.1 hk)) k3.size
 ·exact h.ids.keep (fun k hk=>keep k (h.ids.lt k hk) (nFW k (.inr (.inr hk))) (fun e=>(h.apart k).2.1 ⟨e,hk⟩) (fun e=>(pQ k e.symm).2.2.2.2 hk)) k3.size
 ·rintro k ((e | e | e) | e | e)
  ·exact h.holds k (.inl e)
  ·exact⟨(pQ k e.symm).1,(pQ k e.symm).2.1⟩
  ·exact⟨h.fresh k e.1,eU h.size e.1⟩
  ·exact h.holds k (.inr (.inl e))
  ·exact h.holds k (.inr (.inr e))
 ·refine fun k=>⟨?_,?_,(h.apart k).2.2⟩
  ·rintro ⟨e | e | e,f⟩
   ·exact (h.apart k).1 ⟨e,f⟩
   ·exact (pQ k e.symm).2.2.2.1 f
   ·have:=h.aV.lt k f;omega
  ·rintro ⟨e | e | e,f⟩
   ·exact (h.apart k).2.1 ⟨e,f⟩
   ·exact (pQ k e.symm).2.2.2.2 f
   ·have:=h.ids.lt k f;omega
 ·exact h.low k3 (by
   rintro k (e | e | e)
   ·exact .inl (by rw[e,h.fW];decide)
   ·exact .inr (h.holds k (.inl e)).2
   ·exact .inr (pQ k e.symm).2.1)
theorem cW.aej {la:Option Addr}{m c:Nat}{xs:List Value}(h:cW R tg w B0 W s r p lim ag au got ws ds q8 q9 fP)(hq:4*fP<=1000000000)(hm:m+3<=1000000000)(hl:w.ownsRow 0 29 1 (.slice la m c) m xs)(pQ:∀g,(Value.slice la m c).ownBlock=some g->tg g=(0,0)/\B0<=g/\¬R.FN g/\¬R.FE g/\¬R.FI g):
  Calls prog 88 #[.pointer (some ⟨W,8,none⟩),.slice la m c] w fun e w'=>e=.returned (.tuple #[])/\∃R',cW R' tg w' B0 W s r p lim ag au got ws ds q8 q9 (fP+1)/\Below B0 w w':=by
 obtain⟨a0,a1,a2,a3,a4,hW⟩:=h.block;refine (IW W fP _ R.ia R.ic m c la R.js xs w hW rfl h.ids.len hq h.ids.row (by omega) hl).mono ?_;rintro e w' ⟨he,hk⟩;refine⟨he,?_⟩;have nFW:∀k,R.FN k\/R.FE k\/R.FI k->k≠W:=fun k hk e=>by have:=(h.holds k hk).1;rw[e,h.fW] at this;cases this
 obtain⟨g4,c4,sw,k1,k2,k3⟩:=h.ids.next (by decide) (show BS 29 59 (VI fP) 11 w w' W fP _ R.ia R.ic la m c R.js from hk) (fun hf=>nFW W (.inr (.inr hf)) rfl) (fun g hg=>⟨(pQ g hg).2.2.2.2,ah hl hg⟩) hm;have FQ:∀k,R.FI k\/some k=(Value.slice la m c).ownBlock->tg k=(0,0):=fun k hk=>by
  rcases hk with e | e
  ·exact (h.holds k (.inr (.inr e))).1
  ·exact (pQ k e.symm).1
 have xS:jC tg w':=fun k hk=>h.fresh k (eU k3.size hk);have mv:az (fun t=>t=(0,0)\/t=(0,1)) tg tg w w':=⟨k3.os,k3.tape,k3.output,k3.size,fun _ _=>rfl,fun k fM hn=>k3.block k fM (by
  rintro (e | e)
  ·exact hn (.inr (by rw[e];exact h.fW))
  ·exact hn (.inl (FQ k e))),fun _=>xS⟩
 obtain⟨r1,r2,r3,r4,r5⟩:=h.rest mv (by rintro t (rfl | rfl) <;> decide);have keep:∀k,k<w.heap.size->k≠W->¬R.FI k->some k≠(Value.slice la m c).ownBlock->w'.heap[k]? = w.heap[k]?:=fun k h1 h2 h3 h4=>k3.block k h1 (by
  rintro (e | e | e)
  ·exact h2 e
  ·exact h3 e
  ·exact h4 e)
 have qQ:∀k,tg k≠(0,0)->k≠W->w'.heap[k]? = w.heap[k]?:=fun k h1 h2=>keep k (h.fresh.lt h1) h2 (fun e=>h1 (FQ k (.inl e))) (fun e=>h1 (FQ k (.inr e)));refine⟨{ R with ia:=some ⟨g4,0,none⟩,ic:=c4,js:=sw,FI:=fun k=>R.FI k\/some k=(Value.slice la m c).ownBlock\/(w.heap.size<=k/\k<w'.heap.size) },⟨xS,h.old,eU h.size k3.size,h.brk,r3,h.Dk,⟨?_,r1,r2,h.w3.twin,h.w3.at_,nh xS⟩,?_,h.r6,?_,h.r7,?_,?_,k2,?_,?_,r4,h.slot,r5,h.cnt⟩,?_⟩
 ·refine h.w3.law.reset (fun _ h=>h) (fun b0 b1 b2 b3 b4 hb=>?_) (fun k fM hk2=>qQ k (by rw[fM];decide) hk2)
  rw[hW] at hb;simp only[Option.some.injEq,Obj.cells.injEq,Array.mk.injEq,List.cons.injEq,and_true] at hb;obtain⟨e0,e1,e2,e3,e4⟩:=hb;rw[k1,e0,e1,e2,e3,e4];rfl
 ·exact ai h.Dl (fun g hg=>qQ g (by rw[h.r6 g hg];decide) (fun e=>by have:=h.r6 g hg;rw[e,h.fW] at this;cases this))
 ·exact ai h.ny (fun g hg=>qQ g (by rw[h.r7 g hg];decide) (fun e=>by have:=h.r7 g hg;rw[e,h.fW] at this;cases this))
 ·exact h.names.keep (fun k hk=>keep k (h.names.lt k hk) (nFW k (.inl hk)) (fun e=>(h.apart k).2.1 ⟨hk,e⟩) (fun e=>(pQ k e.symm).2.2.1 hk)) k3.size
 ·exact h.aV.keep (fun k hk=>keep k (h.aV.lt k hk) (nFW k (.inr (.inl hk))) (fun e=>(h.apart k).2.2 ⟨hk,e⟩) (fun e=>(pQ k e.symm).2.2.2.1 hk)) k3.size
 ·rintro k (e | e | e | e | e)
  ·exact h.holds k (.inl e)
  ·exact h.holds k (.inr (.inl e))
  ·exact h.holds k (.inr (.inr e))
  ·exact⟨(pQ k e.symm).1,(pQ k e.symm).2.1⟩
  ·exact⟨h.fresh k e.1,eU h.size e.1⟩
 ·refine fun k=>⟨(h.apart k).1,?_,?_⟩
  ·rintro ⟨f,e | e | e⟩
   ·exact (h.apart k).2.1 ⟨f,e⟩
   ·exact (pQ k e.symm).2.2.1 f
   ·have:=h.names.lt k f;omega
  ·rintro ⟨f,e | e | e⟩
   ·exact (h.apart k).2.2 ⟨f,e⟩
   ·exact (pQ k e.symm).2.2.2.1 f
   ·have:=h.aV.lt k f;omega
 ·exact h.low k3 (by
   rintro k (e | e | e)
   ·exact .inl (by rw[e,h.fW];decide)
   ·exact .inr (h.holds k (.inr (.inr e))).2
   ·exact .inr (pQ k e.symm).2.1)
theorem cW.still (h:cW R tg w B0 W s r p lim ag au got ws ds q8 q9 fP)(h8:4*q8<=1000000000)(h9:4*q9<=1000000000)(h11:4*fP<=1000000000):
  Calls prog 24 #[.pointer (some ⟨W,8,none⟩)] w fun e w'=>e=.returned (.bool true)/\Below w.heap.size w w':=by
 obtain⟨a0,a1,a2,a3,a4,hW⟩:=h.block;have e8:w.cell? ⟨W,8,none⟩=some (.slice R.na (4*q8) R.nc):=by simp[World.cell?,hW]
 have e9:w.cell? ⟨W,9,none⟩=some (.slice R.ea (4*q9) R.ec):=by simp[World.cell?,hW]
 have e10:w.cell? ⟨W,10,none⟩=some (.slice none 0 0):=by simp[World.cell?,hW]
 have e11:w.cell? ⟨W,11,none⟩=some (.slice R.ia (4*fP) R.ic):=by simp[World.cell?,hW]
 have rN:=h.names.row;have rE:=h.aV.row;have rI:=h.ids.row;rw[<-h.names.len] at e8 h8 rN;rw[<-h.aV.len] at e9 h9 rE;rw[<-h.ids.len] at e11 h11 rI;have qu:W<w.heap.size:=(Array.getElem?_eq_some_iff.1 hW).1;refine Ll W R.na R.ea R.ia R.nc R.ec R.ic R.ns R.hs R.js w qu e8 e9 e10 e11 rN rE rI h.names.full h.aV.full h.ids.full h8 h9 h11 (fun x hx=>?_) (fun x hx=>?_) (fun x hx=>?_)
 ·obtain⟨i,hi,rfl⟩:=List.getElem_of_mem hx
  exact (h.names.lists i hi).1
 ·obtain⟨i,hi,rfl⟩:=List.getElem_of_mem hx
  have:=(h.aV.lists i hi).1
  omega
 ·obtain⟨i,hi,rfl⟩:=List.getElem_of_mem hx
  exact (h.ids.lists i hi).1
theorem cW.AG (h:cW R tg w B0 W s r p lim ag au got ws ds q8 q9 fP):W3 ⟨R.pt,p,ag⟩ (fun k=>tg k=(0,1)) (fun k=>tg k=(0,2)) (fun k=>tg k=(1,0)) w W s r ag au (.slice R.wa ws.length R.wc) (.slice R.ta ds.length R.tc) (.bool false) (.slice R.na (4*q8) R.nc) (.slice R.ea (4*q9) R.ec) (.slice none 0 0) (.slice R.ia (4*fP) R.ic):=⟨h.w3.law,h.w3.ref,⟨h.w3.uQ.1,List.prefix_refl _,h.w3.uQ.2.2⟩,h.w3.twin,h.w3.at_,h.w3.sep⟩
theorem cW.Er {s8 sx sy GC:Nat->Prop}{aN bC:List Ob}{Nu:Option Addr}{GA q':Nat}{sw:List fK}(h:cW R tg w B0 W s r p lim ag au got ws ds q8 q9 fP)
  (h':W3 ⟨R.pt,p,ag⟩ s8 sx sy w' W s r aN bC (.slice R.wa ws.length R.wc) (.slice R.ta ds.length R.tc) (.bool false) (.slice R.na (4*q8) R.nc) (.slice Nu (4*q') GA) (.slice none 0 0) (.slice R.ia (4*fP) R.ic))(hh':Held GC w' Nu GA q' sw)(SQ:∀k,GC k->¬F3 s8 sx sy k)
  (nw:yA (fun k=>tg k=(0,1)) (fun k=>tg k=(0,2)) (fun k=>tg k=(1,0)) s8 sx sy w.heap.size)(JB:∀k,GC k->R.FE k\/w.heap.size<=k)(gU:ax (fun k=>F3 (fun k=>tg k=(0,1)) (fun k=>tg k=(0,2)) (fun k=>tg k=(1,0)) k\/R.FE k) w w'):
  ∃R' aC l,aN=ag++l/\cW R' aC w' B0 W s r p lim aN bC got ws ds q8 q' fP/\Below B0 w w':=by
 classical
 obtain⟨l,rfl⟩:∃l,aN=ag++l:=by
  obtain⟨l,hl⟩:=h'.uQ.2.1;exact⟨l,hl.symm⟩
 obtain⟨aC,xW⟩:∃aC:aP,aC=fun k=>if k<w.heap.size then tg k else if s8 k then (0,1) else if sx k then (0,2) else if sy k then (1,0) else (0,0):=⟨_,rfl⟩;have t1:∀k,k<w.heap.size->aC k=tg k:=fun k hk=>by rw[xW];exact aL hk
 have hsz:=gU.size;have hf':jC aC w':=fun k dy=>by
  rw[xW];simp only;rw[ay (by omega),ay (fun e=>by have:=h'.sep.ll k e;omega),ay (fun e=>by have:=(h'.sep.rl k e).1;omega),ay (fun e=>by have:=(h'.sep.sl k e).1;omega)]
 have tL:∀k,s8 k->aC k=(0,1):=fun k hk=>by
  rcases (nw k).1 hk with e | e
  ·exact (t1 k (h.w3.sep.ll k e)).trans e
  ·rw[xW];simp only;rw[ay (by omega),aL hk]
 have tR:∀k,sx k->aC k=(0,2):=fun k hk=>by
  rcases (nw k).2.1 hk with e | e
  ·exact (t1 k (h.w3.sep.rl k e).1).trans e
  ·rw[xW];simp only;rw[ay (by omega),ay (h'.sep.rl k hk).2,aL hk]
 have tS:∀k,sy k->aC k=(1,0):=fun k hk=>by
  rcases (nw k).2.2 hk with e | e
  ·exact (t1 k (h.w3.sep.sl k e).1).trans e
  ·rw[xW];simp only;rw[ay (by omega),ay (h'.sep.sl k hk).2,ay (fun e=>h'.sep.rs k e hk),aL hk]
 have tH:∀k,GC k->aC k=(0,0)/\B0<=k:=fun k hk=>by
  rcases JB k hk with e | e
  ·exact⟨(t1 k (h.aV.lt k e)).trans (h.holds k (.inr (.inl e))).1,(h.holds k (.inr (.inl e))).2⟩
  ·have hn:=SQ k hk
   refine⟨?_,eU h.size e⟩;rw[xW];simp only;rw[ay (by omega),ay (fun x=>hn (.inl x)),ay (fun x=>hn (.inr (.inl x))),ay (fun x=>hn (.inr (.inr x)))]
 have keep:∀k,k<w.heap.size->tg k≠(0,1)->tg k≠(0,2)->tg k≠(1,0)->¬R.FE k->w'.heap[k]? = w.heap[k]?:=fun k h1 h2 h3 h4 h5=>gU.block k h1 (by
  rintro ((e | e | e) | e)
  ·exact h2 e
  ·exact h3 e
  ·exact h4 e
  ·exact h5 e)
 have qQ:∀k t,tg k=t->t≠(0,0)->t≠(0,1)->t≠(0,2)->t≠(1,0)->aC k=t/\w'.heap[k]? = w.heap[k]?:=fun k t hk h0 h1 h2 h3=>by
  have hlt:=h.fresh.lt (by rw[hk];exact h0);exact⟨(t1 k hlt).trans hk,keep k hlt (by rw[hk];exact h1) (by rw[hk];exact h2) (by rw[hk];exact h3) (fun e=>h0 (hk.symm.trans (h.holds k (.inr (.inl e))).1))⟩
 have mv:az (fun t=>t=(0,0)\/t=(0,1)\/t=(0,2)\/t=(1,0)) tg aC w w':=⟨gU.os,gU.tape,gU.output,hsz,t1,fun k hk hn=>keep k hk (fun e=>hn (.inr (.inl e))) (fun e=>hn (.inr (.inr (.inl e)))) (fun e=>hn (.inr (.inr (.inr e)))) (fun e=>hn (.inl (h.holds k (.inr (.inl e))).1)),fun _=>hf'⟩;refine⟨{ R with ea:=Nu,ec:=GA,hs:=sw,FE:=GC },aC,l,rfl,⟨hf',fun k hk=>(t1 k (cv hk h.size)).trans (h.old k hk),eU h.size hsz,h.brk,h.QE.moves mv (by rintro (e | e | e | e) <;> cases e),h.Dk,⟨h'.law.mono tL,h'.ref.keep tR (fun _ _=>rfl),⟨h'.uQ.1.keep (fun _ _ _=>rfl) (fun k _ hk=>tS k hk),List.nil_prefix,h'.uQ.2.2⟩,h'.twin,h'.at_,nh hf'⟩,?_,?_,?_,?_,?_,hh',?_,?_,?_,?_,h.slot,?_,h.cnt⟩,?_⟩
 ·exact ai h.Dl (fun g hg=>(qQ g _ (h.r6 g hg) (by decide) (by decide) (by decide) (by decide)).2)
 ·exact fun g hg=>(qQ g _ (h.r6 g hg) (by decide) (by decide) (by decide) (by decide)).1
 ·exact ai h.ny (fun g hg=>(qQ g _ (h.r7 g hg) (by decide) (by decide) (by decide) (by decide)).2)
 ·exact fun g hg=>(qQ g _ (h.r7 g hg) (by decide) (by decide) (by decide) (by decide)).1
 ·exact h.names.keep (fun k hk=>keep k (h.names.lt k hk) (by rw[(h.holds k (.inl hk)).1];decide) (by rw[(h.holds k (.inl hk)).1];decide) (by rw[(h.holds k (.inl hk)).1];decide) (fun e=>(h.apart k).1 ⟨hk,e⟩)) hsz
 ·exact h.ids.keep (fun k hk=>keep k (h.ids.lt k hk) (by rw[(h.holds k (.inr (.inr hk))).1];decide) (by rw[(h.holds k (.inr (.inr hk))).1];decide) (by rw[(h.holds k (.inr (.inr hk))).1];decide) (fun e=>(h.apart k).2.2 ⟨e,hk⟩)) hsz
 ·rintro k (e | e | e)
  ·exact⟨(t1 k (h.names.lt k e)).trans (h.holds k (.inl e)).1,(h.holds k (.inl e)).2⟩
  ·exact tH k e
  ·exact⟨(t1 k (h.ids.lt k e)).trans (h.holds k (.inr (.inr e))).1,(h.holds k (.inr (.inr e))).2⟩
 ·refine fun k=>⟨?_,(h.apart k).2.1,?_⟩
  ·rintro ⟨e,f⟩
   rcases JB k f with f | f
   ·exact (h.apart k).1 ⟨e,f⟩
   ·have:=h.names.lt k e;omega
  ·rintro ⟨f,e⟩
   rcases JB k f with f | f
   ·exact (h.apart k).2.2 ⟨f,e⟩
   ·have:=h.ids.lt k e;omega
 ·intro x hx
  exact ((h.xL x hx).app h.w3.uQ.2.2.1.sound l).moves mv (fun c hc=>by have:=(h.xL x hx).two;rcases hc with e | e | e | e <;> (have:=congrArg Prod.fst e;simp only at this;omega))
 ·intro j hj
  obtain⟨na,nc,da,dc,hst⟩:=h.Mo j hj;have hz:∀c,c<8->((0,8+j):Nat×Nat)≠(0,c):=fun c hc e=>by have:=congrArg Prod.snd e;simp only at this;omega
  have IM:=fun k (hk:tg k=(0,8+j))=>qQ k _ hk (hz 0 (by omega)) (hz 1 (by omega)) (hz 2 (by omega)) (fun e=>by cases e);exact⟨na,nc,da,dc,hst.keep (fun k hk=>(IM k hk).1) (fun k hk=>(IM k hk).2)⟩
 ·refine⟨gU.os,gU.tape,gU.output,hsz,fun k hk=>?_⟩
  have h0:=h.old k hk;exact keep k (cv hk h.size) (by rw[h0];decide) (by rw[h0];decide) (by rw[h0];decide) (fun e=>by have:=(h.holds k (.inr (.inl e))).2;omega)
theorem cW.step (h:cW R tg w B0 W s r p lim ag au got ws ds q8 q9 fP)(hq:4*q9<=1000000000)(o:Step)(ho:o.Fits w)(hk:1<=o.kind/\o.kind<=5):
  Calls prog 20 #[.pointer (some ⟨W,0,none⟩),o.val] w fun e w'=>e=.returned (.bool true)/\∃R' aC l bC q',q'<=q9+1/\cW R' aC w' B0 W s r p lim (ag++l) bC got ws ds q8 q' fP/\Below B0 w w':=by
 have n3:∀k,tg k=(0,0)->¬F3 (fun k=>tg k=(0,1)) (fun k=>tg k=(0,2)) (fun k=>tg k=(1,0)) k:=fun k hk e=>by
  rcases e with e | e | e <;> (rw[hk] at e;cases e)
 refine (La h.AG h.aV (fun k hk=>n3 k (h.holds k (.inr (.inl hk))).1) hq o ho hk).mono ?_;rintro e w' ⟨he,q',hq',s8,sx,sy,GC,aN,bC,Nu,GA,sw,h',hh',SQ,nw,JB,gU⟩;obtain⟨R',aC,l,rfl,M',hB⟩:=h.Er h' hh' SQ nw JB gU;exact⟨he,R',aC,l,bC,q',hq',M',hB⟩
theorem cW.aiT (h:cW R tg w B0 W s r p lim ag au got ws ds q8 q9 fP){B:WB}{g:WG}{t:LT}(hx:Ai tg w p ag lim (ws.length+2,B,g,t))(gP:∀x,g.fs.kn x=0){gg cc:Nat}{cs:Array Value}(hcs:w.heap[W]? = some (.cells cs 71 (0,0)))
  (P:w'.heap[W]? = some (.cells (cs.setIfInBounds 5 (.slice (some ⟨gg,0,none⟩) (ws.length+1) cc)) 71 (0,0))/\w'.ownsRow 0 32 1 (.slice (some ⟨gg,0,none⟩) (ws.length+1) cc) (ws.length+1) ((ws.map fun x=>ptr x.2.1.wb) ++ [ptr B.wb])/\
   ((some gg:Option Nat)=(Value.slice R.wa ws.length R.wc).ownBlock\/w.heap.size<=gg)/\ax (fun k=>k=W\/some k=(Value.slice R.wa ws.length R.wc).ownBlock) w w'):
  ∃R' aC,az (fun t=>t=(0,1)\/t=(0,3)) tg aC w w'/\cW R' aC w' B0 W s r p lim ag au got (ws ++ [(ws.length+2,B,g,t)]) ds q8 q9 fP/\Below B0 w w':=by
 obtain⟨p1,p2,p3,p4⟩:=P;obtain⟨a0,a1,a2,a3,a4,hW⟩:=h.block;have hz:=p4.size;obtain⟨aC,xW⟩:∃aC:aP,aC=fun k=>if k<w.heap.size then tg k else if k<w'.heap.size then (0,3) else (0,0):=⟨_,rfl⟩;have t1:∀k,k<w.heap.size->aC k=tg k:=fun k hk=>by rw[xW];exact aL hk
 have hf':jC aC w':=fun k dy=>by
  rw[xW];simp only;rw[ay (by omega),ay (by omega)]
 have mv:az (fun t=>t=(0,1)\/t=(0,3)) tg aC w w':=⟨p4.os,p4.tape,p4.output,hz,t1,fun k fM hn=>p4.block k fM (by
  rintro (e | e)
  ·exact hn (.inl (by rw[e];exact h.fW))
  ·exact hn (.inr (h.r6 k e.symm))),fun _=>hf'⟩
 obtain⟨r1,r2,r3,r4,r5⟩:=h.rest mv (by rintro t (rfl | rfl) <;> decide);have xN:∀k,k<w.heap.size->tg k=(0,0)->w'.heap[k]? = w.heap[k]?/\aC k=(0,0):=fun k hk h0=>⟨mv.block k hk (by rw[h0];rintro (e | e) <;> cases e),(t1 k hk).trans h0⟩;have hlen:(ws ++ [(ws.length+2,B,g,t)]:List Slot).length=ws.length+1:=by simp
 refine⟨{ R with wa:=some ⟨gg,0,none⟩,wc:=cc },aC,mv,⟨hf',fun k hk=>(t1 k (cv hk h.size)).trans (h.old k hk),eU h.size hz,h.brk,r3,h.Dk,⟨?_,r1,r2,h.w3.twin,h.w3.at_,nh hf'⟩,?_,?_,?_,?_,?_,?_,?_,?_,h.apart,?_,?_,r5,?_⟩,?_⟩
 ·rw[hlen]
  refine h.w3.law.reset (fun k hk=>(t1 k (h.fresh.lt (by rw[hk];decide))).trans hk) (fun b0 b1 b2 b3 b4 hb=>?_) (fun k fM hk2=>p4.block k (h.fresh.lt (by rw[fM];decide)) (by
   rintro (e | e)
   ·exact hk2 e
   ·have:=h.r6 k e.symm;rw[fM] at this;cases this))
  rw[hW] at hcs hb;simp only[Option.some.injEq,Obj.cells.injEq,Array.mk.injEq,List.cons.injEq,and_true] at hcs hb;obtain⟨e0,e1,e2,e3,e4⟩:=hb;rw[p1,<-hcs,e0,e1,e2,e3,e4];rfl
 ·rw[hlen,List.map_append]
  exact p2
 ·rw[hlen]
  intro x hx;simp only[Value.ownBlock,Option.some.injEq] at hx;subst hx;rcases p3 with e | e
  ·exact (t1 gg (h.fresh.lt (by rw[h.r6 gg e.symm];decide))).trans (h.r6 gg e.symm)
  ·rw[xW]
   simp only;rw[ay (by omega),aL (ah p2 rfl)]
 ·refine ai h.ny (fun g hg=>mv.block g (ah h.ny hg) ?_)
  rw[h.r7 g hg];rintro (e | e) <;> cases e
 ·exact fun g hg=>(t1 g (ah h.ny hg)).trans (h.r7 g hg)
 ·exact h.names.keep (fun k hk=>(xN k (h.names.lt k hk) (h.holds k (.inl hk)).1).1) hz
 ·exact h.aV.keep (fun k hk=>(xN k (h.aV.lt k hk) (h.holds k (.inr (.inl hk))).1).1) hz
 ·exact h.ids.keep (fun k hk=>(xN k (h.ids.lt k hk) (h.holds k (.inr (.inr hk))).1).1) hz
 ·intro k hk
  have hlt:k<w.heap.size:=by
   rcases hk with e | e | e
   ·exact h.names.lt k e
   ·exact h.aV.lt k e
   ·exact h.ids.lt k e
  exact⟨(xN k hlt (h.holds k hk).1).2,(h.holds k hk).2⟩
 ·intro x Fx
  rcases List.mem_append.1 Fx with Fx | Fx
  ·exact r4 x Fx
  ·rw[List.mem_singleton.1 Fx]
   exact hx.moves mv (fun c hc=>by rcases hc with e | e <;> (have:=congrArg Prod.fst e;simp only at this;omega))
 ·intro j hj
  rw[List.getElem_append];split
  ·exact h.slot j (by assumption)
  ·rename_i OH
   have:j=ws.length:=by simp at hj;omega
   subst this;simp
 ·intro x
  rw[List.map_append,List.sum_append,h.cnt x];simp[gP x]
 ·exact h.low p4 (by
   rintro k (e | e)
   ·exact .inl (by rw[e,h.fW];decide)
   ·exact .inl (by rw[h.r6 k e.symm];decide))
theorem cW.aiU (h:cW R tg w B0 W s r p lim ag au got ws ds q8 q9 fP){S:Nat}{nodes:List aK}{data:List ByteArray}{rest:List Value}(hx:b9 (fun k=>tg k=(0,8+ds.length)) w S nodes data rest){gg cc:Nat}{cs:Array Value}(hcs:w.heap[W]? = some (.cells cs 71 (0,0)))
  (P:w'.heap[W]? = some (.cells (cs.setIfInBounds 6 (.slice (some ⟨gg,0,none⟩) (ds.length+1) cc)) 71 (0,0))/\w'.ownsRow 0 115 1 (.slice (some ⟨gg,0,none⟩) (ds.length+1) cc) (ds.length+1) ((ds.map fun x=>ptr x.1) ++ [ptr S])/\
   ((some gg:Option Nat)=(Value.slice R.ta ds.length R.tc).ownBlock\/w.heap.size<=gg)/\ax (fun k=>k=W\/some k=(Value.slice R.ta ds.length R.tc).ownBlock) w w'):
  ∃R' aC,cW R' aC w' B0 W s r p lim ag au got ws (ds ++ [(S,nodes,data,rest)]) q8 q9 fP/\Below B0 w w':=by
 obtain⟨p1,p2,p3,p4⟩:=P;obtain⟨a0,a1,a2,a3,a4,hW⟩:=h.block;have hz:=p4.size;obtain⟨aC,xW⟩:∃aC:aP,aC=fun k=>if k<w.heap.size then tg k else if k<w'.heap.size then (0,4) else (0,0):=⟨_,rfl⟩;have t1:∀k,k<w.heap.size->aC k=tg k:=fun k hk=>by rw[xW];exact aL hk
 have hf':jC aC w':=fun k dy=>by
  rw[xW];simp only;rw[ay (by omega),ay (by omega)]
 have mv:az (fun t=>t=(0,1)\/t=(0,4)) tg aC w w':=⟨p4.os,p4.tape,p4.output,hz,t1,fun k fM hn=>p4.block k fM (by
  rintro (e | e)
  ·exact hn (.inl (by rw[e];exact h.fW))
  ·exact hn (.inr (h.r7 k e.symm))),fun _=>hf'⟩
 obtain⟨r1,r2,r3,r4,r5⟩:=h.rest mv (by rintro t (rfl | rfl) <;> decide);have xN:∀k,k<w.heap.size->tg k=(0,0)->w'.heap[k]? = w.heap[k]?/\aC k=(0,0):=fun k hk h0=>⟨mv.block k hk (by rw[h0];rintro (e | e) <;> cases e),(t1 k hk).trans h0⟩;have hlen:(ds ++ [(S,nodes,data,rest)]:List Doc).length=ds.length+1:=by simp
 refine⟨{ R with ta:=some ⟨gg,0,none⟩,tc:=cc },aC,⟨hf',fun k hk=>(t1 k (cv hk h.size)).trans (h.old k hk),eU h.size hz,h.brk,r3,h.Dk,⟨?_,r1,r2,h.w3.twin,h.w3.at_,nh hf'⟩,?_,?_,?_,?_,?_,?_,?_,?_,h.apart,r4,h.slot,?_,h.cnt⟩,?_⟩
 ·rw[hlen]
  refine h.w3.law.reset (fun k hk=>(t1 k (h.fresh.lt (by rw[hk];decide))).trans hk) (fun b0 b1 b2 b3 b4 hb=>?_) (fun k fM hk2=>p4.block k (h.fresh.lt (by rw[fM];decide)) (by
   rintro (e | e)
   ·exact hk2 e
   ·have:=h.r7 k e.symm;rw[fM] at this;cases this))
  rw[hW] at hcs hb;simp only[Option.some.injEq,Obj.cells.injEq,Array.mk.injEq,List.cons.injEq,and_true] at hcs hb;obtain⟨e0,e1,e2,e3,e4⟩:=hb;rw[p1,<-hcs,e0,e1,e2,e3,e4];rfl
 ·refine ai h.Dl (fun g hg=>mv.block g (ah h.Dl hg) ?_)
  rw[h.r6 g hg];rintro (e | e) <;> cases e
 ·exact fun g hg=>(t1 g (ah h.Dl hg)).trans (h.r6 g hg)
 ·rw[hlen,List.map_append]
  exact p2
 ·rw[hlen]
  intro x hx;simp only[Value.ownBlock,Option.some.injEq] at hx;subst hx;rcases p3 with e | e
  ·exact (t1 gg (h.fresh.lt (by rw[h.r7 gg e.symm];decide))).trans (h.r7 gg e.symm)
  ·rw[xW]
   simp only;rw[ay (by omega),aL (ah p2 rfl)]
 ·exact h.names.keep (fun k hk=>(xN k (h.names.lt k hk) (h.holds k (.inl hk)).1).1) hz
 ·exact h.aV.keep (fun k hk=>(xN k (h.aV.lt k hk) (h.holds k (.inr (.inl hk))).1).1) hz
 ·exact h.ids.keep (fun k hk=>(xN k (h.ids.lt k hk) (h.holds k (.inr (.inr hk))).1).1) hz
 ·intro k hk
  have hlt:k<w.heap.size:=by
   rcases hk with e | e | e
   ·exact h.names.lt k e
   ·exact h.aV.lt k e
   ·exact h.ids.lt k e
  exact⟨(xN k hlt (h.holds k hk).1).2,(h.holds k hk).2⟩
 ·intro j hj
  rw[List.getElem_append];split
  ·exact r5 j (by assumption)
  ·rename_i OH
   have KB:j=ds.length:=by simp at hj;omega
   subst KB;simp only[Nat.sub_self,List.getElem_cons_zero];have hne:((0,8+ds.length):Nat×Nat)≠(0,0):=fun e=>by have:=congrArg Prod.snd e;simp only at this;omega
   obtain⟨na,nc,da,dc,hst⟩:=hx;refine⟨na,nc,da,dc,hst.keep (fun k hk=>(t1 k (h.fresh.lt (by rw[hk];exact hne))).trans hk) (fun k hk=>mv.block k (h.fresh.lt (by rw[hk];exact hne)) ?_)⟩;rw[hk];rintro (e | e) <;> (have:=congrArg Prod.snd e;simp only at this;omega)
 ·exact h.low p4 (by
   rintro k (e | e)
   ·exact .inl (by rw[e,h.fW];decide)
   ·exact .inl (by rw[h.r7 k e.symm];decide))
theorem cW.tagged {Sx:Nat->Prop}(h:cW R tg w B0 W s r p lim ag au got ws ds q8 q9 fP)(hb:Below w.heap.size w w'){S:Nat}{nodes:List aK}{data:List ByteArray}{rest:List Value}(hx:b9 (fun k=>w.heap.size<=k/\k<w'.heap.size) w' S nodes data rest)(c:Nat)(hc:c≠0):
  ∃aC,az (fun _=>False) tg aC w w'/\cW R aC w' B0 W s r p lim ag au got ws ds q8 q9 fP/\b9 (fun k=>aC k=(0,c)) w' S nodes data rest:=by
 obtain⟨aC,xW⟩:∃aC:aP,aC=fun k=>if k<w.heap.size then tg k else if k<w'.heap.size then (0,c) else (0,0):=⟨_,rfl⟩;have hz:=hb.size;have t1:∀k,k<w.heap.size->aC k=tg k:=fun k hk=>by rw[xW];exact aL hk
 have hf':jC aC w':=fun k dy=>by
  rw[xW];simp only;rw[ay (by omega),ay (by omega)]
 have m:az (fun _=>False) tg aC w w':=⟨hb.os,hb.tape,hb.output,hz,t1,fun k hk _=>hb.block k hk,fun _=>hf'⟩;refine⟨aC,m,h.after m (fun _ h=>h) rfl h.brk (h.w3.uQ.1.below hb (fun k hk hF=>(t1 k hk).trans hF)) (h.QE.moves m (fun h=>h)) h.Dk rfl (fun x hx=>(h.xL x hx).moves m (fun _ h=>h)) h.slot h.cnt,?_⟩;obtain⟨na,nc,da,dc,hst⟩:=hx;refine⟨na,nc,da,dc,hst.keep (fun k hk=>?_) (fun _ _=>rfl)⟩;rw[xW];simp only;rw[ay (by omega),aL hk.2]
end
end Go.Proofs.YtlgidcmmgohagaaGreat
