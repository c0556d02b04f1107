/- What is proved here: Stat of a tree. -/
import Derived.Test.YtlgidcmmgohagaaGreatTreeM23
import Derived.Test.YtlgidcmmgohagaaGreatTreeM24
import Derived.Test.YtlgidcmmgohagaaGreatTreeM16
import Derived.Deep.RegionHeld3
import Derived.Test.YtlgidcmmgohagaaGreatTreeM22
import Derived.Test.YtlgidcmmgohagaaGreatTreeM05
import Derived.Test.YtlgidcmmgohagaaGreatTreeM21
import Derived.Shelf.Strings.Builder1
import Derived.Shelf.Strings.Builder2
import Derived.Shelf.Strings.OnBuilder
import Derived.Shelf.Small.Bits
import Derived.Shelf.Small.Strs
import Derived.Shelf.Strconv.Itoa0
import Derived.Shelf.LaysM
import Derived.Shelf.Strconv.Clone
import Derived.Shelf.Strings.Search1
import Derived.Shelf.Strings.Search2
import Derived.Shelf.Strings.Cut
import Derived.Shelf.Strings.Shaped
import Derived.Shelf.SlGeneric
import Derived.Shelf.SlSortCmp.SmallK
import Derived.Ground.SlsfProg
import Derived.Test.YtlgidcmmgohagaaGreatProg
import Derived.Shelf.SlSortCmp.NoneTotal
namespace Go.Proofs.YtlgidcmmgohagaaGreat
open Go.RowKit Go.Sort Go.Shelf Go.Proofs.Tryz
set_option linter.unusedVariables false
set_option maxRecDepth 100000
set_option maxHeartbeats 16000000
section
variable {s i p:Nat}{B:WB}{ag:List Ob}
theorem Qv {tg:aP}{w:World}{g:WG}{lim:Nat}{t:LT}(h:bF tg w s i p B ag g lim)(hl:lim+10<1099511627776)(hF:Flat ag t g.ft)(cz:bu ag 5 t)(Ds:Ga ag g.fl){q:List ByteArray}(hq:Good q){c:LT}(ha:t.at ag q=some c)(nm:ByteArray):
  Calls prog 183 #[.pointer (some ⟨B.bt,0,none⟩),.agg (av q),.agg #[.string nm,.int .i64 c.kind,.int .i64 c.id]] w fun en w'=>en=.returned (.tuple #[.int .i64 (fQ ag g.fl g.fs c).2.2,.int .i64 (fQ ag g.fl g.fs c).2.1])/\jX s i p B ag tg w w' { g with fs:=(fQ ag g.fl g.fs c).1 } (lim+1):=by
 have hS:=h.st.sound;obtain⟨_,vW,_⟩:=dN hS q cz ha;have hb0:∀k id:Int,Below w.heap.size w ((w.alloc (.cells (av q) 147)).alloc (.cells #[.string nm,.int .i64 k,.int .i64 id] 96)):=fun k id=>((Below.refl _ _).alloc (bA _) _).alloc (by simp) _;have YE:∀{m:Nat} (c:LT),c.kind=2->bu ag m c->t.at ag q=some c->(c.id≠0->aH ag c.id=2)->fQ ag g.fl g.fs c=((cQ ag g.fs c).1,(cQ ag g.fs c).2.1,((cQ ag g.fs c).2.2.length:Int))->
   Calls prog 183 #[.pointer (some ⟨B.bt,0,none⟩),.agg (av q),.agg #[.string nm,.int .i64 2,.int .i64 c.id]] w fun en w'=>en=.returned (.tuple #[.int .i64 (fQ ag g.fl g.fs c).2.2,.int .i64 (fQ ag g.fl g.fs c).2.1])/\jX s i p B ag tg w w' { g with fs:=(fQ ag g.fl g.fs c).1 } (lim+1):=by
  intro m c hk aiG ha' hid hG;have aiH:lR ag (nm,2,c.id):=⟨.inr rfl,hid⟩;have hfe:=uo hS hF aiG ha' g.fs nm;rw[hk] at hfe;have hen:=tK (h.below (hb0 2 c.id)) (by omega) hq aiH;rw[hfe] at hen;rw[hG];refine Qt B.bt _ _ _ _ _ _ nm c.id _ (fun w'=>jX s i p B ag tg w w' { g with fs:=(cQ ag g.fs c).1 } (lim+1)) w (hen.mono ?_);rintro en w' ⟨v,he,aC,m',hW,nP⟩;obtain⟨la,cc,rfl⟩:=nP.len;rw[List.length_map] at he;exact⟨la,cc,he,aC,bY (hb0 2 c.id) m',hW⟩
 cases c with
 | file id=>
  rw[bu] at vW;have hid:id≠0:=fun e=>by have:=(fG (a:=ag) (id:=id) (by rw[vW];decide)).1;omega
  have hlt:B.bt<w.heap.size:=(Array.getElem?_eq_some_iff.1 h.wp.tree.ht).1;have hsf:=fun W (hb:Below w.heap.size w W)=>Tu (h.below hb) (by omega) vW;have h1:=h.below (hb0 1 id);have c1:((w.alloc (.cells (av q) 147)).alloc (.cells #[.string nm,.int .i64 1,.int .i64 id] 96)).cell? ⟨B.bt,1,none⟩=some (.pointer (some ⟨B.sF,0,none⟩)):=Xm h1.wp.tree.ht 1;have hsz:(if (g.fs.ep id).2=true then bytesOf ag id else ⟨#[]⟩).size<=256:=by
   split
   ·exact h.st.Cj vW
   ·decide
  have:=Ck B.bt _ _ _ _ _ nm (if (g.fs.ep id).2=true then bytesOf ag id else ⟨#[]⟩) id (if (g.fs.ep id).2=true then 0 else 14) hsz (fun w'=>jX s i p B ag tg w w' { g with fs:=(g.fs.ep id).1 } (lim+1)) w (Jr B.bt B.sF _ _ _ _ _ nm _ id _ _ _ (cv hlt (hb0 1 id).size) hid c1 (fun W hb=>(hsf W (aq (hb0 1 id) hb)).mono (fun e w' ⟨h1,aC,m,hW⟩=>⟨h1,aC,bY (aq (hb0 1 id) hb) m,hW⟩)))
  have hG:fQ ag g.fl g.fs (.file id)=if (g.fs.ep id).2 then ((g.fs.ep id).1,0,((bytesOf ag id).size:Int)) else ((g.fs.ep id).1,14,0):=rfl;rw[hG];cases hh:(g.fs.ep id).2 with
  | true=>rw[hh] at this;exact this
  | false=>rw[hh] at this;exact this
 | held f=>
  have Q6:g.ft.of q=some f:=by rw[hF.of,ha];rfl
  obtain⟨x,hx⟩:=h.wp.held q f Q6;obtain⟨wu,er,d,Gv⟩:∃wu er d,ir ag g.fl g.fs f=(wu,er,d):=⟨_,_,_,rfl⟩;have hG:fQ ag g.fl g.fs (.held f)=(wu,er,(d.size:Int)):=by simp only[fQ,Gv]
  rw[hG];have Ru:=Qp h Ds Gv;exact Ck B.bt _ _ _ _ _ nm d 0 er Ru _ w ((Mf (nm:=nm) (h.below (hb0 1 0)) (by omega) Ds hq Q6 hx Gv).mono (fun e w' ⟨h1,h2⟩=>⟨h1,h2.via (hb0 1 0)⟩))
 | dir id=>exact YE (.dir id) rfl vW ha (fun h0=>by rw[bu] at vW;exact vW.1) rfl
 | own es=>exact YE (.own es) rfl vW ha (fun h0=>absurd rfl h0) rfl
theorem Qw {tg:aP}{w:World}{g:WG}{lim:Nat}{t:LT}(h:bF tg w s i p B ag g lim)(hl:lim+100<1099511627776)(hF:Flat ag t g.ft)(cz:bu ag 5 t)(Ds:Ga ag g.fl){r:List ByteArray}(hq:Good r.reverse):
  Calls prog 126 #[.pointer (some ⟨B.bt,0,none⟩),.agg (av r.reverse)] w fun e w'=>e=.returned (.tuple #[.agg #[.int .i64 (jy ag g.fl t g.fs r).2.2.1,.int .i64 (jy ag g.fl t g.fs r).2.2.2],.int .i64 (jy ag g.fl t g.fs r).2.1])/\jX s i p B ag tg w w' { g with fs:=(jy ag g.fl t g.fs r).1 } (lim+20):=by
 have hi:=h.two;have hS:=h.st.sound;have hb0:=Jq w r.reverse;have Ho:=Me w r.reverse;have xS:tg (w.heap.size+1)=(0,0):=h.st.fresh _ (by omega);have Dc:tg w.heap.size=(0,0):=h.st.fresh _ (by omega);have RH:r.length<=5:=by have:=hq.len;simpa using this
 have cV:=tM (s:=s) (i:=i) (p:=p) (B:=B) (ag:=ag) r tg _ g lim (h.below hb0) (by omega) hq;obtain⟨q1,q2,q3⟩:=qy hS hF cz g.fs r;by_cases her:(aO ag t g.fs r).2.1=0
 ·obtain⟨q4,hat⟩:=q3 her
  rw[q1,q2,q4,her] at cV;have hst:jy ag g.fl t g.fs r=(if (fQ ag g.fl (aO ag t g.fs r).1 (aO ag t g.fs r).2.2).2.1≠0 then ((fQ ag g.fl (aO ag t g.fs r).1 (aO ag t g.fs r).2.2).1,(fQ ag g.fl (aO ag t g.fs r).1 (aO ag t g.fs r).2.2).2.1,0,0) else ((fQ ag g.fl (aO ag t g.fs r).1 (aO ag t g.fs r).2.2).1,0,(aO ag t g.fs r).2.2.kind,(fQ ag g.fl (aO ag t g.fs r).1 (aO ag t g.fs r).2.2).2.2)):=by
   unfold jy;simp only[her];rfl
  generalize (aO ag t g.fs r).2.2=c at *;generalize (aO ag t g.fs r).1=wu at *;have hw:=Qu B.bt _ _ _ _ _ (r.headD ⟨#[]⟩) c.kind c.id (fQ ag g.fl wu c).2.2 (fQ ag g.fl wu c).2.1 (fun w3=>∃Ae,az (dB i) tg Ae ((w.alloc (.cells (av r.reverse) 147)).alloc (.cells #[.int .i64 0,.int .i64 0] 141)) w3/\bF Ae w3 s i p B ag { g with fs:=wu } (lim+5)/\Ae (w.heap.size+1)=(0,0)) (fun w3=>jX s i p B ag tg ((w.alloc (.cells (av r.reverse) 147)).alloc (.cells #[.int .i64 0,.int .i64 0] 141)) w3 { g with fs:=(fQ ag g.fl wu c).1 } (lim+20)) w (cV.mono ?_) ?_
  ·refine hw.mono ?_
   rintro e w' ⟨he,w3,hd,hg⟩;rw[hst];by_cases hz:(fQ ag g.fl wu c).2.1=0
   ·rw[ay (fun h=>h hz)]
    rw[aL hz,hz] at he;exact⟨he,xx h hb0 (by simp) hd hg⟩
   ·rw[aL hz]
    rw[ay hz] at he;exact⟨he,xx h hb0 (by simp) hd hg⟩
  ·rintro e w' ⟨he,aC,m,hW⟩
   obtain⟨hb1,ht1⟩:=pW (mj hi) xS m Ho;exact⟨he,hb1,fun o=>World.cell?_of_block (a:=⟨w.heap.size,o,none⟩) (m.block w.heap.size (by simp;omega) (by rw[Dc];exact mj hi)),aC,m,hW.mono (by omega),ht1⟩
  ·rintro w3 ⟨Ae,m3,hW3,Re⟩ hI3
   have hb3:Below w3.heap.size w3 (w3.alloc (.cells #[.string (r.headD ⟨#[]⟩),.int .i64 c.kind,.int .i64 c.id] 96)):=(Below.refl _ _).alloc (bA _) _;refine (Qv (g:={ g with fs:=wu }) (hW3.below hb3) (by omega) hF cz Ds hq hat (r.headD ⟨#[]⟩)).mono ?_;rintro e w4 ⟨he,tg4,m4,Bq⟩;have aiJ:jf (w3.alloc (.cells #[.string (r.headD ⟨#[]⟩),.int .i64 c.kind,.int .i64 c.id] 96)) (w.heap.size+1):=by
    unfold jf at hI3 ⊢;rw[Below.heap_alloc _ _ _ (Array.getElem?_eq_some_iff.1 hI3).1];exact hI3
   refine⟨he,(pW (mj hi) Re m4 aiJ).1,fun o=>World.cell?_of_block (a:=⟨w3.heap.size,o,none⟩) (m4.block w3.heap.size (by simp) (by rw[hW3.st.fresh _ (bA _)];exact mj hi)),cv (by simp) m4.size,tg4,m3.trans (bY hb3 m4),Bq.mono (by omega)⟩
 ·have hst:jy ag g.fl t g.fs r=((aO ag t g.fs r).1,(aO ag t g.fs r).2.1,0,0):=by
   unfold jy;simp only[aL her]
  rw[hst];rw[q1,q2] at cV;have Qa:((aO ag t g.fs r).2.1 == 0)=false:=by simpa using her
  have hw:=Qq B.bt _ _ _ _ _ (findF ag g.ft g.fs r).2.2.1 (findF ag g.ft g.fs r).2.2.2.1 (findF ag g.ft g.fs r).2.2.2.2 (aO ag t g.fs r).2.1 (fun w3=>jX s i p B ag tg ((w.alloc (.cells (av r.reverse) 147)).alloc (.cells #[.int .i64 0,.int .i64 0] 141)) w3 { g with fs:=(aO ag t g.fs r).1 } (lim+20)) w Qa (cV.mono ?_)
  ·refine hw.mono ?_
   rintro e w' ⟨he,w3,hd,hg⟩;exact⟨he,xx h hb0 (by simp) hd hg⟩
  ·rintro e w' ⟨he,aC,m,hW⟩
   obtain⟨hb1,ht1⟩:=pW (mj hi) xS m Ho;exact⟨he,hb1,aC,m,hW.mono (by omega)⟩
theorem aeb {tg:aP}{w:World}{g:WG}{lim:Nat}{t:LT}(h:kj tg w s i p B ag g lim t)(hl:lim+1000<1099511627776){r:List ByteArray}(hL:Good r.reverse):
  Calls prog 67 #[.pointer (some ⟨B.wb,0,none⟩),.string (bV r.reverse)] w fun e w'=>e=.returned (.tuple #[.agg #[.int .i64 (jy ag g.fl t g.fs r).2.2.1,.int .i64 (jy ag g.fl t g.fs r).2.2.2],.int .i64 (jy ag g.fl t g.fs r).2.1])/\Qs s i p B ag tg w w' (lim+400) (yQ g (jy ag g.fl t g.fs r).1 t):=by
 obtain⟨aiK,c0⟩:=aaC h.inv;have hi:=h.inv.two;have xS:tg w.heap.size=(0,0):=h.inv.st.fresh _ (bA _);have hw:=Xj B.wb B.bt r.reverse hL (jy ag g.fl t g.fs r).2.2.1 (jy ag g.fl t g.fs r).2.2.2 (jy ag g.fl t g.fs r).2.1 (fun w2=>∃aC,az (dB i) tg aC w w2/\bF aC w2 s i p B ag { g with fs:=(jy ag g.fl t g.fs r).1 } (lim+20)/\aC w.heap.size=(0,0)) w aiK.1 c0 (fun W hb hI=>(Qw (h.inv.below hb) (by omega) h.flat h.ok h.fl hL).mono ?_)
 ·refine hw.mono ?_
  rintro e w' ⟨he,w2,⟨aC,m,hW,ht⟩,hg⟩;obtain⟨WN,m2,hW2⟩:=Qr hi m hW ht hg;exact⟨he,WN,_,t,m2.mono (fun t ht=>dB.mine ht),⟨hW2.mono (by omega),h.flat,h.ok,h.fl,h.op⟩,rfl,rfl,rfl,rfl⟩
 ·rintro e w' ⟨he,aC,m,hW⟩
  obtain⟨h1,h2⟩:=pW (mj hi) xS m hI;exact⟨he,h1,aC,bY hb m,hW,h2⟩
end

section
variable {s i p:Nat}{B:WB}{ag:List Ob}
end
def big (ag:List Ob):Nat->LT->Nat
 | 0,_=>1
 | n+1,t=>1+(((kids ag t).getD []).map fun x=>big ag n x.2).sum
theorem Gb {ag:List Ob}{t:LT}{fs:FS}{r:List ByteArray}(h:(cA ag t fs r).2.1=0):∃d,t.at ag r.reverse=some d/\kids ag d=some (cA ag t fs r).2.2:=by
 exact (rC h).1
def dI (ag:List Ob)(t:LT):Prop:=∀x y b,t.at ag x=some (.held b)->t.at ag y=some (.held b)->x=y
theorem Mg {ag:List Ob}{t d:LT}{q:List ByteArray}{ks:Kids}(ha:t.at ag q=some d)(hk:kids ag d=some ks)(m:ByteArray)(r:List ByteArray):t.at ag (q++m :: r)=(aS ks m).bind fun c=>c.at ag r:=by
 rw[bH,ha,Option.bind_some,bw,hk,Option.bind_some]
theorem yS {ag:List Ob}{t d:LT}{q:List ByteArray}{ks:Kids}{n:ByteArray}(hr:aU ks)(ha:t.at ag q=some d)(hk:kids ag d=some ks)(ht:aW ks n=true){x:List ByteArray}{b:Nat}(h:(dK ag (fun ks=>cE ks n) q t).at ag x=some (.held b)):t.at ag x=some (.held b)/\¬q ++ [n] <+: x:=by
 rcases Hy _ ha hk h with ⟨m,r,rfl,h1⟩ | ⟨h1,h2⟩
 ·rw[jK hr ht] at h1
  by_cases e:m=n
  ·rw[aL e] at h1;simp at h1
  ·rw[ay e] at h1
   refine⟨by rw[Mg ha hk];exact h1,?_⟩;rintro ⟨l,hl⟩;rw[List.append_assoc] at hl
   have:=List.append_cancel_left hl
   simp at this;exact e this.1.symm
 ·exact⟨h2,fun hp=>h1 ((List.prefix_append _ _).trans hp)⟩
theorem Js {ag:List Ob}{t d c:LT}{q:List ByteArray}{ks:Kids}{n:ByteArray}(hr:aU ks)(ha:t.at ag q=some d)(hk:kids ag d=some ks){x:List ByteArray}{b:Nat}(h:(dK ag (fun ks=>eH ks n c) q t).at ag x=some (.held b)):(∃r,x=q++n :: r/\c.at ag r=some (.held b))\/(t.at ag x=some (.held b)/\¬q ++ [n] <+: x):=by
 rcases Hy _ ha hk h with ⟨m,r,rfl,h1⟩ | ⟨h1,h2⟩
 ·rw[sX hr] at h1
  by_cases e:m=n
  ·rw[aL e,Option.bind_some] at h1
   subst e;exact .inl ⟨r,rfl,h1⟩
  ·rw[ay e] at h1
   refine .inr ⟨by rw[Mg ha hk];exact h1,?_⟩;rintro ⟨l,hl⟩;rw[List.append_assoc] at hl
   have:=List.append_cancel_left hl
   simp at this;exact e this.1.symm
 ·exact .inr ⟨h2,fun hp=>h1 ((List.prefix_append _ _).trans hp)⟩
theorem NY {ag:List Ob}{t d c:LT}{q:List ByteArray}{ks:Kids}{n:ByteArray}(hi:dI ag t)(hr:aU ks)(ha:t.at ag q=some d)(hk:kids ag d=some ks)(hc:dI ag c)(hf:∀r b y,c.at ag r=some (.held b)->t.at ag y=some (.held b)->q ++ [n] <+: y):dI ag (dK ag (fun ks=>eH ks n c) q t):=by
 intro x y b hx hy;rcases Js hr ha hk hx with ⟨r,rfl,h1⟩ | ⟨h1,h2⟩ <;> rcases Js hr ha hk hy with ⟨r',rfl,k1⟩ | ⟨k1,k2⟩
 ·rw[hc r r' b h1 k1]
 ·exact absurd (hf r b y h1 k1) k2
 ·exact absurd (hf r' b x k1 h1) h2
 ·exact hi x y b h1 k1
theorem Jt {ag:List Ob}{t d:LT}{q:List ByteArray}{ks:Kids}{n:ByteArray}(hi:dI ag t)(hr:aU ks)(ha:t.at ag q=some d)(hk:kids ag d=some ks)(ht:aW ks n=true):dI ag (dK ag (fun ks=>cE ks n) q t):=fun x y b hx hy=>hi x y b (yS hr ha hk ht hx).1 (yS hr ha hk ht hy).1
theorem Ju (ag:List Ob)(r:List ByteArray)(b:Nat):(LT.own []).at ag r≠some (.held b):=by
 cases r with
 | nil=>rw[di];intro h;cases h
 | cons m r=>rw[bw];simp[kids,aS]
theorem Qx {ag:List Ob}(hS:Sound ag){t:LT}(cz:bu ag 5 t)(hi:dI ag t)(fs:FS)(n:ByteArray)(r:List ByteArray):dI ag (gG ag t fs (n :: r)).2.2:=by
 unfold gG;simp only;split
 ·exact hi
 ·rename_i h0
  split
  ·exact hi
  ·split
   ·exact hi
   ·obtain⟨d,ha,hk⟩:=Gb (Decidable.not_not.1 h0)
    obtain⟨_,hd,_⟩:=dN hS _ cz ha;exact NY hi (cr hS hd hk).1 ha hk (fun x y b hx=>absurd hx (Ju ag x b)) (fun r b y h=>absurd h (Ju ag r b))
theorem Mh {ag:List Ob}(hS:Sound ag){t:LT}(cz:bu ag 5 t)(hi:dI ag t)(fs:FS)(n:ByteArray)(r:List ByteArray):dI ag (eE ag t fs (n :: r)).2.2:=by
 unfold eE;simp only;split
 ·exact hi
 ·rename_i hf
  split
  ·exact hi
  ·obtain⟨a,_,_,d,ks,h1,h2,h3⟩:=xz (ag:=ag) (t:=t) (fs:=fs) (n:=n) (r:=r) (fs':=(aO ag t fs (n :: r)).1) (c:=(aO ag t fs (n :: r)).2.2) (by rw[<-Decidable.not_not.1 hf])
   obtain⟨_,hd,_⟩:=dN hS _ cz h1;have hr:=(cr hS hd h2).1;exact Jt hi hr h1 h2 (by rw[<-dR hr,h3];rfl)
theorem Mi {ag:List Ob}(hS:Sound ag){t:LT}(cz:bu ag 5 t)(hi:dI ag t)(fs:FS)(n m:ByteArray)(r q:List ByteArray):dI ag (eA ag t fs (n :: r) (m :: q)).2.2:=by
 unfold eA;simp only;split
 ·exact hi
 ·rename_i hf
  split
  ·exact hi
  ·rename_i qh
   split
   ·exact hi
   ·rename_i hlk
    split
    ·exact hi
    ·split
     ·exact hi
     ·obtain⟨a,_,_,d,ks,h1,h2,h3⟩:=xz (ag:=ag) (t:=t) (fs:=fs) (n:=n) (r:=r) (fs':=(aO ag t fs (n :: r)).1) (c:=(aO ag t fs (n :: r)).2.2) (by rw[<-Decidable.not_not.1 hf])
      generalize (aO ag t fs (n :: r)).2.2=c at a h3 ⊢;obtain⟨_,hd,_⟩:=dN hS _ cz h1;have hr:=(cr hS hd h2).1;have pq:aW ks n=true:=by rw[<-dR hr,h3];rfl
      have hac:t.at ag (r.reverse ++ [n])=some c:=(by rw[Mg h1 h2,h3,Option.bind_some,di]);have nw:∀x b,c.at ag x=some (.held b)->t.at ag ((r.reverse ++ [n])++x)=some (.held b):=fun x b hx=>by rw[bH,hac,Option.bind_some];exact hx
      have B5:(cA ag t (aO ag t fs (n :: r)).1 q).2.1=0:=Decidable.not_not.1 (fun h=>hlk (.inl h));obtain⟨dt,hat,jQ⟩:=Gb B5;have KL:¬(r.reverse ++ [n]) <+: q.reverse:=by
       intro h;refine qh ⟨?_,fun e=>hlk (.inr e)⟩;rw[List.reverse_cons,List.reverse_cons];exact h.trans (List.prefix_append _ _)
      obtain⟨d1,k1,aec,aed,_⟩:=Bh hr h1 h2 pq hat jQ KL;have z7:=wS hS cz h1 h2 n;obtain⟨_,W4,_⟩:=dN hS _ z7 aec;refine NY (Jt hi hr h1 h2 pq) (cr hS W4 aed).1 aec aed (fun x y b hx hy=>?_) (fun x b y hx hy=>?_)
      ·exact List.append_cancel_left (hi _ _ b (nw x b hx) (nw y b hy))
      ·obtain⟨hy1,hy2⟩:=yS hr h1 h2 pq hy
       have:=hi _ _ b (nw x b hx) hy1
       exact absurd ⟨x,this⟩ hy2
theorem Xn (f:Fn)(vs:Array Value)(w:World):Calls prog 114 #[.func f vs #[]] w fun e w'=>e=.returned (.pointer (some ⟨w.heap.size+1,0,none⟩))/\w'=(w.alloc (.map #[] 0)).alloc (.cells #[.func f vs #[],.map (some w.heap.size)] 267):=by
 have EL:=@run_makeMap prog;go_enter func114,ntmps114;go_wp2;go_ret;exact⟨rfl,rfl⟩
theorem Xo (f:Fn)(vs:Array Value)(w:World):Calls prog 116 #[.func f vs #[]] w fun e w'=>e=.returned (.pointer (some ⟨w.heap.size+1,0,none⟩))/\w'=(w.alloc (.map #[] 0)).alloc (.cells #[.func f vs #[],.map (some w.heap.size)] 271):=by
 have EL:=@run_makeMap prog;go_enter func116,ntmps116;go_wp2;go_ret;exact⟨rfl,rfl⟩
def rX (w:World)(p:Nat)(root:Int):World:=((((((w.alloc (.map #[] 0)).alloc (.cells #[.func (.func 115) #[ptr p] #[],.map (some w.heap.size)] 267)).alloc (.map #[] 0)).alloc (.cells #[.func (.func 117) #[ptr p] #[],.map (some (w.heap.size+2))] 271)).alloc (.map #[] 0)).alloc (.map #[] 0)).alloc (.cells #[ptr p,ptr (w.heap.size+1),ptr (w.heap.size+3),.int .i64 root,.string ⟨#[]⟩,.int .i64 2,.int .i64 root,.map (some (w.heap.size+4)),.map (some (w.heap.size+5))] 164)
theorem Up (p:Nat)(root:Int)(w:World):Calls prog 62 #[.pointer (some ⟨p,0,none⟩),.int .i64 root] w fun e w'=>e=.returned (.pointer (some ⟨w.heap.size+6,0,none⟩))/\w'=rX w p root:=by
 have h1:=fun vs W=>Xn (.func 115) vs W;have h2:=fun vs W=>Xo (.func 117) vs W;have EL:=@run_makeMap prog;go_enter func62,ntmps62;go_wp2_with (first
  | (go_at_call 114;refine Calls.mono (h1 _ _) ?_;rintro e w1 ⟨rfl,rfl⟩)
  | (go_at_call 116;refine Calls.mono (h2 _ _) ?_;rintro e w1 ⟨rfl,rfl⟩))
 go_ret;exact⟨rfl,rfl⟩
def ng (w:World)(p:Nat)(root:Int):World:=(rX w p root).alloc (.cells #[ptr (w.heap.size+6),.pointer none,.pointer none,.pointer none,.pointer none,.pointer none,.pointer none,.pointer none,.pointer none] 91)
theorem Di (s p:Nat)(id:Int)(w:World)(hs:s<w.heap.size)(c0:w.cell? ⟨s,0,none⟩=some (.pointer (some ⟨p,0,none⟩)))(hk:Calls prog 61 #[.pointer (some ⟨p,0,none⟩),.int .i64 id] w fun e w'=>e=.returned (.int .i64 2)/\Below w.heap.size w w'):
  Calls prog 27 #[.pointer (some ⟨s,0,none⟩),.int .i64 id] w fun e w'=>∃w1,Below w.heap.size w w1/\e=.returned (.tuple #[.pointer (some ⟨w1.heap.size+7,0,none⟩),.int .i64 0])/\w'=ng w1 p id:=by
 have Uq:=fun W=>Up p id W;have hts:∀W,(rX W p id).heap.size=W.heap.size+7:=fun W=>by unfold rX;simp
 go_enter func27,ntmps27;go_wp2_with (first
  | (go_at_call 61;refine hk.mono ?_;rintro e w1 ⟨rfl,hb1⟩;have d0:=((aR hb1).1 s 0 hs).trans c0;have hs1:=cv hs hb1.size)
  | (go_at_call 62;refine Calls.mono (Uq _) ?_;rintro e w2 ⟨rfl,rfl⟩))
 go_ret2;exact⟨w1,hb1,rfl,rfl⟩
def wsB (n:Nat):WB:=⟨n+7,n+6,n+1,n+3,n,n+2,n+4,n+5⟩
def gH (tg:aP)(n i:Nat):aP:=fun k=>if k<n then tg k else if k=n then (i,2) else if k=n+1 then (i,1) else if k=n+2 then (i,3) else if k=n+3 then (i,1) else if k=n+4 then (i,4) else if k=n+5 then (i,5) else if k=n+6 then (i,1) else if k=n+7 then (i,0) else (0,0)
theorem Mj (w:World)(p:Nat)(id:Int):(ng w p id).heap.size=w.heap.size+8:=by unfold ng rX;simp
theorem Jv (w:World)(p:Nat)(id:Int):Below w.heap.size w (ng w p id):=by
 unfold ng rX;exact (((((((((Below.refl w.heap.size w).alloc (bA _) _).alloc (by simp) _).alloc (by simp;omega) _).alloc (by simp;omega) _).alloc (by simp;omega) _).alloc (by simp;omega) _).alloc (by simp;omega) _).alloc (by simp;omega) _)
theorem Mk (w:World)(p:Nat)(id:Int):
  (ng w p id).heap[w.heap.size]? = some (.map #[] 0)/\(ng w p id).heap[w.heap.size+1]? = some (.cells #[.func (.func 115) #[ptr p] #[],.map (some w.heap.size)] 267 (0,0))/\(ng w p id).heap[w.heap.size+2]? = some (.map #[] 0)/\(ng w p id).heap[w.heap.size+3]? = some (.cells #[.func (.func 117) #[ptr p] #[],.map (some (w.heap.size+2))] 271 (0,0))/\(ng w p id).heap[w.heap.size+4]? = some (.map #[] 0)/\(ng w p id).heap[w.heap.size+5]? = some (.map #[] 0)/\
  (ng w p id).heap[w.heap.size+6]? = some (.cells #[ptr p,ptr (w.heap.size+1),ptr (w.heap.size+3),.int .i64 id,.string ⟨#[]⟩,.int .i64 2,.int .i64 id,.map (some (w.heap.size+4)),.map (some (w.heap.size+5))] 164 (0,0))/\(ng w p id).heap[w.heap.size+7]? = some (.cells #[ptr (w.heap.size+6),.pointer none,.pointer none,.pointer none,.pointer none,.pointer none,.pointer none,.pointer none,.pointer none] 91 (0,0)):=by
 unfold ng rX World.alloc;simp only[Array.getElem?_push,Array.size_push];refine⟨?_,?_,?_,?_,?_,?_,?_,?_⟩
 ·rw[ay (by omega),ay (by omega),ay (by omega),ay (by omega),ay (by omega),ay (by omega),ay (by omega),aL trivial]
 all_goals simp
def wg0 (id:Int)(got:List Int):WG:=⟨id,⟨id,fun _=>none,fun _=>none⟩,⟨got,false,fun _=>false,fun _=>false⟩,fun _=>none,fun _=>none⟩
section
variable {s i p:Nat}{ag:List Ob}
theorem aaE {tg:aP}{w:World}{got:List Int}{lim:Nat}(h:gj tg w s p ag got false lim)(hi:2<=i){id:Int}(hk:aH ag id=2):
  az (fun _=>False) tg (gH tg w.heap.size i) w (ng w p id)/\bF (gH tg w.heap.size i) (ng w p id) s i p (wsB w.heap.size) ag (wg0 id got) lim:=by
 have hb:=Jv w p id;obtain⟨b0,b1,b2,b3,b4,b5,b6,b7⟩:=Mk w p id;have ht:∀k,k<w.heap.size->gH tg w.heap.size i k=tg k:=fun k hk=>by unfold gH;rw[aL hk]
 have m:az (fun _=>False) tg (gH tg w.heap.size i) w (ng w p id):=⟨hb.os,hb.tape,hb.output,hb.size,ht,fun k hk _=>hb.block k hk,fun hf k hk=>by
  rw[Mj] at hk;unfold gH;rw[ay (by omega),ay (by omega),ay (by omega),ay (by omega),ay (by omega),ay (by omega),ay (by omega),ay (by omega),ay (by omega)]⟩
 have t0:gH tg w.heap.size i w.heap.size=(i,2):=by unfold gH;simp
 have t1:gH tg w.heap.size i (w.heap.size+1)=(i,1):=by unfold gH;rw[ay (by omega)];simp
 have t2:gH tg w.heap.size i (w.heap.size+2)=(i,3):=by unfold gH;rw[ay (by omega)];simp
 have t3:gH tg w.heap.size i (w.heap.size+3)=(i,1):=by unfold gH;rw[ay (by omega)];simp
 have t4:gH tg w.heap.size i (w.heap.size+4)=(i,4):=by unfold gH;rw[ay (by omega)];simp
 have t5:gH tg w.heap.size i (w.heap.size+5)=(i,5):=by unfold gH;rw[ay (by omega)];simp
 have t6:gH tg w.heap.size i (w.heap.size+6)=(i,1):=by unfold gH;rw[ay (by omega)];simp
 have t7:gH tg w.heap.size i (w.heap.size+7)=(i,0):=by unfold gH;rw[ay (by omega)];simp
 refine⟨m,hi,h.moves m (fun x=>x) (fun x=>x),⟨⟨t6,t1,t3,b6,b1,b3⟩,⟨t0,0,fun _=>none,dG _,Ar b0,fun id=>rfl,fun id hx=>by cases hx⟩,⟨t2,0,fun _=>none,fun _=>.slice none 0 0,dG _,Ar b2,fun id=>rfl,fun id hx=>by cases hx⟩,⟨t4,⟨0,dG _,fun _=>none,Ar b4,fun _ _=>rfl,fun kl _ hx=>absurd rfl hx⟩,fun q f hx=>by cases hx⟩,⟨fun _=>.slice none 0 0,t5,⟨0,dG _,fun _=>none,Ar b5,fun _ _=>rfl,fun kl _ hx=>absurd rfl hx⟩,fun q es hx=>(by cases hx),fun q es hx=>(by cases hx),fun q r es fs gg hx=>(by cases hx)⟩,fun f id d hx=>(by cases hx),fun q f hx=>(by cases hx),⟨t7,b7,fun k hk=>rfl,fun k b f fg pl hx=>(by cases hx),fun k l x y hx=>(by cases hx)⟩,⟨fun _=>hk,fun q es hx=>(by cases hx)⟩⟩⟩
theorem uH (ag:List Ob):∀(q:List ByteArray) (id:Int),vt ((LT.dir id).at ag q)=none/\KF ((LT.dir id).at ag q)=none
 | [],id=>by rw[di];exact⟨rfl,rfl⟩
 | n :: r,id=>by
  rw[bw]
  show vt ((aS ((bR ag id).map iA) n).bind _)=none/\KF ((aS ((bR ag id).map iA) n).bind _)=none
  cases hp:aS ((bR ag id).map iA) n with
  | none=>exact⟨rfl,rfl⟩
  | some c=>
   obtain⟨e,_,he⟩:=List.mem_map.1 (oN hp)
   have hc:c=ltOf e:=by unfold iA at he;exact (Prod.mk.inj he).2.symm
   rw[Option.bind_some,hc]
   unfold ltOf
   split
   ·exact uH ag r _
   ·cases r with
    | nil=>rw[di];exact⟨rfl,rfl⟩
    | cons m r=>rw[bw];exact⟨rfl,rfl⟩
theorem Ur (id:Int)(got:List Int):Flat ag (.dir id) (wg0 id got).ft:=⟨rfl,rfl,fun q=>(uH ag q id).1.symm,fun q=>(uH ag q id).2.symm⟩
end

theorem YF {i:Nat}(hi:2<=i):¬Mine i (0,0):=by
 rintro (h | h)
 ·cases h
 ·simp only at h;omega
theorem Qy {tg:aP}{w:World}{s p i:Nat}{ag:List Ob}{got:List Int}{lim:Nat}(h:gj tg w s p ag got false lim)(hi:2<=i){id:Int}(cz:bu ag 5 (.dir id)):
  Calls prog 27 #[.pointer (some ⟨s,0,none⟩),.int .i64 id] w fun e w'=>∃B:WB,e=.returned (.tuple #[.pointer (some ⟨B.wb,0,none⟩),.int .i64 0])/\∃aC,az (fun _=>False) tg aC w w'/\kj aC w' s i p B ag (wg0 id got) lim (.dir id):=by
 have hk:aH ag id=2:=by rw[bu] at cz;exact cz.1
 have h0:=h;obtain⟨xS,ft,S3,hI,kE⟩:=h;obtain⟨a,cap,bf,bd,Df,Dd,hI⟩:=hI;have hs:s<w.heap.size:=(Array.getElem?_eq_some_iff.1 hI.hs).1;have qs:=qp p a ag.length cap bf bd ag id w hI.iH;rw[hk] at qs;refine (Di s p id w hs hI.c0 qs).mono ?_;rintro e w' ⟨w1,hb,rfl,rfl⟩;have hS1:gj tg w1 s p ag got false lim:=h0.moves (P:=fun _=>False) (az.aM hb) (fun h=>h) (fun h=>h);obtain⟨m,hW⟩:=aaE hS1 (i:=i) hi hk;exact⟨wsB w1.heap.size,rfl,_,(az.aM hb).trans m,⟨hW,Ur id got,cz,(fun f id d hx=>by cases hx),fun _=>rfl⟩⟩

def ko (a:List Ob)(fl:Nat->Option (Int×ByteArray)):e7:=fun f=>match fl f with
 | none=>⟨#[]⟩
 | some (id,d)=>if id≠0 then bytesOf a id else d

end Go.Proofs.YtlgidcmmgohagaaGreat
namespace Go.Proofs
open Go.Shelf
end Go.Proofs
namespace Go.Proofs.YtlgidcmmgohagaaGreat
open Go.RowKit Go.Sort Go.Shelf Go.Proofs.Tryz
set_option linter.unusedVariables false
set_option maxRecDepth 100000
set_option maxHeartbeats 16000000


section
variable {s i p:Nat}{B:WB}{ag:List Ob}
end
theorem Us {ag:List Ob}(hX:Exact ag):∀(n:Nat) (c:LT),bu ag n c->iX ag n c<=n
 | n,.file id,h=>by
  have hk:aH ag id=1:=by cases n <;> simpa [bu] using h
  have:iX ag n (.file id)=cC ag id:=by cases n <;> rfl
  rw[this,hX.low id hk];omega
 | n,.held f,_=>by
  have:iX ag n (.held f)=0:=by cases n <;> rfl
  rw[this];omega
 | n,.dir id,h=>by
  have hk:cC ag id<=n:=by cases n <;> (rw[bu] at h;exact h.2)
  have:iX ag n (.dir id)=cC ag id:=by cases n <;> rfl
  rw[this];exact hk
 | 0,.own es,_=>by rw[iX];omega
 | n+1,.own es,h=>by
  rw[bu] at h
  rw[iX,eX]
  refine⟨by omega,fun x hx=>?_⟩
  have:=Us hX n x.2 (h.2.2 x hx).2
  omega
def cs (n:Nat)(ks:Kids):Nat:=(ks.map fun x=>ace n x.2).sum

end Go.Proofs.YtlgidcmmgohagaaGreat
