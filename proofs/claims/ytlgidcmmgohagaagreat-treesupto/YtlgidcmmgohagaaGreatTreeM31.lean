/- What is proved here: the law's world between two steps. -/
import Derived.Test.YtlgidcmmgohagaaGreatTreeM29
import Derived.Test.YtlgidcmmgohagaaGreatTreeM30
import Derived.Test.YtlgidcmmgohagaaGreatTreeM16
import Derived.Shelf.SlicesE.Clone
import Derived.Test.YtlgidcmmgohagaaGreatTreeM11
namespace Go.Proofs.YtlgidcmmgohagaaGreat
open Go.RowKit Go.Sort Go.Shelf Go.Proofs.Tryz
set_option linter.unusedVariables false
set_option maxRecDepth 100000
set_option maxHeartbeats 16000000
theorem UX {ag:List Ob}{fl:Nat->Option (Int×ByteArray)}(h:Ga ag fl)(l:List Ob):ko (ag++l) fl=ko ag fl:=by
 funext f
 unfold ko;cases hf:fl f with
 | none=>rfl
 | some x=>
  obtain⟨id,d⟩:=x;simp only;by_cases h0:id≠0
  ·rw[aL h0,aL h0,s6 l (by rw[h f id d hf h0];decide)]
  ·rw[ay h0,ay h0]
theorem Reads.app {ag:List Ob}{fl:Nat->Option (Int×ByteArray)}{t:LT}{nodes:List aK}{data:List ByteArray}(h:Reads ag (ko ag fl) t nodes data)(hS:Sound ag)(cz:bu ag 5 t)(Ds:Ga ag fl)(l:List Ob):Reads (ag++l) (ko (ag++l) fl) t nodes data:=fun q hq=>by
 rw[UX Ds l,N2 hS l _ q 5 t cz]
 exact h q hq
theorem Reads.dir {ag:List Ob}{fc:e7}{t:LT}{nodes:List aK}{data:List ByteArray}(h:Reads ag fc t nodes data):t.kind=2:=by
 have:=h [] (fun x hx=>by cases hx)
 rw[gY] at this;cases t <;> first | rfl | (exfalso;cases this)
theorem qU (nodes:List aK)(l:List ByteArray):eT nodes l=0\/eT nodes l=4\/eT nodes l=5:=by
 unfold eT;cases hf:(List.range l.length).findSome? (iw nodes l) with
 | none=>exact .inl rfl
 | some e=>
  obtain⟨_,j,_,_,hj,_⟩:=List.findSome?_eq_some_iff.1 hf;unfold iw at hj;split at hj
  ·cases hj;exact .inr (.inr rfl)
  ·split at hj
   ·cases hj;exact .inr (.inl rfl)
   ·cases hj
theorem JR (nodes:List aK)(l:List ByteArray):xU nodes l=0\/xU nodes l=4\/xU nodes l=5:=by
 unfold xU;split
 ·exact qU _ _
 ·split
  ·exact .inr (.inr rfl)
  ·exact .inl rfl
theorem ED {e:Int}(h:e=0\/e=4\/e=5):(e == 14)=false:=by
 rcases h with h | h | h <;> (rw[h];rfl)
theorem JS (nodes:List aK)(S:ByteArray):((dw nodes S).2 == 14)=false:=by
 unfold dw
 repeat (first | exact ED (JR _ _) | rfl | split)
theorem Gk (nodes:List aK)(S:ByteArray):((cH nodes S).2 == 14)=false:=by
 unfold cH
 repeat (first | exact ED (qU _ _) | rfl | split)
theorem eG {α:Type}(P:α->Prop){c:Prop}[Decidable c]{a b:α}(ha:P a)(hb:P b):P (if c then a else b):=by
 by_cases h:c
 ·rw[aL h];exact ha
 ·rw[ay h];exact hb
def P9 (x:List aK×Int):Prop:=(x.2 == 14)=false
theorem Gl (nodes:List aK)(S T:ByteArray):((cU nodes S T).2 == 14)=false:=by
 show P9 (cU nodes S T);unfold cU;refine eG P9 (show P9 (nodes,_) from rfl) ?_;refine eG P9 (show P9 (nodes,_) from rfl) ?_;refine eG P9 (show P9 (nodes,eT nodes _) from ED (qU _ _)) ?_;refine eG P9 (show P9 (nodes,_) from rfl) ?_;refine eG P9 (show P9 (nodes,xU nodes _) from ED (JR _ _)) ?_;refine eG P9 (show P9 (nodes,_) from rfl) ?_;refine eG P9 (show P9 (nodes,_) from rfl) ?_;refine eG P9 (show P9 (nodes,_) from rfl) ?_;refine eG P9 (show P9 (nodes,_) from rfl) ?_;refine eG P9 (show P9 (nodes,_) from rfl) ?_;refine eG P9 (show P9 (nodes,_) from rfl) ?_;rfl
theorem MC (nodes:List aK)(data:List ByteArray)(S:ByteArray):((ja nodes data S).2 == 14)=false:=by
 unfold ja
 repeat (first | exact ED (qU _ _) | rfl | split)
theorem ME (nodes:List aK)(S:ByteArray):((fA nodes S).2 == 14)=false:=by
 unfold fA
 repeat (first | exact ED (qU _ _) | rfl | split)
theorem JT (nodes:List aK)(S:ByteArray):(cF nodes S).length<=nodes.length:=List.length_filter_le _ _
theorem QV (nodes:List aK)(S:ByteArray):(dw nodes S).1.length<=nodes.length+1:=by
 unfold dw;split
 ·exact Nat.le_succ _
 ·skip
  split
  ·exact Nat.le_succ _
  ·skip
   split
   ·exact Nat.le_succ _
   ·skip
    split
    ·exact Nat.le_succ _
    ·skip
     split
     ·exact Nat.le_succ _
     ·skip
      exact Nat.le_of_eq (by simp)
theorem MG (nodes:List aK)(S:ByteArray):(cH nodes S).1.length<=nodes.length+1:=by
 unfold cH
 repeat (first | exact Nat.le_succ_of_le (JT _ _) | exact Nat.le_succ _ | split)
def Q9 (n:Nat)(x:List aK×Int):Prop:=x.1.length<=n+1
theorem MH (nodes:List aK)(S T:ByteArray):(cU nodes S T).1.length<=nodes.length+1:=by
 have l:∀e:Int,Q9 nodes.length (nodes,e):=fun e=>Nat.le_succ _;show Q9 nodes.length (cU nodes S T);unfold cU;refine eG (Q9 nodes.length) (l _) ?_;refine eG (Q9 nodes.length) (l _) ?_;refine eG (Q9 nodes.length) (l _) ?_;refine eG (Q9 nodes.length) (l _) ?_;refine eG (Q9 nodes.length) (l _) ?_;refine eG (Q9 nodes.length) (l _) ?_;refine eG (Q9 nodes.length) (l _) ?_;refine eG (Q9 nodes.length) (l _) ?_;refine eG (Q9 nodes.length) (l _) ?_;refine eG (Q9 nodes.length) (l _) ?_;refine eG (Q9 nodes.length) (l _) ?_;show ((cF nodes T).map (aD S T)).length<=_;rw[List.length_map];exact Nat.le_succ_of_le (JT _ _)
structure L4 (ag:List Ob)(ws:List Slot)(ds:List Doc)(k:Nat):Prop where
 len:ds.length=ws.length
 same:∀j (h:j<ws.length) (h':j<ds.length),Reads ag (ko ag ws[j].2.2.1.fl) ws[j].2.2.2 ds[j].2.1 ds[j].2.2.1/\bG ds[j].2.1 ds[j].2.2.1/\ds[j].2.1.length<=k/\ds[j].2.2.1.length<=1200000
def dP (B0:Nat)(w:World)(W s r n:Nat):Prop:=∃R tg p lim ag au got ws ds q8 q9 fP,cW R tg w B0 W s r p lim ag au got ws ds q8 q9 fP/\L4 ag ws ds (1200000+n)/\lim<=900*n/\q8<=n/\q9<=n/\fP<=n/\1<=ws.length/\ws.length<=n
theorem L4.mono {ag:List Ob}{ws:List Slot}{ds:List Doc}{k k':Nat}(h:L4 ag ws ds k)(hk:k<=k'):L4 ag ws ds k':=⟨h.len,fun j h1 h2=>⟨(h.same j h1 h2).1,(h.same j h1 h2).2.1,eU (h.same j h1 h2).2.2.1 hk,(h.same j h1 h2).2.2.2⟩⟩
theorem L4.set {ag:List Ob}{ws:List Slot}{ds:List Doc}{k j:Nat}{x:Slot}{d:Doc}(h:L4 ag ws ds k)(hj:j<ws.length)(hR:Reads ag (ko ag x.2.2.1.fl) x.2.2.2 d.2.1 d.2.2.1)(hs:bG d.2.1 d.2.2.1)(h1:d.2.1.length<=k+1)(h2:d.2.2.1.length<=1200000):L4 ag (ws.set j x) (ds.set j d) (k+1):=by
 refine⟨by simp[h.len],fun i hi vn=>?_⟩;have VH:i<ws.length:=by simpa using hi
 have Q2:i<ds.length:=by simpa using vn
 simp only[List.getElem_set];by_cases e:j=i
 ·subst e
  simp only;exact⟨hR,hs,h1,h2⟩
 ·simp only[ay e]
  obtain⟨a,b,c,d⟩:=h.same i VH Q2;exact⟨a,b,by omega,d⟩
theorem L4.aew {ag:List Ob}{ws:List Slot}{ds:List Doc}{k j:Nat}{x:Slot}(h:L4 ag ws ds k)(hj:j<ws.length)(Vd:j<ds.length)(hR:Reads ag (ko ag x.2.2.1.fl) x.2.2.2 ds[j].2.1 ds[j].2.2.1):L4 ag (ws.set j x) ds k:=by
 refine⟨by simp[h.len],fun i hi vn=>?_⟩;have VH:i<ws.length:=by simpa using hi
 simp only[List.getElem_set];by_cases e:j=i
 ·subst e
  simp only;exact⟨hR,(h.same j VH vn).2⟩
 ·simp only[ay e]
  exact h.same i VH vn
section
variable {R:u9}{tg:aP}{w:World}{B0 W s r p lim:Nat}{ag au:List Ob}{got:List Int}{ws:List Slot}{ds:List Doc}{q8 q9 fP j:Nat}{B:WB}{g:WG}{t:LT}{Sb:Nat}{nodes:List aK}{data:List ByteArray}{rest:List Value}
def YJ (g:WG)(got:List Int):WG:={ g with fs:={ g.fs with got:=got,brk:=false } }
def Half (B0:Nat)(w w':World)(W s r p lim:Nat)(ag au:List Ob)(ws:List Slot)(ds:List Doc)(q8 q9 fP j:Nat)(B:WB)(kr:List aK)(data:List ByteArray):Prop:=
 ∃R' aC g' t' nU,cW R' aC w' B0 W s r p (lim+400) ag au nU (ws.set j (j+2,B,g',t')) ds q8 q9 fP/\Reads ag (ko ag g'.fl) t' kr data/\bG kr data/\Below B0 w w'
theorem EE {aC:aP}{W1 w':World}(M:cW R tg w B0 W s r p lim ag au got ws ds q8 q9 fP)(hb:Below w.heap.size w W1)(m:az (Mine (j+2)) tg aC W1 w'):Below B0 w w':=
 ⟨m.os.trans hb.os,m.tape.trans hb.tape,m.output.trans hb.output,eU (eU M.size hb.size) m.size |> fun h=>eU hb.size m.size,fun k hk=>(m.block k (cv hk (eU M.size hb.size)) (by rw[M.old k hk];exact YF (by omega))).trans (hb.block k (cv hk M.size))⟩
theorem EF {aC:aP}{W1 w':World}(M:cW R tg w B0 W s r p lim ag au got ws ds q8 q9 fP)(hz:w.heap.size<W1.heap.size)(m:az (Mine (j+2)) tg aC W1 w'):Lj w.heap.size W1 w':=
 ⟨cv hz m.size,fun o=>World.cell?_of_block (a:=⟨w.heap.size,o,none⟩) (m.block w.heap.size hz (by rw[M.fresh w.heap.size (bA _)];exact YF (by omega)))⟩
theorem AJ {f:Nat}{args:Array Value}{v:Value}{kr:List aK}(M:cW R tg w B0 W s r p lim ag au got ws ds q8 q9 fP)(hj:j<ws.length)(hx:ws[j]=(j+2,B,g,t))
  (hp:∀{W1:World},kj tg W1 s (j+2) p B ag (YJ g got) lim t->dI ag t->Calls prog f args W1 fun e w'=>e=.returned v/\MA s (j+2) p B ag tg W1 w' (YJ g got) (lim+400) kr data):
  ∀W1,Below w.heap.size w W1->w.heap.size<W1.heap.size->Calls prog f args W1 fun e w'=>e=.returned v/\Lj w.heap.size W1 w'/\Half B0 w w' W s r p lim ag au ws ds q8 q9 fP j B kr data:=by
 intro W1 hb hz;obtain⟨hQ,hi,JU⟩:=(M.below hb).work hj hx;refine (hp hQ hi).mono ?_;rintro e w' ⟨he,aC,g',t',m,hQ',S3,hg,vn,hR,hs⟩;obtain⟨pt,M'⟩:=JU (by omega) m hQ' S3 hg vn;exact⟨he,EF M hz m,_,aC,g',t',_,M',hR,hs,EE M hb m⟩
theorem MI {f:Nat}{args:Array Value}{v:Value}{kr:List aK}(GF:j<ds.length)(hd:ds[j]=(Sb,nodes,data,rest))
  (hc:∀{F:Nat->Prop} {w1:World},b9 F w1 Sb nodes data rest->Calls prog f args w1 fun e w'=>e=.returned v/\b9 (bq F w1 w') w' Sb kr data rest/\ax F w1 w'):
  ∀w1,Half B0 w w1 W s r p lim ag au ws ds q8 q9 fP j B kr data->Calls prog f args w1 fun e w'=>e=.returned v/\
   ∃R' aC g' t' nU,cW R' aC w' B0 W s r p (lim+400) ag au nU (ws.set j (j+2,B,g',t')) (ds.set j (Sb,kr,data,rest)) q8 q9 fP/\Reads ag (ko ag g'.fl) t' kr data/\bG kr data/\Below B0 w w':=by
 rintro w1 ⟨R',aC,g',t',nU,M',hR,hs,hB⟩;obtain⟨hst,JU⟩:=M'.aeh GF hd;refine (hc hst).mono ?_;rintro e w' ⟨he,ai2,hk⟩;obtain⟨WN,M2⟩:=JU ai2 hk;exact⟨he,R',WN,g',t',nU,M2,hR,hs,hB.trans (M'.low hk (fun k hk=>.inl (by rw[hk];intro e;have:=congrArg Prod.snd e;simp only at this;omega)))⟩
end
theorem MJ {w:World}{b:Nat}{t:TypeId}{z n:Nat}{v:Value}{xs:List Value}(h:w.ownsRow b t z v n xs):∃a c,v=.slice a n c:=by
 rcases h.2 with ⟨rfl,rfl⟩ | ⟨g,cap,_,rfl,_⟩
 ·exact⟨none,0,rfl⟩
 ·exact⟨_,_,rfl⟩
section
variable {R:u9}{tg:aP}{w:World}{B0 W s r p lim:Nat}{ag au:List Ob}{got:List Int}{ws:List Slot}{ds:List Doc}{q8 q9 fP j n:Nat}
theorem CA {w':World}{R':u9}{aC:aP}{nU:List Int}{B:WB}{g':WG}{t':LT}{d:Doc}{q8':Nat}(L:L4 ag ws ds (1200000+n))(vk:lim<=900*n)(h8:q8'<=n+1)(h9:q9<=n)(h11:fP<=n)(jb:1<=ws.length)(hw2:ws.length<=n)(hj:j<ws.length)
  (M:cW R' aC w' B0 W s r p (lim+400) ag au nU (ws.set j (j+2,B,g',t')) (ds.set j d) q8' q9 fP)(hR:Reads ag (ko ag g'.fl) t' d.2.1 d.2.2.1)(hs:bG d.2.1 d.2.2.1)(h1:d.2.1.length<=1200000+n+1)(h2:d.2.2.1.length<=1200000):dP B0 w' W s r (n+1):=
 ⟨R',aC,p,lim+400,ag,au,nU,_,_,q8',q9,fP,M,L.set hj hR hs h1 h2,by omega,h8,by omega,by omega,by simpa using jb,by simp;omega⟩
theorem XJ (hn:n<=1048600)(M:cW R tg w B0 W s r p lim ag au got ws ds q8 q9 fP)(L:L4 ag ws ds (1200000+n))(vk:lim<=900*n)(h8:q8<=n)(h9:q9<=n)(h11:fP<=n)(jb:1<=ws.length)(hw2:ws.length<=n)(hj:j<ws.length)(GF:j<ds.length)(kd a1 a2 a3:Int)(S T:ByteArray)(la:Option Addr)(lm lc:Nat)(hS:S.size<=1048576)(hT:T.size<=1048576)(hk:8<=kd/\kd<=12):
  Calls prog 50 #[.pointer (some ⟨W,0,none⟩),.pointer (some ⟨ws[j].2.1.wb,0,none⟩),.pointer (some ⟨ds[j].1,0,none⟩),.agg (l5 kd a1 a2 a3 S T la lm lc)] w fun e w'=>e=.returned (.bool true)/\dP B0 w' W s r (n+1)/\Below B0 w w':=by
 obtain⟨B,g,t,hx⟩:∃B g t,ws[j]=(j+2,B,g,t):=⟨_,_,_,by rw[<-M.slot j hj]⟩;obtain⟨Sb,nodes,data,rest,hd⟩:∃Sb nodes data rest,ds[j]=(Sb,nodes,data,rest):=⟨_,_,_,_,rfl⟩;obtain⟨hR,hs,wm,hl2⟩:=L.same j hj GF;rw[hx,hd] at hR;rw[hd] at hs wm hl2;rw[hx,hd];simp only at hR hs wm hl2 ⊢;have hX:Exact ag:=M.w3.uQ.2.2.1;have EG:=hs.fine (by omega);have hSm:S.size<=maxLen:=eU hS (by decide);have hTm:T.size<=maxLen:=eU hT (by decide);have hll:lim+1000<1099511627776:=by omega
 have mV:kd=8\/kd=9\/kd=10\/kd=11\/kd=12:=by omega
 rcases mV with rfl | rfl | rfl | rfl | rfl
 ·refine (Pp W B.wb Sb a1 a2 a3 S T la lm lc (ja nodes data S).1.1 (ja nodes data S).1.2 (ja nodes data S).2 (MC _ _ _) _ w
   (AJ M hj hx (fun hQ hi=>aaR hQ hll rfl hi hX hR.dir hR hs S hSm)) ?_).mono ?_
  ·rintro w1 ⟨R',aC,g',t',nU,M',_,_,_⟩ W2 hb2
   obtain⟨na,nc,da,dc,hst⟩:=(M'.below hb2).Mo j GF;rw[hd] at hst;exact Pm hst EG S (by omega) (show data.length<=1000000000 by omega)
  ·rintro e w' ⟨he,w1,⟨R',aC,g',t',nU,M',UY,sw,hB⟩,hb⟩
   refine⟨he,⟨R',aC,p,lim+400,ag,au,nU,_,_,q8,q9,fP,M'.below hb,(L.aew hj GF (by rw[hd];exact UY)).mono (by omega),by omega,by omega,by omega,by omega,by simpa using jb,by simp;omega⟩,hB.trans (hb.mono M'.size)⟩
 ·obtain⟨xs,rM⟩:∃xs,xs=(fA nodes S).1:=⟨_,rfl⟩
  have ao2:xs.length<=16:=by
   rw[rM];unfold fA;split
   ·exact dG _
   ·split
    ·exact dG _
    ·split
     ·exact dG _
     ·show (eB nodes S).length<=16
      rw[ot];exact EG.few S
  refine (Pq W B.wb Sb a1 a2 a3 S T la lm lc (fA nodes S).2 (ME _ _) xs (by omega)
   (fun a c w'=>∃R' aC g' t' nU,cW R' aC w' B0 W s r p (lim+400) ag au nU (ws.set j (j+2,B,g',t')) ds q8 q9 fP/\Reads ag (ko ag g'.fl) t' nodes data/\Below B0 w w'/\w'.ownsRow 0 9 1 (.slice a xs.length c) xs.length (gM xs)/\∀b,(Value.slice a xs.length c).ownBlock=some b->aC b=(0,0)/\B0<=b/\¬R'.FN b/\¬R'.FE b/\¬R'.FI b)
   (fun w'=>dP B0 w' W s r (n+1)/\Below B0 w w') w ?_ ?_ ?_)
  ·intro W1 hb hz
   obtain⟨hQ,hi,JU⟩:=(M.below hb).work hj hx;refine (aaS hQ hll rfl hi hX hR hs S hSm).mono ?_;rintro e w' ⟨a,c,he,hrow,aC,g',t',m,hQ',S3,hg,vn,UY,_,Vk⟩;rw[<-rM] at he hrow Vk;obtain⟨pt,M'⟩:=JU (by omega) m hQ' S3 hg vn;have M1:=M.below hb;refine⟨a,c,he,EF M hz m,hrow,_,aC,g',t',_,M',UY,EE M hb m,hrow,fun b hb'=>?_⟩;obtain⟨b1,b2⟩:=Vk b hb';exact⟨b2,eU M1.size b1,fun hf=>by have:=M1.names.lt b hf;omega,fun hf=>by have:=M1.aV.lt b hf;omega,fun hf=>by have:=M1.ids.lt b hf;omega⟩
  ·rintro a c w1 ⟨R',aC,g',t',nU,M',_,_,_,_⟩ W2 hb2
   obtain⟨na,nc,da,dc,hst⟩:=(M'.below hb2).Mo j GF;rw[hd] at hst;refine (Pd hst EG S (by omega)).mono ?_;rintro e w' ⟨v,he,hrow,hb⟩;rw[<-rM] at hrow;have Nb:=cL hrow (dG _);obtain⟨xa,xc,rfl⟩:=MJ Nb;exact⟨xa,xc,he,Nb,hb⟩
  ·rintro a c w1 ⟨R',aC,g',t',nU,M',UY,hB,hrow,Vk⟩ W2 hb2
   have M2:=M'.below hb2;refine (M2.aei (by omega) (by omega) (ai hrow (fun g hg=>hb2.block g (ah hrow hg))) Vk).mono ?_;rintro e w' ⟨he,R2,M3,hB3⟩;refine⟨he,⟨R2,aC,p,lim+400,ag,au,nU,_,_,q8+1,q9,fP,M3,(L.aew hj GF (by rw[hd];exact UY)).mono (by omega),by omega,by omega,by omega,by omega,by simpa using jb,by simp;omega⟩,(hB.trans (hb2.mono M'.size)).trans hB3⟩
 ·refine (Lk W B.wb Sb a1 a2 a3 S T la lm lc (dw nodes S).2 (JS _ _) _ _ w
   (AJ M hj hx (fun hQ hi=>XF hQ hll rfl hi hX hR hs S hSm))
   (MI GF hd (fun hst=>by obtain⟨na,nc,da,dc,h⟩:=hst;exact Le h EG S (by omega)))).mono ?_
  rintro e w' ⟨he,R',aC,g',t',nU,M',UY,sw,hB⟩;exact⟨he,CA L vk (by omega) h9 h11 jb hw2 hj M' UY sw (by have:=QV nodes S;show (dw nodes S).1.length<=_;omega) hl2,hB⟩
 ·refine (IP W B.wb Sb a1 a2 a3 S T la lm lc (cH nodes S).2 (Gk _ _) _ _ w
   (AJ M hj hx (fun hQ hi=>UQ hQ hll rfl hi hX hR hs S hSm))
   (MI GF hd (fun hst=>by obtain⟨na,nc,da,dc,h⟩:=hst;exact II h EG S (by omega)))).mono ?_
  rintro e w' ⟨he,R',aC,g',t',nU,M',UY,sw,hB⟩;exact⟨he,CA L vk (by omega) h9 h11 jb hw2 hj M' UY sw (by have:=MG nodes S;show (cH nodes S).1.length<=_;omega) hl2,hB⟩
 ·refine (IQ W B.wb Sb a1 a2 a3 S T la lm lc (cU nodes S T).2 (Gl _ _ _) _ _ w
   (AJ M hj hx (fun hQ hi=>UR hQ hll rfl hi hX hR hs S T hSm hTm))
   (MI GF hd (fun hst=>by obtain⟨na,nc,da,dc,h⟩:=hst;exact IL h EG S T hS hT))).mono ?_
  rintro e w' ⟨he,R',aC,g',t',nU,M',UY,sw,hB⟩;exact⟨he,CA L vk (by omega) h9 h11 jb hw2 hj M' UY sw (by have:=MH nodes S T;show (cU nodes S T).1.length<=_;omega) hl2,hB⟩
end
def Ak (xs:List Int):List Value:=xs.map (Value.int .i64)
theorem XK {xs:List Int}{k:Nat}(h:k<xs.length):(Ak xs)[k]? = some (.int .i64 xs[k]):=by simp[Ak,kO h]
theorem XL (w:World):(Go.sizeOf 29).run prog w=.ok 1 w:=by kernel_rfl
def CB (w:World)(v:Value)(L:List Int):Prop:=w.ownsRow 0 29 1 v L.length (Ak L)
theorem CB.shape {w:World}{v:Value}{L:List Int}(h:CB w v L):∃a c,v=.slice a L.length c:=by
 rcases h.2 with ⟨rfl,h0⟩ | ⟨g,c,cur,rfl,_⟩
 ·exact⟨none,0,by rw[h0]⟩
 ·exact⟨_,c,rfl⟩
theorem CB.at_ {w:World}{a:Option Addr}{n c:Nat}{L:List Int}(h:CB w (.slice a n c) L){k:Nat}(hk:k<L.length):∃g,a=some ⟨g,0,none⟩/\g<w.heap.size/\w.cell? ⟨g,k,none⟩=some (.int .i64 L[k]):=by
 obtain⟨g,cap,hv⟩:=ak h (by omega);have ha:=(Value.slice.inj hv).1;subst ha;refine⟨g,rfl,ah h rfl,?_⟩
 have:=World.ownsRow.cells h (g:=g) rfl k _ (XK hk)
 have e:(⟨g,0,none⟩:Addr).add k=⟨g,k,none⟩:=by
  cases k with
  | zero=>rfl
  | succ k=>simp[Addr.add]
 rw[e] at this;exact this
theorem MK {w:World}{v:Value}{got:List Int}(hrow:CB w v got)(hl:got.length<=1099511627776):
  Calls prog 201 #[v] w fun e w'=>∃v',e=.returned v'/\w'.ownsRow w.heap.size 29 1 v' got.length (Ak got)/\Below w.heap.size w w':=by
 rcases hrow.2 with ⟨rfl,h0⟩ | ⟨g,c,cur,rfl,_⟩
 ·refine (AnyE.slices_Clone_nil Rj 0 0 w).mono ?_
  rintro e w' ⟨rfl,rfl⟩;obtain rfl:got = []:=List.length_eq_zero_iff.1 h0;exact⟨_,rfl,World.ownsRow_nil _ _ _ _,Below.refl _ _⟩
 ·obtain⟨i0,hi,hz0,hz1,hz2⟩:=info_parts Tn
  refine (AnyE.slices_Clone Rj i0 _ 1 8 hi hz0 hz1 hz2 rfl (by decide) XL g 0 got.length c (Ak got) w (by simp[Ak]) (by unfold maxLen;omega) (by omega) (fun j u hu=>by rw[Nat.zero_add];exact (World.ownsRow.cellAt hrow j (by have:=(List.getElem?_eq_some_iff.1 hu).1;simpa [Ak] using this)).trans hu) ?_).mono ?_
  ·intro u hu
   obtain⟨x,_,rfl⟩:=List.mem_map.1 hu;rfl
  ·rintro e w' ⟨v',rfl,hr,hne,hb⟩
   exact⟨_,rfl,hr,hb⟩
theorem Gm (p:Nat)(v:Value)(R:Value->World->Prop)(w:World)(c3:w.cell? ⟨p,3,none⟩=some v)
  (hc:Calls prog 201 #[v] w fun e w'=>∃v',e=.returned v'/\R v' w'):
  Calls prog 151 #[.pointer (some ⟨p,0,none⟩)] w fun e w'=>∃v',e=.returned v'/\R v' w':=by
 have HC:Hid _:=hc;clear hc;go_enter func151,ntmps151;go_wp2_with fail;refine Calls.mono HC.out ?_;rintro e w' ⟨v',rfl,hR⟩;go_wp2;go_ret;exact⟨v',rfl,hR⟩
theorem Gn (s p:Nat)(R:Value->World->Prop)(w:World)(c0:w.cell? ⟨s,0,none⟩=some (.pointer (some ⟨p,0,none⟩)))
  (hc:Calls prog 151 #[.pointer (some ⟨p,0,none⟩)] w fun e w'=>∃v',e=.returned v'/\R v' w'):
  Calls prog 87 #[.pointer (some ⟨s,0,none⟩)] w fun e w'=>∃v',e=.returned v'/\R v' w':=by
 have HC:Hid _:=hc;clear hc;go_enter func87,ntmps87;go_wp2_with fail;refine Calls.mono HC.out ?_;rintro e w' ⟨v',rfl,hR⟩;go_wp2;go_ret;exact⟨v',rfl,hR⟩
theorem JV {tg:aP}{w:World}{s p:Nat}{ag:List Ob}{got:List Int}{brk:Bool}{lim:Nat}(h:gj tg w s p ag got brk lim)(hl:lim<=1099511627776):
  Calls prog 87 #[.pointer (some ⟨s,0,none⟩)] w fun e w'=>∃v',e=.returned v'/\w'.ownsRow w.heap.size 29 1 v' got.length (Ak got)/\Below w.heap.size w w':=by
 obtain⟨xS,ft,hb,⟨a,cap,bf,bd,Df,Dd,hI⟩,hg,hs,fo⟩:=h;have hat:=hI.iH.at_;have c3:w.cell? ⟨p,3,none⟩=some (.slice ft.a ft.n ft.c):=by unfold b8 at hat;simp[World.cell?,hat]
 have hrow:=hg.1;rw[hg.2.1] at hrow c3;exact Gn s p _ w hI.c0 (Gm p _ _ w c3 (MK hrow (by omega)))
theorem ML {got:List Int}{x:Int}{m:Nat}(h:m<got.length):(got.take (m+1)).count x=(got.take m).count x+if got[m]=x then 1 else 0:=by
 rw[qX h,List.count_append,List.count_singleton];by_cases e:got[m]=x <;> simp[e]
theorem Gp (W s k wc:Nat)(wa:Option Addr)(got:List Int)(R:World->Prop)(w:World)(hW:W<w.heap.size)(c0:w.cell? ⟨W,0,none⟩=some (.pointer (some ⟨s,0,none⟩)))(c5:w.cell? ⟨W,5,none⟩=some (.slice wa k wc))
  (hlen:got.length<=1000000000)(hk:k<=1000000000)(JA:∀x,got.count x<=k)
  (hf:Calls prog 87 #[.pointer (some ⟨s,0,none⟩)] w fun e w'=>∃v',e=.returned v'/\w'.ownsRow w.heap.size 29 1 v' got.length (Ak got)/\Below w.heap.size w w')
  (hpl:∀j (hj:j<got.length),∃pz:Int,0<=pz/\∀w',Below w.heap.size w w'->Calls prog 41 #[.pointer (some ⟨W,0,none⟩),.int .i64 got[j]] w' fun e w''=>e=.returned (.int .i64 pz)/\w''=w')
  (jo:∀w1 la c,Below w.heap.size w w1->w1.ownsRow w.heap.size 29 1 (.slice la got.length c) got.length (Ak got)->Calls prog 88 #[.pointer (some ⟨W,8,none⟩),.slice la got.length c] w1 fun e w'=>e=.returned (.tuple #[])/\R w'):
  Calls prog 46 #[.pointer (some ⟨W,0,none⟩)] w fun e w'=>e=.returned (.bool true)/\R w':=by
 have HF:Hid _:=hf;have J7:Hid _:=hpl;have aez:Hid _:=jo;have ai4:Hid _:=JA;obtain⟨n,hn⟩:∃n,n=got.length:=⟨_,rfl⟩;have HN:Hid (n=got.length):=hn;rw[<-hn] at hlen;clear hf hpl jo JA hn;go_enter func46,ntmps46;go_wp2_with fail;refine Calls.mono HF.out ?_;rintro _ w1 ⟨v,rfl,hrow,hb⟩;obtain⟨a,c,rfl⟩:=CB.shape (uy hrow);have l6:Hid (w1.ownsRow w.heap.size 29 1 (.slice a got.length c) got.length (Ak got)):=hrow;have HB:Hid (Below w.heap.size w w1):=hb;have hW1:W<w1.heap.size:=cv hW hb.size;have d5:=(hb.cell (p:=⟨W,5,none⟩) hW).trans c5;rw[<-HN.out];have hcell:∀j (hj:j<got.length),∃g,a=some ⟨g,0,none⟩/\g<w1.heap.size/\w1.cell? ⟨g,j,none⟩=some (.int .i64 got[j]):=fun j hj=>CB.at_ (uy hrow) hj;have UZ:Hid _:=hcell;clear hrow hb hcell c0 c5;go_wp2
 go_loopw [4] (fun i wr=>∃j:Nat,j<=n/\i=.int .i64 (j:Int)/\Hid (Below w1.heap.size w1 wr)) (fun i _=>n-(intOf i).toNat)
 case atStart=>exact⟨0,dG _,rfl,Below.refl _ _⟩
 case round=>
  obtain⟨j,hj,rfl,HBR⟩:=hrel;by_cases hlt:j<n
  ·have hij:(j:Int)<(n:Int):=by omega
   have hjg:j<got.length:=by rw[<-HN.out];exact hlt
   obtain⟨g,xR,fo,hgc⟩:=UZ.out j hjg;obtain⟨pz,hpz,U0⟩:=J7.out j hjg;have HPC:Hid _:=U0;obtain⟨x,hx⟩:∃x,x=got[j]:=⟨_,rfl⟩;rw[<-hx] at hgc;have HX:Hid (x=got[j]):=hx;subst xR;clear hx U0;go_wp2
   go_loopw [5,6] (fun cn ki wr2=>∃m:Nat,m<=n/\ki=.int .i64 (m:Int)/\cn=.int .i64 (((got.take m).count x:Nat):Int)/\Hid (Below w1.heap.size w1 wr2)) (fun _ ki _=>n-(intOf ki).toNat)
   case atStart=>exact⟨0,dG _,rfl,rfl,HBR⟩
   case round=>
    obtain⟨m,hm,rfl,rfl,zg⟩:=hrel;have aeg:g<wr.heap.size:=cv fo zg.out.size;have ao5:wr.cell? ⟨g,j,none⟩=some (.int .i64 x):=(zg.out.cell (p:=⟨g,j,none⟩) fo).trans hgc;by_cases hml:m<n
    ·have hmi:(m:Int)<(n:Int):=by omega
     have hmg:m<got.length:=by rw[<-HN.out];exact hml
     obtain⟨g',kT,afX,hgm⟩:=UZ.out m hmg;cases kT;have ai5:wr.cell? ⟨g,m,none⟩=some (.int .i64 got[m]):=(zg.out.cell (p:=⟨g,m,none⟩) fo).trans hgm;obtain⟨y,hy⟩:∃y,y=got[m]:=⟨_,rfl⟩;rw[<-hy] at ai5;have HY:Hid (y=got[m]):=hy;have HCT:Hid _:=ML (x:=x) hmg;have hcb:(got.take m).count x<=n:=by have:=List.count_le_length (a:=x) (l:=got.take m);rw[List.length_take] at this;omega
     obtain⟨cn,WO⟩:∃cn,cn=(got.take m).count x:=⟨_,rfl⟩;rw[<-WO] at hcb;rw[<-WO];have HCN:Hid (cn=(got.take m).count x):=WO;clear hy WO hgm;cases Yn:(y == x) with
     | true=>
      have aaU:=eq_of_beq Yn;go_wp2
      go_region
      all_goals
       go_wp2;go_roundw
       case rel=>exact⟨m+1,by omega,by go_num,by rw[HCT.out,aL (by rw[<-HY.out];exact aaU),<-HCN.out];go_num,below_drewN zg.out _⟩
       case measure=>simp[intOf];omega
     | false=>
      have aaU:=ne_of_beq_false Yn;go_wp2
      go_region
      all_goals
       go_wp2;go_roundw
       case rel=>exact⟨m+1,by omega,by go_num,by rw[HCT.out,ay (by rw[<-HY.out];exact aaU),<-HCN.out];rfl,below_drewN zg.out _⟩
       case measure=>simp[intOf];omega
    ·have hme:m=n:=by omega
     have DR:decide ((m:Int)<(n:Int))=false:=dY (by omega);have YK:(got.take m).count x=got.count x:=by rw[List.take_of_length_le (by rw[<-HN.out];omega)]
     have hck:=ai4.out x;rw[YK];obtain⟨cn,WO⟩:∃cn,cn=got.count x:=⟨_,rfl⟩;rw[<-WO] at hck ⊢;have hW2:W<wr.heap.size:=cv hW1 zg.out.size;have e5:=(zg.out.cell (p:=⟨W,5,none⟩) hW1).trans d5;have ao6:decide (pz<0)=false:=dY (by omega);have ao7:decide ((k:Int)<(cn:Int))=false:=dY (by omega);have U0:=HPC.out wr (HB.out.trans (zg.out.mono HB.out.size));rw[<-HX.out] at U0;clear YK WO UZ;go_wp2_with (go_at_call 41;refine Calls.mono U0 ?_;rintro _ _ ⟨rfl,rfl⟩);go_roundw
     case rel=>exact⟨j+1,by omega,by go_num,zg⟩
     case measure=>simp[intOf];omega
  ·have KB:j=n:=by omega
   have DR:decide ((j:Int)<(n:Int))=false:=dY (by omega);have hW2:W<wr.heap.size:=cv hW1 HBR.out.size;have hrow2:wr.ownsRow w.heap.size 29 1 (.slice a got.length c) got.length (Ak got):=ai l6.out (fun g hg=>HBR.out.block g (ah l6.out hg));have gU:=aez.out wr a c (HB.out.trans (HBR.out.mono HB.out.size)) hrow2;rw[<-HN.out] at gU;have Bv:Hid _:=gU;clear hrow2 gU;go_wp2_with (go_at_call 88;refine Calls.mono Bv.out ?_;rintro _ w5 ⟨rfl,hR⟩);go_ret;exact⟨rfl,hR⟩
theorem Al {P:Program}(w:World)(t ty e:TypeId)(i:TypeInfo)(ht:P.underlying t=some (.slice e))(hi:P.info? e=some i):(Builtin.append_ #[t,t] ty #[.slice none 0 0,.slice none 0 0]).run P w=.ok (.slice none 0 0) w:=by
 simp[Builtin.append_,run_underlying ht,sizeOf,typeInfo,hi,Builtin.lenOf,Builtin.firstCells]
theorem qV {P:Program}{ops:Array Oper}{o:Oper}{a:Act}{w:World}{K:Act->World->Prop}{Q:Exit->Act->World->Prop}{E:Prop}
  (hg:o.guard=none)(s x:Operand)(t:TypeId)(hop:o.op=Op.call { callee:=Callee.builtin Builtin.append,args:=#[s,x],argTypes:=#[t,t] })
  (e:TypeId)(i:TypeInfo)(z:Value)(size bytes:Nat)(h1:P.underlying t=some (.slice e))(h2:P.info? e=some i)(h3:i.zero=some z)(h4:i.size=size)(h5:i.bytes=bytes)(h6:z.cells.size=size)(h7:0<size)
  (hs:a.eval s=.slice none 0 0)(xa:Option Addr)(n c:Nat)(xs:List Value)(hx:a.eval x=.slice xa n c)(hrow:w.ownsRow 0 e size (.slice xa n c) n xs)(h1c:∀u ∈ xs,u.oneCell'=true)
  (b1:n<=maxLen)(b2:n*bytes<=140737488355328)
  (hK:∀v' w',w'.ownsRow 0 e size v' n xs->w.grownBy w' none->(v'.ownBlock=none\/v'.ownBlock=some w.heap.size)->K (a.put o.dst v') w'):
  if Region.wanted o (yielded ops a.tmps)=true then Oper.wp P o a w K Q else E:=by
 have hw:Region.wanted o (yielded ops a.tmps)=true:=by simp[Region.wanted,hg]
 rw[aL hw];rcases hrow.2 with ⟨hv,hn⟩ | ⟨g,cap,cur,hv,_⟩
 ·cases hv
  have hrun:=Al (P:=P) w t o.type e i h1 h2;unfold Oper.wp;simp[execOp,hop,resolve,invoke,builtin,hs,hx,hrun,Result.andThen];exact hK _ _ hrow ⟨rfl,rfl,rfl,bA _,fun _ _ _=>rfl⟩ (.inl rfl)
 ·cases hv
  obtain⟨v',w',hrun,r1,r2,_,r3⟩:=run_append_own_at (P:=P) w 0 t o.type e i z size bytes h1 h2 h3 h4 h5 h6 h7 (.slice none 0 0) 0 [] (World.ownsRow_nil w _ e size) ⟨g,0,none⟩ n c xs hrow.1 (hrow.cells (g:=g) rfl) h1c (by omega) (by rw[Nat.zero_add];exact b2) (dG _);rw[Nat.zero_add,List.nil_append] at r1;unfold Oper.wp;simp[execOp,hop,resolve,invoke,builtin,hs,hx,hrun,Result.andThen];exact hK _ _ r1 r2 r3
theorem dF.XM {F:Nat->Prop}{w:World}{S:Nat}{na da:Option Addr}{nc dc:Nat}{nodes:List aK}{data:List ByteArray}{rest:List Value}(h:dF F w S na da nc dc nodes data rest)(j:Nat)(v:Value):
  dF F (w.setCell ⟨S,2+j,none⟩ v) S na da nc dc nodes data (rest.set j v)/\ax F w (w.setCell ⟨S,2+j,none⟩ v):=by
 have hne:∀g,g≠S->(w.setCell ⟨S,2+j,none⟩ v).heap[g]? = w.heap[g]?:=fun g hg=>Below.heap_setCell _ _ _ _ hg;refine⟨⟨h.fS,?_,ai h.jW (fun g hg=>hne g (fun e=>?_)),ai h.ny (fun g hg=>hne g (fun e=>?_)),h.fn,h.fd⟩,⟨rfl,rfl,rfl,by simp,fun k hk hn=>hne k (fun e=>hn (by rw[e];exact h.fS))⟩⟩
 ·have e2:(2+j)=j+1+1:=by omega
  simp[World.setCell,Array.getElem?_modify,h.hS,e2]
 ·subst e;exact aA h.jW h.hS (by decide) hg.symm
 ·subst e;exact aA h.ny h.hS (by decide) hg.symm
end Go.Proofs.YtlgidcmmgohagaaGreat
