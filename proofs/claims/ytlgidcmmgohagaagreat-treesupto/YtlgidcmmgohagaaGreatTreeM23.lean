/- What is proved here: Stat of a file that the uv holds. -/
import Derived.Test.YtlgidcmmgohagaaGreatTreeM22
import Derived.Test.YtlgidcmmgohagaaGreatTreeM02
import Derived.Test.YtlgidcmmgohagaaGreatTreeM05
namespace Go.Proofs.YtlgidcmmgohagaaGreat
open Go.RowKit Go.Sort Go.Shelf Go.Proofs.Tryz
set_option linter.unusedVariables false
set_option maxRecDepth 100000
set_option maxHeartbeats 16000000
section
variable {s i p:Nat}{B:WB}{ag:List Ob}
theorem FP.ad9 {tg:aP}{w:World}{of:List ByteArray->Option Nat}{lim:Nat}(h:FP tg w i B of lim){q:List ByteArray}(hq:Good q){W:World}(hb:Below w.heap.size w W):
  (Instr.lookup 161 (.map (some B.oF)) (.agg (av q)) false).run prog W=.ok (((of q).map ptr).getD (.pointer none)) W:=by
 obtain⟨_,⟨n,_,M,hV,hM,_⟩,_⟩:=h
 have:=(hV.keep (w':=W) (hb.block _ hV.lt)).look vN underlying161 (T9 W) (BZ hq)
 have hMq:M (lp prog q)=(of q).map ptr:=hM q hq;rw[hMq] at this;exact this
theorem pW {P:Nat×Nat->Prop}{tg aC:aP}{W w':World}{b:Nat}{o:Obj}(hP:¬P (0,0))(ht:tg b=(0,0))(m:az P tg aC W w')(hb:W.heap[b]? = some o):w'.heap[b]? = some o/\aC b=(0,0):=by
 have hlt:=(Array.getElem?_eq_some_iff.1 hb).1;exact⟨(m.block b hlt (by rw[ht];exact hP)).trans hb,(m.tags b hlt).trans ht⟩
theorem mj (hi:2<=i):¬dB i (0,0):=by
 rintro (h | h | h)
 ·cases h
 ·injection h with h1 h2;omega
 ·injection h with h1 h2;omega
theorem Jp {w w':World}{b:Nat}{o:Obj}(h:w.grownBy w' (some b)):w.grownBy (w'.alloc o) (some b):=by
 obtain⟨h1,h2,h3,h4,h5⟩:=h;refine⟨h1,h2,h3,by simp;omega,fun k hk hb=>?_⟩;rw[Below.heap_alloc _ _ _ (cv hk h4)];exact h5 k hk hb
def jf (w:World)(b:Nat):Prop:=w.heap[b]? = some (.cells #[.int .i64 0,.int .i64 0] 141 (0,0))
theorem jf.cells {w:World}{b:Nat}(h:jf w b):b<w.heap.size/\w.cell? ⟨b,0,none⟩=some (.int .i64 0)/\w.cell? ⟨b,1,none⟩=some (.int .i64 0)/\∀o,w.frozen? ⟨b,o,none⟩=false:=by
 unfold jf at h;exact⟨(Array.getElem?_eq_some_iff.1 h).1,by simp only[World.cell?,h];rfl,by simp only[World.cell?,h];rfl,fun o=>by simp only[World.frozen?,h];simp⟩
theorem Qq (t:Nat)(s0 s1 s2 s3 s4 a:ByteArray)(k id er:Int)(R:World->Prop)(w:World)(her:(er == 0)=false)
  (cV:Calls prog 136 #[.pointer (some ⟨t,0,none⟩),.agg #[.string s0,.string s1,.string s2,.string s3,.string s4]] ((w.alloc (.cells #[.string s0,.string s1,.string s2,.string s3,.string s4] 147)).alloc (.cells #[.int .i64 0,.int .i64 0] 141)) fun e w'=>e=.returned (.tuple #[.agg #[.string a,.int .i64 k,.int .i64 id],.int .i64 er])/\jf w' (w.heap.size+1)/\R w'):
  Calls prog 126 #[.pointer (some ⟨t,0,none⟩),.agg #[.string s0,.string s1,.string s2,.string s3,.string s4]] w fun e w'=>e=.returned (.tuple #[.agg #[.int .i64 0,.int .i64 0],.int .i64 er])/\∃w3,R w3/\w3.grownBy w' (some (w.heap.size+1)):=by
 have HF:Hid _:=cV;clear cV;go_enter func126,ntmps126;go_wp2_with fail;refine Calls.mono HF.out ?_;rintro e w3 ⟨rfl,hblk,hR⟩;obtain⟨hlt,c0,c1,f0⟩:=hblk.cells;have nA:Hid _:=hR;clear hblk hR HF;go_wp2;refine bodyPost_ret (v:=.tuple #[.agg #[.int .i64 0,.int .i64 0],.int .i64 er]) (by simp[results,results126,go_sem,c0,c1,hlt]) rfl ?_;exact⟨rfl,w3,nA.out,Jp (dD (dD (gm _ _)))⟩
theorem Jq (w:World)(q:List ByteArray):Below w.heap.size w ((w.alloc (.cells (av q) 147)).alloc (.cells #[.int .i64 0,.int .i64 0] 141)):=((Below.refl _ _).alloc (bA _) _).alloc (by simp) _
theorem Me (w:World)(q:List ByteArray):jf ((w.alloc (.cells (av q) 147)).alloc (.cells #[.int .i64 0,.int .i64 0] 141)) (w.heap.size+1):=by
 have:=heap_alloc_new (w.alloc (.cells (av q) 147)) (.cells #[.int .i64 0,.int .i64 0] 141)
 simpa [jf] using this
end
theorem Xj (wb bt:Nat)(l:List ByteArray)(hl:Good l)(k sz er:Int)(R:World->Prop)(w:World)(xV:wb<w.heap.size)(c0:w.cell? ⟨wb,0,none⟩=some (.pointer (some ⟨bt,0,none⟩)))
  (hc:∀W,Below w.heap.size w W->jf W w.heap.size->Calls prog 126 #[.pointer (some ⟨bt,0,none⟩),.agg (av l)] W fun e w'=>e=.returned (.tuple #[.agg #[.int .i64 k,.int .i64 sz],.int .i64 er])/\jf w' w.heap.size/\R w'):
  Calls prog 67 #[.pointer (some ⟨wb,0,none⟩),.string (bV l)] w fun e w'=>e=.returned (.tuple #[.agg #[.int .i64 k,.int .i64 sz],.int .i64 er])/\∃w2,R w2/\w2.grownBy w' (some w.heap.size):=by
 have kP:=fun W=>mb l hl W;obtain⟨s0,s1,s2,s3,s4,hP⟩:∃s0 s1 s2 s3 s4,av l = #[.string s0,.string s1,.string s2,.string s3,.string s4]:=⟨_,_,_,_,_,rfl⟩;unfold bn at kP;simp only[hP] at kP hc;have hb0:Below w.heap.size w (w.alloc (.cells #[.int .i64 0,.int .i64 0] 141)):=(Below.refl _ _).alloc (bA _) _;have Ho:jf (w.alloc (.cells #[.int .i64 0,.int .i64 0] 141)) w.heap.size:=heap_alloc_new _ _;have aea:wb<(w.alloc (.cells #[.int .i64 0,.int .i64 0] 141)).heap.size:=by simp;omega
 have c00:=((aR hb0).1 wb 0 xV).trans c0;have HC:Hid _:=hc;have Lp:Hid _:=hb0;have HI0:Hid _:=Ho;clear hc hP hl hb0 Ho;generalize bV l=tx at kP ⊢;go_enter func67,ntmps67;go_wp2_with (go_at_call 69;refine Calls.mono (kP _) ?_;rintro e w1 ⟨rfl,hb1⟩;have d0:=((aR hb1).1 wb 0 aea).trans c00;have jb:=cv aea hb1.size);have J5:jf (w1.alloc (.cells #[.string s0,.string s1,.string s2,.string s3,.string s4] 147)).drew w.heap.size:=by
  have h1:w1.heap[w.heap.size]? = _:=(hb1.block w.heap.size (by simp)).trans HI0.out;show (w1.alloc _).heap[w.heap.size]? = _;rw[Below.heap_alloc _ _ _ (Array.getElem?_eq_some_iff.1 h1).1];exact h1
 have hcc:=HC.out (w1.alloc (.cells #[.string s0,.string s1,.string s2,.string s3,.string s4] 147)).drew (aq Lp.out (aB (hb1.alloc hb1.size _))) J5;have Q4:Hid _:=hcc;clear hcc HC J5
 go_region_with (go_at_call 126;refine Calls.mono Q4.out ?_;rintro e w2 ⟨rfl,Si,hR⟩;obtain⟨hl2,e0,e1,f2⟩:=Si.cells;clear Si)
 all_goals
  go_wp2;refine bodyPost_ret (v:=.tuple #[.agg #[.int .i64 k,.int .i64 sz],.int .i64 er]) (by simp[results,results67,go_sem,e0,e1]) rfl ?_;exact⟨rfl,w2,hR,dD (dD (gm _ _))⟩
section
variable {s i p:Nat}{B:WB}{ag:List Ob}
theorem Qr {tg aC:aP}{w w2 w':World}{g:WG}{lim:Nat}(hi:2<=i)(m:az (dB i) tg aC w w2)(hW:bF aC w2 s i p B ag g lim)(ht:aC w.heap.size=(0,0))(hg:w2.grownBy w' (some w.heap.size)):jX s i p B ag tg w w' g lim:=by
 have SG:=hW.own hg ht;obtain⟨g1,g2,g3,g4,g5⟩:=hg;exact⟨aC,⟨g1.trans m.os,g2.trans m.tape,g3.trans m.output,eU m.size g4,m.tags,fun k hk hn=>(g5 k (cv hk m.size) (fun e=>by injection e with e;omega)).trans (m.block k hk hn),fun hf=>SG.st.fresh⟩,SG⟩
end
structure kj (tg:aP)(w:World)(s i p:Nat)(B:WB)(ag:List Ob)(g:WG)(lim:Nat)(t:LT):Prop where
 inv:bF tg w s i p B ag g lim
 flat:Flat ag t g.ft
 ok:bu ag 5 t
 fl:Ga ag g.fl
 op:∀k,g.op k=none
def Qs (s i p:Nat)(B:WB)(ag:List Ob)(tg:aP)(w w':World)(lim:Nat)(R:WG->LT->Prop):Prop:=∃aC g' t',az (Mine i) tg aC w w'/\kj aC w' s i p B ag g' lim t'/\R g' t'
def yQ (g:WG)(fs':FS)(tn:LT)(g':WG)(t':LT):Prop:=t'=tn/\g'.fs=fs'/\g'.fl=g.fl/\g'.base=g.base
section
variable {s i p:Nat}{B:WB}{ag:List Ob}
theorem kj.ws {tg:aP}{w:World}{g:WG}{lim:Nat}{t:LT}(h:kj tg w s i p B ag g lim t):B.wb<w.heap.size/\w.cell? ⟨B.wb,0,none⟩=some (.pointer (some ⟨B.bt,0,none⟩))/\Tm w B.wb (fun _=>none):=by
 obtain⟨h1,h2⟩:=h.inv.wp.opens.tab;refine⟨h1.1,h2,h1.1,fun k hk=>?_,h1.2.2⟩;rw[h1.2.1 k hk];show some (Value.pointer (Option.map _ (Option.map _ (g.op k))))=_;rw[h.op k];rfl
theorem kj.mono {tg:aP}{w:World}{g:WG}{lim eN:Nat}{t:LT}(h:kj tg w s i p B ag g lim t)(hl:lim<=eN):kj tg w s i p B ag g eN t:=⟨h.inv.mono hl,h.flat,h.ok,h.fl,h.op⟩
theorem kj.below {tg:aP}{w w':World}{g:WG}{lim:Nat}{t:LT}(h:kj tg w s i p B ag g lim t)(hb:Below w.heap.size w w'):kj tg w' s i p B ag g lim t:=⟨h.inv.below hb,h.flat,h.ok,h.fl,h.op⟩
theorem Qs.of {tg:aP}{w w':World}{g:WG}{lim eN:Nat}{t:LT}(h:kj tg w s i p B ag g lim t){fs':FS}{t':LT}(hL:Left s i p B ag tg w w' g fs' t' eN):Qs s i p B ag tg w w' eN (yQ g fs' t'):=by
 obtain⟨aC,oo,m,hW,hF,hO⟩:=hL;exact⟨aC,_,t',m,⟨hW,hF,hO,h.fl,h.op⟩,rfl,rfl,rfl,rfl⟩
theorem Qs.mono {tg:aP}{w w':World}{lim eN:Nat}{R:WG->LT->Prop}(h:Qs s i p B ag tg w w' lim R)(hl:lim<=eN):Qs s i p B ag tg w w' eN R:=by
 obtain⟨aC,g',t',m,hK,hR⟩:=h;exact⟨aC,g',t',m,hK.mono hl,hR⟩
theorem yR {tg:aP}{w W w':World}{g:WG}{fs':FS}{t':LT}{lim:Nat}(hb:Below w.heap.size w W)(h:Left s i p B ag tg W w' g fs' t' lim):Left s i p B ag tg w w' g fs' t' lim:=by
 obtain⟨aC,oo,m,hW,hF,hO⟩:=h;exact⟨aC,oo,bY hb m,hW,hF,hO⟩
theorem aaD {tg:aP}{w:World}{g:WG}{lim:Nat}{t:LT}(h:kj tg w s i p B ag g lim t)(hl:lim+1000<1099511627776){n:ByteArray}{r:List ByteArray}(hL:Good (r.reverse ++ [n])):
  Calls prog 31 #[.pointer (some ⟨B.wb,0,none⟩),.string (bV (r.reverse ++ [n]))] w fun e w'=>e=.returned (.int .i64 (gG ag t g.fs (n :: r)).2.1)/\Qs s i p B ag tg w w' (lim+400) (yQ g (gG ag t g.fs (n :: r)).1 (gG ag t g.fs (n :: r)).2.2):=by
 obtain⟨xV,c0,_⟩:=h.ws;refine (Jo B.wb B.bt _ hL _ _ w xV c0 (fun W hb=>(LO (h.inv.below hb) (by omega) h.flat h.ok hL).mono fun e w' ⟨h1,h2⟩=>⟨h1,yR hb h2⟩)).mono ?_;rintro e w' ⟨h1,h2⟩;exact⟨h1,(Qs.of h h2).mono (by omega)⟩
theorem Xk {tg:aP}{w:World}{g:WG}{lim:Nat}{t:LT}(h:kj tg w s i p B ag g lim t)(hl:lim+1000<1099511627776){n:ByteArray}{r:List ByteArray}(hL:Good (r.reverse ++ [n])):
  Calls prog 32 #[.pointer (some ⟨B.wb,0,none⟩),.string (bV (r.reverse ++ [n]))] w fun e w'=>e=.returned (.int .i64 (eE ag t g.fs (n :: r)).2.1)/\Qs s i p B ag tg w w' (lim+400) (yQ g (eE ag t g.fs (n :: r)).1 (eE ag t g.fs (n :: r)).2.2):=by
 obtain⟨xV,c0,_⟩:=h.ws;refine (En B.wb B.bt _ hL _ _ w xV c0 (fun W hb=>(Jd (h.inv.below hb) (by omega) h.flat h.ok hL).mono fun e w' ⟨h1,h2⟩=>⟨h1,yR hb h2⟩)).mono ?_;rintro e w' ⟨h1,h2⟩;exact⟨h1,(Qs.of h h2).mono (by omega)⟩
theorem Xl {tg:aP}{w:World}{g:WG}{lim:Nat}{t:LT}(h:kj tg w s i p B ag g lim t)(hl:lim+1000<1099511627776){n n':ByteArray}{r r':List ByteArray}(hL:Good (r.reverse ++ [n]))(hM:Good (r'.reverse ++ [n'])):
  Calls prog 33 #[.pointer (some ⟨B.wb,0,none⟩),.string (bV (r.reverse ++ [n])),.string (bV (r'.reverse ++ [n']))] w fun e w'=>e=.returned (.int .i64 (eA ag t g.fs (n :: r) (n' :: r')).2.1)/\Qs s i p B ag tg w w' (lim+400) (yQ g (eA ag t g.fs (n :: r) (n' :: r')).1 (eA ag t g.fs (n :: r) (n' :: r')).2.2):=by
 obtain⟨xV,c0,_⟩:=h.ws;refine (Eo B.wb B.bt _ _ hL hM _ _ w xV c0 (fun W hb=>(Jm (h.inv.below hb) (by omega) h.flat h.ok hL hM).mono fun e w' ⟨h1,h2⟩=>⟨h1,yR hb h2⟩)).mono ?_;rintro e w' ⟨h1,h2⟩;exact⟨h1,(Qs.of h h2).mono (by omega)⟩
theorem Jr (t sF:Nat)(s0 s1 s2 s3 s4 nm d:ByteArray)(id er:Int)(R:World->Prop)(w:World)(ht:t<w.heap.size)(hid:id≠0)(c1:w.cell? ⟨t,1,none⟩=some (.pointer (some ⟨sF,0,none⟩)))
  (hg:∀W,Below w.heap.size w W->Calls prog 213 #[.pointer (some ⟨sF,0,none⟩),.int .i64 id] W fun e w'=>e=.returned (.tuple #[.string d,.int .i64 er])/\R w'):
  Calls prog 214 #[.pointer (some ⟨t,0,none⟩),.agg #[.string s0,.string s1,.string s2,.string s3,.string s4],.agg #[.string nm,.int .i64 1,.int .i64 id]] w fun en w'=>en=.returned (.tuple #[.string d,.int .i64 er])/\R w':=by
 have hb0:Below w.heap.size w ((w.alloc (.cells #[.string s0,.string s1,.string s2,.string s3,.string s4] 147)).alloc (.cells #[.string nm,.int .i64 1,.int .i64 id] 96)).drew:=aB (((Below.refl _ _).alloc (bA _) _).alloc (by simp) _);have hG:=hg _ hb0;have HG:Hid _:=hG;have ZW:(id == 0)=false:=by simpa using hid
 clear hg hG hb0;go_enter func214,ntmps214;go_wp2
 go_region_with (go_at_call 213;refine Calls.mono HG.out ?_;rintro e w2 ⟨rfl,hR⟩)
 all_goals
  go_wp2;go_ret2;exact⟨rfl,hR⟩
theorem Ck (t:Nat)(s0 s1 s2 s3 s4 nm d:ByteArray)(id er:Int)(hd:d.size<=256)(R:World->Prop)(w:World)
  (hby:Calls prog 214 #[.pointer (some ⟨t,0,none⟩),.agg #[.string s0,.string s1,.string s2,.string s3,.string s4],.agg #[.string nm,.int .i64 1,.int .i64 id]] ((w.alloc (.cells #[.string s0,.string s1,.string s2,.string s3,.string s4] 147)).alloc (.cells #[.string nm,.int .i64 1,.int .i64 id] 96)) fun en w'=>en=.returned (.tuple #[.string d,.int .i64 er])/\R w'):
  Calls prog 183 #[.pointer (some ⟨t,0,none⟩),.agg #[.string s0,.string s1,.string s2,.string s3,.string s4],.agg #[.string nm,.int .i64 1,.int .i64 id]] w fun en w'=>en=.returned (.tuple #[.int .i64 (d.size:Int),.int .i64 er])/\R w':=by
 have HBY:Hid _:=hby;clear hby;go_enter func183,ntmps183;go_wp2_with fail;refine Calls.mono HBY.out ?_;rintro e w2 ⟨rfl,hR⟩;go_wp2;go_ret2;exact⟨rfl,hR⟩
theorem Qt (t n:Nat)(s0 s1 s2 s3 s4 nm:ByteArray)(id er:Int)(R:World->Prop)(w:World)
  (hen:Calls prog 187 #[.pointer (some ⟨t,0,none⟩),.agg #[.string s0,.string s1,.string s2,.string s3,.string s4],.agg #[.string nm,.int .i64 2,.int .i64 id]] ((w.alloc (.cells #[.string s0,.string s1,.string s2,.string s3,.string s4] 147)).alloc (.cells #[.string nm,.int .i64 2,.int .i64 id] 96)) fun en w'=>∃a c,en=.returned (.tuple #[.slice a n c,.int .i64 er])/\R w'):
  Calls prog 183 #[.pointer (some ⟨t,0,none⟩),.agg #[.string s0,.string s1,.string s2,.string s3,.string s4],.agg #[.string nm,.int .i64 2,.int .i64 id]] w fun en w'=>en=.returned (.tuple #[.int .i64 (n:Int),.int .i64 er])/\R w':=by
 have Zj:Hid _:=hen;clear hen;go_enter func183,ntmps183;go_wp2_with fail;refine Calls.mono Zj.out ?_;rintro e w2 ⟨a,c,rfl,hR⟩;go_wp2;go_ret2;exact⟨rfl,hR⟩
theorem Qu (t:Nat)(s0 s1 s2 s3 s4 a:ByteArray)(k id sz er:Int)(R:World->Prop)(R2:World->Prop)(w:World)
  (cV:Calls prog 136 #[.pointer (some ⟨t,0,none⟩),.agg #[.string s0,.string s1,.string s2,.string s3,.string s4]] ((w.alloc (.cells #[.string s0,.string s1,.string s2,.string s3,.string s4] 147)).alloc (.cells #[.int .i64 0,.int .i64 0] 141)) fun e w'=>e=.returned (.tuple #[.agg #[.string a,.int .i64 k,.int .i64 id],.int .i64 0])/\jf w' (w.heap.size+1)/\(∀o,w'.cell? ⟨w.heap.size,o,none⟩=((w.alloc (.cells #[.string s0,.string s1,.string s2,.string s3,.string s4] 147)).alloc (.cells #[.int .i64 0,.int .i64 0] 141)).cell? ⟨w.heap.size,o,none⟩)/\R w')
  (hsize:∀w',R w'->jf w' (w.heap.size+1)->Calls prog 183 #[.pointer (some ⟨t,0,none⟩),.agg #[.string s0,.string s1,.string s2,.string s3,.string s4],.agg #[.string a,.int .i64 k,.int .i64 id]] (w'.alloc (.cells #[.string a,.int .i64 k,.int .i64 id] 96)) fun e w4=>e=.returned (.tuple #[.int .i64 sz,.int .i64 er])/\jf w4 (w.heap.size+1)/\(∀o,w4.cell? ⟨w'.heap.size,o,none⟩=(w'.alloc (.cells #[.string a,.int .i64 k,.int .i64 id] 96)).cell? ⟨w'.heap.size,o,none⟩)/\w'.heap.size<w4.heap.size/\R2 w4):
  Calls prog 126 #[.pointer (some ⟨t,0,none⟩),.agg #[.string s0,.string s1,.string s2,.string s3,.string s4]] w fun e w'=>e=.returned (.tuple #[.agg (if er=0 then #[.int .i64 k,.int .i64 sz] else #[.int .i64 0,.int .i64 0]),.int .i64 er])/\∃w4,R2 w4/\w4.grownBy w' (some (w.heap.size+1)):=by
 have HF:Hid _:=cV;have Rb:Hid _:=hsize;clear cV hsize;go_enter func126,ntmps126;go_wp2_with fail;refine Calls.mono HF.out ?_;rintro e w3 ⟨rfl,hblk,gU,hR⟩;obtain⟨hlt,c0,c1,f0⟩:=hblk.cells;have hz3:w.heap.size<w3.heap.size:=by omega
 have hs:=Rb.out w3 hR hblk;have HS:Hid _:=hs;clear hblk hR HF Rb hs;go_wp2_with fail;refine Calls.mono HS.out ?_;rintro e w4 ⟨rfl,YD,aoD,ab1,hR4⟩;obtain⟨hl4,d0,d1,g0⟩:=YD.cells;have HR4:Hid _:=hR4;clear YD hR4 HS;by_cases her:er=0
 ·subst her
  go_wp2;refine bodyPost_ret (v:=.tuple #[.agg #[.int .i64 k,.int .i64 sz],.int .i64 0]) (by simp[results,results126,go_sem,d0,d1]) rfl ?_;exact⟨rfl,w4,HR4.out,dD (dD (gm _ _))⟩
 ·have Qa:(er == 0)=false:=by simpa using her
  have HER:Hid _:=her;clear her;go_wp2;refine bodyPost_ret (v:=.tuple #[.agg #[.int .i64 0,.int .i64 0],.int .i64 er]) (by simp[results,results126,go_sem,d0,d1]) rfl ?_;exact⟨rfl,w4,HR4.out,dD (dD (gm _ _))⟩
theorem Mf {tg:aP}{w:World}{g:WG}{lim f:Nat}{d nm:ByteArray}{wu:FS}{er:Int}(h:bF tg w s i p B ag g lim)(hl:lim<1099511627776)(Ds:Ga ag g.fl){q:List ByteArray}(hq:Good q)(hf:g.ft.of q=some f){x:Int×ByteArray}(hx:g.fl f=some x)(Gv:ir ag g.fl g.fs f=(wu,er,d)):
  Calls prog 214 #[.pointer (some ⟨B.bt,0,none⟩),.agg (av q),.agg #[.string nm,.int .i64 1,.int .i64 0]] w fun en w'=>en=.returned (.tuple #[.string d,.int .i64 er])/\jX s i p B ag tg w w' { g with fs:=wu } (lim+1):=by
 have hb0:Below w.heap.size w ((w.alloc (.cells (av q) 147)).alloc (.cells #[.string nm,.int .i64 1,.int .i64 0] 96)).drew:=aB (((Below.refl _ _).alloc (bA _) _).alloc (by simp) _);have hlk:=h.wp.Ac.ad9 hq hb0;rw[hf] at hlk;have hby:=Qo (h.below hb0) hl Ds hx;rw[Gv] at hby;obtain⟨tb,t7,t8⟩:=h.F7;obtain⟨s0,s1,s2,s3,s4,hP⟩:∃s0 s1 s2 s3 s4,av q = #[.string s0,.string s1,.string s2,.string s3,.string s4]:=⟨_,_,_,_,_,rfl⟩;rw[hP] at hlk hb0 hby ⊢;simp only[Option.map_some,Option.getD_some,ptr] at hlk;have HB:Hid _:=hb0;have HBY:Hid _:=hby;clear h hb0 hby;go_enter func214,ntmps214;go_wp2
 go_region_with (go_at_call 181;refine Calls.mono HBY.out ?_;rintro e w2 ⟨rfl,hD⟩)
 all_goals
  go_wp2;go_ret2;exact⟨rfl,hD.via HB.out⟩
end


variable {ft:gA}
end Go.Proofs.YtlgidcmmgohagaaGreat
