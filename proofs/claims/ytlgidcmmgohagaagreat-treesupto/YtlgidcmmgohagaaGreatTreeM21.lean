/- What is proved here: how much stands one below the other in what is at a path. -/
import Derived.Test.YtlgidcmmgohagaaGreatTreeM19
import Derived.Test.YtlgidcmmgohagaaGreatTreeM20
import Derived.Deep.RegionHeld3
import Derived.Test.YtlgidcmmgohagaaGreatTreeM15
namespace Go.Proofs.YtlgidcmmgohagaaGreat
open Go.RowKit Go.Sort Go.Shelf Go.Proofs.Tryz
set_option linter.unusedVariables false
set_option maxRecDepth 100000
set_option maxHeartbeats 16000000
theorem gj.dn {tg:aP}{w:World}{s p:Nat}{ag:List Ob}{got:List Int}{brk:Bool}{lim:Nat}(h:gj tg w s p ag got brk lim):∀o ∈ ag,0<=o.high/\o.high<=5:=by
 obtain⟨_,ft,_,⟨a,cap,bf,bd,Df,Dd,i⟩,_⟩:=h;intro o ho;rcases i.zZ o ho with ⟨_,h1,_⟩ | ⟨_,_,_,_,h1,h2,_⟩
 ·rw[h1];exact⟨Int.le_refl _,by decide⟩
 ·exact⟨h1,h2⟩
theorem Qg {tg:aP}{w:World}{s p:Nat}{ag:List Ob}{got:List Int}{brk:Bool}{lim:Nat}(h:gj tg w s p ag got brk lim){id:Int}(hk:aH ag id≠0):
  Calls prog 173 #[.pointer (some ⟨p,0,none⟩),.int .i64 id] w fun e w'=>e=.returned (.int .i64 (cC ag id))/\Below w.heap.size w w':=by
 obtain⟨h1,h2⟩:=Ay hk;obtain⟨j,rfl⟩:∃j:Nat,id=(j:Int)+1:=⟨(id-1).toNat,by omega⟩;have hj:j<ag.length:=by omega
 obtain⟨_,ft,_,⟨a,cap,bf,bd,Df,Dd,i⟩,_⟩:=h;rw[ya hj];exact Du p a ag.length cap bf bd ag j hj w i.iH
theorem Cf {ag:List Ob}(h:∀o ∈ ag,0<=o.high/\o.high<=5)(id:Int):0<=cC ag id/\cC ag id<=5:=by
 unfold cC;cases ho:ag[(id-1).toNat]? with
 | none=>exact⟨Int.le_refl _,by decide⟩
 | some o=>exact h o (List.mem_of_getElem? ho)
theorem xH {α:Type}(f:α->Int)(l:List α)(a:Int):a<=l.foldl (fun h x=>max h (1+f x)) a:=((eX f l a _).1 (Int.le_refl _)).1
theorem uG {ag:List Ob}(h:∀o ∈ ag,0<=o.high/\o.high<=5):∀(n:Nat) (c:LT),0<=iX ag n c/\iX ag n c<=5+n
 | n,.file id=>by
  have:=Cf h id
  have e:iX ag n (.file id)=cC ag id:=by cases n <;> rfl
  rw[e];omega
 | n,.held f=>by
  have e:iX ag n (.held f)=0:=by cases n <;> rfl
  rw[e];omega
 | n,.dir id=>by
  have:=Cf h id
  have e:iX ag n (.dir id)=cC ag id:=by cases n <;> rfl
  rw[e];omega
 | 0,.own es=>by
  have e:iX ag 0 (.own es)=0:=rfl
  rw[e];omega
 | n+1,.own es=>by
  rw[iX]
  refine⟨xH _ es 0,(eX (fun x=>iX ag n x.2) es 0 _).2 ⟨by omega,fun x _=>?_⟩⟩
  have:=uG h n x.2
  push_cast
  omega
theorem aaq {ag:List Ob}{t:LT}{q:List ByteArray}{es:Kids}(ha:t.at ag q=some (.own es))(hr:aU es){x:ByteArray×LT}(hx:x ∈ es):t.at ag (q ++ [x.1])=some x.2:=by
 rw[bH,ha,Option.bind_some,bw];show (aS es x.1).bind _=_;cases hp:aS es x.1 with
 | none=>
  unfold aS at hp;rw[Option.map_eq_none_iff,List.find?_eq_none] at hp;exact absurd (hp x hx) (by simp)
 | some c=>
  rw[mR hr hp hx rfl,Option.bind_some,di]
def Ag (ag:List Ob)(n:Nat)(es:Kids):Int:=es.foldl (fun h x=>max h (1+iX ag n x.2)) 0
theorem Qh (ag:List Ob)(n:Nat)(es:Kids)(x:ByteArray×LT):Ag ag n (es ++ [x])=max (Ag ag n es) (1+iX ag n x.2):=by
 simp only[Ag,List.foldl_append,List.foldl_cons,List.foldl_nil]
theorem L0 {ag:List Ob}(h:∀o ∈ ag,0<=o.high/\o.high<=5)(n:Nat)(es:Kids):0<=Ag ag n es/\Ag ag n es<=6+n:=by
 refine⟨xH _ es 0,(eX (fun x=>iX ag n x.2) es 0 _).2 ⟨by omega,fun x _=>?_⟩⟩
 have:=uG h n x.2
 omega
theorem Dg (t p:Nat)(s0 s1 s2 s3 s4 nm:ByteArray)(k id H:Int)(w:World)(ht:t<w.heap.size)(c0:w.cell? ⟨t,0,none⟩=some (.pointer (some ⟨p,0,none⟩)))(hid:id≠0)
  (hh:∀W,Below w.heap.size w W->Calls prog 173 #[.pointer (some ⟨p,0,none⟩),.int .i64 id] W fun e w'=>e=.returned (.int .i64 H)/\Below W.heap.size W w'):
  Calls prog 143 #[.pointer (some ⟨t,0,none⟩),.agg #[.string s0,.string s1,.string s2,.string s3,.string s4],.agg #[.string nm,.int .i64 k,.int .i64 id]] w fun e w'=>e=.returned (.int .i64 H)/\Below w.heap.size w w':=by
 have hW:=aB (((Below.refl w.heap.size w).alloc (bA _) (.cells #[.string s0,.string s1,.string s2,.string s3,.string s4] 147)).alloc (by simp) (.cells #[.string nm,.int .i64 k,.int .i64 id] 96));have hg:=hh _ hW;have HW:Hid _:=hW;have ZW:(id == 0)=false:=by simpa using hid
 clear hh hW;go_enter func143,ntmps143;go_wp2
 go_region_with (go_at_call 173;refine hg.mono ?_;rintro e w1 ⟨rfl,hb1⟩)
 all_goals
  go_wp2;go_ret;exact⟨rfl,aq HW.out hb1⟩
theorem tT (t m:Nat)(s0 s1 s2 s3 s4 nm:ByteArray)(k:Int)(w:World)(ht:t<w.heap.size)(c8:w.cell? ⟨t,8,none⟩=some (.map (some m)))
  (hlk:∀W,Below w.heap.size w W->(Instr.lookup 162 (.map (some m)) (.agg #[.string s0,.string s1,.string s2,.string s3,.string s4]) false).run prog W=.ok (.slice none 0 0) W):
  Calls prog 143 #[.pointer (some ⟨t,0,none⟩),.agg #[.string s0,.string s1,.string s2,.string s3,.string s4],.agg #[.string nm,.int .i64 k,.int .i64 0]] w fun e w'=>e=.returned (.int .i64 0)/\Below w.heap.size w w':=by
 have hW:=aB (((Below.refl w.heap.size w).alloc (bA _) (.cells #[.string s0,.string s1,.string s2,.string s3,.string s4] 147)).alloc (by simp) (.cells #[.string nm,.int .i64 k,.int .i64 0] 96));have hl:=hlk _ hW;have HW:Hid _:=hW;clear hlk hW;go_enter func143,ntmps143;go_wp2
 go_region
 all_goals
  go_wp2
  go_loopw [7,27] (fun t i wr=>i=.int .i64 0/\t=.int .i64 0/\Below w.heap.size w wr) (fun _ _ _=>0)
  case atStart=>exact⟨rfl,rfl,HW.out⟩
  case round=>
   obtain⟨rfl,rfl,hb⟩:=hrel;go_wp2;go_ret;exact⟨rfl,hb⟩
theorem L5 {wr w1:World}{X:Obj}(hb1:Below (wr.alloc X).drew.heap.size (wr.alloc X).drew w1):
  (∀o,w1.cell? ⟨wr.heap.size,o,none⟩=(wr.alloc X).drew.cell? ⟨wr.heap.size,o,none⟩)/\wr.heap.size<w1.heap.size/\∀n a,n<=wr.heap.size->Below n a (wr.alloc X).drew->Below n a w1:=by
 have h1:wr.heap.size<(wr.alloc X).drew.heap.size:=by simp
 exact⟨fun o=>(aR hb1).1 wr.heap.size o h1,cv h1 hb1.size,fun n a hn hb=>hb.trans (hb1.mono (by omega))⟩
theorem L6 (t m gb cap n:Nat)(ag:List Ob)(s0 s1 s2 s3 s4 nm:ByteArray)(q:List ByteArray)(k:Int)(es:Kids)(w:World)(ht:t<w.heap.size)(hgb:gb<w.heap.size)(c8:w.cell? ⟨t,8,none⟩=some (.map (some m)))
  (hlk:∀W,Below w.heap.size w W->(Instr.lookup 162 (.map (some m)) (.agg #[.string s0,.string s1,.string s2,.string s3,.string s4]) false).run prog W=.ok (.slice (some ⟨gb,0,none⟩) es.length cap) W)
  (R8:es.length<=16)(hn5:n<=5)(hc:∀j u,(flat (es.map cK))[j]? = some u->w.cell? ⟨gb,j,none⟩=some u)(hh:∀o ∈ ag,0<=o.high/\o.high<=5)
  (hch:∀(x:ByteArray) W,x ∈ es.map (·.1)->Calls prog 196 #[.agg #[.string s0,.string s1,.string s2,.string s3,.string s4],.string x] W fun e w'=>e=.returned (.agg (av (q ++ [x])))/\Below W.heap.size W w')
  (Db:∀x ∈ es,∀W,Below w.heap.size w W->Calls prog 143 #[.pointer (some ⟨t,0,none⟩),.agg (av (q ++ [x.1])),.agg #[.string x.1,.int .i64 x.2.kind,.int .i64 x.2.id]] W fun e w'=>e=.returned (.int .i64 (iX ag n x.2))/\Below W.heap.size W w'):
  Calls prog 143 #[.pointer (some ⟨t,0,none⟩),.agg #[.string s0,.string s1,.string s2,.string s3,.string s4],.agg #[.string nm,.int .i64 k,.int .i64 0]] w fun e w'=>e=.returned (.int .i64 (Ag ag n es))/\Below w.heap.size w w':=by
 have hW:=aB (((Below.refl w.heap.size w).alloc (bA _) (.cells #[.string s0,.string s1,.string s2,.string s3,.string s4] 147)).alloc (by simp) (.cells #[.string nm,.int .i64 k,.int .i64 0] 96));have hl:=hlk _ hW;have HW:Hid _:=hW;have HC:Hid _:=hc;have HCH:Hid _:=hch;have Z4:Hid _:=Db;have HB:Hid _:=fun es':Kids=>L0 hh n es';have HG:Hid _:=fun c:LT=>uG hh n c;clear hlk hW hc hch Db hh;go_enter func143,ntmps143;go_wp2
 go_region
 all_goals
  go_wp2
  go_loopw [7,27] (fun t i wr=>∃k':Nat,k'<=es.length/\i=.int .i64 k'/\t=.int .i64 (Ag ag n (es.take k'))/\Below w.heap.size w wr/\Below (w.heap.size+2) ((w.alloc (.cells #[.string s0,.string s1,.string s2,.string s3,.string s4] 147)).alloc (.cells #[.string nm,.int .i64 k,.int .i64 0] 96)).drew wr) (fun _ i _=>es.length-(intOf i).toNat)
  case atStart=>exact⟨0,dG _,rfl,rfl,HW.out,Below.refl _ _⟩
  case round=>
   obtain⟨k',hk,rfl,rfl,hb,hb2⟩:=hrel;by_cases hlt:k'<es.length
   ·have Oz:k'<(es.map cK).length:=by rw[List.length_map];exact hlt
    obtain⟨d0,d1,d2⟩:=vP HC.out Oz;rw[List.getElem_map] at d0 d1 d2;have e0:=(hb.cell (p:=⟨gb,k'*3,none⟩) hgb).trans d0;have e1:=(hb.cell (p:=⟨gb,k'*3+1,none⟩) hgb).trans d1;have e2:=(hb.cell (p:=⟨gb,k'*3+2,none⟩) hgb).trans d2;have hgb':gb<wr.heap.size:=cv hgb hb.size;have kp:=fun o=>hb2.cell (p:=⟨w.heap.size,o,none⟩) (by simp);have hzr:w.heap.size+2<=wr.heap.size:=by have:=hb2.size;simpa using this
    have hzw:w.heap.size<wr.heap.size:=(by omega);have mS:=jk hlt;have hcx:=fun W=>HCH.out (es[k']).1 W (List.mem_map_of_mem mS);have Yz:=Z4.out es[k'] mS;have j3:=HG.out (es[k']).2;have hac:=HB.out (es.take k');have hst:Ag ag n (es.take (k'+1))=max (Ag ag n (es.take k')) (1+iX ag n (es[k']).2):=by
     rw[qX hlt,Qh]
    generalize iX ag n (es[k']).2=H at Yz j3 hst;generalize Ag ag n (es.take k')=A at hac hst ⊢;have hwx:IntKind.i64.wrap (1+H)=1+H:=by rw[IntKind.wrap_i64] <;> omega
    obtain⟨hA0,hA1⟩:=hac;obtain⟨hH0,hH1⟩:=j3;have HST:Hid _:=hst;simp only[cK] at e0 e1 e2;clear d0 d1 d2 hst mS;generalize es[k']=x at e0 e1 e2 hcx Yz;obtain⟨xn,xt⟩:=x;simp only at e0 e1 e2 hcx Yz;generalize xt.kind=xk at e1 Yz;generalize xt.id=xi at e2 Yz;obtain⟨r0,r1,r2,r3,r4,zG⟩:∃s0 s1 s2 s3 s4,av (q ++ [xn]) = #[.string s0,.string s1,.string s2,.string s3,.string s4]:=⟨_,_,_,_,_,rfl⟩;rw[zG] at hcx Yz;have HR:Hid _:=Yz;clear Yz zG;have b0:Below w.heap.size w (wr.alloc (.cells #[.string xn,.int .i64 xk,.int .i64 xi] 96)).drew:=aB (hb.alloc hb.size _);have b2:Below (w.heap.size+2) ((w.alloc (.cells #[.string s0,.string s1,.string s2,.string s3,.string s4] 147)).alloc (.cells #[.string nm,.int .i64 k,.int .i64 0] 96)).drew (wr.alloc (.cells #[.string xn,.int .i64 xk,.int .i64 xi] 96)).drew:=aB (hb2.alloc hzr _);go_wp2
    go_region_with (first
     | (go_at_call 196;refine (hcx _).mono ?_;rintro e w1 ⟨rfl,hb1⟩;have b1:=aq b0 hb1;obtain⟨k1,hz1,qs⟩:=L5 hb1;have b3:=qs _ _ hzr b2;clear qs)
     | (go_at_call 143;refine (HR.out _ b1).mono ?_;rintro e w2 ⟨rfl,adK⟩))
    all_goals
     go_wp2;go_roundw
     case rel=>
      refine⟨k'+1,by omega,by go_num,by rw[HST.out],aq b1 adK,b3.trans (adK.mono (by omega))⟩
     case measure=>simp[intOf];omega
   ·have uP:k'=es.length:=by omega
    subst uP;rw[List.take_length];go_wp2;go_ret;exact⟨rfl,hb⟩
theorem vV {ag:List Ob}:∀(n m:Nat) (c:LT),n<=m->bu ag n c->iX ag m c=iX ag n c
 | n,m,.file id,_,_=>by cases n <;> cases m <;> rfl
 | n,m,.held f,_,_=>by cases n <;> cases m <;> rfl
 | n,m,.dir id,_,_=>by cases n <;> cases m <;> rfl
 | 0,m,.own es,_,h=>by
  rw[bu] at h
  subst h
  cases m <;> rfl
 | n+1,0,.own es,h,_=>by omega
 | n+1,m+1,.own es,h,cz=>by
  rw[bu] at cz
  rw[iX,iX]
  have key:∀(l:Kids) (a:Int),(∀x ∈ l,x ∈ es)->l.foldl (fun h x=>max h (1+iX ag m x.2)) a=l.foldl (fun h x=>max h (1+iX ag n x.2)) a:=by
   intro l
   induction l with
   | nil=>intro a _;rfl
   | cons y r ih=>
    intro a hl;rw[List.foldl_cons,List.foldl_cons,vV n m y.2 (by omega) (cz.2.2 y (hl y (by simp))).2];exact ih _ (fun x hx=>hl x (by simp[hx]))
  exact key es 0 (fun x hx=>hx)
section
variable {s i p:Nat}{B:WB}{ag:List Ob}
theorem L8 {tg:aP}{w:World}{g:WG}{lim:Nat}{t:LT}(h:bF tg w s i p B ag g lim)(hF:Flat ag t g.ft):∀(n:Nat) (c:LT) (q:List ByteArray),n<=5->bu ag n c->t.at ag q=some c->Good q->q.length+n<=5->∀(nm:ByteArray) (W:World),Below w.heap.size w W->
  Calls prog 143 #[.pointer (some ⟨B.bt,0,none⟩),.agg (av q),.agg #[.string nm,.int .i64 c.kind,.int .i64 c.id]] W fun e w'=>e=.returned (.int .i64 (iX ag n c))/\Below W.heap.size W w':=by
 have hcell:∀(W:World),Below w.heap.size w W->B.bt<W.heap.size/\W.cell? ⟨B.bt,0,none⟩=some (.pointer (some ⟨p,0,none⟩))/\W.cell? ⟨B.bt,8,none⟩=some (.map (some B.oD)):=by
  intro W hb;have ht:=(h.below hb).wp.tree.ht;exact⟨(Array.getElem?_eq_some_iff.1 ht).1,by simp[World.cell?,ht,ptr],by simp[World.cell?,ht]⟩
 have hst:∀(c:LT) (q:List ByteArray) (nm:ByteArray) (W:World),Below w.heap.size w W->aH ag c.id≠0->
   Calls prog 143 #[.pointer (some ⟨B.bt,0,none⟩),.agg (av q),.agg #[.string nm,.int .i64 c.kind,.int .i64 c.id]] W fun e w'=>e=.returned (.int .i64 (cC ag c.id))/\Below W.heap.size W w':=by
  intro c q nm W hb hk;obtain⟨h1,h2,h3⟩:=hcell W hb;have hid:c.id≠0:=fun e=>by have:=(Ay hk).1;omega
  exact Dg B.bt p _ _ _ _ _ nm c.kind c.id _ W h1 h2 hid (fun W' hb'=>Qg ((h.below hb).below hb').st hk)
 have hhs:=h.st.dn;obtain⟨vD,hD⟩:=h.wp.tG;have hlk:∀(q:List ByteArray),Good q->∀(W:World),Below w.heap.size w W->(Instr.lookup 162 (.map (some B.oD)) (.agg (av q)) false).run prog W=.ok (((g.ft.od q).map fun _=>vD q).getD (.slice none 0 0)) W:=fun q hq W hb=>hD.look hq hb;have hS:=h.st.sound;have hown:∀(n:Nat) (es:Kids) (q:List ByteArray) (nm:ByteArray) (W:World),Below w.heap.size w W->n<=5->t.at ag q=some (.own es)->Good q->aU es->es.length<=16->(∀x ∈ es,q.length<=4)->
   (∀x ∈ es,∀W',Below w.heap.size w W'->Calls prog 143 #[.pointer (some ⟨B.bt,0,none⟩),.agg (av (q ++ [x.1])),.agg #[.string x.1,.int .i64 x.2.kind,.int .i64 x.2.id]] W' fun e w'=>e=.returned (.int .i64 (iX ag n x.2))/\Below W'.heap.size W' w')->
   Calls prog 143 #[.pointer (some ⟨B.bt,0,none⟩),.agg (av q),.agg #[.string nm,.int .i64 2,.int .i64 0]] W fun e w'=>e=.returned (.int .i64 (Ag ag n es))/\Below W.heap.size W w':=by
  intro n es q nm W hb hn ha hq hr jS h4 Db;obtain⟨h1,h2,h3⟩:=hcell W hb;have ho:g.ft.od q=some (es.map cK):=by rw[hF.od,ha];rfl
  have hrow:=hD.row q _ ho;have hl:=fun W' (hb':Below W.heap.size W W')=>hlk q hq W' (aq hb hb');rw[ho,Option.map_some,Option.getD_some] at hl;have adL:∀gb c,vD q=.slice (some ⟨gb,0,none⟩) es.length c->Calls prog 143 #[.pointer (some ⟨B.bt,0,none⟩),.agg (av q),.agg #[.string nm,.int .i64 2,.int .i64 0]] W fun e w'=>e=.returned (.int .i64 (Ag ag n es))/\Below W.heap.size W w':=by
   intro gb c hv;rw[hv] at hl hrow;have fo:gb<w.heap.size:=ah hrow.1 rfl;have hcs:=hrow.1;rw[List.length_map] at hcs;refine L6 B.bt B.oD gb c n ag _ _ _ _ _ nm q 2 es W h1 (cv fo hb.size) h3 hl jS hn (fun j u hu=>?_) hhs (fun x W' hx=>?_) (fun x hx W' hb'=>Db x hx W' (aq hb hb'))
   ·have:=aQ hcs j u hu
    rw[Nat.zero_add] at this;exact (hb.cell (p:=⟨gb,j,none⟩) fo).trans this
   ·obtain⟨y,hy,rfl⟩:=List.mem_map.1 hx
    exact Qd q hq (h4 y hy) y.1 W'
  rcases hrow.1.2 with ⟨hv,hx⟩ | ⟨g',c',cur,hv,_⟩
  ·have he:es = []:=by
    have h0:(es.map cK).length=0:=by first | exact hx | (have:=congrArg List.length hx;rw[bl] at this;simpa using this)
    simpa using h0
   subst he;rw[hv] at hl;exact tT B.bt B.oD _ _ _ _ _ nm 2 W h1 h3 hl
  ·rw[List.length_map] at hv
   exact adL _ _ hv
 intro n
 induction n with
 | zero=>
  intro c q hn hc ha hq hlen nm W hb;obtain⟨h1,h2,h3⟩:=hcell W hb;cases c with
  | file id=>exact hst (.file id) q nm W hb (by rw[bu] at hc;show aH ag id≠0;rw[hc];decide)
  | dir id=>exact hst (.dir id) q nm W hb (by rw[bu] at hc;show aH ag id≠0;rw[hc.1];decide)
  | held f=>exact tT B.bt B.oD _ _ _ _ _ nm 1 W h1 h3 (fun W' hb'=>by
    have:=hlk q hq W' (aq hb hb')
    rwa [hF.od,ha] at this)
  | own es=>
   rw[bu] at hc;subst hc;exact hown 0 [] q nm W hb (by omega) ha hq List.Pairwise.nil (by simp) (by simp) (by simp)
 | succ n ih=>
  intro c q hn hc ha hq hlen nm W hb;obtain⟨h1,h2,h3⟩:=hcell W hb;cases c with
  | file id=>exact hst (.file id) q nm W hb (by rw[bu] at hc;show aH ag id≠0;rw[hc];decide)
  | dir id=>exact hst (.dir id) q nm W hb (by rw[bu] at hc;show aH ag id≠0;rw[hc.1];decide)
  | held f=>exact tT B.bt B.oD _ _ _ _ _ nm 1 W h1 h3 (fun W' hb'=>by
    have:=hlk q hq W' (aq hb hb')
    rwa [hF.od,ha] at this)
  | own es=>
   rw[bu] at hc;refine hown n es q nm W hb (by omega) ha hq hc.1 hc.2.1 (fun _ _=>by omega) (fun x hx W' hb'=>?_);have hg:Good (q ++ [x.1]):=⟨hq.val.append (fun y hy=>by simp at hy;rw[hy];exact (hc.2.2 x hx).1),by simp;omega⟩;exact ih x.2 (q ++ [x.1]) (by omega) (hc.2.2 x hx).2 (aaq ha hc.1 hx) hg (by simp;omega) x.1 W' hb'
end
theorem L9 {β γ:Type}(f:List ByteArray->Option β)(m:β->γ)(src dst x:List ByteArray):ez (fun p=>(f p).map m) src dst x=(ez f src dst x).map m:=by
 unfold ez;split
 ·rfl
 ·split <;> rfl
theorem tU {β:Type}{f:List ByteArray->Option β}{src dst x:List ByteArray}{y:β}(h:ez f src dst x=some y):(dst <+: x/\f (src++x.drop dst.length)=some y)\/(¬dst <+: x/\¬src <+: x/\f x=some y):=by
 unfold ez at h;by_cases hd:dst <+: x
 ·rw[aL hd] at h;exact .inl ⟨hd,h⟩
 ·rw[ay hd] at h
  by_cases hs:src <+: x
  ·rw[aL hs] at h;cases h
  ·rw[ay hs] at h;exact .inr ⟨hd,hs,h⟩
theorem Cg {β:Type}{f:List ByteArray->Option β}{src dst x:List ByteArray}{y:β}(F4:Good dst)(hg:∀p z,f p=some z->Good p)(hlen:∀p z,src <+: p->f p=some z->dst.length+(p.length-src.length)<=5)(h:ez f src dst x=some y):Good x:=by
 rcases tU h with ⟨⟨r,rfl⟩,h1⟩ | ⟨_,_,h1⟩
 ·rw[List.drop_left] at h1
  have g1:=hg _ _ h1;have l1:=hlen _ _ (List.prefix_append _ _) h1;refine⟨F4.val.append (fun z hz=>g1.val z (List.mem_append_right _ hz)),?_⟩;rw[List.length_append] at l1 ⊢;omega
 ·exact hg _ _ h1
theorem Ek {P:Nat×Nat->Prop}{tg:aP}{w w':World}{b:Nat}(hg:w.grownBy w' (some b))(hP:P (tg b)):az P tg tg w w':=
 ⟨hg.os,hg.tape,hg.output,hg.size,fun _ _=>rfl,fun k hk hn=>hg.block k hk (fun e=>hn (by cases e;exact hP)),fun hf k hk=>hf k (eU hg.size hk)⟩
section
variable {s i p:Nat}{B:WB}{ag:List Ob}
theorem Dh {tg:aP}{w w':World}{g:WG}{lim n:Nat}(h:bF tg w s i p B ag g lim){src dst:List ByteArray}(F4:Good dst)(hlen:∀x f,src <+: x->g.ft.of x=some f->dst.length+(x.length-src.length)<=5)(hn:n<=lim)(hm:iU w' B.oF n (ez (fun p=>(g.ft.of p).map ptr) src dst))(hgr:w.grownBy w' (some B.oF)):
  az (fun t=>t=(i,4)) tg tg w w'/\bF tg w' s i p B ag { g with ft:={ g.ft with of:=ez g.ft.of src dst } } lim:=by
 have hi:=h.two;obtain⟨ht,_,hg⟩:=h.wp.Ac;have m:az (fun t=>t=(i,4)) tg tg w w':=Ek hgr ht;have hp:=h.wp;obtain⟨vD,hD⟩:=hp.tG;refine⟨m,h.two,h.st.moves m (fun e=>by cases e) (fun e=>by cases e),⟨hp.tree.moves m (fun e=>by cases e),hp.qK.moves m (fun e=>by cases e),hp.qL.moves m (fun e=>by cases e),⟨ht,⟨n,hn,hm.congr (fun x _=>L9 _ _ _ _ _)⟩,fun x f hx=>Cg F4 hg hlen hx⟩,⟨vD,hD.moves m (fun e=>by cases e)⟩,hp.files.moves m (fun e=>by cases e),fun x f hx=>?_,hp.opens.moves m (fun e=>by cases e) (fun e=>by cases e),⟨hp.ok.root,hp.ok.od⟩⟩⟩;rcases tU hx with ⟨_,h1⟩ | ⟨_,_,h1⟩
 ·exact hp.held _ f h1
 ·exact hp.held _ f h1
def Ch (vD:List ByteArray->Value)(src dst:List ByteArray):List ByteArray->Value:=fun x=>if dst <+: x then vD (src++x.drop dst.length) else vD x
theorem F6 {tg:aP}{w w':World}{g:WG}{lim n:Nat}{vD:List ByteArray->Value}(h:bF tg w s i p B ag g lim)(hD:cG tg w i B g.ft.od lim vD){src dst:List ByteArray}(F4:Good dst)(hlen:∀x f,src <+: x->g.ft.od x=some f->dst.length+(x.length-src.length)<=5)(hn:n<=lim)(hm:iU w' B.oD n (ez (fun p=>(g.ft.od p).map fun _=>vD p) src dst))(hgr:w.grownBy w' (some B.oD)):
  az (fun t=>t=(i,5)) tg tg w w'/\bF tg w' s i p B ag { g with ft:={ g.ft with od:=ez g.ft.od src dst } } lim:=by
 obtain⟨n0,_,Oo⟩:=hD.map;obtain⟨e0,ck,hb⟩:=Oo.isMap;have m:az (fun t=>t=(i,5)) tg tg w w':=Ek hgr hD.tag;have hv:∀x es,ez g.ft.od src dst x=some es->∃y,g.ft.od y=some es/\Ch vD src dst x=vD y/\((dst <+: x/\y=src++x.drop dst.length)\/(¬dst <+: x/\¬src <+: x/\y=x)):=by
  intro x es hx;rcases tU hx with ⟨hd,h1⟩ | ⟨hd,hs,h1⟩
  ·exact⟨_,h1,by unfold Ch;rw[aL hd],.inl ⟨hd,rfl⟩⟩
  ·exact⟨_,h1,by unfold Ch;rw[ay hd],.inr ⟨hd,hs,rfl⟩⟩
 have CT:cG tg w' i B (ez g.ft.od src dst) lim (Ch vD src dst):=by
  refine⟨hD.tag,⟨n,hn,hm.congr (fun x _=>?_)⟩,fun x es hx=>?_,fun x es hx=>?_,fun x y ex ey gb hx hy h1 h2=>?_⟩
  ·unfold ez Ch
   by_cases hd:dst <+: x
   ·rw[aL hd,aL hd,aL hd]
   ·rw[ay hd,ay hd,ay hd]
    split <;> rfl
  ·obtain⟨y,h1,_,_⟩:=hv x es hx
   exact⟨Cg F4 (fun p z hz=>(hD.good p z hz).1) hlen hx,(hD.good y es h1).2⟩
  ·obtain⟨y,h1,h2,_⟩:=hv x es hx
   rw[h2];exact (hD.row y es h1).xy hb hgr
  ·obtain⟨x',a1,a2,a3⟩:=hv x ex hx
   obtain⟨y',b1,b2,b3⟩:=hv y ey hy;rw[a2] at h1;rw[b2] at h2;have e:=hD.inj x' y' ex ey gb a1 b1 h1 h2;rcases a3 with ⟨⟨r,rfl⟩,ha⟩ | ⟨_,hs,ha⟩
   ·rcases b3 with ⟨⟨t,rfl⟩,hb'⟩ | ⟨_,sw,hb'⟩
    ·rw[List.drop_left] at ha hb'
     rw[ha,hb'] at e;rw[List.append_cancel_left e]
    ·exfalso
     apply sw;rw[<-hb',<-e,ha];exact List.prefix_append _ _
   ·rcases b3 with ⟨⟨t,rfl⟩,hb'⟩ | ⟨_,sw,hb'⟩
    ·exfalso
     apply hs;rw[<-ha,e,hb'];exact List.prefix_append _ _
    ·rw[<-ha,<-hb',e]
 refine⟨m,h.od m (bA _) CT (fun x es hx=>?_)⟩;obtain⟨y,h1,_,_⟩:=hv x es hx;exact h.wp.ok.od y es h1
end
theorem Qi {ag:List Ob}{t:LT}{qf qt:List ByteArray}{nf nt:ByteArray}{df dt:LT}{kf kt:Kids}(hr:aU kf)(ha:t.at ag qf=some df)(hk:kids ag df=some kf)(ht:aW kf nf=true)(hb:t.at ag qt=some dt)(jQ:kids ag dt=some kt)(OP:¬(qf ++ [nf]) <+: qt)(hne:qt ++ [nt]≠qf ++ [nf])
  {d1:LT}{k1:Kids}(e1:(dK ag (fun ks=>cE ks nf) qf t).at ag qt=some d1)(e2:kids ag d1=some k1):(aS k1 nt).isSome=(aS kt nt).isSome/\k1.length<=kt.length/\(qf=qt->k1.length<kt.length):=by
 obtain⟨m1,m2⟩:=yl ag (fun ks=>cE ks nf) qf t df kf ha hk;by_cases h:qf <+: qt
 ·obtain⟨s,rfl⟩:=h
  cases s with
  | nil=>
   rw[List.append_nil] at hb e1 hne ⊢;rw[m2] at e1;cases e1;rw[ha] at hb;cases hb;rw[hk] at jQ;cases jQ;have e2':some (cE kf nf)=some k1:=e2;cases e2';have hn:nt≠nf:=fun e=>hne (by rw[e])
   have hl:=wP ht;have hl2:=qx ht;exact⟨by rw[jK hr ht,ay hn],by omega,fun _=>by omega⟩
  | cons m r=>
   have hm:m≠nf:=fun e=>OP (by rw[e];exact⟨r,by simp⟩);rw[m1,jK hr ht,ay hm] at e1;rw[bH,ha,Option.bind_some,bw,hk,Option.bind_some] at hb;rw[hb] at e1;cases e1;rw[jQ] at e2;cases e2;exact⟨rfl,bA _,fun e=>by have:=congrArg List.length e;simp at this⟩
 ·by_cases h2:qt <+: qf
  ·obtain⟨m,hm,KH⟩:=j6 h2 (fun e=>h (e ▸ List.prefix_refl _))
   obtain⟨r,CW⟩:=KH;have CW:qf=qt++m :: r:=by rw[<-CW];simp
   rw[CW] at ha e1;obtain⟨dq,kq,h1,h2,h3⟩:=lX ag (fun ks=>cE ks nf) qt m r t df ha;rw[hb] at h1;cases h1;rw[jQ] at h2;cases h2;rw[h3] at e1;cases e1;have e2':=e2;simp only[kids,Option.some.injEq] at e2';rw[<-e2'];refine⟨?_,by rw[List.length_map];exact bA _,fun e=>by rw[CW] at e;have:=congrArg List.length e;simp at this⟩;rw[mP];split
   ·cases aS kt nt <;> rfl
   ·rfl
  ·rw[jJ ag _ qf qt t df ha h2 h,hb] at e1
   cases e1;rw[jQ] at e2;cases e2;exact⟨rfl,bA _,fun e=>absurd (e ▸ List.prefix_refl _) h⟩
theorem Qj {ag:List Ob}{t:LT}{qf qt:List ByteArray}{nf nt:ByteArray}{df dt c:LT}{kf kt:Kids}(ha:t.at ag qf=some df)(hk:kids ag df=some kf)(hp:aS kf nf=some c)(hb:t.at ag qt=some dt)(jQ:kids ag dt=some kt)(hne:qt ++ [nt]≠qf ++ [nf])
  (hroom:∀e,aS kt nt=some e->kids ag e=none\/kids ag e=some []):¬(qt ++ [nt]) <+: (qf ++ [nf]):=by
 rintro ⟨r,hr⟩;have hc:t.at ag (qf ++ [nf])=some c:=by rw[bH,ha,Option.bind_some,bw,hk,Option.bind_some,hp,Option.bind_some,di]
 cases r with
 | nil=>rw[List.append_nil] at hr;exact hne hr
 | cons m r=>
  rw[<-hr] at hc;cases he:aS kt nt with
  | none=>
   rw[List.append_assoc,bH,hb,Option.bind_some,List.singleton_append,bw,jQ,Option.bind_some,he] at hc;cases hc
  | some e=>
   have hae:t.at ag (qt ++ [nt])=some e:=by rw[bH,hb,Option.bind_some,bw,jQ,Option.bind_some,he,Option.bind_some,di]
   rw[rD hae (hroom e he)] at hc;cases hc
section
variable {s i p:Nat}{B:WB}{ag:List Ob}
theorem Ma {tg:aP}{w:World}{g:WG}{lim:Nat}(h:bF tg w s i p B ag g lim)(hl:lim<1099511627776){src dst:List ByteArray}(mI:Good src)(F4:Good dst)(rV:∀x,dst <+: x->g.ft.of x=none)(hlen:∀x f,src <+: x->g.ft.of x=some f->dst.length+(x.length-src.length)<=5):
  Calls prog 144 #[.map (some B.oF),.agg (av src),.agg (av dst)] w fun e w'=>e=.returned (.tuple #[])/\az (fun t=>t=(i,4)) tg tg w w'/\bF tg w' s i p B ag { g with ft:={ g.ft with of:=ez g.ft.of src dst } } lim:=by
 obtain⟨ht,⟨n,hn,hm⟩,hg⟩:=h.wp.Ac;refine (Jg B.oF n _ src dst w mI F4 hm (by omega) (fun x hx=>by rw[rV x hx];rfl) (fun x hx hne=>?_) (fun x hne=>?_)).mono fun e w' ⟨h1,h2,h3⟩=>⟨h1,Dh h F4 hlen hn h2 h3⟩
 ·cases hf:g.ft.of x with
  | none=>rw[hf] at hne;exact absurd rfl hne
  | some f=>exact hlen x f hx hf
 ·cases hf:g.ft.of x with
  | none=>rw[hf] at hne;exact absurd rfl hne
  | some f=>exact hg x f hf
theorem Mb {tg:aP}{w:World}{g:WG}{lim:Nat}(h:bF tg w s i p B ag g lim)(hl:lim<1099511627776){src dst:List ByteArray}(mI:Good src)(F4:Good dst)(rV:∀x,dst <+: x->g.ft.od x=none)(hlen:∀x f,src <+: x->g.ft.od x=some f->dst.length+(x.length-src.length)<=5):
  Calls prog 145 #[.map (some B.oD),.agg (av src),.agg (av dst)] w fun e w'=>e=.returned (.tuple #[])/\az (fun t=>t=(i,5)) tg tg w w'/\bF tg w' s i p B ag { g with ft:={ g.ft with od:=ez g.ft.od src dst } } lim:=by
 obtain⟨vD,hD⟩:=h.wp.tG;obtain⟨n,hn,hm⟩:=hD.map;refine (Jj B.oD n _ src dst w mI F4 hm (by omega) (fun x hx=>by rw[rV x hx];rfl) (fun x hx hne=>?_) (fun x hne=>?_)).mono fun e w' ⟨h1,h2,h3⟩=>⟨h1,F6 h hD F4 hlen hn h2 h3⟩
 ·cases hf:g.ft.od x with
  | none=>rw[hf] at hne;exact absurd rfl hne
  | some f=>exact hlen x f hx hf
 ·cases hf:g.ft.od x with
  | none=>rw[hf] at hne;exact absurd rfl hne
  | some f=>exact (hD.good x f hf).1
def o7 (tg:aP)(w w':World):Prop:=w.heap.size<=w'.heap.size/\∀b,b<w.heap.size->tg b=(0,0)->∀o,w'.cell? ⟨b,o,none⟩=w.cell? ⟨b,o,none⟩
theorem o7.mZ {tg aC:aP}{w w':World}(hi:2<=i)(m:az (Mine i) tg aC w w'):o7 tg w w':=⟨m.size,fun b hb ht o=>fC hi m hb ht o⟩
end
theorem NW {ag:List Ob}:∀(n m:Nat) {c:LT},n<=m->bu ag n c->bu ag m c
 | n,m,.file id,_,h=>by
  have:aH ag id=1:=by cases n <;> simpa [bu] using h
  cases m <;> simpa [bu] using this
 | n,m,.held f,_,_=>by cases m <;> simp[bu]
 | n,m,.dir id,sA,h=>by
  have h1:aH ag id=2/\cC ag id<=n:=by cases n <;> simpa [bu] using h
  have h2:cC ag id<=m:=by omega
  cases m <;> (rw[bu];exact⟨h1.1,h2⟩)
 | 0,m,.own es,_,h=>by
  rw[bu] at h
  subst h
  exact vB List.Pairwise.nil (by simp) (by simp)
 | n+1,0,.own es,sA,_=>by omega
 | n+1,m+1,.own es,sA,h=>by
  rw[bu] at h ⊢
  exact⟨h.1,h.2.1,fun x hx=>⟨(h.2.2 x hx).1,NW n m (by omega) (h.2.2 x hx).2⟩⟩
theorem El {ag:List Ob}(hS:Sound ag){n:Nat}{d:LT}{ks:Kids}(cz:bu ag n d)(hk:kids ag d=some ks):mY ag (ks.map cK):=by
 obtain⟨q1,q2,q3⟩:=cr hS cz hk;refine⟨by rw[mB];exact mQ _ q1,by rw[List.length_map];exact q2,fun e he=>?_⟩;obtain⟨x,hx,rfl⟩:=List.mem_map.1 he;obtain⟨h1,m,_,h3⟩:=q3 x hx;exact⟨h1,B6 h3 x.1⟩
section
variable {s i p:Nat}{B:WB}{ag:List Ob}
def Mc (B:WB)(w:World):Prop:=B.bt<w.heap.size/\w.cell? ⟨B.bt,7,none⟩=some (.map (some B.oF))/\w.cell? ⟨B.bt,8,none⟩=some (.map (some B.oD))
theorem bF.F7 {tg:aP}{w:World}{g:WG}{lim:Nat}(h:bF tg w s i p B ag g lim):Mc B w:=by
 obtain⟨h1,h2,h3,_⟩:=h.wp.tree.cells;exact⟨h1,h3,h2⟩
theorem adM {i:Nat}(t:Nat×Nat)(h:t=(i,4)):Mine i t:=.inr (by rw[h])
theorem adN {i:Nat}(t:Nat×Nat)(h:t=(i,5)):Mine i t:=.inr (by rw[h])
theorem F8 {tg:aP}{w:World}{g:WG}{lim:Nat}{t c df dt:LT}{kf kt:Kids}(h:bF tg w s i p B ag g lim)(hl:lim+700<1099511627776)(hF:Flat ag t g.ft)(cz:bu ag 5 t){qf qt:List ByteArray}{nf nt:ByteArray}(qo:Good (qf ++ [nf]))(F9:Good (qt ++ [nt]))
  (ha:t.at ag qf=some df)(hk:kids ag df=some kf)(hp:aS kf nf=some c)(hb:t.at ag qt=some dt)(jQ:kids ag dt=some kt)(Q7:gz ag t g.fs qf)(hwt:gz ag t g.fs qt)
  (OP:¬(qf ++ [nf]) <+: (qt ++ [nt]))(hroom:∀e,aS kt nt=some e->kids ag e=none\/kids ag e=some [])(jS:aS kt nt=none->kt.length<16\/qf=qt)(hh:((qt.length+1:Nat):Int)+iX ag 5 c<=5)(nm:ByteArray):
  Calls prog 138 #[.pointer (some ⟨B.bt,0,none⟩),.agg (av (qf ++ [nf]))] w fun e w1=>e=.returned (.tuple #[])/\o7 tg w w1/\
   Calls prog 135 #[.pointer (some ⟨B.bt,0,none⟩),.agg (av (qt ++ [nt])),.agg #[.string nm,.int .i64 c.kind,.int .i64 c.id]] w1 fun e w2=>e=.returned (.tuple #[])/\o7 tg w w2/\
    ∀W2,Below w2.heap.size w2 W2->o7 tg w W2/\Mc B W2/\Calls prog 144 #[.map (some B.oF),.agg (av (qf ++ [nf])),.agg (av (qt ++ [nt]))] W2 fun e w3=>e=.returned (.tuple #[])/\
     ∀W3,Below w3.heap.size w3 W3->o7 tg w W3/\Mc B W3/\Calls prog 145 #[.map (some B.oD),.agg (av (qf ++ [nf])),.agg (av (qt ++ [nt]))] W3 fun e w4=>e=.returned (.tuple #[])/\
      Left s i p B ag tg w w4 g g.fs (dK ag (fun ks=>eH ks nt c) qt (dK ag (fun ks=>cE ks nf) qf t)) (lim+300):=by
 have hS:=h.st.sound;have hi:=h.two;have adO:=(dN hS _ cz ha).2.1;have q1:=(cr hS adO hk).1;have pq:aW kf nf=true:=by rw[<-dR q1,hp];rfl
 have hne:qt ++ [nt]≠qf ++ [nf]:=fun e=>OP (e ▸ List.prefix_refl _);have hnt:=Qj ha hk hp hb jQ hne hroom;have Nn:¬(qf ++ [nf]) <+: qt:=fun hx=>OP (hx.trans (List.prefix_append _ _));have hac:t.at ag (qf ++ [nf])=some c:=by rw[bH,ha,Option.bind_some,bw,hk,Option.bind_some,hp,Option.bind_some,di]
 have vW:=(dN hS _ cz hac).2.1;have hlt:qt.length+1<=5:=by have:=F9.len;simp at this;omega
 have YA:bu ag (5-(qt.length+1)) c:=Ss hS 5 (by
  have h1:=vW;exact NW _ _ (Nat.sub_le _ _) h1) (by omega)
 have Yv:=jw hS hF cz ha hk Q7;have zX:=nv ha hk;have hE1:mY ag (qi ag t qf):=by rw[zX];exact El hS adO hk
 have aii:aW (qi ag t qf) nf=true:=by rw[zX,kJ];exact pq
 obtain⟨d1,k1,e1,e2,Zf,Ui⟩:=H7 hS hF cz ha hk hp hb jQ Q7 hwt OP hnt;obtain⟨x1,x2,x3⟩:=Qi q1 ha hk pq hb jQ Nn hne e1 e2;have z7:=wS hS cz ha hk nf;have W4:=(dN hS _ z7 e1).2.1;have tP:=nv e1 e2;have hE2:mY ag (qi ag (dK ag (fun ks=>cE ks nf) qf t) qt):=by rw[tP];exact El hS W4 e2
 have lJ:aW (qi ag (dK ag (fun ks=>cE ks nf) qf t) qt) nt=(aS kt nt).isSome:=by rw[tP,kJ,<-dR (cr hS W4 e2).1,x1]
 obtain⟨t1,t2,t3⟩:=vC Yv nf;obtain⟨p1,p2,p3,p4,p5⟩:=ym Ui nt (c.kind,c.id);have VG:lR ag (nt,c.kind,c.id):=B6 vW nt;have aas:∀r,t.at ag (qt++nt :: r)≠none->∃e,aS kt nt=some e/\r = []:=fun r hr=>by
  cases he:aS kt nt with
  | none=>rw[bH,hb,Option.bind_some,bw,jQ,Option.bind_some,he] at hr;exact absurd rfl hr
  | some e=>
   cases r with
   | nil=>exact⟨e,rfl,rfl⟩
   | cons m r=>
    have hae:t.at ag (qt ++ [nt])=some e:=by rw[bH,hb,Option.bind_some,bw,jQ,Option.bind_some,he,Option.bind_some,di]
    have:=rD hae (hroom e he) m r
    rw[List.append_assoc,List.singleton_append] at this;exact absurd this hr
 have rV:∀x,(qt ++ [nt]) <+: x->(mU ag g.fs (jU ag g.fs g.ft qf nf) qt nt (c.kind,c.id)).od x=none/\(mU ag g.fs (jU ag g.fs g.ft qf nf) qt nt (c.kind,c.id)).of x=none:=by
  rintro x ⟨r,rfl⟩;rw[List.append_assoc,List.singleton_append];have hnone:r ≠ []\/aS kt nt=none->t.at ag (qt++nt :: r)=none:=fun hr=>by
   cases hx:t.at ag (qt++nt :: r) with
   | none=>rfl
   | some y=>
    obtain⟨e,he1,he2⟩:=aas r (by rw[hx];simp);rcases hr with hr | hr
    ·exact absurd he2 hr
    ·rw[he1] at hr;cases hr
  have hq1:qt++nt :: r≠qt:=fun e=>by have:=congrArg List.length e;simp at this
  have hq2:¬(qt++nt :: r) <+: qt:=fun e=>by have:=e.length_le;simp at this;omega
  have C6:qt++nt :: r≠qf:=fun e=>hnt (by rw[<-e];exact⟨r ++ [nf],by simp⟩);have hf2:¬(qt++nt :: r) <+: qf:=fun e=>hnt ((List.IsPrefix.trans ⟨r,by simp⟩ e).trans (List.prefix_append _ _));by_cases hr:r = []
  ·subst hr
   rw[p4,p5];by_cases yP:aW (qi ag (dK ag (fun ks=>cE ks nf) qf t) qt) nt=true
   ·rw[aL yP,aL yP];exact⟨rfl,rfl⟩
   ·have hpn:aS kt nt=none:=by
     rw[lJ] at yP;cases hc:aS kt nt with
     | none=>rfl
     | some y=>rw[hc] at yP;exact absurd rfl yP
    rw[ay yP,ay yP,t2,ay C6,ay hf2,t3,hF.od,hF.of,hnone (.inr hpn)];exact⟨rfl,rfl⟩
  ·have hx:qt++nt :: r≠qt ++ [nt]:=fun e=>hr (by simpa using e)
   rw[p2 _ hx,p3 _ hx,ay hq1,ay hq2,t2,ay C6,ay hf2,t3,hF.od,hF.of,hnone (.inl hr)];exact⟨rfl,rfl⟩
 have Uj:∀x,(qf ++ [nf]) <+: x->(mU ag g.fs (jU ag g.fs g.ft qf nf) qt nt (c.kind,c.id)).od x=vt (t.at ag x)/\(mU ag g.fs (jU ag g.fs g.ft qf nf) qt nt (c.kind,c.id)).of x=KF (t.at ag x)/\(t.at ag x≠none->(qt ++ [nt]).length+(x.length-(qf ++ [nf]).length)<=5):=by
  rintro x ⟨r,rfl⟩;have hx:(qf ++ [nf])++r≠qt ++ [nt]:=fun e=>OP (by rw[<-e];exact List.prefix_append _ _)
  have hq1:(qf ++ [nf])++r≠qt:=fun e=>Nn (by rw[<-e];exact List.prefix_append _ _);have hq2:¬((qf ++ [nf])++r) <+: qt:=fun e=>Nn ((List.prefix_append _ _).trans e);have C6:(qf ++ [nf])++r≠qf:=fun e=>by have:=congrArg List.length e;simp at this;try omega
  have hf2:¬((qf ++ [nf])++r) <+: qf:=fun e=>by have:=e.length_le;simp at this;omega
  refine⟨by rw[p2 _ hx,ay hq1,ay hq2,t2,ay C6,ay hf2,hF.od],by rw[p3 _ hx,t3,hF.of],fun hr=>?_⟩;cases hy:t.at ag ((qf ++ [nf])++r) with
  | none=>exact absurd hy hr
  | some y=>
   rw[bH,hac,Option.bind_some] at hy
   have:=(dN hS _ YA hy).1
   simp;omega
 obtain⟨vD,hvD⟩:=h.wp.tG;refine (I9 h hvD (by omega) qo Yv hE1 aii).mono ?_;rintro e w1 ⟨rfl,uA,vD1,m1,hW1,Yr⟩;refine⟨rfl,o7.mZ hi m1,?_⟩;have hput:Calls prog 135 #[.pointer (some ⟨B.bt,0,none⟩),.agg (av (qt ++ [nt])),.agg #[.string nm,.int .i64 c.kind,.int .i64 c.id]] w1 fun en w'=>en=.returned (.tuple #[])/\∃aC zD,az (Mine i) uA aC w1 w'/\
   bF aC w' s i p B ag { g with ft:=mU ag g.fs (jU ag g.fs g.ft qf nf) qt nt (c.kind,c.id) } (lim+150+150)/\cG aC w' i B (mU ag g.fs (jU ag g.fs g.ft qf nf) qt nt (c.kind,c.id)).od (lim+150+150) zD:=by
  cases yP:aW (qi ag (dK ag (fun ks=>cE ks nf) qf t) qt) nt with
  | true=>exact TY hW1 Yr (by omega) F9 Ui hE2 yP nm c.kind c.id VG
  | false=>
   refine NS hW1 Yr (by omega) F9 Ui hE2 yP ?_ nm c.kind c.id VG;rw[tP,List.length_map];have hpn:aS kt nt=none:=by
    rw[lJ] at yP;cases hc:aS kt nt with
    | none=>rfl
    | some y=>rw[hc] at yP;cases yP
   have aik:=(cr hS (dN hS _ cz hb).2.1 jQ).2.1;rcases jS hpn with hx | hx
   ·omega
   ·have:=x3 hx;omega
 refine hput.mono ?_;rintro e w2 ⟨rfl,WN,vD2,m2,hW2,Yo⟩;have m12:=m1.trans m2;refine⟨rfl,o7.mZ hi m12,fun W2 hb2=>?_⟩;have hWB:=hW2.below hb2;have adP:=m12.trans (az.aM hb2);refine⟨o7.mZ hi adP,hWB.F7,?_⟩;refine (Ma hWB (by omega) qo F9 (fun x hx=>(rV x hx).2) (fun x f hx hf=>?_)).mono ?_
 ·obtain⟨_,a2,a3⟩:=Uj x hx
  have hf':(mU ag g.fs (jU ag g.fs g.ft qf nf) qt nt (c.kind,c.id)).of x=some f:=hf;rw[a2] at hf';exact a3 (fun e=>by rw[e] at hf';cases hf')
 ·rintro e w3 ⟨rfl,m3,hW3⟩
  refine⟨rfl,fun W3 hb3=>?_⟩;have hWC:=hW3.below hb3;have adQ:=(adP.trans (m3.mono adM)).trans (az.aM hb3);refine⟨o7.mZ hi adQ,hWC.F7,?_⟩;refine (Mb hWC (by omega) qo F9 (fun x hx=>(rV x hx).1) (fun x f hx hf=>?_)).mono ?_
  ·obtain⟨a1,_,a3⟩:=Uj x hx
   have hf':(mU ag g.fs (jU ag g.fs g.ft qf nf) qt nt (c.kind,c.id)).od x=some f:=hf;rw[a1] at hf';exact a3 (fun e=>by rw[e] at hf';cases hf')
  ·rintro e w4 ⟨rfl,m4,Bq⟩
   refine⟨rfl,WN,_,adQ.trans (m4.mono adN),Bq,Zf,?_⟩;exact TZ hS z7 e1 e2 (F9.val nt (by simp)) (by omega) YA (by
    rw[<-dR (cr hS W4 e2).1,x1];cases hc:aS kt nt with
    | some y=>exact .inl rfl
    | none=>
     right
     have aik:=(cr hS (dN hS _ cz hb).2.1 jQ).2.1;rcases jS hc with hx | hx
     ·omega
     ·have:=x3 hx;omega)
end
theorem Jk {ag:List Ob}{fs:FS}{e c:LT}(h:(jh ag fs e c).2=0):fs.Next (jh ag fs e c).1/\(kids ag e=none\/kids ag e=some []):=by
 unfold jh at h ⊢;by_cases h1:e.kind=2/\c.kind=1
 ·rw[aL h1] at h;cases h
 ·rw[ay h1] at h ⊢
  by_cases h2:e.kind=1/\c.kind=2
  ·rw[aL h2] at h;cases h
  ·rw[ay h2] at h ⊢
   exact zH h
theorem Qk {ag:List Ob}{fs:FS}{b:Bool}{ks:Kids}{n:ByteArray}{c:LT}(h:(jR ag fs b ks n c).2=0):fs.Next (jR ag fs b ks n c).1/\(∀e,aS ks n=some e->kids ag e=none\/kids ag e=some [])/\(aS ks n=none->ks.length<16\/b=true):=by
 unfold jR at h ⊢;cases hp:aS ks n with
 | some e=>
  rw[hp] at h;simp only at h ⊢;obtain⟨h1,h2⟩:=Jk h;exact⟨h1,fun e' he=>by cases he;exact h2,fun hn=>by cases hn⟩
 | none=>
  rw[hp] at h;simp only at h ⊢;by_cases jS:16<=ks.length/\b=false
  ·rw[aL jS] at h;cases h
  ·rw[ay jS]
   refine⟨FS.Next.refl _,fun e he=>(by cases he),fun _=>?_⟩;by_cases hl:ks.length<16
   ·exact .inl hl
   ·right
    cases b with
    | true=>rfl
    | false=>exact absurd ⟨by omega,rfl⟩ jS
section
variable {s i p:Nat}{B:WB}{ag:List Ob}
theorem Uk {tg:aP}{w:World}{g:WG}{lim:Nat}{t c d:LT}(h:bF tg w s i p B ag g lim)(hl:lim+10<1099511627776)(hF:Flat ag t g.ft)(cz:bu ag 5 t){rf rt:List ByteArray}{nf nt:ByteArray}(qo:Good (rf.reverse ++ [nf]))(F9:Good (rt.reverse ++ [nt])){ks:Kids}(ha:t.at ag rt.reverse=some d)(hk:kids ag d=some ks){v:Value}(hs:tJ tg w i v (ks.map cK))(nx:ByteArray):
  Calls prog 141 #[.pointer (some ⟨B.bt,0,none⟩),.agg (av (rf.reverse ++ [nf])),.agg (av (rt.reverse ++ [nt])),.agg #[.string nx,.int .i64 c.kind,.int .i64 c.id],v] w fun en w'=>en=.returned (.int .i64 (jR ag g.fs (decide (rf=rt)) ks nt c).2)/\jX s i p B ag tg w w' { g with fs:=(jR ag g.fs (decide (rf=rt)) ks nt c).1 } (lim+1):=by
 unfold jR;cases hp:aS ks nt with
 | some e=>exact LR h hl hF cz qo F9 ha hk hp hs nx
 | none=>
  have hc:(16<=ks.length/\decide (rf=rt)=false)↔(16<=ks.length/\rf.reverse≠rt.reverse):=by
   simp[List.reverse_inj]
  refine (Qc h hF cz qo F9 ha hk hp hs nx c.kind c.id).mono fun en w' ⟨h1,h2⟩=>?_;simp only[hc];by_cases jS:16<=ks.length/\rf.reverse≠rt.reverse
  ·rw[aL jS] at h1 ⊢;exact⟨h1,h2.mono (Nat.le_succ _)⟩
  ·rw[ay jS] at h1 ⊢;exact⟨h1,h2.mono (Nat.le_succ _)⟩
end
def jO (w':World)(a b:Nat)(s0 s1 s2 s3 s4 d0 d1 d2 d3 d4:ByteArray):Prop:=w'.cell? ⟨a,0,none⟩=some (.string s0)/\w'.cell? ⟨a,1,none⟩=some (.string s1)/\w'.cell? ⟨a,2,none⟩=some (.string s2)/\w'.cell? ⟨a,3,none⟩=some (.string s3)/\w'.cell? ⟨a,4,none⟩=some (.string s4)/\w'.cell? ⟨b,0,none⟩=some (.string d0)/\w'.cell? ⟨b,1,none⟩=some (.string d1)/\w'.cell? ⟨b,2,none⟩=some (.string d2)/\w'.cell? ⟨b,3,none⟩=some (.string d3)/\w'.cell? ⟨b,4,none⟩=some (.string d4)
theorem jO.keep {w w':World}{a b:Nat}{s0 s1 s2 s3 s4 d0 d1 d2 d3 d4:ByteArray}(h:jO w a b s0 s1 s2 s3 s4 d0 d1 d2 d3 d4)(ha:∀o,w'.cell? ⟨a,o,none⟩=w.cell? ⟨a,o,none⟩)(hb:∀o,w'.cell? ⟨b,o,none⟩=w.cell? ⟨b,o,none⟩):jO w' a b s0 s1 s2 s3 s4 d0 d1 d2 d3 d4:=by
 unfold jO at h ⊢;simp only[ha,hb];exact h
theorem jO.below {w w':World}{a b:Nat}{s0 s1 s2 s3 s4 d0 d1 d2 d3 d4:ByteArray}(h:jO w a b s0 s1 s2 s3 s4 d0 d1 d2 d3 d4)(hw:Below w.heap.size w w')(ha:a<w.heap.size)(hb:b<w.heap.size):jO w' a b s0 s1 s2 s3 s4 d0 d1 d2 d3 d4:=
 h.keep (fun o=>(aR hw).1 a o ha) (fun o=>(aR hw).1 b o hb)
theorem Em (w:World)(s0 s1 s2 s3 s4 d0 d1 d2 d3 d4:ByteArray):jO ((w.alloc (.cells #[.string s0,.string s1,.string s2,.string s3,.string s4] 147)).alloc (.cells #[.string d0,.string d1,.string d2,.string d3,.string d4] 147)).drew w.heap.size (w.heap.size+1) s0 s1 s2 s3 s4 d0 d1 d2 d3 d4/\w.heap.size<((w.alloc (.cells #[.string s0,.string s1,.string s2,.string s3,.string s4] 147)).alloc (.cells #[.string d0,.string d1,.string d2,.string d3,.string d4] 147)).drew.heap.size/\w.heap.size+1<((w.alloc (.cells #[.string s0,.string s1,.string s2,.string s3,.string s4] 147)).alloc (.cells #[.string d0,.string d1,.string d2,.string d3,.string d4] 147)).drew.heap.size/\Below w.heap.size w ((w.alloc (.cells #[.string s0,.string s1,.string s2,.string s3,.string s4] 147)).alloc (.cells #[.string d0,.string d1,.string d2,.string d3,.string d4] 147)).drew:=by
 refine⟨?_,by simp;omega,by simp,aB (((Below.refl _ _).alloc (bA _) _).alloc (by simp) _)⟩;have h1:=heap_alloc2_old w (.cells #[.string s0,.string s1,.string s2,.string s3,.string s4] 147) (.cells #[.string d0,.string d1,.string d2,.string d3,.string d4] 147);have h2:=heap_alloc2_new w (.cells #[.string s0,.string s1,.string s2,.string s3,.string s4] 147) (.cells #[.string d0,.string d1,.string d2,.string d3,.string d4] 147);obtain⟨_,a0,a1,a2,a3,a4,_⟩:=yN h1;obtain⟨_,b0,b1,b2,b3,b4,_⟩:=yN h2;exact⟨a0,a1,a2,a3,a4,b0,b1,b2,b3,b4⟩
theorem jO.kept {tg:aP}{w w':World}{a b:Nat}{s0 s1 s2 s3 s4 d0 d1 d2 d3 d4:ByteArray}(h:jO w a b s0 s1 s2 s3 s4 d0 d1 d2 d3 d4)(k:o7 tg w w')(ha:a<w.heap.size)(hb:b<w.heap.size)(ta:tg a=(0,0))(tb:tg b=(0,0)):jO w' a b s0 s1 s2 s3 s4 d0 d1 d2 d3 d4:=
 h.keep (k.2 a ha ta) (k.2 b hb tb)
theorem jO.and {w':World}{a b:Nat}{s0 s1 s2 s3 s4 d0 d1 d2 d3 d4:ByteArray}(h:jO w' a b s0 s1 s2 s3 s4 d0 d1 d2 d3 d4){q:Prop}(hq:q):w'.cell? ⟨a,0,none⟩=some (.string s0)/\w'.cell? ⟨a,1,none⟩=some (.string s1)/\w'.cell? ⟨a,2,none⟩=some (.string s2)/\w'.cell? ⟨a,3,none⟩=some (.string s3)/\w'.cell? ⟨a,4,none⟩=some (.string s4)/\w'.cell? ⟨b,0,none⟩=some (.string d0)/\w'.cell? ⟨b,1,none⟩=some (.string d1)/\w'.cell? ⟨b,2,none⟩=some (.string d2)/\w'.cell? ⟨b,3,none⟩=some (.string d3)/\w'.cell? ⟨b,4,none⟩=some (.string d4)/\q:=by
 obtain⟨h0,h1,h2,h3,h4,h5,h6,h7,h8,h9⟩:=h;exact⟨h0,h1,h2,h3,h4,h5,h6,h7,h8,h9,hq⟩
def tV (w':World)(a:Nat)(n:ByteArray)(k id:Int):Prop:=w'.cell? ⟨a,0,none⟩=some (.string n)/\w'.cell? ⟨a,1,none⟩=some (.int .i64 k)/\w'.cell? ⟨a,2,none⟩=some (.int .i64 id)
theorem tV.keep {w w':World}{a:Nat}{n:ByteArray}{k id:Int}(h:tV w a n k id)(ha:∀o,w'.cell? ⟨a,o,none⟩=w.cell? ⟨a,o,none⟩):tV w' a n k id:=by
 unfold tV at h ⊢;simp only[ha];exact h
theorem tV.of_block {w:World}{b:Nat}{n:ByteArray}{k id:Int}{t:TypeId}(h:w.heap[b]? = some (.cells #[.string n,.int .i64 k,.int .i64 id] t (0,0))):tV w b n k id:=
 ⟨by simp[World.cell?,h],by simp[World.cell?,h],by simp[World.cell?,h]⟩
theorem Ql (w:World)(n:ByteArray)(k id:Int):tV (w.alloc (.cells #[.string n,.int .i64 k,.int .i64 id] 96)) w.heap.size n k id:=.of_block (heap_alloc_new w _)
section
variable {s i p:Nat}{B:WB}{ag:List Ob}
theorem Jl {tg:aP}{w9 Qm:World}{g:WG}{fs':FS}{t':LT}{lim a b:Nat}{s0 s1 s2 s3 s4 d0 d1 d2 d3 d4:ByteArray}(h:jO w9 a b s0 s1 s2 s3 s4 d0 d1 d2 d3 d4)(ha:a<w9.heap.size)(hb:b<w9.heap.size)(ta:tg a=(0,0))(tb:tg b=(0,0))(hi:2<=i)(hL:Left s i p B ag tg w9 Qm g fs' t' lim):
  Qm.cell? ⟨a,0,none⟩=some (.string s0)/\Qm.cell? ⟨a,1,none⟩=some (.string s1)/\Qm.cell? ⟨a,2,none⟩=some (.string s2)/\Qm.cell? ⟨a,3,none⟩=some (.string s3)/\Qm.cell? ⟨a,4,none⟩=some (.string s4)/\Qm.cell? ⟨b,0,none⟩=some (.string d0)/\Qm.cell? ⟨b,1,none⟩=some (.string d1)/\Qm.cell? ⟨b,2,none⟩=some (.string d2)/\Qm.cell? ⟨b,3,none⟩=some (.string d3)/\Qm.cell? ⟨b,4,none⟩=some (.string d4)/\Qm.cell? ⟨B.bt,8,none⟩=some (.map (some B.oD)):=by
 obtain⟨tgL,ftL,mL,hWL,_,_⟩:=hL;exact (jO.kept h (o7.mZ hi mL) ha hb ta tb).and hWL.F7.2.2
theorem Jm {tg:aP}{w:World}{g:WG}{lim:Nat}{t:LT}(h:bF tg w s i p B ag g lim)(hl:lim+1000<1099511627776)(hF:Flat ag t g.ft)(cz:bu ag 5 t){nf nt:ByteArray}{rf rt:List ByteArray}(qo:Good (rf.reverse ++ [nf]))(F9:Good (rt.reverse ++ [nt])):
  Calls prog 72 #[.pointer (some ⟨B.bt,0,none⟩),.agg (av (rf.reverse ++ [nf])),.agg (av (rt.reverse ++ [nt]))] w fun en w'=>en=.returned (.int .i64 (eA ag t g.fs (nf :: rf) (nt :: rt)).2.1)/\Left s i p B ag tg w w' g (eA ag t g.fs (nf :: rf) (nt :: rt)).1 (eA ag t g.fs (nf :: rf) (nt :: rt)).2.2 (lim+400):=by
 have hS:=h.st.sound;have hi:=h.two;have hrf:rf.length<=4:=by have:=qo.len;simp at this;omega
 have hrt:rt.length<=4:=by have:=F9.len;simp at this;omega
 have cV:=fun W (hb:Below w.heap.size w W)=>tM (s:=s) (i:=i) (p:=p) (B:=B) (ag:=ag) (nf :: rf) tg W g lim (h.below hb) (by omega) (by rw[List.reverse_cons];exact qo);rw[List.reverse_cons] at cV;obtain⟨f1,f2,f3⟩:=qy hS hF cz g.fs (nf :: rf);simp only[f1,f2] at cV;have gB:eA ag t g.fs (nf :: rf) (nt :: rt)=if (aO ag t g.fs (nf :: rf)).2.1≠0 then ((aO ag t g.fs (nf :: rf)).1,(aO ag t g.fs (nf :: rf)).2.1,t) else if (nf :: rf).reverse <+: (nt :: rt).reverse/\nf :: rf≠nt :: rt then ((aO ag t g.fs (nf :: rf)).1,9,t) else
   if (cA ag t (aO ag t g.fs (nf :: rf)).1 rt).2.1≠0\/nf :: rf=nt :: rt then ((cA ag t (aO ag t g.fs (nf :: rf)).1 rt).1,(cA ag t (aO ag t g.fs (nf :: rf)).1 rt).2.1,t) else
   if (jR ag (cA ag t (aO ag t g.fs (nf :: rf)).1 rt).1 (decide (rf=rt)) (cA ag t (aO ag t g.fs (nf :: rf)).1 rt).2.2 nt (aO ag t g.fs (nf :: rf)).2.2).2≠0 then ((jR ag (cA ag t (aO ag t g.fs (nf :: rf)).1 rt).1 (decide (rf=rt)) (cA ag t (aO ag t g.fs (nf :: rf)).1 rt).2.2 nt (aO ag t g.fs (nf :: rf)).2.2).1,(jR ag (cA ag t (aO ag t g.fs (nf :: rf)).1 rt).1 (decide (rf=rt)) (cA ag t (aO ag t g.fs (nf :: rf)).1 rt).2.2 nt (aO ag t g.fs (nf :: rf)).2.2).2,t) else
   if 5<((rt.length+1:Nat):Int)+iX ag 5 (aO ag t g.fs (nf :: rf)).2.2 then ((jR ag (cA ag t (aO ag t g.fs (nf :: rf)).1 rt).1 (decide (rf=rt)) (cA ag t (aO ag t g.fs (nf :: rf)).1 rt).2.2 nt (aO ag t g.fs (nf :: rf)).2.2).1,11,t) else
   ((jR ag (cA ag t (aO ag t g.fs (nf :: rf)).1 rt).1 (decide (rf=rt)) (cA ag t (aO ag t g.fs (nf :: rf)).1 rt).2.2 nt (aO ag t g.fs (nf :: rf)).2.2).1,0,dK ag (fun ks=>eH ks nt (aO ag t g.fs (nf :: rf)).2.2) rt.reverse (dK ag (fun ks=>cE ks nf) rf.reverse t)):=rfl
 generalize eA ag t g.fs (nf :: rf) (nt :: rt)=M at gB ⊢;have hfw:∀{fs':FS} {c:LT},aO ag t g.fs (nf :: rf)=(fs',0,c)->_:=fun {_ _} h=>xz h
 generalize aO ag t g.fs (nf :: rf)=a at cV f3 gB hfw;obtain⟨wu,er,c⟩:=a;simp only at cV f3 gB;generalize findF ag g.ft g.fs (nf :: rf)=af at cV f3;obtain⟨_,_,en,ek,eid⟩:=af;simp only[List.headD_cons,Prod.mk.injEq] at cV f3;have vM:Hid _:=gB;have Ah:∀W,(Op.equalIn 10000 147 (bn (rf.reverse ++ [nf])) (bn [])).run prog W=.ok false W:=fun W=>by
  have:=fB qo Good.nil W
  rw[dY (by simp)] at this;exact this
 have vU:∀W,(Op.equalIn 10000 147 (bn (rt.reverse ++ [nt])) (bn [])).run prog W=.ok false W:=fun W=>by
  have:=fB F9 Good.nil W
  rw[dY (by simp)] at this;exact this
 have Xg:∀W,(Op.equalIn 10000 147 (bn (rf.reverse ++ [nf])) (bn (rt.reverse ++ [nt]))).run prog W=.ok (decide (rf.reverse ++ [nf]=rt.reverse ++ [nt])) W:=fun W=>fB qo F9 W;have bB:=fun W=>eM W;have xF:=fun W=>yO (rt.reverse ++ [nt]) (rf.reverse ++ [nf]) F9 qo W;have gq:=fun W=>iT (rt.reverse ++ [nt]) F9 W;rw[List.dropLast_concat] at gq;have Xh:=fun W=>l8 (rt.reverse ++ [nt]) F9.val F9.len W;obtain⟨s0,s1,s2,s3,s4,hP⟩:∃s0 s1 s2 s3 s4,av (rf.reverse ++ [nf]) = #[.string s0,.string s1,.string s2,.string s3,.string s4]:=⟨_,_,_,_,_,rfl⟩;obtain⟨d0,d1,d2,d3,d4,hQ⟩:∃s0 s1 s2 s3 s4,av (rt.reverse ++ [nt]) = #[.string s0,.string s1,.string s2,.string s3,.string s4]:=⟨_,_,_,_,_,rfl⟩;obtain⟨r0,r1,r2,r3,r4,hR⟩:∃s0 s1 s2 s3 s4,av rt.reverse = #[.string s0,.string s1,.string s2,.string s3,.string s4]:=⟨_,_,_,_,_,rfl⟩;unfold bn at bB Ah vU Xg xF gq Xh;simp only[hP,hQ,hR] at Ah vU Xg cV xF gq Xh;rw[hP,hQ];unfold av at bB Ah vU;simp only[List.getD_nil] at bB Ah vU;have HP:Hid _:=And.intro hP (And.intro hQ hR);have H0:Hid _:=h;have z8:Hid _:=hF;have yL:Hid _:=cz;have HS:Hid (Sound ag):=hS;have T6:Hid _:=cV;have HFW:Hid (∀{aae:FS} {c':LT},(wu,er,c)=(aae,0,c')->_):=hfw;have HF3:Hid _:=f3;have NT:Hid _:=And.intro qo F9;have HE3:Hid _:=Xg;have Jh:Hid _:=xF;have aim:Hid _:=gq;have ain:Hid _:=Xh;obtain⟨Ej,z0,z1,bz0⟩:=Em w s0 s1 s2 s3 s4 d0 d1 d2 d3 d4;have bz:=Below.refl ((w.alloc (.cells #[.string s0,.string s1,.string s2,.string s3,.string s4] 147)).alloc (.cells #[.string d0,.string d1,.string d2,.string d3,.string d4] 147)).drew.heap.size ((w.alloc (.cells #[.string s0,.string s1,.string s2,.string s3,.string s4] 147)).alloc (.cells #[.string d0,.string d1,.string d2,.string d3,.string d4] 147)).drew;have HZ:Hid _:=And.intro z0 (And.intro z1 bz0);clear h hF cz hS hP hQ hR cV hfw qo F9 gB f1 f2 f3 Xg xF gq Xh z0 z1 bz0;go_enter func72,ntmps72;go_wp2
 go_region_held3 (fun w'=>w'.cell? ⟨w.heap.size,0,none⟩=some (.string s0)/\w'.cell? ⟨w.heap.size,1,none⟩=some (.string s1)/\w'.cell? ⟨w.heap.size,2,none⟩=some (.string s2)/\w'.cell? ⟨w.heap.size,3,none⟩=some (.string s3)/\w'.cell? ⟨w.heap.size,4,none⟩=some (.string s4)/\w'.cell? ⟨w.heap.size+1,0,none⟩=some (.string d0)/\w'.cell? ⟨w.heap.size+1,1,none⟩=some (.string d1)/\w'.cell? ⟨w.heap.size+1,2,none⟩=some (.string d2)/\w'.cell? ⟨w.heap.size+1,3,none⟩=some (.string d3)/\w'.cell? ⟨w.heap.size+1,4,none⟩=some (.string d4)) (first | exact Ej | exact hS1) (first | (go_at_call 75;refine (bB _).mono ?_;rintro e w1 ⟨rfl,hb1⟩;replace bz:=aq bz hb1;have hS1:=Ej.below bz HZ.out.1 HZ.out.2.1))
 have b1:Below w.heap.size w w1:=aq HZ.out.2.2 bz;have hz1:w.heap.size+1<w1.heap.size:=cv HZ.out.2.1 bz.size;have hz0:w.heap.size<w1.heap.size:=Nat.lt_of_succ_lt hz1;have t0:tg w.heap.size=(0,0):=H0.out.st.fresh _ (bA _);have t1:tg (w.heap.size+1)=(0,0):=H0.out.st.fresh _ (Nat.le_succ _);have Vv:Hid _:=hS1;obtain⟨a0,a1,a2,a3,a4,c0,c1,c2,c3,c4⟩:=hS1;clear Ej bz bB Ah vU;go_wp2_with fail;refine Calls.mono (T6.out w1 b1) ?_;rintro e w3 ⟨rfl,RM⟩;obtain⟨Ae,m3,hW3⟩:=RM.out;have k3:=o7.mZ hi m3;have Vy:Hid _:=jO.kept Vv.out k3 hz0 hz1 t0 t1;have hz3:w.heap.size+1<w3.heap.size:=cv hz1 k3.1;have adS:w.heap.size<w3.heap.size:=Nat.lt_of_succ_lt hz3;have t03:Ae w.heap.size=(0,0):=(m3.tags _ hz0).trans t0;have t13:Ae (w.heap.size+1)=(0,0):=(m3.tags _ hz1).trans t1;have zF:Hid _:=bY b1 m3;have AA:Hid _:=hW3;clear RM m3 hW3 k3 a0 a1 a2 a3 a4 c0 c1 c2 c3 c4;obtain⟨a0,a1,a2,a3,a4,c0,c1,c2,c3,c4⟩:=Vy.out;by_cases her:er=0
 ·subst her
  obtain⟨⟨rfl,rfl,rfl⟩,hat⟩:=HF3.out rfl;obtain⟨x1,x2,x3,df,kf,x4,x5,x6⟩:=HFW.out rfl;have HX:Hid _:=And.intro x1 (And.intro x3 (And.intro x4 (And.intro x5 x6)));clear hat x1 x2 x3 x4 x5 x6;obtain⟨kc,Nz⟩:∃kc,kc=c.kind:=⟨_,rfl⟩;obtain⟨ic,hic⟩:∃ic,ic=c.id:=⟨_,rfl⟩;rw[<-Nz,<-hic];have HKI:Hid _:=And.intro Nz hic;clear Nz hic;have hbe:=Jh.out;clear Jh;by_cases lV:rf.reverse ++ [en] <+: rt.reverse ++ [nt]/\rt.reverse ++ [nt]≠rf.reverse ++ [en]
  ·rw[decide_eq_true lV] at hbe
   go_wp2_with (go_at_call 140;refine Calls.mono (hbe _) ?_;rintro e w4 ⟨rfl,hb4⟩);go_ret;have gB:=vM.out;rw[ay (by simp),aL (by rw[List.reverse_cons,List.reverse_cons];exact⟨lV.1,fun e=>lV.2 (by rw[List.cons.injEq] at e;rw[e.1,e.2])⟩)] at gB;subst gB;have Md:=aq ((Below.refl w3.heap.size w3).alloc (bA _) _) hb4;exact⟨rfl,iz (zF.out.trans (az.aM Md)) ((AA.out.below Md).mono (by simp;omega)) z8.out yL.out⟩
  ·rw[dY lV] at hbe
   have adU:Below w3.heap.size w3 (w3.alloc (.cells #[.string en,.int .i64 kc,.int .i64 ic] 96)):=(Below.refl w3.heap.size w3).alloc (bA _) _;have hzx:w3.heap.size<(w3.alloc (.cells #[.string en,.int .i64 kc,.int .i64 ic] 96)).heap.size:=by simp
   have aip:Hid _:=Ql w3 en kc ic;go_wp2_with (first
    | (go_at_call 140;refine Calls.mono (hbe _) ?_;rintro e w4 ⟨rfl,hb4⟩;have Md:=aq adU hb4;have HS4:Hid _:=jO.below Vy.out Md adS hz3;obtain⟨a0',a1',a2',a3',a4',c0',c1',c2',c3',c4'⟩:=HS4.out;have uD:w.heap.size+1<w4.heap.size:=cv hz3 Md.size;have aoh:w3.heap.size<w4.heap.size:=cv hzx hb4.size)
    | (go_at_call 132;refine Calls.mono (aim.out _) ?_;rintro e w5 ⟨rfl,j3⟩;have Ul:=aq Md j3))
   have hx5:=aq hb4 j3;have HS5:Hid _:=jO.below Vy.out Ul adS hz3;have HE5:Hid _:=tV.keep aip.out (fun o=>(aR hx5).1 w3.heap.size o hzx);have I4:w.heap.size+1<w5.heap.size:=cv hz3 Ul.size;have adV:w.heap.size<w5.heap.size:=Nat.lt_of_succ_lt I4;have aat:w3.heap.size<w5.heap.size:=cv hzx hx5.size;have t53:Ae w3.heap.size=(0,0):=AA.out.st.fresh _ (bA _);have dx:=tN (s:=s) (i:=i) (p:=p) (B:=B) (ag:=ag) rt Ae w5 { g with fs:=wu } _ (AA.out.below Ul) (by simp;omega) (by have:=NT.out.2.dropLast;rwa [List.dropLast_concat] at this);rw[lY HS.out z8.out yL.out wu rt] at dx;rw[HP.out.2.2] at dx;have gB:=vM.out;rw[ay (by simp),ay (by rw[List.reverse_cons,List.reverse_cons];exact fun hh=>lV ⟨hh.1,fun e=>hh.2 (by have e':=List.append_inj_left' e rfl;have e'':=List.append_inj_right' e rfl;rw[List.reverse_inj] at e';rw[e',List.cons.inj e''|>.1])⟩)] at gB;have B5:=rC (ag:=ag) (t:=t) (fs:=wu) (r:=rt);generalize cA ag t wu rt=lr at dx gB B5;obtain⟨Su,er2,ks⟩:=lr;simp only at dx gB B5;clear vM;have vM:Hid _:=gB;have T5:Hid _:=dx;have HLK:Hid _:=B5;have VE:Hid _:=zF.out.trans (az.aM Ul);clear gB dx B5 a0 a1 a2 a3 a4 c0 c1 c2 c3 c4 a0' a1' a2' a3' a4' c0' c1' c2' c3' c4' hb4 j3 hx5 Md adU hbe Ul;refine Calls.mono T5.out ?_;rintro e w6 ⟨v,rfl,tg6,m6,Da,hs6⟩;have m6':=m6.mono (fun _ h=>h.mine);have k6:=o7.mZ hi m6';have HS6:Hid _:=jO.kept HS5.out k6 adV I4 t03 t13;have HE6:Hid _:=tV.keep HE5.out (k6.2 _ aat t53);have Tz:w.heap.size+1<w6.heap.size:=cv I4 k6.1;have adW:w.heap.size<w6.heap.size:=Nat.lt_of_succ_lt Tz;have aau:w3.heap.size<w6.heap.size:=cv aat k6.1;have t06:tg6 w.heap.size=(0,0):=(m6.tags _ adV).trans t03;have t16:tg6 (w.heap.size+1)=(0,0):=(m6.tags _ I4).trans t13;have te6:tg6 w3.heap.size=(0,0):=(m6.tags _ aat).trans t53;have HM6:Hid _:=VE.out.trans m6';have Z2:Hid _:=Da;have HSL:Hid (tJ tg6 w6 i v (ks.map cK)):=hs6;obtain⟨la,lc,rfl⟩:=hs6.len;clear m6 m6' k6 Da hs6;obtain⟨a0,a1,a2,a3,a4,c0,c1,c2,c3,c4⟩:=HS6.out;obtain⟨x0,x1,x2⟩:=HE6.out;by_cases LP:er2=0
   ·subst LP
    obtain⟨⟨dt,hat,jQ⟩,adX,adY⟩:=HLK.out rfl;have h3:=HE3.out;clear HE3;by_cases heq:rf.reverse ++ [en]=rt.reverse ++ [nt]
    ·rw[decide_eq_true heq] at h3
     go_wp2;go_ret;have gB:=vM.out;have e':=List.append_inj_left' heq rfl;have e'':=List.append_inj_right' heq rfl;rw[List.reverse_inj] at e';rw[aL (.inr (by rw[e',(List.cons.inj e'').1]))] at gB;subst gB;exact⟨rfl,iz HM6.out (Z2.out.mono (by simp;omega)) z8.out yL.out⟩
    ·rw[dY heq] at h3
     have hroom:=Uk (c:=c) Z2.out (by simp;omega) z8.out yL.out NT.out.1 NT.out.2 hat jQ HSL.out en;rw[HP.out.1,HP.out.2.1,<-HKI.out.1,<-HKI.out.2,List.length_map] at hroom;have gB:=vM.out;rw[ay (by simp;exact fun e1 e2=>heq (by rw[e1,e2]))] at gB;have hrn:=Qk (ag:=ag) (fs:=Su) (b:=decide (rf=rt)) (ks:=ks) (n:=nt) (c:=c);have Ci:=hroom;clear hroom;simp only at Ci;generalize jR ag Su (decide (rf=rt)) ks nt c=V at Ci gB hrn;obtain⟨fs3,er3⟩:=V;simp only at Ci gB hrn;clear vM;have vM:Hid _:=gB;have ad0:Hid _:=Ci;have YB:Hid _:=hrn;have HT:Hid _:=And.intro hat (And.intro jQ (And.intro adX adY));clear gB Ci hrn hat jQ adX adY;go_wp2_with fail;refine Calls.mono ad0.out ?_;rintro e w7 ⟨rfl,hd7⟩;obtain⟨Af,m7,Ja⟩:=hd7.out;have k7:=o7.mZ hi m7;have HS7:Hid _:=jO.kept HS6.out k7 adW Tz t06 t16;have HE7:Hid _:=tV.keep HE6.out (k7.2 _ aau te6);have TA:w.heap.size+1<w7.heap.size:=cv Tz k7.1;have Um:w.heap.size<w7.heap.size:=Nat.lt_of_succ_lt TA;have Qn:w3.heap.size<w7.heap.size:=cv aau k7.1;have t07:Af w.heap.size=(0,0):=(m7.tags _ adW).trans t06;have t17:Af (w.heap.size+1)=(0,0):=(m7.tags _ Tz).trans t16;have te7:Af w3.heap.size=(0,0):=(m7.tags _ aau).trans te6;have P7:Hid _:=HM6.out.trans m7;have LJ:Hid _:=Ja;clear hd7 m7 Ja k7 a0 a1 a2 a3 a4 c0 c1 c2 c3 c4 x0 x1 x2 h3;by_cases aax:er3=0
     ·subst aax
      obtain⟨aay,vT,jS⟩:=YB.out rfl;have vW:=(dN HS.out _ yL.out HX.out.1).2.1;have RJ:=uG LJ.out.st.dn 5 c;have hst:=vV (5-(rf.reverse ++ [en]).length) 5 c (Nat.sub_le _ _) vW;have YC:(rf.reverse ++ [en]).length+(5-(rf.reverse ++ [en]).length)<=5:=by have:=NT.out.1.len;omega
      have Xi:=L8 LJ.out z8.out (5-(rf.reverse ++ [en]).length) c (rf.reverse ++ [en]) (Nat.sub_le _ _) vW HX.out.1 NT.out.1 YC en;rw[<-hst,HP.out.1,<-HKI.out.1,<-HKI.out.2] at Xi;have Vg:=ain.out;have Vh:((rt.reverse ++ [nt]).length:Int)=((rt.length+1:Nat):Int):=by simp
      rw[Vh] at Vg;have gB:=vM.out;rw[ay (by simp)] at gB;clear vM;have GI:=fun W (hb:Below w7.heap.size w7 W) (hh:((rt.length+1:Nat):Int)+iX ag 5 c<=5)=>F8 (LJ.out.below hb) (by simp;omega) z8.out yL.out NT.out.1 NT.out.2 HX.out.2.2.1 HX.out.2.2.2.1 HX.out.2.2.2.2 HT.out.1 HT.out.2.1 ((HX.out.2.1.mono HT.out.2.2.1.2.2.2.2).mono aay.2.2.2.2) (HT.out.2.2.2.mono aay.2.2.2.2) (fun hp=>by
       by_cases e:rt.reverse ++ [nt]=rf.reverse ++ [en]
       ·exact heq e.symm
       ·exact lV ⟨hp,e⟩) vT (fun hn=>(jS hn).imp id (fun e=>by rw[of_decide_eq_true e])) (by rw[List.length_reverse];exact hh) en
      rw[HP.out.1,HP.out.2.1,<-HKI.out.1,<-HKI.out.2] at GI;have Vx:Hid _:=And.intro gB GI;clear gB GI vT jS aay vW hst YC Vh;generalize iX ag 5 c=H at Xi RJ Vx;generalize hDL:((rt.length+1:Nat):Int)=DL at Vg Vx;have aiv:1<=DL/\DL<=5:=by omega
      have HDL:Hid _:=hDL;clear hDL;obtain⟨hH0,hH1⟩:=RJ;obtain⟨GG,Yr⟩:=aiv;have hwx:IntKind.i64.wrap (DL+H)=DL+H:=by rw[IntKind.wrap_i64] <;> omega
      have aaz:Hid _:=Xi;have VY:Hid _:=Vg;clear Xi Vg;have Ej:jO w7.drew w.heap.size (w.heap.size+1) s0 s1 s2 s3 s4 d0 d1 d2 d3 d4:=HS7.out;have hED:tV w7.drew w3.heap.size en kc ic:=HE7.out;have bz:Below w7.heap.size w7 w7.drew:=aB (Below.refl _ _);obtain⟨a0,a1,a2,a3,a4,c0,c1,c2,c3,c4⟩:=HS7.out;obtain⟨x0,x1,x2⟩:=HE7.out;by_cases hh:5<DL+H
      ·go_wp2
       go_region_held3 (fun w'=>w'.cell? ⟨w.heap.size,0,none⟩=some (.string s0)/\w'.cell? ⟨w.heap.size,1,none⟩=some (.string s1)/\w'.cell? ⟨w.heap.size,2,none⟩=some (.string s2)/\w'.cell? ⟨w.heap.size,3,none⟩=some (.string s3)/\w'.cell? ⟨w.heap.size,4,none⟩=some (.string s4)/\w'.cell? ⟨w.heap.size+1,0,none⟩=some (.string d0)/\w'.cell? ⟨w.heap.size+1,1,none⟩=some (.string d1)/\w'.cell? ⟨w.heap.size+1,2,none⟩=some (.string d2)/\w'.cell? ⟨w.heap.size+1,3,none⟩=some (.string d3)/\w'.cell? ⟨w.heap.size+1,4,none⟩=some (.string d4)/\w'.cell? ⟨w3.heap.size,0,none⟩=some (.string en)/\w'.cell? ⟨w3.heap.size,1,none⟩=some (.int .i64 kc)/\w'.cell? ⟨w3.heap.size,2,none⟩=some (.int .i64 ic)) (first | exact Ej.and hED | exact hS8 | exact hS9) (first
        | (go_at_call 142;refine (VY.out _).mono ?_;rintro e w8 ⟨rfl,Vq⟩;replace bz:=aq bz Vq;have hS8:=(jO.below HS7.out bz Um TA).and (tV.keep HE7.out (fun o=>(aR bz).1 w3.heap.size o Qn)))
        | (go_at_call 143;refine (aaz.out _ bz).mono ?_;rintro e w9 ⟨rfl,qY⟩;replace bz:=aq bz qY;have hS9:=(jO.below HS7.out bz Um TA).and (tV.keep HE7.out (fun o=>(aR bz).1 w3.heap.size o Qn))))
       go_wp2;go_ret;have gB:=Vx.out.1;rw[aL hh] at gB;subst gB;exact⟨rfl,iz (P7.out.trans (az.aM bz)) ((LJ.out.below bz).mono (by simp;omega)) z8.out yL.out⟩
      ·go_wp2
       go_region_held3 (fun w'=>w'.cell? ⟨w.heap.size,0,none⟩=some (.string s0)/\w'.cell? ⟨w.heap.size,1,none⟩=some (.string s1)/\w'.cell? ⟨w.heap.size,2,none⟩=some (.string s2)/\w'.cell? ⟨w.heap.size,3,none⟩=some (.string s3)/\w'.cell? ⟨w.heap.size,4,none⟩=some (.string s4)/\w'.cell? ⟨w.heap.size+1,0,none⟩=some (.string d0)/\w'.cell? ⟨w.heap.size+1,1,none⟩=some (.string d1)/\w'.cell? ⟨w.heap.size+1,2,none⟩=some (.string d2)/\w'.cell? ⟨w.heap.size+1,3,none⟩=some (.string d3)/\w'.cell? ⟨w.heap.size+1,4,none⟩=some (.string d4)/\w'.cell? ⟨w3.heap.size,0,none⟩=some (.string en)/\w'.cell? ⟨w3.heap.size,1,none⟩=some (.int .i64 kc)/\w'.cell? ⟨w3.heap.size,2,none⟩=some (.int .i64 ic)) (first | exact Ej.and hED | exact hS8 | exact hS9) (first
        | (go_at_call 142;refine (VY.out _).mono ?_;rintro e w8 ⟨rfl,Vq⟩;replace bz:=aq bz Vq;have hS8:=(jO.below HS7.out bz Um TA).and (tV.keep HE7.out (fun o=>(aR bz).1 w3.heap.size o Qn)))
        | (go_at_call 143;refine (aaz.out _ bz).mono ?_;rintro e w9 ⟨rfl,qY⟩;replace bz:=aq bz qY;have hS9:=(jO.below HS7.out bz Um TA).and (tV.keep HE7.out (fun o=>(aR bz).1 w3.heap.size o Qn))))
       obtain⟨gB,GI⟩:=Vx.out;rw[ay (by omega)] at gB;have vM:Hid _:=gB;have ad2:=GI w9 bz (by omega);have u6:Hid _:=ad2;have HS9:Hid _:=jO.below HS7.out bz Um TA;have HE9:Hid _:=tV.keep HE7.out (fun o=>(aR bz).1 w3.heap.size o Qn);have HM9:Hid _:=P7.out.trans (az.aM bz);have TU:w.heap.size+1<w9.heap.size:=cv TA bz.size;have Un:w.heap.size<w9.heap.size:=Nat.lt_of_succ_lt TU;have ad3:w3.heap.size<w9.heap.size:=cv Qn bz.size;clear gB GI ad2 Vx bz hS8 hS9 Ej hED a0 a1 a2 a3 a4 c0 c1 c2 c3 c4 x0 x1 x2 Vq qY aaz VY;obtain⟨a0,a1,a2,a3,a4,c0,c1,c2,c3,c4⟩:=HS9.out;obtain⟨x0,x1,x2⟩:=HE9.out;go_wp2_with fail;refine Calls.mono u6.out ?_;rintro e w10 ⟨rfl,k10,hput⟩;have aix:Hid _:=jO.kept HS9.out k10 Un TU t07 t17;have aiy:Hid _:=tV.keep HE9.out (k10.2 _ ad3 te7);have WY:Hid _:=hput;have aom:w.heap.size+1<w10.heap.size:=cv TU k10.1;have akQ:w3.heap.size<w10.heap.size:=cv ad3 k10.1;clear a0 a1 a2 a3 a4 c0 c1 c2 c3 c4 x0 x1 x2 hput k10 u6;obtain⟨a0,a1,a2,a3,a4,c0,c1,c2,c3,c4⟩:=aix.out;obtain⟨x0,x1,x2⟩:=aiy.out;go_wp2_with fail;refine Calls.mono WY.out ?_;rintro e w11 ⟨rfl,Yf,h11⟩;have ad4:Hid (jO w11 w.heap.size (w.heap.size+1) s0 s1 s2 s3 s4 d0 d1 d2 d3 d4):=jO.kept HS9.out Yf Un TU t07 t17;obtain⟨aiz,⟨tb,t7,_⟩,hcf⟩:=h11 w11.drew (aB (Below.refl _ _));have HCF:Hid _:=hcf;have Ej:jO w11.drew w.heap.size (w.heap.size+1) s0 s1 s2 s3 s4 d0 d1 d2 d3 d4:=ad4.out;have hTD:w11.drew.cell? ⟨B.bt,7,none⟩=some (.map (some B.oF)):=t7;clear a0 a1 a2 a3 a4 c0 c1 c2 c3 c4 x0 x1 x2 h11 hcf aiz WY;obtain⟨a0,a1,a2,a3,a4,c0,c1,c2,c3,c4⟩:=ad4.out;have t7':w11.cell? ⟨B.bt,7,none⟩=some (.map (some B.oF)):=t7;have tb':B.bt<w11.heap.size:=tb;have aoq:w.heap.size+1<w11.heap.size:=cv TU Yf.1;clear Yf;go_wp2
       go_region_held3 (fun w'=>w'.cell? ⟨w.heap.size,0,none⟩=some (.string s0)/\w'.cell? ⟨w.heap.size,1,none⟩=some (.string s1)/\w'.cell? ⟨w.heap.size,2,none⟩=some (.string s2)/\w'.cell? ⟨w.heap.size,3,none⟩=some (.string s3)/\w'.cell? ⟨w.heap.size,4,none⟩=some (.string s4)/\w'.cell? ⟨w.heap.size+1,0,none⟩=some (.string d0)/\w'.cell? ⟨w.heap.size+1,1,none⟩=some (.string d1)/\w'.cell? ⟨w.heap.size+1,2,none⟩=some (.string d2)/\w'.cell? ⟨w.heap.size+1,3,none⟩=some (.string d3)/\w'.cell? ⟨w.heap.size+1,4,none⟩=some (.string d4)/\w'.cell? ⟨B.bt,7,none⟩=some (.map (some B.oF))) (first | exact Ej.and hTD | exact ad5) (first
        | (go_at_call 144;refine Calls.mono HCF.out ?_;rintro e w12 ⟨rfl,h12⟩;obtain⟨k12,⟨aor,aiB,_⟩,_⟩:=h12 w12 (Below.refl _ _);have ad5:=(jO.kept HS9.out k12 Un TU t07 t17).and aiB;have H12:Hid _:=h12;clear h12))
       obtain⟨ad6,⟨tbd,_,t8⟩,hcd⟩:=H12.out w12.drew (aB (Below.refl _ _));have HCD:Hid _:=hcd;have hSE:jO w12.drew w.heap.size (w.heap.size+1) s0 s1 s2 s3 s4 d0 d1 d2 d3 d4:=jO.kept HS9.out ad6 Un TU t07 t17;have aiC:Hid (jO w12 w.heap.size (w.heap.size+1) s0 s1 s2 s3 s4 d0 d1 d2 d3 d4):=hSE;have hTE:w12.drew.cell? ⟨B.bt,8,none⟩=some (.map (some B.oD)):=t8;have t8':w12.cell? ⟨B.bt,8,none⟩=some (.map (some B.oD)):=t8;have tb8:B.bt<w12.heap.size:=tbd;clear a0 a1 a2 a3 a4 c0 c1 c2 c3 c4 t7 t7' tb' tb Ej hTD ad5 hcd ad6;obtain⟨a0,a1,a2,a3,a4,c0,c1,c2,c3,c4⟩:=aiC.out;go_wp2
       go_region_held3 (fun w'=>w'.cell? ⟨w.heap.size,0,none⟩=some (.string s0)/\w'.cell? ⟨w.heap.size,1,none⟩=some (.string s1)/\w'.cell? ⟨w.heap.size,2,none⟩=some (.string s2)/\w'.cell? ⟨w.heap.size,3,none⟩=some (.string s3)/\w'.cell? ⟨w.heap.size,4,none⟩=some (.string s4)/\w'.cell? ⟨w.heap.size+1,0,none⟩=some (.string d0)/\w'.cell? ⟨w.heap.size+1,1,none⟩=some (.string d1)/\w'.cell? ⟨w.heap.size+1,2,none⟩=some (.string d2)/\w'.cell? ⟨w.heap.size+1,3,none⟩=some (.string d3)/\w'.cell? ⟨w.heap.size+1,4,none⟩=some (.string d4)/\w'.cell? ⟨B.bt,8,none⟩=some (.map (some B.oD))) (first | exact hSE.and hTE | exact aiD) (first
        | (go_at_call 145;refine Calls.mono HCD.out ?_;rintro e Qm ⟨rfl,Uo⟩;have aiD:=Jl HS9.out Un TU t07 t17 hi Uo;have ad8:Hid _:=Uo;clear Uo))
       go_wp2;go_ret;have gB:=vM.out;subst gB;refine⟨rfl,?_⟩;obtain⟨tgL,ftL,mL,hWL,hFL,hOL⟩:=ad8.out;exact⟨tgL,ftL,HM9.out.trans mL,hWL.mono (by simp;omega),hFL,hOL⟩
     ·have akU:(er3 == 0)=false:=by simpa using aax
      go_wp2;go_ret;have gB:=vM.out;rw[aL aax] at gB;subst gB;exact⟨rfl,iz P7.out (LJ.out.mono (by simp;omega)) z8.out yL.out⟩
   ·have adC:(er2 == 0)=false:=by simpa using LP
    go_wp2;go_ret;have gB:=vM.out;rw[aL (.inl LP)] at gB;subst gB;exact⟨rfl,iz HM6.out (Z2.out.mono (by simp;omega)) z8.out yL.out⟩
 ·have Qa:(er == 0)=false:=by simpa using her
  go_wp2;go_ret;have gB:=vM.out;rw[aL her] at gB;subst gB;exact⟨rfl,iz (zF.out.trans (az.aM ((Below.refl w3.heap.size w3).alloc (bA _) _))) ((AA.out.below ((Below.refl w3.heap.size w3).alloc (bA _) _)).mono (by simp;omega)) z8.out yL.out⟩
end
def Ga (ag:List Ob)(fl:Nat->Option (Int×ByteArray)):Prop:=∀f id d,fl f=some (id,d)->id≠0->aH ag id=1
section
variable {s i p:Nat}{B:WB}{ag:List Ob}
theorem Qo {tg:aP}{w:World}{g:WG}{lim:Nat}(h:bF tg w s i p B ag g lim)(hl:lim<1099511627776)(Ds:Ga ag g.fl){f:Nat}{x:Int×ByteArray}(hf:g.fl f=some x):
  Calls prog 181 #[.pointer (some ⟨f,0,none⟩)] w fun e w'=>e=.returned (.tuple #[.string (ir ag g.fl g.fs f).2.2,.int .i64 (ir ag g.fl g.fs f).2.1])/\jX s i p B ag tg w w' { g with fs:=(ir ag g.fl g.fs f).1 } (lim+1):=by
 obtain⟨id,d⟩:=x;obtain⟨ht,hb,hd⟩:=h.wp.files f id d hf;have hG:ir ag g.fl g.fs f=if id=0 then (g.fs,0,d) else if (g.fs.ep id).2 then ((g.fs.ep id).1,0,bytesOf ag id) else ((g.fs.ep id).1,14,⟨#[]⟩):=by
  unfold ir;rw[hf]
 have hlt:=(Array.getElem?_eq_some_iff.1 hb).1;have c1:w.cell? ⟨f,1,none⟩=some (.int .i64 id):=by simp[World.cell?,hb]
 by_cases hid:id=0
 ·rw[hG,aL hid]
  subst hid;have c2:w.cell? ⟨f,2,none⟩=some (.string d):=by simp[World.cell?,hb]
  exact (PC f d w c1 c2).mono fun e w' ⟨h1,h2⟩=>⟨h1,by rw[h2];exact ow (h.mono (Nat.le_succ _)) (Below.refl _ _)⟩
 ·rw[hG,ay hid]
  have c0:w.cell? ⟨f,0,none⟩=some (.pointer (some ⟨B.sF,0,none⟩)):=by simp[World.cell?,hb,hid]
  have hb0:Below w.heap.size w w.drew:=aB (Below.refl _ _);have hsh:=Tu (h.below hb0) hl (Ds f id d hf hid);refine (PD f B.sF id (if (g.fs.ep id).2 then 0 else 14) (if (g.fs.ep id).2 then bytesOf ag id else ⟨#[]⟩) (fun w'=>jX s i p B ag tg w w' { g with fs:=(g.fs.ep id).1 } (lim+1)) w hlt c0 c1 hid (hsh.mono fun e w' ⟨h1,h2⟩=>⟨h1,jX.via hb0 h2⟩)).mono fun e w' ⟨h1,h2⟩=>?_;cases hh:(g.fs.ep id).2 with
  | true=>rw[hh] at h1;exact⟨h1,h2⟩
  | false=>rw[hh] at h1;exact⟨h1,h2⟩
theorem Jn {k:Nat}(h:k<8):k=0\/k=1\/k=2\/k=3\/k=4\/k=5\/k=6\/k=7:=by omega
theorem uz.tab {tg:aP}{w:World}{fl:Nat->Option (Int×ByteArray)}{op:Nat->Option (Nat×Nat×Int×Int)}(h:uz tg w i B fl op):Tm w B.wb (fun k=>(op k).map (·.1))/\w.cell? ⟨B.wb,0,none⟩=some (ptr B.bt):=by
 have hw:=h.hw;refine⟨⟨(Array.getElem?_eq_some_iff.1 hw).1,fun k hk=>?_,fun o=>by simp[World.frozen?,hw]⟩,by simp[World.cell?,hw]⟩;rcases Jn hk with rfl | rfl | rfl | rfl | rfl | rfl | rfl | rfl <;> simp[World.cell?,hw,WJ,Function.comp_def]
end
end Go.Proofs.YtlgidcmmgohagaaGreat
