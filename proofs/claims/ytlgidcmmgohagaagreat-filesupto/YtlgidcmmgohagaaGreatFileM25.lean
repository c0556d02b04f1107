/- What is proved here: how much stands one below the other in what is at a path. -/
import Derived.Test.YtlgidcmmgohagaaGreatFileM23
import Derived.Test.YtlgidcmmgohagaaGreatFileM24
import Derived.Deep.RegionHeld3
import Derived.Test.YtlgidcmmgohagaaGreatFileM18
namespace Go.Proofs.YtlgidcmmgohagaaGreat
open Go.RowKit Go.Sort Go.Shelf Go.Proofs.Tryz
set_option linter.unusedVariables false
set_option maxRecDepth 100000
set_option maxHeartbeats 16000000
theorem SInv.highs {tg:Tags}{w:World}{s p:Nat}{objs:List Ob}{got:List Int}{brk:Bool}{lim:Nat}(h:SInv tg w s p objs got brk lim):∀o ∈ objs,0<=o.high/\o.high<=5:=by
 obtain⟨_,ft,_,⟨a,cap,bf,bd,Df,Dd,i⟩,_⟩:=h;intro o ho;rcases i.obs o ho with ⟨_,h1,_⟩ | ⟨_,_,_,_,h1,h2,_⟩
 ·rw[h1];exact⟨Int.le_refl _,by decide⟩
 ·exact⟨h1,h2⟩
theorem pool_high {tg:Tags}{w:World}{s p:Nat}{objs:List Ob}{got:List Int}{brk:Bool}{lim:Nat}(h:SInv tg w s p objs got brk lim){id:Int}(hk:kindOf objs id≠0):
  Calls prog 173 #[.pointer (some ⟨p,0,none⟩),.int .i64 id] w fun e w'=>e=.returned (.int .i64 (highOf objs id))/\Below w.heap.size w w':=by
 obtain⟨h1,h2⟩:=kind_in hk;obtain⟨j,rfl⟩:∃j:Nat,id=(j:Int)+1:=⟨(id-1).toNat,by omega⟩;have hj:j<objs.length:=by omega
 obtain⟨_,ft,_,⟨a,cap,bf,bd,Df,Dd,i⟩,_⟩:=h;rw[highOf_in hj];exact height_in p a objs.length cap bf bd objs j hj w i.pool
theorem high_bound {objs:List Ob}(h:∀o ∈ objs,0<=o.high/\o.high<=5)(id:Int):0<=highOf objs id/\highOf objs id<=5:=by
 unfold highOf;cases ho:objs[(id-1).toNat]? with
 | none=>exact⟨Int.le_refl _,by decide⟩
 | some o=>exact h o (List.mem_of_getElem? ho)
theorem foldl_max_ge {α:Type}(f:α->Int)(l:List α)(a:Int):a<=l.foldl (fun h x=>max h (1+f x)) a:=((foldl_max_le f l a _).1 (Int.le_refl _)).1
theorem hgt_bound {objs:List Ob}(h:∀o ∈ objs,0<=o.high/\o.high<=5):∀(n:Nat) (c:LT),0<=hgt objs n c/\hgt objs n c<=5+n
 | n,.file id=>by
  have:=high_bound h id
  have e:hgt objs n (.file id)=highOf objs id:=by cases n <;> rfl
  rw[e];omega
 | n,.held f=>by
  have e:hgt objs n (.held f)=0:=by cases n <;> rfl
  rw[e];omega
 | n,.dir id=>by
  have:=high_bound h id
  have e:hgt objs n (.dir id)=highOf objs id:=by cases n <;> rfl
  rw[e];omega
 | 0,.own es=>by
  have e:hgt objs 0 (.own es)=0:=rfl
  rw[e];omega
 | n+1,.own es=>by
  rw[hgt]
  refine⟨foldl_max_ge _ es 0,(foldl_max_le (fun x=>hgt objs n x.2) es 0 _).2 ⟨by omega,fun x _=>?_⟩⟩
  have:=hgt_bound h n x.2
  push_cast
  omega
theorem at_own {objs:List Ob}{t:LT}{q:List ByteArray}{es:Kids}(ha:t.at objs q=some (.own es))(hr:RisingK es){x:ByteArray×LT}(hx:x ∈ es):t.at objs (q ++ [x.1])=some x.2:=by
 rw[at_append,ha,Option.bind_some,at_cons];show (pickK es x.1).bind _=_;cases hp:pickK es x.1 with
 | none=>
  unfold pickK at hp;rw[Option.map_eq_none_iff,List.find?_eq_none] at hp;exact absurd (hp x hx) (by simp)
 | some c=>
  rw[pick_unique hr hp hx rfl,Option.bind_some,at_nil]
def accH (objs:List Ob)(n:Nat)(es:Kids):Int:=es.foldl (fun h x=>max h (1+hgt objs n x.2)) 0
theorem accH_snoc (objs:List Ob)(n:Nat)(es:Kids)(x:ByteArray×LT):accH objs n (es ++ [x])=max (accH objs n es) (1+hgt objs n x.2):=by
 simp only[accH,List.foldl_append,List.foldl_cons,List.foldl_nil]
theorem accH_bound {objs:List Ob}(h:∀o ∈ objs,0<=o.high/\o.high<=5)(n:Nat)(es:Kids):0<=accH objs n es/\accH objs n es<=6+n:=by
 refine⟨foldl_max_ge _ es 0,(foldl_max_le (fun x=>hgt objs n x.2) es 0 _).2 ⟨by omega,fun x _=>?_⟩⟩
 have:=hgt_bound h n x.2
 omega
theorem height_stored (t p:Nat)(s0 s1 s2 s3 s4 nm:ByteArray)(k id H:Int)(w:World)(ht:t<w.heap.size)(c0:w.cell? ⟨t,0,none⟩=some (.pointer (some ⟨p,0,none⟩)))(hid:id≠0)
  (hh:∀W,Below w.heap.size w W->Calls prog 173 #[.pointer (some ⟨p,0,none⟩),.int .i64 id] W fun e w'=>e=.returned (.int .i64 H)/\Below W.heap.size W w'):
  Calls prog 143 #[.pointer (some ⟨t,0,none⟩),.agg #[.string s0,.string s1,.string s2,.string s3,.string s4],.agg #[.string nm,.int .i64 k,.int .i64 id]] w fun e w'=>e=.returned (.int .i64 H)/\Below w.heap.size w w':=by
 have hW:=below_drew (((Below.refl w.heap.size w).alloc (zzC _) (.cells #[.string s0,.string s1,.string s2,.string s3,.string s4] 147)).alloc (by simp) (.cells #[.string nm,.int .i64 k,.int .i64 id] 96));have hg:=hh _ hW;have HW:Hid _:=hW;have hid':(id == 0)=false:=by simpa using hid
 clear hh hW;go_enter func143,ntmps143;go_wp2
 go_region_with (go_at_call 173;refine hg.mono ?_;rintro e w1 ⟨rfl,hb1⟩)
 all_goals
  go_wp2;go_ret;exact⟨rfl,below_via HW.out hb1⟩
theorem height_none (t m:Nat)(s0 s1 s2 s3 s4 nm:ByteArray)(k:Int)(w:World)(ht:t<w.heap.size)(c8:w.cell? ⟨t,8,none⟩=some (.map (some m)))
  (hlk:∀W,Below w.heap.size w W->(Instr.lookup 162 (.map (some m)) (.agg #[.string s0,.string s1,.string s2,.string s3,.string s4]) false).run prog W=.ok (.slice none 0 0) W):
  Calls prog 143 #[.pointer (some ⟨t,0,none⟩),.agg #[.string s0,.string s1,.string s2,.string s3,.string s4],.agg #[.string nm,.int .i64 k,.int .i64 0]] w fun e w'=>e=.returned (.int .i64 0)/\Below w.heap.size w w':=by
 have hW:=below_drew (((Below.refl w.heap.size w).alloc (zzC _) (.cells #[.string s0,.string s1,.string s2,.string s3,.string s4] 147)).alloc (by simp) (.cells #[.string nm,.int .i64 k,.int .i64 0] 96));have hl:=hlk _ hW;have HW:Hid _:=hW;clear hlk hW;go_enter func143,ntmps143;go_wp2
 go_region
 all_goals
  go_wp2
  go_loopw [7,27] (fun t i wr=>i=.int .i64 0/\t=.int .i64 0/\Below w.heap.size w wr) (fun _ _ _=>0)
  case atStart=>exact⟨rfl,rfl,HW.out⟩
  case round=>
   obtain⟨rfl,rfl,hb⟩:=hrel;go_wp2;go_ret;exact⟨rfl,hb⟩
theorem round_keep {wr w1:World}{X:Obj}(hb1:Below (wr.alloc X).drew.heap.size (wr.alloc X).drew w1):
  (∀o,w1.cell? ⟨wr.heap.size,o,none⟩=(wr.alloc X).drew.cell? ⟨wr.heap.size,o,none⟩)/\wr.heap.size<w1.heap.size/\∀n a,n<=wr.heap.size->Below n a (wr.alloc X).drew->Below n a w1:=by
 have h1:wr.heap.size<(wr.alloc X).drew.heap.size:=by simp
 exact⟨fun o=>(bcell hb1).1 wr.heap.size o h1,zzA h1 hb1.size,fun n a hn hb=>hb.trans (hb1.mono (by omega))⟩
theorem height_own (t m gb cap n:Nat)(objs:List Ob)(s0 s1 s2 s3 s4 nm:ByteArray)(q:List ByteArray)(k:Int)(es:Kids)(w:World)(ht:t<w.heap.size)(hgb:gb<w.heap.size)(c8:w.cell? ⟨t,8,none⟩=some (.map (some m)))
  (hlk:∀W,Below w.heap.size w W->(Instr.lookup 162 (.map (some m)) (.agg #[.string s0,.string s1,.string s2,.string s3,.string s4]) false).run prog W=.ok (.slice (some ⟨gb,0,none⟩) es.length cap) W)
  (hl16:es.length<=16)(hn5:n<=5)(hc:∀j u,(flat (es.map entOf))[j]? = some u->w.cell? ⟨gb,j,none⟩=some u)(hh:∀o ∈ objs,0<=o.high/\o.high<=5)
  (hch:∀(x:ByteArray) W,x ∈ es.map (·.1)->Calls prog 196 #[.agg #[.string s0,.string s1,.string s2,.string s3,.string s4],.string x] W fun e w'=>e=.returned (.agg (pathA (q ++ [x])))/\Below W.heap.size W w')
  (hrec:∀x ∈ es,∀W,Below w.heap.size w W->Calls prog 143 #[.pointer (some ⟨t,0,none⟩),.agg (pathA (q ++ [x.1])),.agg #[.string x.1,.int .i64 x.2.kind,.int .i64 x.2.id]] W fun e w'=>e=.returned (.int .i64 (hgt objs n x.2))/\Below W.heap.size W w'):
  Calls prog 143 #[.pointer (some ⟨t,0,none⟩),.agg #[.string s0,.string s1,.string s2,.string s3,.string s4],.agg #[.string nm,.int .i64 k,.int .i64 0]] w fun e w'=>e=.returned (.int .i64 (accH objs n es))/\Below w.heap.size w w':=by
 have hW:=below_drew (((Below.refl w.heap.size w).alloc (zzC _) (.cells #[.string s0,.string s1,.string s2,.string s3,.string s4] 147)).alloc (by simp) (.cells #[.string nm,.int .i64 k,.int .i64 0] 96));have hl:=hlk _ hW;have HW:Hid _:=hW;have HC:Hid _:=hc;have HCH:Hid _:=hch;have HREC:Hid _:=hrec;have HB:Hid _:=fun es':Kids=>accH_bound hh n es';have HG:Hid _:=fun c:LT=>hgt_bound hh n c;clear hlk hW hc hch hrec hh;go_enter func143,ntmps143;go_wp2
 go_region
 all_goals
  go_wp2
  go_loopw [7,27] (fun t i wr=>∃k':Nat,k'<=es.length/\i=.int .i64 k'/\t=.int .i64 (accH objs n (es.take k'))/\Below w.heap.size w wr/\Below (w.heap.size+2) ((w.alloc (.cells #[.string s0,.string s1,.string s2,.string s3,.string s4] 147)).alloc (.cells #[.string nm,.int .i64 k,.int .i64 0] 96)).drew wr) (fun _ i _=>es.length-(intOf i).toNat)
  case atStart=>exact⟨0,zzF _,rfl,rfl,HW.out,Below.refl _ _⟩
  case round=>
   obtain⟨k',hk,rfl,rfl,hb,hb2⟩:=hrel;by_cases hlt:k'<es.length
   ·have hlt':k'<(es.map entOf).length:=by rw[List.length_map];exact hlt
    obtain⟨d0,d1,d2⟩:=row_at HC.out hlt';rw[List.getElem_map] at d0 d1 d2;have e0:=(hb.cell (p:=⟨gb,k'*3,none⟩) hgb).trans d0;have e1:=(hb.cell (p:=⟨gb,k'*3+1,none⟩) hgb).trans d1;have e2:=(hb.cell (p:=⟨gb,k'*3+2,none⟩) hgb).trans d2;have hgb':gb<wr.heap.size:=zzA hgb hb.size;have kp:=fun o=>hb2.cell (p:=⟨w.heap.size,o,none⟩) (by simp);have hzr:w.heap.size+2<=wr.heap.size:=by have:=hb2.size;simpa using this
    have hzw:w.heap.size<wr.heap.size:=(by omega);have hmem:=zzJ hlt;have hcx:=fun W=>HCH.out (es[k']).1 W (List.mem_map_of_mem hmem);have hrx:=HREC.out es[k'] hmem;have hb5:=HG.out (es[k']).2;have hac:=HB.out (es.take k');have hst:accH objs n (es.take (k'+1))=max (accH objs n (es.take k')) (1+hgt objs n (es[k']).2):=by
     rw[zzI hlt,accH_snoc]
    generalize hgt objs n (es[k']).2=H at hrx hb5 hst;generalize accH objs n (es.take k')=A at hac hst ⊢;have hwx:IntKind.i64.wrap (1+H)=1+H:=by rw[IntKind.wrap_i64] <;> omega
    obtain⟨hA0,hA1⟩:=hac;obtain⟨hH0,hH1⟩:=hb5;have HST:Hid _:=hst;simp only[entOf] at e0 e1 e2;clear d0 d1 d2 hst hmem;generalize es[k']=x at e0 e1 e2 hcx hrx;obtain⟨xn,xt⟩:=x;simp only at e0 e1 e2 hcx hrx;generalize xt.kind=xk at e1 hrx;generalize xt.id=xi at e2 hrx;obtain⟨r0,r1,r2,r3,r4,hP'⟩:∃s0 s1 s2 s3 s4,pathA (q ++ [xn]) = #[.string s0,.string s1,.string s2,.string s3,.string s4]:=⟨_,_,_,_,_,rfl⟩;rw[hP'] at hcx hrx;have HR:Hid _:=hrx;clear hrx hP';have b0:Below w.heap.size w (wr.alloc (.cells #[.string xn,.int .i64 xk,.int .i64 xi] 96)).drew:=below_drew (hb.alloc hb.size _);have b2:Below (w.heap.size+2) ((w.alloc (.cells #[.string s0,.string s1,.string s2,.string s3,.string s4] 147)).alloc (.cells #[.string nm,.int .i64 k,.int .i64 0] 96)).drew (wr.alloc (.cells #[.string xn,.int .i64 xk,.int .i64 xi] 96)).drew:=below_drew (hb2.alloc hzr _);go_wp2
    go_region_with (first
     | (go_at_call 196;refine (hcx _).mono ?_;rintro e w1 ⟨rfl,hb1⟩;have b1:=below_via b0 hb1;obtain⟨k1,hz1,hkk⟩:=round_keep hb1;have b3:=hkk _ _ hzr b2;clear hkk)
     | (go_at_call 143;refine (HR.out _ b1).mono ?_;rintro e w2 ⟨rfl,hb2'⟩))
    all_goals
     go_wp2;go_roundw
     case rel=>
      refine⟨k'+1,by omega,by go_num,by rw[HST.out],below_via b1 hb2',b3.trans (hb2'.mono (by omega))⟩
     case measure=>simp[intOf];omega
   ·have hkm:k'=es.length:=by omega
    subst hkm;rw[List.take_length];go_wp2;go_ret;exact⟨rfl,hb⟩
theorem hgt_stable {objs:List Ob}:∀(n m:Nat) (c:LT),n<=m->LTok objs n c->hgt objs m c=hgt objs n c
 | n,m,.file id,_,_=>by cases n <;> cases m <;> rfl
 | n,m,.held f,_,_=>by cases n <;> cases m <;> rfl
 | n,m,.dir id,_,_=>by cases n <;> cases m <;> rfl
 | 0,m,.own es,_,h=>by
  rw[LTok] at h
  subst h
  cases m <;> rfl
 | n+1,0,.own es,h,_=>by omega
 | n+1,m+1,.own es,h,hok=>by
  rw[LTok] at hok
  rw[hgt,hgt]
  have key:∀(l:Kids) (a:Int),(∀x ∈ l,x ∈ es)->l.foldl (fun h x=>max h (1+hgt objs m x.2)) a=l.foldl (fun h x=>max h (1+hgt objs n x.2)) a:=by
   intro l
   induction l with
   | nil=>intro a _;rfl
   | cons y r ih=>
    intro a hl;rw[List.foldl_cons,List.foldl_cons,hgt_stable n m y.2 (by omega) (hok.2.2 y (hl y (by simp))).2];exact ih _ (fun x hx=>hl x (by simp[hx]))
  exact key es 0 (fun x hx=>hx)
section
variable {s i p:Nat}{B:WB}{objs:List Ob}
theorem height_all {tg:Tags}{w:World}{g:WG}{lim:Nat}{t:LT}(h:WInv tg w s i p B objs g lim)(hF:Flat objs t g.ft):∀(n:Nat) (c:LT) (q:List ByteArray),n<=5->LTok objs n c->t.at objs q=some c->Good q->q.length+n<=5->∀(nm:ByteArray) (W:World),Below w.heap.size w W->
  Calls prog 143 #[.pointer (some ⟨B.bt,0,none⟩),.agg (pathA q),.agg #[.string nm,.int .i64 c.kind,.int .i64 c.id]] W fun e w'=>e=.returned (.int .i64 (hgt objs n c))/\Below W.heap.size W w':=by
 have hcell:∀(W:World),Below w.heap.size w W->B.bt<W.heap.size/\W.cell? ⟨B.bt,0,none⟩=some (.pointer (some ⟨p,0,none⟩))/\W.cell? ⟨B.bt,8,none⟩=some (.map (some B.oD)):=by
  intro W hb;have ht:=(h.below hb).wp.tree.ht;exact⟨(Array.getElem?_eq_some_iff.1 ht).1,by simp[World.cell?,ht,ptr],by simp[World.cell?,ht]⟩
 have hst:∀(c:LT) (q:List ByteArray) (nm:ByteArray) (W:World),Below w.heap.size w W->kindOf objs c.id≠0->
   Calls prog 143 #[.pointer (some ⟨B.bt,0,none⟩),.agg (pathA q),.agg #[.string nm,.int .i64 c.kind,.int .i64 c.id]] W fun e w'=>e=.returned (.int .i64 (highOf objs c.id))/\Below W.heap.size W w':=by
  intro c q nm W hb hk;obtain⟨h1,h2,h3⟩:=hcell W hb;have hid:c.id≠0:=fun e=>by have:=(kind_in hk).1;omega
  exact height_stored B.bt p _ _ _ _ _ nm c.kind c.id _ W h1 h2 hid (fun W' hb'=>pool_high ((h.below hb).below hb').st hk)
 have hhs:=h.st.highs;obtain⟨vD,hD⟩:=h.wp.ownD;have hlk:∀(q:List ByteArray),Good q->∀(W:World),Below w.heap.size w W->(Instr.lookup 162 (.map (some B.oD)) (.agg (pathA q)) false).run prog W=.ok (((g.ft.od q).map fun _=>vD q).getD (.slice none 0 0)) W:=fun q hq W hb=>hD.look hq hb;have hS:=h.st.sound;have hown:∀(n:Nat) (es:Kids) (q:List ByteArray) (nm:ByteArray) (W:World),Below w.heap.size w W->n<=5->t.at objs q=some (.own es)->Good q->RisingK es->es.length<=16->(∀x ∈ es,q.length<=4)->
   (∀x ∈ es,∀W',Below w.heap.size w W'->Calls prog 143 #[.pointer (some ⟨B.bt,0,none⟩),.agg (pathA (q ++ [x.1])),.agg #[.string x.1,.int .i64 x.2.kind,.int .i64 x.2.id]] W' fun e w'=>e=.returned (.int .i64 (hgt objs n x.2))/\Below W'.heap.size W' w')->
   Calls prog 143 #[.pointer (some ⟨B.bt,0,none⟩),.agg (pathA q),.agg #[.string nm,.int .i64 2,.int .i64 0]] W fun e w'=>e=.returned (.int .i64 (accH objs n es))/\Below W.heap.size W w':=by
  intro n es q nm W hb hn ha hq hr h16 h4 hrec;obtain⟨h1,h2,h3⟩:=hcell W hb;have ho:g.ft.od q=some (es.map entOf):=by rw[hF.od,ha];rfl
  have hrow:=hD.row q _ ho;have hl:=fun W' (hb':Below W.heap.size W W')=>hlk q hq W' (below_via hb hb');rw[ho,Option.map_some,Option.getD_some] at hl;have hmain:∀gb c,vD q=.slice (some ⟨gb,0,none⟩) es.length c->Calls prog 143 #[.pointer (some ⟨B.bt,0,none⟩),.agg (pathA q),.agg #[.string nm,.int .i64 2,.int .i64 0]] W fun e w'=>e=.returned (.int .i64 (accH objs n es))/\Below W.heap.size W w':=by
   intro gb c hv;rw[hv] at hl hrow;have hgl:gb<w.heap.size:=ownsRow_lt hrow.1 rfl;have hcs:=hrow.1;rw[List.length_map] at hcs;refine height_own B.bt B.oD gb c n objs _ _ _ _ _ nm q 2 es W h1 (zzA hgl hb.size) h3 hl h16 hn (fun j u hu=>?_) hhs (fun x W' hx=>?_) (fun x hx W' hb'=>hrec x hx W' (below_via hb hb'))
   ·have:=owns_cells hcs j u hu
    rw[Nat.zero_add] at this;exact (hb.cell (p:=⟨gb,j,none⟩) hgl).trans this
   ·obtain⟨y,hy,rfl⟩:=List.mem_map.1 hx
    exact child_any q hq (h4 y hy) y.1 W'
  rcases hrow.1.2 with ⟨hv,hx⟩ | ⟨g',c',cur,hv,_⟩
  ·have he:es = []:=by
    have h0:(es.map entOf).length=0:=by first | exact hx | (have:=congrArg List.length hx;rw[flat_len] at this;simpa using this)
    simpa using h0
   subst he;rw[hv] at hl;exact height_none B.bt B.oD _ _ _ _ _ nm 2 W h1 h3 hl
  ·rw[List.length_map] at hv
   exact hmain _ _ hv
 intro n
 induction n with
 | zero=>
  intro c q hn hc ha hq hlen nm W hb;obtain⟨h1,h2,h3⟩:=hcell W hb;cases c with
  | file id=>exact hst (.file id) q nm W hb (by rw[LTok] at hc;show kindOf objs id≠0;rw[hc];decide)
  | dir id=>exact hst (.dir id) q nm W hb (by rw[LTok] at hc;show kindOf objs id≠0;rw[hc.1];decide)
  | held f=>exact height_none B.bt B.oD _ _ _ _ _ nm 1 W h1 h3 (fun W' hb'=>by
    have:=hlk q hq W' (below_via hb hb')
    rwa [hF.od,ha] at this)
  | own es=>
   rw[LTok] at hc;subst hc;exact hown 0 [] q nm W hb (by omega) ha hq List.Pairwise.nil (by simp) (by simp) (by simp)
 | succ n ih=>
  intro c q hn hc ha hq hlen nm W hb;obtain⟨h1,h2,h3⟩:=hcell W hb;cases c with
  | file id=>exact hst (.file id) q nm W hb (by rw[LTok] at hc;show kindOf objs id≠0;rw[hc];decide)
  | dir id=>exact hst (.dir id) q nm W hb (by rw[LTok] at hc;show kindOf objs id≠0;rw[hc.1];decide)
  | held f=>exact height_none B.bt B.oD _ _ _ _ _ nm 1 W h1 h3 (fun W' hb'=>by
    have:=hlk q hq W' (below_via hb hb')
    rwa [hF.od,ha] at this)
  | own es=>
   rw[LTok] at hc;refine hown n es q nm W hb (by omega) ha hq hc.1 hc.2.1 (fun _ _=>by omega) (fun x hx W' hb'=>?_);have hg:Good (q ++ [x.1]):=⟨hq.val.append (fun y hy=>by simp at hy;rw[hy];exact (hc.2.2 x hx).1),by simp;omega⟩;exact ih x.2 (q ++ [x.1]) (by omega) (hc.2.2 x hx).2 (at_own ha hc.1 hx) hg (by simp;omega) x.1 W' hb'
end
theorem carryG_map {β γ:Type}(f:List ByteArray->Option β)(m:β->γ)(src dst x:List ByteArray):carryG (fun p=>(f p).map m) src dst x=(carryG f src dst x).map m:=by
 unfold carryG;split
 ·rfl
 ·split <;> rfl
theorem carryG_some {β:Type}{f:List ByteArray->Option β}{src dst x:List ByteArray}{y:β}(h:carryG f src dst x=some y):(dst <+: x/\f (src++x.drop dst.length)=some y)\/(¬dst <+: x/\¬src <+: x/\f x=some y):=by
 unfold carryG at h;by_cases hd:dst <+: x
 ·rw[zzD hd] at h;exact .inl ⟨hd,h⟩
 ·rw[zzB hd] at h
  by_cases hs:src <+: x
  ·rw[zzD hs] at h;cases h
  ·rw[zzB hs] at h;exact .inr ⟨hd,hs,h⟩
theorem carry_good {β:Type}{f:List ByteArray->Option β}{src dst x:List ByteArray}{y:β}(hdG:Good dst)(hg:∀p z,f p=some z->Good p)(hlen:∀p z,src <+: p->f p=some z->dst.length+(p.length-src.length)<=5)(h:carryG f src dst x=some y):Good x:=by
 rcases carryG_some h with ⟨⟨r,rfl⟩,h1⟩ | ⟨_,_,h1⟩
 ·rw[List.drop_left] at h1
  have g1:=hg _ _ h1;have l1:=hlen _ _ (List.prefix_append _ _) h1;refine⟨hdG.val.append (fun z hz=>g1.val z (List.mem_append_right _ hz)),?_⟩;rw[List.length_append] at l1 ⊢;omega
 ·exact hg _ _ h1
theorem moves_row {P:Nat×Nat->Prop}{tg:Tags}{w w':World}{b:Nat}(hg:w.grownBy w' (some b))(hP:P (tg b)):Moves P tg tg w w':=
 ⟨hg.os,hg.tape,hg.output,hg.size,fun _ _=>rfl,fun k hk hn=>hg.block k hk (fun e=>hn (by cases e;exact hP)),fun hf k hk=>hf k (zzG hg.size hk)⟩
section
variable {s i p:Nat}{B:WB}{objs:List Ob}
theorem carried_files {tg:Tags}{w w':World}{g:WG}{lim n:Nat}(h:WInv tg w s i p B objs g lim){src dst:List ByteArray}(hdG:Good dst)(hlen:∀x f,src <+: x->g.ft.of x=some f->dst.length+(x.length-src.length)<=5)(hn:n<=lim)(hm:PMap w' B.oF n (carryG (fun p=>(g.ft.of p).map ptr) src dst))(hgr:w.grownBy w' (some B.oF)):
  Moves (fun t=>t=(i,4)) tg tg w w'/\WInv tg w' s i p B objs { g with ft:={ g.ft with of:=carryG g.ft.of src dst } } lim:=by
 have hi:=h.two;obtain⟨ht,_,hg⟩:=h.wp.ownF;have m:Moves (fun t=>t=(i,4)) tg tg w w':=moves_row hgr ht;have hp:=h.wp;obtain⟨vD,hD⟩:=hp.ownD;refine⟨m,h.two,h.st.moves m (fun e=>by cases e) (fun e=>by cases e),⟨hp.tree.moves m (fun e=>by cases e),hp.keptF.moves m (fun e=>by cases e),hp.keptD.moves m (fun e=>by cases e),⟨ht,⟨n,hn,hm.congr (fun x _=>carryG_map _ _ _ _ _)⟩,fun x f hx=>carry_good hdG hg hlen hx⟩,⟨vD,hD.moves m (fun e=>by cases e)⟩,hp.files.moves m (fun e=>by cases e),fun x f hx=>?_,hp.opens.moves m (fun e=>by cases e) (fun e=>by cases e),⟨hp.ok.root,hp.ok.od⟩⟩⟩;rcases carryG_some hx with ⟨_,h1⟩ | ⟨_,_,h1⟩
 ·exact hp.held _ f h1
 ·exact hp.held _ f h1
def vMoved (vD:List ByteArray->Value)(src dst:List ByteArray):List ByteArray->Value:=fun x=>if dst <+: x then vD (src++x.drop dst.length) else vD x
theorem carried_dirs {tg:Tags}{w w':World}{g:WG}{lim n:Nat}{vD:List ByteArray->Value}(h:WInv tg w s i p B objs g lim)(hD:OwnDV tg w i B g.ft.od lim vD){src dst:List ByteArray}(hdG:Good dst)(hlen:∀x f,src <+: x->g.ft.od x=some f->dst.length+(x.length-src.length)<=5)(hn:n<=lim)(hm:PMap w' B.oD n (carryG (fun p=>(g.ft.od p).map fun _=>vD p) src dst))(hgr:w.grownBy w' (some B.oD)):
  Moves (fun t=>t=(i,5)) tg tg w w'/\WInv tg w' s i p B objs { g with ft:={ g.ft with od:=carryG g.ft.od src dst } } lim:=by
 obtain⟨n0,_,hm0⟩:=hD.map;obtain⟨e0,ck,hb⟩:=hm0.isMap;have m:Moves (fun t=>t=(i,5)) tg tg w w':=moves_row hgr hD.tag;have hv:∀x es,carryG g.ft.od src dst x=some es->∃y,g.ft.od y=some es/\vMoved vD src dst x=vD y/\((dst <+: x/\y=src++x.drop dst.length)\/(¬dst <+: x/\¬src <+: x/\y=x)):=by
  intro x es hx;rcases carryG_some hx with ⟨hd,h1⟩ | ⟨hd,hs,h1⟩
  ·exact⟨_,h1,by unfold vMoved;rw[zzD hd],.inl ⟨hd,rfl⟩⟩
  ·exact⟨_,h1,by unfold vMoved;rw[zzB hd],.inr ⟨hd,hs,rfl⟩⟩
 have hD':OwnDV tg w' i B (carryG g.ft.od src dst) lim (vMoved vD src dst):=by
  refine⟨hD.tag,⟨n,hn,hm.congr (fun x _=>?_)⟩,fun x es hx=>?_,fun x es hx=>?_,fun x y ex ey gb hx hy h1 h2=>?_⟩
  ·unfold carryG vMoved
   by_cases hd:dst <+: x
   ·rw[zzD hd,zzD hd,zzD hd]
   ·rw[zzB hd,zzB hd,zzB hd]
    split <;> rfl
  ·obtain⟨y,h1,_,_⟩:=hv x es hx
   exact⟨carry_good hdG (fun p z hz=>(hD.good p z hz).1) hlen hx,(hD.good y es h1).2⟩
  ·obtain⟨y,h1,h2,_⟩:=hv x es hx
   rw[h2];exact (hD.row y es h1).keep_map hb hgr
  ·obtain⟨x',a1,a2,a3⟩:=hv x ex hx
   obtain⟨y',b1,b2,b3⟩:=hv y ey hy;rw[a2] at h1;rw[b2] at h2;have e:=hD.inj x' y' ex ey gb a1 b1 h1 h2;rcases a3 with ⟨⟨r,rfl⟩,ha⟩ | ⟨_,hs,ha⟩
   ·rcases b3 with ⟨⟨t,rfl⟩,hb'⟩ | ⟨_,hs',hb'⟩
    ·rw[List.drop_left] at ha hb'
     rw[ha,hb'] at e;rw[List.append_cancel_left e]
    ·exfalso
     apply hs';rw[<-hb',<-e,ha];exact List.prefix_append _ _
   ·rcases b3 with ⟨⟨t,rfl⟩,hb'⟩ | ⟨_,hs',hb'⟩
    ·exfalso
     apply hs;rw[<-ha,e,hb'];exact List.prefix_append _ _
    ·rw[<-ha,<-hb',e]
 refine⟨m,h.od m (zzC _) hD' (fun x es hx=>?_)⟩;obtain⟨y,h1,_,_⟩:=hv x es hx;exact h.wp.ok.od y es h1
end
theorem drop_kids {objs:List Ob}{t:LT}{qf qt:List ByteArray}{nf nt:ByteArray}{df dt:LT}{kf kt:Kids}(hr:RisingK kf)(ha:t.at objs qf=some df)(hk:kids objs df=some kf)(ht:thereK kf nf=true)(hb:t.at objs qt=some dt)(hkt:kids objs dt=some kt)(hnf:¬(qf ++ [nf]) <+: qt)(hne:qt ++ [nt]≠qf ++ [nf])
  {d1:LT}{k1:Kids}(e1:(modG objs (fun ks=>dropK ks nf) qf t).at objs qt=some d1)(e2:kids objs d1=some k1):(pickK k1 nt).isSome=(pickK kt nt).isSome/\k1.length<=kt.length/\(qf=qt->k1.length<kt.length):=by
 obtain⟨m1,m2⟩:=at_mod objs (fun ks=>dropK ks nf) qf t df kf ha hk;by_cases h:qf <+: qt
 ·obtain⟨s,rfl⟩:=h
  cases s with
  | nil=>
   rw[List.append_nil] at hb e1 hne ⊢;rw[m2] at e1;cases e1;rw[ha] at hb;cases hb;rw[hk] at hkt;cases hkt;have e2':some (dropK kf nf)=some k1:=e2;cases e2';have hn:nt≠nf:=fun e=>hne (by rw[e])
   have hl:=dropK_length ht;have hl2:=thereK_lt ht;exact⟨by rw[pick_drop hr ht,zzB hn],by omega,fun _=>by omega⟩
  | cons m r=>
   have hm:m≠nf:=fun e=>hnf (by rw[e];exact⟨r,by simp⟩);rw[m1,pick_drop hr ht,zzB hm] at e1;rw[at_append,ha,Option.bind_some,at_cons,hk,Option.bind_some] at hb;rw[hb] at e1;cases e1;rw[hkt] at e2;cases e2;exact⟨rfl,zzC _,fun e=>by have:=congrArg List.length e;simp at this⟩
 ·by_cases h2:qt <+: qf
  ·obtain⟨m,hm,hxm⟩:=prefix_get h2 (fun e=>h (e ▸ List.prefix_refl _))
   obtain⟨r,hr'⟩:=hxm;have hr':qf=qt++m :: r:=by rw[<-hr'];simp
   rw[hr'] at ha e1;obtain⟨dq,kq,h1,h2,h3⟩:=at_mod_way objs (fun ks=>dropK ks nf) qt m r t df ha;rw[hb] at h1;cases h1;rw[hkt] at h2;cases h2;rw[h3] at e1;cases e1;have e2':=e2;simp only[kids,Option.some.injEq] at e2';rw[<-e2'];refine⟨?_,by rw[List.length_map];exact zzC _,fun e=>by rw[hr'] at e;have:=congrArg List.length e;simp at this⟩;rw[pick_map];split
   ·cases pickK kt nt <;> rfl
   ·rfl
  ·rw[at_mod_other objs _ qf qt t df ha h2 h,hb] at e1
   cases e1;rw[hkt] at e2;cases e2;exact⟨rfl,zzC _,fun e=>absurd (e ▸ List.prefix_refl _) h⟩
theorem not_above {objs:List Ob}{t:LT}{qf qt:List ByteArray}{nf nt:ByteArray}{df dt c:LT}{kf kt:Kids}(ha:t.at objs qf=some df)(hk:kids objs df=some kf)(hp:pickK kf nf=some c)(hb:t.at objs qt=some dt)(hkt:kids objs dt=some kt)(hne:qt ++ [nt]≠qf ++ [nf])
  (hroom:∀e,pickK kt nt=some e->kids objs e=none\/kids objs e=some []):¬(qt ++ [nt]) <+: (qf ++ [nf]):=by
 rintro ⟨r,hr⟩;have hc:t.at objs (qf ++ [nf])=some c:=by rw[at_append,ha,Option.bind_some,at_cons,hk,Option.bind_some,hp,Option.bind_some,at_nil]
 cases r with
 | nil=>rw[List.append_nil] at hr;exact hne hr
 | cons m r=>
  rw[<-hr] at hc;cases he:pickK kt nt with
  | none=>
   rw[List.append_assoc,at_append,hb,Option.bind_some,List.singleton_append,at_cons,hkt,Option.bind_some,he] at hc;cases hc
  | some e=>
   have hae:t.at objs (qt ++ [nt])=some e:=by rw[at_append,hb,Option.bind_some,at_cons,hkt,Option.bind_some,he,Option.bind_some,at_nil]
   rw[below_none hae (hroom e he)] at hc;cases hc
section
variable {s i p:Nat}{B:WB}{objs:List Ob}
theorem carryF_any {tg:Tags}{w:World}{g:WG}{lim:Nat}(h:WInv tg w s i p B objs g lim)(hl:lim<1099511627776){src dst:List ByteArray}(hsrc:Good src)(hdG:Good dst)(hdst:∀x,dst <+: x->g.ft.of x=none)(hlen:∀x f,src <+: x->g.ft.of x=some f->dst.length+(x.length-src.length)<=5):
  Calls prog 144 #[.map (some B.oF),.agg (pathA src),.agg (pathA dst)] w fun e w'=>e=.returned (.tuple #[])/\Moves (fun t=>t=(i,4)) tg tg w w'/\WInv tg w' s i p B objs { g with ft:={ g.ft with of:=carryG g.ft.of src dst } } lim:=by
 obtain⟨ht,⟨n,hn,hm⟩,hg⟩:=h.wp.ownF;refine (carryF_walk B.oF n _ src dst w hsrc hdG hm (by omega) (fun x hx=>by rw[hdst x hx];rfl) (fun x hx hne=>?_) (fun x hne=>?_)).mono fun e w' ⟨h1,h2,h3⟩=>⟨h1,carried_files h hdG hlen hn h2 h3⟩
 ·cases hf:g.ft.of x with
  | none=>rw[hf] at hne;exact absurd rfl hne
  | some f=>exact hlen x f hx hf
 ·cases hf:g.ft.of x with
  | none=>rw[hf] at hne;exact absurd rfl hne
  | some f=>exact hg x f hf
theorem carryD_any {tg:Tags}{w:World}{g:WG}{lim:Nat}(h:WInv tg w s i p B objs g lim)(hl:lim<1099511627776){src dst:List ByteArray}(hsrc:Good src)(hdG:Good dst)(hdst:∀x,dst <+: x->g.ft.od x=none)(hlen:∀x f,src <+: x->g.ft.od x=some f->dst.length+(x.length-src.length)<=5):
  Calls prog 145 #[.map (some B.oD),.agg (pathA src),.agg (pathA dst)] w fun e w'=>e=.returned (.tuple #[])/\Moves (fun t=>t=(i,5)) tg tg w w'/\WInv tg w' s i p B objs { g with ft:={ g.ft with od:=carryG g.ft.od src dst } } lim:=by
 obtain⟨vD,hD⟩:=h.wp.ownD;obtain⟨n,hn,hm⟩:=hD.map;refine (carryD_walk B.oD n _ src dst w hsrc hdG hm (by omega) (fun x hx=>by rw[hdst x hx];rfl) (fun x hx hne=>?_) (fun x hne=>?_)).mono fun e w' ⟨h1,h2,h3⟩=>⟨h1,carried_dirs h hD hdG hlen hn h2 h3⟩
 ·cases hf:g.ft.od x with
  | none=>rw[hf] at hne;exact absurd rfl hne
  | some f=>exact hlen x f hx hf
 ·cases hf:g.ft.od x with
  | none=>rw[hf] at hne;exact absurd rfl hne
  | some f=>exact (hD.good x f hf).1
def Kept0 (tg:Tags)(w w':World):Prop:=w.heap.size<=w'.heap.size/\∀b,b<w.heap.size->tg b=(0,0)->∀o,w'.cell? ⟨b,o,none⟩=w.cell? ⟨b,o,none⟩
theorem Kept0.of_moves {tg tg':Tags}{w w':World}(hi:2<=i)(m:Moves (Mine i) tg tg' w w'):Kept0 tg w w':=⟨m.size,fun b hb ht o=>kept_cell hi m hb ht o⟩
end
theorem lt_mono {objs:List Ob}:∀(n m:Nat) {c:LT},n<=m->LTok objs n c->LTok objs m c
 | n,m,.file id,_,h=>by
  have:kindOf objs id=1:=by cases n <;> simpa [LTok] using h
  cases m <;> simpa [LTok] using this
 | n,m,.held f,_,_=>by cases m <;> simp[LTok]
 | n,m,.dir id,hnm,h=>by
  have h1:kindOf objs id=2/\highOf objs id<=n:=by cases n <;> simpa [LTok] using h
  have h2:highOf objs id<=m:=by omega
  cases m <;> (rw[LTok];exact⟨h1.1,h2⟩)
 | 0,m,.own es,_,h=>by
  rw[LTok] at h
  subst h
  exact ok_own List.Pairwise.nil (by simp) (by simp)
 | n+1,0,.own es,hnm,_=>by omega
 | n+1,m+1,.own es,hnm,h=>by
  rw[LTok] at h ⊢
  exact⟨h.1,h.2.1,fun x hx=>⟨(h.2.2 x hx).1,lt_mono n m (by omega) (h.2.2 x hx).2⟩⟩
theorem ents_kids {objs:List Ob}(hS:Sound objs){n:Nat}{d:LT}{ks:Kids}(hok:LTok objs n d)(hk:kids objs d=some ks):Ents objs (ks.map entOf):=by
 obtain⟨q1,q2,q3⟩:=ok_kids hS hok hk;refine⟨by rw[map_ent];exact mapK_rising _ q1,by rw[List.length_map];exact q2,fun e he=>?_⟩;obtain⟨x,hx,rfl⟩:=List.mem_map.1 he;obtain⟨h1,m,_,h3⟩:=q3 x hx;exact⟨h1,lt_entOk h3 x.1⟩
section
variable {s i p:Nat}{B:WB}{objs:List Ob}
def TreeAt (B:WB)(w:World):Prop:=B.bt<w.heap.size/\w.cell? ⟨B.bt,7,none⟩=some (.map (some B.oF))/\w.cell? ⟨B.bt,8,none⟩=some (.map (some B.oD))
theorem WInv.treeAt {tg:Tags}{w:World}{g:WG}{lim:Nat}(h:WInv tg w s i p B objs g lim):TreeAt B w:=by
 obtain⟨h1,h2,h3,_⟩:=h.wp.tree.cells;exact⟨h1,h3,h2⟩
theorem mine4 {i:Nat}(t:Nat×Nat)(h:t=(i,4)):Mine i t:=.inr (by rw[h])
theorem mine5 {i:Nat}(t:Nat×Nat)(h:t=(i,5)):Mine i t:=.inr (by rw[h])
theorem rename_moves {tg:Tags}{w:World}{g:WG}{lim:Nat}{t c df dt:LT}{kf kt:Kids}(h:WInv tg w s i p B objs g lim)(hl:lim+700<1099511627776)(hF:Flat objs t g.ft)(hok:LTok objs 5 t){qf qt:List ByteArray}{nf nt:ByteArray}(hgf:Good (qf ++ [nf]))(hgq:Good (qt ++ [nt]))
  (ha:t.at objs qf=some df)(hk:kids objs df=some kf)(hp:pickK kf nf=some c)(hb:t.at objs qt=some dt)(hkt:kids objs dt=some kt)(hwf:KeptWay objs t g.fs qf)(hwt:KeptWay objs t g.fs qt)
  (hnf:¬(qf ++ [nf]) <+: (qt ++ [nt]))(hroom:∀e,pickK kt nt=some e->kids objs e=none\/kids objs e=some [])(h16:pickK kt nt=none->kt.length<16\/qf=qt)(hh:((qt.length+1:Nat):Int)+hgt objs 5 c<=5)(nm:ByteArray):
  Calls prog 138 #[.pointer (some ⟨B.bt,0,none⟩),.agg (pathA (qf ++ [nf]))] w fun e w1=>e=.returned (.tuple #[])/\Kept0 tg w w1/\
   Calls prog 135 #[.pointer (some ⟨B.bt,0,none⟩),.agg (pathA (qt ++ [nt])),.agg #[.string nm,.int .i64 c.kind,.int .i64 c.id]] w1 fun e w2=>e=.returned (.tuple #[])/\Kept0 tg w w2/\
    ∀W2,Below w2.heap.size w2 W2->Kept0 tg w W2/\TreeAt B W2/\Calls prog 144 #[.map (some B.oF),.agg (pathA (qf ++ [nf])),.agg (pathA (qt ++ [nt]))] W2 fun e w3=>e=.returned (.tuple #[])/\
     ∀W3,Below w3.heap.size w3 W3->Kept0 tg w W3/\TreeAt B W3/\Calls prog 145 #[.map (some B.oD),.agg (pathA (qf ++ [nf])),.agg (pathA (qt ++ [nt]))] W3 fun e w4=>e=.returned (.tuple #[])/\
      Left s i p B objs tg w w4 g g.fs (modG objs (fun ks=>putK ks nt c) qt (modG objs (fun ks=>dropK ks nf) qf t)) (lim+300):=by
 have hS:=h.st.sound;have hi:=h.two;have hfok:=(ok_at hS _ hok ha).2.1;have q1:=(ok_kids hS hfok hk).1;have hth:thereK kf nf=true:=by rw[<-pick_there q1,hp];rfl
 have hne:qt ++ [nt]≠qf ++ [nf]:=fun e=>hnf (e ▸ List.prefix_refl _);have hnt:=not_above ha hk hp hb hkt hne hroom;have hnq:¬(qf ++ [nf]) <+: qt:=fun hx=>hnf (hx.trans (List.prefix_append _ _));have hac:t.at objs (qf ++ [nf])=some c:=by rw[at_append,ha,Option.bind_some,at_cons,hk,Option.bind_some,hp,Option.bind_some,at_nil]
 have hokc:=(ok_at hS _ hok hac).2.1;have hlt:qt.length+1<=5:=by have:=hgq.len;simp at this;omega
 have hokc5:LTok objs (5-(qt.length+1)) c:=ok_hgt hS 5 (by
  have h1:=hokc;exact lt_mono _ _ (Nat.sub_le _ _) h1) (by omega)
 have hwy:=ownWay_flat hS hF hok ha hk hwf;have hcur:=cur_at ha hk;have hE1:Ents objs (curK objs t qf):=by rw[hcur];exact ents_kids hS hfok hk
 have hth1:thereK (curK objs t qf) nf=true:=by rw[hcur,there_ent];exact hth
 obtain⟨d1,k1,e1,e2,hFl,hway2⟩:=flat_rename hS hF hok ha hk hp hb hkt hwf hwt hnf hnt;obtain⟨x1,x2,x3⟩:=drop_kids q1 ha hk hth hb hkt hnq hne e1 e2;have hok1:=drop_ok hS hok ha hk nf;have hd1:=(ok_at hS _ hok1 e1).2.1;have hcur2:=cur_at e1 e2;have hE2:Ents objs (curK objs (modG objs (fun ks=>dropK ks nf) qf t) qt):=by rw[hcur2];exact ents_kids hS hd1 e2
 have hpk:thereK (curK objs (modG objs (fun ks=>dropK ks nf) qf t) qt) nt=(pickK kt nt).isSome:=by rw[hcur2,there_ent,<-pick_there (ok_kids hS hd1 e2).1,x1]
 obtain⟨t1,t2,t3⟩:=takeF_maps hwy nf;obtain⟨p1,p2,p3,p4,p5⟩:=putF_maps hway2 nt (c.kind,c.id);have hEn:EntOk objs (nt,c.kind,c.id):=lt_entOk hokc nt;have hbelow:∀r,t.at objs (qt++nt :: r)≠none->∃e,pickK kt nt=some e/\r = []:=fun r hr=>by
  cases he:pickK kt nt with
  | none=>rw[at_append,hb,Option.bind_some,at_cons,hkt,Option.bind_some,he] at hr;exact absurd rfl hr
  | some e=>
   cases r with
   | nil=>exact⟨e,rfl,rfl⟩
   | cons m r=>
    have hae:t.at objs (qt ++ [nt])=some e:=by rw[at_append,hb,Option.bind_some,at_cons,hkt,Option.bind_some,he,Option.bind_some,at_nil]
    have:=below_none hae (hroom e he) m r
    rw[List.append_assoc,List.singleton_append] at this;exact absurd this hr
 have hdst:∀x,(qt ++ [nt]) <+: x->(putF objs g.fs (takeF objs g.fs g.ft qf nf) qt nt (c.kind,c.id)).od x=none/\(putF objs g.fs (takeF objs g.fs g.ft qf nf) qt nt (c.kind,c.id)).of x=none:=by
  rintro x ⟨r,rfl⟩;rw[List.append_assoc,List.singleton_append];have hnone:r ≠ []\/pickK kt nt=none->t.at objs (qt++nt :: r)=none:=fun hr=>by
   cases hx:t.at objs (qt++nt :: r) with
   | none=>rfl
   | some y=>
    obtain⟨e,he1,he2⟩:=hbelow r (by rw[hx];simp);rcases hr with hr | hr
    ·exact absurd he2 hr
    ·rw[he1] at hr;cases hr
  have hq1:qt++nt :: r≠qt:=fun e=>by have:=congrArg List.length e;simp at this
  have hq2:¬(qt++nt :: r) <+: qt:=fun e=>by have:=e.length_le;simp at this;omega
  have hf1:qt++nt :: r≠qf:=fun e=>hnt (by rw[<-e];exact⟨r ++ [nf],by simp⟩);have hf2:¬(qt++nt :: r) <+: qf:=fun e=>hnt ((List.IsPrefix.trans ⟨r,by simp⟩ e).trans (List.prefix_append _ _));by_cases hr:r = []
  ·subst hr
   rw[p4,p5];by_cases hth2:thereK (curK objs (modG objs (fun ks=>dropK ks nf) qf t) qt) nt=true
   ·rw[zzD hth2,zzD hth2];exact⟨rfl,rfl⟩
   ·have hpn:pickK kt nt=none:=by
     rw[hpk] at hth2;cases hc:pickK kt nt with
     | none=>rfl
     | some y=>rw[hc] at hth2;exact absurd rfl hth2
    rw[zzB hth2,zzB hth2,t2,zzB hf1,zzB hf2,t3,hF.od,hF.of,hnone (.inr hpn)];exact⟨rfl,rfl⟩
  ·have hx:qt++nt :: r≠qt ++ [nt]:=fun e=>hr (by simpa using e)
   rw[p2 _ hx,p3 _ hx,zzB hq1,zzB hq2,t2,zzB hf1,zzB hf2,t3,hF.od,hF.of,hnone (.inl hr)];exact⟨rfl,rfl⟩
 have hsrcat:∀x,(qf ++ [nf]) <+: x->(putF objs g.fs (takeF objs g.fs g.ft qf nf) qt nt (c.kind,c.id)).od x=odOf (t.at objs x)/\(putF objs g.fs (takeF objs g.fs g.ft qf nf) qt nt (c.kind,c.id)).of x=ofOf (t.at objs x)/\(t.at objs x≠none->(qt ++ [nt]).length+(x.length-(qf ++ [nf]).length)<=5):=by
  rintro x ⟨r,rfl⟩;have hx:(qf ++ [nf])++r≠qt ++ [nt]:=fun e=>hnf (by rw[<-e];exact List.prefix_append _ _)
  have hq1:(qf ++ [nf])++r≠qt:=fun e=>hnq (by rw[<-e];exact List.prefix_append _ _);have hq2:¬((qf ++ [nf])++r) <+: qt:=fun e=>hnq ((List.prefix_append _ _).trans e);have hf1:(qf ++ [nf])++r≠qf:=fun e=>by have:=congrArg List.length e;simp at this;try omega
  have hf2:¬((qf ++ [nf])++r) <+: qf:=fun e=>by have:=e.length_le;simp at this;omega
  refine⟨by rw[p2 _ hx,zzB hq1,zzB hq2,t2,zzB hf1,zzB hf2,hF.od],by rw[p3 _ hx,t3,hF.of],fun hr=>?_⟩;cases hy:t.at objs ((qf ++ [nf])++r) with
  | none=>exact absurd hy hr
  | some y=>
   rw[at_append,hac,Option.bind_some] at hy
   have:=(ok_at hS _ hokc5 hy).1
   simp;omega
 obtain⟨vD,hvD⟩:=h.wp.ownD;refine (take_any h hvD (by omega) hgf hwy hE1 hth1).mono ?_;rintro e w1 ⟨rfl,tg1,vD1,m1,hW1,hD1⟩;refine⟨rfl,Kept0.of_moves hi m1,?_⟩;have hput:Calls prog 135 #[.pointer (some ⟨B.bt,0,none⟩),.agg (pathA (qt ++ [nt])),.agg #[.string nm,.int .i64 c.kind,.int .i64 c.id]] w1 fun en w'=>en=.returned (.tuple #[])/\∃tg' vD',Moves (Mine i) tg1 tg' w1 w'/\
   WInv tg' w' s i p B objs { g with ft:=putF objs g.fs (takeF objs g.fs g.ft qf nf) qt nt (c.kind,c.id) } (lim+150+150)/\OwnDV tg' w' i B (putF objs g.fs (takeF objs g.fs g.ft qf nf) qt nt (c.kind,c.id)).od (lim+150+150) vD':=by
  cases hth2:thereK (curK objs (modG objs (fun ks=>dropK ks nf) qf t) qt) nt with
  | true=>exact put_over hW1 hD1 (by omega) hgq hway2 hE2 hth2 nm c.kind c.id hEn
  | false=>
   refine put_new hW1 hD1 (by omega) hgq hway2 hE2 hth2 ?_ nm c.kind c.id hEn;rw[hcur2,List.length_map];have hpn:pickK kt nt=none:=by
    rw[hpk] at hth2;cases hc:pickK kt nt with
    | none=>rfl
    | some y=>rw[hc] at hth2;cases hth2
   have hk16:=(ok_kids hS (ok_at hS _ hok hb).2.1 hkt).2.1;rcases h16 hpn with hx | hx
   ·omega
   ·have:=x3 hx;omega
 refine hput.mono ?_;rintro e w2 ⟨rfl,tg2,vD2,m2,hW2,hD2⟩;have m12:=m1.trans m2;refine⟨rfl,Kept0.of_moves hi m12,fun W2 hb2=>?_⟩;have hWB:=hW2.below hb2;have m12b:=m12.trans (Moves.of_below hb2);refine⟨Kept0.of_moves hi m12b,hWB.treeAt,?_⟩;refine (carryF_any hWB (by omega) hgf hgq (fun x hx=>(hdst x hx).2) (fun x f hx hf=>?_)).mono ?_
 ·obtain⟨_,a2,a3⟩:=hsrcat x hx
  have hf':(putF objs g.fs (takeF objs g.fs g.ft qf nf) qt nt (c.kind,c.id)).of x=some f:=hf;rw[a2] at hf';exact a3 (fun e=>by rw[e] at hf';cases hf')
 ·rintro e w3 ⟨rfl,m3,hW3⟩
  refine⟨rfl,fun W3 hb3=>?_⟩;have hWC:=hW3.below hb3;have m123:=(m12b.trans (m3.mono mine4)).trans (Moves.of_below hb3);refine⟨Kept0.of_moves hi m123,hWC.treeAt,?_⟩;refine (carryD_any hWC (by omega) hgf hgq (fun x hx=>(hdst x hx).1) (fun x f hx hf=>?_)).mono ?_
  ·obtain⟨a1,_,a3⟩:=hsrcat x hx
   have hf':(putF objs g.fs (takeF objs g.fs g.ft qf nf) qt nt (c.kind,c.id)).od x=some f:=hf;rw[a1] at hf';exact a3 (fun e=>by rw[e] at hf';cases hf')
  ·rintro e w4 ⟨rfl,m4,hW4⟩
   refine⟨rfl,tg2,_,m123.trans (m4.mono mine5),hW4,hFl,?_⟩;exact put_ok hS hok1 e1 e2 (hgq.val nt (by simp)) (by omega) hokc5 (by
    rw[<-pick_there (ok_kids hS hd1 e2).1,x1];cases hc:pickK kt nt with
    | some y=>exact .inl rfl
    | none=>
     right
     have hk16:=(ok_kids hS (ok_at hS _ hok hb).2.1 hkt).2.1;rcases h16 hc with hx | hx
     ·omega
     ·have:=x3 hx;omega)
end
theorem yields_next {objs:List Ob}{fs:FS}{e c:LT}(h:(yieldsG objs fs e c).2=0):fs.Next (yieldsG objs fs e c).1/\(kids objs e=none\/kids objs e=some []):=by
 unfold yieldsG at h ⊢;by_cases h1:e.kind=2/\c.kind=1
 ·rw[zzD h1] at h;cases h
 ·rw[zzB h1] at h ⊢
  by_cases h2:e.kind=1/\c.kind=2
  ·rw[zzD h2] at h;cases h
  ·rw[zzB h2] at h ⊢
   exact vacant_next h
theorem room_next {objs:List Ob}{fs:FS}{b:Bool}{ks:Kids}{n:ByteArray}{c:LT}(h:(roomG objs fs b ks n c).2=0):fs.Next (roomG objs fs b ks n c).1/\(∀e,pickK ks n=some e->kids objs e=none\/kids objs e=some [])/\(pickK ks n=none->ks.length<16\/b=true):=by
 unfold roomG at h ⊢;cases hp:pickK ks n with
 | some e=>
  rw[hp] at h;simp only at h ⊢;obtain⟨h1,h2⟩:=yields_next h;exact⟨h1,fun e' he=>by cases he;exact h2,fun hn=>by cases hn⟩
 | none=>
  rw[hp] at h;simp only at h ⊢;by_cases h16:16<=ks.length/\b=false
  ·rw[zzD h16] at h;cases h
  ·rw[zzB h16]
   refine⟨FS.Next.refl _,fun e he=>(by cases he),fun _=>?_⟩;by_cases hl:ks.length<16
   ·exact .inl hl
   ·right
    cases b with
    | true=>rfl
    | false=>exact absurd ⟨by omega,rfl⟩ h16
section
variable {s i p:Nat}{B:WB}{objs:List Ob}
theorem room_any {tg:Tags}{w:World}{g:WG}{lim:Nat}{t c d:LT}(h:WInv tg w s i p B objs g lim)(hl:lim+10<1099511627776)(hF:Flat objs t g.ft)(hok:LTok objs 5 t){rf rt:List ByteArray}{nf nt:ByteArray}(hgf:Good (rf.reverse ++ [nf]))(hgq:Good (rt.reverse ++ [nt])){ks:Kids}(ha:t.at objs rt.reverse=some d)(hk:kids objs d=some ks){v:Value}(hs:Slc tg w i v (ks.map entOf))(nx:ByteArray):
  Calls prog 141 #[.pointer (some ⟨B.bt,0,none⟩),.agg (pathA (rf.reverse ++ [nf])),.agg (pathA (rt.reverse ++ [nt])),.agg #[.string nx,.int .i64 c.kind,.int .i64 c.id],v] w fun en w'=>en=.returned (.int .i64 (roomG objs g.fs (decide (rf=rt)) ks nt c).2)/\DidF s i p B objs tg w w' { g with fs:=(roomG objs g.fs (decide (rf=rt)) ks nt c).1 } (lim+1):=by
 unfold roomG;cases hp:pickK ks nt with
 | some e=>exact room_there h hl hF hok hgf hgq ha hk hp hs nx
 | none=>
  have hc:(16<=ks.length/\decide (rf=rt)=false)↔(16<=ks.length/\rf.reverse≠rt.reverse):=by
   simp[List.reverse_inj]
  refine (room_free h hF hok hgf hgq ha hk hp hs nx c.kind c.id).mono fun en w' ⟨h1,h2⟩=>?_;simp only[hc];by_cases h16:16<=ks.length/\rf.reverse≠rt.reverse
  ·rw[zzD h16] at h1 ⊢;exact⟨h1,h2.mono (Nat.le_succ _)⟩
  ·rw[zzB h16] at h1 ⊢;exact⟨h1,h2.mono (Nat.le_succ _)⟩
end
def cell5 (w':World)(a:Nat)(p0 p1 p2 p3 p4:ByteArray):Prop:=w'.cell? ⟨a,0,none⟩=some (.string p0)/\w'.cell? ⟨a,1,none⟩=some (.string p1)/\w'.cell? ⟨a,2,none⟩=some (.string p2)/\w'.cell? ⟨a,3,none⟩=some (.string p3)/\w'.cell? ⟨a,4,none⟩=some (.string p4)
theorem cell5.keep {w w':World}{a:Nat}{p0 p1 p2 p3 p4:ByteArray}(h:cell5 w a p0 p1 p2 p3 p4)(ha:∀o,w'.cell? ⟨a,o,none⟩=w.cell? ⟨a,o,none⟩):cell5 w' a p0 p1 p2 p3 p4:=by
 unfold cell5 at h ⊢;simp only[ha];exact h
def Two5 (w':World)(a b:Nat)(s0 s1 s2 s3 s4 d0 d1 d2 d3 d4:ByteArray):Prop:=w'.cell? ⟨a,0,none⟩=some (.string s0)/\w'.cell? ⟨a,1,none⟩=some (.string s1)/\w'.cell? ⟨a,2,none⟩=some (.string s2)/\w'.cell? ⟨a,3,none⟩=some (.string s3)/\w'.cell? ⟨a,4,none⟩=some (.string s4)/\w'.cell? ⟨b,0,none⟩=some (.string d0)/\w'.cell? ⟨b,1,none⟩=some (.string d1)/\w'.cell? ⟨b,2,none⟩=some (.string d2)/\w'.cell? ⟨b,3,none⟩=some (.string d3)/\w'.cell? ⟨b,4,none⟩=some (.string d4)
theorem Two5.keep {w w':World}{a b:Nat}{s0 s1 s2 s3 s4 d0 d1 d2 d3 d4:ByteArray}(h:Two5 w a b s0 s1 s2 s3 s4 d0 d1 d2 d3 d4)(ha:∀o,w'.cell? ⟨a,o,none⟩=w.cell? ⟨a,o,none⟩)(hb:∀o,w'.cell? ⟨b,o,none⟩=w.cell? ⟨b,o,none⟩):Two5 w' a b s0 s1 s2 s3 s4 d0 d1 d2 d3 d4:=by
 unfold Two5 at h ⊢;simp only[ha,hb];exact h
theorem Two5.below {w w':World}{a b:Nat}{s0 s1 s2 s3 s4 d0 d1 d2 d3 d4:ByteArray}(h:Two5 w a b s0 s1 s2 s3 s4 d0 d1 d2 d3 d4)(hw:Below w.heap.size w w')(ha:a<w.heap.size)(hb:b<w.heap.size):Two5 w' a b s0 s1 s2 s3 s4 d0 d1 d2 d3 d4:=
 h.keep (fun o=>(bcell hw).1 a o ha) (fun o=>(bcell hw).1 b o hb)
theorem two_start (w:World)(s0 s1 s2 s3 s4 d0 d1 d2 d3 d4:ByteArray):Two5 ((w.alloc (.cells #[.string s0,.string s1,.string s2,.string s3,.string s4] 147)).alloc (.cells #[.string d0,.string d1,.string d2,.string d3,.string d4] 147)).drew w.heap.size (w.heap.size+1) s0 s1 s2 s3 s4 d0 d1 d2 d3 d4/\w.heap.size<((w.alloc (.cells #[.string s0,.string s1,.string s2,.string s3,.string s4] 147)).alloc (.cells #[.string d0,.string d1,.string d2,.string d3,.string d4] 147)).drew.heap.size/\w.heap.size+1<((w.alloc (.cells #[.string s0,.string s1,.string s2,.string s3,.string s4] 147)).alloc (.cells #[.string d0,.string d1,.string d2,.string d3,.string d4] 147)).drew.heap.size/\Below w.heap.size w ((w.alloc (.cells #[.string s0,.string s1,.string s2,.string s3,.string s4] 147)).alloc (.cells #[.string d0,.string d1,.string d2,.string d3,.string d4] 147)).drew:=by
 refine⟨?_,by simp;omega,by simp,below_drew (((Below.refl _ _).alloc (zzC _) _).alloc (by simp) _)⟩;have h1:=heap_alloc2_old w (.cells #[.string s0,.string s1,.string s2,.string s3,.string s4] 147) (.cells #[.string d0,.string d1,.string d2,.string d3,.string d4] 147);have h2:=heap_alloc2_new w (.cells #[.string s0,.string s1,.string s2,.string s3,.string s4] 147) (.cells #[.string d0,.string d1,.string d2,.string d3,.string d4] 147);obtain⟨_,a0,a1,a2,a3,a4,_⟩:=cells5 h1;obtain⟨_,b0,b1,b2,b3,b4,_⟩:=cells5 h2;exact⟨a0,a1,a2,a3,a4,b0,b1,b2,b3,b4⟩
theorem Two5.kept {tg:Tags}{w w':World}{a b:Nat}{s0 s1 s2 s3 s4 d0 d1 d2 d3 d4:ByteArray}(h:Two5 w a b s0 s1 s2 s3 s4 d0 d1 d2 d3 d4)(k:Kept0 tg w w')(ha:a<w.heap.size)(hb:b<w.heap.size)(ta:tg a=(0,0))(tb:tg b=(0,0)):Two5 w' a b s0 s1 s2 s3 s4 d0 d1 d2 d3 d4:=
 h.keep (k.2 a ha ta) (k.2 b hb tb)
theorem Two5.and {w':World}{a b:Nat}{s0 s1 s2 s3 s4 d0 d1 d2 d3 d4:ByteArray}(h:Two5 w' a b s0 s1 s2 s3 s4 d0 d1 d2 d3 d4){q:Prop}(hq:q):w'.cell? ⟨a,0,none⟩=some (.string s0)/\w'.cell? ⟨a,1,none⟩=some (.string s1)/\w'.cell? ⟨a,2,none⟩=some (.string s2)/\w'.cell? ⟨a,3,none⟩=some (.string s3)/\w'.cell? ⟨a,4,none⟩=some (.string s4)/\w'.cell? ⟨b,0,none⟩=some (.string d0)/\w'.cell? ⟨b,1,none⟩=some (.string d1)/\w'.cell? ⟨b,2,none⟩=some (.string d2)/\w'.cell? ⟨b,3,none⟩=some (.string d3)/\w'.cell? ⟨b,4,none⟩=some (.string d4)/\q:=by
 obtain⟨h0,h1,h2,h3,h4,h5,h6,h7,h8,h9⟩:=h;exact⟨h0,h1,h2,h3,h4,h5,h6,h7,h8,h9,hq⟩
def Ent3 (w':World)(a:Nat)(n:ByteArray)(k id:Int):Prop:=w'.cell? ⟨a,0,none⟩=some (.string n)/\w'.cell? ⟨a,1,none⟩=some (.int .i64 k)/\w'.cell? ⟨a,2,none⟩=some (.int .i64 id)
theorem Ent3.keep {w w':World}{a:Nat}{n:ByteArray}{k id:Int}(h:Ent3 w a n k id)(ha:∀o,w'.cell? ⟨a,o,none⟩=w.cell? ⟨a,o,none⟩):Ent3 w' a n k id:=by
 unfold Ent3 at h ⊢;simp only[ha];exact h
theorem Ent3.of_block {w:World}{b:Nat}{n:ByteArray}{k id:Int}{t:TypeId}(h:w.heap[b]? = some (.cells #[.string n,.int .i64 k,.int .i64 id] t (0,0))):Ent3 w b n k id:=
 ⟨by simp[World.cell?,h],by simp[World.cell?,h],by simp[World.cell?,h]⟩
theorem ent_start (w:World)(n:ByteArray)(k id:Int):Ent3 (w.alloc (.cells #[.string n,.int .i64 k,.int .i64 id] 96)) w.heap.size n k id:=.of_block (heap_alloc_new w _)
section
variable {s i p:Nat}{B:WB}{objs:List Ob}
theorem rename_last {tg:Tags}{w9 w13:World}{g:WG}{fs':FS}{t':LT}{lim a b:Nat}{s0 s1 s2 s3 s4 d0 d1 d2 d3 d4:ByteArray}(h:Two5 w9 a b s0 s1 s2 s3 s4 d0 d1 d2 d3 d4)(ha:a<w9.heap.size)(hb:b<w9.heap.size)(ta:tg a=(0,0))(tb:tg b=(0,0))(hi:2<=i)(hL:Left s i p B objs tg w9 w13 g fs' t' lim):
  w13.cell? ⟨a,0,none⟩=some (.string s0)/\w13.cell? ⟨a,1,none⟩=some (.string s1)/\w13.cell? ⟨a,2,none⟩=some (.string s2)/\w13.cell? ⟨a,3,none⟩=some (.string s3)/\w13.cell? ⟨a,4,none⟩=some (.string s4)/\w13.cell? ⟨b,0,none⟩=some (.string d0)/\w13.cell? ⟨b,1,none⟩=some (.string d1)/\w13.cell? ⟨b,2,none⟩=some (.string d2)/\w13.cell? ⟨b,3,none⟩=some (.string d3)/\w13.cell? ⟨b,4,none⟩=some (.string d4)/\w13.cell? ⟨B.bt,8,none⟩=some (.map (some B.oD)):=by
 obtain⟨tgL,ftL,mL,hWL,_,_⟩:=hL;exact (Two5.kept h (Kept0.of_moves hi mL) ha hb ta tb).and hWL.treeAt.2.2
theorem rename_walk {tg:Tags}{w:World}{g:WG}{lim:Nat}{t:LT}(h:WInv tg w s i p B objs g lim)(hl:lim+1000<1099511627776)(hF:Flat objs t g.ft)(hok:LTok objs 5 t){nf nt:ByteArray}{rf rt:List ByteArray}(hgf:Good (rf.reverse ++ [nf]))(hgq:Good (rt.reverse ++ [nt])):
  Calls prog 72 #[.pointer (some ⟨B.bt,0,none⟩),.agg (pathA (rf.reverse ++ [nf])),.agg (pathA (rt.reverse ++ [nt]))] w fun en w'=>en=.returned (.int .i64 (renameR objs t g.fs (nf :: rf) (nt :: rt)).2.1)/\Left s i p B objs tg w w' g (renameR objs t g.fs (nf :: rf) (nt :: rt)).1 (renameR objs t g.fs (nf :: rf) (nt :: rt)).2.2 (lim+400):=by
 have hS:=h.st.sound;have hi:=h.two;have hrf:rf.length<=4:=by have:=hgf.len;simp at this;omega
 have hrt:rt.length<=4:=by have:=hgq.len;simp at this;omega
 have hfind:=fun W (hb:Below w.heap.size w W)=>find_all (s:=s) (i:=i) (p:=p) (B:=B) (objs:=objs) (nf :: rf) tg W g lim (h.below hb) (by omega) (by rw[List.reverse_cons];exact hgf);rw[List.reverse_cons] at hfind;obtain⟨f1,f2,f3⟩:=flat_find hS hF hok g.fs (nf :: rf);simp only[f1,f2] at hfind;have hmk:renameR objs t g.fs (nf :: rf) (nt :: rt)=if (findR objs t g.fs (nf :: rf)).2.1≠0 then ((findR objs t g.fs (nf :: rf)).1,(findR objs t g.fs (nf :: rf)).2.1,t) else if (nf :: rf).reverse <+: (nt :: rt).reverse/\nf :: rf≠nt :: rt then ((findR objs t g.fs (nf :: rf)).1,9,t) else
   if (lookR objs t (findR objs t g.fs (nf :: rf)).1 rt).2.1≠0\/nf :: rf=nt :: rt then ((lookR objs t (findR objs t g.fs (nf :: rf)).1 rt).1,(lookR objs t (findR objs t g.fs (nf :: rf)).1 rt).2.1,t) else
   if (roomG objs (lookR objs t (findR objs t g.fs (nf :: rf)).1 rt).1 (decide (rf=rt)) (lookR objs t (findR objs t g.fs (nf :: rf)).1 rt).2.2 nt (findR objs t g.fs (nf :: rf)).2.2).2≠0 then ((roomG objs (lookR objs t (findR objs t g.fs (nf :: rf)).1 rt).1 (decide (rf=rt)) (lookR objs t (findR objs t g.fs (nf :: rf)).1 rt).2.2 nt (findR objs t g.fs (nf :: rf)).2.2).1,(roomG objs (lookR objs t (findR objs t g.fs (nf :: rf)).1 rt).1 (decide (rf=rt)) (lookR objs t (findR objs t g.fs (nf :: rf)).1 rt).2.2 nt (findR objs t g.fs (nf :: rf)).2.2).2,t) else
   if 5<((rt.length+1:Nat):Int)+hgt objs 5 (findR objs t g.fs (nf :: rf)).2.2 then ((roomG objs (lookR objs t (findR objs t g.fs (nf :: rf)).1 rt).1 (decide (rf=rt)) (lookR objs t (findR objs t g.fs (nf :: rf)).1 rt).2.2 nt (findR objs t g.fs (nf :: rf)).2.2).1,11,t) else
   ((roomG objs (lookR objs t (findR objs t g.fs (nf :: rf)).1 rt).1 (decide (rf=rt)) (lookR objs t (findR objs t g.fs (nf :: rf)).1 rt).2.2 nt (findR objs t g.fs (nf :: rf)).2.2).1,0,modG objs (fun ks=>putK ks nt (findR objs t g.fs (nf :: rf)).2.2) rt.reverse (modG objs (fun ks=>dropK ks nf) rf.reverse t)):=rfl
 generalize renameR objs t g.fs (nf :: rf) (nt :: rt)=M at hmk ⊢;have hfw:∀{fs':FS} {c:LT},findR objs t g.fs (nf :: rf)=(fs',0,c)->_:=fun {_ _} h=>find_way h
 generalize findR objs t g.fs (nf :: rf)=a at hfind f3 hmk hfw;obtain⟨fs1,er,c⟩:=a;simp only at hfind f3 hmk;generalize findF objs g.ft g.fs (nf :: rf)=af at hfind f3;obtain⟨_,_,en,ek,eid⟩:=af;simp only[List.headD_cons,Prod.mk.injEq] at hfind f3;have HMK:Hid _:=hmk;have heq1:∀W,(Op.equalIn 10000 147 (pathV (rf.reverse ++ [nf])) (pathV [])).run prog W=.ok false W:=fun W=>by
  have:=run_eqP hgf Good.nil W
  rw[zzE (by simp)] at this;exact this
 have heq2:∀W,(Op.equalIn 10000 147 (pathV (rt.reverse ++ [nt])) (pathV [])).run prog W=.ok false W:=fun W=>by
  have:=run_eqP hgq Good.nil W
  rw[zzE (by simp)] at this;exact this
 have heq3:∀W,(Op.equalIn 10000 147 (pathV (rf.reverse ++ [nf])) (pathV (rt.reverse ++ [nt]))).run prog W=.ok (decide (rf.reverse ++ [nf]=rt.reverse ++ [nt])) W:=fun W=>run_eqP hgf hgq W;have hroot:=fun W=>root_any W;have hbel:=fun W=>below_any (rt.reverse ++ [nt]) (rf.reverse ++ [nf]) hgq hgf W;have hpar:=fun W=>parent_any (rt.reverse ++ [nt]) hgq W;rw[List.dropLast_concat] at hpar;have hdep:=fun W=>depth_any (rt.reverse ++ [nt]) hgq.val hgq.len W;obtain⟨s0,s1,s2,s3,s4,hP⟩:∃s0 s1 s2 s3 s4,pathA (rf.reverse ++ [nf]) = #[.string s0,.string s1,.string s2,.string s3,.string s4]:=⟨_,_,_,_,_,rfl⟩;obtain⟨d0,d1,d2,d3,d4,hQ⟩:∃s0 s1 s2 s3 s4,pathA (rt.reverse ++ [nt]) = #[.string s0,.string s1,.string s2,.string s3,.string s4]:=⟨_,_,_,_,_,rfl⟩;obtain⟨r0,r1,r2,r3,r4,hR⟩:∃s0 s1 s2 s3 s4,pathA rt.reverse = #[.string s0,.string s1,.string s2,.string s3,.string s4]:=⟨_,_,_,_,_,rfl⟩;unfold pathV at hroot heq1 heq2 heq3 hbel hpar hdep;simp only[hP,hQ,hR] at heq1 heq2 heq3 hfind hbel hpar hdep;rw[hP,hQ];unfold pathA at hroot heq1 heq2;simp only[List.getD_nil] at hroot heq1 heq2;have HP:Hid _:=And.intro hP (And.intro hQ hR);have H0:Hid _:=h;have HFl:Hid _:=hF;have HOk:Hid _:=hok;have HS:Hid (Sound objs):=hS;have HFIND:Hid _:=hfind;have HFW:Hid (∀{fs'':FS} {c':LT},(fs1,er,c)=(fs'',0,c')->_):=hfw;have HF3:Hid _:=f3;have HGP:Hid _:=And.intro hgf hgq;have HE3:Hid _:=heq3;have HBEL:Hid _:=hbel;have HPAR:Hid _:=hpar;have HDEP:Hid _:=hdep;obtain⟨hSD,z0,z1,bz0⟩:=two_start w s0 s1 s2 s3 s4 d0 d1 d2 d3 d4;have bz:=Below.refl ((w.alloc (.cells #[.string s0,.string s1,.string s2,.string s3,.string s4] 147)).alloc (.cells #[.string d0,.string d1,.string d2,.string d3,.string d4] 147)).drew.heap.size ((w.alloc (.cells #[.string s0,.string s1,.string s2,.string s3,.string s4] 147)).alloc (.cells #[.string d0,.string d1,.string d2,.string d3,.string d4] 147)).drew;have HZ:Hid _:=And.intro z0 (And.intro z1 bz0);clear h hF hok hS hP hQ hR hfind hfw hgf hgq hmk f1 f2 f3 heq3 hbel hpar hdep z0 z1 bz0;go_enter func72,ntmps72;go_wp2
 go_region_held3 (fun w'=>w'.cell? ⟨w.heap.size,0,none⟩=some (.string s0)/\w'.cell? ⟨w.heap.size,1,none⟩=some (.string s1)/\w'.cell? ⟨w.heap.size,2,none⟩=some (.string s2)/\w'.cell? ⟨w.heap.size,3,none⟩=some (.string s3)/\w'.cell? ⟨w.heap.size,4,none⟩=some (.string s4)/\w'.cell? ⟨w.heap.size+1,0,none⟩=some (.string d0)/\w'.cell? ⟨w.heap.size+1,1,none⟩=some (.string d1)/\w'.cell? ⟨w.heap.size+1,2,none⟩=some (.string d2)/\w'.cell? ⟨w.heap.size+1,3,none⟩=some (.string d3)/\w'.cell? ⟨w.heap.size+1,4,none⟩=some (.string d4)) (first | exact hSD | exact hS1) (first | (go_at_call 75;refine (hroot _).mono ?_;rintro e w1 ⟨rfl,hb1⟩;replace bz:=below_via bz hb1;have hS1:=hSD.below bz HZ.out.1 HZ.out.2.1))
 have b1:Below w.heap.size w w1:=below_via HZ.out.2.2 bz;have hz1:w.heap.size+1<w1.heap.size:=zzA HZ.out.2.1 bz.size;have hz0:w.heap.size<w1.heap.size:=Nat.lt_of_succ_lt hz1;have t0:tg w.heap.size=(0,0):=H0.out.st.fresh _ (zzC _);have t1:tg (w.heap.size+1)=(0,0):=H0.out.st.fresh _ (Nat.le_succ _);have HS1:Hid _:=hS1;obtain⟨a0,a1,a2,a3,a4,c0,c1,c2,c3,c4⟩:=hS1;clear hSD bz hroot heq1 heq2;go_wp2_with fail;refine Calls.mono (HFIND.out w1 b1) ?_;rintro e w3 ⟨rfl,hd3⟩;obtain⟨tg3,m3,hW3⟩:=hd3.out;have k3:=Kept0.of_moves hi m3;have HS3:Hid _:=Two5.kept HS1.out k3 hz0 hz1 t0 t1;have hz3:w.heap.size+1<w3.heap.size:=zzA hz1 k3.1;have hz30:w.heap.size<w3.heap.size:=Nat.lt_of_succ_lt hz3;have t03:tg3 w.heap.size=(0,0):=(m3.tags _ hz0).trans t0;have t13:tg3 (w.heap.size+1)=(0,0):=(m3.tags _ hz1).trans t1;have HM3:Hid _:=call_moves b1 m3;have HW3:Hid _:=hW3;clear hd3 m3 hW3 k3 a0 a1 a2 a3 a4 c0 c1 c2 c3 c4;obtain⟨a0,a1,a2,a3,a4,c0,c1,c2,c3,c4⟩:=HS3.out;by_cases her:er=0
 ·subst her
  obtain⟨⟨rfl,rfl,rfl⟩,hat⟩:=HF3.out rfl;obtain⟨x1,x2,x3,df,kf,x4,x5,x6⟩:=HFW.out rfl;have HX:Hid _:=And.intro x1 (And.intro x3 (And.intro x4 (And.intro x5 x6)));clear hat x1 x2 x3 x4 x5 x6;obtain⟨kc,hkc⟩:∃kc,kc=c.kind:=⟨_,rfl⟩;obtain⟨ic,hic⟩:∃ic,ic=c.id:=⟨_,rfl⟩;rw[<-hkc,<-hic];have HKI:Hid _:=And.intro hkc hic;clear hkc hic;have hbe:=HBEL.out;clear HBEL;by_cases hin:rf.reverse ++ [en] <+: rt.reverse ++ [nt]/\rt.reverse ++ [nt]≠rf.reverse ++ [en]
  ·rw[decide_eq_true hin] at hbe
   go_wp2_with (go_at_call 140;refine Calls.mono (hbe _) ?_;rintro e w4 ⟨rfl,hb4⟩);go_ret;have hmk:=HMK.out;rw[zzB (by simp),zzD (by rw[List.reverse_cons,List.reverse_cons];exact⟨hin.1,fun e=>hin.2 (by rw[List.cons.injEq] at e;rw[e.1,e.2])⟩)] at hmk;subst hmk;have hb34:=below_via ((Below.refl w3.heap.size w3).alloc (zzC _) _) hb4;exact⟨rfl,left_same (HM3.out.trans (Moves.of_below hb34)) ((HW3.out.below hb34).mono (by simp;omega)) HFl.out HOk.out⟩
  ·rw[zzE hin] at hbe
   have hb3x:Below w3.heap.size w3 (w3.alloc (.cells #[.string en,.int .i64 kc,.int .i64 ic] 96)):=(Below.refl w3.heap.size w3).alloc (zzC _) _;have hzx:w3.heap.size<(w3.alloc (.cells #[.string en,.int .i64 kc,.int .i64 ic] 96)).heap.size:=by simp
   have HE3x:Hid _:=ent_start w3 en kc ic;go_wp2_with (first
    | (go_at_call 140;refine Calls.mono (hbe _) ?_;rintro e w4 ⟨rfl,hb4⟩;have hb34:=below_via hb3x hb4;have HS4:Hid _:=Two5.below HS3.out hb34 hz30 hz3;obtain⟨a0',a1',a2',a3',a4',c0',c1',c2',c3',c4'⟩:=HS4.out;have hz4:w.heap.size+1<w4.heap.size:=zzA hz3 hb34.size;have hz4e:w3.heap.size<w4.heap.size:=zzA hzx hb4.size)
    | (go_at_call 132;refine Calls.mono (HPAR.out _) ?_;rintro e w5 ⟨rfl,hb5⟩;have hb35:=below_via hb34 hb5))
   have hx5:=below_via hb4 hb5;have HS5:Hid _:=Two5.below HS3.out hb35 hz30 hz3;have HE5:Hid _:=Ent3.keep HE3x.out (fun o=>(bcell hx5).1 w3.heap.size o hzx);have hz5:w.heap.size+1<w5.heap.size:=zzA hz3 hb35.size;have hz50:w.heap.size<w5.heap.size:=Nat.lt_of_succ_lt hz5;have hz5e:w3.heap.size<w5.heap.size:=zzA hzx hx5.size;have t53:tg3 w3.heap.size=(0,0):=HW3.out.st.fresh _ (zzC _);have hlook:=look_all (s:=s) (i:=i) (p:=p) (B:=B) (objs:=objs) rt tg3 w5 { g with fs:=fs1 } _ (HW3.out.below hb35) (by simp;omega) (by have:=HGP.out.2.dropLast;rwa [List.dropLast_concat] at this);rw[flat_look HS.out HFl.out HOk.out fs1 rt] at hlook;rw[HP.out.2.2] at hlook;have hmk:=HMK.out;rw[zzB (by simp),zzB (by rw[List.reverse_cons,List.reverse_cons];exact fun hh=>hin ⟨hh.1,fun e=>hh.2 (by have e':=List.append_inj_left' e rfl;have e'':=List.append_inj_right' e rfl;rw[List.reverse_inj] at e';rw[e',List.cons.inj e''|>.1])⟩)] at hmk;have hlk0:=kept_of_look (objs:=objs) (t:=t) (fs:=fs1) (r:=rt);generalize lookR objs t fs1 rt=lr at hlook hmk hlk0;obtain⟨fs2,er2,ks⟩:=lr;simp only at hlook hmk hlk0;clear HMK;have HMK:Hid _:=hmk;have HLOOK:Hid _:=hlook;have HLK:Hid _:=hlk0;have HM5:Hid _:=HM3.out.trans (Moves.of_below hb35);clear hmk hlook hlk0 a0 a1 a2 a3 a4 c0 c1 c2 c3 c4 a0' a1' a2' a3' a4' c0' c1' c2' c3' c4' hb4 hb5 hx5 hb34 hb3x hbe hb35;refine Calls.mono HLOOK.out ?_;rintro e w6 ⟨v,rfl,tg6,m6,hW6,hs6⟩;have m6':=m6.mono (fun _ h=>h.mine);have k6:=Kept0.of_moves hi m6';have HS6:Hid _:=Two5.kept HS5.out k6 hz50 hz5 t03 t13;have HE6:Hid _:=Ent3.keep HE5.out (k6.2 _ hz5e t53);have hz6:w.heap.size+1<w6.heap.size:=zzA hz5 k6.1;have hz60:w.heap.size<w6.heap.size:=Nat.lt_of_succ_lt hz6;have hz6e:w3.heap.size<w6.heap.size:=zzA hz5e k6.1;have t06:tg6 w.heap.size=(0,0):=(m6.tags _ hz50).trans t03;have t16:tg6 (w.heap.size+1)=(0,0):=(m6.tags _ hz5).trans t13;have te6:tg6 w3.heap.size=(0,0):=(m6.tags _ hz5e).trans t53;have HM6:Hid _:=HM5.out.trans m6';have HW6:Hid _:=hW6;have HSL:Hid (Slc tg6 w6 i v (ks.map entOf)):=hs6;obtain⟨la,lc,rfl⟩:=hs6.len;clear m6 m6' k6 hW6 hs6;obtain⟨a0,a1,a2,a3,a4,c0,c1,c2,c3,c4⟩:=HS6.out;obtain⟨x0,x1,x2⟩:=HE6.out;by_cases her2:er2=0
   ·subst her2
    obtain⟨⟨dt,hat,hkt⟩,hnx2,hkw2⟩:=HLK.out rfl;have h3:=HE3.out;clear HE3;by_cases heq:rf.reverse ++ [en]=rt.reverse ++ [nt]
    ·rw[decide_eq_true heq] at h3
     go_wp2;go_ret;have hmk:=HMK.out;have e':=List.append_inj_left' heq rfl;have e'':=List.append_inj_right' heq rfl;rw[List.reverse_inj] at e';rw[zzD (.inr (by rw[e',(List.cons.inj e'').1]))] at hmk;subst hmk;exact⟨rfl,left_same HM6.out (HW6.out.mono (by simp;omega)) HFl.out HOk.out⟩
    ·rw[zzE heq] at h3
     have hroom:=room_any (c:=c) HW6.out (by simp;omega) HFl.out HOk.out HGP.out.1 HGP.out.2 hat hkt HSL.out en;rw[HP.out.1,HP.out.2.1,<-HKI.out.1,<-HKI.out.2,List.length_map] at hroom;have hmk:=HMK.out;rw[zzB (by simp;exact fun e1 e2=>heq (by rw[e1,e2]))] at hmk;have hrn:=room_next (objs:=objs) (fs:=fs2) (b:=decide (rf=rt)) (ks:=ks) (n:=nt) (c:=c);have hroom':=hroom;clear hroom;simp only at hroom';generalize roomG objs fs2 (decide (rf=rt)) ks nt c=V at hroom' hmk hrn;obtain⟨fs3,er3⟩:=V;simp only at hroom' hmk hrn;clear HMK;have HMK:Hid _:=hmk;have HROOM:Hid _:=hroom';have HRN:Hid _:=hrn;have HT:Hid _:=And.intro hat (And.intro hkt (And.intro hnx2 hkw2));clear hmk hroom' hrn hat hkt hnx2 hkw2;go_wp2_with fail;refine Calls.mono HROOM.out ?_;rintro e w7 ⟨rfl,hd7⟩;obtain⟨tg7,m7,hW7⟩:=hd7.out;have k7:=Kept0.of_moves hi m7;have HS7:Hid _:=Two5.kept HS6.out k7 hz60 hz6 t06 t16;have HE7:Hid _:=Ent3.keep HE6.out (k7.2 _ hz6e te6);have hz7:w.heap.size+1<w7.heap.size:=zzA hz6 k7.1;have hz70:w.heap.size<w7.heap.size:=Nat.lt_of_succ_lt hz7;have hz7e:w3.heap.size<w7.heap.size:=zzA hz6e k7.1;have t07:tg7 w.heap.size=(0,0):=(m7.tags _ hz60).trans t06;have t17:tg7 (w.heap.size+1)=(0,0):=(m7.tags _ hz6).trans t16;have te7:tg7 w3.heap.size=(0,0):=(m7.tags _ hz6e).trans te6;have HM7:Hid _:=HM6.out.trans m7;have HW7:Hid _:=hW7;clear hd7 m7 hW7 k7 a0 a1 a2 a3 a4 c0 c1 c2 c3 c4 x0 x1 x2 h3;by_cases her3:er3=0
     ·subst her3
      obtain⟨hnx3,hvac,h16⟩:=HRN.out rfl;have hokc:=(ok_at HS.out _ HOk.out HX.out.1).2.1;have hbd:=hgt_bound HW7.out.st.highs 5 c;have hst:=hgt_stable (5-(rf.reverse ++ [en]).length) 5 c (Nat.sub_le _ _) hokc;have hlenf:(rf.reverse ++ [en]).length+(5-(rf.reverse ++ [en]).length)<=5:=by have:=HGP.out.1.len;omega
      have hhei:=height_all HW7.out HFl.out (5-(rf.reverse ++ [en]).length) c (rf.reverse ++ [en]) (Nat.sub_le _ _) hokc HX.out.1 HGP.out.1 hlenf en;rw[<-hst,HP.out.1,<-HKI.out.1,<-HKI.out.2] at hhei;have hdp:=HDEP.out;have hdl:((rt.reverse ++ [nt]).length:Int)=((rt.length+1:Nat):Int):=by simp
      rw[hdl] at hdp;have hmk:=HMK.out;rw[zzB (by simp)] at hmk;clear HMK;have hmv:=fun W (hb:Below w7.heap.size w7 W) (hh:((rt.length+1:Nat):Int)+hgt objs 5 c<=5)=>rename_moves (HW7.out.below hb) (by simp;omega) HFl.out HOk.out HGP.out.1 HGP.out.2 HX.out.2.2.1 HX.out.2.2.2.1 HX.out.2.2.2.2 HT.out.1 HT.out.2.1 ((HX.out.2.1.mono HT.out.2.2.1.2.2.2.2).mono hnx3.2.2.2.2) (HT.out.2.2.2.mono hnx3.2.2.2.2) (fun hp=>by
       by_cases e:rt.reverse ++ [nt]=rf.reverse ++ [en]
       ·exact heq e.symm
       ·exact hin ⟨hp,e⟩) hvac (fun hn=>(h16 hn).imp id (fun e=>by rw[of_decide_eq_true e])) (by rw[List.length_reverse];exact hh) en
      rw[HP.out.1,HP.out.2.1,<-HKI.out.1,<-HKI.out.2] at hmv;have hMb:Hid _:=And.intro hmk hmv;clear hmk hmv hvac h16 hnx3 hokc hst hlenf hdl;generalize hgt objs 5 c=H at hhei hbd hMb;generalize hDL:((rt.length+1:Nat):Int)=DL at hdp hMb;have hDL1:1<=DL/\DL<=5:=by omega
      have HDL:Hid _:=hDL;clear hDL;obtain⟨hH0,hH1⟩:=hbd;obtain⟨hD0,hD1⟩:=hDL1;have hwx:IntKind.i64.wrap (DL+H)=DL+H:=by rw[IntKind.wrap_i64] <;> omega
      have HHEI:Hid _:=hhei;have HDP:Hid _:=hdp;clear hhei hdp;have hSD:Two5 w7.drew w.heap.size (w.heap.size+1) s0 s1 s2 s3 s4 d0 d1 d2 d3 d4:=HS7.out;have hED:Ent3 w7.drew w3.heap.size en kc ic:=HE7.out;have bz:Below w7.heap.size w7 w7.drew:=below_drew (Below.refl _ _);obtain⟨a0,a1,a2,a3,a4,c0,c1,c2,c3,c4⟩:=HS7.out;obtain⟨x0,x1,x2⟩:=HE7.out;by_cases hh:5<DL+H
      ·go_wp2
       go_region_held3 (fun w'=>w'.cell? ⟨w.heap.size,0,none⟩=some (.string s0)/\w'.cell? ⟨w.heap.size,1,none⟩=some (.string s1)/\w'.cell? ⟨w.heap.size,2,none⟩=some (.string s2)/\w'.cell? ⟨w.heap.size,3,none⟩=some (.string s3)/\w'.cell? ⟨w.heap.size,4,none⟩=some (.string s4)/\w'.cell? ⟨w.heap.size+1,0,none⟩=some (.string d0)/\w'.cell? ⟨w.heap.size+1,1,none⟩=some (.string d1)/\w'.cell? ⟨w.heap.size+1,2,none⟩=some (.string d2)/\w'.cell? ⟨w.heap.size+1,3,none⟩=some (.string d3)/\w'.cell? ⟨w.heap.size+1,4,none⟩=some (.string d4)/\w'.cell? ⟨w3.heap.size,0,none⟩=some (.string en)/\w'.cell? ⟨w3.heap.size,1,none⟩=some (.int .i64 kc)/\w'.cell? ⟨w3.heap.size,2,none⟩=some (.int .i64 ic)) (first | exact hSD.and hED | exact hS8 | exact hS9) (first
        | (go_at_call 142;refine (HDP.out _).mono ?_;rintro e w8 ⟨rfl,hb8⟩;replace bz:=below_via bz hb8;have hS8:=(Two5.below HS7.out bz hz70 hz7).and (Ent3.keep HE7.out (fun o=>(bcell bz).1 w3.heap.size o hz7e)))
        | (go_at_call 143;refine (HHEI.out _ bz).mono ?_;rintro e w9 ⟨rfl,hb9⟩;replace bz:=below_via bz hb9;have hS9:=(Two5.below HS7.out bz hz70 hz7).and (Ent3.keep HE7.out (fun o=>(bcell bz).1 w3.heap.size o hz7e))))
       go_wp2;go_ret;have hmk:=hMb.out.1;rw[zzD hh] at hmk;subst hmk;exact⟨rfl,left_same (HM7.out.trans (Moves.of_below bz)) ((HW7.out.below bz).mono (by simp;omega)) HFl.out HOk.out⟩
      ·go_wp2
       go_region_held3 (fun w'=>w'.cell? ⟨w.heap.size,0,none⟩=some (.string s0)/\w'.cell? ⟨w.heap.size,1,none⟩=some (.string s1)/\w'.cell? ⟨w.heap.size,2,none⟩=some (.string s2)/\w'.cell? ⟨w.heap.size,3,none⟩=some (.string s3)/\w'.cell? ⟨w.heap.size,4,none⟩=some (.string s4)/\w'.cell? ⟨w.heap.size+1,0,none⟩=some (.string d0)/\w'.cell? ⟨w.heap.size+1,1,none⟩=some (.string d1)/\w'.cell? ⟨w.heap.size+1,2,none⟩=some (.string d2)/\w'.cell? ⟨w.heap.size+1,3,none⟩=some (.string d3)/\w'.cell? ⟨w.heap.size+1,4,none⟩=some (.string d4)/\w'.cell? ⟨w3.heap.size,0,none⟩=some (.string en)/\w'.cell? ⟨w3.heap.size,1,none⟩=some (.int .i64 kc)/\w'.cell? ⟨w3.heap.size,2,none⟩=some (.int .i64 ic)) (first | exact hSD.and hED | exact hS8 | exact hS9) (first
        | (go_at_call 142;refine (HDP.out _).mono ?_;rintro e w8 ⟨rfl,hb8⟩;replace bz:=below_via bz hb8;have hS8:=(Two5.below HS7.out bz hz70 hz7).and (Ent3.keep HE7.out (fun o=>(bcell bz).1 w3.heap.size o hz7e)))
        | (go_at_call 143;refine (HHEI.out _ bz).mono ?_;rintro e w9 ⟨rfl,hb9⟩;replace bz:=below_via bz hb9;have hS9:=(Two5.below HS7.out bz hz70 hz7).and (Ent3.keep HE7.out (fun o=>(bcell bz).1 w3.heap.size o hz7e))))
       obtain⟨hmk,hmv⟩:=hMb.out;rw[zzB (by omega)] at hmk;have HMK:Hid _:=hmk;have hmv9:=hmv w9 bz (by omega);have HMV:Hid _:=hmv9;have HS9:Hid _:=Two5.below HS7.out bz hz70 hz7;have HE9:Hid _:=Ent3.keep HE7.out (fun o=>(bcell bz).1 w3.heap.size o hz7e);have HM9:Hid _:=HM7.out.trans (Moves.of_below bz);have hz9:w.heap.size+1<w9.heap.size:=zzA hz7 bz.size;have hz90:w.heap.size<w9.heap.size:=Nat.lt_of_succ_lt hz9;have hz9e:w3.heap.size<w9.heap.size:=zzA hz7e bz.size;clear hmk hmv hmv9 hMb bz hS8 hS9 hSD hED a0 a1 a2 a3 a4 c0 c1 c2 c3 c4 x0 x1 x2 hb8 hb9 HHEI HDP;obtain⟨a0,a1,a2,a3,a4,c0,c1,c2,c3,c4⟩:=HS9.out;obtain⟨x0,x1,x2⟩:=HE9.out;go_wp2_with fail;refine Calls.mono HMV.out ?_;rintro e w10 ⟨rfl,k10,hput⟩;have HS10:Hid _:=Two5.kept HS9.out k10 hz90 hz9 t07 t17;have HE10:Hid _:=Ent3.keep HE9.out (k10.2 _ hz9e te7);have HPUT:Hid _:=hput;have hz10:w.heap.size+1<w10.heap.size:=zzA hz9 k10.1;have hz10e:w3.heap.size<w10.heap.size:=zzA hz9e k10.1;clear a0 a1 a2 a3 a4 c0 c1 c2 c3 c4 x0 x1 x2 hput k10 HMV;obtain⟨a0,a1,a2,a3,a4,c0,c1,c2,c3,c4⟩:=HS10.out;obtain⟨x0,x1,x2⟩:=HE10.out;go_wp2_with fail;refine Calls.mono HPUT.out ?_;rintro e w11 ⟨rfl,k11,h11⟩;have HS11:Hid (Two5 w11 w.heap.size (w.heap.size+1) s0 s1 s2 s3 s4 d0 d1 d2 d3 d4):=Two5.kept HS9.out k11 hz90 hz9 t07 t17;obtain⟨k11d,⟨tb,t7,_⟩,hcf⟩:=h11 w11.drew (below_drew (Below.refl _ _));have HCF:Hid _:=hcf;have hSD:Two5 w11.drew w.heap.size (w.heap.size+1) s0 s1 s2 s3 s4 d0 d1 d2 d3 d4:=HS11.out;have hTD:w11.drew.cell? ⟨B.bt,7,none⟩=some (.map (some B.oF)):=t7;clear a0 a1 a2 a3 a4 c0 c1 c2 c3 c4 x0 x1 x2 h11 hcf k11d HPUT;obtain⟨a0,a1,a2,a3,a4,c0,c1,c2,c3,c4⟩:=HS11.out;have t7':w11.cell? ⟨B.bt,7,none⟩=some (.map (some B.oF)):=t7;have tb':B.bt<w11.heap.size:=tb;have hz11:w.heap.size+1<w11.heap.size:=zzA hz9 k11.1;clear k11;go_wp2
       go_region_held3 (fun w'=>w'.cell? ⟨w.heap.size,0,none⟩=some (.string s0)/\w'.cell? ⟨w.heap.size,1,none⟩=some (.string s1)/\w'.cell? ⟨w.heap.size,2,none⟩=some (.string s2)/\w'.cell? ⟨w.heap.size,3,none⟩=some (.string s3)/\w'.cell? ⟨w.heap.size,4,none⟩=some (.string s4)/\w'.cell? ⟨w.heap.size+1,0,none⟩=some (.string d0)/\w'.cell? ⟨w.heap.size+1,1,none⟩=some (.string d1)/\w'.cell? ⟨w.heap.size+1,2,none⟩=some (.string d2)/\w'.cell? ⟨w.heap.size+1,3,none⟩=some (.string d3)/\w'.cell? ⟨w.heap.size+1,4,none⟩=some (.string d4)/\w'.cell? ⟨B.bt,7,none⟩=some (.map (some B.oF))) (first | exact hSD.and hTD | exact hS12) (first
        | (go_at_call 144;refine Calls.mono HCF.out ?_;rintro e w12 ⟨rfl,h12⟩;obtain⟨k12,⟨tb12,t712,_⟩,_⟩:=h12 w12 (Below.refl _ _);have hS12:=(Two5.kept HS9.out k12 hz90 hz9 t07 t17).and t712;have H12:Hid _:=h12;clear h12))
       obtain⟨k12d,⟨tbd,_,t8⟩,hcd⟩:=H12.out w12.drew (below_drew (Below.refl _ _));have HCD:Hid _:=hcd;have hSE:Two5 w12.drew w.heap.size (w.heap.size+1) s0 s1 s2 s3 s4 d0 d1 d2 d3 d4:=Two5.kept HS9.out k12d hz90 hz9 t07 t17;have HS12:Hid (Two5 w12 w.heap.size (w.heap.size+1) s0 s1 s2 s3 s4 d0 d1 d2 d3 d4):=hSE;have hTE:w12.drew.cell? ⟨B.bt,8,none⟩=some (.map (some B.oD)):=t8;have t8':w12.cell? ⟨B.bt,8,none⟩=some (.map (some B.oD)):=t8;have tb8:B.bt<w12.heap.size:=tbd;clear a0 a1 a2 a3 a4 c0 c1 c2 c3 c4 t7 t7' tb' tb hSD hTD hS12 hcd k12d;obtain⟨a0,a1,a2,a3,a4,c0,c1,c2,c3,c4⟩:=HS12.out;go_wp2
       go_region_held3 (fun w'=>w'.cell? ⟨w.heap.size,0,none⟩=some (.string s0)/\w'.cell? ⟨w.heap.size,1,none⟩=some (.string s1)/\w'.cell? ⟨w.heap.size,2,none⟩=some (.string s2)/\w'.cell? ⟨w.heap.size,3,none⟩=some (.string s3)/\w'.cell? ⟨w.heap.size,4,none⟩=some (.string s4)/\w'.cell? ⟨w.heap.size+1,0,none⟩=some (.string d0)/\w'.cell? ⟨w.heap.size+1,1,none⟩=some (.string d1)/\w'.cell? ⟨w.heap.size+1,2,none⟩=some (.string d2)/\w'.cell? ⟨w.heap.size+1,3,none⟩=some (.string d3)/\w'.cell? ⟨w.heap.size+1,4,none⟩=some (.string d4)/\w'.cell? ⟨B.bt,8,none⟩=some (.map (some B.oD))) (first | exact hSE.and hTE | exact hS13) (first
        | (go_at_call 145;refine Calls.mono HCD.out ?_;rintro e w13 ⟨rfl,hleft⟩;have hS13:=rename_last HS9.out hz90 hz9 t07 t17 hi hleft;have HLEFT:Hid _:=hleft;clear hleft))
       go_wp2;go_ret;have hmk:=HMK.out;subst hmk;refine⟨rfl,?_⟩;obtain⟨tgL,ftL,mL,hWL,hFL,hOL⟩:=HLEFT.out;exact⟨tgL,ftL,HM9.out.trans mL,hWL.mono (by simp;omega),hFL,hOL⟩
     ·have her3':(er3 == 0)=false:=by simpa using her3
      go_wp2;go_ret;have hmk:=HMK.out;rw[zzD her3] at hmk;subst hmk;exact⟨rfl,left_same HM7.out (HW7.out.mono (by simp;omega)) HFl.out HOk.out⟩
   ·have her2':(er2 == 0)=false:=by simpa using her2
    go_wp2;go_ret;have hmk:=HMK.out;rw[zzD (.inl her2)] at hmk;subst hmk;exact⟨rfl,left_same HM6.out (HW6.out.mono (by simp;omega)) HFl.out HOk.out⟩
 ·have her':(er == 0)=false:=by simpa using her
  go_wp2;go_ret;have hmk:=HMK.out;rw[zzD her] at hmk;subst hmk;exact⟨rfl,left_same (HM3.out.trans (Moves.of_below ((Below.refl w3.heap.size w3).alloc (zzC _) _))) ((HW3.out.below ((Below.refl w3.heap.size w3).alloc (zzC _) _)).mono (by simp;omega)) HFl.out HOk.out⟩
end
def updN {β:Type}(f:Nat->β)(k:Nat)(v:β):Nat->β:=fun x=>if x=k then v else f x
theorem updN_same {β:Type}(f:Nat->β)(k:Nat)(v:β):updN f k v k=v:=by unfold updN;rw[zzD rfl]
theorem updN_other {β:Type}{f:Nat->β}{k x:Nat}(h:x≠k)(v:β):updN f k v x=f x:=by unfold updN;rw[zzB h]
def FlOk (objs:List Ob)(fl:Nat->Option (Int×ByteArray)):Prop:=∀f id d,fl f=some (id,d)->id≠0->kindOf objs id=1
theorem nil_bytes (W:World):(convert 204 9 (.slice none 0 0)).run prog W=.ok (.string ⟨#[]⟩) W:=by kernel_rfl
section
variable {s i p:Nat}{B:WB}{objs:List Ob}
theorem bytes_any {tg:Tags}{w:World}{g:WG}{lim:Nat}(h:WInv tg w s i p B objs g lim)(hl:lim<1099511627776)(hfl:FlOk objs g.fl){f:Nat}{x:Int×ByteArray}(hf:g.fl f=some x):
  Calls prog 181 #[.pointer (some ⟨f,0,none⟩)] w fun e w'=>e=.returned (.tuple #[.string (bytesG objs g.fl g.fs f).2.2,.int .i64 (bytesG objs g.fl g.fs f).2.1])/\DidF s i p B objs tg w w' { g with fs:=(bytesG objs g.fl g.fs f).1 } (lim+1):=by
 obtain⟨id,d⟩:=x;obtain⟨ht,hb,hd⟩:=h.wp.files f id d hf;have hG:bytesG objs g.fl g.fs f=if id=0 then (g.fs,0,d) else if (g.fs.fileG id).2 then ((g.fs.fileG id).1,0,bytesOf objs id) else ((g.fs.fileG id).1,14,⟨#[]⟩):=by
  unfold bytesG;rw[hf]
 have hlt:=(Array.getElem?_eq_some_iff.1 hb).1;have c1:w.cell? ⟨f,1,none⟩=some (.int .i64 id):=by simp[World.cell?,hb]
 by_cases hid:id=0
 ·rw[hG,zzD hid]
  subst hid;have c2:w.cell? ⟨f,2,none⟩=some (.string d):=by simp[World.cell?,hb]
  exact (bytes_own f d w c1 c2).mono fun e w' ⟨h1,h2⟩=>⟨h1,by rw[h2];exact didF_same (h.mono (Nat.le_succ _)) (Below.refl _ _)⟩
 ·rw[hG,zzB hid]
  have c0:w.cell? ⟨f,0,none⟩=some (.pointer (some ⟨B.sF,0,none⟩)):=by simp[World.cell?,hb,hid]
  have hb0:Below w.heap.size w w.drew:=below_drew (Below.refl _ _);have hsh:=shelfF (h.below hb0) hl (hfl f id d hf hid);refine (bytes_get f B.sF id (if (g.fs.fileG id).2 then 0 else 14) (if (g.fs.fileG id).2 then bytesOf objs id else ⟨#[]⟩) (fun w'=>DidF s i p B objs tg w w' { g with fs:=(g.fs.fileG id).1 } (lim+1)) w hlt c0 c1 hid (hsh.mono fun e w' ⟨h1,h2⟩=>⟨h1,DidF.via hb0 h2⟩)).mono fun e w' ⟨h1,h2⟩=>?_;cases hh:(g.fs.fileG id).2 with
  | true=>rw[hh] at h1;exact⟨h1,h2⟩
  | false=>rw[hh] at h1;exact⟨h1,h2⟩
theorem setFile_block {w:World}{f:Nat}{x y z:Value}{t:TypeId}(h:w.heap[f]? = some (.cells #[x,y,z] t (0,0)))(d:ByteArray):(setFile w f d).heap[f]? = some (.cells #[.pointer none,.int .i64 0,.string d] t (0,0)):=by
 unfold setFile;have h1:=heap_setCell_same w f 0 _ t (.pointer none) h;have h2:=heap_setCell_same _ f 1 _ t (.int .i64 0) h1;have h3:=heap_setCell_same _ f 2 _ t (.string d) h2;simpa using h3
theorem setFile_grown (w:World)(f:Nat)(d:ByteArray):w.grownBy (setFile w f d) (some f):=by
 unfold setFile;exact grown_set (grown_set (grown_set (grown_refl w _)))
theorem setFile_size (w:World)(f:Nat)(d:ByteArray):(setFile w f d).heap.size=w.heap.size:=by unfold setFile;simp
theorem WInv.set_file {tg:Tags}{w:World}{g:WG}{lim:Nat}(h:WInv tg w s i p B objs g lim){f:Nat}{x:Int×ByteArray}(hf:g.fl f=some x){d:ByteArray}(hd:d.size<=256):
  Moves (fun t=>t=(i,6)) tg tg w (setFile w f d)/\WInv tg (setFile w f d) s i p B objs { g with fl:=updN g.fl f (some (0,d)) } lim:=by
 have hi:=h.two;obtain⟨id,d0⟩:=x;obtain⟨ht,hb,_⟩:=h.wp.files f id d0 hf;have m:Moves (fun t=>t=(i,6)) tg tg w (setFile w f d):=moves_grown (setFile_grown w f d) (setFile_size w f d) ht;have hp:=h.wp;have hsome:∀f',(∃x,g.fl f'=some x)->∃x,updN g.fl f (some (0,d)) f'=some x:=fun f' ⟨x,hx⟩=>by
  by_cases e:f'=f
  ·subst e;exact⟨_,updN_same _ _ _⟩
  ·exact⟨x,by rw[updN_other e];exact hx⟩
 refine⟨m,h.two,h.st.moves m (fun e=>by cases e) (fun e=>by cases e),⟨hp.tree.moves m (fun e=>by cases e),hp.keptF.moves m (fun e=>by cases e),hp.keptD.moves m (fun e=>by cases e),hp.ownF.moves m (fun e=>by cases e),?_,fun f' id' d' hf'=>?_,fun q f' hq=>hsome f' (hp.held q f' hq),?_,hp.ok⟩⟩
 ·obtain⟨vD,hD⟩:=hp.ownD
  exact⟨vD,hD.moves m (fun e=>by cases e)⟩
 ·by_cases e:f'=f
  ·subst e
   have hf'':updN g.fl f' (some (0,d)) f'=some (id',d'):=hf';rw[updN_same] at hf'';cases hf'';refine⟨ht,?_,hd⟩;rw[zzD rfl];exact setFile_block hb d
  ·have hf'':updN g.fl f (some (0,d)) f'=some (id',d'):=hf'
   rw[updN_other e] at hf'';obtain⟨a1,a2,a3⟩:=hp.files f' id' d' hf'';refine⟨a1,?_,a3⟩;rw[(setFile_grown w f d).block f' (Array.getElem?_eq_some_iff.1 a2).1 (fun e'=>e (by cases e';rfl))];exact a2
 ·have ho:=hp.opens.moves m (fun e=>by cases e) (fun e=>by cases e)
  exact⟨ho.tw,ho.hw,ho.past,fun k b f' fg pl hk=>by
   obtain⟨a1,a2,a3,a4⟩:=ho.at_ k b f' fg pl hk;exact⟨a1,a2,hsome f' a3,a4⟩,ho.inj⟩
theorem clear_any {tg:Tags}{w:World}{g:WG}{lim:Nat}(h:WInv tg w s i p B objs g lim){f:Nat}{x:Int×ByteArray}(hf:g.fl f=some x):
  Calls prog 179 #[.pointer (some ⟨f,0,none⟩)] w fun e w'=>e=.returned (.tuple #[])/\Moves (fun t=>t=(i,6)) tg tg w w'/\WInv tg w' s i p B objs { g with fl:=updN g.fl f (some (0,⟨#[]⟩)) } lim:=by
 obtain⟨id,d0⟩:=x;obtain⟨ht,hb,_⟩:=h.wp.files f id d0 hf;refine (clear_walk f _ _ _ w (Array.getElem?_eq_some_iff.1 hb).1 (by simp[World.cell?,hb];rfl) (by simp[World.cell?,hb];rfl) (by simp[World.cell?,hb];rfl) (fun o=>by simp[World.frozen?,hb]) (nil_bytes w)).mono fun e w' ⟨h1,h2⟩=>⟨h1,?_⟩;rw[h2];exact h.set_file hf (by simp[ByteArray.size])
theorem moves_new {P:Nat×Nat->Prop}{tg:Tags}{w:World}(o:Obj)(t:Nat×Nat):Moves P tg (tagAt tg w.heap.size t) w (w.alloc o):=by
 have hb:Below w.heap.size w (w.alloc o):=(Below.refl _ _).alloc (zzC _) _;refine⟨hb.os,hb.tape,hb.output,hb.size,fun k hk=>tagAt_other (by omega) _,fun k hk _=>hb.block k hk,fun hf k hk=>?_⟩;rw[World.size_alloc] at hk;rw[tagAt_other (by omega)];exact hf k (by omega)
theorem WInv.new_file {tg:Tags}{w:World}{g:WG}{lim:Nat}(h:WInv tg w s i p B objs g lim)(id:Int):
  Moves (fun _=>False) tg (tagAt tg w.heap.size (i,6)) w (w.alloc (.cells #[.pointer (if id=0 then none else some ⟨B.sF,0,none⟩),.int .i64 id,.string ⟨#[]⟩] 308))/\
  WInv (tagAt tg w.heap.size (i,6)) (w.alloc (.cells #[.pointer (if id=0 then none else some ⟨B.sF,0,none⟩),.int .i64 id,.string ⟨#[]⟩] 308)) s i p B objs { g with fl:=updN g.fl w.heap.size (some (id,⟨#[]⟩)) } lim:=by
 have m:Moves (fun _=>False) tg (tagAt tg w.heap.size (i,6)) w (w.alloc (.cells #[.pointer (if id=0 then none else some ⟨B.sF,0,none⟩),.int .i64 id,.string ⟨#[]⟩] 308)):=moves_new _ _;have hp:=h.wp;have hW:=hp.moves m (fun _ x=>x);have hsome:∀f',(∃x,g.fl f'=some x)->∃x,updN g.fl w.heap.size (some (id,(⟨#[]⟩:ByteArray))) f'=some x:=fun f' ⟨x,hx⟩=>by
  by_cases e:f'=w.heap.size
  ·subst e;exact⟨_,updN_same _ _ _⟩
  ·exact⟨x,by rw[updN_other e];exact hx⟩
 refine⟨m,h.two,h.st.moves m (fun x=>x) (fun x=>x),⟨hW.tree,hW.keptF,hW.keptD,hW.ownF,hW.ownD,fun f' id' d' hf'=>?_,fun q f' hq=>hsome f' (hp.held q f' hq),⟨hW.opens.tw,hW.opens.hw,hW.opens.past,fun k b f' fg pl hk=>?_,hW.opens.inj⟩,hW.ok⟩⟩
 ·by_cases e:f'=w.heap.size
  ·subst e
   have hf'':updN g.fl w.heap.size (some (id,(⟨#[]⟩:ByteArray))) w.heap.size=some (id',d'):=hf';rw[updN_same] at hf'';cases hf'';exact⟨tagAt_same _ _ _,heap_alloc_new w _,by simp[ByteArray.size]⟩
  ·have hf'':updN g.fl w.heap.size (some (id,(⟨#[]⟩:ByteArray))) f'=some (id',d'):=hf'
   rw[updN_other e] at hf'';exact hW.files f' id' d' hf''
 ·obtain⟨a1,a2,a3,a4⟩:=hW.opens.at_ k b f' fg pl hk
  exact⟨a1,a2,hsome f' a3,a4⟩
theorem WInv.note_file {tg:Tags}{w:World}{g:WG}{lim:Nat}(h:WInv tg w s i p B objs g lim)(hl:lim<maxLen){q:List ByteArray}(hq:Good q){f:Nat}{x:Int×ByteArray}(hf:g.fl f=some x):
  ∃w',(Instr.mapUpdate 161 (.map (some B.oF)) (.agg (pathA q)) (.pointer (some ⟨f,0,none⟩))).run prog w=.ok () w'/\Moves (fun t=>t=(i,4)) tg tg w w'/\WInv tg w' s i p B objs { g with ft:={ g.ft with of:=upd g.ft.of q (some f) } } (lim+1):=by
 have hi:=h.two;obtain⟨ht,⟨n,hn,hm⟩,hg⟩:=h.wp.ownF;obtain⟨w',hrun,hm',hgr,hs⟩:=hm.store hq (by omega) underlying161 (.pointer (some ⟨f,0,none⟩));have m:Moves (fun t=>t=(i,4)) tg tg w w':=moves_grown hgr hs ht;have hp:=(h.mono (Nat.le_succ lim)).wp;obtain⟨vD,hD⟩:=hp.ownD;refine⟨w',hrun,m,h.two,(h.st.mono (Nat.le_succ lim)).moves m (fun e=>by cases e) (fun e=>by cases e),⟨hp.tree.moves m (fun e=>by cases e),hp.keptF.moves m (fun e=>by cases e),hp.keptD.moves m (fun e=>by cases e),⟨ht,⟨n+1,by omega,hm'.congr (fun x hx=>?_)⟩,fun x f hx=>?_⟩,⟨vD,hD.moves m (fun e=>by cases e)⟩,hp.files.moves m (fun e=>by cases e),fun x f' hx=>?_,hp.opens.moves m (fun e=>by cases e) (fun e=>by cases e),⟨hp.ok.root,hp.ok.od⟩⟩⟩
 ·show upd (fun y=>(g.ft.of y).map ptr) q (some _) x=Option.map ptr (upd g.ft.of q (some f) x)
  by_cases e:x=q
  ·subst e;rw[upd_same,upd_same];rfl
  ·rw[upd_other e,upd_other e]
 ·by_cases e:x=q
  ·rw[e];exact hq
  ·have hx':upd g.ft.of q _ x=some f:=hx
   rw[upd_other e] at hx';exact hg x f hx'
 ·by_cases e:x=q
  ·subst e
   have hx':upd g.ft.of x (some f) x=some f':=hx;rw[upd_same] at hx';cases hx';exact⟨_,hf⟩
  ·have hx':upd g.ft.of q _ x=some f':=hx
   rw[upd_other e] at hx';exact hp.held x f' hx'
theorem eight_cases {k:Nat}(h:k<8):k=0\/k=1\/k=2\/k=3\/k=4\/k=5\/k=6\/k=7:=by omega
theorem OpensAt.tab {tg:Tags}{w:World}{fl:Nat->Option (Int×ByteArray)}{op:Nat->Option (Nat×Nat×Int×Int)}(h:OpensAt tg w i B fl op):TabAt w B.wb (fun k=>(op k).map (·.1))/\w.cell? ⟨B.wb,0,none⟩=some (ptr B.bt):=by
 have hw:=h.hw;refine⟨⟨(Array.getElem?_eq_some_iff.1 hw).1,fun k hk=>?_,fun o=>by simp[World.frozen?,hw]⟩,by simp[World.cell?,hw]⟩;rcases eight_cases hk with rfl | rfl | rfl | rfl | rfl | rfl | rfl | rfl <;> simp[World.cell?,hw,opV,Function.comp_def]
theorem tab_set {w:World}{b0:Nat}{op:Nat->Option (Nat×Nat×Int×Int)}{x:Value}{t:TypeId}(h:w.heap[b0]? = some (.cells #[x,opV (op 0),opV (op 1),opV (op 2),opV (op 3),opV (op 4),opV (op 5),opV (op 6),opV (op 7)] t (0,0))){k:Nat}(hk:k<8)(v:Option (Nat×Nat×Int×Int)):
  (w.setCell ⟨b0,1+k,none⟩ (opV v)).heap[b0]? = some (.cells #[x,opV (updN op k v 0),opV (updN op k v 1),opV (updN op k v 2),opV (updN op k v 3),opV (updN op k v 4),opV (updN op k v 5),opV (updN op k v 6),opV (updN op k v 7)] t (0,0)):=by
 rw[heap_setCell_same w b0 (1+k) _ t (opV v) h];rcases eight_cases hk with rfl | rfl | rfl | rfl | rfl | rfl | rfl | rfl <;> simp[updN]
theorem WInv.close {tg:Tags}{w:World}{g:WG}{lim:Nat}(h:WInv tg w s i p B objs g lim){k:Nat}(hk:k<8):
  Moves (fun t=>t=(i,0)) tg tg w (w.setCell ⟨B.wb,1+k,none⟩ (.pointer none))/\WInv tg (w.setCell ⟨B.wb,1+k,none⟩ (.pointer none)) s i p B objs { g with op:=updN g.op k none } lim:=by
 have hi:=h.two;have hp:=h.wp;have hgr:w.grownBy (w.setCell ⟨B.wb,1+k,none⟩ (.pointer none)) (some B.wb):=grown_set (grown_refl w _);have m:Moves (fun t=>t=(i,0)) tg tg w (w.setCell ⟨B.wb,1+k,none⟩ (.pointer none)):=moves_grown hgr (by simp) hp.opens.tw;have hsub:∀j x,updN g.op k none j=some x->j≠k/\g.op j=some x:=fun j x hj=>by
  by_cases e:j=k
  ·subst e;rw[updN_same] at hj;cases hj
  ·rw[updN_other e] at hj;exact⟨e,hj⟩
 obtain⟨vD,hD⟩:=hp.ownD;refine⟨m,h.two,h.st.moves m (fun e=>by cases e;omega) (fun e=>by cases e),⟨hp.tree.moves m (fun e=>by cases e),hp.keptF.moves m (fun e=>by cases e),hp.keptD.moves m (fun e=>by cases e),hp.ownF.moves m (fun e=>by cases e),⟨vD,hD.moves m (fun e=>by cases e)⟩,hp.files.moves m (fun e=>by cases e),hp.held,⟨hp.opens.tw,tab_set hp.opens.hw hk none,fun j hj=>?_,fun j b f fg pl hj=>?_,fun j l x y hj hl e=>hp.opens.inj j l x y (hsub j x hj).2 (hsub l y hl).2 e⟩,hp.ok⟩⟩
 ·show updN g.op k none j=none
  rw[updN_other (by omega)];exact hp.opens.past j hj
 ·obtain⟨e,h1⟩:=hsub j _ hj
  obtain⟨a1,a2,a3⟩:=hp.opens.at_ j b f fg pl h1;obtain⟨b1,b2⟩:=m.at a2 a1 (fun e=>by cases e);exact⟨b2,b1,a3⟩
theorem WInv.place {tg:Tags}{w:World}{g:WG}{lim:Nat}(h:WInv tg w s i p B objs g lim){k b f:Nat}{fg pl pl':Int}(hk:g.op k=some (b,f,fg,pl))(h0:0<=pl')(h1:pl'<=256):
  Moves (fun t=>t=(i,7)) tg tg w (w.setCell ⟨b,2,none⟩ (.int .i64 pl'))/\WInv tg (w.setCell ⟨b,2,none⟩ (.int .i64 pl')) s i p B objs { g with op:=updN g.op k (some (b,f,fg,pl')) } lim:=by
 have hi:=h.two;have hp:=h.wp;obtain⟨ht,hb,hfl,hfg0,hfg1,_⟩:=hp.opens.at_ k b f fg pl hk;have hgr:w.grownBy (w.setCell ⟨b,2,none⟩ (.int .i64 pl')) (some b):=grown_set (grown_refl w _);have m:Moves (fun t=>t=(i,7)) tg tg w (w.setCell ⟨b,2,none⟩ (.int .i64 pl')):=moves_grown hgr (by simp) ht;obtain⟨vD,hD⟩:=hp.ownD;have hopv:∀j,opV (updN g.op k (some (b,f,fg,pl')) j)=opV (g.op j):=fun j=>by
  by_cases e:j=k
  ·subst e;rw[updN_same,hk];rfl
  ·rw[updN_other e]
 have hw:=(m.at hp.opens.hw hp.opens.tw (fun e=>by cases e)).1;refine⟨m,h.two,h.st.moves m (fun e=>by cases e) (fun e=>by cases e),⟨hp.tree.moves m (fun e=>by cases e),hp.keptF.moves m (fun e=>by cases e),hp.keptD.moves m (fun e=>by cases e),hp.ownF.moves m (fun e=>by cases e),⟨vD,hD.moves m (fun e=>by cases e)⟩,hp.files.moves m (fun e=>by cases e),hp.held,⟨hp.opens.tw,?_,fun j hj=>?_,fun j b' f' fg' pl'' hj=>?_,fun j l x y hj hl e=>?_⟩,hp.ok⟩⟩
 ·simp only[hopv];exact hw
 ·show updN g.op k _ j=none
  have hne:j≠k:=fun e=>by rw[<-e,hp.opens.past j hj] at hk;cases hk
  rw[updN_other hne];exact hp.opens.past j hj
 ·by_cases e:j=k
  ·subst e
   have hj':updN g.op j (some (b,f,fg,pl')) j=some (b',f',fg',pl''):=hj;rw[updN_same] at hj';cases hj';refine⟨ht,?_,hfl,hfg0,hfg1,h0,h1⟩
   have:=heap_setCell_same w b 2 _ 277 (.int .i64 pl') hb
   simpa using this
  ·have hj':updN g.op k _ j=some (b',f',fg',pl''):=hj
   rw[updN_other e] at hj';obtain⟨a1,a2,a3⟩:=hp.opens.at_ j b' f' fg' pl'' hj';refine⟨a1,?_,a3⟩;have hne:b'≠b:=fun e'=>e (hp.opens.inj j k _ _ hj' hk e')
   rw[hgr.block b' (Array.getElem?_eq_some_iff.1 a2).1 (fun e'=>hne (by cases e';rfl))];exact a2
 ·have key:∀j x,updN g.op k (some (b,f,fg,pl')) j=some x->∃x',g.op j=some x'/\x'.1=x.1:=fun j x hj=>by
   by_cases e:j=k
   ·subst e;rw[updN_same] at hj;cases hj;exact⟨_,hk,rfl⟩
   ·rw[updN_other e] at hj;exact⟨x,hj,rfl⟩
  obtain⟨x',a1,a2⟩:=key j x hj;obtain⟨y',b1,b2⟩:=key l y hl;exact hp.opens.inj j l x' y' a1 b1 (by rw[a2,b2,e])
theorem WInv.open_at {tg:Tags}{w:World}{g:WG}{lim:Nat}(h:WInv tg w s i p B objs g lim){k f:Nat}{fg:Int}{x:Int×ByteArray}(hk:k<8)(hf:g.fl f=some x)(h0:0<=fg)(h1:fg<64):
  Moves (fun t=>t=(i,0)) tg (tagAt tg w.heap.size (i,7)) w ((w.setCell ⟨B.wb,1+k,none⟩ (.pointer (some ⟨w.heap.size,0,none⟩))).alloc (.cells #[.pointer (some ⟨f,0,none⟩),.int .i64 fg,.int .i64 0] 277))/\
  WInv (tagAt tg w.heap.size (i,7)) ((w.setCell ⟨B.wb,1+k,none⟩ (.pointer (some ⟨w.heap.size,0,none⟩))).alloc (.cells #[.pointer (some ⟨f,0,none⟩),.int .i64 fg,.int .i64 0] 277)) s i p B objs { g with op:=updN g.op k (some (w.heap.size,f,fg,0)) } lim:=by
 have hi:=h.two;have hp:=h.wp;have hgr:w.grownBy (w.setCell ⟨B.wb,1+k,none⟩ (.pointer (some ⟨w.heap.size,0,none⟩))) (some B.wb):=grown_set (grown_refl w _);have hsz:(w.setCell ⟨B.wb,1+k,none⟩ (.pointer (some ⟨w.heap.size,0,none⟩))).heap.size=w.heap.size:=by simp
 have m1:Moves (fun t=>t=(i,0)) tg tg w (w.setCell ⟨B.wb,1+k,none⟩ (.pointer (some ⟨w.heap.size,0,none⟩))):=moves_grown hgr hsz hp.opens.tw;have m2:Moves (fun t=>t=(i,0)) tg (tagAt tg w.heap.size (i,7)) (w.setCell ⟨B.wb,1+k,none⟩ (.pointer (some ⟨w.heap.size,0,none⟩))) ((w.setCell ⟨B.wb,1+k,none⟩ (.pointer (some ⟨w.heap.size,0,none⟩))).alloc (.cells #[.pointer (some ⟨f,0,none⟩),.int .i64 fg,.int .i64 0] 277)):=by
  have:=moves_new (P:=fun t=>t=(i,0)) (tg:=tg) (w:=w.setCell ⟨B.wb,1+k,none⟩ (.pointer (some ⟨w.heap.size,0,none⟩))) (.cells #[.pointer (some ⟨f,0,none⟩),.int .i64 fg,.int .i64 0] 277) (i,7)
  rwa [hsz] at this
 have m:=m1.trans m2;have hnew:((w.setCell ⟨B.wb,1+k,none⟩ (.pointer (some ⟨w.heap.size,0,none⟩))).alloc (.cells #[.pointer (some ⟨f,0,none⟩),.int .i64 fg,.int .i64 0] 277)).heap[w.heap.size]? = some (.cells #[.pointer (some ⟨f,0,none⟩),.int .i64 fg,.int .i64 0] 277 (0,0)):=by
  have:=heap_alloc_new (w.setCell ⟨B.wb,1+k,none⟩ (.pointer (some ⟨w.heap.size,0,none⟩))) (.cells #[.pointer (some ⟨f,0,none⟩),.int .i64 fg,.int .i64 0] 277)
  rwa [hsz] at this
 have hwb:=(Array.getElem?_eq_some_iff.1 hp.opens.hw).1;obtain⟨vD,hD⟩:=hp.ownD;have hlt:∀j x,g.op j=some x->x.1<w.heap.size:=fun j x hj=>by
  obtain⟨b',f',fg',pl'⟩:=x;exact (Array.getElem?_eq_some_iff.1 (hp.opens.at_ j b' f' fg' pl' hj).2.1).1
 refine⟨m,h.two,h.st.moves m (fun e=>by cases e;omega) (fun e=>by cases e),⟨hp.tree.moves m (fun e=>by cases e),hp.keptF.moves m (fun e=>by cases e),hp.keptD.moves m (fun e=>by cases e),hp.ownF.moves m (fun e=>by cases e),⟨vD,hD.moves m (fun e=>by cases e)⟩,hp.files.moves m (fun e=>by cases e),hp.held,⟨?_,?_,fun j hj=>?_,fun j b' f' fg' pl'' hj=>?_,fun j l x y hj hl e=>?_⟩,hp.ok⟩⟩
 ·exact (m.tags _ hwb).trans hp.opens.tw
 ·have hset:=tab_set hp.opens.hw hk (some (w.heap.size,f,fg,0))
  rw[<-hset];exact ((Below.refl _ _).alloc (zzC _) _:Below (w.setCell ⟨B.wb,1+k,none⟩ (.pointer (some ⟨w.heap.size,0,none⟩))).heap.size _ _).block B.wb (by rw[hsz];exact hwb)
 ·show updN g.op k _ j=none
  rw[updN_other (by omega)];exact hp.opens.past j hj
 ·by_cases e:j=k
  ·subst e
   have hj':updN g.op j (some (w.heap.size,f,fg,0)) j=some (b',f',fg',pl''):=hj;rw[updN_same] at hj';cases hj';exact⟨tagAt_same _ _ _,hnew,⟨_,hf⟩,h0,h1,Int.le_refl _,by decide⟩
  ·have hj':updN g.op k _ j=some (b',f',fg',pl''):=hj
   rw[updN_other e] at hj';obtain⟨a1,a2,a3⟩:=hp.opens.at_ j b' f' fg' pl'' hj';obtain⟨b1,b2⟩:=m.at a2 a1 (fun e=>by cases e);exact⟨b2,b1,a3⟩
 ·have key:∀j x,updN g.op k (some (w.heap.size,f,fg,0)) j=some x->(j=k/\x.1=w.heap.size)\/(j≠k/\g.op j=some x):=fun j x hj=>by
   by_cases e:j=k
   ·subst e;rw[updN_same] at hj;cases hj;exact .inl ⟨rfl,rfl⟩
   ·rw[updN_other e] at hj;exact .inr ⟨e,hj⟩
  rcases key j x hj with ⟨a1,a2⟩ | ⟨a1,a2⟩ <;> rcases key l y hl with ⟨b1,b2⟩ | ⟨b1,b2⟩
  ·rw[a1,b1]
  ·have:=hlt l y b2;omega
  ·have:=hlt j x a2;omega
  ·exact hp.opens.inj j l x y a2 b2 e
end
end Go.Proofs.YtlgidcmmgohagaaGreat
