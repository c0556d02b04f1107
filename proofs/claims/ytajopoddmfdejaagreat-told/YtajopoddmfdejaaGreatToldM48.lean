/-
  What is proved here: canopykeep's below answers all that stands below a directory, in order, given that it does for the directories in it.
-/
import Derived.Test.YtajopoddmfdejaaGreatToldM47
import Derived.WalkLawsBesides
namespace Go.Proofs.YtajopoddmfdejaaGreat
open Go.RowKit Go.Sort Go.Shelf
set_option linter.unusedVariables false
set_option maxRecDepth 100000
set_option maxHeartbeats 16000000
theorem less_of_cmp:∀ (a b:List UInt8),Lib.compareBytes a b<0->Op.bytesLess a b=true
 | [],[],h=>by simp[Lib.compareBytes] at h
 | [],_ :: _,_=>rfl
 | _ :: _,[],h=>by simp[Lib.compareBytes] at h
 | x :: a,y :: b,h=>by
  rw[Lib.compareBytes] at h
  rw[Op.bytesLess]
  by_cases h1:x<y
  ·simp[h1]
  ·rw[if_neg h1] at h
   by_cases h2:y<x
   ·rw[if_pos h2] at h;omega
   ·rw[if_neg h2] at h
    have e:x=y:=by
     have a1:=UInt8.not_lt.1 h1
     have a2:=UInt8.not_lt.1 h2
     exact UInt8.le_antisymm a2 a1
    simp[e,less_of_cmp a b h]
theorem flat_stepT {α:Type}(f:α->List Thing8){l:List α}{k:Nat}(hk:k<l.length):(l.take (k+1)).flatMap f=(l.take k).flatMap f++f l[k]:=by
 rw[List.take_succ_eq_append_getElem hk,List.flatMap_append,List.flatMap_singleton]
theorem flat_takeT {α:Type}(f:α->List Thing8)(l:List α)(k:Nat):((l.take k).flatMap f).length<=(l.flatMap f).length:=by
 conv=>rhs;rw[<- List.take_append_drop k l,List.flatMap_append,List.length_append]
 omega
section
variable {s i p:Nat}{B:WB}{objs:List Ob}{tg0:Tags}{w0:World}{g0:WG}{t0:LT}
def BelRet (s i p:Nat)(B:WB)(objs:List Ob)(tg0:Tags)(w0:World)(g0:WG)(t0:LT)(lim:Nat)(L:List Thing8)(e:Ending)(w':World):Prop:=
 ∃ v,e=.returned (.tuple #[v,.bool true])/\(L = []->v=.slice none 0 0)/\∃ tg' g' t',Moves (Mine i) tg0 tg' w0 w'/\QInv tg' w' s i p B objs g' (lim+500+3000*L.length) t'/\Alike objs g0 t0 g' t'/\ThRow tg' w' w0.heap.size v L.length L
theorem BelSt.name {wr:World}{lim lb:Nat}{ks:Kids}{a:Option Addr}{n c:Nat}{L:List Thing8}(h:BelSt s i p B objs tg0 w0 g0 t0 wr lim lb (ks.map entOf) a n c L):lb<wr.heap.size/\∀ k (hk:k<ks.length),wr.cell? ⟨lb,k,none⟩=some (.string (ks[k]).1):=by
 obtain⟨tg,g,t,m,hQ,hA,hN,hr⟩:=h
 refine⟨hN.lt,fun k hk=>?_⟩
 have:=hN.nms k (by simpa using hk) (by simpa using hk)
 simpa [entOf] using this
theorem BelSt.row {wr:World}{lim lb:Nat}{es:List Ent}{a:Option Addr}{n c:Nat}{L:List Thing8}(h:BelSt s i p B objs tg0 w0 g0 t0 wr lim lb es a n c L):wr.ownsRow w0.heap.size 40 3 (.slice a n c) n (flatT L)/\n=L.length/\w0.heap.size<=wr.heap.size:=by
 obtain⟨tg,g,t,m,hQ,hA,hN,hlb,⟨r1,r2,r3⟩,ho⟩:=h
 exact⟨r1,r2,m.size⟩
theorem BelSt.begin {lim:Nat}(hQ:QInv tg0 w0 s i p B objs g0 lim t0)(hlim:lim+1000<1099511627776)(hbr:g0.fs.brk=false){q:List ByteArray}{c0:LT}{ks:Kids}(h0:t0.at objs q=some c0)(hk0:kids objs c0=some ks)(hG:Good q):
  Calls Tryz.prog 32 #[.pointer (some ⟨B.wb,0,none⟩),.string (joinB q)] w0 fun e w'=>∃ lb,e=.returned (.tuple #[.slice (some ⟨lb,0,none⟩) ks.length ks.length,.int .i64 0])/\BelSt s i p B objs tg0 w0 g0 t0 w' (lim+400) lb (ks.map entOf) none 0 0 []:=by
 have hrev:q.reverse.reverse=q:=List.reverse_reverse _
 obtain⟨fs',hlk,hfb⟩:=look_real (objs:=objs) (t:=t0) hbr (r:=q.reverse) (by rw[hrev];exact h0) hk0
 have hl:=qlist hQ hlim (r:=q.reverse) (by rw[hrev];exact hG)
 rw[hlk,hrev] at hl
 refine hl.mono ?_
 rintro e w' ⟨v,he,tg',m,hQ',hL⟩
 rcases hL with ⟨h1,_⟩ | ⟨_,b,rfl,hN,ht⟩
 ·exact absurd rfl h1
 ·refine⟨b,he,tg',{ g0 with fs:=fs' },t0,m,hQ',Alike.same rfl rfl hfb,by rw[List.length_map];exact hN,ht,⟨World.ownsRow_nil _ _ _ _,rfl,fun b hb=>by cases hb⟩,fun e=>by cases e⟩
theorem BelSt.done {wr:World}{lim lk lb:Nat}{es:List Ent}{a:Option Addr}{n c:Nat}{L:List Thing8}(h:BelSt s i p B objs tg0 w0 g0 t0 wr lk lb es a n c L)(hl:lk<=lim+500+3000*n)(hz:n=0->a=none/\c=0):BelRet s i p B objs tg0 w0 g0 t0 lim L (.returned (.tuple #[.slice a n c,.bool true])) wr:=by
 obtain⟨tg,g,t,m,hQ,hA,hN,hlb,⟨r1,r2,r3⟩,ho⟩:=h
 refine⟨_,rfl,fun e=>?_,tg,g,t,m,hQ.mono (by omega),hA,?_⟩
 ·subst e
  simp only[List.length_nil] at r2
  obtain⟨e1,e2⟩:=hz r2
  rw[r2,e1,e2]
 ·rw[<- r2];exact⟨r1,r2,r3⟩
theorem BelSt.sub {wr:World}{lim l lb:Nat}{es:List Ent}{a:Option Addr}{n c:Nat}{L M:List Thing8}(h:BelSt s i p B objs tg0 w0 g0 t0 wr l lb es a n c L){x:Array Value}
  (hrec:∀ tg w g t l,QInv tg w s i p B objs g l t->Alike objs g0 t0 g t->l+lim<1099511627776->Calls Tryz.prog 42 x w (BelRet s i p B objs tg w g t l M))(hl:l+lim<1099511627776):
  Calls Tryz.prog 42 x wr fun e w'=>∃ v,e=.returned (.tuple #[v,.bool true])/\BelSt s i p B objs tg0 w0 g0 t0 w' (l+500+3000*M.length) lb es a n c L/\(M = []->v=.slice none 0 0)/\(M ≠ []->∃ gv cv,v=.slice (some ⟨gv,0,none⟩) M.length cv/\∀ j u,(flatT M)[j]? = some u->w'.cell? ((⟨gv,0,none⟩:Addr).add j)=some u):=by
 obtain⟨tg,g,t,m,hQ,hA,hN,hlb,hR,ho⟩:=h
 refine (hrec tg wr g t l hQ hA hl).mono ?_
 rintro e w' ⟨v,he,hnil,tg',g',t',m',hQ',hA',hrow⟩
 refine⟨v,he,(bel_step m hN hlb hR ho hQ.inv.two (Below.refl _ _) hQ.inv.st.fresh m' hQ' (hA.trans hA')).1,hnil,fun hne=>?_⟩
 obtain⟨gv,cv,rfl⟩:=slice_of_owns hrow.1 (by cases M with
  | nil=>exact absurd rfl hne
  | cons x r=>simp)
 exact⟨gv,cv,rfl,World.ownsRow.cells hrow.1 (g:=gv) rfl⟩
theorem join_neV {q:List ByteArray}(h:q ≠ [])(hG:Good q):((joinB q).toList == [])=false:=by
 have:0<(joinB q).size:=by
  cases q with
  | nil=>exact absurd rfl h
  | cons x r=>
   have hx:0<x.size:=by
    have hv:=hG.val x (List.mem_cons_self ..)
    exact (valid_size hv).1
   cases r with
   | nil=>rw[joinB_one];exact hx
   | cons y r=>
    have e:=congrArg List.length (joinB_cons x (r:=y :: r) (by simp))
    have hs:∀ b:ByteArray,(toL b).length=b.size:=fun b=>by simp[toL]
    rw[List.length_append,List.length_cons,hs,hs] at e
    omega
 have hne:(joinB q).toList ≠ []:=fun e=>by
  have h2:(joinB q).size=(joinB q).toList.length:=by rw[ByteArray.toList_eq];rfl
  rw[e,List.length_nil] at h2
  omega
 simpa using hne
theorem two_new8 (w:World)(X Y:Obj):((w.alloc X).alloc Y).heap[w.heap.size+1]? = some Y:=by
 have:=heap_alloc_new (w.alloc X) Y
 simpa using this
theorem cellsT3 {w:World}{b:Nat}{s0 s1 s2:Value}{t:TypeId}(h:w.heap[b]? = some (.cells #[s0,s1,s2] t (0,0))):b<w.heap.size/\w.cell? ⟨b,0,none⟩=some s0/\w.cell? ⟨b,1,none⟩=some s1/\w.cell? ⟨b,2,none⟩=some s2/\∀ o,w.frozen? ⟨b,o,none⟩=false:=
 ⟨(Array.getElem?_eq_some_iff.1 h).1,by simp[World.cell?,h],by simp[World.cell?,h],by simp[World.cell?,h],fun o=>by simp[World.frozen?,h]⟩
theorem new_cellsT (w:World)(x:Thing8)(L:List Value)(hL:L=flatT [x])(ty:TypeId)(bk:Nat)(hbk:bk=w.heap.size):∀ j u,L[j]? = some u->(w.alloc (.cells #[.string x.1,.int .i64 x.2.1,.string x.2.2] ty)).cell? ((⟨bk,0,none⟩:Addr).add j)=some u:=by
 subst hbk
 intro j u hu
 obtain⟨_,c0,c1,c2,_⟩:=cellsT3 (heap_alloc_new w (.cells #[.string x.1,.int .i64 x.2.1,.string x.2.2] ty))
 rw[hL] at hu
 have h3:j=0\/j=1\/j=2:=by
  have:=(List.getElem?_eq_some_iff.1 hu).1
  rw[flatT_len] at this
  simp at this;omega
 rw[add_plain,Nat.zero_add]
 rcases h3 with rfl | rfl | rfl
 ·rw[c0];exact hu
 ·rw[c1];exact hu
 ·rw[c2];exact hu
theorem full_cap {w:World}{base:Nat}{a:Option Addr}{n c:Nat}{xs:List Value}(h:w.ownsRow base 40 3 (.slice a n c) n xs)(hn:0<n):∃ g,a=some ⟨g,0,none⟩/\n<=c:=by
 rcases h.2 with ⟨_,h0⟩ | ⟨g,cap,cur,hv,_,_,hc,_⟩
 ·omega
 ·cases hv;exact⟨g,rfl,hc⟩
theorem below_deep {lim R:Nat}(hQ:QInv tg0 w0 s i p B objs g0 lim t0)(hlim:lim+7000000000+R<1099511627776)(hbr:g0.fs.brk=false){q:List ByteArray}(hqn:q ≠ []){c0:LT}{ks:Kids}(h0:t0.at objs q=some c0)(hk0:kids objs c0=some ks)(hr:RisingK ks)(h16:ks.length<=16)(hG:Good q)(hGk:∀ k (hk:k<ks.length),Good (q ++ [(ks[k]).1]))(nn:Nat)(htot:(ks.flatMap (thingsX objs (fcOf objs g0.fl) nn q)).length<=2000000)(deep:Int)(hd0:0<=deep)(hd:deep<=5)
  (hrec:∀ k (hk:k<ks.length),(ks[k]).2.kind=2->∀ tg w g t l,QInv tg w s i p B objs g l t->Alike objs g0 t0 g t->l+R<1099511627776->Calls Tryz.prog 42 #[.pointer (some ⟨B.wb,0,none⟩),.string (joinB (q ++ [(ks[k]).1])),.int .i64 (deep+1)] w (BelRet s i p B objs tg w g t l (thingsR objs (fcOf objs g0.fl) nn (q ++ [(ks[k]).1]) (ks[k]).2))):
  Calls Tryz.prog 42 #[.pointer (some ⟨B.wb,0,none⟩),.string (joinB q),.int .i64 deep] w0 (BelRet s i p B objs tg0 w0 g0 t0 lim (ks.flatMap (thingsX objs (fcOf objs g0.fl) nn q))):=by
 obtain⟨i0,hi,hz0,hz1,hz2⟩:=info_parts infoT
 obtain⟨f,hf⟩:∃ f,f=thingsX objs (fcOf objs g0.fl) nn q:=⟨_,rfl⟩
 rw[<- hf] at htot ⊢
 have HL:Hid _:=BelSt.begin hQ (by omega) hbr h0 hk0 hG
 have H0:Hid _:=h0
 have HK0:Hid _:=hk0
 have HRI:Hid _:=hr
 have HGK:Hid _:=hGk
 have HF:Hid _:=hf
 have HREC:Hid _:=hrec
 have HT:Hid (∀ k,((ks.take k).flatMap f).length<=2000000):=fun k=>by
  have:=flat_takeT f ks k
  omega
 have hdd:decide (5<deep)=false:=by simp;omega
 have hd1:deep+1<=6:=by omega
 have HJ:Hid (∀ x,joinB q++⟨#[47]⟩++x=joinB (q ++ [x])):=fun x=>joinB_snoc hqn x
 have hPs:(joinB q).size<=65:=by have h1:=join_size hG.val;have h2:=hG.len;omega
 have hPn:((joinB q).toList == [])=false:=join_neV hqn hG
 generalize joinB q=P at HL HJ hPs hPn ⊢
 obtain⟨m,hm⟩:∃ m,m=ks.length:=⟨_,rfl⟩
 have HM:Hid _:=hm
 have hm16:m<=16:=by omega
 clear hQ hbr h0 hk0 hr hG hGk hf htot hrec hm h16 hqn
 go_enter Tryz.func42,Tryz.ntmps42
 go_wp2_with fail
 refine Calls.mono HL.out ?_
 rintro e w1 ⟨lb,rfl,hB1⟩
 have HB1:Hid (BelSt s i p B objs tg0 w0 g0 t0 w1 (lim+400) lb (ks.map entOf) none 0 0 ((ks.take 0).flatMap f)):=hB1
 rw[<- HM.out]
 clear hB1 HL
 go_wp2
 go_loopw [8,11] (fun ov iv wr=>∃ (k:Nat) (a:Option Addr) (n c lk:Nat),k<=m/\iv=.int .i64 (k:Int)/\ov=.slice a n c/\n<=2000000/\lk<=lim+500+3000*n/\Hid (n=0->a=none/\c=0)/\Hid (BelSt s i p B objs tg0 w0 g0 t0 wr lk lb (ks.map entOf) a n c ((ks.take k).flatMap f))) (fun _ iv _=>m-(intOf iv).toNat)
 case atStart=>exact⟨0,none,0,0,lim+400,Nat.zero_le _,rfl,rfl,by omega,by omega,fun _=>⟨rfl,rfl⟩,HB1⟩
 case round=>
  obtain⟨k,a,n,c,lk,hk,rfl,rfl,hn,hlk,HZ,HS⟩:=hrel
  rename World=>wr
  by_cases hkm:k<m
  ·have hke:k<ks.length:=by rw[<- HM.out];exact hkm
   obtain⟨hlb,hnm⟩:=BelSt.name HS.out
   have cn:=hnm k hke
   have HSTEP:Hid _:=flat_stepT f hke
   have hgd1:=HGK.out k hke
   have hns:((ks[k]).1).size<=13:=by
    have:=join_size (l:=[(ks[k]).1]) (fun x hx=>hgd1.val x (by simp at hx;rw[hx];simp))
    rw[joinB_one] at this;simpa using this
   have hjx:=HJ.out (ks[k]).1
   have HSTAT:Hid (∀ W,Below wr.heap.size wr W->Calls Tryz.prog 28 #[.pointer (some ⟨B.wb,0,none⟩),.string (joinB (q ++ [(ks[k]).1]))] W fun e w'=>∃ sz:Int,e=.returned (.tuple #[.agg #[.int .i64 (ks[k]).2.kind,.int .i64 sz],.int .i64 0])/\BelSt s i p B objs tg0 w0 g0 t0 w' (lk+400) lb (ks.map entOf) a n c ((ks.take k).flatMap f)):=fun W hb=>bel_stat (BelSt.below HS.out hb) (by omega) H0.out HK0.out HRI.out hke hgd1
   have HTOLD:Hid ((ks[k]).2.kind=1->∀ wr,BelSt s i p B objs tg0 w0 g0 t0 wr (lk+400) lb (ks.map entOf) a n c ((ks.take k).flatMap f)->∀ W,Below wr.heap.size wr W->Calls Tryz.prog 41 #[.pointer (some ⟨B.wb,0,none⟩),.string (joinB (q ++ [(ks[k]).1]))] W fun e w'=>e=.returned (.tuple #[.string (ndD (nd objs (fcOf objs g0.fl) (ks[k]).2)),.bool true])/\BelSt s i p B objs tg0 w0 g0 t0 w' (lk+1200) lb (ks.map entOf) a n c ((ks.take k).flatMap f)/\∀ j,wr.heap.size<=j->j<W.heap.size->w'.heap[j]? = W.heap[j]?/\∀ w'',w'.grownBy w'' (some j)->BelSt s i p B objs tg0 w0 g0 t0 w'' (lk+1200) lb (ks.map entOf) a n c ((ks.take k).flatMap f)):=fun hk1 wr' h' W hb=>bel_told h' (by omega) H0.out HK0.out HRI.out hke hgd1 hk1 hb
   obtain⟨sub,hsb⟩:∃ sub,sub=thingsR objs (fcOf objs g0.fl) nn (q ++ [(ks[k]).1]) (ks[k]).2:=⟨_,rfl⟩
   have HSUB:Hid ((ks[k]).2.kind=2->∀ wr a' n' c',∀ {L},BelSt s i p B objs tg0 w0 g0 t0 wr (lk+400) lb (ks.map entOf) a' n' c' L->Calls Tryz.prog 42 #[.pointer (some ⟨B.wb,0,none⟩),.string (joinB (q ++ [(ks[k]).1])),.int .i64 (deep+1)] wr fun e w'=>∃ v,e=.returned (.tuple #[v,.bool true])/\BelSt s i p B objs tg0 w0 g0 t0 w' (lk+400+500+3000*sub.length) lb (ks.map entOf) a' n' c' L/\(sub = []->v=.slice none 0 0)/\(sub ≠ []->∃ gv cv,v=.slice (some ⟨gv,0,none⟩) sub.length cv/\∀ j u,(flatT sub)[j]? = some u->w'.cell? ((⟨gv,0,none⟩:Addr).add j)=some u)):=fun hk2 wr' a' n' c' L h'=>by
    subst hsb
    exact BelSt.sub h' (fun tg w g t l hq ha hl=>HREC.out k hke hk2 tg w g t l hq ha hl) (by omega)
   have hfe:f ks[k]=(joinB (q ++ [(ks[k]).1]),(ks[k]).2.kind,ndD (nd objs (fcOf objs g0.fl) (ks[k]).2)) :: (if (ks[k]).2.kind=2 then sub else []):=by rw[HF.out,hsb];rfl
   have hdat:(ks[k]).2.kind=2->ndD (nd objs (fcOf objs g0.fl) (ks[k]).2)=ByteArray.empty:=fun h=>by
    cases hx:(ks[k]).2 with
    | file id=>rw[hx] at h;cases h
    | held f=>rw[hx] at h;cases h
    | dir id=>rfl
    | own es=>rfl
   have hkd:=lt_kind12 (ks[k]).2
   rw[<- hjx] at HSTAT HTOLD HSUB hfe
   have HPV:Hid (∀ j (hj:j<ks.length),j+1=k->wr.cell? ⟨lb,j,none⟩=some (.string (ks[j]).1)/\Op.bytesLess (ks[j]).1.toList (ks[k]).1.toList=true):=fun j hj e=>⟨hnm j hj,by
    have:=List.pairwise_iff_getElem.1 HRI.out j k hj hke (by omega)
    simp only[ByteArray.toList_eq]
    exact less_of_cmp _ _ this⟩
   generalize ndD (nd objs (fcOf objs g0.fl) (ks[k]).2)=dat at HTOLD hfe hdat
   generalize (ks[k]).2.kind=kd at HSTAT HTOLD HSUB hfe hdat hkd
   generalize (ks[k]).1=nm at HSTAT HTOLD HSUB hfe cn hns hjx HPV
   have HF1:Hid (kd=1->f ks[k] = [((P++⟨#[47]⟩++nm),1,dat)]):=fun e=>by rw[hfe,e];rfl
   have HF2:Hid (kd=2->f ks[k] = [((P++⟨#[47]⟩++nm),2,ByteArray.empty)]++sub):=fun e=>by rw[hfe,hdat e,e];rfl
   clear hfe hdat hsb hjx hgd1 HS HB1 HREC HRI HGK HF HJ H0 HK0 hnm HZ
   by_cases hk0:k=0
   case' pos=>
    have hgd:decide (0<k)=false:=by simp;omega
    clear hk0 HPV
    go_wp2
    go_quiet (fail)
   case' neg=>
    obtain⟨j,hj⟩:∃ j:Nat,j+1=k:=⟨k-1,by omega⟩
    have hje:j<ks.length:=by omega
    obtain⟨cp,hless⟩:=HPV.out j hje hj
    have hji:((k:Int)-1)=(j:Int):=by omega
    have hgd:decide (0<k)=true:=by simp;omega
    have hjm:j<m:=by omega
    generalize (ks[j]).1=pv at cp hless
    clear HPV hk0 hj hje
    go_wp2
    go_quiet (fail)
   all_goals
    go_wp2_with fail
    refine Calls.mono (HSTAT.out _ (below_drewN (Below.refl _ _) _)) ?_
    rintro e w2 ⟨sz,rfl,h2⟩
    have H2:Hid _:=h2
    clear h2 HSTAT
    rcases hkd with rfl | rfl
    ·have HTO:Hid _:=HTOLD.out rfl w2 H2.out
     have HG1:Hid _:=HF1.out rfl
     clear HTOLD HSUB HF1 HF2
     go_wp2_with fail
     refine Calls.mono (HTO.out _ (((Below.refl w2.heap.size w2).alloc (Nat.le_refl _) _).alloc (by simp) _)) ?_
     rintro e w3 ⟨rfl,h3,hbx⟩
     obtain⟨hbox,hgr⟩:=hbx (w2.heap.size+1) (by omega) (by simp)
     rw[two_new8] at hbox
     obtain⟨hlt,b0,b1,b2,bf⟩:=cellsT3 hbox
     have hbf:=bf 2
     have h4:=hgr (w3.setCell ⟨w2.heap.size+1,2,none⟩ (.string dat)) (grown_set ⟨rfl,rfl,rfl,Nat.le_refl _,fun _ _ _=>rfl⟩)
     have H5:Hid _:=BelSt.below h4 ((Below.refl _ _).alloc (Nat.le_refl _) (.cells #[.string (P++⟨#[47]⟩++nm),.int .i64 1,.string dat] 40))
     have HC5:Hid _:=new_cellsT (w3.setCell ⟨w2.heap.size+1,2,none⟩ (.string dat)) ((P++⟨#[47]⟩++nm),1,dat) _ rfl 40 w3.heap.size (by simp)
     have hz5:=(BelSt.row H5.out).2.2
     clear h3 hbx hbox hgr h4 bf HTO
     go_wp2_with (at_builtin;(refine wpList_append_own_at _ rfl (.tmp 87) (.tmp 89) 32 rfl w0.heap.size 40 i0 _ 3 40 Tryz.underlying32 hi hz0 hz1 hz2 rfl (by decide) (.slice a n c) n (flatT ((ks.take k).flatMap f)) rfl (BelSt.row H5.out).1 ⟨_,0,none⟩ 1 1 (flatT [((P++⟨#[47]⟩++nm),1,dat)]) rfl rfl HC5.out (flatT_one8 _) (by unfold maxLen;omega) (by omega) hz5 ?_))
     intro v' w6 hown' hgrow _ hloc
     obtain⟨a6,c6,hv,h6⟩:=BelSt.grow (M:=[((P++⟨#[47]⟩++nm),1,dat)]) H5.out rfl hown' hgrow (by simpa using hloc)
     subst hv
     have H6:Hid (BelSt s i p B objs tg0 w0 g0 t0 w6 (lk+1200) lb (ks.map entOf) a6 (n+1) c6 ((ks.take (k+1)).flatMap f)):=by
      show BelSt _ _ _ _ _ _ _ _ _ _ _ _ _ _ _ _ _
      rw[HSTEP.out,HG1.out];exact h6
     have hn1:n+1<=2000000:=by
      have h1:=HT.out (k+1)
      have h2:=(BelSt.row H6.out).2.1
      omega
     clear hown' hgrow hloc h6 H5 HC5
     go_wp2
     exact⟨⟨k+1,a6,n+1,c6,lk+1200,by omega,by simp,rfl,hn1,by omega,fun e=>absurd e (by omega),H6⟩,by simp[intOf];omega⟩
    ·have HG2:Hid _:=HF2.out rfl
     have HSB:Hid _:=HSUB.out rfl
     clear HTOLD HSUB HF1 HF2
     have H5:Hid _:=BelSt.below H2.out ((((Below.refl w2.heap.size w2).alloc (Nat.le_refl _) (.cells #[.int .i64 2,.int .i64 sz] 60)).alloc (by simp) (.cells #[.string (P++⟨#[47]⟩++nm),.int .i64 2,.string ByteArray.empty] 40)).alloc (by simp;omega) (.cells #[.string (P++⟨#[47]⟩++nm),.int .i64 2,.string ByteArray.empty] 40))
     have HC5:Hid _:=new_cellsT ((w2.alloc (.cells #[.int .i64 2,.int .i64 sz] 60)).alloc (.cells #[.string (P++⟨#[47]⟩++nm),.int .i64 2,.string ByteArray.empty] 40)) ((P++⟨#[47]⟩++nm),2,ByteArray.empty) _ rfl 40 (w2.heap.size+1+1) (by simp)
     have hz5:=(BelSt.row H5.out).2.2
     go_wp2_with (at_builtin;(refine wpList_append_own_at _ rfl (.tmp 91) (.tmp 93) 32 rfl w0.heap.size 40 i0 _ 3 40 Tryz.underlying32 hi hz0 hz1 hz2 rfl (by decide) (.slice a n c) n (flatT ((ks.take k).flatMap f)) rfl (BelSt.row H5.out).1 ⟨_,0,none⟩ 1 1 (flatT [((P++⟨#[47]⟩++nm),2,ByteArray.empty)]) rfl rfl HC5.out (flatT_one8 _) (by unfold maxLen;omega) (by omega) hz5 ?_))
     intro v' w6 hown' hgrow _ hloc
     obtain⟨a6,c6,hv,h6⟩:=BelSt.grow (M:=[((P++⟨#[47]⟩++nm),2,ByteArray.empty)]) H5.out rfl hown' hgrow (by simpa using hloc)
     subst hv
     have HS6:Hid _:=HSB.out w6 _ _ _ h6
     have H6:Hid _:=h6
     clear hown' hgrow hloc h6 H5 HC5 H2 hz5 HSB
     go_wp2_with fail
     refine Calls.mono HS6.out ?_
     rintro e w7 ⟨v,rfl,h7,hnil,hsome⟩
     have hz7:=(BelSt.row h7).2.2
     have H7:Hid _:=h7
     clear h7 HS6
     have hfin:((ks.take (k+1)).flatMap f)=(ks.take k).flatMap f ++ [((P++⟨#[47]⟩++nm),2,ByteArray.empty)]++sub:=by
      rw[HSTEP.out,HG2.out,List.append_assoc]
     have hn1:n+1+sub.length<=2000000:=by
      have h1:=HT.out (k+1)
      have h2:=(BelSt.row H7.out).2.1
      rw[hfin,List.length_append,<- h2] at h1
      omega
     have HFIN:Hid _:=hfin
     by_cases hsub:sub = []
     ·have hv:=hnil hsub
      subst hv
      obtain⟨g7,ha7,hc7⟩:=full_cap (n:=n+1) (BelSt.row H7.out).1 (by omega)
      subst ha7
      have H8:Hid (BelSt s i p B objs tg0 w0 g0 t0 w7 (lk+400+500+3000*sub.length) lb (ks.map entOf) (some ⟨g7,0,none⟩) (n+1) c6 ((ks.take (k+1)).flatMap f)):=by
       show BelSt _ _ _ _ _ _ _ _ _ _ _ _ _ _ _ _ _
       rw[HFIN.out]
       have:=H7.out
       rw[hsub] at this ⊢
       rw[List.append_nil]
       exact this
      have hl0:sub.length=0:=by rw[hsub];rfl
      clear hnil hsome H7 hfin
      go_wp2_with (at_builtin;(refine wpList_append_none8 rfl (.tmp 105) (.tmp 106) 32 rfl 40 i0 Tryz.underlying32 hi g7 (n+1) c6 rfl rfl hc7 ?_))
      go_wp2
      exact⟨⟨k+1,_,n+1,c6,_,by omega,by simp,rfl,by omega,by omega,fun e=>absurd e (by omega),H8⟩,by simp[intOf];omega⟩
     ·obtain⟨gv,cv,hv,hcv⟩:=hsome hsub
      subst hv
      obtain⟨m8,hm8⟩:∃ m8,m8=sub.length:=⟨_,rfl⟩
      have HM8:Hid _:=hm8
      have HCV:Hid _:=hcv
      rw[<- hm8] at hn1
      rw[<- hm8]
      clear hnil hsome hcv hfin hm8
      go_wp2_with (at_builtin;(refine wpList_append_own_at _ rfl (.tmp 105) (.tmp 106) 32 rfl w0.heap.size 40 i0 _ 3 40 Tryz.underlying32 hi hz0 hz1 hz2 rfl (by decide) (.slice a6 (n+1) c6) (n+1) (flatT ((ks.take k).flatMap f ++ [((P++⟨#[47]⟩++nm),2,ByteArray.empty)])) rfl (BelSt.row H7.out).1 ⟨gv,0,none⟩ m8 cv (flatT sub) rfl (by rw[flatT_len,HM8.out]) HCV.out (flatT_one8 _) (by unfold maxLen;omega) (by omega) hz7 ?_))
      intro v' w8 hown' hgrow _ hloc
      obtain⟨a8,c8,hv,h8⟩:=BelSt.grow (M:=sub) H7.out HM8.out hown' hgrow (by simpa using hloc)
      subst hv
      have H8:Hid (BelSt s i p B objs tg0 w0 g0 t0 w8 (lk+400+500+3000*sub.length) lb (ks.map entOf) a8 (n+1+m8) c8 ((ks.take (k+1)).flatMap f)):=by
       show BelSt _ _ _ _ _ _ _ _ _ _ _ _ _ _ _ _ _
       rw[HFIN.out];exact h8
      have hl8:lk+400+500+3000*sub.length<=lim+500+3000*(n+1+m8):=by rw[<- HM8.out];omega
      clear hown' hgrow hloc h8 H7
      go_wp2
      exact⟨⟨k+1,a8,n+1+m8,c8,_,by omega,by simp,rfl,hn1,hl8,fun e=>absurd e (by omega),H8⟩,by simp[intOf];omega⟩
  ·have hkm':k=m:=by omega
   have hfin:=HS.out
   rw[hkm',HM.out,List.take_length] at hfin
   have HFI:Hid _:=BelSt.done (lim:=lim) hfin hlk HZ.out
   clear hfin hkm'
   go_wp2
   go_ret2
   exact HFI.out
theorem below_root {lim R:Nat}(hQ:QInv tg0 w0 s i p B objs g0 lim t0)(hlim:lim+7000000000+R<1099511627776)(hbr:g0.fs.brk=false){q:List ByteArray}(hqn:q = []){c0:LT}{ks:Kids}(h0:t0.at objs q=some c0)(hk0:kids objs c0=some ks)(hr:RisingK ks)(h16:ks.length<=16)(hG:Good q)(hGk:∀ k (hk:k<ks.length),Good (q ++ [(ks[k]).1]))(nn:Nat)(htot:(ks.flatMap (thingsX objs (fcOf objs g0.fl) nn q)).length<=2000000)(deep:Int)(hd0:0<=deep)(hd:deep<=5)
  (hrec:∀ k (hk:k<ks.length),(ks[k]).2.kind=2->∀ tg w g t l,QInv tg w s i p B objs g l t->Alike objs g0 t0 g t->l+R<1099511627776->Calls Tryz.prog 42 #[.pointer (some ⟨B.wb,0,none⟩),.string (joinB (q ++ [(ks[k]).1])),.int .i64 (deep+1)] w (BelRet s i p B objs tg w g t l (thingsR objs (fcOf objs g0.fl) nn (q ++ [(ks[k]).1]) (ks[k]).2))):
  Calls Tryz.prog 42 #[.pointer (some ⟨B.wb,0,none⟩),.string (joinB q),.int .i64 deep] w0 (BelRet s i p B objs tg0 w0 g0 t0 lim (ks.flatMap (thingsX objs (fcOf objs g0.fl) nn q))):=by
 obtain⟨i0,hi,hz0,hz1,hz2⟩:=info_parts infoT
 obtain⟨f,hf⟩:∃ f,f=thingsX objs (fcOf objs g0.fl) nn q:=⟨_,rfl⟩
 rw[<- hf] at htot ⊢
 have HL:Hid _:=BelSt.begin hQ (by omega) hbr h0 hk0 hG
 have H0:Hid _:=h0
 have HK0:Hid _:=hk0
 have HRI:Hid _:=hr
 have HGK:Hid _:=hGk
 have HF:Hid _:=hf
 have HREC:Hid _:=hrec
 have HT:Hid (∀ k,((ks.take k).flatMap f).length<=2000000):=fun k=>by
  have:=flat_takeT f ks k
  omega
 have hdd:decide (5<deep)=false:=by simp;omega
 have hd1:deep+1<=6:=by omega
 have HJ:Hid (∀ x:ByteArray,x=joinB (q ++ [x])):=fun x=>by rw[hqn];exact (joinB_one x).symm
 have hj0:joinB q=⟨#[]⟩:=by rw[hqn];exact joinB_nil
 rw[hj0] at HL ⊢
 clear hj0
 obtain⟨m,hm⟩:∃ m,m=ks.length:=⟨_,rfl⟩
 have HM:Hid _:=hm
 have hm16:m<=16:=by omega
 clear hQ hbr h0 hk0 hr hG hGk hf htot hrec hm h16 hqn
 go_enter Tryz.func42,Tryz.ntmps42
 go_wp2_with fail
 refine Calls.mono HL.out ?_
 rintro e w1 ⟨lb,rfl,hB1⟩
 have HB1:Hid (BelSt s i p B objs tg0 w0 g0 t0 w1 (lim+400) lb (ks.map entOf) none 0 0 ((ks.take 0).flatMap f)):=hB1
 rw[<- HM.out]
 clear hB1 HL
 go_wp2
 go_loopw [8,11] (fun ov iv wr=>∃ (k:Nat) (a:Option Addr) (n c lk:Nat),k<=m/\iv=.int .i64 (k:Int)/\ov=.slice a n c/\n<=2000000/\lk<=lim+500+3000*n/\Hid (n=0->a=none/\c=0)/\Hid (BelSt s i p B objs tg0 w0 g0 t0 wr lk lb (ks.map entOf) a n c ((ks.take k).flatMap f))) (fun _ iv _=>m-(intOf iv).toNat)
 case atStart=>exact⟨0,none,0,0,lim+400,Nat.zero_le _,rfl,rfl,by omega,by omega,fun _=>⟨rfl,rfl⟩,HB1⟩
 case round=>
  obtain⟨k,a,n,c,lk,hk,rfl,rfl,hn,hlk,HZ,HS⟩:=hrel
  rename World=>wr
  by_cases hkm:k<m
  ·have hke:k<ks.length:=by rw[<- HM.out];exact hkm
   obtain⟨hlb,hnm⟩:=BelSt.name HS.out
   have cn:=hnm k hke
   have HSTEP:Hid _:=flat_stepT f hke
   have hgd1:=HGK.out k hke
   have hns:((ks[k]).1).size<=13:=by
    have:=join_size (l:=[(ks[k]).1]) (fun x hx=>hgd1.val x (by simp at hx;rw[hx];simp))
    rw[joinB_one] at this;simpa using this
   have hjx:=HJ.out (ks[k]).1
   have HSTAT:Hid (∀ W,Below wr.heap.size wr W->Calls Tryz.prog 28 #[.pointer (some ⟨B.wb,0,none⟩),.string (joinB (q ++ [(ks[k]).1]))] W fun e w'=>∃ sz:Int,e=.returned (.tuple #[.agg #[.int .i64 (ks[k]).2.kind,.int .i64 sz],.int .i64 0])/\BelSt s i p B objs tg0 w0 g0 t0 w' (lk+400) lb (ks.map entOf) a n c ((ks.take k).flatMap f)):=fun W hb=>bel_stat (BelSt.below HS.out hb) (by omega) H0.out HK0.out HRI.out hke hgd1
   have HTOLD:Hid ((ks[k]).2.kind=1->∀ wr,BelSt s i p B objs tg0 w0 g0 t0 wr (lk+400) lb (ks.map entOf) a n c ((ks.take k).flatMap f)->∀ W,Below wr.heap.size wr W->Calls Tryz.prog 41 #[.pointer (some ⟨B.wb,0,none⟩),.string (joinB (q ++ [(ks[k]).1]))] W fun e w'=>e=.returned (.tuple #[.string (ndD (nd objs (fcOf objs g0.fl) (ks[k]).2)),.bool true])/\BelSt s i p B objs tg0 w0 g0 t0 w' (lk+1200) lb (ks.map entOf) a n c ((ks.take k).flatMap f)/\∀ j,wr.heap.size<=j->j<W.heap.size->w'.heap[j]? = W.heap[j]?/\∀ w'',w'.grownBy w'' (some j)->BelSt s i p B objs tg0 w0 g0 t0 w'' (lk+1200) lb (ks.map entOf) a n c ((ks.take k).flatMap f)):=fun hk1 wr' h' W hb=>bel_told h' (by omega) H0.out HK0.out HRI.out hke hgd1 hk1 hb
   obtain⟨sub,hsb⟩:∃ sub,sub=thingsR objs (fcOf objs g0.fl) nn (q ++ [(ks[k]).1]) (ks[k]).2:=⟨_,rfl⟩
   have HSUB:Hid ((ks[k]).2.kind=2->∀ wr a' n' c',∀ {L},BelSt s i p B objs tg0 w0 g0 t0 wr (lk+400) lb (ks.map entOf) a' n' c' L->Calls Tryz.prog 42 #[.pointer (some ⟨B.wb,0,none⟩),.string (joinB (q ++ [(ks[k]).1])),.int .i64 (deep+1)] wr fun e w'=>∃ v,e=.returned (.tuple #[v,.bool true])/\BelSt s i p B objs tg0 w0 g0 t0 w' (lk+400+500+3000*sub.length) lb (ks.map entOf) a' n' c' L/\(sub = []->v=.slice none 0 0)/\(sub ≠ []->∃ gv cv,v=.slice (some ⟨gv,0,none⟩) sub.length cv/\∀ j u,(flatT sub)[j]? = some u->w'.cell? ((⟨gv,0,none⟩:Addr).add j)=some u)):=fun hk2 wr' a' n' c' L h'=>by
    subst hsb
    exact BelSt.sub h' (fun tg w g t l hq ha hl=>HREC.out k hke hk2 tg w g t l hq ha hl) (by omega)
   have hfe:f ks[k]=(joinB (q ++ [(ks[k]).1]),(ks[k]).2.kind,ndD (nd objs (fcOf objs g0.fl) (ks[k]).2)) :: (if (ks[k]).2.kind=2 then sub else []):=by rw[HF.out,hsb];rfl
   have hdat:(ks[k]).2.kind=2->ndD (nd objs (fcOf objs g0.fl) (ks[k]).2)=ByteArray.empty:=fun h=>by
    cases hx:(ks[k]).2 with
    | file id=>rw[hx] at h;cases h
    | held f=>rw[hx] at h;cases h
    | dir id=>rfl
    | own es=>rfl
   have hkd:=lt_kind12 (ks[k]).2
   rw[<- hjx] at HSTAT HTOLD HSUB hfe
   have HPV:Hid (∀ j (hj:j<ks.length),j+1=k->wr.cell? ⟨lb,j,none⟩=some (.string (ks[j]).1)/\Op.bytesLess (ks[j]).1.toList (ks[k]).1.toList=true):=fun j hj e=>⟨hnm j hj,by
    have:=List.pairwise_iff_getElem.1 HRI.out j k hj hke (by omega)
    simp only[ByteArray.toList_eq]
    exact less_of_cmp _ _ this⟩
   generalize ndD (nd objs (fcOf objs g0.fl) (ks[k]).2)=dat at HTOLD hfe hdat
   generalize (ks[k]).2.kind=kd at HSTAT HTOLD HSUB hfe hdat hkd
   generalize (ks[k]).1=nm at HSTAT HTOLD HSUB hfe cn hns hjx HPV
   have HF1:Hid (kd=1->f ks[k] = [(nm,1,dat)]):=fun e=>by rw[hfe,e];rfl
   have HF2:Hid (kd=2->f ks[k] = [(nm,2,ByteArray.empty)]++sub):=fun e=>by rw[hfe,hdat e,e];rfl
   clear hfe hdat hsb hjx hgd1 HS HB1 HREC HRI HGK HF HJ H0 HK0 hnm HZ
   by_cases hk0:k=0
   case' pos=>
    have hgd:decide (0<k)=false:=by simp;omega
    clear hk0 HPV
    go_wp2
    go_quiet (fail)
   case' neg=>
    obtain⟨j,hj⟩:∃ j:Nat,j+1=k:=⟨k-1,by omega⟩
    have hje:j<ks.length:=by omega
    obtain⟨cp,hless⟩:=HPV.out j hje hj
    have hji:((k:Int)-1)=(j:Int):=by omega
    have hgd:decide (0<k)=true:=by simp;omega
    have hjm:j<m:=by omega
    generalize (ks[j]).1=pv at cp hless
    clear HPV hk0 hj hje
    go_wp2
    go_quiet (fail)
   all_goals
    go_wp2_with fail
    refine Calls.mono (HSTAT.out _ (below_drewN (Below.refl _ _) _)) ?_
    rintro e w2 ⟨sz,rfl,h2⟩
    have H2:Hid _:=h2
    clear h2 HSTAT
    rcases hkd with rfl | rfl
    ·have HTO:Hid _:=HTOLD.out rfl w2 H2.out
     have HG1:Hid _:=HF1.out rfl
     clear HTOLD HSUB HF1 HF2
     go_wp2_with fail
     refine Calls.mono (HTO.out _ (((Below.refl w2.heap.size w2).alloc (Nat.le_refl _) _).alloc (by simp) _)) ?_
     rintro e w3 ⟨rfl,h3,hbx⟩
     obtain⟨hbox,hgr⟩:=hbx (w2.heap.size+1) (by omega) (by simp)
     rw[two_new8] at hbox
     obtain⟨hlt,b0,b1,b2,bf⟩:=cellsT3 hbox
     have hbf:=bf 2
     have h4:=hgr (w3.setCell ⟨w2.heap.size+1,2,none⟩ (.string dat)) (grown_set ⟨rfl,rfl,rfl,Nat.le_refl _,fun _ _ _=>rfl⟩)
     have H5:Hid _:=BelSt.below h4 ((Below.refl _ _).alloc (Nat.le_refl _) (.cells #[.string nm,.int .i64 1,.string dat] 40))
     have HC5:Hid _:=new_cellsT (w3.setCell ⟨w2.heap.size+1,2,none⟩ (.string dat)) (nm,1,dat) _ rfl 40 w3.heap.size (by simp)
     have hz5:=(BelSt.row H5.out).2.2
     clear h3 hbx hbox hgr h4 bf HTO
     go_wp2_with (at_builtin;(refine wpList_append_own_at _ rfl (.tmp 87) (.tmp 89) 32 rfl w0.heap.size 40 i0 _ 3 40 Tryz.underlying32 hi hz0 hz1 hz2 rfl (by decide) (.slice a n c) n (flatT ((ks.take k).flatMap f)) rfl (BelSt.row H5.out).1 ⟨_,0,none⟩ 1 1 (flatT [(nm,1,dat)]) rfl rfl HC5.out (flatT_one8 _) (by unfold maxLen;omega) (by omega) hz5 ?_))
     intro v' w6 hown' hgrow _ hloc
     obtain⟨a6,c6,hv,h6⟩:=BelSt.grow (M:=[(nm,1,dat)]) H5.out rfl hown' hgrow (by simpa using hloc)
     subst hv
     have H6:Hid (BelSt s i p B objs tg0 w0 g0 t0 w6 (lk+1200) lb (ks.map entOf) a6 (n+1) c6 ((ks.take (k+1)).flatMap f)):=by
      show BelSt _ _ _ _ _ _ _ _ _ _ _ _ _ _ _ _ _
      rw[HSTEP.out,HG1.out];exact h6
     have hn1:n+1<=2000000:=by
      have h1:=HT.out (k+1)
      have h2:=(BelSt.row H6.out).2.1
      omega
     clear hown' hgrow hloc h6 H5 HC5
     go_wp2
     exact⟨⟨k+1,a6,n+1,c6,lk+1200,by omega,by simp,rfl,hn1,by omega,fun e=>absurd e (by omega),H6⟩,by simp[intOf];omega⟩
    ·have HG2:Hid _:=HF2.out rfl
     have HSB:Hid _:=HSUB.out rfl
     clear HTOLD HSUB HF1 HF2
     have H5:Hid _:=BelSt.below H2.out ((((Below.refl w2.heap.size w2).alloc (Nat.le_refl _) (.cells #[.int .i64 2,.int .i64 sz] 60)).alloc (by simp) (.cells #[.string nm,.int .i64 2,.string ByteArray.empty] 40)).alloc (by simp;omega) (.cells #[.string nm,.int .i64 2,.string ByteArray.empty] 40))
     have HC5:Hid _:=new_cellsT ((w2.alloc (.cells #[.int .i64 2,.int .i64 sz] 60)).alloc (.cells #[.string nm,.int .i64 2,.string ByteArray.empty] 40)) (nm,2,ByteArray.empty) _ rfl 40 (w2.heap.size+1+1) (by simp)
     have hz5:=(BelSt.row H5.out).2.2
     go_wp2_with (at_builtin;(refine wpList_append_own_at _ rfl (.tmp 91) (.tmp 93) 32 rfl w0.heap.size 40 i0 _ 3 40 Tryz.underlying32 hi hz0 hz1 hz2 rfl (by decide) (.slice a n c) n (flatT ((ks.take k).flatMap f)) rfl (BelSt.row H5.out).1 ⟨_,0,none⟩ 1 1 (flatT [(nm,2,ByteArray.empty)]) rfl rfl HC5.out (flatT_one8 _) (by unfold maxLen;omega) (by omega) hz5 ?_))
     intro v' w6 hown' hgrow _ hloc
     obtain⟨a6,c6,hv,h6⟩:=BelSt.grow (M:=[(nm,2,ByteArray.empty)]) H5.out rfl hown' hgrow (by simpa using hloc)
     subst hv
     have HS6:Hid _:=HSB.out w6 _ _ _ h6
     have H6:Hid _:=h6
     clear hown' hgrow hloc h6 H5 HC5 H2 hz5 HSB
     go_wp2_with fail
     refine Calls.mono HS6.out ?_
     rintro e w7 ⟨v,rfl,h7,hnil,hsome⟩
     have hz7:=(BelSt.row h7).2.2
     have H7:Hid _:=h7
     clear h7 HS6
     have hfin:((ks.take (k+1)).flatMap f)=(ks.take k).flatMap f ++ [(nm,2,ByteArray.empty)]++sub:=by
      rw[HSTEP.out,HG2.out,List.append_assoc]
     have hn1:n+1+sub.length<=2000000:=by
      have h1:=HT.out (k+1)
      have h2:=(BelSt.row H7.out).2.1
      rw[hfin,List.length_append,<- h2] at h1
      omega
     have HFIN:Hid _:=hfin
     by_cases hsub:sub = []
     ·have hv:=hnil hsub
      subst hv
      obtain⟨g7,ha7,hc7⟩:=full_cap (n:=n+1) (BelSt.row H7.out).1 (by omega)
      subst ha7
      have H8:Hid (BelSt s i p B objs tg0 w0 g0 t0 w7 (lk+400+500+3000*sub.length) lb (ks.map entOf) (some ⟨g7,0,none⟩) (n+1) c6 ((ks.take (k+1)).flatMap f)):=by
       show BelSt _ _ _ _ _ _ _ _ _ _ _ _ _ _ _ _ _
       rw[HFIN.out]
       have:=H7.out
       rw[hsub] at this ⊢
       rw[List.append_nil]
       exact this
      have hl0:sub.length=0:=by rw[hsub];rfl
      clear hnil hsome H7 hfin
      go_wp2_with (at_builtin;(refine wpList_append_none8 rfl (.tmp 105) (.tmp 106) 32 rfl 40 i0 Tryz.underlying32 hi g7 (n+1) c6 rfl rfl hc7 ?_))
      go_wp2
      exact⟨⟨k+1,_,n+1,c6,_,by omega,by simp,rfl,by omega,by omega,fun e=>absurd e (by omega),H8⟩,by simp[intOf];omega⟩
     ·obtain⟨gv,cv,hv,hcv⟩:=hsome hsub
      subst hv
      obtain⟨m8,hm8⟩:∃ m8,m8=sub.length:=⟨_,rfl⟩
      have HM8:Hid _:=hm8
      have HCV:Hid _:=hcv
      rw[<- hm8] at hn1
      rw[<- hm8]
      clear hnil hsome hcv hfin hm8
      go_wp2_with (at_builtin;(refine wpList_append_own_at _ rfl (.tmp 105) (.tmp 106) 32 rfl w0.heap.size 40 i0 _ 3 40 Tryz.underlying32 hi hz0 hz1 hz2 rfl (by decide) (.slice a6 (n+1) c6) (n+1) (flatT ((ks.take k).flatMap f ++ [(nm,2,ByteArray.empty)])) rfl (BelSt.row H7.out).1 ⟨gv,0,none⟩ m8 cv (flatT sub) rfl (by rw[flatT_len,HM8.out]) HCV.out (flatT_one8 _) (by unfold maxLen;omega) (by omega) hz7 ?_))
      intro v' w8 hown' hgrow _ hloc
      obtain⟨a8,c8,hv,h8⟩:=BelSt.grow (M:=sub) H7.out HM8.out hown' hgrow (by simpa using hloc)
      subst hv
      have H8:Hid (BelSt s i p B objs tg0 w0 g0 t0 w8 (lk+400+500+3000*sub.length) lb (ks.map entOf) a8 (n+1+m8) c8 ((ks.take (k+1)).flatMap f)):=by
       show BelSt _ _ _ _ _ _ _ _ _ _ _ _ _ _ _ _ _
       rw[HFIN.out];exact h8
      have hl8:lk+400+500+3000*sub.length<=lim+500+3000*(n+1+m8):=by rw[<- HM8.out];omega
      clear hown' hgrow hloc h8 H7
      go_wp2
      exact⟨⟨k+1,a8,n+1+m8,c8,_,by omega,by simp,rfl,hn1,hl8,fun e=>absurd e (by omega),H8⟩,by simp[intOf];omega⟩
  ·have hkm':k=m:=by omega
   have hfin:=HS.out
   rw[hkm',HM.out,List.take_length] at hfin
   have HFI:Hid _:=BelSt.done (lim:=lim) hfin hlk HZ.out
   clear hfin hkm'
   go_wp2
   go_ret2
   exact HFI.out
end
end Go.Proofs.YtajopoddmfdejaaGreat
