/-
  What is proved here: 'search': where a name stands among entries by rising names, or would. 'entries': what is in the directory that stands at a path.
-/
import Derived.Test.YtajopoddmfdejaaGreatRetM09
import Derived.Deep.LoopGhost
namespace Go.Proofs.YtajopoddmfdejaaGreat
open Go.RowKit Go.Sort Go.Shelf
set_option linter.unusedVariables false
set_option maxRecDepth 100000
set_option maxHeartbeats 16000000
theorem searchL_any (x:Ent)(n:ByteArray)(W:World):Calls Tryz.prog 121 #[.agg #[.string x.1,.int .i64 x.2.1,.int .i64 x.2.2],.string n] W fun e w'=>e=.returned (.int .i64 (cmpN x.1 n))/\Below W.heap.size W w':=by
 have hcon:=fun w=>Tryz.strings_Compare x.1 n w
 go_enter Tryz.func121,Tryz.ntmps121
 go_wp2_with (go_at_call 122;refine (hcon _).mono ?_;rintro e w' ⟨rfl,rfl⟩)
 go_ret
 exact⟨rfl,(Below.refl _ _).alloc (Nat.le_refl _) _⟩
theorem row_at {w:World}{b:Nat}{es:List Ent}(hc:∀ j u,(flat es)[j]? = some u->w.cell? ⟨b,j,none⟩=some u){i:Nat}(hi:i<es.length):
  w.cell? ⟨b,i*3,none⟩=some (.string es[i].1)/\w.cell? ⟨b,i*3+1,none⟩=some (.int .i64 es[i].2.1)/\w.cell? ⟨b,i*3+2,none⟩=some (.int .i64 es[i].2.2):=by
 refine⟨hc _ _ ?_,hc _ _ ?_,hc _ _ ?_⟩
 ·have:=flat_get es i 0 hi (by decide);simpa [encE] using this
 ·have:=flat_get es i 1 hi (by decide);simpa [encE] using this
 ·have:=flat_get es i 2 hi (by decide);simpa [encE] using this
def Parted (es:List Ent)(n:ByteArray)(lo hi:Nat):Prop:=(∀ j (h:j<es.length),j<lo->cmpN es[j].1 n<0)/\(∀ j (h:j<es.length),hi<=j->¬ cmpN es[j].1 n<0)
theorem parted_idx {es:List Ent}{n:ByteArray}{k:Nat}(hk:k<=es.length)(h:Parted es n k k):idxK es n=k:=by
 unfold idxK
 have e:es=es.take k++es.drop k:=(List.take_append_drop k es).symm
 rw[e,List.countP_append,List.countP_eq_length.2 (by
  intro x hx
  obtain⟨j,hj,rfl⟩:=List.getElem_of_mem hx
  rw[List.length_take] at hj
  rw[List.getElem_take]
  exact decide_eq_true (h.1 j (by omega) (by omega))),List.countP_eq_zero.2 (by
  intro x hx
  obtain⟨j,hj,rfl⟩:=List.getElem_of_mem hx
  rw[List.length_drop] at hj
  rw[List.getElem_drop]
  simpa using h.2 (k+j) (by omega) (by omega)),List.length_take]
 omega
theorem rising_lt {es:List Ent}(h:RisingK es){a b:Nat}(hb:b<es.length)(hab:a<b):cmpN (es[a]'(by omega)).1 es[b].1<0:=List.pairwise_iff_getElem.1 h a b (by omega) hb hab
theorem bin_any (b cap:Nat)(es:List Ent)(n:ByteArray)(w:World)(hb:b<w.heap.size)(hc:∀ j u,(flat es)[j]? = some u->w.cell? ⟨b,j,none⟩=some u)(hr:RisingK es)(hl:es.length<=16):
  Calls Tryz.prog 120 #[.slice (some ⟨b,0,none⟩) es.length cap,.string n,.func (.func 121) #[] #[]] w fun e w'=>e=.returned (.tuple #[.int .i64 (idxK es n:Nat),.bool (thereK es n)])/\Below w.heap.size w w':=by
 have HC:Aside (∀ j u,(flat es)[j]? = some u->w.cell? ⟨b,j,none⟩=some u):=hc
 have HR:Aside (RisingK es):=hr
 clear hc hr
 go_enter Tryz.func120,Tryz.ntmps120
 go_wp2
 go_loopg [9,10] es.length (fun kx s9 s10 wr=>∃ lo hi:Nat,s9=.int .i64 lo/\s10=.int .i64 hi/\lo<=hi/\hi<=es.length/\hi-lo<=kx/\Aside (Below w.heap.size w wr)/\Aside (Parted es n lo hi))
 case atStart=>exact⟨0,es.length,rfl,rfl,Nat.zero_le _,Nat.le_refl _,by omega,Below.refl _ _,(⟨fun j _ h=>absurd h (Nat.not_lt_zero _),fun j h1 h2=>absurd h2 (by omega)⟩:Parted es n 0 es.length)⟩
 case round=>
  obtain⟨lo,hi,rfl,rfl,hlh,hin,hg,S1,I⟩:=hrel
  have hbw:b<wr.heap.size:=Nat.lt_of_lt_of_le hb S1.out.size
  have cells:∀ i (hi:i<es.length),wr.cell? ⟨b,i*3,none⟩=some (.string es[i].1)/\wr.cell? ⟨b,i*3+1,none⟩=some (.int .i64 es[i].2.1)/\wr.cell? ⟨b,i*3+2,none⟩=some (.int .i64 es[i].2.2):=fun i hi=>row_at (fun j u hu=>(S1.out.cell (p:=⟨b,j,none⟩) hb).trans (HC.out j u hu)) hi
  have CE:Aside _:=cells
  clear cells
  by_cases hlt:lo<hi
  ·obtain⟨k0,k1,k2⟩:=CE.out ((lo+hi) / 2) (by omega)
   generalize hy:es[(lo+hi) / 2]'(by omega)=y at k0 k1 k2
   have Y:Aside (es[(lo+hi) / 2]'(by omega)=y):=hy
   clear hy
   by_cases hyx:cmpN y.1 n<0
   ·go_wp2_with (go_at_call 121;refine (searchL_any y n _).mono ?_;rintro e w' ⟨rfl,hbl⟩)
    go_roundg (hi-((lo+hi) / 2+1))
    case measure=>omega
    case rel=>
     have I2:Aside (Parted es n ((lo+hi) / 2+1) hi):=⟨fun j hj hjl=>by
      by_cases e:j=(lo+hi) / 2
      ·subst e;rw[Y.out];exact hyx
      ·have:=rising_lt HR.out (a:=j) (b:=(lo+hi) / 2) (by omega) (by omega)
       rw[Y.out] at this
       exact cmpN_trans this hyx,I.out.2⟩
     exact⟨(lo+hi) / 2+1,hi,by rw[show ((lo:Int)+(hi:Int)) / 2+1=(((lo+hi) / 2+1:Nat):Int) by omega],rfl,by omega,hin,Nat.le_refl _,S1.out.trans (hbl.mono S1.out.size),I2⟩
   ·go_wp2_with (go_at_call 121;refine (searchL_any y n _).mono ?_;rintro e w' ⟨rfl,hbl⟩)
    go_roundg ((lo+hi) / 2-lo)
    case measure=>omega
    case rel=>
     have I2:Aside (Parted es n lo ((lo+hi) / 2)):=⟨I.out.1,fun j hj hjl h=>by
      by_cases e:j=(lo+hi) / 2
      ·subst e;rw[Y.out] at h;omega
      ·have:=rising_lt HR.out (a:=(lo+hi) / 2) (b:=j) hj (by omega)
       rw[Y.out] at this
       have:=cmpN_trans this h
       omega⟩
     exact⟨lo,(lo+hi) / 2,rfl,by rw[show ((lo:Int)+(hi:Int)) / 2=(((lo+hi) / 2:Nat):Int) by omega],by omega,by omega,Nat.le_refl _,S1.out.trans (hbl.mono S1.out.size),I2⟩
  ·obtain rfl:hi=lo:=by omega
   have hidx:=parted_idx hin I.out
   by_cases hn:hi<es.length
   ·obtain⟨k0,k1,k2⟩:=CE.out hi hn
    generalize hy:es[hi]=y at k0 k1 k2
    have Y:Aside (es[hi]=y):=hy
    clear hy
    have ht:thereK es n=decide (cmpN y.1 n=0):=by
     unfold thereK
     rw[hidx,List.getElem?_eq_getElem hn,Y.out]
     show decide (y.1=n)=_
     by_cases e:y.1=n
     ·rw[e,cmpN_self];simp
     ·rw[decide_eq_false e,decide_eq_false (fun h=>e (cmpN_zero h))]
    have IT:Aside (idxK es n=hi):=hidx
    have TT:Aside (thereK es n=decide (cmpN y.1 n=0)):=ht
    clear hidx ht
    by_cases hyx:cmpN y.1 n=0
    ·go_wp2_with (go_at_call 121;refine (searchL_any y n _).mono ?_;rintro e w' ⟨rfl,hbl⟩)
     go_ret2
     exact⟨by rw[IT.out,TT.out];simp[hyx],S1.out.trans (hbl.mono S1.out.size)⟩
    ·go_wp2_with (go_at_call 121;refine (searchL_any y n _).mono ?_;rintro e w' ⟨rfl,hbl⟩)
     go_ret2
     exact⟨by rw[IT.out,TT.out];simp[hyx],S1.out.trans (hbl.mono S1.out.size)⟩
   ·have ht:thereK es n=false:=by
     unfold thereK
     rw[hidx,List.getElem?_eq_none (by omega)];rfl
    have IT:Aside (idxK es n=hi):=hidx
    have TT:Aside (thereK es n=false):=ht
    clear hidx ht
    go_wp2
    go_ret2
    exact⟨by rw[IT.out,TT.out];rfl,S1.out⟩
theorem search_row (b cap:Nat)(es:List Ent)(n:ByteArray)(w:World)(hb:b<w.heap.size)(hc:∀ j u,(flat es)[j]? = some u->w.cell? ⟨b,j,none⟩=some u)(hr:RisingK es)(hl:es.length<=16):
  Calls Tryz.prog 77 #[.slice (some ⟨b,0,none⟩) es.length cap,.string n] w fun e w'=>e=.returned (.tuple #[.int .i64 (idxK es n:Nat),.bool (thereK es n)])/\Below w.heap.size w w':=by
 have hcon:=bin_any b cap es n w hb hc hr hl
 generalize idxK es n=ix at hcon ⊢
 generalize thereK es n=th at hcon ⊢
 clear hc hr hl
 go_enter Tryz.func77,Tryz.ntmps77
 go_wp2_with (go_at_call 120;refine hcon.mono ?_;rintro e w' ⟨rfl,hbl⟩)
 go_ret2
 exact⟨rfl,hbl⟩
theorem bin_nil (n:ByteArray)(w:World):Calls Tryz.prog 120 #[.slice none 0 0,.string n,.func (.func 121) #[] #[]] w fun e w'=>e=.returned (.tuple #[.int .i64 0,.bool false])/\w'=w:=by
 go_enter Tryz.func120,Tryz.ntmps120
 go_wp2
 refine wp_loop_rounds 1 ?_
 rw[rounds_succ]
 go_wp2
 go_ret2
 exact⟨rfl,rfl⟩
theorem search_nil (n:ByteArray)(w:World):Calls Tryz.prog 77 #[.slice none 0 0,.string n] w fun e w'=>e=.returned (.tuple #[.int .i64 0,.bool false])/\w'=w:=by
 go_enter Tryz.func77,Tryz.ntmps77
 go_wp2_with (go_at_call 120;refine (bin_nil n _).mono ?_;rintro e w' ⟨rfl,rfl⟩)
 go_ret2
 exact⟨rfl,rfl⟩
theorem search_any {w:World}{v:Value}{es:List Ent}(hrow:w.ownsRow 0 76 3 v es.length (flat es))(n:ByteArray)(hr:RisingK es)(hl:es.length<=16):
  Calls Tryz.prog 77 #[v,.string n] w fun e w'=>e=.returned (.tuple #[.int .i64 (idxK es n:Nat),.bool (thereK es n)])/\Below w.heap.size w w':=by
 rcases hrow.2 with ⟨rfl,h0⟩ | ⟨g,cap,cur,rfl,_,hg,_⟩
 ·have:es = []:=List.length_eq_zero_iff.1 h0
  subst this
  refine (search_nil n w).mono ?_
  rintro e w' ⟨rfl,rfl⟩
  exact⟨rfl,Below.refl _ _⟩
 ·refine search_row g cap es n w (Array.getElem?_eq_some_iff.1 hg).1 (fun j u hu=>?_) hr hl
  have:=owns_cells hrow j u hu
  rwa [Nat.zero_add] at this
theorem keyVP {q:List ByteArray}(hq:Good q):keyOf Tryz.prog 104 (.agg (pathA q))=some (keyP Tryz.prog q):=keyOf_path hq.val
theorem ents_not (t:Nat)(s0 s1 s2 s3 s4 nm:ByteArray)(k id:Int)(w:World)(hk:k≠2):
  Calls Tryz.prog 118 #[.pointer (some ⟨t,0,none⟩),.agg #[.string s0,.string s1,.string s2,.string s3,.string s4],.agg #[.string nm,.int .i64 k,.int .i64 id]] w fun e w'=>e=.returned (.tuple #[.slice none 0 0,.int .i64 5])/\Below w.heap.size w w':=by
 have hk':(k == 2)=false:=by simpa using hk
 go_enter Tryz.func118,Tryz.ntmps118
 go_wp2
 go_ret2
 exact⟨rfl,((Below.refl _ _).alloc (Nat.le_refl _) _).alloc (by simp) _⟩
theorem ents_own (t m:Nat)(s0 s1 s2 s3 s4 nm:ByteArray)(v:Value)(w:World)(ht:t<w.heap.size)(c8:w.cell? ⟨t,8,none⟩=some (.map (some m)))
  (hlk:∀ W,Below w.heap.size w W->(Instr.lookup 128 (.map (some m)) (.agg #[.string s0,.string s1,.string s2,.string s3,.string s4]) false).run Tryz.prog W=.ok v W):
  Calls Tryz.prog 118 #[.pointer (some ⟨t,0,none⟩),.agg #[.string s0,.string s1,.string s2,.string s3,.string s4],.agg #[.string nm,.int .i64 2,.int .i64 0]] w fun e w'=>e=.returned (.tuple #[v,.int .i64 0])/\Below w.heap.size w w':=by
 have hl:=hlk _ (below_drew (((Below.refl w.heap.size w).alloc (Nat.le_refl _) (.cells #[.string s0,.string s1,.string s2,.string s3,.string s4] 104)).alloc (by simp) (.cells #[.string nm,.int .i64 2,.int .i64 0] 76)))
 clear hlk
 go_enter Tryz.func118,Tryz.ntmps118
 go_wp2
 go_region
 all_goals
  go_wp2
  go_ret2
  exact⟨rfl,below_drew (((Below.refl _ _).alloc (Nat.le_refl _) _).alloc (by simp) _)⟩
theorem ents_get (t d:Nat)(s0 s1 s2 s3 s4 nm:ByteArray)(id:Int)(R:Value->Int->World->World->Prop)(w:World)(ht:t<w.heap.size)(c2:w.cell? ⟨t,2,none⟩=some (.pointer (some ⟨d,0,none⟩)))(hid:id≠0)
  (hget:∀ W,Below w.heap.size w W->Calls Tryz.prog 150 #[.pointer (some ⟨d,0,none⟩),.int .i64 id] W fun e w'=>∃ v er,e=.returned (.tuple #[v,.int .i64 er])/\R v er W w'):
  Calls Tryz.prog 118 #[.pointer (some ⟨t,0,none⟩),.agg #[.string s0,.string s1,.string s2,.string s3,.string s4],.agg #[.string nm,.int .i64 2,.int .i64 id]] w fun e w'=>∃ v er W,Below w.heap.size w W/\e=.returned (.tuple #[v,.int .i64 er])/\R v er W w':=by
 have hW:=below_drew (((Below.refl w.heap.size w).alloc (Nat.le_refl _) (.cells #[.string s0,.string s1,.string s2,.string s3,.string s4] 104)).alloc (by simp) (.cells #[.string nm,.int .i64 2,.int .i64 id] 76))
 have hg:=hget _ hW
 have HW:Hid _:=hW
 have hid':(id == 0)=false:=by simpa using hid
 clear hget hW
 go_enter Tryz.func118,Tryz.ntmps118
 go_wp2
 go_region_with (go_at_call 150;refine hg.mono ?_;rintro e w1 ⟨v,er,rfl,hR⟩;have HR:Hid _:=hR;clear hR)
 all_goals
  go_wp2
  go_ret2
  exact⟨v,er,_,HW.out,rfl,HR.out⟩
end Go.Proofs.YtajopoddmfdejaaGreat
