/-
  What is proved here: lists by rising names: where a name stands among them or would; what is found behind an entry was put in, written over, or taken away. texts as lists of bytes, split at '/' and joined ..
-/
import Derived.Test.YtajopoddmfdejaaGreatToldM04
import Derived.Lib.SliceRun
namespace Go.Proofs.YtajopoddmfdejaaGreat
open Go.RowKit Go.Sort Go.Shelf
set_option linter.unusedVariables false
set_option maxRecDepth 100000
set_option maxHeartbeats 16000000
section
variable {α β:Type}
def cmpN (a b:ByteArray):Int:=Lib.compareBytes a.data.toList b.data.toList
theorem cmpN_self (a:ByteArray):cmpN a a=0:=cmp_self _
theorem cmpN_zero {a b:ByteArray}(h:cmpN a b=0):a=b:=bytes_inj (cmp_eq_zero _ _ h)
theorem cmpN_swap (a b:ByteArray):cmpN b a = - cmpN a b:=cmp_swap _ _
theorem cmpN_trans {a b c:ByteArray}(h:cmpN a b<0)(k:cmpN b c<0):cmpN a c<0:=cmp_trans _ _ _ h k
def RisingK (es:List (ByteArray×α)):Prop:=es.Pairwise fun x y=>cmpN x.1 y.1<0
def idxK (es:List (ByteArray×α))(n:ByteArray):Nat:=es.countP fun x=>decide (cmpN x.1 n<0)
def thereK (es:List (ByteArray×α))(n:ByteArray):Bool:=((es[idxK es n]?).map fun x=>decide (x.1=n)).getD false
def getK (es:List (ByteArray×α))(n:ByteArray):Option α:=(es.find? fun x=>decide (x.1=n)).map (·.2)
theorem idxK_le (es:List (ByteArray×α))(n:ByteArray):idxK es n<=es.length:=List.countP_le_length
theorem idxK_cons_lt {x:ByteArray×α}{r:List (ByteArray×α)}{n:ByteArray}(h:cmpN x.1 n<0):idxK (x :: r) n=idxK r n+1:=by unfold idxK;rw[List.countP_cons_of_pos (by simpa using h)]
theorem idxK_cons_ge {x:ByteArray×α}{r:List (ByteArray×α)}{n:ByteArray}(hr:RisingK (x :: r))(h:¬ cmpN x.1 n<0):idxK (x :: r) n=0:=by
 unfold idxK
 rw[List.countP_eq_zero]
 intro y hy
 rcases List.mem_cons.1 hy with rfl | hy
 ·simpa using h
 ·have h1:=(List.pairwise_cons.1 hr).1 y hy
  simp only[decide_eq_true_eq]
  exact fun h2=>h (cmpN_trans h1 h2)
theorem RisingK.tail {x:ByteArray×α}{r:List (ByteArray×α)}(h:RisingK (x :: r)):RisingK r:=(List.pairwise_cons.1 h).2
theorem getK_cons_pos {x:ByteArray×α}{r:List (ByteArray×α)}{n:ByteArray}(h:x.1=n):getK (x :: r) n=some x.2:=by unfold getK;rw[List.find?_cons_of_pos (by simpa using h)];rfl
theorem getK_cons_neg {x:ByteArray×α}{r:List (ByteArray×α)}{n:ByteArray}(h:x.1≠n):getK (x :: r) n=getK r n:=by unfold getK;rw[List.find?_cons_of_neg (by simpa using h)]
theorem getK_none_of {es:List (ByteArray×α)}{n:ByteArray}(h:∀ x ∈ es,x.1≠n):getK es n=none:=by
 unfold getK
 rw[List.find?_eq_none.2 (by intro x hx;simpa using h x hx)];rfl
theorem getK_there:∀ {es:List (ByteArray×α)} {n:ByteArray},RisingK es->getK es n=if thereK es n then (es[idxK es n]?).map (·.2) else none
 | [],n,_=>by simp[getK,thereK,idxK]
 | x :: r,n,h=>by
  by_cases hx:cmpN x.1 n<0
  ·have hne:x.1≠n:=fun e=>by rw[e,cmpN_self] at hx;omega
   have ih:=getK_there (n:=n) h.tail
   rw[getK_cons_neg hne,ih]
   unfold thereK
   rw[idxK_cons_lt hx]
   simp
  ·unfold thereK
   rw[idxK_cons_ge h hx]
   simp only[List.getElem?_cons_zero,Option.map_some,Option.getD_some]
   by_cases hn:x.1=n
   ·rw[getK_cons_pos hn];simp[hn]
   ·rw[getK_cons_neg hn,getK_none_of]
    ·simp[hn]
    ·intro y hy e
     have h1:=(List.pairwise_cons.1 h).1 y hy
     rw[e] at h1
     exact hx h1
def putK (es:List (ByteArray×α))(n:ByteArray)(c:α):List (ByteArray×α):=if thereK es n then es.set (idxK es n) (n,c) else es.take (idxK es n)++(n,c) :: es.drop (idxK es n)
def dropK (es:List (ByteArray×α))(n:ByteArray):List (ByteArray×α):=es.eraseIdx (idxK es n)
theorem thereK_cons_lt {x:ByteArray×α}{r:List (ByteArray×α)}{n:ByteArray}(h:cmpN x.1 n<0):thereK (x :: r) n=thereK r n:=by unfold thereK;rw[idxK_cons_lt h];rfl
theorem putK_cons_lt {x:ByteArray×α}{r:List (ByteArray×α)}{n:ByteArray}{c:α}(h:cmpN x.1 n<0):putK (x :: r) n c=x :: putK r n c:=by
 unfold putK
 rw[thereK_cons_lt h,idxK_cons_lt h]
 split <;> simp
theorem dropK_cons_lt {x:ByteArray×α}{r:List (ByteArray×α)}{n:ByteArray}(h:cmpN x.1 n<0):dropK (x :: r) n=x :: dropK r n:=by unfold dropK;rw[idxK_cons_lt h];rfl
theorem thereK_cons_ge {x:ByteArray×α}{r:List (ByteArray×α)}{n:ByteArray}(hr:RisingK (x :: r))(h:¬ cmpN x.1 n<0):thereK (x :: r) n=decide (x.1=n):=by unfold thereK;rw[idxK_cons_ge hr h];rfl
theorem putK_cons_ge {x:ByteArray×α}{r:List (ByteArray×α)}{n:ByteArray}{c:α}(hr:RisingK (x :: r))(h:¬ cmpN x.1 n<0):putK (x :: r) n c=if x.1=n then (n,c) :: r else (n,c) :: x :: r:=by
 unfold putK
 rw[thereK_cons_ge hr h,idxK_cons_ge hr h]
 by_cases e:x.1=n <;> simp[e]
theorem dropK_cons_ge {x:ByteArray×α}{r:List (ByteArray×α)}{n:ByteArray}(hr:RisingK (x :: r))(h:¬ cmpN x.1 n<0):dropK (x :: r) n=r:=by unfold dropK;rw[idxK_cons_ge hr h];rfl
theorem getK_put:∀ {es:List (ByteArray×α)} {n:ByteArray} {c:α},RisingK es->∀ m,getK (putK es n c) m=if m=n then some c else getK es m
 | [],n,c,_,m=>by
  by_cases e:m=n
  ·subst e;simp[putK,thereK,idxK,getK]
  ·have:¬ n=m:=fun h=>e h.symm
   simp[putK,thereK,idxK,getK,e,this]
 | x :: r,n,c,h,m=>by
  by_cases hx:cmpN x.1 n<0
  ·have hne:x.1≠n:=fun e=>by rw[e,cmpN_self] at hx;omega
   rw[putK_cons_lt hx]
   by_cases hm:x.1=m
   ·rw[getK_cons_pos hm,getK_cons_pos hm,if_neg (fun e=>hne (hm.trans e))]
   ·rw[getK_cons_neg hm,getK_cons_neg hm];exact getK_put h.tail m
  ·rw[putK_cons_ge h hx]
   by_cases hn:x.1=n
   ·rw[if_pos hn]
    by_cases hm:m=n
    ·rw[if_pos hm,getK_cons_pos hm.symm]
    ·rw[if_neg hm,getK_cons_neg (fun e=>hm e.symm),getK_cons_neg (fun e=>hm (e.symm.trans hn))]
   ·rw[if_neg hn]
    by_cases hm:m=n
    ·rw[if_pos hm,getK_cons_pos hm.symm]
    ·rw[if_neg hm,getK_cons_neg (fun e=>hm e.symm)]
theorem getK_drop:∀ {es:List (ByteArray×α)} {n:ByteArray},RisingK es->thereK es n=true->∀ m,getK (dropK es n) m=if m=n then none else getK es m
 | [],n,_,ht,m=>by simp[thereK,idxK] at ht
 | x :: r,n,h,ht,m=>by
  by_cases hx:cmpN x.1 n<0
  ·have hne:x.1≠n:=fun e=>by rw[e,cmpN_self] at hx;omega
   rw[thereK_cons_lt hx] at ht
   rw[dropK_cons_lt hx]
   by_cases hm:x.1=m
   ·rw[getK_cons_pos hm,getK_cons_pos hm,if_neg (fun e=>hne (hm.trans e))]
   ·rw[getK_cons_neg hm,getK_cons_neg hm];exact getK_drop h.tail ht m
  ·rw[thereK_cons_ge h hx] at ht
   have hn:x.1=n:=by simpa using ht
   rw[dropK_cons_ge h hx]
   by_cases hm:m=n
   ·rw[if_pos hm]
    refine getK_none_of fun y hy e=>?_
    have h1:=(List.pairwise_cons.1 h).1 y hy
    rw[e,hm,hn,cmpN_self] at h1;omega
   ·rw[if_neg hm,getK_cons_neg (fun e=>hm (e.symm.trans hn))]
theorem putK_mem:∀ {es:List (ByteArray×α)} {n:ByteArray} {c:α} {y:ByteArray×α},RisingK es->y ∈ putK es n c->y=(n,c)\/y ∈ es:=by
 intro es n c y h hy
 unfold putK at hy
 split at hy
 ·exact (List.mem_or_eq_of_mem_set hy).symm
 ·rw[List.mem_append,List.mem_cons] at hy
  rcases hy with h1 | h1 | h1
  ·exact .inr (List.mem_of_mem_take h1)
  ·exact .inl h1
  ·exact .inr (List.mem_of_mem_drop h1)
theorem putK_rising:∀ {es:List (ByteArray×α)} {n:ByteArray} {c:α},RisingK es->RisingK (putK es n c)
 | [],n,c,_=>by simp[putK,thereK,idxK,RisingK]
 | x :: r,n,c,h=>by
  by_cases hx:cmpN x.1 n<0
  ·rw[putK_cons_lt hx]
   refine List.pairwise_cons.2 ⟨fun y hy=>?_,putK_rising h.tail⟩
   rcases putK_mem h.tail hy with rfl | hy
   ·exact hx
   ·exact (List.pairwise_cons.1 h).1 y hy
  ·rw[putK_cons_ge h hx]
   by_cases hn:x.1=n
   ·rw[if_pos hn]
    exact List.pairwise_cons.2 ⟨fun y hy=>by have:=(List.pairwise_cons.1 h).1 y hy;rw[hn] at this;exact this,h.tail⟩
   ·rw[if_neg hn]
    have hgt:cmpN n x.1<0:=by
     have h1:=cmpN_swap x.1 n
     have h2:cmpN x.1 n≠0:=fun e=>hn (cmpN_zero e)
     omega
    refine List.pairwise_cons.2 ⟨fun y hy=>?_,h⟩
    rcases List.mem_cons.1 hy with rfl | hy
    ·exact hgt
    ·exact cmpN_trans hgt ((List.pairwise_cons.1 h).1 y hy)
theorem putK_length (es:List (ByteArray×α))(n:ByteArray)(c:α):(putK es n c).length=if thereK es n then es.length else es.length+1:=by
 unfold putK
 have:=idxK_le es n
 split <;> simp;omega
theorem thereK_lt {es:List (ByteArray×α)}{n:ByteArray}(h:thereK es n=true):idxK es n<es.length:=by
 unfold thereK at h
 by_cases hi:idxK es n<es.length
 ·exact hi
 ·rw[List.getElem?_eq_none (by omega)] at h;simp at h
theorem dropK_length {es:List (ByteArray×α)}{n:ByteArray}(h:thereK es n=true):(dropK es n).length=es.length-1:=by
 unfold dropK
 rw[List.length_eraseIdx_of_lt (thereK_lt h)]
def mapK (f:ByteArray×α->β)(es:List (ByteArray×α)):List (ByteArray×β):=es.map fun x=>(x.1,f x)
theorem mapK_idx (f:ByteArray×α->β)(es:List (ByteArray×α))(n:ByteArray):idxK (mapK f es) n=idxK es n:=by
 unfold idxK mapK
 rw[List.countP_map];rfl
theorem mapK_there (f:ByteArray×α->β)(es:List (ByteArray×α))(n:ByteArray):thereK (mapK f es) n=thereK es n:=by
 unfold thereK
 rw[mapK_idx]
 unfold mapK
 rw[List.getElem?_map]
 cases es[idxK es n]? <;> rfl
theorem mapK_rising (f:ByteArray×α->β){es:List (ByteArray×α)}(h:RisingK es):RisingK (mapK f es):=by
 unfold RisingK mapK
 rw[List.pairwise_map];exact h
theorem mapK_drop (f:ByteArray×α->β)(es:List (ByteArray×α))(n:ByteArray):mapK f (dropK es n)=dropK (mapK f es) n:=by
 unfold dropK
 rw[mapK_idx]
 unfold mapK
 simp[List.eraseIdx_eq_take_drop_succ,List.map_take,List.map_drop]
end
theorem pickK_getK (es:Kids)(n:ByteArray):pickK es n=getK es n:=rfl
def toL (s:ByteArray):List UInt8:=s.data.toList
theorem toL_inj {a b:ByteArray}(h:toL a=toL b):a=b:=bytes_inj h
theorem toL_len (s:ByteArray):(toL s).length=s.size:=Array.length_toList
theorem toL_eq (s:ByteArray):s.toList=toL s:=by simp only[ByteArray.toList_eq];rfl
def joinL:List (List UInt8)->List UInt8
 | []=>[]
 | [x]=>x
 | x :: y :: r=>x++47 :: joinL (y :: r)
def splitL:List UInt8->List (List UInt8)
 | []=>[[]]
 | c :: r=>if c=47 then [] :: splitL r else ((c :: (splitL r).headD []) :: (splitL r).tail)
theorem split_append:∀ (a b:List UInt8),(∀ c ∈ a,c≠47)->splitL (a++47 :: b)=a :: splitL b
 | [],b,_=>by simp[splitL]
 | c :: r,b,h=>by
  have hc:c≠47:=h c (List.mem_cons_self ..)
  have ih:=split_append r b (fun d hd=>h d (List.mem_cons_of_mem _ hd))
  simp only[List.cons_append,splitL]
  rw[if_neg hc,ih];rfl
theorem split_plain:∀ (a:List UInt8),(∀ c ∈ a,c≠47)->splitL a = [a]
 | [],_=>rfl
 | c :: r,h=>by
  have hc:c≠47:=h c (List.mem_cons_self ..)
  have ih:=split_plain r (fun d hd=>h d (List.mem_cons_of_mem _ hd))
  simp only[splitL]
  rw[if_neg hc,ih];rfl
theorem split_joinL:∀ (l:List (List UInt8)),l ≠ []->(∀ x ∈ l,∀ c ∈ x,c≠47)->splitL (joinL l)=l
 | [],h,_=>absurd rfl h
 | [x],_,h=>by simp only[joinL];exact split_plain x (h x (List.mem_cons_self ..))
 | x :: y :: r,_,h=>by
  simp only[joinL]
  rw[split_append x _ (h x (List.mem_cons_self ..)),split_joinL (y :: r) (by simp) (fun z hz=>h z (List.mem_cons_of_mem _ hz))]
theorem joinL_cons (x:List UInt8){r:List (List UInt8)}(h:r ≠ []):joinL (x :: r)=x++47 :: joinL r:=by
 cases r with
 | nil=>exact absurd rfl h
 | cons y t=>rfl
theorem joinL_snoc (x:List UInt8):∀ (l:List (List UInt8)),l ≠ []->joinL (l ++ [x])=joinL l++47 :: x
 | [],h=>absurd rfl h
 | [y],_=>rfl
 | y :: z :: r,_=>by
  have ih:=joinL_snoc x (z :: r) (by simp)
  show y++47 :: joinL (z :: r ++ [x])=(y++47 :: joinL (z :: r))++47 :: x
  rw[ih];simp
theorem toL_append (a b:ByteArray):toL (a++b)=toL a++toL b:=by
 unfold toL
 simp
def Valids (l:List ByteArray):Prop:=∀ x ∈ l,validB x=true
theorem Valids.append {a b:List ByteArray}(ha:Valids a)(hb:Valids b):Valids (a++b):=fun x hx=>(List.mem_append.1 hx).elim (ha x) (hb x)
def pathA (l:List ByteArray):Array Value:=#[.string (l.getD 0 ⟨#[]⟩),.string (l.getD 1 ⟨#[]⟩),.string (l.getD 2 ⟨#[]⟩),.string (l.getD 3 ⟨#[]⟩),.string (l.getD 4 ⟨#[]⟩)]
def pathV (l:List ByteArray):Value:=.agg (pathA l)
structure Good (l:List ByteArray):Prop where
 val:Valids l
 len:l.length<=5
theorem Good.nil:Good []:=⟨fun x hx=>by simp at hx,by simp⟩
theorem Good.take {l:List ByteArray}(h:Good l)(k:Nat):Good (l.take k):=⟨fun x hx=>h.val x (List.mem_of_mem_take hx),by have:=h.len;rw[List.length_take];omega⟩
theorem Good.dropLast {l:List ByteArray}(h:Good l):Good l.dropLast:=by rw[List.dropLast_eq_take];exact h.take _
theorem rowP:104<Tryz.prog.types.size:=of_decide_eq_true (by kernel_rfl)
theorem keyAtP:Tryz.prog.keyTypeAt 9 104=true:=by kernel_rfl
theorem lawP:Maps.Keyed Tryz.prog 104:=Maps.Keyed.of_law (deep_law_laid laidOut (m:=9) (by omega) rowP keyAtP (by rw[Tryz.underlying104]))
theorem cellsP:Tryz.prog.cellsOf 104=5:=by kernel_rfl
theorem keyTP:Tryz.prog.keyType 104=true:=by kernel_rfl
theorem getD_size {l:List ByteArray}(h:Valids l)(i:Nat):(l.getD i ⟨#[]⟩).size<=maxLen:=by
 rw[List.getD_eq_getElem?_getD]
 by_cases hi:i<l.length
 ·rw[List.getElem?_eq_getElem hi]
  have:=(valid_size (h _ (List.getElem_mem hi))).2
  show (l[i]).size<=maxLen
  unfold maxLen;omega
 ·rw[List.getElem?_eq_none (by omega)];decide
theorem litsP (d:Nat)(l:List ByteArray)(h:Valids l):∃ ls,Tryz.prog.keyLits (d+2) 104 (pathA l).toList=some ls:=by
 have a:∀ i,Tryz.prog.keyLits (d+1) 9 [.string (l.getD i ⟨#[]⟩)]=some [.string (l.getD i ⟨#[]⟩).data.toList]:=fun i=>by
  have:=getD_size h i
  generalize l.getD i ⟨#[]⟩=x at this
  unfold Program.keyLits;simp[Tryz.underlying9,this]
 obtain⟨ys,hys⟩:=mapM_some (fun i=>Tryz.prog.keyLits (d+1) 9 (((pathA l).toList.drop (i*1)).take 1)) (List.range 5) (by
  intro i hi
  rw[List.mem_range] at hi
  have key:((pathA l).toList.drop (i*1)).take 1 = [.string (l.getD i ⟨#[]⟩)]:=by
   rcases (show i=0\/i=1\/i=2\/i=3\/i=4 by omega) with rfl | rfl | rfl | rfl | rfl <;> rfl
  rw[key]
  exact⟨_,a i⟩)
 refine⟨ys.flatten,?_⟩
 have hl:(pathA l).toList.length=5:=rfl
 unfold Program.keyLits
 simp only[Tryz.underlying104,cellsP,hl,if_true,cells9,hys,Option.map_some]
def keyP (P:Program)(l:List ByteArray):Lit:=(keyOf P 104 (pathV l)).getD .nil
theorem keyOf_path {l:List ByteArray}(h:Valids l):keyOf Tryz.prog 104 (pathV l)=some (keyP Tryz.prog l):=by
 have hx:∃ k,keyOf Tryz.prog 104 (pathV l)=some k:=by
  have hfo:Value.formed Tryz.prog 104 (.agg (pathA l))=true:=by
   unfold Value.formed
   rw[Tryz.underlying104]
   simp[cellsP,pathA]
  obtain⟨n,hn⟩:∃ n,Tryz.prog.types.size+1=n+2:=⟨Tryz.prog.types.size-1,by have:=rowP;omega⟩
  obtain⟨ls,hls⟩:=litsP n l h
  unfold keyOf pathV
  rw[Tryz.underlying104]
  simp only[keyTP,hfo,Bool.and_self,if_true,Value.cells,hn,hls,Option.map_some]
  exact⟨_,rfl⟩
 obtain⟨k,hk⟩:=hx
 unfold keyP
 rw[hk];rfl
theorem valid_pos {x:ByteArray}(h:validB x=true):x≠⟨#[]⟩:=fun e=>by
 have:=(valid_size h).1
 rw[e] at this
 exact absurd this (by decide)
theorem pathA_inj {p q:List ByteArray}(hp:Good p)(hq:Good q)(h:pathA p=pathA q):p=q:=by
 have key:∀ i,i<5->p.getD i ⟨#[]⟩=q.getD i ⟨#[]⟩:=by
  intro i hi
  unfold pathA at h
  simp only[Array.mk.injEq,List.cons.injEq,Value.string.injEq,and_true] at h
  rcases (show i=0\/i=1\/i=2\/i=3\/i=4 by omega) with rfl | rfl | rfl | rfl | rfl
  ·exact h.1
  ·exact h.2.1
  ·exact h.2.2.1
  ·exact h.2.2.2.1
  ·exact h.2.2.2.2
 have h5:=hp.len
 have k5:=hq.len
 apply List.ext_getElem?
 intro i
 by_cases hi:i<5
 ·have k:=key i hi
  rw[List.getD_eq_getElem?_getD,List.getD_eq_getElem?_getD] at k
  cases ha:p[i]? with
  | none=>
   cases hb:q[i]? with
   | none=>rfl
   | some y=>rw[ha,hb] at k;exact absurd k.symm (valid_pos (hq.val y (List.mem_of_getElem? hb)))
  | some x=>
   cases hb:q[i]? with
   | none=>rw[ha,hb] at k;exact absurd k (valid_pos (hp.val x (List.mem_of_getElem? ha)))
   | some y=>rw[ha,hb] at k;exact congrArg some k
 ·rw[List.getElem?_eq_none (by omega),List.getElem?_eq_none (by omega)]
theorem keyP_inj {p q:List ByteArray}(hp:Good p)(hq:Good q)(h:keyP Tryz.prog p=keyP Tryz.prog q):p=q:=by
 have a:=keyOf_path hp.val
 have b:=keyOf_path hq.val
 rw[<- h] at b
 have:=lawP.inj a b
 exact pathA_inj hp hq (Value.agg.inj this)
theorem keyP_is {p:List ByteArray}(hp:Good p):WideAt.IsKeyLit (keyP Tryz.prog p):=lawP.key (keyOf_path hp.val)
theorem run_eqP {p q:List ByteArray}(hp:Good p)(hq:Good q)(w:World):(Op.equal 104 (pathV p) (pathV q)).run Tryz.prog w=.ok (decide (p=q)) w:=by
 obtain⟨r,hr,hiff⟩:=run_equal_deep w (m:=9) (by omega) keyAtP (by rw[Tryz.underlying104]) (keyOf_path hp.val) (keyOf_path hq.val)
 rw[hr]
 have:r=decide (p=q):=by
  by_cases e:p=q
  ·subst e;rw[decide_eq_true rfl];exact hiff.2 rfl
  ·rw[decide_eq_false e]
   cases hr':r with
   | false=>rfl
   | true=>exact absurd (keyP_inj hp hq (hiff.1 hr')) e
 rw[this]
theorem valid_ne {x:ByteArray}(h:validB x=true):(x.toList == [])=false:=beq_eq_false_iff_ne.2 fun e=>by
 have h1:=(valid_size h).1
 rw[toL_eq] at e
 have h2:=congrArg List.length e
 rw[toL_len,List.length_nil] at h2
 omega
theorem root_any (w:World):Calls Tryz.prog 66 #[] w fun e w'=>e=.returned (pathV [])/\Below w.heap.size w w':=by
 go_enter Tryz.func66,Tryz.ntmps66
 go_wp2
 exact bodyPost_ret (v:=pathV []) (by simp[results,Tryz.results66,go_sem,pathV,pathA]) rfl ⟨rfl,by repeat (first | exact Below.refl _ _ | (refine Below.alloc ?_ (by simp) _) | (refine Below.setCell ?_ (by simp) _))⟩
theorem pix0 (c0 c1 c2 c3 c4:Value)(w:World):(Instr.index 104 (.agg #[c0,c1,c2,c3,c4]) (.int .i64 0)).run Tryz.prog w=.ok c0 w:=by kernel_rfl
theorem pix1 (c0 c1 c2 c3 c4:Value)(w:World):(Instr.index 104 (.agg #[c0,c1,c2,c3,c4]) (.int .i64 1)).run Tryz.prog w=.ok c1 w:=by kernel_rfl
theorem pix2 (c0 c1 c2 c3 c4:Value)(w:World):(Instr.index 104 (.agg #[c0,c1,c2,c3,c4]) (.int .i64 2)).run Tryz.prog w=.ok c2 w:=by kernel_rfl
theorem pix3 (c0 c1 c2 c3 c4:Value)(w:World):(Instr.index 104 (.agg #[c0,c1,c2,c3,c4]) (.int .i64 3)).run Tryz.prog w=.ok c3 w:=by kernel_rfl
theorem pix4 (c0 c1 c2 c3 c4:Value)(w:World):(Instr.index 104 (.agg #[c0,c1,c2,c3,c4]) (.int .i64 4)).run Tryz.prog w=.ok c4 w:=by kernel_rfl
theorem depth_0  (w:World):Calls Tryz.prog 83 #[.agg #[.string ⟨#[]⟩,.string ⟨#[]⟩,.string ⟨#[]⟩,.string ⟨#[]⟩,.string ⟨#[]⟩]] w fun e w'=>e=.returned (.int .i64 0)/\Below w.heap.size w w':=by
 have x0:=pix0
 have x1:=pix1
 have x2:=pix2
 have x3:=pix3
 have x4:=pix4
 go_enter Tryz.func83,Tryz.ntmps83
 go_wp2
 refine wp_loop_rounds 7 ?_
 rw[rounds_succ]
 go_wp2
 go_ret
 exact⟨rfl,(Below.refl _ _).alloc (Nat.le_refl _) _⟩
theorem depth_1 (s0:ByteArray)(h0:validB s0=true)(w:World):Calls Tryz.prog 83 #[.agg #[.string s0,.string ⟨#[]⟩,.string ⟨#[]⟩,.string ⟨#[]⟩,.string ⟨#[]⟩]] w fun e w'=>e=.returned (.int .i64 1)/\Below w.heap.size w w':=by
 have e0:=valid_ne h0
 have x0:=pix0
 have x1:=pix1
 have x2:=pix2
 have x3:=pix3
 have x4:=pix4
 clear h0
 go_enter Tryz.func83,Tryz.ntmps83
 go_wp2
 refine wp_loop_rounds 7 ?_
 rw[rounds_succ]
 go_wp2
 rw[rounds_succ]
 go_wp2
 go_ret
 exact⟨rfl,(Below.refl _ _).alloc (Nat.le_refl _) _⟩
theorem depth_2 (s0 s1:ByteArray)(h0:validB s0=true)(h1:validB s1=true)(w:World):Calls Tryz.prog 83 #[.agg #[.string s0,.string s1,.string ⟨#[]⟩,.string ⟨#[]⟩,.string ⟨#[]⟩]] w fun e w'=>e=.returned (.int .i64 2)/\Below w.heap.size w w':=by
 have e0:=valid_ne h0
 have e1:=valid_ne h1
 have x0:=pix0
 have x1:=pix1
 have x2:=pix2
 have x3:=pix3
 have x4:=pix4
 clear h0 h1
 go_enter Tryz.func83,Tryz.ntmps83
 go_wp2
 refine wp_loop_rounds 7 ?_
 rw[rounds_succ]
 go_wp2
 rw[rounds_succ]
 go_wp2
 rw[rounds_succ]
 go_wp2
 go_ret
 exact⟨rfl,(Below.refl _ _).alloc (Nat.le_refl _) _⟩
theorem depth_3 (s0 s1 s2:ByteArray)(h0:validB s0=true)(h1:validB s1=true)(h2:validB s2=true)(w:World):Calls Tryz.prog 83 #[.agg #[.string s0,.string s1,.string s2,.string ⟨#[]⟩,.string ⟨#[]⟩]] w fun e w'=>e=.returned (.int .i64 3)/\Below w.heap.size w w':=by
 have e0:=valid_ne h0
 have e1:=valid_ne h1
 have e2:=valid_ne h2
 have x0:=pix0
 have x1:=pix1
 have x2:=pix2
 have x3:=pix3
 have x4:=pix4
 clear h0 h1 h2
 go_enter Tryz.func83,Tryz.ntmps83
 go_wp2
 refine wp_loop_rounds 7 ?_
 rw[rounds_succ]
 go_wp2
 rw[rounds_succ]
 go_wp2
 rw[rounds_succ]
 go_wp2
 rw[rounds_succ]
 go_wp2
 go_ret
 exact⟨rfl,(Below.refl _ _).alloc (Nat.le_refl _) _⟩
theorem depth_4 (s0 s1 s2 s3:ByteArray)(h0:validB s0=true)(h1:validB s1=true)(h2:validB s2=true)(h3:validB s3=true)(w:World):Calls Tryz.prog 83 #[.agg #[.string s0,.string s1,.string s2,.string s3,.string ⟨#[]⟩]] w fun e w'=>e=.returned (.int .i64 4)/\Below w.heap.size w w':=by
 have e0:=valid_ne h0
 have e1:=valid_ne h1
 have e2:=valid_ne h2
 have e3:=valid_ne h3
 have x0:=pix0
 have x1:=pix1
 have x2:=pix2
 have x3:=pix3
 have x4:=pix4
 clear h0 h1 h2 h3
 go_enter Tryz.func83,Tryz.ntmps83
 go_wp2
 refine wp_loop_rounds 7 ?_
 rw[rounds_succ]
 go_wp2
 rw[rounds_succ]
 go_wp2
 rw[rounds_succ]
 go_wp2
 rw[rounds_succ]
 go_wp2
 rw[rounds_succ]
 go_wp2
 go_ret
 exact⟨rfl,(Below.refl _ _).alloc (Nat.le_refl _) _⟩
theorem depth_5 (s0 s1 s2 s3 s4:ByteArray)(h0:validB s0=true)(h1:validB s1=true)(h2:validB s2=true)(h3:validB s3=true)(h4:validB s4=true)(w:World):Calls Tryz.prog 83 #[.agg #[.string s0,.string s1,.string s2,.string s3,.string s4]] w fun e w'=>e=.returned (.int .i64 5)/\Below w.heap.size w w':=by
 have e0:=valid_ne h0
 have e1:=valid_ne h1
 have e2:=valid_ne h2
 have e3:=valid_ne h3
 have e4:=valid_ne h4
 have x0:=pix0
 have x1:=pix1
 have x2:=pix2
 have x3:=pix3
 have x4:=pix4
 clear h0 h1 h2 h3 h4
 go_enter Tryz.func83,Tryz.ntmps83
 go_wp2
 refine wp_loop_rounds 7 ?_
 rw[rounds_succ]
 go_wp2
 rw[rounds_succ]
 go_wp2
 rw[rounds_succ]
 go_wp2
 rw[rounds_succ]
 go_wp2
 rw[rounds_succ]
 go_wp2
 rw[rounds_succ]
 go_wp2
 go_ret
 exact⟨rfl,(Below.refl _ _).alloc (Nat.le_refl _) _⟩
theorem depth_any (l:List ByteArray)(hv:Valids l)(h5:l.length<=5)(w:World):Calls Tryz.prog 83 #[pathV l] w fun e w'=>e=.returned (.int .i64 (l.length:Int))/\Below w.heap.size w w':=by
 match l,hv,h5 with
 | [],hv,_=>exact depth_0  w
 | [s0],hv,_=>exact depth_1 s0 (hv s0 (by simp)) w
 | [s0,s1],hv,_=>exact depth_2 s0 s1 (hv s0 (by simp)) (hv s1 (by simp)) w
 | [s0,s1,s2],hv,_=>exact depth_3 s0 s1 s2 (hv s0 (by simp)) (hv s1 (by simp)) (hv s2 (by simp)) w
 | [s0,s1,s2,s3],hv,_=>exact depth_4 s0 s1 s2 s3 (hv s0 (by simp)) (hv s1 (by simp)) (hv s2 (by simp)) (hv s3 (by simp)) w
 | [s0,s1,s2,s3,s4],hv,_=>exact depth_5 s0 s1 s2 s3 s4 (hv s0 (by simp)) (hv s1 (by simp)) (hv s2 (by simp)) (hv s3 (by simp)) (hv s4 (by simp)) w
 | _ :: _ :: _ :: _ :: _ :: _ :: _,_,h5=>exact absurd h5 (by simp)
theorem zeroStr (w:World):(zeroValue 9).run Tryz.prog w=.ok (.string ⟨#[]⟩) w:=by kernel_rfl
theorem head_neg (s0 s1 s2 s3 s4:ByteArray)(w:World):Calls Tryz.prog 119 #[.agg #[.string s0,.string s1,.string s2,.string s3,.string s4],.int .i64 (-1)] w fun e w'=>e=.returned (.agg #[.string ⟨#[]⟩,.string ⟨#[]⟩,.string ⟨#[]⟩,.string ⟨#[]⟩,.string ⟨#[]⟩])/\Below w.heap.size w w':=by
 have hcl:∀ ty,(Builtin.clear_ #[69] ty #[.slice (some ⟨w.heap.size,0,none⟩) 5 5]).run Tryz.prog ((w.alloc (.cells #[.string s0,.string s1,.string s2,.string s3,.string s4] 104)).alloc (.cells #[.string ⟨#[]⟩,.string ⟨#[]⟩,.string ⟨#[]⟩,.string ⟨#[]⟩,.string ⟨#[]⟩] 104))=.ok (.tuple #[]) (((((((w.alloc (.cells #[.string s0,.string s1,.string s2,.string s3,.string s4] 104)).alloc (.cells #[.string ⟨#[]⟩,.string ⟨#[]⟩,.string ⟨#[]⟩,.string ⟨#[]⟩,.string ⟨#[]⟩] 104)).setCell ⟨w.heap.size,0,none⟩ (.string ⟨#[]⟩)).setCell ⟨w.heap.size,1,none⟩ (.string ⟨#[]⟩)).setCell ⟨w.heap.size,2,none⟩ (.string ⟨#[]⟩)).setCell ⟨w.heap.size,3,none⟩ (.string ⟨#[]⟩)).setCell ⟨w.heap.size,4,none⟩ (.string ⟨#[]⟩)):=
  fun ty=>Lib.run_clear_slice _ 69 9 ty (.string ⟨#[]⟩) Tryz.underlying69 zeroStr rfl rfl w.heap.size 0 5 5 (by omega)
   (fun j hj=>by rcases (show j=0\/j=1\/j=2\/j=3\/j=4 by omega) with rfl | rfl | rfl | rfl | rfl <;> first | omega | simp[World.cell?_alloc_past])
   (fun j hj=>by rcases (show j=0\/j=1\/j=2\/j=3\/j=4 by omega) with rfl | rfl | rfl | rfl | rfl <;> first | omega | simp[World.frozen?_alloc_past])
 have hmx:max (-1:Int) 0=0:=rfl
 have hsl:∀ (b:Nat) (W:World),(Instr.sliceAt 104 (.pointer (some ⟨b,0,none⟩)) (some (.int .i64 0)) none none).run Tryz.prog W=.ok (.slice (some ⟨b,0,none⟩) 5 5) W:=fun b W=>by kernel_rfl
 go_enter Tryz.func119,Tryz.ntmps119
 go_wp2_with (first | simp only[hmx] | simp only[hsl] | simp only[hcl])
 exact bodyPost_ret (v:=.agg #[.string ⟨#[]⟩,.string ⟨#[]⟩,.string ⟨#[]⟩,.string ⟨#[]⟩,.string ⟨#[]⟩]) (by simp[results,Tryz.results119,go_sem]) rfl ⟨rfl,by repeat (first | exact Below.refl _ _ | (refine Below.alloc ?_ (by simp) _) | (refine Below.setCell ?_ (by simp) _))⟩
theorem head_0 (s0 s1 s2 s3 s4:ByteArray)(w:World):Calls Tryz.prog 119 #[.agg #[.string s0,.string s1,.string s2,.string s3,.string s4],.int .i64 0] w fun e w'=>e=.returned (.agg #[.string ⟨#[]⟩,.string ⟨#[]⟩,.string ⟨#[]⟩,.string ⟨#[]⟩,.string ⟨#[]⟩])/\Below w.heap.size w w':=by
 have hcl:∀ ty,(Builtin.clear_ #[69] ty #[.slice (some ⟨w.heap.size,0,none⟩) 5 5]).run Tryz.prog ((w.alloc (.cells #[.string s0,.string s1,.string s2,.string s3,.string s4] 104)).alloc (.cells #[.string ⟨#[]⟩,.string ⟨#[]⟩,.string ⟨#[]⟩,.string ⟨#[]⟩,.string ⟨#[]⟩] 104))=.ok (.tuple #[]) (((((((w.alloc (.cells #[.string s0,.string s1,.string s2,.string s3,.string s4] 104)).alloc (.cells #[.string ⟨#[]⟩,.string ⟨#[]⟩,.string ⟨#[]⟩,.string ⟨#[]⟩,.string ⟨#[]⟩] 104)).setCell ⟨w.heap.size,0,none⟩ (.string ⟨#[]⟩)).setCell ⟨w.heap.size,1,none⟩ (.string ⟨#[]⟩)).setCell ⟨w.heap.size,2,none⟩ (.string ⟨#[]⟩)).setCell ⟨w.heap.size,3,none⟩ (.string ⟨#[]⟩)).setCell ⟨w.heap.size,4,none⟩ (.string ⟨#[]⟩)):=
  fun ty=>Lib.run_clear_slice _ 69 9 ty (.string ⟨#[]⟩) Tryz.underlying69 zeroStr rfl rfl w.heap.size 0 5 5 (by omega)
   (fun j hj=>by rcases (show j=0\/j=1\/j=2\/j=3\/j=4 by omega) with rfl | rfl | rfl | rfl | rfl <;> first | omega | simp[World.cell?_alloc_past])
   (fun j hj=>by rcases (show j=0\/j=1\/j=2\/j=3\/j=4 by omega) with rfl | rfl | rfl | rfl | rfl <;> first | omega | simp[World.frozen?_alloc_past])
 have hmx:max (0:Int) 0=0:=rfl
 have hsl:∀ (b:Nat) (W:World),(Instr.sliceAt 104 (.pointer (some ⟨b,0,none⟩)) (some (.int .i64 0)) none none).run Tryz.prog W=.ok (.slice (some ⟨b,0,none⟩) 5 5) W:=fun b W=>by kernel_rfl
 go_enter Tryz.func119,Tryz.ntmps119
 go_wp2_with (first | simp only[hmx] | simp only[hsl] | simp only[hcl])
 exact bodyPost_ret (v:=.agg #[.string ⟨#[]⟩,.string ⟨#[]⟩,.string ⟨#[]⟩,.string ⟨#[]⟩,.string ⟨#[]⟩]) (by simp[results,Tryz.results119,go_sem]) rfl ⟨rfl,by repeat (first | exact Below.refl _ _ | (refine Below.alloc ?_ (by simp) _) | (refine Below.setCell ?_ (by simp) _))⟩
theorem head_1 (s0 s1 s2 s3 s4:ByteArray)(w:World):Calls Tryz.prog 119 #[.agg #[.string s0,.string s1,.string s2,.string s3,.string s4],.int .i64 1] w fun e w'=>e=.returned (.agg #[.string s0,.string ⟨#[]⟩,.string ⟨#[]⟩,.string ⟨#[]⟩,.string ⟨#[]⟩])/\Below w.heap.size w w':=by
 have hcl:∀ ty,(Builtin.clear_ #[69] ty #[.slice (some ⟨w.heap.size,1,none⟩) 4 4]).run Tryz.prog ((w.alloc (.cells #[.string s0,.string s1,.string s2,.string s3,.string s4] 104)).alloc (.cells #[.string ⟨#[]⟩,.string ⟨#[]⟩,.string ⟨#[]⟩,.string ⟨#[]⟩,.string ⟨#[]⟩] 104))=.ok (.tuple #[]) ((((((w.alloc (.cells #[.string s0,.string s1,.string s2,.string s3,.string s4] 104)).alloc (.cells #[.string ⟨#[]⟩,.string ⟨#[]⟩,.string ⟨#[]⟩,.string ⟨#[]⟩,.string ⟨#[]⟩] 104)).setCell ⟨w.heap.size,1,none⟩ (.string ⟨#[]⟩)).setCell ⟨w.heap.size,2,none⟩ (.string ⟨#[]⟩)).setCell ⟨w.heap.size,3,none⟩ (.string ⟨#[]⟩)).setCell ⟨w.heap.size,4,none⟩ (.string ⟨#[]⟩)):=
  fun ty=>Lib.run_clear_slice _ 69 9 ty (.string ⟨#[]⟩) Tryz.underlying69 zeroStr rfl rfl w.heap.size 1 4 4 (by omega)
   (fun j hj=>by rcases (show j=0\/j=1\/j=2\/j=3\/j=4 by omega) with rfl | rfl | rfl | rfl | rfl <;> first | omega | simp[World.cell?_alloc_past])
   (fun j hj=>by rcases (show j=0\/j=1\/j=2\/j=3\/j=4 by omega) with rfl | rfl | rfl | rfl | rfl <;> first | omega | simp[World.frozen?_alloc_past])
 have hmx:max (1:Int) 0=1:=rfl
 have hsl:∀ (b:Nat) (W:World),(Instr.sliceAt 104 (.pointer (some ⟨b,0,none⟩)) (some (.int .i64 1)) none none).run Tryz.prog W=.ok (.slice (some ⟨b,1,none⟩) 4 4) W:=fun b W=>by kernel_rfl
 go_enter Tryz.func119,Tryz.ntmps119
 go_wp2_with (first | simp only[hmx] | simp only[hsl] | simp only[hcl])
 exact bodyPost_ret (v:=.agg #[.string s0,.string ⟨#[]⟩,.string ⟨#[]⟩,.string ⟨#[]⟩,.string ⟨#[]⟩]) (by simp[results,Tryz.results119,go_sem]) rfl ⟨rfl,by repeat (first | exact Below.refl _ _ | (refine Below.alloc ?_ (by simp) _) | (refine Below.setCell ?_ (by simp) _))⟩
theorem head_2 (s0 s1 s2 s3 s4:ByteArray)(w:World):Calls Tryz.prog 119 #[.agg #[.string s0,.string s1,.string s2,.string s3,.string s4],.int .i64 2] w fun e w'=>e=.returned (.agg #[.string s0,.string s1,.string ⟨#[]⟩,.string ⟨#[]⟩,.string ⟨#[]⟩])/\Below w.heap.size w w':=by
 have hcl:∀ ty,(Builtin.clear_ #[69] ty #[.slice (some ⟨w.heap.size,2,none⟩) 3 3]).run Tryz.prog ((w.alloc (.cells #[.string s0,.string s1,.string s2,.string s3,.string s4] 104)).alloc (.cells #[.string ⟨#[]⟩,.string ⟨#[]⟩,.string ⟨#[]⟩,.string ⟨#[]⟩,.string ⟨#[]⟩] 104))=.ok (.tuple #[]) (((((w.alloc (.cells #[.string s0,.string s1,.string s2,.string s3,.string s4] 104)).alloc (.cells #[.string ⟨#[]⟩,.string ⟨#[]⟩,.string ⟨#[]⟩,.string ⟨#[]⟩,.string ⟨#[]⟩] 104)).setCell ⟨w.heap.size,2,none⟩ (.string ⟨#[]⟩)).setCell ⟨w.heap.size,3,none⟩ (.string ⟨#[]⟩)).setCell ⟨w.heap.size,4,none⟩ (.string ⟨#[]⟩)):=
  fun ty=>Lib.run_clear_slice _ 69 9 ty (.string ⟨#[]⟩) Tryz.underlying69 zeroStr rfl rfl w.heap.size 2 3 3 (by omega)
   (fun j hj=>by rcases (show j=0\/j=1\/j=2\/j=3\/j=4 by omega) with rfl | rfl | rfl | rfl | rfl <;> first | omega | simp[World.cell?_alloc_past])
   (fun j hj=>by rcases (show j=0\/j=1\/j=2\/j=3\/j=4 by omega) with rfl | rfl | rfl | rfl | rfl <;> first | omega | simp[World.frozen?_alloc_past])
 have hmx:max (2:Int) 0=2:=rfl
 have hsl:∀ (b:Nat) (W:World),(Instr.sliceAt 104 (.pointer (some ⟨b,0,none⟩)) (some (.int .i64 2)) none none).run Tryz.prog W=.ok (.slice (some ⟨b,2,none⟩) 3 3) W:=fun b W=>by kernel_rfl
 go_enter Tryz.func119,Tryz.ntmps119
 go_wp2_with (first | simp only[hmx] | simp only[hsl] | simp only[hcl])
 exact bodyPost_ret (v:=.agg #[.string s0,.string s1,.string ⟨#[]⟩,.string ⟨#[]⟩,.string ⟨#[]⟩]) (by simp[results,Tryz.results119,go_sem]) rfl ⟨rfl,by repeat (first | exact Below.refl _ _ | (refine Below.alloc ?_ (by simp) _) | (refine Below.setCell ?_ (by simp) _))⟩
theorem head_3 (s0 s1 s2 s3 s4:ByteArray)(w:World):Calls Tryz.prog 119 #[.agg #[.string s0,.string s1,.string s2,.string s3,.string s4],.int .i64 3] w fun e w'=>e=.returned (.agg #[.string s0,.string s1,.string s2,.string ⟨#[]⟩,.string ⟨#[]⟩])/\Below w.heap.size w w':=by
 have hcl:∀ ty,(Builtin.clear_ #[69] ty #[.slice (some ⟨w.heap.size,3,none⟩) 2 2]).run Tryz.prog ((w.alloc (.cells #[.string s0,.string s1,.string s2,.string s3,.string s4] 104)).alloc (.cells #[.string ⟨#[]⟩,.string ⟨#[]⟩,.string ⟨#[]⟩,.string ⟨#[]⟩,.string ⟨#[]⟩] 104))=.ok (.tuple #[]) ((((w.alloc (.cells #[.string s0,.string s1,.string s2,.string s3,.string s4] 104)).alloc (.cells #[.string ⟨#[]⟩,.string ⟨#[]⟩,.string ⟨#[]⟩,.string ⟨#[]⟩,.string ⟨#[]⟩] 104)).setCell ⟨w.heap.size,3,none⟩ (.string ⟨#[]⟩)).setCell ⟨w.heap.size,4,none⟩ (.string ⟨#[]⟩)):=
  fun ty=>Lib.run_clear_slice _ 69 9 ty (.string ⟨#[]⟩) Tryz.underlying69 zeroStr rfl rfl w.heap.size 3 2 2 (by omega)
   (fun j hj=>by rcases (show j=0\/j=1\/j=2\/j=3\/j=4 by omega) with rfl | rfl | rfl | rfl | rfl <;> first | omega | simp[World.cell?_alloc_past])
   (fun j hj=>by rcases (show j=0\/j=1\/j=2\/j=3\/j=4 by omega) with rfl | rfl | rfl | rfl | rfl <;> first | omega | simp[World.frozen?_alloc_past])
 have hmx:max (3:Int) 0=3:=rfl
 have hsl:∀ (b:Nat) (W:World),(Instr.sliceAt 104 (.pointer (some ⟨b,0,none⟩)) (some (.int .i64 3)) none none).run Tryz.prog W=.ok (.slice (some ⟨b,3,none⟩) 2 2) W:=fun b W=>by kernel_rfl
 go_enter Tryz.func119,Tryz.ntmps119
 go_wp2_with (first | simp only[hmx] | simp only[hsl] | simp only[hcl])
 exact bodyPost_ret (v:=.agg #[.string s0,.string s1,.string s2,.string ⟨#[]⟩,.string ⟨#[]⟩]) (by simp[results,Tryz.results119,go_sem]) rfl ⟨rfl,by repeat (first | exact Below.refl _ _ | (refine Below.alloc ?_ (by simp) _) | (refine Below.setCell ?_ (by simp) _))⟩
theorem head_4 (s0 s1 s2 s3 s4:ByteArray)(w:World):Calls Tryz.prog 119 #[.agg #[.string s0,.string s1,.string s2,.string s3,.string s4],.int .i64 4] w fun e w'=>e=.returned (.agg #[.string s0,.string s1,.string s2,.string s3,.string ⟨#[]⟩])/\Below w.heap.size w w':=by
 have hcl:∀ ty,(Builtin.clear_ #[69] ty #[.slice (some ⟨w.heap.size,4,none⟩) 1 1]).run Tryz.prog ((w.alloc (.cells #[.string s0,.string s1,.string s2,.string s3,.string s4] 104)).alloc (.cells #[.string ⟨#[]⟩,.string ⟨#[]⟩,.string ⟨#[]⟩,.string ⟨#[]⟩,.string ⟨#[]⟩] 104))=.ok (.tuple #[]) (((w.alloc (.cells #[.string s0,.string s1,.string s2,.string s3,.string s4] 104)).alloc (.cells #[.string ⟨#[]⟩,.string ⟨#[]⟩,.string ⟨#[]⟩,.string ⟨#[]⟩,.string ⟨#[]⟩] 104)).setCell ⟨w.heap.size,4,none⟩ (.string ⟨#[]⟩)):=
  fun ty=>Lib.run_clear_slice _ 69 9 ty (.string ⟨#[]⟩) Tryz.underlying69 zeroStr rfl rfl w.heap.size 4 1 1 (by omega)
   (fun j hj=>by rcases (show j=0\/j=1\/j=2\/j=3\/j=4 by omega) with rfl | rfl | rfl | rfl | rfl <;> first | omega | simp[World.cell?_alloc_past])
   (fun j hj=>by rcases (show j=0\/j=1\/j=2\/j=3\/j=4 by omega) with rfl | rfl | rfl | rfl | rfl <;> first | omega | simp[World.frozen?_alloc_past])
 have hmx:max (4:Int) 0=4:=rfl
 have hsl:∀ (b:Nat) (W:World),(Instr.sliceAt 104 (.pointer (some ⟨b,0,none⟩)) (some (.int .i64 4)) none none).run Tryz.prog W=.ok (.slice (some ⟨b,4,none⟩) 1 1) W:=fun b W=>by kernel_rfl
 go_enter Tryz.func119,Tryz.ntmps119
 go_wp2_with (first | simp only[hmx] | simp only[hsl] | simp only[hcl])
 exact bodyPost_ret (v:=.agg #[.string s0,.string s1,.string s2,.string s3,.string ⟨#[]⟩]) (by simp[results,Tryz.results119,go_sem]) rfl ⟨rfl,by repeat (first | exact Below.refl _ _ | (refine Below.alloc ?_ (by simp) _) | (refine Below.setCell ?_ (by simp) _))⟩
theorem head_5 (s0 s1 s2 s3 s4:ByteArray)(w:World):Calls Tryz.prog 119 #[.agg #[.string s0,.string s1,.string s2,.string s3,.string s4],.int .i64 5] w fun e w'=>e=.returned (.agg #[.string s0,.string s1,.string s2,.string s3,.string s4])/\Below w.heap.size w w':=by
 have hcl:∀ ty W,(Builtin.clear_ #[69] ty #[.slice (some ⟨w.heap.size,0,none⟩) 0 0]).run Tryz.prog W=.ok (.tuple #[]) W:=fun ty W=>by simp[Builtin.clear_,run_underlying Tryz.underlying69]
 have hmx:max (5:Int) 0=5:=rfl
 have hsl:∀ (b:Nat) (W:World),(Instr.sliceAt 104 (.pointer (some ⟨b,0,none⟩)) (some (.int .i64 5)) none none).run Tryz.prog W=.ok (.slice (some ⟨b,0,none⟩) 0 0) W:=fun b W=>by kernel_rfl
 go_enter Tryz.func119,Tryz.ntmps119
 go_wp2_with (first | simp only[hmx] | simp only[hsl] | simp only[hcl])
 exact bodyPost_ret (v:=.agg #[.string s0,.string s1,.string s2,.string s3,.string s4]) (by simp[results,Tryz.results119,go_sem]) rfl ⟨rfl,by repeat (first | exact Below.refl _ _ | (refine Below.alloc ?_ (by simp) _) | (refine Below.setCell ?_ (by simp) _))⟩
theorem head_any (l:List ByteArray)(h5:l.length<=5)(n:Nat)(hn:n<=5)(w:World):Calls Tryz.prog 119 #[pathV l,.int .i64 (n:Int)] w fun e w'=>e=.returned (pathV (l.take n))/\Below w.heap.size w w':=by
 have key:∀ i,(l.take n).getD i ⟨#[]⟩=if i<n then l.getD i ⟨#[]⟩ else ⟨#[]⟩:=by
  intro i
  rw[List.getD_eq_getElem?_getD,List.getD_eq_getElem?_getD,List.getElem?_take]
  split <;> rfl
 unfold pathV pathA
 simp only[key]
 rcases (show n=0\/n=1\/n=2\/n=3\/n=4\/n=5 by omega) with rfl | rfl | rfl | rfl | rfl | rfl
 ·exact head_0 _ _ _ _ _ w
 ·exact head_1 _ _ _ _ _ w
 ·exact head_2 _ _ _ _ _ w
 ·exact head_3 _ _ _ _ _ w
 ·exact head_4 _ _ _ _ _ w
 ·exact head_5 _ _ _ _ _ w
theorem head_less (l:List ByteArray)(w:World):Calls Tryz.prog 119 #[pathV l,.int .i64 (-1)] w fun e w'=>e=.returned (pathV [])/\Below w.heap.size w w':=head_neg _ _ _ _ _ w
theorem bcell {W w1:World}(hb:Below W.heap.size W w1):(∀ b o,b<W.heap.size->w1.cell? ⟨b,o,none⟩=W.cell? ⟨b,o,none⟩)/\(∀ b o,b<W.heap.size->w1.frozen? ⟨b,o,none⟩=W.frozen? ⟨b,o,none⟩):=
 ⟨fun b o h=>hb.cell (p:=⟨b,o,none⟩) h,fun b o h=>hb.frozen (p:=⟨b,o,none⟩) h⟩
theorem below_drew {n:Nat}{w W:World}(h:Below n w W):Below n w W.drew:=⟨h.os,h.tape,h.output,h.size,h.block⟩
theorem below_via {w W w1:World}(h0:Below w.heap.size w W)(h:Below W.heap.size W w1):Below w.heap.size w w1:=h0.trans (h.mono h0.size)
theorem two_size {w w1:World}{o1 o2:Obj}(h:Below ((w.alloc o1).alloc o2).drew.heap.size ((w.alloc o1).alloc o2).drew w1):w.heap.size<w1.heap.size/\w.heap.size+1<w1.heap.size:=by
 have h2:((w.alloc o1).alloc o2).heap.size<=w1.heap.size:=h.size
 rw[World.size_alloc,World.size_alloc] at h2
 omega
theorem parent_walk (s0 s1 s2 s3 s4 r0 r1 r2 r3 r4:ByteArray)(n m:Int)(w:World)(hm:IntKind.i64.wrap (n-1)=m)
  (hd:∀ W,Calls Tryz.prog 83 #[.agg #[.string s0,.string s1,.string s2,.string s3,.string s4]] W fun e w'=>e=.returned (.int .i64 n)/\Below W.heap.size W w')
  (hh:∀ W,Calls Tryz.prog 119 #[.agg #[.string s0,.string s1,.string s2,.string s3,.string s4],.int .i64 m] W fun e w'=>e=.returned (.agg #[.string r0,.string r1,.string r2,.string r3,.string r4])/\Below W.heap.size W w'):
  Calls Tryz.prog 76 #[.agg #[.string s0,.string s1,.string s2,.string s3,.string s4]] w fun e w'=>e=.returned (.agg #[.string r0,.string r1,.string r2,.string r3,.string r4])/\Below w.heap.size w w':=by
 go_enter Tryz.func76,Tryz.ntmps76
 go_wp2
 go_region_with (first
  | (go_at_call 83;refine (hd _).mono ?_;rintro e w1 ⟨rfl,hb1⟩;obtain⟨hc1,hf1⟩:=bcell hb1;obtain⟨hz0,hz1⟩:=two_size hb1)
  | (go_at_call 119;refine (hh _).mono ?_;rintro e w2 ⟨rfl,hb2⟩;obtain⟨hc2,hf2⟩:=bcell hb2))
 all_goals
  go_wp2
  exact bodyPost_ret (v:=.agg #[.string r0,.string r1,.string r2,.string r3,.string r4]) (by simp[results,Tryz.results76,go_sem,hc1,hc2,hz1]) rfl ⟨rfl,by
   have h1:Below w.heap.size w w1:=below_via (below_drew (((Below.refl _ _).alloc (Nat.le_refl _) _).alloc (by simp) _)) hb1
   have h2:Below w.heap.size w w2:=h1.trans (hb2.mono (by omega))
   repeat (first | exact h2 | (refine Below.setCell ?_ (by simp) _))⟩
end Go.Proofs.YtajopoddmfdejaaGreat
