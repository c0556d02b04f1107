/- What is proved here: what is copied out of a stored directory. -/
import Derived.Test.YtlgidcmmgohagaaGreatFileM30
import Derived.Test.YtlgidcmmgohagaaGreatFileM08
import Derived.Test.YtlgidcmmgohagaaGreatFileM29
import Derived.Test.YtlgidcmmgohagaaGreatFileM18
import Derived.Shelf.SlicesE.Clone
import Derived.Test.YtlgidcmmgohagaaGreatFileM13
namespace Go.Proofs.YtlgidcmmgohagaaGreat
open Go.RowKit Go.Sort Go.Shelf Go.Proofs.Tryz
set_option linter.unusedVariables false
set_option maxRecDepth 100000
set_option maxHeartbeats 16000000
def encP9:Nat->List (List ByteArray×Nd)->List Ent
 | _,[]=>[]
 | k,(y,.dir) :: r=>(joinP y,2,0) :: encP9 k r
 | k,(y,.file d) :: r=>(joinP y,1,(k:Int)) :: encP9 (k+1) r
def bytesP9:List (List ByteArray×Nd)->List ByteArray
 | []=>[]
 | (_,.dir) :: r=>bytesP9 r
 | (_,.file d) :: r=>d :: bytesP9 r
theorem encP9_app:∀(L M:List (List ByteArray×Nd)) (k:Nat),encP9 k (L++M)=encP9 k L++encP9 (k+(bytesP9 L).length) M
 | [],M,k=>rfl
 | (y,.dir) :: r,M,k=>by
  rw[List.cons_append,encP9,encP9,encP9_app r M k,bytesP9];rfl
 | (y,.file d) :: r,M,k=>by
  rw[List.cons_append,encP9,encP9,encP9_app r M (k+1),bytesP9,List.length_cons,show k+((bytesP9 r).length+1)=k+1+(bytesP9 r).length by omega];rfl
theorem bytesP9_app:∀(L M:List (List ByteArray×Nd)),bytesP9 (L++M)=bytesP9 L++bytesP9 M
 | [],M=>rfl
 | (y,.dir) :: r,M=>by rw[List.cons_append,bytesP9,bytesP9,bytesP9_app r M]
 | (y,.file d) :: r,M=>by rw[List.cons_append,bytesP9,bytesP9,bytesP9_app r M];rfl
theorem encP9_len:∀(L:List (List ByteArray×Nd)) (k:Nat),(encP9 k L).length=L.length
 | [],k=>rfl
 | (y,.dir) :: r,k=>by rw[encP9,List.length_cons,List.length_cons,encP9_len r k]
 | (y,.file d) :: r,k=>by rw[encP9,List.length_cons,List.length_cons,encP9_len r (k+1)]
theorem bytesP9_len:∀(L:List (List ByteArray×Nd)),(bytesP9 L).length<=L.length
 | []=>zzC _
 | (y,.dir) :: r=>by rw[bytesP9,List.length_cons];exact Nat.le_succ_of_le (bytesP9_len r)
 | (y,.file d) :: r=>by rw[bytesP9,List.length_cons,List.length_cons];exact Nat.succ_le_succ (bytesP9_len r)
theorem encP9_names:∀(L:List (List ByteArray×Nd)) (k:Nat),(encP9 k L).map (·.1)=L.map fun x=>joinP x.1
 | [],k=>rfl
 | (y,.dir) :: r,k=>by rw[encP9,List.map_cons,List.map_cons,encP9_names r k]
 | (y,.file d) :: r,k=>by rw[encP9,List.map_cons,List.map_cons,encP9_names r (k+1)]
theorem encP9_kinds:∀(L:List (List ByteArray×Nd)) (k:Nat),∀e ∈ encP9 k L,(e.2.1=1\/e.2.1=2)/\(e.2.1=1->0<=e.2.2/\e.2.2<((k+(bytesP9 L).length:Nat):Int))
 | [],k=>by intro e he;cases he
 | (y,.dir) :: r,k=>by
  intro e he
  rw[encP9] at he
  rcases List.mem_cons.1 he with rfl | he
  ·exact⟨.inr rfl,fun h=>by cases h⟩
  ·rw[bytesP9];exact encP9_kinds r k e he
 | (y,.file d) :: r,k=>by
  intro e he
  rw[encP9] at he
  rw[bytesP9,List.length_cons]
  rcases List.mem_cons.1 he with rfl | he
  ·exact⟨.inl rfl,fun _=>⟨show (0:Int)<=(k:Int) by omega,show (k:Int)<_ by omega⟩⟩
  ·have:=encP9_kinds r (k+1) e he
   rw[show k+1+(bytesP9 r).length=k+((bytesP9 r).length+1) by omega] at this
   exact this
theorem enc_find {q:List ByteArray}(hq:Valids q):∀(L:List (List ByteArray×Nd)) (ds zs:List ByteArray),(∀x ∈ L,Valids x.1)->
  (((encP9 ds.length L).find? fun e=>decide (e.1=joinP q)).map fun e=>ndR (ds++bytesP9 L++zs) e.2)=(L.find? fun x=>decide (x.1=q)).map (·.2)
 | [],ds,zs,_=>rfl
 | (y,.dir) :: r,ds,zs,h=>by
  rw[encP9,List.find?_cons,List.find?_cons]
  have hy:=h _ (List.mem_cons_self ..)
  by_cases e:y=q
  ·subst e
   simp only[decide_true,Option.map_some]
   rfl
  ·have e':¬joinP y=joinP q:=fun h=>e (joinP_inj hy hq h)
   simp only[zzE e,zzE e']
   exact enc_find hq r ds zs (fun x hx=>h x (List.mem_cons_of_mem _ hx))
 | (y,.file d) :: r,ds,zs,h=>by
  rw[encP9,List.find?_cons,List.find?_cons]
  have hy:=h _ (List.mem_cons_self ..)
  by_cases e:y=q
  ·subst e
   simp only[decide_true,Option.map_some,bytesP9]
   have:ndR (ds++d :: bytesP9 r++zs) (1,(ds.length:Int))=.file d:=by
    unfold ndR;rw[zzB (show ¬(1:Int)=2 by decide)];simp
   rw[this]
  ·have e':¬joinP y=joinP q:=fun h=>e (joinP_inj hy hq h)
   simp only[zzE e,zzE e']
   have:=enc_find hq r (ds ++ [d]) zs (fun x hx=>h x (List.mem_cons_of_mem _ hx))
   rw[List.length_append,List.length_singleton,List.append_assoc ds,List.singleton_append] at this;exact this
theorem joinP_snoc {P:List ByteArray}(x:ByteArray)(hP:Valids P):outPath (joinP P) x=joinP (P ++ [x]):=by
 apply toL_inj;unfold outPath;by_cases h:P = []
 ·subst h
  rw[zzD (by rw[toL_eq];exact joinP_L []),joinP_L];rfl
 ·have h1:¬(joinP P).toList = []:=fun e=>h ((joinP_size0 hP).1 (by rw[<-toL_len,<-toL_eq,e];rfl))
  rw[zzB h1,toL_append,toL_append,joinP_L,joinP_L,List.map_append,List.map_singleton,joinL_snoc _ _ (by simpa using h)];simp[toL]
section
variable {objs ros:List Ob}{fc:FileC}
theorem twin_at (h:Twin objs ros){i:Nat}(hi:i<objs.length):∃hr:i<ros.length,AlikeR objs[i] ros[i]:=⟨by rw[<-h.1];exact hi,h.2.1 i hi (by rw[<-h.1];exact hi)⟩
def thX (objs:List Ob)(fc:FileC)(n:Nat)(P:List ByteArray)(x:ByteArray×LT):List (List ByteArray×Nd):=(P ++ [x.1],nd objs fc x.2) :: (if x.2.kind=2 then thingsP objs fc n (P ++ [x.1]) x.2 else [])
theorem thX_file (n:Nat)(P:List ByteArray)(m:ByteArray)(i:Int):thX objs fc n P (m,.file i) = [(P ++ [m],.file (bytesOf objs i))]:=rfl
theorem thX_dir (n:Nat)(P:List ByteArray)(m:ByteArray)(i:Int):thX objs fc n P (m,.dir i)=(P ++ [m],.dir) :: thingsP objs fc n (P ++ [m]) (.dir i):=rfl
theorem out_fold {fuel n:Nat}{P:List ByteArray}(hP:Valids P)(rec_:Nat->ByteArray->St->St)
  (hrec:∀(e:Ent) (st:St),(toItem e).2.2.toNat<fuel->validB e.1=true->e.2.1=2->kindOf objs e.2.2=2->highOf objs e.2.2<=n->rec_ (toItem e).2.2.toNat (joinP (P ++ [e.1])) st=(st.1++encP9 st.2.length (thingsP objs fc n (P ++ [e.1]) (.dir e.2.2)),st.2++bytesP9 (thingsP objs fc n (P ++ [e.1]) (.dir e.2.2))))
  (hdat:∀e:Ent,kindOf objs e.2.2=1->dataAt ros (toItem e).2.2=bytesOf objs e.2.2):
  ∀(es:List Ent) (st:St),(∀e ∈ es,validB e.1=true/\(e.2.1=1\/e.2.1=2)/\kindOf objs e.2.2=e.2.1/\highOf objs e.2.2<=n/\(toItem e).2.2.toNat<fuel)->
   (es.map toItem).foldl (outStep ros rec_ (joinP P)) st=(st.1++encP9 st.2.length ((es.map kidOf).flatMap (thX objs fc n P)),st.2++bytesP9 ((es.map kidOf).flatMap (thX objs fc n P)))
 | [],st,_=>by simp[encP9,bytesP9]
 | e :: r,st,h=>by
  obtain⟨h1,h2,h3,h4,h5⟩:=h e (List.mem_cons_self ..)
  rw[List.map_cons,List.foldl_cons,List.map_cons,List.flatMap_cons]
  have hit:(toItem e).1=e.1/\(toItem e).2.1=e.2.1:=⟨rfl,rfl⟩
  have ih:=fun st'=>out_fold (fuel:=fuel) hP rec_ hrec hdat r st' (fun x hx=>h x (List.mem_cons_of_mem _ hx))
  rcases h2 with k | k
  ·have hk:kidOf e=(e.1,.file e.2.2):=by unfold kidOf ltOf;rw[zzB (by rw[k];decide)]
   have hs:outStep ros rec_ (joinP P) st (toItem e)=(st.1 ++ [(joinP (P ++ [e.1]),1,(st.2.length:Int))],st.2 ++ [bytesOf objs e.2.2]):=by
    unfold outStep;rw[zzD (by rw[hit.2];exact k),hit.1,joinP_snoc _ hP,hdat e (h3.trans k)]
   rw[hs,ih,hk,thX_file,encP9_app,bytesP9_app];simp only[encP9,bytesP9,List.length_append,List.length_cons,List.length_nil,List.append_assoc,List.cons_append,List.nil_append]
  ·have hk:kidOf e=(e.1,.dir e.2.2):=by unfold kidOf ltOf;rw[zzD k]
   have hs:outStep ros rec_ (joinP P) st (toItem e)=((st.1 ++ [(joinP (P ++ [e.1]),2,0)])++encP9 st.2.length (thingsP objs fc n (P ++ [e.1]) (.dir e.2.2)),st.2++bytesP9 (thingsP objs fc n (P ++ [e.1]) (.dir e.2.2))):=by
    unfold outStep;rw[zzB (by rw[hit.2,k];decide),hit.1,joinP_snoc _ hP,hrec e _ h5 h1 k (h3.trans k) h4]
   rw[hs,ih,hk,thX_dir,encP9_app,bytesP9_app];simp only[encP9,bytesP9,List.length_append,List.append_assoc,List.cons_append,List.nil_append]
theorem out_things (hT:Twin objs ros)(hX:Exact objs)(hB:Below0 ros):∀(n fuel at_:Nat) (P:List ByteArray) (st:St),at_<fuel->Valids P->kindOf objs ((at_:Int)+1)=2->highOf objs ((at_:Int)+1)<=n->
  outP ros fuel at_ (joinP P) st=(st.1++encP9 st.2.length (thingsP objs fc n P (.dir ((at_:Int)+1))),st.2++bytesP9 (thingsP objs fc n P (.dir ((at_:Int)+1))))
 | n,0,at_,P,st,h,_,_,_=>absurd h (Nat.not_lt_zero _)
 | n,fuel+1,at_,P,st,h,hP,hk,hh=>by
  have hlt:at_<objs.length:=by
   by_cases hl:at_<objs.length
   ·exact hl
   ·rw[kindOf_out (.inr (by omega))] at hk;cases hk
  obtain⟨hr,hal⟩:=twin_at hT hlt;have hke:objs[at_].kind=2:=by rw[<-kindOf_in hlt];exact hk
  have hents:entsOf objs ((at_:Int)+1)=objs[at_].ents:=by
   unfold entsOf;rw[show ((at_:Int)+1-1).toNat=at_ by omega,zzH hlt];rfl
  obtain⟨_,_,s3⟩:=hX.sound.2 _ hk;rw[hents] at s3;have he:entsAtR ros at_=objs[at_].ents.map toItem:=by
   unfold entsAtR;rw[zzH hr,Option.map_some,Option.getD_some,hal.ents hke]
  rw[outP,he];have hdat:∀e:Ent,kindOf objs e.2.2=1->dataAt ros (toItem e).2.2=bytesOf objs e.2.2:=fun e hk1=>by
   obtain⟨p1,p2⟩:=kindOf_pos (by rw[hk1];decide);obtain⟨hr1,hal1⟩:=twin_at hT p2;have hk1':objs[(e.2.2-1).toNat].kind=1:=by
    have:=hk1
    unfold kindOf at this;rw[zzD p1,zzH p2] at this;exact this
   unfold dataAt bytesOf toItem;rw[zzH hr1,zzH p2,Option.map_some,Option.map_some,Option.getD_some,Option.getD_some,hal1.data hk1']
  cases n with
  | zero=>
   have:objs[at_].ents = []:=by
    cases hes:objs[at_].ents with
    | nil=>rfl
    | cons e r=>
     have:=(s3 e (by rw[hes];exact List.mem_cons_self ..)).2.2.2
     have:=hX.sound.1 e.2.2
     omega
   rw[this];simp[thingsP,encP9,bytesP9]
  | succ n=>
   rw[thingsP];simp only[kids,Option.getD_some,hents];refine out_fold (fuel:=fuel) hP (outP ros fuel) (fun e st' e0 e1 e2 e3 e4=>?_) hdat objs[at_].ents st (fun e he=>?_)
   ·obtain⟨p1,p2⟩:=kindOf_pos (by rw[e3];decide)
    have hx:(((toItem e).2.2.toNat:Nat):Int)+1=e.2.2:=by unfold toItem;simp only;omega
    have:=out_things hT hX hB n fuel (toItem e).2.2.toNat (P ++ [e.1]) st' e0 (hP.append (fun z hz=>by rw[List.mem_singleton.1 hz];exact e1)) (by rw[hx];exact e3) (by rw[hx];exact e4)
    rw[hx] at this;exact this
   ·obtain⟨t1,t2,t3,t4⟩:=s3 e he
    have hb:=hB at_ hr (toItem e) (by rw[hal.ents hke];exact List.mem_map_of_mem he);exact⟨t1,t2,t3,by omega,by omega⟩
theorem find_path {a:List Ob}(hS:Sound a){fc:FileC}{t:LT}(ht:LTok a 5 t){q:List ByteArray}(hq:q ≠ []):((thingsP a fc 5 [] t).find? fun x=>decide (x.1=q)).map (·.2)=sem a fc t q:=by
 cases hf:(thingsP a fc 5 [] t).find? fun x=>decide (x.1=q) with
 | some x=>
  have h1:=List.mem_of_find?_eq_some hf;have h2:x.1=q:=by simpa using List.find?_some hf
  obtain⟨_,h3⟩:=(path_mem hS ht).1 (show (x.1,x.2) ∈ _ from h1);rw[h2] at h3;rw[h3];rfl
 | none=>
  cases hs:sem a fc t q with
  | none=>rfl
  | some d=>
   have:=List.find?_eq_none.1 hf _ ((path_mem hS ht).2 ⟨hq,hs⟩)
   simp at this
theorem path_good {a:List Ob}(hS:Sound a){fc:FileC}{t:LT}(ht:LTok a 5 t):∀x ∈ thingsP a fc 5 [] t,x.1 ≠ []/\Valids x.1/\x.1.length<=5:=fun x hx=>by
 obtain⟨h1,h2⟩:=(path_mem hS ht).1 (show (x.1,x.2) ∈ _ from hx)
 unfold sem at h2
 cases hat:t.at a x.1 with
 | none=>rw[hat] at h2;cases h2
 | some c=>
  have:=ok_at hS _ ht hat
  exact⟨h1,this.2.2,this.1⟩
theorem enc_reads {a:List Ob}(hS:Sound a){fc:FileC}{t:LT}(ht:LTok a 5 t)(hk:t.kind=2):Reads a fc t (encP9 0 (thingsP a fc 5 [] t)) (bytesP9 (thingsP a fc 5 [] t)):=fun q hq=>by
 unfold lookN
 by_cases h0:q = []
 ·subst h0
  rw[zzD rfl,sem_nil]
  cases t <;> first | rfl | cases hk
 ·rw[zzB h0,Option.map_map,<-find_path hS ht h0]
  have:=enc_find hq (thingsP a fc 5 [] t) [] [] (fun x hx=>(path_good hS ht x hx).2.1)
  simp only[List.nil_append,List.append_nil,List.length_nil] at this
  rw[<-this]
  rfl
theorem enc_sound {a:List Ob}(hS:Sound a){fc:FileC}{t:LT}(ht:LTok a 5 t)(hk:t.kind=2):SoundR (encP9 0 (thingsP a fc 5 [] t)) (bytesP9 (thingsP a fc 5 [] t)):=by
 have hR:=enc_reads (fc:=fc) hS ht hk;have hpath:Pathed (encP9 0 (thingsP a fc 5 [] t)):=fun e he=>by
  have hm:e.1 ∈ (encP9 0 (thingsP a fc 5 [] t)).map (·.1):=List.mem_map_of_mem he;rw[encP9_names] at hm;obtain⟨x,hx,hxe⟩:=List.mem_map.1 hm;obtain⟨g1,g2,g3⟩:=path_good hS ht x hx;exact⟨x.1,g1,g2,g3,hxe.symm⟩
 have hone:OnePath (encP9 0 (thingsP a fc 5 [] t)):=by
  unfold OnePath;rw[encP9_names];refine List.pairwise_map.2 ((path_order hS (fc:=fc) 5 [] t ht).imp_of_mem (fun {x y} hx hy hxy e=>hxy ?_))
  have:=joinP_inj (path_good hS ht x hx).2.1 (path_good hS ht y hy).2.1 e
  rw[this];exact List.prefix_refl _
 have hup:∀l x,Valids (l ++ [x])->lookN (encP9 0 (thingsP a fc 5 [] t)) (l ++ [x])≠none->∃d ks,t.at a l=some d/\kids a d=some ks/\x ∈ ks.map (·.1):=fun l x hv hn=>by
  have h1:sem a fc t (l ++ [x])≠none:=fun e=>hn ((hR.empty hv).2 e);unfold sem at h1;cases hat:t.at a (l ++ [x]) with
  | none=>rw[hat] at h1;exact absurd rfl h1
  | some c=>
   obtain⟨d,ks,h2,h3,h4⟩:=at_snoc hat;exact⟨d,ks,h2,h3,List.mem_map.2 ⟨_,pick_mem h4,rfl⟩⟩
 refine⟨hpath,hone,fun d hd=>?_,fun e he=>(encP9_kinds _ _ e he).1,fun e he h1=>?_,fun l x hv hn=>?_⟩
 ·cases hi:itemsP (encP9 0 (thingsP a fc 5 [] t)) (joinP d) with
  | nil=>simp
  | cons y r=>
   rw[<-hi];have hnd:=items_nodup hpath hone hd;have hmem:∀z ∈ (itemsP (encP9 0 (thingsP a fc 5 [] t)) (joinP d)).map (·.1),validB z=true/\lookN (encP9 0 (thingsP a fc 5 [] t)) (d ++ [z])≠none:=fun z hz=>by
    obtain⟨e,he,rfl⟩:=List.mem_map.1 hz;obtain⟨x,hx,hn,rfl⟩:=(mem_items hpath hd).1 he;exact⟨hx,(look_some (by simp)).2 hn⟩
   have hval:∀z,validB z=true->Valids (d ++ [z]):=fun z hz=>hd.append (fun u hu=>by rw[List.mem_singleton.1 hu];exact hz);obtain⟨h1,h2⟩:=hmem y.1 (by rw[hi];exact List.mem_cons_self ..);obtain⟨c,ks,hc,hkc,_⟩:=hup d y.1 (hval _ h1) h2;have h16:=(ok_kids hS (ok_at hS d ht hc).2.1 hkc).2.1
   have:=nodup_sub_len hnd (ys:=ks.map (·.1)) (fun z hz=>by
    obtain⟨z1,z2⟩:=hmem z hz;obtain⟨c',ks',hc',hk',hm⟩:=hup d z (hval _ z1) z2;rw[hc] at hc';cases hc';rw[hkc] at hk';cases hk';exact hm)
   rw[List.length_map,List.length_map] at this;omega
 ·have:=(encP9_kinds _ _ e he).2 h1
  rw[Nat.zero_add] at this;exact this
 ·obtain⟨c,ks,hc,hkc,_⟩:=hup l x hv hn
  have h1:=hR l hv.left;unfold sem at h1;rw[hc,Option.map_some] at h1;cases hl:lookN (encP9 0 (thingsP a fc 5 [] t)) l with
  | none=>rw[hl] at h1;cases h1
  | some y=>
   rw[hl,Option.map_some,Option.some.injEq] at h1;have hn:nd a fc c=.dir:=by
    cases hnd:nd a fc c with
    | dir=>rfl
    | file b=>rw[nd_file_kids hnd] at hkc;cases hkc
   rw[hn,ndR] at h1;split at h1
   ·rename_i h2
    exact⟨y.2,by rw[<-h2]⟩
   ·cases h1
theorem path_bound {a:List Ob}(hS:Sound a){fc:FileC}{t:LT}(ht:LTok a 5 t):(thingsP a fc 5 [] t).length<=1200000:=by
 have h1:=things_bound (fc:=fc) hS 5 [] t ht;rw[things_path,List.length_map] at h1;exact zzG h1 (by decide)
end
theorem fcOf_app {objs:List Ob}{fl:Nat->Option (Int×ByteArray)}(h:FlOk objs fl)(l:List Ob):fcOf (objs++l) fl=fcOf objs fl:=by
 funext f
 unfold fcOf;cases hf:fl f with
 | none=>rfl
 | some x=>
  obtain⟨id,d⟩:=x;simp only;by_cases h0:id≠0
  ·rw[zzD h0,zzD h0,bytesOf_app l (by rw[h f id d hf h0];decide)]
  ·rw[zzB h0,zzB h0]
theorem Reads.appC {objs:List Ob}{c:FileC}{t:LT}{nodes:List Ent}{data:List ByteArray}(h:Reads objs c t nodes data)(hS:Sound objs)(hok:LTok objs 5 t)(l:List Ob):Reads (objs++l) c t nodes data:=fun q hq=>by
 rw[sem_app hS l _ q 5 t hok]
 exact h q hq
theorem Tied.app {objs:List Ob}{fl:Fls}{op:Ops}{t:LT}{nodes:List Ent}{data:List ByteArray}{rest:List Value}(h:Tied objs fl op t nodes data rest)(hS:Sound objs)(hok:LTok objs 5 t)(hfl:FlOk objs fl)(l:List Ob):Tied (objs++l) fl op t nodes data rest:=by
 obtain⟨⟨φ,hs,more,e,hM⟩,h2⟩:=h;exact⟨⟨φ,hs,more,e,hM.inj,fun f hf=>by rw[fcOf_app hfl l];exact hM.cont f hf,fun c d hd=>(hM.par c d hd).appC hS hok l,hM.num,hM.h8,hM.tab,hM.opf⟩,h2⟩
theorem Reads.dir {objs:List Ob}{fc:FileC}{t:LT}{nodes:List Ent}{data:List ByteArray}(h:Reads objs fc t nodes data):t.kind=2:=by
 have:=h [] (fun x hx=>by cases hx)
 rw[sem_nil] at this;cases t <;> first | rfl | (exfalso;cases this)
theorem way_codes (nodes:List Ent)(l:List ByteArray):wayP nodes l=0\/wayP nodes l=4\/wayP nodes l=5:=by
 unfold wayP;cases hf:(List.range l.length).findSome? (wayAt nodes l) with
 | none=>exact .inl rfl
 | some e=>
  obtain⟨_,j,_,_,hj,_⟩:=List.findSome?_eq_some_iff.1 hf;unfold wayAt at hj;split at hj
  ·cases hj;exact .inr (.inr rfl)
  ·split at hj
   ·cases hj;exact .inr (.inl rfl)
   ·cases hj
theorem up_codes (nodes:List Ent)(l:List ByteArray):upP nodes l=0\/upP nodes l=4\/upP nodes l=5:=by
 unfold upP;split
 ·exact way_codes _ _
 ·split
  ·exact .inr (.inr rfl)
  ·exact .inl rfl
theorem not14 {e:Int}(h:e=0\/e=4\/e=5):(e == 14)=false:=by
 rcases h with h | h | h <;> (rw[h];rfl)
theorem mkdir_not14 (nodes:List Ent)(S:ByteArray):((mkdirP nodes S).2 == 14)=false:=by
 unfold mkdirP
 repeat (first | exact not14 (up_codes _ _) | rfl | split)
theorem remove_not14 (nodes:List Ent)(S:ByteArray):((removeP nodes S).2 == 14)=false:=by
 unfold removeP
 repeat (first | exact not14 (way_codes _ _) | rfl | split)
def P9 (x:List Ent×Int):Prop:=(x.2 == 14)=false
theorem rename_not14 (nodes:List Ent)(S T:ByteArray):((renameP nodes S T).2 == 14)=false:=by
 show P9 (renameP nodes S T);unfold renameP;refine ite_all P9 (show P9 (nodes,_) from rfl) ?_;refine ite_all P9 (show P9 (nodes,_) from rfl) ?_;refine ite_all P9 (show P9 (nodes,wayP nodes _) from not14 (way_codes _ _)) ?_;refine ite_all P9 (show P9 (nodes,_) from rfl) ?_;refine ite_all P9 (show P9 (nodes,upP nodes _) from not14 (up_codes _ _)) ?_;refine ite_all P9 (show P9 (nodes,_) from rfl) ?_;refine ite_all P9 (show P9 (nodes,_) from rfl) ?_;refine ite_all P9 (show P9 (nodes,_) from rfl) ?_;refine ite_all P9 (show P9 (nodes,_) from rfl) ?_;refine ite_all P9 (show P9 (nodes,_) from rfl) ?_;refine ite_all P9 (show P9 (nodes,_) from rfl) ?_;rfl
theorem stat_not14 (nodes:List Ent)(data:List ByteArray)(S:ByteArray):((statP nodes data S).2 == 14)=false:=by
 unfold statP
 repeat (first | exact not14 (way_codes _ _) | rfl | split)
theorem list_not14 (nodes:List Ent)(S:ByteArray):((listP nodes S).2 == 14)=false:=by
 unfold listP
 repeat (first | exact not14 (way_codes _ _) | rfl | split)
theorem gone_len (nodes:List Ent)(S:ByteArray):(goneP nodes S).length<=nodes.length:=List.length_filter_le _ _
theorem mkdir_len (nodes:List Ent)(S:ByteArray):(mkdirP nodes S).1.length<=nodes.length+1:=by
 unfold mkdirP;split
 ·exact Nat.le_succ _
 ·skip
  split
  ·exact Nat.le_succ _
  ·skip
   split
   ·exact Nat.le_succ _
   ·skip
    split
    ·exact Nat.le_succ _
    ·skip
     split
     ·exact Nat.le_succ _
     ·skip
      exact Nat.le_of_eq (by simp)
theorem remove_len (nodes:List Ent)(S:ByteArray):(removeP nodes S).1.length<=nodes.length+1:=by
 unfold removeP
 repeat (first | exact Nat.le_succ_of_le (gone_len _ _) | exact Nat.le_succ _ | split)
def Q9 (n:Nat)(x:List Ent×Int):Prop:=x.1.length<=n+1
theorem rename_len (nodes:List Ent)(S T:ByteArray):(renameP nodes S T).1.length<=nodes.length+1:=by
 have l:∀e:Int,Q9 nodes.length (nodes,e):=fun e=>Nat.le_succ _;show Q9 nodes.length (renameP nodes S T);unfold renameP;refine ite_all (Q9 nodes.length) (l _) ?_;refine ite_all (Q9 nodes.length) (l _) ?_;refine ite_all (Q9 nodes.length) (l _) ?_;refine ite_all (Q9 nodes.length) (l _) ?_;refine ite_all (Q9 nodes.length) (l _) ?_;refine ite_all (Q9 nodes.length) (l _) ?_;refine ite_all (Q9 nodes.length) (l _) ?_;refine ite_all (Q9 nodes.length) (l _) ?_;refine ite_all (Q9 nodes.length) (l _) ?_;refine ite_all (Q9 nodes.length) (l _) ?_;refine ite_all (Q9 nodes.length) (l _) ?_;show ((goneP nodes T).map (movedPR S T)).length<=_;rw[List.length_map];exact Nat.le_succ_of_le (gone_len _ _)
structure L4 (objs:List Ob)(ws:List Slot)(ds:List Doc)(k:Nat):Prop where
 len:ds.length=ws.length
 same:∀j (h:j<ws.length) (h':j<ds.length),Tied objs ws[j].2.2.1.fl ws[j].2.2.1.op ws[j].2.2.2 ds[j].2.1 ds[j].2.2.1 ds[j].2.2.2/\ds[j].2.1.length<=k/\ds[j].2.2.1.length<=k
def Game4 (B0:Nat)(w:World)(W s r n:Nat):Prop:=∃R tg p lim objs ros got ws ds q8 q9 q11,M4At R tg w B0 W s r p lim objs ros got ws ds q8 q9 q11/\L4 objs ws ds (1200000+n)/\lim<=900*n/\q8<=n/\q9<=n/\q11<=n/\1<=ws.length/\ws.length<=n
theorem L4.mono {objs:List Ob}{ws:List Slot}{ds:List Doc}{k k':Nat}(h:L4 objs ws ds k)(hk:k<=k'):L4 objs ws ds k':=⟨h.len,fun j h1 h2=>⟨(h.same j h1 h2).1,zzG (h.same j h1 h2).2.1 hk,zzG (h.same j h1 h2).2.2 hk⟩⟩
theorem L4.set {objs:List Ob}{ws:List Slot}{ds:List Doc}{k j:Nat}{x:Slot}{d:Doc}(h:L4 objs ws ds k)(hj:j<ws.length)(hY:Tied objs x.2.2.1.fl x.2.2.1.op x.2.2.2 d.2.1 d.2.2.1 d.2.2.2)(h1:d.2.1.length<=k+1)(h2:d.2.2.1.length<=k+1):L4 objs (ws.set j x) (ds.set j d) (k+1):=by
 refine⟨by simp[h.len],fun i hi hi'=>?_⟩;have hi1:i<ws.length:=by simpa using hi
 have hi2:i<ds.length:=by simpa using hi'
 simp only[List.getElem_set];by_cases e:j=i
 ·subst e
  simp only;exact⟨hY,h1,h2⟩
 ·simp only[zzB e]
  obtain⟨a,b,c⟩:=h.same i hi1 hi2;exact⟨a,by omega,by omega⟩
theorem L4.setW {objs:List Ob}{ws:List Slot}{ds:List Doc}{k j:Nat}{x:Slot}(h:L4 objs ws ds k)(hj:j<ws.length)(hj':j<ds.length)(hY:Tied objs x.2.2.1.fl x.2.2.1.op x.2.2.2 ds[j].2.1 ds[j].2.2.1 ds[j].2.2.2):L4 objs (ws.set j x) ds k:=by
 refine⟨by simp[h.len],fun i hi hi'=>?_⟩;have hi1:i<ws.length:=by simpa using hi
 simp only[List.getElem_set];by_cases e:j=i
 ·subst e
  simp only;exact⟨hY,(h.same j hi1 hi').2⟩
 ·simp only[zzB e]
  exact h.same i hi1 hi'
section
variable {R:Rows4}{tg:Tags}{w:World}{B0 W s r p lim:Nat}{objs ros:List Ob}{got:List Int}{ws:List Slot}{ds:List Doc}{q8 q9 q11 j:Nat}{B:WB}{g:WG}{t:LT}{Sb:Nat}{nodes:List Ent}{data:List ByteArray}{rest:List Value}
def with9 (g:WG)(got:List Int):WG:={ g with fs:={ g.fs with got:=got,brk:=false } }
def Half (B0:Nat)(w w':World)(W s r p lim:Nat)(objs ros:List Ob)(ws:List Slot)(ds:List Doc)(q8 q9 q11 j:Nat)(B:WB)(nodes':List Ent)(data':List ByteArray)(rest':List Value):Prop:=
 ∃R' tg' g' t' got',M4At R' tg' w' B0 W s r p (lim+400) objs ros got' (ws.set j (j+2,B,g',t')) ds q8 q9 q11/\Tied objs g'.fl g'.op t' nodes' data' rest'/\Below B0 w w'
theorem low_moves {tg':Tags}{W1 w':World}(M:M4At R tg w B0 W s r p lim objs ros got ws ds q8 q9 q11)(hb:Below w.heap.size w W1)(m:Moves (Mine (j+2)) tg tg' W1 w'):Below B0 w w':=
 ⟨m.os.trans hb.os,m.tape.trans hb.tape,m.output.trans hb.output,zzG (zzG M.size hb.size) m.size |> fun h=>zzG hb.size m.size,fun k hk=>(m.block k (zzA hk (zzG M.size hb.size)) (by rw[M.old k hk];exact mine0 (by omega))).trans (hb.block k (zzA hk M.size))⟩
theorem box_moves {tg':Tags}{W1 w':World}(M:M4At R tg w B0 W s r p lim objs ros got ws ds q8 q9 q11)(hz:w.heap.size<W1.heap.size)(m:Moves (Mine (j+2)) tg tg' W1 w'):BoxK w.heap.size W1 w':=
 ⟨zzA hz m.size,fun o=>World.cell?_of_block (a:=⟨w.heap.size,o,none⟩) (m.block w.heap.size hz (by rw[M.fresh w.heap.size (zzC _)];exact mine0 (by omega)))⟩
theorem g4_prog {f:Nat}{args:Array Value}{v:Value}{nodes':List Ent}{data':List ByteArray}{rest':List Value}(M:M4At R tg w B0 W s r p lim objs ros got ws ds q8 q9 q11)(hj:j<ws.length)(hx:ws[j]=(j+2,B,g,t))
  (hp:∀{W1:World},QInv tg W1 s (j+2) p B objs (with9 g got) lim t->HeldInj objs t->Calls prog f args W1 fun e w'=>e=.returned v/\Did9 s (j+2) p B objs tg W1 w' (with9 g got) (lim+400) nodes' data' rest'):
  ∀W1,Below w.heap.size w W1->w.heap.size<W1.heap.size->Calls prog f args W1 fun e w'=>e=.returned v/\BoxK w.heap.size W1 w'/\Half B0 w w' W s r p lim objs ros ws ds q8 q9 q11 j B nodes' data' rest':=by
 intro W1 hb hz;obtain⟨hQ,hi,hnext⟩:=(M.below hb).work hj hx;refine (hp hQ hi).mono ?_;rintro e w' ⟨he,tg',g',t',m,hQ',hbk,hg,hi',hY⟩;obtain⟨pt,M'⟩:=hnext (by omega) m hQ' hbk hg hi';exact⟨he,box_moves M hz m,_,tg',g',t',_,M',hY,low_moves M hb m⟩
theorem g4_doc {f:Nat}{args:Array Value}{v:Value}{nodes':List Ent}{data':List ByteArray}{rest':List Value}(hjd:j<ds.length)(hd:ds[j]=(Sb,nodes,data,rest))
  (hc:∀{F:Nat->Prop} {w1:World},StInv F w1 Sb nodes data rest->Calls prog f args w1 fun e w'=>e=.returned v/\StInv (NewF F w1 w') w' Sb nodes' data' rest'/\Keeps F w1 w'):
  ∀w1,Half B0 w w1 W s r p lim objs ros ws ds q8 q9 q11 j B nodes' data' rest'->Calls prog f args w1 fun e w'=>e=.returned v/\
   ∃R' tg' g' t' got',M4At R' tg' w' B0 W s r p (lim+400) objs ros got' (ws.set j (j+2,B,g',t')) (ds.set j (Sb,nodes',data',rest')) q8 q9 q11/\Tied objs g'.fl g'.op t' nodes' data' rest'/\Below B0 w w':=by
 rintro w1 ⟨R',tg',g',t',got',M',hY,hB⟩;obtain⟨hst,hnext⟩:=M'.docs_ hjd hd;refine (hc hst).mono ?_;rintro e w' ⟨he,hst',hk⟩;obtain⟨tg2,M2⟩:=hnext hst' hk;exact⟨he,R',tg2,g',t',got',M2,hY,hB.trans (M'.low hk (fun k hk=>.inl (by rw[hk];intro e;have:=congrArg Prod.snd e;simp only at this;omega)))⟩
end
theorem slice_any9 {w:World}{b:Nat}{t:TypeId}{z n:Nat}{v:Value}{xs:List Value}(h:w.ownsRow b t z v n xs):∃a c,v=.slice a n c:=by
 rcases h.2 with ⟨rfl,rfl⟩ | ⟨g,cap,_,rfl,_⟩
 ·exact⟨none,0,rfl⟩
 ·exact⟨_,_,rfl⟩
section
variable {R:Rows4}{tg:Tags}{w:World}{B0 W s r p lim:Nat}{objs ros:List Ob}{got:List Int}{ws:List Slot}{ds:List Doc}{q8 q9 q11 j n:Nat}
theorem game_set {w':World}{R':Rows4}{tg':Tags}{got':List Int}{B:WB}{g':WG}{t':LT}{d:Doc}{q8':Nat}(L:L4 objs ws ds (1200000+n))(hlim:lim<=900*n)(h8:q8'<=n+1)(h9:q9<=n)(h11:q11<=n)(hw1:1<=ws.length)(hw2:ws.length<=n)(hj:j<ws.length)
  (M:M4At R' tg' w' B0 W s r p (lim+400) objs ros got' (ws.set j (j+2,B,g',t')) (ds.set j d) q8' q9 q11)(hY:Tied objs g'.fl g'.op t' d.2.1 d.2.2.1 d.2.2.2)(h1:d.2.1.length<=1200000+n+1)(h2:d.2.2.1.length<=1200000+n+1):Game4 B0 w' W s r (n+1):=
 ⟨R',tg',p,lim+400,objs,ros,got',_,_,q8',q9,q11,M,L.set hj hY h1 h2,by omega,h8,by omega,by omega,by simpa using hw1,by simp;omega⟩
theorem g4_tree (hn:n<=1048600)(M:M4At R tg w B0 W s r p lim objs ros got ws ds q8 q9 q11)(L:L4 objs ws ds (1200000+n))(hlim:lim<=900*n)(h8:q8<=n)(h9:q9<=n)(h11:q11<=n)(hw1:1<=ws.length)(hw2:ws.length<=n)(hj:j<ws.length)(hjd:j<ds.length)(kd a1 a2 a3:Int)(S T:ByteArray)(la:Option Addr)(lm lc:Nat)(hS:S.size<=1048576)(hT:T.size<=1048576)(hk:8<=kd/\kd<=12):
  Calls prog 50 #[.pointer (some ⟨W,0,none⟩),.pointer (some ⟨ws[j].2.1.wb,0,none⟩),.pointer (some ⟨ds[j].1,0,none⟩),.agg (opV9 kd a1 a2 a3 S T la lm lc)] w fun e w'=>e=.returned (.bool true)/\Game4 B0 w' W s r (n+1)/\Below B0 w w':=by
 obtain⟨B,g,t,hx⟩:∃B g t,ws[j]=(j+2,B,g,t):=⟨_,_,_,by rw[<-M.slot j hj]⟩;obtain⟨Sb,nodes,data,rest,hd⟩:∃Sb nodes data rest,ds[j]=(Sb,nodes,data,rest):=⟨_,_,_,_,rfl⟩;obtain⟨hY,hl1,hl2⟩:=L.same j hj hjd;rw[hx,hd] at hY;rw[hd] at hl1 hl2;rw[hx,hd];simp only at hY hl1 hl2 ⊢;have hR:=hY.reads;have hs:=hY.2;have hX:Exact objs:=M.w3.sto.2.2.1;have hfine:=hs.fine (by omega);have hSm:S.size<=maxLen:=zzG hS (by decide);have hTm:T.size<=maxLen:=zzG hT (by decide);have hll:lim+1000<1099511627776:=by omega
 have hcase:kd=8\/kd=9\/kd=10\/kd=11\/kd=12:=by omega
 rcases hcase with rfl | rfl | rfl | rfl | rfl
 ·refine (tree_stat W B.wb Sb a1 a2 a3 S T la lm lc (statP nodes data S).1.1 (statP nodes data S).1.2 (statP nodes data S).2 (stat_not14 _ _ _) _ w
   (g4_prog M hj hx (fun hQ hi=>p_stat hQ hll rfl hi hX hR.dir hY S hSm)) ?_).mono ?_
  ·rintro w1 ⟨R',tg',g',t',got',M',_,_⟩ W2 hb2
   obtain⟨na,nc,da,dc,hst⟩:=(M'.below hb2).docs j hjd;rw[hd] at hst;exact sstat_any hst hfine S (by omega) (show data.length<=1000000000 by omega)
  ·rintro e w' ⟨he,w1,⟨R',tg',g',t',got',M',hR',hB⟩,hb⟩
   refine⟨he,⟨R',tg',p,lim+400,objs,ros,got',_,_,q8,q9,q11,M'.below hb,(L.setW hj hjd (by rw[hd];exact hR')).mono (by omega),by omega,by omega,by omega,by omega,by simpa using hw1,by simp;omega⟩,hB.trans (hb.mono M'.size)⟩
 ·obtain⟨xs,hxs⟩:∃xs,xs=(listP nodes S).1:=⟨_,rfl⟩
  have hx16:xs.length<=16:=by
   rw[hxs];unfold listP;split
   ·exact zzF _
   ·split
    ·exact zzF _
    ·split
     ·exact zzF _
     ·show (namesP nodes S).length<=16
      rw[names_len];exact hfine.few S
  refine (tree_list W B.wb Sb a1 a2 a3 S T la lm lc (listP nodes S).2 (list_not14 _ _) xs (by omega)
   (fun a c w'=>∃R' tg' g' t' got',M4At R' tg' w' B0 W s r p (lim+400) objs ros got' (ws.set j (j+2,B,g',t')) ds q8 q9 q11/\Tied objs g'.fl g'.op t' nodes data rest/\Below B0 w w'/\w'.ownsRow 0 9 1 (.slice a xs.length c) xs.length (encS xs)/\∀b,(Value.slice a xs.length c).ownBlock=some b->tg' b=(0,0)/\B0<=b/\¬R'.FN b/\¬R'.FE b/\¬R'.FI b)
   (fun w'=>Game4 B0 w' W s r (n+1)/\Below B0 w w') w ?_ ?_ ?_)
  ·intro W1 hb hz
   obtain⟨hQ,hi,hnext⟩:=(M.below hb).work hj hx;refine (p_list hQ hll rfl hi hX hY S hSm).mono ?_;rintro e w' ⟨a,c,he,hrow,tg',g',t',m,hQ',hbk,hg,hi',hR',_,hbb⟩;rw[<-hxs] at he hrow hbb;obtain⟨pt,M'⟩:=hnext (by omega) m hQ' hbk hg hi';have M1:=M.below hb;refine⟨a,c,he,box_moves M hz m,hrow,_,tg',g',t',_,M',hR',low_moves M hb m,hrow,fun b hb'=>?_⟩;obtain⟨b1,b2⟩:=hbb b hb';exact⟨b2,zzG M1.size b1,fun hf=>by have:=M1.names.lt b hf;omega,fun hf=>by have:=M1.ents.lt b hf;omega,fun hf=>by have:=M1.ids.lt b hf;omega⟩
  ·rintro a c w1 ⟨R',tg',g',t',got',M',_,_,_,_⟩ W2 hb2
   obtain⟨na,nc,da,dc,hst⟩:=(M'.below hb2).docs j hjd;rw[hd] at hst;refine (slist_any hst hfine S (by omega)).mono ?_;rintro e w' ⟨v,he,hrow,hb⟩;rw[<-hxs] at hrow;have hrow0:=owns_mono hrow (zzF _);obtain⟨xa,xc,rfl⟩:=slice_any9 hrow0;exact⟨xa,xc,he,hrow0,hb⟩
  ·rintro a c w1 ⟨R',tg',g',t',got',M',hR',hB,hrow,hbb⟩ W2 hb2
   have M2:=M'.below hb2;refine (M2.keepN (by omega) (by omega) (ownsRow_keep hrow (fun g hg=>hb2.block g (ownsRow_lt hrow hg))) hbb).mono ?_;rintro e w' ⟨he,R2,M3,hB3⟩;refine⟨he,⟨R2,tg',p,lim+400,objs,ros,got',_,_,q8+1,q9,q11,M3,(L.setW hj hjd (by rw[hd];exact hR')).mono (by omega),by omega,by omega,by omega,by omega,by simpa using hw1,by simp;omega⟩,(hB.trans (hb2.mono M'.size)).trans hB3⟩
 ·refine (tree_mkdir W B.wb Sb a1 a2 a3 S T la lm lc (mkdirP nodes S).2 (mkdir_not14 _ _) _ _ w
   (g4_prog M hj hx (fun hQ hi=>p_mkdir hQ hll rfl hi hX hY S hSm))
   (g4_doc hjd hd (fun hst=>by obtain⟨na,nc,da,dc,h⟩:=hst;exact smkdir_any h hfine S (by omega)))).mono ?_
  rintro e w' ⟨he,R',tg',g',t',got',M',hR',hB⟩;exact⟨he,game_set L hlim (by omega) h9 h11 hw1 hw2 hj M' hR' (by have:=mkdir_len nodes S;show (mkdirP nodes S).1.length<=_;omega) (Nat.le_succ_of_le hl2),hB⟩
 ·refine (tree_remove W B.wb Sb a1 a2 a3 S T la lm lc (removeP nodes S).2 (remove_not14 _ _) _ _ w
   (g4_prog M hj hx (fun hQ hi=>p_remove hQ hll rfl hi hX hY S hSm))
   (g4_doc hjd hd (fun hst=>by obtain⟨na,nc,da,dc,h⟩:=hst;exact sremove_any h hfine S (by omega)))).mono ?_
  rintro e w' ⟨he,R',tg',g',t',got',M',hR',hB⟩;exact⟨he,game_set L hlim (by omega) h9 h11 hw1 hw2 hj M' hR' (by have:=remove_len nodes S;show (removeP nodes S).1.length<=_;omega) (Nat.le_succ_of_le hl2),hB⟩
 ·refine (tree_rename W B.wb Sb a1 a2 a3 S T la lm lc (renameP nodes S T).2 (rename_not14 _ _ _) _ _ w
   (g4_prog M hj hx (fun hQ hi=>p_rename hQ hll rfl hi hX hY S T hSm hTm))
   (g4_doc hjd hd (fun hst=>by obtain⟨na,nc,da,dc,h⟩:=hst;exact srename_any h hfine S T hS hT))).mono ?_
  rintro e w' ⟨he,R',tg',g',t',got',M',hR',hB⟩;exact⟨he,game_set L hlim (by omega) h9 h11 hw1 hw2 hj M' hR' (by have:=rename_len nodes S T;show (renameP nodes S T).1.length<=_;omega) (Nat.le_succ_of_le hl2),hB⟩
end
def encN (xs:List Int):List Value:=xs.map (Value.int .i64)
theorem encN_at {xs:List Int}{k:Nat}(h:k<xs.length):(encN xs)[k]? = some (.int .i64 xs[k]):=by simp[encN,zzH h]
theorem sizeOfI (w:World):(Go.sizeOf 29).run prog w=.ok 1 w:=by kernel_rfl
def IdRow (w:World)(v:Value)(L:List Int):Prop:=w.ownsRow 0 29 1 v L.length (encN L)
theorem IdRow.shape {w:World}{v:Value}{L:List Int}(h:IdRow w v L):∃a c,v=.slice a L.length c:=by
 rcases h.2 with ⟨rfl,h0⟩ | ⟨g,c,cur,rfl,_⟩
 ·exact⟨none,0,by rw[h0]⟩
 ·exact⟨_,c,rfl⟩
theorem IdRow.at_ {w:World}{a:Option Addr}{n c:Nat}{L:List Int}(h:IdRow w (.slice a n c) L){k:Nat}(hk:k<L.length):∃g,a=some ⟨g,0,none⟩/\g<w.heap.size/\w.cell? ⟨g,k,none⟩=some (.int .i64 L[k]):=by
 obtain⟨g,cap,hv⟩:=slice_of_owns h (by omega);have ha:=(Value.slice.inj hv).1;subst ha;refine⟨g,rfl,ownsRow_lt h rfl,?_⟩
 have:=World.ownsRow.cells h (g:=g) rfl k _ (encN_at hk)
 have e:(⟨g,0,none⟩:Addr).add k=⟨g,k,none⟩:=by
  cases k with
  | zero=>rfl
  | succ k=>simp[Addr.add]
 rw[e] at this;exact this
theorem cloneI_all {w:World}{v:Value}{got:List Int}(hrow:IdRow w v got)(hl:got.length<=1099511627776):
  Calls prog 201 #[v] w fun e w'=>∃v',e=.returned v'/\w'.ownsRow w.heap.size 29 1 v' got.length (encN got)/\Below w.heap.size w w':=by
 rcases hrow.2 with ⟨rfl,h0⟩ | ⟨g,c,cur,rfl,_⟩
 ·refine (AnyE.slices_Clone_nil cloneI 0 0 w).mono ?_
  rintro e w' ⟨rfl,rfl⟩;obtain rfl:got = []:=List.length_eq_zero_iff.1 h0;exact⟨_,rfl,World.ownsRow_nil _ _ _ _,Below.refl _ _⟩
 ·obtain⟨i0,hi,hz0,hz1,hz2⟩:=info_parts infoID
  refine (AnyE.slices_Clone cloneI i0 _ 1 8 hi hz0 hz1 hz2 rfl (by decide) sizeOfI g 0 got.length c (encN got) w (by simp[encN]) (by unfold maxLen;omega) (by omega) (fun j u hu=>by rw[Nat.zero_add];exact (World.ownsRow.cellAt hrow j (by have:=(List.getElem?_eq_some_iff.1 hu).1;simpa [encN] using this)).trans hu) ?_).mono ?_
  ·intro u hu
   obtain⟨x,_,rfl⟩:=List.mem_map.1 hu;rfl
  ·rintro e w' ⟨v',rfl,hr,hne,hb⟩
   exact⟨_,rfl,hr,hb⟩
theorem pfetched_all (p:Nat)(v:Value)(R:Value->World->Prop)(w:World)(c3:w.cell? ⟨p,3,none⟩=some v)
  (hc:Calls prog 201 #[v] w fun e w'=>∃v',e=.returned v'/\R v' w'):
  Calls prog 151 #[.pointer (some ⟨p,0,none⟩)] w fun e w'=>∃v',e=.returned v'/\R v' w':=by
 have HC:Hid _:=hc;clear hc;go_enter func151,ntmps151;go_wp2_with fail;refine Calls.mono HC.out ?_;rintro e w' ⟨v',rfl,hR⟩;go_wp2;go_ret;exact⟨v',rfl,hR⟩
theorem sfetched_all (s p:Nat)(R:Value->World->Prop)(w:World)(c0:w.cell? ⟨s,0,none⟩=some (.pointer (some ⟨p,0,none⟩)))
  (hc:Calls prog 151 #[.pointer (some ⟨p,0,none⟩)] w fun e w'=>∃v',e=.returned v'/\R v' w'):
  Calls prog 87 #[.pointer (some ⟨s,0,none⟩)] w fun e w'=>∃v',e=.returned v'/\R v' w':=by
 have HC:Hid _:=hc;clear hc;go_enter func87,ntmps87;go_wp2_with fail;refine Calls.mono HC.out ?_;rintro e w' ⟨v',rfl,hR⟩;go_wp2;go_ret;exact⟨v',rfl,hR⟩
theorem fetched_all {tg:Tags}{w:World}{s p:Nat}{objs:List Ob}{got:List Int}{brk:Bool}{lim:Nat}(h:SInv tg w s p objs got brk lim)(hl:lim<=1099511627776):
  Calls prog 87 #[.pointer (some ⟨s,0,none⟩)] w fun e w'=>∃v',e=.returned v'/\w'.ownsRow w.heap.size 29 1 v' got.length (encN got)/\Below w.heap.size w w':=by
 obtain⟨hfr,ft,hb,⟨a,cap,bf,bd,Df,Dd,hI⟩,hg,hs,hgl⟩:=h;have hat:=hI.pool.at_;have c3:w.cell? ⟨p,3,none⟩=some (.slice ft.a ft.n ft.c):=by unfold PoolAt at hat;simp[World.cell?,hat]
 have hrow:=hg.1;rw[hg.2.1] at hrow c3;exact sfetched_all s p _ w hI.c0 (pfetched_all p _ _ w c3 (cloneI_all hrow (by omega)))
theorem count_take {got:List Int}{x:Int}{m:Nat}(h:m<got.length):(got.take (m+1)).count x=(got.take m).count x+if got[m]=x then 1 else 0:=by
 rw[zzI h,List.count_append,List.count_singleton];by_cases e:got[m]=x <;> simp[e]
theorem fetched_walk (W s k wc:Nat)(wa:Option Addr)(got:List Int)(R:World->Prop)(w:World)(hW:W<w.heap.size)(c0:w.cell? ⟨W,0,none⟩=some (.pointer (some ⟨s,0,none⟩)))(c5:w.cell? ⟨W,5,none⟩=some (.slice wa k wc))
  (hlen:got.length<=1000000000)(hk:k<=1000000000)(hcnt:∀x,got.count x<=k)
  (hf:Calls prog 87 #[.pointer (some ⟨s,0,none⟩)] w fun e w'=>∃v',e=.returned v'/\w'.ownsRow w.heap.size 29 1 v' got.length (encN got)/\Below w.heap.size w w')
  (hpl:∀j (hj:j<got.length),∃pz:Int,0<=pz/\∀w',Below w.heap.size w w'->Calls prog 41 #[.pointer (some ⟨W,0,none⟩),.int .i64 got[j]] w' fun e w''=>e=.returned (.int .i64 pz)/\w''=w')
  (hkeep:∀w1 la c,Below w.heap.size w w1->w1.ownsRow w.heap.size 29 1 (.slice la got.length c) got.length (encN got)->Calls prog 88 #[.pointer (some ⟨W,8,none⟩),.slice la got.length c] w1 fun e w'=>e=.returned (.tuple #[])/\R w'):
  Calls prog 46 #[.pointer (some ⟨W,0,none⟩)] w fun e w'=>e=.returned (.bool true)/\R w':=by
 have HF:Hid _:=hf;have HPL:Hid _:=hpl;have HKEEP:Hid _:=hkeep;have HCNT:Hid _:=hcnt;obtain⟨n,hn⟩:∃n,n=got.length:=⟨_,rfl⟩;have HN:Hid (n=got.length):=hn;rw[<-hn] at hlen;clear hf hpl hkeep hcnt hn;go_enter func46,ntmps46;go_wp2_with fail;refine Calls.mono HF.out ?_;rintro _ w1 ⟨v,rfl,hrow,hb⟩;obtain⟨a,c,rfl⟩:=IdRow.shape (row_base0 hrow);have HROW:Hid (w1.ownsRow w.heap.size 29 1 (.slice a got.length c) got.length (encN got)):=hrow;have HB:Hid (Below w.heap.size w w1):=hb;have hW1:W<w1.heap.size:=zzA hW hb.size;have d5:=(hb.cell (p:=⟨W,5,none⟩) hW).trans c5;rw[<-HN.out];have hcell:∀j (hj:j<got.length),∃g,a=some ⟨g,0,none⟩/\g<w1.heap.size/\w1.cell? ⟨g,j,none⟩=some (.int .i64 got[j]):=fun j hj=>IdRow.at_ (row_base0 hrow) hj;have HCELL:Hid _:=hcell;clear hrow hb hcell c0 c5;go_wp2
 go_loopw [4] (fun i wr=>∃j:Nat,j<=n/\i=.int .i64 (j:Int)/\Hid (Below w1.heap.size w1 wr)) (fun i _=>n-(intOf i).toNat)
 case atStart=>exact⟨0,zzF _,rfl,Below.refl _ _⟩
 case round=>
  obtain⟨j,hj,rfl,HBR⟩:=hrel;by_cases hlt:j<n
  ·have hij:(j:Int)<(n:Int):=by omega
   have hjg:j<got.length:=by rw[<-HN.out];exact hlt
   obtain⟨g,hga,hgl,hgc⟩:=HCELL.out j hjg;obtain⟨pz,hpz,hplc⟩:=HPL.out j hjg;have HPC:Hid _:=hplc;obtain⟨x,hx⟩:∃x,x=got[j]:=⟨_,rfl⟩;rw[<-hx] at hgc;have HX:Hid (x=got[j]):=hx;subst hga;clear hx hplc;go_wp2
   go_loopw [5,6] (fun cn ki wr2=>∃m:Nat,m<=n/\ki=.int .i64 (m:Int)/\cn=.int .i64 (((got.take m).count x:Nat):Int)/\Hid (Below w1.heap.size w1 wr2)) (fun _ ki _=>n-(intOf ki).toNat)
   case atStart=>exact⟨0,zzF _,rfl,rfl,HBR⟩
   case round=>
    obtain⟨m,hm,rfl,rfl,HB2⟩:=hrel;have hgl2:g<wr.heap.size:=zzA hgl HB2.out.size;have hgc2:wr.cell? ⟨g,j,none⟩=some (.int .i64 x):=(HB2.out.cell (p:=⟨g,j,none⟩) hgl).trans hgc;by_cases hml:m<n
    ·have hmi:(m:Int)<(n:Int):=by omega
     have hmg:m<got.length:=by rw[<-HN.out];exact hml
     obtain⟨g',hg',hgl',hgm⟩:=HCELL.out m hmg;cases hg';have hgm2:wr.cell? ⟨g,m,none⟩=some (.int .i64 got[m]):=(HB2.out.cell (p:=⟨g,m,none⟩) hgl).trans hgm;obtain⟨y,hy⟩:∃y,y=got[m]:=⟨_,rfl⟩;rw[<-hy] at hgm2;have HY:Hid (y=got[m]):=hy;have HCT:Hid _:=count_take (x:=x) hmg;have hcb:(got.take m).count x<=n:=by have:=List.count_le_length (a:=x) (l:=got.take m);rw[List.length_take] at this;omega
     obtain⟨cn,hcn⟩:∃cn,cn=(got.take m).count x:=⟨_,rfl⟩;rw[<-hcn] at hcb;rw[<-hcn];have HCN:Hid (cn=(got.take m).count x):=hcn;clear hy hcn hgm;cases hyx:(y == x) with
     | true=>
      have hyx':=eq_of_beq hyx;go_wp2
      go_region
      all_goals
       go_wp2;go_roundw
       case rel=>exact⟨m+1,by omega,by go_num,by rw[HCT.out,zzD (by rw[<-HY.out];exact hyx'),<-HCN.out];go_num,below_drewN HB2.out _⟩
       case measure=>simp[intOf];omega
     | false=>
      have hyx':=ne_of_beq_false hyx;go_wp2
      go_region
      all_goals
       go_wp2;go_roundw
       case rel=>exact⟨m+1,by omega,by go_num,by rw[HCT.out,zzB (by rw[<-HY.out];exact hyx'),<-HCN.out];rfl,below_drewN HB2.out _⟩
       case measure=>simp[intOf];omega
    ·have hme:m=n:=by omega
     have hnl:decide ((m:Int)<(n:Int))=false:=zzE (by omega);have hfull:(got.take m).count x=got.count x:=by rw[List.take_of_length_le (by rw[<-HN.out];omega)]
     have hck:=HCNT.out x;rw[hfull];obtain⟨cn,hcn⟩:∃cn,cn=got.count x:=⟨_,rfl⟩;rw[<-hcn] at hck ⊢;have hW2:W<wr.heap.size:=zzA hW1 HB2.out.size;have e5:=(HB2.out.cell (p:=⟨W,5,none⟩) hW1).trans d5;have hpz':decide (pz<0)=false:=zzE (by omega);have hck':decide ((k:Int)<(cn:Int))=false:=zzE (by omega);have hplc:=HPC.out wr (HB.out.trans (HB2.out.mono HB.out.size));rw[<-HX.out] at hplc;clear hfull hcn HCELL;go_wp2_with (go_at_call 41;refine Calls.mono hplc ?_;rintro _ _ ⟨rfl,rfl⟩);go_roundw
     case rel=>exact⟨j+1,by omega,by go_num,HB2⟩
     case measure=>simp[intOf];omega
  ·have hje:j=n:=by omega
   have hnl:decide ((j:Int)<(n:Int))=false:=zzE (by omega);have hW2:W<wr.heap.size:=zzA hW1 HBR.out.size;have hrow2:wr.ownsRow w.heap.size 29 1 (.slice a got.length c) got.length (encN got):=ownsRow_keep HROW.out (fun g hg=>HBR.out.block g (ownsRow_lt HROW.out hg));have hkp:=HKEEP.out wr a c (HB.out.trans (HBR.out.mono HB.out.size)) hrow2;rw[<-HN.out] at hkp;have HKP:Hid _:=hkp;clear hrow2 hkp;go_wp2_with (go_at_call 88;refine Calls.mono HKP.out ?_;rintro _ w5 ⟨rfl,hR⟩);go_ret;exact⟨rfl,hR⟩
theorem run_append_none {P:Program}(w:World)(t ty e:TypeId)(i:TypeInfo)(ht:P.underlying t=some (.slice e))(hi:P.info? e=some i):(Builtin.append_ #[t,t] ty #[.slice none 0 0,.slice none 0 0]).run P w=.ok (.slice none 0 0) w:=by
 simp[Builtin.append_,run_underlying ht,sizeOf,typeInfo,hi,Builtin.lenOf,Builtin.firstCells]
theorem step_append_copy {P:Program}{ops:Array Oper}{o:Oper}{a:Act}{w:World}{K:Act->World->Prop}{Q:Exit->Act->World->Prop}{E:Prop}
  (hg:o.guard=none)(s x:Operand)(t:TypeId)(hop:o.op=Op.call { callee:=Callee.builtin Builtin.append,args:=#[s,x],argTypes:=#[t,t] })
  (e:TypeId)(i:TypeInfo)(z:Value)(size bytes:Nat)(h1:P.underlying t=some (.slice e))(h2:P.info? e=some i)(h3:i.zero=some z)(h4:i.size=size)(h5:i.bytes=bytes)(h6:z.cells.size=size)(h7:0<size)
  (hs:a.eval s=.slice none 0 0)(xa:Option Addr)(n c:Nat)(xs:List Value)(hx:a.eval x=.slice xa n c)(hrow:w.ownsRow 0 e size (.slice xa n c) n xs)(h1c:∀u ∈ xs,u.oneCell'=true)
  (b1:n<=maxLen)(b2:n*bytes<=140737488355328)
  (hK:∀v' w',w'.ownsRow 0 e size v' n xs->w.grownBy w' none->(v'.ownBlock=none\/v'.ownBlock=some w.heap.size)->K (a.put o.dst v') w'):
  if Region.wanted o (yielded ops a.tmps)=true then Oper.wp P o a w K Q else E:=by
 have hw:Region.wanted o (yielded ops a.tmps)=true:=by simp[Region.wanted,hg]
 rw[zzD hw];rcases hrow.2 with ⟨hv,hn⟩ | ⟨g,cap,cur,hv,_⟩
 ·cases hv
  have hrun:=run_append_none (P:=P) w t o.type e i h1 h2;unfold Oper.wp;simp[execOp,hop,resolve,invoke,builtin,hs,hx,hrun,Result.andThen];exact hK _ _ hrow ⟨rfl,rfl,rfl,zzC _,fun _ _ _=>rfl⟩ (.inl rfl)
 ·cases hv
  obtain⟨v',w',hrun,r1,r2,_,r3⟩:=run_append_own_at (P:=P) w 0 t o.type e i z size bytes h1 h2 h3 h4 h5 h6 h7 (.slice none 0 0) 0 [] (World.ownsRow_nil w _ e size) ⟨g,0,none⟩ n c xs hrow.1 (hrow.cells (g:=g) rfl) h1c (by omega) (by rw[Nat.zero_add];exact b2) (zzF _);rw[Nat.zero_add,List.nil_append] at r1;unfold Oper.wp;simp[execOp,hop,resolve,invoke,builtin,hs,hx,hrun,Result.andThen];exact hK _ _ r1 r2 r3
theorem StAt.setRest {F:Nat->Prop}{w:World}{S:Nat}{na da:Option Addr}{nc dc:Nat}{nodes:List Ent}{data:List ByteArray}{rest:List Value}(h:StAt F w S na da nc dc nodes data rest)(j:Nat)(v:Value):
  StAt F (w.setCell ⟨S,2+j,none⟩ v) S na da nc dc nodes data (rest.set j v)/\Keeps F w (w.setCell ⟨S,2+j,none⟩ v):=by
 have hne:∀g,g≠S->(w.setCell ⟨S,2+j,none⟩ v).heap[g]? = w.heap[g]?:=fun g hg=>Below.heap_setCell _ _ _ _ hg;refine⟨⟨h.fS,?_,ownsRow_keep h.rowN (fun g hg=>hne g (fun e=>?_)),ownsRow_keep h.rowD (fun g hg=>hne g (fun e=>?_)),h.fn,h.fd⟩,⟨rfl,rfl,rfl,by simp,fun k hk hn=>hne k (fun e=>hn (by rw[e];exact h.fS))⟩⟩
 ·have e2:(2+j)=j+1+1:=by omega
  simp[World.setCell,Array.getElem?_modify,h.hS,e2]
 ·subst e;exact owns_ne_cells h.rowN h.hS (by decide) hg.symm
 ·subst e;exact owns_ne_cells h.rowD h.hS (by decide) hg.symm
end Go.Proofs.YtlgidcmmgohagaaGreat
