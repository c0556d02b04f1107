/-
  What is proved here: where all on a way has been fetched nothing more is; what the maps hold behind a change in a directory is what stands in the tree. something is put into a directory of the tree, or taken ..
-/
import Derived.Test.YtajopoddmfdejaaGreatRetM13
namespace Go.Proofs.YtajopoddmfdejaaGreat
open Go.RowKit Go.Sort Go.Shelf
set_option linter.unusedVariables false
set_option maxRecDepth 100000
set_option maxHeartbeats 16000000
def KeptWay (objs:List Ob)(t:LT)(fs:FS)(p:List ByteArray):Prop:=∀ x id,x <+: p->t.at objs x=some (.dir id)->fs.kD id=true
theorem KeptWay.mono {objs:List Ob}{t:LT}{fs fs':FS}{p:List ByteArray}(h:KeptWay objs t fs p)(hk:∀ x,fs.kD x=true->fs'.kD x=true):KeptWay objs t fs' p:=fun x id hx ha=>hk _ (h x id hx ha)
theorem KeptWay.pre {objs:List Ob}{t:LT}{fs:FS}{p q:List ByteArray}(h:KeptWay objs t fs p)(hq:q <+: p):KeptWay objs t fs q:=fun x id hx ha=>h x id (hx.trans hq) ha
theorem kidsG_kept {objs:List Ob}{fs:FS}{c:LT}{ks:Kids}(hk:kids objs c=some ks)(h:∀ id,c=.dir id->fs.kD id=true):kidsG objs fs c=(fs,0,ks):=by
 cases c with
 | file i=>simp[kids] at hk
 | held f=>simp[kids] at hk
 | own es=>simp only[kids,Option.some.injEq] at hk;subst hk;rfl
 | dir id=>
  have h1:fs.dirG id=(fs,true):=by unfold FS.dirG;rw[if_pos (h id rfl)]
  simp only[kids,Option.some.injEq] at hk
  subst hk
  have e1:kidsG objs fs (.dir id)=if (fs.dirG id).2 then ((fs.dirG id).1,0,(entsOf objs id).map kidOf) else ((fs.dirG id).1,14,[]):=rfl
  rw[e1,h1];rfl
theorem at_snoc {objs:List Ob}{t:LT}{q:List ByteArray}{n:ByteArray}{c:LT}(h:t.at objs (q ++ [n])=some c):∃ d ks,t.at objs q=some d/\kids objs d=some ks/\pickK ks n=some c:=by
 rw[at_append] at h
 cases hd:t.at objs q with
 | none=>rw[hd] at h;simp at h
 | some d=>
  rw[hd,Option.bind_some,at_cons] at h
  cases hk:kids objs d with
  | none=>rw[hk] at h;simp at h
  | some ks=>
   rw[hk,Option.bind_some] at h
   cases hp:pickK ks n with
   | none=>rw[hp] at h;simp at h
   | some x=>rw[hp,Option.bind_some,at_nil] at h;cases h;exact⟨d,ks,rfl,hk,hp⟩
theorem find_kept {objs:List Ob}{t:LT}{fs:FS}:∀ {r:List ByteArray} {c:LT},t.at objs r.reverse=some c->(∀ x id,x <+: r.reverse->x≠r.reverse->t.at objs x=some (.dir id)->fs.kD id=true)->findR objs t fs r=(fs,0,c)
 | [],c,ha,hk=>by rw[List.reverse_nil,at_nil] at ha;cases ha;rfl
 | n :: r,c,ha,hk=>by
  rw[List.reverse_cons] at ha hk
  obtain⟨d,ks,h1,h2,h3⟩:=at_snoc ha
  have hne:∀ x,x <+: r.reverse->x≠r.reverse ++ [n]:=fun x hx e=>by
   have:=hx.length_le
   rw[e] at this;simp at this;omega
  have ih:=find_kept h1 (fun x id hx hxe hxa=>hk x id (hx.trans (List.prefix_append _ _)) (hne x hx) hxa)
  rw[findR]
  simp only[ih]
  rw[if_neg (by decide),kidsG_kept h2 (fun id hd=>hk r.reverse id (List.prefix_append _ _) (hne _ (List.prefix_refl _)) (by rw[h1,hd]))]
  simp only
  rw[if_neg (by decide),h3]
theorem look_kept {objs:List Ob}{t:LT}{fs:FS}{r:List ByteArray}{c:LT}{ks:Kids}(ha:t.at objs r.reverse=some c)(hk:kids objs c=some ks)(h:KeptWay objs t fs r.reverse):lookR objs t fs r=(fs,0,ks):=by
 unfold lookR
 simp only[find_kept ha (fun x id hx _ hxa=>h x id hx hxa)]
 rw[if_neg (by decide)]
 exact kidsG_kept hk (fun id hd=>h _ id (List.prefix_refl _) (by rw[ha,hd]))
theorem kidsG_kids {objs:List Ob}{fs:FS}{c:LT}(h:(kidsG objs fs c).2.1=0):kids objs c=some (kidsG objs fs c).2.2/\fs.Next (kidsG objs fs c).1/\∀ id,c=.dir id->(kidsG objs fs c).1.kD id=true:=by
 cases c with
 | file i=>simp[kidsG] at h
 | held f=>simp[kidsG] at h
 | own es=>exact⟨rfl,FS.Next.refl _,fun id hd=>by cases hd⟩
 | dir id=>
  have e1:kidsG objs fs (.dir id)=if (fs.dirG id).2 then ((fs.dirG id).1,0,(entsOf objs id).map kidOf) else ((fs.dirG id).1,14,[]):=rfl
  rw[e1] at h ⊢
  rcases fs.dirG_cases id with ⟨h1,h2,h3⟩ | ⟨h1,_⟩
  ·rw[if_pos h1]
   exact⟨rfl,h2,fun id' hd=>by cases hd;exact h3⟩
  ·rw[h1] at h;simp at h
theorem kept_of_find {objs:List Ob}{t:LT}{fs:FS}:∀ {r:List ByteArray},(findR objs t fs r).2.1=0->t.at objs r.reverse=some (findR objs t fs r).2.2/\fs.Next (findR objs t fs r).1/\∀ x id,x <+: r.reverse->x≠r.reverse->t.at objs x=some (.dir id)->(findR objs t fs r).1.kD id=true
 | [],_=>⟨at_nil _ _,FS.Next.refl _,fun x id hx hxe=>absurd (by simpa using hx) hxe⟩
 | n :: r,h=>by
  rw[findR] at h ⊢
  by_cases h0:(findR objs t fs r).2.1≠0
  ·simp only[if_pos h0] at h;exact absurd h h0
  ·simp only[if_neg h0] at h ⊢
   obtain⟨i1,i2,i3⟩:=kept_of_find (Decidable.not_not.1 h0)
   by_cases hb:(kidsG objs (findR objs t fs r).1 (findR objs t fs r).2.2).2.1≠0
   ·rw[if_pos hb] at h;exact absurd h hb
   ·rw[if_neg hb] at h ⊢
    obtain⟨k1,k2,k3⟩:=kidsG_kids (Decidable.not_not.1 hb)
    cases hp:pickK (kidsG objs (findR objs t fs r).1 (findR objs t fs r).2.2).2.2 n with
    | none=>rw[hp] at h;simp at h
    | some c=>
     rw[hp] at h
     simp only
     refine⟨?_,i2.trans k2,fun x id hx hxe hxa=>?_⟩
     ·rw[List.reverse_cons,at_append,i1,Option.bind_some,at_cons,k1,Option.bind_some,hp,Option.bind_some,at_nil]
     ·rw[List.reverse_cons] at hx hxe
      rcases prefix_snoc hx with hx | hx
      ·by_cases hxr:x=r.reverse
       ·subst hxr
        rw[i1] at hxa
        exact k3 id (Option.some.inj hxa)
       ·exact k2.2.2.2.2 id (i3 x id hx hxr hxa)
      ·exact absurd hx hxe
theorem kept_of_look {objs:List Ob}{t:LT}{fs:FS}{r:List ByteArray}(h:(lookR objs t fs r).2.1=0):
  (∃ d,t.at objs r.reverse=some d/\kids objs d=some (lookR objs t fs r).2.2)/\fs.Next (lookR objs t fs r).1/\KeptWay objs t (lookR objs t fs r).1 r.reverse:=by
 unfold lookR at h ⊢
 by_cases h0:(findR objs t fs r).2.1≠0
 ·simp only[if_pos h0] at h;exact absurd h h0
 ·simp only[if_neg h0] at h ⊢
  obtain⟨i1,i2,i3⟩:=kept_of_find (Decidable.not_not.1 h0)
  obtain⟨k1,k2,k3⟩:=kidsG_kids h
  refine⟨⟨_,i1,k1⟩,i2.trans k2,fun x id hx hxa=>?_⟩
  by_cases hxr:x=r.reverse
  ·subst hxr
   rw[i1] at hxa
   exact k3 id (Option.some.inj hxa)
  ·exact k2.2.2.2.2 id (i3 x id hx hxr hxa)
def curK (objs:List Ob)(t:LT)(q:List ByteArray):List Ent:=(((t.at objs q).bind (kids objs)).getD []).map entOf
theorem zero_none {es:List Ent}{n:ByteArray}(h:∀ e ∈ es,e.1=n->e.2.2=0):zeroK es n=es:=by
 unfold zeroK
 conv=>rhs;rw[<- List.map_id es]
 refine List.map_congr_left fun e he=>?_
 show (if e.1=n then _ else _)=e
 split
 ·next hn=>have:=h e he hn;obtain⟨a,b,c⟩:=e;simp only at this;subst this;rfl
 ·rfl
theorem pick_unique {ks:Kids}(hr:RisingK ks){n:ByteArray}{c:LT}(hp:pickK ks n=some c){x:ByteArray×LT}(hx:x ∈ ks)(hn:x.1=n):x.2=c:=by
 induction ks with
 | nil=>simp at hx
 | cons y r ih=>
  unfold pickK at hp
  by_cases hy:y.1=n
  ·rw[List.find?_cons_of_pos (by simpa using hy)] at hp
   rcases List.mem_cons.1 hx with rfl | hx
   ·simpa using hp
   ·have:=(List.pairwise_cons.1 hr).1 x hx
    rw[hy,hn,cmpN_self] at this;omega
  ·rw[List.find?_cons_of_neg (by simpa using hy)] at hp
   rcases List.mem_cons.1 hx with rfl | hx
   ·exact absurd hn hy
   ·exact ih hr.tail hp hx
theorem ownWay_flat {objs:List Ob}{t:LT}{ft:FT}{fs:FS}(hS:Sound objs)(hF:Flat objs t ft){n:Nat}(hok:LTok objs n t){p:List ByteArray}{d:LT}{ks:Kids}(ha:t.at objs p=some d)(hk:kids objs d=some ks)(hw:KeptWay objs t fs p):OwnWay objs fs ft (curK objs t) p:=by
 have dir:∀ q,q <+: p->∃ c kq,t.at objs q=some c/\kids objs c=some kq:=fun q hq=>by
  obtain⟨s,rfl⟩:=hq
  cases s with
  | nil=>rw[List.append_nil] at ha;exact⟨d,ks,ha,hk⟩
  | cons m s=>
   rw[show q++m :: s=(q ++ [m])++s by simp,at_append] at ha
   cases hx:t.at objs (q ++ [m]) with
   | none=>rw[hx] at ha;simp at ha
   | some y=>obtain⟨c,kq,h1,h2,_⟩:=at_snoc hx;exact⟨c,kq,h1,h2⟩
 refine⟨fun q hq=>?_,fun q hq es he=>?_,fun q m hq hs=>?_,fun hs=>?_⟩
 ·obtain⟨c,kq,h1,h2⟩:=dir q hq
  have:=look_kept (r:=q.reverse) (by rw[List.reverse_reverse];exact h1) h2 (by rw[List.reverse_reverse];exact hw.pre hq)
  rw[flat_look hS hF hok fs q.reverse,this]
  unfold curK
  rw[h1,Option.bind_some,h2];rfl
 ·have:=hF.od q
  rw[he] at this
  unfold curK
  cases hc:t.at objs q with
  | none=>rw[hc] at this;simp[odOf] at this
  | some c=>
   rw[hc] at this
   cases c with
   | own es'=>simp only[odOf,Option.some.injEq] at this;rw[this];rfl
   | file i=>simp[odOf] at this
   | held f=>simp[odOf] at this
   | dir i=>simp[odOf] at this
 ·rw[hF.od] at hs
  cases hc:t.at objs (q ++ [m]) with
  | none=>rw[hc] at hs;simp[odOf] at hs
  | some c=>
   rw[hc] at hs
   obtain⟨es',rfl⟩:∃ es',c=.own es':=by cases c <;> first | exact⟨_,rfl⟩ | (simp[odOf] at hs)
   obtain⟨c',kq,h1,h2,h3⟩:=at_snoc hc
   have hc':=(ok_at hS _ hok h1).2.1
   have hmem:=pick_mem h3
   obtain⟨es'',rfl⟩:∃ es'',c'=.own es'':=by
    cases c' with
    | own es=>exact⟨es,rfl⟩
    | file i=>simp[kids] at h2
    | held f=>simp[kids] at h2
    | dir i=>
     simp only[kids,Option.some.injEq] at h2
     subst h2
     obtain⟨e,_,he⟩:=List.mem_map.1 hmem
     have:=congrArg Prod.snd he
     unfold kidOf ltOf at this
     by_cases h2:e.2.1=2 <;> simp[h2] at this
   simp only[kids,Option.some.injEq] at h2
   subst h2
   refine⟨by rw[hF.od,h1];rfl,?_⟩
   unfold curK
   rw[h1]
   refine zero_none fun e he hn=>?_
   obtain⟨x,hx,rfl⟩:=List.mem_map.1 he
   have hr:=(ok_kids hS hc' rfl).1
   have:=pick_unique hr h3 hx hn
   show x.2.id=0
   rw[this];rfl
 ·rw[hF.od,at_nil] at hs
  rw[hF.root]
  cases t <;> first | rfl | (simp[odOf] at hs)
theorem flat_mod {objs:List Ob}{t:LT}{ft ft':FT}{fs:FS}(hS:Sound objs)(hF:Flat objs t ft){n:Nat}(hok:LTok objs n t){q:List ByteArray}{d:LT}{ks:Kids}(ha:t.at objs q=some d)(hk:kids objs d=some ks)(f:Kids->Kids)
  (hroot:ft'.root=0)(hod:∀ x,¬ q <+: x->ft'.od x=if x <+: q then some (zK (curK objs t) q x) else ft.od x)(hof:∀ x,¬ q <+: x->ft'.of x=ft.of x)
  (hq:ft'.od q=some ((f ks).map entOf))(hq':ft'.of q=none)
  (hb:∀ m r,ft'.od (q++m :: r)=odOf ((pickK (f ks) m).bind fun c=>c.at objs r))(hb':∀ m r,ft'.of (q++m :: r)=ofOf ((pickK (f ks) m).bind fun c=>c.at objs r)):
  Flat objs (modG objs f q t) ft':=by
 obtain⟨m1,m2⟩:=at_mod objs f q t d ks ha hk
 have key:∀ x,ft'.od x=odOf ((modG objs f q t).at objs x)/\ft'.of x=ofOf ((modG objs f q t).at objs x):=by
  intro x
  by_cases hqx:q <+: x
  ·obtain⟨s,rfl⟩:=hqx
   cases s with
   | nil=>rw[List.append_nil,m2,hq,hq'];exact⟨rfl,rfl⟩
   | cons m r=>rw[m1,hb,hb'];exact⟨rfl,rfl⟩
  ·rw[hod x hqx,hof x hqx]
   by_cases hxq:x <+: q
   ·rw[if_pos hxq]
    obtain⟨m,hm,hxm⟩:=prefix_get hxq (fun e=>hqx (e ▸ List.prefix_refl _))
    obtain⟨r,hr⟩:=hxm
    have hr':q=x++m :: r:=by rw[<- hr];simp
    have ha':=ha
    rw[hr'] at ha'
    obtain⟨dq,kq,h1,h2,h3⟩:=at_mod_way objs f x m r t d ha'
    rw[<- hr'] at h3
    rw[h3]
    have hkindx:dq.kind=2:=by cases dq <;> first | rfl | (simp[kids] at h2)
    refine⟨?_,?_⟩
    ·show some _=some _
     congr 1
     unfold zK curK
     rw[hm,h1,Option.bind_some,h2,Option.getD_some]
     show List.map (fun e:Ent=>if e.1=m then (e.1,e.2.1,(0:Int)) else e) (List.map entOf kq)=_
     rw[List.map_map,List.map_map]
     refine List.map_congr_left fun y hy=>?_
     show (if y.1=m then (y.1,y.2.kind,(0:Int)) else entOf y)=entOf (if y.1=m then (y.1,modG objs f r y.2) else y)
     by_cases hym:y.1=m
     ·rw[if_pos hym,if_pos hym]
      have hkind:y.2.kind=2:=by
       rw[at_append,h1,Option.bind_some,at_cons,h2,Option.bind_some] at ha'
       cases hc:pickK kq m with
       | none=>rw[hc] at ha';simp at ha'
       | some c=>
        rw[hc,Option.bind_some] at ha'
        have hdq:=(ok_at hS _ hok h1).2.1
        rw[pick_unique (ok_kids hS hdq h2).1 hc hy hym]
        cases r with
        | nil=>rw[at_nil] at ha';obtain rfl:=Option.some.inj ha';cases c <;> first | rfl | (simp[kids] at hk)
        | cons z r=>
         rw[at_cons] at ha'
         cases c <;> first | rfl | (simp[kids] at ha')
      rw[hkind]
      cases r <;> rfl
     ·rw[if_neg hym,if_neg hym]
    ·rw[hF.of x,h1]
     cases dq <;> first | rfl | (simp[kids] at h2)
   ·rw[if_neg hxq,at_mod_other objs f q x t d ha hxq hqx]
    exact⟨hF.od x,hF.of x⟩
 refine⟨?_,?_,fun x=>(key x).1,fun x=>(key x).2⟩
 ·cases q <;> rfl
 ·rw[hroot];cases q <;> rfl
theorem map_ent (ks:Kids):ks.map entOf=mapK (fun x=>(x.2.kind,x.2.id)) ks:=rfl
theorem mapK_put {α β:Type}(f:ByteArray×α->β)(es:List (ByteArray×α))(n:ByteArray)(c:α):mapK f (putK es n c)=putK (mapK f es) n (f (n,c)):=by
 unfold putK
 rw[mapK_there,mapK_idx]
 unfold mapK
 split
 ·rw[List.map_set]
 ·simp[List.map_take,List.map_drop]
theorem ent_put (ks:Kids)(n:ByteArray)(c:LT):(putK ks n c).map entOf=putK (ks.map entOf) n (c.kind,c.id):=by rw[map_ent,mapK_put,<- map_ent]
theorem ent_drop (ks:Kids)(n:ByteArray):(dropK ks n).map entOf=dropK (ks.map entOf) n:=by rw[map_ent,mapK_drop,<- map_ent]
theorem there_ent (ks:Kids)(n:ByteArray):thereK (ks.map entOf) n=thereK ks n:=by rw[map_ent,mapK_there]
theorem pick_put {ks:Kids}(h:RisingK ks)(n:ByteArray)(c:LT)(m:ByteArray):pickK (putK ks n c) m=if m=n then some c else pickK ks m:=getK_put h m
theorem pick_drop {ks:Kids}(h:RisingK ks){n:ByteArray}(ht:thereK ks n=true)(m:ByteArray):pickK (dropK ks n) m=if m=n then none else pickK ks m:=getK_drop h ht m
theorem pick_there {ks:Kids}(h:RisingK ks)(n:ByteArray):(pickK ks n).isSome=thereK ks n:=by
 rw[pickK_getK,getK_there h]
 cases ht:thereK ks n with
 | false=>simp
 | true=>
  have:=thereK_lt ht
  simp[List.getElem?_eq_getElem this]
theorem cur_at {objs:List Ob}{t d:LT}{q:List ByteArray}{ks:Kids}(ha:t.at objs q=some d)(hk:kids objs d=some ks):curK objs t q=ks.map entOf:=by
 unfold curK;rw[ha,Option.bind_some,hk];rfl
theorem pre_snoc_of {q x:List ByteArray}{n:ByteArray}(h:q ++ [n] <+: x):q <+: x:=(List.prefix_append q [n]).trans h
theorem flat_put {objs:List Ob}{t:LT}{ft ft':FT}{fs:FS}(hS:Sound objs)(hF:Flat objs t ft){k:Nat}(hok:LTok objs k t){q:List ByteArray}{d:LT}{ks:Kids}(ha:t.at objs q=some d)(hk:kids objs d=some ks)(n:ByteArray)(c:LT)
  (hroot:ft'.root=0)(hod:∀ x,¬ (q ++ [n]) <+: x->ft'.od x=if x=q then some (putK (ks.map entOf) n (c.kind,c.id)) else if x <+: q then some (zK (curK objs t) q x) else ft.od x)
  (hof:∀ x,¬ (q ++ [n]) <+: x->ft'.of x=ft.of x)(hb:∀ r,ft'.od (q++n :: r)=odOf (c.at objs r))(hb':∀ r,ft'.of (q++n :: r)=ofOf (c.at objs r)):
  Flat objs (modG objs (fun ks=>putK ks n c) q t) ft':=by
 have hr:=(ok_kids hS (ok_at hS _ hok ha).2.1 hk).1
 have hqn:¬ (q ++ [n]) <+: q:=fun h=>by have:=h.length_le;simp at this;omega
 have hofq:ft.of q=none:=by rw[hF.of,ha];cases d <;> first | rfl | (simp[kids] at hk)
 refine flat_mod hS (fs:=fs) hF hok ha hk _ hroot (fun x hx=>?_) (fun x hx=>hof x (fun h=>hx (pre_snoc_of h))) ?_ ?_ (fun m r=>?_) (fun m r=>?_)
 ·rw[hod x (fun h=>hx (pre_snoc_of h)),if_neg (fun e:x=q=>hx (by rw[e];exact List.prefix_refl _))]
 ·rw[hod q hqn,if_pos rfl,ent_put]
 ·rw[hof q hqn,hofq]
 ·rw[pick_put hr]
  by_cases hm:m=n
  ·subst hm;rw[if_pos rfl,Option.bind_some];exact hb r
  ·have hx:¬ (q ++ [n]) <+: (q++m :: r):=fun h=>by
    rw[List.prefix_append_right_inj,List.cons_prefix_cons] at h;exact hm h.1.symm
   rw[if_neg hm,hod _ hx,if_neg (by simp),if_neg (fun h=>by have:=h.length_le;simp at this;omega),hF.od,at_append,ha,Option.bind_some,at_cons,hk,Option.bind_some]
 ·rw[pick_put hr]
  by_cases hm:m=n
  ·subst hm;rw[if_pos rfl,Option.bind_some];exact hb' r
  ·have hx:¬ (q ++ [n]) <+: (q++m :: r):=fun h=>by
    rw[List.prefix_append_right_inj,List.cons_prefix_cons] at h;exact hm h.1.symm
   rw[if_neg hm,hof _ hx,hF.of,at_append,ha,Option.bind_some,at_cons,hk,Option.bind_some]
theorem flat_drop {objs:List Ob}{t:LT}{ft ft':FT}{fs:FS}(hS:Sound objs)(hF:Flat objs t ft){k:Nat}(hok:LTok objs k t){q:List ByteArray}{d:LT}{ks:Kids}(ha:t.at objs q=some d)(hk:kids objs d=some ks)(n:ByteArray)(ht:thereK ks n=true)
  (hroot:ft'.root=0)(hod:∀ x,¬ (q ++ [n]) <+: x->ft'.od x=if x=q then some (dropK (ks.map entOf) n) else if x <+: q then some (zK (curK objs t) q x) else ft.od x)
  (hof:∀ x,¬ (q ++ [n]) <+: x->ft'.of x=ft.of x)(hb:∀ r,ft'.od (q++n :: r)=none)(hb':∀ r,ft'.of (q++n :: r)=none):
  Flat objs (modG objs (fun ks=>dropK ks n) q t) ft':=by
 have hr:=(ok_kids hS (ok_at hS _ hok ha).2.1 hk).1
 have hqn:¬ (q ++ [n]) <+: q:=fun h=>by have:=h.length_le;simp at this;omega
 have hofq:ft.of q=none:=by rw[hF.of,ha];cases d <;> first | rfl | (simp[kids] at hk)
 refine flat_mod hS (fs:=fs) hF hok ha hk _ hroot (fun x hx=>?_) (fun x hx=>hof x (fun h=>hx (pre_snoc_of h))) ?_ ?_ (fun m r=>?_) (fun m r=>?_)
 ·rw[hod x (fun h=>hx (pre_snoc_of h)),if_neg (fun e:x=q=>hx (by rw[e];exact List.prefix_refl _))]
 ·rw[hod q hqn,if_pos rfl,ent_drop]
 ·rw[hof q hqn,hofq]
 ·rw[pick_drop hr ht]
  by_cases hm:m=n
  ·subst hm;rw[if_pos rfl];exact hb r
  ·have hx:¬ (q ++ [n]) <+: (q++m :: r):=fun h=>by
    rw[List.prefix_append_right_inj,List.cons_prefix_cons] at h;exact hm h.1.symm
   rw[if_neg hm,hod _ hx,if_neg (by simp),if_neg (fun h=>by have:=h.length_le;simp at this;omega),hF.od,at_append,ha,Option.bind_some,at_cons,hk,Option.bind_some]
 ·rw[pick_drop hr ht]
  by_cases hm:m=n
  ·subst hm;rw[if_pos rfl];exact hb' r
  ·have hx:¬ (q ++ [n]) <+: (q++m :: r):=fun h=>by
    rw[List.prefix_append_right_inj,List.cons_prefix_cons] at h;exact hm h.1.symm
   rw[if_neg hm,hof _ hx,hF.of,at_append,ha,Option.bind_some,at_cons,hk,Option.bind_some]
theorem mapK_mem {α:Type}{es:List (ByteArray×α)}{n:ByteArray}{c:α}{x:ByteArray×α}(h:x ∈ putK es n c):x=(n,c)\/x ∈ es:=by
 unfold putK at h
 split at h
 ·rcases List.mem_or_eq_of_mem_set h with h | h
  ·exact .inr h
  ·exact .inl h
 ·rcases List.mem_append.1 h with h | h
  ·exact .inr (List.mem_of_mem_take h)
  ·rcases List.mem_cons.1 h with h | h
   ·exact .inl h
   ·exact .inr (List.mem_of_mem_drop h)
theorem dropK_mem {α:Type}{es:List (ByteArray×α)}{n:ByteArray}{x:ByteArray×α}(h:x ∈ dropK es n):x ∈ es:=List.mem_of_mem_eraseIdx h
theorem ok_own {objs:List Ob}{n:Nat}{es:Kids}(hr:RisingK es)(hl:es.length<=16)(h:∀ x ∈ es,validB x.1=true/\∃ m,n=m+1/\LTok objs m x.2):LTok objs n (.own es):=by
 cases n with
 | zero=>
  rw[LTok]
  cases es with
  | nil=>rfl
  | cons x r=>obtain⟨_,m,hm,_⟩:=h x (List.mem_cons_self ..);omega
 | succ k=>
  rw[LTok]
  refine⟨hr,hl,fun x hx=>?_⟩
  obtain⟨hv,m,hm,hx⟩:=h x hx
  obtain rfl:k=m:=by omega
  exact⟨hv,hx⟩
theorem rising_map {ks:Kids}(h:RisingK ks)(n:ByteArray)(g:LT->LT):RisingK (ks.map fun x=>if x.1=n then (x.1,g x.2) else x):=by
 unfold RisingK at h ⊢
 rw[List.pairwise_map]
 refine h.imp fun {a b} hab=>?_
 have e:∀ x:ByteArray×LT,(if x.1=n then (x.1,g x.2) else x).1=x.1:=fun x=>by split <;> rfl
 rw[e,e];exact hab
theorem ok_mod {objs:List Ob}(hS:Sound objs)(f:Kids->Kids):∀ (q:List ByteArray) {n:Nat} {t d:LT} {ks:Kids},LTok objs n t->t.at objs q=some d->kids objs d=some ks->LTok objs (n-q.length) (.own (f ks))->LTok objs n (modG objs f q t)
 | [],n,t,d,ks,hok,ha,hk,h=>by
  rw[at_nil] at ha;cases ha
  rw[modG,hk];simpa using h
 | m :: q,n,t,d,ks,hok,ha,hk,h=>by
  rw[at_cons] at ha
  cases hkt:kids objs t with
  | none=>rw[hkt] at ha;simp at ha
  | some es=>
   rw[hkt,Option.bind_some] at ha
   cases hc:pickK es m with
   | none=>rw[hc] at ha;simp at ha
   | some c=>
    rw[hc,Option.bind_some] at ha
    obtain⟨h1,h2,h3⟩:=ok_kids hS hok hkt
    rw[modG,hkt,Option.getD_some]
    refine ok_own (rising_map h1 m _) (by simpa using h2) (fun x hx=>?_)
    obtain⟨y,hy,rfl⟩:=List.mem_map.1 hx
    obtain⟨hv,j,rfl,hj⟩:=h3 y hy
    by_cases hym:y.1=m
    ·rw[if_pos hym]
     refine⟨hv,j,rfl,?_⟩
     have hyc:=pick_unique h1 hc hy hym
     rw[hyc] at hj ⊢
     exact ok_mod hS f q hj ha hk (by rw[List.length_cons,show j+1-(q.length+1)=j-q.length by omega] at h;exact h)
    ·rw[if_neg hym];exact⟨hv,j,rfl,hj⟩
theorem held_mod {objs:List Ob}(f:Kids->Kids){q:List ByteArray}{t d:LT}{ks:Kids}(ha:t.at objs q=some d)(hk:kids objs d=some ks){x:List ByteArray}{b:Nat}(h:(modG objs f q t).at objs x=some (.held b)):
  (∃ m r,x=q++m :: r/\((pickK (f ks) m).bind fun c=>c.at objs r)=some (.held b))\/(¬ q <+: x/\t.at objs x=some (.held b)):=by
 obtain⟨m1,m2⟩:=at_mod objs f q t d ks ha hk
 by_cases hqx:q <+: x
 ·obtain⟨s,rfl⟩:=hqx
  cases s with
  | nil=>rw[List.append_nil,m2] at h;cases h
  | cons m r=>rw[m1] at h;exact .inl ⟨m,r,rfl,h⟩
 ·refine .inr ⟨hqx,?_⟩
  by_cases hxq:x <+: q
  ·obtain⟨m,hm,hxm⟩:=prefix_get hxq (fun e=>hqx (e ▸ List.prefix_refl _))
   obtain⟨r,hr⟩:=hxm
   have hr':q=x++m :: r:=by rw[<- hr];simp
   rw[hr'] at ha h
   obtain⟨dq,kq,h1,h2,h3⟩:=at_mod_way objs f x m r t d ha
   rw[h3] at h;cases h
  ·rw[at_mod_other objs f q x t d ha hxq hqx] at h;exact h
def putF (objs:List Ob)(fs:FS)(ft:FT)(q:List ByteArray)(n:ByteArray)(v:Int×Int):FT:=
 let ft1:=claimF objs fs ft q.reverse
 let es:=(ft1.od q).getD []
 if thereK es n then { root:=ft1.root,od:=upd (upd ft1.od q (some (putK es n v))) (q ++ [n]) none,of:=upd ft1.of (q ++ [n]) none }
 else { ft1 with od:=upd ft1.od q (some (putK es n v)) }
def takeF (objs:List Ob)(fs:FS)(ft:FT)(q:List ByteArray)(n:ByteArray):FT:=
 let ft1:=claimF objs fs ft q.reverse
 { ft1 with od:=upd ft1.od q (some (dropK ((ft1.od q).getD []) n)) }
def forgetF (ft:FT)(p:List ByteArray):FT:={ ft with od:=upd ft.od p none,of:=upd ft.of p none }
def carryG {β:Type}(f:List ByteArray->Option β)(src dst:List ByteArray):List ByteArray->Option β:=fun x=>if dst <+: x then f (src++x.drop dst.length) else if src <+: x then none else f x
def carryF (ft:FT)(src dst:List ByteArray):FT:={ ft with od:=carryG ft.od src dst,of:=carryG ft.of src dst }
theorem snoc_ne (q:List ByteArray)(n:ByteArray):q ++ [n]≠q:=fun e=>by have:=congrArg List.length e;simp at this
theorem claim_at {objs:List Ob}{fs:FS}{ft:FT}{K:List ByteArray->List Ent}{q:List ByteArray}(hw:OwnWay objs fs ft K q):
  (claimF objs fs ft q.reverse).root=0/\(claimF objs fs ft q.reverse).of=ft.of/\(claimF objs fs ft q.reverse).od q=some (K q)/\∀ x,x≠q->(claimF objs fs ft q.reverse).od x=if x <+: q then some (zK K q x) else ft.od x:=by
 obtain⟨h1,h2,h3⟩:=claim_maps (r:=q.reverse) (by rw[List.reverse_reverse];exact hw)
 rw[List.reverse_reverse] at h3
 refine⟨h1,h2,?_,fun x _=>h3 x⟩
 rw[h3,if_pos (List.prefix_refl _)]
 unfold zK
 rw[List.getElem?_eq_none (Nat.le_refl _)]
theorem putF_maps {objs:List Ob}{fs:FS}{ft:FT}{K:List ByteArray->List Ent}{q:List ByteArray}(hw:OwnWay objs fs ft K q)(n:ByteArray)(v:Int×Int):
  (putF objs fs ft q n v).root=0/\(∀ x,x≠q ++ [n]->(putF objs fs ft q n v).od x=if x=q then some (putK (K q) n v) else if x <+: q then some (zK K q x) else ft.od x)/\(∀ x,x≠q ++ [n]->(putF objs fs ft q n v).of x=ft.of x)/\
  (putF objs fs ft q n v).od (q ++ [n])=(if thereK (K q) n then none else ft.od (q ++ [n]))/\(putF objs fs ft q n v).of (q ++ [n])=(if thereK (K q) n then none else ft.of (q ++ [n])):=by
 obtain⟨h1,h2,h3,h4⟩:=claim_at hw
 have hnp:¬ (q ++ [n]) <+: q:=fun h=>by have:=h.length_le;simp at this;omega
 unfold putF
 simp only[h3,Option.getD_some]
 by_cases ht:thereK (K q) n=true
 ·rw[if_pos ht,if_pos ht,if_pos ht]
  refine⟨h1,fun x hx=>?_,fun x hx=>?_,upd_same _ _ _,upd_same _ _ _⟩
  ·show upd (upd _ _ _) _ _ x=_
   rw[upd_other hx]
   by_cases hq:x=q
   ·subst hq;rw[upd_same,if_pos rfl]
   ·rw[upd_other hq,if_neg hq,h4 x hq]
  ·show upd _ _ _ x=_
   rw[upd_other hx,h2]
 ·rw[if_neg ht,if_neg ht,if_neg ht]
  refine⟨h1,fun x hx=>?_,fun x hx=>by show (claimF objs fs ft q.reverse).of x=_;rw[h2],?_,by show (claimF objs fs ft q.reverse).of _=_;rw[h2]⟩
  ·show upd _ _ _ x=_
   by_cases hq:x=q
   ·subst hq;rw[upd_same,if_pos rfl]
   ·rw[upd_other hq,if_neg hq,h4 x hq]
  ·show upd _ _ _ (q ++ [n])=_
   rw[upd_other (snoc_ne q n),h4 _ (snoc_ne q n),if_neg hnp]
theorem takeF_maps {objs:List Ob}{fs:FS}{ft:FT}{K:List ByteArray->List Ent}{q:List ByteArray}(hw:OwnWay objs fs ft K q)(n:ByteArray):
  (takeF objs fs ft q n).root=0/\(∀ x,(takeF objs fs ft q n).od x=if x=q then some (dropK (K q) n) else if x <+: q then some (zK K q x) else ft.od x)/\(takeF objs fs ft q n).of=ft.of:=by
 obtain⟨h1,h2,h3,h4⟩:=claim_at hw
 unfold takeF
 simp only[h3,Option.getD_some]
 refine⟨h1,fun x=>?_,h2⟩
 by_cases hq:x=q
 ·subst hq;rw[upd_same,if_pos rfl]
 ·rw[upd_other hq,if_neg hq,h4 x hq]
theorem OwnWay.congr {objs:List Ob}{fs:FS}{ft ft':FT}{K:List ByteArray->List Ent}{q:List ByteArray}(h:OwnWay objs fs ft K q)(hr:ft'.root=ft.root)(ho:∀ x,x <+: q->ft'.od x=ft.od x):OwnWay objs fs ft' K q:=by
 refine⟨fun x hx=>?_,fun x hx es he=>h.own x hx es (by rw[<- ho x hx];exact he),fun x m hx hs=>?_,fun hs=>?_⟩
 ·rw[(look_congr objs fs hr x.reverse (fun y hy=>ho y (by rw[List.reverse_reverse] at hy;exact hy.trans hx))).2]
  exact h.look x hx
 ·rw[ho x ((List.prefix_append x [m]).trans hx)]
  exact h.up x m hx (by rw[<- ho _ hx];exact hs)
 ·rw[hr];exact h.root (by rw[<- ho [] (List.nil_prefix)];exact hs)
section
variable {objs:List Ob}{t:LT}{ft:FT}{fs:FS}{q:List ByteArray}{d:LT}{ks:Kids}{n:ByteArray}
theorem flat_absent (hF:Flat objs t ft)(ha:t.at objs q=some d)(hk:kids objs d=some ks)(hp:pickK ks n=none)(r:List ByteArray):ft.od (q++n :: r)=none/\ft.of (q++n :: r)=none:=by
 have:t.at objs (q++n :: r)=none:=by rw[at_append,ha,Option.bind_some,at_cons,hk,Option.bind_some,hp];rfl
 rw[hF.od,hF.of,this];exact⟨rfl,rfl⟩
theorem below_none {p:List ByteArray}{c:LT}(ha:t.at objs p=some c)(hc:kids objs c=none\/kids objs c=some [])(m:ByteArray)(r:List ByteArray):t.at objs (p++m :: r)=none:=by
 rw[at_append,ha,Option.bind_some,at_cons]
 rcases hc with h | h
 ·rw[h];rfl
 ·rw[h];rfl
theorem flat_mkdir (hS:Sound objs)(hF:Flat objs t ft){k:Nat}(hok:LTok objs k t)(ha:t.at objs q=some d)(hk:kids objs d=some ks)(hw:KeptWay objs t fs q)(hp:pickK ks n=none):
  Flat objs (modG objs (fun ks=>putK ks n (.own [])) q t) { putF objs fs ft q n (2,0) with od:=upd (putF objs fs ft q n (2,0)).od (q ++ [n]) (some []) }:=by
 have W:=ownWay_flat hS hF hok ha hk hw
 have hr:=(ok_kids hS (ok_at hS _ hok ha).2.1 hk).1
 have ht:thereK (curK objs t q) n=false:=by rw[cur_at ha hk,there_ent,<- pick_there hr,hp];rfl
 obtain⟨h1,h2,h3,h4,h5⟩:=putF_maps W n (2,0)
 rw[ht,if_neg (by decide)] at h5
 refine flat_put hS (fs:=fs) hF hok ha hk n (.own []) h1 (fun x hx=>?_) (fun x hx=>?_) (fun r=>?_) (fun r=>?_)
 ·have hx':x≠q ++ [n]:=fun e=>hx (e ▸ List.prefix_refl _)
  show upd _ _ _ x=_
  rw[upd_other hx',h2 x hx',cur_at ha hk];rfl
 ·exact h3 x (fun e=>hx (e ▸ List.prefix_refl _))
 ·show upd _ _ _ _=_
  cases r with
  | nil=>rw[upd_same,at_nil];rfl
  | cons m r=>
   have hne:q++n :: m :: r≠q ++ [n]:=by simp
   rw[upd_other hne,h2 _ hne,if_neg (by simp),if_neg (fun h=>by have:=h.length_le;simp at this;omega),(flat_absent hF ha hk hp _).1,at_cons];rfl
 ·show (putF objs fs ft q n (2,0)).of _=_
  cases r with
  | nil=>rw[h5,(flat_absent hF ha hk hp []).2,at_nil];rfl
  | cons m r=>rw[h3 _ (by simp),(flat_absent hF ha hk hp _).2,at_cons];rfl
theorem flat_create (hS:Sound objs)(hF:Flat objs t ft){k:Nat}(hok:LTok objs k t)(ha:t.at objs q=some d)(hk:kids objs d=some ks)(hw:KeptWay objs t fs q)(hp:pickK ks n=none)(f:Nat):
  Flat objs (modG objs (fun ks=>putK ks n (.held f)) q t) { putF objs fs ft q n (1,0) with of:=upd (putF objs fs ft q n (1,0)).of (q ++ [n]) (some f) }:=by
 have W:=ownWay_flat hS hF hok ha hk hw
 have hr:=(ok_kids hS (ok_at hS _ hok ha).2.1 hk).1
 have ht:thereK (curK objs t q) n=false:=by rw[cur_at ha hk,there_ent,<- pick_there hr,hp];rfl
 obtain⟨h1,h2,h3,h4,h5⟩:=putF_maps W n (1,0)
 rw[ht,if_neg (by decide)] at h4
 refine flat_put hS (fs:=fs) hF hok ha hk n (.held f) h1 (fun x hx=>?_) (fun x hx=>?_) (fun r=>?_) (fun r=>?_)
 ·have hx':x≠q ++ [n]:=fun e=>hx (e ▸ List.prefix_refl _)
  show (putF objs fs ft q n (1,0)).od x=_
  rw[h2 x hx',cur_at ha hk];rfl
 ·show upd _ _ _ x=_
  have hx':x≠q ++ [n]:=fun e=>hx (e ▸ List.prefix_refl _)
  rw[upd_other hx',h3 x hx']
 ·show (putF objs fs ft q n (1,0)).od _=_
  cases r with
  | nil=>rw[h4,(flat_absent hF ha hk hp []).1,at_nil];rfl
  | cons m r=>
   have hne:q++n :: m :: r≠q ++ [n]:=by simp
   rw[h2 _ hne,if_neg (by simp),if_neg (fun h=>by have:=h.length_le;simp at this;omega),(flat_absent hF ha hk hp _).1,at_cons];rfl
 ·show upd _ _ _ _=_
  cases r with
  | nil=>rw[upd_same,at_nil];rfl
  | cons m r=>rw[upd_other (by simp),h3 _ (by simp),(flat_absent hF ha hk hp _).2,at_cons];rfl
theorem flat_hold (hS:Sound objs)(hF:Flat objs t ft){k:Nat}(hok:LTok objs k t)(ha:t.at objs q=some d)(hk:kids objs d=some ks)(hw:KeptWay objs t fs q){id:Int}(hp:pickK ks n=some (.file id))(f:Nat):
  Flat objs (modG objs (fun ks=>putK ks n (.held f)) q t) { claimF objs fs ft q.reverse with od:=upd (claimF objs fs ft q.reverse).od q (some (putK (((claimF objs fs ft q.reverse).od q).getD []) n (1,0))),of:=upd (claimF objs fs ft q.reverse).of (q ++ [n]) (some f) }:=by
 have W:=ownWay_flat hS hF hok ha hk hw
 obtain⟨h1,h2,h3,h4⟩:=claim_at W
 have hat:t.at objs (q ++ [n])=some (.file id):=by rw[at_append,ha,Option.bind_some,at_cons,hk,Option.bind_some,hp,Option.bind_some,at_nil]
 have hnp:¬ (q ++ [n]) <+: q:=fun h=>by have:=h.length_le;simp at this;omega
 refine flat_put hS (fs:=fs) hF hok ha hk n (.held f) h1 (fun x hx=>?_) (fun x hx=>?_) (fun r=>?_) (fun r=>?_)
 ·show upd _ _ _ x=_
  by_cases hq:x=q
  ·subst hq;rw[upd_same,if_pos rfl,h3,Option.getD_some,cur_at ha hk];rfl
  ·rw[upd_other hq,if_neg hq,h4 x hq]
 ·show upd _ _ _ x=_
  rw[upd_other (fun e:x=q ++ [n]=>hx (by rw[e];exact List.prefix_refl _)),h2]
 ·show upd _ _ _ _=_
  have hne:q++n :: r≠q:=fun e=>by have:=congrArg List.length e;simp at this
  rw[upd_other hne,h4 _ hne,if_neg (fun h=>by have:=h.length_le;simp at this;omega),hF.od]
  cases r with
  | nil=>rw[hat,at_nil];rfl
  | cons m r=>rw[show q++n :: m :: r=(q ++ [n])++m :: r by simp,below_none hat (.inl rfl),at_cons];rfl
 ·show upd _ _ _ _=_
  cases r with
  | nil=>rw[upd_same,at_nil];rfl
  | cons m r=>
   rw[upd_other (by simp),h2,hF.of,show q++n :: m :: r=(q ++ [n])++m :: r by simp,below_none hat (.inl rfl),at_cons];rfl
theorem flat_remove (hS:Sound objs)(hF:Flat objs t ft){k:Nat}(hok:LTok objs k t)(ha:t.at objs q=some d)(hk:kids objs d=some ks)(hw:KeptWay objs t fs q){c:LT}(hp:pickK ks n=some c)(hc:kids objs c=none\/kids objs c=some []):
  Flat objs (modG objs (fun ks=>dropK ks n) q t) (forgetF (takeF objs fs ft q n) (q ++ [n])):=by
 have W:=ownWay_flat hS hF hok ha hk hw
 have hr:=(ok_kids hS (ok_at hS _ hok ha).2.1 hk).1
 have ht:thereK ks n=true:=by rw[<- pick_there hr,hp];rfl
 obtain⟨h1,h2,h3⟩:=takeF_maps W n
 have hat:t.at objs (q ++ [n])=some c:=by rw[at_append,ha,Option.bind_some,at_cons,hk,Option.bind_some,hp,Option.bind_some,at_nil]
 refine flat_drop hS (fs:=fs) hF hok ha hk n ht h1 (fun x hx=>?_) (fun x hx=>?_) (fun r=>?_) (fun r=>?_)
 ·show upd _ _ _ x=_
  rw[upd_other (fun e:x=q ++ [n]=>hx (by rw[e];exact List.prefix_refl _)),h2,cur_at ha hk]
 ·show upd _ _ _ x=_
  rw[upd_other (fun e:x=q ++ [n]=>hx (by rw[e];exact List.prefix_refl _)),h3]
 ·show upd _ _ _ _=_
  cases r with
  | nil=>rw[upd_same]
  | cons m r=>
   rw[upd_other (by simp),h2,if_neg (by simp),if_neg (fun h=>by have:=h.length_le;simp at this;omega),hF.od,show q++n :: m :: r=(q ++ [n])++m :: r by simp,below_none hat hc];rfl
 ·show upd _ _ _ _=_
  cases r with
  | nil=>rw[upd_same]
  | cons m r=>
   rw[upd_other (by simp),h3,hF.of,show q++n :: m :: r=(q ++ [n])++m :: r by simp,below_none hat hc];rfl
end
theorem drop_dir {objs:List Ob}{t:LT}{qf qt:List ByteArray}{nf:ByteArray}{df dt:LT}{kf kt:Kids}(hr:RisingK kf)(ha:t.at objs qf=some df)(hk:kids objs df=some kf)(ht:thereK kf nf=true)(hb:t.at objs qt=some dt)(hkt:kids objs dt=some kt)(hnf:¬ (qf ++ [nf]) <+: qt):
  ∃ d1 k1,(modG objs (fun ks=>dropK ks nf) qf t).at objs qt=some d1/\kids objs d1=some k1/\∀ id,d1=.dir id->dt=.dir id:=by
 obtain⟨m1,m2⟩:=at_mod objs (fun ks=>dropK ks nf) qf t df kf ha hk
 by_cases h:qf <+: qt
 ·obtain⟨s,rfl⟩:=h
  cases s with
  | nil=>rw[List.append_nil] at hb ⊢;exact⟨_,_,m2,rfl,fun id e=>by cases e⟩
  | cons m r=>
   have hm:m≠nf:=fun e=>hnf (by rw[e];exact⟨r,by simp⟩)
   rw[m1,pick_drop hr ht,if_neg hm]
   rw[at_append,ha,Option.bind_some,at_cons,hk,Option.bind_some] at hb
   exact⟨dt,kt,hb,hkt,fun id e=>e⟩
 ·by_cases h2:qt <+: qf
  ·obtain⟨m,hm,hxm⟩:=prefix_get h2 (fun e=>h (e ▸ List.prefix_refl _))
   obtain⟨r,hr'⟩:=hxm
   have hr':qf=qt++m :: r:=by rw[<- hr'];simp
   rw[hr'] at ha ⊢
   obtain⟨dq,kq,h1,h2,h3⟩:=at_mod_way objs (fun ks=>dropK ks nf) qt m r t df ha
   exact⟨_,_,h3,rfl,fun id e=>by cases e⟩
  ·rw[at_mod_other objs _ qf qt t df ha h2 h]
   exact⟨dt,kt,hb,hkt,fun id e=>e⟩
theorem drop_stored {objs:List Ob}{t:LT}{qf:List ByteArray}{nf:ByteArray}{df:LT}{kf:Kids}(hr:RisingK kf)(ha:t.at objs qf=some df)(hk:kids objs df=some kf)(ht:thereK kf nf=true){x:List ByteArray}{id:Int}(h:(modG objs (fun ks=>dropK ks nf) qf t).at objs x=some (.dir id)):t.at objs x=some (.dir id):=by
 obtain⟨m1,m2⟩:=at_mod objs (fun ks=>dropK ks nf) qf t df kf ha hk
 by_cases hx:qf <+: x
 ·obtain⟨s,rfl⟩:=hx
  cases s with
  | nil=>rw[List.append_nil,m2] at h;cases h
  | cons m r=>
   rw[m1,pick_drop hr ht] at h
   by_cases hm:m=nf
   ·rw[if_pos hm] at h;cases h
   ·rw[if_neg hm] at h
    rw[at_append,ha,Option.bind_some,at_cons,hk,Option.bind_some];exact h
 ·by_cases h2:x <+: qf
  ·obtain⟨m,hm,hxm⟩:=prefix_get h2 (fun e=>hx (e ▸ List.prefix_refl _))
   obtain⟨r,hr'⟩:=hxm
   have hr':qf=x++m :: r:=by rw[<- hr'];simp
   rw[hr'] at ha h
   obtain⟨dq,kq,h1,h2,h3⟩:=at_mod_way objs (fun ks=>dropK ks nf) x m r t df ha
   rw[h3] at h;cases h
  ·rw[at_mod_other objs _ qf x t df ha h2 hx] at h;exact h
theorem drop_ok {objs:List Ob}(hS:Sound objs){k:Nat}{t:LT}(hok:LTok objs k t){q:List ByteArray}{d:LT}{ks:Kids}(ha:t.at objs q=some d)(hk:kids objs d=some ks)(n:ByteArray):LTok objs k (modG objs (fun ks=>dropK ks n) q t):=by
 obtain⟨h1,h2,h3⟩:=ok_kids hS (ok_at hS _ hok ha).2.1 hk
 refine ok_mod hS _ q hok ha hk (ok_own ?_ ?_ (fun x hx=>h3 x (dropK_mem hx)))
 ·unfold dropK;exact List.Pairwise.sublist (List.eraseIdx_sublist _ _) h1
 ·unfold dropK;exact Nat.le_trans (List.length_eraseIdx_le _ _) h2
def cutF (ft:FT)(p:List ByteArray):FT:=⟨ft.root,fun x=>if p <+: x then none else ft.od x,fun x=>if p <+: x then none else ft.of x⟩
theorem cutF_od (ft:FT)(p x:List ByteArray):(cutF ft p).od x=if p <+: x then none else ft.od x:=rfl
theorem cutF_of (ft:FT)(p x:List ByteArray):(cutF ft p).of x=if p <+: x then none else ft.of x:=rfl
theorem flat_rename {objs:List Ob}{t:LT}{ft:FT}{fs:FS}(hS:Sound objs)(hF:Flat objs t ft){k:Nat}(hok:LTok objs k t){qf qt:List ByteArray}{nf nt:ByteArray}{df dt c:LT}{kf kt:Kids}
  (ha:t.at objs qf=some df)(hk:kids objs df=some kf)(hp:pickK kf nf=some c)(hb:t.at objs qt=some dt)(hkt:kids objs dt=some kt)(hwf:KeptWay objs t fs qf)(hwt:KeptWay objs t fs qt)
  (hnf:¬ (qf ++ [nf]) <+: (qt ++ [nt]))(hnt:¬ (qt ++ [nt]) <+: (qf ++ [nf])):
  ∃ d1 k1,(modG objs (fun ks=>dropK ks nf) qf t).at objs qt=some d1/\kids objs d1=some k1/\
   Flat objs (modG objs (fun ks=>putK ks nt c) qt (modG objs (fun ks=>dropK ks nf) qf t)) (carryF (putF objs fs (takeF objs fs ft qf nf) qt nt (c.kind,c.id)) (qf ++ [nf]) (qt ++ [nt]))/\OwnWay objs fs (takeF objs fs ft qf nf) (curK objs (modG objs (fun ks=>dropK ks nf) qf t)) qt:=by
 have hr:=(ok_kids hS (ok_at hS _ hok ha).2.1 hk).1
 have ht:thereK kf nf=true:=by rw[<- pick_there hr,hp];rfl
 have hnq:¬ (qf ++ [nf]) <+: qt:=fun h=>hnf (h.trans (List.prefix_append _ _))
 have hok1:=drop_ok hS hok ha hk nf
 obtain⟨d1,k1,e1,e2,e3⟩:=drop_dir hr ha hk ht hb hkt hnq
 have Wf:=ownWay_flat hS hF hok ha hk hwf
 obtain⟨t1,t2,t3⟩:=takeF_maps Wf nf
 have hat:∀ r,t.at objs (qf++nf :: r)=c.at objs r:=fun r=>by rw[at_append,ha,Option.bind_some,at_cons,hk,Option.bind_some,hp,Option.bind_some]
 -- the maps without what hangs below 'from'
 have F1:Flat objs (modG objs (fun ks=>dropK ks nf) qf t) (cutF (takeF objs fs ft qf nf) (qf ++ [nf])):=by
  refine flat_drop hS (fs:=fs) hF hok ha hk nf ht t1 (fun x hx=>?_) (fun x hx=>?_) (fun r=>?_) (fun r=>?_)
  ·rw[cutF_od,if_neg hx,t2,cur_at ha hk]
  ·rw[cutF_of,if_neg hx,t3]
  ·rw[cutF_od,if_pos ⟨r,by simp⟩]
  ·rw[cutF_of,if_pos ⟨r,by simp⟩]
 have hw1:KeptWay objs (modG objs (fun ks=>dropK ks nf) qf t) fs qt:=fun x id hx h=>hwt x id hx (drop_stored hr ha hk ht h)
 have W1:=ownWay_flat hS F1 hok1 e1 e2 hw1
 have hpre:∀ x,x <+: qt->¬ (qf ++ [nf]) <+: x:=fun x hx h=>hnq (h.trans hx)
 have W2:OwnWay objs fs (takeF objs fs ft qf nf) (curK objs (modG objs (fun ks=>dropK ks nf) qf t)) qt:=W1.congr rfl (fun x hx=>by rw[cutF_od,if_neg (hpre x hx)])
 obtain⟨p1,p2,p3,p4,p5⟩:=putF_maps W2 nt (c.kind,c.id)
 refine⟨d1,k1,e1,e2,?_,W2⟩
 have hsrc:∀ r,(qf++nf :: r)≠qt ++ [nt]:=fun r e=>hnf (by rw[<- e];exact⟨r,by simp⟩)
 have hsq:∀ r,(qf++nf :: r)≠qt:=fun r e=>hnq (by rw[<- e];exact⟨r,by simp⟩)
 have hsp:∀ r,¬ (qf++nf :: r) <+: qt:=fun r h=>hnq (List.IsPrefix.trans ⟨r,by simp⟩ h)
 have hsf:∀ r,(qf++nf :: r)≠qf:=fun r e=>by have:=congrArg List.length e;simp at this
 have hsfp:∀ r,¬ (qf++nf :: r) <+: qf:=fun r h=>by have:=h.length_le;simp at this;omega
 have hdrop:∀ r,(qt++nt :: r).drop (qt ++ [nt]).length=r:=fun r=>by rw[show qt++nt :: r=(qt ++ [nt])++r by simp,List.drop_left]
 refine flat_put hS (fs:=fs) F1 hok1 e1 e2 nt c p1 (fun x hx=>?_) (fun x hx=>?_) (fun r=>?_) (fun r=>?_)
 ·have hx':x≠qt ++ [nt]:=fun e=>hx (e ▸ List.prefix_refl _)
  show carryG _ _ _ x=_
  unfold carryG
  rw[if_neg hx]
  by_cases hs:(qf ++ [nf]) <+: x
  ·rw[if_pos hs,if_neg (fun e:x=qt=>hnq (e ▸ hs)),if_neg (fun h=>hpre x h hs),cutF_od,if_pos hs]
  ·rw[if_neg hs,p2 x hx',cutF_od,if_neg hs,cur_at e1 e2]
 ·have hx':x≠qt ++ [nt]:=fun e=>hx (e ▸ List.prefix_refl _)
  show carryG _ _ _ x=_
  unfold carryG
  rw[if_neg hx]
  by_cases hs:(qf ++ [nf]) <+: x
  ·rw[if_pos hs,cutF_of,if_pos hs]
  ·rw[if_neg hs,p3 x hx',cutF_of,if_neg hs]
 ·show carryG _ _ _ _=_
  unfold carryG
  rw[if_pos ⟨r,by simp⟩,hdrop,show (qf ++ [nf])++r=qf++nf :: r by simp,p2 _ (hsrc r),if_neg (hsq r),if_neg (hsp r),t2,if_neg (hsf r),if_neg (hsfp r),hF.od,hat]
 ·show carryG _ _ _ _=_
  unfold carryG
  rw[if_pos ⟨r,by simp⟩,hdrop,show (qf ++ [nf])++r=qf++nf :: r by simp,p3 _ (hsrc r),t3,hF.of,hat]
def hgt (objs:List Ob):Nat->LT->Int
 | _,.file id=>highOf objs id
 | _,.held _=>0
 | _,.dir id=>highOf objs id
 | 0,.own _=>0
 | n+1,.own es=>es.foldl (fun h x=>max h (1+hgt objs n x.2)) 0
theorem foldl_max_le {α:Type}(f:α->Int):∀ (l:List α) (a m:Int),l.foldl (fun h x=>max h (1+f x)) a<=m↔a<=m/\∀ x ∈ l,1+f x<=m
 | [],a,m=>by simp
 | y :: r,a,m=>by
  rw[List.foldl_cons,foldl_max_le f r]
  constructor
  ·rintro ⟨h1,h2⟩
   refine⟨by omega,fun x hx=>?_⟩
   rcases List.mem_cons.1 hx with rfl | hx
   ·omega
   ·exact h2 x hx
  ·rintro ⟨h1,h2⟩
   have:=h2 y (List.mem_cons_self ..)
   exact⟨by omega,fun x hx=>h2 x (List.mem_cons_of_mem _ hx)⟩
theorem ok_hgt {objs:List Ob}(hS:Sound objs):∀ (n:Nat) {c:LT} {m:Nat},LTok objs n c->hgt objs n c<=m->LTok objs m c
 | n,.file id,m,h,_=>by
  have:kindOf objs id=1:=by cases n <;> simpa [LTok] using h
  cases m <;> simpa [LTok] using this
 | n,.held f,m,_,_=>by cases m <;> simp[LTok]
 | n,.dir id,m,h,hm=>by
  have h1:kindOf objs id=2:=by cases n <;> simp[LTok] at h <;> exact h.1
  have h2:highOf objs id<=m:=by cases n <;> simpa [hgt] using hm
  cases m <;> (rw[LTok];exact⟨h1,h2⟩)
 | 0,.own es,m,h,_=>by
  rw[LTok] at h
  subst h
  exact ok_own List.Pairwise.nil (by simp) (by simp)
 | n+1,.own es,m,h,hm=>by
  rw[LTok] at h
  rw[hgt,foldl_max_le] at hm
  refine ok_own h.1 h.2.1 (fun x hx=>?_)
  have h1:=hm.2 x hx
  obtain⟨hv,hx'⟩:=h.2.2 x hx
  have h0:0<=hgt objs n x.2:=by
   cases n with
   | zero=>cases hc:x.2 <;> simp[hgt] <;> exact hS.1 _
   | succ j=>
    cases hc:x.2 with
    | file i=>simp[hgt];exact hS.1 _
    | held f=>simp[hgt]
    | dir i=>simp[hgt];exact hS.1 _
    | own es'=>
     rw[hgt]
     exact ((foldl_max_le (fun x=>hgt objs j x.2) es' 0 _).1 (Int.le_refl _)).1
  refine⟨hv,m-1,by omega,ok_hgt hS n hx' (by omega)⟩
def fsAll:FS:=⟨[],false,fun _=>true,fun _=>true⟩
def Fair {β:Type}(fs fs':FS)(x all none:β):Prop:=(fs.Next fs'/\x=all)\/(fs.Fail fs'/\x=none)
theorem all_kids (objs:List Ob)(c:LT):kidsG objs fsAll c=(fsAll,kidsE objs c):=by
 cases c <;> rfl
theorem fair_kids (objs:List Ob)(fs:FS)(c:LT):Fair fs (kidsG objs fs c).1 (kidsG objs fs c).2 (kidsG objs fsAll c).2 (14,[]):=by
 rw[all_kids]
 rcases kidsG_cases objs fs c with ⟨h1,h2⟩ | ⟨h1,h2⟩
 ·exact .inl ⟨h1,h2⟩
 ·exact .inr ⟨h1,h2⟩
theorem all_find (objs:List Ob)(t:LT)(r:List ByteArray):findR objs t fsAll r=(fsAll,findE objs t r):=by
 induction r with
 | nil=>rfl
 | cons n r ih=>
  unfold findR findE
  simp only[ih,all_kids]
  by_cases h0:(findE objs t r).1≠0
  ·simp only[if_pos h0]
  ·simp only[if_neg h0]
   by_cases hb:(kidsE objs (findE objs t r).2).1≠0
   ·simp only[if_pos hb]
   ·simp only[if_neg hb]
    cases pickK (kidsE objs (findE objs t r).2).2 n <;> rfl
theorem all_look (objs:List Ob)(t:LT)(r:List ByteArray):lookR objs t fsAll r=(fsAll,lookE objs t r):=by
 unfold lookR lookE
 simp only[all_find,all_kids]
 by_cases h0:(findE objs t r).1≠0
 ·simp only[if_pos h0]
 ·simp only[if_neg h0]
theorem fair_find (objs:List Ob)(t:LT)(fs:FS)(r:List ByteArray):Fair fs (findR objs t fs r).1 (findR objs t fs r).2 (findR objs t fsAll r).2 (14,.dir 0):=by
 rw[all_find]
 rcases findR_cases objs t fs r with ⟨h1,h2,_⟩ | ⟨h1,h2⟩
 ·exact .inl ⟨h1,h2⟩
 ·exact .inr ⟨h1,h2⟩
theorem fair_look (objs:List Ob)(t:LT)(fs:FS)(r:List ByteArray):Fair fs (lookR objs t fs r).1 (lookR objs t fs r).2 (lookR objs t fsAll r).2 (14,[]):=by
 rw[all_look]
 rcases lookR_cases objs t fs r with ⟨h1,h2,_⟩ | ⟨h1,h2⟩
 ·exact .inl ⟨h1,h2⟩
 ·exact .inr ⟨h1,h2⟩
def bytesG (objs:List Ob)(fl:Nat->Option (Int×ByteArray))(fs:FS)(f:Nat):FS×Int×ByteArray:=
 match fl f with
 | none=>(fs,0,⟨#[]⟩)
 | some (id,d)=>if id=0 then (fs,0,d) else if (fs.fileG id).2 then ((fs.fileG id).1,0,bytesOf objs id) else ((fs.fileG id).1,14,⟨#[]⟩)
def mkdirR (objs:List Ob)(t:LT)(fs:FS):List ByteArray->FS×Int×LT
 | []=>(fs,6,t)
 | n :: r=>
  let a:=lookR objs t fs r
  if a.2.1≠0 then (a.1,a.2.1,t) else
  if (pickK a.2.2 n).isSome then (a.1,6,t) else
  if 16<=a.2.2.length then (a.1,11,t) else (a.1,0,modG objs (fun ks=>putK ks n (.own [])) r.reverse t)
def vacantG (objs:List Ob)(fs:FS)(c:LT):FS×Int:=
 if c.kind=1 then (fs,0) else
 let k:=kidsG objs fs c
 if k.2.1=0/\0<k.2.2.length then (k.1,8) else (k.1,k.2.1)
def removeR (objs:List Ob)(t:LT)(fs:FS):List ByteArray->FS×Int×LT
 | []=>(fs,9,t)
 | n :: r=>
  let a:=findR objs t fs (n :: r)
  if a.2.1≠0 then (a.1,a.2.1,t) else
  let v:=vacantG objs a.1 a.2.2
  if v.2≠0 then (v.1,v.2,t) else (v.1,0,modG objs (fun ks=>dropK ks n) r.reverse t)
def yieldsG (objs:List Ob)(fs:FS)(e c:LT):FS×Int:=
 if e.kind=2/\c.kind=1 then (fs,7) else
 if e.kind=1/\c.kind=2 then (fs,5) else vacantG objs fs e
def roomG (objs:List Ob)(fs:FS)(same:Bool)(ks:Kids)(n:ByteArray)(c:LT):FS×Int:=
 match pickK ks n with
 | some e=>yieldsG objs fs e c
 | none=>if 16<=ks.length/\same=false then (fs,11) else (fs,0)
def renameR (objs:List Ob)(t:LT)(fs:FS):List ByteArray->List ByteArray->FS×Int×LT
 | nf :: rf,nt :: rt=>
  let a:=findR objs t fs (nf :: rf)
  if a.2.1≠0 then (a.1,a.2.1,t) else
  if (nf :: rf).reverse <+: (nt :: rt).reverse/\nf :: rf≠nt :: rt then (a.1,9,t) else
  let b:=lookR objs t a.1 rt
  if b.2.1≠0\/nf :: rf=nt :: rt then (b.1,b.2.1,t) else
  let v:=roomG objs b.1 (decide (rf=rt)) b.2.2 nt a.2.2
  if v.2≠0 then (v.1,v.2,t) else
  if 5<((rt.length+1:Nat):Int)+hgt objs 5 a.2.2 then (v.1,11,t) else
  (v.1,0,modG objs (fun ks=>putK ks nt a.2.2) rt.reverse (modG objs (fun ks=>dropK ks nf) rf.reverse t))
 | _,_=>(fs,9,t)
theorem Fair.bind {β γ:Type}{fs fs1 fs2:FS}{x a n:β}{y b m:γ}(h:Fair fs fs1 x a n)(good:fs.Next fs1->x=a->Fair fs1 fs2 y b m)(bad:fs.Fail fs1->x=n->fs2=fs1/\y=m):Fair fs fs2 y b m:=by
 rcases h with ⟨h1,h2⟩ | ⟨h1,h2⟩
 ·rcases good h1 h2 with ⟨k1,k2⟩ | ⟨k1,k2⟩
  ·exact .inl ⟨h1.trans k1,k2⟩
  ·exact .inr ⟨h1.fail k1,k2⟩
 ·obtain⟨rfl,k⟩:=bad h1 h2
  exact .inr ⟨h1,k⟩
theorem fair_same {β:Type}(fs:FS)(x bad:β):Fair fs fs x x bad:=.inl ⟨FS.Next.refl _,rfl⟩
theorem fair_mkdir (objs:List Ob)(t:LT)(fs:FS)(r:List ByteArray):Fair fs (mkdirR objs t fs r).1 (mkdirR objs t fs r).2 (mkdirR objs t fsAll r).2 (14,t):=by
 cases r with
 | nil=>exact fair_same _ _ _
 | cons n r=>
  unfold mkdirR
  rcases fair_look objs t fs r with ⟨h1,h2⟩ | ⟨h1,h2⟩
  ·have e1:=congrArg Prod.fst h2
   have e2:=congrArg Prod.snd h2
   simp only[e1,e2]
   refine .inl ⟨?_,?_⟩
   ·split
    ·exact h1
    ·split
     ·exact h1
     ·split <;> exact h1
   ·split
    ·rfl
    ·split
     ·rfl
     ·split <;> rfl
  ·have e1:=congrArg Prod.fst h2
   simp only at e1
   simp only[e1]
   exact .inr ⟨h1,rfl⟩
theorem fair_vacant (objs:List Ob)(fs:FS)(c:LT):Fair fs (vacantG objs fs c).1 (vacantG objs fs c).2 (vacantG objs fsAll c).2 14:=by
 unfold vacantG
 by_cases h1:c.kind=1
 ·rw[if_pos h1,if_pos h1];exact fair_same _ _ _
 ·rw[if_neg h1,if_neg h1]
  refine (fair_kids objs fs c).bind (fun hn he=>?_) (fun hf he=>?_)
  ·simp only[he]
   by_cases h:(kidsG objs fsAll c).2.1=0/\0<(kidsG objs fsAll c).2.2.length
   ·simp only[if_pos h];exact fair_same _ _ _
   ·simp only[if_neg h];exact fair_same _ _ _
  ·simp only[he];exact⟨rfl,rfl⟩
theorem fair_remove (objs:List Ob)(t:LT)(fs:FS)(r:List ByteArray):Fair fs (removeR objs t fs r).1 (removeR objs t fs r).2 (removeR objs t fsAll r).2 (14,t):=by
 cases r with
 | nil=>exact fair_same _ _ _
 | cons n r=>
  unfold removeR
  refine (fair_find objs t fs (n :: r)).bind (fun hn he=>?_) (fun hf he=>?_)
  ·simp only[he]
   by_cases h0:(findR objs t fsAll (n :: r)).2.1≠0
   ·simp only[if_pos h0];exact fair_same _ _ _
   ·simp only[if_neg h0]
    have hall:(findR objs t fsAll (n :: r)).1=fsAll:=by rw[all_find]
    rw[hall]
    generalize (findR objs t fsAll (n :: r)).2.2=c
    refine (fair_vacant objs _ c).bind (fun hn he=>?_) (fun hf he=>?_)
    ·simp only[he]
     by_cases hv:(vacantG objs fsAll c).2≠0
     ·simp only[if_pos hv];exact fair_same _ _ _
     ·simp only[if_neg hv];exact fair_same _ _ _
    ·simp only[he];exact⟨rfl,rfl⟩
  ·simp only[he];exact⟨rfl,rfl⟩
theorem fair_room (objs:List Ob)(fs:FS)(b:Bool)(ks:Kids)(n:ByteArray)(c:LT):Fair fs (roomG objs fs b ks n c).1 (roomG objs fs b ks n c).2 (roomG objs fsAll b ks n c).2 14:=by
 unfold roomG
 cases pickK ks n with
 | none=>
  simp only
  by_cases h:16<=ks.length/\b=false
  ·rw[if_pos h,if_pos h];exact fair_same _ _ _
  ·rw[if_neg h,if_neg h];exact fair_same _ _ _
 | some e=>
  simp only
  unfold yieldsG
  by_cases h:e.kind=2/\c.kind=1
  ·rw[if_pos h,if_pos h];exact fair_same _ _ _
  ·rw[if_neg h,if_neg h]
   by_cases h:e.kind=1/\c.kind=2
   ·rw[if_pos h,if_pos h];exact fair_same _ _ _
   ·rw[if_neg h,if_neg h];exact fair_vacant objs fs e
theorem fair_rename (objs:List Ob)(t:LT)(fs:FS)(rf rt:List ByteArray):Fair fs (renameR objs t fs rf rt).1 (renameR objs t fs rf rt).2 (renameR objs t fsAll rf rt).2 (14,t):=by
 cases rf with
 | nil=>cases rt <;> exact fair_same _ _ _
 | cons nf rf=>
  cases rt with
  | nil=>exact fair_same _ _ _
  | cons nt rt=>
   unfold renameR
   refine (fair_find objs t fs (nf :: rf)).bind (fun hn he=>?_) (fun hf he=>?_)
   ·simp only[he]
    by_cases h0:(findR objs t fsAll (nf :: rf)).2.1≠0
    ·simp only[if_pos h0];exact fair_same _ _ _
    ·simp only[if_neg h0]
     by_cases h9:(nf :: rf).reverse <+: (nt :: rt).reverse/\nf :: rf≠nt :: rt
     ·simp only[if_pos h9];exact fair_same _ _ _
     ·simp only[if_neg h9]
      generalize (findR objs t fs (nf :: rf)).1=fs1
      have hall:(findR objs t fsAll (nf :: rf)).1=fsAll:=by rw[all_find]
      rw[hall]
      generalize (findR objs t fsAll (nf :: rf)).2.2=c
      refine (fair_look objs t fs1 rt).bind (fun hn he=>?_) (fun hf he=>?_)
      ·simp only[he]
       by_cases h1:(lookR objs t fsAll rt).2.1≠0\/nf :: rf=nt :: rt
       ·simp only[if_pos h1];exact fair_same _ _ _
       ·simp only[if_neg h1]
        have hall:(lookR objs t fsAll rt).1=fsAll:=by rw[all_look]
        rw[hall]
        generalize (lookR objs t fsAll rt).2.2=ks
        generalize (lookR objs t fs1 rt).1=fs2
        refine (fair_room objs fs2 (decide (rf=rt)) ks nt c).bind (fun hn he=>?_) (fun hf he=>?_)
        ·simp only[he]
         by_cases hv:(roomG objs fsAll (decide (rf=rt)) ks nt c).2≠0
         ·simp only[if_pos hv];exact fair_same _ _ _
         ·simp only[if_neg hv]
          by_cases h5:5<((rt.length+1:Nat):Int)+hgt objs 5 c
          ·simp only[if_pos h5];exact fair_same _ _ _
          ·simp only[if_neg h5];exact fair_same _ _ _
        ·simp only[he];exact⟨rfl,rfl⟩
      ·simp only[he]
       rw[if_pos (.inl (by decide))];exact⟨rfl,rfl⟩
   ·simp only[he];exact⟨rfl,rfl⟩
section
variable {objs:List Ob}{fc:FileC}{t d:LT}{q:List ByteArray}{ks:Kids}{n:ByteArray}
theorem sem_below (ha:t.at objs q=some d)(r:List ByteArray):sem objs fc t (q++r)=sem objs fc d r:=by
 unfold sem;rw[at_append,ha];rfl
theorem sem_kid (ha:t.at objs q=some d)(hk:kids objs d=some ks)(m:ByteArray)(r:List ByteArray):sem objs fc t (q++m :: r)=(pickK ks m).bind fun c=>sem objs fc c r:=by
 rw[sem_below ha,sem_cons,hk,Option.bind_some]
theorem sem_put (hr:RisingK ks)(ha:t.at objs q=some d)(hk:kids objs d=some ks)(c:LT):
  (∀ r,sem objs fc (modG objs (fun ks=>putK ks n c) q t) (q++n :: r)=sem objs fc c r)/\∀ x,¬ (q ++ [n]) <+: x->sem objs fc (modG objs (fun ks=>putK ks n c) q t) x=sem objs fc t x:=by
 obtain⟨h1,h2⟩:=sem_mod objs fc (fun ks=>putK ks n c) q t d ks ha hk
 refine⟨fun r=>?_,fun x hx=>?_⟩
 ·rw[h1,pick_put hr,if_pos rfl];rfl
 ·by_cases hq:∃ m r,x=q++m :: r
  ·obtain⟨m,r,rfl⟩:=hq
   have hm:m≠n:=fun e=>hx (by rw[e];exact⟨r,by simp⟩)
   rw[h1,pick_put hr,if_neg hm,sem_kid ha hk]
  ·exact h2 x hq
theorem sem_drop (hr:RisingK ks)(ht:thereK ks n=true)(ha:t.at objs q=some d)(hk:kids objs d=some ks):
  (∀ r,sem objs fc (modG objs (fun ks=>dropK ks n) q t) (q++n :: r)=none)/\∀ x,¬ (q ++ [n]) <+: x->sem objs fc (modG objs (fun ks=>dropK ks n) q t) x=sem objs fc t x:=by
 obtain⟨h1,h2⟩:=sem_mod objs fc (fun ks=>dropK ks n) q t d ks ha hk
 refine⟨fun r=>?_,fun x hx=>?_⟩
 ·rw[h1,pick_drop hr ht,if_pos rfl];rfl
 ·by_cases hq:∃ m r,x=q++m :: r
  ·obtain⟨m,r,rfl⟩:=hq
   have hm:m≠n:=fun e=>hx (by rw[e];exact⟨r,by simp⟩)
   rw[h1,pick_drop hr ht,if_neg hm,sem_kid ha hk]
  ·exact h2 x hq
end
theorem sem_rename {objs:List Ob}{fc:FileC}(hS:Sound objs){k:Nat}{t:LT}(hok:LTok objs k t){qf qt:List ByteArray}{nf nt:ByteArray}{df dt c:LT}{kf kt:Kids}
  (ha:t.at objs qf=some df)(hk:kids objs df=some kf)(hp:pickK kf nf=some c)(hb:t.at objs qt=some dt)(hkt:kids objs dt=some kt)(hnf:¬ (qf ++ [nf]) <+: (qt ++ [nt]))(x:List ByteArray):
  sem objs fc (modG objs (fun ks=>putK ks nt c) qt (modG objs (fun ks=>dropK ks nf) qf t)) x =
   if (qt ++ [nt]) <+: x then sem objs fc t ((qf ++ [nf])++x.drop (qt ++ [nt]).length) else if (qf ++ [nf]) <+: x then none else sem objs fc t x:=by
 have hr:=(ok_kids hS (ok_at hS _ hok ha).2.1 hk).1
 have ht:thereK kf nf=true:=by rw[<- pick_there hr,hp];rfl
 have hnq:¬ (qf ++ [nf]) <+: qt:=fun h=>hnf (h.trans (List.prefix_append _ _))
 obtain⟨d1,k1,e1,e2,_⟩:=drop_dir hr ha hk ht hb hkt hnq
 have hok1:=drop_ok hS hok ha hk nf
 have hr1:=(ok_kids hS (ok_at hS _ hok1 e1).2.1 e2).1
 obtain⟨p1,p2⟩:=sem_put (fc:=fc) (n:=nt) hr1 e1 e2 c
 obtain⟨s1,s2⟩:=sem_drop (fc:=fc) hr ht ha hk
 by_cases h:(qt ++ [nt]) <+: x
 ·rw[if_pos h]
  obtain⟨r,rfl⟩:=h
  rw[List.drop_left,show (qt ++ [nt])++r=qt++nt :: r by simp,p1,show (qf ++ [nf])++r=qf++nf :: r by simp,sem_kid ha hk,hp];rfl
 ·rw[if_neg h,p2 x h]
  by_cases h2:(qf ++ [nf]) <+: x
  ·rw[if_pos h2]
   obtain⟨r,rfl⟩:=h2
   rw[show (qf ++ [nf])++r=qf++nf :: r by simp,s1]
  ·rw[if_neg h2,s2 x h2]
theorem find_sem (objs:List Ob)(fc:FileC)(t:LT):∀ r:List ByteArray,
  ((findE objs t r).1=0/\t.at objs r.reverse=some (findE objs t r).2)\/((findE objs t r).1≠0/\sem objs fc t r.reverse=none/\((findE objs t r).1=4\/(findE objs t r).1=5))
 | []=>.inl ⟨rfl,at_nil _ _⟩
 | n :: r=>by
  by_cases h:(findE objs t (n :: r)).1=0
  ·exact .inl ⟨h,(findE_at objs t (n :: r)).1 h⟩
  ·refine .inr ⟨h,?_,?_⟩
   ·unfold sem;rw[(findE_at objs t (n :: r)).2 h];rfl
   ·rcases find_sem objs fc t r with ⟨h0,ha⟩ | ⟨h0,_,h45⟩
    ·rw[findE] at h ⊢
     simp only at h ⊢
     rw[if_neg (by simpa using h0)] at h ⊢
     cases hd:(findE objs t r).2 with
     | file i=>rw[hd] at h;simp[kidsE]
     | held f=>rw[hd] at h;simp[kidsE]
     | own es=>simp only[hd,kidsE] at h ⊢;cases hp:pickK es n <;> simp[hp] at h ⊢
     | dir id=>simp only[hd,kidsE] at h ⊢;cases hp:pickK ((entsOf objs id).map kidOf) n <;> simp[hp] at h ⊢
    ·rw[findE]
     simp only
     rw[if_pos h0];exact h45
theorem fetch_not {i k:Nat}(hi:2<=i)(h2:k≠2)(h3:k≠3):¬ Fetches i (i,k):=by
 rintro (h | h | h)
 ·have h':i=1:=h
  omega
 ·cases h;exact h2 rfl
 ·cases h;exact h3 rfl
theorem there_at {es:List Ent}{n:ByteArray}(ht:thereK es n=true):∃ h:idxK es n<es.length,(es[idxK es n]).1=n:=by
 have hix:=thereK_lt ht
 refine⟨hix,?_⟩
 unfold thereK at ht
 rw[List.getElem?_eq_getElem hix] at ht
 simpa using ht
theorem putK_there {es:List Ent}{n:ByteArray}(ht:thereK es n=true)(v:Int×Int):putK es n v=es.set (idxK es n) (n,v):=by
 unfold putK;rw[if_pos ht]
theorem zero_set {es:List Ent}(hr:RisingK es){n:ByteArray}(ht:thereK es n=true)(hix:idxK es n<es.length):es.set (idxK es n) (n,(es[idxK es n]).2.1,0)=zeroK es n:=by
 apply List.ext_getElem
 ·simp[zeroK]
 ·intro j h1 h2
  have hj:j<es.length:=by simpa using h1
  rw[List.getElem_set]
  rw[show (zeroK es n)[j]'h2=(if (es[j]).1=n then ((es[j]).1,(es[j]).2.1,(0:Int)) else es[j]) from by simp[zeroK]]
  obtain⟨_,hn⟩:=there_at ht
  by_cases e:idxK es n=j
  ·subst e
   rw[if_pos rfl,if_pos hn,hn]
  ·rw[if_neg e,if_neg]
   intro hjn
   rcases Nat.lt_or_gt_of_ne e with h | h
   ·have:=rising_lt hr (a:=idxK es n) (b:=j) hj h
    rw[hn,hjn,cmpN_self] at this;omega
   ·have:=rising_lt hr (a:=j) (b:=idxK es n) hix h
    rw[hn,hjn,cmpN_self] at this;omega
theorem flat_set3 {es:List Ent}{k:Nat}(hk:k<es.length)(e:Ent):(((flat es).set (k*3) (.string e.1)).set (k*3+1) (.int .i64 e.2.1)).set (k*3+2) (.int .i64 e.2.2)=flat (es.set k e):=by
 apply List.ext_getElem?
 intro j
 have hlen:(flat es).length=es.length*3:=flat_len es
 by_cases hj:j<es.length*3
 ·obtain⟨q,t,ht,rfl⟩:∃ q t,t<3/\j=q*3+t:=⟨j / 3,j % 3,Nat.mod_lt _ (by decide),by omega⟩
  have hq:q<es.length:=by omega
  rw[flat_get (es.set k e) q t (by simpa using hq) ht,List.getElem_set]
  by_cases e1:k=q
  ·subst e1
   rw[if_pos rfl]
   simp only[List.getElem?_set,List.length_set,hlen]
   rcases (show t=0\/t=1\/t=2 by omega) with rfl | rfl | rfl
   ·rw[if_neg (by omega),if_neg (by omega),if_pos (by omega),if_pos (by omega)];rfl
   ·rw[if_neg (by omega),if_pos (by omega),if_pos (by omega)];rfl
   ·rw[if_pos (by omega),if_pos (by omega)];rfl
  ·rw[if_neg e1,List.getElem?_set_ne (by omega),List.getElem?_set_ne (by omega),List.getElem?_set_ne (by omega),flat_get es q t hq ht]
 ·rw[List.getElem?_eq_none (by simp only[List.length_set,hlen];omega),List.getElem?_eq_none (by rw[flat_len,List.length_set];omega)]
theorem flat_set2 {es:List Ent}{k:Nat}(hk:k<es.length)(id:Int):(flat es).set (k*3+2) (.int .i64 id)=flat (es.set k ((es[k]).1,(es[k]).2.1,id)):=by
 rw[<- flat_set3 hk]
 have h0:(flat es).set (k*3) (.string (es[k]).1)=flat es:=by
  have:=flat_get es k 0 hk (by decide)
  apply List.ext_getElem?
  intro j
  rw[List.getElem?_set]
  by_cases e:k*3=j
  ·subst e
   rw[if_pos rfl,if_pos (by rw[flat_len];omega)]
   simpa [encE] using this.symm
  ·rw[if_neg e]
 have h1:(flat es).set (k*3+1) (.int .i64 (es[k]).2.1)=flat es:=by
  have:=flat_get es k 1 hk (by decide)
  apply List.ext_getElem?
  intro j
  rw[List.getElem?_set]
  by_cases e:k*3+1=j
  ·subst e
   rw[if_pos rfl,if_pos (by rw[flat_len];omega)]
   simpa [encE] using this.symm
  ·rw[if_neg e]
 rw[h0,h1]
section
variable {s i p:Nat}{B:WB}{objs:List Ob}
theorem OwnDV.rewrite {tg:Tags}{w w':World}{od:List ByteArray->Option (List Ent)}{lim:Nat}{vD:List ByteArray->Value}(h:OwnDV tg w i B od lim vD){q:List ByteArray}{es es':List Ent}{gb:Nat}(ho:od q=some es)(hgb:(vD q).ownBlock=some gb)(hg:w.grownBy w' (some gb))
  (hrow:w'.ownsRow 0 76 3 (vD q) es'.length (flat es'))(hE:Ents objs es'):OwnDV tg w' i B (upd od q (some es')) lim vD:=by
 obtain⟨n,hn,hm⟩:=h.map
 obtain⟨e0,ck,hb⟩:=hm.isMap
 have hne:B.oD≠gb:=fun e=>owns_ne_map (h.row q es ho).1 (e ▸ hb) hgb.symm
 refine⟨h.tag,⟨n,hn,(hm.keep (hg.block _ hm.lt (fun e=>hne (by injection e)))).congr (fun p hp=>?_)⟩,fun p fs hp=>?_,fun p fs hp=>?_,fun p p' fs fs' gc hp hp' hb1 hb2=>?_⟩
 ·by_cases e:p=q
  ·subst e;rw[upd_same,ho];rfl
  ·rw[upd_other e]
 ·by_cases e:p=q
  ·subst e
   rw[upd_same] at hp
   cases hp
   exact⟨(h.good p es ho).1,hE.rising,hE.len,fun e he=>⟨(hE.ok e he).1,(hE.ok e he).2.1⟩⟩
  ·rw[upd_other e] at hp;exact h.good p fs hp
 ·by_cases e:p=q
  ·subst e
   rw[upd_same] at hp
   cases hp
   exact⟨hrow,(h.row p es ho).2⟩
  ·rw[upd_other e] at hp
   have hr:=h.row p fs hp
   exact hr.keep (fun g' hg' hl=>⟨hg.block g' hl (fun e2=>by
    have e3:g'=gb:=by injection e2
    rw[e3] at hg'
    exact e (h.inj p q fs es gb hp ho hg' hgb)),rfl⟩)
 ·have hp1:∃ f1,od p=some f1:=by
   by_cases e:p=q
   ·rw[e];exact⟨es,ho⟩
   ·rw[upd_other e] at hp;exact⟨fs,hp⟩
  have hp2:∃ f2,od p'=some f2:=by
   by_cases e:p'=q
   ·rw[e];exact⟨es,ho⟩
   ·rw[upd_other e] at hp';exact⟨fs',hp'⟩
  obtain⟨f1,hp1⟩:=hp1
  obtain⟨f2,hp2⟩:=hp2
  exact h.inj p p' f1 f2 gc hp1 hp2 hb1 hb2
theorem ents_zero {es:List Ent}(h:Ents objs es)(n:ByteArray):Ents objs (zeroK es n):=by
 refine⟨?_,by unfold zeroK;rw[List.length_map];exact h.len,fun e he=>?_⟩
 ·unfold RisingK zeroK
  rw[List.pairwise_map]
  refine h.rising.imp fun {a b} hab=>?_
  have e:∀ x:Ent,(if x.1=n then (x.1,x.2.1,(0:Int)) else x).1=x.1:=fun x=>by split <;> rfl
  rw[e,e];exact hab
 ·unfold zeroK at he
  obtain⟨x,hx,rfl⟩:=List.mem_map.1 he
  obtain⟨h1,h2⟩:=h.ok x hx
  by_cases e:x.1=n
  ·rw[if_pos e];exact⟨h1,h2.1,fun h0=>absurd rfl h0⟩
  ·rw[if_neg e];exact⟨h1,h2⟩
theorem WInv.entsOf {tg:Tags}{w:World}{g:WG}{lim:Nat}(h:WInv tg w s i p B objs g lim){q:List ByteArray}{es:List Ent}(ho:g.ft.od q=some es):Ents objs es:=by
 obtain⟨vD,hD⟩:=h.wp.ownD
 obtain⟨_,h1,h2,h3⟩:=hD.good q es ho
 exact⟨h1,h2,fun e he=>⟨(h3 e he).1,h.wp.ok.od q es ho e he⟩⟩
theorem zero_cell {tg:Tags}{w:World}{g:WG}{lim:Nat}{vD:List ByteArray->Value}(h:WInv tg w s i p B objs g lim)(hD:OwnDV tg w i B g.ft.od lim vD){q:List ByteArray}{es:List Ent}{n:ByteArray}{gb ln c:Nat}(ho:g.ft.od q=some es)(hv:vD q=.slice (some ⟨gb,0,none⟩) ln c)(ht:thereK es n=true):
  WInv tg (w.setCell ⟨gb,idxK es n*3+2,none⟩ (.int .i64 0)) s i p B objs { g with ft:={ g.ft with od:=upd g.ft.od q (some (zeroK es n)) } } lim/\OwnDV tg (w.setCell ⟨gb,idxK es n*3+2,none⟩ (.int .i64 0)) i B (upd g.ft.od q (some (zeroK es n))) lim vD/\Moves (fun t=>t=(i,5)) tg tg w (w.setCell ⟨gb,idxK es n*3+2,none⟩ (.int .i64 0)):=by
 have hE:=h.entsOf ho
 obtain⟨hix,hn⟩:=there_at ht
 have hrow:=hD.row q es ho
 have hgb:(vD q).ownBlock=some gb:=by rw[hv];rfl
 have hg:w.grownBy (w.setCell ⟨gb,idxK es n*3+2,none⟩ (.int .i64 0)) (some gb):=grown_set (grown_refl _ _)
 have hE':=ents_zero hE n
 have hr1:=hrow.1
 rw[hv] at hr1
 have hln:ln=es.length:=by
  rcases hr1.2 with ⟨e,_⟩ | ⟨g',c',_,e,_⟩
  ·cases e
  ·cases e;rfl
 subst hln
 have hst:=(hr1.stored (idxK es n*3+2) (.int .i64 0)).1
 have hfl:(flat es).set (idxK es n*3+2) (.int .i64 0)=flat (zeroK es n):=by
  rw[flat_set2 hix,hn,zero_set hE.rising ht hix]
 rw[hfl] at hst
 have hD':=hD.rewrite (objs:=objs) ho hgb hg (by rw[hv];unfold zeroK at hst ⊢;rw[List.length_map];exact hst) hE'
 have m:Moves (fun t=>t=(i,5)) tg tg w (w.setCell ⟨gb,idxK es n*3+2,none⟩ (.int .i64 0)):=moves_grown hg (by simp) (hrow.2 gb hgb)
 refine⟨h.od m (Nat.le_refl _) hD' (fun q' es' ho'=>?_),hD',m⟩
 by_cases e:q'=q
 ·subst e
  have ho'':upd g.ft.od q' (some (zeroK es n)) q'=some es':=ho'
  rw[upd_same] at ho''
  cases ho''
  exact fun e he=>(hE'.ok e he).2
 ·have ho'':upd g.ft.od q (some (zeroK es n)) q'=some es':=ho'
  rw[upd_other e] at ho''
  exact h.wp.ok.od q' es' ho''
end
end Go.Proofs.YtajopoddmfdejaaGreat
