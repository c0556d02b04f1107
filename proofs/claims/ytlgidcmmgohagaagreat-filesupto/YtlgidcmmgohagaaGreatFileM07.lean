/- What is proved here: what the calls on a tree answer and leave. -/
import Derived.Test.YtlgidcmmgohagaaGreatFileM06
import Derived.Test.YtlgidcmmgohagaaGreatFileM02
import Derived.Laws.OwnMore
namespace Go.Proofs.YtlgidcmmgohagaaGreat
open Go.RowKit Go.Sort Go.Shelf Go.Proofs.Tryz
set_option linter.unusedVariables false
set_option maxRecDepth 100000
set_option maxHeartbeats 16000000
def fsAll:FS:=⟨[],false,fun _=>true,fun _=>true⟩
def Fair {β:Type}(fs fs':FS)(x all none:β):Prop:=(fs.Next fs'/\x=all)\/(fs.Fail fs'/\x=none)
theorem all_file (id:Int):fsAll.fileG id=(fsAll,true):=rfl
theorem all_kids (objs:List Ob)(c:LT):kidsG objs fsAll c=(fsAll,kidsE objs c):=by
 cases c <;> rfl
theorem fair_kids (objs:List Ob)(fs:FS)(c:LT):Fair fs (kidsG objs fs c).1 (kidsG objs fs c).2 (kidsG objs fsAll c).2 (14,[]):=by
 rw[all_kids];rcases kidsG_cases objs fs c with ⟨h1,h2⟩ | ⟨h1,h2⟩
 ·exact .inl ⟨h1,h2⟩
 ·exact .inr ⟨h1,h2⟩
theorem all_find (objs:List Ob)(t:LT)(r:List ByteArray):findR objs t fsAll r=(fsAll,findE objs t r):=by
 induction r with
 | nil=>rfl
 | cons n r ih=>
  unfold findR findE;simp only[ih,all_kids];by_cases h0:(findE objs t r).1≠0
  ·simp only[zzD h0]
  ·simp only[zzB h0]
   by_cases hb:(kidsE objs (findE objs t r).2).1≠0
   ·simp only[zzD hb]
   ·simp only[zzB hb]
    cases pickK (kidsE objs (findE objs t r).2).2 n <;> rfl
theorem all_look (objs:List Ob)(t:LT)(r:List ByteArray):lookR objs t fsAll r=(fsAll,lookE objs t r):=by
 unfold lookR lookE;simp only[all_find,all_kids];by_cases h0:(findE objs t r).1≠0
 ·simp only[zzD h0]
 ·simp only[zzB h0]
theorem fair_find (objs:List Ob)(t:LT)(fs:FS)(r:List ByteArray):Fair fs (findR objs t fs r).1 (findR objs t fs r).2 (findR objs t fsAll r).2 (14,.dir 0):=by
 rw[all_find];rcases findR_cases objs t fs r with ⟨h1,h2,_⟩ | ⟨h1,h2⟩
 ·exact .inl ⟨h1,h2⟩
 ·exact .inr ⟨h1,h2⟩
theorem fair_look (objs:List Ob)(t:LT)(fs:FS)(r:List ByteArray):Fair fs (lookR objs t fs r).1 (lookR objs t fs r).2 (lookR objs t fsAll r).2 (14,[]):=by
 rw[all_look];rcases lookR_cases objs t fs r with ⟨h1,h2,_⟩ | ⟨h1,h2⟩
 ·exact .inl ⟨h1,h2⟩
 ·exact .inr ⟨h1,h2⟩
def bytesG (objs:List Ob)(fl:Nat->Option (Int×ByteArray))(fs:FS)(f:Nat):FS×Int×ByteArray:=
 match fl f with
 | none=>(fs,0,⟨#[]⟩)
 | some (id,d)=>if id=0 then (fs,0,d) else if (fs.fileG id).2 then ((fs.fileG id).1,0,bytesOf objs id) else ((fs.fileG id).1,14,⟨#[]⟩)
def sizeG (objs:List Ob)(fl:Nat->Option (Int×ByteArray))(fs:FS):LT->FS×Int×Int
 | .file id=>if (fs.fileG id).2 then ((fs.fileG id).1,0,((bytesOf objs id).size:Int)) else ((fs.fileG id).1,14,0)
 | .held f=>((bytesG objs fl fs f).1,(bytesG objs fl fs f).2.1,((bytesG objs fl fs f).2.2.size:Int))
 | c=>((kidsG objs fs c).1,(kidsG objs fs c).2.1,((kidsG objs fs c).2.2.length:Int))
def statR (objs:List Ob)(fl:Nat->Option (Int×ByteArray))(t:LT)(fs:FS)(r:List ByteArray):FS×Int×Int×Int:=
 let a:=findR objs t fs r
 if a.2.1≠0 then (a.1,a.2.1,0,0) else
 let b:=sizeG objs fl a.1 a.2.2
 if b.2.1≠0 then (b.1,b.2.1,0,0) else (b.1,0,a.2.2.kind,b.2.2)
def mkdirR (objs:List Ob)(t:LT)(fs:FS):List ByteArray->FS×Int×LT
 | []=>(fs,6,t)
 | n :: r=>
  let a:=lookR objs t fs r
  if a.2.1≠0 then (a.1,a.2.1,t) else
  if (pickK a.2.2 n).isSome then (a.1,6,t) else
  if 16<=a.2.2.length then (a.1,11,t) else (a.1,0,modG objs (fun ks=>putK ks n (.own [])) r.reverse t)
def vacantG (objs:List Ob)(fs:FS)(c:LT):FS×Int:=
 if c.kind=1 then (fs,0) else
 let k:=kidsG objs fs c
 if k.2.1=0/\0<k.2.2.length then (k.1,8) else (k.1,k.2.1)
def removeR (objs:List Ob)(t:LT)(fs:FS):List ByteArray->FS×Int×LT
 | []=>(fs,9,t)
 | n :: r=>
  let a:=findR objs t fs (n :: r)
  if a.2.1≠0 then (a.1,a.2.1,t) else
  let v:=vacantG objs a.1 a.2.2
  if v.2≠0 then (v.1,v.2,t) else (v.1,0,modG objs (fun ks=>dropK ks n) r.reverse t)
def yieldsG (objs:List Ob)(fs:FS)(e c:LT):FS×Int:=
 if e.kind=2/\c.kind=1 then (fs,7) else
 if e.kind=1/\c.kind=2 then (fs,5) else vacantG objs fs e
def roomG (objs:List Ob)(fs:FS)(same:Bool)(ks:Kids)(n:ByteArray)(c:LT):FS×Int:=
 match pickK ks n with
 | some e=>yieldsG objs fs e c
 | none=>if 16<=ks.length/\same=false then (fs,11) else (fs,0)
def renameR (objs:List Ob)(t:LT)(fs:FS):List ByteArray->List ByteArray->FS×Int×LT
 | nf :: rf,nt :: rt=>
  let a:=findR objs t fs (nf :: rf)
  if a.2.1≠0 then (a.1,a.2.1,t) else
  if (nf :: rf).reverse <+: (nt :: rt).reverse/\nf :: rf≠nt :: rt then (a.1,9,t) else
  let b:=lookR objs t a.1 rt
  if b.2.1≠0\/nf :: rf=nt :: rt then (b.1,b.2.1,t) else
  let v:=roomG objs b.1 (decide (rf=rt)) b.2.2 nt a.2.2
  if v.2≠0 then (v.1,v.2,t) else
  if 5<((rt.length+1:Nat):Int)+hgt objs 5 a.2.2 then (v.1,11,t) else
  (v.1,0,modG objs (fun ks=>putK ks nt a.2.2) rt.reverse (modG objs (fun ks=>dropK ks nf) rf.reverse t))
 | _,_=>(fs,9,t)
theorem Fair.bind {β γ:Type}{fs fs1 fs2:FS}{x a n:β}{y b m:γ}(h:Fair fs fs1 x a n)(good:fs.Next fs1->x=a->Fair fs1 fs2 y b m)(bad:fs.Fail fs1->x=n->fs2=fs1/\y=m):Fair fs fs2 y b m:=by
 rcases h with ⟨h1,h2⟩ | ⟨h1,h2⟩
 ·rcases good h1 h2 with ⟨k1,k2⟩ | ⟨k1,k2⟩
  ·exact .inl ⟨h1.trans k1,k2⟩
  ·exact .inr ⟨h1.fail k1,k2⟩
 ·obtain⟨rfl,k⟩:=bad h1 h2
  exact .inr ⟨h1,k⟩
theorem fair_same {β:Type}(fs:FS)(x bad:β):Fair fs fs x x bad:=.inl ⟨FS.Next.refl _,rfl⟩
theorem fair_mkdir (objs:List Ob)(t:LT)(fs:FS)(r:List ByteArray):Fair fs (mkdirR objs t fs r).1 (mkdirR objs t fs r).2 (mkdirR objs t fsAll r).2 (14,t):=by
 cases r with
 | nil=>exact fair_same _ _ _
 | cons n r=>
  unfold mkdirR;rcases fair_look objs t fs r with ⟨h1,h2⟩ | ⟨h1,h2⟩
  ·have e1:=congrArg Prod.fst h2
   have e2:=congrArg Prod.snd h2;simp only[e1,e2];refine .inl ⟨?_,?_⟩
   ·split
    ·exact h1
    ·split
     ·exact h1
     ·split <;> exact h1
   ·split
    ·rfl
    ·split
     ·rfl
     ·split <;> rfl
  ·have e1:=congrArg Prod.fst h2
   simp only at e1;simp only[e1];exact .inr ⟨h1,rfl⟩
theorem fair_vacant (objs:List Ob)(fs:FS)(c:LT):Fair fs (vacantG objs fs c).1 (vacantG objs fs c).2 (vacantG objs fsAll c).2 14:=by
 unfold vacantG;by_cases h1:c.kind=1
 ·rw[zzD h1,zzD h1];exact fair_same _ _ _
 ·rw[zzB h1,zzB h1]
  refine (fair_kids objs fs c).bind (fun hn he=>?_) (fun hf he=>?_)
  ·simp only[he]
   by_cases h:(kidsG objs fsAll c).2.1=0/\0<(kidsG objs fsAll c).2.2.length
   ·simp only[zzD h];exact fair_same _ _ _
   ·simp only[zzB h];exact fair_same _ _ _
  ·simp only[he];exact⟨rfl,rfl⟩
theorem fair_remove (objs:List Ob)(t:LT)(fs:FS)(r:List ByteArray):Fair fs (removeR objs t fs r).1 (removeR objs t fs r).2 (removeR objs t fsAll r).2 (14,t):=by
 cases r with
 | nil=>exact fair_same _ _ _
 | cons n r=>
  unfold removeR;refine (fair_find objs t fs (n :: r)).bind (fun hn he=>?_) (fun hf he=>?_)
  ·simp only[he]
   by_cases h0:(findR objs t fsAll (n :: r)).2.1≠0
   ·simp only[zzD h0];exact fair_same _ _ _
   ·simp only[zzB h0]
    have hall:(findR objs t fsAll (n :: r)).1=fsAll:=(by rw[all_find]);rw[hall];generalize (findR objs t fsAll (n :: r)).2.2=c;refine (fair_vacant objs _ c).bind (fun hn he=>?_) (fun hf he=>?_)
    ·simp only[he]
     by_cases hv:(vacantG objs fsAll c).2≠0
     ·simp only[zzD hv];exact fair_same _ _ _
     ·simp only[zzB hv];exact fair_same _ _ _
    ·simp only[he];exact⟨rfl,rfl⟩
  ·simp only[he];exact⟨rfl,rfl⟩
theorem fair_room (objs:List Ob)(fs:FS)(b:Bool)(ks:Kids)(n:ByteArray)(c:LT):Fair fs (roomG objs fs b ks n c).1 (roomG objs fs b ks n c).2 (roomG objs fsAll b ks n c).2 14:=by
 unfold roomG;cases pickK ks n with
 | none=>
  simp only;by_cases h:16<=ks.length/\b=false
  ·rw[zzD h,zzD h];exact fair_same _ _ _
  ·rw[zzB h,zzB h];exact fair_same _ _ _
 | some e=>
  simp only;unfold yieldsG;by_cases h:e.kind=2/\c.kind=1
  ·rw[zzD h,zzD h];exact fair_same _ _ _
  ·rw[zzB h,zzB h]
   by_cases h:e.kind=1/\c.kind=2
   ·rw[zzD h,zzD h];exact fair_same _ _ _
   ·rw[zzB h,zzB h];exact fair_vacant objs fs e
theorem fair_rename (objs:List Ob)(t:LT)(fs:FS)(rf rt:List ByteArray):Fair fs (renameR objs t fs rf rt).1 (renameR objs t fs rf rt).2 (renameR objs t fsAll rf rt).2 (14,t):=by
 cases rf with
 | nil=>cases rt <;> exact fair_same _ _ _
 | cons nf rf=>
  cases rt with
  | nil=>exact fair_same _ _ _
  | cons nt rt=>
   unfold renameR;refine (fair_find objs t fs (nf :: rf)).bind (fun hn he=>?_) (fun hf he=>?_)
   ·simp only[he]
    by_cases h0:(findR objs t fsAll (nf :: rf)).2.1≠0
    ·simp only[zzD h0];exact fair_same _ _ _
    ·simp only[zzB h0]
     by_cases h9:(nf :: rf).reverse <+: (nt :: rt).reverse/\nf :: rf≠nt :: rt
     ·simp only[zzD h9];exact fair_same _ _ _
     ·simp only[zzB h9]
      generalize (findR objs t fs (nf :: rf)).1=fs1;have hall:(findR objs t fsAll (nf :: rf)).1=fsAll:=by rw[all_find]
      rw[hall];generalize (findR objs t fsAll (nf :: rf)).2.2=c;refine (fair_look objs t fs1 rt).bind (fun hn he=>?_) (fun hf he=>?_)
      ·simp only[he]
       by_cases h1:(lookR objs t fsAll rt).2.1≠0\/nf :: rf=nt :: rt
       ·simp only[zzD h1];exact fair_same _ _ _
       ·simp only[zzB h1]
        have hall:(lookR objs t fsAll rt).1=fsAll:=(by rw[all_look]);rw[hall];generalize (lookR objs t fsAll rt).2.2=ks;generalize (lookR objs t fs1 rt).1=fs2;refine (fair_room objs fs2 (decide (rf=rt)) ks nt c).bind (fun hn he=>?_) (fun hf he=>?_)
        ·simp only[he]
         by_cases hv:(roomG objs fsAll (decide (rf=rt)) ks nt c).2≠0
         ·simp only[zzD hv];exact fair_same _ _ _
         ·simp only[zzB hv]
          by_cases h5:5<((rt.length+1:Nat):Int)+hgt objs 5 c
          ·simp only[zzD h5];exact fair_same _ _ _
          ·simp only[zzB h5];exact fair_same _ _ _
        ·simp only[he];exact⟨rfl,rfl⟩
      ·simp only[he]
       rw[zzD (.inl (by decide))];exact⟨rfl,rfl⟩
   ·simp only[he];exact⟨rfl,rfl⟩
theorem fair_file (fs:FS)(id:Int):Fair fs (fs.fileG id).1 (fs.fileG id).2 true false:=by
 rcases fs.fileG_cases id with ⟨h1,h2,_⟩ | ⟨h1,h2⟩
 ·exact .inl ⟨h2,h1⟩
 ·exact .inr ⟨h2,h1⟩
theorem fair_bytes (objs:List Ob)(fl:Nat->Option (Int×ByteArray))(fs:FS)(f:Nat):Fair fs (bytesG objs fl fs f).1 (bytesG objs fl fs f).2 (bytesG objs fl fsAll f).2 (14,⟨#[]⟩):=by
 unfold bytesG;cases fl f with
 | none=>exact fair_same _ _ _
 | some x=>
  obtain⟨id,d⟩:=x;simp only;by_cases h:id=0
  ·rw[zzD h,zzD h];exact fair_same _ _ _
  ·rw[zzB h,zzB h,all_file]
   refine (fair_file fs id).bind (fun hn he=>?_) (fun hf he=>?_)
   ·rw[zzD he];exact fair_same _ _ _
   ·rw[zzB (by rw[he];decide)];exact⟨rfl,rfl⟩
theorem fair_size (objs:List Ob)(fl:Nat->Option (Int×ByteArray))(fs:FS)(c:LT):Fair fs (sizeG objs fl fs c).1 (sizeG objs fl fs c).2 (sizeG objs fl fsAll c).2 (14,0):=by
 cases c with
 | file id=>
  simp only[sizeG,all_file];refine (fair_file fs id).bind (fun hn he=>?_) (fun hf he=>?_)
  ·rw[zzD he];exact fair_same _ _ _
  ·rw[zzB (by rw[he];decide)];exact⟨rfl,rfl⟩
 | held f=>
  simp only[sizeG];refine (fair_bytes objs fl fs f).bind (fun hn he=>?_) (fun hf he=>?_)
  ·simp only[he];exact fair_same _ _ _
  ·simp only[he];exact⟨trivial,rfl⟩
 | dir id=>
  simp only[sizeG];refine (fair_kids objs fs (.dir id)).bind (fun hn he=>?_) (fun hf he=>?_)
  ·simp only[he];exact fair_same _ _ _
  ·simp only[he];exact⟨trivial,rfl⟩
 | own es=>
  simp only[sizeG];refine (fair_kids objs fs (.own es)).bind (fun hn he=>?_) (fun hf he=>?_)
  ·simp only[he];exact fair_same _ _ _
  ·simp only[he];exact⟨trivial,rfl⟩
theorem fair_stat (objs:List Ob)(fl:Nat->Option (Int×ByteArray))(t:LT)(fs:FS)(r:List ByteArray):Fair fs (statR objs fl t fs r).1 (statR objs fl t fs r).2 (statR objs fl t fsAll r).2 (14,0,0):=by
 unfold statR;refine (fair_find objs t fs r).bind (fun hn he=>?_) (fun hf he=>?_)
 ·simp only[he]
  by_cases h0:(findR objs t fsAll r).2.1≠0
  ·simp only[zzD h0];exact fair_same _ _ _
  ·simp only[zzB h0]
   have hall:(findR objs t fsAll r).1=fsAll:=by rw[all_find]
   rw[hall];generalize (findR objs t fsAll r).2.2=c;refine (fair_size objs fl _ c).bind (fun hn he=>?_) (fun hf he=>?_)
   ·simp only[he]
    by_cases hv:(sizeG objs fl fsAll c).2.1≠0
    ·simp only[zzD hv];exact fair_same _ _ _
    ·simp only[zzB hv];exact fair_same _ _ _
   ·simp only[he];exact⟨rfl,rfl⟩
 ·simp only[he];exact⟨rfl,rfl⟩
section
variable {objs:List Ob}{fc:FileC}{t d:LT}{q:List ByteArray}{ks:Kids}{n:ByteArray}
theorem sem_below (ha:t.at objs q=some d)(r:List ByteArray):sem objs fc t (q++r)=sem objs fc d r:=by
 unfold sem;rw[at_append,ha];rfl
theorem sem_kid (ha:t.at objs q=some d)(hk:kids objs d=some ks)(m:ByteArray)(r:List ByteArray):sem objs fc t (q++m :: r)=(pickK ks m).bind fun c=>sem objs fc c r:=by
 rw[sem_below ha,sem_cons,hk,Option.bind_some]
theorem sem_put (hr:RisingK ks)(ha:t.at objs q=some d)(hk:kids objs d=some ks)(c:LT):
  (∀r,sem objs fc (modG objs (fun ks=>putK ks n c) q t) (q++n :: r)=sem objs fc c r)/\∀x,¬(q ++ [n]) <+: x->sem objs fc (modG objs (fun ks=>putK ks n c) q t) x=sem objs fc t x:=by
 obtain⟨h1,h2⟩:=sem_mod objs fc (fun ks=>putK ks n c) q t d ks ha hk;refine⟨fun r=>?_,fun x hx=>?_⟩
 ·rw[h1,pick_put hr,zzD rfl];rfl
 ·by_cases hq:∃m r,x=q++m :: r
  ·obtain⟨m,r,rfl⟩:=hq
   have hm:m≠n:=fun e=>hx (by rw[e];exact⟨r,by simp⟩);rw[h1,pick_put hr,zzB hm,sem_kid ha hk]
  ·exact h2 x hq
theorem sem_drop (hr:RisingK ks)(ht:thereK ks n=true)(ha:t.at objs q=some d)(hk:kids objs d=some ks):
  (∀r,sem objs fc (modG objs (fun ks=>dropK ks n) q t) (q++n :: r)=none)/\∀x,¬(q ++ [n]) <+: x->sem objs fc (modG objs (fun ks=>dropK ks n) q t) x=sem objs fc t x:=by
 obtain⟨h1,h2⟩:=sem_mod objs fc (fun ks=>dropK ks n) q t d ks ha hk;refine⟨fun r=>?_,fun x hx=>?_⟩
 ·rw[h1,pick_drop hr ht,zzD rfl];rfl
 ·by_cases hq:∃m r,x=q++m :: r
  ·obtain⟨m,r,rfl⟩:=hq
   have hm:m≠n:=fun e=>hx (by rw[e];exact⟨r,by simp⟩);rw[h1,pick_drop hr ht,zzB hm,sem_kid ha hk]
  ·exact h2 x hq
end
theorem sem_rename {objs:List Ob}{fc:FileC}(hS:Sound objs){k:Nat}{t:LT}(hok:LTok objs k t){qf qt:List ByteArray}{nf nt:ByteArray}{df dt c:LT}{kf kt:Kids}
  (ha:t.at objs qf=some df)(hk:kids objs df=some kf)(hp:pickK kf nf=some c)(hb:t.at objs qt=some dt)(hkt:kids objs dt=some kt)(hnf:¬(qf ++ [nf]) <+: (qt ++ [nt]))(x:List ByteArray):
  sem objs fc (modG objs (fun ks=>putK ks nt c) qt (modG objs (fun ks=>dropK ks nf) qf t)) x =
   if (qt ++ [nt]) <+: x then sem objs fc t ((qf ++ [nf])++x.drop (qt ++ [nt]).length) else if (qf ++ [nf]) <+: x then none else sem objs fc t x:=by
 have hr:=(ok_kids hS (ok_at hS _ hok ha).2.1 hk).1;have ht:thereK kf nf=true:=by rw[<-pick_there hr,hp];rfl
 have hnq:¬(qf ++ [nf]) <+: qt:=fun h=>hnf (h.trans (List.prefix_append _ _));obtain⟨d1,k1,e1,e2,_⟩:=drop_dir hr ha hk ht hb hkt hnq;have hok1:=drop_ok hS hok ha hk nf;have hr1:=(ok_kids hS (ok_at hS _ hok1 e1).2.1 e2).1;obtain⟨p1,p2⟩:=sem_put (fc:=fc) (n:=nt) hr1 e1 e2 c;obtain⟨s1,s2⟩:=sem_drop (fc:=fc) hr ht ha hk;by_cases h:(qt ++ [nt]) <+: x
 ·rw[zzD h]
  obtain⟨r,rfl⟩:=h;rw[List.drop_left,show (qt ++ [nt])++r=qt++nt :: r by simp,p1,show (qf ++ [nf])++r=qf++nf :: r by simp,sem_kid ha hk,hp];rfl
 ·rw[zzB h,p2 x h]
  by_cases h2:(qf ++ [nf]) <+: x
  ·rw[zzD h2]
   obtain⟨r,rfl⟩:=h2;rw[show (qf ++ [nf])++r=qf++nf :: r by simp,s1]
  ·rw[zzB h2,s2 x h2]
theorem find_sem (objs:List Ob)(fc:FileC)(t:LT):∀r:List ByteArray,
  ((findE objs t r).1=0/\t.at objs r.reverse=some (findE objs t r).2)\/((findE objs t r).1≠0/\sem objs fc t r.reverse=none/\((findE objs t r).1=4\/(findE objs t r).1=5))
 | []=>.inl ⟨rfl,at_nil _ _⟩
 | n :: r=>by
  by_cases h:(findE objs t (n :: r)).1=0
  ·exact .inl ⟨h,(findE_at objs t (n :: r)).1 h⟩
  ·refine .inr ⟨h,?_,?_⟩
   ·unfold sem;rw[(findE_at objs t (n :: r)).2 h];rfl
   ·rcases find_sem objs fc t r with ⟨h0,ha⟩ | ⟨h0,_,h45⟩
    ·rw[findE] at h ⊢
     simp only at h ⊢
     rw[zzB (by simpa using h0)] at h ⊢
     cases hd:(findE objs t r).2 with
     | file i=>rw[hd] at h;simp[kidsE]
     | held f=>rw[hd] at h;simp[kidsE]
     | own es=>simp only[hd,kidsE] at h ⊢;cases hp:pickK es n <;> simp[hp] at h ⊢
     | dir id=>simp only[hd,kidsE] at h ⊢;cases hp:pickK ((entsOf objs id).map kidOf) n <;> simp[hp] at h ⊢
    ·rw[findE]
     simp only
     rw[zzD h0];exact h45
structure Once (a:List Ob):Prop where
 file:∀i (h:i<a.length),a[i].kind=1->fileAt a a[i].data=some i
 dir:∀i (h:i<a.length),a[i].kind=2->dirAt a a[i].ents=some i
theorem Once.snoc {a:List Ob}(h:Once a){o:Ob}(ho:PutOk a o):Once (a ++ [o]):=by
 refine⟨fun i hi hk=>?_,fun i hi hk=>?_⟩
 ·rw[fileAt_snoc]
  by_cases h1:i<a.length
  ·rw[List.getElem_append_left h1] at hk ⊢
   rw[h.file i h1 hk];rfl
  ·have h2:i=a.length:=by simp at hi;omega
   subst h2;simp only[List.getElem_concat_length] at hk ⊢;rcases ho.or with ⟨_,_,_,hf⟩ | ⟨hk2,_⟩
   ·rw[hf,zzD ⟨hk,trivial⟩];rfl
   ·rw[hk] at hk2;cases hk2
 ·rw[dirAt_snoc]
  by_cases h1:i<a.length
  ·rw[List.getElem_append_left h1] at hk ⊢
   rw[h.dir i h1 hk];rfl
  ·have h2:i=a.length:=by simp at hi;omega
   subst h2;simp only[List.getElem_concat_length] at hk ⊢;rcases ho.or with ⟨hk2,_⟩ | ⟨_,_,_,_,_,_,hf⟩
   ·rw[hk] at hk2;cases hk2
   ·rw[hf,zzD ⟨hk,trivial⟩];rfl
theorem pick_getK {ks:Kids}(hr:RisingK ks){k:Nat}(hk:k<ks.length):pickK ks (ks[k]).1=some (ks[k]).2:=by
 cases h:pickK ks (ks[k]).1 with
 | none=>
  exfalso;unfold pickK at h;rw[Option.map_eq_none_iff,List.find?_eq_none] at h;exact h _ (zzJ hk) (by simp)
 | some c=>rw[pick_unique hr h (zzJ hk) rfl]
structure PTp where
 t:PTail
 p:Nat
 base:List Ob
def InvQ (ft:PTp)(F:Nat->Prop)(w:World)(s:Nat)(objs:List Ob):Prop:=InvP ft.t F w s ft.p objs/\ft.base <+: objs/\Exact objs/\Once objs
section
variable {ft:PTp}{F F':Nat->Prop}{w w':World}{s:Nat}{objs objs':List Ob}
theorem InvQ.inv (h:InvQ ft F w s objs):Inv ft.t F w s objs:=h.1.inv
theorem InvQ.keep (h:InvQ ft F w s objs)(hF:∀k,F k->F' k)(hk:∀k,F k->w'.heap[k]? = w.heap[k]?):InvQ ft F' w' s objs:=⟨h.1.keep (fun k _=>hk k) (fun k _=>hF k),h.2⟩
theorem InvQ.below (h:InvQ ft F w s objs)(hb:Below w.heap.size w w')(hF:∀k,k<w.heap.size->F k->F' k):InvQ ft F' w' s objs:=⟨h.1.below hb hF,h.2⟩
theorem file_put_ok {d:ByteArray}{e:Ending}(h:FilePut objs objs' d e):objs'=objs\/∃o,PutOk objs o/\objs'=objs ++ [o]:=by
 rcases h with ⟨_,h,_⟩ | ⟨_,h,_⟩ | ⟨_,_,_,h,_⟩ | ⟨h1,h2,_,h,_⟩
 ·exact .inl h
 ·exact .inl h
 ·exact .inl h
 ·exact .inr ⟨fileOb d,⟨.inl ⟨rfl,rfl,h1,h2⟩⟩,h⟩
theorem dir_put_ok {es:List Ent}{e:Ending}(hX:Exact objs)(h:DirPutG objs objs' es e):objs'=objs\/∃o,PutOk objs o/\objs'=objs ++ [o]:=by
 rcases h with ⟨_,h,_⟩ | ⟨hv,⟨_,h,_⟩ | ⟨_,_,h,_⟩ | ⟨_,_,_,h,_⟩ | ⟨_,h16,hg,es',hP,hR,_,⟨_,h,_⟩ | ⟨_,h,_⟩ | ⟨_,_,_,h,_⟩ | ⟨h5,hd,_,⟨o,hk,he,hh,h⟩,_⟩⟩⟩
 ·exact .inl h
 ·exact .inl h
 ·exact .inl h
 ·exact .inl h
 ·exact .inl h
 ·exact .inl h
 ·exact .inl h
 ·refine .inr ⟨o,⟨.inr ⟨hk,by rw[he];exact hh,by rw[he];exact h5,by rw[he];exact hR,by rw[he,hP.length_eq];exact h16,fun e hme=>?_,by rw[he];exact hd⟩⟩,h⟩
  rw[he] at hme;have hm:=hP.mem_iff.1 hme;have hge:=hg e hm;unfold goodE at hge;simp only[Bool.and_eq_true,Bool.not_eq_true',beq_eq_false_iff_ne,beq_iff_eq] at hge;refine⟨hv e hm,?_,hge.2⟩;obtain⟨k1,k2⟩:=kindOf_pos hge.1
  have:=kind_of_lt hX.kinds k1 k2
  rw[hge.2] at this;exact this
theorem InvQ.put (h:InvQ ft F w s objs)(hp:InvP ft.t F' w' s ft.p objs')(ho:objs'=objs\/∃o,PutOk objs o/\objs'=objs ++ [o]):InvQ ft F' w' s objs':=by
 obtain⟨_,h2,h3,h4⟩:=h;rcases ho with rfl | ⟨o,ho,rfl⟩
 ·exact⟨hp,h2,h3,h4⟩
 ·exact⟨hp,h2.trans (List.prefix_append _ _),h3.snoc ho,h4.snoc ho⟩
theorem storePutFileQ (h:InvQ ft F w s objs)(d:ByteArray)(hd:d.size<=maxLen):
  Calls prog 35 #[.pointer (some ⟨s,0,none⟩),.string d] w fun e w'=>∃objs',FilePut objs objs' d e/\InvQ ft (NewF F w w') w' s objs'/\Keeps F w w':=
 (storePutFileP h.1 d hd).mono fun e w' ⟨objs',h1,h2,h3⟩=>⟨objs',h1,h.put h2 (file_put_ok h1),h3⟩
theorem storePutDirQ (h:InvQ ft F w s objs)(b off m c0:Nat)(es:List Ent)
  (hl:es.length=m)(hbl:b<w.heap.size)(hbig:m*32<=140737488355328)(hc:∀j u,(flat es)[j]? = some u->w.cell? ⟨b,off+j,none⟩=some u)(hsz:∀e ∈ es,e.1.size<=maxLen):
  Calls prog 26 #[.pointer (some ⟨s,0,none⟩),.slice (some ⟨b,off,none⟩) m c0] w fun e w'=>∃objs',DirPutG objs objs' es e/\InvQ ft (NewF F w w') w' s objs'/\Keeps F w w':=
 (storePutDirP h.1 b off m c0 es hl hbl hbig hc hsz).mono fun e w' ⟨objs',h1,h2,h3⟩=>⟨objs',h1,h.put h2 (dir_put_ok h.2.2.1 h1),h3⟩
theorem storeGetFileQ (h:InvQ ft F w s objs)(id:Int):
  Calls prog 40 #[.pointer (some ⟨s,0,none⟩),.int .i64 id] w fun e w'=>FileGot objs id e/\Below w.heap.size w w':=storeGetFile h.inv id
theorem storeGetDirQ (h:InvQ ft F w s objs)(id:Int):
  Calls prog 43 #[.pointer (some ⟨s,0,none⟩),.int .i64 id] w fun e w'=>DirGot w w' objs id e/\Below w.heap.size w w':=storeGetDir h.inv id
theorem storeObjectsQ (h:InvQ ft F w s objs):
  Calls prog 45 #[.pointer (some ⟨s,0,none⟩)] w fun e w'=>e=.returned (.int .i64 (objs.length:Int))/\w'=w:=storeObjects h.inv
end
theorem kind_nil (id:Int):kindOf [] id=0:=kindOf_out (by simp;omega)
theorem exact_nil:Exact []:=⟨⟨fun id=>by unfold highOf;simp,fun id hk=>by rw[kind_nil] at hk;cases hk⟩,fun o ho=>(by cases ho),fun id hk=>(by rw[kind_nil] at hk;cases hk),fun id hk=>(by rw[kind_nil] at hk;cases hk)⟩
theorem once_nil:Once []:=⟨fun i h=>(by cases h),fun i h=>(by cases h)⟩
variable {ft:PTp}
def toItem (e:Ent):Ent:=(e.1,e.2.1,e.2.2-1)
structure AlikeR (o x:Ob):Prop where
 kind:x.kind=o.kind
 data:o.kind=1->x.data=o.data
 ents:o.kind=2->x.ents=o.ents.map toItem
 high:x.high=o.high
 none:o.kind=1->x.ents = []
 empty:o.kind=2->x.data=ByteArray.empty
theorem getFile_at {F:Nat->Prop}{w:World}{s:Nat}{objs:List Ob}(h:InvQ ft F w s objs)(j:Nat)(hj:j<objs.length)(hk:objs[j].kind=1):
  Calls prog 40 #[.pointer (some ⟨s,0,none⟩),.int .i64 ((j:Int)+1)] w fun e w'=>e=.returned (.tuple #[.string objs[j].data,.int .i64 0])/\Below w.heap.size w w':=by
 refine (storeGetFileQ h ((j:Int)+1)).mono fun e w' ⟨hf,hb⟩=>⟨?_,hb⟩;rcases hf with ⟨h1,_⟩ | ⟨j',hj',he,_,h2⟩
 ·rw[kindOf_in hj] at h1;exact absurd hk h1
 ·have:j'=j:=by omega
  subst this;exact h2
theorem getDir_at {F:Nat->Prop}{w:World}{s:Nat}{objs:List Ob}(h:InvQ ft F w s objs)(j:Nat)(hj:j<objs.length)(hk:objs[j].kind=2):
  Calls prog 43 #[.pointer (some ⟨s,0,none⟩),.int .i64 ((j:Int)+1)] w fun e w'=>∃g,e=.returned (.tuple #[.slice (some ⟨g,0,none⟩) objs[j].ents.length objs[j].ents.length,.int .i64 0])/\
   w'.ownsRow w.heap.size 96 3 (.slice (some ⟨g,0,none⟩) objs[j].ents.length objs[j].ents.length) objs[j].ents.length (flat objs[j].ents)/\Below w.heap.size w w':=by
 refine (storeGetDirQ h ((j:Int)+1)).mono fun e w' ⟨hf,hb⟩=>?_;rcases hf with ⟨h1,_⟩ | ⟨j',hj',he,_,g,h2,h3⟩
 ·rw[kindOf_in hj] at h1;exact absurd hk h1
 ·have:j'=j:=by omega
  subst this;exact⟨g,h2,h3,hb⟩
section
variable {F G Fs:Nat->Prop}{w:World}{W s r:Nat}{ia ka pa:Option Addr}{ic kc pc:Nat}{ids:List Int}{known:List Bool}{paths:List Int}{c5 c6 c7 c8 c9 c10 c11:Value}{ros objs:List Ob}
theorem holds_file (h:LawAt F w W s r ia ka pa ic kc pc ids known paths c5 c6 c7 c8 c9 c10 c11)(hr:RefInv G w r ros)(hs:InvQ ft Fs w s objs)(j:Nat)(hj:j<objs.length)(hjr:j<ros.length)(hk:objs[j].kind=1)(hx:AlikeR objs[j] ros[j]):
  Calls prog 80 #[.pointer (some ⟨W,0,none⟩),.int .i64 (j:Int),.int .i64 ((j:Int)+1)] w fun e w'=>e=.returned (.tuple #[.slice none 0 0,.bool true])/\Below w.heap.size w w':=by
 have k0:=h.c0;have k1:=h.c1;have hWl:=h.lt;obtain⟨ra,rcap,hra⟩:=hr;have r0:=hra.c0;have hrl:=hra.lt;have hm:=hra.many;obtain⟨g,rfl,hgl,q0,q1,q2,q3⟩:=row_obs hra.row rfl hjr;have hd:=hx.data hk;have hkk:=hx.kind;rw[hkk,hk] at q0;rw[hd] at q1;have b1:∀B,Below w.heap.size w (w.alloc B):=fun B=>(Below.refl _ _).alloc (zzC _) _;have hget:=fun (B:Obj)=>getFile_at (hs.below (b1 B) (fun _ _ h=>h)) j hj hk;have HGl:Hid (∀B:Obj,Calls prog 40 #[.pointer (some ⟨s,0,none⟩),.int .i64 ((j:Int)+1)] (w.alloc B) fun e w'=>e=.returned (.tuple #[.string objs[j].data,.int .i64 0])/\Below (w.alloc B).heap.size (w.alloc B) w'):=hget;clear h hra hd hkk hx hs hk hget;go_enter func80,ntmps80;go_wp2_with fail;refine (HGl.out _).mono ?_;rintro e w1 ⟨rfl,hb1⟩;have bx:=hb1.cell (p:=⟨w.heap.size,1,none⟩) (by simp);have hbw:=(b1 _).trans (hb1.mono (by simp));simp at bx;go_wp2;go_ret2;exact⟨rfl,hbw⟩
theorem holds_dir (h:LawAt F w W s r ia ka pa ic kc pc ids known paths c5 c6 c7 c8 c9 c10 c11)(hr:RefInv G w r ros)(hs:InvQ ft Fs w s objs)(j:Nat)(hj:j<objs.length)(hjr:j<ros.length)(hk:objs[j].kind=2)(hx:AlikeR objs[j] ros[j]):
  Calls prog 80 #[.pointer (some ⟨W,0,none⟩),.int .i64 (j:Int),.int .i64 ((j:Int)+1)] w fun e w'=>∃g,e=.returned (.tuple #[.slice (some ⟨g,0,none⟩) objs[j].ents.length objs[j].ents.length,.bool true])/\
   w'.ownsRow w.heap.size 96 3 (.slice (some ⟨g,0,none⟩) objs[j].ents.length objs[j].ents.length) objs[j].ents.length (flat objs[j].ents)/\Below w.heap.size w w':=by
 have k0:=h.c0;have k1:=h.c1;have hWl:=h.lt;obtain⟨ra,rcap,hra⟩:=hr;have r0:=hra.c0;have hrl:=hra.lt;have hm:=hra.many;obtain⟨g,rfl,hgl,q0,q1,q2,q3⟩:=row_obs hra.row rfl hjr;have hob:=hra.obs _ (zzJ hjr);have he:=hx.ents hk;have hkk:=hx.kind;rw[hkk,hk] at q0;have b1:∀B,Below w.heap.size w (w.alloc B):=fun B=>(Below.refl _ _).alloc (zzC _) _;have hget:=fun (B:Obj)=>getDir_at (hs.below (b1 B) (fun _ _ h=>h)) j hj hk;obtain⟨es,hes⟩:∃es,es=objs[j].ents:=⟨_,rfl⟩;rw[<-hes] at hget he ⊢;have hrow:=hob.row;have hlen:=hob.len;have hfew:=hob.few;rw[he] at hrow hlen;rw[List.length_map] at hlen;rw[<-hlen] at hrow q2 hfew;obtain⟨oa,hoa⟩:∃oa,oa=ros[j].ea:=⟨_,rfl⟩;obtain⟨oc,hoc⟩:∃oc,oc=ros[j].ec:=⟨_,rfl⟩;rw[<-hoa,<-hoc] at hrow q2;obtain⟨m,hmm⟩:∃m,m=es.length:=⟨_,rfl⟩;rw[<-hmm] at hrow q2 hfew hget ⊢;have HM:Hid (m=es.length):=hmm;have HGl:Hid (∀B:Obj,Calls prog 43 #[.pointer (some ⟨s,0,none⟩),.int .i64 ((j:Int)+1)] (w.alloc B) fun e w'=>∃g,e=.returned (.tuple #[.slice (some ⟨g,0,none⟩) m m,.int .i64 0])/\w'.ownsRow (w.alloc B).heap.size 96 3 (.slice (some ⟨g,0,none⟩) m m) m (flat es)/\Below (w.alloc B).heap.size (w.alloc B) w'):=hget;have HRW:Hid (w.ownsRow 0 112 3 (.slice oa m oc) m (flat (es.map toItem))):=hrow;clear h hra hkk hx hs hk hget hes he hob hlen hoa hoc hmm hrow;go_enter func80,ntmps80;go_wp2_with fail;refine (HGl.out _).mono ?_;rintro e w1 ⟨gl,rfl,hown1,hb1⟩;have bx:=hb1.cell (p:=⟨w.heap.size,2,none⟩) (by simp);have hbw:=(b1 _).trans (hb1.mono (by simp));simp at bx;have HOW:Hid (w1.ownsRow w.heap.size 96 3 (.slice (some ⟨gl,0,none⟩) m m) m (flat es)):=owns_mono hown1 (by simp);have hml:((m:Int) != (m:Int))=false:=by simp
 clear hown1 hb1 HGl;go_wp2
 go_loopw [13] (fun i wr=>∃k:Nat,k<=m/\i=.int .i64 k/\(∃q,wr=w1.drewN q)) (fun i _=>m-(intOf i).toNat)
 case atStart=>exact⟨0,zzF _,rfl,⟨0,rfl⟩⟩
 case round=>
  obtain⟨k,hk,rfl,⟨q,rfl⟩⟩:=hrel;by_cases hlt:k<m
  ·have hke:k<es.length:=by rw[<-HM.out];exact hlt
   have hkm:k<(es.map toItem).length:=by simpa using hke
   obtain⟨gi,ci,hvi⟩:=slice_of_owns HRW.out (by omega);obtain rfl:=(Value.slice.inj hvi).1;have hgil:gi<w.heap.size:=ownsRow_lt HRW.out rfl;obtain⟨t0,t1,_⟩:=row_cells (off:=0) (owns_cells HRW.out) hkm;obtain⟨u0,u1,_⟩:=row_cells (off:=0) (owns_cells HOW.out) hke;rw[Nat.zero_add] at t0 t1 u0 u1;have t0':=(hbw.cell (p:=⟨gi,k*3,none⟩) hgil).trans t0;have t1':=(hbw.cell (p:=⟨gi,k*3+1,none⟩) hgil).trans t1;have t0'':=fun q=>(show (w1.drewN q).cell? ⟨gi,k*3,none⟩=some (.string es[k].1) by rw[List.getElem_map] at t0';exact t0');have t1'':=fun q=>(show (w1.drewN q).cell? ⟨gi,k*3+1,none⟩=some (.int .i64 es[k].2.1) by rw[List.getElem_map] at t1';exact t1');have u0'':=fun q=>(show (w1.drewN q).cell? ⟨gl,k*3,none⟩=some (.string es[k].1) from u0);have u1'':=fun q=>(show (w1.drewN q).cell? ⟨gl,k*3+1,none⟩=some (.int .i64 es[k].2.1) from u1);have bx'':=fun q=>(show (w1.drewN q).cell? ⟨w.heap.size,2,none⟩=some (.slice (some ⟨gi,0,none⟩) m oc) from bx);have hkm':(k:Int)<(m:Int):=by omega
   have hee:(es[k].1.toList == es[k].1.toList)=true:=by simp
   have hkk:(es[k].2.1 != es[k].2.1)=false:=by simp
   clear t0 t1 t0' t1' u0 u1 hvi;go_wp2
   go_quiet (fail)
   go_wp2;go_roundw
   case rel=>exact⟨k+1,by omega,by go_num,⟨_,rfl⟩⟩
   case measure=>simp[intOf];omega
  ·go_wp2
   go_ret2;exact⟨gl,rfl,HOW.out,below_drewN hbw q⟩
end
variable {ft:PTp}
def idsN (n:Nat):List Int:=(List.range n).map fun i:Nat=>(i:Int)+1
theorem idsN_len (n:Nat):(idsN n).length=n:=by simp[idsN]
theorem idsN_get {n j:Nat}(h:j<n):(idsN n)[j]? = some ((j:Int)+1):=by simp[idsN,h]
theorem idsN_succ (n:Nat):idsN (n+1)=idsN n ++ [(n:Int)+1]:=by simp[idsN,List.range_succ]
theorem place_idsN {n j:Nat}(h:j<n)(zs:List Int):placeOf (idsN n++zs) ((j:Int)+1)=some j:=by
 unfold placeOf;rw[zzD (by omega)];have hl:j<(idsN n++zs).length:=by simp[idsN_len];omega
 refine List.findIdx?_eq_some_iff_getElem.2 ⟨hl,?_,fun i hi=>?_⟩
 ·have:(idsN n++zs)[j]? = some ((j:Int)+1):=by rw[List.getElem?_append_left (by rw[idsN_len];exact h)];exact idsN_get h
  obtain⟨_,e⟩:=List.getElem?_eq_some_iff.1 this;rw[e];simp
 ·have:(idsN n++zs)[i]? = some ((i:Int)+1):=by rw[List.getElem?_append_left (by rw[idsN_len];omega)];exact idsN_get (by omega)
  obtain⟨_,e⟩:=List.getElem?_eq_some_iff.1 this;rw[e];simp;omega
theorem place_out {n:Nat}{id:Int}(h:id<1\/(n:Int)<id)(zs:List Int)(hz:∀z ∈ zs,z=0):placeOf (idsN n++zs) id=none:=by
 unfold placeOf;split
 ·next hp=>
  refine List.findIdx?_eq_none_iff.2 fun x hx=>?_;rcases List.mem_append.1 hx with hx | hx
  ·simp only[idsN,List.mem_map,List.mem_range] at hx
   obtain⟨i,hi,rfl⟩:=hx;simp;omega
  ·rw[hz x hx];simp;omega
 ·rfl
section
variable {F G Fs:Nat->Prop}{w:World}{W s r:Nat}{ia ka pa:Option Addr}{ic kc pc:Nat}{ids:List Int}{known:List Bool}{paths:List Int}{c5 c6 c7 c8 c9 c10 c11:Value}{ros objs:List Ob}
theorem keeps_set {F:Nat->Prop}{w:World}{g j:Nat}{v:Value}(hg:F g):Keeps F w (w.setCell ⟨g,j,none⟩ v):=
 ⟨rfl,rfl,rfl,by simp,fun k hk hn=>Below.heap_setCell _ _ _ _ (fun e=>hn (by cases e;exact hg))⟩
theorem row_set_other {w:World}{b:Nat}{t t':TypeId}{z n:Nat}{v u:Value}{xs:List Value}{g j:Nat}{cur:Array Value}(h:w.ownsRow b t z v n xs)(hg:w.heap[g]? = some (.cells cur t' (0,0)))(ht:t'≠t):(w.setCell ⟨g,j,none⟩ u).ownsRow b t z v n xs:=
 ownsRow_keep h (fun k hk=>Below.heap_setCell _ _ _ _ (fun e=>owns_ne_cells h hg ht (by cases e;exact hk.symm)))
theorem LawAt.setI {g:Nat}(h:LawAt F w W s r (some ⟨g,0,none⟩) ka pa ic kc pc ids known paths c5 c6 c7 c8 c9 c10 c11)(j:Nat)(x:Int):
  LawAt F (w.setCell ⟨g,j,none⟩ (.int .i64 x)) W s r (some ⟨g,0,none⟩) ka pa ic kc pc (ids.set j x) known paths c5 c6 c7 c8 c9 c10 c11/\Keeps F w (w.setCell ⟨g,j,none⟩ (.int .i64 x)):=by
 obtain⟨cur,hc⟩:=owns_block h.rowI rfl;have hl:(ids.set j x).length=ids.length:=by simp
 refine⟨⟨h.fw,?_,?_,row_set_other h.rowK hc (by decide),row_set_other h.rowP hc (by decide),?_,h.fk,h.fp⟩,keeps_set (h.fi g rfl)⟩
 ·rw[hl,Below.heap_setCell _ _ _ _ (fun e=>owns_ne_cells h.rowI h.hW (by decide) (by rw[show W=g from e];rfl))];exact h.hW
 ·rw[hl]
  have:=(h.rowI.stored j (.int .i64 x)).1
  rw[encI,List.map_set];exact this
 ·rw[hl];exact h.fi
theorem LawAt.setK {g:Nat}(h:LawAt F w W s r ia (some ⟨g,0,none⟩) pa ic kc pc ids known paths c5 c6 c7 c8 c9 c10 c11)(j:Nat)(x:Bool):
  LawAt F (w.setCell ⟨g,j,none⟩ (.bool x)) W s r ia (some ⟨g,0,none⟩) pa ic kc pc ids (known.set j x) paths c5 c6 c7 c8 c9 c10 c11/\Keeps F w (w.setCell ⟨g,j,none⟩ (.bool x)):=by
 obtain⟨cur,hc⟩:=owns_block h.rowK rfl;have hl:(known.set j x).length=known.length:=by simp
 refine⟨⟨h.fw,?_,row_set_other h.rowI hc (by decide),?_,row_set_other h.rowP hc (by decide),h.fi,?_,h.fp⟩,keeps_set (h.fk g rfl)⟩
 ·rw[hl,Below.heap_setCell _ _ _ _ (fun e=>owns_ne_cells h.rowK h.hW (by decide) (by rw[show W=g from e];rfl))];exact h.hW
 ·rw[hl]
  have:=(h.rowK.stored j (.bool x)).1
  rw[encB,List.map_set];exact this
 ·rw[hl];exact h.fk
def LawS (F:Nat->Prop)(w:World)(W s r n:Nat)(c5 c6 c7 c8 c9 c10 c11:Value):Prop:=
 ∃ia ka pa ic kc pc paths,LawAt F w W s r ia ka pa ic kc pc (idsN n) (List.replicate n true) paths c5 c6 c7 c8 c9 c10 c11/\paths.length=n/\PathsOk paths
def Below0 (ros:List Ob):Prop:=∀i (hi:i<ros.length),∀e ∈ ros[i].ents,0<=e.2.2/\e.2.2<(i:Int)
theorem learns_known {n:Nat}(h:LawS F w W s r n c5 c6 c7 c8 c9 c10 c11)(hr:RefInv G w r ros)(hGF:∀k,G k->k<w.heap.size/\¬F k)(hn:ros.length=n)(hA:Below0 ros)(j:Nat)(hj:j<n):
  Calls prog 37 #[.pointer (some ⟨W,0,none⟩),.int .i64 (j:Int),.int .i64 ((j:Int)+1)] w fun e w'=>e=.returned (.bool true)/\LawS (NewF F w w') w' W s r n c5 c6 c7 c8 c9 c10 c11/\Keeps F w w':=by
 obtain⟨ia,ka,pa,ic,kc,pc,paths,hl,hpl,hpr⟩:=h;have hm:n<=400:=by obtain⟨_,_,h⟩:=hr;rw[<-hn];exact h.many
 have hgr:=grows_any hl hr hGF (by simp[idsN_len]) (by rw[hpl,idsN_len]) (by rw[idsN_len];omega) hA hpr;rw[idsN_len,hn,Nat.sub_self] at hgr;clear hl hr hpl hpr;go_enter func37,ntmps37;go_wp2_with fail;refine hgr.mono ?_;rintro e w1 ⟨rfl,ia,ka,pa,ic,kc,pc,paths,hl,hpl,hpr,hkp⟩;simp only[List.replicate_zero,List.append_nil,Nat.add_zero] at hl hpl;clear hgr;have hpc:=place_any hl ((j:Int)+1) (by rw[idsN_len];exact hm);have e:=place_idsN hj [];rw[List.append_nil] at e;rw[e] at hpc;have hpc':Calls prog 41 #[.pointer (some ⟨W,0,none⟩),.int .i64 ((j:Int)+1)] w1 fun e w'=>e=.returned (.int .i64 (j:Int))/\w'=w1:=hpc;clear hpc e;have k2:=hl.c2;have k3:=hl.c3;rw[idsN_len] at k2;rw[List.length_replicate] at k3;have hWl:=hl.lt;obtain⟨g,hia,hgl,cc,_⟩:=row_one hl.rowI (i:=j) (v:=.int .i64 ((j:Int)+1)) (by simp[encI,idsN_get hj]);subst hia;obtain⟨gk,hka,hgkl,ck,_⟩:=row_one hl.rowK (i:=j) (v:=.bool true) (by simp[encB,hj]);subst hka;have hfz:w1.frozen? ⟨g,j,none⟩=false:=by have:=hl.rowI;rw[idsN_len] at this;exact this.frozenAt j
 have hsame:=setCell_self cc;have n1:¬(j:Int)+1<1:=by omega
 have n1':decide ((j:Int)+1<1)=false:=zzE n1;have n2:((j:Int)+1 != 0)=true:=by simp;omega
 have n3:((j:Int)+1 != (j:Int)+1)=false:=by simp
 have n4:((j:Int) != (j:Int))=false:=by simp
 have HF:Hid (LawS (NewF F w w1) w1 W s r n c5 c6 c7 c8 c9 c10 c11/\Keeps F w w1):=⟨⟨_,_,pa,ic,kc,pc,paths,hl,hpl,hpr⟩,hkp⟩;clear hl hpr hkp;go_wp2_with fail;refine hpc'.mono ?_;rintro e w2 ⟨rfl,rfl⟩;go_wp2;go_ret;exact⟨rfl,HF.out⟩
theorem keeps_below {F:Nat->Prop}{w w1 w2:World}(h:Keeps F w w1)(hb:Below w1.heap.size w1 w2):Keeps F w w2:=
 ⟨hb.os.trans h.os,hb.tape.trans h.tape,hb.output.trans h.output,zzG h.size hb.size,fun k hk hn=>(hb.block k (zzA hk h.size)).trans (h.block k hk hn)⟩
theorem LawS.mono {F F':Nat->Prop}{w:World}{W s r n:Nat}{c5 c6 c7 c8 c9 c10 c11:Value}(h:LawS F w W s r n c5 c6 c7 c8 c9 c10 c11)(hF:∀k,F k->F' k):LawS F' w W s r n c5 c6 c7 c8 c9 c10 c11:=by
 obtain⟨ia,ka,pa,ic,kc,pc,paths,hl,hp⟩:=h;exact⟨ia,ka,pa,ic,kc,pc,paths,hl.mono hF,hp⟩
theorem LawS.drew {F:Nat->Prop}{w:World}{W s r n:Nat}{c5 c6 c7 c8 c9 c10 c11:Value}(h:LawS F w W s r n c5 c6 c7 c8 c9 c10 c11):LawS F w.drew W s r n c5 c6 c7 c8 c9 c10 c11:=by
 obtain⟨ia,ka,pa,ic,kc,pc,paths,hl,hp⟩:=h;exact⟨ia,ka,pa,ic,kc,pc,paths,hl.keep (fun _ h=>h) (fun _ _=>rfl),hp⟩
theorem set_last (n:Nat)(x:Int):(idsN n ++ [(0:Int)]).set n x=idsN n ++ [x]:=by
 rw[List.set_append_right _ _ (by rw[idsN_len];exact zzC _),idsN_len,Nat.sub_self];rfl
theorem set_lastB (n:Nat):(List.replicate n true ++ [false]).set n true=List.replicate (n+1) true:=by
 rw[List.set_append_right _ _ (by simp),List.length_replicate,Nat.sub_self,List.replicate_succ'];rfl
theorem learns_new {n:Nat}(h:LawS F w W s r n c5 c6 c7 c8 c9 c10 c11)(hr:RefInv G w r ros)(hs:InvQ ft Fs w s objs)(hGF:∀k,G k->k<w.heap.size/\¬F k)(hSF:∀k,Fs k->k<w.heap.size/\¬F k)(hFl:∀k,F k->k<w.heap.size)
  (hn:ros.length=n+1)(ho:objs.length=n+1)(hA:Below0 ros)(hx:AlikeR (objs[n]'(by omega)) (ros[n]'(by omega))):
  Calls prog 37 #[.pointer (some ⟨W,0,none⟩),.int .i64 (n:Int),.int .i64 ((n:Int)+1)] w fun e w'=>e=.returned (.bool true)/\LawS (NewF F w w') w' W s r (n+1) c5 c6 c7 c8 c9 c10 c11/\Keeps F w w':=by
 obtain⟨ia,ka,pa,ic,kc,pc,paths,hl,hpl,hpr⟩:=h;have hm:n+1<=400:=by obtain⟨_,_,h⟩:=hr;rw[<-hn];exact h.many
 have hgr:=grows_any hl hr hGF (by simp[idsN_len]) (by rw[hpl,idsN_len]) (by rw[idsN_len];omega) hA hpr;rw[idsN_len,hn,Nat.add_sub_cancel_left] at hgr;have HR:Hid (RefInv G w r ros):=hr;have HI:Hid (InvQ ft Fs w s objs):=hs;have HG:Hid (∀k,G k->k<w.heap.size/\¬F k):=hGF;have HS:Hid (∀k,Fs k->k<w.heap.size/\¬F k):=hSF;have HFl:Hid (∀k,F k->k<w.heap.size):=hFl;have HA:Hid (Below0 ros):=hA;have HN:Hid (ros.length=n+1):=hn;have HO:Hid (objs.length=n+1):=ho;have hnr:n<ros.length:=by omega
 have hno:n<objs.length:=by omega
 have HX:Hid (AlikeR objs[n] ros[n]):=hx;clear hl hr hpl hpr hs hGF hSF hFl hA hx hn ho;go_enter func37,ntmps37;go_wp2_with fail;refine hgr.mono ?_;rintro e w1 ⟨rfl,ia,ka,pa,ic,kc,pc,paths,hl,hpl,hpr,hkp⟩;simp only[List.replicate_one] at hl;clear hgr;have hpc:=place_any hl ((n:Int)+1) (by simp[idsN_len];omega);rw[place_out (.inr (by omega)) [0] (fun z hz=>List.mem_singleton.1 hz)] at hpc;have hpc':Calls prog 41 #[.pointer (some ⟨W,0,none⟩),.int .i64 ((n:Int)+1)] w1 fun e w'=>e=.returned (.int .i64 (-1))/\w'=w1:=hpc;clear hpc;have k2:=hl.c2;have k3:=hl.c3;have li:(idsN n ++ [(0:Int)]).length=n+1:=by simp[idsN_len]
 have lk:(List.replicate n true ++ [false]).length=n+1:=by simp
 rw[li] at k2;rw[lk] at k3;have hWl:=hl.lt;obtain⟨g,hia,hgl,cc,_⟩:=row_one hl.rowI (i:=n) (v:=.int .i64 0) (by simp[encI,idsN_len]);subst hia;obtain⟨gk,hka,hgkl,ck,_⟩:=row_one hl.rowK (i:=n) (v:=.bool false) (by simp[encB]);subst hka;have hfz:w1.frozen? ⟨g,n,none⟩=false:=by have:=hl.rowI;rw[li] at this;exact this.frozenAt n
 have hfk:w1.frozen? ⟨gk,n,none⟩=false:=by have:=hl.rowK;rw[lk] at this;exact this.frozenAt n
 have ggk:g≠gk:=by
  obtain⟨_,h1⟩:=owns_block hl.rowI rfl;obtain⟨_,h2⟩:=owns_block hl.rowK rfl;exact cells_ne h1 h2 (by decide)
 have gW:g≠W:=by
  obtain⟨_,h1⟩:=owns_block hl.rowI rfl;exact cells_ne h1 hl.hW (by decide)
 have gkW:gk≠W:=by
  obtain⟨_,h1⟩:=owns_block hl.rowK rfl;exact cells_ne h1 hl.hW (by decide)
 have n1':decide ((n:Int)+1<1)=false:=zzE (by omega);have nn:(n:Int)<(n:Int)+1:=by omega
 have L2:=hl.setI n ((n:Int)+1);have L3:=L2.1.setK n true;rw[set_last,<-idsN_succ,set_lastB] at L3;have HL3:Hid _:=L3;have HK3:Hid (Keeps F w ((w1.setCell ⟨g,n,none⟩ (.int .i64 ((n:Int)+1))).setCell ⟨gk,n,none⟩ (.bool true))):=by
  have a:Keeps (NewF F w w1) w1 ((w1.setCell ⟨g,n,none⟩ (.int .i64 ((n:Int)+1))).setCell ⟨gk,n,none⟩ (.bool true)):=⟨rfl,rfl,rfl,by simp,fun k hk hnF=>(L3.2.block k (by simpa using hk) hnF).trans (L2.2.block k hk hnF)⟩;exact keeps_trans hkp a
 have HP:Hid (paths.length=n+1/\PathsOk paths):=⟨hpl,hpr⟩;clear hl hpr hkp L2 L3 hpl;go_wp2_with fail;refine hpc'.mono ?_;rintro e w2 ⟨rfl,rfl⟩;clear hpc';go_wp2_with fail;have hss:w2.heap.size=((w2.setCell ⟨g,n,none⟩ (.int .i64 ((n:Int)+1))).setCell ⟨gk,n,none⟩ (.bool true)).heap.size:=by simp
 obtain⟨w3,hw3⟩:∃w3,w3=(w2.setCell ⟨g,n,none⟩ (.int .i64 ((n:Int)+1))).setCell ⟨gk,n,none⟩ (.bool true):=⟨_,rfl⟩;rw[<-hw3] at HL3 HK3 hss ⊢;have hl3:LawAt (NewF F w w3) w3 W s r (some ⟨g,0,none⟩) (some ⟨gk,0,none⟩) pa ic kc pc (idsN (n+1)) (List.replicate (n+1) true) paths c5 c6 c7 c8 c9 c10 c11:=HL3.out.1.mono (fun k hk=>by rcases hk with h | h;exact .inl h;exact .inr ⟨h.1,by omega⟩);have HL:Hid (LawAt (NewF F w w3) w3 W s r (some ⟨g,0,none⟩) (some ⟨gk,0,none⟩) pa ic kc pc (idsN (n+1)) (List.replicate (n+1) true) paths c5 c6 c7 c8 c9 c10 c11):=hl3;have R3:Hid (RefInv G w3 r ros):=ref_stays HR.out HG.out HK3.out;have I3:Hid (InvQ ft Fs w3 s objs):=HI.out.keep (fun _ h=>h) (fun k hk=>HK3.out.block k (HS.out k hk).1 (HS.out k hk).2);clear hl3 cc ck hfz hfk k2 k3 hgl hgkl hw3 HL3 hWl li lk;have hkinds:objs[n].kind=1\/objs[n].kind=2:=by exact I3.out.2.2.1.kinds _ (zzJ hno)
 rcases hkinds with hkd | hkd
 ·have hho:=holds_file HL.out R3.out I3.out n hno hnr hkd HX.out
  clear hkd;refine hho.mono ?_;rintro e w4 ⟨rfl,hb4⟩;clear hho;have HF:Hid (LawS (NewF F w w4) w4 W s r (n+1) c5 c6 c7 c8 c9 c10 c11/\Keeps F w w4):=⟨⟨_,_,pa,ic,kc,pc,paths,(HL.out.below hb4).mono (fun k hk=>by rcases hk with h | h;exact .inl h;exact .inr ⟨h.1,zzA h.2 hb4.size⟩),HP.out⟩,keeps_below HK3.out hb4⟩;go_wp2
  go_loopw [9,10] (fun o i wr=>o=.bool true/\i=.int .i64 0/\wr=w4) (fun _ _ _=>0)
  case atStart=>exact⟨rfl,rfl,rfl⟩
  case round=>
   obtain⟨rfl,rfl,rfl⟩:=hrel;go_wp2;go_ret;exact⟨rfl,HF.out⟩
 ·have hho:=holds_dir HL.out R3.out I3.out n hno hnr hkd HX.out
  have hents:=HX.out.ents hkd;obtain⟨es,hes⟩:∃es,es=objs[n].ents:=⟨_,rfl⟩;rw[<-hes] at hho hents;have hat:=HA.out n hnr;rw[hents] at hat;have HAT:Hid (∀e ∈ es,1<=e.2.2/\e.2.2<=(n:Int)):=fun e he=>by
   have:0<=e.2.2-1/\e.2.2-1<(n:Int):=hat (toItem e) (List.mem_map_of_mem he)
   omega
  have hfew:Hid (es.length<=16):=by
   obtain⟨_,_,hra⟩:=R3.out;have h1:=(hra.obs _ (zzJ hnr)).len;have h2:=(hra.obs _ (zzJ hnr)).few;rw[hents,List.length_map] at h1;show _<=_;omega
  have HEN:Hid (ros[n].ents=es.map toItem):=hents;clear hkd hents hat hes;obtain⟨m,hmm⟩:∃m,m=es.length:=⟨_,rfl⟩;rw[<-hmm] at hho hfew;have hm16:m<=16:=hfew.out;have HM:Hid (m=es.length):=hmm;clear hmm;refine hho.mono ?_;rintro e w4 ⟨gl,rfl,hown4,hb4⟩;clear hho;have hl4:Hid (gl<w4.heap.size/\w3.heap.size<=gl):=by have:=hown4.lt gl rfl;exact⟨this.2,this.1⟩
  have HO4:Hid (w4.ownsRow w3.heap.size 96 3 (.slice (some ⟨gl,0,none⟩) m m) m (flat es)):=hown4;have hF3:Hid (∀k,NewF F w w3 k->k<w3.heap.size):=fun k hk=>by rcases hk with h | h;exact zzA (HFl.out k h) HK3.out.size;exact h.2
  have hLS:Hid (LawS (NewF F w w3) w4 W s r (n+1) c5 c6 c7 c8 c9 c10 c11):=⟨_,_,pa,ic,kc,pc,paths,HL.out.below hb4,HP.out⟩;have R4:Hid (RefInv G w4 r ros):=R3.out.below hb4 (fun _ h=>h);have HG4:Hid (∀k,G k->k<w4.heap.size/\¬NewF F w w3 k):=fun k hk=>⟨zzA (HG.out k hk).1 (zzG HK3.out.size hb4.size),fun h=>by rcases h with h | h;exact (HG.out k hk).2 h;have:=(HG.out k hk).1;omega⟩;clear hown4;go_wp2
  go_loopw [9,10] (fun o i wr=>∃k:Nat,k<=m/\o=.bool true/\i=.int .i64 k/\Hid (LawS (NewF (NewF F w w3) w4 wr) wr W s r (n+1) c5 c6 c7 c8 c9 c10 c11/\Keeps (NewF F w w3) w4 wr)) (fun _ i _=>m-(intOf i).toNat)
  case atStart=>exact⟨0,zzF _,rfl,rfl,LawS.mono hLS.out (fun k hk=>.inl hk),⟨rfl,rfl,rfl,zzC _,fun _ _ _=>rfl⟩⟩
  case round=>
   obtain⟨k,hk,rfl,rfl,HW⟩:=hrel;have hkp:=HW.out.2;by_cases hlt:k<m
   ·have hke:k<es.length:=by rw[<-HM.out];exact hlt
    have R5:=ref_stays R4.out HG4.out hkp;have hkn:=learns_known (w:=wr.drew) (LawS.drew HW.out.1) (R5.keep (fun _ h=>h) (fun _ _=>rfl)) (fun q hq=>⟨zzA (HG4.out q hq).1 hkp.size,fun h=>by rcases h with h | h;exact (HG4.out q hq).2 h;have:=(HG4.out q hq).1;omega⟩) HN.out HA.out;obtain⟨_,_,_,_,_,_,_,hl5,_⟩:=HW.out.1;have k1:=hl5.c1;obtain⟨ra,rcap,hra⟩:=R5;have r0:=hra.c0;rw[HN.out] at r0;obtain⟨gr,hga,hgrl,_,_,cI,_⟩:=row_obs hra.row rfl hnr;subst hga;have hob:=hra.obs _ (zzJ hnr);have hrow:=hob.row;have hlen:=hob.len;rw[HEN.out] at hrow hlen;rw[List.length_map,<-HM.out] at hlen;rw[<-hlen] at hrow cI;obtain⟨gi,ci,hvi⟩:=slice_of_owns hrow (by omega);rw[(Value.slice.inj hvi).1] at hrow cI;obtain⟨_,_,i2⟩:=row_cells (off:=0) (owns_cells hrow) (i:=k) (by simpa using hke);rw[Nat.zero_add,List.getElem_map] at i2;obtain⟨ha0,ha1⟩:=HAT.out es[k] (zzJ hke);obtain⟨jj,hjj⟩:∃jj:Nat,es[k].2.2=(jj:Int)+1:=⟨(es[k].2.2-1).toNat,by omega⟩;have i2':wr.cell? ⟨gi,k*3+2,none⟩=some (.int .i64 (jj:Int)):=by rw[i2];unfold toItem;rw[hjj];simp
    have hO5:wr.ownsRow 0 96 3 (.slice (some ⟨gl,0,none⟩) m m) m (flat es):=ownsRow_keep (owns_mono HO4.out (zzF _)) (fun q hq=>by
     cases hq;exact hkp.block gl hl4.out.1 (fun h=>by have:=hF3.out gl h;have:=hl4.out.2;omega))
    obtain⟨_,_,l2⟩:=row_cells (off:=0) (owns_cells hO5) hke;rw[Nat.zero_add,hjj] at l2;have hkn':=hkn jj (by omega);have hkm:(k:Int)<(m:Int):=by omega
    have HKN:Hid (Calls prog 37 #[.pointer (some ⟨W,0,none⟩),.int .i64 (jj:Int),.int .i64 ((jj:Int)+1)] wr.drew fun e w'=>e=.returned (.bool true)/\LawS (NewF (NewF (NewF F w w3) w4 wr) wr.drew w') w' W s r (n+1) c5 c6 c7 c8 c9 c10 c11/\Keeps (NewF (NewF F w w3) w4 wr) wr.drew w'):=hkn';clear hkn hkn' hl5 hra hob hlen hrow hvi i2 hO5 ha0 ha1 hjj;go_wp2;refine wp_region_still_tail 21 (by kernel_rfl) (by kernel_rfl) ?_;simp only[List.take_succ_cons,List.take_zero,List.drop_succ_cons,List.drop_zero]
    iterate 21 still_step
    refine wpStill_nil ?_;go_wp2_with fail;refine HKN.out.mono ?_;rintro e w5 ⟨rfl,hls5,hk5⟩;have HF5:Hid (LawS (NewF (NewF F w w3) w4 w5) w5 W s r (n+1) c5 c6 c7 c8 c9 c10 c11/\Keeps (NewF F w w3) w4 w5):=⟨LawS.mono hls5 (fun q hq=>newF_newF hkp.size hk5.size hq),keeps_trans hkp ⟨hk5.os,hk5.tape,hk5.output,hk5.size,hk5.block⟩⟩;clear hls5 hk5;go_wp2;go_roundw
    case rel=>exact⟨k+1,by omega,rfl,by go_num,HF5.out⟩
    case measure=>simp[intOf];omega
   ·have HFF:Hid (LawS (NewF F w wr) wr W s r (n+1) c5 c6 c7 c8 c9 c10 c11/\Keeps F w wr):=by
     have z1:=HK3.out.size;have z2:=hb4.size;have z3:=hkp.size;refine⟨LawS.mono HW.out.1 (fun q hq=>?_),?_⟩
     ·rcases hq with (h | h) | h
      ·exact .inl h
      ·exact .inr ⟨h.1,by omega⟩
      ·exact .inr ⟨by omega,h.2⟩
     ·refine keeps_trans (keeps_below HK3.out hb4) ⟨hkp.os,hkp.tape,hkp.output,hkp.size,fun q hq hnF=>hkp.block q hq (fun h=>hnF ?_)⟩
      rcases h with h | h
      ·exact .inl h
      ·exact .inr ⟨h.1,by omega⟩
    have hnl:decide ((k:Int)<(m:Int))=false:=zzE (by omega);go_wp2;go_ret;exact⟨rfl,HFF.out⟩
end
theorem stop_here {p:Prop}(h:Hid p):p:=h.out
def mk77:Ent:=(ByteArray.empty,-77,0)
theorem infoE:(prog.info? 96).map (fun i=>(i.zero,i.size,i.bytes))=some (some (.agg #[.string ByteArray.empty,.int .i64 0,.int .i64 0]),3,32):=by kernel_rfl
theorem infoE3R:(prog.info? 96).map (·.size)=some 3:=by kernel_rfl
theorem set3 (pre:List Value)(a b c:Value):∀(rest:List Value),3<=rest.length->(((pre++rest).set pre.length a).set (pre.length+1) b).set (pre.length+2) c=pre ++ [a,b,c]++rest.drop 3
 | [],h=>by simp at h
 | [_],h=>by simp at h
 | [_,_],h=>by simp at h
 | r0 :: r1 :: r2 :: r',_=>by
  rw[List.set_append_right _ _ (zzC _),Nat.sub_self,List.set_append_right _ _ (by omega),Nat.add_sub_cancel_left,List.set_append_right _ _ (by omega),Nat.add_sub_cancel_left]
  simp
theorem put3 {w:World}{base:Nat}{t:TypeId}{g n N C:Nat}{A:List Ent}{rest:List Value}(h:w.ownsRow base t 3 (.slice (some ⟨g,0,none⟩) N C) N (flat A++rest))(hA:A.length=n)(hr:3<=rest.length)(e:Ent):
  (((w.setCell ⟨g,n*3,none⟩ (.string e.1)).setCell ⟨g,n*3+1,none⟩ (.int .i64 e.2.1)).setCell ⟨g,n*3+2,none⟩ (.int .i64 e.2.2)).ownsRow base t 3 (.slice (some ⟨g,0,none⟩) N C) N (flat (A ++ [e])++rest.drop 3):=by
 have h1:=(h.stored (n*3) (.string e.1)).1;have h2:=(h1.stored (n*3+1) (.int .i64 e.2.1)).1;have h3:=(h2.stored (n*3+2) (.int .i64 e.2.2)).1;have hl:(flat A).length=n*3:=by rw[flat_len,hA]
 have e3:=set3 (flat A) (.string e.1) (.int .i64 e.2.1) (.int .i64 e.2.2) rest hr;rw[hl] at e3;rw[e3] at h3;rw[flat_appendR,flat_one_item];exact h3
theorem lent_some (b off m c0:Nat)(es:List Ent)(w:World)(hl:es.length=m)(hbl:b<w.heap.size)(hbig:(m+3)*32<=140737488355328)(hc:∀j u,(flat es)[j]? = some u->w.cell? ⟨b,off+j,none⟩=some u):
  Calls prog 81 #[.slice (some ⟨b,off,none⟩) m c0] w fun e w'=>∃g,e=.returned (.slice (some ⟨g,0,none⟩) (m+3) (m+3))/\w'.ownsRow w.heap.size 96 3 (.slice (some ⟨g,0,none⟩) (m+3) (m+3)) (m+3) (flat (es++List.replicate 3 mk77))/\Below w.heap.size w w':=by
 obtain⟨i0,hi,hz0,hz1,hz2⟩:=info_parts infoE;have HC:Hid (∀j u,(flat es)[j]? = some u->w.cell? ⟨b,off+j,none⟩=some u):=hc;have HL:Hid (es.length=m):=hl;clear hc hl;go_enter func81,ntmps81;go_wp2_with (at_make;refine wpList_make_full _ rfl _ _ 55 rfl 0 96 i0 _ 3 underlying55 hi hz0 hz1 .i64 .i64 _ _ (m+3) rfl rfl rfl rfl ?_ ?_ (zzF _) ?_;go_must (rw[hz2];omega);go_must (unfold maxLen;omega);intro w3 hown3 hg3;obtain⟨cur,HB,HCS⟩:=made_block hown3;have HB3:=grown_none (Below.refl w.heap.size w) hg3;refine stop_here ?_);refine (show Hid _ from (?_:wpList _ _ _ _ _ _));clear hown3 hg3;have c1:Hid ((flat es).length=Nat.min m (m+3)*3):=by show _=_;rw[flat_len,HL.out,show Nat.min m (m+3)=m from Nat.min_eq_left (by omega)]
 have c2:Hid (∀j v,(flat es)[j]? = some v->w3.cell? ((⟨b,off,none⟩:Addr).add j)=some v):=fun j v hv=>by rw[add_flat,HB3.out.cell (p:=⟨b,off+j,none⟩) hbl];exact HC.out j v hv
 have c3:Hid (0+(flat es).length<=cur.size):=by show _<=_;rw[flat_len,HL.out,HCS.out];omega
 have c4:Hid ((flat es++cur.toList.drop (m*3)).toArray.toList=cur.toList.take 0++flat es++cur.toList.drop (0+(flat es).length)):=by show _=_;rw[flat_len,HL.out];simp
 go_wp2_with (refine wpList_copyK rfl (.tmp 9) (.tmp 10) 55 55 rfl 96 underlying55 3 infoE3R w.heap.size 0 (m+3) (m+3) ⟨b,off,none⟩ m c0 rfl rfl cur 96 HB.out (flat es) c1.out c2.out c3.out (flat_one es) (flat es++cur.toList.drop (m*3)).toArray c4.out ?_;intro w4 H4 hg4);have hb4:Below w.heap.size w w4:=HB3.out.grown hg4 HB3.out.size (fun k h=>by cases h;exact zzC _);have hrl:(cur.toList.drop (m*3)).length=9:=by rw[List.length_drop,Array.length_toList,HCS.out];omega
 have hown4:w4.ownsRow w.heap.size 96 3 (.slice (some ⟨w.heap.size,0,none⟩) (m+3) (m+3)) (m+3) (flat es++cur.toList.drop (m*3)):=by
  refine⟨by rw[List.length_append,flat_len,HL.out,hrl];omega,.inr ⟨w.heap.size,m+3,_,rfl,zzC _,H4.out,zzC _,by unfold maxLen;omega,?_,?_⟩⟩
  ·simp only[List.size_toArray,List.length_append,flat_len,HL.out,hrl];omega
  ·simp only
   exact List.take_of_length_le (by rw[List.length_append,flat_len,HL.out,hrl];omega)
 have HO4:Hid (∃rest:List Value,rest.length=9/\w4.ownsRow w.heap.size 96 3 (.slice (some ⟨w.heap.size,0,none⟩) (m+3) (m+3)) (m+3) (flat (es++List.replicate 0 mk77)++rest)):=⟨_,hrl,by simpa using hown4⟩;clear hown4 hrl c1 c2 c3 c4 HB HCS H4 hg4 HB3;go_wp2
 go_loopw [4] (fun i wr=>∃k:Nat,k<=3/\i=.int .i64 ((m:Int)+k)/\Below w.heap.size w wr/\Hid (∃rest:List Value,rest.length=(3-k)*3/\wr.ownsRow w.heap.size 96 3 (.slice (some ⟨w.heap.size,0,none⟩) (m+3) (m+3)) (m+3) (flat (es++List.replicate k mk77)++rest))) (fun i _=>m+3-(intOf i).toNat)
 case atStart=>exact⟨0,by omega,by simp,hb4,HO4.out⟩
 case round=>
  obtain⟨k,hk,rfl,hb,HR⟩:=hrel;obtain⟨rest,hrl,hown⟩:=HR.out;by_cases hlt:k<3
  ·have hfz:=fun j=>hown.frozenAt j
   obtain⟨n,hn⟩:∃n:Nat,n=m+k:=⟨_,rfl⟩;have hni:(m:Int)+(k:Int)=(n:Int):=by omega
   have hcs:∀j,j<3->∃v,wr.cell? ⟨w.heap.size,n*3+j,none⟩=some v:=fun j hj=>by
    rw[hown.cellAt (n*3+j) (by omega)];exact⟨_,zzH (by rw[List.length_append,flat_len,List.length_append,HL.out,List.length_replicate,hrl];omega)⟩
   obtain⟨v0,e0⟩:=hcs 0 (by omega);obtain⟨v1,e1⟩:=hcs 1 (by omega);obtain⟨v2,e2⟩:=hcs 2 (by omega);rw[Nat.add_zero] at e0;have hnm:(n:Int)<(m:Int)+3:=by omega
   have hgl:w.heap.size<wr.heap.size:=ownsRow_lt hown rfl;have HN:Hid (n=m+k):=hn;have HO:Hid _:=hown;clear hcs hn HR hown;rw[hni];go_wp2;refine⟨⟨k+1,by omega,by have:=HN.out;go_num,((hb.setCell (zzC _) _).setCell (zzC _) _).setCell (zzC _) _,rest.drop 3,by rw[List.length_drop,hrl];omega,?_⟩,by simp[intOf];omega⟩
   have:=put3 (n:=n) HO.out (by rw[List.length_append,HL.out,List.length_replicate,HN.out]) (by omega) mk77
   rw[List.append_assoc,<-List.replicate_succ'] at this;exact this
  ·have hk3:k=3:=by omega
   subst hk3;have hr0:rest = []:=List.eq_nil_of_length_eq_zero (by omega);subst hr0;rw[List.append_nil] at hown;have HO:Hid _:=hown;clear hown HR;go_wp2;go_ret;exact⟨_,rfl,HO.out,hb⟩
theorem copy_nil (w:World)(g n:Nat):(Builtin.copy_ #[55,55] 3 #[.slice (some ⟨g,0,none⟩) n n,.slice none 0 0]).run prog w=.ok (.int .i64 0) w:=by
 have hu:prog.underlying 55=some (.slice 96):=underlying55;have hl:=run_loadCells_list (P:=prog) w;cases hq:prog.info? 96 with
 | none=>have:=infoE3R;simp[hq] at this
 | some i=>
  simp[Builtin.copy_,run_underlying hu,Builtin.lenOf,Builtin.firstCells,sizeOf,typeInfo,hq];rfl
theorem lent_nil (w:World):
  Calls prog 81 #[.slice none 0 0] w fun e w'=>∃g,e=.returned (.slice (some ⟨g,0,none⟩) 3 3)/\w'.ownsRow w.heap.size 96 3 (.slice (some ⟨g,0,none⟩) 3 3) 3 (flat (List.replicate 3 mk77))/\Below w.heap.size w w':=by
 obtain⟨i0,hi,hz0,hz1,hz2⟩:=info_parts infoE;go_enter func81,ntmps81;go_wp2_with (at_make;refine wpList_make_full _ rfl _ _ 55 rfl 0 96 i0 _ 3 underlying55 hi hz0 hz1 .i64 .i64 _ _ 3 rfl rfl rfl rfl ?_ ?_ (zzF _) ?_;go_must (rw[hz2];omega);go_must (unfold maxLen;omega);intro w3 hown3 hg3;refine stop_here ?_);refine (show Hid _ from (?_:wpList _ _ _ _ _ _));have hb3:Below w.heap.size w w3:=(grown_none (Below.refl w.heap.size w) hg3).out;have hcp:=copy_nil w3 w.heap.size 3;have HO3:Hid (∃rest:List Value,rest.length=9/\w3.ownsRow w.heap.size 96 3 (.slice (some ⟨w.heap.size,0,none⟩) 3 3) 3 (flat ([]++List.replicate 0 mk77)++rest)):=by
  obtain⟨h1,h2⟩:=hown3;exact⟨_,h1,h1,by rcases h2 with ⟨h,_⟩ | ⟨g,c,cur,hv,_,r⟩;cases h;cases hv;exact .inr ⟨_,_,cur,rfl,zzC _,r⟩⟩
 clear hown3 hg3;go_wp2
 go_loopw [4] (fun i wr=>∃k:Nat,k<=3/\i=.int .i64 (k:Int)/\Below w.heap.size w wr/\Hid (∃rest:List Value,rest.length=(3-k)*3/\wr.ownsRow w.heap.size 96 3 (.slice (some ⟨w.heap.size,0,none⟩) 3 3) 3 (flat ([]++List.replicate k mk77)++rest))) (fun i _=>3-(intOf i).toNat)
 case atStart=>exact⟨0,by omega,by simp,hb3,HO3.out⟩
 case round=>
  obtain⟨n,hk,rfl,hb,HR⟩:=hrel;obtain⟨rest,hrl,hown⟩:=HR.out;by_cases hlt:n<3
  ·have hfz:=fun j=>hown.frozenAt j
   have hcs:∀j,j<3->∃v,wr.cell? ⟨w.heap.size,n*3+j,none⟩=some v:=fun j hj=>by
    rw[hown.cellAt (n*3+j) (by omega)];exact⟨_,zzH (by rw[List.length_append,flat_len,List.length_append,List.length_replicate,hrl];simp;omega)⟩
   obtain⟨v0,e0⟩:=hcs 0 (by omega);obtain⟨v1,e1⟩:=hcs 1 (by omega);obtain⟨v2,e2⟩:=hcs 2 (by omega);rw[Nat.add_zero] at e0;have hnm:(n:Int)<3:=by omega
   have hgl:w.heap.size<wr.heap.size:=ownsRow_lt hown rfl;have HO:Hid _:=hown;clear hcs HR hown;go_wp2;refine⟨⟨n+1,by omega,by go_num,((hb.setCell (zzC _) _).setCell (zzC _) _).setCell (zzC _) _,rest.drop 3,by rw[List.length_drop,hrl];omega,?_⟩,by simp[intOf];omega⟩
   have:=put3 (n:=n) HO.out (by simp) (by omega) mk77
   rw[List.append_assoc,<-List.replicate_succ'] at this;exact this
  ·have hk3:n=3:=by omega
   subst hk3;have hr0:rest = []:=List.eq_nil_of_length_eq_zero (by omega);subst hr0;rw[List.append_nil,List.nil_append] at hown;have HO:Hid _:=hown;clear hown HR;go_wp2;go_ret;exact⟨_,rfl,HO.out,hb⟩
theorem lent_gen (a:Option Addr)(m c0:Nat)(es:List Ent)(w:World)(hl:ListedR w a m es)(hbig:(m+3)*32<=140737488355328)(hnil:m=0->a=none/\c0=0):
  Calls prog 81 #[.slice a m c0] w fun e w'=>∃g,e=.returned (.slice (some ⟨g,0,none⟩) (m+3) (m+3))/\w'.ownsRow w.heap.size 96 3 (.slice (some ⟨g,0,none⟩) (m+3) (m+3)) (m+3) (flat (es++List.replicate 3 mk77))/\Below w.heap.size w w':=by
 rcases Nat.eq_zero_or_pos m with rfl | hp
 ·obtain⟨rfl,rfl⟩:=hnil rfl
  have:es = []:=List.eq_nil_of_length_eq_zero hl.1
  subst this;exact lent_nil w
 ·obtain⟨b,off,rfl,hbl,hc⟩:=hl.2 hp
  exact lent_some b off m c0 es w hl.1 hbl hbig hc
theorem ldE (W:World)(g o:Nat)(x:Ent)(c0:W.cell? ⟨g,o,none⟩=some (.string x.1))(c1:W.cell? ⟨g,o+1,none⟩=some (.int .i64 x.2.1))(c2:W.cell? ⟨g,o+2,none⟩=some (.int .i64 x.2.2)):(loadVar 96 ⟨g,o,none⟩).run prog W=.ok (.agg #[.string x.1,.int .i64 x.2.1,.int .i64 x.2.2]) W:=by
 unfold loadVar
 go_simp
theorem guardE (op:BinOp)(W:World)(x y:Operand)(X Y:Array Value):(eqGuard op 96 x y (.agg X) (.agg Y)).run prog W=.ok () W:=guardRun (by kernel_rfl) op W x y X Y
theorem kept_gen (g:Nat)(a:Option Addr)(m c0:Nat)(es:List Ent)(w:World)(hl:ListedR w a m es)(hbig:(m+3)*32<=140737488355328)(hnil:m=0->a=none/\c0=0)(b0:Nat)
  (hin:w.ownsRow b0 96 3 (.slice (some ⟨g,0,none⟩) (m+3) (m+3)) (m+3) (flat (es++List.replicate 3 mk77))):
  Calls prog 83 #[.slice (some ⟨g,0,none⟩) (m+3) (m+3),.slice a m c0] w fun e w'=>e=.returned (.bool true)/\Below w.heap.size w w':=by
 have hlent:=lent_gen a m c0 es w hl hbig hnil;obtain⟨ls,hls⟩:∃ls,ls=es++List.replicate 3 mk77:=⟨_,rfl⟩;have HLL:Hid (ls.length=m+3):=by rw[hls,List.length_append,hl.1,List.length_replicate];rfl
 rw[<-hls] at hin hlent;have HI:Hid (w.ownsRow b0 96 3 (.slice (some ⟨g,0,none⟩) (m+3) (m+3)) (m+3) (flat ls)):=hin;have hgl:g<w.heap.size:=ownsRow_lt hin rfl;clear hin hls hl hnil;go_enter func83,ntmps83;go_wp2_with fail;refine hlent.mono ?_;rintro e w1 ⟨gw,rfl,hown1,hb1⟩;have HO:Hid (w1.ownsRow w.heap.size 96 3 (.slice (some ⟨gw,0,none⟩) (m+3) (m+3)) (m+3) (flat ls)):=hown1;clear hlent hown1;go_wp2
 go_loopw [6] (fun i wr=>∃k:Nat,k<=m+3/\i=.int .i64 (k:Int)/\(∃q,wr=w1.drewN q)) (fun i _=>m+3-(intOf i).toNat)
 case atStart=>exact⟨0,by omega,rfl,⟨0,rfl⟩⟩
 case round=>
  obtain⟨k,hk,rfl,⟨q,rfl⟩⟩:=hrel;by_cases hlt:k<m+3
  ·have hke:k<ls.length:=by rw[HLL.out];exact hlt
   obtain⟨p0,p1,p2⟩:=row_cells (off:=0) (owns_cells HI.out) hke;obtain⟨q0,q1,q2⟩:=row_cells (off:=0) (owns_cells HO.out) hke;rw[Nat.zero_add] at p0 p1 p2 q0 q1 q2;obtain⟨x,hx⟩:∃x,x=ls[k]:=⟨_,rfl⟩;rw[<-hx] at p0 p1 p2 q0 q1 q2;have HL1:Hid (∀q,(loadVar 96 ⟨g,k*3,none⟩).run prog (w1.drewN q)=.ok (.agg #[.string x.1,.int .i64 x.2.1,.int .i64 x.2.2]) (w1.drewN q)):=fun q=>ldE _ g (k*3) x ((hb1.cell (p:=⟨g,k*3,none⟩) hgl).trans p0) ((hb1.cell (p:=⟨g,k*3+1,none⟩) hgl).trans p1) ((hb1.cell (p:=⟨g,k*3+2,none⟩) hgl).trans p2);have HL2:Hid (∀q,(loadVar 96 ⟨gw,k*3,none⟩).run prog (w1.drewN q)=.ok (.agg #[.string x.1,.int .i64 x.2.1,.int .i64 x.2.2]) (w1.drewN q)):=fun q=>ldE _ gw (k*3) x q0 q1 q2;have hkm:(k:Int)<(m:Int)+3:=by omega
   clear p0 p1 p2 q0 q1 q2 hx;go_wp2;refine wp_region_quiet_lit (by kernel_rfl) (by kernel_rfl) ?_
   iterate 3 quiet_step (fail)
   refine wpQuiet_load_at rfl 96 _ rfl ⟨g,k*3,none⟩ rfl (.agg #[.string x.1,.int .i64 x.2.1,.int .i64 x.2.2]) (by rintro _ ⟨n,rfl⟩;rw[World.drewN_drewN];exact HL1.out _) ?_
   go_frame
   iterate 3 quiet_step (fail)
   refine wpQuiet_load_at rfl 96 _ rfl ⟨gw,k*3,none⟩ rfl (.agg #[.string x.1,.int .i64 x.2.1,.int .i64 x.2.2]) (by rintro _ ⟨n,rfl⟩;rw[World.drewN_drewN];exact HL2.out _) ?_
   go_frame
   refine wpQuiet_bin rfl .neq 96 96 _ _ rfl (.agg #[.string x.1,.int .i64 x.2.1,.int .i64 x.2.2]) (.agg #[.string x.1,.int .i64 x.2.1,.int .i64 x.2.2]) (.bool (!(decide (x=x)))) rfl rfl (by rintro _ ⟨n,rfl⟩;exact guardE _ _ _ _ _ _) (by rintro _ ⟨n,rfl⟩;exact neqEntry _ x x) ?_
   go_frame
   refine wpQuiet_nil ?_;rintro _ ⟨nq,rfl⟩;simp only[decide_true,Bool.not_true];go_wp2;go_roundw
   case rel=>exact⟨k+1,by omega,by go_num,⟨_,rfl⟩⟩
   case measure=>simp[intOf];omega
  ·go_wp2
   go_ret;exact⟨rfl,below_drewN hb1 q⟩
theorem num_any (e:Int)(w:World):Calls prog 22 #[.int .i64 e] w fun r w'=>r=.returned (.int .i64 e)/\w'=w:=by
 go_enter func22,ntmps22;go_wp2;go_ret;exact⟨rfl,rfl⟩
abbrev HeldL:=Option Addr×Nat×Nat
def encH (h:HeldL):Value:=.slice h.1 h.2.1 h.2.2
def markE (i:Nat):Ent:=(ByteArray.empty,-1000-((i / 4:Nat):Int),0)
def Full (w:World)(i:Nat)(h:HeldL):Prop:=∀j,j<h.2.1->∃g,h.1=some ⟨g,0,none⟩/\w.cell? ⟨g,j*3,none⟩=some (.string (markE i).1)/\w.cell? ⟨g,j*3+1,none⟩=some (.int .i64 (markE i).2.1)/\w.cell? ⟨g,j*3+2,none⟩=some (.int .i64 (markE i).2.2)
end Go.Proofs.YtlgidcmmgohagaaGreat
