/-
  What is proved here: the calls of canopykeep's made, one by one: e, the steps, what is told of e, the commit. a tree that reads as a stored one does is that object, whatever of it is the tree's own. ..
-/
import Derived.Test.YtajopoddmfdejaaGreatRetM36
import Derived.Shelf.Small.Bits
import Derived.Shelf.Small.Strs
import Derived.Shelf.Strconv.Itoa0
import Derived.Shelf.LaysM
import Derived.Shelf.Strconv.Clone
import Derived.Shelf.Strings.Search1
import Derived.Shelf.Strings.Search2
import Derived.Shelf.Strings.Cut
import Derived.Shelf.SlGeneric
import Derived.Shelf.SlSortCmp.SmallK
import Derived.Ground.SlsfProg
import Derived.Test.YtajopoddmfdejaaGreatProg
import Derived.Test.YtajopoddmfdejaaGreatRetM35
import Derived.Deep.RegionHeld3
import Derived.Shelf.SlSortCmp.NoneTotal
import Derived.Test.YtajopoddmfdejaaGreatRetM30
namespace Go.Proofs.YtajopoddmfdejaaGreat
open Go.RowKit Go.Sort Go.Shelf
set_option linter.unusedVariables false
set_option maxRecDepth 100000
set_option maxHeartbeats 16000000
theorem modG_own (objs:List Ob)(f:Kids->Kids)(q:List ByteArray)(t:LT):∃ ks,modG objs f q t=.own ks:=by
 cases q with
 | nil=>exact⟨_,by rw[modG]⟩
 | cons n r=>exact⟨_,by rw[modG]⟩
theorem nameE_ok:validB nameE=true:=by unfold nameE validB;simp only[ByteArray.toList_eq];decide
theorem goodE1:Good ([].reverse ++ [nameE]):=⟨fun x hx=>by simp at hx;rw[hx];exact nameE_ok,by simp⟩
theorem m_e {W wr:World}{s p:Nat}{B:WB}{objs:List Ob}{tg:Tags}(h1:OneOb objs)(hO:Old W wr tg)(h:QInv tg wr s 2 p B objs (wg0 1 []) 0 (.dir 1)):
  Calls Tryz.prog 26 #[.pointer (some ⟨B.wb,0,none⟩),.string ⟨#[101]⟩,.string ⟨#[49]⟩] wr fun e w'=>e=.returned (.int .i64 0)/\MSt W w' s p B objs 2 500:=by
 have hp:=qput h (by omega) goodE1 oneB (by unfold maxLen;decide)
 have hj:joinB (([]:List ByteArray).reverse ++ [nameE])=⟨#[101]⟩:=joinB_one nameE
 rw[hj] at hp
 refine hp.mono ?_
 rintro e w' ⟨er,he,tg',g',t',m,hQ,hfs,hba,hP⟩
 have hl:lookR objs (.dir 1) (wg0 1 []).fs []=(⟨[] ++ [1],false,fun _=>false,fun x=>decide (x=1) || false⟩,0,(entsOf objs 1).map kidOf):=rfl
 rw[hl] at hP hfs
 rw[one_ents h1] at hP
 have hsb:shortB oneB=oneB:=by unfold shortB;rw[if_neg (by decide)]
 rw[hsb] at hP
 rcases hP with ⟨h0,_⟩ | ⟨_,h0,_⟩ | ⟨_,_,rfl,f,hf,hx,hh⟩
 ·exact absurd rfl h0
 ·exact absurd rfl h0
 ·refine⟨he,tg',g',t',f,hO.any (mine0 (Nat.le_refl _)) m,hQ.mono (by omega),?_,by rw[hfs],?_⟩
  ·rcases hh with ⟨hq,_⟩ | ⟨_,_,rfl⟩
   ·cases hq
   ·have ht:modG objs (fun ks=>putK ks nameE (.held f)) [].reverse (.dir 1)=.own [(nameE,.held f)]:=by
     show LT.own (putK ((entsOf objs 1).map kidOf) nameE (.held f))=_
     rw[one_ents h1];rfl
    rw[ht]
    refine⟨⟨_,rfl,rfl,fun x hx=>?_⟩,hf,fun x y b hx hy=>?_,?_⟩
    ·rw[List.mem_singleton.1 hx];exact .inr rfl
    ·have key:∀ x,(LT.own [(nameE,.held f)]).at objs x=some (.held b)->x = [nameE]:=by
      intro x hx
      cases x with
      | nil=>rw[at_nil] at hx;cases hx
      | cons n r=>
       rw[at_cons] at hx
       simp only[kids,Option.bind_some] at hx
       by_cases e:nameE=n
       ·subst e
        have:pickK [(nameE,LT.held f)] nameE=some (.held f):=by simp[pickK]
        rw[this,Option.bind_some] at hx
        cases r with
        | nil=>rfl
        | cons m r=>rw[at_cons] at hx;simp[kids] at hx
       ·have:pickK [(nameE,LT.held f)] n=none:=by simp[pickK,e]
        rw[this] at hx;cases hx
     rw[key x hx,key y hy]
    ·show big objs 5 (.own [(nameE,.held f)])<=2
     rw[big_succ]
     have hb1:∀ k,big objs k (.held f)=1:=by intro k;cases k <;> (rw[big];try rfl)
     simp[bigs,kids,hb1]
  ·rcases hh with ⟨hq,_⟩ | ⟨_,_,rfl⟩
   ·cases hq
   ·exact modG_own _ _ _ _
theorem step_own {objs:List Ob}{g g':WG}{t t':LT}{k:Int}{na nb:ByteArray}{ra rb:List ByteArray}{d:ByteArray}{er:Int}(h:∃ ks,t=.own ks)(hs:StepTo objs g t k na nb ra rb d er g' t'):∃ ks,t'=.own ks:=by
 have hm:∀ (x:LT),(x=t\/∃ f q y,x=modG objs f q y)->∃ ks,x=.own ks:=by
  rintro x (rfl | ⟨f,q,y,rfl⟩)
  ·exact h
  ·exact modG_own _ _ _ _
 rcases hs with ⟨_,_,_,⟨_,_,h2,_⟩ | ⟨_,_,_,h2,_⟩ | ⟨_,_,_,f,_,_,⟨_,h2⟩ | ⟨_,_,h2⟩⟩⟩ | ⟨_,_,h1,_⟩ | ⟨_,_,h1,_⟩ | ⟨_,_,h1,_⟩
 ·rw[h2];exact h
 ·rw[h2];exact h
 ·rw[h2];exact h
 ·rw[h2];exact modG_own _ _ _ _
 ·rw[h1]
  apply hm
  unfold mkdirR
  simp only
  split
  ·exact .inl rfl
  ·split
   ·exact .inl rfl
   ·split
    ·exact .inl rfl
    ·exact .inr ⟨_,_,_,rfl⟩
 ·rw[h1]
  apply hm
  unfold removeR
  simp only
  split
  ·exact .inl rfl
  ·split
   ·exact .inl rfl
   ·exact .inr ⟨_,_,_,rfl⟩
 ·rw[h1]
  apply hm
  unfold renameR
  simp only
  repeat' split
  all_goals first | exact .inl rfl | exact .inr ⟨_,_,_,rfl⟩
theorem step_brk {objs:List Ob}{g g':WG}{t t':LT}{k:Int}{na nb:ByteArray}{ra rb:List ByteArray}{d:ByteArray}{er:Int}(h:g.fs.brk=false)(hs:StepTo objs g t k na nb ra rb d er g' t'):g'.fs.brk=false:=by
 rcases hs with ⟨_,h1,_⟩ | ⟨_,_,_,h1,_⟩ | ⟨_,_,_,h1,_⟩ | ⟨_,_,_,h1,_⟩ <;> rw[h1]
 ·exact (q_look objs t g.fs ra).2 h
 ·exact (q_mkdir objs t g.fs na ra).2 h
 ·exact (q_remove objs t g.fs na ra).2 h
 ·exact (q_rename objs t g.fs na nb ra rb).2 h
theorem QInv.held {tg:Tags}{w:World}{s i p:Nat}{B:WB}{objs:List Ob}{g:WG}{lim:Nat}{t:LT}(h:QInv tg w s i p B objs g lim t):∀ x f,t.at objs x=some (.held f)->∃ y,g.fl f=some y:=fun x f ha=>h.inv.wp.held x f (by rw[h.flat.of,ha];rfl)
theorem m_step {W wr:World}{s p:Nat}{B:WB}{objs:List Ob}{N lim:Nat}(h:MSt W wr s p B objs N lim)(hl:lim+1000<1099511627776){kd a b:Int}{d:ByteArray}(hk:i64 kd)(ha:i64 a)(hb:i64 b)(hd:d.size<=maxLen):
  Calls Tryz.prog 14 #[.pointer (some ⟨B.wb,0,none⟩),.agg #[.int .i64 kd,.int .i64 a,.int .i64 b,.string d]] wr fun e w'=>∃ er,e=.returned (.int .i64 er)/\MSt W w' s p B objs (N+1) (lim+500):=by
 obtain⟨tg,g,t,fE,hO,hQ,hM,hbr,hown⟩:=h
 obtain⟨na,ra,hpa⟩:=(pathL_letters a).split
 obtain⟨nb,rb,hpb⟩:=(pathL_letters b).split
 have hla:=pathL_letters a
 have hlb:=pathL_letters b
 rw[hpa] at hla
 rw[hpb] at hlb
 refine (do_exact hQ hl kd a b d hk ha hb hd hpa hpb).mono ?_
 rintro e w' ⟨er,he,tg',g',t',m,hQ',hs⟩
 exact⟨er,he,tg',g',t',fE,hO.any (mine0 (Nat.le_refl _)) m,hQ',made_step hQ.inv.st.sound hQ.ok hQ.held hM hla hlb hs,step_brk hbr hs,step_own hown hs⟩
def TSt (W wr:World)(s p:Nat)(B:WB)(objs:List Ob)(N lim:Nat)(ks:Kids)(fE:Nat)(op:Nat->Option (Nat×Nat×Int×Int)):Prop:=
 ∃ tg g,Old W wr tg/\WInv tg wr s 2 p B objs g lim/\Flat objs (.own ks) g.ft/\LTok objs 5 (.own ks)/\FlOk objs g.fl/\MadeT objs N fE (.own ks) g.fl/\g.fs.brk=false/\g.op=op
theorem made_pick {objs:List Ob}{N fE:Nat}{ks:Kids}{fl:Nat->Option (Int×ByteArray)}(h:MadeT objs N fE (.own ks) fl):pickK ks nameE=some (.held fE):=by
 obtain⟨ks',h1,h2,_⟩:=h.root
 simp only[kids,Option.some.injEq] at h1
 rw[h1];exact h2
theorem t_open {W wr:World}{s p:Nat}{B:WB}{objs:List Ob}{N lim:Nat}{ks:Kids}{fE:Nat}(hl:lim<=90000)(h:TSt W wr s p B objs N lim ks fE (fun _=>none)):
  Calls Tryz.prog 50 #[.pointer (some ⟨B.wb,0,none⟩),.string nameE,.int .i64 1] wr fun e w'=>e=.returned (.tuple #[.int .i64 ((0:Nat):Int),.int .i64 0])/\∃ b,TSt W w' s p B objs N (lim+300) ks fE (updN (fun _=>none) 0 (some (b,fE,1,0))):=by
 obtain⟨tg,g,hO,hW,hF,hok,hfl,hM,hbr,hop⟩:=h
 have hpk:=made_pick hM
 refine (hopen (k:=0) hW (by omega) hF hok nameE_ok 1 (by decide) (by decide) false false false (by decide) (by decide) (by decide) valid_1 (by decide) (by rw[hop]) (fun j hj=>by omega) (own_look objs ks g.fs) (openE_file hpk rfl) (fun f' hf'=>by rw[hpk] at hf';cases hf';exact⟨_,hM.data⟩)).mono ?_
 rintro e w' ⟨he,tg',g',t',b,f2,m,hW',hF',hok',hfs,hop',hT⟩
 refine⟨he,b,?_⟩
 rcases hT with ⟨hq,_⟩ | ⟨hq,ht',hfl'⟩ | ⟨id,hq,_⟩
 ·rw[hpk] at hq;cases hq
 ·rw[hpk] at hq
  cases hq
  rw[if_neg (by decide)] at hfl'
  subst ht'
  exact⟨tg',g',hO.any (mine0 (Nat.le_refl _)) m,hW',hF',hok',by rw[hfl'];exact hfl,by rw[hfl'];exact hM,by rw[hfs];exact hbr,by rw[hop',hop]⟩
 ·rw[hpk] at hq;cases hq
theorem t_read {W wr:World}{s p:Nat}{B:WB}{objs:List Ob}{N lim:Nat}{ks:Kids}{fE b:Nat}(hl:lim<=100000)(h:TSt W wr s p B objs N lim ks fE (updN (fun _=>none) 0 (some (b,fE,1,0)))):
  Calls Tryz.prog 63 #[.pointer (some ⟨B.wb,0,none⟩),.int .i64 ((0:Nat):Int),.int .i64 1000] wr fun e w'=>e=.returned (.tuple #[.string oneB,.int .i64 0])/\∃ pl,TSt W w' s p B objs N (lim+1) ks fE (updN (fun _=>none) 0 (some (b,fE,1,pl))):=by
 obtain⟨tg,g,hO,hW,hF,hok,hfl,hM,hbr,hop⟩:=h
 have ho:g.op 0=some (b,fE,1,0):=by rw[hop];exact updN_same _ _ _
 obtain⟨_,c1,_⟩:=opens_cell hW (by decide) ho
 have hby:bytesG objs g.fl g.fs fE=(g.fs,0,oneB):=by unfold bytesG;rw[hM.data];rfl
 have hrd:=read_gen hW (by omega) hfl ho (n:=1000) (by decide) (by decide) (by decide) hby
 have hex:oneB.extract (min (0:Int).toNat oneB.size) (min (min (0:Int).toNat oneB.size+(min 1000 (256-0):Int).toNat) oneB.size)=oneB:=by decide
 rw[hex] at hrd
 refine (read_ws B.wb 0 b 1000 oneB 0 _ wr c1 (by decide) hrd).mono ?_
 rintro e w' ⟨he,tg',m,hW'⟩
 refine⟨he,0+oneB.size,tg',_,hO.any (mine0 (Nat.le_refl _)) m,hW',hF,hok,hfl,hM,hbr,?_⟩
 show updN g.op 0 _=_
 rw[hop]
 funext x
 by_cases e:x=0
 ·subst e;rw[updN_same,updN_same]
 ·rw[updN_other e,updN_other e,updN_other e]
theorem t_close {W wr:World}{s p:Nat}{B:WB}{objs:List Ob}{N lim:Nat}{ks:Kids}{fE b:Nat}{pl:Int}(h:TSt W wr s p B objs N lim ks fE (updN (fun _=>none) 0 (some (b,fE,1,pl)))):
  Calls Tryz.prog 52 #[.pointer (some ⟨B.wb,0,none⟩),.int .i64 ((0:Nat):Int)] wr fun e w'=>e=.returned (.int .i64 0)/\TSt W w' s p B objs N lim ks fE (fun _=>none):=by
 obtain⟨tg,g,hO,hW,hF,hok,hfl,hM,hbr,hop⟩:=h
 have ho:g.op 0=some (b,fE,1,pl):=by rw[hop];exact updN_same _ _ _
 obtain⟨c0,c1,c2⟩:=opens_cell hW (by decide) ho
 refine (close_ws B.wb 0 b wr c0 c1 c2 (by decide)).mono ?_
 rintro e w' ⟨he,rfl⟩
 obtain⟨m2,hW2⟩:=hW.close (k:=0) (by decide)
 refine⟨he,tg,_,hO.any (P:=fun t=>t=(2,0)) (by simp) (m2.mono (fun x hx=>hx)),hW2,hF,hok,hfl,hM,hbr,?_⟩
 show updN g.op 0 none=_
 rw[hop]
 funext x
 by_cases e:x=0
 ·subst e;rw[updN_same]
 ·rw[updN_other e,updN_other e]
theorem t_stat {W wr:World}{s p:Nat}{B:WB}{objs:List Ob}{N lim:Nat}{ks:Kids}{fE:Nat}(hl:lim<=200000)(h:TSt W wr s p B objs N lim ks fE (fun _=>none)):
  Calls Tryz.prog 28 #[.pointer (some ⟨B.wb,0,none⟩),.string nameE] wr fun e w'=>e=.returned (.tuple #[.agg #[.int .i64 1,.int .i64 (oneB.size:Int)],.int .i64 0])/\TSt W w' s p B objs N (lim+10) ks fE (fun _=>none):=by
 obtain⟨tg,g,hO,hW,hF,hok,hfl,hM,hbr,hop⟩:=h
 have hby:bytesG objs g.fl g.fs fE=(g.fs,0,oneB):=by unfold bytesG;rw[hM.data];rfl
 refine (hstat_held hW (by omega) hF hok hfl nameE_ok (made_pick hM) hM.data hby).mono ?_
 rintro e w' ⟨he,tg',m,hW'⟩
 exact⟨he,tg',g,hO.any (mine0 (Nat.le_refl _)) (m.mono (fun t ht=>Fetches.mine ht)),hW',hF,hok,hfl,hM,hbr,hop⟩
theorem m_told {W wr:World}{s p:Nat}{B:WB}{objs:List Ob}{N lim:Nat}(hl:lim<=80000)(h:MSt W wr s p B objs N lim):
  Calls Tryz.prog 41 #[.pointer (some ⟨B.wb,0,none⟩),.string ⟨#[101]⟩] wr fun e w'=>e=.returned (.tuple #[.string ⟨#[49]⟩,.bool true])/\MSt W w' s p B objs N (lim+311):=by
 obtain⟨tg,g,t,fE,hO,hQ,hM,hbr,ks,rfl⟩:=h
 have h0:TSt W wr s p B objs N lim ks fE (fun _=>none):=⟨tg,g,hO,hQ.inv,hQ.flat,hQ.ok,hQ.fl,hM,hbr,funext hQ.op⟩
 refine (told_walk B.wb 0 nameE oneB _ (fun w2=>∃ b pl,TSt W w2 s p B objs N (lim+301) ks fE (updN (fun _=>none) 0 (some (b,fE,1,pl)))) (fun w3=>TSt W w3 s p B objs N (lim+301) ks fE (fun _=>none)) (fun w4=>TSt W w4 s p B objs N (lim+301+10) ks fE (fun _=>none)) wr (t_open (by omega) h0)
  (fun w1 ⟨b,h1⟩=>(t_read (by omega) h1).mono (fun e w' ⟨h2,pl,h3⟩=>⟨h2,b,pl,h3⟩)) (fun w2 ⟨b,pl,h1⟩=>t_close h1) (fun w3 h3=>t_stat (by omega) h3)).mono ?_
 rintro e w' ⟨he,w4,⟨tg',g',hO',hW',hF',hok',hfl',hM',hbr',hop'⟩,hb⟩
 exact⟨he,tg',g',.own ks,fE,hO'.any (P:=fun _=>False) (fun h=>h) (Moves.of_below hb),⟨hW'.below hb,hF',hok',hfl',fun k=>by rw[hop']⟩,hM',hbr',ks,rfl⟩
theorem Same.once {x y:List Ob}(h:Same x y)(hy:Once y):Once x:=by
 have key:∀ i (hx:i<x.length) (hy':i<y.length),(x[i]).core=(y[i]).core:=by
  intro i h1 h2
  have hg:=h.get i
  rw[List.getElem?_eq_getElem h1,List.getElem?_eq_getElem h2] at hg
  exact Option.some.inj hg
 refine⟨fun i hi hk=>?_,fun i hi hk=>?_⟩
 ·have hi':i<y.length:=by rw[<- h.len];exact hi
  have hc:=key i hi hi'
  simp only[Ob.core,Prod.mk.injEq] at hc
  have hk':(y[i]).kind=1:=by rw[<- hc.1];exact hk
  have hd:(x[i]).data=(y[i]).data:=by have:=hc.2.1;rw[if_pos hk,if_pos hk'] at this;exact this
  rw[h.file,hd]
  exact hy.file i hi' hk'
 ·have hi':i<y.length:=by rw[<- h.len];exact hi
  have hc:=key i hi hi'
  simp only[Ob.core,Prod.mk.injEq] at hc
  have hk':(y[i]).kind=2:=by rw[<- hc.1];exact hk
  have hd:(x[i]).ents=(y[i]).ents:=by have:=hc.2.2.1;rw[if_pos hk,if_pos hk'] at this;exact this
  rw[h.dir,hd]
  exact hy.dir i hi' hk'
theorem one_once {objs:List Ob}(h:OneOb objs):Once objs:=by
 obtain⟨o,h1,h2,h3,rfl⟩:=h
 refine⟨fun i hi hk=>?_,fun i hi hk=>?_⟩
 ·have:i=0:=by simp at hi;exact hi
  subst this
  simp only[List.getElem_cons_zero] at hk
  rw[h1] at hk;cases hk
 ·have:i=0:=by simp at hi;exact hi
  subst this
  simp[dirAt,List.findIdx?_cons,h1]
def fcOf (a:List Ob)(fl:Nat->Option (Int×ByteArray)):FileC:=fun f=>match fl f with
 | none=>⟨#[]⟩
 | some (id,d)=>if id≠0 then bytesOf a id else d
theorem kid_sem {a:List Ob}{fc:FileC}{t u:LT}{ks ku:Kids}(h:∀ q,sem a fc t q=sem a fc u q)(hk:kids a t=some ks)(hu:kids a u=some ku)(rk:RisingK ks)(ru:RisingK ku):
  ks.map (·.1)=ku.map (·.1)/\∀ k (h1:k<ks.length) (h2:k<ku.length),∀ q,sem a fc (ks[k]).2 q=sem a fc (ku[k]).2 q:=by
 have hn:∀ n r,((pickK ks n).bind fun c=>sem a fc c r)=((pickK ku n).bind fun c=>sem a fc c r):=by
  intro n r
  have:=h (n :: r)
  rw[sem_cons,sem_cons,hk,hu,Option.bind_some,Option.bind_some] at this
  exact this
 have hnames:ks.map (·.1)=ku.map (·.1):=by
  refine names_eq rk ru (fun n=>?_)
  have:=hn n []
  cases h1:pickK ks n <;> cases h2:pickK ku n <;> rw[h1,h2] at this <;> simp[sem_nil] at this ⊢
 refine⟨hnames,fun k h1 h2 q=>?_⟩
 have he:(ks[k]).1=(ku[k]).1:=by
  have:=congrArg (fun l=>l[k]?) hnames
  simp only[List.getElem?_map,List.getElem?_eq_getElem h1,List.getElem?_eq_getElem h2,Option.map_some,Option.some.injEq] at this
  exact this
 have:=hn (ks[k]).1 q
 rw[pick_getK rk h1,he,pick_getK ru h2,Option.bind_some,Option.bind_some] at this
 exact this
theorem stored_kid (e:Ent):(∃ i,(kidOf e).2=.file i)\/∃ i,(kidOf e).2=.dir i:=by
 unfold kidOf ltOf
 by_cases h:e.2.1=2
 ·exact .inr ⟨e.2.2,by simp[h]⟩
 ·exact .inl ⟨e.2.2,by simp[h]⟩
theorem kidOf_id (e:Ent):(kidOf e).2.id=e.2.2:=by
 unfold kidOf ltOf
 by_cases h:e.2.1=2 <;> simp[h,LT.id]
theorem kidOf_kind {e:Ent}(h:e.2.1=1\/e.2.1=2):(kidOf e).2.kind=e.2.1:=by
 unfold kidOf ltOf
 rcases h with h | h <;> simp[h,LT.kind]
theorem sem_kind {a:List Ob}{fc:FileC}{t u:LT}(h:sem a fc t []=sem a fc u []):t.kind=u.kind:=by
 rw[sem_nil,sem_nil] at h
 have h:=Option.some.inj h
 cases t <;> cases u <;> simp[nd,LT.kind] at h ⊢
theorem objR_sem {a:List Ob}(hX:Exact a)(hO:Once a){fl:Nat->Option (Int×ByteArray)}(hfl:FlSz a fl):∀ (n:Nat) (t u:LT),LTok a n t->LTok a n u->((∃ i,u=.file i)\/∃ i,u=.dir i)->(∀ q,sem a (fcOf a fl) t q=sem a (fcOf a fl) u q)->objR fl n t a=(u.id,a):=by
 have hS:=hX.sound
 -- files
 have hfile:∀ (n:Nat) (t:LT) (id:Int),t.kind=1->LTok a n t->kindOf a id=1->nd a (fcOf a fl) t=.file (bytesOf a id)->objR fl n t a=(id,a):=by
  intro n t id hk hok hid hnd
  cases t with
  | file i=>
   have hi:kindOf a i=1:=by cases n <;> simpa [LTok] using hok
   have:bytesOf a i=bytesOf a id:=by simpa [nd] using hnd
   have e:=hO.file_inj hi hid this
   cases n <;> (rw[objR,e])
  | held f=>
   have hob:objR fl n (.held f) a=heldR (fl f) a:=by cases n <;> rw[objR]
   rw[hob]
   have hb:fcOf a fl f=bytesOf a id:=by simpa [nd] using hnd
   unfold fcOf at hb
   cases hf:fl f with
   | none=>
    rw[hf] at hb
    show fileD a ⟨#[]⟩=_
    have hb':(⟨#[]⟩:ByteArray)=bytesOf a id:=hb
    rw[hb'];exact hO.fileD_id hid
   | some x=>
    obtain⟨i,d⟩:=x
    rw[hf] at hb
    by_cases h0:i≠0
    ·have hb':bytesOf a i=bytesOf a id:=by simpa [h0] using hb
     have e:=hO.file_inj ((hfl f i d hf).1 h0) hid hb'
     show (if i≠0 then (i,a) else fileD a d)=_
     rw[if_pos h0,e]
    ·have hb':d=bytesOf a id:=by simpa [h0] using hb
     show (if i≠0 then (i,a) else fileD a d)=_
     rw[if_neg h0,hb'];exact hO.fileD_id hid
  | dir i=>cases hk
  | own es=>cases hk
 have hent:∀ (id:Int),kindOf a id=2->∀ e ∈ entsOf a id,(e.2.1=1\/e.2.1=2):=fun id hk e he=>((hS.2 id hk).2.2 e he).2.1
 intro n
 induction n with
 | zero=>
  intro t u hok huk hu hsem
  have hkind:=sem_kind (hsem [])
  rcases hu with ⟨id,rfl⟩ | ⟨id,rfl⟩
  ·have hid:kindOf a id=1:=by simpa [LTok] using huk
   refine hfile 0 t id hkind hok hid ?_
   have:=hsem []
   rw[sem_nil,sem_nil] at this
   exact Option.some.inj this
  ·have hid:kindOf a id=2/\highOf a id<=0:=by simpa [LTok] using huk
   have hnone:∀ j,kindOf a j=2->highOf a j<=0->entsOf a j = []:=by
    intro j hj hh
    cases he:entsOf a j with
    | nil=>rfl
    | cons e r=>
     have h1:=((hS.2 j hj).2.2 e (by rw[he];simp)).2.2.2
     have h2:=hS.1 e.2.2
     omega
   cases t with
   | file i=>cases hkind
   | held f=>cases hkind
   | dir i=>
    have hi:kindOf a i=2/\highOf a i<=0:=by simpa [LTok] using hok
    have e:=hO.dir_inj hi.1 hid.1 (by rw[hnone i hi.1 hi.2,hnone id hid.1 hid.2])
    rw[objR,e];rfl
   | own es=>
    rw[objR]
    have:=hO.dirD_id hid.1
    rw[hnone id hid.1 hid.2] at this
    exact this
 | succ n ih=>
  intro t u hok huk hu hsem
  have hkind:=sem_kind (hsem [])
  rcases hu with ⟨id,rfl⟩ | ⟨id,rfl⟩
  ·have hid:kindOf a id=1:=by simpa [LTok] using huk
   refine hfile _ t id hkind hok hid ?_
   have:=hsem []
   rw[sem_nil,sem_nil] at this
   exact Option.some.inj this
  ·have hid:kindOf a id=2:=by rw[LTok] at huk;exact huk.1
   obtain⟨ru,_,u3⟩:=ok_kids hS huk (ks:=(entsOf a id).map kidOf) rfl
   -- what stands in t is,one by one,what stands in the stored directory
   have hkids:∀ (ks:Kids),kids a t=some ks->ks.length=(entsOf a id).length/\∀ k (h1:k<ks.length) (h2:k<(entsOf a id).length),(ks[k]).1=((entsOf a id)[k]).1/\(ks[k]).2.kind=((entsOf a id)[k]).2.1/\objR fl n (ks[k]).2 a=(((entsOf a id)[k]).2.2,a):=by
    intro ks hks
    obtain⟨rk,_,k3⟩:=ok_kids hS hok hks
    obtain⟨hnm,hsm⟩:=kid_sem hsem hks (show kids a (.dir id)=some ((entsOf a id).map kidOf) from rfl) rk ru
    have hl:ks.length=(entsOf a id).length:=by have:=congrArg List.length hnm;simpa using this
    refine⟨hl,fun k h1 h2=>?_⟩
    have h2':k<((entsOf a id).map kidOf).length:=by simpa using h2
    have hs:=hsm k h1 h2'
    rw[List.getElem_map] at hs
    obtain⟨_,m,hm,hokk⟩:=k3 _ (List.getElem_mem h1)
    obtain rfl:m=n:=by omega
    have hu3:=u3 _ (List.getElem_mem h2')
    rw[List.getElem_map] at hu3
    obtain⟨_,m',hm',hoku⟩:=hu3
    obtain rfl:m'=m:=by omega
    have hih:=ih (ks[k]).2 (kidOf (entsOf a id)[k]).2 hokk hoku (stored_kid _) hs
    rw[kidOf_id] at hih
    refine⟨?_,?_,hih⟩
    ·have:=congrArg (fun l=>l[k]?) hnm
     simp only[List.getElem?_map,List.getElem?_eq_getElem h1,List.getElem?_eq_getElem h2,Option.map_some,Option.some.injEq] at this
     exact this
    ·rw[sem_kind (hs []),kidOf_kind (hent id hid _ (List.getElem_mem h2))]
   cases t with
   | file i=>cases hkind
   | held f=>cases hkind
   | dir i=>
    have hi:kindOf a i=2:=by rw[LTok] at hok;exact hok.1
    obtain⟨hl,hk⟩:=hkids _ rfl
    have hee:entsOf a i=entsOf a id:=by
     apply List.ext_getElem
     ·simpa using hl
     ·intro k h1 h2
      obtain⟨q1,q2,q3⟩:=hk k (by simpa using h1) h2
      rw[List.getElem_map] at q1 q2 q3
      have hst:objR fl n (kidOf (entsOf a i)[k]).2 a=((kidOf (entsOf a i)[k]).2.id,a):=by
       rcases stored_kid (entsOf a i)[k] with ⟨j,hj⟩ | ⟨j,hj⟩ <;> rw[hj] <;> cases n <;> (rw[objR];rfl)
      rw[hst,kidOf_id] at q3
      rw[kidOf_kind (hent i hi _ (List.getElem_mem h1))] at q2
      exact Prod.ext q1 (Prod.ext q2 (congrArg Prod.fst q3))
    rw[objR,hO.dir_inj hi hid hee];rfl
   | own es=>
    obtain⟨hl,hk⟩:=hkids es rfl
    have hpre:∀ k,k<=es.length->kidsR fl n (es.take k) a=((entsOf a id).take k,a):=by
     intro k
     induction k with
     | zero=>intro _;simp[kidsR]
     | succ k ihk=>
      intro hkl
      have h1:k<es.length:=by omega
      have h2:k<(entsOf a id).length:=by omega
      obtain⟨q1,q2,q3⟩:=hk k h1 h2
      rw[List.take_succ_eq_append_getElem h1,kidsR_snoc,ihk (by omega),List.take_succ_eq_append_getElem h2]
      simp only[q3,q1,q2]
    have hall:=hpre es.length (Nat.le_refl _)
    rw[List.take_length,hl,List.take_length] at hall
    rw[objR_own,hall]
    exact hO.dirD_id hid
theorem MSt.below {W wr:World}{s p:Nat}{B:WB}{objs:List Ob}{N lim:Nat}(h:MSt W wr s p B objs N lim):Below W.heap.size W wr:=by
 obtain⟨_,_,_,_,hO,_⟩:=h
 exact hO.1
end Go.Proofs.YtajopoddmfdejaaGreat
namespace Go.Proofs
open Go.Shelf
def Tryz.sortC_ren:Go.Shelf.Ren:=⟨fun | 6=>98 | 15=>141 | 14=>140 | 28=>167 | 29=>168 | 20=>159 | 21=>160 | 22=>161 | 23=>162 | 24=>163 | 25=>164 | 26=>165 | 27=>166 | 46=>187 | 47=>188 | 48=>189 | 49=>190 | 50=>191 | 57=>200 | n=>n,fun | 22=>54 | 24=>58 | 25=>175 | 3=>3 | 39=>215 | 0=>0 | 53=>247 | 55=>249 | 4=>4 | 46=>241 | 45=>240 | 50=>150 | 5=>5 | 9=>9 | 66=>259 | 70=>263 | 76=>278 | 77=>279 | n=>n,fun | n=>n⟩
theorem Tryz.sortC:Go.Proofs.SlLaysF0.n6 Tryz.prog Tryz.sortC_ren:={
 mixed:=by kernel_rfl
 f6:=⟨Tryz.f98.name,by decide,Tryz.func98.trans (congrArg some (by kernel_rfl))⟩
 f14:=⟨Tryz.f140.name,by decide,Tryz.func140.trans (congrArg some (by kernel_rfl))⟩
 f15:=Tryz.func141.trans (congrArg some (by kernel_rfl))
 f20:=⟨Tryz.f159.name,by decide,Tryz.func159.trans (congrArg some (by kernel_rfl))⟩
 f21:=⟨Tryz.f160.name,by decide,Tryz.func160.trans (congrArg some (by kernel_rfl))⟩
 f22:=⟨Tryz.f161.name,by decide,Tryz.func161.trans (congrArg some (by kernel_rfl))⟩
 f23:=⟨Tryz.f162.name,by decide,Tryz.func162.trans (congrArg some (by kernel_rfl))⟩
 f24:=⟨Tryz.f163.name,by decide,Tryz.func163.trans (congrArg some (by kernel_rfl))⟩
 f25:=⟨Tryz.f164.name,by decide,Tryz.func164.trans (congrArg some (by kernel_rfl))⟩
 f26:=⟨Tryz.f165.name,by decide,Tryz.func165.trans (congrArg some (by kernel_rfl))⟩
 f27:=⟨Tryz.f166.name,by decide,Tryz.func166.trans (congrArg some (by kernel_rfl))⟩
 f28:=Tryz.func167.trans (congrArg some (by kernel_rfl))
 f29:=Tryz.func168.trans (congrArg some (by kernel_rfl))
 f46:=⟨Tryz.f187.name,by decide,Tryz.func187.trans (congrArg some (by kernel_rfl))⟩
 f47:=Tryz.func188.trans (congrArg some (by kernel_rfl))
 f48:=Tryz.func189.trans (congrArg some (by kernel_rfl))
 f49:=⟨Tryz.f190.name,by decide,Tryz.func190.trans (congrArg some (by kernel_rfl))⟩
 f50:=⟨Tryz.f191.name,by decide,Tryz.func191.trans (congrArg some (by kernel_rfl))⟩
 f57:=⟨Tryz.f200.name,by decide,Tryz.func200.trans (congrArg some (by kernel_rfl))⟩
 t0:=Tryz.underlying0
 a0:=Tryz.isAgg0
 z0:=Tryz.sizeOf0
 v0:=Tryz.zeroValue0
 t3:=Tryz.underlying3
 a3:=Tryz.isAgg3
 z3:=Tryz.sizeOf3
 v3:=Tryz.zeroValue3
 t4:=Tryz.underlying4
 a4:=Tryz.isAgg4
 z4:=Tryz.sizeOf4
 v4:=Tryz.zeroValue4
 t5:=Tryz.underlying5
 a5:=Tryz.isAgg5
 z5:=Tryz.sizeOf5
 v5:=Tryz.zeroValue5
 t9:=Tryz.underlying9
 a9:=Tryz.isAgg9
 z9:=Tryz.sizeOf9
 v9:=Tryz.zeroValue9
 t22:=Tryz.underlying54
 a22:=Tryz.isAgg54
 z22:=Tryz.sizeOf54
 v22:=Tryz.zeroValue54
 t25:=Tryz.underlying175
 a25:=Tryz.isAgg175
 z25:=Tryz.sizeOf175
 v25:=Tryz.zeroValue175
 t39:=Tryz.underlying215
 a39:=Tryz.isAgg215
 z39:=Tryz.sizeOf215
 v39:=Tryz.zeroValue215
 t45:=Tryz.underlying240
 a45:=Tryz.isAgg240
 z45:=Tryz.sizeOf240
 v45:=Tryz.zeroValue240
 t46:=Tryz.underlying241
 a46:=Tryz.isAgg241
 z46:=Tryz.sizeOf241
 v46:=Tryz.zeroValue241
 t50:=Tryz.underlying150
 a50:=Tryz.isAgg150
 z50:=Tryz.sizeOf150
 v50:=Tryz.zeroValue150
 t53:=Tryz.underlying247
 a53:=Tryz.isAgg247
 z53:=Tryz.sizeOf247
 v53:=Tryz.zeroValue247
 t55:=Tryz.underlying249
 a55:=Tryz.isAgg249
 z55:=Tryz.sizeOf249
 v55:=Tryz.zeroValue249
 t66:=Tryz.underlying259
 a66:=Tryz.isAgg259
 z66:=Tryz.sizeOf259
 v66:=Tryz.zeroValue259
 t70:=Tryz.underlying263
 a70:=Tryz.isAgg263
 z70:=Tryz.sizeOf263
 v70:=Tryz.zeroValue263
 t76:=Tryz.underlying278
 a76:=Tryz.isAgg278
 z76:=Tryz.sizeOf278
 v76:=Tryz.zeroValue278
 t77:=Tryz.underlying279
 a77:=Tryz.isAgg279
 z77:=Tryz.sizeOf279
 v77:=Tryz.zeroValue279 }
end Go.Proofs
namespace Go.Proofs.YtajopoddmfdejaaGreat
open Go.RowKit Go.Sort Go.Shelf
set_option linter.unusedVariables false
set_option maxRecDepth 100000
set_option maxHeartbeats 16000000
theorem heap_three (w:World)(x y z:Obj):(((w.alloc x).alloc y).alloc z).heap[w.heap.size]? = some x/\(((w.alloc x).alloc y).alloc z).heap[w.heap.size+1]? = some y/\(((w.alloc x).alloc y).alloc z).heap[w.heap.size+2]? = some z:=by
 refine⟨(heap_alloc3 w x y z).1,(heap_alloc3 w x y z).2,?_⟩
 have:=heap_alloc_new ((w.alloc x).alloc y) z
 simpa using this
def CmpCells (n sv bt dr ow:Nat)(s0 s1 s2 s3 s4 nm nm2:ByteArray)(k id k2 id2:Int)(W:World):Prop:=
 W.cell? ⟨sv,0,none⟩=some (.pointer (some ⟨bt,0,none⟩))/\W.cell? ⟨sv,1,none⟩=some (.pointer (some ⟨dr,0,none⟩))/\W.cell? ⟨sv,2,none⟩=some (.map (some ow))/\
 W.cell? ⟨n,0,none⟩=some (.string s0)/\W.cell? ⟨n,1,none⟩=some (.string s1)/\W.cell? ⟨n,2,none⟩=some (.string s2)/\W.cell? ⟨n,3,none⟩=some (.string s3)/\W.cell? ⟨n,4,none⟩=some (.string s4)/\
 W.cell? ⟨n+1,0,none⟩=some (.string nm)/\W.cell? ⟨n+1,1,none⟩=some (.int .i64 k)/\W.cell? ⟨n+1,2,none⟩=some (.int .i64 id)/\
 W.cell? ⟨n+2,1,none⟩=some (.int .i64 k2)/\W.cell? ⟨n+2,2,none⟩=some (.int .i64 id2)

section
variable {s i p:Nat}{B:WB}{objs:List Ob}
end
end Go.Proofs.YtajopoddmfdejaaGreat
