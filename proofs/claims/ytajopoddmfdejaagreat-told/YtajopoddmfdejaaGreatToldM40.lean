/-
  What is proved here: Status of a tree that is its base, and of a workspace: nothing is told, and nothing has changed. Status of a workspace whose tree is its base's object: nothing is told, and nothing has ..
-/
import Derived.Test.YtajopoddmfdejaaGreatToldM39
import Derived.Test.YtajopoddmfdejaaGreatToldM32
import Derived.Test.YtajopoddmfdejaaGreatToldM38
import Derived.Test.YtajopoddmfdejaaGreatToldM37
import Derived.Test.YtajopoddmfdejaaGreatToldM33
namespace Go.Proofs.YtajopoddmfdejaaGreat
open Go.RowKit Go.Sort Go.Shelf
set_option linter.unusedVariables false
set_option maxRecDepth 100000
set_option maxHeartbeats 16000000

section
variable {s i p:Nat}{B:WB}{objs:List Ob}
end
theorem find_nobrk {objs:List Ob}{t:LT}{fs:FS}(h:fs.brk=false)(r:List ByteArray):(findR objs t fs r).2=findE objs t r:=by
 rcases findR_cases objs t fs r with ⟨_,h2,_⟩ | ⟨h1,_⟩
 ·exact h2
 ·rw[h1.1] at h;cases h
theorem look_nobrk {objs:List Ob}{t:LT}{fs:FS}(h:fs.brk=false)(r:List ByteArray):(lookR objs t fs r).2=lookE objs t r:=by
 rcases lookR_cases objs t fs r with ⟨_,h2,_⟩ | ⟨h1,_⟩
 ·exact h2
 ·rw[h1.1] at h;cases h
theorem findE_some {objs:List Ob}{t c:LT}{r:List ByteArray}(h:t.at objs r.reverse=some c):findE objs t r=(0,c):=by
 obtain⟨h1,h2⟩:=findE_at objs t r
 by_cases h0:(findE objs t r).1=0
 ·have:=h1 h0
  rw[h] at this
  exact Prod.ext h0 (Option.some.inj this).symm
 ·rw[h2 h0] at h;cases h
theorem lookE_some {objs:List Ob}{t d:LT}{ks:Kids}{r:List ByteArray}(h:t.at objs r.reverse=some d)(hk:kids objs d=some ks):lookE objs t r=(0,ks):=by
 unfold lookE
 rw[findE_some h]
 simp only
 cases d with
 | file i=>simp[kids] at hk
 | held f=>simp[kids] at hk
 | own es=>simp[kids] at hk;rw[<- hk];rfl
 | dir i=>simp[kids] at hk;rw[<- hk];rfl
structure Ren (objs:List Ob)(t:LT)(nc nd:ByteArray)(rc rd:List ByteArray)(df dt c:LT)(kf kt:Kids)(t1:LT):Prop where
 af:t.at objs rc.reverse=some df
 kkf:kids objs df=some kf
 pf:pickK kf nc=some c
 at_:t.at objs rd.reverse=some dt
 kkt:kids objs dt=some kt
 pt:pickK kt nd=none
 np:¬ (rc.reverse ++ [nc]) <+: (rd.reverse ++ [nd])
 pn:¬ (rd.reverse ++ [nd]) <+: (rc.reverse ++ [nc])
 eq:t1=modG objs (fun ks=>putK ks nd c) rd.reverse (modG objs (fun ks=>dropK ks nc) rc.reverse t)
def cs (n:Nat)(ks:Kids):Nat:=(ks.map fun x=>cntO n x.2).sum
structure Obs8 (objs:List Ob)(id:Int):Prop where
 exact:Exact objs
 once:Once objs
 ok:LTok objs 5 (.dir id)
 len:objs.length<=100
theorem work_walk (s:Nat)(id:Int)(R:Nat->World->Prop)(w:World)(hc:Calls Tryz.prog 40 #[.pointer (some ⟨s,0,none⟩),.int .i64 id] w fun e w'=>∃ wb:Nat,e=.returned (.tuple #[.pointer (some ⟨wb,0,none⟩),.int .i64 0])/\R wb w'):
  Calls Tryz.prog 12 #[.pointer (some ⟨s,0,none⟩),.int .i64 id] w fun e w'=>∃ wb:Nat,e=.returned (.tuple #[.pointer (some ⟨wb,0,none⟩),.bool true])/\R wb w':=by
 have HC:Hid _:=hc
 clear hc
 go_enter Tryz.func12,Tryz.ntmps12
 go_wp2_with fail
 refine Calls.mono HC.out ?_
 rintro e w1 ⟨wb,rfl,hR⟩
 have HR:Hid _:=hR
 clear hR HC
 go_wp2
 go_ret2
 exact⟨wb,rfl,HR.out⟩
theorem q_stat (objs:List Ob)(fl:Nat->Option (Int×ByteArray))(t:LT)(fs:FS)(r:List ByteArray)(h:fs.brk=false):(statR objs fl t fs r).1.brk=false:=by
 rcases fair_stat objs fl t fs r with ⟨h1,_⟩ | ⟨h1,_⟩
 ·rw[h1.1];exact h
 ·rw[h1.1] at h;cases h
def cont (objs:List Ob)(fl:Nat->Option (Int×ByteArray)):LT->ByteArray
 | .file id=>bytesOf objs id
 | .held f=>fcOf objs fl f
 | _=>⟨#[]⟩
def HoldAt (objs:List Ob)(fl:Nat->Option (Int×ByteArray))(t:LT)(q:List ByteArray)(n:ByteArray)(c:LT)(f:Nat)(fl':Nat->Option (Int×ByteArray))(t':LT):Prop:=
 (c=.held f/\t'=t/\fl'=fl)\/∃ id,c=.file id/\fl f=none/\t'=modG objs (fun ks=>putK ks n (.held f)) q t/\fl'=updN fl f (some (id,⟨#[]⟩))
theorem bytes_fc {objs:List Ob}{fl:Nat->Option (Int×ByteArray)}{fs:FS}(hb:fs.brk=false)(f:Nat):∃ fs',bytesG objs fl fs f=(fs',0,fcOf objs fl f)/\fs'.brk=false:=by
 unfold bytesG fcOf
 cases fl f with
 | none=>exact⟨fs,rfl,hb⟩
 | some x=>
  obtain⟨id,d⟩:=x
  simp only
  by_cases h0:id=0
  ·rw[if_pos h0,if_neg (by simpa using h0)];exact⟨fs,rfl,hb⟩
  ·rw[if_neg h0,if_pos h0]
   by_cases hk:fs.kF id=true
   ·have h:fs.fileG id=(fs,true):=by unfold FS.fileG;rw[if_pos hk]
    rw[h];exact⟨fs,rfl,hb⟩
   ·have h:fs.fileG id=({ fs with got:=fs.got ++ [id],kF:=fun x=>decide (x=id) || fs.kF x },true):=by unfold FS.fileG;rw[if_neg hk,if_neg (by rw[hb];decide)]
    rw[h];exact⟨_,rfl,hb⟩
theorem look_real {objs:List Ob}{t d:LT}{ks:Kids}{fs:FS}(hb:fs.brk=false){r:List ByteArray}(ha:t.at objs r.reverse=some d)(hk:kids objs d=some ks):∃ fs',lookR objs t fs r=(fs',0,ks)/\fs'.brk=false:=by
 have h2:=(q_look objs t fs r).2 hb
 rcases lookR_cases objs t fs r with ⟨_,h1,_⟩ | ⟨h1,_⟩
 ·rw[lookE_some ha hk] at h1
  exact⟨(lookR objs t fs r).1,Prod.ext rfl h1,h2⟩
 ·rw[h1.1] at hb;cases hb
theorem stat_held {objs:List Ob}{fl:Nat->Option (Int×ByteArray)}{t:LT}{fs:FS}(hb:fs.brk=false){r:List ByteArray}{f:Nat}(ha:t.at objs r.reverse=some (.held f)):∃ fs',statR objs fl t fs r=(fs',0,1,((fcOf objs fl f).size:Int))/\fs'.brk=false:=by
 have hnob:=find_nobrk (objs:=objs) (t:=t) hb r
 have hfb:(findR objs t fs r).1.brk=false:=(q_find objs t fs r).2 hb
 have h2:(findR objs t fs r).2=(0,.held f):=by rw[hnob,findE_some ha]
 obtain⟨fs',h3,h4⟩:=bytes_fc (objs:=objs) (fl:=fl) hfb f
 refine⟨fs',?_,h4⟩
 unfold statR
 have e1:(findR objs t fs r).2.1=0:=by rw[h2]
 have e2:(findR objs t fs r).2.2=.held f:=by rw[h2]
 simp only[e1,e2,sizeG,h3]
 rfl
def TdSt (s i p:Nat)(B:WB)(objs:List Ob)(tg0:Tags)(w0 w:World)(lim:Nat)(base:Int)(t:LT)(fl:Nat->Option (Int×ByteArray))(op:Nat->Option (Nat×Nat×Int×Int)):Prop:=
 ∃ tg g,Moves (Mine i) tg0 tg w0 w/\WInv tg w s i p B objs g lim/\Flat objs t g.ft/\LTok objs 5 t/\FlOk objs g.fl/\g.fs.brk=false/\g.base=base/\g.fl=fl/\g.op=op
section
variable {s i p:Nat}{B:WB}{objs:List Ob}{tg0:Tags}{w0:World}{base:Int}
theorem td_open {tg:Tags}{w:World}{g:WG}{lim:Nat}{t c:LT}(h:QInv tg w s i p B objs g lim t)(hl:lim+1000<1099511627776)(hbr:g.fs.brk=false){n:ByteArray}{r:List ByteArray}(hL:Good (r.reverse ++ [n]))(ha:t.at objs (r.reverse ++ [n])=some c)(hc:c.kind=1):
  Calls Tryz.prog 50 #[.pointer (some ⟨B.wb,0,none⟩),.string (joinB (r.reverse ++ [n])),.int .i64 1] w fun e w'=>e=.returned (.tuple #[.int .i64 ((0:Nat):Int),.int .i64 0])/\∃ b f fl' t',HoldAt objs g.fl t r.reverse n c f fl' t'/\TdSt s i p B objs tg w w' (lim+300) g.base t' fl' (updN (fun _=>none) 0 (some (b,f,1,0))):=by
 obtain⟨d,ks,had,hkd,hpk⟩:=at_snoc ha
 obtain⟨fs',hlk,hfb⟩:=look_real (objs:=objs) hbr had hkd
 obtain⟨hwb,c0,htab⟩:=h.ws
 have hok:=ok_at h.inv.st.sound _ h.ok ha
 have hopn:=fun W (hb:Below w.heap.size w W)=>open_walk (h.inv.below hb) (by omega) h.flat h.ok hL 1 false false false (by decide) (by decide) (by decide)
 simp only[hlk] at hopn
 have hoe:openE ks n false false=0:=openE_file hpk hc
 have hfresh:∀ W,Below w.heap.size w W->∀ f,W.heap.size<=f->g.fl f=none:=by
  intro W hb f hf
  cases hx:g.fl f with
  | none=>rfl
  | some x=>
   obtain⟨id,d⟩:=x
   have:=(Array.getElem?_eq_some_iff.1 (h.inv.wp.files f id d hx).2.1).1
   have:=hb.size
   omega
 refine (open_ws_ok B.wb B.bt 0 (fun _=>none) 1 _ hL (fun f w'=>∃ tg' g' t',Moves (Mine i) tg tg' w w'/\WInv tg' w' s i p B objs g' (lim+300)/\Flat objs t' g'.ft/\LTok objs 5 t'/\FlOk objs g'.fl/\(∃ y,g'.fl f=some y)/\g'.fs=fs'/\g'.base=g.base/\g'.op=g.op/\HoldAt objs g.fl t r.reverse n c f g'.fl t') w htab c0 (by decide) rfl (fun j hj=>by omega) valid_1 (fun W hb=>(hopn W hb).mono ?_) ?_).mono ?_
 ·rintro e w' (⟨hx,_⟩ | ⟨_,hx,_⟩ | ⟨_,_,f,tg',ft',fl',t',he,m,hW,hF,hO,hT⟩)
  ·exact absurd rfl hx
  ·exact absurd hoe hx
  ·refine⟨f,he,tg',_,t',call_moves hb m,hW,hF,hO,?_⟩
   rcases hT with ⟨hx,_⟩ | ⟨hx,rfl,rfl⟩ | ⟨id,hx,hsz,rfl,rfl⟩
   ·rw[hpk] at hx;cases hx
   ·rw[hpk] at hx
    cases hx
    rw[if_neg (show ¬ (false=true) by decide)]
    exact⟨h.fl,h.held _ f ha,rfl,rfl,rfl,.inl ⟨rfl,rfl,rfl⟩⟩
   ·rw[hpk] at hx
    cases hx
    rw[if_neg (show ¬ (false=true) by decide)]
    have hki:kindOf objs id=1:=by have:=hok.2.1;rw[LTok] at this;exact this
    refine⟨fun f' id' d' hf hid=>?_,⟨_,updN_same _ _ _⟩,rfl,rfl,rfl,.inr ⟨id,rfl,hfresh W hb f hsz,rfl,rfl⟩⟩
    by_cases e:f'=f
    ·subst e
     have hf':updN g.fl f' (some (id,⟨#[]⟩)) f'=some (id',d'):=hf
     rw[updN_same] at hf';cases hf';exact hki
    ·have hf':updN g.fl f (some (id,⟨#[]⟩)) f'=some (id',d'):=hf
     rw[updN_other e] at hf';exact h.fl f' id' d' hf' hid
 ·rintro f w' ⟨tg',g',t',m,hW,_,_,_,_,_,_,ho,_⟩
  obtain⟨h1,h2⟩:=hW.wp.opens.tab
  refine⟨h1.1,fun k hk=>?_,h1.2.2⟩
  rw[h1.2.1 k hk]
  show some (Value.pointer (Option.map _ (Option.map _ (g'.op k))))=_
  rw[ho,h.op k];rfl
 ·rintro e w' ⟨he,f,w1,⟨tg1,g1,t1,m1,hW1,hF1,hO1,hL1,⟨y,hy⟩,hs1,hb1,ho1,hh1⟩,rfl⟩
  obtain⟨m2,hW2⟩:=hW1.open_at (k:=0) (f:=f) (fg:=1) (by decide) hy (by decide) (by decide)
  refine⟨he,w1.heap.size,f,_,t1,hh1,_,_,m1.trans (m2.mono (fun x hx=>.inr (by rw[hx]))),hW2,hF1,hO1,hL1,by show g1.fs.brk=false;rw[hs1];exact hfb,hb1,rfl,?_⟩
  show updN g1.op 0 _=_
  rw[ho1,show g.op=fun _=>none from funext h.op]
theorem td_read {w:World}{lim b f:Nat}{t:LT}{fl:Nat->Option (Int×ByteArray)}(hl:lim+10<1099511627776)(h:TdSt s i p B objs tg0 w0 w lim base t fl (updN (fun _=>none) 0 (some (b,f,1,0)))):
  Calls Tryz.prog 63 #[.pointer (some ⟨B.wb,0,none⟩),.int .i64 ((0:Nat):Int),.int .i64 1000] w fun e w'=>e=.returned (.tuple #[.string (fcOf objs fl f),.int .i64 0])/\∃ pl,TdSt s i p B objs tg0 w0 w' (lim+1) base t fl (updN (fun _=>none) 0 (some (b,f,1,pl))):=by
 obtain⟨tg,g,hm,hW,hF,hok,hfl,hbr,hba,rfl,hop⟩:=h
 have ho:g.op 0=some (b,f,1,0):=by rw[hop];exact updN_same _ _ _
 obtain⟨_,c1,_⟩:=opens_cell hW (by decide) ho
 obtain⟨fs',hby,hfb⟩:=bytes_fc (objs:=objs) (fl:=g.fl) hbr f
 have hsz:=bytes_len hW hfl hby
 have hrd:=read_gen hW (by omega) hfl ho (n:=1000) (by decide) (by decide) (by decide) hby
 generalize fcOf objs g.fl f=dd at hsz hrd
 have hex:dd.extract (min (0:Int).toNat dd.size) (min (min (0:Int).toNat dd.size+(min 1000 (256-0):Int).toNat) dd.size)=dd:=by
  have e1:min (0:Int).toNat dd.size=0:=by simp
  have e2:(min 1000 (256-0):Int).toNat=256:=by decide
  rw[e1,e2,Nat.zero_add,Nat.min_eq_right hsz]
  apply toL_inj
  rw[extract_toL,List.drop_zero,List.take_of_length_le (by rw[toL_len];exact Nat.le_refl _)]
 rw[hex] at hrd
 refine (read_ws B.wb 0 b 1000 dd 0 _ w c1 (by decide) hrd).mono ?_
 rintro e w' ⟨he,tg',m,hW'⟩
 refine⟨he,0+dd.size,tg',_,hm.trans m,hW',hF,hok,hfl,hfb,hba,rfl,?_⟩
 show updN g.op 0 _=_
 rw[hop]
 funext x
 by_cases e:x=0
 ·subst e;rw[updN_same,updN_same]
 ·rw[updN_other e,updN_other e,updN_other e]
theorem td_close {w:World}{lim b f:Nat}{pl:Int}{t:LT}{fl:Nat->Option (Int×ByteArray)}(h:TdSt s i p B objs tg0 w0 w lim base t fl (updN (fun _=>none) 0 (some (b,f,1,pl)))):
  Calls Tryz.prog 52 #[.pointer (some ⟨B.wb,0,none⟩),.int .i64 ((0:Nat):Int)] w fun e w'=>e=.returned (.int .i64 0)/\TdSt s i p B objs tg0 w0 w' lim base t fl (fun _=>none):=by
 obtain⟨tg,g,hm,hW,hF,hok,hfl,hbr,hba,rfl,hop⟩:=h
 have ho:g.op 0=some (b,f,1,pl):=by rw[hop];exact updN_same _ _ _
 obtain⟨c0,c1,c2⟩:=opens_cell hW (by decide) ho
 refine (close_ws B.wb 0 b w c0 c1 c2 (by decide)).mono ?_
 rintro e w' ⟨he,rfl⟩
 obtain⟨m2,hW2⟩:=hW.close (k:=0) (by decide)
 refine⟨he,tg,_,hm.trans (m2.mono (fun x hx=>.inr (by rw[hx]))),hW2,hF,hok,hfl,hbr,hba,rfl,?_⟩
 show updN g.op 0 none=_
 rw[hop]
 funext x
 by_cases e:x=0
 ·subst e;rw[updN_same]
 ·rw[updN_other e,updN_other e]
theorem hold_at {fl fl':Nat->Option (Int×ByteArray)}{t t' c:LT}{q:List ByteArray}{n:ByteArray}{f:Nat}{d:LT}{ks:Kids}(had:t.at objs q=some d)(hkd:kids objs d=some ks)(hr:RisingK ks)(hpk:pickK ks n=some c)(hki:∀ id,c=.file id->kindOf objs id=1)(h:HoldAt objs fl t q n c f fl' t'):t'.at objs (q ++ [n])=some (.held f)/\fcOf objs fl' f=cont objs fl c:=by
 rcases h with ⟨rfl,rfl,rfl⟩ | ⟨id,rfl,_,rfl,rfl⟩
 ·exact⟨by rw[at_kid had hkd,hpk,Option.bind_some,at_nil],rfl⟩
 ·obtain⟨h1,_⟩:=at_mod objs (fun ks=>putK ks n (.held f)) q t d ks had hkd
  refine⟨by rw[h1,pick_put hr,if_pos rfl,Option.bind_some,at_nil],?_⟩
  unfold fcOf
  rw[updN_same]
  simp only[cont]
  have:=(kindOf_pos (a:=objs) (id:=id) (by rw[hki id rfl];decide)).1
  rw[if_pos (by omega)]
theorem qtold {tg:Tags}{w:World}{g:WG}{lim:Nat}{t c:LT}(h:QInv tg w s i p B objs g lim t)(hl:lim+2000<1099511627776)(hbr:g.fs.brk=false){n:ByteArray}{r:List ByteArray}(hL:Good (r.reverse ++ [n]))(ha:t.at objs (r.reverse ++ [n])=some c)(hc:c.kind=1):
  Calls Tryz.prog 41 #[.pointer (some ⟨B.wb,0,none⟩),.string (joinB (r.reverse ++ [n]))] w fun e w'=>e=.returned (.tuple #[.string (cont objs g.fl c),.bool true])/\QTo s i p B objs tg w w' (lim+800) (fun g' t'=>g'.fs.brk=false/\g'.base=g.base/\∃ f,HoldAt objs g.fl t r.reverse n c f g'.fl t'):=by
 obtain⟨d,ks,had,hkd,hpk⟩:=at_snoc ha
 have hS:=h.inv.st.sound
 have hrise:=(ok_kids hS (ok_at hS _ h.ok had).2.1 hkd).1
 have hki:∀ id,c=.file id->kindOf objs id=1:=fun id e=>by have:=(ok_at hS _ h.ok ha).2.1;rw[e,LTok] at this;exact this
 have R2:∀ w2,(∃ b f pl fl' t',HoldAt objs g.fl t r.reverse n c f fl' t'/\TdSt s i p B objs tg w w2 (lim+301) g.base t' fl' (updN (fun _=>none) 0 (some (b,f,1,pl))))->True:=fun _ _=>trivial
 refine (told_walk B.wb 0 (joinB (r.reverse ++ [n])) (cont objs g.fl c) _ (fun w2=>∃ b f pl fl' t',HoldAt objs g.fl t r.reverse n c f fl' t'/\TdSt s i p B objs tg w w2 (lim+301) g.base t' fl' (updN (fun _=>none) 0 (some (b,f,1,pl)))) (fun w3=>∃ f fl' t',HoldAt objs g.fl t r.reverse n c f fl' t'/\TdSt s i p B objs tg w w3 (lim+301) g.base t' fl' (fun _=>none)) (fun w4=>QTo s i p B objs tg w w4 (lim+800) (fun g' t'=>g'.fs.brk=false/\g'.base=g.base/\∃ f,HoldAt objs g.fl t r.reverse n c f g'.fl t')) w (td_open h (by omega) hbr hL ha hc) ?_ ?_ ?_).mono ?_
 ·rintro w1 ⟨b,f,fl',t',hh,hT⟩
  have hc':=(hold_at had hkd hrise hpk hki hh).2
  refine (td_read (by omega) hT).mono ?_
  rintro e w' ⟨he,pl,hT'⟩
  rw[hc'] at he
  exact⟨he,b,f,pl,fl',t',hh,hT'⟩
 ·rintro w2 ⟨b,f,pl,fl',t',hh,hT⟩
  refine (td_close hT).mono ?_
  rintro e w' ⟨he,hT'⟩
  exact⟨he,f,fl',t',hh,hT'⟩
 ·rintro w3 ⟨f,fl',t',hh,tg3,g3,hm,hW,hF,hok,hfl,hbr3,hba,rfl,hop⟩
  obtain⟨hat,hcc⟩:=hold_at had hkd hrise hpk hki hh
  have hQ3:QInv tg3 w3 s i p B objs g3 (lim+301) t':=⟨hW,hF,hok,hfl,fun k=>by rw[hop]⟩
  have hrev:(n :: r).reverse=r.reverse ++ [n]:=List.reverse_cons
  obtain⟨fs',hst,hfb⟩:=stat_held (objs:=objs) (fl:=g3.fl) hbr3 (r:=n :: r) (by rw[hrev];exact hat)
  have hq:=qstat hQ3 (by omega) (r:=n :: r) (by rw[hrev];exact hL)
  rw[hst,hrev,hcc] at hq
  refine hq.mono ?_
  rintro e w' ⟨he,tg',g',t'',m,hQ',rfl,hfs,hfl',hbs⟩
  exact⟨he,tg',g',t'',hm.trans m,hQ'.mono (by omega),by rw[hfs];exact hfb,by rw[hbs];exact hba,f,by rw[hfl'];exact hh⟩
 ·rintro e w' ⟨he,w4,⟨tg',g',t',m,hQ,hR⟩,hb⟩
  exact⟨he,tg',g',t',m.trans (Moves.of_below hb),hQ.below hb,hR⟩
end
abbrev Thing8:=ByteArray×Int×ByteArray
def ndD:Nd->ByteArray
 | .dir=>⟨#[]⟩
 | .file d=>d
def thingsR (a:List Ob)(fc:FileC):Nat->List ByteArray->LT->List Thing8
 | 0,_,_=>[]
 | n+1,q,c=>((kids a c).getD []).flatMap fun x=>(joinB (q ++ [x.1]),x.2.kind,ndD (nd a fc x.2)) :: (if x.2.kind=2 then thingsR a fc n (q ++ [x.1]) x.2 else [])
def thingsX (a:List Ob)(fc:FileC)(n:Nat)(q:List ByteArray)(x:ByteArray×LT):List Thing8:=(joinB (q ++ [x.1]),x.2.kind,ndD (nd a fc x.2)) :: (if x.2.kind=2 then thingsR a fc n (q ++ [x.1]) x.2 else [])
theorem things_succ {a:List Ob}{fc:FileC}{n:Nat}{q:List ByteArray}{c:LT}{ks:Kids}(hk:kids a c=some ks):thingsR a fc (n+1) q c=ks.flatMap (thingsX a fc n q):=by rw[thingsR,hk];rfl
theorem kid_sem2 {a b:List Ob}{fc fc':FileC}{t u:LT}{ks ku:Kids}(h:∀ q,sem a fc t q=sem b fc' u q)(hk:kids a t=some ks)(hu:kids b u=some ku)(rk:RisingK ks)(ru:RisingK ku):
  ks.map (·.1)=ku.map (·.1)/\∀ k (h1:k<ks.length) (h2:k<ku.length),∀ q,sem a fc (ks[k]).2 q=sem b fc' (ku[k]).2 q:=by
 have hn:∀ n r,((pickK ks n).bind fun c=>sem a fc c r)=((pickK ku n).bind fun c=>sem b fc' c r):=by
  intro n r
  have:=h (n :: r)
  rw[sem_cons,sem_cons,hk,hu,Option.bind_some,Option.bind_some] at this
  exact this
 have hnames:ks.map (·.1)=ku.map (·.1):=by
  refine names_eq rk ru (fun n=>?_)
  have:=hn n []
  cases h1:pickK ks n <;> cases h2:pickK ku n <;> rw[h1,h2] at this <;> simp[sem_nil] at this ⊢
 refine⟨hnames,fun k h1 h2 q=>?_⟩
 have he:(ks[k]).1=(ku[k]).1:=by
  have:=congrArg (fun l=>l[k]?) hnames
  simp only[List.getElem?_map,List.getElem?_eq_getElem h1,List.getElem?_eq_getElem h2,Option.map_some,Option.some.injEq] at this
  exact this
 have:=hn (ks[k]).1 q
 rw[pick_getK rk h1,he,pick_getK ru h2,Option.bind_some,Option.bind_some] at this
 exact this
theorem sem_nd {a b:List Ob}{fc fc':FileC}{t u:LT}(h:sem a fc t []=sem b fc' u []):nd a fc t=nd b fc' u:=by
 rw[sem_nil,sem_nil] at h
 exact Option.some.inj h
theorem nd_kind {a b:List Ob}{fc fc':FileC}{t u:LT}(h:nd a fc t=nd b fc' u):t.kind=u.kind:=by
 cases t <;> cases u <;> simp[nd,LT.kind] at h ⊢
theorem kids_some {a:List Ob}{c:LT}(h:c.kind=2):∃ ks,kids a c=some ks:=by
 cases c with
 | file i=>cases h
 | held f=>cases h
 | dir i=>exact⟨_,rfl⟩
 | own es=>exact⟨_,rfl⟩
theorem kids_none {a:List Ob}{c:LT}(h:c.kind≠2):kids a c=none:=by
 cases c with
 | file i=>rfl
 | held f=>rfl
 | dir i=>exact absurd rfl h
 | own es=>exact absurd rfl h
theorem flatMap_two {α β γ:Type}{f:α->List γ}{g:β->List γ}:∀ {l:List α} {m:List β},l.length=m.length->(∀ k (h1:k<l.length) (h2:k<m.length),f l[k]=g m[k])->l.flatMap f=m.flatMap g
 | [],[],_,_=>rfl
 | [],y :: m,h,_=>by cases h
 | x :: l,[],h,_=>by cases h
 | x :: l,y :: m,h,hf=>by
  rw[List.flatMap_cons,List.flatMap_cons]
  have h0:=hf 0 (by simp) (by simp)
  simp only[List.getElem_cons_zero] at h0
  rw[h0,flatMap_two (by simpa using h) (fun k h1 h2=>by have:=hf (k+1) (by simpa using h1) (by simpa using h2);simpa using this)]
theorem things_sem {a b:List Ob}{fc fc':FileC}(hA:Sound a)(hB:Sound b):∀ (n:Nat) (q:List ByteArray) (t u:LT),LTok a n t->LTok b n u->(∀ x,sem a fc t x=sem b fc' u x)->thingsR a fc n q t=thingsR b fc' n q u
 | 0,q,t,u,_,_,_=>by rw[thingsR,thingsR]
 | n+1,q,t,u,ht,hu,h=>by
  have hkd:=nd_kind (sem_nd (h []))
  by_cases hk:t.kind=2
  ·obtain⟨ks,hks⟩:=kids_some (a:=a) hk
   obtain⟨ku,hku⟩:=kids_some (a:=b) (hkd ▸ hk)
   obtain⟨rk,_,hk2⟩:=ok_kids hA ht hks
   obtain⟨ru,_,hu2⟩:=ok_kids hB hu hku
   obtain⟨hn,hs⟩:=kid_sem2 h hks hku rk ru
   have hlen:ks.length=ku.length:=by have:=congrArg List.length hn;simpa using this
   rw[things_succ hks,things_succ hku]
   refine flatMap_two hlen (fun k h1 h2=>?_)
   have he:(ks[k]).1=(ku[k]).1:=by
    have:=congrArg (fun l=>l[k]?) hn
    simp only[List.getElem?_map,List.getElem?_eq_getElem h1,List.getElem?_eq_getElem h2,Option.map_some,Option.some.injEq] at this
    exact this
   have hnd:=sem_nd (hs k h1 h2 [])
   have hki:=nd_kind hnd
   obtain⟨m1,e1,o1⟩:=(hk2 _ (List.getElem_mem h1)).2
   obtain⟨m2,e2,o2⟩:=(hu2 _ (List.getElem_mem h2)).2
   have e1':m1=n:=by omega
   have e2':m2=n:=by omega
   subst e1'
   subst e2'
   unfold thingsX
   rw[he,hnd,hki,things_sem hA hB m2 (q ++ [(ku[k]).1]) _ _ o1 o2 (hs k h1 h2)]
  ·rw[thingsR,thingsR,kids_none hk,kids_none (by rw[<- hkd];exact hk)];rfl
def tBound:Nat->Nat
 | 0=>0
 | n+1=>16*(1+tBound n)
theorem flat_boundT {α β:Type}(f:α->List β)(b:Nat):∀ (l:List α),(∀ x ∈ l,(f x).length<=b)->(l.flatMap f).length<=l.length*b
 | [],_=>by simp
 | x :: r,h=>by
  rw[List.flatMap_cons,List.length_append,List.length_cons,Nat.succ_mul]
  have h1:=h x (List.mem_cons_self ..)
  have h2:=flat_boundT f b r (fun y hy=>h y (List.mem_cons_of_mem _ hy))
  omega
theorem things_bound {a:List Ob}{fc:FileC}(hA:Sound a):∀ (n:Nat) (q:List ByteArray) (t:LT),LTok a n t->(thingsR a fc n q t).length<=tBound n
 | 0,q,t,_=>by rw[thingsR];simp[tBound]
 | n+1,q,t,ht=>by
  by_cases hk:t.kind=2
  ·obtain⟨ks,hks⟩:=kids_some (a:=a) hk
   obtain⟨rk,h16,hk2⟩:=ok_kids hA ht hks
   rw[things_succ hks,tBound]
   refine Nat.le_trans (flat_boundT _ (1+tBound n) ks (fun x hx=>?_)) (Nat.mul_le_mul_right _ h16)
   unfold thingsX
   rw[List.length_cons]
   obtain⟨m,e,o⟩:=(hk2 x hx).2
   have e':m=n:=by omega
   subst e'
   split
   ·have:=things_bound (fc:=fc) hA m (q ++ [x.1]) x.2 o
    omega
   ·simp
  ·rw[thingsR,kids_none hk];simp
structure Alike (objs:List Ob)(g:WG)(t:LT)(g':WG)(t':LT):Prop where
 sem:∀ x,sem objs (fcOf objs g'.fl) t' x=sem objs (fcOf objs g.fl) t x
 base:g'.base=g.base
 brk:g'.fs.brk=false
 inj:HeldInj objs t->HeldInj objs t'
theorem Alike.trans {objs:List Ob}{g g1 g2:WG}{t t1 t2:LT}(h:Alike objs g t g1 t1)(k:Alike objs g1 t1 g2 t2):Alike objs g t g2 t2:=
 ⟨fun x=>(k.sem x).trans (h.sem x),k.base.trans h.base,k.brk,fun i=>k.inj (h.inj i)⟩
theorem Alike.same {objs:List Ob}{g g':WG}{t:LT}(hfl:g'.fl=g.fl)(hb:g'.base=g.base)(hk:g'.fs.brk=false):Alike objs g t g' t:=⟨fun x=>by rw[hfl],hb,hk,fun h=>h⟩
theorem sem_fc {objs:List Ob}{fc fc':FileC}{t:LT}(h:∀ x f,t.at objs x=some (.held f)->fc' f=fc f)(x:List ByteArray):sem objs fc' t x=sem objs fc t x:=by
 unfold sem
 cases hx:t.at objs x with
 | none=>rfl
 | some c=>
  cases c with
  | file i=>rfl
  | held f=>simp only[Option.map_some,nd];rw[h x f hx]
  | dir i=>rfl
  | own es=>rfl
theorem hold_alike {objs:List Ob}(hS:Sound objs){g g':WG}{t t' c:LT}(hok:LTok objs 5 t)(hheld:∀ x f,t.at objs x=some (.held f)->∃ y,g.fl f=some y){q:List ByteArray}{n:ByteArray}(ha:t.at objs (q ++ [n])=some c){f:Nat}(h:HoldAt objs g.fl t q n c f g'.fl t')(hbr:g'.fs.brk=false)(hba:g'.base=g.base):Alike objs g t g' t':=by
 rcases h with ⟨_,rfl,hfl⟩ | ⟨id,rfl,hf,rfl,hfl⟩
 ·exact Alike.same hfl hba hbr
 ·obtain⟨d,ks,had,hkd,hpk⟩:=at_snoc ha
  have hr:=(ok_kids hS (ok_at hS _ hok had).2.1 hkd).1
  have hki:kindOf objs id=1:=by have:=(ok_at hS _ hok ha).2.1;rw[LTok] at this;exact this
  have hid:=(kindOf_pos (a:=objs) (id:=id) (by rw[hki];decide)).1
  have hfne:∀ x f',t.at objs x=some (.held f')->f'≠f:=fun x f' hx e=>by
   obtain⟨y,hy⟩:=hheld x f' hx
   rw[e,hf] at hy;cases hy
  have hfc:∀ x f',t.at objs x=some (.held f')->fcOf objs g'.fl f'=fcOf objs g.fl f':=fun x f' hx=>by
   unfold fcOf
   rw[hfl,updN_other (hfne x f' hx)]
  have hff:fcOf objs g'.fl f=bytesOf objs id:=by
   unfold fcOf
   rw[hfl,updN_same]
   simp only
   rw[if_pos (by omega)]
  refine⟨fun x=>?_,hba,hbr,fun hinj=>?_⟩
  ·obtain⟨s1,s2⟩:=sem_mod objs (fcOf objs g'.fl) (fun ks=>putK ks n (.held f)) q t d ks had hkd
   by_cases hx:∃ m r,x=q++m :: r
   ·obtain⟨m,r,rfl⟩:=hx
    rw[s1,pick_put hr]
    have horig:sem objs (fcOf objs g.fl) t (q++m :: r)=(pickK ks m).bind fun c=>sem objs (fcOf objs g.fl) c r:=by
     unfold sem
     rw[at_kid had hkd]
     cases pickK ks m <;> rfl
    by_cases e:m=n
    ·rw[if_pos e,horig,e,hpk,Option.bind_some,Option.bind_some]
     cases r with
     | nil=>rw[sem_nil,sem_nil];simp only[nd,hff]
     | cons b r=>rw[sem_cons,sem_cons];rfl
    ·rw[if_neg e,<- sem_fc hfc (q++m :: r)]
     unfold sem
     rw[at_kid had hkd]
     cases pickK ks m <;> rfl
   ·rw[s2 x hx]
    exact sem_fc hfc x
  ·intro x y b hx hy
   have key:∀ x,(modG objs (fun ks=>putK ks n (.held f)) q t).at objs x=some (.held b)->(b=f/\x=q ++ [n])\/(b≠f/\t.at objs x=some (.held b)):=by
    intro x hx
    rcases put_held hr had hkd hx with ⟨r,rfl,h1⟩ | ⟨h1,_⟩
    ·cases r with
     | nil=>rw[at_nil] at h1;cases h1;exact .inl ⟨rfl,rfl⟩
     | cons z r=>rw[at_cons] at h1;simp[kids] at h1
    ·exact .inr ⟨hfne x b h1,h1⟩
   rcases key x hx with ⟨e1,e2⟩ | ⟨e1,e2⟩ <;> rcases key y hy with ⟨e3,e4⟩ | ⟨e3,e4⟩
   ·rw[e2,e4]
   ·exact absurd e1 e3
   ·exact absurd e3 e1
   ·exact hinj x y b e2 e4
def SemEq (a:List Ob)(fc:FileC)(t:LT)(b:List Ob)(fc':FileC)(u:LT):Prop:=∀ x,sem a fc t x=sem b fc' u x
section
variable {a b:List Ob}{fc fc':FileC}
theorem find_at {t:LT}{r:List ByteArray}(h:(findE a t r).1=0):t.at a r.reverse=some (findE a t r).2:=by
 rcases find_sem a (fun _=>⟨#[]⟩) t r with ⟨_,h2⟩ | ⟨h1,_⟩
 ·exact h2
 ·exact absurd h h1
end
end Go.Proofs.YtajopoddmfdejaaGreat
