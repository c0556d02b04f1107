/- What is proved here: PutDir of the objects' pool. -/
import Derived.Test.YtlgidcmmgohagaaGreatFileM01
import Derived.StillTailTactics
import Derived.Shelf.SlSortCmp.NoneTotal
import Derived.Deep.QuietTactic
import Derived.BigQuiet
namespace Go.Proofs.YtlgidcmmgohagaaGreat
open Go.RowKit Go.Sort Go.Shelf Go.Proofs.Tryz
set_option linter.unusedVariables false
set_option maxRecDepth 100000
set_option maxHeartbeats 16000000
variable {ft:PTail}
theorem setRow_alloc (w:World)(z cs:Array Value)(t:TypeId):(w.alloc (.cells z t)).setRow w.heap.size cs=w.alloc (.cells cs t):=by
 have hh:((w.alloc (.cells z t)).setRow w.heap.size cs).heap=(w.alloc (.cells cs t)).heap:=by
  apply Array.ext_getElem?;intro k;by_cases hk:k=w.heap.size
  ·subst hk
   rw[setRow_heap _ _ _ _ t (0,0) (heap_alloc_new w _),heap_alloc_new]
  ·rw[setRow_other _ _ _ _ hk]
   show (w.heap.push _)[k]? = (w.heap.push _)[k]?;rw[Array.getElem?_push,Array.getElem?_push,zzB hk,zzB hk]
 cases w;simp only[World.setRow,World.alloc] at hh ⊢;rw[hh]
theorem look_int {W:Nat->World}{bd n:Nat}{Dd:DataW Unit}{key:Value}{kl:Lit}(hd:∀q,(W q).ownsMap prog 208 (plainElem prog 29) bd n Dd)(hkey:keyOf prog 208 key=some kl):
  ∃c:Int,(∀q,(Instr.lookup 183 (.map (some bd)) key true).run prog (W q)=.ok (.tuple #[.int .i64 c,.bool (Maps.has Dd kl)]) (W q))/\Dd.atKey kl (.lit (.int .i64 0))=.lit (.int .i64 c)/\(Lit.int .i64 c).wf=true:=by
 have one:∀q,∃c:Int,(Instr.lookup 183 (.map (some bd)) key true).run prog (W q)=.ok (.tuple #[.int .i64 c,.bool (Maps.has Dd kl)]) (W q)/\Dd.atKey kl (.lit (.int .i64 0))=.lit (.int .i64 c)/\(Lit.int .i64 c).wf=true:=by
  intro q;obtain⟨v,ps,hrun,hv⟩:=(hd q).look_ok law58 underlying183 (zero25 _) (plainElem_int underlying29 (by decide)) hkey;obtain⟨c,rfl,hc,hwc⟩:=plainElem_int_inv underlying29 hv;exact⟨c,hrun,congrArg Prod.fst hc,hwc⟩
 obtain⟨c,_,hat,hwc⟩:=one 0;refine⟨c,fun q=>?_,hat,hwc⟩;obtain⟨c',hrun,hat',_⟩:=one q
 have:c'=c:=by have:=hat'.symm.trans hat;simpa using this
 rw[this] at hrun;exact hrun
theorem wpQuiet_load_row {P:Program}{ops:Array Oper}{C:World->Prop}{Q:Act->Prop}{o:Oper}{rest:List Oper}{a:Act}(hg:o.guard=none)(ty:TypeId)(x:Operand)(h:o.op=.load ty x)(g:Nat)(hx:a.eval x=.pointer (some ⟨g,0,none⟩))
  (cs:Array Value)(hC:∀w,C w->(loadVar ty ⟨g,0,none⟩).run P w=.ok (.agg cs) w)(hk:wpQuiet P ops C Q rest (a.put o.dst (.agg cs))):wpQuiet P ops C Q (o :: rest) a:=by
 have hw:Region.wanted o (yielded ops a.tmps)=true:=by simp[Region.wanted,hg]
 refine wpQuiet_step fun K hK=>?_;rw[zzD hw];refine⟨_,fun w hw=>?_,hK _ hk⟩;unfold Oper.quietAt execOp;simp only[h,hx,Instr.loadAt,Instr.sureAddr,Sem.run_bind,Sem.run_pure,Result.andThen_ok,hC w hw];exact⟨rfl,rfl⟩
theorem wpQuiet_look {P:Program}{ops:Array Oper}{C:World->Prop}{Q:Act->Prop}{o:Oper}{rest:List Oper}{a:Act}(hg:o.guard=none)(t:TypeId)(m x:Operand)(c:Bool)(h:o.op=.lookup t m x c)(M V v:Value)(hm:a.eval m=M)(hx:a.eval x=V)
  (hC:∀w,C w->(Instr.lookup t M V c).run P w=.ok v w)(hk:wpQuiet P ops C Q rest (a.put o.dst v)):wpQuiet P ops C Q (o :: rest) a:=by
 have hw:Region.wanted o (yielded ops a.tmps)=true:=by simp[Region.wanted,hg]
 refine wpQuiet_step fun K hK=>?_;rw[zzD hw];refine⟨_,fun w hw=>?_,hK _ hk⟩;unfold Oper.quietAt execOp;simp only[h,hm,hx,Sem.run_bind,Sem.run_pure,Result.andThen_ok,hC w hw];exact⟨rfl,rfl⟩
theorem wpStill_load_row {P:Program}{ops:Array Oper}{w:World}{Q:Act->Prop}{o:Oper}{rest:List Oper}{a:Act}(hg:o.guard=none)(ty:TypeId)(x:Operand)(h:o.op=.load ty x)(g:Nat)(hx:a.eval x=.pointer (some ⟨g,0,none⟩))
  (cs:Array Value)(hrun:(loadVar ty ⟨g,0,none⟩).run P w=.ok (.agg cs) w)(hk:wpStill P ops w Q rest (a.put o.dst (.agg cs))):wpStill P ops w Q (o :: rest) a:=by
 have hw:Region.wanted o (yielded ops a.tmps)=true:=by simp[Region.wanted,hg]
 refine wpStill_step fun K hK=>?_;rw[zzD hw];unfold Oper.still execOp;simp only[h,hx,Instr.loadAt,Instr.sureAddr,Sem.run_bind,Sem.run_pure,Result.andThen_ok,hrun];exact⟨rfl,hK _ hk⟩
theorem cells_ne {w:World}{b b':Nat}{c c':Array Value}{t t':TypeId}{fz fz':Nat×Nat}(h:w.heap[b]? = some (.cells c t fz))(h':w.heap[b']? = some (.cells c' t' fz'))(ht:t≠t'):b≠b':=by
 rintro rfl;rw[h] at h';simp only[Option.some.injEq,Obj.cells.injEq] at h';exact ht h'.2.1
def Grew (ft:PTail)(w w':World)(p:Nat)(a:Option Addr)(n cap bf bd bm:Nat)(k:TypeId)(cells:List Value)(D:DataW Unit):Prop:=
 ∃g2 cap2,PoolAt ft w' p (some ⟨g2,0,none⟩) (n+1) cap2 bf bd/\w'.ownsRow 0 213 4 (.slice (some ⟨g2,0,none⟩) (n+1) cap2) (n+1) cells/\((some g2:Option Nat)=(Value.slice a n cap).ownBlock\/w.heap.size<=g2)/\
  w'.ownsMap prog k (plainElem prog 29) bm (n+1) D/\Turned w w' p bm (Value.slice a n cap).ownBlock
theorem dir_after {W w5:World}{p:Nat}{a:Option Addr}{n cap bf bd g9:Nat}{objs:List Ob}{Dd:DataW Unit}{L:Array Value}{kl:Lit}{news:List Value}(nq:Nat)(hpw:Pooled ft W p a n cap bf bd objs)(hd:W.ownsMap prog 208 (plainElem prog 29) bd n Dd)
  (h9:W.heap[g9]? = some (.cells L 208 (0,0)))(hA:Added (W.drewN nq) w5 p a n cap (obCells objs) news)(hkey:keyOf prog 208 (.agg L)=some kl)(hn:n<400)(hL:L.size=48):
  w5.cell? ⟨p,2,none⟩=some (.map (some bd))/\(loadVar 208 ⟨g9,0,none⟩).run prog w5.drew=.ok (.agg L) w5.drew/\
   Hid (w5.drew.ownsMap prog 208 (plainElem prog 29) bd n Dd)/\Hid (∀w6,w6.ownsMap prog 208 (plainElem prog 29) bd (n+1) (Dd.put kl (.lit (.int .i64 ((n:Int)+1))))->w5.drew.grownBy w6 (some bd)->Grew ft W w6 p a n cap bf bd bd 208 (obCells objs++news) (Dd.put kl (.lit (.int .i64 ((n:Int)+1))))):=by
 have np:=owns_ne_cells hpw.row (b:=p) hpw.at_ (by decide);obtain⟨g2,cap2,hp5,hr5,hloc,hos,htape,hout,hsz5,hkeep⟩:=hA.facts (show (W.drewN nq).heap[p]? = _ from hpw.at_) np;obtain⟨es0,clock0,hbd⟩:=ownsMap_isMap hd;have nd:=owns_ne_map hpw.row hbd;have n9:=owns_ne_cells hpw.row h9 (by decide);have hdp:bd≠p:=by rintro rfl;have:=hpw.at_;unfold PoolAt at this;rw[hbd] at this;cases this
 have h9p:g9≠p:=cells_ne h9 hpw.at_ (by decide);have hd5:w5.ownsMap prog 208 (plainElem prog 29) bd n Dd:=ownsMap_keep hd (hkeep bd hd.lt hdp nd);have h95:w5.heap[g9]? = some (.cells L 208 (0,0)):=(hkeep _ (Array.getElem?_eq_some_iff.1 h9).1 h9p n9).trans h9;have hl5:=run_loadVar_row (P:=prog) w5.drew g9 208 208 L (0,0) _ h95 underlying208 rfl (by rw[hL];exact info58);refine⟨PoolAt.c2 hp5,hl5,hd5.drew,fun w6 hd6 hg6=>⟨g2,cap2,?_,?_,?_,hd6,⟨?_,?_,?_,?_,?_⟩⟩⟩
 ·unfold PoolAt
  rw[hg6.block p (zzA hpw.at_.lt hsz5) (fun e=>hdp (Option.some.inj e).symm)];exact hp5
 ·refine ownsRow_keep hr5 (fun g' hg'=>(hg6.block g' (ownsRow_lt hr5 hg') ?_))
  obtain⟨es2,clock2,hb2⟩:=ownsMap_isMap hd5
  have:=owns_ne_map hr5 hb2
  rw[hg'] at this;exact fun e=>this e.symm
 ·exact hloc
 ·rw[hg6.os];exact hos
 ·rw[hg6.tape];exact htape
 ·rw[hg6.output];exact hout
 ·exact zzG hsz5 hg6.size
 ·intro k hk hkp hkb hne
  rw[hg6.block k (zzA hk hsz5) (fun e=>hkb (Option.some.inj e))];exact hkeep k hk hkp hne
def DirPut (ft:PTail)(w w':World)(p:Nat)(a:Option Addr)(n cap bf bd:Nat)(Dd:DataW Unit)(objs:List Ob)(es:List Ent)(m:Nat)(e:Ending):Prop:=
 (Below w.heap.size w w'/\
  (((∃x ∈ es,validB x.1=false)/\e=.returned (.tuple #[.int .i64 0,.int .i64 1]))\/
   ((∀x ∈ es,validB x.1=true)/\
    ((¬(es.map (·.1)).Nodup/\e=.returned (.tuple #[.int .i64 0,.int .i64 6]))\/
    ((es.map (·.1)).Nodup/\16<es.length/\e=.returned (.tuple #[.int .i64 0,.int .i64 11]))\/
    ((es.map (·.1)).Nodup/\es.length<=16/\(∃x ∈ es,goodE objs x=false)/\e=.returned (.tuple #[.int .i64 0,.int .i64 13]))\/
    ((es.map (·.1)).Nodup/\es.length<=16/\(∀x ∈ es,goodE objs x=true)/\∃es',es'.Perm es/\Rising es'/\
     ((5<highs objs es'/\e=.returned (.tuple #[.int .i64 0,.int .i64 11]))\/
      (highs objs es'<=5/\Maps.has Dd (keyFor prog es')=true/\∃c,Dd.atKey (keyFor prog es') (.lit (.int .i64 0))=.lit (.int .i64 c)/\e=.returned (.tuple #[.int .i64 c,.int .i64 0]))\/
      (highs objs es'<=5/\Maps.has Dd (keyFor prog es')=false/\400<=n/\e=.returned (.tuple #[.int .i64 0,.int .i64 11]))))))))\/
 ((∀x ∈ es,validB x.1=true)/\(es.map (·.1)).Nodup/\es.length<=16/\(∀x ∈ es,goodE objs x=true)/\n<400/\∃es',es'.Perm es/\Rising es'/\highs objs es'<=5/\0<=highs objs es'/\Maps.has Dd (keyFor prog es')=false/\
  e=.returned (.tuple #[.int .i64 ((n:Int)+1),.int .i64 0])/\∃g cap',w'.ownsRow w.heap.size 96 3 (.slice (some ⟨g,0,none⟩) m cap') m (flat es')/\
   Grew ft w w' p a n cap bf bd bd 208 (obCells objs ++ [.int .i64 2,.string ByteArray.empty,.slice (some ⟨g,0,none⟩) m cap',.int .i64 (highs objs es')]) (Dd.put (keyFor prog es') (.lit (.int .i64 ((n:Int)+1)))))
theorem Grew.before {w W w':World}{p:Nat}{a:Option Addr}{n cap bf bd bm:Nat}{k:TypeId}{cells:List Value}{D:DataW Unit}(h:Grew ft W w' p a n cap bf bd bm k cells D)(hb:Below w.heap.size w W):Grew ft w w' p a n cap bf bd bm k cells D:=by
 obtain⟨g2,cap2,h1,h2,h3,h4,h5⟩:=h;refine⟨g2,cap2,h1,h2,h3.imp id (fun h=>zzG hb.size h),h4,⟨h5.os.trans hb.os,h5.tape.trans hb.tape,h5.output.trans hb.output,zzG hb.size h5.size,?_⟩⟩;intro k hk hkp hkb hne;rw[h5.block k (zzA hk hb.size) hkp hkb hne,hb.block k hk]
theorem Grew.keeps {w w':World}{p:Nat}{a:Option Addr}{n cap bf bd bm:Nat}{k:TypeId}{cells:List Value}{D:DataW Unit}{objs:List Ob}(h:Grew ft w w' p a n cap bf bd bm k cells D)(hp:Pooled ft w p a n cap bf bd objs)
  {es0:Array MapEntry}{clock:Nat}(hm:w.heap[bm]? = some (.map es0 clock)){base:Nat}{e:TypeId}{size m:Nat}{v:Value}{xs:List Value}(hrow:w.ownsRow base e size v m xs)(h51:e≠213)(h47:e≠185):w'.ownsRow base e size v m xs:=by
 obtain⟨g2,cap2,_,_,_,_,h5⟩:=h;refine ownsRow_keep hrow (fun g hg=>?_);have hne1:=owns_ne_cells hrow (b:=p) hp.at_ (fun e=>h47 e.symm);have hne2:=owns_ne_map hrow hm;rw[hg] at hne1 hne2;refine h5.block g (ownsRow_lt hrow hg) (fun e=>hne1 (by rw[e])) (fun e=>hne2 (by rw[e])) ?_;rcases hrow.2 with ⟨rfl,_⟩ | ⟨g',c',cur,rfl,_,hh,_⟩
 ·simp[Value.ownBlock] at hg
 ·simp only[Value.ownBlock,Option.some.injEq] at hg
  subst hg;exact owns_ne_cells hp.row hh h51
theorem fits_of {objs:List Ob}(hk:∀o ∈ objs,o.kind=1\/o.kind=2)(hn:objs.length<=400){e:Ent}(hv:validB e.1=true)(hg:goodE objs e=true):Fits e:=by
 have hs:=valid_size hv;unfold goodE at hg;simp only[Bool.and_eq_true,Bool.not_eq_true',beq_eq_false_iff_ne,beq_iff_eq] at hg;obtain⟨h0,h1⟩:=hg;have hid:¬(e.2.2<1\/(objs.length:Int)<e.2.2):=fun h=>h0 (kindOf_out h);refine⟨by unfold maxLen;omega,?_,WalkArith.wf_i64 (by omega)⟩;obtain⟨j,hj⟩:∃j:Nat,e.2.2=(j:Int)+1:=⟨(e.2.2-1).toNat,by omega⟩;have hjl:j<objs.length:=by omega
 rw[hj,kindOf_in hjl] at h1;rw[<-h1];rcases hk objs[j] (zzJ hjl) with h | h <;> rw[h] <;> exact WalkArith.wf_i64 (by omega)
theorem putDir_any (p b off m c0:Nat)(a:Option Addr)(n cap bf bd:Nat)(objs:List Ob)(Dd:DataW Unit)(es:List Ent)(w:World)(h:Pooled ft w p a n cap bf bd objs)(hd:w.ownsMap prog 208 (plainElem prog 29) bd n Dd)
  (hl:es.length=m)(hbl:b<w.heap.size)(hbig:m*32<=140737488355328)(hc:∀j u,(flat es)[j]? = some u->w.cell? ⟨b,off+j,none⟩=some u)
  (hsz:∀e ∈ es,e.1.size<=maxLen)(hh:∀o ∈ objs,0<=o.high/\o.high<=5)(hk:∀o ∈ objs,o.kind=1\/o.kind=2):
  Calls prog 60 #[.pointer (some ⟨p,0,none⟩),.slice (some ⟨b,off,none⟩) m c0] w fun e w'=>DirPut ft w w' p a n cap bf bd Dd objs es m e:=by
 have harr:=arrange_some b off m c0 es w hl hbl hbig hc hsz;go_enter func60,ntmps60;go_wp2_with fail;refine harr.mono ?_;rintro e w1 ⟨hb1,⟨hA,rfl⟩ | ⟨hA,hB,rfl⟩ | ⟨hA,hB,hC,rfl⟩ | ⟨hA,hB,hC,es',g,cap',rfl,hP,hR,hown⟩⟩
 ·go_wp2
  go_ret2;exact .inl ⟨hb1,.inl ⟨hA,rfl⟩⟩
 ·go_wp2
  go_ret2;exact .inl ⟨hb1,.inr ⟨hA,.inl ⟨hB,rfl⟩⟩⟩
 ·go_wp2
  go_ret2;exact .inl ⟨hb1,.inr ⟨hA,.inr (.inl ⟨hB,hC,rfl⟩)⟩⟩
 ·have hle:es'.length=m:=by rw[hP.length_eq,hl]
  have hm16:m<=16:=by omega
  have hmea:=measure_some p g cap' a n cap bf bd m objs es' w1 (h.below hb1) hle hm16 (ownsRow_lt hown rfl) (owns_cells hown) hh;have HA:Hid (∀x ∈ es,validB x.1=true):=hA;have HB:Hid ((es.map (·.1)).Nodup):=hB;have HC:Hid (es.length<=16):=hC;have HP:Hid (es'.Perm es):=hP;have HR:Hid (Rising es'):=hR;have HK:Hid (∀o ∈ objs,o.kind=1\/o.kind=2):=hk;clear harr hc hbig hsz hA hB hC hP hR hk;go_wp2_with fail;refine hmea.mono ?_;rintro e w2 ⟨hb2,⟨hD,rfl⟩ | ⟨hD,hE,rfl⟩ | ⟨hD,hE,hE0,rfl⟩⟩
  ·go_wp2
   go_ret2;obtain⟨x,hx,hgx⟩:=hD;exact .inl ⟨hb1.trans (hb2.mono hb1.size),.inr ⟨HA.out,.inr (.inr (.inl ⟨HB.out,HC.out,⟨x,HP.out.mem_iff.1 hx,hgx⟩,rfl⟩))⟩⟩
  ·go_wp2
   go_ret2;exact .inl ⟨hb1.trans (hb2.mono hb1.size),.inr ⟨HA.out,.inr (.inr (.inr ⟨HB.out,HC.out,fun x hx=>hD x (HP.out.mem_iff.2 hx),es',HP.out,HR.out,.inl ⟨hE,rfl⟩⟩))⟩⟩
  ·have hbw2:Below w.heap.size w w2:=hb1.trans (hb2.mono hb1.size)
   have hown2:w2.ownsRow w.heap.size 96 3 (.slice (some ⟨g,0,none⟩) m cap') m (flat es'):=ownsRow_keep hown (fun g hg=>hb2.block g (ownsRow_lt hown hg));have hlis:=listing_some g m cap' es' w2 hle (ownsRow_lt hown2 rfl) hm16 (owns_cells hown2);have HZ:Hid ((listing es').size=48):=listing_size (by omega);clear hmea;go_wp2_with (first
    | (go_at_call 111;refine hlis.mono ?_;rintro e w3 ⟨rfl,hb3⟩)
    | (refine wpList_store_row rfl 208 _ _ rfl w3.heap.size (listing es') rfl rfl 208 _ (heap_alloc_new w3 _) (by rw[HZ.out];exact info58) (by rw[HZ.out];rfl) (listing_one es') ?_;rw[setRow_alloc]))
   have hp3:=(h.below ((hbw2.trans (hb3.mono hbw2.size)).alloc (by have:=hb3.size;have:=hbw2.size;omega) (.cells (listing es') 208))).at_.c2;have hd3:(w3.alloc (.cells (listing es') 208)).ownsMap prog 208 (plainElem prog 29) bd n Dd:=(ownsMap_keep hd ((hbw2.trans (hb3.mono hbw2.size)).block bd hd.lt)).alloc _;have hg9:(w3.alloc (.cells (listing es') 208)).heap[w3.heap.size]? = some (.cells (listing es') 208 (0,0)):=heap_alloc_new w3 _;have hbw3:Below w.heap.size w (w3.alloc (.cells (listing es') 208)):=(hbw2.trans (hb3.mono hbw2.size)).alloc (by have:=hb3.size;have:=hbw2.size;omega) _;have HRW:Hid ((w3.alloc (.cells (listing es') 208)).ownsRow w.heap.size 96 3 (.slice (some ⟨g,0,none⟩) m cap') m (flat es')):=World.ownsRow.alloc (ownsRow_keep hown2 (fun g hg=>hb3.block g (ownsRow_lt hown2 hg))) _;have hfit:∀e ∈ es',Fits e:=fun e he=>fits_of HK.out (by rw[h.len];exact h.many) (HA.out e (HP.out.mem_iff.1 he)) (hD e he);have HDG:Hid (∀x ∈ es,goodE objs x=true):=fun x hx=>hD x (HP.out.mem_iff.2 hx);have hkey:=keyOf_listing es' (by omega) hfit;obtain⟨c,hrun,hat,hwc⟩:=look_int (W:=fun q=>(w3.alloc (.cells (listing es') 208)).drewN q) (fun q=>hd3) hkey;have hload:=fun q=>run_loadVar_row (P:=prog) ((w3.alloc (.cells (listing es') 208)).drewN q) w3.heap.size 208 208 (listing es') (0,0) _ hg9 underlying208 rfl (by rw[HZ.out];exact info58)
   go_frame
   have HG9:Hid ((w3.alloc (.cells (listing es') 208)).heap[w3.heap.size]? = some (.cells (listing es') 208 (0,0))):=hg9;clear hg9;generalize w3.alloc (.cells (listing es') 208)=W at *;refine wp_region_quiet_lit (by kernel_rfl) (by kernel_rfl) ?_
   iterate 4 quiet_step (fail)
   refine wpQuiet_load_row rfl 208 _ rfl w3.heap.size rfl (listing es') (by rintro _ ⟨q,rfl⟩;exact hload q) ?_
   go_frame
   refine wpQuiet_look rfl 183 _ _ true rfl (.map (some bd)) (.agg (listing es')) (.tuple #[.int .i64 c,.bool (Maps.has Dd (keyFor prog es'))]) rfl rfl (by rintro _ ⟨q,rfl⟩;exact hrun q) ?_
   go_frame
   repeat (quiet_step (fail))
   refine wpQuiet_nil ?_;rintro _ ⟨nq,rfl⟩;have hpw:Pooled ft W p a n cap bf bd objs:=h.below hbw3;clear hload hrun hlis;cases hhas:Maps.has Dd (keyFor prog es') with
   | true=>
    have HH:Hid (Maps.has Dd (keyFor prog es')=true):=hhas;have HAT:Hid (Dd.atKey (keyFor prog es') (.lit (.int .i64 0))=.lit (.int .i64 c)):=hat;clear hhas hat hwc;go_wp2;go_ret2;exact .inl ⟨below_drewN hbw3 _,.inr ⟨HA.out,.inr (.inr (.inr ⟨HB.out,HC.out,HDG.out,es',HP.out,HR.out,.inr (.inl ⟨hE,HH.out,c,HAT.out,rfl⟩)⟩))⟩⟩
   | false=>
    have HH:Hid (Maps.has Dd (keyFor prog es')=false):=hhas;clear hat hwc;by_cases hn:400<=n
    ·have hadd:=add_full p 2 (highs objs es') ByteArray.empty a n cap (some ⟨g,0,none⟩) m cap' (W.drewN nq) hpw.at_.lt hn hpw.at_.c0
     go_wp2_with (go_at_call 112;refine hadd.mono ?_;rintro e w5 ⟨rfl,rfl⟩);go_ret2;exact .inl ⟨(below_drewN hbw3 _).alloc (below_drewN hbw3 _).size _,.inr ⟨HA.out,.inr (.inr (.inr ⟨HB.out,HC.out,HDG.out,es',HP.out,HR.out,.inr (.inr ⟨hE,HH.out,hn,rfl⟩)⟩))⟩⟩
    ·have hn':n<400:=by omega
     have np:=owns_ne_cells hpw.row (b:=p) hpw.at_ (by decide);have hadd:=add_some p 2 (highs objs es') ByteArray.empty a n cap (obCells objs) (some ⟨g,0,none⟩) m cap' (W.drewN nq) hpw.at_.lt hn' hpw.at_.c0 hpw.at_.f0 hpw.row np;go_wp2_with (go_at_call 112;refine hadd.mono ?_;rintro e w5 ⟨rfl,hAd⟩);obtain⟨kc,hl5,HD5,HF⟩:=dir_after nq hpw hd3 HG9.out hAd hkey hn' HZ.out;clear hAd hadd np;refine wp_region_still_tail 6 (by kernel_rfl) (by kernel_rfl) ?_;simp only[List.take_succ_cons,List.take_zero,List.drop_succ_cons,List.drop_zero]
     iterate 4 still_step
     refine wpStill_load_row rfl 208 _ rfl w3.heap.size rfl (listing es') hl5 ?_
     go_frame
     still_step
     refine wpStill_nil ?_;refine wpList_mapUpdate_own _ rfl _ _ _ 183 rfl 208 29 law58 underlying183 _ bd n _ rfl HD5.out (by unfold maxLen;omega) _ _ _ rfl rfl hkey _ [] (plainElem_int underlying29 (WalkArith.wf_i64 (by omega))) ?_;intro w6 hd6 hg6;have HG:Hid (Grew ft W w6 p a n cap bf bd bd 208 (obCells objs ++ [.int .i64 2,.string ByteArray.empty,.slice (some ⟨g,0,none⟩) m cap',.int .i64 (highs objs es')]) (Dd.put (keyFor prog es') (.lit (.int .i64 ((n:Int)+1))))):=HF.out w6 hd6 hg6;clear hd6 hg6;go_wp2;go_ret2;obtain⟨es0,clock0,hbd⟩:=ownsMap_isMap hd3;have hrow3:W.ownsRow w.heap.size 96 3 (.slice (some ⟨g,0,none⟩) m cap') m (flat es'):=HRW.out;exact .inr ⟨HA.out,HB.out,HC.out,HDG.out,hn',es',HP.out,HR.out,hE,hE0,HH.out,rfl,g,cap',HG.out.keeps hpw hbd hrow3 (by decide) (by decide),HG.out.before hbw3⟩
variable {ft:PTail}
theorem run_copyK_none {P:Program}(w:World)(dT sT ty elem:TypeId)(size:Nat)(d a:Option Addr)(dLen dCap sLen sCap:Nat)(hu:P.underlying dT=some (.slice elem))(hs:(P.info? elem).map (·.size)=some size)(hn:Nat.min sLen dLen=0):
  (Builtin.copy_ #[dT,sT] ty #[.slice d dLen dCap,.slice a sLen sCap]).run P w=.ok (goInt 0) w:=by
 cases hq:P.info? elem with
 | none=>simp[hq] at hs
 | some i=>
  have hl:∀(x:Addr),(loadCells x 0).run P w=.ok #[] w:=fun x=>by simpa using run_loadCells_list (P:=P) w x [] (by simp)
  cases d <;> cases a <;> simp[Builtin.copy_,run_underlying hu,Builtin.lenOf,Builtin.firstCells,sizeOf,typeInfo,hq,hn,storeCells,hl]
theorem wpList_copyK_none {P:Program}{w:World}{ops:Array Oper}{rest:List Oper}{o:Oper}{a:Act}{Q:Exit->Act->World->Prop}(hgd:o.guard=none)(d s:Operand)(dT sT:TypeId)
  (ho:o.op=.call { callee:=.builtin .copy,args:=#[d,s],argTypes:=#[dT,sT] })(elem:TypeId)(hu:P.underlying dT=some (.slice elem))(size:Nat)(hsz:(P.info? elem).map (·.size)=some size)
  (dp sp:Option Addr)(dLen dCap sLen sCap:Nat)(hd:a.eval d=.slice dp dLen dCap)(hs:a.eval s=.slice sp sLen sCap)(hn:Nat.min sLen dLen=0)
  (h:wpList P ops Q rest (a.put o.dst (goInt 0)) w):wpList P ops Q (o :: rest) a w:=by
 refine wpList_plain hgd fun K hK=>?_;have hrun:=run_copyK_none (P:=P) w dT sT o.type elem size dp sp dLen dCap sLen sCap hu hsz hn;unfold Oper.wp;simp[execOp,ho,resolve,invoke,builtin,hd,hs,hrun,Result.andThen];exact hK _ _ h
theorem dir_nil (p:Nat)(a:Option Addr)(n cap bf bd:Nat)(objs:List Ob)(j:Nat)(hj:j<objs.length)(w:World)(h:Pooled ft w p a n cap bf bd objs)(hk:objs[j].kind=2)
  (hea:objs[j].ea=none)(hel:objs[j].el=0)(hec:objs[j].ec=0):
  Calls prog 85 #[.pointer (some ⟨p,0,none⟩),.int .i64 ((j:Int)+1)] w fun e w'=>∃g',e=.returned (.tuple #[.slice (some ⟨g',0,none⟩) 0 0,.int .i64 0])/\w'.ownsRow w.heap.size 96 3 (.slice (some ⟨g',0,none⟩) 0 0) 0 (flat [])/\Below w.heap.size w w':=by
 have hcon:=kind_any p a n cap bf bd objs ((j:Int)+1) w h;rw[kindOf_in hj,hk] at hcon;have hat:=fun (W:World) (hW:Below w.heap.size w W)=>at_in p a n cap bf bd objs j hj W (h.below hW);rw[hea,hel,hec] at hat;have f2:=fld2;obtain⟨i0,hi,hz0,hz1,hz2⟩:=info_parts info34;clear hea hel hec hk;go_enter func85,ntmps85;go_wp2_with (first
  | (go_at_call 61;refine hcon.mono ?_;rintro e w1 ⟨rfl,hb1⟩)
  | (go_at_call 113;refine (hat _ hb1).mono ?_;rintro e w2 ⟨rfl,hb2⟩)
  | (at_make;refine wpList_make_full _ rfl _ _ 55 rfl 0 96 i0 _ 3 underlying55 hi hz0 hz1 .i64 .i64 _ _ 0 rfl rfl rfl rfl ?_ ?_ (zzF _) ?_;go_must (rw[hz2];omega);go_must (unfold maxLen;omega);intro w3 hown3 hg3;have hbw:=hb1.trans (hb2.mono hb1.size);have HB3:=grown_none hbw hg3;have HO3:Hid _:=hown3;clear hown3)
  | (refine wpList_copyK_none rfl (.tmp 19) (.tmp 20) 55 55 rfl 96 underlying55 3 info34s _ none 0 0 0 0 rfl rfl rfl ?_))
 go_ret2;have hsz2:=hbw.size;refine⟨w2.heap.size,rfl,⟨rfl,?_⟩,HB3.out⟩;rcases HO3.out.2 with ⟨h0,_⟩ | ⟨g',cap',cur,hv,_,r1,r2,r3,r4,_⟩
 ·cases h0
 ·cases hv;exact .inr ⟨w2.heap.size,0,cur,rfl,hsz2,r1,r2,r3,r4,by simp[flat]⟩
variable {ft:PTail}
def fileAt (objs:List Ob)(d:ByteArray):Option Nat:=objs.findIdx? fun o=>decide (o.kind=1) && decide (o.data=d)
def dirAt (objs:List Ob)(es:List Ent):Option Nat:=objs.findIdx? fun o=>decide (o.kind=2) && decide (o.ents=es)
def FilesOk (objs:List Ob)(D:DataW Unit):Prop:=∀d:ByteArray,Maps.has D (.string d.data.toList)=(fileAt objs d).isSome/\∀i,fileAt objs d=some i->D.atKey (.string d.data.toList) (.lit (.int .i64 0))=.lit (.int .i64 ((i:Int)+1))
def Named (es:List Ent):Prop:=es.length<=16/\∀e ∈ es,Fits e/\1<=e.1.size
def DirsOk (objs:List Ob)(D:DataW Unit):Prop:=∀es:List Ent,Named es->Maps.has D (keyFor prog es)=(dirAt objs es).isSome/\∀i,dirAt objs es=some i->D.atKey (keyFor prog es) (.lit (.int .i64 0))=.lit (.int .i64 ((i:Int)+1))
def fileOb (d:ByteArray):Ob:={ kind:=1,data:=d,ea:=none,el:=0,ec:=0,ents:=[],high:=0 }
def dirOb (g m c:Nat)(es:List Ent)(h:Int):Ob:={ kind:=2,data:=ByteArray.empty,ea:=some ⟨g,0,none⟩,el:=m,ec:=c,ents:=es,high:=h }
def ObOk (w:World)(F:Nat->Prop)(o:Ob):Prop:=
 (o.kind=1/\o.high=0/\o.data.size<=256)\/
 (o.kind=2/\o.ents.length=o.el/\Named o.ents/\Rising o.ents/\0<=o.high/\o.high<=5/\(∀g,(Value.slice o.ea o.el o.ec).ownBlock=some g->F g)/\w.ownsRow 0 96 3 (.slice o.ea o.el o.ec) o.el (flat o.ents))
structure InvAt (ft:PTail)(F:Nat->Prop)(w:World)(s p:Nat)(a:Option Addr)(cap bf bd:Nat)(Df Dd:DataW Unit)(objs:List Ob):Prop where
 fs:F s
 fp:F p
 ff:F bf
 fd:F bd
 fr:∀g,(Value.slice a objs.length cap).ownBlock=some g->F g
 hs:w.heap[s]? = some (.cells #[.pointer (some ⟨p,0,none⟩)] 119 (0,0))
 pool:Pooled ft w p a objs.length cap bf bd objs
 ne:bf≠bd
 files:w.ownsMap prog 9 (plainElem prog 29) bf objs.length Df
 filesOk:FilesOk objs Df
 dirs:w.ownsMap prog 208 (plainElem prog 29) bd objs.length Dd
 dirsOk:DirsOk objs Dd
 obs:∀o ∈ objs,ObOk w F o
def Inv (ft:PTail)(F:Nat->Prop)(w:World)(s:Nat)(objs:List Ob):Prop:=∃p a cap bf bd Df Dd,InvAt ft F w s p a cap bf bd Df Dd objs
def InvP (ft:PTail)(F:Nat->Prop)(w:World)(s p:Nat)(objs:List Ob):Prop:=∃a cap bf bd Df Dd,InvAt ft F w s p a cap bf bd Df Dd objs
theorem InvP.inv {F:Nat->Prop}{w:World}{s p:Nat}{objs:List Ob}(h:InvP ft F w s p objs):Inv ft F w s objs:=⟨p,h⟩
structure Keeps (F:Nat->Prop)(w w':World):Prop where
 os:w'.os=w.os
 tape:w'.tape=w.tape
 output:w'.output=w.output
 size:w.heap.size<=w'.heap.size
 block:∀k,k<w.heap.size->¬F k->w'.heap[k]? = w.heap[k]?
def NewF (F:Nat->Prop)(w w':World)(k:Nat):Prop:=F k\/(w.heap.size<=k/\k<w'.heap.size)
theorem Keeps.of_below {F:Nat->Prop}{w w':World}(h:Below w.heap.size w w'):Keeps F w w':=⟨h.os,h.tape,h.output,h.size,fun k hk _=>h.block k hk⟩
theorem ObOk.mono {w w':World}{F F':Nat->Prop}{o:Ob}(h:ObOk w F o)(hF:∀k,k<w.heap.size->F k->F' k)(hk:∀v m xs,w.ownsRow 0 96 3 v m xs->w'.ownsRow 0 96 3 v m xs):ObOk w' F' o:=by
 rcases h with h | ⟨h1,h2,h3,h4,h5,h6,h8,h9⟩
 ·exact .inl h
 ·exact .inr ⟨h1,h2,h3,h4,h5,h6,fun g hg=>hF g (ownsRow_lt h9 hg) (h8 g hg),hk _ _ _ h9⟩
theorem InvP.keep {F F':Nat->Prop}{w w':World}{s p:Nat}{objs:List Ob}(h:InvP ft F w s p objs)(hk:∀k,k<w.heap.size->F k->w'.heap[k]? = w.heap[k]?)(hF:∀k,k<w.heap.size->F k->F' k):InvP ft F' w' s p objs:=by
 obtain⟨a,cap,bf,bd,Df,Dd,i⟩:=h;have ls:s<w.heap.size:=(Array.getElem?_eq_some_iff.1 i.hs).1;have hrow:∀v m t k xs,w.ownsRow 0 t k v m xs->(∀g,v.ownBlock=some g->F g)->w'.ownsRow 0 t k v m xs:=fun v m t k xs hr hFg=>ownsRow_keep hr (fun g hg=>hk g (ownsRow_lt hr hg) (hFg g hg));refine⟨a,cap,bf,bd,Df,Dd,⟨hF _ ls i.fs,hF _ i.pool.at_.lt i.fp,hF _ i.files.lt i.ff,hF _ i.dirs.lt i.fd,fun g hg=>hF g (ownsRow_lt i.pool.row hg) (i.fr g hg),(hk s ls i.fs).trans i.hs,⟨?_,hrow _ _ _ _ _ i.pool.row i.fr,i.pool.len,i.pool.many⟩,i.ne,
  ownsMap_keep i.files (hk _ i.files.lt i.ff),i.filesOk,ownsMap_keep i.dirs (hk _ i.dirs.lt i.fd),i.dirsOk,fun o ho=>?_⟩⟩
 ·have:=i.pool.at_
  unfold PoolAt at this ⊢;rw[hk p i.pool.at_.lt i.fp];exact this
 ·rcases i.obs o ho with h | ⟨h1,h2,h3,h4,h5,h6,h8,h9⟩
  ·exact .inl h
  ·exact .inr ⟨h1,h2,h3,h4,h5,h6,fun g hg=>hF g (ownsRow_lt h9 hg) (h8 g hg),hrow _ _ _ _ _ h9 h8⟩
theorem InvP.below {F F':Nat->Prop}{w w':World}{s p:Nat}{objs:List Ob}(h:InvP ft F w s p objs)(hb:Below w.heap.size w w')(hF:∀k,k<w.heap.size->F k->F' k):InvP ft F' w' s p objs:=h.keep (fun k hk _=>hb.block k hk) hF
theorem fileAt_snoc (objs:List Ob)(o:Ob)(d:ByteArray):fileAt (objs ++ [o]) d=(fileAt objs d).or (if o.kind=1/\o.data=d then some objs.length else none):=by
 unfold fileAt;rw[List.findIdx?_append]
 congr 1
 by_cases h:o.kind=1/\o.data=d
 ·simp[List.findIdx?_cons,h]
 ·rw[zzB h]
  have:(decide (o.kind=1) && decide (o.data=d))=false:=by
   rw[<-Bool.decide_and];exact zzE h
  simp only[List.findIdx?_cons,this];simp
theorem dirAt_snoc (objs:List Ob)(o:Ob)(es:List Ent):dirAt (objs ++ [o]) es=(dirAt objs es).or (if o.kind=2/\o.ents=es then some objs.length else none):=by
 unfold dirAt;rw[List.findIdx?_append]
 congr 1
 by_cases h:o.kind=2/\o.ents=es
 ·simp[List.findIdx?_cons,h]
 ·rw[zzB h]
  have:(decide (o.kind=2) && decide (o.ents=es))=false:=by
   rw[<-Bool.decide_and];exact zzE h
  simp only[List.findIdx?_cons,this];simp
theorem bytes_inj {a b:ByteArray}(h:a.data.toList=b.data.toList):a=b:=by
 cases a;cases b
 congr 1
 exact Array.toList_inj.1 h
theorem FilesOk.put {objs:List Ob}{D:DataW Unit}(h:FilesOk objs D)(hD:Maps.IsMap D)(d:ByteArray)(hd:fileAt objs d=none):FilesOk (objs ++ [fileOb d]) (D.put (.string d.data.toList) (.lit (.int .i64 ((objs.length:Int)+1)))):=by
 intro d';rw[fileAt_snoc];by_cases e:d=d'
 ·subst e
  rw[hd,zzD ⟨rfl,rfl⟩];refine⟨?_,?_⟩
  ·rw[Maps.has_put_same hD (show WideAt.IsKeyLit (.string d.data.toList) from trivial)];rfl
  ·intro i hi
   simp only[Option.none_or,Option.some.injEq] at hi;subst hi;exact Maps.atKey_put_same hD (show WideAt.IsKeyLit (.string d.data.toList) from trivial) _ _
 ·have hne:(Lit.string d'.data.toList) ≠ .string d.data.toList:=fun h=>e (bytes_inj (by simpa using h.symm))
  rw[zzB (fun h=>e h.2),Option.or_none];refine⟨?_,?_⟩
  ·rw[Maps.has_put_other hne];exact (h d').1
  ·intro i hi
   rw[Maps.atKey_put_other hne];exact (h d').2 i hi
theorem FilesOk.other {objs:List Ob}{D:DataW Unit}(h:FilesOk objs D){o:Ob}(ho:o.kind≠1):FilesOk (objs ++ [o]) D:=by
 intro d';rw[fileAt_snoc,zzB (fun h=>ho h.1),Option.or_none];exact h d'
theorem DirsOk.put {objs:List Ob}{D:DataW Unit}(h:DirsOk objs D)(hD:Maps.IsMap D){es:List Ent}(hn:Named es)(hd:dirAt objs es=none){o:Ob}(hk:o.kind=2)(he:o.ents=es):
  DirsOk (objs ++ [o]) (D.put (keyFor prog es) (.lit (.int .i64 ((objs.length:Int)+1)))):=by
 intro es' hn';have k1:=keyOf_listing es hn.1 (fun e he=>(hn.2 e he).1);have kl:WideAt.IsKeyLit (keyFor prog es):=law58.key k1;rw[dirAt_snoc,he];by_cases e:es=es'
 ·subst e
  rw[hd,zzD ⟨hk,rfl⟩];refine⟨?_,?_⟩
  ·rw[Maps.has_put_same hD kl];rfl
  ·intro i hi
   simp only[Option.none_or,Option.some.injEq] at hi;subst hi;exact Maps.atKey_put_same hD kl _ _
 ·have hne:keyFor prog es'≠keyFor prog es:=fun h=>e (keyFor_inj hn.1 hn'.1 (fun e he=>(hn.2 e he).1) (fun e he=>(hn'.2 e he).1) (fun e he=>(hn.2 e he).2) (fun e he=>(hn'.2 e he).2) h.symm)
  rw[zzB (fun h=>e h.2),Option.or_none];refine⟨?_,?_⟩
  ·rw[Maps.has_put_other hne];exact (h es' hn').1
  ·intro i hi
   rw[Maps.atKey_put_other hne];exact (h es' hn').2 i hi
theorem DirsOk.other {objs:List Ob}{D:DataW Unit}(h:DirsOk objs D){o:Ob}(ho:o.kind≠2):DirsOk (objs ++ [o]) D:=by
 intro es' hn';rw[dirAt_snoc,zzB (fun h=>ho h.1),Option.or_none];exact h es' hn'
theorem obCells_snoc (objs:List Ob)(o:Ob):obCells (objs ++ [o])=obCells objs++o.cells:=by simp[obCells]
theorem Grew.other {w w':World}{p:Nat}{a:Option Addr}{n cap bf bd bm:Nat}{k:TypeId}{cells:List Value}{D:DataW Unit}{objs:List Ob}(h:Grew ft w w' p a n cap bf bd bm k cells D)(hp:Pooled ft w p a n cap bf bd objs)
  {P:Program}{k':TypeId}{R:Value->Option (DataW Unit×List MemPlace)}{b m:Nat}{D':DataW Unit}(hm:w.ownsMap P k' R b m D')(hne:b≠bm):w'.ownsMap P k' R b m D':=by
 obtain⟨g2,cap2,_,_,_,_,h5⟩:=h;obtain⟨es,clock,hb⟩:=ownsMap_isMap hm;have hbp:b≠p:=by rintro rfl;have:=hp.at_;unfold PoolAt at this;rw[hb] at this;cases this
 exact ownsMap_keep hm (h5.block b hm.lt hbp hne (owns_ne_map hp.row hb))
theorem InvAt.grow {F:Nat->Prop}{w w':World}{s p:Nat}{a:Option Addr}{cap bf bd:Nat}{Df Dd Df' Dd':DataW Unit}{objs:List Ob}(i:InvAt ft F w s p a cap bf bd Df Dd objs){bm:Nat}{k:TypeId}{D:DataW Unit}{o:Ob}
  (hg:Grew ft w w' p a objs.length cap bf bd bm k (obCells objs++o.cells) D)(hn:objs.length<400)(hF:F bm){es0:Array MapEntry}{clock:Nat}(hm:w.heap[bm]? = some (.map es0 clock))(ho:ObOk w' (NewF F w w') o)
  (hf:w'.ownsMap prog 9 (plainElem prog 29) bf (objs.length+1) Df')(hf2:FilesOk (objs ++ [o]) Df')
  (hd:w'.ownsMap prog 208 (plainElem prog 29) bd (objs.length+1) Dd')(hd2:DirsOk (objs ++ [o]) Dd'):
  InvP ft (NewF F w w') w' s p (objs ++ [o])/\Keeps F w w':=by
 have hg0:=hg;obtain⟨g2,cap2,h1,h2,h3,h4,h5⟩:=hg;have ls:s<w.heap.size:=(Array.getElem?_eq_some_iff.1 i.hs).1;have hsp:s≠p:=cells_ne i.hs i.pool.at_ (by decide);have hsm:s≠bm:=by rintro rfl;have:=i.hs;rw[hm] at this;cases this
 have hso:=owns_ne_cells i.pool.row i.hs (by decide);have hl:(objs ++ [o]).length=objs.length+1:=by simp
 refine⟨⟨some ⟨g2,0,none⟩,cap2,bf,bd,Df',Dd',⟨.inl i.fs,.inl i.fp,.inl i.ff,.inl i.fd,?_,?_,⟨?_,?_,?_,?_⟩,i.ne,?_,hf2,?_,hd2,?_⟩⟩,⟨h5.os,h5.tape,h5.output,h5.size,?_⟩⟩
 ·intro g hgg
  rcases h3 with h | h
  ·refine .inl (i.fr g ?_)
   rw[<-h];exact hgg
  ·simp only[Value.ownBlock,Option.some.injEq] at hgg
   subst hgg;exact .inr ⟨h,ownsRow_lt h2 rfl⟩
 ·rw[h5.block s ls hsp hsm hso];exact i.hs
 ·rw[hl];exact h1
 ·rw[hl,obCells_snoc];exact h2
 ·rfl
 ·rw[hl];omega
 ·rw[hl];exact hf
 ·rw[hl];exact hd
 ·intro x hx
  rcases List.mem_append.1 hx with h | h
  ·exact (i.obs x h).mono (fun k hk hFk=>.inl hFk) (fun v m xs hr=>hg0.keeps i.pool hm hr (by decide) (by decide))
  ·rw[List.mem_singleton.1 h];exact ho
 ·intro k hk hnF
  refine h5.block k hk (fun e=>hnF (e ▸ i.fp)) (fun e=>hnF (e ▸ hF)) (fun e=>hnF (i.fr k e.symm))
theorem InvAt.c0 {F:Nat->Prop}{w:World}{s p:Nat}{a:Option Addr}{cap bf bd:Nat}{Df Dd:DataW Unit}{objs:List Ob}(i:InvAt ft F w s p a cap bf bd Df Dd objs):w.cell? ⟨s,0,none⟩=some (.pointer (some ⟨p,0,none⟩)):=by simp[World.cell?,i.hs]
def FilePut (objs objs':List Ob)(d:ByteArray)(e:Ending):Prop:=
 (256<d.size/\objs'=objs/\e=.returned (.tuple #[.int .i64 0,.int .i64 11]))\/
 (d.size<=256/\objs'=objs/\∃i,fileAt objs d=some i/\e=.returned (.tuple #[.int .i64 ((i:Int)+1),.int .i64 0]))\/
 (d.size<=256/\fileAt objs d=none/\400<=objs.length/\objs'=objs/\e=.returned (.tuple #[.int .i64 0,.int .i64 11]))\/
 (d.size<=256/\fileAt objs d=none/\objs.length<400/\objs'=objs ++ [fileOb d]/\e=.returned (.tuple #[.int .i64 ((objs.length:Int)+1),.int .i64 0]))
theorem FilePut.shape {objs objs':List Ob}{d:ByteArray}{e:Ending}(h:FilePut objs objs' d e):∃x y,e=.returned (.tuple #[.int .i64 x,.int .i64 y]):=by
 rcases h with ⟨_,_,h⟩ | ⟨_,_,_,_,h⟩ | ⟨_,_,_,_,h⟩ | ⟨_,_,_,_,h⟩ <;> exact⟨_,_,h⟩
theorem poolFile {F:Nat->Prop}{w:World}{s p:Nat}{a:Option Addr}{cap bf bd:Nat}{Df Dd:DataW Unit}{objs:List Ob}(i:InvAt ft F w s p a cap bf bd Df Dd objs)(d:ByteArray)(hd:d.size<=maxLen):
  Calls prog 77 #[.pointer (some ⟨p,0,none⟩),.string d] w fun e w'=>∃objs',FilePut objs objs' d e/\InvP ft (NewF F w w') w' s p objs'/\Keeps F w w':=by
 have inv:InvP ft F w s p objs:=⟨a,cap,bf,bd,Df,Dd,i⟩;have same:∀w',Below w.heap.size w w'->InvP ft (NewF F w w') w' s p objs/\Keeps F w w':=fun w' hb=>⟨inv.below hb (fun k _ h=>.inl h),Keeps.of_below hb⟩;by_cases hs:d.size<=256
 ·cases hf:fileAt objs d with
  | some j=>
   obtain⟨k1,k2⟩:=i.filesOk d;rw[hf] at k1;refine (putFile_hit p a objs.length cap bf bd Df d ((j:Int)+1) w i.pool.at_ hs i.files k1 (k2 j hf)).mono fun e w' ⟨he,hw⟩=>?_;subst hw;exact⟨objs,.inr (.inl ⟨hs,rfl,j,hf,he⟩),same _ (Below.refl _ _)⟩
  | none=>
   obtain⟨k1,_⟩:=i.filesOk d;rw[hf] at k1;by_cases hn:400<=objs.length
   ·refine (putFile_full p a objs.length cap bf bd Df d w i.pool.at_ hs hn i.files k1).mono fun e w' ⟨he,hb⟩=>?_
    exact⟨objs,.inr (.inr (.inl ⟨hs,hf,hn,rfl,he⟩)),same _ hb⟩
   ·have hn':objs.length<400:=by omega
    refine (putFile_new p a objs.length cap bf bd (obCells objs) Df d w i.pool.at_ hs hn' i.pool.row i.files k1).mono fun e w' ⟨he,hG⟩=>?_;have hgr:Grew ft w w' p a objs.length cap bf bd bf 9 (obCells objs++(fileOb d).cells) (Df.put (.string d.data.toList) (.lit (.int .i64 ((objs.length:Int)+1)))):=hG;obtain⟨es0,clock0,hbf⟩:=ownsMap_isMap i.files;obtain⟨_,_,_,_,_,hfm,_⟩:=hG;exact⟨_,.inr (.inr (.inr ⟨hs,hf,hn',rfl,he⟩)),i.grow hgr hn' i.ff hbf (.inl ⟨rfl,rfl,hs⟩) hfm (i.filesOk.put i.files.isMap d hf)
     ((hgr.other i.pool i.dirs i.ne.symm).mono (Nat.le_succ _)) (i.dirsOk.other (show (1:Int)≠2 by decide))⟩
 ·refine (putFile_big p d w (by omega) hd).mono fun e w' ⟨he,hw⟩=>?_
  subst hw;exact⟨objs,.inl ⟨by omega,rfl,he⟩,same _ (Below.refl _ _)⟩
def DirPutG (objs objs':List Ob)(es:List Ent)(e:Ending):Prop:=
 ((∃x ∈ es,validB x.1=false)/\objs'=objs/\e=.returned (.tuple #[.int .i64 0,.int .i64 1]))\/
 ((∀x ∈ es,validB x.1=true)/\
  ((¬(es.map (·.1)).Nodup/\objs'=objs/\e=.returned (.tuple #[.int .i64 0,.int .i64 6]))\/
   ((es.map (·.1)).Nodup/\16<es.length/\objs'=objs/\e=.returned (.tuple #[.int .i64 0,.int .i64 11]))\/
   ((es.map (·.1)).Nodup/\es.length<=16/\(∃x ∈ es,goodE objs x=false)/\objs'=objs/\e=.returned (.tuple #[.int .i64 0,.int .i64 13]))\/
   ((es.map (·.1)).Nodup/\es.length<=16/\(∀x ∈ es,goodE objs x=true)/\∃es',es'.Perm es/\Rising es'/\Named es'/\
    ((5<highs objs es'/\objs'=objs/\e=.returned (.tuple #[.int .i64 0,.int .i64 11]))\/
    (highs objs es'<=5/\objs'=objs/\∃i,dirAt objs es'=some i/\e=.returned (.tuple #[.int .i64 ((i:Int)+1),.int .i64 0]))\/
    (highs objs es'<=5/\dirAt objs es'=none/\400<=objs.length/\objs'=objs/\e=.returned (.tuple #[.int .i64 0,.int .i64 11]))\/
    (highs objs es'<=5/\dirAt objs es'=none/\objs.length<400/\(∃o:Ob,o.kind=2/\o.ents=es'/\o.high=highs objs es'/\objs'=objs ++ [o])/\e=.returned (.tuple #[.int .i64 ((objs.length:Int)+1),.int .i64 0]))))))
theorem DirPutG.shape {objs objs':List Ob}{es:List Ent}{e:Ending}(h:DirPutG objs objs' es e):∃x y,e=.returned (.tuple #[.int .i64 x,.int .i64 y]):=by
 rcases h with ⟨_,_,h⟩ | ⟨_,⟨_,_,h⟩ | ⟨_,_,_,h⟩ | ⟨_,_,_,_,h⟩ | ⟨_,_,_,_,_,_,_,⟨_,_,h⟩ | ⟨_,_,_,_,h⟩ | ⟨_,_,_,_,h⟩ | ⟨_,_,_,_,h⟩⟩⟩ <;> exact⟨_,_,h⟩
theorem InvAt.highs {F:Nat->Prop}{w:World}{s p:Nat}{a:Option Addr}{cap bf bd:Nat}{Df Dd:DataW Unit}{objs:List Ob}(i:InvAt ft F w s p a cap bf bd Df Dd objs):∀o ∈ objs,0<=o.high/\o.high<=5:=by
 intro o ho;rcases i.obs o ho with ⟨_,h,_⟩ | ⟨_,_,_,_,h5,h6,_⟩
 ·rw[h];decide
 ·exact⟨h5,h6⟩
theorem InvAt.kinds {F:Nat->Prop}{w:World}{s p:Nat}{a:Option Addr}{cap bf bd:Nat}{Df Dd:DataW Unit}{objs:List Ob}(i:InvAt ft F w s p a cap bf bd Df Dd objs):∀o ∈ objs,o.kind=1\/o.kind=2:=by
 intro o ho;rcases i.obs o ho with ⟨h,_⟩ | ⟨h,_⟩
 ·exact .inl h
 ·exact .inr h
theorem poolDir {F:Nat->Prop}{w:World}{s p:Nat}{a:Option Addr}{cap bf bd:Nat}{Df Dd:DataW Unit}{objs:List Ob}(i:InvAt ft F w s p a cap bf bd Df Dd objs)(b off m c0:Nat)(es:List Ent)
  (hl:es.length=m)(hbl:b<w.heap.size)(hbig:m*32<=140737488355328)(hc:∀j u,(flat es)[j]? = some u->w.cell? ⟨b,off+j,none⟩=some u)(hsz:∀e ∈ es,e.1.size<=maxLen):
  Calls prog 60 #[.pointer (some ⟨p,0,none⟩),.slice (some ⟨b,off,none⟩) m c0] w fun e w'=>∃objs',DirPutG objs objs' es e/\InvP ft (NewF F w w') w' s p objs'/\Keeps F w w':=by
 have inv:InvP ft F w s p objs:=⟨a,cap,bf,bd,Df,Dd,i⟩;have same:∀w',Below w.heap.size w w'->InvP ft (NewF F w w') w' s p objs/\Keeps F w w':=fun w' hb=>⟨inv.below hb (fun k _ h=>.inl h),Keeps.of_below hb⟩;have named:∀es',es'.Perm es->(∀x ∈ es,validB x.1=true)->(∀x ∈ es,goodE objs x=true)->es.length<=16->Named es':=fun es' hP hv hg h16=>
  ⟨by rw[hP.length_eq];exact h16,fun e he=>⟨fits_of i.kinds i.pool.many (hv e (hP.mem_iff.1 he)) (hg e (hP.mem_iff.1 he)),(valid_size (hv e (hP.mem_iff.1 he))).1⟩⟩
 refine (putDir_any p b off m c0 a objs.length cap bf bd objs Dd es w i.pool i.dirs hl hbl hbig hc hsz i.highs i.kinds).mono fun e w' hD=>?_;rcases hD with ⟨hb,⟨hA,he⟩ | ⟨hA,⟨hB,he⟩ | ⟨hB,hC,he⟩ | ⟨hB,hC,hD,he⟩ | ⟨hB,hC,hD,es',hP,hR,hE⟩⟩⟩ | ⟨hA,hB,hC,hD,hn,es',hP,hR,hE,hE0,hH,he,g,cap',hrow,hG⟩
 ·exact⟨objs,.inl ⟨hA,rfl,he⟩,same _ hb⟩
 ·exact⟨objs,.inr ⟨hA,.inl ⟨hB,rfl,he⟩⟩,same _ hb⟩
 ·exact⟨objs,.inr ⟨hA,.inr (.inl ⟨hB,hC,rfl,he⟩)⟩,same _ hb⟩
 ·exact⟨objs,.inr ⟨hA,.inr (.inr (.inl ⟨hB,hC,hD,rfl,he⟩))⟩,same _ hb⟩
 ·have hN:=named es' hP hA hD hC
  obtain⟨k1,k2⟩:=i.dirsOk es' hN;rcases hE with ⟨h5,he⟩ | ⟨h5,hH,c,hat,he⟩ | ⟨h5,hH,hn,he⟩
  ·exact⟨objs,.inr ⟨hA,.inr (.inr (.inr ⟨hB,hC,hD,es',hP,hR,hN,.inl ⟨h5,rfl,he⟩⟩))⟩,same _ hb⟩
  ·rw[hH] at k1
   cases hdi:dirAt objs es' with
   | none=>rw[hdi] at k1;cases k1
   | some j=>
    have hc:=(k2 j hdi).symm.trans hat;have hcj:c=(j:Int)+1:=by simpa using hc.symm
    subst hcj;exact⟨objs,.inr ⟨hA,.inr (.inr (.inr ⟨hB,hC,hD,es',hP,hR,hN,.inr (.inl ⟨h5,rfl,j,hdi,he⟩)⟩))⟩,same _ hb⟩
  ·rw[hH] at k1
   have hdi:dirAt objs es'=none:=by simpa using k1.symm
   exact⟨objs,.inr ⟨hA,.inr (.inr (.inr ⟨hB,hC,hD,es',hP,hR,hN,.inr (.inr (.inl ⟨h5,hdi,hn,rfl,he⟩))⟩))⟩,same _ hb⟩
 ·have hN:=named es' hP hA hD hC
  obtain⟨k1,_⟩:=i.dirsOk es' hN;rw[hH] at k1;have hdi:dirAt objs es'=none:=by simpa using k1.symm
  have hle:es'.length=m:=by rw[hP.length_eq,hl]
  obtain⟨es0,clock0,hbd⟩:=ownsMap_isMap i.dirs;have hgr:Grew ft w w' p a objs.length cap bf bd bd 208 (obCells objs++(dirOb g m cap' es' (YtlgidcmmgohagaaGreat.highs objs es')).cells) (Dd.put (keyFor prog es') (.lit (.int .i64 ((objs.length:Int)+1)))):=hG;obtain⟨_,_,_,_,_,hdm,_⟩:=hG;have hg0:w.heap.size<=g/\g<w'.heap.size:=by
   refine⟨?_,ownsRow_lt hrow rfl⟩;rcases hrow.2 with ⟨h,_⟩ | ⟨g',_,_,hv,hb,_⟩
   ·cases h
   ·cases hv;exact hb
  have hrow0:w'.ownsRow 0 96 3 (.slice (some ⟨g,0,none⟩) m cap') m (flat es'):=by
   refine⟨hrow.1,?_⟩;rcases hrow.2 with h | ⟨g',c',cur,hv,hb,r⟩
   ·exact .inl h
   ·exact .inr ⟨g',c',cur,hv,zzF _,r⟩
  have hob:ObOk w' (NewF F w w') (dirOb g m cap' es' (YtlgidcmmgohagaaGreat.highs objs es')):=.inr ⟨rfl,hle,hN,hR,hE0,hE,fun g' hg'=>by (obtain rfl:g=g':=by simpa [dirOb,Value.ownBlock] using hg');exact .inr hg0,hrow0⟩;exact⟨_,.inr ⟨hA,.inr (.inr (.inr ⟨hB,hC,hD,es',hP,hR,hN,.inr (.inr (.inr ⟨hE,hdi,hn,⟨_,rfl,rfl,rfl,rfl⟩,he⟩))⟩))⟩,
   i.grow hgr hn i.fd hbd hob ((hgr.other i.pool i.files i.ne).mono (Nat.le_succ _)) (i.filesOk.other (show (2:Int)≠1 by decide)) hdm (i.dirsOk.put i.dirs.isMap hN hdi rfl rfl)⟩
theorem storePutDirP {F:Nat->Prop}{w:World}{s p:Nat}{objs:List Ob}(h:InvP ft F w s p objs)(b off m c0:Nat)(es:List Ent)
  (hl:es.length=m)(hbl:b<w.heap.size)(hbig:m*32<=140737488355328)(hc:∀j u,(flat es)[j]? = some u->w.cell? ⟨b,off+j,none⟩=some u)(hsz:∀e ∈ es,e.1.size<=maxLen):
  Calls prog 26 #[.pointer (some ⟨s,0,none⟩),.slice (some ⟨b,off,none⟩) m c0] w fun e w'=>∃objs',DirPutG objs objs' es e/\InvP ft (NewF F w w') w' s p objs'/\Keeps F w w':=by
 obtain⟨a,cap,bf,bd,Df,Dd,i⟩:=h;have hcon:=poolDir i b off m c0 es hl hbl hbig hc hsz;have c0:=i.c0;clear i hc hsz hl hbig;go_enter func26,ntmps26;go_wp2_with fail;refine hcon.mono ?_;rintro e w' ⟨objs',hfp,hrest⟩;obtain⟨x,y,hxy⟩:=hfp.shape;have HF:Hid (DirPutG objs objs' es e):=hfp;have HR:Hid (InvP ft (NewF F w w') w' s p objs'/\Keeps F w w'):=hrest;have HE:Hid (e=.returned (.tuple #[.int .i64 x,.int .i64 y])):=hxy;clear hfp hrest hxy hcon;rw[HE.out];go_wp2;go_ret2;exact⟨objs',HE.out ▸ HF.out,HR.out⟩
def FileGot (objs:List Ob)(id:Int)(e:Ending):Prop:=
 (kindOf objs id≠1/\e=.returned (.tuple #[.string ByteArray.empty,.int .i64 13]))\/∃j,∃hj:j<objs.length,id=(j:Int)+1/\objs[j].kind=1/\e=.returned (.tuple #[.string objs[j].data,.int .i64 0])
def DirGot (w w':World)(objs:List Ob)(id:Int)(e:Ending):Prop:=
 (kindOf objs id≠2/\e=.returned (.tuple #[.slice none 0 0,.int .i64 13]))\/
 ∃j,∃hj:j<objs.length,id=(j:Int)+1/\objs[j].kind=2/\∃g,e=.returned (.tuple #[.slice (some ⟨g,0,none⟩) objs[j].ents.length objs[j].ents.length,.int .i64 0])/\
  w'.ownsRow w.heap.size 96 3 (.slice (some ⟨g,0,none⟩) objs[j].ents.length objs[j].ents.length) objs[j].ents.length (flat objs[j].ents)
theorem poolGetDir {F:Nat->Prop}{w:World}{s p:Nat}{a:Option Addr}{cap bf bd:Nat}{Df Dd:DataW Unit}{objs:List Ob}(i:InvAt ft F w s p a cap bf bd Df Dd objs)(id:Int):
  Calls prog 85 #[.pointer (some ⟨p,0,none⟩),.int .i64 id] w fun e w'=>DirGot w w' objs id e/\Below w.heap.size w w':=by
 by_cases hk:kindOf objs id=2
 ·have hid:¬(id<1\/(objs.length:Int)<id):=fun h=>by rw[kindOf_out h] at hk;cases hk
  obtain⟨j,rfl⟩:∃j:Nat,id=(j:Int)+1:=⟨(id-1).toNat,by omega⟩;have hj:j<objs.length:=by omega
  rw[kindOf_in hj] at hk;rcases i.obs objs[j] (zzJ hj) with ⟨h1,_⟩ | ⟨_,h2,h3,_,_,_,_,h9⟩
  ·rw[h1] at hk;cases hk
  ·obtain⟨g,h7⟩ | ⟨h7,h70,h7c⟩:(∃g,objs[j].ea=some ⟨g,0,none⟩)\/(objs[j].ea=none/\objs[j].el=0/\objs[j].ec=0):=by
    rcases h9.2 with ⟨hv,h0⟩ | ⟨g,cc,cur,hv,_⟩
    ·simp only[Value.slice.injEq] at hv;exact .inr hv
    ·simp only[Value.slice.injEq] at hv;exact .inl ⟨g,hv.1⟩
   rotate_left
   ·have he0:objs[j].ents = []:=List.length_eq_zero_iff.1 (h2.trans h70)
    refine (dir_nil p a objs.length cap bf bd objs j hj w i.pool hk h7 h70 h7c).mono fun e w' ⟨g',he,hr,hb⟩=>⟨.inr ⟨j,hj,rfl,hk,g',?_,?_⟩,hb⟩
    ·rw[he0];exact he
    ·rw[he0];exact hr
   rw[h7] at h9;refine (dir_some p a objs.length cap bf bd objs j g objs[j].el objs[j].ec objs[j].ents hj w i.pool hk h7 rfl rfl (by rw[<-h2];exact h3.1) h2 (ownsRow_lt h9 rfl) (owns_cells h9)).mono fun e w' ⟨g',he,hr,hb⟩=>⟨.inr ⟨j,hj,rfl,hk,g',?_,?_⟩,hb⟩
   ·rw[h2];exact he
   ·rw[h2];exact hr
 ·exact (dir_not p a objs.length cap bf bd objs id w i.pool hk).mono fun e w' ⟨he,hb⟩=>⟨.inl ⟨hk,he⟩,hb⟩
theorem newStore_inv (w:World):Calls prog 25 #[] w fun e w'=>∃s,e=.returned (.pointer (some ⟨s,0,none⟩))/\Inv pt0 (NewF (fun _=>False) w w') w' s []/\Below w.heap.size w w':=by
 refine (newStore_any w).mono fun e w' ⟨he,hw⟩=>?_;refine⟨_,he,?_,?_⟩
 ·subst hw
  have e3:∀o1 o2 o3 o4:Obj,((((w.alloc o1).alloc o2).alloc o3).alloc o4).heap[w.heap.size+3]? = some o4:=fun o1 o2 o3 o4=>by
   have:=heap_alloc_new (((w.alloc o1).alloc o2).alloc o3) o4
   simpa using this
  have e2:∀o1 o2 o3 o4:Obj,((((w.alloc o1).alloc o2).alloc o3).alloc o4).heap[w.heap.size+2]? = some o3:=fun o1 o2 o3 o4=>by
   rw[RowKit.Below.heap_alloc _ _ _ (by simp)]
   have:=heap_alloc_new ((w.alloc o1).alloc o2) o3
   simpa using this
  have e1:∀o1 o2 o3 o4:Obj,((((w.alloc o1).alloc o2).alloc o3).alloc o4).heap[w.heap.size+1]? = some o2:=fun o1 o2 o3 o4=>by
   rw[RowKit.Below.heap_alloc _ _ _ (by simp),RowKit.Below.heap_alloc _ _ _ (by simp)];exact heap_alloc2_new w o1 o2
  have e0:∀o1 o2 o3 o4:Obj,((((w.alloc o1).alloc o2).alloc o3).alloc o4).heap[w.heap.size]? = some o1:=fun o1 o2 o3 o4=>by
   rw[RowKit.Below.heap_alloc _ _ _ (by simp;omega),RowKit.Below.heap_alloc _ _ _ (by simp;omega)];exact heap_alloc2_old w o1 o2
  refine⟨w.heap.size+2,none,0,w.heap.size,w.heap.size+1,.map [],.map [],⟨.inr (by simp),.inr (by simp),.inr (by simp;omega),.inr (by simp),?_,e3 _ _ _ _,⟨e2 _ _ _ _,World.ownsRow_nil _ _ _ _,rfl,by simp⟩,by omega,?_,?_,?_,?_,?_⟩⟩
  ·intro g hg;cases hg
  ·exact⟨#[],0,e0 _ _ _ _,⟨by simp,MapKept.stamped_empty 0,by simp⟩,zzC _,rfl⟩
  ·intro d;exact⟨rfl,fun i hi=>by cases hi⟩
  ·exact⟨#[],0,e1 _ _ _ _,⟨by simp,MapKept.stamped_empty 0,by simp⟩,zzC _,rfl⟩
  ·intro es _;exact⟨rfl,fun i hi=>by cases hi⟩
  ·intro o ho;cases ho
 ·rw[hw]
  exact ((((Below.refl _ _).alloc (zzC _) _).alloc (by simp) _).alloc (by simp;omega) _).alloc (by simp;omega) _
variable {ft:PTail}
theorem storePutFileP {F:Nat->Prop}{w:World}{s p:Nat}{objs:List Ob}(h:InvP ft F w s p objs)(d:ByteArray)(hd:d.size<=maxLen):
  Calls prog 35 #[.pointer (some ⟨s,0,none⟩),.string d] w fun e w'=>∃objs',FilePut objs objs' d e/\InvP ft (NewF F w w') w' s p objs'/\Keeps F w w':=by
 obtain⟨a,cap,bf,bd,Df,Dd,i⟩:=h;have hcon:=poolFile i d hd;have c0:=i.c0;clear i hd;go_enter func35,ntmps35;go_wp2_with fail;refine hcon.mono ?_;rintro e w' ⟨objs',hfp,hrest⟩;obtain⟨x,y,hxy⟩:=hfp.shape;have HF:Hid (FilePut objs objs' d e):=hfp;have HR:Hid (InvP ft (NewF F w w') w' s p objs'/\Keeps F w w'):=hrest;have HE:Hid (e=.returned (.tuple #[.int .i64 x,.int .i64 y])):=hxy;clear hfp hrest hxy hcon;rw[HE.out];go_wp2;go_ret2;exact⟨objs',HE.out ▸ HF.out,HR.out⟩
def lessB (a b:ByteArray):Bool:=decide (Lib.compareBytes a.data.toList b.data.toList<0)
theorem cmp_drop:∀(k:Nat) (a b:List UInt8),k<=a.length->k<=b.length->a.take k=b.take k->Lib.compareBytes a b=Lib.compareBytes (a.drop k) (b.drop k)
 | 0,_,_,_,_,_=>rfl
 | k+1,[],_,h,_,_=>by simp at h
 | k+1,_ :: _,[],_,h,_=>by simp at h
 | k+1,x :: r,y :: s,h1,h2,h=>by
  simp only[List.take_succ_cons,List.cons.injEq] at h
  obtain⟨rfl,h⟩:=h
  simp only[Lib.compareBytes,u8_irrefl,if_false,List.drop_succ_cons]
  exact cmp_drop k r s (by simpa using h1) (by simpa using h2) h
theorem cmp_at {a b:List UInt8}{k:Nat}(h1:k<a.length)(h2:k<b.length)(h:a.take k=b.take k)(hne:a[k]≠b[k]):decide (Lib.compareBytes a b<0)=decide (a[k]<b[k]):=by
 rw[cmp_drop k a b (by omega) (by omega) h,List.drop_eq_getElem_cons h1,List.drop_eq_getElem_cons h2];rcases u8_tri a[k] b[k] with c | c | c
 ·simp[Lib.compareBytes,c]
 ·exact absurd c hne
 ·simp[Lib.compareBytes,c,u8_asymm c]
theorem cmp_end {a b:List UInt8}{k:Nat}(h1:k<=a.length)(h2:k<=b.length)(h:a.take k=b.take k)(he:k=a.length\/k=b.length):decide (Lib.compareBytes a b<0)=decide (a.length<b.length):=by
 rw[cmp_drop k a b h1 h2 h];rcases he with he | he
 ·subst he
  rw[List.drop_length];cases hb:b.drop a.length with
  | nil=>have:=congrArg List.length hb;simp at this;simp[Lib.compareBytes];omega
  | cons x r=>have:=congrArg List.length hb;simp at this;simp[Lib.compareBytes];omega
 ·subst he
  rw[List.drop_length];cases ha:a.drop b.length with
  | nil=>have:=congrArg List.length ha;simp at this;simp[Lib.compareBytes];omega
  | cons x r=>have:=congrArg List.length ha;simp at this;simp[Lib.compareBytes];omega
theorem less_any (a b:ByteArray)(w:World)(ha:a.size<=maxLen)(hb:b.size<=maxLen):
  Calls prog 169 #[.string a,.string b] w fun e w'=>e=.returned (.bool (lessB a b))/\∃q,w'=w.drewN q:=by
 unfold maxLen at ha hb;have la:a.data.toList.length=a.size:=Array.length_toList;have lb:b.data.toList.length=b.size:=Array.length_toList;have HLA:Hid (a.data.toList.length=a.size):=la;have HLB:Hid (b.data.toList.length=b.size):=lb;clear la lb;go_enter func169,ntmps169;go_wp2
 go_loopw [5] (fun i wr=>∃k:Nat,k<=a.size/\k<=b.size/\i=.int .i64 k/\Hid (∃q,wr=w.drewN q)/\Hid (a.data.toList.take k=b.data.toList.take k)) (fun i _=>a.size-(intOf i).toNat)
 case atStart=>exact⟨0,zzF _,zzF _,rfl,⟨0,rfl⟩,rfl⟩
 case round=>
  obtain⟨k,hk1,hk2,rfl,HW,HT⟩:=hrel;by_cases h1:k<a.size
  ·by_cases h2:k<b.size
   ·by_cases hne:((a[k].toNat:Int) == (b[k].toNat:Int))=true
    ·have HE:Hid (a[k]=b[k]):=UInt8.toNat_inj.1 (by have:=eq_of_beq hne;omega)
     go_wp2
     go_quiet (fail)
     go_wp2;go_roundw
     case rel=>
      refine⟨k+1,by omega,by omega,by go_num,?_,?_⟩
      ·obtain⟨q,hq⟩:=HW.out;exact⟨q+nq,by rw[hq,World.drewN_drewN]⟩
      ·show _=_
       rw[zzI (by rw[HLA.out];exact h1),zzI (by rw[HLB.out];exact h2),HT.out];exact congrArg _ (congrArg (· :: []) HE.out)
     case measure=>simp[intOf];omega
    ·have hne':((a[k].toNat:Int) == (b[k].toNat:Int))=false:=by simpa using hne
     have HE:Hid (a[k]≠b[k]):=fun h=>hne (by rw[h];exact beq_self_eq_true _);go_wp2
     go_quiet (fail)
     go_wp2
     go_quiet (fail)
     go_wp2;go_ret;obtain⟨q,hq⟩:=HW.out;refine⟨?_,by subst hq;exact⟨_,by rw[World.drewN_drewN,World.drewN_drewN]⟩⟩
     have:=cmp_at (a:=a.data.toList) (b:=b.data.toList) (k:=k) (by rw[HLA.out];exact h1) (by rw[HLB.out];exact h2) HT.out HE.out
     unfold lessB;rw[this]
     congr 2
   ·go_wp2
    go_ret;obtain⟨q,hq⟩:=HW.out;refine⟨?_,q,hq⟩
    have:=cmp_end (k:=k) (by rw[HLA.out];exact hk1) (by rw[HLB.out];exact hk2) HT.out (.inr (by rw[HLB.out];omega))
    unfold lessB;rw[this,HLA.out,HLB.out]
    congr 2
  ·go_wp2
   go_ret;obtain⟨q,hq⟩:=HW.out;refine⟨?_,q,hq⟩
   have:=cmp_end (k:=k) (by rw[HLA.out];exact hk1) (by rw[HLB.out];exact hk2) HT.out (.inl (by rw[HLA.out];omega))
   unfold lessB;rw[this,HLA.out,HLB.out]
   congr 2
theorem idx_neg {l:List UInt8}{c:UInt8}(h:∀j (hj:j<l.length),l[j]≠c):Lib.indexByte l c<0:=by
 have hg:=Lib.indexByte_ge l c;by_cases hn:Lib.indexByte l c<0
 ·exact hn
 ·obtain⟨o,ho⟩:∃o:Nat,Lib.indexByte l c=o:=⟨(Lib.indexByte l c).toNat,by omega⟩
  have:=(Lib.indexByte_some ho).1
  obtain⟨hlt,he⟩:=List.getElem?_eq_some_iff.1 this;exact absurd he (h o hlt)
theorem idx_pos {l:List UInt8}{c:UInt8}{j:Nat}(hj:j<l.length)(h:l[j]=c):¬Lib.indexByte l c<0:=by
 intro hn;have hg:=Lib.indexByte_ge l c
 have:Lib.indexByte l c = -1:=by omega
 exact Lib.indexByte_none this j (by rw[zzH hj,h])
theorem named_early (s:ByteArray)(w:World)(hm:s.size<=maxLen)(h:(s.toList == [])=true\/((s.toList == [])=false/\(12<s.size\/¬12<s.size/\((s.toList == [46])=true\/(s.toList == [46])=false/\(s.toList == [46,46])=true)))):
  Calls prog 150 #[.string s] w fun e w'=>e=.returned (.bool false)/\∃q,w'=w.drewN q:=by
 unfold maxLen at hm;rcases h with h | ⟨h0,h | ⟨h1,h | ⟨h2,h3⟩⟩⟩
 all_goals
  go_enter func150,ntmps150;go_wp2;go_ret;exact⟨rfl,0,rfl⟩
theorem named_late (s:ByteArray)(w:World)(h0:(s.toList == [])=false)(h1:¬12<s.size)(h2:(s.toList == [46])=false)(h3:(s.toList == [46,46])=false)(r:Bool)
  (hr:Hid ((decide (Lib.indexByte s.data.toList 0<0) && decide (Lib.indexByte s.data.toList 47<0))=r)):
  Calls prog 150 #[.string s] w fun e w'=>e=.returned (.bool r)/\∃q,w'=w.drewN q:=by
 have HLA:Hid (s.data.toList.length=s.size):=Array.length_toList;go_enter func150,ntmps150;go_wp2
 go_loopw [3] (fun i wr=>∃k:Nat,k<=s.size/\i=.int .i64 k/\Hid (∃q,wr=w.drewN q)/\Hid (∀j (hj:j<s.data.toList.length),j<k->s.data.toList[j]≠0/\s.data.toList[j]≠47)) (fun i _=>s.size-(intOf i).toNat)
 case atStart=>exact⟨0,zzF _,rfl,⟨0,rfl⟩,fun j hj h=>by omega⟩
 case round=>
  obtain⟨k,hk,rfl,HW,HV⟩:=hrel;by_cases hlt:k<s.size
  ·have hlt':k<s.data.toList.length:=by rw[HLA.out];exact hlt
   cases h4:((s[k].toNat:Int) == 0) with
   | true=>
    go_wp2;go_ret;obtain⟨q,hq⟩:=HW.out;refine⟨?_,q,hq⟩
    have:s.data.toList[k]=0:=UInt8.toNat_inj.1 (by have:=eq_of_beq h4;show s[k].toNat=0;omega)
    rw[<-hr.out,zzE (idx_pos hlt' this)];rfl
   | false=>
    cases h5:((s[k].toNat:Int) == 47) with
    | true=>
     go_wp2;go_ret;obtain⟨q,hq⟩:=HW.out;refine⟨?_,q,hq⟩
     have:s.data.toList[k]=47:=UInt8.toNat_inj.1 (by have:=eq_of_beq h5;show s[k].toNat=47;omega)
     rw[<-hr.out,zzE (idx_pos hlt' this),Bool.and_false];rfl
    | false=>
     have HE:Hid (s.data.toList[k]≠0/\s.data.toList[k]≠47):=by
      refine⟨fun h=>?_,fun h=>?_⟩
      ·have:s[k]=0:=h
       rw[this] at h4;simp at h4
      ·have:s[k]=47:=h
       rw[this] at h5;simp at h5
     go_wp2;go_roundw
     case rel=>
      refine⟨k+1,by omega,by go_num,?_,?_⟩
      ·obtain⟨q,hq⟩:=HW.out;exact⟨q,hq⟩
      ·intro j hj hjk
       by_cases e:j=k
       ·subst e;exact HE.out
       ·exact HV.out j hj (by omega)
     case measure=>simp[intOf];omega
  ·go_wp2
   go_ret;refine⟨?_,HW.out⟩;have ha:∀j (hj:j<s.data.toList.length),s.data.toList[j]≠0/\s.data.toList[j]≠47:=fun j hj=>HV.out j hj (by rw[HLA.out] at hj;omega)
   rw[<-hr.out,decide_eq_true (idx_neg fun j hj=>(ha j hj).1),decide_eq_true (idx_neg fun j hj=>(ha j hj).2)];rfl
theorem named_any (s:ByteArray)(w:World)(hm:s.size<=maxLen):Calls prog 150 #[.string s] w fun e w'=>e=.returned (.bool (validB s))/\∃q,w'=w.drewN q:=by
 have hz:(s.toList == [])=decide (s.size<1):=by
  rw[ByteArray.toList_eq];by_cases h:s.size<1
  ·have:s.data.toList = []:=List.eq_nil_of_length_eq_zero (by rw[Array.length_toList];exact (show s.size=0 by omega))
   simp[this,h]
  ·rw[zzE h]
   cases hl:s.data.toList with
   | nil=>exact absurd (by have:=congrArg List.length hl;rw[Array.length_toList] at this;exact (show s.size<1 by have h2:s.size=0:=this;omega)) h
   | cons x r=>rfl
 unfold validB;cases h0:(s.toList == []) with
 | true=>
  have:¬1<=s.size:=by have h:=hz.symm.trans h0;have:=of_decide_eq_true h;omega
  rw[zzE this];exact named_early s w hm (.inl h0)
 | false=>
  have:1<=s.size:=by have h:=hz.symm.trans h0;have:=of_decide_eq_false h;omega
  rw[decide_eq_true this];by_cases h1:12<s.size
  ·rw[zzE (show ¬s.size<=12 by omega)]
   exact named_early s w hm (.inr ⟨h0,.inl h1⟩)
  ·rw[decide_eq_true (show s.size<=12 by omega)]
   cases h2:(s.toList == [46]) with
   | true=>exact named_early s w hm (.inr ⟨h0,.inr ⟨h1,.inl h2⟩⟩)
   | false=>
    cases h3:(s.toList == [46,46]) with
    | true=>exact named_early s w hm (.inr ⟨h0,.inr ⟨h1,.inr ⟨h2,h3⟩⟩⟩)
    | false=>exact named_late s w h0 h1 h2 h3 _ (show _=_ by simp)
variable {ft:PTail}
theorem storeGetFile {F:Nat->Prop}{w:World}{s:Nat}{objs:List Ob}(h:Inv ft F w s objs)(id:Int):
  Calls prog 40 #[.pointer (some ⟨s,0,none⟩),.int .i64 id] w fun e w'=>FileGot objs id e/\Below w.heap.size w w':=by
 obtain⟨p,a,cap,bf,bd,Df,Dd,i⟩:=h;have hcon:=file_any p a objs.length cap bf bd objs id w i.pool;have c0:=i.c0;clear i;go_enter func40,ntmps40;go_wp2_with fail;refine hcon.mono ?_;rintro e w' ⟨hb,hf⟩;obtain⟨x,y,hxy⟩:∃x y,e=.returned (.tuple #[.string x,.int .i64 y]):=by
  rcases hf with ⟨_,h⟩ | ⟨_,_,_,_,h⟩ <;> exact⟨_,_,h⟩
 have HF:Hid (FileGot objs id e):=hf;have HE:Hid (e=.returned (.tuple #[.string x,.int .i64 y])):=hxy;clear hf hxy hcon;rw[HE.out];go_wp2;go_ret2;exact⟨HE.out ▸ HF.out,hb⟩
theorem storeGetDir {F:Nat->Prop}{w:World}{s:Nat}{objs:List Ob}(h:Inv ft F w s objs)(id:Int):
  Calls prog 43 #[.pointer (some ⟨s,0,none⟩),.int .i64 id] w fun e w'=>DirGot w w' objs id e/\Below w.heap.size w w':=by
 obtain⟨p,a,cap,bf,bd,Df,Dd,i⟩:=h;have hcon:=poolGetDir i id;have c0:=i.c0;clear i;go_enter func43,ntmps43;go_wp2_with fail;refine hcon.mono ?_;rintro e w' ⟨hf,hb⟩;obtain⟨x,n,c,y,hxy⟩:∃x n c y,e=.returned (.tuple #[.slice x n c,.int .i64 y]):=by
  rcases hf with ⟨_,h⟩ | ⟨_,_,_,_,_,h,_⟩ <;> exact⟨_,_,_,_,h⟩
 have HF:Hid (DirGot w w' objs id e):=hf;have HE:Hid (e=.returned (.tuple #[.slice x n c,.int .i64 y])):=hxy;clear hf hxy hcon;rw[HE.out];go_wp2;go_ret2;exact⟨HE.out ▸ HF.out,hb⟩
variable {ft:PTail}
theorem count_st (p:Nat)(a:Option Addr)(n cap:Nat)(w:World)(h0:w.cell? ⟨p,0,none⟩=some (.slice a n cap)):
  Calls prog 86 #[.pointer (some ⟨p,0,none⟩)] w fun e w'=>e=.returned (.int .i64 n)/\w'=w:=by
 go_enter func86,ntmps86;go_wp2;go_ret;exact⟨rfl,rfl⟩
theorem storeObjects {F:Nat->Prop}{w:World}{s:Nat}{objs:List Ob}(h:Inv ft F w s objs):
  Calls prog 45 #[.pointer (some ⟨s,0,none⟩)] w fun e w'=>e=.returned (.int .i64 (objs.length:Int))/\w'=w:=by
 obtain⟨p,a,cap,bf,bd,Df,Dd,i⟩:=h;have hcon:=count_st p a objs.length cap w i.pool.at_.c0;have c0:=i.c0;clear i;go_enter func45,ntmps45;go_wp2_with (go_at_call 86;refine hcon.mono ?_;rintro e w' ⟨rfl,rfl⟩);go_ret;exact⟨rfl,rfl⟩
end Go.Proofs.YtlgidcmmgohagaaGreat
