/-
  What is proved here: an outline's object of what has been noted: as noted; which object a thing is, by what is read. the library's strings.Join is, at its own numbers, that which the shelf's contracts speak of. ..
-/
import Derived.Test.YtajopoddmfdejaaGreatToldM41
import Derived.Test.YtajopoddmfdejaaGreatToldM39
import Derived.Shelf.Strings.OnBuilder
import Derived.Test.YtajopoddmfdejaaGreatProg
import Derived.Test.YtajopoddmfdejaaGreatToldM22
import Derived.Test.YtajopoddmfdejaaGreatToldM08
import Derived.Test.YtajopoddmfdejaaGreatToldM11
import Derived.Deep.RegionHeld3
namespace Go.Proofs.YtajopoddmfdejaaGreat
open Go.RowKit Go.Sort Go.Shelf
set_option linter.unusedVariables false
set_option maxRecDepth 100000
set_option maxHeartbeats 16000000
theorem oobject_hit (bt dr ow:Nat)(s0 s1 s2 s3 s4 nm:ByteArray)(k r:Int)(w:World)
  (hlk:∀ W,Below w.heap.size w W->(Instr.lookup 119 (.map (some ow)) (.agg #[.string s0,.string s1,.string s2,.string s3,.string s4]) true).run Tryz.prog W=.ok (.tuple #[.int .i64 r,.bool true]) W):
  Calls Tryz.prog 65 #[.agg #[.pointer (some ⟨bt,0,none⟩),.pointer (some ⟨dr,0,none⟩),.map (some ow)],.agg #[.string s0,.string s1,.string s2,.string s3,.string s4],.agg #[.string nm,.int .i64 k,.int .i64 0]] w fun e w'=>e=.returned (.int .i64 r)/\Below w.heap.size w w':=by
 have hl:=hlk _ (objBoxes_below w bt dr ow s0 s1 s2 s3 s4 nm k 0)
 have hb:=objBoxes_below w bt dr ow s0 s1 s2 s3 s4 nm k 0
 clear hlk
 unfold objBoxes at hl hb
 have HB:Hid _:=hb
 clear hb
 go_enter Tryz.func65,Tryz.ntmps65
 go_wp2
 go_ret
 exact⟨rfl,HB.out⟩
theorem object_hit {W:World}{bt dr ow N:Nat}{f:List ByteArray->Option Int}(hm:∃ n,n<=N/\PMap W ow n (fun q=>(f q).map (Value.int .i64))){q:List ByteArray}(hq:Good q){r:Int}(hf:f q=some r)(nm:ByteArray)(k:Int):
  Calls Tryz.prog 65 #[.agg #[.pointer (some ⟨bt,0,none⟩),.pointer (some ⟨dr,0,none⟩),.map (some ow)],.agg (pathA q),.agg #[.string nm,.int .i64 k,.int .i64 0]] W fun e w'=>e=.returned (.int .i64 r)/\Below W.heap.size W w':=by
 obtain⟨n,_,hp⟩:=hm
 refine oobject_hit bt dr ow _ _ _ _ _ nm k r W (fun W1 hb=>?_)
 have:=PMap.look_ok (hp.keep (hb.block ow hp.lt)) Tryz.underlying119 (zero25 W1) hq
 rw[hf] at this
 exact this
theorem obj_iff {a:List Ob}(hX:Exact a)(hO:Once a){c u:LT}{objs:List Ob}{fc:FileC}{id:Int}(hc:LTok a 5 (refOf c.kind id))(hs:SemEq a fcE (refOf c.kind id) objs fc c)(hu:LTok a 5 u)(hst:(∃ i,u=.file i)\/∃ i,u=.dir i)(hk:c.kind=u.kind):id=u.id↔SemEq objs fc c a fcE u:=by
 have hru:refOf c.kind u.id=u:=by
  rw[hk]
  rcases hst with ⟨i,rfl⟩ | ⟨i,rfl⟩ <;> rfl
 constructor
 ·intro e y
  rw[<- hs y,e,hru]
 ·intro h
  have hfl:FlSz a (fun _=>none):=fun f id d hf=>by cases hf
  have:=objR_sem hX hO hfl 5 (refOf c.kind id) u hc hu hst (fun y=>((hs y).trans (h y)))
  have hid:(refOf c.kind id).id=id:=by unfold refOf;split <;> rfl
  have hob:objR (fun _=>none) 5 (refOf c.kind id) a=((refOf c.kind id).id,a):=by
   unfold refOf
   split <;> rw[objR] <;> rfl
  rw[hob,hid] at this
  exact congrArg Prod.fst this
end Go.Proofs.YtajopoddmfdejaaGreat
namespace Go.Proofs
open Go.Shelf
def Tryz.lays156_ren:Go.Shelf.Ren:=⟨fun | 156=>186 | 165=>197 | 166=>198 | 169=>199 | 240=>202 | 241=>203 | 276=>204 | 277=>205 | n=>n,fun | 31=>69 | 9=>9 | 3=>3 | 4=>4 | 0=>0 | 20=>20 | 72=>272 | 76=>276 | 70=>270 | 37=>228 | 75=>275 | 127=>229 | 164=>282 | 5=>5 | 80=>152 | n=>n,fun | n=>n⟩
theorem Tryz.lays156:Go.Proofs.Lays.n156 Tryz.prog Tryz.lays156_ren:={
 mixed:=by kernel_rfl
 f156:=Tryz.func186.trans (congrArg some (by kernel_rfl))
 f165:=Tryz.func197.trans (congrArg some (by kernel_rfl))
 f166:=Tryz.func198.trans (congrArg some (by kernel_rfl))
 f169:=Tryz.func199.trans (congrArg some (by kernel_rfl))
 f240:=Tryz.func202.trans (congrArg some (by kernel_rfl))
 f241:=Tryz.func203.trans (congrArg some (by kernel_rfl))
 f276:=Tryz.func204.trans (congrArg some (by kernel_rfl))
 f277:=Tryz.func205.trans (congrArg some (by kernel_rfl))
 t0:=Tryz.underlying0
 a0:=Tryz.isAgg0
 z0:=Tryz.sizeOf0
 v0:=Tryz.zeroValue0
 t3:=Tryz.underlying3
 a3:=Tryz.isAgg3
 z3:=Tryz.sizeOf3
 v3:=Tryz.zeroValue3
 t4:=Tryz.underlying4
 a4:=Tryz.isAgg4
 z4:=Tryz.sizeOf4
 v4:=Tryz.zeroValue4
 t9:=Tryz.underlying9
 a9:=Tryz.isAgg9
 z9:=Tryz.sizeOf9
 v9:=Tryz.zeroValue9
 t20:=Tryz.underlying20
 a20:=Tryz.isAgg20
 z20:=Tryz.sizeOf20
 v20:=Tryz.zeroValue20
 t31:=Tryz.underlying69
 a31:=Tryz.isAgg69
 z31:=Tryz.sizeOf69
 v31:=Tryz.zeroValue69
 t37:=Tryz.underlying228
 a37:=Tryz.isAgg228
 z37:=Tryz.sizeOf228
 v37:=Tryz.zeroValue228
 t70:=Tryz.underlying270
 a70:=Tryz.isAgg270
 z70:=Tryz.sizeOf270
 v70:=Tryz.zeroValue270
 t72:=Tryz.underlying272
 a72:=Tryz.isAgg272
 z72:=Tryz.sizeOf272
 v72:=Tryz.zeroValue272
 t75:=Tryz.underlying275
 a75:=Tryz.isAgg275
 z75:=Tryz.sizeOf275
 v75:=Tryz.zeroValue275
 t76:=Tryz.underlying276
 a76:=Tryz.isAgg276
 z76:=Tryz.sizeOf276
 v76:=Tryz.zeroValue276
 t127:=Tryz.underlying229
 a127:=Tryz.isAgg229
 z127:=Tryz.sizeOf229
 v127:=Tryz.zeroValue229
 t164:=Tryz.underlying282
 a164:=Tryz.isAgg282
 z164:=Tryz.sizeOf282
 v164:=Tryz.zeroValue282 }
theorem Tryz.Builder_Extra_156:Builder.Extra Tryz.prog Tryz.lays156_ren:={
 sizeBuilder:=by kernel_rfl
 liesBuilder:=by kernel_rfl
 t5:=Tryz.underlying5
 a5:=Tryz.isAgg5
 z5:=Tryz.sizeOf5
 v5:=Tryz.zeroValue5
 infoByte:=by kernel_rfl
 cellsByte:=by kernel_rfl
 sizeByte:=by kernel_rfl
 neB5:=by decide }
open Go.RowKit in
open Go.RowKit in
theorem Tryz.strings_Join (bk o c:Nat)(xs:List ByteArray)(sep:ByteArray)(w:World)(hcells:∀ (j:Nat) x,xs[j]? = some x->w.cell? ⟨bk,o+j,none⟩=some (.string x))(hbk:bk<w.heap.size)(hN:xs.length<=140737488355328)(hcap:xs.length<=c)(hlen:(Lib.join (xs.map (·.data.toList)) sep.data.toList).length<=140737488355328):
  Calls Tryz.prog 186 #[.slice (some ⟨bk,o,none⟩) xs.length c,.string sep] w fun e w'=>e=.returned (.string ⟨(Lib.join (xs.map (·.data.toList)) sep.data.toList).toArray⟩)/\Below w.heap.size w w':=Any.strings_Join Tryz.lays156 Tryz.Builder_Extra_156 bk o c xs sep w hcells hbk hN hcap hlen
end Go.Proofs
namespace Go.Proofs.YtajopoddmfdejaaGreat
open Go.RowKit Go.Sort Go.Shelf
set_option linter.unusedVariables false
set_option maxRecDepth 100000
set_option maxHeartbeats 16000000
theorem joinL_lib:∀ l:List (List UInt8),Lib.join l [47]=joinL l
 | []=>rfl
 | [x]=>Lib.join_one x _
 | x :: y :: r=>by
  have:=joinL_lib (y :: r)
  unfold Lib.join at this ⊢
  rw[joinL,<- this]
  simp[List.intercalate,List.intersperse]
theorem slT (b n:Nat)(hn:n<=5)(W:World):(Instr.sliceAt 104 (.pointer (some ⟨b,0,none⟩)) none (some (.int .i64 (n:Int))) none).run Tryz.prog W=.ok (.slice (some ⟨b,0,none⟩) n 5) W:=by
 have h0:∀ (b:Nat) (W:World),(Instr.sliceAt 104 (.pointer (some ⟨b,0,none⟩)) none (some (.int .i64 0)) none).run Tryz.prog W=.ok (.slice (some ⟨b,0,none⟩) 0 5) W:=fun b W=>by kernel_rfl
 have h1:∀ (b:Nat) (W:World),(Instr.sliceAt 104 (.pointer (some ⟨b,0,none⟩)) none (some (.int .i64 1)) none).run Tryz.prog W=.ok (.slice (some ⟨b,0,none⟩) 1 5) W:=fun b W=>by kernel_rfl
 have h2:∀ (b:Nat) (W:World),(Instr.sliceAt 104 (.pointer (some ⟨b,0,none⟩)) none (some (.int .i64 2)) none).run Tryz.prog W=.ok (.slice (some ⟨b,0,none⟩) 2 5) W:=fun b W=>by kernel_rfl
 have h3:∀ (b:Nat) (W:World),(Instr.sliceAt 104 (.pointer (some ⟨b,0,none⟩)) none (some (.int .i64 3)) none).run Tryz.prog W=.ok (.slice (some ⟨b,0,none⟩) 3 5) W:=fun b W=>by kernel_rfl
 have h4:∀ (b:Nat) (W:World),(Instr.sliceAt 104 (.pointer (some ⟨b,0,none⟩)) none (some (.int .i64 4)) none).run Tryz.prog W=.ok (.slice (some ⟨b,0,none⟩) 4 5) W:=fun b W=>by kernel_rfl
 have h5:∀ (b:Nat) (W:World),(Instr.sliceAt 104 (.pointer (some ⟨b,0,none⟩)) none (some (.int .i64 5)) none).run Tryz.prog W=.ok (.slice (some ⟨b,0,none⟩) 5 5) W:=fun b W=>by kernel_rfl
 have:n=0\/n=1\/n=2\/n=3\/n=4\/n=5:=by omega
 rcases this with rfl | rfl | rfl | rfl | rfl | rfl
 ·exact h0 b W
 ·exact h1 b W
 ·exact h2 b W
 ·exact h3 b W
 ·exact h4 b W
 ·exact h5 b W
theorem text_walk (s0 s1 s2 s3 s4:ByteArray)(n:Nat)(hn:n<=5)(xs:List ByteArray)(tx:ByteArray)(w:World)(hx:xs.length=n)
  (hdep:∀ W,Calls Tryz.prog 83 #[.agg #[.string s0,.string s1,.string s2,.string s3,.string s4]] W fun e w'=>e=.returned (.int .i64 (n:Int))/\Below W.heap.size W w')
  (hjoin:∀ W,Below w.heap.size w W->W.heap[w.heap.size]? = some (.cells #[.string s0,.string s1,.string s2,.string s3,.string s4] 104 (0,0))->Calls Tryz.prog 186 #[.slice (some ⟨w.heap.size,0,none⟩) n 5,.string ⟨#[47]⟩] W fun e w'=>e=.returned (.string tx)/\Below W.heap.size W w'):
  Calls Tryz.prog 158 #[.agg #[.string s0,.string s1,.string s2,.string s3,.string s4]] w fun e w'=>e=.returned (.string tx)/\Below w.heap.size w w':=by
 have hsl:=fun W=>slT w.heap.size n hn W
 have HD:Hid _:=hdep
 have HJ:Hid _:=hjoin
 have HB0:Hid _:=(Below.refl w.heap.size w).alloc (Nat.le_refl _) (.cells #[.string s0,.string s1,.string s2,.string s3,.string s4] 104)
 clear hdep hjoin
 go_enter Tryz.func158,Tryz.ntmps158
 go_wp2_with fail
 refine Calls.mono (HD.out _) ?_
 rintro e w1 ⟨rfl,hb1⟩
 have hbx:w1.heap[w.heap.size]? = some (.cells #[.string s0,.string s1,.string s2,.string s3,.string s4] 104 (0,0)):=(hb1.block _ (by simp)).trans (heap_alloc_new w _)
 have hbw:Below w.heap.size w w1:=below_via HB0.out hb1
 have HJJ:Hid _:=HJ.out w1 hbw hbx
 have HBW:Hid _:=hbw
 clear HJ HD HB0 hb1 hbx hbw
 go_wp2_with fail
 refine Calls.mono HJJ.out ?_
 rintro e w2 ⟨rfl,hb2⟩
 have hbf:=below_via HBW.out hb2
 clear HJJ HBW hb2
 go_wp2
 go_ret
 exact⟨rfl,hbf⟩
theorem text_any (q:List ByteArray)(hq:Good q)(w:World):Calls Tryz.prog 158 #[.agg (pathA q)] w fun e w'=>e=.returned (.string (joinB q))/\Below w.heap.size w w':=by
 have h5:=hq.len
 have hjs:=join_size hq.val
 refine text_walk _ _ _ _ _ q.length h5 q (joinB q) w rfl (fun W=>depth_any q hq.val h5 W) (fun W hb hbx=>?_)
 have hlt:w.heap.size<W.heap.size:=(Array.getElem?_eq_some_iff.1 hbx).1
 obtain⟨_,c0,c1,c2,c3,c4,_⟩:=cells5 hbx
 have hj:Lib.join (q.map (·.data.toList)) (⟨#[47]⟩:ByteArray).data.toList=joinL (q.map toL):=joinL_lib _
 have hsz:(joinL (q.map toL)).length<=65:=by
  have:(joinB q).size=(joinL (q.map toL)).length:=by
   show (joinL (q.map toL)).toArray.size=_
   simp
  omega
 have:=Tryz.strings_Join w.heap.size 0 5 q ⟨#[47]⟩ W (fun j x hx=>?_) hlt (by omega) h5 (by rw[hj];omega)
 ·rw[hj] at this
  exact this
 ·obtain⟨hj,rfl⟩:=List.getElem?_eq_some_iff.1 hx
  have h4:j=0\/j=1\/j=2\/j=3\/j=4:=by omega
  rw[Nat.zero_add]
  rcases h4 with rfl | rfl | rfl | rfl | rfl
  ·rw[c0];simp[List.getD,hx]
  ·rw[c1];simp[List.getD,hx]
  ·rw[c2];simp[List.getD,hx]
  ·rw[c3];simp[List.getD,hx]
  ·rw[c4];simp[List.getD,hx]
def FetchS (i:Nat)(t:Nat×Nat):Prop:=Fetches i t\/t=(0,1)
theorem fetchS0 {i:Nat}(hi:2<=i):¬ FetchS i (0,0):=by
 rintro ((h | h | h) | h)
 ·cases h
 ·cases h
 ·cases h
 ·cases h
abbrev Chg8:=ByteArray×Int
def encC (x:Chg8):List Value:=[.string x.1,.int .i64 x.2]
def flatC (l:List Chg8):List Value:=l.flatMap encC
theorem flatC_len (l:List Chg8):(flatC l).length=l.length*2:=by
 induction l with
 | nil=>rfl
 | cons x r ih=>unfold flatC at ih ⊢;rw[List.flatMap_cons,List.length_append,ih,List.length_cons];simp[encC];omega
theorem flatC_app (a b:List Chg8):flatC (a++b)=flatC a++flatC b:=by simp[flatC]
theorem infoC:(Tryz.prog.info? 58).map (fun i=>(i.zero,i.size,i.bytes))=some (some (.agg #[.string ByteArray.empty,.int .i64 0]),2,24):=by kernel_rfl
def encP (x:List ByteArray×Int):Chg8:=(joinB x.1,x.2)
def SurvAt (tg:Tags)(w:World)(sv bt dr ow:Nat)(L:List Chg8):Prop:=
 tg sv=(0,1)/\∃ a c,w.heap[sv]? = some (.cells #[ptr bt,ptr dr,.map (some ow),.slice a L.length c] 172 (0,0))/\w.ownsRow 0 58 2 (.slice a L.length c) L.length (flatC L)/\∀ b,(Value.slice a L.length c).ownBlock=some b->tg b=(0,1)
theorem SurvAt.moves {P:Nat×Nat->Prop}{tg tg':Tags}{w w':World}{sv bt dr ow:Nat}{L:List Chg8}(h:SurvAt tg w sv bt dr ow L)(m:Moves P tg tg' w w')(hn:¬ P (0,1)):SurvAt tg' w' sv bt dr ow L:=by
 obtain⟨ht,a,c,hb,hr,hg⟩:=h
 obtain⟨h1,h2⟩:=m.at hb ht hn
 exact⟨h2,a,c,h1,ownsRow_keep hr (fun g hgg=>m.block g (ownsRow_lt hr hgg) (by rw[hg g hgg];exact hn)),fun b hbb=>(m.tags b (ownsRow_lt hr hbb)).trans (hg b hbb)⟩
structure CSt (tg:Tags)(w:World)(s i p:Nat)(B:WB)(objs:List Ob)(g:WG)(lim:Nat)(sv dr ow:Nat)(t:LT)(a:List Ob)(L:List Chg8):Prop where
 inv:WInv tg w s i p B objs g lim
 surv:SurvAt tg w sv B.bt dr ow L
 map:∃ (f:List ByteArray->Option Int) (n:Nat),PMap w ow n (fun q=>(f q).map (Value.int .i64))/\∀ q,Memo objs (fcOf objs g.fl) t a f q
 tow:tg ow=(0,0)
 few:L.length<=lim
section
variable {s i p:Nat}{B:WB}{objs:List Ob}{sv dr ow:Nat}{t:LT}{a:List Ob}
theorem CSt.below {tg:Tags}{w w':World}{g:WG}{lim:Nat}{L:List Chg8}(h:CSt tg w s i p B objs g lim sv dr ow t a L)(hb:Below w.heap.size w w'):CSt tg w' s i p B objs g lim sv dr ow t a L:=by
 obtain⟨f,n,hm,hM⟩:=h.map
 exact⟨h.inv.below hb,h.surv.moves (Moves.of_below (P:=fun _=>False) hb) id,⟨f,n,hm.keep (hb.block ow hm.lt),hM⟩,h.tow,h.few⟩
theorem CSt.mono {tg:Tags}{w:World}{g:WG}{lim lim':Nat}{L:List Chg8}(h:CSt tg w s i p B objs g lim sv dr ow t a L)(hl:lim<=lim'):CSt tg w s i p B objs g lim' sv dr ow t a L:=⟨h.inv.mono hl,h.surv,h.map,h.tow,Nat.le_trans h.few hl⟩
def entO (nm:ByteArray):Option LT->Ent
 | none=>(⟨#[]⟩,0,0)
 | some c=>(nm,c.kind,c.id)
def entV (e:Ent):Value:=.agg #[.string e.1,.int .i64 e.2.1,.int .i64 e.2.2]
def insG (objs:List Ob)(fs:FS):Option LT->FS×Int×Kids
 | some (.own es)=>(fs,0,es)
 | some (.dir id)=>if (fs.dirG id).2 then ((fs.dirG id).1,0,(entsOf objs id).map kidOf) else ((fs.dirG id).1,14,[])
 | _=>(fs,0,[])
theorem insG_cases (objs:List Ob)(fs:FS)(o:Option LT):(fs.Next (insG objs fs o).1/\(insG objs fs o).2=(0,kidsO objs o))\/(fs.Fail (insG objs fs o).1/\(insG objs fs o).2=(14,[])):=by
 cases o with
 | none=>exact .inl ⟨FS.Next.refl _,rfl⟩
 | some c=>
  cases c with
  | file i=>exact .inl ⟨FS.Next.refl _,rfl⟩
  | held f=>exact .inl ⟨FS.Next.refl _,rfl⟩
  | own es=>exact .inl ⟨FS.Next.refl _,rfl⟩
  | dir id=>
   have e1:insG objs fs (some (.dir id))=if (fs.dirG id).2 then ((fs.dirG id).1,0,(entsOf objs id).map kidOf) else ((fs.dirG id).1,14,[]):=rfl
   rw[e1]
   rcases fs.dirG_cases id with ⟨h,hn,_⟩ | ⟨h,hf⟩
   ·rw[if_pos h];exact .inl ⟨hn,rfl⟩
   ·rw[if_neg (by rw[h];decide)];exact .inr ⟨hf,rfl⟩
theorem entO_ok {n:Nat}{o:Option LT}(h:OkO objs n o)(nm:ByteArray)(h2:(entO nm o).2.1=2):EntOk objs (entO nm o):=by
 cases o with
 | none=>cases h2
 | some c=>
  have hc:=h c rfl
  refine⟨lt_kind12 c,fun hid=>?_⟩
  cases c with
  | file id=>cases n <;> (rw[LTok] at hc;exact hc)
  | held f=>exact absurd rfl hid
  | dir id=>cases n <;> (rw[LTok] at hc;exact hc.1)
  | own es=>exact absurd rfl hid
theorem ents_ins (hS:Sound objs){t:LT}{ft:FT}(hF:Flat objs t ft){n:Nat}{o:Option LT}(hok:OkO objs n o){q:List ByteArray}(hat:∀ es,o=some (.own es)->t.at objs q=o)(fs:FS)(nm:ByteArray)(h2:(entO nm o).2.1=2):
  entsF objs ft fs q (entO nm o)=((insG objs fs o).1,(insG objs fs o).2.1,(insG objs fs o).2.2.map entOf):=by
 cases o with
 | none=>cases h2
 | some c=>
  unfold entsF
  rw[if_neg (fun h=>h h2)]
  cases c with
  | file id=>cases h2
  | held f=>cases h2
  | own es=>
   rw[if_pos (show (entO nm (some (.own es))).2.2=0 from rfl),hF.od q,hat es rfl]
   rfl
  | dir id=>
   have hc:=hok _ rfl
   have hk:kindOf objs id=2:=by cases n <;> (rw[LTok] at hc;exact hc.1)
   have hid:id≠0:=fun e=>by have:=(kindOf_pos (a:=objs) (id:=id) (by rw[hk];decide)).1;omega
   have hb:((entsOf objs id).map kidOf).map entOf=entsOf objs id:=ents_back (fun e he=>((hS.2 id hk).2.2 e he).2.1)
   rw[if_neg (show (entO nm (some (.dir id))).2.2≠0 from hid)]
   show (if (fs.dirG id).2 then _ else _)=_
   have e1:insG objs fs (some (.dir id))=if (fs.dirG id).2 then ((fs.dirG id).1,0,(entsOf objs id).map kidOf) else ((fs.dirG id).1,14,[]):=rfl
   rw[e1]
   split
   ·simp only[hb];rfl
   ·rfl
end
def kindO:Option LT->Int
 | none=>0
 | some c=>c.kind
def idO:Option LT->Int
 | none=>0
 | some c=>c.id
def objO (f:List ByteArray->Option Int)(q:List ByteArray)(c:LT):Int:=if c.id≠0 then c.id else (f q).getD 0
def StoredO (o:Option LT):Prop:=∀ c,o=some c->(∃ i,c=.file i)\/∃ i,c=.dir i
def noteT (T:ByteArray)(is was:Bool):List Chg8:=if is then (if was then [(T,2)] else [(T,1)]) else if was then [(T,3)] else []
section
variable {objs:List Ob}{fc fc':FileC}
theorem LTok_five {n:Nat}(hn:n<=5){c:LT}(h:LTok objs n c):LTok objs 5 c:=lt_mono n 5 hn h
theorem obj_test {a l:List Ob}(ha:a=objs++l)(hX:Exact a)(hO:Once a)(hS:Sound objs){t c u:LT}{f:List ByteArray->Option Int}{q:List ByteArray}(hm:Memo objs fc t a f q)(hat:t.at objs q=some c)(hc:LTok objs 5 c)(hu:LTok objs 5 u)(hst:(∃ i,u=.file i)\/∃ i,u=.dir i)(hk:c.kind=u.kind):
  objO f q c=u.id ↔ ∀ y,sem objs fc c y=sem objs fcE u y:=by
 have hua:LTok a 5 u:=by rw[ha];exact LTok_app l 5 _ hu
 have hsu:∀ y,sem a fcE u y=sem objs fcE u y:=fun y=>by rw[ha];exact sem_app hS l fcE y 5 _ hu
 have key:∀ id,LTok a 5 (refOf c.kind id)->SemEq a fcE (refOf c.kind id) objs fc c->(id=u.id ↔ ∀ y,sem objs fc c y=sem objs fcE u y):=fun id h1 h2=>by
  rw[obj_iff hX hO h1 h2 hua hst hk]
  exact⟨fun h y=>(h y).trans (hsu y),fun h y=>(h y).trans (hsu y).symm⟩
 unfold objO
 by_cases hid:c.id=0
 ·rw[if_neg (fun h=>h hid)]
  obtain⟨id,h1,h2,h3⟩:=hm c hat hid
  rw[h1,Option.getD_some]
  exact key id h2 h3
 ·rw[if_pos hid]
  have hcs:(∃ i,c=.file i)\/∃ i,c=.dir i:=by
   cases c with
   | file i=>exact .inl ⟨i,rfl⟩
   | dir i=>exact .inr ⟨i,rfl⟩
   | held f=>exact absurd rfl hid
   | own es=>exact absurd rfl hid
  have hre:refOf c.kind c.id=c:=by rcases hcs with ⟨i,rfl⟩ | ⟨i,rfl⟩ <;> rfl
  refine key c.id (by rw[hre,ha];exact LTok_app l 5 _ hc) (fun y=>?_)
  rw[hre,ha,sem_app hS l fcE y 5 _ hc]
  exact stored_fc hcs fcE fc y
theorem kind_sem {now was:Option LT}(h:∀ y,semO objs fc now y=semO objs fc' was y):kindO now=kindO was:=by
 have h0:=h []
 cases now with
 | none=>
  cases was with
  | none=>rfl
  | some u=>simp only[semO,Option.bind_none,Option.bind_some,sem_nil] at h0;cases h0
 | some c=>
  cases was with
  | none=>simp only[semO,Option.bind_none,Option.bind_some,sem_nil] at h0;cases h0
  | some u=>exact nd_kind (sem_nd (show sem objs fc c []=sem objs fc' u [] from h0))
theorem cmp_same {n:Nat}{q:List ByteArray}{now was:Option LT}(h:∀ y,semO objs fc now y=semO objs fc' was y):cmpL objs fc fc' n q now was = []:=by
 cases n <;> rw[cmpL,if_pos h]
theorem kidsO_nil (hS:Sound objs){o:Option LT}(h:OkO objs 0 o):kidsO objs o = []:=by
 cases hk:kidsO objs o with
 | nil=>rfl
 | cons x r=>obtain⟨k,e,_⟩:=(kidsO_ok hS h).2 x (by rw[hk];exact List.mem_cons_self ..);omega
theorem cmp_diff (hS:Sound objs){n:Nat}{q:List ByteArray}{now was:Option LT}(hn:OkO objs n now)(hw:OkO objs n was)(h:¬ ∀ y,semO objs fc now y=semO objs fc' was y):
  cmpL objs fc fc' n q now was=noteL q (fileO (semO objs fc now [])) (fileO (semO objs fc' was []))++((kidsO objs now).flatMap (fun x=>cmpL objs fc fc' (n-1) (q ++ [x.1]) (some x.2) (pickK (kidsO objs was) x.1))++((kidsO objs was).filter fun x=>(pickK (kidsO objs now) x.1).isNone).flatMap (fun x=>cmpL objs fc fc' (n-1) (q ++ [x.1]) none (some x.2))):=by
 cases n with
 | zero=>rw[cmpL,if_neg h,kidsO_nil hS hn,kidsO_nil hS hw];simp
 | succ n=>rw[cmpL,if_neg h];rfl
theorem file_kind (o:Option LT):(fileO (semO objs fc o [])).isSome=decide (kindO o=1):=by
 cases o with
 | none=>rfl
 | some c=>
  show (fileO (sem objs fc c [])).isSome=_
  rw[sem_nil]
  cases c <;> rfl
theorem note_eq (q:List ByteArray)(x y:Option ByteArray):(noteL q x y).map encP=noteT (joinB q) x.isSome y.isSome:=by
 cases x <;> cases y <;> rfl
theorem note_kinds (q:List ByteArray)(now was:Option LT):(noteL q (fileO (semO objs fc now [])) (fileO (semO objs fc' was []))).map encP=noteT (joinB q) (decide (kindO now=1)) (decide (kindO was=1)):=by
 rw[note_eq,file_kind,file_kind]
theorem filter_take {α β:Type}(p:α->Bool)(h:α->List β)(l:List α){k:Nat}(hk:k<l.length):((l.take (k+1)).filter p).flatMap h=((l.take k).filter p).flatMap h++(if p l[k] then h l[k] else []):=by
 rw[List.take_succ_eq_append_getElem hk,List.filter_append,List.flatMap_append]
 by_cases hp:p l[k]=true
 ·simp[hp]
 ·simp[hp]
theorem flat_take {α β:Type}(h:α->List β)(l:List α){k:Nat}(hk:k<l.length):(l.take (k+1)).flatMap h=(l.take k).flatMap h++h l[k]:=by
 rw[List.take_succ_eq_append_getElem hk,List.flatMap_append];simp
theorem kidsO_few (hS:Sound objs){n:Nat}{o:Option LT}(h:OkO objs n o):(kidsO objs o).length<=16:=by
 cases o with
 | none=>exact Nat.zero_le _
 | some c=>
  unfold kidsO
  cases hk:kids objs c with
  | none=>simp[hk]
  | some ks=>simp only[Option.bind_some,hk,Option.getD_some];exact (ok_kids hS (h c rfl) hk).2.1
theorem kidsO_valid (hS:Sound objs){n:Nat}{o:Option LT}(h:OkO objs n o):∀ x ∈ kidsO objs o,validB x.1=true:=by
 cases o with
 | none=>intro x hx;cases hx
 | some c=>
  unfold kidsO
  cases hk:kids objs c with
  | none=>intro x hx;simp[hk] at hx
  | some ks=>simp only[Option.bind_some,hk,Option.getD_some];exact fun x hx=>((ok_kids hS (h c rfl) hk).2.2 x hx).1
theorem stored_kidO {o:Option LT}(h:StoredO o)(x:ByteArray):StoredO (pickK (kidsO objs o) x):=by
 intro c hc
 cases o with
 | none=>cases hc
 | some u=>
  rcases h u rfl with ⟨i,rfl⟩ | ⟨i,rfl⟩
  ·cases hc
  ·have hm:=pick_in8 hc
   obtain⟨e,_,he⟩:=List.mem_map.1 (show (x,c) ∈ (entsOf objs i).map kidOf from hm)
   have e2:c=ltOf e:=by rw[<- show (kidOf e).2=ltOf e from rfl,he]
   rw[e2]
   unfold ltOf
   split
   ·exact .inr ⟨_,rfl⟩
   ·exact .inl ⟨_,rfl⟩
theorem at_kidO {t:LT}{q:List ByteArray}{o:Option LT}(hat:∀ c,o=some c->t.at objs q=some c){x:ByteArray}{c:LT}(hc:pickK (kidsO objs o) x=some c):t.at objs (q ++ [x])=some c:=by
 cases o with
 | none=>cases hc
 | some u=>
  rw[at_append,hat u rfl,Option.bind_some,at_cons]
  unfold kidsO at hc
  cases hk:kids objs u with
  | none=>simp only[Option.bind_some,hk,Option.getD_none] at hc;cases hc
  | some ks=>
   simp only[Option.bind_some,hk,Option.getD_some] at hc
   simp only[Option.bind_some,hc,at_nil]
def cB:Nat->Nat
 | 0=>3
 | n+1=>3+32*cB n
theorem cB_pos (n:Nat):3<=cB n:=by cases n <;> rw[cB] <;> omega
end
def pickE (es:List Ent)(n:ByteArray):Ent:=match getK es n with
 | none=>(⟨#[]⟩,0,0)
 | some c=>(n,c)
theorem tpick_none (la:Option Addr)(ln lc:Nat)(n:ByteArray)(ix:Int)(w:World)
  (hsea:∀ W,Below w.heap.size w W->Calls Tryz.prog 77 #[.slice la ln lc,.string n] W fun e w'=>e=.returned (.tuple #[.int .i64 ix,.bool false])/\Below W.heap.size W w'):
  Calls Tryz.prog 139 #[.slice la ln lc,.string n] w fun e w'=>e=.returned (.agg #[.string ⟨#[]⟩,.int .i64 0,.int .i64 0])/\Below w.heap.size w w':=by
 have hb0:Below w.heap.size w (w.alloc (.cells #[.string ByteArray.empty,.int .i64 0,.int .i64 0] 76)):=(Below.refl _ _).alloc (Nat.le_refl _) _
 have HS:Hid _:=hsea _ hb0
 have HB0:Hid _:=hb0
 clear hsea hb0
 go_enter Tryz.func139,Tryz.ntmps139
 go_wp2_with fail
 refine Calls.mono HS.out ?_
 rintro e w1 ⟨rfl,hb1⟩
 obtain⟨hc1,hf1⟩:=bcell hb1
 have hz1:w.heap.size<w1.heap.size:=Nat.lt_of_lt_of_le (by simp) hb1.size
 have h1:Below w.heap.size w w1:=below_via HB0.out hb1
 clear HS HB0
 go_wp2
 exact bodyPost_ret (v:=.agg #[.string ⟨#[]⟩,.int .i64 0,.int .i64 0]) (by simp[results,Tryz.results139,go_sem,hc1]) rfl ⟨rfl,by
  repeat (first | exact h1 | (refine Below.setCell ?_ (by simp) _))⟩
theorem tpick_some (gb ln lc k:Nat)(n:ByteArray)(y:Ent)(w:World)(hk:k<ln)(hl:ln<=16)(hg:gb<w.heap.size)
  (hc:w.cell? ⟨gb,k*3,none⟩=some (.string y.1)/\w.cell? ⟨gb,k*3+1,none⟩=some (.int .i64 y.2.1)/\w.cell? ⟨gb,k*3+2,none⟩=some (.int .i64 y.2.2))
  (hsea:∀ W,Below w.heap.size w W->Calls Tryz.prog 77 #[.slice (some ⟨gb,0,none⟩) ln lc,.string n] W fun e w'=>e=.returned (.tuple #[.int .i64 (k:Int),.bool true])/\Below W.heap.size W w'):
  Calls Tryz.prog 139 #[.slice (some ⟨gb,0,none⟩) ln lc,.string n] w fun e w'=>e=.returned (.agg #[.string y.1,.int .i64 y.2.1,.int .i64 y.2.2])/\Below w.heap.size w w':=by
 obtain⟨y0,y1,y2⟩:=hc
 have hb0:Below w.heap.size w (w.alloc (.cells #[.string ByteArray.empty,.int .i64 0,.int .i64 0] 76)):=(Below.refl _ _).alloc (Nat.le_refl _) _
 have HS:Hid _:=hsea _ hb0
 have HB0:Hid _:=hb0
 clear hsea hb0
 go_enter Tryz.func139,Tryz.ntmps139
 go_wp2_with fail
 refine Calls.mono HS.out ?_
 rintro e w1 ⟨rfl,hb1⟩
 obtain⟨hc1,hf1⟩:=bcell hb1
 have hz1:w.heap.size<w1.heap.size:=Nat.lt_of_lt_of_le (by simp) hb1.size
 have h1:Below w.heap.size w w1:=below_via HB0.out hb1
 clear HS HB0
 go_wp2
 exact bodyPost_ret (v:=.agg #[.string y.1,.int .i64 y.2.1,.int .i64 y.2.2]) (by simp[results,Tryz.results139,go_sem,hc1]) rfl ⟨rfl,by
  repeat (first | exact h1 | (refine Below.setCell ?_ (by simp) _))⟩
theorem tpick_any {w:World}{v:Value}{es:List Ent}(hrow:w.ownsRow 0 76 3 v es.length (flat es))(n:ByteArray)(hr:RisingK es)(hl:es.length<=16):
  Calls Tryz.prog 139 #[v,.string n] w fun e w'=>e=.returned (entV (pickE es n))/\Below w.heap.size w w':=by
 have hsea:∀ W,Below w.heap.size w W->Calls Tryz.prog 77 #[v,.string n] W fun e w'=>e=.returned (.tuple #[.int .i64 (idxK es n:Nat),.bool (thereK es n)])/\Below W.heap.size W w':=fun W hb=>
  search_any (ownsRow_keep hrow (fun g hg=>hb.block g (ownsRow_lt hrow hg))) n hr hl
 have hget:=getK_there (n:=n) hr
 unfold pickE
 cases ht:thereK es n with
 | false=>
  rw[ht] at hsea hget
  rw[hget]
  obtain⟨la,ln,lc,rfl⟩:∃ la ln lc,v=.slice la ln lc:=by
   rcases hrow.2 with ⟨e,_⟩ | ⟨g',c',_,e,_⟩
   ·exact⟨_,_,_,e⟩
   ·exact⟨_,_,_,e⟩
  exact tpick_none la ln lc n _ w hsea
 | true=>
  rw[ht] at hsea hget
  unfold thereK at ht
  cases hx:es[idxK es n]? with
  | none=>rw[hx] at ht;cases ht
  | some y=>
   rw[hx] at ht hget
   obtain⟨hk,hy⟩:=List.getElem?_eq_some_iff.1 hx
   obtain⟨gb,lc,rfl⟩:=slice_of_owns hrow (by omega)
   have hn:y.1=n:=by simpa using ht
   obtain⟨c0,c1,c2⟩:=row_cells (off:=0) (owns_cells hrow) hk
   rw[Nat.zero_add] at c0 c1 c2
   rw[hy] at c0 c1 c2
   have:=tpick_some gb es.length lc (idxK es n) n y w hk hl (ownsRow_lt hrow rfl) ⟨c0,c1,c2⟩ hsea
   have hp:(match getK es n with
    | none=>((⟨#[]⟩,0,0):Ent)
    | some c=>(n,c))=y:=by
    rw[hget,if_pos rfl,Option.map_some]
    show (n,y.2)=y
    rw[<- hn]
   rw[hp]
   exact this
theorem inside_not (sv:Nat)(s0 s1 s2 s3 s4 nm:ByteArray)(k id:Int)(w:World)(hk:k≠2):
  Calls Tryz.prog 138 #[.pointer (some ⟨sv,0,none⟩),.agg #[.string s0,.string s1,.string s2,.string s3,.string s4],.agg #[.string nm,.int .i64 k,.int .i64 id]] w fun e w'=>e=.returned (.tuple #[.slice none 0 0,.int .i64 0])/\Below w.heap.size w w':=by
 have hk':(k == 2)=false:=by simpa using hk
 have HB:Hid _:=(two_boxes w (.cells #[.string s0,.string s1,.string s2,.string s3,.string s4] 104) (.cells #[.string nm,.int .i64 k,.int .i64 id] 76)).1
 go_enter Tryz.func138,Tryz.ntmps138
 go_wp2
 go_ret2
 exact⟨rfl,HB.out⟩
theorem inside_dir (sv bt:Nat)(s0 s1 s2 s3 s4 nm:ByteArray)(id er:Int)(R:Value->World->World->Prop)(w:World)(hsv:sv<w.heap.size)(c0:w.cell? ⟨sv,0,none⟩=some (.pointer (some ⟨bt,0,none⟩)))
  (hen:∀ W,Below w.heap.size w W->Calls Tryz.prog 118 #[.pointer (some ⟨bt,0,none⟩),.agg #[.string s0,.string s1,.string s2,.string s3,.string s4],.agg #[.string nm,.int .i64 2,.int .i64 id]] W fun e w'=>∃ v,e=.returned (.tuple #[v,.int .i64 er])/\R v W w'):
  Calls Tryz.prog 138 #[.pointer (some ⟨sv,0,none⟩),.agg #[.string s0,.string s1,.string s2,.string s3,.string s4],.agg #[.string nm,.int .i64 2,.int .i64 id]] w fun e w'=>∃ v W,e=.returned (.tuple #[v,.int .i64 er])/\Below w.heap.size w W/\R v W w':=by
 obtain⟨hb0,hb1⟩:=two_boxes w (.cells #[.string s0,.string s1,.string s2,.string s3,.string s4] 104) (.cells #[.string nm,.int .i64 2,.int .i64 id] 76)
 have HE:Hid _:=hen _ hb1
 have HB:Hid _:=hb1
 clear hen hb0 hb1
 go_enter Tryz.func138,Tryz.ntmps138
 go_wp2
 go_region_with (go_at_call 118;refine Calls.mono HE.out ?_;rintro e w1 ⟨v,rfl,hR⟩)
 all_goals
  go_wp2
  go_ret2
  exact⟨v,_,rfl,HB.out,hR⟩
end Go.Proofs.YtajopoddmfdejaaGreat
