/- What is proved here: the law's step GetDir. -/
import Derived.Test.YtlgidcmmgohagaaGreatFileM08
import Derived.Deep.RegionLaw
namespace Go.Proofs.YtlgidcmmgohagaaGreat
open Go.RowKit Go.Sort Go.Shelf Go.Proofs.Tryz
set_option linter.unusedVariables false
set_option maxRecDepth 100000
set_option maxHeartbeats 16000000
variable {ft:PTp}
theorem eqlRun {t:TypeId}(P:Program)(W:World)(x y:Ent)(h:(binOp .eql t (.agg #[.string x.1,.int .i64 x.2.1,.int .i64 x.2.2]) (.agg #[.string y.1,.int .i64 y.2.1,.int .i64 y.2.2])).run P W=(if x.fst.toList=y.fst.toList then
   if x.snd.fst=y.snd.fst then
    if x.snd.snd=y.snd.snd then Result.ok (Value.bool true) W else Result.ok (Value.bool false) W
   else Result.ok (Value.bool false) W
  else Result.ok (Value.bool false) W)):(binOp .eql t (.agg #[.string x.1,.int .i64 x.2.1,.int .i64 x.2.2]) (.agg #[.string y.1,.int .i64 y.2.1,.int .i64 y.2.2])).run P W=.ok (.bool (decide (x=y))) W:=by
 rw[h];by_cases e:x=y
 ·subst e;simp
 ·rw[zzE e]
  split
  ·next h1=>
   split
   ·next h2=>
    split
    ·next h3=>exact absurd (Prod.ext (bytes_eq h1) (Prod.ext h2 h3)) e
    ·rfl
   ·rfl
  ·rfl
theorem eqlEntry (W:World)(x y:Ent):(binOp .eql 96 (.agg #[.string x.1,.int .i64 x.2.1,.int .i64 x.2.2]) (.agg #[.string y.1,.int .i64 y.2.1,.int .i64 y.2.2])).run prog W=.ok (.bool (decide (x=y))) W:=by
 refine eqlRun _ W x y ?_
 go_simp
section
variable {FL FR FS FH:Nat->Prop}{w:World}{W s r:Nat}{objs ros:List Ob}{c5 c6 c7 c8 c9 c10 c11:Value}{ea:Option Addr}{ec q:Nat}{hs:List HeldL}
theorem w3_learn (h:W3 ft FL FR FS w W s r objs ros c5 c6 c7 c8 c9 c10 c11)(j:Nat)(hj:j<objs.length):
  Calls prog 37 #[.pointer (some ⟨W,0,none⟩),.int .i64 (j:Int),.int .i64 ((j:Int)+1)] w fun e w'=>e=.returned (.bool true)/\W3 ft (NewF FL w w') FR FS w' W s r objs ros c5 c6 c7 c8 c9 c10 c11/\Keeps FL w w':=by
 have hsep:=h.sep;have sep':∀w':World,Keeps FL w w'->Sep w' (NewF FL w w') FR FS:=fun w' hk=>⟨fun k hk'=>by rcases hk' with h | h;exact zzA (hsep.ll k h) hk.size;exact h.2,
   fun k hk'=>⟨zzA (hsep.rl k hk').1 hk.size,fun h=>by rcases h with h | h;exact (hsep.rl k hk').2 h;have:=(hsep.rl k hk').1;omega⟩,
   fun k hk'=>⟨zzA (hsep.sl k hk').1 hk.size,fun h=>by rcases h with h | h;exact (hsep.sl k hk').2 h;have:=(hsep.sl k hk').1;omega⟩,hsep.rs⟩
 exact (learns_known h.law h.ref hsep.rl h.twin.1.symm h.at_ j hj).mono fun e w' ⟨he,hls,hk⟩=>⟨he,⟨hls,ref_stays h.ref hsep.rl hk,InvQ.keep h.sto (fun _ h=>h) (fun k hk'=>hk.block k (hsep.sl k hk').1 (hsep.sl k hk').2),h.twin,h.at_,sep' w' hk⟩,hk⟩
theorem getDir_no {F:Nat->Prop}(h:InvQ ft F w s objs)(x:Int)(hk:kindOf objs x≠2):
  Calls prog 43 #[.pointer (some ⟨s,0,none⟩),.int .i64 x] w fun e w'=>e=.returned (.tuple #[.slice none 0 0,.int .i64 13])/\Below w.heap.size w w':=by
 refine (storeGetDirQ h x).mono fun e w' ⟨hf,hb⟩=>⟨?_,hb⟩;rcases hf with ⟨_,h1⟩ | ⟨j,hj,he,h2,_⟩
 ·exact h1
 ·rw[he,kindOf_in hj] at hk;exact absurd h2 hk
theorem w3_where (W s r:Nat)(objs ros:List Ob)(c5 c6 c7 c8 c9 c10 c11:Value)(x:Int)(hx:kindOf objs x≠2):∃pz kz:Int,kz≠2/\∀{FL FR FS:Nat->Prop} (w:World),W3 ft FL FR FS w W s r objs ros c5 c6 c7 c8 c9 c10 c11->
  Calls prog 41 #[.pointer (some ⟨W,0,none⟩),.int .i64 x] w (fun e w'=>e=.returned (.int .i64 pz)/\w'=w)/\Calls prog 42 #[.pointer (some ⟨W,0,none⟩),.int .i64 pz] w (fun e w'=>e=.returned (.int .i64 kz)/\w'=w):=by
 by_cases hN:x<1\/(objs.length:Int)<x
 ·exact⟨-1,0,by decide,fun w h=>⟨w3_noplace h x hN,wkind_neg (-1) (by decide)⟩⟩
 ·obtain⟨j,rfl⟩:∃j:Nat,x=(j:Int)+1:=⟨(x-1).toNat,by omega⟩
  have hj:j<objs.length:=by omega
  rw[kindOf_in hj] at hx;exact⟨j,objs[j].kind,hx,fun w h=>⟨w3_place h j hj,w3_kind h j hj⟩⟩
theorem getDir_none (h:W3 ft FL FR FS w W s r objs ros c5 c6 c7 c8 (.slice ea (4*q) ec) c10 c11)(hh:Held FH w ea ec q hs)(hap:∀k,FH k->¬F3 FL FR FS k)(hq:4*q<=1000000000)(a1 N a3:Int)(S T:ByteArray)(la:Option Addr)(lm lc:Nat)(hN:kindOf objs N≠2):
  Calls prog 20 #[.pointer (some ⟨W,0,none⟩),.agg #[.int .i64 4,.int .i64 a1,.int .i64 N,.int .i64 a3,.string S,.string T,.slice la lm lc]] w fun e w'=>e=.returned (.bool true)/\Played ft FL FR FS FH w w' W s r (q+1) c5 c6 c7 c8 c10 c11:=by
 obtain⟨k0,k1,hWl,hFW⟩:=h.law.cells;obtain⟨b0,b1',b2,b3,b4,hW⟩:=h.block;have b1:∀B,Below w.heap.size w (w.alloc B):=fun B=>(Below.refl _ _).alloc (zzC _) _;have bb:∀B W2,Below (w.alloc B).heap.size (w.alloc B) W2->Below w.heap.size w W2:=fun B W2 hb=>(b1 B).trans (hb.mono (by simp));have hid:=fun B=>w3_id (h.below (b1 B)) N;have hget:=fun B=>getDir_no (h.below (b1 B)).sto N hN;obtain⟨pz,kz,hkz,hwh⟩:=w3_where W s r objs ros c5 c6 c7 c8 (.slice ea (4*q) ec) c10 c11 N hN;have hpl:=fun B W2 (hb:Below (w.alloc B).heap.size (w.alloc B) W2)=>(hwh W2 (h.below (bb B W2 hb))).1;have hkd:=fun B W2 (hb:Below (w.alloc B).heap.size (w.alloc B) W2)=>(hwh W2 (h.below (bb B W2 hb))).2;have hnum:=fun (e:Int) (W':World)=>num_any e W';have hke:=fun B W2 (hb:Below (w.alloc B).heap.size (w.alloc B) W2)=>keepEntries_any W q #[b0,b1',b2,b3,b4,c5,c6,c7,c8,.slice ea (4*q) ec,c10,c11] ea ec 0 none hs W2 (((bb B W2 hb).block W hWl).trans hW) rfl hh.len hq (ownsRow_keep hh.row (fun g hg=>(bb B W2 hb).block g (ownsRow_lt hh.row hg))) (by omega) ⟨fun _=>rfl,fun b h=>by cases h⟩;have HF:Hid (∀B W2 W3',Below (w.alloc B).heap.size (w.alloc B) W2->KeptOne W2 W3' W q #[b0,b1',b2,b3,b4,c5,c6,c7,c8,.slice ea (4*q) ec,c10,c11] ea ec none 0 hs->Played ft FL FR FS FH w W3' W s r (q+1) c5 c6 c7 c8 c10 c11):=fun B W2 W3' hb hk=>by
  have hbw:=bb B W2 hb;obtain⟨FH',ea',ec',hs',n1,n2,n3,n4,n5⟩:=kept_next (h.below hbw) (hh.keep (fun k hk=>hbw.block k (hh.lt k hk)) hbw.size) hap (zzF _) (fun g hg=>by cases hg) (fun _=>rfl) ((hbw.block W hWl).trans hW) hk;refine⟨FL,FR,FS,FH',objs,ros,ea',ec',hs',n1,n2,n3,Sub3.refl,fun k e=>?_,⟨n5.os.trans hbw.os,n5.tape.trans hbw.tape,n5.output.trans hbw.output,zzG hbw.size n5.size,fun k hk hn=>?_⟩⟩
  ·rcases n4 k e with e | e | e
   ·exact .inl e
   ·exact .inr (zzG hbw.size e)
   ·cases e
  ·rw[n5.block k (zzA hk hbw.size) ?_]
   ·exact hbw.block k hk
   ·rintro (e | e | e)
    ·exact hn (.inl (.inl (e ▸ hFW)))
    ·exact hn (.inr e)
    ·cases e
 have hkz':(kz == 2)=false:=by simpa using hkz
 have HI:Hid _:=hid;have HG:Hid _:=hget;have HP:Hid _:=hpl;have HK:Hid _:=hkd;have HN:Hid _:=hnum;have HE:Hid _:=hke;clear hid hget hpl hkd hnum h hh hap hwh hke hW hN hkz;go_enter func20,ntmps20;go_wp2_with (first
  | (go_at_call 39;refine Calls.mono (HI.out _) ?_;rintro _ _ ⟨rfl,rfl⟩)
  | (go_at_call 43;refine Calls.mono (HG.out _) ?_;rintro _ w2 ⟨rfl,hb2⟩;have hWl2:=zzA hWl (bb _ _ hb2).size)
  | (go_at_call 41;refine Calls.mono (HP.out _ _ hb2) ?_;rintro _ _ ⟨rfl,rfl⟩)
  | (go_at_call 42;refine Calls.mono (HK.out _ _ hb2) ?_;rintro _ _ ⟨rfl,rfl⟩)
  | (go_at_call 22;refine Calls.mono (HN.out _ _) ?_;rintro _ _ ⟨rfl,rfl⟩)
  | (go_at_call 44;refine Calls.mono (HE.out _ _ hb2) ?_;rintro _ w4 ⟨rfl,hk4⟩;have HK4:=HF.out _ _ _ hb2 hk4;clear hk4;have HK5:Hid _:=HK4;clear HK4))
 go_ret;exact⟨rfl,HK5.out⟩
theorem W3.items (h:W3 ft FL FR FS w W s r objs ros c5 c6 c7 c8 c9 c10 c11)(j:Nat)(hj:j<objs.length)(hk:objs[j].kind=2):∃g cap ia ic,w.cell? ⟨r,0,none⟩=some (.slice (some ⟨g,0,none⟩) objs.length cap)/\r<w.heap.size/\g<w.heap.size/\
  w.cell? ⟨g,j*4+2,none⟩=some (.slice ia objs[j].ents.length ic)/\w.ownsRow 0 112 3 (.slice ia objs[j].ents.length ic) objs[j].ents.length (flat (objs[j].ents.map toItem)):=by
 have hf:=h.few;have hx:=(h.twin.2.1 j hj (by omega)).ents hk;obtain⟨a,cap,hr⟩:=h.ref;have hjr:j<ros.length:=by omega
 obtain⟨g,rfl,hg,q0,q1,q2,q3⟩:=row_obs hr.row rfl hjr;have hob:=hr.obs _ (zzJ hjr);have hle:objs[j].ents.length=ros[j].el:=by rw[<-hob.len,hx,List.length_map]
 refine⟨g,cap,ros[j].ea,ros[j].ec,?_,hr.lt,hg,?_,?_⟩
 ·rw[<-hf.2];exact hr.c0
 ·rw[hle];exact q2
 ·rw[hle,<-hx];exact hob.row
theorem W3.few16 (h:W3 ft FL FR FS w W s r objs ros c5 c6 c7 c8 c9 c10 c11)(j:Nat)(hj:j<objs.length)(hk:objs[j].kind=2):objs[j].ents.length<=16/\∀e ∈ objs[j].ents,1<=e.2.2/\e.2.2<=(j:Int):=by
 have hf:=h.few;have hx:=(h.twin.2.1 j hj (by omega)).ents hk;have hat:=h.at_ j (by omega);obtain⟨a,cap,hr⟩:=h.ref;have hjr:j<ros.length:=by omega
 have hob:=hr.obs _ (zzJ hjr);have hle:objs[j].ents.length=ros[j].el:=by rw[<-hob.len,hx,List.length_map]
 refine⟨by rw[hle];exact hob.few,fun e he=>?_⟩;rw[hx] at hat
 have:0<=e.2.2-1/\e.2.2-1<(j:Int):=hat (toItem e) (List.mem_map_of_mem he)
 omega
theorem W3.ids (h:W3 ft FL FR FS w W s r objs ros c5 c6 c7 c8 c9 c10 c11)(i:Nat)(hi:i<objs.length):∃g c,w.cell? ⟨W,2,none⟩=some (.slice (some ⟨g,0,none⟩) objs.length c)/\g<w.heap.size/\w.cell? ⟨g,i,none⟩=some (.int .i64 ((i:Int)+1)):=by
 obtain⟨ia,_,_,ic,_,_,_,hl,_⟩:=h.law;obtain⟨g,rfl,hgl,cc,_⟩:=row_one hl.rowI (i:=i) (v:=.int .i64 ((i:Int)+1)) (by simp[encI,idsN_get hi]);refine⟨g,ic,?_,hgl,cc⟩
 have:=hl.c2
 rw[idsN_len] at this;exact this
end
variable {ft:PTp}
section
variable {FL FR FS FH:Nat->Prop}{w:World}{W s r:Nat}{objs ros:List Ob}{c5 c6 c7 c8 c9 c10 c11:Value}{ea:Option Addr}{ec q:Nat}{hs:List HeldL}
theorem getDir_end {w2 w3 wr w4:World}{gl m:Nat}{a0 a1 a2 a3 a4:Value}(h:W3 ft FL FR FS w W s r objs ros c5 c6 c7 c8 (.slice ea (4*q) ec) c10 c11)(hh:Held FH w ea ec q hs)(hap:∀k,FH k->¬F3 FL FR FS k)(hm:m<=16)
  (hb2:Below w.heap.size w w2)(hgl:w.heap.size<=gl/\gl<w2.heap.size)(h3:W3 ft (NewF FL w2 w3) FR FS w3 W s r objs ros c5 c6 c7 c8 (.slice ea (4*q) ec) c10 c11)(hk3:Keeps FL w2 w3)(hbr:Below w3.heap.size w3 wr)
  (hW:wr.heap[W]? = some (.cells #[a0,a1,a2,a3,a4,c5,c6,c7,c8,.slice ea (4*q) ec,c10,c11] 71 (0,0)))(hk:KeptOne wr w4 W q #[a0,a1,a2,a3,a4,c5,c6,c7,c8,.slice ea (4*q) ec,c10,c11] ea ec (some ⟨gl,0,none⟩) m hs):
  Played ft FL FR FS FH w w4 W s r (q+1) c5 c6 c7 c8 c10 c11:=by
 have z2:=hb2.size;have z3:=hk3.size;have zr:=hbr.size;have fW:FL W:=by obtain⟨_,_,_,_,_,_,_,hl,_⟩:=h.law;exact hl.fw
 have lt3:∀k,F3 FL FR FS k->k<w.heap.size:=fun k hk=>by
  rcases hk with h1 | h1 | h1
  ·exact h.sep.ll k h1
  ·exact (h.sep.rl k h1).1
  ·exact (h.sep.sl k h1).1
 have hap':∀k,FH k->¬F3 (NewF FL w2 w3) FR FS k:=fun k hk hf=>by
  have:=hh.lt k hk
  rcases hf with (h1 | h1) | h1 | h1
  ·exact hap k hk (.inl h1)
  ·have:=h1.1;omega
  ·exact hap k hk (.inr (.inl h1))
  ·exact hap k hk (.inr (.inr h1))
 have hhr:Held FH wr ea ec q hs:=hh.keep (fun k hk=>by
  have:=hh.lt k hk
  rw[hbr.block k (by omega),hk3.block k (by omega) (fun hf=>hap k hk (.inl hf)),hb2.block k this]) (by omega)
 obtain⟨FH',ea',ec',hs',n1,n2,n3,n4,n5⟩:=kept_next (la:=some ⟨gl,0,none⟩) (m:=m) (h3.below hbr) hhr hap' hm (fun g hg=>by
  obtain rfl:gl=g:=by simpa [Value.ownBlock] using hg
  refine⟨fun hf=>?_,fun hf=>by have:=hh.lt gl hf;omega,by omega⟩;rcases hf with (h1 | h1) | h1 | h1
  ·have:=lt3 gl (.inl h1);omega
  ·have:=h1.1;omega
  ·have:=lt3 gl (.inr (.inl h1));omega
  ·have:=lt3 gl (.inr (.inr h1));omega) (fun e=>by cases e) hW hk
 refine⟨NewF FL w2 w3,FR,FS,FH',objs,ros,ea',ec',hs',n1,n2,n3,fun k=>⟨fun h1=>?_,.inl,.inl⟩,fun k e=>?_,⟨n5.os.trans (hbr.os.trans (hk3.os.trans hb2.os)),n5.tape.trans (hbr.tape.trans (hk3.tape.trans hb2.tape)),n5.output.trans (hbr.output.trans (hk3.output.trans hb2.output)),by have:=n5.size;omega,fun k hk hn=>?_⟩⟩
 ·rcases h1 with h1 | h1
  ·exact .inl h1
  ·exact .inr (by have:=h1.1;omega)
 ·rcases n4 k e with e | e | e
  ·exact .inl e
  ·exact .inr (by omega)
  ·obtain rfl:k=gl:=by simpa [Value.ownBlock] using e
   exact .inr hgl.1
 ·rw[n5.block k (by omega) ?_,hbr.block k (by omega),hk3.block k (by omega) (fun hf=>hn (.inl (.inl hf))),hb2.block k hk]
  rintro (e | e | e)
  ·exact hn (.inl (.inl (e ▸ fW)))
  ·exact hn (.inr e)
  ·have:k=gl:=by simpa [Value.ownBlock] using e
   omega
theorem getDir_mid {w2 w3:World}{gl m base:Nat}{es:List Ent}(h:W3 ft FL FR FS w W s r objs ros c5 c6 c7 c8 c9 c10 c11)(ho:w2.ownsRow base 96 3 (.slice (some ⟨gl,0,none⟩) m m) m (flat es))(hb:Below w.heap.size w w2)(h3:W3 ft (NewF FL w2 w3) FR FS w3 W s r objs ros c5 c6 c7 c8 c9 c10 c11)(hk:Keeps FL w2 w3)(hbase:w.heap.size<=base:=by simp):
  w3.ownsRow 0 96 3 (.slice (some ⟨gl,0,none⟩) m m) m (flat es)/\∃w2,Below w.heap.size w w2/\(w.heap.size<=gl/\gl<w2.heap.size)/\W3 ft (NewF FL w2 w3) FR FS w3 W s r objs ros c5 c6 c7 c8 c9 c10 c11/\Keeps FL w2 w3:=by
 obtain⟨l1,l2⟩:=ho.lt gl rfl;refine⟨ownsRow_keep (owns_mono ho (zzF _)) (fun x hx=>?_),w2,hb,⟨by omega,l2⟩,h3,hk⟩;obtain rfl:gl=x:=by simpa [Value.ownBlock] using hx
 exact hk.block gl l2 (fun hf=>by have:=h.sep.ll gl hf;omega)
theorem getDir_dir (h:W3 ft FL FR FS w W s r objs ros c5 c6 c7 c8 (.slice ea (4*q) ec) c10 c11)(hh:Held FH w ea ec q hs)(hap:∀k,FH k->¬F3 FL FR FS k)(hq:4*q<=1000000000)(a1 a3:Int)(S T:ByteArray)(la:Option Addr)(lm lc:Nat)(j:Nat)(hj:j<objs.length)(hk:objs[j].kind=2):
  Calls prog 20 #[.pointer (some ⟨W,0,none⟩),.agg #[.int .i64 4,.int .i64 a1,.int .i64 ((j:Int)+1),.int .i64 a3,.string S,.string T,.slice la lm lc]] w fun e w'=>e=.returned (.bool true)/\Played ft FL FR FS FH w w' W s r (q+1) c5 c6 c7 c8 c10 c11:=by
 obtain⟨k0,k1,hWl,hFW⟩:=h.law.cells;obtain⟨hm16,hat⟩:=h.few16 j hj hk;have hn400:=h.few.1;have b1:∀B,Below w.heap.size w (w.alloc B):=fun B=>(Below.refl _ _).alloc (zzC _) _;have bb:∀B W2,Below (w.alloc B).heap.size (w.alloc B) W2->Below w.heap.size w W2:=fun B W2 hb=>(b1 B).trans (hb.mono (by simp));have hid:=fun B=>w3_id (h.below (b1 B)) ((j:Int)+1);have hget:=fun B=>getDir_at (h.below (b1 B)).sto j hj hk;have hpl:=fun B W2 (hb:Below (w.alloc B).heap.size (w.alloc B) W2)=>w3_place (h.below (bb B W2 hb)) j hj;have hkd:=fun B W2 (hb:Below (w.alloc B).heap.size (w.alloc B) W2)=>w3_kind (h.below (bb B W2 hb)) j hj;rw[hk] at hkd;have hln:=fun B W2 (hb:Below (w.alloc B).heap.size (w.alloc B) W2)=>w3_learn (h.below (bb B W2 hb)) j hj;have hnum:=fun (e:Int) (W':World)=>num_any e W';have HIT:Hid (∀{FL FR FS:Nat->Prop} (w:World),W3 ft FL FR FS w W s r objs ros c5 c6 c7 c8 (.slice ea (4*q) ec) c10 c11->_):=fun w h=>W3.items h j hj hk;have HID:Hid (∀{FL FR FS:Nat->Prop} (w:World),W3 ft FL FR FS w W s r objs ros c5 c6 c7 c8 (.slice ea (4*q) ec) c10 c11->∀i,i<objs.length->_):=fun w h i hi=>W3.ids h i hi;have HH:Hid (Held FH w ea ec q hs):=hh;have HAP:Hid (∀k,FH k->¬F3 FL FR FS k):=hap;have H0:Hid (W3 ft FL FR FS w W s r objs ros c5 c6 c7 c8 (.slice ea (4*q) ec) c10 c11):=h;obtain⟨es,hes⟩:∃es,es=objs[j].ents:=⟨_,rfl⟩;rw[<-hes] at hget hm16 hat HIT;obtain⟨m,hmm⟩:∃m,m=es.length:=⟨_,rfl⟩;rw[<-hmm] at hget hm16 HIT;obtain⟨n,hnn⟩:∃n,n=objs.length:=⟨_,rfl⟩;rw[<-hnn] at HIT HID hn400;have hjn:(j:Int)<(n:Int):=by omega
 have hjn':j<n:=by omega
 have HM:Hid (m=es.length):=hmm;have HAT:Hid (∀e ∈ es,1<=e.2.2/\e.2.2<=(j:Int)):=hat;have HI:Hid _:=hid;have HG:Hid _:=hget;have HP:Hid _:=hpl;have HK:Hid _:=hkd;have HN:Hid _:=hnum;have HLN:Hid _:=hln;have HBB:Hid (∀B W2,Below (w.alloc B).heap.size (w.alloc B) W2->Below w.heap.size w W2):=bb;clear hid hget hpl hkd hnum h hh hap hln hes hmm hnn hat hk hj bb;go_enter func20,ntmps20;go_wp2_with (first
  | (go_at_call 39;refine Calls.mono (HI.out _) ?_;rintro _ _ ⟨rfl,rfl⟩)
  | (go_at_call 43;refine Calls.mono (HG.out _) ?_;rintro _ w2 ⟨gl,rfl,hown2,hb2⟩;have HO2:Hid _:=hown2;clear hown2;have HB2:Hid (Below w.heap.size w w2):=HBB.out _ _ hb2)
  | (go_at_call 41;refine Calls.mono (HP.out _ _ hb2) ?_;rintro _ _ ⟨rfl,rfl⟩)
  | (go_at_call 42;refine Calls.mono (HK.out _ _ hb2) ?_;rintro _ _ ⟨rfl,rfl⟩)
  | (go_at_call 22;refine Calls.mono (HN.out _ _) ?_;rintro _ _ ⟨rfl,rfl⟩)
  | (go_at_call 37;refine Calls.mono (HLN.out _ _ hb2) ?_;rintro _ w3 ⟨rfl,h3,hk3⟩;have HALL:Hid _:=getDir_mid H0.out HO2.out HB2.out h3 hk3;have H3:Hid (∃FL',W3 ft FL' FR FS w3 W s r objs ros c5 c6 c7 c8 (.slice ea (4*q) ec) c10 c11):=⟨_,h3⟩;obtain⟨m0,m1,mW,_⟩:=LawS.cells h3.law;obtain⟨g,cap,ia,ic,o0,orl,ogl,o2,o9⟩:=HIT.out _ h3;clear h3 hk3))
 clear HO2 HB2 hb2 HI HG HP HK HN HLN HBB b1 k0 k1 o0 o2 orl ogl o9 m0 m1
 go_loopw [19,20] (fun o i wr=>∃k:Nat,k<=m/\o=.bool true/\i=.int .i64 (k:Int)/\Below w3.heap.size w3 wr) (fun _ i _=>m-(intOf i).toNat)
 case atStart=>exact⟨0,zzF _,rfl,rfl,Below.refl _ _⟩
 case round=>
  obtain⟨k,hk,rfl,rfl,hb⟩:=hrel;obtain⟨FL',h3⟩:=H3.out;have hr:=h3.below hb;have HR:Hid (W3 ft FL' FR FS wr W s r objs ros c5 c6 c7 c8 (.slice ea (4*q) ec) c10 c11):=hr;obtain⟨_,m1,mWr,_⟩:=LawS.cells hr.law;by_cases hlt:k<m
  ·have hke:k<es.length:=by rw[<-HM.out];exact hlt
   obtain⟨g,cap,ia,ic,o0,orl,ogl,o2,o3⟩:=HIT.out _ hr;obtain⟨gi,ci,hvi⟩:=slice_of_owns o3 (by omega);rw[(Value.slice.inj hvi).1] at o2 o3;have hgil:=ownsRow_lt o3 rfl;obtain⟨i0,i1,i2⟩:=row_cells (off:=0) (owns_cells o3) (i:=k) (by simpa using hke);rw[Nat.zero_add,List.getElem_map] at i0 i1 i2;obtain⟨x,hx⟩:∃x,x=es[k]:=⟨_,rfl⟩;have HX:Hid (x=es[k]):=hx;rw[<-hx] at i0 i1 i2;obtain⟨hx1,hx2⟩:=HAT.out x (by rw[hx];exact zzJ hke);obtain⟨jj,hjj⟩:∃jj:Nat,x.2.2=(jj:Int)+1:=⟨(x.2.2-1).toNat,by omega⟩;have i2':wr.cell? ⟨gi,k*3+2,none⟩=some (.int .i64 (jj:Int)):=by rw[i2];unfold toItem;rw[hjj];simp
   have i0':wr.cell? ⟨gi,k*3,none⟩=some (.string x.1):=i0;have i1':wr.cell? ⟨gi,k*3+1,none⟩=some (.int .i64 x.2.1):=i1;have hkm:(k:Int)<(m:Int):=by omega
   have HJ:Hid (x.2.2=(jj:Int)+1):=hjj;have hjjn:(jj:Int)<(n:Int):=by omega
   have hjjn':jj<n:=by omega
   clear hr h3 i0 i1 i2 o3 hvi hx hx1 hx2 hjj;go_wp2;obtain⟨X,hX⟩:∃X:Obj,X=.cells #[.string x.1,.int .i64 x.2.1,.int .i64 (jj:Int)] 112:=⟨_,rfl⟩;obtain⟨w5,hw5⟩:∃w5,w5=wr.alloc X:=⟨_,rfl⟩;have hb5r:Below wr.heap.size wr w5:=by rw[hw5];exact (Below.refl _ _).alloc (zzC _) X
   have hb5:Below w3.heap.size w3 w5:=hb.trans (hb5r.mono hb.size);have y0:w5.cell? ⟨wr.heap.size,0,none⟩=some (.string x.1):=by rw[hw5,hX];simp
   have y1:w5.cell? ⟨wr.heap.size,1,none⟩=some (.int .i64 x.2.1):=by rw[hw5,hX];simp
   have y2:w5.cell? ⟨wr.heap.size,2,none⟩=some (.int .i64 (jj:Int)):=by rw[hw5,hX];simp
   have hs5:w5.heap.size=wr.heap.size+1:=by rw[hw5];simp
   obtain⟨l0,l1,l2⟩:=row_cells (off:=0) (owns_cells HALL.out.1) hke;rw[Nat.zero_add,<-HX.out] at l0 l1 l2;have hgl3:gl<w3.heap.size:=ownsRow_lt HALL.out.1 rfl;have HLD:Hid (∀q,(loadVar 96 ⟨gl,k*3,none⟩).run prog (w5.drewN q)=.ok (.agg #[.string x.1,.int .i64 x.2.1,.int .i64 x.2.2]) (w5.drewN q)):=fun q=>ldE _ gl (k*3) x ((hb5.cell (p:=⟨gl,k*3,none⟩) hgl3).trans l0) ((hb5.cell (p:=⟨gl,k*3+1,none⟩) hgl3).trans l1) ((hb5.cell (p:=⟨gl,k*3+2,none⟩) hgl3).trans l2);obtain⟨gd,cd,d0,hgd,d1⟩:=HID.out _ HR.out jj hjjn';have d05:=(hb5r.cell (p:=⟨W,2,none⟩) mWr).trans d0;have d15:=(hb5r.cell (p:=⟨gd,jj,none⟩) hgd).trans d1;have mW5:W<w5.heap.size:=by omega
   have hgd5:gd<w5.heap.size:=by omega
   rw[<-hX,<-hw5];clear hX hw5 l0 l1 l2 d0 d1 i0' i1' i2' o0 o2;refine wp_region_quiet_lit (by kernel_rfl) (by kernel_rfl) ?_
   iterate 3 quiet_step (fail)
   refine wpQuiet_load_at rfl 96 _ rfl ⟨gl,k*3,none⟩ rfl (.agg #[.string x.1,.int .i64 x.2.1,.int .i64 x.2.2]) (by rintro _ ⟨n,rfl⟩;exact HLD.out _) ?_
   go_frame
   iterate 13 quiet_step (fail)
   refine wpQuiet_bin rfl .eql 96 96 _ _ rfl (.agg #[.string x.1,.int .i64 x.2.1,.int .i64 x.2.2]) (.agg #[.string x.1,.int .i64 x.2.1,.int .i64 ((jj:Int)+1)]) (.bool (decide (x=(x.1,x.2.1,(jj:Int)+1)))) rfl rfl (by rintro _ ⟨n,rfl⟩;exact guardE _ _ _ _ _ _) (by rintro _ ⟨n,rfl⟩;exact eqlEntry _ x (x.1,x.2.1,(jj:Int)+1)) ?_
   go_frame
   iterate 1 quiet_step (fail)
   refine wpQuiet_nil ?_;rintro _ ⟨nq,rfl⟩;have hd:decide (x=(x.1,x.2.1,(jj:Int)+1))=true:=decide_eq_true (Prod.ext rfl (Prod.ext rfl HJ.out));rw[hd];clear hd;go_wp2;go_roundw
   case rel=>exact⟨k+1,by omega,rfl,by go_num,below_drewN hb5 nq⟩
   case measure=>simp[intOf];omega
  ·have hkm:k=m:=by omega
   have hnl:decide ((k:Int)<(m:Int))=false:=zzE (by omega);obtain⟨b0,b1,b2,b3,b4,hWb⟩:=hr.block;have hrow:wr.ownsRow 0 55 1 (.slice ea (4*q) ec) (4*q) (hs.map encH):=by
    obtain⟨_,w2,hb2,_,_,hk3⟩:=HALL.out;have z2:=hb2.size;have z3:=hk3.size;refine ownsRow_keep HH.out.row (fun x hx=>?_);have hf:=HH.out.own x hx
    have:=HH.out.lt x hf
    rw[hb.block x (by omega),hk3.block x (by omega) (fun h=>HAP.out x hf (.inl h)),hb2.block x this]
   have hcame:Came wr (some ⟨gl,0,none⟩) m:=⟨(fun e=>by cases e),fun b e=>⟨gl,_,(Option.some.inj e).symm,ownsRow_keep HALL.out.1 (fun x hx=>hb.block x (ownsRow_lt HALL.out.1 hx))⟩⟩;have hke:=keepEntries_any W q #[b0,b1,b2,b3,b4,c5,c6,c7,c8,.slice ea (4*q) ec,c10,c11] ea ec m (some ⟨gl,0,none⟩) hs wr hWb rfl HH.out.len hq hrow hm16 hcame;have HKE:Hid _:=hke;have HFIN:Hid (∀w4,KeptOne wr w4 W q #[b0,b1,b2,b3,b4,c5,c6,c7,c8,.slice ea (4*q) ec,c10,c11] ea ec (some ⟨gl,0,none⟩) m hs->Played ft FL FR FS FH w w4 W s r (q+1) c5 c6 c7 c8 c10 c11):=fun w4 hk4=>by
    obtain⟨_,w2,hb2,hgl,h3',hk3⟩:=HALL.out;exact getDir_end H0.out HH.out HAP.out hm16 hb2 hgl h3' hk3 hb hWb hk4
   clear hr h3 hrow hcame hke hWb;go_wp2_with (go_at_call 44;refine Calls.mono HKE.out ?_;rintro _ w4 ⟨rfl,hk4⟩;have HK5:Hid _:=HFIN.out _ hk4;clear hk4);go_ret;exact⟨rfl,HK5.out⟩
theorem store_getDir (h:W3 ft FL FR FS w W s r objs ros c5 c6 c7 c8 (.slice ea (4*q) ec) c10 c11)(hh:Held FH w ea ec q hs)(hap:∀k,FH k->¬F3 FL FR FS k)(hq:4*q<=1000000000)(a1 N a3:Int)(S T:ByteArray)(la:Option Addr)(lm lc:Nat):
  Calls prog 20 #[.pointer (some ⟨W,0,none⟩),.agg #[.int .i64 4,.int .i64 a1,.int .i64 N,.int .i64 a3,.string S,.string T,.slice la lm lc]] w fun e w'=>e=.returned (.bool true)/\Played ft FL FR FS FH w w' W s r (q+1) c5 c6 c7 c8 c10 c11:=by
 by_cases hk:kindOf objs N=2
 ·have hid:¬(N<1\/(objs.length:Int)<N):=fun h=>by rw[kindOf_out h] at hk;cases hk
  obtain⟨j,rfl⟩:∃j:Nat,N=(j:Int)+1:=⟨(N-1).toNat,by omega⟩;have hj:j<objs.length:=by omega
  rw[kindOf_in hj] at hk;exact getDir_dir h hh hap hq a1 a3 S T la lm lc j hj hk
 ·exact getDir_none h hh hap hq a1 N a3 S T la lm lc hk
end
variable {ft:PTp}
section
variable {FL FR FS FH:Nat->Prop}{w:World}{W s r:Nat}{objs ros:List Ob}{c5 c6 c7 c8 c9 c10 c11:Value}
theorem put_dir_facts {w1 w2 w3:World}{objs' ros':List Ob}{es:List Ent}{e:Ending}{id ec x y:Int}(h:W3 ft FL FR FS w W s r objs ros c5 c6 c7 c8 c9 c10 c11)(hb:Below w.heap.size w w1)(hk:Keeps FS w1 w2)(hi:InvQ ft (NewF FS w1 w2) w2 s objs')
  (hrk:Keeps FR w2 w3)(hri:RefInv (NewF FR w2 w3) w3 r ros')(hfp:DirPutG objs objs' es e)(hrp:RDirPut ros ros' (es.map (toAt objs.length)) x y)(he:e=.returned (.tuple #[.int .i64 id,.int .i64 ec])):
  Agreed objs objs' ros ros' id ec x y/\LawS FL w3 W s r objs.length c5 c6 c7 c8 c9 c10 c11/\InvQ ft (NewF FS w1 w2) w3 s objs'/\RefInv (NewF FR w2 w3) w3 r ros'/\Sep w3 FL (NewF FR w2 w3) (NewF FS w1 w2)/\Below0 ros'/\Keeps (F3 FL FR FS) w w3:=by
 have z1:=hb.size;have z2:=hk.size;have z3:w2.heap.size<=w3.heap.size:=hrk.size;obtain⟨id',ec',he',hA⟩:=agree_dir h.twin hfp hrp;rw[he] at he';have e1:id=id'/\ec=ec':=by simpa using he'
 obtain⟨rfl,rfl⟩:=e1;have hrb:∀k,k<w2.heap.size->¬FR k->w3.heap[k]? = w2.heap[k]?:=fun k hk hn=>hrk.block k hk hn;have hl:LawS FL w2 W s r objs.length c5 c6 c7 c8 c9 c10 c11:=h.law.keep (fun _ h=>h) (fun k hk'=>by
  have hlt:=h.sep.ll k hk';rw[hk.block k (by omega) (fun hf=>(h.sep.sl k hf).2 hk'),hb.block k hlt])
 refine⟨hA,hl.keep (fun _ h=>h) (fun k hk'=>hrb k (by have:=h.sep.ll k hk';omega) (fun hr=>(h.sep.rl k hr).2 hk')),InvQ.keep hi (fun _ h=>h) (fun k hk'=>hrb k ?_ (fun hr=>?_)),hri,⟨fun k hk'=>by have:=h.sep.ll k hk';omega,fun k hk'=>?_,fun k hk'=>?_,fun k hk' hs=>?_⟩,below_dir h.at_ (fun e he=>?_) hrp,⟨?_,?_,?_,by omega,fun k hk' hn=>?_⟩⟩
 ·rcases hk' with h' | h'
  ·have:=(h.sep.sl k h').1;omega
  ·exact h'.2
 ·rcases hk' with h' | h'
  ·exact h.sep.rs k hr h'
  ·have:=(h.sep.rl k hr).1;omega
 ·rcases hk' with h' | h'
  ·exact⟨by have:=(h.sep.rl k h').1;omega,(h.sep.rl k h').2⟩
  ·exact⟨h'.2,fun hf=>by have:=h.sep.ll k hf;have:=h'.1;omega⟩
 ·rcases hk' with h' | h'
  ·exact⟨by have:=(h.sep.sl k h').1;omega,(h.sep.sl k h').2⟩
  ·exact⟨by have:=h'.2;omega,fun hf=>by have:=h.sep.ll k hf;have:=h'.1;omega⟩
 ·rcases hk' with h' | h'
  ·rcases hs with h2 | h2
   ·exact h.sep.rs k h' h2
   ·have:=(h.sep.rl k h').1;have:=h2.1;omega
  ·rcases hs with h2 | h2
   ·have:=(h.sep.sl k h2).1;have:=h'.1;omega
   ·have:=h'.1;have:=h2.2;omega
 ·obtain⟨e0,_,rfl⟩:=List.mem_map.1 he
  have:=h.twin.1
  unfold toAt;split
  ·next hh=>show e0.2.2-1<_;omega
  ·show (-1:Int)<_;omega
 ·exact hrk.os.trans (hk.os.trans hb.os)
 ·exact hrk.tape.trans (hk.tape.trans hb.tape)
 ·exact hrk.output.trans (hk.output.trans hb.output)
 ·rw[hrb k (by omega) (fun hr=>hn (.inr (.inl hr))),hk.block k (by omega) (fun hr=>hn (.inr (.inr hr))),hb.block k hk']
theorem facts_stay {w3 w4:World}{FR' FS':Nat->Prop}{objs' ros':List Ob}{gi:Nat}(hl:LawS FL w3 W s r objs.length c5 c6 c7 c8 c9 c10 c11)(hi:InvQ ft FS' w3 s objs')(hr:RefInv FR' w3 r ros')(hs:Sep w3 FL FR' FS')(hk:Keeps (F3 FL FR FS) w w3)
  (h4:Keeps (fun k=>k=gi) w3 w4)(n1:¬FL gi)(n2:¬FR' gi)(n3:¬FS' gi)(hg:w.heap.size<=gi):
  LawS FL w4 W s r objs.length c5 c6 c7 c8 c9 c10 c11/\InvQ ft FS' w4 s objs'/\RefInv FR' w4 r ros'/\Sep w4 FL FR' FS'/\Keeps (F3 FL FR FS) w w4:=
 ⟨hl.keep (fun _ h=>h) (fun k hk'=>h4.block k (hs.ll k hk') (fun e=>n1 (e ▸ hk'))),InvQ.keep hi (fun _ h=>h) (fun k hk'=>h4.block k (hs.sl k hk').1 (fun e=>n3 (e ▸ hk'))),hr.keep (fun _ h=>h) (fun k hk'=>h4.block k (hs.rl k hk').1 (fun e=>n2 (e ▸ hk'))),hs.below h4.size,
  ⟨h4.os.trans hk.os,h4.tape.trans hk.tape,h4.output.trans hk.output,zzG hk.size h4.size,fun k hk1 hn=>(h4.block k (zzA hk1 hk.size) (fun e=>by omega)).trans (hk.block k hk1 hn)⟩⟩
end
end Go.Proofs.YtlgidcmmgohagaaGreat
