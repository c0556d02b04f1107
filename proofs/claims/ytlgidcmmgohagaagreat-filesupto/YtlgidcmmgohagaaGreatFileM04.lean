/- What is proved here: the document's own store. -/
import Derived.Test.YtlgidcmmgohagaaGreatFileM03
namespace Go.Proofs.YtlgidcmmgohagaaGreat
open Go.RowKit Go.Sort Go.Shelf Go.Proofs.Tryz
set_option linter.unusedVariables false
set_option maxRecDepth 100000
set_option maxHeartbeats 16000000
def rhigh (ros:List Ob)(e:Ent):Int:=((ros[e.2.2.toNat]?).map (·.high)).getD 0
def rhighs (ros:List Ob)(es:List Ent):Int:=es.foldl (fun h e=>max h (1+rhigh ros e)) 0
theorem rhighs_snoc (ros:List Ob)(es:List Ent)(e:Ent):rhighs ros (es ++ [e])=max (rhighs ros es) (1+rhigh ros e):=by
 simp only[rhighs,List.foldl_append,List.foldl_cons,List.foldl_nil]
theorem infoObj:(prog.info? 108).map (fun i=>(i.zero,i.size,i.bytes))=some (some (.agg #[.int .i64 0,.string ByteArray.empty,.slice none 0 0,.int .i64 0]),4,56):=by kernel_rfl
theorem put_hit {F G:Nat->Prop}(r:Nat)(a:Option Addr)(cap:Nat)(ros:List Ob)(o:Ob)(w:World)(h:RefAt F w r a cap ros)(ho:RObOk G w o)(i:Nat)(hf:findAt ros o=some i):
  Calls prog 78 #[.pointer (some ⟨r,0,none⟩),oAgg o] w fun e w'=>e=.returned (.int .i64 i)/\Below w.heap.size w w':=by
 have b1:∀B,Below w.heap.size w (w.alloc B):=fun B=>(Below.refl _ _).alloc (zzC _) _;have hfind:=fun B:Obj=>find_anyR r a cap ros o (w.alloc B) (h.below (b1 B)) (ho.below (b1 B));rw[hf] at hfind;have hi0:decide ((0:Int)<=(i:Int))=true:=by simp
 unfold oAgg at hfind ⊢;unfold placeI at hfind;have hfind':∀B:Obj,Calls prog 149 #[.pointer (some ⟨r,0,none⟩),.agg #[.int .i64 o.kind,.string o.data,.slice o.ea o.el o.ec,.int .i64 o.high]] (w.alloc B) fun e w'=>e=.returned (.int .i64 i)/\Below (w.alloc B).heap.size (w.alloc B) w':=hfind
 clear hfind;go_enter func78,ntmps78;go_wp2_with fail;refine (hfind' _).mono ?_;rintro e w1 ⟨rfl,hb1⟩;go_wp2;go_ret;exact⟨rfl,(b1 _).trans (hb1.mono (by simp))⟩
theorem put_full {F G:Nat->Prop}(r:Nat)(a:Option Addr)(cap:Nat)(ros:List Ob)(o:Ob)(w:World)(h:RefAt F w r a cap ros)(ho:RObOk G w o)(hf:findAt ros o=none)(hn:400<=ros.length):
  Calls prog 78 #[.pointer (some ⟨r,0,none⟩),oAgg o] w fun e w'=>e=.returned (.int .i64 (-1))/\Below w.heap.size w w':=by
 have b1:∀B,Below w.heap.size w (w.alloc B):=fun B=>(Below.refl _ _).alloc (zzC _) _;have hfind:=fun B:Obj=>find_anyR r a cap ros o (w.alloc B) (h.below (b1 B)) (ho.below (b1 B));rw[hf] at hfind;unfold oAgg at hfind ⊢;have hfind':∀B:Obj,Calls prog 149 #[.pointer (some ⟨r,0,none⟩),.agg #[.int .i64 o.kind,.string o.data,.slice o.ea o.el o.ec,.int .i64 o.high]] (w.alloc B) fun e w'=>e=.returned (.int .i64 (-1))/\Below (w.alloc B).heap.size (w.alloc B) w':=hfind;clear hfind;go_enter func78,ntmps78;go_wp2_with fail;refine (hfind' _).mono ?_;rintro e w1 ⟨rfl,hb1⟩;have hbw:=(b1 _).trans (hb1.mono (by simp));have hc0:=(h.below hbw).c0;go_wp2;go_ret;exact⟨rfl,hbw⟩
def Boxed4 (W:World)(b:Nat)(k:Int)(d:ByteArray)(ea:Option Addr)(el ec:Nat)(hi:Int):Prop:=W.heap[b]? = some (.cells #[.int .i64 k,.string d,.slice ea el ec,.int .i64 hi] 108 (0,0))
theorem Boxed4.parts {W:World}{b:Nat}{k:Int}{d:ByteArray}{ea:Option Addr}{el ec:Nat}{hi:Int}(h:Boxed4 W b k d ea el ec hi):W.cell? ⟨b,2,none⟩=some (.slice ea el ec)/\W.cell? ⟨b,3,none⟩=some (.int .i64 hi)/\W.frozen? ⟨b,3,none⟩=false:=by
 unfold Boxed4 at h;refine⟨?_,?_,?_⟩ <;> simp[World.cell?,World.frozen?,h]
theorem Boxed4.parts2 {W:World}{b:Nat}{k:Int}{d:ByteArray}{ea:Option Addr}{el ec:Nat}{hi:Int}(h:Boxed4 W b k d ea el ec hi):W.cell? ⟨b,0,none⟩=some (.int .i64 k)/\W.cell? ⟨b,1,none⟩=some (.string d):=by
 unfold Boxed4 at h;refine⟨?_,?_⟩ <;> simp[World.cell?,h]
theorem grown_cell1R {w w1:World}{o1:Obj}{r:Option Nat}(hg:(w.alloc o1).drew.grownBy w1 r){p:Nat}(hp:p<w.heap.size)(hr:some p≠r){v:Value}{i:Nat}(h:w.cell? ⟨p,i,none⟩=some v):w1.cell? ⟨p,i,none⟩=some v:=by
 rw[World.cell?_of_block (a:=⟨p,i,none⟩) (hg.block p (by simp;omega) hr)];show (w.alloc o1).cell? ⟨p,i,none⟩=_;rw[World.cell?_alloc_past _ _ _ hp,h]
theorem grown_frozen1R {w w1:World}{o1:Obj}{r:Option Nat}(hg:(w.alloc o1).drew.grownBy w1 r){p:Nat}(hp:p<w.heap.size)(hr:some p≠r){i:Nat}(h:w.frozen? ⟨p,i,none⟩=false):w1.frozen? ⟨p,i,none⟩=false:=by
 rw[World.frozen?_of_block (a:=⟨p,i,none⟩) (hg.block p (by simp;omega) hr)];show (w.alloc o1).frozen? ⟨p,i,none⟩=_;rw[World.frozen?_alloc_past _ _ _ hp,h]
theorem Boxed4.high {W:World}{b:Nat}{k:Int}{d:ByteArray}{ea:Option Addr}{el ec:Nat}{hi:Int}(h:Boxed4 W b k d ea el ec hi)(x:Int):Boxed4 (W.setCell ⟨b,3,none⟩ (.int .i64 x)) b k d ea el ec x:=by
 unfold Boxed4 at h ⊢;simp[World.setCell,Array.getElem?_modify,h]
theorem keeps_drewNR {F:Nat->Prop}{w w':World}(h:Keeps F w w')(q:Nat):Keeps F w (w'.drewN q):=⟨h.os,h.tape,h.output,h.size,h.block⟩
theorem keeps_box {w w':World}{b i:Nat}{v:Value}(h:Keeps (fun k=>k=b) w w'):Keeps (fun k=>k=b) w (w'.setCell ⟨b,i,none⟩ v):=
 ⟨h.os,h.tape,h.output,by simpa using h.size,fun k hk hne=>by rw[Below.heap_setCell _ _ _ _ hne];exact h.block k hk hne⟩
theorem put_after {F:Nat->Prop}{w wr w2:World}{r:Nat}{a:Option Addr}{cap:Nat}{ros:List Ob}{o1:Obj}{g cap':Nat}{news:List Value}(h:RefAt F w r a cap ros)(kb:∀q,q<w.heap.size->wr.heap[q]? = w.heap[q]?)(hsr:w.heap.size<wr.heap.size)
  (hq:wr.os=w.os/\wr.tape=w.tape/\wr.output=w.output)(hpa:some r≠(Value.slice a ros.length cap).ownBlock)(hown:w2.ownsRow 0 108 4 (.slice (some ⟨g,0,none⟩) (ros.length+1) cap') (ros.length+1) (obCells ros++news))
  (hg:(wr.alloc o1).drew.grownBy w2 (Value.slice a ros.length cap).ownBlock)(hloc:(Value.slice (some ⟨g,0,none⟩) (ros.length+1) cap').ownBlock=(Value.slice a ros.length cap).ownBlock\/(Value.slice (some ⟨g,0,none⟩) (ros.length+1) cap').ownBlock=some (wr.alloc o1).drew.heap.size):
  (w2.setCell ⟨r,0,none⟩ (.slice (some ⟨g,0,none⟩) (ros.length+1) cap')).heap[r]? = some (.cells #[.slice (some ⟨g,0,none⟩) (ros.length+1) cap'] 94 (0,0))/\(w2.setCell ⟨r,0,none⟩ (.slice (some ⟨g,0,none⟩) (ros.length+1) cap')).ownsRow 0 108 4 (.slice (some ⟨g,0,none⟩) (ros.length+1) cap') (ros.length+1) (obCells ros++news)/\
    ((some g:Option Nat)=(Value.slice a ros.length cap).ownBlock\/w.heap.size<=g)/\Keeps (fun k=>k=r\/some k=(Value.slice a ros.length cap).ownBlock) w (w2.setCell ⟨r,0,none⟩ (.slice (some ⟨g,0,none⟩) (ros.length+1) cap')):=by
 have hkeep:∀k,k<w.heap.size->some k≠(Value.slice a ros.length cap).ownBlock->w2.heap[k]? = w.heap[k]?:=by
  intro k hk hne;rw[hg.block k (by simp;omega) hne];show (wr.alloc o1).heap[k]? = _;rw[Below.heap_alloc _ _ _ (by omega),kb k hk]
 have hw2:w2.heap[r]? = some (.cells #[.slice a ros.length cap] 94 (0,0)):=by rw[hkeep r h.lt hpa,h.hr]
 have hgr:g≠r:=by
  rintro rfl;rcases hloc with h1 | h1
  ·exact hpa h1
  ·have:=h.lt;simp[Value.ownBlock] at h1;omega
 have hs:=hg.size;simp at hs;refine⟨?_,?_,?_,⟨hg.os.trans hq.1,hg.tape.trans hq.2.1,hg.output.trans hq.2.2,by simp;omega,?_⟩⟩
 ·simp[World.setCell,Array.getElem?_modify,hw2]
 ·obtain⟨h1,h2⟩:=hown
  refine⟨h1,?_⟩;rcases h2 with ⟨h,_⟩ | ⟨g0,cap0,cur,hv,hb,hh,r⟩
  ·cases h
  ·cases hv
   exact Or.inr ⟨g,cap',cur,rfl,hb,by rw[Below.heap_setCell _ _ _ _ hgr];exact hh,r⟩
 ·rcases hloc with h | h
  ·exact Or.inl h
  ·simp[Value.ownBlock] at h;exact Or.inr (by omega)
 ·intro k hk hne
  rw[Below.heap_setCell _ _ _ _ (fun e=>hne (.inl e)),hkeep k hk (fun e=>hne (.inr e))]
theorem put_newR {F G:Nat->Prop}(r:Nat)(a:Option Addr)(cap:Nat)(ros:List Ob)(o:Ob)(w:World)(h:RefAt F w r a cap ros)(ho:RObOk G w o)(hz:o.high=0)(hf:findAt ros o=none)(hn:ros.length<400)
  (hat:∀e ∈ o.ents,0<=e.2.2/\e.2.2<(ros.length:Int)):
  Calls prog 78 #[.pointer (some ⟨r,0,none⟩),oAgg o] w fun e w'=>e=.returned (.int .i64 ros.length)/\
   ∃g cap',w'.heap[r]? = some (.cells #[.slice (some ⟨g,0,none⟩) (ros.length+1) cap'] 94 (0,0))/\w'.ownsRow 0 108 4 (.slice (some ⟨g,0,none⟩) (ros.length+1) cap') (ros.length+1) (obCells ros++Ob.cells { o with high:=rhighs ros o.ents })/\
    ((some g:Option Nat)=(Value.slice a ros.length cap).ownBlock\/w.heap.size<=g)/\Keeps (fun k=>k=r\/some k=(Value.slice a ros.length cap).ownBlock) w w':=by
 obtain⟨i0,hi,hz0,hz1,hz2⟩:=info_parts infoObj;have b1:∀B,Below w.heap.size w (w.alloc B):=fun B=>(Below.refl _ _).alloc (zzC _) _;have hfind:=fun B:Obj=>find_anyR r a cap ros o (w.alloc B) (h.below (b1 B)) (ho.below (b1 B));rw[hf] at hfind;unfold oAgg at hfind ⊢;have hfind':∀B:Obj,Calls prog 149 #[.pointer (some ⟨r,0,none⟩),.agg #[.int .i64 o.kind,.string o.data,.slice o.ea o.el o.ec,.int .i64 o.high]] (w.alloc B) fun e w'=>e=.returned (.int .i64 (-1))/\Below (w.alloc B).heap.size (w.alloc B) w':=hfind;clear hfind;have HH:Hid (∀x ∈ ros,0<=x.high/\x.high<=5):=fun x hx=>⟨(h.obs x hx).high0,(h.obs x hx).high5⟩;have HA:Hid (∀e ∈ o.ents,0<=e.2.2/\e.2.2<(ros.length:Int)):=hat;have hel:o.el<=16:=ho.few;have HL:Hid (o.ents.length=o.el):=ho.len;clear hat;rw[hz] at hfind' ⊢;go_enter func78,ntmps78;go_wp2_with fail;refine (hfind' _).mono ?_;rintro e w1 ⟨rfl,hb1⟩;have hbw:=(b1 _).trans (hb1.mono (by simp));have hc0:=(h.below hbw).c0;have hrl:r<w.heap.size:=h.lt;have hbx:Hid (Boxed4 w1 w.heap.size o.kind o.data o.ea o.el o.ec 0):=by
  show w1.heap[w.heap.size]? = _;rw[hb1.block _ (by simp)];exact heap_alloc_new _ _
 have hs1:w.heap.size<w1.heap.size:=by have:=hb1.size;simp at this;omega
 clear hfind';go_wp2
 go_loopw [6] (fun i wr=>∃k:Nat,k<=o.el/\i=.int .i64 k/\Hid (Keeps (fun k=>k=w.heap.size) w1 wr)/\Hid (Boxed4 wr w.heap.size o.kind o.data o.ea o.el o.ec (rhighs ros (o.ents.take k)))/\0<=rhighs ros (o.ents.take k)/\rhighs ros (o.ents.take k)<=6) (fun i _=>o.el-(intOf i).toNat)
 case atStart=>exact⟨0,zzF _,rfl,⟨rfl,rfl,rfl,zzC _,fun _ _ _=>rfl⟩,hbx,by show (0:Int)<=0;omega,by show (0:Int)<=6;omega⟩
 case round=>
  obtain⟨k,hk,rfl,HK,HB,hh0,hh6⟩:=hrel;have kb:∀q,q<w.heap.size->wr.heap[q]? = w.heap[q]?:=fun q hq=>(HK.out.block q (by omega) (by omega)).trans (hbw.block q hq);have hsr:w.heap.size<wr.heap.size:=zzA hs1 HK.out.size;have hcr:wr.cell? ⟨r,0,none⟩=some (.slice a ros.length cap):=(World.cell?_of_block (a:=⟨r,0,none⟩) (kb r hrl)).trans h.c0;obtain⟨q2,q3,fz⟩:=HB.out.parts;by_cases hlt:k<o.el
  ·have hk':k<o.ents.length:=by rw[HL.out];exact hlt
   have hrow:=ho.row;obtain⟨gi,ci,hvi⟩:=slice_of_owns hrow (by omega);have hea:=(Value.slice.inj hvi).1;rw[hea] at hrow q2;clear hea hvi;have hgil:gi<w.heap.size:=ownsRow_lt hrow rfl;obtain⟨_,_,e2⟩:=row_cells (off:=0) (owns_cells hrow) hk';rw[Nat.zero_add] at e2;obtain⟨ha0,ha1⟩:=HA.out _ (zzJ hk');obtain⟨j,hj⟩:∃j:Nat,o.ents[k].2.2=(j:Int):=⟨o.ents[k].2.2.toNat,by omega⟩;have hjl:j<ros.length:=by omega
   rw[hj] at e2;have e2':=(World.cell?_of_block (a:=⟨gi,k*3+2,none⟩) (kb gi hgil)).trans e2;obtain⟨g,hga,hgl,_,_,_,c3⟩:=row_obs h.row rfl hjl;rw[hga] at hcr;clear hga;have c3':=(World.cell?_of_block (a:=⟨g,j*4+3,none⟩) (kb g hgl)).trans c3;obtain⟨hj0,hj5⟩:=HH.out ros[j] (zzJ hjl);have HS:Hid (rhighs ros (o.ents.take (k+1))=max (rhighs ros (o.ents.take k)) (1+ros[j].high)):=by
    show _=_;rw[zzI hk',rhighs_snoc];unfold rhigh;rw[hj,Int.toNat_natCast,zzH hjl];rfl
   obtain⟨H,hH⟩:∃H,H=rhighs ros (o.ents.take k):=⟨_,rfl⟩;rw[<-hH] at hh0 hh6 q3;have HH2:Hid (H=rhighs ros (o.ents.take k)):=hH;clear c3 e2 hH hj ha0 ha1;by_cases hgt:H<1+ros[j].high
   ·go_wp2
    go_quiet (fail)
    go_wp2;go_roundw
    case rel=>
     refine⟨k+1,by omega,by go_num,keeps_box (keeps_drewNR HK.out nq),?_,by rw[HS.out,<-HH2.out];omega,by rw[HS.out,<-HH2.out];omega⟩;rw[HS.out,<-HH2.out,Int.max_eq_right (by omega)];exact Boxed4.high (W:=wr.drewN nq) HB.out _
    case measure=>simp[intOf];omega
   ·go_wp2
    go_quiet (fail)
    go_wp2;go_roundw
    case rel=>
     refine⟨k+1,by omega,by go_num,keeps_drewNR HK.out nq,?_,by rw[HS.out,<-HH2.out];omega,by rw[HS.out,<-HH2.out];omega⟩;rw[HS.out,<-HH2.out,Int.max_eq_left (by omega),HH2.out];exact HB.out
    case measure=>simp[intOf];omega
  ·have hke:k=o.el:=by omega
   have HT:Hid (o.ents.take k=o.ents):=List.take_of_length_le (by rw[HL.out];omega);rw[HT.out] at q3;have HB2:Hid (Boxed4 wr w.heap.size o.kind o.data o.ea o.el o.ec (rhighs ros o.ents)):=by have:=HB.out;rwa [HT.out] at this
   obtain⟨q0,q1⟩:=HB2.out.parts2;obtain⟨H,hH⟩:∃H,H=rhighs ros o.ents:=⟨_,rfl⟩;rw[<-hH] at q3 HB2;have HH3:Hid (H=rhighs ros o.ents):=hH;clear hh0 hh6 hH HB;have HO:Hid (wr.ownsRow 0 108 4 (.slice a ros.length cap) ros.length (obCells ros)):=ownsRow_keep h.row (fun g hg=>kb g (ownsRow_lt h.row hg));have HP:Hid (some r≠(Value.slice a ros.length cap).ownBlock):=owns_ne_cells h.row h.hr (by decide);have H1:Hid (∀u ∈ [Value.int .i64 o.kind,.string o.data,.slice o.ea o.el o.ec,.int .i64 H],u.oneCell'=true):=by intro u hu;simp at hu;rcases hu with rfl | rfl | rfl | rfl <;> rfl
   have hfr:wr.frozen? ⟨r,0,none⟩=false:=(World.frozen?_of_block (a:=⟨r,0,none⟩) (kb r hrl)).trans h.f0;have hrl':r<wr.heap.size:=by omega
   go_wp2
   go_region_law (refine step_append_own_at rfl (.tmp 51) (.tmp 53) 92 rfl 0 108 i0 _ 4 56 underlying92 hi hz0 hz1 hz2 rfl (by decide) (.slice a ros.length cap) ros.length (obCells ros) (by simp[Act.eval]) (HO.out.alloc _) ⟨wr.heap.size,0,none⟩ 1 1 [.int .i64 o.kind,.string o.data,.slice o.ea o.el o.ec,.int .i64 H] (by simp[Act.eval]) rfl (cells4 wr (.int .i64 o.kind) (.string o.data) (.slice o.ea o.el o.ec) (.int .i64 H) 108) H1.out (by unfold maxLen;omega) (by omega) (zzF _) ?_;intro v' w2 hown' hgrow hloc;obtain⟨g,cap',rfl⟩:=slice_of_owns hown' (by omega);have k1':=grown_cell1R hgrow hrl' HP.out hcr;have k2':=grown_frozen1R hgrow hrl' HP.out hfr)
   all_goals
    have HF:Hid _:=put_after h kb hsr ⟨HK.out.os.trans hbw.os,HK.out.tape.trans hbw.tape,HK.out.output.trans hbw.output⟩ HP.out hown' hgrow hloc;clear hown' hgrow hloc;go_wp2;go_ret;rw[HH3.out] at HF;exact⟨by simp,g,cap',HF.out⟩
theorem owns_block {w:World}{base:Nat}{e:TypeId}{size n:Nat}{v:Value}{xs:List Value}(h:w.ownsRow base e size v n xs){g:Nat}(hg:v.ownBlock=some g):∃cur,w.heap[g]? = some (.cells cur e (0,0)):=by
 rcases h.2 with ⟨rfl,_⟩ | ⟨g',cap,cur,rfl,_,hh,_⟩
 ·simp[Value.ownBlock] at hg
 ·simp[Value.ownBlock] at hg;subst hg;exact⟨cur,hh⟩
def RefInv (F:Nat->Prop)(w:World)(r:Nat)(ros:List Ob):Prop:=∃a cap,RefAt F w r a cap ros
theorem RefInv.keep {F F':Nat->Prop}{w w':World}{r:Nat}{ros:List Ob}(h:RefInv F w r ros)(hF:∀k,F k->F' k)(hk:∀k,F k->w'.heap[k]? = w.heap[k]?):RefInv F' w' r ros:=by
 obtain⟨a,cap,h⟩:=h;exact⟨a,cap,h.keep hF hk⟩
theorem RefInv.below {F F':Nat->Prop}{w w':World}{r:Nat}{ros:List Ob}(h:RefInv F w r ros)(hb:Below w.heap.size w w')(hF:∀k,F k->F' k):RefInv F' w' r ros:=by
 obtain⟨a,cap,h⟩:=h;have h':=h.below hb;exact⟨a,cap,h'.keep hF (fun _ _=>rfl)⟩
theorem foldl_max (f:Ent->Int):∀(es:List Ent) (h:Int),h<=es.foldl (fun h e=>max h (f e)) h
 | [],_=>Int.le_refl _
 | e :: r,h=>Int.le_trans (Int.le_max_left _ _) (foldl_max f r _)
theorem rhighs_nonneg (ros:List Ob)(es:List Ent):0<=rhighs ros es:=foldl_max (fun e=>1+rhigh ros e) es 0
theorem RefAt.put {F G:Nat->Prop}{w w':World}{r:Nat}{a:Option Addr}{cap:Nat}{ros:List Ob}{o:Ob}(h:RefAt F w r a cap ros)(ho:RObOk G w o)(h5:rhighs ros o.ents<=5)(hn:ros.length<400){g cap':Nat}
  (h1:w'.heap[r]? = some (.cells #[.slice (some ⟨g,0,none⟩) (ros.length+1) cap'] 94 (0,0)))(h2:w'.ownsRow 0 108 4 (.slice (some ⟨g,0,none⟩) (ros.length+1) cap') (ros.length+1) (obCells ros++Ob.cells { o with high:=rhighs ros o.ents }))
  (h3:(some g:Option Nat)=(Value.slice a ros.length cap).ownBlock\/w.heap.size<=g)(h4:Keeps (fun k=>k=r\/some k=(Value.slice a ros.length cap).ownBlock) w w'):
  RefAt (fun k=>F k\/G k\/(w.heap.size<=k/\k<w'.heap.size)) w' r (some ⟨g,0,none⟩) cap' (ros ++ [{ o with high:=rhighs ros o.ents }])/\Keeps F w w':=by
 have hl:(ros ++ [{ o with high:=rhighs ros o.ents }]).length=ros.length+1:=by simp
 have items:∀{v:Value} {n:Nat} {xs:List Value},w.ownsRow 0 112 3 v n xs->w'.ownsRow 0 112 3 v n xs:=by
  intro v n xs hr;refine ownsRow_keep hr fun k hk=>?_
  obtain⟨cur,hcur⟩:=owns_block hr hk;refine h4.block k (ownsRow_lt hr hk) ?_;rintro (rfl | e)
  ·have:=h.hr;rw[hcur] at this;cases this
  ·exact owns_ne_cells h.row hcur (by decide) e
 refine⟨⟨.inl h.fr,?_,?_,?_,?_,?_⟩,⟨h4.os,h4.tape,h4.output,h4.size,?_⟩⟩
 ·intro k hk
  rcases h3 with e | e
  ·refine .inl (h.fa k ?_)
   rw[<-e];exact hk
  ·simp only[Value.ownBlock,Option.some.injEq] at hk
   subst hk;exact .inr (.inr ⟨e,ownsRow_lt h2 rfl⟩)
 ·rw[hl];exact h1
 ·rw[hl,obCells_snoc];exact h2
 ·rw[hl];omega
 ·intro x hx
  rcases List.mem_append.1 hx with hx | hx
  ·have:=h.obs x hx
   exact⟨this.kind,this.size,this.len,this.few,this.high0,this.high5,items this.row,fun k hk=>.inl (this.own k hk)⟩
  ·rw[List.mem_singleton.1 hx]
   exact⟨ho.kind,ho.size,ho.len,ho.few,rhighs_nonneg _ _,h5,items ho.row,fun k hk=>.inr (.inl (ho.own k hk))⟩
 ·intro k hk hnF
  refine h4.block k hk ?_;rintro (rfl | e)
  ·exact hnF h.fr
  ·exact hnF (h.fa k e.symm)
def RPutG (ros ros':List Ob)(o:Ob)(x:Int):Prop:=
 (∃i:Nat,findAt ros o=some i/\ros'=ros/\x=i)\/(findAt ros o=none/\400<=ros.length/\ros'=ros/\x = -1)\/
 (findAt ros o=none/\ros.length<400/\ros'=ros ++ [{ o with high:=rhighs ros o.ents }]/\x=ros.length)
def Grow (F G:Nat->Prop)(w w':World)(k:Nat):Prop:=F k\/G k\/(w.heap.size<=k/\k<w'.heap.size)
theorem rput_any {F G:Nat->Prop}{w:World}{r:Nat}{ros:List Ob}(h:RefInv F w r ros)(o:Ob)(ho:RObOk G w o)(hz:o.high=0)(h5:rhighs ros o.ents<=5)(hat:∀e ∈ o.ents,0<=e.2.2/\e.2.2<(ros.length:Int)):
  Calls prog 78 #[.pointer (some ⟨r,0,none⟩),oAgg o] w fun e w'=>∃x ros',e=.returned (.int .i64 x)/\RPutG ros ros' o x/\RefInv (Grow F G w w') w' r ros'/\Keeps F w w':=by
 obtain⟨a,cap,h⟩:=h;have inv:RefInv F w r ros:=⟨a,cap,h⟩;cases hf:findAt ros o with
 | some i=>
  refine (put_hit r a cap ros o w h ho i hf).mono fun e w' ⟨he,hb⟩=>?_;exact⟨_,ros,he,.inl ⟨i,hf,rfl,rfl⟩,inv.below hb (fun k hk=>.inl hk),Keeps.of_below hb⟩
 | none=>
  by_cases hn:400<=ros.length
  ·refine (put_full r a cap ros o w h ho hf hn).mono fun e w' ⟨he,hb⟩=>?_
   exact⟨_,ros,he,.inr (.inl ⟨hf,hn,rfl,rfl⟩),inv.below hb (fun k hk=>.inl hk),Keeps.of_below hb⟩
  ·refine (put_newR r a cap ros o w h ho hz hf (by omega) hat).mono fun e w' ⟨he,g,cap',h1,h2,h3,h4⟩=>?_
   have:=h.put ho h5 (by omega) h1 h2 h3 h4
   exact⟨_,_,he,.inr (.inr ⟨hf,by omega,rfl,rfl⟩),⟨_,_,this.1⟩,this.2⟩
def RFilePut (ros ros':List Ob)(d:ByteArray)(x y:Int):Prop:=
 (256<d.size/\ros'=ros/\x = -1/\y=11)\/
 (d.size<=256/\((∃i:Nat,findAt ros (fileOb d)=some i/\ros'=ros/\x=i/\y=0)\/(findAt ros (fileOb d)=none/\400<=ros.length/\ros'=ros/\x = -1/\y=11)\/
  (findAt ros (fileOb d)=none/\ros.length<400/\ros'=ros ++ [fileOb d]/\x=ros.length/\y=0)))
theorem rputFile_any {F:Nat->Prop}{w:World}{r:Nat}{ros:List Ob}(h:RefInv F w r ros)(d:ByteArray)(hd:d.size<=maxLen):
  Calls prog 36 #[.pointer (some ⟨r,0,none⟩),.string d] w fun e w'=>∃x y ros',e=.returned (.tuple #[.int .i64 x,.int .i64 y])/\RFilePut ros ros' d x y/\RefInv (NewF F w w') w' r ros'/\Keeps F w w':=by
 unfold maxLen at hd;by_cases hs:256<d.size
 ·have HI:Hid (RefInv F w r ros):=h
  clear h;go_enter func36,ntmps36;go_wp2;go_ret2;exact⟨_,_,ros,rfl,.inl ⟨hs,rfl,rfl,rfl⟩,HI.out.below (Below.refl _ _) (fun k hk=>.inl hk),Keeps.of_below (Below.refl _ _)⟩
 ·have ho:RObOk (fun _=>False) w (fileOb d):=⟨.inl rfl,by show d.size<=256;omega,rfl,by show 0<=16;omega,Int.le_refl _,by show (0:Int)<=5;omega,World.ownsRow_nil _ _ _ _,fun g hg=>by cases hg⟩
  have hcon:=rput_any h (fileOb d) ho rfl (by show (0:Int)<=5;omega) (fun e he=>by cases he);have hcon':Calls prog 78 #[.pointer (some ⟨r,0,none⟩),.agg #[.int .i64 1,.string d,.slice none 0 0,.int .i64 0]] w fun e w'=>∃x ros',e=.returned (.int .i64 x)/\RPutG ros ros' (fileOb d) x/\RefInv (Grow F (fun _=>False) w w') w' r ros'/\Keeps F w w':=hcon;clear hcon h ho;have hs':d.size<=256:=by omega
  go_enter func36,ntmps36;go_wp2_with fail;refine hcon'.mono ?_;rintro e w' ⟨x,ros',rfl,hp,hi,hk⟩;have HI:Hid (RefInv (NewF F w w') w' r ros'/\Keeps F w w'):=⟨hi.keep (fun k hk=>by rcases hk with h | h | h;exact .inl h;exact h.elim;exact .inr h) (fun _ _=>rfl),hk⟩;have HP:Hid (RPutG ros ros' (fileOb d) x):=hp;clear hcon' hi hk hp;by_cases hx:x<0
  ·go_wp2
   go_ret2;refine⟨_,_,ros',rfl,.inr ⟨hs',?_⟩,HI.out⟩;rcases HP.out with ⟨i,h1,h2,h3⟩ | ⟨h1,h2,h3,h4⟩ | ⟨h1,h2,h3,h4⟩
   ·omega
   ·exact .inr (.inl ⟨h1,h2,h3,rfl,rfl⟩)
   ·omega
  ·go_wp2
   go_ret2;refine⟨_,_,ros',rfl,.inr ⟨hs',?_⟩,HI.out⟩;rcases HP.out with ⟨i,h1,h2,h3⟩ | ⟨h1,h2,h3,h4⟩ | ⟨h1,h2,h3,h4⟩
   ·exact .inl ⟨i,h1,h2,h3,rfl⟩
   ·omega
   ·exact .inr (.inr ⟨h1,h2,h3,h4,rfl⟩)
end Go.Proofs.YtlgidcmmgohagaaGreat
