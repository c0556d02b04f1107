/- What is proved here: the law's 'tree'. -/
import Derived.Test.YtlgidcmmgohagaaGreatFileM12
import Derived.Test.YtlgidcmmgohagaaGreatFileM14
import Derived.Laws.BytesArg
import Derived.Test.YtlgidcmmgohagaaGreatFileM10
import Derived.ArgAppend
namespace Go.Proofs.YtlgidcmmgohagaaGreat
open Go.RowKit Go.Sort Go.Shelf Go.Proofs.Tryz
set_option linter.unusedVariables false
set_option maxRecDepth 100000
set_option maxHeartbeats 16000000
def BoxK (b:Nat)(w w':World):Prop:=b<w'.heap.size/\∀o,w'.cell? ⟨b,o,none⟩=w.cell? ⟨b,o,none⟩
def opV9 (k a1 a2 a3:Int)(S T:ByteArray)(la:Option Addr)(lm lc:Nat):Array Value:=#[.int .i64 k,.int .i64 a1,.int .i64 a2,.int .i64 a3,.string S,.string T,.slice la lm lc]
theorem tree_mkdir (W wb Sb:Nat)(a1 a2 a3:Int)(S T:ByteArray)(la:Option Addr)(lm lc:Nat)(er:Int)(her:(er == 14)=false)(R1 R2:World->Prop)(w:World)
  (h1:∀W1,Below w.heap.size w W1->w.heap.size<W1.heap.size->Calls prog 31 #[.pointer (some ⟨wb,0,none⟩),.string S] W1 fun e w'=>e=.returned (.int .i64 er)/\BoxK w.heap.size W1 w'/\R1 w')
  (h2:∀w1,R1 w1->Calls prog 95 #[.pointer (some ⟨Sb,0,none⟩),.string S] w1 fun e w'=>e=.returned (.int .i64 er)/\R2 w'):
  Calls prog 50 #[.pointer (some ⟨W,0,none⟩),.pointer (some ⟨wb,0,none⟩),.pointer (some ⟨Sb,0,none⟩),.agg (opV9 10 a1 a2 a3 S T la lm lc)] w fun e w'=>e=.returned (.bool true)/\R2 w':=by
 unfold opV9;have HA:=fun (w':World)=>answered_any W er er true w' her
 have HN:=fun (w':World)=>num_any er w';have hee:(er == er)=true:=by simp
 have H1:Hid _:=h1;have H2:Hid _:=h2;clear h1 h2;go_enter func50,ntmps50;go_wp2_with fail;refine Calls.mono (H1.out _ ((Below.refl _ _).alloc (zzC _) _) (by simp)) ?_;rintro e w2 ⟨rfl,hbx,hR1⟩;have k42:w2.cell? ⟨w.heap.size,4,none⟩=some (.string S):=(hbx.2 4).trans (by simp);have hz2:=hbx.1;clear hbx;go_wp2_with (first
  | (go_at_call 22;refine Calls.mono (HN _) ?_;rintro _ _ ⟨rfl,rfl⟩)
  | (go_at_call 53;refine Calls.mono (HA _) ?_;rintro _ _ ⟨rfl,rfl⟩)
  | (go_at_call 95;refine Calls.mono (H2.out _ hR1) ?_;rintro e w3 ⟨rfl,hR2⟩))
 go_ret;exact⟨rfl,hR2⟩
theorem tree_remove (W wb Sb:Nat)(a1 a2 a3:Int)(S T:ByteArray)(la:Option Addr)(lm lc:Nat)(er:Int)(her:(er == 14)=false)(R1 R2:World->Prop)(w:World)
  (h1:∀W1,Below w.heap.size w W1->w.heap.size<W1.heap.size->Calls prog 32 #[.pointer (some ⟨wb,0,none⟩),.string S] W1 fun e w'=>e=.returned (.int .i64 er)/\BoxK w.heap.size W1 w'/\R1 w')
  (h2:∀w1,R1 w1->Calls prog 96 #[.pointer (some ⟨Sb,0,none⟩),.string S] w1 fun e w'=>e=.returned (.int .i64 er)/\R2 w'):
  Calls prog 50 #[.pointer (some ⟨W,0,none⟩),.pointer (some ⟨wb,0,none⟩),.pointer (some ⟨Sb,0,none⟩),.agg (opV9 11 a1 a2 a3 S T la lm lc)] w fun e w'=>e=.returned (.bool true)/\R2 w':=by
 unfold opV9;have HA:=fun (w':World)=>answered_any W er er true w' her
 have HN:=fun (w':World)=>num_any er w';have hee:(er == er)=true:=by simp
 have H1:Hid _:=h1;have H2:Hid _:=h2;clear h1 h2;go_enter func50,ntmps50;go_wp2_with fail;refine Calls.mono (H1.out _ ((Below.refl _ _).alloc (zzC _) _) (by simp)) ?_;rintro e w2 ⟨rfl,hbx,hR1⟩;have k42:w2.cell? ⟨w.heap.size,4,none⟩=some (.string S):=(hbx.2 4).trans (by simp);have hz2:=hbx.1;clear hbx;go_wp2_with (first
  | (go_at_call 22;refine Calls.mono (HN _) ?_;rintro _ _ ⟨rfl,rfl⟩)
  | (go_at_call 53;refine Calls.mono (HA _) ?_;rintro _ _ ⟨rfl,rfl⟩)
  | (go_at_call 96;refine Calls.mono (H2.out _ hR1) ?_;rintro e w3 ⟨rfl,hR2⟩))
 go_ret;exact⟨rfl,hR2⟩
theorem tree_rename (W wb Sb:Nat)(a1 a2 a3:Int)(S T:ByteArray)(la:Option Addr)(lm lc:Nat)(er:Int)(her:(er == 14)=false)(R1 R2:World->Prop)(w:World)
  (h1:∀W1,Below w.heap.size w W1->w.heap.size<W1.heap.size->Calls prog 33 #[.pointer (some ⟨wb,0,none⟩),.string S,.string T] W1 fun e w'=>e=.returned (.int .i64 er)/\BoxK w.heap.size W1 w'/\R1 w')
  (h2:∀w1,R1 w1->Calls prog 97 #[.pointer (some ⟨Sb,0,none⟩),.string S,.string T] w1 fun e w'=>e=.returned (.int .i64 er)/\R2 w'):
  Calls prog 50 #[.pointer (some ⟨W,0,none⟩),.pointer (some ⟨wb,0,none⟩),.pointer (some ⟨Sb,0,none⟩),.agg (opV9 12 a1 a2 a3 S T la lm lc)] w fun e w'=>e=.returned (.bool true)/\R2 w':=by
 unfold opV9;have HA:=fun (w':World)=>answered_any W er er true w' her
 have HN:=fun (w':World)=>num_any er w';have hee:(er == er)=true:=by simp
 have H1:Hid _:=h1;have H2:Hid _:=h2;clear h1 h2;go_enter func50,ntmps50;go_wp2_with fail;refine Calls.mono (H1.out _ ((Below.refl _ _).alloc (zzC _) _) (by simp)) ?_;rintro e w2 ⟨rfl,hbx,hR1⟩;have k42:w2.cell? ⟨w.heap.size,4,none⟩=some (.string S):=(hbx.2 4).trans (by simp);have k52:w2.cell? ⟨w.heap.size,5,none⟩=some (.string T):=(hbx.2 5).trans (by simp);have hz2:=hbx.1;clear hbx;go_wp2_with (first
  | (go_at_call 22;refine Calls.mono (HN _) ?_;rintro _ _ ⟨rfl,rfl⟩)
  | (go_at_call 53;refine Calls.mono (HA _) ?_;rintro _ _ ⟨rfl,rfl⟩)
  | (go_at_call 97;refine Calls.mono (H2.out _ hR1) ?_;rintro e w3 ⟨rfl,hR2⟩))
 go_ret;exact⟨rfl,hR2⟩
theorem tree_stat (W wb Sb:Nat)(a1 a2 a3:Int)(S T:ByteArray)(la:Option Addr)(lm lc:Nat)(k sz er:Int)(her:(er == 14)=false)(R1:World->Prop)(w:World)
  (h1:∀W1,Below w.heap.size w W1->w.heap.size<W1.heap.size->Calls prog 67 #[.pointer (some ⟨wb,0,none⟩),.string S] W1 fun e w'=>e=.returned (.tuple #[.agg #[.int .i64 k,.int .i64 sz],.int .i64 er])/\BoxK w.heap.size W1 w'/\R1 w')
  (h2:∀w1,R1 w1->∀W2,Below w1.heap.size w1 W2->Calls prog 90 #[.pointer (some ⟨Sb,0,none⟩),.string S] W2 fun e w'=>e=.returned (.tuple #[.agg #[.int .i64 k,.int .i64 sz],.int .i64 er])/\Below W2.heap.size W2 w'):
  Calls prog 50 #[.pointer (some ⟨W,0,none⟩),.pointer (some ⟨wb,0,none⟩),.pointer (some ⟨Sb,0,none⟩),.agg (opV9 8 a1 a2 a3 S T la lm lc)] w fun e w'=>e=.returned (.bool true)/\∃w1,R1 w1/\Below w1.heap.size w1 w':=by
 unfold opV9;have HA:=fun (b:Bool) (w':World)=>answered_any W er er b w' her
 have hee:(er == er)=true:=by simp
 have H1:Hid _:=h1;have H2:Hid _:=h2;clear h1 h2;go_enter func50,ntmps50;go_wp2_with fail;refine Calls.mono (H1.out _ ((Below.refl _ _).alloc (zzC _) _) (by simp)) ?_;rintro e w2 ⟨rfl,hbx,hR1⟩;have k42:w2.cell? ⟨w.heap.size,4,none⟩=some (.string S):=(hbx.2 4).trans (by simp);have hz2:=hbx.1;clear hbx;go_wp2_with fail;refine Calls.mono (H2.out _ hR1 _ ((Below.refl _ _).alloc (zzC _) _)) ?_;rintro e w3 ⟨rfl,hb3⟩;have x0:w3.cell? ⟨w2.heap.size,0,none⟩=some (.int .i64 k):=(hb3.cell (p:=⟨w2.heap.size,0,none⟩) (by simp)).trans (by simp);have x1:w3.cell? ⟨w2.heap.size,1,none⟩=some (.int .i64 sz):=(hb3.cell (p:=⟨w2.heap.size,1,none⟩) (by simp)).trans (by simp);have hz3:w2.heap.size<w3.heap.size:=by have:=hb3.size;simp at this;omega
 have b3:Below w2.heap.size w2 w3:=((Below.refl _ _).alloc (zzC _) _).trans (hb3.mono (by simp));clear hb3;go_wp2_with (go_at_call 53;refine Calls.mono (HA _ _) ?_;rintro _ _ ⟨rfl,rfl⟩)
 all_goals
  go_ret;exact⟨rfl,w2,hR1,b3.alloc b3.size _⟩
theorem tree_list (W wb Sb:Nat)(a1 a2 a3:Int)(S T:ByteArray)(la:Option Addr)(lm lc:Nat)(er:Int)(her:(er == 14)=false)(xs:List ByteArray)(hxs:xs.length<=1000000000)(R1:Option Addr->Nat->World->Prop)(R2:World->Prop)(w:World)
  (h1:∀W1,Below w.heap.size w W1->w.heap.size<W1.heap.size->Calls prog 68 #[.pointer (some ⟨wb,0,none⟩),.string S] W1 fun e w'=>∃a c,e=.returned (.tuple #[.slice a xs.length c,.int .i64 er])/\BoxK w.heap.size W1 w'/\w'.ownsRow 0 9 1 (.slice a xs.length c) xs.length (encS xs)/\R1 a c w')
  (h2:∀a c w1,R1 a c w1->∀W2,Below w1.heap.size w1 W2->Calls prog 91 #[.pointer (some ⟨Sb,0,none⟩),.string S] W2 fun e w'=>∃a c,e=.returned (.tuple #[.slice a xs.length c,.int .i64 er])/\w'.ownsRow 0 9 1 (.slice a xs.length c) xs.length (encS xs)/\Below W2.heap.size W2 w')
  (h3:∀a c w1,R1 a c w1->∀W2,Below w1.heap.size w1 W2->Calls prog 93 #[.pointer (some ⟨W,8,none⟩),.slice a xs.length c] W2 fun e w'=>e=.returned (.tuple #[])/\R2 w'):
  Calls prog 50 #[.pointer (some ⟨W,0,none⟩),.pointer (some ⟨wb,0,none⟩),.pointer (some ⟨Sb,0,none⟩),.agg (opV9 9 a1 a2 a3 S T la lm lc)] w fun e w'=>e=.returned (.bool true)/\R2 w':=by
 unfold opV9;have HA:=fun (b:Bool) (w':World)=>answered_any W er er b w' her
 have hee:(er == er)=true:=by simp
 have H1:Hid _:=h1;have H2:Hid _:=h2;have H3:Hid _:=h3;have hsn:=fun (a b:Option Addr) (c d:Nat) (W':World) r1 r2=>sameNames_any a b c d xs xs W' hxs hxs r1 r2;have HSN:Hid _:=hsn;obtain⟨n,hn⟩:∃n,n=xs.length:=⟨_,rfl⟩;have HXN:Hid (n=xs.length):=hn;clear h1 h2 h3 hsn hn;go_enter func50,ntmps50;go_wp2_with fail;refine Calls.mono (H1.out _ ((Below.refl _ _).alloc (zzC _) _) (by simp)) ?_;rintro e w2 ⟨a,c,rfl,hbx,hrow,hR1⟩;have k42:w2.cell? ⟨w.heap.size,4,none⟩=some (.string S):=(hbx.2 4).trans (by simp);have hz2:=hbx.1;clear hbx;have HROW:Hid (w2.ownsRow 0 9 1 (.slice a xs.length c) xs.length (encS xs)):=hrow;clear hrow;go_wp2_with fail;refine Calls.mono (H2.out _ _ _ hR1 _ (Below.refl _ _)) ?_;rintro e w3 ⟨a',c',rfl,hrow',hb3⟩;have hrow2:w3.ownsRow 0 9 1 (.slice a xs.length c) xs.length (encS xs):=ownsRow_keep HROW.out (fun g hg=>hb3.block g (ownsRow_lt HROW.out hg));have hs3:=HSN.out a a' c c' w3 hrow2 hrow';simp only[decide_true] at hs3;have HS3:Hid _:=hs3;have HB3:Hid (Below w2.heap.size w2 w3):=hb3;clear hrow2 hs3 hrow' hb3;rw[<-HXN.out];rw[<-HXN.out] at HS3;go_wp2_with (first
  | (go_at_call 53;refine Calls.mono (HA _ _) ?_;rintro _ _ ⟨rfl,rfl⟩)
  | (go_at_call 92;refine Calls.mono HS3.out ?_;rintro _ w4 ⟨rfl,hb4⟩;have hk4:=H3.out _ _ _ hR1 w4 (HB3.out.trans (hb4.mono HB3.out.size));rw[<-HXN.out] at hk4;have HK4:Hid _:=hk4;clear hk4)
  | (go_at_call 93;refine Calls.mono HK4.out ?_;rintro _ w5 ⟨rfl,hR2⟩))
 all_goals
  go_ret;exact⟨rfl,hR2⟩
def markF (n:Nat)(s:ByteArray):ByteArray:=if h:n=0 then s else markF (n / 10) (s++⟨#[UInt8.ofNat (65+n % 10)]⟩)
termination_by n
decreasing_by omega
def markS (n:Nat):ByteArray:=markF n ⟨#[109]⟩
theorem conv_one (w:World)(n:Int):(convert 204 9 (.slice (some ⟨w.heap.size,0,none⟩) 1 1)).run prog (w.alloc (.cells #[.int .u8 n] 5))=.ok (.string (strOfNums [n])) (w.alloc (.cells #[.int .u8 n] 5)):=
 run_convert_bytes_arg (P:=prog) (w.alloc (.cells #[.int .u8 n] 5)) 204 5 (by kernel_rfl) (by kernel_rfl) w.heap.size 0 1 1 [n] rfl (fun i hi=>by
  have:i=0:=by omega
  subst this
  simp) 9 (by kernel_rfl)
theorem mark_any (n:Nat)(w:World)(hn:n<=1000000000):
  Calls prog 58 #[.int .i64 (n:Int)] w fun e w'=>e=.returned (.string (markS n))/\Below w.heap.size w w':=by
 go_enter func58,ntmps58;go_wp2
 go_loopw [0,3] (fun i s wr=>∃(k:Nat) (t:ByteArray),t.size+k<=n+1/\i=.int .i64 (k:Int)/\s=.string t/\Hid (markF k t=markS n)/\Hid (Below w.heap.size w wr)) (fun i _ _=>(intOf i).toNat)
 case atStart=>exact⟨n,⟨#[109]⟩,by show 1+n<=n+1;omega,rfl,rfl,rfl,Below.refl _ _⟩
 case round=>
  obtain⟨k,t,hk,rfl,rfl,HM,HB⟩:=hrel;by_cases hz:k=0
  ·subst hz
   go_wp2;go_ret;refine⟨?_,HB.out⟩
   have:=HM.out
   rw[markF] at this;simp at this;rw[<-this];rfl
  ·have hp:0<(k:Int):=by omega
   have hs1:(strOfNums [65+(k:Int) % 10]).size=1:=rfl;have hconv:=conv_one wr (65+(k:Int) % 10);go_wp2;refine⟨⟨k / 10,_,?_,by go_num,rfl,?_,HB.out.alloc HB.out.size _⟩,by simp[intOf];omega⟩
   ·rw[ByteArray.size_append,hs1];omega
   ·show _=_
    rw[<-HM.out];conv=>rhs;rw[markF]
    rw[dif_neg hz];have e:strOfNums [65+(k:Int) % 10]=⟨#[UInt8.ofNat (65+k % 10)]⟩:=by
     unfold strOfNums
     have:(65+(k:Int) % 10).toNat=65+k % 10:=by omega
     simp[this]
    rw[e]
theorem infoStrs:(prog.info? 131).map (fun i=>(i.zero,i.size,i.bytes))=some (some (.slice none 0 0),1,24):=by kernel_rfl
theorem rep_one {V:Value}(n:Nat)(h:V.oneCell'=true):∀u ∈ List.replicate n V,u.oneCell'=true:=fun u hu=>by rw[List.eq_of_mem_replicate hu];exact h
theorem put1 {w:World}{base:Nat}{t:TypeId}{g k N C:Nat}{V:Value}{rest:List Value}(h:w.ownsRow base t 1 (.slice (some ⟨g,0,none⟩) N C) N (List.replicate k V++rest))(hr:1<=rest.length):
  (w.setCell ⟨g,k,none⟩ V).ownsRow base t 1 (.slice (some ⟨g,0,none⟩) N C) N (List.replicate (k+1) V++rest.drop 1):=by
 have h1:=(h.stored k V).1;cases rest with
 | nil=>simp at hr
 | cons r rs=>
  have e:(List.replicate k V++r :: rs).set k V=List.replicate (k+1) V++(r :: rs).drop 1:=by
   rw[List.set_append_right _ _ (by simp),List.length_replicate,Nat.sub_self,List.replicate_succ'];simp
  rw[e] at h1;exact h1
theorem stage1_next {t tl:TypeId}(htw:t≠71)(htl:t≠tl)(hlt:tl≠t){w S S':World}{W:Nat}{cs cs':Array Value}{own0 ownl:Option Nat}{a:Option Addr}{n c g n' c':Nat}{xs xs':List Value}(hW:S.heap[W]? = some (.cells cs 71 (0,0)))(row:S.ownsRow 0 tl 1 (.slice a n c) n xs)
  (loc:∀x,(Value.slice a n c).ownBlock=some x->some x=own0\/w.heap.size<=x)(hk:Keeps (fun x=>x=W\/some x=own0\/some x=ownl) w S)
  (P:S'.heap[W]? = some (.cells cs' 71 (0,0))/\S'.ownsRow 0 tl 1 (.slice (some ⟨g,0,none⟩) n' c') n' xs'/\((some g:Option Nat)=(Value.slice a n c).ownBlock\/S.heap.size<=g)/\Keeps (fun k=>k=W\/some k=(Value.slice a n c).ownBlock) S S'):
  (∀x,(Value.slice (some ⟨g,0,none⟩) n' c').ownBlock=some x->some x=own0\/w.heap.size<=x)/\Keeps (fun x=>x=W\/some x=own0\/some x=ownl) w S'/\
   ∀{b:Nat} {v:Value} {l:Nat} {ys:List Value},S.ownsRow b t 1 v l ys->S'.ownsRow b t 1 v l ys:=by
 obtain⟨p1,p2,p3,p4⟩:=P;refine⟨fun x hx=>?_,⟨p4.os.trans hk.os,p4.tape.trans hk.tape,p4.output.trans hk.output,zzG hk.size p4.size,fun x hx hn=>?_⟩,fun hr=>row_stays hr p4 hW (by first | exact htw | exact htw.symm) (fun g hg=>rows_apart hr row (by first | exact htl | exact hlt) hg)⟩
 ·simp only[Value.ownBlock,Option.some.injEq] at hx
  subst hx;rcases p3 with e | e
  ·exact loc _ e.symm
  ·exact .inr (zzG hk.size e)
 ·rw[p4.block x (zzA hx hk.size) ?_]
  ·exact hk.block x hx hn
  ·rintro (e | e)
   ·exact hn (.inl e)
   ·rcases loc x e.symm with h | h
    ·exact hn (.inr (.inl h))
    ·omega
end Go.Proofs.YtlgidcmmgohagaaGreat
