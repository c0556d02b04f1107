/- What is proved here: the document's Read. -/
import Derived.Test.YtlgidcmmgohagaaGreatFileM35
import Derived.Test.YtlgidcmmgohagaaGreatFileM18
import Derived.Test.YtlgidcmmgohagaaGreatFileM07
import Derived.Deep.CutRange
namespace Go.Proofs.YtlgidcmmgohagaaGreat
open Go.RowKit Go.Sort Go.Shelf Go.Proofs.Tryz
set_option linter.unusedVariables false
set_option maxRecDepth 100000
set_option maxHeartbeats 16000000
section
variable {F:Nat->Prop}{w:World}{S:Nat}{na da:Option Addr}{nc dc:Nat}{nodes:List Ent}{data:List ByteArray}{hs:List Hnd}{more:List Value}
theorem sread_none (h:StAt F w S na da nc dc nodes data (tabV hs++more))(h8:hs.length=8)(n many:Int)(hu:usedH hs n=false):
  Calls prog 98 #[.pointer (some ⟨S,0,none⟩),.int .i64 n,.int .i64 many] w fun e w'=>e=.returned (.tuple #[.string ⟨#[]⟩,.int .i64 3])/\Below w.heap.size w w':=by
 have hlt:=h.lt;have HO:Hid _:=sopen_any h h8 n;rw[hu] at HO;go_enter func98,ntmps98;go_wp2_with (go_at_call 163;refine Calls.mono HO.out ?_;rintro _ w ⟨rfl,rfl⟩);go_ret2;exact⟨rfl,Below.refl _ _⟩
theorem swrite_none (h:StAt F w S na da nc dc nodes data (tabV hs++more))(h8:hs.length=8)(n:Int)(x:ByteArray)(hu:usedH hs n=false):
  Calls prog 99 #[.pointer (some ⟨S,0,none⟩),.int .i64 n,.string x] w fun e w'=>e=.returned (.int .i64 3)/\Below w.heap.size w w':=by
 have hlt:=h.lt;have HO:Hid _:=sopen_any h h8 n;rw[hu] at HO;go_enter func99,ntmps99;go_wp2_with (go_at_call 163;refine Calls.mono HO.out ?_;rintro _ w ⟨rfl,rfl⟩);go_ret;exact⟨rfl,Below.refl _ _⟩
theorem sresize_none (h:StAt F w S na da nc dc nodes data (tabV hs++more))(h8:hs.length=8)(n m:Int)(hu:usedH hs n=false):
  Calls prog 101 #[.pointer (some ⟨S,0,none⟩),.int .i64 n,.int .i64 m] w fun e w'=>e=.returned (.int .i64 3)/\Below w.heap.size w w':=by
 have hlt:=h.lt;have HO:Hid _:=sopen_any h h8 n;rw[hu] at HO;go_enter func101,ntmps101;go_wp2_with (go_at_call 163;refine Calls.mono HO.out ?_;rintro _ w ⟨rfl,rfl⟩);go_ret;exact⟨rfl,Below.refl _ _⟩
theorem sread_err (h:StAt F w S na da nc dc nodes data (tabV hs++more))(h8:hs.length=8){k:Nat}{j fg a many:Int}(hk:hs[k]? = some (true,j,fg,a))(hf:0<=fg/\fg<=63){er:Int}(he:(many<0/\er=2)\/(0<=many/\bitB fg 1=false/\er=12)):
  Calls prog 98 #[.pointer (some ⟨S,0,none⟩),.int .i64 (k:Int),.int .i64 many] w fun e w'=>e=.returned (.tuple #[.string ⟨#[]⟩,.int .i64 er])/\Below w.heap.size w w':=by
 have hlt:=h.lt;have HO:Hid _:=sopen_any h h8 (k:Int);rw[used_true h8 hk] at HO;obtain⟨c0,c1,c2,c3,hfz⟩:=h.hnd hk;have hkl:=(List.getElem?_eq_some_iff.1 hk).1;have hk8:k<8:=by omega
 have t3:(k:Int)<8:=by omega
 have HB:Hid (bitB fg 1=false->∀W,Calls prog 159 #[.int .i64 fg,.int .i64 1] W fun e w'=>e=.returned (.bool false)/\w'=W):=fun hb W=>by have:=bit_any fg 1 W hf ⟨by decide,by decide⟩;rwa [hb] at this
 clear h hk hfz hf h8 hkl;by_cases hm:many<0
 ·obtain rfl:er=2:=by omega
  clear he;go_enter func98,ntmps98;go_wp2_with (go_at_call 163;refine Calls.mono HO.out ?_;rintro _ w ⟨rfl,rfl⟩);go_ret2;exact⟨rfl,(Below.refl _ _).alloc (zzC _) _⟩
 ·obtain⟨hb,rfl⟩:bitB fg 1=false/\er=12:=by
   rcases he with h | h
   ·exact absurd h.1 hm
   ·exact h.2
  have tm:decide (many<0)=false:=zzE hm;have HB1:Hid _:=HB.out hb;clear he hm HB hb;go_enter func98,ntmps98;go_wp2_with fail;refine Calls.mono HO.out ?_;rintro _ w ⟨rfl,rfl⟩;go_wp2_with (go_at_call 159;refine Calls.mono (HB1.out _) ?_;rintro _ _ ⟨rfl,rfl⟩);go_ret2;exact⟨rfl,(Below.refl _ _).alloc (zzC _) _⟩
theorem sresize_err (h:StAt F w S na da nc dc nodes data (tabV hs++more))(h8:hs.length=8){k:Nat}{j fg a m:Int}(hk:hs[k]? = some (true,j,fg,a))(hf:0<=fg/\fg<=63){er:Int}(he:((m<0\/256<m)/\er=2)\/(0<=m/\m<=256/\bitB fg 2=false/\er=12)):
  Calls prog 101 #[.pointer (some ⟨S,0,none⟩),.int .i64 (k:Int),.int .i64 m] w fun e w'=>e=.returned (.int .i64 er)/\Below w.heap.size w w':=by
 have hlt:=h.lt;have HO:Hid _:=sopen_any h h8 (k:Int);rw[used_true h8 hk] at HO;obtain⟨c0,c1,c2,c3,hfz⟩:=h.hnd hk;have hkl:=(List.getElem?_eq_some_iff.1 hk).1;have hk8:k<8:=by omega
 have t3:(k:Int)<8:=by omega
 have HB:Hid (bitB fg 2=false->∀W,Calls prog 159 #[.int .i64 fg,.int .i64 2] W fun e w'=>e=.returned (.bool false)/\w'=W):=fun hb W=>by have:=bit_any fg 2 W hf ⟨by decide,by decide⟩;rwa [hb] at this
 clear h hk hfz hf h8 hkl;by_cases h0:m<0
 ·obtain rfl:er=2:=by omega
  clear he;go_enter func101,ntmps101;go_wp2_with (go_at_call 163;refine Calls.mono HO.out ?_;rintro _ w ⟨rfl,rfl⟩);go_ret;exact⟨rfl,Below.refl _ _⟩
 ·have t0:decide (m<0)=false:=zzE h0
  by_cases h1:256<m
  ·obtain rfl:er=2:=by omega
   clear he;go_enter func101,ntmps101;go_wp2_with (go_at_call 163;refine Calls.mono HO.out ?_;rintro _ w ⟨rfl,rfl⟩);go_ret;exact⟨rfl,Below.refl _ _⟩
  ·have t1:decide (256<m)=false:=zzE h1
   obtain⟨hb,rfl⟩:bitB fg 2=false/\er=12:=by
    rcases he with h | h
    ·omega
    ·exact h.2.2
   have HB1:Hid _:=HB.out hb;clear he h0 h1 HB hb;go_enter func101,ntmps101;go_wp2_with fail;refine Calls.mono HO.out ?_;rintro _ w ⟨rfl,rfl⟩;go_wp2_with (go_at_call 159;refine Calls.mono (HB1.out _) ?_;rintro _ _ ⟨rfl,rfl⟩);go_ret;exact⟨rfl,Below.refl _ _⟩
end
def padL (l:List UInt8)(n:Nat):List UInt8:=l++List.replicate (n-l.length) 0
theorem pad_len (l:List UInt8)(n:Nat):(padL l n).length=max l.length n:=by unfold padL;simp;omega
theorem pad_next {l:List UInt8}{k:Nat}(h:l.length<=k):padL l k ++ [0]=padL l (k+1):=by
 unfold padL;rw[List.append_assoc,show k+1-l.length=(k-l.length)+1 by omega,List.replicate_succ']
theorem pad_big {l:List UInt8}{n:Nat}(h:n<=l.length):padL l n=l:=by unfold padL;rw[show n-l.length=0 by omega];simp
def wrL (old d:List UInt8)(a i:Nat):List UInt8:=(padL old a).take a++d.take i++(padL old a).drop (a+i)
theorem wr_zero (old d:List UInt8)(a:Nat):wrL old d a 0=padL old a:=by unfold wrL;simp
theorem wr_len {old d:List UInt8}{a i:Nat}(h:i<=d.length):(wrL old d a i).length=max (max old.length a) (a+i):=by
 unfold wrL;simp[pad_len];omega
theorem wr_next {old d:List UInt8}{a i:Nat}(h:i<d.length):(wrL old d a i).take (a+i) ++ [d[i]]++(wrL old d a i).drop (a+i+1)=wrL old d a (i+1):=by
 have h1:((padL old a).take a++d.take i).length=a+i:=by simp[pad_len];omega
 unfold wrL;rw[List.take_left' h1,List.drop_append,h1,show a+i+1-(a+i)=1 by omega,List.drop_of_length_le (by omega),List.drop_drop,zzI h,List.nil_append];simp[Nat.add_assoc]
theorem wr_end (old d:List UInt8)(a:Nat):wrL old d a d.length=writeL old d a:=by
 unfold wrL writeL padL
 congr 1
 ·congr 1
  ·rcases Nat.le_total a old.length with h | h
   ·rw[show a-old.length=0 by omega];simp[List.take_append_of_le_length h]
   ·simp[List.take_append,List.take_of_length_le h];omega
  ·exact List.take_length
 ·rcases Nat.le_total (a+d.length) old.length with h | h
  ·rw[show a-old.length=0 by omega,Nat.max_eq_left h,show old.length-old.length=0 by omega]
  ·rw[List.drop_of_length_le (by simp;omega),List.drop_of_length_le (by simp;omega)]
def ba (l:List UInt8):ByteArray:=⟨l.toArray⟩
theorem ba_size (l:List UInt8):(ba l).size=l.length:=by show l.toArray.size=_;simp
theorem ba_app (a b:List UInt8):ba a++ba b=ba (a++b):=by
 apply ByteArray.ext;rw[ByteArray.data_append];simp[ba]
theorem ba_of (d:ByteArray):ba d.data.toList=d:=rfl
theorem ba_ext (l:List UInt8)(i j:Nat):(ba l).extract i j=ba ((l.take j).drop i):=by
 apply ByteArray.ext;rw[ByteArray.data_extract];apply Array.toList_inj.1;rw[Array.toList_extract];simp[ba,List.extract,List.drop_take]
theorem ba_one {d:ByteArray}{i:Nat}(h:i<d.data.toList.length):d.extract i (i+1)=ba [d.data.toList[i]]:=by
 have:=ba_ext d.data.toList i (i+1)
 rw[ba_of,zzI h,List.drop_left' (by rw[List.length_take];omega)] at this;exact this
section
variable {F:Nat->Prop}{w:World}{S:Nat}{na da:Option Addr}{nc dc:Nat}{nodes:List Ent}{data:List ByteArray}{hs:List Hnd}{more rest:List Value}
theorem StAt.setD {g j:Nat}(h:StAt F w S na (some ⟨g,0,none⟩) nc dc nodes data rest)(hj:j<data.length)(v:ByteArray):
  StAt F (w.setCell ⟨g,j,none⟩ (.string v)) S na (some ⟨g,0,none⟩) nc dc nodes (data.set j v) rest/\Keeps F w (w.setCell ⟨g,j,none⟩ (.string v)):=by
 obtain⟨cur,hc⟩:=owns_block h.rowD rfl;have hl:(data.set j v).length=data.length:=by simp
 refine⟨⟨h.fS,?_,row_set_other h.rowN hc (by decide),?_,h.fn,?_⟩,keeps_set (h.fd g rfl)⟩
 ·rw[hl,Below.heap_setCell _ _ _ _ (fun e=>owns_ne_cells h.rowD h.hS (by decide) (by rw[show S=g from e];rfl))];exact h.hS
 ·rw[hl]
  have:=(h.rowD.stored j (.string v)).1
  rw[encS,List.map_set];exact this
 ·rw[hl];exact h.fd
theorem swrite_err (h:StAt F w S na da nc dc nodes data (tabV hs++more))(h8:hs.length=8){k:Nat}{j fg a:Int}{x:ByteArray}(hk:hs[k]? = some (true,j,fg,a))(hf:0<=fg/\fg<=63){er:Int}(he:(bitB fg 2=false/\er=12)\/(bitB fg 2=true/\x=⟨#[]⟩/\er=0)):
  Calls prog 99 #[.pointer (some ⟨S,0,none⟩),.int .i64 (k:Int),.string x] w fun e w'=>e=.returned (.int .i64 er)/\Below w.heap.size w w':=by
 have hlt:=h.lt;have HO:Hid _:=sopen_any h h8 (k:Int);rw[used_true h8 hk] at HO;obtain⟨c0,c1,c2,c3,hfz⟩:=h.hnd hk;have hkl:=(List.getElem?_eq_some_iff.1 hk).1;have hk8:k<8:=by omega
 have t3:(k:Int)<8:=by omega
 have HB:Hid _:=fun W=>bit_any fg 2 W hf ⟨by decide,by decide⟩;clear h hk hfz hf h8 hkl;cases hb:bitB fg 2 with
 | false=>
  obtain rfl:er=12:=by
   rcases he with h | h
   ·exact h.2
   ·rw[hb] at h;cases h.1
  rw[hb] at HB;clear he hb;go_enter func99,ntmps99;go_wp2_with fail;refine Calls.mono HO.out ?_;rintro _ w ⟨rfl,rfl⟩;go_wp2_with (go_at_call 159;refine Calls.mono (HB.out _) ?_;rintro _ _ ⟨rfl,rfl⟩);go_ret;exact⟨rfl,(Below.refl _ _).alloc (zzC _) _⟩
 | true=>
  obtain⟨rfl,rfl⟩:x=⟨#[]⟩/\er=0:=by
   rcases he with h | h
   ·rw[hb] at h;cases h.1
   ·exact h.2
  rw[hb] at HB;clear he hb;go_enter func99,ntmps99;go_wp2_with fail;refine Calls.mono HO.out ?_;rintro _ w ⟨rfl,rfl⟩;go_wp2_with (go_at_call 159;refine Calls.mono (HB.out _) ?_;rintro _ _ ⟨rfl,rfl⟩);go_ret;exact⟨rfl,(Below.refl _ _).alloc (zzC _) _⟩
end
def szOf (v:Value):Nat:=match v with | .string s=>s.size | _=>0
theorem toL_data (d:ByteArray):d.data.toList.length=d.size:=rfl
theorem wr_step {L:List UInt8}{x e:ByteArray}{t i:Nat}(he:e=ba (wrL L x.data.toList t i))(hi:i<x.size){r:ByteArray}(hr:r=ba ((wrL L x.data.toList t i).drop (t+i+1))):e.extract 0 (t+i)++x.extract i (i+1)++r=ba (wrL L x.data.toList t (i+1)):=by
 rw[he,hr,ba_ext,ba_one (d:=x) (by rw[toL_data];exact hi),ba_app,ba_app,List.drop_zero,wr_next]
theorem ba_drop (l:List UInt8)(i:Nat):(ba l).extract i (ba l).size=ba (l.drop i):=by rw[ba_ext,ba_size,List.take_length]
theorem Keeps.two {F:Nat->Prop}{w w1 w2:World}(h:Keeps F w w1)(k:Keeps F w1 w2):Keeps F w w2:=⟨k.os.trans h.os,k.tape.trans h.tape,k.output.trans h.output,zzG h.size k.size,fun x hx hn=>(k.block x (zzA hx h.size) hn).trans (h.block x hx hn)⟩
section
variable {F:Nat->Prop}{w:World}{S:Nat}{na da:Option Addr}{nc dc:Nat}{nodes:List Ent}{data:List ByteArray}{hs:List Hnd}{more rest:List Value}
theorem swrite_ok (h:StAt F w S na da nc dc nodes data (tabV hs++more))(h8:hs.length=8){k j a t:Nat}{fg:Int}{d x:ByteArray}(hk:hs[k]? = some (true,(j:Int),fg,(a:Int)))(hj:data[j]? = some d)(hf:0<=fg/\fg<=63)(ha:a<=256)(hd:d.size<=256)(hb:bitB fg 2=true)(hx:x.size≠0)(ht:(bitB fg 32=true/\t=d.size)\/(bitB fg 32=false/\t=a))(hft:t+x.size<=256)(hl:data.length<=1000000000):
  Calls prog 99 #[.pointer (some ⟨S,0,none⟩),.int .i64 (k:Int),.string x] w fun e w'=>e=.returned (.int .i64 0)/\
   StAt F w' S na da nc dc nodes (data.set j (writeB d x t)) (tabV (hs.set k (true,(j:Int),fg,(t:Int)+x.size))++more)/\Keeps F w w':=by
 have hlt:=h.lt;have HO:Hid _:=sopen_any h h8 (k:Int);rw[used_true h8 hk] at HO;have HB:Hid (∀W,Calls prog 159 #[.int .i64 fg,.int .i64 2] W fun e w'=>e=.returned (.bool true)/\w'=W):=fun W=>by have:=bit_any fg 2 W hf ⟨by decide,by decide⟩;rwa [hb] at this
 have HC:Hid _:=fun W=>bit_any fg 32 W hf ⟨by decide,by decide⟩;obtain⟨c0,c1,c2,c3,hfz⟩:=h.hnd hk;have hkl:=(List.getElem?_eq_some_iff.1 hk).1;have hk8:k<8:=by omega
 have t3:(k:Int)<8:=by omega
 have HS:Hid (StAt F w S na da nc dc nodes data (tabV hs++more)):=h;have HK:Hid (hs[k]? = some (true,(j:Int),fg,(a:Int))):=hk;have HJ:Hid (data[j]? = some d):=hj;have hxn:(x.toList == [])=false:=some_bytes (by omega);have tf:decide (256<(t:Int)+(x.size:Int))=false:=zzE (by omega);have HT:Hid _:=ht;clear h hk hj hfz hb hf h8 hkl ht;go_enter func99,ntmps99;go_wp2_with fail;refine Calls.mono HO.out ?_;rintro _ w ⟨rfl,rfl⟩;go_wp2_with fail;refine Calls.mono (HB.out _) ?_;rintro _ w1 ⟨rfl,HW1⟩;have hbw:Below w.heap.size w w1:=by rw[HW1];exact (Below.refl _ _).alloc (zzC _) _
 have b1:w1.cell? ⟨w.heap.size,1,none⟩=some (.int .i64 (j:Int)):=by rw[HW1];simp
 have b2:w1.cell? ⟨w.heap.size,2,none⟩=some (.int .i64 fg):=by rw[HW1];simp
 have b3:w1.cell? ⟨w.heap.size,3,none⟩=some (.int .i64 (a:Int)):=by rw[HW1];simp
 have hbl:w.heap.size<w1.heap.size:=by rw[HW1];simp
 have hst:=HS.out.below hbw;have k1:=hst.c1;obtain⟨gd,hgd,hgdl,xd,_⟩:=row_one hst.rowD (i:=j) (v:=.string d) (by simp[encS,HJ.out]);have hSl:=hst.lt;have hjl:j<data.length:=(List.getElem?_eq_some_iff.1 HJ.out).1;obtain⟨md,hmd⟩:∃md,md=data.length:=⟨_,rfl⟩;rw[<-hmd] at k1 hjl hl;have hjm:(j:Int)<(md:Int):=by omega
 subst hgd;have HST:Hid _:=hst;have HW:Hid _:=hbw;clear HW1 c0 c1 c2 c3 hst hbw;go_wp2_with fail
 go_region
 go_upto_if 42 with (go_at_call 159;refine Calls.mono (HC.out _) ?_;rintro _ _ ⟨rfl,rfl⟩)
 go_cut [10] from 43 to 44 (fun v wx=>v=.int .i64 (t:Int)/\Hid (Below w1.heap.size w1 wx))
 case first=>
  go_wp2
  all_goals
   go_meet;refine⟨?_,(Below.refl _ _).drew⟩;rcases HT.out with h | h <;> first | exact absurd (h.1.symm.trans (by assumption)) (by decide) | rw[h.2]
 case rest=>
  obtain⟨rfl,HB2⟩:=hcut;clear HC HB HO HT;go_wp2
  go_loopw [9] (fun v wr=>∃e:ByteArray,e.size<=600/\v=.string e/\Hid (e=ba (padL d.data.toList e.size)/\d.size<=e.size/\e.size<=max d.size t)/\Hid (Below w1.heap.size w1 wr)) (fun v _=>600-szOf v)
  case atStart=>exact⟨d,by omega,rfl,⟨by rw[<-toL_data,pad_big (zzC _),ba_of],zzC _,Nat.le_max_left _ _⟩,HB2⟩
  case round=>
   obtain⟨e,he6,rfl,HE,HBL⟩:=hrel;by_cases q:e.size<t
   ·have q1:(e.size:Int)<(t:Int):=by omega
    go_wp2;obtain⟨z1,z2,z3⟩:=HE.out;have hz:(e++(⟨#[0]⟩:ByteArray)).size=e.size+1:=by rw[ByteArray.size_append];rfl
    refine⟨⟨_,by rw[hz];omega,rfl,⟨?_,by rw[hz];omega,by rw[hz];omega⟩,HBL⟩,by unfold szOf;simp only;rw[hz];omega⟩;rw[hz,<-pad_next (by rw[toL_data];exact z2),<-ba_app,<-z1];rfl
   ·have q1:decide ((e.size:Int)<(t:Int))=false:=zzE (by omega)
    have HP:Hid (e=ba (wrL d.data.toList x.data.toList t 0)):=by
     obtain⟨z1,z2,z3⟩:=HE.out;show _=_;rw[wr_zero];by_cases hdt:t<=d.size
     ·rw[z1,show e.size=d.size by omega,pad_big (by rw[toL_data];omega),pad_big (by rw[toL_data];exact hdt)]
     ·rw[z1,show e.size=t by omega]
    have HBW:Hid (Below w1.heap.size w1 wr):=HBL;clear HE HBL;go_wp2
    go_loopw [9,11] (fun v9 v11 wr=>∃(e:ByteArray) (i:Nat),i<=x.size/\e.size<=600/\v9=.string e/\v11=.int .i64 (i:Int)/\Hid (e=ba (wrL d.data.toList x.data.toList t i))/\Hid (Below w1.heap.size w1 wr)) (fun _ v _=>300-(intOf v).toNat)
    case atStart=>exact⟨e,0,by omega,by omega,rfl,rfl,HP,HBW⟩
    case round=>
     clear HP HBW q1 q;obtain⟨e,i,hi,he6,rfl,rfl,HE,HBL⟩:=hrel;have HES:Hid (e.size=max (max d.size t) (t+i)):=by
      have:=HE.out
      show _=_;rw[this,ba_size,wr_len (by rw[toL_data];exact hi),toL_data]
     have q0:(t:Int)+(i:Int)<=(e.size:Int):=by have:=HES.out;omega
     by_cases q:i<x.size
     ·have q1:(i:Int)<(x.size:Int):=by omega
      have q3:(i:Int)+1<=(x.size:Int):=(by omega);have HN:Hid ((ba (wrL d.data.toList x.data.toList t (i+1))).size<=600):=by
       show _<=_;rw[ba_size,wr_len (by rw[toL_data];exact q),toL_data];omega
      by_cases q2:t+i+1<e.size
      ·have q4:(t:Int)+(i:Int)+1<(e.size:Int):=by omega
       go_wp2
       go_region
       go_wp2;have HG:Hid (e.extract 0 (t+i)++x.extract i (i+1)++e.extract (t+i+1) e.size=ba (wrL d.data.toList x.data.toList t (i+1))):=wr_step HE.out q (by rw[HE.out];exact ba_drop _ _);exact⟨⟨_,i+1,q,by rw[HG.out];exact HN.out,rfl,rfl,HG.out,HBL.out.drew⟩,by simp[intOf];omega⟩
      ·have q4:decide ((t:Int)+(i:Int)+1<(e.size:Int))=false:=zzE (by omega)
       go_wp2
       go_region
       go_wp2;have HG:Hid (e.extract 0 (t+i)++x.extract i (i+1)++⟨#[]⟩=ba (wrL d.data.toList x.data.toList t (i+1))):=wr_step HE.out q (by
        rw[List.drop_of_length_le (by have:=HE.out;have h2:=congrArg ByteArray.size this;rw[ba_size] at h2;omega)];rfl)
       exact⟨⟨_,i+1,q,by rw[HG.out];exact HN.out,rfl,rfl,HG.out,HBL.out.drew⟩,by simp[intOf];omega⟩
     ·have q1:decide ((i:Int)<(x.size:Int))=false:=zzE (by omega)
      have HEE:Hid (writeB d x t=e):=by
       show _=_;rw[HE.out,show i=x.data.toList.length by rw[toL_data];omega,wr_end];rfl
      have hst2:=HST.out.below HBL.out;obtain⟨_,_,_,g3,hfz2⟩:=hst2.hnd HK.out;have f3:=hfz2 (2+k*4+3);have k1':=hst2.c1;rw[<-hmd] at k1';have b1':=(HBL.out.cell (p:=⟨w.heap.size,1,none⟩) hbl).trans b1;have xd':=(HBL.out.cell (p:=⟨gd,j,none⟩) hgdl).trans xd;obtain⟨cur,hcur⟩:=owns_block hst2.rowD rfl;have fd:wr.frozen? ⟨gd,j,none⟩=false:=by simp[World.frozen?,hcur]
      have hne:gd≠S:=fun e=>owns_ne_cells hst2.rowD hst2.hS (by decide) (by rw[e];rfl);have hne2:S≠gd:=fun e=>hne e.symm;have hSl2:=hst2.lt;have hbl2:=zzA hbl HBL.out.size;have hgd2:=zzA hgdl HBL.out.size;have HST2:Hid _:=hst2;clear hst2 hfz2 b1 b2 b3 xd k1 hSl hcur;go_wp2
      go_region
      go_wp2;go_ret;rw[HEE.out];obtain⟨p1,p2⟩:=HST2.out.setD (by rw[<-hmd];exact hjl) e;obtain⟨p3,p4⟩:=p1.place HK.out ((t:Int)+(x.size:Int));exact⟨rfl,p3.below (Below.refl _ _).drew,(((p2.two p4).two (Keeps.of_below (Below.refl _ _).drew)).after HBL.out).after HW.out⟩
theorem swrite_full (h:StAt F w S na da nc dc nodes data (tabV hs++more))(h8:hs.length=8){k j a t:Nat}{fg:Int}{d x:ByteArray}(hk:hs[k]? = some (true,(j:Int),fg,(a:Int)))(hj:data[j]? = some d)(hf:0<=fg/\fg<=63)(ha:a<=256)(hd:d.size<=256)(hb:bitB fg 2=true)(hx:x.size≠0)(ht:(bitB fg 32=true/\t=d.size)\/(bitB fg 32=false/\t=a))(hft:256<t+x.size)(hx2:x.size<=1048576)(hl:data.length<=1000000000):
  Calls prog 99 #[.pointer (some ⟨S,0,none⟩),.int .i64 (k:Int),.string x] w fun e w'=>e=.returned (.int .i64 11)/\Below w.heap.size w w':=by
 have hlt:=h.lt;have HO:Hid _:=sopen_any h h8 (k:Int);rw[used_true h8 hk] at HO;have HB:Hid (∀W,Calls prog 159 #[.int .i64 fg,.int .i64 2] W fun e w'=>e=.returned (.bool true)/\w'=W):=fun W=>by have:=bit_any fg 2 W hf ⟨by decide,by decide⟩;rwa [hb] at this
 have HC:Hid _:=fun W=>bit_any fg 32 W hf ⟨by decide,by decide⟩;obtain⟨c0,c1,c2,c3,hfz⟩:=h.hnd hk;have hkl:=(List.getElem?_eq_some_iff.1 hk).1;have hk8:k<8:=by omega
 have t3:(k:Int)<8:=by omega
 have HS:Hid (StAt F w S na da nc dc nodes data (tabV hs++more)):=h;have HK:Hid (hs[k]? = some (true,(j:Int),fg,(a:Int))):=hk;have HJ:Hid (data[j]? = some d):=hj;have hxn:(x.toList == [])=false:=some_bytes (by omega);have htb:t<=256:=by rcases ht with h | h <;> omega
 have tf:256<(t:Int)+(x.size:Int):=by omega
 have HT:Hid _:=ht;clear h hk hj hfz hb hf h8 hkl ht;go_enter func99,ntmps99;go_wp2_with fail;refine Calls.mono HO.out ?_;rintro _ w ⟨rfl,rfl⟩;go_wp2_with fail;refine Calls.mono (HB.out _) ?_;rintro _ w1 ⟨rfl,HW1⟩;have hbw:Below w.heap.size w w1:=by rw[HW1];exact (Below.refl _ _).alloc (zzC _) _
 have b1:w1.cell? ⟨w.heap.size,1,none⟩=some (.int .i64 (j:Int)):=by rw[HW1];simp
 have b2:w1.cell? ⟨w.heap.size,2,none⟩=some (.int .i64 fg):=by rw[HW1];simp
 have b3:w1.cell? ⟨w.heap.size,3,none⟩=some (.int .i64 (a:Int)):=by rw[HW1];simp
 have hbl:w.heap.size<w1.heap.size:=by rw[HW1];simp
 have hst:=HS.out.below hbw;have k1:=hst.c1;obtain⟨gd,hgd,hgdl,xd,_⟩:=row_one hst.rowD (i:=j) (v:=.string d) (by simp[encS,HJ.out]);have hSl:=hst.lt;have hjl:j<data.length:=(List.getElem?_eq_some_iff.1 HJ.out).1;obtain⟨md,hmd⟩:∃md,md=data.length:=⟨_,rfl⟩;rw[<-hmd] at k1 hjl hl;have hjm:(j:Int)<(md:Int):=by omega
 subst hgd;have HST:Hid _:=hst;have HW:Hid _:=hbw;clear HW1 c0 c1 c2 c3 hst hbw;go_wp2_with fail
 go_region
 go_upto_if 42 with (go_at_call 159;refine Calls.mono (HC.out _) ?_;rintro _ _ ⟨rfl,rfl⟩)
 go_cut [10] from 43 to 44 (fun v wx=>v=.int .i64 (t:Int)/\Hid (Below w1.heap.size w1 wx))
 case first=>
  go_wp2
  all_goals
   go_meet;refine⟨?_,(Below.refl _ _).drew⟩;rcases HT.out with h | h <;> first | exact absurd (h.1.symm.trans (by assumption)) (by decide) | rw[h.2]
 case rest=>
  obtain⟨rfl,HB2⟩:=hcut;clear HC HB HO HT;go_wp2;go_ret;exact⟨rfl,HW.out.trans (HB2.out.mono (Nat.le_of_lt hbl))⟩
def resizeB (d:ByteArray)(m:Nat):ByteArray:=ba ((padL d.data.toList m).take m)
theorem sresize_ok (h:StAt F w S na da nc dc nodes data (tabV hs++more))(h8:hs.length=8){k j m:Nat}{fg a:Int}{d:ByteArray}(hk:hs[k]? = some (true,(j:Int),fg,a))(hj:data[j]? = some d)(hf:0<=fg/\fg<=63)(hd:d.size<=256)(hb:bitB fg 2=true)(hm:m<=256)(hl:data.length<=1000000000):
  Calls prog 101 #[.pointer (some ⟨S,0,none⟩),.int .i64 (k:Int),.int .i64 (m:Int)] w fun e w'=>e=.returned (.int .i64 0)/\
   StAt F w' S na da nc dc nodes (data.set j (resizeB d m)) (tabV hs++more)/\Keeps F w w':=by
 have hlt:=h.lt;have HO:Hid _:=sopen_any h h8 (k:Int);rw[used_true h8 hk] at HO;have HB:Hid (∀W,Calls prog 159 #[.int .i64 fg,.int .i64 2] W fun e w'=>e=.returned (.bool true)/\w'=W):=fun W=>by have:=bit_any fg 2 W hf ⟨by decide,by decide⟩;rwa [hb] at this
 obtain⟨c0,c1,c2,c3,hfz⟩:=h.hnd hk;have hkl:=(List.getElem?_eq_some_iff.1 hk).1;have hk8:k<8:=by omega
 have t3:(k:Int)<8:=by omega
 have t0:decide ((m:Int)<0)=false:=zzE (by omega);have t1:decide (256<(m:Int))=false:=zzE (by omega);have k1:=h.c1;have HS:Hid (StAt F w S na da nc dc nodes data (tabV hs++more)):=h;have HK:Hid (hs[k]? = some (true,(j:Int),fg,a)):=hk;have HJ:Hid (data[j]? = some d):=hj;obtain⟨gd,hgd,hgdl,xd,_⟩:=row_one h.rowD (i:=j) (v:=.string d) (by simp[encS,hj]);have hjl:j<data.length:=(List.getElem?_eq_some_iff.1 hj).1;obtain⟨md,hmd⟩:∃md,md=data.length:=⟨_,rfl⟩;rw[<-hmd] at k1 hjl hl;have hjm:(j:Int)<(md:Int):=by omega
 subst hgd;clear h hk hj hfz hb hf h8 hkl;go_enter func101,ntmps101;go_wp2_with fail;refine Calls.mono HO.out ?_;rintro _ w ⟨rfl,rfl⟩;go_wp2_with fail;refine Calls.mono (HB.out _) ?_;rintro _ w ⟨rfl,rfl⟩;clear HO HB;go_wp2
 go_region
 go_wp2
 go_loopw [8] (fun v wr=>∃e:ByteArray,e.size<=600/\v=.string e/\Hid (e=ba (padL d.data.toList e.size)/\d.size<=e.size/\e.size<=max d.size m)/\Hid (Below w.heap.size w wr)) (fun v _=>600-szOf v)
 case atStart=>exact⟨d,by omega,rfl,⟨by rw[<-toL_data,pad_big (zzC _),ba_of],zzC _,Nat.le_max_left _ _⟩,(Below.refl _ _).drew⟩
 case round=>
  obtain⟨e,he6,rfl,HE,HBL⟩:=hrel;by_cases q:e.size<m
  ·have q1:(e.size:Int)<(m:Int):=by omega
   go_wp2;obtain⟨z1,z2,z3⟩:=HE.out;have hz:(e++(⟨#[0]⟩:ByteArray)).size=e.size+1:=by rw[ByteArray.size_append];rfl
   refine⟨⟨_,by rw[hz];omega,rfl,⟨?_,by rw[hz];omega,by rw[hz];omega⟩,HBL⟩,by unfold szOf;simp only;rw[hz];omega⟩;rw[hz,<-pad_next (by rw[toL_data];exact z2),<-ba_app,<-z1];rfl
  ·have q1:decide ((e.size:Int)<(m:Int))=false:=zzE (by omega)
   have q2:(m:Int)<=(e.size:Int):=by omega
   have HP:Hid (resizeB d m=e.extract 0 m):=by
    obtain⟨z1,z2,z3⟩:=HE.out;show _=_;have he:e=ba (padL d.data.toList m):=by
     by_cases hdt:m<=d.size
     ·rw[z1,show e.size=d.size by omega,pad_big (by rw[toL_data];omega),pad_big (by rw[toL_data];exact hdt)]
     ·rw[z1,show e.size=m by omega]
    unfold resizeB;rw[he,ba_ext,List.drop_zero]
   have hst2:=HS.out.below HBL.out;obtain⟨g0,g1,g2,g3,hfz2⟩:=hst2.hnd HK.out;have k1':=hst2.c1;rw[<-hmd] at k1';have xd':=(HBL.out.cell (p:=⟨gd,j,none⟩) hgdl).trans xd;obtain⟨cur,hcur⟩:=owns_block hst2.rowD rfl;have fd:wr.frozen? ⟨gd,j,none⟩=false:=by simp[World.frozen?,hcur]
   have hSl2:=hst2.lt;have hgd2:=zzA hgdl HBL.out.size;have HST2:Hid _:=hst2;clear hst2 hfz2 xd k1 hcur c0 c1 c2 c3 HE;go_wp2
   go_region
   go_wp2;go_ret;rw[HP.out];obtain⟨p1,p2⟩:=HST2.out.setD (by rw[<-hmd];exact hjl) (e.extract 0 m);exact⟨rfl,p1.below (Below.refl _ _).drew,(p2.two (Keeps.of_below (Below.refl _ _).drew)).after HBL.out⟩
end
end Go.Proofs.YtlgidcmmgohagaaGreat
