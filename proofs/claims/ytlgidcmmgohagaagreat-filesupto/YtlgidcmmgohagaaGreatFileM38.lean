/- What is proved here: Read at a workspace. -/
import Derived.Test.YtlgidcmmgohagaaGreatFileM37
import Derived.Test.YtlgidcmmgohagaaGreatFileM35
import Derived.Test.YtlgidcmmgohagaaGreatFileM26
import Derived.Test.YtlgidcmmgohagaaGreatFileM31
import Derived.Test.YtlgidcmmgohagaaGreatFileM33
namespace Go.Proofs.YtlgidcmmgohagaaGreat
open Go.RowKit Go.Sort Go.Shelf Go.Proofs.Tryz
set_option linter.unusedVariables false
set_option maxRecDepth 100000
set_option maxHeartbeats 16000000
theorem ext_empty {d:ByteArray}{a x:Nat}(h:d.size<=a):d.extract a x=⟨#[]⟩:=by
 apply ByteArray.ext;rw[ByteArray.data_extract];have h2:d.data.size=d.size:=rfl;apply Array.eq_empty_of_size_eq_zero;rw[Array.size_extract];omega
theorem ext_min (d:ByteArray)(a x:Nat):d.extract a (min x d.size)=d.extract a x:=by
 rcases Nat.le_total x d.size with h | h
 ·rw[Nat.min_eq_left h]
 ·rw[Nat.min_eq_right h];exact ext_big (zzC _) h
theorem ext_read {d:ByteArray}(hd:d.size<=256){a m:Nat}(ha:a<=256):d.extract (min a d.size) (min (min a d.size+min m (256-a)) d.size)=d.extract a (a+m):=by
 rw[ext_min];rcases Nat.lt_or_ge a d.size with h | h
 ·rw[Nat.min_eq_left (by omega),<-ext_min,<-ext_min d a (a+m)]
  congr 1;omega
 ·rw[Nat.min_eq_right h,ext_empty (zzC _),ext_empty h]
section
variable {s i p:Nat}{B:WB}{objs:List Ob}{tg:Tags}{w:World}{g:WG}{lim:Nat}{t:LT}{nodes:List Ent}{data:List ByteArray}{rest:List Value}
theorem bytes_now (h:QInv tg w s i p B objs g lim t)(hb:g.fs.brk=false){f:Nat}{x:Int×ByteArray}(hf:g.fl f=some x):∃fs1,bytesG objs g.fl g.fs f=(fs1,0,fcOf objs g.fl f)/\g.fs.Next fs1/\(fcOf objs g.fl f).size<=256:=by
 obtain⟨hN,hE⟩:=fair_next (fair_bytes objs g.fl g.fs f) hb;have e:(bytesG objs g.fl fsAll f).2=(0,fcOf objs g.fl f):=by
  obtain⟨id,d⟩:=x;unfold bytesG fcOf;rw[hf];by_cases h0:id=0
  ·simp[h0]
  ·simp[h0,FS.fileG,fsAll]
 rw[e] at hE;have e2:bytesG objs g.fl g.fs f=((bytesG objs g.fl g.fs f).1,0,fcOf objs g.fl f):=Prod.ext rfl hE;exact⟨_,e2,hN,bytes_len h.inv h.fl e2⟩
theorem set_back {hs:List Hnd}{k:Nat}{x:Hnd}(h:hs[k]? = some x):hs.set k x=hs:=by
 obtain⟨hl,e⟩:=List.getElem?_eq_some_iff.1 h;rw[<-e,List.set_getElem_self]
theorem p_read (h:QInv tg w s i p B objs g lim t)(hl:lim+1000<1099511627776)(hb:g.fs.brk=false)(hi:HeldInj objs t)(hY:Tied objs g.fl g.op t nodes data rest)(hdl:data.length<=1000000000)(Sb:Nat)(n m:Int):
  ∃a er rest',(er == 14)=false/\(Calls prog 66 #[.pointer (some ⟨B.wb,0,none⟩),.int .i64 n,.int .i64 m] w fun e w'=>e=.returned (.tuple #[.string a,.int .i64 er])/\Did9 s i p B objs tg w w' g (lim+400) nodes data rest')/\
   ∀{F:Nat->Prop} {w1:World},StInv F w1 Sb nodes data rest->Calls prog 98 #[.pointer (some ⟨Sb,0,none⟩),.int .i64 n,.int .i64 m] w1 fun e w'=>e=.returned (.tuple #[.string a,.int .i64 er])/\StInv (NewF F w1 w') w' Sb nodes data rest'/\Keeps F w1 w':=by
 have hY':=hY;obtain⟨⟨φ,hs,more,rfl,hM⟩,hsd⟩:=hY;obtain⟨hwb,c0,hT⟩:=h.ws;rcases hM.used n with ⟨hu,hn⟩ | ⟨k,b,f,fg,pl,hk,rfl,ho,hh⟩
 ·refine⟨⟨#[]⟩,3,_,rfl,(read_no hT hn m).mono fun e w' ⟨he,hw⟩=>⟨he,did_same h hb hi hY' (by rw[hw];exact Below.refl _ _)⟩,fun hst=>?_⟩
  obtain⟨na,nc,da,dc,hst'⟩:=hst;exact (sread_none hst' hM.h8 n m hu).mono fun e w' ⟨he,hbl⟩=>⟨he,stinv_same ⟨na,nc,da,dc,hst'⟩ hbl⟩
 ·obtain⟨⟨x,hx⟩,hfg,hp0,hp1⟩:=h.fg ho
  obtain⟨hbl,_,c1,c2,hfz⟩:=opened_cells h.inv ho;obtain⟨hb1,_⟩:=bit_of hfg;have err:∀er:Int,(er == 14)=false->((m<0/\er=2)\/(0<=m/\bitB fg 1=false/\er=12))->∃a er rest',(er == 14)=false/\(Calls prog 66 #[.pointer (some ⟨B.wb,0,none⟩),.int .i64 (k:Int),.int .i64 m] w fun e w'=>e=.returned (.tuple #[.string a,.int .i64 er])/\Did9 s i p B objs tg w w' g (lim+400) nodes data rest')/\
   ∀{F:Nat->Prop} {w1:World},StInv F w1 Sb nodes data (tabV hs++more)->Calls prog 98 #[.pointer (some ⟨Sb,0,none⟩),.int .i64 (k:Int),.int .i64 m] w1 fun e w'=>e=.returned (.tuple #[.string a,.int .i64 er])/\StInv (NewF F w1 w') w' Sb nodes data rest'/\Keeps F w1 w':=fun er h14 he=>by
   refine⟨⟨#[]⟩,er,_,h14,(read_ws B.wb k b m ⟨#[]⟩ er (fun w'=>w'=w) w (h.cell hk ho) hk (oread_err m hbl c1 c2 hp0 hp1 (he.elim (fun e=>.inl e) (fun e=>.inr (.inl ⟨e.1,by rw[hb1,e.2.1];rfl,e.2.2⟩))))).mono fun e w' ⟨he,hw⟩=>⟨he,did_same h hb hi hY' (by rw[hw];exact Below.refl _ _)⟩,fun hst=>?_⟩;obtain⟨na,nc,da,dc,hst'⟩:=hst;exact (sread_err hst' hM.h8 hh hfg he).mono fun e w' ⟨he,hbl⟩=>⟨he,stinv_same ⟨na,nc,da,dc,hst'⟩ hbl⟩
  by_cases hm:m<0
  ·exact err 2 rfl (.inl ⟨hm,rfl⟩)
  ·cases hbt:bitB fg 1 with
   | false=>exact err 12 rfl (.inr ⟨by omega,hbt,rfl⟩)
   | true=>
    have hbf:(bits BinOp.and IntKind.i64 fg 1 == 0)=false:=by rw[hb1,hbt];rfl
    obtain⟨fs1,hB,hN,hsz⟩:=bytes_now h hb hx;have hcont:=hM.cont f (by rw[hx];simp);obtain⟨d,hd⟩:∃d,d=fcOf objs g.fl f:=⟨_,rfl⟩;rw[<-hd] at hB hsz hcont;obtain⟨a,rfl⟩:∃a:Nat,pl=(a:Int):=⟨pl.toNat,by omega⟩;have hdoc:∀{F:Nat->Prop} {w1:World},StInv F w1 Sb nodes data (tabV hs++more)->Calls prog 98 #[.pointer (some ⟨Sb,0,none⟩),.int .i64 (k:Int),.int .i64 m] w1 fun e w'=>e=.returned (.tuple #[.string (d.extract a (a+m.toNat)),.int .i64 0])/\StInv (NewF F w1 w') w' Sb nodes data (tabV (hs.set k (true,(φ f:Int),fg,(a:Int)+(d.extract a (a+m.toNat)).size))++more)/\Keeps F w1 w':=fun hst=>by
     obtain⟨na,nc,da,dc,hst⟩:=hst;exact (sread_ok hst hM.h8 hh hcont hfg (by omega) hsz (by omega) hbt hdl).mono fun e w' ⟨he,h1,h2⟩=>⟨he,stinv_of h1 h2⟩
    by_cases hz:m=0\/(a:Int)=256
    ·have e:d.extract a (a+m.toNat)=⟨#[]⟩:=by
      rcases hz with rfl | hz
      ·exact ext_zero d a
      ·exact ext_empty (by omega)
     rw[e,show ((a:Int)+((⟨#[]⟩:ByteArray).size:Nat))=(a:Int) from Int.add_zero _,set_back hh] at hdoc;exact⟨⟨#[]⟩,0,_,rfl,(read_ws B.wb k b m ⟨#[]⟩ 0 (fun w'=>w'=w) w (h.cell hk ho) hk (oread_err m hbl c1 c2 hp0 hp1 (.inr (.inr ⟨by omega,hbf,hz,rfl⟩)))).mono fun e w' ⟨he,hw⟩=>⟨he,did_same h hb hi hY' (by rw[hw];exact Below.refl _ _)⟩,hdoc⟩
    ·refine⟨_,0,_,rfl,?_,hdoc⟩
     have hg:=read_gen h.inv (by omega) h.fl ho hbf (n:=m) (by omega) (by omega) hB;have e:d.extract (min (a:Int).toNat d.size) (min (min (a:Int).toNat d.size+(min m (256-(a:Int))).toNat) d.size)=d.extract a (a+m.toNat):=by
      rw[Int.toNat_natCast,show (min m (256-(a:Int))).toNat=min m.toNat (256-a) by omega];exact ext_read hsz (by omega)
     rw[e] at hg;refine (read_ws B.wb k b m _ 0 _ w (h.cell hk ho) hk hg).mono ?_;rintro e w' ⟨he,tg',m',hW⟩;refine⟨he,did_files (fl':=g.fl) h hi m' hW (by omega) h.fl hb hN ⟨⟨φ,_,more,rfl,hM.opens hk (some (b,f,fg,_)) (fun x hx=>?_)⟩,hsd⟩⟩;cases hx;exact hM.opf k (b,f,fg,(a:Int)) ho
end
theorem owrite_late (o f:Nat)(fg pl a:Int)(old d:ByteArray)(R:World->Prop)(w:World)(c0:w.cell? ⟨o,0,none⟩=some (.pointer (some ⟨f,0,none⟩)))(c1:w.cell? ⟨o,1,none⟩=some (.int .i64 fg))(c2:w.cell? ⟨o,2,none⟩=some (.int .i64 pl))
  (hfg:(bits BinOp.and IntKind.i64 fg 2 == 0)=false)(hd:1<=d.size)(h0:0<=startF fg pl 0)(h1:startF fg pl 0+d.size<=256)(ha:startF fg pl old.size=a)(ha0:0<=a)(ha2:a<=256)(ha1:256<a+d.size)
  (hg:Calls prog 181 #[.pointer (some ⟨f,0,none⟩)] w fun e w'=>e=.returned (.tuple #[.string old,.int .i64 0])/\R w')
  (hR:∀w1,R w1->w1.cell? ⟨o,0,none⟩=some (.pointer (some ⟨f,0,none⟩))/\w1.cell? ⟨o,1,none⟩=some (.int .i64 fg)/\w1.cell? ⟨o,2,none⟩=some (.int .i64 pl)):
  Calls prog 123 #[.pointer (some ⟨o,0,none⟩),.string d] w fun e w'=>e=.returned (.int .i64 11)/\R w':=by
 have hst:=start_any o fg pl 0 w c1 c2;have hst2:=fun w1 (h:R w1)=>start_any o fg pl old.size w1 (hR w1 h).2.1 (hR w1 h).2.2;simp only[ha] at hst2;generalize startF fg pl 0=s0 at hst h0 h1;have hd':=some_bytes hd;have hw1:IntKind.i64.wrap (s0+d.size)=s0+d.size:=by rw[IntKind.wrap_i64] <;> omega
 have hgt:¬256<s0+(d.size:Int):=by omega
 have hw2:IntKind.i64.wrap (a+d.size)=a+d.size:=by rw[IntKind.wrap_i64] <;> omega
 have HR:Hid _:=hR;have HST2:Hid _:=hst2;clear hR hst2;go_enter func123,ntmps123;go_wp2_with (first
  | (go_at_call_of 180 (Value.int .i64 0);refine hst.mono ?_;rintro e w1 ⟨rfl,rfl⟩)
  | (go_at_call 181;refine hg.mono ?_;rintro e w1 ⟨rfl,hR1⟩;obtain⟨k0,k1,k2⟩:=HR.out w1 hR1;have HR1:Hid _:=hR1;clear hR1)
  | (go_at_call 180;refine (HST2.out _ HR1.out).mono ?_;rintro e w2 ⟨rfl,rfl⟩))
 go_ret;exact⟨rfl,HR1.out⟩
section
variable {s i p:Nat}{B:WB}{objs:List Ob}{tg:Tags}{w:World}{g:WG}{lim:Nat}{t:LT}{nodes:List Ent}{data:List ByteArray}{rest:List Value}
theorem start_bit {fg:Int}(h:0<=fg/\fg<=63)(pl n:Int):startF fg pl n=if bitB fg 32=true then n else pl:=by
 unfold startF;rw[(bit_of h).2.2.2.2.2]
theorem FlOk.write {fl:Fls}(h:FlOk objs fl)(f:Nat)(d:ByteArray):FlOk objs (updN fl f (some (0,d))):=fun f' id d' hf h0=>by
 by_cases e:f'=f
 ·rw[e,updN_same] at hf
  cases hf
  exact absurd rfl h0
 ·rw[updN_other e] at hf
  exact h f' id d' hf h0
def Both (s i p:Nat)(B:WB)(objs:List Ob)(tg:Tags)(w:World)(g:WG)(lim:Nat)(nodes:List Ent)(data:List ByteArray)(rest:List Value)(fp fd:Nat)(args:List Value)(Sb:Nat):Prop:=
 ∃er data' rest',(er == 14)=false/\data'.length=data.length/\(Calls prog fp (.pointer (some ⟨B.wb,0,none⟩) :: args).toArray w fun e w'=>e=.returned (.int .i64 er)/\Did9 s i p B objs tg w w' g (lim+400) nodes data' rest')/\
   ∀{F:Nat->Prop} {w1:World},StInv F w1 Sb nodes data rest->Calls prog fd (.pointer (some ⟨Sb,0,none⟩) :: args).toArray w1 fun e w'=>e=.returned (.int .i64 er)/\StInv (NewF F w1 w') w' Sb nodes data' rest'/\Keeps F w1 w'
theorem Both.same {fp fd:Nat}{args:List Value}{Sb:Nat}(h:QInv tg w s i p B objs g lim t)(hb:g.fs.brk=false)(hi:HeldInj objs t)(hY:Tied objs g.fl g.op t nodes data rest)(er:Int)(h14:(er == 14)=false)
  (hp:Calls prog fp (.pointer (some ⟨B.wb,0,none⟩) :: args).toArray w fun e w'=>e=.returned (.int .i64 er)/\Below w.heap.size w w')
  (hd:∀{F:Nat->Prop} {w1:World} {na da:Option Addr} {nc dc:Nat},StAt F w1 Sb na da nc dc nodes data rest->Calls prog fd (.pointer (some ⟨Sb,0,none⟩) :: args).toArray w1 fun e w'=>e=.returned (.int .i64 er)/\Below w1.heap.size w1 w'):Both s i p B objs tg w g lim nodes data rest fp fd args Sb:=
 ⟨er,data,rest,h14,rfl,hp.mono fun e w' ⟨he,hbl⟩=>⟨he,did_same h hb hi hY hbl⟩,fun⟨na,nc,da,dc,hst⟩=>(hd hst).mono fun e w' ⟨he,hbl⟩=>⟨he,stinv_same ⟨na,nc,da,dc,hst⟩ hbl⟩⟩
theorem p_write (h:QInv tg w s i p B objs g lim t)(hl:lim+1000<1099511627776)(hb:g.fs.brk=false)(hi:HeldInj objs t)(hY:Tied objs g.fl g.op t nodes data rest)(hdl:data.length<=1000000000)(Sb:Nat)(n:Int)(x:ByteArray)(hxs:x.size<=1048576):
  Both s i p B objs tg w g lim nodes data rest 64 99 [.int .i64 n,.string x] Sb:=by
 have hY':=hY;obtain⟨⟨φ,hs,more,rfl,hM⟩,hsd⟩:=hY;obtain⟨hwb,c0,hT⟩:=h.ws;have stay:∀{w':World},w'=w->Below w.heap.size w w':=fun e=>by rw[e];exact Below.refl _ _
 rcases hM.used n with ⟨hu,hn⟩ | ⟨k,b,f,fg,pl,hk,rfl,ho,hh⟩
 ·exact Both.same h hb hi hY' 3 rfl ((write_no hT hn x).mono fun e w' ⟨he,hw⟩=>⟨he,stay hw⟩) (fun hst=>swrite_none hst hM.h8 n x hu)
 ·obtain⟨⟨y,hy⟩,hfg,hp0,hp1⟩:=h.fg ho
  obtain⟨hbl,c0',c1,c2,hfz⟩:=opened_cells h.inv ho;obtain⟨_,hb2,_⟩:=bit_of hfg;have hs0:=start_bit hfg pl 0;have ws:∀{er:Int} {R:World->Prop},(Calls prog 123 #[.pointer (some ⟨b,0,none⟩),.string x] w fun e w'=>e=.returned (.int .i64 er)/\R w')->Calls prog 64 #[.pointer (some ⟨B.wb,0,none⟩),.int .i64 (k:Int),.string x] w fun e w'=>e=.returned (.int .i64 er)/\R w':=fun hc=>write_ws B.wb k b x _ _ w (h.cell hk ho) hk hc;have h0:0<=startF fg pl 0/\startF fg pl 0<=256:=by
   rw[hs0];split <;> omega
  cases hbt:bitB fg 2 with
  | false=>
   exact Both.same h hb hi hY' 12 rfl ((ws (owrite_err x hbl c1 c2 h0.1 h0.2 hxs (.inl ⟨by rw[hb2,hbt];rfl,rfl⟩))).mono fun e w' ⟨he,hw⟩=>⟨he,stay hw⟩) (fun hst=>swrite_err hst hM.h8 hh hfg (.inl ⟨hbt,rfl⟩))
  | true=>
   have hbf:(bits BinOp.and IntKind.i64 fg 2 == 0)=false:=by rw[hb2,hbt];rfl
   by_cases hx0:x.size=0
   ·obtain rfl:x=⟨#[]⟩:=by
     apply ByteArray.ext;exact Array.eq_empty_of_size_eq_zero hx0
    exact Both.same h hb hi hY' 0 rfl ((ws (write_none b fg w c1 hbf)).mono fun e w' ⟨he,hw⟩=>⟨he,stay hw⟩) (fun hst=>swrite_err hst hM.h8 hh hfg (.inr ⟨hbt,rfl,rfl⟩))
   ·obtain⟨fs1,hB,hN,hsz⟩:=bytes_now h hb hy
    have hcont:=hM.cont f (by rw[hy];simp);obtain⟨d,hd⟩:∃d,d=fcOf objs g.fl f:=⟨_,rfl⟩;rw[<-hd] at hB hsz hcont;obtain⟨a,rfl⟩:∃a:Nat,pl=(a:Int):=⟨pl.toNat,by omega⟩;obtain⟨t',ht'⟩:∃t':Nat,(bitB fg 32=true/\t'=d.size)\/(bitB fg 32=false/\t'=a):=by
     cases hb32:bitB fg 32 with
     | true=>exact⟨d.size,.inl ⟨rfl,rfl⟩⟩
     | false=>exact⟨a,.inr ⟨rfl,rfl⟩⟩
    have hst':startF fg (a:Int) (d.size:Int)=(t':Int):=by
     rw[start_bit hfg];rcases ht' with ⟨e1,e2⟩ | ⟨e1,e2⟩ <;> rw[e1,e2] <;> rfl
    have hle:startF fg (a:Int) 0<=(t':Int):=by
     rw[hs0];rcases ht' with ⟨e1,e2⟩ | ⟨e1,e2⟩ <;> rw[e1,e2]
     ·rw[zzD rfl];omega
     ·rw[zzB Bool.false_ne_true];omega
    have htb:t'<=256:=by rcases ht' with ⟨e1,e2⟩ | ⟨e1,e2⟩ <;> omega
    by_cases hft:t'+x.size<=256
    ·refine⟨0,data.set (φ f) (writeB d x t'),tabV (hs.set k (true,(φ f:Int),fg,(t':Int)+x.size))++more,rfl,by simp,?_,fun hst=>?_⟩
     rotate_left
     ·obtain⟨na,nc,da,dc,hst⟩:=hst
      exact (swrite_ok hst hM.h8 hh hcont hfg (by omega) hsz hbt hx0 ht' hft hdl).mono fun e w' ⟨he,h1,h2⟩=>⟨he,stinv_of h1 h2⟩
     ·refine (ws (write_gen h.inv (by omega) h.fl ho hbf (by omega) h0.1 (by omega) hB hst' hft)).mono ?_
      rintro e w' ⟨he,tg',m',hW⟩;refine⟨he,did_files h hi m' hW (by omega) (h.fl.write f _) hb hN ⟨⟨φ,_,more,rfl,(hM.write (f:=f) (by rw[hy];simp) (writeB d x t')).opens hk (some (b,f,fg,_)) (fun z hz=>?_)⟩,hsd.len (by simp)⟩⟩;cases hz;exact (updN_some _).2 (.inl rfl)
    ·refine⟨11,data,tabV hs++more,rfl,rfl,?_,fun⟨na,nc,da,dc,hst⟩=>(swrite_full hst hM.h8 hh hcont hfg (by omega) hsz hbt hx0 ht' (by omega) hxs hdl).mono fun e w' ⟨he,hbl⟩=>⟨he,stinv_same ⟨na,nc,da,dc,hst⟩ hbl⟩⟩
     by_cases hq:256<startF fg (a:Int) 0+x.size
     ·exact (ws (owrite_err x hbl c1 c2 h0.1 h0.2 hxs (.inr ⟨hbf,by omega,hq,rfl⟩))).mono fun e w' ⟨he,hw⟩=>⟨he,did_same h hb hi hY' (stay hw)⟩
     ·have hby:=bytes_any h.inv (by omega) h.fl hy
      rw[hB] at hby;refine (ws (owrite_late b f fg (a:Int) (t':Int) d x _ w c0' c1 c2 hbf (by omega) h0.1 (by omega) hst' (by omega) (by omega) (by omega) hby (fun w1 hR=>?_))).mono ?_
      ·obtain⟨tg1,m1,hW1⟩:=hR
       obtain⟨_,e2,e3,e4,_⟩:=opened_cells hW1 ho;exact⟨e2,e3,e4⟩
      ·rintro e w' ⟨he,tg1,m1,hW1⟩
       exact⟨he,did_files (fl':=g.fl) (op':=g.op) h hi (m1.mono (fun _ h=>h.mine)) hW1 (by omega) h.fl hb hN hY'⟩
end
theorem oresize_ok (o f:Nat)(fg m er:Int)(R:World->Prop)(w:World)(ho:o<w.heap.size)(c0:w.cell? ⟨o,0,none⟩=some (.pointer (some ⟨f,0,none⟩)))(c1:w.cell? ⟨o,1,none⟩=some (.int .i64 fg))(hfg:(bits BinOp.and IntKind.i64 fg 2 == 0)=false)(h0:0<=m)(h1:m<=256)
  (hr:Calls prog 203 #[.pointer (some ⟨f,0,none⟩),.int .i64 m] w fun e w'=>e=.returned (.int .i64 er)/\R w'):
  Calls prog 164 #[.pointer (some ⟨o,0,none⟩),.int .i64 m] w fun e w'=>e=.returned (.int .i64 er)/\R w':=by
 have t0:decide (m<0)=false:=zzE (by omega);have t1:decide (256<m)=false:=zzE (by omega);have HR:Hid _:=hr;clear hr;go_enter func164,ntmps164;go_wp2_with (go_at_call 203;refine Calls.mono HR.out ?_;rintro e w1 ⟨rfl,hR⟩);go_ret;exact⟨rfl,hR⟩
theorem fresize_zero (f:Nat)(R:World->Prop)(w:World)(hc:Calls prog 179 #[.pointer (some ⟨f,0,none⟩)] w fun e w'=>e=.returned (.tuple #[])/\R w'):
  Calls prog 203 #[.pointer (some ⟨f,0,none⟩),.int .i64 0] w fun e w'=>e=.returned (.int .i64 0)/\R w':=by
 have HC:Hid _:=hc;clear hc;go_enter func203,ntmps203;go_wp2_with (go_at_call 179;refine Calls.mono HC.out ?_;rintro e w1 ⟨rfl,hR⟩);go_ret;exact⟨rfl,hR⟩
theorem run_copy_cut {P:Program}(w:World)(dT sT ty elem:TypeId)(g o dLen dCap m:Nat)(s:ByteArray)(cur:Array Value)(t:TypeId)
  (hu:P.underlying dT=some (.slice elem))(hs:(P.info? elem).map (·.size)=some 1)(hg:w.heap[g]? = some (.cells cur t (0,0)))(hmin:Nat.min s.size dLen=m)(hfit:o+m<=cur.size):
  (Builtin.copy_ #[dT,sT] ty #[.slice (some ⟨g,o,none⟩) dLen dCap,.string s]).run P w =
   .ok (goInt m) (w.setRow g (cur.toList.take o++Lib.byteCells (s.data.toList.take m)++cur.toList.drop (o+m)).toArray):=by
 have hms:m<=s.size:=by rw[<-hmin];exact Nat.min_le_left _ _
 have hlen:(Lib.byteCells (s.data.toList.take m)).length=m:=by rw[Lib.byteCells_length,List.length_take,<-Lib.size_eq];omega
 have hst:=run_storeCells_at P g o t (Lib.byteCells (s.data.toList.take m)) 0 cur w hg (by rw[hlen];simpa using hfit) (Lib.byteCells_one _);have htk:List.take m (List.map (fun b:UInt8=>Value.int IntKind.u8 (b.toNat:Int)) s.data.toList)=Lib.byteCells (s.data.toList.take m):=by
  rw[<-List.map_take];rfl
 rw[hlen] at hst;simp only[Nat.add_zero] at hst;cases hq:P.info? elem with
 | none=>simp[hq] at hs
 | some i=>
  simp[Builtin.copy_,run_underlying hu,Builtin.lenOf,Builtin.firstCells,sizeOf,typeInfo,hq,hmin];rw[htk,hst];simp[Result.andThen]
theorem wpList_copyC {P:Program}{w:World}{ops:Array Oper}{rest:List Oper}{o:Oper}{a:Act}{Q:Exit->Act->World->Prop}(hgd:o.guard=none)(d x:Operand)(dT sT:TypeId)
  (ho:o.op=.call { callee:=.builtin .copy,args:=#[d,x],argTypes:=#[dT,sT] })(elem:TypeId)(hu:P.underlying dT=some (.slice elem))(hsz:(P.info? elem).map (·.size)=some 1)
  (g off dLen dCap m:Nat)(s:ByteArray)(hd:a.eval d=.slice (some ⟨g,off,none⟩) dLen dCap)(hs:a.eval x=.string s)
  (cur:Array Value)(t:TypeId)(hg:w.heap[g]? = some (.cells cur t (0,0)))(hle:Nat.min s.size dLen=m)(hfit:off+m<=cur.size)
  (new:Array Value)(hnew:new.toList=cur.toList.take off++Lib.byteCells (s.data.toList.take m)++cur.toList.drop (off+m))
  (h:∀w',Hid (w'.heap[g]? = some (.cells new t (0,0)))->w.grownBy w' (some g)->wpList P ops Q rest (a.put o.dst (goInt m)) w'):wpList P ops Q (o :: rest) a w:=by
 refine wpList_plain hgd fun K hK=>?_;have hrun:=run_copy_cut (P:=P) w dT sT o.type elem g off dLen dCap m s cur t hu hsz hg hle hfit;rw[<-hnew,Array.toArray_toList] at hrun;unfold Oper.wp;simp[execOp,ho,resolve,invoke,builtin,hd,hs,hrun,Result.andThen];exact hK _ _ (h _ (setRow_heap w g _ _ t _ hg) ⟨rfl,rfl,rfl,by simp,fun k hk hne=>setRow_other w g k _ (fun e=>hne (by rw[e]))⟩)
theorem row_cut {old:List UInt8}{n m:Nat}(hm:Nat.min old.length n=m):Lib.byteCells ((padL old n).take n)=(Lib.byteCells (List.replicate n 0)).take 0++Lib.byteCells (old.take m)++(Lib.byteCells (List.replicate n 0)).drop (0+m):=by
 have hm:min old.length n=m:=hm;unfold padL;rcases Nat.le_total old.length n with h | h
 ·rw[Nat.min_eq_left h] at hm
  subst hm;rw[List.take_of_length_le (l:=old++_) (by simp;omega),List.take_of_length_le (l:=old) (zzC _)];simp[Lib.byteCells]
 ·rw[Nat.min_eq_right h] at hm
  subst hm;rw[show n-old.length=0 by omega];simp[Lib.byteCells]
theorem cut_len (old:List UInt8)(n:Nat):((padL old n).take n).length=n:=by rw[List.length_take,pad_len];omega
theorem resize_size (d:ByteArray)(n:Nat):(resizeB d n).size=n:=by unfold resizeB ba;simp only[ByteArray.size,List.size_toArray,cut_len]
theorem resize_none (d:ByteArray):resizeB d 0=⟨#[]⟩:=by unfold resizeB ba;rw[List.take_zero]
theorem fresize_walk (f n:Nat)(old:ByteArray)(R:World->Prop)(w:World)(hn0:1<=n)(hn2:n<=256)(ho:old.size<=256)
  (hg:Calls prog 181 #[.pointer (some ⟨f,0,none⟩)] w fun e w'=>e=.returned (.tuple #[.string old,.int .i64 0])/\R w')
  (hR:∀w1,R w1->f<w1.heap.size/\(∃x y z,w1.cell? ⟨f,0,none⟩=some x/\w1.cell? ⟨f,1,none⟩=some y/\w1.cell? ⟨f,2,none⟩=some z)/\∀o,w1.frozen? ⟨f,o,none⟩=false):
  Calls prog 203 #[.pointer (some ⟨f,0,none⟩),.int .i64 (n:Int)] w fun e w'=>e=.returned (.int .i64 0)/\∃w1 w2,R w1/\Below w1.heap.size w1 w2/\w'=setFile w2 f (resizeB old n):=by
 have hnz:((n:Int) == 0)=false:=by simpa using (by omega:(n:Int)≠0)
 obtain⟨m,hm⟩:∃m:Nat,Nat.min old.size n=m:=⟨_,rfl⟩;have hmn:m<=n:=by rw[<-hm];exact Nat.min_le_right _ _
 obtain⟨i0,hi,hz0,hz1,hz2⟩:=info_parts infoU8;obtain⟨l2,hl2⟩:∃l2:List UInt8,l2=(padL old.data.toList n).take n:=⟨_,rfl⟩;have HL2:Hid _:=hl2;have hl2n:l2.length=n:=by rw[hl2,cut_len]
 have HM:Hid (Nat.min old.size n=m):=hm;have HR:Hid _:=hR;clear hl2 hR hm;go_enter func203,ntmps203;go_wp2_with (first
  | (go_at_call 181;refine hg.mono ?_;rintro e w1 ⟨rfl,hR1⟩;have HR1:Hid _:=hR1;clear hR1)
  | (at_make;go_loud (refine wpList_make_full _ rfl _ _ 204 rfl 0 5 i0 _ 1 underlying204 hi hz0 hz1 .i64 .i64 _ _ n rfl rfl rfl rfl ?_ ?_ (zzF _) ?_;go_must (rw[hz2];omega);go_must (unfold maxLen;omega);intro w3 hown3 hg3;obtain⟨cur,HB,HCS⟩:=made_bytes hown3;have HB3:Hid (Below w1.heap.size w1 w3):=grown_none (Below.refl _ _) hg3;clear hown3 hg3))
  | (refine wpList_copyC rfl (.tmp 22) (.tmp 23) 204 9 rfl 5 underlying204 infoU8s w1.heap.size 0 n n m old rfl rfl cur 5 HB.out HM.out ?_ (Lib.byteCells l2).toArray ?_ ?_;go_must (rw[<-Array.length_toList,HCS.out,Lib.byteCells_length,List.length_replicate];omega);go_must (rw[HCS.out,HL2.out];exact row_cut (by rw[<-Lib.size_eq];exact HM.out));intro w4 H4 hg4;have HB4:=grown_self HB3.out hg4;clear hg4)
  | (go_at_call 212;go_loud (rw[<-hl2n];refine (set_any _ HB4.out (HR.out _ HR1.out) H4.out).mono ?_;rintro e w6 ⟨rfl,rfl⟩)))
 go_ret;exact⟨rfl,w1,w4,HR1.out,HB4.out,by unfold resizeB ba;rw[<-HL2.out]⟩
section
variable {s i p:Nat}{B:WB}{objs:List Ob}{tg:Tags}{w:World}{g:WG}{lim:Nat}{t:LT}{nodes:List Ent}{data:List ByteArray}{rest:List Value}
theorem p_resize (h:QInv tg w s i p B objs g lim t)(hl:lim+1000<1099511627776)(hb:g.fs.brk=false)(hi:HeldInj objs t)(hY:Tied objs g.fl g.op t nodes data rest)(hdl:data.length<=1000000000)(Sb:Nat)(n z:Int):
  Both s i p B objs tg w g lim nodes data rest 100 101 [.int .i64 n,.int .i64 z] Sb:=by
 have hY':=hY;obtain⟨⟨φ,hs,more,rfl,hM⟩,hsd⟩:=hY;obtain⟨hwb,c0,hT⟩:=h.ws;have stay:∀{w':World},w'=w->Below w.heap.size w w':=fun e=>by rw[e];exact Below.refl _ _
 rcases hM.used n with ⟨hu,hn⟩ | ⟨k,b,f,fg,pl,hk,rfl,ho,hh⟩
 ·exact Both.same h hb hi hY' 3 rfl ((resize_no hT hn z).mono fun e w' ⟨he,hw⟩=>⟨he,stay hw⟩) (fun hst=>sresize_none hst hM.h8 n z hu)
 ·obtain⟨⟨y,hy⟩,hfg,hp0,hp1⟩:=h.fg ho
  obtain⟨hbl,c0',c1,c2,hfz⟩:=opened_cells h.inv ho;obtain⟨_,hb2,_⟩:=bit_of hfg;have ws:∀{er:Int} {R:World->Prop},(Calls prog 164 #[.pointer (some ⟨b,0,none⟩),.int .i64 z] w fun e w'=>e=.returned (.int .i64 er)/\R w')->Calls prog 100 #[.pointer (some ⟨B.wb,0,none⟩),.int .i64 (k:Int),.int .i64 z] w fun e w'=>e=.returned (.int .i64 er)/\R w':=fun hc=>resize_ws B.wb k b z _ _ w (h.cell hk ho) hk hc;by_cases hz:z<0\/256<z
  ·exact Both.same h hb hi hY' 2 rfl ((ws (oresize_err z hbl c1 (.inl ⟨hz,rfl⟩))).mono fun e w' ⟨he,hw⟩=>⟨he,stay hw⟩) (fun hst=>sresize_err hst hM.h8 hh hfg (.inl ⟨hz,rfl⟩))
  ·cases hbt:bitB fg 2 with
   | false=>
    exact Both.same h hb hi hY' 12 rfl ((ws (oresize_err z hbl c1 (.inr ⟨by omega,by omega,by rw[hb2,hbt];rfl,rfl⟩))).mono fun e w' ⟨he,hw⟩=>⟨he,stay hw⟩) (fun hst=>sresize_err hst hM.h8 hh hfg (.inr ⟨by omega,by omega,hbt,rfl⟩))
   | true=>
    have hbf:(bits BinOp.and IntKind.i64 fg 2 == 0)=false:=by rw[hb2,hbt];rfl
    obtain⟨m,rfl⟩:∃m:Nat,z=(m:Int):=⟨z.toNat,by omega⟩;obtain⟨fs1,hB,hN,hsz⟩:=bytes_now h hb hy;have hcont:=hM.cont f (by rw[hy];simp);obtain⟨d,hd⟩:∃d,d=fcOf objs g.fl f:=⟨_,rfl⟩;rw[<-hd] at hB hsz hcont;refine⟨0,data.set (φ f) (resizeB d m),tabV hs++more,rfl,by simp,?_,fun hst=>?_⟩
    rotate_left
    ·obtain⟨na,nc,da,dc,hst⟩:=hst
     exact (sresize_ok hst hM.h8 hh hcont hfg hsz hbt (by omega) hdl).mono fun e w' ⟨he,h1,h2⟩=>⟨he,stinv_of h1 h2⟩
    ·have hMw:Tied objs (updN g.fl f (some (0,resizeB d m))) g.op t nodes (data.set (φ f) (resizeB d m)) (tabV hs++more):=⟨⟨φ,hs,more,rfl,hM.write (f:=f) (by rw[hy];simp) (resizeB d m)⟩,hsd.len (by simp)⟩
     by_cases hm0:m=0
     ·subst hm0
      rw[resize_none] at hMw ⊢;refine (ws (oresize_ok b f fg _ 0 _ w hbl c0' c1 hbf (by omega) (by omega) (fresize_zero f _ w (clear_any h.inv hy)))).mono ?_;rintro e w' ⟨he,m',hW⟩;exact⟨he,did_files (fs':=g.fs) (op':=g.op) h hi (m'.mono mine6) hW (by omega) (h.fl.write f _) hb (FS.Next.refl _) hMw⟩
     ·have hby:=bytes_any h.inv (by omega) h.fl hy
      rw[hB] at hby;refine (ws (oresize_ok b f fg _ 0 _ w hbl c0' c1 hbf (by omega) (by omega) (fresize_walk f m d _ w (by omega) (by omega) hsz hby (fun w1 hR=>?_)))).mono ?_
      ·obtain⟨tg1,m1,hW1⟩:=hR
       exact file_cells hW1 hy
      ·rintro e w' ⟨he,w1,w2,⟨tg1,m1,hW1⟩,hb2,rfl⟩
       obtain⟨m3,hW3⟩:=(hW1.below hb2).set_file hy (d:=resizeB d m) (by rw[resize_size];omega);exact⟨he,did_files (op':=g.op) h hi ((m1.mono (fun _ h=>h.mine)).trans ((Moves.of_below hb2).trans (m3.mono mine6))) hW3 (by omega) (h.fl.write f _) hb hN hMw⟩
end
theorem index_none (b:Nat)(vs:Nat->Option Nat)(w:World)(h:TabAt w b vs)(h1:∀j,j<8->vs j≠none):
  Calls prog 176 #[.slice (some ⟨b,1,none⟩) 8 8,.pointer none] w fun e w'=>e=.returned (.int .i64 (-1))/\w'=w:=by
 obtain⟨hb,hc,_⟩:=h;have HC:Hid _:=hc;have H1:Hid _:=h1;clear hc h1;go_enter func176,ntmps176;go_wp2
 go_loopw [8] (fun i wr=>∃j:Nat,j<=8/\i=.int .i64 (j:Int)/\wr=w) (fun i _=>8-(intOf i).toNat)
 case atStart=>exact⟨0,zzF _,rfl,rfl⟩
 case round=>
  obtain⟨j,hj,rfl,rfl⟩:=hrel;by_cases he:j=8
  ·subst he
   go_wp2;go_ret;exact⟨rfl,rfl⟩
  ·have hj8:j<8:=by omega
   have hcj:=HC.out j hj8;have hj8':(j:Int)<8:=by omega
   cases hv:vs j with
   | none=>exact absurd hv (H1.out j (by omega))
   | some x=>
    rw[hv,Option.map_some] at hcj;have hq:∀W,(binOp .eql 86 (.pointer none) (.pointer (some ⟨x,0,none⟩))).run prog W=.ok (.bool false) W:=eq_opened x;go_wp2;go_roundw
    case rel=>exact⟨j+1,by omega,by go_num,trivial⟩
    case measure=>simp[intOf];omega
theorem free_full (b:Nat)(vs:Nat->Option Nat)(w:World)(h:TabAt w b vs)(h1:∀j,j<8->vs j≠none):
  Calls prog 119 #[.pointer (some ⟨b,1,none⟩)] w fun e w'=>e=.returned (.tuple #[.int .i64 0,.int .i64 10])/\w'=w:=by
 have hi:=index_none b vs w h h1;clear h h1;go_enter func119,ntmps119;go_wp2_with (go_at_call 176;refine hi.mono ?_;rintro e w1 ⟨rfl,rfl⟩);go_ret2;exact⟨rfl,rfl⟩
theorem open_bad (wb:Nat)(S:ByteArray)(fg:Int)(w:World)(hp:NoPath S):Calls prog 63 #[.pointer (some ⟨wb,0,none⟩),.string S,.int .i64 fg] w fun e w'=>e=.returned (.tuple #[.int .i64 0,.int .i64 1])/\Below w.heap.size w w':=by
 unfold NoPath at hp;go_enter func63,ntmps63;go_wp2_with (go_at_call 69;refine Calls.mono (hp _) ?_;rintro e w1 ⟨rfl,hb1⟩);go_ret2
 first | exact⟨rfl,hb1⟩ | exact⟨rfl,hb1.alloc hb1.size _⟩
theorem open_unfit (wb:Nat)(l:List ByteArray)(hl:Good l)(fg:Int)(w:World)(hv:∀W,Calls prog 118 #[.int .i64 fg] W fun e w'=>e=.returned (.bool false)/\w'=W):
  Calls prog 63 #[.pointer (some ⟨wb,0,none⟩),.string (joinB l),.int .i64 fg] w fun e w'=>e=.returned (.tuple #[.int .i64 0,.int .i64 2])/\Below w.heap.size w w':=by
 have hpa:=fun W=>parse_any l hl W;obtain⟨s0,s1,s2,s3,s4,hP⟩:∃s0 s1 s2 s3 s4,pathA l = #[.string s0,.string s1,.string s2,.string s3,.string s4]:=⟨_,_,_,_,_,rfl⟩;unfold pathV at hpa;simp only[hP] at hpa;clear hP hl;generalize joinB l=tx at hpa ⊢;go_enter func63,ntmps63;go_wp2_with (first
  | (go_at_call 69;refine Calls.mono (hpa _) ?_;rintro e w1 ⟨rfl,hb1⟩)
  | (go_at_call 118;refine Calls.mono (hv _) ?_;rintro e w2 ⟨rfl,rfl⟩))
 go_ret2
 first | exact⟨rfl,hb1⟩ | exact⟨rfl,hb1.alloc hb1.size _⟩
theorem open_many (wb:Nat)(vs:Nat->Option Nat)(l:List ByteArray)(hl:Good l)(fg:Int)(w:World)(ht:TabAt w wb vs)(h1:∀j,j<8->vs j≠none)(hv:∀W,Calls prog 118 #[.int .i64 fg] W fun e w'=>e=.returned (.bool true)/\w'=W):
  Calls prog 63 #[.pointer (some ⟨wb,0,none⟩),.string (joinB l),.int .i64 fg] w fun e w'=>e=.returned (.tuple #[.int .i64 0,.int .i64 10])/\Below w.heap.size w w':=by
 have hpa:=fun W=>parse_any l hl W;have hwb:=ht.1;obtain⟨s0,s1,s2,s3,s4,hP⟩:∃s0 s1 s2 s3 s4,pathA l = #[.string s0,.string s1,.string s2,.string s3,.string s4]:=⟨_,_,_,_,_,rfl⟩;unfold pathV at hpa;simp only[hP] at hpa;have hfr:=fun W (hb:Below w.heap.size w W)=>free_full wb vs W (ht.below hb) h1;have HFR:Hid _:=hfr;clear hP hl hfr ht h1;generalize joinB l=tx at hpa ⊢;go_enter func63,ntmps63;go_wp2_with (first
  | (go_at_call 69;refine Calls.mono (hpa _) ?_;rintro e w1 ⟨rfl,hb1⟩;have hw1:=zzA hwb hb1.size)
  | (go_at_call 118;refine Calls.mono (hv _) ?_;rintro e w2 ⟨rfl,rfl⟩)
  | (go_at_call 119;go_loud (refine Calls.mono (HFR.out _ (hb1.alloc hb1.size _)) ?_;rintro e w3 ⟨rfl,rfl⟩)))
 go_ret2
 first | exact⟨rfl,hb1⟩ | exact⟨rfl,hb1.alloc hb1.size _⟩
theorem topen_root (t:Nat)(fg:Int)(w:World):Calls prog 120 #[.pointer (some ⟨t,0,none⟩),.agg #[.string ⟨#[]⟩,.string ⟨#[]⟩,.string ⟨#[]⟩,.string ⟨#[]⟩,.string ⟨#[]⟩],.int .i64 fg] w fun e w'=>e=.returned (.tuple #[.pointer none,.int .i64 7])/\Below w.heap.size w w':=by
 have hroot:=fun W=>root_any W;have heq:∀W,(Op.equalIn 10000 147 (pathV []) (pathV [])).run prog W=.ok true W:=fun W=>by
  have:=run_eqP Good.nil Good.nil W
  rw[decide_eq_true rfl] at this;exact this
 unfold pathV pathA at hroot heq;simp only[List.getD_nil] at hroot heq;go_enter func120,ntmps120;go_wp2
 go_region_with (go_at_call 75;refine (hroot _).mono ?_;rintro e w1 ⟨rfl,hb1⟩;obtain⟨hc1,hf1⟩:=bcell hb1;have hz1:=one_size hb1)
 all_goals
  go_wp2;go_ret2;exact⟨rfl,below_via (below_drew ((Below.refl _ _).alloc (zzC _) _)) hb1⟩
theorem flagged_cases {fl:Int}(h:flaggedB fl=true):(0<=fl/\fl<=63)/\(bitB fl 8 || bitB fl 4)=bitB fl 4:=by
 unfold flaggedB at h;split at h
 ·cases h
 ·split at h
  ·cases h
  ·split at h
   ·cases h
   ·refine⟨by omega,?_⟩
    revert h
    cases bitB fl 8 <;> cases bitB fl 4 <;> simp
section
variable {nodes:List Ent}{data:List ByteArray}{hs:List Hnd}
def openLk (nodes:List Ent)(data:List ByteArray)(hs:List Hnd)(p:ByteArray)(fl:Int)(k:Nat)(pp:ByteArray):Option (Int×Int)->Opd
 | some x=>if x.1=2 then ((0,7),nodes,data,hs) else if bitB fl 8=true then ((0,6),nodes,data,hs) else (((k:Int),0),nodes,if bitB fl 16=true then data.set x.2.toNat ⟨#[]⟩ else data,hs.set k (true,x.2,fl,0))
 | none=>if bitB fl 4=false then ((0,4),nodes,data,hs) else if 16<=(itemsP nodes pp).length then ((0,11),nodes,data,hs)
  else (((k:Int),0),nodes ++ [(p,1,(data.length:Int))],data ++ [⟨#[]⟩],hs.set k (true,(data.length:Int),fl,0))
theorem openG_look {q:List ByteArray}(hq:q ≠ [])(fl:Int)(k:Nat)(pp:ByteArray):openGP nodes data hs (joinP q) fl k pp=openLk nodes data hs (joinP q) fl k pp (lookN nodes q):=by
 have h1:=find_look nodes (joinP q);rw[<-look_ne hq] at h1;unfold openGP;cases hf:findP nodes (joinP q) with
 | none=>
  rw[hf] at h1;rw[<-h1];rfl
 | some i=>
  rw[hf,Option.bind_some] at h1;cases hn:nodes[i]? with
  | none=>
   exfalso
   have:=(List.findIdx?_eq_some_iff_getElem.1 hf).1
   rw[zzH this] at hn;cases hn
  | some e=>
   rw[hn,Option.map_some] at h1;rw[<-h1];simp only[hn];rfl
theorem openFP_at {l:List ByteArray}{x:ByteArray}(hG:Good (l ++ [x]))(fl:Int):openFP nodes data hs (joinP (l ++ [x])) fl=if flaggedB fl=false then ((0,2),nodes,data,hs) else if freeH hs=8 then ((0,10),nodes,data,hs) else if upP nodes (l ++ [x])≠0 then ((0,upP nodes (l ++ [x])),nodes,data,hs) else openLk nodes data hs (joinP (l ++ [x])) fl (freeH hs) (joinP l) (lookN nodes (l ++ [x])):=by
 unfold openFP;rw[split_good hG];simp only;rw[zzB (by simp),snoc_take,openG_look (by simp)];rw[zzB (show ¬(l ++ [x]).length=0 by simp)]
theorem openFP_bad {S:ByteArray}(h:(splitP S).2=false)(fl:Int):openFP nodes data hs S fl=((0,1),nodes,data,hs):=by unfold openFP;rw[zzD h]
theorem openFP_root (fl:Int):openFP nodes data hs (joinP []) fl=if flaggedB fl=false then ((0,2),nodes,data,hs) else if freeH hs=8 then ((0,10),nodes,data,hs) else ((0,7),nodes,data,hs):=by
 unfold openFP;rw[split_good Good.nil];simp only;rw[zzB (by simp)];rw[zzD (show ([]:List ByteArray).length=0 from rfl)]
def PO (x:Opd):Prop:=(x.1.2 == 14)=false
theorem open_not14 (S:ByteArray)(fl:Int):((openFP nodes data hs S fl).1.2 == 14)=false:=by
 show PO (openFP nodes data hs S fl);unfold openFP;refine ite_all PO (show PO ((0,_),_) from rfl) ?_;refine ite_all PO (show PO ((0,_),_) from rfl) ?_;refine ite_all PO (show PO ((0,_),_) from rfl) ?_;refine ite_all PO (show PO ((0,_),_) from rfl) ?_;refine ite_all PO (show PO ((0,upP nodes _),_) from not14 (up_codes _ _)) ?_;unfold openGP;cases findP nodes S with
 | none=>
  refine ite_all PO (show PO ((0,_),_) from rfl) ?_;refine ite_all PO (show PO ((0,_),_) from rfl) ?_;rfl
 | some i=>
  simp only;cases nodes[i]? with
  | none=>rfl
  | some e=>
   simp only;refine ite_all PO (show PO ((0,_),_) from rfl) ?_;refine ite_all PO (show PO ((0,_),_) from rfl) ?_;rfl
def QO (n m:Nat)(x:Opd):Prop:=x.2.1.length<=n+1/\x.2.2.1.length<=m+1
theorem open_len (S:ByteArray)(fl:Int):QO nodes.length data.length (openFP nodes data hs S fl):=by
 have l:∀e:Int×Int,QO nodes.length data.length (e,nodes,data,hs):=fun e=>⟨Nat.le_succ _,Nat.le_succ _⟩;unfold openFP;refine ite_all (QO _ _) (l _) ?_;refine ite_all (QO _ _) (l _) ?_;refine ite_all (QO _ _) (l _) ?_;refine ite_all (QO _ _) (l _) ?_;refine ite_all (QO _ _) (l _) ?_;unfold openGP;cases findP nodes S with
 | none=>
  refine ite_all (QO _ _) (l _) ?_;refine ite_all (QO _ _) (l _) ?_;exact⟨by simp,by simp⟩
 | some i=>
  simp only;cases nodes[i]? with
  | none=>exact l _
  | some e=>
   simp only;refine ite_all (QO _ _) (l _) ?_;refine ite_all (QO _ _) (l _) ?_;refine⟨Nat.le_succ _,?_⟩;show (if _ then _ else _:List ByteArray).length<=_;split <;> simp
end
section
variable {objs:List Ob}{fl:Fls}{op:Ops}{t:LT}{nodes:List Ent}{data:List ByteArray}{hs:List Hnd}{φ:Nat->Nat}
theorem Mate.numb (h:Mate objs fl op t nodes data hs φ)(hs':SoundR nodes data){p:List ByteArray}{f:Nat}(hv:Valids p)(hf:fl f≠none)(ha:t.at objs p=some (.held f)):lookN nodes p=some (1,(φ f:Int)):=by
 have hr:=h.reads p hv;unfold sem at hr;rw[ha,Option.map_some] at hr;cases hl:lookN nodes p with
 | none=>rw[hl] at hr;cases hr
 | some y=>
  rw[hl,Option.map_some,Option.some.injEq] at hr;have h12:=look_12 hs' hl;obtain⟨kd,m⟩:=y;have hkd:kd=1:=by
   rcases h12 with e | e
   ·exact e
   ·have e:kd=2:=e
    subst e;rw[ndR,zzD rfl] at hr;cases hr
  subst hkd;obtain⟨m0,m1⟩:=hs'.num hl rfl;simp only at m0 m1;obtain⟨k,rfl⟩:∃k:Nat,m=(k:Int):=⟨m.toNat,by omega⟩;by_cases e:φ f=k
  ·rw[e]
  ·exfalso
   have hlt:=(List.getElem?_eq_some_iff.1 (h.cont f hf)).1;have key:∀X:ByteArray,X=(data[k]?).getD ⟨#[]⟩:=fun X=>by
    have:=h.par (updN (fcOf objs fl) f X) (data.set (φ f) X) ⟨by simp,fun a hfa=>?_,fun k hk=>List.getElem?_set_ne (hk f hf)⟩ p hv
    ·unfold sem at this
     rw[ha,hl,Option.map_some,Option.map_some,Option.some.injEq,ndR,zzB (by simp),Int.toNat_natCast,List.getElem?_set_ne e] at this;have h2:Nd.file (updN (fcOf objs fl) f X f)=Nd.file ((data[k]?).getD ⟨#[]⟩):=this;rw[updN_same] at h2;exact Nd.file.inj h2
    ·by_cases e2:a=f
     ·rw[e2,updN_same,List.getElem?_set_self hlt]
     ·rw[updN_other e2,List.getElem?_set_ne (fun e'=>e2 (h.inj _ _ hf hfa e').symm),h.cont a hfa]
   have:=(key ⟨#[]⟩).trans (key ⟨#[0]⟩).symm
   cases this
theorem Mate.least (h:Mate objs fl op t nodes data hs φ):(freeH hs=8/\∀j,j<8->(op j).map (·.1)≠none)\/(freeH hs<8/\(op (freeH hs)).map (·.1)=none/\∀j,j<freeH hs->(op j).map (·.1)≠none):=by
 have key:∀j (hj:j<8),(hs[j]'(by rw[h.h8];exact hj)).1=(op j).isSome:=fun j hj=>by
  have:=h.tab j hj
  rw[zzH (by rw[h.h8];exact hj),Option.some.injEq] at this;rw[this];cases op j <;> rfl
 have hne:∀{j},(op j).isSome=true->(op j).map (·.1)≠none:=fun {j} hj=>by
  cases ho:op j with
  | none=>rw[ho] at hj;cases hj
  | some x=>simp
 rcases Nat.lt_or_ge (freeH hs) hs.length with hl | hl
 ·have h8:freeH hs<8:=by rw[<-h.h8];exact hl
  have h1:(!(hs[freeH hs]'hl).1)=true:=List.findIdx_getElem (w:=hl);refine .inr ⟨h8,?_,fun j hj=>hne ?_⟩
  ·rw[key _ h8] at h1
   cases ho:op (freeH hs) with
   | none=>rfl
   | some x=>rw[ho] at h1;cases h1
  ·have:=List.not_of_lt_findIdx (p:=fun h:Hnd=>!h.1) hj
   rw[<-key j (by omega)];simpa using this
 ·have e8:freeH hs=8:=by
   have:freeH hs<=hs.length:=List.findIdx_le_length
   have:=h.h8
   omega
  refine .inl ⟨e8,fun j hj=>hne ?_⟩
  have:=List.not_of_lt_findIdx (p:=fun h:Hnd=>!h.1) (xs:=hs) (i:=j) (by show j<freeH hs;omega)
  rw[<-key j hj];simpa using this
end
theorem openLk_none (nodes:List Ent)(data:List ByteArray)(hs:List Hnd)(p:ByteArray)(fl:Int)(k:Nat)(pp:ByteArray):openLk nodes data hs p fl k pp none=if bitB fl 4=false then ((0,4),nodes,data,hs) else if 16<=(itemsP nodes pp).length then ((0,11),nodes,data,hs)
  else (((k:Int),0),nodes ++ [(p,1,(data.length:Int))],data ++ [⟨#[]⟩],hs.set k (true,(data.length:Int),fl,0)):=rfl
theorem openLk_some (nodes:List Ent)(data:List ByteArray)(hs:List Hnd)(p:ByteArray)(fl:Int)(k:Nat)(pp:ByteArray)(x:Int×Int):openLk nodes data hs p fl k pp (some x)=if x.1=2 then ((0,7),nodes,data,hs) else if bitB fl 8=true then ((0,6),nodes,data,hs) else (((k:Int),0),nodes,if bitB fl 16=true then data.set x.2.toNat ⟨#[]⟩ else data,hs.set k (true,x.2,fl,0)):=rfl
section
variable {s i p:Nat}{B:WB}{objs:List Ob}{tg:Tags}{w:World}{g:WG}{lim:Nat}{t:LT}{nodes:List Ent}{data:List ByteArray}{rest:List Value}
theorem p_open (h:QInv tg w s i p B objs g lim t)(hl:lim+1000<1099511627776)(hb:g.fs.brk=false)(hi:HeldInj objs t)(hX:Exact objs)(hY:Tied objs g.fl g.op t nodes data rest)(hnl:nodes.length<=1000000000)(hdl:data.length<=1000000000)(Sb:Nat)(S:ByteArray)(hS:S.size<=1048576)(fg:Int)(hr:-9223372036854775808<=fg/\fg<9223372036854775808):
  ∃a er nodes' data' rest',(er == 14)=false/\nodes'.length<=nodes.length+1/\data'.length<=data.length+1/\
   (Calls prog 63 #[.pointer (some ⟨B.wb,0,none⟩),.string S,.int .i64 fg] w fun e w'=>e=.returned (.tuple #[.int .i64 a,.int .i64 er])/\Did9 s i p B objs tg w w' g (lim+400) nodes' data' rest')/\
   ∀{F:Nat->Prop} {w1:World},StInv F w1 Sb nodes data rest->Calls prog 94 #[.pointer (some ⟨Sb,0,none⟩),.string S,.int .i64 fg] w1 fun e w'=>e=.returned (.tuple #[.int .i64 a,.int .i64 er])/\StInv (NewF F w1 w') w' Sb nodes' data' rest'/\Keeps F w1 w':=by
 have hY':=hY;obtain⟨⟨φ,hs,more,rfl,hM⟩,hsd⟩:=hY;obtain⟨hwb,c0,hT⟩:=h.ws;obtain⟨ol1,ol2⟩:=open_len (nodes:=nodes) (data:=data) (hs:=hs) S fg;refine⟨(openFP nodes data hs S fg).1.1,(openFP nodes data hs S fg).1.2,(openFP nodes data hs S fg).2.1,(openFP nodes data hs S fg).2.2.1,tabV (openFP nodes data hs S fg).2.2.2++more,open_not14 S fg,ol1,ol2,?_,fun hst=>by
  obtain⟨na,nc,da,dc,hst⟩:=hst;exact sopenf_any hst hM.h8 (hsd.fine hnl) hsd.kinds hdl S (by omega) fg⟩
 have same:∀{er:Int},openFP nodes data hs S fg=((0,er),nodes,data,hs)->(Calls prog 63 #[.pointer (some ⟨B.wb,0,none⟩),.string S,.int .i64 fg] w fun e w'=>e=.returned (.tuple #[.int .i64 0,.int .i64 er])/\Below w.heap.size w w')->
   Calls prog 63 #[.pointer (some ⟨B.wb,0,none⟩),.string S,.int .i64 fg] w fun e w'=>e=.returned (.tuple #[.int .i64 (openFP nodes data hs S fg).1.1,.int .i64 (openFP nodes data hs S fg).1.2])/\Did9 s i p B objs tg w w' g (lim+400) (openFP nodes data hs S fg).2.1 (openFP nodes data hs S fg).2.2.1 (tabV (openFP nodes data hs S fg).2.2.2++more):=fun e hc=>by
  rw[e];exact hc.mono fun e w' ⟨he,hbl⟩=>⟨he,did_same h hb hi hY' hbl⟩
 have hval:=fun W=>flags_any fg hr W;rcases path_cases (S:=S) (zzG hS (by decide)) with ⟨hf,hn⟩ | ⟨l,hG,rfl⟩
 ·exact same (openFP_bad hf fg) (open_bad B.wb S fg w hn)
 ·cases hfl:flaggedB fg with
  | false=>
   rw[hfl] at hval;refine same (er:=2) ?_ (by rw[<-joinB_P];exact open_unfit B.wb l hG fg w hval);rcases snoc_cases l with rfl | ⟨n,r,rfl⟩
   ·rw[openFP_root,zzD hfl]
   ·rw[openFP_at hG,zzD hfl]
  | true=>
   rw[hfl] at hval;have hflf:¬flaggedB fg=false:=by rw[hfl];simp
   obtain⟨hfg,hxc⟩:=flagged_cases hfl;rcases hM.least with ⟨h8,hall⟩ | ⟨h8,hnone,hall⟩
   ·refine same (er:=10) ?_ (by rw[<-joinB_P];exact open_many B.wb _ l hG fg w hT hall hval)
    rcases snoc_cases l with rfl | ⟨n,r,rfl⟩
    ·rw[openFP_root,zzB hflf,zzD h8]
    ·rw[openFP_at hG,zzB hflf,zzD h8]
   ·have h8n:¬freeH hs=8:=by omega
    obtain⟨k,hk⟩:∃k,k=freeH hs:=⟨_,rfl⟩;rcases snoc_cases l with rfl | ⟨n,r,rfl⟩
    ·refine same (er:=7) (by rw[openFP_root,zzB hflf,zzB h8n]) ?_
     rw[<-joinB_P];exact open_ws_err B.wb B.bt (freeH hs) _ fg [] Good.nil 7 (by decide) (fun w'=>Below w.heap.size w w') w hT c0 h8 hnone hall hval (fun W hbW=>(topen_root B.bt fg W).mono fun e w' ⟨he,hbl⟩=>⟨he,hbW.trans (hbl.mono hbW.size)⟩)
    ·have hv:=hG.val
     have hS0:=hX.sound;obtain⟨_,_,hb4,hb8,hb16,_⟩:=bit_of hfg;obtain⟨hN,hE⟩:=fair_next (fair_look objs t g.fs r) hb;rw[all_look] at hE;have hE:(lookR objs t g.fs r).2=lookE objs t r:=hE;have hup:=look_up hM.reads hsd hv.left n;have hop:=fun W (hbW:Below w.heap.size w W)=>open_walk (h.inv.below hbW) (by omega) h.flat h.ok hG fg _ _ _ hb8 hb4 hb16;simp only[hE] at hop;generalize (lookR objs t g.fs r).1=fs' at hN hop;rw[openFP_at hG,zzB hflf,zzB h8n,<-hup,<-joinB_P];have herr:∀er',er'≠0->(∀W,Below w.heap.size w W->Calls prog 120 #[.pointer (some ⟨B.bt,0,none⟩),.agg (pathA (r.reverse ++ [n])),.int .i64 fg] W fun e w'=>e=.returned (.tuple #[.pointer none,.int .i64 er'])/\Left s i p B objs tg W w' g fs' t (lim+300))->
       Calls prog 63 #[.pointer (some ⟨B.wb,0,none⟩),.string (joinB (r.reverse ++ [n])),.int .i64 fg] w fun e w'=>e=.returned (.tuple #[.int .i64 0,.int .i64 er'])/\Did9 s i p B objs tg w w' g (lim+400) nodes data (tabV hs++more):=by
      intro er' hne hc;refine (open_ws_err B.wb B.bt (freeH hs) _ fg _ hG er' hne _ w hT c0 h8 hnone hall hval (fun W hbW=>(hc W hbW).mono fun e w' ⟨h1,h2⟩=>⟨h1,lleft_via hbW h2⟩)).mono ?_;rintro e w' ⟨h1,h2⟩;exact⟨h1,did_tree ((QTo.of h h2).mono (by omega)) hb hN hi hY'⟩
     by_cases h0:(lookE objs t r).1=0
     ·rw[zzB (by rw[h0];simp)]
      obtain⟨d,ha,hkd⟩:=look_atE h0;obtain⟨ks,hks⟩:∃ks,ks=(lookE objs t r).2:=⟨_,rfl⟩;rw[<-hks] at hkd hop;rw[h0] at hop;have hkk:=ok_kids hS0 (ok_at hS0 _ h.ok ha).2.1 hkd;have hmany:=kid_many hM.reads hsd hS0 h.ok ha hkd;have hee:∀er',openE ks n (bitB fg 8) (bitB fg 4)=er'->er'≠0->Calls prog 63 #[.pointer (some ⟨B.wb,0,none⟩),.string (joinB (r.reverse ++ [n])),.int .i64 fg] w fun e w'=>e=.returned (.tuple #[.int .i64 0,.int .i64 er'])/\Did9 s i p B objs tg w w' g (lim+400) nodes data (tabV hs++more):=fun er' he hne=>by
       refine herr er' hne (fun W hbW=>(hop W hbW).mono ?_);rintro e w' (⟨hx,_⟩ | ⟨_,hx,h1,h2⟩ | ⟨_,hx,_⟩)
       ·exact absurd rfl hx
       ·exact⟨by rw[<-he];exact h1,h2⟩
       ·rw[he] at hx;exact absurd hx hne
      -- the file that is opened
      have hok:openE ks n (bitB fg 8) (bitB fg 4)=0->∀{nodes':List Ent} {data':List ByteArray} {num:Int},(∀f fl' t',w.heap.size<=f\/g.fl f≠none->LTok objs 5 t'->OpenTo objs w.heap.size g.fl ks t r.reverse n (bitB fg 16) f fl' t'->FlOk objs fl'/\(∃x,fl' f=some x)/\HeldInj objs t'/\∃ψ,num=((ψ f:Nat):Int)/\Mate objs fl' g.op t' nodes' data' hs ψ/\SoundR nodes' data')->
        Calls prog 63 #[.pointer (some ⟨B.wb,0,none⟩),.string (joinB (r.reverse ++ [n])),.int .i64 fg] w fun e w'=>e=.returned (.tuple #[.int .i64 (freeH hs:Int),.int .i64 0])/\Did9 s i p B objs tg w w' g (lim+400) nodes' data' (tabV (hs.set (freeH hs) (true,num,fg,0))++more):=by
       intro hoe nodes' data' num hmk;refine (open_ws_ok B.wb B.bt (freeH hs) (fun k=>(g.op k).map (·.1)) fg _ hG (fun f w'=>∃tg' ft' fl' t',Moves (Mine i) tg tg' w w'/\WInv tg' w' s i p B objs { g with fs:=fs',ft:=ft',fl:=fl' } (lim+300)/\Flat objs t' ft'/\LTok objs 5 t'/\OpenTo objs w.heap.size g.fl ks t r.reverse n (bitB fg 16) f fl' t') w hT c0 h8 hnone hall hval (fun W hbW=>(hop W hbW).mono ?_) ?_).mono ?_
       ·rintro e w' (⟨hx,_⟩ | ⟨_,hx,_⟩ | ⟨_,_,f,tg',ft',fl',t',he,m,hW,hF,hO,hT⟩)
        ·exact absurd rfl hx
        ·exact absurd hoe hx
        ·refine⟨f,he,tg',ft',fl',t',call_moves hbW m,hW,hF,hO,?_⟩
         have hsz:=hbW.size;rcases hT with ⟨a1,a2,a3,a4⟩ | a | ⟨id,a1,a2,a3,a4⟩
         ·exact .inl ⟨a1,zzG hsz a2,a3,a4⟩
         ·exact .inr (.inl a)
         ·exact .inr (.inr ⟨id,a1,zzG hsz a2,a3,a4⟩)
       ·rintro f w' ⟨tg',ft',fl',t',m,hW,_⟩
        exact hW.wp.opens.tab.1
       ·rintro e w' ⟨he,f,w1,⟨tg1,ft1,fl1,t1,m1,hW1,hF1,hO1,hT1⟩,rfl⟩
        have hfo:w.heap.size<=f\/g.fl f≠none:=by
         rcases hT1 with ⟨_,a2,_⟩ | ⟨a1,_⟩ | ⟨id,_,a2,_⟩
         ·exact .inl a2
         ·refine .inr ?_
          have hat2:t.at objs (r.reverse ++ [n])=some (.held f):=(by rw[at_append,ha,Option.bind_some,at_cons,hkd,Option.bind_some,a1,Option.bind_some,at_nil]);obtain⟨x,hx⟩:=h.inv.wp.held (r.reverse ++ [n]) f (by rw[h.flat.of,hat2];rfl);rw[hx];simp
         ·exact .inl a2
        obtain⟨hfl1,⟨x,hx⟩,hi1,ψ,rfl,hM1,hsd1⟩:=hmk f fl1 t1 hfo hO1 hT1;obtain⟨m2,hW2⟩:=hW1.open_at (k:=freeH hs) (f:=f) (fg:=fg) h8 hx hfg.1 (by omega);refine⟨he,_,_,t1,m1.trans (m2.mono (fun x hx=>.inr (by rw[hx]))),⟨hW2.mono (by omega),hF1,hO1,hfl1⟩,hN.1.trans hb,hN.2.2.1,hi1,⟨ψ,_,more,rfl,hM1.opens h8 (some (w1.heap.size,f,fg,0)) (fun z hz=>?_)⟩,hsd1⟩;cases hz;rw[hx];simp
      have hfresh:∀{f},w.heap.size<=f->g.fl f=none:=fun {f} hf=>by
       cases hg:g.fl f with
       | none=>rfl
       | some x=>
        obtain⟨id,d⟩:=x
        have:=(Array.getElem?_eq_some_iff.1 (h.inv.wp.files f id d hg).2.1).1
        omega
      have hnoheld:∀{f},w.heap.size<=f->∀y,t.at objs y≠some (.held f):=fun {f} hf y hy=>by
       obtain⟨x,hx⟩:=h.inv.wp.held y f (by rw[h.flat.of,hy];rfl);rw[hfresh hf] at hx;cases hx
      have hleaf:∀f,HeldInj objs (.held f):=fun f x y b hx hy=>by
       have:∀z,(LT.held f).at objs z=some (.held b)->z = []:=fun z hz=>by
        cases z with
        | nil=>rfl
        | cons m r=>rw[at_cons] at hz;simp[kids] at hz
       rw[this x hx,this y hy]
      have hinj:∀{f},w.heap.size<=f->HeldInj objs (modG objs (fun ks=>putK ks n (.held f)) r.reverse t):=fun {f} hf=>by
       refine inj_put hi hkk.1 ha hkd (hleaf f) (fun x b y hx hy=>?_);exfalso;cases x with
       | nil=>rw[at_nil] at hx;cases hx;exact hnoheld hf y hy
       | cons m r=>rw[at_cons] at hx;simp[kids] at hx
      cases hp:pickK ks n with
      | none=>
       have hln:lookN nodes (r.reverse ++ [n])=none:=(hM.reads.empty hv).2 (by rw[sem_kid ha hkd,hp];rfl);have hoE:=openE_none hp (ex:=bitB fg 8) (cr:=bitB fg 4);rw[hxc] at hoE;rw[hln,openLk_none];cases hb4':bitB fg 4 with
       | false=>
        rw[hb4',zzB (by simp)] at hoE;rw[zzD rfl];rw[hb4'] at hee;exact hee 4 hoE (by decide)
       | true=>
        rw[hb4',zzD rfl,hmany] at hoE;rw[hb4'] at hee hok;rw[zzB (by simp)];by_cases h16:16<=(itemsP nodes (joinP r.reverse)).length
        ·rw[zzD h16] at hoE
         rw[zzD h16];exact hee 11 hoE (by decide)
        ·rw[zzB h16] at hoE
         rw[zzB h16];refine hok hoE (fun f fl' t' _ hO' hT'=>?_);rcases hT' with ⟨_,a2,rfl,rfl⟩ | ⟨a1,_⟩ | ⟨id,a1,_⟩
         ·show _/\_/\_/\∃ψ,_/\Mate objs _ _ _ (nodes ++ [(joinB (r.reverse ++ [n]),1,(data.length:Int))]) (data ++ [⟨#[]⟩]) hs ψ/\SoundR (nodes ++ [(joinB (r.reverse ++ [n]),1,(data.length:Int))]) (data ++ [⟨#[]⟩])
          rw[joinB_P];refine⟨h.fl.write f _,⟨_,updN_same _ _ _⟩,hinj a2,updN φ f data.length,by rw[updN_same],hM.create hS0 h.ok hsd (hfresh a2) hv ha hkd hp,?_⟩;have hpar:=hM.reads r.reverse hv.left;have hk2:kindP nodes (joinP r.reverse)=2:=(hM.reads.kind2 hsd hv.left).2 (by
           unfold sem;rw[ha,Option.map_some];cases d with
           | file j=>simp[kids] at hkd
           | held j=>simp[kids] at hkd
           | dir j=>rfl
           | own es=>rfl)
          refine hsd.push hv hG.len ((look_kind hsd hv.left).2.1.1 hk2) hln (by omega) (.inl rfl) (by simp) (fun _=>⟨by omega,by simp only[List.length_append,List.length_cons,List.length_nil];omega⟩)
         ·rw[hp] at a1;cases a1
         ·rw[hp] at a1;cases a1
      | some c=>
       have hat2:t.at objs (r.reverse ++ [n])=some c:=(by rw[at_append,ha,Option.bind_some,at_cons,hkd,Option.bind_some,hp,Option.bind_some,at_nil]);have hoE:=openE_some hp (ex:=bitB fg 8) (cr:=bitB fg 4);have hrd:=hM.reads (r.reverse ++ [n]) hv;unfold sem at hrd;rw[hat2,Option.map_some] at hrd;cases hlk:lookN nodes (r.reverse ++ [n]) with
       | none=>rw[hlk] at hrd;cases hrd
       | some y=>
        rw[hlk,Option.map_some,Option.some.injEq] at hrd;have h12:=look_12 hsd hlk;have hkc:y.1=2↔c.kind=2:=by
         unfold ndR at hrd;constructor
         ·intro e
          rw[zzD e] at hrd;cases c <;> first | rfl | cases hrd
         ·intro e
          rcases h12 with e1 | e1
          ·exfalso
           rw[zzB (by rw[e1];decide)] at hrd;cases c <;> first | cases hrd | cases e
          ·exact e1
        rw[openLk_some];by_cases hk2:c.kind=2
        ·rw[zzD (hkc.2 hk2)]
         rw[zzD hk2] at hoE;exact hee 7 hoE (by decide)
        ·rw[zzB (fun e=>hk2 (hkc.1 e))]
         rw[zzB hk2] at hoE;cases hb8':bitB fg 8 with
         | true=>
          rw[hb8',zzD rfl] at hoE;rw[zzD rfl];rw[hb8'] at hee;exact hee 6 hoE (by decide)
         | false=>
          rw[hb8',zzB (by simp)] at hoE;rw[zzB (by simp)];rw[hb8'] at hok;have hy1:y.1=1:=h12.resolve_right (fun e=>hk2 (hkc.1 e));obtain⟨y1,y2⟩:=y;have hy1:y1=1:=hy1;subst hy1;obtain⟨m0,m1⟩:=hsd.num hlk rfl;simp only at m0 m1;obtain⟨j,rfl⟩:∃j:Nat,y2=(j:Int):=⟨y2.toNat,by omega⟩;refine hok hoE (fun f fl' t' hfo hO' hT'=>?_);rw[Int.toNat_natCast];rcases hT' with ⟨a1,_⟩ | ⟨a1,rfl,rfl⟩ | ⟨id,a1,a2,rfl,rfl⟩
          ·rw[hp] at a1;cases a1
          ·rw[hp] at a1
           cases a1;have hff:g.fl f≠none:=by
            obtain⟨x,hx⟩:=h.inv.wp.held (r.reverse ++ [n]) f (by rw[h.flat.of,hat2];rfl);rw[hx];simp
           have hnum:=hM.numb hsd hv hff hat2;rw[hlk,Option.some.injEq,Prod.mk.injEq] at hnum;have hj:j=φ f:=by have:=hnum.2;omega
           cases hb16':bitB fg 16 with
           | false=>
            rw[zzB (by simp),zzB (by simp)];exact⟨h.fl,Option.ne_none_iff_exists'.1 hff,hi,φ,by rw[hj],hM,hsd⟩
           | true=>
            rw[zzD rfl,zzD rfl,hj];exact⟨h.fl.write f _,⟨_,updN_same _ _ _⟩,hi,φ,rfl,hM.write hff _,hsd.len (by simp)⟩
          ·rw[hp] at a1
           cases a1;have hid:kindOf objs id=1:=by
            have:=(ok_at hS0 _ h.ok hat2).2.1
            generalize 5-(r.reverse ++ [n]).length=m at this;cases m <;> exact this
           have hid0:id≠0:=fun e=>by
            have:=(kind_in (objs:=objs) (id:=id) (by rw[hid];decide)).1
            omega
           have hM2:=hM.hold hS0 h.ok hsd (hfresh a2) hid0 hv ha hkd hp hlk;have hfl2:FlOk objs (updN g.fl f (some (id,⟨#[]⟩))):=fun f' id' d' hf' h0'=>by
            by_cases e:f'=f
            ·rw[e,updN_same] at hf'
             cases hf';exact hid
            ·rw[updN_other e] at hf'
             exact h.fl f' id' d' hf' h0'
           have hff:updN g.fl f (some (id,(⟨#[]⟩:ByteArray))) f≠none:=by rw[updN_same];simp
           cases hb16':bitB fg 16 with
           | false=>
            rw[zzB (by simp),zzB (by simp)];exact⟨hfl2,⟨_,updN_same _ _ _⟩,hinj a2,updN φ f j,by rw[updN_same],hM2,hsd⟩
           | true=>
            rw[zzD rfl,zzD rfl];have hM3:=hM2.write hff ⟨#[]⟩;rw[updN_same] at hM3;exact⟨hfl2.write f _,⟨_,updN_same _ _ _⟩,hinj a2,updN φ f j,by rw[updN_same],hM3,hsd.len (by simp)⟩
     ·rw[zzD h0]
      refine herr _ h0 (fun W hbW=>(hop W hbW).mono ?_);rintro e w' (⟨_,h1,h2⟩ | ⟨hx,_⟩ | ⟨hx,_⟩)
      ·exact⟨h1,h2⟩
      ·exact absurd hx h0
      ·exact absurd hx h0
end
theorem work_files (W n j gw gt wc tc wb Sb:Nat)(kd a1 a2 a3:Int)(S T:ByteArray)(la:Option Addr)(lm lc:Nat)(R:World->Prop)(w:World)(hW:W<w.heap.size)(hkd:13<kd)(hkd2:kd<=18)(c5:w.cell? ⟨W,5,none⟩=some (.slice (some ⟨gw,0,none⟩) n wc))(c6:w.cell? ⟨W,6,none⟩=some (.slice (some ⟨gt,0,none⟩) n tc))
  (hgw:gw<w.heap.size)(hgt:gt<w.heap.size)(hjn:j<n)(hn:n<=1000000000)(cw:w.cell? ⟨gw,j,none⟩=some (.pointer (some ⟨wb,0,none⟩)))(ct:w.cell? ⟨gt,j,none⟩=some (.pointer (some ⟨Sb,0,none⟩)))(ha1:-9223372036854775808<=a1/\a1<=9223372036854775807)(hpk:pickOf a1 (n:Int)=(j:Int))
  (h1:∀W1,Below w.heap.size w W1->Calls prog 51 #[.pointer (some ⟨W,0,none⟩),.pointer (some ⟨wb,0,none⟩),.pointer (some ⟨Sb,0,none⟩),.agg (opV9 kd a1 a2 a3 S T la lm lc)] W1 fun e w'=>e=.returned (.bool true)/\R w'):
  Calls prog 23 #[.pointer (some ⟨W,0,none⟩),.agg (opV9 kd a1 a2 a3 S T la lm lc)] w fun e w'=>e=.returned (.bool true)/\R w':=by
 have hpick:=fun W1=>pick_any a1 (n:Int) W1 ha1 (by omega) (by omega);rw[hpk] at hpick;have t13:decide (kd<=13)=false:=zzE (by omega);unfold opV9 at h1 ⊢;obtain⟨Bx,hB⟩:∃B:Obj,B=.cells #[.int .i64 kd,.int .i64 a1,.int .i64 a2,.int .i64 a3,.string S,.string T,.slice la lm lc] 57:=⟨_,rfl⟩;obtain⟨w1,hw1⟩:∃w1,w1=w.alloc Bx:=⟨_,rfl⟩;have hb0:Below w.heap.size w w1:=by rw[hw1];exact (Below.refl _ _).alloc (zzC _) Bx
 have hz1:w.heap.size<w1.heap.size:=by rw[hw1];simp
 have x0:w1.cell? ⟨w.heap.size,0,none⟩=some (.int .i64 kd):=by rw[hw1,hB];simp
 have x1:w1.cell? ⟨w.heap.size,1,none⟩=some (.int .i64 a1):=by rw[hw1,hB];simp
 have x2:w1.cell? ⟨w.heap.size,2,none⟩=some (.int .i64 a2):=by rw[hw1,hB];simp
 have x3:w1.cell? ⟨w.heap.size,3,none⟩=some (.int .i64 a3):=by rw[hw1,hB];simp
 have x4:w1.cell? ⟨w.heap.size,4,none⟩=some (.string S):=by rw[hw1,hB];simp
 have x5:w1.cell? ⟨w.heap.size,5,none⟩=some (.string T):=by rw[hw1,hB];simp
 have x6:w1.cell? ⟨w.heap.size,6,none⟩=some (.slice la lm lc):=by rw[hw1,hB];simp
 have y5:=(hb0.cell (p:=⟨W,5,none⟩) hW).trans c5;have y6:=(hb0.cell (p:=⟨W,6,none⟩) hW).trans c6;have yw:=(hb0.cell (p:=⟨gw,j,none⟩) hgw).trans cw;have yt:=(hb0.cell (p:=⟨gt,j,none⟩) hgt).trans ct;have hW1:W<w1.heap.size:=zzA hW hb0.size;have hgw1:gw<w1.heap.size:=zzA hgw hb0.size;have hgt1:gt<w1.heap.size:=zzA hgt hb0.size;have hji:(j:Int)<(n:Int):=by omega
 have H1:Hid _:=fun q=>h1 (w1.drewN q) (below_drewN hb0 q);have HPK:Hid _:=hpick;clear h1 hpick c5 c6 cw ct hpk;go_enter func23,ntmps23;go_upto_region 1 with fail;rw[<-hB,<-hw1];clear hB hw1 hb0
 go_region_with (go_at_call 49;refine Calls.mono (HPK.out _) ?_;rintro _ _ ⟨rfl,rfl⟩)
 all_goals
  go_wp2_with (go_at_call 51;refine Calls.mono (H1.out _) ?_;rintro _ w5 ⟨rfl,hR⟩);go_ret;exact⟨rfl,hR⟩
section
variable {R:Rows4}{tg:Tags}{w:World}{B0 W s r p lim:Nat}{objs ros:List Ob}{got:List Int}{ws:List Slot}{ds:List Doc}{q8 q9 q11 j n:Nat}{B:WB}{g:WG}{t:LT}
theorem g4_half {f:Nat}{args:Array Value}{v:Value}{nodes':List Ent}{data':List ByteArray}{rest':List Value}{W1:World}(M:M4At R tg w B0 W s r p lim objs ros got ws ds q8 q9 q11)(hj:j<ws.length)(hx:ws[j]=(j+2,B,g,t))(hb:Below w.heap.size w W1)(hz:w.heap.size<W1.heap.size)
  (hp:Calls prog f args W1 fun e w'=>e=.returned v/\Did9 s (j+2) p B objs tg W1 w' (with9 g got) (lim+400) nodes' data' rest'):
  Calls prog f args W1 fun e w'=>e=.returned v/\BoxK w.heap.size W1 w'/\Half B0 w w' W s r p lim objs ros ws ds q8 q9 q11 j B nodes' data' rest':=by
 obtain⟨hQ,hi,hnext⟩:=(M.below hb).work hj hx;refine hp.mono ?_;rintro e w' ⟨he,tg',g',t',m,hQ',hbk,hg,hi',hY⟩;obtain⟨pt,M'⟩:=hnext (by omega) m hQ' hbk hg hi';exact⟨he,box_moves M hz m,_,tg',g',t',_,M',hY,low_moves M hb m⟩
theorem g4_open (hn:n<=1048600)(M:M4At R tg w B0 W s r p lim objs ros got ws ds q8 q9 q11)(L:L4 objs ws ds (1200000+n))(hlim:lim<=900*n)(h8:q8<=n)(h9:q9<=n)(h11:q11<=n)(hw1:1<=ws.length)(hw2:ws.length<=n)(hj:j<ws.length)(hjd:j<ds.length)(a1 a2 a3:Int)(S T:ByteArray)(la:Option Addr)(lm lc:Nat)(hS:S.size<=1048576)(ha2:-9223372036854775808<=a2/\a2<9223372036854775808):
  Calls prog 50 #[.pointer (some ⟨W,0,none⟩),.pointer (some ⟨ws[j].2.1.wb,0,none⟩),.pointer (some ⟨ds[j].1,0,none⟩),.agg (opV9 13 a1 a2 a3 S T la lm lc)] w fun e w'=>e=.returned (.bool true)/\Game4 B0 w' W s r (n+1)/\Below B0 w w':=by
 obtain⟨B,g,t,hx⟩:∃B g t,ws[j]=(j+2,B,g,t):=⟨_,_,_,by rw[<-M.slot j hj]⟩;obtain⟨Sb,nodes,data,rest,hd⟩:∃Sb nodes data rest,ds[j]=(Sb,nodes,data,rest):=⟨_,_,_,_,rfl⟩;obtain⟨hY,hl1,hl2⟩:=L.same j hj hjd;rw[hx,hd] at hY;rw[hd] at hl1 hl2;rw[hx,hd];simp only at hY hl1 hl2 ⊢;have hX:Exact objs:=M.w3.sto.2.2.1;have hll:lim+1000<1099511627776:=by omega
 obtain⟨W1,hW1⟩:∃W1,W1=w.alloc (.cells (opV9 13 a1 a2 a3 S T la lm lc) 57):=⟨_,rfl⟩;have hb:Below w.heap.size w W1:=by rw[hW1];exact (Below.refl _ _).alloc (zzC _) _
 have hz:w.heap.size<W1.heap.size:=by rw[hW1];simp
 obtain⟨hQ,hi,_⟩:=(M.below hb).work hj hx;obtain⟨a,er,nodes',data',rest',h14,hn1,hn2,hp,hdoc⟩:=p_open hQ hll rfl hi hX hY (by omega) (by omega) Sb S hS a2 ha2;refine (tree_open W B.wb Sb a1 a2 a3 S T la lm lc a er h14 _ _ w W1 hW1 (g4_half M hj hx hb hz hp) (g4_doc hjd hd hdoc)).mono ?_;rintro e w' ⟨he,R',tg',g',t',got',M',hR',hB⟩;exact⟨he,game_set L hlim (by omega) h9 h11 hw1 hw2 hj M' hR' (by show nodes'.length<=_;omega) (by show data'.length<=_;omega),hB⟩
theorem g4_files (hn:n<=1048600)(M:M4At R tg w B0 W s r p lim objs ros got ws ds q8 q9 q11)(L:L4 objs ws ds (1200000+n))(hlim:lim<=900*n)(h8:q8<=n)(h9:q9<=n)(h11:q11<=n)(hw1:1<=ws.length)(hw2:ws.length<=n)(hj:j<ws.length)(hjd:j<ds.length)(kd a1 a2 a3:Int)(S T:ByteArray)(la:Option Addr)(lm lc:Nat)(hS:S.size<=1048576)(hk:14<=kd/\kd<=18):
  Calls prog 51 #[.pointer (some ⟨W,0,none⟩),.pointer (some ⟨ws[j].2.1.wb,0,none⟩),.pointer (some ⟨ds[j].1,0,none⟩),.agg (opV9 kd a1 a2 a3 S T la lm lc)] w fun e w'=>e=.returned (.bool true)/\Game4 B0 w' W s r (n+1)/\Below B0 w w':=by
 obtain⟨B,g,t,hx⟩:∃B g t,ws[j]=(j+2,B,g,t):=⟨_,_,_,by rw[<-M.slot j hj]⟩;obtain⟨Sb,nodes,data,rest,hd⟩:∃Sb nodes data rest,ds[j]=(Sb,nodes,data,rest):=⟨_,_,_,_,rfl⟩;obtain⟨hY,hl1,hl2⟩:=L.same j hj hjd;rw[hx,hd] at hY;rw[hd] at hl1 hl2;rw[hx,hd];simp only at hY hl1 hl2 ⊢;have hll:lim+1000<1099511627776:=by omega
 obtain⟨W1,hW1⟩:∃W1,W1=w.alloc (.cells (opV9 kd a1 a2 a3 S T la lm lc) 57):=⟨_,rfl⟩;have hb:Below w.heap.size w W1:=by rw[hW1];exact (Below.refl _ _).alloc (zzC _) _
 have hz:w.heap.size<W1.heap.size:=by rw[hW1];simp
 obtain⟨hQ,hi,_⟩:=(M.below hb).work hj hx;have hcase:kd=14\/kd=15\/kd=16\/kd=17\/kd=18:=by omega
 have fin:∀{e:Ending} {w':World} {data':List ByteArray} {rest':List Value},data'.length=data.length->(e=.returned (.bool true)/\∃R' tg' g' t' got',M4At R' tg' w' B0 W s r p (lim+400) objs ros got' (ws.set j (j+2,B,g',t')) (ds.set j (Sb,nodes,data',rest')) q8 q9 q11/\Tied objs g'.fl g'.op t' nodes data' rest'/\Below B0 w w')->e=.returned (.bool true)/\Game4 B0 w' W s r (n+1)/\Below B0 w w':=by
  rintro e w' data' rest' hlen ⟨he,R',tg',g',t',got',M',hR',hB⟩;exact⟨he,game_set L hlim (by omega) h9 h11 hw1 hw2 hj M' hR' (Nat.le_succ_of_le hl1) (by show data'.length<=_;omega),hB⟩
 rcases hcase with rfl | rfl | rfl | rfl | rfl
 ·obtain⟨a,er,rest',h14,hp,hdoc⟩:=p_read hQ hll rfl hi hY (by omega) Sb a2 a3
  exact (files_read W B.wb Sb a1 a2 a3 S T la lm lc a er h14 _ _ w W1 hW1 (g4_half M hj hx hb hz hp) (g4_doc hjd hd hdoc)).mono fun e w' h=>fin rfl h
 ·obtain⟨er,data',rest',h14,hlen,hp,hdoc⟩:=p_write hQ hll rfl hi hY (by omega) Sb a2 S hS
  exact (files_write W B.wb Sb a1 a2 a3 S T la lm lc er h14 _ _ w W1 hW1 (g4_half M hj hx hb hz hp) (g4_doc hjd hd hdoc)).mono fun e w' h=>fin hlen h
 ·obtain⟨er,rest',hp,hdoc⟩:=p_seek hQ rfl hi hY Sb a2 a3
  exact (files_seek W B.wb Sb a1 a2 a3 S T la lm lc er _ _ w W1 hW1 (g4_half M hj hx hb hz hp) (g4_doc hjd hd hdoc)).mono fun e w' h=>fin rfl h
 ·obtain⟨er,data',rest',h14,hlen,hp,hdoc⟩:=p_resize hQ hll rfl hi hY (by omega) Sb a2 a3
  exact (files_resize W B.wb Sb a1 a2 a3 S T la lm lc er h14 _ _ w W1 hW1 (g4_half M hj hx hb hz hp) (g4_doc hjd hd hdoc)).mono fun e w' h=>fin hlen h
 ·obtain⟨er,rest',hp,hdoc⟩:=p_close hQ rfl hi hY Sb a2
  exact (files_close W B.wb Sb a1 a2 a3 S T la lm lc er _ _ w W1 hW1 (g4_half M hj hx hb hz hp) (g4_doc hjd hd hdoc)).mono fun e w' h=>fin rfl h
theorem g4_work18 (hn:n<=1048600)(G:Game4 B0 w W s r n)(kd a1 a2 a3:Int)(S T:ByteArray)(la:Option Addr)(lm lc:Nat)(hS:S.size<=1048576)(hT:T.size<=1048576)(ha1:-9223372036854775808<=a1/\a1<=9223372036854775807)(ha2:-9223372036854775808<=a2/\a2<9223372036854775808)(hk:8<=kd/\kd<=18):
  Calls prog 23 #[.pointer (some ⟨W,0,none⟩),.agg (opV9 kd a1 a2 a3 S T la lm lc)] w fun e w'=>e=.returned (.bool true)/\Game4 B0 w' W s r (n+1)/\Below B0 w w':=by
 by_cases h12:kd<=12
 ·exact g4_work hn G kd a1 a2 a3 S T la lm lc hS hT ha1 ⟨hk.1,h12⟩;obtain⟨R,tg,p,lim,objs,ros,got,ws,ds,q8,q9,q11,M,L,hlim,h8,h9,h11,hw1,hw2⟩:=G;have hpl:=pickOf_lt a1 (n:=(ws.length:Int)) (by omega);obtain⟨j,hj⟩:∃j:Nat,pickOf a1 (ws.length:Int)=(j:Int):=⟨(pickOf a1 (ws.length:Int)).toNat,by omega⟩;have hjl:j<ws.length:=by omega
 have hjd:j<ds.length:=by rw[L.len];exact hjl
 obtain⟨gw,hwa,hgw,cw,_⟩:=row_one M.rowW (i:=j) (v:=ptr ws[j].2.1.wb) (by simp[hjl]);obtain⟨gt,hta,hgt,ct,_⟩:=row_one M.rowD (i:=j) (v:=ptr ds[j].1) (by simp[hjd]);obtain⟨_,_,hWl,c5,c6⟩:=M.c01;rw[hwa] at c5;rw[hta,L.len] at c6;by_cases h13:kd=13
 ·subst h13
  refine work_walk4 W ws.length j gw gt R.wc R.tc ws[j].2.1.wb ds[j].1 13 a1 a2 a3 S T la lm lc _ w hWl (by omega) c5 c6 hgw hgt hjl (by omega) cw ct ha1 hj (fun W1 hb=>?_);refine (g4_open hn (M.below hb) L hlim h8 h9 h11 hw1 hw2 hjl hjd a1 a2 a3 S T la lm lc hS ha2).mono ?_;rintro e w' ⟨he,G',hB⟩;exact⟨he,G',(low_below M hb).trans hB⟩
 ·refine work_files W ws.length j gw gt R.wc R.tc ws[j].2.1.wb ds[j].1 kd a1 a2 a3 S T la lm lc _ w hWl (by omega) hk.2 c5 c6 hgw hgt hjl (by omega) cw ct ha1 hj (fun W1 hb=>?_)
  refine (g4_files hn (M.below hb) L hlim h8 h9 h11 hw1 hw2 hjl hjd kd a1 a2 a3 S T la lm lc hS ⟨by omega,hk.2⟩).mono ?_;rintro e w' ⟨he,G',hB⟩;exact⟨he,G',(low_below M hb).trans hB⟩
end
end Go.Proofs.YtlgidcmmgohagaaGreat
