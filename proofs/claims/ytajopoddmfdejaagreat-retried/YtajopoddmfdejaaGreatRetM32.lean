/-
  What is proved here: Draft.File: the object of a file's bytes, one of the pool, one of the draft, or a new one of the draft. Draft.Dir: the object of a directory's entries, one of the pool, one of the draft, or ..
-/
import Derived.Test.YtajopoddmfdejaaGreatRetM31
import Derived.Test.YtajopoddmfdejaaGreatRetM13
namespace Go.Proofs.YtajopoddmfdejaaGreat
open Go.RowKit Go.Sort Go.Shelf
set_option linter.unusedVariables false
set_option maxRecDepth 100000
set_option maxHeartbeats 16000000
variable {ft:PTail}
theorem dfile_pool (p bf:Nat)(b:DB)(Df:DataW Unit)(n:Nat)(d:ByteArray)(c:Int)(w:World)(hd:d.size<=256)(hb:b.dr<w.heap.size)(k0:w.cell? ⟨b.dr,0,none⟩=some (.pointer (some ⟨p,0,none⟩)))(k1:w.cell? ⟨p,1,none⟩=some (.map (some bf)))
  (hf:w.ownsMap Tryz.prog 9 (plainElem Tryz.prog 26) bf n Df)(hh:Maps.has Df (.string d.data.toList)=true)(hc:Df.atKey (.string d.data.toList) (.lit (.int .i64 0))=.lit (.int .i64 c)):
  Calls Tryz.prog 170 #[.pointer (some ⟨b.dr,0,none⟩),.string d] w fun e w'=>e=.returned (.int .i64 c)/\w'=w:=by
 have hkey:=WideMaps.keyOf_string_mk (P:=Tryz.prog) Tryz.underlying9 (s:=d) (by unfold maxLen;omega)
 have HC:Hid (Df.atKey (.string d.data.toList) (.lit (.int .i64 0))=.lit (.int .i64 c)):=hc
 have HH:Hid (Maps.has Df (.string d.data.toList)=true):=hh
 clear hc hh
 go_enter Tryz.func170,Tryz.ntmps170
 go_wp2_with (first
  | (at_lookup;refine wpList_lookup_own_ok_int _ rfl _ _ 133 rfl 9 26 .i64 law9 Tryz.underlying133 Tryz.underlying26 (zero25 _) bf n Df rfl hf _ _ rfl hkey ?_;intro c' hat hwc;rw[HH.out];obtain rfl:c'=c:=by (have:=hat.symm.trans HC.out;simpa using this))
  | go_in)
 go_ret
 exact⟨rfl,rfl⟩
theorem dfile_draft (p bf:Nat)(b:DB)(Df Dm:DataW Unit)(n m:Nat)(d:ByteArray)(c:Int)(w:World)(hd:d.size<=256)(hb:b.dr<w.heap.size)(k0:w.cell? ⟨b.dr,0,none⟩=some (.pointer (some ⟨p,0,none⟩)))(k1:w.cell? ⟨p,1,none⟩=some (.map (some bf)))(k2:w.cell? ⟨b.dr,2,none⟩=some (.map (some b.mf)))(hne:bf≠b.mf)
  (hf:w.ownsMap Tryz.prog 9 (plainElem Tryz.prog 26) bf n Df)(hh:Maps.has Df (.string d.data.toList)=false)
  (hm:w.ownsMap Tryz.prog 9 (plainElem Tryz.prog 26) b.mf m Dm)(hh2:Maps.has Dm (.string d.data.toList)=true)(hc:Dm.atKey (.string d.data.toList) (.lit (.int .i64 0))=.lit (.int .i64 c)):
  Calls Tryz.prog 170 #[.pointer (some ⟨b.dr,0,none⟩),.string d] w fun e w'=>e=.returned (.int .i64 c)/\w'=w:=by
 have hkey:=WideMaps.keyOf_string_mk (P:=Tryz.prog) Tryz.underlying9 (s:=d) (by unfold maxLen;omega)
 have HC:Hid (Dm.atKey (.string d.data.toList) (.lit (.int .i64 0))=.lit (.int .i64 c)):=hc
 have HH:Hid (Maps.has Df (.string d.data.toList)=false):=hh
 have HH2:Hid (Maps.has Dm (.string d.data.toList)=true):=hh2
 clear hc hh hh2
 go_enter Tryz.func170,Tryz.ntmps170
 go_wp2_with (first
  | (at_lookup;refine wpList_lookup_own_ok_int _ rfl _ _ 133 rfl 9 26 .i64 law9 Tryz.underlying133 Tryz.underlying26 (zero25 _) bf n Df rfl hf _ _ rfl hkey ?_;intro c' hat hwc;rw[HH.out])
  | (at_lookup;refine wpList_lookup_own_ok_int _ rfl _ _ 133 rfl 9 26 .i64 law9 Tryz.underlying133 Tryz.underlying26 (zero25 _) b.mf m Dm rfl hm _ _ rfl hkey ?_;intro c2 hat2 hwc2;rw[HH2.out];obtain rfl:c2=c:=by (have:=hat2.symm.trans HC.out;simpa using this))
  | go_in)
 go_ret
 exact⟨rfl,rfl⟩
theorem addedD_keep {w w':World}{p:Nat}{b:DB}{a:Option Addr}{n cap:Nat}{xs news:List Value}(hA:AddedD w w' b.dr a n cap xs news)(hp:DrAt w p b a n cap)(hrow:w.ownsRow 0 145 4 (.slice a n cap) n xs)
  {H:Type}{P:Program}{k:TypeId}{R:Value->Option (DataW H×List MemPlace)}{bm m:Nat}{D:DataW H}(h:w.ownsMap P k R bm m D):w'.ownsMap P k R bm m D/\w'.cell? ⟨b.dr,2,none⟩=some (.map (some b.mf))/\w'.cell? ⟨b.dr,3,none⟩=some (.map (some b.md)):=by
 obtain⟨es,clock,hb⟩:=ownsMap_isMap h
 have np:=owns_ne_cells hrow (b:=b.dr) hp (by decide)
 have hbp:bm≠b.dr:=by rintro rfl;unfold DrAt at hp;rw[hb] at hp;cases hp
 obtain⟨g,cap',hp2,_,_,_,_,_,_,hkeep⟩:=hA.facts hp np
 exact⟨ownsMap_keep h (hkeep bm h.lt hbp (owns_ne_map hrow hb)),hp2.c.2.2.2.1,hp2.c.2.2.2.2.1⟩
theorem dfile_new (p bf:Nat)(b:DB)(Df Dm:DataW Unit)(n m:Nat)(a:Option Addr)(cap:Nat)(xs:List Value)(pa:Option Addr)(pc:Nat)(d:ByteArray)(w:World)(hd:d.size<=256)(k1:w.cell? ⟨p,1,none⟩=some (.map (some bf)))(q0:w.cell? ⟨p,0,none⟩=some (.slice pa n pc))(hp:p<w.heap.size)(hbp:b.dr≠p)(hn:n<=400)(hm4:m<4000)
  (hdr:DrAt w p b a m cap)(hrow:w.ownsRow 0 145 4 (.slice a m cap) m xs)(hpa:some p≠(Value.slice a m cap).ownBlock)(hne:bf≠b.mf)
  (hf:w.ownsMap Tryz.prog 9 (plainElem Tryz.prog 26) bf n Df)(hh:Maps.has Df (.string d.data.toList)=false)
  (hm:w.ownsMap Tryz.prog 9 (plainElem Tryz.prog 26) b.mf m Dm)(hh2:Maps.has Dm (.string d.data.toList)=false):
  Calls Tryz.prog 170 #[.pointer (some ⟨b.dr,0,none⟩),.string d] w fun e w'=>e=.returned (.int .i64 ((n:Int)+((m+1:Nat):Int)))/\
   GrewD w w' p b a m cap b.mf 9 (xs ++ [.int .i64 1,.string d,.slice none 0 0,.int .i64 0]) (Dm.put (.string d.data.toList) (.lit (.int .i64 ((n:Int)+((m+1:Nat):Int))))):=by
 have hkey:=WideMaps.keyOf_string_mk (P:=Tryz.prog) Tryz.underlying9 (s:=d) (by unfold maxLen;omega)
 have HH:Hid (Maps.has Df (.string d.data.toList)=false):=hh
 have HH2:Hid (Maps.has Dm (.string d.data.toList)=false):=hh2
 obtain⟨es,clock,hbm⟩:=ownsMap_isMap hm
 have HBM:Hid (w.heap[b.mf]? = some (.map es clock)):=hbm
 obtain⟨hb,c0,c1,c2,c3,f1⟩:=hdr.c
 have np:=owns_ne_cells hrow (b:=b.dr) hdr (by decide)
 have hadd:=dadd_some b.dr p 1 0 d a m cap xs none 0 0 pa n pc w hb hp hbp hm4 hn c0 c1 f1 q0 hrow np hpa
 have HADD:Hid _:=hadd
 have HDR:Hid (DrAt w p b a m cap):=hdr
 have HROW:Hid (w.ownsRow 0 145 4 (.slice a m cap) m xs):=hrow
 have HWF:Hid ((Lit.int .i64 ((n:Int)+((m+1:Nat):Int))).wf=true):=WalkArith.wf_i64 (by omega)
 clear hh hh2 hadd hdr hrow hpa np hbm hn
 obtain⟨r,hr⟩:∃ r:Int,r=(n:Int)+((m+1:Nat):Int):=⟨_,rfl⟩
 rw[<- hr] at HADD HWF
 have HR:Hid (r=(n:Int)+((m+1:Nat):Int)):=hr
 clear hr
 go_enter Tryz.func170,Tryz.ntmps170
 go_wp2_with (first
  | (at_lookup;refine wpList_lookup_own_ok_int _ rfl _ _ 133 rfl 9 26 .i64 law9 Tryz.underlying133 Tryz.underlying26 (zero25 _) bf n Df rfl hf _ _ rfl hkey ?_;intro c' hat hwc;rw[HH.out])
  | (at_lookup;refine wpList_lookup_own_ok_int _ rfl _ _ 133 rfl 9 26 .i64 law9 Tryz.underlying133 Tryz.underlying26 (zero25 _) b.mf m Dm rfl hm _ _ rfl hkey ?_;intro c2' hat2 hwc2;rw[HH2.out])
  | (go_at_call 171;refine Calls.mono HADD.out ?_;rintro e w2 ⟨rfl,hA⟩;have HA:Hid _:=hA;obtain⟨hm2,k22,_⟩:=addedD_keep hA HDR.out HROW.out hm;clear hA)
  | (at_mapUpdate;refine wpList_mapUpdate_own _ rfl _ _ _ 133 rfl 9 26 law9 Tryz.underlying133 _ b.mf m _ rfl hm2 (by unfold maxLen;omega) _ _ _ rfl rfl hkey _ [] (plainElem_int Tryz.underlying26 HWF.out) ?_;intro w3 hown3 hg3)
  | go_in)
 go_ret
 obtain rfl:=HR.out
 exact⟨rfl,AddedD.grew HA.out HDR.out HROW.out HBM.out hown3 hg3⟩
def core3 (o:Ob):Int×ByteArray×List Ent:=(o.kind,o.data,o.ents)
theorem findIdx_map {α β:Type}(f:α->β)(q:β->Bool):∀ l:List α,(l.map f).findIdx? q=l.findIdx? (fun x=>q (f x))
 | []=>rfl
 | x :: r=>by rw[List.map_cons,List.findIdx?_cons,List.findIdx?_cons,findIdx_map f q r]
theorem fileAt_core {a b:List Ob}(h:a.map core3=b.map core3)(d:ByteArray):fileAt a d=fileAt b d:=by
 have e:∀ l:List Ob,fileAt l d=(l.map core3).findIdx? (fun x=>decide (x.1=1) && decide (x.2.1=d)):=fun l=>by rw[findIdx_map];rfl
 rw[e,e,h]
theorem dirAt_core {a b:List Ob}(h:a.map core3=b.map core3)(es:List Ent):dirAt a es=dirAt b es:=by
 have e:∀ l:List Ob,dirAt l es=(l.map core3).findIdx? (fun x=>decide (x.1=2) && decide (x.2.2=es)):=fun l=>by rw[findIdx_map];rfl
 rw[e,e,h]
theorem fileAt_app (a b:List Ob)(d:ByteArray):fileAt (a++b) d=(fileAt a d).or ((fileAt b d).map (· + a.length)):=by
 unfold fileAt
 rw[List.findIdx?_append]
theorem dirAt_app (a b:List Ob)(es:List Ent):dirAt (a++b) es=(dirAt a es).or ((dirAt b es).map (· + a.length)):=by
 unfold dirAt
 rw[List.findIdx?_append]
def DInv (D:Nat->Prop)(w:World)(p:Nat)(b:DB)(objs a:List Ob):Prop:=
 ∃ ds ms va cap Df Dd,a=objs++ds/\ms.map core3=ds.map core3/\DraftAt D w p b objs.length va cap Df Dd ms
theorem DInv.keep {D D':Nat->Prop}{w w':World}{p:Nat}{b:DB}{objs a:List Ob}(h:DInv D w p b objs a)(hk:∀ k,k<w.heap.size->D k->w'.heap[k]? = w.heap[k]?)(hD:∀ k,k<w.heap.size->D k->D' k):DInv D' w' p b objs a:=by
 obtain⟨ds,ms,va,cap,Df,Dd,h1,h2,h3⟩:=h
 exact⟨ds,ms,va,cap,Df,Dd,h1,h2,h3.keep hk hD⟩
theorem DInv.below {D:Nat->Prop}{w w':World}{p:Nat}{b:DB}{objs a:List Ob}(h:DInv D w p b objs a)(hb:Below w.heap.size w w'):DInv (NewF D w w') w' p b objs a:=h.keep (fun k hk _=>hb.block k hk) (fun k _ h=>.inl h)
theorem ne_of_F {F D:Nat->Prop}(h:∀ k,F k->¬ D k){x y:Nat}(hx:F x)(hy:D y):x≠y:=fun e=>h x hx (e ▸ hy)
theorem dfile_any {F D:Nat->Prop}{w:World}{s p:Nat}{b:DB}{objs a:List Ob}(hP:InvP ft F w s p objs)(hdis:∀ k,F k->¬ D k)(hD:DInv D w p b objs a)(hfew:a.length<4000)(d:ByteArray)(hd:d.size<=256):
  Calls Tryz.prog 170 #[.pointer (some ⟨b.dr,0,none⟩),.string d] w fun e w'=>e=.returned (.int .i64 (fileD a d).1)/\DInv (NewF D w w') w' p b objs (fileD a d).2/\Keeps D w w':=by
 obtain⟨pa,pc,bf,bd,Df,Dd,i⟩:=hP
 have hD0:=hD
 obtain⟨ds,ms,va,cap,Mf,Md,rfl,hcore,j⟩:=hD
 have same:∀ w',w'=w->DInv (NewF D w w') w' p b objs (objs++ds)/\Keeps D w w':=by
  intro w' e
  subst e
  exact⟨hD0.below (Below.refl _ _),Keeps.of_below (Below.refl _ _)⟩
 obtain⟨hb,c0,c1,c2,c3,f1⟩:=j.hd.c
 have hbf:bf≠b.mf:=ne_of_F hdis i.ff j.df
 have hlen:ms.length=ds.length:=by have:=congrArg List.length hcore;simpa using this
 obtain⟨p1,p2⟩:=i.filesOk d
 obtain⟨m1,m2⟩:=j.filesOk d
 have hap:=fileAt_app objs ds d
 rw[<- fileAt_core hcore d] at hap
 unfold fileD
 cases h1:fileAt objs d with
 | some x=>
  rw[h1] at p1 hap
  rw[hap]
  refine (dfile_pool p bf b Df objs.length d ((x:Int)+1) w hd hb c0 i.pool.at_.c1 i.files p1 (p2 x h1)).mono ?_
  rintro e w' ⟨he,hw⟩
  exact⟨he,same w' hw⟩
 | none=>
  rw[h1] at p1 hap
  cases h2:fileAt ms d with
  | some x=>
   rw[h2] at m1 hap
   rw[hap]
   refine (dfile_draft p bf b Df Mf objs.length ms.length d _ w hd hb c0 i.pool.at_.c1 c2 hbf i.files p1 j.files m1 (m2 x h2)).mono ?_
   rintro e w' ⟨he,hw⟩
   refine⟨?_,same w' hw⟩
   rw[he]
   simp only[Option.map_some,Option.none_or]
   congr 2
   omega
  | none=>
   rw[h2] at m1 hap
   have hap0:fileAt (objs++ds) d=none:=hap
   rw[hap0]
   have hpl:=i.pool.at_.lt
   have hbp:b.dr≠p:=(ne_of_F hdis i.fp j.dd).symm
   have hpa:some p≠(Value.slice va ms.length cap).ownBlock:=fun e=>hdis p i.fp (j.da p e.symm)
   have hm4:ms.length<4000:=by simp only[List.length_append] at hfew;omega
   refine (dfile_new p bf b Df Mf objs.length ms.length va cap (obCells ms) pa pc d w hd i.pool.at_.c1 i.pool.at_.c0 hpl hbp i.pool.many hm4 j.hd j.row hpa hbf i.files p1 j.files m1).mono ?_
   rintro e w' ⟨he,hG⟩
   obtain⟨es0,clock0,hbm⟩:=ownsMap_isMap j.files
   have hG0:=hG
   obtain⟨_,_,_,_,_,hfm,_⟩:=hG
   have hdm:=(hG0.other j.hd j.row j.dirs j.ne.symm).mono (Nat.le_succ _)
   obtain⟨a',cap',hj,hk⟩:=j.grow (o:=fileOb d) hG0 j.df hbm (.inl ⟨rfl,rfl,hd⟩) rfl hfm (j.filesOk.put j.files.isMap d h2 rfl rfl) hdm (j.dirsOk.other (show (1:Int)≠2 by decide))
   refine⟨?_,⟨ds ++ [fileOb d],ms ++ [fileOb d],a',cap',_,_,(List.append_assoc _ _ _),by rw[List.map_append,List.map_append,hcore],hj⟩,hk⟩
   rw[he]
   simp only[List.length_append]
   congr 2
   omega
variable {ft:PTail}
theorem row_slice {w:World}{base:Nat}{v:Value}{es:List Ent}(h:w.ownsRow base 76 3 v es.length (flat es)):∃ ea ec,v=.slice ea es.length ec:=by
 rcases h.2 with ⟨rfl,h0⟩ | ⟨g,c,cur,rfl,_⟩
 ·exact⟨none,0,by rw[h0]⟩
 ·exact⟨_,_,rfl⟩
theorem listing_row {w:World}{v:Value}{es:List Ent}(hrow:w.ownsRow 0 76 3 v es.length (flat es))(h16:es.length<=16):
  Calls Tryz.prog 70 #[v] w fun e w'=>e=.returned (.agg (listing es))/\Below w.heap.size w w':=by
 rcases hrow.2 with ⟨rfl,h0⟩ | ⟨g,c,cur,rfl,_,hg,_⟩
 ·obtain rfl:es = []:=List.length_eq_zero_iff.1 h0
  exact listing_nil w
 ·exact listing_some g es.length c es w rfl (ownsRow_lt hrow rfl) h16 (owns_cells hrow)
def DDir (w w':World)(p:Nat)(b:DB)(Dd Dm:DataW Unit)(n m:Nat)(a:Option Addr)(cap:Nat)(xs:List Value)(es:List Ent)(e:Ending):Prop:=
 (∃ c,Maps.has Dd (keyFor Tryz.prog es)=true/\Dd.atKey (keyFor Tryz.prog es) (.lit (.int .i64 0))=.lit (.int .i64 c)/\e=.returned (.int .i64 c)/\Below w.heap.size w w')\/
 (∃ c,Maps.has Dd (keyFor Tryz.prog es)=false/\Maps.has Dm (keyFor Tryz.prog es)=true/\Dm.atKey (keyFor Tryz.prog es) (.lit (.int .i64 0))=.lit (.int .i64 c)/\e=.returned (.int .i64 c)/\Below w.heap.size w w')\/
 (Maps.has Dd (keyFor Tryz.prog es)=false/\Maps.has Dm (keyFor Tryz.prog es)=false/\e=.returned (.int .i64 ((n:Int)+((m+1:Nat):Int)))/\∃ ea ec,w'.ownsRow 0 76 3 (.slice ea es.length ec) es.length (flat es)/\(∀ g,(Value.slice ea es.length ec).ownBlock=some g->w.heap.size<=g)/\
  GrewD w w' p b a m cap b.md 140 (xs ++ [.int .i64 2,.string ByteArray.empty,.slice ea es.length ec,.int .i64 0]) (Dm.put (keyFor Tryz.prog es) (.lit (.int .i64 ((n:Int)+((m+1:Nat):Int))))))
theorem ddir_after {W w5:World}{p:Nat}{b:DB}{a:Option Addr}{m cap g9:Nat}{xs news:List Value}{Dm:DataW Unit}{L:Array Value}(hdr:DrAt W p b a m cap)(hrow:W.ownsRow 0 145 4 (.slice a m cap) m xs)(hm:W.ownsMap Tryz.prog 140 (plainElem Tryz.prog 26) b.md m Dm)
  (h9:W.heap[g9]? = some (.cells L 140 (0,0)))(hA:AddedD W w5 b.dr a m cap xs news)(hL:L.size=48):
  w5.cell? ⟨b.dr,3,none⟩=some (.map (some b.md))/\(loadVar 140 ⟨g9,0,none⟩).run Tryz.prog w5.drew=.ok (.agg L) w5.drew/\
   Hid (w5.drew.ownsMap Tryz.prog 140 (plainElem Tryz.prog 26) b.md m Dm):=by
 have np:=owns_ne_cells hrow (b:=b.dr) hdr (by decide)
 have n9:=owns_ne_cells hrow h9 (by decide)
 have h9p:g9≠b.dr:=cells_ne h9 hdr (by decide)
 obtain⟨g2,cap2,hp5,hr5,hloc,hos,htape,hout,hsz5,hkeep⟩:=hA.facts hdr np
 obtain⟨k1,_,k3⟩:=addedD_keep hA hdr hrow hm
 have h95:w5.heap[g9]? = some (.cells L 140 (0,0)):=(hkeep _ (Array.getElem?_eq_some_iff.1 h9).1 h9p n9).trans h9
 have hl5:=run_loadVar_row (P:=Tryz.prog) w5.drew g9 140 140 L (0,0) _ h95 Tryz.underlying140 rfl (by rw[hL];exact info58)
 exact⟨k3,hl5,k1.drew⟩
theorem ddir_walk (p bd:Nat)(b:DB)(Dd Dm:DataW Unit)(n m:Nat)(a:Option Addr)(cap:Nat)(xs:List Value)(pa:Option Addr)(pc:Nat)(v:Value)(es:List Ent)(w:World)(hrow0:w.ownsRow 0 76 3 v es.length (flat es))(hN:Named es)
  (hp:p<w.heap.size)(k2:w.cell? ⟨p,2,none⟩=some (.map (some bd)))(q0:w.cell? ⟨p,0,none⟩=some (.slice pa n pc))(hbp:b.dr≠p)(hn:n<=400)(hm4:m<4000)
  (hdr:DrAt w p b a m cap)(hrow:w.ownsRow 0 145 4 (.slice a m cap) m xs)(hpa:some p≠(Value.slice a m cap).ownBlock)
  (hd:w.ownsMap Tryz.prog 140 (plainElem Tryz.prog 26) bd n Dd)(hm:w.ownsMap Tryz.prog 140 (plainElem Tryz.prog 26) b.md m Dm):
  Calls Tryz.prog 145 #[.pointer (some ⟨b.dr,0,none⟩),v] w fun e w'=>DDir w w' p b Dd Dm n m a cap xs es e:=by
 have hlis:=listing_row hrow0 hN.1
 have HZ:Hid ((listing es).size=48):=listing_size hN.1
 have hkey:=keyOf_listing es hN.1 (fun e he=>(hN.2 e he).1)
 obtain⟨hbl,c0,c1,c2,c3,f1⟩:=hdr.c
 have HROW0:Hid (w.ownsRow 0 76 3 v es.length (flat es)):=hrow0
 have HDR:Hid (DrAt w p b a m cap):=hdr
 have HROW:Hid (w.ownsRow 0 145 4 (.slice a m cap) m xs):=hrow
 have HPA:Hid (some p≠(Value.slice a m cap).ownBlock):=hpa
 have HL16:Hid (es.length<=16):=hN.1
 clear hrow0 hdr hrow hpa hN
 go_enter Tryz.func145,Tryz.ntmps145
 go_wp2_with (first
  | (go_at_call 70;refine hlis.mono ?_;rintro e w3 ⟨rfl,hb3⟩)
  | (refine wpList_store_row rfl 140 _ _ rfl w3.heap.size (listing es) rfl rfl 140 _ (heap_alloc_new w3 _) (by rw[HZ.out];exact info58) (by rw[HZ.out];rfl) (listing_one es) ?_;rw[setRow_alloc]))
 have hbw:Below w.heap.size w (w3.alloc (.cells (listing es) 140)):=hb3.alloc hb3.size _
 have hg9:(w3.alloc (.cells (listing es) 140)).heap[w3.heap.size]? = some (.cells (listing es) 140 (0,0)):=heap_alloc_new w3 _
 have hdW:(w3.alloc (.cells (listing es) 140)).ownsMap Tryz.prog 140 (plainElem Tryz.prog 26) bd n Dd:=ownsMap_keep hd (hbw.block bd hd.lt)
 have hmW:(w3.alloc (.cells (listing es) 140)).ownsMap Tryz.prog 140 (plainElem Tryz.prog 26) b.md m Dm:=ownsMap_keep hm (hbw.block b.md hm.lt)
 have hcW:=fun x o (hx:x<w.heap.size)=>hbw.cell (p:=⟨x,o,none⟩) hx
 have c0W:=(hcW b.dr 0 hbl).trans c0
 have c3W:=(hcW b.dr 3 hbl).trans c3
 have k2W:=(hcW p 2 hp).trans k2
 obtain⟨c,hrun,hat,hwc⟩:=look_int (W:=fun q=>(w3.alloc (.cells (listing es) 140)).drewN q) (fun q=>hdW) hkey
 obtain⟨c',hrun',hat',hwc'⟩:=look_int (W:=fun q=>(w3.alloc (.cells (listing es) 140)).drewN q) (fun q=>hmW) hkey
 have hload:=fun q=>run_loadVar_row (P:=Tryz.prog) ((w3.alloc (.cells (listing es) 140)).drewN q) w3.heap.size 140 140 (listing es) (0,0) _ hg9 Tryz.underlying140 rfl (by rw[HZ.out];exact info58)
 go_frame
 have HG9:Hid ((w3.alloc (.cells (listing es) 140)).heap[w3.heap.size]? = some (.cells (listing es) 140 (0,0))):=hg9
 have HMW:Hid _:=hmW
 clear hg9 hmW hdW hlis c0 c1 c2 c3 k2 f1 hcW hb3
 generalize w3.alloc (.cells (listing es) 140)=W at *
 refine wp_region_quiet_lit (by kernel_rfl) (by kernel_rfl) ?_
 iterate 7 quiet_step (fail)
 refine wpQuiet_load_row rfl 140 _ rfl w3.heap.size rfl (listing es) (by rintro _ ⟨q,rfl⟩;exact hload q) ?_
 go_frame
 refine wpQuiet_look rfl 134 _ _ true rfl (.map (some bd)) (.agg (listing es)) (.tuple #[.int .i64 c,.bool (Maps.has Dd (keyFor Tryz.prog es))]) rfl rfl (by rintro _ ⟨q,rfl⟩;exact hrun q) ?_
 go_frame
 repeat (quiet_step (fail))
 refine wpQuiet_nil ?_
 rintro _ ⟨nq,rfl⟩
 have HAT:Hid _:=hat
 have HAT':Hid _:=hat'
 clear hrun hat hwc hat' hwc'
 cases hhas:Maps.has Dd (keyFor Tryz.prog es) with
 | true=>
  have HH:Hid (Maps.has Dd (keyFor Tryz.prog es)=true):=hhas
  clear hhas
  go_wp2
  go_ret
  exact .inl ⟨c,HH.out,HAT.out,rfl,below_drewN hbw _⟩
 | false=>
  have HH:Hid (Maps.has Dd (keyFor Tryz.prog es)=false):=hhas
  clear hhas
  have hrun2:∀ q,(Instr.lookup 134 (.map (some b.md)) (.agg (listing es)) true).run Tryz.prog ((W.drewN nq).drewN q)=.ok (.tuple #[.int .i64 c',.bool (Maps.has Dm (keyFor Tryz.prog es))]) ((W.drewN nq).drewN q):=fun q=>by rw[World.drewN_drewN];exact hrun' _
  have hload2:∀ q,(loadVar 140 ⟨w3.heap.size,0,none⟩).run Tryz.prog ((W.drewN nq).drewN q)=.ok (.agg (listing es)) ((W.drewN nq).drewN q):=fun q=>by rw[World.drewN_drewN];exact hload _
  have c3N:(W.drewN nq).cell? ⟨b.dr,3,none⟩=some (.map (some b.md)):=c3W
  go_wp2
  refine wp_region_quiet_lit (by kernel_rfl) (by kernel_rfl) ?_
  iterate 4 quiet_step (fail)
  refine wpQuiet_load_row rfl 140 _ rfl w3.heap.size rfl (listing es) (by rintro _ ⟨q,rfl⟩;exact hload2 q) ?_
  go_frame
  refine wpQuiet_look rfl 134 _ _ true rfl (.map (some b.md)) (.agg (listing es)) (.tuple #[.int .i64 c',.bool (Maps.has Dm (keyFor Tryz.prog es))]) rfl rfl (by rintro _ ⟨q,rfl⟩;exact hrun2 q) ?_
  go_frame
  repeat (quiet_step (fail))
  refine wpQuiet_nil ?_
  rintro _ ⟨nq2,rfl⟩
  rw[World.drewN_drewN]
  generalize nq+nq2=N
  clear hrun2 hload2 c3N hrun' hload
  cases hhas2:Maps.has Dm (keyFor Tryz.prog es) with
  | true=>
   have HH2:Hid (Maps.has Dm (keyFor Tryz.prog es)=true):=hhas2
   clear hhas2
   go_wp2
   go_ret
   exact .inr (.inl ⟨c',HH.out,HH2.out,HAT'.out,rfl,below_drewN hbw _⟩)
  | false=>
   have HH2:Hid (Maps.has Dm (keyFor Tryz.prog es)=false):=hhas2
   clear hhas2
   have hbN:Below w.heap.size w (W.drewN N):=below_drewN hbw N
   have hcl:=cloneE_row (w:=W.drewN N) (ownsRow_keep HROW0.out (fun g hg=>hbN.block g (ownsRow_lt HROW0.out hg))) HL16.out
   go_wp2_with fail
   refine Calls.mono hcl ?_
   rintro e w4 ⟨v',rfl,hrow4,hfr4,hb4⟩
   obtain⟨ea,ec,rfl⟩:=row_slice hrow4
   have hb04:=below_via hbN hb4
   have HR4:Hid _:=hrow4
   have HF4:Hid _:=hfr4
   have hc4:=fun x o (hx:x<w.heap.size)=>hb04.cell (p:=⟨x,o,none⟩) hx
   have hdr4:DrAt w4 p b a m cap:=by
    have:=HDR.out
    unfold DrAt at this ⊢
    rw[hb04.block _ hbl];exact this
   have hrw4:w4.ownsRow 0 145 4 (.slice a m cap) m xs:=ownsRow_keep HROW.out (fun g hg=>hb04.block g (ownsRow_lt HROW.out hg))
   have hm4':w4.ownsMap Tryz.prog 140 (plainElem Tryz.prog 26) b.md m Dm:=ownsMap_keep hm (hb04.block b.md hm.lt)
   obtain⟨hbl4,d0,d1,d2,d3,g1⟩:=hdr4.c
   have np4:=owns_ne_cells hrw4 (b:=b.dr) hdr4 (by decide)
   have hadd:=dadd_some b.dr p 2 0 ByteArray.empty a m cap xs ea es.length ec pa n pc w4 hbl4 (Nat.lt_of_lt_of_le hp hb04.size) hbp hm4 hn d0 d1 g1 ((hc4 p 0 hp).trans q0) hrw4 np4 HPA.out
   have h94:w4.heap[w3.heap.size]? = some (.cells (listing es) 140 (0,0)):=(hb4.block w3.heap.size (show w3.heap.size<(W.drewN N).heap.size from (Array.getElem?_eq_some_iff.1 HG9.out).1)).trans HG9.out
   obtain⟨es9,clock9,hbm9⟩:=ownsMap_isMap hm4'
   have HALL:Hid _:=And.intro hdr4 (And.intro hrw4 (And.intro hm4' (And.intro h94 hbm9)))
   obtain⟨r,hr⟩:∃ r:Int,r=(n:Int)+((m+1:Nat):Int):=⟨_,rfl⟩
   have HWF:Hid ((Lit.int .i64 r).wf=true):=WalkArith.wf_i64 (by omega)
   rw[<- hr] at hadd
   have HR:Hid (r=(n:Int)+((m+1:Nat):Int)):=hr
   clear hrow4 hfr4 hc4 hdr4 hrw4 hm4' np4 h94 hbm9 hr c0W c3W k2W d0 d1 d2 d3 g1 q0
   go_wp2_with fail
   refine Calls.mono hadd ?_
   rintro e w5 ⟨rfl,hAd⟩
   obtain⟨kc,hl5,HD5⟩:=ddir_after HALL.out.1 HALL.out.2.1 HALL.out.2.2.1 HALL.out.2.2.2.1 hAd HZ.out
   have HAD:Hid _:=hAd
   clear hAd hadd
   go_wp2
   refine wp_region_still_tail 6 (by kernel_rfl) (by kernel_rfl) ?_
   simp only[List.take_succ_cons,List.take_zero,List.drop_succ_cons,List.drop_zero]
   iterate 4 still_step
   refine wpStill_load_row rfl 140 _ rfl w3.heap.size rfl (listing es) hl5 ?_
   go_frame
   still_step
   refine wpStill_nil ?_
   refine wpList_mapUpdate_own _ rfl _ _ _ 134 rfl 140 26 law58 Tryz.underlying134 _ b.md m _ rfl HD5.out (by unfold maxLen;omega) _ _ _ rfl rfl hkey _ [] (plainElem_int Tryz.underlying26 HWF.out) ?_
   intro w6 hd6 hg6
   have HG:Hid _:=And.intro hd6 hg6
   clear hd6 hg6
   go_wp2
   go_ret
   obtain rfl:=HR.out
   have hgrew:=AddedD.grew HAD.out HALL.out.1 HALL.out.2.1 HALL.out.2.2.2.2 HG.out.1 ⟨HG.out.2.os,HG.out.2.tape,HG.out.2.output,HG.out.2.size,HG.out.2.block⟩
   refine .inr (.inr ⟨HH.out,HH2.out,rfl,ea,ec,?_,fun g hg=>Nat.le_trans hbN.size (HF4.out g hg),GrewD.before hb04 hgrew⟩)
   obtain⟨g2,cap2,_,_,_,_,h5⟩:=hgrew
   refine ownsRow_keep HR4.out (fun g hg=>?_)
   have hne1:=owns_ne_cells HR4.out (b:=b.dr) HALL.out.1 (by decide)
   have hne2:=owns_ne_map HR4.out HALL.out.2.2.2.2
   rw[hg] at hne1 hne2
   refine h5.block g (ownsRow_lt HR4.out hg) (fun e=>hne1 (by rw[e])) (fun e=>hne2 (by rw[e])) ?_
   rcases HR4.out.2 with ⟨hv,_⟩ | ⟨g',c',cur,hv,_,hh,_⟩
   ·rw[hv] at hg;simp[Value.ownBlock] at hg
   ·rw[hv] at hg
    simp only[Value.ownBlock,Option.some.injEq] at hg
    subst hg
    exact owns_ne_cells HALL.out.2.1 hh (by decide)
theorem ddir_any {F D:Nat->Prop}{w:World}{s p:Nat}{b:DB}{objs a:List Ob}(hP:InvP ft F w s p objs)(hdis:∀ k,F k->¬ D k)(hD:DInv D w p b objs a)(hfew:a.length<4000)(v:Value)(es:List Ent)(hrow0:w.ownsRow 0 76 3 v es.length (flat es))(hN:Named es)(hR:Rising es):
  Calls Tryz.prog 145 #[.pointer (some ⟨b.dr,0,none⟩),v] w fun e w'=>e=.returned (.int .i64 (dirD a es).1)/\DInv (NewF D w w') w' p b objs (dirD a es).2/\Keeps D w w':=by
 obtain⟨pa,pc,bf,bd,Df,Dd,i⟩:=hP
 have hD0:=hD
 obtain⟨ds,ms,va,cap,Mf,Md,rfl,hcore,j⟩:=hD
 have same:∀ w',Below w.heap.size w w'->DInv (NewF D w w') w' p b objs (objs++ds)/\Keeps D w w':=fun w' hb=>⟨hD0.below hb,Keeps.of_below hb⟩
 have hlen:ms.length=ds.length:=by have:=congrArg List.length hcore;simpa using this
 obtain⟨p1,p2⟩:=i.dirsOk es hN
 obtain⟨m1,m2⟩:=j.dirsOk es hN
 have hap:=dirAt_app objs ds es
 rw[<- dirAt_core hcore es] at hap
 have hpl:=i.pool.at_.lt
 have hbp:b.dr≠p:=(ne_of_F hdis i.fp j.dd).symm
 have hpa:some p≠(Value.slice va ms.length cap).ownBlock:=fun e=>hdis p i.fp (j.da p e.symm)
 have hm4:ms.length<4000:=by simp only[List.length_append] at hfew;omega
 refine (ddir_walk p bd b Dd Md objs.length ms.length va cap (obCells ms) pa pc v es w hrow0 hN hpl i.pool.at_.c2 i.pool.at_.c0 hbp i.pool.many hm4 j.hd j.row hpa i.dirs j.dirs).mono ?_
 unfold dirD
 rintro e w' (⟨c,hh,hat,he,hb⟩ | ⟨c,hh,hh2,hat,he,hb⟩ | ⟨hh,hh2,he,ea,ec,hrow,hfr,hG⟩)
 ·rw[hh] at p1
  cases h1:dirAt objs es with
  | none=>rw[h1] at p1;cases p1
  | some x=>
   rw[h1] at hap
   have hap0:dirAt (objs++ds) es=some x:=hap
   rw[hap0]
   have hc:=(p2 x h1).symm.trans hat
   refine⟨?_,same w' hb⟩
   rw[he]
   simp only[DataW.lit.injEq,Lit.int.injEq,true_and] at hc
   rw[<- hc]
 ·rw[hh] at p1
  rw[hh2] at m1
  have h1:dirAt objs es=none:=by simpa using p1.symm
  cases h2:dirAt ms es with
  | none=>rw[h2] at m1;cases m1
  | some x=>
   rw[h1,h2] at hap
   have hap0:dirAt (objs++ds) es=some (x+objs.length):=hap
   rw[hap0]
   have hc:=(m2 x h2).symm.trans hat
   refine⟨?_,same w' hb⟩
   rw[he]
   simp only[DataW.lit.injEq,Lit.int.injEq,true_and] at hc
   rw[<- hc]
   simp only
   congr 2
   omega
 ·rw[hh] at p1
  rw[hh2] at m1
  have h1:dirAt objs es=none:=by simpa using p1.symm
  have h2:dirAt ms es=none:=by simpa using m1.symm
  rw[h1,h2] at hap
  have hap0:dirAt (objs++ds) es=none:=hap
  rw[hap0]
  obtain⟨es0,clock0,hbm⟩:=ownsMap_isMap j.dirs
  have hG0:=hG
  obtain⟨_,_,_,_,_,hdm,_⟩:=hG
  have hfm:=(hG0.other j.hd j.row j.files j.ne).mono (Nat.le_succ _)
  let o:Ob:={ kind:=2,data:=ByteArray.empty,ea:=ea,el:=es.length,ec:=ec,ents:=es,high:=0 }
  have hob:ObOk w' (NewF D w w') o:=.inr ⟨rfl,rfl,hN,hR,Int.le_refl _,by show (0:Int)<=5;decide,fun g hg=>.inr ⟨hfr g hg,ownsRow_lt hrow hg⟩,hrow⟩
  obtain⟨a',cap',hj,hk⟩:=j.grow (o:=o) hG0 j.dm hbm hob rfl hfm (j.filesOk.other (show (2:Int)≠1 by decide)) hdm (j.dirsOk.put j.dirs.isMap hN h2 rfl rfl)
  refine⟨?_,⟨ds ++ [dirObG es (highs (objs++ds) es)],ms ++ [o],a',cap',_,_,(List.append_assoc _ _ _),by rw[List.map_append,List.map_append,hcore];rfl,hj⟩,hk⟩
  rw[he]
  simp only[List.length_append]
  congr 2
  omega
theorem rise_unique:∀ {xs ys:List Ent},Rising xs->Rising ys->xs.Perm ys->xs=ys
 | [],ys,_,_,h=>(List.nil_perm.1 h).symm ▸ rfl
 | x :: xs,[],_,_,h=>absurd h (by simp)
 | x :: xs,y :: ys,hx,hy,h=>by
  obtain⟨x1,x2⟩:=List.pairwise_cons.1 hx
  obtain⟨y1,y2⟩:=List.pairwise_cons.1 hy
  have hxy:x=y:=by
   have hxm:x ∈ y :: ys:=h.mem_iff.1 (by simp)
   have hym:y ∈ x :: xs:=h.mem_iff.2 (by simp)
   rcases List.mem_cons.1 hxm with e | e
   ·exact e
   ·rcases List.mem_cons.1 hym with e' | e'
    ·exact e'.symm
    ·have a:=x1 y e'
     have b:=y1 x e
     unfold cfE at a b
     have:=cmp_trans _ _ _ a b
     rw[cmp_self] at this
     omega
  subst hxy
  rw[rise_unique x2 y2 (List.Perm.cons_inv h)]
def Ob.core (o:Ob):Int×ByteArray×List Ent×Int:=(o.kind,(if o.kind=1 then o.data else ⟨#[]⟩),(if o.kind=2 then o.ents else []),o.high)
def Same (x y:List Ob):Prop:=x.map Ob.core=y.map Ob.core
theorem Same.len {x y:List Ob}(h:Same x y):x.length=y.length:=by have:=congrArg List.length h;simpa using this
theorem Same.get {x y:List Ob}(h:Same x y)(i:Nat):(x[i]?).map Ob.core=(y[i]?).map Ob.core:=by
 have:=congrArg (fun l=>l[i]?) h
 simpa using this
theorem Same.snoc {x y:List Ob}(h:Same x y){o o':Ob}(ho:o.core=o'.core):Same (x ++ [o]) (y ++ [o']):=by
 unfold Same at h ⊢
 rw[List.map_append,List.map_append,h]
 simp[ho]
theorem Same.kind {x y:List Ob}(h:Same x y)(id:Int):kindOf x id=kindOf y id:=by
 have hg:=h.get (id-1).toNat
 unfold kindOf
 cases hx:x[(id-1).toNat]? <;> cases hy:y[(id-1).toNat]? <;> rw[hx,hy] at hg <;> simp[Ob.core] at hg ⊢
 rw[hg.1]
theorem Same.high {x y:List Ob}(h:Same x y)(id:Int):highOf x id=highOf y id:=by
 have hg:=h.get (id-1).toNat
 unfold highOf
 cases hx:x[(id-1).toNat]? <;> cases hy:y[(id-1).toNat]? <;> rw[hx,hy] at hg <;> simp[Ob.core] at hg ⊢
 rw[hg.2.2.2]
theorem Same.ents {x y:List Ob}(h:Same x y){id:Int}(hk:kindOf x id=2):entsOf x id=entsOf y id:=by
 obtain⟨h1,_⟩:=kindOf_pos (by rw[hk];decide)
 have hg:=h.get (id-1).toNat
 unfold kindOf at hk
 rw[if_pos h1] at hk
 unfold entsOf
 cases hx:x[(id-1).toNat]? <;> cases hy:y[(id-1).toNat]? <;> rw[hx,hy] at hg <;> simp[Ob.core] at hg ⊢
 rw[hx] at hk
 simp at hk
 rw[hk] at hg
 simpa [<- hg.1] using hg.2.2.1
theorem Same.bytes {x y:List Ob}(h:Same x y){id:Int}(hk:kindOf x id=1):bytesOf x id=bytesOf y id:=by
 obtain⟨h1,_⟩:=kindOf_pos (by rw[hk];decide)
 have hg:=h.get (id-1).toNat
 unfold kindOf at hk
 rw[if_pos h1] at hk
 unfold bytesOf
 cases hx:x[(id-1).toNat]? <;> cases hy:y[(id-1).toNat]? <;> rw[hx,hy] at hg <;> simp[Ob.core] at hg ⊢
 rw[hx] at hk
 simp at hk
 rw[hk] at hg
 simpa [<- hg.1] using hg.2.1
theorem core_file (o:Ob)(d:ByteArray):(decide (o.kind=1) && decide (o.data=d))=(decide (o.core.1=1) && decide (o.core.2.1=d)):=by
 unfold Ob.core
 by_cases h:o.kind=1 <;> simp[h]
theorem core_dir (o:Ob)(es:List Ent):(decide (o.kind=2) && decide (o.ents=es))=(decide (o.core.1=2) && decide (o.core.2.2.1=es)):=by
 unfold Ob.core
 by_cases h:o.kind=2 <;> simp[h]
theorem Same.file {x y:List Ob}(h:Same x y)(d:ByteArray):fileAt x d=fileAt y d:=by
 have e:∀ l:List Ob,fileAt l d=(l.map Ob.core).findIdx? (fun x=>decide (x.1=1) && decide (x.2.1=d)):=fun l=>by
  rw[findIdx_map];unfold fileAt;congr 1;funext o;exact core_file o d
 rw[e,e,h]
theorem Same.dir {x y:List Ob}(h:Same x y)(es:List Ent):dirAt x es=dirAt y es:=by
 have e:∀ l:List Ob,dirAt l es=(l.map Ob.core).findIdx? (fun x=>decide (x.1=2) && decide (x.2.2.1=es)):=fun l=>by
  rw[findIdx_map];unfold dirAt;congr 1;funext o;exact core_dir o es
 rw[e,e,h]
theorem Same.highs {x y:List Ob}(h:Same x y)(es:List Ent):highs x es=highs y es:=by
 unfold YtajopoddmfdejaaGreat.highs
 congr 1
 funext a e
 rw[h.high]
theorem Same.good {x y:List Ob}(h:Same x y)(e:Ent):goodE x e=goodE y e:=by
 unfold goodE
 rw[h.kind]
theorem Same.sound {x y:List Ob}(h:Same x y)(hs:Sound y):Sound x:=by
 refine⟨fun id=>by rw[h.high];exact hs.1 id,fun id hk=>?_⟩
 have hk':=hk
 rw[h.kind] at hk'
 obtain⟨s1,s2,s3⟩:=hs.2 id hk'
 rw[h.ents hk]
 refine⟨s1,s2,fun e he=>?_⟩
 rw[h.kind,h.high,h.high]
 exact s3 e he
theorem Same.exact {x y:List Ob}(h:Same x y)(hs:Exact y):Exact x:=by
 refine⟨h.sound hs.sound,fun o ho=>?_,fun id hk=>?_,fun id hk=>?_⟩
 ·obtain⟨i,hi,rfl⟩:=List.getElem_of_mem ho
  have hg:=h.get i
  have hi':i<y.length:=by rw[<- h.len];exact hi
  rw[List.getElem?_eq_getElem hi,List.getElem?_eq_getElem hi'] at hg
  simp only[Option.map_some,Option.some.injEq,Ob.core,Prod.mk.injEq] at hg
  rw[hg.1]
  exact hs.kinds _ (List.getElem_mem hi')
 ·rw[h.high];rw[h.kind] at hk;exact hs.low id hk
 ·have hk':=hk
  rw[h.kind] at hk'
  rw[h.high,h.highs,h.ents hk];exact hs.high id hk'
theorem rising_of_K {es:List Ent}(h:RisingK es):Rising es:=h
theorem put_file_model {x a:List Ob}(h:Same x a){o:Ob}(ho:PutOk a o)(hk:o.kind=1)(hn:x.length<400){x':List Ob}{e:Ending}(hp:FilePut x x' o.data e):(∃ i,e=.returned (.tuple #[.int .i64 i,.int .i64 0]))/\(∃ l,x'=x++l)/\Same x' (a ++ [o]):=by
 rcases ho.or with ⟨_,hh,hs,hf⟩ | ⟨hk2,_⟩
 ·rcases hp with ⟨h1,_⟩ | ⟨_,_,i,h2,_⟩ | ⟨_,_,h3,_⟩ | ⟨_,_,_,rfl,he⟩
  ·omega
  ·rw[h.file,hf] at h2;cases h2
  ·omega
  ·refine⟨⟨_,he⟩,⟨_,rfl⟩,h.snoc ?_⟩
   unfold Ob.core
   simp[fileOb,hk,hh]
 ·rw[hk] at hk2;cases hk2
theorem put_dir_model {x a:List Ob}(h:Same x a){o:Ob}(ho:PutOk a o)(hk:o.kind=2)(hn:x.length<400){x':List Ob}{e:Ending}(hp:DirPutG x x' o.ents e):(∃ i,e=.returned (.tuple #[.int .i64 i,.int .i64 0]))/\(∃ l,x'=x++l)/\Same x' (a ++ [o]):=by
 rcases ho.or with ⟨hk1,_⟩ | ⟨_,hh,h5,hr,h16,hv,hd⟩
 ·rw[hk] at hk1;cases hk1
 ·have hg:∀ y ∈ o.ents,goodE x y=true:=by
   intro y hy
   rw[h.good]
   obtain⟨_,k12,hky⟩:=hv y hy
   unfold goodE
   rw[hky]
   have:y.2.1≠0:=ne0 k12
   simp[this]
  have hnd:(o.ents.map (·.1)).Nodup:=nodup_of_rising (rising_of_K hr)
  rcases hp with ⟨⟨y,hy,h1⟩,_⟩ | ⟨_,⟨h1,_⟩ | ⟨_,h1,_⟩ | ⟨_,_,⟨y,hy,h1⟩,_⟩ | ⟨_,_,_,es',hP,hR,hN,hE⟩⟩
  ·rw[(hv y hy).1] at h1;cases h1
  ·exact absurd hnd h1
  ·omega
  ·rw[hg y hy] at h1;cases h1
  ·obtain rfl:=rise_unique hR (rising_of_K hr) hP
   rcases hE with ⟨h1,_⟩ | ⟨_,_,i,h1,_⟩ | ⟨_,_,h1,_⟩ | ⟨_,_,_,⟨o',k1,k2,k3,rfl⟩,he⟩
   ·rw[h.highs] at h1;omega
   ·rw[h.dir,hd] at h1;cases h1
   ·omega
   ·refine⟨⟨_,he⟩,⟨_,rfl⟩,h.snoc ?_⟩
    unfold Ob.core
    rw[k1,k2,k3,hk,hh,h.highs]
    simp
variable {ft:PTail}
theorem poolDirRow {F:Nat->Prop}{w:World}{s p:Nat}{objs:List Ob}(h:InvP ft F w s p objs){v:Value}{es:List Ent}(hrow:w.ownsRow 0 76 3 v es.length (flat es))(h16:es.length<=16)(hsz:∀ e ∈ es,e.1.size<=maxLen):
  Calls Tryz.prog 45 #[.pointer (some ⟨p,0,none⟩),v] w fun e w'=>∃ objs',DirPutG objs objs' es e/\InvP ft (NewF F w w') w' s p objs'/\Keeps F w w':=by
 obtain⟨a,cap,bf,bd,Df,Dd,i⟩:=h
 rcases hrow.2 with ⟨rfl,h0⟩ | ⟨g,c,cur,rfl,_,hg,_⟩
 ·obtain rfl:es = []:=List.length_eq_zero_iff.1 h0
  exact poolDirNil i
 ·exact poolDir i g 0 es.length c es rfl (ownsRow_lt hrow rfl) (by omega) (owns_cells hrow) hsz
theorem newF_via {F:Nat->Prop}{w w1 w2:World}(hb:w.heap.size<=w1.heap.size)(k:Nat)(h:NewF F w1 w2 k):NewF F w w2 k:=by
 rcases h with h | ⟨h1,h2⟩
 ·exact .inl h
 ·exact .inr ⟨by omega,h2⟩
theorem keeps_via {F:Nat->Prop}{w w1 w2:World}(hb:Below w.heap.size w w1)(h:Keeps F w1 w2):Keeps F w w2:=
 ⟨h.os.trans hb.os,h.tape.trans hb.tape,h.output.trans hb.output,Nat.le_trans hb.size h.size,fun k hk hn=>(h.block k (Nat.lt_of_lt_of_le hk hb.size) hn).trans (hb.block k hk)⟩
theorem InvP.wide {F F':Nat->Prop}{w:World}{s p:Nat}{objs:List Ob}(h:InvP ft F w s p objs)(hF:∀ k,F k->F' k):InvP ft F' w s p objs:=h.keep (fun _ _ _=>rfl) (fun k _ h=>hF k h)
theorem pput_file {F:Nat->Prop}{w:World}{s p:Nat}{objs:List Ob}(h:InvP ft F w s p objs)(d:ByteArray)(hd:d.size<=256)(ea:Option Addr)(el ec:Nat)(hh:Int):
  Calls Tryz.prog 110 #[.pointer (some ⟨p,0,none⟩),.agg #[.int .i64 1,.string d,.slice ea el ec,.int .i64 hh]] w fun e w'=>∃ objs' x y,FilePut objs objs' d (.returned (.tuple #[.int .i64 x,.int .i64 y]))/\e=.returned (.int .i64 y)/\InvP ft (NewF F w w') w' s p objs'/\Keeps F w w':=by
 have hb:Below w.heap.size w (w.alloc (.cells #[.int .i64 1,.string d,.slice ea el ec,.int .i64 hh] 145)):=(Below.refl _ _).alloc (Nat.le_refl _) _
 have hi:InvP ft F (w.alloc (.cells #[.int .i64 1,.string d,.slice ea el ec,.int .i64 hh] 145)) s p objs:=h.below hb (fun k _ h=>h)
 obtain⟨a,cap,bf,bd,Df,Dd,i⟩:=hi
 have hcon:=poolFile i d (by unfold maxLen;omega)
 have HB:Hid _:=hb
 clear h hb i
 go_enter Tryz.func110,Tryz.ntmps110
 go_wp2_with fail
 refine Calls.mono hcon ?_
 rintro e w' ⟨objs',hfp,hi,hk⟩
 obtain⟨x,y,rfl⟩:=hfp.shape
 have HALL:Hid _:=And.intro hfp (And.intro hi hk)
 clear hfp hi hk hcon
 go_wp2
 go_ret
 exact⟨objs',x,y,HALL.out.1,rfl,HALL.out.2.1.wide (fun k=>newF_via HB.out.size k),keeps_via HB.out HALL.out.2.2⟩
theorem pput_dir {F:Nat->Prop}{w:World}{s p:Nat}{objs:List Ob}(h:InvP ft F w s p objs)(d:ByteArray)(ea:Option Addr)(el ec:Nat)(hh:Int){es:List Ent}(hrow:w.ownsRow 0 76 3 (.slice ea el ec) es.length (flat es))(h16:es.length<=16)(hsz:∀ e ∈ es,e.1.size<=maxLen):
  Calls Tryz.prog 110 #[.pointer (some ⟨p,0,none⟩),.agg #[.int .i64 2,.string d,.slice ea el ec,.int .i64 hh]] w fun e w'=>∃ objs' x y,DirPutG objs objs' es (.returned (.tuple #[.int .i64 x,.int .i64 y]))/\e=.returned (.int .i64 y)/\InvP ft (NewF F w w') w' s p objs'/\Keeps F w w':=by
 have hb:Below w.heap.size w (w.alloc (.cells #[.int .i64 2,.string d,.slice ea el ec,.int .i64 hh] 145)):=(Below.refl _ _).alloc (Nat.le_refl _) _
 have hi:InvP ft F (w.alloc (.cells #[.int .i64 2,.string d,.slice ea el ec,.int .i64 hh] 145)) s p objs:=h.below hb (fun k _ h=>h)
 have hcon:=poolDirRow hi (hrow.alloc _) h16 hsz
 have HB:Hid _:=hb
 clear h hb hi hrow hsz h16
 go_enter Tryz.func110,Tryz.ntmps110
 go_wp2_with fail
 refine Calls.mono hcon ?_
 rintro e w' ⟨objs',hfp,hi,hk⟩
 obtain⟨x,y,rfl⟩:=hfp.shape
 have HALL:Hid _:=And.intro hfp (And.intro hi hk)
 clear hfp hi hk hcon
 go_wp2
 go_ret
 exact⟨objs',x,y,HALL.out.1,rfl,HALL.out.2.1.wide (fun k=>newF_via HB.out.size k),keeps_via HB.out HALL.out.2.2⟩
theorem pput_next {F D:Nat->Prop}{w:World}{s p:Nat}{x a:List Ob}(h:InvP ft F w s p x)(hs:Same x a)(hn:x.length<400){o m:Ob}(ho:PutOk a o)(hc:core3 m=core3 o)(hm:ObOk w D m):
  Calls Tryz.prog 110 #[.pointer (some ⟨p,0,none⟩),.agg #[.int .i64 m.kind,.string m.data,.slice m.ea m.el m.ec,.int .i64 m.high]] w fun e w'=>e=.returned (.int .i64 0)/\∃ x',(∃ l,x'=x++l)/\Same x' (a ++ [o])/\InvP ft (NewF F w w') w' s p x'/\Keeps F w w':=by
 simp only[core3,Prod.mk.injEq] at hc
 obtain⟨c1,c2,c3⟩:=hc
 rcases ho.or with ⟨hk,_,hsz,_⟩ | ⟨hk,_,_,hr,h16,hv,_⟩
 ·rw[c1,hk,c2]
  refine (pput_file h o.data hsz m.ea m.el m.ec m.high).mono ?_
  rintro e w' ⟨x',i,y,hf,rfl,hi,hk'⟩
  obtain⟨⟨j,he⟩,hl,hs'⟩:=put_file_model hs ho hk hn hf
  simp only[Ending.returned.injEq,Value.tuple.injEq,Array.mk.injEq,List.cons.injEq,Value.int.injEq,true_and,and_true] at he
  rw[he.2]
  exact⟨rfl,x',hl,hs',hi,hk'⟩
 ·rcases hm with ⟨q,_⟩ | ⟨_,q2,_,_,_,_,_,q9⟩
  ·rw[c1,hk] at q;cases q
  ·rw[<- q2,c3] at q9
   rw[c1,hk,<- q2,c3]
   refine (pput_dir h m.data m.ea o.ents.length m.ec m.high (es:=o.ents) q9 h16 (fun e he=>by have:=(valid_size (hv e he).1).2;unfold maxLen;omega)).mono ?_
   rintro e w' ⟨x',i,y,hf,rfl,hi,hk'⟩
   obtain⟨⟨j,he⟩,hl,hs'⟩:=put_dir_model hs ho hk hn hf
   simp only[Ending.returned.injEq,Value.tuple.injEq,Array.mk.injEq,List.cons.injEq,Value.int.injEq,true_and,and_true] at he
   rw[he.2]
   exact⟨rfl,x',hl,hs',hi,hk'⟩
end Go.Proofs.YtajopoddmfdejaaGreat
