/- What is proved here: 'Checkout' of the oH own uv. -/
import Derived.Test.YtlgidcmmgohagaaGreatTreeM31
import Derived.Test.YtlgidcmmgohagaaGreatTreeM32
import Derived.Deep.Cut
import Derived.Deep.CutRange
import Derived.Test.YtlgidcmmgohagaaGreatTreeM25
import Derived.Test.YtlgidcmmgohagaaGreatTreeM10
namespace Go.Proofs.YtlgidcmmgohagaaGreat
open Go.RowKit Go.Sort Go.Shelf Go.Proofs.Tryz
set_option linter.unusedVariables false
set_option maxRecDepth 100000
set_option maxHeartbeats 16000000
def Dp (w w':World)(k:Nat):Prop:=w.heap.size<=k/\k<w'.heap.size
theorem CF {w w2 w3:World}{S q j:Nat}{v:Value}{nodes:List aK}{data:List ByteArray}{rest:List Value}(hs:b9 (Dp w w2) w2 S nodes data rest)(hS:w.heap.size<=S)(hb:Below w.heap.size w w2)(hg:(w2.drewN q).grownBy w3 none):
  b9 (Dp w (w3.setCell ⟨S,2+j,none⟩ v)) (w3.setCell ⟨S,2+j,none⟩ v) S nodes data (rest.set j v)/\Below w.heap.size w (w3.setCell ⟨S,2+j,none⟩ v):=by
 obtain⟨na,nc,da,dc,hst⟩:=hs;have hsz:w2.heap.size<=w3.heap.size:=hg.size;have h3:dF (Dp w w3) w3 S na da nc dc nodes data rest:=hst.keep (fun k hk=>⟨hk.1,cv hk.2 hsz⟩) (fun k hk=>hg.block k hk.2 (by simp));have h4:=(h3.XM j v).1;refine⟨⟨na,nc,da,dc,h4.keep (fun k hk=>⟨hk.1,by simpa using hk.2⟩) (fun _ _=>rfl)⟩,?_⟩;exact ((below_drewN hb q).grown hg hb.size (fun k h=>by cases h)).setCell hS _
theorem EI {w:World}{b:Nat}{t:TypeId}{z n:Nat}{v:Value}{xs:List Value}(h:w.ownsRow b t z v n xs):∃a c,v=.slice a n c:=by
 rcases h.2 with ⟨rfl,rfl⟩ | ⟨g,cap,_,rfl,_⟩
 ·exact⟨none,0,rfl⟩
 ·exact⟨_,_,rfl⟩
def EJ:List Value:=[.bool false,.int .i64 0,.int .i64 0,.int .i64 0,.bool false,.int .i64 0,.int .i64 0,.int .i64 0,.bool false,.int .i64 0,.int .i64 0,.int .i64 0,.bool false,.int .i64 0,.int .i64 0,.int .i64 0,.bool false,.int .i64 0,.int .i64 0,.int .i64 0,.bool false,.int .i64 0,.int .i64 0,.int .i64 0,.bool false,.int .i64 0,.int .i64 0,.int .i64 0,.bool false,.int .i64 0,.int .i64 0,.int .i64 0,.slice none 0 0,.slice none 0 0]
theorem JW (w:World):b9 (fun k=>k=w.heap.size) (w.alloc (.cells (Value.slice none 0 0 :: Value.slice none 0 0 :: EJ).toArray 179)) w.heap.size [] [] EJ:=
 ⟨none,0,none,0,⟨rfl,heap_alloc_new _ _,World.ownsRow_nil _ _ _ _,World.ownsRow_nil _ _ _ _,(fun g hg=>by cases hg),(fun g hg=>by cases hg)⟩⟩
theorem dF.cR {F:Nat->Prop}{w:World}{S:Nat}{na da:Option Addr}{nc dc:Nat}{nodes:List aK}{data:List ByteArray}{rest:List Value}(h:dF F w S na da nc dc nodes data rest){j:Nat}{v:Value}(hj:rest[j]? = some v):w.cell? ⟨S,2+j,none⟩=some v:=by
 have e2:(2+j)=j+1+1:=by omega
 simp[World.cell?,h.hS,e2,hj]
theorem dF.fR {F:Nat->Prop}{w:World}{S:Nat}{na da:Option Addr}{nc dc:Nat}{nodes:List aK}{data:List ByteArray}{rest:List Value}(h:dF F w S na da nc dc nodes data rest)(i:Nat):w.frozen? ⟨S,i,none⟩=false:=by simp[World.frozen?,h.hS]
theorem U4 (xs:List ByteArray):∀u ∈ gM xs,u.oneCell'=true:=by
 intro u hu;simp only[gM,List.mem_map] at hu;obtain⟨x,_,rfl⟩:=hu;rfl
theorem Gs (au:List Ob)(r at_:Nat)(G:Nat->Prop)(w:World)(hat:iM au)(sA:∀o ∈ au,∀e ∈ o.aV,e.1.size<=12)(QS:at_<au.length)(Fm:at_<=5000)(b1:(gO au (at_+1) at_ ⟨#[]⟩ ([],[])).1.length<=1000000000)(b2:(gO au (at_+1) at_ ⟨#[]⟩ ([],[])).2.length<=1000000000)
  (CJ:bS G w r au)(hG:∀k,G k->k<w.heap.size):
  Calls prog 47 #[.pointer (some ⟨r,0,none⟩),.int .i64 (at_:Int)] w fun e w'=>∃rest,e=.returned (.pointer (some ⟨w.heap.size,0,none⟩))/\b9 (Dp w w') w' w.heap.size (gO au (at_+1) at_ ⟨#[]⟩ ([],[])).1 (gO au (at_+1) at_ ⟨#[]⟩ ([],[])).2 rest/\Below w.heap.size w w':=by
 obtain⟨iN,hiN,hN0,hN1,hN2⟩:=info_parts tC;obtain⟨iS,hiS,Gz,hS1,yy⟩:=info_parts tq;have hout:=fun (rest:List Value) (F:Nat->Prop) (w1:World)=>XP au rest w.heap.size r hat sA (at_+1) at_ ⟨#[]⟩ ([],[]) F G w1 (by omega) QS (by show 0+_<=_;omega) b1 b2;obtain⟨nodes,MO⟩:∃x,x=(gO au (at_+1) at_ ⟨#[]⟩ ([],[])).1:=⟨_,rfl⟩;obtain⟨data,U5⟩:∃x,x=(gO au (at_+1) at_ ⟨#[]⟩ ([],[])).2:=⟨_,rfl⟩;rw[<-MO,<-U5] at hout ⊢;rw[<-MO] at b1;rw[<-U5] at b2;have ajd:Hid _:=hout;have HRI:Hid (bS G w r au):=CJ;have HG:Hid (∀k,G k->k<w.heap.size):=hG;obtain⟨nn,Ao⟩:∃n,n=nodes.length:=⟨_,rfl⟩;obtain⟨nd,zW⟩:∃n,n=data.length:=⟨_,rfl⟩;rw[<-Ao] at b1;rw[<-zW] at b2;have S8:Hid (nn=nodes.length):=Ao;have Gu:Hid (nd=data.length):=zW;clear hout MO U5 CJ hG Ao zW hat sA;go_enter func47,ntmps47;go_wp2_with fail;refine Calls.mono (ajd.out EJ (fun k=>k=w.heap.size) _ (JW w) (HRI.out.below ((Below.refl _ _).alloc (bA _) _) (fun _ h=>h)) (fun k hk=>⟨by have:=HG.out k hk;simp;omega,by have:=HG.out k hk;omega⟩) (fun k hk=>by subst hk;simp)) ?_;rintro _ w2 ⟨rfl,hst,gU⟩;have Ow:w.heap.size+1<=w2.heap.size:=by have:=gU.size;simpa using this
 have hb2:Below w.heap.size w w2:=⟨gU.os,gU.tape,gU.output,by omega,fun k hk=>by rw[gU.block k (by simp;omega) (by omega),Below.heap_alloc _ _ _ hk]⟩;have HI2:Hid (b9 (Dp w w2) w2 w.heap.size nodes data EJ):=hst.CC (fun k hk=>by
  rcases hk with h | ⟨h1,h2⟩
  ·subst h;exact⟨bA _,by omega⟩
  ·simp at h1;exact⟨by omega,h2⟩)
 have zg:Hid (Below w.heap.size w w2):=hb2;clear hst gU hb2;obtain⟨na,nc,da,dc,hst⟩:=HI2.out;have k0:=hst.c0;have k34:w2.cell? ⟨w.heap.size,34,none⟩=some (.slice none 0 0):=hst.cR (j:=32) rfl;have HST:Hid (dF (Dp w w2) w2 w.heap.size na da nc dc nodes data EJ):=hst;rw[<-S8.out] at k0;have YB:Hid (w2.ownsRow 0 200 3 (.slice na nn nc) nn (flat nodes)):=by rw[S8.out];exact hst.jW
 clear hst;have aps:w.heap.size<w2.heap.size:=by omega
 go_upto_region 3 with fail
 go_cut [] from 12 to 36 (fun wx=>Hid (∃rest,rest[33]? = some (Value.slice none 0 0)/\b9 (Dp w wx) wx w.heap.size nodes data rest/\Below w.heap.size w wx))
 case first=>
  go_region_law (refine qV rfl (.tmp 16) (.tmp 20) 174 rfl 200 iN _ 3 32 underlying174 hiN hN0 hN1 hN2 rfl (by decide) (by simp[Act.eval]) na nn nc (flat nodes) (by simp[Act.eval]) (show (w2.drewN 1).ownsRow _ _ _ _ _ _ from YB.out) (iY _) (by unfold maxLen;omega) (by omega) ?_;intro v3 w3 wL hg3 Ye;obtain⟨xa3,xc3,rfl⟩:=EI wL;have LL:=HST.out.keep (F':=fun _=>True) (w':=w3) (fun _ _=>trivial) (fun k hk=>hg3.block k hk.2 (by simp));have p3:w3.cell? ⟨w.heap.size,34,none⟩=some (.slice none 0 0):=LL.cR (j:=32) rfl;have f3:=LL.fR 34;have acL:=LL.lt;clear LL)
  all_goals
   go_wp2_with fail;go_meet;exact⟨_,by first | rfl | simp[EJ],CF (j:=32) HI2.out (bA _) zg.out hg3⟩
 case rest=>
  rename World=>w5;obtain⟨rest,aaV,aeG,j3⟩:=hcut.out;have HI5:Hid (b9 (Dp w w5) w5 w.heap.size nodes data rest):=aeG;have HB5:Hid (Below w.heap.size w w5):=j3;have aje:Hid (rest[33]? = some (Value.slice none 0 0)):=aaV;obtain⟨na5,nc5,da5,dc5,QY⟩:=aeG;have q1:=QY.c1;have q35:w5.cell? ⟨w.heap.size,35,none⟩=some (.slice none 0 0):=QY.cR (j:=33) aaV;have aeE:=QY.lt;have aaI:Hid (dF (Dp w w5) w5 w.heap.size na5 da5 nc5 dc5 nodes data rest):=QY;rw[<-Gu.out] at q1;have Vp:Hid (w5.ownsRow 0 9 1 (.slice da5 nd dc5) nd (gM data)):=by rw[Gu.out];exact QY.ny
  clear QY j3 hcut aaV k0 k34;go_upto_region 4 with fail
  go_cut [] from 12 to 36 (fun wx=>Hid (∃rest,b9 (Dp w wx) wx w.heap.size nodes data rest/\Below w.heap.size w wx))
  case first=>
   go_region_law (refine qV rfl (.tmp 28) (.tmp 32) 131 rfl 9 iS _ 1 16 underlying131 hiS Gz hS1 yy rfl (by decide) (by simp[Act.eval]) da5 nd dc5 (gM data) (by simp[Act.eval]) (show (w5.drewN 1).ownsRow _ _ _ _ _ _ from Vp.out) (U4 _) (by unfold maxLen;omega) (by omega) ?_;intro v6 w6 ho6 wk hl6;obtain⟨xa6,xc6,rfl⟩:=EI ho6;have MN:=aaI.out.keep (F':=fun _=>True) (w':=w6) (fun _ _=>trivial) (fun k hk=>wk.block k hk.2 (by simp));have p6:w6.cell? ⟨w.heap.size,35,none⟩=some (.slice none 0 0):=MN.cR (j:=33) aje.out;have f6:=MN.fR 35;have ajc:=MN.lt;clear MN)
   all_goals
    go_wp2_with fail;go_meet;exact⟨_,CF (j:=33) HI5.out (bA _) HB5.out wk⟩
  case rest=>
   have HF:Hid _:=hcut;clear hcut;go_wp2;go_ret;obtain⟨aeH,h1,h2⟩:=HF.out;exact⟨aeH,rfl,h1,h2⟩
theorem MP (W n j gw gt wc tc wb Sb:Nat)(kd a1 a2 a3:Int)(S T:ByteArray)(la:Option Addr)(lm lc:Nat)(R:World->Prop)(w:World)(hW:W<w.heap.size)(lM:kd<=13)(c5:w.cell? ⟨W,5,none⟩=some (.slice (some ⟨gw,0,none⟩) n wc))(c6:w.cell? ⟨W,6,none⟩=some (.slice (some ⟨gt,0,none⟩) n tc))
  (hgw:gw<w.heap.size)(iX:gt<w.heap.size)(OH:j<n)(hn:n<=1000000000)(cw:w.cell? ⟨gw,j,none⟩=some (.pointer (some ⟨wb,0,none⟩)))(ct:w.cell? ⟨gt,j,none⟩=some (.pointer (some ⟨Sb,0,none⟩)))(ha1:-9223372036854775808<=a1/\a1<=9223372036854775807)(lJ:oU a1 (n:Int)=(j:Int))
  (h1:∀W1,Below w.heap.size w W1->Calls prog 50 #[.pointer (some ⟨W,0,none⟩),.pointer (some ⟨wb,0,none⟩),.pointer (some ⟨Sb,0,none⟩),.agg (l5 kd a1 a2 a3 S T la lm lc)] W1 fun e w'=>e=.returned (.bool true)/\R w'):
  Calls prog 23 #[.pointer (some ⟨W,0,none⟩),.agg (l5 kd a1 a2 a3 S T la lm lc)] w fun e w'=>e=.returned (.bool true)/\R w':=by
 have EB:=fun W1=>S6 a1 (n:Int) W1 ha1 (by omega) (by omega);rw[lJ] at EB;unfold l5 at h1 ⊢;obtain⟨Bx,hB⟩:∃B:Obj,B=.cells #[.int .i64 kd,.int .i64 a1,.int .i64 a2,.int .i64 a3,.string S,.string T,.slice la lm lc] 57:=⟨_,rfl⟩;obtain⟨w1,jb⟩:∃w1,w1=w.alloc Bx:=⟨_,rfl⟩;have hb0:Below w.heap.size w w1:=by rw[jb];exact (Below.refl _ _).alloc (bA _) Bx
 have hz1:w.heap.size<w1.heap.size:=by rw[jb];simp
 have x0:w1.cell? ⟨w.heap.size,0,none⟩=some (.int .i64 kd):=by rw[jb,hB];simp
 have x1:w1.cell? ⟨w.heap.size,1,none⟩=some (.int .i64 a1):=by rw[jb,hB];simp
 have x2:w1.cell? ⟨w.heap.size,2,none⟩=some (.int .i64 a2):=by rw[jb,hB];simp
 have x3:w1.cell? ⟨w.heap.size,3,none⟩=some (.int .i64 a3):=by rw[jb,hB];simp
 have x4:w1.cell? ⟨w.heap.size,4,none⟩=some (.string S):=by rw[jb,hB];simp
 have x5:w1.cell? ⟨w.heap.size,5,none⟩=some (.string T):=by rw[jb,hB];simp
 have x6:w1.cell? ⟨w.heap.size,6,none⟩=some (.slice la lm lc):=by rw[jb,hB];simp
 have y5:=(hb0.cell (p:=⟨W,5,none⟩) hW).trans c5;have y6:=(hb0.cell (p:=⟨W,6,none⟩) hW).trans c6;have yw:=(hb0.cell (p:=⟨gw,j,none⟩) hgw).trans cw;have yt:=(hb0.cell (p:=⟨gt,j,none⟩) iX).trans ct;have hW1:W<w1.heap.size:=cv hW hb0.size;have apw:gw<w1.heap.size:=cv hgw hb0.size;have apx:gt<w1.heap.size:=cv iX hb0.size;have hji:(j:Int)<(n:Int):=by omega
 have H1:Hid _:=fun q=>h1 (w1.drewN q) (below_drewN hb0 q);have Kc:Hid _:=EB;clear h1 EB c5 c6 cw ct lJ;go_enter func23,ntmps23;go_upto_region 1 with fail;rw[<-hB,<-jb];clear hB jb hb0
 go_region_with (go_at_call 49;refine Calls.mono (Kc.out _) ?_;rintro _ _ ⟨rfl,rfl⟩)
 all_goals
  go_wp2_with (go_at_call 50;refine Calls.mono (H1.out _) ?_;rintro _ w5 ⟨rfl,hR⟩);go_ret;exact⟨rfl,hR⟩
section
variable {R:u9}{tg:aP}{w:World}{B0 W s r p lim:Nat}{ag au:List Ob}{got:List Int}{ws:List Slot}{ds:List Doc}{q8 q9 fP j n:Nat}
theorem qW {w1:World}(M:cW R tg w B0 W s r p lim ag au got ws ds q8 q9 fP)(hb:Below w.heap.size w w1):Below B0 w w1:=hb.mono M.size
theorem XQ (hn:n<=1048600)(G:dP B0 w W s r n)(kd a1 a2 a3:Int)(S T:ByteArray)(la:Option Addr)(lm lc:Nat)(hS:S.size<=1048576)(hT:T.size<=1048576)(ha1:-9223372036854775808<=a1/\a1<=9223372036854775807)(hk:8<=kd/\kd<=12):
  Calls prog 23 #[.pointer (some ⟨W,0,none⟩),.agg (l5 kd a1 a2 a3 S T la lm lc)] w fun e w'=>e=.returned (.bool true)/\dP B0 w' W s r (n+1)/\Below B0 w w':=by
 obtain⟨R,tg,p,lim,ag,au,got,ws,ds,q8,q9,fP,M,L,vk,h8,h9,h11,jb,hw2⟩:=G;have hpl:=D4 a1 (n:=(ws.length:Int)) (by omega);obtain⟨j,hj⟩:∃j:Nat,oU a1 (ws.length:Int)=(j:Int):=⟨(oU a1 (ws.length:Int)).toNat,by omega⟩;have lU:j<ws.length:=by omega
 have GF:j<ds.length:=by rw[L.len];exact lU
 obtain⟨gw,hwa,hgw,cw,_⟩:=row_one M.Dl (i:=j) (v:=ptr ws[j].2.1.wb) (by simp[lU]);obtain⟨gt,hta,iX,ct,_⟩:=row_one M.ny (i:=j) (v:=ptr ds[j].1) (by simp[GF]);obtain⟨_,_,qu,c5,c6⟩:=M.Xv;rw[hwa] at c5;rw[hta,L.len] at c6;refine MP W ws.length j gw gt R.wc R.tc ws[j].2.1.wb ds[j].1 kd a1 a2 a3 S T la lm lc _ w qu (by omega) c5 c6 hgw iX lU (by omega) cw ct ha1 hj (fun W1 hb=>?_);refine (XJ hn (M.below hb) L vk h8 h9 h11 jb hw2 lU GF kd a1 a2 a3 S T la lm lc hS hT hk).mono ?_;rintro e w' ⟨he,G',hB⟩;exact⟨he,G',(qW M hb).trans hB⟩
theorem L4.grow {k:Nat}(M:cW R tg w B0 W s r p lim ag au got ws ds q8 q9 fP)(L:L4 ag ws ds k)(l:List Ob):L4 (ag++l) ws ds k:=
 ⟨L.len,fun j h h'=>⟨(L.same j h h').1.app M.w3.uQ.2.2.1.sound (M.xL _ (jk h)).ok (M.xL _ (jk h)).fl l,(L.same j h h').2⟩⟩
theorem U6 (hn:n<=1048600)(G:dP B0 w W s r n)(o:Step)(ho:o.Fits w)(hk:1<=o.kind/\o.kind<=5):
  Calls prog 20 #[.pointer (some ⟨W,0,none⟩),o.val] w fun e w'=>e=.returned (.bool true)/\dP B0 w' W s r (n+1)/\Below B0 w w':=by
 obtain⟨R,tg,p,lim,ag,au,got,ws,ds,q8,q9,fP,M,L,vk,h8,h9,h11,jb,hw2⟩:=G;refine (M.step (by omega) o ho hk).mono ?_;rintro e w' ⟨he,R',aC,l,bC,q',hq',M',hB⟩;exact⟨he,⟨R',aC,p,lim,ag++l,bC,got,ws,ds,q8,q',fP,M',(L.grow M l).mono (by omega),by omega,by omega,by omega,by omega,jb,by omega⟩,hB⟩
theorem YM {x:Slot}(h:Ai tg w p ag lim x)(id:Int):x.2.2.1.fs.kn id<=1/\(x.2.2.1.fs.kn id≠0->aH ag id≠0):=by
 obtain⟨_,_,_,_,_,_,kF⟩:=h.wp.qK;obtain⟨_,_,_,_,_,_,_,kD⟩:=h.wp.qL;unfold FS.kn;cases hF:x.2.2.1.fs.kF id <;> cases hD:x.2.2.1.fs.kD id
 ·exact⟨by decide,fun h=>absurd rfl h⟩
 ·exact⟨by decide,fun _=>by rw[(kD id hD).1];decide⟩
 ·exact⟨by decide,fun _=>by rw[kF id hF];decide⟩
 ·exfalso
  have h1:=kF id hF;have h2:=(kD id hD).1;rw[h1] at h2;cases h2
theorem U7 {α:Type}(f:α->Nat):∀(l:List α),(∀x ∈ l,f x<=1)->(l.map f).sum<=l.length
 | [],_=>bA _
 | x :: r,h=>by
  rw[List.map_cons,List.sum_cons,List.length_cons]
  have:=h x (List.mem_cons_self ..)
  have:=U7 f r (fun y hy=>h y (List.mem_cons_of_mem _ hy))
  omega
theorem Oe {α:Type}(f:α->Nat):∀(l:List α),(l.map f).sum≠0->∃x ∈ l,f x≠0
 | [],h=>absurd rfl h
 | x :: r,h=>by
  by_cases h0:f x=0
  ·rw[List.map_cons,List.sum_cons,h0,Nat.zero_add] at h
   obtain⟨y,hy,h1⟩:=Oe f r h
   exact⟨y,List.mem_cons_of_mem _ hy,h1⟩
  ·exact⟨x,List.mem_cons_self ..,h0⟩
theorem MQ (hn:n<=1048600)(G:dP B0 w W s r n)(a1 a2 a3:Int)(S T:ByteArray)(la:Option Addr)(lm lc:Nat):
  Calls prog 20 #[.pointer (some ⟨W,0,none⟩),.agg (l5 6 a1 a2 a3 S T la lm lc)] w fun e w'=>e=.returned (.bool true)/\dP B0 w' W s r (n+1)/\Below B0 w w':=by
 obtain⟨R,tg,p,lim,ag,au,got,ws,ds,q8,q9,fP,M0,L,vk,h8,h9,h11,jb,hw2⟩:=G;refine Dm W a1 a2 a3 S T la lm lc (fun w'=>dP B0 w' W s r (n+1)/\Below B0 w w') w (fun W1 hb=>?_);have M:=M0.below hb;obtain⟨c0,_,qu,c5,_⟩:=M.Xv;have fo:=M.Dk;refine Gp W s ws.length R.wc R.wa got _ W1 qu c0 c5 (by omega) (by omega) (fun x=>?_) (JV M.Xs (by omega)) (fun i hi=>?_) (fun w1 la c hb1 hrow=>?_)
 ·rw[M.cnt x]
  exact U7 _ _ (fun y hy=>(YM (M.xL y hy) x).1)
 ·have aeI:got.count got[i]≠0:=by
   have:=List.count_pos_iff.2 (jk hi)
   omega
  rw[M.cnt] at aeI;obtain⟨y,hy,hy0⟩:=Oe _ _ aeI;have hk:=(YM (M.xL y hy) got[i]).2 hy0;obtain⟨k1,k2⟩:=fG hk;refine⟨(((got[i]-1).toNat:Nat):Int),by omega,fun w' hb'=>?_⟩
  have:=oT (M.w3.below hb') (got[i]-1).toNat k2
  rw[show (((got[i]-1).toNat:Nat):Int)+1=got[i] by omega] at this;exact this
 ·have M1:=M.below hb1
  refine (M1.aej (by omega) (by omega) (cL hrow (dG _)) (fun b hb'=>?_)).mono ?_
  ·have hlt:=hrow.lt b hb'
   exact⟨M.fresh b hlt.1,eU M.size hlt.1,fun hf=>by have:=M.names.lt b hf;omega,fun hf=>by have:=M.aV.lt b hf;omega,fun hf=>by have:=M.ids.lt b hf;omega⟩
  ·rintro e w' ⟨he,R',M',hB⟩
   exact⟨he,⟨R',tg,p,lim,ag,au,got,ws,ds,q8,q9,fP+1,M',L.mono (by omega),by omega,by omega,by omega,by omega,jb,by omega⟩,((qW M0 hb).trans (qW M hb1)).trans hB⟩
end
theorem JX (s p:Nat)(id k:Int)(w:World)(hs:s<w.heap.size)(c0:w.cell? ⟨s,0,none⟩=some (.pointer (some ⟨p,0,none⟩)))(hk2:k≠2)(hk:Calls prog 61 #[.pointer (some ⟨p,0,none⟩),.int .i64 id] w fun e w'=>e=.returned (.int .i64 k)/\Below w.heap.size w w'):
  Calls prog 27 #[.pointer (some ⟨s,0,none⟩),.int .i64 id] w fun e w'=>e=.returned (.tuple #[.pointer none,.int .i64 13])/\Below w.heap.size w w':=by
 have k2:(k != 2)=true:=by simpa using hk2
 go_enter func27,ntmps27;go_wp2_with (go_at_call 61;refine hk.mono ?_;rintro e w1 ⟨rfl,hb1⟩);go_ret2;exact⟨rfl,hb1⟩
theorem CG {tg:aP}{w:World}{s p:Nat}{ag:List Ob}{got:List Int}{brk:Bool}{lim:Nat}(h:gj tg w s p ag got brk lim){id:Int}(hk:aH ag id≠2):
  Calls prog 27 #[.pointer (some ⟨s,0,none⟩),.int .i64 id] w fun e w'=>e=.returned (.tuple #[.pointer none,.int .i64 13])/\Below w.heap.size w w':=by
 obtain⟨xS,ft,S3,⟨a,cap,bf,bd,Df,Dd,hI⟩,kE⟩:=h;exact JX s p id (aH ag id) w (Array.getElem?_eq_some_iff.1 hI.hs).1 hI.c0 hk (qp p a ag.length cap bf bd ag id w hI.iH)
section
variable {R:u9}{tg:aP}{w:World}{B0 W s r p lim:Nat}{ag au:List Ob}{got:List Int}{ws:List Slot}{ds:List Doc}{q8 q9 fP j n:Nat}
theorem MR (ag:List Ob)(id:Int):dI ag (.dir id):=fun x y b h1 _=>by
 have:=(uH ag x id).2
 rw[h1] at this
 cases this
theorem aaW (M:cW R tg w B0 W s r p lim ag au got ws ds q8 q9 fP){id:Int}(hk:aH ag id=2):bu ag 5 (.dir id):=by
 obtain⟨a,cap,bf,bd,Df,Dd,hI⟩:=M.w3.uQ.1;obtain⟨k1,k2⟩:=fG (by rw[hk];decide);refine⟨hk,?_⟩;unfold cC;rw[kO k2];exact (hI.dn _ (jk k2)).2
theorem QZ (M:cW R tg w B0 W s r p lim ag au got ws ds q8 q9 fP):∀o ∈ au,∀e ∈ o.aV,e.1.size<=12:=by
 intro o ho e he;obtain⟨i,hi,rfl⟩:=List.getElem_of_mem ho;have hT:=M.w3.twin;have hio:i<ag.length:=by rw[hT.1];exact hi
 have QS:=hT.2.1 i hio hi;rcases hT.2.2 _ (jk hio) with k | k
 ·rw[QS.none k] at he;cases he
 ·rw[QS.aV k] at he
  obtain⟨e',CS,rfl⟩:=List.mem_map.1 he;have hs:=M.w3.uQ.2.2.1.sound.2 ((i:Int)+1) (by rw[dL hio];exact k);have pO:bR ag ((i:Int)+1)=ag[i].aV:=by
   unfold bR;rw[show ((i:Int)+1-1).toNat=i by omega,kO hio];rfl
  rw[pO] at hs;exact (eo (hs.2.2 e' CS).1).2
theorem U8 (M:cW R tg w B0 W s r p lim ag au got ws ds q8 q9 fP)(hj:j<ag.length):∃gp pc pv,w.cell? ⟨W,4,none⟩=some (.slice (some ⟨gp,0,none⟩) ag.length pc)/\gp<w.heap.size/\w.cell? ⟨gp,j,none⟩=some (.int .i64 pv):=by
 obtain⟨ia,ka,pa,ic,kc,pc,paths,hl,hlen,_⟩:=M.w3.law;obtain⟨gp,kP,Oi,hc,_⟩:=row_one hl.qg (i:=j) (v:=.int .i64 (paths[j]'(by rw[hlen];exact hj))) (by simp[encI,hlen,hj]);have c4:=hl.c4;rw[kP,hlen] at c4;exact⟨gp,pc,_,c4,Oi,hc⟩
theorem JY (hn:n<=1048600)(M:cW R tg w B0 W s r p lim ag au got ws ds q8 q9 fP)(L:L4 ag ws ds (1200000+n))(hw:ws.length<=n)(a1 N a3:Int)(S T:ByteArray)(la:Option Addr)(lm lc:Nat):
  Calls prog 20 #[.pointer (some ⟨W,0,none⟩),.agg (l5 7 a1 N a3 S T la lm lc)] w fun e w'=>e=.returned (.bool true)/\Below B0 w w'/\∃R' aC AE XR,cW R' aC w' B0 W s r p lim ag au got AE XR q8 q9 fP/\L4 ag AE XR (1200000+n)/\ws.length<=AE.length/\AE.length<=ws.length+1/\(aH ag N=2->(∀gp pc pv,w.cell? ⟨W,4,none⟩=some (.slice (some ⟨gp,0,none⟩) ag.length pc)->w.cell? ⟨gp,(N-1).toNat,none⟩=some (.int .i64 pv)->pv<=300)->AE.length=ws.length+1):=by
 obtain⟨c0,c1,qu,_,_⟩:=M.Xv;have aaX:∀W1,Below w.heap.size w W1->Calls prog 39 #[.pointer (some ⟨W,0,none⟩),.int .i64 N] W1 fun e w'=>e=.returned (.int .i64 N)/\w'=W1:=fun W1 hb=>zm (M.w3.below hb) N;have same:∀w',Below w.heap.size w w'->(aH ag N=2->False)->Below B0 w w'/\∃R' aC AE XR,cW R' aC w' B0 W s r p lim ag au got AE XR q8 q9 fP/\L4 ag AE XR (1200000+n)/\ws.length<=AE.length/\AE.length<=ws.length+1/\(aH ag N=2->(∀gp pc pv,w.cell? ⟨W,4,none⟩=some (.slice (some ⟨gp,0,none⟩) ag.length pc)->w.cell? ⟨gp,(N-1).toNat,none⟩=some (.int .i64 pv)->pv<=300)->AE.length=ws.length+1):=fun w' hb hk=>⟨qW M hb,R,tg,ws,ds,M.below hb,L,bA _,by omega,fun h _=>(hk h).elim⟩;by_cases hk:aH ag N=2
 ·obtain⟨k1,k2⟩:=fG (by rw[hk];decide)
  obtain⟨j,hj⟩:∃j:Nat,N=(j:Int)+1:=⟨(N-1).toNat,by omega⟩;have hjo:j<ag.length:=by omega
  have hjN:(N-1).toNat=j:=by omega
  have hpl:∀W1,Below w.heap.size w W1->Calls prog 41 #[.pointer (some ⟨W,0,none⟩),.int .i64 N] W1 fun e w'=>e=.returned (.int .i64 (j:Int))/\w'=W1:=fun W1 hb=>by rw[hj];exact oT (M.w3.below hb) j hjo
  have lM:∀W1,Below w.heap.size w W1->Calls prog 42 #[.pointer (some ⟨W,0,none⟩),.int .i64 (j:Int)] W1 fun e w'=>e=.returned (.int .i64 2)/\w'=W1:=fun W1 hb=>by
   have:=xe (M.w3.below hb) j hjo
   rw[<-dL hjo,<-hj,hk] at this;exact this
  obtain⟨gp,pc,pv,c4,Oi,cp⟩:=U8 M hjo;have Fm:=(W3.few M.w3).1;by_cases hpv:300<pv
  ·refine (Mq W j ag.length pc gp a1 N a3 pv S T la lm lc w qu c4 hjo (by omega) Oi cp hpv aaX hpl lM).mono ?_
   rintro e w' ⟨he,hb⟩;refine⟨he,qW M hb,R,tg,ws,ds,M.below hb,L,bA _,by omega,fun _ hall=>?_⟩
   have:=hall gp pc pv c4 (by rw[hjN];exact cp)
   omega
  ·have cz:=aaW M hk
   have hX:Exact ag:=M.w3.uQ.2.2.1;obtain⟨fc,hfc⟩:∃fc:e7,fc=ko ag (fun _=>none):=⟨_,rfl⟩;obtain⟨Lt,hLt⟩:∃Lt,Lt=bZ ag fc 5 [] (.dir N):=⟨_,rfl⟩;have hout:=Cz (fc:=fc) M.w3.twin hX M.w3.at_ 5 (j+1) j [] ([],[]) (by omega) (fun x hx=>by cases hx) (by rw[<-hj];exact hk) (by rw[<-hj];rw[bu] at cz;exact cz.2);rw[<-hj,<-hLt] at hout;have U9:gO au (j+1) j ⟨#[]⟩ ([],[])=(dJ 0 Lt,cu Lt):=hout.trans (by simp);have hlen:=MB hX.sound (fc:=fc) cz;rw[<-hLt] at hlen;have wm:(dJ 0 Lt).length<=1200000:=by rw[yX];exact hlen
   have hl2:(cu Lt).length<=1200000:=eU (ug _) hlen;refine (Ux M (by omega) L.len j ag.length pc gp a1 N a3 pv S T la lm lc c4 hjo (by omega) Oi cp hpv (wg0 N got) (.dir N) (fun x=>rfl) (dJ 0 Lt) (cu Lt) aaX hpl lM (fun W1 hb=>?_) (fun G w2 CJ hG=>?_)).mono ?_
   ·refine (Qy (M.below hb).Xs (i:=ws.length+2) (by omega) cz).mono ?_
    rintro e w' ⟨B,he,aC,m,hQ⟩;exact⟨B,aC,he,m,hQ.inv.st,⟨hQ.inv.two,hQ.inv.wp,hQ.flat,hQ.ok,hQ.fl,hQ.op,MR ag N⟩⟩
   ·have hT:=M.w3.twin
    have:=Gs au r j G w2 M.w3.at_ (QZ M) (by rw[<-hT.1];exact hjo) (by omega) (by rw[U9];show (dJ 0 Lt).length<=_;omega) (by rw[U9];show (cu Lt).length<=_;omega) CJ hG
    rw[U9] at this;exact this
   ·rintro e w' ⟨he,R',aC,B,S',rest,M',hB⟩
    refine⟨he,hB,R',aC,_,_,M',⟨by simp[L.len],fun i hi vn=>?_⟩,by simp,by simp,fun _ _=>by simp⟩;simp only[List.getElem_append];by_cases VH:i<ws.length
    ·have Q2:i<ds.length:=by rw[L.len];exact VH
     simp only[VH,Q2,dite_true];exact L.same i VH Q2
    ·have Q2:¬i<ds.length:=by rw[L.len];exact VH
     have hiw:i=ws.length:=by simp at hi;omega
     have e1:i-ws.length=0:=(by omega);have e2:i-ds.length=0:=by rw[L.len];omega
     simp only[VH,Q2,dite_false,e1,e2,List.getElem_cons_zero];refine⟨?_,?_,by show (dJ 0 Lt).length<=_;omega,hl2⟩
     ·have:=EC (fc:=fc) hX.sound cz rfl
      rw[<-hLt,hfc] at this;exact this
     ·have:=QU (fc:=fc) hX.sound cz rfl
      rw[<-hLt] at this;exact this
 ·obtain⟨pz,kz,O9,hwh⟩:=Ip (ft:=⟨R.pt,p,[]⟩) W s r ag au (.slice R.wa ws.length R.wc) (.slice R.ta ds.length R.tc) (.bool false) (.slice R.na (4*q8) R.nc) (.slice R.ea (4*q9) R.ec) (.slice none 0 0) (.slice R.ia (4*fP) R.ic) N hk
  refine (Mp W s a1 N a3 pz kz S T la lm lc w qu c0 O9 aaX (fun W1 hb=>(hwh W1 (M.w3.below hb)).1) (fun W1 hb=>(hwh W1 (M.w3.below hb)).2) (fun W1 hb=>CG (M.below hb).Xs hk)).mono ?_;rintro e w' ⟨he,hb⟩;exact⟨he,same w' hb hk⟩
theorem Va (hn:n<=1048600)(G:dP B0 w W s r n)(a1 N a3:Int)(S T:ByteArray)(la:Option Addr)(lm lc:Nat):
  Calls prog 20 #[.pointer (some ⟨W,0,none⟩),.agg (l5 7 a1 N a3 S T la lm lc)] w fun e w'=>e=.returned (.bool true)/\dP B0 w' W s r (n+1)/\Below B0 w w':=by
 obtain⟨R,tg,p,lim,ag,au,got,ws,ds,q8,q9,fP,M,L,vk,h8,h9,h11,jb,hw2⟩:=G;refine (JY hn M L hw2 a1 N a3 S T la lm lc).mono ?_;rintro e w' ⟨he,hB,R',aC,AE,XR,M',L',h1,h2,_⟩;exact⟨he,⟨R',aC,p,lim,ag,au,got,AE,XR,q8,q9,fP,M',L'.mono (by omega),by omega,by omega,by omega,by omega,by omega,by omega⟩,hB⟩
theorem CH (hn:n<=1048600)(G:dP B0 w W s r n):Calls prog 24 #[.pointer (some ⟨W,8,none⟩)] w fun e w'=>e=.returned (.bool true)/\Below w.heap.size w w':=by
 obtain⟨R,tg,p,lim,ag,au,got,ws,ds,q8,q9,fP,M,L,vk,h8,h9,h11,jb,hw2⟩:=G;exact M.still (by omega) (by omega) (by omega)
theorem dP.below {w':World}(G:dP B0 w W s r n)(hb:Below w.heap.size w w'):dP B0 w' W s r n:=by
 obtain⟨R,tg,p,lim,ag,au,got,ws,ds,q8,q9,fP,M,rest⟩:=G;exact⟨R,tg,p,lim,ag,au,got,ws,ds,q8,q9,fP,M.below hb,rest⟩
theorem dP.cells (G:dP B0 w W s r n):w.cell? ⟨W,0,none⟩=some (.pointer (some ⟨s,0,none⟩))/\W<w.heap.size/\B0<=w.heap.size:=by
 obtain⟨R,tg,p,lim,ag,au,got,ws,ds,q8,q9,fP,M,rest⟩:=G;exact⟨M.Xv.1,M.Xv.2.2.1,M.size⟩
theorem dP.mono {m:Nat}(G:dP B0 w W s r n)(h:n<=m):dP B0 w W s r m:=by
 obtain⟨R,tg,p,lim,ag,au,got,ws,ds,q8,q9,fP,M,L,vk,h8,h9,h11,jb,hw2⟩:=G;exact⟨R,tg,p,lim,ag,au,got,ws,ds,q8,q9,fP,M,L.mono (by omega),by omega,by omega,by omega,by omega,jb,by omega⟩
theorem cW.aaZ {Q:List Ob->Prop}{args:Array Value}(h:cW R tg w B0 W s r p lim ag au got ws ds q8 q9 fP)
  (hc:Calls prog 20 args w fun e w'=>e=.returned (.bool true)/\qC Q ⟨R.pt,p,ag⟩ (fun k=>tg k=(0,1)) (fun k=>tg k=(0,2)) (fun k=>tg k=(1,0)) w w' W s r (.slice R.wa ws.length R.wc) (.slice R.ta ds.length R.tc) (.bool false) (.slice R.na (4*q8) R.nc) (.slice R.ea (4*q9) R.ec) (.slice none 0 0) (.slice R.ia (4*fP) R.ic)):
  Calls prog 20 args w fun e w'=>e=.returned (.bool true)/\∃R' aC aN bC,Q aN/\cW R' aC w' B0 W s r p lim aN bC got ws ds q8 q9 fP/\Below B0 w w':=by
 refine hc.mono ?_;rintro e w' ⟨he,s8,sx,sy,aN,bC,h3,nw,hk,hq⟩;have n3:∀k,tg k=(0,0)->¬F3 (fun k=>tg k=(0,1)) (fun k=>tg k=(0,2)) (fun k=>tg k=(1,0)) k:=fun k hk e=>by
  rcases e with e | e | e <;> (rw[hk] at e;cases e)
 have hH:∀k,R.FE k->¬F3 (fun k=>tg k=(0,1)) (fun k=>tg k=(0,2)) (fun k=>tg k=(1,0)) k:=fun k hk=>n3 k (h.holds k (.inr (.inl hk))).1;obtain⟨R',aC,l,rfl,M',hB⟩:=h.Er h3 (h.aV.keep (fun k hf=>hk.block k (h.aV.lt k hf) (hH k hf)) hk.size) (fun k hf V7=>by
  rcases nw.all k V7 with e | e
  ·exact hH k hf e
  ·have:=h.aV.lt k hf;omega) nw (fun k hf=>.inl hf) ⟨hk.os,hk.tape,hk.output,hk.size,fun k fM hn=>hk.block k fM (fun h=>hn (.inl h))⟩
 exact⟨he,R',aC,_,bC,hq,M',hB⟩
end
theorem aa0 {w w1:World}{s p:Nat}(hi:kU pt0 (bq (fun _=>False) w w1) w1 s p [])(hb:Below w.heap.size w w1):
  ∃R tg,cW R tg ((w1.alloc (.cells #[.slice none 0 0] 94)).alloc (.cells #[.pointer (some ⟨s,0,none⟩),.pointer (some ⟨w1.heap.size,0,none⟩),.slice none 0 0,.slice none 0 0,.slice none 0 0,.slice none 0 0,.slice none 0 0,.bool false,.slice none 0 0,.slice none 0 0,.slice none 0 0,.slice none 0 0] 71)) w.heap.size (w1.heap.size+1) s w1.heap.size p 0 [] [] [] [] [] 0 0 0:=by
 have z:=hb.size;obtain⟨w2,hw2⟩:∃w2,w2=w1.alloc (.cells #[.slice none 0 0] 94):=⟨_,rfl⟩;rw[<-hw2];obtain⟨w3,hw3⟩:∃w3,w3=w2.alloc (.cells #[.pointer (some ⟨s,0,none⟩),.pointer (some ⟨w1.heap.size,0,none⟩),.slice none 0 0,.slice none 0 0,.slice none 0 0,.slice none 0 0,.slice none 0 0,.bool false,.slice none 0 0,.slice none 0 0,.slice none 0 0,.slice none 0 0] 71):=⟨_,rfl⟩;rw[<-hw3];have s2:w2.heap.size=w1.heap.size+1:=by rw[hw2];simp
 have s3:w3.heap.size=w1.heap.size+2:=by rw[hw3];simp[s2]
 have hr:w3.heap[w1.heap.size]? = some (.cells #[.slice none 0 0] 94 (0,0)):=by
  rw[hw3,Below.heap_alloc _ _ _ (by omega),hw2];exact heap_alloc_new _ _
 have hW:w3.heap[w1.heap.size+1]? = some (.cells #[.pointer (some ⟨s,0,none⟩),.pointer (some ⟨w1.heap.size,0,none⟩),.slice none 0 0,.slice none 0 0,.slice none 0 0,.slice none 0 0,.slice none 0 0,.bool false,.slice none 0 0,.slice none 0 0,.slice none 0 0,.slice none 0 0] 71 (0,0)):=by
  rw[hw3,<-s2];exact heap_alloc_new _ _
 have hk:∀k,k<w1.heap.size->w3.heap[k]? = w1.heap[k]?:=fun k hk=>by
  rw[hw3,Below.heap_alloc _ _ _ (by omega),hw2,Below.heap_alloc _ _ _ hk]
 obtain⟨tg,xW⟩:∃tg:aP,tg=fun k=>if k=w1.heap.size+1 then (0,1) else if k=w1.heap.size then (0,2) else if w.heap.size<=k/\k<w1.heap.size then (1,0) else (0,0):=⟨_,rfl⟩;have t1:tg (w1.heap.size+1)=(0,1):=by rw[xW];exact aL rfl
 have t2:tg w1.heap.size=(0,2):=by rw[xW];simp
 have t3:∀k,w.heap.size<=k->k<w1.heap.size->tg k=(1,0):=fun k h1 h2=>by
  rw[xW];simp only;rw[ay (by omega),ay (by omega),aL ⟨h1,h2⟩]
 have hf:jC tg w3:=fun k dy=>by
  rw[xW];simp only;rw[ay (by omega),ay (by omega),ay (by omega)]
 have YN:∀{t tl:TypeId} {V:Nat->Value},tY (fun _=>False) t tl V w3 none 0 0 []:=⟨rfl,World.ownsRow_nil _ _ _ _,(fun g hg=>by cases hg),(fun i hi=>by cases hi),fun k hk=>hk.elim⟩;refine⟨⟨pt0,none,0,none,0,none,0,none,0,none,0,[],[],[],fun _=>False,fun _=>False,fun _=>False⟩,tg,⟨hf,fun k dy=>?_,by omega,rfl,⟨World.ownsRow_nil _ _ _ _,rfl,fun g hg=>by cases hg⟩,bA _,⟨?_,?_,⟨?_,List.prefix_refl _,OV,Sw⟩,?_,?_,nh hf⟩,World.ownsRow_nil _ _ _ _,(fun g hg=>by cases hg),World.ownsRow_nil _ _ _ _,(fun g hg=>by cases hg),YN,?_,YN,?_,?_,(fun x hx=>by cases hx),(fun j h=>by cases h),(fun j h=>by cases h),fun x=>rfl⟩⟩
 ·rw[xW];simp only;rw[ay (by omega),ay (by omega),ay (by omega)]
 ·exact⟨none,none,none,0,0,0,[],⟨t1,hW,World.ownsRow_nil _ _ _ _,World.ownsRow_nil _ _ _ _,World.ownsRow_nil _ _ _ _,(fun g hg=>by cases hg),(fun g hg=>by cases hg),(fun g hg=>by cases hg)⟩,rfl,(fun i hi=>by cases hi)⟩
 ·exact⟨none,0,⟨t2,(fun g hg=>by cases hg),hr,World.ownsRow_nil _ _ _ _,by simp,(fun o ho=>by cases ho)⟩⟩
 ·exact hi.keep (fun k dy hF=>hk k dy) (fun k dy hF=>by
   rcases hF with h | h
   ·exact h.elim
   ·exact t3 k h.1 h.2)
 ·exact⟨rfl,(fun i h1=>by cases h1),(fun o ho=>by cases ho)⟩
 ·intro i hi;cases hi
 ·exact⟨rfl,World.ownsRow_nil _ _ _ _,(fun g hg=>by cases hg),(fun i hi=>by cases hi),fun k hk=>hk.elim⟩
 ·rintro k (h | h | h) <;> exact h.elim
 ·exact fun k=>⟨fun h=>h.1,fun h=>h.1,fun h=>h.1⟩
def MS (B0:Nat)(w:World)(W s r:Nat):Prop:=∃R tg p ag au,cW R tg w B0 W s r p 0 ag au [] [] [] 0 0 0/\3<=ag.length/\aH ag 3=2
theorem aa1 (w:World):Calls prog 19 #[] w fun e w'=>∃W s r,e=.returned (.tuple #[.pointer (some ⟨W,0,none⟩),.bool true])/\MS w.heap.size w' W s r/\Below w.heap.size w w':=by
 go_enter func19,ntmps19;go_wp2_with fail;refine Calls.mono (E6 _) ?_;rintro _ w1 ⟨s,rfl,⟨p,hi⟩,hb⟩;obtain⟨R0,tg0,M0⟩:=aa0 hi hb;have HM0:Hid _:=M0;have hz:=hb.size;have hB0:=hb;clear hi M0;go_wp2_with fail;refine Calls.mono (HM0.out.aaZ (BK HM0.out.AG 0 0 0 yC ⟨#[]⟩ none 0 0 (by decide))) ?_;rintro _ w4 ⟨rfl,R1,uA,alr,apC,⟨e1,hq1⟩,M1,hb4⟩;have h1:=agU hq1;subst h1;have Qb:Hid _:=M1;have uD:w1.heap.size+2<=w4.heap.size:=by have:=hb4.size;simpa using this
 have Vb:Below w.heap.size w w4:=((hb.alloc hz _).alloc (by simp;omega) _).trans hb4;clear M1 hb4 hq1 HM0;go_wp2_with fail;have a5:∀B,Below w4.heap.size w4 (w4.alloc B):=fun B=>(Below.refl _ _).alloc (bA _) _;have f5:=Ix w4 [BF] 96 #[.string ⟨#[120]⟩,.int .i64 1,.int .i64 1] rfl (by decide) (by decide) 1 rfl;refine Calls.mono ((Qb.out.below (a5 (.cells #[.string ⟨#[120]⟩,.int .i64 1,.int .i64 1] 96))).aaZ (uZ (Qb.out.below (a5 (.cells #[.string ⟨#[120]⟩,.int .i64 1,.int .i64 1] 96))).AG 0 0 0 ⟨#[]⟩ ⟨#[]⟩ (some ⟨w4.heap.size,0,none⟩) 1 1 [BF] f5.list f5.many f5.names)) ?_;rintro _ w5 ⟨rfl,R2,WN,als,apD,⟨e2,hq2⟩,M2,j3⟩;obtain⟨d,d1,d2,d3,h2⟩:=agV hq2;subst h2;have HM2:Hid _:=M2;have I4:w4.heap.size<=w5.heap.size:=by have:=j3.size;simp at this;omega
 have iO:Below w.heap.size w w5:=(Vb.alloc (by omega) _).trans j3;clear M2 j3 hq2 Qb f5 a5;go_wp2_with fail;have a6:∀B,Below w5.heap.size w5 (w5.alloc B):=fun B=>(Below.refl _ _).alloc (bA _) _;have f6:=Ix w5 [Iu,Iw] 96 #[.string ⟨#[100]⟩,.int .i64 2,.int .i64 2,.string ⟨#[97]⟩,.int .i64 1,.int .i64 1] rfl (by decide) (by decide) 2 rfl;refine Calls.mono ((HM2.out.below (a6 (.cells #[.string ⟨#[100]⟩,.int .i64 2,.int .i64 2,.string ⟨#[97]⟩,.int .i64 1,.int .i64 1] 96))).aaZ (uZ (HM2.out.below (a6 (.cells #[.string ⟨#[100]⟩,.int .i64 2,.int .i64 2,.string ⟨#[97]⟩,.int .i64 1,.int .i64 1] 96))).AG 0 0 0 ⟨#[]⟩ ⟨#[]⟩ (some ⟨w5.heap.size,0,none⟩) 2 2 [Iu,Iw] f6.list f6.many f6.names)) ?_;rintro _ w6 ⟨rfl,R3,Ae,aeJ,aji,⟨e3,WV⟩,M3,rP⟩;obtain⟨k1,k2⟩:=agW d1 d2 d3 WV;have zF:Hid _:=M3;have uR:Below w.heap.size w w6:=(iO.alloc (by omega) _).trans rP;clear M3 rP WV HM2 f6 a6;go_wp2;go_ret2;exact⟨_,s,_,rfl,⟨R3,Ae,p,aeJ,aji,zF.out,k1,k2⟩,uR⟩
end Go.Proofs.YtlgidcmmgohagaaGreat
