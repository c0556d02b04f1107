/- What is proved here: 'carry' over the map of a hdt own YX. -/
import Derived.Test.YtlgidcmmgohagaaGreatFileM18
namespace Go.Proofs.YtlgidcmmgohagaaGreat
open Go.RowKit Go.Sort Go.Shelf Go.Proofs.Tryz
set_option linter.unusedVariables false
set_option maxRecDepth 100000
set_option maxHeartbeats 16000000
theorem Jx(b n:Nat)(f:eL->Option Value)(src dst:eL)(w:World)(BS:Good src)(ZP:Good dst)(hP:iN w b n f)(hn:n<1099511627776)
  (UZ:∀x,dst <+: x->f x=none)(hlen:∀x,src <+: x->f x≠none->dst.length+(x.length-src.length)<=5)(hf:∀x,f x≠none->Good x):
  gc 145 #[.map (some b),.agg (fy src),.agg (fy dst)] w fun e w'=>e=.returned (.tuple #[])/\iN w' b n (xa f src dst)/\w.grownBy w' (some b):=by
 obtain⟨i0,hi,ZQ,ZR,ZT⟩:=iq YV;have hbl:=hP.lt;have HPM:Hid _:=hP;obtain⟨M,⟨D,hD,hM⟩,h1,h2⟩:=hP;have Gj:=fun p (hp:Good p) W=>yC p src hp BS W;have heq:=fun p (hp:Good p) W=>yr hp BS W;have BU:=fun r (h1:src.length+r.length<=5) (h2:dst.length+r.length<=5) W=>Eu src dst r BS ZP h1 h2 W;obtain⟨s0,s1,s2,s3,s4,hS⟩:∃s0 s1 s2 s3 s4,fy src=(kq s0 s1 s2 s3 s4):=⟨_,_,_,_,_,rfl⟩;obtain⟨d0,d1,d2,d3,d4,XO⟩:∃s0 s1 s2 s3 s4,fy dst=(kq s0 s1 s2 s3 s4):=⟨_,_,_,_,_,rfl⟩;unfold ju at Gj heq BU;rw[hS]at Gj heq BU;rw[XO]at BU;rw[hS,XO];have HO:Hid _:=tB (w':=(w.alloc (.cells (kq s0 s1 s2 s3 s4) 147)).alloc (.cells (kq d0 d1 d2 d3 d4) 147)) hD ((((lh w.heap.size w).alloc (kx _) _).alloc (by simp) _).block b hbl);have HM:Hid _:=And.intro hM (And.intro h1 h2);have Va:Hid _:=Gj;have HEQ:Hid _:=heq;have Vb:Hid _:=BU;have Vc:Hid _:=UZ;have HLEN:Hid _:=hlen;have HF:Hid _:=hf;have HG:Hid _:=And.intro BS ZP;have HS:Hid _:=And.intro hS XO;clear hD hM h1 h2 Gj heq BU UZ hlen hf BS ZP hS XO;go_enter func145,ntmps145;go_wp2_with(at_range;go_loud(refine wpList_range_own _ rfl _ 162 rfl 147 55 uS underlying162 iu b n D rfl HO.out ?_;intro w0 hrg0 hg0 hs0))
 go_frame
 have hWs:((w.alloc (.cells (kq s0 s1 s2 s3 s4) 147)).alloc (.cells (kq d0 d1 d2 d3 d4) 147)).heap.size=w.heap.size+2:=by simp
 have hmD:=World.ownsMap.size_le HO.out;generalize hr:((w.alloc (.cells (kq s0 s1 s2 s3 s4) 147)).alloc (.cells (kq d0 d1 d2 d3 d4) 147)).heap.size=r at hrg0 hs0 ⊢;have hbr:b<r:=by omega
 have hr0:w.heap.size<r:=by omega
 have hr1:w.heap.size+1<r:=by omega
 have XP:Hid (((w.alloc (.cells (kq s0 s1 s2 s3 s4) 147)).alloc (.cells (kq d0 d1 d2 d3 d4) 147)).heap.size<=r/\w.heap.size<((w.alloc (.cells (kq s0 s1 s2 s3 s4) 147)).alloc (.cells (kq d0 d1 d2 d3 d4) 147)).heap.size/\w.heap.size+1<((w.alloc (.cells (kq s0 s1 s2 s3 s4) 147)).alloc (.cells (kq d0 d1 d2 d3 d4) 147)).heap.size):=⟨Ax hr,by omega,by omega⟩;have HST:Hid (rK b r n D f src ((w.alloc (.cells (kq s0 s1 s2 s3 s4) 147)).alloc (.cells (kq d0 d1 d2 d3 d4) 147)) w0 (Maps.has D) (Maps.size D) [] (.slice none 0 0)):=⟨hrg0,xD src HM.out.1 HM.out.2.1,jf _ _ _ _,hg0,by rw[hs0];exact kx _,by simpa using hmD⟩;clear hrg0 hg0 hs0 hr hWs hmD
 go_loopw [6] (fun mv wr=>∃left cnt L,Hid (rK b r n D f src ((w.alloc (.cells (kq s0 s1 s2 s3 s4) 147)).alloc (.cells (kq d0 d1 d2 d3 d4) 147)) wr left cnt L mv)) (fun _ wr=>wr.rangeLeft b r)
 case atStart=>exact⟨Maps.has D,Maps.size D,[],HST.out⟩
 case round=>
  obtain⟨left,cnt,L,uT⟩:=hrel;obtain⟨la,lc,rfl⟩:=Ev uT.out.row;go_wp2_with(at_next;refine OB ?_);show wpList _ _ _ _ _ _;refine wpList_next_ranges _ rfl (.tmp 11) rfl 147 uS iu (fun x:Value=>x) (fun x:Value=>x) (fun key kl _=>⟨key,rfl⟩) (fun v y _=>⟨v,rfl⟩) b r n D left cnt rfl uT.out.rg ?_ ?_
  ·intro hc0 hl0
   have Mu:Hid (∀x,x∈L↔(src <+: x/\f x≠none)):=fun x=>(uT.out.ga.2 x).trans ⟨fun h=>⟨h.2.1,h.2.2.1⟩,fun h=>⟨HF.out x h.2,h.1,h.2,hl0 _⟩⟩;have Vd:Hid L.Nodup:=uT.out.ga.1;clear hl0 hc0;have Ve:Hid (iN wr b n (carried f src dst [])):=iN.congr ⟨M,⟨D,uT.out.rg.owns,HM.out.1⟩,HM.out.2.1,HM.out.2.2⟩ (fun x _=>(zx f src dst x).symm);have hLn:L.length<=n:=by have:=uT.out.many;omega
   have yD:Hid (wr.ownsRow (r+1) 147 5 (.slice la L.length lc) L.length (kg L)):=uT.out.row;have HGR:Hid _:=World.grownBy.but uT.out.gr (some b);have ZU:=uT.out.sz;go_wp2
   go_loopw [30] (fun i w2=>∃k:Nat,k<=L.length/\i=.int .i64 (k:Int)/\Hid (iN w2 b n (carried f src dst (L.take k)))/\Hid (((w.alloc (.cells (kq s0 s1 s2 s3 s4) 147)).alloc (.cells (kq d0 d1 d2 d3 d4) 147)).grownBy w2 (some b))/\Hid (w2.ownsRow (r+1) 147 5 (.slice la L.length lc) L.length (kg L))/\r+1<=w2.heap.size) (fun i _=>L.length-(intOf i).toNat)
   case atStart=>exact⟨0,tk _,rfl,Ve.out,HGR.out,yD.out,ZU⟩
   case round=>
    obtain⟨k,hk,rfl,XQ,XR,ZV,ZW⟩:=hrel;by_cases XS:k<L.length
    ·obtain⟨g,c',hsl⟩:=fj ZV.out (by omega)
     cases hsl;have Mv:=kj XS;obtain⟨hs,nK⟩:=(Mu.out L[k]).1 Mv;have hp:=HF.out _ nK;have Mw:L[k]∉L.take k:=by
      intro mG;obtain⟨j,hj,hje⟩:=pg mG;rw[gT]at hj;rw[List.getElem_take]at hje;exact SJ.1 Vd.out j k (by omega) XS (by omega) hje
     have ZX:L.take (k+1)=L.take k++[L[k]]:=vZ XS;have hLk:∀x∈L.take k,src <+: x/\f x≠none:=fun x hx=>(Mu.out x).1 (zP hx);obtain⟨p0,p1,p2,p3,p4,Gk⟩:∃s0 s1 s2 s3 s4,fy L[k]=(kq s0 s1 s2 s3 s4):=⟨_,_,_,_,_,rfl⟩;obtain⟨hgl,e0,e1,e2,e3,e4⟩:=doc ZV.out XS Gk;generalize L[k]=p at Mv hs nK hp Mw ZX Gk;cases hv:f p with
     |none=>exact absurd hv nK
     |some v=>
      have PT:=xB hs;have ZY:=HLEN.out p hs nK;have hp5:=hp.len;have hd5:src.length+(p.drop src.length).length<=5:=by rw[lz];have:=hs.length_le;omega
      have XT:=Vb.out (p.drop src.length) hd5 (by rw[lz];exact ZY);rw[PT,Gk]at XT;have hqG:Good (kL src dst p):=⟨HG.out.2.val.append (fun x hx=>hp.val x (KN hx)),by unfold kL;rw[mb,lz];exact ZY⟩;have hturn:=fun W (hP:iN W b n (carried f src dst (L.take k)))=>BP hP (by unfold maxLen;omega) Vc.out hLk hp hs hv Mw hqG underlying162 yz 0
      change ∀W,gc 197 _ W fun e w'=>e=.returned (.agg (fy (kL src dst p)))/\_ at XT
      obtain⟨q0,q1,q2,q3,q4,ZZ⟩:∃s0 s1 s2 s3 s4,fy (kL src dst p)=(kq s0 s1 s2 s3 s4):=⟨_,_,_,_,_,rfl⟩;rw[ZZ]at XT;simp only[Gk,ZZ]at hturn;have Vf:Hid _:=hturn;have hb0:ik wr (wr.alloc (.cells (kq p0 p1 p2 p3 p4) 147)).drew:=gS ((lh _ _).alloc (kx _) _);have hl0:=(hturn _ (XQ.out.keep (hb0.block b (by omega)))).1;have kS:=fun o=>(xj XR.out (c:=w.heap.size) XP.out.2.1 (by omega) o);have kD:=fun o=>(xj XR.out (c:=w.heap.size+1) XP.out.2.2 (by omega) o);have hz0:w.heap.size<wr.heap.size:=by omega
      have hz1:w.heap.size+1<wr.heap.size:=(by omega);have hbz:b<wr.heap.size:=by omega
      have hnb:wr.heap.size≠b:=(by omega);have abs:w.heap.size≠b:=by omega
      have aca:w.heap.size+1≠b:=(by omega);have HTK:Hid _:=ZX;have HB0:Hid _:=hb0;clear hturn hb0 Mv hs nK hp Mw ZX Gk hv PT ZY hp5 hd5 hqG ZZ hLk;clear HO HM Va HEQ Vb HLEN HF HG HS HPM Vd Ve yD HGR HST hi ZQ ZR ZT;go_wp2;clear e0 e1 e2 e3 e4;have hSD:zz (wr.alloc (.cells (kq p0 p1 p2 p3 p4) 147)).drew wr.heap.size w.heap.size (w.heap.size+1) p0 p1 p2 p3 p4 s0 s1 s2 s3 s4 d0 d1 d2 d3 d4:=by
       unfold zz;have q0:=Nat.ne_of_lt hz0;have q1:=Nat.ne_of_lt hz1;simp[WT,hz0,hz1,kS,kD]
      go_region_held3 (fun w'=>w'.cell? (eI wr.heap.size 0)=some (.string p0)/\w'.cell? (eI wr.heap.size 1)=some (.string p1)/\w'.cell? (eI wr.heap.size 2)=some (.string p2)/\w'.cell? (eI wr.heap.size 3)=some (.string p3)/\w'.cell? (eI wr.heap.size 4)=some (.string p4)/\w'.cell? (eI w.heap.size 0)=some (.string s0)/\w'.cell? (eI w.heap.size 1)=some (.string s1)/\w'.cell? (eI w.heap.size 2)=some (.string s2)/\w'.cell? (eI w.heap.size 3)=some (.string s3)/\w'.cell? (eI w.heap.size 4)=some (.string s4)/\w'.cell? (eI (w.heap.size+1) 0)=some (.string d0)/\w'.cell? (eI (w.heap.size+1) 1)=some (.string d1)/\w'.cell? (eI (w.heap.size+1) 2)=some (.string d2)/\w'.cell? (eI (w.heap.size+1) 3)=some (.string d3)/\w'.cell? (eI (w.heap.size+1) 4)=some (.string d4)) (first|exact hSD|exact hS3|exact hS4) (first|(go_at_call 197;refine(XT _).mono ?_;rintro e w3 ⟨rfl,hb3⟩;obtain⟨m1,m2,m3,m4⟩:=BQ hb3 hz0 hz1;have hS3:=hSD.keep m1 m2 m3;have Mx:=fx HB0.out hb3;obtain⟨hl3,w4,w5,eoi,epv,hP5,hg4,hg5,hs4,hs5⟩:=Vf.out w3 (XQ.out.keep (Mx.block b hbz));have hS4:=hS3.keep (xj hg4 m4 hnb) (xj hg4 (CP hz0 m4) abs) (xj hg4 (CP hz1 m4) aca);have HE:Hid _:=BR hbr XR.out ZV.out ZW Mx hg4 hg5;have HP5:Hid _:=hP5;have hz4:wr.heap.size<w4.heap.size:=lO m4 (Ax hs4.symm);clear hg4 hg5 hs4 hs5 hP5 Mx m1 m2 m3 hb3))
      all_goals
       go_wp2;go_roundw
       case rel=>exact⟨k+1,by omega,by go_num,by rw[HTK.out];exact HP5.out,HE.out.1,HE.out.2.1,HE.out.2.2⟩
       case measure=>simp[intOf];omega
    ·have hke:k=L.length:=by omega
     subst hke;rw[xR]at XQ;go_wp2;go_end0;refine⟨rfl,XQ.out.congr (fun x _=>zy Vc.out Mu.out x),?_⟩;exact(World.grownBy.but (jw (((lh w.heap.size w).alloc (kx _) _).alloc (by simp) _)) (some b)).andThen XR.out (fun j hj=>.inr (by rw[hj]))
  ·intro x c kl y w1 cnt1 hkey hlk hv hat hrg1 hlt hg1 hs1 hen
   obtain⟨p,hp,rfl,rfl,nK⟩:=came HM.out.1 HM.out.2.1 HM.out.2.2 hkey hat;obtain⟨p0,p1,p2,p3,p4,Gk⟩:∃s0 s1 s2 s3 s4,fy p=(kq s0 s1 s2 s3 s4):=⟨_,_,_,_,_,rfl⟩;have Rq:=Va.out p hp;have XU:∀W,(Op.equalIn 10000 147 (.agg (fy p)) (.agg (kq s0 s1 s2 s3 s4))).run prog W=.ok (decide (p=src)) W:=HEQ.out p hp;obtain⟨hno,Vg⟩:=uT.out.next hbr XP.out.1 hrg1 hlt hg1 hp hlk nK;have kS:=fun o=>(xj hg1 (c:=w.heap.size) (lO hr0 (Nat.le_of_succ_le uT.out.sz)) (by omega) o).trans (uT.out.box XP.out.2.1 o);have hz1:w.heap.size<w1.heap.size:=by rw[hs1];exact lO hr0 (Nat.le_of_succ_le uT.out.sz)
   have HLT:Hid (cnt1<cnt):=hlt;have hdn:Hid _:=hrg1;rw[Gk]at Rq XU hen ⊢;have HPp:Hid _:=Gk;have HNO:Hid _:=hno;have Vh:Hid _:=Vg;clear hno Vg hkey hlk hv hat hrg1 hlt hg1 hs1 nK Gk;by_cases hs:src <+: p
   ·by_cases he:p=src
    ·rw[mz he]at XU
     clear Rq;obtain⟨y1,y2,y3,y4⟩:=Vh.out hs;have hW:ik w1 (w1.alloc (.cells (kq p0 p1 p2 p3 p4) 147)):=(lh _ _).alloc (kx _) _;have yD:Hid _:=y1.alloc (.cells (kq p0 p1 p2 p3 p4) 147);have HSZ:Hid _:=wl y2 hW.size;have My:Hid _:=y4;have HW:Hid _:=hW;have h63:L.length+1<=maxLen:=by unfold maxLen;omega
     have hby:(L.length+1)*80<=140737488355328:=(by omega);clear y1 y2 y4 hW;go_wp2_with(at_builtin;go_loud(refine KQ _ rfl (.tmp 24) (.tmp 26) 289 rfl (r+1) 147 i0 _ 5 80 underlying289 hi ZQ ZR ZT rfl (by decide) (.slice la L.length lc) L.length (kg L) rfl (pE yD.out _) (eI (w1.heap.size+1) 0) 1 1 [.string p0,.string p1,.string p2,.string p3,.string p4] rfl rfl (YW w1 _ _ _ _ _ _ 147) (xF _ _ _ _ _) h63 hby (wl HSZ.out (xE _ _)) ?_;intro v' w3 hown' hgrow _ hloc;obtain⟨g',cap',rfl⟩:=fj hown' (Nat.succ_pos _);have Mz:Hid _:=hown';have BV:Hid _:=hgrow;clear hown' hgrow hloc));have tK:Hid (rK b r n D f src _ w3 _ cnt1 (L++[p]) _):=My.out _ w3 _ (HW.out.alloc HW.out.size (.cells (kq p0 p1 p2 p3 p4) 147)) (by rw[HPp.out];exact Mz.out) BV.out;go_roundw
     case rel=>exact⟨_,_,_,tK.out⟩
     case measure=>rw[tK.out.rg.left_eq,uT.out.rg.left_eq];exact HLT.out
    ·rw[rk he]at XU
     rw[mz ⟨hs,he⟩]at Rq;obtain⟨y1,y2,y3,y4⟩:=Vh.out hs;have My:Hid _:=y4;have h63:L.length+1<=maxLen:=by unfold maxLen;omega
     have hby:(L.length+1)*80<=140737488355328:=(by omega);clear y4;have hz2:w.heap.size<(w1.alloc (.cells (kq p0 p1 p2 p3 p4) 147)).heap.size:=by simp;omega
     have hz3:w1.heap.size<(w1.alloc (.cells (kq p0 p1 p2 p3 p4) 147)).heap.size:=(by simp);go_wp2_with(first
      |(go_at_call 140;refine io (Rq _) ?_;rintro e w2 ⟨rfl,hb2⟩;have k2:=fun o=>(ii hb2).1 w1.heap.size o hz3;have hz4:=lO hz3 hb2.size;have hW:=fx ((lh w1.heap.size w1).alloc (kx _) _) hb2;have yD:Hid (w2.ownsRow (r+1) 147 5 (.slice la L.length lc) L.length (kg L)):=eQ y1 (fun g hg=>hW.block g (eK y1 hg));have HSZ:Hid (r+1<=w2.heap.size):=wl y2 hW.size;have HW:Hid _:=hW;clear hW)
      |(at_builtin;go_loud(refine KQ _ rfl (.tmp 24) (.tmp 26) 289 rfl (r+1) 147 i0 _ 5 80 underlying289 hi ZQ ZR ZT rfl (by decide) (.slice la L.length lc) L.length (kg L) rfl (pE yD.out _) (eI w2.heap.size 0) 1 1 [.string p0,.string p1,.string p2,.string p3,.string p4] rfl rfl (ZO w2 _ _ _ _ _ 147) (xF _ _ _ _ _) h63 hby (wl HSZ.out (xE _ _)) ?_;intro v' w3 hown' hgrow _ hloc;obtain⟨g',cap',rfl⟩:=fj hown' (Nat.succ_pos _);have Mz:Hid _:=hown';have BV:Hid _:=hgrow;clear hown' hgrow hloc)))
     have tK:Hid (rK b r n D f src _ w3 _ cnt1 (L++[p]) _):=My.out _ w3 _ (HW.out.alloc HW.out.size (.cells (kq p0 p1 p2 p3 p4) 147)) (by rw[HPp.out];exact Mz.out) BV.out;go_roundw
     case rel=>exact⟨_,_,_,tK.out⟩
     case measure=>rw[tK.out.rg.left_eq,uT.out.rg.left_eq];exact HLT.out
   ·have he:p≠src:=fun e=>hs (e▸oU _)
    rw[rk he]at XU;rw[rk (fun h=>hs h.1)]at Rq;go_wp2_with(go_at_call 140;refine io (Rq _) ?_;rintro e w2 ⟨rfl,hb2⟩);have tK:Hid _:=(HNO.out hs).below (fx ((lh _ _).alloc (kx _) _) hb2);go_roundw
    case rel=>exact⟨_,_,L,tK.out⟩
    case measure=>rw[(rK.rg tK.out).left_eq,uT.out.rg.left_eq];exact HLT.out
theorem gq.fI{tg:eV}{w:World}{s p:Nat}{ey:List Ob}{got:List Int}{brk:Bool}{lim:Nat}(h:gq tg w s p ey got brk lim):∀o∈ey,0<=o.high/\o.high<=5:=by
 obtain⟨_,ft,_,⟨a,cap,bf,bd,Df,Dd,i⟩,_⟩:=h;intro o ho;rcases i.zV o ho with⟨_,h1,_⟩|⟨_,_,_,_,h1,h2,_⟩
 ·rw[h1];exact⟨sH _,by decide⟩
 ·exact⟨h1,h2⟩
theorem Rs{tg:eV}{w:World}{s p:Nat}{ey:List Ob}{got:List Int}{brk:Bool}{lim:Nat}(h:gq tg w s p ey got brk lim){id:Int}(hk:eM ey id≠0):
  gc 173 #[hh p,eJ id] w (pB (eJ (fB ey id)) w):=by
 obtain⟨h1,h2⟩:=xw hk;obtain⟨j,rfl⟩:∃j:Nat,id=(j:Int)+1:=⟨(id-1).toNat,by omega⟩;have hj:j<ey.length:=by omega
 obtain⟨_,ft,_,⟨a,cap,bf,bd,Df,Dd,i⟩,_⟩:=h;rw[xZ hj];exact Dz p a ey.length cap bf bd ey j hj w i.iI
theorem BW{ey:List Ob}(h:∀o∈ey,0<=o.high/\o.high<=5)(id:Int):0<=fB ey id/\fB ey id<=5:=by
 unfold fB;cases ho:ey[(id-1).toNat]? with
 |none=>exact⟨sH _,by decide⟩
 |some o=>exact h o (SK ho)
theorem xG{b:Type}(f:b->Int)(l:List b)(a:Int):a<=l.foldl (fun h x=>max h (1+f x)) a:=((Fr f l a _).1 (sH _)).1
theorem uD{ey:List Ob}(h:∀o∈ey,0<=o.high/\o.high<=5):∀(n:Nat) (c:LT),0<=ig ey n c/\ig ey n c<=5+n
 |n,.file id=>by
  have:=BW h id
  have e:ig ey n (.file id)=fB ey id:=by cases n<;>rfl
  rw[e];omega
 |n,.held f=>by
  have e:ig ey n (.held f)=0:=by cases n<;>rfl
  rw[e];omega
 |n,.dir id=>by
  have:=BW h id
  have e:ig ey n (.dir id)=fB ey id:=by cases n<;>rfl
  rw[e];omega
 |0,.own es=>by
  have e:ig ey 0 (.own es)=0:=rfl
  rw[e];omega
 |n+1,.own es=>by
  rw[ig]
  refine⟨xG _ es 0,(Fr (fun x=>ig ey n x.2) es 0 _).2 ⟨by omega,fun x _=>?_⟩⟩
  have:=uD h n x.2
  push_cast
  omega
theorem acx{ey:List Ob}{t:LT}{q:eL}{es:Kids}(a:t.at ey q=some (.own es))(hr:eP es){x:eD×LT}(hx:x∈es):t.at ey (q++[x.1])=some x.2:=by
 rw[kB,a,qr,kh];show(ip es x.1).bind _=_;cases hp:ip es x.1 with
 |none=>
  unfold ip at hp;rw[SU,Td]at hp;exact absurd (hp x hx) (by simp)
 |some c=>
  rw[kW hr hp hx rfl,qr,mr]
def zX (ey:List Ob)(n:Nat)(es:Kids):Int:=es.foldl (fun h x=>max h (1+ig ey n x.2)) 0
theorem Rt(ey:List Ob)(n:Nat)(es:Kids)(x:eD×LT):zX ey n (es++[x])=max (zX ey n es) (1+ig ey n x.2):=by
 simp only[zX,SV,Aq,List.foldl_nil]
theorem MA{ey:List Ob}(h:∀o∈ey,0<=o.high/\o.high<=5)(n:Nat)(es:Kids):0<=zX ey n es/\zX ey n es<=6+n:=by
 refine⟨xG _ es 0,(Fr (fun x=>ig ey n x.2) es 0 _).2 ⟨by omega,fun x _=>?_⟩⟩
 have:=uD h n x.2
 omega
theorem Dl(t p:Nat)(a b c d f nm:eD)(k id g:Int)(w:World)(ht:t<w.heap.size)(c0:w.cell? (eI t 0)=some (hh p))(hid:id≠0)
  (h:∀W,ik w W->gc 173 #[hh p,eJ id] W (pB (eJ g) W)):
  gc 143 #[hh t,.agg (kq a b c d f),.agg #[.string nm,eJ k,eJ id]] w (pB (eJ g) w):=by
 have hW:=gS (((lh w.heap.size w).alloc (kx _) (.cells (kq a b c d f) 147)).alloc (by simp) (.cells #[.string nm,eJ k,eJ id] 96));have hg:=h _ hW;have i:Hid _:=hW;have l:(id==0)=false:=by simpa using hid
 clear h hW;go_enter func143,ntmps143;go_wp2
 go_region_with(go_at_call 173;refine hg.mono ?_;rintro e m ⟨rfl,j⟩)
 all_goals
  go_wp2;go_ret;exact⟨rfl,fx i.out j⟩
theorem tL(t m:Nat)(a b c d e nm:eD)(k:Int)(w:World)(ht:t<w.heap.size)(c8:w.cell? (eI t 8)=some (.map (some m)))
  (hlk:∀W,ik w W->(Instr.lookup 162 (.map (some m)) (.agg (kq a b c d e)) false).run prog W=.ok (.slice none 0 0) W):
  gc 143 #[hh t,.agg (kq a b c d e),.agg #[.string nm,eJ k,eJ 0]] w (pB (eJ 0) w):=by
 have hW:=gS (((lh w.heap.size w).alloc (kx _) (.cells (kq a b c d e) 147)).alloc (by simp) (.cells #[.string nm,eJ k,eJ 0] 96));have hl:=hlk _ hW;have f:Hid _:=hW;clear hlk hW;go_enter func143,ntmps143;go_wp2
 go_region
 all_goals
  go_wp2
  go_loopw [7,27] (fun t i wr=>i=.int .i64 0/\t=.int .i64 0/\ik w wr) (fun _ _ _=>0)
  case atStart=>exact⟨rfl,rfl,f.out⟩
  case round=>
   obtain⟨rfl,rfl,g⟩:=hrel;go_wp2;go_ret;exact⟨rfl,g⟩
theorem MB{wr b:World}{X:Obj}(c:Below (wr.alloc X).drew.heap.size (wr.alloc X).drew b):
  (∀o,b.cell? (eI wr.heap.size o)=(wr.alloc X).drew.cell? (eI wr.heap.size o))/\wr.heap.size<b.heap.size/\∀n a,n<=wr.heap.size->Below n a (wr.alloc X).drew->Below n a b:=by
 have h1:wr.heap.size<(wr.alloc X).drew.heap.size:=by simp
 exact⟨fun o=>(ii c).1 wr.heap.size o h1,lO h1 c.size,fun n a hn d=>d.trans (c.mono (by omega))⟩
theorem MC(t m r cap n:Nat)(ey:List Ob)(b d f g h nm:eD)(q:eL)(k:Int)(es:Kids)(w:World)(ht:t<w.heap.size)(u:r<w.heap.size)(c8:w.cell? (eI t 8)=some (.map (some m)))
  (hlk:∀W,ik w W->(Instr.lookup 162 (.map (some m)) (.agg (kq b d f g h)) false).run prog W=.ok (.slice (some (eI r 0)) es.length cap) W)
  (ah:es.length<=16)(ai:n<=5)(hc:∀j G,(flat (es.map mn))[j]?=some G->w.cell? (eI r j)=some G)(A:∀o∈ey,0<=o.high/\o.high<=5)
  (H:∀(x:eD) W,x∈es.map (·.1)->gc 196 #[.agg (kq b d f g h),.string x] W (pB (.agg (fy (q++[x]))) W))
  (Dj:∀x∈es,∀W,ik w W->gc 143 #[hh t,.agg (fy (q++[x.1])),.agg #[.string x.1,eJ x.2.kind,eJ x.2.id]] W (pB (eJ (ig ey n x.2)) W)):
  gc 143 #[hh t,.agg (kq b d f g h),.agg #[.string nm,eJ k,eJ 0]] w (pB (eJ (zX ey n es)) w):=by
 have hW:=gS (((lh w.heap.size w).alloc (kx _) (.cells (kq b d f g h) 147)).alloc (by simp) (.cells #[.string nm,eJ k,eJ 0] 96));have hl:=hlk _ hW;have T:Hid _:=hW;have U:Hid _:=hc;have V:Hid _:=H;have X:Hid _:=Dj;have Y:Hid _:=fun es':Kids=>MA A n es';have Z:Hid _:=fun c:LT=>uD A n c;clear hlk hW hc H Dj A;go_enter func143,ntmps143;go_wp2
 go_region
 all_goals
  go_wp2
  go_loopw [7,27] (fun t i wr=>∃a:Nat,a<=es.length/\i=.int .i64 a/\t=.int .i64 (zX ey n (es.take a))/\ik w wr/\Below (w.heap.size+2) ((w.alloc (.cells (kq b d f g h) 147)).alloc (.cells #[.string nm,eJ k,eJ 0] 96)).drew wr) (fun _ i _=>es.length-(intOf i).toNat)
  case atStart=>exact⟨0,tk _,rfl,rfl,T.out,lh _ _⟩
  case round=>
   obtain⟨a,hk,rfl,rfl,s,B⟩:=hrel;by_cases C:a<es.length
   ·have aa:a<(es.map mn).length:=by rw[nD];exact C
    obtain⟨d0,d1,d2⟩:=vM U.out aa;rw[Fa]at d0 d1 d2;have D:=(s.cell (p:=(eI r (a*3))) u).trans d0;have v:=(s.cell (p:=(eI r (a*3+1))) u).trans d1;have e2:=(s.cell (p:=(eI r (a*3+2))) u).trans d2;have aj:r<wr.heap.size:=lO u s.size;have ak:=fun o=>B.cell (p:=(eI w.heap.size o)) (by simp);have I:w.heap.size+2<=wr.heap.size:=by have:=B.size;simpa using this
    have al:w.heap.size<wr.heap.size:=(by omega);have E:=kj C;have y:=fun W=>V.out (es[a]).1 W (CM E);have l:=X.out es[a] E;have J:=Z.out (es[a]).2;have K:=Y.out (es.take a);have z:zX ey n (es.take (a+1))=max (zX ey n (es.take a)) (1+ig ey n (es[a]).2):=by
     rw[vZ C,Rt]
    generalize ig ey n (es[a]).2=L at l J z;generalize zX ey n (es.take a)=am at K z ⊢;have an:IntKind.i64.wrap (1+L)=1+L:=by rw[xS]<;>omega
    obtain⟨ao,ap⟩:=K;obtain⟨aq,ar⟩:=J;have ab:Hid _:=z;simp only[mn]at D v e2;clear d0 d1 d2 z E;generalize es[a]=x at D v e2 y l;obtain⟨F,M⟩:=x;simp only at D v e2 y l;generalize M.kind=N at v l;generalize M.id=O at e2 l;obtain⟨au,av,aw,ax,ay,P⟩:∃b d f g h,fy (q++[F])=(kq b d f g h):=⟨_,_,_,_,_,rfl⟩;rw[P]at y l;have ac:Hid _:=l;clear l P;have ad:ik w (wr.alloc (.cells #[.string F,eJ N,eJ O] 96)).drew:=gS (s.alloc s.size _);have ae:Below (w.heap.size+2) ((w.alloc (.cells (kq b d f g h) 147)).alloc (.cells #[.string nm,eJ k,eJ 0] 96)).drew (wr.alloc (.cells #[.string F,eJ N,eJ O] 96)).drew:=gS (B.alloc I _);go_wp2
    go_region_with(first
     |(go_at_call 196;refine(y _).mono ?_;rintro e az ⟨rfl,Q⟩;have R:=fx ad Q;obtain⟨aA,aB,oV⟩:=MB Q;have af:=oV _ _ I ae;clear oV)
     |(go_at_call 143;refine(ac.out _ R).mono ?_;rintro e aC ⟨rfl,S⟩))
    all_goals
     go_wp2;go_roundw
     case rel=>
      refine⟨a+1,by omega,by go_num,by rw[ab.out],fx R S,af.trans (S.mono (by omega))⟩
     case measure=>simp[intOf];omega
   ·have ag:a=es.length:=by omega
    subst ag;rw[xR];go_wp2;go_ret;exact⟨rfl,s⟩
theorem vS{ey:List Ob}:∀(n m:Nat) (c:LT),n<=m->eU ey n c->ig ey m c=ig ey n c
 |n,m,.file id,_,_=>by cases n<;>cases m<;>rfl
 |n,m,.held f,_,_=>by cases n<;>cases m<;>rfl
 |n,m,.dir id,_,_=>by cases n<;>cases m<;>rfl
 |0,m,.own es,_,h=>by
  rw[eU]at h
  subst h
  cases m<;>rfl
 |n+1,0,.own es,h,_=>by omega
 |n+1,m+1,.own es,h,b=>by
  rw[eU]at b
  rw[ig,ig]
  have key:∀(l:Kids) (a:Int),(∀x∈l,x∈es)->l.foldl (fun h x=>max h (1+ig ey m x.2)) a=l.foldl (fun h x=>max h (1+ig ey n x.2)) a:=by
   intro l
   induction l with
   |nil=>intro a _;rfl
   |cons y r d=>
    intro a hl;rw[Aq,Aq,vS n m y.2 (by omega) (b.2.2 y (hl y (by simp))).2];exact d _ (fun x hx=>hl x (by simp[hx]))
  exact key es 0 (fun x hx=>hx)
section
variable {s i p:Nat}{B:WB}{ey:List Ob}
theorem MD{tg:eV}{w:World}{g:WG}{lim:Nat}{t:LT}(h:eT tg w s i p B ey g lim)(hF:Flat ey t g.ft):∀(n:Nat) (c:LT) (q:eL),n<=5->eU ey n c->t.at ey q=some c->Good q->q.length+n<=5->∀(nm:eD) (W:World),ik w W->
  gc 143 #[hh B.bt,.agg (fy q),.agg #[.string nm,eJ c.kind,eJ c.id]] W (pB (eJ (ig ey n c)) W):=by
 have m:∀(W:World),ik w W->B.bt<W.heap.size/\W.cell? (eI B.bt 0)=some (hh p)/\W.cell? (eI B.bt 8)=some (.map (some B.oD)):=by
  intro W a;have ht:=(h.below a).wp.tree.ht;exact⟨(nX.1 ht).1,by simp[World.cell?,ht,ptr],by simp[World.cell?,ht]⟩
 have o:∀(c:LT) (q:eL) (nm:eD) (W:World),ik w W->eM ey c.id≠0->
   gc 143 #[hh B.bt,.agg (fy q),.agg #[.string nm,eJ c.kind,eJ c.id]] W (pB (eJ (fB ey c.id)) W):=by
  intro c q nm W a hk;obtain⟨h1,h2,h3⟩:=m W a;have hid:c.id≠0:=fun e=>by have:=(xw hk).1;omega
  exact Dl B.bt p _ _ _ _ _ nm c.kind c.id _ W h1 h2 hid (fun b d=>Rs ((h.below a).below d).st hk)
 have C:=h.st.fI;obtain⟨vD,hD⟩:=h.wp.nI;have hlk:∀(q:eL),Good q->∀(W:World),ik w W->(Instr.lookup 162 (.map (some B.oD)) (.agg (fy q)) false).run prog W=.ok (((g.ft.od q).map fun _=>vD q).getD (.slice none 0 0)) W:=fun q hq W a=>hD.look hq a;have hS:=h.st.sound;have v:∀(n:Nat) (es:Kids) (q:eL) (nm:eD) (W:World),ik w W->n<=5->t.at ey q=some (.own es)->Good q->eP es->es.length<=16->(∀x∈es,q.length<=4)->
   (∀x∈es,∀b,ik w b->gc 143 #[hh B.bt,.agg (fy (q++[x.1])),.agg #[.string x.1,eJ x.2.kind,eJ x.2.id]] b (pB (eJ (ig ey n x.2)) b))->
   gc 143 #[hh B.bt,.agg (fy q),.agg #[.string nm,eJ 2,eJ 0]] W (pB (eJ (zX ey n es)) W):=by
  intro n es q nm W a hn k hq hr iE D Dj;obtain⟨h1,h2,h3⟩:=m W a;have ho:g.ft.od q=some (es.map mn):=by rw[hF.od,k];rfl
  have r:=hD.row q _ ho;have hl:=fun b (d:ik W b)=>hlk q hq b (fx a d);rw[ho,mq,qj]at hl;have E:∀l c,vD q=.slice (some (eI l 0)) es.length c->gc 143 #[hh B.bt,.agg (fy q),.agg #[.string nm,eJ 2,eJ 0]] W (pB (eJ (zX ey n es)) W):=by
   intro l c hv;rw[hv]at hl r;have z:l<w.heap.size:=eK r.1 rfl;have A:=r.1;rw[nD]at A;refine MC B.bt B.oD l c n ey _ _ _ _ _ nm q 2 es W h1 (lO z a.size) h3 hl iE hn (fun j F hu=>?_) C (fun x b hx=>?_) (fun x hx b d=>Dj x hx b (fx a d))
   ·have:=jn A j F hu
    rw[iP]at this;exact(a.cell (p:=(eI l j)) z).trans this
   ·obtain⟨y,u,rfl⟩:=ij.1 hx
    exact Rn q hq (D y u) y.1 b
  rcases r.1.2 with⟨hv,hx⟩|⟨J,K,L,hv,_⟩
  ·have G:es=[]:=by
    have h0:(es.map mn).length=0:=by first|exact hx|(have:=xr List.length hx;rw[km]at this;simpa using this)
    simpa using h0
   subst G;rw[hv]at hl;exact tL B.bt B.oD _ _ _ _ _ nm 2 W h1 h3 hl
  ·rw[nD]at hv
   exact E _ _ hv
 intro n
 induction n with
 |zero=>
  intro c q hn hc k hq H nm W a;obtain⟨h1,h2,h3⟩:=m W a;cases c with
  |file id=>exact o (.file id) q nm W a (by rw[eU]at hc;show eM ey id≠0;rw[hc];decide)
  |dir id=>exact o (.dir id) q nm W a (by rw[eU]at hc;show eM ey id≠0;rw[hc.1];decide)
  |held f=>exact tL B.bt B.oD _ _ _ _ _ nm 1 W h1 h3 (fun b d=>by
    have:=hlk q hq b (fx a d)
    rwa [hF.od,k]at this)
  |own es=>
   rw[eU]at hc;subst hc;exact v 0 [] q nm W a (by omega) k hq List.Pairwise.nil (by simp) (by simp) (by simp)
 |succ n I=>
  intro c q hn hc k hq H nm W a;obtain⟨h1,h2,h3⟩:=m W a;cases c with
  |file id=>exact o (.file id) q nm W a (by rw[eU]at hc;show eM ey id≠0;rw[hc];decide)
  |dir id=>exact o (.dir id) q nm W a (by rw[eU]at hc;show eM ey id≠0;rw[hc.1];decide)
  |held f=>exact tL B.bt B.oD _ _ _ _ _ nm 1 W h1 h3 (fun b d=>by
    have:=hlk q hq b (fx a d)
    rwa [hF.od,k]at this)
  |own es=>
   rw[eU]at hc;refine v n es q nm W a (by omega) k hq hc.1 hc.2.1 (fun _ _=>by omega) (fun x hx b d=>?_);have hg:Good (q++[x.1]):=⟨hq.val.append (fun y u=>by simp at u;rw[u];exact(hc.2.2 x hx).1),by simp;omega⟩;exact I x.2 (q++[x.1]) (by omega) (hc.2.2 x hx).2 (acx k hc.1 hx) hg (by simp;omega) x.1 b d
end
theorem ME{a c:Type}(f:eL->Option a)(m:a->c)(src b x:eL):xa (fun p=>(f p).map m) src b x=(xa f src b x).map m:=by
 unfold xa;split
 ·rfl
 ·split<;>rfl
theorem tM{b:Type}{f:eL->Option b}{src a x:eL}{y:b}(h:xa f src a x=some y):(a <+: x/\f (src++x.drop a.length)=some y)\/(¬a <+: x/\¬src <+: x/\f x=some y):=by
 unfold xa at h;by_cases hd:a <+: x
 ·rw[ie hd]at h;exact .inl ⟨hd,h⟩
 ·rw[fY hd]at h
  by_cases hs:src <+: x
  ·rw[ie hs]at h;cases h
  ·rw[fY hs]at h;exact .inr ⟨hd,hs,h⟩
theorem BX{b:Type}{f:eL->Option b}{src a x:eL}{y:b}(c:Good a)(hg:∀p z,f p=some z->Good p)(d:∀p z,src <+: p->f p=some z->a.length+(p.length-src.length)<=5)(h:xa f src a x=some y):Good x:=by
 rcases tM h with⟨⟨r,rfl⟩,h1⟩|⟨_,_,h1⟩
 ·rw[pZ]at h1
  have e:=hg _ _ h1;have g:=d _ _ (nG _ _) h1;refine⟨c.val.append (fun z i=>e.val z (WR _ i)),?_⟩;rw[mb]at g ⊢;omega
 ·exact hg _ _ h1
theorem Ew{P:Nat×Nat->Prop}{tg:eV}{w w':World}{b:Nat}(hg:w.grownBy w' (some b))(a:P (tg b)):eB P tg tg w w':=
 ⟨hg.os,hg.tape,hg.output,hg.size,fun _ _=>rfl,fun k hk hn=>hg.block k hk (fun e=>hn (by cases e;exact a)),fun hf k hk=>hf k (wl hg.size hk)⟩
section
variable {s i p:Nat}{B:WB}{ey:List Ob}
theorem Dm{tg:eV}{w w':World}{g:WG}{lim n:Nat}(h:eT tg w s i p B ey g lim){src a:eL}(b:Good a)(c:∀x f,src <+: x->g.ft.of x=some f->a.length+(x.length-src.length)<=5)(hn:n<=lim)(hm:iN w' B.oF n (xa (fun p=>(g.ft.of p).map ptr) src a))(d:w.grownBy w' (some B.oF)):
  eB (fun t=>t=(i,4)) tg tg w w'/\eT tg w' s i p B ey { g with ft:={ g.ft with of:=xa g.ft.of src a } } lim:=by
 have hi:=h.two;obtain⟨ht,_,hg⟩:=h.wp.qG;have m:eB (fun t=>t=(i,4)) tg tg w w':=Ew d ht;have hp:=h.wp;obtain⟨vD,hD⟩:=hp.nI;refine⟨m,h.two,h.st.moves m (fun e=>by cases e) (fun e=>by cases e),⟨hp.tree.moves m (fun e=>by cases e),hp.lS.moves m (fun e=>by cases e),hp.lT.moves m (fun e=>by cases e),⟨ht,⟨n,hn,hm.congr (fun x _=>ME _ _ _ _ _)⟩,fun x f hx=>BX b hg c hx⟩,⟨vD,hD.moves m (fun e=>by cases e)⟩,hp.files.moves m (fun e=>by cases e),fun x f hx=>?_,hp.opens.moves m (fun e=>by cases e) (fun e=>by cases e),⟨hp.ok.root,hp.ok.od⟩⟩⟩;rcases tM hx with⟨_,h1⟩|⟨_,_,h1⟩
 ·exact hp.held _ f h1
 ·exact hp.held _ f h1
def BZ (vD:eL->Value)(src a:eL):eL->Value:=fun x=>if a <+: x then vD (src++x.drop a.length)else vD x
theorem Gl{tg:eV}{w w':World}{g:WG}{lim n:Nat}{vD:eL->Value}(h:eT tg w s i p B ey g lim)(hD:fC tg w i B g.ft.od lim vD){src a:eL}(o:Good a)(q:∀x f,src <+: x->g.ft.od x=some f->a.length+(x.length-src.length)<=5)(hn:n<=lim)(hm:iN w' B.oD n (xa (fun p=>(g.ft.od p).map fun _=>vD p) src a))(d:w.grownBy w' (some B.oD)):
  eB (fun t=>t=(i,5)) tg tg w w'/\eT tg w' s i p B ey { g with ft:={ g.ft with od:=xa g.ft.od src a } } lim:=by
 obtain⟨J,_,u⟩:=hD.map;obtain⟨K,L,v⟩:=u.isMap;have m:eB (fun t=>t=(i,5)) tg tg w w':=Ew d hD.tag;have hv:∀x es,xa g.ft.od src a x=some es->∃y,g.ft.od y=some es/\BZ vD src a x=vD y/\((a <+: x/\y=src++x.drop a.length)\/(¬a <+: x/\¬src <+: x/\y=x)):=by
  intro x es hx;rcases tM hx with⟨hd,h1⟩|⟨hd,hs,h1⟩
  ·exact⟨_,h1,by unfold BZ;rw[ie hd],.inl ⟨hd,rfl⟩⟩
  ·exact⟨_,h1,by unfold BZ;rw[fY hd],.inr ⟨hd,hs,rfl⟩⟩
 have A:fC tg w' i B (xa g.ft.od src a) lim (BZ vD src a):=by
  refine⟨hD.tag,⟨n,hn,hm.congr (fun x _=>?_)⟩,fun x es hx=>?_,fun x es hx=>?_,fun x y ex j C hx D h1 h2=>?_⟩
  ·unfold xa BZ
   by_cases hd:a <+: x
   ·rw[ie hd,ie hd,ie hd]
   ·rw[fY hd,fY hd,fY hd]
    split<;>rfl
  ·obtain⟨y,h1,_,_⟩:=hv x es hx
   exact⟨BX o (fun p z E=>(hD.good p z E).1) q hx,(hD.good y es h1).2⟩
  ·obtain⟨y,h1,h2,_⟩:=hv x es hx
   rw[h2];exact(hD.row y es h1).xz v d
  ·obtain⟨F,a1,a2,a3⟩:=hv x ex hx
   obtain⟨G,H,I,k⟩:=hv y j D;rw[a2]at h1;rw[I]at h2;have e:=hD.inj F G ex j C a1 H h1 h2;rcases a3 with⟨⟨r,rfl⟩,c⟩|⟨_,hs,c⟩
   ·rcases k with⟨⟨t,rfl⟩,b⟩|⟨_,l,b⟩
    ·rw[pZ]at c b
     rw[c,b]at e;rw[EW e]
    ·exfalso
     apply l;rw[<-b,<-e,c];exact nG _ _
   ·rcases k with⟨⟨t,rfl⟩,b⟩|⟨_,l,b⟩
    ·exfalso
     apply hs;rw[<-c,e,b];exact nG _ _
    ·rw[<-c,<-b,e]
 refine⟨m,h.od m (kx _) A (fun x es hx=>?_)⟩;obtain⟨y,h1,_,_⟩:=hv x es hx;exact h.wp.ok.od y es h1
end
end Go.Proofs.YtlgidcmmgohagaaGreat
