/- What is proved here: 'carry' over the map of a UL own Sq. -/
import Derived.Test.YtlgidcmmgohagaaGreatFileM18
namespace Go.Proofs.YtlgidcmmgohagaaGreat
open Go.RowKit Go.Sort Go.Shelf Go.Proofs.Tryz
set_option linter.unusedVariables false
set_option maxRecDepth 100000
set_option maxHeartbeats 16000000
theorem EW(b n:Nat)(f:eB->Option Value)(src t:eB)(w:World)(O:Good src)(am:Good t)(P:gm w b n f)(hn:n<1099511627776)
  (aT:∀x,t <+: x->f x=none)(aU:∀x,src <+: x->f x≠none->t.length+(x.length-src.length)<=5)(hf:∀x,f x≠none->Good x):
  eK 145 #[.map (some b),.agg (et src),.agg (et t)] w fun e w'=>e=.returned (.tuple #[])/\gm w' b n (qr f src t)/\w.grownBy w' (some b):=by
 obtain⟨aV,hi,an,ao,ap⟩:=H4 Sn;have bx:=P.lt;have bz:Hid _:=P;obtain⟨M,⟨D,hD,aW⟩,h1,h2⟩:=P;have aa:=fun p (hp:Good p) W=>vz p src hp O W;have heq:=fun p (hp:Good p) W=>sf hp O W;have Q:=fun r (h1:src.length+r.length<=5) (h2:t.length+r.length<=5) W=>Bk src t r O am h1 h2 W;obtain⟨a,d,l,m,q,hS⟩:∃a d l m q,et src=(ii a d l m q):=⟨_,_,_,_,_,rfl⟩;obtain⟨d0,d1,d2,d3,d4,ab⟩:∃a d l m q,et t=(ii a d l m q):=⟨_,_,_,_,_,rfl⟩;unfold hP at aa heq Q;rw[hS]at aa heq Q;rw[ab]at Q;rw[hS,ab];have aq:Hid _:=pk (w':=(w.alloc (.cells (ii a d l m q) 147)).alloc (.cells (ii d0 d1 d2 d3 d4) 147)) hD ((((i7 w.heap.size w).alloc (io _) _).alloc (by simp) _).block b bx);have G:Hid _:=And.intro aW (And.intro h1 h2);have aX:Hid _:=aa;have aY:Hid _:=heq;have aZ:Hid _:=Q;have a0:Hid _:=aT;have a1:Hid _:=aU;have ar:Hid _:=hf;have a2:Hid _:=And.intro O am;have bA:Hid _:=And.intro hS ab;clear hD aW h1 h2 aa heq Q aT aU hf O am hS ab;go_enter func145,ntmps145;go_wp2_with(b7;go_loud(refine wpList_range_own _ rfl _ 162 rfl 147 55 rO underlying162 fU b n D rfl aq.out ?_;intro bB au a3 av))
 go_frame
 have bC:((w.alloc (.cells (ii a d l m q) 147)).alloc (.cells (ii d0 d1 d2 d3 d4) 147)).heap.size=w.heap.size+2:=by simp
 have a4:=World.ownsMap.size_le aq.out;generalize hr:((w.alloc (.cells (ii a d l m q) 147)).alloc (.cells (ii d0 d1 d2 d3 d4) 147)).heap.size=r at au av ⊢;have a5:b<r:=by omega
 have a6:w.heap.size<r:=by omega
 have b8:w.heap.size+1<r:=by omega
 have ac:Hid (((w.alloc (.cells (ii a d l m q) 147)).alloc (.cells (ii d0 d1 d2 d3 d4) 147)).heap.size<=r/\w.heap.size<((w.alloc (.cells (ii a d l m q) 147)).alloc (.cells (ii d0 d1 d2 d3 d4) 147)).heap.size/\w.heap.size+1<((w.alloc (.cells (ii a d l m q) 147)).alloc (.cells (ii d0 d1 d2 d3 d4) 147)).heap.size):=⟨xM hr,by omega,by omega⟩;have a7:Hid (oV b r n D f src ((w.alloc (.cells (ii a d l m q) 147)).alloc (.cells (ii d0 d1 d2 d3 d4) 147)) bB (Maps.has D) (Maps.size D) [] (.slice none 0 0)):=⟨au,uA src G.out.1 G.out.2.1,UV _ _ _ _,a3,by rw[av];exact io _,by simpa using a4⟩;clear au a3 av hr bC a4
 go_loopw [6] (fun mv wr=>∃left cnt L,Hid (oV b r n D f src ((w.alloc (.cells (ii a d l m q) 147)).alloc (.cells (ii d0 d1 d2 d3 d4) 147)) wr left cnt L mv)) (fun _ wr=>wr.rangeLeft b r)
 case atStart=>exact⟨Maps.has D,Maps.size D,[],a7.out⟩
 case round=>
  obtain⟨left,cnt,L,s⟩:=hrel;obtain⟨la,lc,rfl⟩:=Bl s.out.row;go_wp2_with(b9;refine JG ?_);show wpList _ _ _ _ _ _;refine wpList_next_ranges _ rfl (.tmp 11) rfl 147 rO fU (fun x:Value=>x) (fun x:Value=>x) (fun key kl _=>⟨key,rfl⟩) (fun v y _=>⟨v,rfl⟩) b r n D left cnt rfl s.out.rg ?_ ?_
  ·intro bD hl0
   have aw:Hid (∀x,x∈L↔(src <+: x/\f x≠none)):=fun x=>(s.out.ga.2 x).trans ⟨fun h=>⟨h.2.1,h.2.2.1⟩,fun h=>⟨ar.out x h.2,h.1,h.2,hl0 _⟩⟩;have a8:Hid L.Nodup:=s.out.ga.1;clear hl0 bD;have a9:Hid (gm wr b n (carried f src t [])):=gm.congr ⟨M,⟨D,s.out.rg.owns,G.out.1⟩,G.out.2.1,G.out.2.2⟩ (fun x _=>(wI f src t x).symm);have ca:L.length<=n:=by have:=s.out.many;omega
   have K:Hid (wr.ownsRow (r+1) 147 5 (.slice la L.length lc) L.length (iD L)):=s.out.row;have bb:Hid _:=World.grownBy.but s.out.gr (some b);have bE:=s.out.sz;go_wp2
   go_loopw [30] (fun i F=>∃k:Nat,k<=L.length/\i=.int .i64 (k:Int)/\Hid (gm F b n (carried f src t (L.take k)))/\Hid (((w.alloc (.cells (ii a d l m q) 147)).alloc (.cells (ii d0 d1 d2 d3 d4) 147)).grownBy F (some b))/\Hid (F.ownsRow (r+1) 147 5 (.slice la L.length lc) L.length (iD L))/\r+1<=F.heap.size) (fun i _=>L.length-(intOf i).toNat)
   case atStart=>exact⟨0,oY _,rfl,a9.out,bb.out,K.out,bE⟩
   case round=>
    obtain⟨k,hk,rfl,ad,ae,ax,bF⟩:=hrel;by_cases af:k<L.length
    ·obtain⟨g,cb,bG⟩:=ej ax.out (by omega)
     cases bG;have ay:=iF af;obtain⟨hs,kZ⟩:=(aw.out L[k]).1 ay;have hp:=ar.out _ kZ;have az:L[k]∉L.take k:=by
      intro jY;obtain⟨j,hj,bc⟩:=mH jY;rw[Hc]at hj;rw[List.getElem_take]at bc;exact MT.1 a8.out j k (by omega) af (by omega) bc
     have aA:L.take (k+1)=L.take k++[L[k]]:=sZ af;have bd:∀x∈L.take k,src <+: x/\f x≠none:=fun x hx=>(aw.out x).1 (wY hx);obtain⟨u,z,A,B,C,H⟩:∃a d l m q,et L[k]=(ii a d l m q):=⟨_,_,_,_,_,rfl⟩;obtain⟨cc,bH,bI,e2,bJ,bK⟩:=T7 ax.out af H;generalize L[k]=p at ay hs kZ hp az aA H;cases hv:f p with
     |none=>exact absurd hv kZ
     |some v=>
      have KE:=uy hs;have aB:=a1.out p hs kZ;have bL:=hp.len;have be:src.length+(p.drop src.length).length<=5:=by rw[jl];have:=hs.length_le;omega
      have ag:=aZ.out (p.drop src.length) be (by rw[jl];exact aB);rw[KE,H]at ag;have bf:Good (iR src t p):=⟨a2.out.2.val.append (fun x hx=>hp.val x (Gf hx)),by unfold iR;rw[jM,jl];exact aB⟩;have ah:=fun W (P:gm W b n (carried f src t (L.take k)))=>yX P (by unfold maxLen;omega) a0.out bd hp hs hv az bf underlying162 vu 0
      change ∀W,eK 197 _ W fun e w'=>e=.returned (.agg (et (iR src t p)))/\_ at ag
      obtain⟨q0,bM,cd,ce,cf,aC⟩:∃a d l m q,et (iR src t p)=(ii a d l m q):=⟨_,_,_,_,_,rfl⟩;rw[aC]at ag;simp only[H,aC]at ah;have bN:Hid _:=ah;have aD:gS wr (wr.alloc (.cells (ii u z A B C) 147)).drew:=eQ ((i7 _ _).alloc (io _) _);have hl0:=(ah _ (ad.out.keep (aD.block b (by omega)))).1;have bg:=fun o=>(rh ae.out (c:=w.heap.size) ac.out.2.1 (by omega) o);have kD:=fun o=>(rh ae.out (c:=w.heap.size+1) ac.out.2.2 (by omega) o);have ai:w.heap.size<wr.heap.size:=by omega
      have R:w.heap.size+1<wr.heap.size:=(by omega);have bO:b<wr.heap.size:=by omega
      have bQ:wr.heap.size≠b:=(by omega);have bR:w.heap.size≠b:=by omega
      have bS:w.heap.size+1≠b:=(by omega);have bT:Hid _:=aA;have bU:Hid _:=aD;clear ah aD ay hs kZ hp az aA H hv KE aB bL be bf aC bd;clear aq G aX aY aZ a1 ar a2 bA bz a8 a9 K bb a7 hi an ao ap;go_wp2;clear bH bI e2 bJ bK;have bh:wK (wr.alloc (.cells (ii u z A B C) 147)).drew wr.heap.size w.heap.size (w.heap.size+1) u z A B C a d l m q d0 d1 d2 d3 d4:=by
       unfold wK;have q0:=Nat.ne_of_lt ai;have bM:=Nat.ne_of_lt R;simp[Qx,ai,R,bg,kD]
      go_region_held3 (fun w'=>w'.cell? (eb wr.heap.size 0)=some (.string u)/\w'.cell? (eb wr.heap.size 1)=some (.string z)/\w'.cell? (eb wr.heap.size 2)=some (.string A)/\w'.cell? (eb wr.heap.size 3)=some (.string B)/\w'.cell? (eb wr.heap.size 4)=some (.string C)/\w'.cell? (eb w.heap.size 0)=some (.string a)/\w'.cell? (eb w.heap.size 1)=some (.string d)/\w'.cell? (eb w.heap.size 2)=some (.string l)/\w'.cell? (eb w.heap.size 3)=some (.string m)/\w'.cell? (eb w.heap.size 4)=some (.string q)/\w'.cell? (eb (w.heap.size+1) 0)=some (.string d0)/\w'.cell? (eb (w.heap.size+1) 1)=some (.string d1)/\w'.cell? (eb (w.heap.size+1) 2)=some (.string d2)/\w'.cell? (eb (w.heap.size+1) 3)=some (.string d3)/\w'.cell? (eb (w.heap.size+1) 4)=some (.string d4)) (first|exact bh|exact bi|exact bV) (first|(go_at_call 197;refine(ag _).mono ?_;rintro e w3 ⟨rfl,aE⟩;obtain⟨bj,bk,bl,aj⟩:=yY aE ai R;have bi:=bh.keep bj bk bl;have aF:=em bU.out aE;obtain⟨cg,bW,w5,ch,ci,bm,S,bn,bo,bX⟩:=bN.out w3 (ad.out.keep (aF.block b bO));have bV:=bi.keep (rh S aj bQ) (rh S (zS ai aj) bR) (rh S (zS R aj) bS);have aG:Hid _:=yZ a5 ae.out ax.out bF aF S bn;have bY:Hid _:=bm;have bZ:wr.heap.size<bW.heap.size:=kv aj (xM bo.symm);clear S bn bo bX bm aF bj bk bl aE))
      all_goals
       go_wp2;go_roundw
       case rel=>exact⟨k+1,by omega,by go_num,by rw[bT.out];exact bY.out,aG.out.1,aG.out.2.1,aG.out.2.2⟩
       case measure=>simp[intOf];omega
    ·have b0:k=L.length:=by omega
     subst b0;rw[uO]at ad;go_wp2;go_end0;refine⟨rfl,ad.out.congr (fun x _=>wJ a0.out aw.out x),?_⟩;exact(World.grownBy.but (gH (((i7 w.heap.size w).alloc (io _) _).alloc (by simp) _)) (some b)).andThen ae.out (fun j hj=>.inr (by rw[hj]))
  ·intro x c kl y E aH bp hlk hv bq aI aJ aK br b1
   obtain⟨p,hp,rfl,rfl,kZ⟩:=came G.out.1 G.out.2.1 G.out.2.2 bp bq;obtain⟨u,z,A,B,C,H⟩:∃a d l m q,et p=(ii a d l m q):=⟨_,_,_,_,_,rfl⟩;have N:=aX.out p hp;have ak:∀W,(Op.equalIn 10000 147 (.agg (et p)) (.agg (ii a d l m q))).run prog W=.ok (decide (p=src)) W:=aY.out p hp;obtain⟨bs,bt⟩:=s.out.next a5 ac.out.1 aI aJ aK hp hlk kZ;have bg:=fun o=>(rh aK (c:=w.heap.size) (kv a6 (Nat.le_of_succ_le s.out.sz)) (by omega) o).trans (s.out.box ac.out.2.1 o);have R:w.heap.size<E.heap.size:=by rw[br];exact kv a6 (Nat.le_of_succ_le s.out.sz)
   have aL:Hid (aH<cnt):=aJ;have cj:Hid _:=aI;rw[H]at N ak b1 ⊢;have bu:Hid _:=H;have b2:Hid _:=bs;have bv:Hid _:=bt;clear bs bt bp hlk hv bq aI aJ aK br kZ H;by_cases hs:src <+: p
   ·by_cases T:p=src
    ·rw[jT T]at ak
     clear N;obtain⟨U,al,b3,V⟩:=bv.out hs;have hW:gS E (E.alloc (.cells (ii u z A B C) 147)):=(i7 _ _).alloc (io _) _;have K:Hid _:=U.alloc (.cells (ii u z A B C) 147);have aM:Hid _:=pD al hW.size;have aN:Hid _:=V;have X:Hid _:=hW;have aO:L.length+1<=maxLen:=by unfold maxLen;omega
     have aP:(L.length+1)*80<=140737488355328:=(by omega);clear U al V hW;go_wp2_with(at_builtin;go_loud(refine Gi _ rfl (.tmp 24) (.tmp 26) 289 rfl (r+1) 147 aV _ 5 80 underlying289 hi an ao ap rfl (by decide) (.slice la L.length lc) L.length (iD L) rfl (mL K.out _) (eb (E.heap.size+1) 0) 1 1 [.string u,.string z,.string A,.string B,.string C] rfl rfl (Sp E _ _ _ _ _ _ 147) (uC _ _ _ _ _) aO aP (pD aM.out (uB _ _)) ?_;intro b4 w3 J Y _ aQ;obtain⟨b5,b6,rfl⟩:=ej J (Nat.succ_pos _);have aR:Hid _:=J;have aS:Hid _:=Y;clear J Y aQ));have I:Hid (oV b r n D f src _ w3 _ aH (L++[p]) _):=aN.out _ w3 _ (X.out.alloc X.out.size (.cells (ii u z A B C) 147)) (by rw[bu.out];exact aR.out) aS.out;go_roundw
     case rel=>exact⟨_,_,_,I.out⟩
     case measure=>rw[I.out.rg.left_eq,s.out.rg.left_eq];exact aL.out
    ·rw[m6 T]at ak
     rw[jT ⟨hs,T⟩]at N;obtain⟨U,al,b3,V⟩:=bv.out hs;have aN:Hid _:=V;have aO:L.length+1<=maxLen:=by unfold maxLen;omega
     have aP:(L.length+1)*80<=140737488355328:=(by omega);clear V;have ck:w.heap.size<(E.alloc (.cells (ii u z A B C) 147)).heap.size:=by simp;omega
     have bw:E.heap.size<(E.alloc (.cells (ii u z A B C) 147)).heap.size:=(by simp);go_wp2_with(first
      |(go_at_call 140;refine g7 (N _) ?_;rintro e F ⟨rfl,Z⟩;have cl:=fun o=>(gc Z).1 E.heap.size o bw;have bZ:=kv bw Z.size;have hW:=em ((i7 E.heap.size E).alloc (io _) _) Z;have K:Hid (F.ownsRow (r+1) 147 5 (.slice la L.length lc) L.length (iD L)):=eh U (fun g hg=>hW.block g (ee U hg));have aM:Hid (r+1<=F.heap.size):=pD al hW.size;have X:Hid _:=hW;clear hW)
      |(at_builtin;go_loud(refine Gi _ rfl (.tmp 24) (.tmp 26) 289 rfl (r+1) 147 aV _ 5 80 underlying289 hi an ao ap rfl (by decide) (.slice la L.length lc) L.length (iD L) rfl (mL K.out _) (eb F.heap.size 0) 1 1 [.string u,.string z,.string A,.string B,.string C] rfl rfl (Tb F _ _ _ _ _ 147) (uC _ _ _ _ _) aO aP (pD aM.out (uB _ _)) ?_;intro b4 w3 J Y _ aQ;obtain⟨b5,b6,rfl⟩:=ej J (Nat.succ_pos _);have aR:Hid _:=J;have aS:Hid _:=Y;clear J Y aQ)))
     have I:Hid (oV b r n D f src _ w3 _ aH (L++[p]) _):=aN.out _ w3 _ (X.out.alloc X.out.size (.cells (ii u z A B C) 147)) (by rw[bu.out];exact aR.out) aS.out;go_roundw
     case rel=>exact⟨_,_,_,I.out⟩
     case measure=>rw[I.out.rg.left_eq,s.out.rg.left_eq];exact aL.out
   ·have T:p≠src:=fun e=>hs (e▸mB _)
    rw[m6 T]at ak;rw[m6 (fun h=>hs h.1)]at N;go_wp2_with(go_at_call 140;refine g7 (N _) ?_;rintro e F ⟨rfl,Z⟩);have I:Hid _:=(b2.out hs).below (em ((i7 _ _).alloc (io _) _) Z);go_roundw
    case rel=>exact⟨_,_,L,I.out⟩
    case measure=>rw[(oV.rg I.out).left_eq,s.out.rg.left_eq];exact aL.out
theorem fO.fe{tg:eM}{w:World}{s p:Nat}{ei:List Ob}{got:List Int}{brk:Bool}{lim:Nat}(h:fO tg w s p ei got brk lim):∀o∈ei,0<=o.high/\o.high<=5:=by
 obtain⟨_,ft,_,⟨a,cap,bf,bd,Df,Dd,i⟩,_⟩:=h;intro o ho;rcases i.xe o ho with⟨_,h1,_⟩|⟨_,_,_,_,h1,h2,_⟩
 ·rw[h1];exact⟨pT _,by decide⟩
 ·exact⟨h1,h2⟩
theorem LS{tg:eM}{w:World}{s p:Nat}{ei:List Ob}{got:List Int}{brk:Bool}{lim:Nat}(h:fO tg w s p ei got brk lim){id:Int}(hk:eC ei id≠0):
  eK 173 #[fj p,ed id] w (ml (ed (eY ei id)) w):=by
 obtain⟨h1,h2⟩:=ur hk;obtain⟨j,rfl⟩:∃j:Nat,id=(j:Int)+1:=⟨(id-1).toNat,by omega⟩;have hj:j<ei.length:=by omega
 obtain⟨_,ft,_,⟨a,cap,bf,bd,Df,Dd,i⟩,_⟩:=h;rw[uW hj];exact Ay p a ei.length cap bf bd ei j hj w i.fZ
theorem y3{ei:List Ob}(h:∀o∈ei,0<=o.high/\o.high<=5)(id:Int):0<=eY ei id/\eY ei id<=5:=by
 unfold eY;cases ho:ei[(id-1).toNat]? with
 |none=>exact⟨pT _,by decide⟩
 |some o=>exact h o (MU ho)
theorem uD{b:Type}(f:b->Int)(l:List b)(a:Int):a<=l.foldl (fun h x=>max h (1+f x)) a:=((tB f l a _).1 (pT _)).1
theorem rz{ei:List Ob}(h:∀o∈ei,0<=o.high/\o.high<=5):∀(n:Nat) (c:LT),0<=H2 ei n c/\H2 ei n c<=5+n
 |n,.file id=>by
  have:=y3 h id
  have e:H2 ei n (.file id)=eY ei id:=by cases n<;>rfl
  rw[e];omega
 |n,.held f=>by
  have e:H2 ei n (.held f)=0:=by cases n<;>rfl
  rw[e];omega
 |n,.dir id=>by
  have:=y3 h id
  have e:H2 ei n (.dir id)=eY ei id:=by cases n<;>rfl
  rw[e];omega
 |0,.own es=>by
  have e:H2 ei 0 (.own es)=0:=rfl
  rw[e];omega
 |n+1,.own es=>by
  rw[H2]
  refine⟨uD _ es 0,(tB (fun x=>H2 ei n x.2) es 0 _).2 ⟨by omega,fun x _=>?_⟩⟩
  have:=rz h n x.2
  push_cast
  omega
theorem Tc{ei:List Ob}{t:LT}{q:eB}{es:Kids}(a:t.at ei q=some (.own es))(hr:eF es){x:eu×LT}(hx:x∈es):t.at ei (q++[x.1])=some x.2:=by
 rw[i1,a,my,h9];show(g8 es x.1).bind _=_;cases hp:g8 es x.1 with
 |none=>
  unfold g8 at hp;rw[M5,Nf]at hp;exact absurd (hp x hx) (by simp)
 |some c=>
  rw[jc hr hp hx rfl,my,k0]
def xh (ei:List Ob)(n:Nat)(es:Kids):Int:=es.foldl (fun h x=>max h (1+H2 ei n x.2)) 0
theorem LU(ei:List Ob)(n:Nat)(es:Kids)(x:eu×LT):xh ei n (es++[x])=max (xh ei n es) (1+H2 ei n x.2):=by
 simp only[xh,M6,xH,List.foldl_nil]
theorem HR{ei:List Ob}(h:∀o∈ei,0<=o.high/\o.high<=5)(n:Nat)(es:Kids):0<=xh ei n es/\xh ei n es<=6+n:=by
 refine⟨uD _ es 0,(tB (fun x=>H2 ei n x.2) es 0 _).2 ⟨by omega,fun x _=>?_⟩⟩
 have:=rz h n x.2
 omega
theorem Ai(t p:Nat)(a b c d f nm:eu)(k id g:Int)(w:World)(ht:t<w.heap.size)(c0:w.cell? (eb t 0)=some (fj p))(hid:id≠0)
  (h:∀W,gS w W->eK 173 #[fj p,ed id] W (ml (ed g) W)):
  eK 143 #[fj t,.agg (ii a b c d f),.agg #[.string nm,ed k,ed id]] w (ml (ed g) w):=by
 have hW:=eQ (((i7 w.heap.size w).alloc (io _) (.cells (ii a b c d f) 147)).alloc (by simp) (.cells #[.string nm,ed k,ed id] 96));have hg:=h _ hW;have i:Hid _:=hW;have l:(id==0)=false:=by simpa using hid
 clear h hW;go_enter func143,ntmps143;go_wp2
 go_region_with(go_at_call 173;refine hg.mono ?_;rintro e m ⟨rfl,j⟩)
 all_goals
  go_wp2;go_ret;exact⟨rfl,em i.out j⟩
theorem qx(t m:Nat)(a b c d e nm:eu)(k:Int)(w:World)(ht:t<w.heap.size)(c8:w.cell? (eb t 8)=some (.map (some m)))
  (hlk:∀W,gS w W->(Instr.lookup 162 (.map (some m)) (.agg (ii a b c d e)) false).run prog W=.ok (.slice none 0 0) W):
  eK 143 #[fj t,.agg (ii a b c d e),.agg #[.string nm,ed k,ed 0]] w (ml (ed 0) w):=by
 have hW:=eQ (((i7 w.heap.size w).alloc (io _) (.cells (ii a b c d e) 147)).alloc (by simp) (.cells #[.string nm,ed k,ed 0] 96));have hl:=hlk _ hW;have f:Hid _:=hW;clear hlk hW;go_enter func143,ntmps143;go_wp2
 go_region
 all_goals
  go_wp2
  go_loopw [7,27] (fun t i wr=>i=.int .i64 0/\t=.int .i64 0/\gS w wr) (fun _ _ _=>0)
  case atStart=>exact⟨rfl,rfl,f.out⟩
  case round=>
   obtain⟨rfl,rfl,g⟩:=hrel;go_wp2;go_ret;exact⟨rfl,g⟩
theorem HT{wr b:World}{X:Obj}(c:Below (wr.alloc X).drew.heap.size (wr.alloc X).drew b):
  (∀o,b.cell? (eb wr.heap.size o)=(wr.alloc X).drew.cell? (eb wr.heap.size o))/\wr.heap.size<b.heap.size/\∀n a,n<=wr.heap.size->Below n a (wr.alloc X).drew->Below n a b:=by
 have h1:wr.heap.size<(wr.alloc X).drew.heap.size:=by simp
 exact⟨fun o=>(gc c).1 wr.heap.size o h1,kv h1 c.size,fun n a hn d=>d.trans (c.mono (by omega))⟩
theorem HV(t m r cap n:Nat)(ei:List Ob)(b d f g h nm:eu)(q:eB)(k:Int)(es:Kids)(w:World)(ht:t<w.heap.size)(u:r<w.heap.size)(c8:w.cell? (eb t 8)=some (.map (some m)))
  (hlk:∀W,gS w W->(Instr.lookup 162 (.map (some m)) (.agg (ii b d f g h)) false).run prog W=.ok (.slice (some (eb r 0)) es.length cap) W)
  (ah:es.length<=16)(ai:n<=5)(hc:∀j G,(flat (es.map kB))[j]?=some G->w.cell? (eb r j)=some G)(A:∀o∈ei,0<=o.high/\o.high<=5)
  (H:∀(x:eu) W,x∈es.map (·.1)->eK 196 #[.agg (ii b d f g h),.string x] W (ml (.agg (et (q++[x]))) W))
  (Ag:∀x∈es,∀W,gS w W->eK 143 #[fj t,.agg (et (q++[x.1])),.agg #[.string x.1,ed x.2.kind,ed x.2.id]] W (ml (ed (H2 ei n x.2)) W)):
  eK 143 #[fj t,.agg (ii b d f g h),.agg #[.string nm,ed k,ed 0]] w (ml (ed (xh ei n es)) w):=by
 have hW:=eQ (((i7 w.heap.size w).alloc (io _) (.cells (ii b d f g h) 147)).alloc (by simp) (.cells #[.string nm,ed k,ed 0] 96));have hl:=hlk _ hW;have T:Hid _:=hW;have U:Hid _:=hc;have V:Hid _:=H;have X:Hid _:=Ag;have Y:Hid _:=fun es':Kids=>HR A n es';have Z:Hid _:=fun c:LT=>rz A n c;clear hlk hW hc H Ag A;go_enter func143,ntmps143;go_wp2
 go_region
 all_goals
  go_wp2
  go_loopw [7,27] (fun t i wr=>∃a:Nat,a<=es.length/\i=.int .i64 a/\t=.int .i64 (xh ei n (es.take a))/\gS w wr/\Below (w.heap.size+2) ((w.alloc (.cells (ii b d f g h) 147)).alloc (.cells #[.string nm,ed k,ed 0] 96)).drew wr) (fun _ i _=>es.length-(intOf i).toNat)
  case atStart=>exact⟨0,oY _,rfl,rfl,T.out,i7 _ _⟩
  case round=>
   obtain⟨a,hk,rfl,rfl,s,B⟩:=hrel;by_cases C:a<es.length
   ·have aa:a<(es.map kB).length:=by rw[kU];exact C
    obtain⟨d0,d1,d2⟩:=sK U.out aa;rw[BS]at d0 d1 d2;have D:=(s.cell (p:=(eb r (a*3))) u).trans d0;have v:=(s.cell (p:=(eb r (a*3+1))) u).trans d1;have e2:=(s.cell (p:=(eb r (a*3+2))) u).trans d2;have aj:r<wr.heap.size:=kv u s.size;have ak:=fun o=>B.cell (p:=(eb w.heap.size o)) (by simp);have I:w.heap.size+2<=wr.heap.size:=by have:=B.size;simpa using this
    have al:w.heap.size<wr.heap.size:=(by omega);have E:=iF C;have y:=fun W=>V.out (es[a]).1 W (zP E);have l:=X.out es[a] E;have J:=Z.out (es[a]).2;have K:=Y.out (es.take a);have z:xh ei n (es.take (a+1))=max (xh ei n (es.take a)) (1+H2 ei n (es[a]).2):=by
     rw[sZ C,LU]
    generalize H2 ei n (es[a]).2=L at l J z;generalize xh ei n (es.take a)=am at K z ⊢;have an:IntKind.i64.wrap (1+L)=1+L:=by rw[uP]<;>omega
    obtain⟨ao,ap⟩:=K;obtain⟨aq,ar⟩:=J;have ab:Hid _:=z;simp only[kB]at D v e2;clear d0 d1 d2 z E;generalize es[a]=x at D v e2 y l;obtain⟨F,M⟩:=x;simp only at D v e2 y l;generalize M.kind=N at v l;generalize M.id=O at e2 l;obtain⟨au,av,aw,ax,ay,P⟩:∃b d f g h,et (q++[F])=(ii b d f g h):=⟨_,_,_,_,_,rfl⟩;rw[P]at y l;have ac:Hid _:=l;clear l P;have ad:gS w (wr.alloc (.cells #[.string F,ed N,ed O] 96)).drew:=eQ (s.alloc s.size _);have ae:Below (w.heap.size+2) ((w.alloc (.cells (ii b d f g h) 147)).alloc (.cells #[.string nm,ed k,ed 0] 96)).drew (wr.alloc (.cells #[.string F,ed N,ed O] 96)).drew:=eQ (B.alloc I _);go_wp2
    go_region_with(first
     |(go_at_call 196;refine(y _).mono ?_;rintro e az ⟨rfl,Q⟩;have R:=em ad Q;obtain⟨aA,aB,mC⟩:=HT Q;have af:=mC _ _ I ae;clear mC)
     |(go_at_call 143;refine(ac.out _ R).mono ?_;rintro e aC ⟨rfl,S⟩))
    all_goals
     go_wp2;go_roundw
     case rel=>
      refine⟨a+1,by omega,by go_num,by rw[ab.out],em R S,af.trans (S.mono (by omega))⟩
     case measure=>simp[intOf];omega
   ·have ag:a=es.length:=by omega
    subst ag;rw[uO];go_wp2;go_ret;exact⟨rfl,s⟩
theorem sQ{ei:List Ob}:∀(n m:Nat) (c:LT),n<=m->eL ei n c->H2 ei m c=H2 ei n c
 |n,m,.file id,_,_=>by cases n<;>cases m<;>rfl
 |n,m,.held f,_,_=>by cases n<;>cases m<;>rfl
 |n,m,.dir id,_,_=>by cases n<;>cases m<;>rfl
 |0,m,.own es,_,h=>by
  rw[eL]at h
  subst h
  cases m<;>rfl
 |n+1,0,.own es,h,_=>by omega
 |n+1,m+1,.own es,h,b=>by
  rw[eL]at b
  rw[H2,H2]
  have key:∀(l:Kids) (a:Int),(∀x∈l,x∈es)->l.foldl (fun h x=>max h (1+H2 ei m x.2)) a=l.foldl (fun h x=>max h (1+H2 ei n x.2)) a:=by
   intro l
   induction l with
   |nil=>intro a _;rfl
   |cons y r d=>
    intro a hl;rw[xH,xH,sQ n m y.2 (by omega) (b.2.2 y (hl y (by simp))).2];exact d _ (fun x hx=>hl x (by simp[hx]))
  exact key es 0 (fun x hx=>hx)
section
variable {s i p:Nat}{B:WB}{ei:List Ob}
theorem HX{tg:eM}{w:World}{g:WG}{lim:Nat}{t:LT}(h:eH tg w s i p B ei g lim)(hF:Flat ei t g.ft):∀(n:Nat) (c:LT) (q:eB),n<=5->eL ei n c->t.at ei q=some c->Good q->q.length+n<=5->∀(nm:eu) (W:World),gS w W->
  eK 143 #[fj B.bt,.agg (et q),.agg #[.string nm,ed c.kind,ed c.id]] W (ml (ed (H2 ei n c)) W):=by
 have m:∀(W:World),gS w W->B.bt<W.heap.size/\W.cell? (eb B.bt 0)=some (fj p)/\W.cell? (eb B.bt 8)=some (.map (some B.oD)):=by
  intro W a;have ht:=(h.below a).wp.tree.ht;exact⟨(lF.1 ht).1,by simp[World.cell?,ht,ptr],by simp[World.cell?,ht]⟩
 have o:∀(c:LT) (q:eB) (nm:eu) (W:World),gS w W->eC ei c.id≠0->
   eK 143 #[fj B.bt,.agg (et q),.agg #[.string nm,ed c.kind,ed c.id]] W (ml (ed (eY ei c.id)) W):=by
  intro c q nm W a hk;obtain⟨h1,h2,h3⟩:=m W a;have hid:c.id≠0:=fun e=>by have:=(ur hk).1;omega
  exact Ai B.bt p _ _ _ _ _ nm c.kind c.id _ W h1 h2 hid (fun b d=>LS ((h.below a).below d).st hk)
 have C:=h.st.fe;obtain⟨vD,hD⟩:=h.wp.kX;have hlk:∀(q:eB),Good q->∀(W:World),gS w W->(Instr.lookup 162 (.map (some B.oD)) (.agg (et q)) false).run prog W=.ok (((g.ft.od q).map fun _=>vD q).getD (.slice none 0 0)) W:=fun q hq W a=>hD.look hq a;have hS:=h.st.sound;have v:∀(n:Nat) (es:Kids) (q:eB) (nm:eu) (W:World),gS w W->n<=5->t.at ei q=some (.own es)->Good q->eF es->es.length<=16->(∀x∈es,q.length<=4)->
   (∀x∈es,∀b,gS w b->eK 143 #[fj B.bt,.agg (et (q++[x.1])),.agg #[.string x.1,ed x.2.kind,ed x.2.id]] b (ml (ed (H2 ei n x.2)) b))->
   eK 143 #[fj B.bt,.agg (et q),.agg #[.string nm,ed 2,ed 0]] W (ml (ed (xh ei n es)) W):=by
  intro n es q nm W a hn k hq hr NE D Ag;obtain⟨h1,h2,h3⟩:=m W a;have ho:g.ft.od q=some (es.map kB):=by rw[hF.od,k];rfl
  have r:=hD.row q _ ho;have hl:=fun b (d:gS W b)=>hlk q hq b (em a d);rw[ho,jS,nG]at hl;have E:∀l c,vD q=.slice (some (eb l 0)) es.length c->eK 143 #[fj B.bt,.agg (et q),.agg #[.string nm,ed 2,ed 0]] W (ml (ed (xh ei n es)) W):=by
   intro l c hv;rw[hv]at hl r;have z:l<w.heap.size:=ee r.1 rfl;have A:=r.1;rw[kU]at A;refine HV B.bt B.oD l c n ei _ _ _ _ _ nm q 2 es W h1 (kv z a.size) h3 hl NE hn (fun j F hu=>?_) C (fun x b hx=>?_) (fun x hx b d=>Ag x hx b (em a d))
   ·have:=hh A j F hu
    rw[PH]at this;exact(a.cell (p:=(eb l j)) z).trans this
   ·obtain⟨y,u,rfl⟩:=H3.1 hx
    exact LP q hq (D y u) y.1 b
  rcases r.1.2 with⟨hv,hx⟩|⟨J,K,L,hv,_⟩
  ·have G:es=[]:=by
    have h0:(es.map kB).length=0:=by first|exact hx|(have:=rp List.length hx;rw[ib]at this;simpa using this)
    simpa using h0
   subst G;rw[hv]at hl;exact qx B.bt B.oD _ _ _ _ _ nm 2 W h1 h3 hl
  ·rw[kU]at hv
   exact E _ _ hv
 intro n
 induction n with
 |zero=>
  intro c q hn hc k hq H nm W a;obtain⟨h1,h2,h3⟩:=m W a;cases c with
  |file id=>exact o (.file id) q nm W a (by rw[eL]at hc;show eC ei id≠0;rw[hc];decide)
  |dir id=>exact o (.dir id) q nm W a (by rw[eL]at hc;show eC ei id≠0;rw[hc.1];decide)
  |held f=>exact qx B.bt B.oD _ _ _ _ _ nm 1 W h1 h3 (fun b d=>by
    have:=hlk q hq b (em a d)
    rwa [hF.od,k]at this)
  |own es=>
   rw[eL]at hc;subst hc;exact v 0 [] q nm W a (by omega) k hq List.Pairwise.nil (by simp) (by simp) (by simp)
 |succ n I=>
  intro c q hn hc k hq H nm W a;obtain⟨h1,h2,h3⟩:=m W a;cases c with
  |file id=>exact o (.file id) q nm W a (by rw[eL]at hc;show eC ei id≠0;rw[hc];decide)
  |dir id=>exact o (.dir id) q nm W a (by rw[eL]at hc;show eC ei id≠0;rw[hc.1];decide)
  |held f=>exact qx B.bt B.oD _ _ _ _ _ nm 1 W h1 h3 (fun b d=>by
    have:=hlk q hq b (em a d)
    rwa [hF.od,k]at this)
  |own es=>
   rw[eL]at hc;refine v n es q nm W a (by omega) k hq hc.1 hc.2.1 (fun _ _=>by omega) (fun x hx b d=>?_);have hg:Good (q++[x.1]):=⟨hq.val.append (fun y u=>by simp at u;rw[u];exact(hc.2.2 x hx).1),by simp;omega⟩;exact I x.2 (q++[x.1]) (by omega) (hc.2.2 x hx).2 (Tc k hc.1 hx) hg (by simp;omega) x.1 b d
end
theorem HY{a c:Type}(f:eB->Option a)(m:a->c)(src b x:eB):qr (fun p=>(f p).map m) src b x=(qr f src b x).map m:=by
 unfold qr;split
 ·rfl
 ·split<;>rfl
theorem qy{b:Type}{f:eB->Option b}{src a x:eB}{y:b}(h:qr f src a x=some y):(a <+: x/\f (src++x.drop a.length)=some y)\/(¬a <+: x/\¬src <+: x/\f x=some y):=by
 unfold qr at h;by_cases hd:a <+: x
 ·rw[fY hd]at h;exact .inl ⟨hd,h⟩
 ·rw[eJ hd]at h
  by_cases hs:src <+: x
  ·rw[fY hs]at h;cases h
  ·rw[eJ hs]at h;exact .inr ⟨hd,hs,h⟩
theorem y4{b:Type}{f:eB->Option b}{src a x:eB}{y:b}(c:Good a)(hg:∀p z,f p=some z->Good p)(d:∀p z,src <+: p->f p=some z->a.length+(p.length-src.length)<=5)(h:qr f src a x=some y):Good x:=by
 rcases qy h with⟨⟨r,rfl⟩,h1⟩|⟨_,_,h1⟩
 ·rw[nv]at h1
  have e:=hg _ _ h1;have g:=d _ _ (kV _ _) h1;refine⟨c.val.append (fun z i=>e.val z (Qv _ i)),?_⟩;rw[jM]at g ⊢;omega
 ·exact hg _ _ h1
theorem Bn{P:Nat×Nat->Prop}{tg:eM}{w w':World}{b:Nat}(hg:w.grownBy w' (some b))(a:P (tg b)):eo P tg tg w w':=
 ⟨hg.os,hg.tape,hg.output,hg.size,fun _ _=>rfl,fun k hk hn=>hg.block k hk (fun e=>hn (by cases e;exact a)),fun hf k hk=>hf k (pD hg.size hk)⟩
section
variable {s i p:Nat}{B:WB}{ei:List Ob}
theorem Aj{tg:eM}{w w':World}{g:WG}{lim n:Nat}(h:eH tg w s i p B ei g lim){src a:eB}(b:Good a)(c:∀x f,src <+: x->g.ft.of x=some f->a.length+(x.length-src.length)<=5)(hn:n<=lim)(hm:gm w' B.oF n (qr (fun p=>(g.ft.of p).map ptr) src a))(d:w.grownBy w' (some B.oF)):
  eo (fun t=>t=(i,4)) tg tg w w'/\eH tg w' s i p B ei { g with ft:={ g.ft with of:=qr g.ft.of src a } } lim:=by
 have hi:=h.two;obtain⟨ht,_,hg⟩:=h.wp.nY;have m:eo (fun t=>t=(i,4)) tg tg w w':=Bn d ht;have hp:=h.wp;obtain⟨vD,hD⟩:=hp.kX;refine⟨m,h.two,h.st.moves m (fun e=>by cases e) (fun e=>by cases e),⟨hp.tree.moves m (fun e=>by cases e),hp.jE.moves m (fun e=>by cases e),hp.jF.moves m (fun e=>by cases e),⟨ht,⟨n,hn,hm.congr (fun x _=>HY _ _ _ _ _)⟩,fun x f hx=>y4 b hg c hx⟩,⟨vD,hD.moves m (fun e=>by cases e)⟩,hp.files.moves m (fun e=>by cases e),fun x f hx=>?_,hp.opens.moves m (fun e=>by cases e) (fun e=>by cases e),⟨hp.ok.root,hp.ok.od⟩⟩⟩;rcases qy hx with⟨_,h1⟩|⟨_,_,h1⟩
 ·exact hp.held _ f h1
 ·exact hp.held _ f h1
def y5 (vD:eB->Value)(src a:eB):eB->Value:=fun x=>if a <+: x then vD (src++x.drop a.length)else vD x
theorem CH{tg:eM}{w w':World}{g:WG}{lim n:Nat}{vD:eB->Value}(h:eH tg w s i p B ei g lim)(hD:eZ tg w i B g.ft.od lim vD){src a:eB}(o:Good a)(q:∀x f,src <+: x->g.ft.od x=some f->a.length+(x.length-src.length)<=5)(hn:n<=lim)(hm:gm w' B.oD n (qr (fun p=>(g.ft.od p).map fun _=>vD p) src a))(d:w.grownBy w' (some B.oD)):
  eo (fun t=>t=(i,5)) tg tg w w'/\eH tg w' s i p B ei { g with ft:={ g.ft with od:=qr g.ft.od src a } } lim:=by
 obtain⟨J,_,u⟩:=hD.map;obtain⟨K,L,v⟩:=u.isMap;have m:eo (fun t=>t=(i,5)) tg tg w w':=Bn d hD.tag;have hv:∀x es,qr g.ft.od src a x=some es->∃y,g.ft.od y=some es/\y5 vD src a x=vD y/\((a <+: x/\y=src++x.drop a.length)\/(¬a <+: x/\¬src <+: x/\y=x)):=by
  intro x es hx;rcases qy hx with⟨hd,h1⟩|⟨hd,hs,h1⟩
  ·exact⟨_,h1,by unfold y5;rw[fY hd],.inl ⟨hd,rfl⟩⟩
  ·exact⟨_,h1,by unfold y5;rw[eJ hd],.inr ⟨hd,hs,rfl⟩⟩
 have A:eZ tg w' i B (qr g.ft.od src a) lim (y5 vD src a):=by
  refine⟨hD.tag,⟨n,hn,hm.congr (fun x _=>?_)⟩,fun x es hx=>?_,fun x es hx=>?_,fun x y ex j C hx D h1 h2=>?_⟩
  ·unfold qr y5
   by_cases hd:a <+: x
   ·rw[fY hd,fY hd,fY hd]
   ·rw[eJ hd,eJ hd,eJ hd]
    split<;>rfl
  ·obtain⟨y,h1,_,_⟩:=hv x es hx
   exact⟨y4 o (fun p z E=>(hD.good p z E).1) q hx,(hD.good y es h1).2⟩
  ·obtain⟨y,h1,h2,_⟩:=hv x es hx
   rw[h2];exact(hD.row y es h1).uw v d
  ·obtain⟨F,a1,a2,a3⟩:=hv x ex hx
   obtain⟨G,H,I,k⟩:=hv y j D;rw[a2]at h1;rw[I]at h2;have e:=hD.inj F G ex j C a1 H h1 h2;rcases a3 with⟨⟨r,rfl⟩,c⟩|⟨_,hs,c⟩
   ·rcases k with⟨⟨t,rfl⟩,b⟩|⟨_,l,b⟩
    ·rw[nv]at c b
     rw[c,b]at e;rw[BO e]
    ·exfalso
     apply l;rw[<-b,<-e,c];exact kV _ _
   ·rcases k with⟨⟨t,rfl⟩,b⟩|⟨_,l,b⟩
    ·exfalso
     apply hs;rw[<-c,e,b];exact kV _ _
    ·rw[<-c,<-b,e]
 refine⟨m,h.od m (io _) A (fun x es hx=>?_)⟩;obtain⟨y,h1,_,_⟩:=hv x es hx;exact h.wp.ok.od y es h1
end
end Go.Proofs.YtlgidcmmgohagaaGreat
