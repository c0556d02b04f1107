/- What is proved here: Open of a Ss tree. -/
import Derived.Test.YtlgidcmmgohagaaGreatFileM20
import Derived.Test.YtlgidcmmgohagaaGreatFileM14
import Derived.Deep.RegionHeld3
namespace Go.Proofs.YtlgidcmmgohagaaGreat
open Go.RowKit Go.Sort Go.Shelf Go.Proofs.Tryz
set_option linter.unusedVariables false
set_option maxRecDepth 100000
set_option maxHeartbeats 16000000
variable {r:eB}{t t':LT}{fg pl:Int}{ei:List Ob}{d n:eu}{b f i k lim L3:Nat}{fs' H9:FS}{W w w':World}{tg ey:eM}{ks:Kids}{g:WG}{cr ex:Bool}{o:Obj}
def uE (ks:Kids)(n:eu)(ex cr:Bool):Int:=
 match g8 ks n with
 |some c=>if c.kind=2 then 7 else if ex=true then 6 else 0
 |none=>if(ex ||cr)=true then(if 16<=ks.length then 11 else 0)else 4
def Ia (ei:List Ob)(sz:Nat)(fl:Nat->Option (Int×eu))(ks:Kids)(t:LT)(q:eB)(n:eu)(a:Bool)(f:Nat)(vB:Nat->Option (Int×eu))(t':LT):Prop:=
 (g8 ks n=none/\sz<=f/\t'=m1 ei (fun ks=>n7 ks n (.held f)) q t/\vB=m8 fl f (some (0,⟨#[]⟩)))\/
 (g8 ks n=some (.held f)/\t'=t/\vB=if a=true then m8 fl f (some (0,⟨#[]⟩))else fl)\/
 (∃id,g8 ks n=some (.file id)/\sz<=f/\t'=m1 ei (fun ks=>n7 ks n (.held f)) q t/\vB=if a=true then m8 (m8 fl f (some (id,⟨#[]⟩))) f (some (0,⟨#[]⟩))else m8 fl f (some (id,⟨#[]⟩)))
theorem y7(h:g8 ks n=none):uE ks n ex cr=if(ex ||cr)=true then(if 16<=ks.length then 11 else 0)else 4:=by unfold uE;rw[h]
theorem y8{c:LT}(h:g8 ks n=some c):uE ks n ex cr=if c.kind=2 then 7 else if ex=true then 6 else 0:=by unfold uE;rw[h]
theorem E2(t:Nat×Nat)(h:t=(i,6)):Mine i t:=.inr (by rw[h])
section
variable {s i p:Nat}{B:WB}{ei:List Ob}
def O6 (s i p:Nat)(B:WB)(ei:List Ob)(tg:eM)(w w':World)(g:WG)(t:LT)(q:eB)(n:eu)(ex cr b:Bool)(fs':FS)(er:Int)(ks:Kids)(lim:Nat)(a:Ending):Prop:=
 (er≠0/\a=.returned (.tuple #[.pointer none,.int .i64 er])/\Left s i p B ei tg w w' g fs' t lim)\/
 (er=0/\uE ks n ex cr≠0/\a=.returned (.tuple #[.pointer none,.int .i64 (uE ks n ex cr)])/\Left s i p B ei tg w w' g fs' t lim)\/
 (er=0/\uE ks n ex cr=0/\∃f ey iM vB t',a=.returned (.tuple #[.pointer (some ⟨f,0,none⟩),.int .i64 0])/\eo (Mine i) tg ey w w'/\eH ey w' s i p B ei { g with fs:=fs',ft:=iM,fl:=vB } lim/\Flat ei t' iM/\eL ei 5 t'/\Ia ei w.heap.size g.fl ks t q n b f vB t')
theorem L5(h:eH tg w s i p B ei g lim)(hl:lim+600<1099511627776)(hF:Flat ei t g.ft)(ap:eL ei 5 t)(hp:Good (r.reverse++[n]))(fg:Int)(ex cr aa:Bool)(m:(bits BinOp.and IntKind.i64 fg 8 != 0)=ex)(G:(bits BinOp.and IntKind.i64 fg 4 != 0)=cr)(P:(bits BinOp.and IntKind.i64 fg 16 != 0)=aa):
  eK 120 #[fj B.bt,.agg (et (r.reverse++[n])),ed fg] w fun bd w'=>O6 s i p B ei tg w w' g t r.reverse n ex cr aa (kq ei t g.fs r).1 (kq ei t g.fs r).2.1 (kq ei t g.fs r).2.2 (lim+300) bd:=by
 have hS:=h.st.sound;have hi:=h.two;have hq:Good r.reverse:=by have:=hp.dropLast;rwa [oy]at this
 have aM:ez n=true:=hp.val n (by simp);have bw:r.length<=4:=by have:=hp.len;simp at this;omega
 have M:=fun W (aq:gS w W)=>n4 (s:=s) (i:=i) (p:=p) (B:=B) (ei:=ei) r tg W g lim (h.below aq) (by omega) hq;simp only[jb hS hF ap g.fs r]at M;have ab:=lq (ei:=ei) (t:=t) (fs:=g.fs) (r:=r);generalize kq ei t g.fs r=a at M ab ⊢;obtain⟨fs',er,ks⟩:=a;simp only at M ab ⊢;have heq:∀W,(Op.equalIn 10000 147 (hP (r.reverse++[n])) (hP [])).run prog W=.ok false W:=fun W=>by
  have:=sf hp Good.nil W
  rw[m6 (by simp)]at this;exact this
 have ac:=fun W=>px W;have ad:=fun W=>xr (r.reverse++[n]) hp W;have ae:=fun W=>iB (r.reverse++[n]) hp (by simp) W;rw[oy]at ad;simp only[BQ]at ae;obtain⟨x,y,z,A,C,af⟩:∃x y z A C,et (r.reverse++[n])=(ii x y z A C):=⟨_,_,_,_,_,rfl⟩;obtain⟨bx,bz,bA,bB,bC,aN⟩:∃x y z A C,et r.reverse=(ii x y z A C):=⟨_,_,_,_,_,rfl⟩;unfold hP at ac heq ad ae;simp only[af,aN]at heq ad ae M;rw[af];unfold et at ac heq;simp only[k8]at ac heq;have ar:Hid _:=af;have au:Hid _:=h;have H:Hid _:=hF;have q:Hid _:=ap;have ag:Hid _:=hS;have be:Hid _:=M;have bf:Hid _:=ab;have av:Hid _:=hp;have aw:Hid _:=And.intro m (And.intro G P);clear h hF ap hS af aN M ab hp m G P;go_enter func120,ntmps120;go_wp2
 go_region_with(go_at_call 75;refine(ac _).mono ?_;rintro e bD ⟨rfl,ah⟩;obtain⟨aO,bg⟩:=gc ah;have aP:=gD ah;have aQ:=em (eQ ((i7 w.heap.size w).alloc (io _) _)) ah)
 all_goals
  go_wp2_with(go_at_call 132;refine(ad _).mono ?_;rintro e bh ⟨rfl,ai⟩;have aR:=fun o=>(gc ai).1 w.heap.size o aP;have ax:=kv aP ai.size;have ay:=em aQ ai);refine g7 (be.out bh ay) ?_;rintro e w3 ⟨v,rfl,aS,Q,aT,az⟩;have aU:=py (b:=w.heap.size) hi (Q.mono (fun _ h=>h.mine)) ax (au.out.st.fresh _ (io _));have aV:=jn ay (Q.mono (fun _ h=>h.mine));have aA:w.heap.size<w3.heap.size:=kv ax Q.size;have bE:aS w.heap.size=(0,0):=(Q.tags _ ax).trans (au.out.st.fresh _ (io _));have aW:Hid _:=aT;have aX:Hid _:=aV;have aY:Hid (pQ aS w3 i v (ks.map kB)):=az;have bi:Hid (oa w3 w.heap.size x y z A C):=by
   obtain⟨_,q0,D,R,aj,bj,_⟩:=oU (pM w (.cells (ii x y z A C) 147));have bk:∀o,w3.cell? (eb w.heap.size o)=(w.alloc (.cells (ii x y z A C) 147)).cell? (eb w.heap.size o):=fun o=>((aU o).trans (aR o)).trans ((aO _ o (by simp)).trans rfl);exact oa.keep (w:=w.alloc (.cells (ii x y z A C) 147)) ⟨q0,D,R,aj,bj⟩ bk
  obtain⟨la,lc,rfl⟩:=az.len;rw[kU];clear aT az Q aV aU aR aO bg ah ai aQ ay;obtain⟨bF,a1,a2,a3,bG⟩:=bi.out;by_cases her:er=0
  ·subst her
   obtain⟨⟨d,ak,hk⟩,aZ,aB⟩:=bf.out rfl;obtain⟨D,R,aj⟩:=jp ag.out (mf ag.out _ q.out ak).2.1 hk;have aC:eF (ks.map kB):=by rw[jy];exact iZ _ D
   have aD:(ks.map kB).length<=16:=by rw[kU];exact R
   have al:=fun W2 (aq:gS w3 W2)=>H0 (aY.out.below aq).1 n aC aD;rw[kU]at al;have a0:Hid _:=al;have l:Hid _:=And.intro ak (And.intro hk aB);have bl:Hid _:=lr D n;obtain⟨m,G,P⟩:=aw.out;go_wp2_with fail;refine(ae _).mono ?_;rintro e bH ⟨rfl,aE⟩;have k4:=fun o=>(gc aE).1 w.heap.size o aA;go_wp2_with fail;refine g7 (a0.out _ aE) ?_;rintro e w5 ⟨rfl,bm⟩;have N:=em aE bm;have k5:=fun o=>(gc N).1 w.heap.size o aA;have aF:=kv aA N.size;have I:Hid _:=aX.out.trans (eo.ew N);have J:Hid _:=aW.out.below N;have aG:Hid (Left s i p B ei tg w w5 g fs' t (lim+300)):=vy I.out (J.out.mono (by first|omega|(simp;omega))) H.out q.out;cases E:g8 ks n with
   |none=>
    rw[show g9 (ks.map kB) n=false by rw[xn,<-lr D,E];rfl];have j:Hid _:=y7 E (ex:=ex) (cr:=cr);have u:Hid _:=E;clear al ak hk aB aZ aC aD D R aj E aw;cases k:(ex ||cr) with
    |true=>
     rw[k,fY rfl]at j;have a4:ex=true\/(ex=false/\cr=true):=by cases ex<;>simp_all
     clear k;by_cases NE:16<=ks.length
     ·rw[fY NE]at j
      have bn:(16:Int)<=(ks.length:Int):=(by omega);have bo:=fun W=>E1 B.bt x y z A C (ks.length:Int) W bn;rcases a4 with hx|⟨hx,hc⟩
      case' inl=>rw[hx]at m
      case' inr=>rw[hx]at m;rw[hc]at G
      all_goals
       go_wp2_with(go_at_call 177;refine g7 (bo _) ?_;rintro e w6 ⟨rfl,K⟩);go_ret2;exact .inr (.inl ⟨rfl,by rw[j.out];decide,by rw[j.out];rfl,vy (I.out.trans (eo.ew K)) ((J.out.below K).mono (by first|omega|(simp;omega))) H.out q.out⟩)
     ·rw[eJ NE]at j
      have a5:ks.length<16:=(by omega);have aH:=H8 J.out (by first|omega|(simp;omega)) H.out q.out av.out l.out.1 l.out.2.1 l.out.2.2 u.out a5 (ks.length:Int) (by omega);rw[ar.out]at aH;have bp:Hid _:=aH;clear aH;rcases a4 with hx|⟨hx,hc⟩
      case' inl=>rw[hx]at m
      case' inr=>rw[hx]at m;rw[hc]at G
      all_goals
       go_wp2_with(go_at_call 177;go_loud(refine g7 bp.out ?_;rintro e w6 ⟨f,am,an,rfl,ao,S,O,T⟩;have F:Hid _:=And.intro S (And.intro O T);clear S O T));go_ret2;exact .inr (.inr ⟨rfl,j.out,f,am,an,_,_,rfl,I.out.trans F.out.1,F.out.2.1.mono (by first|omega|(simp;omega)),F.out.2.2,CD ag.out q.out l.out.1 l.out.2.1 aM (by first|omega|(simp;omega)) (JJ _ _ _) (.inr a5),.inl ⟨u.out,pD (uQ aF) ao,rfl,rfl⟩⟩)
    |false=>
     rw[k,eJ (by simp)]at j;obtain⟨hx,hc⟩:ex=false/\cr=false:=by cases ex<;>cases cr<;>simp_all
     rw[hx]at m;rw[hc]at G;go_wp2;go_ret2;exact .inr (.inl ⟨rfl,by rw[j.out];decide,by rw[j.out];rfl,aG.out⟩)
   |some c=>
    rw[show g9 (ks.map kB) n=true by rw[xn,<-lr D,E];rfl];obtain⟨aI,a6⟩:=CE D E;obtain⟨bq,bI,a7,a8,br,U,e2⟩:=aY.out.at_ aI;clear br e2;rw[kU]at a7;rw[a6]at U;simp only at U;have j:Hid _:=y8 E (ex:=ex) (cr:=cr);have u:Hid _:=E;have bs:mr (ks.map kB) n<ks.length:=by simpa using aI
    generalize mr (ks.map kB) n=bt at U bs;cases a7;have a9:=sP c;generalize mC:c.kind=kc at U a9 j;have bJ:=((gc N).1 bq (bt*3+1) a8).trans U;have bK:=kv a8 N.size;clear al ak hk aB aZ aC aD D R aj E aw aI a6 a0;rcases a9 with rfl|rfl
    ·rw[eJ (by decide)]at j
     cases k:ex with
     |true=>
      rw[k]at m;rw[k,fY rfl]at j;go_wp2;go_ret2;exact .inr (.inl ⟨rfl,by rw[k,j.out];decide,by rw[k,j.out];rfl,aG.out⟩)
     |false=>
      rw[k]at m;rw[k,eJ (by decide)]at j;cases c with
      |dir d=>simp[LT.kind]at mC
      |own es=>simp[LT.kind]at mC
      |held f=>
       have bb:t.at ei (r.reverse++[n])=some (.held f):=(by rw[i1,l.out.1,my,h9,l.out.2.1,my,u.out,my,k0]);have F8:g.ft.of (r.reverse++[n])=some f:=by rw[H.out.of,bb];rfl
       obtain⟨bL,bu⟩:=au.out.wp.held _ _ F8;have L:=L0 J.out av.out F8;rw[ar.out]at L;have aJ:Hid _:=L;clear L bb F8;cases aK:cr<;>cases ht:aa<;>rw[aK]at G<;>rw[ht]at P
       all_goals
        go_wp2_with(first
         |(go_at_call 178;go_loud(refine g7 aJ.out ?_;rintro e w6 ⟨rfl,K⟩;have V:=vA (J.out.below K) bu;have aL:Hid _:=V;clear V))
         |(go_at_call 179;refine g7 aL.out ?_;rintro e bv ⟨rfl,X,Y⟩;have Z:Hid _:=And.intro X Y;clear X Y))
        go_ret2
        first
        |exact .inr (.inr ⟨rfl,by rw[k];exact j.out,f,_,g.ft,_,t,rfl,(I.out.trans (eo.ew K)).trans (Z.out.1.mono E2),Z.out.2.mono (by first|omega|(simp;omega)),H.out,q.out,.inr (.inl ⟨u.out,rfl,by rw[ht];rfl⟩)⟩)
        |exact .inr (.inr ⟨rfl,by rw[k];exact j.out,f,_,g.ft,_,t,rfl,I.out.trans (eo.ew K),(J.out.below K).mono (by first|omega|(simp;omega)),H.out,q.out,.inr (.inl ⟨u.out,rfl,by rw[ht];rfl⟩)⟩)
      |file id=>
       have L:=L1 J.out (by first|omega|(simp;omega)) H.out q.out av.out l.out.1 l.out.2.1 l.out.2.2 u.out;rw[ar.out]at L;have aJ:Hid _:=L;clear L;cases aK:cr<;>cases ht:aa<;>rw[aK]at G<;>rw[ht]at P
       all_goals
        go_wp2_with(first
         |(go_at_call 178;go_loud(refine g7 aJ.out ?_;rintro e w6 ⟨f,am,an,rfl,ao,S,O,T⟩;have V:=vA O (il _ _ _);have aL:Hid _:=V;clear V;have F:Hid _:=And.intro S (And.intro O T);clear S O T))
         |(go_at_call 179;refine g7 aL.out ?_;rintro e bv ⟨rfl,X,Y⟩;have Z:Hid _:=And.intro X Y;clear X Y))
        go_ret2;have bc:=CD ag.out q.out l.out.1 l.out.2.1 aM (by first|omega|(simp;omega)) (JJ ei _ f) (.inl (by rw[<-bl.out,u.out];rfl))
        first
        |exact .inr (.inr ⟨rfl,by rw[k];exact j.out,f,am,an,_,_,rfl,(I.out.trans F.out.1).trans (Z.out.1.mono E2),Z.out.2.mono (by first|omega|(simp;omega)),F.out.2.2,bc,.inr (.inr ⟨id,u.out,pD (uQ aF) ao,rfl,by rw[ht];rfl⟩)⟩)
        |exact .inr (.inr ⟨rfl,by rw[k];exact j.out,f,am,an,_,_,rfl,I.out.trans F.out.1,F.out.2.1.mono (by first|omega|(simp;omega)),F.out.2.2,bc,.inr (.inr ⟨id,u.out,pD (uQ aF) ao,rfl,by rw[ht];rfl⟩)⟩)
    ·rw[fY rfl]at j
     go_wp2;go_ret2;exact .inr (.inl ⟨rfl,by rw[j.out];decide,by rw[j.out];rfl,aG.out⟩)
  ·have bM:(er==0)=false:=by simpa using her
   go_wp2;go_ret2;exact .inl ⟨her,rfl,vy aX.out (aW.out.mono (by first|omega|(simp;omega))) H.out q.out⟩
end


theorem jg.below{c:Nat->Option Nat}(h:jg w b c)(a:gS w w'):jg w' b c:=
 ⟨kv h.1 a.size,fun k hk=>((gc a).1 b _ h.1).trans (h.2.1 k hk),fun o=>((gc a).2 b o h.1).trans (h.2.2 o)⟩
theorem E3(wb bt:Nat)(l:eB)(hl:Good l)(er:Int)(R:World->Prop)(w:World)(h:wb<w.heap.size)(c0:w.cell? (eb wb 0)=some (fj bt))
  (hc:∀W,gS w W->eK 70 #[fj bt,.agg (et l)] W fun e w'=>e=.returned (ed er)/\R w'):
  eK 31 #[fj wb,.string (i6 l)] w fun e w'=>e=.returned (ed er)/\R w':=by
 have M2:=fun W=>Lq l hl W;obtain⟨b,c,d,f,g,i⟩:∃b c d f g,et l=(ii b c d f g):=⟨_,_,_,_,_,rfl⟩;unfold hP at M2;simp only[i]at M2 hc;have j:Hid _:=hc;clear hc i hl;generalize i6 l=p at M2 ⊢;go_enter func31,ntmps31;go_wp2_with(go_at_call 69;refine g7 (M2 _) ?_;rintro e m ⟨rfl,a⟩;have d0:=((gc a).1 wb 0 h).trans c0;have q:=kv h a.size);have k:=j.out (m.alloc (.cells (ii b c d f g) 147)).drew (eQ (a.alloc a.size _));have n:Hid _:=k;clear k j
 go_region_with(go_at_call 70;refine g7 n.out ?_;rintro e r ⟨rfl,o⟩)
 all_goals
  go_wp2;go_ret;exact⟨rfl,o⟩
theorem Br(wb bt:Nat)(l:eB)(hl:Good l)(er:Int)(R:World->Prop)(w:World)(h:wb<w.heap.size)(c0:w.cell? (eb wb 0)=some (fj bt))
  (hc:∀W,gS w W->eK 71 #[fj bt,.agg (et l)] W fun e w'=>e=.returned (ed er)/\R w'):
  eK 32 #[fj wb,.string (i6 l)] w fun e w'=>e=.returned (ed er)/\R w':=by
 have M2:=fun W=>Lq l hl W;obtain⟨b,c,d,f,g,i⟩:∃b c d f g,et l=(ii b c d f g):=⟨_,_,_,_,_,rfl⟩;unfold hP at M2;simp only[i]at M2 hc;have j:Hid _:=hc;clear hc i hl;generalize i6 l=p at M2 ⊢;go_enter func32,ntmps32;go_wp2_with(go_at_call 69;refine g7 (M2 _) ?_;rintro e m ⟨rfl,a⟩;have d0:=((gc a).1 wb 0 h).trans c0;have q:=kv h a.size);have k:=j.out (m.alloc (.cells (ii b c d f g) 147)).drew (eQ (a.alloc a.size _));have n:Hid _:=k;clear k j
 go_region_with(go_at_call 71;refine g7 n.out ?_;rintro e r ⟨rfl,o⟩)
 all_goals
  go_wp2;go_ret;exact⟨rfl,o⟩
theorem Bt(wb bt:Nat)(l m:eB)(hl:Good l)(hm:Good m)(er:Int)(R:World->Prop)(w:World)(k:wb<w.heap.size)(c0:w.cell? (eb wb 0)=some (fj bt))
  (hc:∀W,gS w W->eK 72 #[fj bt,.agg (et l),.agg (et m)] W fun e w'=>e=.returned (ed er)/\R w'):
  eK 33 #[fj wb,.string (i6 l),.string (i6 m)] w fun e w'=>e=.returned (ed er)/\R w':=by
 have M2:=fun W=>Lq l hl W;have h:=fun W=>Lq m hm W;obtain⟨a,b,c,d,f,q⟩:∃a b c d f,et l=(ii a b c d f):=⟨_,_,_,_,_,rfl⟩;obtain⟨d0,d1,d2,d3,d4,hQ⟩:∃a b c d f,et m=(ii a b c d f):=⟨_,_,_,_,_,rfl⟩;unfold hP at M2 h;simp only[q]at M2 hc;simp only[hQ]at h hc;have r:Hid _:=hc;clear hc q hQ hl hm;generalize i6 l=A at M2 ⊢;generalize i6 m=B at h ⊢;go_enter func33,ntmps33;go_wp2_with fail;refine g7 (M2 w) ?_;rintro e i ⟨rfl,j⟩;have u:=((gc j).1 wb 0 k).trans c0;have C:=kv k j.size;have n:gS w (i.alloc (.cells (ii a b c d f) 147)):=j.alloc j.size _;have s:i.heap.size<(i.alloc (.cells (ii a b c d f) 147)).heap.size:=by simp
 have v:wb<(i.alloc (.cells (ii a b c d f) 147)).heap.size:=by simp;omega
 go_wp2_with fail;refine g7 (h _) ?_;rintro e x ⟨rfl,g⟩;have f0:=((gc (em n g)).1 wb 0 k).trans c0;have D:=fun o=>(gc g).1 i.heap.size o s
 have E:=kv v g.size;have F:=kv s g.size;have p:=em n g;have t:=r.out (x.alloc (.cells (ii d0 d1 d2 d3 d4) 147)).drew (eQ (p.alloc p.size _));have y:Hid _:=t;clear t r M2 h j g n p u;go_wp2
 go_region_with(go_at_call 72;refine g7 y.out ?_;rintro e w3 ⟨rfl,z⟩)
 all_goals
  go_wp2;go_ret;exact⟨rfl,z⟩
theorem wM(wb bt k:Nat)(b:Nat->Option Nat)(fg:Int)(l:eB)(hl:Good l)(er:Int)(her:er≠0)(R:World->Prop)(w:World)(ht:jg w wb b)(c0:w.cell? (eb wb 0)=some (fj bt))(hk:k<8)(h0:b k=none)(h1:∀j,j<k->b j≠none)
  (hv:∀W,eK 118 #[ed fg] W (tz (.bool true) W))
  (hc:∀W,gS w W->eK 120 #[fj bt,.agg (et l),ed fg] W fun e w'=>e=.returned (.tuple #[.pointer none,ed er])/\R w'):
  eK 63 #[fj wb,.string (i6 l),ed fg] w fun e w'=>e=.returned (.tuple #[ed 0,ed er])/\R w':=by
 have M2:=fun W=>Lq l hl W;have i:=ht.1;have u:(er==0)=false:=by simpa using her
 obtain⟨c,d,f,g,h,m⟩:∃c d f g h,et l=(ii c d f g h):=⟨_,_,_,_,_,rfl⟩;unfold hP at M2;simp only[m]at M2 hc;have pN:=fun W (p:gS w W)=>A8 wb k b W (ht.below p) hk h0 h1;have q:Hid _:=pN;have n:Hid _:=hc;clear hc m hl pN ht h0 h1;generalize i6 l=v at M2 ⊢;go_enter func63,ntmps63;go_wp2_with(first
  |(go_at_call 69;refine g7 (M2 _) ?_;rintro e r ⟨rfl,a⟩;have x:=((gc a).1 wb 0 i).trans c0;have y:=kv i a.size)
  |(go_at_call 118;refine g7 (hv _) ?_;rintro e z ⟨rfl,rfl⟩)
  |(go_at_call 119;go_loud(refine g7 (q.out _ (a.alloc a.size _)) ?_;rintro e w3 ⟨rfl,rfl⟩)))
 have o:=n.out (r.alloc (.cells (ii c d f g h) 147)).drew (eQ (a.alloc a.size _));have s:Hid _:=o;clear o n
 go_region_with(go_at_call 120;refine g7 s.out ?_;rintro e A ⟨rfl,t⟩)
 all_goals
  go_wp2;go_ret2;exact⟨rfl,t⟩
theorem Ib(wb bt k:Nat)(c:Nat->Option Nat)(fg:Int)(l:eB)(hl:Good l)(S:Nat->World->Prop)(w:World)(ht:jg w wb c)(c0:w.cell? (eb wb 0)=some (fj bt))(hk:k<8)(h0:c k=none)(h1:∀j,j<k->c j≠none)
  (hv:∀W,eK 118 #[ed fg] W (tz (.bool true) W))
  (hc:∀W,gS w W->eK 120 #[fj bt,.agg (et l),ed fg] W fun e w'=>∃f,e=.returned (.tuple #[fj f,ed 0])/\S f w')
  (hS:∀f w',S f w'->jg w' wb c):
  eK 63 #[fj wb,.string (i6 l),ed fg] w fun e w'=>e=.returned (.tuple #[ed (k:Int),ed 0])/\∃f a,S f a/\w'=(a.setCell (eb wb (1+k)) (fj a.heap.size)).alloc (.cells #[fj f,ed fg,ed 0] 277):=by
 have M2:=fun W=>Lq l hl W;have o:=ht.1;obtain⟨d,g,i,m,n,p⟩:∃d g i m n,et l=(ii d g i m n):=⟨_,_,_,_,_,rfl⟩;unfold hP at M2;simp only[p]at M2 hc;have pN:=fun W (v:gS w W)=>A8 wb k c W (ht.below v) hk h0 h1;have q:=fun f a (h:S f a)=>Lr wb k f fg _ a (hS f a h).1 ((hS f a h).2.1 k hk) ((hS f a h).2.2 _) hk;have x:Hid _:=pN;have r:Hid _:=hc;have y:Hid _:=q;clear hc p hl pN ht h0 h1 q hS;generalize i6 l=B at M2 ⊢;go_enter func63,ntmps63;go_wp2_with(first
  |(go_at_call 69;refine g7 (M2 _) ?_;rintro e a ⟨rfl,b⟩;have C:=((gc b).1 wb 0 o).trans c0;have D:=kv o b.size)
  |(go_at_call 118;refine g7 (hv _) ?_;rintro e E ⟨rfl,rfl⟩)
  |(go_at_call 119;go_loud(refine g7 (x.out _ (b.alloc b.size _)) ?_;rintro e w3 ⟨rfl,rfl⟩)))
 have s:=r.out (a.alloc (.cells (ii d g i m n) 147)).drew (eQ (b.alloc b.size _));have z:Hid _:=s;clear s r
 go_region_with(go_at_call 120;refine g7 z.out ?_;rintro e A ⟨f,rfl,t⟩;have u:Hid _:=t;clear t)
 all_goals
  go_wp2_with(go_at_call 121;go_loud(refine g7 (y.out _ _ u.out) ?_;rintro e w5 ⟨rfl,rfl⟩));go_ret2;exact⟨rfl,f,A,u.out,rfl⟩
theorem CK(wb k o:Nat)(n:Int)(d:eu)(er:Int)(R:World->Prop)(w:World)(hc:w.cell? (eb wb (1+k))=some (fj o))(hk:k<8)
  (hr:eK 125 #[fj o,ed n] w fun e w'=>e=.returned (.tuple #[.string d,ed er])/\R w'):
  eK 66 #[fj wb,ed (k:Int),ed n] w fun e w'=>e=.returned (.tuple #[.string d,ed er])/\R w':=by
 have a:=qm wb k o w hc hk;go_enter func66,ntmps66;go_wp2_with(first
  |(go_at_call 122;refine a.mono ?_;rintro e b ⟨rfl,rfl⟩)
  |(go_at_call 125;refine hr.mono ?_;rintro e b ⟨rfl,c⟩))
 go_ret2;exact⟨rfl,c⟩
theorem O7(wb k o:Nat)(d:eu)(er:Int)(R:World->Prop)(w:World)(hc:w.cell? (eb wb (1+k))=some (fj o))(hk:k<8)
  (hr:eK 123 #[fj o,.string d] w fun e w'=>e=.returned (ed er)/\R w'):
  eK 64 #[fj wb,ed (k:Int),.string d] w fun e w'=>e=.returned (ed er)/\R w':=by
 have a:=qm wb k o w hc hk;go_enter func64,ntmps64;go_wp2_with(first
  |(go_at_call 122;refine a.mono ?_;rintro e b ⟨rfl,rfl⟩)
  |(go_at_call 123;refine hr.mono ?_;rintro e b ⟨rfl,c⟩))
 go_ret;exact⟨rfl,c⟩
theorem O8(wb k o:Nat)(w:World)(a:wb<w.heap.size)(hc:w.cell? (eb wb (1+k))=some (fj o))(hf:w.frozen? (eb wb (1+k))=false)(hk:k<8):
  eK 65 #[fj wb,ed (k:Int)] w fun e w'=>e=.returned (ed 0)/\w'=w.setCell (eb wb (1+k)) (.pointer none):=by
 have b:=EH wb k o w a hc hf hk;go_enter func65,ntmps65;go_wp2_with(go_at_call 124;refine b.mono ?_;rintro e c ⟨rfl,rfl⟩);go_ret;exact⟨rfl,rfl⟩
theorem fO.y9{s p:Nat}{got:List Int}{brk:Bool}(h:fO tg w s p ei got brk lim){id:Int}(hk:eC ei id=1):(bytesOf ei id).size<=256:=by
 obtain⟨h1,h2⟩:=ur (ei:=ei) (id:=id) (by rw[hk];decide);obtain⟨j,rfl⟩:∃j:Nat,id=(j:Int)+1:=⟨(id-1).toNat,by omega⟩;have hj:j<ei.length:=by omega
 obtain⟨_,ft,_,⟨a,cap,bf,bd,Df,Dd,i⟩,_⟩:=h;rw[yM hj];rw[o0 hj]at hk;rcases i.xe ei[j] (iF hj) with⟨_,_,h3⟩|⟨h3,_⟩
 ·exact h3
 ·rw[hk]at h3;cases h3
theorem E4{fl:Nat->Option (Int×eu)}{fs H9:FS}(h:po ei fl fs f=(H9,0,d)):po ei fl H9 f=(H9,0,d):=by
 unfold po at h ⊢;cases hf:fl f with
 |none=>rw[hf]at h;simp only[rN]at h ⊢;exact⟨trivial,trivial,h.2.2⟩
 |some x=>
  obtain⟨id,d0⟩:=x;rw[hf]at h;simp only at h ⊢;by_cases hid:id=0
  ·rw[fY hid]at h ⊢
   simp only[rN]at h ⊢;exact⟨trivial,trivial,h.2.2⟩
  ·rw[eJ hid]at h ⊢
   rcases FS.vV fs id with⟨h1,h2,h3⟩|⟨h1,_⟩
   ·rw[fY h1]at h
    simp only[rN]at h;obtain⟨a,_,e2⟩:=h;rw[a]at h3;have hg:H9.fA id=(H9,true):=by unfold FS.fA;rw[fY h3]
    rw[hg,fY rfl,e2]
   ·rw[eJ (by rw[h1];decide)]at h
    simp only[rN]at h;omega
section
variable {s i p:Nat}{B:WB}{ei:List Ob}
theorem rB(h:eH tg w s i p B ei g lim)(b:qB ei g.fl){er:Int}(a:po ei g.fl g.fs f=(H9,er,d)):d.size<=256:=by
 unfold po at a;cases hf:g.fl f with
 |none=>rw[hf]at a;simp only[rN]at a;rw[<-a.2.2];simp[ByteArray.size]
 |some x=>
  obtain⟨id,d0⟩:=x;rw[hf]at a;simp only at a;by_cases hid:id=0
  ·rw[fY hid]at a
   simp only[rN]at a;rw[<-a.2.2];exact(h.wp.files f id d0 hf).2.2
  ·rw[eJ hid]at a
   split at a
   ·simp only[rN]at a
    rw[<-a.2.2];exact h.st.y9 (b f id d0 hf hid)
   ·simp only[rN]at a
    rw[<-a.2.2];simp[ByteArray.size]
theorem ub(h:eH tg w s i p B ei g lim)(hk:g.op k=some (b,f,fg,pl)):b<w.heap.size/\w.cell? (eb b 0)=some (fj f)/\w.cell? (eb b 1)=some (ed fg)/\w.cell? (eb b 2)=some (ed pl)/\(∀o,w.frozen? (eb b o)=false):=by
 obtain⟨_,a,_⟩:=h.wp.opens.at_ k b f fg pl hk;exact⟨(lF.1 a).1,by simp[World.cell?,a,ptr],by simp[World.cell?,a],by simp[World.cell?,a],fun o=>by simp[World.frozen?,a]⟩
theorem za(h:eH tg w s i p B ei g lim){x:Int×eu}(hf:g.fl f=some x):f<w.heap.size/\(∃x y z,w.cell? (eb f 0)=some x/\w.cell? (eb f 1)=some y/\w.cell? (eb f 2)=some z)/\∀o,w.frozen? (eb f o)=false:=by
 obtain⟨id,d⟩:=x;obtain⟨_,a,_⟩:=h.wp.files f id d hf;exact⟨(lF.1 a).1,⟨_,_,_,by simp[World.cell?,a];rfl,by simp[World.cell?,a];rfl,by simp[World.cell?,a];rfl⟩,fun o=>by simp[World.frozen?,a]⟩
theorem O9(t:Nat×Nat)(h:t=(i,7)):Mine i t:=.inr (by rw[h])
theorem Pa(h:eH tg w s i p B ei g lim)(hl:lim<1099511627776)(c:qB ei g.fl){fg pl n:Int}(hk:g.op k=some (b,f,fg,pl))(q:(bits BinOp.and IntKind.i64 fg 1==0)=false)(hn:1<=n)(hp:pl<256)(j:po ei g.fl g.fs f=(H9,0,d)):
  eK 125 #[fj b,ed n] w fun e w'=>e=.returned (.tuple #[.string (d.extract (min pl.toNat d.size) (min (min pl.toNat d.size+(min n (256-pl)).toNat) d.size)),ed 0])/\
   ∃ey,eo (Mine i) tg ey w w'/\eH ey w' s i p B ei { g with fs:=H9,op:=m8 g.op k (some (b,f,fg,pl+(d.extract (min pl.toNat d.size) (min (min pl.toNat d.size+(min n (256-pl)).toNat) d.size)).size)) } (lim+1):=by
 obtain⟨F,c0,c1,c2,_⟩:=ub h hk;obtain⟨_,_,⟨x,hx⟩,_,_,r,_⟩:=h.wp.opens.at_ k b f fg pl hk;have t:=rB h c j;have l:=lR h hl c hx;rw[j]at l;refine(Q7 b f fg pl n d _ w c0 c1 c2 q hn r hp t l (fun u v=>?_)).mono ?_
 ·obtain⟨m,o,a⟩:=v
  obtain⟨y,_,_,z,A⟩:=ub a hk;exact⟨y,z,A 2⟩
 ·rintro e w' ⟨C,u,⟨m,o,a⟩,rfl⟩
  have G:((d.extract (min pl.toNat d.size) (min (min pl.toNat d.size+(min n (256-pl)).toNat) d.size)).size:Int)<=256-pl:=by
   rw[Qu];omega
  obtain⟨D,E⟩:=a.place hk (Ga:=pl+(d.extract (min pl.toNat d.size) (min (min pl.toNat d.size+(min n (256-pl)).toNat) d.size)).size) (by omega) (by omega);exact⟨C,m,(o.mono (fun _ h=>h.mine)).trans (D.mono O9),E⟩
theorem L6(h:eH tg w s i p B ei g lim)(hl:lim+2<1099511627776)(o:qB ei g.fl){k b f a:Nat}{d old:eu}(hk:g.op k=some (b,f,fg,pl))(F:(bits BinOp.and IntKind.i64 fg 2==0)=false)(hd:1<=d.size)(h0:0<=xc fg pl 0)(h1:xc fg pl 0+d.size<=256)(q:po ei g.fl g.fs f=(H9,0,old))(G:xc fg pl old.size=(a:Int))(Q:a+d.size<=256):
  eK 123 #[fj b,.string d] w fun e w'=>e=.returned (ed 0)/\
   ∃ey,eo (Mine i) tg ey w w'/\eH ey w' s i p B ei { g with fs:=H9,fl:=m8 g.fl f (some (0,mo old d a)),op:=m8 g.op k (some (b,f,fg,(a:Int)+d.size)) } (lim+2):=by
 obtain⟨R,c0,c1,c2,_⟩:=ub h hk;obtain⟨_,_,⟨x,hx⟩,_,_,S,_⟩:=h.wp.opens.at_ k b f fg pl hk;have H:=rB h o q;have A:=lR h (by omega) o hx;rw[q]at A;have I:=E4 q;have J:(mo old d a).size<=256:=by
  have:(mo old d a).size=(ql old.data.toList d.data.toList a).length:=by simp[mo,ByteArray.size]
  rw[this,rW,<-th,<-th];omega
 refine(Oy b f fg pl (a:Int) old d (fun n=>iq s i p B ei tg w n { g with fs:=H9 } (lim+1)) (fun j=>∃ey,eo (Mine i) tg ey w j/\eH ey j s i p B ei { g with fs:=H9,fl:=m8 g.fl f (some (0,mo old d a)) } (lim+2)) w c0 c1 c2 F hd h0 h1 G (by omega) (by omega) A (fun n r=>?_) (fun n r=>?_) (fun j hS=>?_)).mono ?_
 ·obtain⟨K,C,t⟩:=r
  obtain⟨_,e2,L,u,_⟩:=ub t hk;exact⟨e2,L,u⟩
 ·obtain⟨K,C,t⟩:=r
  have D:=lR t (by omega) o hx;have M:po ei g.fl ({ g with fs:=H9 }:WG).fs f=(H9,0,old):=I;rw[M]at D;refine(EG f a old d _ n hd (by omega) H D (fun j N=>?_)).mono ?_
  ·obtain⟨l,m,c⟩:=N
   exact za c hx
  ·rintro e w' ⟨v,j,w3,⟨l,m,c⟩,E,rfl⟩
   obtain⟨y,z⟩:=(c.below E).y6 hx J;exact⟨v,l,((C.mono (fun _ h=>h.mine)).trans (m.mono (fun _ h=>h.mine))).trans ((eo.ew E).trans (y.mono E2)),z⟩
 ·obtain⟨l,m,c⟩:=hS
  obtain⟨O,_,_,u,P⟩:=ub c hk;exact⟨O,u,P 2⟩
 ·rintro e w' ⟨v,j,⟨l,m,c⟩,rfl⟩
  obtain⟨y,z⟩:=c.place hk (Ga:=(a:Int)+d.size) (by omega) (by omega);exact⟨v,l,m.trans (y.mono O9),z⟩
def i64 (x:Int):Prop:=-9223372036854775808<=x/\x<=9223372036854775807
end
def Vk (g:WG):Nat->Option Nat:=fun k=>(g.op k).map (·.1)
section
variable {s i p:Nat}{B:WB}{ei:List Ob}
theorem Td(h:eH tg w s i p B ei g lim):jg w B.wb (Vk g)/\w.cell? (eb B.wb 0)=some (fj B.bt):=h.wp.opens.tab
theorem yL.T8{of:eB->Option Nat}(h:yL tg w i B of lim){q:eB}(hq:Good q)(b:gS w W):
  (Instr.lookup 161 (.map (some B.oF)) (.agg (et q)) false).run prog W=.ok (((of q).map ptr).getD (.pointer none)) W:=by
 obtain⟨_,⟨n,_,M,a,c,_⟩,_⟩:=h
 have:=(a.keep (w':=W) (b.block _ a.lt)).look rO underlying161 (HQ W) (wF hq)
 have d:M (jo prog q)=(of q).map ptr:=c q hq;rw[d]at this;exact this
theorem mY{P:Nat×Nat->Prop}(d:¬P (0,0))(ht:tg b=(0,0))(m:eo P tg ey W w')(a:W.heap[b]?=some o):w'.heap[b]?=some o/\ey b=(0,0):=by
 have c:=(lF.1 a).1;exact⟨(m.block b c (by rw[ht];exact d)).trans a,(m.tags b c).trans ht⟩
theorem j9(hi:2<=i):¬fo i (0,0):=by
 rintro(h|h|h)
 ·cases h
 ·injection h with h1 h2;omega
 ·injection h with h1 h2;omega
theorem E5(h:w.grownBy w' (some b)):w.grownBy (w'.alloc o) (some b):=by
 obtain⟨h1,h2,h3,a,c⟩:=h;refine⟨h1,h2,h3,by simp;omega,fun k hk d=>?_⟩;rw[jU _ _ _ (kv hk a)];exact c k hk d
def gw (w:World)(b:Nat):Prop:=w.heap[b]?=some (.cells #[.int .i64 0,.int .i64 0] 141 (0,0))
theorem gw.cells(h:gw w b):b<w.heap.size/\w.cell? (eb b 0)=some (ed 0)/\w.cell? (eb b 1)=some (ed 0)/\∀o,w.frozen? (eb b o)=false:=by
 unfold gw at h;exact⟨(lF.1 h).1,by simp only[World.cell?,h];rfl,by simp only[World.cell?,h];rfl,fun o=>by simp only[World.frozen?,h];simp⟩
theorem L8(t:Nat)(b c d f g a:eu)(k id er:Int)(R:World->Prop)(w:World)(her:(er==0)=false)
  (h:eK 136 #[fj t,.agg (ii b c d f g)] ((w.alloc (.cells (ii b c d f g) 147)).alloc (.cells #[ed 0,ed 0] 141)) fun e w'=>e=.returned (.tuple #[.agg #[.string a,ed k,ed id],ed er])/\gw w' (w.heap.size+1)/\R w'):
  eK 126 #[fj t,.agg (ii b c d f g)] w fun e w'=>e=.returned (.tuple #[.agg #[ed 0,ed 0],ed er])/\∃w3,R w3/\w3.grownBy w' (some (w.heap.size+1)):=by
 have i:Hid _:=h;clear h;go_enter func126,ntmps126;go_wp2_with fail;refine g7 i.out ?_;rintro e w3 ⟨rfl,j,l⟩;obtain⟨m,c0,c1,f0⟩:=j.cells;have n:Hid _:=l;clear j l i;go_wp2;refine jr (v:=.tuple #[.agg #[ed 0,ed 0],ed er]) (by simp[results,results126,go_sem,c0,c1,m]) rfl ?_;exact⟨rfl,w3,n.out,E5 (lj (lj (pp _ _)))⟩
theorem E6(w:World)(q:eB):gS w ((w.alloc (.cells (et q) 147)).alloc (.cells #[ed 0,ed 0] 141)):=((i7 _ _).alloc (io _) _).alloc (by simp) _
theorem Ic(w:World)(q:eB):gw ((w.alloc (.cells (et q) 147)).alloc (.cells #[ed 0,ed 0] 141)) (w.heap.size+1):=by
 have:=pM (w.alloc (.cells (et q) 147)) (.cells #[ed 0,ed 0] 141)
 simpa [gw]using this
end
theorem Rp(wb bt:Nat)(l:eB)(hl:Good l)(k sz er:Int)(R:World->Prop)(w:World)(t:wb<w.heap.size)(c0:w.cell? (eb wb 0)=some (fj bt))
  (hc:∀W,gS w W->gw W w.heap.size->eK 126 #[fj bt,.agg (et l)] W fun e w'=>e=.returned (.tuple #[.agg #[ed k,ed sz],ed er])/\gw w' w.heap.size/\R w'):
  eK 67 #[fj wb,.string (i6 l)] w fun e w'=>e=.returned (.tuple #[.agg #[ed k,ed sz],ed er])/\∃b,R b/\b.grownBy w' (some w.heap.size):=by
 have M2:=fun W=>Lq l hl W;obtain⟨c,d,f,g,h,m⟩:∃c d f g h,et l=(ii c d f g h):=⟨_,_,_,_,_,rfl⟩;unfold hP at M2;simp only[m]at M2 hc;have j:gS w (w.alloc (.cells #[ed 0,ed 0] 141)):=(i7 _ _).alloc (io _) _;have n:gw (w.alloc (.cells #[ed 0,ed 0] 141)) w.heap.size:=pM _ _;have o:wb<(w.alloc (.cells #[ed 0,ed 0] 141)).heap.size:=by simp;omega
 have u:=((gc j).1 wb 0 t).trans c0;have p:Hid _:=hc;have x:Hid _:=j;have y:Hid _:=n;clear hc m hl j n;generalize i6 l=D at M2 ⊢;go_enter func67,ntmps67;go_wp2_with(go_at_call 69;refine g7 (M2 _) ?_;rintro e i ⟨rfl,a⟩;have d0:=((gc a).1 wb 0 o).trans u;have E:=kv o a.size);have q:gw (i.alloc (.cells (ii c d f g h) 147)).drew w.heap.size:=by
  have h1:i.heap[w.heap.size]?=_:=(a.block w.heap.size (by simp)).trans y.out;show(i.alloc _).heap[w.heap.size]?=_;rw[jU _ _ _ (lF.1 h1).1];exact h1
 have r:=p.out (i.alloc (.cells (ii c d f g h) 147)).drew (em x.out (eQ (a.alloc a.size _))) q;have z:Hid _:=r;clear r p q
 go_region_with(go_at_call 126;refine g7 z.out ?_;rintro e b ⟨rfl,s,A⟩;obtain⟨F,B,C,f2⟩:=s.cells;clear s)
 all_goals
  go_wp2;refine jr (v:=.tuple #[.agg #[ed k,ed sz],ed er]) (by simp[results,results67,go_sem,B,C]) rfl ?_;exact⟨rfl,b,A,lj (lj (pp _ _))⟩
section
variable {s i p:Nat}{B:WB}{ei:List Ob}
theorem L9{w a w':World}(hi:2<=i)(m:eo (fo i) tg ey w a)(hW:eH ey a s i p B ei g lim)(ht:ey w.heap.size=(0,0))(hg:a.grownBy w' (some w.heap.size)):iq s i p B ei tg w w' g lim:=by
 have b:=hW.own hg ht;obtain⟨c,d,g3,f,h⟩:=hg;exact⟨ey,⟨c.trans m.os,d.trans m.tape,g3.trans m.output,pD m.size f,m.tags,fun k hk hn=>(h k (kv hk m.size) (fun e=>by injection e with e;omega)).trans (m.block k hk hn),fun hf=>b.st.fresh⟩,b⟩
end
structure fT (tg:eM)(w:World)(s i p:Nat)(B:WB)(ei:List Ob)(g:WG)(lim:Nat)(t:LT):Prop where
 inv:eH tg w s i p B ei g lim
 flat:Flat ei t g.ft
 ok:eL ei 5 t
 fl:qB ei g.fl
def JK (s i p:Nat)(B:WB)(ei:List Ob)(tg:eM)(w w':World)(lim:Nat)(R:WG->LT->Prop):Prop:=∃ey a t',eo (Mine i) tg ey w w'/\fT ey w' s i p B ei a lim t'/\R a t'
def vC (g:WG)(fs':FS)(b:LT)(a:WG)(t':LT):Prop:=t'=b/\a.fs=fs'/\a.fl=g.fl/\a.base=g.base/\a.op=g.op
section
variable {s i p:Nat}{B:WB}{ei:List Ob}
theorem fT.ws(h:fT tg w s i p B ei g lim t):B.wb<w.heap.size/\w.cell? (eb B.wb 0)=some (fj B.bt)/\jg w B.wb (fun k=>(g.op k).map (·.1)):=by
 obtain⟨h1,h2⟩:=h.inv.wp.opens.tab;exact⟨h1.1,h2,h1⟩
theorem fT.mono(h:fT tg w s i p B ei g lim t)(hl:lim<=L3):fT tg w s i p B ei g L3 t:=⟨h.inv.mono hl,h.flat,h.ok,h.fl⟩
theorem fT.below(h:fT tg w s i p B ei g lim t)(a:gS w w'):fT tg w' s i p B ei g lim t:=⟨h.inv.below a,h.flat,h.ok,h.fl⟩
theorem JK.of(h:fT tg w s i p B ei g lim t)(a:Left s i p B ei tg w w' g fs' t' L3):JK s i p B ei tg w w' L3 (vC g fs' t'):=by
 obtain⟨ey,iM,m,hW,hF,b⟩:=a;exact⟨ey,_,t',m,⟨hW,hF,b,h.fl⟩,rfl,rfl,rfl,rfl,rfl⟩
theorem JK.mono{R:WG->LT->Prop}(h:JK s i p B ei tg w w' lim R)(hl:lim<=L3):JK s i p B ei tg w w' L3 R:=by
 obtain⟨ey,a,t',m,b,c⟩:=h;exact⟨ey,a,t',m,b.mono hl,c⟩
theorem rC(a:gS w W)(h:Left s i p B ei tg W w' g fs' t' lim):Left s i p B ei tg w w' g fs' t' lim:=by
 obtain⟨ey,iM,m,hW,hF,b⟩:=h;exact⟨ey,iM,jn a m,hW,hF,b⟩
theorem Te(h:fT tg w s i p B ei g lim t)(hl:lim+1000<1099511627776)(a:Good (r.reverse++[n])):
  eK 31 #[fj B.wb,.string (i6 (r.reverse++[n]))] w fun e w'=>e=.returned (ed (y1 ei t g.fs (n::r)).2.1)/\JK s i p B ei tg w w' (lim+400) (vC g (y1 ei t g.fs (n::r)).1 (y1 ei t g.fs (n::r)).2.2):=by
 obtain⟨c,c0,_⟩:=h.ws;refine(E3 B.wb B.bt _ a _ _ w c c0 (fun W b=>(HF (h.inv.below b) (by omega) h.flat h.ok a).mono fun e w' ⟨h1,h2⟩=>⟨h1,rC b h2⟩)).mono ?_;rintro e w' ⟨h1,h2⟩;exact⟨h1,(JK.of h h2).mono (by omega)⟩
theorem Rq(h:fT tg w s i p B ei g lim t)(hl:lim+1000<1099511627776)(a:Good (r.reverse++[n])):
  eK 32 #[fj B.wb,.string (i6 (r.reverse++[n]))] w fun e w'=>e=.returned (ed (se ei t g.fs (n::r)).2.1)/\JK s i p B ei tg w w' (lim+400) (vC g (se ei t g.fs (n::r)).1 (se ei t g.fs (n::r)).2.2):=by
 obtain⟨c,c0,_⟩:=h.ws;refine(Br B.wb B.bt _ a _ _ w c c0 (fun W b=>(ER (h.inv.below b) (by omega) h.flat h.ok a).mono fun e w' ⟨h1,h2⟩=>⟨h1,rC b h2⟩)).mono ?_;rintro e w' ⟨h1,h2⟩;exact⟨h1,(JK.of h h2).mono (by omega)⟩
theorem Rs(h:fT tg w s i p B ei g lim t)(hl:lim+1000<1099511627776){n a:eu}{r b:eB}(c:Good (r.reverse++[n]))(d:Good (b.reverse++[a])):
  eK 33 #[fj B.wb,.string (i6 (r.reverse++[n])),.string (i6 (b.reverse++[a]))] w fun e w'=>e=.returned (ed (ra ei t g.fs (n::r) (a::b)).2.1)/\JK s i p B ei tg w w' (lim+400) (vC g (ra ei t g.fs (n::r) (a::b)).1 (ra ei t g.fs (n::r) (a::b)).2.2):=by
 obtain⟨j,c0,_⟩:=h.ws;refine(Bt B.wb B.bt _ _ c d _ _ w j c0 (fun W f=>(EZ (h.inv.below f) (by omega) h.flat h.ok c d).mono fun e w' ⟨h1,h2⟩=>⟨h1,rC f h2⟩)).mono ?_;rintro e w' ⟨h1,h2⟩;exact⟨h1,(JK.of h h2).mono (by omega)⟩
end
end Go.Proofs.YtlgidcmmgohagaaGreat
