/- What is proved here: Open of a YZ tree. -/
import Derived.Test.YtlgidcmmgohagaaGreatFileM20
import Derived.Test.YtlgidcmmgohagaaGreatFileM14
import Derived.Deep.RegionHeld3
namespace Go.Proofs.YtlgidcmmgohagaaGreat
open Go.RowKit Go.Sort Go.Shelf Go.Proofs.Tryz
set_option linter.unusedVariables false
set_option maxRecDepth 100000
set_option maxHeartbeats 16000000
variable {fs' MJ:FS}{fg pl:Int}{W w w':World}{d n:eD}{cr ex:Bool}{r:eL}{b f i k lim RB:Nat}{t t':LT}{g:WG}{tg eF:eV}{ks:Kids}{o:Obj}{ey:List Ob}
def xH (ks:Kids)(n:eD)(ex cr:Bool):Int:=
 match ip ks n with
 |some c=>if c.kind=2 then 7 else if ex=true then 6 else 0
 |none=>if(ex ||cr)=true then(if 16<=ks.length then 11 else 0)else 4
def MK (ey:List Ob)(sz:Nat)(fl:Nat->Option (Int×eD))(ks:Kids)(t:LT)(q:eL)(n:eD)(a:Bool)(f:Nat)(yF:Nat->Option (Int×eD))(t':LT):Prop:=
 (ip ks n=none/\sz<=f/\t'=rb ey (fun ks=>sf ks n (.held f)) q t/\yF=rp fl f (some (0,⟨#[]⟩)))\/
 (ip ks n=some (.held f)/\t'=t/\yF=if a=true then rp fl f (some (0,⟨#[]⟩))else fl)\/
 (∃id,ip ks n=some (.file id)/\sz<=f/\t'=rb ey (fun ks=>sf ks n (.held f)) q t/\yF=if a=true then rp (rp fl f (some (id,⟨#[]⟩))) f (some (0,⟨#[]⟩))else rp fl f (some (id,⟨#[]⟩)))
theorem Cb(h:ip ks n=none):xH ks n ex cr=if(ex ||cr)=true then(if 16<=ks.length then 11 else 0)else 4:=by unfold xH;rw[h]
theorem Cc{c:LT}(h:ip ks n=some c):xH ks n ex cr=if c.kind=2 then 7 else if ex=true then 6 else 0:=by unfold xH;rw[h]
theorem JD(t:Nat×Nat)(h:t=(i,6)):Mine i t:=.inr (by rw[h])
section
variable {s i p:Nat}{B:WB}{ey:List Ob}
def Vm (s i p:Nat)(B:WB)(ey:List Ob)(tg:eV)(w w':World)(g:WG)(t:LT)(q:eL)(n:eD)(ex cr b:Bool)(fs':FS)(er:Int)(ks:Kids)(lim:Nat)(a:Ending):Prop:=
 (er≠0/\a=.returned (.tuple #[.pointer none,.int .i64 er])/\Left s i p B ey tg w w' g fs' t lim)\/
 (er=0/\xH ks n ex cr≠0/\a=.returned (.tuple #[.pointer none,.int .i64 (xH ks n ex cr)])/\Left s i p B ey tg w w' g fs' t lim)\/
 (er=0/\xH ks n ex cr=0/\∃f eF kG yF t',a=.returned (.tuple #[.pointer (some ⟨f,0,none⟩),.int .i64 0])/\eB (Mine i) tg eF w w'/\eT eF w' s i p B ey { g with fs:=fs',ft:=kG,fl:=yF } lim/\Flat ey t' kG/\eU ey 5 t'/\MK ey w.heap.size g.fl ks t q n b f yF t')
theorem RD(h:eT tg w s i p B ey g lim)(hl:lim+600<1099511627776)(hF:Flat ey t g.ft)(ap:eU ey 5 t)(hp:Good (r.reverse++[n]))(fg:Int)(ex cr aa:Bool)(m:(bits BinOp.and IntKind.i64 fg 8 != 0)=ex)(G:(bits BinOp.and IntKind.i64 fg 4 != 0)=cr)(P:(bits BinOp.and IntKind.i64 fg 16 != 0)=aa):
  gc 120 #[hh B.bt,.agg (fy (r.reverse++[n])),eJ fg] w fun bk w'=>Vm s i p B ey tg w w' g t r.reverse n ex cr aa (lL ey t g.fs r).1 (lL ey t g.fs r).2.1 (lL ey t g.fs r).2.2 (lim+300) bk:=by
 have hS:=h.st.sound;have hi:=h.two;have hq:Good r.reverse:=by have:=hp.dropLast;rwa [qY]at this
 have aM:eG n=true:=hp.val n (by simp);have bE:r.length<=4:=by have:=hp.len;simp at this;omega
 have M:=fun W (aq:ik w W)=>qI (s:=s) (i:=i) (p:=p) (B:=B) (ey:=ey) r tg W g lim (h.below aq) (by omega) hq;simp only[kV hS hF ap g.fs r]at M;have ab:=nR (ey:=ey) (t:=t) (fs:=g.fs) (r:=r);generalize lL ey t g.fs r=a at M ab ⊢;obtain⟨fs',er,ks⟩:=a;simp only at M ab ⊢;have heq:∀W,(Op.equalIn 10000 147 (ju (r.reverse++[n])) (ju [])).run prog W=.ok false W:=fun W=>by
  have:=yr hp Good.nil W
  rw[rk (by simp)]at this;exact this
 have ac:=fun W=>ut W;have ad:=fun W=>gp (r.reverse++[n]) hp W;have ae:=fun W=>jY (r.reverse++[n]) hp (by simp) W;rw[qY]at ad;simp only[EY]at ae;obtain⟨x,y,z,A,C,af⟩:∃x y z A C,fy (r.reverse++[n])=(kq x y z A C):=⟨_,_,_,_,_,rfl⟩;obtain⟨bF,bG,bH,bI,bJ,aN⟩:∃x y z A C,fy r.reverse=(kq x y z A C):=⟨_,_,_,_,_,rfl⟩;unfold ju at ac heq ad ae;simp only[af,aN]at heq ad ae M;rw[af];unfold fy at ac heq;simp only[nN]at ac heq;have ar:Hid _:=af;have au:Hid _:=h;have H:Hid _:=hF;have q:Hid _:=ap;have ag:Hid _:=hS;have bl:Hid _:=M;have bm:Hid _:=ab;have av:Hid _:=hp;have aw:Hid _:=And.intro m (And.intro G P);clear h hF ap hS af aN M ab hp m G P;go_enter func120,ntmps120;go_wp2
 go_region_with(go_at_call 75;refine(ac _).mono ?_;rintro e bK ⟨rfl,ah⟩;obtain⟨aO,bn⟩:=ii ah;have aP:=jr ah;have aQ:=fx (gS ((lh w.heap.size w).alloc (kx _) _)) ah)
 all_goals
  go_wp2_with(go_at_call 132;refine(ad _).mono ?_;rintro e bo ⟨rfl,ai⟩;have aR:=fun o=>(ii ai).1 w.heap.size o aP;have ax:=lO aP ai.size;have ay:=fx aQ ai);refine io (bl.out bo ay) ?_;rintro e w3 ⟨v,rfl,aS,Q,aT,az⟩;have aU:=vd (b:=w.heap.size) hi (Q.mono (fun _ h=>h.mine)) ax (au.out.st.fresh _ (kx _));have aV:=li ay (Q.mono (fun _ h=>h.mine));have aA:w.heap.size<w3.heap.size:=lO ax Q.size;have bL:aS w.heap.size=(0,0):=(Q.tags _ ax).trans (au.out.st.fresh _ (kx _));have aW:Hid _:=aT;have aX:Hid _:=aV;have aY:Hid (sA aS w3 i v (ks.map mn)):=az;have bp:Hid (qL w3 w.heap.size x y z A C):=by
   obtain⟨_,q0,D,R,aj,bq,_⟩:=rJ (su w (.cells (kq x y z A C) 147));have br:∀o,w3.cell? (eI w.heap.size o)=(w.alloc (.cells (kq x y z A C) 147)).cell? (eI w.heap.size o):=fun o=>((aU o).trans (aR o)).trans ((aO _ o (by simp)).trans rfl);exact qL.keep (w:=w.alloc (.cells (kq x y z A C) 147)) ⟨q0,D,R,aj,bq⟩ br
  obtain⟨la,lc,rfl⟩:=az.len;rw[nD];clear aT az Q aV aU aR aO bn ah ai aQ ay;obtain⟨bM,a1,a2,a3,bN⟩:=bp.out;by_cases her:er=0
  ·subst her
   obtain⟨⟨d,ak,hk⟩,aZ,aB⟩:=bm.out rfl;obtain⟨D,R,aj⟩:=lj ag.out (py ag.out _ q.out ak).2.1 hk;have aC:eP (ks.map mn):=by rw[lK];exact kT _ D
   have aD:(ks.map mn).length<=16:=by rw[nD];exact R
   have al:=fun W2 (aq:ik w3 W2)=>gY (aY.out.below aq).1 n aC aD;rw[nD]at al;have bb:Hid _:=al;have l:Hid _:=And.intro ak (And.intro hk aB);have bs:Hid _:=oY D n;obtain⟨m,G,P⟩:=aw.out;go_wp2_with fail;refine(ae _).mono ?_;rintro e bO ⟨rfl,aE⟩;have k4:=fun o=>(ii aE).1 w.heap.size o aA;go_wp2_with fail;refine io (bb.out _ aE) ?_;rintro e w5 ⟨rfl,bt⟩;have N:=fx aE bt;have k5:=fun o=>(ii N).1 w.heap.size o aA;have aF:=lO aA N.size;have I:Hid _:=aX.out.trans (eB.eE N);have J:Hid _:=aW.out.below N;have aG:Hid (Left s i p B ey tg w w5 g fs' t (lim+300)):=NE I.out (J.out.mono (by first|omega|(simp;omega))) H.out q.out;cases E:ip ks n with
   |none=>
    rw[show iv (ks.map mn) n=false by rw[WF,<-oY D,E];rfl];have j:Hid _:=Cb E (ex:=ex) (cr:=cr);have u:Hid _:=E;clear al ak hk aB aZ aC aD D R aj E aw;cases k:(ex ||cr) with
    |true=>
     rw[k,ie rfl]at j;have bc:ex=true\/(ex=false/\cr=true):=by cases ex<;>simp_all
     clear k;by_cases iE:16<=ks.length
     ·rw[ie iE]at j
      have bu:(16:Int)<=(ks.length:Int):=(by omega);have bv:=fun W=>JC B.bt x y z A C (ks.length:Int) W bu;rcases bc with hx|⟨hx,hc⟩
      case' inl=>rw[hx]at m
      case' inr=>rw[hx]at m;rw[hc]at G
      all_goals
       go_wp2_with(go_at_call 177;refine io (bv _) ?_;rintro e w6 ⟨rfl,K⟩);go_ret2;exact .inr (.inl ⟨rfl,by rw[j.out];decide,by rw[j.out];rfl,NE (I.out.trans (eB.eE K)) ((J.out.below K).mono (by first|omega|(simp;omega))) H.out q.out⟩)
     ·rw[fY iE]at j
      have bd:ks.length<16:=(by omega);have aH:=MI J.out (by first|omega|(simp;omega)) H.out q.out av.out l.out.1 l.out.2.1 l.out.2.2 u.out bd (ks.length:Int) (by omega);rw[ar.out]at aH;have bw:Hid _:=aH;clear aH;rcases bc with hx|⟨hx,hc⟩
      case' inl=>rw[hx]at m
      case' inr=>rw[hx]at m;rw[hc]at G
      all_goals
       go_wp2_with(go_at_call 177;go_loud(refine io bw.out ?_;rintro e w6 ⟨f,am,an,rfl,ao,S,O,T⟩;have F:Hid _:=And.intro S (And.intro O T);clear S O T));go_ret2;exact .inr (.inr ⟨rfl,j.out,f,am,an,_,_,rfl,I.out.trans F.out.1,F.out.2.1.mono (by first|omega|(simp;omega)),F.out.2.2,Gf ag.out q.out l.out.1 l.out.2.1 aM (by first|omega|(simp;omega)) (OE _ _ _) (.inr bd),.inl ⟨u.out,wl (xT aF) ao,rfl,rfl⟩⟩)
    |false=>
     rw[k,fY (by simp)]at j;obtain⟨hx,hc⟩:ex=false/\cr=false:=by cases ex<;>cases cr<;>simp_all
     rw[hx]at m;rw[hc]at G;go_wp2;go_ret2;exact .inr (.inl ⟨rfl,by rw[j.out];decide,by rw[j.out];rfl,aG.out⟩)
   |some c=>
    rw[show iv (ks.map mn) n=true by rw[WF,<-oY D,E];rfl];obtain⟨aI,be⟩:=Gg D E;obtain⟨bx,bQ,bf,bg,bz,U,e2⟩:=aY.out.at_ aI;clear bz e2;rw[nD]at bf;rw[be]at U;simp only at U;have j:Hid _:=Cc E (ex:=ex) (cr:=cr);have u:Hid _:=E;have bA:pD (ks.map mn) n<ks.length:=by simpa using aI
    generalize pD (ks.map mn) n=bB at U bA;cases bf;have bh:=vR c;generalize oV:c.kind=kc at U bh j;have bR:=((ii N).1 bx (bB*3+1) bg).trans U;have bS:=lO bg N.size;clear al ak hk aB aZ aC aD D R aj E aw aI be bb;rcases bh with rfl|rfl
    ·rw[fY (by decide)]at j
     cases k:ex with
     |true=>
      rw[k]at m;rw[k,ie rfl]at j;go_wp2;go_ret2;exact .inr (.inl ⟨rfl,by rw[k,j.out];decide,by rw[k,j.out];rfl,aG.out⟩)
     |false=>
      rw[k]at m;rw[k,fY (by decide)]at j;cases c with
      |dir d=>simp[LT.kind]at oV
      |own es=>simp[LT.kind]at oV
      |held f=>
       have bi:t.at ey (r.reverse++[n])=some (.held f):=(by rw[kB,l.out.1,qr,kh,l.out.2.1,qr,u.out,qr,mr]);have KF:g.ft.of (r.reverse++[n])=some f:=by rw[H.out.of,bi];rfl
       obtain⟨bT,bC⟩:=au.out.wp.held _ _ KF;have L:=Rz J.out av.out KF;rw[ar.out]at L;have aJ:Hid _:=L;clear L bi KF;cases aK:cr<;>cases ht:aa<;>rw[aK]at G<;>rw[ht]at P
       all_goals
        go_wp2_with(first
         |(go_at_call 178;go_loud(refine io aJ.out ?_;rintro e w6 ⟨rfl,K⟩;have V:=yE (J.out.below K) bC;have aL:Hid _:=V;clear V))
         |(go_at_call 179;refine io aL.out ?_;rintro e bD ⟨rfl,X,Y⟩;have Z:Hid _:=And.intro X Y;clear X Y))
        go_ret2
        first
        |exact .inr (.inr ⟨rfl,by rw[k];exact j.out,f,_,g.ft,_,t,rfl,(I.out.trans (eB.eE K)).trans (Z.out.1.mono JD),Z.out.2.mono (by first|omega|(simp;omega)),H.out,q.out,.inr (.inl ⟨u.out,rfl,by rw[ht];rfl⟩)⟩)
        |exact .inr (.inr ⟨rfl,by rw[k];exact j.out,f,_,g.ft,_,t,rfl,I.out.trans (eB.eE K),(J.out.below K).mono (by first|omega|(simp;omega)),H.out,q.out,.inr (.inl ⟨u.out,rfl,by rw[ht];rfl⟩)⟩)
      |file id=>
       have L:=RA J.out (by first|omega|(simp;omega)) H.out q.out av.out l.out.1 l.out.2.1 l.out.2.2 u.out;rw[ar.out]at L;have aJ:Hid _:=L;clear L;cases aK:cr<;>cases ht:aa<;>rw[aK]at G<;>rw[ht]at P
       all_goals
        go_wp2_with(first
         |(go_at_call 178;go_loud(refine io aJ.out ?_;rintro e w6 ⟨f,am,an,rfl,ao,S,O,T⟩;have V:=yE O (kw _ _ _);have aL:Hid _:=V;clear V;have F:Hid _:=And.intro S (And.intro O T);clear S O T))
         |(go_at_call 179;refine io aL.out ?_;rintro e bD ⟨rfl,X,Y⟩;have Z:Hid _:=And.intro X Y;clear X Y))
        go_ret2;have bj:=Gf ag.out q.out l.out.1 l.out.2.1 aM (by first|omega|(simp;omega)) (OE ey _ f) (.inl (by rw[<-bs.out,u.out];rfl))
        first
        |exact .inr (.inr ⟨rfl,by rw[k];exact j.out,f,am,an,_,_,rfl,(I.out.trans F.out.1).trans (Z.out.1.mono JD),Z.out.2.mono (by first|omega|(simp;omega)),F.out.2.2,bj,.inr (.inr ⟨id,u.out,wl (xT aF) ao,rfl,by rw[ht];rfl⟩)⟩)
        |exact .inr (.inr ⟨rfl,by rw[k];exact j.out,f,am,an,_,_,rfl,I.out.trans F.out.1,F.out.2.1.mono (by first|omega|(simp;omega)),F.out.2.2,bj,.inr (.inr ⟨id,u.out,wl (xT aF) ao,rfl,by rw[ht];rfl⟩)⟩)
    ·rw[ie rfl]at j
     go_wp2;go_ret2;exact .inr (.inl ⟨rfl,by rw[j.out];decide,by rw[j.out];rfl,aG.out⟩)
  ·have bU:(er==0)=false:=by simpa using her
   go_wp2;go_ret2;exact .inl ⟨her,rfl,NE aX.out (aW.out.mono (by first|omega|(simp;omega))) H.out q.out⟩
end


theorem lg.below{c:Nat->Option Nat}(h:lg w b c)(a:ik w w'):lg w' b c:=
 ⟨lO h.1 a.size,fun k hk=>((ii a).1 b _ h.1).trans (h.2.1 k hk),fun o=>((ii a).2 b o h.1).trans (h.2.2 o)⟩
theorem JE(wb bt:Nat)(l:eL)(hl:Good l)(er:Int)(R:World->Prop)(w:World)(h:wb<w.heap.size)(c0:w.cell? (eI wb 0)=some (hh bt))
  (hc:∀W,ik w W->gc 70 #[hh bt,.agg (fy l)] W fun e w'=>e=.returned (eJ er)/\R w'):
  gc 31 #[hh wb,.string (lf l)] w fun e w'=>e=.returned (eJ er)/\R w':=by
 have iD:=fun W=>iC l hl W;obtain⟨b,c,d,f,g,i⟩:∃b c d f g,fy l=(kq b c d f g):=⟨_,_,_,_,_,rfl⟩;unfold ju at iD;simp only[i]at iD hc;have j:Hid _:=hc;clear hc i hl;generalize lf l=p at iD ⊢;go_enter func31,ntmps31;go_wp2_with(go_at_call 69;refine io (iD _) ?_;rintro e m ⟨rfl,a⟩;have d0:=((ii a).1 wb 0 h).trans c0;have q:=lO h a.size);have k:=j.out (m.alloc (.cells (kq b c d f g) 147)).drew (gS (a.alloc a.size _));have n:Hid _:=k;clear k j
 go_region_with(go_at_call 70;refine io n.out ?_;rintro e r ⟨rfl,o⟩)
 all_goals
  go_wp2;go_ret;exact⟨rfl,o⟩
theorem EA(wb bt:Nat)(l:eL)(hl:Good l)(er:Int)(R:World->Prop)(w:World)(h:wb<w.heap.size)(c0:w.cell? (eI wb 0)=some (hh bt))
  (hc:∀W,ik w W->gc 71 #[hh bt,.agg (fy l)] W fun e w'=>e=.returned (eJ er)/\R w'):
  gc 32 #[hh wb,.string (lf l)] w fun e w'=>e=.returned (eJ er)/\R w':=by
 have iD:=fun W=>iC l hl W;obtain⟨b,c,d,f,g,i⟩:∃b c d f g,fy l=(kq b c d f g):=⟨_,_,_,_,_,rfl⟩;unfold ju at iD;simp only[i]at iD hc;have j:Hid _:=hc;clear hc i hl;generalize lf l=p at iD ⊢;go_enter func32,ntmps32;go_wp2_with(go_at_call 69;refine io (iD _) ?_;rintro e m ⟨rfl,a⟩;have d0:=((ii a).1 wb 0 h).trans c0;have q:=lO h a.size);have k:=j.out (m.alloc (.cells (kq b c d f g) 147)).drew (gS (a.alloc a.size _));have n:Hid _:=k;clear k j
 go_region_with(go_at_call 71;refine io n.out ?_;rintro e r ⟨rfl,o⟩)
 all_goals
  go_wp2;go_ret;exact⟨rfl,o⟩
theorem EB(wb bt:Nat)(l m:eL)(hl:Good l)(hm:Good m)(er:Int)(R:World->Prop)(w:World)(k:wb<w.heap.size)(c0:w.cell? (eI wb 0)=some (hh bt))
  (hc:∀W,ik w W->gc 72 #[hh bt,.agg (fy l),.agg (fy m)] W fun e w'=>e=.returned (eJ er)/\R w'):
  gc 33 #[hh wb,.string (lf l),.string (lf m)] w fun e w'=>e=.returned (eJ er)/\R w':=by
 have iD:=fun W=>iC l hl W;have h:=fun W=>iC m hm W;obtain⟨a,b,c,d,f,q⟩:∃a b c d f,fy l=(kq a b c d f):=⟨_,_,_,_,_,rfl⟩;obtain⟨d0,d1,d2,d3,d4,hQ⟩:∃a b c d f,fy m=(kq a b c d f):=⟨_,_,_,_,_,rfl⟩;unfold ju at iD h;simp only[q]at iD hc;simp only[hQ]at h hc;have r:Hid _:=hc;clear hc q hQ hl hm;generalize lf l=A at iD ⊢;generalize lf m=B at h ⊢;go_enter func33,ntmps33;go_wp2_with fail;refine io (iD w) ?_;rintro e i ⟨rfl,j⟩;have u:=((ii j).1 wb 0 k).trans c0;have C:=lO k j.size;have n:ik w (i.alloc (.cells (kq a b c d f) 147)):=j.alloc j.size _;have s:i.heap.size<(i.alloc (.cells (kq a b c d f) 147)).heap.size:=by simp
 have v:wb<(i.alloc (.cells (kq a b c d f) 147)).heap.size:=by simp;omega
 go_wp2_with fail;refine io (h _) ?_;rintro e x ⟨rfl,g⟩;have f0:=((ii (fx n g)).1 wb 0 k).trans c0;have D:=fun o=>(ii g).1 i.heap.size o s
 have E:=lO v g.size;have F:=lO s g.size;have p:=fx n g;have t:=r.out (x.alloc (.cells (kq d0 d1 d2 d3 d4) 147)).drew (gS (p.alloc p.size _));have y:Hid _:=t;clear t r iD h j g n p u;go_wp2
 go_region_with(go_at_call 72;refine io y.out ?_;rintro e w3 ⟨rfl,z⟩)
 all_goals
  go_wp2;go_ret;exact⟨rfl,z⟩
theorem zB(wb bt k:Nat)(b:Nat->Option Nat)(fg:Int)(l:eL)(hl:Good l)(er:Int)(her:er≠0)(R:World->Prop)(w:World)(ht:lg w wb b)(c0:w.cell? (eI wb 0)=some (hh bt))(hk:k<8)(h0:b k=none)(h1:∀j,j<k->b j≠none)
  (hv:∀W,gc 118 #[eJ fg] W (Do (.bool true) W))
  (hc:∀W,ik w W->gc 120 #[hh bt,.agg (fy l),eJ fg] W fun e w'=>e=.returned (.tuple #[.pointer none,eJ er])/\R w'):
  gc 63 #[hh wb,.string (lf l),eJ fg] w fun e w'=>e=.returned (.tuple #[eJ 0,eJ er])/\R w':=by
 have iD:=fun W=>iC l hl W;have i:=ht.1;have u:(er==0)=false:=by simpa using her
 obtain⟨c,d,f,g,h,m⟩:∃c d f g h,fy l=(kq c d f g h):=⟨_,_,_,_,_,rfl⟩;unfold ju at iD;simp only[m]at iD hc;have sw:=fun W (p:ik w W)=>Eh wb k b W (ht.below p) hk h0 h1;have q:Hid _:=sw;have n:Hid _:=hc;clear hc m hl sw ht h0 h1;generalize lf l=v at iD ⊢;go_enter func63,ntmps63;go_wp2_with(first
  |(go_at_call 69;refine io (iD _) ?_;rintro e r ⟨rfl,a⟩;have x:=((ii a).1 wb 0 i).trans c0;have y:=lO i a.size)
  |(go_at_call 118;refine io (hv _) ?_;rintro e z ⟨rfl,rfl⟩)
  |(go_at_call 119;go_loud(refine io (q.out _ (a.alloc a.size _)) ?_;rintro e w3 ⟨rfl,rfl⟩)))
 have o:=n.out (r.alloc (.cells (kq c d f g h) 147)).drew (gS (a.alloc a.size _));have s:Hid _:=o;clear o n
 go_region_with(go_at_call 120;refine io s.out ?_;rintro e A ⟨rfl,t⟩)
 all_goals
  go_wp2;go_ret2;exact⟨rfl,t⟩
theorem ML(wb bt k:Nat)(c:Nat->Option Nat)(fg:Int)(l:eL)(hl:Good l)(S:Nat->World->Prop)(w:World)(ht:lg w wb c)(c0:w.cell? (eI wb 0)=some (hh bt))(hk:k<8)(h0:c k=none)(h1:∀j,j<k->c j≠none)
  (hv:∀W,gc 118 #[eJ fg] W (Do (.bool true) W))
  (hc:∀W,ik w W->gc 120 #[hh bt,.agg (fy l),eJ fg] W fun e w'=>∃f,e=.returned (.tuple #[hh f,eJ 0])/\S f w')
  (hS:∀f w',S f w'->lg w' wb c):
  gc 63 #[hh wb,.string (lf l),eJ fg] w fun e w'=>e=.returned (.tuple #[eJ (k:Int),eJ 0])/\∃f a,S f a/\w'=(a.setCell (eI wb (1+k)) (hh a.heap.size)).alloc (.cells #[hh f,eJ fg,eJ 0] 277):=by
 have iD:=fun W=>iC l hl W;have o:=ht.1;obtain⟨d,g,i,m,n,p⟩:∃d g i m n,fy l=(kq d g i m n):=⟨_,_,_,_,_,rfl⟩;unfold ju at iD;simp only[p]at iD hc;have sw:=fun W (v:ik w W)=>Eh wb k c W (ht.below v) hk h0 h1;have q:=fun f a (h:S f a)=>QN wb k f fg _ a (hS f a h).1 ((hS f a h).2.1 k hk) ((hS f a h).2.2 _) hk;have x:Hid _:=sw;have r:Hid _:=hc;have y:Hid _:=q;clear hc p hl sw ht h0 h1 q hS;generalize lf l=B at iD ⊢;go_enter func63,ntmps63;go_wp2_with(first
  |(go_at_call 69;refine io (iD _) ?_;rintro e a ⟨rfl,b⟩;have C:=((ii b).1 wb 0 o).trans c0;have D:=lO o b.size)
  |(go_at_call 118;refine io (hv _) ?_;rintro e E ⟨rfl,rfl⟩)
  |(go_at_call 119;go_loud(refine io (x.out _ (b.alloc b.size _)) ?_;rintro e w3 ⟨rfl,rfl⟩)))
 have s:=r.out (a.alloc (.cells (kq d g i m n) 147)).drew (gS (b.alloc b.size _));have z:Hid _:=s;clear s r
 go_region_with(go_at_call 120;refine io z.out ?_;rintro e A ⟨f,rfl,t⟩;have u:Hid _:=t;clear t)
 all_goals
  go_wp2_with(go_at_call 121;go_loud(refine io (y.out _ _ u.out) ?_;rintro e w5 ⟨rfl,rfl⟩));go_ret2;exact⟨rfl,f,A,u.out,rfl⟩
theorem Gp(wb k o:Nat)(n:Int)(d:eD)(er:Int)(R:World->Prop)(w:World)(hc:w.cell? (eI wb (1+k))=some (hh o))(hk:k<8)
  (hr:gc 125 #[hh o,eJ n] w fun e w'=>e=.returned (.tuple #[.string d,eJ er])/\R w'):
  gc 66 #[hh wb,eJ (k:Int),eJ n] w fun e w'=>e=.returned (.tuple #[.string d,eJ er])/\R w':=by
 have a:=tv wb k o w hc hk;go_enter func66,ntmps66;go_wp2_with(first
  |(go_at_call 122;refine a.mono ?_;rintro e b ⟨rfl,rfl⟩)
  |(go_at_call 125;refine hr.mono ?_;rintro e b ⟨rfl,c⟩))
 go_ret2;exact⟨rfl,c⟩
theorem Vn(wb k o:Nat)(d:eD)(er:Int)(R:World->Prop)(w:World)(hc:w.cell? (eI wb (1+k))=some (hh o))(hk:k<8)
  (hr:gc 123 #[hh o,.string d] w fun e w'=>e=.returned (eJ er)/\R w'):
  gc 64 #[hh wb,eJ (k:Int),.string d] w fun e w'=>e=.returned (eJ er)/\R w':=by
 have a:=tv wb k o w hc hk;go_enter func64,ntmps64;go_wp2_with(first
  |(go_at_call 122;refine a.mono ?_;rintro e b ⟨rfl,rfl⟩)
  |(go_at_call 123;refine hr.mono ?_;rintro e b ⟨rfl,c⟩))
 go_ret;exact⟨rfl,c⟩
theorem Vo(wb k o:Nat)(w:World)(a:wb<w.heap.size)(hc:w.cell? (eI wb (1+k))=some (hh o))(hf:w.frozen? (eI wb (1+k))=false)(hk:k<8):
  gc 65 #[hh wb,eJ (k:Int)] w fun e w'=>e=.returned (eJ 0)/\w'=w.setCell (eI wb (1+k)) (.pointer none):=by
 have b:=Jk wb k o w a hc hf hk;go_enter func65,ntmps65;go_wp2_with(go_at_call 124;refine b.mono ?_;rintro e c ⟨rfl,rfl⟩);go_ret;exact⟨rfl,rfl⟩
theorem gq.Ce{s p:Nat}{got:List Int}{brk:Bool}(h:gq tg w s p ey got brk lim){id:Int}(hk:eM ey id=1):(bytesOf ey id).size<=256:=by
 obtain⟨h1,h2⟩:=xw (ey:=ey) (id:=id) (by rw[hk];decide);obtain⟨j,rfl⟩:∃j:Nat,id=(j:Int)+1:=⟨(id-1).toNat,by omega⟩;have hj:j<ey.length:=by omega
 obtain⟨_,ft,_,⟨a,cap,bf,bd,Df,Dd,i⟩,_⟩:=h;rw[BF hj];rw[tx hj]at hk;rcases i.zV ey[j] (kj hj) with⟨_,_,h3⟩|⟨h3,_⟩
 ·exact h3
 ·rw[hk]at h3;cases h3
theorem JF{fl:Nat->Option (Int×eD)}{fs MJ:FS}(h:ub ey fl fs f=(MJ,0,d)):ub ey fl MJ f=(MJ,0,d):=by
 unfold ub at h ⊢;cases hf:fl f with
 |none=>rw[hf]at h;simp only[uR]at h ⊢;exact⟨trivial,trivial,h.2.2⟩
 |some x=>
  obtain⟨id,d0⟩:=x;rw[hf]at h;simp only at h ⊢;by_cases hid:id=0
  ·rw[ie hid]at h ⊢
   simp only[uR]at h ⊢;exact⟨trivial,trivial,h.2.2⟩
  ·rw[fY hid]at h ⊢
   rcases FS.yZ fs id with⟨h1,h2,h3⟩|⟨h1,_⟩
   ·rw[ie h1]at h
    simp only[uR]at h;obtain⟨a,_,e2⟩:=h;rw[a]at h3;have hg:MJ.fM id=(MJ,true):=by unfold FS.fM;rw[ie h3]
    rw[hg,ie rfl,e2]
   ·rw[fY (by rw[h1];decide)]at h
    simp only[uR]at h;omega
section
variable {s i p:Nat}{B:WB}{ey:List Ob}
theorem uF(h:eT tg w s i p B ey g lim)(b:tP ey g.fl){er:Int}(a:ub ey g.fl g.fs f=(MJ,er,d)):d.size<=256:=by
 unfold ub at a;cases hf:g.fl f with
 |none=>rw[hf]at a;simp only[uR]at a;rw[<-a.2.2];simp[ByteArray.size]
 |some x=>
  obtain⟨id,d0⟩:=x;rw[hf]at a;simp only at a;by_cases hid:id=0
  ·rw[ie hid]at a
   simp only[uR]at a;rw[<-a.2.2];exact(h.wp.files f id d0 hf).2.2
  ·rw[fY hid]at a
   split at a
   ·simp only[uR]at a
    rw[<-a.2.2];exact h.st.Ce (b f id d0 hf hid)
   ·simp only[uR]at a
    rw[<-a.2.2];simp[ByteArray.size]
theorem Hb(h:eT tg w s i p B ey g lim)(hk:g.op k=some (b,f,fg,pl)):b<w.heap.size/\w.cell? (eI b 0)=some (hh f)/\w.cell? (eI b 1)=some (eJ fg)/\w.cell? (eI b 2)=some (eJ pl)/\(∀o,w.frozen? (eI b o)=false):=by
 obtain⟨_,a,_⟩:=h.wp.opens.at_ k b f fg pl hk;exact⟨(nX.1 a).1,by simp[World.cell?,a,ptr],by simp[World.cell?,a],by simp[World.cell?,a],fun o=>by simp[World.frozen?,a]⟩
theorem Cf(h:eT tg w s i p B ey g lim){x:Int×eD}(hf:g.fl f=some x):f<w.heap.size/\(∃x y z,w.cell? (eI f 0)=some x/\w.cell? (eI f 1)=some y/\w.cell? (eI f 2)=some z)/\∀o,w.frozen? (eI f o)=false:=by
 obtain⟨id,d⟩:=x;obtain⟨_,a,_⟩:=h.wp.files f id d hf;exact⟨(nX.1 a).1,⟨_,_,_,by simp[World.cell?,a];rfl,by simp[World.cell?,a];rfl,by simp[World.cell?,a];rfl⟩,fun o=>by simp[World.frozen?,a]⟩
theorem Vp(t:Nat×Nat)(h:t=(i,7)):Mine i t:=.inr (by rw[h])
theorem Vq(h:eT tg w s i p B ey g lim)(hl:lim<1099511627776)(c:tP ey g.fl){fg pl n:Int}(hk:g.op k=some (b,f,fg,pl))(q:(bits BinOp.and IntKind.i64 fg 1==0)=false)(hn:1<=n)(hp:pl<256)(j:ub ey g.fl g.fs f=(MJ,0,d)):
  gc 125 #[hh b,eJ n] w fun e w'=>e=.returned (.tuple #[.string (d.extract (min pl.toNat d.size) (min (min pl.toNat d.size+(min n (256-pl)).toNat) d.size)),eJ 0])/\
   ∃eF,eB (Mine i) tg eF w w'/\eT eF w' s i p B ey { g with fs:=MJ,op:=rp g.op k (some (b,f,fg,pl+(d.extract (min pl.toNat d.size) (min (min pl.toNat d.size+(min n (256-pl)).toNat) d.size)).size)) } (lim+1):=by
 obtain⟨F,c0,c1,c2,_⟩:=Hb h hk;obtain⟨_,_,⟨x,hx⟩,_,_,r,_⟩:=h.wp.opens.at_ k b f fg pl hk;have t:=uF h c j;have l:=oq h hl c hx;rw[j]at l;refine(Xz b f fg pl n d _ w c0 c1 c2 q hn r hp t l (fun u v=>?_)).mono ?_
 ·obtain⟨m,o,a⟩:=v
  obtain⟨y,_,_,z,A⟩:=Hb a hk;exact⟨y,z,A 2⟩
 ·rintro e w' ⟨C,u,⟨m,o,a⟩,rfl⟩
  have G:((d.extract (min pl.toNat d.size) (min (min pl.toNat d.size+(min n (256-pl)).toNat) d.size)).size:Int)<=256-pl:=by
   rw[WQ];omega
  obtain⟨D,E⟩:=a.place hk (KH:=pl+(d.extract (min pl.toNat d.size) (min (min pl.toNat d.size+(min n (256-pl)).toNat) d.size)).size) (by omega) (by omega);exact⟨C,m,(o.mono (fun _ h=>h.mine)).trans (D.mono Vp),E⟩
theorem RF(h:eT tg w s i p B ey g lim)(hl:lim+2<1099511627776)(o:tP ey g.fl){k b f a:Nat}{d old:eD}(hk:g.op k=some (b,f,fg,pl))(F:(bits BinOp.and IntKind.i64 fg 2==0)=false)(hd:1<=d.size)(h0:0<=QQ fg pl 0)(h1:QQ fg pl 0+d.size<=256)(q:ub ey g.fl g.fs f=(MJ,0,old))(G:QQ fg pl old.size=(a:Int))(Q:a+d.size<=256):
  gc 123 #[hh b,.string d] w fun e w'=>e=.returned (eJ 0)/\
   ∃eF,eB (Mine i) tg eF w w'/\eT eF w' s i p B ey { g with fs:=MJ,fl:=rp g.fl f (some (0,oO old d a)),op:=rp g.op k (some (b,f,fg,(a:Int)+d.size)) } (lim+2):=by
 obtain⟨R,c0,c1,c2,_⟩:=Hb h hk;obtain⟨_,_,⟨x,hx⟩,_,_,S,_⟩:=h.wp.opens.at_ k b f fg pl hk;have H:=uF h o q;have A:=oq h (by omega) o hx;rw[q]at A;have I:=JF q;have J:(oO old d a).size<=256:=by
  have:(oO old d a).size=(tu old.data.toList d.data.toList a).length:=by simp[oO,ByteArray.size]
  rw[this,vg,<-wB,<-wB];omega
 refine(Uw b f fg pl (a:Int) old d (fun n=>jR s i p B ey tg w n { g with fs:=MJ } (lim+1)) (fun j=>∃eF,eB (Mine i) tg eF w j/\eT eF j s i p B ey { g with fs:=MJ,fl:=rp g.fl f (some (0,oO old d a)) } (lim+2)) w c0 c1 c2 F hd h0 h1 G (by omega) (by omega) A (fun n r=>?_) (fun n r=>?_) (fun j hS=>?_)).mono ?_
 ·obtain⟨K,C,t⟩:=r
  obtain⟨_,e2,L,u,_⟩:=Hb t hk;exact⟨e2,L,u⟩
 ·obtain⟨K,C,t⟩:=r
  have D:=oq t (by omega) o hx;have M:ub ey g.fl ({ g with fs:=MJ }:WG).fs f=(MJ,0,old):=I;rw[M]at D;refine(Jj f a old d _ n hd (by omega) H D (fun j N=>?_)).mono ?_
  ·obtain⟨l,m,c⟩:=N
   exact Cf c hx
  ·rintro e w' ⟨v,j,w3,⟨l,m,c⟩,E,rfl⟩
   obtain⟨y,z⟩:=(c.below E).Ca hx J;exact⟨v,l,((C.mono (fun _ h=>h.mine)).trans (m.mono (fun _ h=>h.mine))).trans ((eB.eE E).trans (y.mono JD)),z⟩
 ·obtain⟨l,m,c⟩:=hS
  obtain⟨O,_,_,u,P⟩:=Hb c hk;exact⟨O,u,P 2⟩
 ·rintro e w' ⟨v,j,⟨l,m,c⟩,rfl⟩
  obtain⟨y,z⟩:=c.place hk (KH:=(a:Int)+d.size) (by omega) (by omega);exact⟨v,l,m.trans (y.mono Vp),z⟩
def i64 (x:Int):Prop:=-9223372036854775808<=x/\x<=9223372036854775807
end
def opT (g:WG):Nat->Option Nat:=fun k=>(g.op k).map (·.1)
section
variable {s i p:Nat}{B:WB}{ey:List Ob}
theorem adc(h:eT tg w s i p B ey g lim):lg w B.wb (opT g)/\w.cell? (eI B.wb 0)=some (hh B.bt):=h.wp.opens.tab
theorem BD.aag{of:eL->Option Nat}(h:BD tg w i B of lim){q:eL}(hq:Good q)(b:ik w W):
  (Instr.lookup 161 (.map (some B.oF)) (.agg (fy q)) false).run prog W=.ok (((of q).map ptr).getD (.pointer none)) W:=by
 obtain⟨_,⟨n,_,M,a,c,_⟩,_⟩:=h
 have:=(a.keep (w':=W) (b.block _ a.lt)).look uS underlying161 (Mt W) (zu hq)
 have d:M (lC prog q)=(of q).map ptr:=c q hq;rw[d]at this;exact this
theorem pQ{P:Nat×Nat->Prop}(d:¬P (0,0))(ht:tg b=(0,0))(m:eB P tg eF W w')(a:W.heap[b]?=some o):w'.heap[b]?=some o/\eF b=(0,0):=by
 have c:=(nX.1 a).1;exact⟨(m.block b c (by rw[ht];exact d)).trans a,(m.tags b c).trans ht⟩
theorem mP(hi:2<=i):¬fK i (0,0):=by
 rintro(h|h|h)
 ·cases h
 ·injection h with h1 h2;omega
 ·injection h with h1 h2;omega
theorem JG(h:w.grownBy w' (some b)):w.grownBy (w'.alloc o) (some b):=by
 obtain⟨h1,h2,h3,a,c⟩:=h;refine⟨h1,h2,h3,by simp;omega,fun k hk d=>?_⟩;rw[mA _ _ _ (lO hk a)];exact c k hk d
def ja (w:World)(b:Nat):Prop:=w.heap[b]?=some (.cells #[.int .i64 0,.int .i64 0] 141 (0,0))
theorem ja.cells(h:ja w b):b<w.heap.size/\w.cell? (eI b 0)=some (eJ 0)/\w.cell? (eI b 1)=some (eJ 0)/\∀o,w.frozen? (eI b o)=false:=by
 unfold ja at h;exact⟨(nX.1 h).1,by simp only[World.cell?,h];rfl,by simp only[World.cell?,h];rfl,fun o=>by simp only[World.frozen?,h];simp⟩
theorem RG(t:Nat)(b c d f g a:eD)(k id er:Int)(R:World->Prop)(w:World)(her:(er==0)=false)
  (h:gc 136 #[hh t,.agg (kq b c d f g)] ((w.alloc (.cells (kq b c d f g) 147)).alloc (.cells #[eJ 0,eJ 0] 141)) fun e w'=>e=.returned (.tuple #[.agg #[.string a,eJ k,eJ id],eJ er])/\ja w' (w.heap.size+1)/\R w'):
  gc 126 #[hh t,.agg (kq b c d f g)] w fun e w'=>e=.returned (.tuple #[.agg #[eJ 0,eJ 0],eJ er])/\∃w3,R w3/\w3.grownBy w' (some (w.heap.size+1)):=by
 have i:Hid _:=h;clear h;go_enter func126,ntmps126;go_wp2_with fail;refine io i.out ?_;rintro e w3 ⟨rfl,j,l⟩;obtain⟨m,c0,c1,f0⟩:=j.cells;have n:Hid _:=l;clear j l i;go_wp2;refine lF (v:=.tuple #[.agg #[eJ 0,eJ 0],eJ er]) (by simp[results,results126,go_sem,c0,c1,m]) rfl ?_;exact⟨rfl,w3,n.out,JG (ol (ol (ui _ _)))⟩
theorem JH(w:World)(q:eL):ik w ((w.alloc (.cells (fy q) 147)).alloc (.cells #[eJ 0,eJ 0] 141)):=((lh _ _).alloc (kx _) _).alloc (by simp) _
theorem MM(w:World)(q:eL):ja ((w.alloc (.cells (fy q) 147)).alloc (.cells #[eJ 0,eJ 0] 141)) (w.heap.size+1):=by
 have:=su (w.alloc (.cells (fy q) 147)) (.cells #[eJ 0,eJ 0] 141)
 simpa [ja]using this
end
theorem XW(wb bt:Nat)(l:eL)(hl:Good l)(k sz er:Int)(R:World->Prop)(w:World)(t:wb<w.heap.size)(c0:w.cell? (eI wb 0)=some (hh bt))
  (hc:∀W,ik w W->ja W w.heap.size->gc 126 #[hh bt,.agg (fy l)] W fun e w'=>e=.returned (.tuple #[.agg #[eJ k,eJ sz],eJ er])/\ja w' w.heap.size/\R w'):
  gc 67 #[hh wb,.string (lf l)] w fun e w'=>e=.returned (.tuple #[.agg #[eJ k,eJ sz],eJ er])/\∃b,R b/\b.grownBy w' (some w.heap.size):=by
 have iD:=fun W=>iC l hl W;obtain⟨c,d,f,g,h,m⟩:∃c d f g h,fy l=(kq c d f g h):=⟨_,_,_,_,_,rfl⟩;unfold ju at iD;simp only[m]at iD hc;have j:ik w (w.alloc (.cells #[eJ 0,eJ 0] 141)):=(lh _ _).alloc (kx _) _;have n:ja (w.alloc (.cells #[eJ 0,eJ 0] 141)) w.heap.size:=su _ _;have o:wb<(w.alloc (.cells #[eJ 0,eJ 0] 141)).heap.size:=by simp;omega
 have u:=((ii j).1 wb 0 t).trans c0;have p:Hid _:=hc;have x:Hid _:=j;have y:Hid _:=n;clear hc m hl j n;generalize lf l=D at iD ⊢;go_enter func67,ntmps67;go_wp2_with(go_at_call 69;refine io (iD _) ?_;rintro e i ⟨rfl,a⟩;have d0:=((ii a).1 wb 0 o).trans u;have E:=lO o a.size);have q:ja (i.alloc (.cells (kq c d f g h) 147)).drew w.heap.size:=by
  have h1:i.heap[w.heap.size]?=_:=(a.block w.heap.size (by simp)).trans y.out;show(i.alloc _).heap[w.heap.size]?=_;rw[mA _ _ _ (nX.1 h1).1];exact h1
 have r:=p.out (i.alloc (.cells (kq c d f g h) 147)).drew (fx x.out (gS (a.alloc a.size _))) q;have z:Hid _:=r;clear r p q
 go_region_with(go_at_call 126;refine io z.out ?_;rintro e b ⟨rfl,s,A⟩;obtain⟨F,B,C,f2⟩:=s.cells;clear s)
 all_goals
  go_wp2;refine lF (v:=.tuple #[.agg #[eJ k,eJ sz],eJ er]) (by simp[results,results67,go_sem,B,C]) rfl ?_;exact⟨rfl,b,A,ol (ol (ui _ _))⟩
section
variable {s i p:Nat}{B:WB}{ey:List Ob}
theorem RH{w a w':World}(hi:2<=i)(m:eB (fK i) tg eF w a)(hW:eT eF a s i p B ey g lim)(ht:eF w.heap.size=(0,0))(hg:a.grownBy w' (some w.heap.size)):jR s i p B ey tg w w' g lim:=by
 have b:=hW.own hg ht;obtain⟨c,d,g3,f,h⟩:=hg;exact⟨eF,⟨c.trans m.os,d.trans m.tape,g3.trans m.output,wl m.size f,m.tags,fun k hk hn=>(h k (lO hk m.size) (fun e=>by injection e with e;omega)).trans (m.block k hk hn),fun hf=>b.st.fresh⟩,b⟩
end
structure gO (tg:eV)(w:World)(s i p:Nat)(B:WB)(ey:List Ob)(g:WG)(lim:Nat)(t:LT):Prop where
 inv:eT tg w s i p B ey g lim
 flat:Flat ey t g.ft
 ok:eU ey 5 t
 fl:tP ey g.fl
def OG (s i p:Nat)(B:WB)(ey:List Ob)(tg:eV)(w w':World)(lim:Nat)(R:WG->LT->Prop):Prop:=∃eF a t',eB (Mine i) tg eF w w'/\gO eF w' s i p B ey a lim t'/\R a t'
def yG (g:WG)(fs':FS)(b:LT)(a:WG)(t':LT):Prop:=t'=b/\a.fs=fs'/\a.fl=g.fl/\a.base=g.base/\a.op=g.op
section
variable {s i p:Nat}{B:WB}{ey:List Ob}
theorem gO.ws(h:gO tg w s i p B ey g lim t):B.wb<w.heap.size/\w.cell? (eI B.wb 0)=some (hh B.bt)/\lg w B.wb (fun k=>(g.op k).map (·.1)):=by
 obtain⟨h1,h2⟩:=h.inv.wp.opens.tab;exact⟨h1.1,h2,h1⟩
theorem gO.mono(h:gO tg w s i p B ey g lim t)(hl:lim<=RB):gO tg w s i p B ey g RB t:=⟨h.inv.mono hl,h.flat,h.ok,h.fl⟩
theorem gO.below(h:gO tg w s i p B ey g lim t)(a:ik w w'):gO tg w' s i p B ey g lim t:=⟨h.inv.below a,h.flat,h.ok,h.fl⟩
theorem OG.of(h:gO tg w s i p B ey g lim t)(a:Left s i p B ey tg w w' g fs' t' RB):OG s i p B ey tg w w' RB (yG g fs' t'):=by
 obtain⟨eF,kG,m,hW,hF,b⟩:=a;exact⟨eF,_,t',m,⟨hW,hF,b,h.fl⟩,rfl,rfl,rfl,rfl,rfl⟩
theorem OG.mono{R:WG->LT->Prop}(h:OG s i p B ey tg w w' lim R)(hl:lim<=RB):OG s i p B ey tg w w' RB R:=by
 obtain⟨eF,a,t',m,b,c⟩:=h;exact⟨eF,a,t',m,b.mono hl,c⟩
theorem uG(a:ik w W)(h:Left s i p B ey tg W w' g fs' t' lim):Left s i p B ey tg w w' g fs' t' lim:=by
 obtain⟨eF,kG,m,hW,hF,b⟩:=h;exact⟨eF,kG,li a m,hW,hF,b⟩
theorem aig(h:gO tg w s i p B ey g lim t)(hl:lim+1000<1099511627776)(a:Good (r.reverse++[n])):
  gc 31 #[hh B.wb,.string (lf (r.reverse++[n]))] w fun e w'=>e=.returned (eJ (gG ey t g.fs (n::r)).2.1)/\OG s i p B ey tg w w' (lim+400) (yG g (gG ey t g.fs (n::r)).1 (gG ey t g.fs (n::r)).2.2):=by
 obtain⟨c,c0,_⟩:=h.ws;refine(JE B.wb B.bt _ a _ _ w c c0 (fun W b=>(Mm (h.inv.below b) (by omega) h.flat h.ok a).mono fun e w' ⟨h1,h2⟩=>⟨h1,uG b h2⟩)).mono ?_;rintro e w' ⟨h1,h2⟩;exact⟨h1,(OG.of h h2).mono (by omega)⟩
theorem XX(h:gO tg w s i p B ey g lim t)(hl:lim+1000<1099511627776)(a:Good (r.reverse++[n])):
  gc 32 #[hh B.wb,.string (lf (r.reverse++[n]))] w fun e w'=>e=.returned (eJ (yn ey t g.fs (n::r)).2.1)/\OG s i p B ey tg w w' (lim+400) (yG g (yn ey t g.fs (n::r)).1 (yn ey t g.fs (n::r)).2.2):=by
 obtain⟨c,c0,_⟩:=h.ws;refine(EA B.wb B.bt _ a _ _ w c c0 (fun W b=>(Jt (h.inv.below b) (by omega) h.flat h.ok a).mono fun e w' ⟨h1,h2⟩=>⟨h1,uG b h2⟩)).mono ?_;rintro e w' ⟨h1,h2⟩;exact⟨h1,(OG.of h h2).mono (by omega)⟩
theorem XY(h:gO tg w s i p B ey g lim t)(hl:lim+1000<1099511627776){n a:eD}{r b:eL}(c:Good (r.reverse++[n]))(d:Good (b.reverse++[a])):
  gc 33 #[hh B.wb,.string (lf (r.reverse++[n])),.string (lf (b.reverse++[a]))] w fun e w'=>e=.returned (eJ (xc ey t g.fs (n::r) (a::b)).2.1)/\OG s i p B ey tg w w' (lim+400) (yG g (xc ey t g.fs (n::r) (a::b)).1 (xc ey t g.fs (n::r) (a::b)).2.2):=by
 obtain⟨j,c0,_⟩:=h.ws;refine(EB B.wb B.bt _ _ c d _ _ w j c0 (fun W f=>(JA (h.inv.below f) (by omega) h.flat h.ok c d).mono fun e w' ⟨h1,h2⟩=>⟨h1,uG f h2⟩)).mono ?_;rintro e w' ⟨h1,h2⟩;exact⟨h1,(OG.of h h2).mono (by omega)⟩
end
end Go.Proofs.YtlgidcmmgohagaaGreat
