/- What is proved here: whether there is room for what is moved. -/
import Derived.Test.YtlgidcmmgohagaaGreatFileM17
import Derived.Test.YtlgidcmmgohagaaGreatFileM14
import Derived.Deep.RegionHeld3
namespace Go.Proofs.YtlgidcmmgohagaaGreat
open Go.RowKit Go.Sort Go.Shelf Go.Proofs.Tryz
set_option linter.unusedVariables false
set_option maxRecDepth 100000
set_option maxHeartbeats 16000000
section
variable {s i p:Nat}{B:WB}{ey:List Ob}
theorem rI{w a:World}{b o2 o3:Obj}(h:Below (((w.alloc b).alloc o2).alloc o3).heap.size (((w.alloc b).alloc o2).alloc o3) a):w.heap.size+2<a.heap.size:=by
 have h2:=h.size;rw[sr,sr,sr]at h2;omega
theorem pP{w a:World}{b o2 o3:Obj}(h:Below (((w.alloc b).alloc o2).alloc o3).heap.size (((w.alloc b).alloc o2).alloc o3) a):ik w a:=
 fx ((((lh w.heap.size w).alloc (kx _) _).alloc (by simp) _).alloc (by simp;omega) _) h
theorem mO{w c:World}{a o2 o3:Obj}(h:Below (((w.alloc a).alloc o2).alloc o3).heap.size (((w.alloc a).alloc o2).alloc o3) c)(b o:Nat)(d:b<w.heap.size+3):c.cell? (eI b o)=(((w.alloc a).alloc o2).alloc o3).cell? (eI b o):=
 (ii h).1 b o (by rw[sr,sr,sr];omega)
theorem sA.at_{tg:eV}{w:World}{v:Value}{es:List eN}(h:sA tg w i v es){k:Nat}(hk:k<es.length):∃a c,v=.slice (some (eI a 0)) es.length c/\a<w.heap.size/\w.cell? (eI a (k*3))=some (.string (es[k]).1)/\w.cell? (eI a (k*3+1))=some (eJ (es[k]).2.1)/\w.cell? (eI a (k*3+2))=some (eJ (es[k]).2.2):=by
 obtain⟨a,d,rfl⟩:=fj h.1 (by omega);obtain⟨c0,c1,c2⟩:=vM (b:=a) (fun j e hu=>by have:=jn h.1 j e hu;rwa [iP]at this) hk;exact⟨a,d,rfl,eK h.1 rfl,c0,c1,c2⟩
theorem Gg{ks:Kids}(hr:eP ks){n:eD}{e:LT}(hp:ip ks n=some e):∃h:pD (ks.map mn) n<(ks.map mn).length,(ks.map mn)[pD (ks.map mn) n]=(n,e.kind,e.id):=by
 have a:iv (ks.map mn) n=true:=by rw[WF,<-oY hr,hp];rfl
 obtain⟨h1,h2⟩:=nw a;have hg:=oC (n:=n) (by rw[lK];exact kT _ hr:eP (ks.map mn));rw[a,ie rfl,jy h1,mq,Ig,hp,mq,mZ]at hg;exact⟨h1,Ay h2 hg.symm⟩
theorem Mo{tg:eV}{w:World}{g:WG}{lim:Nat}{t x d e:LT}(h:eT tg w s i p B ey g lim)(hl:lim+10<1099511627776)(hF:Flat ey t g.ft){k:Nat}(G:eU ey k t){H c:eL}{a:eD}(hf:Good H)(hq:Good (c++[a])){ks:Kids}(I:t.at ey c=some d)(hk:kids ey d=some ks)(hp:ip ks a=some e){v:Value}(hs:sA tg w i v (ks.map mn))(O:eD):
  gc 141 #[hh B.bt,.agg (fy H),.agg (fy (c++[a])),.agg #[.string O,eJ x.kind,eJ x.id],v] w fun Y w'=>Y=.returned (eJ (jd ey g.fs e x).2)/\jR s i p B ey tg w w' { g with fs:=(jd ey g.fs e x).1 } (lim+1):=by
 have hS:=h.st.sound;obtain⟨n,P,Z⟩:=lj hS (py hS _ G I).2.1 hk;have Q:eP (ks.map mn):=by rw[lK];exact kT _ n
 have R:(ks.map mn).length<=16:=by rw[nD];exact P
 obtain⟨qi,S⟩:=Gg n hp;have T:t.at ey (c++[a])=some e:=by rw[kB,I,qr,kh,hk,qr,hp,qr,mr]
 have U:iv (ks.map mn) a=true:=by rw[WF,<-oY n,hp];rfl
 have b:=fun W (J:ik w W)=>Mn (x:=x) (h.below J) hl hF G hq T a O;have j:=fun W2 (J:ik w W2)=>gY (hs.below J).1 a Q R;rw[U]at j;obtain⟨K,ae,rfl,q,r,l,m⟩:=hs.at_ qi;rw[S]at r l m;clear S;generalize (ks.map mn).length=af at j qi R ⊢;generalize pD (ks.map mn) a=L at j qi r l m;have u:=fun W=>jY (c++[a]) hq (by simp) W;simp only[EY]at u;obtain⟨y,z,A,C,D,M⟩:∃y z A C D,fy (c++[a])=(kq y z A C D):=⟨_,_,_,_,_,rfl⟩;obtain⟨ag,ah,ai,aj,ak,V⟩:∃y z A C D,fy H=(kq y z A C D):=⟨_,_,_,_,_,rfl⟩;unfold ju at u;simp only[M]at u b;rw[M,V];generalize jd ey g.fs e x=al at b ⊢;simp only at r l m;generalize e.kind=am at b l;generalize e.id=an at b m;generalize x.kind=ao at b ⊢;generalize x.id=ap at b ⊢;have aa:Hid _:=j;have ab:Hid _:=b;clear h j b M V hF G I hk hp hs hS n P Z Q T U;go_enter func141,ntmps141;go_wp2_with(first
  |(go_at_call 134;refine(u _).mono ?_;rintro e aq ⟨rfl,E⟩;have N:=rI E;have ar:=mO E (w.heap.size+1);have au:=mO E (w.heap.size+2);have X:=pP E)
  |(go_at_call 133;go_loud(refine(aa.out _ X).mono ?_;rintro e ac ⟨rfl,F⟩;have f:=fx X F;have av:=fun o=>(ii F).1 (w.heap.size+1) o (Hg N);have k4:=fun o=>(ii F).1 (w.heap.size+2) o N;have ad:=lO N F.size;have aw:w.heap.size+1<ac.heap.size:=Hg ad;have ax:=lO q f.size;have ay:=((ii f).1 K (L*3) q).trans r;have az:=((ii f).1 K (L*3+1) q).trans l;have aA:=((ii f).1 K (L*3+2) q).trans m)))
 go_region_with(go_at_call 195;go_loud(refine(ab.out _ (gS f)).mono ?_;rintro e w3 ⟨rfl,TD⟩))
 all_goals
  go_wp2;go_ret;exact⟨rfl,TD.via (gS f)⟩
theorem Rm{tg:eV}{w:World}{g:WG}{lim:Nat}{t d:LT}(h:eT tg w s i p B ey g lim)(hF:Flat ey t g.ft){k:Nat}(R:eU ey k t){n l:(List ByteArray)}{J z:ByteArray}(hf:Good (n ++ [J]))(hq:Good (l ++ [z])){ks:Kids}(S:t.at ey l=some d)(hk:kids ey d=some ks)(hp:ip ks z=none){v:Value}(hs:sA tg w i v (ks.map mn))(ah:ByteArray)(ai aj:Int):
  Calls prog 141 #[.pointer (some ⟨B.bt,0,none⟩),.agg (fy (n ++ [J])),.agg (fy (l ++ [z])),.agg #[.string ah,.int .i64 ai,.int .i64 aj],v] w fun ak w'=>ak=.returned (.int .i64 (if 16<=ks.length/\n≠l then 11 else 0))/\jR s i p B ey tg w w' g lim:=by
 have hS:=h.st.sound;obtain⟨L,T,al⟩:=lj hS (py hS _ R S).2.1 hk;have U:eP (ks.map mn):=by rw[lK];exact kT _ L
 have V:(ks.map mn).length<=16:=by rw[List.length_map];exact T
 have X:iv (ks.map mn) z=false:=by rw[WF,<-oY L,hp];rfl
 have F:=fun W2 (am:Below w.heap.size w W2)=>gY (hs.below am).1 z U V;rw[X] at F;obtain⟨la,au,rfl⟩:=hs.len;rw[List.length_map] at F V ⊢;generalize pD (ks.map mn) z=av at F;have D:=fun W=>jY (l ++ [z]) hq (by simp) W;simp only[List.getLast_concat] at D;have G:=fun W=>gp (l ++ [z]) hq W;have H:=fun W=>gp (n ++ [J]) hf W;have an:Good l:=by have:=hq.dropLast;rwa [List.dropLast_concat] at this
 have ao:Good n:=by have:=hf.dropLast;rwa [List.dropLast_concat] at this
 have heq:=fun W=>yr ao an W;rw[List.dropLast_concat] at G H;obtain⟨q,r,u,x,y,M⟩:∃q r u x y,fy (l ++ [z]) = #[.string q,.string r,.string u,.string x,.string y]:=⟨_,_,_,_,_,rfl⟩;obtain⟨Y,Z,aa,ab,ac,N⟩:∃q r u x y,fy (n ++ [J]) = #[.string q,.string r,.string u,.string x,.string y]:=⟨_,_,_,_,_,rfl⟩;obtain⟨t0,t1,t2,t3,t4,ad⟩:∃q r u x y,fy l = #[.string q,.string r,.string u,.string x,.string y]:=⟨_,_,_,_,_,rfl⟩;obtain⟨f0,f1,f2,f3,f4,ae⟩:∃q r u x y,fy n = #[.string q,.string r,.string u,.string x,.string y]:=⟨_,_,_,_,_,rfl⟩;have I:∀W,(Op.equalIn 10000 147 (ju n) (ju l)).run prog W=.ok (decide (n=l)) W:=heq;unfold ju at D G H I;simp only[M,N,ad,ae] at D G H I;rw[M,N];have O:Hid _:=F;have P:Hid _:=h;clear h F M N ad ae hF R S hk hp hs hS L T al U X heq;by_cases iE:16<=ks.length
 ·have ap:(16:Int)<=(ks.length:Int):=by omega
  by_cases K:n=l
  ·rw[if_neg (fun h=>h.2 K)]
   rw[decide_eq_true K] at I;clear iE;go_enter func141,ntmps141;go_wp2_with (first
    | (go_at_call 134;refine (D _).mono ?_;rintro e af ⟨rfl,f⟩;have A:=rI f;have ag:=mO f (w.heap.size+1);have aq:=mO f w.heap.size;have C:=pP f)
    | (go_at_call 133;go_loud (refine (O.out _ C).mono ?_;rintro e E ⟨rfl,m⟩;have b:=fx C m;have ar:=fun o=>(ii m).1 (w.heap.size+1) o (Nat.lt_of_succ_lt A);have k4:=fun o=>(ii m).1 w.heap.size o (Nat.lt_of_succ_lt (Nat.lt_of_succ_lt A));have c:w.heap.size+1<E.heap.size:=Nat.lt_of_lt_of_le (Nat.lt_of_succ_lt A) m.size;have j:w.heap.size<E.heap.size:=Nat.lt_of_succ_lt c;replace b:=gS b)))
   go_region_with (first
    | (go_at_call_of 132 (Value.agg #[.string q,.string r,.string u,.string x,.string y]);refine (G _).mono ?_;rintro e w3 ⟨rfl,a⟩;replace b:=fx b a;have k5:=fun o=>(ii a).1 (w.heap.size+1) o c;have Q:=fun o=>(ii a).1 w.heap.size o j;replace c:=Nat.lt_of_lt_of_le c a.size;replace j:=Nat.lt_of_lt_of_le j a.size)
    | (go_at_call_of 132 (Value.agg #[.string Y,.string Z,.string aa,.string ab,.string ac]);refine (H _).mono ?_;rintro e w3 ⟨rfl,a⟩;replace b:=fx b a;have k5:=fun o=>(ii a).1 (w.heap.size+1) o c;have Q:=fun o=>(ii a).1 w.heap.size o j;replace c:=Nat.lt_of_lt_of_le c a.size;replace j:=Nat.lt_of_lt_of_le j a.size))
   all_goals
    go_wp2;go_ret;exact⟨rfl,oo P.out b⟩
  ·rw[if_pos ⟨iE,K⟩]
   rw[decide_eq_false K] at I;clear iE;go_enter func141,ntmps141;go_wp2_with (first
    | (go_at_call 134;refine (D _).mono ?_;rintro e af ⟨rfl,f⟩;have A:=rI f;have ag:=mO f (w.heap.size+1);have aq:=mO f w.heap.size;have C:=pP f)
    | (go_at_call 133;go_loud (refine (O.out _ C).mono ?_;rintro e E ⟨rfl,m⟩;have b:=fx C m;have ar:=fun o=>(ii m).1 (w.heap.size+1) o (Nat.lt_of_succ_lt A);have k4:=fun o=>(ii m).1 w.heap.size o (Nat.lt_of_succ_lt (Nat.lt_of_succ_lt A));have c:w.heap.size+1<E.heap.size:=Nat.lt_of_lt_of_le (Nat.lt_of_succ_lt A) m.size;have j:w.heap.size<E.heap.size:=Nat.lt_of_succ_lt c;replace b:=gS b)))
   go_region_with (first
    | (go_at_call_of 132 (Value.agg #[.string q,.string r,.string u,.string x,.string y]);refine (G _).mono ?_;rintro e w3 ⟨rfl,a⟩;replace b:=fx b a;have k5:=fun o=>(ii a).1 (w.heap.size+1) o c;have Q:=fun o=>(ii a).1 w.heap.size o j;replace c:=Nat.lt_of_lt_of_le c a.size;replace j:=Nat.lt_of_lt_of_le j a.size)
    | (go_at_call_of 132 (Value.agg #[.string Y,.string Z,.string aa,.string ab,.string ac]);refine (H _).mono ?_;rintro e w3 ⟨rfl,a⟩;replace b:=fx b a;have k5:=fun o=>(ii a).1 (w.heap.size+1) o c;have Q:=fun o=>(ii a).1 w.heap.size o j;replace c:=Nat.lt_of_lt_of_le c a.size;replace j:=Nat.lt_of_lt_of_le j a.size))
   all_goals
    go_wp2;go_ret;exact⟨rfl,oo P.out b⟩
 ·have ap:decide ((16:Int)<=(ks.length:Int))=false:=decide_eq_false (by omega)
  rw[if_neg (fun h=>iE h.1)];clear I;go_enter func141,ntmps141;go_wp2_with (first
   | (go_at_call 134;refine (D _).mono ?_;rintro e af ⟨rfl,f⟩;have A:=rI f;have ag:=mO f (w.heap.size+1);have C:=pP f)
   | (go_at_call 133;go_loud (refine (O.out _ C).mono ?_;rintro e E ⟨rfl,m⟩;have b:=fx C m)))
  go_region
  all_goals
   go_wp2;go_ret;exact⟨rfl,oo P.out (gS b)⟩
end
theorem size_del{D:DataW Value}{kl:Lit}(h:Maps.has D kl=true):Maps.size (D.del kl)<Maps.size D:=by
 cases D with
 |map es=>
  rw[Maps.has_eq,List.any_eq_true]at h;obtain⟨x,hx,hs⟩:=h;rw[DataW.del_eq];show(es.filter _).length<es.length;refine List.length_filter_lt_length_iff_exists.2 ⟨x,hx,?_⟩;unfold ChangeMaps.notKey;rw[hs];simp
 |_=>cases h
theorem Mp{w:World}{k:gi}{b n m:Nat}{D:DataW Value}(h:w.ownsMap prog k iu b n D)(hm:Maps.size D<=m):w.ownsMap prog k iu b m D:=by
 obtain⟨es,a,c,F,hs,rfl⟩:=h;exact⟨es,a,c,F,by simpa [Maps.size,length_sorted]using hm,rfl⟩
theorem iZ.UW{w:World}{k:gi}{b n:Nat}{M:Lit->Option Value}(h:iZ w k b (n+1) M)(K:Maps.Keyed prog k){t e:gi}(ht:prog.underlying t=some (.map k e))
  {key:Value}{kl:Lit}(a:keyOf prog k key=some kl)(f:(M kl).isSome=true)(c:gi):
  ∃w',(Builtin.delete_ #[t,k] c #[.map (some b),key]).run prog w=.ok (.tuple #[]) w'/\iZ w' k b n (AU M kl none)/\w.grownBy w' (some b)/\w'.heap.size=w.heap.size:=by
 obtain⟨D,hD,d⟩:=h;obtain⟨w',g,i,hg⟩:=hD.drop K ht a c;have h1:=size_del (D:=D) (kl:=kl) (by rw[AR (d kl (K.key a))];exact f);have h2:=hD.size_le;refine⟨w',g,⟨_,Mp i (by omega),Ib d kl⟩,hg.grown,?_⟩;obtain⟨es,j,es',l,m,rfl⟩:=hg;simp[ChangeMaps.setBlock]
theorem iN.UW{w:World}{b n:Nat}{f:eL->Option Value}(h:iN w b (n+1) f){t e:gi}(ht:prog.underlying t=some (.map 147 e)){q:eL}(hq:Good q)(hf:(f q).isSome=true)(a:gi):
  ∃w',(Builtin.delete_ #[t,147] a #[.map (some b),.agg (fy q)]).run prog w=.ok (.tuple #[]) w'/\iN w' b n (upd f q none)/\w.grownBy w' (some b)/\w'.heap.size=w.heap.size:=by
 obtain⟨M,c,h1,h2⟩:=h;obtain⟨w',d,g,hg,hs⟩:=c.UW uS ht (zu hq) (by rw[h1 q hq];exact hf) a;refine⟨w',d,⟨_,g,fun x hx=>?_,fun kl hk hne=>?_⟩,hg,hs⟩
 ·by_cases e:x=q
  ·subst e;rw[kR,upd_same]
  ·rw[gW (fun i=>e (qC hx hq i)),hE e,h1 x hx]
 ·by_cases e:kl=lC prog q
  ·rw[e,kR]at hne;exact absurd rfl hne
  ·rw[gW e]at hne;exact h2 kl hk hne
theorem iN.look{w:World}{b n:Nat}{f:eL->Option Value}(h:iN w b n f){t e:gi}(ht:prog.underlying t=some (.map 147 e)){z:Value}(a:(zeroValue e).run prog w=.ok z w){q:eL}(hq:Good q):
  (Instr.lookup t (.map (some b)) (.agg (fy q)) false).run prog w=.ok ((f q).getD z) w:=by
 obtain⟨M,c,h1,_⟩:=h
 have:=c.look uS ht a (zu hq)
 rw[h1 q hq]at this;exact this
section
open Classical
variable {β:Type}
def kL (src a p:eL):eL:=a++p.drop src.length
noncomputable def carried (f:eL->Option β)(src dst:eL)(L:List (eL)):eL->Option β:=fun x=>
 if dst <+: x/\src++x.drop dst.length∈L then f (src++x.drop dst.length)else if x∈L then none else f x
theorem zx(f:eL->Option β)(src a:eL)(x:eL):carried f src a [] x=f x:=by
 unfold carried;simp
theorem xB{src p:eL}(h:src <+: p):src++p.drop src.length=p:=by
 obtain⟨r,rfl⟩:=h;rw[pZ]
theorem Gh{f:eL->Option β}{src a:eL}{L:List (eL)}{p:eL}(b:∀x,a <+: x->f x=none)(d:∀x∈L,src <+: x/\f x≠none)(hp:src <+: p)(hf:f p≠none)(hn:p∉L):
  carried f src a L p=f p/\∀x,upd (upd (carried f src a L) (kL src a p) (f p)) p none x=carried f src a (L++[p]) x:=by
 have Ws:¬a <+: p:=fun h=>hf (b p h);refine⟨by unfold carried;rw[fY (fun h=>Ws h.1),fY hn],fun x=>?_⟩;by_cases hx:x=p
 ·subst hx
  rw[upd_same];unfold carried;rw[fY (fun h=>Ws h.1),ie (by simp)]
 ·rw[hE hx]
  by_cases hm:x=kL src a p
  ·subst hm
   rw[upd_same];unfold carried kL;rw[pZ,xB hp,ie ⟨nG _ _,by simp⟩]
  ·rw[hE hm]
   unfold carried;by_cases hd:a <+: x
   ·have hne:src++x.drop a.length≠p:=fun e=>hm (by
     unfold kL;rw[<-e,pZ,xB hd])
    have c:(a <+: x/\src++x.drop a.length∈L)↔(a <+: x/\src++x.drop a.length∈L++[p]):=(by simp[hne]);have e2:(x∈L)↔(x∈L++[p]):=by simp[hx]
    simp only[c,e2]
   ·have e2:(x∈L)↔(x∈L++[p]):=by simp[hx]
    simp only[hd,false_and,Py,e2]
theorem zy{f:eL->Option β}{src a:eL}{L:List (eL)}(d:∀x,a <+: x->f x=none)(b:∀x,x∈L↔(src <+: x/\f x≠none))(x:eL):carried f src a L x=xa f src a x:=by
 unfold carried xa;by_cases hd:a <+: x
 ·rw[ie hd]
  by_cases hm:src++x.drop a.length∈L
  ·rw[ie ⟨hd,hm⟩]
  ·rw[fY (fun h=>hm h.2)]
   have h0:f (src++x.drop a.length)=none:=by
    cases c:f (src++x.drop a.length) with
    |none=>rfl
    |some y=>exact absurd ((b _).2 ⟨nG _ _,by rw[c];simp⟩) hm
   rw[h0];split
   ·rfl
   ·exact d x hd
 ·rw[fY hd,fY (fun h=>hd h.1)]
  by_cases hs:src <+: x
  ·rw[ie hs]
   by_cases hm:x∈L
   ·rw[ie hm]
   ·rw[fY hm]
    cases c:f x with
    |none=>rfl
    |some y=>exact absurd ((b _).2 ⟨hs,by rw[c];simp⟩) hm
  ·rw[fY hs,fY (fun h=>hs ((b _).1 h).1)]
end
def qK (f:eL->Option Value)(src:eL)(left:Lit->Bool)(L:List (eL)):Prop:=
 L.Nodup/\∀x,x∈L↔(Good x/\src <+: x/\f x≠none/\left (lC prog x)=false)
theorem Dk{f:eL->Option Value}{src:eL}{left:Lit->Bool}{L:List (eL)}(h:qK f src left L){q:eL}(hq:Good q)(hs:¬src <+: q):qK f src (fun z=>left z&&!z.sameKey (lC prog q)) L:=by
 refine⟨h.1,fun x=>?_⟩;rw[h.2 x];refine⟨fun⟨a,b,c,d⟩=>⟨a,b,c,by simp only[d,Bool.false_and]⟩,fun⟨a,b,c,d⟩=>⟨a,b,c,?_⟩⟩;have hne:lC prog x≠lC prog q:=fun e=>hs (by rw[<-qC a hq e];exact b);simp only[Maps.sameKey_ne hne,Bool.not_false,Bool.and_true]at d;exact d
theorem Gi{f:eL->Option Value}{src:eL}{left:Lit->Bool}{L:List (eL)}(h:qK f src left L){q:eL}(hq:Good q)(hs:src <+: q)(hf:f q≠none)(hl:left (lC prog q)=true):qK f src (fun z=>left z&&!z.sameKey (lC prog q)) (L++[q]):=by
 refine⟨List.nodup_append.2 ⟨h.1,by simp,fun a k b j=>?_⟩,fun x=>?_⟩
 ·simp only[nh]at j
  subst j;rintro rfl
  have:=((h.2 a).1 k).2.2.2
  rw[hl]at this;cases this
 ·simp only[sB,nh]
  by_cases e:x=q
  ·subst e
   refine⟨fun _=>⟨hq,hs,hf,?_⟩,fun _=>.inr rfl⟩;have hk:=WideAt.sameKey_self (Oq hq);generalize lC prog x=g at hk hl;show(left g&&!g.sameKey g)=false;rw[hk,Bool.not_true,Bool.and_false]
  ·rw[h.2 x]
   refine⟨fun i=>?_,fun⟨a,b,c,d⟩=>.inl ⟨a,b,c,?_⟩⟩
   ·rcases i with⟨a,b,c,d⟩|i
    ·exact⟨a,b,c,by simp only[d,Bool.false_and]⟩
    ·exact absurd i e
   ·have hne:lC prog x≠lC prog q:=fun l=>e (qC a hq l)
    simp only[Maps.sameKey_ne hne,Bool.not_false,Bool.and_true]at d;exact d
theorem XJ(g b c d f x:eD)(w:World)
  (hd:∀W,gc 142 #[.agg #[.string g,.string b,.string c,.string d,.string f]] W (pB (eJ 0) W)):
  gc 196 #[.agg #[.string g,.string b,.string c,.string d,.string f],.string x] w (pB (.agg #[.string x,.string b,.string c,.string d,.string f]) w):=by
 go_enter func196,ntmps196;go_wp2_with(go_at_call 142;refine(hd _).mono ?_;rintro e h ⟨rfl,a⟩;have i:=mN a;obtain⟨k,l⟩:=i;have m:=fun o=>(ii a).1 w.heap.size o (by simp;omega);have f1:=fun o=>(ii a).2 w.heap.size o (by simp;omega);have j:=fun o=>(ii a).1 (w.heap.size+1) o (by simp);have f2:=fun o=>(ii a).2 (w.heap.size+1) o (by simp));exact lF (v:=.agg #[.string x,.string b,.string c,.string d,.string f]) (by simp[results,results196,go_sem,j]) rfl ⟨rfl,by
   have h1:ik w h:=fx (((lh _ _).alloc (kx _) _).alloc (by simp) _) a
   repeat(refine qZ ?_ (by simp) _)
   exact h1⟩
theorem XK(b g c d f x:eD)(w:World)
  (hd:∀W,gc 142 #[.agg #[.string b,.string g,.string c,.string d,.string f]] W (pB (eJ 1) W)):
  gc 196 #[.agg #[.string b,.string g,.string c,.string d,.string f],.string x] w (pB (.agg #[.string b,.string x,.string c,.string d,.string f]) w):=by
 go_enter func196,ntmps196;go_wp2_with(go_at_call 142;refine(hd _).mono ?_;rintro e h ⟨rfl,a⟩;have i:=mN a;obtain⟨k,l⟩:=i;have m:=fun o=>(ii a).1 w.heap.size o (by simp;omega);have f1:=fun o=>(ii a).2 w.heap.size o (by simp;omega);have j:=fun o=>(ii a).1 (w.heap.size+1) o (by simp);have f2:=fun o=>(ii a).2 (w.heap.size+1) o (by simp));exact lF (v:=.agg #[.string b,.string x,.string c,.string d,.string f]) (by simp[results,results196,go_sem,j]) rfl ⟨rfl,by
   have h1:ik w h:=fx (((lh _ _).alloc (kx _) _).alloc (by simp) _) a
   repeat(refine qZ ?_ (by simp) _)
   exact h1⟩
theorem XL(b c g d f x:eD)(w:World)
  (hd:∀W,gc 142 #[.agg #[.string b,.string c,.string g,.string d,.string f]] W (pB (eJ 2) W)):
  gc 196 #[.agg #[.string b,.string c,.string g,.string d,.string f],.string x] w (pB (.agg #[.string b,.string c,.string x,.string d,.string f]) w):=by
 go_enter func196,ntmps196;go_wp2_with(go_at_call 142;refine(hd _).mono ?_;rintro e h ⟨rfl,a⟩;have i:=mN a;obtain⟨k,l⟩:=i;have m:=fun o=>(ii a).1 w.heap.size o (by simp;omega);have f1:=fun o=>(ii a).2 w.heap.size o (by simp;omega);have j:=fun o=>(ii a).1 (w.heap.size+1) o (by simp);have f2:=fun o=>(ii a).2 (w.heap.size+1) o (by simp));exact lF (v:=.agg #[.string b,.string c,.string x,.string d,.string f]) (by simp[results,results196,go_sem,j]) rfl ⟨rfl,by
   have h1:ik w h:=fx (((lh _ _).alloc (kx _) _).alloc (by simp) _) a
   repeat(refine qZ ?_ (by simp) _)
   exact h1⟩
theorem XM(b c d g f x:eD)(w:World)
  (hd:∀W,gc 142 #[.agg #[.string b,.string c,.string d,.string g,.string f]] W (pB (eJ 3) W)):
  gc 196 #[.agg #[.string b,.string c,.string d,.string g,.string f],.string x] w (pB (.agg #[.string b,.string c,.string d,.string x,.string f]) w):=by
 go_enter func196,ntmps196;go_wp2_with(go_at_call 142;refine(hd _).mono ?_;rintro e h ⟨rfl,a⟩;have i:=mN a;obtain⟨k,l⟩:=i;have m:=fun o=>(ii a).1 w.heap.size o (by simp;omega);have f1:=fun o=>(ii a).2 w.heap.size o (by simp;omega);have j:=fun o=>(ii a).1 (w.heap.size+1) o (by simp);have f2:=fun o=>(ii a).2 (w.heap.size+1) o (by simp));exact lF (v:=.agg #[.string b,.string c,.string d,.string x,.string f]) (by simp[results,results196,go_sem,j]) rfl ⟨rfl,by
   have h1:ik w h:=fx (((lh _ _).alloc (kx _) _).alloc (by simp) _) a
   repeat(refine qZ ?_ (by simp) _)
   exact h1⟩
theorem XN(b c d f g x:eD)(w:World)
  (hd:∀W,gc 142 #[.agg #[.string b,.string c,.string d,.string f,.string g]] W (pB (eJ 4) W)):
  gc 196 #[.agg #[.string b,.string c,.string d,.string f,.string g],.string x] w (pB (.agg #[.string b,.string c,.string d,.string f,.string x]) w):=by
 go_enter func196,ntmps196;go_wp2_with(go_at_call 142;refine(hd _).mono ?_;rintro e h ⟨rfl,a⟩;have i:=mN a;obtain⟨k,l⟩:=i;have m:=fun o=>(ii a).1 w.heap.size o (by simp;omega);have f1:=fun o=>(ii a).2 w.heap.size o (by simp;omega);have j:=fun o=>(ii a).1 (w.heap.size+1) o (by simp);have f2:=fun o=>(ii a).2 (w.heap.size+1) o (by simp));exact lF (v:=.agg #[.string b,.string c,.string d,.string f,.string x]) (by simp[results,results196,go_sem,j]) rfl ⟨rfl,by
   have h1:ik w h:=fx (((lh _ _).alloc (kx _) _).alloc (by simp) _) a
   repeat(refine qZ ?_ (by simp) _)
   exact h1⟩
theorem Rn(l:eL)(hg:Good l)(e:l.length<=4)(x:eD)(w:World):gc 196 #[ju l,.string x] w (pB (ju (l++[x])) w):=by
 have hd:=fun W=>mL l hg.val hg.len W
 match l,e,hd with
 |[],_,hd=>exact XJ _ _ _ _ _ x w hd
 |[a],_,hd=>exact XK _ _ _ _ _ x w hd
 |[a,b],_,hd=>exact XL _ _ _ _ _ x w hd
 |[a,b,c],_,hd=>exact XM _ _ _ _ _ x w hd
 |[a,b,c,d],_,hd=>exact XN _ _ _ _ _ x w hd
theorem uC(l:eL)(j:Nat):(fy l).toList[j]?=if j<5 then some (.string (l.getD j hZ))else none:=by
 by_cases h:j<5
 ·rw[ie h]
  rcases(show j=0\/j=1\/j=2\/j=3\/j=4 by omega)with rfl|rfl|rfl|rfl|rfl<;>rfl
 ·rw[fY h];exact oZ (by show 5<=j;omega)
def xn (p:eL)(f d:Nat):fQ:=((fy p).toList.drop f).take (Nat.min (5-f) (5-d))
theorem yB(p:eL)(f d:Nat):(xn p f d).length=Nat.min (5-f) (5-d):=by
 have:(fy p).toList.length=5:=rfl
 unfold xn;rw[gT,lz,this];exact xQ (Nat.min_le_left _ _)
theorem Ro{src a r:eL}(hs:src.length+r.length<=5)(hd:a.length+r.length<=5):
  (fy a).toList.take a.length++xn (src++r) src.length a.length++(fy a).toList.drop (a.length+(xn (src++r) src.length a.length).length)=(fy (a++r)).toList:=by
 have hl:(fy a).toList.length=5:=rfl;have hk:=yB (src++r) src.length a.length;generalize oV:Nat.min (5-src.length) (5-a.length)=k at hk;have b:k<=5-a.length:=by rw[<-oV];exact Nat.min_le_right _ _
 have hk2:r.length<=k:=by rw[<-oV];exact Nat.le_min.2 ⟨by omega,by omega⟩
 have c:k<=5-src.length:=by rw[<-oV];exact Nat.min_le_left _ _
 refine KL fun j=>?_;rw[uC];by_cases h1:j<a.length
 ·rw[qX (by rw[mb,gT,hl];omega),qX (by rw[gT,hl];omega),KI h1,uC,ie (by omega),ie (by omega)]
  rw[wh,wh,qX h1]
 ·by_cases h2:j<a.length+k
  ·rw[qX (by rw[mb,gT,hl,hk];omega),CJ (by rw[gT,hl];omega),gT,hl,xQ (by omega)]
   unfold xn;rw[oV,KI (by omega),Ph,uC,ie (by omega),ie (by omega)];rw[wh,wh,CJ (by omega),CJ (by omega)]
   congr 3
   congr 1
   omega
  ·rw[CJ (by rw[mb,gT,hl,hk];omega),mb,gT,hl,hk,Ph,uC,xQ (by omega)]
   rw[show a.length+k+(j-(a.length+k))=j by omega];by_cases h3:j<5
   ·rw[ie h3,ie h3,wh,wh,oZ (by omega),oZ (by rw[mb];omega)]
   ·rw[fY h3,fY h3]
def xC (d:Nat):Nat:=if d=5 then 0 else d
theorem slP(b d:Nat)(hd:d<=5)(W:World):(Instr.sliceAt 147 (hh b) (some (eJ (d:Int))) none none).run prog W=.ok (.slice (some (eI b (xC d))) (5-d) (5-d)) W:=by
 rcases(show d=0\/d=1\/d=2\/d=3\/d=4\/d=5 by omega)with rfl|rfl|rfl|rfl|rfl|rfl<;>kernel_rfl
theorem Rp{src a r:eL}(hs:src.length+r.length<=5)(hd:a.length+r.length<=5):
  (fy a).toList.take (xC a.length)++xn (src++r) src.length a.length++(fy a).toList.drop (xC a.length+(xn (src++r) src.length a.length).length)=(fy (a++r)).toList:=by
 unfold xC;by_cases h:a.length=5
 ·have hr:r=[]:=Ao.1 (by omega)
  have h0:xn (src++r) src.length a.length=[]:=Ao.1 (by rw[yB,h];exact Nat.le_zero.1 (Nat.min_le_right _ _));rw[h0,ie h,hr];simp
 ·rw[fY h];exact Ro hs hd
def four (w:World)(p src a:eL):World:=(((w.alloc (.cells (fy p) 147)).alloc (.cells (fy src) 147)).alloc (.cells (fy a) 147)).alloc (.cells (fy []) 147)
theorem Et(w:World)(p src a:eL):(four w p src a).heap.size=w.heap.size+4:=by unfold four;simp only[sr]
theorem Mq(w:World)(p src a:eL):ik w (four w p src a):=by
 unfold four;exact((((lh w.heap.size w).alloc (kx _) _).alloc (by simp) _).alloc (by simp;omega) _).alloc (by simp;omega) _
theorem OA(w:World)(p src a:eL):(four w p src a).heap[w.heap.size]?=some (.cells (fy p) 147 (0,0))/\(four w p src a).heap[w.heap.size+2]?=some (.cells (fy a) 147 (0,0))/\(four w p src a).heap[w.heap.size+3]?=some (.cells (fy []) 147 (0,0)):=by
 unfold four World.alloc;refine⟨?_,?_,?_⟩
 ·rw[Array.getElem?_push_lt (by simp;omega),Array.getElem_push_lt (by simp;omega),Array.getElem_push_lt (by simp),Array.getElem_push_eq]
 ·rw[Array.getElem?_push_lt (by simp),Array.getElem_push,dif_neg (by simp)]
 ·rw[cpu,ie (by simp)]
theorem Mr{w W:World}{src a r:eL}(hs:src.length+r.length<=5)(hd:a.length+r.length<=5)(b:Below (four w (src++r) src a).heap.size (four w (src++r) src a) W):
  ∃w3,(∀c,(Builtin.copy_ #[131,131] c #[.slice (some (eI (w.heap.size+2) (xC a.length))) (5-a.length) (5-a.length),.slice (some (eI w.heap.size (xC src.length))) (5-src.length) (5-src.length)]).run prog W=.ok (goInt (Nat.min (5-src.length) (5-a.length))) w3)/\ik w w3/\w.heap.size+3<w3.heap.size/\
   w3.heap[w.heap.size+2]?=some (.cells (fy (a++r)) 147 (0,0))/\w3.heap[w.heap.size+3]?=some (.cells (fy []) 147 (0,0)):=by
 have n:=Et w (src++r) src a;obtain⟨h0,h2,h3⟩:=OA w (src++r) src a;have f:W.heap[w.heap.size]?=_:=(b.block _ (by omega)).trans h0;have d:W.heap[w.heap.size+2]?=_:=(b.block _ (by omega)).trans h2;have g3:W.heap[w.heap.size+3]?=_:=(b.block _ (by omega)).trans h3;have hk:=yB (src++r) src.length a.length;have g:=Rp hs hd;have h:(fy a).size=5:=rfl;have i:xC a.length+(xn (src++r) src.length a.length).length<=(fy a).size:=by
  rw[hk,h];have h1:Nat.min (5-src.length) (5-a.length)<=5-a.length:=Nat.min_le_right _ _;unfold xC;split<;>omega
 have k:∀v∈xn (src++r) src.length a.length,v.oneCell'=true:=fun v hv=>by
  unfold xn at hv
  have:=KN (zP hv)
  simp only[fy,gU,KS,or_false]at this;rcases this with rfl|rfl|rfl|rfl|rfl<;>rfl
 have l:∀j v,(xn (src++r) src.length a.length)[j]?=some v->W.cell? (((eI w.heap.size (xC src.length)):Addr).add j)=some v:=fun j v hv=>by
  have hj:j<Nat.min (5-src.length) (5-a.length):=by rw[<-hk];exact(wj.1 hv).1
  have o:j<5-src.length:=lO hj (Nat.min_le_left _ _);unfold xn at hv;rw[KI hj,Ph]at hv;have ho:xC src.length=src.length:=fY (by omega);rw[ho];have m:((eI w.heap.size src.length):Addr).add j=(eI w.heap.size (src.length+j)):=by
   unfold Addr.add;by_cases h0:j=0
   ·subst h0;rfl
   ·rw[fY h0]
  rw[m];simp only[World.cell?,f];rw[Zh]at hv;exact hv
 have e:=fun c=>nY (P:=prog) W 131 131 c 9 1 (w.heap.size+2) (xC a.length) (5-a.length) (5-a.length) (eI w.heap.size (xC src.length)) (5-src.length) (5-src.length) (fy a) 147 (xn (src++r) src.length a.length) underlying131 (by kernel_rfl) d (by rw[hk,Nat.mul_one]) l i k;rw[g]at e;refine⟨_,e,?_,?_,?_,?_⟩
 ·exact below_setRow ((Mq w (src++r) src a).trans (b.mono (by omega))) (by omega) _
 ·rw[size_setRow]
  have:=b.size
  omega
 ·exact Ff W _ _ _ _ _ d
 ·rw[Aw _ _ _ _ (by omega)];exact g3
theorem rJ{w:World}{b:Nat}{a c d e f:Value}{t:gi}(h:w.heap[b]?=some (.cells #[a,c,d,e,f] t (0,0))):b<w.heap.size/\w.cell? (eI b 0)=some a/\w.cell? (eI b 1)=some c/\w.cell? (eI b 2)=some d/\w.cell? (eI b 3)=some e/\w.cell? (eI b 4)=some f/\(∀o,w.frozen? (eI b o)=false):=
 ⟨(nX.1 h).1,by simp[World.cell?,h],by simp[World.cell?,h],by simp[World.cell?,h],by simp[World.cell?,h],by simp[World.cell?,h],fun o=>by simp[World.frozen?,h]⟩
theorem Eu(src a r:(List ByteArray))(hS:Good src)(hD:Good a)(hs:src.length+r.length<=5)(hd:a.length+r.length<=5)(w:World):
  Calls prog 197 #[ju (src++r),ju src,ju a] w fun e w'=>e=.returned (ju (a++r))/\Below w.heap.size w w':=by
 have j:=fun W=>mL a hD.val hD.len W;have k:=fun W=>mL src hS.val hS.len W;have i:=fun W=>Mr (w:=w) (W:=W) hs hd;have m:=fun W=>slP (w.heap.size+2) a.length hD.len W;have n:=fun W=>slP w.heap.size src.length hS.len W;have l:=Et w (src++r) src a;have oW:=OA w (src++r) src a;unfold four at i l oW;obtain⟨p,q,s,t,u,x⟩:∃b c d f g,fy (src++r) = #[.string b,.string c,.string d,.string f,.string g]:=⟨_,_,_,_,_,rfl⟩;obtain⟨b,c,d,f,g,y⟩:∃b c d f g,fy src = #[.string b,.string c,.string d,.string f,.string g]:=⟨_,_,_,_,_,rfl⟩;obtain⟨d0,d1,d2,d3,d4,z⟩:∃b c d f g,fy a = #[.string b,.string c,.string d,.string f,.string g]:=⟨_,_,_,_,_,rfl⟩;obtain⟨q0,K,L,M,N,A⟩:∃b c d f g,fy (a++r) = #[.string b,.string c,.string d,.string f,.string g]:=⟨_,_,_,_,_,rfl⟩;have B:fy [] = #[.string ⟨#[]⟩,.string ⟨#[]⟩,.string ⟨#[]⟩,.string ⟨#[]⟩,.string ⟨#[]⟩]:=rfl;unfold ju at j k ⊢;simp only[x,y,z,A,B] at j k i oW l ⊢;generalize xC a.length=od at m i;generalize xC src.length=os at n i;generalize 5-a.length=ac at m i;generalize 5-src.length=ad at n i;generalize (a.length:Int)=nd at j m;generalize (src.length:Int)=ns at k n;have C:Hid _:=i;have ae:Hid _:=oW;clear x y z A B i oW hs hd hS hD;go_enter func197,ntmps197;go_wp2;have h:=gS (Below.refl ((((w.alloc (.cells #[.string p,.string q,.string s,.string t,.string u] 147)).alloc (.cells #[.string b,.string c,.string d,.string f,.string g] 147)).alloc (.cells #[.string d0,.string d1,.string d2,.string d3,.string d4] 147)).alloc (.cells #[.string ⟨#[]⟩,.string ⟨#[]⟩,.string ⟨#[]⟩,.string ⟨#[]⟩,.string ⟨#[]⟩] 147)).heap.size ((((w.alloc (.cells #[.string p,.string q,.string s,.string t,.string u] 147)).alloc (.cells #[.string b,.string c,.string d,.string f,.string g] 147)).alloc (.cells #[.string d0,.string d1,.string d2,.string d3,.string d4] 147)).alloc (.cells #[.string ⟨#[]⟩,.string ⟨#[]⟩,.string ⟨#[]⟩,.string ⟨#[]⟩,.string ⟨#[]⟩] 147)));have D:Hid _:=(Nat.lt_of_lt_of_eq (Nat.lt_succ_self (w.heap.size+3)) l.symm);clear l
 go_region_with (first
  | (go_at_call_of 142 (Value.agg #[.string d0,.string d1,.string d2,.string d3,.string d4]);refine (j _).mono ?_;rintro e O ⟨rfl,o⟩;replace h:=fx h o;have kc:=(ii h).1;have P:=Nat.lt_of_lt_of_le D.out h.size;obtain⟨w3,Q,E,R,c2,c3⟩:=C.out _ h;obtain⟨S,T,U,V,X,Y,Z⟩:=rJ c2;obtain⟨aa,F,G,H,I,J,ab⟩:=rJ c3;clear c2 c3)
  | (go_at_call_of 142 (Value.agg #[.string b,.string c,.string d,.string f,.string g]);refine (k _).mono ?_;rintro e O ⟨rfl,o⟩;replace h:=fx h o;have kc:=(ii h).1;have P:=Nat.lt_of_lt_of_le D.out h.size;obtain⟨w3,Q,E,R,c2,c3⟩:=C.out _ h;obtain⟨S,T,U,V,X,Y,Z⟩:=rJ c2;obtain⟨aa,F,G,H,I,J,ab⟩:=rJ c3;clear c2 c3))
 all_goals
  go_wp2;exact bodyPost_ret (v:=.agg #[.string q0,.string K,.string L,.string M,.string N]) (by simp[results,results197,go_sem,Nat.add_assoc,F,G,H,I,J]) rfl ⟨rfl,by
   repeat (refine Below.setCell ?_ (by simp;omega) _)
   exact E⟩
theorem OB{p:Prop}(h:Hid p):p:=h.out
def kg (L:List (eL)):fQ:=L.flatMap fun p=>(fy p).toList
theorem Ms(L:List (eL))(p:eL):kg (L++[p])=kg L++(fy p).toList:=by simp[kg]
theorem Ju:∀(L:List (eL)) (k o:Nat) (hk:k<L.length),o<5->(kg L)[k*5+o]?=(fy L[k]).toList[o]?
 |x::r,0,o,hk,ho=>by
  show((fy x).toList++kg r)[0*5+o]?=_
  rw[qX (by simp[fy];omega)]
  simp
 |x::r,k+1,o,hk,ho=>by
  show((fy x).toList++kg r)[(k+1)*5+o]?=_
  rw[CJ (by simp[fy];omega)]
  have e:(k+1)*5+o-(fy x).toList.length=k*5+o:=by simp[fy];omega
  rw[e,Ju r k o (by simpa using hk) ho]
  rfl
theorem doc{w:World}{base g n cap:Nat}{L:List (eL)}(h:w.ownsRow base 147 5 (.slice (some (eI g 0)) n cap) n (kg L)){k:Nat}(hk:k<L.length){c d e f i:eD}(a:fy L[k]=(kq c d e f i)):
  g<w.heap.size/\w.cell? (eI g (k*5))=some (.string c)/\w.cell? (eI g (k*5+1))=some (.string d)/\w.cell? (eI g (k*5+2))=some (.string e)/\w.cell? (eI g (k*5+3))=some (.string f)/\w.cell? (eI g (k*5+4))=some (.string i):=by
 obtain⟨hl,⟨h0,_⟩|⟨m,p,j,hv,_,hg,q,_,r,l⟩⟩:=h
 ·cases h0
 ·cases hv
  have key:∀o b,o<5->(fy L[k]).toList[o]?=some b->w.cell? (eI g (k*5+o))=some b:=by
   intro o b ho hu;rw[<-Ju L k o hk ho,<-l]at hu
   have:j[k*5+o]?=some b:=by
    rw[Ap]at hu;split at hu
    ·simpa using hu
    ·cases hu
   simp[World.cell?,hg,this]
  refine⟨(nX.1 hg).1,key 0 _ (by omega) (by rw[a];rfl),key 1 _ (by omega) (by rw[a];rfl),key 2 _ (by omega) (by rw[a];rfl),key 3 _ (by omega) (by rw[a];rfl),key 4 _ (by omega) (by rw[a];rfl)⟩
theorem YV:(prog.info? 147).map (fun i=>(i.zero,i.size,i.bytes))=some (some (.agg (kq hZ hZ hZ hZ hZ)),5,80):=by kernel_rfl
theorem came{f:eL->Option Value}{M:Lit->Option Value}{D:DataW Value}(a:∀kl,WideAt.IsKeyLit kl->∀z,D.atKey kl z=((M kl).map DataW.held).getD z)(h1:∀p,Good p->M (lC prog p)=f p)(h2:∀kl,WideAt.IsKeyLit kl->M kl≠none->∃p,Good p/\kl=lC prog p)
  {x:Value}{kl:Lit}{y:DataW Value}(b:keyOf prog 147 x=some kl)(c:∀z,D.atKey kl z=y):∃p,Good p/\kl=lC prog p/\x=.agg (fy p)/\f p≠none:=by
 have hk:=uS.key b;have hne:M kl≠none:=by
  intro h0;have a1:=a kl hk (.held (eJ 0));have a2:=a kl hk (.held (eJ 1));rw[h0,c]at a1 a2;rw[a1]at a2;simp at a2
 obtain⟨p,hp,rfl⟩:=h2 kl hk hne;refine⟨p,hp,rfl,uS.inj b (kK hp.val),?_⟩;rw[<-h1 p hp];exact hne
theorem Ev{w:World}{base:Nat}{e:gi}{size n:Nat}{v:Value}{xs:fQ}(h:w.ownsRow base e size v n xs):∃a c,v=.slice a n c:=by
 rcases h.2 with⟨h1,h2⟩|⟨g,c,_,h1,_⟩
 ·exact⟨none,0,by rw[h1,h2]⟩
 ·exact⟨_,_,h1⟩
theorem BP{w3:World}{b n:Nat}{f:eL->Option Value}{src c p:eL}{L:List (eL)}{v:Value}(d:iN w3 b n (carried f src c L))(hn:n<maxLen)(g:∀x,c <+: x->f x=none)(j:∀x∈L,src <+: x/\f x≠none)(hp:Good p)(hs:src <+: p)(hv:f p=some v)(Ik:p∉L)(k:Good (kL src c p))
  {t e:gi}(ht:prog.underlying t=some (.map 147 e)){z:Value}(l:∀W,(zeroValue e).run prog W=.ok z W)(h:gi):
  (Instr.lookup t (.map (some b)) (.agg (fy p)) false).run prog w3=.ok v w3/\
  ∃a w5,(Instr.mapUpdate t (.map (some b)) (.agg (fy (kL src c p))) v).run prog w3=.ok () a/\(Builtin.delete_ #[t,147] h #[.map (some b),.agg (fy p)]).run prog a=.ok (.tuple #[]) w5/\
   iN w5 b n (carried f src c (L++[p]))/\w3.grownBy a (some b)/\a.grownBy w5 (some b)/\a.heap.size=w3.heap.size/\w5.heap.size=w3.heap.size:=by
 obtain⟨c1,c2⟩:=Gh g j hs (by rw[hv];simp) Ik;have hlk:=d.look ht (l w3) hp;rw[c1,hv,qj]at hlk;obtain⟨a,m,o,q,i⟩:=d.store k hn ht v;have hne:p≠kL src c p:=fun e=>by
  have:=g p (by rw[e];exact nG _ _)
  rw[hv]at this;cases this
 obtain⟨w5,r,s,u,w⟩:=o.UW ht hp (by rw[hE hne,c1,hv];rfl) h;refine⟨hlk,a,w5,m,r,s.congr (fun x _=>?_),q,u,i,by rw[w,i]⟩;rw[<-c2 x,hv]
theorem Mt(W:World):(zeroValue 219).run prog W=.ok (.pointer none) W:=by kernel_rfl
theorem UX(a b c d e:eD)(w:World)
  (heq:∀W,(Op.equalIn 10000 147 (.agg (kq a b c d e)) (.agg (kq a b c d e))).run prog W=.ok true W):
  gc 140 #[.agg (kq a b c d e),.agg (kq a b c d e)] w (pB (.bool false) w):=by
 go_enter func140,ntmps140;go_wp2
 go_region
 all_goals
  go_wp2;go_ret;exact⟨rfl,gS (((lh _ _).alloc (kx _) _).alloc (by simp) _)⟩
theorem UY(h i j k l q0 a c f g n o p q r:eD)(d:Int)(b:Bool)(w:World)
  (heq:∀W,(Op.equalIn 10000 147 (.agg (kq h i j k l)) (.agg (kq q0 a c f g))).run prog W=.ok false W)
  (hd:∀W,gc 142 #[.agg (kq q0 a c f g)] W (pB (eJ d) W))
  (t:∀W,gc 188 #[.agg (kq h i j k l),eJ d] W (pB (.agg (kq n o p q r)) W))
  (y:∀W,(Op.equalIn 10000 147 (.agg (kq n o p q r)) (.agg (kq q0 a c f g))).run prog W=.ok b W):
  gc 140 #[.agg (kq h i j k l),.agg (kq q0 a c f g)] w (pB (.bool b) w):=by
 go_enter func140,ntmps140;go_wp2
 go_region_with(first
  |(go_at_call 142;refine(hd _).mono ?_;rintro e u ⟨rfl,m⟩;obtain⟨z,A⟩:=ii m;obtain⟨B,C⟩:=qD m;have v:ik w u:=fx (gS (((lh _ _).alloc (kx _) _).alloc (by simp) _)) m)
  |(go_at_call 188;refine(t _).mono ?_;rintro e D ⟨rfl,s⟩;obtain⟨E,F⟩:=ii s;have x:=fx v s))
 all_goals
  go_wp2;go_ret;exact⟨rfl,x⟩
theorem yC(l m:eL)(hl:Good l)(hm:Good m)(w:World):gc 140 #[ju l,ju m] w (pB (.bool (decide (m <+: l/\l≠m))) w):=by
 by_cases h:l=m
 ·subst h
  rw[rk (fun h=>h.2 rfl)];have heq:∀W,(Op.equalIn 10000 147 (ju l) (ju l)).run prog W=.ok true W:=fun W=>by
   have:=yr hl hl W
   rw[mz rfl]at this;exact this
  exact UX _ _ _ _ _ w heq
 ·have heq:∀W,(Op.equalIn 10000 147 (ju l) (ju m)).run prog W=.ok false W:=fun W=>by
   have:=yr hl hm W
   rw[rk h]at this;exact this
  have hd:=fun W=>mL m hm.val hm.len W;have a:=fun W=>Jg l hl.len m.length hm.len W;have b:=fun W=>yr (hl.take m.length) hm W;have c:decide (m <+: l/\l≠m)=decide (l.take m.length=m):=by
   refine decide_eq_decide.2 ⟨fun h=>(List.prefix_iff_eq_take.1 h.1).symm,fun e=>⟨?_,h⟩⟩;rw[<-e];exact List.take_prefix _ _
  rw[c];exact UY _ _ _ _ _ _ _ _ _ _ _ _ _ _ _ _ _ w heq hd a b
theorem xD{f:eL->Option Value}{M:Lit->Option Value}{D:DataW Value}(src:eL)(b:∀kl,WideAt.IsKeyLit kl->∀z,D.atKey kl z=((M kl).map DataW.held).getD z)(h1:∀p,Good p->M (lC prog p)=f p):qK f src (Maps.has D) []:=by
 refine⟨List.nodup_nil,fun x=>⟨fun h=>(by cases h),fun⟨hx,_,hf,hl⟩=>?_⟩⟩;rw[AR (b _ (Oq hx)),h1 x hx]at hl;cases a:f x with
 |none=>exact absurd a hf
 |some y=>rw[a]at hl;cases hl
theorem xE(w:World)(o:Obj):w.heap.size<=(w.alloc o).heap.size:=by simp
theorem ZO(w:World)(c0 c1 c2 c3 c4:Value)(t:gi):∀j a,[c0,c1,c2,c3,c4][j]?=some a->(w.alloc (.cells #[c0,c1,c2,c3,c4] t)).cell? (((eI w.heap.size 0):Addr).add j)=some a:=by
 intro j a h
 match j,h with
 |0,h=>simpa [Addr.add]using h
 |1,h=>simpa [Addr.add]using h
 |2,h=>simpa [Addr.add]using h
 |3,h=>simpa [Addr.add]using h
 |4,h=>simpa [Addr.add]using h
 |j+5,h=>simp at h
theorem YW(w:World)(o:Obj)(c0 c1 c2 c3 c4:Value)(t:gi):∀j a,[c0,c1,c2,c3,c4][j]?=some a->((w.alloc o).alloc (.cells #[c0,c1,c2,c3,c4] t)).cell? (((eI (w.heap.size+1) 0):Addr).add j)=some a:=by
 have h:=ZO (w.alloc o) c0 c1 c2 c3 c4 t;rwa [sr]at h
theorem xF(b c d e f:eD):∀a∈[Value.string b,.string c,.string d,.string e,.string f],a.oneCell'=true:=by
 intro a hu;simp only[gU,KS,or_false]at hu;rcases hu with rfl|rfl|rfl|rfl|rfl<;>rfl
def zz (w':World)(a b c:Nat)(d e f g h i j k l m d0 d1 d2 d3 d4:eD):Prop:=w'.cell? ⟨a,0,none⟩=some (.string d)/\w'.cell? ⟨a,1,none⟩=some (.string e)/\w'.cell? ⟨a,2,none⟩=some (.string f)/\w'.cell? ⟨a,3,none⟩=some (.string g)/\w'.cell? ⟨a,4,none⟩=some (.string h)/\w'.cell? ⟨b,0,none⟩=some (.string i)/\w'.cell? ⟨b,1,none⟩=some (.string j)/\w'.cell? ⟨b,2,none⟩=some (.string k)/\w'.cell? ⟨b,3,none⟩=some (.string l)/\w'.cell? ⟨b,4,none⟩=some (.string m)/\w'.cell? ⟨c,0,none⟩=some (.string d0)/\w'.cell? ⟨c,1,none⟩=some (.string d1)/\w'.cell? ⟨c,2,none⟩=some (.string d2)/\w'.cell? ⟨c,3,none⟩=some (.string d3)/\w'.cell? ⟨c,4,none⟩=some (.string d4)
theorem zz.keep{w w':World}{a b c:Nat}{d e f g i j k l m n d0 d1 d2 d3 d4:eD}(h:zz w a b c d e f g i j k l m n d0 d1 d2 d3 d4)(p:∀o,w'.cell? (eI a o)=w.cell? (eI a o))(q:∀o,w'.cell? (eI b o)=w.cell? (eI b o))(hc:∀o,w'.cell? (eI c o)=w.cell? (eI c o)):zz w' a b c d e f g i j k l m n d0 d1 d2 d3 d4:=by
 unfold zz at h ⊢;simp only[p,q,hc];exact h
structure rK (b r n:Nat)(D:DataW Value)(f:eL->Option Value)(src:eL)(W2 wr:World)(left:Lit->Bool)(cnt:Nat)(L:List (eL))(mv:Value):Prop where
 rg:wr.ranges prog 147 iu b r n D left cnt
 ga:qK f src left L
 row:wr.ownsRow (r+1) 147 5 mv L.length (kg L)
 gr:W2.grownBy wr none
 sz:r+1<=wr.heap.size
 many:L.length+cnt<=n
section
variable {b r n:Nat}{D:DataW Value}{f:eL->Option Value}{src:eL}{W2 wr:World}{left:Lit->Bool}{cnt:Nat}{L:List (eL)}{mv:Value}
theorem Jv{w:World}{base:Nat}{e:gi}{size k:Nat}{v:Value}{xs:fQ}(h:w.ownsRow base e size v k xs){c:Nat}(hc:c<base):some c≠v.ownBlock:=by
 intro e;rcases h.2 with⟨h1,_⟩|⟨g,cap,a,h1,b,_⟩
 ·rw[h1]at e;cases e
 ·rw[h1]at e
  simp only[Value.ownBlock,mZ]at e;omega
theorem jw{w w':World}(h:ik w w'):w.grownBy w' none:=⟨h.os,h.tape,h.output,h.size,fun i hi _=>h.block i hi⟩
theorem rK.below(h:rK b r n D f src W2 wr left cnt L mv){w':World}(a:ik wr w'):rK b r n D f src W2 w' left cnt L mv:=
 ⟨h.rg.kept (jw a) (by simp) (by simp),h.ga,eQ h.row (fun g hg=>a.block g (eK h.row hg)),h.gr.andThen (jw a) (fun j hj=>by cases hj),wl h.sz a.size,h.many⟩
theorem rK.box(h:rK b r n D f src W2 wr left cnt L mv){c:Nat}(hc:c<W2.heap.size)(o:Nat):wr.cell? (eI c o)=W2.cell? (eI c o):=jP (a:=(eI c o)) (h.gr.block c hc (by simp))
theorem rK.next(h:rK b r n D f src W2 wr left cnt L mv){a:World}{d:Nat}{p:eL}(x:b<r)(hr:W2.heap.size<=r)(s:a.ranges prog 147 iu b r n D (fun z=>left z&&!z.sameKey (lC prog p)) d)(y:d<cnt)(hg:wr.grownBy a (some r))(hp:Good p)(hl:left (lC prog p)=true)(hf:f p≠none):
  (¬src <+: p->rK b r n D f src W2 a (fun z=>left z&&!z.sameKey (lC prog p)) d L mv)/\
  (src <+: p->a.ownsRow (r+1) 147 5 mv L.length (kg L)/\r+1<=a.heap.size/\L.length+1<=n/\∀i w3 k,ik a i->w3.ownsRow (r+1) 147 5 k (L.length+1) (kg L++(fy p).toList)->i.grownBy w3 mv.ownBlock->rK b r n D f src W2 w3 (fun z=>left z&&!z.sameKey (lC prog p)) d (L++[p]) k):=by
 have t:a.ownsRow (r+1) 147 5 mv L.length (kg L):=eQ h.row (fun g u=>hg.block g (eK h.row u) (fun e=>by
  have:=Jv h.row (c:=r) (by omega)
  exact this (by rw[u,e])))
 have v:W2.grownBy a none:=h.gr.andThen hg (fun j hj=>by cases hj;exact .inl hr);have l:=wl h.sz hg.size;have hm:=h.many;refine⟨fun hs=>⟨s,Dk h.ga hp hs,t,v,l,by omega⟩,fun hs=>⟨t,l,by omega,fun i w3 k m w o=>?_⟩⟩;have A:=h.rg.owns.lt;have q:some b≠mv.ownBlock/\some r≠mv.ownBlock/\∀j,mv.ownBlock=some j->r+1<=j:=by
  rcases h.row.2 with⟨h1,_⟩|⟨g,cap,B,h1,C,_⟩
  ·rw[h1];exact⟨by simp[Value.ownBlock],by simp[Value.ownBlock],fun j hj=>by simp[Value.ownBlock]at hj⟩
  ·rw[h1]
   refine⟨fun e=>?_,fun e=>?_,fun j hj=>?_⟩
   ·simp only[Value.ownBlock,mZ]at e;omega
   ·simp only[Value.ownBlock,mZ]at e;omega
   ·simp only[Value.ownBlock,mZ]at hj;omega
 refine⟨(s.kept (jw m) (by simp) (by simp)).kept o q.1 q.2.1,Gi h.ga hp hs hf hl,?_,?_,?_,?_⟩
 ·rw[mb,Ms];exact w
 ·exact(v.andThen (jw m) (fun j hj=>by cases hj)).andThen o (fun j hj=>.inl (wl (wl hr (gV _)) (q.2.2 j hj)))
 ·exact wl l (wl m.size o.size)
 ·simp;omega
end
theorem BQ{b w3:World}{X:Obj}{a c:Nat}(d:Below (b.alloc X).drew.heap.size (b.alloc X).drew w3)(e:a<b.heap.size)(hc:c<b.heap.size):
  (∀o,w3.cell? (eI b.heap.size o)=(b.alloc X).drew.cell? (eI b.heap.size o))/\(∀o,w3.cell? (eI a o)=(b.alloc X).drew.cell? (eI a o))/\(∀o,w3.cell? (eI c o)=(b.alloc X).drew.cell? (eI c o))/\b.heap.size<w3.heap.size:=by
 have h1:b.heap.size<(b.alloc X).drew.heap.size:=by simp
 exact⟨fun o=>(ii d).1 _ o h1,fun o=>(ii d).1 _ o (CP e h1),fun o=>(ii d).1 _ o (CP hc h1),lO h1 d.size⟩
theorem BR{W2 a w3 k w5:World}{b r:Nat}{la:fD}{lc m:Nat}{xs:fQ}(p:b<r)(hg:W2.grownBy a (some b))(h:a.ownsRow (r+1) 147 5 (.slice la m lc) m xs)(o:r+1<=a.heap.size)(d:ik a w3)(f:w3.grownBy k (some b))(i:k.grownBy w5 (some b)):
  W2.grownBy w5 (some b)/\w5.ownsRow (r+1) 147 5 (.slice la m lc) m xs/\r+1<=w5.heap.size:=by
 refine⟨((hg.andThen (jw d) (fun j hj=>by cases hj)).andThen f (fun j hj=>.inr (by rw[hj]))).andThen i (fun j hj=>.inr (by rw[hj])),eQ h (fun g l=>?_),wl o (wl d.size (wl f.size i.size))⟩;have hl:=eK h l;have hne:some g≠some b:=fun e=>Jv h (c:=b) (by omega) (by rw[l,e]);have n:=lO hl d.size;rw[i.block g (lO n f.size) hne,f.block g n hne,d.block g hl]
theorem Jw(b n:Nat)(f:eL->Option Value)(src dst:eL)(w:World)(BS:Good src)(ZP:Good dst)(hP:iN w b n f)(hn:n<1099511627776)
  (UZ:∀x,dst <+: x->f x=none)(hlen:∀x,src <+: x->f x≠none->dst.length+(x.length-src.length)<=5)(hf:∀x,f x≠none->Good x):
  gc 144 #[.map (some b),.agg (fy src),.agg (fy dst)] w fun e w'=>e=.returned (.tuple #[])/\iN w' b n (xa f src dst)/\w.grownBy w' (some b):=by
 obtain⟨i0,hi,ZQ,ZR,ZT⟩:=iq YV;have hbl:=hP.lt;have HPM:Hid _:=hP;obtain⟨M,⟨D,hD,hM⟩,h1,h2⟩:=hP;have Gj:=fun p (hp:Good p) W=>yC p src hp BS W;have heq:=fun p (hp:Good p) W=>yr hp BS W;have BU:=fun r (h1:src.length+r.length<=5) (h2:dst.length+r.length<=5) W=>Eu src dst r BS ZP h1 h2 W;obtain⟨s0,s1,s2,s3,s4,hS⟩:∃s0 s1 s2 s3 s4,fy src=(kq s0 s1 s2 s3 s4):=⟨_,_,_,_,_,rfl⟩;obtain⟨d0,d1,d2,d3,d4,XO⟩:∃s0 s1 s2 s3 s4,fy dst=(kq s0 s1 s2 s3 s4):=⟨_,_,_,_,_,rfl⟩;unfold ju at Gj heq BU;rw[hS]at Gj heq BU;rw[XO]at BU;rw[hS,XO];have HO:Hid _:=tB (w':=(w.alloc (.cells (kq s0 s1 s2 s3 s4) 147)).alloc (.cells (kq d0 d1 d2 d3 d4) 147)) hD ((((lh w.heap.size w).alloc (kx _) _).alloc (by simp) _).block b hbl);have HM:Hid _:=And.intro hM (And.intro h1 h2);have Va:Hid _:=Gj;have HEQ:Hid _:=heq;have Vb:Hid _:=BU;have Vc:Hid _:=UZ;have HLEN:Hid _:=hlen;have HF:Hid _:=hf;have HG:Hid _:=And.intro BS ZP;have HS:Hid _:=And.intro hS XO;clear hD hM h1 h2 Gj heq BU UZ hlen hf BS ZP hS XO;go_enter func144,ntmps144;go_wp2_with(at_range;go_loud(refine wpList_range_own _ rfl _ 161 rfl 147 219 uS underlying161 iu b n D rfl HO.out ?_;intro w0 hrg0 hg0 hs0))
 go_frame
 have hWs:((w.alloc (.cells (kq s0 s1 s2 s3 s4) 147)).alloc (.cells (kq d0 d1 d2 d3 d4) 147)).heap.size=w.heap.size+2:=by simp
 have hmD:=World.ownsMap.size_le HO.out;generalize hr:((w.alloc (.cells (kq s0 s1 s2 s3 s4) 147)).alloc (.cells (kq d0 d1 d2 d3 d4) 147)).heap.size=r at hrg0 hs0 ⊢;have hbr:b<r:=by omega
 have hr0:w.heap.size<r:=by omega
 have hr1:w.heap.size+1<r:=by omega
 have XP:Hid (((w.alloc (.cells (kq s0 s1 s2 s3 s4) 147)).alloc (.cells (kq d0 d1 d2 d3 d4) 147)).heap.size<=r/\w.heap.size<((w.alloc (.cells (kq s0 s1 s2 s3 s4) 147)).alloc (.cells (kq d0 d1 d2 d3 d4) 147)).heap.size/\w.heap.size+1<((w.alloc (.cells (kq s0 s1 s2 s3 s4) 147)).alloc (.cells (kq d0 d1 d2 d3 d4) 147)).heap.size):=⟨Ax hr,by omega,by omega⟩;have HST:Hid (rK b r n D f src ((w.alloc (.cells (kq s0 s1 s2 s3 s4) 147)).alloc (.cells (kq d0 d1 d2 d3 d4) 147)) w0 (Maps.has D) (Maps.size D) [] (.slice none 0 0)):=⟨hrg0,xD src HM.out.1 HM.out.2.1,jf _ _ _ _,hg0,by rw[hs0];exact kx _,by simpa using hmD⟩;clear hrg0 hg0 hs0 hr hWs hmD
 go_loopw [6] (fun mv wr=>∃left cnt L,Hid (rK b r n D f src ((w.alloc (.cells (kq s0 s1 s2 s3 s4) 147)).alloc (.cells (kq d0 d1 d2 d3 d4) 147)) wr left cnt L mv)) (fun _ wr=>wr.rangeLeft b r)
 case atStart=>exact⟨Maps.has D,Maps.size D,[],HST.out⟩
 case round=>
  obtain⟨left,cnt,L,uT⟩:=hrel;obtain⟨la,lc,rfl⟩:=Ev uT.out.row;go_wp2_with(at_next;refine OB ?_);show wpList _ _ _ _ _ _;refine wpList_next_ranges _ rfl (.tmp 11) rfl 147 uS iu (fun x:Value=>x) (fun x:Value=>x) (fun key kl _=>⟨key,rfl⟩) (fun v y _=>⟨v,rfl⟩) b r n D left cnt rfl uT.out.rg ?_ ?_
  ·intro hc0 hl0
   have Mu:Hid (∀x,x∈L↔(src <+: x/\f x≠none)):=fun x=>(uT.out.ga.2 x).trans ⟨fun h=>⟨h.2.1,h.2.2.1⟩,fun h=>⟨HF.out x h.2,h.1,h.2,hl0 _⟩⟩;have Vd:Hid L.Nodup:=uT.out.ga.1;clear hl0 hc0;have Ve:Hid (iN wr b n (carried f src dst [])):=iN.congr ⟨M,⟨D,uT.out.rg.owns,HM.out.1⟩,HM.out.2.1,HM.out.2.2⟩ (fun x _=>(zx f src dst x).symm);have hLn:L.length<=n:=by have:=uT.out.many;omega
   have yD:Hid (wr.ownsRow (r+1) 147 5 (.slice la L.length lc) L.length (kg L)):=uT.out.row;have HGR:Hid _:=World.grownBy.but uT.out.gr (some b);have ZU:=uT.out.sz;go_wp2
   go_loopw [30] (fun i w2=>∃k:Nat,k<=L.length/\i=.int .i64 (k:Int)/\Hid (iN w2 b n (carried f src dst (L.take k)))/\Hid (((w.alloc (.cells (kq s0 s1 s2 s3 s4) 147)).alloc (.cells (kq d0 d1 d2 d3 d4) 147)).grownBy w2 (some b))/\Hid (w2.ownsRow (r+1) 147 5 (.slice la L.length lc) L.length (kg L))/\r+1<=w2.heap.size) (fun i _=>L.length-(intOf i).toNat)
   case atStart=>exact⟨0,tk _,rfl,Ve.out,HGR.out,yD.out,ZU⟩
   case round=>
    obtain⟨k,hk,rfl,XQ,XR,ZV,ZW⟩:=hrel;by_cases XS:k<L.length
    ·obtain⟨g,c',hsl⟩:=fj ZV.out (by omega)
     cases hsl;have Mv:=kj XS;obtain⟨hs,nK⟩:=(Mu.out L[k]).1 Mv;have hp:=HF.out _ nK;have Mw:L[k]∉L.take k:=by
      intro mG;obtain⟨j,hj,hje⟩:=pg mG;rw[gT]at hj;rw[List.getElem_take]at hje;exact SJ.1 Vd.out j k (by omega) XS (by omega) hje
     have ZX:L.take (k+1)=L.take k++[L[k]]:=vZ XS;have hLk:∀x∈L.take k,src <+: x/\f x≠none:=fun x hx=>(Mu.out x).1 (zP hx);obtain⟨p0,p1,p2,p3,p4,Gk⟩:∃s0 s1 s2 s3 s4,fy L[k]=(kq s0 s1 s2 s3 s4):=⟨_,_,_,_,_,rfl⟩;obtain⟨hgl,e0,e1,e2,e3,e4⟩:=doc ZV.out XS Gk;generalize L[k]=p at Mv hs nK hp Mw ZX Gk;cases hv:f p with
     |none=>exact absurd hv nK
     |some v=>
      have PT:=xB hs;have ZY:=HLEN.out p hs nK;have hp5:=hp.len;have hd5:src.length+(p.drop src.length).length<=5:=by rw[lz];have:=hs.length_le;omega
      have XT:=Vb.out (p.drop src.length) hd5 (by rw[lz];exact ZY);rw[PT,Gk]at XT;have hqG:Good (kL src dst p):=⟨HG.out.2.val.append (fun x hx=>hp.val x (KN hx)),by unfold kL;rw[mb,lz];exact ZY⟩;have hturn:=fun W (hP:iN W b n (carried f src dst (L.take k)))=>BP hP (by unfold maxLen;omega) Vc.out hLk hp hs hv Mw hqG underlying161 Mt 0
      change ∀W,gc 197 _ W fun e w'=>e=.returned (.agg (fy (kL src dst p)))/\_ at XT
      obtain⟨q0,q1,q2,q3,q4,ZZ⟩:∃s0 s1 s2 s3 s4,fy (kL src dst p)=(kq s0 s1 s2 s3 s4):=⟨_,_,_,_,_,rfl⟩;rw[ZZ]at XT;simp only[Gk,ZZ]at hturn;have Vf:Hid _:=hturn;have hb0:ik wr (wr.alloc (.cells (kq p0 p1 p2 p3 p4) 147)).drew:=gS ((lh _ _).alloc (kx _) _);have hl0:=(hturn _ (XQ.out.keep (hb0.block b (by omega)))).1;have kS:=fun o=>(xj XR.out (c:=w.heap.size) XP.out.2.1 (by omega) o);have kD:=fun o=>(xj XR.out (c:=w.heap.size+1) XP.out.2.2 (by omega) o);have hz0:w.heap.size<wr.heap.size:=by omega
      have hz1:w.heap.size+1<wr.heap.size:=(by omega);have hbz:b<wr.heap.size:=by omega
      have hnb:wr.heap.size≠b:=(by omega);have abs:w.heap.size≠b:=by omega
      have aca:w.heap.size+1≠b:=(by omega);have HTK:Hid _:=ZX;have HB0:Hid _:=hb0;clear hturn hb0 Mv hs nK hp Mw ZX Gk hv PT ZY hp5 hd5 hqG ZZ hLk;clear HO HM Va HEQ Vb HLEN HF HG HS HPM Vd Ve yD HGR HST hi ZQ ZR ZT;go_wp2;clear e0 e1 e2 e3 e4;have hSD:zz (wr.alloc (.cells (kq p0 p1 p2 p3 p4) 147)).drew wr.heap.size w.heap.size (w.heap.size+1) p0 p1 p2 p3 p4 s0 s1 s2 s3 s4 d0 d1 d2 d3 d4:=by
       unfold zz;have q0:=Nat.ne_of_lt hz0;have q1:=Nat.ne_of_lt hz1;simp[WT,hz0,hz1,kS,kD]
      go_region_held3 (fun w'=>w'.cell? (eI wr.heap.size 0)=some (.string p0)/\w'.cell? (eI wr.heap.size 1)=some (.string p1)/\w'.cell? (eI wr.heap.size 2)=some (.string p2)/\w'.cell? (eI wr.heap.size 3)=some (.string p3)/\w'.cell? (eI wr.heap.size 4)=some (.string p4)/\w'.cell? (eI w.heap.size 0)=some (.string s0)/\w'.cell? (eI w.heap.size 1)=some (.string s1)/\w'.cell? (eI w.heap.size 2)=some (.string s2)/\w'.cell? (eI w.heap.size 3)=some (.string s3)/\w'.cell? (eI w.heap.size 4)=some (.string s4)/\w'.cell? (eI (w.heap.size+1) 0)=some (.string d0)/\w'.cell? (eI (w.heap.size+1) 1)=some (.string d1)/\w'.cell? (eI (w.heap.size+1) 2)=some (.string d2)/\w'.cell? (eI (w.heap.size+1) 3)=some (.string d3)/\w'.cell? (eI (w.heap.size+1) 4)=some (.string d4)) (first|exact hSD|exact hS3|exact hS4) (first|(go_at_call 197;refine(XT _).mono ?_;rintro e w3 ⟨rfl,hb3⟩;obtain⟨m1,m2,m3,m4⟩:=BQ hb3 hz0 hz1;have hS3:=hSD.keep m1 m2 m3;have Mx:=fx HB0.out hb3;obtain⟨hl3,w4,w5,eoi,epv,hP5,hg4,hg5,hs4,hs5⟩:=Vf.out w3 (XQ.out.keep (Mx.block b hbz));have hS4:=hS3.keep (xj hg4 m4 hnb) (xj hg4 (CP hz0 m4) abs) (xj hg4 (CP hz1 m4) aca);have HE:Hid _:=BR hbr XR.out ZV.out ZW Mx hg4 hg5;have HP5:Hid _:=hP5;have hz4:wr.heap.size<w4.heap.size:=lO m4 (Ax hs4.symm);clear hg4 hg5 hs4 hs5 hP5 Mx m1 m2 m3 hb3))
      all_goals
       go_wp2;go_roundw
       case rel=>exact⟨k+1,by omega,by go_num,by rw[HTK.out];exact HP5.out,HE.out.1,HE.out.2.1,HE.out.2.2⟩
       case measure=>simp[intOf];omega
    ·have hke:k=L.length:=by omega
     subst hke;rw[xR]at XQ;go_wp2;go_end0;refine⟨rfl,XQ.out.congr (fun x _=>zy Vc.out Mu.out x),?_⟩;exact(World.grownBy.but (jw (((lh w.heap.size w).alloc (kx _) _).alloc (by simp) _)) (some b)).andThen XR.out (fun j hj=>.inr (by rw[hj]))
  ·intro x c kl y w1 cnt1 hkey hlk hv hat hrg1 hlt hg1 hs1 hen
   obtain⟨p,hp,rfl,rfl,nK⟩:=came HM.out.1 HM.out.2.1 HM.out.2.2 hkey hat;obtain⟨p0,p1,p2,p3,p4,Gk⟩:∃s0 s1 s2 s3 s4,fy p=(kq s0 s1 s2 s3 s4):=⟨_,_,_,_,_,rfl⟩;have Rq:=Va.out p hp;have XU:∀W,(Op.equalIn 10000 147 (.agg (fy p)) (.agg (kq s0 s1 s2 s3 s4))).run prog W=.ok (decide (p=src)) W:=HEQ.out p hp;obtain⟨hno,Vg⟩:=uT.out.next hbr XP.out.1 hrg1 hlt hg1 hp hlk nK;have kS:=fun o=>(xj hg1 (c:=w.heap.size) (lO hr0 (Nat.le_of_succ_le uT.out.sz)) (by omega) o).trans (uT.out.box XP.out.2.1 o);have hz1:w.heap.size<w1.heap.size:=by rw[hs1];exact lO hr0 (Nat.le_of_succ_le uT.out.sz)
   have HLT:Hid (cnt1<cnt):=hlt;have hdn:Hid _:=hrg1;rw[Gk]at Rq XU hen ⊢;have HPp:Hid _:=Gk;have HNO:Hid _:=hno;have Vh:Hid _:=Vg;clear hno Vg hkey hlk hv hat hrg1 hlt hg1 hs1 nK Gk;by_cases hs:src <+: p
   ·by_cases he:p=src
    ·rw[mz he]at XU
     clear Rq;obtain⟨y1,y2,y3,y4⟩:=Vh.out hs;have hW:ik w1 (w1.alloc (.cells (kq p0 p1 p2 p3 p4) 147)):=(lh _ _).alloc (kx _) _;have yD:Hid _:=y1.alloc (.cells (kq p0 p1 p2 p3 p4) 147);have HSZ:Hid _:=wl y2 hW.size;have My:Hid _:=y4;have HW:Hid _:=hW;have h63:L.length+1<=maxLen:=by unfold maxLen;omega
     have hby:(L.length+1)*80<=140737488355328:=(by omega);clear y1 y2 y4 hW;go_wp2_with(at_builtin;go_loud(refine KQ _ rfl (.tmp 24) (.tmp 26) 289 rfl (r+1) 147 i0 _ 5 80 underlying289 hi ZQ ZR ZT rfl (by decide) (.slice la L.length lc) L.length (kg L) rfl (pE yD.out _) (eI (w1.heap.size+1) 0) 1 1 [.string p0,.string p1,.string p2,.string p3,.string p4] rfl rfl (YW w1 _ _ _ _ _ _ 147) (xF _ _ _ _ _) h63 hby (wl HSZ.out (xE _ _)) ?_;intro v' w3 hown' hgrow _ hloc;obtain⟨g',cap',rfl⟩:=fj hown' (Nat.succ_pos _);have Mz:Hid _:=hown';have BV:Hid _:=hgrow;clear hown' hgrow hloc));have tK:Hid (rK b r n D f src _ w3 _ cnt1 (L++[p]) _):=My.out _ w3 _ (HW.out.alloc HW.out.size (.cells (kq p0 p1 p2 p3 p4) 147)) (by rw[HPp.out];exact Mz.out) BV.out;go_roundw
     case rel=>exact⟨_,_,_,tK.out⟩
     case measure=>rw[tK.out.rg.left_eq,uT.out.rg.left_eq];exact HLT.out
    ·rw[rk he]at XU
     rw[mz ⟨hs,he⟩]at Rq;obtain⟨y1,y2,y3,y4⟩:=Vh.out hs;have My:Hid _:=y4;have h63:L.length+1<=maxLen:=by unfold maxLen;omega
     have hby:(L.length+1)*80<=140737488355328:=(by omega);clear y4;have hz2:w.heap.size<(w1.alloc (.cells (kq p0 p1 p2 p3 p4) 147)).heap.size:=by simp;omega
     have hz3:w1.heap.size<(w1.alloc (.cells (kq p0 p1 p2 p3 p4) 147)).heap.size:=(by simp);go_wp2_with(first
      |(go_at_call 140;refine io (Rq _) ?_;rintro e w2 ⟨rfl,hb2⟩;have k2:=fun o=>(ii hb2).1 w1.heap.size o hz3;have hz4:=lO hz3 hb2.size;have hW:=fx ((lh w1.heap.size w1).alloc (kx _) _) hb2;have yD:Hid (w2.ownsRow (r+1) 147 5 (.slice la L.length lc) L.length (kg L)):=eQ y1 (fun g hg=>hW.block g (eK y1 hg));have HSZ:Hid (r+1<=w2.heap.size):=wl y2 hW.size;have HW:Hid _:=hW;clear hW)
      |(at_builtin;go_loud(refine KQ _ rfl (.tmp 24) (.tmp 26) 289 rfl (r+1) 147 i0 _ 5 80 underlying289 hi ZQ ZR ZT rfl (by decide) (.slice la L.length lc) L.length (kg L) rfl (pE yD.out _) (eI w2.heap.size 0) 1 1 [.string p0,.string p1,.string p2,.string p3,.string p4] rfl rfl (ZO w2 _ _ _ _ _ 147) (xF _ _ _ _ _) h63 hby (wl HSZ.out (xE _ _)) ?_;intro v' w3 hown' hgrow _ hloc;obtain⟨g',cap',rfl⟩:=fj hown' (Nat.succ_pos _);have Mz:Hid _:=hown';have BV:Hid _:=hgrow;clear hown' hgrow hloc)))
     have tK:Hid (rK b r n D f src _ w3 _ cnt1 (L++[p]) _):=My.out _ w3 _ (HW.out.alloc HW.out.size (.cells (kq p0 p1 p2 p3 p4) 147)) (by rw[HPp.out];exact Mz.out) BV.out;go_roundw
     case rel=>exact⟨_,_,_,tK.out⟩
     case measure=>rw[tK.out.rg.left_eq,uT.out.rg.left_eq];exact HLT.out
   ·have he:p≠src:=fun e=>hs (e▸oU _)
    rw[rk he]at XU;rw[rk (fun h=>hs h.1)]at Rq;go_wp2_with(go_at_call 140;refine io (Rq _) ?_;rintro e w2 ⟨rfl,hb2⟩);have tK:Hid _:=(HNO.out hs).below (fx ((lh _ _).alloc (kx _) _) hb2);go_roundw
    case rel=>exact⟨_,_,L,tK.out⟩
    case measure=>rw[(rK.rg tK.out).left_eq,uT.out.rg.left_eq];exact HLT.out
end Go.Proofs.YtlgidcmmgohagaaGreat
