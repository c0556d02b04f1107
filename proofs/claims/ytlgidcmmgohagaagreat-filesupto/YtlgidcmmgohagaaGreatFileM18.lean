/- What is proved here: whether there is room for what is moved. -/
import Derived.Test.YtlgidcmmgohagaaGreatFileM17
import Derived.Test.YtlgidcmmgohagaaGreatFileM14
import Derived.Deep.RegionHeld3
namespace Go.Proofs.YtlgidcmmgohagaaGreat
open Go.RowKit Go.Sort Go.Shelf Go.Proofs.Tryz
set_option linter.unusedVariables false
set_option maxRecDepth 100000
set_option maxHeartbeats 16000000
section
variable {s i p:Nat}{B:WB}{ei:List Ob}
theorem oT{w a:World}{b o2 o3:Obj}(h:Below (((w.alloc b).alloc o2).alloc o3).heap.size (((w.alloc b).alloc o2).alloc o3) a):w.heap.size+2<a.heap.size:=by
 have h2:=h.size;rw[pL,pL,pL]at h2;omega
theorem mX{w a:World}{b o2 o3:Obj}(h:Below (((w.alloc b).alloc o2).alloc o3).heap.size (((w.alloc b).alloc o2).alloc o3) a):gS w a:=
 em ((((i7 w.heap.size w).alloc (io _) _).alloc (by simp) _).alloc (by simp;omega) _) h
theorem j8{w c:World}{a o2 o3:Obj}(h:Below (((w.alloc a).alloc o2).alloc o3).heap.size (((w.alloc a).alloc o2).alloc o3) c)(b o:Nat)(d:b<w.heap.size+3):c.cell? (eb b o)=(((w.alloc a).alloc o2).alloc o3).cell? (eb b o):=
 (gc h).1 b o (by rw[pL,pL,pL];omega)
theorem pQ.at_{tg:eM}{w:World}{v:Value}{es:List eD}(h:pQ tg w i v es){k:Nat}(hk:k<es.length):∃a c,v=.slice (some (eb a 0)) es.length c/\a<w.heap.size/\w.cell? (eb a (k*3))=some (.string (es[k]).1)/\w.cell? (eb a (k*3+1))=some (ed (es[k]).2.1)/\w.cell? (eb a (k*3+2))=some (ed (es[k]).2.2):=by
 obtain⟨a,d,rfl⟩:=ej h.1 (by omega);obtain⟨c0,c1,c2⟩:=sK (b:=a) (fun j e hu=>by have:=hh h.1 j e hu;rwa [PH]at this) hk;exact⟨a,d,rfl,ee h.1 rfl,c0,c1,c2⟩
theorem CE{ks:Kids}(hr:eF ks){n:eu}{e:LT}(hp:g8 ks n=some e):∃h:mr (ks.map kB) n<(ks.map kB).length,(ks.map kB)[mr (ks.map kB) n]=(n,e.kind,e.id):=by
 have a:g9 (ks.map kB) n=true:=by rw[xn,<-lr hr,hp];rfl
 obtain⟨h1,h2⟩:=kO a;have hg:=l6 (n:=n) (by rw[jy];exact iZ _ hr:eF (ks.map kB));rw[a,fY rfl,gJ h1,jS,DW,hp,jS,kE]at hg;exact⟨h1,xN h2 hg.symm⟩
theorem HJ{tg:eM}{w:World}{g:WG}{lim:Nat}{t x d e:LT}(h:eH tg w s i p B ei g lim)(hl:lim+10<1099511627776)(hF:Flat ei t g.ft){k:Nat}(G:eL ei k t){H c:eB}{a:eu}(hf:Good H)(hq:Good (c++[a])){ks:Kids}(I:t.at ei c=some d)(hk:kids ei d=some ks)(hp:g8 ks a=some e){v:Value}(hs:pQ tg w i v (ks.map kB))(O:eu):
  eK 141 #[fj B.bt,.agg (et H),.agg (et (c++[a])),.agg #[.string O,ed x.kind,ed x.id],v] w fun Y w'=>Y=.returned (ed (T1 ei g.fs e x).2)/\iq s i p B ei tg w w' { g with fs:=(T1 ei g.fs e x).1 } (lim+1):=by
 have hS:=h.st.sound;obtain⟨n,P,Z⟩:=jp hS (mf hS _ G I).2.1 hk;have Q:eF (ks.map kB):=by rw[jy];exact iZ _ n
 have R:(ks.map kB).length<=16:=by rw[kU];exact P
 obtain⟨nD,S⟩:=CE n hp;have T:t.at ei (c++[a])=some e:=by rw[i1,I,my,h9,hk,my,hp,my,k0]
 have U:g9 (ks.map kB) a=true:=by rw[xn,<-lr n,hp];rfl
 have b:=fun W (J:gS w W)=>HI (x:=x) (h.below J) hl hF G hq T a O;have j:=fun W2 (J:gS w W2)=>H0 (hs.below J).1 a Q R;rw[U]at j;obtain⟨K,ae,rfl,q,r,l,m⟩:=hs.at_ nD;rw[S]at r l m;clear S;generalize (ks.map kB).length=af at j nD R ⊢;generalize mr (ks.map kB) a=L at j nD r l m;have u:=fun W=>iB (c++[a]) hq (by simp) W;simp only[BQ]at u;obtain⟨y,z,A,C,D,M⟩:∃y z A C D,et (c++[a])=(ii y z A C D):=⟨_,_,_,_,_,rfl⟩;obtain⟨ag,ah,ai,aj,ak,V⟩:∃y z A C D,et H=(ii y z A C D):=⟨_,_,_,_,_,rfl⟩;unfold hP at u;simp only[M]at u b;rw[M,V];generalize T1 ei g.fs e x=al at b ⊢;simp only at r l m;generalize e.kind=am at b l;generalize e.id=an at b m;generalize x.kind=ao at b ⊢;generalize x.id=ap at b ⊢;have aa:Hid _:=j;have ab:Hid _:=b;clear h j b M V hF G I hk hp hs hS n P Z Q T U;go_enter func141,ntmps141;go_wp2_with(first
  |(go_at_call 134;refine(u _).mono ?_;rintro e aq ⟨rfl,E⟩;have N:=oT E;have ar:=j8 E (w.heap.size+1);have au:=j8 E (w.heap.size+2);have X:=mX E)
  |(go_at_call 133;go_loud(refine(aa.out _ X).mono ?_;rintro e ac ⟨rfl,F⟩;have f:=em X F;have av:=fun o=>(gc F).1 (w.heap.size+1) o (Di N);have k4:=fun o=>(gc F).1 (w.heap.size+2) o N;have ad:=kv N F.size;have aw:w.heap.size+1<ac.heap.size:=Di ad;have ax:=kv q f.size;have ay:=((gc f).1 K (L*3) q).trans r;have az:=((gc f).1 K (L*3+1) q).trans l;have aA:=((gc f).1 K (L*3+2) q).trans m)))
 go_region_with(go_at_call 195;go_loud(refine(ab.out _ (eQ f)).mono ?_;rintro e w3 ⟨rfl,NH⟩))
 all_goals
  go_wp2;go_ret;exact⟨rfl,NH.via (eQ f)⟩
theorem LO{tg:eM}{w:World}{g:WG}{lim:Nat}{t d:LT}(h:eH tg w s i p B ei g lim)(hF:Flat ei t g.ft){k:Nat}(R:eL ei k t){n l:(List ByteArray)}{J z:ByteArray}(hf:Good (n ++ [J]))(hq:Good (l ++ [z])){ks:Kids}(S:t.at ei l=some d)(hk:kids ei d=some ks)(hp:g8 ks z=none){v:Value}(hs:pQ tg w i v (ks.map kB))(ah:ByteArray)(ai aj:Int):
  Calls prog 141 #[.pointer (some ⟨B.bt,0,none⟩),.agg (et (n ++ [J])),.agg (et (l ++ [z])),.agg #[.string ah,.int .i64 ai,.int .i64 aj],v] w fun ak w'=>ak=.returned (.int .i64 (if 16<=ks.length/\n≠l then 11 else 0))/\iq s i p B ei tg w w' g lim:=by
 have hS:=h.st.sound;obtain⟨L,T,al⟩:=jp hS (mf hS _ R S).2.1 hk;have U:eF (ks.map kB):=by rw[jy];exact iZ _ L
 have V:(ks.map kB).length<=16:=by rw[List.length_map];exact T
 have X:g9 (ks.map kB) z=false:=by rw[xn,<-lr L,hp];rfl
 have F:=fun W2 (am:Below w.heap.size w W2)=>H0 (hs.below am).1 z U V;rw[X] at F;obtain⟨la,au,rfl⟩:=hs.len;rw[List.length_map] at F V ⊢;generalize mr (ks.map kB) z=av at F;have D:=fun W=>iB (l ++ [z]) hq (by simp) W;simp only[List.getLast_concat] at D;have G:=fun W=>xr (l ++ [z]) hq W;have H:=fun W=>xr (n ++ [J]) hf W;have an:Good l:=by have:=hq.dropLast;rwa [List.dropLast_concat] at this
 have ao:Good n:=by have:=hf.dropLast;rwa [List.dropLast_concat] at this
 have heq:=fun W=>sf ao an W;rw[List.dropLast_concat] at G H;obtain⟨q,r,u,x,y,M⟩:∃q r u x y,et (l ++ [z]) = #[.string q,.string r,.string u,.string x,.string y]:=⟨_,_,_,_,_,rfl⟩;obtain⟨Y,Z,aa,ab,ac,N⟩:∃q r u x y,et (n ++ [J]) = #[.string q,.string r,.string u,.string x,.string y]:=⟨_,_,_,_,_,rfl⟩;obtain⟨t0,t1,t2,t3,t4,ad⟩:∃q r u x y,et l = #[.string q,.string r,.string u,.string x,.string y]:=⟨_,_,_,_,_,rfl⟩;obtain⟨f0,f1,f2,f3,f4,ae⟩:∃q r u x y,et n = #[.string q,.string r,.string u,.string x,.string y]:=⟨_,_,_,_,_,rfl⟩;have I:∀W,(Op.equalIn 10000 147 (hP n) (hP l)).run prog W=.ok (decide (n=l)) W:=heq;unfold hP at D G H I;simp only[M,N,ad,ae] at D G H I;rw[M,N];have O:Hid _:=F;have P:Hid _:=h;clear h F M N ad ae hF R S hk hp hs hS L T al U X heq;by_cases NE:16<=ks.length
 ·have ap:(16:Int)<=(ks.length:Int):=by omega
  by_cases K:n=l
  ·rw[if_neg (fun h=>h.2 K)]
   rw[decide_eq_true K] at I;clear NE;go_enter func141,ntmps141;go_wp2_with (first
    | (go_at_call 134;refine (D _).mono ?_;rintro e af ⟨rfl,f⟩;have A:=oT f;have ag:=j8 f (w.heap.size+1);have aq:=j8 f w.heap.size;have C:=mX f)
    | (go_at_call 133;go_loud (refine (O.out _ C).mono ?_;rintro e E ⟨rfl,m⟩;have b:=em C m;have ar:=fun o=>(gc m).1 (w.heap.size+1) o (Nat.lt_of_succ_lt A);have k4:=fun o=>(gc m).1 w.heap.size o (Nat.lt_of_succ_lt (Nat.lt_of_succ_lt A));have c:w.heap.size+1<E.heap.size:=Nat.lt_of_lt_of_le (Nat.lt_of_succ_lt A) m.size;have j:w.heap.size<E.heap.size:=Nat.lt_of_succ_lt c;replace b:=eQ b)))
   go_region_with (first
    | (go_at_call_of 132 (Value.agg #[.string q,.string r,.string u,.string x,.string y]);refine (G _).mono ?_;rintro e w3 ⟨rfl,a⟩;replace b:=em b a;have k5:=fun o=>(gc a).1 (w.heap.size+1) o c;have Q:=fun o=>(gc a).1 w.heap.size o j;replace c:=Nat.lt_of_lt_of_le c a.size;replace j:=Nat.lt_of_lt_of_le j a.size)
    | (go_at_call_of 132 (Value.agg #[.string Y,.string Z,.string aa,.string ab,.string ac]);refine (H _).mono ?_;rintro e w3 ⟨rfl,a⟩;replace b:=em b a;have k5:=fun o=>(gc a).1 (w.heap.size+1) o c;have Q:=fun o=>(gc a).1 w.heap.size o j;replace c:=Nat.lt_of_lt_of_le c a.size;replace j:=Nat.lt_of_lt_of_le j a.size))
   all_goals
    go_wp2;go_ret;exact⟨rfl,lQ P.out b⟩
  ·rw[if_pos ⟨NE,K⟩]
   rw[decide_eq_false K] at I;clear NE;go_enter func141,ntmps141;go_wp2_with (first
    | (go_at_call 134;refine (D _).mono ?_;rintro e af ⟨rfl,f⟩;have A:=oT f;have ag:=j8 f (w.heap.size+1);have aq:=j8 f w.heap.size;have C:=mX f)
    | (go_at_call 133;go_loud (refine (O.out _ C).mono ?_;rintro e E ⟨rfl,m⟩;have b:=em C m;have ar:=fun o=>(gc m).1 (w.heap.size+1) o (Nat.lt_of_succ_lt A);have k4:=fun o=>(gc m).1 w.heap.size o (Nat.lt_of_succ_lt (Nat.lt_of_succ_lt A));have c:w.heap.size+1<E.heap.size:=Nat.lt_of_lt_of_le (Nat.lt_of_succ_lt A) m.size;have j:w.heap.size<E.heap.size:=Nat.lt_of_succ_lt c;replace b:=eQ b)))
   go_region_with (first
    | (go_at_call_of 132 (Value.agg #[.string q,.string r,.string u,.string x,.string y]);refine (G _).mono ?_;rintro e w3 ⟨rfl,a⟩;replace b:=em b a;have k5:=fun o=>(gc a).1 (w.heap.size+1) o c;have Q:=fun o=>(gc a).1 w.heap.size o j;replace c:=Nat.lt_of_lt_of_le c a.size;replace j:=Nat.lt_of_lt_of_le j a.size)
    | (go_at_call_of 132 (Value.agg #[.string Y,.string Z,.string aa,.string ab,.string ac]);refine (H _).mono ?_;rintro e w3 ⟨rfl,a⟩;replace b:=em b a;have k5:=fun o=>(gc a).1 (w.heap.size+1) o c;have Q:=fun o=>(gc a).1 w.heap.size o j;replace c:=Nat.lt_of_lt_of_le c a.size;replace j:=Nat.lt_of_lt_of_le j a.size))
   all_goals
    go_wp2;go_ret;exact⟨rfl,lQ P.out b⟩
 ·have ap:decide ((16:Int)<=(ks.length:Int))=false:=decide_eq_false (by omega)
  rw[if_neg (fun h=>NE h.1)];clear I;go_enter func141,ntmps141;go_wp2_with (first
   | (go_at_call 134;refine (D _).mono ?_;rintro e af ⟨rfl,f⟩;have A:=oT f;have ag:=j8 f (w.heap.size+1);have C:=mX f)
   | (go_at_call 133;go_loud (refine (O.out _ C).mono ?_;rintro e E ⟨rfl,m⟩;have b:=em C m)))
  go_region
  all_goals
   go_wp2;go_ret;exact⟨rfl,lQ P.out (eQ b)⟩
end
theorem size_del{D:DataW Value}{kl:Lit}(h:Maps.has D kl=true):Maps.size (D.del kl)<Maps.size D:=by
 cases D with
 |map es=>
  rw[Maps.has_eq,List.any_eq_true]at h;obtain⟨x,hx,hs⟩:=h;rw[DataW.del_eq];show(es.filter _).length<es.length;refine List.length_filter_lt_length_iff_exists.2 ⟨x,hx,?_⟩;unfold ChangeMaps.notKey;rw[hs];simp
 |_=>cases h
theorem HL{w:World}{k:fL}{b n m:Nat}{D:DataW Value}(h:w.ownsMap prog k fU b n D)(hm:Maps.size D<=m):w.ownsMap prog k fU b m D:=by
 obtain⟨es,a,c,F,hs,rfl⟩:=h;exact⟨es,a,c,F,by simpa [Maps.size,length_sorted]using hm,rfl⟩
theorem gu.OZ{w:World}{k:fL}{b n:Nat}{M:Lit->Option Value}(h:gu w k b (n+1) M)(K:Maps.Keyed prog k){t e:fL}(ht:prog.underlying t=some (.map k e))
  {key:Value}{kl:Lit}(a:keyOf prog k key=some kl)(f:(M kl).isSome=true)(c:fL):
  ∃w',(Builtin.delete_ #[t,k] c #[.map (some b),key]).run prog w=.ok (.tuple #[]) w'/\gu w' k b n (x7 M kl none)/\w.grownBy w' (some b)/\w'.heap.size=w.heap.size:=by
 obtain⟨D,hD,d⟩:=h;obtain⟨w',g,i,hg⟩:=hD.drop K ht a c;have h1:=size_del (D:=D) (kl:=kl) (by rw[x6 (d kl (K.key a))];exact f);have h2:=hD.size_le;refine⟨w',g,⟨_,HL i (by omega),DT d kl⟩,hg.grown,?_⟩;obtain⟨es,j,es',l,m,rfl⟩:=hg;simp[ChangeMaps.setBlock]
theorem gm.OZ{w:World}{b n:Nat}{f:eB->Option Value}(h:gm w b (n+1) f){t e:fL}(ht:prog.underlying t=some (.map 147 e)){q:eB}(hq:Good q)(hf:(f q).isSome=true)(a:fL):
  ∃w',(Builtin.delete_ #[t,147] a #[.map (some b),.agg (et q)]).run prog w=.ok (.tuple #[]) w'/\gm w' b n (upd f q none)/\w.grownBy w' (some b)/\w'.heap.size=w.heap.size:=by
 obtain⟨M,c,h1,h2⟩:=h;obtain⟨w',d,g,hg,hs⟩:=c.OZ rO ht (wF hq) (by rw[h1 q hq];exact hf) a;refine⟨w',d,⟨_,g,fun x hx=>?_,fun kl hk hne=>?_⟩,hg,hs⟩
 ·by_cases e:x=q
  ·subst e;rw[iY,upd_same]
  ·rw[Hm (fun i=>e (nU hx hq i)),fx e,h1 x hx]
 ·by_cases e:kl=jo prog q
  ·rw[e,iY]at hne;exact absurd rfl hne
  ·rw[Hm e]at hne;exact h2 kl hk hne
theorem gm.look{w:World}{b n:Nat}{f:eB->Option Value}(h:gm w b n f){t e:fL}(ht:prog.underlying t=some (.map 147 e)){z:Value}(a:(zeroValue e).run prog w=.ok z w){q:eB}(hq:Good q):
  (Instr.lookup t (.map (some b)) (.agg (et q)) false).run prog w=.ok ((f q).getD z) w:=by
 obtain⟨M,c,h1,_⟩:=h
 have:=c.look rO ht a (wF hq)
 rw[h1 q hq]at this;exact this
section
open Classical
variable {β:Type}
def iR (src a p:eB):eB:=a++p.drop src.length
noncomputable def carried (f:eB->Option β)(src dst:eB)(L:List (eB)):eB->Option β:=fun x=>
 if dst <+: x/\src++x.drop dst.length∈L then f (src++x.drop dst.length)else if x∈L then none else f x
theorem wI(f:eB->Option β)(src a:eB)(x:eB):carried f src a [] x=f x:=by
 unfold carried;simp
theorem uy{src p:eB}(h:src <+: p):src++p.drop src.length=p:=by
 obtain⟨r,rfl⟩:=h;rw[nv]
theorem CF{f:eB->Option β}{src a:eB}{L:List (eB)}{p:eB}(b:∀x,a <+: x->f x=none)(d:∀x∈L,src <+: x/\f x≠none)(hp:src <+: p)(hf:f p≠none)(hn:p∉L):
  carried f src a L p=f p/\∀x,upd (upd (carried f src a L) (iR src a p) (f p)) p none x=carried f src a (L++[p]) x:=by
 have Qa:¬a <+: p:=fun h=>hf (b p h);refine⟨by unfold carried;rw[eJ (fun h=>Qa h.1),eJ hn],fun x=>?_⟩;by_cases hx:x=p
 ·subst hx
  rw[upd_same];unfold carried;rw[eJ (fun h=>Qa h.1),fY (by simp)]
 ·rw[fx hx]
  by_cases hm:x=iR src a p
  ·subst hm
   rw[upd_same];unfold carried iR;rw[nv,uy hp,fY ⟨kV _ _,by simp⟩]
  ·rw[fx hm]
   unfold carried;by_cases hd:a <+: x
   ·have hne:src++x.drop a.length≠p:=fun e=>hm (by
     unfold iR;rw[<-e,nv,uy hd])
    have c:(a <+: x/\src++x.drop a.length∈L)↔(a <+: x/\src++x.drop a.length∈L++[p]):=(by simp[hne]);have e2:(x∈L)↔(x∈L++[p]):=by simp[hx]
    simp only[c,e2]
   ·have e2:(x∈L)↔(x∈L++[p]):=by simp[hx]
    simp only[hd,false_and,Ko,e2]
theorem wJ{f:eB->Option β}{src a:eB}{L:List (eB)}(d:∀x,a <+: x->f x=none)(b:∀x,x∈L↔(src <+: x/\f x≠none))(x:eB):carried f src a L x=qr f src a x:=by
 unfold carried qr;by_cases hd:a <+: x
 ·rw[fY hd]
  by_cases hm:src++x.drop a.length∈L
  ·rw[fY ⟨hd,hm⟩]
  ·rw[eJ (fun h=>hm h.2)]
   have h0:f (src++x.drop a.length)=none:=by
    cases c:f (src++x.drop a.length) with
    |none=>rfl
    |some y=>exact absurd ((b _).2 ⟨kV _ _,by rw[c];simp⟩) hm
   rw[h0];split
   ·rfl
   ·exact d x hd
 ·rw[eJ hd,eJ (fun h=>hd h.1)]
  by_cases hs:src <+: x
  ·rw[fY hs]
   by_cases hm:x∈L
   ·rw[fY hm]
   ·rw[eJ hm]
    cases c:f x with
    |none=>rfl
    |some y=>exact absurd ((b _).2 ⟨hs,by rw[c];simp⟩) hm
  ·rw[eJ hs,eJ (fun h=>hs ((b _).1 h).1)]
end
def n9 (f:eB->Option Value)(src:eB)(left:Lit->Bool)(L:List (eB)):Prop:=
 L.Nodup/\∀x,x∈L↔(Good x/\src <+: x/\f x≠none/\left (jo prog x)=false)
theorem Ah{f:eB->Option Value}{src:eB}{left:Lit->Bool}{L:List (eB)}(h:n9 f src left L){q:eB}(hq:Good q)(hs:¬src <+: q):n9 f src (fun z=>left z&&!z.sameKey (jo prog q)) L:=by
 refine⟨h.1,fun x=>?_⟩;rw[h.2 x];refine⟨fun⟨a,b,c,d⟩=>⟨a,b,c,by simp only[d,Bool.false_and]⟩,fun⟨a,b,c,d⟩=>⟨a,b,c,?_⟩⟩;have hne:jo prog x≠jo prog q:=fun e=>hs (by rw[<-nU a hq e];exact b);simp only[Maps.sameKey_ne hne,Bool.not_false,Bool.and_true]at d;exact d
theorem CG{f:eB->Option Value}{src:eB}{left:Lit->Bool}{L:List (eB)}(h:n9 f src left L){q:eB}(hq:Good q)(hs:src <+: q)(hf:f q≠none)(hl:left (jo prog q)=true):n9 f src (fun z=>left z&&!z.sameKey (jo prog q)) (L++[q]):=by
 refine⟨List.nodup_append.2 ⟨h.1,by simp,fun a k b j=>?_⟩,fun x=>?_⟩
 ·simp only[kH]at j
  subst j;rintro rfl
  have:=((h.2 a).1 k).2.2.2
  rw[hl]at this;cases this
 ·simp only[pR,kH]
  by_cases e:x=q
  ·subst e
   refine⟨fun _=>⟨hq,hs,hf,?_⟩,fun _=>.inr rfl⟩;have hk:=WideAt.sameKey_self (Jx hq);generalize jo prog x=g at hk hl;show(left g&&!g.sameKey g)=false;rw[hk,Bool.not_true,Bool.and_false]
  ·rw[h.2 x]
   refine⟨fun i=>?_,fun⟨a,b,c,d⟩=>.inl ⟨a,b,c,?_⟩⟩
   ·rcases i with⟨a,b,c,d⟩|i
    ·exact⟨a,b,c,by simp only[d,Bool.false_and]⟩
    ·exact absurd i e
   ·have hne:jo prog x≠jo prog q:=fun l=>e (nU a hq l)
    simp only[Maps.sameKey_ne hne,Bool.not_false,Bool.and_true]at d;exact d
theorem Rj(g b c d f x:eu)(w:World)
  (hd:∀W,eK 142 #[.agg #[.string g,.string b,.string c,.string d,.string f]] W (ml (ed 0) W)):
  eK 196 #[.agg #[.string g,.string b,.string c,.string d,.string f],.string x] w (ml (.agg #[.string x,.string b,.string c,.string d,.string f]) w):=by
 go_enter func196,ntmps196;go_wp2_with(go_at_call 142;refine(hd _).mono ?_;rintro e h ⟨rfl,a⟩;have i:=j7 a;obtain⟨k,l⟩:=i;have m:=fun o=>(gc a).1 w.heap.size o (by simp;omega);have f1:=fun o=>(gc a).2 w.heap.size o (by simp;omega);have j:=fun o=>(gc a).1 (w.heap.size+1) o (by simp);have f2:=fun o=>(gc a).2 (w.heap.size+1) o (by simp));exact jr (v:=.agg #[.string x,.string b,.string c,.string d,.string f]) (by simp[results,results196,go_sem,j]) rfl ⟨rfl,by
   have h1:gS w h:=em (((i7 _ _).alloc (io _) _).alloc (by simp) _) a
   repeat(refine oz ?_ (by simp) _)
   exact h1⟩
theorem Rk(b g c d f x:eu)(w:World)
  (hd:∀W,eK 142 #[.agg #[.string b,.string g,.string c,.string d,.string f]] W (ml (ed 1) W)):
  eK 196 #[.agg #[.string b,.string g,.string c,.string d,.string f],.string x] w (ml (.agg #[.string b,.string x,.string c,.string d,.string f]) w):=by
 go_enter func196,ntmps196;go_wp2_with(go_at_call 142;refine(hd _).mono ?_;rintro e h ⟨rfl,a⟩;have i:=j7 a;obtain⟨k,l⟩:=i;have m:=fun o=>(gc a).1 w.heap.size o (by simp;omega);have f1:=fun o=>(gc a).2 w.heap.size o (by simp;omega);have j:=fun o=>(gc a).1 (w.heap.size+1) o (by simp);have f2:=fun o=>(gc a).2 (w.heap.size+1) o (by simp));exact jr (v:=.agg #[.string b,.string x,.string c,.string d,.string f]) (by simp[results,results196,go_sem,j]) rfl ⟨rfl,by
   have h1:gS w h:=em (((i7 _ _).alloc (io _) _).alloc (by simp) _) a
   repeat(refine oz ?_ (by simp) _)
   exact h1⟩
theorem Rl(b c g d f x:eu)(w:World)
  (hd:∀W,eK 142 #[.agg #[.string b,.string c,.string g,.string d,.string f]] W (ml (ed 2) W)):
  eK 196 #[.agg #[.string b,.string c,.string g,.string d,.string f],.string x] w (ml (.agg #[.string b,.string c,.string x,.string d,.string f]) w):=by
 go_enter func196,ntmps196;go_wp2_with(go_at_call 142;refine(hd _).mono ?_;rintro e h ⟨rfl,a⟩;have i:=j7 a;obtain⟨k,l⟩:=i;have m:=fun o=>(gc a).1 w.heap.size o (by simp;omega);have f1:=fun o=>(gc a).2 w.heap.size o (by simp;omega);have j:=fun o=>(gc a).1 (w.heap.size+1) o (by simp);have f2:=fun o=>(gc a).2 (w.heap.size+1) o (by simp));exact jr (v:=.agg #[.string b,.string c,.string x,.string d,.string f]) (by simp[results,results196,go_sem,j]) rfl ⟨rfl,by
   have h1:gS w h:=em (((i7 _ _).alloc (io _) _).alloc (by simp) _) a
   repeat(refine oz ?_ (by simp) _)
   exact h1⟩
theorem Rm(b c d g f x:eu)(w:World)
  (hd:∀W,eK 142 #[.agg #[.string b,.string c,.string d,.string g,.string f]] W (ml (ed 3) W)):
  eK 196 #[.agg #[.string b,.string c,.string d,.string g,.string f],.string x] w (ml (.agg #[.string b,.string c,.string d,.string x,.string f]) w):=by
 go_enter func196,ntmps196;go_wp2_with(go_at_call 142;refine(hd _).mono ?_;rintro e h ⟨rfl,a⟩;have i:=j7 a;obtain⟨k,l⟩:=i;have m:=fun o=>(gc a).1 w.heap.size o (by simp;omega);have f1:=fun o=>(gc a).2 w.heap.size o (by simp;omega);have j:=fun o=>(gc a).1 (w.heap.size+1) o (by simp);have f2:=fun o=>(gc a).2 (w.heap.size+1) o (by simp));exact jr (v:=.agg #[.string b,.string c,.string d,.string x,.string f]) (by simp[results,results196,go_sem,j]) rfl ⟨rfl,by
   have h1:gS w h:=em (((i7 _ _).alloc (io _) _).alloc (by simp) _) a
   repeat(refine oz ?_ (by simp) _)
   exact h1⟩
theorem Rn(b c d f g x:eu)(w:World)
  (hd:∀W,eK 142 #[.agg #[.string b,.string c,.string d,.string f,.string g]] W (ml (ed 4) W)):
  eK 196 #[.agg #[.string b,.string c,.string d,.string f,.string g],.string x] w (ml (.agg #[.string b,.string c,.string d,.string f,.string x]) w):=by
 go_enter func196,ntmps196;go_wp2_with(go_at_call 142;refine(hd _).mono ?_;rintro e h ⟨rfl,a⟩;have i:=j7 a;obtain⟨k,l⟩:=i;have m:=fun o=>(gc a).1 w.heap.size o (by simp;omega);have f1:=fun o=>(gc a).2 w.heap.size o (by simp;omega);have j:=fun o=>(gc a).1 (w.heap.size+1) o (by simp);have f2:=fun o=>(gc a).2 (w.heap.size+1) o (by simp));exact jr (v:=.agg #[.string b,.string c,.string d,.string f,.string x]) (by simp[results,results196,go_sem,j]) rfl ⟨rfl,by
   have h1:gS w h:=em (((i7 _ _).alloc (io _) _).alloc (by simp) _) a
   repeat(refine oz ?_ (by simp) _)
   exact h1⟩
theorem LP(l:eB)(hg:Good l)(e:l.length<=4)(x:eu)(w:World):eK 196 #[hP l,.string x] w (ml (hP (l++[x])) w):=by
 have hd:=fun W=>j5 l hg.val hg.len W
 match l,e,hd with
 |[],_,hd=>exact Rj _ _ _ _ _ x w hd
 |[a],_,hd=>exact Rk _ _ _ _ _ x w hd
 |[a,b],_,hd=>exact Rl _ _ _ _ _ x w hd
 |[a,b,c],_,hd=>exact Rm _ _ _ _ _ x w hd
 |[a,b,c,d],_,hd=>exact Rn _ _ _ _ _ x w hd
theorem ry(l:eB)(j:Nat):(et l).toList[j]?=if j<5 then some (.string (l.getD j fy))else none:=by
 by_cases h:j<5
 ·rw[fY h]
  rcases(show j=0\/j=1\/j=2\/j=3\/j=4 by omega)with rfl|rfl|rfl|rfl|rfl<;>rfl
 ·rw[eJ h];exact mG (by show 5<=j;omega)
def rk (p:eB)(f d:Nat):fE:=((et p).toList.drop f).take (Nat.min (5-f) (5-d))
theorem vw(p:eB)(f d:Nat):(rk p f d).length=Nat.min (5-f) (5-d):=by
 have:(et p).toList.length=5:=rfl
 unfold rk;rw[Hc,jl,this];exact uN (Nat.min_le_left _ _)
theorem LQ{src a r:eB}(hs:src.length+r.length<=5)(hd:a.length+r.length<=5):
  (et a).toList.take a.length++rk (src++r) src.length a.length++(et a).toList.drop (a.length+(rk (src++r) src.length a.length).length)=(et (a++r)).toList:=by
 have hl:(et a).toList.length=5:=rfl;have hk:=vw (src++r) src.length a.length;generalize mC:Nat.min (5-src.length) (5-a.length)=k at hk;have b:k<=5-a.length:=by rw[<-mC];exact Nat.min_le_right _ _
 have hk2:r.length<=k:=by rw[<-mC];exact Nat.le_min.2 ⟨by omega,by omega⟩
 have c:k<=5-src.length:=by rw[<-mC];exact Nat.min_le_left _ _
 refine Gd fun j=>?_;rw[ry];by_cases h1:j<a.length
 ·rw[ox (by rw[jM,Hc,hl];omega),ox (by rw[Hc,hl];omega),Gb h1,ry,fY (by omega),fY (by omega)]
  rw[s5,s5,ox h1]
 ·by_cases h2:j<a.length+k
  ·rw[ox (by rw[jM,Hc,hl,hk];omega),zM (by rw[Hc,hl];omega),Hc,hl,uN (by omega)]
   unfold rk;rw[mC,Gb (by omega),J9,ry,fY (by omega),fY (by omega)];rw[s5,s5,zM (by omega),zM (by omega)]
   congr 3
   congr 1
   omega
  ·rw[zM (by rw[jM,Hc,hl,hk];omega),jM,Hc,hl,hk,J9,ry,uN (by omega)]
   rw[show a.length+k+(j-(a.length+k))=j by omega];by_cases h3:j<5
   ·rw[fY h3,fY h3,s5,s5,mG (by omega),mG (by rw[jM];omega)]
   ·rw[eJ h3,eJ h3]
def uz (d:Nat):Nat:=if d=5 then 0 else d
theorem UZ(b d:Nat)(hd:d<=5)(W:World):(Instr.sliceAt 147 (fj b) (some (ed (d:Int))) none none).run prog W=.ok (.slice (some (eb b (uz d))) (5-d) (5-d)) W:=by
 rcases(show d=0\/d=1\/d=2\/d=3\/d=4\/d=5 by omega)with rfl|rfl|rfl|rfl|rfl|rfl<;>kernel_rfl
theorem LR{src a r:eB}(hs:src.length+r.length<=5)(hd:a.length+r.length<=5):
  (et a).toList.take (uz a.length)++rk (src++r) src.length a.length++(et a).toList.drop (uz a.length+(rk (src++r) src.length a.length).length)=(et (a++r)).toList:=by
 unfold uz;by_cases h:a.length=5
 ·have hr:r=[]:=xF.1 (by omega)
  have h0:rk (src++r) src.length a.length=[]:=xF.1 (by rw[vw,h];exact Nat.le_zero.1 (Nat.min_le_right _ _));rw[h0,fY h,hr];simp
 ·rw[eJ h];exact LQ hs hd
def four (w:World)(p src a:eB):World:=(((w.alloc (.cells (et p) 147)).alloc (.cells (et src) 147)).alloc (.cells (et a) 147)).alloc (.cells (et []) 147)
theorem Bj(w:World)(p src a:eB):(four w p src a).heap.size=w.heap.size+4:=by unfold four;simp only[pL]
theorem HM(w:World)(p src a:eB):gS w (four w p src a):=by
 unfold four;exact((((i7 w.heap.size w).alloc (io _) _).alloc (by simp) _).alloc (by simp;omega) _).alloc (by simp;omega) _
theorem JF(w:World)(p src a:eB):(four w p src a).heap[w.heap.size]?=some (.cells (et p) 147 (0,0))/\(four w p src a).heap[w.heap.size+2]?=some (.cells (et a) 147 (0,0))/\(four w p src a).heap[w.heap.size+3]?=some (.cells (et []) 147 (0,0)):=by
 unfold four World.alloc;refine⟨?_,?_,?_⟩
 ·rw[Array.getElem?_push_lt (by simp;omega),Array.getElem_push_lt (by simp;omega),Array.getElem_push_lt (by simp),Array.getElem_push_eq]
 ·rw[Array.getElem?_push_lt (by simp),Array.getElem_push,dif_neg (by simp)]
 ·rw[TI,fY (by simp)]
theorem HN{w W:World}{src a r:eB}(hs:src.length+r.length<=5)(hd:a.length+r.length<=5)(b:Below (four w (src++r) src a).heap.size (four w (src++r) src a) W):
  ∃w3,(∀c,(Builtin.copy_ #[131,131] c #[.slice (some (eb (w.heap.size+2) (uz a.length))) (5-a.length) (5-a.length),.slice (some (eb w.heap.size (uz src.length))) (5-src.length) (5-src.length)]).run prog W=.ok (goInt (Nat.min (5-src.length) (5-a.length))) w3)/\gS w w3/\w.heap.size+3<w3.heap.size/\
   w3.heap[w.heap.size+2]?=some (.cells (et (a++r)) 147 (0,0))/\w3.heap[w.heap.size+3]?=some (.cells (et []) 147 (0,0)):=by
 have n:=Bj w (src++r) src a;obtain⟨h0,h2,h3⟩:=JF w (src++r) src a;have f:W.heap[w.heap.size]?=_:=(b.block _ (by omega)).trans h0;have d:W.heap[w.heap.size+2]?=_:=(b.block _ (by omega)).trans h2;have g3:W.heap[w.heap.size+3]?=_:=(b.block _ (by omega)).trans h3;have hk:=vw (src++r) src.length a.length;have g:=LR hs hd;have h:(et a).size=5:=rfl;have i:uz a.length+(rk (src++r) src.length a.length).length<=(et a).size:=by
  rw[hk,h];have h1:Nat.min (5-src.length) (5-a.length)<=5-a.length:=Nat.min_le_right _ _;unfold uz;split<;>omega
 have k:∀v∈rk (src++r) src.length a.length,v.oneCell'=true:=fun v hv=>by
  unfold rk at hv
  have:=Gf (wY hv)
  simp only[et,Hd,Gk,or_false]at this;rcases this with rfl|rfl|rfl|rfl|rfl<;>rfl
 have l:∀j v,(rk (src++r) src.length a.length)[j]?=some v->W.cell? (((eb w.heap.size (uz src.length)):Addr).add j)=some v:=fun j v hv=>by
  have hj:j<Nat.min (5-src.length) (5-a.length):=by rw[<-hk];exact(s6.1 hv).1
  have o:j<5-src.length:=kv hj (Nat.min_le_left _ _);unfold rk at hv;rw[Gb hj,J9]at hv;have ho:uz src.length=src.length:=eJ (by omega);rw[ho];have m:((eb w.heap.size src.length):Addr).add j=(eb w.heap.size (src.length+j)):=by
   unfold Addr.add;by_cases h0:j=0
   ·subst h0;rfl
   ·rw[eJ h0]
  rw[m];simp only[World.cell?,f];rw[SC]at hv;exact hv
 have e:=fun c=>lG (P:=prog) W 131 131 c 9 1 (w.heap.size+2) (uz a.length) (5-a.length) (5-a.length) (eb w.heap.size (uz src.length)) (5-src.length) (5-src.length) (et a) 147 (rk (src++r) src.length a.length) underlying131 (by kernel_rfl) d (by rw[hk,Nat.mul_one]) l i k;rw[g]at e;refine⟨_,e,?_,?_,?_,?_⟩
 ·exact below_setRow ((HM w (src++r) src a).trans (b.mono (by omega))) (by omega) _
 ·rw[size_setRow]
  have:=b.size
  omega
 ·exact BX W _ _ _ _ _ d
 ·rw[xL _ _ _ _ (by omega)];exact g3
theorem oU{w:World}{b:Nat}{a c d e f:Value}{t:fL}(h:w.heap[b]?=some (.cells #[a,c,d,e,f] t (0,0))):b<w.heap.size/\w.cell? (eb b 0)=some a/\w.cell? (eb b 1)=some c/\w.cell? (eb b 2)=some d/\w.cell? (eb b 3)=some e/\w.cell? (eb b 4)=some f/\(∀o,w.frozen? (eb b o)=false):=
 ⟨(lF.1 h).1,by simp[World.cell?,h],by simp[World.cell?,h],by simp[World.cell?,h],by simp[World.cell?,h],by simp[World.cell?,h],fun o=>by simp[World.frozen?,h]⟩
theorem Bk(src a r:(List ByteArray))(hS:Good src)(hD:Good a)(hs:src.length+r.length<=5)(hd:a.length+r.length<=5)(w:World):
  Calls prog 197 #[hP (src++r),hP src,hP a] w fun e w'=>e=.returned (hP (a++r))/\Below w.heap.size w w':=by
 have j:=fun W=>j5 a hD.val hD.len W;have k:=fun W=>j5 src hS.val hS.len W;have i:=fun W=>HN (w:=w) (W:=W) hs hd;have m:=fun W=>UZ (w.heap.size+2) a.length hD.len W;have n:=fun W=>UZ w.heap.size src.length hS.len W;have l:=Bj w (src++r) src a;have mE:=JF w (src++r) src a;unfold four at i l mE;obtain⟨p,q,s,t,u,x⟩:∃b c d f g,et (src++r) = #[.string b,.string c,.string d,.string f,.string g]:=⟨_,_,_,_,_,rfl⟩;obtain⟨b,c,d,f,g,y⟩:∃b c d f g,et src = #[.string b,.string c,.string d,.string f,.string g]:=⟨_,_,_,_,_,rfl⟩;obtain⟨d0,d1,d2,d3,d4,z⟩:∃b c d f g,et a = #[.string b,.string c,.string d,.string f,.string g]:=⟨_,_,_,_,_,rfl⟩;obtain⟨q0,K,L,M,N,A⟩:∃b c d f g,et (a++r) = #[.string b,.string c,.string d,.string f,.string g]:=⟨_,_,_,_,_,rfl⟩;have B:et [] = #[.string ⟨#[]⟩,.string ⟨#[]⟩,.string ⟨#[]⟩,.string ⟨#[]⟩,.string ⟨#[]⟩]:=rfl;unfold hP at j k ⊢;simp only[x,y,z,A,B] at j k i mE l ⊢;generalize uz a.length=od at m i;generalize uz src.length=os at n i;generalize 5-a.length=ac at m i;generalize 5-src.length=ad at n i;generalize (a.length:Int)=nd at j m;generalize (src.length:Int)=ns at k n;have C:Hid _:=i;have ae:Hid _:=mE;clear x y z A B i mE hs hd hS hD;go_enter func197,ntmps197;go_wp2;have h:=eQ (Below.refl ((((w.alloc (.cells #[.string p,.string q,.string s,.string t,.string u] 147)).alloc (.cells #[.string b,.string c,.string d,.string f,.string g] 147)).alloc (.cells #[.string d0,.string d1,.string d2,.string d3,.string d4] 147)).alloc (.cells #[.string ⟨#[]⟩,.string ⟨#[]⟩,.string ⟨#[]⟩,.string ⟨#[]⟩,.string ⟨#[]⟩] 147)).heap.size ((((w.alloc (.cells #[.string p,.string q,.string s,.string t,.string u] 147)).alloc (.cells #[.string b,.string c,.string d,.string f,.string g] 147)).alloc (.cells #[.string d0,.string d1,.string d2,.string d3,.string d4] 147)).alloc (.cells #[.string ⟨#[]⟩,.string ⟨#[]⟩,.string ⟨#[]⟩,.string ⟨#[]⟩,.string ⟨#[]⟩] 147)));have D:Hid _:=(Nat.lt_of_lt_of_eq (Nat.lt_succ_self (w.heap.size+3)) l.symm);clear l
 go_region_with (first
  | (go_at_call_of 142 (Value.agg #[.string d0,.string d1,.string d2,.string d3,.string d4]);refine (j _).mono ?_;rintro e O ⟨rfl,o⟩;replace h:=em h o;have kc:=(gc h).1;have P:=Nat.lt_of_lt_of_le D.out h.size;obtain⟨w3,Q,E,R,c2,c3⟩:=C.out _ h;obtain⟨S,T,U,V,X,Y,Z⟩:=oU c2;obtain⟨aa,F,G,H,I,J,ab⟩:=oU c3;clear c2 c3)
  | (go_at_call_of 142 (Value.agg #[.string b,.string c,.string d,.string f,.string g]);refine (k _).mono ?_;rintro e O ⟨rfl,o⟩;replace h:=em h o;have kc:=(gc h).1;have P:=Nat.lt_of_lt_of_le D.out h.size;obtain⟨w3,Q,E,R,c2,c3⟩:=C.out _ h;obtain⟨S,T,U,V,X,Y,Z⟩:=oU c2;obtain⟨aa,F,G,H,I,J,ab⟩:=oU c3;clear c2 c3))
 all_goals
  go_wp2;exact bodyPost_ret (v:=.agg #[.string q0,.string K,.string L,.string M,.string N]) (by simp[results,results197,go_sem,Nat.add_assoc,F,G,H,I,J]) rfl ⟨rfl,by
   repeat (refine Below.setCell ?_ (by simp;omega) _)
   exact E⟩
theorem JG{p:Prop}(h:Hid p):p:=h.out
def iD (L:List (eB)):fE:=L.flatMap fun p=>(et p).toList
theorem HP(L:List (eB))(p:eB):iD (L++[p])=iD L++(et p).toList:=by simp[iD]
theorem ES:∀(L:List (eB)) (k o:Nat) (hk:k<L.length),o<5->(iD L)[k*5+o]?=(et L[k]).toList[o]?
 |x::r,0,o,hk,ho=>by
  show((et x).toList++iD r)[0*5+o]?=_
  rw[ox (by simp[et];omega)]
  simp
 |x::r,k+1,o,hk,ho=>by
  show((et x).toList++iD r)[(k+1)*5+o]?=_
  rw[zM (by simp[et];omega)]
  have e:(k+1)*5+o-(et x).toList.length=k*5+o:=by simp[et];omega
  rw[e,ES r k o (by simpa using hk) ho]
  rfl
theorem T7{w:World}{base g n cap:Nat}{L:List (eB)}(h:w.ownsRow base 147 5 (.slice (some (eb g 0)) n cap) n (iD L)){k:Nat}(hk:k<L.length){c d e f i:eu}(a:et L[k]=(ii c d e f i)):
  g<w.heap.size/\w.cell? (eb g (k*5))=some (.string c)/\w.cell? (eb g (k*5+1))=some (.string d)/\w.cell? (eb g (k*5+2))=some (.string e)/\w.cell? (eb g (k*5+3))=some (.string f)/\w.cell? (eb g (k*5+4))=some (.string i):=by
 obtain⟨hl,⟨h0,_⟩|⟨m,p,j,hv,_,hg,q,_,r,l⟩⟩:=h
 ·cases h0
 ·cases hv
  have key:∀o b,o<5->(et L[k]).toList[o]?=some b->w.cell? (eb g (k*5+o))=some b:=by
   intro o b ho hu;rw[<-ES L k o hk ho,<-l]at hu
   have:j[k*5+o]?=some b:=by
    rw[xG]at hu;split at hu
    ·simpa using hu
    ·cases hu
   simp[World.cell?,hg,this]
  refine⟨(lF.1 hg).1,key 0 _ (by omega) (by rw[a];rfl),key 1 _ (by omega) (by rw[a];rfl),key 2 _ (by omega) (by rw[a];rfl),key 3 _ (by omega) (by rw[a];rfl),key 4 _ (by omega) (by rw[a];rfl)⟩
theorem Sn:(prog.info? 147).map (fun i=>(i.zero,i.size,i.bytes))=some (some (.agg (ii fy fy fy fy fy)),5,80):=by kernel_rfl
theorem came{f:eB->Option Value}{M:Lit->Option Value}{D:DataW Value}(a:∀kl,WideAt.IsKeyLit kl->∀z,D.atKey kl z=((M kl).map DataW.held).getD z)(h1:∀p,Good p->M (jo prog p)=f p)(h2:∀kl,WideAt.IsKeyLit kl->M kl≠none->∃p,Good p/\kl=jo prog p)
  {x:Value}{kl:Lit}{y:DataW Value}(b:keyOf prog 147 x=some kl)(c:∀z,D.atKey kl z=y):∃p,Good p/\kl=jo prog p/\x=.agg (et p)/\f p≠none:=by
 have hk:=rO.key b;have hne:M kl≠none:=by
  intro h0;have a1:=a kl hk (.held (ed 0));have a2:=a kl hk (.held (ed 1));rw[h0,c]at a1 a2;rw[a1]at a2;simp at a2
 obtain⟨p,hp,rfl⟩:=h2 kl hk hne;refine⟨p,hp,rfl,rO.inj b (iQ hp.val),?_⟩;rw[<-h1 p hp];exact hne
theorem Bl{w:World}{base:Nat}{e:fL}{size n:Nat}{v:Value}{xs:fE}(h:w.ownsRow base e size v n xs):∃a c,v=.slice a n c:=by
 rcases h.2 with⟨h1,h2⟩|⟨g,c,_,h1,_⟩
 ·exact⟨none,0,by rw[h1,h2]⟩
 ·exact⟨_,_,h1⟩
theorem yX{w3:World}{b n:Nat}{f:eB->Option Value}{src c p:eB}{L:List (eB)}{v:Value}(d:gm w3 b n (carried f src c L))(hn:n<maxLen)(g:∀x,c <+: x->f x=none)(j:∀x∈L,src <+: x/\f x≠none)(hp:Good p)(hs:src <+: p)(hv:f p=some v)(D1:p∉L)(k:Good (iR src c p))
  {t e:fL}(ht:prog.underlying t=some (.map 147 e)){z:Value}(l:∀W,(zeroValue e).run prog W=.ok z W)(h:fL):
  (Instr.lookup t (.map (some b)) (.agg (et p)) false).run prog w3=.ok v w3/\
  ∃a w5,(Instr.mapUpdate t (.map (some b)) (.agg (et (iR src c p))) v).run prog w3=.ok () a/\(Builtin.delete_ #[t,147] h #[.map (some b),.agg (et p)]).run prog a=.ok (.tuple #[]) w5/\
   gm w5 b n (carried f src c (L++[p]))/\w3.grownBy a (some b)/\a.grownBy w5 (some b)/\a.heap.size=w3.heap.size/\w5.heap.size=w3.heap.size:=by
 obtain⟨c1,c2⟩:=CF g j hs (by rw[hv];simp) D1;have hlk:=d.look ht (l w3) hp;rw[c1,hv,nG]at hlk;obtain⟨a,m,o,q,i⟩:=d.store k hn ht v;have hne:p≠iR src c p:=fun e=>by
  have:=g p (by rw[e];exact kV _ _)
  rw[hv]at this;cases this
 obtain⟨w5,r,s,u,w⟩:=o.OZ ht hp (by rw[fx hne,c1,hv];rfl) h;refine⟨hlk,a,w5,m,r,s.congr (fun x _=>?_),q,u,i,by rw[w,i]⟩;rw[<-c2 x,hv]
theorem HQ(W:World):(zeroValue 219).run prog W=.ok (.pointer none) W:=by kernel_rfl
theorem O0(a b c d e:eu)(w:World)
  (heq:∀W,(Op.equalIn 10000 147 (.agg (ii a b c d e)) (.agg (ii a b c d e))).run prog W=.ok true W):
  eK 140 #[.agg (ii a b c d e),.agg (ii a b c d e)] w (ml (.bool false) w):=by
 go_enter func140,ntmps140;go_wp2
 go_region
 all_goals
  go_wp2;go_ret;exact⟨rfl,eQ (((i7 _ _).alloc (io _) _).alloc (by simp) _)⟩
theorem O1(h i j k l q0 a c f g n o p q r:eu)(d:Int)(b:Bool)(w:World)
  (heq:∀W,(Op.equalIn 10000 147 (.agg (ii h i j k l)) (.agg (ii q0 a c f g))).run prog W=.ok false W)
  (hd:∀W,eK 142 #[.agg (ii q0 a c f g)] W (ml (ed d) W))
  (t:∀W,eK 188 #[.agg (ii h i j k l),ed d] W (ml (.agg (ii n o p q r)) W))
  (y:∀W,(Op.equalIn 10000 147 (.agg (ii n o p q r)) (.agg (ii q0 a c f g))).run prog W=.ok b W):
  eK 140 #[.agg (ii h i j k l),.agg (ii q0 a c f g)] w (ml (.bool b) w):=by
 go_enter func140,ntmps140;go_wp2
 go_region_with(first
  |(go_at_call 142;refine(hd _).mono ?_;rintro e u ⟨rfl,m⟩;obtain⟨z,A⟩:=gc m;obtain⟨B,C⟩:=nV m;have v:gS w u:=em (eQ (((i7 _ _).alloc (io _) _).alloc (by simp) _)) m)
  |(go_at_call 188;refine(t _).mono ?_;rintro e D ⟨rfl,s⟩;obtain⟨E,F⟩:=gc s;have x:=em v s))
 all_goals
  go_wp2;go_ret;exact⟨rfl,x⟩
theorem vz(l m:eB)(hl:Good l)(hm:Good m)(w:World):eK 140 #[hP l,hP m] w (ml (.bool (decide (m <+: l/\l≠m))) w):=by
 by_cases h:l=m
 ·subst h
  rw[m6 (fun h=>h.2 rfl)];have heq:∀W,(Op.equalIn 10000 147 (hP l) (hP l)).run prog W=.ok true W:=fun W=>by
   have:=sf hl hl W
   rw[jT rfl]at this;exact this
  exact O0 _ _ _ _ _ w heq
 ·have heq:∀W,(Op.equalIn 10000 147 (hP l) (hP m)).run prog W=.ok false W:=fun W=>by
   have:=sf hl hm W
   rw[m6 h]at this;exact this
  have hd:=fun W=>j5 m hm.val hm.len W;have a:=fun W=>ED l hl.len m.length hm.len W;have b:=fun W=>sf (hl.take m.length) hm W;have c:decide (m <+: l/\l≠m)=decide (l.take m.length=m):=by
   refine decide_eq_decide.2 ⟨fun h=>(List.prefix_iff_eq_take.1 h.1).symm,fun e=>⟨?_,h⟩⟩;rw[<-e];exact List.take_prefix _ _
  rw[c];exact O1 _ _ _ _ _ _ _ _ _ _ _ _ _ _ _ _ _ w heq hd a b
theorem uA{f:eB->Option Value}{M:Lit->Option Value}{D:DataW Value}(src:eB)(b:∀kl,WideAt.IsKeyLit kl->∀z,D.atKey kl z=((M kl).map DataW.held).getD z)(h1:∀p,Good p->M (jo prog p)=f p):n9 f src (Maps.has D) []:=by
 refine⟨List.nodup_nil,fun x=>⟨fun h=>(by cases h),fun⟨hx,_,hf,hl⟩=>?_⟩⟩;rw[x6 (b _ (Jx hx)),h1 x hx]at hl;cases a:f x with
 |none=>exact absurd a hf
 |some y=>rw[a]at hl;cases hl
theorem uB(w:World)(o:Obj):w.heap.size<=(w.alloc o).heap.size:=by simp
theorem Tb(w:World)(c0 c1 c2 c3 c4:Value)(t:fL):∀j a,[c0,c1,c2,c3,c4][j]?=some a->(w.alloc (.cells #[c0,c1,c2,c3,c4] t)).cell? (((eb w.heap.size 0):Addr).add j)=some a:=by
 intro j a h
 match j,h with
 |0,h=>simpa [Addr.add]using h
 |1,h=>simpa [Addr.add]using h
 |2,h=>simpa [Addr.add]using h
 |3,h=>simpa [Addr.add]using h
 |4,h=>simpa [Addr.add]using h
 |j+5,h=>simp at h
theorem Sp(w:World)(o:Obj)(c0 c1 c2 c3 c4:Value)(t:fL):∀j a,[c0,c1,c2,c3,c4][j]?=some a->((w.alloc o).alloc (.cells #[c0,c1,c2,c3,c4] t)).cell? (((eb (w.heap.size+1) 0):Addr).add j)=some a:=by
 have h:=Tb (w.alloc o) c0 c1 c2 c3 c4 t;rwa [pL]at h
theorem uC(b c d e f:eu):∀a∈[Value.string b,.string c,.string d,.string e,.string f],a.oneCell'=true:=by
 intro a hu;simp only[Hd,Gk,or_false]at hu;rcases hu with rfl|rfl|rfl|rfl|rfl<;>rfl
def wK (w':World)(a b c:Nat)(d e f g h i j k l m d0 d1 d2 d3 d4:eu):Prop:=w'.cell? ⟨a,0,none⟩=some (.string d)/\w'.cell? ⟨a,1,none⟩=some (.string e)/\w'.cell? ⟨a,2,none⟩=some (.string f)/\w'.cell? ⟨a,3,none⟩=some (.string g)/\w'.cell? ⟨a,4,none⟩=some (.string h)/\w'.cell? ⟨b,0,none⟩=some (.string i)/\w'.cell? ⟨b,1,none⟩=some (.string j)/\w'.cell? ⟨b,2,none⟩=some (.string k)/\w'.cell? ⟨b,3,none⟩=some (.string l)/\w'.cell? ⟨b,4,none⟩=some (.string m)/\w'.cell? ⟨c,0,none⟩=some (.string d0)/\w'.cell? ⟨c,1,none⟩=some (.string d1)/\w'.cell? ⟨c,2,none⟩=some (.string d2)/\w'.cell? ⟨c,3,none⟩=some (.string d3)/\w'.cell? ⟨c,4,none⟩=some (.string d4)
theorem wK.keep{w w':World}{a b c:Nat}{d e f g i j k l m n d0 d1 d2 d3 d4:eu}(h:wK w a b c d e f g i j k l m n d0 d1 d2 d3 d4)(p:∀o,w'.cell? (eb a o)=w.cell? (eb a o))(q:∀o,w'.cell? (eb b o)=w.cell? (eb b o))(hc:∀o,w'.cell? (eb c o)=w.cell? (eb c o)):wK w' a b c d e f g i j k l m n d0 d1 d2 d3 d4:=by
 unfold wK at h ⊢;simp only[p,q,hc];exact h
structure oV (b r n:Nat)(D:DataW Value)(f:eB->Option Value)(src:eB)(W2 wr:World)(left:Lit->Bool)(cnt:Nat)(L:List (eB))(mv:Value):Prop where
 rg:wr.ranges prog 147 fU b r n D left cnt
 ga:n9 f src left L
 row:wr.ownsRow (r+1) 147 5 mv L.length (iD L)
 gr:W2.grownBy wr none
 sz:r+1<=wr.heap.size
 many:L.length+cnt<=n
section
variable {b r n:Nat}{D:DataW Value}{f:eB->Option Value}{src:eB}{W2 wr:World}{left:Lit->Bool}{cnt:Nat}{L:List (eB)}{mv:Value}
theorem ET{w:World}{base:Nat}{e:fL}{size k:Nat}{v:Value}{xs:fE}(h:w.ownsRow base e size v k xs){c:Nat}(hc:c<base):some c≠v.ownBlock:=by
 intro e;rcases h.2 with⟨h1,_⟩|⟨g,cap,a,h1,b,_⟩
 ·rw[h1]at e;cases e
 ·rw[h1]at e
  simp only[Value.ownBlock,kE]at e;omega
theorem gH{w w':World}(h:gS w w'):w.grownBy w' none:=⟨h.os,h.tape,h.output,h.size,fun i hi _=>h.block i hi⟩
theorem oV.below(h:oV b r n D f src W2 wr left cnt L mv){w':World}(a:gS wr w'):oV b r n D f src W2 w' left cnt L mv:=
 ⟨h.rg.kept (gH a) (by simp) (by simp),h.ga,eh h.row (fun g hg=>a.block g (ee h.row hg)),h.gr.andThen (gH a) (fun j hj=>by cases hj),pD h.sz a.size,h.many⟩
theorem oV.box(h:oV b r n D f src W2 wr left cnt L mv){c:Nat}(hc:c<W2.heap.size)(o:Nat):wr.cell? (eb c o)=W2.cell? (eb c o):=ig (a:=(eb c o)) (h.gr.block c hc (by simp))
theorem oV.next(h:oV b r n D f src W2 wr left cnt L mv){a:World}{d:Nat}{p:eB}(x:b<r)(hr:W2.heap.size<=r)(s:a.ranges prog 147 fU b r n D (fun z=>left z&&!z.sameKey (jo prog p)) d)(y:d<cnt)(hg:wr.grownBy a (some r))(hp:Good p)(hl:left (jo prog p)=true)(hf:f p≠none):
  (¬src <+: p->oV b r n D f src W2 a (fun z=>left z&&!z.sameKey (jo prog p)) d L mv)/\
  (src <+: p->a.ownsRow (r+1) 147 5 mv L.length (iD L)/\r+1<=a.heap.size/\L.length+1<=n/\∀i w3 k,gS a i->w3.ownsRow (r+1) 147 5 k (L.length+1) (iD L++(et p).toList)->i.grownBy w3 mv.ownBlock->oV b r n D f src W2 w3 (fun z=>left z&&!z.sameKey (jo prog p)) d (L++[p]) k):=by
 have t:a.ownsRow (r+1) 147 5 mv L.length (iD L):=eh h.row (fun g u=>hg.block g (ee h.row u) (fun e=>by
  have:=ET h.row (c:=r) (by omega)
  exact this (by rw[u,e])))
 have v:W2.grownBy a none:=h.gr.andThen hg (fun j hj=>by cases hj;exact .inl hr);have l:=pD h.sz hg.size;have hm:=h.many;refine⟨fun hs=>⟨s,Ah h.ga hp hs,t,v,l,by omega⟩,fun hs=>⟨t,l,by omega,fun i w3 k m w o=>?_⟩⟩;have A:=h.rg.owns.lt;have q:some b≠mv.ownBlock/\some r≠mv.ownBlock/\∀j,mv.ownBlock=some j->r+1<=j:=by
  rcases h.row.2 with⟨h1,_⟩|⟨g,cap,B,h1,C,_⟩
  ·rw[h1];exact⟨by simp[Value.ownBlock],by simp[Value.ownBlock],fun j hj=>by simp[Value.ownBlock]at hj⟩
  ·rw[h1]
   refine⟨fun e=>?_,fun e=>?_,fun j hj=>?_⟩
   ·simp only[Value.ownBlock,kE]at e;omega
   ·simp only[Value.ownBlock,kE]at e;omega
   ·simp only[Value.ownBlock,kE]at hj;omega
 refine⟨(s.kept (gH m) (by simp) (by simp)).kept o q.1 q.2.1,CG h.ga hp hs hf hl,?_,?_,?_,?_⟩
 ·rw[jM,HP];exact w
 ·exact(v.andThen (gH m) (fun j hj=>by cases hj)).andThen o (fun j hj=>.inl (pD (pD hr (Hk _)) (q.2.2 j hj)))
 ·exact pD l (pD m.size o.size)
 ·simp;omega
end
theorem yY{b w3:World}{X:Obj}{a c:Nat}(d:Below (b.alloc X).drew.heap.size (b.alloc X).drew w3)(e:a<b.heap.size)(hc:c<b.heap.size):
  (∀o,w3.cell? (eb b.heap.size o)=(b.alloc X).drew.cell? (eb b.heap.size o))/\(∀o,w3.cell? (eb a o)=(b.alloc X).drew.cell? (eb a o))/\(∀o,w3.cell? (eb c o)=(b.alloc X).drew.cell? (eb c o))/\b.heap.size<w3.heap.size:=by
 have h1:b.heap.size<(b.alloc X).drew.heap.size:=by simp
 exact⟨fun o=>(gc d).1 _ o h1,fun o=>(gc d).1 _ o (zS e h1),fun o=>(gc d).1 _ o (zS hc h1),kv h1 d.size⟩
theorem yZ{W2 a w3 k w5:World}{b r:Nat}{la:e5}{lc m:Nat}{xs:fE}(p:b<r)(hg:W2.grownBy a (some b))(h:a.ownsRow (r+1) 147 5 (.slice la m lc) m xs)(o:r+1<=a.heap.size)(d:gS a w3)(f:w3.grownBy k (some b))(i:k.grownBy w5 (some b)):
  W2.grownBy w5 (some b)/\w5.ownsRow (r+1) 147 5 (.slice la m lc) m xs/\r+1<=w5.heap.size:=by
 refine⟨((hg.andThen (gH d) (fun j hj=>by cases hj)).andThen f (fun j hj=>.inr (by rw[hj]))).andThen i (fun j hj=>.inr (by rw[hj])),eh h (fun g l=>?_),pD o (pD d.size (pD f.size i.size))⟩;have hl:=ee h l;have hne:some g≠some b:=fun e=>ET h (c:=b) (by omega) (by rw[l,e]);have n:=kv hl d.size;rw[i.block g (kv n f.size) hne,f.block g n hne,d.block g hl]
theorem EU(b n:Nat)(f:eB->Option Value)(src t:eB)(w:World)(O:Good src)(am:Good t)(P:gm w b n f)(hn:n<1099511627776)
  (aT:∀x,t <+: x->f x=none)(aU:∀x,src <+: x->f x≠none->t.length+(x.length-src.length)<=5)(hf:∀x,f x≠none->Good x):
  eK 144 #[.map (some b),.agg (et src),.agg (et t)] w fun e w'=>e=.returned (.tuple #[])/\gm w' b n (qr f src t)/\w.grownBy w' (some b):=by
 obtain⟨aV,hi,an,ao,ap⟩:=H4 Sn;have bx:=P.lt;have bz:Hid _:=P;obtain⟨M,⟨D,hD,aW⟩,h1,h2⟩:=P;have aa:=fun p (hp:Good p) W=>vz p src hp O W;have heq:=fun p (hp:Good p) W=>sf hp O W;have Q:=fun r (h1:src.length+r.length<=5) (h2:t.length+r.length<=5) W=>Bk src t r O am h1 h2 W;obtain⟨a,d,l,m,q,hS⟩:∃a d l m q,et src=(ii a d l m q):=⟨_,_,_,_,_,rfl⟩;obtain⟨d0,d1,d2,d3,d4,ab⟩:∃a d l m q,et t=(ii a d l m q):=⟨_,_,_,_,_,rfl⟩;unfold hP at aa heq Q;rw[hS]at aa heq Q;rw[ab]at Q;rw[hS,ab];have aq:Hid _:=pk (w':=(w.alloc (.cells (ii a d l m q) 147)).alloc (.cells (ii d0 d1 d2 d3 d4) 147)) hD ((((i7 w.heap.size w).alloc (io _) _).alloc (by simp) _).block b bx);have G:Hid _:=And.intro aW (And.intro h1 h2);have aX:Hid _:=aa;have aY:Hid _:=heq;have aZ:Hid _:=Q;have a0:Hid _:=aT;have a1:Hid _:=aU;have ar:Hid _:=hf;have a2:Hid _:=And.intro O am;have bA:Hid _:=And.intro hS ab;clear hD aW h1 h2 aa heq Q aT aU hf O am hS ab;go_enter func144,ntmps144;go_wp2_with(b7;go_loud(refine wpList_range_own _ rfl _ 161 rfl 147 219 rO underlying161 fU b n D rfl aq.out ?_;intro bB au a3 av))
 go_frame
 have bC:((w.alloc (.cells (ii a d l m q) 147)).alloc (.cells (ii d0 d1 d2 d3 d4) 147)).heap.size=w.heap.size+2:=by simp
 have a4:=World.ownsMap.size_le aq.out;generalize hr:((w.alloc (.cells (ii a d l m q) 147)).alloc (.cells (ii d0 d1 d2 d3 d4) 147)).heap.size=r at au av ⊢;have a5:b<r:=by omega
 have a6:w.heap.size<r:=by omega
 have b8:w.heap.size+1<r:=by omega
 have ac:Hid (((w.alloc (.cells (ii a d l m q) 147)).alloc (.cells (ii d0 d1 d2 d3 d4) 147)).heap.size<=r/\w.heap.size<((w.alloc (.cells (ii a d l m q) 147)).alloc (.cells (ii d0 d1 d2 d3 d4) 147)).heap.size/\w.heap.size+1<((w.alloc (.cells (ii a d l m q) 147)).alloc (.cells (ii d0 d1 d2 d3 d4) 147)).heap.size):=⟨xM hr,by omega,by omega⟩;have a7:Hid (oV b r n D f src ((w.alloc (.cells (ii a d l m q) 147)).alloc (.cells (ii d0 d1 d2 d3 d4) 147)) bB (Maps.has D) (Maps.size D) [] (.slice none 0 0)):=⟨au,uA src G.out.1 G.out.2.1,UV _ _ _ _,a3,by rw[av];exact io _,by simpa using a4⟩;clear au a3 av hr bC a4
 go_loopw [6] (fun mv wr=>∃left cnt L,Hid (oV b r n D f src ((w.alloc (.cells (ii a d l m q) 147)).alloc (.cells (ii d0 d1 d2 d3 d4) 147)) wr left cnt L mv)) (fun _ wr=>wr.rangeLeft b r)
 case atStart=>exact⟨Maps.has D,Maps.size D,[],a7.out⟩
 case round=>
  obtain⟨left,cnt,L,s⟩:=hrel;obtain⟨la,lc,rfl⟩:=Bl s.out.row;go_wp2_with(b9;refine JG ?_);show wpList _ _ _ _ _ _;refine wpList_next_ranges _ rfl (.tmp 11) rfl 147 rO fU (fun x:Value=>x) (fun x:Value=>x) (fun key kl _=>⟨key,rfl⟩) (fun v y _=>⟨v,rfl⟩) b r n D left cnt rfl s.out.rg ?_ ?_
  ·intro bD hl0
   have aw:Hid (∀x,x∈L↔(src <+: x/\f x≠none)):=fun x=>(s.out.ga.2 x).trans ⟨fun h=>⟨h.2.1,h.2.2.1⟩,fun h=>⟨ar.out x h.2,h.1,h.2,hl0 _⟩⟩;have a8:Hid L.Nodup:=s.out.ga.1;clear hl0 bD;have a9:Hid (gm wr b n (carried f src t [])):=gm.congr ⟨M,⟨D,s.out.rg.owns,G.out.1⟩,G.out.2.1,G.out.2.2⟩ (fun x _=>(wI f src t x).symm);have ca:L.length<=n:=by have:=s.out.many;omega
   have K:Hid (wr.ownsRow (r+1) 147 5 (.slice la L.length lc) L.length (iD L)):=s.out.row;have bb:Hid _:=World.grownBy.but s.out.gr (some b);have bE:=s.out.sz;go_wp2
   go_loopw [30] (fun i F=>∃k:Nat,k<=L.length/\i=.int .i64 (k:Int)/\Hid (gm F b n (carried f src t (L.take k)))/\Hid (((w.alloc (.cells (ii a d l m q) 147)).alloc (.cells (ii d0 d1 d2 d3 d4) 147)).grownBy F (some b))/\Hid (F.ownsRow (r+1) 147 5 (.slice la L.length lc) L.length (iD L))/\r+1<=F.heap.size) (fun i _=>L.length-(intOf i).toNat)
   case atStart=>exact⟨0,oY _,rfl,a9.out,bb.out,K.out,bE⟩
   case round=>
    obtain⟨k,hk,rfl,ad,ae,ax,bF⟩:=hrel;by_cases af:k<L.length
    ·obtain⟨g,cb,bG⟩:=ej ax.out (by omega)
     cases bG;have ay:=iF af;obtain⟨hs,kZ⟩:=(aw.out L[k]).1 ay;have hp:=ar.out _ kZ;have az:L[k]∉L.take k:=by
      intro jY;obtain⟨j,hj,bc⟩:=mH jY;rw[Hc]at hj;rw[List.getElem_take]at bc;exact MT.1 a8.out j k (by omega) af (by omega) bc
     have aA:L.take (k+1)=L.take k++[L[k]]:=sZ af;have bd:∀x∈L.take k,src <+: x/\f x≠none:=fun x hx=>(aw.out x).1 (wY hx);obtain⟨u,z,A,B,C,H⟩:∃a d l m q,et L[k]=(ii a d l m q):=⟨_,_,_,_,_,rfl⟩;obtain⟨cc,bH,bI,e2,bJ,bK⟩:=T7 ax.out af H;generalize L[k]=p at ay hs kZ hp az aA H;cases hv:f p with
     |none=>exact absurd hv kZ
     |some v=>
      have KE:=uy hs;have aB:=a1.out p hs kZ;have bL:=hp.len;have be:src.length+(p.drop src.length).length<=5:=by rw[jl];have:=hs.length_le;omega
      have ag:=aZ.out (p.drop src.length) be (by rw[jl];exact aB);rw[KE,H]at ag;have bf:Good (iR src t p):=⟨a2.out.2.val.append (fun x hx=>hp.val x (Gf hx)),by unfold iR;rw[jM,jl];exact aB⟩;have ah:=fun W (P:gm W b n (carried f src t (L.take k)))=>yX P (by unfold maxLen;omega) a0.out bd hp hs hv az bf underlying161 HQ 0
      change ∀W,eK 197 _ W fun e w'=>e=.returned (.agg (et (iR src t p)))/\_ at ag
      obtain⟨q0,bM,cd,ce,cf,aC⟩:∃a d l m q,et (iR src t p)=(ii a d l m q):=⟨_,_,_,_,_,rfl⟩;rw[aC]at ag;simp only[H,aC]at ah;have bN:Hid _:=ah;have aD:gS wr (wr.alloc (.cells (ii u z A B C) 147)).drew:=eQ ((i7 _ _).alloc (io _) _);have hl0:=(ah _ (ad.out.keep (aD.block b (by omega)))).1;have bg:=fun o=>(rh ae.out (c:=w.heap.size) ac.out.2.1 (by omega) o);have kD:=fun o=>(rh ae.out (c:=w.heap.size+1) ac.out.2.2 (by omega) o);have ai:w.heap.size<wr.heap.size:=by omega
      have R:w.heap.size+1<wr.heap.size:=(by omega);have bO:b<wr.heap.size:=by omega
      have bQ:wr.heap.size≠b:=(by omega);have bR:w.heap.size≠b:=by omega
      have bS:w.heap.size+1≠b:=(by omega);have bT:Hid _:=aA;have bU:Hid _:=aD;clear ah aD ay hs kZ hp az aA H hv KE aB bL be bf aC bd;clear aq G aX aY aZ a1 ar a2 bA bz a8 a9 K bb a7 hi an ao ap;go_wp2;clear bH bI e2 bJ bK;have bh:wK (wr.alloc (.cells (ii u z A B C) 147)).drew wr.heap.size w.heap.size (w.heap.size+1) u z A B C a d l m q d0 d1 d2 d3 d4:=by
       unfold wK;have q0:=Nat.ne_of_lt ai;have bM:=Nat.ne_of_lt R;simp[Qx,ai,R,bg,kD]
      go_region_held3 (fun w'=>w'.cell? (eb wr.heap.size 0)=some (.string u)/\w'.cell? (eb wr.heap.size 1)=some (.string z)/\w'.cell? (eb wr.heap.size 2)=some (.string A)/\w'.cell? (eb wr.heap.size 3)=some (.string B)/\w'.cell? (eb wr.heap.size 4)=some (.string C)/\w'.cell? (eb w.heap.size 0)=some (.string a)/\w'.cell? (eb w.heap.size 1)=some (.string d)/\w'.cell? (eb w.heap.size 2)=some (.string l)/\w'.cell? (eb w.heap.size 3)=some (.string m)/\w'.cell? (eb w.heap.size 4)=some (.string q)/\w'.cell? (eb (w.heap.size+1) 0)=some (.string d0)/\w'.cell? (eb (w.heap.size+1) 1)=some (.string d1)/\w'.cell? (eb (w.heap.size+1) 2)=some (.string d2)/\w'.cell? (eb (w.heap.size+1) 3)=some (.string d3)/\w'.cell? (eb (w.heap.size+1) 4)=some (.string d4)) (first|exact bh|exact bi|exact bV) (first|(go_at_call 197;refine(ag _).mono ?_;rintro e w3 ⟨rfl,aE⟩;obtain⟨bj,bk,bl,aj⟩:=yY aE ai R;have bi:=bh.keep bj bk bl;have aF:=em bU.out aE;obtain⟨cg,bW,w5,ch,ci,bm,S,bn,bo,bX⟩:=bN.out w3 (ad.out.keep (aF.block b bO));have bV:=bi.keep (rh S aj bQ) (rh S (zS ai aj) bR) (rh S (zS R aj) bS);have aG:Hid _:=yZ a5 ae.out ax.out bF aF S bn;have bY:Hid _:=bm;have bZ:wr.heap.size<bW.heap.size:=kv aj (xM bo.symm);clear S bn bo bX bm aF bj bk bl aE))
      all_goals
       go_wp2;go_roundw
       case rel=>exact⟨k+1,by omega,by go_num,by rw[bT.out];exact bY.out,aG.out.1,aG.out.2.1,aG.out.2.2⟩
       case measure=>simp[intOf];omega
    ·have b0:k=L.length:=by omega
     subst b0;rw[uO]at ad;go_wp2;go_end0;refine⟨rfl,ad.out.congr (fun x _=>wJ a0.out aw.out x),?_⟩;exact(World.grownBy.but (gH (((i7 w.heap.size w).alloc (io _) _).alloc (by simp) _)) (some b)).andThen ae.out (fun j hj=>.inr (by rw[hj]))
  ·intro x c kl y E aH bp hlk hv bq aI aJ aK br b1
   obtain⟨p,hp,rfl,rfl,kZ⟩:=came G.out.1 G.out.2.1 G.out.2.2 bp bq;obtain⟨u,z,A,B,C,H⟩:∃a d l m q,et p=(ii a d l m q):=⟨_,_,_,_,_,rfl⟩;have N:=aX.out p hp;have ak:∀W,(Op.equalIn 10000 147 (.agg (et p)) (.agg (ii a d l m q))).run prog W=.ok (decide (p=src)) W:=aY.out p hp;obtain⟨bs,bt⟩:=s.out.next a5 ac.out.1 aI aJ aK hp hlk kZ;have bg:=fun o=>(rh aK (c:=w.heap.size) (kv a6 (Nat.le_of_succ_le s.out.sz)) (by omega) o).trans (s.out.box ac.out.2.1 o);have R:w.heap.size<E.heap.size:=by rw[br];exact kv a6 (Nat.le_of_succ_le s.out.sz)
   have aL:Hid (aH<cnt):=aJ;have cj:Hid _:=aI;rw[H]at N ak b1 ⊢;have bu:Hid _:=H;have b2:Hid _:=bs;have bv:Hid _:=bt;clear bs bt bp hlk hv bq aI aJ aK br kZ H;by_cases hs:src <+: p
   ·by_cases T:p=src
    ·rw[jT T]at ak
     clear N;obtain⟨U,al,b3,V⟩:=bv.out hs;have hW:gS E (E.alloc (.cells (ii u z A B C) 147)):=(i7 _ _).alloc (io _) _;have K:Hid _:=U.alloc (.cells (ii u z A B C) 147);have aM:Hid _:=pD al hW.size;have aN:Hid _:=V;have X:Hid _:=hW;have aO:L.length+1<=maxLen:=by unfold maxLen;omega
     have aP:(L.length+1)*80<=140737488355328:=(by omega);clear U al V hW;go_wp2_with(at_builtin;go_loud(refine Gi _ rfl (.tmp 24) (.tmp 26) 289 rfl (r+1) 147 aV _ 5 80 underlying289 hi an ao ap rfl (by decide) (.slice la L.length lc) L.length (iD L) rfl (mL K.out _) (eb (E.heap.size+1) 0) 1 1 [.string u,.string z,.string A,.string B,.string C] rfl rfl (Sp E _ _ _ _ _ _ 147) (uC _ _ _ _ _) aO aP (pD aM.out (uB _ _)) ?_;intro b4 w3 J Y _ aQ;obtain⟨b5,b6,rfl⟩:=ej J (Nat.succ_pos _);have aR:Hid _:=J;have aS:Hid _:=Y;clear J Y aQ));have I:Hid (oV b r n D f src _ w3 _ aH (L++[p]) _):=aN.out _ w3 _ (X.out.alloc X.out.size (.cells (ii u z A B C) 147)) (by rw[bu.out];exact aR.out) aS.out;go_roundw
     case rel=>exact⟨_,_,_,I.out⟩
     case measure=>rw[I.out.rg.left_eq,s.out.rg.left_eq];exact aL.out
    ·rw[m6 T]at ak
     rw[jT ⟨hs,T⟩]at N;obtain⟨U,al,b3,V⟩:=bv.out hs;have aN:Hid _:=V;have aO:L.length+1<=maxLen:=by unfold maxLen;omega
     have aP:(L.length+1)*80<=140737488355328:=(by omega);clear V;have ck:w.heap.size<(E.alloc (.cells (ii u z A B C) 147)).heap.size:=by simp;omega
     have bw:E.heap.size<(E.alloc (.cells (ii u z A B C) 147)).heap.size:=(by simp);go_wp2_with(first
      |(go_at_call 140;refine g7 (N _) ?_;rintro e F ⟨rfl,Z⟩;have cl:=fun o=>(gc Z).1 E.heap.size o bw;have bZ:=kv bw Z.size;have hW:=em ((i7 E.heap.size E).alloc (io _) _) Z;have K:Hid (F.ownsRow (r+1) 147 5 (.slice la L.length lc) L.length (iD L)):=eh U (fun g hg=>hW.block g (ee U hg));have aM:Hid (r+1<=F.heap.size):=pD al hW.size;have X:Hid _:=hW;clear hW)
      |(at_builtin;go_loud(refine Gi _ rfl (.tmp 24) (.tmp 26) 289 rfl (r+1) 147 aV _ 5 80 underlying289 hi an ao ap rfl (by decide) (.slice la L.length lc) L.length (iD L) rfl (mL K.out _) (eb F.heap.size 0) 1 1 [.string u,.string z,.string A,.string B,.string C] rfl rfl (Tb F _ _ _ _ _ 147) (uC _ _ _ _ _) aO aP (pD aM.out (uB _ _)) ?_;intro b4 w3 J Y _ aQ;obtain⟨b5,b6,rfl⟩:=ej J (Nat.succ_pos _);have aR:Hid _:=J;have aS:Hid _:=Y;clear J Y aQ)))
     have I:Hid (oV b r n D f src _ w3 _ aH (L++[p]) _):=aN.out _ w3 _ (X.out.alloc X.out.size (.cells (ii u z A B C) 147)) (by rw[bu.out];exact aR.out) aS.out;go_roundw
     case rel=>exact⟨_,_,_,I.out⟩
     case measure=>rw[I.out.rg.left_eq,s.out.rg.left_eq];exact aL.out
   ·have T:p≠src:=fun e=>hs (e▸mB _)
    rw[m6 T]at ak;rw[m6 (fun h=>hs h.1)]at N;go_wp2_with(go_at_call 140;refine g7 (N _) ?_;rintro e F ⟨rfl,Z⟩);have I:Hid _:=(b2.out hs).below (em ((i7 _ _).alloc (io _) _) Z);go_roundw
    case rel=>exact⟨_,_,L,I.out⟩
    case measure=>rw[(oV.rg I.out).left_eq,s.out.rg.left_eq];exact aL.out
end Go.Proofs.YtlgidcmmgohagaaGreat
