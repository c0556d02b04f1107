/- What is proved here: slices. -/
import Derived.Test.YtlgidcmmgohagaaGreatFileM15
import Derived.Lib.Overlaps
import Derived.Lib.AppendZerosOnto
import Derived.Laws.Externs
import Derived.Test.YtlgidcmmgohagaaGreatFileM04
namespace Go.Proofs.YtlgidcmmgohagaaGreat
open Go.RowKit Go.Sort Go.Shelf Go.Proofs.Tryz
set_option linter.unusedVariables false
set_option maxRecDepth 100000
set_option maxHeartbeats 16000000
variable {v:Value}{a b c gb i ix k lim n:Nat}{W w w':World}{es es':List eN}{K:eL->List eN}{e t:gi}{f:eL->Option Value}{g:WG}{tg eF:eV}{vD vD0:eL->Value}{B:WB}{q:eL}{ey:List Ob}{fs:FS}{ft:FT}
theorem Gb:(prog.info? 96).map (·.size)=some 3:=by kernel_rfl
def tI (w w':World)(own:Option Nat)(n:Nat)(es:List eN)(e:Ending):Prop:=
 ∃g c,e=.returned (.slice (some ⟨g,0,none⟩) (n+1) c)/\w'.ownsRow 0 96 3 (.slice (some ⟨g,0,none⟩) (n+1) c) (n+1) (flat es)/\w.grownBy w' own/\((some g:Option Nat)=own\/w.heap.size<=g)
theorem Rb(g n c k f:Nat)(es:List eN)(x:eN)(b:Array Value)(w:World)(hg:w.heap[g]?=some (.cells b 96 (0,0)))(hn:es.length=n)(hk:k<n)(L:n+1<=c)(M:c<=maxLen)(h:b.size=c*3)(ht:b.toList.take (n*3)=flat es)
  (hv:w.heap[f]?=some (.cells #[.string x.1,eJ x.2.1,eJ x.2.2] 96 (0,0)))(F:f≠g):
  gc 193 #[.slice (some (eI g 0)) n c,eJ (k:Int),.slice (some (eI f 0)) 1 1] w fun e w'=>tI w w' (some g) n (es.take k++x::es.drop k) e:=by
 unfold maxLen at M;have G:∀j t,(flat es)[j]?=some t->w.cell? (eI g j)=some t:=fun j t hu=>by
  rw[<-ht,Ap]at hu;split at hu
  ·simp[World.cell?,hg];simpa using hu
  ·cases hu
 obtain⟨n1,l⟩:∃n1,n1=flat (es.drop k):=⟨_,rfl⟩;have q:n1.length=(n-k)*3:=by rw[l,km,lz,hn]
 have N:∀u z,(callFunc 219 #[.slice (some (eI f 0)) 1 1,.slice (some (eI g ((k+1)*3))) u z]).run prog w=.ok (.value (.bool false)) w:=fun u z=>by
  rw[run_callFunc_extern func219 (by kernel_rfl) (by kernel_rfl) (by kernel_rfl) (e:=Extern.SlicesOverlaps.overlaps #[55,55] #[4]) (by kernel_rfl),
   Lib.run_overlaps_apart w 55 4 96 underlying55 3 (fun w=>sizeOf34 w) (eI f 0) (eI g ((k+1)*3)) 1 1 u z F 96 96 3 b.size (by simp[World.shape?,hv]) (by simp[World.shape?,hg]) (by rw[h];omega) (by simp[World.frozen?,hv]) (by simp[World.frozen?,hv])]
  rfl
 obtain⟨a,r⟩:∃a:Array Value,a=(b.toList.take ((k+1)*3)++n1++b.toList.drop ((k+1)*3+n1.length)).toArray:=⟨_,rfl⟩;have A:a.size=c*3:=by
  rw[r];simp only[CL,mb,gT,lz,ng];omega
 obtain⟨d,m⟩:∃d,d=w.drew.setRow g a:=⟨_,rfl⟩;have B:d.heap[g]?=some (.cells a 96 (0,0)):=by rw[m];exact Ff w.drew g _ _ 96 _ hg
 have C:Nat.min (n+1-k) (n-k)=n-k:=by simp only[Nat.min_def];split<;>omega
 have O:∀i dc D,(Builtin.copy_ #[55,55] i #[.slice (some (eI g ((k+1)*3))) (n-k) dc,.slice (some (eI g (k*3))) (n+1-k) D]).run prog w.drew=.ok (goInt ((n-k:Nat):Int)) d:=fun i dc D=>by
  have:=nY (P:=prog) w.drew 55 55 i 96 3 g ((k+1)*3) (n-k) dc (eI g (k*3)) (n+1-k) D b 96 n1 underlying55 Gb hg (by rw[C];exact q)
   (fun j v hj=>by rw[KX];show w.cell? _=_;refine G _ _ ?_;rw[l,vP es k (by omega),Ph]at hj;exact hj) (by rw[q,h];omega) (by rw[l];exact iR _)
  rw[C]at this;rw[this,m,r]
 have s:d.heap[f]?=some (.cells #[.string x.1,eJ x.2.1,eJ x.2.2] 96 (0,0)):=by rw[m,Aw w.drew g f _ F];exact hv
 obtain⟨o,E⟩:∃o:Array Value,o=(a.toList.take (k*3)++ml x++a.toList.drop (k*3+(ml x).length)).toArray:=⟨_,rfl⟩;have Q:∀i dc,(Builtin.copy_ #[55,55] i #[.slice (some (eI g (k*3))) (n+1-k) dc,.slice (some (eI f 0)) 1 1]).run prog d=.ok (goInt ((1:Nat):Int)) (d.setRow g o):=fun i dc=>by
  have hm:Nat.min 1 (n+1-k)=1:=by simp only[Nat.min_def];split<;>omega
  have:=nY (P:=prog) d 55 55 i 96 3 g (k*3) (n+1-k) dc (eI f 0) 1 1 a 96 (ml x) underlying55 Gb B (by rw[hm];rfl)
   (fun j v hj=>by rw[KX];match j,hj with
    |0,hj=>simpa [World.cell?,s,ml]using hj
    |1,hj=>simpa [World.cell?,s,ml]using hj
    |2,hj=>simpa [World.cell?,s,ml]using hj
    |j+3,hj=>simp[ml]at hj) (by rw[Hc,A];omega) (pp x)
  rw[hm]at this;rw[this,E]
 have Y:¬((k:Int)=(n:Int)):=by omega
 have Z:IntKind.i64.wrap ((k:Int)+1)=(k:Int)+1:=by rw[xS];omega
 have aa:(0:Int)<=(k:Int)+1:=by omega
 have ab:(k:Int)+1<=(n:Int)+1:=by omega
 have ac:(k:Int)<=(n:Int)+1:=by omega
 have ad:¬c=k+1:=by omega
 have ae:¬c=k:=by omega
 have af:((k:Int)+1).toNat=k+1:=by omega
 have p:Hid (d=w.drew.setRow g a):=m;have H:Hid (a=(b.toList.take ((k+1)*3)++n1++b.toList.drop ((k+1)*3+n1.length)).toArray):=r;have I:Hid (o=(a.toList.take (k*3)++ml x++a.toList.drop (k*3+(ml x).length)).toArray):=E;have R:Hid (n1=flat (es.drop k)):=l;have S:Hid (n1.length=(n-k)*3):=q;have T:Hid (d.heap[g]?=some (.cells a 96 (0,0))):=B;have U:Hid (b.toList.take (n*3)=flat es):=ht;have V:Hid (a.size=c*3):=A;have W:Hid (b.size=c*3):=h;have X:Hid (es.length=n):=hn;clear m r E l q B ht A h G hn s C hv hg;go_enter func193,ntmps193;go_wp2_with(simp only[N])
 go_region_law(refine ag rfl _ _ 55 55 rfl _ _ (by simp[Act.eval,Act.put]) (by simp[Act.eval,Act.put]) (O _ _ _) ?_)
 all_goals
  go_wp2_with(at_builtin;refine ah _ rfl _ _ 55 55 rfl _ _ rfl rfl (Q _ _) ?_);go_ret;have J:=V.out;have h:=W.out;have ai:=X.out;have hlk:(a.toList.take (k*3)).length=k*3:=by rw[gT,ng,J];omega
  refine⟨g,c,rfl,⟨by rw[km];simp;omega,.inr ⟨g,c,o,rfl,tk _,Ff d g _ _ 96 _ T.out,L,by unfold maxLen;omega,?_,?_⟩⟩,?_,.inl rfl⟩
  ·rw[I.out]
   simp only[CL,mb,hlk,lz,ng,J,Hc];omega
  ·rw[I.out]
   show List.take ((n+1)*3) (a.toList.take (k*3)++ml x++a.toList.drop (k*3+(ml x).length))=_;have h1:a.toList.take (k*3)=flat (es.take k):=by
    rw[H.out];show List.take (k*3) (b.toList.take ((k+1)*3)++n1++b.toList.drop ((k+1)*3+n1.length))=_;rw[kC,Pe (by rw[gT,ng,h];omega),List.take_take,xQ (by omega),vO es k (by omega),<-U.out,List.take_take,xQ (by omega)]
   have h2:(a.toList.drop (k*3+(ml x).length)).take ((n-k)*3)=flat (es.drop k):=by
    rw[H.out];show List.take ((n-k)*3) (List.drop (k*3+(ml x).length) (b.toList.take ((k+1)*3)++n1++b.toList.drop ((k+1)*3+n1.length)))=_;have hl:(b.toList.take ((k+1)*3)).length=(k+1)*3:=by rw[gT,ng,h];omega
    rw[show k*3+(ml x).length=(k+1)*3 by rw[Hc];omega,kC,Tj hl,Au S.out,R.out]
   rw[h1,jv,show flat (x::es.drop k)=ml x++flat (es.drop k)from rfl,<-kC,List.take_append,lV (by rw[mb,km,Hc,gT];omega)]
   congr 1
   rw[show(n+1)*3-(flat (es.take k)++ml x).length=(n-k)*3 by rw[mb,km,Hc,gT];omega];exact h2
  ·refine⟨by rw[p.out];rfl,by rw[p.out];rfl,by rw[p.out];rfl,by rw[p.out];simp,fun y aj hne=>?_⟩
   have K:y≠g:=fun e=>hne (by rw[e]);rw[Aw d g y _ K,p.out,Aw w.drew g y _ K];rfl
theorem Oz(v:Value)(n a:Nat)(es:List eN)(x:eN)(w:World)(la:fD)(c:Nat)(u:v=.slice la n c)(l:w.ownsRow 0 96 3 v n (flat es))(hn:es.length=n)(iE:n<=16)
  (hv:w.heap[a]?=some (.cells #[.string x.1,eJ x.2.1,eJ x.2.2] 96 (0,0)))(C:n<=c)(y:c<=maxLen):
  gc 193 #[.slice la n c,eJ (n:Int),.slice (some (eI a 0)) 1 1] w fun e w'=>tI w w' (Value.slice la n c).ownBlock n (es++[x]) e:=by
 subst u;obtain⟨m,hi,o,p,q⟩:=iq xX;unfold maxLen at y;have r:Hid (w.ownsRow 0 96 3 (.slice la n c) n (flat es)):=l;have s:∀j b,(ml x)[j]?=some b->w.cell? (((eI a 0):Addr).add j)=some b:=fun j b hj=>by
  rw[KX]
  match j,hj with
  |0,hj=>simpa [World.cell?,hv,ml]using hj
  |1,hj=>simpa [World.cell?,hv,ml]using hj
  |2,hj=>simpa [World.cell?,hv,ml]using hj
  |j+3,hj=>simp[ml]at hj
 have t:Hid (∀j b,(ml x)[j]?=some b->w.cell? (((eI a 0):Addr).add j)=some b):=s;clear l s hv;by_cases z:c=n
 ·subst z
  go_enter func193,ntmps193;go_wp2_with(first|(at_builtin;refine KQ _ rfl (.tmp 23) (.tmp 24) 55 rfl 0 96 m _ 3 32 underlying55 hi o p q rfl (by decide) (.slice la c c) c (flat es) rfl r.out (eI a 0) 1 1 (ml x) rfl rfl t.out (pp x) (by unfold maxLen;omega) (by omega) (tk _) ?_;intro A B d f _ i;obtain⟨g,k,rfl⟩:=fj d (by omega))|go_in);go_ret;refine⟨g,k,rfl,?_,f,?_⟩
  ·rw[jv];exact d
  ·rcases i with h|h
   ·exact .inl h
   ·right
    have:g=w.heap.size:=by simpa [Value.ownBlock]using h
    omega
 ·go_enter func193,ntmps193
  go_wp2_with(first|(at_builtin;refine KQ _ rfl (.tmp 23) (.tmp 24) 55 rfl 0 96 m _ 3 32 underlying55 hi o p q rfl (by decide) (.slice la n c) n (flat es) rfl r.out (eI a 0) 1 1 (ml x) rfl rfl t.out (pp x) (by unfold maxLen;omega) (by omega) (tk _) ?_;intro A B d f _ i;obtain⟨g,k,rfl⟩:=fj d (by omega))|go_in);go_ret;refine⟨g,k,rfl,?_,f,?_⟩
  ·rw[jv];exact d
  ·rcases i with h|h
   ·exact .inl h
   ·right
    have:g=w.heap.size:=by simpa [Value.ownBlock]using h
    omega
theorem wp_append_run(w:World){ops:Array Oper}{rest:List Oper}{o:Oper}{a:Act}{b:Exit->Act->World->Prop}(f:o.guard=none)(d s:Operand)(t t':gi)
  (ho:o.op=.call { callee:=.builtin .append,args:=#[d,s],argTypes:=#[t,t'] })(v c:Value)(hd:a.eval d=v)(hs:a.eval s=c){e:Value}
  (hr:(Builtin.append_ #[t,t'] o.type #[v,c]).run prog w=.ok e w')(h:wpList prog ops b rest (a.put o.dst e) w'):wpList prog ops b (o::rest) a w:=by
 refine Pr f fun K g=>?_;unfold Oper.wp execOp;simp only[ho,resolve,invoke,builtin,WD,WC,Wy,List.map_toArray,jg,vr,hd,hs,hr];exact g _ _ h
theorem tJ(m:Nat):(Builtin.zeroCells (Value.agg #[.string ByteArray.empty,eJ 0,eJ 0]).cells m).size=m*3:=by
 rw[size_zeroCells];rfl
theorem UL(g n k o:Nat)(es:List eN)(x:eN)(E:Array Value)(w:World)(hg:w.heap[g]?=some (.cells E 96 (0,0)))(hn:es.length=n)(hk:k<n)(iE:n<=16)(ab:E.size=n*3)(ht:E.toList.take (n*3)=flat es)
  (hv:w.heap[o]?=some (.cells #[.string x.1,eJ x.2.1,eJ x.2.2] 96 (0,0))):
  gc 193 #[.slice (some (eI g 0)) n n,eJ (k:Int),.slice (some (eI o 0)) 1 1] w fun e w'=>tI w w' (some g) n (es.take k++x::es.drop k) e:=by
 obtain⟨R,hi,S,T,F⟩:=iq xX;have ac:g<w.heap.size:=(nX.1 hg).1;have ad:o<w.heap.size:=(nX.1 hv).1;have G:∀j H,(flat es)[j]?=some H->w.cell? (eI g j)=some H:=fun j H hu=>by
  rw[<-ht,Ap]at hu;split at hu
  ·simp[World.cell?,hg];simpa using hu
  ·cases hu
 have hold:(Builtin.firstCells R.size k (.slice (some (eI g 0)) k n)).run prog w.drew=.ok (flat (es.take k)).toArray w.drew:=by
  rw[T];exact run_firstCells_some w.drew 3 k (eI g 0) k n (flat (es.take k)) (by rw[km,gT];omega) (fun j v hj=>by
   rw[KX,iP];rw[vO es k (by omega),Ap]at hj;split at hj
   ·exact G j v hj
   ·cases hj)
 obtain⟨c,A⟩:∃c,c=grownCap w (n+1) n 96:=⟨_,rfl⟩;have ae:n+1<=c:=by rw[A];exact grownCap_ge w _ _ _
 have I:c<=maxLen:=by rw[A];exact grownCap_le_maxLen w (n+1) n 96 (by unfold maxLen;omega)
 obtain⟨i,B⟩:∃i:Array Value,i=(flat (es.take k)).toArray++Builtin.zeroCells (Value.agg #[.string ByteArray.empty,eJ 0,eJ 0]).cells (n+1-k)++Builtin.zeroCells (Value.agg #[.string ByteArray.empty,eJ 0,eJ 0]).cells (c-(n+1)):=⟨_,rfl⟩;have J:i.size=c*3:=by
  rw[B,Array.size_append,Array.size_append,tJ,tJ,CL,km,gT];omega
 have U:i.toList.take (k*3)=flat (es.take k):=by
  rw[B,Array.append_assoc,Array.toList_append];show List.take (k*3) (flat (es.take k)++_)=_;rw[Au (by rw[km,gT];omega)]
 obtain⟨f,p⟩:∃f,f=w.drew.alloc (.cells i 96):=⟨_,rfl⟩;have af:∀l,(Builtin.append_ #[55,3] l #[.slice (some (eI g 0)) k n,eJ ((n:Int)+1-(k:Int))]).run prog w=.ok (.slice (some (eI w.heap.size 0)) (n+1) c) f:=fun l=>by
  have V:k+(n+1-k)=n+1:=by omega
  have h:=Lib.run_append_grow_zeros w 55 3 l 96 R _ .i64 .i64 underlying55 underlying3 hi S (some (eI g 0)) k n (flat (es.take k)) hold (n+1-k) (by omega) (by omega) (by omega) (by omega) (by rw[F];omega) (by rw[F,V];exact growslice_fits (by omega) (by omega));rw[V]at h;rw[show(n:Int)+1-(k:Int)=((n+1-k:Nat):Int) by omega,h,p,B,A]
 have K:f.heap[w.heap.size]?=some (.cells i 96 (0,0)):=by rw[p];exact Array.getElem?_push_size
 have L:∀b,b<w.heap.size->f.heap[b]?=w.heap[b]?:=fun b ag=>by rw[p];exact mA _ _ _ ag
 obtain⟨d,C⟩:∃d:Array Value,d=(i.toList.take (k*3)++ml x++i.toList.drop (k*3+(ml x).length)).toArray:=⟨_,rfl⟩;have D:d.size=c*3:=by
  rw[C];simp only[CL,mb,gT,lz,ng,J,Hc];omega
 obtain⟨W2,q⟩:∃W2,W2=f.setRow w.heap.size d:=⟨_,rfl⟩;have ah:∀l dc,(Builtin.copy_ #[55,55] l #[.slice (some (eI w.heap.size (k*3))) (n+1-k) dc,.slice (some (eI o 0)) 1 1]).run prog f=.ok (goInt ((1:Nat):Int)) W2:=fun l dc=>by
  have hm:Nat.min 1 (n+1-k)=1:=by simp only[Nat.min_def];split<;>omega
  have M:=(L o ad).trans hv
  have:=nY (P:=prog) f 55 55 l 96 3 w.heap.size (k*3) (n+1-k) dc (eI o 0) 1 1 i 96 (ml x) underlying55 Gb K (by rw[hm];rfl)
   (fun j v hj=>by rw[KX];match j,hj with
    |0,hj=>simpa [World.cell?,M,ml]using hj
    |1,hj=>simpa [World.cell?,M,ml]using hj
    |2,hj=>simpa [World.cell?,M,ml]using hj
    |j+3,hj=>simp[ml]at hj) (by rw[Hc,J];omega) (pp x)
  rw[hm]at this;rw[this,q,C]
 have N:W2.heap[w.heap.size]?=some (.cells d 96 (0,0)):=by rw[q];exact Ff f _ _ _ 96 _ K
 obtain⟨n1,s⟩:∃n1,n1=flat (es.drop k):=⟨_,rfl⟩;have t:n1.length=(n-k)*3:=by rw[s,km,lz,hn]
 obtain⟨m,O⟩:∃m:Array Value,m=(d.toList.take ((k+1)*3)++n1++d.toList.drop ((k+1)*3+n1.length)).toArray:=⟨_,rfl⟩;have ai:∀l dc Q,(Builtin.copy_ #[55,55] l #[.slice (some (eI w.heap.size ((k+1)*3))) (n-k) dc,.slice (some (eI g (k*3))) (n-k) Q]).run prog W2.drew=.ok (goInt ((n-k:Nat):Int)) (W2.drew.setRow w.heap.size m):=fun l dc Q=>by
  have hm:Nat.min (n-k) (n-k)=n-k:=Nat.min_self _;have aj:W2.heap[g]?=w.heap[g]?:=by rw[q,Aw f _ g _ (by omega),L g ac]
  have:=nY (P:=prog) W2.drew 55 55 l 96 3 w.heap.size ((k+1)*3) (n-k) dc (eI g (k*3)) (n-k) Q d 96 n1 underlying55 Gb N (by rw[hm];exact t)
   (fun j v hj=>by
    rw[KX];show W2.cell? _=_;rw[jP (a:=(eI g (k*3+j))) aj];refine G _ _ ?_;rw[s,vP es k (by omega),Ph]at hj;exact hj) (by rw[t,D];omega) (by rw[s];exact iR _)
  rw[hm]at this;rw[this,O]
 have X:m.size=c*3/\m.toList.take ((n+1)*3)=flat (es.take k++x::es.drop k):=by
  have hl:(d.toList.take ((k+1)*3)).length=(k+1)*3:=by rw[gT,ng,D];omega
  have h1:d.toList.take ((k+1)*3)=flat (es.take k)++ml x:=by
   rw[C];show List.take ((k+1)*3) (i.toList.take (k*3)++ml x++i.toList.drop (k*3+(ml x).length))=_;rw[U,Au (by rw[mb,km,Hc,gT];omega)]
  rw[O];refine⟨by simp only[CL,mb,hl,lz,ng,D,t];omega,?_⟩;show List.take ((n+1)*3) (d.toList.take ((k+1)*3)++n1++d.toList.drop ((k+1)*3+n1.length))=_;rw[Au (by rw[mb,hl,t];omega),h1,s,jv,kC];rfl
 have ao:¬((k:Int)=(n:Int)):=by omega
 have ap:IntKind.i64.wrap ((k:Int)+1)=(k:Int)+1:=by rw[xS];omega
 have aq:(0:Int)<=(k:Int)+1:=by omega
 have ar:(k:Int)+1<=(n:Int)+1:=by omega
 have au:(k:Int)<=(n:Int)+1:=by omega
 have av:¬c=k+1:=by omega
 have aw:¬c=k:=by omega
 have ax:((k:Int)+1).toNat=k+1:=by omega
 have ay:¬n=k:=by omega
 have mG:k<=n:=by omega
 have az:c<=9223372036854775807:=by unfold maxLen at I;omega
 have u:Hid (f=w.drew.alloc (.cells i 96)):=p;have z:Hid (W2=f.setRow w.heap.size d):=q;have ak:Hid (W2.heap[w.heap.size]?=some (.cells d 96 (0,0))):=N;have Y:Hid _:=X;have al:Hid (c<=maxLen):=I;have am:Hid (es.length=n):=hn;clear p q C O s t K N X B J U hold L A G ht ab D hv hg I hi S T F hn;go_enter func193,ntmps193;go_wp2_with(first
  |(at_builtin;refine wp_append_run _ rfl _ _ _ _ rfl _ _ rfl rfl (af _) ?_)
  |(at_builtin;refine aA _ rfl _ _ 55 55 rfl _ _ rfl rfl (ah _ _) ?_))
 go_region_law(refine aB rfl _ _ 55 55 rfl _ _ (by simp[Act.eval,Act.put]) (by simp[Act.eval,Act.put]) (ai _ _ _) ?_)
 all_goals
  go_wp2;go_ret;have aC:=am.out;have Z:∀(W:World) (r:Array Value),(W.setRow w.heap.size r).heap.size=W.heap.size:=fun W r=>by simp
  refine⟨w.heap.size,c,rfl,⟨by rw[km];simp;omega,.inr ⟨w.heap.size,c,m,rfl,tk _,Ff W2.drew _ _ _ 96 _ ak.out,ae,al.out,Y.out.1,Y.out.2⟩⟩,?_,.inr (kx _)⟩;refine⟨by rw[z.out,u.out];rfl,by rw[z.out,u.out];rfl,by rw[z.out,u.out];rfl,by rw[show(W2.drew.setRow w.heap.size m).heap.size=W2.heap.size from Z _ _,z.out,Z,u.out];show w.heap.size<=(w.alloc _).heap.size;rw[sr];omega,fun y an hne=>?_⟩;have aa:y≠w.heap.size:=by omega
  rw[Aw W2.drew _ y _ aa];show W2.heap[y]?=_;rw[z.out,Aw f _ y _ aa,u.out];exact mA w.drew _ _ an
theorem XE(b:w.ownsRow 0 96 3 v es.length (flat es))(iE:es.length<=16)(hk:k<=es.length){a:Nat}{x:eN}
  (hv:w.heap[a]?=some (.cells #[.string x.1,eJ x.2.1,eJ x.2.2] 96 (0,0)))(j:∀g,v.ownBlock=some g->a≠g):
  gc 193 #[v,eJ (k:Int),.slice (some (eI a 0)) 1 1] w fun e w'=>tI w w' v.ownBlock es.length (es.take k++x::es.drop k) e:=by
 by_cases l:k=es.length
 ·subst l
  rw[xR,List.drop_length];rcases b.2 with⟨rfl,h0⟩|⟨g,c,d,rfl,_,hg,i,f,h,ht⟩
  ·have m:es=[]:=Ao.1 h0
   subst m;exact Oz (.slice none 0 0) 0 a [] x w none 0 rfl b rfl (by omega) hv (kx _) (by unfold maxLen;omega)
  ·exact Oz _ es.length a es x w (some (eI g 0)) c rfl b rfl iE hv i f
 ·rcases b.2 with⟨rfl,h0⟩|⟨g,c,d,rfl,_,hg,i,f,h,ht⟩
  ·omega
  ·by_cases hc:es.length+1<=c
   ·exact Rb g es.length c k a es x d w hg rfl (by omega) hc f h ht hv (j g rfl)
   ·obtain rfl:c=es.length:=by omega
    exact UL g es.length k a es x d w hg rfl (by omega) iE h ht hv
theorem iN.store(h:iN w b n f)(hq:Good q)(hn:n<maxLen)(ht:prog.underlying t=some (.map 147 e))(val:Value):
  ∃w',(Instr.mapUpdate t (.map (some b)) (.agg (fy q)) val).run prog w=.ok () w'/\iN w' b (n+1) (upd f q (some val))/\w.grownBy w' (some b)/\w'.heap.size=w.heap.size:=by
 obtain⟨M,a,c,d⟩:=h;obtain⟨w',g,i,hg,hs⟩:=a.store uS ht hn (zu hq) (val:=val);refine⟨w',g,⟨_,i,fun p hp=>?_,fun kl hk hne=>?_⟩,hg,hs⟩
 ·by_cases e:p=q
  ·subst e;rw[kR,upd_same]
  ·rw[gW (fun h=>e (qC hp hq h)),hE e,c p hp]
 ·by_cases e:kl=lC prog q
  ·exact⟨q,hq,e⟩
  ·rw[gW e]at hne;exact d kl hk hne
theorem iN.drop(h:iN w b n f)(hq:Good q)(ht:prog.underlying t=some (.map 147 e))(a:gi):
  ∃w',(Builtin.delete_ #[t,147] a #[.map (some b),.agg (fy q)]).run prog w=.ok (.tuple #[]) w'/\iN w' b n (upd f q none)/\w.grownBy w' (some b)/\w'.heap.size=w.heap.size:=by
 obtain⟨M,c,d,g⟩:=h;obtain⟨w',i,j,hg,hs⟩:=c.drop uS ht (zu hq) a;refine⟨w',i,⟨_,j,fun p hp=>?_,fun kl hk hne=>?_⟩,hg,hs⟩
 ·by_cases e:p=q
  ·subst e;rw[kR,upd_same]
  ·rw[gW (fun h=>e (qC hp hq h)),hE e,d p hp]
 ·by_cases e:kl=lC prog q
  ·exact⟨q,hq,e⟩
  ·rw[gW e]at hne;exact g kl hk hne
theorem iN.congr{f f':eL->Option Value}(h:iN w b n f)(hf:∀p,Good p->f p=f' p):iN w b n f':=by
 obtain⟨M,a,c,d⟩:=h;exact⟨M,a,fun p hp=>(c p hp).trans (hf p hp),d⟩
theorem iN.isMap(h:iN w b n f):∃es a,w.heap[b]?=some (.map es a):=by
 obtain⟨M,c,_⟩:=h;exact c.isMap
structure lY (ey:List Ob)(es:List eN):Prop where
 rising:eP es
 len:es.length<=16
 ok:∀e∈es,eG e.1=true/\mj ey e
section
variable {tg:eV}{w:World}{s i p:Nat}{B:WB}{ey:List Ob}{g:WG}{lim:Nat}{vD:eL->Value}
theorem lR.xz{t:Nat×Nat}{d:Array MapEntry}{f:Nat}(h:lR tg w t v es)(g:w.heap[b]?=some (.map d f))(hg:w.grownBy w' (some b)):lR tg w' t v es:=
 h.keep fun a c hl=>⟨hg.block a hl (fun e=>by
  have i:a=b:=by injection e
  rw[i]at c
  exact ul h.1 g c.symm),rfl⟩
theorem fC.store{od:eL->Option (List eN)}(h:fC tg w i B od lim vD)(hq:Good q)(hl:lim<maxLen)(o:lR tg w (i,5) v es)(d:lY ey es)
  (k:∀j es' gb,j≠q->od j=some es'->(vD j).ownBlock=some gb->v.ownBlock≠some gb):
  ∃w',(Instr.mapUpdate 162 (.map (some B.oD)) (.agg (fy q)) v).run prog w=.ok () w'/\w.grownBy w' (some B.oD)/\w'.heap.size=w.heap.size/\fC tg w' i B (upd od q (some es)) (lim+1) (upd vD q v):=by
 obtain⟨n,hn,hm⟩:=h.map;obtain⟨w',r,s,hg,hs⟩:=hm.store hq (Nat.lt_of_le_of_lt hn hl) underlying162 v;obtain⟨t,u,l⟩:=hm.isMap;refine⟨w',r,hg,hs,⟨h.tag,⟨n+1,by omega,s.congr (fun p hp=>?_)⟩,fun p fs hp=>?_,fun p fs hp=>?_,fun p f fs fs' gb hp g a b=>?_⟩⟩
 ·by_cases e:p=q
  ·subst e;rw[upd_same,upd_same,upd_same];rfl
  ·rw[hE e,hE e,hE e]
 ·by_cases e:p=q
  ·subst e
   rw[upd_same]at hp;cases hp;exact⟨hq,d.rising,d.len,fun e m=>⟨(d.ok e m).1,(d.ok e m).2.1⟩⟩
  ·rw[hE e]at hp;exact h.good p fs hp
 ·by_cases e:p=q
  ·subst e
   rw[upd_same]at hp ⊢;cases hp;exact o.xz l hg
  ·rw[hE e]at hp ⊢
   exact(h.row p fs hp).xz l hg
 ·by_cases e:p=q
  ·by_cases c:f=q
   ·rw[e,c]
   ·subst e
    rw[upd_same]at a;rw[hE c]at g b;exact absurd a (k f fs' gb c g b)
  ·by_cases c:f=q
   ·subst c
    rw[upd_same]at b;rw[hE e]at hp a;exact absurd b (k p fs gb e hp a)
   ·rw[hE e]at hp a
    rw[hE c]at g b;exact h.inj p f fs fs' gb hp g a b
theorem eT.od{a:Nat}{b:eL->Option (List eN)}{c:eL->Value}(h:eT tg w s i p B ey g lim)(m:eB (fun t=>t=(i,5)) tg eF w w')(hl:lim<=a)(hD:fC eF w' i B b a c)(d:∀q es,b q=some es->∀e∈es,mj ey e):
  eT eF w' s i p B ey { g with ft:={ g.ft with od:=b } } a:=by
 have hi:=h.two;have hp:=h.wp;refine⟨h.two,(h.st.moves m (fun e=>by cases e) (fun e=>by cases e)).mono hl,⟨hp.tree.moves m (fun e=>by cases e),(hp.lS.moves m (fun e=>by cases e)).mono hl,(hp.lT.moves m (fun e=>by cases e)).mono hl,(hp.qG.moves m (fun e=>by cases e)).mono hl,⟨c,hD⟩,hp.files.moves m (fun e=>by cases e),hp.held,hp.opens.moves m (fun e=>by cases e) (fun e=>by cases e),⟨hp.ok.root,d⟩⟩⟩
end
theorem Ah{od:eL->Option (List eN)}(h:fC tg w i B od lim vD)(hq:Good q)(b:ik w W):
  (Instr.lookup 162 (.map (some B.oD)) (.agg (fy q)) true).run prog W=.ok (.tuple #[((od q).map fun _=>vD q).getD (.slice none 0 0),.bool (od q).isSome]) W:=by
 obtain⟨n,_,M,a,c,_⟩:=h.map
 have:=(a.keep (w':=W) (b.block _ a.lt)).look_ok uS underlying162 (yz W) (zu hq)
 rw[c q hq]at this;rw[this];show Result.ok (Value.tuple #[_,Value.bool ((od q).map fun _=>vD q).isSome]) W=_;rw[Option.isSome_map]
theorem En(t m:Nat)(a b c d e:eD)(v:Value)(w:World)(ht:t<w.heap.size)(c8:w.cell? (eI t 8)=some (.map (some m)))
  (hlk:∀W,ik w W->(Instr.lookup 162 (.map (some m)) (.agg (kq a b c d e)) true).run prog W=.ok (.tuple #[v,.bool true]) W):
  gc 192 #[hh t,.agg (kq a b c d e)] w (pB v w):=by
 have hl:=hlk _ (gS ((lh w.heap.size w).alloc (kx _) (.cells (kq a b c d e) 147)));clear hlk;go_enter func192,ntmps192;go_wp2
 go_region
 all_goals
  go_wp2;go_ret;exact⟨rfl,gS ((lh _ _).alloc (kx _) _)⟩
theorem BH(d:w.ownsRow 0 96 3 v es.length (flat es))(iE:es.length<=16):
  gc 170 #[v] w fun e w'=>∃b,e=.returned b/\w'.ownsRow 0 96 3 b es.length (flat es)/\(∀gb,b.ownBlock=some gb->w.heap.size<=gb)/\ik w w':=by
 rcases d.2 with⟨rfl,h0⟩|⟨g,c,k,rfl,_,hg,l,m,n,ht⟩
 ·have f:es=[]:=Ao.1 h0
  subst f;refine(AnyE.slices_Clone_nil Tm 0 0 w).mono ?_;rintro e w' ⟨rfl,rfl⟩;exact⟨_,rfl,d,fun gb a=>by simp[Value.ownBlock]at a,lh _ _⟩
 ·refine(AE g 0 es.length c es w rfl (by omega) (jn d)).mono ?_
  rintro e w' ⟨b,rfl,hr,_,h⟩;refine⟨b,rfl,uy hr,fun gb a=>?_,h⟩;rcases hr.2 with⟨e,_⟩|⟨i,o,_,e,j,_⟩
  ·rw[e]at a;simp[Value.ownBlock]at a
  ·rw[e]at a
   obtain rfl:i=gb:=by simpa [Value.ownBlock]using a
   exact j
theorem Rc(hS:Sound ey)(c:ZL ey ft)(hr:∀p es,ft.od p=some es->eP es/\es.length<=16)(hv:∀p es,ft.od p=some es->∀e∈es,eG e.1=true)(fs:FS)(r:eL):lY ey (fe ey ft fs r).2.2:=by
 obtain⟨f1,d,f,g⟩:=vN hS c hr fs r;refine⟨f,g,fun e a=>⟨?_,d e a⟩⟩
 revert e
 unfold fe;by_cases h0:(findF ey ft fs r).2.1≠0
 ·simp only[ie h0];simp
 ·simp only[fY h0]
  unfold kU;by_cases hk:(findF ey ft fs r).2.2.2.1≠2
  ·rw[ie hk];simp
  ·rw[fY hk]
   by_cases hid:(findF ey ft fs r).2.2.2.2=0
   ·rw[ie hid]
    cases ho:ft.od r.reverse with
    |none=>simp
    |some es=>exact fun e a=>hv _ es ho e a
   ·rw[fY hid]
    by_cases b:((findF ey ft fs r).1.gj (findF ey ft fs r).2.2.2.2).2=true
    ·rw[ie b]
     have a:=f1 (lD.1 h0);obtain⟨i,j,h⟩:=hS.2 _ ((a.2 hid).trans (lD.1 hk));exact fun e a=>(h e a).1
    ·rw[fY b];simp
theorem eT.eR{s i p:Nat}(h:eT tg w s i p B ey g lim)(fs:FS)(r:eL):lY ey (fe ey g.ft fs r).2.2:=by
 obtain⟨vD,hD⟩:=h.wp.nI;exact Rc h.st.sound h.wp.ok h.rising (fun p es a e hm=>((hD.good p es a).2.2.2 e hm).1) fs r
def mm (tg:eV)(v:Value)(t:Nat×Nat):eV:=match v.ownBlock with
 |some b=>jN tg b t
 |none=>tg
theorem lq(h:v.ownBlock≠some k)(t:Nat×Nat):mm tg v t k=tg k:=by
 unfold mm;cases hv:v.ownBlock with
 |none=>rfl
 |some b=>exact lp (fun e=>h (by rw[hv,e])) _
theorem rH(h:v.ownBlock=some k)(t:Nat×Nat):mm tg v t k=t:=by
 unfold mm;rw[h];exact rG _ _ _
section
variable {s i p:Nat}{B:WB}{ey:List Ob}
theorem pN.zk(hi:2<=i)(h:pN tg w i p B ey g lim)(hk:∀k,(tg k).1≠0->eF k=tg k):pN eF w i p B ey g lim:=by
 have key:∀{b:Nat} {t:Nat},tg b=(i,t)->eF b=(i,t):=fun {b t} e=>(hk b (by rw[e];show i≠0;omega)).trans e;have dle:∀{t:Nat} {v:Value} {es:List eN},lR tg w (i,t) v es->lR eF w (i,t) v es:=fun hr=>⟨hr.1,fun l m=>key (hr.2 l m)⟩;obtain⟨ht,hF,hD,oF,⟨vD,oD⟩,fl,held,op,ok⟩:=h;refine⟨⟨key ht.tt,key ht.tF,key ht.tD,ht.ht,ht.hF,ht.hD⟩,?_,?_,?_,⟨vD,key oD.tag,oD.map,oD.good,fun q es hq=>dle (oD.row q es hq),oD.inj⟩,?_,held,⟨key op.tw,op.hw,op.past,?_,op.inj⟩,ok⟩
 ·obtain⟨a,b⟩:=hF;exact⟨key a,b⟩
 ·obtain⟨a,n,M,o,r,s,u,j⟩:=hD;exact⟨key a,n,M,o,r,s,u,fun id hid=>⟨(j id hid).1,dle (j id hid).2⟩⟩
 ·obtain⟨a,b⟩:=oF;exact⟨key a,b⟩
 ·intro f id d hf
  obtain⟨a,b⟩:=fl f id d hf;exact⟨key a,b⟩
 ·intro k b f fg pl x
  obtain⟨a,c⟩:=op.at_ k b f fg pl x;exact⟨key a,c⟩
theorem fC.zk{od:eL->Option (List eN)}(hi:2<=i)(h:fC tg w i B od lim vD)(hk:∀k,(tg k).1≠0->eF k=tg k):fC eF w i B od lim vD:=by
 have key:∀{b:Nat} {t:Nat},tg b=(i,t)->eF b=(i,t):=fun {b t} a=>(hk b (by rw[a];show i≠0;omega)).trans a;exact⟨key h.tag,h.map,h.good,fun q es hq=>⟨(h.row q es hq).1,fun c d=>key ((h.row q es hq).2 c d)⟩,h.inj⟩
theorem eT.zk(h:eT tg w s i p B ey g lim)(hf:jt eF w)(hk:∀k,(tg k).1≠0->eF k=tg k):eT eF w s i p B ey g lim:=
 ⟨h.two,h.st.zk hf (fun k h1=>hk k (by rw[h1];decide)),h.wp.zk h.two hk⟩
theorem Gc(h:eT tg w s i p B ey g lim)(l:fC tg w i B g.ft.od lim vD)(hl:lim<maxLen)(hq:Good q)(b:ik w W)(j:W.ownsRow 0 96 3 v es.length (flat es))(sw:∀gb,v.ownBlock=some gb->w.heap.size<=gb)(n:lY ey es):
  ∃w' eF,(Instr.mapUpdate 162 (.map (some B.oD)) (.agg (fy q)) v).run prog W=.ok () w'/\W.grownBy w' (some B.oD)/\w'.heap.size=W.heap.size/\B.oD<w.heap.size/\eB (Mine i) tg eF w w'/\
   eT eF w' s i p B ey { g with ft:={ g.ft with od:=upd g.ft.od q (some es) } } (lim+1)/\fC eF w' i B (upd g.ft.od q (some es)) (lim+1) (upd vD q v)/\∀gb,v.ownBlock=some gb->w'.heap[gb]?=W.heap[gb]?:=by
 have hi:=h.two;have hW:=h.below b;have hD:=l.moves (eB.eE (P:=fun _=>False) b) (fun x=>x);have o:∀gb,v.ownBlock=some gb->gb<W.heap.size:=fun gb a=>eK j a;have h0:∀gb,v.ownBlock=some gb->tg gb=(0,0):=fun gb a=>h.st.fresh gb (sw gb a);have hk:∀k,(tg k).1≠0->mm tg v (i,5) k=tg k:=fun k hk=>lq (fun e=>hk (by rw[h0 k e])) _;have hf:jt (mm tg v (i,5)) W:=fun k f=>by
  rw[lq (fun e=>by have:=o k e;omega)];exact hW.st.fresh k f
 have y:=hW.zk hf hk;have r:=hD.zk hi hk;have z:lR (mm tg v (i,5)) W (i,5) v es:=⟨j,fun gb a=>rH a _⟩;obtain⟨w',A,hg,hs,u⟩:=r.store (ey:=ey) hq hl z n (fun c es' gb _ ho C D=>by
  have h1:=(hD.row c es' ho).2 gb C;rw[h0 gb D]at h1;cases h1)
 have m:eB (fun t=>t=(i,5)) (mm tg v (i,5)) (mm tg v (i,5)) W w':=yi hg hs r.tag;obtain⟨K,_,E⟩:=hD.map;obtain⟨L,M,F⟩:=E.isMap;obtain⟨n1,_,G⟩:=l.map;refine⟨w',mm tg v (i,5),A,hg,hs,G.lt,?_,y.od m (gV _) u (fun c es' ho=>?_),u,fun gb a=>?_⟩
 ·have H:eB (Mine i) tg (mm tg v (i,5)) w W:=⟨b.os,b.tape,b.output,b.size,fun k f=>lq (fun e=>by have:=sw k e;omega) _,fun k f _=>b.block k f,fun _=>hf⟩
  exact H.trans (m.mono (fun t ht=>.inr (by rw[ht])))
 ·by_cases e:c=q
  ·subst e
   have d:upd g.ft.od c (some es) c=some es':=ho;rw[upd_same]at d;cases d;exact fun e I=>(n.ok e I).2
  ·have d:upd g.ft.od q (some es) c=some es':=ho
   rw[hE e]at d;exact h.wp.ok.od c es' d
 ·refine hg.block gb (o gb a) (fun e=>?_)
  have J:gb=B.oD:=by injection e
  rw[J]at a;exact ul j F a.symm
theorem Em.cells{base root:Int}(h:Em tg w i p B base root):B.bt<w.heap.size/\w.cell? (eI B.bt 8)=some (.map (some B.oD))/\w.cell? (eI B.bt 7)=some (.map (some B.oF))/\w.cell? (eI B.bt 6)=some (eJ root)/\(∀o,w.frozen? (eI B.bt o)=false):=
 ⟨(nX.1 h.ht).1,by simp[World.cell?,h.ht],by simp[World.cell?,h.ht],by simp[World.cell?,h.ht],fun o=>by simp[World.frozen?,h.ht]⟩
theorem eT.XF(h:eT tg w s i p B ey g lim):eT tg (w.setCell (eI B.bt 6) (eJ 0)) s i p B ey { g with ft:={ g.ft with root:=0 } } lim/\eB (fun t=>t=(i,1)) tg tg w (w.setCell (eI B.bt 6) (eJ 0)):=by
 have hi:=h.two;have ht:=h.wp.tree;have m:eB (fun t=>t=(i,1)) tg tg w (w.setCell (eI B.bt 6) (eJ 0)):=⟨rfl,rfl,rfl,by simp,fun _ _=>rfl,fun k hk hn=>jQ _ _ _ _ (fun e=>hn (by rw[e];exact ht.tt)),fun hf k hk=>hf k (by simpa using hk)⟩;refine⟨⟨hi,h.st.moves m (fun e=>by cases e) (fun e=>by cases e;omega),⟨⟨ht.tt,ht.tF,ht.tD,?_,?_,?_⟩,h.wp.lS.moves m (fun e=>by cases e),h.wp.lT.moves m (fun e=>by cases e),h.wp.qG.moves m (fun e=>by cases e),?_,h.wp.files.moves m (fun e=>by cases e),h.wp.held,h.wp.opens.moves m (fun e=>by cases e) (fun e=>by cases e),⟨fun h0=>absurd rfl h0,h.wp.ok.od⟩⟩⟩,m⟩
 ·simp[World.setCell,Am,ht.ht]
 ·rw[jQ _ _ _ _ (ni ht.hF ht.ht (by decide))];exact ht.hF
 ·rw[jQ _ _ _ _ (ni ht.hD ht.ht (by decide))];exact ht.hD
 ·obtain⟨vD,hD⟩:=h.wp.nI
  exact⟨vD,hD.moves m (fun e=>by cases e)⟩
theorem xj(hg:w.grownBy w' (some b))(hc:c<w.heap.size)(hne:c≠b)(o:Nat):w'.cell? (eI c o)=w.cell? (eI c o):=jP (a:=(eI c o)) (hg.block c hc (fun e=>hne (by injection e)))
theorem Re(h:eT tg w s i p B ey g lim)(b:fC tg w i B g.ft.od lim vD0)(hl:lim+20<1099511627776)(ho:g.ft.od []=none)(l:fe ey g.ft g.fs []=(g.fs,0,es)):
  gc 192 #[hh B.bt,.agg (kq hZ hZ hZ hZ hZ)] w fun O w'=>∃v,O=.returned v/\∃eF vD,eB (Mine i) tg eF w w'/\
   eT eF w' s i p B ey { g with ft:={ g.ft with od:=upd g.ft.od [] (some es),root:=0 } } (lim+10)/\fC eF w' i B (upd g.ft.od [] (some es)) (lim+10) vD/\vD []=v/\∀q,q≠[]->vD q=vD0 q:=by
 have a:=h.eR g.fs [];rw[l]at a;have a:lY ey es:=a;obtain⟨ht,c8,_,_,_⟩:=h.wp.tree.cells;have d:=gS ((lh w.heap.size w).alloc (kx _) (.cells (kq hZ hZ hZ hZ hZ) 147));have hlk:=Ah b Good.nil d;rw[ho]at hlk;have hlk:(Instr.lookup 162 (.map (some B.oD)) (.agg (kq hZ hZ hZ hZ hZ)) true).run prog ((w.alloc (.cells (kq hZ hZ hZ hZ hZ) 147)).drew)=.ok (.tuple #[.slice none 0 0,.bool false]) ((w.alloc (.cells (kq hZ hZ hZ hZ hZ) 147)).drew):=hlk;have f:=qI (s:=s) (i:=i) (p:=p) (B:=B) (ey:=ey) [] tg _ g lim (h.below d) (by omega) Good.nil;rw[l]at f;have f:gc 131 #[hh B.bt,.agg (kq hZ hZ hZ hZ hZ)] _ _:=f;have m:=fun W=>ut W;have heq:∀W,(Op.equalIn 10000 147 (ju []) (ju [])).run prog W=.ok true W:=fun W=>by
  have:=yr Good.nil Good.nil W
  rw[mz rfl]at this;exact this
 unfold ju fy at m heq;simp only[nN]at m heq;obtain⟨ae,_,C⟩:=b.map;have Q:w.heap.size≠B.oD:=by have:=C.lt;omega
 have R:lim+([]:eL).length+1<maxLen:=by show lim+0+1<maxLen;unfold maxLen;omega
 have n:Hid _:=h;have S:Hid _:=b;have D:Hid _:=d;have E:Hid _:=a;clear h b d a l ho C;go_enter func192,ntmps192;go_wp2
 go_region
 all_goals
  go_wp2_with(first
   |(go_at_call 131;refine f.mono ?_;rintro e w3 ⟨v,rfl,af,r,u,F⟩;have hS:=xx n.out.two n.out.st.fresh r;have ag:=hS.cell (kx _) (by simp[World.drew]);have G:w.heap.size<w3.heap.size:=lO (by simp[World.drew]) hS.1;obtain⟨ah,ai,_,_,_⟩:=u.wp.tree.cells;have T:Hid _:=u;have H:Hid _:=r;have U:Hid _:=F;clear u r F hS)
   |(go_at_call 170;go_loud(refine(BH U.out.1 E.out.len).mono ?_;rintro e V ⟨y,rfl,I,sw,j⟩;obtain⟨aj,ak⟩:=ii j;obtain⟨w5,SH,J,K,X,al,L,z,M,am⟩:=Gc (q:=[]) T.out (((S.out.moves (eB.eE (P:=fun _=>False) D.out) (fun x=>x)).moves H.out (by rintro(h|h|h)<;>cases h;exact absurd n.out.two (by decide))).mono (by omega)) R Good.nil (gS j) I sw E.out;have k5:=xj (c:=w.heap.size) K (lO G j.size) Q;obtain⟨an,_,_,ao,f5⟩:=z.wp.tree.cells;have J:(Instr.mapUpdate 162 (.map (some B.oD)) (.agg (kq hZ hZ hZ hZ hZ)) y).run prog V.drew=.ok () w5:=J;have Y:w.heap.size<w5.heap.size:=lO (lO G j.size) (Ax X.symm);have Z:Hid _:=z;have aa:Hid _:=L;have ab:Hid _:=M;clear z L M I sw K)))
  go_region
  all_goals
   go_wp2
   go_region_with(go_at_call 75;refine(m _).mono ?_;rintro e w6 ⟨rfl,k⟩;have ap:∀o,w6.cell? (eI w.heap.size o)=w5.cell? (eI w.heap.size o):=fun o=>(ii k).1 _ _ Y;have A:=Z.out.below (fx (gS (lh _ _)) k);obtain⟨aq,_,_,ar,f66⟩:=A.wp.tree.cells;have ac:Hid _:=A;clear A)
   all_goals
    go_wp2;go_ret;obtain⟨ad,N⟩:=ac.out.XF;refine⟨y,rfl,SH,upd vD0 [] y,?_,ad.mono (by simp only[wA];omega),?_,upd_same _ _ _,fun q hq=>hE hq _⟩
    ·exact((li D.out H.out).mono (fun _ h=>h.mine)).trans (aa.out.trans ((eB.eE (fx (gS (lh _ _)) k)).trans (N.mono (fun t ht=>.inr (by rw[ht])))))
    ·exact(((ab.out.moves (eB.eE (P:=fun _=>False) (fx (gS (lh _ _)) k)) (fun x=>x)).moves N (fun e=>by cases e)).mono (by simp only[wA];omega))
end
theorem Rf(hi:2<=i)(h2:k≠2)(h3:k≠3):¬fK i (i,k):=by
 rintro(h|h|h)
 ·have h':i=1:=h
  omega
 ·cases h;exact h2 rfl
 ·cases h;exact h3 rfl
theorem nw{n:eD}(ht:iv es n=true):∃h:pD es n<es.length,(es[pD es n]).1=n:=by
 have qi:=qq ht;refine⟨qi,?_⟩;unfold iv at ht;rw[jy qi]at ht;simpa using ht
theorem BI{n:eD}(ht:iv es n=true)(v:Int×Int):sf es n v=es.set (pD es n) (n,v):=by
 unfold sf;rw[ie ht]
theorem Jn(hr:eP es){n:eD}(ht:iv es n=true)(qi:pD es n<es.length):es.set (pD es n) (n,(es[pD es n]).2.1,0)=jc es n:=by
 apply List.ext_getElem
 ·simp[jc]
 ·intro j h1 h2
  have hj:j<es.length:=by simpa using h1
  rw[Fe];rw[show(jc es n)[j]'h2=(if(es[j]).1=n then((es[j]).1,(es[j]).2.1,(0:Int))else es[j])from by simp[jc]];obtain⟨_,hn⟩:=nw ht;by_cases e:pD es n=j
  ·subst e
   rw[ie rfl,ie hn,hn]
  ·rw[fY e,fY]
   intro c;rcases Nat.lt_or_gt_of_ne e with h|h
   ·have:=uB hr (a:=pD es n) (b:=j) hj h
    rw[hn,c,iX]at this;omega
   ·have:=uB hr (a:=j) (b:=pD es n) qi h
    rw[hn,c,iX]at this;omega
theorem Eo(hk:k<es.length)(e:eN):(((flat es).set (k*3) (.string e.1)).set (k*3+1) (eJ e.2.1)).set (k*3+2) (eJ e.2.2)=flat (es.set k e):=by
 apply KL;intro j;have a:(flat es).length=es.length*3:=km es;by_cases hj:j<es.length*3
 ·obtain⟨q,t,ht,rfl⟩:∃q t,t<3/\j=q*3+t:=⟨j / 3,j % 3,Nat.mod_lt _ (by decide),by omega⟩
  have hq:q<es.length:=by omega
  rw[WP (es.set k e) q t (by simpa using hq) ht,Fe];by_cases b:k=q
  ·subst b
   rw[ie rfl];simp only[List.getElem?_set,List.length_set,a];rcases(show t=0\/t=1\/t=2 by omega)with rfl|rfl|rfl
   ·rw[fY (by omega),fY (by omega),ie (by omega),ie (by omega)];rfl
   ·rw[fY (by omega),ie (by omega),ie (by omega)];rfl
   ·rw[ie (by omega),ie (by omega)];rfl
  ·rw[fY b,wu (by omega),wu (by omega),wu (by omega),WP es q t hq ht]
 ·rw[oZ (by simp only[List.length_set,a];omega),oZ (by rw[km,List.length_set];omega)]
theorem Rg(hk:k<es.length)(id:Int):(flat es).set (k*3+2) (eJ id)=flat (es.set k ((es[k]).1,(es[k]).2.1,id)):=by
 rw[<-Eo hk];have h0:(flat es).set (k*3) (.string (es[k]).1)=flat es:=by
  have:=WP es k 0 hk (by decide)
  apply KL;intro j;rw[List.getElem?_set];by_cases e:k*3=j
  ·subst e
   rw[ie rfl,ie (by rw[km];omega)];simpa [ml]using this.symm
  ·rw[fY e]
 have h1:(flat es).set (k*3+1) (eJ (es[k]).2.1)=flat es:=by
  have:=WP es k 1 hk (by decide)
  apply KL;intro j;rw[List.getElem?_set];by_cases e:k*3+1=j
  ·subst e
   rw[ie rfl,ie (by rw[km];omega)];simpa [ml]using this.symm
  ·rw[fY e]
 rw[h0,h1]
section
variable {s i p:Nat}{B:WB}{ey:List Ob}
theorem fC.rewrite{od:eL->Option (List eN)}(h:fC tg w i B od lim vD)(ho:od q=some es)(f:(vD q).ownBlock=some gb)(hg:w.grownBy w' (some gb))
  (m:w'.ownsRow 0 96 3 (vD q) es'.length (flat es'))(a:lY ey es'):fC tg w' i B (upd od q (some es')) lim vD:=by
 obtain⟨n,hn,hm⟩:=h.map;obtain⟨v,x,o⟩:=hm.isMap;have hne:B.oD≠gb:=fun e=>ul (h.row q es ho).1 (e▸o) f.symm;refine⟨h.tag,⟨n,hn,(hm.keep (hg.block _ hm.lt (fun e=>hne (by injection e)))).congr (fun p hp=>?_)⟩,fun p fs hp=>?_,fun p fs hp=>?_,fun p b fs fs' r hp g s t=>?_⟩
 ·by_cases e:p=q
  ·subst e;rw[upd_same,ho];rfl
  ·rw[hE e]
 ·by_cases e:p=q
  ·subst e
   rw[upd_same]at hp;cases hp;exact⟨(h.good p es ho).1,a.rising,a.len,fun e j=>⟨(a.ok e j).1,(a.ok e j).2.1⟩⟩
  ·rw[hE e]at hp;exact h.good p fs hp
 ·by_cases e:p=q
  ·subst e
   rw[upd_same]at hp;cases hp;exact⟨m,(h.row p es ho).2⟩
  ·rw[hE e]at hp
   have hr:=h.row p fs hp;exact hr.keep (fun k l hl=>⟨hg.block k hl (fun e2=>by
    have u:k=gb:=by injection e2
    rw[u]at l;exact e (h.inj p q fs es gb hp ho l f)),rfl⟩)
 ·have c:∃f1,od p=some f1:=by
   by_cases e:p=q
   ·rw[e];exact⟨es,ho⟩
   ·rw[hE e]at hp;exact⟨fs,hp⟩
  have d:∃f2,od b=some f2:=by
   by_cases e:b=q
   ·rw[e];exact⟨es,ho⟩
   ·rw[hE e]at g;exact⟨fs',g⟩
  obtain⟨f1,c⟩:=c;obtain⟨f2,d⟩:=d;exact h.inj p b f1 f2 r c d s t
theorem Rh(h:lY ey es)(n:eD):lY ey (jc es n):=by
 refine⟨?_,by unfold jc;rw[nD];exact h.len,fun e c=>?_⟩
 ·unfold eP jc
  rw[CO];refine h.rising.imp fun {a b} hab=>?_
  have e:∀x:eN,(if x.1=n then(x.1,x.2.1,(0:Int))else x).1=x.1:=fun x=>by split<;>rfl
  rw[e,e];exact hab
 ·unfold jc at c
  obtain⟨x,hx,rfl⟩:=ij.1 c;obtain⟨h1,h2⟩:=h.ok x hx;by_cases e:x.1=n
  ·rw[ie e];exact⟨h1,h2.1,fun h0=>absurd rfl h0⟩
  ·rw[fY e];exact⟨h1,h2⟩
theorem eT.eZ(h:eT tg w s i p B ey g lim)(ho:g.ft.od q=some es):lY ey es:=by
 obtain⟨vD,hD⟩:=h.wp.nI;obtain⟨_,h1,h2,h3⟩:=hD.good q es ho;exact⟨h1,h2,fun e a=>⟨(h3 e a).1,h.wp.ok.od q es ho e a⟩⟩
theorem Ep(h:eT tg w s i p B ey g lim)(hD:fC tg w i B g.ft.od lim vD){n:eD}{gb j c:Nat}(ho:g.ft.od q=some es)(hv:vD q=.slice (some (eI gb 0)) j c)(ht:iv es n=true):
  eT tg (w.setCell (eI gb (pD es n*3+2)) (eJ 0)) s i p B ey { g with ft:={ g.ft with od:=upd g.ft.od q (some (jc es n)) } } lim/\fC tg (w.setCell (eI gb (pD es n*3+2)) (eJ 0)) i B (upd g.ft.od q (some (jc es n))) lim vD/\eB (fun t=>t=(i,5)) tg tg w (w.setCell (eI gb (pD es n*3+2)) (eJ 0)):=by
 have k:=h.eZ ho;obtain⟨qi,hn⟩:=nw ht;have l:=hD.row q es ho;have o:(vD q).ownBlock=some gb:=by rw[hv];rfl
 have hg:w.grownBy (w.setCell (eI gb (pD es n*3+2)) (eJ 0)) (some gb):=ol (ui _ _);have r:=Rh k n;have d:=l.1;rw[hv]at d;have x:j=es.length:=by
  rcases d.2 with⟨e,_⟩|⟨A,C,_,e,_⟩
  ·cases e
  ·cases e;rfl
 subst x;have f:=(d.stored (pD es n*3+2) (eJ 0)).1;have y:(flat es).set (pD es n*3+2) (eJ 0)=flat (jc es n):=by
  rw[Rg qi,hn,Jn k.rising ht qi]
 rw[y]at f;have u:=hD.rewrite (ey:=ey) ho o hg (by rw[hv];unfold jc at f ⊢;rw[nD];exact f) r;have m:eB (fun t=>t=(i,5)) tg tg w (w.setCell (eI gb (pD es n*3+2)) (eJ 0)):=yi hg (by simp) (l.2 gb o);refine⟨h.od m (kx _) u (fun a es' v=>?_),u,m⟩;by_cases e:a=q
 ·subst e
  have b:upd g.ft.od a (some (jc es n)) a=some es':=v;rw[upd_same]at b;cases b;exact fun e z=>(r.ok e z).2
 ·have b:upd g.ft.od q (some (jc es n)) a=some es':=v
  rw[hE e]at b;exact h.wp.ok.od a es' b
def UM (s i p:Nat)(B:WB)(ey:List Ob)(r:eL):Prop:=∀(tg:eV) (w:World) (g:WG) (lim:Nat) (K:eL->List eN) (vD:eL->Value),eT tg w s i p B ey g lim->fC tg w i B g.ft.od lim vD->lim+20*(r.length+2)<1099511627776->Good r.reverse->gm ey g.fs g.ft K r.reverse->
 Calls prog 192 #[.pointer (some ⟨B.bt,0,none⟩),.agg (fy r.reverse)] w fun b w'=>∃v,b=.returned v/\∃eF a,eB (Mine i) tg eF w w'/\
  eT eF w' s i p B ey { g with ft:=oX ey g.fs g.ft r } (lim+20*(r.length+1))/\fC eF w' i B (oX ey g.fs g.ft r).od (lim+20*(r.length+1)) a/\a r.reverse=v/\∀q,¬q <+: r.reverse->a q=vD q
theorem Jo{n:eD}(h:gm ey fs ft K (q++[n])):gm ey fs { ft with od:=upd ft.od (q++[n]) (some (K (q++[n]))) } K q:=by
 have qd:∀x,x <+: q->x <+: q++[n]:=fun x hx=>hx.trans (nG _ _);have hne:∀x,x <+: q->x≠q++[n]:=fun x hx e=>by
  have:=hx.length_le
  rw[e]at this;simp at this;omega
 have h0:gm ey fs ft K q:=⟨fun x hx=>h.look x (qd x hx),fun x hx=>h.own x (qd x hx),fun x m hx=>h.up x m (qd _ hx),h.root⟩;exact h0.congr rfl (fun x hx=>hE (hne x hx) _)
theorem Ri{n:eD}(h:gm ey fs ft K (q++[n]))(hr:eP (K q)):iv (K q) n=true:=by
 have h1:=h.look (q++[n]) (oU _);have h2:=h.look q (nG _ _);rw[List.reverse_append]at h1;have a:fe ey ft fs (n::q.reverse)=(fs,0,K (q++[n])):=h1;have hf:(findF ey ft fs (n::q.reverse)).2.1=0:=by
  unfold fe at a;by_cases h0:(findF ey ft fs (n::q.reverse)).2.1≠0
  ·simp only[ie h0]at a
   exact absurd (xr (fun z=>z.2.1) a) h0
  ·exact lD.1 h0
 rw[kE,h2]at hf;simp only at hf;rw[fY (by decide)]at hf;cases hg:oB (K q) n with
 |none=>rw[hg]at hf;simp at hf
 |some c=>
  have:=oC (n:=n) hr
  rw[hg]at this;cases ht:iv (K q) n with
  |true=>rfl
  |false=>rw[ht]at this;simp at this
theorem UN(hi:2<=i):¬Mine i (0,0):=by
 rintro(h|h)
 ·cases h
 ·have h':(0:Nat)=i:=h
  omega
theorem vQ{gb n c m:Nat}{xs:fQ}(h:w.ownsRow 0 96 3 (.slice (some (eI gb 0)) n c) m xs)(o:Nat):w.frozen? (eI gb o)=false:=by
 rcases h.2 with⟨e,_⟩|⟨b,d,f,e,_,a,_⟩
 ·cases e
 ·cases e;simp[World.frozen?,a]
theorem Er(h:w.ownsRow 0 96 3 (.slice (some (eI gb 0)) n c) n (flat es))(qi:ix<es.length):w.cell? (eI gb (ix*3+2))=some (eJ (es[ix]).2.2):=
 (vM (b:=gb) (fun j a hu=>by have:=jn h j a hu;rwa [iP]at this) qi).2.2
theorem vd(hi:2<=i)(m:eB (Mine i) tg eF w w')(c:b<w.heap.size)(ht:tg b=(0,0))(o:Nat):w'.cell? (eI b o)=w.cell? (eI b o):=
 jP (a:=(eI b o)) (m.block _ c (by rw[ht];exact UN hi))
theorem UO(n:eD)(r:eL)(Dj:UM s i p B ey r)(h:eT tg w s i p B ey g lim)(M:fC tg w i B g.ft.od lim vD0)(hl:lim+20*(r.length+3)<1099511627776)
  (hq:Good (r.reverse++[n]))(D:gm ey g.fs g.ft K (r.reverse++[n]))(ho:g.ft.od (r.reverse++[n])=none):
  gc 192 #[hh B.bt,.agg (fy (r.reverse++[n]))] w fun X w'=>∃v,X=.returned v/\∃eF j,eB (Mine i) tg eF w w'/\
   eT eF w' s i p B ey { g with ft:=oX ey g.fs g.ft (n::r) } (lim+20*((n::r).length+1))/\fC eF w' i B (oX ey g.fs g.ft (n::r)).od (lim+20*((n::r).length+1)) j/\j (r.reverse++[n])=v/\∀q,¬q <+: (r.reverse++[n])->j q=vD0 q:=by
 have Y:=D.look _ (oU _);rw[List.reverse_append,pY]at Y;have N:fe ey g.ft g.fs (n::r)=(g.fs,0,K (r.reverse++[n])):=Y;have bD:r.length<=4:=by have:=hq.len;simp at this;omega
 have hq':Good r.reverse:=by have:=hq.dropLast;rwa [qY]at this
 have E:=h.eR g.fs (n::r);rw[N]at E;have E:lY ey (K (r.reverse++[n])):=E;have ap:=D.look r.reverse (nG _ _);have k:=h.eR g.fs r.reverse.reverse;rw[ap]at k;have k:lY ey (K r.reverse):=k;have Z:=Ri D k.rising;have aa:=Jo D;obtain⟨aX,aY,f⟩:=vA (r:=r) aa;have aq:oX ey g.fs g.ft (n::r)={ oX ey g.fs { g.ft with od:=upd g.ft.od (r.reverse++[n]) (some (K (r.reverse++[n]))) } r with od:=upd (oX ey g.fs { g.ft with od:=upd g.ft.od (r.reverse++[n]) (some (K (r.reverse++[n]))) } r).od r.reverse (some (jc (K r.reverse) n)) }:=by
  rw[oX];have aZ:(n::r).reverse=r.reverse++[n]:=qh;rw[aZ,ho,fY (by decide),N];have l:=f r.reverse;rw[ie (oU _)]at l;have e2:zK K r.reverse r.reverse=K r.reverse:=by unfold zK;rw[oZ (kx _)]
  rw[e2]at l;show(FT.mk _ (upd _ _ (some (jc (((oX ey g.fs { g.ft with od:=upd g.ft.od (r.reverse++[n]) (some (K (r.reverse++[n]))) } r).od r.reverse).getD []) n))) _)=_;rw[l];rfl
 have ar:(oX ey g.fs { g.ft with od:=upd g.ft.od (r.reverse++[n]) (some (K (r.reverse++[n]))) } r).od r.reverse=some (K r.reverse):=by
  have l:=f r.reverse;rw[ie (oU _)]at l;have e2:zK K r.reverse r.reverse=K r.reverse:=by unfold zK;rw[oZ (kx _)]
  rw[e2]at l;exact l
 have Ik:¬(r.reverse++[n]) <+: r.reverse:=fun hx=>by have:=hx.length_le;simp at this;omega
 obtain⟨ht,c8,_,_,_⟩:=h.wp.tree.cells;have F:=gS ((lh w.heap.size w).alloc (kx _) (.cells (fy (r.reverse++[n])) 147));have hlk:=Ah M hq F;rw[ho]at hlk;have ab:=qI (s:=s) (i:=i) (p:=p) (B:=B) (ey:=ey) (n::r) tg _ g lim (h.below F) (by omega) (by rw[qh];exact hq);rw[N,qh]at ab;have O:=fun W=>ut W;have heq:∀W,(Op.equalIn 10000 147 (ju (r.reverse++[n])) (ju [])).run prog W=.ok false W:=fun W=>by
  have:=yr hq Good.nil W
  rw[rk (by simp)]at this;exact this
 have Q:=fun W=>gp (r.reverse++[n]) hq W;have R:=fun W=>jY (r.reverse++[n]) hq (by simp) W;rw[qY]at Q;simp only[EY]at R;have ac:∀(tg:eV) (w:World) (g:WG) (lim:Nat) (K:eL->List eN) (vD:eL->Value),eT tg w s i p B ey g lim->fC tg w i B g.ft.od lim vD->lim+20*(r.length+2)<1099511627776->gm ey g.fs g.ft K r.reverse->gc 192 #[hh B.bt,.agg (fy r.reverse)] w fun X w'=>∃v,X=.returned v/\∃eF j,eB (Mine i) tg eF w w'/\
  eT eF w' s i p B ey { g with ft:=oX ey g.fs g.ft r } (lim+20*(r.length+1))/\fC eF w' i B (oX ey g.fs g.ft r).od (lim+20*(r.length+1)) j/\j r.reverse=v/\∀q,¬q <+: r.reverse->j q=vD q:=fun tg w g lim K vD a b c d=>Dj tg w g lim K vD a b c hq' d
 obtain⟨m,u,y,z,A,G⟩:∃m u y z A,fy (r.reverse++[n])=(kq m u y z A):=⟨_,_,_,_,_,rfl⟩;obtain⟨bE,bF,bG,bH,bI,au⟩:∃m u y z A,fy r.reverse=(kq m u y z A):=⟨_,_,_,_,_,rfl⟩;unfold ju at O heq Q R;rw[G]at hlk ab F;simp only[G,au]at heq Q R ac;rw[G];unfold fy at O heq;simp only[nN]at O heq;have bJ:(Instr.lookup 162 (.map (some B.oD)) (.agg (kq m u y z A)) true).run prog ((w.alloc (.cells (kq m u y z A) 147)).drew)=.ok (.tuple #[.slice none 0 0,.bool false]) ((w.alloc (.cells (kq m u y z A) 147)).drew):=hlk;obtain⟨bK,_,av⟩:=M.map;have bb:w.heap.size≠B.oD:=by have:=av.lt;omega
 have bc:lim+(n::r).length+1<maxLen:=by rw[jA];unfold maxLen;omega
 have bd:lim+(n::r).length+1+1+20*(r.length+2)<1099511627776:=by rw[jA];omega
 obtain⟨qi,aw⟩:=nw Z;have iE:=k.len;have be:Hid _:=G;have H:Hid _:=h;have bf:Hid _:=M;have ax:Hid _:=F;have ay:Hid _:=E;have az:Hid _:=k;have bg:Hid _:=ac;have bh:Hid _:=aa;have aA:Hid _:=aq;have ad:Hid _:=ar;have aB:Hid _:=Z;have bL:Hid _:=aw;have bi:Hid _:=Ik;clear h M F E N Y ho av hlk G au k ac D aa aX aY f aq ar Z aw Ik ap Dj;generalize aC:pD (K r.reverse) n=ix at qi;have aD:Hid (pD (K r.reverse) n=ix):=aC;clear aC;go_enter func192,ntmps192;go_wp2
 go_region
 all_goals
  go_wp2_with(first
   |(go_at_call 131;refine ab.mono ?_;rintro e w3 ⟨v,rfl,bj,f,ae,aE⟩;have hS:=xx H.out.two H.out.st.fresh f;have bM:=hS.cell (kx _) (by simp[World.drew]);have af:w.heap.size<w3.heap.size:=lO (by simp[World.drew]) hS.1;have bk:bj w.heap.size=(0,0):=(f.tags _ (by simp[World.drew])).trans (H.out.st.fresh _ (kx _));obtain⟨bN,bO,_,_,_⟩:=ae.wp.tree.cells;have bl:Hid _:=ae;have aF:Hid _:=f;have bm:Hid _:=aE;clear ae f aE hS)
   |(go_at_call 170;go_loud(refine(BH bm.out.1 ay.out.len).mono ?_;rintro e bQ ⟨bn,rfl,aG,sw,S⟩;obtain⟨bR,bS⟩:=ii S;obtain⟨w5,SH,bo,aH,bp,bT,ag,ah,aI,bU⟩:=Gc (q:=r.reverse++[n]) bl.out (((bf.out.moves (eB.eE (P:=fun _=>False) ax.out) (fun x=>x)).moves aF.out (Rf H.out.two (by decide) (by decide))).mono (by omega)) bc hq (gS S) aG sw ay.out;have k5:=xj (c:=w.heap.size) aH (lO af S.size) bb;obtain⟨bV,_,_,bW,f5⟩:=ah.wp.tree.cells;rw[be.out]at bo;have aJ:w.heap.size<w5.heap.size:=lO (lO af S.size) (Ax bp.symm);have bq:SH w.heap.size=(0,0):=(ag.tags _ af).trans bk;have br:Hid _:=ah;have bs:Hid _:=ag;have bt:Hid _:=aI;clear ah ag aI aG sw aH)))
  go_region
  all_goals
   go_wp2
   go_region_with(go_at_call 75;refine(O _).mono ?_;rintro e w6 ⟨rfl,ai⟩;have bX:∀o,w6.cell? (eI w.heap.size o)=w5.cell? (eI w.heap.size o):=fun o=>(ii ai).1 _ _ aJ;have aK:w.heap.size<w6.heap.size:=lO aJ ai.size;have aj:=fx (gS (lh w5.heap.size w5)) ai)
   all_goals
    go_wp2_with(first
     |(go_at_call 132;refine(Q _).mono ?_;rintro e ak ⟨rfl,I⟩;have bY:∀o,ak.cell? (eI w.heap.size o)=w6.cell? (eI w.heap.size o):=fun o=>(ii I).1 _ _ aK;have aL:w.heap.size<ak.heap.size:=lO aK I.size)
     |(go_at_call 192;go_loud(refine(bg.out SH ak _ _ K _ (br.out.below (fx aj I)) (bt.out.moves (eB.eE (P:=fun _=>False) (fx aj I)) (fun x=>x)) bd bh.out).mono ?_;rintro e T ⟨bZ,rfl,bu,bv,U,aM,V,aN,aO⟩;obtain⟨gb,ca,al⟩:=fj (V.row _ _ ad.out).1 (by omega);have C:=V.row _ _ ad.out;rw[al]at aN C;subst aN;have cb:=vd H.out.two U aL bq;have cc:w.heap.size<T.heap.size:=lO aL U.size;have am:gb<T.heap.size:=eK C.1 rfl;have cd:=Er C.1 qi;have ce:=vQ C.1 (ix*3+2);have bw:Hid _:=aM;have bx:Hid _:=U;have bz:Hid _:=V;have aP:Hid _:=C;have bA:Hid _:=al;have aQ:Hid _:=aO;clear aM U V C al aO))
     |(go_at_call 134;refine(R _).mono ?_;rintro e J ⟨rfl,L⟩;have cf:J.cell? (eI gb (ix*3+2))=T.cell? (eI gb (ix*3+2)):=(ii L).1 _ _ am;have f9:J.frozen? (eI gb (ix*3+2))=T.frozen? (eI gb (ix*3+2)):=(ii L).2 _ _ am;have aR:gb<J.heap.size:=lO am L.size)
     |(go_at_call 133;go_loud(refine(gY (eQ aP.out.1 (fun bB bC=>L.block bB (eK aP.out.1 bC))) n az.out.rising az.out.len).mono ?_;rintro e aS ⟨rfl,an⟩;rw[aD.out,aB.out];have cg:aS.cell? (eI gb (ix*3+2))=J.cell? (eI gb (ix*3+2)):=(ii an).1 _ _ aR;have f10:aS.frozen? (eI gb (ix*3+2))=J.frozen? (eI gb (ix*3+2)):=(ii an).2 _ _ aR)))
    go_ret;have ao:=fx L an;obtain⟨aT,aU,aV⟩:=Ep (bw.out.below ao) (bz.out.moves (eB.eE (P:=fun _=>False) ao) (fun x=>x)) ad.out bA.out aB.out;rw[aD.out]at aT aU aV;have aW:lim+(n::r).length+1+1+20*(r.length+1)<=lim+20*((n::r).length+1):=by rw[jA];omega
    refine⟨bn,rfl,bu,bv,?_,?_,?_,?_,fun q Tv=>?_⟩
    ·exact((li ax.out aF.out).mono (fun _ h=>h.mine)).trans (bs.out.trans ((eB.eE (fx aj I)).trans (bx.out.trans ((eB.eE ao).trans (aV.mono (fun t ht=>.inr (by rw[ht])))))))
    ·rw[aA.out];exact aT.mono aW
    ·rw[aA.out];exact aU.mono aW
    ·rw[aQ.out _ bi.out,upd_same]
    ·rw[aQ.out q (fun h=>Tv (h.trans (nG _ _))),hE (fun e:q=r.reverse++[n]=>Tv (by rw[e];exact oU _))]
theorem qJ:∀r:eL,UM s i p B ey r
 |[]=>by
  intro tg w g lim K vD h hD hl hq c
  by_cases ho:(g.ft.od []).isSome=true
  ·obtain⟨es,d⟩:=WM.1 ho
   have b:oX ey g.fs g.ft []=g.ft:=by rw[oX,ie ho]
   rw[b]
   obtain⟨ht,c8,_⟩:=h.wp.tree.cells
   refine(En B.bt B.oD _ _ _ _ _ (vD []) w ht c8 (fun W a=>?_)).mono ?_
   ·have:=Ah hD Good.nil a
    rw[d]at this;exact this
   ·rintro j w' ⟨rfl,a⟩
    exact⟨_,rfl,tg,vD,eB.eE a,(h.below a).mono (by omega),(hD.moves (eB.eE (P:=fun _=>False) a) (fun x=>x)).mono (by omega),rfl,fun _ _=>rfl⟩
  ·have f:g.ft.od []=none:=by simpa using ho
   have k:=c.look [] (oU _)
   have b:oX ey g.fs g.ft []={ g.ft with od:=upd g.ft.od [] (some (K [])),root:=0 }:=by
    rw[oX,fY ho];rw[show fe ey g.ft g.fs []=(g.fs,0,K [])from k]
   rw[b];refine(Re h hD (by simp only[wA]at hl;omega) f k).mono ?_;rintro j w' ⟨v,rfl,eF,l,m,hW,o,hv,hq'⟩;exact⟨v,rfl,eF,l,m,hW.mono (by simp only[wA];omega),o.mono (by simp only[wA];omega),hv,fun q Tv=>hq' q (fun e=>Tv (by rw[e];exact oU _))⟩
 |n::r=>by
  intro tg w g lim K vD h hD hl hq c;by_cases ho:(g.ft.od (n::r).reverse).isSome=true
  ·obtain⟨es,d⟩:=WM.1 ho
   have b:oX ey g.fs g.ft (n::r)=g.ft:=by rw[oX,ie ho]
   rw[b];obtain⟨ht,c8,_⟩:=h.wp.tree.cells;refine(En B.bt B.oD _ _ _ _ _ (vD (n::r).reverse) w ht c8 (fun W a=>?_)).mono ?_
   ·have:=Ah hD hq a
    rw[d]at this;exact this
   ·rintro j w' ⟨rfl,a⟩
    exact⟨_,rfl,tg,vD,eB.eE a,(h.below a).mono (by omega),(hD.moves (eB.eE (P:=fun _=>False) a) (fun x=>x)).mono (by omega),rfl,fun _ _=>rfl⟩
  ·have t:(n::r).reverse=r.reverse++[n]:=qh
   rw[t]at ho hq c ⊢;have f:g.ft.od (r.reverse++[n])=none:=by simpa using ho
   exact UO n r (qJ r) h hD (by rw[jA]at hl;omega) hq c f
theorem Mi(h:eT tg w s i p B ey g lim)(hq:Good q)(a:gi):
  ∃w',(Builtin.delete_ #[161,147] a #[.map (some B.oF),.agg (fy q)]).run prog w=.ok (.tuple #[]) w'/\eB (fun t=>t=(i,4)) tg tg w w'/\w.grownBy w' (some B.oF)/\w'.heap.size=w.heap.size/\B.oF<w.heap.size/\eT tg w' s i p B ey { g with ft:={ g.ft with of:=upd g.ft.of q none } } lim:=by
 have hi:=h.two;obtain⟨ht,⟨n,hn,hm⟩,hg⟩:=h.wp.qG;obtain⟨w',c,d,b,hs⟩:=hm.drop hq underlying161 a;have m:eB (fun t=>t=(i,4)) tg tg w w':=yi b hs ht;have hp:=h.wp;obtain⟨vD,hD⟩:=hp.nI;refine⟨w',c,m,b,hs,hm.lt,h.two,h.st.moves m (fun e=>by cases e) (fun e=>by cases e),⟨hp.tree.moves m (fun e=>by cases e),hp.lS.moves m (fun e=>by cases e),hp.lT.moves m (fun e=>by cases e),⟨ht,⟨n,hn,d.congr (fun x hx=>?_)⟩,fun x f hx=>?_⟩,⟨vD,hD.moves m (fun e=>by cases e)⟩,hp.files.moves m (fun e=>by cases e),fun x f hx=>?_,hp.opens.moves m (fun e=>by cases e) (fun e=>by cases e),⟨hp.ok.root,hp.ok.od⟩⟩⟩
 ·show upd (fun y=>(g.ft.of y).map ptr) q none x=Option.map ptr (upd g.ft.of q none x)
  by_cases e:x=q
  ·subst e;rw[upd_same,upd_same];rfl
  ·rw[hE e,hE e]
 ·by_cases e:x=q
  ·subst e
   have nv:upd g.ft.of x none x=some f:=hx;rw[upd_same]at nv;cases nv
  ·have nv:upd g.ft.of q none x=some f:=hx
   rw[hE e]at nv;exact hg x f nv
 ·by_cases e:x=q
  ·subst e
   have nv:upd g.ft.of x none x=some f:=hx;rw[upd_same]at nv;cases nv
  ·have nv:upd g.ft.of q none x=some f:=hx
   rw[hE e]at nv;exact hp.held x f nv
theorem Rj(h:eT tg w s i p B ey g lim)(hD:fC tg w i B g.ft.od lim vD)(hq:Good q)(b:gi):
  ∃w',(Builtin.delete_ #[162,147] b #[.map (some B.oD),.agg (fy q)]).run prog w=.ok (.tuple #[]) w'/\eB (fun t=>t=(i,5)) tg tg w w'/\eT tg w' s i p B ey { g with ft:={ g.ft with od:=upd g.ft.od q none } } lim/\fC tg w' i B (upd g.ft.od q none) lim vD:=by
 obtain⟨n,hn,hm⟩:=hD.map;obtain⟨w',j,k,c,hs⟩:=hm.drop hq underlying162 b;obtain⟨r,u,l⟩:=hm.isMap;have m:eB (fun t=>t=(i,5)) tg tg w w':=yi c hs hD.tag;have a:∀x es,upd g.ft.od q none x=some es->g.ft.od x=some es:=fun x es hx=>by
  by_cases e:x=q
  ·subst e;rw[upd_same]at hx;cases hx
  ·rw[hE e]at hx;exact hx
 have d:fC tg w' i B (upd g.ft.od q none) lim vD:=by
  refine⟨hD.tag,⟨n,hn,k.congr (fun x hx=>?_)⟩,fun x es hx=>hD.good x es (a x es hx),fun x es hx=>(hD.row x es (a x es hx)).xz l c,fun x y ex f gb hx o h1 h2=>hD.inj x y ex f gb (a x ex hx) (a y f o) h1 h2⟩;by_cases e:x=q
  ·subst e;rw[upd_same,upd_same];rfl
  ·rw[hE e,hE e]
 exact⟨w',j,m,h.od m (kx _) d (fun x es hx=>h.wp.ok.od x es (a x es hx)),d⟩
theorem BJ(h:eT tg w s i p B ey g lim)(hD:fC tg w i B g.ft.od lim vD)(hq:Good q):
  gc 139 #[hh B.bt,.agg (fy q)] w fun G w'=>G=.returned (.tuple #[])/\eB (Mine i) tg tg w w'/\eT tg w' s i p B ey { g with ft:=wS g.ft q } lim/\fC tg w' i B (upd g.ft.od q none) lim vD:=by
 have a:=gS ((lh w.heap.size w).alloc (kx _) (.cells (fy q) 147));have j:=h.below a;have k:=hD.moves (eB.eE (P:=fun _=>False) a) (fun x=>x);obtain⟨l,H,b,m,M,N,d⟩:=Mi j hq 0;have r:fC tg l i B g.ft.od lim vD:=k.moves b (fun e=>by cases e);obtain⟨f,I,u,y,z⟩:=Rj (d.below (gS (lh _ _))) (r.moves (eB.eE (P:=fun _=>False) (gS (lh _ _))) (fun x=>x)) hq 0;obtain⟨ht,c8,c7,_,_⟩:=h.wp.tree.cells;obtain⟨O,Q,_,_,_⟩:=d.wp.tree.cells;have hne:w.heap.size≠B.oF:=by
  obtain⟨_,⟨n,_,hm⟩,_⟩:=h.wp.qG
  have:=hm.lt;omega
 have J:∀o,l.cell? (eI w.heap.size o)=((w.alloc (.cells (fy q) 147)).drew).cell? (eI w.heap.size o):=xj (c:=w.heap.size) m (by simp[World.drew]) hne;have K:Hid (eB (Mine i) tg tg w f/\eT tg f s i p B ey { g with ft:=wS g.ft q } lim/\fC tg f i B (upd g.ft.od q none) lim vD):=⟨(eB.eE a).trans ((b.mono (fun t ht=>(Or.inr (by rw[ht]):Mine i t))).trans ((eB.eE (gS (lh _ _))).trans (u.mono (fun t ht=>(Or.inr (by rw[ht]):Mine i t))))),y,z⟩;obtain⟨A,C,D,E,F,L⟩:∃A C D E F,fy q=(kq A C D E F):=⟨_,_,_,_,_,rfl⟩;rw[L]at H I J a ⊢;clear h hD j k d r y z b u a m;go_enter func139,ntmps139;go_wp2
 go_region
 all_goals
  go_wp2
  go_region
  all_goals
   go_wp2;exact bodyPost_end (v:=.tuple #[]) (by simp[results,results139,go_sem]) rfl ⟨rfl,K.out⟩
theorem Jp{w f W:World}(h:eT tg w s i p B ey g lim)(hD:fC tg w i B g.ft.od lim vD)(hl:lim<maxLen)(ho:g.ft.od q=some es)(hg:w.grownBy f (vD q).ownBlock){v6:Value}
  (u:f.ownsRow 0 96 3 v6 es'.length (flat es'))(E:v6.ownBlock=(vD q).ownBlock\/∀gb,v6.ownBlock=some gb->w.heap.size<=gb)(o:lY ey es')(a:ik f W):
  ∃c F,(Instr.mapUpdate 162 (.map (some B.oD)) (.agg (fy q)) v6).run prog W=.ok () c/\eB (Mine i) tg F w c/\
   eT F c s i p B ey { g with ft:={ g.ft with od:=upd g.ft.od q (some es') } } (lim+1)/\fC F c i B (upd g.ft.od q (some es')) (lim+1) (upd vD q v6):=by
 have hi:=h.two;have hq:=(hD.good q es ho).1;have v:=hD.row q es ho;obtain⟨n,hn,hm⟩:=hD.map;obtain⟨O,P,A⟩:=hm.isMap;have Q:some B.oD≠(vD q).ownBlock:=ul v.1 A;have I:f.heap[B.oD]?=w.heap[B.oD]?:=hg.block _ hm.lt Q;have hW:W.heap[B.oD]?=w.heap[B.oD]?:=(a.block _ (lO hm.lt hg.size)).trans I;obtain⟨c,R,S,j,Y⟩:=(hm.keep hW).store hq (Nat.lt_of_le_of_lt hn hl) underlying162 v6;have Z:W.heap[B.oD]?=some (.map O P):=hW.trans A;have aa:∀k,(tg k).1≠0->mm tg v6 (i,5) k=tg k:=fun k hk=>by
  by_cases e:v6.ownBlock=some k
  ·rw[rH e]
   rcases E with h1|h1
   ·exact(v.2 k (h1▸e)).symm
   ·rw[h.st.fresh k (h1 k e)]at hk;exact absurd rfl hk
  ·exact lq e _
 have G:∀k,k<w.heap.size->mm tg v6 (i,5) k=tg k:=fun k hk=>by
  by_cases e:v6.ownBlock=some k
  ·rw[rH e]
   rcases E with h1|h1
   ·exact(v.2 k (h1▸e)).symm
   ·have:=h1 k e;omega
  ·exact lq e _
 have T:jt (mm tg v6 (i,5)) c:=fun k hk=>by
  have h6:f.heap.size<=k:=wl a.size (by omega);rw[lq (fun e=>by have:=eK u e;omega)];exact h.st.fresh k (wl hg.size h6)
 have m:eB (fun t=>t=(i,5)) tg (mm tg v6 (i,5)) w c:=by
  refine⟨j.os.trans (a.os.trans hg.os),j.tape.trans (a.tape.trans hg.tape),j.output.trans (a.output.trans hg.output),wl hg.size (wl a.size j.size),G,fun k hk hn=>?_,fun _=>T⟩;have r:k<f.heap.size:=lO hk hg.size;rw[j.block k (lO r a.size) (fun e=>hn (by cases e;exact hD.tag)),a.block k r,hg.block k hk (fun e=>hn (v.2 k e.symm))]
 have J:fC (mm tg v6 (i,5)) c i B (upd g.ft.od q (some es')) (lim+1) (upd vD q v6):=by
  have U:lR (mm tg v6 (i,5)) c (i,5) v6 es':=by
   refine⟨eQ u (fun b l=>?_),fun gb V=>rH V _⟩;have K:=eK u l;rw[j.block b (lO K a.size) (fun e=>?_),a.block b K];have d:b=B.oD:=by injection e
   rw[d]at l;exact ul u (I.trans A) l.symm
  refine⟨(G _ hm.lt).trans hD.tag,⟨n+1,by omega,S.congr (fun x hx=>?_)⟩,fun x fs hx=>?_,fun x fs hx=>?_,fun x y fs fs' gb hx C h1 h2=>?_⟩
  ·by_cases e:x=q
   ·subst e;rw[upd_same,upd_same,upd_same];rfl
   ·rw[hE e,hE e,hE e]
  ·by_cases e:x=q
   ·subst e
    rw[upd_same]at hx;cases hx;exact⟨hq,o.rising,o.len,fun e D=>⟨(o.ok e D).1,(o.ok e D).2.1⟩⟩
   ·rw[hE e]at hx;exact hD.good x fs hx
  ·by_cases e:x=q
   ·subst e
    rw[upd_same]at hx ⊢;cases hx;exact U
   ·rw[hE e]at hx ⊢
    have hr:=hD.row x fs hx;refine hr.keep (fun b l H=>⟨?_,G b H⟩);have r:b<f.heap.size:=lO H hg.size;rw[j.block b (lO r a.size) (fun e2=>?_),a.block b r,hg.block b H (fun e2=>?_)]
    ·exact e (hD.inj x q fs es b hx ho l e2.symm)
    ·have d:b=B.oD:=by injection e2
     rw[d]at l;exact ul hr.1 A l.symm
  ·have apart:∀z fz,z≠q->g.ft.od z=some fz->(vD z).ownBlock=some gb->v6.ownBlock=some gb->False:=fun z fz X L M N=>by
    rcases E with h3|h3
    ·exact X (hD.inj z q fz es gb L ho M (h3▸N))
    ·have ab:=eK (hD.row z fz L).1 M
     have:=h3 gb N
     omega
   by_cases e:x=q
   ·by_cases d:y=q
    ·rw[e,d]
    ·subst e
     rw[upd_same]at h1;rw[hE d]at C h2;exact(apart y fs' d C h2 h1).elim
   ·by_cases d:y=q
    ·subst d
     rw[upd_same]at h2;rw[hE e]at hx h1;exact(apart x fs e hx h1 h2).elim
    ·rw[hE e]at hx h1
     rw[hE d]at C h2;exact hD.inj x y fs fs' gb hx C h1 h2
 refine⟨c,mm tg v6 (i,5),R,m.mono (fun t ht=>(Or.inr (by rw[ht]):Mine i t)),h.od m (gV _) J (fun x fs hx=>?_),J⟩;by_cases e:x=q
 ·subst e
  rw[upd_same]at hx;cases hx;exact fun e D=>(o.ok e D).2
 ·rw[hE e]at hx
  exact h.wp.ok.od x fs hx
end
theorem XG(b:w.ownsRow 0 96 3 (.slice (some (eI gb 0)) n c) n (flat es))(hn:es.length=n)(hk:k<n):
  gc 194 #[.slice (some (eI gb 0)) n c,eJ (k:Int),eJ ((k:Int)+1)] w fun e w'=>e=.returned (.slice (some (eI gb 0)) (n-1) c)/\
   w'.ownsRow 0 96 3 (.slice (some (eI gb 0)) (n-1) c) (n-1) (flat (es.eraseIdx k))/\w.grownBy w' (some gb)/\w'.heap.size=w.heap.size:=by
 rcases b.2 with⟨e,_⟩|⟨p,q,d,e,_,hg,f,a,g,ht⟩
 ·cases e
 ·cases e
  refine(UK gb n c k es d w hg hn hk f a g ht).mono ?_;rintro e w' ⟨rfl,h,i,j,l,m,o⟩;refine⟨rfl,⟨?_,.inr ⟨gb,c,h,rfl,tk _,i,by omega,a,j,l⟩⟩,m,o⟩;rw[km,List.length_eraseIdx_of_lt (by omega),hn]
theorem Mj{w a:World}{b:Obj}(h:Below (w.alloc b).heap.size (w.alloc b) a):w.heap.size<a.heap.size:=by
 have h2:=h.size;rw[sr]at h2;omega
theorem jZ(h:a<w.heap.size)(o:Obj):a<(w.alloc o).heap.size:=by rw[sr];omega
theorem gu(w:World)(o:Obj):w.heap.size<(w.alloc o).heap.size:=by rw[sr];omega
theorem BK{t t':Nat×Nat}(h1:tg a=t)(h2:tg b=t')(hne:t≠t'):a≠b:=fun e=>hne (h1.symm.trans (e▸h2))
theorem ZN(i:Nat):((i,1):Nat×Nat)≠(i,5):=fun h=>by cases h
theorem UQ(i:Nat):((0,0):Nat×Nat)≠(i,5):=fun h=>by cases h
theorem UR(h:v=.slice (some (eI gb 0)) n c)(a b:Nat):(Value.slice (some (eI gb 0)) a b).ownBlock=v.ownBlock:=by subst h;rfl
theorem Rk(h:v=.slice (some (eI gb 0)) n c)(hg:w.grownBy w' (some gb)):w.grownBy w' v.ownBlock:=by subst h;exact hg
theorem Rl(h:lY ey es)(n:eD):lY ey (np es n):=
 ⟨by unfold np;exact List.Pairwise.sublist (List.eraseIdx_sublist _ _) h.rising,by unfold np;exact wl (List.length_eraseIdx_le _ _) h.len,fun e a=>h.ok e (DM a)⟩
section
variable {s i p:Nat}{B:WB}{ey:List Ob}
theorem UT{w w6:World}{nm:eD}(h:eT tg w s i p B ey g lim)(hD:fC tg w i B g.ft.od lim vD)(hl:lim<maxLen)(ho:g.ft.od q=some es)(d:vD q=.slice (some (eI gb 0)) n c)(e:iv es nm=true)(qi:pD es nm=ix)(f:lY ey es)
  (j:w6.ownsRow 0 96 3 (.slice (some (eI gb 0)) (es.length-1) c) (es.length-1) (flat (es.eraseIdx ix)))(hg:w.grownBy w6 (some gb)):
  ∃a b,(Instr.mapUpdate 162 (.map (some B.oD)) (.agg (fy q)) (.slice (some (eI gb 0)) (es.length-1) c)).run prog w6=.ok () a/\eB (Mine i) tg b w a/\
   eT b a s i p B ey { g with ft:={ g.ft with od:=upd g.ft.od q (some (np es nm)) } } (lim+1)/\fC b a i B (upd g.ft.od q (some (np es nm))) (lim+1) (upd vD q (.slice (some (eI gb 0)) (es.length-1) c)):=by
 refine Jp h hD hl ho (Rk d hg) ?_ (.inl (UR d _ _)) (Rl f nm) (lh _ _);rw[wP e];unfold np;rw[qi];exact j
theorem Jq(h:eT tg w s i p B ey g lim)(hD:fC tg w i B g.ft.od lim vD)(hl:lim+300<1099511627776){n:eD}(hp:Good (q++[n]))(H:gm ey g.fs g.ft K q)(I:lY ey (K q))(J:iv (K q) n=true):
  gc 138 #[hh B.bt,.agg (fy (q++[n]))] w fun ar w'=>ar=.returned (.tuple #[])/\∃eF au,eB (Mine i) tg eF w w'/\
   eT eF w' s i p B ey { g with ft:=jU ey g.fs g.ft q n } (lim+150)/\fC eF w' i B (jU ey g.fs g.ft q n).od (lim+150) au:=by
 have hq:Good q:=by have:=hp.dropLast;rwa [qY]at this
 have aQ:q.length<=4:=by have:=hp.len;simp at this;omega
 obtain⟨av,aw,L,ax⟩:=oJ H;have aa:jU ey g.fs g.ft q n={ oX ey g.fs g.ft q.reverse with od:=upd (oX ey g.fs g.ft q.reverse).od q (some (np (K q) n)) }:=by
  unfold jU;simp only[L,qj]
 rw[aa];have l:=fun W (ab:ik w W)=>qJ (s:=s) (i:=i) (p:=p) (B:=B) (ey:=ey) q.reverse tg W g lim K vD (h.below ab) (hD.moves (eB.eE (P:=fun _=>False) ab) (fun x=>x)) (by rw[CN];omega) (by rw[pY];exact hq) (by rw[pY];exact H)
 rw[pY,CN]at l;have m:=fun W=>gp (q++[n]) hp W
 have r:=fun W=>jY (q++[n]) hp (by simp) W;rw[qY]at m;simp only[EY]at r;obtain⟨t,u,y,z,A,M⟩:∃t u y z A,fy (q++[n])=(kq t u y z A):=⟨_,_,_,_,_,rfl⟩;obtain⟨aR,aS,aT,aU,aV,N⟩:∃t u y z A,fy q=(kq t u y z A):=⟨_,_,_,_,_,rfl⟩;unfold ju at m r;simp only[M,N]at m r l;rw[M];obtain⟨qi,ay⟩:=nw J;have iE:=I.len;have hi:=h.two;have az:lim+20*(q.length+1)<maxLen:=by unfold maxLen;omega
 generalize ac:pD (K q) n=ix at qi;have ad:Hid (pD (K q) n=ix):=ac;have aA:Hid _:=N;have aW:Hid _:=h;have aB:Hid _:=l;have ae:Hid _:=L;have O:Hid _:=I;have af:Hid _:=J;have ag:=h.st.fresh;have Q:Hid _:=ag;clear ac h hD l av aw L ax I J M N H aa ay ag;go_enter func138,ntmps138;go_wp2_with(first
  |(go_at_call 132;refine(m _).mono ?_;rintro e a ⟨rfl,R⟩;have S:=Mj R;have aX:=fun o=>(ii R).1 w.heap.size o (by simp);have C:=fx ((lh w.heap.size w).alloc (kx _) _) R)
  |(go_at_call 192;go_loud(refine(aB.out _ (C.alloc C.size _)).mono ?_;rintro e w3 ⟨aY,rfl,aC,aZ,f,D,T,ah,ai⟩;have bb:=vd (b:=w.heap.size) hi f (jZ S _) (Q.out _ (kx _));have bc:=vd (b:=a.heap.size) hi f (gu _ _) (Q.out _ (xT S));have aD:aC a.heap.size=(0,0):=(f.tags _ (gu _ _)).trans (Q.out _ (xT S));have aj:a.heap.size<w3.heap.size:=lO (gu _ _) f.size;have d:=T.row _ _ ae.out;obtain⟨gb,aE,U⟩:=fj d.1 (by omega);rw[U]at ah d;subst ah;have bd:gb<w3.heap.size:=eK d.1 rfl;obtain⟨V,be,_,_,_⟩:=D.wp.tree.cells;have aF:=BK D.wp.tree.tt (d.2 gb rfl) (ZN i);have Ik:=BK aD (d.2 gb rfl) (UQ i);have aG:Hid _:=D;have aH:Hid _:=f;have aI:Hid _:=T;have E:Hid _:=d;have aJ:Hid _:=U;have bf:Hid _:=ai;clear D f T d U ai))
  |(go_at_call 134;refine(r _).mono ?_;rintro e F ⟨rfl,k⟩;have ak:a.heap.size<F.heap.size:=lO aj k.size;have k4:∀o,F.cell? (eI a.heap.size o)=w3.cell? (eI a.heap.size o):=fun o=>(ii k).1 _ o aj;have d4:F.cell? (eI B.bt 8)=w3.cell? (eI B.bt 8):=(ii k).1 _ _ V)
  |(go_at_call 133;go_loud(refine(gY (eQ E.out.1 (fun X Y=>k.block X (eK E.out.1 Y))) n O.out.rising O.out.len).mono ?_;rintro e w5 ⟨rfl,Z⟩;rw[ad.out,af.out];have j:=fx k Z;have k5:∀o,w5.cell? (eI a.heap.size o)=F.cell? (eI a.heap.size o):=fun o=>(ii Z).1 _ o ak;have d5:w5.cell? (eI B.bt 8)=w3.cell? (eI B.bt 8):=(ii j).1 _ _ V)))
 have al:w5.drew.ownsRow 0 96 3 (.slice (some (eI gb 0)) (K q).length aE) (K q).length (flat (K q)):=eQ E.out.1 (fun X Y=>(gS j).block X (eK E.out.1 Y));have am:=XG al rfl qi;have aK:Hid _:=am;clear am al;have bg:IntKind.i64.wrap ((ix:Int)+1)=(ix:Int)+1:=by rw[xS];omega
 go_region_with(go_at_call 194;go_loud(refine io aK.out ?_;rintro e w6 ⟨rfl,an,G,bh⟩;have bi:=fun o=>xj (c:=a.heap.size) G (lO ak Z.size) Ik o;have d6:=xj (c:=B.bt) G (lO V j.size) aF 8;obtain⟨bj,aL,aM,ao,ap,aq⟩:=UT (aG.out.below (gS j)) (aI.out.moves (eB.eE (P:=fun _=>False) (gS j)) (fun x=>x)) az ae.out aJ.out af.out ad.out O.out an G;rw[aA.out]at aM;have aN:Hid _:=ao;have aO:Hid _:=ap;have aP:Hid _:=aq;clear ao ap aq an G))
 all_goals
  go_wp2;exact bodyPost_end (v:=.tuple #[]) (by simp[results,results138,go_sem]) rfl ⟨rfl,aL,_,((li (C.alloc C.size _) aH.out).trans ((eB.eE (gS j)).trans aN.out)),aO.out.mono (by omega),aP.out.mono (by omega)⟩
end
end Go.Proofs.YtlgidcmmgohagaaGreat
