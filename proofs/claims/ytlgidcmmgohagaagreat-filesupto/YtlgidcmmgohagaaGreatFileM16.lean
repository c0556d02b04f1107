/- What is proved here: slices. -/
import Derived.Test.YtlgidcmmgohagaaGreatFileM15
import Derived.Lib.Overlaps
import Derived.Lib.AppendZerosOnto
import Derived.Laws.Externs
import Derived.Test.YtlgidcmmgohagaaGreatFileM04
namespace Go.Proofs.YtlgidcmmgohagaaGreat
open Go.RowKit Go.Sort Go.Shelf Go.Proofs.Tryz
set_option linter.unusedVariables false
set_option maxRecDepth 100000
set_option maxHeartbeats 16000000
variable {a b c gb i ix k lim n:Nat}{B:WB}{q:eB}{f:eB->Option Value}{ei:List Ob}{es es':List eD}{e t:fL}{W w w':World}{tg ey:eM}{vD T5:eB->Value}{v:Value}{g:WG}{fs:FS}{ft:FT}{K:eB->List eD}
theorem Cz:(prog.info? 96).map (·.size)=some 3:=by kernel_rfl
def qu (w w':World)(own:Option Nat)(n:Nat)(es:List eD)(e:Ending):Prop:=
 ∃g c,e=.returned (.slice (some ⟨g,0,none⟩) (n+1) c)/\w'.ownsRow 0 96 3 (.slice (some ⟨g,0,none⟩) (n+1) c) (n+1) (flat es)/\w.grownBy w' own/\((some g:Option Nat)=own\/w.heap.size<=g)
theorem LD(g n c k f:Nat)(es:List eD)(x:eD)(b:Array Value)(w:World)(hg:w.heap[g]?=some (.cells b 96 (0,0)))(hn:es.length=n)(hk:k<n)(L:n+1<=c)(M:c<=maxLen)(h:b.size=c*3)(ht:b.toList.take (n*3)=flat es)
  (hv:w.heap[f]?=some (.cells #[.string x.1,ed x.2.1,ed x.2.2] 96 (0,0)))(F:f≠g):
  eK 193 #[.slice (some (eb g 0)) n c,ed (k:Int),.slice (some (eb f 0)) 1 1] w fun e w'=>qu w w' (some g) n (es.take k++x::es.drop k) e:=by
 unfold maxLen at M;have G:∀j t,(flat es)[j]?=some t->w.cell? (eb g j)=some t:=fun j t hu=>by
  rw[<-ht,xG]at hu;split at hu
  ·simp[World.cell?,hg];simpa using hu
  ·cases hu
 obtain⟨n1,l⟩:∃n1,n1=flat (es.drop k):=⟨_,rfl⟩;have q:n1.length=(n-k)*3:=by rw[l,ib,jl,hn]
 have N:∀u z,(callFunc 219 #[.slice (some (eb f 0)) 1 1,.slice (some (eb g ((k+1)*3))) u z]).run prog w=.ok (.value (.bool false)) w:=fun u z=>by
  rw[run_callFunc_extern func219 (by kernel_rfl) (by kernel_rfl) (by kernel_rfl) (e:=Extern.SlicesOverlaps.overlaps #[55,55] #[4]) (by kernel_rfl),
   Lib.run_overlaps_apart w 55 4 96 underlying55 3 (fun w=>sizeOf34 w) (eb f 0) (eb g ((k+1)*3)) 1 1 u z F 96 96 3 b.size (by simp[World.shape?,hv]) (by simp[World.shape?,hg]) (by rw[h];omega) (by simp[World.frozen?,hv]) (by simp[World.frozen?,hv])]
  rfl
 obtain⟨a,r⟩:∃a:Array Value,a=(b.toList.take ((k+1)*3)++n1++b.toList.drop ((k+1)*3+n1.length)).toArray:=⟨_,rfl⟩;have A:a.size=c*3:=by
  rw[r];simp only[zO,jM,Hc,jl,kG];omega
 obtain⟨d,m⟩:∃d,d=w.drew.setRow g a:=⟨_,rfl⟩;have B:d.heap[g]?=some (.cells a 96 (0,0)):=by rw[m];exact BX w.drew g _ _ 96 _ hg
 have C:Nat.min (n+1-k) (n-k)=n-k:=by simp only[Nat.min_def];split<;>omega
 have O:∀i dc D,(Builtin.copy_ #[55,55] i #[.slice (some (eb g ((k+1)*3))) (n-k) dc,.slice (some (eb g (k*3))) (n+1-k) D]).run prog w.drew=.ok (goInt ((n-k:Nat):Int)) d:=fun i dc D=>by
  have:=lG (P:=prog) w.drew 55 55 i 96 3 g ((k+1)*3) (n-k) dc (eb g (k*3)) (n+1-k) D b 96 n1 underlying55 Cz hg (by rw[C];exact q)
   (fun j v hj=>by rw[Gq];show w.cell? _=_;refine G _ _ ?_;rw[l,sN es k (by omega),J9]at hj;exact hj) (by rw[q,h];omega) (by rw[l];exact PQ _)
  rw[C]at this;rw[this,m,r]
 have s:d.heap[f]?=some (.cells #[.string x.1,ed x.2.1,ed x.2.2] 96 (0,0)):=by rw[m,xL w.drew g f _ F];exact hv
 obtain⟨o,E⟩:∃o:Array Value,o=(a.toList.take (k*3)++kA x++a.toList.drop (k*3+(kA x).length)).toArray:=⟨_,rfl⟩;have Q:∀i dc,(Builtin.copy_ #[55,55] i #[.slice (some (eb g (k*3))) (n+1-k) dc,.slice (some (eb f 0)) 1 1]).run prog d=.ok (goInt ((1:Nat):Int)) (d.setRow g o):=fun i dc=>by
  have hm:Nat.min 1 (n+1-k)=1:=by simp only[Nat.min_def];split<;>omega
  have:=lG (P:=prog) d 55 55 i 96 3 g (k*3) (n+1-k) dc (eb f 0) 1 1 a 96 (kA x) underlying55 Cz B (by rw[hm];rfl)
   (fun j v hj=>by rw[Gq];match j,hj with
    |0,hj=>simpa [World.cell?,s,kA]using hj
    |1,hj=>simpa [World.cell?,s,kA]using hj
    |2,hj=>simpa [World.cell?,s,kA]using hj
    |j+3,hj=>simp[kA]at hj) (by rw[ui,A];omega) (lL x)
  rw[hm]at this;rw[this,E]
 have Y:¬((k:Int)=(n:Int)):=by omega
 have Z:IntKind.i64.wrap ((k:Int)+1)=(k:Int)+1:=by rw[uP];omega
 have aa:(0:Int)<=(k:Int)+1:=by omega
 have ab:(k:Int)+1<=(n:Int)+1:=by omega
 have ac:(k:Int)<=(n:Int)+1:=by omega
 have ad:¬c=k+1:=by omega
 have ae:¬c=k:=by omega
 have af:((k:Int)+1).toNat=k+1:=by omega
 have p:Hid (d=w.drew.setRow g a):=m;have H:Hid (a=(b.toList.take ((k+1)*3)++n1++b.toList.drop ((k+1)*3+n1.length)).toArray):=r;have I:Hid (o=(a.toList.take (k*3)++kA x++a.toList.drop (k*3+(kA x).length)).toArray):=E;have R:Hid (n1=flat (es.drop k)):=l;have S:Hid (n1.length=(n-k)*3):=q;have T:Hid (d.heap[g]?=some (.cells a 96 (0,0))):=B;have U:Hid (b.toList.take (n*3)=flat es):=ht;have V:Hid (a.size=c*3):=A;have W:Hid (b.size=c*3):=h;have X:Hid (es.length=n):=hn;clear m r E l q B ht A h G hn s C hv hg;go_enter func193,ntmps193;go_wp2_with(simp only[N])
 go_region_law(refine ag rfl _ _ 55 55 rfl _ _ (by simp[Act.eval,Act.put]) (by simp[Act.eval,Act.put]) (O _ _ _) ?_)
 all_goals
  go_wp2_with(at_builtin;refine ah _ rfl _ _ 55 55 rfl _ _ rfl rfl (Q _ _) ?_);go_ret;have J:=V.out;have h:=W.out;have ai:=X.out;have hlk:(a.toList.take (k*3)).length=k*3:=by rw[Hc,kG,J];omega
  refine⟨g,c,rfl,⟨by rw[ib];simp;omega,.inr ⟨g,c,o,rfl,oY _,BX d g _ _ 96 _ T.out,L,by unfold maxLen;omega,?_,?_⟩⟩,?_,.inl rfl⟩
  ·rw[I.out]
   simp only[zO,jM,hlk,jl,kG,J,ui];omega
  ·rw[I.out]
   show List.take ((n+1)*3) (a.toList.take (k*3)++kA x++a.toList.drop (k*3+(kA x).length))=_;have h1:a.toList.take (k*3)=flat (es.take k):=by
    rw[H.out];show List.take (k*3) (b.toList.take ((k+1)*3)++n1++b.toList.drop ((k+1)*3+n1.length))=_;rw[iK,J6 (by rw[Hc,kG,h];omega),List.take_take,uN (by omega),sM es k (by omega),<-U.out,List.take_take,uN (by omega)]
   have h2:(a.toList.drop (k*3+(kA x).length)).take ((n-k)*3)=flat (es.drop k):=by
    rw[H.out];show List.take ((n-k)*3) (List.drop (k*3+(kA x).length) (b.toList.take ((k+1)*3)++n1++b.toList.drop ((k+1)*3+n1.length)))=_;have hl:(b.toList.take ((k+1)*3)).length=(k+1)*3:=by rw[Hc,kG,h];omega
    rw[show k*3+(kA x).length=(k+1)*3 by rw[ui];omega,iK,Nl hl,xJ S.out,R.out]
   rw[h1,gG,show flat (x::es.drop k)=kA x++flat (es.drop k)from rfl,<-iK,List.take_append,jH (by rw[jM,ib,ui,Hc];omega)]
   congr 1
   rw[show(n+1)*3-(flat (es.take k)++kA x).length=(n-k)*3 by rw[jM,ib,ui,Hc];omega];exact h2
  ·refine⟨by rw[p.out];rfl,by rw[p.out];rfl,by rw[p.out];rfl,by rw[p.out];simp,fun y aj hne=>?_⟩
   have K:y≠g:=fun e=>hne (by rw[e]);rw[xL d g y _ K,p.out,xL w.drew g y _ K];rfl
theorem JE(v:Value)(n a:Nat)(es:List eD)(x:eD)(w:World)(la:e5)(c:Nat)(u:v=.slice la n c)(l:w.ownsRow 0 96 3 v n (flat es))(hn:es.length=n)(NE:n<=16)
  (hv:w.heap[a]?=some (.cells #[.string x.1,ed x.2.1,ed x.2.2] 96 (0,0)))(C:n<=c)(y:c<=maxLen):
  eK 193 #[.slice la n c,ed (n:Int),.slice (some (eb a 0)) 1 1] w fun e w'=>qu w w' (Value.slice la n c).ownBlock n (es++[x]) e:=by
 subst u;obtain⟨m,hi,o,p,q⟩:=H4 uU;unfold maxLen at y;have r:Hid (w.ownsRow 0 96 3 (.slice la n c) n (flat es)):=l;have s:∀j b,(kA x)[j]?=some b->w.cell? (((eb a 0):Addr).add j)=some b:=fun j b hj=>by
  rw[Gq]
  match j,hj with
  |0,hj=>simpa [World.cell?,hv,kA]using hj
  |1,hj=>simpa [World.cell?,hv,kA]using hj
  |2,hj=>simpa [World.cell?,hv,kA]using hj
  |j+3,hj=>simp[kA]at hj
 have t:Hid (∀j b,(kA x)[j]?=some b->w.cell? (((eb a 0):Addr).add j)=some b):=s;clear l s hv;by_cases z:c=n
 ·subst z
  go_enter func193,ntmps193;go_wp2_with(first|(at_builtin;refine Gi _ rfl (.tmp 23) (.tmp 24) 55 rfl 0 96 m _ 3 32 underlying55 hi o p q rfl (by decide) (.slice la c c) c (flat es) rfl r.out (eb a 0) 1 1 (kA x) rfl rfl t.out (lL x) (by unfold maxLen;omega) (by omega) (oY _) ?_;intro A B d f _ i;obtain⟨g,k,rfl⟩:=ej d (by omega))|go_in);go_ret;refine⟨g,k,rfl,?_,f,?_⟩
  ·rw[gG];exact d
  ·rcases i with h|h
   ·exact .inl h
   ·right
    have:g=w.heap.size:=by simpa [Value.ownBlock]using h
    omega
 ·go_enter func193,ntmps193
  go_wp2_with(first|(at_builtin;refine Gi _ rfl (.tmp 23) (.tmp 24) 55 rfl 0 96 m _ 3 32 underlying55 hi o p q rfl (by decide) (.slice la n c) n (flat es) rfl r.out (eb a 0) 1 1 (kA x) rfl rfl t.out (lL x) (by unfold maxLen;omega) (by omega) (oY _) ?_;intro A B d f _ i;obtain⟨g,k,rfl⟩:=ej d (by omega))|go_in);go_ret;refine⟨g,k,rfl,?_,f,?_⟩
  ·rw[gG];exact d
  ·rcases i with h|h
   ·exact .inl h
   ·right
    have:g=w.heap.size:=by simpa [Value.ownBlock]using h
    omega
theorem wp_append_run(w:World){ops:Array Oper}{rest:List Oper}{o:Oper}{a:Act}{b:Exit->Act->World->Prop}(f:o.guard=none)(d s:Operand)(t t':fL)
  (ho:o.op=.call { callee:=.builtin .append,args:=#[d,s],argTypes:=#[t,t'] })(v c:Value)(hd:a.eval d=v)(hs:a.eval s=c){e:Value}
  (hr:(Builtin.append_ #[t,t'] o.type #[v,c]).run prog w=.ok e w')(h:wpList prog ops b rest (a.put o.dst e) w'):wpList prog ops b (o::rest) a w:=by
 refine Ki f fun K g=>?_;unfold Oper.wp execOp;simp only[ho,resolve,invoke,builtin,Qk,Qj,Qg,List.map_toArray,WF,r7,hd,hs,hr];exact g _ _ h
theorem qw(m:Nat):(Builtin.zeroCells (Value.agg #[.string ByteArray.empty,ed 0,ed 0]).cells m).size=m*3:=by
 rw[size_zeroCells];rfl
theorem OQ(g n k o:Nat)(es:List eD)(x:eD)(E:Array Value)(w:World)(hg:w.heap[g]?=some (.cells E 96 (0,0)))(hn:es.length=n)(hk:k<n)(NE:n<=16)(ab:E.size=n*3)(ht:E.toList.take (n*3)=flat es)
  (hv:w.heap[o]?=some (.cells #[.string x.1,ed x.2.1,ed x.2.2] 96 (0,0))):
  eK 193 #[.slice (some (eb g 0)) n n,ed (k:Int),.slice (some (eb o 0)) 1 1] w fun e w'=>qu w w' (some g) n (es.take k++x::es.drop k) e:=by
 obtain⟨R,hi,S,T,F⟩:=H4 uU;have ac:g<w.heap.size:=(lF.1 hg).1;have ad:o<w.heap.size:=(lF.1 hv).1;have G:∀j H,(flat es)[j]?=some H->w.cell? (eb g j)=some H:=fun j H hu=>by
  rw[<-ht,xG]at hu;split at hu
  ·simp[World.cell?,hg];simpa using hu
  ·cases hu
 have hold:(Builtin.firstCells R.size k (.slice (some (eb g 0)) k n)).run prog w.drew=.ok (flat (es.take k)).toArray w.drew:=by
  rw[T];exact run_firstCells_some w.drew 3 k (eb g 0) k n (flat (es.take k)) (by rw[ib,Hc];omega) (fun j v hj=>by
   rw[Gq,PH];rw[sM es k (by omega),xG]at hj;split at hj
   ·exact G j v hj
   ·cases hj)
 obtain⟨c,A⟩:∃c,c=grownCap w (n+1) n 96:=⟨_,rfl⟩;have ae:n+1<=c:=by rw[A];exact grownCap_ge w _ _ _
 have I:c<=maxLen:=by rw[A];exact grownCap_le_maxLen w (n+1) n 96 (by unfold maxLen;omega)
 obtain⟨i,B⟩:∃i:Array Value,i=(flat (es.take k)).toArray++Builtin.zeroCells (Value.agg #[.string ByteArray.empty,ed 0,ed 0]).cells (n+1-k)++Builtin.zeroCells (Value.agg #[.string ByteArray.empty,ed 0,ed 0]).cells (c-(n+1)):=⟨_,rfl⟩;have J:i.size=c*3:=by
  rw[B,Array.size_append,Array.size_append,qw,qw,zO,ib,Hc];omega
 have U:i.toList.take (k*3)=flat (es.take k):=by
  rw[B,Array.append_assoc,Array.toList_append];show List.take (k*3) (flat (es.take k)++_)=_;rw[xJ (by rw[ib,Hc];omega)]
 obtain⟨f,p⟩:∃f,f=w.drew.alloc (.cells i 96):=⟨_,rfl⟩;have af:∀l,(Builtin.append_ #[55,3] l #[.slice (some (eb g 0)) k n,ed ((n:Int)+1-(k:Int))]).run prog w=.ok (.slice (some (eb w.heap.size 0)) (n+1) c) f:=fun l=>by
  have V:k+(n+1-k)=n+1:=by omega
  have h:=Lib.run_append_grow_zeros w 55 3 l 96 R _ .i64 .i64 underlying55 underlying3 hi S (some (eb g 0)) k n (flat (es.take k)) hold (n+1-k) (by omega) (by omega) (by omega) (by omega) (by rw[F];omega) (by rw[F,V];exact growslice_fits (by omega) (by omega));rw[V]at h;rw[show(n:Int)+1-(k:Int)=((n+1-k:Nat):Int) by omega,h,p,B,A]
 have K:f.heap[w.heap.size]?=some (.cells i 96 (0,0)):=by rw[p];exact Array.getElem?_push_size
 have L:∀b,b<w.heap.size->f.heap[b]?=w.heap[b]?:=fun b ag=>by rw[p];exact jU _ _ _ ag
 obtain⟨d,C⟩:∃d:Array Value,d=(i.toList.take (k*3)++kA x++i.toList.drop (k*3+(kA x).length)).toArray:=⟨_,rfl⟩;have D:d.size=c*3:=by
  rw[C];simp only[zO,jM,Hc,jl,kG,J,ui];omega
 obtain⟨W2,q⟩:∃W2,W2=f.setRow w.heap.size d:=⟨_,rfl⟩;have ah:∀l dc,(Builtin.copy_ #[55,55] l #[.slice (some (eb w.heap.size (k*3))) (n+1-k) dc,.slice (some (eb o 0)) 1 1]).run prog f=.ok (goInt ((1:Nat):Int)) W2:=fun l dc=>by
  have hm:Nat.min 1 (n+1-k)=1:=by simp only[Nat.min_def];split<;>omega
  have M:=(L o ad).trans hv
  have:=lG (P:=prog) f 55 55 l 96 3 w.heap.size (k*3) (n+1-k) dc (eb o 0) 1 1 i 96 (kA x) underlying55 Cz K (by rw[hm];rfl)
   (fun j v hj=>by rw[Gq];match j,hj with
    |0,hj=>simpa [World.cell?,M,kA]using hj
    |1,hj=>simpa [World.cell?,M,kA]using hj
    |2,hj=>simpa [World.cell?,M,kA]using hj
    |j+3,hj=>simp[kA]at hj) (by rw[ui,J];omega) (lL x)
  rw[hm]at this;rw[this,q,C]
 have N:W2.heap[w.heap.size]?=some (.cells d 96 (0,0)):=by rw[q];exact BX f _ _ _ 96 _ K
 obtain⟨n1,s⟩:∃n1,n1=flat (es.drop k):=⟨_,rfl⟩;have t:n1.length=(n-k)*3:=by rw[s,ib,jl,hn]
 obtain⟨m,O⟩:∃m:Array Value,m=(d.toList.take ((k+1)*3)++n1++d.toList.drop ((k+1)*3+n1.length)).toArray:=⟨_,rfl⟩;have ai:∀l dc Q,(Builtin.copy_ #[55,55] l #[.slice (some (eb w.heap.size ((k+1)*3))) (n-k) dc,.slice (some (eb g (k*3))) (n-k) Q]).run prog W2.drew=.ok (goInt ((n-k:Nat):Int)) (W2.drew.setRow w.heap.size m):=fun l dc Q=>by
  have hm:Nat.min (n-k) (n-k)=n-k:=Nat.min_self _;have aj:W2.heap[g]?=w.heap[g]?:=by rw[q,xL f _ g _ (by omega),L g ac]
  have:=lG (P:=prog) W2.drew 55 55 l 96 3 w.heap.size ((k+1)*3) (n-k) dc (eb g (k*3)) (n-k) Q d 96 n1 underlying55 Cz N (by rw[hm];exact t)
   (fun j v hj=>by
    rw[Gq];show W2.cell? _=_;rw[ig (a:=(eb g (k*3+j))) aj];refine G _ _ ?_;rw[s,sN es k (by omega),J9]at hj;exact hj) (by rw[t,D];omega) (by rw[s];exact PQ _)
  rw[hm]at this;rw[this,O]
 have X:m.size=c*3/\m.toList.take ((n+1)*3)=flat (es.take k++x::es.drop k):=by
  have hl:(d.toList.take ((k+1)*3)).length=(k+1)*3:=by rw[Hc,kG,D];omega
  have h1:d.toList.take ((k+1)*3)=flat (es.take k)++kA x:=by
   rw[C];show List.take ((k+1)*3) (i.toList.take (k*3)++kA x++i.toList.drop (k*3+(kA x).length))=_;rw[U,xJ (by rw[jM,ib,ui,Hc];omega)]
  rw[O];refine⟨by simp only[zO,jM,hl,jl,kG,D,t];omega,?_⟩;show List.take ((n+1)*3) (d.toList.take ((k+1)*3)++n1++d.toList.drop ((k+1)*3+n1.length))=_;rw[xJ (by rw[jM,hl,t];omega),h1,s,gG,iK];rfl
 have ao:¬((k:Int)=(n:Int)):=by omega
 have ap:IntKind.i64.wrap ((k:Int)+1)=(k:Int)+1:=by rw[uP];omega
 have aq:(0:Int)<=(k:Int)+1:=by omega
 have ar:(k:Int)+1<=(n:Int)+1:=by omega
 have au:(k:Int)<=(n:Int)+1:=by omega
 have av:¬c=k+1:=by omega
 have aw:¬c=k:=by omega
 have ax:((k:Int)+1).toNat=k+1:=by omega
 have ay:¬n=k:=by omega
 have jY:k<=n:=by omega
 have az:c<=9223372036854775807:=by unfold maxLen at I;omega
 have u:Hid (f=w.drew.alloc (.cells i 96)):=p;have z:Hid (W2=f.setRow w.heap.size d):=q;have ak:Hid (W2.heap[w.heap.size]?=some (.cells d 96 (0,0))):=N;have Y:Hid _:=X;have al:Hid (c<=maxLen):=I;have am:Hid (es.length=n):=hn;clear p q C O s t K N X B J U hold L A G ht ab D hv hg I hi S T F hn;go_enter func193,ntmps193;go_wp2_with(first
  |(at_builtin;refine wp_append_run _ rfl _ _ _ _ rfl _ _ rfl rfl (af _) ?_)
  |(at_builtin;refine aA _ rfl _ _ 55 55 rfl _ _ rfl rfl (ah _ _) ?_))
 go_region_law(refine aB rfl _ _ 55 55 rfl _ _ (by simp[Act.eval,Act.put]) (by simp[Act.eval,Act.put]) (ai _ _ _) ?_)
 all_goals
  go_wp2;go_ret;have aC:=am.out;have Z:∀(W:World) (r:Array Value),(W.setRow w.heap.size r).heap.size=W.heap.size:=fun W r=>by simp
  refine⟨w.heap.size,c,rfl,⟨by rw[ib];simp;omega,.inr ⟨w.heap.size,c,m,rfl,oY _,BX W2.drew _ _ _ 96 _ ak.out,ae,al.out,Y.out.1,Y.out.2⟩⟩,?_,.inr (io _)⟩;refine⟨by rw[z.out,u.out];rfl,by rw[z.out,u.out];rfl,by rw[z.out,u.out];rfl,by rw[show(W2.drew.setRow w.heap.size m).heap.size=W2.heap.size from Z _ _,z.out,Z,u.out];show w.heap.size<=(w.alloc _).heap.size;rw[pL];omega,fun y an hne=>?_⟩;have aa:y≠w.heap.size:=by omega
  rw[xL W2.drew _ y _ aa];show W2.heap[y]?=_;rw[z.out,xL f _ y _ aa,u.out];exact jU w.drew _ _ an
theorem Re(b:w.ownsRow 0 96 3 v es.length (flat es))(NE:es.length<=16)(hk:k<=es.length){a:Nat}{x:eD}
  (hv:w.heap[a]?=some (.cells #[.string x.1,ed x.2.1,ed x.2.2] 96 (0,0)))(j:∀g,v.ownBlock=some g->a≠g):
  eK 193 #[v,ed (k:Int),.slice (some (eb a 0)) 1 1] w fun e w'=>qu w w' v.ownBlock es.length (es.take k++x::es.drop k) e:=by
 by_cases l:k=es.length
 ·subst l
  rw[uO,List.drop_length];rcases b.2 with⟨rfl,h0⟩|⟨g,c,d,rfl,_,hg,i,f,h,ht⟩
  ·have m:es=[]:=xF.1 h0
   subst m;exact JE (.slice none 0 0) 0 a [] x w none 0 rfl b rfl (by omega) hv (io _) (by unfold maxLen;omega)
  ·exact JE _ es.length a es x w (some (eb g 0)) c rfl b rfl NE hv i f
 ·rcases b.2 with⟨rfl,h0⟩|⟨g,c,d,rfl,_,hg,i,f,h,ht⟩
  ·omega
  ·by_cases hc:es.length+1<=c
   ·exact LD g es.length c k a es x d w hg rfl (by omega) hc f h ht hv (j g rfl)
   ·obtain rfl:c=es.length:=by omega
    exact OQ g es.length k a es x d w hg rfl (by omega) NE h ht hv
theorem gm.store(h:gm w b n f)(hq:Good q)(hn:n<maxLen)(ht:prog.underlying t=some (.map 147 e))(val:Value):
  ∃w',(Instr.mapUpdate t (.map (some b)) (.agg (et q)) val).run prog w=.ok () w'/\gm w' b (n+1) (upd f q (some val))/\w.grownBy w' (some b)/\w'.heap.size=w.heap.size:=by
 obtain⟨M,a,c,d⟩:=h;obtain⟨w',g,i,hg,hs⟩:=a.store rO ht hn (wF hq) (val:=val);refine⟨w',g,⟨_,i,fun p hp=>?_,fun kl hk hne=>?_⟩,hg,hs⟩
 ·by_cases e:p=q
  ·subst e;rw[iY,upd_same]
  ·rw[Hm (fun h=>e (nU hp hq h)),fx e,c p hp]
 ·by_cases e:kl=jo prog q
  ·exact⟨q,hq,e⟩
  ·rw[Hm e]at hne;exact d kl hk hne
theorem gm.drop(h:gm w b n f)(hq:Good q)(ht:prog.underlying t=some (.map 147 e))(a:fL):
  ∃w',(Builtin.delete_ #[t,147] a #[.map (some b),.agg (et q)]).run prog w=.ok (.tuple #[]) w'/\gm w' b n (upd f q none)/\w.grownBy w' (some b)/\w'.heap.size=w.heap.size:=by
 obtain⟨M,c,d,g⟩:=h;obtain⟨w',i,j,hg,hs⟩:=c.drop rO ht (wF hq) a;refine⟨w',i,⟨_,j,fun p hp=>?_,fun kl hk hne=>?_⟩,hg,hs⟩
 ·by_cases e:p=q
  ·subst e;rw[iY,upd_same]
  ·rw[Hm (fun h=>e (nU hp hq h)),fx e,d p hp]
 ·by_cases e:kl=jo prog q
  ·exact⟨q,hq,e⟩
  ·rw[Hm e]at hne;exact g kl hk hne
theorem gm.congr{f f':eB->Option Value}(h:gm w b n f)(hf:∀p,Good p->f p=f' p):gm w b n f':=by
 obtain⟨M,a,c,d⟩:=h;exact⟨M,a,fun p hp=>(c p hp).trans (hf p hp),d⟩
theorem gm.isMap(h:gm w b n f):∃es a,w.heap[b]?=some (.map es a):=by
 obtain⟨M,c,_⟩:=h;exact c.isMap
structure jK (ei:List Ob)(es:List eD):Prop where
 rising:eF es
 len:es.length<=16
 ok:∀e∈es,ez e.1=true/\jP ei e
section
variable {tg:eM}{w:World}{s i p:Nat}{B:WB}{ei:List Ob}{g:WG}{lim:Nat}{vD:eB->Value}
theorem jD.uw{t:Nat×Nat}{d:Array MapEntry}{f:Nat}(h:jD tg w t v es)(g:w.heap[b]?=some (.map d f))(hg:w.grownBy w' (some b)):jD tg w' t v es:=
 h.keep fun a c hl=>⟨hg.block a hl (fun e=>by
  have i:a=b:=by injection e
  rw[i]at c
  exact pu h.1 g c.symm),rfl⟩
theorem eZ.store{od:eB->Option (List eD)}(h:eZ tg w i B od lim vD)(hq:Good q)(hl:lim<maxLen)(o:jD tg w (i,5) v es)(d:jK ei es)
  (k:∀j es' gb,j≠q->od j=some es'->(vD j).ownBlock=some gb->v.ownBlock≠some gb):
  ∃w',(Instr.mapUpdate 162 (.map (some B.oD)) (.agg (et q)) v).run prog w=.ok () w'/\w.grownBy w' (some B.oD)/\w'.heap.size=w.heap.size/\eZ tg w' i B (upd od q (some es)) (lim+1) (upd vD q v):=by
 obtain⟨n,hn,hm⟩:=h.map;obtain⟨w',r,s,hg,hs⟩:=hm.store hq (Nat.lt_of_le_of_lt hn hl) underlying162 v;obtain⟨t,u,l⟩:=hm.isMap;refine⟨w',r,hg,hs,⟨h.tag,⟨n+1,by omega,s.congr (fun p hp=>?_)⟩,fun p fs hp=>?_,fun p fs hp=>?_,fun p f fs fs' gb hp g a b=>?_⟩⟩
 ·by_cases e:p=q
  ·subst e;rw[upd_same,upd_same,upd_same];rfl
  ·rw[fx e,fx e,fx e]
 ·by_cases e:p=q
  ·subst e
   rw[upd_same]at hp;cases hp;exact⟨hq,d.rising,d.len,fun e m=>⟨(d.ok e m).1,(d.ok e m).2.1⟩⟩
  ·rw[fx e]at hp;exact h.good p fs hp
 ·by_cases e:p=q
  ·subst e
   rw[upd_same]at hp ⊢;cases hp;exact o.uw l hg
  ·rw[fx e]at hp ⊢
   exact(h.row p fs hp).uw l hg
 ·by_cases e:p=q
  ·by_cases c:f=q
   ·rw[e,c]
   ·subst e
    rw[upd_same]at a;rw[fx c]at g b;exact absurd a (k f fs' gb c g b)
  ·by_cases c:f=q
   ·subst c
    rw[upd_same]at b;rw[fx e]at hp a;exact absurd b (k p fs gb e hp a)
   ·rw[fx e]at hp a
    rw[fx c]at g b;exact h.inj p f fs fs' gb hp g a b
theorem eH.od{a:Nat}{b:eB->Option (List eD)}{c:eB->Value}(h:eH tg w s i p B ei g lim)(m:eo (fun t=>t=(i,5)) tg ey w w')(hl:lim<=a)(hD:eZ ey w' i B b a c)(d:∀q es,b q=some es->∀e∈es,jP ei e):
  eH ey w' s i p B ei { g with ft:={ g.ft with od:=b } } a:=by
 have hi:=h.two;have hp:=h.wp;refine⟨h.two,(h.st.moves m (fun e=>by cases e) (fun e=>by cases e)).mono hl,⟨hp.tree.moves m (fun e=>by cases e),(hp.jE.moves m (fun e=>by cases e)).mono hl,(hp.jF.moves m (fun e=>by cases e)).mono hl,(hp.nY.moves m (fun e=>by cases e)).mono hl,⟨c,hD⟩,hp.files.moves m (fun e=>by cases e),hp.held,hp.opens.moves m (fun e=>by cases e) (fun e=>by cases e),⟨hp.ok.root,d⟩⟩⟩
end
theorem xz{od:eB->Option (List eD)}(h:eZ tg w i B od lim vD)(hq:Good q)(b:gS w W):
  (Instr.lookup 162 (.map (some B.oD)) (.agg (et q)) true).run prog W=.ok (.tuple #[((od q).map fun _=>vD q).getD (.slice none 0 0),.bool (od q).isSome]) W:=by
 obtain⟨n,_,M,a,c,_⟩:=h.map
 have:=(a.keep (w':=W) (b.block _ a.lt)).look_ok rO underlying162 (vu W) (wF hq)
 rw[c q hq]at this;rw[this];show Result.ok (Value.tuple #[_,Value.bool ((od q).map fun _=>vD q).isSome]) W=_;rw[Option.isSome_map]
theorem Be(t m:Nat)(a b c d e:eu)(v:Value)(w:World)(ht:t<w.heap.size)(c8:w.cell? (eb t 8)=some (.map (some m)))
  (hlk:∀W,gS w W->(Instr.lookup 162 (.map (some m)) (.agg (ii a b c d e)) true).run prog W=.ok (.tuple #[v,.bool true]) W):
  eK 192 #[fj t,.agg (ii a b c d e)] w (ml v w):=by
 have hl:=hlk _ (eQ ((i7 w.heap.size w).alloc (io _) (.cells (ii a b c d e) 147)));clear hlk;go_enter func192,ntmps192;go_wp2
 go_region
 all_goals
  go_wp2;go_ret;exact⟨rfl,eQ ((i7 _ _).alloc (io _) _)⟩
theorem yO(d:w.ownsRow 0 96 3 v es.length (flat es))(NE:es.length<=16):
  eK 170 #[v] w fun e w'=>∃b,e=.returned b/\w'.ownsRow 0 96 3 b es.length (flat es)/\(∀gb,b.ownBlock=some gb->w.heap.size<=gb)/\gS w w':=by
 rcases d.2 with⟨rfl,h0⟩|⟨g,c,k,rfl,_,hg,l,m,n,ht⟩
 ·have f:es=[]:=xF.1 h0
  subst f;refine(AnyE.slices_Clone_nil Nq 0 0 w).mono ?_;rintro e w' ⟨rfl,rfl⟩;exact⟨_,rfl,d,fun gb a=>by simp[Value.ownBlock]at a,i7 _ _⟩
 ·refine(xS g 0 es.length c es w rfl (by omega) (hh d)).mono ?_
  rintro e w' ⟨b,rfl,hr,_,h⟩;refine⟨b,rfl,ri hr,fun gb a=>?_,h⟩;rcases hr.2 with⟨e,_⟩|⟨i,o,_,e,j,_⟩
  ·rw[e]at a;simp[Value.ownBlock]at a
  ·rw[e]at a
   obtain rfl:i=gb:=by simpa [Value.ownBlock]using a
   exact j
theorem LF(hS:Sound ei)(c:S8 ei ft)(hr:∀p es,ft.od p=some es->eF es/\es.length<=16)(hv:∀p es,ft.od p=some es->∀e∈es,ez e.1=true)(fs:FS)(r:eB):jK ei (eT ei ft fs r).2.2:=by
 obtain⟨f1,d,f,g⟩:=sL hS c hr fs r;refine⟨f,g,fun e a=>⟨?_,d e a⟩⟩
 revert e
 unfold eT;by_cases h0:(findF ei ft fs r).2.1≠0
 ·simp only[fY h0];simp
 ·simp only[eJ h0]
  unfold ja;by_cases hk:(findF ei ft fs r).2.2.2.1≠2
  ·rw[fY hk];simp
  ·rw[eJ hk]
   by_cases hid:(findF ei ft fs r).2.2.2.2=0
   ·rw[fY hid]
    cases ho:ft.od r.reverse with
    |none=>simp
    |some es=>exact fun e a=>hv _ es ho e a
   ·rw[eJ hid]
    by_cases b:((findF ei ft fs r).1.fM (findF ei ft fs r).2.2.2.2).2=true
    ·rw[fY b]
     have a:=f1 (jq.1 h0);obtain⟨i,j,h⟩:=hS.2 _ ((a.2 hid).trans (jq.1 hk));exact fun e a=>(h e a).1
    ·rw[eJ b];simp
theorem eH.eG{s i p:Nat}(h:eH tg w s i p B ei g lim)(fs:FS)(r:eB):jK ei (eT ei g.ft fs r).2.2:=by
 obtain⟨vD,hD⟩:=h.wp.kX;exact LF h.st.sound h.wp.ok h.rising (fun p es a e hm=>((hD.good p es a).2.2.2 e hm).1) fs r
def jQ (tg:eM)(v:Value)(t:Nat×Nat):eM:=match v.ownBlock with
 |some b=>gY tg b t
 |none=>tg
theorem ji(h:v.ownBlock≠some k)(t:Nat×Nat):jQ tg v t k=tg k:=by
 unfold jQ;cases hv:v.ownBlock with
 |none=>rfl
 |some b=>exact jh (fun e=>h (by rw[hv,e])) _
theorem oQ(h:v.ownBlock=some k)(t:Nat×Nat):jQ tg v t k=t:=by
 unfold jQ;rw[h];exact oP _ _ _
section
variable {s i p:Nat}{B:WB}{ei:List Ob}
theorem mV.wu(hi:2<=i)(h:mV tg w i p B ei g lim)(hk:∀k,(tg k).1≠0->ey k=tg k):mV ey w i p B ei g lim:=by
 have key:∀{b:Nat} {t:Nat},tg b=(i,t)->ey b=(i,t):=fun {b t} e=>(hk b (by rw[e];show i≠0;omega)).trans e;have T6:∀{t:Nat} {v:Value} {es:List eD},jD tg w (i,t) v es->jD ey w (i,t) v es:=fun hr=>⟨hr.1,fun l m=>key (hr.2 l m)⟩;obtain⟨ht,hF,hD,oF,⟨vD,oD⟩,fl,held,op,ok⟩:=h;refine⟨⟨key ht.tt,key ht.tF,key ht.tD,ht.ht,ht.hF,ht.hD⟩,?_,?_,?_,⟨vD,key oD.tag,oD.map,oD.good,fun q es hq=>T6 (oD.row q es hq),oD.inj⟩,?_,held,⟨key op.tw,op.hw,op.past,?_,op.inj⟩,ok⟩
 ·obtain⟨a,b⟩:=hF;exact⟨key a,b⟩
 ·obtain⟨a,n,M,o,r,s,u,j⟩:=hD;exact⟨key a,n,M,o,r,s,u,fun id hid=>⟨(j id hid).1,T6 (j id hid).2⟩⟩
 ·obtain⟨a,b⟩:=oF;exact⟨key a,b⟩
 ·intro f id d hf
  obtain⟨a,b⟩:=fl f id d hf;exact⟨key a,b⟩
 ·intro k b f fg pl x
  obtain⟨a,c⟩:=op.at_ k b f fg pl x;exact⟨key a,c⟩
theorem eZ.wu{od:eB->Option (List eD)}(hi:2<=i)(h:eZ tg w i B od lim vD)(hk:∀k,(tg k).1≠0->ey k=tg k):eZ ey w i B od lim vD:=by
 have key:∀{b:Nat} {t:Nat},tg b=(i,t)->ey b=(i,t):=fun {b t} a=>(hk b (by rw[a];show i≠0;omega)).trans a;exact⟨key h.tag,h.map,h.good,fun q es hq=>⟨(h.row q es hq).1,fun c d=>key ((h.row q es hq).2 c d)⟩,h.inj⟩
theorem eH.wu(h:eH tg w s i p B ei g lim)(hf:gF ey w)(hk:∀k,(tg k).1≠0->ey k=tg k):eH ey w s i p B ei g lim:=
 ⟨h.two,h.st.wu hf (fun k h1=>hk k (by rw[h1];decide)),h.wp.wu h.two hk⟩
theorem CA(h:eH tg w s i p B ei g lim)(l:eZ tg w i B g.ft.od lim vD)(hl:lim<maxLen)(hq:Good q)(b:gS w W)(j:W.ownsRow 0 96 3 v es.length (flat es))(pN:∀gb,v.ownBlock=some gb->w.heap.size<=gb)(n:jK ei es):
  ∃w' ey,(Instr.mapUpdate 162 (.map (some B.oD)) (.agg (et q)) v).run prog W=.ok () w'/\W.grownBy w' (some B.oD)/\w'.heap.size=W.heap.size/\B.oD<w.heap.size/\eo (Mine i) tg ey w w'/\
   eH ey w' s i p B ei { g with ft:={ g.ft with od:=upd g.ft.od q (some es) } } (lim+1)/\eZ ey w' i B (upd g.ft.od q (some es)) (lim+1) (upd vD q v)/\∀gb,v.ownBlock=some gb->w'.heap[gb]?=W.heap[gb]?:=by
 have hi:=h.two;have hW:=h.below b;have hD:=l.moves (eo.ew (P:=fun _=>False) b) (fun x=>x);have o:∀gb,v.ownBlock=some gb->gb<W.heap.size:=fun gb a=>ee j a;have h0:∀gb,v.ownBlock=some gb->tg gb=(0,0):=fun gb a=>h.st.fresh gb (pN gb a);have hk:∀k,(tg k).1≠0->jQ tg v (i,5) k=tg k:=fun k hk=>ji (fun e=>hk (by rw[h0 k e])) _;have hf:gF (jQ tg v (i,5)) W:=fun k f=>by
  rw[ji (fun e=>by have:=o k e;omega)];exact hW.st.fresh k f
 have y:=hW.wu hf hk;have r:=hD.wu hi hk;have z:jD (jQ tg v (i,5)) W (i,5) v es:=⟨j,fun gb a=>oQ a _⟩;obtain⟨w',A,hg,hs,u⟩:=r.store (ei:=ei) hq hl z n (fun c es' gb _ ho C D=>by
  have h1:=(hD.row c es' ho).2 gb C;rw[h0 gb D]at h1;cases h1)
 have m:eo (fun t=>t=(i,5)) (jQ tg v (i,5)) (jQ tg v (i,5)) W w':=rx hg hs r.tag;obtain⟨K,_,E⟩:=hD.map;obtain⟨L,M,F⟩:=E.isMap;obtain⟨n1,_,G⟩:=l.map;refine⟨w',jQ tg v (i,5),A,hg,hs,G.lt,?_,y.od m (Hk _) u (fun c es' ho=>?_),u,fun gb a=>?_⟩
 ·have H:eo (Mine i) tg (jQ tg v (i,5)) w W:=⟨b.os,b.tape,b.output,b.size,fun k f=>ji (fun e=>by have:=pN k e;omega) _,fun k f _=>b.block k f,fun _=>hf⟩
  exact H.trans (m.mono (fun t ht=>.inr (by rw[ht])))
 ·by_cases e:c=q
  ·subst e
   have d:upd g.ft.od c (some es) c=some es':=ho;rw[upd_same]at d;cases d;exact fun e I=>(n.ok e I).2
  ·have d:upd g.ft.od q (some es) c=some es':=ho
   rw[fx e]at d;exact h.wp.ok.od c es' d
 ·refine hg.block gb (o gb a) (fun e=>?_)
  have J:gb=B.oD:=by injection e
  rw[J]at a;exact pu j F a.symm
theorem Bd.cells{base root:Int}(h:Bd tg w i p B base root):B.bt<w.heap.size/\w.cell? (eb B.bt 8)=some (.map (some B.oD))/\w.cell? (eb B.bt 7)=some (.map (some B.oF))/\w.cell? (eb B.bt 6)=some (ed root)/\(∀o,w.frozen? (eb B.bt o)=false):=
 ⟨(lF.1 h.ht).1,by simp[World.cell?,h.ht],by simp[World.cell?,h.ht],by simp[World.cell?,h.ht],fun o=>by simp[World.frozen?,h.ht]⟩
theorem eH.Rf(h:eH tg w s i p B ei g lim):eH tg (w.setCell (eb B.bt 6) (ed 0)) s i p B ei { g with ft:={ g.ft with root:=0 } } lim/\eo (fun t=>t=(i,1)) tg tg w (w.setCell (eb B.bt 6) (ed 0)):=by
 have hi:=h.two;have ht:=h.wp.tree;have m:eo (fun t=>t=(i,1)) tg tg w (w.setCell (eb B.bt 6) (ed 0)):=⟨rfl,rfl,rfl,by simp,fun _ _=>rfl,fun k hk hn=>ij _ _ _ _ (fun e=>hn (by rw[e];exact ht.tt)),fun hf k hk=>hf k (by simpa using hk)⟩;refine⟨⟨hi,h.st.moves m (fun e=>by cases e) (fun e=>by cases e;omega),⟨⟨ht.tt,ht.tF,ht.tD,?_,?_,?_⟩,h.wp.jE.moves m (fun e=>by cases e),h.wp.jF.moves m (fun e=>by cases e),h.wp.nY.moves m (fun e=>by cases e),?_,h.wp.files.moves m (fun e=>by cases e),h.wp.held,h.wp.opens.moves m (fun e=>by cases e) (fun e=>by cases e),⟨fun h0=>absurd rfl h0,h.wp.ok.od⟩⟩⟩,m⟩
 ·simp[World.setCell,xE,ht.ht]
 ·rw[ij _ _ _ _ (kI ht.hF ht.ht (by decide))];exact ht.hF
 ·rw[ij _ _ _ _ (kI ht.hD ht.ht (by decide))];exact ht.hD
 ·obtain⟨vD,hD⟩:=h.wp.kX
  exact⟨vD,hD.moves m (fun e=>by cases e)⟩
theorem rh(hg:w.grownBy w' (some b))(hc:c<w.heap.size)(hne:c≠b)(o:Nat):w'.cell? (eb c o)=w.cell? (eb c o):=ig (a:=(eb c o)) (hg.block c hc (fun e=>hne (by injection e)))
theorem LG(h:eH tg w s i p B ei g lim)(b:eZ tg w i B g.ft.od lim T5)(hl:lim+20<1099511627776)(ho:g.ft.od []=none)(l:eT ei g.ft g.fs []=(g.fs,0,es)):
  eK 192 #[fj B.bt,.agg (ii fy fy fy fy fy)] w fun O w'=>∃v,O=.returned v/\∃ey vD,eo (Mine i) tg ey w w'/\
   eH ey w' s i p B ei { g with ft:={ g.ft with od:=upd g.ft.od [] (some es),root:=0 } } (lim+10)/\eZ ey w' i B (upd g.ft.od [] (some es)) (lim+10) vD/\vD []=v/\∀q,q≠[]->vD q=T5 q:=by
 have a:=h.eG g.fs [];rw[l]at a;have a:jK ei es:=a;obtain⟨ht,c8,_,_,_⟩:=h.wp.tree.cells;have d:=eQ ((i7 w.heap.size w).alloc (io _) (.cells (ii fy fy fy fy fy) 147));have hlk:=xz b Good.nil d;rw[ho]at hlk;have hlk:(Instr.lookup 162 (.map (some B.oD)) (.agg (ii fy fy fy fy fy)) true).run prog ((w.alloc (.cells (ii fy fy fy fy fy) 147)).drew)=.ok (.tuple #[.slice none 0 0,.bool false]) ((w.alloc (.cells (ii fy fy fy fy fy) 147)).drew):=hlk;have f:=n4 (s:=s) (i:=i) (p:=p) (B:=B) (ei:=ei) [] tg _ g lim (h.below d) (by omega) Good.nil;rw[l]at f;have f:eK 131 #[fj B.bt,.agg (ii fy fy fy fy fy)] _ _:=f;have m:=fun W=>px W;have heq:∀W,(Op.equalIn 10000 147 (hP []) (hP [])).run prog W=.ok true W:=fun W=>by
  have:=sf Good.nil Good.nil W
  rw[jT rfl]at this;exact this
 unfold hP et at m heq;simp only[k8]at m heq;obtain⟨ae,_,C⟩:=b.map;have Q:w.heap.size≠B.oD:=by have:=C.lt;omega
 have R:lim+([]:eB).length+1<maxLen:=by show lim+0+1<maxLen;unfold maxLen;omega
 have n:Hid _:=h;have S:Hid _:=b;have D:Hid _:=d;have E:Hid _:=a;clear h b d a l ho C;go_enter func192,ntmps192;go_wp2
 go_region
 all_goals
  go_wp2_with(first
   |(go_at_call 131;refine f.mono ?_;rintro e w3 ⟨v,rfl,af,r,u,F⟩;have hS:=uu n.out.two n.out.st.fresh r;have ag:=hS.cell (io _) (by simp[World.drew]);have G:w.heap.size<w3.heap.size:=kv (by simp[World.drew]) hS.1;obtain⟨ah,ai,_,_,_⟩:=u.wp.tree.cells;have T:Hid _:=u;have H:Hid _:=r;have U:Hid _:=F;clear u r F hS)
   |(go_at_call 170;go_loud(refine(yO U.out.1 E.out.len).mono ?_;rintro e V ⟨y,rfl,I,pN,j⟩;obtain⟨aj,ak⟩:=gc j;obtain⟨w5,MR,J,K,X,al,L,z,M,am⟩:=CA (q:=[]) T.out (((S.out.moves (eo.ew (P:=fun _=>False) D.out) (fun x=>x)).moves H.out (by rintro(h|h|h)<;>cases h;exact absurd n.out.two (by decide))).mono (by omega)) R Good.nil (eQ j) I pN E.out;have k5:=rh (c:=w.heap.size) K (kv G j.size) Q;obtain⟨an,_,_,ao,f5⟩:=z.wp.tree.cells;have J:(Instr.mapUpdate 162 (.map (some B.oD)) (.agg (ii fy fy fy fy fy)) y).run prog V.drew=.ok () w5:=J;have Y:w.heap.size<w5.heap.size:=kv (kv G j.size) (xM X.symm);have Z:Hid _:=z;have aa:Hid _:=L;have ab:Hid _:=M;clear z L M I pN K)))
  go_region
  all_goals
   go_wp2
   go_region_with(go_at_call 75;refine(m _).mono ?_;rintro e w6 ⟨rfl,k⟩;have ap:∀o,w6.cell? (eb w.heap.size o)=w5.cell? (eb w.heap.size o):=fun o=>(gc k).1 _ _ Y;have A:=Z.out.below (em (eQ (i7 _ _)) k);obtain⟨aq,_,_,ar,f66⟩:=A.wp.tree.cells;have ac:Hid _:=A;clear A)
   all_goals
    go_wp2;go_ret;obtain⟨ad,N⟩:=ac.out.Rf;refine⟨y,rfl,MR,upd T5 [] y,?_,ad.mono (by simp only[td];omega),?_,upd_same _ _ _,fun q hq=>fx hq _⟩
    ·exact((jn D.out H.out).mono (fun _ h=>h.mine)).trans (aa.out.trans ((eo.ew (em (eQ (i7 _ _)) k)).trans (N.mono (fun t ht=>.inr (by rw[ht])))))
    ·exact(((ab.out.moves (eo.ew (P:=fun _=>False) (em (eQ (i7 _ _)) k)) (fun x=>x)).moves N (fun e=>by cases e)).mono (by simp only[td];omega))
end
theorem LH(hi:2<=i)(h2:k≠2)(h3:k≠3):¬fo i (i,k):=by
 rintro(h|h|h)
 ·have h':i=1:=h
  omega
 ·cases h;exact h2 rfl
 ·cases h;exact h3 rfl
theorem kO{n:eu}(ht:g9 es n=true):∃h:mr es n<es.length,(es[mr es n]).1=n:=by
 have nD:=nL ht;refine⟨nD,?_⟩;unfold g9 at ht;rw[gJ nD]at ht;simpa using ht
theorem yP{n:eu}(ht:g9 es n=true)(v:Int×Int):n7 es n v=es.set (mr es n) (n,v):=by
 unfold n7;rw[fY ht]
theorem EK(hr:eF es){n:eu}(ht:g9 es n=true)(nD:mr es n<es.length):es.set (mr es n) (n,(es[mr es n]).2.1,0)=gy es n:=by
 apply List.ext_getElem
 ·simp[gy]
 ·intro j h1 h2
  have hj:j<es.length:=by simpa using h1
  rw[BW];rw[show(gy es n)[j]'h2=(if(es[j]).1=n then((es[j]).1,(es[j]).2.1,(0:Int))else es[j])from by simp[gy]];obtain⟨_,hn⟩:=kO ht;by_cases e:mr es n=j
  ·subst e
   rw[fY rfl,fY hn,hn]
  ·rw[eJ e,eJ]
   intro c;rcases Nat.lt_or_gt_of_ne e with h|h
   ·have:=ru hr (a:=mr es n) (b:=j) hj h
    rw[hn,c,QQ]at this;omega
   ·have:=ru hr (a:=j) (b:=mr es n) nD h
    rw[hn,c,QQ]at this;omega
theorem Bf(hk:k<es.length)(e:eD):(((flat es).set (k*3) (.string e.1)).set (k*3+1) (ed e.2.1)).set (k*3+2) (ed e.2.2)=flat (es.set k e):=by
 apply Gd;intro j;have a:(flat es).length=es.length*3:=ib es;by_cases hj:j<es.length*3
 ·obtain⟨q,t,ht,rfl⟩:∃q t,t<3/\j=q*3+t:=⟨j / 3,j % 3,Nat.mod_lt _ (by decide),by omega⟩
  have hq:q<es.length:=by omega
  rw[xp (es.set k e) q t (by simpa using hq) ht,BW];by_cases b:k=q
  ·subst b
   rw[fY rfl];simp only[List.getElem?_set,List.length_set,a];rcases(show t=0\/t=1\/t=2 by omega)with rfl|rfl|rfl
   ·rw[eJ (by omega),eJ (by omega),fY (by omega),fY (by omega)];rfl
   ·rw[eJ (by omega),fY (by omega),fY (by omega)];rfl
   ·rw[fY (by omega),fY (by omega)];rfl
  ·rw[eJ b,s9 (by omega),s9 (by omega),s9 (by omega),xp es q t hq ht]
 ·rw[mG (by simp only[List.length_set,a];omega),mG (by rw[ib,List.length_set];omega)]
theorem LI(hk:k<es.length)(id:Int):(flat es).set (k*3+2) (ed id)=flat (es.set k ((es[k]).1,(es[k]).2.1,id)):=by
 rw[<-Bf hk];have h0:(flat es).set (k*3) (.string (es[k]).1)=flat es:=by
  have:=xp es k 0 hk (by decide)
  apply Gd;intro j;rw[List.getElem?_set];by_cases e:k*3=j
  ·subst e
   rw[fY rfl,fY (by rw[ib];omega)];simpa [kA]using this.symm
  ·rw[eJ e]
 have h1:(flat es).set (k*3+1) (ed (es[k]).2.1)=flat es:=by
  have:=xp es k 1 hk (by decide)
  apply Gd;intro j;rw[List.getElem?_set];by_cases e:k*3+1=j
  ·subst e
   rw[fY rfl,fY (by rw[ib];omega)];simpa [kA]using this.symm
  ·rw[eJ e]
 rw[h0,h1]
section
variable {s i p:Nat}{B:WB}{ei:List Ob}
theorem eZ.rewrite{od:eB->Option (List eD)}(h:eZ tg w i B od lim vD)(ho:od q=some es)(f:(vD q).ownBlock=some gb)(hg:w.grownBy w' (some gb))
  (m:w'.ownsRow 0 96 3 (vD q) es'.length (flat es'))(a:jK ei es'):eZ tg w' i B (upd od q (some es')) lim vD:=by
 obtain⟨n,hn,hm⟩:=h.map;obtain⟨v,x,o⟩:=hm.isMap;have hne:B.oD≠gb:=fun e=>pu (h.row q es ho).1 (e▸o) f.symm;refine⟨h.tag,⟨n,hn,(hm.keep (hg.block _ hm.lt (fun e=>hne (by injection e)))).congr (fun p hp=>?_)⟩,fun p fs hp=>?_,fun p fs hp=>?_,fun p b fs fs' r hp g s t=>?_⟩
 ·by_cases e:p=q
  ·subst e;rw[upd_same,ho];rfl
  ·rw[fx e]
 ·by_cases e:p=q
  ·subst e
   rw[upd_same]at hp;cases hp;exact⟨(h.good p es ho).1,a.rising,a.len,fun e j=>⟨(a.ok e j).1,(a.ok e j).2.1⟩⟩
  ·rw[fx e]at hp;exact h.good p fs hp
 ·by_cases e:p=q
  ·subst e
   rw[upd_same]at hp;cases hp;exact⟨m,(h.row p es ho).2⟩
  ·rw[fx e]at hp
   have hr:=h.row p fs hp;exact hr.keep (fun k l hl=>⟨hg.block k hl (fun e2=>by
    have u:k=gb:=by injection e2
    rw[u]at l;exact e (h.inj p q fs es gb hp ho l f)),rfl⟩)
 ·have c:∃f1,od p=some f1:=by
   by_cases e:p=q
   ·rw[e];exact⟨es,ho⟩
   ·rw[fx e]at hp;exact⟨fs,hp⟩
  have d:∃f2,od b=some f2:=by
   by_cases e:b=q
   ·rw[e];exact⟨es,ho⟩
   ·rw[fx e]at g;exact⟨fs',g⟩
  obtain⟨f1,c⟩:=c;obtain⟨f2,d⟩:=d;exact h.inj p b f1 f2 r c d s t
theorem LJ(h:jK ei es)(n:eu):jK ei (gy es n):=by
 refine⟨?_,by unfold gy;rw[kU];exact h.len,fun e c=>?_⟩
 ·unfold eF gy
  rw[zR];refine h.rising.imp fun {a b} hab=>?_
  have e:∀x:eD,(if x.1=n then(x.1,x.2.1,(0:Int))else x).1=x.1:=fun x=>by split<;>rfl
  rw[e,e];exact hab
 ·unfold gy at c
  obtain⟨x,hx,rfl⟩:=H3.1 c;obtain⟨h1,h2⟩:=h.ok x hx;by_cases e:x.1=n
  ·rw[fY e];exact⟨h1,h2.1,fun h0=>absurd rfl h0⟩
  ·rw[eJ e];exact⟨h1,h2⟩
theorem eH.eR(h:eH tg w s i p B ei g lim)(ho:g.ft.od q=some es):jK ei es:=by
 obtain⟨vD,hD⟩:=h.wp.kX;obtain⟨_,h1,h2,h3⟩:=hD.good q es ho;exact⟨h1,h2,fun e a=>⟨(h3 e a).1,h.wp.ok.od q es ho e a⟩⟩
theorem Bg(h:eH tg w s i p B ei g lim)(hD:eZ tg w i B g.ft.od lim vD){n:eu}{gb j c:Nat}(ho:g.ft.od q=some es)(hv:vD q=.slice (some (eb gb 0)) j c)(ht:g9 es n=true):
  eH tg (w.setCell (eb gb (mr es n*3+2)) (ed 0)) s i p B ei { g with ft:={ g.ft with od:=upd g.ft.od q (some (gy es n)) } } lim/\eZ tg (w.setCell (eb gb (mr es n*3+2)) (ed 0)) i B (upd g.ft.od q (some (gy es n))) lim vD/\eo (fun t=>t=(i,5)) tg tg w (w.setCell (eb gb (mr es n*3+2)) (ed 0)):=by
 have k:=h.eR ho;obtain⟨nD,hn⟩:=kO ht;have l:=hD.row q es ho;have o:(vD q).ownBlock=some gb:=by rw[hv];rfl
 have hg:w.grownBy (w.setCell (eb gb (mr es n*3+2)) (ed 0)) (some gb):=lj (pp _ _);have r:=LJ k n;have d:=l.1;rw[hv]at d;have x:j=es.length:=by
  rcases d.2 with⟨e,_⟩|⟨A,C,_,e,_⟩
  ·cases e
  ·cases e;rfl
 subst x;have f:=(d.stored (mr es n*3+2) (ed 0)).1;have y:(flat es).set (mr es n*3+2) (ed 0)=flat (gy es n):=by
  rw[LI nD,hn,EK k.rising ht nD]
 rw[y]at f;have u:=hD.rewrite (ei:=ei) ho o hg (by rw[hv];unfold gy at f ⊢;rw[kU];exact f) r;have m:eo (fun t=>t=(i,5)) tg tg w (w.setCell (eb gb (mr es n*3+2)) (ed 0)):=rx hg (by simp) (l.2 gb o);refine⟨h.od m (io _) u (fun a es' v=>?_),u,m⟩;by_cases e:a=q
 ·subst e
  have b:upd g.ft.od a (some (gy es n)) a=some es':=v;rw[upd_same]at b;cases b;exact fun e z=>(r.ok e z).2
 ·have b:upd g.ft.od q (some (gy es n)) a=some es':=v
  rw[fx e]at b;exact h.wp.ok.od a es' b
def OS (s i p:Nat)(B:WB)(ei:List Ob)(r:eB):Prop:=∀(tg:eM) (w:World) (g:WG) (lim:Nat) (K:eB->List eD) (vD:eB->Value),eH tg w s i p B ei g lim->eZ tg w i B g.ft.od lim vD->lim+20*(r.length+2)<1099511627776->Good r.reverse->fN ei g.fs g.ft K r.reverse->
 Calls prog 192 #[.pointer (some ⟨B.bt,0,none⟩),.agg (et r.reverse)] w fun b w'=>∃v,b=.returned v/\∃ey a,eo (Mine i) tg ey w w'/\
  eH ey w' s i p B ei { g with ft:=ln ei g.fs g.ft r } (lim+20*(r.length+1))/\eZ ey w' i B (ln ei g.fs g.ft r).od (lim+20*(r.length+1)) a/\a r.reverse=v/\∀q,¬q <+: r.reverse->a q=vD q
theorem EL{n:eu}(h:fN ei fs ft K (q++[n])):fN ei fs { ft with od:=upd ft.od (q++[n]) (some (K (q++[n]))) } K q:=by
 have nA:∀x,x <+: q->x <+: q++[n]:=fun x hx=>hx.trans (kV _ _);have hne:∀x,x <+: q->x≠q++[n]:=fun x hx e=>by
  have:=hx.length_le
  rw[e]at this;simp at this;omega
 have h0:fN ei fs ft K q:=⟨fun x hx=>h.look x (nA x hx),fun x hx=>h.own x (nA x hx),fun x m hx=>h.up x m (nA _ hx),h.root⟩;exact h0.congr rfl (fun x hx=>fx (hne x hx) _)
theorem LK{n:eu}(h:fN ei fs ft K (q++[n]))(hr:eF (K q)):g9 (K q) n=true:=by
 have h1:=h.look (q++[n]) (mB _);have h2:=h.look q (kV _ _);rw[List.reverse_append]at h1;have a:eT ei ft fs (n::q.reverse)=(fs,0,K (q++[n])):=h1;have hf:(findF ei ft fs (n::q.reverse)).2.1=0:=by
  unfold eT at a;by_cases h0:(findF ei ft fs (n::q.reverse)).2.1≠0
  ·simp only[fY h0]at a
   exact absurd (rp (fun z=>z.2.1) a) h0
  ·exact jq.1 h0
 rw[iL,h2]at hf;simp only at hf;rw[eJ (by decide)]at hf;cases hg:l5 (K q) n with
 |none=>rw[hg]at hf;simp at hf
 |some c=>
  have:=l6 (n:=n) hr
  rw[hg]at this;cases ht:g9 (K q) n with
  |true=>rfl
  |false=>rw[ht]at this;simp at this
theorem OT(hi:2<=i):¬Mine i (0,0):=by
 rintro(h|h)
 ·cases h
 ·have h':(0:Nat)=i:=h
  omega
theorem sO{gb n c m:Nat}{xs:fE}(h:w.ownsRow 0 96 3 (.slice (some (eb gb 0)) n c) m xs)(o:Nat):w.frozen? (eb gb o)=false:=by
 rcases h.2 with⟨e,_⟩|⟨b,d,f,e,_,a,_⟩
 ·cases e
 ·cases e;simp[World.frozen?,a]
theorem Bh(h:w.ownsRow 0 96 3 (.slice (some (eb gb 0)) n c) n (flat es))(nD:ix<es.length):w.cell? (eb gb (ix*3+2))=some (ed (es[ix]).2.2):=
 (sK (b:=gb) (fun j a hu=>by have:=hh h j a hu;rwa [PH]at this) nD).2.2
theorem py(hi:2<=i)(m:eo (Mine i) tg ey w w')(c:b<w.heap.size)(ht:tg b=(0,0))(o:Nat):w'.cell? (eb b o)=w.cell? (eb b o):=
 ig (a:=(eb b o)) (m.block _ c (by rw[ht];exact OT hi))
theorem OU(n:eu)(r:eB)(Ag:OS s i p B ei r)(h:eH tg w s i p B ei g lim)(M:eZ tg w i B g.ft.od lim T5)(hl:lim+20*(r.length+3)<1099511627776)
  (hq:Good (r.reverse++[n]))(D:fN ei g.fs g.ft K (r.reverse++[n]))(ho:g.ft.od (r.reverse++[n])=none):
  eK 192 #[fj B.bt,.agg (et (r.reverse++[n]))] w fun X w'=>∃v,X=.returned v/\∃ey j,eo (Mine i) tg ey w w'/\
   eH ey w' s i p B ei { g with ft:=ln ei g.fs g.ft (n::r) } (lim+20*((n::r).length+1))/\eZ ey w' i B (ln ei g.fs g.ft (n::r)).od (lim+20*((n::r).length+1)) j/\j (r.reverse++[n])=v/\∀q,¬q <+: (r.reverse++[n])->j q=T5 q:=by
 have Y:=D.look _ (mB _);rw[List.reverse_append,nu]at Y;have N:eT ei g.ft g.fs (n::r)=(g.fs,0,K (r.reverse++[n])):=Y;have bs:r.length<=4:=by have:=hq.len;simp at this;omega
 have hq':Good r.reverse:=by have:=hq.dropLast;rwa [oy]at this
 have E:=h.eG g.fs (n::r);rw[N]at E;have E:jK ei (K (r.reverse++[n])):=E;have ap:=D.look r.reverse (kV _ _);have k:=h.eG g.fs r.reverse.reverse;rw[ap]at k;have k:jK ei (K r.reverse):=k;have Z:=LK D k.rising;have aa:=EL D;obtain⟨aX,aY,f⟩:=sr (r:=r) aa;have aq:ln ei g.fs g.ft (n::r)={ ln ei g.fs { g.ft with od:=upd g.ft.od (r.reverse++[n]) (some (K (r.reverse++[n]))) } r with od:=upd (ln ei g.fs { g.ft with od:=upd g.ft.od (r.reverse++[n]) (some (K (r.reverse++[n]))) } r).od r.reverse (some (gy (K r.reverse) n)) }:=by
  rw[ln];have aZ:(n::r).reverse=r.reverse++[n]:=nC;rw[aZ,ho,eJ (by decide),N];have l:=f r.reverse;rw[fY (mB _)]at l;have e2:zK K r.reverse r.reverse=K r.reverse:=by unfold zK;rw[mG (io _)]
  rw[e2]at l;show(FT.mk _ (upd _ _ (some (gy (((ln ei g.fs { g.ft with od:=upd g.ft.od (r.reverse++[n]) (some (K (r.reverse++[n]))) } r).od r.reverse).getD []) n))) _)=_;rw[l];rfl
 have ar:(ln ei g.fs { g.ft with od:=upd g.ft.od (r.reverse++[n]) (some (K (r.reverse++[n]))) } r).od r.reverse=some (K r.reverse):=by
  have l:=f r.reverse;rw[fY (mB _)]at l;have e2:zK K r.reverse r.reverse=K r.reverse:=by unfold zK;rw[mG (io _)]
  rw[e2]at l;exact l
 have D1:¬(r.reverse++[n]) <+: r.reverse:=fun hx=>by have:=hx.length_le;simp at this;omega
 obtain⟨ht,c8,_,_,_⟩:=h.wp.tree.cells;have F:=eQ ((i7 w.heap.size w).alloc (io _) (.cells (et (r.reverse++[n])) 147));have hlk:=xz M hq F;rw[ho]at hlk;have ab:=n4 (s:=s) (i:=i) (p:=p) (B:=B) (ei:=ei) (n::r) tg _ g lim (h.below F) (by omega) (by rw[nC];exact hq);rw[N,nC]at ab;have O:=fun W=>px W;have heq:∀W,(Op.equalIn 10000 147 (hP (r.reverse++[n])) (hP [])).run prog W=.ok false W:=fun W=>by
  have:=sf hq Good.nil W
  rw[m6 (by simp)]at this;exact this
 have Q:=fun W=>xr (r.reverse++[n]) hq W;have R:=fun W=>iB (r.reverse++[n]) hq (by simp) W;rw[oy]at Q;simp only[BQ]at R;have ac:∀(tg:eM) (w:World) (g:WG) (lim:Nat) (K:eB->List eD) (vD:eB->Value),eH tg w s i p B ei g lim->eZ tg w i B g.ft.od lim vD->lim+20*(r.length+2)<1099511627776->fN ei g.fs g.ft K r.reverse->eK 192 #[fj B.bt,.agg (et r.reverse)] w fun X w'=>∃v,X=.returned v/\∃ey j,eo (Mine i) tg ey w w'/\
  eH ey w' s i p B ei { g with ft:=ln ei g.fs g.ft r } (lim+20*(r.length+1))/\eZ ey w' i B (ln ei g.fs g.ft r).od (lim+20*(r.length+1)) j/\j r.reverse=v/\∀q,¬q <+: r.reverse->j q=vD q:=fun tg w g lim K vD a b c d=>Ag tg w g lim K vD a b c hq' d
 obtain⟨m,u,y,z,A,G⟩:∃m u y z A,et (r.reverse++[n])=(ii m u y z A):=⟨_,_,_,_,_,rfl⟩;obtain⟨bt,bu,bv,bw,bx,au⟩:∃m u y z A,et r.reverse=(ii m u y z A):=⟨_,_,_,_,_,rfl⟩;unfold hP at O heq Q R;rw[G]at hlk ab F;simp only[G,au]at heq Q R ac;rw[G];unfold et at O heq;simp only[k8]at O heq;have bz:(Instr.lookup 162 (.map (some B.oD)) (.agg (ii m u y z A)) true).run prog ((w.alloc (.cells (ii m u y z A) 147)).drew)=.ok (.tuple #[.slice none 0 0,.bool false]) ((w.alloc (.cells (ii m u y z A) 147)).drew):=hlk;obtain⟨bA,_,av⟩:=M.map;have a0:w.heap.size≠B.oD:=by have:=av.lt;omega
 have a1:lim+(n::r).length+1<maxLen:=by rw[gK];unfold maxLen;omega
 have a2:lim+(n::r).length+1+1+20*(r.length+2)<1099511627776:=by rw[gK];omega
 obtain⟨nD,aw⟩:=kO Z;have NE:=k.len;have a3:Hid _:=G;have H:Hid _:=h;have a4:Hid _:=M;have ax:Hid _:=F;have ay:Hid _:=E;have az:Hid _:=k;have a5:Hid _:=ac;have a6:Hid _:=aa;have aA:Hid _:=aq;have ad:Hid _:=ar;have aB:Hid _:=Z;have bB:Hid _:=aw;have a7:Hid _:=D1;clear h M F E N Y ho av hlk G au k ac D aa aX aY f aq ar Z aw D1 ap Ag;generalize aC:mr (K r.reverse) n=ix at nD;have aD:Hid (mr (K r.reverse) n=ix):=aC;clear aC;go_enter func192,ntmps192;go_wp2
 go_region
 all_goals
  go_wp2_with(first
   |(go_at_call 131;refine ab.mono ?_;rintro e w3 ⟨v,rfl,a8,f,ae,aE⟩;have hS:=uu H.out.two H.out.st.fresh f;have bC:=hS.cell (io _) (by simp[World.drew]);have af:w.heap.size<w3.heap.size:=kv (by simp[World.drew]) hS.1;have a9:a8 w.heap.size=(0,0):=(f.tags _ (by simp[World.drew])).trans (H.out.st.fresh _ (io _));obtain⟨bD,bE,_,_,_⟩:=ae.wp.tree.cells;have bb:Hid _:=ae;have aF:Hid _:=f;have bc:Hid _:=aE;clear ae f aE hS)
   |(go_at_call 170;go_loud(refine(yO bc.out.1 ay.out.len).mono ?_;rintro e bF ⟨bd,rfl,aG,pN,S⟩;obtain⟨bG,bH⟩:=gc S;obtain⟨w5,MR,be,aH,bf,bI,ag,ah,aI,bJ⟩:=CA (q:=r.reverse++[n]) bb.out (((a4.out.moves (eo.ew (P:=fun _=>False) ax.out) (fun x=>x)).moves aF.out (LH H.out.two (by decide) (by decide))).mono (by omega)) a1 hq (eQ S) aG pN ay.out;have k5:=rh (c:=w.heap.size) aH (kv af S.size) a0;obtain⟨bK,_,_,bL,f5⟩:=ah.wp.tree.cells;rw[a3.out]at be;have aJ:w.heap.size<w5.heap.size:=kv (kv af S.size) (xM bf.symm);have bg:MR w.heap.size=(0,0):=(ag.tags _ af).trans a9;have bh:Hid _:=ah;have bi:Hid _:=ag;have bj:Hid _:=aI;clear ah ag aI aG pN aH)))
  go_region
  all_goals
   go_wp2
   go_region_with(go_at_call 75;refine(O _).mono ?_;rintro e w6 ⟨rfl,ai⟩;have bM:∀o,w6.cell? (eb w.heap.size o)=w5.cell? (eb w.heap.size o):=fun o=>(gc ai).1 _ _ aJ;have aK:w.heap.size<w6.heap.size:=kv aJ ai.size;have aj:=em (eQ (i7 w5.heap.size w5)) ai)
   all_goals
    go_wp2_with(first
     |(go_at_call 132;refine(Q _).mono ?_;rintro e ak ⟨rfl,I⟩;have bN:∀o,ak.cell? (eb w.heap.size o)=w6.cell? (eb w.heap.size o):=fun o=>(gc I).1 _ _ aK;have aL:w.heap.size<ak.heap.size:=kv aK I.size)
     |(go_at_call 192;go_loud(refine(a5.out MR ak _ _ K _ (bh.out.below (em aj I)) (bj.out.moves (eo.ew (P:=fun _=>False) (em aj I)) (fun x=>x)) a2 a6.out).mono ?_;rintro e T ⟨bO,rfl,bk,bl,U,aM,V,aN,aO⟩;obtain⟨gb,bQ,al⟩:=ej (V.row _ _ ad.out).1 (by omega);have C:=V.row _ _ ad.out;rw[al]at aN C;subst aN;have bR:=py H.out.two U aL bg;have bS:w.heap.size<T.heap.size:=kv aL U.size;have am:gb<T.heap.size:=ee C.1 rfl;have bT:=Bh C.1 nD;have bU:=sO C.1 (ix*3+2);have bm:Hid _:=aM;have bn:Hid _:=U;have bo:Hid _:=V;have aP:Hid _:=C;have bp:Hid _:=al;have aQ:Hid _:=aO;clear aM U V C al aO))
     |(go_at_call 134;refine(R _).mono ?_;rintro e J ⟨rfl,L⟩;have bV:J.cell? (eb gb (ix*3+2))=T.cell? (eb gb (ix*3+2)):=(gc L).1 _ _ am;have f9:J.frozen? (eb gb (ix*3+2))=T.frozen? (eb gb (ix*3+2)):=(gc L).2 _ _ am;have aR:gb<J.heap.size:=kv am L.size)
     |(go_at_call 133;go_loud(refine(H0 (eh aP.out.1 (fun bq br=>L.block bq (ee aP.out.1 br))) n az.out.rising az.out.len).mono ?_;rintro e aS ⟨rfl,an⟩;rw[aD.out,aB.out];have bW:aS.cell? (eb gb (ix*3+2))=J.cell? (eb gb (ix*3+2)):=(gc an).1 _ _ aR;have f10:aS.frozen? (eb gb (ix*3+2))=J.frozen? (eb gb (ix*3+2)):=(gc an).2 _ _ aR)))
    go_ret;have ao:=em L an;obtain⟨aT,aU,aV⟩:=Bg (bm.out.below ao) (bo.out.moves (eo.ew (P:=fun _=>False) ao) (fun x=>x)) ad.out bp.out aB.out;rw[aD.out]at aT aU aV;have aW:lim+(n::r).length+1+1+20*(r.length+1)<=lim+20*((n::r).length+1):=by rw[gK];omega
    refine⟨bd,rfl,bk,bl,?_,?_,?_,?_,fun q Ny=>?_⟩
    ·exact((jn ax.out aF.out).mono (fun _ h=>h.mine)).trans (bi.out.trans ((eo.ew (em aj I)).trans (bn.out.trans ((eo.ew ao).trans (aV.mono (fun t ht=>.inr (by rw[ht])))))))
    ·rw[aA.out];exact aT.mono aW
    ·rw[aA.out];exact aU.mono aW
    ·rw[aQ.out _ a7.out,upd_same]
    ·rw[aQ.out q (fun h=>Ny (h.trans (kV _ _))),fx (fun e:q=r.reverse++[n]=>Ny (by rw[e];exact mB _))]
theorem n5:∀r:eB,OS s i p B ei r
 |[]=>by
  intro tg w g lim K vD h hD hl hq c
  by_cases ho:(g.ft.od []).isSome=true
  ·obtain⟨es,d⟩:=Qr.1 ho
   have b:ln ei g.fs g.ft []=g.ft:=by rw[ln,fY ho]
   rw[b]
   obtain⟨ht,c8,_⟩:=h.wp.tree.cells
   refine(Be B.bt B.oD _ _ _ _ _ (vD []) w ht c8 (fun W a=>?_)).mono ?_
   ·have:=xz hD Good.nil a
    rw[d]at this;exact this
   ·rintro j w' ⟨rfl,a⟩
    exact⟨_,rfl,tg,vD,eo.ew a,(h.below a).mono (by omega),(hD.moves (eo.ew (P:=fun _=>False) a) (fun x=>x)).mono (by omega),rfl,fun _ _=>rfl⟩
  ·have f:g.ft.od []=none:=by simpa using ho
   have k:=c.look [] (mB _)
   have b:ln ei g.fs g.ft []={ g.ft with od:=upd g.ft.od [] (some (K [])),root:=0 }:=by
    rw[ln,eJ ho];rw[show eT ei g.ft g.fs []=(g.fs,0,K [])from k]
   rw[b];refine(LG h hD (by simp only[td]at hl;omega) f k).mono ?_;rintro j w' ⟨v,rfl,ey,l,m,hW,o,hv,hq'⟩;exact⟨v,rfl,ey,l,m,hW.mono (by simp only[td];omega),o.mono (by simp only[td];omega),hv,fun q Ny=>hq' q (fun e=>Ny (by rw[e];exact mB _))⟩
 |n::r=>by
  intro tg w g lim K vD h hD hl hq c;by_cases ho:(g.ft.od (n::r).reverse).isSome=true
  ·obtain⟨es,d⟩:=Qr.1 ho
   have b:ln ei g.fs g.ft (n::r)=g.ft:=by rw[ln,fY ho]
   rw[b];obtain⟨ht,c8,_⟩:=h.wp.tree.cells;refine(Be B.bt B.oD _ _ _ _ _ (vD (n::r).reverse) w ht c8 (fun W a=>?_)).mono ?_
   ·have:=xz hD hq a
    rw[d]at this;exact this
   ·rintro j w' ⟨rfl,a⟩
    exact⟨_,rfl,tg,vD,eo.ew a,(h.below a).mono (by omega),(hD.moves (eo.ew (P:=fun _=>False) a) (fun x=>x)).mono (by omega),rfl,fun _ _=>rfl⟩
  ·have t:(n::r).reverse=r.reverse++[n]:=nC
   rw[t]at ho hq c ⊢;have f:g.ft.od (r.reverse++[n])=none:=by simpa using ho
   exact OU n r (n5 r) h hD (by rw[gK]at hl;omega) hq c f
theorem Hz(h:eH tg w s i p B ei g lim)(hq:Good q)(a:fL):
  ∃w',(Builtin.delete_ #[161,147] a #[.map (some B.oF),.agg (et q)]).run prog w=.ok (.tuple #[]) w'/\eo (fun t=>t=(i,4)) tg tg w w'/\w.grownBy w' (some B.oF)/\w'.heap.size=w.heap.size/\B.oF<w.heap.size/\eH tg w' s i p B ei { g with ft:={ g.ft with of:=upd g.ft.of q none } } lim:=by
 have hi:=h.two;obtain⟨ht,⟨n,hn,hm⟩,hg⟩:=h.wp.nY;obtain⟨w',c,d,b,hs⟩:=hm.drop hq underlying161 a;have m:eo (fun t=>t=(i,4)) tg tg w w':=rx b hs ht;have hp:=h.wp;obtain⟨vD,hD⟩:=hp.kX;refine⟨w',c,m,b,hs,hm.lt,h.two,h.st.moves m (fun e=>by cases e) (fun e=>by cases e),⟨hp.tree.moves m (fun e=>by cases e),hp.jE.moves m (fun e=>by cases e),hp.jF.moves m (fun e=>by cases e),⟨ht,⟨n,hn,d.congr (fun x hx=>?_)⟩,fun x f hx=>?_⟩,⟨vD,hD.moves m (fun e=>by cases e)⟩,hp.files.moves m (fun e=>by cases e),fun x f hx=>?_,hp.opens.moves m (fun e=>by cases e) (fun e=>by cases e),⟨hp.ok.root,hp.ok.od⟩⟩⟩
 ·show upd (fun y=>(g.ft.of y).map ptr) q none x=Option.map ptr (upd g.ft.of q none x)
  by_cases e:x=q
  ·subst e;rw[upd_same,upd_same];rfl
  ·rw[fx e,fx e]
 ·by_cases e:x=q
  ·subst e
   have kN:upd g.ft.of x none x=some f:=hx;rw[upd_same]at kN;cases kN
  ·have kN:upd g.ft.of q none x=some f:=hx
   rw[fx e]at kN;exact hg x f kN
 ·by_cases e:x=q
  ·subst e
   have kN:upd g.ft.of x none x=some f:=hx;rw[upd_same]at kN;cases kN
  ·have kN:upd g.ft.of q none x=some f:=hx
   rw[fx e]at kN;exact hp.held x f kN
theorem LL(h:eH tg w s i p B ei g lim)(hD:eZ tg w i B g.ft.od lim vD)(hq:Good q)(b:fL):
  ∃w',(Builtin.delete_ #[162,147] b #[.map (some B.oD),.agg (et q)]).run prog w=.ok (.tuple #[]) w'/\eo (fun t=>t=(i,5)) tg tg w w'/\eH tg w' s i p B ei { g with ft:={ g.ft with od:=upd g.ft.od q none } } lim/\eZ tg w' i B (upd g.ft.od q none) lim vD:=by
 obtain⟨n,hn,hm⟩:=hD.map;obtain⟨w',j,k,c,hs⟩:=hm.drop hq underlying162 b;obtain⟨r,u,l⟩:=hm.isMap;have m:eo (fun t=>t=(i,5)) tg tg w w':=rx c hs hD.tag;have a:∀x es,upd g.ft.od q none x=some es->g.ft.od x=some es:=fun x es hx=>by
  by_cases e:x=q
  ·subst e;rw[upd_same]at hx;cases hx
  ·rw[fx e]at hx;exact hx
 have d:eZ tg w' i B (upd g.ft.od q none) lim vD:=by
  refine⟨hD.tag,⟨n,hn,k.congr (fun x hx=>?_)⟩,fun x es hx=>hD.good x es (a x es hx),fun x es hx=>(hD.row x es (a x es hx)).uw l c,fun x y ex f gb hx o h1 h2=>hD.inj x y ex f gb (a x ex hx) (a y f o) h1 h2⟩;by_cases e:x=q
  ·subst e;rw[upd_same,upd_same];rfl
  ·rw[fx e,fx e]
 exact⟨w',j,m,h.od m (io _) d (fun x es hx=>h.wp.ok.od x es (a x es hx)),d⟩
theorem yQ(h:eH tg w s i p B ei g lim)(hD:eZ tg w i B g.ft.od lim vD)(hq:Good q):
  eK 139 #[fj B.bt,.agg (et q)] w fun G w'=>G=.returned (.tuple #[])/\eo (Mine i) tg tg w w'/\eH tg w' s i p B ei { g with ft:=tQ g.ft q } lim/\eZ tg w' i B (upd g.ft.od q none) lim vD:=by
 have a:=eQ ((i7 w.heap.size w).alloc (io _) (.cells (et q) 147));have j:=h.below a;have k:=hD.moves (eo.ew (P:=fun _=>False) a) (fun x=>x);obtain⟨l,H,b,m,M,N,d⟩:=Hz j hq 0;have r:eZ tg l i B g.ft.od lim vD:=k.moves b (fun e=>by cases e);obtain⟨f,I,u,y,z⟩:=LL (d.below (eQ (i7 _ _))) (r.moves (eo.ew (P:=fun _=>False) (eQ (i7 _ _))) (fun x=>x)) hq 0;obtain⟨ht,c8,c7,_,_⟩:=h.wp.tree.cells;obtain⟨O,Q,_,_,_⟩:=d.wp.tree.cells;have hne:w.heap.size≠B.oF:=by
  obtain⟨_,⟨n,_,hm⟩,_⟩:=h.wp.nY
  have:=hm.lt;omega
 have J:∀o,l.cell? (eb w.heap.size o)=((w.alloc (.cells (et q) 147)).drew).cell? (eb w.heap.size o):=rh (c:=w.heap.size) m (by simp[World.drew]) hne;have K:Hid (eo (Mine i) tg tg w f/\eH tg f s i p B ei { g with ft:=tQ g.ft q } lim/\eZ tg f i B (upd g.ft.od q none) lim vD):=⟨(eo.ew a).trans ((b.mono (fun t ht=>(Or.inr (by rw[ht]):Mine i t))).trans ((eo.ew (eQ (i7 _ _))).trans (u.mono (fun t ht=>(Or.inr (by rw[ht]):Mine i t))))),y,z⟩;obtain⟨A,C,D,E,F,L⟩:∃A C D E F,et q=(ii A C D E F):=⟨_,_,_,_,_,rfl⟩;rw[L]at H I J a ⊢;clear h hD j k d r y z b u a m;go_enter func139,ntmps139;go_wp2
 go_region
 all_goals
  go_wp2
  go_region
  all_goals
   go_wp2;exact bodyPost_end (v:=.tuple #[]) (by simp[results,results139,go_sem]) rfl ⟨rfl,K.out⟩
theorem EM{w f W:World}(h:eH tg w s i p B ei g lim)(hD:eZ tg w i B g.ft.od lim vD)(hl:lim<maxLen)(ho:g.ft.od q=some es)(hg:w.grownBy f (vD q).ownBlock){v6:Value}
  (u:f.ownsRow 0 96 3 v6 es'.length (flat es'))(E:v6.ownBlock=(vD q).ownBlock\/∀gb,v6.ownBlock=some gb->w.heap.size<=gb)(o:jK ei es')(a:gS f W):
  ∃c F,(Instr.mapUpdate 162 (.map (some B.oD)) (.agg (et q)) v6).run prog W=.ok () c/\eo (Mine i) tg F w c/\
   eH F c s i p B ei { g with ft:={ g.ft with od:=upd g.ft.od q (some es') } } (lim+1)/\eZ F c i B (upd g.ft.od q (some es')) (lim+1) (upd vD q v6):=by
 have hi:=h.two;have hq:=(hD.good q es ho).1;have v:=hD.row q es ho;obtain⟨n,hn,hm⟩:=hD.map;obtain⟨O,P,A⟩:=hm.isMap;have Q:some B.oD≠(vD q).ownBlock:=pu v.1 A;have I:f.heap[B.oD]?=w.heap[B.oD]?:=hg.block _ hm.lt Q;have hW:W.heap[B.oD]?=w.heap[B.oD]?:=(a.block _ (kv hm.lt hg.size)).trans I;obtain⟨c,R,S,j,Y⟩:=(hm.keep hW).store hq (Nat.lt_of_le_of_lt hn hl) underlying162 v6;have Z:W.heap[B.oD]?=some (.map O P):=hW.trans A;have aa:∀k,(tg k).1≠0->jQ tg v6 (i,5) k=tg k:=fun k hk=>by
  by_cases e:v6.ownBlock=some k
  ·rw[oQ e]
   rcases E with h1|h1
   ·exact(v.2 k (h1▸e)).symm
   ·rw[h.st.fresh k (h1 k e)]at hk;exact absurd rfl hk
  ·exact ji e _
 have G:∀k,k<w.heap.size->jQ tg v6 (i,5) k=tg k:=fun k hk=>by
  by_cases e:v6.ownBlock=some k
  ·rw[oQ e]
   rcases E with h1|h1
   ·exact(v.2 k (h1▸e)).symm
   ·have:=h1 k e;omega
  ·exact ji e _
 have T:gF (jQ tg v6 (i,5)) c:=fun k hk=>by
  have h6:f.heap.size<=k:=pD a.size (by omega);rw[ji (fun e=>by have:=ee u e;omega)];exact h.st.fresh k (pD hg.size h6)
 have m:eo (fun t=>t=(i,5)) tg (jQ tg v6 (i,5)) w c:=by
  refine⟨j.os.trans (a.os.trans hg.os),j.tape.trans (a.tape.trans hg.tape),j.output.trans (a.output.trans hg.output),pD hg.size (pD a.size j.size),G,fun k hk hn=>?_,fun _=>T⟩;have r:k<f.heap.size:=kv hk hg.size;rw[j.block k (kv r a.size) (fun e=>hn (by cases e;exact hD.tag)),a.block k r,hg.block k hk (fun e=>hn (v.2 k e.symm))]
 have J:eZ (jQ tg v6 (i,5)) c i B (upd g.ft.od q (some es')) (lim+1) (upd vD q v6):=by
  have U:jD (jQ tg v6 (i,5)) c (i,5) v6 es':=by
   refine⟨eh u (fun b l=>?_),fun gb V=>oQ V _⟩;have K:=ee u l;rw[j.block b (kv K a.size) (fun e=>?_),a.block b K];have d:b=B.oD:=by injection e
   rw[d]at l;exact pu u (I.trans A) l.symm
  refine⟨(G _ hm.lt).trans hD.tag,⟨n+1,by omega,S.congr (fun x hx=>?_)⟩,fun x fs hx=>?_,fun x fs hx=>?_,fun x y fs fs' gb hx C h1 h2=>?_⟩
  ·by_cases e:x=q
   ·subst e;rw[upd_same,upd_same,upd_same];rfl
   ·rw[fx e,fx e,fx e]
  ·by_cases e:x=q
   ·subst e
    rw[upd_same]at hx;cases hx;exact⟨hq,o.rising,o.len,fun e D=>⟨(o.ok e D).1,(o.ok e D).2.1⟩⟩
   ·rw[fx e]at hx;exact hD.good x fs hx
  ·by_cases e:x=q
   ·subst e
    rw[upd_same]at hx ⊢;cases hx;exact U
   ·rw[fx e]at hx ⊢
    have hr:=hD.row x fs hx;refine hr.keep (fun b l H=>⟨?_,G b H⟩);have r:b<f.heap.size:=kv H hg.size;rw[j.block b (kv r a.size) (fun e2=>?_),a.block b r,hg.block b H (fun e2=>?_)]
    ·exact e (hD.inj x q fs es b hx ho l e2.symm)
    ·have d:b=B.oD:=by injection e2
     rw[d]at l;exact pu hr.1 A l.symm
  ·have apart:∀z fz,z≠q->g.ft.od z=some fz->(vD z).ownBlock=some gb->v6.ownBlock=some gb->False:=fun z fz X L M N=>by
    rcases E with h3|h3
    ·exact X (hD.inj z q fz es gb L ho M (h3▸N))
    ·have ab:=ee (hD.row z fz L).1 M
     have:=h3 gb N
     omega
   by_cases e:x=q
   ·by_cases d:y=q
    ·rw[e,d]
    ·subst e
     rw[upd_same]at h1;rw[fx d]at C h2;exact(apart y fs' d C h2 h1).elim
   ·by_cases d:y=q
    ·subst d
     rw[upd_same]at h2;rw[fx e]at hx h1;exact(apart x fs e hx h1 h2).elim
    ·rw[fx e]at hx h1
     rw[fx d]at C h2;exact hD.inj x y fs fs' gb hx C h1 h2
 refine⟨c,jQ tg v6 (i,5),R,m.mono (fun t ht=>(Or.inr (by rw[ht]):Mine i t)),h.od m (Hk _) J (fun x fs hx=>?_),J⟩;by_cases e:x=q
 ·subst e
  rw[upd_same]at hx;cases hx;exact fun e D=>(o.ok e D).2
 ·rw[fx e]at hx
  exact h.wp.ok.od x fs hx
end
theorem Rg(b:w.ownsRow 0 96 3 (.slice (some (eb gb 0)) n c) n (flat es))(hn:es.length=n)(hk:k<n):
  eK 194 #[.slice (some (eb gb 0)) n c,ed (k:Int),ed ((k:Int)+1)] w fun e w'=>e=.returned (.slice (some (eb gb 0)) (n-1) c)/\
   w'.ownsRow 0 96 3 (.slice (some (eb gb 0)) (n-1) c) (n-1) (flat (es.eraseIdx k))/\w.grownBy w' (some gb)/\w'.heap.size=w.heap.size:=by
 rcases b.2 with⟨e,_⟩|⟨p,q,d,e,_,hg,f,a,g,ht⟩
 ·cases e
 ·cases e
  refine(OP gb n c k es d w hg hn hk f a g ht).mono ?_;rintro e w' ⟨rfl,h,i,j,l,m,o⟩;refine⟨rfl,⟨?_,.inr ⟨gb,c,h,rfl,oY _,i,by omega,a,j,l⟩⟩,m,o⟩;rw[ib,List.length_eraseIdx_of_lt (by omega),hn]
theorem HA{w a:World}{b:Obj}(h:Below (w.alloc b).heap.size (w.alloc b) a):w.heap.size<a.heap.size:=by
 have h2:=h.size;rw[pL]at h2;omega
theorem iC(h:a<w.heap.size)(o:Obj):a<(w.alloc o).heap.size:=by rw[pL];omega
theorem xt(w:World)(o:Obj):w.heap.size<(w.alloc o).heap.size:=by rw[pL];omega
theorem yR{t t':Nat×Nat}(h1:tg a=t)(h2:tg b=t')(hne:t≠t'):a≠b:=fun e=>hne (h1.symm.trans (e▸h2))
theorem Ta(i:Nat):((i,1):Nat×Nat)≠(i,5):=fun h=>by cases h
theorem OV(i:Nat):((0,0):Nat×Nat)≠(i,5):=fun h=>by cases h
theorem OW(h:v=.slice (some (eb gb 0)) n c)(a b:Nat):(Value.slice (some (eb gb 0)) a b).ownBlock=v.ownBlock:=by subst h;rfl
theorem LM(h:v=.slice (some (eb gb 0)) n c)(hg:w.grownBy w' (some gb)):w.grownBy w' v.ownBlock:=by subst h;exact hg
theorem LN(h:jK ei es)(n:eu):jK ei (lh es n):=
 ⟨by unfold lh;exact List.Pairwise.sublist (List.eraseIdx_sublist _ _) h.rising,by unfold lh;exact pD (List.length_eraseIdx_le _ _) h.len,fun e a=>h.ok e (AL a)⟩
section
variable {s i p:Nat}{B:WB}{ei:List Ob}
theorem OX{w w6:World}{nm:eu}(h:eH tg w s i p B ei g lim)(hD:eZ tg w i B g.ft.od lim vD)(hl:lim<maxLen)(ho:g.ft.od q=some es)(d:vD q=.slice (some (eb gb 0)) n c)(e:g9 es nm=true)(nD:mr es nm=ix)(f:jK ei es)
  (j:w6.ownsRow 0 96 3 (.slice (some (eb gb 0)) (es.length-1) c) (es.length-1) (flat (es.eraseIdx ix)))(hg:w.grownBy w6 (some gb)):
  ∃a b,(Instr.mapUpdate 162 (.map (some B.oD)) (.agg (et q)) (.slice (some (eb gb 0)) (es.length-1) c)).run prog w6=.ok () a/\eo (Mine i) tg b w a/\
   eH b a s i p B ei { g with ft:={ g.ft with od:=upd g.ft.od q (some (lh es nm)) } } (lim+1)/\eZ b a i B (upd g.ft.od q (some (lh es nm))) (lim+1) (upd vD q (.slice (some (eb gb 0)) (es.length-1) c)):=by
 refine EM h hD hl ho (LM d hg) ?_ (.inl (OW d _ _)) (LN f nm) (i7 _ _);rw[tN e];unfold lh;rw[nD];exact j
theorem EN(h:eH tg w s i p B ei g lim)(hD:eZ tg w i B g.ft.od lim vD)(hl:lim+300<1099511627776){n:eu}(hp:Good (q++[n]))(H:fN ei g.fs g.ft K q)(I:jK ei (K q))(J:g9 (K q) n=true):
  eK 138 #[fj B.bt,.agg (et (q++[n]))] w fun ar w'=>ar=.returned (.tuple #[])/\∃ey au,eo (Mine i) tg ey w w'/\
   eH ey w' s i p B ei { g with ft:=iw ei g.fs g.ft q n } (lim+150)/\eZ ey w' i B (iw ei g.fs g.ft q n).od (lim+150) au:=by
 have hq:Good q:=by have:=hp.dropLast;rwa [oy]at this
 have aQ:q.length<=4:=by have:=hp.len;simp at this;omega
 obtain⟨av,aw,L,ax⟩:=mb H;have aa:iw ei g.fs g.ft q n={ ln ei g.fs g.ft q.reverse with od:=upd (ln ei g.fs g.ft q.reverse).od q (some (lh (K q) n)) }:=by
  unfold iw;simp only[L,nG]
 rw[aa];have l:=fun W (ab:gS w W)=>n5 (s:=s) (i:=i) (p:=p) (B:=B) (ei:=ei) q.reverse tg W g lim K vD (h.below ab) (hD.moves (eo.ew (P:=fun _=>False) ab) (fun x=>x)) (by rw[zQ];omega) (by rw[nu];exact hq) (by rw[nu];exact H)
 rw[nu,zQ]at l;have m:=fun W=>xr (q++[n]) hp W
 have r:=fun W=>iB (q++[n]) hp (by simp) W;rw[oy]at m;simp only[BQ]at r;obtain⟨t,u,y,z,A,M⟩:∃t u y z A,et (q++[n])=(ii t u y z A):=⟨_,_,_,_,_,rfl⟩;obtain⟨aR,aS,aT,aU,aV,N⟩:∃t u y z A,et q=(ii t u y z A):=⟨_,_,_,_,_,rfl⟩;unfold hP at m r;simp only[M,N]at m r l;rw[M];obtain⟨nD,ay⟩:=kO J;have NE:=I.len;have hi:=h.two;have az:lim+20*(q.length+1)<maxLen:=by unfold maxLen;omega
 generalize ac:mr (K q) n=ix at nD;have ad:Hid (mr (K q) n=ix):=ac;have aA:Hid _:=N;have aW:Hid _:=h;have aB:Hid _:=l;have ae:Hid _:=L;have O:Hid _:=I;have af:Hid _:=J;have ag:=h.st.fresh;have Q:Hid _:=ag;clear ac h hD l av aw L ax I J M N H aa ay ag;go_enter func138,ntmps138;go_wp2_with(first
  |(go_at_call 132;refine(m _).mono ?_;rintro e a ⟨rfl,R⟩;have S:=HA R;have aX:=fun o=>(gc R).1 w.heap.size o (by simp);have C:=em ((i7 w.heap.size w).alloc (io _) _) R)
  |(go_at_call 192;go_loud(refine(aB.out _ (C.alloc C.size _)).mono ?_;rintro e w3 ⟨aY,rfl,aC,aZ,f,D,T,ah,ai⟩;have a0:=py (b:=w.heap.size) hi f (iC S _) (Q.out _ (io _));have a1:=py (b:=a.heap.size) hi f (xt _ _) (Q.out _ (uQ S));have aD:aC a.heap.size=(0,0):=(f.tags _ (xt _ _)).trans (Q.out _ (uQ S));have aj:a.heap.size<w3.heap.size:=kv (xt _ _) f.size;have d:=T.row _ _ ae.out;obtain⟨gb,aE,U⟩:=ej d.1 (by omega);rw[U]at ah d;subst ah;have a2:gb<w3.heap.size:=ee d.1 rfl;obtain⟨V,a3,_,_,_⟩:=D.wp.tree.cells;have aF:=yR D.wp.tree.tt (d.2 gb rfl) (Ta i);have D1:=yR aD (d.2 gb rfl) (OV i);have aG:Hid _:=D;have aH:Hid _:=f;have aI:Hid _:=T;have E:Hid _:=d;have aJ:Hid _:=U;have a4:Hid _:=ai;clear D f T d U ai))
  |(go_at_call 134;refine(r _).mono ?_;rintro e F ⟨rfl,k⟩;have ak:a.heap.size<F.heap.size:=kv aj k.size;have k4:∀o,F.cell? (eb a.heap.size o)=w3.cell? (eb a.heap.size o):=fun o=>(gc k).1 _ o aj;have d4:F.cell? (eb B.bt 8)=w3.cell? (eb B.bt 8):=(gc k).1 _ _ V)
  |(go_at_call 133;go_loud(refine(H0 (eh E.out.1 (fun X Y=>k.block X (ee E.out.1 Y))) n O.out.rising O.out.len).mono ?_;rintro e w5 ⟨rfl,Z⟩;rw[ad.out,af.out];have j:=em k Z;have k5:∀o,w5.cell? (eb a.heap.size o)=F.cell? (eb a.heap.size o):=fun o=>(gc Z).1 _ o ak;have d5:w5.cell? (eb B.bt 8)=w3.cell? (eb B.bt 8):=(gc j).1 _ _ V)))
 have al:w5.drew.ownsRow 0 96 3 (.slice (some (eb gb 0)) (K q).length aE) (K q).length (flat (K q)):=eh E.out.1 (fun X Y=>(eQ j).block X (ee E.out.1 Y));have am:=Rg al rfl nD;have aK:Hid _:=am;clear am al;have a5:IntKind.i64.wrap ((ix:Int)+1)=(ix:Int)+1:=by rw[uP];omega
 go_region_with(go_at_call 194;go_loud(refine g7 aK.out ?_;rintro e w6 ⟨rfl,an,G,a6⟩;have a7:=fun o=>rh (c:=a.heap.size) G (kv ak Z.size) D1 o;have d6:=rh (c:=B.bt) G (kv V j.size) aF 8;obtain⟨a8,aL,aM,ao,ap,aq⟩:=OX (aG.out.below (eQ j)) (aI.out.moves (eo.ew (P:=fun _=>False) (eQ j)) (fun x=>x)) az ae.out aJ.out af.out ad.out O.out an G;rw[aA.out]at aM;have aN:Hid _:=ao;have aO:Hid _:=ap;have aP:Hid _:=aq;clear ao ap aq an G))
 all_goals
  go_wp2;exact bodyPost_end (v:=.tuple #[]) (by simp[results,results138,go_sem]) rfl ⟨rfl,aL,_,((jn (C.alloc C.size _) aH.out).trans ((eo.ew (eQ j)).trans aN.out)),aO.out.mono (by omega),aP.out.mono (by omega)⟩
end
end Go.Proofs.YtlgidcmmgohagaaGreat
