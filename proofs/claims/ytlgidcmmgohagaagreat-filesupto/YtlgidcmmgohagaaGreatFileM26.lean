/- What is proved here: what is copied out of a stored K2. -/
import Derived.Test.YtlgidcmmgohagaaGreatFileM25
import Derived.Test.YtlgidcmmgohagaaGreatFileM06
import Derived.Test.YtlgidcmmgohagaaGreatFileM24
import Derived.Test.YtlgidcmmgohagaaGreatFileM14
import Derived.Shelf.SlicesE.Clone
import Derived.Test.YtlgidcmmgohagaaGreatFileM10
namespace Go.Proofs.YtlgidcmmgohagaaGreat
open Go.RowKit Go.Sort Go.Shelf Go.Proofs.Tryz
set_option linter.unusedVariables false
set_option maxRecDepth 100000
set_option maxHeartbeats 16000000
variable {L got:List Int}{args:Array Value}{P data e6 q:eB}{a ei:List Ob}{ds:List Doc}{f j k:Nat}{v:Value}{nodes RK:List eD}{ws:List Slot}{rest rest':fE}{d:Doc}{W1 w w':World}{fc:ul}{ey:eM}{t:LT}{x:Slot}
def m7:Nat->List (eB×Nd)->List eD
 |_,[]=>[]
 |k,(y,.dir)::r=>(ek y,2,0)::m7 k r
 |k,(y,.file d)::r=>(ek y,1,(k:Int))::m7 (k+1) r
def ky:List (eB×Nd)->eB
 |[]=>[]
 |(_,.dir)::r=>ky r
 |(_,.file d)::r=>d::ky r
theorem rH:∀(L M:List (eB×Nd)) (k:Nat),m7 k (L++M)=m7 k L++m7 (k+(ky L).length) M
 |[],M,k=>rfl
 |(y,.dir)::r,M,k=>by
  rw[rM,m7,m7,rH r M k,ky];rfl
 |(y,.file d)::r,M,k=>by
  rw[rM,m7,m7,rH r M (k+1),ky,gK,show k+((ky r).length+1)=k+1+(ky r).length by omega];rfl
theorem nj:∀(L M:List (eB×Nd)),ky (L++M)=ky L++ky M
 |[],M=>rfl
 |(y,.dir)::r,M=>by rw[rM,ky,ky,nj r M]
 |(y,.file d)::r,M=>by rw[rM,ky,ky,nj r M];rfl
theorem vK:∀(L:List (eB×Nd)) (k:Nat),(m7 k L).length=L.length
 |[],k=>rfl
 |(y,.dir)::r,k=>by rw[m7,gK,gK,vK r k]
 |(y,.file d)::r,k=>by rw[m7,gK,gK,vK r (k+1)]
theorem qI:∀(L:List (eB×Nd)),(ky L).length<=L.length
 |[]=>io _
 |(y,.dir)::r=>by rw[ky,gK];exact BV (qI r)
 |(y,.file d)::r=>by rw[ky,gK,gK];exact Nat.succ_le_succ (qI r)
theorem nk:∀(L:List (eB×Nd)) (k:Nat),(m7 k L).map (·.1)=L.map fun x=>ek x.1
 |[],k=>rfl
 |(y,.dir)::r,k=>by rw[m7,WF,WF,nk r k]
 |(y,.file d)::r,k=>by rw[m7,WF,WF,nk r (k+1)]
theorem nr:∀(L:List (eB×Nd)) (k:Nat),∀e∈m7 k L,(e.2.1=1\/e.2.1=2)/\(e.2.1=1->0<=e.2.2/\e.2.2<((k+(ky L).length:Nat):Int))
 |[],k=>by intro e a;cases a
 |(y,.dir)::r,k=>by
  intro e a
  rw[m7]at a
  rcases Hd.1 a with rfl|a
  ·exact⟨.inr rfl,fun h=>by cases h⟩
  ·rw[ky];exact nr r k e a
 |(y,.file d)::r,k=>by
  intro e a
  rw[m7]at a
  rw[ky,gK]
  rcases Hd.1 a with rfl|a
  ·exact⟨.inl rfl,fun _=>⟨show(0:Int)<=(k:Int) by omega,show(k:Int)<_ by omega⟩⟩
  ·have:=nr r (k+1) e a
   rw[show k+1+(ky r).length=k+((ky r).length+1) by omega]at this
   exact this
theorem zw(hq:eA q):∀(L:List (eB×Nd)) (ds a:eB),(∀x∈L,eA x.1)->
  (((m7 ds.length L).find? fun e=>decide (e.1=ek q)).map fun e=>CS (ds++ky L++a) e.2)=(L.find? fun x=>decide (x.1=q)).map (·.2)
 |[],ds,a,_=>rfl
 |(y,.dir)::r,ds,a,h=>by
  rw[m7,Gl,Gl]
  have b:=h _ (ir ..)
  by_cases e:y=q
  ·subst e
   simp only[decide_true,jS]
   rfl
  ·have c:¬ek y=ek q:=fun h=>e (l4 b hq h)
   simp only[m6 e,m6 c]
   exact zw hq r ds a (fun x hx=>h x (mI _ hx))
 |(y,.file d)::r,ds,a,h=>by
  rw[m7,Gl,Gl]
  have b:=h _ (ir ..)
  by_cases e:y=q
  ·subst e
   simp only[decide_true,jS,ky]
   have:CS (ds++d::ky r++a) (1,(ds.length:Int))=.file d:=by
    unfold CS;rw[eJ (show ¬(1:Int)=2 by decide)];simp
   rw[this]
  ·have c:¬ek y=ek q:=fun h=>e (l4 b hq h)
   simp only[m6 e,m6 c]
   have:=zw hq r (ds++[d]) a (fun x hx=>h x (mI _ hx))
   rw[jM,List.length_singleton,iK ds,M8]at this;exact this
theorem zx(x:eu)(a:eA P):gU (ek P) x=ek (P++[x]):=by
 apply yi;unfold gU;by_cases h:P=[]
 ·subst h
  rw[fY (by rw[y0];exact H5 []),H5];rfl
 ·have h1:¬(ek P).toList=[]:=fun e=>h ((qF a).1 (by rw[<-ly,<-y0,e];rfl))
  rw[eJ h1,l8,l8,H5,H5,k7,List.map_singleton,sg _ _ (by simpa using h)];simp[w7]
section
variable {ei ep:List Ob}{fc:ul}
theorem JX(h:Twin ei ep){i:Nat}(hi:i<ei.length):∃hr:i<ep.length,sy ei[i] ep[i]:=⟨by rw[<-h.1];exact hi,h.2.1 i hi (by rw[<-h.1];exact hi)⟩
def Uq (ei:List Ob)(fc:ul)(n:Nat)(P:eB)(x:eu×LT):List (eB×Nd):=(P++[x.1],nd ei fc x.2)::(if x.2.kind=2 then kx ei fc n (P++[x.1]) x.2 else [])
theorem PF(n:Nat)(P:eB)(m:eu)(i:Int):Uq ei fc n P (m,.file i)=[(P++[m],.file (bytesOf ei i))]:=rfl
theorem RO(n:Nat)(P:eB)(m:eu)(i:Int):Uq ei fc n P (m,.dir i)=(P++[m],.dir)::kx ei fc n (P++[m]) (.dir i):=rfl
theorem FB{fuel n:Nat}(c:eA P)(a:Nat->eu->St->St)
  (Ag:∀(e:eD) (st:St),(e9 e).2.2.toNat<fuel->ez e.1=true->e.2.1=2->eC ei e.2.2=2->eY ei e.2.2<=n->a (e9 e).2.2.toNat (ek (P++[e.1])) st=(st.1++m7 st.2.length (kx ei fc n (P++[e.1]) (.dir e.2.2)),st.2++ky (kx ei fc n (P++[e.1]) (.dir e.2.2))))
  (d:∀e:eD,eC ei e.2.2=1->sV ep (e9 e).2.2=bytesOf ei e.2.2):
  ∀(es:List eD) (st:St),(∀e∈es,ez e.1=true/\(e.2.1=1\/e.2.1=2)/\eC ei e.2.2=e.2.1/\eY ei e.2.2<=n/\(e9 e).2.2.toNat<fuel)->
   (es.map e9).foldl (pB ep a (ek P)) st=(st.1++m7 st.2.length ((es.map Pl).flatMap (Uq ei fc n P)),st.2++ky ((es.map Pl).flatMap (Uq ei fc n P)))
 |[],st,_=>by simp[m7,ky]
 |e::r,st,h=>by
  obtain⟨h1,h2,h3,g,i⟩:=h e (ir ..)
  rw[WF,xH,WF,TF]
  have b:(e9 e).1=e.1/\(e9 e).2.1=e.2.1:=⟨rfl,rfl⟩
  have f:=fun j=>FB (fuel:=fuel) c a Ag d r j (fun x hx=>h x (mI _ hx))
  rcases h2 with k|k
  ·have hk:Pl e=(e.1,.file e.2.2):=by unfold Pl ltOf;rw[eJ (by rw[k];decide)]
   have hs:pB ep a (ek P) st (e9 e)=(st.1++[(ek (P++[e.1]),1,(st.2.length:Int))],st.2++[bytesOf ei e.2.2]):=by
    unfold pB;rw[fY (by rw[b.2];exact k),b.1,zx _ c,d e (h3.trans k)]
   rw[hs,f,hk,PF,rH,nj];simp only[m7,ky,jM,gK,td,iK,rM,w8]
  ·have hk:Pl e=(e.1,.dir e.2.2):=by unfold Pl ltOf;rw[fY k]
   have hs:pB ep a (ek P) st (e9 e)=((st.1++[(ek (P++[e.1]),2,0)])++m7 st.2.length (kx ei fc n (P++[e.1]) (.dir e.2.2)),st.2++ky (kx ei fc n (P++[e.1]) (.dir e.2.2))):=by
    unfold pB;rw[eJ (by rw[b.2,k];decide),b.1,zx _ c,Ag e _ i h1 k (h3.trans k) g]
   rw[hs,f,hk,RO,rH,nj];simp only[m7,ky,jM,iK,rM,w8]
theorem zy(c:Twin ei ep)(d:Exact ei)(i:gi ep):∀(n fuel at_:Nat) (P:eB) (st:St),at_<fuel->eA P->eC ei ((at_:Int)+1)=2->eY ei ((at_:Int)+1)<=n->
  Ha ep fuel at_ (ek P) st=(st.1++m7 st.2.length (kx ei fc n P (.dir ((at_:Int)+1))),st.2++ky (kx ei fc n P (.dir ((at_:Int)+1))))
 |n,0,at_,P,st,h,_,_,_=>absurd h (Nj _)
 |n,fuel+1,at_,P,st,h,j,hk,D=>by
  have f:at_<ei.length:=by
   by_cases hl:at_<ei.length
   ·exact hl
   ·rw[wd (.inr (by omega))]at hk;cases hk
  obtain⟨hr,k⟩:=JX c f;have l:ei[at_].kind=2:=by rw[<-o0 f];exact hk
  have m:eR ei ((at_:Int)+1)=ei[at_].eG:=by
   unfold eR;rw[show((at_:Int)+1-1).toNat=at_ by omega,gJ f];rfl
  obtain⟨_,_,g⟩:=d.sound.2 _ hk;rw[m]at g;have a:xB ep at_=ei[at_].eG.map e9:=by
   unfold xB;rw[gJ hr,jS,nG,k.eG l]
  rw[Ha,a];have s:∀e:eD,eC ei e.2.2=1->sV ep (e9 e).2.2=bytesOf ei e.2.2:=fun e o=>by
   obtain⟨p,b⟩:=wn (by rw[o];decide);obtain⟨t,u⟩:=JX c b;have v:ei[(e.2.2-1).toNat].kind=1:=by
    have:=o
    unfold eC at this;rw[fY p,gJ b]at this;exact this
   unfold sV bytesOf e9;rw[gJ t,gJ b,jS,jS,nG,nG,u.data v]
  cases n with
  |zero=>
   have:ei[at_].eG=[]:=by
    cases w:ei[at_].eG with
    |nil=>rfl
    |cons e r=>
     have:=(g e (by rw[w];exact ir ..)).2.2.2
     have:=d.sound.1 e.2.2
     omega
   rw[this];simp[kx,m7,ky]
  |succ n=>
   rw[kx];simp only[kids,nG,m];refine FB (fuel:=fuel) j (Ha ep fuel) (fun e x y A e2 q B=>?_) s ei[at_].eG st (fun e a=>?_)
   ·obtain⟨p,b⟩:=wn (by rw[q];decide)
    have hx:(((e9 e).2.2.toNat:Nat):Int)+1=e.2.2:=by unfold e9;simp only;omega
    have:=zy c d i n fuel (e9 e).2.2.toNat (P++[e.1]) x y (j.append (fun z C=>by rw[kH.1 C];exact A)) (by rw[hx];exact q) (by rw[hx];exact B)
    rw[hx]at this;exact this
   ·obtain⟨t1,t2,t3,t4⟩:=g e a
    have E:=i at_ hr (e9 e) (by rw[k.eG l];exact zP a);exact⟨t1,t2,t3,by omega,by omega⟩
theorem Mx(hS:Sound a)(ht:eL a 5 t)(hq:q≠[]):((kx a fc 5 [] t).find? fun x=>decide (x.1=q)).map (·.2)=xj a fc t q:=by
 cases hf:(kx a fc 5 [] t).find? fun x=>decide (x.1=q) with
 |some x=>
  have h1:=BN hf;have h2:x.1=q:=by simpa using Kh hf
  obtain⟨_,h3⟩:=(zv hS ht).1 (show(x.1,x.2)∈_ from h1);rw[h2]at h3;rw[h3];rfl
 |none=>
  cases hs:xj a fc t q with
  |none=>rfl
  |some d=>
   have:=Nf.1 hf _ ((zv hS ht).2 ⟨hq,hs⟩)
   simp at this
theorem rI(hS:Sound a)(ht:eL a 5 t):∀x∈kx a fc 5 [] t,x.1≠[]/\eA x.1/\x.1.length<=5:=fun x hx=>by
 obtain⟨h1,h2⟩:=(zv hS ht).1 (show(x.1,x.2)∈_ from hx)
 unfold xj at h2
 cases b:t.at a x.1 with
 |none=>rw[b]at h2;cases h2
 |some c=>
  have:=mf hS _ ht b
  exact⟨h1,this.2.2,this.1⟩
theorem BG(hS:Sound a)(ht:eL a 5 t)(hk:t.kind=2):Reads a fc t (m7 0 (kx a fc 5 [] t)) (ky (kx a fc 5 [] t)):=fun q hq=>by
 unfold eO
 by_cases h0:q=[]
 ·subst h0
  rw[fY rfl,xv]
  cases t<;>first|rfl|cases hk
 ·rw[eJ h0,Nn,<-Mx hS ht h0]
  have:=zw hq (kx a fc 5 [] t) [] [] (fun x hx=>(rI hS ht x hx).2.1)
  simp only[w8,nH,td]at this
  rw[<-this]
  rfl
theorem My(hS:Sound a)(ht:eL a 5 t)(hk:t.kind=2):eP (m7 0 (kx a fc 5 [] t)) (ky (kx a fc 5 [] t)):=by
 have k:=BG (fc:=fc) hS ht hk;have i:ki (m7 0 (kx a fc 5 [] t)):=fun e f=>by
  have hm:e.1∈(m7 0 (kx a fc 5 [] t)).map (·.1):=zP f;rw[nk]at hm;obtain⟨x,hx,u⟩:=H3.1 hm;obtain⟨v,w,g3⟩:=rI hS ht x hx;exact⟨x.1,v,w,g3,u.symm⟩
 have m:kC (m7 0 (kx a fc 5 [] t)):=by
  unfold kC;rw[nk];refine zR.2 ((zu hS (fc:=fc) 5 [] t ht).imp_of_mem (fun {x y} hx A xo e=>xo ?_))
  have:=l4 (rI hS ht x hx).2.1 (rI hS ht y A).2.1 e
  rw[this];exact mB _
 have j:∀l x,eA (l++[x])->eO (m7 0 (kx a fc 5 [] t)) (l++[x])≠none->∃d ks,t.at a l=some d/\kids a d=some ks/\x∈ks.map (·.1):=fun l x hv hn=>by
  have h1:xj a fc t (l++[x])≠none:=fun e=>hn ((k.empty hv).2 e);unfold xj at h1;cases n:t.at a (l++[x]) with
  |none=>rw[n]at h1;exact absurd rfl h1
  |some c=>
   obtain⟨d,ks,h2,h3,B⟩:=qT n;exact⟨d,ks,h2,h3,H3.2 ⟨_,l9 B,rfl⟩⟩
 refine⟨i,m,fun d hd=>?_,fun e f=>(nr _ _ e f).1,fun e f h1=>?_,fun l x hv hn=>?_⟩
 ·cases hi:eE (m7 0 (kx a fc 5 [] t)) (ek d) with
  |nil=>simp
  |cons y r=>
   rw[<-hi];have nw:=qG i m hd;have o:∀z∈(eE (m7 0 (kx a fc 5 [] t)) (ek d)).map (·.1),ez z=true/\eO (m7 0 (kx a fc 5 [] t)) (d++[z])≠none:=fun z g=>by
    obtain⟨e,f,rfl⟩:=H3.1 g;obtain⟨x,hx,hn,rfl⟩:=(rE i hd).1 f;exact⟨hx,(lT (by simp)).2 hn⟩
   have p:∀z,ez z=true->eA (d++[z]):=fun z g=>hd.append (fun E hu=>by rw[kH.1 hu];exact g);obtain⟨h1,h2⟩:=o y.1 (by rw[hi];exact ir ..);obtain⟨c,ks,hc,h,_⟩:=j d y.1 (p _ h1) h2;have NE:=(jp hS (mf hS d ht hc).2.1 h).2.1
   have:=H1 nw (ys:=ks.map (·.1)) (fun z g=>by
    obtain⟨C,D⟩:=o z g;obtain⟨F,G,q,s,hm⟩:=j d z (p _ C) D;rw[hc]at q;cases q;rw[h]at s;cases s;exact hm)
   rw[kU,kU]at this;omega
 ·have:=(nr _ _ e f).2 h1
  rw[PH]at this;exact this
 ·obtain⟨c,ks,hc,h,_⟩:=j l x hv hn
  have h1:=k l hv.left;unfold xj at h1;rw[hc,jS]at h1;cases hl:eO (m7 0 (kx a fc 5 [] t)) l with
  |none=>rw[hl]at h1;cases h1
  |some y=>
   rw[hl,jS,kE]at h1;have hn:nd a fc c=.dir:=by
    cases nw:nd a fc c with
    |dir=>rfl
    |file b=>rw[lD nw]at h;cases h
   rw[hn,CS]at h1;split at h1
   ·rename_i h2
    exact⟨y.2,by rw[<-h2]⟩
   ·cases h1
theorem II(hS:Sound a)(ht:eL a 5 t):(kx a fc 5 [] t).length<=1200000:=by
 have h1:=uF (fc:=fc) hS 5 [] t ht;rw[wT,kU]at h1;exact pD h1 (by decide)
end
theorem PG{fl:Nat->Option (Int×eu)}(h:qB ei fl)(l:List Ob):iE (ei++l) fl=iE ei fl:=by
 funext f
 unfold iE;cases hf:fl f with
 |none=>rfl
 |some x=>
  obtain⟨id,d⟩:=x;simp only;by_cases h0:id≠0
  ·rw[fY h0,fY h0,qg l (by rw[h f id d hf h0];decide)]
  ·rw[eJ h0,eJ h0]
theorem Reads.UT{c:ul}(h:Reads ei c t nodes data)(hS:Sound ei)(a:eL ei 5 t)(l:List Ob):Reads (ei++l) c t nodes data:=fun q hq=>by
 rw[JO hS l _ q 5 t a]
 exact h q hq
theorem gq.app{fl:Mu}{op:RL}(h:gq ei fl op t nodes data rest)(hS:Sound ei)(b:eL ei 5 t)(g:qB ei fl)(l:List Ob):gq (ei++l) fl op t nodes data rest:=by
 obtain⟨⟨i,hs,j,e,a⟩,h2⟩:=h;exact⟨⟨i,hs,j,e,a.inj,fun f hf=>by rw[PG g l];exact a.cont f hf,fun c d hd=>(a.par c d hd).UT hS b l,a.num,a.h8,a.tab,a.Qd⟩,h2⟩
theorem Reads.dir(h:Reads ei fc t nodes data):t.kind=2:=by
 have:=h [] (fun x hx=>by cases hx)
 rw[xv]at this;cases t<;>first|rfl|(exfalso;cases this)
theorem ot(nodes:List eD)(l:eB):tk nodes l=0\/tk nodes l=4\/tk nodes l=5:=by
 unfold tk;cases hf:(List.range l.length).findSome? (J0 nodes l) with
 |none=>exact .inl rfl
 |some e=>
  obtain⟨_,j,_,_,hj,_⟩:=List.findSome?_eq_some_iff.1 hf;unfold J0 at hj;split at hj
  ·cases hj;exact .inr (.inr rfl)
  ·split at hj
   ·cases hj;exact .inr (.inl rfl)
   ·cases hj
theorem zz(nodes:List eD)(l:eB):pP nodes l=0\/pP nodes l=4\/pP nodes l=5:=by
 unfold pP;split
 ·exact ot _ _
 ·split
  ·exact .inr (.inr rfl)
  ·exact .inl rfl
theorem zA{e:Int}(h:e=0\/e=4\/e=5):(e==14)=false:=by
 rcases h with h|h|h<;>(rw[h];rfl)
theorem FC(nodes:List eD)(S:eu):((m4 nodes S).2==14)=false:=by
 unfold m4
 repeat(first|exact zA (zz _ _)|rfl|split)
theorem CW(nodes:List eD)(S:eu):((li nodes S).2==14)=false:=by
 unfold li
 repeat(first|exact zA (ot _ _)|rfl|split)
def P9 (x:List eD×Int):Prop:=(x.2==14)=false
theorem CX(nodes:List eD)(S T:eu):((lv nodes S T).2==14)=false:=by
 show P9 (lv nodes S T);unfold lv;refine km P9 (show P9 (nodes,_)from rfl) ?_;refine km P9 (show P9 (nodes,_)from rfl) ?_;refine km P9 (show P9 (nodes,tk nodes _)from zA (ot _ _)) ?_;refine km P9 (show P9 (nodes,_)from rfl) ?_;refine km P9 (show P9 (nodes,pP nodes _)from zA (zz _ _)) ?_;refine km P9 (show P9 (nodes,_)from rfl) ?_;refine km P9 (show P9 (nodes,_)from rfl) ?_;refine km P9 (show P9 (nodes,_)from rfl) ?_;refine km P9 (show P9 (nodes,_)from rfl) ?_;refine km P9 (show P9 (nodes,_)from rfl) ?_;refine km P9 (show P9 (nodes,_)from rfl) ?_;rfl
theorem IJ(nodes:List eD)(data:eB)(S:eu):((P2 nodes data S).2==14)=false:=by
 unfold P2
 repeat(first|exact zA (ot _ _)|rfl|split)
theorem IK(nodes:List eD)(S:eu):((vd nodes S).2==14)=false:=by
 unfold vd
 repeat(first|exact zA (ot _ _)|rfl|split)
theorem FD(nodes:List eD)(S:eu):(mi nodes S).length<=nodes.length:=List.length_filter_le _ _
theorem Mz(nodes:List eD)(S:eu):(m4 nodes S).1.length<=nodes.length+1:=by
 unfold m4;split
 ·exact Hk _
 ·skip
  split
  ·exact Hk _
  ·skip
   split
   ·exact Hk _
   ·skip
    split
    ·exact Hk _
    ·skip
     split
     ·exact Hk _
     ·skip
      exact xM (by simp)
theorem IL(nodes:List eD)(S:eu):(li nodes S).1.length<=nodes.length+1:=by
 unfold li
 repeat(first|exact BV (FD _ _)|exact Hk _|split)
def Q9 (n:Nat)(x:List eD×Int):Prop:=x.1.length<=n+1
theorem IM(nodes:List eD)(S T:eu):(lv nodes S T).1.length<=nodes.length+1:=by
 have l:∀e:Int,Q9 nodes.length (nodes,e):=fun e=>Hk _;show Q9 nodes.length (lv nodes S T);unfold lv;refine km (Q9 nodes.length) (l _) ?_;refine km (Q9 nodes.length) (l _) ?_;refine km (Q9 nodes.length) (l _) ?_;refine km (Q9 nodes.length) (l _) ?_;refine km (Q9 nodes.length) (l _) ?_;refine km (Q9 nodes.length) (l _) ?_;refine km (Q9 nodes.length) (l _) ?_;refine km (Q9 nodes.length) (l _) ?_;refine km (Q9 nodes.length) (l _) ?_;refine km (Q9 nodes.length) (l _) ?_;refine km (Q9 nodes.length) (l _) ?_;show((mi nodes T).map (j2 S T)).length<=_;rw[kU];exact BV (FD _ _)
structure L4 (ei:List Ob)(ws:List Slot)(ds:List Doc)(k:Nat):Prop where
 len:ds.length=ws.length
 same:∀j (h:j<ws.length) (h':j<ds.length),gq ei ws[j].2.2.1.fl ws[j].2.2.1.op ws[j].2.2.2 ds[j].2.1 ds[j].2.2.1 ds[j].2.2.2/\ds[j].2.1.length<=k/\ds[j].2.2.1.length<=k
def fh (B0:Nat)(w:World)(W s r n:Nat):Prop:=∃R tg p lim ei ep got ws ds q8 q9 fH,e7 R tg w B0 W s r p lim ei ep got ws ds q8 q9 fH/\L4 ei ws ds (1200000+n)/\lim<=900*n/\q8<=n/\q9<=n/\fH<=n/\1<=ws.length/\ws.length<=n
theorem L4.mono{k a:Nat}(h:L4 ei ws ds k)(hk:k<=a):L4 ei ws ds a:=⟨h.len,fun j h1 h2=>⟨(h.same j h1 h2).1,pD (h.same j h1 h2).2.1 hk,pD (h.same j h1 h2).2.2 hk⟩⟩
theorem L4.set(h:L4 ei ws ds k)(hj:j<ws.length)(f:gq ei x.2.2.1.fl x.2.2.1.op x.2.2.2 d.2.1 d.2.2.1 d.2.2.2)(h1:d.2.1.length<=k+1)(h2:d.2.2.1.length<=k+1):L4 ei (ws.set j x) (ds.set j d) (k+1):=by
 refine⟨by simp[h.len],fun i hi g=>?_⟩;have l:i<ws.length:=by simpa using hi
 have m:i<ds.length:=by simpa using g
 simp only[BW];by_cases e:j=i
 ·subst e
  simp only;exact⟨f,h1,h2⟩
 ·simp only[eJ e]
  obtain⟨a,b,c⟩:=h.same i l m;exact⟨a,by omega,by omega⟩
theorem L4.Ug(h:L4 ei ws ds k)(hj:j<ws.length)(d:j<ds.length)(c:gq ei x.2.2.1.fl x.2.2.1.op x.2.2.2 ds[j].2.1 ds[j].2.2.1 ds[j].2.2.2):L4 ei (ws.set j x) ds k:=by
 refine⟨by simp[h.len],fun i hi a=>?_⟩;have b:i<ws.length:=by simpa using hi
 simp only[BW];by_cases e:j=i
 ·subst e
  simp only;exact⟨c,(h.same j b a).2⟩
 ·simp only[eJ e]
  exact h.same i b a
section
variable {R:pI}{tg:eM}{w:World}{B0 W s r p lim:Nat}{ei ep:List Ob}{got:List Int}{ws:List Slot}{ds:List Doc}{q8 q9 fH j:Nat}{B:WB}{g:WG}{t:LT}{Sb:Nat}{nodes:List eD}{data:eB}{rest:fE}
def PI (g:WG)(got:List Int):WG:={ g with fs:={ g.fs with got:=got,brk:=false } }
def Half (B0:Nat)(w w':World)(W s r p lim:Nat)(ei ep:List Ob)(ws:List Slot)(ds:List Doc)(q8 q9 fH j:Nat)(B:WB)(RK:List eD)(e6:eB)(rest':fE):Prop:=
 ∃b ey a t' c,e7 b ey w' B0 W s r p (lim+400) ei ep c (ws.set j (j+2,B,a,t')) ds q8 q9 fH/\gq ei a.fl a.op t' RK e6 rest'/\Below B0 w w'
theorem vL(M:e7 R tg w B0 W s r p lim ei ep got ws ds q8 q9 fH)(a:gS w W1)(m:eo (Mine (j+2)) tg ey W1 w'):Below B0 w w':=
 ⟨m.os.trans a.os,m.tape.trans a.tape,m.output.trans a.output,pD (pD M.size a.size) m.size |> fun h=>pD a.size m.size,fun k hk=>(m.block k (kv hk (pD M.size a.size)) (by rw[M.old k hk];exact Su (by omega))).trans (a.block k (kv hk M.size))⟩
theorem vM(M:e7 R tg w B0 W s r p lim ei ep got ws ds q8 q9 fH)(b:w.heap.size<W1.heap.size)(m:eo (Mine (j+2)) tg ey W1 w'):uh w.heap.size W1 w':=
 ⟨kv b m.size,fun o=>ig (a:=(eb w.heap.size o)) (m.block w.heap.size b (by rw[M.fresh w.heap.size (io _)];exact Su (by omega)))⟩
theorem xC(M:e7 R tg w B0 W s r p lim ei ep got ws ds q8 q9 fH)(hj:j<ws.length)(hx:ws[j]=(j+2,B,g,t))
  (hp:∀{W1:World},fT tg W1 s (j+2) p B ei (PI g got) lim t->eX ei t->Calls prog f args W1 fun e w'=>e=.returned v/\pn s (j+2) p B ei tg W1 w' (PI g got) (lim+400) RK e6 rest'):
  ∀W1,gS w W1->w.heap.size<W1.heap.size->Calls prog f args W1 fun e w'=>e=.returned v/\uh w.heap.size W1 w'/\Half B0 w w' W s r p lim ei ep ws ds q8 q9 fH j B RK e6 rest':=by
 intro W1 a b;obtain⟨hQ,hi,c⟩:=(M.below a).work hj hx;refine(hp hQ hi).mono ?_;rintro e w' ⟨d,ey,h,t',m,i,k,hg,l,n⟩;obtain⟨pt,o⟩:=c (by omega) m i k hg l;exact⟨d,vM M b m,_,ey,h,t',_,o,n,vL M a m⟩
theorem pq(h:j<ds.length)(hd:ds[j]=(Sb,nodes,data,rest))
  (hc:∀{F:Nat->Prop} {a:World},eN F a Sb nodes data rest->Calls prog f args a fun e w'=>e=.returned v/\eN (ie F a w') w' Sb RK e6 rest'/\en F a w'):
  ∀a,Half B0 w a W s r p lim ei ep ws ds q8 q9 fH j B RK e6 rest'->Calls prog f args a fun e w'=>e=.returned v/\
   ∃c ey b t' d,e7 c ey w' B0 W s r p (lim+400) ei ep d (ws.set j (j+2,B,b,t')) (ds.set j (Sb,RK,e6,rest')) q8 q9 fH/\gq ei b.fl b.op t' RK e6 rest'/\Below B0 w w':=by
 rintro a ⟨c,ey,b,t',d,g,i,l⟩;obtain⟨m,n⟩:=g.Ua h hd;refine(hc m).mono ?_;rintro e w' ⟨o,q,hk⟩;obtain⟨t,u⟩:=n q hk;exact⟨o,c,t,b,t',d,u,i,l.trans (g.low hk (fun k hk=>.inl (by rw[hk];intro e;have:=rp Prod.snd e;simp only at this;omega)))⟩
end
theorem IP{b:Nat}{t:fL}{z n:Nat}{xs:fE}(h:w.ownsRow b t z v n xs):∃a c,v=.slice a n c:=by
 rcases h.2 with⟨rfl,rfl⟩|⟨g,cap,_,rfl,_⟩
 ·exact⟨none,0,rfl⟩
 ·exact⟨_,_,rfl⟩
section
variable {R:pI}{tg:eM}{w:World}{B0 W s r p lim:Nat}{ei ep:List Ob}{got:List Int}{ws:List Slot}{ds:List Doc}{q8 q9 fH j n:Nat}
theorem qJ{c:pI}{e:List Int}{B:WB}{a:WG}{t':LT}{b:Nat}(L:L4 ei ws ds (1200000+n))(h:lim<=900*n)(h8:b<=n+1)(i:q9<=n)(k:fH<=n)(f:1<=ws.length)(l:ws.length<=n)(hj:j<ws.length)
  (M:e7 c ey w' B0 W s r p (lim+400) ei ep e (ws.set j (j+2,B,a,t')) (ds.set j d) b q9 fH)(g:gq ei a.fl a.op t' d.2.1 d.2.2.1 d.2.2.2)(h1:d.2.1.length<=1200000+n+1)(h2:d.2.2.1.length<=1200000+n+1):fh B0 w' W s r (n+1):=
 ⟨c,ey,p,lim+400,ei,ep,e,_,_,b,q9,fH,M,L.set hj g h1 h2,by omega,h8,by omega,by omega,by simpa using f,by simp;omega⟩
theorem RP(hn:n<=1048600)(M:e7 R tg w B0 W s r p lim ei ep got ws ds q8 q9 fH)(L:L4 ei ws ds (1200000+n))(O:lim<=900*n)(h8:q8<=n)(P:q9<=n)(Q:fH<=n)(F:1<=ws.length)(U:ws.length<=n)(hj:j<ws.length)(z:j<ds.length)(A a1 a2 a3:Int)(S T:eu)(la:e5)(lm lc:Nat)(hS:S.size<=1048576)(Y:T.size<=1048576)(hk:8<=A/\A<=12):
  eK 50 #[fj W,.pointer (some (eb (ws[j].2.1.wb) 0)),.pointer (some (eb (ds[j].1) 0)),.agg (ut A a1 a2 a3 S T la lm lc)] w fun e w'=>e=.returned (.bool true)/\fh B0 w' W s r (n+1)/\Below B0 w w':=by
 obtain⟨B,g,t,hx⟩:∃B g t,ws[j]=(j+2,B,g,t):=⟨_,_,_,by rw[<-M.slot j hj]⟩;obtain⟨Sb,nodes,data,rest,hd⟩:∃Sb nodes data rest,ds[j]=(Sb,nodes,data,rest):=⟨_,_,_,_,rfl⟩;obtain⟨u,Z,G⟩:=L.same j hj z;rw[hx,hd]at u;rw[hd]at Z G;rw[hx,hd];simp only at u Z G ⊢;have ab:=u.reads;have hs:=u.2;have H:Exact ei:=M.w3.qX.2.2.1;have E:=hs.fine (by omega);have I:S.size<=maxLen:=pD hS (by decide);have ac:T.size<=maxLen:=pD Y (by decide);have J:lim+1000<1099511627776:=by omega
 have ad:A=8\/A=9\/A=10\/A=11\/A=12:=by omega
 rcases ad with rfl|rfl|rfl|rfl|rfl
 ·refine(K8 W B.wb Sb a1 a2 a3 S T la lm lc (P2 nodes data S).1.1 (P2 nodes data S).1.2 (P2 nodes data S).2 (IJ _ _ _) _ w
   (xC M hj hx (fun hQ hi=>Tl hQ J rfl hi H ab.dir u S I)) ?_).mono ?_
  ·rintro V ⟨i,ey,k,t',q,d,_,_⟩ W2 D
   obtain⟨na,nc,da,dc,l⟩:=(d.below D).Ip j z;rw[hd]at l;exact K6 l E S (by omega) (show data.length<=1000000000 by omega)
  ·rintro e w' ⟨f,V,⟨i,ey,k,t',q,d,o,x⟩,C⟩
   refine⟨f,⟨i,ey,p,lim+400,ei,ep,q,_,_,q8,q9,fH,d.below C,(L.Ug hj z (by rw[hd];exact o)).mono (by omega),by omega,by omega,by omega,by omega,by simpa using F,by simp;omega⟩,x.trans (C.mono d.size)⟩
 ·obtain⟨xs,X⟩:∃xs,xs=(vd nodes S).1:=⟨_,rfl⟩
  have au:xs.length<=16:=by
   rw[X];unfold vd;split
   ·exact oY _
   ·split
    ·exact oY _
    ·split
     ·exact oY _
     ·show(rc nodes S).length<=16
      rw[lK];exact E.few S
  refine(K9 W B.wb Sb a1 a2 a3 S T la lm lc (vd nodes S).2 (IK _ _) xs (by omega)
   (fun a c w'=>∃i ey k t' q,e7 i ey w' B0 W s r p (lim+400) ei ep q (ws.set j (j+2,B,k,t')) ds q8 q9 fH/\gq ei k.fl k.op t' nodes data rest/\Below B0 w w'/\w'.ownsRow 0 9 1 (.slice a xs.length c) xs.length (fG xs)/\∀b,(Value.slice a xs.length c).ownBlock=some b->ey b=(0,0)/\B0<=b/\¬i.FN b/\¬i.FE b/\¬i.FI b)
   (fun w'=>fh B0 w' W s r (n+1)/\Below B0 w w') w ?_ ?_ ?_)
  ·intro W1 C ae
   obtain⟨hQ,hi,af⟩:=(M.below C).work hj hx;refine(Tm hQ J rfl hi H u S I).mono ?_;rintro e w' ⟨a,c,f,y,ey,k,t',m,ag,ah,hg,ai,o,_,K⟩;rw[<-X]at f y K;obtain⟨pt,d⟩:=af (by omega) m ag ah hg ai;have N:=M.below C;refine⟨a,c,f,vM M ae m,y,_,ey,k,t',_,d,o,vL M C m,y,fun b aj=>?_⟩;obtain⟨ak,al⟩:=K b aj;exact⟨al,pD N.size ak,fun hf=>by have:=N.names.lt b hf;omega,fun hf=>by have:=N.eG.lt b hf;omega,fun hf=>by have:=N.ids.lt b hf;omega⟩
  ·rintro a c V ⟨i,ey,k,t',q,d,_,_,_,_⟩ W2 D
   obtain⟨na,nc,da,dc,l⟩:=(d.below D).Ip j z;rw[hd]at l;refine(K5 l E S (by omega)).mono ?_;rintro e w' ⟨v,f,y,C⟩;rw[<-X]at y;have aa:=lw y (oY _);obtain⟨am,an,rfl⟩:=IP aa;exact⟨am,an,f,aa,C⟩
  ·rintro a c V ⟨i,ey,k,t',q,d,o,x,y,K⟩ W2 D
   have ao:=d.below D;refine(ao.Ub (by omega) (by omega) (eh y (fun g hg=>D.block g (ee y hg))) K).mono ?_;rintro e w' ⟨f,ap,aq,ar⟩;refine⟨f,⟨ap,ey,p,lim+400,ei,ep,q,_,_,q8+1,q9,fH,aq,(L.Ug hj z (by rw[hd];exact o)).mono (by omega),by omega,by omega,by omega,by omega,by simpa using F,by simp;omega⟩,(x.trans (D.mono d.size)).trans ar⟩
 ·refine(Hi W B.wb Sb a1 a2 a3 S T la lm lc (m4 nodes S).2 (FC _ _) _ _ w
   (xC M hj hx (fun hQ hi=>RM hQ J rfl hi H u S I))
   (pq z hd (fun l=>by obtain⟨na,nc,da,dc,h⟩:=l;exact Hf h E S (by omega)))).mono ?_
  rintro e w' ⟨f,i,ey,k,t',q,d,o,x⟩;exact⟨f,qJ L O (by omega) P Q F U hj d o (by have:=Mz nodes S;show(m4 nodes S).1.length<=_;omega) (BV G),x⟩
 ·refine(Ey W B.wb Sb a1 a2 a3 S T la lm lc (li nodes S).2 (CW _ _) _ _ w
   (xC M hj hx (fun hQ hi=>PD hQ J rfl hi H u S I))
   (pq z hd (fun l=>by obtain⟨na,nc,da,dc,h⟩:=l;exact Eu h E S (by omega)))).mono ?_
  rintro e w' ⟨f,i,ey,k,t',q,d,o,x⟩;exact⟨f,qJ L O (by omega) P Q F U hj d o (by have:=IL nodes S;show(li nodes S).1.length<=_;omega) (BV G),x⟩
 ·refine(Ez W B.wb Sb a1 a2 a3 S T la lm lc (lv nodes S T).2 (CX _ _ _) _ _ w
   (xC M hj hx (fun hQ hi=>PE hQ J rfl hi H u S T I ac))
   (pq z hd (fun l=>by obtain⟨na,nc,da,dc,h⟩:=l;exact Ex h E S T hS Y))).mono ?_
  rintro e w' ⟨f,i,ey,k,t',q,d,o,x⟩;exact⟨f,qJ L O (by omega) P Q F U hj d o (by have:=IM nodes S T;show(lv nodes S T).1.length<=_;omega) (BV G),x⟩
end
def xl (xs:List Int):fE:=xs.map (Value.int .i64)
theorem RQ{xs:List Int}(h:k<xs.length):(xl xs)[k]?=some (.int .i64 xs[k]):=by simp[xl,gJ h]
theorem RR(w:World):(Go.sizeOf 29).run prog w=.ok 1 w:=by kernel_rfl
def zB (w:World)(v:Value)(L:List Int):Prop:=w.ownsRow 0 29 1 v L.length (xl L)
theorem zB.shape(h:zB w v L):∃a c,v=.slice a L.length c:=by
 rcases h.2 with⟨rfl,h0⟩|⟨g,c,b,rfl,_⟩
 ·exact⟨none,0,by rw[h0]⟩
 ·exact⟨_,c,rfl⟩
theorem zB.at_{a:e5}{n c:Nat}(h:zB w (.slice a n c) L)(hk:k<L.length):∃g,a=some (eb g 0)/\g<w.heap.size/\w.cell? (eb g k)=some (.int .i64 L[k]):=by
 obtain⟨g,cap,hv⟩:=ej h (by omega);have b:=(kW hv).1;subst b;refine⟨g,rfl,ee h rfl,?_⟩
 have:=World.ownsRow.cells h (g:=g) rfl k _ (RQ hk)
 have e:((eb g 0):Addr).add k=(eb g k):=by
  cases k with
  |zero=>rfl
  |succ k=>simp[Addr.add]
 rw[e]at this;exact this
theorem IQ(b:zB w v got)(hl:got.length<=1099511627776):
  eK 201 #[v] w fun e w'=>∃a,e=.returned a/\w'.ownsRow w.heap.size 29 1 a got.length (xl got)/\gS w w':=by
 rcases b.2 with⟨rfl,h0⟩|⟨g,c,m,rfl,_⟩
 ·refine(AnyE.slices_Clone_nil Nr 0 0 w).mono ?_
  rintro e w' ⟨rfl,rfl⟩;obtain rfl:got=[]:=xF.1 h0;exact⟨_,rfl,UV _ _ _ _,i7 _ _⟩
 ·obtain⟨d,hi,f,h,i⟩:=H4 Oz
  refine(AnyE.slices_Clone Nr d _ 1 8 hi f h i rfl (by decide) RR g 0 got.length c (xl got) w (by simp[xl]) (by unfold maxLen;omega) (by omega) (fun j k hu=>by rw[PH];exact(World.ownsRow.cellAt b j (by have:=(s6.1 hu).1;simpa [xl]using this)).trans hu) ?_).mono ?_
  ·intro k hu
   obtain⟨x,_,rfl⟩:=H3.1 hu;rfl
  ·rintro e w' ⟨a,rfl,hr,hne,l⟩
   exact⟨_,rfl,hr,l⟩
theorem CY(p:Nat)(v:Value)(R:Value->World->Prop)(w:World)(c3:w.cell? (eb p 3)=some v)
  (hc:eK 201 #[v] w fun e w'=>∃a,e=.returned a/\R a w'):
  eK 151 #[fj p] w fun e w'=>∃a,e=.returned a/\R a w':=by
 have b:Hid _:=hc;clear hc;go_enter func151,ntmps151;go_wp2_with fail;refine g7 b.out ?_;rintro e w' ⟨a,rfl,c⟩;go_wp2;go_ret;exact⟨a,rfl,c⟩
theorem CZ(s p:Nat)(R:Value->World->Prop)(w:World)(c0:w.cell? (eb s 0)=some (fj p))
  (hc:eK 151 #[fj p] w fun e w'=>∃a,e=.returned a/\R a w'):
  eK 87 #[fj s] w fun e w'=>∃a,e=.returned a/\R a w':=by
 have b:Hid _:=hc;clear hc;go_enter func87,ntmps87;go_wp2_with fail;refine g7 b.out ?_;rintro e w' ⟨a,rfl,c⟩;go_wp2;go_ret;exact⟨a,rfl,c⟩
theorem FF{tg:eM}{s p:Nat}{brk:Bool}{lim:Nat}(h:fO tg w s p ei got brk lim)(hl:lim<=1099511627776):
  eK 87 #[fj s] w fun e w'=>∃b,e=.returned b/\w'.ownsRow w.heap.size 29 1 b got.length (xl got)/\gS w w':=by
 obtain⟨pN,ft,g,⟨a,cap,bf,bd,Df,Dd,c⟩,hg,hs,i⟩:=h;have d:=c.fZ.at_;have c3:w.cell? (eb p 3)=some (.slice ft.a ft.n ft.c):=by unfold eW at d;simp[World.cell?,d]
 have f:=hg.1;rw[hg.2.1]at f c3;exact CZ s p _ w c.c0 (CY p _ _ w c3 (IQ f (by omega)))
theorem IU{x:Int}{m:Nat}(h:m<got.length):(got.take (m+1)).count x=(got.take m).count x+if got[m]=x then 1 else 0:=by
 rw[sZ h,List.count_append,List.count_singleton];by_cases e:got[m]=x<;>simp[e]
theorem C0(W s k wc:Nat)(wa:e5)(got:List Int)(R:World->Prop)(w:World)(hW:W<w.heap.size)(c0:w.cell? (eb W 0)=some (fj s))(c5:w.cell? (eb W 5)=some (.slice wa k wc))
  (Z:got.length<=1000000000)(hk:k<=1000000000)(I:∀x,got.count x<=k)
  (hf:eK 87 #[fj s] w fun e w'=>∃J,e=.returned J/\w'.ownsRow w.heap.size 29 1 J got.length (xl got)/\gS w w')
  (K:∀j (hj:j<got.length),∃r:Int,0<=r/\∀w',gS w w'->eK 41 #[fj W,.int .i64 got[j]] w' fun e aa=>e=.returned (ed r)/\aa=w')
  (L:∀b la c,gS w b->b.ownsRow w.heap.size 29 1 (.slice la got.length c) got.length (xl got)->eK 88 #[.pointer (some (eb W 8)),.slice la got.length c] b fun e w'=>e=.returned (.tuple #[])/\R w'):
  eK 46 #[fj W] w fun e w'=>e=.returned (.bool true)/\R w':=by
 have ab:Hid _:=hf;have ac:Hid _:=K;have ad:Hid _:=L;have ae:Hid _:=I;obtain⟨n,hn⟩:∃n,n=got.length:=⟨_,rfl⟩;have o:Hid (n=got.length):=hn;rw[<-hn]at Z;clear hf K L I hn;go_enter func46,ntmps46;go_wp2_with fail;refine g7 ab.out ?_;rintro _ b ⟨v,rfl,t,u⟩;obtain⟨a,c,rfl⟩:=zB.shape (ri t);have M:Hid (b.ownsRow w.heap.size 29 1 (.slice a got.length c) got.length (xl got)):=t;have z:Hid (gS w b):=u;have B:W<b.heap.size:=kv hW u.size;have d5:=(u.cell (p:=(eb W 5)) hW).trans c5;rw[<-o.out];have N:∀j (hj:j<got.length),∃g,a=some (eb g 0)/\g<b.heap.size/\b.cell? (eb g j)=some (.int .i64 got[j]):=fun j hj=>zB.at_ (ri t) hj;have C:Hid _:=N;clear t u N c0 c5;go_wp2
 go_loopw [4] (fun i wr=>∃j:Nat,j<=n/\i=.int .i64 (j:Int)/\Hid (gS b wr)) (fun i _=>n-(intOf i).toNat)
 case atStart=>exact⟨0,oY _,rfl,i7 _ _⟩
 case round=>
  obtain⟨j,hj,rfl,A⟩:=hrel;by_cases af:j<n
  ·have av:(j:Int)<(n:Int):=by omega
   have O:j<got.length:=by rw[<-o.out];exact af
   obtain⟨g,ag,D,P⟩:=C.out j O;obtain⟨r,aw,q⟩:=ac.out j O;have ah:Hid _:=q;obtain⟨x,hx⟩:∃x,x=got[j]:=⟨_,rfl⟩;rw[<-hx]at P;have ai:Hid (x=got[j]):=hx;subst ag;clear hx q;go_wp2
   go_loopw [5,6] (fun d E aj=>∃m:Nat,m<=n/\E=.int .i64 (m:Int)/\d=.int .i64 (((got.take m).count x:Nat):Int)/\Hid (gS b aj)) (fun _ E _=>n-(intOf E).toNat)
   case atStart=>exact⟨0,oY _,rfl,rfl,A⟩
   case round=>
    obtain⟨m,hm,rfl,rfl,f⟩:=hrel;have ax:g<wr.heap.size:=kv D f.out.size;have ay:wr.cell? (eb g j)=some (ed x):=(f.out.cell (p:=(eb g j)) D).trans P;by_cases ak:m<n
    ·have az:(m:Int)<(n:Int):=by omega
     have TB:m<got.length:=by rw[<-o.out];exact ak
     obtain⟨aA,al,aB,Q⟩:=C.out m TB;cases al;have am:wr.cell? (eb g m)=some (.int .i64 got[m]):=(f.out.cell (p:=(eb g m)) D).trans Q;obtain⟨y,F⟩:∃y,y=got[m]:=⟨_,rfl⟩;rw[<-F]at am;have S:Hid (y=got[m]):=F;have T:Hid _:=IU (x:=x) TB;have an:(got.take m).count x<=n:=by have:=List.count_le_length (a:=x) (l:=got.take m);rw[Hc]at this;omega
     obtain⟨d,h⟩:∃d,d=(got.take m).count x:=⟨_,rfl⟩;rw[<-h]at an;rw[<-h];have U:Hid (d=(got.take m).count x):=h;clear F h Q;cases V:(y==x) with
     |true=>
      have G:=eq_of_beq V;go_wp2
      go_region
      all_goals
       go_wp2;go_roundw
       case rel=>exact⟨m+1,by omega,by go_num,by rw[T.out,fY (by rw[<-S.out];exact G),<-U.out];go_num,PP f.out _⟩
       case measure=>simp[intOf];omega
     |false=>
      have G:=ne_of_beq_false V;go_wp2
      go_region
      all_goals
       go_wp2;go_roundw
       case rel=>exact⟨m+1,by omega,by go_num,by rw[T.out,eJ (by rw[<-S.out];exact G),<-U.out];rfl,PP f.out _⟩
       case measure=>simp[intOf];omega
    ·have aC:m=n:=by omega
     have ao:decide ((m:Int)<(n:Int))=false:=m6 (by omega);have X:(got.take m).count x=got.count x:=by rw[jH (by rw[<-o.out];omega)]
     have ap:=ae.out x;rw[X];obtain⟨d,h⟩:∃d,d=got.count x:=⟨_,rfl⟩;rw[<-h]at ap ⊢;have aq:W<wr.heap.size:=kv B f.out.size;have aD:=(f.out.cell (p:=(eb W 5)) B).trans d5;have aE:decide (r<0)=false:=m6 (by omega);have aF:decide ((k:Int)<(d:Int))=false:=m6 (by omega);have q:=ah.out wr (z.out.trans (f.out.mono z.out.size));rw[<-ai.out]at q;clear X h C;go_wp2_with(go_at_call 41;refine g7 q ?_;rintro _ _ ⟨rfl,rfl⟩);go_roundw
     case rel=>exact⟨j+1,by omega,by go_num,f⟩
     case measure=>simp[intOf];omega
  ·have aG:j=n:=by omega
   have ao:decide ((j:Int)<(n:Int))=false:=m6 (by omega);have aq:W<wr.heap.size:=kv B A.out.size;have Y:wr.ownsRow w.heap.size 29 1 (.slice a got.length c) got.length (xl got):=eh M.out (fun g hg=>A.out.block g (ee M.out hg));have H:=ad.out wr a c (z.out.trans (A.out.mono z.out.size)) Y;rw[<-o.out]at H;have ar:Hid _:=H;clear Y H;go_wp2_with(go_at_call 88;refine g7 ar.out ?_;rintro _ w5 ⟨rfl,au⟩);go_ret;exact⟨rfl,au⟩
theorem xm{P:Program}(w:World)(t a e:fL)(i:TypeInfo)(ht:P.underlying t=some (.slice e))(hi:P.info? e=some i):(Builtin.append_ #[t,t] a #[.slice none 0 0,.slice none 0 0]).run P w=.ok (.slice none 0 0) w:=by
 simp[Builtin.append_,M7 ht,sizeOf,typeInfo,hi,Builtin.lenOf,Builtin.firstCells]
theorem ou{P:Program}{ops:Array Oper}{o:Oper}{a:Act}{K:Act->World->Prop}{m:Exit->Act->World->Prop}{p:Prop}
  (hg:o.guard=none)(s x:Operand)(t:fL)(h:o.op=Op.call { callee:=Callee.builtin Builtin.append,args:=#[s,x],argTypes:=#[t,t] })
  (e:fL)(i:TypeInfo)(z:Value)(size bytes:Nat)(h1:P.underlying t=some (.slice e))(h2:P.info? e=some i)(h3:i.zero=some z)(q:i.size=size)(r:i.bytes=bytes)(h6:z.cells.size=size)(u:0<size)
  (hs:a.eval s=.slice none 0 0)(j:e5)(n c:Nat)(xs:fE)(hx:a.eval x=.slice j n c)(d:w.ownsRow 0 e size (.slice j n c) n xs)(v:∀y∈xs,y.oneCell'=true)
  (D:n<=maxLen)(A:n*bytes<=140737488355328)
  (k:∀b w',w'.ownsRow 0 e size b n xs->w.grownBy w' none->(b.ownBlock=none\/b.ownBlock=some w.heap.size)->K (a.put o.dst b) w'):
  if Region.wanted o (yielded ops a.tmps)=true then Oper.wp P o a w K m else p:=by
 have hw:Region.wanted o (yielded ops a.tmps)=true:=by simp[Region.wanted,hg]
 rw[fY hw];rcases d.2 with⟨hv,hn⟩|⟨g,cap,E,hv,_⟩
 ·cases hv
  have f:=xm (P:=P) w t o.type e i h1 h2;unfold Oper.wp;simp[execOp,h,resolve,invoke,builtin,hs,hx,f,Result.andThen];exact k _ _ d ⟨rfl,rfl,rfl,io _,fun _ _ _=>rfl⟩ (.inl rfl)
 ·cases hv
  obtain⟨b,w',f,l,B,_,C⟩:=run_append_own_at (P:=P) w 0 t o.type e i z size bytes h1 h2 h3 q r h6 u (.slice none 0 0) 0 [] (UV w _ e size) (eb g 0) n c xs d.1 (d.cells (g:=g) rfl) v (by omega) (by rw[PH];exact A) (oY _);rw[PH,w8]at l;unfold Oper.wp;simp[execOp,h,resolve,invoke,builtin,hs,hx,f,Result.andThen];exact k _ _ l B C
theorem eV.RS{F:Nat->Prop}{S:Nat}{na da:e5}{nc dc:Nat}(h:eV F w S na da nc dc nodes data rest)(j:Nat)(v:Value):
  eV F (w.setCell (eb S (2+j)) v) S na da nc dc nodes data (rest.set j v)/\en F w (w.setCell (eb S (2+j)) v):=by
 have hne:∀g,g≠S->(w.setCell (eb S (2+j)) v).heap[g]?=w.heap[g]?:=fun g hg=>ij _ _ _ _ hg;refine⟨⟨h.fS,?_,eh h.iP (fun g hg=>hne g (fun e=>?_)),eh h.fP (fun g hg=>hne g (fun e=>?_)),h.fn,h.fd⟩,⟨rfl,rfl,rfl,by simp,fun k hk hn=>hne k (fun e=>hn (by rw[e];exact h.fS))⟩⟩
 ·have e2:(2+j)=j+1+1:=by omega
  simp[World.setCell,xE,h.hS,e2]
 ·subst e;exact eI h.iP h.hS (by decide) hg.symm
 ·subst e;exact eI h.fP h.hS (by decide) hg.symm
end Go.Proofs.YtlgidcmmgohagaaGreat
