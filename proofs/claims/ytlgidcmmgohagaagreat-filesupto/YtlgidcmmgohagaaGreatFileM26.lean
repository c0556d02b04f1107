/- What is proved here: what is copied out of a stored Qq. -/
import Derived.Test.YtlgidcmmgohagaaGreatFileM25
import Derived.Test.YtlgidcmmgohagaaGreatFileM06
import Derived.Test.YtlgidcmmgohagaaGreatFileM24
import Derived.Test.YtlgidcmmgohagaaGreatFileM14
import Derived.Shelf.SlicesE.Clone
import Derived.Test.YtlgidcmmgohagaaGreatFileM10
namespace Go.Proofs.YtlgidcmmgohagaaGreat
open Go.RowKit Go.Sort Go.Shelf Go.Proofs.Tryz
set_option linter.unusedVariables false
set_option maxRecDepth 100000
set_option maxHeartbeats 16000000
variable {v:Value}{rest rest':fQ}{W1 w w':World}{t:LT}{f j k:Nat}{args:Array Value}{P data fE q:eL}{L got:List Int}{fc:Hd}{a ey:List Ob}{nodes jb:List eN}{eF:eV}{d:Doc}{ws:List Slot}{x:Slot}{ds:List Doc}
def ro:Nat->List (eL×Nd)->List eN
 |_,[]=>[]
 |k,(y,.dir)::r=>(ez y,2,0)::ro k r
 |k,(y,.file d)::r=>(ez y,1,(k:Int))::ro (k+1) r
def mi:List (eL×Nd)->eL
 |[]=>[]
 |(_,.dir)::r=>mi r
 |(_,.file d)::r=>d::mi r
theorem uL:∀(L M:List (eL×Nd)) (k:Nat),ro k (L++M)=ro k L++ro (k+(mi L).length) M
 |[],M,k=>rfl
 |(y,.dir)::r,M,k=>by
  rw[uQ,ro,ro,uL r M k,mi];rfl
 |(y,.file d)::r,M,k=>by
  rw[uQ,ro,ro,uL r M (k+1),mi,jA,show k+((mi r).length+1)=k+1+(mi r).length by omega];rfl
theorem pV:∀(L M:List (eL×Nd)),mi (L++M)=mi L++mi M
 |[],M=>rfl
 |(y,.dir)::r,M=>by rw[uQ,mi,mi,pV r M]
 |(y,.file d)::r,M=>by rw[uQ,mi,mi,pV r M];rfl
theorem yN:∀(L:List (eL×Nd)) (k:Nat),(ro k L).length=L.length
 |[],k=>rfl
 |(y,.dir)::r,k=>by rw[ro,jA,jA,yN r k]
 |(y,.file d)::r,k=>by rw[ro,jA,jA,yN r (k+1)]
theorem tY:∀(L:List (eL×Nd)),(mi L).length<=L.length
 |[]=>kx _
 |(y,.dir)::r=>by rw[mi,jA];exact Fc (tY r)
 |(y,.file d)::r=>by rw[mi,jA,jA];exact Nat.succ_le_succ (tY r)
theorem pW:∀(L:List (eL×Nd)) (k:Nat),(ro k L).map (·.1)=L.map fun x=>ez x.1
 |[],k=>rfl
 |(y,.dir)::r,k=>by rw[ro,jg,jg,pW r k]
 |(y,.file d)::r,k=>by rw[ro,jg,jg,pW r (k+1)]
theorem pX:∀(L:List (eL×Nd)) (k:Nat),∀e∈ro k L,(e.2.1=1\/e.2.1=2)/\(e.2.1=1->0<=e.2.2/\e.2.2<((k+(mi L).length:Nat):Int))
 |[],k=>by intro e a;cases a
 |(y,.dir)::r,k=>by
  intro e a
  rw[ro]at a
  rcases gU.1 a with rfl|a
  ·exact⟨.inr rfl,fun h=>by cases h⟩
  ·rw[mi];exact pX r k e a
 |(y,.file d)::r,k=>by
  intro e a
  rw[ro]at a
  rw[mi,jA]
  rcases gU.1 a with rfl|a
  ·exact⟨.inl rfl,fun _=>⟨show(0:Int)<=(k:Int) by omega,show(k:Int)<_ by omega⟩⟩
  ·have:=pX r (k+1) e a
   rw[show k+1+(mi r).length=k+((mi r).length+1) by omega]at this
   exact this
theorem Cv(hq:eH q):∀(L:List (eL×Nd)) (ds a:eL),(∀x∈L,eH x.1)->
  (((ro ds.length L).find? fun e=>decide (e.1=ez q)).map fun e=>Gx (ds++mi L++a) e.2)=(L.find? fun x=>decide (x.1=q)).map (·.2)
 |[],ds,a,_=>rfl
 |(y,.dir)::r,ds,a,h=>by
  rw[ro,KT,KT]
  have b:=h _ (jS ..)
  by_cases e:y=q
  ·subst e
   simp only[decide_true,mq]
   rfl
  ·have c:¬ez y=ez q:=fun h=>e (pw b hq h)
   simp only[rk e,rk c]
   exact Cv hq r ds a (fun x hx=>h x (pn _ hx))
 |(y,.file d)::r,ds,a,h=>by
  rw[ro,KT,KT]
  have b:=h _ (jS ..)
  by_cases e:y=q
  ·subst e
   simp only[decide_true,mq,mi]
   have:Gx (ds++d::mi r++a) (1,(ds.length:Int))=.file d:=by
    unfold Gx;rw[fY (show ¬(1:Int)=2 by decide)];simp
   rw[this]
  ·have c:¬ez y=ez q:=fun h=>e (pw b hq h)
   simp only[rk e,rk c]
   have:=Cv hq r (ds++[d]) a (fun x hx=>h x (pn _ hx))
   rw[mb,List.length_singleton,kC ds,SY]at this;exact this
theorem Cw(x:eD)(a:eH P):jJ (ez P) x=ez (P++[x]):=by
 apply gy;unfold jJ;by_cases h:P=[]
 ·subst h
  rw[ie (by rw[gF];exact ir []),ir];rfl
 ·have h1:¬(ez P).toList=[]:=fun e=>h ((tV a).1 (by rw[<-pm,<-gF,e];rfl))
  rw[fY h1,oH,oH,ir,ir,nM,List.map_singleton,vv _ _ (by simpa using h)];simp[PQ]
section
variable {ey eC:List Ob}{fc:Hd}
theorem OW(h:Twin ey eC){i:Nat}(hi:i<ey.length):∃hr:i<eC.length,vF ey[i] eC[i]:=⟨by rw[<-h.1];exact hi,h.2.1 i hi (by rw[<-h.1];exact hi)⟩
def thX (ey:List Ob)(fc:Hd)(n:Nat)(P:eL)(x:eD×LT):List (eL×Nd):=(P++[x.1],nd ey fc x.2)::(if x.2.kind=2 then mf ey fc n (P++[x.1]) x.2 else [])
theorem VU(n:Nat)(P:eL)(m:eD)(i:Int):thX ey fc n P (m,.file i)=[(P++[m],.file (bytesOf ey i))]:=rfl
theorem Yr(n:Nat)(P:eL)(m:eD)(i:Int):thX ey fc n P (m,.dir i)=(P++[m],.dir)::mf ey fc n (P++[m]) (.dir i):=rfl
theorem Ki{fuel n:Nat}(c:eH P)(a:Nat->eD->St->St)
  (Dj:∀(e:eN) (st:St),(fH e).2.2.toNat<fuel->eG e.1=true->e.2.1=2->eM ey e.2.2=2->fB ey e.2.2<=n->a (fH e).2.2.toNat (ez (P++[e.1])) st=(st.1++ro st.2.length (mf ey fc n (P++[e.1]) (.dir e.2.2)),st.2++mi (mf ey fc n (P++[e.1]) (.dir e.2.2))))
  (d:∀e:eN,eM ey e.2.2=1->vV eC (fH e).2.2=bytesOf ey e.2.2):
  ∀(es:List eN) (st:St),(∀e∈es,eG e.1=true/\(e.2.1=1\/e.2.1=2)/\eM ey e.2.2=e.2.1/\fB ey e.2.2<=n/\(fH e).2.2.toNat<fuel)->
   (es.map fH).foldl (vy eC a (ez P)) st=(st.1++ro st.2.length ((es.map iF).flatMap (thX ey fc n P)),st.2++mi ((es.map iF).flatMap (thX ey fc n P)))
 |[],st,_=>by simp[ro,mi]
 |e::r,st,h=>by
  obtain⟨h1,h2,h3,g,i⟩:=h e (jS ..)
  rw[jg,Aq,jg,col]
  have b:(fH e).1=e.1/\(fH e).2.1=e.2.1:=⟨rfl,rfl⟩
  have f:=fun j=>Ki (fuel:=fuel) c a Dj d r j (fun x hx=>h x (pn _ hx))
  rcases h2 with k|k
  ·have hk:iF e=(e.1,.file e.2.2):=by unfold iF ltOf;rw[fY (by rw[k];decide)]
   have hs:vy eC a (ez P) st (fH e)=(st.1++[(ez (P++[e.1]),1,(st.2.length:Int))],st.2++[bytesOf ey e.2.2]):=by
    unfold vy;rw[ie (by rw[b.2];exact k),b.1,Cw _ c,d e (h3.trans k)]
   rw[hs,f,hk,VU,uL,pV];simp only[ro,mi,mb,jA,wA,kC,uQ,zR]
  ·have hk:iF e=(e.1,.dir e.2.2):=by unfold iF ltOf;rw[ie k]
   have hs:vy eC a (ez P) st (fH e)=((st.1++[(ez (P++[e.1]),2,0)])++ro st.2.length (mf ey fc n (P++[e.1]) (.dir e.2.2)),st.2++mi (mf ey fc n (P++[e.1]) (.dir e.2.2))):=by
    unfold vy;rw[fY (by rw[b.2,k];decide),b.1,Cw _ c,Dj e _ i h1 k (h3.trans k) g]
   rw[hs,f,hk,Yr,uL,pV];simp only[ro,mi,mb,kC,uQ,zR]
theorem Cx(c:Twin ey eC)(d:Exact ey)(i:iL eC):∀(n fuel at_:Nat) (P:eL) (st:St),at_<fuel->eH P->eM ey ((at_:Int)+1)=2->fB ey ((at_:Int)+1)<=n->
  gQ eC fuel at_ (ez P) st=(st.1++ro st.2.length (mf ey fc n P (.dir ((at_:Int)+1))),st.2++mi (mf ey fc n P (.dir ((at_:Int)+1))))
 |n,0,at_,P,st,h,_,_,_=>absurd h (Th _)
 |n,fuel+1,at_,P,st,h,j,hk,D=>by
  have f:at_<ey.length:=by
   by_cases hl:at_<ey.length
   ·exact hl
   ·rw[Pl (.inr (by omega))]at hk;cases hk
  obtain⟨hr,k⟩:=OW c f;have l:ey[at_].kind=2:=by rw[<-tx f];exact hk
  have m:eZ ey ((at_:Int)+1)=ey[at_].eR:=by
   unfold eZ;rw[show((at_:Int)+1-1).toNat=at_ by omega,jy f];rfl
  obtain⟨_,_,g⟩:=d.sound.2 _ hk;rw[m]at g;have a:Aj eC at_=ey[at_].eR.map fH:=by
   unfold Aj;rw[jy hr,mq,qj,k.eR l]
  rw[gQ,a];have s:∀e:eN,eM ey e.2.2=1->vV eC (fH e).2.2=bytesOf ey e.2.2:=fun e o=>by
   obtain⟨p,b⟩:=PH (by rw[o];decide);obtain⟨t,u⟩:=OW c b;have v:ey[(e.2.2-1).toNat].kind=1:=by
    have:=o
    unfold eM at this;rw[ie p,jy b]at this;exact this
   unfold vV bytesOf fH;rw[jy t,jy b,mq,mq,qj,qj,u.data v]
  cases n with
  |zero=>
   have:ey[at_].eR=[]:=by
    cases w:ey[at_].eR with
    |nil=>rfl
    |cons e r=>
     have:=(g e (by rw[w];exact jS ..)).2.2.2
     have:=d.sound.1 e.2.2
     omega
   rw[this];simp[mf,ro,mi]
  |succ n=>
   rw[mf];simp only[kids,qj,m];refine Ki (fuel:=fuel) j (gQ eC fuel) (fun e x y A e2 q B=>?_) s ey[at_].eR st (fun e a=>?_)
   ·obtain⟨p,b⟩:=PH (by rw[q];decide)
    have hx:(((fH e).2.2.toNat:Nat):Int)+1=e.2.2:=by unfold fH;simp only;omega
    have:=Cx c d i n fuel (fH e).2.2.toNat (P++[e.1]) x y (j.append (fun z C=>by rw[nh.1 C];exact A)) (by rw[hx];exact q) (by rw[hx];exact B)
    rw[hx]at this;exact this
   ·obtain⟨t1,t2,t3,t4⟩:=g e a
    have E:=i at_ hr (fH e) (by rw[k.eR l];exact CM a);exact⟨t1,t2,t3,by omega,by omega⟩
theorem Sk(hS:Sound a)(ht:eU a 5 t)(hq:q≠[]):((mf a fc 5 [] t).find? fun x=>decide (x.1=q)).map (·.2)=UV a fc t q:=by
 cases hf:(mf a fc 5 [] t).find? fun x=>decide (x.1=q) with
 |some x=>
  have h1:=EU hf;have h2:x.1=q:=by simpa using Pq hf
  obtain⟨_,h3⟩:=(Cu hS ht).1 (show(x.1,x.2)∈_ from h1);rw[h2]at h3;rw[h3];rfl
 |none=>
  cases hs:UV a fc t q with
  |none=>rfl
  |some d=>
   have:=Td.1 hf _ ((Cu hS ht).2 ⟨hq,hs⟩)
   simp at this
theorem uM(hS:Sound a)(ht:eU a 5 t):∀x∈mf a fc 5 [] t,x.1≠[]/\eH x.1/\x.1.length<=5:=fun x hx=>by
 obtain⟨h1,h2⟩:=(Cu hS ht).1 (show(x.1,x.2)∈_ from hx)
 unfold UV at h2
 cases b:t.at a x.1 with
 |none=>rw[b]at h2;cases h2
 |some c=>
  have:=py hS _ ht b
  exact⟨h1,this.2.2,this.1⟩
theorem EM(hS:Sound a)(ht:eU a 5 t)(hk:t.kind=2):Reads a fc t (ro 0 (mf a fc 5 [] t)) (mi (mf a fc 5 [] t)):=fun q hq=>by
 unfold eX
 by_cases h0:q=[]
 ·subst h0
  rw[ie rfl,gw]
  cases t<;>first|rfl|cases hk
 ·rw[fY h0,Tk,<-Sk hS ht h0]
  have:=Cv hq (mf a fc 5 [] t) [] [] (fun x hx=>(uM hS ht x hx).2.1)
  simp only[zR,ql,wA]at this
  rw[<-this]
  rfl
theorem Sl(hS:Sound a)(ht:eU a 5 t)(hk:t.kind=2):eY (ro 0 (mf a fc 5 [] t)) (mi (mf a fc 5 [] t)):=by
 have k:=EM (fc:=fc) hS ht hk;have i:mR (ro 0 (mf a fc 5 [] t)):=fun e f=>by
  have hm:e.1∈(ro 0 (mf a fc 5 [] t)).map (·.1):=CM f;rw[pW]at hm;obtain⟨x,hx,u⟩:=ij.1 hm;obtain⟨v,w,g3⟩:=uM hS ht x hx;exact⟨x.1,v,w,g3,u.symm⟩
 have m:mY (ro 0 (mf a fc 5 [] t)):=by
  unfold mY;rw[pW];refine CO.2 ((Ct hS (fc:=fc) 5 [] t ht).imp_of_mem (fun {x y} hx A Ab e=>Ab ?_))
  have:=pw (uM hS ht x hx).2.1 (uM hS ht y A).2.1 e
  rw[this];exact oU _
 have j:∀l x,eH (l++[x])->eX (ro 0 (mf a fc 5 [] t)) (l++[x])≠none->∃d ks,t.at a l=some d/\kids a d=some ks/\x∈ks.map (·.1):=fun l x hv hn=>by
  have h1:UV a fc t (l++[x])≠none:=fun e=>hn ((k.empty hv).2 e);unfold UV at h1;cases n:t.at a (l++[x]) with
  |none=>rw[n]at h1;exact absurd rfl h1
  |some c=>
   obtain⟨d,ks,h2,h3,B⟩:=um n;exact⟨d,ks,h2,h3,ij.2 ⟨_,oI B,rfl⟩⟩
 refine⟨i,m,fun d hd=>?_,fun e f=>(pX _ _ e f).1,fun e f h1=>?_,fun l x hv hn=>?_⟩
 ·cases hi:eO (ro 0 (mf a fc 5 [] t)) (ez d) with
  |nil=>simp
  |cons y r=>
   rw[<-hi];have qa:=tW i m hd;have o:∀z∈(eO (ro 0 (mf a fc 5 [] t)) (ez d)).map (·.1),eG z=true/\eX (ro 0 (mf a fc 5 [] t)) (d++[z])≠none:=fun z g=>by
    obtain⟨e,f,rfl⟩:=ij.1 g;obtain⟨x,hx,hn,rfl⟩:=(uI i hd).1 f;exact⟨hx,(ou (by simp)).2 hn⟩
   have p:∀z,eG z=true->eH (d++[z]):=fun z g=>hd.append (fun E hu=>by rw[nh.1 hu];exact g);obtain⟨h1,h2⟩:=o y.1 (by rw[hi];exact jS ..);obtain⟨c,ks,hc,h,_⟩:=j d y.1 (p _ h1) h2;have iE:=(lj hS (py hS d ht hc).2.1 h).2.1
   have:=gZ qa (ys:=ks.map (·.1)) (fun z g=>by
    obtain⟨C,D⟩:=o z g;obtain⟨F,G,q,s,hm⟩:=j d z (p _ C) D;rw[hc]at q;cases q;rw[h]at s;cases s;exact hm)
   rw[nD,nD]at this;omega
 ·have:=(pX _ _ e f).2 h1
  rw[iP]at this;exact this
 ·obtain⟨c,ks,hc,h,_⟩:=j l x hv hn
  have h1:=k l hv.left;unfold UV at h1;rw[hc,mq]at h1;cases hl:eX (ro 0 (mf a fc 5 [] t)) l with
  |none=>rw[hl]at h1;cases h1
  |some y=>
   rw[hl,mq,mZ]at h1;have hn:nd a fc c=.dir:=by
    cases qa:nd a fc c with
    |dir=>rfl
    |file b=>rw[nW qa]at h;cases h
   rw[hn,Gx]at h1;split at h1
   ·rename_i h2
    exact⟨y.2,by rw[<-h2]⟩
   ·cases h1
theorem Np(hS:Sound a)(ht:eU a 5 t):(mf a fc 5 [] t).length<=1200000:=by
 have h1:=xI (fc:=fc) hS 5 [] t ht;rw[zJ,nD]at h1;exact wl h1 (by decide)
end
theorem VV{fl:Nat->Option (Int×eD)}(h:tP ey fl)(l:List Ob):ki (ey++l) fl=ki ey fl:=by
 funext f
 unfold ki;cases hf:fl f with
 |none=>rfl
 |some x=>
  obtain⟨id,d⟩:=x;simp only;by_cases h0:id≠0
  ·rw[ie h0,ie h0,td l (by rw[h f id d hf h0];decide)]
  ·rw[fY h0,fY h0]
theorem Reads.aat{c:Hd}(h:Reads ey c t nodes data)(hS:Sound ey)(a:eU ey 5 t)(l:List Ob):Reads (ey++l) c t nodes data:=fun q hq=>by
 rw[OL hS l _ q 5 t a]
 exact h q hq
theorem iV.app{fl:Sh}{op:Yo}(h:iV ey fl op t nodes data rest)(hS:Sound ey)(b:eU ey 5 t)(g:tP ey fl)(l:List Ob):iV (ey++l) fl op t nodes data rest:=by
 obtain⟨⟨i,hs,j,e,a⟩,h2⟩:=h;exact⟨⟨i,hs,j,e,a.inj,fun f hf=>by rw[VV g l];exact a.cont f hf,fun c d hd=>(a.par c d hd).aat hS b l,a.num,a.h8,a.tab,a.Wv⟩,h2⟩
theorem Reads.dir(h:Reads ey fc t nodes data):t.kind=2:=by
 have:=h [] (fun x hx=>by cases hx)
 rw[gw]at this;cases t<;>first|rfl|(exfalso;cases this)
theorem qT(nodes:List eN)(l:eL):zt nodes l=0\/zt nodes l=4\/zt nodes l=5:=by
 unfold zt;cases hf:(List.range l.length).findSome? (iA nodes l) with
 |none=>exact .inl rfl
 |some e=>
  obtain⟨_,j,_,_,hj,_⟩:=List.findSome?_eq_some_iff.1 hf;unfold iA at hj;split at hj
  ·cases hj;exact .inr (.inr rfl)
  ·split at hj
   ·cases hj;exact .inr (.inl rfl)
   ·cases hj
theorem Cy(nodes:List eN)(l:eL):sy nodes l=0\/sy nodes l=4\/sy nodes l=5:=by
 unfold sy;split
 ·exact qT _ _
 ·split
  ·exact .inr (.inr rfl)
  ·exact .inl rfl
theorem Cz{e:Int}(h:e=0\/e=4\/e=5):(e==14)=false:=by
 rcases h with h|h|h<;>(rw[h];rfl)
theorem Kj(nodes:List eN)(S:eD):((rc nodes S).2==14)=false:=by
 unfold rc
 repeat(first|exact Cz (Cy _ _)|rfl|split)
theorem GC(nodes:List eN)(S:eD):((nz nodes S).2==14)=false:=by
 unfold nz
 repeat(first|exact Cz (qT _ _)|rfl|split)
def P9 (x:List eN×Int):Prop:=(x.2==14)=false
theorem GD(nodes:List eN)(S T:eD):((pd nodes S T).2==14)=false:=by
 show P9 (pd nodes S T);unfold pd;refine ly P9 (show P9 (nodes,_)from rfl) ?_;refine ly P9 (show P9 (nodes,_)from rfl) ?_;refine ly P9 (show P9 (nodes,zt nodes _)from Cz (qT _ _)) ?_;refine ly P9 (show P9 (nodes,_)from rfl) ?_;refine ly P9 (show P9 (nodes,sy nodes _)from Cz (Cy _ _)) ?_;refine ly P9 (show P9 (nodes,_)from rfl) ?_;refine ly P9 (show P9 (nodes,_)from rfl) ?_;refine ly P9 (show P9 (nodes,_)from rfl) ?_;refine ly P9 (show P9 (nodes,_)from rfl) ?_;refine ly P9 (show P9 (nodes,_)from rfl) ?_;refine ly P9 (show P9 (nodes,_)from rfl) ?_;rfl
theorem Nq(nodes:List eN)(data:eL)(S:eD):((iU nodes data S).2==14)=false:=by
 unfold iU
 repeat(first|exact Cz (qT _ _)|rfl|split)
theorem Nr(nodes:List eN)(S:eD):((Kd nodes S).2==14)=false:=by
 unfold Kd
 repeat(first|exact Cz (qT _ _)|rfl|split)
theorem Kk(nodes:List eN)(S:eD):(pA nodes S).length<=nodes.length:=List.length_filter_le _ _
theorem Sm(nodes:List eN)(S:eD):(rc nodes S).1.length<=nodes.length+1:=by
 unfold rc;split
 ·exact gV _
 ·skip
  split
  ·exact gV _
  ·skip
   split
   ·exact gV _
   ·skip
    split
    ·exact gV _
    ·skip
     split
     ·exact gV _
     ·skip
      exact Ax (by simp)
theorem Ns(nodes:List eN)(S:eD):(nz nodes S).1.length<=nodes.length+1:=by
 unfold nz
 repeat(first|exact Fc (Kk _ _)|exact gV _|split)
def Q9 (n:Nat)(x:List eN×Int):Prop:=x.1.length<=n+1
theorem Nt(nodes:List eN)(S T:eD):(pd nodes S T).1.length<=nodes.length+1:=by
 have l:∀e:Int,Q9 nodes.length (nodes,e):=fun e=>gV _;show Q9 nodes.length (pd nodes S T);unfold pd;refine ly (Q9 nodes.length) (l _) ?_;refine ly (Q9 nodes.length) (l _) ?_;refine ly (Q9 nodes.length) (l _) ?_;refine ly (Q9 nodes.length) (l _) ?_;refine ly (Q9 nodes.length) (l _) ?_;refine ly (Q9 nodes.length) (l _) ?_;refine ly (Q9 nodes.length) (l _) ?_;refine ly (Q9 nodes.length) (l _) ?_;refine ly (Q9 nodes.length) (l _) ?_;refine ly (Q9 nodes.length) (l _) ?_;refine ly (Q9 nodes.length) (l _) ?_;show((pA nodes T).map (lw S T)).length<=_;rw[nD];exact Fc (Kk _ _)
structure L4 (ey:List Ob)(ws:List Slot)(ds:List Doc)(k:Nat):Prop where
 len:ds.length=ws.length
 same:∀j (h:j<ws.length) (h':j<ds.length),iV ey ws[j].2.2.1.fl ws[j].2.2.1.op ws[j].2.2.2 ds[j].2.1 ds[j].2.2.1 ds[j].2.2.2/\ds[j].2.1.length<=k/\ds[j].2.2.1.length<=k
def fJ (B0:Nat)(w:World)(W s r n:Nat):Prop:=∃R tg p lim ey eC got ws ds q8 q9 fV,fF R tg w B0 W s r p lim ey eC got ws ds q8 q9 fV/\L4 ey ws ds (1200000+n)/\lim<=900*n/\q8<=n/\q9<=n/\fV<=n/\1<=ws.length/\ws.length<=n
theorem L4.mono{k a:Nat}(h:L4 ey ws ds k)(hk:k<=a):L4 ey ws ds a:=⟨h.len,fun j h1 h2=>⟨(h.same j h1 h2).1,wl (h.same j h1 h2).2.1 hk,wl (h.same j h1 h2).2.2 hk⟩⟩
theorem L4.set(h:L4 ey ws ds k)(hj:j<ws.length)(f:iV ey x.2.2.1.fl x.2.2.1.op x.2.2.2 d.2.1 d.2.2.1 d.2.2.2)(h1:d.2.1.length<=k+1)(h2:d.2.2.1.length<=k+1):L4 ey (ws.set j x) (ds.set j d) (k+1):=by
 refine⟨by simp[h.len],fun i hi g=>?_⟩;have l:i<ws.length:=by simpa using hi
 have m:i<ds.length:=by simpa using g
 simp only[Fe];by_cases e:j=i
 ·subst e
  simp only;exact⟨f,h1,h2⟩
 ·simp only[fY e]
  obtain⟨a,b,c⟩:=h.same i l m;exact⟨a,by omega,by omega⟩
theorem L4.aal(h:L4 ey ws ds k)(hj:j<ws.length)(d:j<ds.length)(c:iV ey x.2.2.1.fl x.2.2.1.op x.2.2.2 ds[j].2.1 ds[j].2.2.1 ds[j].2.2.2):L4 ey (ws.set j x) ds k:=by
 refine⟨by simp[h.len],fun i hi a=>?_⟩;have b:i<ws.length:=by simpa using hi
 simp only[Fe];by_cases e:j=i
 ·subst e
  simp only;exact⟨c,(h.same j b a).2⟩
 ·simp only[fY e]
  exact h.same i b a
section
variable {R:sg}{tg:eV}{w:World}{B0 W s r p lim:Nat}{ey eC:List Ob}{got:List Int}{ws:List Slot}{ds:List Doc}{q8 q9 fV j:Nat}{B:WB}{g:WG}{t:LT}{Sb:Nat}{nodes:List eN}{data:eL}{rest:fQ}
def VW (g:WG)(got:List Int):WG:={ g with fs:={ g.fs with got:=got,brk:=false } }
def Half (B0:Nat)(w w':World)(W s r p lim:Nat)(ey eC:List Ob)(ws:List Slot)(ds:List Doc)(q8 q9 fV j:Nat)(B:WB)(jb:List eN)(fE:eL)(rest':fQ):Prop:=
 ∃b eF a t' c,fF b eF w' B0 W s r p (lim+400) ey eC c (ws.set j (j+2,B,a,t')) ds q8 q9 fV/\iV ey a.fl a.op t' jb fE rest'/\Below B0 w w'
theorem yO(M:fF R tg w B0 W s r p lim ey eC got ws ds q8 q9 fV)(a:ik w W1)(m:eB (Mine (j+2)) tg eF W1 w'):Below B0 w w':=
 ⟨m.os.trans a.os,m.tape.trans a.tape,m.output.trans a.output,wl (wl M.size a.size) m.size |> fun h=>wl a.size m.size,fun k hk=>(m.block k (lO hk (wl M.size a.size)) (by rw[M.old k hk];exact Za (by omega))).trans (a.block k (lO hk M.size))⟩
theorem yP(M:fF R tg w B0 W s r p lim ey eC got ws ds q8 q9 fV)(b:w.heap.size<W1.heap.size)(m:eB (Mine (j+2)) tg eF W1 w'):xk w.heap.size W1 w':=
 ⟨lO b m.size,fun o=>jP (a:=(eI w.heap.size o)) (m.block w.heap.size b (by rw[M.fresh w.heap.size (kx _)];exact Za (by omega)))⟩
theorem Ak(M:fF R tg w B0 W s r p lim ey eC got ws ds q8 q9 fV)(hj:j<ws.length)(hx:ws[j]=(j+2,B,g,t))
  (hp:∀{W1:World},gO tg W1 s (j+2) p B ey (VW g got) lim t->fA ey t->Calls prog f args W1 fun e w'=>e=.returned v/\rT s (j+2) p B ey tg W1 w' (VW g got) (lim+400) jb fE rest'):
  ∀W1,ik w W1->w.heap.size<W1.heap.size->Calls prog f args W1 fun e w'=>e=.returned v/\xk w.heap.size W1 w'/\Half B0 w w' W s r p lim ey eC ws ds q8 q9 fV j B jb fE rest':=by
 intro W1 a b;obtain⟨hQ,hi,c⟩:=(M.below a).work hj hx;refine(hp hQ hi).mono ?_;rintro e w' ⟨d,eF,h,t',m,i,k,hg,l,n⟩;obtain⟨pt,o⟩:=c (by omega) m i k hg l;exact⟨d,yP M b m,_,eF,h,t',_,o,n,yO M a m⟩
theorem rU(h:j<ds.length)(hd:ds[j]=(Sb,nodes,data,rest))
  (hc:∀{F:Nat->Prop} {a:World},eW F a Sb nodes data rest->Calls prog f args a fun e w'=>e=.returned v/\eW (kp F a w') w' Sb jb fE rest'/\eA F a w'):
  ∀a,Half B0 w a W s r p lim ey eC ws ds q8 q9 fV j B jb fE rest'->Calls prog f args a fun e w'=>e=.returned v/\
   ∃c eF b t' d,fF c eF w' B0 W s r p (lim+400) ey eC d (ws.set j (j+2,B,b,t')) (ds.set j (Sb,jb,fE,rest')) q8 q9 fV/\iV ey b.fl b.op t' jb fE rest'/\Below B0 w w':=by
 rintro a ⟨c,eF,b,t',d,g,i,l⟩;obtain⟨m,n⟩:=g.aah h hd;refine(hc m).mono ?_;rintro e w' ⟨o,q,hk⟩;obtain⟨t,u⟩:=n q hk;exact⟨o,c,t,b,t',d,u,i,l.trans (g.low hk (fun k hk=>.inl (by rw[hk];intro e;have:=xr Prod.snd e;simp only at this;omega)))⟩
end
theorem Nu{b:Nat}{t:gi}{z n:Nat}{xs:fQ}(h:w.ownsRow b t z v n xs):∃a c,v=.slice a n c:=by
 rcases h.2 with⟨rfl,rfl⟩|⟨g,cap,_,rfl,_⟩
 ·exact⟨none,0,rfl⟩
 ·exact⟨_,_,rfl⟩
section
variable {R:sg}{tg:eV}{w:World}{B0 W s r p lim:Nat}{ey eC:List Ob}{got:List Int}{ws:List Slot}{ds:List Doc}{q8 q9 fV j n:Nat}
theorem tZ{c:sg}{e:List Int}{B:WB}{a:WG}{t':LT}{b:Nat}(L:L4 ey ws ds (1200000+n))(h:lim<=900*n)(h8:b<=n+1)(i:q9<=n)(k:fV<=n)(f:1<=ws.length)(l:ws.length<=n)(hj:j<ws.length)
  (M:fF c eF w' B0 W s r p (lim+400) ey eC e (ws.set j (j+2,B,a,t')) (ds.set j d) b q9 fV)(g:iV ey a.fl a.op t' d.2.1 d.2.2.1 d.2.2.2)(h1:d.2.1.length<=1200000+n+1)(h2:d.2.2.1.length<=1200000+n+1):fJ B0 w' W s r (n+1):=
 ⟨c,eF,p,lim+400,ey,eC,e,_,_,b,q9,fV,M,L.set hj g h1 h2,by omega,h8,by omega,by omega,by simpa using f,by simp;omega⟩
theorem Ys(hn:n<=1048600)(M:fF R tg w B0 W s r p lim ey eC got ws ds q8 q9 fV)(L:L4 ey ws ds (1200000+n))(O:lim<=900*n)(h8:q8<=n)(P:q9<=n)(Q:fV<=n)(F:1<=ws.length)(U:ws.length<=n)(hj:j<ws.length)(z:j<ds.length)(A a1 a2 a3:Int)(S T:eD)(la:fD)(lm lc:Nat)(hS:S.size<=1048576)(Y:T.size<=1048576)(hk:8<=A/\A<=12):
  gc 50 #[hh W,.pointer (some (eI (ws[j].2.1.wb) 0)),.pointer (some (eI (ds[j].1) 0)),.agg (Hm A a1 a2 a3 S T la lm lc)] w fun e w'=>e=.returned (.bool true)/\fJ B0 w' W s r (n+1)/\Below B0 w w':=by
 obtain⟨B,g,t,hx⟩:∃B g t,ws[j]=(j+2,B,g,t):=⟨_,_,_,by rw[<-M.slot j hj]⟩;obtain⟨Sb,nodes,data,rest,hd⟩:∃Sb nodes data rest,ds[j]=(Sb,nodes,data,rest):=⟨_,_,_,_,rfl⟩;obtain⟨u,Z,G⟩:=L.same j hj z;rw[hx,hd]at u;rw[hd]at Z G;rw[hx,hd];simp only at u Z G ⊢;have ab:=u.reads;have hs:=u.2;have H:Exact ey:=M.w3.uu.2.2.1;have E:=hs.fine (by omega);have I:S.size<=maxLen:=wl hS (by decide);have ac:T.size<=maxLen:=wl Y (by decide);have J:lim+1000<1099511627776:=by omega
 have ad:A=8\/A=9\/A=10\/A=11\/A=12:=by omega
 rcases ad with rfl|rfl|rfl|rfl|rfl
 ·refine(Qw W B.wb Sb a1 a2 a3 S T la lm lc (iU nodes data S).1.1 (iU nodes data S).1.2 (iU nodes data S).2 (Nq _ _ _) _ w
   (Ak M hj hx (fun hQ hi=>bit hQ J rfl hi H ab.dir u S I)) ?_).mono ?_
  ·rintro V ⟨i,eF,k,t',q,d,_,_⟩ W2 D
   obtain⟨na,nc,da,dc,l⟩:=(d.below D).MW j z;rw[hd]at l;exact Qu l E S (by omega) (show data.length<=1000000000 by omega)
  ·rintro e w' ⟨f,V,⟨i,eF,k,t',q,d,o,x⟩,C⟩
   refine⟨f,⟨i,eF,p,lim+400,ey,eC,q,_,_,q8,q9,fV,d.below C,(L.aal hj z (by rw[hd];exact o)).mono (by omega),by omega,by omega,by omega,by omega,by simpa using F,by simp;omega⟩,x.trans (C.mono d.size)⟩
 ·obtain⟨xs,X⟩:∃xs,xs=(Kd nodes S).1:=⟨_,rfl⟩
  have au:xs.length<=16:=by
   rw[X];unfold Kd;split
   ·exact tk _
   ·split
    ·exact tk _
    ·split
     ·exact tk _
     ·show(xi nodes S).length<=16
      rw[og];exact E.few S
  refine(Qx W B.wb Sb a1 a2 a3 S T la lm lc (Kd nodes S).2 (Nr _ _) xs (by omega)
   (fun a c w'=>∃i eF k t' q,fF i eF w' B0 W s r p (lim+400) ey eC q (ws.set j (j+2,B,k,t')) ds q8 q9 fV/\iV ey k.fl k.op t' nodes data rest/\Below B0 w w'/\w'.ownsRow 0 9 1 (.slice a xs.length c) xs.length (fU xs)/\∀b,(Value.slice a xs.length c).ownBlock=some b->eF b=(0,0)/\B0<=b/\¬i.FN b/\¬i.FE b/\¬i.FI b)
   (fun w'=>fJ B0 w' W s r (n+1)/\Below B0 w w') w ?_ ?_ ?_)
  ·intro W1 C ae
   obtain⟨hQ,hi,af⟩:=(M.below C).work hj hx;refine(ble hQ J rfl hi H u S I).mono ?_;rintro e w' ⟨a,c,f,y,eF,k,t',m,ag,ah,hg,ai,o,_,K⟩;rw[<-X]at f y K;obtain⟨pt,d⟩:=af (by omega) m ag ah hg ai;have N:=M.below C;refine⟨a,c,f,yP M ae m,y,_,eF,k,t',_,d,o,yO M C m,y,fun b aj=>?_⟩;obtain⟨ak,al⟩:=K b aj;exact⟨al,wl N.size ak,fun hf=>by have:=N.names.lt b hf;omega,fun hf=>by have:=N.eR.lt b hf;omega,fun hf=>by have:=N.ids.lt b hf;omega⟩
  ·rintro a c V ⟨i,eF,k,t',q,d,_,_,_,_⟩ W2 D
   obtain⟨na,nc,da,dc,l⟩:=(d.below D).MW j z;rw[hd]at l;refine(Qt l E S (by omega)).mono ?_;rintro e w' ⟨v,f,y,C⟩;rw[<-X]at y;have aa:=pj y (tk _);obtain⟨am,an,rfl⟩:=Nu aa;exact⟨am,an,f,aa,C⟩
  ·rintro a c V ⟨i,eF,k,t',q,d,o,x,y,K⟩ W2 D
   have ao:=d.below D;refine(ao.aai (by omega) (by omega) (eQ y (fun g hg=>D.block g (eK y hg))) K).mono ?_;rintro e w' ⟨f,ap,aq,ar⟩;refine⟨f,⟨ap,eF,p,lim+400,ey,eC,q,_,_,q8+1,q9,fV,aq,(L.aal hj z (by rw[hd];exact o)).mono (by omega),by omega,by omega,by omega,by omega,by simpa using F,by simp;omega⟩,(x.trans (D.mono d.size)).trans ar⟩
 ·refine(LU W B.wb Sb a1 a2 a3 S T la lm lc (rc nodes S).2 (Kj _ _) _ _ w
   (Ak M hj hx (fun hQ hi=>Yp hQ J rfl hi H u S I))
   (rU z hd (fun l=>by obtain⟨na,nc,da,dc,h⟩:=l;exact LQ h E S (by omega)))).mono ?_
  rintro e w' ⟨f,i,eF,k,t',q,d,o,x⟩;exact⟨f,tZ L O (by omega) P Q F U hj d o (by have:=Sm nodes S;show(rc nodes S).1.length<=_;omega) (Fc G),x⟩
 ·refine(Jb W B.wb Sb a1 a2 a3 S T la lm lc (nz nodes S).2 (GC _ _) _ _ w
   (Ak M hj hx (fun hQ hi=>VS hQ J rfl hi H u S I))
   (rU z hd (fun l=>by obtain⟨na,nc,da,dc,h⟩:=l;exact IX h E S (by omega)))).mono ?_
  rintro e w' ⟨f,i,eF,k,t',q,d,o,x⟩;exact⟨f,tZ L O (by omega) P Q F U hj d o (by have:=Ns nodes S;show(nz nodes S).1.length<=_;omega) (Fc G),x⟩
 ·refine(Jc W B.wb Sb a1 a2 a3 S T la lm lc (pd nodes S T).2 (GD _ _ _) _ _ w
   (Ak M hj hx (fun hQ hi=>VT hQ J rfl hi H u S T I ac))
   (rU z hd (fun l=>by obtain⟨na,nc,da,dc,h⟩:=l;exact Ja h E S T hS Y))).mono ?_
  rintro e w' ⟨f,i,eF,k,t',q,d,o,x⟩;exact⟨f,tZ L O (by omega) P Q F U hj d o (by have:=Nt nodes S T;show(pd nodes S T).1.length<=_;omega) (Fc G),x⟩
end
def zZ (xs:List Int):fQ:=xs.map (Value.int .i64)
theorem Yt{xs:List Int}(h:k<xs.length):(zZ xs)[k]?=some (.int .i64 xs[k]):=by simp[zZ,jy h]
theorem Yu(w:World):(Go.sizeOf 29).run prog w=.ok 1 w:=by kernel_rfl
def CA (w:World)(v:Value)(L:List Int):Prop:=w.ownsRow 0 29 1 v L.length (zZ L)
theorem CA.shape(h:CA w v L):∃a c,v=.slice a L.length c:=by
 rcases h.2 with⟨rfl,h0⟩|⟨g,c,b,rfl,_⟩
 ·exact⟨none,0,by rw[h0]⟩
 ·exact⟨_,c,rfl⟩
theorem CA.at_{a:fD}{n c:Nat}(h:CA w (.slice a n c) L)(hk:k<L.length):∃g,a=some (eI g 0)/\g<w.heap.size/\w.cell? (eI g k)=some (.int .i64 L[k]):=by
 obtain⟨g,cap,hv⟩:=fj h (by omega);have b:=(nH hv).1;subst b;refine⟨g,rfl,eK h rfl,?_⟩
 have:=World.ownsRow.cells h (g:=g) rfl k _ (Yt hk)
 have e:((eI g 0):Addr).add k=(eI g k):=by
  cases k with
  |zero=>rfl
  |succ k=>simp[Addr.add]
 rw[e]at this;exact this
theorem Nv(b:CA w v got)(hl:got.length<=1099511627776):
  gc 201 #[v] w fun e w'=>∃a,e=.returned a/\w'.ownsRow w.heap.size 29 1 a got.length (zZ got)/\ik w w':=by
 rcases b.2 with⟨rfl,h0⟩|⟨g,c,m,rfl,_⟩
 ·refine(AnyE.slices_Clone_nil Tn 0 0 w).mono ?_
  rintro e w' ⟨rfl,rfl⟩;obtain rfl:got=[]:=Ao.1 h0;exact⟨_,rfl,jf _ _ _ _,lh _ _⟩
 ·obtain⟨d,hi,f,h,i⟩:=iq Ux
  refine(AnyE.slices_Clone Tn d _ 1 8 hi f h i rfl (by decide) Yu g 0 got.length c (zZ got) w (by simp[zZ]) (by unfold maxLen;omega) (by omega) (fun j k hu=>by rw[iP];exact(World.ownsRow.cellAt b j (by have:=(wj.1 hu).1;simpa [zZ]using this)).trans hu) ?_).mono ?_
  ·intro k hu
   obtain⟨x,_,rfl⟩:=ij.1 hu;rfl
  ·rintro e w' ⟨a,rfl,hr,hne,l⟩
   exact⟨_,rfl,hr,l⟩
theorem GF(p:Nat)(v:Value)(R:Value->World->Prop)(w:World)(c3:w.cell? (eI p 3)=some v)
  (hc:gc 201 #[v] w fun e w'=>∃a,e=.returned a/\R a w'):
  gc 151 #[hh p] w fun e w'=>∃a,e=.returned a/\R a w':=by
 have b:Hid _:=hc;clear hc;go_enter func151,ntmps151;go_wp2_with fail;refine io b.out ?_;rintro e w' ⟨a,rfl,c⟩;go_wp2;go_ret;exact⟨a,rfl,c⟩
theorem GG(s p:Nat)(R:Value->World->Prop)(w:World)(c0:w.cell? (eI s 0)=some (hh p))
  (hc:gc 151 #[hh p] w fun e w'=>∃a,e=.returned a/\R a w'):
  gc 87 #[hh s] w fun e w'=>∃a,e=.returned a/\R a w':=by
 have b:Hid _:=hc;clear hc;go_enter func87,ntmps87;go_wp2_with fail;refine io b.out ?_;rintro e w' ⟨a,rfl,c⟩;go_wp2;go_ret;exact⟨a,rfl,c⟩
theorem Kl{tg:eV}{s p:Nat}{brk:Bool}{lim:Nat}(h:gq tg w s p ey got brk lim)(hl:lim<=1099511627776):
  gc 87 #[hh s] w fun e w'=>∃b,e=.returned b/\w'.ownsRow w.heap.size 29 1 b got.length (zZ got)/\ik w w':=by
 obtain⟨sw,ft,g,⟨a,cap,bf,bd,Df,Dd,c⟩,hg,hs,i⟩:=h;have d:=c.iI.at_;have c3:w.cell? (eI p 3)=some (.slice ft.a ft.n ft.c):=by unfold fq at d;simp[World.cell?,d]
 have f:=hg.1;rw[hg.2.1]at f c3;exact GG s p _ w c.c0 (GF p _ _ w c3 (Nv f (by omega)))
theorem Nw{x:Int}{m:Nat}(h:m<got.length):(got.take (m+1)).count x=(got.take m).count x+if got[m]=x then 1 else 0:=by
 rw[vZ h,List.count_append,List.count_singleton];by_cases e:got[m]=x<;>simp[e]
theorem GH(W s k wc:Nat)(wa:fD)(got:List Int)(R:World->Prop)(w:World)(hW:W<w.heap.size)(c0:w.cell? (eI W 0)=some (hh s))(c5:w.cell? (eI W 5)=some (.slice wa k wc))
  (Z:got.length<=1000000000)(hk:k<=1000000000)(I:∀x,got.count x<=k)
  (hf:gc 87 #[hh s] w fun e w'=>∃J,e=.returned J/\w'.ownsRow w.heap.size 29 1 J got.length (zZ got)/\ik w w')
  (K:∀j (hj:j<got.length),∃r:Int,0<=r/\∀w',ik w w'->gc 41 #[hh W,.int .i64 got[j]] w' fun e aa=>e=.returned (eJ r)/\aa=w')
  (L:∀b la c,ik w b->b.ownsRow w.heap.size 29 1 (.slice la got.length c) got.length (zZ got)->gc 88 #[.pointer (some (eI W 8)),.slice la got.length c] b fun e w'=>e=.returned (.tuple #[])/\R w'):
  gc 46 #[hh W] w fun e w'=>e=.returned (.bool true)/\R w':=by
 have ab:Hid _:=hf;have ac:Hid _:=K;have ad:Hid _:=L;have ae:Hid _:=I;obtain⟨n,hn⟩:∃n,n=got.length:=⟨_,rfl⟩;have o:Hid (n=got.length):=hn;rw[<-hn]at Z;clear hf K L I hn;go_enter func46,ntmps46;go_wp2_with fail;refine io ab.out ?_;rintro _ b ⟨v,rfl,t,u⟩;obtain⟨a,c,rfl⟩:=CA.shape (uy t);have M:Hid (b.ownsRow w.heap.size 29 1 (.slice a got.length c) got.length (zZ got)):=t;have z:Hid (ik w b):=u;have B:W<b.heap.size:=lO hW u.size;have d5:=(u.cell (p:=(eI W 5)) hW).trans c5;rw[<-o.out];have N:∀j (hj:j<got.length),∃g,a=some (eI g 0)/\g<b.heap.size/\b.cell? (eI g j)=some (.int .i64 got[j]):=fun j hj=>CA.at_ (uy t) hj;have C:Hid _:=N;clear t u N c0 c5;go_wp2
 go_loopw [4] (fun i wr=>∃j:Nat,j<=n/\i=.int .i64 (j:Int)/\Hid (ik b wr)) (fun i _=>n-(intOf i).toNat)
 case atStart=>exact⟨0,tk _,rfl,lh _ _⟩
 case round=>
  obtain⟨j,hj,rfl,A⟩:=hrel;by_cases af:j<n
  ·have av:(j:Int)<(n:Int):=by omega
   have O:j<got.length:=by rw[<-o.out];exact af
   obtain⟨g,ag,D,P⟩:=C.out j O;obtain⟨r,aw,q⟩:=ac.out j O;have ah:Hid _:=q;obtain⟨x,hx⟩:∃x,x=got[j]:=⟨_,rfl⟩;rw[<-hx]at P;have ai:Hid (x=got[j]):=hx;subst ag;clear hx q;go_wp2
   go_loopw [5,6] (fun d E aj=>∃m:Nat,m<=n/\E=.int .i64 (m:Int)/\d=.int .i64 (((got.take m).count x:Nat):Int)/\Hid (ik b aj)) (fun _ E _=>n-(intOf E).toNat)
   case atStart=>exact⟨0,tk _,rfl,rfl,A⟩
   case round=>
    obtain⟨m,hm,rfl,rfl,f⟩:=hrel;have ax:g<wr.heap.size:=lO D f.out.size;have ay:wr.cell? (eI g j)=some (eJ x):=(f.out.cell (p:=(eI g j)) D).trans P;by_cases ak:m<n
    ·have az:(m:Int)<(n:Int):=by omega
     have hmg:m<got.length:=by rw[<-o.out];exact ak
     obtain⟨aA,al,aB,Q⟩:=C.out m hmg;cases al;have am:wr.cell? (eI g m)=some (.int .i64 got[m]):=(f.out.cell (p:=(eI g m)) D).trans Q;obtain⟨y,F⟩:∃y,y=got[m]:=⟨_,rfl⟩;rw[<-F]at am;have S:Hid (y=got[m]):=F;have T:Hid _:=Nw (x:=x) hmg;have an:(got.take m).count x<=n:=by have:=List.count_le_length (a:=x) (l:=got.take m);rw[gT]at this;omega
     obtain⟨d,h⟩:∃d,d=(got.take m).count x:=⟨_,rfl⟩;rw[<-h]at an;rw[<-h];have U:Hid (d=(got.take m).count x):=h;clear F h Q;cases V:(y==x) with
     |true=>
      have G:=eq_of_beq V;go_wp2
      go_region
      all_goals
       go_wp2;go_roundw
       case rel=>exact⟨m+1,by omega,by go_num,by rw[T.out,ie (by rw[<-S.out];exact G),<-U.out];go_num,iQ f.out _⟩
       case measure=>simp[intOf];omega
     |false=>
      have G:=ne_of_beq_false V;go_wp2
      go_region
      all_goals
       go_wp2;go_roundw
       case rel=>exact⟨m+1,by omega,by go_num,by rw[T.out,fY (by rw[<-S.out];exact G),<-U.out];rfl,iQ f.out _⟩
       case measure=>simp[intOf];omega
    ·have aC:m=n:=by omega
     have ao:decide ((m:Int)<(n:Int))=false:=rk (by omega);have X:(got.take m).count x=got.count x:=by rw[lV (by rw[<-o.out];omega)]
     have ap:=ae.out x;rw[X];obtain⟨d,h⟩:∃d,d=got.count x:=⟨_,rfl⟩;rw[<-h]at ap ⊢;have aq:W<wr.heap.size:=lO B f.out.size;have aD:=(f.out.cell (p:=(eI W 5)) B).trans d5;have aE:decide (r<0)=false:=rk (by omega);have aF:decide ((k:Int)<(d:Int))=false:=rk (by omega);have q:=ah.out wr (z.out.trans (f.out.mono z.out.size));rw[<-ai.out]at q;clear X h C;go_wp2_with(go_at_call 41;refine io q ?_;rintro _ _ ⟨rfl,rfl⟩);go_roundw
     case rel=>exact⟨j+1,by omega,by go_num,f⟩
     case measure=>simp[intOf];omega
  ·have aG:j=n:=by omega
   have ao:decide ((j:Int)<(n:Int))=false:=rk (by omega);have aq:W<wr.heap.size:=lO B A.out.size;have Y:wr.ownsRow w.heap.size 29 1 (.slice a got.length c) got.length (zZ got):=eQ M.out (fun g hg=>A.out.block g (eK M.out hg));have H:=ad.out wr a c (z.out.trans (A.out.mono z.out.size)) Y;rw[<-o.out]at H;have ar:Hid _:=H;clear Y H;go_wp2_with(go_at_call 88;refine io ar.out ?_;rintro _ w5 ⟨rfl,au⟩);go_ret;exact⟨rfl,au⟩
theorem Aa{P:Program}(w:World)(t a e:gi)(i:TypeInfo)(ht:P.underlying t=some (.slice e))(hi:P.info? e=some i):(Builtin.append_ #[t,t] a #[.slice none 0 0,.slice none 0 0]).run P w=.ok (.slice none 0 0) w:=by
 simp[Builtin.append_,SX ht,sizeOf,typeInfo,hi,Builtin.lenOf,Builtin.firstCells]
theorem qU{P:Program}{ops:Array Oper}{o:Oper}{a:Act}{K:Act->World->Prop}{m:Exit->Act->World->Prop}{p:Prop}
  (hg:o.guard=none)(s x:Operand)(t:gi)(h:o.op=Op.call { callee:=Callee.builtin Builtin.append,args:=#[s,x],argTypes:=#[t,t] })
  (e:gi)(i:TypeInfo)(z:Value)(size bytes:Nat)(h1:P.underlying t=some (.slice e))(h2:P.info? e=some i)(h3:i.zero=some z)(q:i.size=size)(r:i.bytes=bytes)(h6:z.cells.size=size)(u:0<size)
  (hs:a.eval s=.slice none 0 0)(j:fD)(n c:Nat)(xs:fQ)(hx:a.eval x=.slice j n c)(d:w.ownsRow 0 e size (.slice j n c) n xs)(v:∀y∈xs,y.oneCell'=true)
  (D:n<=maxLen)(A:n*bytes<=140737488355328)
  (k:∀b w',w'.ownsRow 0 e size b n xs->w.grownBy w' none->(b.ownBlock=none\/b.ownBlock=some w.heap.size)->K (a.put o.dst b) w'):
  if Region.wanted o (yielded ops a.tmps)=true then Oper.wp P o a w K m else p:=by
 have hw:Region.wanted o (yielded ops a.tmps)=true:=by simp[Region.wanted,hg]
 rw[ie hw];rcases d.2 with⟨hv,hn⟩|⟨g,cap,E,hv,_⟩
 ·cases hv
  have f:=Aa (P:=P) w t o.type e i h1 h2;unfold Oper.wp;simp[execOp,h,resolve,invoke,builtin,hs,hx,f,Result.andThen];exact k _ _ d ⟨rfl,rfl,rfl,kx _,fun _ _ _=>rfl⟩ (.inl rfl)
 ·cases hv
  obtain⟨b,w',f,l,B,_,C⟩:=run_append_own_at (P:=P) w 0 t o.type e i z size bytes h1 h2 h3 q r h6 u (.slice none 0 0) 0 [] (jf w _ e size) (eI g 0) n c xs d.1 (d.cells (g:=g) rfl) v (by omega) (by rw[iP];exact A) (tk _);rw[iP,zR]at l;unfold Oper.wp;simp[execOp,h,resolve,invoke,builtin,hs,hx,f,Result.andThen];exact k _ _ l B C
theorem fo.Yv{F:Nat->Prop}{S:Nat}{na da:fD}{nc dc:Nat}(h:fo F w S na da nc dc nodes data rest)(j:Nat)(v:Value):
  fo F (w.setCell (eI S (2+j)) v) S na da nc dc nodes data (rest.set j v)/\eA F w (w.setCell (eI S (2+j)) v):=by
 have hne:∀g,g≠S->(w.setCell (eI S (2+j)) v).heap[g]?=w.heap[g]?:=fun g hg=>jQ _ _ _ _ hg;refine⟨⟨h.fS,?_,eQ h.kJ (fun g hg=>hne g (fun e=>?_)),eQ h.gz (fun g hg=>hne g (fun e=>?_)),h.fn,h.fd⟩,⟨rfl,rfl,rfl,by simp,fun k hk hn=>hne k (fun e=>hn (by rw[e];exact h.fS))⟩⟩
 ·have e2:(2+j)=j+1+1:=by omega
  simp[World.setCell,Am,h.hS,e2]
 ·subst e;exact fX h.kJ h.hS (by decide) hg.symm
 ·subst e;exact fX h.gz h.hS (by decide) hg.symm
end Go.Proofs.YtlgidcmmgohagaaGreat
