/- What is proved here: the law's world. -/
import Derived.Test.YtlgidcmmgohagaaGreatFileM22
namespace Go.Proofs.YtlgidcmmgohagaaGreat
open Go.RowKit Go.Sort Go.Shelf Go.Proofs.Tryz
set_option linter.unusedVariables false
set_option maxRecDepth 100000
set_option maxHeartbeats 16000000
variable {nodes:List eN}{data:eL}{rest:fQ}{cs:Array Value}{S cc gg:Nat}
section
variable {R:sg}{tg eF:eV}{w w':World}{B0 W s r p lim:Nat}{ey eC:List Ob}{got:List Int}{ws:List Slot}{ds:List Doc}{q8 q9 fV:Nat}
theorem fF.aar(h:fF R tg w B0 W s r p lim ey eC got ws ds q8 q9 fV){B:WB}{g:WG}{t:LT}(hx:zY tg w p ey lim (ws.length+2,B,g,t))(v:∀x,g.fs.kn x=0)(l:w.heap[W]?=some (.cells cs 71 (0,0)))
  (P:w'.heap[W]?=some (.cells (cs.setIfInBounds 5 (.slice (some (eI gg 0)) (ws.length+1) cc)) 71 (0,0))/\w'.ownsRow 0 32 1 (.slice (some (eI gg 0)) (ws.length+1) cc) (ws.length+1) ((ws.map fun x=>ptr x.2.1.wb)++[ptr B.wb])/\
   ((some gg:Option Nat)=(Value.slice R.wa ws.length R.wc).ownBlock\/w.heap.size<=gg)/\eA (fun k=>k=W\/some k=(Value.slice R.wa ws.length R.wc).ownBlock) w w'):
  ∃y eF,eB (fun t=>t=(0,1)\/t=(0,3)) tg eF w w'/\fF y eF w' B0 W s r p lim ey eC got (ws++[(ws.length+2,B,g,t)]) ds q8 q9 fV/\Below B0 w w':=by
 obtain⟨z,u,A,a⟩:=P;obtain⟨M,a1,a2,a3,N,hW⟩:=h.block;have b:=a.size;obtain⟨eF,m⟩:∃eF:eV,eF=fun k=>if k<w.heap.size then tg k else if k<w'.heap.size then(0,3) else(0,0):=⟨_,rfl⟩;have t1:∀k,k<w.heap.size->eF k=tg k:=fun k hk=>by rw[m];exact ie hk
 have n:jt eF w':=fun k O=>by
  rw[m];simp only;rw[fY (by omega),fY (by omega)]
 have mv:eB (fun t=>t=(0,1)\/t=(0,3)) tg eF w w':=⟨a.os,a.tape,a.output,b,t1,fun k f hn=>a.block k f (by
  rintro(e|e)
  ·exact hn (.inl (by rw[e];exact h.fW))
  ·exact hn (.inr (h.rO k e.symm))),fun _=>n⟩
 obtain⟨C,D,E,F,G⟩:=h.rest mv (by rintro t (rfl|rfl)<;>decide);have i:∀k,k<w.heap.size->tg k=(0,0)->w'.heap[k]?=w.heap[k]?/\eF k=(0,0):=fun k hk h0=>⟨mv.block k hk (by rw[h0];rintro(e|e)<;>cases e),(t1 k hk).trans h0⟩;have o:(ws++[(ws.length+2,B,g,t)]:List Slot).length=ws.length+1:=by simp
 refine⟨{ R with wa:=some (eI gg 0),wc:=cc },eF,mv,⟨n,fun k hk=>(t1 k (lO hk h.size)).trans (h.old k hk),wl h.size b,h.brk,E,h.Dq,⟨?_,C,D,h.w3.twin,h.w3.at_,nA n⟩,?_,?_,?_,?_,?_,?_,?_,?_,h.apart,?_,?_,G,?_⟩,?_⟩
 ·rw[o]
  refine h.w3.law.reset (fun k hk=>(t1 k (h.fresh.lt (by rw[hk];decide))).trans hk) (fun Q S T U V q=>?_) (fun k f hk2=>a.block k (h.fresh.lt (by rw[f];decide)) (by
   rintro(e|e)
   ·exact hk2 e
   ·have:=h.rO k e.symm;rw[f]at this;cases this))
  rw[hW]at l q;simp only[mZ,Tc,KV,sG,wC]at l q;obtain⟨H,I,e2,J,K⟩:=q;rw[z,<-l,H,I,e2,J,K];rfl
 ·rw[o,nM]
  exact u
 ·rw[o]
  intro x hx;simp only[Value.ownBlock,mZ]at hx;subst hx;rcases A with e|e
  ·exact(t1 gg (h.fresh.lt (by rw[h.rO gg e.symm];decide))).trans (h.rO gg e.symm)
  ·rw[m]
   simp only;rw[fY (by omega),ie (eK u rfl)]
 ·refine eQ h.gz (fun g hg=>mv.block g (eK h.gz hg) ?_)
  rw[h.rP g hg];rintro(e|e)<;>cases e
 ·exact fun g hg=>(t1 g (eK h.gz hg)).trans (h.rP g hg)
 ·exact h.names.keep (fun k hk=>(i k (h.names.lt k hk) (h.holds k (.inl hk)).1).1) b
 ·exact h.eR.keep (fun k hk=>(i k (h.eR.lt k hk) (h.holds k (.inr (.inl hk))).1).1) b
 ·exact h.ids.keep (fun k hk=>(i k (h.ids.lt k hk) (h.holds k (.inr (.inr hk))).1).1) b
 ·intro k hk
  have L:k<w.heap.size:=by
   rcases hk with e|e|e
   ·exact h.names.lt k e
   ·exact h.eR.lt k e
   ·exact h.ids.lt k e
  exact⟨(i k L (h.holds k hk).1).2,(h.holds k hk).2⟩
 ·intro x d
  rcases sB.1 d with d|d
  ·exact F x d
  ·rw[nh.1 d]
   exact hx.moves mv (fun c hc=>by rcases hc with e|e<;>(have:=xr Prod.fst e;simp only at this;omega))
 ·intro j hj
  rw[WW];split
  ·exact h.slot j (by assumption)
  ·rename_i X
   have:j=ws.length:=by simp at hj;omega
   subst this;simp
 ·intro x
  rw[nM,List.sum_append,h.cnt x];simp[v x]
 ·exact h.low a (by
   rintro k (e|e)
   ·exact .inl (by rw[e,h.fW];decide)
   ·exact .inl (by rw[h.rO k e.symm];decide))
theorem fF.aas(h:fF R tg w B0 W s r p lim ey eC got ws ds q8 q9 fV)(hx:eW (fun k=>tg k=(0,8+ds.length)) w S nodes data rest)(f:w.heap[W]?=some (.cells cs 71 (0,0)))
  (P:w'.heap[W]?=some (.cells (cs.setIfInBounds 6 (.slice (some (eI gg 0)) (ds.length+1) cc)) 71 (0,0))/\w'.ownsRow 0 115 1 (.slice (some (eI gg 0)) (ds.length+1) cc) (ds.length+1) ((ds.map fun x=>ptr x.1)++[ptr S])/\
   ((some gg:Option Nat)=(Value.slice R.ta ds.length R.tc).ownBlock\/w.heap.size<=gg)/\eA (fun k=>k=W\/some k=(Value.slice R.ta ds.length R.tc).ownBlock) w w'):
  ∃q eF,fF q eF w' B0 W s r p lim ey eC got ws (ds++[(S,nodes,data,rest)]) q8 q9 fV/\Below B0 w w':=by
 obtain⟨u,o,v,a⟩:=P;obtain⟨K,a1,a2,a3,L,hW⟩:=h.block;have b:=a.size;obtain⟨eF,i⟩:∃eF:eV,eF=fun k=>if k<w.heap.size then tg k else if k<w'.heap.size then(0,4) else(0,0):=⟨_,rfl⟩;have t1:∀k,k<w.heap.size->eF k=tg k:=fun k hk=>by rw[i];exact ie hk
 have l:jt eF w':=fun k M=>by
  rw[i];simp only;rw[fY (by omega),fY (by omega)]
 have mv:eB (fun t=>t=(0,1)\/t=(0,4)) tg eF w w':=⟨a.os,a.tape,a.output,b,t1,fun k c hn=>a.block k c (by
  rintro(e|e)
  ·exact hn (.inl (by rw[e];exact h.fW))
  ·exact hn (.inr (h.rP k e.symm))),fun _=>l⟩
 obtain⟨y,z,A,B,C⟩:=h.rest mv (by rintro t (rfl|rfl)<;>decide);have d:∀k,k<w.heap.size->tg k=(0,0)->w'.heap[k]?=w.heap[k]?/\eF k=(0,0):=fun k hk h0=>⟨mv.block k hk (by rw[h0];rintro(e|e)<;>cases e),(t1 k hk).trans h0⟩;have m:(ds++[(S,nodes,data,rest)]:List Doc).length=ds.length+1:=by simp
 refine⟨{ R with ta:=some (eI gg 0),tc:=cc },eF,⟨l,fun k hk=>(t1 k (lO hk h.size)).trans (h.old k hk),wl h.size b,h.brk,A,h.Dq,⟨?_,y,z,h.w3.twin,h.w3.at_,nA l⟩,?_,?_,?_,?_,?_,?_,?_,?_,h.apart,B,h.slot,?_,h.cnt⟩,?_⟩
 ·rw[m]
  refine h.w3.law.reset (fun k hk=>(t1 k (h.fresh.lt (by rw[hk];decide))).trans hk) (fun N O Q T U n=>?_) (fun k c hk2=>a.block k (h.fresh.lt (by rw[c];decide)) (by
   rintro(e|e)
   ·exact hk2 e
   ·have:=h.rP k e.symm;rw[c]at this;cases this))
  rw[hW]at f n;simp only[mZ,Tc,KV,sG,wC]at f n;obtain⟨D,E,e2,F,G⟩:=n;rw[u,<-f,D,E,e2,F,G];rfl
 ·refine eQ h.Ck (fun g hg=>mv.block g (eK h.Ck hg) ?_)
  rw[h.rO g hg];rintro(e|e)<;>cases e
 ·exact fun g hg=>(t1 g (eK h.Ck hg)).trans (h.rO g hg)
 ·rw[m,nM]
  exact o
 ·rw[m]
  intro x hx;simp only[Value.ownBlock,mZ]at hx;subst hx;rcases v with e|e
  ·exact(t1 gg (h.fresh.lt (by rw[h.rP gg e.symm];decide))).trans (h.rP gg e.symm)
  ·rw[i]
   simp only;rw[fY (by omega),ie (eK o rfl)]
 ·exact h.names.keep (fun k hk=>(d k (h.names.lt k hk) (h.holds k (.inl hk)).1).1) b
 ·exact h.eR.keep (fun k hk=>(d k (h.eR.lt k hk) (h.holds k (.inr (.inl hk))).1).1) b
 ·exact h.ids.keep (fun k hk=>(d k (h.ids.lt k hk) (h.holds k (.inr (.inr hk))).1).1) b
 ·intro k hk
  have H:k<w.heap.size:=by
   rcases hk with e|e|e
   ·exact h.names.lt k e
   ·exact h.eR.lt k e
   ·exact h.ids.lt k e
  exact⟨(d k H (h.holds k hk).1).2,(h.holds k hk).2⟩
 ·intro j hj
  rw[WW];split
  ·exact C j (by assumption)
  ·rename_i V
   have I:j=ds.length:=by simp at hj;omega
   subst I;simp only[Hq,KJ];have hne:((0,8+ds.length):Nat×Nat)≠(0,0):=fun e=>by have:=xr Prod.snd e;simp only at this;omega
   obtain⟨na,nc,da,dc,J⟩:=hx;refine⟨na,nc,da,dc,J.keep (fun k hk=>(t1 k (h.fresh.lt (by rw[hk];exact hne))).trans hk) (fun k hk=>mv.block k (h.fresh.lt (by rw[hk];exact hne)) ?_)⟩;rw[hk];rintro(e|e)<;>(have:=xr Prod.snd e;simp only at this;omega)
 ·exact h.low a (by
   rintro k (e|e)
   ·exact .inl (by rw[e,h.fW];decide)
   ·exact .inl (by rw[h.rP k e.symm];decide))
theorem fF.tagged{Sx:Nat->Prop}(h:fF R tg w B0 W s r p lim ey eC got ws ds q8 q9 fV)(a:ik w w')(hx:eW (fun k=>w.heap.size<=k/\k<w'.heap.size) w' S nodes data rest)(c:Nat)(hc:c≠0):
  ∃eF,eB (fun _=>False) tg eF w w'/\fF R eF w' B0 W s r p lim ey eC got ws ds q8 q9 fV/\eW (fun k=>eF k=(0,c)) w' S nodes data rest:=by
 obtain⟨eF,b⟩:∃eF:eV,eF=fun k=>if k<w.heap.size then tg k else if k<w'.heap.size then(0,c) else(0,0):=⟨_,rfl⟩;have d:=a.size;have t1:∀k,k<w.heap.size->eF k=tg k:=fun k hk=>by rw[b];exact ie hk
 have e:jt eF w':=fun k g=>by
  rw[b];simp only;rw[fY (by omega),fY (by omega)]
 have m:eB (fun _=>False) tg eF w w':=⟨a.os,a.tape,a.output,d,t1,fun k hk _=>a.block k hk,fun _=>e⟩;refine⟨eF,m,h.after m (fun _ h=>h) rfl h.brk (h.w3.uu.1.below a (fun k hk hF=>(t1 k hk).trans hF)) (h.RU.moves m (fun h=>h)) h.Dq rfl (fun x hx=>(h.xK x hx).moves m (fun _ h=>h)) h.slot h.cnt,?_⟩;obtain⟨na,nc,da,dc,f⟩:=hx;refine⟨na,nc,da,dc,f.keep (fun k hk=>?_) (fun _ _=>rfl)⟩;rw[b];simp only;rw[fY (by omega),ie hk.2]
end
end Go.Proofs.YtlgidcmmgohagaaGreat
