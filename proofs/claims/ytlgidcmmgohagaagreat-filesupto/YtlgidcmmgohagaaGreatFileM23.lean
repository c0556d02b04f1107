/- What is proved here: the law's world. -/
import Derived.Test.YtlgidcmmgohagaaGreatFileM22
namespace Go.Proofs.YtlgidcmmgohagaaGreat
open Go.RowKit Go.Sort Go.Shelf Go.Proofs.Tryz
set_option linter.unusedVariables false
set_option maxRecDepth 100000
set_option maxHeartbeats 16000000
variable {S cc gg:Nat}{data:eB}{rest:fE}{cs:Array Value}{nodes:List eD}
section
variable {R:pI}{tg ey:eM}{w w':World}{B0 W s r p lim:Nat}{ei ep:List Ob}{got:List Int}{ws:List Slot}{ds:List Doc}{q8 q9 fH:Nat}
theorem e7.UQ(h:e7 R tg w B0 W s r p lim ei ep got ws ds q8 q9 fH){B:WB}{g:WG}{t:LT}(hx:xk tg w p ei lim (ws.length+2,B,g,t))(v:∀x,g.fs.kn x=0)(l:w.heap[W]?=some (.cells cs 71 (0,0)))
  (P:w'.heap[W]?=some (.cells (cs.setIfInBounds 5 (.slice (some (eb gg 0)) (ws.length+1) cc)) 71 (0,0))/\w'.ownsRow 0 32 1 (.slice (some (eb gg 0)) (ws.length+1) cc) (ws.length+1) ((ws.map fun x=>ptr x.2.1.wb)++[ptr B.wb])/\
   ((some gg:Option Nat)=(Value.slice R.wa ws.length R.wc).ownBlock\/w.heap.size<=gg)/\en (fun k=>k=W\/some k=(Value.slice R.wa ws.length R.wc).ownBlock) w w'):
  ∃y ey,eo (fun t=>t=(0,1)\/t=(0,3)) tg ey w w'/\e7 y ey w' B0 W s r p lim ei ep got (ws++[(ws.length+2,B,g,t)]) ds q8 q9 fH/\Below B0 w w':=by
 obtain⟨z,u,A,a⟩:=P;obtain⟨M,a1,a2,a3,N,hW⟩:=h.block;have b:=a.size;obtain⟨ey,m⟩:∃ey:eM,ey=fun k=>if k<w.heap.size then tg k else if k<w'.heap.size then(0,3) else(0,0):=⟨_,rfl⟩;have t1:∀k,k<w.heap.size->ey k=tg k:=fun k hk=>by rw[m];exact fY hk
 have n:gF ey w':=fun k O=>by
  rw[m];simp only;rw[eJ (by omega),eJ (by omega)]
 have mv:eo (fun t=>t=(0,1)\/t=(0,3)) tg ey w w':=⟨a.os,a.tape,a.output,b,t1,fun k f hn=>a.block k f (by
  rintro(e|e)
  ·exact hn (.inl (by rw[e];exact h.fW))
  ·exact hn (.inr (h.o6 k e.symm))),fun _=>n⟩
 obtain⟨C,D,E,F,G⟩:=h.rest mv (by rintro t (rfl|rfl)<;>decide);have i:∀k,k<w.heap.size->tg k=(0,0)->w'.heap[k]?=w.heap[k]?/\ey k=(0,0):=fun k hk h0=>⟨mv.block k hk (by rw[h0];rintro(e|e)<;>cases e),(t1 k hk).trans h0⟩;have o:(ws++[(ws.length+2,B,g,t)]:List Slot).length=ws.length+1:=by simp
 refine⟨{ R with wa:=some (eb gg 0),wc:=cc },ey,mv,⟨n,fun k hk=>(t1 k (kv hk h.size)).trans (h.old k hk),pD h.size b,h.brk,E,h.Am,⟨?_,C,D,h.w3.twin,h.w3.at_,kR n⟩,?_,?_,?_,?_,?_,?_,?_,?_,h.apart,?_,?_,G,?_⟩,?_⟩
 ·rw[o]
  refine h.w3.law.reset (fun k hk=>(t1 k (h.fresh.lt (by rw[hk];decide))).trans hk) (fun Q S T U V q=>?_) (fun k f hk2=>a.block k (h.fresh.lt (by rw[f];decide)) (by
   rintro(e|e)
   ·exact hk2 e
   ·have:=h.o6 k e.symm;rw[f]at this;cases this))
  rw[hW]at l q;simp only[kE,Nc,Gn,pS,tj]at l q;obtain⟨H,I,e2,J,K⟩:=q;rw[z,<-l,H,I,e2,J,K];rfl
 ·rw[o,k7]
  exact u
 ·rw[o]
  intro x hx;simp only[Value.ownBlock,kE]at hx;subst hx;rcases A with e|e
  ·exact(t1 gg (h.fresh.lt (by rw[h.o6 gg e.symm];decide))).trans (h.o6 gg e.symm)
  ·rw[m]
   simp only;rw[eJ (by omega),fY (ee u rfl)]
 ·refine eh h.fP (fun g hg=>mv.block g (ee h.fP hg) ?_)
  rw[h.o7 g hg];rintro(e|e)<;>cases e
 ·exact fun g hg=>(t1 g (ee h.fP hg)).trans (h.o7 g hg)
 ·exact h.names.keep (fun k hk=>(i k (h.names.lt k hk) (h.holds k (.inl hk)).1).1) b
 ·exact h.eG.keep (fun k hk=>(i k (h.eG.lt k hk) (h.holds k (.inr (.inl hk))).1).1) b
 ·exact h.ids.keep (fun k hk=>(i k (h.ids.lt k hk) (h.holds k (.inr (.inr hk))).1).1) b
 ·intro k hk
  have L:k<w.heap.size:=by
   rcases hk with e|e|e
   ·exact h.names.lt k e
   ·exact h.eG.lt k e
   ·exact h.ids.lt k e
  exact⟨(i k L (h.holds k hk).1).2,(h.holds k hk).2⟩
 ·intro x d
  rcases pR.1 d with d|d
  ·exact F x d
  ·rw[kH.1 d]
   exact hx.moves mv (fun c hc=>by rcases hc with e|e<;>(have:=rp Prod.fst e;simp only at this;omega))
 ·intro j hj
  rw[QA];split
  ·exact h.slot j (by assumption)
  ·rename_i X
   have:j=ws.length:=by simp at hj;omega
   subst this;simp
 ·intro x
  rw[k7,List.sum_append,h.cnt x];simp[v x]
 ·exact h.low a (by
   rintro k (e|e)
   ·exact .inl (by rw[e,h.fW];decide)
   ·exact .inl (by rw[h.o6 k e.symm];decide))
theorem e7.UR(h:e7 R tg w B0 W s r p lim ei ep got ws ds q8 q9 fH)(hx:eN (fun k=>tg k=(0,8+ds.length)) w S nodes data rest)(f:w.heap[W]?=some (.cells cs 71 (0,0)))
  (P:w'.heap[W]?=some (.cells (cs.setIfInBounds 6 (.slice (some (eb gg 0)) (ds.length+1) cc)) 71 (0,0))/\w'.ownsRow 0 115 1 (.slice (some (eb gg 0)) (ds.length+1) cc) (ds.length+1) ((ds.map fun x=>ptr x.1)++[ptr S])/\
   ((some gg:Option Nat)=(Value.slice R.ta ds.length R.tc).ownBlock\/w.heap.size<=gg)/\en (fun k=>k=W\/some k=(Value.slice R.ta ds.length R.tc).ownBlock) w w'):
  ∃q ey,e7 q ey w' B0 W s r p lim ei ep got ws (ds++[(S,nodes,data,rest)]) q8 q9 fH/\Below B0 w w':=by
 obtain⟨u,o,v,a⟩:=P;obtain⟨K,a1,a2,a3,L,hW⟩:=h.block;have b:=a.size;obtain⟨ey,i⟩:∃ey:eM,ey=fun k=>if k<w.heap.size then tg k else if k<w'.heap.size then(0,4) else(0,0):=⟨_,rfl⟩;have t1:∀k,k<w.heap.size->ey k=tg k:=fun k hk=>by rw[i];exact fY hk
 have l:gF ey w':=fun k M=>by
  rw[i];simp only;rw[eJ (by omega),eJ (by omega)]
 have mv:eo (fun t=>t=(0,1)\/t=(0,4)) tg ey w w':=⟨a.os,a.tape,a.output,b,t1,fun k c hn=>a.block k c (by
  rintro(e|e)
  ·exact hn (.inl (by rw[e];exact h.fW))
  ·exact hn (.inr (h.o7 k e.symm))),fun _=>l⟩
 obtain⟨y,z,A,B,C⟩:=h.rest mv (by rintro t (rfl|rfl)<;>decide);have d:∀k,k<w.heap.size->tg k=(0,0)->w'.heap[k]?=w.heap[k]?/\ey k=(0,0):=fun k hk h0=>⟨mv.block k hk (by rw[h0];rintro(e|e)<;>cases e),(t1 k hk).trans h0⟩;have m:(ds++[(S,nodes,data,rest)]:List Doc).length=ds.length+1:=by simp
 refine⟨{ R with ta:=some (eb gg 0),tc:=cc },ey,⟨l,fun k hk=>(t1 k (kv hk h.size)).trans (h.old k hk),pD h.size b,h.brk,A,h.Am,⟨?_,y,z,h.w3.twin,h.w3.at_,kR l⟩,?_,?_,?_,?_,?_,?_,?_,?_,h.apart,B,h.slot,?_,h.cnt⟩,?_⟩
 ·rw[m]
  refine h.w3.law.reset (fun k hk=>(t1 k (h.fresh.lt (by rw[hk];decide))).trans hk) (fun N O Q T U n=>?_) (fun k c hk2=>a.block k (h.fresh.lt (by rw[c];decide)) (by
   rintro(e|e)
   ·exact hk2 e
   ·have:=h.o7 k e.symm;rw[c]at this;cases this))
  rw[hW]at f n;simp only[kE,Nc,Gn,pS,tj]at f n;obtain⟨D,E,e2,F,G⟩:=n;rw[u,<-f,D,E,e2,F,G];rfl
 ·refine eh h.zh (fun g hg=>mv.block g (ee h.zh hg) ?_)
  rw[h.o6 g hg];rintro(e|e)<;>cases e
 ·exact fun g hg=>(t1 g (ee h.zh hg)).trans (h.o6 g hg)
 ·rw[m,k7]
  exact o
 ·rw[m]
  intro x hx;simp only[Value.ownBlock,kE]at hx;subst hx;rcases v with e|e
  ·exact(t1 gg (h.fresh.lt (by rw[h.o7 gg e.symm];decide))).trans (h.o7 gg e.symm)
  ·rw[i]
   simp only;rw[eJ (by omega),fY (ee o rfl)]
 ·exact h.names.keep (fun k hk=>(d k (h.names.lt k hk) (h.holds k (.inl hk)).1).1) b
 ·exact h.eG.keep (fun k hk=>(d k (h.eG.lt k hk) (h.holds k (.inr (.inl hk))).1).1) b
 ·exact h.ids.keep (fun k hk=>(d k (h.ids.lt k hk) (h.holds k (.inr (.inr hk))).1).1) b
 ·intro k hk
  have H:k<w.heap.size:=by
   rcases hk with e|e|e
   ·exact h.names.lt k e
   ·exact h.eG.lt k e
   ·exact h.ids.lt k e
  exact⟨(d k H (h.holds k hk).1).2,(h.holds k hk).2⟩
 ·intro j hj
  rw[QA];split
  ·exact C j (by assumption)
  ·rename_i V
   have I:j=ds.length:=by simp at hj;omega
   subst I;simp only[Dq,Gc];have hne:((0,8+ds.length):Nat×Nat)≠(0,0):=fun e=>by have:=rp Prod.snd e;simp only at this;omega
   obtain⟨na,nc,da,dc,J⟩:=hx;refine⟨na,nc,da,dc,J.keep (fun k hk=>(t1 k (h.fresh.lt (by rw[hk];exact hne))).trans hk) (fun k hk=>mv.block k (h.fresh.lt (by rw[hk];exact hne)) ?_)⟩;rw[hk];rintro(e|e)<;>(have:=rp Prod.snd e;simp only at this;omega)
 ·exact h.low a (by
   rintro k (e|e)
   ·exact .inl (by rw[e,h.fW];decide)
   ·exact .inl (by rw[h.o7 k e.symm];decide))
theorem e7.tagged{Sx:Nat->Prop}(h:e7 R tg w B0 W s r p lim ei ep got ws ds q8 q9 fH)(a:gS w w')(hx:eN (fun k=>w.heap.size<=k/\k<w'.heap.size) w' S nodes data rest)(c:Nat)(hc:c≠0):
  ∃ey,eo (fun _=>False) tg ey w w'/\e7 R ey w' B0 W s r p lim ei ep got ws ds q8 q9 fH/\eN (fun k=>ey k=(0,c)) w' S nodes data rest:=by
 obtain⟨ey,b⟩:∃ey:eM,ey=fun k=>if k<w.heap.size then tg k else if k<w'.heap.size then(0,c) else(0,0):=⟨_,rfl⟩;have d:=a.size;have t1:∀k,k<w.heap.size->ey k=tg k:=fun k hk=>by rw[b];exact fY hk
 have e:gF ey w':=fun k g=>by
  rw[b];simp only;rw[eJ (by omega),eJ (by omega)]
 have m:eo (fun _=>False) tg ey w w':=⟨a.os,a.tape,a.output,d,t1,fun k hk _=>a.block k hk,fun _=>e⟩;refine⟨ey,m,h.after m (fun _ h=>h) rfl h.brk (h.w3.qX.1.below a (fun k hk hF=>(t1 k hk).trans hF)) (h.Ml.moves m (fun h=>h)) h.Am rfl (fun x hx=>(h.uH x hx).moves m (fun _ h=>h)) h.slot h.cnt,?_⟩;obtain⟨na,nc,da,dc,f⟩:=hx;refine⟨na,nc,da,dc,f.keep (fun k hk=>?_) (fun _ _=>rfl)⟩;rw[b];simp only;rw[eJ (by omega),fY hk.2]
end
end Go.Proofs.YtlgidcmmgohagaaGreat
