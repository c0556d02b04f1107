/- What is proved here: 'plays'. -/
import Derived.Test.YtlgidcmmgohagaaGreatFileM33
namespace Go.Proofs.YtlgidcmmgohagaaGreat
open Go.RowKit Go.Sort Go.Shelf Go.Proofs.Tryz
set_option linter.unusedVariables false
set_option maxRecDepth 100000
set_option maxHeartbeats 16000000
theorem paths_few {R:Rows4}{tg:Tags}{w:World}{B0 W s r p lim:Nat}{objs ros:List Ob}{got:List Int}{ws:List Slot}{ds:List Doc}{q8 q9 q11:Nat}(M:M4At R tg w B0 W s r p lim objs ros got ws ds q8 q9 q11)(hj:2<objs.length){gp pc:Nat}{pv:Int}(h1:w.cell? ⟨W,4,none⟩=some (.slice (some ⟨gp,0,none⟩) objs.length pc))(h2:w.cell? ⟨gp,2,none⟩=some (.int .i64 pv)):pv<=300:=by
 obtain⟨ia,ka,pa,ic,kc,pc',paths,hl,hlen,hP⟩:=M.w3.law;have hj2:2<paths.length:=by rw[hlen];exact hj
 obtain⟨g,hpa,_,hc,_⟩:=row_one hl.rowP (i:=2) (v:=.int .i64 paths[2]) (by simp[encI,hj2]);have e1:=hl.c4.symm.trans h1;rw[hpa] at e1;injection e1 with e1;injection e1 with e1 _ _;injection e1 with e1;injection e1 with e1 _ _;subst e1;have e2:=hc.symm.trans h2;injection e2 with e2;injection e2 with _ e2
 have:=(hP 2 hj2).2
 rw[e2] at this;exact Int.le_trans this (by decide)
theorem first_check {w:World}{B0 W s r:Nat}(h:Start4 B0 w W s r):
  Calls prog 20 #[.pointer (some ⟨W,0,none⟩),.agg (opV9 7 0 3 0 ⟨#[]⟩ ⟨#[]⟩ none 0 0)] w fun e w'=>e=.returned (.bool true)/\Game4 B0 w' W s r 3/\Below B0 w w':=by
 obtain⟨R,tg,p,objs,ros,M,h3,hk⟩:=h;refine (m4_check (n:=3) (by omega) M ⟨rfl,fun j h _=>by cases h⟩ (by simp) 0 3 0 ⟨#[]⟩ ⟨#[]⟩ none 0 0).mono ?_;rintro e w' ⟨he,hB,R',tg',ws',ds',M',L',h1,h2,hlen⟩;have hl:=hlen hk (fun gp pc pv c4 cp=>paths_few M (by omega) c4 cp);have hl1:ws'.length=1:=hl;exact⟨he,⟨R',tg',p,0,objs,ros,[],ws',ds',0,0,0,M',L',by omega,by omega,by omega,by omega,by omega,by omega⟩,hB⟩
theorem g4_low {w:World}{B0 W s r n:Nat}(hn:n<=1048600)(G:Game4 B0 w W s r n)(o:Step)(ho:o.Fits w)(hk:1<=o.kind/\o.kind<=7):
  Calls prog 20 #[.pointer (some ⟨W,0,none⟩),o.val] w fun e w'=>e=.returned (.bool true)/\Game4 B0 w' W s r (n+1)/\Below B0 w w':=by
 by_cases h5:o.kind<=5
 ·exact g4_store hn G o ho ⟨hk.1,h5⟩
 ·by_cases h6:o.kind=6
  ·obtain⟨kind,a1,a2,a3,S,T,la,lm,lc,es⟩:=o
   simp only at h6;subst h6;exact g4_fetched hn G a1 a2 a3 S T la lm lc
  ·have h7:o.kind=7:=by omega
   obtain⟨kind,a1,a2,a3,S,T,la,lm,lc,es⟩:=o;simp only at h7;subst h7;exact g4_check hn G a1 a2 a3 S T la lm lc
end Go.Proofs.YtlgidcmmgohagaaGreat
