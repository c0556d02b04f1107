/-
  What is proved here: paths as values of five texts: as keys of maps, and compared. paths as values: Root, Depth. head of a path: its first names. paths as values: Parent, Name, Child, Below.
-/
import Derived.Test.YtajopoddmfdejaaGreatRetM04
import Derived.Lib.SliceRun
namespace Go.Proofs.YtajopoddmfdejaaGreat
open Go.RowKit Go.Sort Go.Shelf
set_option linter.unusedVariables false
set_option maxRecDepth 100000
set_option maxHeartbeats 16000000
def pathA (l:List ByteArray):Array Value:=#[.string (l.getD 0 ⟨#[]⟩),.string (l.getD 1 ⟨#[]⟩),.string (l.getD 2 ⟨#[]⟩),.string (l.getD 3 ⟨#[]⟩),.string (l.getD 4 ⟨#[]⟩)]
def pathV (l:List ByteArray):Value:=.agg (pathA l)
structure Good (l:List ByteArray):Prop where
 val:Valids l
 len:l.length<=5
theorem Good.nil:Good []:=⟨fun x hx=>by simp at hx,by simp⟩
theorem Good.take {l:List ByteArray}(h:Good l)(k:Nat):Good (l.take k):=⟨fun x hx=>h.val x (List.mem_of_mem_take hx),by have:=h.len;rw[List.length_take];omega⟩
theorem Good.dropLast {l:List ByteArray}(h:Good l):Good l.dropLast:=by rw[List.dropLast_eq_take];exact h.take _
theorem rowP:104<Tryz.prog.types.size:=of_decide_eq_true (by kernel_rfl)
theorem keyAtP:Tryz.prog.keyTypeAt 9 104=true:=by kernel_rfl
theorem lawP:Maps.Keyed Tryz.prog 104:=Maps.Keyed.of_law (deep_law_laid laidOut (m:=9) (by omega) rowP keyAtP (by rw[Tryz.underlying104]))
theorem cellsP:Tryz.prog.cellsOf 104=5:=by kernel_rfl
theorem keyTP:Tryz.prog.keyType 104=true:=by kernel_rfl
theorem getD_size {l:List ByteArray}(h:Valids l)(i:Nat):(l.getD i ⟨#[]⟩).size<=maxLen:=by
 rw[List.getD_eq_getElem?_getD]
 by_cases hi:i<l.length
 ·rw[List.getElem?_eq_getElem hi]
  have:=(valid_size (h _ (List.getElem_mem hi))).2
  show (l[i]).size<=maxLen
  unfold maxLen;omega
 ·rw[List.getElem?_eq_none (by omega)];decide
theorem litsP (d:Nat)(l:List ByteArray)(h:Valids l):∃ ls,Tryz.prog.keyLits (d+2) 104 (pathA l).toList=some ls:=by
 have a:∀ i,Tryz.prog.keyLits (d+1) 9 [.string (l.getD i ⟨#[]⟩)]=some [.string (l.getD i ⟨#[]⟩).data.toList]:=fun i=>by
  have:=getD_size h i
  generalize l.getD i ⟨#[]⟩=x at this
  unfold Program.keyLits;simp[Tryz.underlying9,this]
 obtain⟨ys,hys⟩:=mapM_some (fun i=>Tryz.prog.keyLits (d+1) 9 (((pathA l).toList.drop (i*1)).take 1)) (List.range 5) (by
  intro i hi
  rw[List.mem_range] at hi
  have key:((pathA l).toList.drop (i*1)).take 1 = [.string (l.getD i ⟨#[]⟩)]:=by
   rcases (show i=0\/i=1\/i=2\/i=3\/i=4 by omega) with rfl | rfl | rfl | rfl | rfl <;> rfl
  rw[key]
  exact⟨_,a i⟩)
 refine⟨ys.flatten,?_⟩
 have hl:(pathA l).toList.length=5:=rfl
 unfold Program.keyLits
 simp only[Tryz.underlying104,cellsP,hl,if_true,cells9,hys,Option.map_some]
def keyP (P:Program)(l:List ByteArray):Lit:=(keyOf P 104 (pathV l)).getD .nil
theorem keyOf_path {l:List ByteArray}(h:Valids l):keyOf Tryz.prog 104 (pathV l)=some (keyP Tryz.prog l):=by
 have hx:∃ k,keyOf Tryz.prog 104 (pathV l)=some k:=by
  have hfo:Value.formed Tryz.prog 104 (.agg (pathA l))=true:=by
   unfold Value.formed
   rw[Tryz.underlying104]
   simp[cellsP,pathA]
  obtain⟨n,hn⟩:∃ n,Tryz.prog.types.size+1=n+2:=⟨Tryz.prog.types.size-1,by have:=rowP;omega⟩
  obtain⟨ls,hls⟩:=litsP n l h
  unfold keyOf pathV
  rw[Tryz.underlying104]
  simp only[keyTP,hfo,Bool.and_self,if_true,Value.cells,hn,hls,Option.map_some]
  exact⟨_,rfl⟩
 obtain⟨k,hk⟩:=hx
 unfold keyP
 rw[hk];rfl
theorem valid_pos {x:ByteArray}(h:validB x=true):x≠⟨#[]⟩:=fun e=>by
 have:=(valid_size h).1
 rw[e] at this
 exact absurd this (by decide)
theorem pathA_inj {p q:List ByteArray}(hp:Good p)(hq:Good q)(h:pathA p=pathA q):p=q:=by
 have key:∀ i,i<5->p.getD i ⟨#[]⟩=q.getD i ⟨#[]⟩:=by
  intro i hi
  unfold pathA at h
  simp only[Array.mk.injEq,List.cons.injEq,Value.string.injEq,and_true] at h
  rcases (show i=0\/i=1\/i=2\/i=3\/i=4 by omega) with rfl | rfl | rfl | rfl | rfl
  ·exact h.1
  ·exact h.2.1
  ·exact h.2.2.1
  ·exact h.2.2.2.1
  ·exact h.2.2.2.2
 have h5:=hp.len
 have k5:=hq.len
 apply List.ext_getElem?
 intro i
 by_cases hi:i<5
 ·have k:=key i hi
  rw[List.getD_eq_getElem?_getD,List.getD_eq_getElem?_getD] at k
  cases ha:p[i]? with
  | none=>
   cases hb:q[i]? with
   | none=>rfl
   | some y=>rw[ha,hb] at k;exact absurd k.symm (valid_pos (hq.val y (List.mem_of_getElem? hb)))
  | some x=>
   cases hb:q[i]? with
   | none=>rw[ha,hb] at k;exact absurd k (valid_pos (hp.val x (List.mem_of_getElem? ha)))
   | some y=>rw[ha,hb] at k;exact congrArg some k
 ·rw[List.getElem?_eq_none (by omega),List.getElem?_eq_none (by omega)]
theorem keyP_inj {p q:List ByteArray}(hp:Good p)(hq:Good q)(h:keyP Tryz.prog p=keyP Tryz.prog q):p=q:=by
 have a:=keyOf_path hp.val
 have b:=keyOf_path hq.val
 rw[<- h] at b
 have:=lawP.inj a b
 exact pathA_inj hp hq (Value.agg.inj this)
theorem keyP_is {p:List ByteArray}(hp:Good p):WideAt.IsKeyLit (keyP Tryz.prog p):=lawP.key (keyOf_path hp.val)
theorem run_eqP {p q:List ByteArray}(hp:Good p)(hq:Good q)(w:World):(Op.equal 104 (pathV p) (pathV q)).run Tryz.prog w=.ok (decide (p=q)) w:=by
 obtain⟨r,hr,hiff⟩:=run_equal_deep w (m:=9) (by omega) keyAtP (by rw[Tryz.underlying104]) (keyOf_path hp.val) (keyOf_path hq.val)
 rw[hr]
 have:r=decide (p=q):=by
  by_cases e:p=q
  ·subst e;rw[decide_eq_true rfl];exact hiff.2 rfl
  ·rw[decide_eq_false e]
   cases hr':r with
   | false=>rfl
   | true=>exact absurd (keyP_inj hp hq (hiff.1 hr')) e
 rw[this]
theorem valid_ne {x:ByteArray}(h:validB x=true):(x.toList == [])=false:=beq_eq_false_iff_ne.2 fun e=>by
 have h1:=(valid_size h).1
 rw[toL_eq] at e
 have h2:=congrArg List.length e
 rw[toL_len,List.length_nil] at h2
 omega
theorem root_any (w:World):Calls Tryz.prog 66 #[] w fun e w'=>e=.returned (pathV [])/\Below w.heap.size w w':=by
 go_enter Tryz.func66,Tryz.ntmps66
 go_wp2
 exact bodyPost_ret (v:=pathV []) (by simp[results,Tryz.results66,go_sem,pathV,pathA]) rfl ⟨rfl,by repeat (first | exact Below.refl _ _ | (refine Below.alloc ?_ (by simp) _) | (refine Below.setCell ?_ (by simp) _))⟩
theorem pix0 (c0 c1 c2 c3 c4:Value)(w:World):(Instr.index 104 (.agg #[c0,c1,c2,c3,c4]) (.int .i64 0)).run Tryz.prog w=.ok c0 w:=by kernel_rfl
theorem pix1 (c0 c1 c2 c3 c4:Value)(w:World):(Instr.index 104 (.agg #[c0,c1,c2,c3,c4]) (.int .i64 1)).run Tryz.prog w=.ok c1 w:=by kernel_rfl
theorem pix2 (c0 c1 c2 c3 c4:Value)(w:World):(Instr.index 104 (.agg #[c0,c1,c2,c3,c4]) (.int .i64 2)).run Tryz.prog w=.ok c2 w:=by kernel_rfl
theorem pix3 (c0 c1 c2 c3 c4:Value)(w:World):(Instr.index 104 (.agg #[c0,c1,c2,c3,c4]) (.int .i64 3)).run Tryz.prog w=.ok c3 w:=by kernel_rfl
theorem pix4 (c0 c1 c2 c3 c4:Value)(w:World):(Instr.index 104 (.agg #[c0,c1,c2,c3,c4]) (.int .i64 4)).run Tryz.prog w=.ok c4 w:=by kernel_rfl
theorem depth_0  (w:World):Calls Tryz.prog 83 #[.agg #[.string ⟨#[]⟩,.string ⟨#[]⟩,.string ⟨#[]⟩,.string ⟨#[]⟩,.string ⟨#[]⟩]] w fun e w'=>e=.returned (.int .i64 0)/\Below w.heap.size w w':=by
 have x0:=pix0
 have x1:=pix1
 have x2:=pix2
 have x3:=pix3
 have x4:=pix4
 go_enter Tryz.func83,Tryz.ntmps83
 go_wp2
 refine wp_loop_rounds 7 ?_
 rw[rounds_succ]
 go_wp2
 go_ret
 exact⟨rfl,(Below.refl _ _).alloc (Nat.le_refl _) _⟩
theorem depth_1 (s0:ByteArray)(h0:validB s0=true)(w:World):Calls Tryz.prog 83 #[.agg #[.string s0,.string ⟨#[]⟩,.string ⟨#[]⟩,.string ⟨#[]⟩,.string ⟨#[]⟩]] w fun e w'=>e=.returned (.int .i64 1)/\Below w.heap.size w w':=by
 have e0:=valid_ne h0
 have x0:=pix0
 have x1:=pix1
 have x2:=pix2
 have x3:=pix3
 have x4:=pix4
 clear h0
 go_enter Tryz.func83,Tryz.ntmps83
 go_wp2
 refine wp_loop_rounds 7 ?_
 rw[rounds_succ]
 go_wp2
 rw[rounds_succ]
 go_wp2
 go_ret
 exact⟨rfl,(Below.refl _ _).alloc (Nat.le_refl _) _⟩
theorem depth_2 (s0 s1:ByteArray)(h0:validB s0=true)(h1:validB s1=true)(w:World):Calls Tryz.prog 83 #[.agg #[.string s0,.string s1,.string ⟨#[]⟩,.string ⟨#[]⟩,.string ⟨#[]⟩]] w fun e w'=>e=.returned (.int .i64 2)/\Below w.heap.size w w':=by
 have e0:=valid_ne h0
 have e1:=valid_ne h1
 have x0:=pix0
 have x1:=pix1
 have x2:=pix2
 have x3:=pix3
 have x4:=pix4
 clear h0 h1
 go_enter Tryz.func83,Tryz.ntmps83
 go_wp2
 refine wp_loop_rounds 7 ?_
 rw[rounds_succ]
 go_wp2
 rw[rounds_succ]
 go_wp2
 rw[rounds_succ]
 go_wp2
 go_ret
 exact⟨rfl,(Below.refl _ _).alloc (Nat.le_refl _) _⟩
theorem depth_3 (s0 s1 s2:ByteArray)(h0:validB s0=true)(h1:validB s1=true)(h2:validB s2=true)(w:World):Calls Tryz.prog 83 #[.agg #[.string s0,.string s1,.string s2,.string ⟨#[]⟩,.string ⟨#[]⟩]] w fun e w'=>e=.returned (.int .i64 3)/\Below w.heap.size w w':=by
 have e0:=valid_ne h0
 have e1:=valid_ne h1
 have e2:=valid_ne h2
 have x0:=pix0
 have x1:=pix1
 have x2:=pix2
 have x3:=pix3
 have x4:=pix4
 clear h0 h1 h2
 go_enter Tryz.func83,Tryz.ntmps83
 go_wp2
 refine wp_loop_rounds 7 ?_
 rw[rounds_succ]
 go_wp2
 rw[rounds_succ]
 go_wp2
 rw[rounds_succ]
 go_wp2
 rw[rounds_succ]
 go_wp2
 go_ret
 exact⟨rfl,(Below.refl _ _).alloc (Nat.le_refl _) _⟩
theorem depth_4 (s0 s1 s2 s3:ByteArray)(h0:validB s0=true)(h1:validB s1=true)(h2:validB s2=true)(h3:validB s3=true)(w:World):Calls Tryz.prog 83 #[.agg #[.string s0,.string s1,.string s2,.string s3,.string ⟨#[]⟩]] w fun e w'=>e=.returned (.int .i64 4)/\Below w.heap.size w w':=by
 have e0:=valid_ne h0
 have e1:=valid_ne h1
 have e2:=valid_ne h2
 have e3:=valid_ne h3
 have x0:=pix0
 have x1:=pix1
 have x2:=pix2
 have x3:=pix3
 have x4:=pix4
 clear h0 h1 h2 h3
 go_enter Tryz.func83,Tryz.ntmps83
 go_wp2
 refine wp_loop_rounds 7 ?_
 rw[rounds_succ]
 go_wp2
 rw[rounds_succ]
 go_wp2
 rw[rounds_succ]
 go_wp2
 rw[rounds_succ]
 go_wp2
 rw[rounds_succ]
 go_wp2
 go_ret
 exact⟨rfl,(Below.refl _ _).alloc (Nat.le_refl _) _⟩
theorem depth_5 (s0 s1 s2 s3 s4:ByteArray)(h0:validB s0=true)(h1:validB s1=true)(h2:validB s2=true)(h3:validB s3=true)(h4:validB s4=true)(w:World):Calls Tryz.prog 83 #[.agg #[.string s0,.string s1,.string s2,.string s3,.string s4]] w fun e w'=>e=.returned (.int .i64 5)/\Below w.heap.size w w':=by
 have e0:=valid_ne h0
 have e1:=valid_ne h1
 have e2:=valid_ne h2
 have e3:=valid_ne h3
 have e4:=valid_ne h4
 have x0:=pix0
 have x1:=pix1
 have x2:=pix2
 have x3:=pix3
 have x4:=pix4
 clear h0 h1 h2 h3 h4
 go_enter Tryz.func83,Tryz.ntmps83
 go_wp2
 refine wp_loop_rounds 7 ?_
 rw[rounds_succ]
 go_wp2
 rw[rounds_succ]
 go_wp2
 rw[rounds_succ]
 go_wp2
 rw[rounds_succ]
 go_wp2
 rw[rounds_succ]
 go_wp2
 rw[rounds_succ]
 go_wp2
 go_ret
 exact⟨rfl,(Below.refl _ _).alloc (Nat.le_refl _) _⟩
theorem depth_any (l:List ByteArray)(hv:Valids l)(h5:l.length<=5)(w:World):Calls Tryz.prog 83 #[pathV l] w fun e w'=>e=.returned (.int .i64 (l.length:Int))/\Below w.heap.size w w':=by
 match l,hv,h5 with
 | [],hv,_=>exact depth_0  w
 | [s0],hv,_=>exact depth_1 s0 (hv s0 (by simp)) w
 | [s0,s1],hv,_=>exact depth_2 s0 s1 (hv s0 (by simp)) (hv s1 (by simp)) w
 | [s0,s1,s2],hv,_=>exact depth_3 s0 s1 s2 (hv s0 (by simp)) (hv s1 (by simp)) (hv s2 (by simp)) w
 | [s0,s1,s2,s3],hv,_=>exact depth_4 s0 s1 s2 s3 (hv s0 (by simp)) (hv s1 (by simp)) (hv s2 (by simp)) (hv s3 (by simp)) w
 | [s0,s1,s2,s3,s4],hv,_=>exact depth_5 s0 s1 s2 s3 s4 (hv s0 (by simp)) (hv s1 (by simp)) (hv s2 (by simp)) (hv s3 (by simp)) (hv s4 (by simp)) w
 | _ :: _ :: _ :: _ :: _ :: _ :: _,_,h5=>exact absurd h5 (by simp)
theorem zeroStr (w:World):(zeroValue 9).run Tryz.prog w=.ok (.string ⟨#[]⟩) w:=by kernel_rfl
theorem head_neg (s0 s1 s2 s3 s4:ByteArray)(w:World):Calls Tryz.prog 119 #[.agg #[.string s0,.string s1,.string s2,.string s3,.string s4],.int .i64 (-1)] w fun e w'=>e=.returned (.agg #[.string ⟨#[]⟩,.string ⟨#[]⟩,.string ⟨#[]⟩,.string ⟨#[]⟩,.string ⟨#[]⟩])/\Below w.heap.size w w':=by
 have hcl:∀ ty,(Builtin.clear_ #[69] ty #[.slice (some ⟨w.heap.size,0,none⟩) 5 5]).run Tryz.prog ((w.alloc (.cells #[.string s0,.string s1,.string s2,.string s3,.string s4] 104)).alloc (.cells #[.string ⟨#[]⟩,.string ⟨#[]⟩,.string ⟨#[]⟩,.string ⟨#[]⟩,.string ⟨#[]⟩] 104))=.ok (.tuple #[]) (((((((w.alloc (.cells #[.string s0,.string s1,.string s2,.string s3,.string s4] 104)).alloc (.cells #[.string ⟨#[]⟩,.string ⟨#[]⟩,.string ⟨#[]⟩,.string ⟨#[]⟩,.string ⟨#[]⟩] 104)).setCell ⟨w.heap.size,0,none⟩ (.string ⟨#[]⟩)).setCell ⟨w.heap.size,1,none⟩ (.string ⟨#[]⟩)).setCell ⟨w.heap.size,2,none⟩ (.string ⟨#[]⟩)).setCell ⟨w.heap.size,3,none⟩ (.string ⟨#[]⟩)).setCell ⟨w.heap.size,4,none⟩ (.string ⟨#[]⟩)):=
  fun ty=>Lib.run_clear_slice _ 69 9 ty (.string ⟨#[]⟩) Tryz.underlying69 zeroStr rfl rfl w.heap.size 0 5 5 (by omega)
   (fun j hj=>by rcases (show j=0\/j=1\/j=2\/j=3\/j=4 by omega) with rfl | rfl | rfl | rfl | rfl <;> first | omega | simp[World.cell?_alloc_past])
   (fun j hj=>by rcases (show j=0\/j=1\/j=2\/j=3\/j=4 by omega) with rfl | rfl | rfl | rfl | rfl <;> first | omega | simp[World.frozen?_alloc_past])
 have hmx:max (-1:Int) 0=0:=rfl
 have hsl:∀ (b:Nat) (W:World),(Instr.sliceAt 104 (.pointer (some ⟨b,0,none⟩)) (some (.int .i64 0)) none none).run Tryz.prog W=.ok (.slice (some ⟨b,0,none⟩) 5 5) W:=fun b W=>by kernel_rfl
 go_enter Tryz.func119,Tryz.ntmps119
 go_wp2_with (first | simp only[hmx] | simp only[hsl] | simp only[hcl])
 exact bodyPost_ret (v:=.agg #[.string ⟨#[]⟩,.string ⟨#[]⟩,.string ⟨#[]⟩,.string ⟨#[]⟩,.string ⟨#[]⟩]) (by simp[results,Tryz.results119,go_sem]) rfl ⟨rfl,by repeat (first | exact Below.refl _ _ | (refine Below.alloc ?_ (by simp) _) | (refine Below.setCell ?_ (by simp) _))⟩
theorem head_0 (s0 s1 s2 s3 s4:ByteArray)(w:World):Calls Tryz.prog 119 #[.agg #[.string s0,.string s1,.string s2,.string s3,.string s4],.int .i64 0] w fun e w'=>e=.returned (.agg #[.string ⟨#[]⟩,.string ⟨#[]⟩,.string ⟨#[]⟩,.string ⟨#[]⟩,.string ⟨#[]⟩])/\Below w.heap.size w w':=by
 have hcl:∀ ty,(Builtin.clear_ #[69] ty #[.slice (some ⟨w.heap.size,0,none⟩) 5 5]).run Tryz.prog ((w.alloc (.cells #[.string s0,.string s1,.string s2,.string s3,.string s4] 104)).alloc (.cells #[.string ⟨#[]⟩,.string ⟨#[]⟩,.string ⟨#[]⟩,.string ⟨#[]⟩,.string ⟨#[]⟩] 104))=.ok (.tuple #[]) (((((((w.alloc (.cells #[.string s0,.string s1,.string s2,.string s3,.string s4] 104)).alloc (.cells #[.string ⟨#[]⟩,.string ⟨#[]⟩,.string ⟨#[]⟩,.string ⟨#[]⟩,.string ⟨#[]⟩] 104)).setCell ⟨w.heap.size,0,none⟩ (.string ⟨#[]⟩)).setCell ⟨w.heap.size,1,none⟩ (.string ⟨#[]⟩)).setCell ⟨w.heap.size,2,none⟩ (.string ⟨#[]⟩)).setCell ⟨w.heap.size,3,none⟩ (.string ⟨#[]⟩)).setCell ⟨w.heap.size,4,none⟩ (.string ⟨#[]⟩)):=
  fun ty=>Lib.run_clear_slice _ 69 9 ty (.string ⟨#[]⟩) Tryz.underlying69 zeroStr rfl rfl w.heap.size 0 5 5 (by omega)
   (fun j hj=>by rcases (show j=0\/j=1\/j=2\/j=3\/j=4 by omega) with rfl | rfl | rfl | rfl | rfl <;> first | omega | simp[World.cell?_alloc_past])
   (fun j hj=>by rcases (show j=0\/j=1\/j=2\/j=3\/j=4 by omega) with rfl | rfl | rfl | rfl | rfl <;> first | omega | simp[World.frozen?_alloc_past])
 have hmx:max (0:Int) 0=0:=rfl
 have hsl:∀ (b:Nat) (W:World),(Instr.sliceAt 104 (.pointer (some ⟨b,0,none⟩)) (some (.int .i64 0)) none none).run Tryz.prog W=.ok (.slice (some ⟨b,0,none⟩) 5 5) W:=fun b W=>by kernel_rfl
 go_enter Tryz.func119,Tryz.ntmps119
 go_wp2_with (first | simp only[hmx] | simp only[hsl] | simp only[hcl])
 exact bodyPost_ret (v:=.agg #[.string ⟨#[]⟩,.string ⟨#[]⟩,.string ⟨#[]⟩,.string ⟨#[]⟩,.string ⟨#[]⟩]) (by simp[results,Tryz.results119,go_sem]) rfl ⟨rfl,by repeat (first | exact Below.refl _ _ | (refine Below.alloc ?_ (by simp) _) | (refine Below.setCell ?_ (by simp) _))⟩
theorem head_1 (s0 s1 s2 s3 s4:ByteArray)(w:World):Calls Tryz.prog 119 #[.agg #[.string s0,.string s1,.string s2,.string s3,.string s4],.int .i64 1] w fun e w'=>e=.returned (.agg #[.string s0,.string ⟨#[]⟩,.string ⟨#[]⟩,.string ⟨#[]⟩,.string ⟨#[]⟩])/\Below w.heap.size w w':=by
 have hcl:∀ ty,(Builtin.clear_ #[69] ty #[.slice (some ⟨w.heap.size,1,none⟩) 4 4]).run Tryz.prog ((w.alloc (.cells #[.string s0,.string s1,.string s2,.string s3,.string s4] 104)).alloc (.cells #[.string ⟨#[]⟩,.string ⟨#[]⟩,.string ⟨#[]⟩,.string ⟨#[]⟩,.string ⟨#[]⟩] 104))=.ok (.tuple #[]) ((((((w.alloc (.cells #[.string s0,.string s1,.string s2,.string s3,.string s4] 104)).alloc (.cells #[.string ⟨#[]⟩,.string ⟨#[]⟩,.string ⟨#[]⟩,.string ⟨#[]⟩,.string ⟨#[]⟩] 104)).setCell ⟨w.heap.size,1,none⟩ (.string ⟨#[]⟩)).setCell ⟨w.heap.size,2,none⟩ (.string ⟨#[]⟩)).setCell ⟨w.heap.size,3,none⟩ (.string ⟨#[]⟩)).setCell ⟨w.heap.size,4,none⟩ (.string ⟨#[]⟩)):=
  fun ty=>Lib.run_clear_slice _ 69 9 ty (.string ⟨#[]⟩) Tryz.underlying69 zeroStr rfl rfl w.heap.size 1 4 4 (by omega)
   (fun j hj=>by rcases (show j=0\/j=1\/j=2\/j=3\/j=4 by omega) with rfl | rfl | rfl | rfl | rfl <;> first | omega | simp[World.cell?_alloc_past])
   (fun j hj=>by rcases (show j=0\/j=1\/j=2\/j=3\/j=4 by omega) with rfl | rfl | rfl | rfl | rfl <;> first | omega | simp[World.frozen?_alloc_past])
 have hmx:max (1:Int) 0=1:=rfl
 have hsl:∀ (b:Nat) (W:World),(Instr.sliceAt 104 (.pointer (some ⟨b,0,none⟩)) (some (.int .i64 1)) none none).run Tryz.prog W=.ok (.slice (some ⟨b,1,none⟩) 4 4) W:=fun b W=>by kernel_rfl
 go_enter Tryz.func119,Tryz.ntmps119
 go_wp2_with (first | simp only[hmx] | simp only[hsl] | simp only[hcl])
 exact bodyPost_ret (v:=.agg #[.string s0,.string ⟨#[]⟩,.string ⟨#[]⟩,.string ⟨#[]⟩,.string ⟨#[]⟩]) (by simp[results,Tryz.results119,go_sem]) rfl ⟨rfl,by repeat (first | exact Below.refl _ _ | (refine Below.alloc ?_ (by simp) _) | (refine Below.setCell ?_ (by simp) _))⟩
theorem head_2 (s0 s1 s2 s3 s4:ByteArray)(w:World):Calls Tryz.prog 119 #[.agg #[.string s0,.string s1,.string s2,.string s3,.string s4],.int .i64 2] w fun e w'=>e=.returned (.agg #[.string s0,.string s1,.string ⟨#[]⟩,.string ⟨#[]⟩,.string ⟨#[]⟩])/\Below w.heap.size w w':=by
 have hcl:∀ ty,(Builtin.clear_ #[69] ty #[.slice (some ⟨w.heap.size,2,none⟩) 3 3]).run Tryz.prog ((w.alloc (.cells #[.string s0,.string s1,.string s2,.string s3,.string s4] 104)).alloc (.cells #[.string ⟨#[]⟩,.string ⟨#[]⟩,.string ⟨#[]⟩,.string ⟨#[]⟩,.string ⟨#[]⟩] 104))=.ok (.tuple #[]) (((((w.alloc (.cells #[.string s0,.string s1,.string s2,.string s3,.string s4] 104)).alloc (.cells #[.string ⟨#[]⟩,.string ⟨#[]⟩,.string ⟨#[]⟩,.string ⟨#[]⟩,.string ⟨#[]⟩] 104)).setCell ⟨w.heap.size,2,none⟩ (.string ⟨#[]⟩)).setCell ⟨w.heap.size,3,none⟩ (.string ⟨#[]⟩)).setCell ⟨w.heap.size,4,none⟩ (.string ⟨#[]⟩)):=
  fun ty=>Lib.run_clear_slice _ 69 9 ty (.string ⟨#[]⟩) Tryz.underlying69 zeroStr rfl rfl w.heap.size 2 3 3 (by omega)
   (fun j hj=>by rcases (show j=0\/j=1\/j=2\/j=3\/j=4 by omega) with rfl | rfl | rfl | rfl | rfl <;> first | omega | simp[World.cell?_alloc_past])
   (fun j hj=>by rcases (show j=0\/j=1\/j=2\/j=3\/j=4 by omega) with rfl | rfl | rfl | rfl | rfl <;> first | omega | simp[World.frozen?_alloc_past])
 have hmx:max (2:Int) 0=2:=rfl
 have hsl:∀ (b:Nat) (W:World),(Instr.sliceAt 104 (.pointer (some ⟨b,0,none⟩)) (some (.int .i64 2)) none none).run Tryz.prog W=.ok (.slice (some ⟨b,2,none⟩) 3 3) W:=fun b W=>by kernel_rfl
 go_enter Tryz.func119,Tryz.ntmps119
 go_wp2_with (first | simp only[hmx] | simp only[hsl] | simp only[hcl])
 exact bodyPost_ret (v:=.agg #[.string s0,.string s1,.string ⟨#[]⟩,.string ⟨#[]⟩,.string ⟨#[]⟩]) (by simp[results,Tryz.results119,go_sem]) rfl ⟨rfl,by repeat (first | exact Below.refl _ _ | (refine Below.alloc ?_ (by simp) _) | (refine Below.setCell ?_ (by simp) _))⟩
theorem head_3 (s0 s1 s2 s3 s4:ByteArray)(w:World):Calls Tryz.prog 119 #[.agg #[.string s0,.string s1,.string s2,.string s3,.string s4],.int .i64 3] w fun e w'=>e=.returned (.agg #[.string s0,.string s1,.string s2,.string ⟨#[]⟩,.string ⟨#[]⟩])/\Below w.heap.size w w':=by
 have hcl:∀ ty,(Builtin.clear_ #[69] ty #[.slice (some ⟨w.heap.size,3,none⟩) 2 2]).run Tryz.prog ((w.alloc (.cells #[.string s0,.string s1,.string s2,.string s3,.string s4] 104)).alloc (.cells #[.string ⟨#[]⟩,.string ⟨#[]⟩,.string ⟨#[]⟩,.string ⟨#[]⟩,.string ⟨#[]⟩] 104))=.ok (.tuple #[]) ((((w.alloc (.cells #[.string s0,.string s1,.string s2,.string s3,.string s4] 104)).alloc (.cells #[.string ⟨#[]⟩,.string ⟨#[]⟩,.string ⟨#[]⟩,.string ⟨#[]⟩,.string ⟨#[]⟩] 104)).setCell ⟨w.heap.size,3,none⟩ (.string ⟨#[]⟩)).setCell ⟨w.heap.size,4,none⟩ (.string ⟨#[]⟩)):=
  fun ty=>Lib.run_clear_slice _ 69 9 ty (.string ⟨#[]⟩) Tryz.underlying69 zeroStr rfl rfl w.heap.size 3 2 2 (by omega)
   (fun j hj=>by rcases (show j=0\/j=1\/j=2\/j=3\/j=4 by omega) with rfl | rfl | rfl | rfl | rfl <;> first | omega | simp[World.cell?_alloc_past])
   (fun j hj=>by rcases (show j=0\/j=1\/j=2\/j=3\/j=4 by omega) with rfl | rfl | rfl | rfl | rfl <;> first | omega | simp[World.frozen?_alloc_past])
 have hmx:max (3:Int) 0=3:=rfl
 have hsl:∀ (b:Nat) (W:World),(Instr.sliceAt 104 (.pointer (some ⟨b,0,none⟩)) (some (.int .i64 3)) none none).run Tryz.prog W=.ok (.slice (some ⟨b,3,none⟩) 2 2) W:=fun b W=>by kernel_rfl
 go_enter Tryz.func119,Tryz.ntmps119
 go_wp2_with (first | simp only[hmx] | simp only[hsl] | simp only[hcl])
 exact bodyPost_ret (v:=.agg #[.string s0,.string s1,.string s2,.string ⟨#[]⟩,.string ⟨#[]⟩]) (by simp[results,Tryz.results119,go_sem]) rfl ⟨rfl,by repeat (first | exact Below.refl _ _ | (refine Below.alloc ?_ (by simp) _) | (refine Below.setCell ?_ (by simp) _))⟩
theorem head_4 (s0 s1 s2 s3 s4:ByteArray)(w:World):Calls Tryz.prog 119 #[.agg #[.string s0,.string s1,.string s2,.string s3,.string s4],.int .i64 4] w fun e w'=>e=.returned (.agg #[.string s0,.string s1,.string s2,.string s3,.string ⟨#[]⟩])/\Below w.heap.size w w':=by
 have hcl:∀ ty,(Builtin.clear_ #[69] ty #[.slice (some ⟨w.heap.size,4,none⟩) 1 1]).run Tryz.prog ((w.alloc (.cells #[.string s0,.string s1,.string s2,.string s3,.string s4] 104)).alloc (.cells #[.string ⟨#[]⟩,.string ⟨#[]⟩,.string ⟨#[]⟩,.string ⟨#[]⟩,.string ⟨#[]⟩] 104))=.ok (.tuple #[]) (((w.alloc (.cells #[.string s0,.string s1,.string s2,.string s3,.string s4] 104)).alloc (.cells #[.string ⟨#[]⟩,.string ⟨#[]⟩,.string ⟨#[]⟩,.string ⟨#[]⟩,.string ⟨#[]⟩] 104)).setCell ⟨w.heap.size,4,none⟩ (.string ⟨#[]⟩)):=
  fun ty=>Lib.run_clear_slice _ 69 9 ty (.string ⟨#[]⟩) Tryz.underlying69 zeroStr rfl rfl w.heap.size 4 1 1 (by omega)
   (fun j hj=>by rcases (show j=0\/j=1\/j=2\/j=3\/j=4 by omega) with rfl | rfl | rfl | rfl | rfl <;> first | omega | simp[World.cell?_alloc_past])
   (fun j hj=>by rcases (show j=0\/j=1\/j=2\/j=3\/j=4 by omega) with rfl | rfl | rfl | rfl | rfl <;> first | omega | simp[World.frozen?_alloc_past])
 have hmx:max (4:Int) 0=4:=rfl
 have hsl:∀ (b:Nat) (W:World),(Instr.sliceAt 104 (.pointer (some ⟨b,0,none⟩)) (some (.int .i64 4)) none none).run Tryz.prog W=.ok (.slice (some ⟨b,4,none⟩) 1 1) W:=fun b W=>by kernel_rfl
 go_enter Tryz.func119,Tryz.ntmps119
 go_wp2_with (first | simp only[hmx] | simp only[hsl] | simp only[hcl])
 exact bodyPost_ret (v:=.agg #[.string s0,.string s1,.string s2,.string s3,.string ⟨#[]⟩]) (by simp[results,Tryz.results119,go_sem]) rfl ⟨rfl,by repeat (first | exact Below.refl _ _ | (refine Below.alloc ?_ (by simp) _) | (refine Below.setCell ?_ (by simp) _))⟩
theorem head_5 (s0 s1 s2 s3 s4:ByteArray)(w:World):Calls Tryz.prog 119 #[.agg #[.string s0,.string s1,.string s2,.string s3,.string s4],.int .i64 5] w fun e w'=>e=.returned (.agg #[.string s0,.string s1,.string s2,.string s3,.string s4])/\Below w.heap.size w w':=by
 have hcl:∀ ty W,(Builtin.clear_ #[69] ty #[.slice (some ⟨w.heap.size,0,none⟩) 0 0]).run Tryz.prog W=.ok (.tuple #[]) W:=fun ty W=>by simp[Builtin.clear_,run_underlying Tryz.underlying69]
 have hmx:max (5:Int) 0=5:=rfl
 have hsl:∀ (b:Nat) (W:World),(Instr.sliceAt 104 (.pointer (some ⟨b,0,none⟩)) (some (.int .i64 5)) none none).run Tryz.prog W=.ok (.slice (some ⟨b,0,none⟩) 0 0) W:=fun b W=>by kernel_rfl
 go_enter Tryz.func119,Tryz.ntmps119
 go_wp2_with (first | simp only[hmx] | simp only[hsl] | simp only[hcl])
 exact bodyPost_ret (v:=.agg #[.string s0,.string s1,.string s2,.string s3,.string s4]) (by simp[results,Tryz.results119,go_sem]) rfl ⟨rfl,by repeat (first | exact Below.refl _ _ | (refine Below.alloc ?_ (by simp) _) | (refine Below.setCell ?_ (by simp) _))⟩
theorem head_any (l:List ByteArray)(h5:l.length<=5)(n:Nat)(hn:n<=5)(w:World):Calls Tryz.prog 119 #[pathV l,.int .i64 (n:Int)] w fun e w'=>e=.returned (pathV (l.take n))/\Below w.heap.size w w':=by
 have key:∀ i,(l.take n).getD i ⟨#[]⟩=if i<n then l.getD i ⟨#[]⟩ else ⟨#[]⟩:=by
  intro i
  rw[List.getD_eq_getElem?_getD,List.getD_eq_getElem?_getD,List.getElem?_take]
  split <;> rfl
 unfold pathV pathA
 simp only[key]
 rcases (show n=0\/n=1\/n=2\/n=3\/n=4\/n=5 by omega) with rfl | rfl | rfl | rfl | rfl | rfl
 ·exact head_0 _ _ _ _ _ w
 ·exact head_1 _ _ _ _ _ w
 ·exact head_2 _ _ _ _ _ w
 ·exact head_3 _ _ _ _ _ w
 ·exact head_4 _ _ _ _ _ w
 ·exact head_5 _ _ _ _ _ w
theorem head_less (l:List ByteArray)(w:World):Calls Tryz.prog 119 #[pathV l,.int .i64 (-1)] w fun e w'=>e=.returned (pathV [])/\Below w.heap.size w w':=head_neg _ _ _ _ _ w
theorem bcell {W w1:World}(hb:Below W.heap.size W w1):(∀ b o,b<W.heap.size->w1.cell? ⟨b,o,none⟩=W.cell? ⟨b,o,none⟩)/\(∀ b o,b<W.heap.size->w1.frozen? ⟨b,o,none⟩=W.frozen? ⟨b,o,none⟩):=
 ⟨fun b o h=>hb.cell (p:=⟨b,o,none⟩) h,fun b o h=>hb.frozen (p:=⟨b,o,none⟩) h⟩
theorem below_drew {n:Nat}{w W:World}(h:Below n w W):Below n w W.drew:=⟨h.os,h.tape,h.output,h.size,h.block⟩
theorem below_via {w W w1:World}(h0:Below w.heap.size w W)(h:Below W.heap.size W w1):Below w.heap.size w w1:=h0.trans (h.mono h0.size)
theorem two_size {w w1:World}{o1 o2:Obj}(h:Below ((w.alloc o1).alloc o2).drew.heap.size ((w.alloc o1).alloc o2).drew w1):w.heap.size<w1.heap.size/\w.heap.size+1<w1.heap.size:=by
 have h2:((w.alloc o1).alloc o2).heap.size<=w1.heap.size:=h.size
 rw[World.size_alloc,World.size_alloc] at h2
 omega
theorem parent_walk (s0 s1 s2 s3 s4 r0 r1 r2 r3 r4:ByteArray)(n m:Int)(w:World)(hm:IntKind.i64.wrap (n-1)=m)
  (hd:∀ W,Calls Tryz.prog 83 #[.agg #[.string s0,.string s1,.string s2,.string s3,.string s4]] W fun e w'=>e=.returned (.int .i64 n)/\Below W.heap.size W w')
  (hh:∀ W,Calls Tryz.prog 119 #[.agg #[.string s0,.string s1,.string s2,.string s3,.string s4],.int .i64 m] W fun e w'=>e=.returned (.agg #[.string r0,.string r1,.string r2,.string r3,.string r4])/\Below W.heap.size W w'):
  Calls Tryz.prog 76 #[.agg #[.string s0,.string s1,.string s2,.string s3,.string s4]] w fun e w'=>e=.returned (.agg #[.string r0,.string r1,.string r2,.string r3,.string r4])/\Below w.heap.size w w':=by
 go_enter Tryz.func76,Tryz.ntmps76
 go_wp2
 go_region_with (first
  | (go_at_call 83;refine (hd _).mono ?_;rintro e w1 ⟨rfl,hb1⟩;obtain⟨hc1,hf1⟩:=bcell hb1;obtain⟨hz0,hz1⟩:=two_size hb1)
  | (go_at_call 119;refine (hh _).mono ?_;rintro e w2 ⟨rfl,hb2⟩;obtain⟨hc2,hf2⟩:=bcell hb2))
 all_goals
  go_wp2
  exact bodyPost_ret (v:=.agg #[.string r0,.string r1,.string r2,.string r3,.string r4]) (by simp[results,Tryz.results76,go_sem,hc1,hc2,hz1]) rfl ⟨rfl,by
   have h1:Below w.heap.size w w1:=below_via (below_drew (((Below.refl _ _).alloc (Nat.le_refl _) _).alloc (by simp) _)) hb1
   have h2:Below w.heap.size w w2:=h1.trans (hb2.mono (by omega))
   repeat (first | exact h2 | (refine Below.setCell ?_ (by simp) _))⟩
end Go.Proofs.YtajopoddmfdejaaGreat
