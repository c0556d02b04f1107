/-
  What is proved here: canopykeep's below and all answer all that stands in a tree, in order; the tree reads as it did. canopykeep's same answers true of two lists of the same things. several workspaces over one ..
-/
import Derived.Test.YtajopoddmfdejaaGreatRetM46
import Derived.Test.YtajopoddmfdejaaGreatRetM38
import Derived.Test.YtajopoddmfdejaaGreatRetM37
import Derived.Test.YtajopoddmfdejaaGreatRetM39
import Derived.Test.YtajopoddmfdejaaGreatRetM04
namespace Go.Proofs.YtajopoddmfdejaaGreat
open Go.RowKit Go.Sort Go.Shelf
set_option linter.unusedVariables false
set_option maxRecDepth 100000
set_option maxHeartbeats 16000000
section
variable {s i p:Nat}{B:WB}{objs:List Ob}
end
theorem rowT_below {base:Nat}{W W1:World}{e:TypeId}{size n:Nat}{v:Value}{xs:List Value}(h:W.ownsRow base e size v n xs)(hb:Below W.heap.size W W1):W1.ownsRow base e size v n xs:=ownsRow_keep h (fun g hg=>hb.block g (ownsRow_lt h hg))
abbrev Slot:=Nat×WB×WG×LT
structure WsAt (tg:Tags)(w:World)(p:Nat)(objs:List Ob)(lim:Nat)(x:Slot):Prop where
 two:2<=x.1
 wp:WPart tg w x.1 p x.2.1 objs x.2.2.1 lim
 flat:Flat objs x.2.2.2 x.2.2.1.ft
 ok:LTok objs 5 x.2.2.2
 fl:FlOk objs x.2.2.1.fl
 op:∀ k,x.2.2.1.op k=none
 inj:HeldInj objs x.2.2.2
def RowsT (tg:Tags)(w:World)(rows:List (Value×List Thing8)):Prop:=∀ r ∈ rows,w.ownsRow 0 40 3 r.1 r.2.length (flatT r.2)/\∀ b,r.1.ownBlock=some b->tg b=(0,0)
def Many (W wr:World)(s p:Nat)(objs:List Ob)(lim:Nat)(ws:List Slot)(rows:List (Value×List Thing8)):Prop:=
 ∃ tg got,Old W wr tg/\SInv tg wr s p objs got false lim/\(∀ x ∈ ws,WsAt tg wr p objs lim x)/\(ws.map (·.1)).Nodup/\RowsT tg wr rows
theorem RowsT.any {P:Nat×Nat->Prop}{tg tg':Tags}{w w':World}{rows:List (Value×List Thing8)}(h:RowsT tg w rows)(hP:¬ P (0,0))(m:Moves P tg tg' w w'):RowsT tg' w' rows:=by
 intro r hr
 obtain⟨h1,h2⟩:=h r hr
 have hk:∀ b,r.1.ownBlock=some b->w'.heap[b]? = w.heap[b]?/\tg' b=(0,0):=fun b hb=>by
  have hlt:=ownsRow_lt h1 hb
  exact⟨m.block b hlt (by rw[h2 b hb];exact hP),(m.tags b hlt).trans (h2 b hb)⟩
 exact⟨ownsRow_keep h1 (fun g hg=>(hk g hg).1),fun b hb=>(hk b hb).2⟩
theorem WsAt.moves {P:Nat×Nat->Prop}{tg tg':Tags}{w w':World}{p:Nat}{objs:List Ob}{lim:Nat}{x:Slot}(h:WsAt tg w p objs lim x)(m:Moves P tg tg' w w')(hn:∀ k,¬ P (x.1,k)):WsAt tg' w' p objs lim x:=⟨h.two,h.wp.moves m hn,h.flat,h.ok,h.fl,h.op,h.inj⟩
section
variable {W wr:World}{s p:Nat}{objs:List Ob}{lim:Nat}{ws:List Slot}{rows:List (Value×List Thing8)}
theorem many_work (h:Many W wr s p objs lim ws rows){i:Nat}(hi:2<=i)(hn:∀ x ∈ ws,x.1≠i){id:Int}(hok:LTok objs 5 (.dir id)):
  Calls Tryz.prog 12 #[.pointer (some ⟨s,0,none⟩),.int .i64 id] wr fun e w'=>∃ (B:WB) (g:WG),e=.returned (.tuple #[.pointer (some ⟨B.wb,0,none⟩),.bool true])/\g.fl=(fun _=>none)/\g.base=id/\Many W w' s p objs lim ((i,B,g,.dir id) :: ws) rows:=by
 obtain⟨tg,got,hO,hS,hw,hnd,hr⟩:=h
 refine (work_walk s id (fun wb w'=>∃ (B:WB) (g:WG),B.wb=wb/\g.fl=(fun _=>none)/\g.base=id/\Many W w' s p objs lim ((i,B,g,.dir id) :: ws) rows) wr ((qcheckout (i:=i) hS hi hok).mono ?_)).mono ?_
 ·rintro e w' ⟨B,he,tg',m,hQ⟩
  refine⟨B.wb,he,B,wg0 id got,rfl,rfl,rfl,tg',got,hO.any (fun h=>h) m,hQ.inv.st,fun x hx=>?_,?_,hr.any (fun h=>h) m⟩
  ·rcases List.mem_cons.1 hx with rfl | hx
   ·refine⟨hi,hQ.inv.wp,hQ.flat,hQ.ok,hQ.fl,hQ.op,fun x y b h1 h2=>?_⟩
    obtain⟨z,hz⟩:=hQ.held x b h1
    cases hz
   ·exact (hw x hx).moves m (fun _ h=>h)
  ·rw[List.map_cons,List.nodup_cons]
   exact⟨fun hm=>by obtain⟨x,hx,e⟩:=List.mem_map.1 hm;exact hn x hx e,hnd⟩
 ·rintro e w' ⟨wb,he,B,g,rfl,h1,h2,h3⟩
  exact⟨B,g,he,h1,h2,h3⟩
end
def Made2 (W w':World)(s p:Nat)(id:Int):Prop:=∃ tg objs got,Old W w' tg/\SInv tg w' s p objs got false 60000/\Exact objs/\Once objs/\LTok objs 5 (.dir id)/\objs.length<=100/\1<=id/\big objs 5 (.dir id)<=95/\0<(entsOf objs id).length
theorem m_commit2 {W wr:World}{s p:Nat}{B:WB}{objs:List Ob}{N lim:Nat}(h1:OneOb objs)(hN:N<=95)(hl:lim<=60000)(h:MSt W wr s p B objs N lim):
  Calls Tryz.prog 20 #[.pointer (some ⟨B.wb,0,none⟩)] wr fun e w'=>∃ id,e=.returned (.tuple #[.int .i64 id,.int .i64 0])/\1<=id/\Made2 W w' s p id:=by
 obtain⟨tg,g,t,fE,hO,hQ,hM,hbr,ks,rfl⟩:=h
 obtain⟨hwb,c0,_⟩:=hQ.ws
 have hX:=one_exact h1
 have hB:Base8 tg wr s 2 p B objs g lim (.own ks):=⟨hQ.inv,hQ.flat,hX,hQ.fl⟩
 have hcb:=cnt_big objs 5 (.own ks)
 have hfw:=hM.few
 have hlen:objs.length=1:=by obtain⟨o,_,_,_,rfl⟩:=h1;rfl
 have hob:=objR_ok g.fl 5 (Nat.le_refl _) (.own ks) objs hX hQ.ok hB.flSz
 have hol:=hob.len
 have hrd:=objR_reads g.fl (fun _=>⟨#[]⟩) 5 (Nat.le_refl _) (.own ks) objs hX hQ.ok hB.flSz
 refine (commit_ws B.wb B.bt _ _ wr hwb c0 (commit_any hB hQ.ok (by omega) (by omega))).mono ?_
 rintro e w' ⟨he,x',tg',hl',hsame,m,hS⟩
 have hk:kindOf x' (objR g.fl 5 (.own ks) objs).1=2:=by rw[hsame.kind];exact hob.kind
 have hid:=(kindOf_pos (by rw[hk];decide)).1
 have hX':Exact x':=hsame.exact (hob.dr.exact hX)
 have hok':LTok x' 5 (.dir (objR g.fl 5 (.own ks) objs).1):=by
  rw[LTok]
  exact⟨hk,by rw[hsame.high];exact hob.high⟩
 refine⟨_,he,hid,tg',x',g.fs.got,hO.any (by simp) m,by rw[hbr] at hS;exact hS.mono hl,hX',hsame.once (hob.dr.once (one_once h1)),hok',by rw[hsame.len];omega,hid,?_,?_⟩
 ·rw[big_sem (fc:=fun _=>⟨#[]⟩) (fc':=fcOf objs g.fl) hX'.sound hX.sound hok' hQ.ok (fun y=>(sem_same hX'.sound hsame _ y 5 _ hok').trans (hrd y))]
  omega
 ·obtain⟨ks',hk',hp',_⟩:=hM.root
  have h1:sem objs (fcOf objs g.fl) (.own ks) [nameE]=some (nd objs (fcOf objs g.fl) (.held fE)):=by rw[sem_cons,hk',Option.bind_some,hp',Option.bind_some,sem_nil]
  have h2:=(sem_same hX'.sound hsame (fun _=>⟨#[]⟩) [nameE] 5 _ hok').trans ((hrd [nameE]).trans h1)
  rw[sem_cons] at h2
  cases he0:entsOf x' (objR g.fl 5 (.own ks) objs).1 with
  | nil=>
   simp only[kids,he0] at h2
   cases h2
  | cons a b=>simp
theorem made_walk2 (W:World)(a:Option Addr)(len cap:Nat)(hS:StepsAt W a len)(hlen:len<=maxLen):
  Calls Tryz.prog 11 #[.slice a len cap] W fun e w'=>∃ s p id,e=.returned (.tuple #[.pointer (some ⟨s,0,none⟩),.int .i64 id,.bool true])/\Made2 W w' s p id:=by
 have hst:=first_store W
 have HS:Hid _:=hS
 unfold maxLen at hlen
 clear hS
 go_enter Tryz.func11,Tryz.ntmps11
 go_wp2_with fail
 refine Calls.mono hst ?_
 rintro e w1 ⟨s,p,rfl,hF⟩
 have H1:Hid _:=first_dir hF
 clear hst hF
 go_wp2_with fail
 refine Calls.mono H1.out ?_
 rintro e w2 ⟨rfl,objs,h1,hF⟩
 obtain⟨tg,hO,hSt⟩:=first_tags hF (one_exact h1).sound
 have hck:=qcheckout (i:=2) hSt (Nat.le_refl _) (id:=1) (by rw[LTok];exact⟨by rw[one_kind h1];rfl,by rw[one_high h1];decide⟩)
 have H2:Hid _:=hck
 have HO:Hid _:=And.intro h1 hO
 clear hck hSt hF h1 hO H1
 go_wp2_with fail
 refine Calls.mono H2.out ?_
 rintro e w3 ⟨B,rfl,tg',m,hQ⟩
 have H3:Hid _:=m_e HO.out.1 (HO.out.2.any (fun h=>h) m) hQ
 clear H2 m hQ
 go_wp2_with fail
 refine Calls.mono H3.out ?_
 rintro e w4 ⟨rfl,hM⟩
 have HM:Hid _:=hM
 clear H3 hM
 go_wp2
 go_loopw [9] (fun i wr=>∃ k:Nat,k<=len/\k<=90/\i=.int .i64 (k:Int)/\Hid (MSt W wr s p B objs (2+k) (500+k*500))) (fun i _=>90-(intOf i).toNat)
 case atStart=>exact⟨0,Nat.zero_le _,Nat.zero_le _,rfl,HM⟩
 case round=>
  obtain⟨k,hk,hk9,rfl,HR⟩:=hrel
  by_cases hlt:k<len
  ·by_cases hl9:k<90
   ·obtain⟨b,o,rfl,hb,hst⟩:=HS.out.at_ (by omega)
    obtain⟨kd,x,y,d,h1,h2,h3,h4,c0,c1,c2,c3⟩:=hst k hlt
    have hbel:Below W.heap.size W wr:=MSt.below HR.out
    have e0:=(hbel.cell (p:=⟨b,o+k*4,none⟩) hb).trans c0
    have e1:=(hbel.cell (p:=⟨b,o+k*4+1,none⟩) hb).trans c1
    have e2:=(hbel.cell (p:=⟨b,o+k*4+2,none⟩) hb).trans c2
    have e3:=(hbel.cell (p:=⟨b,o+k*4+3,none⟩) hb).trans c3
    have hbr:b<wr.heap.size:=Nat.lt_of_lt_of_le hb hbel.size
    have hdo:=m_step HR.out (by omega) h1 h2 h3 h4
    have HD:Hid _:=hdo
    clear hdo hst c0 c1 c2 c3 hbel h1 h2 h3 h4 HR
    go_wp2_with (go_at_call 14;refine Calls.mono HD.out ?_;rintro e w5 ⟨er,rfl,hM5⟩;have HM5:Hid _:=hM5;clear hM5)
    go_roundw
    case rel=>exact⟨k+1,by omega,by omega,by go_num,by have:=HM5.out;rw[show 2+k+1=2+(k+1) by omega,show 500+k*500+500=500+(k+1)*500 by omega] at this;exact this⟩
    case measure=>simp[intOf];omega
   ·have hk90:k=90:=by omega
    subst hk90
    have ht:=m_told (by omega) HR.out
    have HT:Hid _:=ht
    clear ht HR
    go_wp2_with fail
    refine Calls.mono HT.out ?_
    rintro e w5 ⟨rfl,hM5⟩
    have HC:Hid _:=m_commit2 HO.out.1 (by omega) (by omega) hM5
    clear hM5 HT
    go_wp2_with fail
    refine Calls.mono HC.out ?_
    rintro e w6 ⟨id,rfl,hid,hMd⟩
    have HMD:Hid _:=hMd
    clear HC hMd
    have hid':(0:Int)<id:=by omega
    go_wp2
    exact bodyPost_ret (v:=.tuple #[.pointer (some ⟨s,0,none⟩),.int .i64 id,.bool true]) (by simp[results,Tryz.results11,go_sem]) rfl ⟨s,p,id,rfl,HMD.out⟩
  ·have ht:=m_told (by omega) HR.out
   have HT:Hid _:=ht
   clear ht HR
   go_wp2_with fail
   refine Calls.mono HT.out ?_
   rintro e w5 ⟨rfl,hM5⟩
   have HC:Hid _:=m_commit2 HO.out.1 (by omega) (by omega) hM5
   clear hM5 HT
   go_wp2_with fail
   refine Calls.mono HC.out ?_
   rintro e w6 ⟨id,rfl,hid,hMd⟩
   have HMD:Hid _:=hMd
   clear HC hMd
   have hid':(0:Int)<id:=by omega
   go_wp2
   exact bodyPost_ret (v:=.tuple #[.pointer (some ⟨s,0,none⟩),.int .i64 id,.bool true]) (by simp[results,Tryz.results11,go_sem]) rfl ⟨s,p,id,rfl,HMD.out⟩

section
variable {W wr:World}{s p:Nat}{objs:List Ob}{lim:Nat}{ws:List Slot}{rows:List (Value×List Thing8)}
theorem many_made3 {id:Int}(h:Made2 W wr s p id):∃ objs,Obs8 objs id/\big objs 5 (.dir id)<=95/\0<(entsOf objs id).length/\Many W wr s p objs 60000 [] []:=by
 obtain⟨tg,objs,got,hO,hS,hX,hOn,hok,hlen,hid,hbig,hne⟩:=h
 exact⟨objs,⟨hX,hOn,hok,hlen⟩,hbig,hne,tg,got,hO,hS,(fun x hx=>by cases hx),List.nodup_nil,(fun r hr=>by cases hr)⟩
end
variable {ft:PTail}
end Go.Proofs.YtajopoddmfdejaaGreat
