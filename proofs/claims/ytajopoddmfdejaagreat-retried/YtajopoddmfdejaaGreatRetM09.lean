/-
  What is proved here: a fetch in memory ('deliver'): it fails once if it is to, else it is noted. what is fetched and kept: FetchFile and FetchDir of the store's pool, and Get of a workspace's two shelves. Get ..
-/
import Derived.Test.YtajopoddmfdejaaGreatRetM08
namespace Go.Proofs.YtajopoddmfdejaaGreat
open Go.RowKit Go.Sort Go.Shelf
set_option linter.unusedVariables false
set_option maxRecDepth 100000
set_option maxHeartbeats 16000000
theorem infoID:(Tryz.prog.info? 26).map (fun i=>(i.zero,i.size,i.bytes))=some (some (.int .i64 0),1,8):=by kernel_rfl
theorem deliver_brk {ft:PTail}(p:Nat)(a:Option Addr)(n cap bf bd:Nat)(id:Int)(w:World)(h:PoolAt ft w p a n cap bf bd)(hb:ft.b=true):
  Calls Tryz.prog 143 #[.pointer (some ⟨p,0,none⟩),.int .i64 id] w fun e w'=>e=.returned (.int .i64 14)/\w'=w.setCell ⟨p,4,none⟩ (.bool false):=by
 have c4:w.cell? ⟨p,4,none⟩=some (.bool true):=by unfold PoolAt at h;simp[World.cell?,h,hb]
 have f4:w.frozen? ⟨p,4,none⟩=false:=by unfold PoolAt at h;simp[World.frozen?,h]
 clear h hb
 go_enter Tryz.func143,Tryz.ntmps143
 go_wp2
 go_ret
 exact⟨rfl,rfl⟩
theorem cells1 (w:World)(c0:Value)(t:TypeId):∀ j u,[c0][j]? = some u->(w.alloc (.cells #[c0] t)).cell? ((⟨w.heap.size,0,none⟩:Addr).add j)=some u:=by
 intro j u h
 match j,h with
 | 0,h=>simpa [Addr.add] using h
 | j+1,h=>simp at h
theorem grown_cell1 {w w1:World}{o1:Obj}{r:Option Nat}(hg:(w.alloc o1).grownBy w1 r){p:Nat}(hp:p<w.heap.size)(hr:some p≠r){v:Value}{i:Nat}(h:w.cell? ⟨p,i,none⟩=some v):w1.cell? ⟨p,i,none⟩=some v:=by
 rw[World.cell?_of_block (a:=⟨p,i,none⟩) (hg.block p (by simp;omega) hr),World.cell?_alloc_past _ _ _ hp,h]
theorem grown_frozen1 {w w1:World}{o1:Obj}{r:Option Nat}(hg:(w.alloc o1).grownBy w1 r){p:Nat}(hp:p<w.heap.size)(hr:some p≠r){i:Nat}(h:w.frozen? ⟨p,i,none⟩=false):w1.frozen? ⟨p,i,none⟩=false:=by
 rw[World.frozen?_of_block (a:=⟨p,i,none⟩) (hg.block p (by simp;omega) hr),World.frozen?_alloc_past _ _ _ hp,h]
theorem deliver_ok (p:Nat)(a:Option Addr)(n c:Nat)(xs:List Value)(id:Int)(w:World)(hp:p<w.heap.size)(c3:w.cell? ⟨p,3,none⟩=some (.slice a n c))(f3:w.frozen? ⟨p,3,none⟩=false)(c4:w.cell? ⟨p,4,none⟩=some (.bool false))
  (hown:w.ownsRow 0 26 1 (.slice a n c) n xs)(hpa:some p≠(Value.slice a n c).ownBlock)(hn:n<1099511627776):
  Calls Tryz.prog 143 #[.pointer (some ⟨p,0,none⟩),.int .i64 id] w fun e w'=>e=.returned (.int .i64 0)/\
   ∃ g cap' w1,w1.ownsRow 0 26 1 (.slice (some ⟨g,0,none⟩) (n+1) cap') (n+1) (xs ++ [.int .i64 id])/\(∃ o1,(w.alloc o1).grownBy w1 (Value.slice a n c).ownBlock/\((some g:Option Nat)=(Value.slice a n c).ownBlock\/g=w.heap.size+1))/\w'=w1.setCell ⟨p,3,none⟩ (.slice (some ⟨g,0,none⟩) (n+1) cap'):=by
 obtain⟨i0,hi,hz0,hz1,hz2⟩:=info_parts infoID
 have HO:Hid (w.ownsRow 0 26 1 (.slice a n c) n xs):=hown
 have HP:Hid (some p≠(Value.slice a n c).ownBlock):=hpa
 clear hown hpa
 go_enter Tryz.func143,Tryz.ntmps143
 go_wp2_with (first | (at_builtin;go_loud (refine wpList_append_own_at _ rfl (.tmp 16) (.tmp 18) 64 rfl 0 26 i0 _ 1 8 Tryz.underlying64 hi hz0 hz1 hz2 rfl (by decide) (.slice a n c) n xs rfl (HO.out.alloc _) ⟨w.heap.size,0,none⟩ 1 1 [.int .i64 id] rfl rfl (cells1 w (.int .i64 id) 26) (by intro u hu;simp at hu;subst hu;rfl) (by unfold maxLen;omega) (by omega) (Nat.zero_le _) ?_;intro v' w1 hown' hgrow _ hloc;obtain⟨g,cap',rfl⟩:=slice_of_owns hown' (by omega);have k1':=grown_cell1 hgrow hp HP.out c3;have k2':=grown_frozen1 hgrow hp HP.out f3)) | go_in)
 go_ret
 exact⟨rfl,g,cap',w1,hown',⟨_,hgrow,by simpa [Value.ownBlock] using hloc⟩,rfl⟩
theorem InvP.tail {ft ft':PTail}{F F':Nat->Prop}{w w':World}{s p:Nat}{objs:List Ob}(h:InvP ft F w s p objs)(hp:∀ a n cap bf bd,PoolAt ft w p a n cap bf bd->PoolAt ft' w' p a n cap bf bd)(hk:∀ k,k<w.heap.size->F k->k≠p->w'.heap[k]? = w.heap[k]?)(hF:∀ k,k<w.heap.size->F k->F' k):InvP ft' F' w' s p objs:=by
 obtain⟨a,cap,bf,bd,Df,Dd,i⟩:=h
 have ls:s<w.heap.size:=(Array.getElem?_eq_some_iff.1 i.hs).1
 have hsp:s≠p:=cells_ne i.hs i.pool.at_ (by decide)
 have hmp:∀ {b:Nat} {es:Array MapEntry} {clock:Nat},w.heap[b]? = some (.map es clock)->b≠p:=fun hb e=>by subst e;have:=i.pool.at_;unfold PoolAt at this;rw[hb] at this;cases this
 obtain⟨e1,c1,hbf⟩:=ownsMap_isMap i.files
 obtain⟨e2,c2,hbd⟩:=ownsMap_isMap i.dirs
 have hrow:∀ v m t k xs,w.ownsRow 0 t k v m xs->t≠136->(∀ g,v.ownBlock=some g->F g)->w'.ownsRow 0 t k v m xs:=fun v m t k xs hr ht hFg=>ownsRow_keep hr (fun g hg=>hk g (ownsRow_lt hr hg) (hFg g hg) (fun e=>by
  subst e
  exact owns_ne_cells hr i.pool.at_ (fun e=>ht e.symm) hg.symm))
 refine⟨a,cap,bf,bd,Df,Dd,⟨hF _ ls i.fs,hF _ i.pool.at_.lt i.fp,hF _ i.files.lt i.ff,hF _ i.dirs.lt i.fd,fun g hg=>hF g (ownsRow_lt i.pool.row hg) (i.fr g hg),(hk s ls i.fs hsp).trans i.hs,⟨hp _ _ _ _ _ i.pool.at_,hrow _ _ _ _ _ i.pool.row (by decide) i.fr,i.pool.len,i.pool.many⟩,i.ne,
  ownsMap_keep i.files (hk _ i.files.lt i.ff (hmp hbf)),i.filesOk,ownsMap_keep i.dirs (hk _ i.dirs.lt i.fd (hmp hbd)),i.dirsOk,fun o ho=>?_⟩⟩
 rcases i.obs o ho with h | ⟨h1,h2,h3,h4,h5,h6,h8,h9⟩
 ·exact .inl h
 ·exact .inr ⟨h1,h2,h3,h4,h5,h6,fun g hg=>hF g (ownsRow_lt h9 hg) (h8 g hg),hrow _ _ _ _ _ h9 (by decide) h8⟩
def Got (t:Nat×Nat):Prop:=t=(1,0)\/t=(1,1)
def Delivered (s p:Nat)(objs:List Ob)(got:List Int)(brk:Bool)(lim:Nat)(id:Int)(tg:Tags)(w:World)(er:Int):Prop:=
 (brk=true/\er=14/\SInv tg w s p objs got false lim)\/(brk=false/\er=0/\SInv tg w s p objs (got ++ [id]) false (lim+1))
theorem deliver_any {tg:Tags}{w:World}{s p:Nat}{objs:List Ob}{got:List Int}{brk:Bool}{lim:Nat}(h:SInv tg w s p objs got brk lim)(hl:lim<1099511627776)(id:Int):
  Calls Tryz.prog 143 #[.pointer (some ⟨p,0,none⟩),.int .i64 id] w fun e w'=>∃ er,e=.returned (.int .i64 er)/\∃ tg',Moves Got tg tg' w w'/\Delivered s p objs got brk lim id tg' w' er:=by
 obtain⟨hfr,ft,hb,hi,hg,hs,hgl⟩:=h
 have hi':=hi
 obtain⟨a,cap,bf,bd,Df,Dd,i⟩:=hi'
 have hat:=i.pool.at_
 have hlt:=hat.lt
 have hpt:tg p=(1,0):=i.fp
 have hpa:some p≠(Value.slice ft.a ft.n ft.c).ownBlock:=owns_ne_cells hg.1 hat (by decide)
 cases brk with
 | true=>
  refine (deliver_brk p a objs.length cap bf bd id w hat hb).mono ?_
  rintro e w' ⟨rfl,rfl⟩
  refine⟨14,rfl,tg,⟨rfl,rfl,rfl,by simp,fun _ _=>rfl,fun k hk hn=>Below.heap_setCell _ _ _ _ (fun e=>hn (by rw[e,hpt];exact .inl rfl)),fun hf k hk=>hf k (by simpa using hk)⟩,.inl ⟨rfl,rfl,fun k hk=>hfr k (by simpa using hk),{ ft with b:=false },rfl,?_,⟨?_,hg.2.1,hg.2.2⟩,hs,hgl⟩⟩
  ·refine hi.tail (fun a' n' cap' bf' bd' h'=>?_) (fun k hk hF hne=>Below.heap_setCell _ _ _ _ hne) (fun k hk hF=>hF)
   unfold PoolAt at h' ⊢
   simp[World.setCell,Array.getElem?_modify,h']
  ·exact ownsRow_keep hg.1 (fun g hgg=>Below.heap_setCell _ _ _ _ (fun e=>hpa (by rw[hgg,e])))
 | false=>
  have c3:w.cell? ⟨p,3,none⟩=some (.slice ft.a ft.n ft.c):=by unfold PoolAt at hat;simp[World.cell?,hat]
  have f3:w.frozen? ⟨p,3,none⟩=false:=by unfold PoolAt at hat;simp[World.frozen?,hat]
  have c4:w.cell? ⟨p,4,none⟩=some (.bool false):=by unfold PoolAt at hat;simp[World.cell?,hat,hb]
  refine (deliver_ok p ft.a ft.n ft.c _ id w hlt c3 f3 c4 hg.1 hpa (by rw[hg.2.1];omega)).mono ?_
  rintro e w' ⟨rfl,g,cap',w1,hown,⟨o1,hgr,hloc⟩,rfl⟩
  have hsz:=hgr.size
  simp at hsz
  have hkeep:∀ k,k<w.heap.size->some k≠(Value.slice ft.a ft.n ft.c).ownBlock->w1.heap[k]? = w.heap[k]?:=fun k hk hne=>by
   rw[hgr.block k (by simp;omega) hne,Below.heap_alloc _ _ _ hk]
  have hgp:g≠p:=by
   rintro rfl
   rcases hloc with h | h
   ·exact hpa h
   ·omega
  have htag:∀ k,tg k=(1,0)->some k≠(Value.slice ft.a ft.n ft.c).ownBlock:=fun k hk e=>by have:=hg.2.2 k e.symm;rw[hk] at this;cases this
  refine⟨0,rfl,fun k=>if k<w.heap.size then tg k else if k<w1.heap.size then (1,1) else (0,0),⟨hgr.os,hgr.tape,hgr.output,by simp;omega,fun k hk=>if_pos hk,fun k hk hn=>?_,fun hf k hk=>?_⟩,.inr ⟨rfl,rfl,fun k hk=>?_,⟨some ⟨g,0,none⟩,ft.n+1,cap',false⟩,rfl,?_,⟨?_,?_,fun g' hg'=>?_⟩,hs,by simp;omega⟩⟩
  ·rw[Below.heap_setCell _ _ _ _ (fun e=>hn (by rw[e,hpt];exact .inl rfl)),hkeep k hk (fun e=>hn (.inr (hg.2.2 k e.symm)))]
  ·have hk':w1.heap.size<=k:=by simpa using hk
   show (if _ then _ else _)=_
   rw[if_neg (by omega),if_neg (by omega)]
  ·have hk':w1.heap.size<=k:=by simpa using hk
   show (if _ then _ else _)=_
   rw[if_neg (by omega),if_neg (by omega)]
  ·refine hi.tail (fun a' n' cap'' bf' bd' h'=>?_) (fun k hk hF hne=>?_) (fun k hk hF=>by show (if _ then _ else _)=_;rw[if_pos hk];exact hF)
   ·have hp1:w1.heap[p]? = w.heap[p]?:=hkeep p hlt hpa
    unfold PoolAt at h' ⊢
    simp[World.setCell,Array.getElem?_modify,hp1,h',hb]
   ·rw[Below.heap_setCell _ _ _ _ hne,hkeep k hk (htag k hF)]
  ·rw[List.map_append]
   exact ownsRow_keep hown (fun g' hg'=>by cases hg';exact Below.heap_setCell _ _ _ _ hgp)
  ·simp[hg.2.1]
  ·obtain rfl:g=g':=by simpa [Value.ownBlock] using hg'
   show (if _ then _ else _)=_
   rcases hloc with h | h
   ·rw[if_pos (ownsRow_lt hg.1 h.symm)];exact hg.2.2 g h.symm
   ·rw[if_neg (by omega),if_pos (by have:=ownsRow_lt hown rfl;omega)]
theorem bytesOf_in {objs:List Ob}{j:Nat}(hj:j<objs.length):bytesOf objs ((j:Int)+1)=objs[j].data:=by
 unfold bytesOf
 rw[show ((j:Int)+1-1).toNat=j by omega,List.getElem?_eq_getElem hj];rfl
theorem entsOf_in {objs:List Ob}{j:Nat}(hj:j<objs.length):entsOf objs ((j:Int)+1)=objs[j].ents:=by
 unfold entsOf
 rw[show ((j:Int)+1-1).toNat=j by omega,List.getElem?_eq_getElem hj];rfl
section
variable {tg:Tags}{w:World}{s p:Nat}{objs:List Ob}{got:List Int}{brk:Bool}{lim:Nat}
theorem SInv.file (h:SInv tg w s p objs got brk lim){id:Int}(hk:kindOf objs id=1):
  Calls Tryz.prog 58 #[.pointer (some ⟨p,0,none⟩),.int .i64 id] w fun e w'=>e=.returned (.tuple #[.string (bytesOf objs id),.int .i64 0])/\Below w.heap.size w w':=by
 obtain⟨_,ft,_,⟨a,cap,bf,bd,Df,Dd,i⟩,_⟩:=h
 refine (file_any p a objs.length cap bf bd objs id w i.pool).mono ?_
 rintro e w' ⟨hb,⟨hn,_⟩ | ⟨j,hj,rfl,_,he⟩⟩
 ·exact absurd hk hn
 ·rw[bytesOf_in hj];exact⟨he,hb⟩
theorem SInv.dir (h:SInv tg w s p objs got brk lim){id:Int}(hk:kindOf objs id=2):
  Calls Tryz.prog 57 #[.pointer (some ⟨p,0,none⟩),.int .i64 id] w fun e w'=>∃ g,e=.returned (.tuple #[.slice (some ⟨g,0,none⟩) (entsOf objs id).length (entsOf objs id).length,.int .i64 0])/\w'.ownsRow w.heap.size 76 3 (.slice (some ⟨g,0,none⟩) (entsOf objs id).length (entsOf objs id).length) (entsOf objs id).length (flat (entsOf objs id))/\Below w.heap.size w w':=by
 obtain⟨_,ft,_,⟨a,cap,bf,bd,Df,Dd,i⟩,_⟩:=h
 refine (poolGetDir i id).mono ?_
 rintro e w' ⟨⟨hn,_⟩ | ⟨j,hj,rfl,_,g,he,hr⟩,hb⟩
 ·exact absurd hk hn
 ·rw[entsOf_in hj];exact⟨g,he,hr,hb⟩
theorem fetchFile_any (h:SInv tg w s p objs got brk lim)(hl:lim<1099511627776){id:Int}(hk:kindOf objs id=1):
  Calls Tryz.prog 104 #[.pointer (some ⟨p,0,none⟩),.int .i64 id] w fun e w'=>∃ er,e=.returned (.tuple #[.string (if er=0 then bytesOf objs id else ⟨#[]⟩),.int .i64 er])/\∃ tg',Moves Got tg tg' w w'/\Delivered s p objs got brk lim id tg' w' er:=by
 have hcon:=deliver_any h hl id
 clear h hl
 cases brk with
 | true=>
  have hcon':Calls Tryz.prog 143 #[.pointer (some ⟨p,0,none⟩),.int .i64 id] w fun e w'=>e=.returned (.int .i64 14)/\∃ tg',Moves Got tg tg' w w'/\Delivered s p objs got true lim id tg' w' 14:=hcon.mono (fun e w' ⟨er,he,tg',m,hD⟩=>by
   have h14:er=14:=by rcases hD with ⟨_,h,_⟩ | ⟨h,_⟩;exact h;cases h
   subst h14;exact⟨he,tg',m,hD⟩)
  clear hcon
  go_enter Tryz.func104,Tryz.ntmps104
  go_wp2_with (go_at_call 143;refine hcon'.mono ?_;rintro e w1 ⟨rfl,hrest⟩;have HR:Hid _:=hrest;clear hrest)
  go_ret2
  exact⟨14,rfl,HR.out⟩
 | false=>
  have hcon':Calls Tryz.prog 143 #[.pointer (some ⟨p,0,none⟩),.int .i64 id] w fun e w'=>e=.returned (.int .i64 0)/\∃ tg',Moves Got tg tg' w w'/\SInv tg' w' s p objs (got ++ [id]) false (lim+1):=hcon.mono (fun e w' ⟨er,he,tg',m,hD⟩=>by
   rcases hD with ⟨h,_⟩ | ⟨_,rfl,hS⟩
   ·cases h
   ·exact⟨he,tg',m,hS⟩)
  clear hcon
  go_enter Tryz.func104,Tryz.ntmps104
  go_wp2_with (first
   | (go_at_call 143;refine hcon'.mono ?_;rintro e w1 ⟨rfl,tg1,m1,hS⟩;have HM:Hid _:=m1;have HS:Hid _:=hS;clear m1 hS)
   | (go_at_call 58;refine (SInv.file HS.out hk).mono ?_;rintro e w2 ⟨rfl,hb⟩))
  go_ret2
  exact⟨0,by rw[if_pos rfl];rfl,tg1,HM.out.trans (Moves.of_below hb),.inr ⟨rfl,rfl,HS.out.moves (P:=fun _=>False) (Moves.of_below hb) (fun x=>x) (fun x=>x)⟩⟩
theorem fetchDir_any (h:SInv tg w s p objs got brk lim)(hl:lim<1099511627776){id:Int}(hk:kindOf objs id=2):
  Calls Tryz.prog 106 #[.pointer (some ⟨p,0,none⟩),.int .i64 id] w fun e w'=>∃ er v,e=.returned (.tuple #[v,.int .i64 er])/\(er≠0->v=.slice none 0 0)/\∃ tg',Moves Got tg tg' w w'/\Delivered s p objs got brk lim id tg' w' er/\
   (er=0->∃ g,v=.slice (some ⟨g,0,none⟩) (entsOf objs id).length (entsOf objs id).length/\w.heap.size<=g/\tg' g=(0,0)/\w'.ownsRow 0 76 3 v (entsOf objs id).length (flat (entsOf objs id))):=by
 have hcon:=deliver_any h hl id
 clear h hl
 cases brk with
 | true=>
  have hcon':Calls Tryz.prog 143 #[.pointer (some ⟨p,0,none⟩),.int .i64 id] w fun e w'=>e=.returned (.int .i64 14)/\∃ tg',Moves Got tg tg' w w'/\Delivered s p objs got true lim id tg' w' 14:=hcon.mono (fun e w' ⟨er,he,tg',m,hD⟩=>by
   have h14:er=14:=by rcases hD with ⟨_,h,_⟩ | ⟨h,_⟩;exact h;cases h
   subst h14;exact⟨he,tg',m,hD⟩)
  clear hcon
  go_enter Tryz.func106,Tryz.ntmps106
  go_wp2_with (go_at_call 143;refine hcon'.mono ?_;rintro e w1 ⟨rfl,hrest⟩;have HR:Hid _:=hrest;clear hrest)
  go_ret2
  obtain⟨tg',m,hD⟩:=HR.out
  exact⟨14,_,rfl,fun _=>rfl,tg',m,hD,fun h=>by cases h⟩
 | false=>
  have hcon':Calls Tryz.prog 143 #[.pointer (some ⟨p,0,none⟩),.int .i64 id] w fun e w'=>e=.returned (.int .i64 0)/\∃ tg',Moves Got tg tg' w w'/\SInv tg' w' s p objs (got ++ [id]) false (lim+1):=hcon.mono (fun e w' ⟨er,he,tg',m,hD⟩=>by
   rcases hD with ⟨h,_⟩ | ⟨_,rfl,hS⟩
   ·cases h
   ·exact⟨he,tg',m,hS⟩)
  clear hcon
  go_enter Tryz.func106,Tryz.ntmps106
  go_wp2_with (first
   | (go_at_call 143;refine hcon'.mono ?_;rintro e w1 ⟨rfl,tg1,m1,hS⟩;have HM:Hid _:=m1;have HS:Hid _:=hS;clear m1 hS)
   | (go_at_call 57;refine (SInv.dir HS.out hk).mono ?_;rintro e w2 ⟨g,rfl,hrow,hb⟩;have HR:Hid _:=hrow;clear hrow))
  go_ret2
  have hS:=HS.out
  have hge:w1.heap.size<=g:=by
   rcases HR.out.2 with ⟨h,_⟩ | ⟨g',_,_,hv,hb',_⟩
   ·cases h
   ·cases hv;exact hb'
  refine⟨0,_,rfl,fun h=>absurd rfl h,tg1,HM.out.trans (Moves.of_below hb),.inr ⟨rfl,rfl,HS.out.moves (P:=fun _=>False) (Moves.of_below hb) (fun x=>x) (fun x=>x)⟩,fun _=>⟨g,rfl,Nat.le_trans HM.out.size hge,hS.fresh g hge,?_⟩⟩
  exact row_base0 HR.out
end
theorem lawID:Maps.Keyed Tryz.prog 26:=Maps.int_keyed Tryz.underlying26
theorem keyID {id:Int}(h:(Lit.int .i64 id).wf=true):keyOf Tryz.prog 26 (.int .i64 id)=some (idL id):=by
 simp[keyOf,Tryz.underlying26,mapKey,h,idL]
theorem zeroEs (w:World):(zeroValue 72).run Tryz.prog w=.ok (.slice none 0 0) w:=by kernel_rfl
theorem getF_hit (b m p n:Nat)(M:Lit->Option Value)(id:Int)(d:ByteArray)(w:World)(c1:w.cell? ⟨b,1,none⟩=some (.map (some m)))(hV:VMap w 26 m n M)(hw:(Lit.int .i64 id).wf=true)(hM:M (idL id)=some (.string d)):
  Calls Tryz.prog 157 #[.pointer (some ⟨b,0,none⟩),.int .i64 id] w fun e w'=>e=.returned (.tuple #[.string d,.int .i64 0])/\w'=w:=by
 have hlk:=hV.look_ok lawID Tryz.underlying217 (zeroStr w) (keyID hw)
 rw[hM] at hlk
 clear hV hM
 go_enter Tryz.func157,Tryz.ntmps157
 go_wp2_with (simp only[hlk])
 go_ret2
 exact⟨rfl,rfl⟩
theorem getF_fail (b m p n:Nat)(M:Lit->Option Value)(id:Int)(R:World->Prop)(w:World)(c0:w.cell? ⟨b,0,none⟩=some (.func (.func 104) #[ptr p] #[]))(c1:w.cell? ⟨b,1,none⟩=some (.map (some m)))(hV:VMap w 26 m n M)(hw:(Lit.int .i64 id).wf=true)(hM:M (idL id)=none)
  (hcall:Calls Tryz.prog 104 #[.pointer (some ⟨p,0,none⟩),.int .i64 id] w fun e w1=>e=.returned (.tuple #[.string ⟨#[]⟩,.int .i64 14])/\R w1):
  Calls Tryz.prog 157 #[.pointer (some ⟨b,0,none⟩),.int .i64 id] w fun e w'=>e=.returned (.tuple #[.string ⟨#[]⟩,.int .i64 14])/\R w':=by
 have hlk:=hV.look_ok lawID Tryz.underlying217 (zeroStr w) (keyID hw)
 rw[hM] at hlk
 unfold ptr at c0
 clear hV hM
 go_enter Tryz.func157,Tryz.ntmps157
 go_wp2_with (first | (go_at_call 104;refine hcall.mono ?_;rintro e w1 ⟨rfl,hR⟩))
 go_ret2
 exact⟨rfl,hR⟩
theorem getF_new (b m p n:Nat)(M:Lit->Option Value)(id:Int)(R:ByteArray->World->Prop)(w:World)(c0:w.cell? ⟨b,0,none⟩=some (.func (.func 104) #[ptr p] #[]))(c1:w.cell? ⟨b,1,none⟩=some (.map (some m)))(hV:VMap w 26 m n M)(hw:(Lit.int .i64 id).wf=true)(hM:M (idL id)=none)(hn:n<maxLen)
  (hcall:Calls Tryz.prog 104 #[.pointer (some ⟨p,0,none⟩),.int .i64 id] w fun e w1=>∃ d:ByteArray,e=.returned (.tuple #[.string d,.int .i64 0])/\R d w1)
  (hR:∀ d w1,R d w1->w1.cell? ⟨b,1,none⟩=some (.map (some m))/\VMap w1 26 m n M):
  Calls Tryz.prog 157 #[.pointer (some ⟨b,0,none⟩),.int .i64 id] w fun e w'=>∃ d:ByteArray,e=.returned (.tuple #[.string d,.int .i64 0])/\∃ w1,R d w1/\VMap w' 26 m (n+1) (mset M (idL id) (some (.string d)))/\w1.grownBy w' (some m)/\w'.heap.size=w1.heap.size:=by
 have hlk:=hV.look_ok lawID Tryz.underlying217 (zeroStr w) (keyID hw)
 rw[hM] at hlk
 unfold ptr at c0
 clear hV hM
 go_enter Tryz.func157,Tryz.ntmps157
 go_wp2_with (first | (go_at_call 104;refine hcall.mono ?_;rintro e w1 ⟨d,rfl,hR1⟩;obtain⟨c1',hV1⟩:=hR _ _ hR1;obtain⟨w2,hst,hV2,hg2,hs2⟩:=hV1.store lawID Tryz.underlying217 hn (keyID hw) (val:=.string d);have HV:Hid _:=hV2;have HG:Hid _:=hg2;have HS:Hid _:=hs2;have HR:Hid _:=hR1;clear hV1 hV2 hg2 hs2 hR1))
 go_ret2
 exact⟨d,rfl,w1,HR.out,HV.out,HG.out,HS.out⟩
theorem getD_hit (b m p n:Nat)(M:Lit->Option Value)(id:Int)(la:Option Addr)(ln lc:Nat)(w:World)(c1:w.cell? ⟨b,1,none⟩=some (.map (some m)))(hV:VMap w 26 m n M)(hw:(Lit.int .i64 id).wf=true)(hM:M (idL id)=some (.slice la ln lc)):
  Calls Tryz.prog 150 #[.pointer (some ⟨b,0,none⟩),.int .i64 id] w fun e w'=>e=.returned (.tuple #[.slice la ln lc,.int .i64 0])/\w'=w:=by
 have hlk:=hV.look_ok lawID Tryz.underlying221 (zeroEs w) (keyID hw)
 rw[hM] at hlk
 clear hV hM
 go_enter Tryz.func150,Tryz.ntmps150
 go_wp2_with (simp only[hlk])
 go_ret2
 exact⟨rfl,rfl⟩
theorem getD_fail (b m p n:Nat)(M:Lit->Option Value)(id:Int)(R:World->Prop)(w:World)(c0:w.cell? ⟨b,0,none⟩=some (.func (.func 106) #[ptr p] #[]))(c1:w.cell? ⟨b,1,none⟩=some (.map (some m)))(hV:VMap w 26 m n M)(hw:(Lit.int .i64 id).wf=true)(hM:M (idL id)=none)
  (hcall:Calls Tryz.prog 106 #[.pointer (some ⟨p,0,none⟩),.int .i64 id] w fun e w1=>e=.returned (.tuple #[.slice none 0 0,.int .i64 14])/\R w1):
  Calls Tryz.prog 150 #[.pointer (some ⟨b,0,none⟩),.int .i64 id] w fun e w'=>e=.returned (.tuple #[.slice none 0 0,.int .i64 14])/\R w':=by
 have hlk:=hV.look_ok lawID Tryz.underlying221 (zeroEs w) (keyID hw)
 rw[hM] at hlk
 unfold ptr at c0
 clear hV hM
 go_enter Tryz.func150,Tryz.ntmps150
 go_wp2_with (first | (go_at_call 106;refine hcall.mono ?_;rintro e w1 ⟨rfl,hR⟩))
 go_ret2
 exact⟨rfl,hR⟩
theorem getD_new (b m p n:Nat)(M:Lit->Option Value)(id:Int)(R:Option Addr->Nat->Nat->World->Prop)(w:World)(c0:w.cell? ⟨b,0,none⟩=some (.func (.func 106) #[ptr p] #[]))(c1:w.cell? ⟨b,1,none⟩=some (.map (some m)))(hV:VMap w 26 m n M)(hw:(Lit.int .i64 id).wf=true)(hM:M (idL id)=none)(hn:n<maxLen)
  (hcall:Calls Tryz.prog 106 #[.pointer (some ⟨p,0,none⟩),.int .i64 id] w fun e w1=>∃ la ln lc,e=.returned (.tuple #[.slice la ln lc,.int .i64 0])/\R la ln lc w1)
  (hR:∀ la ln lc w1,R la ln lc w1->w1.cell? ⟨b,1,none⟩=some (.map (some m))/\VMap w1 26 m n M):
  Calls Tryz.prog 150 #[.pointer (some ⟨b,0,none⟩),.int .i64 id] w fun e w'=>∃ la ln lc,e=.returned (.tuple #[.slice la ln lc,.int .i64 0])/\∃ w1,R la ln lc w1/\VMap w' 26 m (n+1) (mset M (idL id) (some (.slice la ln lc)))/\w1.grownBy w' (some m)/\w'.heap.size=w1.heap.size:=by
 have hlk:=hV.look_ok lawID Tryz.underlying221 (zeroEs w) (keyID hw)
 rw[hM] at hlk
 unfold ptr at c0
 clear hV hM
 go_enter Tryz.func150,Tryz.ntmps150
 go_wp2_with (first | (go_at_call 106;refine hcall.mono ?_;rintro e w1 ⟨la,ln,lc,rfl,hR1⟩;obtain⟨c1',hV1⟩:=hR _ _ _ _ hR1;obtain⟨w2,hst,hV2,hg2,hs2⟩:=hV1.store lawID Tryz.underlying221 hn (keyID hw) (val:=.slice la ln lc);have HV:Hid _:=hV2;have HG:Hid _:=hg2;have HS:Hid _:=hs2;have HR:Hid _:=hR1;clear hV1 hV2 hg2 hs2 hR1))
 go_ret2
 exact⟨la,ln,lc,rfl,w1,HR.out,HV.out,HG.out,HS.out⟩
theorem kind_in {objs:List Ob}{id:Int}(h:kindOf objs id≠0):1<=id/\id<=objs.length:=by
 refine⟨kind_id rfl h,?_⟩
 by_cases h2:id<=objs.length
 ·exact h2
 ·exact absurd (kindOf_out (.inr (by omega))) h
theorem SInv.many {tg:Tags}{w:World}{s p:Nat}{objs:List Ob}{got:List Int}{brk:Bool}{lim:Nat}(h:SInv tg w s p objs got brk lim):objs.length<=400:=by
 obtain⟨_,ft,_,⟨a,cap,bf,bd,Df,Dd,i⟩,_⟩:=h
 exact i.pool.many
theorem SInv.wf {tg:Tags}{w:World}{s p:Nat}{objs:List Ob}{got:List Int}{brk:Bool}{lim:Nat}(h:SInv tg w s p objs got brk lim){id:Int}(hk:kindOf objs id≠0):(Lit.int .i64 id).wf=true:=by
 have h1:=kind_in hk
 have h2:=h.many
 exact WalkArith.wf_i64 (by omega)
theorem KeptF.mono {tg:Tags}{w:World}{i:Nat}{B:WB}{objs:List Ob}{kF:Int->Bool}{lim lim':Nat}(h:KeptF tg w i B objs kF lim)(hl:lim<=lim'):KeptF tg w i B objs kF lim':=by
 obtain⟨ht,n,M,hn,r⟩:=h
 exact⟨ht,n,M,Nat.le_trans hn hl,r⟩
theorem KeptD.mono {tg:Tags}{w:World}{i:Nat}{B:WB}{objs:List Ob}{kD:Int->Bool}{lim lim':Nat}(h:KeptD tg w i B objs kD lim)(hl:lim<=lim'):KeptD tg w i B objs kD lim':=by
 obtain⟨ht,n,M,vK,hn,r⟩:=h
 exact⟨ht,n,M,vK,Nat.le_trans hn hl,r⟩
theorem OwnF.mono {tg:Tags}{w:World}{i:Nat}{B:WB}{of:List ByteArray->Option Nat}{lim lim':Nat}(h:OwnF tg w i B of lim)(hl:lim<=lim'):OwnF tg w i B of lim':=by
 obtain⟨ht,⟨n,hn,r⟩,hg⟩:=h
 exact⟨ht,⟨n,Nat.le_trans hn hl,r⟩,hg⟩
theorem OwnDV.mono {tg:Tags}{w:World}{i:Nat}{B:WB}{od:List ByteArray->Option (List Ent)}{lim lim':Nat}{vD:List ByteArray->Value}(h:OwnDV tg w i B od lim vD)(hl:lim<=lim'):OwnDV tg w i B od lim' vD:=by
 obtain⟨ht,⟨n,hn,r⟩,r1,r2,r3⟩:=h
 exact⟨ht,⟨n,Nat.le_trans hn hl,r⟩,r1,r2,r3⟩
theorem WPart.mono {tg:Tags}{w:World}{i p:Nat}{B:WB}{objs:List Ob}{g:WG}{lim lim':Nat}(h:WPart tg w i p B objs g lim)(hl:lim<=lim'):WPart tg w i p B objs g lim':=by
 obtain⟨vD,hD⟩:=h.ownD
 exact⟨h.tree,h.keptF.mono hl,h.keptD.mono hl,h.ownF.mono hl,⟨vD,hD.mono hl⟩,h.files,h.held,h.opens,h.ok⟩
theorem WInv.mono {tg:Tags}{w:World}{s i p:Nat}{B:WB}{objs:List Ob}{g:WG}{lim lim':Nat}(h:WInv tg w s i p B objs g lim)(hl:lim<=lim'):WInv tg w s i p B objs g lim':=⟨h.two,h.st.mono hl,h.wp.mono hl⟩
theorem WPart.fs {P:Nat×Nat->Prop}{tg tg':Tags}{w w':World}{i p:Nat}{B:WB}{objs:List Ob}{g:WG}{lim lim':Nat}{fs':FS}(h:WPart tg w i p B objs g lim)(m:Moves P tg tg' w w')(hn:∀ k,k≠2->k≠3->¬ P (i,k))(hl:lim<=lim')
  (hF:KeptF tg' w' i B objs fs'.kF lim')(hD:KeptD tg' w' i B objs fs'.kD lim'):WPart tg' w' i p B objs { g with fs:=fs' } lim':=by
 obtain⟨vD,oD⟩:=h.ownD
 exact⟨h.tree.moves m (hn 1 (by decide) (by decide)),hF,hD,(h.ownF.moves m (hn 4 (by decide) (by decide))).mono hl,⟨vD,(oD.moves m (hn 5 (by decide) (by decide))).mono hl⟩,h.files.moves m (hn 6 (by decide) (by decide)),h.held,h.opens.moves m (hn 0 (by decide) (by decide)) (hn 7 (by decide) (by decide)),h.ok⟩
theorem got_not {i:Nat}(hi:2<=i)(k:Nat):¬ Got (i,k):=by
 rintro (h | h)
 ·cases h;omega
 ·cases h;omega
def Fetches (i:Nat)(t:Nat×Nat):Prop:=t.1=1\/t=(i,2)\/t=(i,3)
theorem Fetches.mine {i:Nat}{t:Nat×Nat}(h:Fetches i t):Mine i t:=by
 rcases h with h | h | h
 ·exact .inl h
 ·rw[h];exact .inr rfl
 ·rw[h];exact .inr rfl
theorem got_fetch {i:Nat}{t:Nat×Nat}(h:Got t):Fetches i t:=by
 rcases h with rfl | rfl
 ·exact .inl rfl
 ·exact .inl rfl
theorem moves_grown {P:Nat×Nat->Prop}{tg:Tags}{w w':World}{b:Nat}(hg:w.grownBy w' (some b))(hs:w'.heap.size=w.heap.size)(hP:P (tg b)):Moves P tg tg w w':=
 ⟨hg.os,hg.tape,hg.output,hg.size,fun _ _=>rfl,fun k hk hn=>hg.block k hk (fun e=>hn (by cases e;exact hP)),fun hf k hk=>hf k (by omega)⟩
section
variable {tg:Tags}{w:World}{s i p:Nat}{B:WB}{objs:List Ob}{g:WG}{lim:Nat}
theorem shelfF (h:WInv tg w s i p B objs g lim)(hl:lim<1099511627776){id:Int}(hk:kindOf objs id=1):
  Calls Tryz.prog 157 #[.pointer (some ⟨B.sF,0,none⟩),.int .i64 id] w fun e w'=>
   e=.returned (.tuple #[.string (if (g.fs.fileG id).2 then bytesOf objs id else ⟨#[]⟩),.int .i64 (if (g.fs.fileG id).2 then 0 else 14)])/\∃ tg',Moves (Fetches i) tg tg' w w'/\WInv tg' w' s i p B objs { g with fs:=(g.fs.fileG id).1 } (lim+1):=by
 have hwf:=h.st.wf (id:=id) (by rw[hk];decide)
 obtain⟨htF,n,M,hn,hV,hM,hK⟩:=h.wp.keptF
 have c0:w.cell? ⟨B.sF,0,none⟩=some (.func (.func 104) #[ptr p] #[]):=by simp[World.cell?,h.wp.tree.hF]
 have c1:w.cell? ⟨B.sF,1,none⟩=some (.map (some B.mF)):=by simp[World.cell?,h.wp.tree.hF]
 by_cases hin:g.fs.kF id=true
 ·have hG:g.fs.fileG id=(g.fs,true):=by unfold FS.fileG;rw[if_pos hin]
  rw[hG]
  refine (getF_hit B.sF B.mF p n M id (bytesOf objs id) w c1 hV hwf (by rw[hM,if_pos hin])).mono ?_
  rintro e w' ⟨rfl,rfl⟩
  exact⟨rfl,tg,Moves.refl _ _ _,h.mono (Nat.le_succ _)⟩
 ·have hM0:M (idL id)=none:=by rw[hM,if_neg hin]
  cases hb:g.fs.brk with
  | true=>
   have hG:g.fs.fileG id=({ g.fs with brk:=false },false):=by unfold FS.fileG;rw[if_neg hin,if_pos hb]
   rw[hG]
   refine (getF_fail B.sF B.mF p n M id (fun w'=>∃ tg',Moves Got tg tg' w w'/\SInv tg' w' s p objs g.fs.got false lim) w c0 c1 hV hwf hM0 ((fetchFile_any h.st hl hk).mono ?_)).mono ?_
   ·rintro e w' ⟨er,rfl,tg',m,⟨_,rfl,hS⟩ | ⟨hc,_⟩⟩
    ·exact⟨rfl,tg',m,hS⟩
    ·rw[hb] at hc;cases hc
   ·rintro e w' ⟨rfl,tg',m,hS⟩
    exact⟨rfl,tg',m.mono (fun t ht=>got_fetch ht),h.two,hS.mono (Nat.le_succ _),h.wp.fs m (fun k _ _=>got_not h.two k) (Nat.le_succ _) ((h.wp.keptF.moves m (got_not h.two 2)).mono (Nat.le_succ _)) ((h.wp.keptD.moves m (got_not h.two 3)).mono (Nat.le_succ _))⟩
  | false=>
   have hG:g.fs.fileG id=({ g.fs with got:=g.fs.got ++ [id],kF:=fun x=>decide (x=id) || g.fs.kF x },true):=by unfold FS.fileG;rw[if_neg hin,if_neg (by rw[hb];decide)]
   rw[hG]
   refine (getF_new B.sF B.mF p n M id (fun d w'=>d=bytesOf objs id/\∃ tg',Moves Got tg tg' w w'/\SInv tg' w' s p objs (g.fs.got ++ [id]) false (lim+1)) w c0 c1 hV hwf hM0 (by unfold maxLen;omega) ((fetchFile_any h.st hl hk).mono ?_) ?_).mono ?_
   ·rintro e w' ⟨er,rfl,tg',m,⟨hc,_⟩ | ⟨_,rfl,hS⟩⟩
    ·rw[hb] at hc;cases hc
    ·exact⟨bytesOf objs id,rfl,rfl,tg',m,hS⟩
   ·rintro d w1 ⟨_,tg',m,hS⟩
    have ht:=h.wp.tree.moves m (got_not h.two 1)
    exact⟨by simp[World.cell?,ht.hF],(hV.moves m htF (got_not h.two 2)).1⟩
   ·rintro e w' ⟨d,rfl,w1,⟨rfl,tg',m,hS⟩,hV2,hg2,hs2⟩
    have ht2:=(hV.moves m htF (got_not h.two 2)).2
    have m2:Moves (fun t=>t=(i,2)) tg' tg' w1 w':=moves_grown hg2 hs2 ht2
    have m3:Moves (fun t=>Got t\/t=(i,2)) tg tg' w w':=(m.mono (fun t ht=>.inl ht)).trans (m2.mono (fun t ht=>.inr ht))
    have hi:=h.two
    refine⟨rfl,tg',m3.mono (fun t ht=>ht.elim got_fetch (fun e=>.inr (.inl e))),h.two,?_,h.wp.fs m3 (fun k h2 _=>?_) (Nat.le_succ _) ?_ ?_⟩
    ·rw[show ({ g.fs with got:=g.fs.got ++ [id],kF:=fun x=>decide (x=id) || g.fs.kF x }:FS).brk=false from hb]
     exact hS.moves m2 (fun e=>by cases e) (fun e=>by cases e)
    ·rintro (h | h)
     ·exact got_not hi k h
     ·cases h;exact h2 rfl
    ·refine⟨ht2,n+1,_,by omega,hV2,fun x=>?_,fun x hx=>?_⟩
     ·by_cases hx:x=id
      ·subst hx;rw[mset_same];simp
      ·rw[mset_other (fun e=>hx (by injection e)),hM x];simp[hx]
     ·by_cases hxe:x=id
      ·rw[hxe];exact hk
      ·exact hK x (by simpa [hxe] using hx)
    ·exact (h.wp.keptD.moves m3 (by rintro (h | h);exact got_not hi 3 h;cases h)).mono (Nat.le_succ _)
theorem shelfD9 (h:WInv tg w s i p B objs g lim)(hl:lim<1099511627776){id:Int}(hk:kindOf objs id=2):
  Calls Tryz.prog 150 #[.pointer (some ⟨B.sD,0,none⟩),.int .i64 id] w fun e w'=>
   ∃ v,e=.returned (.tuple #[v,.int .i64 (if (g.fs.dirG id).2 then 0 else 14)])/\∃ tg',Moves (Fetches i) tg tg' w w'/\WInv tg' w' s i p B objs { g with fs:=(g.fs.dirG id).1 } (lim+1)/\
    (if (g.fs.dirG id).2 then RowT tg' w' (i,3) v (entsOf objs id) else v=.slice none 0 0)/\∀ v es k,(k=3\/k=5)->RowT tg w (i,k) v es->RowT tg' w' (i,k) v es:=by
 have hwf:=h.st.wf (id:=id) (by rw[hk];decide)
 obtain⟨htD,n,M,vK,hn,hV,hM,hK⟩:=h.wp.keptD
 have c0:w.cell? ⟨B.sD,0,none⟩=some (.func (.func 106) #[ptr p] #[]):=by simp[World.cell?,h.wp.tree.hD]
 have c1:w.cell? ⟨B.sD,1,none⟩=some (.map (some B.mD)):=by simp[World.cell?,h.wp.tree.hD]
 by_cases hin:g.fs.kD id=true
 ·have hG:g.fs.dirG id=(g.fs,true):=by unfold FS.dirG;rw[if_pos hin]
  rw[hG]
  have hrow:=(hK id hin).2
  obtain⟨la,ln,lc,hv⟩:∃ la ln lc,vK id=.slice la ln lc:=by
   rcases hrow.1.2 with ⟨e,_⟩ | ⟨g',c',_,e,_⟩
   ·exact⟨_,_,_,e⟩
   ·exact⟨_,_,_,e⟩
  refine (getD_hit B.sD B.mD p n M id la ln lc w c1 hV hwf (by rw[hM,if_pos hin,hv])).mono ?_
  rintro e w' ⟨rfl,rfl⟩
  exact⟨_,rfl,tg,Moves.refl _ _ _,h.mono (Nat.le_succ _),by rw[if_pos rfl,<- hv];exact hrow,fun _ _ _ _ h=>h⟩
 ·have hM0:M (idL id)=none:=by rw[hM,if_neg hin]
  cases hb:g.fs.brk with
  | true=>
   have hG:g.fs.dirG id=({ g.fs with brk:=false },false):=by unfold FS.dirG;rw[if_neg hin,if_pos hb]
   rw[hG]
   refine (getD_fail B.sD B.mD p n M id (fun w'=>∃ tg',Moves Got tg tg' w w'/\SInv tg' w' s p objs g.fs.got false lim) w c0 c1 hV hwf hM0 ((fetchDir_any h.st hl hk).mono ?_)).mono ?_
   ·rintro e w' ⟨er,v,rfl,hv,tg',m,⟨_,rfl,hS⟩ | ⟨hc,_⟩,_⟩
    ·rw[hv (by decide)];exact⟨rfl,tg',m,hS⟩
    ·rw[hb] at hc;cases hc
   ·rintro e w' ⟨rfl,tg',m,hS⟩
    exact⟨_,rfl,tg',m.mono (fun t ht=>got_fetch ht),⟨h.two,hS.mono (Nat.le_succ _),h.wp.fs m (fun k _ _=>got_not h.two k) (Nat.le_succ _) ((h.wp.keptF.moves m (got_not h.two 2)).mono (Nat.le_succ _)) ((h.wp.keptD.moves m (got_not h.two 3)).mono (Nat.le_succ _))⟩,rfl,fun _ _ k _ hr=>hr.moves m (got_not h.two k)⟩
  | false=>
   have hG:g.fs.dirG id=({ g.fs with got:=g.fs.got ++ [id],kD:=fun x=>decide (x=id) || g.fs.kD x },true):=by unfold FS.dirG;rw[if_neg hin,if_neg (by rw[hb];decide)]
   rw[hG]
   refine (getD_new B.sD B.mD p n M id (fun la ln lc w'=>∃ gb,Value.slice la ln lc=.slice (some ⟨gb,0,none⟩) (entsOf objs id).length (entsOf objs id).length/\w.heap.size<=gb/\w'.ownsRow 0 76 3 (.slice la ln lc) (entsOf objs id).length (flat (entsOf objs id))/\∃ tg',tg' gb=(0,0)/\Moves Got tg tg' w w'/\SInv tg' w' s p objs (g.fs.got ++ [id]) false (lim+1)) w c0 c1 hV hwf hM0 (by unfold maxLen;omega) ((fetchDir_any h.st hl hk).mono ?_) ?_).mono ?_
   ·rintro e w' ⟨er,v,rfl,_,tg',m,⟨hc,_⟩ | ⟨_,rfl,hS⟩,hr⟩
    ·rw[hb] at hc;cases hc
    ·obtain⟨gb,rfl,hge,ht0,hrow⟩:=hr rfl
     exact⟨_,_,_,rfl,gb,rfl,hge,hrow,tg',ht0,m,hS⟩
   ·rintro la ln lc w1 ⟨_,_,_,_,tg',_,m,hS⟩
    have ht:=h.wp.tree.moves m (got_not h.two 1)
    exact⟨by simp[World.cell?,ht.hD],(hV.moves m htD (got_not h.two 3)).1⟩
   ·rintro e w' ⟨la,ln,lc,rfl,w1,⟨gb,hveq,hge,hrow,tg1,ht0,m,hS⟩,hV2,hg2,hs2⟩
    have ht2:=(hV.moves m htD (got_not h.two 3)).2
    have hi:=h.two
    have hgl:gb<w1.heap.size:=ownsRow_lt hrow (by rw[hveq];rfl)
    -- the new row is the workspace's
    have hfr1:Fresh (tagAt tg1 gb (i,3)) w1:=fun k hk=>by rw[tagAt_other (by omega)];exact hS.fresh k hk
    have m1:Moves Got tg (tagAt tg1 gb (i,3)) w w1:=⟨m.os,m.tape,m.output,m.size,fun k hk=>by rw[tagAt_other (by omega)];exact m.tags k hk,m.block,fun _=>hfr1⟩
    have hS1:SInv (tagAt tg1 gb (i,3)) w1 s p objs (g.fs.got ++ [id]) false (lim+1):=hS.retag hfr1 (fun k hk=>tagAt_other (fun e=>by rw[e,ht0] at hk;cases hk) _)
    have hmD:tagAt tg1 gb (i,3) B.mD=(i,3):=(hV.moves m1 htD (got_not h.two 3)).2
    have m2:Moves (fun t=>t=(i,3)) (tagAt tg1 gb (i,3)) (tagAt tg1 gb (i,3)) w1 w':=moves_grown hg2 hs2 hmD
    have m3:Moves (fun t=>Got t\/t=(i,3)) tg (tagAt tg1 gb (i,3)) w w':=(m1.mono (fun t ht=>.inl ht)).trans (m2.mono (fun t ht=>.inr ht))
    obtain⟨es1,ck1,hbm⟩:=(hV.moves m1 htD (got_not h.two 3)).1.isMap
    have hmg:∀ v es k,RowT (tagAt tg1 gb (i,3)) w1 (i,k) v es->RowT (tagAt tg1 gb (i,3)) w' (i,k) v es:=fun v es k hr=>hr.keep (fun g' hg' hl'=>⟨hg2.block g' hl' (fun e=>by
     have e':g'=B.mD:=by injection e
     rw[e'] at hg'
     exact owns_ne_map hr.1 hbm hg'.symm),rfl⟩)
    have hnew:RowT (tagAt tg1 gb (i,3)) w' (i,3) (.slice la ln lc) (entsOf objs id):=hmg _ _ _ ⟨hrow,fun g' hg'=>by
     rw[hveq] at hg'
     obtain rfl:gb=g':=by simpa [Value.ownBlock] using hg'
     exact tagAt_same _ _ _⟩
    refine⟨_,rfl,_,m3.mono (fun t ht=>ht.elim got_fetch (fun e=>.inr (.inr e))),⟨h.two,?_,h.wp.fs m3 (fun k _ h3=>?_) (Nat.le_succ _) ?_ ?_⟩,hnew,fun v es k _ hr=>hmg _ _ _ (hr.moves m1 (got_not h.two k))⟩
    ·rw[show ({ g.fs with got:=g.fs.got ++ [id],kD:=fun x=>decide (x=id) || g.fs.kD x }:FS).brk=false from hb]
     exact hS1.moves m2 (fun e=>by cases e) (fun e=>by cases e)
    ·rintro (h | h)
     ·exact got_not hi k h
     ·cases h;exact h3 rfl
    ·exact (h.wp.keptF.moves m3 (by rintro (h | h);exact got_not hi 2 h;cases h)).mono (Nat.le_succ _)
    ·refine⟨hmD,n+1,_,fun x=>if x=id then .slice la ln lc else vK x,by omega,hV2,fun x=>?_,fun x hx=>?_⟩
     ·by_cases hx:x=id
      ·subst hx;rw[mset_same];simp
      ·rw[mset_other (fun e=>hx (by injection e)),hM x];simp[hx]
     ·by_cases hxe:x=id
      ·subst hxe
       show _/\RowT _ _ _ (if x=x then _ else _) _
       rw[if_pos rfl];exact⟨hk,hnew⟩
      ·show _/\RowT _ _ _ (if x=id then _ else _) _
       rw[if_neg hxe]
       have hx':g.fs.kD x=true:=by simpa [hxe] using hx
       exact⟨(hK x hx').1,hmg _ _ _ ((hK x hx').2.moves m1 (got_not h.two 3))⟩
end
end Go.Proofs.YtajopoddmfdejaaGreat
