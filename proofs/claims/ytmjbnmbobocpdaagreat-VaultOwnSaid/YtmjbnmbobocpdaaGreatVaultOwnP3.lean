/- What VaultOwn stands on, part 3. -/
import Derived.OrdersIn
import Derived.Deep.CutRange
import Derived.Laws.CopyRow
import Derived.Laws.AppendOwn
import Derived.Lib.ItoaNum
import Derived.Test.YtmjbnmbobocpdaaGreatVaultOwnP1
import Derived.Test.YtmjbnmbobocpdaaGreatVaultOwnP2
set_option maxRecDepth 100000
set_option maxHeartbeats 8000000
set_option linter.unusedVariables false
set_option linter.unusedSimpArgs false
namespace Go.Proofs.YtmjbnmbobocpdaaGreat
open Go.ChangeShapes Go.WideShapes Go.ChangeAt Go.RowKit
section
open Go.Shelf
variable {ds:List Deferred}
def noDefer (L:List Oper):Bool:=L.all fun o=>match o.op with
 | .defer _=>false
 | _=>true
theorem noDefer_at {L:List Oper} (h:noDefer L=true):∀ o∈L,∀ c,o.op≠.defer c:=fun o ho c e=>by
 have:=List.all_eq_true.1 h o ho
 simp [e] at this
abbrev wideR (r:Option Nat):Fence:={ Fence.wide with round:=r }
section
variable {P:Program} {r:Option Nat} {n:Nat} {ops:Array Oper} {Q:Exit→Act→World→Prop} {a:Act} {w:World} {o:Oper} {K:Act→World→Prop}
theorem rows_wide {row:String} {args:Array Value} {R:Value→World→Prop} (h:Rows P row args w R):RowsIn (wideR r) n P row args w R:=
 fun c cs _=>let ⟨v,w',q,s⟩:=h c cs;⟨v,w',q,stepsIn_wide.2 s⟩
theorem upon_in:∀ x:Result Next,o.upon P a K Q x→o.uponIn (wideR r) n P a K Q x:=by
 intro x h
 cases x with
 | ok x w'=>
  cases x with
  | value v=>exact h
  | skip=>exact h
  | defer d=>exact h
  | enter f args=>exact ⟨fun e=>Bool.noConfusion e,(show CallsIn Fence.wide (n-1) P _ _ _ _ from callsIn_wide.2 h).mono fun e w2 q=>by cases e <;> exact q⟩
  | row row args=>exact ⟨fun e=>Bool.noConfusion e,rows_wide h⟩
  | _=>exact False.elim h
 | halt x w'=>
  cases x with
  | panic v=>exact h
  | _=>exact False.elim h
theorem op_in (hd:∀ c,o.op≠.defer c) (h:o.wp P a w K Q):o.wpIn (wideR r) n P a w K Q:=by
 refine ⟨fun _ _=>trivial,?_⟩
 rw [Oper.semAt_eq _ _ _ hd]
 exact upon_in _ h
theorem list_in (hQ:¬LetsOut Q):∀ (l:List Oper),(∀ o∈l,∀ c,o.op≠.defer c)→∀ (a:Act) (w:World),wpList P ops Q l a w→wpListIn (wideR r) n P ops Q l a w
 | [],_,_,_,h=>h
 | o::l,hl,a,w,h=>by
  unfold wpList at h
  unfold wpListIn
  by_cases hw:Region.wanted o (yielded ops a.tmps)=true
  ·rw [if_pos hw] at h ⊢
   rcases h with h | h
   ·exact Oper.wpIn_mono (fun a w h=>list_in hQ l (fun o ho=>hl o (List.mem_cons_of_mem _ ho)) a w h) (op_in (hl o List.mem_cons_self) h)
   ·exact absurd h.2 hQ
  ·rw [if_neg hw] at h ⊢
   exact ⟨fun _ _=>trivial,list_in hQ l (fun o ho=>hl o (List.mem_cons_of_mem _ ho)) _ w h⟩
theorem opn_in (hQ:¬LetsOut Q) (hd:∀ (i:Nat) (o:Oper),ops[i]? = some o→∀ c,o.op≠.defer c) {i:Nat} {K':Act→World→Prop} (hK:∀ a w,K a w→K' a w) (h:wpOp P ops Q i K a w):wpOpIn (wideR r) n P ops Q i K' a w:=by
 unfold wpOp at h
 unfold wpOpIn
 cases ho:ops[i]? with
 | none=>rw [ho] at h;exact hK _ _ h
 | some o=>
  rw [ho] at h
  by_cases hw:Region.wanted o (yielded ops a.tmps)=true
  ·simp only [hw,if_true] at h ⊢
   rcases h with h | h
   ·exact Oper.wpIn_mono hK (op_in (hd i o ho) h)
   ·exact absurd h.2 hQ
  ·simp only [hw] at h ⊢
   exact ⟨fun _ _=>trivial,hK _ _ h⟩
theorem any_in (hQ:¬LetsOut Q) (hd:∀ (i:Nat) (o:Oper),ops[i]? = some o→∀ c,o.op≠.defer c) {md:Region.Mode}:∀ (fuel:Nat) (listed:Array Bool) (a:Act) (w:World),wpAny P md ops Q fuel listed a w→wpAnyIn (wideR r) n P md ops Q fuel listed a w
 | 0,_,_,_,h=>h
 | fuel+1,listed,a,w,h=>⟨h.1,fun i hi=>opn_in hQ hd (fun a w h=>any_in hQ hd fuel _ a w h) (h.2 i hi)⟩
end
section
variable {P:Program} {l n':Nat} {Q:Exit→Act→World→Prop} {a:Act} {w:World} {L:List Oper} {id:Nat}
theorem wpIn_lit' (hQ:¬LetsOut Q) (hnd:noDefer L=true) (h:wpList P L.toArray Q L a w):(Code.region id L.toArray false).wpIn (Fence.wide.inRound l) n' P Q a w:=
 wpIn_region_lit (list_in (r:=some l) hQ L (noDefer_at hnd) a w h)
theorem wpIn_region_inv (hQ:¬LetsOut Q) (hnd:noDefer L=true) (hm:P.follows .mixedOrders=true) (Inv:Array Bool→Act→World→Prop)
  (hstart:Inv (Array.replicate L.toArray.size false) a w.drew)
  (hstep:∀ listed a w i,listed.size=L.toArray.size→Inv listed a w→i∈Region.ready .any L.toArray listed→wpOp P L.toArray Q i (fun a' w'=>Inv (listed.setIfInBounds i true) a' w') a w)
  (hend:∀ listed a w,listed.size=L.toArray.size→Inv listed a w→Region.ready .any L.toArray listed=[]→Q .normal a w):(Code.region id L.toArray true).wpIn (Fence.wide.inRound l) n' P Q a w:=
 wpIn_region_any hm (any_in (r:=some l) hQ (fun i o ho=>noDefer_at hnd o (by have:=List.mem_of_getElem? (l:=L) (i:=i) (by simpa using ho);exact this)) _ _ _ _ (wpAny_inv Inv hstep hend _ _ _ _ (by simp) (by simp [List.count_replicate]) hstart))
end
theorem RegInv.wpIn {P:Program} {L:List Oper} {Q:Exit→Act→World→Prop} {a:Act} {w:World} {id l n':Nat} (hQ:¬LetsOut Q) (hnd:noDefer L=true) (hm:P.follows .mixedOrders=true):RegInv P L Q a w ((Code.region id L.toArray true).wpIn (Fence.wide.inRound l) n' P Q a w):=fun Inv h1 h2 h3=>wpIn_region_inv hQ hnd hm Inv h1 h2 h3
theorem wp_region_relT_in {P:Program} {id:Nat} {Q:Exit→Act→World→Prop} {a0:Act} {W:World} {L:List Oper} {l n':Nat} (hQ:¬LetsOut Q) (hnd:noDefer L=true) (m n:Nat) (hn:a0.tmps.size=n) (hm:P.follows .mixedOrders=true) (hok:relOkT L m n=true) (Y:Nat→World→Value→Prop)
  (hY:∀ i w w' v,Kc W.heap.size w w'→Y i w v→Y i w' v) (hop:HopAllT P L m Q Y a0 W (L.take m) 0)
  (hend:∀ (p:Nat→Value) (w:World),Below W.heap.size W w→YAll Y p w (L.take m) 0→wpList P L.toArray Q (L.drop m) (z8b p (L.take m) 0 a0) w):(Code.region id L.toArray true).wpIn (Fence.wide.inRound l) n' P Q a0 W:=
 wp_region_relTC (.wpIn hQ hnd hm) m n hn hok Y hY hop hend
theorem wp_region_stT_in {P:Program} {id:Nat} {Q:Exit→Act→World→Prop} {a0:Act} {W:World} {L:List Oper} {l n':Nat} (hQ:¬LetsOut Q) (hnd:noDefer L=true) (S:List StK) (m n:Nat) (hn:a0.tmps.size=n) (hm:P.follows .mixedOrders=true) (hok:relOkT L m n=true)
  (hop:HopAllT P L m Q (stYK S) a0 W (L.take m) 0)
  (hend:∀ (p:Nat→Value) (w:World),Below W.heap.size W w→YAll (stYK S) p w (L.take m) 0→wpList P L.toArray Q (L.drop m) (z8b p (L.take m) 0 a0) w):(Code.region id L.toArray true).wpIn (Fence.wide.inRound l) n' P Q a0 W:=
 wp_region_relT_in hQ hnd m n hn hm hok (stYK S) (fun i w w' v hb h=>((S[i]?).getD StK.any).h _ w w' v hb h) hop hend
theorem region_fx_in {P:Program} {id:Nat} {Q:Exit→Act→World→Prop} {a0:Act} {W:World} {L:List Oper} {l n':Nat} (hQ:¬LetsOut Q) (hnd:noDefer L=true) {n:Nat} {V:List (Nat×Value)} (F:Fx n a0 V ds) (S:List StK) (m:Nat) (hm:P.follows .mixedOrders=true) (hok:relOkT L m n=true)
  (hop:HopAllT P L m Q (stYK S) a0 W (L.take m) 0)
  (hend:∀ (p:Nat→Value) (a:Act) (w:World),Kc W.heap.size W w→Fx n a (layV p (L.take m) 0 V) ds→YAll (stYK S) p w (L.take m) 0→wpList P L.toArray Q (L.drop m) a w):(Code.region id L.toArray true).wpIn (Fence.wide.inRound l) n' P Q a0 W:=
 wp_region_stT_in hQ hnd S m n F.size hm hok hop fun p w hb hY=>hend p _ w (by exact Kc.of_below (Nat.le_refl _) hb) (F.lay p (L.take m) 0 a0 V (relOkT_dst hok)) hY
/-! What is no cells. -/
def othR (W0:World):Res:=⟨false,fun g=>∃ o,W0.heap[g]? = some o∧o.isCells=false,fun w=>KeepsOthers W0 w⟩
theorem othR_dep {W0:World}:∀ u u',Same (othR W0).fp u u'→(othR W0).F u→(othR W0).F u':=fun u u' hs h=>
 ⟨Nat.le_trans h.size hs.size,fun k o hk ho=>hs k o ⟨o,hk,ho⟩ (h.same k o hk ho)⟩
def zuc (w:World) (r:Res):Prop:=∀ g,r.fp g→∃ o,w.heap[g]? = some o∧o.isCells=true
def CellsA (w:World):List (Nat×Res)→Prop
 | []=>True
 | p::L=>zuc w p.2∧CellsA w L
theorem CellsA.at {w:World}:∀ {R:List (Nat×Res)} {i:Nat} {r:Res},CellsA w R→look R i=some r→zuc w r
 | [],_,_,_,h=>by cases h
 | p::L,i,r,h,e=>by
  obtain ⟨k,x⟩:=p
  rw [zx] at e
  split at e
  ·cases e;exact h.1
  ·exact h.2.at e
section
variable {G:Option Nat} {w0 w:World} {R:List (Nat×Res)}
theorem Mx.oth (M:Mx G w0 w R) (h:CellsA w R) (i:Nat):Mx G w0 w ((i,othR w)::R):=
 M.cons i _ (KeepsOthers.refl w) othR_dep (fun g ⟨o,hg,_⟩=>(Array.getElem?_eq_some_iff.1 hg).1) (fun e=>by cases e) fun k s e _ _ g ⟨o,hg,ho⟩ hs=>by
  obtain ⟨o',h1,h2⟩:=h.at e g hs
  rw [hg] at h1;cases h1;rw [ho] at h2;cases h2
theorem Mx.keeps (M:Mx G w0 w R) {i:Nat} {W:World} (h:look R i=some (othR W)):KeepsOthers W w:=M.at_ i _ h
theorem Mx.putObj (M:Mx G w0 w R) (h:CellsA w R) {l:Nat} (hl:w0.heap.size≤l) (hnc:zsb w l) (o:Obj):Mx G w0 (w.putObj l o) R:=by
 have hg:=grownBy_putObj' w l o
 have hr:∀ g,(∃ o',w.heap[g]? = some o'∧o'.isCells=true)→g≠l:=fun g ⟨o',h1,h2⟩ e=>by
  subst e
  rw [hnc o' h1] at h2;cases h2
 refine ⟨⟨hg.os.trans M.grown.os,hg.tape.trans M.grown.tape,hg.output.trans M.grown.output,Nat.le_trans M.grown.size hg.size,fun k hk hn=>?_⟩,fun i r e=>?_,M.dep,fun i r e g hgp=>Nat.lt_of_lt_of_le (M.lt i r e g hgp) hg.size,M.own,M.dis⟩
 ·exact (World.putObj_heap_other (by omega)).trans (M.grown.block k hk hn)
 ·exact M.dep i r e w _ (Same.of_grown hg fun g hgp e2=>hr g (h.at e g hgp) (Option.some.inj e2).symm) (M.at_ i r e)
end
theorem cell_cells {w:World} {g k:Nat} {v:Value} (h:w.cell? ⟨g,k,none⟩=some v):∃ o,w.heap[g]? = some o∧o.isCells=true:=by
 unfold World.cell? at h
 cases ho:w.heap[g]? with
 | none=>rw [ho] at h;cases h
 | some o=>cases o <;> first | exact ⟨_,rfl,rfl⟩ | (rw [ho] at h;cases h)
theorem zg {w:World} {g:Nat} {t:TypeId} {c:Array Value} (h:w.heap[g]? = some (.cells c t (0,0))):zuc w (blkR g t c):=fun b hb=>by cases hb;exact ⟨_,h,rfl⟩
theorem cells_bytR {w:World} {l:List UInt8} {v:Value} (h:IsB w l v):zuc w (bytR l v):=fun g hg=>by
 obtain ⟨A,c,rfl,h1,h2,h3,h4⟩:=h
 obtain ⟨o,s,n,c',e,hn⟩:=hg
 injection e with e1 e2 e3
 subst e1 e2
 obtain ⟨b,o',e4,hb,hc⟩:=h4.at hn
 injection e4 with e4
 injection e4 with e5 e6 e7
 subst e5
 obtain ⟨x,hx⟩:∃ x,l[0]? = some x:=⟨_,List.getElem?_eq_getElem hn⟩
 exact cell_cells (hc 0 x hx)
section
variable {P:Program} {ops:Array Oper} {Q:Exit→Act→World→Prop} {a:Act} {w w':World} {rest:List Oper} {o:Oper} {n m:Nat} {V:List (Nat×Value)} {r:Option Nat}
theorem wi_run (hnd:∀ c,o.op≠.defer c) (hw:Region.wanted o (yielded ops a.tmps)=true) {d:Nat} (hd:o.dst=some d) (F:Fx n a V ds) (hn:Nat.blt d n=true) (v:Value) (hr:(execOp a.eval o).run P w=.ok (.value v) w')
  (h:∀ a',Fx n a' ((d,v)::V) ds→wpListIn (wideR r) m P ops Q rest a' w'):wpListIn (wideR r) m P ops Q (o::rest) a w:=by
 unfold wpListIn
 rw [if_pos hw]
 refine op_in hnd ?_
 unfold Oper.wp
 rw [hr]
 have:=F.put d v hn
 rw [←hd] at this
 exact h _ this
theorem wi_skip (hw:Region.wanted o (yielded ops a.tmps)=false) {d:Nat} (hd:o.dst=some d) (F:Fx n a V ds) (hn:Nat.blt d n=true)
  (h:∀ a',Fx n a' ((d,undef)::V) ds→wpListIn (wideR r) m P ops Q rest a' w):wpListIn (wideR r) m P ops Q (o::rest) a w:=by
 unfold wpListIn
 rw [if_neg (by rw [hw];exact Bool.false_ne_true)]
 have:=F.put d undef hn
 rw [←hd] at this
 exact ⟨fun _ _=>trivial,h _ this⟩
theorem calls_fxM {f:FuncId} {fn:Func} {c:Code} {args:List Value} {w:World} {R:Ending→World→Prop} (n:Nat) (hf:P.funcs[f]? = some fn) (hb:fn.body=some c) (hn:fn.ntmps=n) (hl:Nat.ble args.length n=true)
  (h:∀ a,Fx n a (file 0 args)→c.wp P (bodyPostM Fence.wide 3 P fn R) a w):Calls P f args.toArray w R:=by
 have hl':args.length≤n:=Nat.le_of_ble_eq_true hl
 refine (callsIn_wide (n:=3)).1 (callsIn_of_wp_marks hf hb trivial (wpIn_wide.2 (h _ ?_)) rfl)
 refine Fx.zero _ (by simp [hn];omega) fun t v e=>?_
 have:=(look_file args 0 t v e).2
 simpa using this
theorem zsc {fn:Func} {R:Ending→World→Prop} {a:Act} {v:Value} {D:Nat} (hd:a.defers=[{ target:=.collected D,args:=#[] }]) (hD:w.heap[D]? = some (.deferred (some [])))
  (hr:(results fn a.tmps).run P (w.putObj D (.deferred none))=.ok v (w.putObj D (.deferred none))) (hR:R (.returned v) (w.putObj D (.deferred none))):bodyPostM Fence.wide 3 P fn R .ret a w:=by
 show LeavesInM _ _ _ _ _ _ a.defers _ _
 rw [hd]
 exact ⟨by simp,.inl ⟨_,_,rfl,run_takeDeferred hD,⟨v,hr,hR⟩⟩⟩
theorem bodyM_end1 {fn:Func} {R:Ending→World→Prop} {a:Act} {v:Value} {D:Nat} (hd:a.defers=[{ target:=.collected D,args:=#[] }]) (hD:w.heap[D]? = some (.deferred (some [])))
  (hr:(results fn a.tmps).run P (w.putObj D (.deferred none))=.ok v (w.putObj D (.deferred none))) (hR:R (.returned v) (w.putObj D (.deferred none))):bodyPostM Fence.wide 3 P fn R .normal a w:=zsc hd hD hr hR
end
theorem one_slc {v:Value} {A:Option Addr} {n c:Nat} (h:v=.slice A n c):(#[v]).all (·.oneCell')=true:=by subst h;simp [Value.oneCell']
theorem one_str (s:ByteArray):(#[Value.string s]).all (·.oneCell')=true:=by simp [Value.oneCell']
theorem zdc (k:IntKind) (z:Int):(#[Value.int k z]).all (·.oneCell')=true:=by simp [Value.oneCell']
def objR (D:Nat) (o:Obj):Res:=⟨false,fun g=>g=D,fun w=>w.heap[D]? = some o⟩
theorem Mx.obj {G:Option Nat} {w0 w:World} {R:List (Nat×Res)} (M:Mx G w0 w R) (h:CellsA w R) (i D:Nat) (o:Obj) (hD:w.heap[D]? = some o) (ho:o.isCells=false):Mx G w0 w ((i,objR D o)::R):=
 M.cons i _ hD (fun u u' hs h=>hs D o rfl h) (fun g hg=>by cases hg;exact (Array.getElem?_eq_some_iff.1 hD).1) (fun e=>by cases e) fun k s e _ _ g hg hs=>by
  cases hg
  obtain ⟨o',h1,h2⟩:=h.at e D hs
  rw [hD] at h1;cases h1;rw [ho] at h2;cases h2
theorem Mx.anObj {G:Option Nat} {w0 w:World} {R:List (Nat×Res)} (M:Mx G w0 w R) {i D:Nat} {o:Obj} (h:look R i=some (objR D o)):w.heap[D]? = some o:=M.at_ i _ h
theorem RecAt.below {l D:Nat} {o1 o2:Obj} {W W':World} (h:RecAt l D o1 o2 W) (hb:Below W.heap.size W W'):RecAt l D o1 o2 W':=
 ⟨(hb.block l (Array.getElem?_eq_some_iff.1 h.1).1).trans h.1,(hb.block D (Array.getElem?_eq_some_iff.1 h.2.1).1).trans h.2.1,h.2.2⟩
end
def NameOk (s:ByteArray):Prop:=0<s.size∧s.size≤16∧∀ i (h:i<s.size),33≤((s[i]'h).toNat:Int)∧((s[i]'h).toNat:Int)≤126
theorem isname_ok (s:ByteArray) (hs:NameOk s) (w:World):
  Calls Tryz.prog 101 #[.string s] w fun e w'=>e=.returned (.bool true)∧Below w.heap.size w w':=by
 obtain ⟨h1,h2,h3⟩:=hs
 have H3:=hid h3
 clear h3
 have d1:((s.size:Int)==0)=false:=beq_eq_false_iff_ne.2 (by omega)
 have d2:¬(16:Int)<(s.size:Int):=by omega
 go_enter Tryz.func101,Tryz.ntmps101
 go_wp2
 go_loopw [14] (fun i wr=>∃ k:Nat,k≤s.size∧i=zI (k:Int)∧∃ d,wr=w.drewN d) (fun i _=>20-(intOf i).toNat)
 case atStart=>exact ⟨0,by omega,rfl,0,rfl⟩
 case round=>
  obtain ⟨k,hk,rfl,d,rfl⟩:=hrel
  by_cases hlt:k<s.size
  ·obtain ⟨q1,q2⟩:=H3.out k hlt
   have q3:(s[k]'hlt).toNat<256:=(s[k]'hlt).toNat_lt
   go_wp2
   go_roundw
   case rel=>exact ⟨k+1,by omega,by go_num,_,rfl⟩
   case measure=>simp [intOf];omega
  ·obtain rfl:k=s.size:=by omega
   go_wp2
   go_ret
   exact ⟨rfl,below_drewN (Below.refl _ _) _⟩
def NmB (s:ByteArray) (k:Nat):Prop:=∃ h:k<s.size,33≤((s[k]'h).toNat:Int)∧((s[k]'h).toNat:Int)≤126
theorem isname_no (s:ByteArray) (hs:s.size≤1000) (hn:¬NameOk s) (w:World):
  Calls Tryz.prog 101 #[.string s] w fun e w'=>e=.returned (.bool false)∧Below w.heap.size w w':=by
 by_cases h0:s.size=0
 ·have d1:((s.size:Int)==0)=true:=beq_iff_eq.2 (by omega)
  have hn:=hid hn
  go_enter Tryz.func101,Tryz.ntmps101
  go_wp2
  go_ret
  exact ⟨rfl,Below.refl _ _⟩
 have d1:((s.size:Int)==0)=false:=beq_eq_false_iff_ne.2 (by omega)
 by_cases h16:16<s.size
 ·have d2:(16:Int)<(s.size:Int):=by omega
  have hn:=hid hn
  have h0:=hid h0
  go_enter Tryz.func101,Tryz.ntmps101
  go_wp2
  go_ret
  exact ⟨rfl,Below.refl _ _⟩
 have d2:¬(16:Int)<(s.size:Int):=by omega
 have H3:Hid (∃ k,k<s.size∧¬NmB s k):=hid (by
  refine Classical.byContradiction fun h=>hn ⟨by omega,by omega,fun i hi=>?_⟩
  have:NmB s i:=Classical.byContradiction fun h2=>h ⟨i,hi,h2⟩
  exact this.2)
 have h0:=hid h0
 clear hn
 go_enter Tryz.func101,Tryz.ntmps101
 go_wp2
 go_loopw [14] (fun i wr=>∃ k:Nat,k≤s.size∧i=zI (k:Int)∧Hid (∀ j,j<k→NmB s j)∧∃ d,wr=w.drewN d) (fun i _=>20-(intOf i).toNat)
 case atStart=>exact ⟨0,by omega,rfl,hid (fun j hj=>by omega),0,rfl⟩
 case round=>
  obtain ⟨k,hk,rfl,HJ,d,rfl⟩:=hrel
  by_cases hlt:k<s.size
  ·have q3:(s[k]'hlt).toNat<256:=(s[k]'hlt).toNat_lt
   by_cases hok:NmB s k
   ·obtain ⟨_,q1,q2⟩:=id hok
    have HK:=hid hok
    clear hok
    go_wp2
    go_roundw
    case rel=>exact ⟨k+1,by omega,by go_num,hid (fun j hj=>by rcases Nat.lt_succ_iff_lt_or_eq.1 hj with h | rfl;exact HJ.out j h;exact HK.out),_,rfl⟩
    case measure=>simp [intOf];omega
   ·have hc:((s[k]'hlt).toNat:Int)<33∨(33≤((s[k]'hlt).toNat:Int)∧126<((s[k]'hlt).toNat:Int)):=by
     have:¬(33≤((s[k]'hlt).toNat:Int)∧((s[k]'hlt).toNat:Int)≤126):=fun h=>hok ⟨hlt,h⟩
     omega
    clear hok
    rcases hc with q1 | ⟨q1,q2⟩
    all_goals
     go_wp2
     go_ret
     exact ⟨rfl,below_drewN (Below.refl _ _) _⟩
  ·exfalso
   obtain ⟨i,hi,h⟩:=H3.out
   exact h (HJ.out i (by omega))
theorem rname_ok (s:ByteArray) (hs:NameOk s) (w:World):
  Calls Tryz.prog 78 #[.string s] w fun e w'=>e=.returned (.bool true)∧Below w.heap.size w w':=by
 obtain ⟨h1,h2,h3⟩:=hs
 have H3:=hid h3
 clear h3
 go_enter Tryz.func78,Tryz.ntmps78
 go_wp2
 go_loopw [3] (fun i wr=>∃ k:Nat,k≤s.size∧i=zI (k:Int)∧∃ d,wr=w.drewN d) (fun i _=>20-(intOf i).toNat)
 case atStart=>exact ⟨0,by omega,rfl,0,rfl⟩
 case round=>
  obtain ⟨k,hk,rfl,d,rfl⟩:=hrel
  by_cases hlt:k<s.size
  ·obtain ⟨q1,q2⟩:=H3.out k hlt
   have q3:(s[k]'hlt).toNat<256:=(s[k]'hlt).toNat_lt
   go_wp2
   go_roundw
   case rel=>exact ⟨k+1,by omega,by go_num,_,rfl⟩
   case measure=>simp [intOf];omega
  ·obtain rfl:k=s.size:=by omega
   have d0:(0:Int)<(s.size:Int):=by omega
   have d2:(s.size:Int)≤(16:Int):=by omega
   go_wp2
   go_ret
   exact ⟨rfl,below_drewN (Below.refl _ _) _⟩
theorem rname_no (s:ByteArray) (hs:s.size≤1000) (hn:¬NameOk s) (w:World):
  Calls Tryz.prog 78 #[.string s] w fun e w'=>e=.returned (.bool false)∧Below w.heap.size w w':=by
 have hn:=hid hn
 go_enter Tryz.func78,Tryz.ntmps78
 go_wp2
 go_loopw [3] (fun i wr=>∃ k:Nat,k≤s.size∧i=zI (k:Int)∧Hid (∀ j,j<k→NmB s j)∧∃ d,wr=w.drewN d) (fun i _=>1001-(intOf i).toNat)
 case atStart=>exact ⟨0,by omega,rfl,hid (fun j hj=>by omega),0,rfl⟩
 case round=>
  obtain ⟨k,hk,rfl,HJ,d,rfl⟩:=hrel
  by_cases hlt:k<s.size
  ·have q3:(s[k]'hlt).toNat<256:=(s[k]'hlt).toNat_lt
   by_cases hok:NmB s k
   ·obtain ⟨_,q1,q2⟩:=id hok
    have HK:=hid hok
    clear hok
    go_wp2
    go_roundw
    case rel=>exact ⟨k+1,by omega,by go_num,hid (fun j hj=>by rcases Nat.lt_succ_iff_lt_or_eq.1 hj with h | rfl;exact HJ.out j h;exact HK.out),_,rfl⟩
    case measure=>simp [intOf];omega
   ·have hc:((s[k]'hlt).toNat:Int)<33∨(33≤((s[k]'hlt).toNat:Int)∧126<((s[k]'hlt).toNat:Int)):=by
     have:¬(33≤((s[k]'hlt).toNat:Int)∧((s[k]'hlt).toNat:Int)≤126):=fun h=>hok ⟨hlt,h⟩
     omega
    clear hok
    rcases hc with q1 | ⟨q1,q2⟩
    all_goals
     go_wp2
     go_ret
     exact ⟨rfl,below_drewN (Below.refl _ _) _⟩
  ·obtain rfl:k=s.size:=by omega
   have hc:s.size=0∨(0<s.size∧16<s.size):=by
    rcases Nat.eq_zero_or_pos s.size with h | h
    ·exact .inl h
    ·refine .inr ⟨h,Nat.lt_of_not_le fun h2=>hn.out ⟨h,h2,fun i hi=>(HJ.out i hi).2⟩⟩
   rcases hc with h0 | ⟨h0,h1⟩
   ·have d0:¬(0:Int)<(s.size:Int):=by omega
    go_wp2
    go_ret
    exact ⟨rfl,below_drewN (Below.refl _ _) _⟩
   ·have d0:(0:Int)<(s.size:Int):=by omega
    have d2:¬(s.size:Int)≤(16:Int):=by omega
    go_wp2
    go_ret
    exact ⟨rfl,below_drewN (Below.refl _ _) _⟩
noncomputable def nameB (s:ByteArray):Bool:=@decide (NameOk s) (Classical.propDecidable _)
theorem isname_any (s:ByteArray) (hs:s.size≤1000) (w:World):Calls Tryz.prog 101 #[.string s] w fun e w'=>e=.returned (.bool (nameB s))∧Below w.heap.size w w':=by
 unfold nameB
 by_cases h:NameOk s
 ·rw [@decide_eq_true _ (Classical.propDecidable _) h];exact isname_ok s h w
 ·rw [@decide_eq_false _ (Classical.propDecidable _) h];exact isname_no s hs h w
section
open Go.Shelf
def updB (S:Nat→Bool) (k:Nat) (j:Nat):Bool:=match Nat.beq j k with
 | true=>true
 | false=>S j
def updV (p:Nat→Value) (k:Nat) (v:Value) (j:Nat):Value:=match Nat.beq j k with
 | true=>v
 | false=>p j
theorem updB_at (S:Nat→Bool) (k j:Nat):updB S k j=if j=k then true else S j:=by
 unfold updB
 by_cases h:j=k
 ·subst h;rw [if_pos rfl,Nat.beq_refl]
 ·rw [if_neg h,show Nat.beq j k=false by cases hb:Nat.beq j k with
   | false=>rfl
   | true=>exact absurd (Nat.eq_of_beq_eq_true hb) h]
theorem updV_at (p:Nat→Value) (k:Nat) (v:Value) (j:Nat):updV p k v j=if j=k then v else p j:=by
 unfold updV
 by_cases h:j=k
 ·subst h;rw [if_pos rfl,Nat.beq_refl]
 ·rw [if_neg h,show Nat.beq j k=false by cases hb:Nat.beq j k with
   | false=>rfl
   | true=>exact absurd (Nat.eq_of_beq_eq_true hb) h]
def SlotM (L:List Oper) (E:Nat→Value→Prop) (a0 a:Act) (S:Nat→Bool) (p:Nat→Value) (t:Tmp):Prop:=match depOf L t with
 | none=>a.eval (.tmp t)=a0.eval (.tmp t)
 | some j=>S j=true∧a.eval (.tmp t)=p j∧E j (p j)
def needs (L:List Oper) (m j k:Nat):Bool:=match (L.take m)[j]? with
 | some o=>o.after.any fun e=>Region.binds .any e&&e.on==k
 | none=>false
def HopM (P:Program) (L:List Oper) (m:Nat) (Q:Exit→Act→World→Prop) (E:Nat→Value→Prop) (J:(Nat→Bool)→(Nat→Value)→World→Prop) (a0:Act) (k:Nat) (o:Oper):Prop:=
 ∀ (a:Act) (w:World) (S:Nat→Bool) (p:Nat→Value),J S p w→S k=false→(∀ j,needs L m j k=true→S j=false)→(∀ t∈o.looksAt L.toArray,SlotM (L.take m) E a0 a S p t) →
  if Region.wanted o (yielded L.toArray a.tmps)=true then o.wp P a w (fun a' w'=>∃ v,a'=a.put o.dst v∧E k v∧J (updB S k) (updV p k v) w') Q else E k undef∧J (updB S k) (updV p k undef) w
def HopAllM (P:Program) (L:List Oper) (m:Nat) (Q:Exit→Act→World→Prop) (E:Nat→Value→Prop) (J:(Nat→Bool)→(Nat→Value)→World→Prop) (a0:Act):List Oper→Nat→Prop
 | [],_=>True
 | o::l,k=>HopM P L m Q E J a0 k o∧HopAllM P L m Q E J a0 l (k+1)
theorem hop_atM {P:Program} {L:List Oper} {m:Nat} {Q:Exit→Act→World→Prop} {E:Nat→Value→Prop} {J:(Nat→Bool)→(Nat→Value)→World→Prop} {a0:Act}:∀ (l:List Oper) (k:Nat),HopAllM P L m Q E J a0 l k→∀ (i:Nat) (o:Oper),l[i]? = some o→HopM P L m Q E J a0 (k+i) o
 | [],_,_,i,o,ho=>by cases ho
 | q::l,k,h,0,o,ho=>by
  simp only [List.getElem?_cons_zero,Option.some.injEq] at ho
  subst ho;exact h.1
 | q::l,k,h,i+1,o,ho=>by
  have:=hop_atM l (k+1) h.2 i o (by simpa using ho)
  rwa [show k+1+i=k+(i+1) by omega] at this
theorem wp_region_relMC {P:Program} {Q:Exit→Act→World→Prop} {a0:Act} {W:World} {L:List Oper} {C:Prop} (hC:RegInv P L Q a0 W C) (m n:Nat) (hn:a0.tmps.size=n) (hok:relOkC L m n=true) (hml:Nat.ble m L.length=true) (E:Nat→Value→Prop) (hds:∀ (j:Nat) (o:Oper),(L.take m)[j]? = some o→o.dst=none→∀ v,E j v↔v=undef) (J:(Nat→Bool)→(Nat→Value)→World→Prop)
  (h0:∀ p,J (fun j=>Nat.ble m j) p W.drew) (hop:HopAllM P L m Q E J a0 (L.take m) 0)
  (hend:∀ (p:Nat→Value) (w:World),J (fun _=>true) p w→(∀ (j:Nat) (o:Oper),(L.take m)[j]? = some o→E j (p j))→wpList P L.toArray Q (L.drop m) (z8b p (L.take m) 0 a0) w):C:=by
 have hW:=zsa W
 unfold relOkC at hok
 simp only [Bool.and_eq_true,List.all_eq_true,Option.isNone_iff_eq_none,Bool.or_eq_true,decide_eq_true_eq] at hok
 obtain ⟨⟨⟨⟨hsel,hE⟩,hall⟩,hT1⟩,hT2⟩:=hok
 have htake:∀ (i:Nat) (o:Oper),(L.take m)[i]? = some o→i<m∧L[i]? = some o:=fun i o h=>by
  rw [List.getElem?_take] at h
  split at h
  ·exact ⟨by assumption,h⟩
  ·cases h
 have hintake:∀ (i:Nat) (o:Oper),i<m→L[i]? = some o→(L.take m)[i]? = some o:=fun i o h1 h2=>by
  rw [List.getElem?_take,if_pos h1];exact h2
 have hdst:∀ (i:Nat) (o:Oper) (d:Tmp),(L.take m)[i]? = some o→o.dst=some d→d<n∧depOf (L.take m) d=some i:=fun i o d ho hd=>by
  have h1:=hall i (List.mem_range.2 (htake i o ho).1)
  simp only [ho,hd,Bool.and_eq_true,decide_eq_true_eq,beq_iff_eq] at h1
  exact h1.1
 have hread:∀ (i:Nat) (o:Oper) (t:Tmp) (j:Nat),(L.take m)[i]? = some o→t∈o.looksAt L.toArray→depOf (L.take m) t=some j→∃ e∈o.after,Region.binds .any e=true∧e.on=j:=fun i o t j ho ht hj=>by
  have h1:=hall i (List.mem_range.2 (htake i o ho).1)
  simp only [ho,Bool.and_eq_true,List.all_eq_true] at h1
  have h2:=h1.2 t ht
  simp only [hj,Array.any_eq_true,Bool.and_eq_true,beq_iff_eq] at h2
  obtain ⟨x,hx,hb,he⟩:=h2
  exact ⟨_,Array.getElem_mem hx,hb,he⟩
 have hdis:∀ (i j:Nat) (oi oj:Oper) (d:Tmp),(L.take m)[i]? = some oi→(L.take m)[j]? = some oj→j≠i→oi.dst=some d→oj.dst≠some d:=fun i j oi oj d hi hj hne hd e=>by
  have h1:=(hdst i oi d hi hd).2
  have h2:=(hdst j oj d hj e).2
  rw [h1] at h2
  exact hne (Option.some.inj h2).symm
 -- a tail operation that is ready: all ahead of it is listed
 have htail:∀ (listed:Array Bool) (i:Nat),listed.size=L.toArray.size→(∀ (j:Nat) (oj:Oper),L[j]? = some oj→listed.getD j true=true→∀ e∈oj.after,Region.binds .any e=true→listed.getD e.on true=true)→i∈Region.ready .any L.toArray listed→m≤i→∀ j,j<i→listed.getD j true=true:=by
  intro listed i hs hcl hi hmi j hj
  obtain ⟨hiu,o,ho,hwait⟩:=mem_ready.1 hi
  have ho':L[i]? = some o:=by simpa using ho
  have hil:=(List.getElem?_eq_some_iff.1 ho').1
  rcases hT2 i (List.mem_range.2 hil) with h3 | h3
  ·omega
  have h4:=h3 j (List.mem_range.2 hj)
  unfold aftB at h4
  simp only [ho',Array.any_eq_true,Bool.and_eq_true,Bool.or_eq_true,beq_iff_eq] at h4
  obtain ⟨x,hx,hb,h4⟩:=h4
  have h5:listed.getD (o.after[x]).on true=true:=by
   have h1:=hwait _ (Array.getElem_mem hx) hb
   by_cases hlt:(o.after[x]).on<listed.size
   ·simpa [hlt] using h1
   ·rw [Array.getD_eq_getD_getElem?,Array.getElem?_eq_none (by omega)];rfl
  rcases h4 with h4 | h4
  ·rw [h4] at h5;exact h5
  ·cases hq:L[(o.after[x]).on]? with
   | none=>unfold aftB at h4;rw [hq] at h4;cases h4
   | some oq=>exact aft_listed hcl 39 _ oq j hq h5 h4
 have hI:∀ (listed:Array Bool) (a:Act) (w:World),(J (fun j=>Nat.ble m j||listed.getD j true) (fun j=>a.eval (match ((L.take m)[j]?).bind (·.dst) with | some d=>.tmp d | none=>.const undef)) w∧a.tmps.size=n∧a.defers=a0.defers ∧
   (∀ t:Tmp,(∀ (j:Nat) (oj:Oper),(L.take m)[j]? = some oj→listed.getD j true=true→oj.dst≠some t)→a.eval (.tmp t)=a0.eval (.tmp t)) ∧
   (∀ (j:Nat) (oj:Oper) (d:Tmp),(L.take m)[j]? = some oj→listed.getD j true=true→oj.dst=some d→E j (a.eval (.tmp d))))→listed.size=L.length→(∀ j,j<m→j<L.length→listed.getD j true=true)→wpList P L.toArray Q (L.drop m) a w:=by
  rintro listed a w ⟨hB,hz,hd,hbase,hYs⟩ hls hl
  have hlisted:∀ (j:Nat) (oj:Oper),(L.take m)[j]? = some oj→listed.getD j true=true:=fun j oj hoj=>by
   obtain ⟨h1,h2⟩:=htake j oj hoj
   exact hl j h1 (List.getElem?_eq_some_iff.1 h2).1
  have hp:a=z8b (fun j=>a.eval (match ((L.take m)[j]?).bind (·.dst) with | some d=>.tmp d | none=>.const undef)) (L.take m) 0 a0:=by
   obtain ⟨z1,z2⟩:=lay_size (fun j=>a.eval (match ((L.take m)[j]?).bind (·.dst) with | some d=>.tmp d | none=>.const undef)) (L.take m) 0 a0
   refine act_ext (by rw [z1,hz,hn]) (by rw [z2,hd]) fun t ht=>?_
   cases hj:depOf (L.take m) t with
   | none=>rw [lay_base _ (L.take m) 0 a0 (zxc hj)];exact hbase t fun j oj hoj _=>zxc hj j oj hoj
   | some j=>
    obtain ⟨oj,hoj,hdj⟩:=depOf_some hj
    rw [lay_at _ (L.take m) 0 j a0 oj hoj hdj (by rw [hn,←hz];exact ht) fun i oi hi hne=>hdis j i oj oi t hoj hi hne hdj]
    rw [Nat.zero_add]
    simp only [hoj,hdj,Option.bind_some]
  rw [hp]
  have hS:(fun j=>Nat.ble m j||listed.getD j true)=fun _=>true:=funext fun j=>by
   by_cases hj:m≤j
   ·rw [Nat.ble_eq_true_of_le hj];rfl
   ·by_cases hjl:j<L.length
    ·rw [hl j (by omega) hjl];simp
    ·have hnone:listed[j]? = none∨True:=.inr trivial
     have:(L.take m)[j]? = none:=by rw [List.getElem?_eq_none_iff];simp;omega
     have hsz:=hls
     rw [Array.getD_eq_getD_getElem?,Array.getElem?_eq_none (by omega)];simp
  rw [hS] at hB
  refine hend _ w hB fun i o ho=>?_
  cases hdo:o.dst with
  | some d=>
   simp only [ho,hdo,Option.bind_some]
   exact hYs i o d ho (hlisted i o ho) hdo
  | none=>
   simp only [ho,hdo,Option.bind_some]
   exact (hds i o ho hdo _).2 rfl
 refine hC (fun listed a w=>(∀ (j:Nat) (oj:Oper),L[j]? = some oj→listed.getD j true=true→∀ e∈oj.after,Region.binds .any e=true→listed.getD e.on true=true)∧(((∀ j,m≤j→j<L.length→listed.getD j true=false)∧J (fun j=>Nat.ble m j||listed.getD j true) (fun j=>a.eval (match ((L.take m)[j]?).bind (·.dst) with | some d=>.tmp d | none=>.const undef)) w∧a.tmps.size=n∧a.defers=a0.defers ∧
  (∀ t:Tmp,(∀ (j:Nat) (oj:Oper),(L.take m)[j]? = some oj→listed.getD j true=true→oj.dst≠some t)→a.eval (.tmp t)=a0.eval (.tmp t)) ∧
  (∀ (j:Nat) (oj:Oper) (d:Tmp),(L.take m)[j]? = some oj→listed.getD j true=true→oj.dst=some d→E j (a.eval (.tmp d)))) ∨
  (∃ k,m≤k∧(∀ j,j<L.length→(listed.getD j true=true↔j<k))∧wpList P L.toArray Q (L.drop k) a w))) ?_ ?_ ?_
 ·refine ⟨fun j oj hj hl=>?_,.inl ⟨fun j _ hj=>by simp [hj],?_,hn,rfl,fun _ _=>rfl,fun j oj d hj hl _=>?_⟩⟩
  ·have hjl:=(List.getElem?_eq_some_iff.1 hj).1
   simp [hjl] at hl
  ·have hml':=Nat.le_of_ble_eq_true hml
   refine (congrArg (fun S=>J S _ W.drew) (funext fun j=>?_)).mp (h0 _)
   by_cases hj:m≤j
   ·rw [Nat.ble_eq_true_of_le hj];rfl
   ·have:j<L.length:=by omega
    simp [this]
  ·have hjl:=(List.getElem?_eq_some_iff.1 (htake j oj hj).2).1
   simp [hjl] at hl
 ·rintro listed a w i hs ⟨hcl,hinv⟩ hi
  obtain ⟨hiu,o,ho,hwait⟩:=mem_ready.1 hi
  have ho':L[i]? = some o:=by simpa using ho
  have hil:=(List.getElem?_eq_some_iff.1 ho').1
  have hsl:listed.size=L.length:=by simpa using hs
  have hcl2:(∀ (j:Nat) (oj:Oper),L[j]? = some oj→(listed.setIfInBounds i true).getD j true=true→∀ e∈oj.after,Region.binds .any e=true→(listed.setIfInBounds i true).getD e.on true=true):=fun j oj hoj hl e he hbd=>by
   by_cases ei:i=e.on
   ·rw [←ei,Array.getD_eq_getD_getElem?,Array.getElem?_setIfInBounds_self];simp [hsl,hil]
   ·rw [getD_set_ne true ei]
    by_cases ej:i=j
    ·subst ej
     obtain rfl:o=oj:=Option.some.inj (ho'.symm.trans hoj)
     have h1:=hwait e he hbd
     by_cases hlt:e.on<listed.size
     ·simpa [hlt] using h1
     ·rw [Array.getD_eq_getD_getElem?,Array.getElem?_eq_none (by omega)];rfl
    ·rw [getD_set_ne true ej] at hl
     exact hcl j oj hoj hl e he hbd
  by_cases him:i<m
  ·rcases hinv with ⟨htl,hB,hz,hd,hbase,hYs⟩ | ⟨k,hmk,hlk,_⟩
   ·have ht':=hintake i o him ho'
    have hh:=hop_atM (L.take m) 0 hop i o ht'
    rw [Nat.zero_add] at hh
    have hslots:∀ t∈o.looksAt L.toArray,SlotM (L.take m) E a0 a (fun j=>Nat.ble m j||listed.getD j true) (fun j=>a.eval (match ((L.take m)[j]?).bind (·.dst) with | some d=>.tmp d | none=>.const undef)) t:=fun t ht=>by
     unfold SlotM
     cases hj:depOf (L.take m) t with
     | none=>exact hbase t fun j oj hoj _=>zxc hj j oj hoj
     | some j=>
      obtain ⟨oj,hoj,hdj⟩:=depOf_some hj
      obtain ⟨e,he,hb,hon⟩:=hread i o t j ht' ht hj
      have h1:=hwait e he hb
      rw [hon] at h1
      have hjl:j<listed.size:=by rw [hsl];exact (List.getElem?_eq_some_iff.1 (htake j oj hoj).2).1
      have hl1:listed.getD j true=true:=by simpa [hjl] using h1
      have hjm:j<m:=(htake j oj hoj).1
      refine ⟨by simp only [hl1,Bool.or_true],?_,?_⟩
      ·simp only [hoj,hdj,Option.bind_some]
      ·simp only [hoj,hdj,Option.bind_some]
       exact hYs j oj t hoj hl1 hdj
    have hSi:(Nat.ble m i||listed.getD i true)=false:=by
     rw [show Nat.ble m i=false by cases hb:Nat.ble m i with
      | false=>rfl
      | true=>exact absurd (Nat.le_of_ble_eq_true hb) (by omega)]
     rw [Bool.false_or];simpa using hiu
    have hnd:∀ j,needs L m j i=true→(Nat.ble m j||listed.getD j true)=false:=fun j hj=>by
     unfold needs at hj
     cases hoj:(L.take m)[j]? with
     | none=>rw [hoj] at hj;cases hj
     | some oj=>
      rw [hoj] at hj
      simp only [Array.any_eq_true,Bool.and_eq_true,beq_iff_eq] at hj
      obtain ⟨x,hx,hb,he⟩:=hj
      have hjm:=(htake j oj hoj).1
      rw [show Nat.ble m j=false by cases hb2:Nat.ble m j with
       | false=>rfl
       | true=>exact absurd (Nat.le_of_ble_eq_true hb2) (by omega),Bool.false_or]
      cases hlj:listed.getD j true with
      | false=>rfl
      | true=>
       have:=hcl j oj (htake j oj hoj).2 hlj _ (Array.getElem_mem hx) hb
       rw [he] at this
       have h2:listed.getD i true=false:=by simpa using hiu
       rw [h2] at this;cases this
    have hh:=hh a w _ _ hB hSi hnd hslots
    have hset:∀ (v:Value) (w':World),E i v→J (updB (fun j=>Nat.ble m j||listed.getD j true) i) (updV (fun j=>a.eval (match ((L.take m)[j]?).bind (·.dst) with | some d=>.tmp d | none=>.const undef)) i v) w'→((∀ j,m≤j→j<L.length→(listed.setIfInBounds i true).getD j true=false)∧J (fun j=>Nat.ble m j||(listed.setIfInBounds i true).getD j true) (fun j=>(a.put o.dst v).eval (match ((L.take m)[j]?).bind (·.dst) with | some d=>.tmp d | none=>.const undef)) w'∧(a.put o.dst v).tmps.size=n∧(a.put o.dst v).defers=a0.defers ∧
      (∀ t:Tmp,(∀ (j:Nat) (oj:Oper),(L.take m)[j]? = some oj→(listed.setIfInBounds i true).getD j true=true→oj.dst≠some t)→(a.put o.dst v).eval (.tmp t)=a0.eval (.tmp t)) ∧
      (∀ (j:Nat) (oj:Oper) (d:Tmp),(L.take m)[j]? = some oj→(listed.setIfInBounds i true).getD j true=true→oj.dst=some d→E j ((a.put o.dst v).eval (.tmp d)))):=fun v w' hy hb=>by
     refine ⟨fun j h1 h2=>by rw [getD_set_ne true (show i≠j by omega)];exact htl j h1 h2,?_,by rw [put_size];exact hz,by rw [put_defers];exact hd,fun t ht=>?_,fun j oj d hoj hl hdj=>?_⟩
     ·have e1:(fun j=>Nat.ble m j||(listed.setIfInBounds i true).getD j true)=updB (fun j=>Nat.ble m j||listed.getD j true) i:=funext fun j=>by
       rw [updB_at]
       by_cases e:i=j
       ·subst e;rw [if_pos rfl,Array.getD_eq_getD_getElem?,Array.getElem?_setIfInBounds_self];simp [hsl,hil]
       ·rw [if_neg (fun e2=>e e2.symm),getD_set_ne true e]
      have e2:(fun j=>(a.put o.dst v).eval (match ((L.take m)[j]?).bind (·.dst) with | some d=>.tmp d | none=>.const undef))=updV (fun j=>a.eval (match ((L.take m)[j]?).bind (·.dst) with | some d=>.tmp d | none=>.const undef)) i v:=funext fun j=>by
       rw [updV_at]
       by_cases e:i=j
       ·subst e;rw [if_pos rfl]
        cases hdd:o.dst with
        | some dd=>
         simp only [ht',hdd,Option.bind_some]
         exact z7c (by rw [hz];exact (hdst i o dd ht' hdd).1)
        | none=>
         simp only [ht',hdd,Option.bind_some]
         exact ((hds i o ht' hdd v).1 hy).symm
       ·rw [if_neg (fun e2=>e e2.symm)]
        cases hoj:(L.take m)[j]? with
        | none=>rfl
        | some oj=>
         cases hdj:oj.dst with
         | none=>simp only [Option.bind_some,hdj];rfl
         | some dj=>
          simp only [Option.bind_some,hdj]
          exact zoc (hdis j i oj o dj hoj ht' e hdj)
      rw [e1,e2];exact hb
     ·rw [zoc (ht i o ht' (by rw [Array.getD_eq_getD_getElem?,Array.getElem?_setIfInBounds_self];simp [hsl,hil]))]
      refine hbase t fun j oj hoj hl=>ht j oj hoj ?_
      by_cases e:i=j
      ·subst e;rw [hl] at hiu;cases hiu
      ·rw [getD_set_ne true e];exact hl
     ·by_cases e:i=j
      ·subst e
       obtain rfl:o=oj:=Option.some.inj (ht'.symm.trans hoj)
       rw [hdj,z7c (by rw [hz];exact (hdst i o d ht' hdj).1)]
       exact hy
      ·rw [zoc (hdis j i oj o d hoj ht' e hdj)]
       rw [getD_set_ne true e] at hl
       exact hYs j oj d hoj hl hdj
    unfold wpOp
    simp only [ho]
    by_cases hw:Region.wanted o (yielded L.toArray a.tmps)=true
    ·rw [if_pos hw] at hh ⊢
     exact .inl (Oper.wp_mono (fun a' w' ⟨v,e,hy,hb⟩=>by rw [e];exact ⟨hcl2,.inl (hset v w' hy hb)⟩) hh)
    ·rw [if_neg hw] at hh ⊢
     exact ⟨hcl2,.inl (hset undef w hh.1 hh.2)⟩
   ·have:=(hlk i hil).2 (by omega)
    rw [this] at hiu;cases hiu
  ·have hmi:m≤i:=Nat.le_of_not_lt him
   have hahead:=htail listed i hs hcl hi hmi
   have hk:(∀ j,j<L.length→(listed.getD j true=true↔j<i))∧wpList P L.toArray Q (L.drop i) a w:=by
    rcases hinv with ⟨htl,hrest⟩ | ⟨k,hmk,hlk,hwp⟩
    ·obtain rfl:i=m:=by
      refine Nat.le_antisymm (Nat.le_of_not_lt fun hlt=>?_) hmi
      have h1:=hahead m hlt
      rw [htl m (Nat.le_refl _) (by omega)] at h1;cases h1
     refine ⟨fun j hj=>⟨fun h=>Nat.lt_of_not_le fun h2=>?_,hahead j⟩,hI listed a w hrest hsl fun j h1 _=>hahead j h1⟩
     rw [htl j h2 hj] at h;cases h
    ·obtain rfl:k=i:=by
      refine Nat.le_antisymm (Nat.le_of_not_lt fun hlt=>?_) (Nat.le_of_not_lt fun hlt=>?_)
      ·have:=(hlk i hil).2 hlt
       rw [this] at hiu;cases hiu
      ·have:=(hlk k (by omega)).1 (hahead k hlt)
       omega
     exact ⟨hlk,hwp⟩
   obtain ⟨hlk,hwp⟩:=hk
   have hdr:L.drop i=L[i]::L.drop (i+1):=List.drop_eq_getElem_cons hil
   have hoe:L[i]=o:=by rw [List.getElem?_eq_getElem hil] at ho';exact Option.some.inj ho'
   rw [hoe] at hdr
   have hg:=hT1 o (by
    have h6:L.drop i=(L.drop m).drop (i-m):=by rw [List.drop_drop];congr 1;omega
    have h7:o∈L.drop i:=by rw [hdr];exact List.mem_cons_self
    rw [h6] at h7
    exact List.mem_of_mem_drop h7)
   have hset:∀ j,j<L.length→((listed.setIfInBounds i true).getD j true=true↔j<i+1):=by
    intro j hj
    by_cases hji:j=i
    ·subst hji;simp [hsl,hj]
    ·rw [getD_set_ne true (fun e=>hji e.symm),hlk j hj];omega
   rw [hdr] at hwp
   unfold wpList at hwp
   unfold wpOp
   simp only [ho]
   have hw':∀ g,Region.wanted o g=true:=fun g=>by simp [Region.wanted,hg]
   simp only [hw',if_true] at hwp ⊢
   exact hwp.imp (Oper.wp_mono fun a' w' h'=>⟨hcl2,.inr ⟨i+1,by omega,hset,h'⟩⟩) (fun h=>h)
 ·rintro listed a w hs ⟨hcl,hinv⟩ hr
  have hsl:listed.size=L.length:=by simpa using hs
  have hlisted:∀ j,j<L.length→listed.getD j true=true:=fun j hj=>by
   cases h:listed.getD j true with
   | true=>rfl
   | false=>exact absurd hr (ready_of_unlisted hE hs j (by simpa using hj) h)
  have hwp:∃ k,L.length≤k∧wpList P L.toArray Q (L.drop k) a w:=by
   rcases hinv with ⟨htl,hrest⟩ | ⟨k,hmk,hlk,hwp⟩
   ·refine ⟨m,Nat.le_of_not_lt fun hlt=>?_,hI listed a w hrest hsl fun j _ hj=>hlisted j hj⟩
    have h1:=htl m (Nat.le_refl _) hlt
    rw [hlisted m hlt] at h1;cases h1
   ·refine ⟨k,Nat.le_of_not_lt fun hlt=>?_,hwp⟩
    exact absurd ((hlk k hlt).1 (hlisted k hlt)) (Nat.lt_irrefl _)
  obtain ⟨k,h1,h2⟩:=hwp
  rw [List.drop_eq_nil_of_le h1] at h2
  exact h2
theorem wp_region_relM {P:Program} {id:Nat} {Q:Exit→Act→World→Prop} {a0:Act} {W:World} {L:List Oper} (m n:Nat) (hn:a0.tmps.size=n) (hm:P.follows .mixedOrders=true) (hok:relOkC L m n=true) (hml:Nat.ble m L.length=true) (E:Nat→Value→Prop) (hds:∀ (j:Nat) (o:Oper),(L.take m)[j]? = some o→o.dst=none→∀ v,E j v↔v=undef) (J:(Nat→Bool)→(Nat→Value)→World→Prop)
  (h0:∀ p,J (fun j=>Nat.ble m j) p W.drew) (hop:HopAllM P L m Q E J a0 (L.take m) 0)
  (hend:∀ (p:Nat→Value) (w:World),J (fun _=>true) p w→(∀ (j:Nat) (o:Oper),(L.take m)[j]? = some o→E j (p j))→wpList P L.toArray Q (L.drop m) (z8b p (L.take m) 0 a0) w):(Code.region id L.toArray true).wp P Q a0 W:=
 wp_region_relMC (.wp hm) m n hn hok hml E hds J h0 hop hend
end
section
open Go.Shelf
variable {ds:List Deferred}
def trivR:Res:=⟨false,fun _=>False,fun _=>True⟩
def z5a (b:Bool) (r:Res):Res:=match b with
 | true=>r
 | false=>trivR
theorem zya {R:List (Nat×Res)} {i:Nat} {b:Bool} {r:Res} (hb:b=true) (h:look R i=some (z5a b r)):look R i=some r:=by subst hb;exact h
def zha (b:Bool) (r s:Res):Res:=match b with
 | true=>r
 | false=>s
theorem z6c {R:List (Nat×Res)} {i:Nat} {c:Bool} {r s:Res} (hc:c=true) (h:look R i=some (zha c r s)):look R i=some r:=by subst hc;exact h
theorem zzb {R:List (Nat×Res)} {i:Nat} {c:Bool} {r s:Res} (hc:c=false) (h:look R i=some s):look R i=some (zha c r s):=by subst hc;exact h
theorem zea {R:List (Nat×Res)} {i:Nat} {c:Bool} {r s:Res} (hc:c=false) (h:look R i=some (zha c r s)):look R i=some s:=by subst hc;exact h
def pfp (v:Value) (g:Nat):Prop:=v=(zO g)
def ptrR (t:TypeId) (c:Array Value) (v:Value):Res:=⟨true,pfp v,fun w=>∃ g,v=(zO g)∧w.heap[g]? = some (.cells c t (0,0))⟩
def sfp (v:Value) (g:Nat):Prop:=∃ n m,v=.slice (some ⟨g,0,none⟩) n m
def slcR (t:TypeId) (n:Nat) (c:Array Value) (v:Value):Res:=⟨true,sfp v,fun w=>∃ g,v=.slice (some ⟨g,0,none⟩) n n∧w.heap[g]? = some (.cells c t (0,0))⟩
section
variable {G:Option Nat} {w0 w w':World} {R:List (Nat×Res)} {i k:Nat}
theorem Mx.triv (M:Mx G w0 w R) (i:Nat):Mx G w0 w ((i,trivR)::R):=M.cons i trivR trivial (fun _ _ _ _=>trivial) (fun _ h=>h.elim) (fun e=>by cases e) (fun _ _ _ _ _ _ h=>h.elim)
theorem ptrR_dep {t:TypeId} {c:Array Value} {v:Value}:∀ u u',Same (ptrR t c v).fp u u'→(ptrR t c v).F u→(ptrR t c v).F u':=fun u u' hs ⟨g,e,h⟩=>⟨g,e,hs g _ e h⟩
theorem Mx.allocP (M:Mx G w0 w R) (i:Nat) (t:TypeId) (c:Array Value):Mx G w0 (w.alloc (.cells c t)) ((i,ptrR t c (zO w.heap.size))::R):=
 M.fresh (zqa w _) i _ ⟨_,rfl,heap_alloc_new _ _⟩ ptrR_dep (fun g hg=>by
  have e:w.heap.size=g:=by injection hg with hg;injection hg with hg;injection hg
  subst e;exact ⟨Nat.le_refl _,by simp⟩)
theorem Mx.ptr (M:Mx G w0 w R) {k g:Nat} {t:TypeId} {c:Array Value} (hk:look R k=some (ptrR t c (zO g))):Mx G w0 w ((k,blkR g t c)::R):=by
 obtain ⟨g',e,h⟩:=M.at_ k _ hk
 have e2:g'=g:=by injection e with e;injection e with e;injection e with e;exact e.symm
 subst e2
 exact M.cons k _ h z9c (fun b hb=>by cases hb;exact z2a h) (fun _ b hb=>M.own k _ hk rfl b (by cases hb;rfl)) fun j s e hj _ b hb=>M.dis k j _ s hk e hj rfl b (by cases hb;rfl)
theorem slcR_dep {t:TypeId} {n:Nat} {c:Array Value} {v:Value}:∀ u u',Same (slcR t n c v).fp u u'→(slcR t n c v).F u→(slcR t n c v).F u':=fun u u' hs ⟨g,e,h⟩=>⟨g,e,hs g _ ⟨_,_,e⟩ h⟩
theorem Mx.allocS (M:Mx G w0 w R) (i:Nat) (t:TypeId) (n:Nat) (c:Array Value):Mx G w0 (w.alloc (.cells c t)) ((i,slcR t n c (.slice (some ⟨w.heap.size,0,none⟩) n n))::R):=
 M.fresh (zqa w _) i _ ⟨_,rfl,heap_alloc_new _ _⟩ slcR_dep (fun g ⟨a,b,hg⟩=>by
  have e:w.heap.size=g:=by injection hg with hg;injection hg with hg;injection hg
  subst e;exact ⟨Nat.le_refl _,by simp⟩)
end
theorem relOkC_dst {L:List Oper} {m n:Nat} (hok:relOkC L m n=true):∀ (i:Nat) (o:Oper) (d:Nat),(L.take m)[i]? = some o→o.dst=some d→d<n:=by
 unfold relOkC at hok
 simp only [Bool.and_eq_true,List.all_eq_true] at hok
 obtain ⟨⟨⟨⟨-,-⟩,hall⟩,-⟩,-⟩:=hok
 intro i o d ho hd
 have hi:i<m:=by
  rw [List.getElem?_take] at ho
  split at ho
  ·assumption
  ·cases ho
 have h1:=hall i (List.mem_range.2 hi)
 simp only [ho,hd,Bool.and_eq_true,decide_eq_true_eq] at h1
 exact h1.1.1
def JM (G:Option Nat) (w0:World) (RL:(Nat→Bool)→(Nat→Value)→List (Nat×Res)) (S:Nat→Bool) (p:Nat→Value) (w:World):Prop:=Mx G w0 w (RL S p)
def stE (E:List (Value→Prop)) (k:Nat) (v:Value):Prop:=((E[k]?).getD fun _=>True) v
def EAll (E:List (Value→Prop)) (p:Nat→Value):List Oper→Nat→Prop
 | [],_=>True
 | _::l,k=>stE E k (p k)∧EAll E p l (k+1)
def EDs (E:List (Value→Prop)):List Oper→Nat→Prop
 | [],_=>True
 | o::l,k=>(match o.dst with
  | some _=>True
  | none=>∀ v,stE E k v↔v=undef)∧EDs E l (k+1)
theorem EDs.at {E:List (Value→Prop)}:∀ {l:List Oper} {k:Nat},EDs E l k→∀ (j:Nat) (o:Oper),l[j]? = some o→o.dst=none→∀ v,stE E (k+j) v↔v=undef
 | [],_,_,j,o,ho,_=>by cases ho
 | q::l,k,h,0,o,ho,hn=>by
  cases ho
  have:=h.1
  rw [hn] at this
  exact this
 | q::l,k,h,j+1,o,ho,hn=>by
  have:=EDs.at h.2 j o (by simpa using ho) hn
  rwa [show k+(j+1)=k+1+j by omega]
theorem eall_of {E:List (Value→Prop)} {p:Nat→Value}:∀ (l:List Oper) (k:Nat),(∀ (j:Nat) (o:Oper),l[j]? = some o→stE E (k+j) (p (k+j)))→EAll E p l k
 | [],_,_=>trivial
 | o::l,k,h=>⟨h 0 o rfl,eall_of l (k+1) fun j o' hj=>by
  have:=h (j+1) o' (by simpa using hj)
  rwa [show k+(j+1)=k+1+j by omega] at this⟩
section
variable {P:Program}
theorem zva {id:Nat} {Q:Exit→Act→World→Prop} {a0:Act} {W:World} {L:List Oper} {n:Nat} {V:List (Nat×Value)} (F:Fx n a0 V ds) (E:List (Value→Prop)) (J:(Nat→Bool)→(Nat→Value)→World→Prop) (m:Nat) (hm:P.follows .mixedOrders=true) (hok:relOkC L m n=true) (hml:Nat.ble m L.length=true) (hds:EDs E (L.take m) 0)
  (h0:∀ p,J (fun j=>Nat.ble m j) p W.drew) (hop:HopAllM P L m Q (stE E) J a0 (L.take m) 0)
  (hend:∀ (p:Nat→Value) (a:Act) (w:World),J (fun _=>true) p w→Fx n a (layV p (L.take m) 0 V) ds→EAll E p (L.take m) 0→wpList P L.toArray Q (L.drop m) a w):(Code.region id L.toArray true).wp P Q a0 W:=
 wp_region_relM m n F.size hm hok hml (stE E) (fun j o ho hn=>by have:=hds.at j o ho hn;rwa [Nat.zero_add] at this) J h0 hop fun p w hj hE=>hend p _ w hj (F.lay p (L.take m) 0 a0 V (relOkC_dst hok)) (eall_of _ 0 fun j o ho=>by rw [Nat.zero_add];exact hE j o ho)
variable {ops:Array Oper} {Q:Exit→Act→World→Prop} {a:Act} {w:World} {o:Oper} {E:List (Value→Prop)} {J:(Nat→Bool)→(Nat→Value)→World→Prop} {S:Nat→Bool} {p:Nat→Value} {k:Nat}
theorem ze (hw:Region.wanted o (yielded ops a.tmps)=true) (v:Value) {w':World} (hr:(execOp a.eval o).run P w=.ok (.value v) w') (hE:stE E k v) (hJ:J (updB S k) (updV p k v) w'):
  if Region.wanted o (yielded ops a.tmps)=true then o.wp P a w (fun a' w'=>∃ v,a'=a.put o.dst v∧stE E k v∧J (updB S k) (updV p k v) w') Q else stE E k undef∧J (updB S k) (updV p k undef) w:=by
 rw [if_pos hw]
 unfold Oper.wp
 rw [hr]
 exact ⟨v,rfl,hE,hJ⟩
theorem hopM_do (hw:Region.wanted o (yielded ops a.tmps)=true) (hd:o.dst=none) (hr:∃ w',(execOp a.eval o).run P w=.ok .skip w'∧J (updB S k) (updV p k undef) w') (hE:stE E k undef):
  if Region.wanted o (yielded ops a.tmps)=true then o.wp P a w (fun a' w'=>∃ v,a'=a.put o.dst v∧stE E k v∧J (updB S k) (updV p k v) w') Q else stE E k undef∧J (updB S k) (updV p k undef) w:=by
 obtain ⟨w',h1,h2⟩:=hr
 rw [if_pos hw]
 unfold Oper.wp
 rw [h1]
 exact ⟨undef,rfl,hE,h2⟩
theorem hopM_doM (hw:Region.wanted o (yielded ops a.tmps)=true) (hd:o.dst=none) {G:Option Nat} {w0:World} {R':List (Nat×Res)} (hr:∃ w',(execOp a.eval o).run P w=.ok .skip w'∧Mx G w0 w' R') (hJ:∀ w',Mx G w0 w' R'→J (updB S k) (updV p k undef) w') (hE:stE E k undef):
  if Region.wanted o (yielded ops a.tmps)=true then o.wp P a w (fun a' w'=>∃ v,a'=a.put o.dst v∧stE E k v∧J (updB S k) (updV p k v) w') Q else stE E k undef∧J (updB S k) (updV p k undef) w:=
 hopM_do hw hd (hr.imp fun w' h=>⟨h.1,hJ w' h.2⟩) hE
theorem hopM_ex (hw:Region.wanted o (yielded ops a.tmps)=true) (hr:∃ v w',(execOp a.eval o).run P w=.ok (.value v) w'∧stE E k v∧J (updB S k) (updV p k v) w'):
  if Region.wanted o (yielded ops a.tmps)=true then o.wp P a w (fun a' w'=>∃ v,a'=a.put o.dst v∧stE E k v∧J (updB S k) (updV p k v) w') Q else stE E k undef∧J (updB S k) (updV p k undef) w:=by
 obtain ⟨v,w',h1,h2,h3⟩:=hr
 exact ze hw v h1 h2 h3
theorem z4b (hw:Region.wanted o (yielded ops a.tmps)=true) {G:Option Nat} {w0:World} {Rf:Value→List (Nat×Res)} (hr:∃ v w',(execOp a.eval o).run P w=.ok (.value v) w'∧Mx G w0 w' (Rf v)) (h:∀ v w',Mx G w0 w' (Rf v)→stE E k v∧J (updB S k) (updV p k v) w'):
  if Region.wanted o (yielded ops a.tmps)=true then o.wp P a w (fun a' w'=>∃ v,a'=a.put o.dst v∧stE E k v∧J (updB S k) (updV p k v) w') Q else stE E k undef∧J (updB S k) (updV p k undef) w:=by
 obtain ⟨v,w',h1,h2⟩:=hr
 obtain ⟨h3,h4⟩:=h v w' h2
 exact ze hw v h1 h3 h4
theorem hopM_exE (hw:Region.wanted o (yielded ops a.tmps)=true) {Z:Value→Prop} (hr:∃ v,(execOp a.eval o).run P w=.ok (.value v) w∧Z v) (h:∀ v,Z v→stE E k v∧J (updB S k) (updV p k v) w):
  if Region.wanted o (yielded ops a.tmps)=true then o.wp P a w (fun a' w'=>∃ v,a'=a.put o.dst v∧stE E k v∧J (updB S k) (updV p k v) w') Q else stE E k undef∧J (updB S k) (updV p k undef) w:=
 hopM_ex hw (hr.elim fun v h1=>⟨v,w,h1.1,h v h1.2⟩)
theorem z9a (hw:Region.wanted o (yielded ops a.tmps)=true) {f:FuncId} {args:Array Operand} {ts:Array TypeId} (ho:o.op=.call { callee:=.value (.func f),args:=args,argTypes:=ts }) (vals:Array Value) (hv:args.map a.eval=vals) (hr:∀ args w,(callFunc f args).run P w=.ok (.enter f args) w)
  (hc:Calls P f vals w fun e w'=>∃ v,e=.returned v∧stE E k v∧J (updB S k) (updV p k v) w'):
  if Region.wanted o (yielded ops a.tmps)=true then o.wp P a w (fun a' w'=>∃ v,a'=a.put o.dst v∧stE E k v∧J (updB S k) (updV p k v) w') Q else stE E k undef∧J (updB S k) (updV p k undef) w:=by
 rw [if_pos hw]
 subst hv
 unfold Oper.wp
 have:(execOp a.eval o).run P w=.ok (.enter f (args.map a.eval)) w:=by
  simp [execOp,ho,resolve,invoke,Act.eval,go_sem,hr]
 rw [this]
 refine hc.mono fun e w' ⟨v,he,h1,h2⟩=>?_
 subst he
 exact ⟨v,rfl,h1,h2⟩
end
end
section
open Go.Shelf
variable {ds:List Deferred}
theorem wp_region_relM_in {P:Program} {id:Nat} {Q:Exit→Act→World→Prop} {a0:Act} {W:World} {L:List Oper} {l n':Nat} (hQ:¬LetsOut Q) (hnd:noDefer L=true) (m n:Nat) (hn:a0.tmps.size=n) (hm:P.follows .mixedOrders=true) (hok:relOkC L m n=true) (hml:Nat.ble m L.length=true) (E:Nat→Value→Prop) (hds:∀ (j:Nat) (o:Oper),(L.take m)[j]? = some o→o.dst=none→∀ v,E j v↔v=undef) (J:(Nat→Bool)→(Nat→Value)→World→Prop)
  (h0:∀ p,J (fun j=>Nat.ble m j) p W.drew) (hop:HopAllM P L m Q E J a0 (L.take m) 0)
  (hend:∀ (p:Nat→Value) (w:World),J (fun _=>true) p w→(∀ (j:Nat) (o:Oper),(L.take m)[j]? = some o→E j (p j))→wpList P L.toArray Q (L.drop m) (z8b p (L.take m) 0 a0) w):(Code.region id L.toArray true).wpIn (Fence.wide.inRound l) n' P Q a0 W:=
 wp_region_relMC (.wpIn hQ hnd hm) m n hn hok hml E hds J h0 hop hend
theorem region_fxM_in {P:Program} {id:Nat} {Q:Exit→Act→World→Prop} {a0:Act} {W:World} {L:List Oper} {l n':Nat} (hQ:¬LetsOut Q) (hnd:noDefer L=true) {n:Nat} {V:List (Nat×Value)} (F:Fx n a0 V ds) (E:List (Value→Prop)) (J:(Nat→Bool)→(Nat→Value)→World→Prop) (m:Nat) (hm:P.follows .mixedOrders=true) (hok:relOkC L m n=true) (hml:Nat.ble m L.length=true) (hds:EDs E (L.take m) 0)
  (h0:∀ p,J (fun j=>Nat.ble m j) p W.drew) (hop:HopAllM P L m Q (stE E) J a0 (L.take m) 0)
  (hend:∀ (p:Nat→Value) (a:Act) (w:World),J (fun _=>true) p w→Fx n a (layV p (L.take m) 0 V) ds→EAll E p (L.take m) 0→wpList P L.toArray Q (L.drop m) a w):(Code.region id L.toArray true).wpIn (Fence.wide.inRound l) n' P Q a0 W:=
 wp_region_relM_in hQ hnd m n F.size hm hok hml (stE E) (fun j o ho hn=>by have:=hds.at j o ho hn;rwa [Nat.zero_add] at this) J h0 hop fun p w hj hE=>hend p _ w hj (F.lay p (L.take m) 0 a0 V (relOkC_dst hok)) (eall_of _ 0 fun j o ho=>by rw [Nat.zero_add];exact hE j o ho)
theorem Fx.fresh {n:Nat} {a:Act} {V:List (Nat×Value)} (F:Fx n a V ds) (ds':List Deferred):Fx n { a with defers:=ds' } V ds':=⟨F.size,rfl,F.at_⟩
end
theorem Mx.theO {w:World} {l:List UInt8} {v:Value} (h:Byt w 0 v l):Mx v.ownBlock w w [(0,ownR l v)]:=
 (show Mx v.ownBlock w w [] from ⟨World.grownBy.refl _ _,fun _ _ h=>(by cases h),fun _ _ h=>(by cases h),fun _ _ h=>(by cases h),fun _ _ h=>(by cases h),fun _ _ _ _ h=>(by cases h)⟩).cons 0 _ h ownR_dep (fun g hg=>(h.lt g hg).2) (fun _ g hg=>.inr hg) fun k s e=>by cases e
theorem Mx.growO {G:Option Nat} {w0 w w':World} {R:List (Nat×Res)} (M:Mx G w0 w R) {k:Nat} {l l':List UInt8} {v v':Value} (hk:look R k=some (ownR l v)) (hb:w.grownBy w' v.ownBlock) (hv:Byt w' 0 v' l') (hlo:∀ g,v'.ownBlock=some g→w.heap.size≤g∨v.ownBlock=some g):Mx G w0 w' ((k,ownR l' v')::R):=
 M.write hk rfl hb (fun _ e=>e) _ hv ownR_dep fun g hg=>⟨(hv.lt g hg).2,(hlo g hg).symm⟩
theorem counted_any (l c:List UInt8) (v u:Value) (hl:l.length+c.length≤100000) (w:World) (hb:Byt w 0 v l) (hu:IsB w c u) (hd:∀ g,v.ownBlock=some g→¬bfp u g):
  Calls Tryz.prog 73 #[v,u] w fun e w'=>∃ v',e=.returned v'∧Byt w' 0 v' (l++[zj (c.length:Int)]++c)∧(∀ g,v'.ownBlock=some g→w.heap.size≤g∨v.ownBlock=some g)∧w.grownBy w' v.ownBlock:=by
 refine zk (args:=[v,u]) 14 Tryz.func73 rfl rfl rfl ?_
 intro fa F
 have M:=Mx.theO hb
 replace M:=M.argB 1 hu hd
 refine zT fun _ hK1=>rm rfl F fun _ F2=>hK1 _ _ (zSk fun _ hK3=>?_)
 refine zR (rm rfl F2 fun _ F4=>rm rfl F4 fun _ F5=>rn rfl rfl F5 rfl (zI (c.length:Int)) (z8a _ rfl (F5.get rfl) (M.isb (k:=1) rfl) rfl) fun _ F6=>?_)
 refine rn rfl rfl F6 rfl (zY (((zj (c.length:Int)).toNat:Nat):Int)) (y_cvI _ _ _ rfl (F6.get rfl) Tryz.underlying3 Tryz.underlying5 (ztb _)) fun _ F7=>?_
 refine zwa rfl rfl F7 rfl (zdd M 2 [(zj (c.length:Int))] 1 rfl (by decide) (by decide) rfl (by simp only [List.map_toArray,List.map_cons,List.map_nil,(F7 8 rfl)];kernel_rfl)) ?_
 intro v8 a8 w8 F8 M8
 obtain ⟨A8,c8,rfl⟩:=(M8.isO (k:=2) rfl).shape
 refine zwa rfl rfl F8 rfl (zfb M8 (k:=0) rfl _ _ rfl (F8.get rfl) (F8.get rfl) (M8.isO (k:=2) rfl) (by simp only [List.length_append,List.length_cons,List.length_nil];omega)) ?_
 intro v9 a9 w9 F9 M9
 obtain ⟨A9,c9,rfl⟩:=(M9.isO (k:=0) rfl).shape
 refine rm rfl F9 fun _ F10=>hK3 _ _ (zSk fun _ hK11=>?_)
 refine zR (rm rfl F10 fun _ F12=>rm rfl F12 fun _ F13=>zwa rfl rfl F13 rfl (zfb M9 (k:=0) rfl _ _ rfl (F13.get rfl) (F13.get rfl) (M9.isb (k:=1) rfl) (by simp only [List.length_append,List.length_cons,List.length_nil];omega)) ?_)
 intro v14 a14 w14 F14 M14
 obtain ⟨A14,c14,rfl⟩:=(M14.isO (k:=0) rfl).shape
 refine rm rfl F14 fun _ F15=>hK11 _ _ (wp_ret ?_)
 exact bodyPost_ret (res1 rfl (F15.get rfl)) F15.defers ⟨_,rfl,M14.at_ 0 _ rfl,M14.own 0 _ rfl rfl,M14.grown⟩
end Go.Proofs.YtmjbnmbobocpdaaGreat
namespace Go.Proofs.YtmjbnmbobocpdaaGreat
open Go.ChangeShapes Go.WideShapes Go.ChangeAt Go.RowKit
end Go.Proofs.YtmjbnmbobocpdaaGreat
namespace Go.Proofs.YtmjbnmbobocpdaaGreat
open Go.ChangeShapes Go.WideShapes Go.ChangeAt Go.RowKit
def bitI (a:Nat) (i:Nat):Int:=((a / 2^i%2:Nat):Int)
theorem testBit_bit (a i:Nat):a / 2^i%2=(a.testBit i).toNat:=by
 rw [Nat.testBit_eq_decide_div_mod_eq]
 rcases Nat.mod_two_eq_zero_or_one (a / 2^i) with h | h <;> simp [h]
theorem bit_dig (a i:Nat):bits BinOp.and IntKind.u32 (digI a (i / 32) / 2^(i%32)) 1=bitI a i:=by
 have hd:digI a (i / 32) / 2^(i%32)=((dig a (i / 32) / 2^(i%32):Nat):Int):=by unfold digI;simp
 have hl:dig a (i / 32) / 2^(i%32)<4294967296:=Nat.lt_of_le_of_lt (Nat.div_le_self _ _) (dig_lt _ _)
 have h:=bits_mask .u32 32 (by decide) (fun n h0 h1=>by rw [IntKind.wrap_u32];omega) 1 (by omega) ((dig a (i / 32) / 2^(i%32):Nat):Int) (Int.natCast_nonneg _) (by exact_mod_cast hl)
 rw [hd]
 have h':bits BinOp.and IntKind.u32 ((dig a (i / 32) / 2^(i%32):Nat):Int) 1=((dig a (i / 32) / 2^(i%32):Nat):Int)%2:=h
 rw [h',bitI]
 have e:dig a (i / 32) / 2^(i%32)%2=a / 2^i%2:=by
  rw [testBit_bit,testBit_bit,dig,show (4294967296:Nat)=2^32 from rfl,←Nat.pow_mul,Nat.testBit_mod_two_pow,Nat.testBit_div_two_pow,show i%32+32*(i / 32)=i by omega]
  simp [Nat.mod_lt]
 rw [←e];omega
theorem rbit_any (a:Nat) (i:Nat) (hi:i<256) (w:World):
  Calls Tryz.prog 133 #[numV a,.int .i64 i] w fun e w'=>e=.returned (.int .u32 (bitI a i))∧Below w.heap.size w w':=by
 have g0:=Num.new w 35 a
 have c0:=g0.cell (k:=i / 32) (by omega)
 go_enter Tryz.func133,Tryz.ntmps133
 go_wp2
 go_ret
 exact ⟨by rw [←bit_dig];rfl,(Below.refl _ _).alloc (Nat.le_refl _) _⟩
attribute [irreducible] bitI
/-! The digits of a product's row. -/
/-! The number that stands in the row after k rounds. -/
theorem digI_high {n m k:Nat} (h:n<4294967296^m) (hk:m≤k):digI n k=0:=by unfold digI;rw [dig_of_lt h hk];rfl
theorem digI_zeroN (j:Nat):digI 0 j=0:=digI_high (m:=0) (by omega) (by omega)
/-! The product that is taken off: its carries and its digits; the difference: its borrows and its digits. -/
def cP (d:Int) (y:Nat→Int):Nat→Int
 | 0=>0
 | k+1=>(cP d y k+d*y k) / 4294967296
end Go.Proofs.YtmjbnmbobocpdaaGreat
namespace Go.Proofs.YtmjbnmbobocpdaaGreat
open Go.ChangeShapes Go.WideShapes Go.ChangeAt Go.RowKit
end Go.Proofs.YtmjbnmbobocpdaaGreat
namespace Go.Proofs.YtmjbnmbobocpdaaGreat
open Go.ChangeShapes Go.WideShapes Go.ChangeAt Go.RowKit
end Go.Proofs.YtmjbnmbobocpdaaGreat
namespace Go.Proofs.YtmjbnmbobocpdaaGreat
open Go.ChangeShapes Go.WideShapes Go.ChangeAt Go.RowKit
end Go.Proofs.YtmjbnmbobocpdaaGreat
namespace Go.Proofs.YtmjbnmbobocpdaaGreat
open Go.ChangeShapes Go.WideShapes Go.ChangeAt Go.RowKit
end Go.Proofs.YtmjbnmbobocpdaaGreat
namespace Go.Proofs.YtmjbnmbobocpdaaGreat
open Go.ChangeShapes Go.WideShapes Go.ChangeAt Go.RowKit
end Go.Proofs.YtmjbnmbobocpdaaGreat
namespace Go.Proofs.YtmjbnmbobocpdaaGreat
open Go.ChangeShapes Go.WideShapes Go.ChangeAt Go.RowKit
theorem top_ind {m:Nat} (h0:0<m):∀ i,m<4294967296^i→∃ n,1≤n∧n≤i∧dig m (n-1)≠0∧topI m i=32*((n-1:Nat):Int)+Lib.bitLen (dig m (n-1))∧m<4294967296^n
 | 0,h=>by simp at h;omega
 | i+1,h=>by
  by_cases hz:digI m i=0
  ·have hd:m / 4294967296^i<4294967296:=by rw [Nat.div_lt_iff_lt_mul (pow_pos' i),Nat.mul_comm,←Nat.pow_succ];exact h
   have hz':dig m i=0:=by unfold digI at hz;omega
   have e:dig m i=m / 4294967296^i:=by unfold dig;rw [Nat.mod_eq_of_lt hd]
   have hlt:m<4294967296^i:=by
    rw [e] at hz'
    rcases Nat.div_eq_zero_iff.1 hz' with h2 | h2
    ·have:=pow_pos' i;omega
    ·exact h2
   obtain ⟨n,h1,h2,h3,h4,h5⟩:=top_ind h0 i hlt
   exact ⟨n,h1,by omega,h3,by rw [topI_zero hz];exact h4,h5⟩
  ·refine ⟨i+1,by omega,Nat.le_refl _,?_,?_,h⟩
   ·rw [Nat.add_sub_cancel];intro e;exact hz (by unfold digI;rw [e];rfl)
   ·rw [topI_here hz,Nat.add_sub_cancel]
    have e:(digI m i).toNat=dig m i:=by unfold digI;omega
    rw [e]
/-! The rounds. -/
theorem topI_none:∀ i,topI 0 i=0
 | 0=>by simp [topI]
 | i+1=>by rw [topI_zero (digI_zeroN i)];exact topI_none i
theorem pow32 (j:Nat):4294967296^j=2^(32*j):=by rw [Nat.pow_mul]
theorem top_one {a k:Nat} (ha:a<4294967296^8) (h:a / 2^k=1):topI a 8=(k:Int)+1:=by
 have h0:0<a:=by
  refine Nat.pos_of_ne_zero fun e=>?_
  rw [e,Nat.zero_div] at h
  cases h
 obtain ⟨n,h1,h2,h3,h4,h5⟩:=top_ind h0 8 ha
 obtain ⟨j,rfl⟩:∃ j,n=j+1:=⟨n-1,by omega⟩
 rw [Nat.add_sub_cancel] at *
 have hd:=dig_lt a j
 obtain ⟨b1,b2,b3⟩:=Lib.bitLenAux_bounds 64 (dig a j) (by omega) h3
 change 1≤Lib.bitLen (dig a j) at b1
 change 2^(Lib.bitLen (dig a j)-1)≤dig a j at b2
 change dig a j<2^Lib.bitLen (dig a j) at b3
 have hk:=pow_pos' j
 have hq:a / 4294967296^j<4294967296:=by rw [Nat.div_lt_iff_lt_mul hk,Nat.mul_comm,←Nat.pow_succ];exact h5
 have e2:dig a j=a / 4294967296^j:=by unfold dig;rw [Nat.mod_eq_of_lt hq]
 have lo:2^(32*j+(Lib.bitLen (dig a j)-1))≤a:=by
  rw [Nat.pow_add,←pow32,Nat.mul_comm]
  rw [e2] at b2 ⊢
  exact Nat.le_trans (Nat.mul_le_mul_right _ b2) (Nat.div_mul_le_self _ _)
 have hi:a<2^(32*j+Lib.bitLen (dig a j)):=by
  rw [Nat.pow_add,←pow32,Nat.mul_comm]
  rw [e2] at b3 ⊢
  exact (Nat.div_lt_iff_lt_mul hk).1 b3
 have lo':2^k≤a:=by
  refine Nat.le_of_not_lt fun hl=>?_
  rw [Nat.div_eq_of_lt hl] at h
  cases h
 have hi':a<2^(k+1):=by
  rw [Nat.pow_succ,Nat.mul_comm]
  exact (Nat.div_lt_iff_lt_mul (Nat.pow_pos (by decide))).1 (by omega)
 have p1:k<32*j+Lib.bitLen (dig a j):=(Nat.pow_lt_pow_iff_right (by decide:1<2)).1 (Nat.lt_of_le_of_lt lo' hi)
 have p2:32*j+(Lib.bitLen (dig a j)-1)<k+1:=(Nat.pow_lt_pow_iff_right (by decide:1<2)).1 (Nat.lt_of_le_of_lt lo hi')
 rw [h4];omega
theorem bit_up {a k:Nat} (h:a / 2^(k+1)=0):(bitI a k=1∧a / 2^k=1)∨(bitI a k=0∧a / 2^k=0):=by
 rw [Nat.pow_succ,←Nat.div_div_eq_div_mul] at h
 unfold bitI
 generalize a / 2^k=q at *
 have:q=0∨q=1:=by omega
 rcases this with rfl | rfl
 ·right;simp
 ·left;simp
theorem rbits_any (a:Nat) (ha:a<4294967296^8) (w:World):
  Calls Tryz.prog 107 #[numV a] w fun e w'=>e=.returned (.int .i64 (topI a 8))∧Below w.heap.size w w':=by
 have TOP:=hid (fun k=>@top_one a k ha)
 have ST:Hid (a / 2^256=0):=hid (Nat.div_eq_of_lt (by rw [show (2:Nat)^256=4294967296^8 by decide +kernel];exact ha))
 clear ha
 have g0:=Num.new w 35 a
 have gb:=zqa w (.cells (numA a) 35)
 go_enter Tryz.func107,Tryz.ntmps107
 go_wp2
 generalize World.alloc _ _=W at *
 go_loopw [3] (fun i wr=>∃ q:Int,-1≤q∧q≤255∧i=.int .i64 q∧Hid (a / 2^(q+1).toNat=0)∧Below (w.heap.size+1) W wr) (fun i _=>(intOf i+1).toNat)
 case atStart=>exact ⟨255,by omega,by omega,rfl,ST,Below.refl _ _⟩
 case round=>
  obtain ⟨q,hq1,hq2,rfl,ht,hB⟩:=hrel
  have n0:=g0.below hB (by omega)
  have hlt:=g0.lt
  by_cases hq:0≤q
  ·obtain ⟨k,rfl⟩:=Int.eq_ofNat_of_zero_le hq
   have hk:=rbit_any a k (by omega)
   rcases bit_up (show a / 2^(k+1)=0 from ht.out) with ⟨e1,e2⟩ | ⟨e1,e2⟩
   ·have E:=hid e2
    rw [e1] at hk
    clear e1 e2 ht
    go_wp2_with (refine znc rfl _ _ rfl _ rfl _ _ _ n0 Tryz.underlying35 rfl z5b ?_)
    refine (hk _).mono ?_
    rintro e w1 ⟨rfl,b1⟩
    clear hk
    go_wp2
    go_ret
    exact ⟨by rw [TOP.out k E.out];rfl,gb.trans ((hB.trans (b1.mono (by have:=hB.size;omega))).mono (by omega))⟩
   ·have E:=hid e2
    rw [e1] at hk
    clear e1 e2 ht
    go_wp2_with (refine znc rfl _ _ rfl _ rfl _ _ _ n0 Tryz.underlying35 rfl z5b ?_)
    refine (hk _).mono ?_
    rintro e w1 ⟨rfl,b1⟩
    clear hk
    go_wp2
    go_roundw
    case rel=>exact ⟨(k:Int)-1,by omega,by omega,by go_num,by rw [show ((k:Int)-1+1).toNat=k by omega];exact E,hB.trans (b1.mono (by have:=hB.size;omega))⟩
    case measure=>simp [intOf] <;> omega
  ·have hq':q = -1:=by omega
   subst hq'
   have e:a=0:=by have:=ht.out;simpa using this
   have E:=hid (show topI a 8=0 by rw [e];exact topI_none 8)
   clear e
   go_wp2
   go_ret
   exact ⟨by rw [E.out];rfl,gb.trans (hB.mono (by omega))⟩
theorem top_le {a:Nat} (ha:a<4294967296^8) (h:topI a 8≤32):a<4294967296:=by
 by_cases h0:a=0
 ·omega
 ·have h1:=Nat.log2_self_le h0
  have h2:a<2^(Nat.log2 a+1):=Nat.lt_log2_self
  have h3:a / 2^(Nat.log2 a)=1:=by
   apply Nat.div_eq_of_lt_le
   ·omega
   ·rw [Nat.pow_succ] at h2;omega
  rw [top_one ha h3] at h
  have h4:Nat.log2 a+1≤32:=by omega
  exact Nat.lt_of_lt_of_le h2 (Nat.pow_le_pow_right (by omega) h4)
theorem or_i64 (p c:Nat) (h1:p<36028797018963968) (h3:c<256):bits .or .i64 ((p:Int)*256) (c:Int)=((p*256+c:Nat):Int):=by
 rw [show (p:Int)*256=((p*256:Nat):Int) by omega,(bits_nat .i64 63 (by decide) (fun n h0 h1=>Go.IntWalk.i64_in n (by omega)) (p*256) c (by omega) (by omega)).2,nat_join 8 (p*256) c (by omega) (by omega)]
theorem shl8 {p:Nat} (h:p<36028797018963968):IntKind.i64.wrap (((p:Nat):Int)*2^(8:Int).toNat)=((p:Nat):Int)*256:=by
 rw [show (2:Int)^(8:Int).toNat=256 from rfl,IntKind.wrap_i64];omega
theorem readN_next {l:List UInt8} {j:Nat} {y:UInt8} (h:l[j]? = some y):zp (l.take (j+1))=zp (l.take j)*256+y.toNat:=by
 rw [List.take_add_one,h];exact readN_snoc _ _
theorem eight_lt {l:List UInt8} {x:UInt8} (hl:l.length=8) (h0:l[0]? = some x):zp l<9223372036854775808↔¬127<((x.toNat:Nat):Int):=by
 cases l with
 | nil=>cases h0
 | cons y r=>
  cases h0
  have hr:r.length=7:=by simpa using hl
  have h1:=z4c r
  rw [hr] at h1
  rw [readN_cons,hr]
  have e:(256:Nat)^7=72057594037927936:=by decide
  rw [e] at h1 ⊢
  omega
theorem pre_lt {l:List UInt8} (h:l.length<8∨(l.length=8∧∃ x,l[0]? = some x∧¬127<((x.toNat:Nat):Int))) (j:Nat) (hj:j<l.length):zp (l.take j)<36028797018963968:=by
 have h1:=z4c (l.take j)
 rw [List.length_take,Nat.min_eq_left (Nat.le_of_lt hj)] at h1
 have e6:(256:Nat)^6=281474976710656:=by decide
 rcases h with h | ⟨h,x,hx,hb⟩
 ·have:(256:Nat)^j≤256^6:=Nat.pow_le_pow_right (by omega) (by omega)
  omega
 ·by_cases hj7:j<7
  ·have:(256:Nat)^j≤256^6:=Nat.pow_le_pow_right (by omega) (by omega)
   omega
  ·obtain rfl:j=7:=by omega
   cases l with
   | nil=>cases hx
   | cons y r=>
    cases hx
    have hr:(r.take 6).length=6:=by simp at h ⊢;omega
    have h2:=z4c (r.take 6)
    rw [hr,e6] at h2
    rw [List.take_succ_cons,readN_cons,hr,e6]
    omega
theorem number_long (l:List UInt8) (v:Value) (hl:8<l.length) (hm:l.length≤100000) (w:World) (hv:IsB w l v):
  Calls Tryz.prog 88 #[v] w fun e w'=>e=.returned (.tuple #[zI 0,.bool false])∧Below w.heap.size w w':=by
 refine zk (args:=[v]) 34 Tryz.func88 rfl rfl rfl ?_
 intro fa F
 have M:=Mx.start w
 replace M:=M.argB 0 hv (fun g e=>by cases e)
 refine zT fun _ hK1=>rm rfl F fun _ F2=>rm rfl F2 fun _ F3=>hK1 _ _ (zSk fun _ hK4=>?_)
 refine zT fun _ hK5=>rm rfl F3 fun _ F6=>rn rfl rfl F6 rfl (zI (l.length:Int)) (z8a _ rfl (F6.get rfl) (M.isb (k:=0) rfl) rfl) fun _ F7=>?_
 refine rn rfl rfl F7 rfl (.bool true) (zbc _ _ _ _ rfl (F7.get rfl) rfl (decide_eq_true (by omega))) fun _ F8=>?_
 refine zB 11 [(0,v),(2,zI 0),(3,.bool false),(20,.bool true)] [] dnil [] F8 fun _ F9=>?_
 refine hK5 _ _ (wp_cond_true (F9.get rfl) ?_)
 refine zT fun _ hK10=>rm rfl F9 fun _ F11=>rm rfl F11 fun _ F12=>hK10 _ _ (wp_ret ?_)
 try simp only [Exit.then,Exit.inBlock,Exit.jump]
 exact bodyPost_ret (res2 rfl (F12.get rfl) (F12.get rfl)) F12.defers ⟨rfl,M.below⟩
theorem number_big (l:List UInt8) (v:Value) (xb:UInt8) (hl:l.length=8) (h0:l[0]? = some xb) (hx:127<((xb.toNat:Nat):Int)) (w:World) (hv:IsB w l v):
  Calls Tryz.prog 88 #[v] w fun e w'=>e=.returned (.tuple #[zI 0,.bool false])∧Below w.heap.size w w':=by
 refine zk (args:=[v]) 34 Tryz.func88 rfl rfl rfl ?_
 intro fa F
 have M:=Mx.start w
 replace M:=M.argB 0 hv (fun g e=>by cases e)
 refine zT fun _ hK1=>rm rfl F fun _ F2=>rm rfl F2 fun _ F3=>hK1 _ _ (zSk fun _ hK4=>?_)
 refine zT fun _ hK5=>rm rfl F3 fun _ F6=>rn rfl rfl F6 rfl (zI (l.length:Int)) (z8a _ rfl (F6.get rfl) (M.isb (k:=0) rfl) rfl) fun _ F7=>?_
 refine rn rfl rfl F7 rfl (.bool false) (zbc _ _ _ _ rfl (F7.get rfl) rfl (decide_eq_false (by omega))) fun _ F8=>?_
 refine rm rfl F8 fun _ F9=>rm rfl F9 fun _ F10=>zc (w':=w) (zd rfl rfl rfl (F10.get rfl)) rfl F10 rfl (zI (l.length:Int)) (z8a _ rfl (F10.get rfl) (M.isb (k:=0) rfl) rfl) fun _ F11=>?_
 refine zc (w':=w) (zd rfl rfl rfl (F11.get rfl)) rfl F11 rfl (.bool true) (zza _ _ _ _ rfl (F11.get rfl) rfl Tryz.underlying3 (zmb (by omega))) fun _ F12=>?_
 refine rm rfl F12 fun _ F13=>rm rfl F13 fun _ F14=>zc (w':=w) (zd rfl rfl rfl (F14.get rfl)) rfl F14 rfl ((ixV (v) 0)) (y_ixB _ _ rfl (F14.get rfl) (M.isb (k:=0) rfl) rfl rfl (by omega)) fun _ F15=>?_
 refine zc (w':=w) (zd rfl rfl rfl (F15.get rfl)) rfl F15 rfl (zY ((xb.toNat:Nat):Int)) (y_ldB _ rfl (F15.get rfl) (M.isb (k:=0) rfl) h0 rfl) fun _ F16=>?_
 refine zc (w':=w) (zd rfl rfl rfl (F16.get rfl)) rfl F16 rfl (.bool true) (zbc _ _ _ _ rfl (F16.get rfl) rfl (decide_eq_true hx)) fun _ F17=>?_
 refine zB 2 [(0,v),(2,zI 0),(3,.bool false),(20,.bool true)] [] dnil [] F17 fun _ F18=>?_
 refine hK5 _ _ (wp_cond_true (F18.get rfl) ?_)
 refine zT fun _ hK19=>rm rfl F18 fun _ F20=>rm rfl F20 fun _ F21=>hK19 _ _ (wp_ret ?_)
 try simp only [Exit.then,Exit.inBlock,Exit.jump]
 exact bodyPost_ret (res2 rfl (F21.get rfl) (F21.get rfl)) F21.defers ⟨rfl,M.below⟩
theorem number_short (l:List UInt8) (v:Value) (hl:l.length<8) (w:World) (hv:IsB w l v):
  Calls Tryz.prog 88 #[v] w fun e w'=>e=.returned (.tuple #[zI ((zp l:Nat):Int),.bool true])∧Below w.heap.size w w':=by
 have hpre:=pre_lt (.inl hl)
 refine zk (args:=[v]) 34 Tryz.func88 rfl rfl rfl ?_
 intro fa F
 have M:=Mx.start w
 replace M:=M.argB 0 hv (fun g e=>by cases e)
 refine zT fun _ hK1=>rm rfl F fun _ F2=>rm rfl F2 fun _ F3=>hK1 _ _ (zSk fun _ hK4=>?_)
 refine zT fun _ hK5=>rm rfl F3 fun _ F6=>rn rfl rfl F6 rfl (zI (l.length:Int)) (z8a _ rfl (F6.get rfl) (M.isb (k:=0) rfl) rfl) fun _ F7=>?_
 refine rn rfl rfl F7 rfl (.bool false) (zbc _ _ _ _ rfl (F7.get rfl) rfl (decide_eq_false (by omega))) fun _ F8=>?_
 refine rm rfl F8 fun _ F9=>rm rfl F9 fun _ F10=>zc (w':=w) (zd rfl rfl rfl (F10.get rfl)) rfl F10 rfl (zI (l.length:Int)) (z8a _ rfl (F10.get rfl) (M.isb (k:=0) rfl) rfl) fun _ F11=>?_
 refine zc (w':=w) (zd rfl rfl rfl (F11.get rfl)) rfl F11 rfl (.bool false) (zza _ _ _ _ rfl (F11.get rfl) rfl Tryz.underlying3 (zib (by omega))) fun _ F12=>?_
 refine zB 7 [(0,v),(2,zI 0),(3,.bool false),(20,.bool false)] [] dnil [] F12 fun _ F13=>?_
 refine hK5 _ _ (wp_cond_false (F13.get rfl) ?_)
 refine wp_skip (hK4 _ _ (zSk fun _ hK14=>?_))
 refine zR (rm rfl F13 fun _ F15=>hK14 _ _ (zSk fun _ hK16=>?_))
 refine zT fun _ hK17=>rm rfl F15 fun _ F18=>rn rfl rfl F18 rfl (zI (l.length:Int)) (z8a _ rfl (F18.get rfl) (M.isb (k:=0) rfl) rfl) fun _ F19=>?_
 refine rm rfl F19 fun _ F20=>hK17 _ _ (wp_block ?_)
 refine zeb (α:=Nat) (n:=34) (G:=none) (w0:=w) (fun x=>[(0,v),(2,zI 0),(3,.bool false),(20,.bool false),(21,v),(22,zI (l.length:Int)),(23,zI (x:Int)),(4,zI ((zp (l.take x):Nat):Int))]) (fun x=>[(0,bytR l v)]) (fun k x=>k=l.length-x∧(x≤l.length)) _ 0 ⟨rfl,(Nat.zero_le _)⟩ (F20.sub ⟨rfl,rfl,rfl,rfl,rfl,rfl,rfl,(by rw [List.take_zero];rfl),trivial⟩) (M.sb) ?_
 rintro k21 jn a21 w21 K21 ⟨ek21,I21⟩ F21 M21 hK21
 replace F21:Fx 34 a21 [(0,v),(2,zI 0),(3,.bool false),(20,.bool false),(21,v),(22,zI (l.length:Int)),(23,zI (jn:Int)),(4,zI ((zp (l.take jn):Nat):Int))]:=F21
 replace M21:Mx _ _ w21 [(0,bytR l v)]:=M21
 replace I21:jn≤l.length:=I21
 replace ek21:k21=l.length-jn:=ek21
 by_cases hlt:jn<l.length
 rotate_left
 ·obtain rfl:jn=l.length:=by omega
  refine zT fun _ hK38=>rn rfl rfl F21 rfl (.bool false) (zka _ _ _ _ rfl (F21.get rfl) (F21.get rfl) (decide_eq_false (Int.lt_irrefl _))) fun _ F39=>?_
  refine hK38 _ _ (zSk fun _ hK40=>?_)
  refine wp_cond_false (F39 24 rfl) (wp_exit ?_)
  simp only [Exit.then,Exit.inBlock,↓reduceIte,Nat.reduceEqDiff]
  refine hK16 _ _ (zSk fun _ hK41=>?_)
  refine zR (rm rfl F39 fun _ F42=>rm rfl F42 fun _ F43=>rm rfl F43 fun _ F44=>hK41 _ _ (wp_ret ?_))
  exact bodyPost_ret (res2 rfl (F44.get rfl) (F44.get rfl)) F44.defers ⟨by rw [List.take_length],M21.below⟩
 obtain ⟨y,hy⟩:∃ y,l[jn]? = some y:=⟨_,List.getElem?_eq_getElem hlt⟩
 have hsn:=readN_next hy
 have hpb:=hpre jn hlt
 have hyb:=y.toNat_lt
 refine zT fun _ hK22=>rn rfl rfl F21 rfl (.bool true) (zka _ _ _ _ rfl (F21.get rfl) (F21.get rfl) (decide_eq_true (show (jn:Int)<(l.length:Int) by omega))) fun _ F23=>?_
 refine hK22 _ _ (zSk fun _ hK24=>?_)
 refine wp_cond_true (F23 24 rfl) (wp_skip (hK24 _ _ (zSk fun _ hK25=>?_)))
 refine wp_block (zT fun K26 hK26=>rn rfl rfl F23 rfl ((ixV (v) jn)) (y_ixB _ _ rfl (F23.get rfl) (M21.isb (k:=0) rfl) (F23.get rfl) rfl hlt) fun _ F27=>?_)
 refine rn rfl rfl F27 rfl (zY ((y.toNat:Nat):Int)) (y_ldB _ rfl (F27.get rfl) (M21.isb (k:=0) rfl) hy rfl) fun _ F28=>?_
 refine rm rfl F28 fun _ F29=>hK26 _ _ (zR ?_)
 refine rm rfl F29 fun _ F30=>rn rfl rfl F30 rfl (zI (((zp (l.take jn):Nat):Int)*256)) (y_shlI _ _ _ _ rfl (F30.get rfl) rfl (by decide) (shl8 hpb)) fun _ F31=>?_
 refine rm rfl F31 fun _ F32=>rn rfl rfl F32 rfl (zI ((y.toNat:Nat):Int)) (y_cvI _ _ _ rfl (F32.get rfl) Tryz.underlying5 Tryz.underlying3 (byte_i64 _)) fun _ F33=>?_
 refine rn rfl rfl F33 rfl (zI ((zp (l.take (jn+1)):Nat):Int)) (y_orU _ _ _ _ rfl (F33.get rfl) (F33.get rfl) (by rw [or_i64 _ _ hpb hyb,hsn])) fun _ F34=>?_
 refine rm rfl F34 fun _ F35=>hK25 _ _ (zR ?_)
 refine rn rfl rfl F35 rfl (zI ((jn+1:Nat):Int)) (zoa _ _ _ _ rfl (F35.get rfl) rfl (by omega) (by omega)) fun _ F36=>?_
 refine rm rfl F36 fun _ F37=>?_
 subst ek21
 exact hK21 _ (jn+1) _ _ (by omega) ⟨rfl,(by omega)⟩ (F37.sb) (M21.sb)
theorem number_eight (l:List UInt8) (v:Value) (xb:UInt8) (hl:l.length=8) (h0:l[0]? = some xb) (hx:¬127<((xb.toNat:Nat):Int)) (w:World) (hv:IsB w l v):
  Calls Tryz.prog 88 #[v] w fun e w'=>e=.returned (.tuple #[zI ((zp l:Nat):Int),.bool true])∧Below w.heap.size w w':=by
 have hpre:=pre_lt (.inr ⟨hl,xb,h0,hx⟩)
 refine zk (args:=[v]) 34 Tryz.func88 rfl rfl rfl ?_
 intro fa F
 have M:=Mx.start w
 replace M:=M.argB 0 hv (fun g e=>by cases e)
 refine zT fun _ hK1=>rm rfl F fun _ F2=>rm rfl F2 fun _ F3=>hK1 _ _ (zSk fun _ hK4=>?_)
 refine zT fun _ hK5=>rm rfl F3 fun _ F6=>rn rfl rfl F6 rfl (zI (l.length:Int)) (z8a _ rfl (F6.get rfl) (M.isb (k:=0) rfl) rfl) fun _ F7=>?_
 refine rn rfl rfl F7 rfl (.bool false) (zbc _ _ _ _ rfl (F7.get rfl) rfl (decide_eq_false (by omega))) fun _ F8=>?_
 refine rm rfl F8 fun _ F9=>rm rfl F9 fun _ F10=>zc (w':=w) (zd rfl rfl rfl (F10.get rfl)) rfl F10 rfl (zI (l.length:Int)) (z8a _ rfl (F10.get rfl) (M.isb (k:=0) rfl) rfl) fun _ F11=>?_
 refine zc (w':=w) (zd rfl rfl rfl (F11.get rfl)) rfl F11 rfl (.bool true) (zza _ _ _ _ rfl (F11.get rfl) rfl Tryz.underlying3 (zmb (by omega))) fun _ F12=>?_
 refine rm rfl F12 fun _ F13=>rm rfl F13 fun _ F14=>zc (w':=w) (zd rfl rfl rfl (F14.get rfl)) rfl F14 rfl ((ixV (v) 0)) (y_ixB _ _ rfl (F14.get rfl) (M.isb (k:=0) rfl) rfl rfl (by omega)) fun _ F15=>?_
 refine zc (w':=w) (zd rfl rfl rfl (F15.get rfl)) rfl F15 rfl (zY ((xb.toNat:Nat):Int)) (y_ldB _ rfl (F15.get rfl) (M.isb (k:=0) rfl) h0 rfl) fun _ F16=>?_
 refine zc (w':=w) (zd rfl rfl rfl (F16.get rfl)) rfl F16 rfl (.bool false) (zbc _ _ _ _ rfl (F16.get rfl) rfl (decide_eq_false hx)) fun _ F17=>?_
 refine zB 2 [(0,v),(2,zI 0),(3,.bool false),(20,.bool false)] [] dnil [] F17 fun _ F18=>?_
 refine hK5 _ _ (wp_cond_false (F18.get rfl) ?_)
 refine wp_skip (hK4 _ _ (zSk fun _ hK19=>?_))
 refine zR (rm rfl F18 fun _ F20=>hK19 _ _ (zSk fun K21 hK21=>?_))
 refine zT fun _ hK22=>rm rfl F20 fun _ F23=>rn rfl rfl F23 rfl (zI (l.length:Int)) (z8a _ rfl (F23.get rfl) (M.isb (k:=0) rfl) rfl) fun _ F24=>?_
 refine rm rfl F24 fun _ F25=>hK22 _ _ (wp_block ?_)
 refine zeb (α:=Nat) (n:=34) (G:=none) (w0:=w) (fun x=>[(0,v),(2,zI 0),(3,.bool false),(20,.bool false),(21,v),(22,zI (l.length:Int)),(23,zI (x:Int)),(4,zI ((zp (l.take x):Nat):Int))]) (fun x=>[(0,bytR l v)]) (fun k x=>k=l.length-x∧(x≤l.length)) _ 0 ⟨rfl,(Nat.zero_le _)⟩ (F25.sub ⟨rfl,rfl,rfl,rfl,rfl,rfl,rfl,(by rw [List.take_zero];rfl),trivial⟩) (M.sb) ?_
 rintro k26 jn a26 w26 K26 ⟨ek26,I26⟩ F26 M26 hK26
 replace F26:Fx 34 a26 [(0,v),(2,zI 0),(3,.bool false),(20,.bool false),(21,v),(22,zI (l.length:Int)),(23,zI (jn:Int)),(4,zI ((zp (l.take jn):Nat):Int))]:=F26
 replace M26:Mx _ _ w26 [(0,bytR l v)]:=M26
 replace I26:jn≤l.length:=I26
 replace ek26:k26=l.length-jn:=ek26
 by_cases hlt:jn<l.length
 rotate_left
 ·obtain rfl:jn=l.length:=by omega
  refine zT fun _ hK43=>rn rfl rfl F26 rfl (.bool false) (zka _ _ _ _ rfl (F26.get rfl) (F26.get rfl) (decide_eq_false (Int.lt_irrefl _))) fun _ F44=>?_
  refine hK43 _ _ (zSk fun _ hK45=>?_)
  refine wp_cond_false (F44 24 rfl) (wp_exit ?_)
  simp only [Exit.then,Exit.inBlock,↓reduceIte,Nat.reduceEqDiff]
  refine hK21 _ _ (zSk fun _ hK46=>?_)
  refine zR (rm rfl F44 fun _ F47=>rm rfl F47 fun _ F48=>rm rfl F48 fun _ F49=>hK46 _ _ (wp_ret ?_))
  exact bodyPost_ret (res2 rfl (F49.get rfl) (F49.get rfl)) F49.defers ⟨by rw [List.take_length],M26.below⟩
 obtain ⟨y,hy⟩:∃ y,l[jn]? = some y:=⟨_,List.getElem?_eq_getElem hlt⟩
 have hsn:=readN_next hy
 have hpb:=hpre jn hlt
 have hyb:=y.toNat_lt
 refine zT fun _ hK27=>rn rfl rfl F26 rfl (.bool true) (zka _ _ _ _ rfl (F26.get rfl) (F26.get rfl) (decide_eq_true (show (jn:Int)<(l.length:Int) by omega))) fun _ F28=>?_
 refine hK27 _ _ (zSk fun _ hK29=>?_)
 refine wp_cond_true (F28 24 rfl) (wp_skip (hK29 _ _ (zSk fun _ hK30=>?_)))
 refine wp_block (zT fun _ hK31=>rn rfl rfl F28 rfl ((ixV (v) jn)) (y_ixB _ _ rfl (F28.get rfl) (M26.isb (k:=0) rfl) (F28.get rfl) rfl hlt) fun _ F32=>?_)
 refine rn rfl rfl F32 rfl (zY ((y.toNat:Nat):Int)) (y_ldB _ rfl (F32.get rfl) (M26.isb (k:=0) rfl) hy rfl) fun _ F33=>?_
 refine rm rfl F33 fun _ F34=>hK31 _ _ (zR ?_)
 refine rm rfl F34 fun _ F35=>rn rfl rfl F35 rfl (zI (((zp (l.take jn):Nat):Int)*256)) (y_shlI _ _ _ _ rfl (F35.get rfl) rfl (by decide) (shl8 hpb)) fun _ F36=>?_
 refine rm rfl F36 fun _ F37=>rn rfl rfl F37 rfl (zI ((y.toNat:Nat):Int)) (y_cvI _ _ _ rfl (F37.get rfl) Tryz.underlying5 Tryz.underlying3 (byte_i64 _)) fun _ F38=>?_
 refine rn rfl rfl F38 rfl (zI ((zp (l.take (jn+1)):Nat):Int)) (y_orU _ _ _ _ rfl (F38.get rfl) (F38.get rfl) (by rw [or_i64 _ _ hpb hyb,hsn])) fun _ F39=>?_
 refine rm rfl F39 fun _ F40=>hK30 _ _ (zR ?_)
 refine rn rfl rfl F40 rfl (zI ((jn+1:Nat):Int)) (zoa _ _ _ _ rfl (F40.get rfl) rfl (by omega) (by omega)) fun _ F41=>?_
 refine rm rfl F41 fun _ F42=>?_
 subst ek26
 exact hK26 _ (jn+1) _ _ (by omega) ⟨rfl,(by omega)⟩ (F42.sb) (M26.sb)
def numOk (l:List UInt8):Bool:=decide (l.length≤8∧zp l<9223372036854775808)
def numI (l:List UInt8):Int:=if numOk l=true then ((zp l:Nat):Int) else 0
theorem number_any (l:List UInt8) (v:Value) (hm:l.length≤100000) (w:World) (hv:IsB w l v):Calls Tryz.prog 88 #[v] w fun e w'=>e=.returned (.tuple #[zI (numI l),.bool (numOk l)])∧Below w.heap.size w w':=by
 unfold numI
 by_cases h8:8<l.length
 ·have:numOk l=false:=decide_eq_false (by omega)
  rw [this]
  exact number_long l v h8 hm w hv
 ·by_cases he:l.length=8
  ·obtain ⟨x,hx⟩:∃ x,l[0]? = some x:=⟨_,List.getElem?_eq_getElem (by omega)⟩
   have hb:=eight_lt he hx
   by_cases hb2:127<((x.toNat:Nat):Int)
   ·have:numOk l=false:=decide_eq_false (by omega)
    rw [this]
    exact number_big l v x he hx hb2 w hv
   ·have:numOk l=true:=decide_eq_true (by omega)
    rw [this]
    exact number_eight l v x he hx hb2 w hv
  ·have h1:=z4c l
   have h2:(256:Nat)^l.length≤256^7:=Nat.pow_le_pow_right (by omega) (by omega)
   have h3:(256:Nat)^7=72057594037927936:=by decide
   have:numOk l=true:=decide_eq_true (by omega)
   rw [this]
   exact number_short l v (by omega) w hv
theorem clone_none  (w:World):
  Calls Tryz.prog 90 #[zN] w fun e w'=>e=.returned (zN)∧Below w.heap.size w w':=by
 refine zk (args:=[zN]) 8 Tryz.func90 rfl rfl rfl ?_
 intro fa F
 have M:=Mx.start w
 refine zT fun _ hK1=>rm rfl F fun _ F2=>hK1 _ _ (zSk fun _ hK3=>?_)
 refine zT fun _ hK4=>rm rfl F2 fun _ F5=>rn rfl rfl F5 rfl (.bool true) (y_nilB _ _ rfl (F5.get rfl) rfl) fun _ F6=>?_
 refine hK4 _ _ (wp_cond_true (F6.get rfl) ?_)
 refine zT fun _ hK7=>rm rfl F6 fun _ F8=>hK7 _ _ (wp_ret ?_)
 try simp only [Exit.then,Exit.inBlock,Exit.jump]
 exact bodyPost_ret (res1 rfl (F8.get rfl)) F8.defers ⟨rfl,M.below⟩
theorem clone_some (l:List UInt8) (p:Addr) (c:Nat) (hm:l.length≤100000) (w:World) (hv:IsB w l (.slice (some p) l.length c)):
  Calls Tryz.prog 90 #[.slice (some p) l.length c] w fun e w'=>∃ v,e=.returned v∧Byt w' w.heap.size v l∧Below w.heap.size w w':=by
 refine zk (args:=[.slice (some p) l.length c]) 8 Tryz.func90 rfl rfl rfl ?_
 intro fa F
 have M:=Mx.start w
 replace M:=M.argB 0 hv (fun g e=>by cases e)
 refine zT fun _ hK1=>rm rfl F fun _ F2=>hK1 _ _ (zSk fun _ hK3=>?_)
 refine zT fun _ hK4=>rm rfl F2 fun _ F5=>rn rfl rfl F5 rfl (.bool false) (y_nilB _ _ rfl (F5.get rfl) rfl) fun _ F6=>?_
 refine hK4 _ _ (wp_cond_false (F6.get rfl) ?_)
 refine wp_skip (hK3 _ _ (zSk fun _ hK7=>?_))
 refine zR (zwa rfl rfl F6 rfl (run_lit0 M 1 rfl) ?_)
 intro v8 a8 w8 F8 M8
 obtain ⟨A8,c8,rfl⟩:=(M8.isO (k:=1) rfl).shape
 refine rm rfl F8 fun _ F9=>zwa rfl rfl F9 rfl (zfb M8 (k:=1) rfl _ _ rfl (F9.get rfl) (F9.get rfl) (M8.isb (k:=0) rfl) (by simp only [List.length_nil];omega)) ?_
 intro v10 a10 w10 F10 M10
 obtain ⟨A10,c10,rfl⟩:=(M10.isO (k:=1) rfl).shape
 refine rm rfl F10 fun _ F11=>hK7 _ _ (wp_ret ?_)
 exact bodyPost_ret (res1 rfl (F11.get rfl)) F11.defers ⟨_,rfl,(by have h:=M10.byt (k:=1) rfl;rwa [List.nil_append] at h),M10.below⟩
theorem clone_any (l:List UInt8) (v:Value) (hm:l.length≤100000) (w:World) (hv:IsB w l v):Calls Tryz.prog 90 #[v] w fun e w'=>∃ u,e=.returned u∧Byt w' w.heap.size u l∧Below w.heap.size w w':=by
 obtain ⟨A,c,rfl,h1,h2,h3,h4⟩:=id hv
 cases A with
 | none=>
  have hc:=h3 rfl
  subst hc
  have hl:l=[]:=List.eq_nil_of_length_eq_zero (by omega)
  subst hl
  exact (clone_none w).mono fun e w' h=>⟨_,h.1,Byt.nil _ _,h.2⟩
 | some p=>exact clone_some l p c hm w hv
theorem equal_any (l r:List UInt8) (v u:Value) (w:World) (hv:IsB w l v) (hu:IsB w r u):
  Calls Tryz.prog 140 #[v,u] w fun e w'=>e=.returned (.bool (decide (l=r)))∧Below w.heap.size w w':=by
 by_cases h:l=r
 ·refine zk (args:=[v,u]) 10 Tryz.func140 rfl rfl rfl ?_
  intro fa F
  have M:=Mx.start w
  replace M:=M.argB 0 hv (fun g e=>by cases e)
  replace M:=M.argB 1 hu (fun g e=>by cases e)
  refine zT fun _ hK1=>rm rfl F fun _ F2=>hK1 _ _ (zSk fun _ hK3=>?_)
  refine zR (rm rfl F2 fun _ F4=>rn rfl rfl F4 rfl (.string (⟨(l).toArray⟩)) (y_str _ rfl (F4.get rfl) (M.isb (k:=0) rfl)) fun _ F5=>?_)
  refine rm rfl F5 fun _ F6=>rn rfl rfl F6 rfl (.string (⟨(r).toArray⟩)) (y_str _ rfl (F6.get rfl) (M.isb (k:=1) rfl)) fun _ F7=>?_
  refine rn rfl rfl F7 rfl (.bool true) (y_eqS _ _ _ rfl (F7.get rfl) (F7.get rfl) (str_eq h)) fun _ F8=>?_
  refine rm rfl F8 fun _ F9=>hK3 _ _ (wp_ret ?_)
  exact bodyPost_ret (res1 rfl (F9.get rfl)) F9.defers ⟨by rw [decide_eq_true h],M.below⟩
 refine zk (args:=[v,u]) 10 Tryz.func140 rfl rfl rfl ?_
 intro fa F
 have M:=Mx.start w
 replace M:=M.argB 0 hv (fun g e=>by cases e)
 replace M:=M.argB 1 hu (fun g e=>by cases e)
 refine zT fun _ hK1=>rm rfl F fun _ F2=>hK1 _ _ (zSk fun _ hK3=>?_)
 refine zR (rm rfl F2 fun _ F4=>rn rfl rfl F4 rfl (.string (⟨(l).toArray⟩)) (y_str _ rfl (F4.get rfl) (M.isb (k:=0) rfl)) fun _ F5=>?_)
 refine rm rfl F5 fun _ F6=>rn rfl rfl F6 rfl (.string (⟨(r).toArray⟩)) (y_str _ rfl (F6.get rfl) (M.isb (k:=1) rfl)) fun _ F7=>?_
 refine rn rfl rfl F7 rfl (.bool false) (y_eqS _ _ _ rfl (F7.get rfl) (F7.get rfl) (str_ne h)) fun _ F8=>?_
 refine rm rfl F8 fun _ F9=>hK3 _ _ (wp_ret ?_)
 exact bodyPost_ret (res1 rfl (F9.get rfl)) F9.defers ⟨by rw [decide_eq_false h],M.below⟩
theorem y_min {a:Act} {w:World} {o:Oper} (x y:Operand) {ts:Array TypeId} (ho:o.op=.call { callee:=.builtin .min,args:=#[x,y],argTypes:=ts }) {k:IntKind} {p q z:Int} (hx:a.eval x=.int k p) (hy:a.eval y=.int k q) (hz:(if q<p then q else p)=z):(execOp a.eval o).run Tryz.prog w=.ok (.value (.int k z)) w:=by
 subst hz
 simp only [execOp,ho,resolve,Sem.run_bind,Sem.run_pure,Result.andThen_ok,invoke,List.map_toArray,List.map_cons,List.map_nil,hx,hy]
 simp [builtin,go_sem,Result.andThen]
 split <;> omega
theorem take_min {l:List UInt8} {n:Nat}:l.take (min n l.length)=l.take n:=by
 by_cases h:n≤l.length
 ·rw [Nat.min_eq_left h]
 ·rw [Nat.min_eq_right (by omega),List.take_of_length_le (Nat.le_refl _),List.take_of_length_le (by omega)]
theorem drop_min {l:List UInt8} {n:Nat}:l.drop (min n l.length)=l.drop n:=by
 by_cases h:n≤l.length
 ·rw [Nat.min_eq_left h]
 ·rw [Nat.min_eq_right (by omega),List.drop_of_length_le (Nat.le_refl _),List.drop_of_length_le (by omega)]
theorem take_any (g:Nat) (l:List UInt8) (u:Value) (n:Nat) (hl:l.length≤100000) (hn:n≤100000) (w:World) (hg:w.heap[g]? = some (.cells #[u] 165 (0,0))) (hu:IsB w l u) (hd:¬bfp u g):
  Calls Tryz.prog 143 #[(zO g),zI (n:Int)] w fun e w'=>∃ v,e=.returned v∧∃ u',Byt w' w.heap.size v (l.take n)∧IsB w' (l.drop n) u'∧(∀ b,bfp u' b→bfp u b)∧w'.heap[g]? = some (.cells #[u'] 165 (0,0))∧w.grownBy w' (some g):=by
 refine zk (args:=[(zO g),zI (n:Int)]) 30 Tryz.func143 rfl rfl rfl ?_
 intro fa F
 have M:=Mx.theG hg 0
 replace M:=M.argB 1 hu (fun b e=>by cases e;exact hd)
 refine zT fun _ hK1=>rm rfl F fun _ F2=>hK1 _ _ (zSk fun _ hK3=>?_)
 refine zR (zB 5 [(0,(zO g)),(1,zI (n:Int)),(4,zN),(6,zI (n:Int)),(10,u)] [0] (zu (M.blk (k:=0) rfl) dnil) [g] F2 fun _ F4=>?_)
 refine rn rfl rfl F4 rfl (zI (l.length:Int)) (z8a _ rfl (F4.get rfl) (M.isb (k:=1) rfl) rfl) fun _ F5=>?_
 refine rn rfl rfl F5 rfl (zI ((min n l.length:Nat):Int)) (y_min _ _ rfl (F5.get rfl) (F5.get rfl) (by split <;> omega)) fun _ F6=>?_
 refine rm rfl F6 fun _ F7=>hK3 _ _ (zSk fun _ hK8=>?_)
 refine zR (zB 5 [(0,(zO g)),(1,zI ((min n l.length:Nat):Int)),(4,zN),(16,u),(17,zI ((min n l.length:Nat):Int))] [0] (zu (M.blk (k:=0) rfl) dnil) [g] F7 fun _ F9=>?_)
 refine zrc rfl rfl F9 rfl (y_slTo _ _ rfl (F9.get rfl) (M.isb (k:=1) rfl) (F9.get rfl) (j:=(min n l.length)) rfl (Nat.min_le_right _ _)) ?_
 intro v10 a10 h10 F10
 have M10:=M.partB 2 (k:=1) rfl h10.1 h10.2
 obtain ⟨A10,c10,rfl⟩:=(M10.isb (k:=2) rfl).shape
 refine zh rfl rfl F10 rfl rfl (zE Tryz.func90 rfl) #[.slice A10 ((l.take (min n l.length))).length c10] (zaa (F10.get rfl)) (clone_any (l.take (min n l.length)) (.slice A10 ((l.take (min n l.length))).length c10) (by simp only [List.length_take];omega) w (M10.isb (k:=2) rfl)) ?_
 rintro v11 w11 a11 h11 F11
 have M11:=M10.newO h11.2 3 h11.1
 clear M10 h11
 obtain ⟨A11,c11,rfl⟩:=(M11.isO (k:=3) rfl).shape
 refine rm rfl F11 fun _ F12=>hK8 _ _ (zSk fun _ hK13=>?_)
 refine zR (zB 6 [(4,zN),(5,.slice A11 ((l.take (min n l.length))).length c11),(20,(zO g)),(24,u),(25,zI ((min n l.length:Nat):Int))] [0] (zu (M11.blk (k:=0) rfl) dnil) [g] F12 fun _ F14=>?_)
 refine zrc rfl rfl F14 rfl (y_slFrom _ _ rfl (F14.get rfl) (M11.isb (k:=1) rfl) (F14.get rfl) (i:=(min n l.length)) rfl (Nat.min_le_right _ _)) ?_
 intro v15 a15 h15 F15
 have M15:=M11.partB 4 (k:=1) rfl h15.1 h15.2
 obtain ⟨A15,c15,rfl⟩:=(M15.isb (k:=4) rfl).shape
 refine zAx 2 [(27,(zO g)),(28,(zO g))] [] dnil [] F15 fun _ F16=>?_
 refine zt rfl rfl F16 M15 (k:=0) rfl _ _ _ rfl (F16.get rfl) (F16.get rfl) (#[.slice A15 ((l.drop (min n l.length))).length c15]) _ rfl (zL rfl) (one_slc rfl) (zca rfl) (by kernel_rfl) ?_
 intro w17 M17
 refine hK13 _ _ (zSk fun _ hK18=>?_)
 refine zR (rm rfl F16 fun _ F19=>rm rfl F19 fun _ F20=>hK18 _ _ (wp_ret ?_))
 exact bodyPost_ret (res1 rfl (F20.get rfl)) F20.defers ⟨_,rfl,.slice A15 ((l.drop (min n l.length))).length c15,(by rw [←take_min (l:=l) (n:=n)];exact M17.bytG (k:=3) rfl (fun b e e2=>M17.dis 3 0 _ _ rfl rfl (by decide) rfl b e2 (by injection e with e;exact e.symm))),(by rw [←drop_min (l:=l) (n:=n)];exact M17.isb (k:=4) rfl),h15.2,M17.blk (k:=0) rfl,M17.grown⟩
theorem Mx.took0 {G:Option Nat} {w0 w w':World} {R:List (Nat×Res)} (M:Mx G w0 w R) {k ku g:Nat} {t:TypeId} {c c':Array Value} {l l':List UInt8} {u u':Value} (hk:look R k=some (blkR g t c)) (hg:w.grownBy w' (some g)) (hc:w'.heap[g]? = some (.cells c' t (0,0))) (j:Nat)
  (hu:IsB w' l' u') (hs:∀ b,bfp u' b→bfp u b) (hku:look ((k,blkR g t c')::R) ku=some (bytR l u)):Mx G w0 w' ((j,bytR l' u')::(k,blkR g t c')::R):=
 (M.put hk hg hc).part j _ hu z2b rfl hku rfl hs
theorem Mx.took {G:Option Nat} {w0 w w':World} {R:List (Nat×Res)} (M:Mx G w0 w R) {k ku g:Nat} {t:TypeId} {c c':Array Value} {l l' lv:List UInt8} {u u' v:Value} (hk:look R k=some (blkR g t c)) (hg:w.grownBy w' (some g)) (hc:w'.heap[g]? = some (.cells c' t (0,0))) (i j:Nat)
  (hv:Byt w' w.heap.size v lv) (hu:IsB w' l' u') (hs:∀ b,bfp u' b→bfp u b) (hku:look ((k,blkR g t c')::R) ku=some (bytR l u)) (hku2:look ((i,ownR lv v)::(k,blkR g t c')::R) ku=some (bytR l u)):Mx G w0 w' ((j,bytR l' u')::(i,ownR lv v)::(k,blkR g t c')::R):=by
 have M1:=M.put hk hg hc
 have old:∀ q s,look ((k,blkR g t c')::R) q=some s→∀ b,s.fp b→b<w.heap.size:=fun q s e b hb=>by
  rw [zx] at e;split at e
  ·cases e;cases hb;exact M.lt k _ hk g rfl
  ·exact M.lt q s e b hb
 have M2:Mx G w0 w' ((i,ownR lv v)::(k,blkR g t c')::R):=M1.cons i _ (hv.rebase fun _ _=>Nat.zero_le _) ownR_dep (fun b hb=>(hv.lt b hb).2) (fun _ b hb=>.inl (Nat.le_trans M.le (hv.lt b hb).1)) fun q s e _ _ b hb hs2=>by
  have h1:=old q s e b hs2
  have h2:=(hv.lt b hb).1
  omega
 exact M2.part j _ hu z2b rfl hku2 rfl hs
theorem numI_one (l:List UInt8):numI (l.take 1)=((zp (l.take 1):Nat):Int):=by
 have h:=z4c (l.take 1)
 have h2:(l.take 1).length≤1:=by rw [List.length_take];exact Nat.min_le_left _ _
 have h3:(256:Nat)^(l.take 1).length≤256^1:=Nat.pow_le_pow_right (by omega) h2
 exact if_pos (decide_eq_true ⟨by omega,by omega⟩)
theorem readN_one (l:List UInt8):zp (l.take 1)<256:=by
 have h:=z4c (l.take 1)
 have h2:(l.take 1).length≤1:=by rw [List.length_take];exact Nat.min_le_left _ _
 have h3:(256:Nat)^(l.take 1).length≤256^1:=Nat.pow_le_pow_right (by omega) h2
 omega
theorem rnumber_any (g:Nat) (l:List UInt8) (u:Value) (n:Nat) (hl:l.length≤100000) (hn:n≤100000) (w:World) (hg:w.heap[g]? = some (.cells #[u] 165 (0,0))) (hu:IsB w l u) (hd:¬bfp u g):
  Calls Tryz.prog 131 #[(zO g),zI (n:Int)] w fun e w'=>∃ v,e=.returned v∧v=zI (numI (l.take n))∧∃ u',IsB w' (l.drop n) u'∧(∀ b,bfp u' b→bfp u b)∧w'.heap[g]? = some (.cells #[u'] 165 (0,0))∧w.grownBy w' (some g):=by
 refine zk (args:=[(zO g),zI (n:Int)]) 15 Tryz.func131 rfl rfl rfl ?_
 intro fa F
 have M:=Mx.theG hg 0
 replace M:=M.argB 1 hu (fun b e=>by cases e;exact hd)
 refine zT fun _ hK1=>rm rfl F fun _ F2=>hK1 _ _ (zSk fun _ hK3=>?_)
 refine zR (rm rfl F2 fun _ F4=>rm rfl F4 fun _ F5=>zh rfl rfl F5 rfl rfl (zE Tryz.func143 rfl) #[(zO g),zI (n:Int)] (zfa (F5.get rfl) (F5.get rfl)) (take_any g l (u) n hl (by omega) w (M.blk (k:=0) rfl) (M.isb (k:=1) rfl) (fun hb=>M.dis 0 1 _ _ rfl rfl (by decide) rfl g rfl hb)) ?_)
 rintro v6 w6 a6 ⟨u6,hv6,hu6,hs6,hc6,hg6⟩ F6
 have M6:=M.took (k:=0) (ku:=1) rfl hg6 hc6 3 2 hv6 hu6 hs6 rfl rfl
 clear M hg6 hc6
 obtain ⟨A6u,c6u,rfl⟩:=hu6.shape
 clear hu6
 clear hv6
 obtain ⟨A6,c6,rfl⟩:=(M6.isO (k:=3) rfl).shape
 refine zh rfl rfl F6 rfl rfl (zE Tryz.func88 rfl) #[.slice A6 ((l.take n)).length c6] (zaa (F6.get rfl)) (zba ((number_any (l.take n) (.slice A6 ((l.take n)).length c6) (by simp only [List.length_take];omega) w6 (M6.isO (k:=3) rfl)))) ?_
 rintro _ w7 a7 ⟨rfl,b7⟩ F7
 have M7:=M6.step b7
 refine zB 5 [(4,zI 0),(5,zI (numI (l.take n)))] [] dnil [] F7 fun _ F8=>?_
 refine hK3 _ _ (zSk fun _ hK9=>?_)
 refine zR (rm rfl F8 fun _ F10=>rm rfl F10 fun _ F11=>hK9 _ _ (wp_ret ?_))
 exact bodyPost_ret (res1 rfl (F11.get rfl)) F11.defers ⟨_,rfl,rfl,.slice A6u ((l.drop n)).length c6u,M7.isb (k:=2) rfl,fun b h=>(hs6 b h),M7.blk (k:=0) rfl,M7.grown⟩
theorem rnum1_any (g:Nat) (l:List UInt8) (u:Value) (hl:l.length≤100000) (w:World) (hg:w.heap[g]? = some (.cells #[u] 165 (0,0))) (hu:IsB w l u) (hd:¬bfp u g):
  Calls Tryz.prog 131 #[(zO g),zI 1] w fun e w'=>∃ v,e=.returned v∧v=zI ((zp (l.take 1):Nat):Int)∧∃ u',IsB w' (l.drop 1) u'∧(∀ b,bfp u' b→bfp u b)∧w'.heap[g]? = some (.cells #[u'] 165 (0,0))∧w.grownBy w' (some g):=
 (rnumber_any g l u 1 hl (by omega) w hg hu hd).mono fun e w2 ⟨v,h1,h2,h3⟩=>⟨v,h1,h2.trans (by rw [numI_one]),h3⟩
theorem roctet_any (g:Nat) (l:List UInt8) (u:Value) (hl:l.length≤100000) (w:World) (hg:w.heap[g]? = some (.cells #[u] 165 (0,0))) (hu:IsB w l u) (hd:¬bfp u g):
  Calls Tryz.prog 128 #[(zO g)] w fun e w'=>∃ v,e=.returned v∧v=zI ((zp (l.take 1):Nat):Int)∧∃ u',IsB w' (l.drop 1) u'∧(∀ b,bfp u' b→bfp u b)∧w'.heap[g]? = some (.cells #[u'] 165 (0,0))∧w.grownBy w' (some g):=by
 refine zk (args:=[(zO g)]) 5 Tryz.func128 rfl rfl rfl ?_
 intro fa F
 have M:=Mx.theG hg 0
 replace M:=M.argB 1 hu (fun b e=>by cases e;exact hd)
 refine zT fun _ hK1=>rm rfl F fun _ F2=>hK1 _ _ (zSk fun _ hK3=>?_)
 refine zR (rm rfl F2 fun _ F4=>zh rfl rfl F4 rfl rfl (zE Tryz.func131 rfl) #[(zO g),zI 1] (zfa (F4.get rfl) rfl) (rnum1_any g l (u) hl w (M.blk (k:=0) rfl) (M.isb (k:=1) rfl) (fun hb=>M.dis 0 1 _ _ rfl rfl (by decide) rfl g rfl hb)) ?_)
 rintro _ w5 a5 ⟨rfl,u5,hu5,hs5,hc5,hg5⟩ F5
 have M5:=M.took0 (k:=0) (ku:=1) rfl hg5 hc5 2 hu5 hs5 rfl
 clear M hg5 hc5
 obtain ⟨A5u,c5u,rfl⟩:=hu5.shape
 clear hu5
 refine rm rfl F5 fun _ F6=>hK3 _ _ (wp_ret ?_)
 exact bodyPost_ret (res1 rfl (F6.get rfl)) F6.defers ⟨_,rfl,rfl,.slice A5u ((l.drop 1)).length c5u,M5.isb (k:=2) rfl,fun b h=>(hs5 b h),M5.blk (k:=0) rfl,M5.grown⟩
theorem rcounted_any (g:Nat) (l:List UInt8) (u:Value) (hl:l.length≤100000) (w:World) (hg:w.heap[g]? = some (.cells #[u] 165 (0,0))) (hu:IsB w l u) (hd:¬bfp u g):
  Calls Tryz.prog 129 #[(zO g)] w fun e w'=>∃ v,e=.returned v∧∃ u',Byt w' w.heap.size v ((l.drop 1).take (zp (l.take 1)))∧IsB w' ((l.drop 1).drop (zp (l.take 1))) u'∧(∀ b,bfp u' b→bfp u b)∧w'.heap[g]? = some (.cells #[u'] 165 (0,0))∧w.grownBy w' (some g):=by
 refine zk (args:=[(zO g)]) 7 Tryz.func129 rfl rfl rfl ?_
 intro fa F
 have M:=Mx.theG hg 0
 replace M:=M.argB 1 hu (fun b e=>by cases e;exact hd)
 have hr1:=readN_one l
 refine zT fun _ hK1=>rm rfl F fun _ F2=>hK1 _ _ (zSk fun _ hK3=>?_)
 refine zR (rm rfl F2 fun _ F4=>rm rfl F4 fun _ F5=>zh rfl rfl F5 rfl rfl (zE Tryz.func128 rfl) #[(zO g)] (zaa (F5.get rfl)) (roctet_any g l (u) hl w (M.blk (k:=0) rfl) (M.isb (k:=1) rfl) (fun hb=>M.dis 0 1 _ _ rfl rfl (by decide) rfl g rfl hb)) ?_)
 rintro _ w6 a6 ⟨rfl,u6,hu6,hs6,hc6,hg6⟩ F6
 have M6:=M.took0 (k:=0) (ku:=1) rfl hg6 hc6 2 hu6 hs6 rfl
 clear M hg6 hc6
 obtain ⟨A6u,c6u,rfl⟩:=hu6.shape
 clear hu6
 refine zh rfl rfl F6 rfl rfl (zE Tryz.func143 rfl) #[(zO g),zI ((zp (l.take 1):Nat):Int)] (zfa (F6.get rfl) (F6.get rfl)) (take_any g (l.drop 1) (.slice A6u ((l.drop 1)).length c6u) (zp (l.take 1)) (by simp only [List.length_drop];omega) (by omega) w6 (M6.blk (k:=0) rfl) (M6.isb (k:=2) rfl) (fun hb=>M6.dis 0 2 _ _ rfl rfl (by decide) rfl g rfl hb)) ?_
 rintro v7 w7 a7 ⟨u7,hv7,hu7,hs7,hc7,hg7⟩ F7
 have M7:=M6.took (k:=0) (ku:=2) rfl hg7 hc7 4 3 hv7 hu7 hs7 rfl rfl
 clear M6 hg7 hc7
 obtain ⟨A7u,c7u,rfl⟩:=hu7.shape
 clear hu7
 clear hv7
 obtain ⟨A7,c7,rfl⟩:=(M7.isO (k:=4) rfl).shape
 refine rm rfl F7 fun _ F8=>hK3 _ _ (wp_ret ?_)
 exact bodyPost_ret (res1 rfl (F8.get rfl)) F8.defers ⟨_,rfl,.slice A7u (((l.drop 1).drop (zp (l.take 1)))).length c7u,M7.bytG (k:=4) rfl (fun b e e2=>M7.dis 4 0 _ _ rfl rfl (by decide) rfl b e2 (by injection e with e;exact e.symm)),M7.isb (k:=3) rfl,fun b h=>(hs6 b (hs7 b h)),M7.blk (k:=0) rfl,M7.grown⟩
def zjc (l:List UInt8):Nat:=if l.length≤32 then zp l else 0
theorem lread_any (l:List UInt8) (v:Value) (hm:l.length≤100000) (w:World) (hv:IsB w l v):Calls Tryz.prog 144 #[v] w fun e w'=>e=.returned (.tuple #[numV (zjc l),.bool (decide (l.length≤32))])∧Below w.heap.size w w':=by
 obtain ⟨A,c,rfl,h1,h2,h3,h4⟩:=hv
 unfold zjc
 by_cases h:l.length≤32
 ·rw [if_pos h,decide_eq_true h]
  exact read_any A l l.length c rfl h h1 h2 w h4
 ·rw [if_neg h,decide_eq_false h]
  exact read_none A l.length c (by omega) (by omega) w
def ReIn (R:List (Nat×Res)):List (Nat×Res)→Prop
 | []=>True
 | p::L=>(∃ q,look R q=some p.2∧(p.2.wr=true→q=p.1))∧ReIn R L
theorem ReIn.at {R:List (Nat×Res)}:∀ {L:List (Nat×Res)},ReIn R L→∀ i r,look L i=some r→∃ q,look R q=some r∧(r.wr=true→q=i)
 | [],_,i,r,h=>by cases h
 | p::L,h,i,r,e=>by
  obtain ⟨k,x⟩:=p
  rw [zx] at e
  split at e
  ·rename_i hk
   cases e;subst hk;exact h.1
  ·exact h.2.at i r e
theorem numI_in (c:List UInt8):-9223372036854775808≤numI c∧numI c<9223372036854775808:=by
 unfold numI
 split
 ·rename_i h
  have:=(of_decide_eq_true h).2
  omega
 ·omega
theorem readO_lt (c:List UInt8):zjc c<4294967296^8:=by
 unfold zjc
 split
 ·rename_i h;exact readN_lt_num h
 ·exact Nat.pow_pos (by omega)
structure RecN where
 p:Int
 s:ByteArray
 l2:List UInt8
 a:Nat
 b:Nat
 l5:List UInt8
 t:Int
 c:Int
 z:Int
structure RecV where
 v2:Value
 v5:Value
def recA (r:RecN) (V:RecV):Array Value:=#[zI r.p,.string r.s,V.v2,numF r.a 0,numF r.a 1,numF r.a 2,numF r.a 3,numF r.a 4,numF r.a 5,numF r.a 6,numF r.a 7,numF r.b 0,numF r.b 1,numF r.b 2,numF r.b 3,numF r.b 4,numF r.b 5,numF r.b 6,numF r.b 7,V.v5,zI r.t,zI r.c,zI r.z]
structure RecIs (w:World) (r:RecN) (V:RecV):Prop where
 h2:IsB w r.l2 V.v2
 h5:IsB w r.l5 V.v5
structure RecOk (r:RecN):Prop where
 p:-9223372036854775808≤r.p∧r.p<9223372036854775808
 t:-9223372036854775808≤r.t∧r.t<9223372036854775808
 c:-9223372036854775808≤r.c∧r.c<9223372036854775808
 z:-9223372036854775808≤r.z∧r.z<9223372036854775808
 s:r.s.size≤1000
 a:r.a<4294967296^8
 b:r.b<4294967296^8
theorem z6a {w:World} {r:RecN} {V:RecV} (h:RecIs w r V):(recA r V).all (·.oneCell')=true:=by
 obtain ⟨v2,v5⟩:=V
 obtain ⟨A2,c2,rfl⟩:=h.h2.shape
 obtain ⟨A5,c5,rfl⟩:=h.h5.shape
 simp [recA,numF,Value.oneCell']
noncomputable def zga (r:RecN):Bool:=protoB r.p&&nameB r.s&&decide ((r.l2.length:Int)≤16)&&decide ((r.l5.length:Int)≤48)&&decide (topI r.a 8≤32)&&decide (topI r.b 8≤32)&&decide (0≤r.t)&&decide (r.t≤255)&&decide (0≤r.c)&&decide (0≤r.z)
theorem keeps_any (r:RecN) (V:RecV) (hs:r.s.size≤1000) (w:World) (hm:RecIs w r V):
  Calls Tryz.prog 72 #[.agg (recA r V)] w fun e w'=>e=.returned (.bool (zga r))∧Below w.heap.size w w':=by
 refine zk (args:=[.agg (recA r V)]) 55 Tryz.func72 rfl rfl rfl ?_
 intro fa F
 have M:=Mx.start w
 replace M:=M.argB 0 hm.h2 (fun g e=>by cases e)
 replace M:=M.argB 1 hm.h5 (fun g e=>by cases e)
 obtain ⟨bP,hP⟩:∃ b,protoB r.p=b:=⟨_,rfl⟩
 obtain ⟨bN,hN⟩:∃ b,nameB r.s=b:=⟨_,rfl⟩
 refine zT fun _ hK1=>zq rfl rfl F rfl M 2 (t:=37) (c:=recA r V) (by unfold execOp;simp only [(F 0 rfl)];kernel_rfl) ?_
 intro g2 a2 w2 F2 M2
 refine rm rfl F2 fun _ F3=>hK1 _ _ (zSk fun _ hK4=>?_)
 refine zR (zB 2 [(1,(zO g2)),(2,.bool false),(4,zI r.p)] [0] (zu (M2.blk (k:=2) rfl) dnil) [g2] F3 fun _ F5=>?_)
 refine zh rfl rfl F5 rfl rfl (zE Tryz.func100 rfl) #[zI r.p] (zaa (F5.get rfl)) (zba ((hP▸isProto_any r.p w2))) ?_
 rintro _ w6 a6 ⟨rfl,b6⟩ F6
 have M6:=M2.step b6
 refine rm rfl F6 fun _ F7=>?_
 cases bP
 ·refine zB 49 [(2,.bool false)] [] dnil [] F7 fun _ F8=>?_
  refine hK4 _ _ (wp_ret ?_)
  exact bodyPost_ret (res1 rfl (F8.get rfl)) F8.defers ⟨by rw [show zga r=false from by unfold zga;simp [hP,hN]],M6.below⟩
 refine zB 2 [(1,(zO g2)),(2,.bool false),(6,.bool true),(8,.string r.s)] [0] (zu (M6.blk (k:=2) rfl) dnil) [g2] F7 fun _ F9=>?_
 refine zh (zd rfl rfl rfl (F9.get rfl)) rfl F9 rfl rfl (zE Tryz.func101 rfl) #[.string r.s] (zaa (F9.get rfl)) (zba ((hN▸isname_any r.s hs w6))) ?_
 rintro _ w10 a10 ⟨rfl,b10⟩ F10
 have M10:=M6.step b10
 refine rn rfl rfl F10 rfl (.bool bN) (zpb rfl (F10.get rfl) (F10.get rfl)) fun _ F11=>?_
 refine rm rfl F11 fun _ F12=>?_
 cases bN
 ·refine zB 44 [(2,.bool false)] [] dnil [] F12 fun _ F13=>?_
  refine hK4 _ _ (wp_ret ?_)
  exact bodyPost_ret (res1 rfl (F13.get rfl)) F13.defers ⟨by rw [show zga r=false from by unfold zga;simp [hP,hN]],M10.below⟩
 refine zB 2 [(1,(zO g2)),(2,.bool false),(11,.bool true),(13,V.v2)] [0] (zu (M10.blk (k:=2) rfl) dnil) [g2] F12 fun _ F14=>?_
 refine zc (w':=w10) (zd rfl rfl rfl (F14.get rfl)) rfl F14 rfl (zI (r.l2.length:Int)) (z8a _ rfl (F14.get rfl) (M10.isb (k:=0) rfl) rfl) fun _ F15=>?_
 by_cases h16:(r.l2.length:Int)≤16
 rotate_left
 ·refine zc (w':=w10) (zd rfl rfl rfl (F15.get rfl)) rfl F15 rfl (.bool false) (y_leq _ _ _ _ rfl (F15.get rfl) rfl (decide_eq_false h16)) fun _ F57=>?_
  refine zB 40 [(2,.bool false)] [] dnil [] F57 fun _ F58=>?_
  refine hK4 _ _ (wp_ret ?_)
  exact bodyPost_ret (res1 rfl (F58.get rfl)) F58.defers ⟨by rw [show zga r=false from by unfold zga;simp [hP,hN,h16]],M10.below⟩
 refine zc (w':=w10) (zd rfl rfl rfl (F15.get rfl)) rfl F15 rfl (.bool true) (y_leq _ _ _ _ rfl (F15.get rfl) rfl (decide_eq_true h16)) fun _ F17=>?_
 refine zB 4 [(1,(zO g2)),(2,.bool false),(17,.bool true),(19,V.v5)] [0] (zu (M10.blk (k:=2) rfl) dnil) [g2] F17 fun _ F18=>?_
 refine zc (w':=w10) (zd rfl rfl rfl (F18.get rfl)) rfl F18 rfl (zI (r.l5.length:Int)) (z8a _ rfl (F18.get rfl) (M10.isb (k:=1) rfl) rfl) fun _ F19=>?_
 by_cases h20:(r.l5.length:Int)≤48
 rotate_left
 ·refine zc (w':=w10) (zd rfl rfl rfl (F19.get rfl)) rfl F19 rfl (.bool false) (y_leq _ _ _ _ rfl (F19.get rfl) rfl (decide_eq_false h20)) fun _ F55=>?_
  refine zB 34 [(2,.bool false)] [] dnil [] F55 fun _ F56=>?_
  refine hK4 _ _ (wp_ret ?_)
  exact bodyPost_ret (res1 rfl (F56.get rfl)) F56.defers ⟨by rw [show zga r=false from by unfold zga;simp [hP,hN,h16,h20]],M10.below⟩
 refine zc (w':=w10) (zd rfl rfl rfl (F19.get rfl)) rfl F19 rfl (.bool true) (y_leq _ _ _ _ rfl (F19.get rfl) rfl (decide_eq_true h20)) fun _ F21=>?_
 refine zB 4 [(1,(zO g2)),(2,.bool false),(23,.bool true),(25,numV r.a)] [0] (zu (M10.blk (k:=2) rfl) dnil) [g2] F21 fun _ F22=>?_
 refine zh (zd rfl rfl rfl (F22.get rfl)) rfl F22 rfl rfl (zE Tryz.func102 rfl) #[numV r.a] (zaa (F22.get rfl)) (zba (bits_any r.a w10)) ?_
 rintro _ w23 a23 ⟨rfl,b23⟩ F23
 have M23:=M10.step b23
 by_cases h24:(topI r.a 8)≤32
 rotate_left
 ·refine zc (w':=w23) (zd rfl rfl rfl (F23.get rfl)) rfl F23 rfl (.bool false) (y_leq _ _ _ _ rfl (F23.get rfl) rfl (decide_eq_false h24)) fun _ F53=>?_
  refine zB 28 [(2,.bool false)] [] dnil [] F53 fun _ F54=>?_
  refine hK4 _ _ (wp_ret ?_)
  exact bodyPost_ret (res1 rfl (F54.get rfl)) F54.defers ⟨by rw [show zga r=false from by unfold zga;simp [hP,hN,h16,h20,h24]],M23.below⟩
 refine zc (w':=w23) (zd rfl rfl rfl (F23.get rfl)) rfl F23 rfl (.bool true) (y_leq _ _ _ _ rfl (F23.get rfl) rfl (decide_eq_true h24)) fun _ F25=>?_
 refine zB 4 [(1,(zO g2)),(2,.bool false),(29,.bool true),(31,numV r.b)] [0] (zu (M23.blk (k:=2) rfl) dnil) [g2] F25 fun _ F26=>?_
 refine zh (zd rfl rfl rfl (F26.get rfl)) rfl F26 rfl rfl (zE Tryz.func102 rfl) #[numV r.b] (zaa (F26.get rfl)) (zba (bits_any r.b w23)) ?_
 rintro _ w27 a27 ⟨rfl,b27⟩ F27
 have M27:=M23.step b27
 by_cases h28:(topI r.b 8)≤32
 rotate_left
 ·refine zc (w':=w27) (zd rfl rfl rfl (F27.get rfl)) rfl F27 rfl (.bool false) (y_leq _ _ _ _ rfl (F27.get rfl) rfl (decide_eq_false h28)) fun _ F51=>?_
  refine zB 22 [(2,.bool false)] [] dnil [] F51 fun _ F52=>?_
  refine hK4 _ _ (wp_ret ?_)
  exact bodyPost_ret (res1 rfl (F52.get rfl)) F52.defers ⟨by rw [show zga r=false from by unfold zga;simp [hP,hN,h16,h20,h24,h28]],M27.below⟩
 refine zc (w':=w27) (zd rfl rfl rfl (F27.get rfl)) rfl F27 rfl (.bool true) (y_leq _ _ _ _ rfl (F27.get rfl) rfl (decide_eq_true h28)) fun _ F29=>?_
 refine zB 4 [(1,(zO g2)),(2,.bool false),(35,.bool true),(37,zI r.t)] [0] (zu (M27.blk (k:=2) rfl) dnil) [g2] F29 fun _ F30=>?_
 by_cases h31:0≤r.t
 rotate_left
 ·refine zc (w':=w27) (zd rfl rfl rfl (F30.get rfl)) rfl F30 rfl (.bool false) (y_geq _ _ _ _ rfl (F30.get rfl) rfl (decide_eq_false h31)) fun _ F49=>?_
  refine zB 17 [(2,.bool false)] [] dnil [] F49 fun _ F50=>?_
  refine hK4 _ _ (wp_ret ?_)
  exact bodyPost_ret (res1 rfl (F50.get rfl)) F50.defers ⟨by rw [show zga r=false from by unfold zga;simp [hP,hN,h16,h20,h24,h28,h31]],M27.below⟩
 refine zc (w':=w27) (zd rfl rfl rfl (F30.get rfl)) rfl F30 rfl (.bool true) (y_geq _ _ _ _ rfl (F30.get rfl) rfl (decide_eq_true h31)) fun _ F32=>?_
 refine zB 4 [(1,(zO g2)),(2,.bool false),(40,.bool true),(42,zI r.t)] [0] (zu (M27.blk (k:=2) rfl) dnil) [g2] F32 fun _ F33=>?_
 by_cases h34:r.t≤255
 rotate_left
 ·refine zc (w':=w27) (zd rfl rfl rfl (F33.get rfl)) rfl F33 rfl (.bool false) (y_leq _ _ _ _ rfl (F33.get rfl) rfl (decide_eq_false h34)) fun _ F47=>?_
  refine zB 12 [(2,.bool false)] [] dnil [] F47 fun _ F48=>?_
  refine hK4 _ _ (wp_ret ?_)
  exact bodyPost_ret (res1 rfl (F48.get rfl)) F48.defers ⟨by rw [show zga r=false from by unfold zga;simp [hP,hN,h16,h20,h24,h28,h31,h34]],M27.below⟩
 refine zc (w':=w27) (zd rfl rfl rfl (F33.get rfl)) rfl F33 rfl (.bool true) (y_leq _ _ _ _ rfl (F33.get rfl) rfl (decide_eq_true h34)) fun _ F35=>?_
 refine zB 4 [(1,(zO g2)),(2,.bool false),(45,.bool true),(47,zI r.c)] [0] (zu (M27.blk (k:=2) rfl) dnil) [g2] F35 fun _ F36=>?_
 by_cases h37:0≤r.c
 rotate_left
 ·refine zc (w':=w27) (zd rfl rfl rfl (F36.get rfl)) rfl F36 rfl (.bool false) (y_geq _ _ _ _ rfl (F36.get rfl) rfl (decide_eq_false h37)) fun _ F45=>?_
  refine zB 7 [(2,.bool false)] [] dnil [] F45 fun _ F46=>?_
  refine hK4 _ _ (wp_ret ?_)
  exact bodyPost_ret (res1 rfl (F46.get rfl)) F46.defers ⟨by rw [show zga r=false from by unfold zga;simp [hP,hN,h16,h20,h24,h28,h31,h34,h37]],M27.below⟩
 refine zc (w':=w27) (zd rfl rfl rfl (F36.get rfl)) rfl F36 rfl (.bool true) (y_geq _ _ _ _ rfl (F36.get rfl) rfl (decide_eq_true h37)) fun _ F38=>?_
 refine zB 4 [(2,.bool false),(50,.bool true),(52,zI r.z)] [0] (zu (M27.blk (k:=2) rfl) dnil) [g2] F38 fun _ F39=>?_
 by_cases h40:0≤r.z
 ·refine zc (w':=w27) (zd rfl rfl rfl (F39.get rfl)) rfl F39 rfl (.bool true) (y_geq _ _ _ _ rfl (F39.get rfl) rfl (decide_eq_true h40)) fun _ F41=>?_
  refine zB 2 [(2,.bool true)] [] dnil [] F41 fun _ F42=>?_
  refine hK4 _ _ (wp_ret ?_)
  exact bodyPost_ret (res1 rfl (F42.get rfl)) F42.defers ⟨by rw [show zga r=true from by unfold zga;simp [hP,hN,h16,h20,h24,h28,h31,h34,h37,h40]],M27.below⟩
 refine zc (w':=w27) (zd rfl rfl rfl (F39.get rfl)) rfl F39 rfl (.bool false) (y_geq _ _ _ _ rfl (F39.get rfl) rfl (decide_eq_false h40)) fun _ F43=>?_
 refine zB 2 [(2,.bool false)] [] dnil [] F43 fun _ F44=>?_
 refine hK4 _ _ (wp_ret ?_)
 exact bodyPost_ret (res1 rfl (F44.get rfl)) F44.defers ⟨by rw [show zga r=false from by unfold zga;simp [hP,hN,h16,h20,h24,h28,h31,h34,h37,h40]],M27.below⟩
end Go.Proofs.YtmjbnmbobocpdaaGreat
