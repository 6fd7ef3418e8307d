/- What VaultOwn stands on, part 2. -/
import Derived.Great.BuildSlice
import Derived.Deep.Upon
import Derived.Lib.Strings
import Derived.Deep.LoopGhost
import Derived.RangeFuncNested
import Derived.RangeFuncBound
import Derived.RangeFuncCalls
import Derived.RangeFuncLeaves
import Derived.Shelf.RegionOpen
import Derived.OwnWalkIn
import Derived.TacticsInMore
import Derived.LoopNIn
import Derived.LoopIn
import Derived.Test.YtmjbnmbobocpdaaGreatVaultOwnP1
set_option maxRecDepth 100000
set_option maxHeartbeats 8000000
set_option linter.unusedVariables false
set_option linter.unusedSimpArgs false
namespace Go.Proofs.YtmjbnmbobocpdaaGreat
open Go.ChangeShapes Go.WideShapes Go.ChangeAt Go.RowKit
section
open Go.Shelf
variable {ds:List Deferred}
def look {α:Type}:List (Nat×α)→Nat→Option α
 | [],_=>none
 | p::L,t=>match Nat.beq p.1 t with
  | true=>some p.2
  | false=>look L t
theorem zx {α:Type} (k:Nat) (x:α) (L:List (Nat×α)) (t:Nat):look ((k,x)::L) t=if k=t then some x else look L t:=by
 have e:look ((k,x)::L) t=(match Nat.beq k t with
  | true=>some x
  | false=>look L t):=rfl
 rw [e]
 by_cases h:k=t
 ·subst h
  rw [if_pos rfl,Nat.beq_refl]
 ·have:Nat.beq k t=false:=by cases hb:Nat.beq k t with
   | false=>rfl
   | true=>exact absurd (Nat.eq_of_beq_eq_true hb) h
  rw [if_neg h,this]
structure Fx (n:Nat) (a:Act) (V:List (Nat×Value)) (ds:List Deferred:=[]):Prop where
 size:a.tmps.size=n
 defers:a.defers=ds
 at_:∀ t v,look V t=some v→a.eval (.tmp t)=v
theorem Fx.get {n:Nat} {a:Act} {V:List (Nat×Value)} (F:Fx n a V ds) {t:Nat} {v:Value} (h:look V t=some v):a.eval (.tmp t)=v:=F.at_ t v h
theorem Fx.put {n:Nat} {a:Act} {V:List (Nat×Value)} (F:Fx n a V ds) (d:Nat) (v:Value) (hd:Nat.blt d n=true):Fx n (a.put (some d) v) ((d,v)::V) ds:=
 ⟨by rw [put_size];exact F.size,by rw [put_defers];exact F.defers,fun t u h=>by
  rw [zx] at h
  by_cases e:d=t
  ·subst e
   rw [if_pos rfl] at h
   rw [z7c (by rw [F.size];exact Nat.le_of_ble_eq_true hd)]
   exact Option.some.inj h
  ·rw [if_neg e] at h
   rw [zoc (fun e2=>e (Option.some.inj e2))]
   exact F.at_ t u h⟩
theorem Fx.eq {n:Nat} {a:Act} {V V':List (Nat×Value)} (F:Fx n a V ds) (h:∀ t v,look V' t=some v→look V t=some v):Fx n a V' ds:=⟨F.size,F.defers,fun t v e=>F.at_ t v (h t v e)⟩
theorem Fx.zero {vs:Array Value} {n m:Nat} (V:List (Nat×Value)) (hn:vs.size+m=n) (h:∀ t v,look V t=some v→vs[t]? = some v):Fx n { tmps:=vs++Array.replicate m undef,defers:=[] } V:=
 ⟨by simp [hn],rfl,fun t v e=>by
  have h1:=h t v e
  have hl:=(Array.getElem?_eq_some_iff.1 h1).1
  simp [Act.eval,Array.getD_eq_getD_getElem?,Array.getElem?_append_left hl,h1]⟩
def file:Nat→List Value→List (Nat×Value)
 | _,[]=>[]
 | k,v::L=>(k,v)::file (k+1) L
theorem look_file:∀ (L:List Value) (k t:Nat) (v:Value),look (file k L) t=some v→k≤t∧L[t-k]? = some v
 | [],k,t,v,h=>by cases h
 | u::L,k,t,v,h=>by
  unfold file at h
  rw [zx] at h
  by_cases e:k=t
  ·subst e
   rw [if_pos rfl] at h
   exact ⟨Nat.le_refl _,by rw [Nat.sub_self];simpa using h⟩
  ·rw [if_neg e] at h
   obtain ⟨h1,h2⟩:=look_file L (k+1) t v h
   exact ⟨by omega,by rw [show t-k=(t-(k+1))+1 by omega];simpa using h2⟩
section
variable {P:Program}
theorem zk {f:FuncId} {fn:Func} {c:Code} {args:List Value} {w:World} {R:Ending→World→Prop} (n:Nat) (hf:P.funcs[f]? = some fn) (hb:fn.body=some c) (hn:fn.ntmps=n) (hl:Nat.ble args.length n=true)
  (h:∀ a,Fx n a (file 0 args)→c.wp P (bodyPost P fn R) a w):Calls P f args.toArray w R:=by
 refine calls_of_wp hf hb (h _ ?_)
 have hl':args.length≤n:=Nat.le_of_ble_eq_true hl
 refine Fx.zero _ (by simp [hn];omega) fun t v e=>?_
 have:=(look_file args 0 t v e).2
 simpa using this
section
variable {ops:Array Oper} {Q:Exit→Act→World→Prop} {a:Act} {w w':World} {rest:List Oper} {o:Oper} {n:Nat} {V:List (Nat×Value)}
theorem zc (hw:Region.wanted o (yielded ops a.tmps)=true) {d:Nat} (hd:o.dst=some d) (F:Fx n a V ds) (hn:Nat.blt d n=true) (v:Value) (hr:(execOp a.eval o).run P w=.ok (.value v) w')
  (h:∀ a',Fx n a' ((d,v)::V) ds→wpList P ops Q rest a' w'):wpList P ops Q (o::rest) a w:=
 zed hw fun K hK=>by
  unfold Oper.wp
  rw [hr]
  have:=F.put d v hn
  rw [←hd] at this
  exact hK _ _ (h _ this)
theorem wl_do (hw:Region.wanted o (yielded ops a.tmps)=true) (hd:o.dst=none) (F:Fx n a V ds) (hr:(execOp a.eval o).run P w=.ok .skip w')
  (h:wpList P ops Q rest a w'):wpList P ops Q (o::rest) a w:=
 zed hw fun K hK=>by
  unfold Oper.wp
  rw [hr]
  have e:a.put o.dst undef=a:=by rw [hd];rfl
  show K (a.put o.dst undef) w'
  rw [e]
  exact hK _ _ h
theorem wl_skip (hw:Region.wanted o (yielded ops a.tmps)=false) {d:Nat} (hd:o.dst=some d) (F:Fx n a V ds) (hn:Nat.blt d n=true)
  (h:∀ a',Fx n a' ((d,undef)::V) ds→wpList P ops Q rest a' w):wpList P ops Q (o::rest) a w:=
 wpList_skip hw (by
  have:=F.put d undef hn
  rw [←hd] at this
  exact h _ this)
theorem wanted_no {ops:Array Oper} {g:Nat} {b:Bool} {og:Oper} {d:Tmp} (hg:o.guard=some (g,b)) (ho:ops[g]? = some og) (hd:og.dst=some d) (hv:a.eval (.tmp d)=.bool (!b)):Region.wanted o (yielded ops a.tmps)=false:=by
 rw [wanted_by hg ho hd hv];cases b <;> rfl
theorem wanted_un {ops:Array Oper} {g:Nat} {b:Bool} {og:Oper} {d:Tmp} (hg:o.guard=some (g,b)) (ho:ops[g]? = some og) (hd:og.dst=some d) (hv:a.eval (.tmp d)=undef):Region.wanted o (yielded ops a.tmps)=false:=by
 have h1:yielded ops a.tmps g=none:=by
  simp only [yielded,ho,Option.bind_some,hd]
  simp only [Act.eval,Array.getD_eq_getD_getElem?] at hv
  cases h:a.tmps[d]? with
  | none=>simp [h]
  | some u=>rw [h] at hv;simp at hv;subst hv;simp [h,undef]
 simp [Region.wanted,hg,h1]
theorem zh (hw:Region.wanted o (yielded ops a.tmps)=true) {d:Nat} (hd:o.dst=some d) (F:Fx n a V ds) (hn:Nat.blt d n=true) {f:FuncId} {args:Array Operand} {ts:Array TypeId} (ho:o.op=.call { callee:=.value (.func f),args:=args,argTypes:=ts })
  (hr:∀ args w,(callFunc f args).run P w=.ok (.enter f args) w) (vals:Array Value) (hv:args.map a.eval=vals) {G:Value→World→Prop}
  (hc:Calls P f vals w fun e w'=>∃ v,e=.returned v∧G v w')
  (h:∀ v w' a',G v w'→Fx n a' ((d,v)::V) ds→wpList P ops Q rest a' w'):wpList P ops Q (o::rest) a w:=
 zed hw fun K hK=>by
  subst hv
  unfold Oper.wp
  have:(execOp a.eval o).run P w=.ok (.enter f (args.map a.eval)) w:=by
   simp [execOp,ho,resolve,invoke,Act.eval,go_sem,hr]
  rw [this]
  refine hc.mono fun e w' ⟨v,he,hb⟩=>?_
  subst he
  have:=F.put d v hn
  rw [←hd] at this
  exact hK _ _ (h _ _ _ hb this)
end
theorem res1 {fn:Func} {t:Tmp} {a:Act} {v:Value} {w:World} (h:fn.results=#[.tmp t]) (e:a.eval (.tmp t)=v):(results fn a.tmps).run P w=.ok v w:=by
 rw [results_tmp h];exact congrArg (fun v=>Result.ok v w) e
theorem res0 {fn:Func} {a:Act} {w:World} (h:fn.results=#[]):(results fn a.tmps).run P w=.ok (.tuple #[]) w:=results_none h _ _ _
theorem res2 {fn:Func} {t u:Tmp} {a:Act} {v x:Value} {w:World} (h:fn.results=#[.tmp t,.tmp u]) (e:a.eval (.tmp t)=v) (e2:a.eval (.tmp u)=x):(results fn a.tmps).run P w=.ok (.tuple #[v,x]) w:=by
 rw [results_tmp2 h,←e,←e2];rfl
def layV (p:Nat→Value):List Oper→Nat→List (Nat×Value)→List (Nat×Value)
 | [],_,V=>V
 | o::l,k,V=>match o.dst with
  | some d=>layV p l (k+1) ((d,p k)::V)
  | none=>layV p l (k+1) V
theorem Fx.lay (p:Nat→Value) {n:Nat}:∀ (l:List Oper) (k:Nat) (a:Act) (V:List (Nat×Value)),Fx n a V ds→(∀ (i:Nat) (o:Oper) (d:Nat),l[i]? = some o→o.dst=some d→d<n)→Fx n (z8b p l k a) (layV p l k V) ds
 | [],_,_,_,F,_=>F
 | o::l,k,a,V,F,h=>by
  have h0:=h 0 o
  cases ho:o.dst with
  | none=>
   have e:z8b p (o::l) k a=z8b p l (k+1) a:=by simp only [z8b,ho];rfl
   rw [e]
   unfold layV
   rw [ho]
   exact Fx.lay p l (k+1) a V F fun i o' d h1 h2=>h (i+1) o' d (by simpa using h1) h2
  | some d=>
   have e:z8b p (o::l) k a=z8b p l (k+1) (a.put (some d) (p k)):=by simp only [z8b,ho]
   rw [e]
   unfold layV
   rw [ho]
   exact Fx.lay p l (k+1) _ _ (F.put d (p k) (by have:=h0 d rfl ho;simp [Nat.blt];omega)) fun i o' d h1 h2=>h (i+1) o' d (by simpa using h1) h2
theorem relOkT_dst {L:List Oper} {m n:Nat} (hok:relOkT L m n=true):∀ (i:Nat) (o:Oper) (d:Nat),(L.take m)[i]? = some o→o.dst=some d→d<n:=by
 unfold relOkT at hok
 simp only [Bool.and_eq_true,List.all_eq_true] at hok
 obtain ⟨⟨⟨⟨-,-⟩,hall⟩,-⟩,-⟩:=hok
 intro i o d ho hd
 have hi:i<m:=by
  rw [List.getElem?_take] at ho
  split at ho
  ·assumption
  ·cases ho
 have h1:=hall i (List.mem_range.2 hi)
 simp only [ho,hd,Bool.and_eq_true,decide_eq_true_eq] at h1
 exact h1.1.1
theorem z4a {id:Nat} {Q:Exit→Act→World→Prop} {a0:Act} {W:World} {L:List Oper} {n:Nat} {V:List (Nat×Value)} (F:Fx n a0 V ds) (S:List StK) (m:Nat) (hm:P.follows .mixedOrders=true) (hok:relOkT L m n=true)
  (hop:HopAllT P L m Q (stYK S) a0 W (L.take m) 0)
  (hend:∀ (p:Nat→Value) (a:Act) (w:World),Kc W.heap.size W w→Fx n a (layV p (L.take m) 0 V) ds→YAll (stYK S) p w (L.take m) 0→wpList P L.toArray Q (L.drop m) a w):(Code.region id L.toArray true).wp P Q a0 W:=
 wp_region_stT S m n F.size hm hok hop fun p w hb hY=>hend p _ w (by exact Kc.of_below (Nat.le_refl _) hb) (F.lay p (L.take m) 0 a0 V (relOkT_dst hok)) hY
end
structure Res where
 wr:Bool
 fp:Nat→Prop
 F:World→Prop
structure Same (fp:Nat→Prop) (w w':World):Prop where
 at_:∀ (g:Nat) (o:Obj),fp g→w.heap[g]? = some o→w'.heap[g]? = some o
 size:w.heap.size≤w'.heap.size
instance {fp:Nat→Prop} {w w':World}:CoeFun (Same fp w w') fun _=>∀ (g:Nat) (o:Obj),fp g→w.heap[g]? = some o→w'.heap[g]? = some o:=⟨Same.at_⟩
structure Mx (G:Option Nat) (w0 w:World) (R:List (Nat×Res)):Prop where
 grown:w0.grownBy w G
 at_:∀ i r,look R i=some r→r.F w
 dep:∀ i r,look R i=some r→∀ u u',Same r.fp u u'→r.F u→r.F u'
 lt:∀ i r,look R i=some r→∀ g,r.fp g→g<w.heap.size
 own:∀ i r,look R i=some r→r.wr=true→∀ g,r.fp g→w0.heap.size≤g∨G=some g
 dis:∀ i j r s,look R i=some r→look R j=some s→i≠j→r.wr=true→∀ g,r.fp g→¬s.fp g
section
variable {G:Option Nat} {w0 w w':World} {R:List (Nat×Res)}
theorem Same.of_below {fp:Nat→Prop} (h:Below w.heap.size w w'):Same fp w w':=⟨fun g o _ hg=>(h.block g (Array.getElem?_eq_some_iff.1 hg).1).trans hg,h.size⟩
theorem Same.of_grown {fp:Nat→Prop} {row:Option Nat} (h:w.grownBy w' row) (hn:∀ g,fp g→row≠some g):Same fp w w':=⟨fun g o hf hg=>(h.block g (Array.getElem?_eq_some_iff.1 hg).1 (fun e=>hn g hf e.symm)).trans hg,h.size⟩
theorem Mx.start (w:World):Mx none w w []:=
 ⟨World.grownBy.refl _ _,fun _ _ h=>(by cases h),fun _ _ h=>(by cases h),fun _ _ h=>(by cases h),fun _ _ h=>(by cases h),fun _ _ _ _ h=>(by cases h)⟩
theorem Mx.startG (w:World) (g:Nat):Mx (some g) w w []:=
 ⟨World.grownBy.refl _ _,fun _ _ h=>(by cases h),fun _ _ h=>(by cases h),fun _ _ h=>(by cases h),fun _ _ h=>(by cases h),fun _ _ _ _ h=>(by cases h)⟩
theorem Mx.get (M:Mx G w0 w R) {i:Nat} {r:Res} (h:look R i=some r):r.F w:=M.at_ i r h
theorem Mx.le (M:Mx G w0 w R):w0.heap.size≤w.heap.size:=M.grown.size
theorem Mx.below (M:Mx none w0 w R):Below w0.heap.size w0 w:=⟨M.grown.os,M.grown.tape,M.grown.output,M.grown.size,fun k hk=>M.grown.block k hk (fun e=>by cases e)⟩
theorem Mx.step (M:Mx G w0 w R) (h:Below w.heap.size w w'):Mx G w0 w' R:=
 ⟨World.grownBy.trans M.grown ⟨h.os,h.tape,h.output,h.size,fun k hk _=>h.block k hk⟩,fun i r e=>M.dep i r e w w' (.of_below h) (M.at_ i r e),M.dep,fun i r e g hg=>Nat.lt_of_lt_of_le (M.lt i r e g hg) h.size,M.own,M.dis⟩
theorem Mx.kc (M:Mx G w0 w R) (h:Kc w.heap.size w w'):Mx G w0 w' R:=M.step h.below
theorem Mx.drop (M:Mx G w0 w R) {R':List (Nat×Res)} (h:∀ i r,look R' i=some r→look R i=some r):Mx G w0 w R':=
 ⟨M.grown,fun i r e=>M.at_ i r (h i r e),fun i r e=>M.dep i r (h i r e),fun i r e=>M.lt i r (h i r e),fun i r e=>M.own i r (h i r e),fun i j r s e1 e2=>M.dis i j r s (h i r e1) (h j s e2)⟩
theorem Mx.cons (M:Mx G w0 w R) (i:Nat) (r:Res) (hF:r.F w) (hdep:∀ u u',Same r.fp u u'→r.F u→r.F u') (hlt:∀ g,r.fp g→g<w.heap.size) (hown:r.wr=true→∀ g,r.fp g→w0.heap.size≤g∨G=some g)
  (hdis:∀ k s,look R k=some s→i≠k→(r.wr=true∨s.wr=true)→∀ g,r.fp g→¬s.fp g):Mx G w0 w ((i,r)::R):=by
 refine ⟨M.grown,fun j s e=>?_,fun j s e=>?_,fun j s e=>?_,fun j s e=>?_,fun j k s t e1 e2 hjk hs g hg hg2=>?_⟩
 ·rw [zx] at e;split at e
  ·cases e;exact hF
  ·exact M.at_ j s e
 ·rw [zx] at e;split at e
  ·cases e;exact hdep
  ·exact M.dep j s e
 ·rw [zx] at e;split at e
  ·cases e;exact hlt
  ·exact M.lt j s e
 ·rw [zx] at e;split at e
  ·cases e;exact hown
  ·exact M.own j s e
 ·rw [zx] at e1 e2
  by_cases h1:i=j
  ·rw [if_pos h1] at e1;cases e1
   rw [if_neg (fun e=>hjk (h1.symm.trans e))] at e2
   exact hdis k t e2 (fun e=>hjk (h1.symm.trans e)) (.inl hs) g hg hg2
  ·rw [if_neg h1] at e1
   by_cases h2:i=k
   ·rw [if_pos h2] at e2;cases e2
    exact hdis j s e1 h1 (.inr hs) g hg2 hg
   ·rw [if_neg h2] at e2
    exact M.dis j k s t e1 e2 hjk hs g hg hg2
theorem Mx.fresh (M:Mx G w0 w R) (h:Below w.heap.size w w') (i:Nat) (r:Res) (hF:r.F w') (hdep:∀ u u',Same r.fp u u'→r.F u→r.F u') (hlo:∀ g,r.fp g→w.heap.size≤g∧g<w'.heap.size):Mx G w0 w' ((i,r)::R):=
 (M.step h).cons i r hF hdep (fun g hg=>(hlo g hg).2) (fun _ g hg=>.inl (Nat.le_trans M.le (hlo g hg).1)) fun k s e _ _ g hg hg2=>by
  have:=M.lt k s e g hg2
  have:=(hlo g hg).1
  omega
theorem Mx.arg (M:Mx G w0 w R) (i:Nat) (r:Res) (hF:r.F w) (hdep:∀ u u',Same r.fp u u'→r.F u→r.F u') (hw:r.wr=false) (hlo:∀ g,r.fp g→g<w0.heap.size∧G≠some g):Mx G w0 w ((i,r)::R):=
 M.cons i r hF hdep (fun g hg=>Nat.lt_of_lt_of_le (hlo g hg).1 M.le) (fun e=>by rw [hw] at e;cases e) fun k s e _ hh g hg hg2=>by
  rcases hh with hh | hh
  ·rw [hw] at hh;cases hh
  ·rcases M.own k s e hh g hg2 with h | h
   ·have:=(hlo g hg).1;omega
   ·exact (hlo g hg).2 h
theorem Mx.part (M:Mx G w0 w R) (i:Nat) (r:Res) (hF:r.F w) (hdep:∀ u u',Same r.fp u u'→r.F u→r.F u') (hw:r.wr=false) {k:Nat} {s:Res} (hk:look R k=some s) (hs:s.wr=false) (hlo:∀ g,r.fp g→s.fp g):Mx G w0 w ((i,r)::R):=
 M.cons i r hF hdep (fun g hg=>M.lt k s hk g (hlo g hg)) (fun e=>by rw [hw] at e;cases e) fun q t e _ hh g hg hg2=>by
  rcases hh with hh | hh
  ·rw [hw] at hh;cases hh
  ·exact M.dis q k t s e hk (fun e2=>by subst e2;rw [e] at hk;cases hk;rw [hs] at hh;cases hh) hh g hg2 (hlo g hg)
theorem Mx.write (M:Mx G w0 w R) {k:Nat} {s:Res} (hk:look R k=some s) (hs:s.wr=true) {row:Option Nat} (hb:w.grownBy w' row) (hrow:∀ g,row=some g→s.fp g) (r:Res) (hF:r.F w') (hdep:∀ u u',Same r.fp u u'→r.F u→r.F u')
  (hlo:∀ g,r.fp g→g<w'.heap.size∧(s.fp g∨w.heap.size≤g)):Mx G w0 w' ((k,r)::R):=by
 have hG:w0.grownBy w' G:=by
  refine ⟨hb.os.trans M.grown.os,hb.tape.trans M.grown.tape,hb.output.trans M.grown.output,Nat.le_trans M.grown.size hb.size,fun q hq hn=>?_⟩
  refine (hb.block q (Nat.lt_of_lt_of_le hq M.le) (fun e=>?_)).trans (M.grown.block q hq hn)
  rcases M.own k s hk hs q (hrow q e.symm) with h | h
  ·omega
  ·exact hn h.symm
 have keep:∀ j t,look R j=some t→k≠j→Same t.fp w w':=fun j t e hkj=>.of_grown hb fun g hg e2=>M.dis k j s t hk e hkj hs g (hrow g e2) hg
 refine ⟨hG,fun j t e=>?_,fun j t e=>?_,fun j t e=>?_,fun j t e ht g hg=>?_,fun j q t u e1 e2 hjq ht g hg hg2=>?_⟩
 ·rw [zx] at e;split at e
  ·cases e;exact hF
  ·rename_i hne;exact M.dep j t e w w' (keep j t e hne) (M.at_ j t e)
 ·rw [zx] at e;split at e
  ·cases e;exact hdep
  ·exact M.dep j t e
 ·rw [zx] at e;split at e
  ·cases e;exact fun g hg=>(hlo g hg).1
  ·exact fun g hg=>Nat.lt_of_lt_of_le (M.lt j t e g hg) hb.size
 ·rw [zx] at e;split at e
  ·cases e
   rcases (hlo g hg).2 with h | h
   ·exact M.own k s hk hs g h
   ·exact .inl (Nat.le_trans M.le h)
  ·exact M.own j t e ht g hg
 ·rw [zx] at e1 e2
  by_cases h1:k=j
  ·rw [if_pos h1] at e1;cases e1
   have hkq:k≠q:=fun e=>hjq (h1.symm.trans e)
   rw [if_neg hkq] at e2
   rcases (hlo g hg).2 with h | h
   ·exact M.dis k q s u hk e2 hkq hs g h hg2
   ·have:=M.lt q u e2 g hg2;omega
  ·rw [if_neg h1] at e1
   by_cases h2:k=q
   ·rw [if_pos h2] at e2;cases e2
    rcases (hlo g hg2).2 with h | h
    ·exact M.dis k j s t hk e1 h1 hs g h hg
    ·have:=M.lt j t e1 g hg;omega
   ·rw [if_neg h2] at e2
    exact M.dis j q t u e1 e2 hjq ht g hg hg2
end
def blkR (g:Nat) (t:TypeId) (c:Array Value):Res:=⟨true,fun b=>b=g,fun w=>w.heap[g]? = some (.cells c t (0,0))⟩
def blkO (g:Nat) (t:TypeId) (c:Array Value):Res:=⟨false,fun b=>b=g,fun w=>w.heap[g]? = some (.cells c t (0,0))⟩
theorem z9c {g:Nat} {t:TypeId} {c:Array Value}:∀ u u',Same (blkR g t c).fp u u'→(blkR g t c).F u→(blkR g t c).F u':=fun u u' hs h=>hs g _ rfl h
section
variable {G:Option Nat} {w0 w w':World} {R:List (Nat×Res)}
theorem Mx.alloc (M:Mx G w0 w R) (i:Nat) (t:TypeId) (c:Array Value):Mx G w0 (w.alloc (.cells c t)) ((i,blkR w.heap.size t c)::R):=
 M.fresh (zqa w _) i _ (heap_alloc_new _ _) z9c (fun g hg=>by cases hg;exact ⟨Nat.le_refl _,by simp⟩)
theorem Mx.newb (M:Mx G w0 w R) (h:Below w.heap.size w w') (i:Nat) {g:Nat} {t:TypeId} {c:Array Value} (hg:w.heap.size≤g) (hc:w'.heap[g]? = some (.cells c t (0,0))):Mx G w0 w' ((i,blkR g t c)::R):=
 M.fresh h i _ hc z9c (fun b hb=>by cases hb;exact ⟨hg,z2a hc⟩)
theorem Mx.theG {g:Nat} {t:TypeId} {c:Array Value} (h:w.heap[g]? = some (.cells c t (0,0))) (i:Nat):Mx (some g) w w [(i,blkR g t c)]:=
 (Mx.startG w g).cons i _ h z9c (fun b hb=>by cases hb;exact z2a h) (fun _ b hb=>by cases hb;exact .inr rfl) fun k s e=>by cases e
theorem Mx.put (M:Mx G w0 w R) {k g:Nat} {t:TypeId} {c c':Array Value} (hk:look R k=some (blkR g t c)) (hg:w.grownBy w' (some g)) (hc:w'.heap[g]? = some (.cells c' t (0,0))):Mx G w0 w' ((k,blkR g t c')::R):=
 M.write hk rfl hg (fun b hb=>by cases hb;rfl) _ hc z9c (fun b hb=>by cases hb;exact ⟨z2a hc,.inl rfl⟩)
theorem Mx.blk (M:Mx G w0 w R) {k g:Nat} {t:TypeId} {c:Array Value} (hk:look R k=some (blkR g t c)):w.heap[g]? = some (.cells c t (0,0)):=M.at_ k _ hk
theorem Mx.roB (M:Mx G w0 w R) {k g:Nat} {t:TypeId} {c:Array Value} (hk:look R k=some (blkO g t c)):w.heap[g]? = some (.cells c t (0,0)):=M.at_ k _ hk
end
section
variable {P:Program} {a:Act} {w:World} {o:Oper}
theorem y_cell {g k:Nat} {t:TypeId} {c:Array Value} (h:w.heap[g]? = some (.cells c t (0,0))) {v:Value} (hk:c[k]? = some v):w.cell? ⟨g,k,none⟩=some v:=by simp [World.cell?,h,hk]
def yPlain:TypeDesc→Bool
 | .struct _=>false
 | .array _ _=>false
 | _=>true
theorem zda (ty:TypeId) (x:Operand) (ho:o.op=.load ty x) {g k:Nat} (hx:a.eval x=.pointer (some ⟨g,k,none⟩)) {t:TypeId} {c:Array Value} (hg:w.heap[g]? = some (.cells c t (0,0))) {v:Value} (hv:c[k]? = some v) {d:TypeDesc} (hu:P.underlying ty=some d) (hd:yPlain d=true):(execOp a.eval o).run P w=.ok (.value v) w:=by
 have hc:=y_cell hg hv
 have h1:(isAgg ty).run P w=.ok false w:=by
  unfold isAgg
  simp only [Sem.run_bind,run_underlying hu,Result.andThen_ok]
  cases d <;> first | rfl | cases hd
 unfold execOp
 simp only [ho,hx,Instr.loadAt,Instr.sureAddr,loadVar,Sem.run_bind,Sem.run_pure,Result.andThen_ok,h1,Bool.false_eq_true,if_false]
 simp [hc,Result.andThen]
theorem zjb (ty:TypeId) (x:Operand) (ho:o.op=.load ty x) {g k:Nat} (hx:a.eval x=.pointer (some ⟨g,k,none⟩)) {t:TypeId} {c:Array Value} (hg:w.heap[g]? = some (.cells c t (0,0))) (s:Array Value) (hs:∀ (j:Nat) (v:Value),s[j]? = some v→c[k+j]? = some v) {d:TypeDesc} (hu:P.underlying ty=some d)
  (hd:yPlain d=false) (hi:(P.info? ty).map (·.size)=some s.size):(execOp a.eval o).run P w=.ok (.value (.agg s)) w:=by
 have hl:(loadCells ⟨g,k,none⟩ s.toList.length).run P w=.ok s.toList.toArray w:=
  run_loadCells_list (P:=P) w ⟨g,k,none⟩ s.toList (fun j v hv=>by
   have hadd:(⟨g,k,none⟩:Addr).add j=⟨g,k+j,none⟩:=by unfold Addr.add;split <;> simp_all
   rw [hadd]
   exact y_cell hg (hs j v (by simpa using hv)))
 have hrun:(Instr.loadAt ty (.pointer (some ⟨g,k,none⟩))).run P w=.ok (.agg s) w:=by
  simp only [Instr.loadAt,Instr.sureAddr,Sem.run_bind,Sem.run_pure,Result.andThen_ok]
  cases hq:P.info? ty with
  | none=>simp [hq] at hi
  | some i=>
   have hz:i.size=s.size:=by simpa [hq] using hi
   have hagg:(isAgg ty).run P w=.ok true w:=by
    unfold isAgg
    rw [Sem.run_bind,run_underlying hu w]
    cases d <;> first | rfl | cases hd
   simp only [Array.length_toList,Array.toArray_toList] at hl
   simp [loadVar,Sem.run_bind,hagg,sizeOf,typeInfo,hq,hz,hl]
 unfold execOp
 simp only [ho,hx,Sem.run_bind,hrun,Result.andThen_ok,Sem.run_pure]
theorem znb {s c:Array Value} (h:s=c):∀ (j:Nat) (v:Value),s[j]? = some v→c[0+j]? = some v:=fun j v e=>by rw [Nat.zero_add,←h];exact e
theorem y_st (ty:TypeId) (x y:Operand) (ho:o.op=.store ty x y) {g k:Nat} (hx:a.eval x=.pointer (some ⟨g,k,none⟩)) {v:Value} (hy:a.eval y=v) {t:TypeId} {c:Array Value} (hg:w.heap[g]? = some (.cells c t (0,0))) (s c':Array Value) (hv:v.cells=s) (hos:k+s.size≤c.size) (h1:s.all (·.oneCell')=true) (hc':(c.toList.take k++s.toList++c.toList.drop (k+s.size)).toArray=c')
  (hi:(P.info? ty).map (·.size)=some s.size):(execOp a.eval o).run P w=.ok .skip (w.setRow g c'):=by
 have hrun:(Instr.storeAt ty (.pointer (some ⟨g,k,none⟩)) v).run P w=.ok () (w.setRow g c'):=by
  simp only [Instr.storeAt,Instr.sureAddr,Sem.run_bind,Sem.run_pure,Result.andThen_ok]
  have:=run_storeCells_at (P:=P) g k t s.toList 0 c w hg (by simpa using hos) (fun v hv=>(Array.all_eq_true_iff_forall_mem.1 h1) v (by simpa using hv))
  simp only [Nat.add_zero,Array.length_toList] at this
  rw [hc'] at this
  cases hq:P.info? ty with
  | none=>simp [hq] at hi
  | some i=>
   have hz:i.size=s.size:=by simpa [hq] using hi
   simp [storeVar,Sem.run_bind,sizeOf,typeInfo,hq,hz,hv,this]
 unfold execOp
 simp only [ho,hx,hy,Sem.run_bind,hrun,Result.andThen_ok,Sem.run_pure]
end
section
variable {P:Program} {ops:Array Oper} {Q:Exit→Act→World→Prop} {a:Act} {w w0:World} {rest:List Oper} {o:Oper} {n:Nat} {G:Option Nat} {V:List (Nat×Value)} {R:List (Nat×Res)}
theorem zq (hw:Region.wanted o (yielded ops a.tmps)=true) {d:Nat} (hd:o.dst=some d) (F:Fx n a V ds) (hn:Nat.blt d n=true) (M:Mx G w0 w R) (i:Nat) {t:TypeId} {c:Array Value} (hr:(execOp a.eval o).run P w=.ok (.value (.pointer (some ⟨w.heap.size,0,none⟩))) (w.alloc (.cells c t)))
  (h:∀ g a' w',Fx n a' ((d,.pointer (some ⟨g,0,none⟩))::V) ds→Mx G w0 w' ((i,blkR g t c)::R)→wpList P ops Q rest a' w'):wpList P ops Q (o::rest) a w:=
 zc hw hd F hn _ hr fun a' F'=>h _ a' _ F' (M.alloc i t c)
theorem zt (hw:Region.wanted o (yielded ops a.tmps)=true) (hd:o.dst=none) (F:Fx n a V ds) (M:Mx G w0 w R) {k g off:Nat} {t:TypeId} {c:Array Value} (hk:look R k=some (blkR g t c)) (ty:TypeId) (x y:Operand) (ho:o.op=.store ty x y) (hx:a.eval x=.pointer (some ⟨g,off,none⟩)) {v:Value} (hy:a.eval y=v)
  (s c':Array Value) (hv:v.cells=s) (hos:off+s.size≤c.size) (h1:s.all (·.oneCell')=true) (hc':(c.toList.take off++s.toList++c.toList.drop (off+s.size)).toArray=c') (hi:(P.info? ty).map (·.size)=some s.size)
  (h:∀ w',Mx G w0 w' ((k,blkR g t c')::R)→wpList P ops Q rest a w'):wpList P ops Q (o::rest) a w:=
 wl_do hw hd F (y_st ty x y ho hx hy (M.blk hk) s c' hv hos h1 hc' hi) (h _ (M.put hk (z1b _ _ _) (setRow_heap w g c c' t (0,0) (M.blk hk))))
end
theorem zca {c s:Array Value} (h:c.size=s.size):(c.toList.take 0++s.toList++c.toList.drop (0+s.size)).toArray=s:=by
 apply Array.ext'
 simp [h]
section
variable {a:Act} {w:World} {o:Oper}
theorem y_ext {P:Program} (x:Operand) (i:Nat) (ho:o.op=.extract x i) {vs:Array Value} (hx:a.eval x=.tuple vs) {v:Value} (hv:vs[i]? = some v):(execOp a.eval o).run P w=.ok (.value v) w:=by
 unfold execOp
 simp only [ho,hx,Instr.extract,hv]
 rfl
end
theorem args0 {f:Operand→Value}:(#[]:Array Operand).map f=#[]:=by simp
theorem zaa {f:Operand→Value} {x1:Operand} {v1:Value} (h1:f x1=v1):#[x1].map f=#[v1]:=by subst h1;simp
theorem zfa {f:Operand→Value} {x1 x2:Operand} {v1 v2:Value} (h1:f x1=v1) (h2:f x2=v2):#[x1,x2].map f=#[v1,v2]:=by subst h1 h2;simp
theorem args3 {f:Operand→Value} {x1 x2 x3:Operand} {v1 v2 v3:Value} (h1:f x1=v1) (h2:f x2=v2) (h3:f x3=v3):#[x1,x2,x3].map f=#[v1,v2,v3]:=by subst h1 h2 h3;simp
theorem args4 {f:Operand→Value} {x1 x2 x3 x4:Operand} {v1 v2 v3 v4:Value} (h1:f x1=v1) (h2:f x2=v2) (h3:f x3=v3) (h4:f x4=v4):#[x1,x2,x3,x4].map f=#[v1,v2,v3,v4]:=by subst h1 h2 h3 h4;simp
theorem args5 {f:Operand→Value} {x1 x2 x3 x4 x5:Operand} {v1 v2 v3 v4 v5:Value} (h1:f x1=v1) (h2:f x2=v2) (h3:f x3=v3) (h4:f x4=v4) (h5:f x5=v5):#[x1,x2,x3,x4,x5].map f=#[v1,v2,v3,v4,v5]:=by subst h1 h2 h3 h4 h5;simp
theorem zba {P:Program} {f:FuncId} {args:Array Value} {w:World} {v:Value} {G:World→Prop} (h:Calls P f args w fun e w'=>e=.returned v∧G w'):Calls P f args w fun e w'=>∃ u,e=.returned u∧(u=v∧G w'):=
 h.mono fun e w' h=>⟨v,h.1,rfl,h.2⟩
section
variable {a:Act} {w:World} {o:Oper} {k:IntKind} {p q:Int} {b:Bool} (ty tz:TypeId) (x y:Operand)
theorem zka (ho:o.op=.binOp .lss ty x y tz) (hx:a.eval x=.int k p) (hy:a.eval y=.int k q) (hb:decide (p<q)=b):(execOp a.eval o).run Tryz.prog w=.ok (.value (.bool b)) w:=by
 subst hb;unfold execOp;simp only [ho,hx,hy];simp [go_sem]
theorem y_leq (ho:o.op=.binOp .leq ty x y tz) (hx:a.eval x=.int k p) (hy:a.eval y=.int k q) (hb:decide (p≤q)=b):(execOp a.eval o).run Tryz.prog w=.ok (.value (.bool b)) w:=by
 subst hb;unfold execOp;simp only [ho,hx,hy];simp [go_sem]
theorem zbc (ho:o.op=.binOp .gtr ty x y tz) (hx:a.eval x=.int k p) (hy:a.eval y=.int k q) (hb:decide (q<p)=b):(execOp a.eval o).run Tryz.prog w=.ok (.value (.bool b)) w:=by
 subst hb;unfold execOp;simp only [ho,hx,hy];simp [go_sem]
theorem y_geq (ho:o.op=.binOp .geq ty x y tz) (hx:a.eval x=.int k p) (hy:a.eval y=.int k q) (hb:decide (q≤p)=b):(execOp a.eval o).run Tryz.prog w=.ok (.value (.bool b)) w:=by
 subst hb;unfold execOp;simp only [ho,hx,hy];simp [go_sem]
theorem y_eqB {p q:Bool} (ho:o.op=.binOp .eql 4 x y 4) (hx:a.eval x=.bool p) (hy:a.eval y=.bool q) (hb:(p==q)=b):(execOp a.eval o).run Tryz.prog w=.ok (.value (.bool b)) w:=by
 subst hb;unfold execOp;simp only [ho,hx,hy];simp [go_sem]
theorem y_neB {p q:Bool} (ho:o.op=.binOp .neq 4 x y 4) (hx:a.eval x=.bool p) (hy:a.eval y=.bool q) (hb:(p != q)=b):(execOp a.eval o).run Tryz.prog w=.ok (.value (.bool b)) w:=by
 subst hb;unfold execOp;simp only [ho,hx,hy];simp [go_sem];cases p <;> cases q <;> rfl
theorem zza (ho:o.op=.binOp .eql ty x y tz) (hx:a.eval x=.int k p) (hy:a.eval y=.int k q) (hu:Tryz.prog.underlying ty=some (.int k)) (hb:(p==q)=b):(execOp a.eval o).run Tryz.prog w=.ok (.value (.bool b)) w:=by
 subst hb;unfold execOp;simp only [ho,hx,hy];simp [go_sem,run_underlying hu]
theorem y_neI (ho:o.op=.binOp .neq ty x y tz) (hx:a.eval x=.int k p) (hy:a.eval y=.int k q) (hu:Tryz.prog.underlying ty=some (.int k)) (hb:(p != q)=b):(execOp a.eval o).run Tryz.prog w=.ok (.value (.bool b)) w:=by
 subst hb;unfold execOp;simp only [ho,hx,hy];simp [go_sem,run_underlying hu]
theorem zoa (ho:o.op=.binOp .add ty x y tz) (hx:a.eval x=.int .i64 p) (hy:a.eval y=.int .i64 q) {z:Int} (hz:p+q=z) (h0:-9223372036854775808≤z∧z<9223372036854775808):(execOp a.eval o).run Tryz.prog w=.ok (.value (.int .i64 z)) w:=by
 subst hz;unfold execOp;simp only [ho,hx,hy];simp [go_sem,Go.IntWalk.i64_in (p+q) (by omega)]
theorem z3c (ho:o.op=.binOp .sub ty x y tz) (hx:a.eval x=.int .i64 p) (hy:a.eval y=.int .i64 q) {z:Int} (hz:p-q=z) (h0:-9223372036854775808≤z∧z<9223372036854775808):(execOp a.eval o).run Tryz.prog w=.ok (.value (.int .i64 z)) w:=by
 subst hz;unfold execOp;simp only [ho,hx,hy];simp [go_sem,Go.IntWalk.i64_in (p-q) (by omega)]
theorem y_mulI (ho:o.op=.binOp .mul ty x y tz) (hx:a.eval x=.int .i64 p) (hy:a.eval y=.int .i64 q) {z:Int} (hz:p*q=z) (h0:-9223372036854775808≤z∧z<9223372036854775808):(execOp a.eval o).run Tryz.prog w=.ok (.value (.int .i64 z)) w:=by
 have e:IntKind.i64.wrap (p*q)=z:=by rw [hz,IntKind.wrap_i64];omega
 unfold execOp;simp only [ho,hx,hy];simp [go_sem,e]
end
theorem y_eqV {a:Act} {w:World} {o:Oper} (ty tz:TypeId) (x y:Operand) {u v:Value} {b:Bool} (ho:o.op=.binOp .eql ty x y tz) (hx:a.eval x=u) (hy:a.eval y=v) (hg:(eqGuard .eql ty x y u v).run Tryz.prog w=.ok () w) (hr:(binOp .eql ty u v).run Tryz.prog w=.ok (.bool b) w):(execOp a.eval o).run Tryz.prog w=.ok (.value (.bool b)) w:=by
 unfold execOp;simp only [ho,hx,hy];simp [hr,hg,Result.andThen]
theorem y_eqA {a:Act} {w:World} {o:Oper} (ty tz:TypeId) (x y:Operand) {c d:Array Value} {b:Bool} (ho:o.op=.binOp .eql ty x y tz) (hx:a.eval x=.agg c) (hy:a.eval y=.agg d) (hgt:Tryz.prog.eqGuardType Tryz.prog.depth ty=false) (h:(Op.equalIn 10000 ty (.agg c) (.agg d)).run Tryz.prog w=.ok b w):(execOp a.eval o).run Tryz.prog w=.ok (.value (.bool b)) w:=by
 refine y_eqV ty tz x y ho hx hy ?_ ?_
 ·simp [eqGuard,go_sem,hgt]
 ·simp [binOp,go_sem,h,Op.maxDepth,Op.equal]
theorem zmb {p q:Int} (h:p=q):(p==q)=true:=by subst h;exact beq_self_eq_true p
theorem zib {p q:Int} (h:¬p=q):(p==q)=false:=beq_eq_false_iff_ne.2 h
theorem y_bneF {p q:Int} (h:p=q):(p != q)=false:=by rw [bne,zmb h];rfl
theorem y_bneT {p q:Int} (h:¬p=q):(p != q)=true:=by rw [bne,zib h];rfl
theorem same_eq {P:Program} {f:FuncId} {args:Array Value} {w:World} {v:Value} (h:Calls P f args w fun e w'=>e=.returned v∧w=w'):Calls P f args w fun e w'=>e=.returned v∧Below w.heap.size w w':=
 h.mono fun e w' ⟨h1,h2⟩=>⟨h1,h2▸Below.refl _ _⟩
theorem zad {P:Program} {f:FuncId} {args:Array Value} {w:World} {v:Value} (h:Calls P f args w fun e w'=>e=.returned v∧Below w.heap.size w w'):Calls P f args w fun e w'=>∃ u,e=.returned u∧Below w.heap.size w w'∧(StK.eq v).F w' u:=
 h.mono fun e w' h=>⟨v,h.1,h.2,rfl⟩
theorem sb_look {α:Type} {V:List (Nat×α)}:∀ {L:List (Nat×α)},((L.map fun p=>look V p.1)=L.map fun p=>some p.2)→∀ t v,look L t=some v→look V t=some v
  | [],_,t,v,h=>by cases h
  | p::L,hL,t,v,h=>by
    simp only [List.map_cons,List.cons.injEq] at hL
    obtain ⟨p1,p2⟩:=p
    rw [zx] at h
    split at h
    · rename_i e;cases h;subst e;exact hL.1
    · exact sb_look hL.2 t v h
theorem zE {P:Program} {f:FuncId} {fn:Func} {c:Code} (hf:P.funcs[f]? = some fn) (hb:fn.body=some c) (hname:(fn.name == "runtime.NumGoroutine")=false:=by kernel_rfl):Enters P f:=enters_of hf hname hb
abbrev zN:Value:=.slice none 0 0
@[match_pattern] abbrev zI (x:Int):Value:=.int .i64 x
@[match_pattern] abbrev zY (x:Int):Value:=.int .u8 x
@[match_pattern] abbrev zU (x:Int):Value:=.int .u32 x
@[match_pattern] abbrev zP (g o:Nat):Value:=.pointer (some ⟨g,o,none⟩)
@[match_pattern] abbrev zO (g:Nat):Value:=.pointer (some ⟨g,0,none⟩)
theorem zL {n m:Nat} (h:Nat.ble n m=true):n≤m:=Nat.le_of_ble_eq_true h
theorem zSk {P:Program} {x y:Code} {Q:Exit→Act→World→Prop} {a:Act} {w:World} (h:∀ K:Act→World→Prop,(∀ a w,y.wp P Q a w→K a w)→x.wp P (Exit.then K Q) a w):(Code.seq x y).wp P Q a w:=wp_seq_k h
theorem zR {P:Program} {Q:Exit→Act→World→Prop} {a:Act} {w:World} {id:Nat} {l:List Oper} (h:wpList P l.toArray Q l a w):(Code.region id l.toArray false).wp P Q a w:=wp_region_lit h
theorem zT {P:Program} {y:Code} {Q:Exit→Act→World→Prop} {a:Act} {w:World} {id:Nat} {l:List Oper} (h:∀ K:Act→World→Prop,(∀ a w,y.wp P Q a w→K a w)→wpList P l.toArray (Exit.then K Q) l a w):(Code.seq (Code.region id l.toArray false) y).wp P Q a w:=wp_seq_k fun K hK=>wp_region_lit (h K hK)
theorem Fx.sb {n:Nat} {a:Act} {V V':List (Nat×Value)} {ds:List Deferred} (F:Fx n a V ds) (h:(V'.map fun p=>look V p.1)=V'.map fun p=>some p.2:=by kernel_rfl):Fx n a V' ds:=F.eq (sb_look h)
theorem Mx.sb {G:Option Nat} {w0 w:World} {R R':List (Nat×Res)} (M:Mx G w0 w R) (h:(R'.map fun p=>look R p.1)=R'.map fun p=>some p.2:=by kernel_rfl):Mx G w0 w R':=M.drop (sb_look h)
theorem zFg {n:Nat} {a:Act} {V:List (Nat×Value)} {ds:List Deferred} (F:Fx n a V ds) (t:Nat) {v:Value} (h:look V t=some v):a.eval (.tmp t)=v:=F.at_ t v h
instance zFx {n:Nat} {a:Act} {V:List (Nat×Value)} {ds:List Deferred}:CoeFun (Fx n a V ds) fun _=>∀ (t:Nat) {v:Value},look V t=some v→a.eval (.tmp t)=v:=⟨zFg⟩
theorem zQ1 {p:Prop} {a b c:Value} (h:p∧a=b∧b=c):a=c:=h.2.1.trans h.2.2
theorem zQ2 {p:Prop} {a b c:Value} (h:p∧a=b∧b=c):p∧a=c:=⟨h.1,h.2.1.trans h.2.2⟩
end
section
open Go.Shelf
variable {ds:List Deferred}
def bfp (v:Value) (g:Nat):Prop:=∃ o s n c,v=.slice (some ⟨g,o,s⟩) n c∧0<n
def ofp (v:Value) (g:Nat):Prop:=v.ownBlock=some g
theorem zta {v:Value} {g:Nat} (h:bfp v g):ofp v g:=by
 obtain ⟨o,s,n,c,rfl,_⟩:=h
 rfl
theorem IsB.same {l:List UInt8} {v:Value} {u u':World} (hs:Same (bfp v) u u') (h:IsB u l v):IsB u' l v:=by
 obtain ⟨A,c,rfl,h1,h2,h3,h4⟩:=h
 refine ⟨A,c,rfl,h1,h2,h3,fun hp=>?_⟩
 obtain ⟨b,o,e,hb,hc⟩:=h4.at hp
 subst e
 have hw:u.heap[b]? = some u.heap[b]:=Array.getElem?_eq_getElem hb
 have h5:=hs b _ ⟨o,none,_,_,rfl,hp⟩ hw
 refine ⟨_,rfl,(Array.getElem?_eq_some_iff.1 h5).1,fun j x hx=>?_⟩
 rw [zna]
 exact (World.cell?_of_block (a:=⟨b,o+j,none⟩) (h5.trans hw.symm)).trans (hc j x hx)
theorem IsB.lt {l:List UInt8} {v:Value} {u:World} (h:IsB u l v) {g:Nat} (hg:bfp v g):g<u.heap.size:=by
 obtain ⟨A,c,rfl,h1,h2,h3,h4⟩:=h
 obtain ⟨o,s,n,c',e,hn⟩:=hg
 injection e with e1 e2 e3
 subst e2
 obtain ⟨b,o',e4,hb,_⟩:=h4.at hn
 rw [e4] at e1
 injection e1 with e1
 injection e1 with e1
 subst e1
 exact hb
theorem Byt.same {l:List UInt8} {v:Value} {b:Nat} {u u':World} (hs:Same (ofp v) u u') (h:Byt u b v l):Byt u' b v l:=by
 refine ⟨h.1,?_⟩
 rcases h.2 with hn | ⟨g,c,cur,e,hbg,hg,rest⟩
 ·exact .inl hn
 ·exact .inr ⟨g,c,cur,e,hbg,hs g _ (by rw [ofp,e];rfl) hg,rest⟩
theorem Byt.rebase {l:List UInt8} {v:Value} {b B:Nat} {u:World} (h:Byt u b v l) (hB:∀ k,v.ownBlock=some k→B≤k):Byt u B v l:=by
 refine ⟨h.1,?_⟩
 rcases h.2 with hn | ⟨g,c,cur,e,hbg,rest⟩
 ·exact .inl hn
 ·exact .inr ⟨g,c,cur,e,hB g (by rw [e];rfl),rest⟩
theorem Byt.isb {w:World} {b:Nat} {v:Value} {l:List UInt8} (h:Byt w b v l):IsB w l v:=by
 obtain ⟨A,c,e,h1,h2,h3,h4⟩:=h.slice
 refine ⟨A,c,e,h1,h2,fun hA=>?_,h3⟩
 rcases h.2 with ⟨e2,h0⟩ | ⟨g,c',cur,e2,_⟩
 ·rw [e] at e2;injection e2
 ·rw [e] at e2;injection e2 with e2;rw [hA] at e2;cases e2
theorem zia (w:World):IsB w [] (zN):=⟨none,0,rfl,Nat.le_refl _,by unfold maxLen;omega,fun _=>rfl,fun h=>absurd h (by simp)⟩
def bytR (l:List UInt8) (v:Value):Res:=⟨false,bfp v,fun w=>IsB w l v⟩
def ownR (l:List UInt8) (v:Value):Res:=⟨true,ofp v,fun w=>Byt w 0 v l⟩
section
variable {G:Option Nat} {w0 w w':World} {R:List (Nat×Res)} {l r:List UInt8} {v u:Value} {i k:Nat}
theorem Mx.isb (M:Mx G w0 w R) (h:look R k=some (bytR l v)):IsB w l v:=M.at_ k _ h
theorem Mx.isO (M:Mx G w0 w R) (h:look R k=some (ownR l v)):IsB w l v:=Byt.isb (M.at_ k _ h)
theorem Mx.byt (M:Mx none w0 w R) (h:look R k=some (ownR l v)):Byt w w0.heap.size v l:=
 Byt.rebase (b:=0) (M.at_ k _ h) fun g hg=>by
  rcases M.own k _ h rfl g hg with h | h
  ·exact h
  ·cases h
theorem Mx.bytG (M:Mx G w0 w R) (h:look R k=some (ownR l v)) (hG:∀ g,G=some g→v.ownBlock≠some g):Byt w w0.heap.size v l:=
 Byt.rebase (b:=0) (M.at_ k _ h) fun g hg=>by
  rcases M.own k _ h rfl g hg with h | h
  ·exact h
  ·exact absurd hg (hG g h)
theorem z2b:∀ u u',Same (bytR l v).fp u u'→(bytR l v).F u→(bytR l v).F u':=fun _ _ hs h=>IsB.same hs h
theorem ownR_dep:∀ u u',Same (ownR l v).fp u u'→(ownR l v).F u→(ownR l v).F u':=fun _ _ hs h=>Byt.same hs h
theorem Mx.argB (M:Mx G w0 w R) (i:Nat) (h:IsB w0 l v) (hG:∀ g,G=some g→¬bfp v g):Mx G w0 w ((i,bytR l v)::R):=
 M.arg i _ (IsB.same (u:=w0) ⟨fun g o hg ho=>(M.grown.block g (Array.getElem?_eq_some_iff.1 ho).1 (fun e=>hG g e.symm hg)).trans ho,M.grown.size⟩ h) z2b rfl fun g hg=>⟨h.lt hg,fun e=>hG g e hg⟩
theorem blkO_dep {g:Nat} {t:TypeId} {c:Array Value}:∀ u u',Same (blkO g t c).fp u u'→(blkO g t c).F u→(blkO g t c).F u':=fun u u' hs h=>hs g _ rfl h
theorem Mx.argO (M:Mx G w0 w R) (i:Nat) {g:Nat} {t:TypeId} {c:Array Value} (h:w0.heap[g]? = some (.cells c t (0,0))) (hG:∀ b,G=some b→¬g=b):Mx G w0 w ((i,blkO g t c)::R):=
 M.arg i _ ((M.grown.block g (Array.getElem?_eq_some_iff.1 h).1 (fun e=>hG g e.symm rfl)).trans h) blkO_dep rfl fun b hb=>⟨by rw [show b=g from hb];exact (Array.getElem?_eq_some_iff.1 h).1,fun e=>hG b e (show b=g from hb).symm⟩
theorem Mx.partB (M:Mx G w0 w R) (i:Nat) (hk:look R k=some (bytR r u)) (h:IsB w l v) (hlo:∀ g,bfp v g→bfp u g):Mx G w0 w ((i,bytR l v)::R):=
 M.part i _ h z2b rfl hk rfl hlo
theorem Mx.newO (M:Mx G w0 w R) (h:Below w.heap.size w w') (i:Nat) (hv:Byt w' w.heap.size v l):Mx G w0 w' ((i,ownR l v)::R):=
 M.fresh h i _ (hv.rebase fun _ _=>Nat.zero_le _) ownR_dep fun g hg=>hv.lt g hg
theorem Mx.newB (M:Mx G w0 w R) (h:Below w.heap.size w w') (i:Nat) (hv:IsB w' l v) (hlo:∀ g,bfp v g→w.heap.size≤g):Mx G w0 w' ((i,bytR l v)::R):=
 M.fresh h i _ hv z2b fun g hg=>⟨hlo g hg,hv.lt hg⟩
theorem Mx.owns (M:Mx none w0 w R) (h:look R k=some (ownR l v)):∀ g,ofp v g→w0.heap.size≤g:=fun g hg=>(M.own k _ h rfl g hg).resolve_right fun e=>by cases e
theorem Mx.nilO (M:Mx G w0 w R) (i:Nat):Mx G w0 w ((i,ownR [] (zN))::R):=
 M.cons i _ (Byt.nil w 0) ownR_dep (fun g hg=>by cases hg) (fun _ g hg=>by cases hg) (fun _ _ _ _ _ g hg=>by cases hg)
theorem Mx.tame (M:Mx G w0 w R) (hk:look R k=some (ownR l v)):Mx G w0 w ((k,bytR l v)::R):=
 M.cons k _ (M.isO hk) z2b (fun g hg=>M.lt k _ hk g (zta hg)) (fun e=>by cases e) fun j s e hj _ g hg=>M.dis k j _ s hk e hj rfl g (zta hg)
end
def ixV (v:Value) (i:Nat):Value:=match v with
 | .slice (some ad) _ _=>.pointer (some (ad.add i))
 | _=>undef
section
variable {a:Act} {w:World} {o:Oper} {l r:List UInt8} {v u:Value}
theorem z8a (x:Operand) (ho:o.op=.call { callee:=.builtin .len,args:=#[x],argTypes:=#[23] }) (hx:a.eval x=v) (hB:IsB w l v) {z:Int} (hz:(l.length:Int)=z):(execOp a.eval o).run Tryz.prog w=.ok (.value (zI z)) w:=by
 subst hz
 obtain ⟨A,c,h1,_⟩:=hB
 exact run_ln x _ ho (hx.trans h1) Tryz.underlying23
theorem y_ixB (x k:Operand) (ho:o.op=.indexAddr 23 x k) (hx:a.eval x=v) (hB:IsB w l v) {z:Int} {i:Nat} (hk:a.eval k=zI z) (hz:z=(i:Int)) (hi:i<l.length):(execOp a.eval o).run Tryz.prog w=.ok (.value (ixV v i)) w:=by
 subst hz
 obtain ⟨A,c,rfl,h1,h2,h3,h4⟩:=hB
 obtain ⟨b,q,rfl,hb,hc⟩:=h4.at (by omega)
 unfold execOp
 simp only [ho,hx,hk]
 have h0:¬((i:Int)<0):=by omega
 have h5:(i:Int)<(l.length:Int):=by omega
 simp [go_sem,h0,h5,hi,ixV,zna]
theorem y_ldB (x:Operand) (ho:o.op=.load 5 x) {i:Nat} (hx:a.eval x=ixV v i) (hB:IsB w l v) {b:UInt8} (hl:l[i]? = some b) {z:Int} (hz:((b.toNat:Nat):Int)=z):(execOp a.eval o).run Tryz.prog w=.ok (.value (zY z)) w:=by
 subst hz
 obtain ⟨A,c,rfl,h1,h2,h3,h4⟩:=hB
 obtain ⟨g,q,rfl,hb,hc⟩:=h4.at (by have:=(List.getElem?_eq_some_iff.1 hl).1;omega)
 have hcell:=hc i b hl
 have hx':a.eval x=(zP g (q+i)):=by rw [hx];simp [ixV,zna]
 have h6:(isAgg 5).run Tryz.prog w=.ok false w:=by
  unfold isAgg
  simp only [Sem.run_bind,run_underlying Tryz.underlying5,Result.andThen_ok]
  rfl
 unfold execOp
 simp only [ho,hx',Instr.loadAt,Instr.sureAddr,loadVar,Sem.run_bind,Sem.run_pure,Result.andThen_ok,h6,Bool.false_eq_true,if_false]
 simp [hcell,Result.andThen]
theorem y_str (x:Operand) (ho:o.op=.convert 23 9 x) (hx:a.eval x=v) (hB:IsB w l v):(execOp a.eval o).run Tryz.prog w=.ok (.value (.string ⟨l.toArray⟩)) w:=by
 obtain ⟨A,c,rfl,h1,h2,h3,h4⟩:=hB
 exact run_cv' _ _ x ho hx (run_string_bytes w A l _ c rfl h4)
theorem elem_byt:Tryz.prog.elem 23=5:=by kernel_rfl
theorem size_byt (w:World):(sizeOf 5).run Tryz.prog w=.ok 1 w:=by
 obtain ⟨i,h1,h2,h3,_⟩:=info_u8
 simp [sizeOf,typeInfo,h1,h3]
def slV (A:Option Addr) (c i n:Nat):Value:=.slice (if c=i then A else A.map (·.add i)) n (c-i)
theorem slV_isB {A:Option Addr} {c i j:Nat} (h1:l.length≤c) (h2:c≤maxLen) (h3:A=none→c=0) (h4:Rd w A l) (hi:i≤j) (hj:j≤l.length):IsB w ((l.drop i).take (j-i)) (slV A c i (j-i)):=by
 have hn:((l.drop i).take (j-i)).length=j-i:=by simp;omega
 refine ⟨if c=i then A else A.map (·.add i),c-i,by unfold slV;rw [hn],by rw [hn];omega,by omega,fun e=>?_,fun hp=>?_⟩
 ·split at e
  ·omega
  ·rw [Option.map_eq_none_iff] at e;have:=h3 e;omega
 ·rw [hn] at hp
  obtain ⟨b,q,rfl,hb,hc⟩:=h4.at (by omega)
  rw [if_neg (by omega)]
  refine ⟨_,rfl,by simpa [zna] using hb,fun x y hy=>?_⟩
  have hy':l[i+x]? = some y:=by
   rw [List.getElem?_take] at hy
   split at hy
   ·rwa [List.getElem?_drop] at hy
   ·cases hy
  have:=hc (i+x) y hy'
  simp only [zna]
  rwa [show q+i+x=q+(i+x) by omega]
theorem slV_fp {A:Option Addr} {c i n m k:Nat} (hn:n=0∨0<m):∀ g,bfp (slV A c i n) g→bfp (.slice A m k) g:=fun g ⟨o,s,n',c',e,h⟩=>by
 unfold slV at e
 injection e with e1 e2 e3
 have hm:0<m:=by omega
 split at e1
 ·exact ⟨o,s,m,k,by rw [e1],hm⟩
 ·cases A with
  | none=>cases e1
  | some ad=>
   obtain ⟨b,q,t⟩:=ad
   simp only [Option.map_some,Option.some.injEq] at e1
   have:(⟨b,q,t⟩:Addr).add i=⟨g,o,s⟩:=e1
   have hb:((⟨b,q,t⟩:Addr).add i).block=b:=by unfold Addr.add;split <;> rfl
   rw [this] at hb
   subst hb
   exact ⟨q,t,m,k,rfl,hm⟩
theorem under_byt:Tryz.prog.underlying 23=some (.slice (Tryz.prog.elem 23)):=by rw [elem_byt];exact Tryz.underlying23
theorem map_add0 (A:Option Addr):A.map (·.add 0)=A:=by
 cases A with
 | none=>rfl
 | some a=>simp [Addr.add]
theorem y_slFrom (x k:Operand) (ho:o.op=.slice 23 x (some k) none none) (hx:a.eval x=v) (hB:IsB w l v) {z:Int} {i:Nat} (hk:a.eval k=zI z) (hz:z=(i:Int)) (hi:i≤l.length):∃ u,(execOp a.eval o).run Tryz.prog w=.ok (.value u) w∧IsB w (l.drop i) u∧∀ g,bfp u g→bfp v g:=by
 subst hz
 obtain ⟨A,c,rfl,h1,h2,h3,h4⟩:=hB
 refine ⟨slV A c i (l.length-i),?_,?_,slV_fp (show l.length-i=0∨0<l.length by omega)⟩
 ·unfold execOp
  simp only [ho,hx]
  simp only [Option.map_some,Option.map_none,hk]
  rw [Sem.run_bind,run_sliceAt_slice _ _ _ _ _ _ under_byt,run_slice_l _ _ _ _ _ under_byt .i64 i (by omega) (by omega),elem_byt,size_byt]
  simp only [Result.andThen_ok,sliced,Int.toNat_natCast,Nat.mul_one,slV,Sem.run_pure]
 ·have:=slV_isB (i:=i) (j:=l.length) h1 h2 h3 h4 hi (Nat.le_refl _)
  rwa [List.take_of_length_le (by simp)] at this
theorem y_slTo (x k:Operand) (ho:o.op=.slice 23 x none (some k) none) (hx:a.eval x=v) (hB:IsB w l v) {z:Int} {j:Nat} (hk:a.eval k=zI z) (hz:z=(j:Int)) (hj:j≤l.length):∃ u,(execOp a.eval o).run Tryz.prog w=.ok (.value u) w∧IsB w (l.take j) u∧∀ g,bfp u g→bfp v g:=by
  subst hz
  obtain ⟨A,c,rfl,h1,h2,h3,h4⟩:=hB
  have e0 : (if c = 0 then A else A.map (·.add 0)) = A := by split; · rfl
                                                             · exact map_add0 A
  refine ⟨slV A c 0 (j-0),?_,?_,slV_fp (show j-0=0∨0<l.length by omega)⟩
  · unfold execOp
    simp only [ho,hx]
    simp only [Option.map_some,Option.map_none,hk]
    rw [Sem.run_bind,run_sliceAt_slice _ _ _ _ _ _ under_byt,run_slice_h _ _ _ _ _ under_byt .i64 j (by omega) (by omega),elem_byt,size_byt]
    simp only [Result.andThen_ok,sliced,Int.toNat_natCast,Nat.mul_one,slV,Sem.run_pure,Nat.sub_zero,e0,ite_self,map_add0]
  · have:=slV_isB (i:=0) (j:=j) h1 h2 h3 h4 (Nat.zero_le _) hj
    rwa [List.drop_zero] at this
theorem y_slOf (x p q:Operand) (ho:o.op=.slice 23 x (some p) (some q) none) (hx:a.eval x=v) (hB:IsB w l v) {y z:Int} {i j:Nat} (hp:a.eval p=zI y) (hy:y=(i:Int)) (hq:a.eval q=zI z) (hz:z=(j:Int)) (hi:i≤j) (hj:j≤l.length):∃ u,(execOp a.eval o).run Tryz.prog w=.ok (.value u) w∧IsB w ((l.drop i).take (j-i)) u∧∀ g,bfp u g→bfp v g:=by
 subst hy hz
 obtain ⟨A,c,rfl,h1,h2,h3,h4⟩:=hB
 refine ⟨slV A c i (j-i),?_,slV_isB h1 h2 h3 h4 hi hj,slV_fp (show j-i=0∨0<l.length by omega)⟩
 unfold execOp
 simp only [ho,hx]
 simp only [Option.map_some,Option.map_none,hp,hq]
 rw [Sem.run_bind,run_sliceAt_slice _ _ _ _ _ _ under_byt,run_slice_lh _ _ _ _ _ under_byt .i64 .i64 i j (by omega) (by omega) (by omega),elem_byt,size_byt]
 simp only [Result.andThen_ok,sliced,Int.toNat_natCast,Nat.mul_one,slV,Sem.run_pure]
theorem y_eqS {s t:ByteArray} {b:Bool} (x y:Operand) (tz:TypeId) (ho:o.op=.binOp .eql 9 x y tz) (hx:a.eval x=.string s) (hy:a.eval y=.string t) (hb:decide (s.toList=t.toList)=b):(execOp a.eval o).run Tryz.prog w=.ok (.value (.bool b)) w:=by
 subst hb
 unfold execOp
 simp only [ho,hx,hy]
 simp [go_sem]
 first | done | exact Bool.eq_iff_iff.2 (by simp)
theorem y_neS {s t:ByteArray} {b:Bool} (x y:Operand) (tz:TypeId) (ho:o.op=.binOp .neq 9 x y tz) (hx:a.eval x=.string s) (hy:a.eval y=.string t) (hb:(!decide (s.toList=t.toList))=b):(execOp a.eval o).run Tryz.prog w=.ok (.value (.bool b)) w:=by
 subst hb
 unfold execOp
 simp only [ho,hx,hy]
 simp [go_sem]
 first | done | exact Bool.eq_iff_iff.2 (by simp)
theorem mk_toList (l:List UInt8):(ByteArray.mk l.toArray).toList=l:=by rw [ByteArray.toList_eq]
theorem str_eq {l r:List UInt8} (h:l=r):decide ((⟨l.toArray⟩:ByteArray).toList=(⟨r.toArray⟩:ByteArray).toList)=true:=by subst h;exact decide_eq_true rfl
theorem str_ne {l r:List UInt8} (h:¬l=r):decide ((⟨l.toArray⟩:ByteArray).toList=(⟨r.toArray⟩:ByteArray).toList)=false:=decide_eq_false (by rw [mk_toList,mk_toList];exact h)
theorem str_neT {l r:List UInt8} (h:¬l=r):(!decide ((⟨l.toArray⟩:ByteArray).toList=(⟨r.toArray⟩:ByteArray).toList))=true:=by rw [str_ne h];rfl
theorem str_neF {l r:List UInt8} (h:l=r):(!decide ((⟨l.toArray⟩:ByteArray).toList=(⟨r.toArray⟩:ByteArray).toList))=false:=by rw [str_eq h];rfl
end
section
variable {P:Program} {ops:Array Oper} {Q:Exit→Act→World→Prop} {a:Act} {w w0:World} {rest:List Oper} {o:Oper} {n:Nat} {G:Option Nat} {V:List (Nat×Value)} {R:List (Nat×Res)}
theorem zrc (hw:Region.wanted o (yielded ops a.tmps)=true) {d:Nat} (hd:o.dst=some d) (F:Fx n a V ds) (hn:Nat.blt d n=true) {Z:Value→Prop} (hr:∃ v,(execOp a.eval o).run P w=.ok (.value v) w∧Z v)
  (h:∀ v a',Z v→Fx n a' ((d,v)::V) ds→wpList P ops Q rest a' w):wpList P ops Q (o::rest) a w:=by
 obtain ⟨v,h1,h2⟩:=hr
 exact zc hw hd F hn v h1 fun a' F'=>h v a' h2 F'
end
section
variable {P:Program} {ops:Array Oper} {Q:Exit→Act→World→Prop} {a:Act} {w w0:World} {rest:List Oper} {o:Oper} {n:Nat} {V:List (Nat×Value)}
theorem wl_callV (hw:Region.wanted o (yielded ops a.tmps)=true) {d:Nat} (hd:o.dst=some d) (F:Fx n a V ds) (hn:Nat.blt d n=true) {f:FuncId} {args:Array Operand} {ts:Array TypeId} {t:Tmp} (ho:o.op=.call { callee:=.value (.tmp t),args:=args,argTypes:=ts }) {lb:Array Value} (hf:a.eval (.tmp t)=.func (.func f) #[] lb)
  (hr:∀ args w,(callFunc f args).run P w=.ok (.enter f args) w) (vals:Array Value) (hv:args.map a.eval++lb=vals) {Z:Value→World→Prop}
  (hc:Calls P f vals w fun e w'=>∃ v,e=.returned v∧Z v w')
  (h:∀ v w' a',Z v w'→Fx n a' ((d,v)::V) ds→wpList P ops Q rest a' w'):wpList P ops Q (o::rest) a w:=
 zed hw fun K hK=>by
  subst hv
  unfold Oper.wp
  have:(execOp a.eval o).run P w=.ok (.enter f (args.map a.eval++lb)) w:=by
   unfold execOp
   simp only [ho,resolve,hf]
   simp [invoke,go_sem,hr]
  rw [this]
  refine hc.mono fun e w' ⟨v,he,hb⟩=>?_
  subst he
  have:=F.put d v hn
  rw [←hd] at this
  exact hK _ _ (h _ _ _ hb this)
end
section
variable {ops:Array Oper} {Q:Exit→Act→World→Prop} {a:Act} {w w0:World} {rest:List Oper} {o:Oper} {n:Nat} {G:Option Nat} {V:List (Nat×Value)} {R:List (Nat×Res)}
theorem zfb (M:Mx G w0 w R) {k:Nat} {l r:List UInt8} {v u:Value} (hk:look R k=some (ownR l v)) (s x:Operand)
  (ho:o.op=.call { callee:=.builtin .append,args:=#[s,x],argTypes:=#[23,23] }) (hs:a.eval s=v) (hx:a.eval x=u) (hu:IsB w r u) (hle:l.length+r.length≤1000000):
  ∃ v' w',(execOp a.eval o).run Tryz.prog w=.ok (.value v') w'∧Mx G w0 w' ((k,ownR (l++r) v')::R):=by
 have hown:Byt w 0 v l:=M.at_ k _ hk
 obtain ⟨v',w',hrun,hM⟩:∃ v' w',(Builtin.append_ #[23,23] o.type #[v,u]).run Tryz.prog w=.ok v' w'∧Mx G w0 w' ((k,ownR (l++r) v')::R):=by
  obtain ⟨i,hi1,hi2,hi3,hi4⟩:=info_u8
  obtain ⟨A,c,rfl,h1,h2,h3,hR⟩:=hu
  by_cases hm:0<r.length
  ·cases A with
   | none=>obtain ⟨ad,e,_⟩:=hR hm;cases e
   | some ad=>
    obtain ⟨g,cap,w',q1,q2,q3,q4,q5⟩:=run_append_lies (P:=Tryz.prog) w 23 o.type 0 5 i (zY 0) 1 1 Tryz.underlying23 hi1 hi2 hi3 hi4 rfl (by decide) v l.length (l.map bv) hown ad r.length c (r.map bv) (by simp) (fun j u hj=>by
     rw [List.getElem?_map] at hj
     cases hb:r[j]? with
     | none=>rw [hb] at hj;cases hj
     | some b=>
      rw [hb] at hj
      obtain rfl:=Option.some.inj hj
      obtain ⟨ad',e,_,hcl⟩:=hR hm
      cases e
      exact hcl j b hb) (fun u hu=>by obtain ⟨b,_,rfl⟩:=List.mem_map.1 hu;rfl) hm (by unfold maxLen;omega) (by omega) (Nat.zero_le _) _ rfl
    refine ⟨_,w',q1,M.write hk rfl q3 (fun _ e=>e) _ ?_ ownR_dep fun b hb=>?_⟩
    ·show Byt _ _ _ _
     unfold Byt
     rw [List.length_append,List.map_append]
     exact q2
    ·obtain rfl:g=b:=by simpa [ownR,ofp,Value.ownBlock] using hb
     exact ⟨q5,q4.imp id fun e=>by rw [e];exact Nat.le_refl _⟩
  ·obtain rfl:r=[]:=List.eq_nil_of_length_eq_zero (by omega)
   obtain ⟨A2,c2,e2,k1,k2,_⟩:=id hown.slice
   have hsrc:Go.Src Tryz.prog i.size 23 (.slice A 0 c) 0 [] w:=by
    cases A with
    | none=>exact Go.Src.ofNil w Tryz.underlying23 c
    | some ad=>exact Go.Src.ofSlice w Tryz.underlying23 ad 0 c [] (by simp) (fun j u hu=>by simp at hu) (fun u hu=>by cases hu)
   have hrun:=run_append_nothing (P:=Tryz.prog) w 23 23 o.type 5 i Tryz.underlying23 hi1 A2 l.length c2 k1 (.slice A 0 c) hsrc
   refine ⟨v,w,by rw [e2];exact hrun,?_⟩
   rw [List.append_nil]
   exact M.drop fun j t e=>by
    rw [zx] at e;split at e
    ·rename_i hj;cases e;subst hj;exact hk
    ·exact e
 refine ⟨v',w',?_,hM⟩
 unfold execOp
 simp only [ho,resolve,invoke,builtin,Sem.run_bind,Sem.run_pure,Result.andThen_ok,List.map_toArray,List.map_cons,List.map_nil,hs,hx,hrun]
theorem zdd (M:Mx G w0 w R) (i:Nat) (zs:List UInt8) (m:Nat) (hm:zs.length=m) (h00:0<m) (h1:m≤1000) {ps:Array (Nat×Operand)} (ho:o.op=.buildSlice 23 m ps)
  (hf:Instr.fill (fun i=>some (i*1,1)) ((Array.range (m*1)).map ((zY 0).cells[· % (zY 0).cells.size]!)) (ps.map fun (i,x)=>(i,a.eval x)).toList=some (bvs zs)):
  ∃ v w',(execOp a.eval o).run Tryz.prog w=.ok (.value v) w'∧Mx G w0 w' ((i,ownR zs v)::R):=by
 obtain ⟨f,f1,f2,f3,_⟩:=info_u8
 subst hm
 have h0:¬zs.length*f.size=0:=by rw [f3];omega
 refine ⟨.slice (some ⟨w.heap.size,0,none⟩) zs.length zs.length,w.alloc (.cells (bvs zs) 5),?_,M.newO (zqa w _) i ?_⟩
 ·unfold execOp
  simp only [ho,Sem.run_bind,run_buildSlice w 23 5 zs.length _ (bvs zs) f (zY 0) Tryz.underlying23 f1 f2 (by rw [f3];omega) h0 (by rw [f3];exact hf),Result.andThen_ok,Sem.run_pure]
 ·refine ⟨by simp,.inr ⟨w.heap.size,zs.length,bvs zs,rfl,Nat.le_refl _,heap_alloc_new w _,Nat.le_refl _,by unfold maxLen;omega,by simp [bvs],?_⟩⟩
  simp only [bvs,Nat.mul_one]
  exact List.take_of_length_le (by simp)
theorem run_lit0 (M:Mx G w0 w R) (i:Nat) (ho:o.op=.buildSlice 23 0 #[]):
  ∃ v w',(execOp a.eval o).run Tryz.prog w=.ok (.value v) w'∧Mx G w0 w' ((i,ownR [] v)::R):=by
 refine ⟨.slice (some ⟨w.heap.size,0,none⟩) 0 0,w.alloc (.cells #[] 5),?_,M.newO (zqa w _) i ⟨by simp,.inr ⟨w.heap.size,0,#[],rfl,Nat.le_refl _,heap_alloc_new w _,Nat.le_refl _,by unfold maxLen;omega,by simp,by simp⟩⟩⟩
 unfold execOp
 simp only [ho,List.map_toArray,List.map_nil]
 kernel_rfl
end
theorem resCT {P:Program} {fn:Func} {p q:Tmp} {ty:TypeId} (h:fn.results=#[.cell p ty,.tmp q]) {a:Act} {w:World} {g:Nat} {t:TypeId} {c:Array Value} {x:Value} {d:TypeDesc}
  (hp:a.eval (.tmp p)=(zO g)) (hg:w.heap[g]? = some (.cells c t (0,0))) (hq:a.eval (.tmp q)=x) (hu:P.underlying ty=some d) (hd:yPlain d=false) (hi:(P.info? ty).map (·.size)=some c.size):(results fn a.tmps).run P w=.ok (.tuple #[.agg c,x]) w:=by
 have hp':a.tmps[p]?.getD undef=(zO g):=by simpa [Act.eval] using hp
 have hq':a.tmps[q]?.getD undef=x:=by simpa [Act.eval] using hq
 cases d with
 | struct fs=>simp [results,h,hp',hq',asAddr,run_loadVar_row w g t ty c (0,0) _ hg hu rfl hi]
 | array n e=>simp [results,h,hp',hq',asAddr,run_loadVar_row w g t ty c (0,0) _ hg hu rfl hi]
 | _=>cases hd
end
section
open Go.Shelf
variable {ds:List Deferred}
theorem IsB.shape {w:World} {l:List UInt8} {v:Value} (h:IsB w l v):∃ A c,v=.slice A l.length c:=by
 obtain ⟨A,c,e,_⟩:=h
 exact ⟨A,c,e⟩
theorem IsB.cap {w:World} {l:List UInt8} {A:Option Addr} {n c:Nat} (h:IsB w l (.slice A n c)):l.length≤c∧c≤maxLen∧(A=none→c=0)∧Rd w A l∧n=l.length:=by
 obtain ⟨A',c',e,h1,h2,h3,h4⟩:=h
 injection e with e1 e2 e3
 subst e1 e2 e3
 exact ⟨h1,h2,h3,h4,rfl⟩
section
variable {G:Option Nat} {w0 w w':World} {R:List (Nat×Res)} {l r:List UInt8} {v u:Value} {i k:Nat} {a:Act} {o:Oper}
theorem run_makeO (M:Mx G w0 w R) (i:Nat) (x y:Operand) (ho:o.op=.makeSlice 23 x y) {z:Int} (n:Nat) (hx:a.eval x=zI z) (hy:a.eval y=zI z) (hz:z=(n:Int)) (hn:n≤1000):
  ∃ v w',(execOp a.eval o).run Tryz.prog w=.ok (.value v) w'∧Mx G w0 w' ((i,ownR (List.replicate n 0) v)::R):=by
 subst hz
 obtain ⟨f,f1,f2,f3,f4⟩:=info_u8
 refine ⟨.slice (some ⟨w.heap.size,0,none⟩) n n,w.alloc (.cells (madeCells #[zY 0] n) 5),?_,M.newO (zqa w _) i ?_⟩
 ·have h:=run_make_row (w:=w) 23 5 f (zY 0) Tryz.underlying23 f1 f2 f3 rfl .i64 .i64 n (by rw [f4];omega) (by omega)
  unfold execOp
  simp only [ho,hx,hy,Sem.run_bind,h,Result.andThen_ok,Sem.run_pure]
 ·obtain ⟨c,hb,hs,hc⟩:=World.rowIs_made w (zY 0) n 5
  refine ⟨by simp,.inr ⟨w.heap.size,n,c,by rw [List.length_replicate],Nat.le_refl _,hb,by rw [List.length_replicate];exact Nat.le_refl _,by unfold maxLen;omega,by omega,?_⟩⟩
  apply List.ext_getElem?
  intro i
  rw [List.length_replicate,Nat.mul_one,List.getElem?_take,List.map_replicate]
  by_cases hi:i<n
  ·rw [if_pos hi,List.getElem?_replicate,if_pos hi]
   have:=hc i hi
   rw [←Array.getElem?_toList] at this
   exact this
  ·rw [if_neg hi,List.getElem?_replicate,if_neg hi]
theorem run_setO (M:Mx G w0 w R) (hk:look R k=some (ownR l v)) (x y:Operand) (ho:o.op=.store 5 x y) {j:Nat} (hx:a.eval x=ixV v j) {z:Int} (b:UInt8) (hy:a.eval y=zY z) (hz:z=(b.toNat:Int)) (hj:j<l.length):
  ∃ w',(execOp a.eval o).run Tryz.prog w=.ok .skip w'∧Mx G w0 w' ((k,ownR (l.set j b) v)::R):=by
 subst hz
 have hown:Byt w 0 v l:=M.at_ k _ hk
 rcases id hown.2 with ⟨e,h0⟩ | ⟨g,c,cur,e,hbg,hg,hn,hc,hs,ht⟩
 ·omega
 ·subst e
  have hi:(Tryz.prog.info? 5).map (·.size)=some 1:=by kernel_rfl
  refine ⟨w.setRow g (cur.toList.take j++[bv b]++cur.toList.drop (j+1)).toArray,?_,?_⟩
  ·refine y_st 5 x y ho (g:=g) (k:=j) (by rw [hx];simp [ixV,zna]) hy hg #[zY (b.toNat:Int)] _ (by rfl) (by simp;omega) (by simp [Value.oneCell']) ?_ hi
   simp [bv]
  ·refine M.write hk rfl (z1b _ _ _) (fun _ e=>e) _ ?_ ownR_dep fun q hq=>?_
   ·refine ⟨by simp,.inr ⟨g,c,_,by rw [List.length_set],Nat.zero_le _,setRow_heap w g cur _ 5 (0,0) hg,by rw [List.length_set];exact hn,hc,?_,?_⟩⟩
    ·simp;omega
    ·have hlc:l.length≤cur.toList.length:=by simp;omega
     apply List.ext_getElem?
     intro q
     rw [List.length_set,Nat.mul_one]
     have ht':∀ q:Nat,(cur.toList.take (l.length*1))[q]? = (l.map bv)[q]?:=fun q=>by rw [ht]
     simp only [List.getElem?_take,List.getElem?_map,List.getElem?_set,Nat.mul_one] at ht' ⊢
     have:=ht' q
     by_cases h1:q<l.length
     ·rw [if_pos h1] at this ⊢
      by_cases h2:j=q
      ·subst h2
       rw [if_pos rfl,if_pos hj]
       have h3:(cur.toList.take j).length=j:=by rw [List.length_take];omega
       rw [List.append_assoc,List.getElem?_append_right (by omega),h3]
       simp
      ·rw [if_neg h2,←this]
       have h3:(cur.toList.take j).length=j:=by rw [List.length_take];omega
       by_cases h4:q<j
       ·rw [List.append_assoc,List.getElem?_append_left (by omega),List.getElem?_take,if_pos h4]
       ·rw [List.getElem?_append_right (by rw [List.length_append,h3];simp;omega),List.length_append,h3]
        simp only [List.length_cons,List.length_nil,List.getElem?_drop]
        congr 1
        omega
     ·rw [if_neg h1,if_neg (by omega),List.getElem?_eq_none (by omega)];rfl
   ·obtain rfl:g=q:=by simpa [ownR,ofp,Value.ownBlock] using hq
    refine ⟨?_,.inl rfl⟩
    have:(w.setRow g (cur.toList.take j++[bv b]++cur.toList.drop (j+1)).toArray).heap[g]? = some (.cells _ 5 (0,0)):=setRow_heap w g cur _ 5 (0,0) hg
    exact z2a this
end
section
variable {a:Act} {w:World} {o:Oper} {s:ByteArray} {z:Int}
theorem y_lenS (x:Operand) (ho:o.op=.call { callee:=.builtin .len,args:=#[x],argTypes:=#[9] }) (hx:a.eval x=.string s) (hz:(s.size:Int)=z):(execOp a.eval o).run Tryz.prog w=.ok (.value (zI z)) w:=by
 subst hz
 simp only [execOp,ho,resolve,Sem.run_bind,Sem.run_pure,Result.andThen_ok,invoke,List.map_toArray,List.map_cons,List.map_nil,hx]
 simp [builtin,go_sem,Builtin.len_,run_underlying Tryz.underlying9,Result.andThen,goInt]
theorem y_nilB (x:Operand) (tz:TypeId) (ho:o.op=.binOp .eql 23 x (.const (zN)) tz) {A:Option Addr} {n c:Nat} (hx:a.eval x=.slice A n c) {b:Bool} (hb:A.isNone=b):(execOp a.eval o).run Tryz.prog w=.ok (.value (.bool b)) w:=by
 subst hb
 have h1:(binOp .eql 23 (.slice A n c) (zN)).run Tryz.prog w=.ok (.bool A.isNone) w:=by
  simp only [binOp]
  simp [run_equal_slice_nil w _ _ _ _ _ Tryz.underlying23]
 unfold execOp
 simp only [ho,hx,Sem.run_bind]
 rw [show a.eval (.const (zN))=zN from rfl]
 have h2:(eqGuard .eql 23 x (.const (zN)) (.slice A n c) (zN)).run Tryz.prog w=.ok () w:=by
  have hgt:Tryz.prog.eqGuardType Tryz.prog.depth 23=false:=by kernel_rfl
  simp [eqGuard,go_sem,hgt]
 rw [h2]
 simp only [Result.andThen_ok,h1]
 rfl
end
section
variable {P:Program} {ops:Array Oper} {Q:Exit→Act→World→Prop} {a:Act} {w w0:World} {rest:List Oper} {o:Oper} {n:Nat} {G:Option Nat} {V:List (Nat×Value)}
theorem zwa (hw:Region.wanted o (yielded ops a.tmps)=true) {d:Nat} (hd:o.dst=some d) (F:Fx n a V ds) (hn:Nat.blt d n=true) {Rf:Value→List (Nat×Res)} (hr:∃ v w',(execOp a.eval o).run P w=.ok (.value v) w'∧Mx G w0 w' (Rf v))
  (h:∀ v a' w',Fx n a' ((d,v)::V) ds→Mx G w0 w' (Rf v)→wpList P ops Q rest a' w'):wpList P ops Q (o::rest) a w:=by
 obtain ⟨v,w',h1,h2⟩:=hr
 exact zc hw hd F hn v h1 fun a' F'=>h v a' w' F' h2
theorem wl_doM (hw:Region.wanted o (yielded ops a.tmps)=true) (hd:o.dst=none) (F:Fx n a V ds) {R':List (Nat×Res)} (hr:∃ w',(execOp a.eval o).run P w=.ok .skip w'∧Mx G w0 w' R')
  (h:∀ w',Mx G w0 w' R'→wpList P ops Q rest a w'):wpList P ops Q (o::rest) a w:=by
 obtain ⟨w',h1,h2⟩:=hr
 exact wl_do hw hd F h1 (h w' h2)
end
def zj (z:Int):UInt8:=UInt8.ofNat (z%256).toNat
theorem zvc (z:Int):(((zj z).toNat:Nat):Int)=z%256:=by
 have h:(zj z).toNat=(z%256).toNat:=by unfold zj;simp;omega
 rw [h];omega
theorem ztb (z:Int):IntKind.u8.wrap z=(((zj z).toNat:Nat):Int):=by rw [zvc,IntKind.wrap_u8]
theorem byteI_id (b:UInt8):zj ((b.toNat:Nat):Int)=b:=by
 have h:=zvc ((b.toNat:Nat):Int)
 have hb:=b.toNat_lt
 apply UInt8.toNat_inj.1
 omega
theorem byte_i64 (b:UInt8):IntKind.i64.wrap ((b.toNat:Nat):Int)=((b.toNat:Nat):Int):=by
 have hb:=b.toNat_lt
 rw [IntKind.wrap_i64];omega
section
variable {G:Option Nat} {w0 w:World} {R:List (Nat×Res)} {a:Act} {o:Oper}
def bytN (N:Nat) (l:List UInt8) (v:Value):Res:=⟨false,bfp v,fun w=>IsB w l v∧∀ g,bfp v g→N≤g⟩
theorem Mx.frN (M:Mx G w0 w R) {k N:Nat} {l:List UInt8} {v:Value} (h:look R k=some (bytN N l v)):∀ g,bfp v g→N≤g:=(M.at_ k _ h).2
theorem Mx.unN (M:Mx G w0 w R) {k N:Nat} {l:List UInt8} {v:Value} (h:look R k=some (bytN N l v)):Mx G w0 w ((k,bytR l v)::R):=
 M.cons k _ (M.at_ k _ h).1 z2b (fun g hg=>M.lt k _ h g hg) (fun e=>by cases e) fun j s e hj hh g hg hg2=>by
  rcases hh with hh | hh
  ·cases hh
  ·exact M.dis j k s _ e h (fun e2=>hj e2.symm) hh g hg2 hg
def sBy (s:ByteArray):List UInt8:=s.data.toList
theorem sBy_len (s:ByteArray):(sBy s).length=s.size:=by unfold sBy;rw [Array.length_toList];rfl
theorem run_cvSm (M:Mx G w0 w R) (i:Nat) (x:Operand) (ho:o.op=.convert 9 23 x) {s:ByteArray} (hx:a.eval x=.string s) (hs:s.size≤maxLen):
  ∃ v w',(execOp a.eval o).run Tryz.prog w=.ok (.value v) w'∧Mx G w0 w' ((i,bytN w0.heap.size (sBy s) v)::R):=by
 have hc:=grownCap_ge w s.size 0 5
 have hm:=grownCap_le_maxLen w s.size 0 5 hs
 obtain ⟨w',hw'⟩:∃ w',w'=w.drew.alloc (.cells (bytesRow s (grownCap w s.size 0 5)) 5 ((bytesRow s (grownCap w s.size 0 5)).size,(bytesRow s (grownCap w s.size 0 5)).size+1)):=⟨_,rfl⟩
 have hh:w'.heap[w.heap.size]? = some (.cells (bytesRow s (grownCap w s.size 0 5)) 5 ((bytesRow s (grownCap w s.size 0 5)).size,(bytesRow s (grownCap w s.size 0 5)).size+1)):=by
  rw [hw'];exact heap_alloc_new w.drew _
 refine ⟨.slice (some ⟨w.heap.size,0,none⟩) s.size (grownCap w s.size 0 5),w',?_,M.fresh (by rw [hw'];exact (zsa w).trans (zqa w.drew _)) i _ ⟨?_,?_⟩ (fun u u' hs h=>⟨IsB.same hs h.1,h.2⟩) ?_⟩
 ·have h:=run_bytes_of_string w 9 23 5 s Tryz.underlying9 Tryz.underlying23 Tryz.underlying5
  rw [hw']
  exact run_cv' _ _ x ho hx h
 ·refine ⟨_,_,by rw [sBy_len],by rw [sBy_len];exact hc,hm,(fun e=>by cases e),fun _=>⟨_,rfl,z2a hh,fun j b hj=>?_⟩⟩
  rw [zna,Nat.zero_add]
  have hl:=(List.getElem?_eq_some_iff.1 hj).1
  rw [sBy_len] at hl
  have hcell:(bytesRow s (grownCap w s.size 0 5))[j]? = some (bv b):=by
   unfold bytesRow sBy at *
   rw [Array.getElem?_append]
   rw [if_pos (by simpa using hl)]
   rw [Array.getElem?_toList] at hj
   simp [hj,bv]
  simp [World.cell?,hh,hcell]
 ·rintro g ⟨q,s',n,c,e,_⟩
  injection e with e
  injection e with e
  injection e with e
  have:=M.le
  omega
 ·rintro g ⟨q,s',n,c,e,_⟩
  injection e with e
  injection e with e
  injection e with e
  subst e
  exact ⟨Nat.le_refl _,z2a hh⟩
theorem run_cvS (M:Mx G w0 w R) (i:Nat) (x:Operand) (ho:o.op=.convert 9 23 x) {s:ByteArray} (hx:a.eval x=.string s) (hs:s.size≤1000000):
  ∃ v w',(execOp a.eval o).run Tryz.prog w=.ok (.value v) w'∧Mx G w0 w' ((i,bytN w0.heap.size (sBy s) v)::R):=
 run_cvSm M i x ho hx (Nat.le_trans hs (by unfold maxLen;omega))
end
end
section
open Go.Shelf
variable {ds:List Deferred}
theorem rn {P:Program} {ops:Array Oper} {Q:Exit→Act→World→Prop} {a:Act} {w:World} {rest:List Oper} {o:Oper} {n:Nat} {V:List (Nat×Value)} (hg:o.guard=none) {d:Nat} (hd:o.dst=some d) (F:Fx n a V ds) (hn:Nat.blt d n=true) (v:Value) (hr:(execOp a.eval o).run P w=.ok (.value v) w)
  (h:∀ a',Fx n a' ((d,v)::V) ds→wpList P ops Q rest a' w):wpList P ops Q (o::rest) a w:=zc (wanted_none hg) hd F hn v hr h
def evO (V:Nat→Option Value):Operand→Option Value
 | .tmp t=>V t
 | .const v=>some v
 | _=>none
theorem z3b {a:Act} {V:Nat→Option Value} (F:∀ t v,V t=some v→a.eval (.tmp t)=v):∀ {x:Operand} {v:Value},evO V x=some v→a.eval x=v
 | .tmp t,v,h=>F t v h
 | .const c,v,h=>by cases h;rfl
 | .global _,_,h=>by cases h
 | .func _,_,h=>by cases h
def offF (P:Program) (s:TypeId) (f:Nat):Option Nat:=match P.underlying s with
 | some (.struct fs)=>match fs[f]? with
  | some fd=>match P.info? fd.type with
   | some inf=>match Nat.beq inf.size 0 with
    | true=>none
    | false=>some fd.offset
   | none=>none
  | none=>none
 | _=>none
def plV (P:Program) (V:Nat→Option Value) (D:List (Nat×Array Value)) (o:Oper) (i:Nat):Option (Value×Option (Nat×Nat)):=match o.op with
 | .move x=>(evO V x).map fun v=>(v,none)
 | .assign x=>(evO V x).map fun v=>(v,none)
 | .pick c x y=>match evO V c with
  | some (.bool true)=>(evO V x).map fun v=>(v,none)
  | some (.bool false)=>(evO V y).map fun v=>(v,none)
  | _=>none
 | .extract x k=>match evO V x with
  | some (.tuple vs)=>(vs[k]?).map fun v=>(v,none)
  | _=>none
 | .unOp .not _ x=>match evO V x with
  | some (.bool b)=>some (.bool (!b),none)
  | _=>none
 | .binOp b ty x y _=>match evO V x,evO V y with
  | some (.int k p),some (.int k' q)=>match decEq k k' with
   | .isTrue _=>match b with
    | .lss=>some (.bool (decide (p<q)),none)
    | .leq=>some (.bool (decide (p≤q)),none)
    | .gtr=>some (.bool (decide (q<p)),none)
    | .geq=>some (.bool (decide (q≤p)),none)
    | .eql=>match P.underlying ty with
     | some (.int k2)=>match decEq k2 k with
      | .isTrue _=>some (.bool (p==q),none)
      | .isFalse _=>none
     | _=>none
    | .neq=>match P.underlying ty with
     | some (.int k2)=>match decEq k2 k with
      | .isTrue _=>some (.bool (p != q),none)
      | .isFalse _=>none
     | _=>none
    | _=>none
   | .isFalse _=>none
  | _,_=>none
 | .nilCheck x=>match evO V x with
  | some (.pointer (some p))=>some (.pointer (some p),none)
  | _=>none
 | .fieldAddr s x f=>match evO V x,offF P s f with
  | some (zP g k),some off=>some ((zP g (k+off)),none)
  | _,_=>none
 | .load ty x=>match evO V x,D[i]?,P.underlying ty with
  | some (zP g k),some (g',c),some d=>match yPlain d with
   | true=>(c[k]?).map fun v=>(v,some (g,g'))
   | false=>match P.info? ty with
    | some inf=>match Nat.ble (k+inf.size) c.size with
     | true=>some (.agg (((c.toList.drop k).take inf.size).toArray),some (g,g'))
     | false=>none
    | none=>none
  | _,_,_=>none
 | _=>none
def wnV (ops:Array Oper) (V:Nat→Option Value) (o:Oper):Option Bool:=match o.guard with
 | none=>some true
 | some (g,b)=>match (ops[g]?).bind (·.dst) with
  | none=>none
  | some d=>match V d with
   | some (.bool c)=>some (c==b)
   | some (.tuple vs)=>match Nat.beq vs.size 0 with
    | true=>some false
    | false=>none
   | _=>none
theorem off_ok {P:Program} {s:TypeId} {f off:Nat} (h:offF P s f=some off) (w:World) (g k:Nat):(Instr.fieldAt s (zP g k) f).run P w=.ok (zP g (k+off)) w:=by
 unfold offF at h
 split at h
 ·rename_i fs hu
  split at h
  ·rename_i fd hf
   split at h
   ·rename_i inf hi
    split at h
    ·cases h
    ·rename_i hz
     cases h
     have hz':¬inf.size=0:=fun e=>by rw [e] at hz;cases hz
     have hadd:(⟨g,k,none⟩:Addr).add fd.offset=⟨g,k+fd.offset,none⟩:=zna g k fd.offset
     simp [Instr.fieldAt,run_underlying hu,hf,Instr.sureAddr,fieldPlace,sizeOf,typeInfo,hi,hz',hadd,Result.andThen]
   ·cases h
  ·cases h
 ·cases h
theorem y_fa {P:Program} {a:Act} {w:World} {o:Oper} {s:TypeId} {x:Operand} {f:Nat} (ho:o.op=.fieldAddr s x f) {g k off k':Nat} (hx:a.eval x=(zP g k)) (hoff:offF P s f=some off) (hk:k+off=k'):(execOp a.eval o).run P w=.ok (.value (zP g k')) w:=by
 subst hk
 unfold execOp
 simp only [ho,hx,Sem.run_bind,off_ok hoff,Result.andThen_ok,Sem.run_pure]
def mvV (V:Nat→Option Value) (n:Nat) (ops:Array Oper) (o:Oper):Option (Nat×Value):=match o.dst with
 | some d=>match Nat.blt d n with
  | true=>match wnV ops V o with
   | some true=>match o.op with
    | .move x=>match evO V x with
     | some v=>some (d,v)
     | none=>none
    | .assign x=>match evO V x with
     | some v=>some (d,v)
     | none=>none
    | _=>none
   | some false=>some (d,undef)
   | none=>none
  | false=>none
 | none=>none
def DAll (w:World):List (Nat×Array Value)→Prop
 | []=>True
 | p::L=>(∃ t,w.heap[p.1]? = some (.cells p.2 t (0,0)))∧DAll w L
theorem dnil {w:World}:DAll w []:=trivial
theorem zu {w:World} {g:Nat} {c:Array Value} {t:TypeId} {L:List (Nat×Array Value)} (h:w.heap[g]? = some (.cells c t (0,0))) (hL:DAll w L):DAll w ((g,c)::L):=⟨⟨t,h⟩,hL⟩
theorem DAll.below {w w':World} (h:Below w.heap.size w w'):∀ {D:List (Nat×Array Value)},DAll w D→DAll w' D
 | [],_=>trivial
 | p::L,hD=>⟨hD.1.elim fun t ht=>⟨t,(h.block _ (Array.getElem?_eq_some_iff.1 ht).1).trans ht⟩,DAll.below h hD.2⟩
theorem DAll.at {w:World}:∀ {D:List (Nat×Array Value)},DAll w D→∀ {i g:Nat} {c:Array Value},D[i]? = some (g,c)→∃ t,w.heap[g]? = some (.cells c t (0,0))
 | [],_,i,g,c,h=>by cases h
 | p::L,hD,0,g,c,h=>by cases h;exact hD.1
 | p::L,hD,i+1,g,c,h=>hD.2.at (i:=i) (by simpa using h)
section
variable {n:Nat} {a:Act} {w:World} {V:Nat→Option Value} {D:List (Nat×Array Value)} {o:Oper}
theorem plV_ok (F:∀ t v,V t=some v→a.eval (.tmp t)=v) (hD:DAll w D) {i:Nat} {v:Value} {e:Option (Nat×Nat)} (h:plV Tryz.prog V D o i=some (v,e)) (he:∀ g g',e=some (g,g')→g=g'):(execOp a.eval o).run Tryz.prog w=.ok (.value v) w:=by
 unfold plV at h
 split at h
 ·rename_i x ho
  cases hx:evO V x with
  | none=>rw [hx] at h;cases h
  | some u=>rw [hx] at h;cases h;exact zla x (.inl ho) (z3b F hx)
 ·rename_i x ho
  cases hx:evO V x with
  | none=>rw [hx] at h;cases h
  | some u=>rw [hx] at h;cases h;exact zla x (.inr ho) (z3b F hx)
 ·rename_i c x y ho
  split at h
  ·rename_i hc
   cases hx:evO V x with
   | none=>rw [hx] at h;cases h
   | some u=>rw [hx] at h;cases h;exact zpb ho (z3b F hc) (z3b F hx)
  ·rename_i hc
   cases hx:evO V y with
   | none=>rw [hx] at h;cases h
   | some u=>rw [hx] at h;cases h;exact z0b ho (z3b F hc) (z3b F hx)
  ·cases h
 ·rename_i x k ho
  split at h
  ·rename_i vs hx
   cases hv:vs[k]? with
   | none=>rw [hv] at h;cases h
   | some u=>rw [hv] at h;cases h;exact y_ext x k ho (z3b F hx) hv
  ·cases h
 ·rename_i t x ho
  split at h
  ·rename_i b hx
   cases h;exact zgb t x ho (z3b F hx)
  ·cases h
 ·rename_i b ty x y tz ho
  split at h
  ·rename_i k p k' q hx hy
   split at h
   ·rename_i ek hek
    subst ek
    split at h
    ·cases h;exact zka _ _ _ _ ho (z3b F hx) (z3b F hy) rfl
    ·cases h;exact y_leq _ _ _ _ ho (z3b F hx) (z3b F hy) rfl
    ·cases h;exact zbc _ _ _ _ ho (z3b F hx) (z3b F hy) rfl
    ·cases h;exact y_geq _ _ _ _ ho (z3b F hx) (z3b F hy) rfl
    ·split at h
     ·rename_i k2 hu
      split at h
      ·rename_i e2 _
       subst e2
       cases h;exact zza _ _ _ _ ho (z3b F hx) (z3b F hy) hu rfl
      ·cases h
     ·cases h
    ·split at h
     ·rename_i k2 hu
      split at h
      ·rename_i e2 _
       subst e2
       cases h;exact y_neI _ _ _ _ ho (z3b F hx) (z3b F hy) hu rfl
      ·cases h
     ·cases h
    ·cases h
   ·cases h
  ·cases h
 ·rename_i x ho
  split at h
  ·rename_i p hx
   cases h
   unfold execOp
   simp only [ho,z3b F hx]
   rfl
  ·cases h
 ·rename_i s x f ho
  split at h
  ·rename_i g k off hx hoff
   cases h
   unfold execOp
   simp only [ho,z3b F hx,Sem.run_bind,off_ok hoff,Result.andThen_ok,Sem.run_pure]
  ·cases h
 ·rename_i ty x ho
  split at h
  ·rename_i g k g' c d hx hd hu
   split at h
   ·rename_i hp
    cases hv:c[k]? with
    | none=>rw [hv] at h;cases h
    | some u=>
     rw [hv] at h
     cases h
     have eg:=he _ _ rfl
     subst eg
     obtain ⟨t,hg⟩:=hD.at hd
     exact zda ty x ho (z3b F hx) hg hv hu hp
   ·rename_i hp
    split at h
    ·rename_i inf hi
     split at h
     ·rename_i hle
      cases h
      have eg:=he _ _ rfl
      subst eg
      obtain ⟨t,hg⟩:=hD.at hd
      have hle':k+inf.size≤c.size:=Nat.le_of_ble_eq_true hle
      refine zjb ty x ho (z3b F hx) hg _ (fun j u hj=>?_) hu hp (by rw [hi];simp;omega)
      simp only [List.getElem?_toArray,List.getElem?_take,List.getElem?_drop,Array.getElem?_toList] at hj
      split at hj
      ·exact hj
      ·cases hj
     ·cases h
    ·cases h
  ·cases h
 ·cases h
variable {ops:Array Oper}
theorem wnV_ok (F:∀ t v,V t=some v→a.eval (.tmp t)=v) {b:Bool} (h:wnV ops V o=some b):Region.wanted o (yielded ops a.tmps)=b:=by
 unfold wnV at h
 split at h
 ·rename_i hg
  cases h
  exact wanted_none hg
 ·rename_i g c hg
  split at h
  ·cases h
  ·rename_i d hd
   cases ho:ops[g]? with
   | none=>rw [ho] at hd;cases hd
   | some og=>
    rw [ho] at hd
    have hd:og.dst=some d:=hd
    split at h
    ·rename_i x hx
     cases h
     exact wanted_by hg ho hd (F d _ hx)
    ·rename_i vs hx
     split at h
     ·rename_i hz
      cases h
      have e:vs=#[]:=Array.eq_empty_of_size_eq_zero (Nat.eq_of_beq_eq_true hz)
      subst e
      exact wanted_un hg ho hd (F d _ hx)
     ·cases h
    ·cases h
theorem rm {Q:Exit→Act→World→Prop} {V:List (Nat×Value)} {rest:List Oper} {d:Nat} {v:Value} (h:mvV (look V) n ops o=some (d,v)) (F:Fx n a V ds) (hc:∀ a',Fx n a' ((d,v)::V) ds→wpList Tryz.prog ops Q rest a' w):wpList Tryz.prog ops Q (o::rest) a w:=by
 unfold mvV at h
 split at h
 ·rename_i e hd
  split at h
  ·rename_i hn
   split at h
   ·rename_i hw
    split at h
    ·rename_i x ho
     split at h
     ·rename_i u hx
      cases h
      exact zc (wnV_ok F.at_ hw) hd F hn v (zla x (.inl ho) (z3b F.at_ hx)) hc
     ·cases h
    ·rename_i x ho
     split at h
     ·rename_i u hx
      cases h
      exact zc (wnV_ok F.at_ hw) hd F hn v (zla x (.inr ho) (z3b F.at_ hx)) hc
     ·cases h
    ·cases h
   ·rename_i hw
    cases h
    exact wl_skip (wnV_ok F.at_ hw) hd F hn hc
   ·cases h
  ·cases h
 ·cases h
end
def exV (P:Program) (n:Nat) (ops:Array Oper) (D:List (Nat×Array Value)):List Oper→List Nat→List (Nat×Value)→Option (List (Nat×Value)×List (Nat×Nat))
 | [],_,V=>some (V,[])
 | o::r,Ls,V=>match o.dst with
  | none=>none
  | some d=>match Nat.blt d n with
   | false=>none
   | true=>match wnV ops (look V) o with
    | some true=>match plV P (look V) D o (Ls.headD 0) with
     | some (v,none)=>exV P n ops D r Ls ((d,v)::V)
     | some (v,some e)=>match exV P n ops D r Ls.tail ((d,v)::V) with
      | some (V2,E)=>some (V2,e::E)
      | none=>none
     | none=>none
    | some false=>exV P n ops D r Ls ((d,undef)::V)
    | none=>none
section
variable {n:Nat} {w:World} {D:List (Nat×Array Value)} {ops:Array Oper} {Q:Exit→Act→World→Prop}
theorem exV_ok (hD:DAll w D):∀ (l:List Oper) (Ls:List Nat) (V V2:List (Nat×Value)) (E:List (Nat×Nat)) (rest:List Oper) (a:Act),exV Tryz.prog n ops D l Ls V=some (V2,E)→(∀ p∈E,p.1=p.2)→Fx n a V ds →
  (∀ a',Fx n a' V2 ds→wpList Tryz.prog ops Q rest a' w)→wpList Tryz.prog ops Q (l++rest) a w
 | [],_,V,V2,E,rest,a,h,_,F,hc=>by cases h;exact hc a F
 | o::r,Ls,V,V2,E,rest,a,h,he,F,hc=>by
  unfold exV at h
  split at h
  ·cases h
  ·rename_i d hd
   split at h
   ·cases h
   ·rename_i hn
    split at h
    ·rename_i hw
     split at h
     ·rename_i v hv
      exact zc (wnV_ok F.at_ hw) hd F hn v (plV_ok F.at_ hD hv (fun _ _ e=>by cases e)) fun a' F'=>exV_ok hD r Ls _ V2 E rest a' h he F' hc
     ·rename_i v e hv
      split at h
      ·rename_i V3 E3 h3
       cases h
       refine zc (wnV_ok F.at_ hw) hd F hn v (plV_ok F.at_ hD hv (fun g g' eq=>?_)) fun a' F'=>exV_ok hD r Ls.tail _ _ E3 rest a' h3 (fun p hp=>he p (List.mem_cons_of_mem _ hp)) F' hc
       cases eq
       exact he _ List.mem_cons_self
      ·cases h
     ·cases h
    ·rename_i hw
     exact wl_skip (wnV_ok F.at_ hw) hd F hn fun a' F'=>exV_ok hD r Ls _ V2 E rest a' h he F' hc
    ·cases h
theorem exS {V:List (Nat×Value)} {rest:List Oper} {a:Act} (k:Nat) (V':List (Nat×Value)) (Ls:List Nat) (hD:DAll w D) (gs:List Nat) (F:Fx n a V ds)
  (h:(exV Tryz.prog n ops D (rest.take k) Ls V).map (fun r=>(r.2.map (·.1),r.2.map (·.2),V'.map fun p=>look r.1 p.1))=some (gs,gs,V'.map fun p=>some p.2)) (hc:∀ a',Fx n a' V' ds→wpList Tryz.prog ops Q (rest.drop k) a' w):wpList Tryz.prog ops Q rest a w:=by
 cases he:exV Tryz.prog n ops D (rest.take k) Ls V with
 | none=>rw [he] at h;cases h
 | some r=>
  obtain ⟨V2,E⟩:=r
  rw [he] at h
  simp only [Option.map_some,Option.some.injEq,Prod.mk.injEq] at h
  obtain ⟨h1,h2,h3⟩:=h
  rw [←List.take_append_drop k rest]
  refine exV_ok hD _ Ls V V2 E _ a he ?_ F fun a' F'=>hc a' ⟨F'.size,F'.defers,fun t v hv=>?_⟩
  ·intro p hp
   obtain ⟨i,hi⟩:=List.getElem?_of_mem hp
   have e1:(E.map (·.1))[i]? = (E.map (·.2))[i]?:=by rw [h1,h2]
   simpa [hi] using e1
  ·have key:∀ L:List (Nat×Value),(L.map fun p=>look V2 p.1)=(L.map fun p=>some p.2)→∀ t v,look L t=some v→look V2 t=some v:=by
    intro L
    induction L with
    | nil=>intro _ t v h;cases h
    | cons p L ih=>
     intro hL t v h
     simp only [List.map_cons,List.cons.injEq] at hL
     obtain ⟨p1,p2⟩:=p
     rw [zx] at h
     split at h
     ·rename_i e
      cases h;subst e;exact hL.1
     ·exact ih hL.2 t v h
   exact F'.at_ t v (key V' h3 t v hv)
theorem exA {V:List (Nat×Value)} {rest:List Oper} {a:Act} (k:Nat) (N:List (Nat×Value)) (Ls:List Nat) (hD:DAll w D) (gs:List Nat) (F:Fx n a V ds)
  (h:(exV Tryz.prog n ops D (rest.take k) Ls V).map (fun r=>(r.2.map (·.1),r.2.map (·.2),N.map fun p=>look r.1 p.1))=some (gs,gs,N.map fun p=>some p.2))
  (hw:((rest.take k).all fun o=>match o.dst with
   | some d=>(look N d).isSome||(look V d).isNone
   | none=>false)=true) (hc:∀ a',Fx n a' (N++V) ds→wpList Tryz.prog ops Q (rest.drop k) a' w):wpList Tryz.prog ops Q rest a w:=by
 cases he:exV Tryz.prog n ops D (rest.take k) Ls V with
 | none=>rw [he] at h;cases h
 | some r=>
  obtain ⟨V2,E⟩:=r
  rw [he] at h
  simp only [Option.map_some,Option.some.injEq,Prod.mk.injEq] at h
  obtain ⟨h1,h2,h3⟩:=h
  rw [←List.take_append_drop k rest]
  have hold:∀ (l:List Oper) (Ls:List Nat) (V V2:List (Nat×Value)) (E:List (Nat×Nat)),exV Tryz.prog n ops D l Ls V=some (V2,E)→∀ t,(∀ o∈l,o.dst≠some t)→look V2 t=look V t:=by
   intro l
   induction l with
   | nil=>intro Ls V V2 E h t _;cases h;rfl
   | cons o r ih=>
    intro Ls V V2 E h t ht
    have hr:=fun o' ho'=>ht o' (List.mem_cons_of_mem _ ho')
    have ho:=ht o List.mem_cons_self
    unfold exV at h
    split at h
    ·cases h
    ·rename_i d hd
     have hdt:¬d=t:=fun e=>ho (by rw [hd,e])
     have step:∀ v,look ((d,v)::V) t=look V t:=fun v=>by rw [zx,if_neg hdt]
     split at h
     ·cases h
     ·split at h
      ·split at h
       ·exact (ih _ _ _ _ h t hr).trans (step _)
       ·split at h
        ·rename_i V3 E3 h3
         cases h
         exact (ih _ _ _ _ h3 t hr).trans (step _)
        ·cases h
       ·cases h
      ·exact (ih _ _ _ _ h t hr).trans (step _)
      ·cases h
  refine exV_ok hD _ Ls V V2 E _ a he ?_ F fun a' F'=>hc a' ⟨F'.size,F'.defers,fun t v hv=>?_⟩
  ·intro p hp
   obtain ⟨i,hi⟩:=List.getElem?_of_mem hp
   have e1:(E.map (·.1))[i]? = (E.map (·.2))[i]?:=by rw [h1,h2]
   simpa [hi] using e1
  ·have key:∀ L:List (Nat×Value),(L.map fun p=>look V2 p.1)=(L.map fun p=>some p.2)→∀ t v,look (L++V) t=some v→look V2 t=some v∨(look L t=none∧look V t=some v):=by
    intro L
    induction L with
    | nil=>intro _ t v h;exact .inr ⟨rfl,h⟩
    | cons p L ih=>
     intro hL t v h
     simp only [List.map_cons,List.cons.injEq] at hL
     obtain ⟨p1,p2⟩:=p
     rw [List.cons_append,zx] at h
     rw [zx]
     split at h
     ·rename_i e
      cases h;subst e;exact .inl hL.1
     ·rename_i e
      rcases ih hL.2 t v h with h | h
      ·exact .inl h
      ·exact .inr ⟨by rw [if_neg e];exact h.1,h.2⟩
   refine F'.at_ t v ?_
   rcases key N h3 t v hv with h | ⟨hn,hV⟩
   ·exact h
   ·rw [hold _ Ls V V2 E he t fun o ho e=>?_]
    ·exact hV
    ·have:=List.all_eq_true.1 hw o ho
     rw [e] at this
     simp only [hn,hV] at this
     cases this
theorem zB {V:List (Nat×Value)} {rest:List Oper} {a:Act} (k:Nat) (V':List (Nat×Value)) (Ls:List Nat) (hD:DAll w D) (gs:List Nat) (F:Fx n a V ds) (hc:∀ a',Fx n a' V' ds→wpList Tryz.prog ops Q (rest.drop k) a' w)
    (h:(exV Tryz.prog n ops D (rest.take k) Ls V).map (fun r=>(r.2.map (·.1),r.2.map (·.2),V'.map fun p=>look r.1 p.1))=some (gs,gs,V'.map fun p=>some p.2):=by kernel_rfl):wpList Tryz.prog ops Q rest a w:=exS k V' Ls hD gs F h hc
theorem zAx {V:List (Nat×Value)} {rest:List Oper} {a:Act} (k:Nat) (N:List (Nat×Value)) (Ls:List Nat) (hD:DAll w D) (gs:List Nat) (F:Fx n a V ds) (hc:∀ a',Fx n a' (N++V) ds→wpList Tryz.prog ops Q (rest.drop k) a' w)
    (h:(exV Tryz.prog n ops D (rest.take k) Ls V).map (fun r=>(r.2.map (·.1),r.2.map (·.2),N.map fun p=>look r.1 p.1))=some (gs,gs,N.map fun p=>some p.2):=by kernel_rfl)
    (hw:((rest.take k).all fun o=>match o.dst with
      | some d=>(look N d).isSome||(look V d).isNone
      | none=>false)=true:=by kernel_rfl):wpList Tryz.prog ops Q rest a w:=exA k N Ls hD gs F h hw hc
end
def toK:Value⊕StK→StK
 | .inl v=>StK.eq v
 | .inr s=>s
def SK (l:List (Value⊕StK)):List StK:=l.map toK
def lkE (Vs:List (Value⊕StK)) (j:Nat):Option Value:=match Vs[j]? with
 | some (.inl v)=>some v
 | _=>none
theorem lkE_ok {Vs:List (Value⊕StK)} {j:Nat} {v:Value} (h:lkE Vs j=some v) (w:World) (x:Value):stYK (SK Vs) j w x↔x=v:=by
 unfold lkE at h
 split at h
 ·rename_i u hu
  cases h
  unfold stYK SK
  rw [List.getElem?_map,hu]
  exact Iff.rfl
 ·cases h
def lkT (L:List Oper) (m:Nat) (Vs:List (Value⊕StK)) (V:List (Nat×Value)) (o:Oper) (t:Nat):Option Value:=match (o.looksAt L.toArray).contains t with
 | true=>match depOf (L.take m) t with
  | some j=>lkE Vs j
  | none=>look V t
 | false=>none
def stV (P:Program) (ops:Array Oper) (lk:Nat→Option Value) (D:List (Nat×Array Value)) (o:Oper) (i:Nat):Option (Value×Option (Nat×Nat)):=match wnV ops lk o with
 | some true=>plV P lk D o i
 | some false=>some (undef,none)
 | none=>none
theorem hopP {L:List Oper} {m:Nat} {Q:Exit→Act→World→Prop} {Vs:List (Value⊕StK)} {V:List (Nat×Value)} {n:Nat} {a0:Act} {W:World} {k:Nat} {o:Oper} {D:List (Nat×Array Value)} (F:Fx n a0 V ds) (hD:DAll W D) (i:Nat) (gs:Option Nat)
  (h:(stV Tryz.prog L.toArray (lkT L m Vs V o) D o i).map (fun r=>(some r.1,r.2.map (·.1),r.2.map (·.2)))=some (lkE Vs k,gs,gs):=by kernel_rfl):HopT Tryz.prog L m Q (stYK (SK Vs)) a0 W k o:=by
 intro a w hb hd
 have hlk:∀ t v,lkT L m Vs V o t=some v→a.eval (.tmp t)=v:=by
  intro t v ht
  unfold lkT at ht
  split at ht
  ·rename_i hc
   have hs:=hd t (by simpa using hc)
   unfold SlotOk at hs
   split at ht
   ·rename_i j hj
    rw [hj] at hs
    exact (lkE_ok ht w _).1 hs
   ·rename_i hj
    rw [hj] at hs
    exact (show a.eval (.tmp t)=a0.eval (.tmp t) from hs).trans (F.at_ t v ht)
  ·cases ht
 cases hst:stV Tryz.prog L.toArray (lkT L m Vs V o) D o i with
 | none=>rw [hst] at h;cases h
 | some r=>
  obtain ⟨v,e⟩:=r
  rw [hst] at h
  simp only [Option.map_some,Option.some.injEq,Prod.mk.injEq] at h
  obtain ⟨hv,h1,h2⟩:=h
  have hF:∀ w',stYK (SK Vs) k w' v:=fun w'=>(lkE_ok hv.symm w' v).2 rfl
  unfold stV at hst
  split at hst
  ·rename_i hw
   have hw':=wnV_ok hlk hw
   refine z9b (F:=stYK (SK Vs) k) hw' v (plV_ok hlk (hD.below hb) hst fun g g' eq=>?_) (hF w)
   subst eq
   rw [←h2] at h1
   exact Option.some.inj h1
  ·rename_i hw
   cases hst
   rw [wnV_ok hlk hw]
   exact hF w
  ·cases hst
theorem hop0 {L:List Oper} {m:Nat} {Q:Exit→Act→World→Prop} {Vs:List (Value⊕StK)} {V:List (Nat×Value)} {n:Nat} {a0:Act} {W:World} {k:Nat} {o:Oper} (F:Fx n a0 V ds)
  (h:(stV Tryz.prog L.toArray (lkT L m Vs V o) [] o 0).map (fun r=>(some r.1,r.2.map (·.1),r.2.map (·.2)))=some (lkE Vs k,none,none):=by kernel_rfl):HopT Tryz.prog L m Q (stYK (SK Vs)) a0 W k o:=hopP F (D:=[]) dnil 0 none h
def EvAll (a:Act):List (Nat×Value)→Prop
 | []=>True
 | p::l=>a.eval (.tmp p.1)=p.2∧EvAll a l
theorem evAll_of {a:Act} {lk:Nat→Option Value} (hlk:∀ t v,lk t=some v→a.eval (.tmp t)=v):∀ {xs:List (Nat×Value)},xs.map (fun p=>lk p.1)=xs.map (fun p=>some p.2)→EvAll a xs
 | [],_=>trivial
 | p::l,h=>by
  simp only [List.map_cons,List.cons.injEq] at h
  exact ⟨hlk _ _ h.1,evAll_of hlk h.2⟩
theorem evAll_args {a:Act}:∀ {xs:List (Nat×Value)},EvAll a xs→(xs.map fun p=>a.eval (.tmp p.1))=xs.map (·.2)
 | [],_=>rfl
 | p::l,h=>by
  simp only [List.map_cons,List.cons.injEq]
  exact ⟨h.1,evAll_args h.2⟩
theorem lkT_ok {L:List Oper} {m:Nat} {Vs:List (Value⊕StK)} {V:List (Nat×Value)} {n:Nat} {a0 a:Act} {w:World} {o:Oper} (F:Fx n a0 V ds) (hd:∀ t∈o.looksAt L.toArray,SlotOk (L.take m) (stYK (SK Vs)) a0 a w t):∀ t v,lkT L m Vs V o t=some v→a.eval (.tmp t)=v:=by
 intro t v ht
 unfold lkT at ht
 split at ht
 ·rename_i hc
  have hs:=hd t (by simpa using hc)
  unfold SlotOk at hs
  split at ht
  ·rename_i j hj
   rw [hj] at hs
   exact (lkE_ok ht w _).1 hs
  ·rename_i hj
   rw [hj] at hs
   exact (show a.eval (.tmp t)=a0.eval (.tmp t) from hs).trans (F.at_ t v ht)
 ·cases ht
theorem hopR {L:List Oper} {m:Nat} {Q:Exit→Act→World→Prop} {Vs:List (Value⊕StK)} {V:List (Nat×Value)} {n:Nat} {a0:Act} {W:World} {k:Nat} {o:Oper} (F:Fx n a0 V ds) (xs:List (Nat×Value)) {v:Value} (hr:∀ a w,Below W.heap.size W w→EvAll a xs→(execOp a.eval o).run Tryz.prog w=.ok (.value v) w)
  (h:(wnV L.toArray (lkT L m Vs V o) o,xs.map (fun p=>lkT L m Vs V o p.1),lkE Vs k)=(some true,xs.map (fun p=>some p.2),some v):=by kernel_rfl):HopT Tryz.prog L m Q (stYK (SK Vs)) a0 W k o:=by
 intro a w hb hd
 have h1:wnV L.toArray (lkT L m Vs V o) o=some true:=congrArg Prod.fst h
 have h2:xs.map (fun p=>lkT L m Vs V o p.1)=xs.map (fun p=>some p.2):=congrArg (fun q=>q.2.1) h
 have h3:lkE Vs k=some v:=congrArg (fun q=>q.2.2) h
 have hlk:=lkT_ok F hd
 exact z9b (F:=stYK (SK Vs) k) (wnV_ok hlk h1) v (hr a w hb (evAll_of hlk h2)) ((lkE_ok h3 w v).2 rfl)
theorem hopC {L:List Oper} {m:Nat} {Q:Exit→Act→World→Prop} {Vs:List (Value⊕StK)} {V:List (Nat×Value)} {n:Nat} {a0:Act} {W:World} {k:Nat} {o:Oper} (F:Fx n a0 V ds) (xs:List (Nat×Value)) {v:Value} {f:FuncId} {ts:Array TypeId} (ho:o.op=.call { callee:=.value (.func f),args:=(xs.map fun p=>Operand.tmp p.1).toArray,argTypes:=ts }) (hent:∀ args w,(callFunc f args).run Tryz.prog w=.ok (.enter f args) w)
  (hc:∀ w,Below W.heap.size W w→Calls Tryz.prog f (xs.map (·.2)).toArray w fun e w'=>e=.returned v∧Below w.heap.size w w')
  (h:(wnV L.toArray (lkT L m Vs V o) o,xs.map (fun p=>lkT L m Vs V o p.1),lkE Vs k)=(some true,xs.map (fun p=>some p.2),some v):=by kernel_rfl):HopT Tryz.prog L m Q (stYK (SK Vs)) a0 W k o:=by
 intro a w hb hd
 have h1:wnV L.toArray (lkT L m Vs V o) o=some true:=congrArg Prod.fst h
 have h2:xs.map (fun p=>lkT L m Vs V o p.1)=xs.map (fun p=>some p.2):=congrArg (fun q=>q.2.1) h
 have h3:lkE Vs k=some v:=congrArg (fun q=>q.2.2) h
 have hlk:=lkT_ok F hd
 have he:=evAll_args (evAll_of hlk h2)
 have hv:((xs.map fun p=>Operand.tmp p.1).toArray).map a.eval=(xs.map (·.2)).toArray:=by
  rw [←he,List.map_toArray,List.map_map];rfl
 have hq:=(hc w hb).mono fun e w' h=>(show ∃ u,e=.returned u∧Below w.heap.size w w'∧stYK (SK Vs) k w' u from ⟨v,h.1,h.2,(lkE_ok h3 w' v).2 rfl⟩)
 exact z6b (F:=stYK (SK Vs) k) (wnV_ok hlk h1) hb.size ho _ hv hent hq
end
section
open Go.Shelf
section
variable {a:Act} {w:World} {o:Oper} {p q z:Int} (ty tz:TypeId) (x y:Operand)
theorem y_quoI (ho:o.op=.binOp .quo ty x y tz) (hx:a.eval x=zI p) (hy:a.eval y=zI q) (hp:0≤p∧p<9223372036854775808) (hq:0<q) (hz:p / q=z):(execOp a.eval o).run Tryz.prog w=.ok (.value (zI z)) w:=by
 have e1:p.tdiv q=z:=by rw [Int.tdiv_eq_ediv_of_nonneg hp.1];exact hz
 have h0:q≠0:=by omega
 have h2:0≤z∧z≤p:=by subst hz;exact ⟨Int.ediv_nonneg hp.1 (by omega),Int.ediv_le_self _ hp.1⟩
 unfold execOp;simp only [ho,hx,hy];simp [go_sem,h0,e1,Go.IntWalk.i64_in z (by omega)]
theorem y_remI (ho:o.op=.binOp .rem ty x y tz) (hx:a.eval x=zI p) (hy:a.eval y=zI q) (hp:0≤p) (hq:0<q∧q<9223372036854775808) (hz:p%q=z):(execOp a.eval o).run Tryz.prog w=.ok (.value (zI z)) w:=by
 have e1:p.tmod q=z:=by rw [Int.tmod_eq_emod_of_nonneg hp];exact hz
 have h0:q≠0:=by omega
 have h2:0≤z∧z<q:=by subst hz;exact ⟨Int.emod_nonneg _ h0,Int.emod_lt_of_pos _ hq.1⟩
 unfold execOp;simp only [ho,hx,hy];simp [go_sem,h0,e1,Go.IntWalk.i64_in z (by omega)]
theorem y_cvI {k k2:IntKind} (s d:TypeId) (ho:o.op=.convert s d x) (hx:a.eval x=.int k p) (hs:Tryz.prog.underlying s=some (.int k)) (hd:Tryz.prog.underlying d=some (.int k2)) (hz:k2.wrap p=z):(execOp a.eval o).run Tryz.prog w=.ok (.value (.int k2 z)) w:=by
 subst hz
 refine run_cv' s d x ho hx ?_
 simp [convert,run_underlying hs,run_underlying hd,go_sem]
theorem y_shrI {k kq:IntKind} (ho:o.op=.binOp .shr ty x y tz) (hx:a.eval x=.int k p) (hy:a.eval y=.int kq q) (hq:0≤q∧q≤k.bits) (hz:p / 2^q.toNat=z):(execOp a.eval o).run Tryz.prog w=.ok (.value (.int k z)) w:=by
 subst hz
 unfold execOp;simp only [ho,hx,hy];simp [go_sem,Go.shift_shr k kq p q hq.1 hq.2]
theorem y_shlI {k kq:IntKind} (ho:o.op=.binOp .shl ty x y tz) (hx:a.eval x=.int k p) (hy:a.eval y=.int kq q) (hq:0≤q∧q<k.bits) (hz:k.wrap (p*2^q.toNat)=z):(execOp a.eval o).run Tryz.prog w=.ok (.value (.int k z)) w:=by
 subst hz
 unfold execOp;simp only [ho,hx,hy];simp [go_sem,Go.shift_shl k kq p q hq.1 (Int.le_of_lt hq.2)]
theorem y_orU {k:IntKind} (ho:o.op=.binOp .or ty x y tz) (hx:a.eval x=.int k p) (hy:a.eval y=.int k q) (hz:bits .or k p q=z):(execOp a.eval o).run Tryz.prog w=.ok (.value (.int k z)) w:=by
 subst hz
 unfold execOp;simp only [ho,hx,hy];simp [go_sem]
theorem y_ixA (t:TypeId) {N:Nat} (hN:Tryz.prog.arrayLen t=N) (he:Tryz.prog.underlying t=some (.array (Tryz.prog.arrayLen t) (Tryz.prog.elem t))) (h1:(Tryz.prog.info? (Tryz.prog.elem t)).map (·.size)=some 1) (ho:o.op=.indexAddr t x y) {b i j c:Nat} (hx:a.eval x=(zP b c)) (hy:a.eval y=zI z) (hz:z=(i:Int)) (hi:i<N) (hj:c+i=j):(execOp a.eval o).run Tryz.prog w=.ok (.value (zP b j)) w:=by
 subst hz hN hj
 have hs:(sizeOf (Tryz.prog.elem t)).run Tryz.prog w=.ok 1 w:=by
  cases hq:Tryz.prog.info? (Tryz.prog.elem t) with
  | none=>simp [hq] at h1
  | some inf=>simp [sizeOf,typeInfo,hq];simpa [hq] using h1
 have h5:(i:Int)<(Tryz.prog.arrayLen t:Int):=by omega
 have hrun:(Instr.indexAt t (zP b c) (zI (i:Int))).run Tryz.prog w=.ok (zP b (c+i)) w:=by
  rw [run_indexAt_array (h:=he),if_pos ⟨by omega,h5⟩,hs]
  simp only [Result.andThen_ok,Nat.mul_one,Int.toNat_natCast,zna]
 unfold execOp
 simp only [ho,hx,hy,Sem.run_bind,hrun,Result.andThen_ok,Sem.run_pure]
end
end
section
open Go.Shelf
variable {ds:List Deferred}
def AllIn {α:Type} (V:List (Nat×α)):List (Nat×α)→Prop
 | []=>True
 | p::L=>look V p.1=some p.2∧AllIn V L
theorem AllIn.look {α:Type} {V:List (Nat×α)}:∀ {L:List (Nat×α)},AllIn V L→∀ t v,look L t=some v→look V t=some v
 | [],_,t,v,e=>by cases e
 | (k,x)::L,h,t,v,e=>by
  rw [zx] at e
  by_cases c:k=t
  ·rw [if_pos c] at e
   subst c
   exact h.1.trans e
  ·rw [if_neg c] at e
   exact AllIn.look h.2 t v e
theorem Fx.sub {n:Nat} {a:Act} {V V':List (Nat×Value)} (F:Fx n a V ds) (h:AllIn V V'):Fx n a V' ds:=F.eq h.look
theorem Mx.sub {G:Option Nat} {w0 w:World} {R R':List (Nat×Res)} (M:Mx G w0 w R) (h:AllIn R R'):Mx G w0 w R':=M.drop h.look
theorem zeb {α:Type} {P:Program} {Q:Exit→Act→World→Prop} {a:Act} {w w0:World} {c:Code} {n:Nat} {G:Option Nat} (V:α→List (Nat×Value)) (R:α→List (Nat×Res)) (X:Nat→α→Prop) (k0:Nat) (x0:α) (h0:X k0 x0) (F:Fx n a (V x0) ds) (M:Mx G w0 w (R x0))
  (round:∀ k x a w (K:Act→World→Prop),X k x→Fx n a (V x) ds→Mx G w0 w (R x)→(∀ k' x' a' w',k'<k→X k' x'→Fx n a' (V x') ds→Mx G w0 w' (R x')→K a' w')→c.wp P (Exit.then K Q) a w):(Code.loop c).wp P Q a w:=
 wp_loop_ghost (fun k a w=>∃ x,X k x∧Fx n a (V x) ds∧Mx G w0 w (R x)) k0 ⟨x0,h0,F,M⟩ fun k a w ⟨x,hx,F,M⟩=>
  round k x a w _ hx F M fun k' x' a' w' hk hx' F' M'=>⟨k',hk,x',hx',F',M'⟩
end
def zy (n:Int):List UInt8:=(List.range 8).map fun j=>zj (n / 2^(8*(7-j)))
theorem zja (n:Int):(zy n).length=8:=by simp [zy]
def part8 (n:Int) (k:Nat):List UInt8:=(List.range 8).map fun j=>if 7-j<k then zj (n / 2^(8*(7-j))) else 0
theorem part8_len (n:Int) (k:Nat):(part8 n k).length=8:=by simp [part8]
theorem part8_zero (n:Int):part8 n 0=List.replicate 8 0:=by simp [part8];rfl
theorem part8_all (n:Int):part8 n 8=zy n:=by
 unfold part8 zy
 apply List.map_congr_left
 intro j _
 rw [if_pos (by omega)]
theorem part8_set (n:Int) {k:Nat} (hk:k<8):(part8 n k).set (7-k) (zj (n / 2^(8*k)))=part8 n (k+1):=by
 apply List.ext_getElem?
 intro q
 unfold part8
 rw [List.getElem?_set]
 simp only [List.length_map,List.length_range,List.getElem?_map]
 by_cases hq:q<8
 ·rw [List.getElem?_range hq]
  simp only [Option.map_some]
  by_cases h:7-k=q
  ·subst h
   rw [if_pos rfl,if_pos hq,if_pos (by omega),show 7-(7-k)=k by omega]
  ·rw [if_neg h]
   by_cases h2:7-q<k
   ·rw [if_pos h2,if_pos (by omega)]
   ·rw [if_neg h2,if_neg (by omega)]
 ·have:(List.range 8)[q]? = none:=by rw [List.getElem?_eq_none_iff];simp;omega
  rw [this,if_neg (by omega)]
  rfl
theorem eightI_any (n:Int) (w:World):
  Calls Tryz.prog 67 #[zI n] w fun e w'=>∃ v,e=.returned v∧Byt w' w.heap.size v (zy n)∧Below w.heap.size w w':=by
 refine zk (args:=[zI n]) 22 Tryz.func67 rfl rfl rfl ?_
 intro fa F
 have M:=Mx.start w
 refine zT fun _ hK1=>rm rfl F fun _ F2=>hK1 _ _ (zSk fun _ hK3=>?_)
 refine zR (zwa rfl rfl F2 rfl (run_makeO M 0 _ _ rfl 8 rfl rfl rfl (by decide)) ?_)
 intro v4 a4 w4 F4 M4
 obtain ⟨A4,c4,rfl⟩:=(M4.isO (k:=0) rfl).shape
 refine rm rfl F4 fun _ F5=>hK3 _ _ (zSk fun _ hK6=>?_)
 refine zT fun _ hK7=>rm rfl F5 fun _ F8=>rn rfl rfl F8 rfl (zI 8) (z8a _ rfl (F8.get rfl) (M4.isO (k:=0) rfl) (by decide)) fun _ F9=>?_
 refine rm rfl F9 fun _ F10=>hK7 _ _ (wp_block ?_)
 have hz8:=part8_zero n
 replace M4:Mx _ _ w4 [(0,ownR (part8 n 0) (.slice A4 (List.replicate 8 (0:UInt8)).length c4))]:=(by rw [hz8];exact M4.sb)
 refine zeb (α:=Nat) (n:=22) (G:=none) (w0:=w) (fun x=>[(0,zI n),(2,zN),(5,.slice A4 ((List.replicate 8 0)).length c4),(3,.slice A4 ((List.replicate 8 0)).length c4),(6,.slice A4 ((List.replicate 8 0)).length c4),(7,zI 8),(8,zI (x:Int))]) (fun x=>[(0,ownR (part8 n x) (.slice A4 ((List.replicate 8 0)).length c4))]) (fun k x=>k=8-x∧(x≤8)) _ 0 ⟨rfl,(by omega)⟩ (F10.sb) (M4.sb) ?_
 rintro k11 jn a11 w11 K11 ⟨ek11,I11⟩ F11 M11 hK11
 replace F11:Fx 22 a11 [(0,zI n),(2,zN),(5,.slice A4 ((List.replicate 8 0)).length c4),(3,.slice A4 ((List.replicate 8 0)).length c4),(6,.slice A4 ((List.replicate 8 0)).length c4),(7,zI 8),(8,zI (jn:Int))]:=F11
 replace M11:Mx _ _ w11 [(0,ownR (part8 n jn) (.slice A4 ((List.replicate 8 0)).length c4))]:=M11
 replace I11:jn≤8:=I11
 replace ek11:k11=8-jn:=ek11
 by_cases hlt:jn<8
 rotate_left
 ·obtain rfl:jn=8:=by omega
  refine zT fun _ hK31=>rn rfl rfl F11 rfl (.bool false) (zka _ _ _ _ rfl (F11.get rfl) (F11.get rfl) (decide_eq_false (by decide))) fun _ F32=>?_
  refine hK31 _ _ (zSk fun _ hK33=>?_)
  refine wp_cond_false (F32 9 rfl) (wp_exit ?_)
  simp only [Exit.then,Exit.inBlock,↓reduceIte,Nat.reduceEqDiff]
  refine hK6 _ _ (zSk fun _ hK34=>?_)
  refine zR (rm rfl F32 fun _ F35=>rm rfl F35 fun _ F36=>hK34 _ _ (wp_ret ?_))
  exact bodyPost_ret (res1 rfl (F36.get rfl)) F36.defers ⟨_,rfl,(by have:=M11.byt (k:=0) rfl;rwa [part8_all] at this),M11.below⟩
 refine zT fun _ hK12=>rn rfl rfl F11 rfl (.bool true) (zka _ _ _ _ rfl (F11.get rfl) (F11.get rfl) (decide_eq_true (show (jn:Int)<8 by omega))) fun _ F13=>?_
 refine hK12 _ _ (zSk fun _ hK14=>?_)
 refine wp_cond_true (F13 9 rfl) (wp_skip (hK14 _ _ (zSk fun _ hK15=>?_)))
 refine wp_block (zT fun _ hK16=>rm rfl F13 fun _ F17=>rm rfl F17 fun _ F18=>hK16 _ _ (zR ?_))
 refine rm rfl F18 fun _ F19=>rm rfl F19 fun _ F20=>rn rfl rfl F20 rfl (zI (7-(jn:Int))) (z3c _ _ _ _ rfl rfl (F20.get rfl) rfl (by omega)) fun _ F21=>?_
 refine rm rfl F21 fun _ F22=>rm rfl F22 fun _ F23=>rn rfl rfl F23 rfl (zI (8*(jn:Int))) (y_mulI _ _ _ _ rfl rfl (F23.get rfl) rfl (by omega)) fun _ F24=>?_
 refine rn rfl rfl F24 rfl (zI (n / 2^(8*jn))) (y_shrI _ _ _ _ rfl (F24.get rfl) (F24.get rfl) (by show (0:Int)≤8*(jn:Int)∧8*(jn:Int)≤64;omega) (by rw [show (8*(jn:Int)).toNat=8*jn by omega])) fun _ F25=>?_
 refine rn rfl rfl F25 rfl (zY (((zj (n / 2^(8*jn))).toNat:Nat):Int)) (y_cvI _ _ _ rfl (F25.get rfl) Tryz.underlying3 Tryz.underlying5 (ztb _)) fun _ F26=>?_
 refine rn rfl rfl F26 rfl ((ixV (.slice A4 ((List.replicate 8 0)).length c4) (7-jn))) (y_ixB _ _ rfl (F26.get rfl) (M11.isO (k:=0) rfl) (F26.get rfl) (by omega) (by rw [part8_len];omega)) fun _ F27=>?_
 refine wl_doM rfl rfl F27 (run_setO M11 (k:=0) rfl _ _ rfl (F27.get rfl) (zj (n / 2^(8*jn))) (F27.get rfl) rfl (by rw [part8_len];omega)) ?_
 intro w28 M28
 refine hK15 _ _ (zR ?_)
 refine rn rfl rfl F27 rfl (zI ((jn+1:Nat):Int)) (zoa _ _ _ _ rfl (F27.get rfl) rfl (by omega) (by omega)) fun _ F29=>?_
 refine rm rfl F29 fun _ F30=>?_
 rw [part8_set n hlt] at M28
 subst ek11
 exact hK11 _ (jn+1) _ _ (by omega) ⟨rfl,(by omega)⟩ (F30.sb) (M28.sb)
theorem y_new_num {o:Oper} {a:Act} {w:World} (h:o.op=.alloc 35):(execOp a.eval o).run Tryz.prog w=.ok (.value (zO w.heap.size)) (w.alloc (.cells (numA 0) 35)):=by
 rw [←zeroA]
 unfold execOp
 simp only [h]
 kernel_rfl
def zbb (a:Nat):List UInt8:=(zhb a).drop 28
def protoB (p:Int):Bool:=decide (p=1∨p=2)
theorem zpa (g:Nat):¬bfp (zN) g:=fun ⟨o,s,n,c,e,_⟩=>by cases e
theorem bytes_own (a:Nat) (w:World):Calls Tryz.prog 103 #[numV a] w fun e w'=>∃ v,e=.returned v∧Byt w' w.heap.size v (zhb a)∧Below w.heap.size w w':=
 (bytes_any a w).mono fun e w' ⟨g,h1,h2,h3,h4⟩=>⟨_,h1,⟨by simp [zhb],.inr ⟨g,32,bvs (zhb a),by simp [zhb],h2,h3,by simp [zhb],by unfold maxLen;omega,by simp [bvs,zhb],by simp only [bvs,Nat.mul_one];exact List.take_of_length_le (by simp)⟩⟩,h4⟩
theorem four_any (a:Nat) (w:World):
  Calls Tryz.prog 74 #[numV a] w fun e w'=>∃ v,e=.returned v∧IsB w' (zbb a) v∧(∀ g,bfp v g→w.heap.size≤g)∧Below w.heap.size w w':=by
 refine zk (args:=[numV a]) 6 Tryz.func74 rfl rfl rfl ?_
 intro fa F
 have M:=Mx.start w
 refine zT fun _ hK1=>zq rfl rfl F rfl M 0 (t:=35) (c:=numA a) (by unfold execOp;simp only [(F 0 rfl)];kernel_rfl) ?_
 intro g2 a2 w2 F2 M2
 refine rm rfl F2 fun _ F3=>hK1 _ _ (zSk fun _ hK4=>?_)
 refine zR (rn rfl rfl F3 rfl (numV a) (zjb _ _ rfl (F3.get rfl) (M2.blk (k:=0) rfl) (numA a) (znb rfl) Tryz.underlying35 rfl z5b) fun _ F5=>?_)
 refine zh rfl rfl F5 rfl rfl (zE Tryz.func103 rfl) #[numV a] (zaa (F5.get rfl)) (bytes_own a w2) ?_
 rintro v6 w6 a6 h6 F6
 have M6:=M2.newO h6.2 1 h6.1
 clear M2 h6
 obtain ⟨A6,c6,rfl⟩:=(M6.isO (k:=1) rfl).shape
 refine zrc rfl rfl F6 rfl (y_slFrom _ _ rfl (F6.get rfl) (M6.isO (k:=1) rfl) rfl (i:=28) rfl (by simp [zhb])) ?_
 intro v7 a7 h7 F7
 have og8:=M6.owns (k:=1) rfl
 have M8:=M6.tame (k:=1) rfl
 have M7:=M8.partB 2 (k:=1) rfl h7.1 h7.2
 obtain ⟨A7,c7,rfl⟩:=(M7.isb (k:=2) rfl).shape
 refine rm rfl F7 fun _ F9=>hK4 _ _ (wp_ret ?_)
 exact bodyPost_ret (res1 rfl (F9.get rfl)) F9.defers ⟨_,rfl,M7.isb (k:=2) rfl,(fun g hg=>(fun g hg=>og8 g (zta hg)) g (h7.2 g hg)),M7.below⟩
theorem isProto_any (p:Int) (w:World):
  Calls Tryz.prog 100 #[zI p] w fun e w'=>e=.returned (.bool (protoB p))∧Below w.heap.size w w':=by
 by_cases h1:p=1
 ·rw [show protoB p=true by unfold protoB;exact decide_eq_true (.inl h1)]
  refine zk (args:=[zI p]) 9 Tryz.func100 rfl rfl rfl ?_
  intro fa F
  have M:=Mx.start w
  refine zT fun _ hK1=>rm rfl F fun _ F2=>hK1 _ _ (zSk fun _ hK3=>?_)
  refine zR (rm rfl F2 fun _ F4=>rn rfl rfl F4 rfl (.bool true) (zza _ _ _ _ rfl (F4.get rfl) rfl Tryz.underlying3 (zmb h1)) fun _ F5=>?_)
  refine zB 5 [(2,.bool true)] [] dnil [] F5 fun _ F6=>?_
  refine hK3 _ _ (wp_ret ?_)
  exact bodyPost_ret (res1 rfl (F6.get rfl)) F6.defers ⟨rfl,M.below⟩
 skip
 by_cases h2:p=2
 ·rw [show protoB p=true by unfold protoB;exact decide_eq_true (.inr h2)]
  refine zk (args:=[zI p]) 9 Tryz.func100 rfl rfl rfl ?_
  intro fa F
  have M:=Mx.start w
  refine zT fun _ hK1=>rm rfl F fun _ F2=>hK1 _ _ (zSk fun _ hK3=>?_)
  refine zR (rm rfl F2 fun _ F4=>rn rfl rfl F4 rfl (.bool false) (zza _ _ _ _ rfl (F4.get rfl) rfl Tryz.underlying3 (zib h1)) fun _ F5=>?_)
  refine rm rfl F5 fun _ F6=>rm rfl F6 fun _ F7=>zc (w':=w) (zd rfl rfl rfl (F7.get rfl)) rfl F7 rfl (.bool true) (zza _ _ _ _ rfl (F7.get rfl) rfl Tryz.underlying3 (zmb h2)) fun _ F8=>?_
  refine zB 2 [(2,.bool true)] [] dnil [] F8 fun _ F9=>?_
  refine hK3 _ _ (wp_ret ?_)
  exact bodyPost_ret (res1 rfl (F9.get rfl)) F9.defers ⟨rfl,M.below⟩
 rw [show protoB p=false by unfold protoB;exact decide_eq_false (by omega)]
 refine zk (args:=[zI p]) 9 Tryz.func100 rfl rfl rfl ?_
 intro fa F
 have M:=Mx.start w
 refine zT fun _ hK1=>rm rfl F fun _ F2=>hK1 _ _ (zSk fun _ hK3=>?_)
 refine zR (rm rfl F2 fun _ F4=>rn rfl rfl F4 rfl (.bool false) (zza _ _ _ _ rfl (F4.get rfl) rfl Tryz.underlying3 (zib h1)) fun _ F5=>?_)
 refine rm rfl F5 fun _ F6=>rm rfl F6 fun _ F7=>zc (w':=w) (zd rfl rfl rfl (F7.get rfl)) rfl F7 rfl (.bool false) (zza _ _ _ _ rfl (F7.get rfl) rfl Tryz.underlying3 (zib h2)) fun _ F8=>?_
 refine zB 2 [(2,.bool false)] [] dnil [] F8 fun _ F9=>?_
 refine hK3 _ _ (wp_ret ?_)
 exact bodyPost_ret (res1 rfl (F9.get rfl)) F9.defers ⟨rfl,M.below⟩
structure MsgN where
 k:Int
 p:Int
 c:Int
 e:Int
 s:ByteArray
 a:Nat
 b:Nat
 l5:List UInt8
 l6:List UInt8
 l7:List UInt8
 l8:List UInt8
 l9:List UInt8
structure MsgV where
 v5:Value
 v6:Value
 v7:Value
 v8:Value
 v9:Value
structure MsgIs (w:World) (m:MsgN) (V:MsgV):Prop where
 h5:IsB w m.l5 V.v5
 h6:IsB w m.l6 V.v6
 h7:IsB w m.l7 V.v7
 h8:IsB w m.l8 V.v8
 h9:IsB w m.l9 V.v9
theorem MsgIs.step {w w':World} {m:MsgN} {V:MsgV} (h:MsgIs w m V) (hb:Below w.heap.size w w'):MsgIs w' m V:=⟨h.h5.step hb,h.h6.step hb,h.h7.step hb,h.h8.step hb,h.h9.step hb⟩
section
open Go.Shelf
variable {ds:List Deferred}
section
variable {a:Act} {w:World} {o:Oper}
end
section
variable {P:Program} {ops:Array Oper} {Q:Exit→Act→World→Prop} {a:Act} {w w0:World} {rest:List Oper} {o:Oper} {n:Nat} {G:Option Nat} {V:List (Nat×Value)} {R:List (Nat×Res)}
theorem wl_allocS (hw:Region.wanted o (yielded ops a.tmps)=true) {d:Nat} (hd:o.dst=some d) (F:Fx n a V ds) (hn:Nat.blt d n=true) (M:Mx G w0 w R) (i:Nat) {t:TypeId} {c:Array Value} {k m:Nat} (hr:(execOp a.eval o).run P w=.ok (.value (.slice (some ⟨w.heap.size,0,none⟩) k m)) (w.alloc (.cells c t)))
  (h:∀ g a' w',Fx n a' ((d,.slice (some ⟨g,0,none⟩) k m)::V) ds→Mx G w0 w' ((i,blkR g t c)::R)→wpList P ops Q rest a' w'):wpList P ops Q (o::rest) a w:=
 zc hw hd F hn _ hr fun a' F'=>h _ a' _ F' (M.alloc i t c)
end
end
section
open Go.Shelf
def RecAt (l D:Nat) (o1 o2:Obj) (W:World):Prop:=W.heap[l]? = some o1∧W.heap[D]? = some o2∧o1.isCells=false∧o2.isCells=false
theorem RecAt.kept {l D:Nat} {o1 o2:Obj} {W W':World} (h:RecAt l D o1 o2 W) (hk:KeepsOthers W W'):RecAt l D o1 o2 W':=
 ⟨hk.same _ _ h.1 h.2.2.1,hk.same _ _ h.2.1 h.2.2.2,h.2.2⟩
def roundEnd (l:Nat) (W2:World) (R:World→Prop):Exit→Act→World→Prop
 | .normal,_,W3=>KeepsOthers W2 W3∧∀ o,R (W3.putObj l o)
 | _,_,_=>False
def zsb (w:World) (l:Nat):Prop:=∀ o',w.heap[l]? = some o'→o'.isCells=false
def MidOk (F:Fence) (n:Nat) (P:Program) (l:Nat) (body:Code) (W:World) (R:World→Prop) (a₁:Act) (W1:World):Prop:=
 KeepsOthers W W1∧∀ o,zsb W1 l→body.wpIn (F.inRound l) n P (roundEnd l (W1.putObj l o) R) a₁ (W1.putObj l o)
theorem wpIn_range {F:Fence} {n:Nat} {P:Program} {g:Operand} {ps:Array Tmp} {assign body:Code} {Q:Exit→Act→World→Prop} {a:Act} {w:World}
  (hro:F.round=none) (h1:1≤n) {gf:Nat} {lb:Array Value} (hg:a.eval g=.func (.func gf) #[] lb) (hFg:F.fn gf) (eg:∀ args w,(callFunc gf args).run P w=.ok (.enter gf args) w)
  {α:Type} (encs:α→Array Value) (hps:∀ x,(encs x).size=ps.size) (Pre:α→World→Prop) (Post:α→World→World→Prop) (Fin:World→Prop)
  (hround:∀ (l:Nat) (x:α) (W:World),w.heap.size<l→l<W.heap.size→Pre x W →
   assign.wpIn (F.inRound l) (n-1-1) P (Exit.then (MidOk F (n-1-1) P l body W (Post x W)) (fun _ _ _=>False)) { tmps:=(ps.zip (encs x)).foldl (fun t (p,v)=>t.setIfInBounds p v) a.tmps,defers:=[] } W)
  (hiter:∀ (l D:Nat) (o1 o2:Obj) (W1:World),D=w.heap.size→l=w.heap.size+1→W1=(w.alloc o2).alloc o1→RecAt l D o1 o2 W1 →
   (∀ x W,Pre x W→RecAt l D o1 o2 W→YieldAt F (n-1-1) P l (encs x) W fun e W'=>e=.returned (.bool true)∧RecAt l D o1 o2 W'∧Post x W W') →
   CallsIn F (n-1) P gf (#[.func (.yield l) #[] #[]]++lb) W1 fun e W'=>(∃ v,e=.returned v)∧RecAt l D o1 o2 W'∧Fin W')
  (hdone:∀ (l D:Nat) (o:Obj) (W:World),D=w.heap.size→l=w.heap.size+1→Fin W→l<W.heap.size→zsb W l→(W.putObj l o).heap[D]? = some (.deferred (some [])) →
   Q .normal { a with defers:={ target:=.collected D,args:=#[] }::a.defers } (W.putObj l o)):
  (Code.rangeFunc g ps assign body).wpIn F n P Q a w:=by
 refine wpIn_rangeFunc ?_
 intro fn hfn
 rw [hro]
 obtain ⟨rec,hrec⟩:∃ rec:LoopState→Option Code→Loop,rec=fun st pe=>{ state:=st,pending:=pe,fn,tmps:=a.tmps,params:=ps,assign,body,defers:=w.heap.size }:=⟨_,rfl⟩
 obtain ⟨W1,hW1⟩:∃ W1,(w.alloc (.deferred (some []))).alloc (.loop (rec .ready none))=W1:=⟨_,rfl⟩
 have hL1:W1.heap[w.heap.size+1]? = some (.loop (rec .ready none)):=by
  rw [←hW1];have:=World.alloc_heap_new (w.alloc (.deferred (some []))) (.loop (rec .ready none));rwa [World.size_alloc] at this
 have hK1:W1.heap[w.heap.size]? = some (.deferred (some [])):=by
  rw [←hW1];exact (Below.heap_alloc _ _ _ (by simp)).trans (World.alloc_heap_new w _)
 refine ⟨w.heap.size+1,[{ target:=.collected w.heap.size,args:=#[] }],W1,{ target:=.fn (.func gf) lb,args:=#[.func (.yield (w.heap.size+1)) #[] #[]] },W1,gf,
  #[.func (.yield (w.heap.size+1)) #[] #[]]++lb,W1,?_,?_,?_,?_,fun _=>h1,?_⟩
 ·rw [←hW1,hrec];exact run_enterLoop_outer _ _ _ _ _
 ·simp only [resolve,hg]
  simp [go_sem]
 ·intro f' hf';simp [Target.leads] at hf';subst hf';exact hFg
 ·simp [invoke,go_sem,eg]
 ·refine (hiter (w.heap.size+1) w.heap.size (.loop (rec .ready none)) (.deferred (some [])) W1 rfl rfl hW1.symm ⟨hL1,hK1,rfl,rfl⟩ ?_).mono ?_
  ·rintro x W hpre ⟨hl,hk,-,-⟩
   have hlt:w.heap.size+1<W.heap.size:=(Array.getElem?_eq_some_iff.1 hl).1
   have hy:=run_yield (P:=P) (args:=encs x) hl (by rw [hrec];exact hps x)
   rw [hrec] at hy
   refine ⟨fn,_,assign,body,hy,roundIn_of_wpIn hfn (wpIn_mono (hround (w.heap.size+1) x W (by omega) hlt hpre) ?_)⟩
   rintro e a1 W2 hp
   cases e with
   | normal=>
    obtain ⟨hk2,hb⟩:=hp
    have hl2:=hk2.same _ _ hl rfl
    have hd2:=hk2.same _ _ hk rfl
    have hlt2:=(Array.getElem?_eq_some_iff.1 hl2).1
    refine ⟨_,run_beginRound hl2 (by rw [hrec]),?_⟩
    refine wpIn_mono (hb (.loop { rec .ready none with state:=.busy }) (fun o' ho'=>by rw [hl2] at ho';cases ho';rfl)) ?_
    rintro e3 a3 W3 hp3
    cases e3 with
    | normal=>
     obtain ⟨hk3,hR⟩:=hp3
     have hl3:W3.heap[w.heap.size+1]? = some (.loop { rec .ready none with state:=.busy }):=hk3.same _ _ (World.putObj_heap_same hlt2) rfl
     have hd3:W3.heap[w.heap.size]? = some (.deferred (some [])):=hk3.same _ _ ((World.putObj_heap_other (by omega)).trans hd2) rfl
     have hend:=run_endRound (P:=P) none hl3
     rw [hrec] at hend
     refine ⟨_,_,hend,rfl,⟨?_,?_,rfl,rfl⟩,hR _⟩
     ·rw [hrec];exact World.putObj_heap_same (Array.getElem?_eq_some_iff.1 hl3).1
     ·exact (World.putObj_heap_other (by omega)).trans hd3
    | _=>exact hp3.elim
   | _=>exact hp.elim
  ·rintro e W2 ⟨⟨v,rfl⟩,⟨hl,hk,-,-⟩,hf⟩
   refine ⟨none,_,by have:=run_endLoop (P:=P) hl (by rw [hrec];simp);rw [hrec] at this;exact this,?_⟩
   exact hdone (w.heap.size+1) w.heap.size _ W2 rfl rfl hf (Array.getElem?_eq_some_iff.1 hl).1 (fun o' ho'=>by rw [hl] at ho';cases ho';rfl) ((World.putObj_heap_other (by omega)).trans hk)
theorem wpListIn_load_run {F:Fence} {n:Nat} {P:Program} {w:World} {ops:Array Oper} {rest:List Oper} {o:Oper} {a:Act} {Q:Exit→Act→World→Prop} (hg:o.guard=none) (ty:TypeId) (x:Operand) (ho:o.op=.load ty x) {u v:Value} (hx:a.eval x=u)
  (hr:(Instr.loadAt ty u).run P w=.ok v w) (h:wpListIn F n P ops Q rest (a.put o.dst v) w):wpListIn F n P ops Q (o::rest) a w:=by
 refine wpListIn_plain hg fun K hK=>?_
 unfold Oper.wpIn
 refine ⟨?_,?_⟩
 ·simp [Oper.about,ho]
 ·rw [Oper.semAt_plain F _ _ (by rw [ho];intro c hc';cases hc')]
  simp only [execOp,ho,hx,Sem.run_bind,hr,Result.andThen_ok,Sem.run_pure]
  exact hK _ _ h
theorem wpListIn_store_run {F:Fence} {n:Nat} {P:Program} {w w':World} {ops:Array Oper} {rest:List Oper} {o:Oper} {a:Act} {Q:Exit→Act→World→Prop} (hg:o.guard=none) (ty:TypeId) (x y:Operand) (ho:o.op=.store ty x y) {u v:Value} (hx:a.eval x=u) (hy:a.eval y=v)
  (hr:(Instr.storeAt ty u v).run P w=.ok () w') (h:wpListIn F n P ops Q rest (a.put o.dst undef) w'):wpListIn F n P ops Q (o::rest) a w:=by
 refine wpListIn_plain hg fun K hK=>?_
 unfold Oper.wpIn
 refine ⟨?_,?_⟩
 ·simp [Oper.about,ho]
 ·rw [Oper.semAt_plain F _ _ (by rw [ho];intro c hc';cases hc')]
  simp only [execOp,ho,hx,hy,Sem.run_bind,hr,Result.andThen_ok,Sem.run_pure]
  exact hK _ _ h
end
end Go.Proofs.YtmjbnmbobocpdaaGreat
