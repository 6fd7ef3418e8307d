/- What VaultOwn stands on, part 5. -/
import Derived.Laws.CopyRow
import Derived.Test.YtmjbnmbobocpdaaGreatVaultOwnP1
import Derived.Test.YtmjbnmbobocpdaaGreatVaultOwnP2
import Derived.Test.YtmjbnmbobocpdaaGreatVaultOwnP3
import Derived.Test.YtmjbnmbobocpdaaGreatVaultOwnP4
set_option maxRecDepth 100000
set_option maxHeartbeats 8000000
set_option linter.unusedVariables false
set_option linter.unusedSimpArgs false
/- A part of a block that is known whole (a field that is an array), loaded and stored. -/
namespace Go.Proofs.YtmjbnmbobocpdaaGreat
open Go.ChangeShapes Go.WideShapes Go.ChangeAt Go.RowKit
section
variable {P:Program}
theorem run_load_sub (w:World) (ty:TypeId) (g o:Nat) (t:TypeId) (c s:Array Value) (d:TypeDesc) (hg:Blk w g t c) (hs:∀ (j:Nat) (v:Value),s[j]? = some v→c[o+j]? = some v) (hu:P.underlying ty=some d)
  (hd:(match d with | .struct _ | .array _ _=>true | _=>false)=true) (hi:(P.info? ty).map (·.size)=some s.size):(Instr.loadAt ty (zP g o)).run P w=.ok (.agg s) w:=by
 simp only [Instr.loadAt,Instr.sureAddr,Sem.run_bind,Sem.run_pure,Result.andThen_ok]
 have hl:(loadCells ⟨g,o,none⟩ s.toList.length).run P w=.ok s.toList.toArray w:=
  run_loadCells_list (P:=P) w ⟨g,o,none⟩ s.toList (fun j v hv=>by
   have hadd:(⟨g,o,none⟩:Addr).add j=⟨g,o+j,none⟩:=by unfold Addr.add;split <;> simp_all
   rw [hadd]
   exact hg.cell (hs j v (by simpa using hv)))
 cases hq:P.info? ty with
 | none=>simp [hq] at hi
 | some i=>
  have hz:i.size=s.size:=by simpa [hq] using hi
  have hagg:(isAgg ty).run P w=.ok true w:=by
   unfold isAgg
   rw [Sem.run_bind,run_underlying hu w]
   cases d <;> simp_all
  simp only [Array.length_toList,Array.toArray_toList] at hl
  simp [loadVar,Sem.run_bind,hagg,sizeOf,typeInfo,hq,hz,hl]
theorem run_store_sub (w:World) (ty:TypeId) (g o:Nat) (t:TypeId) (c s c':Array Value) (hg:Blk w g t c) (hos:o+s.size≤c.size) (h1:s.all (·.oneCell')=true) (hc':(c.toList.take o++s.toList++c.toList.drop (o+s.size)).toArray=c')
  (hi:(P.info? ty).map (·.size)=some s.size):(Instr.storeAt ty (zP g o) (.agg s)).run P w=.ok () (w.setRow g c'):=by
 simp only [Instr.storeAt,Instr.sureAddr,Sem.run_bind,Sem.run_pure,Result.andThen_ok]
 have:=run_storeCells_at (P:=P) g o t s.toList 0 c w hg (by simpa using hos) (fun v hv=>(Array.all_eq_true_iff_forall_mem.1 h1) v (by simpa using hv))
 simp only [Nat.add_zero,Array.length_toList] at this
 rw [hc'] at this
 cases hq:P.info? ty with
 | none=>simp [hq] at hi
 | some i=>
  have hz:i.size=s.size:=by simpa [hq] using hi
  simp [storeVar,Sem.run_bind,sizeOf,typeInfo,hq,hz,Value.cells,this]
theorem wpList_load_sub {ops:Array Oper} {rest:List Oper} {o:Oper} {a:Act} {w:World} {Q:Exit→Act→World→Prop} (hw:Region.wanted o (yielded ops a.tmps)=true) (ty:TypeId) (x:Operand) (ho:o.op=.load ty x)
  (g k:Nat) (hx:a.eval x=(zP g k)) (t:TypeId) (c:Array Value) (hg:Blk w g t c) (s:Array Value) (hs:∀ (j:Nat) (v:Value),s[j]? = some v→c[k+j]? = some v) (d:TypeDesc) (hu:P.underlying ty=some d)
  (hd:(match d with | .struct _ | .array _ _=>true | _=>false)=true) (hi:(P.info? ty).map (·.size)=some s.size)
  (h:wpList P ops Q rest (a.put o.dst (.agg s)) w):wpList P ops Q (o::rest) a w:=
 zed hw fun K hK=>by
  unfold Oper.wp execOp
  simp only [ho,hx,Sem.run_bind,run_load_sub w ty g k t c s d hg hs hu hd hi,Result.andThen_ok,Sem.run_pure]
  exact hK _ _ h
theorem wpList_store_sub {ops:Array Oper} {rest:List Oper} {o:Oper} {a:Act} {w:World} {Q:Exit→Act→World→Prop} (hgd:o.guard=none) (ty:TypeId) (x y:Operand) (ho:o.op=.store ty x y)
  (g k:Nat) (hx:a.eval x=(zP g k)) (s:Array Value) (hy:a.eval y=.agg s) (h1:s.all (·.oneCell')=true) (t:TypeId) (c:Array Value) (hg:Blk w g t c) (hos:k+s.size≤c.size) (c':Array Value)
  (hc':(c.toList.take k++s.toList++c.toList.drop (k+s.size)).toArray=c') (hi:(P.info? ty).map (·.size)=some s.size)
  (h:∀ w',w.grownBy w' (some g)→Blk w' g t c'→wpList P ops Q rest (a.put o.dst undef) w'):wpList P ops Q (o::rest) a w:=
 wpList_plain hgd fun K hK=>by
  unfold Oper.wp execOp
  simp only [ho,hx,hy,Sem.run_bind,run_store_sub w ty g k t c s c' hg hos h1 hc' hi,Result.andThen_ok,Sem.run_pure]
  exact hK _ _ (h _ (z1b _ _ _) (setRow_heap w g c c' t (0,0) hg))
end
end Go.Proofs.YtmjbnmbobocpdaaGreat
namespace Go.Proofs.YtmjbnmbobocpdaaGreat
open Go.ChangeShapes Go.WideShapes Go.ChangeAt Go.RowKit
def z3a (z:Nat→Int):Array Value:=#[zY (z 0),zY (z 1),zY (z 2),zY (z 3),zY (z 4),zY (z 5),zY (z 6),zY (z 7),zY (z 8),zY (z 9),zY (z 10),zY (z 11),zY (z 12),zY (z 13),zY (z 14),zY (z 15)]
def arrS (s:W8) (y:Nat→Int) (h:Int):Array Value:=#[zU s.x0,zU s.x1,zU s.x2,zU s.x3,zU s.x4,zU s.x5,zU s.x6,zU s.x7,zY (y 0),zY (y 1),zY (y 2),zY (y 3),zY (y 4),zY (y 5),zY (y 6),zY (y 7),zY (y 8),zY (y 9),zY (y 10),zY (y 11),zY (y 12),zY (y 13),zY (y 14),zY (y 15),zI h]
theorem xor_fold (x v:Int):bits .xor .u32 x v=xorW x v:=by unfold xorW;rfl
def W8.xat (s:W8) (i:Nat) (v:Int):W8:=match i with
 | 0=>{ s with x0:=xorW s.x0 v }
 | 1=>{ s with x1:=xorW s.x1 v }
 | 2=>{ s with x2:=xorW s.x2 v }
 | _=>{ s with x3:=xorW s.x3 v }
def mulF (r:Nat) (v:Int):Int:=match r with | 0=>v | 1=>v*256 | 2=>v*65536 | _=>v*16777216
def absN (z:Nat→Int) (s:W8):Nat→W8
 | 0=>s
 | k+1=>(absN z s k).xat (k / 4) (mulF (k%4) (z k))
theorem ok_xat {s:W8} (h:s.ok) (i:Nat) (v:Int):(s.xat i v).ok:=by
 obtain ⟨h0,h1,h2,h3,h4,h5,h6,h7⟩:=h
 unfold W8.xat
 split
 ·exact ⟨zxb _ _,h1,h2,h3,h4,h5,h6,h7⟩
 ·exact ⟨h0,zxb _ _,h2,h3,h4,h5,h6,h7⟩
 ·exact ⟨h0,h1,zxb _ _,h3,h4,h5,h6,h7⟩
 ·exact ⟨h0,h1,h2,zxb _ _,h4,h5,h6,h7⟩
theorem ok_absN {z:Nat→Int} {s:W8} (h:s.ok):∀ k,(absN z s k).ok
 | 0=>h
 | k+1=>ok_xat (ok_absN h k) _ _
def takeW (z:Nat→Int) (s:W8):W8:=mixW (absN z s 16)
theorem ok_takeW {z:Nat→Int} {s:W8} (h:s.ok):(takeW z s).ok:=ok_mixW (ok_absN h 16)
theorem arrS_sub (s:W8) (y:Nat→Int) (h:Int):∀ (j:Nat) (v:Value),(arrW s)[j]? = some v→(arrS s y h)[0+j]? = some v:=by
 intro j v hv
 have hj:j<8:=(Array.getElem?_eq_some_iff.1 hv).1
 have:j=0∨j=1∨j=2∨j=3∨j=4∨j=5∨j=6∨j=7:=by omega
 rcases this with rfl | rfl | rfl | rfl | rfl | rfl | rfl | rfl <;> exact hv
theorem grownBy_of_below {a b:World} (h:Below a.heap.size a b) (row:Option Nat):a.grownBy b row:=⟨h.os,h.tape,h.output,h.size,fun i hi _=>h.block i hi⟩
theorem size16:(Tryz.prog.info? 64).map (·.size)=some 16:=by kernel_rfl
theorem arrS_at {s:W8} {y:Nat→Int} {h:Int} {i:Nat} (hi:i<4):(arrS s y h)[i]? = some (zU (zW s i)):=by
 have:i=0∨i=1∨i=2∨i=3:=by omega
 rcases this with rfl | rfl | rfl | rfl <;> rfl
theorem arrS_put {s:W8} {y:Nat→Int} {h:Int} {i:Nat} (hi:i<4) (v:Int):((arrS s y h).toList.take i++(#[zU (xorW (zW s i) v)]).toList++(arrS s y h).toList.drop (i+(#[zU (xorW (zW s i) v)]).size)).toArray=arrS (s.xat i v) y h:=by
 have:i=0∨i=1∨i=2∨i=3:=by omega
 rcases this with rfl | rfl | rfl | rfl <;> rfl
theorem mulF_shl {r:Nat} (hr:r<4) {v:Int} (hv:0≤v∧v<256):IntKind.u32.wrap (v*2^(8*(r:Int)).toNat)=mulF r v:=by
 have:r=0∨r=1∨r=2∨r=3:=by omega
 rw [IntKind.wrap_u32]
 rcases this with rfl | rfl | rfl | rfl <;> simp [mulF] <;> omega
theorem y_ixT {a:Act} {w:World} {o:Oper} (x y:Operand) (ho:o.op=.index 64 x y) {z:Nat→Int} {k:Nat} (hk:k<16) (hx:a.eval x=.agg (z3a z)) (hy:a.eval y=zI (k:Int)):(execOp a.eval o).run Tryz.prog w=.ok (.value (zY (z k))) w:=by
 have hix:(Instr.index 64 (.agg (z3a z)) (zI (k:Int))).run Tryz.prog w=.ok (zY (z k)) w:=by
  have:k=0∨k=1∨k=2∨k=3∨k=4∨k=5∨k=6∨k=7∨k=8∨k=9∨k=10∨k=11∨k=12∨k=13∨k=14∨k=15:=by omega
  rcases this with rfl | rfl | rfl | rfl | rfl | rfl | rfl | rfl | rfl | rfl | rfl | rfl | rfl | rfl | rfl | rfl <;> (show _=_;kernel_rfl)
 unfold execOp
 simp only [ho,hx,hy]
 simp [go_sem,hix]
theorem sptake_any (s:W8) (hs:s.ok) (y z:Nat→Int) (hz:∀ k,0≤z k∧z k<256) (h:Int) (b:Nat) (w:World) (hb:Blk w b 192 (arrS s y h)):
  Calls Tryz.prog 153 #[(zO b),.agg (z3a z)] w fun e w'=>e=.returned (.tuple #[])∧w.grownBy w' (some b)∧Blk w' b 192 (arrS (takeW z s) y h):=by
 unfold Blk at hb ⊢
 refine zk (args:=[(zO b),.agg (z3a z)]) 37 Tryz.func153 rfl rfl rfl ?_
 intro fa F
 have M:=Mx.theG hb 0
 refine zT fun _ hK1=>zq rfl rfl F rfl M 1 (t:=64) (c:=z3a z) (by unfold execOp;simp only [(F 1 rfl)];kernel_rfl) ?_
 intro g2 a2 w2 F2 M2
 refine hK1 _ _ (zSk fun _ hK3=>zT fun _ hK4=>zc (w':=w2) rfl rfl F2 rfl _ (zjb _ _ rfl (F2 3 rfl) (M2.blk (k:=1) rfl) (z3a z) (znb rfl) Tryz.underlying64 rfl (by kernel_rfl)) fun _ F5=>?_)
 refine rm rfl F5 fun _ F6=>hK4 _ _ (wp_block (zeb (α:=Nat) (n:=37) (G:=(some b)) (w0:=w) (fun x=>[(0,(zO b)),(6,.agg (z3a z)),(7,zI (x:Int))]) (fun x=>[(0,blkR b 192 (arrS (absN z s x) y h)),(1,blkR g2 64 (z3a z))]) (fun k x=>k=(16-x)∧(x≤16)) _ 0 ⟨rfl,(by decide)⟩ (F6.sb) (M2.sb) ?_))
 rintro k7 jn a7 w7 K7 ⟨ek7,I7⟩ F7 M7 hK7
 replace F7:Fx 37 a7 [(0,(zO b)),(6,.agg (z3a z)),(7,zI (jn:Int))]:=F7
 replace M7:Mx _ _ w7 [(0,blkR b 192 (arrS (absN z s jn) y h)),(1,blkR g2 64 (z3a z))]:=M7
 replace I7:jn≤16:=I7
 replace ek7:k7=(16-jn):=ek7
 have hj16:=I7
 refine zT fun _ hK8=>?_
 by_cases h9:(jn:Int)<16
 ·have hlt:jn<16:=by omega
  refine zc (w':=w7) rfl rfl F7 rfl (.bool true) (zka _ _ _ _ rfl (F7 7 rfl) rfl (decide_eq_true h9)) fun _ F10=>?_
  refine hK8 _ _ (zSk fun _ hK11=>wp_cond_true (F10 8 rfl) (wp_skip (hK11 _ _ (zSk fun _ hK12=>wp_block (zT fun _ hK13=>rm rfl F10 fun _ F14=>zc (w':=w7) rfl rfl F14 rfl (zY (z jn)) (y_ixT _ _ rfl hlt (F14 6 rfl) (F14 7 rfl)) fun _ F15=>?_)))))
  refine rm rfl F15 fun _ F16=>rm rfl F16 fun _ F17=>hK13 _ _ ?_
  refine zva F17 (SE [.inl (zO b),.inl (zI (jn:Int)),.inl (zI ((jn / 4:Nat):Int)),.inl (zO b),.inl (zO b),.inl (zP b (jn / 4)),.inl (zU (zW (absN z s jn) (jn / 4))),.inl (zY (z jn)),.inl (zU (z jn)),.inl (zI (jn:Int)),.inl (zI ((jn%4:Nat):Int)),.inl (zI (8*((jn%4:Nat):Int))),.inl (zU (mulF (jn%4) (z jn))),.inl (zU (xorW (zW (absN z s jn) (jn / 4)) (mulF (jn%4) (z jn)))),.inl (zO b),.inl (zO b),.inl (zP b (jn / 4))]) (JM (some b) w fun SV pV=>[(0,blkR b 192 (arrS (absN z s jn) y h)),(1,blkR g2 64 (z3a z))]) 17 rfl (by kernel_rfl) rfl ⟨trivial,trivial,trivial,trivial,trivial,trivial,trivial,trivial,trivial,trivial,trivial,trivial,trivial,trivial,trivial,trivial,trivial,trivial⟩ (fun p=>(M7.step (zsa _)).sub ⟨rfl,rfl,trivial⟩) ⟨zcb F17,zcb F17,?_,zcb F17,zcb F17,?_,?_,zcb F17,?_,zcb F17,?_,?_,?_,?_,zcb F17,zcb F17,?_,trivial⟩ ?_
  ·intro ua uw SV pV (M:Mx (some b) w uw _) hk hn hd
   have e12:ua.eval (.tmp 12)=zI (jn:Int):=zQ1 (hd 12 (by decide))
   exact ze rfl (zI ((jn / 4:Nat):Int)) (y_quoI _ _ _ _ rfl e12 rfl (by omega) (by omega) (by omega)) rfl (M.sb)
  ·intro ua uw SV pV (M:Mx (some b) w uw _) hk hn hd
   have e15:ua.eval (.tmp 15)=(zO b):=zQ1 (hd 15 (by decide))
   have e13:ua.eval (.tmp 13)=zI ((jn / 4:Nat):Int):=zQ1 (hd 13 (by decide))
   exact ze rfl (zP b (jn / 4)) (y_ixA (N:=8) _ _ 34 (by kernel_rfl) (by kernel_rfl) (by kernel_rfl) rfl e15 e13 rfl (by omega) (Nat.zero_add _)) rfl (M.sb)
  ·intro ua uw SV pV (M:Mx (some b) w uw _) hk hn hd
   have e16:ua.eval (.tmp 16)=(zP b (jn / 4)):=zQ1 (hd 16 (by decide))
   exact ze rfl (zU (zW (absN z s jn) (jn / 4))) (zda _ _ rfl e16 (M.blk (k:=0) rfl) (arrS_at (by omega)) Tryz.underlying33 rfl) rfl (M.sb)
  ·intro ua uw SV pV (M:Mx (some b) w uw _) hk hn hd
   have e18:ua.eval (.tmp 18)=zY (z jn):=zQ1 (hd 18 (by decide))
   exact ze rfl (zU (z jn)) (y_cvI _ _ _ rfl e18 Tryz.underlying5 Tryz.underlying33 (by rw [IntKind.wrap_u32];have:=hz jn;omega)) rfl (M.sb)
  ·intro ua uw SV pV (M:Mx (some b) w uw _) hk hn hd
   have e20:ua.eval (.tmp 20)=zI (jn:Int):=zQ1 (hd 20 (by decide))
   exact ze rfl (zI ((jn%4:Nat):Int)) (y_remI _ _ _ _ rfl e20 rfl (by omega) (by omega) (by omega)) rfl (M.sb)
  ·intro ua uw SV pV (M:Mx (some b) w uw _) hk hn hd
   have e21:ua.eval (.tmp 21)=zI ((jn%4:Nat):Int):=zQ1 (hd 21 (by decide))
   exact ze rfl (zI (8*((jn%4:Nat):Int))) (y_mulI _ _ _ _ rfl rfl e21 rfl (by omega)) rfl (M.sb)
  ·intro ua uw SV pV (M:Mx (some b) w uw _) hk hn hd
   have e19:ua.eval (.tmp 19)=zU (z jn):=zQ1 (hd 19 (by decide))
   have e22:ua.eval (.tmp 22)=zI (8*((jn%4:Nat):Int)):=zQ1 (hd 22 (by decide))
   exact ze rfl (zU (mulF (jn%4) (z jn))) (y_shlI _ _ _ _ rfl e19 e22 (by show (0:Int)≤8*((jn%4:Nat):Int)∧8*((jn%4:Nat):Int)<32;omega) (mulF_shl (by omega) (hz jn))) rfl (M.sb)
  ·intro ua uw SV pV (M:Mx (some b) w uw _) hk hn hd
   have e17:ua.eval (.tmp 17)=zU (zW (absN z s jn) (jn / 4)):=zQ1 (hd 17 (by decide))
   have e23:ua.eval (.tmp 23)=zU (mulF (jn%4) (z jn)):=zQ1 (hd 23 (by decide))
   exact ze rfl (zU (xorW (zW (absN z s jn) (jn / 4)) (mulF (jn%4) (z jn)))) (y_xorQ _ _ _ _ rfl e17 e23) rfl (M.sb)
  ·intro ua uw SV pV (M:Mx (some b) w uw _) hk hn hd
   have e26:ua.eval (.tmp 26)=(zO b):=zQ1 (hd 26 (by decide))
   have e13:ua.eval (.tmp 13)=zI ((jn / 4:Nat):Int):=zQ1 (hd 13 (by decide))
   exact ze rfl (zP b (jn / 4)) (y_ixA (N:=8) _ _ 34 (by kernel_rfl) (by kernel_rfl) (by kernel_rfl) rfl e26 e13 rfl (by omega) (Nat.zero_add _)) rfl (M.sb)
  intro p18 a18 w18 M18 G18 y18
  obtain ⟨-,-,-,-,-,-,-,-,-,-,-,-,-,q13,-,-,q16,-⟩:=y18
  have r13:p18 13=zU (xorW (zW (absN z s jn) (jn / 4)) (mulF (jn%4) (z jn))):=q13
  have r16:p18 16=(zP b (jn / 4)):=q16
  replace M18:Mx _ _ w18 [(0,blkR b 192 (arrS (absN z s jn) y h)),(1,blkR g2 64 (z3a z))]:=M18
  simp only [List.take,layV,Nat.zero_add,Nat.reduceAdd,r13,r16] at G18
  refine zt rfl rfl G18 M18 (k:=0) rfl _ _ _ rfl (G18 27 rfl) (G18 24 rfl) (#[zU (xorW (zW (absN z s jn) (jn / 4)) (mulF (jn%4) (z jn)))]) (arrS ((absN z s jn).xat (jn / 4) (mulF (jn%4) (z jn))) y h) rfl (show jn / 4+1≤25 by omega) (one_q _) (arrS_put (by omega) _) (by kernel_rfl) ?_
  intro w19 M19
  refine hK12 _ _ (zR (zc (w':=w19) rfl rfl G18 rfl (zI ((jn+1:Nat):Int)) (zoa _ _ _ _ rfl (G18 7 rfl) rfl (by omega) (by omega)) fun _ F20=>?_))
  clear G18
  refine rm rfl F20 fun _ F21=>?_
  subst ek7
  exact hK7 _ (jn+1) _ _ (by omega) ⟨rfl,(by omega)⟩ (F21.sb) (M19.sb)
 ·have e16:jn=16:=by omega
  have kMx:=fun w=>mix_any (absN z s jn) (ok_absN hs jn) w
  rw [show mixW (absN z s jn)=takeW z s by rw [e16];rfl] at kMx
  refine zc (w':=w7) rfl rfl F7 rfl (.bool false) (zka _ _ _ _ rfl (F7 7 rfl) rfl (decide_eq_false h9)) fun _ F22=>?_
  refine hK8 _ _ (zSk fun _ hK23=>wp_cond_false (F22 8 rfl) (wp_exit ?_))
  simp only [Exit.then,Exit.inBlock,↓reduceIte,Nat.reduceEqDiff]
  refine hK3 _ _ (zR (zB 4 [(0,(zO b)),(6,.agg (z3a z)),(7,zI (jn:Int)),(29,(zO b)),(32,(zO b))] [] dnil [] F22 fun _ F24=>?_))
  refine zc (w':=w7) rfl rfl F24 rfl _ (zjb _ _ rfl (F24 32 rfl) (M7.blk (k:=0) rfl) (arrW (absN z s jn)) (arrS_sub _ _ _) Tryz.underlying34 rfl (sizeW _)) fun _ F25=>?_
  refine zh rfl rfl F25 rfl rfl (zE Tryz.func154 rfl) #[.agg (arrW (absN z s jn))] (zaa (F25 33 rfl)) (zba ((kMx w7))) ?_
  rintro _ w26 a26 ⟨rfl,b26⟩ F26
  have M26:=M7.step b26
  refine zAx 2 [(35,(zO b)),(36,(zO b))] [] dnil [] F26 fun _ F27=>?_
  refine zt rfl rfl F27 M26 (k:=0) rfl _ _ _ rfl (F27 36 rfl) (F27 34 rfl) (arrW (takeW z s)) (arrS (takeW z s) y h) rfl (show 0+8≤25 by decide) (arrW_one _) rfl (sizeW _) ?_
  intro w28 M28
  exact bodyPost_end (res0 rfl) F27.defers ⟨rfl,M28.grown,M28.blk (k:=0) rfl⟩
end Go.Proofs.YtmjbnmbobocpdaaGreat
namespace Go.Proofs.YtmjbnmbobocpdaaGreat
open Go.ChangeShapes Go.WideShapes Go.ChangeAt Go.RowKit
def byt (n:Int) (j:Nat):Int:=n / 256^(7-j)%256
theorem byt_bd (n:Int) (j:Nat):0≤byt n j∧byt n j<256:=by unfold byt;omega
theorem make8 (w:World):(Instr.makeSlice 23 (zI 8) (zI 8)).run Tryz.prog w=.ok (.slice (some ⟨w.heap.size,0,none⟩) 8 8) (w.alloc (.cells (madeCells #[zY 0] 8) 5)):=by kernel_rfl
theorem eight_any (n:Int) (h0:0≤n) (h1:n<9223372036854775808) (w:World):
  Calls Tryz.prog 67 #[zI n] w fun e w'=>e=.returned (.slice (some ⟨w.heap.size,0,none⟩) 8 8)∧Below w.heap.size w w'∧w'.rowIs w.heap.size 5 8 (fun j=>zY (byt n j)):=by
 have hm:=make8
 have r0:=World.rowIs_made w (zY 0) 8 5
 have gb:=zqa w (.cells (madeCells #[zY 0] 8) 5)
 go_enter Tryz.func67,Tryz.ntmps67
 go_wp2
 clear hm
 generalize World.alloc _ _=W at *
 go_loopw [8] (fun i wr=>∃ k:Nat,k≤8∧i=zI k∧wr.rowIs w.heap.size 5 8 (fun j=>if 8-k≤j then zY (byt n j) else zY 0)∧Below w.heap.size w wr) (fun i _=>8-(intOf i).toNat)
 case atStart=>exact ⟨0,by omega,rfl,r0.congr fun j hj=>by rw [if_neg (by omega)],gb⟩
 case round=>
  obtain ⟨k,hk,rfl,hr,hB⟩:=hrel
  clear r0 gb
  by_cases hlt:k<8
  ·have hkk:k=0∨k=1∨k=2∨k=3∨k=4∨k=5∨k=6∨k=7:=by omega
   clear hlt hk
   rcases hkk with rfl | rfl | rfl | rfl | rfl | rfl | rfl | rfl
   ·have c1:=hr.cell (i:=7) (by omega)
    have c2:=hr.frozen 7
    have e:n%256=byt n 7:=by unfold byt;simp
    go_wp2
    go_roundw
    case rel=>
     refine ⟨1,by omega,rfl,(hr.set 7 _).congr fun j hj=>?_,hB.setCell (p:=⟨w.heap.size,7,none⟩) (Nat.le_refl _) _⟩
     by_cases ej:j=7
     ·subst ej;rw [if_pos rfl,if_pos (by omega)]
     ·rw [if_neg ej]
      by_cases h9:8-0≤j
      ·rw [if_pos h9,if_pos (by omega)]
      ·rw [if_neg h9,if_neg (by omega)]
    case measure=>simp [intOf]
   ·have c1:=hr.cell (i:=6) (by omega)
    have c2:=hr.frozen 6
    have e:n / 256%256=byt n 6:=by unfold byt;rfl
    go_wp2
    go_roundw
    case rel=>
     refine ⟨2,by omega,rfl,(hr.set 6 _).congr fun j hj=>?_,hB.setCell (p:=⟨w.heap.size,6,none⟩) (Nat.le_refl _) _⟩
     by_cases ej:j=6
     ·subst ej;rw [if_pos rfl,if_pos (by omega)]
     ·rw [if_neg ej]
      by_cases h9:8-1≤j
      ·rw [if_pos h9,if_pos (by omega)]
      ·rw [if_neg h9,if_neg (by omega)]
    case measure=>simp [intOf]
   ·have c1:=hr.cell (i:=5) (by omega)
    have c2:=hr.frozen 5
    have e:n / 65536%256=byt n 5:=by unfold byt;rfl
    go_wp2
    go_roundw
    case rel=>
     refine ⟨3,by omega,rfl,(hr.set 5 _).congr fun j hj=>?_,hB.setCell (p:=⟨w.heap.size,5,none⟩) (Nat.le_refl _) _⟩
     by_cases ej:j=5
     ·subst ej;rw [if_pos rfl,if_pos (by omega)]
     ·rw [if_neg ej]
      by_cases h9:8-2≤j
      ·rw [if_pos h9,if_pos (by omega)]
      ·rw [if_neg h9,if_neg (by omega)]
    case measure=>simp [intOf]
   ·have c1:=hr.cell (i:=4) (by omega)
    have c2:=hr.frozen 4
    have e:n / 16777216%256=byt n 4:=by unfold byt;rfl
    go_wp2
    go_roundw
    case rel=>
     refine ⟨4,by omega,rfl,(hr.set 4 _).congr fun j hj=>?_,hB.setCell (p:=⟨w.heap.size,4,none⟩) (Nat.le_refl _) _⟩
     by_cases ej:j=4
     ·subst ej;rw [if_pos rfl,if_pos (by omega)]
     ·rw [if_neg ej]
      by_cases h9:8-3≤j
      ·rw [if_pos h9,if_pos (by omega)]
      ·rw [if_neg h9,if_neg (by omega)]
    case measure=>simp [intOf]
   ·have c1:=hr.cell (i:=3) (by omega)
    have c2:=hr.frozen 3
    have e:n / 4294967296%256=byt n 3:=by unfold byt;rfl
    go_wp2
    go_roundw
    case rel=>
     refine ⟨5,by omega,rfl,(hr.set 3 _).congr fun j hj=>?_,hB.setCell (p:=⟨w.heap.size,3,none⟩) (Nat.le_refl _) _⟩
     by_cases ej:j=3
     ·subst ej;rw [if_pos rfl,if_pos (by omega)]
     ·rw [if_neg ej]
      by_cases h9:8-4≤j
      ·rw [if_pos h9,if_pos (by omega)]
      ·rw [if_neg h9,if_neg (by omega)]
    case measure=>simp [intOf]
   ·have c1:=hr.cell (i:=2) (by omega)
    have c2:=hr.frozen 2
    have e:n / 1099511627776%256=byt n 2:=by unfold byt;rfl
    go_wp2
    go_roundw
    case rel=>
     refine ⟨6,by omega,rfl,(hr.set 2 _).congr fun j hj=>?_,hB.setCell (p:=⟨w.heap.size,2,none⟩) (Nat.le_refl _) _⟩
     by_cases ej:j=2
     ·subst ej;rw [if_pos rfl,if_pos (by omega)]
     ·rw [if_neg ej]
      by_cases h9:8-5≤j
      ·rw [if_pos h9,if_pos (by omega)]
      ·rw [if_neg h9,if_neg (by omega)]
    case measure=>simp [intOf]
   ·have c1:=hr.cell (i:=1) (by omega)
    have c2:=hr.frozen 1
    have e:n / 281474976710656%256=byt n 1:=by unfold byt;rfl
    go_wp2
    go_roundw
    case rel=>
     refine ⟨7,by omega,rfl,(hr.set 1 _).congr fun j hj=>?_,hB.setCell (p:=⟨w.heap.size,1,none⟩) (Nat.le_refl _) _⟩
     by_cases ej:j=1
     ·subst ej;rw [if_pos rfl,if_pos (by omega)]
     ·rw [if_neg ej]
      by_cases h9:8-6≤j
      ·rw [if_pos h9,if_pos (by omega)]
      ·rw [if_neg h9,if_neg (by omega)]
    case measure=>simp [intOf]
   ·have c1:=hr.cell (i:=0) (by omega)
    have c2:=hr.frozen 0
    have e:n / 72057594037927936=byt n 0:=by unfold byt;rw [show (256:Int)^(7-0)=72057594037927936 by decide];omega
    go_wp2
    go_roundw
    case rel=>
     refine ⟨8,by omega,rfl,(hr.set 0 _).congr fun j hj=>?_,hB.setCell (p:=⟨w.heap.size,0,none⟩) (Nat.le_refl _) _⟩
     by_cases ej:j=0
     ·subst ej;rw [if_pos rfl,if_pos (by omega)]
     ·rw [if_neg ej]
      by_cases h9:8-7≤j
      ·rw [if_pos h9,if_pos (by omega)]
      ·rw [if_neg h9,if_neg (by omega)]
    case measure=>simp [intOf]
  ·obtain rfl:k=8:=by omega
   go_wp2
   go_ret
   exact ⟨rfl,hB,hr.congr fun j hj=>by rw [if_pos (by omega)]⟩
end Go.Proofs.YtmjbnmbobocpdaaGreat
/- What a sponge that takes bytes comes to: plain lists. -/
namespace Go.Proofs.YtmjbnmbobocpdaaGreat
open Go.ChangeShapes Go.WideShapes Go.ChangeAt Go.RowKit
def byI (L:List UInt8) (k:Nat):Int:=((L.getD k 0).toNat:Int)
theorem byI_bd (L:List UInt8) (k:Nat):0≤byI L k∧byI L k<256:=by
 unfold byI
 have:=(L.getD k 0).toNat_lt
 omega
theorem absN_congr {z z':Nat→Int} (s:W8):∀ k,(∀ j,j<k→z j=z' j)→absN z s k=absN z' s k
 | 0,_=>rfl
 | k+1,h=>by rw [absN,absN,absN_congr s k fun j hj=>h j (by omega),h k (by omega)]
theorem takeW_congr {z z':Nat→Int} (s:W8) (h:∀ k,k<16→z k=z' k):takeW z s=takeW z' s:=by
 unfold takeW;rw [absN_congr s 16 h]
def feed (s:W8) (L:List UInt8):W8×List UInt8:=if L.length<16 then (s,L) else feed (takeW (byI L) s) (L.drop 16)
termination_by L.length
decreasing_by simp only [List.length_drop];omega
theorem feed_lt {s:W8} {L:List UInt8} (h:L.length<16):feed s L=(s,L):=by rw [feed,if_pos h]
theorem feed_ge {s:W8} {L:List UInt8} (h:16≤L.length):feed s L=feed (takeW (byI L) s) (L.drop 16):=by
 conv=>lhs;rw [feed]
 rw [if_neg (by omega)]
theorem feed_block {s:W8} {B L:List UInt8} (h:B.length=16):feed s (B++L)=feed (takeW (byI B) s) L:=by
 have e:takeW (byI (B++L)) s=takeW (byI B) s:=takeW_congr s fun k hk=>by
  unfold byI
  simp only [List.getD_eq_getElem?_getD]
  rw [List.getElem?_append_left (by omega)]
 rw [feed_ge (by rw [List.length_append];omega),List.drop_append_of_le_length (by omega),List.drop_of_length_le (by omega),List.nil_append,e]
theorem zbd (s:W8) (L R:List UInt8):feed s (L++R)=feed (feed s L).1 ((feed s L).2++R):=by
 induction h:L.length using Nat.strongRecOn generalizing s L with
 | _ n ih=>
  by_cases h16:L.length<16
  ·rw [feed_lt h16]
  ·rw [feed_ge (s:=s) (L:=L) (by omega)]
   have e:L++R=L.take 16++(L.drop 16++R):=by rw [←List.append_assoc,List.take_append_drop]
   have e2:takeW (byI (L.take 16)) s=takeW (byI L) s:=takeW_congr s fun k hk=>by
    unfold byI;simp only [List.getD_eq_getElem?_getD,List.getElem?_take];rw [if_pos hk]
   rw [e,feed_block (by rw [List.length_take];omega),e2]
   exact ih (L.drop 16).length (by rw [List.length_drop];omega) _ _ rfl
theorem feed_ok {s:W8} (hs:s.ok) (L:List UInt8):(feed s L).1.ok:=by
 induction h:L.length using Nat.strongRecOn generalizing s L with
 | _ n ih=>
  by_cases h16:L.length<16
  ·rw [feed_lt h16];exact hs
  ·rw [feed_ge (by omega)]
   exact ih (L.drop 16).length (by rw [List.length_drop];omega) (ok_takeW hs) _ rfl
attribute [irreducible] byI
/-! Worlds of which one block below N may have turned. -/
structure Kp (N p:Nat) (a b:World):Prop where
 os:b.os=a.os
 tape:b.tape=a.tape
 output:b.output=a.output
 size:a.heap.size≤b.heap.size
 block:∀ i,i<N→i≠p→b.heap[i]? = a.heap[i]?
theorem Kp.refl (N p:Nat) (a:World):Kp N p a a:=⟨rfl,rfl,rfl,Nat.le_refl _,fun _ _ _=>rfl⟩
theorem Kp.trans {N p:Nat} {a b c:World} (h:Kp N p a b) (k:Kp N p b c):Kp N p a c:=
 ⟨k.os.trans h.os,k.tape.trans h.tape,k.output.trans h.output,Nat.le_trans h.size k.size,fun i hi hp=>(k.block i hi hp).trans (h.block i hi hp)⟩
theorem Kp.grown {N p:Nat} {a b:World} {r:Nat} (h:a.grownBy b (some r)) (hN:N≤a.heap.size) (hr:r=p∨N≤r):Kp N p a b:=
 ⟨h.os,h.tape,h.output,h.size,fun i hi hp=>h.block i (by omega) (fun e=>by cases e;omega)⟩
theorem Kp.below {N p:Nat} {a b:World} (h:Below N a b):Kp N p a b:=⟨h.os,h.tape,h.output,h.size,fun i hi _=>h.block i hi⟩
theorem Kp.grownBy {p:Nat} {a b:World} (h:Kp a.heap.size p a b):a.grownBy b (some p):=⟨h.os,h.tape,h.output,h.size,fun i hi hp=>h.block i hi fun e=>hp (by rw [e])⟩
theorem Kp.mono {N M p:Nat} {a b:World} (h:Kp N p a b) (hM:M≤N):Kp M p a b:=⟨h.os,h.tape,h.output,h.size,fun i hi hp=>h.block i (by omega) hp⟩
def Src (N p:Nat) (w:World) (A:Option Addr) (l:List UInt8):Prop:=
 0<l.length→∃ b o,A=some ⟨b,o,none⟩∧b<N∧b≠p∧∀ j x,l[j]? = some x→w.cell? ⟨b,o+j,none⟩=some (zY (x.toNat:Int))
theorem cell_same {w w':World} {b k:Nat} (e:w'.heap[b]? = w.heap[b]?):w'.cell? ⟨b,k,none⟩=w.cell? ⟨b,k,none⟩:=by simp only [World.cell?,e]
theorem Src.kp {N p:Nat} {w w':World} {A:Option Addr} {l:List UInt8} (h:Src N p w A l) (k:Kp N p w w'):Src N p w' A l:=fun hl=>by
 obtain ⟨b,o,e,h1,h2,h3⟩:=h hl
 exact ⟨b,o,e,h1,h2,fun j x hx=>(cell_same (k.block b h1 h2)).trans (h3 j x hx)⟩
theorem Src.of_rd {p:Nat} {w:World} {A:Option Addr} {l:List UInt8} (h:Rd w A l) (hp:∀ b o,A=some ⟨b,o,none⟩→b≠p):Src w.heap.size p w A l:=fun hl=>by
 obtain ⟨b,o,e,h1,h2⟩:=h.at hl
 exact ⟨b,o,e,h1,hp b o e,h2⟩
def SpAt (w:World) (p:Nat) (s:W8) (l:List UInt8):Prop:=
 ∃ y:Nat→Int,(∀ k,0≤y k∧y k<256)∧(∀ k,k<l.length→y k=byI l k)∧Blk w p 192 (arrS s y (l.length:Int))∧s.ok∧l.length<16
theorem SpAt.lt {w:World} {p:Nat} {s:W8} {l:List UInt8} (h:SpAt w p s l):p<w.heap.size:=by
 obtain ⟨y,_,_,h,_⟩:=h
 exact h.lt
theorem SpAt.of_block {w w':World} {p:Nat} {s:W8} {l:List UInt8} (h:SpAt w p s l) (e:w'.heap[p]? = w.heap[p]?):SpAt w' p s l:=by
 obtain ⟨y,h1,h2,h3,h4⟩:=h
 exact ⟨y,h1,h2,e.trans h3,h4⟩
def laid (y:Nat→Int) (h:Nat) (L:List UInt8) (k:Nat):Int:=if h≤k∧k<h+L.length then byI L (k-h) else y k
theorem laid_bd {y:Nat→Int} (hy:∀ k,0≤y k∧y k<256) (h:Nat) (L:List UInt8) (k:Nat):0≤laid y h L k∧laid y h L k<256:=by
 unfold laid;split
 ·exact byI_bd _ _
 ·exact hy k
theorem byI_append {l L:List UInt8} {k:Nat}:byI (l++L) k=if k<l.length then byI l k else byI L (k-l.length):=by
 unfold byI
 simp only [List.getD_eq_getElem?_getD]
 by_cases h:k<l.length
 ·rw [if_pos h,List.getElem?_append_left h]
 ·rw [if_neg h,List.getElem?_append_right (by omega)]
theorem laid_at {y:Nat→Int} {l L:List UInt8} (h:∀ k,k<l.length→y k=byI l k):∀ k,k<(l++L).length→laid y l.length L k=byI (l++L) k:=by
 intro k hk
 rw [List.length_append] at hk
 rw [byI_append]
 unfold laid
 by_cases h1:k<l.length
 ·rw [if_neg (by omega),if_pos h1,h k h1]
 ·rw [if_pos (by omega),if_neg h1]
theorem arrS_get (s:W8) (y:Nat→Int) (h:Int) {k:Nat} (hk:k<16):(arrS s y h)[8+k]? = some (zY (y k)):=by
 have:k=0∨k=1∨k=2∨k=3∨k=4∨k=5∨k=6∨k=7∨k=8∨k=9∨k=10∨k=11∨k=12∨k=13∨k=14∨k=15:=by omega
 rcases this with rfl | rfl | rfl | rfl | rfl | rfl | rfl | rfl | rfl | rfl | rfl | rfl | rfl | rfl | rfl | rfl <;> rfl
theorem arrS_out (s:W8) (y z:Nat→Int) (h:Int) {i:Nat} (hi:i<8∨24≤i):(arrS s y h)[i]? = (arrS s z h)[i]?:=by
 rcases hi with hi | hi
 ·have:i=0∨i=1∨i=2∨i=3∨i=4∨i=5∨i=6∨i=7:=by omega
  rcases this with rfl | rfl | rfl | rfl | rfl | rfl | rfl | rfl <;> rfl
 ·by_cases e:i=24
  ·subst e;rfl
  ·have hs:∀ y,(arrS s y h).size=25:=fun y=>rfl
   rw [Array.getElem?_eq_none (by rw [hs];omega),Array.getElem?_eq_none (by rw [hs];omega)]
theorem byI_get {L:List UInt8} {j:Nat} {b:UInt8} (h:L[j]? = some b):byI L j=(b.toNat:Int):=by
 unfold byI;rw [List.getD_eq_getElem?_getD,h];rfl
theorem arrS_copy (s:W8) (y:Nat→Int) (h:Int) (q:Nat) (L:List UInt8) (hq:q+L.length≤16):
  ((arrS s y h).toList.take (8+q)++L.map bv++(arrS s y h).toList.drop (8+q+(L.map bv).length)).toArray=arrS s (laid y q L) h:=by
 apply Array.ext_getElem?
 intro i
 have hs:(arrS s y h).toList.length=25:=rfl
 rw [List.getElem?_toArray,List.length_map]
 by_cases h1:i<8+q
 ·rw [List.append_assoc,List.getElem?_append_left (by rw [List.length_take];omega),List.getElem?_take,if_pos h1,Array.getElem?_toList]
  by_cases h8:i<8
  ·exact arrS_out _ _ _ _ (.inl h8)
  ·obtain ⟨k,rfl⟩:∃ k,i=8+k:=⟨i-8,by omega⟩
   rw [arrS_get s y h (by omega),arrS_get s _ h (by omega)]
   unfold laid;rw [if_neg (by omega)]
 ·have hl1:((arrS s y h).toList.take (8+q)).length=8+q:=by rw [List.length_take];omega
  by_cases h2:i<8+q+L.length
  ·rw [List.append_assoc,List.getElem?_append_right (by omega),hl1,List.getElem?_append_left (by rw [List.length_map];omega),List.getElem?_map]
   obtain ⟨k,rfl⟩:∃ k,i=8+k:=⟨i-8,by omega⟩
   rw [arrS_get s _ h (by omega)]
   have hk:8+k-(8+q)=k-q:=by omega
   rw [hk,List.getElem?_eq_getElem (by omega:k-q<L.length),Option.map_some]
   unfold laid bv
   rw [if_pos (by omega),byI_get (List.getElem?_eq_getElem (by omega:k-q<L.length))]
  ·rw [List.getElem?_append_right (by rw [List.length_append,hl1,List.length_map];omega),List.length_append,hl1,List.length_map,List.getElem?_drop,show 8+q+L.length+(i-(8+q+L.length))=i by omega,Array.getElem?_toList]
   by_cases h24:24≤i
   ·exact arrS_out _ _ _ _ (.inr h24)
   ·obtain ⟨k,rfl⟩:∃ k,i=8+k:=⟨i-8,by omega⟩
    rw [arrS_get s y h (by omega),arrS_get s _ h (by omega)]
    unfold laid;rw [if_neg (by omega)]
theorem arrS_have (s:W8) (y:Nat→Int) (h h':Int):(arrS s y h).setIfInBounds 24 (zI h')=arrS s y h':=rfl
theorem step_copy {P:Program} {ops:Array Oper} {o:Oper} {a:Act} {w w':World} {K:Act→World→Prop} {Q:Exit→Act→World→Prop} {E:Prop} (hgd:o.guard=none) (x y:Operand) (t1 t2:TypeId)
  (ho:o.op=.call { callee:=.builtin .copy,args:=#[x,y],argTypes:=#[t1,t2] }) {u v r:Value} (hx:a.eval x=u) (hy:a.eval y=v) (hr:(Builtin.copy_ #[t1,t2] o.type #[u,v]).run P w=.ok r w') (h:K (a.put o.dst r) w'):
  if Region.wanted o (yielded ops a.tmps)=true then Oper.wp P o a w K Q else E:=by
 rw [if_pos (by simp [Region.wanted,hgd])]
 unfold Oper.wp
 have:(execOp a.eval o).run P w=.ok (.value r) w':=by
  simp only [execOp,ho,resolve,Sem.run_bind,Sem.run_pure,Result.andThen_ok,invoke,List.map_toArray,List.map_cons,List.map_nil,hx,hy]
  simp [builtin,hr,Result.andThen]
 rw [this]
 exact h
end Go.Proofs.YtmjbnmbobocpdaaGreat
/- (*Sponge).blocks$1: the iterator, under whatever takes a block. -/
namespace Go.Proofs.YtmjbnmbobocpdaaGreat
open Go.ChangeShapes Go.WideShapes Go.ChangeAt Go.RowKit Go.Shelf
attribute [local go_sem] Oper.semAt_some
theorem elem_u8s:Tryz.prog.elem 23=5:=by kernel_rfl
theorem sizeOf_u8 (w:World):(sizeOf 5).run Tryz.prog w=.ok 1 w:=by kernel_rfl
def cutA (A:Option Addr) (c k:Nat):Option Addr:=if c=k then A else A.map (·.add k)
theorem slice_from (w:World) (A:Option Addr) (n c k:Nat) (hk:k≤n):(Instr.sliceAt 23 (.slice A n c) (some (zI (k:Int))) none none).run Tryz.prog w=.ok (.slice (cutA A c k) (n-k) (c-k)) w:=by
 have hu:Tryz.prog.underlying 23=some (.slice (Tryz.prog.elem 23)):=by rw [elem_u8s];exact Tryz.underlying23
 rw [run_sliceAt_slice _ _ _ _ _ _ hu,run_slice_l _ _ _ _ _ hu .i64 k (by omega) (by omega),elem_u8s,sizeOf_u8]
 simp only [Result.andThen_ok,sliced,Int.toNat_natCast,Nat.mul_one,cutA]
theorem Src.cut {N p:Nat} {w:World} {A:Option Addr} {r:List UInt8} (h:Src N p w A r) {c k:Nat} (hc:r.length≤c):Src N p w (cutA A c k) (r.drop k):=fun hp=>by
 rw [List.length_drop] at hp
 obtain ⟨b,o,e,h1,h2,h3⟩:=h (by omega)
 refine ⟨b,o+k,?_,h1,h2,fun j x hx=>?_⟩
 ·unfold cutA
  rw [if_neg (by omega),e]
  simp only [Option.map_some,zna]
 ·rw [List.getElem?_drop] at hx
  have:=h3 (k+j) x hx
  rwa [show o+(k+j)=o+k+j by omega] at this
def restW (bx:Nat) (w:World):Nat:=match w.cell? ⟨bx,0,none⟩ with
 | some (.slice _ n _)=>n
 | _=>0
theorem copy_wait (W:World) (N p:Nat) (A:Option Addr) (r:List UInt8) (n c:Nat) (hr:r.length=n) (hS:Src N p W A r) (s:W8) (y:Nat→Int) (h k m mc:Nat) (hb:Blk W p 192 (arrS s y (h:Int))) (hk:k=min m n) (hm:h+m=16) (hA:A=none→c=0):
  ∃ W2,(Builtin.copy_ #[23,23] 3 #[.slice (some ⟨p,8+h,none⟩) m mc,.slice A n c]).run Tryz.prog W=.ok (zI (k:Int)) W2∧Blk W2 p 192 (arrS s (laid y h (r.take k)) (h:Int))∧W.grownBy W2 (some p):=by
 subst hr
 by_cases h0:r.length=0
 ·obtain rfl:r=[]:=List.eq_nil_of_length_eq_zero h0
  obtain rfl:k=0:=by simpa using hk
  refine ⟨W,run_copy_none (P:=Tryz.prog) W 23 23 3 5 _ A m mc 0 c Tryz.underlying23 size_u8 (by simp),?_,World.grownBy.refl _ _⟩
  have e:laid y h (([]:List UInt8).take 0)=y:=by funext j;unfold laid;rw [if_neg (by simp)]
  rw [e];exact hb
 ·obtain ⟨b,o,rfl,h1,h2,h3⟩:=hS (by omega)
  have hk2:(r.take k).length=k:=by rw [List.length_take];omega
  have hrun:=run_copy_row (P:=Tryz.prog) W 23 23 3 5 p (8+h) m mc ⟨b,o,none⟩ r.length c (arrS s y (h:Int)) 192 ((r.take k).map bv) Tryz.underlying23 size_u8 hb (by rw [List.length_map,hk2,hk,Nat.min_comm])
   (fun j v hj=>by
    rw [List.getElem?_map] at hj
    obtain ⟨x,hx,rfl⟩:=Option.map_eq_some_iff.1 hj
    rw [List.getElem?_take] at hx
    split at hx
    ·rw [zna];exact h3 j x hx
    ·cases hx) (by rw [List.length_map,hk2];show 8+h+k≤25;omega) (fun v hv=>by
    obtain ⟨x,_,rfl⟩:=List.mem_map.1 hv
    rfl)
  rw [List.length_map,hk2] at hrun
  refine ⟨_,hrun,?_,z1b _ _ _⟩
  have:=setRow_heap W p (arrS s y (h:Int)) ((arrS s y (h:Int)).toList.take (8+h)++(r.take k).map bv++(arrS s y (h:Int)).toList.drop (8+h+k)).toArray 192 (0,0) hb
  have e:=arrS_copy s y (h:Int) h (r.take k) (by omega)
  rw [List.length_map,hk2] at e
  unfold Blk
  rw [this,e]
theorem Kp.undrew {N p:Nat} {a b:World} (h:Kp N p a.drew b):Kp N p a b:=⟨h.os,h.tape,h.output,h.size,h.block⟩
theorem Kp.set {N p:Nat} {w:World} {a:Addr} (v:Value) (h:a.block=p∨N≤a.block) (hN:N≤w.heap.size):Kp N p w (w.setCell a v):=
 Kp.grown (zfd (World.grownBy.refl w (some a.block)) rfl v) hN h
theorem RecAt.set {l D:Nat} {o1 o2:Obj} {w:World} {a:Addr} (h:RecAt l D o1 o2 w) (v:Value) (hl:l≠a.block) (hD:D≠a.block):RecAt l D o1 o2 (w.setCell a v):=
 ⟨(Below.heap_setCell w a v l hl).trans h.1,(Below.heap_setCell w a v D hD).trans h.2.1,h.2.2⟩
theorem RecAt.grown {l D r:Nat} {o1 o2:Obj} {w w':World} (h:RecAt l D o1 o2 w) (hg:w.grownBy w' (some r)) (hl:l≠r) (hD:D≠r):RecAt l D o1 o2 w':=
 ⟨(hg.block l (Array.getElem?_eq_some_iff.1 h.1).1 (fun e=>by cases e;exact hl rfl)).trans h.1,(hg.block D (Array.getElem?_eq_some_iff.1 h.2.1).1 (fun e=>by cases e;exact hD rfl)).trans h.2.1,h.2.2⟩
theorem arrS_sub16 (s:W8) (y:Nat→Int) (h:Int):∀ (j:Nat) (v:Value),(z3a y)[j]? = some v→(arrS s y h)[8+j]? = some v:=by
 intro j v hv
 have hj:j<16:=(Array.getElem?_eq_some_iff.1 hv).1
 have:j=0∨j=1∨j=2∨j=3∨j=4∨j=5∨j=6∨j=7∨j=8∨j=9∨j=10∨j=11∨j=12∨j=13∨j=14∨j=15:=by omega
 rcases this with rfl | rfl | rfl | rfl | rfl | rfl | rfl | rfl | rfl | rfl | rfl | rfl | rfl | rfl | rfl | rfl <;> exact hv
theorem load_wait {w:World} {p:Nat} {s:W8} {y:Nat→Int} {h:Int} (hb:Blk w p 192 (arrS s y h)):(Instr.loadAt 64 (zP p 8)).run Tryz.prog w=.ok (.agg (z3a y)) w:=
 run_load_sub w _ p 8 _ _ (z3a y) _ hb (arrS_sub16 s y h) Tryz.underlying64 rfl size16
theorem blocks1_any (N p bx b2 l D:Nat) (o1 o2:Obj) (W0:World) (s0:W8) (l0:List UInt8) (A0:Option Addr) (c0:Nat) (r0:List UInt8) (hbx:N≤bx) (hb2:N≤b2) (hl:N≤l) (hD:N≤D) (hx2:bx≠b2) (hxl:bx≠l) (hxD:bx≠D) (hpN:p<N) (hNW:N≤W0.heap.size)
  (hS0:SpAt W0 p s0 l0) (hR0:Src N p W0 A0 r0) (hB0:Blk W0 bx 23 #[.slice A0 r0.length c0]) (hP0:Blk W0 b2 183 #[(zO p)]) (hc0:r0.length≤c0) (hm0:c0≤maxLen) (hA0:A0=none→c0=0) (hrec:RecAt l D o1 o2 W0)
  (hY:∀ (s:W8) (y:Nat→Int) (W:World),s.ok→(∀ k,0≤y k∧y k<256)→Blk W p 192 (arrS s y 0)→RecAt l D o1 o2 W→Kp N p W0 W →
   YieldAt Fence.wide 1 Tryz.prog l #[.agg (z3a y)] W fun e W'=>e=.returned (.bool true)∧RecAt l D o1 o2 W'∧(Kp N p W W'∧W'.heap[bx]? = W.heap[bx]? ∧ W'.heap[b2]? = W.heap[b2]? ∧ Blk W' p 192 (arrS (takeW y s) y 0))):
  CallsIn Fence.wide 2 Tryz.prog 155 #[.func (.yield l) #[] #[],(zO bx),(zO b2)] W0 fun e W'=>(∃ v,e=.returned v)∧RecAt l D o1 o2 W'∧SpAt W' p (feed s0 (l0++r0)).1 (feed s0 (l0++r0)).2∧Kp N p W0 W':=by
 obtain ⟨T,hT⟩:∃ T,T=feed s0 (l0++r0):=⟨_,rfl⟩
 rw [←hT]
 have HT:=hid hT
 clear hT
 refine callsIn_wide.2 ?_
 go_enter Tryz.func155,Tryz.ntmps155
 go_wp2
 go_loopw [4] (fun z wr=>∃ (s:W8) (l':List UInt8) (A:Option Addr) (c:Nat) (r:List UInt8),SpAt wr p s l'∧Src N p W0 A r∧Blk wr bx 23 #[.slice A r.length c]∧Blk wr b2 183 #[(zO p)]∧r.length≤c∧c≤maxLen∧(A=none→c=0)∧RecAt l D o1 o2 wr∧Kp N p W0 wr∧Hid (T=feed s (l'++r))) (fun _ wr=>restW bx wr)
 case atStart=>exact ⟨s0,l0,A0,c0,r0,hS0,hR0,hB0,hP0,hc0,hm0,hA0,hrec,Kp.refl _ _ _,HT⟩
 case round=>
  obtain ⟨s,l',A,c,r,hS,hR,hB,hP,hc,hm,hA,hre,hK,hTr⟩:=hrel
  clear hS0 hR0 hB0 hP0 hc0 hm0 hA0 hrec HT
  obtain ⟨n,hn⟩:∃ n,r.length=n:=⟨_,rfl⟩
  rw [hn] at hB hc
  unfold maxLen at hm
  have cB:wr.cell? ⟨bx,0,none⟩=some (.slice A n c):=hB.cell (k:=0) rfl
  have fB:=hB.frozen 0
  have cP:wr.cell? ⟨b2,0,none⟩=some (zO p):=hP.cell (k:=0) rfl
  obtain ⟨y,hy,hyl,hb,hsok,hl16⟩:=hS
  obtain ⟨h,hh⟩:∃ h,l'.length=h:=⟨_,rfl⟩
  rw [hh] at hb hl16
  by_cases h0:n=0
  ·subst h0
   obtain rfl:r=[]:=List.eq_nil_of_length_eq_zero hn
   have HH:=hid hh
   have HN:=hid hn
   clear hh hn
   go_wp2
   go_end0
   refine ⟨⟨_,rfl⟩,hre,?_,hK⟩
   rw [hTr.out,List.append_nil,feed_lt (by rw [HH.out];exact hl16)]
   exact ⟨y,hy,hyl,by rw [HH.out];exact hb,hsok,by rw [HH.out];exact hl16⟩
  ·have h1n:0<n:=by omega
   obtain ⟨k,m,hm16,hk⟩:∃ k m:Nat,h+m=16∧k=min m n:=⟨_,16-h,by omega,rfl⟩
   have hkn:k≤n:=by omega
   have hkm:k≤m:=by omega
   have hk0:0<k:=by omega
   obtain ⟨W2,hcp,hb2',hg2⟩:=copy_wait wr.drew N p A r n c hn (fun hp=>(hR.kp hK) hp) s y h k m m hb.drew hk hm16 hA
   have hc24:wr.cell? ⟨p,24,none⟩=some (zI (h:Int)):=hb.cell (k:=24) rfl
   have hh0:(0:Int)≤(h:Int):=Int.natCast_nonneg _
   have hh1:(h:Int)≤16:=by omega
   have hm1:16-h=m:=by omega
   have h16:¬16=h:=by omega
   have hpb:p≠bx:=by omega
   have hpb':bx≠p:=by omega
   have hsl:=fun w=>slice_from w A n c k hkn
   have bB2:Blk W2 bx 23 #[.slice A n c]:=(hg2.block bx (by have:=hB.lt;simpa using this) (fun e=>by cases e;omega)).trans hB
   have bP2:Blk W2 b2 183 #[(zO p)]:=(hg2.block b2 (by have:=hP.lt;simpa using this) (fun e=>by cases e;omega)).trans hP
   have cB2:W2.cell? ⟨bx,0,none⟩=some (.slice A n c):=bB2.cell (k:=0) rfl
   have fB2:=bB2.frozen 0
   have cP2:W2.cell? ⟨b2,0,none⟩=some (zO p):=bP2.cell (k:=0) rfl
   have cH2:W2.cell? ⟨p,24,none⟩=some (zI (h:Int)):=hb2'.cell (k:=24) rfl
   have fH2:=hb2'.frozen 24
   have HCP:=hid hcp
   have HH:=hid hh
   have HN:=hid hn
   have HK:=hid hk
   clear hcp hh hn hk h0
   go_wp2_with fail
   go_region_held3 (fun w'=>w'.cell? ⟨bx,0,none⟩=some (.slice A n c)∧w'.cell? ⟨b2,0,none⟩=some (zO p)∧w'.cell? ⟨p,24,none⟩=some (zI (h:Int))) (first | go_keep | exact ⟨cB2,cP2,cH2⟩)
    ((refine step_copy (by rfl) _ _ _ _ (by rfl) (by rfl) (by rfl) HCP.out ?_))
   have hcase:(h+k<16∧k=n)∨h+k=16:=by have:=HK.out;omega
   have hNr:N≤wr.heap.size:=Nat.le_trans hNW hK.size
   have hN2:N≤W2.heap.size:=Nat.le_trans hNr hg2.size
   have r2:RecAt l D o1 o2 W2:=RecAt.grown (w:=wr.drew) hre hg2 (by omega) (by omega)
   have K2:Kp N p W0 W2:=hK.trans (Kp.undrew (Kp.grown hg2 hNr (.inl rfl)))
   obtain ⟨Y,hY2⟩:∃ Y,Y=laid y h (r.take k):=⟨_,rfl⟩
   have Yb:∀ j,0≤Y j∧Y j<256:=fun j=>by rw [hY2];exact laid_bd hy h _ j
   have Yl:∀ j,j<(l'++r.take k).length→Y j=byI (l'++r.take k) j:=fun j hj=>by
    rw [hY2,←HH.out]
    exact laid_at hyl j hj
   rw [←hY2] at hb2'
   have YB:=hid Yb
   have YL:=hid Yl
   clear HCP hY2 Yb Yl hyl hy
   obtain ⟨W3,hW3⟩:∃ W3,W3=W2.setCell ⟨bx,0,none⟩ (.slice (cutA A c k) (n-k) (c-k)):=⟨_,rfl⟩
   have b3:Blk W3 p 192 (arrS s Y (h:Int)):=by rw [hW3];exact (Below.heap_setCell W2 _ _ p hpb).trans hb2'
   have B3:Blk W3 bx 23 #[.slice (cutA A c k) (n-k) (c-k)]:=by rw [hW3];exact bB2.set 0 _ rfl
   have P3:Blk W3 b2 183 #[(zO p)]:=by rw [hW3];exact (Below.heap_setCell W2 _ _ b2 (fun e=>hx2 e.symm)).trans bP2
   have r3:RecAt l D o1 o2 W3:=by rw [hW3];exact r2.set _ (fun e=>hxl e.symm) (fun e=>hxD e.symm)
   have K3:Kp N p W0 W3:=by rw [hW3];exact K2.trans (Kp.set _ (.inr hbx) hN2)
   have hN3:N≤W3.heap.size:=Nat.le_trans hNW K3.size
   have HW3:=hid hW3
   have b4:=fun v=>b3.set 24 (zI v) (arrS_have s Y (h:Int) v)
   have B4:=fun v=>(Below.heap_setCell W3 ⟨p,24,none⟩ (zI v) bx hpb').trans B3
   have P4:=fun v=>(Below.heap_setCell W3 ⟨p,24,none⟩ (zI v) b2 (by simp only;omega)).trans P3
   have r4:=fun v=>r3.set (a:=⟨p,24,none⟩) (zI v) (by simp only;omega) (by simp only;omega)
   have K4:=fun v=>K3.trans (Kp.set (a:=⟨p,24,none⟩) (zI v) (.inl rfl) hN3)
   have B4:=hid B4
   have P4:=hid P4
   have b4:=hid b4
   have r4:=hid r4
   have K4:=hid K4
   clear hW3 r2 K2 b3 B3 P3 r3 K3
   rcases hcase with ⟨hlt,hkn2⟩ | heq
   ·have hd:decide ((h:Int)+(k:Int)<16)=true:=by rw [decide_eq_true_iff];omega
    have HKN:=hid hkn2
    clear hkn2
    go_wp2
    refine bodyPost_ret (results_none rfl _ _ _) rfl ⟨⟨_,rfl⟩,?_,?_,?_⟩
    ·rw [←HW3.out];exact r4.out _
    ·have et:r.take k=r:=List.take_of_length_le (by rw [HN.out,HKN.out];exact Nat.le_refl _)
     have el:(l'++r).length=h+k:=by rw [List.length_append,HH.out,HN.out,HKN.out]
     rw [hTr.out,feed_lt (by rw [el];exact hlt),←HW3.out]
     refine ⟨Y,YB.out,fun j hj=>by have:=YL.out j;rw [et] at this;exact this hj,?_,hsok,by rw [el];exact hlt⟩
     rw [el]
     have:=b4.out ((h:Int)+(k:Int))
     rw [show ((h+k:Nat):Int)=(h:Int)+(k:Int) by omega]
     exact this
    ·rw [←HW3.out];exact K4.out _
   ·have hd:decide ((h:Int)+(k:Int)<16)=false:=by rw [decide_eq_false_iff_not];omega
    go_upto_region 6 with (fail)
    have b5:Blk ((W3.setCell ⟨p,24,none⟩ (zI ((h:Int)+(k:Int)))).setCell ⟨p,24,none⟩ (zI 0)) p 192 (arrS s Y 0):=(b4.out _).set 24 _ (arrS_have s Y _ 0)
    have B5:=(Below.heap_setCell (W3.setCell ⟨p,24,none⟩ (zI ((h:Int)+(k:Int)))) ⟨p,24,none⟩ (zI 0) bx hpb').trans (B4.out _)
    have P5:=(Below.heap_setCell (W3.setCell ⟨p,24,none⟩ (zI ((h:Int)+(k:Int)))) ⟨p,24,none⟩ (zI 0) b2 (by simp only;omega)).trans (P4.out _)
    have r5:=(r4.out ((h:Int)+(k:Int))).set (a:=⟨p,24,none⟩) (zI 0) (by simp only;omega) (by simp only;omega)
    have K5:=(K4.out ((h:Int)+(k:Int))).trans (Kp.set (a:=⟨p,24,none⟩) (zI 0) (.inl rfl) (Nat.le_trans hNW (K4.out _).size))
    rw [HW3.out] at b5 B5 P5 r5 K5
    clear b4 B4 P4 r4 K4 HW3 hd
    generalize World.setCell (World.setCell (World.setCell _ _ _) _ _) _ _=W5 at *
    refine (wpIn_wide (n:=2)).1 ?_
    have c5:W5.cell? ⟨b2,0,none⟩=some (zO p):=Blk.cell (k:=0) P5 rfl
    have hld:=load_wait b5
    obtain ⟨fn,tmps,assign,body,hyy,hRo⟩:=hY s Y W5 hsok YB.out b5 r5 K5
    gi_wp2_with (refine wpListIn_load_run rfl _ _ rfl rfl hld ?_)
    refine hRo.mono ?_
    rintro e W6 ⟨rfl,r6,K6,e6x,e6b,b6⟩
    gi_wp2
    go_wp2
    go_roundw
    case rel=>
     have ed:(r.drop k).length=n-k:=by rw [List.length_drop,HN.out]
     have el:(l'++r.take k).length=16:=by rw [List.length_append,HH.out,List.length_take,HN.out];omega
     refine ⟨takeW Y s,[],cutA A c k,c-k,r.drop k,⟨Y,YB.out,fun j hj=>absurd hj (by simp),b6,ok_takeW hsok,by decide⟩,hR.cut (by rw [HN.out];exact hc),?_,e6b.trans P5,by rw [ed];omega,by unfold maxLen;omega,fun h=>?_,r6,K5.trans K6,hid ?_⟩
     ·rw [ed];exact e6x.trans B5
     ·unfold cutA at h
      split at h
      ·omega
      ·have:A=none:=by cases A <;> simp_all
       have:=hA this;omega
     ·rw [hTr.out,List.nil_append]
      have e1:l'++r=(l'++r.take k)++r.drop k:=by rw [List.append_assoc,List.take_append_drop]
      rw [e1,feed_block el,takeW_congr s (fun j hj=>(YL.out j (by rw [el];exact hj)).symm)]
    case measure=>
     have c6:W6.cell? ⟨bx,0,none⟩=some (.slice (cutA A c k) (n-k) (c-k)):=Blk.cell (k:=0) (e6x.trans B5) rfl
     have f1:restW bx W6=n-k:=by unfold restW;rw [c6]
     have f2:restW bx wr=n:=by unfold restW;rw [cB]
     rw [f1,f2];omega
end Go.Proofs.YtmjbnmbobocpdaaGreat
/- (*Sponge).Write: what a sponge is when it has taken bytes. -/
namespace Go.Proofs.YtmjbnmbobocpdaaGreat
open Go.ChangeShapes Go.WideShapes Go.ChangeAt Go.RowKit Go.Shelf
attribute [local go_sem] Oper.semAt_some
theorem blocks_any (p:Nat) (A:Option Addr) (n c:Nat) (w:World):
  Calls Tryz.prog 152 #[(zO p),.slice A n c] w fun e w'=>e=.returned (.func (.func 155) #[] #[(zO (w.heap.size+1)),(zO w.heap.size)]) ∧
   w'=(w.alloc (.cells #[(zO p)] 183)).alloc (.cells #[.slice A n c] 23):=by
 go_enter Tryz.func152,Tryz.ntmps152
 go_wp2
 go_ret
 exact ⟨rfl,rfl⟩
theorem Blk.putObj {w:World} {b l:Nat} {t:TypeId} {c:Array Value} (h:Blk w b t c) (hl:b≠l) (o:Obj):Blk (w.putObj l o) b t c:=(World.putObj_heap_other hl).trans h
theorem Blk.ne_rec {w:World} {b l:Nat} {t:TypeId} {c:Array Value} (h:Blk w b t c) (hl:zsb w l):b≠l:=by
 rintro rfl
 have:=hl _ h
 cases this
theorem Kp.putObj {N p:Nat} (w:World) {l:Nat} (o:Obj) (hl:N≤l) (h:l<w.heap.size):Kp N p w (w.putObj l o):=
 Kp.below ((Below.refl N w).grown (grownBy_putObj' w l o) (by omega) (fun k e=>by cases e;exact hl))
theorem store16 (w:World) (y:Nat→Int) (cs:Array Value) (hcs:cs.size=16):(Instr.storeAt 64 (zO w.heap.size) (.agg (z3a y))).run Tryz.prog (w.alloc (.cells cs 64))=.ok () ((w.alloc (.cells cs 64)).setRow w.heap.size (z3a y)):=
 run_store_blk (P:=Tryz.prog) _ _ w.heap.size (z3a y) (by simp [z3a,Value.oneCell']) cs (by rw [hcs];rfl) (heap_alloc_new w _) size16
theorem write_any (p:Nat) (s:W8) (l:List UInt8) (A:Option Addr) (b:List UInt8) (n c:Nat) (hn:b.length=n) (hc:n≤c) (hm:c≤maxLen) (hA:A=none→c=0) (w:World) (hS:SpAt w p s l) (hR:Src w.heap.size p w A b):
  Calls Tryz.prog 149 #[(zO p),.slice A n c] w fun e w'=>e=.returned (.tuple #[])∧w.grownBy w' (some p)∧SpAt w' p (feed s (l++b)).1 (feed s (l++b)).2:=by
 have hp:=hS.lt
 refine (callsIn_wide (n:=3)).1 ?_
 refine callsIn_of_wp_marks (n:=3) Tryz.func149 rfl trivial ?_ rfl
 simp only [Tryz.ntmps149,List.size_toArray,List.length_cons,List.length_nil,Nat.reduceAdd,Nat.reduceSub,Array.replicate_succ,Array.replicate_zero,List.push_toArray,List.append_toArray,List.nil_append,List.cons_append]
 gi_wp2_with (refine ⟨trivial,?_⟩;gi_at_call 152;refine (callsIn_wide.2 (blocks_any p A n c _)).mono ?_;rintro e w1 ⟨rfl,rfl⟩)
 obtain ⟨w3,hw3⟩:∃ w3,w3=((w.alloc (.cells #[(zO p)] 183)).alloc (.cells #[(zO p)] 183)).alloc (.cells #[.slice A n c] 23):=⟨_,rfl⟩
 have hz:w3.heap.size=w.heap.size+3:=by rw [hw3];simp
 have B0:Blk w3 w.heap.size 183 #[(zO p)]:=by rw [hw3];exact ((Blk.new w _ _).alloc _).alloc _
 have B1:Blk w3 (w.heap.size+1) 183 #[(zO p)]:=by
  rw [hw3]
  have:=Blk.new (w.alloc (.cells #[(zO p)] 183)) 183 #[(zO p)]
  rw [World.size_alloc] at this
  exact this.alloc _
 have B2:Blk w3 (w.heap.size+2) 23 #[.slice A n c]:=by
  rw [hw3]
  have:=Blk.new ((w.alloc (.cells #[(zO p)] 183)).alloc (.cells #[(zO p)] 183)) 23 #[.slice A n c]
  rw [World.size_alloc,World.size_alloc] at this
  exact this
 have b3:Below w.heap.size w w3:=by rw [hw3];exact (((Below.refl _ _).alloc (Nat.le_refl _) _).alloc (by simp) _).alloc (by simp;omega) _
 rw [←hw3]
 clear hw3
 have S3:SpAt w3 p s l:=hS.of_block (b3.block p hp)
 have R3:Src (w.heap.size+1) p w3 A b:=fun h=>by
  obtain ⟨bb,o,e,h1,h2,h3⟩:=hR h
  exact ⟨bb,o,e,by omega,h2,fun j x hx=>(cell_same (b3.block bb h1)).trans (h3 j x hx)⟩
 refine wpIn_range (n:=3) rfl (by omega) (gf:=155) (lb:=#[(zO (w.heap.size+1+1)),(zO (w.heap.size+1))]) rfl trivial (zE Tryz.func155 rfl)
  (α:=W8×(Nat→Int)) (fun x=>#[.agg (z3a x.2)]) (fun _=>rfl)
  (fun x W=>x.1.ok∧(∀ k,0≤x.2 k∧x.2 k<256)∧Blk W p 192 (arrS x.1 x.2 0)∧Blk W w.heap.size 183 #[(zO p)])
  (fun x W W'=>Kp (w.heap.size+1) p W W'∧W'.heap[w.heap.size+2]? = W.heap[w.heap.size+2]? ∧ W'.heap[w.heap.size+1]? = W.heap[w.heap.size+1]? ∧ Blk W' p 192 (arrS (takeW x.2 x.1) x.2 0))
  (fun W=>SpAt W p (feed s (l++b)).1 (feed s (l++b)).2∧Kp (w.heap.size+1) p w3 W) ?round ?iter ?done
 case iter=>
  intro L D o1 o2 W1 hD hL hW1 hrec hY
  rw [hz] at hD hL
  have z1:W1.heap.size=w.heap.size+5:=by rw [hW1];simp;omega
  have b1:Below w3.heap.size w3 W1:=by rw [hW1];exact ((Below.refl _ _).alloc (Nat.le_refl _) _).alloc (by simp) _
  have R1:Src (w.heap.size+1) p W1 A b:=R3.kp (Kp.below (b1.mono (by omega)))
  have K31:Kp (w.heap.size+1) p w3 W1:=Kp.below (b1.mono (by omega))
  refine (blocks1_any (w.heap.size+1) p (w.heap.size+2) (w.heap.size+1) L D o1 o2 W1 s l A c b (by omega) (by omega) (by omega) (by omega) (by omega) (by omega) (by omega) (by omega) (by omega) (S3.of_block (b1.block p (by omega))) R1 ?_ ((b1.block _ (by omega)).trans B1) (by rw [hn];exact hc) hm hA hrec ?_).mono ?_
  ·rw [hn];exact (b1.block _ (by omega)).trans B2
  ·intro s' y W hs' hy hb' hr' hK'
   exact hY (s',y) W ⟨hs',hy,hb',((hK'.block w.heap.size (by omega) (by omega)).trans (b1.block _ (by omega))).trans B0⟩ hr'
  ·rintro e W' ⟨h1,h2,h3,h4⟩
   exact ⟨h1,h2,h3,K31.trans h4⟩
 case done=>
  intro L D o W hD hL ⟨hf,hk⟩ hlt hnc hdd
  gi_wp2
  have pL:p≠L:=by omega
  have pD:p≠D:=by omega
  refine ⟨by simp,.inl ⟨_,_,rfl,run_takeDeferred hdd,?_⟩⟩
  refine ⟨_,results_none rfl _ _ _,rfl,?_,?_⟩
  ·refine Kp.grownBy ?_
   have k1:Kp w.heap.size p w3 W:=hk.mono (by omega)
   have k2:=Kp.putObj (N:=w.heap.size) (p:=p) W o (by omega:w.heap.size≤L) hlt
   have hDl:D<(W.putObj L o).heap.size:=(Array.getElem?_eq_some_iff.1 hdd).1
   exact ((Kp.below b3).trans k1).trans (k2.trans (Kp.putObj _ _ (by omega) hDl))
  ·exact (hf.of_block (World.putObj_heap_other pL)).of_block (World.putObj_heap_other pD)
 case round=>
  rintro L ⟨s',y⟩ W hlo hlt ⟨hs',hy,hb',hB0⟩
  gi_wp2_with (refine wpListIn_store_run rfl _ _ _ rfl rfl rfl (store16 W y _ rfl) ?_)
  obtain ⟨W1,hW1⟩:∃ W1,W1=(W.alloc (.cells #[zY 0,zY 0,zY 0,zY 0,zY 0,zY 0,zY 0,zY 0,zY 0,zY 0,zY 0,zY 0,zY 0,zY 0,zY 0,zY 0] 64)).setRow W.heap.size (z3a y):=⟨_,rfl⟩
  have c1:Blk W1 W.heap.size 64 (z3a y):=by rw [hW1];exact setRow_heap _ _ _ _ _ (0,0) (heap_alloc_new W _)
  have g1:Below W.heap.size W W1:=by rw [hW1];exact step_new (z1b _ _ _)
  rw [←hW1]
  have k1:KeepsOthers W W1:=KeepsOthers.of_grownBy (grownBy_of_below g1 none) (fun j o e=>by cases e)
  refine ⟨k1,fun o hnc=>?_⟩
  clear hW1
  have hb1:Blk W1 p 192 (arrS s' y 0):=hb'.step g1
  have hB1:Blk W1 w.heap.size 183 #[(zO p)]:=hB0.step g1
  have hb2:=hb1.putObj (hb1.ne_rec hnc) o
  have hB2:=hB1.putObj (hB1.ne_rec hnc) o
  have c2:=c1.putObj (c1.ne_rec hnc) o
  have hz2:(W1.putObj L o).heap.size=W1.heap.size:=by simp [World.putObj]
  have K2:Kp (w.heap.size+1) p W (W1.putObj L o):=(Kp.below (g1.mono (by omega))).trans (Kp.putObj W1 o (by omega) (by have:=g1.size;omega))
  have E1:(W1.putObj L o).heap[w.heap.size+1]? = W.heap[w.heap.size+1]?:=(World.putObj_heap_other (by omega)).trans (g1.block _ (by omega))
  have E2:(W1.putObj L o).heap[w.heap.size+2]? = W.heap[w.heap.size+2]?:=(World.putObj_heap_other (by omega)).trans (g1.block _ (by omega))
  have hL1:L<(W1.putObj L o).heap.size:=by rw [hz2];have:=g1.size;omega
  generalize W1.putObj L o=W2 at *
  have d2:W2.cell? ⟨w.heap.size,0,none⟩=some (zO p):=Blk.cell (k:=0) hB2 rfl
  have hld:=run_load_blk W2 64 W.heap.size _ (z3a y) _ c2 Tryz.underlying64 rfl size16
  gi_wp2_with (first | (refine wpListIn_load_run rfl _ (.tmp 4) rfl rfl hld ?_) | (refine ⟨trivial,?_⟩;gi_at_call 153;refine (CallsIn.inRound L (callsIn_wide.2 (sptake_any s' hs' y y hy 0 p W2 hb2))).mono ?_;rintro e W3 ⟨rfl,g3,b3'⟩))
  refine ⟨KeepsOthers.of_grownBy g3 (fun j o' e hj=>by cases e;have:=hj.symm.trans hb2;cases this;rfl),fun o'=>?_⟩
  have hs3:=g3.size
  have pL:p≠L:=by omega
  refine ⟨(K2.trans (Kp.grown g3 (by omega) (.inl rfl))).trans (Kp.putObj W3 o' (by omega) (by omega)),?_,?_,b3'.putObj pL o'⟩
  ·exact (World.putObj_heap_other (by omega)).trans ((g3.block _ (by omega) (fun e=>by cases e;omega)).trans E2)
  ·exact (World.putObj_heap_other (by omega)).trans ((g3.block _ (by omega) (fun e=>by cases e;omega)).trans E1)
end Go.Proofs.YtmjbnmbobocpdaaGreat
namespace Go.Proofs.YtmjbnmbobocpdaaGreat
open Go.ChangeShapes Go.WideShapes Go.ChangeAt Go.RowKit Go.Shelf
attribute [local go_sem] Oper.semAt_some
def zkb (n:Nat):List UInt8:=(List.range 8).map fun j=>UInt8.ofNat (byt (n:Int) j).toNat
theorem zgc (n:Nat):(zkb n).length=8:=by simp [zkb]
theorem eight_src (n:Nat) (hn:(n:Int)<9223372036854775808) (p:Nat) (w:World) (hp:p<w.heap.size):
  Calls Tryz.prog 67 #[zI (n:Int)] w fun e w'=>e=.returned (.slice (some ⟨w.heap.size,0,none⟩) 8 8)∧Below w.heap.size w w'∧Rd w' (some ⟨w.heap.size,0,none⟩) (zkb n):=by
 refine (eight_any (n:Int) (Int.natCast_nonneg _) hn w).mono ?_
 rintro e w' ⟨rfl,hb,hr⟩
 refine ⟨rfl,hb,fun _=>⟨_,rfl,hr.lt,fun j b hj=>?_⟩⟩
 have hj8:j<8:=by have:=(List.getElem?_eq_some_iff.1 hj).1;rwa [zgc] at this
 rw [zna,Nat.zero_add,hr.cell hj8]
 unfold zkb at hj
 rw [List.getElem?_map,List.getElem?_range hj8] at hj
 obtain rfl:=Option.some.inj hj
 unfold bv
 have:=byt_bd (n:Int) j
 have e:(UInt8.ofNat (byt (n:Int) j).toNat).toNat=(byt (n:Int) j).toNat:=by simp;omega
 rw [e,Int.toNat_of_nonneg this.1]
def cat:List (List UInt8)→List UInt8
 | []=>[]
 | l::L=>zkb l.length++l++cat L
theorem cat_append (L M:List (List UInt8)):cat (L++M)=cat L++cat M:=by
 induction L with
 | nil=>rfl
 | cons l L ih=>simp only [List.cons_append,cat,ih,List.append_assoc]
theorem cat_snoc (L:List (List UInt8)) (l:List UInt8):cat (L++[l])=cat L++zkb l.length++l:=by
 rw [cat_append];simp [cat]
def PSrc (N p:Nat) (w:World) (A:Option Addr) (L:List (List UInt8)):Prop:=
 0<L.length→∃ b o,A=some ⟨b,o,none⟩∧b<N∧b≠p∧∀ j l,L[j]? = some l→∃ A' c',w.cell? ⟨b,o+j,none⟩=some (.slice A' l.length c')∧l.length≤c'∧c'≤maxLen∧(A'=none→c'=0)∧Src N p w A' l
theorem PSrc.kp {N p:Nat} {w w':World} {A:Option Addr} {L:List (List UInt8)} (h:PSrc N p w A L) (k:Kp N p w w'):PSrc N p w' A L:=fun hl=>by
 obtain ⟨b,o,e,h1,h2,h3⟩:=h hl
 refine ⟨b,o,e,h1,h2,fun j l hj=>?_⟩
 obtain ⟨A',c',q1,q2,q3,q4,q5⟩:=h3 j l hj
 exact ⟨A',c',(cell_same (k.block b h1 h2)).trans q1,q2,q3,q4,q5.kp k⟩
theorem Src.mono {N M p:Nat} {w:World} {A:Option Addr} {l:List UInt8} (h:Src N p w A l) (hM:N≤M):Src M p w A l:=fun hl=>by
 obtain ⟨b,o,e,h1,h2⟩:=h hl
 exact ⟨b,o,e,by omega,h2⟩
theorem PSrc.mono {N M p:Nat} {w:World} {A:Option Addr} {L:List (List UInt8)} (h:PSrc N p w A L) (hM:N≤M):PSrc M p w A L:=fun hl=>by
 obtain ⟨b,o,e,h1,h2,h3⟩:=h hl
 refine ⟨b,o,e,by omega,h2,fun j l hj=>?_⟩
 obtain ⟨A',c',q1,q2,q3,q4,q5⟩:=h3 j l hj
 exact ⟨A',c',q1,q2,q3,q4,q5.mono hM⟩
def SpF (w:World) (p:Nat) (T:W8×List UInt8):Prop:=SpAt w p T.1 T.2
theorem counted1_any (N p bx l D:Nat) (o1 o2:Obj) (W0:World) (s0:W8) (l0:List UInt8) (A:Option Addr) (c:Nat) (L:List (List UInt8)) (hbx:bx<N) (hbp:bx≠p) (hl:N≤l) (hD:N≤D) (hpN:p<N) (hNW:N≤W0.heap.size)
  (hS0:SpAt W0 p s0 l0) (hR0:PSrc N p W0 A L) (hB0:Blk W0 bx 68 #[.slice A L.length c]) (hc0:L.length≤c) (hm0:c≤maxLen) (hrec:RecAt l D o1 o2 W0)
  (hY:∀ (s:W8) (l':List UInt8) (A':Option Addr) (c':Nat) (b:List UInt8) (W:World),SpAt W p s l'→Src W.heap.size p W A' b→b.length≤c'→c'≤maxLen→(A'=none→c'=0)→RecAt l D o1 o2 W→Kp N p W0 W →
   YieldAt Fence.wide 1 Tryz.prog l #[.slice A' b.length c'] W fun e W'=>e=.returned (.bool true)∧RecAt l D o1 o2 W'∧(Kp N p W W'∧SpAt W' p (feed s (l'++b)).1 (feed s (l'++b)).2)):
  CallsIn Fence.wide 2 Tryz.prog 151 #[.func (.yield l) #[] #[],(zO bx)] W0 fun e W'=>(∃ v,e=.returned v)∧RecAt l D o1 o2 W'∧SpAt W' p (feed s0 (l0++cat L)).1 (feed s0 (l0++cat L)).2∧Kp N p W0 W':=by
 refine callsIn_wide.2 ?_
 obtain ⟨m,hm⟩:∃ m,L.length=m:=⟨_,rfl⟩
 rw [hm] at hB0 hc0
 unfold maxLen at hm0
 have cB:W0.cell? ⟨bx,0,none⟩=some (.slice A m c):=hB0.cell (k:=0) rfl
 have HM:=hid hm
 have EMP:=hid (show cat (L.take 0)=[] from rfl)
 clear hm
 go_enter Tryz.func151,Tryz.ntmps151
 go_wp2
 go_loopw [7] (fun i wr=>∃ k:Nat,k≤m∧i=zI k∧SpF wr p (feed s0 (l0++cat (L.take k)))∧RecAt l D o1 o2 wr∧Kp N p W0 wr) (fun i _=>m-(intOf i).toNat)
 case atStart=>exact ⟨0,by omega,rfl,by
  rw [EMP.out,List.append_nil]
  have h16:l0.length<16:=by obtain ⟨y,_,_,_,_,h⟩:=hS0;exact h
  rw [feed_lt h16];exact hS0,hrec,Kp.refl _ _ _⟩
 case round=>
  obtain ⟨k,hk,rfl,hS,hre,hK⟩:=hrel
  clear hS0 hrec hB0
  by_cases hlt:k<m
  ·obtain ⟨q,hq⟩:∃ q,L[k]? = some q:=⟨_,List.getElem?_eq_getElem (by rw [HM.out];exact hlt)⟩
   obtain ⟨bb,o,rfl,h1,h2,h3⟩:=(hR0.kp hK) (by rw [HM.out];omega)
   obtain ⟨A',c',q1,q2,q3,q4,q5⟩:=h3 k q hq
   obtain ⟨n,hn⟩:∃ n,q.length=n:=⟨_,rfl⟩
   rw [hn] at q1
   have hnb:(n:Int)<9223372036854775808:=by unfold maxLen at q3;omega
   have hn0:(0:Int)≤(n:Int):=Int.natCast_nonneg _
   have HQ:=hid hq
   have HN:=hid hn
   have hSp:=hS.lt
   clear h3 hq hn
   go_upto_region 3 with (fail)
   refine (wpIn_wide (n:=2)).1 ?_
   gi_wp2_with (refine ⟨trivial,?_⟩;gi_at_call 67;refine (callsIn_wide.2 (eight_src n hnb p _ hSp)).mono ?_;rintro e W1 ⟨rfl,b1,rd1⟩;obtain ⟨fn1,tmps1,assign1,body1,hy1,hRo1⟩:=hY _ _ (some ⟨wr.heap.size,0,none⟩) 8 (zkb n) W1 (hS.of_block (b1.block p hSp)) (Src.of_rd rd1 (fun b o e=>by cases e;omega)) (by rw [zgc];exact Nat.le_refl _) (by unfold maxLen;omega) (fun h=>by cases h) (hre.kept (KeepsOthers.of_grownBy (grownBy_of_below b1 none) (fun j o e=>by cases e))) (hK.trans (Kp.below (b1.mono (Nat.le_trans hNW hK.size))));rw [zgc] at hy1)
   clear cB
   refine hRo1.mono ?_
   rintro e W2 ⟨rfl,r2,K2,S2⟩
   clear hRo1 hy1 hre
   have K02:Kp N p W0 W2:=(hK.trans (Kp.below (b1.mono (Nat.le_trans hNW hK.size)))).trans K2
   have Kr2:Kp N p wr W2:=(Kp.below (b1.mono (Nat.le_trans hNW hK.size))).trans K2
   obtain ⟨fn2,tmps2,assign2,body2,hy2,hRo2⟩:=hY _ _ A' c' q W2 S2 ((q5.kp Kr2).mono (Nat.le_trans hNW K02.size)) q2 q3 q4 r2 K02
   rw [HN.out] at hy2
   gi_wp2
   refine hRo2.mono ?_
   rintro e W3 ⟨rfl,r3,K3,S3⟩
   gi_wp2
   go_wp2
   go_roundw
   case rel=>
    refine ⟨k+1,by omega,by go_num,?_,r3,K02.trans K3⟩
    have e1:L.take (k+1)=L.take k++[q]:=by rw [List.take_add_one,HQ.out];rfl
    have e2:feed s0 (l0++cat (L.take (k+1)))=feed (feed (feed s0 (l0++cat (L.take k))).1 ((feed s0 (l0++cat (L.take k))).2++zkb n)).1 ((feed (feed s0 (l0++cat (L.take k))).1 ((feed s0 (l0++cat (L.take k))).2++zkb n)).2++q):=by
     rw [e1,cat_snoc,HN.out,←zbd]
     simp only [List.append_assoc]
     rw [←zbd]
     simp only [List.append_assoc]
    rw [e2]
    exact S3
   case measure=>simp [intOf];omega
  ·obtain rfl:k=m:=by omega
   go_wp2
   go_end0
   refine ⟨⟨_,rfl⟩,hre,?_,hK⟩
   have:=hS
   rw [List.take_of_length_le (by rw [HM.out];exact Nat.le_refl _)] at this
   exact this
/-! each(counted(parts...), s.Write). -/
theorem spcounted_any (A:Option Addr) (n c:Nat) (w:World):
  Calls Tryz.prog 148 #[.slice A n c] w fun e w'=>e=.returned (.func (.func 151) #[] #[(zO w.heap.size)])∧w'=w.alloc (.cells #[.slice A n c] 68):=by
 go_enter Tryz.func148,Tryz.ntmps148
 go_wp2
 go_ret
 exact ⟨rfl,rfl⟩
structure Piece where
 s:W8
 l:List UInt8
 A:Option Addr
 c:Nat
 b:List UInt8
theorem each_any (p bx:Nat) (s:W8) (l:List UInt8) (A:Option Addr) (c:Nat) (L:List (List UInt8)) (hc:L.length≤c) (hm:c≤maxLen) (w:World) (hbp:bx≠p) (hS:SpAt w p s l) (hR:PSrc w.heap.size p w A L) (hB:Blk w bx 68 #[.slice A L.length c]):
  Calls Tryz.prog 147 #[.func (.func 151) #[] #[(zO bx)],.func (.func 149) #[(zO p)] #[]] w fun e w'=>e=.returned (.tuple #[])∧w.grownBy w' (some p)∧SpAt w' p (feed s (l++cat L)).1 (feed s (l++cat L)).2:=by
 have hp:=hS.lt
 have hbl:=hB.lt
 refine (callsIn_wide (n:=3)).1 ?_
 refine callsIn_of_wp_marks (n:=3) Tryz.func147 rfl trivial ?_ rfl
 simp only [Tryz.ntmps147,List.size_toArray,List.length_cons,List.length_nil,Nat.reduceAdd,Nat.reduceSub,Array.replicate_succ,Array.replicate_zero,List.push_toArray,List.append_toArray,List.nil_append,List.cons_append]
 gi_wp2
 obtain ⟨w3,hw3⟩:∃ w3,w3=w.alloc (.cells #[.func (.func 149) #[(zO p)] #[]] 189):=⟨_,rfl⟩
 have hz:w3.heap.size=w.heap.size+1:=by rw [hw3];simp
 have B0:Blk w3 w.heap.size 189 #[.func (.func 149) #[(zO p)] #[]]:=by rw [hw3];exact Blk.new w _ _
 have b3:Below w.heap.size w w3:=by rw [hw3];exact zqa w _
 rw [←hw3]
 clear hw3
 have S3:SpAt w3 p s l:=hS.of_block (b3.block p hp)
 have R3:PSrc (w.heap.size+1) p w3 A L:=(hR.kp (Kp.below b3)).mono (by omega)
 refine wpIn_range (n:=3) rfl (by omega) (gf:=151) (lb:=#[(zO bx)]) rfl trivial (zE Tryz.func151 rfl)
  (α:=Piece) (fun x=>#[.slice x.A x.b.length x.c]) (fun _=>rfl)
  (fun x W=>SpAt W p x.s x.l∧Src W.heap.size p W x.A x.b∧x.b.length≤x.c∧x.c≤maxLen∧(x.A=none→x.c=0)∧Blk W w.heap.size 189 #[.func (.func 149) #[(zO p)] #[]])
  (fun x W W'=>Kp (w.heap.size+1) p W W'∧SpAt W' p (feed x.s (x.l++x.b)).1 (feed x.s (x.l++x.b)).2)
  (fun W=>SpAt W p (feed s (l++cat L)).1 (feed s (l++cat L)).2∧Kp (w.heap.size+1) p w3 W) ?round ?iter ?done
 case iter=>
  intro Lr D o1 o2 W1 hD hL hW1 hrec hY
  rw [hz] at hD hL
  have z1:W1.heap.size=w.heap.size+3:=by rw [hW1];simp;omega
  have b1:Below w3.heap.size w3 W1:=by rw [hW1];exact ((Below.refl _ _).alloc (Nat.le_refl _) _).alloc (by simp) _
  have K31:Kp (w.heap.size+1) p w3 W1:=Kp.below (b1.mono (by omega))
  refine (counted1_any (w.heap.size+1) p bx Lr D o1 o2 W1 s l A c L (by omega) hbp (by omega) (by omega) (by omega) (by omega) (S3.of_block (b1.block p (by omega))) (R3.kp K31) ((b1.block bx (by omega)).trans ((b3.block bx hbl).trans hB)) hc hm hrec ?_).mono ?_
  ·intro s' l' A' c' b W hs' hsrc hb1 hb2 hb3 hr' hK'
   exact hY ⟨s',l',A',c',b⟩ W ⟨hs',hsrc,hb1,hb2,hb3,((hK'.block w.heap.size (by omega) (by omega)).trans (b1.block _ (by omega))).trans B0⟩ hr'
  ·rintro e W' ⟨h1,h2,h3,h4⟩
   exact ⟨h1,h2,h3,K31.trans h4⟩
 case done=>
  intro Lr D o W hD hL ⟨hf,hk⟩ hlt hnc hdd
  gi_wp2
  have pL:p≠Lr:=by omega
  have pD:p≠D:=by omega
  refine ⟨by simp,.inl ⟨_,_,rfl,run_takeDeferred hdd,?_⟩⟩
  refine ⟨_,results_none rfl _ _ _,rfl,?_,?_⟩
  ·refine Kp.grownBy ?_
   have k1:Kp w.heap.size p w3 W:=hk.mono (by omega)
   have k2:=Kp.putObj (N:=w.heap.size) (p:=p) W o (by omega:w.heap.size≤Lr) hlt
   have hDl:D<(W.putObj Lr o).heap.size:=(Array.getElem?_eq_some_iff.1 hdd).1
   exact ((Kp.below b3).trans k1).trans (k2.trans (Kp.putObj _ _ (by omega) hDl))
  ·exact (hf.of_block (World.putObj_heap_other pL)).of_block (World.putObj_heap_other pD)
 case round=>
  rintro Lr ⟨s',l',A',c',b'⟩ W hlo hlt ⟨hs',hsrc,hb1,hb2,hb3,hB0⟩
  dsimp only at hs' hsrc hb1 hb2 hb3
  obtain ⟨n,hn⟩:∃ n,b'.length=n:=⟨_,rfl⟩
  dsimp only
  rw [hn] at hb1 ⊢
  gi_wp2
  refine ⟨KeepsOthers.refl W,fun o hnc=>?_⟩
  have pL:p≠Lr:=by omega
  have hz2:(W.putObj Lr o).heap.size=W.heap.size:=by simp [World.putObj]
  have hB2:=hB0.putObj (hB0.ne_rec hnc) o
  have hS2:=hs'.of_block (World.putObj_heap_other (w:=W) (r:=Lr) (o:=o) pL)
  have hsrc2:Src (W.putObj Lr o).heap.size p (W.putObj Lr o) A' b':=by
   rw [hz2]
   intro hl
   obtain ⟨bb,oo,e,h1,h2,h3⟩:=hsrc hl
   refine ⟨bb,oo,e,h1,h2,fun j x hx=>?_⟩
   have hne:bb≠Lr:=by
    rintro rfl
    have h4:=h3 0 b'[0] (List.getElem?_eq_getElem hl)
    obtain ⟨ob,ho,hc⟩:∃ ob,W.heap[bb]? = some ob∧ob.isCells=true:=by
     unfold World.cell? at h4
     cases ho:W.heap[bb]? with
     | none=>rw [ho] at h4;simp at h4
     | some ob=>refine ⟨ob,rfl,?_⟩;rw [ho] at h4;cases ob <;> simp_all [Obj.isCells]
    have:=hnc ob ho
    rw [hc] at this;cases this
   exact (cell_same (World.putObj_heap_other hne)).trans (h3 j x hx)
  have K2:Kp (w.heap.size+1) p W (W.putObj Lr o):=Kp.putObj W o (by omega) hlt
  generalize W.putObj Lr o=W2 at *
  have d2:W2.cell? ⟨w.heap.size,0,none⟩=some (.func (.func 149) #[(zO p)] #[]):=Blk.cell (k:=0) hB2 rfl
  gi_wp2_with (refine ⟨trivial,?_⟩;gi_at_call 149;refine (CallsIn.inRound Lr (callsIn_wide.2 (write_any p s' l' A' b' n c' hn hb1 hb2 hb3 W2 hS2 hsrc2))).mono ?_;rintro e W3 ⟨rfl,g3,S3'⟩)
  obtain ⟨y2,_,_,hblk,_⟩:=hS2
  refine ⟨KeepsOthers.of_grownBy g3 (fun j o' e hj=>by cases e;have:=hj.symm.trans hblk;cases this;rfl),fun o'=>?_⟩
  have hs3:=g3.size
  exact ⟨(K2.trans (Kp.grown g3 (by omega) (.inl rfl))).trans (Kp.putObj W3 o' (by omega) (by omega)),S3'.of_block (World.putObj_heap_other pL)⟩
end Go.Proofs.YtmjbnmbobocpdaaGreat
namespace Go.Proofs.YtmjbnmbobocpdaaGreat
open Go.ChangeShapes Go.WideShapes Go.ChangeAt Go.RowKit Go.Shelf
def zeroW:W8:=⟨0,0,0,0,0,0,0,0⟩
theorem zeroW_ok:zeroW.ok:=by unfold W8.ok zeroW;decide
def pad16 (L:List UInt8):List UInt8:=L++List.replicate ((16-L.length%16)%16) 0
theorem pad16_mod (L:List UInt8):(pad16 L).length%16=0:=by unfold pad16;rw [List.length_append,List.length_replicate];omega
theorem feed_mod (s:W8) (L:List UInt8):(feed s L).2.length=L.length%16:=by
 induction h:L.length using Nat.strongRecOn generalizing s L with
 | _ n ih=>
  by_cases h16:L.length<16
  ·rw [feed_lt h16,←h,Nat.mod_eq_of_lt h16]
  ·rw [feed_ge (by omega)]
   have:=ih (L.drop 16).length (by rw [List.length_drop];omega) (takeW (byI L) s) (L.drop 16) rfl
   rw [this,List.length_drop]
   omega
theorem feed_full {s:W8} {L:List UInt8} (h:L.length%16=0):feed s L=((feed s L).1,[]):=by
 have:=feed_mod s L
 rw [h] at this
 exact Prod.ext rfl (List.eq_nil_of_length_eq_zero this)
def initW (key:List UInt8):W8:=(feed zeroW (pad16 (zkb key.length++key))).1
theorem initW_ok (key:List UInt8):(initW key).ok:=feed_ok zeroW_ok _
theorem make_zeros (n:Nat) (hn:n≤1000) (w:World):(Instr.makeSlice 23 (zI (n:Int)) (zI (n:Int))).run Tryz.prog w=.ok (.slice (some ⟨w.heap.size,0,none⟩) n n) (w.alloc (.cells (madeCells #[zY 0] n) 5)):=by
 obtain ⟨i,h1,h2,h3,h4⟩:=info_u8
 exact run_make_row 23 5 i (zY 0) Tryz.underlying23 h1 h2 h3 rfl .i64 .i64 n (by rw [h4];omega) (by omega) w
theorem rd_zeros (n:Nat) (w:World):Rd (w.alloc (.cells (madeCells #[zY 0] n) 5)) (some ⟨w.heap.size,0,none⟩) (List.replicate n 0):=fun hp=>by
 have hr:=World.rowIs_made w (zY 0) n 5
 refine ⟨_,rfl,hr.lt,fun j b hj=>?_⟩
 have hjn:j<n:=by have:=(List.getElem?_eq_some_iff.1 hj).1;rwa [List.length_replicate] at this
 rw [List.getElem?_replicate,if_pos hjn] at hj
 obtain rfl:=Option.some.inj hj
 rw [zna,Nat.zero_add,hr.cell hjn];rfl
theorem new_any (A:Option Addr) (key:List UInt8) (n c:Nat) (hn:key.length=n) (hc:n≤c) (hm:c≤maxLen) (hA:A=none→c=0) (w:World) (hR:Rd w A key):
  Calls Tryz.prog 146 #[.slice A n c] w fun e w'=>∃ p,e=.returned (zO p)∧w.heap.size≤p∧SpAt w' p (initW key) []∧Below w.heap.size w w':=by
 go_enter Tryz.func146,Tryz.ntmps146
 go_wp2_with fail
 obtain ⟨Wa,hWa⟩:∃ Wa,Wa=(w.alloc (.cells #[zU 0,zU 0,zU 0,zU 0,zU 0,zU 0,zU 0,zU 0,zY 0,zY 0,zY 0,zY 0,zY 0,zY 0,zY 0,zY 0,zY 0,zY 0,zY 0,zY 0,zY 0,zY 0,zY 0,zY 0,zI 0] 192)).alloc (.cells #[.slice A n c] 23):=⟨_,rfl⟩
 rw [←hWa]
 have za:Wa.heap.size=w.heap.size+2:=by rw [hWa];simp
 have ba:Below w.heap.size w Wa:=by rw [hWa];exact ((Below.refl _ _).alloc (Nat.le_refl _) _).alloc (by simp) _
 have Sa:SpAt Wa w.heap.size zeroW []:=⟨fun _=>0,fun _=>(show (0:Int)≤0∧(0:Int)<256 from ⟨by omega,by omega⟩),fun k hk=>absurd hk (by simp),by rw [hWa];exact (Blk.new w 192 (arrS zeroW (fun _=>0) 0)).alloc _,zeroW_ok,by decide⟩
 have Ka:Blk Wa (w.heap.size+1) 23 #[.slice A n c]:=by
  rw [hWa]
  have:=Blk.new (w.alloc (.cells #[zU 0,zU 0,zU 0,zU 0,zU 0,zU 0,zU 0,zU 0,zY 0,zY 0,zY 0,zY 0,zY 0,zY 0,zY 0,zY 0,zY 0,zY 0,zY 0,zY 0,zY 0,zY 0,zY 0,zY 0,zI 0] 192)) 23 #[.slice A n c]
  rw [World.size_alloc] at this
  exact this
 have ra:Src (w.heap.size) w.heap.size w A key:=fun hl=>by
  obtain ⟨b,o,e,h1,h2⟩:=hR.at hl
  exact ⟨b,o,e,h1,by omega,h2⟩
 clear hWa
 refine (spcounted_any _ 1 1 _).mono ?_
 rintro e w1 ⟨rfl,hw1⟩
 have S1:SpAt w1 w.heap.size zeroW []:=Sa.of_block (by rw [hw1];exact Below.heap_alloc _ _ _ (by omega))
 have b1:Below w.heap.size w w1:=by rw [hw1];exact ba.alloc (by omega) _
 have B1:Blk w1 Wa.heap.size 68 #[.slice (some ⟨w.heap.size+1,0,none⟩) 1 1]:=by rw [hw1];exact Blk.new Wa _ _
 have P1:PSrc w1.heap.size w.heap.size w1 (some ⟨w.heap.size+1,0,none⟩) [key]:=fun _=>by
  have hs1:w1.heap.size=w.heap.size+3:=by rw [hw1];simp;omega
  have Kb:Blk w1 (w.heap.size+1) 23 #[.slice A n c]:=by rw [hw1];exact Ka.alloc _
  refine ⟨w.heap.size+1,0,rfl,by omega,by omega,fun j l hj=>?_⟩
  obtain rfl:j=0:=by
   have:=(List.getElem?_eq_some_iff.1 hj).1
   simp at this;omega
  obtain rfl:key=l:=Option.some.inj hj
  exact ⟨A,c,by rw [hn];exact Kb.cell (k:=0) rfl,by rw [hn];exact hc,hm,hA,(ra.kp (Kp.below b1)).mono (by omega)⟩
 clear hw1 Sa Ka ra ba
 rw [za] at B1 ⊢
 clear za
 go_wp2_with fail
 refine (each_any w.heap.size (w.heap.size+2) zeroW [] (some ⟨w.heap.size+1,0,none⟩) 1 [key] (by simp) (by unfold maxLen;omega) w1 (by omega) S1 P1 B1).mono ?_
 rintro e w2 ⟨rfl,g2,S2⟩
 have b2:Below w.heap.size w w2:=zw b1 g2 b1.size (Nat.le_refl _)
 have hT:feed zeroW ([]++cat [key])=feed zeroW (zkb key.length++key):=by simp [cat]
 rw [hT] at S2
 obtain ⟨T,hTT⟩:∃ T,T=feed zeroW (zkb key.length++key):=⟨_,rfl⟩
 have hmod:=feed_mod zeroW (zkb key.length++key)
 rw [←hTT] at S2 hmod
 have hfin:initW key=(feed T.1 (T.2++List.replicate ((16-(zkb key.length++key).length%16)%16) 0)).1:=by
  unfold initW pad16
  rw [zbd,←hTT]
 have HF:=hid hfin
 have hpad:=pad16_mod (zkb key.length++key)
 have hfull:(feed T.1 (T.2++List.replicate ((16-(zkb key.length++key).length%16)%16) 0)).2=[]:=by
  rw [hTT,←zbd]
  have:=feed_full (s:=zeroW) (L:=pad16 (zkb key.length++key)) hpad
  unfold pad16 at this
  rw [this]
 have HE:=hid hfull
 clear hfin hfull hpad hT hTT S1 P1 B1
 obtain ⟨s,l⟩:=T
 dsimp only at S2 hmod HF HE
 rw [←hmod] at HF HE
 clear hmod
 obtain ⟨h,hh⟩:∃ h,l.length=h:=⟨_,rfl⟩
 rw [hh] at HF HE
 have hlt:=S2.lt
 have S2':=S2
 obtain ⟨y,hy,hyl,hb,hsok,hl16⟩:=S2
 rw [hh] at hb hl16
 have hc24:w2.cell? ⟨w.heap.size,24,none⟩=some (zI (h:Int)):=hb.cell (k:=24) rfl
 clear hb hy hyl
 by_cases h0:h=0
 ·subst h0
  obtain rfl:l=[]:=List.eq_nil_of_length_eq_zero hh
  have e1:feed s ([]++List.replicate ((16-0)%16) 0)=(s,[]):=feed_lt (by simp)
  have HF2:Hid (initW key=s):=hid (by rw [HF.out,e1])
  clear HF HE e1 hh
  go_wp2
  go_ret
  exact ⟨_,rfl,Nat.le_refl _,by rw [HF2.out];exact S2',b2⟩
 ·obtain ⟨m,hm16,hm0⟩:∃ m,h+m=16∧0<m:=⟨16-h,by omega,by omega⟩
  have hI:(16:Int)-(h:Int)=(m:Int):=by omega
  have e2:(16-h)%16=m:=by omega
  rw [e2] at HF HE
  have hpos:decide (0<h)=true:=by rw [decide_eq_true_iff];omega
  have hpn:0<h:=by omega
  have hmk:=make_zeros m (by omega)
  have HH:=hid hh
  clear hh e2 h0
  go_wp2_with fail
  clear hmk
  have bz:=zqa w2 (.cells (madeCells #[zY 0] m) 5)
  refine (write_any w.heap.size s l (some ⟨w2.heap.size,0,none⟩) (List.replicate m 0) m m (by simp) (Nat.le_refl _) (by unfold maxLen;omega) (fun h=>by cases h) _ (S2'.of_block (bz.block _ hlt)) (Src.of_rd (rd_zeros m w2) (fun b o e=>by cases e;omega))).mono ?_
  rintro e w3 ⟨rfl,g3,S3⟩
  rw [HE.out,←HF.out] at S3
  have b3:Below w.heap.size w w3:=zw (b2.trans (bz.mono b2.size)) g3 (Nat.le_trans b2.size bz.size) (Nat.le_refl _)
  go_wp2
  go_ret
  exact ⟨_,rfl,Nat.le_refl _,S3,b3⟩
end Go.Proofs.YtmjbnmbobocpdaaGreat
/- (*Sponge).Sum. -/
namespace Go.Proofs.YtmjbnmbobocpdaaGreat
open Go.ChangeShapes Go.WideShapes Go.ChangeAt Go.RowKit Go.Shelf
def wrd (s:W8) (i:Nat):Int:=match i with | 0=>s.x0 | 1=>s.x1 | 2=>s.x2 | _=>s.x3
def outF (s:W8) (k:Nat):Int:=wrd s (k / 4) / ((256^(k%4):Nat):Int)%256
theorem outF_bd (s:W8) (k:Nat):0≤outF s k∧outF s k<256:=by unfold outF;omega
def partF (s:W8) (k j:Nat):Int:=if j<k then outF s j else 0
def W8.one7 (s:W8):W8:={ s with x7:=xorW s.x7 1 }
theorem ok_one7 {s:W8} (h:s.ok):s.one7.ok:=by
 obtain ⟨h0,h1,h2,h3,h4,h5,h6,h7⟩:=h
 exact ⟨h0,h1,h2,h3,h4,h5,h6,zxb _ _⟩
def sumW (s:W8) (l:List UInt8):W8:=mixW (feed s (pad16 (l++[128]))).1.one7
theorem ok_sumW {s:W8} (h:s.ok) (l:List UInt8):(sumW s l).ok:=ok_mixW (ok_one7 (feed_ok h _))
theorem size25:(Tryz.prog.info? 192).map (·.size)=some 25:=by kernel_rfl
theorem size35:(Tryz.prog.info? 65).map (·.size)=some 16:=by kernel_rfl
theorem arrS_one (s:W8) (y:Nat→Int) (h:Int):(arrS s y h).all (·.oneCell')=true:=by simp [arrS,Value.oneCell']
theorem arr16_one (y:Nat→Int):(z3a y).all (·.oneCell')=true:=by simp [z3a,Value.oneCell']
theorem arr16_set (s:W8) {k:Nat} (hk:k<16):(z3a (partF s k)).setIfInBounds k (zY (outF s k))=z3a (partF s (k+1)):=by
 have:k=0∨k=1∨k=2∨k=3∨k=4∨k=5∨k=6∨k=7∨k=8∨k=9∨k=10∨k=11∨k=12∨k=13∨k=14∨k=15:=by omega
 rcases this with rfl | rfl | rfl | rfl | rfl | rfl | rfl | rfl | rfl | rfl | rfl | rfl | rfl | rfl | rfl | rfl <;> simp [z3a,partF]
theorem Blk.far {w:World} {b:Nat} {t:TypeId} {c:Array Value} (h:Blk w b t c) {a:Addr} (v:Value) (ha:b≠a.block):Blk (w.setCell a v) b t c:=(Below.heap_setCell w a v b ha).trans h
theorem zra {w:World} {g k:Nat} {t:TypeId} {s:W8} {V:Int} (hb:Blk w g t (z3a (partF s k))) (hk:k<16) (hv:V=outF s k):Blk (w.setCell ⟨g,k,none⟩ (zY V)) g t (z3a (partF s (k+1))):=by
 subst hv
 exact hb.set k _ (arr16_set s hk)
theorem arr16_full (s:W8):z3a (partF s 16)=z3a (outF s):=by simp [z3a,partF]
theorem arr16_zero (s:W8):#[zY 0,zY 0,zY 0,zY 0,zY 0,zY 0,zY 0,zY 0,zY 0,zY 0,zY 0,zY 0,zY 0,zY 0,zY 0,zY 0]=z3a (partF s 0):=by simp [z3a,partF]
theorem rd_one (x:UInt8) (w:World):Rd (w.alloc (.cells #[zY (x.toNat:Int)] 5)) (some ⟨w.heap.size,0,none⟩) [x]:=Bts.rd (t:=5) (heap_alloc_new w (.cells (bvs [x]) 5))
attribute [irreducible] outF
theorem sum_any (p:Nat) (s:W8) (l:List UInt8) (w:World) (hS:SpAt w p s l):
  Calls Tryz.prog 150 #[(zO p)] w fun e w'=>e=.returned (.agg (z3a (outF (sumW s l))))∧Below w.heap.size w w':=by
 have hp:=hS.lt
 obtain ⟨y,hy,hyl,hb,hsok,hl16⟩:=hS
 have YL:=hid hyl
 have YB:=hid hy
 have OK:=hid hsok
 obtain ⟨h,hh⟩:∃ h,l.length=h:=⟨_,rfl⟩
 rw [hh] at hb hl16
 have HH:=hid hh
 clear hyl hy hsok hh
 have hbA:=(hb.alloc (.cells #[zY 0,zY 0,zY 0,zY 0,zY 0,zY 0,zY 0,zY 0,zY 0,zY 0,zY 0,zY 0,zY 0,zY 0,zY 0,zY 0] 65)).alloc (.cells (arrS zeroW (fun _=>0) 0) 192)
 have b1:=Blk.new w 65 #[zY 0,zY 0,zY 0,zY 0,zY 0,zY 0,zY 0,zY 0,zY 0,zY 0,zY 0,zY 0,zY 0,zY 0,zY 0,zY 0]
 have hb1:=hb.alloc (.cells #[zY 0,zY 0,zY 0,zY 0,zY 0,zY 0,zY 0,zY 0,zY 0,zY 0,zY 0,zY 0,zY 0,zY 0,zY 0,zY 0] 65)
 have n3:=heap_alloc_new (w.alloc (.cells #[zY 0,zY 0,zY 0,zY 0,zY 0,zY 0,zY 0,zY 0,zY 0,zY 0,zY 0,zY 0,zY 0,zY 0,zY 0,zY 0] 65)) (.cells (arrS zeroW (fun _=>0) 0) 192)
 rw [World.size_alloc] at n3
 have b1':=b1.alloc (.cells (arrS zeroW (fun _=>0) 0) 192)
 have bB:Below w.heap.size w ((w.alloc (.cells #[zY 0,zY 0,zY 0,zY 0,zY 0,zY 0,zY 0,zY 0,zY 0,zY 0,zY 0,zY 0,zY 0,zY 0,zY 0,zY 0] 65)).alloc (.cells (arrS zeroW (fun _=>0) 0) 192)):=((Below.refl _ _).alloc (Nat.le_refl _) _).alloc (by simp) _
 go_enter Tryz.func150,Tryz.ntmps150
 go_wp2_with (first | (refine zwb rfl _ (.tmp 7) rfl _ rfl _ _ _ hb1 Tryz.underlying192 rfl size25 ?_) | (refine zab rfl _ (.tmp 3) _ rfl _ rfl _ rfl (arrS_one _ _ _) _ n3 rfl size25 ?_;intro w2 g2 c2))
 have S2:SpAt w2 (w.heap.size+1) s l:=⟨y,YB.out,YL.out,by rw [HH.out];exact c2,OK.out,by rw [HH.out];exact hl16⟩
 have z2:=b1'.grown g2 (by simp)
 have B2:Below w.heap.size w w2:=zw bB g2 (by simp;omega) (by omega)
 have q2:=c2.lt
 clear hb hbA b1 hb1 n3 b1' bB g2 c2
 have bz:=zqa w2 (.cells #[zY 128] 5)
 refine (write_any (w.heap.size+1) s l (some ⟨w2.heap.size,0,none⟩) [128] 1 1 rfl (Nat.le_refl _) (by unfold maxLen;omega) (fun h=>by cases h) _ (S2.of_block (bz.block _ q2)) (Src.of_rd (rd_one 128 w2) (fun b o e=>by cases e;omega))).mono ?_
 rintro e w3 ⟨rfl,g3,S3⟩
 have B3:Below w.heap.size w w3:=zw (B2.trans (bz.mono B2.size)) g3 (Nat.le_trans B2.size bz.size) (by omega)
 have z3:=(z2.alloc (.cells #[zY 128] 5)).grown g3 (by simp)
 obtain ⟨T,hT⟩:∃ T,T=feed s (l++[128]):=⟨_,rfl⟩
 have hmod:=feed_mod s (l++[128])
 rw [←hT] at S3 hmod
 have q3:=S3.lt
 have S3':=S3
 obtain ⟨y3,yb3,yl3,b3,ok3,l3⟩:=S3
 obtain ⟨h3,hh3⟩:∃ h3,T.2.length=h3:=⟨_,rfl⟩
 rw [hh3] at b3 l3 hmod
 obtain ⟨m,hm⟩:∃ m:Nat,m=(16-(l++[128]).length%16)%16:=⟨_,rfl⟩
 have hm15:m≤15:=by omega
 have hI:((16:Int)-(h3:Int))%16=(m:Int):=by rw [hm,←hmod];omega
 have hfin:feed T.1 (T.2++List.replicate m 0)=((feed s (pad16 (l++[128]))).1,[]):=by
  rw [hT,←zbd,hm]
  exact feed_full (pad16_mod _)
 have HF:=hid hfin
 have c24:w3.cell? ⟨w.heap.size+1,24,none⟩=some (zI (h3:Int)):=b3.cell (k:=24) rfl
 have hmk:=make_zeros m (by omega)
 have h30:(0:Int)≤(h3:Int):=Int.natCast_nonneg _
 have h31:(h3:Int)<16:=by omega
 have HM:=hid hm
 clear hT hmod hh3 hfin b3 yb3 yl3 ok3 g3 S2 z2 bz B2 hm l3
 go_wp2_with fail
 clear hmk c24 hI
 have bz:=zqa w3 (.cells (madeCells #[zY 0] m) 5)
 refine (write_any (w.heap.size+1) T.1 T.2 (some ⟨w3.heap.size,0,none⟩) (List.replicate m 0) m m (by simp) (Nat.le_refl _) (by unfold maxLen;omega) (fun h=>by cases h) _ (S3'.of_block (bz.block _ q3)) (Src.of_rd (rd_zeros m w3) (fun b o e=>by cases e;omega))).mono ?_
 rintro e w4 ⟨rfl,g4,S4⟩
 rw [HF.out] at S4
 have B4:Below w.heap.size w w4:=zw (B3.trans (bz.mono B3.size)) g4 (Nat.le_trans B3.size bz.size) (by omega)
 have z4:=(z3.alloc (.cells (madeCells #[zY 0] m) 5)).grown g4 (by simp)
 obtain ⟨st,hst⟩:∃ st,st=(feed s (pad16 (l++[128]))).1:=⟨_,rfl⟩
 rw [←hst] at S4
 have hsum:sumW s l=mixW st.one7:=by unfold sumW;rw [hst]
 have HS:=hid hsum
 obtain ⟨y4,yb4,yl4,b4,ok4,l4⟩:=S4
 have ok7:=hid (ok_one7 ok4)
 have c7:w4.cell? ⟨w.heap.size+1,7,none⟩=some (zU st.x7):=b4.cell (k:=7) rfl
 have f7:=b4.frozen 7
 have b5:=b4.set 7 (zU (bits .xor .u32 st.x7 1)) (c':=arrS st.one7 y4 0) (by rw [xor_fold];rfl)
 have z5:=z4.far (a:=⟨w.heap.size+1,7,none⟩) (zU (bits .xor .u32 st.x7 1)) (by simp)
 have B5:=B4.setCell (p:=⟨w.heap.size+1,7,none⟩) (by simp) (zU (bits .xor .u32 st.x7 1))
 clear hst hsum yb4 yl4 b4 ok4 l4 g4 S3' z3 bz B3 z4 B4 HF HM
 go_wp2_with (refine wpList_load_sub rfl _ (.tmp 23) rfl _ _ rfl _ _ b5 (arrW st.one7) (arrS_sub _ _ _) _ Tryz.underlying34 rfl (sizeW _) ?_)
 generalize World.setCell _ _ _=w5 at *
 refine (mix_any _ ok7.out _).mono ?_
 rintro e w6 ⟨rfl,bM⟩
 rw [←HS.out]
 have okS:=hid (ok_sumW OK.out l)
 obtain ⟨F,hF⟩:∃ F,F=sumW s l:=⟨_,rfl⟩
 rw [←hF] at okS ⊢
 have HF:=hid hF
 have b6:=b5.step bM
 have z6:=z5.step bM
 have B6:=B5.trans (bM.mono B5.size)
 clear hF b5 z5 B5 bM c7 f7
 go_wp2_with (refine wpList_store_sub rfl _ (.tmp 26) _ rfl _ _ rfl (arrW F) rfl (arrW_one _) _ _ b6 (by simp [arrW,arrS]) (arrS F y4 0) rfl (sizeW _) ?_;intro w7 g7 b7)
 have z7:=z6.grown g7 (by simp)
 have B7:=zw B6 g7 B6.size (by omega)
 have b8:=b7.alloc (.cells #[zY 0,zY 0,zY 0,zY 0,zY 0,zY 0,zY 0,zY 0,zY 0,zY 0,zY 0,zY 0,zY 0,zY 0,zY 0,zY 0] 65)
 have z8:=z7.alloc (.cells #[zY 0,zY 0,zY 0,zY 0,zY 0,zY 0,zY 0,zY 0,zY 0,zY 0,zY 0,zY 0,zY 0,zY 0,zY 0,zY 0] 65)
 have n8:=Blk.new w7 65 #[zY 0,zY 0,zY 0,zY 0,zY 0,zY 0,zY 0,zY 0,zY 0,zY 0,zY 0,zY 0,zY 0,zY 0,zY 0,zY 0]
 have B8:=B7.alloc B7.size (.cells #[zY 0,zY 0,zY 0,zY 0,zY 0,zY 0,zY 0,zY 0,zY 0,zY 0,zY 0,zY 0,zY 0,zY 0,zY 0,zY 0] 65)
 replace n8:Blk (w7.alloc (.cells #[zY 0,zY 0,zY 0,zY 0,zY 0,zY 0,zY 0,zY 0,zY 0,zY 0,zY 0,zY 0,zY 0,zY 0,zY 0,zY 0] 65)) w7.heap.size 65 (z3a (partF F 0)):=by rw [←arr16_zero F];exact n8
 obtain ⟨g,hg0⟩:∃ g,g=w7.heap.size:=⟨_,rfl⟩
 have hgl:w.heap.size+1<g:=by rw [hg0];exact b7.lt
 rw [←hg0] at n8
 rw [←hg0]
 clear b6 z6 B6 g7 b7 z7 B7 hg0
 have OUT:Hid (∀ k,k<16→outF F k=wrd F (k / 4) / ((256^(k%4):Nat):Int)%256):=hid (fun k _=>by unfold outF;rfl)
 obtain ⟨⟨x00,x01⟩,⟨x10,x11⟩,⟨x20,x21⟩,⟨x30,x31⟩,-⟩:=okS.out
 generalize World.alloc _ _=W at *
 go_loopw [27] (fun i wr=>∃ k:Nat,k≤16∧i=zI k∧Blk wr (w.heap.size+1) 192 (arrS F y4 0)∧Blk wr w.heap.size 65 #[zY 0,zY 0,zY 0,zY 0,zY 0,zY 0,zY 0,zY 0,zY 0,zY 0,zY 0,zY 0,zY 0,zY 0,zY 0,zY 0]∧Blk wr g 65 (z3a (partF F k))∧Below w.heap.size w wr) (fun i _=>16-(intOf i).toNat)
 case atStart=>exact ⟨0,by omega,rfl,b8,z8,n8,B8⟩
 case round=>
  obtain ⟨k,hk,rfl,hq,hz,hg,hB⟩:=hrel
  clear b8 z8 n8 B8
  by_cases hlt:k<16
  ·have hkk:k=0∨k=1∨k=2∨k=3∨k=4∨k=5∨k=6∨k=7∨k=8∨k=9∨k=10∨k=11∨k=12∨k=13∨k=14∨k=15:=by omega
   clear hlt hk
   rcases hkk with rfl | rfl | rfl | rfl | rfl | rfl | rfl | rfl | rfl | rfl | rfl | rfl | rfl | rfl | rfl | rfl
   ·have k1:wr.cell? ⟨w.heap.size+1,0,none⟩=some (zU F.x0):=hq.cell (k:=0) rfl
    have k2:wr.cell? ⟨g,0,none⟩=some (zY 0):=hg.cell (k:=0) rfl
    have f1:=hg.frozen 0
    go_wp2
    go_roundw
    case rel=>exact ⟨1,by omega,by go_num,hq.far _ (by simp;omega),hz.far _ (by simp;omega),zra hg (by omega) (by rw [OUT.out 0 (by omega)];simp [wrd] <;> omega),hB.setCell (by simp;omega) _⟩
    case measure=>simp [intOf]
   ·have k1:wr.cell? ⟨w.heap.size+1,0,none⟩=some (zU F.x0):=hq.cell (k:=0) rfl
    have k2:wr.cell? ⟨g,1,none⟩=some (zY 0):=hg.cell (k:=1) rfl
    have f1:=hg.frozen 1
    go_wp2
    go_roundw
    case rel=>exact ⟨2,by omega,by go_num,hq.far _ (by simp;omega),hz.far _ (by simp;omega),zra hg (by omega) (by rw [OUT.out 1 (by omega)];simp [wrd] <;> omega),hB.setCell (by simp;omega) _⟩
    case measure=>simp [intOf]
   ·have k1:wr.cell? ⟨w.heap.size+1,0,none⟩=some (zU F.x0):=hq.cell (k:=0) rfl
    have k2:wr.cell? ⟨g,2,none⟩=some (zY 0):=hg.cell (k:=2) rfl
    have f1:=hg.frozen 2
    go_wp2
    go_roundw
    case rel=>exact ⟨3,by omega,by go_num,hq.far _ (by simp;omega),hz.far _ (by simp;omega),zra hg (by omega) (by rw [OUT.out 2 (by omega)];simp [wrd] <;> omega),hB.setCell (by simp;omega) _⟩
    case measure=>simp [intOf]
   ·have k1:wr.cell? ⟨w.heap.size+1,0,none⟩=some (zU F.x0):=hq.cell (k:=0) rfl
    have k2:wr.cell? ⟨g,3,none⟩=some (zY 0):=hg.cell (k:=3) rfl
    have f1:=hg.frozen 3
    go_wp2
    go_roundw
    case rel=>exact ⟨4,by omega,by go_num,hq.far _ (by simp;omega),hz.far _ (by simp;omega),zra hg (by omega) (by rw [OUT.out 3 (by omega)];simp [wrd] <;> omega),hB.setCell (by simp;omega) _⟩
    case measure=>simp [intOf]
   ·have k1:wr.cell? ⟨w.heap.size+1,1,none⟩=some (zU F.x1):=hq.cell (k:=1) rfl
    have k2:wr.cell? ⟨g,4,none⟩=some (zY 0):=hg.cell (k:=4) rfl
    have f1:=hg.frozen 4
    go_wp2
    go_roundw
    case rel=>exact ⟨5,by omega,by go_num,hq.far _ (by simp;omega),hz.far _ (by simp;omega),zra hg (by omega) (by rw [OUT.out 4 (by omega)];simp [wrd] <;> omega),hB.setCell (by simp;omega) _⟩
    case measure=>simp [intOf]
   ·have k1:wr.cell? ⟨w.heap.size+1,1,none⟩=some (zU F.x1):=hq.cell (k:=1) rfl
    have k2:wr.cell? ⟨g,5,none⟩=some (zY 0):=hg.cell (k:=5) rfl
    have f1:=hg.frozen 5
    go_wp2
    go_roundw
    case rel=>exact ⟨6,by omega,by go_num,hq.far _ (by simp;omega),hz.far _ (by simp;omega),zra hg (by omega) (by rw [OUT.out 5 (by omega)];simp [wrd] <;> omega),hB.setCell (by simp;omega) _⟩
    case measure=>simp [intOf]
   ·have k1:wr.cell? ⟨w.heap.size+1,1,none⟩=some (zU F.x1):=hq.cell (k:=1) rfl
    have k2:wr.cell? ⟨g,6,none⟩=some (zY 0):=hg.cell (k:=6) rfl
    have f1:=hg.frozen 6
    go_wp2
    go_roundw
    case rel=>exact ⟨7,by omega,by go_num,hq.far _ (by simp;omega),hz.far _ (by simp;omega),zra hg (by omega) (by rw [OUT.out 6 (by omega)];simp [wrd] <;> omega),hB.setCell (by simp;omega) _⟩
    case measure=>simp [intOf]
   ·have k1:wr.cell? ⟨w.heap.size+1,1,none⟩=some (zU F.x1):=hq.cell (k:=1) rfl
    have k2:wr.cell? ⟨g,7,none⟩=some (zY 0):=hg.cell (k:=7) rfl
    have f1:=hg.frozen 7
    go_wp2
    go_roundw
    case rel=>exact ⟨8,by omega,by go_num,hq.far _ (by simp;omega),hz.far _ (by simp;omega),zra hg (by omega) (by rw [OUT.out 7 (by omega)];simp [wrd] <;> omega),hB.setCell (by simp;omega) _⟩
    case measure=>simp [intOf]
   ·have k1:wr.cell? ⟨w.heap.size+1,2,none⟩=some (zU F.x2):=hq.cell (k:=2) rfl
    have k2:wr.cell? ⟨g,8,none⟩=some (zY 0):=hg.cell (k:=8) rfl
    have f1:=hg.frozen 8
    go_wp2
    go_roundw
    case rel=>exact ⟨9,by omega,by go_num,hq.far _ (by simp;omega),hz.far _ (by simp;omega),zra hg (by omega) (by rw [OUT.out 8 (by omega)];simp [wrd] <;> omega),hB.setCell (by simp;omega) _⟩
    case measure=>simp [intOf]
   ·have k1:wr.cell? ⟨w.heap.size+1,2,none⟩=some (zU F.x2):=hq.cell (k:=2) rfl
    have k2:wr.cell? ⟨g,9,none⟩=some (zY 0):=hg.cell (k:=9) rfl
    have f1:=hg.frozen 9
    go_wp2
    go_roundw
    case rel=>exact ⟨10,by omega,by go_num,hq.far _ (by simp;omega),hz.far _ (by simp;omega),zra hg (by omega) (by rw [OUT.out 9 (by omega)];simp [wrd] <;> omega),hB.setCell (by simp;omega) _⟩
    case measure=>simp [intOf]
   ·have k1:wr.cell? ⟨w.heap.size+1,2,none⟩=some (zU F.x2):=hq.cell (k:=2) rfl
    have k2:wr.cell? ⟨g,10,none⟩=some (zY 0):=hg.cell (k:=10) rfl
    have f1:=hg.frozen 10
    go_wp2
    go_roundw
    case rel=>exact ⟨11,by omega,by go_num,hq.far _ (by simp;omega),hz.far _ (by simp;omega),zra hg (by omega) (by rw [OUT.out 10 (by omega)];simp [wrd] <;> omega),hB.setCell (by simp;omega) _⟩
    case measure=>simp [intOf]
   ·have k1:wr.cell? ⟨w.heap.size+1,2,none⟩=some (zU F.x2):=hq.cell (k:=2) rfl
    have k2:wr.cell? ⟨g,11,none⟩=some (zY 0):=hg.cell (k:=11) rfl
    have f1:=hg.frozen 11
    go_wp2
    go_roundw
    case rel=>exact ⟨12,by omega,by go_num,hq.far _ (by simp;omega),hz.far _ (by simp;omega),zra hg (by omega) (by rw [OUT.out 11 (by omega)];simp [wrd] <;> omega),hB.setCell (by simp;omega) _⟩
    case measure=>simp [intOf]
   ·have k1:wr.cell? ⟨w.heap.size+1,3,none⟩=some (zU F.x3):=hq.cell (k:=3) rfl
    have k2:wr.cell? ⟨g,12,none⟩=some (zY 0):=hg.cell (k:=12) rfl
    have f1:=hg.frozen 12
    go_wp2
    go_roundw
    case rel=>exact ⟨13,by omega,by go_num,hq.far _ (by simp;omega),hz.far _ (by simp;omega),zra hg (by omega) (by rw [OUT.out 12 (by omega)];simp [wrd] <;> omega),hB.setCell (by simp;omega) _⟩
    case measure=>simp [intOf]
   ·have k1:wr.cell? ⟨w.heap.size+1,3,none⟩=some (zU F.x3):=hq.cell (k:=3) rfl
    have k2:wr.cell? ⟨g,13,none⟩=some (zY 0):=hg.cell (k:=13) rfl
    have f1:=hg.frozen 13
    go_wp2
    go_roundw
    case rel=>exact ⟨14,by omega,by go_num,hq.far _ (by simp;omega),hz.far _ (by simp;omega),zra hg (by omega) (by rw [OUT.out 13 (by omega)];simp [wrd] <;> omega),hB.setCell (by simp;omega) _⟩
    case measure=>simp [intOf]
   ·have k1:wr.cell? ⟨w.heap.size+1,3,none⟩=some (zU F.x3):=hq.cell (k:=3) rfl
    have k2:wr.cell? ⟨g,14,none⟩=some (zY 0):=hg.cell (k:=14) rfl
    have f1:=hg.frozen 14
    go_wp2
    go_roundw
    case rel=>exact ⟨15,by omega,by go_num,hq.far _ (by simp;omega),hz.far _ (by simp;omega),zra hg (by omega) (by rw [OUT.out 14 (by omega)];simp [wrd] <;> omega),hB.setCell (by simp;omega) _⟩
    case measure=>simp [intOf]
   ·have k1:wr.cell? ⟨w.heap.size+1,3,none⟩=some (zU F.x3):=hq.cell (k:=3) rfl
    have k2:wr.cell? ⟨g,15,none⟩=some (zY 0):=hg.cell (k:=15) rfl
    have f1:=hg.frozen 15
    go_wp2
    go_roundw
    case rel=>exact ⟨16,by omega,by go_num,hq.far _ (by simp;omega),hz.far _ (by simp;omega),zra hg (by omega) (by rw [OUT.out 15 (by omega)];simp [wrd] <;> omega),hB.setCell (by simp;omega) _⟩
    case measure=>simp [intOf]
  ·obtain rfl:k=16:=by omega
   rw [arr16_full] at hg
   go_wp2_with (first | (refine zwb rfl _ (.tmp 4) rfl _ rfl _ _ _ hg Tryz.underlying65 rfl size35 ?_) | (refine zab rfl _ (.tmp 2) _ rfl _ rfl _ rfl (arr16_one _) _ hz rfl size35 ?_;intro v gv mv))
   exact bodyPost_ret (zcd rfl rfl mv Tryz.underlying65 rfl size35) rfl ⟨by rw [HF.out],zw hB gv hB.size (by omega)⟩
end Go.Proofs.YtmjbnmbobocpdaaGreat
namespace Go.Proofs.YtmjbnmbobocpdaaGreat
open Go.ChangeShapes Go.WideShapes Go.ChangeAt Go.RowKit Go.Shelf
theorem Src.any {N q p:Nat} {w:World} {A:Option Addr} {l:List UInt8} (h:Src N q w A l) (hp:N≤p):Src N p w A l:=fun hl=>by
 obtain ⟨b,o,e,h1,h2,h3⟩:=h hl
 exact ⟨b,o,e,h1,by omega,h3⟩
theorem Src.rd {N q:Nat} {w:World} {A:Option Addr} {l:List UInt8} (h:Src N q w A l) (hN:N≤w.heap.size):Rd w A l:=fun hl=>by
 obtain ⟨b,o,e,h1,h2,h3⟩:=h hl
 exact ⟨_,e,by simp only;omega,fun j x hx=>by rw [zna];exact h3 j x hx⟩
theorem Rd.src {w:World} {A:Option Addr} {l:List UInt8} (h:Rd w A l) {p:Nat} (hp:w.heap.size≤p):Src w.heap.size p w A l:=fun hl=>by
 obtain ⟨b,o,e,h1,h2⟩:=h.at hl
 exact ⟨b,o,e,h1,by omega,h2⟩
def PRd (w:World) (A:Option Addr) (L:List (List UInt8)):Prop:=
 0<L.length→∃ b o,A=some ⟨b,o,none⟩∧b<w.heap.size∧∀ j l,L[j]? = some l→∃ A' c',w.cell? ⟨b,o+j,none⟩=some (.slice A' l.length c')∧l.length≤c'∧c'≤maxLen∧(A'=none→c'=0)∧Rd w A' l
theorem PRd.src {w:World} {A:Option Addr} {L:List (List UInt8)} (h:PRd w A L) {p:Nat} (hp:w.heap.size≤p):PSrc w.heap.size p w A L:=fun hl=>by
 obtain ⟨b,o,e,h1,h3⟩:=h hl
 refine ⟨b,o,e,h1,by omega,fun j l hj=>?_⟩
 obtain ⟨A',c',q1,q2,q3,q4,q5⟩:=h3 j l hj
 exact ⟨A',c',q1,q2,q3,q4,q5.src hp⟩
theorem PRd.step {w w':World} {A:Option Addr} {L:List (List UInt8)} (h:PRd w A L) (hb:Below w.heap.size w w'):PRd w' A L:=fun hl=>by
 obtain ⟨b,o,e,h1,h3⟩:=h hl
 refine ⟨b,o,e,Nat.lt_of_lt_of_le h1 hb.size,fun j l hj=>?_⟩
 obtain ⟨A',c',q1,q2,q3,q4,q5⟩:=h3 j l hj
 exact ⟨A',c',(cell_same (hb.block b h1)).trans q1,q2,q3,q4,q5.step hb⟩
def macW (key:List UInt8) (L:List (List UInt8)):W8:=sumW (feed (initW key) (cat L)).1 (feed (initW key) (cat L)).2
theorem PSrc.any {N q p:Nat} {w:World} {A:Option Addr} {L:List (List UInt8)} (h:PSrc N q w A L) (hp:N≤p):PSrc N p w A L:=fun hl=>by
 obtain ⟨b,o,e,h1,h2,h3⟩:=h hl
 refine ⟨b,o,e,h1,by omega,fun j l hj=>?_⟩
 obtain ⟨A',c',q1,q2,q3,q4,q5⟩:=h3 j l hj
 exact ⟨A',c',q1,q2,q3,q4,q5.any hp⟩
theorem mac_any (A:Option Addr) (key:List UInt8) (n c:Nat) (hn:key.length=n) (hc:n≤c) (hm:c≤maxLen) (hA:A=none→c=0) (B:Option Addr) (L:List (List UInt8)) (k d:Nat) (hk:L.length=k) (hd:k≤d) (hmd:d≤maxLen) (w:World) (hR:Rd w A key) (hP:PRd w B L):
  Calls Tryz.prog 142 #[.slice A n c,.slice B k d] w fun e w'=>e=.returned (.agg (z3a (outF (macW key L))))∧Below w.heap.size w w':=by
 have b0:=zqa w (.cells #[zY 0,zY 0,zY 0,zY 0,zY 0,zY 0,zY 0,zY 0,zY 0,zY 0,zY 0,zY 0,zY 0,zY 0,zY 0,zY 0] 65)
 have z0:=Blk.new w 65 #[zY 0,zY 0,zY 0,zY 0,zY 0,zY 0,zY 0,zY 0,zY 0,zY 0,zY 0,zY 0,zY 0,zY 0,zY 0,zY 0]
 go_enter Tryz.func142,Tryz.ntmps142
 go_wp2_with fail
 refine (new_any A key n c hn hc hm hA _ (hR.step b0)).mono ?_
 rintro e w1 ⟨p,rfl,hp,S1,b1⟩
 rw [World.size_alloc] at hp
 have B1:=z1c b0 b1
 have z1:=z0.step b1
 have P1:=hP.step B1
 have hPb:PSrc w.heap.size p w B L:=hP.src (by omega)
 have P1':PSrc w.heap.size p w1 B L:=hPb.kp (Kp.below B1)
 clear b0 z0 b1 P1 hPb hR hP
 go_wp2_with fail
 refine (spcounted_any B k d _).mono ?_
 rintro e w2 ⟨rfl,hw2⟩
 have b2:Below w1.heap.size w1 w2:=by rw [hw2];exact zqa _ _
 have c2:Blk w2 w1.heap.size 68 #[.slice B k d]:=by rw [hw2];exact Blk.new w1 _ _
 have hp1:=S1.lt
 have S2:=S1.of_block (b2.block p hp1)
 have z2:=z1.step b2
 have P2:PSrc w2.heap.size p w2 B L:=(P1'.kp (Kp.below (b2.mono B1.size))).mono (Nat.le_trans B1.size b2.size)
 have B2:=z1c B1 b2
 rw [←hk] at c2
 clear hw2 S1 z1 P1' B1
 go_wp2_with fail
 refine (each_any p w1.heap.size (initW key) [] B d L (by rw [hk];exact hd) hmd w2 (by omega) S2 P2 c2).mono ?_
 rintro e w3 ⟨rfl,g3,S3⟩
 rw [List.nil_append] at S3
 have z3:=z2.grown g3 (fun e=>by cases e;omega)
 have B3:Below w.heap.size w w3:=zw B2 g3 B2.size (by omega)
 clear S2 P2 c2 g3 z2 B2 b2
 go_wp2_with fail
 refine (sum_any p _ _ w3 S3).mono ?_
 rintro e w4 ⟨rfl,b4⟩
 have z4:=z3.step b4
 have B4:=z1c B3 b4
 obtain ⟨F,hF⟩:∃ F,F=macW key L:=⟨_,rfl⟩
 have HF:=hid hF
 rw [show sumW (feed (initW key) (cat L)).1 (feed (initW key) (cat L)).2=F from hF.symm]
 clear hF S3 z3 B3 b4
 go_wp2_with (refine zab rfl _ (.tmp 4) _ rfl _ rfl _ rfl (arr16_one _) _ z4 rfl size35 ?_;intro w5 g5 c5)
 exact bodyPost_ret (zcd rfl rfl c5 Tryz.underlying65 rfl size35) rfl ⟨by rw [HF.out],zw B4 g5 B4.size (Nat.le_refl _)⟩
theorem of_any (B:Option Addr) (L:List (List UInt8)) (k d:Nat) (hk:L.length=k) (hd:k≤d) (hmd:d≤maxLen) (w:World) (hP:PRd w B L):
  Calls Tryz.prog 126 #[.slice B k d] w fun e w'=>e=.returned (.agg (z3a (outF (macW [] L))))∧Below w.heap.size w w':=by
 have b0:=zqa w (.cells #[zY 0,zY 0,zY 0,zY 0,zY 0,zY 0,zY 0,zY 0,zY 0,zY 0,zY 0,zY 0,zY 0,zY 0,zY 0,zY 0] 65)
 have z0:=Blk.new w 65 #[zY 0,zY 0,zY 0,zY 0,zY 0,zY 0,zY 0,zY 0,zY 0,zY 0,zY 0,zY 0,zY 0,zY 0,zY 0,zY 0]
 go_enter Tryz.func126,Tryz.ntmps126
 go_wp2_with fail
 refine (mac_any none [] 0 0 rfl (Nat.le_refl _) (by unfold maxLen;omega) (fun _=>rfl) B L k d hk hd hmd _ (fun h=>absurd h (by simp)) (hP.step b0)).mono ?_
 rintro e w1 ⟨rfl,b1⟩
 have z1:=z0.step b1
 have B1:=z1c b0 b1
 obtain ⟨F,hF⟩:∃ F,F=macW [] L:=⟨_,rfl⟩
 rw [←hF]
 have HF:=hid hF
 clear hF z0 b0 b1
 go_wp2_with (refine zab rfl _ (.tmp 2) _ rfl _ rfl _ rfl (arr16_one _) _ z1 rfl size35 ?_;intro w5 g5 c5)
 exact bodyPost_ret (zcd rfl rfl c5 Tryz.underlying65 rfl size35) rfl ⟨by first | rfl | rw [HF.out],zw B1 g5 B1.size (Nat.le_refl _)⟩
end Go.Proofs.YtmjbnmbobocpdaaGreat
