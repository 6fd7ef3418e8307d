/- What VaultOwn stands on, part 10. -/
import Derived.RangeFuncWrites
import Derived.Test.YtmjbnmbobocpdaaGreatVaultOwnP1
import Derived.Test.YtmjbnmbobocpdaaGreatVaultOwnP2
import Derived.Test.YtmjbnmbobocpdaaGreatVaultOwnP3
import Derived.Test.YtmjbnmbobocpdaaGreatVaultOwnP4
import Derived.Test.YtmjbnmbobocpdaaGreatVaultOwnP5
import Derived.Test.YtmjbnmbobocpdaaGreatVaultOwnP6
import Derived.Test.YtmjbnmbobocpdaaGreatVaultOwnP7
import Derived.Test.YtmjbnmbobocpdaaGreatVaultOwnP8
import Derived.Test.YtmjbnmbobocpdaaGreatVaultOwnP9
set_option maxRecDepth 100000
set_option maxHeartbeats 8000000
set_option linter.unusedVariables false
set_option linter.unusedSimpArgs false
namespace Go.Proofs.YtmjbnmbobocpdaaGreat
open Go.ChangeShapes Go.WideShapes Go.ChangeAt Go.RowKit
def nxtP (V:VltN) (q:Nat):Nat:=if anyB zr V q=true then 2*q+1-cntP V q else q
def nxtT (V:VltN) (q:Nat):Int:=if anyB zr V q=true then cntT V q+1 else 1
def sayW (V:VltN) (q:Nat) (l:List UInt8):VltN×Bool:=wrtV V (nxtP V q) (z7a zr (nxtP V q) (nxtT V q) l)
theorem cntP_in {V:VltN} {q:Nat} (h:anyB zr V q=true):cntP V q=q∨cntP V q=q+1:=by
 unfold cntP
 by_cases hs:secB zr V q=true
 ·rw [if_pos hs]
  right
  have:zob zr (q+1) (V.c (q+1)).s=true:=by
   unfold secB at hs
   simp only [Bool.and_eq_true] at hs
   exact hs.1
  exact if_pos (good_ge this)
 ·rw [if_neg hs]
  left
  have:zob zr q (V.c q).s=true:=by
   unfold anyB at h
   simp only [Bool.or_eq_true] at h
   exact h.resolve_left hs
  exact if_pos (good_ge this)
theorem cw_is {f:FuncId} {args:Array Value} {w:World} {V:VltN} {q P:Nat} {T:Int} {b:Bool} {s:Nat→Value} (hP:cntP V q=P) (hT:cntT V q=T) (h:Calls Tryz.prog f args w fun e w'=>∃ t,e=.returned t∧∃ S,t=.tuple #[.agg #[zI (cntP V q:Int),zI (cntT V q),S],.bool b]∧IsB w (cntS V q) S∧(∀ b,bfp S b→bfp (s q) b∨bfp (s (q+1)) b)∧Below w.heap.size w w'):Calls Tryz.prog f args w fun e w'=>∃ t,e=.returned t∧∃ S,t=.tuple #[.agg #[zI (P:Int),zI T,S],.bool b]∧IsB w (cntS V q) S∧(∀ b,bfp S b→bfp (s q) b∨bfp (s (q+1)) b)∧Below w.heap.size w w':=by
 subst hP hT;exact h
theorem HasV.of {w:World} {g:Nat} {V:VltN} {s n:Nat→Value} (hg:w.heap[g]? = some (.cells (vltA V s n) 80 (0,0))) (hr:RowsV w g V.c s n):HasV w g V s n:=⟨hg,fun i hi=>(hr i hi).1.1,fun i hi=>(hr i hi).2.1⟩
theorem pwrite_twt (c2:Bool) (q:Nat) (hq:q+1<18) (g:Nat) (V:VltN) (s n:Nat→Value) (hv:z1a V) (l:List UInt8) (lv:Value) (hl:l.length≤1000) (hA:anyB zr V q=true) (ht:-9223372036854775808≤cntT V q∧cntT V q<9223372036854775807) (w:World) (hB:IsB w l lv) (hBg:¬bfp lv g) (hr:RowsV w g V.c s n) (hg:w.heap[g]? = some (.cells (vltA V s n) 80 (0,0))):let tw3:FuncId:=cond c2 77 66;let tw4:FuncId:=cond c2 106 89;let tw5:FuncId:=cond c2 105 88;let tw6:TypeId:=cond c2 87 100;let tw0f:Func:=cond c2 Tryz.f77 Tryz.f66;let tw1f:Func:=cond c2 Tryz.f106 Tryz.f89;Calls Tryz.prog tw3 #[.agg #[zI (q:Int),.func (.func tw5) #[] #[]],(zO g),lv] w fun e w'=>∃ t,e=.returned t∧t=.bool (sayW V q l).2∧∃ s' n',RowsV w' g (sayW V q l).1.c s' n'∧(∀ b,zo 18 s' n' b→zo 18 s n b∨w.heap.size≤b)∧w'.heap[g]? = some (.cells (vltA (sayW V q l).1 s' n') 80 (0,0))∧w.grownBy w' (some g):=by
 intro tw3 tw4 tw5 tw6 tw0f tw1f
 cases c2
 all_goals
  have tw0:Tryz.prog.funcs[tw3]? = some (tw0f):=by first | exact Tryz.func77 | exact Tryz.func66
  have tw1:Tryz.prog.funcs[tw4]? = some (tw1f):=by first | exact Tryz.func106 | exact Tryz.func89
  obtain ⟨tw2d,tw2,tw2p⟩:∃ d,Tryz.prog.underlying tw6=some d∧yPlain d=false:=by first | exact ⟨_,Tryz.underlying87,rfl⟩ | exact ⟨_,Tryz.underlying100,rfl⟩
  obtain ⟨Av,cv,rfl⟩:=hB.shape
  obtain ⟨P,hP⟩:∃ x,cntP V q=x:=⟨_,rfl⟩
  have hPq:=cntP_in hA
  rw [hP] at hPq
  obtain ⟨T,hT⟩:∃ x,cntT V q=x:=⟨_,rfl⟩
  rw [hT] at ht
  obtain ⟨N,hN⟩:∃ N,2*q+1-P=N:=⟨_,rfl⟩
  rw [show sayW V q l=wrtV V N (z7a zr N (T+1) l) by rw [sayW,nxtP,nxtT,if_pos hA,if_pos hA,hP,hT,hN]]
  refine zk (args:=[.agg (#[zI (q:Int),.func (.func tw5) #[] #[]]),(zO g),.slice Av l.length cv]) 39 tw0 rfl rfl rfl ?_
  intro fa F
  have M:=Mx.theG hg 0
  refine zT fun _ hK1=>zq rfl rfl F rfl M 1 (t:=tw6) (c:=#[zI (q:Int),.func (.func tw5) #[] #[]]) (by unfold execOp;simp only [(F 0 rfl)];kernel_rfl) ?_
  intro g2 a2 w2 F2 M2
  refine rm rfl F2 fun _ F3=>hK1 _ _ (zT fun _ hK4=>zB 3 [(1,(zO g)),(3,(zO g2)),(6,.bool false),(11,zI (q:Int)),(12,.slice Av l.length cv)] [0] (zu (M2.blk (k:=1) rfl) dnil) [g2] F3 fun _ F5=>?_)
  refine zc (w':=w2) rfl rfl F5 rfl (.agg (#[zI (q:Int),zI 1,.slice Av l.length cv])) (by unfold execOp;simp only [List.map_toArray,List.map_cons,List.map_nil,(F5 11 rfl),(F5 12 rfl)];kernel_rfl) fun _ F6=>?_
  refine zq rfl rfl F6 rfl M2 2 (t:=128) (c:=#[zI 0,zI 0,zN]) (by unfold execOp;kernel_rfl) ?_
  intro g7 a7 w7 F7 M7
  refine zt rfl rfl F7 M7 (k:=2) rfl _ _ _ rfl (F7 7 rfl) (F7 13 rfl) (#[zI (q:Int),zI 1,.slice Av l.length cv]) _ rfl (zL rfl) (zyc (hB.grow M7.grown hBg)) (zca rfl) (by kernel_rfl) ?_
  intro w8 M8
  refine hK4 _ _ (zSk fun _ hK9=>zT fun _ hK10=>zc (w':=w8) rfl rfl F7 rfl _ (zjb _ _ rfl (F7 3 rfl) (M8.blk (k:=1) rfl) (#[zI (q:Int),.func (.func tw5) #[] #[]]) (znb rfl) tw2 tw2p (by kernel_rfl)) fun _ F11=>?_)
  refine rm rfl F11 fun _ F12=>zh rfl rfl F12 rfl rfl (enters_of tw1 (by kernel_rfl) rfl) #[.agg (#[zI (q:Int),.func (.func tw5) #[] #[]]),(zO g)] (zfa (F12 15 rfl) (F12 16 rfl)) (cw_is hP hT (by first | exact countsR_is q hq g V s n hv true hA w8 (HasV.of (M8.blk (k:=0) rfl) (hr.grow M8.grown)) | exact countsI_is q hq g V s n hv true hA w8 (HasV.of (M8.blk (k:=0) rfl) (hr.grow M8.grown)))) ?_
  rintro _ w13 a13 ⟨S13,rfl,hS13,hf13,b13⟩ F13
  skip
  have M13:=M8.step b13
  have hS13:=hS13.step b13
  refine rm rfl F13 fun _ F14=>zAx 2 [(18,.agg (#[zI (P:Int),zI T,S13])),(19,.bool true)] [] dnil [] F14 fun _ F15=>?_
  refine zq rfl rfl F15 rfl M13 4 (t:=128) (c:=#[zI 0,zI 0,zN]) (by unfold execOp;kernel_rfl) ?_
  intro g16 a16 w16 F16 M16
  refine zt rfl rfl F16 M16 (k:=4) rfl _ _ _ rfl (F16 8 rfl) (F16 18 rfl) (#[zI (P:Int),zI T,S13]) _ rfl (zL rfl) (zyc hS13) (zca rfl) (by kernel_rfl) ?_
  intro w17 M17
  refine rm rfl F16 fun _ F18=>hK10 _ _ (zT fun _ hK19=>rm rfl F18 fun _ F20=>hK19 _ _ (wp_cond_true (F20 20 rfl) (zT fun _ hK21=>zAx 2 [(21,(zO g2)),(22,zI (q:Int))] [0] (zu (M17.blk (k:=1) rfl) dnil) [g2] F20 fun _ F22=>?_)))
  refine zc (w':=w17) rfl rfl F22 rfl (zI ((2*q:Nat):Int)) (y_mulI _ _ _ _ rfl rfl (F22 22 rfl) (by omega) (by omega)) fun _ F23=>?_
  refine zc (w':=w17) rfl rfl F23 rfl (zI ((2*q+1:Nat):Int)) (zoa _ _ _ _ rfl (F23 23 rfl) rfl (by omega) (by omega)) fun _ F24=>?_
  refine zAx 2 [(25,(zO g16)),(26,zI (P:Int))] [0] (zu (M17.blk (k:=4) rfl) dnil) [g16] F24 fun _ F25=>?_
  refine zc (w':=w17) rfl rfl F25 rfl (zI (N:Int)) (z3c _ _ _ _ rfl (F25 24 rfl) (F25 26 rfl) (by omega) (by omega)) fun _ F26=>?_
  refine zc (w':=w17) rfl rfl F26 rfl (zO g7) (y_fa (off:=0) rfl (F26 7 rfl) (by kernel_rfl) rfl) fun _ F27=>?_
  refine zt rfl rfl F27 M17 (k:=2) rfl _ _ _ rfl (F27 28 rfl) (F27 27 rfl) (#[zI (N:Int)]) (#[zI (N:Int),zI 1,.slice Av l.length cv]) rfl (zL rfl) (zdc _ _) (by kernel_rfl) (by kernel_rfl) ?_
  intro w28 M28
  refine hK21 _ _ (zR (zc (w':=w28) rfl rfl F27 rfl (zP g16 1) (y_fa (off:=1) rfl (F27 8 rfl) (by kernel_rfl) rfl) fun _ F29=>?_))
  refine zc (w':=w28) rfl rfl F29 rfl (zI T) (zda _ _ rfl (F29 29 rfl) (M28.blk (k:=4) rfl) rfl Tryz.underlying3 rfl) fun _ F30=>?_
  refine zc (w':=w28) rfl rfl F30 rfl (zI (T+1)) (zoa _ _ _ _ rfl (F30 30 rfl) rfl rfl (by omega)) fun _ F31=>?_
  refine zc (w':=w28) rfl rfl F31 rfl (zP g7 1) (y_fa (off:=1) rfl (F31 7 rfl) (by kernel_rfl) rfl) fun _ F32=>?_
  refine zt rfl rfl F32 M28 (k:=2) rfl _ _ _ rfl (F32 32 rfl) (F32 31 rfl) (#[zI (T+1)]) (#[zI (N:Int),zI (T+1),.slice Av l.length cv]) rfl (zL rfl) (zdc _ _) (by kernel_rfl) (by kernel_rfl) ?_
  intro w33 M33
  refine hK9 _ _ (zSk fun _ hK34=>?_)
  refine zva F32 (SE [.inl (zO g),.inl (zO g7),.inl (zI (N:Int)),.inl (.agg (#[zI (N:Int),zI (T+1),.slice Av l.length cv])),.inr (fun _=>True)]) (JM (some g) w fun SV pV=>[(0,blkR g 80 (vltA V s n)),(1,blkR g2 tw6 (#[zI (q:Int),.func (.func tw5) #[] #[]])),(2,blkR g7 128 (#[zI (N:Int),zI (T+1),.slice Av l.length cv])),(4,blkR g16 128 (#[zI (P:Int),zI T,S13])),(5,z5a (SV 4) (ownR (z7a zr N (T+1) l) (pV 4)))]) 5 rfl (by kernel_rfl) rfl ⟨trivial,trivial,trivial,trivial,trivial,trivial⟩ (fun p=>((M33.step (zsa _)).triv 5).sub ⟨rfl,rfl,rfl,rfl,rfl,trivial⟩) ⟨zcb F32,zcb F32,hopMP F32 (fun _ _ _ M=>zu (Mx.blk (k:=2) M rfl) dnil) (some g7),hopMP F32 (fun _ _ _ M=>zu (Mx.blk (k:=2) M rfl) dnil) (some g7),?_,trivial⟩ ?_
  ·intro ua uw SV pV (M:Mx (some g) w uw _) hk hn hd
   have e36:ua.eval (.tmp 36)=.agg (#[zI (N:Int),zI (T+1),.slice Av l.length cv]):=zQ1 (hd 36 (by decide))
   exact z9a rfl rfl #[.agg (#[zI (N:Int),zI (T+1),.slice Av l.length cv])] (zaa e36) (zE Tryz.func99 rfl) (((cbytes_any N (T+1) l (.slice Av l.length cv) hl uw (hB.grow M.grown hBg))).mono fun e w2 h=>(by obtain ⟨u,h1,h2,h3⟩:=h;exact ⟨u,h1,trivial,(M.newO h3 5 h2).sub ⟨rfl,rfl,rfl,rfl,rfl,trivial⟩⟩))
  intro p35 a35 w35 M35 G35 y35
  obtain ⟨q0,-,q2,-,q4,-⟩:=y35
  have r0:p35 0=(zO g):=q0
  have r2:p35 2=zI (N:Int):=q2
  replace M35:Mx _ _ w35 [(0,blkR g 80 (vltA V s n)),(1,blkR g2 tw6 (#[zI (q:Int),.func (.func tw5) #[] #[]])),(2,blkR g7 128 (#[zI (N:Int),zI (T+1),.slice Av l.length cv])),(4,blkR g16 128 (#[zI (P:Int),zI T,S13])),(5,z5a true (ownR (z7a zr N (T+1) l) (p35 4)))]:=M35
  simp only [List.take,layV,Nat.zero_add,Nat.reduceAdd,r0,r2] at G35
  obtain ⟨Ap35_5,cp35_5,hp35_5⟩:=(M35.isO (k:=5) rfl).shape
  rw [hp35_5] at M35
  try rw [hp35_5] at G35
  refine zh rfl rfl G35 rfl rfl (zE Tryz.func98 rfl) #[(zO g),zI (N:Int),(.slice Ap35_5 ((z7a zr N (T+1) l)).length cp35_5)] (args3 (G35 33 rfl) (G35 35 rfl) (G35 37 rfl)) (dwrite_any g V s n N (by omega) ((.slice Ap35_5 ((z7a zr N (T+1) l)).length cp35_5)) (z7a zr N (T+1) l) w35 (M35.isO (k:=5) rfl) (fun h=>M35.dis 0 5 _ _ rfl rfl (by decide) rfl g rfl (zta h)) (hr.grow M35.grown) (M35.blk (k:=0) rfl)) ?_
  rintro _ w36 a36 ⟨rfl,s2,n2,hr36,ht36,hc36,hg36⟩ F36
  exact rm rfl F36 fun _ F37=>hK34 _ _ (wp_ret (bodyPost_ret (res1 rfl (F37.get rfl)) F37.defers ⟨_,rfl,rfl,s2,n2,hr36,(fun b hb=>(ht36 b hb).imp id (fun hb=>(M35.own 5 _ rfl rfl b (zta hb)).resolve_right (fun e=>M35.dis 0 5 _ _ rfl rfl (by decide) rfl b (Option.some.inj e).symm (zta hb)))),hc36,M35.grown.trans hg36⟩))
theorem pwriteR_t (q:Nat) (hq:q+1<18) (g:Nat) (V:VltN) (s n:Nat→Value) (hv:z1a V) (l:List UInt8) (lv:Value) (hl:l.length≤1000) (hA:anyB zr V q=true) (ht:-9223372036854775808≤cntT V q∧cntT V q<9223372036854775807) (w:World) (hB:IsB w l lv) (hBg:¬bfp lv g) (hr:RowsV w g V.c s n) (hg:w.heap[g]? = some (.cells (vltA V s n) 80 (0,0))):Calls Tryz.prog 77 #[.agg #[zI (q:Int),.func (.func 105) #[] #[]],(zO g),lv] w fun e w'=>∃ t,e=.returned t∧t=.bool (sayW V q l).2∧∃ s' n',RowsV w' g (sayW V q l).1.c s' n'∧(∀ b,zo 18 s' n' b→zo 18 s n b∨w.heap.size≤b)∧w'.heap[g]? = some (.cells (vltA (sayW V q l).1 s' n') 80 (0,0))∧w.grownBy w' (some g):=pwrite_twt true q hq g V s n hv l lv hl hA ht w hB hBg hr hg
theorem pwrite_twf (c2:Bool) (q:Nat) (hq:q+1<18) (g:Nat) (V:VltN) (s n:Nat→Value) (hv:z1a V) (l:List UInt8) (lv:Value) (hl:l.length≤1000) (hA:anyB zr V q=false) (w:World) (hB:IsB w l lv) (hBg:¬bfp lv g) (hr:RowsV w g V.c s n) (hg:w.heap[g]? = some (.cells (vltA V s n) 80 (0,0))):let tw3:FuncId:=cond c2 77 66;let tw4:FuncId:=cond c2 106 89;let tw5:FuncId:=cond c2 105 88;let tw6:TypeId:=cond c2 87 100;let tw0f:Func:=cond c2 Tryz.f77 Tryz.f66;let tw1f:Func:=cond c2 Tryz.f106 Tryz.f89;Calls Tryz.prog tw3 #[.agg #[zI (q:Int),.func (.func tw5) #[] #[]],(zO g),lv] w fun e w'=>∃ t,e=.returned t∧t=.bool (sayW V q l).2∧∃ s' n',RowsV w' g (sayW V q l).1.c s' n'∧(∀ b,zo 18 s' n' b→zo 18 s n b∨w.heap.size≤b)∧w'.heap[g]? = some (.cells (vltA (sayW V q l).1 s' n') 80 (0,0))∧w.grownBy w' (some g):=by
 intro tw3 tw4 tw5 tw6 tw0f tw1f
 cases c2
 all_goals
  have tw0:Tryz.prog.funcs[tw3]? = some (tw0f):=by first | exact Tryz.func77 | exact Tryz.func66
  have tw1:Tryz.prog.funcs[tw4]? = some (tw1f):=by first | exact Tryz.func106 | exact Tryz.func89
  obtain ⟨tw2d,tw2,tw2p⟩:∃ d,Tryz.prog.underlying tw6=some d∧yPlain d=false:=by first | exact ⟨_,Tryz.underlying87,rfl⟩ | exact ⟨_,Tryz.underlying100,rfl⟩
  obtain ⟨Av,cv,rfl⟩:=hB.shape
  rw [show sayW V q l=wrtV V q (z7a zr q 1 l) by rw [sayW,nxtP,nxtT,if_neg (by rw [hA];exact Bool.false_ne_true),if_neg (by rw [hA];exact Bool.false_ne_true)]]
  refine zk (args:=[.agg (#[zI (q:Int),.func (.func tw5) #[] #[]]),(zO g),.slice Av l.length cv]) 39 tw0 rfl rfl rfl ?_
  intro fa F
  have M:=Mx.theG hg 0
  refine zT fun _ hK1=>zq rfl rfl F rfl M 1 (t:=tw6) (c:=#[zI (q:Int),.func (.func tw5) #[] #[]]) (by unfold execOp;simp only [(F 0 rfl)];kernel_rfl) ?_
  intro g2 a2 w2 F2 M2
  refine rm rfl F2 fun _ F3=>hK1 _ _ (zT fun _ hK4=>zB 3 [(1,(zO g)),(3,(zO g2)),(6,.bool false),(11,zI (q:Int)),(12,.slice Av l.length cv)] [0] (zu (M2.blk (k:=1) rfl) dnil) [g2] F3 fun _ F5=>?_)
  refine zc (w':=w2) rfl rfl F5 rfl (.agg (#[zI (q:Int),zI 1,.slice Av l.length cv])) (by unfold execOp;simp only [List.map_toArray,List.map_cons,List.map_nil,(F5 11 rfl),(F5 12 rfl)];kernel_rfl) fun _ F6=>?_
  refine zq rfl rfl F6 rfl M2 2 (t:=128) (c:=#[zI 0,zI 0,zN]) (by unfold execOp;kernel_rfl) ?_
  intro g7 a7 w7 F7 M7
  refine zt rfl rfl F7 M7 (k:=2) rfl _ _ _ rfl (F7 7 rfl) (F7 13 rfl) (#[zI (q:Int),zI 1,.slice Av l.length cv]) _ rfl (zL rfl) (zyc (hB.grow M7.grown hBg)) (zca rfl) (by kernel_rfl) ?_
  intro w8 M8
  refine hK4 _ _ (zSk fun _ hK9=>zT fun _ hK10=>zc (w':=w8) rfl rfl F7 rfl _ (zjb _ _ rfl (F7 3 rfl) (M8.blk (k:=1) rfl) (#[zI (q:Int),.func (.func tw5) #[] #[]]) (znb rfl) tw2 tw2p (by kernel_rfl)) fun _ F11=>?_)
  refine rm rfl F11 fun _ F12=>zh rfl rfl F12 rfl rfl (enters_of tw1 (by kernel_rfl) rfl) #[.agg (#[zI (q:Int),.func (.func tw5) #[] #[]]),(zO g)] (zfa (F12 15 rfl) (F12 16 rfl)) (by first | exact countsR_is q hq g V s n hv false hA w8 (HasV.of (M8.blk (k:=0) rfl) (hr.grow M8.grown)) | exact countsI_is q hq g V s n hv false hA w8 (HasV.of (M8.blk (k:=0) rfl) (hr.grow M8.grown))) ?_
  rintro _ w13 a13 ⟨S13,rfl,hS13,hf13,b13⟩ F13
  skip
  have M13:=M8.step b13
  have hS13:=hS13.step b13
  refine rm rfl F13 fun _ F14=>zAx 2 [(18,.agg (#[zI (cntP V q:Int),zI (cntT V q),S13])),(19,.bool false)] [] dnil [] F14 fun _ F15=>?_
  refine zq rfl rfl F15 rfl M13 4 (t:=128) (c:=#[zI 0,zI 0,zN]) (by unfold execOp;kernel_rfl) ?_
  intro g16 a16 w16 F16 M16
  refine zt rfl rfl F16 M16 (k:=4) rfl _ _ _ rfl (F16 8 rfl) (F16 18 rfl) (#[zI (cntP V q:Int),zI (cntT V q),S13]) _ rfl (zL rfl) (zyc hS13) (zca rfl) (by kernel_rfl) ?_
  intro w17 M17
  refine rm rfl F16 fun _ F18=>hK10 _ _ (zT fun _ hK19=>rm rfl F18 fun _ F20=>hK19 _ _ (wp_cond_false (F20 20 rfl) (wp_skip (hK9 _ _ (zSk fun _ hK21=>?_)))))
  refine zva F20 (SE [.inl (zO g),.inl (zO g7),.inl (zI (q:Int)),.inl (.agg (#[zI (q:Int),zI 1,.slice Av l.length cv])),.inr (fun _=>True)]) (JM (some g) w fun SV pV=>[(0,blkR g 80 (vltA V s n)),(1,blkR g2 tw6 (#[zI (q:Int),.func (.func tw5) #[] #[]])),(2,blkR g7 128 (#[zI (q:Int),zI 1,.slice Av l.length cv])),(4,blkR g16 128 (#[zI (cntP V q:Int),zI (cntT V q),S13])),(5,z5a (SV 4) (ownR (z7a zr q 1 l) (pV 4)))]) 5 rfl (by kernel_rfl) rfl ⟨trivial,trivial,trivial,trivial,trivial,trivial⟩ (fun p=>((M17.step (zsa _)).triv 5).sub ⟨rfl,rfl,rfl,rfl,rfl,trivial⟩) ⟨zcb F20,zcb F20,hopMP F20 (fun _ _ _ M=>zu (Mx.blk (k:=2) M rfl) dnil) (some g7),hopMP F20 (fun _ _ _ M=>zu (Mx.blk (k:=2) M rfl) dnil) (some g7),?_,trivial⟩ ?_
  ·intro ua uw SV pV (M:Mx (some g) w uw _) hk hn hd
   have e36:ua.eval (.tmp 36)=.agg (#[zI (q:Int),zI 1,.slice Av l.length cv]):=zQ1 (hd 36 (by decide))
   exact z9a rfl rfl #[.agg (#[zI (q:Int),zI 1,.slice Av l.length cv])] (zaa e36) (zE Tryz.func99 rfl) (((cbytes_any q 1 l (.slice Av l.length cv) hl uw (hB.grow M.grown hBg))).mono fun e w2 h=>(by obtain ⟨u,h1,h2,h3⟩:=h;exact ⟨u,h1,trivial,(M.newO h3 5 h2).sub ⟨rfl,rfl,rfl,rfl,rfl,trivial⟩⟩))
  intro p22 a22 w22 M22 G22 y22
  obtain ⟨q0,-,q2,-,q4,-⟩:=y22
  have r0:p22 0=(zO g):=q0
  have r2:p22 2=zI (q:Int):=q2
  replace M22:Mx _ _ w22 [(0,blkR g 80 (vltA V s n)),(1,blkR g2 tw6 (#[zI (q:Int),.func (.func tw5) #[] #[]])),(2,blkR g7 128 (#[zI (q:Int),zI 1,.slice Av l.length cv])),(4,blkR g16 128 (#[zI (cntP V q:Int),zI (cntT V q),S13])),(5,z5a true (ownR (z7a zr q 1 l) (p22 4)))]:=M22
  simp only [List.take,layV,Nat.zero_add,Nat.reduceAdd,r0,r2] at G22
  obtain ⟨Ap22_5,cp22_5,hp22_5⟩:=(M22.isO (k:=5) rfl).shape
  rw [hp22_5] at M22
  try rw [hp22_5] at G22
  refine zh rfl rfl G22 rfl rfl (zE Tryz.func98 rfl) #[(zO g),zI (q:Int),(.slice Ap22_5 ((z7a zr q 1 l)).length cp22_5)] (args3 (G22 33 rfl) (G22 35 rfl) (G22 37 rfl)) (dwrite_any g V s n q (by omega) ((.slice Ap22_5 ((z7a zr q 1 l)).length cp22_5)) (z7a zr q 1 l) w22 (M22.isO (k:=5) rfl) (fun h=>M22.dis 0 5 _ _ rfl rfl (by decide) rfl g rfl (zta h)) (hr.grow M22.grown) (M22.blk (k:=0) rfl)) ?_
  rintro _ w23 a23 ⟨rfl,s2,n2,hr23,ht23,hc23,hg23⟩ F23
  exact rm rfl F23 fun _ F24=>hK21 _ _ (wp_ret (bodyPost_ret (res1 rfl (F24.get rfl)) F24.defers ⟨_,rfl,rfl,s2,n2,hr23,(fun b hb=>(ht23 b hb).imp id (fun hb=>(M22.own 5 _ rfl rfl b (zta hb)).resolve_right (fun e=>M22.dis 0 5 _ _ rfl rfl (by decide) rfl b (Option.some.inj e).symm (zta hb)))),hc23,M22.grown.trans hg23⟩))
theorem pwriteR_f (q:Nat) (hq:q+1<18) (g:Nat) (V:VltN) (s n:Nat→Value) (hv:z1a V) (l:List UInt8) (lv:Value) (hl:l.length≤1000) (hA:anyB zr V q=false) (w:World) (hB:IsB w l lv) (hBg:¬bfp lv g) (hr:RowsV w g V.c s n) (hg:w.heap[g]? = some (.cells (vltA V s n) 80 (0,0))):Calls Tryz.prog 77 #[.agg #[zI (q:Int),.func (.func 105) #[] #[]],(zO g),lv] w fun e w'=>∃ t,e=.returned t∧t=.bool (sayW V q l).2∧∃ s' n',RowsV w' g (sayW V q l).1.c s' n'∧(∀ b,zo 18 s' n' b→zo 18 s n b∨w.heap.size≤b)∧w'.heap[g]? = some (.cells (vltA (sayW V q l).1 s' n') 80 (0,0))∧w.grownBy w' (some g):=pwrite_twf true q hq g V s n hv l lv hl hA w hB hBg hr hg
theorem pwriteI_t (q:Nat) (hq:q+1<18) (g:Nat) (V:VltN) (s n:Nat→Value) (hv:z1a V) (l:List UInt8) (lv:Value) (hl:l.length≤1000) (hA:anyB zr V q=true) (ht:-9223372036854775808≤cntT V q∧cntT V q<9223372036854775807) (w:World) (hB:IsB w l lv) (hBg:¬bfp lv g) (hr:RowsV w g V.c s n) (hg:w.heap[g]? = some (.cells (vltA V s n) 80 (0,0))):Calls Tryz.prog 66 #[.agg #[zI (q:Int),.func (.func 88) #[] #[]],(zO g),lv] w fun e w'=>∃ t,e=.returned t∧t=.bool (sayW V q l).2∧∃ s' n',RowsV w' g (sayW V q l).1.c s' n'∧(∀ b,zo 18 s' n' b→zo 18 s n b∨w.heap.size≤b)∧w'.heap[g]? = some (.cells (vltA (sayW V q l).1 s' n') 80 (0,0))∧w.grownBy w' (some g):=pwrite_twt false q hq g V s n hv l lv hl hA ht w hB hBg hr hg
theorem pwriteI_f (q:Nat) (hq:q+1<18) (g:Nat) (V:VltN) (s n:Nat→Value) (hv:z1a V) (l:List UInt8) (lv:Value) (hl:l.length≤1000) (hA:anyB zr V q=false) (w:World) (hB:IsB w l lv) (hBg:¬bfp lv g) (hr:RowsV w g V.c s n) (hg:w.heap[g]? = some (.cells (vltA V s n) 80 (0,0))):Calls Tryz.prog 66 #[.agg #[zI (q:Int),.func (.func 88) #[] #[]],(zO g),lv] w fun e w'=>∃ t,e=.returned t∧t=.bool (sayW V q l).2∧∃ s' n',RowsV w' g (sayW V q l).1.c s' n'∧(∀ b,zo 18 s' n' b→zo 18 s n b∨w.heap.size≤b)∧w'.heap[g]? = some (.cells (vltA (sayW V q l).1 s' n') 80 (0,0))∧w.grownBy w' (some g):=pwrite_twf false q hq g V s n hv l lv hl hA w hB hBg hr hg
theorem pwriteR_any (q:Nat) (hq:q+1<18) (g:Nat) (V:VltN) (s n:Nat→Value) (hv:z1a V) (l:List UInt8) (lv:Value) (hl:l.length≤1000) (ht:anyB zr V q=true → -9223372036854775808≤cntT V q∧cntT V q<9223372036854775807) (w:World) (hB:IsB w l lv) (hBg:¬bfp lv g) (hr:RowsV w g V.c s n) (hg:w.heap[g]? = some (.cells (vltA V s n) 80 (0,0))):
  Calls Tryz.prog 77 #[.agg #[zI (q:Int),.func (.func 105) #[] #[]],(zO g),lv] w fun e w'=>∃ t,e=.returned t∧t=.bool (sayW V q l).2∧∃ s' n',RowsV w' g (sayW V q l).1.c s' n'∧(∀ b,zo 18 s' n' b→zo 18 s n b∨w.heap.size≤b)∧w'.heap[g]? = some (.cells (vltA (sayW V q l).1 s' n') 80 (0,0))∧w.grownBy w' (some g):=by
 cases hA:anyB zr V q with
 | true=>exact pwriteR_t q hq g V s n hv l lv hl hA (ht hA) w hB hBg hr hg
 | false=>exact pwriteR_f q hq g V s n hv l lv hl hA w hB hBg hr hg
theorem pwriteI_any (q:Nat) (hq:q+1<18) (g:Nat) (V:VltN) (s n:Nat→Value) (hv:z1a V) (l:List UInt8) (lv:Value) (hl:l.length≤1000) (ht:anyB zr V q=true → -9223372036854775808≤cntT V q∧cntT V q<9223372036854775807) (w:World) (hB:IsB w l lv) (hBg:¬bfp lv g) (hr:RowsV w g V.c s n) (hg:w.heap[g]? = some (.cells (vltA V s n) 80 (0,0))):
  Calls Tryz.prog 66 #[.agg #[zI (q:Int),.func (.func 88) #[] #[]],(zO g),lv] w fun e w'=>∃ t,e=.returned t∧t=.bool (sayW V q l).2∧∃ s' n',RowsV w' g (sayW V q l).1.c s' n'∧(∀ b,zo 18 s' n' b→zo 18 s n b∨w.heap.size≤b)∧w'.heap[g]? = some (.cells (vltA (sayW V q l).1 s' n') 80 (0,0))∧w.grownBy w' (some g):=by
 cases hA:anyB zr V q with
 | true=>exact pwriteI_t q hq g V s n hv l lv hl hA (ht hA) w hB hBg hr hg
 | false=>exact pwriteI_f q hq g V s n hv l lv hl hA w hB hBg hr hg
def ageW (V:VltN):VltN:=(sayW V 16 (zy (zic V 16+1))).1
theorem bt_is {f:FuncId} {args:Array Value} {w:World} {b B:Int} (hB:b=B) (h:Calls Tryz.prog f args w fun e w'=>e=.returned (zI b)∧Below w.heap.size w w'):Calls Tryz.prog f args w fun e w'=>e=.returned (zI B)∧Below w.heap.size w w':=by
 subst hB;exact h
theorem age_any (g:Nat) (V:VltN) (s n:Nat→Value) (hv:z1a V) (hb:-9223372036854775808≤zic V 16∧zic V 16<9223372036854775807) (ht:anyB zr V 16=true → -9223372036854775808≤cntT V 16∧cntT V 16<9223372036854775807) (w:World) (hr:RowsV w g V.c s n) (hg:w.heap[g]? = some (.cells (vltA V s n) 80 (0,0))):
  Calls Tryz.prog 39 #[(zO g)] w fun e w'=>∃ t,e=.returned t∧∃ s' n',RowsV w' g (ageW V).c s' n'∧(∀ b,zo 18 s' n' b→zo 18 s n b∨w.heap.size≤b)∧w'.heap[g]? = some (.cells (vltA (ageW V) s' n') 80 (0,0))∧w.grownBy w' (some g):=by
 obtain ⟨B,hB⟩:∃ x,zic V 16=x:=⟨_,rfl⟩
 rw [hB] at hb
 rw [show ageW V=(sayW V 16 (zy (B+1))).1 by rw [ageW,hB]]
 refine zk (args:=[(zO g)]) 11 Tryz.func39 rfl rfl rfl ?_
 intro fa F
 have M:=Mx.theG hg 0
 refine zva F (SE [.inl (.agg (#[zI 16,.func (.func 88) #[] #[]])),.inl (zO g),.inl (zO g),.inl (zO g),.inl (zO g),.inl (zI B),.inl (zI (B+1)),.inr (fun _=>True)]) (JM (some g) w fun SV pV=>[(0,blkR g 80 (vltA V s n)),(1,z5a (SV 7) (ownR (zy (B+1)) (pV 7)))]) 8 rfl (by kernel_rfl) rfl ⟨trivial,trivial,trivial,trivial,trivial,trivial,trivial,trivial,trivial⟩ (fun p=>((M.step (zsa _)).triv 1).sub ⟨rfl,rfl,trivial⟩) ⟨?_,zcb F,zcb F,zcb F,zcb F,?_,?_,?_,trivial⟩ ?_
 ·intro ua uw SV pV (M:Mx (some g) w uw _) hk hn hd
  exact z9a rfl rfl #[] (args0) (zE Tryz.func58 rfl) (((eras_any uw)).mono fun e w2 h=>⟨_,h.1,rfl,(M.step h.2).sub ⟨rfl,rfl,trivial⟩⟩)
 ·intro ua uw SV pV (M:Mx (some g) w uw _) hk hn hd
  have e6:ua.eval (.tmp 6)=(zO g):=zQ1 (hd 6 (by decide))
  exact z9a rfl rfl #[(zO g)] (zaa e6) (zE Tryz.func26 rfl) (((bt_is hB (boot_any g V s n hv uw (HasV.of (M.blk (k:=0) rfl) (hr.grow M.grown))))).mono fun e w2 h=>⟨_,h.1,rfl,(M.step h.2).sub ⟨rfl,rfl,trivial⟩⟩)
 ·intro ua uw SV pV (M:Mx (some g) w uw _) hk hn hd
  have e7:ua.eval (.tmp 7)=zI B:=zQ1 (hd 7 (by decide))
  exact ze rfl (zI (B+1)) (zoa _ _ _ _ rfl e7 rfl rfl (by omega)) rfl (M.sb)
 ·intro ua uw SV pV (M:Mx (some g) w uw _) hk hn hd
  have e8:ua.eval (.tmp 8)=zI (B+1):=zQ1 (hd 8 (by decide))
  exact z9a rfl rfl #[zI (B+1)] (zaa e8) (zE Tryz.func67 rfl) (((eightI_any (B+1) uw)).mono fun e w2 h=>(by obtain ⟨u,h1,h2,h3⟩:=h;exact ⟨u,h1,trivial,(M.newO h3 1 h2).sub ⟨rfl,rfl,trivial⟩⟩))
 intro p1 a1 w1 M1 G1 y1
 obtain ⟨q0,-,-,q3,-,-,-,q7,-⟩:=y1
 have r0:p1 0=.agg (#[zI 16,.func (.func 88) #[] #[]]):=q0
 have r3:p1 3=(zO g):=q3
 replace M1:Mx _ _ w1 [(0,blkR g 80 (vltA V s n)),(1,z5a true (ownR (zy (B+1)) (p1 7)))]:=M1
 simp only [List.take,layV,Nat.zero_add,Nat.reduceAdd,r0,r3] at G1
 obtain ⟨Ap1_1,cp1_1,hp1_1⟩:=(M1.isO (k:=1) rfl).shape
 rw [hp1_1] at M1
 try rw [hp1_1] at G1
 refine zh rfl rfl G1 rfl rfl (zE Tryz.func66 rfl) #[.agg (#[zI 16,.func (.func 88) #[] #[]]),(zO g),(.slice Ap1_1 ((zy (B+1))).length cp1_1)] (args3 (G1 2 rfl) (G1 5 rfl) (G1 9 rfl)) (pwriteI_any 16 (by omega) g V s n hv (zy (B+1)) ((.slice Ap1_1 ((zy (B+1))).length cp1_1)) (by rw [zja];omega) ht w1 (M1.isO (k:=1) rfl) (fun h=>M1.dis 0 1 _ _ rfl rfl (by decide) rfl g rfl (zta h)) (hr.grow M1.grown) (M1.blk (k:=0) rfl)) ?_
 rintro _ w2 a2 ⟨rfl,s2,n2,hr2,ht2,hc2,hg2⟩ F2
 refine wpList_nil ?_
 exact bodyPost_end (res0 rfl) F2.defers ⟨_,rfl,s2,n2,hr2,fun b hb=>(ht2 b hb).imp id (fun hb=>Nat.le_trans M1.le hb),hc2,M1.grown.trans hg2⟩
def nilS:Nat→Value:=fun _=>zN
theorem rows_nil (b:Nat):¬zo 18 nilS nilS b:=fun ⟨_,_,h⟩=>by rcases h with h | h <;> exact absurd h (zpa b)
def zeroV:VltN:=⟨fun _=>nilC,false,0,false⟩
theorem rows0 (w:World) (g:Nat):RowsV w g (fun _=>nilC) nilS nilS:=fun i hi=>⟨⟨zia _,zpa _⟩,zia _,zpa _⟩
theorem good0 (p:Nat):zob zr p []=false:=good_short (by simp)
theorem any0 (q:Nat):anyB zr zeroV q=false:=by
 unfold anyB secB
 rw [show zob zr (q+1) (zeroV.c (q+1)).s=false from good0 _,show zob zr q (zeroV.c q).s=false from good0 _]
 rfl
theorem num0:zic zeroV 16=0:=if_neg (by rw [any0];exact Bool.false_ne_true)
theorem short0:z1a zeroV:=fun i hi=>⟨Nat.zero_le _,Nat.zero_le _⟩
theorem vnew_any  (w:World):
  Calls Tryz.prog 14 #[] w fun e w'=>∃ g,e=.returned (zO g)∧w.heap.size≤g∧∃ s' n',RowsV w' g (ageW zeroV).c s' n'∧(∀ b,zo 18 s' n' b→w.heap.size≤b)∧w'.heap[g]? = some (.cells (vltA (ageW zeroV) s' n') 80 (0,0))∧Below w.heap.size w w':=by
 refine zk (args:=[]) 7 Tryz.func14 rfl rfl rfl ?_
 intro fa F
 have M:=Mx.start w
 refine zT fun _ hK1=>rm rfl F fun _ F2=>hK1 _ _ (zT fun _ hK3=>zc (w':=w) rfl rfl F2 rfl (.agg (vltA ⟨(fun _=>nilC),false,0,false⟩ nilS nilS)) (by unfold execOp;kernel_rfl) fun _ F4=>?_)
 refine zq rfl rfl F4 rfl M 0 (t:=80) (c:=vltA ⟨(fun _=>nilC),false,0,false⟩ nilS nilS) (by unfold execOp;simp only [(F4 2 rfl)];kernel_rfl) ?_
 intro g5 a5 w5 F5 M5
 refine rm rfl F5 fun _ F6=>hK3 _ _ (zT fun _ hK7=>rm rfl F6 fun _ F8=>zh rfl rfl F8 rfl rfl (zE Tryz.func39 rfl) #[(zO g5)] (zaa (F8 4 rfl)) (age_any g5 zeroV nilS nilS short0 (by rw [num0];omega) (fun h=>absurd h (by rw [any0];exact Bool.false_ne_true)) w5 (rows0 _ _) (M5.blk (k:=0) rfl)) ?_)
 rintro _ w9 a9 ⟨s2,n2,hr9,ht9,hc9,hg9⟩ F9
 have hle:=M5.le
 have M9:=M5.put (k:=0) rfl hg9 hc9
 clear M5 hg9 hc9
 refine hK7 _ _ (zT fun _ hK10=>rm rfl F9 fun _ F11=>?_)
 exact rm rfl F11 fun _ F12=>hK10 _ _ (wp_ret (bodyPost_ret (res1 rfl (F12.get rfl)) F12.defers ⟨g5,rfl,(M9.own 0 _ rfl rfl g5 rfl).resolve_right (fun e=>by cases e),s2,n2,hr9,fun b hb=>(ht9 b hb).elim (fun h=>absurd h (rows_nil b)) (fun h=>Nat.le_trans hle h),M9.blk (k:=0) rfl,M9.below⟩))
section
open Go.Shelf
variable {ds:List Deferred}
def roundEnd3 (D l:Nat) (W2:World) (R:World→Prop) (S:Code→World→Prop):Exit→Act→World→Prop
 | .normal,_,W3=>KeepsOthers W2 W3∧∀ o,R (W3.putObj l o)
 | .ret,_,W3=>KeepsFrom D W2 W3∧∀ o,S .ret (W3.putObj l o)
 | .exit id,_,W3=>KeepsFrom D W2 W3∧∀ o,S (.exit id) (W3.putObj l o)
 | _,_,_=>False
def MidOk3 (n:Nat) (P:Program) (D l:Nat) (body:Code) (W:World) (R:World→Prop) (S:Code→World→Prop) (a₁:Act) (W1:World):Prop:=
 KeepsOthers W W1∧∀ o,zsb W1 l→o.isCells=false→body.wpIn (Fence.wide.inRound l) n P (roundEnd3 D l (W1.putObj l o) R S) a₁ (W1.putObj l o)
def LeftAt (l D:Nat) (S:Code→World→Prop) (W:World):Prop:=
 ∃ c r,W.heap[l]? = some (.loop r)∧r.pending=some c∧r.state≠.busy∧W.heap[D]? = some (.deferred (some []))∧S c W
theorem LeftAt.put {l D:Nat} {S:Code→World→Prop} {W:World} (h:LeftAt l D S W) {l':Nat} {o:Obj} (h1:l≠l') (h2:D≠l') (hS:∀ c,S c W→S c (W.putObj l' o)):LeftAt l D S (W.putObj l' o):=by
 obtain ⟨c,r,k1,k2,k3,k4,k5⟩:=h
 exact ⟨c,r,(World.putObj_heap_other h1).trans k1,k2,k3,(World.putObj_heap_other h2).trans k4,hS c k5⟩
theorem LeftAt.below {l D:Nat} {S:Code→World→Prop} {W W':World} (h:LeftAt l D S W) (hb:Below W.heap.size W W') (hS:∀ c,S c W→S c W'):LeftAt l D S W':=by
 obtain ⟨c,r,k1,k2,k3,k4,k5⟩:=h
 exact ⟨c,r,(hb.block l (Array.getElem?_eq_some_iff.1 k1).1).trans k1,k2,k3,(hb.block D (Array.getElem?_eq_some_iff.1 k4).1).trans k4,hS c k5⟩
def YieldsAt (P:Program) (l D:Nat) (o1 o2:Obj) (args:Array Value) (W:World) (Post Sx:World→Prop):Prop:=
 YieldAt Fence.wide 1 P l args W fun e W'=>(e=.returned (.bool true)∧RecAt l D o1 o2 W'∧KeepsOthers W W'∧Post W')∨(e=.returned (.bool false)∧KeepsFrom (l+1) W W'∧Sx W')
theorem wpIn_range3 {P:Program} {g:Operand} {ps:Array Tmp} {assign body:Code} {Q:Exit→Act→World→Prop} {a:Act} {w:World}
  {gf:Nat} {lb:Array Value} (hg:a.eval g=.func (.func gf) #[] lb) (eg:∀ args w,(callFunc gf args).run P w=.ok (.enter gf args) w)
  {α:Type} (encs:α→Array Value) (hps:∀ x,(encs x).size=ps.size) (Pre:α→World→Prop) (Post:α→World→Prop) (S:Code→World→Prop) (Fin:World→Prop)
  (hround:∀ (l:Nat) (x:α) (W:World),w.heap.size<l→l<W.heap.size→Pre x W →
   assign.wpIn (Fence.wide.inRound l) 1 P (Exit.then (MidOk3 1 P w.heap.size l body W (Post x) S) (fun _ _ _=>False)) { tmps:=(ps.zip (encs x)).foldl (fun t (p,v)=>t.setIfInBounds p v) a.tmps,defers:=[] } W)
  (hiter:∀ (l D:Nat) (o1 o2:Obj) (W1:World),D=w.heap.size→l=w.heap.size+1→W1=(w.alloc o2).alloc o1→RecAt l D o1 o2 W1 →
   (∀ x W,Pre x W→RecAt l D o1 o2 W→YieldsAt P l D o1 o2 (encs x) W (Post x) (LeftAt l D S)) →
   CallsIn Fence.wide 2 P gf (#[.func (.yield l) #[] #[]]++lb) W1 fun e W'=>(∃ v,e=.returned v)∧((RecAt l D o1 o2 W'∧Fin W')∨LeftAt l D S W'))
  (hdone:∀ (l D:Nat) (o:Obj) (W:World),D=w.heap.size→l=w.heap.size+1→Fin W→l<W.heap.size→zsb W l→(W.putObj l o).heap[D]? = some (.deferred (some [])) →
   Q .normal { a with defers:={ target:=.collected D,args:=#[] }::a.defers } (W.putObj l o))
  (hleft:∀ (l D:Nat) (o:Obj) (c:Code) (W:World),D=w.heap.size→l=w.heap.size+1→S c W→l<W.heap.size→zsb W l→(W.putObj l o).heap[D]? = some (.deferred (some [])) →
   c.wpIn Fence.wide 3 P Q { a with defers:={ target:=.collected D,args:=#[] }::a.defers } (W.putObj l o)):
  (Code.rangeFunc g ps assign body).wpIn Fence.wide 3 P Q a w:=by
 refine wpIn_rangeFunc ?_
 intro fn hfn
 show ∃ (l:Nat) (mark:List Deferred) (w₁:World) (d:Deferred) (w₁':World) (f:FuncId) (args:Array Value) (w₂:World),(Instr.enterLoop fn a.tmps ps assign body none).run P w=.ok (l,mark) w₁∧_
 obtain ⟨rec,hrec⟩:∃ rec:LoopState→Option Code→Loop,rec=fun st pe=>{ state:=st,pending:=pe,fn,tmps:=a.tmps,params:=ps,assign,body,defers:=w.heap.size }:=⟨_,rfl⟩
 obtain ⟨W1,hW1⟩:∃ W1,(w.alloc (.deferred (some []))).alloc (.loop (rec .ready none))=W1:=⟨_,rfl⟩
 have hL1:W1.heap[w.heap.size+1]? = some (.loop (rec .ready none)):=by
  rw [←hW1];have:=World.alloc_heap_new (w.alloc (.deferred (some []))) (.loop (rec .ready none));rwa [World.size_alloc] at this
 have hK1:W1.heap[w.heap.size]? = some (.deferred (some [])):=by
  rw [←hW1];exact (Below.heap_alloc _ _ _ (by simp)).trans (World.alloc_heap_new w _)
 refine ⟨w.heap.size+1,[{ target:=.collected w.heap.size,args:=#[] }],W1,{ target:=.fn (.func gf) lb,args:=#[.func (.yield (w.heap.size+1)) #[] #[]] },W1,gf,
  #[.func (.yield (w.heap.size+1)) #[] #[]]++lb,W1,?_,?_,?_,?_,fun _=>by omega,?_⟩
 ·rw [←hW1,hrec];exact run_enterLoop_outer _ _ _ _ _
 ·simp only [resolve,hg]
  simp [go_sem]
 ·intro f' hf';trivial
 ·simp [invoke,go_sem,eg]
 ·refine (hiter (w.heap.size+1) w.heap.size (.loop (rec .ready none)) (.deferred (some [])) W1 rfl rfl hW1.symm ⟨hL1,hK1,rfl,rfl⟩ ?_).mono ?_
  ·rintro x W hpre ⟨hl,hk,-,-⟩
   have hlt:w.heap.size+1<W.heap.size:=(Array.getElem?_eq_some_iff.1 hl).1
   have hlW:=hl
   have hy:=run_yield (P:=P) (args:=encs x) hl (by rw [hrec];exact hps x)
   rw [hrec] at hy
   refine ⟨fn,_,assign,body,hy,roundIn_of_wpIn hfn (wpIn_mono (hround (w.heap.size+1) x W (by omega) hlt hpre) ?_)⟩
   rintro e a1 W2 hp
   cases e with
   | normal=>
    obtain ⟨hk2,hb⟩:=hp
    have hl2:=hk2.same _ _ hl rfl
    have hd2:=hk2.same _ _ hk rfl
    have hlt2:=(Array.getElem?_eq_some_iff.1 hl2).1
    refine ⟨_,run_beginRound hl2 (by rw [hrec]),?_⟩
    refine wpIn_mono (hb (.loop { rec .ready none with state:=.busy }) (fun o' ho'=>by rw [hl2] at ho';cases ho';rfl) rfl) ?_
    have left:∀ (c:Code) (W3:World),KeepsFrom w.heap.size (W2.putObj (w.heap.size+1) (.loop { rec .ready none with state:=.busy })) W3→(∀ o,S c (W3.putObj (w.heap.size+1) o)) →
      ∃ v w',(Instr.endRound (w.heap.size+1) (some c)).run P W3=.ok v w'∧((Ending.returned v=.returned (.bool true)∧RecAt (w.heap.size+1) w.heap.size (.loop (rec .ready none)) (.deferred (some [])) w'∧KeepsOthers W w'∧Post x w')∨(Ending.returned v=.returned (.bool false)∧KeepsFrom (w.heap.size+1+1) W w'∧LeftAt (w.heap.size+1) w.heap.size S w')):=by
     intro c W3 hk3 hS
     have hl3:W3.heap[w.heap.size+1]? = some (.loop { rec .ready none with state:=.busy }):=hk3.same _ _ (by omega) (World.putObj_heap_same hlt2) rfl
     have hd3:W3.heap[w.heap.size]? = some (.deferred (some [])):=hk3.same _ _ (Nat.le_refl _) ((World.putObj_heap_other (by omega)).trans hd2) rfl
     have hend:=run_endRound (P:=P) (some c) hl3
     rw [hrec] at hend
     have hkf:∀ ob,KeepsFrom (w.heap.size+1+1) W (W3.putObj (w.heap.size+1) ob):=fun ob=>⟨by
       have h1:=hk2.size
       have h2:=hk3.size
       simp only [World.putObj_size] at h2 ⊢
       omega,fun k o hk0 hko ho=>(World.putObj_heap_other (by omega)).trans (hk3.same k o (by omega) ((World.putObj_heap_other (by omega)).trans (hk2.same k o hko ho)) ho)⟩
     refine ⟨_,_,hend,.inr ⟨rfl,hkf _,c,_,World.putObj_heap_same (Array.getElem?_eq_some_iff.1 hl3).1,rfl,by simp,(World.putObj_heap_other (by omega)).trans hd3,hS _⟩⟩
    rintro e3 a3 W3 hp3
    cases e3 with
    | normal=>
     obtain ⟨hk3,hR⟩:=hp3
     have hl3:W3.heap[w.heap.size+1]? = some (.loop { rec .ready none with state:=.busy }):=hk3.same _ _ (World.putObj_heap_same hlt2) rfl
     have hd3:W3.heap[w.heap.size]? = some (.deferred (some [])):=hk3.same _ _ ((World.putObj_heap_other (by omega)).trans hd2) rfl
     have hend:=run_endRound (P:=P) none hl3
     rw [hrec] at hend
     refine ⟨_,_,hend,.inl ⟨rfl,⟨?_,?_,rfl,rfl⟩,⟨?_,?_⟩,hR _⟩⟩
     rotate_left 2
     ·have h1:=hk2.size
      have h2:=hk3.size
      simp only [World.putObj_size] at h2 ⊢
      omega
     ·intro k o hko ho
      by_cases hkl:k=w.heap.size+1
      ·subst hkl
       rw [hlW] at hko
       cases hko
       rw [World.putObj_heap_same (Array.getElem?_eq_some_iff.1 hl3).1,hrec];rfl
      ·exact (World.putObj_heap_other hkl).trans (hk3.same k o ((World.putObj_heap_other hkl).trans (hk2.same k o hko ho)) ho)
     ·rw [hrec];exact World.putObj_heap_same (Array.getElem?_eq_some_iff.1 hl3).1
     ·exact (World.putObj_heap_other (by omega)).trans hd3
    | ret=>exact left .ret W3 hp3.1 hp3.2
    | exit id=>exact left (.exit id) W3 hp3.1 hp3.2
    | goto t=>exact hp3.elim
    | panic ch=>exact hp3.elim
    | outgrown=>exact hp3.elim
   | _=>exact hp.elim
  ·rintro e W2 ⟨⟨v,rfl⟩,h⟩
   rcases h with ⟨⟨hl,hk,-,-⟩,hf⟩ | ⟨c,r,hl,hp,hb,hk,hS⟩
   ·refine ⟨none,_,by have:=run_endLoop (P:=P) hl (by rw [hrec];simp);rw [hrec] at this;exact this,?_⟩
    exact hdone (w.heap.size+1) w.heap.size _ W2 rfl rfl hf (Array.getElem?_eq_some_iff.1 hl).1 (fun o' ho'=>by rw [hl] at ho';cases ho';rfl) ((World.putObj_heap_other (by omega)).trans hk)
   ·refine ⟨some c,_,by have:=run_endLoop (P:=P) hl hb;rw [hp] at this;exact this,?_⟩
    exact hleft (w.heap.size+1) w.heap.size _ c W2 rfl rfl hS (Array.getElem?_eq_some_iff.1 hl).1 (fun o' ho'=>by rw [hl] at ho';cases ho';rfl) ((World.putObj_heap_other (by omega)).trans hk)
theorem range_fx4 {n:Nat} {P:Program} {g:Operand} {p1 p2:Tmp} {assign body:Code} {Q:Exit→Act→World→Prop} {a:Act} {w:World} {V:List (Nat×Value)} (F:Fx n a V ds)
  {gf:Nat} {lb:Array Value} (hg:a.eval g=.func (.func gf) #[] lb) (eg:∀ args w,(callFunc gf args).run P w=.ok (.enter gf args) w) (b1:Nat.blt p1 n=true) (b2:Nat.blt p2 n=true)
  {α:Type} (f1 f2:α→Value) (Pre:α→World→Prop) (Post:α→World→Prop) (S:Code→World→Prop) (Fin:World→Prop)
  (hiter:∀ (l D:Nat) (o1 o2:Obj) (W1:World),D=w.heap.size→l=w.heap.size+1→Below w.heap.size w W1→RecAt l D o1 o2 W1 →
   (∀ x W,Pre x W→RecAt l D o1 o2 W→YieldsAt P l D o1 o2 #[f1 x,f2 x] W (Post x) (LeftAt l D S)) →
   CallsIn Fence.wide 2 P gf (#[.func (.yield l) #[] #[]]++lb) W1 fun e W'=>(∃ v,e=.returned v)∧((RecAt l D o1 o2 W'∧Fin W')∨LeftAt l D S W'))
  (hround:∀ (l:Nat) (x:α) (W:World) (ra:Act),Fx n ra ((p2,f2 x)::(p1,f1 x)::V) []→w.heap.size<l→l<W.heap.size→Pre x W →
   assign.wpIn (Fence.wide.inRound l) 1 P (Exit.then (MidOk3 1 P w.heap.size l body W (Post x) S) (fun _ _ _=>False)) ra W)
  (hdone:∀ (l D:Nat) (o:Obj) (W:World) (a':Act),D=w.heap.size→l=w.heap.size+1→Fin W→zsb W l→(W.putObj l o).heap[D]? = some (.deferred (some []))→Fx n a' V ({ target:=.collected D,args:=#[] }::ds) →
   Q .normal a' (W.putObj l o))
  (hleft:∀ (l D:Nat) (o:Obj) (c:Code) (W:World) (a':Act),D=w.heap.size→l=w.heap.size+1→S c W→zsb W l→(W.putObj l o).heap[D]? = some (.deferred (some []))→Fx n a' V ({ target:=.collected D,args:=#[] }::ds) →
   c.wp P Q a' (W.putObj l o)):
  (Code.rangeFunc g #[p1,p2] assign body).wp P Q a w:=by
 refine (wpIn_wide (n:=3)).1 (wpIn_range3 hg eg (fun x=>#[f1 x,f2 x]) (fun _=>rfl) Pre Post S Fin ?_ ?_ ?_ ?_)
 ·intro l x W h1 h2 h3
  have e:({ tmps:=(#[p1,p2].zip #[f1 x,f2 x]).foldl (fun t (p,v)=>t.setIfInBounds p v) a.tmps,defers:=[] }:Act)=(({ a with defers:=[] }:Act).put (some p1) (f1 x)).put (some p2) (f2 x):=by simp [Act.put]
  show assign.wpIn _ _ _ _ ({ tmps:=(#[p1,p2].zip #[f1 x,f2 x]).foldl (fun t (p,v)=>t.setIfInBounds p v) a.tmps,defers:=[] }:Act) W
  rw [e]
  exact hround l x W _ (((F.fresh []).put p1 (f1 x) b1).put p2 (f2 x) b2) h1 h2 h3
 ·intro l D o1 o2 W1 hD hl hW hr hY
  refine hiter l D o1 o2 W1 hD hl ?_ hr hY
  rw [hW]
  exact ((Below.refl _ _).alloc (Nat.le_refl _) _).alloc (by simp) _
 ·intro l D o W hD hl hf hlt hnc hdd
  have F':=F.fresh ({ target:=.collected D,args:=#[] }::a.defers)
  rw [F.defers] at F'
  have:=hdone l D o W _ hD hl hf hnc hdd F'
  rw [←F.defers] at this
  exact this
 ·intro l D o c W hD hl hf hlt hnc hdd
  have F':=F.fresh ({ target:=.collected D,args:=#[] }::a.defers)
  rw [F.defers] at F'
  have:=hleft l D o c W _ hD hl hf hnc hdd F'
  rw [←F.defers] at this
  exact wpIn_wide.2 this
theorem range_fx3 {n:Nat} {P:Program} {g:Operand} {p1:Tmp} {assign body:Code} {Q:Exit→Act→World→Prop} {a:Act} {w:World} {V:List (Nat×Value)} (F:Fx n a V ds)
  {gf:Nat} {lb:Array Value} (hg:a.eval g=.func (.func gf) #[] lb) (eg:∀ args w,(callFunc gf args).run P w=.ok (.enter gf args) w) (b1:Nat.blt p1 n=true)
  {α:Type} (f1:α→Value) (Pre:α→World→Prop) (Post:α→World→Prop) (S:Code→World→Prop) (Fin:World→Prop)
  (hiter:∀ (l D:Nat) (o1 o2:Obj) (W1:World),D=w.heap.size→l=w.heap.size+1→Below w.heap.size w W1→RecAt l D o1 o2 W1 →
   (∀ x W,Pre x W→RecAt l D o1 o2 W→YieldsAt P l D o1 o2 #[f1 x] W (Post x) (LeftAt l D S)) →
   CallsIn Fence.wide 2 P gf (#[.func (.yield l) #[] #[]]++lb) W1 fun e W'=>(∃ v,e=.returned v)∧((RecAt l D o1 o2 W'∧Fin W')∨LeftAt l D S W'))
  (hround:∀ (l:Nat) (x:α) (W:World) (ra:Act),Fx n ra ((p1,f1 x)::V) []→w.heap.size<l→l<W.heap.size→Pre x W →
   assign.wpIn (Fence.wide.inRound l) 1 P (Exit.then (MidOk3 1 P w.heap.size l body W (Post x) S) (fun _ _ _=>False)) ra W)
  (hdone:∀ (l D:Nat) (o:Obj) (W:World) (a':Act),D=w.heap.size→l=w.heap.size+1→Fin W→zsb W l→(W.putObj l o).heap[D]? = some (.deferred (some []))→Fx n a' V ({ target:=.collected D,args:=#[] }::ds) →
   Q .normal a' (W.putObj l o))
  (hleft:∀ (l D:Nat) (o:Obj) (c:Code) (W:World) (a':Act),D=w.heap.size→l=w.heap.size+1→S c W→zsb W l→(W.putObj l o).heap[D]? = some (.deferred (some []))→Fx n a' V ({ target:=.collected D,args:=#[] }::ds) →
   c.wp P Q a' (W.putObj l o)):
  (Code.rangeFunc g #[p1] assign body).wp P Q a w:=by
 refine (wpIn_wide (n:=3)).1 (wpIn_range3 hg eg (fun x=>#[f1 x]) (fun _=>rfl) Pre Post S Fin ?_ ?_ ?_ ?_)
 ·intro l x W h1 h2 h3
  have e:({ tmps:=(#[p1].zip #[f1 x]).foldl (fun t (p,v)=>t.setIfInBounds p v) a.tmps,defers:=[] }:Act)=(({ a with defers:=[] }:Act).put (some p1) (f1 x)):=by simp [Act.put]
  show assign.wpIn _ _ _ _ ({ tmps:=(#[p1].zip #[f1 x]).foldl (fun t (p,v)=>t.setIfInBounds p v) a.tmps,defers:=[] }:Act) W
  rw [e]
  exact hround l x W _ ((F.fresh []).put p1 (f1 x) b1) h1 h2 h3
 ·intro l D o1 o2 W1 hD hl hW hr hY
  refine hiter l D o1 o2 W1 hD hl ?_ hr hY
  rw [hW]
  exact ((Below.refl _ _).alloc (Nat.le_refl _) _).alloc (by simp) _
 ·intro l D o W hD hl hf hlt hnc hdd
  have F':=F.fresh ({ target:=.collected D,args:=#[] }::a.defers)
  rw [F.defers] at F'
  have:=hdone l D o W _ hD hl hf hnc hdd F'
  rw [←F.defers] at this
  exact this
 ·intro l D o c W hD hl hf hlt hnc hdd
  have F':=F.fresh ({ target:=.collected D,args:=#[] }::a.defers)
  rw [F.defers] at F'
  have:=hleft l D o c W _ hD hl hf hnc hdd F'
  rw [←F.defers] at this
  exact wpIn_wide.2 this
section
variable {P:Program} {ops:Array Oper} {Q:Exit→Act→World→Prop} {a:Act} {w w':World} {rest:List Oper} {o:Oper} {n m:Nat} {V:List (Nat×Value)} {r:Option Nat}
theorem roundIn_lvl {n m:Nat} {l:Nat} {fn:FuncId} {tmps:Array Value} {assign body:Code} {w:World} {R:Ending→World→Prop} (h:RoundIn Fence.wide n P l fn tmps assign body w R):RoundIn Fence.wide m P l fn tmps assign body w R:=
 ⟨h.1,fun c cs _=>h.2 c cs (fun d hd=>by cases hd)⟩
theorem wi_yields (hw:Region.wanted o (yielded ops a.tmps)=true) {d:Nat} (hd:o.dst=some d) (F:Fx n a V ds) (hn:Nat.blt d n=true) {args:Array Operand} {ts:Array TypeId} {t:Tmp} (ho:o.op=.call { callee:=.value (.tmp t),args:=args,argTypes:=ts }) {l D:Nat} {o1 o2:Obj} (hf:a.eval (.tmp t)=.func (.yield l) #[] #[])
  (vals:Array Value) (hv:args.map a.eval=vals) {Z Sx:World→Prop} (hy:YieldsAt P l D o1 o2 vals w Z Sx)
  (h:∀ w' a',RecAt l D o1 o2 w'→KeepsOthers w w'→Z w'→Fx n a' ((d,.bool true)::V) ds→wpListIn (wideR r) m P ops Q rest a' w')
  (h2:∀ w' a',KeepsFrom (l+1) w w'→Sx w'→Fx n a' ((d,.bool false)::V) ds→wpListIn (wideR r) m P ops Q rest a' w'):wpListIn (wideR r) m P ops Q (o::rest) a w:=by
 subst hv
 obtain ⟨fn,tmps,assign,body,h1,hR⟩:=hy
 unfold wpListIn
 rw [if_pos hw]
 refine ⟨fun _ _=>trivial,?_⟩
 have e:(o.semAt (wideR r).round a.eval).run P w=.ok (.round l fn tmps assign body) w:=by
  rw [Oper.semAt_plain _ _ _ (by rw [ho];intro c hc';cases hc')]
  unfold execOp
  simp only [ho,resolve,hf]
  simp [invoke,go_sem,h1]
 rw [e]
 refine ⟨fun e=>Bool.noConfusion e,RoundIn.mono (show RoundIn Fence.wide (m-1) P l fn tmps assign body w _ from roundIn_lvl hR) fun e w' he=>?_⟩
 rcases he with ⟨rfl,hr,hk,hz⟩ | ⟨rfl,hk,hs⟩
 ·have:=F.put d (.bool true) hn
  rw [←hd] at this
  exact h _ _ hr hk hz this
 ·have:=F.put d (.bool false) hn
  rw [←hd] at this
  exact h2 _ _ hk hs this
end
end
theorem run_cvL {G:Option Nat} {w0 w:World} {R:List (Nat×Res)} {a:Act} {o:Oper} (M:Mx G w0 w R) {k:Nat} {l:List UInt8} {v:Value} (hk:look R k=some (ownR l v)) (hl:0<l.length) (x:Operand) (ho:o.op=.convert 23 23 x) (hx:a.eval x=v):∃ v' w',(execOp a.eval o).run Tryz.prog w=.ok (.value v') w'∧Mx G w0 w' ((k,bytR l v')::R):=by
 have hI:=M.isO hk
 obtain ⟨hlen,hr⟩:=M.at_ k _ hk
 rcases hr with ⟨e,h0⟩ | ⟨g,c',cur,e,hb,hg,hn,hc,hs,ht⟩
 ·rw [h0] at hl;exact absurd hl (Nat.lt_irrefl 0)
 ·have hsh:w.shape? g=some (5,cur.size):=by unfold World.shape?;rw [hg]
  have hgr:w.grownBy (w.freeze ⟨g,cur.size,none⟩ 1) (some g):=by
   refine ⟨rfl,rfl,rfl,by simp [World.freeze],fun k hk hne=>?_⟩
   simp only [World.freeze,if_neg (by decide:¬(1=0)),Array.getElem?_modify]
   rw [if_neg (fun e=>hne (by rw [e]))]
  have hIs:IsB (w.freeze ⟨g,cur.size,none⟩ 1) l v:=by
   obtain ⟨A,d,e1,q1,q2,q3,q4⟩:=hI
   refine ⟨A,d,e1,q1,q2,q3,fun hp=>?_⟩
   obtain ⟨ad,e2,p1,p2⟩:=q4 hp
   have hA:ad=⟨g,0,none⟩:=by
    rw [e1,e2] at e
    injection e with e3
    exact Option.some.inj e3
   refine ⟨ad,e2,by simpa [World.freeze] using p1,fun j b hj=>?_⟩
   have:=p2 j b hj
   rw [hA,zna] at this ⊢
   simp only [World.cell?,World.freeze,if_neg (by decide:¬(1=0)),Array.getElem?_modify,hg,if_true,Option.map_some] at this ⊢
   exact this
  refine ⟨v,_,?_,M.write hk rfl hgr (fun g2 e2=>by cases e2;show v.ownBlock=some g;rw [e];rfl) (bytR l v) hIs z2b fun b hb2=>⟨hIs.lt hb2,.inl (zta hb2)⟩⟩
  rw [←hx] at e ⊢
  refine run_cv' _ _ x ho e ?_
  simp [convert,run_underlying Tryz.underlying23,run_underlying Tryz.underlying5,markStringish,hsh]
  exact e.symm
theorem rof3 {w:World} {u:Value} {p:Nat} {l:List UInt8} (hu:IsP w [cellB,zy (p:Int),l] u) (hl:l.length≤1100):
  Calls Tryz.prog 35 #[u] w fun e w'=>e=.returned (.agg (z3a (outF (macW [] [cellB,zy (p:Int),l]))))∧Below w.heap.size w w':=by
 obtain ⟨B,d,rfl,k1,k2,k3⟩:=hu
 refine rof_any B [cellB,zy (p:Int),l] 3 d rfl k1 (by decide) (fun q hq=>?_) ?_ w k3
 ·simp only [List.mem_cons,List.not_mem_nil,or_false] at hq
  rcases hq with rfl | rfl | rfl
  ·decide
  ·rw [zja];decide
  ·omega
 ·simp only [cat,List.length_append,zgc,zja,List.length_nil,show cellB.length=4 from rfl];omega
theorem reight6 (n:Nat) (hn:(n:Int)<9223372036854775808) (w:World):
  Calls Tryz.prog 36 #[zI (n:Int)] w fun e w'=>∃ v,e=.returned v∧Byt w' w.heap.size v (zy (n:Int))∧Below w.heap.size w w':=sreight_any n hn w
theorem rsaid_any (p t:Nat) (hp:p<18) (ht:(t:Int)<9223372036854775808) (s:List UInt8) (sv:Value) (hs:s.length≤1000) (w:World) (hB:IsB w s sv):
  Calls Tryz.prog 83 #[zI (p:Int),zI (t:Int),sv] w fun e w'=>∃ v,e=.returned v∧Byt w' w.heap.size v (z7a zr p (t:Int) s)∧Below w.heap.size w w':=by
 obtain ⟨As,cs,rfl⟩:=hB.shape
 have h8p:=zja (p:Int)
 have h8:=zja (t:Int)
 refine zk (args:=[zI (p:Int),zI (t:Int),.slice As s.length cs]) 27 Tryz.func83 rfl rfl rfl ?_
 intro fa F
 have M:=Mx.start w
 replace M:=M.argB 0 hB (fun g e=>by cases e)
 refine zT fun _ hK1=>rm rfl F fun _ F2=>hK1 _ _ (zT fun _ hK3=>rm rfl F2 fun _ F4=>zh rfl rfl F4 rfl rfl (zE Tryz.func36 rfl) #[zI (t:Int)] (zaa (F4 8 rfl)) ((reight6 t (by omega) w)) ?_)
 rintro v5 w5 a5 h5 F5
 have M5:=M.newO h5.2 1 h5.1
 clear M h5
 obtain ⟨A5,c5,rfl⟩:=(M5.isO (k:=1) rfl).shape
 refine rm rfl F5 fun _ F6=>zc (w':=w5) rfl rfl F6 rfl (zI (s.length:Int)) (z8a _ rfl (F6 10 rfl) (M5.isb (k:=0) rfl) rfl) fun _ F7=>?_
 refine zc (w':=w5) rfl rfl F7 rfl (zY (((zj (s.length:Int)).toNat:Nat):Int)) (y_cvI _ _ _ rfl (F7 11 rfl) Tryz.underlying3 Tryz.underlying5 (ztb _)) fun _ F8=>?_
 refine zwa rfl rfl F8 rfl (zdd M5 2 [(zj (s.length:Int))] 1 rfl (by decide) (by decide) rfl (by simp only [List.map_toArray,List.map_cons,List.map_nil,(F8 12 rfl)];kernel_rfl)) ?_
 intro v9 a9 w9 F9 M9
 obtain ⟨A9,c9,rfl⟩:=(M9.isO (k:=2) rfl).shape
 refine zwa rfl rfl F9 rfl (zfb M9 (k:=1) rfl _ _ rfl (F9 9 rfl) (F9 13 rfl) (M9.isO (k:=2) rfl) (by simp only [sumY_len,zja,List.length_append,List.length_cons,List.length_nil];omega)) ?_
 intro v10 a10 w10 F10 M10
 obtain ⟨A10,c10,rfl⟩:=(M10.isO (k:=1) rfl).shape
 refine rm rfl F10 fun _ F11=>zwa rfl rfl F11 rfl (zfb M10 (k:=1) rfl _ _ rfl (F11 14 rfl) (F11 15 rfl) (M10.isb (k:=0) rfl) (by simp only [sumY_len,zja,List.length_append,List.length_cons,List.length_nil];omega)) ?_
 intro v12 a12 w12 F12 M12
 obtain ⟨A12,c12,rfl⟩:=(M12.isO (k:=1) rfl).shape
 refine rm rfl F12 fun _ F13=>hK3 _ _ (zT fun _ hK14=>rm rfl F13 fun _ F15=>zwa rfl rfl F15 rfl (zdd M12 3 [99,101,108,108] 4 rfl (by decide) (by decide) rfl (by simp only [List.map_toArray,List.map_cons,List.map_nil];kernel_rfl)) ?_)
 intro v16 a16 w16 F16 M16
 obtain ⟨A16,c16,rfl⟩:=(M16.isO (k:=3) rfl).shape
 refine zwa rfl rfl F16 rfl (run_cvL M16 (k:=3) rfl (by decide) _ rfl (F16 18 rfl)) ?_
 intro v17 a17 w17 F17 M17
 obtain ⟨A17,c17,rfl⟩:=(M17.isb (k:=3) rfl).shape
 refine rm rfl F17 fun _ F18=>zh rfl rfl F18 rfl rfl (zE Tryz.func36 rfl) #[zI (p:Int)] (zaa (F18 20 rfl)) ((reight6 p (by omega) w17)) ?_
 rintro v19 w19 a19 h19 F19
 have M19:=M17.newO h19.2 4 h19.1
 clear M17 h19
 obtain ⟨A19,c19,rfl⟩:=(M19.isO (k:=4) rfl).shape
 refine rm rfl F19 fun _ F20=>?_
 refine wl_allocS rfl rfl F20 rfl M19 5 (t:=23) (c:=#[.slice A17 ([99,101,108,108]).length c17,.slice A19 ((zy (p:Int))).length c19,.slice A12 ((((zy (t:Int))++[(zj (s.length:Int))])++s)).length c12]) (k:=3) (m:=3) (y_litG 68 23 (s:=1) (zv:=zN) Tryz.underlying68 (by kernel_rfl) (by kernel_rfl) rfl (#[.slice A17 ([99,101,108,108]).length c17,.slice A19 ((zy (p:Int))).length c19,.slice A12 ((((zy (t:Int))++[(zj (s.length:Int))])++s)).length c12]) (by decide) (by decide) (by simp only [List.map_toArray,List.map_cons,List.map_nil,(F20 19 rfl),(F20 21 rfl),(F20 22 rfl)];kernel_rfl)) ?_
 intro g21 a21 w21 F21 M21
 refine zh rfl rfl F21 rfl rfl (zE Tryz.func35 rfl) #[.slice (some ⟨g21,0,none⟩) 3 3] (zaa (F21 23 rfl)) (zba ((rof3 (isP3 ⟨_,rfl,M21.blk (k:=5) rfl⟩ (M21.isb (k:=3) rfl) (M21.isO (k:=4) rfl) (M21.isO (k:=1) rfl)) (by simp only [zja,List.length_append,List.length_cons,List.length_nil];omega)))) ?_
 rintro _ w22 a22 ⟨rfl,b22⟩ F22
 have M22:=M21.step b22
 refine zh rfl rfl F22 rfl rfl (zE Tryz.func37 rfl) #[.agg (z3a (outF (macW [] [cellB,zy (p:Int),bodyL (t:Int) s])))] (zaa (F22 24 rfl)) ((srbytes_any (outF (macW [] [cellB,zy (p:Int),bodyL (t:Int) s])) (outF_bd _) w22)) ?_
 rintro v23 w23 a23 h23 F23
 have M23:=M22.newO h23.2 6 h23.1
 clear M22 h23
 obtain ⟨A23,c23,rfl⟩:=(M23.isO (k:=6) rfl).shape
 refine zwa rfl rfl F23 rfl (zfb M23 (k:=1) rfl _ _ rfl (F23 17 rfl) (F23 25 rfl) (M23.isO (k:=6) rfl) (by simp only [sumY_len,zja,List.length_append,List.length_cons,List.length_nil];omega)) ?_
 intro v24 a24 w24 F24 M24
 obtain ⟨A24,c24,rfl⟩:=(M24.isO (k:=1) rfl).shape
 exact rm rfl F24 fun _ F25=>hK14 _ _ (wp_ret (bodyPost_ret (res1 rfl (F25.get rfl)) F25.defers ⟨_,rfl,M24.byt (k:=1) rfl,M24.below⟩))
def zvb (B:Nat) (r:RecN) (v:Value):Res:=⟨false,fun g=>∃ V,v=.agg (recA r V)∧(bfp V.v2 g∨bfp V.v5 g),fun w=>∃ V,v=.agg (recA r V)∧RecU w r V∧∀ g,bfp V.v2 g∨bfp V.v5 g→B≤g⟩
theorem recA_inj {r:RecN} {V V':RecV} (h:recA r V=recA r V'):V=V':=by
 obtain ⟨a,b⟩:=V
 obtain ⟨c,d⟩:=V'
 have h2:(recA r ⟨a,b⟩)[2]? = (recA r ⟨c,d⟩)[2]?:=by rw [h]
 have h19:(recA r ⟨a,b⟩)[19]? = (recA r ⟨c,d⟩)[19]?:=by rw [h]
 have e2:a=c:=Option.some.inj h2
 have e5:b=d:=Option.some.inj h19
 subst e2 e5;rfl
theorem recv_same {r:RecN} {V:RecV} {u u':World} {fp:Nat→Prop} (hs:Same fp u u') (hf:∀ g,bfp V.v2 g∨bfp V.v5 g→fp g) (h:RecU u r V):RecU u' r V:=
 ⟨h.h2.same ⟨fun g o hg ho=>hs.at_ g o (hf g (.inl hg)) ho,hs.size⟩,h.h5.same ⟨fun g o hg ho=>hs.at_ g o (hf g (.inr hg)) ho,hs.size⟩,fun g hg=>by
  obtain ⟨c,hc⟩:=h.u g hg
  exact ⟨c,hs.at_ g _ (hf g (.inl hg)) hc⟩⟩
theorem recv_dep {B:Nat} {r:RecN} {v:Value}:∀ u u',Same (zvb B r v).fp u u'→(zvb B r v).F u→(zvb B r v).F u':=fun u u' hs ⟨V,e,h,hl⟩=>
 ⟨V,e,recv_same hs (fun g hg=>⟨V,e,hg⟩) h,hl⟩
theorem recv_lt {w:World} {r:RecN} {V:RecV} (hm:RecU w r V) {g:Nat} (hg:bfp V.v2 g∨bfp V.v5 g):g<w.heap.size:=by
 rcases hg with hg | hg
 ·exact hm.h2.lt hg
 ·exact hm.h5.lt hg
theorem recv_isU {B:Nat} {r:RecN} {V:RecV} {w:World} (h:(zvb B r (.agg (recA r V))).F w):RecU w r V:=by
 obtain ⟨V',e,h,-⟩:=h
 have e2:V=V':=recA_inj (by injection e)
 subst e2;exact h
theorem recv_is {B:Nat} {r:RecN} {V:RecV} {w:World} (h:(zvb B r (.agg (recA r V))).F w):RecIs w r V:=by
 obtain ⟨V',e,h,-⟩:=h
 have e2:V=V':=recA_inj (by injection e)
 subst e2;exact h.is
theorem recv_lo {B:Nat} {r:RecN} {V:RecV} {w:World} (h:(zvb B r (.agg (recA r V))).F w) {g:Nat} (hg:bfp V.v2 g∨bfp V.v5 g):B≤g:=by
 obtain ⟨V',e,-,h⟩:=h
 have e2:V=V':=recA_inj (by injection e)
 subst e2;exact h g hg
def rectR (B:Nat) (r:RecN) (b:Bool) (v:Value):Res:=⟨false,fun g=>∃ V,v=.tuple #[.agg (recA r V),.bool b]∧(bfp V.v2 g∨bfp V.v5 g),fun w=>∃ V,v=.tuple #[.agg (recA r V),.bool b]∧RecU w r V∧∀ g,bfp V.v2 g∨bfp V.v5 g→B≤g⟩
theorem tupA_inj {r:RecN} {b:Bool} {V V':RecV} (h:Value.tuple #[.agg (recA r V),.bool b]=.tuple #[.agg (recA r V'),.bool b]):V=V':=by
 injection h with h
 have h0:(#[Value.agg (recA r V),.bool b])[0]? = (#[Value.agg (recA r V'),.bool b])[0]?:=by rw [h]
 have:=Option.some.inj h0
 injection this with this
 exact recA_inj this
theorem rect_dep {B:Nat} {r:RecN} {b:Bool} {v:Value}:∀ u u',Same (rectR B r b v).fp u u'→(rectR B r b v).F u→(rectR B r b v).F u':=fun u u' hs ⟨V,e,h,hl⟩=>
 ⟨V,e,recv_same hs (fun g hg=>⟨V,e,hg⟩) h,hl⟩
theorem Mx.newRect {G:Option Nat} {w0 w w':World} {R:List (Nat×Res)} (M:Mx G w0 w R) (h:Below w.heap.size w w') {r:RecN} {V:RecV} (b:Bool) (hm:RecU w' r V) (hlo:∀ q,bfp V.v2 q∨bfp V.v5 q→w.heap.size≤q) (i:Nat):Mx G w0 w' ((i,rectR w0.heap.size r b (.tuple #[.agg (recA r V),.bool b]))::R):=
 M.fresh h i _ ⟨V,rfl,hm,fun g hg=>Nat.le_trans M.le (hlo g hg)⟩ rect_dep fun g ⟨V',e,hg⟩=>by
  have e2:V=V':=tupA_inj e
  subst e2
  exact ⟨hlo g hg,recv_lt hm hg⟩
theorem Mx.newRecv {G:Option Nat} {w0 w w':World} {R:List (Nat×Res)} (M:Mx G w0 w R) (h:Below w.heap.size w w') {r:RecN} {V:RecV} (hm:RecU w' r V) (hlo:∀ q,bfp V.v2 q∨bfp V.v5 q→w.heap.size≤q) (i:Nat):Mx G w0 w' ((i,zvb w0.heap.size r (.agg (recA r V)))::R):=
 M.fresh h i _ ⟨V,rfl,hm,fun g hg=>Nat.le_trans M.le (hlo g hg)⟩ recv_dep fun g ⟨V',e,hg⟩=>by
  have e2:V=V':=recA_inj (by injection e)
  subst e2
  exact ⟨hlo g hg,recv_lt hm hg⟩
theorem Mx.rectTo {G:Option Nat} {w0 w:World} {R:List (Nat×Res)} (M:Mx G w0 w R) {k B:Nat} {r:RecN} {b:Bool} {V:RecV} (h:look R k=some (rectR B r b (.tuple #[.agg (recA r V),.bool b]))):Mx G w0 w ((k,zvb B r (.agg (recA r V)))::R):=by
 obtain ⟨V',e,hm,hl⟩:=M.at_ k _ h
 have e2:V=V':=tupA_inj e
 subst e2
 exact M.part k _ ⟨V,rfl,hm,hl⟩ recv_dep rfl h rfl fun g ⟨V2,e3,hg⟩=>by
  have e4:V=V2:=recA_inj (by injection e3)
  subst e4
  exact ⟨V,rfl,hg⟩
theorem Mx.rectV {G:Option Nat} {w0 w:World} {R:List (Nat×Res)} (M:Mx G w0 w R) {k B:Nat} {r:RecN} {b:Bool} {v:Value} {V:RecV} (h:look R k=some (rectR B r b v)) (e:v=.tuple #[.agg (recA r V),.bool b]):Mx G w0 w ((k,zvb B r (.agg (recA r V)))::R):=by
 subst e;exact M.rectTo h
theorem Mx.dup {G:Option Nat} {w0 w:World} {R:List (Nat×Res)} (M:Mx G w0 w R) {k:Nat} {r:Res} (h:look R k=some r):Mx G w0 w ((k,r)::R):=M.drop fun j s e=>by
 rw [zx] at e
 split at e
 ·rename_i he
  cases e;rw [←he];exact h
 ·exact e
theorem zub {w:World} {B:Nat} {r:RecN} {v:Value} (h:(zvb B r v).F w):zuc w (zvb B r v):=fun g ⟨V,e,hg⟩=>by
 obtain ⟨V',e',hm,-⟩:=h
 rw [e] at e'
 have e2:V=V':=recA_inj (by injection e')
 subst e2
 rcases hg with hg | hg
 ·exact cells_bytR (l:=r.l2) hm.h2 g hg
 ·exact cells_bytR (l:=r.l5) hm.h5 g hg
theorem others_below {W W':World} (h:Below W.heap.size W W'):KeepsOthers W W':=⟨h.size,fun k o hk _=>(h.block k (Array.getElem?_eq_some_iff.1 hk).1).trans hk⟩
theorem RecAt.put {l D:Nat} {o1 o2:Obj} {W:World} (h:RecAt l D o1 o2 W) {l':Nat} (o:Obj) (h1:l≠l') (h2:D≠l'):RecAt l D o1 o2 (W.putObj l' o):=
 ⟨(World.putObj_heap_other h1).trans h.1,(World.putObj_heap_other h2).trans h.2.1,h.2.2⟩
def fstN (p:Nat→Bool):Nat→Nat→Nat
 | 0,k=>k
 | n+1,k=>if p k=true then k else fstN p n (k+1)
def fst8 (p:Nat→Bool):Nat:=fstN p 8 0
theorem fst_next {p:Nat→Bool} {k:Nat} (hk:k<8) (hp:p k=false) (h:fst8 p=fstN p (8-k) k):fst8 p=fstN p (8-(k+1)) (k+1):=by
 rw [h,show 8-k=(8-(k+1))+1 by omega]
 exact if_neg (by rw [hp];exact Bool.false_ne_true)
theorem fst_here {p:Nat→Bool} {k:Nat} (hk:k<8) (hp:p k=true) (h:fst8 p=fstN p (8-k) k):fst8 p=k:=by
 rw [h,show 8-k=(7-k)+1 by omega]
 exact if_pos hp
theorem fstN_spec (p:Nat→Bool):∀ n k,(fstN p n k<k+n∧p (fstN p n k)=true∧k≤fstN p n k∧∀ i,k≤i→i<fstN p n k→p i=false)∨(fstN p n k=k+n∧∀ i,k≤i→i<k+n→p i=false)
 | 0,k=>.inr ⟨rfl,fun i h1 h2=>by omega⟩
 | n+1,k=>by
  unfold fstN
  by_cases hp:p k=true
  ·rw [if_pos hp]
   exact .inl ⟨by omega,hp,Nat.le_refl _,fun i h1 h2=>by omega⟩
  ·rw [if_neg hp]
   have hp':p k=false:=by simpa using hp
   rcases fstN_spec p n (k+1) with ⟨h1,h2,h3,h4⟩ | ⟨h1,h2⟩
   ·refine .inl ⟨by omega,h2,by omega,fun i h5 h6=>?_⟩
    by_cases e:i=k
    ·subst e;exact hp'
    ·exact h4 i (by omega) h6
   ·refine .inr ⟨by omega,fun i h5 h6=>?_⟩
    by_cases e:i=k
    ·subst e;exact hp'
    ·exact h2 i (by omega) (by omega)
theorem fst8_spec (p:Nat→Bool):(fst8 p<8∧p (fst8 p)=true∧∀ i,i<fst8 p→p i=false)∨(fst8 p=8∧∀ i,i<8→p i=false):=by
 rcases fstN_spec p 8 0 with ⟨h1,h2,h3,h4⟩ | ⟨h1,h2⟩
 ·exact .inl ⟨by unfold fst8;omega,h2,fun i hi=>h4 i (Nat.zero_le _) hi⟩
 ·exact .inr ⟨by unfold fst8;omega,fun i hi=>h2 i (Nat.zero_le _) (by omega)⟩
theorem pairs_any  (w:World):
  Calls Tryz.prog 75 #[] w fun e w'=>e=.returned (.func (.func 104) #[] #[])∧Below w.heap.size w w':=by
 refine zk (args:=[]) 1 Tryz.func75 rfl rfl rfl ?_
 intro fa F
 have M:=Mx.start w
 refine zT fun _ hK1=>rm rfl F fun _ F2=>hK1 _ _ (zT fun _ hK3=>zc (w':=w) rfl rfl F2 rfl (.func (.func 104) #[] #[]) (zla _ (.inr rfl) rfl) fun _ F4=>?_)
 exact hK3 _ _ (wp_ret (bodyPost_ret (res1 rfl (F4.get rfl)) F4.defers ⟨rfl,M.below⟩))
theorem pairs1_any (C:Nat→World→Prop) (Sx:World→Prop) (l D:Nat) (o1 o2:Obj) (w:World)
  (hyield:∀ (k:Nat) (W:World),k<8→C k W→RecAt l D o1 o2 W→YieldsAt Tryz.prog l D o1 o2 #[.agg #[zI ((2*k:Nat):Int),.func (.func 105) #[] #[]]] W (C (k+1)) Sx)
  (h0:C 0 w) (hr:RecAt l D o1 o2 w):
  CallsIn Fence.wide 2 Tryz.prog 104 #[.func (.yield l) #[] #[]] w fun e W'=>(∃ v,e=.returned v)∧((RecAt l D o1 o2 W'∧C 8 W')∨Sx W'):=by
 refine callsIn_wide.2 ?_
 refine zk (args:=[.func (.yield l) #[] #[]]) 13 Tryz.func104 rfl rfl rfl ?_
 intro fa F
 refine zT fun _ hK1=>rm rfl F fun _ F2=>hK1 _ _ (wp_block (wp_loop_ghost (fun k a w=>∃ x:Nat,k=8-x∧x≤8∧Fx 13 a [(0,.func (.yield l) #[] #[]),(3,zI (x:Int))]∧C x w∧RecAt l D o1 o2 w) 8 ⟨0,rfl,by omega,F2.sb,h0,hr⟩ ?_))
 rintro kk la lw ⟨x,ek,hx,LF,hc,hre⟩
 replace LF:Fx 13 la [(0,.func (.yield l) #[] #[]),(3,zI (x:Int))]:=LF
 by_cases hlt:x<8
 ·refine zT fun _ hK3=>zc (w':=lw) rfl rfl LF rfl (.bool true) (zka _ _ _ _ rfl (LF.get (t:=3) rfl) rfl (decide_eq_true (show (x:Int)<8 by omega))) fun _ F4=>?_
  clear LF
  refine hK3 _ _ (zSk fun _ hK5=>wp_cond_true (F4 4 rfl) (wp_skip (hK5 _ _ (zSk fun _ hK6=>wp_block (zT fun _ hK7=>rm rfl F4 fun _ F8=>rm rfl F8 fun _ F9=>hK7 _ _ (zSk fun _ hK10=>(wpIn_wide (n:=2)).1 (wpIn_region_lit ?_)))))))
  refine wi_run (r:=none) (fun c e=>by cases e) (w':=lw) rfl rfl F9 rfl (.func (.yield l) #[] #[]) (zla _ (.inl rfl) (F9 0 rfl)) fun _ F11=>?_
  refine wi_run (r:=none) (fun c e=>by cases e) (w':=lw) rfl rfl F11 rfl (zI (x:Int)) (zla _ (.inl rfl) (F11 2 rfl)) fun _ F12=>?_
  refine wi_run (r:=none) (fun c e=>by cases e) (w':=lw) rfl rfl F12 rfl (zI ((2*x:Nat):Int)) (y_mulI _ _ _ _ rfl rfl (F12 7 rfl) (by omega) (by omega)) fun _ F13=>?_
  refine wi_run (r:=none) (fun c e=>by cases e) (w':=lw) rfl rfl F13 rfl (.agg (#[zI ((2*x:Nat):Int),.func (.func 105) #[] #[]])) (by unfold execOp;simp only [List.map_toArray,List.map_cons,List.map_nil,(F13 8 rfl)];kernel_rfl) fun _ F14=>?_
  refine wi_yields (r:=none) rfl rfl F14 rfl rfl (F14 6 rfl) #[.agg (#[zI ((2*x:Nat):Int),.func (.func 105) #[] #[]])] (zaa (F14 9 rfl)) (hyield x _ hlt hc hre) ?_ ?_
  ·intro w15 a15 re15 ko15 hc15 F15
   refine wi_run (r:=none) (fun c e=>by cases e) (w':=w15) rfl rfl F15 rfl (.bool false) (zgb _ _ rfl (F15 10 rfl)) fun _ F16=>?_
   refine hK10 _ _ (wp_cond_false (F16 11 rfl) (wp_skip (hK6 _ _ (zR (zc (w':=w15) rfl rfl F16 rfl (zI ((x+1:Nat):Int)) (zoa _ _ _ _ rfl (F16 3 rfl) rfl (by omega) (by omega)) fun _ F17=>?_)))))
   refine rm rfl F17 fun _ F18=>?_
   exact ⟨7-x,by omega,x+1,by omega,by omega,F18.sb,hc15,re15⟩
  ·intro w15 a15 kf15 hs15 F15
   refine wi_run (r:=none) (fun c e=>by cases e) (w':=w15) rfl rfl F15 rfl (.bool true) (zgb _ _ rfl (F15 10 rfl)) fun _ F19=>?_
   refine hK10 _ _ (wp_cond_true (F19 11 rfl) (wp_ret ?_))
   try simp only [Exit.then,Exit.inBlock,Exit.jump]
   exact bodyPost_ret (res0 rfl) F19.defers ⟨⟨_,rfl⟩,.inr hs15⟩
 ·obtain rfl:x=8:=by omega
  refine zT fun _ hK20=>zc (w':=lw) rfl rfl LF rfl (.bool false) (zka _ _ _ _ rfl (LF.get (t:=3) rfl) rfl (decide_eq_false (by decide))) fun _ F21=>?_
  clear LF
  refine hK20 _ _ (zSk fun _ hK22=>wp_cond_false (F21 4 rfl) (wp_exit ?_))
  simp only [Exit.then,Exit.inBlock,↓reduceIte,Nat.reduceEqDiff]
  exact bodyPost_end (res0 rfl) F21.defers ⟨⟨_,rfl⟩,.inl ⟨hre,hc⟩⟩
theorem accounts_any (g:Nat) (w:World):
  Calls Tryz.prog 56 #[(zO g)] w fun e w'=>∃ gb,e=.returned (.func (.func 84) #[] #[(zO gb)])∧w.heap.size≤gb∧w'.heap[gb]? = some (.cells #[(zO g)] 25 (0,0))∧Below w.heap.size w w':=by
 refine zk (args:=[(zO g)]) 4 Tryz.func56 rfl rfl rfl ?_
 intro fa F
 have M:=Mx.start w
 refine zT fun _ hK1=>zq rfl rfl F rfl M 0 (t:=25) (c:=#[(zO g)]) (by unfold execOp;simp only [(F 0 rfl)];kernel_rfl) ?_
 intro g2 a2 w2 F2 M2
 refine rm rfl F2 fun _ F3=>hK1 _ _ (zT fun _ hK4=>zc (w':=w2) rfl rfl F3 rfl (.func (.func 84) #[] #[(zO g2)]) (by unfold execOp;simp only [List.map_toArray,List.map_cons,List.map_nil,(F3 1 rfl)];kernel_rfl) fun _ F5=>?_)
 exact rm rfl F5 fun _ F6=>hK4 _ _ (wp_ret (bodyPost_ret (res1 rfl (F6.get rfl)) F6.defers ⟨g2,rfl,(M2.own 0 _ rfl rfl g2 rfl).resolve_right (fun e=>by cases e),M2.blk (k:=0) rfl,M2.below⟩))
theorem put_cells {W:World} {g lp:Nat} {o:Obj} {c:Array Value} {t:TypeId} (h:W.heap[g]? = some (.cells c t (0,0))) (hnc:zsb W lp):(W.putObj lp o).heap[g]? = some (.cells c t (0,0)):=
 (World.putObj_heap_other (fun e=>by subst e;exact Bool.noConfusion (hnc _ h))).trans h
theorem says_is (q:Nat) (hq:q+1<18) (g:Nat) (V:VltN) (s n:Nat→Value) (hv:z1a V) (b:Bool) (r:RecN) (hb:zfc V q=b) (hr:z0a V q=r) (w:World) (h:HasV w g V s n):Calls Tryz.prog 85 #[.agg #[zI (q:Int),.func (.func 105) #[] #[]],(zO g)] w fun e w'=>∃ t,e=.returned t∧∃ V',t=.tuple #[.agg (recA r V'),.bool b]∧RecU w' r V'∧(∀ b,bfp V'.v2 b∨bfp V'.v5 b→w.heap.size≤b)∧Below w.heap.size w w':=by
 subst hb hr
 exact (saysR q hq g V s n hv w h).mono fun e w' ⟨V',h1,h2,h3,h4⟩=>⟨_,h1,V',rfl,h2,h3,h4⟩
theorem heap_ltO {w:World} {g:Nat} {o:Obj} (h:w.heap[g]? = some o):g<w.heap.size:=(Array.getElem?_eq_some_iff.1 h).1
theorem accounts1_any (g gb:Nat) (V:VltN) (s n:Nat→Value) (hv:z1a V) (C:Res→Nat→World→Prop) (Sx:World→Prop) (l D:Nat) (o1 o2:Obj) (w:World)
  (hC:∀ X k W,C X k W→HasV W g V s n∧W.heap[gb]? = some (.cells #[(zO g)] 25 (0,0)))
  (hCx:∀ X k W,C X k W→X.F W)
  (hCi:∀ X k W W',C trivR k W→Below W.heap.size W W'→X.F W'→(∀ u u',Same X.fp u u'→X.F u→X.F u')→(∀ b,X.fp b→W.heap.size≤b∧b<W'.heap.size)→(∀ W,X.F W→zuc W X)→C X k W')
  (hCb:∀ X k W W',C X k W→Below W.heap.size W W'→C X k W')
  (hCo:∀ X k W l' o,w.heap.size≤l'→zsb W l'→C X k W→C X k (W.putObj l' o))
  (hSo:∀ W l' o,w.heap.size≤l'→zsb W l'→Sx W→Sx (W.putObj l' o))
  (hskip:∀ X k W,k<8→zfc V (2*k)=false→C X k W→C X (k+1) W)
  (hyield:∀ X k V' W W',k<8→zfc V (2*k)=true→C X k W→Below W.heap.size W W'→RecU W' (z0a V (2*k)) V'→(∀ b,bfp V'.v2 b∨bfp V'.v5 b→W.heap.size≤b)→RecAt l D o1 o2 W'→YieldsAt Tryz.prog l D o1 o2 #[.agg #[zI ((2*k:Nat):Int),.func (.func 105) #[] #[]],.agg (recA (z0a V (2*k)) V')] W' (C X (k+1)) Sx)
  (h0:C trivR 0 w) (hr:RecAt l D o1 o2 w):
  CallsIn Fence.wide 2 Tryz.prog 84 #[.func (.yield l) #[] #[],(zO gb)] w fun e W'=>(∃ v,e=.returned v)∧((RecAt l D o1 o2 W'∧∃ X,C X 8 W')∨Sx W'):=by
 refine callsIn_wide.2 ?_
 refine calls_fxM (args:=[.func (.yield l) #[] #[],(zO gb)]) 24 Tryz.func84 rfl rfl rfl ?_
 intro fa F
 have M:=Mx.start w
 replace M:=M.argO 0 (hC _ _ _ h0).2 (fun b e=>by cases e)
 refine zT fun _ hK1=>zq rfl rfl F rfl M 1 (t:=123) (c:=#[.func (.yield l) #[] #[]]) (by unfold execOp;simp only [(F 0 rfl)];kernel_rfl) ?_
 intro g2 a2 w2 F2 M2
 refine hK1 _ _ (zT fun _ hK3=>zh rfl rfl F2 rfl rfl (zE Tryz.func75 rfl) #[] (args0) (zba ((pairs_any w2))) ?_)
 rintro _ w4 a4 ⟨rfl,b4⟩ F4
 have M4:=M2.step b4
 refine hK3 _ _ (wp_block ?_)
 obtain ⟨X,hX⟩:∃ x,(blkR g2 123 #[.func (.yield l) #[] #[]])=x:=⟨_,rfl⟩
 have hXc:∀ W,X.F W→zuc W X:=by rw [←hX];exact fun W h=>zg h
 have hXb:∀ W,X.F W→W.heap[g2]? = some (.cells #[.func (.yield l) #[] #[]] 123 (0,0)):=by rw [←hX];exact fun W h=>h
 have hc0:C X 0 w4:=hCi X 0 w w4 h0 M4.below (by rw [←hX];exact M4.blk (k:=1) rfl) (by rw [←hX];exact z9c) (by rw [←hX];rintro b rfl;exact ⟨(M4.own 1 _ rfl rfl _ rfl).resolve_right (fun e=>by cases e),z2a (M4.blk (k:=1) rfl)⟩) hXc
 have hwle:=M4.le
 have hlw:l<w.heap.size:=heap_ltO hr.1
 have hDw:D<w.heap.size:=heap_ltO hr.2.1
 have hre0:RecAt l D o1 o2 w4:=hr.below M4.below
 refine range_fx3 F4 (gf:=104) (lb:=#[]) (F4 6 rfl) (zE Tryz.func104 rfl) rfl (α:=Nat) (fun k=>.agg #[zI ((2*k:Nat):Int),.func (.func 105) #[] #[]]) (fun k W=>k<8∧C X k W∧RecAt l D o1 o2 W) (fun k W=>C X (k+1) W∧RecAt l D o1 o2 W) (fun c W=>c=.ret∧Sx W) (fun W=>C X 8 W∧RecAt l D o1 o2 W) ?_ ?_ ?_ ?_
 ·intro l2 D2 p1 p2 W1 hD2 hL2 bW hrec2 hY
  exact (pairs1_any (fun k W=>C X k W∧RecAt l D o1 o2 W) _ l2 D2 p1 p2 W1 (fun k W hk h hq=>hY k W ⟨hk,h⟩ hq) ⟨hCb X 0 _ _ hc0 bW,hre0.below bW⟩ hrec2)
 ·rintro lp k W ra F5 hlo hlt ⟨hk,hc,hre⟩
  replace F5:Fx 24 ra _:=F5
  have N0:=Mx.start W
  obtain ⟨bk,hbk⟩:∃ x,zfc V (2*k)=x:=⟨_,rfl⟩
  obtain ⟨rk,hrk⟩:∃ x,z0a V (2*k)=x:=⟨_,rfl⟩
  have hyk:=hyield X k
  rw [hrk] at hyk
  refine wpIn_lit' (fun ⟨_,_,h⟩=>h) rfl ?_
  refine zq rfl rfl F5 rfl N0 2 (t:=87) (c:=#[zI 0,.nilFunc]) (by unfold execOp;kernel_rfl) ?_
  intro g6 a6 w6 F6 M6
  clear F5 N0
  refine zt rfl rfl F6 M6 (k:=2) rfl _ _ _ rfl (F6 3 rfl) (F6 7 rfl) (#[zI ((2*k:Nat):Int),.func (.func 105) #[] #[]]) _ rfl (zL rfl) (by first | rfl | simp [Value.oneCell']) (zca rfl) (by kernel_rfl) ?_
  intro w7 M7
  have b1:=M7.below
  refine ⟨others_below b1,fun o hnc hoc=>?_⟩
  have hWle:=M7.le
  have hg3:=put_cells (o:=o) (M7.blk (k:=2) rfl) hnc
  have hcp:C X k (w7.putObj lp o):=hCo X k w7 lp o (by omega) hnc (hCb X k W w7 hc b1)
  have hrp:=(hre.below b1).put o (show l≠lp by omega) (show D≠lp by omega)
  have hLo:(w7.putObj lp o).heap[lp]? = some o:=World.putObj_heap_same (by omega)
  have hWlp:lp<w7.heap.size:=by omega
  clear M7 hnc
  obtain ⟨Wp,hWp⟩:∃ x,x=w7.putObj lp o:=⟨_,rfl⟩
  rw [←hWp] at hcp hrp hLo hg3 ⊢
  have hh:=hC X k Wp hcp
  have M8:=(((Mx.start Wp).argO 0 hh.2 (fun b e=>by cases e)).argO 2 hg3 (fun b e=>by cases e)).argO 1 (hXb _ (hCx X k Wp hcp)) (fun b e=>by cases e)
  refine wpIn_block ?_
  refine wpIn_seq_k fun K9 hK9=>?_
  refine region_fxM_in (fun ⟨_,_,h⟩=>h) rfl F6 [fun vE=>vE=.agg (#[zI ((2*k:Nat):Int),.func (.func 105) #[] #[]]),fun vE=>vE=(zO g),fun vE=>vE=(zO g),fun vE=>vE=(zO g),fun _=>True,fun vE=>∃ V_,vE=.tuple #[.agg (recA rk V_),.bool bk],fun vE=>∃ V_,vE=.agg (recA rk V_),fun vE=>vE=.bool bk,fun vE=>∃ g,vE=(zO g),fun vE=>vE=undef] (JQ none Wp (fun SV=>SV 6=true→SV 5=true) (fun (xJ:Unit) SV pV=>[(1,blkO g2 123 (#[.func (.yield l) #[] #[]])),(2,blkO g6 87 (#[zI ((2*k:Nat):Int),.func (.func 105) #[] #[]])),(0,blkO gb 25 (#[(zO g)])),(3,zha (SV 6) (zvb Wp.heap.size rk (pV 6)) (zha (SV 5) (rectR Wp.heap.size rk bk (pV 5)) (z5a (SV 4) (rectR Wp.heap.size rk bk (pV 4))))),(4,zha (SV 9) (ptrR 37 (aggC (pV 6)) (pV 8)) (z5a (SV 8) (ptrR 37 (recA ⟨0, "".toUTF8,[],0,0,[],0,0,0⟩ ⟨zN,zN⟩) (pV 8))))])) 10 rfl (by kernel_rfl) rfl ⟨trivial,trivial,trivial,trivial,trivial,trivial,trivial,trivial,trivial,fun _=>Iff.rfl,trivial⟩ (fun p=>JQ.mk (fun h=>absurd h (by decide)) () ((((M8.step (zsa _)).triv 3).triv 4).sub ⟨rfl,rfl,rfl,rfl,rfl,trivial⟩)) ⟨?_,?_,?_,?_,?_,?_,?_,?_,?_,?_,trivial⟩ ?_
  ·intro ua uw SV pV M0 hk hn hd
   obtain ⟨HP,xJ,M⟩:=M0
   replace M:Mx none Wp uw _:=M
   have e3:ua.eval (.tmp 3)=(zO g6):=(show ua.eval (.tmp 3)=_ from hd 3 (by decide)).trans (F6 3 rfl)
   exact ze rfl _ (zjb _ _ rfl e3 (M.roB (k:=2) rfl) (#[zI ((2*k:Nat):Int),.func (.func 105) #[] #[]]) (znb rfl) Tryz.underlying87 rfl (by kernel_rfl)) rfl ((JQ.mk HP () (M.sb)))
  ·intro ua uw SV pV M0 hk hn hd
   obtain ⟨HP,xJ,M⟩:=M0
   replace M:Mx none Wp uw _:=M
   have e1:ua.eval (.tmp 1)=(zO gb):=(show ua.eval (.tmp 1)=_ from hd 1 (by decide)).trans (F6 1 rfl)
   exact ze rfl (zO g) (zda _ _ rfl e1 (M.roB (k:=0) rfl) rfl Tryz.underlying25 rfl) rfl ((JQ.mk HP () (M.sb)))
  ·intro ua uw SV pV M0 hk hn hd
   obtain ⟨HP,xJ,M⟩:=M0
   replace M:Mx none Wp uw _:=M
   have e10:ua.eval (.tmp 10)=(zO g):=zQ1 (hd 10 (by decide))
   exact ze rfl (zO g) (by unfold execOp;simp only [e10];kernel_rfl) rfl ((JQ.mk HP () (M.sb)))
  ·intro ua uw SV pV M0 hk hn hd
   obtain ⟨HP,xJ,M⟩:=M0
   replace M:Mx none Wp uw _:=M
   have e11:ua.eval (.tmp 11)=(zO g):=zQ1 (hd 11 (by decide))
   exact ze rfl (zO g) (y_fa (off:=0) rfl e11 (by kernel_rfl) rfl) rfl ((JQ.mk HP () (M.sb)))
  ·intro ua uw SV pV M0 hk hn hd
   obtain ⟨HP,xJ,M⟩:=M0
   replace M:Mx none Wp uw _:=M
   have e9:ua.eval (.tmp 9)=.agg (#[zI ((2*k:Nat):Int),.func (.func 105) #[] #[]]):=zQ1 (hd 9 (by decide))
   have e12:ua.eval (.tmp 12)=(zO g):=zQ1 (hd 12 (by decide))
   have hz:SV 6=false:=by cases h:SV 6 with
    | false=>rfl
    | true=>exact absurd (HP h) (by rw [hn 5 (by kernel_rfl)];decide)
   exact z9a rfl rfl #[.agg (#[zI ((2*k:Nat):Int),.func (.func 105) #[] #[]]),(zO g)] (zfa e9 e12) (zE Tryz.func85 rfl) ((says_is (2*k) (by omega) g V s n hv bk rk hbk hrk uw (hh.1.step M.below)).mono fun e w2 h=>(by obtain ⟨t,h1,V_,ht,hI,hlo,hb⟩:=h;subst ht;exact ⟨_,h1,trivial,(JQ.mk HP () ((M.newRect hb bk hI hlo 3).sub ⟨rfl,rfl,rfl,(zzb hz (zzb (hn 5 (by kernel_rfl)) rfl)),rfl,trivial⟩))⟩))
  ·intro ua uw SV pV M0 hk hn hd
   obtain ⟨HP,xJ,M⟩:=M0
   replace M:Mx none Wp uw _:=M
   obtain ⟨s4,f13,q13⟩:=(show SV 4=true∧ua.eval (.tmp 13)=pV 4∧stE _ 4 (pV 4) from hd 13 (by decide))
   have e13:ua.eval (.tmp 13)=(pV 4):=f13
   obtain ⟨V_,eS_,hS_,-⟩:=(show (rectR Wp.heap.size rk bk (pV 4)).F uw from M.at_ 3 _ (zya s4 (zea hk (zea (hn 6 (by kernel_rfl)) rfl))))
   exact ze rfl ((pV 4)) (zla _ (.inl rfl) e13) ⟨V_,eS_⟩ ((JQ.mk (fun _=>rfl) () ((M.dup (k:=3) (zya s4 (zea hk (zea (hn 6 (by kernel_rfl)) rfl)))).sub ⟨rfl,rfl,rfl,(zzb (hn 6 (by kernel_rfl)) rfl),rfl,trivial⟩)))
  ·intro ua uw SV pV M0 hk hn hd
   obtain ⟨HP,xJ,M⟩:=M0
   replace M:Mx none Wp uw _:=M
   obtain ⟨s5,f8,q8⟩:=(show SV 5=true∧ua.eval (.tmp 8)=pV 5∧stE _ 5 (pV 5) from hd 8 (by decide))
   have e8:ua.eval (.tmp 8)=(pV 5):=f8
   obtain ⟨V_,eS_,hS_,-⟩:=(show (rectR Wp.heap.size rk bk (pV 5)).F uw from M.at_ 3 _ (z6c s5 (zea hk rfl)))
   rw [eS_] at e8
   exact ze rfl _ (y_ext _ _ rfl e8 rfl) ⟨V_,rfl⟩ ((JQ.mk (fun _=>s5) () ((Mx.rectV M (k:=3) (V:=V_) (z6c s5 (zea hk rfl)) eS_).sub ⟨rfl,rfl,rfl,rfl,(eitherR_off (hn 9 (by kernel_rfl)) rfl),trivial⟩)))
  ·intro ua uw SV pV M0 hk hn hd
   obtain ⟨HP,xJ,M⟩:=M0
   replace M:Mx none Wp uw _:=M
   obtain ⟨s5,f8,q8⟩:=(show SV 5=true∧ua.eval (.tmp 8)=pV 5∧stE _ 5 (pV 5) from hd 8 (by decide))
   have e8:ua.eval (.tmp 8)=(pV 5):=f8
   obtain ⟨V_,eS_⟩:=(show ∃ V_,(pV 5)=.tuple #[.agg (recA rk V_),.bool bk] from q8)
   exact ze rfl (.bool bk) (y_ext _ _ rfl (e8.trans eS_) rfl) rfl ((JQ.mk HP () (M.sb)))
  ·intro ua uw SV pV M0 hk hn hd
   obtain ⟨HP,xJ,M⟩:=M0
   replace M:Mx none Wp uw _:=M
   exact ze rfl _ (by unfold execOp;kernel_rfl) ⟨_,rfl⟩ ((JQ.mk HP () ((M.allocP 4 37 (recA ⟨0, "".toUTF8,[],0,0,[],0,0,0⟩ ⟨zN,zN⟩)).sub ⟨rfl,rfl,rfl,rfl,(zzb (hn 9 (by kernel_rfl)) rfl),trivial⟩)))
  ·intro ua uw SV pV M0 hk hn hd
   obtain ⟨HP,xJ,M⟩:=M0
   replace M:Mx none Wp uw _:=M
   obtain ⟨s8,f4,q4⟩:=(show SV 8=true∧ua.eval (.tmp 4)=pV 8∧stE _ 8 (pV 8) from hd 4 (by decide))
   obtain ⟨s6,f14,q14⟩:=(show SV 6=true∧ua.eval (.tmp 14)=pV 6∧stE _ 6 (pV 6) from hd 14 (by decide))
   have e14:ua.eval (.tmp 14)=(pV 6):=f14
   obtain ⟨V_,eS_,hS_,-⟩:=(show (zvb Wp.heap.size rk (pV 6)).F uw from M.at_ 3 _ (z6c s6 rfl))
   have eA_:aggC (pV 6)=recA rk V_:=by rw [eS_];rfl
   obtain ⟨g_,r_⟩:=(show ∃ g,pV 8=(zO g) from q4)
   have M2:=M.ptrV (k:=4) (g:=g_) (zya s8 (zea hk rfl)) r_
   exact hopM_doM rfl rfl (run_st M2 (k:=4) rfl _ _ _ rfl (f4.trans r_) (f14.trans eS_) (recA rk V_) _ rfl (zL rfl) (z6a hS_.is) (zca rfl) (by kernel_rfl)) (fun w2 h2=>(JQ.mk HP () ((h2.toPtr (k:=4) rfl r_ eA_).sub ⟨rfl,rfl,rfl,rfl,rfl,trivial⟩))) rfl
  intro p10 a10 w10 M10 G10 y10
  obtain ⟨-,-,-,-,-,-,q6,q7,q8,-,-⟩:=y10
  obtain ⟨gp8x9,r8⟩:=(show ∃ g,p10 8=(zO g) from q8)
  obtain ⟨V10,r6⟩:=(show ∃ V_,p10 6=.agg (recA rk V_) from q6)
  have r7:p10 7=.bool bk:=q7
  obtain ⟨-,xJ10,M10⟩:=M10
  replace M10:Mx _ _ w10 [(1,blkO g2 123 (#[.func (.yield l) #[] #[]])),(2,blkO g6 87 (#[zI ((2*k:Nat):Int),.func (.func 105) #[] #[]])),(0,blkO gb 25 (#[(zO g)])),(3,zha true (zvb Wp.heap.size rk (p10 6)) (zha true (rectR Wp.heap.size rk bk (p10 5)) (z5a true (rectR Wp.heap.size rk bk (p10 4))))),(4,zha true (ptrR 37 (aggC (p10 6)) (p10 8)) (z5a true (ptrR 37 (recA ⟨0, "".toUTF8,[],0,0,[],0,0,0⟩ ⟨zN,zN⟩) (p10 8))))]:=M10
  simp only [List.take,layV,Nat.zero_add,Nat.reduceAdd,r6,r7,r8] at G10
  rw [r8,r6] at M10
  have M10_4:=M10.ptr (k:=4) (g:=gp8x9) rfl
  replace M10_4:=M10_4.toB (k:=4) (c2:=recA rk V10) rfl rfl
  refine rm rfl G10 fun _ F11=>hK9 _ _ (wpIn_seq_k fun K12 hK12=>?_)
  refine wpIn_region_lit ?_
  refine wi_run (r:=lp) (fun c e=>by cases e) (w':=w10) rfl rfl F11 rfl (.bool bk) (zla _ (.inl rfl) (F11 5 rfl)) fun _ F13=>?_
  refine wi_run (r:=lp) (fun c e=>by cases e) (w':=w10) rfl rfl F13 rfl (.bool bk) (zla _ (.inl rfl) (F13 16 rfl)) fun _ F14=>?_
  cases bk
  ·refine wi_skip (r:=lp) (wanted_no rfl rfl rfl (F14 17 rfl)) rfl F14 rfl fun _ F15=>?_
   refine wi_skip (r:=lp) (wanted_no rfl rfl rfl (F15 17 rfl)) rfl F15 rfl fun _ F16=>?_
   refine wi_skip (r:=lp) (wanted_no rfl rfl rfl (F16 17 rfl)) rfl F16 rfl fun _ F17=>?_
   refine wi_skip (r:=lp) (wanted_no rfl rfl rfl (F17 17 rfl)) rfl F17 rfl fun _ F18=>?_
   refine wi_skip (r:=lp) (wanted_no rfl rfl rfl (F18 17 rfl)) rfl F18 rfl fun _ F19=>?_
   refine wi_run (r:=lp) (fun c e=>by cases e) (w':=w10) rfl rfl F19 rfl (.bool false) (z0b rfl (F19 17 rfl) rfl) fun _ F20=>?_
   refine hK12 _ _ (wpIn_cond_false (F20 23 rfl) ?_)
   refine wpIn_skip ?_
   have ko:=others_below M10_4.below
   have hnc2:zsb w10 lp:=fun o2 ho2=>by rw [ko.same lp o hLo hoc] at ho2;cases ho2;exact hoc
   exact ⟨ko,fun o2=>⟨hCo X (k+1) w10 lp o2 (by omega) hnc2 (hskip X k w10 hk hbk (hCb X k Wp w10 hcp M10_4.below)),(hrp.below M10_4.below).put o2 (by omega) (by omega)⟩⟩
  ·refine wi_run (r:=lp) (fun c e=>by cases e) (w':=w10) (zd rfl rfl rfl (F14 17 rfl)) rfl F14 rfl (.func (.yield l) #[] #[]) (zda _ _ rfl (F14 2 rfl) (M10_4.roB (k:=1) rfl) rfl Tryz.underlying123 rfl) fun _ F21=>?_
   refine wi_run (r:=lp) (fun c e=>by cases e) (w':=w10) (zd rfl rfl rfl (F21 17 rfl)) rfl F21 rfl _ (zjb _ _ rfl (F21 3 rfl) (M10_4.roB (k:=2) rfl) (#[zI ((2*k:Nat):Int),.func (.func 105) #[] #[]]) (znb rfl) Tryz.underlying87 rfl (by kernel_rfl)) fun _ F22=>?_
   refine wi_run (r:=lp) (fun c e=>by cases e) (w':=w10) (zd rfl rfl rfl (F22 17 rfl)) rfl F22 rfl _ (zjb _ _ rfl (F22 4 rfl) (M10_4.blk (k:=4) rfl) (recA rk V10) (znb rfl) Tryz.underlying37 rfl (by kernel_rfl)) fun _ F23=>?_
   refine wi_yields (r:=lp) (zd rfl rfl rfl (F23 17 rfl)) rfl F23 rfl rfl (F23 18 rfl) #[.agg (#[zI ((2*k:Nat):Int),.func (.func 105) #[] #[]]),.agg (recA rk V10)] (zfa (F23 19 rfl) (F23 20 rfl)) (hyk V10 Wp w10 hk hbk hcp M10_4.below (recv_isU (M10_4.at_ 3 _ rfl)) (fun b hb=>recv_lo (M10_4.at_ 3 _ rfl) hb) (hrp.below M10_4.below)) ?_ ?_
   ·intro w24 a24 re24 ko24 hc24 F24
    refine wi_run (r:=lp) (fun c e=>by cases e) (w':=w24) (zd rfl rfl rfl (F24 17 rfl)) rfl F24 rfl (.bool false) (zgb _ _ rfl (F24 21 rfl)) fun _ F25=>?_
    refine wi_run (r:=lp) (fun c e=>by cases e) (w':=w24) rfl rfl F25 rfl (.bool false) (zpb rfl (F25 17 rfl) (F25 22 rfl)) fun _ F26=>?_
    refine hK12 _ _ (wpIn_cond_false (F26 23 rfl) ?_)
    refine wpIn_skip ?_
    have ko:=(others_below M10_4.below).trans ko24
    have hnc2:zsb w24 lp:=fun o2 ho2=>by rw [ko.same lp o hLo hoc] at ho2;cases ho2;exact hoc
    exact ⟨ko,fun o2=>⟨hCo X (k+1) w24 lp o2 (by omega) hnc2 hc24,re24.put o2 (by omega) (by omega)⟩⟩
   ·intro w24 a24 kf24 hs24 F24
    refine wi_run (r:=lp) (fun c e=>by cases e) (w':=w24) (zd rfl rfl rfl (F24 17 rfl)) rfl F24 rfl (.bool true) (zgb _ _ rfl (F24 21 rfl)) fun _ F27=>?_
    refine wi_run (r:=lp) (fun c e=>by cases e) (w':=w24) rfl rfl F27 rfl (.bool true) (zpb rfl (F27 17 rfl) (F27 22 rfl)) fun _ F28=>?_
    refine hK12 _ _ (wpIn_cond_true (F28 23 rfl) ?_)
    refine wpIn_ret ?_
    simp only [Exit.inBlock]
    have bq:=M10_4.below
    have kf:KeepsFrom _ Wp w24:=(KeepsOthers.from (others_below bq) _).trans kf24
    have hnc2:zsb w24 lp:=fun o2 ho2=>by rw [kf.same lp o (by omega) hLo hoc] at ho2;cases ho2;exact hoc
    exact ⟨⟨kf.size,fun k2 o2 h2 h3 h4=>kf.same k2 o2 (by omega) h3 h4⟩,fun o2=>⟨rfl,hSo w24 lp o2 (by omega) hnc2 hs24⟩⟩
 ·rintro l2 D2 o W a29 hD2 hL2 ⟨hc8,hr8⟩ hnc hdd F29
  have hle:w.heap.size≤D2:=by omega
  have hc9:=hCo X 8 W l2 o (by omega) hnc hc8
  have hr9:=hr8.put o (show l≠l2 by omega) (show D≠l2 by omega)
  have hnd:zsb (W.putObj l2 o) D2:=fun o2 h2=>by rw [hdd] at h2;cases h2;rfl
  exact bodyM_end1 F29.defers hdd (res0 rfl) ⟨⟨_,rfl⟩,.inl ⟨hr9.put _ (by omega) (by omega),_,hCo X 8 _ D2 _ hle hnd hc9⟩⟩
 ·rintro l2 D2 o c W a30 hD2 hL2 ⟨rfl,hs8⟩ hnc hdd F30
  have hle:w.heap.size≤D2:=by omega
  have hs9:=hSo W l2 o (by omega) hnc hs8
  have hnd:zsb (W.putObj l2 o) D2:=fun o2 h2=>by rw [hdd] at h2;cases h2;rfl
  refine wp_ret ?_
  exact zsc F30.defers hdd (res0 rfl) ⟨⟨_,rfl⟩,.inr (hSo _ D2 _ hle hnd hs9)⟩
theorem resCC {P:Program} {fn:Func} {p q:Tmp} {ty tz:TypeId} (h:fn.results=#[.cell p ty,.cell q tz]) {a:Act} {w:World} {g g2:Nat} {t t2:TypeId} {c:Array Value} {x:Value} {d d2:TypeDesc}
  (hp:a.eval (.tmp p)=(zO g)) (hg:w.heap[g]? = some (.cells c t (0,0))) (hq:a.eval (.tmp q)=(zO g2)) (hg2:w.heap[g2]? = some (.cells #[x] t2 (0,0))) (hu:P.underlying ty=some d) (hd:yPlain d=false) (hi:(P.info? ty).map (·.size)=some c.size) (hu2:P.underlying tz=some d2) (hd2:yPlain d2=true):(results fn a.tmps).run P w=.ok (.tuple #[.agg c,x]) w:=by
 have hp':a.tmps[p]?.getD undef=(zO g):=by simpa [Act.eval] using hp
 have hq':a.tmps[q]?.getD undef=(zO g2):=by simpa [Act.eval] using hq
 have hc:=y_cell hg2 (k:=0) (v:=x) rfl
 have h1:(isAgg tz).run P w=.ok false w:=by
  unfold isAgg
  simp only [Sem.run_bind,run_underlying hu2,Result.andThen_ok]
  cases d2 <;> first | rfl | cases hd2
 have h2:(loadVar tz ⟨g2,0,none⟩).run P w=.ok x w:=by
  simp only [loadVar,Sem.run_bind,Result.andThen_ok,h1,Bool.false_eq_true,if_false]
  simp [hc,Result.andThen]
 cases d with
 | struct fs=>simp [results,h,hp',hq',asAddr,run_loadVar_row w g t ty c (0,0) _ hg hu rfl hi,h2]
 | array n e=>simp [results,h,hp',hq',asAddr,run_loadVar_row w g t ty c (0,0) _ hg hu rfl hi,h2]
 | _=>cases hd
noncomputable def zz (V:VltN) (nm:ByteArray) (k:Nat):Bool:=zfc V (2*k)&&decide ((z0a V (2*k)).s.toList=nm.toList)
theorem namedB_no {V:VltN} {nm:ByteArray} {k:Nat} (h:zfc V (2*k)=false):zz V nm k=false:=by unfold zz;rw [h];rfl
theorem namedB_is {V:VltN} {nm:ByteArray} {k:Nat} (h:zfc V (2*k)=true) {b:Bool} (hb:decide ((z0a V (2*k)).s.toList=nm.toList)=b):zz V nm k=b:=by unfold zz;rw [h,hb];rfl
theorem accounts_ex (g:Nat) (w:World):Calls Tryz.prog 56 #[(zO g)] w fun e w'=>∃ v,e=.returned v∧∃ gb,v=.func (.func 84) #[] #[(zO gb)]∧w.heap.size≤gb∧w'.heap[gb]? = some (.cells #[(zO g)] 25 (0,0))∧Below w.heap.size w w':=
 (accounts_any g w).mono fun e w' ⟨gb,h1,h2,h3,h4⟩=>⟨_,h1,gb,rfl,h2,h3,h4⟩
theorem find_any (g:Nat) (V:VltN) (s n:Nat→Value) (hv:z1a V) (nm:ByteArray) (w:World) (h:HasV w g V s n):
  Calls Tryz.prog 49 #[(zO g),.string nm] w fun e w'=>∃ t,e=.returned t∧((∃ k,k<8∧fst8 (zz V nm)=k∧t=.tuple #[.agg #[zI ((2*k:Nat):Int),.func (.func 105) #[] #[]],.bool true])∨(fst8 (zz V nm)=8∧t=.tuple #[.agg #[zI 0,.nilFunc],.bool false]))∧Below w.heap.size w w':=by
 refine calls_fxM (args:=[(zO g),.string nm]) 18 Tryz.func49 rfl rfl rfl ?_
 intro fa F
 have M:=Mx.start w
 refine zT fun _ hK1=>zq rfl rfl F rfl M 0 (t:=9) (c:=#[.string nm]) (by unfold execOp;simp only [(F 1 rfl)];kernel_rfl) ?_
 intro g2 a2 w2 F2 M2
 refine zq rfl rfl F2 rfl M2 1 (t:=87) (c:=#[zI 0,.nilFunc]) (by unfold execOp;kernel_rfl) ?_
 intro g3 a3 w3 F3 M3
 refine zq rfl rfl F3 rfl M3 2 (t:=4) (c:=#[.bool false]) (by unfold execOp;kernel_rfl) ?_
 intro g4 a4 w4 F4 M4
 refine hK1 _ _ (zSk fun _ hK5=>zT fun _ hK6=>rm rfl F4 fun _ F7=>zh rfl rfl F7 rfl rfl (zE Tryz.func56 rfl) #[(zO g)] (zaa (F7 8 rfl)) (accounts_ex g w4) ?_)
 rintro _ w8 a8 ⟨g8,rfl,hg8,hc8,b8⟩ F8
 have M8:=M4.newb b8 3 hg8 hc8
 clear M4 hg8 hc8 b8
 refine hK6 _ _ (wp_block ?_)
 refine range_fx4 F8 (gf:=84) (lb:=#[(zO g8)]) (F8 9 rfl) (zE Tryz.func84 rfl) rfl rfl (α:=Nat×RecV×Res) (fun x=>.agg #[zI ((2*x.1:Nat):Int),.func (.func 105) #[] #[]]) (fun x=>.agg (recA (z0a V (2*x.1)) x.2.1))
  (fun x W=>(x.1<8∧zfc V (2*x.1)=true)∧(∀ W,Res.F x.2.2 W→zuc W x.2.2)∧(fst8 (zz V nm)=fstN (zz V nm) (8-x.1) x.1)∧Mx none w W [(4,zvb w.heap.size (z0a V (2*x.1)) (.agg (recA (z0a V (2*x.1)) x.2.1))),(5,x.2.2),(0,blkR g2 9 (#[.string nm])),(1,blkR g3 87 (#[zI 0,.nilFunc])),(2,blkR g4 4 (#[.bool false])),(3,blkR g8 25 (#[(zO g)]))]) (fun x W=>((∀ W,Res.F x.2.2 W→zuc W x.2.2)∧(fst8 (zz V nm)=fstN (zz V nm) (8-(x.1+1)) (x.1+1))∧Mx none w W [(5,x.2.2),(0,blkR g2 9 (#[.string nm])),(1,blkR g3 87 (#[zI 0,.nilFunc])),(2,blkR g4 4 (#[.bool false])),(3,blkR g8 25 (#[(zO g)]))])) (fun c W=>c=.ret∧∃ k,(k<8∧(fst8 (zz V nm)=k))∧Mx none w W [(1,blkR g3 87 (#[zI ((2*k:Nat):Int),.func (.func 105) #[] #[]])),(2,blkR g4 4 (#[.bool true]))]) (fun W=>∃ X,((∀ W,Res.F X W→zuc W X)∧(fst8 (zz V nm)=fstN (zz V nm) (8-8) 8)∧Mx none w W [(5,X),(0,blkR g2 9 (#[.string nm])),(1,blkR g3 87 (#[zI 0,.nilFunc])),(2,blkR g4 4 (#[.bool false])),(3,blkR g8 25 (#[(zO g)]))])) ?_ ?_ ?_ ?_
 ·intro l D o1 o2 W1 hD hL bW hrec hY
  have M1:=M8.step bW
  have hlW:=heap_ltO hrec.1
  have hle1:=M1.le
  refine accounts1_any g g8 V s n hv (fun X k W=>((∀ W,Res.F X W→zuc W X)∧(fst8 (zz V nm)=fstN (zz V nm) (8-k) k)∧Mx none w W [(5,X),(0,blkR g2 9 (#[.string nm])),(1,blkR g3 87 (#[zI 0,.nilFunc])),(2,blkR g4 4 (#[.bool false])),(3,blkR g8 25 (#[(zO g)]))])) _ l D o1 o2 W1 ?_ ?_ ?_ ?_ ?_ ?_ ?_ ?_ ?_ hrec
  ·rintro X k W ⟨hXc,hi,M⟩
   exact ⟨h.step M.below,M.blk (k:=3) rfl⟩
  ·rintro X k W ⟨hXc,hi,M⟩
   exact M.at_ 5 _ rfl
  ·rintro X k W W' ⟨hXc,hi,M⟩ hb hx hd hf hXc2
   exact ⟨hXc2,hi,(M.fresh hb 5 X hx hd hf).sub ⟨rfl,rfl,rfl,rfl,rfl,trivial⟩⟩
  ·rintro X k W W' ⟨hXc,hi,M⟩ hb
   exact ⟨hXc,hi,M.step hb⟩
  ·rintro X k W l' o hl hnc ⟨hXc,hi,M⟩
   exact ⟨hXc,hi,M.putObj ⟨hXc _ (M.at_ 5 _ rfl),zg (M.at_ 0 _ rfl),zg (M.at_ 1 _ rfl),zg (M.at_ 2 _ rfl),zg (M.at_ 3 _ rfl),trivial⟩ (by omega) hnc o⟩
  ·rintro W l' o hl hnc hS
   refine hS.put (by omega) (by omega) ?_
   rintro c ⟨hc,k,hk,M⟩
   exact ⟨hc,k,hk,M.putObj ⟨zg (M.at_ 1 _ rfl),zg (M.at_ 2 _ rfl),trivial⟩ (by omega) hnc o⟩
  ·rintro X k W hk hs ⟨hXc,hi,M⟩
   exact ⟨hXc,(fst_next hk (namedB_no hs) hi),M.sb⟩
  ·rintro X k V' W W' hk hs ⟨hXc,hi,M⟩ hb hr hlo hre
   exact hY (k,V',X) W' ⟨⟨hk,hs⟩,hXc,hi,M.newRecv hb hr hlo 4⟩ hre
  ·exact ⟨fun W _ g hg=>hg.elim,rfl,(M1.triv 5).sub ⟨rfl,rfl,rfl,rfl,rfl,trivial⟩⟩
 ·rintro l ⟨k,V',X⟩ W ra F9 hlo hlt ⟨⟨hk,hs⟩,hXc,hi,M9⟩
  replace F9:Fx 18 ra _:=F9
  dsimp only at hk hs hi M9 F9 ⊢
  have hwle:=M8.le
  obtain ⟨rk,hrk⟩:∃ x,z0a V (2*k)=x:=⟨_,rfl⟩
  rw [hrk] at M9 F9
  have CM:CellsA _ _:=(show CellsA W [(4,zvb w.heap.size rk (.agg (recA rk V'))),(5,X),(0,blkR g2 9 (#[.string nm])),(1,blkR g3 87 (#[zI 0,.nilFunc])),(2,blkR g4 4 (#[.bool false])),(3,blkR g8 25 (#[(zO g)]))] from ⟨zub (M9.at_ 4 _ rfl),hXc _ (M9.at_ 5 _ rfl),zg (M9.at_ 0 _ rfl),zg (M9.at_ 1 _ rfl),zg (M9.at_ 2 _ rfl),zg (M9.at_ 3 _ rfl),trivial⟩)
  replace M9:Mx none w W [(4,zvb w.heap.size rk (.agg (recA rk V'))),(5,X),(0,blkR g2 9 (#[.string nm])),(1,blkR g3 87 (#[zI 0,.nilFunc])),(2,blkR g4 4 (#[.bool false])),(3,blkR g8 25 (#[(zO g)]))]:=M9
  have N9:=M9.oth CM 8
  clear CM M9
  obtain ⟨be,hbe⟩:∃ x,decide (rk.s.toList=nm.toList)=x:=⟨_,rfl⟩
  have hpk:zz V nm k=be:=namedB_is hs (by rw [hrk];exact hbe)
  refine wpIn_seq_k fun K10 hK10=>?_
  refine wpIn_lit' (fun ⟨_,_,h⟩=>h) rfl ?_
  refine zq rfl rfl F9 rfl N9 9 (t:=87) (c:=#[zI 0,.nilFunc]) (by unfold execOp;kernel_rfl) ?_
  intro g11 a11 w11 F11 M11
  clear F9 N9
  refine zt rfl rfl F11 M11 (k:=9) rfl _ _ _ rfl (F11 6 rfl) (F11 10 rfl) (#[zI ((2*k:Nat):Int),.func (.func 105) #[] #[]]) _ rfl (zL rfl) (by first | rfl | simp [Value.oneCell']) (zca rfl) (by kernel_rfl) ?_
  intro w12 M12
  refine hK10 _ _ (wpIn_lit' (fun ⟨_,_,h⟩=>h) rfl ?_)
  refine zq rfl rfl F11 rfl M12 10 (t:=37) (c:=recA ⟨0, "".toUTF8,[],0,0,[],0,0,0⟩ ⟨zN,zN⟩) (by unfold execOp;kernel_rfl) ?_
  intro g13 a13 w13 F13 M13
  refine zt rfl rfl F13 M13 (k:=10) rfl _ _ _ rfl (F13 7 rfl) (F13 11 rfl) (recA rk V') _ rfl (zL rfl) (z6a (recv_is (M13.at_ 4 _ rfl))) (zca rfl) (by kernel_rfl) ?_
  intro w14 M14
  refine ⟨M14.keeps (i:=8) rfl,fun o hnc hoc=>?_⟩
  have hlz:l<w14.heap.size:=Nat.lt_of_lt_of_le hlt (M14.keeps (i:=8) rfl).size
  have M15:Mx none w w14 [(4,zvb w.heap.size rk (.agg (recA rk V'))),(5,X),(0,blkR g2 9 (#[.string nm])),(1,blkR g3 87 (#[zI 0,.nilFunc])),(2,blkR g4 4 (#[.bool false])),(3,blkR g8 25 (#[(zO g)])),(9,blkR g11 87 (#[zI ((2*k:Nat):Int),.func (.func 105) #[] #[]])),(10,blkR g13 37 (recA rk V'))]:=M14.sb
  have CM:CellsA _ _:=(show CellsA w14 [(4,zvb w.heap.size rk (.agg (recA rk V'))),(5,X),(0,blkR g2 9 (#[.string nm])),(1,blkR g3 87 (#[zI 0,.nilFunc])),(2,blkR g4 4 (#[.bool false])),(3,blkR g8 25 (#[(zO g)])),(9,blkR g11 87 (#[zI ((2*k:Nat):Int),.func (.func 105) #[] #[]])),(10,blkR g13 37 (recA rk V'))] from ⟨zub (M15.at_ 4 _ rfl),hXc _ (M15.at_ 5 _ rfl),zg (M15.at_ 0 _ rfl),zg (M15.at_ 1 _ rfl),zg (M15.at_ 2 _ rfl),zg (M15.at_ 3 _ rfl),zg (M15.at_ 9 _ rfl),zg (M15.at_ 10 _ rfl),trivial⟩)
  have N15:=M15.putObj CM (by omega) hnc o
  have hLo:(w14.putObj l o).heap[l]? = some o:=World.putObj_heap_same hlz
  clear CM M15
  obtain ⟨Wp,hWp⟩:∃ x,x=w14.putObj l o:=⟨_,rfl⟩
  rw [←hWp] at N15 hLo ⊢
  have CM:CellsA _ _:=(show CellsA Wp [(4,zvb w.heap.size rk (.agg (recA rk V'))),(5,X),(0,blkR g2 9 (#[.string nm])),(1,blkR g3 87 (#[zI 0,.nilFunc])),(2,blkR g4 4 (#[.bool false])),(3,blkR g8 25 (#[(zO g)])),(9,blkR g11 87 (#[zI ((2*k:Nat):Int),.func (.func 105) #[] #[]])),(10,blkR g13 37 (recA rk V'))] from ⟨zub (N15.at_ 4 _ rfl),hXc _ (N15.at_ 5 _ rfl),zg (N15.at_ 0 _ rfl),zg (N15.at_ 1 _ rfl),zg (N15.at_ 2 _ rfl),zg (N15.at_ 3 _ rfl),zg (N15.at_ 9 _ rfl),zg (N15.at_ 10 _ rfl),trivial⟩)
  have P15:=N15.oth CM 6
  clear CM N15
  refine wpIn_block ?_
  refine wpIn_seq_k fun K16 hK16=>?_
  refine wpIn_lit' (fun ⟨_,_,h⟩=>h) rfl ?_
  refine zAx 3 [(12,(zP g13 1)),(13,.string rk.s),(14,.string nm)] [0,1] (zu (P15.blk (k:=10) rfl) (zu (P15.blk (k:=0) rfl) dnil)) [g13,g2] F13 fun _ F17=>?_
  refine zc (w':=Wp) rfl rfl F17 rfl (.bool be) (y_eqS _ _ _ rfl (F17 13 rfl) (F17 14 rfl) hbe) fun _ F18=>?_
  refine hK16 _ _ ?_
  cases be
  ·refine wpIn_cond_false (F18 15 rfl) ?_
   refine wpIn_skip ?_
   have KO:=P15.keeps (i:=6) rfl
   have Me:Mx none w Wp [(5,X),(0,blkR g2 9 (#[.string nm])),(1,blkR g3 87 (#[zI 0,.nilFunc])),(2,blkR g4 4 (#[.bool false])),(3,blkR g8 25 (#[(zO g)]))]:=P15.sub ⟨rfl,rfl,rfl,rfl,rfl,trivial⟩
   have CM:CellsA _ _:=(show CellsA Wp [(5,X),(0,blkR g2 9 (#[.string nm])),(1,blkR g3 87 (#[zI 0,.nilFunc])),(2,blkR g4 4 (#[.bool false])),(3,blkR g8 25 (#[(zO g)]))] from ⟨hXc _ (Me.at_ 5 _ rfl),zg (Me.at_ 0 _ rfl),zg (Me.at_ 1 _ rfl),zg (Me.at_ 2 _ rfl),zg (Me.at_ 3 _ rfl),trivial⟩)
   exact ⟨KO,fun o2=>⟨hXc,(fst_next hk hpk hi),Me.putObj CM (by omega) (fun o3 h3=>by rw [KO.same l o hLo hoc] at h3;cases h3;exact hoc) o2⟩⟩
  ·refine wpIn_cond_true (F18 15 rfl) ?_
   refine wpIn_seq_k fun K20 hK20=>?_
   refine wpIn_lit' (fun ⟨_,_,h⟩=>h) rfl ?_
   refine zc (w':=Wp) rfl rfl F18 rfl _ (zjb _ _ rfl (F18 6 rfl) (P15.blk (k:=9) rfl) (#[zI ((2*k:Nat):Int),.func (.func 105) #[] #[]]) (znb rfl) Tryz.underlying87 rfl (by kernel_rfl)) fun _ F21=>?_
   refine zt rfl rfl F21 P15 (k:=1) rfl _ _ _ rfl (F21 4 rfl) (F21 16 rfl) (#[zI ((2*k:Nat):Int),.func (.func 105) #[] #[]]) _ rfl (zL rfl) (by first | rfl | simp [Value.oneCell']) (zca rfl) (by kernel_rfl) ?_
   intro w22 M22
   clear P15
   refine zt rfl rfl F21 M22 (k:=2) rfl _ _ _ rfl (F21 5 rfl) rfl (#[.bool true]) _ rfl (zL rfl) (by simp [Value.oneCell']) (zca rfl) (by kernel_rfl) ?_
   intro w23 M23
   refine hK20 _ _ (wpIn_ret ?_)
   simp only [Exit.inBlock]
   subst hrk
   have KO:=M23.keeps (i:=6) rfl
   have Me:Mx none w w23 [(1,blkR g3 87 (#[zI ((2*k:Nat):Int),.func (.func 105) #[] #[]])),(2,blkR g4 4 (#[.bool true]))]:=M23.sb
   have CM:CellsA _ _:=(show CellsA w23 [(1,blkR g3 87 (#[zI ((2*k:Nat):Int),.func (.func 105) #[] #[]])),(2,blkR g4 4 (#[.bool true]))] from ⟨zg (Me.at_ 1 _ rfl),zg (Me.at_ 2 _ rfl),trivial⟩)
   exact ⟨KO.from _,fun o2=>⟨rfl,k,⟨hk,(fst_here hk hpk hi)⟩,Me.putObj CM (by omega) (fun o3 h3=>by rw [KO.same l o hLo hoc] at h3;cases h3;exact hoc) o2⟩⟩
 ·rintro l D o W a24 hD hL ⟨X,hXc,hi,M24⟩ hnc hdd F24
  replace M24:Mx none w W [(0,blkR g2 9 (#[.string nm])),(1,blkR g3 87 (#[zI 0,.nilFunc])),(2,blkR g4 4 (#[.bool false])),(3,blkR g8 25 (#[(zO g)]))]:=M24.sb
  have hwle:=M8.le
  have CM:CellsA W [(0,blkR g2 9 (#[.string nm])),(1,blkR g3 87 (#[zI 0,.nilFunc])),(2,blkR g4 4 (#[.bool false])),(3,blkR g8 25 (#[(zO g)]))]:=⟨zg (M24.at_ 0 _ rfl),zg (M24.at_ 1 _ rfl),zg (M24.at_ 2 _ rfl),zg (M24.at_ 3 _ rfl),trivial⟩
  replace M24:=M24.putObj CM (by omega) hnc o
  clear CM
  have CM:CellsA (W.putObj l o) [(0,blkR g2 9 (#[.string nm])),(1,blkR g3 87 (#[zI 0,.nilFunc])),(2,blkR g4 4 (#[.bool false])),(3,blkR g8 25 (#[(zO g)]))]:=⟨zg (M24.at_ 0 _ rfl),zg (M24.at_ 1 _ rfl),zg (M24.at_ 2 _ rfl),zg (M24.at_ 3 _ rfl),trivial⟩
  replace M24:=M24.obj CM 7 D _ hdd rfl
  clear CM
  have hDge:w.heap.size≤D:=by omega
  clear hdd hnc hL hD
  obtain ⟨w24,hw24⟩:∃ x,x=W.putObj l o:=⟨_,rfl⟩
  rw [←hw24] at M24 ⊢
  clear hw24 F8 M8
  refine hK5 _ _ (zT fun _ hK25=>zc (w':=w24) rfl rfl F24 rfl (.agg (#[zI 0,.nilFunc])) (by unfold execOp;kernel_rfl) fun _ F26=>?_)
  refine zt rfl rfl F26 M24 (k:=1) rfl _ _ _ rfl (F26 4 rfl) (F26 17 rfl) (#[zI 0,.nilFunc]) _ rfl (zL rfl) (by first | rfl | simp [Value.oneCell']) (zca rfl) (by kernel_rfl) ?_
  intro w27 M27
  refine zt rfl rfl F26 M27 (k:=2) rfl _ _ _ rfl (F26 5 rfl) rfl (#[.bool false]) _ rfl (zL rfl) (by simp [Value.oneCell']) (zca rfl) (by kernel_rfl) ?_
  intro w28 M28
  refine hK25 _ _ (wp_ret ?_)
  have hDD:=M28.anObj (i:=7) rfl
  have M9:Mx none w w28 [(0,blkR g2 9 (#[.string nm])),(1,blkR g3 87 (#[zI 0,.nilFunc])),(2,blkR g4 4 (#[.bool false])),(3,blkR g8 25 (#[(zO g)]))]:=M28.sb
  have Mz:=M9.putObj (show CellsA w28 [(0,blkR g2 9 (#[.string nm])),(1,blkR g3 87 (#[zI 0,.nilFunc])),(2,blkR g4 4 (#[.bool false])),(3,blkR g8 25 (#[(zO g)]))] from ⟨zg (M9.at_ 0 _ rfl),zg (M9.at_ 1 _ rfl),zg (M9.at_ 2 _ rfl),zg (M9.at_ 3 _ rfl),trivial⟩) hDge (fun o3 h3=>by rw [hDD] at h3;cases h3;rfl) (.deferred none)
  exact zsc F26.defers hDD (resCC rfl (F26 4 rfl) (Mz.blk (k:=1) rfl) (F26 5 rfl) (Mz.blk (k:=2) rfl) Tryz.underlying87 rfl (by kernel_rfl) Tryz.underlying4 rfl) ⟨_,rfl,.inr ⟨hi,rfl⟩,Mz.below⟩
 ·rintro l D o c W a29 hD hL ⟨rfl,k,⟨hk,hi⟩,M29⟩ hnc hdd F29
  have hwle:=M8.le
  have CM:CellsA W [(1,blkR g3 87 (#[zI ((2*k:Nat):Int),.func (.func 105) #[] #[]])),(2,blkR g4 4 (#[.bool true]))]:=⟨zg (M29.at_ 1 _ rfl),zg (M29.at_ 2 _ rfl),trivial⟩
  replace M29:=M29.putObj CM (by omega) hnc o
  clear CM
  have CM:CellsA (W.putObj l o) [(1,blkR g3 87 (#[zI ((2*k:Nat):Int),.func (.func 105) #[] #[]])),(2,blkR g4 4 (#[.bool true]))]:=⟨zg (M29.at_ 1 _ rfl),zg (M29.at_ 2 _ rfl),trivial⟩
  replace M29:=M29.obj CM 7 D _ hdd rfl
  clear CM
  have hDge:w.heap.size≤D:=by omega
  clear hdd hnc hL hD
  obtain ⟨w29,hw29⟩:∃ x,x=W.putObj l o:=⟨_,rfl⟩
  rw [←hw29] at M29 ⊢
  clear hw29 F8 M8
  refine wp_ret ?_
  have hDD:=M29.anObj (i:=7) rfl
  have M9:Mx none w w29 [(1,blkR g3 87 (#[zI ((2*k:Nat):Int),.func (.func 105) #[] #[]])),(2,blkR g4 4 (#[.bool true]))]:=M29.sb
  have Mz:=M9.putObj (show CellsA w29 [(1,blkR g3 87 (#[zI ((2*k:Nat):Int),.func (.func 105) #[] #[]])),(2,blkR g4 4 (#[.bool true]))] from ⟨zg (M9.at_ 1 _ rfl),zg (M9.at_ 2 _ rfl),trivial⟩) hDge (fun o3 h3=>by rw [hDD] at h3;cases h3;rfl) (.deferred none)
  exact zsc F29.defers hDD (resCC rfl (F29 4 rfl) (Mz.blk (k:=1) rfl) (F29 5 rfl) (Mz.blk (k:=2) rfl) Tryz.underlying87 rfl (by kernel_rfl) Tryz.underlying4 rfl) ⟨_,rfl,.inl ⟨k,hk,hi,rfl⟩,Mz.below⟩
end Go.Proofs.YtmjbnmbobocpdaaGreat
