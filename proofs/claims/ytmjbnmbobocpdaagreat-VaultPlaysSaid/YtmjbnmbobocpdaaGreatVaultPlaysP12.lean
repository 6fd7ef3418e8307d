/- What VaultPlays stands on, part 12. -/
import Derived.Test.YtmjbnmbobocpdaaGreatVaultPlaysP1
import Derived.Test.YtmjbnmbobocpdaaGreatVaultPlaysP2
import Derived.Test.YtmjbnmbobocpdaaGreatVaultPlaysP3
import Derived.Test.YtmjbnmbobocpdaaGreatVaultPlaysP4
import Derived.Test.YtmjbnmbobocpdaaGreatVaultPlaysP5
import Derived.Test.YtmjbnmbobocpdaaGreatVaultPlaysP6
import Derived.Test.YtmjbnmbobocpdaaGreatVaultPlaysP7
import Derived.Test.YtmjbnmbobocpdaaGreatVaultPlaysP8
import Derived.Test.YtmjbnmbobocpdaaGreatVaultPlaysP9
import Derived.Test.YtmjbnmbobocpdaaGreatVaultPlaysP10
import Derived.Test.YtmjbnmbobocpdaaGreatVaultPlaysP11
set_option maxRecDepth 100000
set_option maxHeartbeats 8000000
set_option linter.unusedVariables false
set_option linter.unusedSimpArgs false
namespace Go.Proofs.YtmjbnmbobocpdaaGreat
open Go.ChangeShapes Go.WideShapes Go.ChangeAt Go.RowKit
theorem put_dead (g:Nat) (V:VltN) (s n:Nat→Value) (hv:z2a V) (r:RecN) (Vr:RecV) (hd:V.dd=true) (w:World) (hR:RecIs w r Vr) (hRg:¬bfp Vr.v2 g∧¬bfp Vr.v5 g) (hr:RowsV w g V.c s n) (hg:w.heap[g]? = some (.cells (vltA V s n) 80 (0,0))):
  Calls Tryz.prog 22 #[(zO g),.agg (recA r Vr)] w fun e w'=>∃ t,e=.returned t∧t=zI 10∧∃ s' n',RowsV w' g (V).c s' n'∧(∀ b,zo 18 s' n' b→zo 18 s n b∨w.heap.size≤b)∧w'.heap[g]? = some (.cells (vltA (V) s' n') 80 (0,0))∧w.grownBy w' (some g):=by
 skip
 refine zk (args:=[(zO g),.agg (recA r Vr)]) 40 Tryz.func22 rfl rfl rfl ?_
 intro fa F
 have M:=Mx.theG hg 0
 refine zT fun _ hK1=>zq rfl rfl F rfl M 1 (t:=37) (c:=recA r Vr) (by unfold execOp;simp only [(F 1 rfl)];kernel_rfl) ?_
 intro g2 a2 w2 F2 M2
 refine rm rfl F2 fun _ F3=>hK1 _ _ (zSk fun _ hK4=>zT fun _ hK5=>zB 4 [(0,(zO g)),(3,(zO g2)),(4,zI 0),(11,(zP g 56))] [] dnil [] F3 fun _ F6=>?_)
 refine zc (w':=w2) rfl rfl F6 rfl (.bool true) (zha _ _ rfl (F6 11 rfl) (M2.blk (k:=0) rfl) (show _=some (Value.bool _) from by rw [←hd];rfl) Tryz.underlying4 rfl) fun _ F7=>?_
 refine hK5 _ _ (wp_cond_true (F7 12 rfl) (zT fun _ hK8=>rm rfl F7 fun _ F9=>hK8 _ _ (wp_ret ?_)))
 try simp only [Exit.then,Exit.inBlock,Exit.jump]
 exact bodyPost_ret (res1 rfl (F9.get rfl)) F9.defers ⟨_,rfl,rfl,s,n,hr.grow M2.grown,fun b h=>.inl h,M2.blk (k:=0) rfl,M2.grown⟩
theorem put_range (g:Nat) (V:VltN) (s n:Nat→Value) (hv:z2a V) (r:RecN) (Vr:RecV) (ho:RecOk r) (hd:V.dd=false) (l:List UInt8) (hrl:recE r=l) (hkeep:zia r=false) (w:World) (hR:RecIs w r Vr) (hRg:¬bfp Vr.v2 g∧¬bfp Vr.v5 g) (hr:RowsV w g V.c s n) (hg:w.heap[g]? = some (.cells (vltA V s n) 80 (0,0))):
  Calls Tryz.prog 22 #[(zO g),.agg (recA r Vr)] w fun e w'=>∃ t,e=.returned t∧t=zI 11∧∃ s' n',RowsV w' g (V).c s' n'∧(∀ b,zo 18 s' n' b→zo 18 s n b∨w.heap.size≤b)∧w'.heap[g]? = some (.cells (vltA (V) s' n') 80 (0,0))∧w.grownBy w' (some g):=by
 skip
 refine zk (args:=[(zO g),.agg (recA r Vr)]) 40 Tryz.func22 rfl rfl rfl ?_
 intro fa F
 have M:=Mx.theG hg 0
 have hkp:zia r=false:=hkeep
 refine zT fun _ hK1=>zq rfl rfl F rfl M 1 (t:=37) (c:=recA r Vr) (by unfold execOp;simp only [(F 1 rfl)];kernel_rfl) ?_
 intro g2 a2 w2 F2 M2
 refine rm rfl F2 fun _ F3=>hK1 _ _ (zSk fun _ hK4=>zT fun _ hK5=>zB 4 [(0,(zO g)),(3,(zO g2)),(4,zI 0),(11,(zP g 56))] [] dnil [] F3 fun _ F6=>?_)
 refine zc (w':=w2) rfl rfl F6 rfl (.bool false) (zha _ _ rfl (F6 11 rfl) (M2.blk (k:=0) rfl) (show _=some (Value.bool _) from by rw [←hd];rfl) Tryz.underlying4 rfl) fun _ F7=>?_
 refine hK5 _ _ (wp_cond_false (F7 12 rfl) (wp_skip (hK4 _ _ (zT fun _ hK8=>zc (w':=w2) rfl rfl F7 rfl _ (zdb _ _ rfl (F7 3 rfl) (M2.blk (k:=1) rfl) (recA r Vr) (zib rfl) Tryz.underlying37 rfl (by kernel_rfl)) fun _ F9=>?_))))
 refine zh rfl rfl F9 rfl rfl (zE Tryz.func48 rfl) #[.agg (recA r Vr)] (zca (F9 14 rfl)) (rec_is r Vr ho false l hkp hrl w2 ⟨hR.h2.grow M2.grown hRg.1,hR.h5.grow M2.grown hRg.2⟩) ?_
 rintro _ w10 a10 ⟨v10,rfl,hv10,b10⟩ F10
 have M10:=M2.newO b10 2 hv10
 clear M2 b10 hv10
 obtain ⟨A10,c10,rfl⟩:=(M10.isO (k:=2) rfl).shape
 refine zB 5 [(0,(zO g)),(3,(zO g2)),(4,zI 0),(5,.slice A10 (l).length c10),(6,.bool false)] [] dnil [] F10 fun _ F11=>?_
 refine hK8 _ _ (zSk fun _ hK12=>zT fun _ hK13=>zAx 2 [(18,.bool false),(19,.bool true)] [] dnil [] F11 fun _ F14=>?_)
 refine hK13 _ _ (wp_cond_true (F14 19 rfl) (zT fun _ hK15=>rm rfl F14 fun _ F16=>hK15 _ _ (wp_ret ?_)))
 try simp only [Exit.then,Exit.inBlock,Exit.jump]
 exact bodyPost_ret (res1 rfl (F16.get rfl)) F16.defers ⟨_,rfl,rfl,s,n,hr.grow M10.grown,fun b h=>.inl h,M10.blk (k:=0) rfl,M10.grown⟩
theorem put_found (g:Nat) (V:VltN) (s n:Nat→Value) (hv:z2a V) (r:RecN) (Vr:RecV) (ho:RecOk r) (hd:V.dd=false) (l:List UInt8) (hrl:recE r=l) (hkeep:zia r=true) (hll:l.length≤1000) (k:Nat) (hk:fst8 (zba V r.s)=k) (h8:k<8) (ht:anyB zr V (2*k)=true → -9223372036854775808≤cntT V (2*k)∧cntT V (2*k)<9223372036854775807) (w:World) (hR:RecIs w r Vr) (hRg:¬bfp Vr.v2 g∧¬bfp Vr.v5 g) (hr:RowsV w g V.c s n) (hg:w.heap[g]? = some (.cells (vltA V s n) 80 (0,0))):
  Calls Tryz.prog 22 #[(zO g),.agg (recA r Vr)] w fun e w'=>∃ t,e=.returned t∧t=zI (if (sayW V (2*k) l).2=true then 0 else 10)∧∃ s' n',RowsV w' g ((sayW V (2*k) l).1).c s' n'∧(∀ b,zo 18 s' n' b→zo 18 s n b∨w.heap.size≤b)∧w'.heap[g]? = some (.cells (vltA ((sayW V (2*k) l).1) s' n') 80 (0,0))∧w.grownBy w' (some g):=by
 skip
 refine zk (args:=[(zO g),.agg (recA r Vr)]) 40 Tryz.func22 rfl rfl rfl ?_
 intro fa F
 have M:=Mx.theG hg 0
 have hkp:zia r=true:=hkeep
 refine zT fun _ hK1=>zq rfl rfl F rfl M 1 (t:=37) (c:=recA r Vr) (by unfold execOp;simp only [(F 1 rfl)];kernel_rfl) ?_
 intro g2 a2 w2 F2 M2
 refine rm rfl F2 fun _ F3=>hK1 _ _ (zSk fun _ hK4=>zT fun _ hK5=>zB 4 [(0,(zO g)),(3,(zO g2)),(4,zI 0),(11,(zP g 56))] [] dnil [] F3 fun _ F6=>?_)
 refine zc (w':=w2) rfl rfl F6 rfl (.bool false) (zha _ _ rfl (F6 11 rfl) (M2.blk (k:=0) rfl) (show _=some (Value.bool _) from by rw [←hd];rfl) Tryz.underlying4 rfl) fun _ F7=>?_
 refine hK5 _ _ (wp_cond_false (F7 12 rfl) (wp_skip (hK4 _ _ (zT fun _ hK8=>zc (w':=w2) rfl rfl F7 rfl _ (zdb _ _ rfl (F7 3 rfl) (M2.blk (k:=1) rfl) (recA r Vr) (zib rfl) Tryz.underlying37 rfl (by kernel_rfl)) fun _ F9=>?_))))
 refine zh rfl rfl F9 rfl rfl (zE Tryz.func48 rfl) #[.agg (recA r Vr)] (zca (F9 14 rfl)) (rec_is r Vr ho true l hkp hrl w2 ⟨hR.h2.grow M2.grown hRg.1,hR.h5.grow M2.grown hRg.2⟩) ?_
 rintro _ w10 a10 ⟨v10,rfl,hv10,b10⟩ F10
 have M10:=M2.newO b10 2 hv10
 clear M2 b10 hv10
 obtain ⟨A10,c10,rfl⟩:=(M10.isO (k:=2) rfl).shape
 refine zB 5 [(0,(zO g)),(3,(zO g2)),(4,zI 0),(5,.slice A10 (l).length c10),(6,.bool true)] [] dnil [] F10 fun _ F11=>?_
 refine hK8 _ _ (zSk fun _ hK12=>zT fun _ hK13=>zAx 2 [(18,.bool true),(19,.bool false)] [] dnil [] F11 fun _ F14=>?_)
 refine hK13 _ _ (wp_cond_false (F14 19 rfl) (wp_skip (hK12 _ _ (zT fun _ hK15=>zAx 3 [(21,(zO g)),(22,(zP g2 1)),(23,.string r.s)] [0] (zx (M10.blk (k:=1) rfl) dnil) [g2] F14 fun _ F16=>?_))))
 refine zh rfl rfl F16 rfl rfl (zE Tryz.func49 rfl) #[(zO g),.string r.s] (zea (F16 21 rfl) (F16 23 rfl)) (zda ((find_yes g V s n hv r.s k hk h8 w10 (HasV.of (M10.blk (k:=0) rfl) (hr.grow M10.grown))))) ?_
 rintro _ w17 a17 ⟨rfl,b17⟩ F17
 have M17:=M10.step b17
 refine rm rfl F17 fun _ F18=>zAx 2 [(25,.agg (#[zI ((2*k:Nat):Int),.func (.func 105) #[] #[]])),(26,.bool true)] [] dnil [] F18 fun _ F19=>?_
 refine zq rfl rfl F19 rfl M17 3 (t:=87) (c:=#[zI 0,.nilFunc]) (by unfold execOp;kernel_rfl) ?_
 intro g20 a20 w20 F20 M20
 refine zt rfl rfl F20 M20 (k:=3) rfl _ _ _ rfl (F20 7 rfl) (F20 25 rfl) (#[zI ((2*k:Nat):Int),.func (.func 105) #[] #[]]) _ rfl (zL rfl) (by first | rfl | simp [Value.oneCell']) (zfa rfl) (by kernel_rfl) ?_
 intro w21 M21
 refine rm rfl F20 fun _ F22=>hK15 _ _ (zSk fun _ hK23=>zT fun _ hK24=>zAx 2 [(27,.bool true),(28,.bool false)] [] dnil [] F22 fun _ F25=>?_)
 refine hK24 _ _ (wp_cond_false (F25 28 rfl) (wp_skip (hK23 _ _ (zSk fun _ hK26=>zT fun _ hK27=>zAx 2 [(34,.bool true),(35,.bool false)] [] dnil [] F25 fun _ F28=>?_))))
 refine hK27 _ _ (wp_cond_false (F28 35 rfl) (wp_skip (hK26 _ _ (zT fun _ hK29=>rm rfl F28 fun _ F30=>zc (w':=w21) rfl rfl F30 rfl _ (zdb _ _ rfl (F30 7 rfl) (M21.blk (k:=3) rfl) (#[zI ((2*k:Nat):Int),.func (.func 105) #[] #[]]) (zib rfl) Tryz.underlying87 rfl (by kernel_rfl)) fun _ F31=>?_))))
 refine rm rfl F31 fun _ F32=>zh rfl rfl F32 rfl rfl (zE Tryz.func51 rfl) #[(zO g),.agg (#[zI ((2*k:Nat):Int),.func (.func 105) #[] #[]]),.slice A10 (l).length c10] (args3 (F32 36 rfl) (F32 37 rfl) (F32 38 rfl)) (vwrite_any g V s n hv k h8 l (.slice A10 (l).length c10) hll ht w21 (M21.isO (k:=2) rfl) (fun h=>M21.dis 0 2 _ _ rfl rfl (by decide) rfl g rfl (z1a h)) (hr.grow M21.grown) (M21.blk (k:=0) rfl)) ?_
 rintro _ w33 a33 ⟨rfl,s33,n33,hr33,ht33,hc33,hg33⟩ F33
 have M33:=M21.put (k:=0) rfl hg33 hc33
 exact rm rfl F33 fun _ F34=>hK29 _ _ (wp_ret (bodyPost_ret (res1 rfl (F34.get rfl)) F34.defers ⟨_,rfl,rfl,s33,n33,hr33,(fun b hb=>(ht33 b hb).imp id (fun hb=>Nat.le_trans M21.le hb)),hc33,M21.grown.trans hg33⟩))
theorem put_none (g:Nat) (V:VltN) (s n:Nat→Value) (hv:z2a V) (r:RecN) (Vr:RecV) (ho:RecOk r) (hd:V.dd=false) (l:List UInt8) (hrl:recE r=l) (hkeep:zia r=true) (hk:fst8 (zba V r.s)=8) (hf:fst8 (fun i=>zwa V (2*i))=8) (w:World) (hR:RecIs w r Vr) (hRg:¬bfp Vr.v2 g∧¬bfp Vr.v5 g) (hr:RowsV w g V.c s n) (hg:w.heap[g]? = some (.cells (vltA V s n) 80 (0,0))):
  Calls Tryz.prog 22 #[(zO g),.agg (recA r Vr)] w fun e w'=>∃ t,e=.returned t∧t=zI 7∧∃ s' n',RowsV w' g (V).c s' n'∧(∀ b,zo 18 s' n' b→zo 18 s n b∨w.heap.size≤b)∧w'.heap[g]? = some (.cells (vltA (V) s' n') 80 (0,0))∧w.grownBy w' (some g):=by
 skip
 refine zk (args:=[(zO g),.agg (recA r Vr)]) 40 Tryz.func22 rfl rfl rfl ?_
 intro fa F
 have M:=Mx.theG hg 0
 have hkp:zia r=true:=hkeep
 refine zT fun _ hK1=>zq rfl rfl F rfl M 1 (t:=37) (c:=recA r Vr) (by unfold execOp;simp only [(F 1 rfl)];kernel_rfl) ?_
 intro g2 a2 w2 F2 M2
 refine rm rfl F2 fun _ F3=>hK1 _ _ (zSk fun _ hK4=>zT fun _ hK5=>zB 4 [(0,(zO g)),(3,(zO g2)),(4,zI 0),(11,(zP g 56))] [] dnil [] F3 fun _ F6=>?_)
 refine zc (w':=w2) rfl rfl F6 rfl (.bool false) (zha _ _ rfl (F6 11 rfl) (M2.blk (k:=0) rfl) (show _=some (Value.bool _) from by rw [←hd];rfl) Tryz.underlying4 rfl) fun _ F7=>?_
 refine hK5 _ _ (wp_cond_false (F7 12 rfl) (wp_skip (hK4 _ _ (zT fun _ hK8=>zc (w':=w2) rfl rfl F7 rfl _ (zdb _ _ rfl (F7 3 rfl) (M2.blk (k:=1) rfl) (recA r Vr) (zib rfl) Tryz.underlying37 rfl (by kernel_rfl)) fun _ F9=>?_))))
 refine zh rfl rfl F9 rfl rfl (zE Tryz.func48 rfl) #[.agg (recA r Vr)] (zca (F9 14 rfl)) (rec_is r Vr ho true l hkp hrl w2 ⟨hR.h2.grow M2.grown hRg.1,hR.h5.grow M2.grown hRg.2⟩) ?_
 rintro _ w10 a10 ⟨v10,rfl,hv10,b10⟩ F10
 have M10:=M2.newO b10 2 hv10
 clear M2 b10 hv10
 obtain ⟨A10,c10,rfl⟩:=(M10.isO (k:=2) rfl).shape
 refine zB 5 [(0,(zO g)),(3,(zO g2)),(4,zI 0),(5,.slice A10 (l).length c10),(6,.bool true)] [] dnil [] F10 fun _ F11=>?_
 refine hK8 _ _ (zSk fun _ hK12=>zT fun _ hK13=>zAx 2 [(18,.bool true),(19,.bool false)] [] dnil [] F11 fun _ F14=>?_)
 refine hK13 _ _ (wp_cond_false (F14 19 rfl) (wp_skip (hK12 _ _ (zT fun _ hK15=>zAx 3 [(21,(zO g)),(22,(zP g2 1)),(23,.string r.s)] [0] (zx (M10.blk (k:=1) rfl) dnil) [g2] F14 fun _ F16=>?_))))
 refine zh rfl rfl F16 rfl rfl (zE Tryz.func49 rfl) #[(zO g),.string r.s] (zea (F16 21 rfl) (F16 23 rfl)) (zda ((find_not g V s n hv r.s hk w10 (HasV.of (M10.blk (k:=0) rfl) (hr.grow M10.grown))))) ?_
 rintro _ w17 a17 ⟨rfl,b17⟩ F17
 have M17:=M10.step b17
 refine zB 3 [(0,(zO g)),(4,zI 0),(5,.slice A10 (l).length c10),(6,.bool true),(25,.agg (#[zI 0,.nilFunc])),(26,.bool false)] [] dnil [] F17 fun _ F18=>?_
 refine zq rfl rfl F18 rfl M17 3 (t:=87) (c:=#[zI 0,.nilFunc]) (by unfold execOp;kernel_rfl) ?_
 intro g19 a19 w19 F19 M19
 refine zt rfl rfl F19 M19 (k:=3) rfl _ _ _ rfl (F19 7 rfl) (F19 25 rfl) (#[zI 0,.nilFunc]) _ rfl (zL rfl) (by first | rfl | simp [Value.oneCell']) (zfa rfl) (by kernel_rfl) ?_
 intro w20 M20
 refine rm rfl F19 fun _ F21=>hK15 _ _ (zSk fun _ hK22=>zT fun _ hK23=>zAx 2 [(27,.bool false),(28,.bool true)] [] dnil [] F21 fun _ F24=>?_)
 refine hK23 _ _ (wp_cond_true (F24 28 rfl) (zR (rm rfl F24 fun _ F25=>zh rfl rfl F25 rfl rfl (zE Tryz.func50 rfl) #[(zO g)] (zca (F25 30 rfl)) (zda ((free_not g V s n hv hf w20 (HasV.of (M20.blk (k:=0) rfl) (hr.grow M20.grown))))) ?_)))
 rintro _ w26 a26 ⟨rfl,b26⟩ F26
 have M26:=M20.step b26
 refine zAx 3 [(29,.tuple #[.agg (#[zI 0,.nilFunc]),.bool false]),(32,.agg (#[zI 0,.nilFunc])),(33,.bool false)] [] dnil [] F26 fun _ F27=>?_
 refine zt rfl rfl F27 M26 (k:=3) rfl _ _ _ rfl (F27 7 rfl) (F27 32 rfl) (#[zI 0,.nilFunc]) _ rfl (zL rfl) (by first | rfl | simp [Value.oneCell']) (zfa rfl) (by kernel_rfl) ?_
 intro w28 M28
 refine rm rfl F27 fun _ F29=>hK22 _ _ (zSk fun _ hK30=>zT fun _ hK31=>zAx 2 [(34,.bool false),(35,.bool true)] [] dnil [] F29 fun _ F32=>?_)
 refine hK31 _ _ (wp_cond_true (F32 35 rfl) (zT fun _ hK33=>rm rfl F32 fun _ F34=>hK33 _ _ (wp_ret ?_)))
 try simp only [Exit.then,Exit.inBlock,Exit.jump]
 exact bodyPost_ret (res1 rfl (F34.get rfl)) F34.defers ⟨_,rfl,rfl,s,n,hr.grow M28.grown,fun b h=>.inl h,M28.blk (k:=0) rfl,M28.grown⟩
theorem put_free (g:Nat) (V:VltN) (s n:Nat→Value) (hv:z2a V) (r:RecN) (Vr:RecV) (ho:RecOk r) (hd:V.dd=false) (l:List UInt8) (hrl:recE r=l) (hkeep:zia r=true) (hll:l.length≤1000) (hk:fst8 (zba V r.s)=8) (k:Nat) (hf:fst8 (fun i=>zwa V (2*i))=k) (h8:k<8) (ht:anyB zr V (2*k)=true → -9223372036854775808≤cntT V (2*k)∧cntT V (2*k)<9223372036854775807) (w:World) (hR:RecIs w r Vr) (hRg:¬bfp Vr.v2 g∧¬bfp Vr.v5 g) (hr:RowsV w g V.c s n) (hg:w.heap[g]? = some (.cells (vltA V s n) 80 (0,0))):
  Calls Tryz.prog 22 #[(zO g),.agg (recA r Vr)] w fun e w'=>∃ t,e=.returned t∧t=zI (if (sayW V (2*k) l).2=true then 0 else 10)∧∃ s' n',RowsV w' g ((sayW V (2*k) l).1).c s' n'∧(∀ b,zo 18 s' n' b→zo 18 s n b∨w.heap.size≤b)∧w'.heap[g]? = some (.cells (vltA ((sayW V (2*k) l).1) s' n') 80 (0,0))∧w.grownBy w' (some g):=by
 skip
 refine zk (args:=[(zO g),.agg (recA r Vr)]) 40 Tryz.func22 rfl rfl rfl ?_
 intro fa F
 have M:=Mx.theG hg 0
 have hkp:zia r=true:=hkeep
 refine zT fun _ hK1=>zq rfl rfl F rfl M 1 (t:=37) (c:=recA r Vr) (by unfold execOp;simp only [(F 1 rfl)];kernel_rfl) ?_
 intro g2 a2 w2 F2 M2
 refine rm rfl F2 fun _ F3=>hK1 _ _ (zSk fun _ hK4=>zT fun _ hK5=>zB 4 [(0,(zO g)),(3,(zO g2)),(4,zI 0),(11,(zP g 56))] [] dnil [] F3 fun _ F6=>?_)
 refine zc (w':=w2) rfl rfl F6 rfl (.bool false) (zha _ _ rfl (F6 11 rfl) (M2.blk (k:=0) rfl) (show _=some (Value.bool _) from by rw [←hd];rfl) Tryz.underlying4 rfl) fun _ F7=>?_
 refine hK5 _ _ (wp_cond_false (F7 12 rfl) (wp_skip (hK4 _ _ (zT fun _ hK8=>zc (w':=w2) rfl rfl F7 rfl _ (zdb _ _ rfl (F7 3 rfl) (M2.blk (k:=1) rfl) (recA r Vr) (zib rfl) Tryz.underlying37 rfl (by kernel_rfl)) fun _ F9=>?_))))
 refine zh rfl rfl F9 rfl rfl (zE Tryz.func48 rfl) #[.agg (recA r Vr)] (zca (F9 14 rfl)) (rec_is r Vr ho true l hkp hrl w2 ⟨hR.h2.grow M2.grown hRg.1,hR.h5.grow M2.grown hRg.2⟩) ?_
 rintro _ w10 a10 ⟨v10,rfl,hv10,b10⟩ F10
 have M10:=M2.newO b10 2 hv10
 clear M2 b10 hv10
 obtain ⟨A10,c10,rfl⟩:=(M10.isO (k:=2) rfl).shape
 refine zB 5 [(0,(zO g)),(3,(zO g2)),(4,zI 0),(5,.slice A10 (l).length c10),(6,.bool true)] [] dnil [] F10 fun _ F11=>?_
 refine hK8 _ _ (zSk fun _ hK12=>zT fun _ hK13=>zAx 2 [(18,.bool true),(19,.bool false)] [] dnil [] F11 fun _ F14=>?_)
 refine hK13 _ _ (wp_cond_false (F14 19 rfl) (wp_skip (hK12 _ _ (zT fun _ hK15=>zAx 3 [(21,(zO g)),(22,(zP g2 1)),(23,.string r.s)] [0] (zx (M10.blk (k:=1) rfl) dnil) [g2] F14 fun _ F16=>?_))))
 refine zh rfl rfl F16 rfl rfl (zE Tryz.func49 rfl) #[(zO g),.string r.s] (zea (F16 21 rfl) (F16 23 rfl)) (zda ((find_not g V s n hv r.s hk w10 (HasV.of (M10.blk (k:=0) rfl) (hr.grow M10.grown))))) ?_
 rintro _ w17 a17 ⟨rfl,b17⟩ F17
 have M17:=M10.step b17
 refine zB 3 [(0,(zO g)),(4,zI 0),(5,.slice A10 (l).length c10),(6,.bool true),(25,.agg (#[zI 0,.nilFunc])),(26,.bool false)] [] dnil [] F17 fun _ F18=>?_
 refine zq rfl rfl F18 rfl M17 3 (t:=87) (c:=#[zI 0,.nilFunc]) (by unfold execOp;kernel_rfl) ?_
 intro g19 a19 w19 F19 M19
 refine zt rfl rfl F19 M19 (k:=3) rfl _ _ _ rfl (F19 7 rfl) (F19 25 rfl) (#[zI 0,.nilFunc]) _ rfl (zL rfl) (by first | rfl | simp [Value.oneCell']) (zfa rfl) (by kernel_rfl) ?_
 intro w20 M20
 refine rm rfl F19 fun _ F21=>hK15 _ _ (zSk fun _ hK22=>zT fun _ hK23=>zAx 2 [(27,.bool false),(28,.bool true)] [] dnil [] F21 fun _ F24=>?_)
 refine hK23 _ _ (wp_cond_true (F24 28 rfl) (zR (rm rfl F24 fun _ F25=>zh rfl rfl F25 rfl rfl (zE Tryz.func50 rfl) #[(zO g)] (zca (F25 30 rfl)) (zda ((free_yes g V s n hv k hf h8 w20 (HasV.of (M20.blk (k:=0) rfl) (hr.grow M20.grown))))) ?_)))
 rintro _ w26 a26 ⟨rfl,b26⟩ F26
 have M26:=M20.step b26
 refine rm rfl F26 fun _ F27=>zAx 2 [(32,.agg (#[zI ((2*k:Nat):Int),.func (.func 105) #[] #[]])),(33,.bool true)] [] dnil [] F27 fun _ F28=>?_
 refine zt rfl rfl F28 M26 (k:=3) rfl _ _ _ rfl (F28 7 rfl) (F28 32 rfl) (#[zI ((2*k:Nat):Int),.func (.func 105) #[] #[]]) _ rfl (zL rfl) (by first | rfl | simp [Value.oneCell']) (zfa rfl) (by kernel_rfl) ?_
 intro w29 M29
 refine rm rfl F28 fun _ F30=>hK22 _ _ (zSk fun _ hK31=>zT fun _ hK32=>zAx 2 [(34,.bool true),(35,.bool false)] [] dnil [] F30 fun _ F33=>?_)
 refine hK32 _ _ (wp_cond_false (F33 35 rfl) (wp_skip (hK31 _ _ (zT fun _ hK34=>rm rfl F33 fun _ F35=>zc (w':=w29) rfl rfl F35 rfl _ (zdb _ _ rfl (F35 7 rfl) (M29.blk (k:=3) rfl) (#[zI ((2*k:Nat):Int),.func (.func 105) #[] #[]]) (zib rfl) Tryz.underlying87 rfl (by kernel_rfl)) fun _ F36=>?_))))
 refine rm rfl F36 fun _ F37=>zh rfl rfl F37 rfl rfl (zE Tryz.func51 rfl) #[(zO g),.agg (#[zI ((2*k:Nat):Int),.func (.func 105) #[] #[]]),.slice A10 (l).length c10] (args3 (F37 36 rfl) (F37 37 rfl) (F37 38 rfl)) (vwrite_any g V s n hv k h8 l (.slice A10 (l).length c10) hll ht w29 (M29.isO (k:=2) rfl) (fun h=>M29.dis 0 2 _ _ rfl rfl (by decide) rfl g rfl (z1a h)) (hr.grow M29.grown) (M29.blk (k:=0) rfl)) ?_
 rintro _ w38 a38 ⟨rfl,s38,n38,hr38,ht38,hc38,hg38⟩ F38
 have M38:=M29.put (k:=0) rfl hg38 hc38
 exact rm rfl F38 fun _ F39=>hK34 _ _ (wp_ret (bodyPost_ret (res1 rfl (F39.get rfl)) F39.defers ⟨_,rfl,rfl,s38,n38,hr38,(fun b hb=>(ht38 b hb).imp id (fun hb=>Nat.le_trans M29.le hb)),hc38,M29.grown.trans hg38⟩))
theorem vfail_any (g:Nat) (c:Nat→CelN) (fl:Bool) (lf:Int) (dd:Bool) (s n:Nat→Value) (z:Int) (w:World) (hg:w.heap[g]? = some (.cells (vltA ⟨c,fl,lf,dd⟩ s n) 80 (0,0))):
  Calls Tryz.prog 19 #[(zO g),zI z] w fun e w'=>∃ t,e=.returned t∧w'.heap[g]? = some (.cells (vltA ⟨c,decide (0≤z),z,dd⟩ s n) 80 (0,0))∧w.grownBy w' (some g):=by
 refine zk (args:=[(zO g),zI z]) 9 Tryz.func19 rfl rfl rfl ?_
 intro fa F
 have M:=Mx.theG hg 0
 refine zR (zB 4 [(6,(zO g)),(7,zI z)] [] dnil [] F fun _ F1=>?_)
 refine zh rfl rfl F1 rfl rfl (zE Tryz.func46 rfl) #[(zO g),zI z] (zea (F1 6 rfl) (F1 7 rfl)) (dfail_any g c fl lf dd s n z w (M.blk (k:=0) rfl)) ?_
 rintro _ w2 a2 ⟨hc2,hg2⟩ F2
 have M2:=M.put (k:=0) rfl hg2 hc2
 clear M hg2 hc2
 refine wpList_nil ?_
 exact bodyPost_end (res0 rfl) F2.defers ⟨_,rfl,M2.blk (k:=0) rfl,M2.grown⟩
theorem vdead_any (g:Nat) (V:VltN) (s n:Nat→Value) (w:World) (h:HasV w g V s n):
  Calls Tryz.prog 32 #[(zO g)] w fun e w'=>e=.returned (.bool V.dd)∧Below w.heap.size w w':=by
 obtain ⟨dd,hd⟩:∃ x,V.dd=x:=⟨_,rfl⟩
 rw [hd]
 refine zk (args:=[(zO g)]) 8 Tryz.func32 rfl rfl rfl ?_
 intro fa F
 have M:=Mx.start w
 replace M:=M.argO 0 h.blk (fun b e=>by cases e)
 refine zT fun _ hK1=>rm rfl F fun _ F2=>hK1 _ _ (zT fun _ hK3=>zB 4 [(2,.bool false),(6,(zP g 56))] [] dnil [] F2 fun _ F4=>?_)
 refine zc (w':=w) rfl rfl F4 rfl (.bool dd) (zha _ _ rfl (F4 6 rfl) (M.roB (k:=0) rfl) (show _=some (Value.bool _) from by rw [←hd];rfl) Tryz.underlying4 rfl) fun _ F5=>?_
 exact rm rfl F5 fun _ F6=>hK3 _ _ (wp_ret (bodyPost_ret (res1 rfl (F6.get rfl)) F6.defers ⟨rfl,M.below⟩))
section
open Go.Shelf
theorem eightI_low {n:Nat} (h:n<256):zy (n:Int)=[0,0,0,0,0,0,0,zj (n:Int)]:=by
 have e:∀ j:Nat,j<7→zj ((n:Int) / 2^(8*(7-j)))=0:=fun j hj=>by
  have h1:((n:Int) / 2^(8*(7-j)))=0:=by
   apply Int.ediv_eq_zero_of_lt (by omega)
   have h2:2^8≤2^(8*(7-j)):=Nat.pow_le_pow_right (by omega) (by omega)
   have h3:((2^(8*(7-j)):Nat):Int)=(2:Int)^(8*(7-j)):=by simp
   omega
  rw [h1];rfl
 have e7:zj ((n:Int) / 2^(8*(7-7)))=zj (n:Int):=by simp
 unfold zy
 have hr:List.range 8=[0,1,2,3,4,5,6,7]:=rfl
 rw [hr]
 simp only [List.map_cons,List.map_nil]
 rw [e 0 (by omega),e 1 (by omega),e 2 (by omega),e 3 (by omega),e 4 (by omega),e 5 (by omega),e 6 (by omega),e7]
def CellOk (K:Nat) (b:List UInt8):Prop:=b.length≤280∧(∀ j,j<7→b.getD j 0=0)∧(b.getD 7 0).toNat≤K
def CelOk (K:Nat) (c:CelN):Prop:=CellOk K c.s∧CellOk K c.n
def InvV (K:Nat) (V:VltN):Prop:=∀ i,CelOk K (V.c i)
theorem CellOk.nil (K:Nat):CellOk K []:=⟨Nat.zero_le _,fun _ _=>rfl,Nat.zero_le _⟩
theorem CellOk.mono {K K':Nat} (h:K≤K') {b:List UInt8} (hb:CellOk K b):CellOk K' b:=⟨hb.1,hb.2.1,Nat.le_trans hb.2.2 h⟩
theorem CelOk.mono {K K':Nat} (h:K≤K') {c:CelN} (hb:CelOk K c):CelOk K' c:=⟨hb.1.mono h,hb.2.mono h⟩
theorem InvV.mono {K K':Nat} (h:K≤K') {V:VltN} (hb:InvV K V):InvV K' V:=fun i=>(hb i).mono h
theorem getD_torn {x y:List UInt8} {k:Nat} (hk:k≤x.length) (j:Nat):(x.take k++y.drop k).getD j 0=if j<k then x.getD j 0 else y.getD j 0:=by
 have hl:(x.take k).length=k:=by rw [List.length_take];omega
 simp only [List.getD_eq_getElem?_getD]
 by_cases h:j<k
 ·rw [if_pos h,List.getElem?_append_left (by omega),List.getElem?_take,if_pos h]
 ·rw [if_neg h,List.getElem?_append_right (by omega),hl,List.getElem?_drop,show k+(j-k)=j by omega]
theorem CellOk.torn {K:Nat} {x y:List UInt8} {k:Nat} (hk:k≤x.length) (hx:CellOk K x) (hy:CellOk K y):CellOk K (x.take k++y.drop k):=by
 refine ⟨?_,fun j hj=>?_,?_⟩
 ·have h1:=hx.1
  have h2:=hy.1
  rw [List.length_append,List.length_take,List.length_drop]
  omega
 ·rw [getD_torn hk]
  split
  ·exact hx.2.1 j hj
  ·exact hy.2.1 j hj
 ·rw [getD_torn hk]
  split
  ·exact hx.2.2
  ·exact hy.2.2
theorem take8_of {K:Nat} {b:List UInt8} (h:CellOk K b) (h8:8≤b.length):b.take 8=zy (((b.getD 7 0).toNat:Nat):Int):=by
 rw [eightI_low (UInt8.toNat_lt _)]
 have hb:zj (((b.getD 7 0).toNat:Nat):Int)=b.getD 7 0:=byteI_id _
 rw [hb]
 apply List.ext_getElem?
 intro j
 rw [List.getElem?_take]
 have hget:∀ i,i<8→b[i]? = some (b.getD i 0):=fun i hi=>by rw [List.getD_eq_getElem?_getD,List.getElem?_eq_getElem (by omega)];rfl
 by_cases hj:j<8
 ·rw [if_pos hj,hget j hj]
  match j,hj with
  | 0,_=>rw [h.2.1 0 (by omega)];rfl
  | 1,_=>rw [h.2.1 1 (by omega)];rfl
  | 2,_=>rw [h.2.1 2 (by omega)];rfl
  | 3,_=>rw [h.2.1 3 (by omega)];rfl
  | 4,_=>rw [h.2.1 4 (by omega)];rfl
  | 5,_=>rw [h.2.1 5 (by omega)];rfl
  | 6,_=>rw [h.2.1 6 (by omega)];rfl
  | 7,_=>rfl
  | k+8,hk=>exact absurd hk (by omega)
 ·rw [if_neg hj,List.getElem?_eq_none (by simp;omega)]
theorem turn_of {K:Nat} {b:List UInt8} (h:CellOk K b) (h8:8≤b.length):turnL b=(((b.getD 7 0).toNat:Nat):Int):=by
 have:=UInt8.toNat_lt (b.getD 7 0)
 unfold turnL
 rw [take8_of h h8,zzc (by omega) (by omega)]
theorem entT_bd {K:Nat} {b:List UInt8} (h:CellOk K b):0≤entT b∧entT b≤(K:Int):=by
 unfold entT
 split
 ·rw [turn_of h (by omega)]
  have:=h.2.2
  omega
 ·omega
theorem cnt_bd {K:Nat} {V:VltN} (h:InvV K V) (q:Nat):0≤cntT V q∧cntT V q≤(K:Int):=by
 unfold cntT
 split
 ·exact entT_bd (h (q+1)).1
 ·exact entT_bd (h q).1
theorem nxtT_bd {K:Nat} {V:VltN} (h:InvV K V) (q:Nat):1≤nxtT V q∧nxtT V q≤(K:Int)+1:=by
 have:=cnt_bd h q
 unfold nxtT
 split <;> omega
theorem said_ok {K p:Nat} {t:Int} {s:List UInt8} (h0:0≤t) (hK:t≤(K:Int)) (hk:K<256) (hs:s.length≤255):CellOk K (z7a zr p t s):=by
 obtain ⟨m,rfl⟩:∃ m:Nat,t=(m:Int):=⟨t.toNat,by omega⟩
 have h8:=saidL_take8 zr p (m:Int) s
 rw [eightI_low (by omega)] at h8
 have hg:∀ j,j<8→(z7a zr p (m:Int) s).getD j 0=([0,0,0,0,0,0,0,zj (m:Int)]:List UInt8).getD j 0:=fun j hj=>by
  rw [←h8]
  simp only [List.getD_eq_getElem?_getD,List.getElem?_take,if_pos hj]
 refine ⟨by rw [saidL_len zr sealH_len];omega,fun j hj=>?_,?_⟩
 ·rw [hg j (by omega)]
  match j,hj with
  | 0,_ | 1,_ | 2,_ | 3,_ | 4,_ | 5,_ | 6,_=>rfl
  | k+7,hk=>exact absurd hk (by omega)
 ·rw [hg 7 (by omega)]
  show (zj (m:Int)).toNat≤K
  rw [byteI_nat (by omega)];omega
theorem nxtP_in (V:VltN) (q:Nat):nxtP V q=q∨nxtP V q=q+1:=by
 unfold nxtP
 split
 ·rename_i h
  rcases cntP_in h with h | h <;> rw [h] <;> omega
 ·exact .inl rfl
theorem sayW_c (V:VltN) (q:Nat) (l:List UInt8):(∀ i,i≠nxtP V q→(sayW V q l).1.c i=V.c i) ∧
  ((sayW V q l).1.c (nxtP V q)=V.c (nxtP V q)∨(sayW V q l).1.c (nxtP V q)=⟨(V.c (nxtP V q)).s,z7a zr (nxtP V q) (nxtT V q) l,true⟩∨(sayW V q l).1.c (nxtP V q)=⟨z7a zr (nxtP V q) (nxtT V q) l,[],false⟩):=by
 unfold sayW wrtV
 split
 ·exact ⟨fun _ _=>rfl,.inl rfl⟩
 ·split
  ·refine ⟨fun i hi=>ztc _ _ hi,.inr (.inl (zdc _ _ _))⟩
  ·refine ⟨fun i hi=>?_,.inr (.inr ?_)⟩
   ·show putC (putC V.c _ _) _ _ i=V.c i
    rw [ztc _ _ hi,ztc _ _ hi]
   ·show putC (putC V.c _ _) _ ⟨(putC V.c _ _ _).n,[],false⟩ _=_
    rw [zdc,zdc]
theorem sayW_inv {K:Nat} {V:VltN} (h:InvV K V) (hK:K<255) (q:Nat) {l:List UInt8} (hl:l.length≤255):InvV (K+1) (sayW V q l).1:=fun i=>by
 obtain ⟨h1,h2⟩:=sayW_c V q l
 by_cases hi:i=nxtP V q
 ·subst hi
  have hb:=nxtT_bd h q
  have hs:CellOk (K+1) (z7a zr (nxtP V q) (nxtT V q) l):=said_ok (by omega) (by omega) (by omega) hl
  rcases h2 with h2 | h2 | h2 <;> rw [h2]
  ·exact (h _).mono (by omega)
  ·exact ⟨(h _).1.mono (by omega),hs⟩
  ·exact ⟨hs,CellOk.nil _⟩
 ·rw [h1 i hi]
  exact (h i).mono (by omega)
theorem setl_inv {K:Nat} {V:VltN} (h:InvV K V) (x:Nat→Int) (m:Nat):InvV K (zac V x m):=fun i=>
 setC_all (p:=fun _ c=>CelOk K c) h (fun i k _ hk=>⟨CellOk.torn hk (h i).2 (h i).1,CellOk.nil _⟩) 18 i
theorem age_inv {K:Nat} {V:VltN} (h:InvV K V) (hK:K<255):InvV (K+1) (ageW V):=sayW_inv h hK 16 (by rw [zja];omega)
theorem zero_inv (K:Nat):InvV K zeroV:=fun i=>⟨CellOk.nil K,CellOk.nil K⟩
theorem zvc {K:Nat} {V:VltN} (h:InvV K V):z2a V:=fun i hi=>⟨by have:=(h i).1.1;omega,by have:=(h i).2.1;omega⟩
theorem inv_turn {K:Nat} {V:VltN} (h:InvV K V) (hK:K<256) (q:Nat):anyB zr V q=true → -9223372036854775808≤cntT V q∧cntT V q<9223372036854775807:=fun _=>by
 have:=cnt_bd h q;omega
theorem pair_eq {V V':VltN} {q:Nat} (h1:(V'.c q).s=(V.c q).s) (h2:(V'.c (q+1)).s=(V.c (q+1)).s):anyB zr V' q=anyB zr V q∧cntS V' q=cntS V q∧cntT V' q=cntT V q∧cntP V' q=cntP V q:=by
 have hs:secB zr V' q=secB zr V q:=by unfold secB;rw [h1,h2]
 refine ⟨by unfold anyB;rw [hs,h1],by unfold cntS;rw [hs,h1,h2],by unfold cntT;rw [hs,h1,h2],by unfold cntP;rw [hs,h1,h2]⟩
theorem said_eq {V V':VltN} {q:Nat} (h:anyB zr V' q=anyB zr V q∧cntS V' q=cntS V q∧cntT V' q=cntT V q∧cntP V' q=cntP V q):zec V' q=zec V q∧z0a V' q=z0a V q∧zwa V' q=zwa V q∧numB V' q=numB V q∧zhc V' q=zhc V q:=by
 obtain ⟨h1,h2,-,-⟩:=h
 refine ⟨by unfold zec;rw [h1,h2],by unfold z0a;rw [h1,h2],by unfold zwa;rw [h1,h2],by unfold numB;rw [h1,h2],by unfold zhc;rw [h1,h2]⟩
theorem sayW_other (V:VltN) {q q':Nat} (l:List UInt8) (h:q'+1<q∨q+1<q'):(sayW V q l).1.c q'=V.c q'∧(sayW V q l).1.c (q'+1)=V.c (q'+1):=by
 have h1:=(sayW_c V q l).1
 have hp:=nxtP_in V q
 exact ⟨h1 _ (by omega),h1 _ (by omega)⟩
theorem sayW_pair (V:VltN) {q q':Nat} (l:List UInt8) (h:q'+1<q∨q+1<q'):anyB zr (sayW V q l).1 q'=anyB zr V q'∧cntS (sayW V q l).1 q'=cntS V q'∧cntT (sayW V q l).1 q'=cntT V q'∧cntP (sayW V q l).1 q'=cntP V q':=by
 obtain ⟨h1,h2⟩:=sayW_other V l h
 exact pair_eq (by rw [h1]) (by rw [h2])
theorem sayW_live {V:VltN} (q:Nat) (l:List UInt8) (hf:V.fl=false):(sayW V q l).2=true∧(sayW V q l).1.fl=false∧(sayW V q l).1.dd=V.dd∧(sayW V q l).1.c (nxtP V q)=⟨z7a zr (nxtP V q) (nxtT V q) l,[],false⟩:=by
 unfold sayW wrtV
 rw [if_neg (by unfold zpc;rw [hf];simp),if_neg (by unfold zpc zjc;rw [hf];simp)]
 refine ⟨rfl,hf,rfl,?_⟩
 show putC (putC V.c _ _) _ ⟨(putC V.c _ _ _).n,[],false⟩ _=_
 rw [zdc,zdc]
theorem sayW_fl (V:VltN) (q:Nat) (l:List UInt8):(sayW V q l).1.fl=V.fl:=by
 unfold sayW wrtV
 split
 ·rfl
 ·split <;> rfl
theorem wrote {K:Nat} {V V':VltN} {q:Nat} {l:List UInt8} (h:InvV K V) (hK:K<255) (hp:(V'.c (nxtP V q)).s=z7a zr (nxtP V q) (nxtT V q) l) (ho:∀ i,i≠nxtP V q→(V'.c i).s=(V.c i).s):anyB zr V' q=true∧cntS V' q=l:=by
 have hb:=nxtT_bd h q
 have hcb:=cnt_bd h q
 have hgood:zpb zr (nxtP V q) (z7a zr (nxtP V q) (nxtT V q) l)=true:=good_said zr sealH_len _ (by omega) (by omega) _
 have hturn:turnL (z7a zr (nxtP V q) (nxtT V q) l)=nxtT V q:=saidL_turn zr _ (by omega) (by omega) _
 have hlen:25≤(z7a zr (nxtP V q) (nxtT V q) l).length:=by rw [saidL_len zr sealH_len];omega
 have hents:entS (z7a zr (nxtP V q) (nxtT V q) l)=l:=by unfold entS;rw [if_pos hlen,saidL_says zr sealH_len]
 by_cases hA:anyB zr V q=true
 ·by_cases hs:secB zr V q=true
  ·-- the second counts: the first is written
   have hP:nxtP V q=q:=by
    have:cntP V q=q+1:=by
     unfold cntP
     rw [if_pos hs]
     have:zpb zr (q+1) (V.c (q+1)).s=true:=by unfold secB at hs;simp only [Bool.and_eq_true] at hs;exact hs.1
     exact if_pos (good_ge this)
    unfold nxtP
    rw [if_pos hA,this];omega
   have hT:nxtT V q=turnL (V.c (q+1)).s+1:=by
    have hg:zpb zr (q+1) (V.c (q+1)).s=true:=by unfold secB at hs;simp only [Bool.and_eq_true] at hs;exact hs.1
    unfold nxtT cntT
    rw [if_pos hA,if_pos hs,show entT (V.c (q+1)).s=turnL (V.c (q+1)).s from if_pos (good_ge hg)]
   rw [hP] at hp hgood hturn hents ho
   have h2:(V'.c (q+1)).s=(V.c (q+1)).s:=ho _ (by omega)
   have hs2:secB zr V' q=false:=by
    unfold secB
    rw [h2,hp,hgood,hturn,hT]
    simp
    intro _
    omega
   refine ⟨by unfold anyB;rw [hs2,hp,hgood];rfl,by unfold cntS;rw [hs2,hp];exact hents⟩
  ·have hs:secB zr V q=false:=by simpa using hs
   have hg:zpb zr q (V.c q).s=true:=by unfold anyB at hA;rw [hs] at hA;simpa using hA
   have hP:nxtP V q=q+1:=by
    have:cntP V q=q:=by
     unfold cntP
     rw [if_neg (by rw [hs];exact Bool.false_ne_true)]
     exact if_pos (good_ge hg)
    unfold nxtP
    rw [if_pos hA,this];omega
   have hT:nxtT V q=turnL (V.c q).s+1:=by
    unfold nxtT cntT
    rw [if_pos hA,if_neg (by rw [hs];exact Bool.false_ne_true),show entT (V.c q).s=turnL (V.c q).s from if_pos (good_ge hg)]
   rw [hP] at hp hgood hturn hents ho
   have h2:(V'.c q).s=(V.c q).s:=ho _ (by omega)
   have hs2:secB zr V' q=true:=by
    unfold secB
    rw [h2,hp,hgood,hturn,hT,hg]
    simp
    omega
   refine ⟨by unfold anyB;rw [hs2];rfl,by unfold cntS;rw [hs2,hp];exact hents⟩
 ·have hA:anyB zr V q=false:=by simpa using hA
  have hs:secB zr V q=false:=by unfold anyB at hA;simp only [Bool.or_eq_false_iff] at hA;exact hA.1
  have hg:zpb zr q (V.c q).s=false:=by unfold anyB at hA;simp only [Bool.or_eq_false_iff] at hA;exact hA.2
  have hg2:zpb zr (q+1) (V.c (q+1)).s=false:=by
   unfold secB at hs
   rw [hg] at hs
   simpa using hs
  have hP:nxtP V q=q:=by unfold nxtP;rw [if_neg (by rw [hA];exact Bool.false_ne_true)]
  rw [hP] at hp hgood hturn hents ho
  have h2:(V'.c (q+1)).s=(V.c (q+1)).s:=ho _ (by omega)
  have hs2:secB zr V' q=false:=by unfold secB;rw [h2,hg2];rfl
  refine ⟨by unfold anyB;rw [hs2,hp,hgood];rfl,by unfold cntS;rw [hs2,hp];exact hents⟩
theorem say_says {K:Nat} {V:VltN} (h:InvV K V) (hK:K<255) (q:Nat) (l:List UInt8) (hf:V.fl=false):anyB zr (sayW V q l).1 q=true∧cntS (sayW V q l).1 q=l:=
 wrote h hK (by rw [(sayW_live q l hf).2.2.2]) (fun i hi=>by rw [(sayW_c V q l).1 i hi])
/-! The era. -/
def EraV (V:VltN) (e:Int):Prop:=(V.c 16).f=false∧(V.c 17).f=false∧anyB zr V 16=true∧zhc V 16=e
theorem era_num {K:Nat} {V:VltN} (h:InvV K V) (hK:K<255) {e:Int} (he:zhc V 16=e) (h0:0≤e) (h1:e<1000) (hf:V.fl=false) (h16:(V.c 16).f=false) (h17:(V.c 17).f=false):EraV (ageW V) (e+1):=by
 obtain ⟨ha,hc⟩:=say_says h hK 16 (zy (zhc V 16+1)) hf
 obtain ⟨h1',h2',h3',h4'⟩:=sayW_live 16 (zy (zhc V 16+1)) hf
 have hfr:∀ i,(V.c i).f=false→((ageW V).c i).f=false:=fun i hi=>by
  by_cases e:i=nxtP V 16
  ·subst e;unfold ageW;rw [h4']
  ·unfold ageW;rw [(sayW_c V 16 _).1 i e];exact hi
 refine ⟨hfr 16 h16,hfr 17 h17,ha,?_⟩
 unfold zhc
 rw [if_pos (show anyB zr (ageW V) 16=true from ha),show cntS (ageW V) 16=zy (zhc V 16+1) from hc,he]
 exact zzc (by omega) (by omega)
theorem era_say {V:VltN} {e:Int} (h:EraV V e) {q:Nat} (hq:q+1<16) (l:List UInt8):EraV (sayW V q l).1 e:=by
 obtain ⟨h1,h2⟩:=sayW_other V (q':=16) l (.inr hq)
 have hp:=sayW_pair V (q':=16) l (.inr hq)
 refine ⟨by rw [h1];exact h.1,by rw [h2];exact h.2.1,by rw [hp.1];exact h.2.2.1,by rw [(said_eq hp).2.2.2.2];exact h.2.2.2⟩
theorem setC_unf {c:Nat→CelN} {x:Nat→Int} {m:Nat} {i:Nat} (hi:(c i).f=false):∀ j,setC c x m j i=c i
 | 0=>rfl
 | j+1=>by
  unfold setC
  split
  ·rename_i hf
   rw [ztc _ _ (fun e=>by subst e;rw [hi] at hf;cases hf)]
   exact setC_unf hi j
  ·exact setC_unf hi j
theorem era_setl {V:VltN} {e:Int} (h:EraV V e) (x:Nat→Int) (m:Nat):EraV (zac V x m) e:=by
 have h1:(zac V x m).c 16=V.c 16:=setC_unf h.1 18
 have h2:(zac V x m).c 17=V.c 17:=setC_unf h.2.1 18
 have hp:=pair_eq (V:=V) (V':=zac V x m) (q:=16) (by rw [h1]) (by rw [h2])
 refine ⟨by rw [h1];exact h.1,by rw [h2];exact h.2.1,by rw [hp.1];exact h.2.2.1,by rw [(said_eq hp).2.2.2.2];exact h.2.2.2⟩
theorem age_fl (V:VltN):(ageW V).fl=V.fl:=sayW_fl V 16 _
theorem age_dd {V:VltN} (hf:V.fl=false):(ageW V).dd=V.dd:=(sayW_live 16 _ hf).2.2.1
theorem again_is {K:Nat} {V:VltN} (h:InvV K V) (hK:K<255) {e:Int} (he:EraV V e) (h0:0≤e) (h1:e<1000) (x:Nat→Int) (m:Nat):EraV (ageW (zac V x m)) (e+1)∧InvV (K+1) (ageW (zac V x m))∧(ageW (zac V x m)).fl=false∧(ageW (zac V x m)).dd=false:=by
 have hs:=era_setl he x m
 exact ⟨era_num (setl_inv h x m) hK hs.2.2.2 h0 h1 rfl hs.1 hs.2.1,age_inv (setl_inv h x m) hK,age_fl _,age_dd rfl⟩
theorem new_is:EraV (ageW zeroV) 1∧InvV 1 (ageW zeroV)∧(ageW zeroV).fl=false∧(ageW zeroV).dd=false:=
 ⟨era_num (zero_inv 0) (by omega) num0 (by omega) (by omega) rfl rfl rfl,age_inv (zero_inv 0) (by omega),age_fl _,age_dd rfl⟩
theorem era_bd {V:VltN} {e:Int} (h:EraV V e) (h0:0≤e) (h1:e<1000):-9223372036854775808≤zhc V 16∧zhc V 16<9223372036854775807:=by rw [h.2.2.2];omega
noncomputable def putV (V:VltN) (r:RecN):VltN×Int:=
 if V.dd=true then (V,10) else if zia r=false then (V,11) else
 if fst8 (zba V r.s)<8 then ((sayW V (2*fst8 (zba V r.s)) (recE r)).1,if (sayW V (2*fst8 (zba V r.s)) (recE r)).2=true then 0 else 10) else
 if fst8 (fun i=>zwa V (2*i))<8 then ((sayW V (2*fst8 (fun i=>zwa V (2*i))) (recE r)).1,if (sayW V (2*fst8 (fun i=>zwa V (2*i))) (recE r)).2=true then 0 else 10) else (V,7)
noncomputable def goneV (V:VltN) (nm:ByteArray):VltN×Int:=
 if V.dd=true then (V,10) else
 if fst8 (zba V nm)<8 then ((sayW V (2*fst8 (zba V nm)) []).1,if (sayW V (2*fst8 (zba V nm)) []).2=true then 0 else 10) else (V,3)
theorem fst8_le (p:Nat→Bool):fst8 p≤8:=by rcases fst8_spec p with ⟨h,_⟩ | ⟨h,_⟩ <;> omega
theorem recE_bd (r:RecN):(recE r).length≤200:=by
 unfold recE
 split
 ·rename_i h
  obtain ⟨h1,h2,h3⟩:=keep_len h
  rw [recL_is]
  have ha:(zbb r.a).length=4:=z8c _
  have hb:(zbb r.b).length=4:=z8c _
  have hc:(zy r.c).length=8:=zja _
  have hd:(zy r.z).length=8:=zja _
  simp only [List.length_cons,List.length_append]
  omega
 ·simp
theorem put_any {K:Nat} (g:Nat) (V:VltN) (s n:Nat→Value) (r:RecN) (Vr:RecV) (ho:RecOk r) (hi:InvV K V) (hK:K<256) (w:World) (hR:RecIs w r Vr) (hRg:¬bfp Vr.v2 g∧¬bfp Vr.v5 g) (hr:RowsV w g V.c s n) (hg:w.heap[g]? = some (.cells (vltA V s n) 80 (0,0))):
  Calls Tryz.prog 22 #[(zO g),.agg (recA r Vr)] w fun e w'=>∃ t,e=.returned t∧t=zI (putV V r).2∧∃ s' n',RowsV w' g (putV V r).1.c s' n'∧(∀ b,zo 18 s' n' b→zo 18 s n b∨w.heap.size≤b)∧w'.heap[g]? = some (.cells (vltA (putV V r).1 s' n') 80 (0,0))∧w.grownBy w' (some g):=by
 have hv:=zvc hi
 unfold putV
 cases hd:V.dd with
 | true=>exact put_dead g V s n hv r Vr hd w hR hRg hr hg
 | false=>
  rw [if_neg Bool.false_ne_true]
  cases hk:zia r with
  | false=>exact put_range g V s n hv r Vr ho hd (recE r) rfl hk w hR hRg hr hg
  | true=>
   rw [if_neg (fun h=>Bool.noConfusion h)]
   by_cases h1:fst8 (zba V r.s)<8
   ·rw [if_pos h1]
    exact put_found g V s n hv r Vr ho hd (recE r) rfl hk (by have:=recE_bd r;omega) _ rfl h1 (inv_turn hi hK _) w hR hRg hr hg
   ·have h8:fst8 (zba V r.s)=8:=by have:=fst8_le (zba V r.s);omega
    rw [if_neg h1]
    by_cases h2:fst8 (fun i=>zwa V (2*i))<8
    ·rw [if_pos h2]
     exact put_free g V s n hv r Vr ho hd (recE r) rfl hk (by have:=recE_bd r;omega) h8 _ rfl h2 (inv_turn hi hK _) w hR hRg hr hg
    ·rw [if_neg h2]
     exact put_none g V s n hv r Vr ho hd (recE r) rfl hk h8 (by have:=fst8_le (fun i=>zwa V (2*i));omega) w hR hRg hr hg
theorem gone_any {K:Nat} (g:Nat) (V:VltN) (s n:Nat→Value) (nm:ByteArray) (hi:InvV K V) (hK:K<256) (w:World) (hr:RowsV w g V.c s n) (hg:w.heap[g]? = some (.cells (vltA V s n) 80 (0,0))):
  Calls Tryz.prog 27 #[(zO g),.string nm] w fun e w'=>∃ t,e=.returned t∧t=zI (goneV V nm).2∧∃ s' n',RowsV w' g (goneV V nm).1.c s' n'∧(∀ b,zo 18 s' n' b→zo 18 s n b∨w.heap.size≤b)∧w'.heap[g]? = some (.cells (vltA (goneV V nm).1 s' n') 80 (0,0))∧w.grownBy w' (some g):=by
 have hv:=zvc hi
 unfold goneV
 cases hd:V.dd with
 | true=>exact gone_dead g V s n hv nm hd w hr hg
 | false=>
  rw [if_neg Bool.false_ne_true]
  by_cases h1:fst8 (zba V nm)<8
  ·rw [if_pos h1]
   exact gone_yes g V s n hv nm hd _ rfl h1 (inv_turn hi hK _) w hr hg
  ·rw [if_neg h1]
   exact gone_not g V s n hv nm hd (by have:=fst8_le (zba V nm);omega) w hr hg
theorem say_keep {K:Nat} {V:VltN} {e:Int} (hi:InvV K V) (hK:K<255) (he:EraV V e) {k:Nat} (hk:k<8) {l:List UInt8} (hl:l.length≤255):InvV (K+1) (sayW V (2*k) l).1∧EraV (sayW V (2*k) l).1 e:=
 ⟨sayW_inv hi hK _ hl,era_say he (by omega) l⟩
theorem put_keep {K:Nat} {V:VltN} {e:Int} (hi:InvV K V) (hK:K<255) (he:EraV V e) (r:RecN):InvV (K+1) (putV V r).1∧EraV (putV V r).1 e:=by
 have hl:=recE_bd r
 unfold putV
 split
 ·exact ⟨hi.mono (by omega),he⟩
 ·split
  ·exact ⟨hi.mono (by omega),he⟩
  ·split
   ·rename_i h;exact say_keep hi hK he h (by omega)
   ·split
    ·rename_i h;exact say_keep hi hK he h (by omega)
    ·exact ⟨hi.mono (by omega),he⟩
end
theorem rnum6_any (l:List UInt8) (v:Value) (hl:8≤l.length) (w:World) (hv:IsB w l v):
  Calls Tryz.prog 68 #[v] w fun e w'=>e=.returned (zI (numR l))∧Below w.heap.size w w':=by
 refine zk (args:=[v]) 18 Tryz.func68 rfl rfl rfl ?_
 intro fa F
 have M:=Mx.start w
 replace M:=M.argB 0 hv (fun g e=>by cases e)
 refine zT fun _ hK1=>rm rfl F fun _ F2=>hK1 _ _ (zT fun _ hK3=>rm rfl F2 fun _ F4=>hK3 _ _ (zSk fun _ hK5=>zT fun _ hK6=>rm rfl F4 fun _ F7=>hK6 _ _ (wp_block (zob (α:=Nat) (n:=18) (G:=none) (w0:=w) (fun x=>[(0,v),(2,zI 0),(4,zI (x:Int)),(3,zI (numP l x))]) (fun x=>[(0,bytR l v)]) (fun k x=>k=8-x∧(x≤8)) _ 0 ⟨rfl,(Nat.zero_le _)⟩ (F7.sb) (M.sb) ?_))))
 rintro k8 jn a8 w8 K8 ⟨ek8,I8⟩ F8 M8 hK8
 replace F8:Fx 18 a8 [(0,v),(2,zI 0),(4,zI (jn:Int)),(3,zI (numP l jn))]:=F8
 replace M8:Mx _ _ w8 [(0,bytR l v)]:=M8
 replace I8:jn≤8:=I8
 replace ek8:k8=8-jn:=ek8
 by_cases h8:jn<8
 ·have hlt:jn<l.length:=by omega
  obtain ⟨x,hx⟩:∃ x,l[jn]? = some x:=⟨_,List.getElem?_eq_getElem hlt⟩
  have hnx:=numP_next hx
  refine zSk fun _ hK9=>zT fun _ hK10=>rm rfl F8 fun _ F11=>zc (w':=w8) rfl rfl F11 rfl (.bool true) (zna _ _ _ _ rfl (F11 5 rfl) rfl (decide_eq_true (show (jn:Int)<8 by omega))) fun _ F12=>?_
  refine hK10 _ _ (wp_cond_true (F12 6 rfl) (wp_skip (hK9 _ _ (zSk fun _ hK13=>wp_block (zR (rm rfl F12 fun _ F14=>zc (w':=w8) rfl rfl F14 rfl (zI (IntKind.i64.wrap (numP l jn*2^(8:Int).toNat))) (y_shlI _ _ _ _ rfl (F14 9 rfl) rfl (by decide) rfl) fun _ F15=>?_))))))
  refine rm rfl F15 fun _ F16=>rm rfl F16 fun _ F17=>zc (w':=w8) rfl rfl F17 rfl ((ixV (v) jn)) (y_ixB _ _ rfl (F17 11 rfl) (M8.isb (k:=0) rfl) (F17 12 rfl) rfl hlt) fun _ F18=>?_
  refine zc (w':=w8) rfl rfl F18 rfl (zY ((x.toNat:Nat):Int)) (y_ldB _ rfl (F18 13 rfl) (M8.isb (k:=0) rfl) hx rfl) fun _ F19=>?_
  refine zc (w':=w8) rfl rfl F19 rfl (zI ((x.toNat:Nat):Int)) (y_cvI _ _ _ rfl (F19 14 rfl) Tryz.underlying5 Tryz.underlying3 (byte_i64 _)) fun _ F20=>?_
  refine zc (w':=w8) rfl rfl F20 rfl (zI (numP l (jn+1))) (y_orU _ _ _ _ rfl (F20 10 rfl) (F20 15 rfl) hnx) fun _ F21=>?_
  refine rm rfl F21 fun _ F22=>hK13 _ _ (zR (rm rfl F22 fun _ F23=>zc (w':=w8) rfl rfl F23 rfl (zI ((jn+1:Nat):Int)) (zsa _ _ _ _ rfl (F23 7 rfl) rfl (by omega) (by omega)) fun _ F24=>?_))
  refine rm rfl F24 fun _ F25=>?_
  subst ek8
  exact hK8 _ (jn+1) _ _ (by omega) ⟨rfl,(by omega)⟩ (F25.sb) (M8.sb)
 ·refine zSk fun _ hK26=>zT fun _ hK27=>rm rfl F8 fun _ F28=>zc (w':=w8) rfl rfl F28 rfl (.bool false) (zna _ _ _ _ rfl (F28 5 rfl) rfl (decide_eq_false (show ¬(jn:Int)<8 by omega))) fun _ F29=>?_
  refine hK27 _ _ (wp_cond_false (F29 6 rfl) (wp_exit ?_))
  simp only [Exit.then,Exit.inBlock,↓reduceIte,Nat.reduceEqDiff]
  refine hK5 _ _ (zT fun _ hK30=>rm rfl F29 fun _ F31=>?_)
  exact rm rfl F31 fun _ F32=>hK30 _ _ (wp_ret (bodyPost_ret (res1 rfl (F32.get rfl)) F32.defers ⟨by rw [show numR l=numP l jn from by rw [show jn=8 by omega];rfl],M8.below⟩))
theorem str_q {l r:List UInt8} {q:Bool} (h:decide (l=r)=q):decide ((⟨l.toArray⟩:ByteArray).toList=(⟨r.toArray⟩:ByteArray).toList)=q:=by rw [mk_toList,mk_toList];exact h
theorem res3 {P:Program} {fn:Func} {t u r:Tmp} {a:Act} {v x y:Value} {w:World} (h:fn.results=#[.tmp t,.tmp u,.tmp r]) (e:a.eval (.tmp t)=v) (e2:a.eval (.tmp u)=x) (e3:a.eval (.tmp r)=y):(results fn a.tmps).run P w=.ok (.tuple #[v,x,y]) w:=by
 have h3:(results fn a.tmps).run P w=.ok (.tuple #[a.tmps.getD t undef,a.tmps.getD u undef,a.tmps.getD r undef]) w:=by simp [results,h]
 rw [h3,←e,←e2,←e3];rfl
theorem numR_of {K:Nat} {b:List UInt8} (h:CellOk K b) (h8:8≤b.length):numR b=(((b.getD 7 0).toNat:Nat):Int)∧numOk (b.take 8)=true:=by
 have:=UInt8.toNat_lt (b.getD 7 0)
 have hn:numOk (b.take 8)=true:=by rw [take8_of h h8];exact numOk_eight (by omega) (by omega)
 have e:numR b=numR (b.take 8):=by unfold numR;rw [List.take_take,Nat.min_self]
 exact ⟨by rw [e,numR_I hn];exact turn_of h h8,hn⟩
theorem good_no {K p:Nat} {b:List UInt8} (h:CellOk K b) (h25:25≤b.length) (hx:¬(((b.getD 8 0).toNat:Nat):Int)+25=(b.length:Int)):zpb zr p b=false:=by
 rw [←good_eq zr (by have:=h.1;omega) (numR_of h (by omega)).2]
 unfold goodR
 rw [decide_eq_false hx,Bool.and_false,Bool.false_and]
theorem good_at {K p:Nat} {b:List UInt8} (h:CellOk K b) (h25:25≤b.length):zpb zr p b=decide (z7a zr p (((b.getD 7 0).toNat:Nat):Int) (saysL b)=b):=by
 rw [good_long h25,turn_of h (by omega)]
theorem rgood_any {K:Nat} (p:Nat) (hp:p<18) (b:List UInt8) (bv:Value) (hK:CellOk K b) (w:World) (hB:IsB w b bv):
  Calls Tryz.prog 92 #[zI (p:Int),bv] w fun e w'=>∃ n S L,e=.returned (.tuple #[zI n,S,.bool (zpb zr p b)])∧IsB w L S∧(∀ g,bfp S g→bfp bv g)∧(zpb zr p b=true→n=entT b∧L=entS b)∧Below w.heap.size w w':=by
 obtain ⟨Ab,cb,rfl⟩:=hB.shape
 have h280:=hK.1
 by_cases h25:25≤b.length
 ·have hlt8:8<b.length:=by omega
  obtain ⟨x8,hx8⟩:∃ x,b[8]? = some x:=⟨_,List.getElem?_eq_getElem hlt8⟩
  have hg8:b.getD 8 0=x8:=by rw [List.getD_eq_getElem?_getD,hx8];rfl
  have hx8b:=x8.toNat_lt
  by_cases h8:((x8.toNat:Nat):Int)+25=(b.length:Int)
  ·obtain ⟨E,hE⟩:∃ E,b.length-16=E:=⟨_,rfl⟩
   obtain ⟨T,hT⟩:∃ x:Nat,(b.getD 7 0).toNat=x:=⟨_,rfl⟩
   have hT8:T<256:=by rw [←hT];exact UInt8.toNat_lt _
   have hs:saysL b=((b.drop 9).take (E-9)):=by unfold saysL;rw [hE,List.drop_take]
   obtain ⟨qG,hG⟩:∃ x,decide (z7a zr p (T:Int) ((b.drop 9).take (E-9))=b)=x:=⟨_,rfl⟩
   have hgd:zpb zr p b=qG:=by rw [good_at hK h25,hT,hs,hG]
   have heT:entT b=(T:Int):=(if_pos h25).trans ((turn_of hK (by omega)).trans (by rw [hT]))
   have heS:entS b=((b.drop 9).take (E-9)):=(if_pos h25).trans hs
   rw [hgd,heT,heS]
   have hnR:numR b=(T:Int):=by rw [(numR_of hK (by omega)).1,hT]
   have hl9:((b.drop 9).take (E-9)).length≤1000:=by rw [List.length_take,List.length_drop];omega
   refine zk (args:=[zI (p:Int),.slice Ab b.length cb]) 39 Tryz.func92 rfl rfl rfl ?_
   intro fa F
   have M:=Mx.start w
   replace M:=M.argB 0 hB (fun g e=>by cases e)
   refine zT fun _ hK1=>rm rfl F fun _ F2=>rm rfl F2 fun _ F3=>rm rfl F3 fun _ F4=>hK1 _ _ (zSk fun _ hK5=>zT fun _ hK6=>rm rfl F4 fun _ F7=>zc (w':=w) rfl rfl F7 rfl (zI (b.length:Int)) (zcb _ rfl (F7 9 rfl) (M.isb (k:=0) rfl) rfl) fun _ F8=>?_)
   refine zc (w':=w) rfl rfl F8 rfl (.bool false) (zna _ _ _ _ rfl (F8 10 rfl) rfl (decide_eq_false (by omega))) fun _ F9=>?_
   refine rm rfl F9 fun _ F10=>rm rfl F10 fun _ F11=>zc (w':=w) (zd rfl rfl rfl (F11 12 rfl)) rfl F11 rfl (zI (b.length:Int)) (zcb _ rfl (F11 13 rfl) (M.isb (k:=0) rfl) rfl) fun _ F12=>?_
   refine rm rfl F12 fun _ F13=>zc (w':=w) (zd rfl rfl rfl (F13 12 rfl)) rfl F13 rfl ((ixV (.slice Ab b.length cb) 8)) (y_ixB _ _ rfl (F13 15 rfl) (M.isb (k:=0) rfl) rfl rfl hlt8) fun _ F14=>?_
   refine zc (w':=w) (zd rfl rfl rfl (F14 12 rfl)) rfl F14 rfl (zY ((x8.toNat:Nat):Int)) (y_ldB _ rfl (F14 16 rfl) (M.isb (k:=0) rfl) hx8 rfl) fun _ F15=>?_
   refine zc (w':=w) (zd rfl rfl rfl (F15 12 rfl)) rfl F15 rfl (zI ((x8.toNat:Nat):Int)) (y_cvI _ _ _ rfl (F15 17 rfl) Tryz.underlying5 Tryz.underlying3 (byte_i64 _)) fun _ F16=>?_
   refine zc (w':=w) (zd rfl rfl rfl (F16 12 rfl)) rfl F16 rfl (zI (25+((x8.toNat:Nat):Int))) (zsa _ _ _ _ rfl rfl (F16 18 rfl) (by omega) (by omega)) fun _ F17=>?_
   refine zc (w':=w) (zd rfl rfl rfl (F17 12 rfl)) rfl F17 rfl (.bool false) (y_neI _ _ _ _ rfl (F17 14 rfl) (F17 19 rfl) Tryz.underlying3 (y_bneF (by omega))) fun _ F18=>?_
   refine zc (w':=w) rfl rfl F18 rfl (.bool false) (zub rfl (F18 12 rfl) (F18 20 rfl)) fun _ F19=>?_
   refine hK6 _ _ (wp_cond_false (F19 21 rfl) (wp_skip (hK5 _ _ (zT fun _ hK20=>rm rfl F19 fun _ F21=>zh rfl rfl F21 rfl rfl (zE Tryz.func68 rfl) #[.slice Ab b.length cb] (zca (F21 22 rfl)) (zda ((hnR▸rnum6_any b (.slice Ab b.length cb) (by omega) w (M.isb (k:=0) rfl)))) ?_))))
   rintro _ w22 a22 ⟨rfl,b22⟩ F22
   have M22:=M.step b22
   refine rm rfl F22 fun _ F23=>hK20 _ _ (zT fun _ hK24=>rm rfl F23 fun _ F25=>rm rfl F25 fun _ F26=>zc (w':=w22) rfl rfl F26 rfl (zI (b.length:Int)) (zcb _ rfl (F26 25 rfl) (M22.isb (k:=0) rfl) rfl) fun _ F27=>?_)
   refine zc (w':=w22) rfl rfl F27 rfl (zI (E:Int)) (z3c _ _ _ _ rfl (F27 26 rfl) rfl (by omega) (by omega)) fun _ F28=>?_
   refine zrc rfl rfl F28 rfl (y_slOf _ _ _ rfl (F28 24 rfl) (M22.isb (k:=0) rfl) rfl (i:=9) rfl (F28 27 rfl) (j:=E) rfl (by omega) (by omega)) ?_
   intro v29 a29 h29 F29
   have M29:=M22.partB 1 (k:=0) rfl h29.1 h29.2
   obtain ⟨A29,c29,rfl⟩:=(M29.isb (k:=1) rfl).shape
   refine rm rfl F29 fun _ F30=>hK24 _ _ (zSk fun _ hK31=>?_)
   refine zpa F30 [fun vE=>vE=zI (T:Int),fun vE=>vE=.slice A29 (((b.drop 9).take (E-9))).length c29,fun vE=>vE=zI (p:Int),fun vE=>vE=zI (T:Int),fun vE=>vE=.slice A29 (((b.drop 9).take (E-9))).length c29,fun _=>True,fun vE=>vE=.string (⟨((z7a zr p (T:Int) ((b.drop 9).take (E-9)))).toArray⟩),fun vE=>vE=.slice Ab b.length cb,fun vE=>vE=.string (⟨(b).toArray⟩),fun vE=>vE=.bool qG,fun vE=>vE=zI (T:Int),fun vE=>vE=.slice A29 (((b.drop 9).take (E-9))).length c29,fun vE=>vE=.bool qG] (JM none w fun SV pV=>[(0,bytR b (.slice Ab b.length cb)),(1,bytR ((b.drop 9).take (E-9)) (.slice A29 (((b.drop 9).take (E-9))).length c29)),(2,z6a (SV 5) (ownR (z7a zr p (T:Int) ((b.drop 9).take (E-9))) (pV 5)))]) 13 rfl (by kernel_rfl) rfl ⟨trivial,trivial,trivial,trivial,trivial,trivial,trivial,trivial,trivial,trivial,trivial,trivial,trivial,trivial⟩ (fun p=>((M29.step (zma _)).triv 2).sub ⟨rfl,rfl,rfl,trivial⟩) ⟨?_,?_,?_,?_,?_,?_,?_,?_,?_,?_,?_,?_,?_,trivial⟩ ?_
   ·intro ua uw SV pV (M:Mx none w uw _) hk hn hd
    have e7:ua.eval (.tmp 7)=zI (T:Int):=(show ua.eval (.tmp 7)=_ from hd 7 (by decide)).trans (F30 7 rfl)
    exact ze rfl (zI (T:Int)) (zga _ (.inl rfl) e7) rfl (M.sb)
   ·intro ua uw SV pV (M:Mx none w uw _) hk hn hd
    have e8:ua.eval (.tmp 8)=.slice A29 (((b.drop 9).take (E-9))).length c29:=(show ua.eval (.tmp 8)=_ from hd 8 (by decide)).trans (F30 8 rfl)
    exact ze rfl (.slice A29 (((b.drop 9).take (E-9))).length c29) (zga _ (.inl rfl) e8) rfl (M.sb)
   ·intro ua uw SV pV (M:Mx none w uw _) hk hn hd
    have e0:ua.eval (.tmp 0)=zI (p:Int):=(show ua.eval (.tmp 0)=_ from hd 0 (by decide)).trans (F30 0 rfl)
    exact ze rfl (zI (p:Int)) (zga _ (.inl rfl) e0) rfl (M.sb)
   ·intro ua uw SV pV (M:Mx none w uw _) hk hn hd
    have e7:ua.eval (.tmp 7)=zI (T:Int):=(show ua.eval (.tmp 7)=_ from hd 7 (by decide)).trans (F30 7 rfl)
    exact ze rfl (zI (T:Int)) (zga _ (.inl rfl) e7) rfl (M.sb)
   ·intro ua uw SV pV (M:Mx none w uw _) hk hn hd
    have e8:ua.eval (.tmp 8)=.slice A29 (((b.drop 9).take (E-9))).length c29:=(show ua.eval (.tmp 8)=_ from hd 8 (by decide)).trans (F30 8 rfl)
    exact ze rfl (.slice A29 (((b.drop 9).take (E-9))).length c29) (zga _ (.inl rfl) e8) rfl (M.sb)
   ·intro ua uw SV pV (M:Mx none w uw _) hk hn hd
    have e31:ua.eval (.tmp 31)=zI (p:Int):=zQ1 (hd 31 (by decide))
    have e32:ua.eval (.tmp 32)=zI (T:Int):=zQ1 (hd 32 (by decide))
    have e33:ua.eval (.tmp 33)=.slice A29 (((b.drop 9).take (E-9))).length c29:=zQ1 (hd 33 (by decide))
    exact zxa rfl rfl #[zI (p:Int),zI (T:Int),.slice A29 (((b.drop 9).take (E-9))).length c29] (args3 e31 e32 e33) (zE Tryz.func83 rfl) (((rsaid_any p T hp (by omega) ((b.drop 9).take (E-9)) (.slice A29 (((b.drop 9).take (E-9))).length c29) hl9 uw (M.isb (k:=1) rfl))).mono fun e w2 h=>(by obtain ⟨u,h1,h2,h3⟩:=h;exact ⟨u,h1,trivial,(M.newO h3 2 h2).sub ⟨rfl,rfl,rfl,trivial⟩⟩))
   ·intro ua uw SV pV (M:Mx none w uw _) hk hn hd
    obtain ⟨s5,f34,q34⟩:=(show SV 5=true∧ua.eval (.tmp 34)=pV 5∧stE _ 5 (pV 5) from hd 34 (by decide))
    have e34:ua.eval (.tmp 34)=(pV 5):=f34
    exact ze rfl (.string (⟨((z7a zr p (T:Int) ((b.drop 9).take (E-9)))).toArray⟩)) (y_str _ rfl e34 (M.isO (k:=2) (zya s5 rfl))) rfl (M.sb)
   ·intro ua uw SV pV (M:Mx none w uw _) hk hn hd
    have e1:ua.eval (.tmp 1)=.slice Ab b.length cb:=(show ua.eval (.tmp 1)=_ from hd 1 (by decide)).trans (F30 1 rfl)
    exact ze rfl (.slice Ab b.length cb) (zga _ (.inl rfl) e1) rfl (M.sb)
   ·intro ua uw SV pV (M:Mx none w uw _) hk hn hd
    have e36:ua.eval (.tmp 36)=.slice Ab b.length cb:=zQ1 (hd 36 (by decide))
    exact ze rfl (.string (⟨(b).toArray⟩)) (y_str _ rfl e36 (M.isb (k:=0) rfl)) rfl (M.sb)
   ·intro ua uw SV pV (M:Mx none w uw _) hk hn hd
    have e35:ua.eval (.tmp 35)=.string (⟨((z7a zr p (T:Int) ((b.drop 9).take (E-9)))).toArray⟩):=zQ1 (hd 35 (by decide))
    have e37:ua.eval (.tmp 37)=.string (⟨(b).toArray⟩):=zQ1 (hd 37 (by decide))
    exact ze rfl (.bool qG) (y_eqS _ _ _ rfl e35 e37 (str_q hG)) rfl (M.sb)
   ·intro ua uw SV pV (M:Mx none w uw _) hk hn hd
    have e29:ua.eval (.tmp 29)=zI (T:Int):=zQ1 (hd 29 (by decide))
    exact ze rfl (zI (T:Int)) (zga _ (.inr rfl) e29) rfl (M.sb)
   ·intro ua uw SV pV (M:Mx none w uw _) hk hn hd
    have e30:ua.eval (.tmp 30)=.slice A29 (((b.drop 9).take (E-9))).length c29:=zQ1 (hd 30 (by decide))
    exact ze rfl (.slice A29 (((b.drop 9).take (E-9))).length c29) (zga _ (.inr rfl) e30) rfl (M.sb)
   ·intro ua uw SV pV (M:Mx none w uw _) hk hn hd
    have e38:ua.eval (.tmp 38)=.bool qG:=zQ1 (hd 38 (by decide))
    exact ze rfl (.bool qG) (zga _ (.inr rfl) e38) rfl (M.sb)
   intro p32 a32 w32 M32 G32 y32
   obtain ⟨-,-,-,-,-,-,-,-,-,-,q10,q11,q12,-⟩:=y32
   have r10:p32 10=zI (T:Int):=q10
   have r11:p32 11=.slice A29 (((b.drop 9).take (E-9))).length c29:=q11
   have r12:p32 12=.bool qG:=q12
   replace M32:Mx _ _ w32 [(0,bytR b (.slice Ab b.length cb)),(1,bytR ((b.drop 9).take (E-9)) (.slice A29 (((b.drop 9).take (E-9))).length c29)),(2,z6a true (ownR (z7a zr p (T:Int) ((b.drop 9).take (E-9))) (p32 5)))]:=M32
   simp only [List.take,layV,Nat.zero_add,Nat.reduceAdd,r10,r11,r12] at G32
   refine hK31 _ _ (wp_ret ?_)
   try simp only [Exit.then,Exit.inBlock,Exit.jump]
   exact bodyPost_ret (res3 rfl (G32 4 rfl) (G32 5 rfl) (G32 6 rfl)) G32.defers ⟨_,_,((b.drop 9).take (E-9)),rfl,IsB.back (M32.isb (k:=1) rfl) M32.below (fun g hg=>hB.lt (h29.2 g hg)),h29.2,(fun _=>⟨rfl,rfl⟩),M32.below⟩
  ·rw [good_no (p:=p) hK h25 (by rw [hg8];exact h8)]
   refine zk (args:=[zI (p:Int),.slice Ab b.length cb]) 39 Tryz.func92 rfl rfl rfl ?_
   intro fa F
   have M:=Mx.start w
   replace M:=M.argB 0 hB (fun g e=>by cases e)
   refine zT fun _ hK1=>rm rfl F fun _ F2=>rm rfl F2 fun _ F3=>rm rfl F3 fun _ F4=>hK1 _ _ (zSk fun _ hK5=>zT fun _ hK6=>rm rfl F4 fun _ F7=>zc (w':=w) rfl rfl F7 rfl (zI (b.length:Int)) (zcb _ rfl (F7 9 rfl) (M.isb (k:=0) rfl) rfl) fun _ F8=>?_)
   refine zc (w':=w) rfl rfl F8 rfl (.bool false) (zna _ _ _ _ rfl (F8 10 rfl) rfl (decide_eq_false (by omega))) fun _ F9=>?_
   refine rm rfl F9 fun _ F10=>rm rfl F10 fun _ F11=>zc (w':=w) (zd rfl rfl rfl (F11 12 rfl)) rfl F11 rfl (zI (b.length:Int)) (zcb _ rfl (F11 13 rfl) (M.isb (k:=0) rfl) rfl) fun _ F12=>?_
   refine rm rfl F12 fun _ F13=>zc (w':=w) (zd rfl rfl rfl (F13 12 rfl)) rfl F13 rfl ((ixV (.slice Ab b.length cb) 8)) (y_ixB _ _ rfl (F13 15 rfl) (M.isb (k:=0) rfl) rfl rfl hlt8) fun _ F14=>?_
   refine zc (w':=w) (zd rfl rfl rfl (F14 12 rfl)) rfl F14 rfl (zY ((x8.toNat:Nat):Int)) (y_ldB _ rfl (F14 16 rfl) (M.isb (k:=0) rfl) hx8 rfl) fun _ F15=>?_
   refine zc (w':=w) (zd rfl rfl rfl (F15 12 rfl)) rfl F15 rfl (zI ((x8.toNat:Nat):Int)) (y_cvI _ _ _ rfl (F15 17 rfl) Tryz.underlying5 Tryz.underlying3 (byte_i64 _)) fun _ F16=>?_
   refine zc (w':=w) (zd rfl rfl rfl (F16 12 rfl)) rfl F16 rfl (zI (25+((x8.toNat:Nat):Int))) (zsa _ _ _ _ rfl rfl (F16 18 rfl) (by omega) (by omega)) fun _ F17=>?_
   refine zc (w':=w) (zd rfl rfl rfl (F17 12 rfl)) rfl F17 rfl (.bool true) (y_neI _ _ _ _ rfl (F17 14 rfl) (F17 19 rfl) Tryz.underlying3 (y_bneT (by omega))) fun _ F18=>?_
   refine zc (w':=w) rfl rfl F18 rfl (.bool true) (zub rfl (F18 12 rfl) (F18 20 rfl)) fun _ F19=>?_
   refine hK6 _ _ (wp_cond_true (F19 21 rfl) (zT fun _ hK20=>rm rfl F19 fun _ F21=>rm rfl F21 fun a22 F22=>rm rfl F22 fun _ F23=>hK20 _ _ (wp_ret ?_)))
   try simp only [Exit.then,Exit.inBlock,Exit.jump]
   exact bodyPost_ret (res3 rfl (F23.get rfl) (F23.get rfl) (F23.get rfl)) F23.defers ⟨_,_,[],rfl,zka _,fun g hg=>absurd hg (zta g),(fun h=>by cases h),M.below⟩
 ·rw [good_short (p:=p) h25]
  refine zk (args:=[zI (p:Int),.slice Ab b.length cb]) 39 Tryz.func92 rfl rfl rfl ?_
  intro fa F
  have M:=Mx.start w
  replace M:=M.argB 0 hB (fun g e=>by cases e)
  refine zT fun _ hK1=>rm rfl F fun _ F2=>rm rfl F2 fun _ F3=>rm rfl F3 fun _ F4=>hK1 _ _ (zSk fun _ hK5=>zT fun _ hK6=>rm rfl F4 fun _ F7=>zc (w':=w) rfl rfl F7 rfl (zI (b.length:Int)) (zcb _ rfl (F7 9 rfl) (M.isb (k:=0) rfl) rfl) fun _ F8=>?_)
  refine zc (w':=w) rfl rfl F8 rfl (.bool true) (zna _ _ _ _ rfl (F8 10 rfl) rfl (decide_eq_true (by omega))) fun _ F9=>?_
  refine zB 10 [(0,zI (p:Int)),(1,.slice Ab b.length cb),(4,zI 0),(5,zN),(6,.bool false),(21,.bool true)] [] dnil [] F9 fun _ F10=>?_
  refine hK6 _ _ (wp_cond_true (F10 21 rfl) (zT fun _ hK11=>rm rfl F10 fun _ F12=>rm rfl F12 fun _ F13=>rm rfl F13 fun _ F14=>hK11 _ _ (wp_ret ?_)))
  try simp only [Exit.then,Exit.inBlock,Exit.jump]
  exact bodyPost_ret (res3 rfl (F14.get rfl) (F14.get rfl) (F14.get rfl)) F14.defers ⟨_,_,[],rfl,zka _,fun g hg=>absurd hg (zta g),(fun h=>by cases h),M.below⟩
section
open Go.Shelf
section
def celA (c:Nat→CelN) (s n:Nat→Value):Array Value:=#[s 0,n 0,.bool (c 0).f,s 1,n 1,.bool (c 1).f,s 2,n 2,.bool (c 2).f,s 3,n 3,.bool (c 3).f,s 4,n 4,.bool (c 4).f,s 5,n 5,.bool (c 5).f,s 6,n 6,.bool (c 6).f,s 7,n 7,.bool (c 7).f,s 8,n 8,.bool (c 8).f,s 9,n 9,.bool (c 9).f,s 10,n 10,.bool (c 10).f,s 11,n 11,.bool (c 11).f,s 12,n 12,.bool (c 12).f,s 13,n 13,.bool (c 13).f,s 14,n 14,.bool (c 14).f,s 15,n 15,.bool (c 15).f,s 16,n 16,.bool (c 16).f,s 17,n 17,.bool (c 17).f]
theorem cel_in (V:VltN) (s n:Nat→Value):∀ (j:Nat) (v:Value),(celA V.c s n)[j]? = some v→(vltA V s n)[0+j]? = some v:=fun j v h=>by
 have e:vltA V s n=celA V.c s n++#[.bool V.fl,zI V.lf,.bool V.dd]:=by kernel_rfl
 rw [e,Nat.zero_add,Array.getElem?_append_left (Array.getElem?_eq_some_iff.1 h).1]
 exact h
theorem cel_s (c:Nat→CelN) (s n:Nat→Value):∀ {j:Nat},j<18→(celA c s n)[3*j]? = some (s j)
 | j,h=>by
  match j,h with
  | 0,_ | 1,_ | 2,_ | 3,_ | 4,_ | 5,_ | 6,_ | 7,_ | 8,_ | 9,_ | 10,_ | 11,_ | 12,_ | 13,_ | 14,_ | 15,_ | 16,_ | 17,_=>rfl
  | k+18,h=>exact absurd h (by omega)
theorem cel_n (c:Nat→CelN) (s n:Nat→Value):∀ {j:Nat},j<18→(celA c s n)[3*j+1]? = some (n j)
 | j,h=>by
  match j,h with
  | 0,_ | 1,_ | 2,_ | 3,_ | 4,_ | 5,_ | 6,_ | 7,_ | 8,_ | 9,_ | 10,_ | 11,_ | 12,_ | 13,_ | 14,_ | 15,_ | 16,_ | 17,_=>rfl
  | k+18,h=>exact absurd h (by omega)
theorem cel_f (c:Nat→CelN) (s n:Nat→Value):∀ {j:Nat},j<18→(celA c s n)[3*j+2]? = some (.bool (c j).f)
 | j,h=>by
  match j,h with
  | 0,_ | 1,_ | 2,_ | 3,_ | 4,_ | 5,_ | 6,_ | 7,_ | 8,_ | 9,_ | 10,_ | 11,_ | 12,_ | 13,_ | 14,_ | 15,_ | 16,_ | 17,_=>rfl
  | k+18,h=>exact absurd h (by omega)
theorem cel_put (c:Nat→CelN) (s n:Nat→Value) (u v:Value) (x y:List UInt8) (b:Bool):∀ {p:Nat},p<18→((celA c s n).toList.take (3*p)++(#[u,v,.bool b]:Array Value).toList++(celA c s n).toList.drop (3*p+(#[u,v,.bool b]:Array Value).size)).toArray=celA (putC c p ⟨x,y,b⟩) (putN s p u) (putN n p v)
 | p,h=>by
  match p,h with
  | 0,_ | 1,_ | 2,_ | 3,_ | 4,_ | 5,_ | 6,_ | 7,_ | 8,_ | 9,_ | 10,_ | 11,_ | 12,_ | 13,_ | 14,_ | 15,_ | 16,_ | 17,_=>show _=_;kernel_rfl
  | k+18,h=>exact absurd h (by omega)
theorem y_ixCel {a:Act} {w:World} {o:Oper} (x k:Operand) (T:TypeId) (hT:T=76) (ho:o.op=.index T x k) {c:Nat→CelN} {s n:Nat→Value} (hx:a.eval x=.agg (celA c s n)) {z:Int} (hk:a.eval k=zI z):∀ {j:Nat},j<18→z=(j:Int)→(execOp a.eval o).run Tryz.prog w=.ok (.value (.agg #[s j,n j,.bool (c j).f])) w
 | j,h,hz=>by
  subst hT hz
  unfold execOp
  simp only [ho,hx,hk]
  match j,h with
  | 0,_ | 1,_ | 2,_ | 3,_ | 4,_ | 5,_ | 6,_ | 7,_ | 8,_ | 9,_ | 10,_ | 11,_ | 12,_ | 13,_ | 14,_ | 15,_ | 16,_ | 17,_=>show _=_;kernel_rfl
  | k+18,h=>exact absurd h (by omega)
theorem y_mkCel {a:Act} {w:World} {o:Oper} (x y:Operand) (T:TypeId) (hT:Tryz.prog.underlying T=some (.slice 63)) (ho:o.op=.makeSlice T x y) (hx:a.eval x=zI 18) (hy:a.eval y=zI 18):(execOp a.eval o).run Tryz.prog w=.ok (.value (.slice (some ⟨w.heap.size,0,none⟩) 18 18)) (w.alloc (.cells (celA (fun _=>nilC) nilS nilS) 63)):=by
 have hinf:(Tryz.prog.info? 63).map (fun i=>(i.zero,i.size,i.bytes))=some (some (.agg #[zN,zN,.bool false]),3,56):=by kernel_rfl
 obtain ⟨i,hi,hz⟩:=Option.map_eq_some_iff.1 hinf
 simp only [Prod.mk.injEq] at hz
 obtain ⟨h1,h2,h3⟩:=hz
 have h:=run_makeSlice (P:=Tryz.prog) (w:=w) T _ i _ hT hi h1 .i64 .i64 18 18 (by omega) (Int.le_refl _) (by rw [h2];decide) (by rw [h3];decide) (by decide)
 unfold execOp
 simp only [ho,hx,hy,Sem.run_bind,h,Result.andThen_ok,Sem.run_pure]
 rw [h2]
 have e:madeCells (Value.agg #[zN,zN,.bool false]).cells (Int.toNat 18*3)=celA (fun _=>nilC) nilS nilS:=by kernel_rfl
 rw [e]
 rfl
def pureR (p:Prop):Res:=⟨false,fun _=>False,fun _=>p⟩
theorem Mx.pure_ {G:Option Nat} {w0 w:World} {R:List (Nat×Res)} (M:Mx G w0 w R) (i:Nat) {p:Prop} (h:p):Mx G w0 w ((i,pureR p)::R):=M.cons i _ h (fun _ _ _ h=>h) (fun _ h=>h.elim) (fun e=>by cases e) fun _ _ _ _ _ _ h=>h.elim
def cutC (c:Nat→CelN) (j:Nat):Nat→CelN:=fun i=>if i<j then c i else nilC
theorem cutC_0 (c:Nat→CelN):cutC c 0=fun _=>nilC:=funext fun i=>if_neg (Nat.not_lt_zero i)
theorem cutC_next (c:Nat→CelN) (j:Nat):putC (cutC c j) j ⟨(c j).s,(c j).n,(c j).f⟩=cutC c (j+1):=funext fun i=>by
 unfold putC cutC
 by_cases h:i=j
 ·subst h;rw [if_pos rfl,if_pos (by omega)]
 ·rw [if_neg h]
  by_cases h2:i<j
  ·rw [if_pos h2,if_pos (by omega)]
  ·rw [if_neg h2,if_neg (by omega)]
end
end
theorem within6_any (a n:Int) (hn:0<n) (hn':n<9223372036854775808) (ha:-9223372036854775808≤a) (ha':a<9223372036854775808) (w:World):
  Calls Tryz.prog 17 #[.int .i64 a,.int .i64 n] w fun e w'=>e=.returned (.int .i64 (a%n))∧w=w':=by
 obtain ⟨h1,h2,h3,h4⟩:=tmod_case a n hn
 have hz:(n==0)=false:=by simp;omega
 by_cases h:a.tmod n<0
 ·have H:=hid (h2 h)
  clear h1 h2
  go_enter Tryz.func17,Tryz.ntmps17
  go_wp2
  go_ret
  exact ⟨congrArg (fun x=>Ending.returned (.int .i64 x)) H.out,rfl⟩
 ·have H:=hid (h1 (by omega))
  clear h1 h2
  go_enter Tryz.func17,Tryz.ntmps17
  go_wp2
  go_ret
  exact ⟨congrArg (fun x=>Ending.returned (.int .i64 x)) H.out,rfl⟩
theorem top_small {a:Nat} (h:a<4294967296):topI a 8≤32:=by
 by_cases h0:a=0
 ·subst h0;rw [topI_none];decide
 ·have ha:a<4294967296^8:=Nat.lt_trans h (by decide)
  have h1:=Nat.log2_self_le h0
  have h2:a<2^(Nat.log2 a+1):=Nat.lt_log2_self
  have h3:a / 2^(Nat.log2 a)=1:=by
   apply Nat.div_eq_of_lt_le
   ·omega
   ·rw [Nat.pow_succ] at h2;omega
  rw [top_one ha h3]
  have h4:Nat.log2 a<32:=by
   refine Classical.byContradiction fun hn=>?_
   have:2^32≤2^Nat.log2 a:=Nat.pow_le_pow_right (by omega) (by omega)
   omega
  omega
theorem nmB_ne (s:ByteArray):sBy (nmB s)≠[]:=by
 by_cases h:(sBy s).length=0
 ·rw [nmB_nil h];simp [sBy]
 ·rw [nmB_some h]
  simp only [sBy,List.toList_toArray]
  intro e
  have:=congrArg List.length e
  rw [List.length_take] at this
  have h2:=nmL_len (sBy s)
  unfold sBy at h h2
  simp only [List.length_nil] at this
  omega
theorem nmB_size (s:ByteArray):0<(nmB s).size∧(nmB s).size≤16:=by
 have h:=nmB_ne s
 have e:(sBy (nmB s)).length=(nmB s).size:=sBy_len _
 refine ⟨by have:=List.length_pos_iff.2 h;omega,?_⟩
 by_cases h0:(sBy s).length=0
 ·rw [nmB_nil h0];decide
 ·rw [←e,nmB_some h0]
  simp only [sBy,List.toList_toArray,List.length_take]
  omega
theorem name_of {B:ByteArray} (h1:0<B.size) (h2:B.size≤16) (h:∀ x∈sBy B,33≤x.toNat∧x.toNat≤126):nameB B=true:=by
 refine @decide_eq_true _ (Classical.propDecidable _) ⟨h1,h2,fun i hi=>?_⟩
 have hg:(sBy B)[i]? = some (B[i]'hi):=by
  unfold sBy
  rw [Array.getElem?_toList]
  exact Array.getElem?_eq_getElem hi
 have:=h _ (List.mem_of_getElem? hg)
 omega
theorem nmB_ok (s:ByteArray):nameB (nmB s)=true:=by
 refine name_of (nmB_size s).1 (nmB_size s).2 fun x hx=>?_
 by_cases h0:(sBy s).length=0
 ·rw [nmB_nil h0] at hx
  have:x=117:=by simpa [sBy] using hx
  subst this;decide
 ·rw [nmB_some h0] at hx
  simp only [sBy,List.toList_toArray] at hx
  obtain ⟨y,-,hy⟩:=List.mem_map.1 (List.mem_of_mem_take hx)
  rw [←hy]
  exact nmC_in y
theorem kn (n:Int) {k:Int} (hk:0<k):0<(1+n%k).toNat∧(1+n%k).toNat≤k.toNat:=by
 have h1:=Int.emod_nonneg n (show k≠0 by omega)
 have h2:=Int.emod_lt_of_pos n hk
 omega
theorem mkR_ok (n:Int) (s:ByteArray) (b:List UInt8):RecOk (mkR n s b):=by
 have h2:=Int.emod_two_eq n
 have hs:=nmB_size s
 have h6:=Int.emod_nonneg (n.tdiv 11) (show (6:Int)≠0 by decide)
 have h6':=Int.emod_lt_of_pos (n.tdiv 11) (show (0:Int)<6 by decide)
 have h7:=Int.emod_nonneg (n.tdiv 13) (show (1000:Int)≠0 by decide)
 have h7':=Int.emod_lt_of_pos (n.tdiv 13) (show (0:Int)<1000 by decide)
 have h8:=Int.emod_nonneg (n.tdiv 17) (show (1099511627776:Int)≠0 by decide)
 have h8':=Int.emod_lt_of_pos (n.tdiv 17) (show (0:Int)<1099511627776 by decide)
 have h9:=Int.emod_nonneg (n.tdiv 2) (show (4294967296:Int)≠0 by decide)
 have h9':=Int.emod_lt_of_pos (n.tdiv 2) (show (0:Int)<4294967296 by decide)
 have hA:=Int.emod_nonneg (n.tdiv 7) (show (4294967296:Int)≠0 by decide)
 have hA':=Int.emod_lt_of_pos (n.tdiv 7) (show (0:Int)<4294967296 by decide)
 unfold mkR
 exact ⟨(by dsimp only;omega),(by dsimp only;omega),(by dsimp only;omega),(by dsimp only;omega),(by dsimp only;omega),Nat.lt_trans (m:=4294967296) (by dsimp only;omega) (by decide),Nat.lt_trans (m:=4294967296) (by dsimp only;omega) (by decide)⟩
theorem mkR_keep (n:Int) (s:ByteArray) (b:List UInt8):zia (mkR n s b)=true:=by
 have h2:=Int.emod_two_eq n
 have h6:=Int.emod_nonneg (n.tdiv 11) (show (6:Int)≠0 by decide)
 have h6':=Int.emod_lt_of_pos (n.tdiv 11) (show (0:Int)<6 by decide)
 have h7:=Int.emod_nonneg (n.tdiv 13) (show (1000:Int)≠0 by decide)
 have h8:=Int.emod_nonneg (n.tdiv 17) (show (1099511627776:Int)≠0 by decide)
 have h9:=Int.emod_nonneg (n.tdiv 2) (show (4294967296:Int)≠0 by decide)
 have h9':=Int.emod_lt_of_pos (n.tdiv 2) (show (0:Int)<4294967296 by decide)
 have hA:=Int.emod_nonneg (n.tdiv 7) (show (4294967296:Int)≠0 by decide)
 have hA':=Int.emod_lt_of_pos (n.tdiv 7) (show (0:Int)<4294967296 by decide)
 have t1:=top_small (a:=((n.tdiv 2)%4294967296).toNat) (by omega)
 have t2:=top_small (a:=((n.tdiv 7)%4294967296).toNat) (by omega)
 have q2:=Int.emod_nonneg n (show ((min b.length 16+1:Nat):Int)≠0 by omega)
 have q2':=Int.emod_lt_of_pos n (show (0:Int)<((min b.length 16+1:Nat):Int) by omega)
 have q5:=Int.emod_nonneg (n.tdiv 3) (show ((min b.length 48+1:Nat):Int)≠0 by omega)
 have q5':=Int.emod_lt_of_pos (n.tdiv 3) (show (0:Int)<((min b.length 48+1:Nat):Int) by omega)
 unfold zia mkR
 simp only [Bool.and_eq_true,decide_eq_true_eq]
 refine ⟨⟨⟨⟨⟨⟨⟨⟨⟨?_,nmB_ok s⟩,?_⟩,?_⟩,t1⟩,t2⟩,by omega⟩,by omega⟩,by omega⟩,by omega⟩
 ·exact decide_eq_true (by omega)
 ·rw [List.length_take];omega
 ·rw [List.length_take];omega
def nmK (k:Nat):ByteArray:=([({ data:=#[97] }:ByteArray),({ data:=#[98] }:ByteArray),({ data:=#[99,99] }:ByteArray),({ data:=#[100,33] }:ByteArray),({ data:=#[101] }:ByteArray),({ data:=#[102] }:ByteArray),({ data:=#[103] }:ByteArray),({ data:=#[104] }:ByteArray),({ data:=#[105] }:ByteArray),({ data:=#[106,106] }:ByteArray)]:List ByteArray).getD k { data:=#[] }
def nmA:Array Value:=#[.string ({ data:=#[97] }:ByteArray),.string ({ data:=#[98] }:ByteArray),.string ({ data:=#[99,99] }:ByteArray),.string ({ data:=#[100,33] }:ByteArray),.string ({ data:=#[101] }:ByteArray),.string ({ data:=#[102] }:ByteArray),.string ({ data:=#[103] }:ByteArray),.string ({ data:=#[104] }:ByteArray),.string ({ data:=#[105] }:ByteArray),.string ({ data:=#[106,106] }:ByteArray)]
theorem nmA_at:∀ {k:Nat},k<10→nmA[k]? = some (.string (nmK k))
 | k,h=>by
  match k,h with
  | 0,_ | 1,_ | 2,_ | 3,_ | 4,_ | 5,_ | 6,_ | 7,_ | 8,_ | 9,_=>rfl
  | n+10,h=>exact absurd h (by omega)
theorem nmK_ok:∀ {k:Nat},k<10→NameOk (nmK k)
 | k,h=>by
  have one:∀ (l:List UInt8),0<l.length→l.length≤16→(∀ b,b∈l→33≤((b.toNat:Nat):Int)∧((b.toNat:Nat):Int)≤126)→NameOk ⟨l.toArray⟩:=fun l h1 h2 h3=>⟨h1,h2,fun i hi=>h3 _ (by
   show l.toArray[i]∈l
   simp)⟩
  match k,h with
  | 0,_=>exact one [97] (by decide) (by decide) (by decide)
  | 1,_=>exact one [98] (by decide) (by decide) (by decide)
  | 2,_=>exact one [99,99] (by decide) (by decide) (by decide)
  | 3,_=>exact one [100,33] (by decide) (by decide) (by decide)
  | 4,_=>exact one [101] (by decide) (by decide) (by decide)
  | 5,_=>exact one [102] (by decide) (by decide) (by decide)
  | 6,_=>exact one [103] (by decide) (by decide) (by decide)
  | 7,_=>exact one [104] (by decide) (by decide) (by decide)
  | 8,_=>exact one [105] (by decide) (by decide) (by decide)
  | 9,_=>exact one [106,106] (by decide) (by decide) (by decide)
  | n+10,h=>exact absurd h (by omega)
def recK (n:Int) (b:List UInt8) (k:Nat):RecN:={ mkR n { data:=#[] } b with s:=nmK k }
theorem recK_ok (n:Int) (b:List UInt8) {k:Nat} (hk:k<10):RecOk (recK n b k):=by
 have h:=mkR_ok n { data:=#[] } b
 exact ⟨h.p,h.t,h.c,h.z,by have:=(nmK_ok hk).2.1;show (nmK k).size≤1000;omega,h.a,h.b⟩
theorem recK_keep (n:Int) (b:List UInt8) {k:Nat} (hk:k<10):zia (recK n b k)=true:=by
 have h:=mkR_keep n { data:=#[] } b
 unfold zia at h ⊢
 simp only [Bool.and_eq_true,decide_eq_true_eq] at h ⊢
 obtain ⟨⟨⟨⟨⟨⟨⟨⟨⟨h1,h2⟩,h3⟩,h4⟩,h5⟩,h6⟩,h7⟩,h8⟩,h9⟩,h10⟩:=h
 exact ⟨⟨⟨⟨⟨⟨⟨⟨⟨h1,@decide_eq_true _ (Classical.propDecidable _) (nmK_ok hk)⟩,h3⟩,h4⟩,h5⟩,h6⟩,h7⟩,h8⟩,h9⟩,h10⟩
theorem names6_any  (w:World):
  Calls Tryz.prog 34 #[] w fun e w'=>∃ gq,e=.returned (.slice (some ⟨gq,0,none⟩) 10 10)∧w.heap.size≤gq∧w'.heap[gq]? = some (.cells nmA 9 (0,0))∧Below w.heap.size w w':=by
 refine zk (args:=[]) 2 Tryz.func34 rfl rfl rfl ?_
 intro fa F
 have M:=Mx.start w
 refine zT fun _ hK1=>rm rfl F fun _ F2=>hK1 _ _ (zT fun _ hK3=>?_)
 refine wl_allocS rfl rfl F2 rfl M 0 (t:=9) (c:=#[.string ({ data:=#[97] }),.string ({ data:=#[98] }),.string ({ data:=#[99,99] }),.string ({ data:=#[100,33] }),.string ({ data:=#[101] }),.string ({ data:=#[102] }),.string ({ data:=#[103] }),.string ({ data:=#[104] }),.string ({ data:=#[105] }),.string ({ data:=#[106,106] })]) (k:=10) (m:=10) (y_litG 45 9 (s:=1) (zv:=.string "".toUTF8) Tryz.underlying45 (by kernel_rfl) (by kernel_rfl) rfl (#[.string ({ data:=#[97] }),.string ({ data:=#[98] }),.string ({ data:=#[99,99] }),.string ({ data:=#[100,33] }),.string ({ data:=#[101] }),.string ({ data:=#[102] }),.string ({ data:=#[103] }),.string ({ data:=#[104] }),.string ({ data:=#[105] }),.string ({ data:=#[106,106] })]) (by decide) (by decide) (by simp only [List.map_toArray,List.map_cons,List.map_nil];kernel_rfl)) ?_
 intro g4 a4 w4 F4 M4
 exact rm rfl F4 fun _ F5=>hK3 _ _ (wp_ret (bodyPost_ret (res1 rfl (F5.get rfl)) F5.defers ⟨g4,rfl,(M4.own 0 _ rfl rfl _ rfl).resolve_right (fun e=>by cases e),M4.blk (k:=0) rfl,M4.below⟩))
theorem names6_ex (w:World):Calls Tryz.prog 34 #[] w fun e w'=>∃ t,e=.returned t∧∃ gq,t=.slice (some ⟨gq,0,none⟩) 10 10∧w.heap.size≤gq∧w'.heap[gq]? = some (.cells nmA 9 (0,0))∧Below w.heap.size w w':=
 (names6_any w).mono fun e w' ⟨gq,h1,h2,h3,h4⟩=>⟨_,h1,gq,rfl,h2,h3,h4⟩
theorem rec6_any (n:Int) (b:List UInt8) (bv:Value) (hn:-9223372036854775808≤n∧n<9223372036854775808) (hb:b.length≤1000) (w:World) (hB:IsB w b bv):
  Calls Tryz.prog 21 #[zI n,bv] w fun e w'=>∃ t,e=.returned t∧∃ V,t=.agg (recA (recK n b ((n.tdiv 23)%10).toNat) V)∧RecIs w' (recK n b ((n.tdiv 23)%10).toNat) V∧(∀ q,bfp V.v2 q∨bfp V.v5 q→w.heap.size≤q)∧Below w.heap.size w w':=by
 obtain ⟨k,hk,hk10⟩:∃ k:Nat,(n.tdiv 23)%10=(k:Int)∧k<10:=⟨((n.tdiv 23)%10).toNat,by omega,by omega⟩
 rw [show ((n.tdiv 23)%10).toNat=k by omega]
 have hq0:=tdiv_in hn (show (0:Int)<23 by decide)
 have hq:-9223372036854775808≤n.tdiv 23∧n.tdiv 23<9223372036854775808:=by omega
 obtain ⟨r,er⟩:∃ x,mkR n { data:=#[] } b=x:=⟨_,rfl⟩
 rw [show recK n b k={ r with s:=nmK k } by rw [recK,er]]
 obtain ⟨Ab,cb,rfl⟩:=hB.shape
 refine zk (args:=[zI n,.slice Ab b.length cb]) 17 Tryz.func21 rfl rfl rfl ?_
 intro fa F
 have M:=Mx.start w
 replace M:=M.argB 0 hB (fun g e=>by cases e)
 refine zT fun _ hK1=>zq rfl rfl F rfl M 1 (t:=37) (c:=recA ⟨0, "".toUTF8,[],0,0,[],0,0,0⟩ ⟨zN,zN⟩) (by unfold execOp;kernel_rfl) ?_
 intro g2 a2 w2 F2 M2
 refine hK1 _ _ (zT fun _ hK3=>rm rfl F2 fun _ F4=>rm rfl F4 fun _ F5=>zh rfl rfl F5 rfl rfl (zE Tryz.func47 rfl) #[zI n,.string ({ data:=#[] }),.slice Ab b.length cb] (args3 (F5 6 rfl) rfl (F5 7 rfl)) (maker_is n ({ data:=#[] }) b (.slice Ab b.length cb) hn (by decide) hb r er w2 (M2.isb (k:=0) rfl)) ?_)
 rintro _ w6 a6 ⟨V6,rfl,is6,lo6,b6⟩ F6
 have lo0:=fun q h=>Nat.le_trans M2.le (lo6 q h)
 have M6:=M2.newRec b6 is6 lo6 2 3
 clear M2 b6 lo6
 refine zq rfl rfl F6 rfl M6 4 (t:=37) (c:=recA ⟨0, "".toUTF8,[],0,0,[],0,0,0⟩ ⟨zN,zN⟩) (by unfold execOp;kernel_rfl) ?_
 intro g7 a7 w7 F7 M7
 refine zt rfl rfl F7 M7 (k:=4) rfl _ _ _ rfl (F7 5 rfl) (F7 8 rfl) (recA r V6) _ rfl (zL rfl) (z3a (w:=w7) ⟨(M7.isb (k:=2) rfl),(M7.isb (k:=3) rfl)⟩) (zfa rfl) (by kernel_rfl) ?_
 intro w8 M8
 refine hK3 _ _ (zT fun _ hK9=>zh rfl rfl F7 rfl rfl (zE Tryz.func34 rfl) #[] (args0) (names6_ex w8) ?_)
 rintro _ w10 a10 ⟨gq10,rfl,hg10,hc10,b10⟩ F10
 have M10:=M8.newb b10 5 hg10 hc10
 clear M8 b10 hg10 hc10
 refine rm rfl F10 fun _ F11=>zc (w':=w10) rfl rfl F11 rfl (zI (n.tdiv 23)) (y_quoT _ _ _ _ rfl (F11 10 rfl) rfl hn (by decide) rfl) fun _ F12=>?_
 refine zh rfl rfl F12 rfl rfl (zE Tryz.func17 rfl) #[zI (n.tdiv 23),zI 10] (zea (F12 11 rfl) rfl) (zda ((hk▸within6_any (n.tdiv 23) 10 (by omega) (by omega) hq.1 hq.2 w10))) ?_
 rintro _ w13 a13 ⟨rfl,rfl⟩ F13
 refine zc (w':=w10) rfl rfl F13 rfl (zP gq10 k) (zkc 45 (s:=1) Tryz.underlying45 (by kernel_rfl) _ _ rfl (F13 9 rfl) (F13 12 rfl) rfl hk10 (by omega)) fun _ F14=>?_
 refine zc (w':=w10) rfl rfl F14 rfl (.string (nmK k)) (zha _ _ rfl (F14 13 rfl) (M10.blk (k:=5) rfl) (nmA_at hk10) Tryz.underlying9 rfl) fun _ F15=>?_
 refine zc (w':=w10) rfl rfl F15 rfl (zP g7 1) (y_fa (off:=1) rfl (F15 5 rfl) (by kernel_rfl) rfl) fun _ F16=>?_
 refine zt rfl rfl F16 M10 (k:=4) rfl _ _ _ rfl (F16 15 rfl) (F16 14 rfl) (#[.string (nmK k)]) (recA ⟨r.p,(nmK k),r.l2,r.a,r.b,r.l5,r.t,r.c,r.z⟩ ⟨V6.v2,V6.v5⟩) rfl (zL rfl) (one_str _) (by kernel_rfl) (by kernel_rfl) ?_
 intro w17 M17
 refine hK9 _ _ (zT fun _ hK18=>zc (w':=w17) rfl rfl F16 rfl _ (zdb _ _ rfl (F16 5 rfl) (M17.blk (k:=4) rfl) (recA ⟨r.p,(nmK k),r.l2,r.a,r.b,r.l5,r.t,r.c,r.z⟩ ⟨V6.v2,V6.v5⟩) (zib rfl) Tryz.underlying37 rfl (by kernel_rfl)) fun _ F19=>?_)
 refine zt rfl rfl F19 M17 (k:=1) rfl _ _ _ rfl (F19 4 rfl) (F19 16 rfl) (recA ⟨r.p,(nmK k),r.l2,r.a,r.b,r.l5,r.t,r.c,r.z⟩ ⟨V6.v2,V6.v5⟩) _ rfl (zL rfl) (z3a (w:=w17) (r:=⟨r.p,nmK k,r.l2,r.a,r.b,r.l5,r.t,r.c,r.z⟩) ⟨(M17.isb (k:=2) rfl),(M17.isb (k:=3) rfl)⟩) (zfa rfl) (by kernel_rfl) ?_
 intro w20 M20
 exact hK18 _ _ (wp_ret (bodyPost_ret (results_cell_row rfl _ _ _ _ _ (0,0) _ (F19.get rfl) (M20.blk (k:=1) rfl) Tryz.underlying37 rfl (by kernel_rfl)) F19.defers ⟨_,rfl,⟨V6.v2,V6.v5⟩,rfl,⟨(M20.isb (k:=2) rfl),(M20.isb (k:=3) rfl)⟩,(fun q h=>h.elim (fun h=>lo0 q (.inl h)) (fun h=>lo0 q (.inr h))),M20.below⟩))
theorem cel_one {w:World} {l r:List UInt8} {u v:Value} {b:Bool} (h:IsB w l u) (h2:IsB w r v):(#[u,v,.bool b]:Array Value).all (·.oneCell')=true:=by
 obtain ⟨A,c,rfl⟩:=h.shape
 obtain ⟨A',c',rfl⟩:=h2.shape
 simp [Value.oneCell']
def CelsAt (w:World) (B gq:Nat) (c:Nat→CelN) (s n:Nat→Value):Prop:=w.heap[gq]? = some (.cells (celA c s n) 63 (0,0))∧B≤gq∧(∀ i,i<18→IsB w (c i).s (s i)∧IsB w (c i).n (n i)∧∀ b,bfp (s i) b∨bfp (n i) b→B≤b)∧∀ i,i<18→¬bfp (s i) gq∧¬bfp (n i) gq
theorem copies_any (g:Nat) (V:VltN) (s n:Nat→Value) (hv:z2a V) (w:World) (h:HasV w g V s n):
  Calls Tryz.prog 60 #[(zO g)] w fun e w'=>∃ gq s' n',e=.returned (.slice (some ⟨gq,0,none⟩) 18 18)∧CelsAt w' w.heap.size gq V.c s' n'∧Below w.heap.size w w':=by
 refine zk (args:=[(zO g)]) 29 Tryz.func60 rfl rfl rfl ?_
 intro fa F
 have M:=Mx.start w
 replace M:=M.argO 0 h.blk (fun b e=>by cases e)
 refine zT fun _ hK1=>rm rfl F fun _ F2=>hK1 _ _ (zT fun _ hK3=>wl_allocS rfl rfl F2 rfl M 1 (t:=63) (c:=celA (fun _=>nilC) nilS nilS) (k:=18) (m:=18) (y_mkCel _ _ _ Tryz.underlying49 rfl rfl rfl) ?_)
 intro g4 a4 w4 F4 M4
 have N4:=M4.rowsNil 2 w.heap.size 18
 rw [←cutC_0 V.c] at N4
 refine rm rfl F4 fun _ F5=>hK3 _ _ (zSk fun _ hK6=>zT fun _ hK7=>zB 3 [(2,zN),(3,.slice (some ⟨g4,0,none⟩) 18 18),(9,(zO g))] [] dnil [] F5 fun _ F8=>?_)
 refine zc (w':=w4) rfl rfl F8 rfl _ (zdb _ _ rfl (F8 9 rfl) (N4.roB (k:=0) rfl) (celA V.c s n) (cel_in V s n) Tryz.underlying76 rfl (by kernel_rfl)) fun _ F9=>?_
 refine rm rfl F9 fun _ F10=>hK7 _ _ (wp_block (zob (α:=Nat×(Nat→Value)×(Nat→Value)) (n:=29) (G:=none) (w0:=w) (fun x=>[(3,.slice (some ⟨g4,0,none⟩) 18 18),(10,.agg (celA V.c s n)),(11,zI (x.1:Int))]) (fun x=>[(2,zza w.heap.size 18 (cutC V.c x.1) x.2.1 x.2.2),(1,blkR g4 63 (celA (cutC V.c x.1) x.2.1 x.2.2)),(0,blkO g 80 (vltA V s n))]) (fun k x=>k=(18-x.1)∧(x.1≤18)) _ ⟨0,nilS,nilS⟩ ⟨rfl,(Nat.zero_le _)⟩ (F10.sb) (N4.sb) ?_))
 clear F10 N4
 rintro k11 ⟨jn,so,no⟩ a11 w11 K11 ⟨ek11,I11⟩ F11 M11 hK11
 replace F11:Fx 29 a11 [(3,.slice (some ⟨g4,0,none⟩) 18 18),(10,.agg (celA V.c s n)),(11,zI (jn:Int))]:=F11
 replace M11:Mx _ _ w11 [(2,zza w.heap.size 18 (cutC V.c jn) so no),(1,blkR g4 63 (celA (cutC V.c jn) so no)),(0,blkO g 80 (vltA V s n))]:=M11
 replace I11:jn≤18:=I11
 replace ek11:k11=(18-jn):=ek11
 have hj:=I11
 by_cases hlt:jn<18
 ·refine zT fun _ hK12=>zc (w':=w11) rfl rfl F11 rfl (.bool true) (zna _ _ _ _ rfl (F11 11 rfl) rfl (decide_eq_true (show (jn:Int)<18 by omega))) fun _ F13=>?_
  refine hK12 _ _ (zSk fun _ hK14=>wp_cond_true (F13 12 rfl) (wp_skip (hK14 _ _ (zSk fun _ hK15=>wp_block (zT fun _ hK16=>rm rfl F13 fun _ F17=>zc (w':=w11) rfl rfl F17 rfl (.agg (#[(s jn),(n jn),.bool ((V.c jn).f)])) (y_ixCel _ _ _ rfl rfl (F17 10 rfl) (F17 11 rfl) hlt rfl) fun _ F18=>?_)))))
  refine zq rfl rfl F18 rfl M11 3 (t:=63) (c:=#[zN,zN,.bool false]) (by unfold execOp;kernel_rfl) ?_
  intro g19 a19 w19 F19 M19
  refine rm rfl F19 fun _ F20=>zt rfl rfl F20 M19 (k:=3) rfl _ _ _ rfl (F20 5 rfl) (F20 14 rfl) (#[(s jn),(n jn),.bool ((V.c jn).f)]) _ rfl (zL rfl) (cel_one ((h.hs jn hlt).step M19.below) ((h.hn jn hlt).step M19.below)) (zfa rfl) (by kernel_rfl) ?_
  intro w21 M21
  refine hK16 _ _ ?_
  refine zpa F20 (SE [.inl (.slice (some ⟨g4,0,none⟩) 18 18),.inl (zI (jn:Int)),.inl (zO g19),.inl ((s jn)),.inr (fun _=>True),.inl (zP g19 1),.inl ((n jn)),.inr (fun _=>True),.inl (zP g19 2),.inl (.bool ((V.c jn).f)),.inr (fun _=>True)]) (JM none w fun SV pV=>[(2,zza w.heap.size 18 (cutC V.c jn) so no),(1,blkR g4 63 (celA (cutC V.c jn) so no)),(0,blkO g 80 (vltA V s n)),(3,blkR g19 63 (#[(s jn),(n jn),.bool ((V.c jn).f)])),(4,z6a (SV 4) (ownR ((V.c jn).s) (pV 4))),(5,z6a (SV 7) (ownR ((V.c jn).n) (pV 7))),(6,z6a (SV 10) (pureR (pV 10=.agg #[(pV 4),(pV 7),.bool (V.c jn).f])))]) 11 rfl (by kernel_rfl) rfl ⟨trivial,trivial,trivial,trivial,trivial,trivial,trivial,trivial,trivial,trivial,trivial,trivial⟩ (fun p=>((((M21.step (zma _)).triv 4).triv 5).triv 6).sub ⟨rfl,rfl,rfl,rfl,rfl,rfl,rfl,trivial⟩) ⟨z9a F20,z9a F20,z9a F20,?_,?_,z9a F20,?_,?_,z9a F20,hopMP F20 (fun _ _ _ M=>zx (Mx.blk (k:=3) M rfl) dnil) (some g19),?_,trivial⟩ ?_
  ·intro ua uw SV pV (M:Mx none w uw _) hk hn hd
   have e17:ua.eval (.tmp 17)=(zO g19):=zQ1 (hd 17 (by decide))
   exact ze rfl ((s jn)) (zha _ _ rfl e17 (M.blk (k:=3) rfl) rfl Tryz.underlying23 rfl) rfl (M.sb)
  ·intro ua uw SV pV (M:Mx none w uw _) hk hn hd
   have e18:ua.eval (.tmp 18)=(s jn):=zQ1 (hd 18 (by decide))
   exact zxa rfl rfl #[(s jn)] (zca e18) (zE Tryz.func90 rfl) (((clone_any ((V.c jn).s) ((s jn)) (by have:=hv jn hlt;omega) uw ((h.hs jn hlt).step M.below))).mono fun e w2 h=>(by obtain ⟨u,h1,h2,h3⟩:=h;exact ⟨u,h1,trivial,(M.newO h3 4 h2).sub ⟨rfl,rfl,rfl,rfl,rfl,rfl,(condR_off (hn 10 (by kernel_rfl)) rfl),trivial⟩⟩))
  ·intro ua uw SV pV (M:Mx none w uw _) hk hn hd
   have e20:ua.eval (.tmp 20)=(zP g19 1):=zQ1 (hd 20 (by decide))
   exact ze rfl ((n jn)) (zha _ _ rfl e20 (M.blk (k:=3) rfl) rfl Tryz.underlying23 rfl) rfl (M.sb)
  ·intro ua uw SV pV (M:Mx none w uw _) hk hn hd
   have e21:ua.eval (.tmp 21)=(n jn):=zQ1 (hd 21 (by decide))
   exact zxa rfl rfl #[(n jn)] (zca e21) (zE Tryz.func90 rfl) (((clone_any ((V.c jn).n) ((n jn)) (by have:=hv jn hlt;omega) uw ((h.hn jn hlt).step M.below))).mono fun e w2 h=>(by obtain ⟨u,h1,h2,h3⟩:=h;exact ⟨u,h1,trivial,(M.newO h3 5 h2).sub ⟨rfl,rfl,rfl,rfl,rfl,rfl,(condR_off (hn 10 (by kernel_rfl)) rfl),trivial⟩⟩))
  ·intro ua uw SV pV (M:Mx none w uw _) hk hn hd
   obtain ⟨s4,f19,q19⟩:=(show SV 4=true∧ua.eval (.tmp 19)=pV 4∧stE _ 4 (pV 4) from hd 19 (by decide))
   have e19:ua.eval (.tmp 19)=(pV 4):=f19
   obtain ⟨s7,f22,q22⟩:=(show SV 7=true∧ua.eval (.tmp 22)=pV 7∧stE _ 7 (pV 7) from hd 22 (by decide))
   have e22:ua.eval (.tmp 22)=(pV 7):=f22
   have e24:ua.eval (.tmp 24)=.bool ((V.c jn).f):=zQ1 (hd 24 (by decide))
   obtain ⟨A0_,c0_,h0_⟩:=(M.isO (k:=4) (zya s4 rfl)).shape
   obtain ⟨A1_,c1_,h1_⟩:=(M.isO (k:=5) (zya s7 rfl)).shape
   exact ze rfl (.agg #[(pV 4),(pV 7),.bool (V.c jn).f]) (by unfold execOp;simp only [List.map_toArray,List.map_cons,List.map_nil,e19,e22,e24,h0_,h1_];kernel_rfl) trivial ((M.pure_ 6 rfl).sub ⟨rfl,rfl,rfl,rfl,rfl,rfl,rfl,trivial⟩)
  intro p22 a22 w22 M22 G22 y22
  obtain ⟨q0,q1,-,-,-,-,-,-,-,-,q10,-⟩:=y22
  have r0:p22 0=.slice (some ⟨g4,0,none⟩) 18 18:=q0
  have r1:p22 1=zI (jn:Int):=q1
  have r10:p22 10=.agg #[(p22 4),(p22 7),.bool (V.c jn).f]:=(show (pureR (p22 10=.agg #[(p22 4),(p22 7),.bool (V.c jn).f])).F _ from Mx.at_ (show Mx _ _ _ _ from M22) 6 _ rfl)
  replace M22:Mx _ _ w22 [(2,zza w.heap.size 18 (cutC V.c jn) so no),(1,blkR g4 63 (celA (cutC V.c jn) so no)),(0,blkO g 80 (vltA V s n)),(3,blkR g19 63 (#[(s jn),(n jn),.bool ((V.c jn).f)])),(4,z6a true (ownR ((V.c jn).s) (p22 4))),(5,z6a true (ownR ((V.c jn).n) (p22 7))),(6,z6a true (pureR (p22 10=.agg #[(p22 4),(p22 7),.bool (V.c jn).f])))]:=M22
  simp only [List.take,layV,Nat.zero_add,Nat.reduceAdd,r0,r1,r10] at G22
  obtain ⟨Ap22_4,cp22_4,hp22_4⟩:=(M22.isO (k:=4) rfl).shape
  rw [hp22_4] at M22
  try rw [hp22_4] at G22
  obtain ⟨Ap22_5,cp22_5,hp22_5⟩:=(M22.isO (k:=5) rfl).shape
  rw [hp22_5] at M22
  try rw [hp22_5] at G22
  refine zc (w':=w22) rfl rfl G22 rfl (zP g4 (3*jn)) (zkc 49 (s:=3) Tryz.underlying49 (by kernel_rfl) _ _ rfl (G22 15 rfl) (G22 16 rfl) rfl hlt (by omega)) fun _ F23=>?_
  clear G22
  refine zt rfl rfl F23 M22 (k:=1) rfl _ _ _ rfl (F23 26 rfl) (F23 25 rfl) (#[(.slice Ap22_4 ((V.c jn).s).length cp22_4),(.slice Ap22_5 ((V.c jn).n).length cp22_5),.bool ((V.c jn).f)]) (celA (putC (cutC V.c jn) jn ⟨(V.c jn).s,(V.c jn).n,(V.c jn).f⟩) (putN so jn ((.slice Ap22_4 ((V.c jn).s).length cp22_4))) (putN no jn ((.slice Ap22_5 ((V.c jn).n).length cp22_5)))) rfl (show 3*jn+3≤54 by omega) (by simp [Value.oneCell']) (cel_put (cutC V.c jn) so no ((.slice Ap22_4 ((V.c jn).s).length cp22_4)) ((.slice Ap22_5 ((V.c jn).n).length cp22_5)) (V.c jn).s (V.c jn).n (V.c jn).f hlt) (by kernel_rfl) ?_
  intro w24 M24
  refine hK15 _ _ (zR (zc (w':=w24) rfl rfl F23 rfl (zI ((jn+1:Nat):Int)) (zsa _ _ _ _ rfl (F23 11 rfl) rfl (by omega) (by omega)) fun _ F25=>?_))
  refine rm rfl F25 fun _ F26=>?_
  have M27:=M24.rowsTwo (i:=2) (k:=4) (k2:=5) (f:=(V.c jn).f) rfl rfl rfl (fun b hb=>M24.owns (k:=4) rfl b (z1a hb)) (fun b hb=>M24.owns (k:=5) rfl b (z1a hb)) jn (by decide)
  rw [cutC_next] at M27
  subst ek11
  exact hK11 _ ⟨(jn+1),(putN so jn ((.slice Ap22_4 ((V.c jn).s).length cp22_4))),(putN no jn ((.slice Ap22_5 ((V.c jn).n).length cp22_5)))⟩ _ _ (by omega) ⟨rfl,(by omega)⟩ (F26.sb) (M27.sb)
 ·have hj18:jn=18:=by omega
  refine zT fun _ hK28=>zc (w':=w11) rfl rfl F11 rfl (.bool false) (zna _ _ _ _ rfl (F11 11 rfl) rfl (decide_eq_false (show ¬(jn:Int)<18 by omega))) fun _ F29=>?_
  refine hK28 _ _ (zSk fun _ hK30=>wp_cond_false (F29 12 rfl) (wp_exit ?_))
  simp only [Exit.then,Exit.inBlock,↓reduceIte,Nat.reduceEqDiff]
  refine hK6 _ _ (zT fun _ hK31=>rm rfl F29 fun _ F32=>?_)
  exact rm rfl F32 fun _ F33=>hK31 _ _ (wp_ret (bodyPost_ret (res1 rfl (F33.get rfl)) F33.defers ⟨g4,so,no,rfl,(by subst hj18;exact ⟨M11.blk (k:=1) rfl,(M11.own 1 _ rfl rfl _ rfl).resolve_right (fun e=>by cases e),fun i hi=>(by have q:=M11.rowsAt (i:=2) rfl i hi;rwa [show cutC V.c 18 i=V.c i from if_pos hi] at q),fun i hi=>⟨fun hb=>M11.dis 1 2 _ _ rfl rfl (by decide) rfl _ rfl ⟨i,hi,.inl hb⟩,fun hb=>M11.dis 1 2 _ _ rfl rfl (by decide) rfl _ rfl ⟨i,hi,.inr hb⟩⟩⟩),M11.below⟩))
theorem copies_ex (g:Nat) (V:VltN) (s n:Nat→Value) (hv:z2a V) (w:World) (h:HasV w g V s n):Calls Tryz.prog 60 #[(zO g)] w fun e w'=>∃ t,e=.returned t∧∃ gq s' n',t=.slice (some ⟨gq,0,none⟩) 18 18∧CelsAt w' w.heap.size gq V.c s' n'∧Below w.heap.size w w':=
 (copies_any g V s n hv w h).mono fun e w' ⟨gq,s',n',h1,h2,h3⟩=>⟨_,h1,gq,s',n',rfl,h2,h3⟩
theorem CelsAt.low {w:World} {B B' gq:Nat} {c:Nat→CelN} {s n:Nat→Value} (h:CelsAt w B gq c s n) (hb:B'≤B):CelsAt w B' gq c s n:=
 ⟨h.1,Nat.le_trans hb h.2.1,fun i hi=>⟨(h.2.2.1 i hi).1,(h.2.2.1 i hi).2.1,fun b hb2=>Nat.le_trans hb ((h.2.2.1 i hi).2.2 b hb2)⟩,h.2.2.2⟩
theorem CelsAt.step {w w':World} {B gq:Nat} {c:Nat→CelN} {s n:Nat→Value} (h:CelsAt w B gq c s n) (hb:Below w.heap.size w w'):CelsAt w' B gq c s n:=
 ⟨(hb.block gq (z8a h.1)).trans h.1,h.2.1,fun i hi=>⟨(h.2.2.1 i hi).1.step hb,(h.2.2.1 i hi).2.1.step hb,(h.2.2.1 i hi).2.2⟩,h.2.2.2⟩
theorem cells_any (g:Nat) (V:VltN) (s n:Nat→Value) (hv:z2a V) (w:World) (h:HasV w g V s n):
  Calls Tryz.prog 28 #[(zO g)] w fun e w'=>∃ gq s' n',e=.returned (.slice (some ⟨gq,0,none⟩) 18 18)∧CelsAt w' w.heap.size gq V.c s' n'∧Below w.heap.size w w':=by
 refine zk (args:=[(zO g)]) 7 Tryz.func28 rfl rfl rfl ?_
 intro fa F
 have M:=Mx.start w
 replace M:=M.argO 0 h.blk (fun b e=>by cases e)
 refine zT fun _ hK1=>rm rfl F fun _ F2=>hK1 _ _ (zT fun _ hK3=>zB 3 [(2,zN),(5,(zO g))] [] dnil [] F2 fun _ F4=>?_)
 refine zh rfl rfl F4 rfl rfl (zE Tryz.func60 rfl) #[(zO g)] (zca (F4 5 rfl)) (copies_ex g V s n hv w (h.step M.below)) ?_
 rintro _ w5 a5 ⟨gq5,s5,n5,rfl,hq5,b5⟩ F5
 have hle:=M.le
 have M5:=M.step b5
 exact rm rfl F5 fun _ F6=>hK3 _ _ (wp_ret (bodyPost_ret (res1 rfl (F6.get rfl)) F6.defers ⟨gq5,s5,n5,rfl,CelsAt.low hq5 hle,M5.below⟩))
section
open Go.Shelf
section
variable {G:Option Nat} {w0 w w':World} {R:List (Nat×Res)} {kg kr g:Nat} {t:TypeId} {a a':Array Value} {c c':Nat→CelN} {s n s' n':Nat→Value}
theorem Mx.vault (M:Mx G w0 w R) (hk:look R kg=some (blkR g t a)) (hrr:look R kr=some (zza 0 18 c s n)) (hb:w.grownBy w' (some g)) (hblk:w'.heap[g]? = some (.cells a' t (0,0))) (hrow:RowsV w' g c' s' n') (hto:∀ b,zo 18 s' n' b→zo 18 s n b∨w.heap.size≤b):Mx G w0 w' ((kr,zza 0 18 c' s' n')::(kg,blkR g t a')::R):=
 (M.put hk hb hblk).cons kr _ (fun j hj=>⟨(hrow j hj).1.1,(hrow j hj).2.1,fun _ _=>Nat.zero_le _⟩) rows_dep (fun b ⟨j,hj,h⟩=>by
  rcases h with h | h
  ·exact (hrow j hj).1.1.lt h
  ·exact (hrow j hj).2.1.lt h) (fun e=>by cases e) fun k r e hkk hw b h h2=>by
  rcases hw with hw | hw
  ·cases hw
  rw [zz] at e
  split at e
  ·cases e
   obtain rfl:b=g:=h2
   obtain ⟨j,hj,h⟩:=h
   rcases h with h | h
   ·exact (hrow j hj).1.2 h
   ·exact (hrow j hj).2.2 h
  ·rcases hto b h with h | h
   ·exact M.dis k kr r _ e hrr (fun e2=>hkk e2.symm) hw b h2 h
   ·have:=M.lt k r e b h2
    omega
theorem Mx.newVault (M:Mx G w0 w R) (hb:Below w.heap.size w w') (kg kr:Nat) (hg:w.heap.size≤g) (hblk:w'.heap[g]? = some (.cells a' t (0,0))) (hrow:RowsV w' g c' s' n') (hto:∀ b,zo 18 s' n' b→w.heap.size≤b):Mx G w0 w' ((kr,zza 0 18 c' s' n')::(kg,blkR g t a')::R):=
 (M.newb hb kg hg hblk).cons kr _ (fun j hj=>⟨(hrow j hj).1.1,(hrow j hj).2.1,fun _ _=>Nat.zero_le _⟩) rows_dep (fun b ⟨j,hj,h⟩=>by
  rcases h with h | h
  ·exact (hrow j hj).1.1.lt h
  ·exact (hrow j hj).2.1.lt h) (fun e=>by cases e) fun k r e hkk hw b h h2=>by
  rcases hw with hw | hw
  ·cases hw
  rw [zz] at e
  split at e
  ·cases e
   obtain rfl:b=g:=h2
   obtain ⟨j,hj,h⟩:=h
   rcases h with h | h
   ·exact (hrow j hj).1.2 h
   ·exact (hrow j hj).2.2 h
  ·have:=M.lt k r e b h2
   have:=hto b h
   omega
theorem Mx.hasV (M:Mx G w0 w R) {V:VltN} (hk:look R kg=some (blkR g 80 (vltA V s n))) (hrr:look R kr=some (zza 0 18 V.c s n)) (hne:kr≠kg):HasV w g V s n:=HasV.of (M.blk hk) (M.rowsV hrr hk hne)
theorem Mx.freeze (M:Mx G w0 w R) {k g:Nat} {t:TypeId} {a:Array Value} (hk:look R k=some (blkR g t a)):Mx G w0 w ((k,blkO g t a)::R):=
 M.cons k _ (M.blk hk) blkO_dep (fun b hb=>by cases hb;exact z8a (M.blk hk)) (fun e=>by cases e) fun j r e hj hw b hb=>M.dis k j _ r hk e hj rfl b hb
end
section
variable (g:Nat) (V:VltN) (s n:Nat→Value) (w:World)
theorem vnew_is (V':VltN) (h:ageW zeroV=V') (w:World):Calls Tryz.prog 14 #[] w fun e w'=>∃ t,e=.returned t∧∃ g,t=(zO g)∧w.heap.size≤g∧∃ s' n',RowsV w' g V'.c s' n'∧(∀ b,zo 18 s' n' b→w.heap.size≤b)∧w'.heap[g]? = some (.cells (vltA V' s' n') 80 (0,0))∧Below w.heap.size w w':=by
 subst h
 exact (vnew_any w).mono fun e w' ⟨g,h1,h2,s',n',h3,h4,h5,h6⟩=>⟨_,h1,g,rfl,h2,s',n',h3,h4,h5,h6⟩
theorem put_is {K:Nat} (r:RecN) (Vr:RecV) (ho:RecOk r) (hi:InvV K V) (hK:K<256) (V':VltN) (z:Int) (h1:(putV V r).1=V') (h2:(putV V r).2=z) (w:World) (hR:RecIs w r Vr) (hRg:¬bfp Vr.v2 g∧¬bfp Vr.v5 g) (hr:RowsV w g V.c s n) (hg:w.heap[g]? = some (.cells (vltA V s n) 80 (0,0))):
  Calls Tryz.prog 22 #[(zO g),.agg (recA r Vr)] w fun e w'=>∃ t,e=.returned t∧t=zI z∧∃ s' n',RowsV w' g V'.c s' n'∧(∀ b,zo 18 s' n' b→zo 18 s n b∨w.heap.size≤b)∧w'.heap[g]? = some (.cells (vltA V' s' n') 80 (0,0))∧w.grownBy w' (some g):=by
 subst h1 h2
 exact put_any g V s n r Vr ho hi hK w hR hRg hr hg
theorem gone_is {K:Nat} (nm:ByteArray) (hi:InvV K V) (hK:K<256) (V':VltN) (z:Int) (h1:(goneV V nm).1=V') (h2:(goneV V nm).2=z) (w:World) (hr:RowsV w g V.c s n) (hg:w.heap[g]? = some (.cells (vltA V s n) 80 (0,0))):
  Calls Tryz.prog 27 #[(zO g),.string nm] w fun e w'=>∃ t,e=.returned t∧t=zI z∧∃ s' n',RowsV w' g V'.c s' n'∧(∀ b,zo 18 s' n' b→zo 18 s n b∨w.heap.size≤b)∧w'.heap[g]? = some (.cells (vltA V' s' n') 80 (0,0))∧w.grownBy w' (some g):=by
 subst h1 h2
 exact gone_any g V s n nm hi hK w hr hg
def failV (V:VltN) (z:Int):VltN:=⟨V.c,decide (0≤z),z,V.dd⟩
theorem fail_is (z:Int) (V':VltN) (h:failV V z=V') (w:World) (hr:RowsV w g V.c s n) (hg:w.heap[g]? = some (.cells (vltA V s n) 80 (0,0))):
  Calls Tryz.prog 19 #[(zO g),zI z] w fun e w'=>∃ t,e=.returned t∧∃ s' n',RowsV w' g V'.c s' n'∧(∀ b,zo 18 s' n' b→zo 18 s n b∨w.heap.size≤b)∧w'.heap[g]? = some (.cells (vltA V' s' n') 80 (0,0))∧w.grownBy w' (some g):=by
 subst h
 obtain ⟨c,fl,lf,dd⟩:=V
 exact (vfail_any g c fl lf dd s n z w hg).mono fun e w' ⟨t,h1,h2,h3⟩=>⟨t,h1,s,n,hr.grow h3,fun b hb=>.inl hb,h2,h3⟩
theorem again_isV {K:Nat} {e0:Int} (A0:Option Addr) (m c0:Nat) (tx:Nat→Int) (hmc:m≤c0) (hi:InvV K V) (hK:K<256) (he:EraV V e0) (h0:0≤e0) (h1:e0<1000) (V':VltN) (h:ageW (zac V tx m)=V') (w:World) (hT:RdI w A0 m tx) (hTg:¬ifp A0 m g) (hr:RowsV w g V.c s n) (hg:w.heap[g]? = some (.cells (vltA V s n) 80 (0,0))):
  Calls Tryz.prog 30 #[(zO g),.slice A0 m c0] w fun e w'=>∃ t,e=.returned t∧∃ s' n',RowsV w' g V'.c s' n'∧(∀ b,zo 18 s' n' b→zo 18 s n b∨w.heap.size≤b)∧w'.heap[g]? = some (.cells (vltA V' s' n') 80 (0,0))∧w.grownBy w' (some g):=by
 subst h
 exact vagain_any g V s n (zvc hi) A0 m c0 tx hmc (era_bd (era_setl he tx m) h0 h1) (inv_turn (setl_inv hi tx m) hK 16) w hT hTg hr hg
theorem boot_is {K:Nat} {e0:Int} (hi:InvV K V) (he:EraV V e0) (w:World) (h:HasV w g V s n):Calls Tryz.prog 26 #[(zO g)] w fun e w'=>e=.returned (zI e0)∧Below w.heap.size w w':=by
 have:=boot_any g V s n (zvc hi) w h
 rwa [he.2.2.2] at this
theorem dead_is (b:Bool) (hb:V.dd=b) (w:World) (h:HasV w g V s n):Calls Tryz.prog 32 #[(zO g)] w fun e w'=>e=.returned (.bool b)∧Below w.heap.size w w':=by
 subst hb;exact vdead_any g V s n w h
theorem get_yes {K:Nat} (hi:InvV K V) (nm:ByteArray) (k:Nat) (h8:k<8) (hk:fst8 (zba V nm)=k) (r:RecN) (hr:z0a V (2*k)=r) (w:World) (h:HasV w g V s n):Calls Tryz.prog 24 #[(zO g),.string nm] w fun e w'=>∃ t,e=.returned t∧∃ V',t=.tuple #[.agg (recA r V'),.bool true]∧RecIs w' r V'∧(∀ b,bfp V'.v2 b∨bfp V'.v5 b→w.heap.size≤b)∧Below w.heap.size w w':=by
 subst hr hk
 exact (get_any g V s n (zvc hi) nm w h).mono fun e w' ⟨t,h1,h2,h3⟩=>⟨t,h1,by
  rcases h2 with ⟨k,V',q1,q2,q3,q4,q5⟩ | ⟨q1,q2⟩
  ·subst q2;exact ⟨V',q3,q4,q5,h3⟩
  ·omega⟩
theorem get_not {K:Nat} (hi:InvV K V) (nm:ByteArray) (hk:fst8 (zba V nm)=8) (w:World) (h:HasV w g V s n):Calls Tryz.prog 24 #[(zO g),.string nm] w fun e w'=>e=.returned (.tuple #[.agg (recA zeroRec ⟨zN,zN⟩),.bool false])∧Below w.heap.size w w':=
 (get_any g V s n (zvc hi) nm w h).mono fun e w' ⟨t,h1,h2,h3⟩=>⟨by
  rcases h2 with ⟨k,V',q1,q2,q3,q4,q5⟩ | ⟨q1,q2⟩
  ·omega
  ·rw [h1,q2],h3⟩
theorem names_is {K:Nat} (hi:InvV K V) (L:List ByteArray) (hL:srtL (namL V 8)=L) (w:World) (h:HasV w g V s n):Calls Tryz.prog 25 #[(zO g)] w fun e w'=>∃ v,e=.returned v∧TxtAt w' w.heap.size L v∧Below w.heap.size w w':=by
 subst hL;exact names_any g V s n (zvc hi) w h
theorem cells_is {K:Nat} (hi:InvV K V) (w:World) (h:HasV w g V s n):Calls Tryz.prog 28 #[(zO g)] w fun e w'=>∃ t,e=.returned t∧∃ gq s' n',t=.slice (some ⟨gq,0,none⟩) 18 18∧CelsAt w' w.heap.size gq V.c s' n'∧Below w.heap.size w w':=
 (cells_any g V s n (zvc hi) w h).mono fun e w' ⟨gq,s',n',h1,h2,h3⟩=>⟨_,h1,gq,s',n',rfl,h2,h3⟩
theorem rec6_is (m:Int) (b:List UInt8) (bv:Value) (hn:-9223372036854775808≤m∧m<9223372036854775808) (hb:b.length≤1000) (r:RecN) (hr:recK m b ((m.tdiv 23)%10).toNat=r) (w:World) (hB:IsB w b bv):Calls Tryz.prog 21 #[zI m,bv] w fun e w'=>∃ t,e=.returned t∧∃ V,t=.agg (recA r V)∧RecIs w' r V∧(∀ q,bfp V.v2 q∨bfp V.v5 q→w.heap.size≤q)∧Below w.heap.size w w':=by
 subst hr;exact rec6_any m b bv hn hb w hB
end
theorem rec6_ok (m:Int) (b:List UInt8) {r:RecN} (hr:recK m b ((m.tdiv 23)%10).toNat=r):RecOk r∧zia r=true:=by
 have hk:((m.tdiv 23)%10).toNat<10:=by omega
 subst hr
 exact ⟨recK_ok m b hk,recK_keep m b hk⟩
end
end Go.Proofs.YtmjbnmbobocpdaaGreat
