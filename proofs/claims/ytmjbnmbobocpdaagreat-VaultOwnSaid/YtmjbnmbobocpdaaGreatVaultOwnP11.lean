/- What VaultOwn stands on, part 11. -/
import Derived.Test.YtmjbnmbobocpdaaGreatVaultOwnP1
import Derived.Test.YtmjbnmbobocpdaaGreatVaultOwnP2
import Derived.Test.YtmjbnmbobocpdaaGreatVaultOwnP3
import Derived.Test.YtmjbnmbobocpdaaGreatVaultOwnP4
import Derived.Test.YtmjbnmbobocpdaaGreatVaultOwnP5
import Derived.Test.YtmjbnmbobocpdaaGreatVaultOwnP6
import Derived.Test.YtmjbnmbobocpdaaGreatVaultOwnP7
import Derived.Test.YtmjbnmbobocpdaaGreatVaultOwnP8
import Derived.Test.YtmjbnmbobocpdaaGreatVaultOwnP9
import Derived.Test.YtmjbnmbobocpdaaGreatVaultOwnP10
set_option maxRecDepth 100000
set_option maxHeartbeats 8000000
set_option linter.unusedVariables false
set_option linter.unusedSimpArgs false
namespace Go.Proofs.YtmjbnmbobocpdaaGreat
open Go.ChangeShapes Go.WideShapes Go.ChangeAt Go.RowKit
theorem free_any (g:Nat) (V:VltN) (s n:Nat→Value) (hv:z1a V) (w:World) (h:HasV w g V s n):
  Calls Tryz.prog 50 #[(zO g)] w fun e w'=>∃ t,e=.returned t∧((∃ k,k<8∧fst8 (fun i=>zxa V (2*i))=k∧t=.tuple #[.agg #[zI ((2*k:Nat):Int),.func (.func 105) #[] #[]],.bool true])∨(fst8 (fun i=>zxa V (2*i))=8∧t=.tuple #[.agg #[zI 0,.nilFunc],.bool false]))∧Below w.heap.size w w':=by
 refine calls_fxM (args:=[(zO g)]) 14 Tryz.func50 rfl rfl rfl ?_
 intro fa F
 have M:=Mx.start w
 refine zT fun _ hK1=>zq rfl rfl F rfl M 0 (t:=25) (c:=#[(zO g)]) (by unfold execOp;simp only [(F 0 rfl)];kernel_rfl) ?_
 intro g2 a2 w2 F2 M2
 refine zq rfl rfl F2 rfl M2 1 (t:=87) (c:=#[zI 0,.nilFunc]) (by unfold execOp;kernel_rfl) ?_
 intro g3 a3 w3 F3 M3
 refine zq rfl rfl F3 rfl M3 2 (t:=4) (c:=#[.bool false]) (by unfold execOp;kernel_rfl) ?_
 intro g4 a4 w4 F4 M4
 refine hK1 _ _ (zSk fun _ hK5=>zT fun _ hK6=>zh rfl rfl F4 rfl rfl (zE Tryz.func75 rfl) #[] (args0) (zba ((pairs_any w4))) ?_)
 rintro _ w7 a7 ⟨rfl,b7⟩ F7
 have M7:=M4.step b7
 refine hK6 _ _ (wp_block ?_)
 refine range_fx3 F7 (gf:=104) (lb:=#[]) (F7 5 rfl) (zE Tryz.func104 rfl) rfl (α:=Nat) (fun x=>.agg #[zI ((2*x:Nat):Int),.func (.func 105) #[] #[]])
  (fun x W=>x<8∧((fst8 (fun i=>zxa V (2*i))=fstN (fun i=>zxa V (2*i)) (8-x) x)∧Mx none w W [(0,blkR g2 25 (#[(zO g)])),(1,blkR g3 87 (#[zI 0,.nilFunc])),(2,blkR g4 4 (#[.bool false]))])) (fun x W=>((fst8 (fun i=>zxa V (2*i))=fstN (fun i=>zxa V (2*i)) (8-(x+1)) (x+1))∧Mx none w W [(0,blkR g2 25 (#[(zO g)])),(1,blkR g3 87 (#[zI 0,.nilFunc])),(2,blkR g4 4 (#[.bool false]))])) (fun c W=>c=.ret∧∃ k,(k<8∧(fst8 (fun i=>zxa V (2*i))=k))∧Mx none w W [(1,blkR g3 87 (#[zI ((2*k:Nat):Int),.func (.func 105) #[] #[]])),(2,blkR g4 4 (#[.bool true]))]) (fun W=>((fst8 (fun i=>zxa V (2*i))=fstN (fun i=>zxa V (2*i)) (8-8) 8)∧Mx none w W [(0,blkR g2 25 (#[(zO g)])),(1,blkR g3 87 (#[zI 0,.nilFunc])),(2,blkR g4 4 (#[.bool false]))])) ?_ ?_ ?_ ?_
 ·intro l D o1 o2 W1 hD hL bW hrec hY
  have M1:=M7.step bW
  exact pairs1_any (fun k W=>((fst8 (fun i=>zxa V (2*i))=fstN (fun i=>zxa V (2*i)) (8-k) k)∧Mx none w W [(0,blkR g2 25 (#[(zO g)])),(1,blkR g3 87 (#[zI 0,.nilFunc])),(2,blkR g4 4 (#[.bool false]))])) _ l D o1 o2 W1 (fun k W hk h hq=>hY k W ⟨hk,h⟩ hq) ⟨rfl,M1.sb⟩ hrec
 ·rintro l k W ra F8 hlo hlt ⟨hk,hi,M8⟩
  replace F8:Fx 14 ra _:=F8
  have hwle:=M7.le
  have CM:CellsA _ _:=(show CellsA W [(0,blkR g2 25 (#[(zO g)])),(1,blkR g3 87 (#[zI 0,.nilFunc])),(2,blkR g4 4 (#[.bool false]))] from ⟨zg (M8.at_ 0 _ rfl),zg (M8.at_ 1 _ rfl),zg (M8.at_ 2 _ rfl),trivial⟩)
  replace M8:Mx none w W [(0,blkR g2 25 (#[(zO g)])),(1,blkR g3 87 (#[zI 0,.nilFunc])),(2,blkR g4 4 (#[.bool false]))]:=M8
  have N8:=M8.oth CM 7
  clear CM M8
  obtain ⟨be,hpk⟩:∃ x,zxa V (2*k)=x:=⟨_,rfl⟩
  refine wpIn_lit' (fun ⟨_,_,h⟩=>h) rfl ?_
  refine zq rfl rfl F8 rfl N8 8 (t:=87) (c:=#[zI 0,.nilFunc]) (by unfold execOp;kernel_rfl) ?_
  intro g9 a9 w9 F9 M9
  clear F8 N8
  refine zt rfl rfl F9 M9 (k:=8) rfl _ _ _ rfl (F9 4 rfl) (F9 6 rfl) (#[zI ((2*k:Nat):Int),.func (.func 105) #[] #[]]) _ rfl (zL rfl) (by first | rfl | simp [Value.oneCell']) (zca rfl) (by kernel_rfl) ?_
  intro w10 M10
  refine ⟨M10.keeps (i:=7) rfl,fun o hnc hoc=>?_⟩
  have hlz:l<w10.heap.size:=Nat.lt_of_lt_of_le hlt (M10.keeps (i:=7) rfl).size
  have M11:Mx none w w10 [(0,blkR g2 25 (#[(zO g)])),(1,blkR g3 87 (#[zI 0,.nilFunc])),(2,blkR g4 4 (#[.bool false])),(8,blkR g9 87 (#[zI ((2*k:Nat):Int),.func (.func 105) #[] #[]]))]:=M10.sb
  have CM:CellsA _ _:=(show CellsA w10 [(0,blkR g2 25 (#[(zO g)])),(1,blkR g3 87 (#[zI 0,.nilFunc])),(2,blkR g4 4 (#[.bool false])),(8,blkR g9 87 (#[zI ((2*k:Nat):Int),.func (.func 105) #[] #[]]))] from ⟨zg (M11.at_ 0 _ rfl),zg (M11.at_ 1 _ rfl),zg (M11.at_ 2 _ rfl),zg (M11.at_ 8 _ rfl),trivial⟩)
  have N11:=M11.putObj CM (by omega) hnc o
  have hLo:(w10.putObj l o).heap[l]? = some o:=World.putObj_heap_same hlz
  clear CM M11
  obtain ⟨Wp,hWp⟩:∃ x,x=w10.putObj l o:=⟨_,rfl⟩
  rw [←hWp] at N11 hLo ⊢
  have CM:CellsA _ _:=(show CellsA Wp [(0,blkR g2 25 (#[(zO g)])),(1,blkR g3 87 (#[zI 0,.nilFunc])),(2,blkR g4 4 (#[.bool false])),(8,blkR g9 87 (#[zI ((2*k:Nat):Int),.func (.func 105) #[] #[]]))] from ⟨zg (N11.at_ 0 _ rfl),zg (N11.at_ 1 _ rfl),zg (N11.at_ 2 _ rfl),zg (N11.at_ 8 _ rfl),trivial⟩)
  have P11:=N11.oth CM 5
  clear CM N11
  refine wpIn_block ?_
  refine wpIn_seq_k fun K12 hK12=>?_
  have hD13:=(zu (P11.blk (k:=8) rfl) (zu (P11.blk (k:=0) rfl) dnil))
  refine region_fx_in (fun ⟨_,_,h⟩=>h) rfl F9 (SK [.inl (.agg (#[zI ((2*k:Nat):Int),.func (.func 105) #[] #[]])),.inl (zO g),.inl (zO g),.inl (zO g),.inl (.bool be)]) 5 rfl (by kernel_rfl) ⟨hopP F9 hD13 0 (some g9),hopP F9 hD13 1 (some g2),hop0 F9,hop0 F9,hopC F9 [(7,.agg (#[zI ((2*k:Nat):Int),.func (.func 105) #[] #[]])),(10,(zO g))] rfl (zE Tryz.func76 rfl) fun uw hb=>(hpk▸empty_any (2*k) (by omega) g V s n hv uw (h.step (P11.step hb).below)),trivial⟩ ?_
  intro p14 a14 w14 b14 G14 y14
  obtain ⟨-,-,-,-,q4,-⟩:=y14
  have r4:p14 4=.bool be:=q4 (by decide)
  simp only [List.take,layV,Nat.zero_add,Nat.reduceAdd,r4] at G14
  have M14:=P11.kc b14
  clear F9 P11 r4 q4
  refine hK12 _ _ ?_
  cases be
  ·refine wpIn_cond_false (G14 11 rfl) ?_
   refine wpIn_skip ?_
   have KO:=M14.keeps (i:=5) rfl
   have Me:Mx none w w14 [(0,blkR g2 25 (#[(zO g)])),(1,blkR g3 87 (#[zI 0,.nilFunc])),(2,blkR g4 4 (#[.bool false]))]:=M14.sb
   have CM:CellsA _ _:=(show CellsA w14 [(0,blkR g2 25 (#[(zO g)])),(1,blkR g3 87 (#[zI 0,.nilFunc])),(2,blkR g4 4 (#[.bool false]))] from ⟨zg (Me.at_ 0 _ rfl),zg (Me.at_ 1 _ rfl),zg (Me.at_ 2 _ rfl),trivial⟩)
   exact ⟨KO,fun o2=>⟨(fst_next hk hpk hi),Me.putObj CM (by omega) (fun o3 h3=>by rw [KO.same l o hLo hoc] at h3;cases h3;exact hoc) o2⟩⟩
  ·refine wpIn_cond_true (G14 11 rfl) ?_
   refine wpIn_seq_k fun K16 hK16=>?_
   refine wpIn_lit' (fun ⟨_,_,h⟩=>h) rfl ?_
   refine zc (w':=w14) rfl rfl G14 rfl _ (zjb _ _ rfl (G14 4 rfl) (M14.blk (k:=8) rfl) (#[zI ((2*k:Nat):Int),.func (.func 105) #[] #[]]) (znb rfl) Tryz.underlying87 rfl (by kernel_rfl)) fun _ F17=>?_
   clear G14
   refine zt rfl rfl F17 M14 (k:=1) rfl _ _ _ rfl (F17 2 rfl) (F17 12 rfl) (#[zI ((2*k:Nat):Int),.func (.func 105) #[] #[]]) _ rfl (zL rfl) (by first | rfl | simp [Value.oneCell']) (zca rfl) (by kernel_rfl) ?_
   intro w18 M18
   refine zt rfl rfl F17 M18 (k:=2) rfl _ _ _ rfl (F17 3 rfl) rfl (#[.bool true]) _ rfl (zL rfl) (by simp [Value.oneCell']) (zca rfl) (by kernel_rfl) ?_
   intro w19 M19
   refine hK16 _ _ (wpIn_ret ?_)
   simp only [Exit.inBlock]
   skip
   have KO:=M19.keeps (i:=5) rfl
   have Me:Mx none w w19 [(1,blkR g3 87 (#[zI ((2*k:Nat):Int),.func (.func 105) #[] #[]])),(2,blkR g4 4 (#[.bool true]))]:=M19.sb
   have CM:CellsA _ _:=(show CellsA w19 [(1,blkR g3 87 (#[zI ((2*k:Nat):Int),.func (.func 105) #[] #[]])),(2,blkR g4 4 (#[.bool true]))] from ⟨zg (Me.at_ 1 _ rfl),zg (Me.at_ 2 _ rfl),trivial⟩)
   exact ⟨KO.from _,fun o2=>⟨rfl,k,⟨hk,(fst_here hk hpk hi)⟩,Me.putObj CM (by omega) (fun o3 h3=>by rw [KO.same l o hLo hoc] at h3;cases h3;exact hoc) o2⟩⟩
 ·rintro l D o W a20 hD hL ⟨hi,M20⟩ hnc hdd F20
  have hwle:=M7.le
  have CM:CellsA W [(0,blkR g2 25 (#[(zO g)])),(1,blkR g3 87 (#[zI 0,.nilFunc])),(2,blkR g4 4 (#[.bool false]))]:=⟨zg (M20.at_ 0 _ rfl),zg (M20.at_ 1 _ rfl),zg (M20.at_ 2 _ rfl),trivial⟩
  replace M20:=M20.putObj CM (by omega) hnc o
  clear CM
  have CM:CellsA (W.putObj l o) [(0,blkR g2 25 (#[(zO g)])),(1,blkR g3 87 (#[zI 0,.nilFunc])),(2,blkR g4 4 (#[.bool false]))]:=⟨zg (M20.at_ 0 _ rfl),zg (M20.at_ 1 _ rfl),zg (M20.at_ 2 _ rfl),trivial⟩
  replace M20:=M20.obj CM 6 D _ hdd rfl
  clear CM
  have hDge:w.heap.size≤D:=by omega
  clear hdd hnc hL hD
  obtain ⟨w20,hw20⟩:∃ x,x=W.putObj l o:=⟨_,rfl⟩
  rw [←hw20] at M20 ⊢
  clear hw20 F7 M7
  refine hK5 _ _ (zT fun _ hK21=>zc (w':=w20) rfl rfl F20 rfl (.agg (#[zI 0,.nilFunc])) (by unfold execOp;kernel_rfl) fun _ F22=>?_)
  refine zt rfl rfl F22 M20 (k:=1) rfl _ _ _ rfl (F22 2 rfl) (F22 13 rfl) (#[zI 0,.nilFunc]) _ rfl (zL rfl) (by first | rfl | simp [Value.oneCell']) (zca rfl) (by kernel_rfl) ?_
  intro w23 M23
  refine zt rfl rfl F22 M23 (k:=2) rfl _ _ _ rfl (F22 3 rfl) rfl (#[.bool false]) _ rfl (zL rfl) (by simp [Value.oneCell']) (zca rfl) (by kernel_rfl) ?_
  intro w24 M24
  refine hK21 _ _ (wp_ret ?_)
  have hDD:=M24.anObj (i:=6) rfl
  have M9:Mx none w w24 [(0,blkR g2 25 (#[(zO g)])),(1,blkR g3 87 (#[zI 0,.nilFunc])),(2,blkR g4 4 (#[.bool false]))]:=M24.sb
  have Mz:=M9.putObj (show CellsA w24 [(0,blkR g2 25 (#[(zO g)])),(1,blkR g3 87 (#[zI 0,.nilFunc])),(2,blkR g4 4 (#[.bool false]))] from ⟨zg (M9.at_ 0 _ rfl),zg (M9.at_ 1 _ rfl),zg (M9.at_ 2 _ rfl),trivial⟩) hDge (fun o3 h3=>by rw [hDD] at h3;cases h3;rfl) (.deferred none)
  exact zsc F22.defers hDD (resCC rfl (F22 2 rfl) (Mz.blk (k:=1) rfl) (F22 3 rfl) (Mz.blk (k:=2) rfl) Tryz.underlying87 rfl (by kernel_rfl) Tryz.underlying4 rfl) ⟨_,rfl,.inr ⟨hi,rfl⟩,Mz.below⟩
 ·rintro l D o c W a25 hD hL ⟨rfl,k,⟨hk,hi⟩,M25⟩ hnc hdd F25
  have hwle:=M7.le
  have CM:CellsA W [(1,blkR g3 87 (#[zI ((2*k:Nat):Int),.func (.func 105) #[] #[]])),(2,blkR g4 4 (#[.bool true]))]:=⟨zg (M25.at_ 1 _ rfl),zg (M25.at_ 2 _ rfl),trivial⟩
  replace M25:=M25.putObj CM (by omega) hnc o
  clear CM
  have CM:CellsA (W.putObj l o) [(1,blkR g3 87 (#[zI ((2*k:Nat):Int),.func (.func 105) #[] #[]])),(2,blkR g4 4 (#[.bool true]))]:=⟨zg (M25.at_ 1 _ rfl),zg (M25.at_ 2 _ rfl),trivial⟩
  replace M25:=M25.obj CM 6 D _ hdd rfl
  clear CM
  have hDge:w.heap.size≤D:=by omega
  clear hdd hnc hL hD
  obtain ⟨w25,hw25⟩:∃ x,x=W.putObj l o:=⟨_,rfl⟩
  rw [←hw25] at M25 ⊢
  clear hw25 F7 M7
  refine wp_ret ?_
  have hDD:=M25.anObj (i:=6) rfl
  have M9:Mx none w w25 [(1,blkR g3 87 (#[zI ((2*k:Nat):Int),.func (.func 105) #[] #[]])),(2,blkR g4 4 (#[.bool true]))]:=M25.sb
  have Mz:=M9.putObj (show CellsA w25 [(1,blkR g3 87 (#[zI ((2*k:Nat):Int),.func (.func 105) #[] #[]])),(2,blkR g4 4 (#[.bool true]))] from ⟨zg (M9.at_ 1 _ rfl),zg (M9.at_ 2 _ rfl),trivial⟩) hDge (fun o3 h3=>by rw [hDD] at h3;cases h3;rfl) (.deferred none)
  exact zsc F25.defers hDD (resCC rfl (F25 2 rfl) (Mz.blk (k:=1) rfl) (F25 3 rfl) (Mz.blk (k:=2) rfl) Tryz.underlying87 rfl (by kernel_rfl) Tryz.underlying4 rfl) ⟨_,rfl,.inl ⟨k,hk,hi,rfl⟩,Mz.below⟩
theorem get_any (g:Nat) (V:VltN) (s n:Nat→Value) (hv:z1a V) (nm:ByteArray) (w:World) (h:HasV w g V s n):
  Calls Tryz.prog 24 #[(zO g),.string nm] w fun e w'=>∃ t,e=.returned t∧((∃ k V',k<8∧fst8 (zz V nm)=k∧t=.tuple #[.agg (recA (z0a V (2*k)) V'),.bool true]∧RecU w' (z0a V (2*k)) V'∧(∀ b,bfp V'.v2 b∨bfp V'.v5 b→w.heap.size≤b))∨(fst8 (zz V nm)=8∧t=.tuple #[.agg (recA zeroRec ⟨zN,zN⟩),.bool false]))∧Below w.heap.size w w':=by
 refine calls_fxM (args:=[(zO g),.string nm]) 18 Tryz.func24 rfl rfl rfl ?_
 intro fa F
 have M:=Mx.start w
 refine zT fun _ hK1=>zq rfl rfl F rfl M 0 (t:=9) (c:=#[.string nm]) (by unfold execOp;simp only [(F 1 rfl)];kernel_rfl) ?_
 intro g2 a2 w2 F2 M2
 refine zq rfl rfl F2 rfl M2 1 (t:=37) (c:=recA ⟨0, "".toUTF8,[],0,0,[],0,0,0⟩ ⟨zN,zN⟩) (by unfold execOp;kernel_rfl) ?_
 intro g3 a3 w3 F3 M3
 refine zq rfl rfl F3 rfl M3 2 (t:=4) (c:=#[.bool false]) (by unfold execOp;kernel_rfl) ?_
 intro g4 a4 w4 F4 M4
 refine hK1 _ _ (zSk fun _ hK5=>zT fun _ hK6=>rm rfl F4 fun _ F7=>zh rfl rfl F7 rfl rfl (zE Tryz.func56 rfl) #[(zO g)] (zaa (F7 8 rfl)) (accounts_ex g w4) ?_)
 rintro _ w8 a8 ⟨g8,rfl,hg8,hc8,b8⟩ F8
 have M8:=M4.newb b8 3 hg8 hc8
 clear M4 hg8 hc8 b8
 refine hK6 _ _ (wp_block ?_)
 refine range_fx4 F8 (gf:=84) (lb:=#[(zO g8)]) (F8 9 rfl) (zE Tryz.func84 rfl) rfl rfl (α:=Nat×RecV×Res) (fun x=>.agg #[zI ((2*x.1:Nat):Int),.func (.func 105) #[] #[]]) (fun x=>.agg (recA (z0a V (2*x.1)) x.2.1))
  (fun x W=>(x.1<8∧zfc V (2*x.1)=true)∧(∀ W,Res.F x.2.2 W→zuc W x.2.2)∧(fst8 (zz V nm)=fstN (zz V nm) (8-x.1) x.1)∧Mx none w W [(4,zvb w.heap.size (z0a V (2*x.1)) (.agg (recA (z0a V (2*x.1)) x.2.1))),(5,x.2.2),(0,blkR g2 9 (#[.string nm])),(1,blkR g3 37 (recA ⟨0, "".toUTF8,[],0,0,[],0,0,0⟩ ⟨zN,zN⟩)),(2,blkR g4 4 (#[.bool false])),(3,blkR g8 25 (#[(zO g)]))]) (fun x W=>((∀ W,Res.F x.2.2 W→zuc W x.2.2)∧(fst8 (zz V nm)=fstN (zz V nm) (8-(x.1+1)) (x.1+1))∧Mx none w W [(5,x.2.2),(0,blkR g2 9 (#[.string nm])),(1,blkR g3 37 (recA ⟨0, "".toUTF8,[],0,0,[],0,0,0⟩ ⟨zN,zN⟩)),(2,blkR g4 4 (#[.bool false])),(3,blkR g8 25 (#[(zO g)]))])) (fun c W=>c=.ret∧∃ k,∃ (Vr:RecV),(k<8∧(fst8 (zz V nm)=k))∧Mx none w W [(4,zvb w.heap.size (z0a V (2*k)) (.agg (recA (z0a V (2*k)) Vr))),(1,blkR g3 37 (recA (z0a V (2*k)) Vr)),(2,blkR g4 4 (#[.bool true]))]) (fun W=>∃ X,((∀ W,Res.F X W→zuc W X)∧(fst8 (zz V nm)=fstN (zz V nm) (8-8) 8)∧Mx none w W [(5,X),(0,blkR g2 9 (#[.string nm])),(1,blkR g3 37 (recA ⟨0, "".toUTF8,[],0,0,[],0,0,0⟩ ⟨zN,zN⟩)),(2,blkR g4 4 (#[.bool false])),(3,blkR g8 25 (#[(zO g)]))])) ?_ ?_ ?_ ?_
 ·intro l D o1 o2 W1 hD hL bW hrec hY
  have M1:=M8.step bW
  have hlW:=heap_ltO hrec.1
  have hle1:=M1.le
  refine accounts1_any g g8 V s n hv (fun X k W=>((∀ W,Res.F X W→zuc W X)∧(fst8 (zz V nm)=fstN (zz V nm) (8-k) k)∧Mx none w W [(5,X),(0,blkR g2 9 (#[.string nm])),(1,blkR g3 37 (recA ⟨0, "".toUTF8,[],0,0,[],0,0,0⟩ ⟨zN,zN⟩)),(2,blkR g4 4 (#[.bool false])),(3,blkR g8 25 (#[(zO g)]))])) _ l D o1 o2 W1 ?_ ?_ ?_ ?_ ?_ ?_ ?_ ?_ ?_ hrec
  ·rintro X k W ⟨hXc,hi,M⟩
   exact ⟨h.step M.below,M.blk (k:=3) rfl⟩
  ·rintro X k W ⟨hXc,hi,M⟩
   exact M.at_ 5 _ rfl
  ·rintro X k W W' ⟨hXc,hi,M⟩ hb hx hd hf hXc2
   exact ⟨hXc2,hi,(M.fresh hb 5 X hx hd hf).sub ⟨rfl,rfl,rfl,rfl,rfl,trivial⟩⟩
  ·rintro X k W W' ⟨hXc,hi,M⟩ hb
   exact ⟨hXc,hi,M.step hb⟩
  ·rintro X k W l' o hl hnc ⟨hXc,hi,M⟩
   exact ⟨hXc,hi,M.putObj ⟨hXc _ (M.at_ 5 _ rfl),zg (M.at_ 0 _ rfl),zg (M.at_ 1 _ rfl),zg (M.at_ 2 _ rfl),zg (M.at_ 3 _ rfl),trivial⟩ (by omega) hnc o⟩
  ·rintro W l' o hl hnc hS
   refine hS.put (by omega) (by omega) ?_
   rintro c ⟨hc,k,Vr,hk,M⟩
   exact ⟨hc,k,Vr,hk,M.putObj ⟨zub (M.at_ 4 _ rfl),zg (M.at_ 1 _ rfl),zg (M.at_ 2 _ rfl),trivial⟩ (by omega) hnc o⟩
  ·rintro X k W hk hs ⟨hXc,hi,M⟩
   exact ⟨hXc,(fst_next hk (namedB_no hs) hi),M.sb⟩
  ·rintro X k V' W W' hk hs ⟨hXc,hi,M⟩ hb hr hlo hre
   exact hY (k,V',X) W' ⟨⟨hk,hs⟩,hXc,hi,M.newRecv hb hr hlo 4⟩ hre
  ·exact ⟨fun W _ g hg=>hg.elim,rfl,(M1.triv 5).sub ⟨rfl,rfl,rfl,rfl,rfl,trivial⟩⟩
 ·rintro l ⟨k,V',X⟩ W ra F9 hlo hlt ⟨⟨hk,hs⟩,hXc,hi,M9⟩
  replace F9:Fx 18 ra _:=F9
  dsimp only at hk hs hi M9 F9 ⊢
  have hwle:=M8.le
  obtain ⟨rk,hrk⟩:∃ x,z0a V (2*k)=x:=⟨_,rfl⟩
  rw [hrk] at M9 F9
  have CM:CellsA _ _:=(show CellsA W [(4,zvb w.heap.size rk (.agg (recA rk V'))),(5,X),(0,blkR g2 9 (#[.string nm])),(1,blkR g3 37 (recA ⟨0, "".toUTF8,[],0,0,[],0,0,0⟩ ⟨zN,zN⟩)),(2,blkR g4 4 (#[.bool false])),(3,blkR g8 25 (#[(zO g)]))] from ⟨zub (M9.at_ 4 _ rfl),hXc _ (M9.at_ 5 _ rfl),zg (M9.at_ 0 _ rfl),zg (M9.at_ 1 _ rfl),zg (M9.at_ 2 _ rfl),zg (M9.at_ 3 _ rfl),trivial⟩)
  replace M9:Mx none w W [(4,zvb w.heap.size rk (.agg (recA rk V'))),(5,X),(0,blkR g2 9 (#[.string nm])),(1,blkR g3 37 (recA ⟨0, "".toUTF8,[],0,0,[],0,0,0⟩ ⟨zN,zN⟩)),(2,blkR g4 4 (#[.bool false])),(3,blkR g8 25 (#[(zO g)]))]:=M9
  have N9:=M9.oth CM 8
  clear CM M9
  obtain ⟨be,hbe⟩:∃ x,decide (rk.s.toList=nm.toList)=x:=⟨_,rfl⟩
  have hpk:zz V nm k=be:=namedB_is hs (by rw [hrk];exact hbe)
  refine wpIn_lit' (fun ⟨_,_,h⟩=>h) rfl ?_
  refine zq rfl rfl F9 rfl N9 9 (t:=37) (c:=recA ⟨0, "".toUTF8,[],0,0,[],0,0,0⟩ ⟨zN,zN⟩) (by unfold execOp;kernel_rfl) ?_
  intro g10 a10 w10 F10 M10
  clear F9 N9
  refine zt rfl rfl F10 M10 (k:=9) rfl _ _ _ rfl (F10 7 rfl) (F10 11 rfl) (recA rk V') _ rfl (zL rfl) (z6a (recv_is (M10.at_ 4 _ rfl))) (zca rfl) (by kernel_rfl) ?_
  intro w11 M11
  refine ⟨M11.keeps (i:=8) rfl,fun o hnc hoc=>?_⟩
  have hlz:l<w11.heap.size:=Nat.lt_of_lt_of_le hlt (M11.keeps (i:=8) rfl).size
  have M12:Mx none w w11 [(4,zvb w.heap.size rk (.agg (recA rk V'))),(5,X),(0,blkR g2 9 (#[.string nm])),(1,blkR g3 37 (recA ⟨0, "".toUTF8,[],0,0,[],0,0,0⟩ ⟨zN,zN⟩)),(2,blkR g4 4 (#[.bool false])),(3,blkR g8 25 (#[(zO g)])),(9,blkR g10 37 (recA rk V'))]:=M11.sb
  have CM:CellsA _ _:=(show CellsA w11 [(4,zvb w.heap.size rk (.agg (recA rk V'))),(5,X),(0,blkR g2 9 (#[.string nm])),(1,blkR g3 37 (recA ⟨0, "".toUTF8,[],0,0,[],0,0,0⟩ ⟨zN,zN⟩)),(2,blkR g4 4 (#[.bool false])),(3,blkR g8 25 (#[(zO g)])),(9,blkR g10 37 (recA rk V'))] from ⟨zub (M12.at_ 4 _ rfl),hXc _ (M12.at_ 5 _ rfl),zg (M12.at_ 0 _ rfl),zg (M12.at_ 1 _ rfl),zg (M12.at_ 2 _ rfl),zg (M12.at_ 3 _ rfl),zg (M12.at_ 9 _ rfl),trivial⟩)
  have N12:=M12.putObj CM (by omega) hnc o
  have hLo:(w11.putObj l o).heap[l]? = some o:=World.putObj_heap_same hlz
  clear CM M12
  obtain ⟨Wp,hWp⟩:∃ x,x=w11.putObj l o:=⟨_,rfl⟩
  rw [←hWp] at N12 hLo ⊢
  have CM:CellsA _ _:=(show CellsA Wp [(4,zvb w.heap.size rk (.agg (recA rk V'))),(5,X),(0,blkR g2 9 (#[.string nm])),(1,blkR g3 37 (recA ⟨0, "".toUTF8,[],0,0,[],0,0,0⟩ ⟨zN,zN⟩)),(2,blkR g4 4 (#[.bool false])),(3,blkR g8 25 (#[(zO g)])),(9,blkR g10 37 (recA rk V'))] from ⟨zub (N12.at_ 4 _ rfl),hXc _ (N12.at_ 5 _ rfl),zg (N12.at_ 0 _ rfl),zg (N12.at_ 1 _ rfl),zg (N12.at_ 2 _ rfl),zg (N12.at_ 3 _ rfl),zg (N12.at_ 9 _ rfl),trivial⟩)
  have P12:=N12.oth CM 6
  clear CM N12
  refine wpIn_block ?_
  refine wpIn_seq_k fun K13 hK13=>?_
  refine wpIn_lit' (fun ⟨_,_,h⟩=>h) rfl ?_
  refine zAx 3 [(12,(zP g10 1)),(13,.string rk.s),(14,.string nm)] [0,1] (zu (P12.blk (k:=9) rfl) (zu (P12.blk (k:=0) rfl) dnil)) [g10,g2] F10 fun _ F14=>?_
  refine zc (w':=Wp) rfl rfl F14 rfl (.bool be) (y_eqS _ _ _ rfl (F14 13 rfl) (F14 14 rfl) hbe) fun _ F15=>?_
  refine hK13 _ _ ?_
  cases be
  ·refine wpIn_cond_false (F15 15 rfl) ?_
   refine wpIn_skip ?_
   have KO:=P12.keeps (i:=6) rfl
   have Me:Mx none w Wp [(5,X),(0,blkR g2 9 (#[.string nm])),(1,blkR g3 37 (recA ⟨0, "".toUTF8,[],0,0,[],0,0,0⟩ ⟨zN,zN⟩)),(2,blkR g4 4 (#[.bool false])),(3,blkR g8 25 (#[(zO g)]))]:=P12.sub ⟨rfl,rfl,rfl,rfl,rfl,trivial⟩
   have CM:CellsA _ _:=(show CellsA Wp [(5,X),(0,blkR g2 9 (#[.string nm])),(1,blkR g3 37 (recA ⟨0, "".toUTF8,[],0,0,[],0,0,0⟩ ⟨zN,zN⟩)),(2,blkR g4 4 (#[.bool false])),(3,blkR g8 25 (#[(zO g)]))] from ⟨hXc _ (Me.at_ 5 _ rfl),zg (Me.at_ 0 _ rfl),zg (Me.at_ 1 _ rfl),zg (Me.at_ 2 _ rfl),zg (Me.at_ 3 _ rfl),trivial⟩)
   exact ⟨KO,fun o2=>⟨hXc,(fst_next hk hpk hi),Me.putObj CM (by omega) (fun o3 h3=>by rw [KO.same l o hLo hoc] at h3;cases h3;exact hoc) o2⟩⟩
  ·refine wpIn_cond_true (F15 15 rfl) ?_
   refine wpIn_seq_k fun K17 hK17=>?_
   refine wpIn_lit' (fun ⟨_,_,h⟩=>h) rfl ?_
   refine zc (w':=Wp) rfl rfl F15 rfl _ (zjb _ _ rfl (F15 7 rfl) (P12.blk (k:=9) rfl) (recA rk V') (znb rfl) Tryz.underlying37 rfl (by kernel_rfl)) fun _ F18=>?_
   refine zt rfl rfl F18 P12 (k:=1) rfl _ _ _ rfl (F18 4 rfl) (F18 16 rfl) (recA rk V') _ rfl (zL rfl) (z6a (recv_is (P12.at_ 4 _ rfl))) (zca rfl) (by kernel_rfl) ?_
   intro w19 M19
   clear P12
   refine zt rfl rfl F18 M19 (k:=2) rfl _ _ _ rfl (F18 5 rfl) rfl (#[.bool true]) _ rfl (zL rfl) (by simp [Value.oneCell']) (zca rfl) (by kernel_rfl) ?_
   intro w20 M20
   refine hK17 _ _ (wpIn_ret ?_)
   simp only [Exit.inBlock]
   subst hrk
   have KO:=M20.keeps (i:=6) rfl
   have Me:Mx none w w20 [(4,zvb w.heap.size (z0a V (2*k)) (.agg (recA (z0a V (2*k)) V'))),(1,blkR g3 37 (recA (z0a V (2*k)) V')),(2,blkR g4 4 (#[.bool true]))]:=M20.sb
   have CM:CellsA _ _:=(show CellsA w20 [(4,zvb w.heap.size (z0a V (2*k)) (.agg (recA (z0a V (2*k)) V'))),(1,blkR g3 37 (recA (z0a V (2*k)) V')),(2,blkR g4 4 (#[.bool true]))] from ⟨zub (Me.at_ 4 _ rfl),zg (Me.at_ 1 _ rfl),zg (Me.at_ 2 _ rfl),trivial⟩)
   exact ⟨KO.from _,fun o2=>⟨rfl,k,V',⟨hk,(fst_here hk hpk hi)⟩,Me.putObj CM (by omega) (fun o3 h3=>by rw [KO.same l o hLo hoc] at h3;cases h3;exact hoc) o2⟩⟩
 ·rintro l D o W a21 hD hL ⟨X,hXc,hi,M21⟩ hnc hdd F21
  replace M21:Mx none w W [(0,blkR g2 9 (#[.string nm])),(1,blkR g3 37 (recA ⟨0, "".toUTF8,[],0,0,[],0,0,0⟩ ⟨zN,zN⟩)),(2,blkR g4 4 (#[.bool false])),(3,blkR g8 25 (#[(zO g)]))]:=M21.sb
  have hwle:=M8.le
  have CM:CellsA W [(0,blkR g2 9 (#[.string nm])),(1,blkR g3 37 (recA ⟨0, "".toUTF8,[],0,0,[],0,0,0⟩ ⟨zN,zN⟩)),(2,blkR g4 4 (#[.bool false])),(3,blkR g8 25 (#[(zO g)]))]:=⟨zg (M21.at_ 0 _ rfl),zg (M21.at_ 1 _ rfl),zg (M21.at_ 2 _ rfl),zg (M21.at_ 3 _ rfl),trivial⟩
  replace M21:=M21.putObj CM (by omega) hnc o
  clear CM
  have CM:CellsA (W.putObj l o) [(0,blkR g2 9 (#[.string nm])),(1,blkR g3 37 (recA ⟨0, "".toUTF8,[],0,0,[],0,0,0⟩ ⟨zN,zN⟩)),(2,blkR g4 4 (#[.bool false])),(3,blkR g8 25 (#[(zO g)]))]:=⟨zg (M21.at_ 0 _ rfl),zg (M21.at_ 1 _ rfl),zg (M21.at_ 2 _ rfl),zg (M21.at_ 3 _ rfl),trivial⟩
  replace M21:=M21.obj CM 7 D _ hdd rfl
  clear CM
  have hDge:w.heap.size≤D:=by omega
  clear hdd hnc hL hD
  obtain ⟨w21,hw21⟩:∃ x,x=W.putObj l o:=⟨_,rfl⟩
  rw [←hw21] at M21 ⊢
  clear hw21 F8 M8
  refine hK5 _ _ (zT fun _ hK22=>zc (w':=w21) rfl rfl F21 rfl (.agg (recA ⟨0, "".toUTF8,[],0,0,[],0,0,0⟩ ⟨zN,zN⟩)) (by unfold execOp;kernel_rfl) fun _ F23=>?_)
  refine zt rfl rfl F23 M21 (k:=1) rfl _ _ _ rfl (F23 4 rfl) (F23 17 rfl) (recA ⟨0, "".toUTF8,[],0,0,[],0,0,0⟩ ⟨zN,zN⟩) _ rfl (zL rfl) (z6a (w:=w21) ⟨(zia _),(zia _)⟩) (zca rfl) (by kernel_rfl) ?_
  intro w24 M24
  refine zt rfl rfl F23 M24 (k:=2) rfl _ _ _ rfl (F23 5 rfl) rfl (#[.bool false]) _ rfl (zL rfl) (by simp [Value.oneCell']) (zca rfl) (by kernel_rfl) ?_
  intro w25 M25
  refine hK22 _ _ (wp_ret ?_)
  have hDD:=M25.anObj (i:=7) rfl
  have M9:Mx none w w25 [(0,blkR g2 9 (#[.string nm])),(1,blkR g3 37 (recA ⟨0, "".toUTF8,[],0,0,[],0,0,0⟩ ⟨zN,zN⟩)),(2,blkR g4 4 (#[.bool false])),(3,blkR g8 25 (#[(zO g)]))]:=M25.sb
  have Mz:=M9.putObj (show CellsA w25 [(0,blkR g2 9 (#[.string nm])),(1,blkR g3 37 (recA ⟨0, "".toUTF8,[],0,0,[],0,0,0⟩ ⟨zN,zN⟩)),(2,blkR g4 4 (#[.bool false])),(3,blkR g8 25 (#[(zO g)]))] from ⟨zg (M9.at_ 0 _ rfl),zg (M9.at_ 1 _ rfl),zg (M9.at_ 2 _ rfl),zg (M9.at_ 3 _ rfl),trivial⟩) hDge (fun o3 h3=>by rw [hDD] at h3;cases h3;rfl) (.deferred none)
  exact zsc F23.defers hDD (resCC rfl (F23 4 rfl) (Mz.blk (k:=1) rfl) (F23 5 rfl) (Mz.blk (k:=2) rfl) Tryz.underlying37 rfl (by kernel_rfl) Tryz.underlying4 rfl) ⟨_,rfl,.inr ⟨hi,rfl⟩,Mz.below⟩
 ·rintro l D o c W a26 hD hL ⟨rfl,k,Vr,⟨hk,hi⟩,M26⟩ hnc hdd F26
  have hwle:=M8.le
  have CM:CellsA W [(4,zvb w.heap.size (z0a V (2*k)) (.agg (recA (z0a V (2*k)) Vr))),(1,blkR g3 37 (recA (z0a V (2*k)) Vr)),(2,blkR g4 4 (#[.bool true]))]:=⟨zub (M26.at_ 4 _ rfl),zg (M26.at_ 1 _ rfl),zg (M26.at_ 2 _ rfl),trivial⟩
  replace M26:=M26.putObj CM (by omega) hnc o
  clear CM
  have CM:CellsA (W.putObj l o) [(4,zvb w.heap.size (z0a V (2*k)) (.agg (recA (z0a V (2*k)) Vr))),(1,blkR g3 37 (recA (z0a V (2*k)) Vr)),(2,blkR g4 4 (#[.bool true]))]:=⟨zub (M26.at_ 4 _ rfl),zg (M26.at_ 1 _ rfl),zg (M26.at_ 2 _ rfl),trivial⟩
  replace M26:=M26.obj CM 7 D _ hdd rfl
  clear CM
  have hDge:w.heap.size≤D:=by omega
  clear hdd hnc hL hD
  obtain ⟨w26,hw26⟩:∃ x,x=W.putObj l o:=⟨_,rfl⟩
  rw [←hw26] at M26 ⊢
  clear hw26 F8 M8
  refine wp_ret ?_
  have hDD:=M26.anObj (i:=7) rfl
  have M9:Mx none w w26 [(4,zvb w.heap.size (z0a V (2*k)) (.agg (recA (z0a V (2*k)) Vr))),(1,blkR g3 37 (recA (z0a V (2*k)) Vr)),(2,blkR g4 4 (#[.bool true]))]:=M26.sb
  have Mz:=M9.putObj (show CellsA w26 [(4,zvb w.heap.size (z0a V (2*k)) (.agg (recA (z0a V (2*k)) Vr))),(1,blkR g3 37 (recA (z0a V (2*k)) Vr)),(2,blkR g4 4 (#[.bool true]))] from ⟨zub (M9.at_ 4 _ rfl),zg (M9.at_ 1 _ rfl),zg (M9.at_ 2 _ rfl),trivial⟩) hDge (fun o3 h3=>by rw [hDD] at h3;cases h3;rfl) (.deferred none)
  exact zsc F26.defers hDD (resCC rfl (F26 4 rfl) (Mz.blk (k:=1) rfl) (F26 5 rfl) (Mz.blk (k:=2) rfl) Tryz.underlying37 rfl (by kernel_rfl) Tryz.underlying4 rfl) ⟨_,rfl,.inl ⟨k,Vr,hk,hi,rfl,recv_isU (Mz.at_ 4 _ rfl),fun b hb=>recv_lo (Mz.at_ 4 _ rfl) hb⟩,Mz.below⟩
theorem vwrite_any (g:Nat) (V:VltN) (s n:Nat→Value) (hv:z1a V) (k:Nat) (hk:k<8) (l:List UInt8) (lv:Value) (hl:l.length≤1000) (ht:anyB zr V (2*k)=true → -9223372036854775808≤cntT V (2*k)∧cntT V (2*k)<9223372036854775807) (w:World) (hB:IsB w l lv) (hBg:¬bfp lv g) (hr:RowsV w g V.c s n) (hg:w.heap[g]? = some (.cells (vltA V s n) 80 (0,0))):
  Calls Tryz.prog 51 #[(zO g),.agg #[zI ((2*k:Nat):Int),.func (.func 105) #[] #[]],lv] w fun e w'=>∃ t,e=.returned t∧t=zI (if (sayW V (2*k) l).2=true then 0 else 10)∧∃ s' n',RowsV w' g ((sayW V (2*k) l).1).c s' n'∧(∀ b,zo 18 s' n' b→zo 18 s n b∨w.heap.size≤b)∧w'.heap[g]? = some (.cells (vltA ((sayW V (2*k) l).1) s' n') 80 (0,0))∧w.grownBy w' (some g):=by
 obtain ⟨bw,hbw⟩:∃ x,(sayW V (2*k) l).2=x:=⟨_,rfl⟩
 obtain ⟨VW,hVW⟩:∃ x,(sayW V (2*k) l).1=x:=⟨_,rfl⟩
 rw [hbw,hVW]
 obtain ⟨Al,cl,rfl⟩:=hB.shape
 refine zk (args:=[(zO g),.agg (#[zI ((2*k:Nat):Int),.func (.func 105) #[] #[]]),.slice Al l.length cl]) 14 Tryz.func51 rfl rfl rfl ?_
 intro fa F
 have M:=Mx.theG hg 0
 refine zT fun _ hK1=>zq rfl rfl F rfl M 1 (t:=87) (c:=#[zI ((2*k:Nat):Int),.func (.func 105) #[] #[]]) (by unfold execOp;simp only [(F 1 rfl)];kernel_rfl) ?_
 intro g2 a2 w2 F2 M2
 refine rm rfl F2 fun _ F3=>hK1 _ _ (zSk fun _ hK4=>?_)
 refine zSk fun _ hK5=>zva F3 (SE [.inl (.agg (#[zI ((2*k:Nat):Int),.func (.func 105) #[] #[]])),.inl (zO g),.inl (zO g),.inl (zO g),.inl (.slice Al l.length cl)]) (JM (some g) w fun SV pV=>[(0,blkR g 80 (vltA V s n)),(1,blkR g2 87 (#[zI ((2*k:Nat):Int),.func (.func 105) #[] #[]]))]) 5 rfl (by kernel_rfl) rfl ⟨trivial,trivial,trivial,trivial,trivial,trivial⟩ (fun p=>(M2.step (zsa _)).sub ⟨rfl,rfl,trivial⟩) ⟨hopMP F3 (fun _ _ _ M=>zu (Mx.blk (k:=1) M rfl) dnil) (some g2),zcb F3,zcb F3,zcb F3,?_,trivial⟩ ?_
 ·intro ua uw SV pV (M:Mx (some g) w uw _) hk hn hd
  have e2:ua.eval (.tmp 2)=.slice Al l.length cl:=(show ua.eval (.tmp 2)=_ from hd 2 (by decide)).trans (F3 2 rfl)
  exact ze rfl (.slice Al l.length cl) (zla _ (.inl rfl) e2) rfl (M.sb)
 intro p6 a6 w6 M6 G6 y6
 obtain ⟨q0,-,-,q3,q4,-⟩:=y6
 have r0:p6 0=.agg (#[zI ((2*k:Nat):Int),.func (.func 105) #[] #[]]):=q0
 have r3:p6 3=(zO g):=q3
 have r4:p6 4=.slice Al l.length cl:=q4
 replace M6:Mx _ _ w6 [(0,blkR g 80 (vltA V s n)),(1,blkR g2 87 (#[zI ((2*k:Nat):Int),.func (.func 105) #[] #[]]))]:=M6
 simp only [List.take,layV,Nat.zero_add,Nat.reduceAdd,r0,r3,r4] at G6
 refine zh rfl rfl G6 rfl rfl (zE Tryz.func77 rfl) #[.agg (#[zI ((2*k:Nat):Int),.func (.func 105) #[] #[]]),(zO g),.slice Al l.length cl] (args3 (G6 7 rfl) (G6 10 rfl) (G6 11 rfl)) (hbw▸pwriteR_any (2*k) (by omega) g V s n hv l (.slice Al l.length cl) hl ht w6 (hB.grow M6.grown hBg) hBg (hr.grow M6.grown) (M6.blk (k:=0) rfl)) ?_
 rintro _ w7 a7 ⟨rfl,s7,n7,hr7,ht7,hc7,hg7⟩ F7
 rw [hVW] at hr7 hc7
 have M7:=M6.put (k:=0) rfl hg7 hc7
 cases bw
 ·refine zc (w':=w7) rfl rfl F7 rfl (.bool true) (zgb _ _ rfl (F7 12 rfl)) fun _ F8=>?_
  refine hK5 _ _ (wp_cond_true (F8 13 rfl) (zT fun _ hK9=>rm rfl F8 fun _ F10=>hK9 _ _ (wp_ret ?_)))
  try simp only [Exit.then,Exit.inBlock,Exit.jump]
  exact bodyPost_ret (res1 rfl (F10.get rfl)) F10.defers ⟨_,rfl,rfl,s7,n7,hr7,(fun b hb=>(ht7 b hb).imp id (fun hb=>Nat.le_trans M6.le hb)),hc7,M6.grown.trans hg7⟩
 ·refine zc (w':=w7) rfl rfl F7 rfl (.bool false) (zgb _ _ rfl (F7 12 rfl)) fun _ F11=>?_
  refine hK5 _ _ (wp_cond_false (F11 13 rfl) (wp_skip (hK4 _ _ (zT fun _ hK12=>?_))))
  exact rm rfl F11 fun _ F13=>hK12 _ _ (wp_ret (bodyPost_ret (res1 rfl (F13.get rfl)) F13.defers ⟨_,rfl,rfl,s7,n7,hr7,(fun b hb=>(ht7 b hb).imp id (fun hb=>Nat.le_trans M6.le hb)),hc7,M6.grown.trans hg7⟩))
section
open Go.Shelf
def setK (c:Nat→CelN) (m:Nat):Nat→Nat
 | 0=>0
 | j+1=>if (c j).f=true∧setK c m j<m then setK c m j+1 else setK c m j
def setC (c:Nat→CelN) (x:Nat→Int) (m:Nat):Nat→Nat→CelN
 | 0=>c
 | j+1=>if (c j).f=true then putC (setC c x m j) j (tornC (c j) (if setK c m j<m then tornN (x (setK c m j)) (c j).n.length else 0)) else setC c x m j
theorem setC_ge (c:Nat→CelN) (x:Nat→Int) (m:Nat):∀ (j i:Nat),j≤i→setC c x m j i=c i
 | 0,i,_=>rfl
 | j+1,i,h=>by
  unfold setC
  split
  ·rw [ztc _ _ (by omega)];exact setC_ge c x m j i (by omega)
  ·exact setC_ge c x m j i (by omega)
theorem setC_no {c:Nat→CelN} {x:Nat→Int} {m j:Nat} (h:(c j).f=false):setC c x m (j+1)=setC c x m j:=if_neg (by rw [h];exact Bool.false_ne_true)
theorem setK_no {c:Nat→CelN} {m j:Nat} (h:(c j).f=false):setK c m (j+1)=setK c m j:=if_neg (by rw [h];exact fun h=>Bool.false_ne_true h.1)
theorem setC_in {c:Nat→CelN} {x:Nat→Int} {m j:Nat} (h:(c j).f=true) (hk:setK c m j<m):setC c x m (j+1)=putC (setC c x m j) j (tornC (c j) (tornN (x (setK c m j)) (c j).n.length)):=by
 rw [setC,if_pos h,if_pos hk]
theorem setC_out {c:Nat→CelN} {x:Nat→Int} {m j:Nat} (h:(c j).f=true) (hk:¬setK c m j<m):setC c x m (j+1)=putC (setC c x m j) j (tornC (c j) 0):=by
 rw [setC,if_pos h,if_neg hk]
theorem setK_in {c:Nat→CelN} {m j:Nat} (h:(c j).f=true) (hk:setK c m j<m):setK c m (j+1)=setK c m j+1:=if_pos ⟨h,hk⟩
theorem setK_out {c:Nat→CelN} {m j:Nat} (hk:¬setK c m j<m):setK c m (j+1)=setK c m j:=if_neg fun h=>hk h.2
theorem tornN_le (k:Int) (n:Nat):tornN k n≤n:=by unfold tornN;omega
theorem tornN_int (k:Int) (n:Nat):((tornN k n:Nat):Int)=min (max k 0) (n:Int):=by unfold tornN;omega
def zua (B N:Nat) (c:Nat→CelN) (s n:Nat→Value):Res:=⟨false,zo N s n,fun w=>∀ i,i<N→IsB w (c i).s (s i)∧IsB w (c i).n (n i)∧∀ b,bfp (s i) b∨bfp (n i) b→B≤b⟩
theorem rows_dep {B N:Nat} {c:Nat→CelN} {s n:Nat→Value}:∀ u u',Same (zua B N c s n).fp u u'→(zua B N c s n).F u→(zua B N c s n).F u':=fun u u' hs h i hi=>
 ⟨(h i hi).1.same ⟨fun g o hg ho=>hs.at_ g o ⟨i,hi,.inl hg⟩ ho,hs.size⟩,(h i hi).2.1.same ⟨fun g o hg ho=>hs.at_ g o ⟨i,hi,.inr hg⟩ ho,hs.size⟩,(h i hi).2.2⟩
section
variable {G:Option Nat} {w0 w:World} {R:List (Nat×Res)} {B N i k:Nat} {c:Nat→CelN} {s n:Nat→Value}
theorem Mx.rowsAt (M:Mx G w0 w R) (h:look R i=some (zua B N c s n)):∀ j,j<N→IsB w (c j).s (s j)∧IsB w (c j).n (n j)∧∀ b,bfp (s j) b∨bfp (n j) b→B≤b:=M.at_ i _ h
theorem Mx.rowsS (M:Mx G w0 w R) (h:look R i=some (zua B N c s n)) {j:Nat} (hj:j<N):IsB w (c j).s (s j):=(M.rowsAt h j hj).1
theorem Mx.rowsN (M:Mx G w0 w R) (h:look R i=some (zua B N c s n)) {j:Nat} (hj:j<N):IsB w (c j).n (n j):=(M.rowsAt h j hj).2.1
theorem Mx.rowsG {g:Nat} {t:TypeId} {a:Array Value} (hr:RowsV w g c s n) (hg:w.heap[g]? = some (.cells a t (0,0))) (i:Nat):Mx (some g) w w [(i,zua 0 18 c s n),(0,blkR g t a)]:=
 (Mx.theG hg 0).cons i _ (fun j hj=>⟨(hr j hj).1.1,(hr j hj).2.1,fun _ _=>Nat.zero_le _⟩) rows_dep (fun b ⟨j,hj,hb⟩=>by
  rcases hb with hb | hb
  ·exact (hr j hj).1.1.lt hb
  ·exact (hr j hj).2.1.lt hb) (fun e=>by cases e) fun k t e _ _ b hb hb2=>by
  rw [zx] at e
  split at e
  ·cases e
   obtain rfl:b=g:=hb2
   obtain ⟨j,hj,hb⟩:=hb
   rcases hb with hb | hb
   ·exact (hr j hj).1.2 hb
   ·exact (hr j hj).2.2 hb
  ·cases e
theorem Mx.rowsV (M:Mx G w0 w R) {g:Nat} {t:TypeId} {a:Array Value} (h:look R i=some (zua B 18 c s n)) (hb:look R k=some (blkR g t a)) (hik:i≠k):RowsV w g c s n:=fun j hj=>
 ⟨⟨(M.rowsAt h j hj).1,fun hg=>M.dis k i _ _ hb h (fun e=>hik e.symm) rfl g rfl ⟨j,hj,.inl hg⟩⟩,(M.rowsAt h j hj).2.1,fun hg=>M.dis k i _ _ hb h (fun e=>hik e.symm) rfl g rfl ⟨j,hj,.inr hg⟩⟩
theorem Mx.rowsPut (M:Mx G w0 w R) (h:look R i=some (zua B N c s n)) {l x:List UInt8} {u:Value} (hu:look R k=some (ownR l u)) (hB:∀ b,bfp u b→B≤b) (p:Nat) (e1:x=l):
  Mx G w0 w ((i,zua B N (putC c p ⟨x,[],false⟩) (putN s p u) (putN n p (zN)))::(k,bytR l u)::R):=by
 subst e1
 have hik:¬k=i:=fun e=>by subst e;rw [h] at hu;cases hu
 have M2:=M.tame hu
 have hsub:∀ b,zo N (putN s p u) (putN n p (zN)) b→zo N s n b∨bfp u b:=fun b ⟨j,hj,hb⟩=>by
  by_cases e:j=p
  ·subst e
   unfold putN at hb
   rw [if_pos rfl,if_pos rfl] at hb
   rcases hb with hb | hb
   ·exact .inr hb
   ·exact absurd hb (zpa b)
  ·unfold putN at hb
   rw [if_neg e,if_neg e] at hb
   exact .inl ⟨j,hj,hb⟩
 refine M2.cons i _ (fun j hj=>?_) rows_dep (fun b hb=>?_) (fun e=>by cases e) fun q t e hq hw b hb hb2=>?_
 ·by_cases e:j=p
  ·subst e
   rw [zec]
   unfold putN
   rw [if_pos rfl,if_pos rfl]
   refine ⟨M.isO hu,zia _,fun b hb=>?_⟩
   rcases hb with hb | hb
   ·exact hB b hb
   ·exact absurd hb (zpa b)
  ·rw [ztc _ _ e]
   unfold putN
   rw [if_neg e,if_neg e]
   exact M.rowsAt h j hj
 ·rcases hsub b hb with hb | hb
  ·exact M.lt i _ h b hb
  ·exact (M.isO hu).lt hb
 ·rcases hw with hw | hw
  ·cases hw
  rw [zx] at e
  split at e
  ·cases e;cases hw
  ·rename_i hkq
   rcases hsub b hb with hb | hb
   ·exact M.dis q i t _ e h (fun e2=>hq e2.symm) hw b hb2 hb
   ·exact M.dis q k t _ e hu (fun e2=>hkq e2.symm) hw b hb2 (zta hb)
theorem Mx.rowsNil (M:Mx G w0 w R) (i B:Nat) (N:Nat):Mx G w0 w ((i,zua B N (fun _=>nilC) nilS nilS)::R):=
 M.cons i _ (fun j hj=>⟨zia _,zia _,fun b hb=>by rcases hb with hb | hb <;> exact absurd hb (zpa b)⟩) rows_dep (fun b ⟨j,hj,hb⟩=>by rcases hb with hb | hb <;> exact absurd hb (zpa b)) (fun e=>by cases e) fun _ _ _ _ _ b ⟨j,hj,hb⟩=>by rcases hb with hb | hb <;> exact absurd hb (zpa b)
theorem Mx.rowsTwo (M:Mx G w0 w R) (h:look R i=some (zua B N c s n)) {k2:Nat} {x y:List UInt8} {u v:Value} {f:Bool} (hu:look R k=some (ownR x u)) (hv:look R k2=some (ownR y v)) (hB:∀ b,bfp u b→B≤b) (hB2:∀ b,bfp v b→B≤b) (p:Nat) (hne:¬k=k2):
  Mx G w0 w ((i,zua B N (putC c p ⟨x,y,f⟩) (putN s p u) (putN n p v))::(k2,bytR y v)::(k,bytR x u)::R):=by
 have hik:¬k=i:=fun e=>by subst e;rw [h] at hu;cases hu
 have hik2:¬k2=i:=fun e=>by subst e;rw [h] at hv;cases hv
 have hlk:look ((k,bytR x u)::R) k2=some (ownR y v):=by rw [zx,if_neg hne];exact hv
 have M2:=(M.tame hu).tame hlk
 have hsub:∀ b,zo N (putN s p u) (putN n p v) b→zo N s n b∨bfp u b∨bfp v b:=fun b ⟨j,hj,hb⟩=>by
  by_cases e:j=p
  ·subst e
   unfold putN at hb
   rw [if_pos rfl,if_pos rfl] at hb
   exact .inr hb
  ·unfold putN at hb
   rw [if_neg e,if_neg e] at hb
   exact .inl ⟨j,hj,hb⟩
 refine M2.cons i _ (fun j hj=>?_) rows_dep (fun b hb=>?_) (fun e=>by cases e) fun q t e hq hw b hb hb2=>?_
 ·by_cases e:j=p
  ·subst e
   rw [zec]
   unfold putN
   rw [if_pos rfl,if_pos rfl]
   refine ⟨M.isO hu,M.isO hv,fun b hb=>?_⟩
   rcases hb with hb | hb
   ·exact hB b hb
   ·exact hB2 b hb
  ·rw [ztc _ _ e]
   unfold putN
   rw [if_neg e,if_neg e]
   exact M.rowsAt h j hj
 ·rcases hsub b hb with hb | hb | hb
  ·exact M.lt i _ h b hb
  ·exact (M.isO hu).lt hb
  ·exact (M.isO hv).lt hb
 ·rcases hw with hw | hw
  ·cases hw
  rw [zx] at e
  split at e
  ·cases e;cases hw
  ·rename_i hkq
   rw [zx] at e
   split at e
   ·cases e;cases hw
   ·rename_i hkq2
    rcases hsub b hb with hb | hb | hb
    ·exact M.dis q i t _ e h (fun e2=>hq e2.symm) hw b hb2 hb
    ·exact M.dis q k t _ e hu (fun e2=>hkq2 e2.symm) hw b hb2 (zta hb)
    ·exact M.dis q k2 t _ e hv (fun e2=>hkq e2.symm) hw b hb2 (zta hb)
end
theorem rowsfp_put {N:Nat} {s n:Nat→Value} {p:Nat} {u:Value} {b:Nat} (h:zo N (putN s p u) (putN n p (zN)) b):zo N s n b∨bfp u b:=by
 obtain ⟨j,hj,hb⟩:=h
 by_cases e:j=p
 ·subst e
  unfold putN at hb
  rw [if_pos rfl,if_pos rfl] at hb
  rcases hb with hb | hb
  ·exact .inr hb
  ·exact absurd hb (zpa b)
 ·unfold putN at hb
  rw [if_neg e,if_neg e] at hb
  exact .inl ⟨j,hj,hb⟩
def tlA (A:Option Addr) (c:Nat):Option Addr:=if c=1 then A else A.map (·.add 1)
theorem rdI_tl {w:World} {A:Option Addr} {n c:Nat} {x:Nat→Int} (h:RdI w A n x) (h1:1≤n) (hc:n≤c):RdI w (tlA A c) (n-1) (fun i=>x (i+1)):=by
 refine ⟨by have:=h.1;omega,fun k=>h.2.1 _,fun hn=>?_⟩
 obtain ⟨b,o,rfl,h2,h3⟩:=h.2.2 (by omega)
 refine ⟨b,o+1,?_,h2,fun k hk=>?_⟩
 ·unfold tlA
  rw [if_neg (by omega)]
  simp [zna]
 ·have:=h3 (k+1) (by omega)
  rwa [show o+(k+1)=o+1+k by omega] at this
theorem ifp_tl {w:World} {A:Option Addr} {n c:Nat} {x:Nat→Int} (hr:RdI w A n x) (h1:1≤n) (hc:n≤c) {g:Nat} (h:ifp (tlA A c) (n-1) g):ifp A n g:=by
 obtain ⟨hn,o,e⟩:=h
 unfold tlA at e
 rw [if_neg (by omega)] at e
 obtain ⟨b,q,rfl,-,-⟩:=hr.2.2 (by omega)
 simp only [Option.map_some,Option.some.injEq] at e
 have hb:((⟨b,q,none⟩:Addr).add 1).block=b:=by unfold Addr.add;split <;> rfl
 rw [e] at hb
 have hb:g=b:=hb
 subst hb
 exact ⟨by omega,q,rfl⟩
theorem RdI.grow {w w':World} {A:Option Addr} {n g:Nat} {x:Nat→Int} (h:RdI w A n x) (hb:w.grownBy w' (some g)) (hg:¬ifp A n g):RdI w' A n x:=
 RdI.same (u:=w) ⟨fun b o hf ho=>(hb.block b (Array.getElem?_eq_some_iff.1 ho).1 (fun e=>hg (by cases e;exact hf))).trans ho,hb.size⟩ h
section
variable {a:Act} {w:World} {o:Oper} {A:Option Addr} {n c:Nat} {x:Nat→Int}
theorem y_slI1 (x y:Operand) (ho:o.op=.slice 22 x (some y) none none) (hx:a.eval x=.slice A n c) (hy:a.eval y=zI 1) (h1:1≤n) (hc:n≤c):(execOp a.eval o).run Tryz.prog w=.ok (.value (.slice (tlA A c) (n-1) (c-1))) w:=by
 have elem_int:Tryz.prog.elem 22=3:=by kernel_rfl
 have under_int:Tryz.prog.underlying 22=some (.slice (Tryz.prog.elem 22)):=by rw [elem_int];exact Tryz.underlying22
 have size_int:(sizeOf 3).run Tryz.prog w=.ok 1 w:=by
  have hi:(Tryz.prog.info? 3).map (·.size)=some 1:=by kernel_rfl
  cases hq:Tryz.prog.info? 3 with
  | none=>rw [hq] at hi;cases hi
  | some i=>rw [hq] at hi;simp only [Option.map_some,Option.some.injEq] at hi;simp [sizeOf,typeInfo,hq,hi]
 unfold execOp
 simp only [ho,hx]
 simp only [Option.map_some,Option.map_none,hy]
 rw [Sem.run_bind,run_sliceAt_slice _ _ _ _ _ _ under_int,run_slice_l _ _ _ _ _ under_int .i64 1 (by omega) (by omega),elem_int,size_int]
 simp only [Result.andThen_ok,sliced,Int.toNat_natCast,Nat.mul_one,Sem.run_pure,tlA]
 rfl
theorem y_maxI (x y:Operand) {T T2:TypeId} (ho:o.op=.call { callee:=.builtin .max,args:=#[x,y],argTypes:=#[T,T2] }) {p q r:Int} (hx:a.eval x=zI p) (hy:a.eval y=zI q) (hr:max p q=r):(execOp a.eval o).run Tryz.prog w=.ok (.value (zI r)) w:=by
 subst hr
 simp only [execOp,ho,resolve,Sem.run_bind,Sem.run_pure,Result.andThen_ok,invoke,List.map_toArray,List.map_cons,List.map_nil,hx,hy]
 simp [builtin,go_sem,Result.andThen]
end
end
theorem y_lssS {a:Act} {w:World} {o:Oper} (x y:Operand) {T tz:TypeId} (ho:o.op=.binOp .lss T x y tz) {p q:ByteArray} (hx:a.eval x=.string p) (hy:a.eval y=.string q) {b:Bool} (hb:Op.bytesLess p.toList q.toList=b):(execOp a.eval o).run Tryz.prog w=.ok (.value (.bool b)) w:=by
 subst hb
 unfold execOp;simp only [ho,hx,hy];simp [go_sem,eqGuard]
theorem ixs_ex {a:Act} {w:World} {o:Oper} (x k:Operand) (ho:o.op=.index 9 x k) {s:ByteArray} (hx:a.eval x=.string s) {j:Nat} (hk:a.eval k=zY (j:Int)) (hj:j<s.size):∃ v,(execOp a.eval o).run Tryz.prog w=.ok (.value v) w∧∃ b:Nat,b<256∧v=zY (b:Int):=by
 refine ⟨zY (((s[j]'hj).toNat:Nat):Int),?_,_,(s[j]'hj).toNat_lt,rfl⟩
 unfold execOp
 simp only [ho,hx,hk]
 have h0:¬((j:Int)<0):=by omega
 have h1:(j:Int)<(s.size:Int):=by omega
 simp [go_sem,h0,h1,hj,Instr.index]
def rowA (D:List ByteArray) (E:List Value):Array Value:=(D.map Value.string++E).toArray
theorem rowA_at {D:List ByteArray} {E:List Value} {j:Nat} {s:ByteArray} (h:D[j]? = some s):(rowA D E)[j]? = some (.string s):=by
 unfold rowA
 rw [List.getElem?_toArray,List.getElem?_append_left (by rw [List.length_map];exact (List.getElem?_eq_some_iff.1 h).1),List.getElem?_map,h];rfl
theorem rowA_size (D:List ByteArray) (E:List Value):(rowA D E).size=D.length+E.length:=by unfold rowA;simp
theorem rowA_put {D:List ByteArray} {E:List Value} {j:Nat} (hj:j<D.length) (s:ByteArray):((rowA D E).toList.take j++(#[.string s]:Array Value).toList++(rowA D E).toList.drop (j+(#[.string s]:Array Value).size)).toArray=rowA (D.set j s) E:=by
 unfold rowA
 congr 1
 show (D.map Value.string++E).take j++[Value.string s]++(D.map Value.string++E).drop (j+1)=_
 have hl:(D.map Value.string).length=D.length:=List.length_map _
 rw [List.take_append_of_le_length (by omega),List.drop_append_of_le_length (by omega),←List.map_take,←List.map_drop,List.set_eq_take_append_cons_drop,if_pos hj]
 simp
def insV:ByteArray→List ByteArray→List ByteArray
 | x,[]=>[x]
 | x,y::ys=>if Op.bytesLess x.toList y.toList=true then y::insV x ys else x::y::ys
def insR (acc:List ByteArray) (x:ByteArray):List ByteArray:=(insV x acc.reverse).reverse
def srtL (L:List ByteArray):List ByteArray:=L.foldl insR []
theorem insR_nil (x:ByteArray):insR [] x=[x]:=rfl
theorem insR_less {P:List ByteArray} {x y:ByteArray} (h:Op.bytesLess x.toList y.toList=true):insR (P++[y]) x=insR P x++[y]:=by
 unfold insR
 rw [List.reverse_append]
 show (insV x (y::P.reverse)).reverse=_
 rw [insV,if_pos h,List.reverse_cons]
theorem insR_no {P:List ByteArray} {x y:ByteArray} (h:Op.bytesLess x.toList y.toList=false):insR (P++[y]) x=P++[y]++[x]:=by
 unfold insR
 rw [List.reverse_append]
 show (insV x (y::P.reverse)).reverse=_
 rw [insV,if_neg (by rw [h];exact Bool.false_ne_true)]
 simp
theorem insR_len (P:List ByteArray) (x:ByteArray):(insR P x).length=P.length+1:=by
 have:∀ (L:List ByteArray),(insV x L).length=L.length+1:=fun L=>by
  induction L with
  | nil=>rfl
  | cons y ys ih=>
   unfold insV
   split
   ·rw [List.length_cons,ih,List.length_cons]
   ·rfl
 unfold insR
 rw [List.length_reverse,this,List.length_reverse]
theorem srtL_next {L:List ByteArray} {i:Nat} {x:ByteArray} (h:L[i]? = some x):srtL (L.take (i+1))=insR (srtL (L.take i)) x:=by
 obtain ⟨h1,h2⟩:=List.getElem?_eq_some_iff.1 h
 unfold srtL
 rw [List.take_succ_eq_append_getElem h1,h2,List.foldl_append]
 rfl
theorem srtL_len (L:List ByteArray):(srtL L).length=L.length:=by
 have:∀ (M acc:List ByteArray),(M.foldl insR acc).length=acc.length+M.length:=fun M=>by
  induction M with
  | nil=>intro acc;rfl
  | cons x M ih=>intro acc;rw [List.foldl_cons,ih,insR_len,List.length_cons];omega
 unfold srtL
 rw [this];simp
theorem len64_any (n:Nat) (hn:n<100) (w:World):
  Calls Tryz.prog 119 #[.int .u64 (n:Int)] w fun e w'=>∃ z:Int,e=.returned (zI z)∧Below w.heap.size w w':=by
 refine zk (args:=[.int .u64 (n:Int)]) 25 Tryz.func119 rfl rfl rfl ?_
 intro fa F
 have M:=Mx.start w
 refine zT fun _ hK1=>rm rfl F fun _ F2=>hK1 _ _ (zSk fun _ hK3=>zT fun _ hK4=>rm rfl F2 fun _ F5=>zc (w':=w) rfl rfl F5 rfl (.bool false) (y_geq _ _ _ _ rfl (F5 3 rfl) rfl (decide_eq_false (show ¬((4294967296:Int)≤(n:Int)) by omega))) fun _ F6=>?_)
 refine hK4 _ _ (wp_cond_false (F6 4 rfl) (wp_skip (hK3 _ _ (zSk fun _ hK7=>zT fun _ hK8=>rm rfl F6 fun _ F9=>zc (w':=w) rfl rfl F9 rfl (.bool false) (y_geq _ _ _ _ rfl (F9 7 rfl) rfl (decide_eq_false (show ¬((65536:Int)≤(n:Int)) by omega))) fun _ F10=>?_))))
 refine hK8 _ _ (wp_cond_false (F10 8 rfl) (wp_skip (hK7 _ _ (zSk fun _ hK11=>zT fun _ hK12=>rm rfl F10 fun _ F13=>zc (w':=w) rfl rfl F13 rfl (.bool false) (y_geq _ _ _ _ rfl (F13 13 rfl) rfl (decide_eq_false (show ¬((256:Int)≤(n:Int)) by omega))) fun _ F14=>?_))))
 refine hK12 _ _ (wp_cond_false (F14 14 rfl) (wp_skip (hK11 _ _ (zT fun _ hK15=>rm rfl F14 fun _ F16=>rm rfl F16 fun _ F17=>zc (w':=w) rfl rfl F17 rfl (zY (n:Int)) (y_cvI _ _ _ rfl (F17 20 rfl) Tryz.underlying157 Tryz.underlying5 (by rw [IntKind.wrap_u8];omega)) fun _ F18=>?_))))
 refine zrc rfl rfl F18 rfl (ixs_ex _ _ rfl rfl (F18 21 rfl) (Nat.lt_of_lt_of_le hn (zL rfl))) ?_
 rintro v a19 ⟨bl,hbl,rfl⟩ F19
 refine zc (w':=w) rfl rfl F19 rfl (zI (bl:Int)) (y_cvI _ _ _ rfl (F19 22 rfl) Tryz.underlying5 Tryz.underlying3 (by rw [IntKind.wrap_i64];omega)) fun _ F20=>?_
 refine zc (w':=w) rfl rfl F20 rfl (zI (bl:Int)) (zoa _ _ _ _ rfl (F20 19 rfl) (F20 23 rfl) (by omega) (by omega)) fun _ F21=>?_
 exact rm rfl F21 fun _ F22=>hK15 _ _ (wp_ret (bodyPost_ret (res1 rfl (F22.get rfl)) F22.defers ⟨_,rfl,M.below⟩))
theorem len64_ex (n:Nat) (hn:n<100) (w:World):Calls Tryz.prog 119 #[.int .u64 (n:Int)] w fun e w'=>∃ v,e=.returned v∧∃ z:Int,v=zI z∧Below w.heap.size w w':=
 (len64_any n hn w).mono fun e w' ⟨z,h1,h2⟩=>⟨_,h1,z,rfl,h2⟩
theorem len_any (n:Nat) (hn:n<100) (w:World):
  Calls Tryz.prog 87 #[.int .u64 (n:Int)] w fun e w'=>∃ z:Int,e=.returned (zI z)∧Below w.heap.size w w':=by
 refine zk (args:=[.int .u64 (n:Int)]) 8 Tryz.func87 rfl rfl rfl ?_
 intro fa F
 have M:=Mx.start w
 refine zT fun _ hK1=>rm rfl F fun _ F2=>hK1 _ _ (zSk fun _ hK3=>wp_cond_false rfl (wp_skip (hK3 _ _ (zT fun _ hK4=>rm rfl F2 fun _ F5=>zh rfl rfl F5 rfl rfl (zE Tryz.func119 rfl) #[.int .u64 (n:Int)] (zaa (F5 6 rfl)) (len64_ex n hn w) ?_))))
 rintro _ w6 a6 ⟨z6,rfl,b6⟩ F6
 have M6:=M.step b6
 exact rm rfl F6 fun _ F7=>hK4 _ _ (wp_ret (bodyPost_ret (res1 rfl (F7.get rfl)) F7.defers ⟨_,rfl,M6.below⟩))
theorem len_ex (n:Nat) (hn:n<100) (w:World):Calls Tryz.prog 87 #[.int .u64 (n:Int)] w fun e w'=>∃ v,e=.returned v∧∃ z:Int,v=zI z∧Below w.heap.size w w':=
 (len_any n hn w).mono fun e w' ⟨z,h1,h2⟩=>⟨_,h1,z,rfl,h2⟩
theorem isnan_any (s:ByteArray) (w:World):
  Calls Tryz.prog 139 #[.string s] w fun e w'=>e=.returned (.bool false)∧Below w.heap.size w w':=by
 refine zk (args:=[.string s]) 6 Tryz.func139 rfl rfl rfl ?_
 intro fa F
 have M:=Mx.start w
 refine zT fun _ hK1=>rm rfl F fun _ F2=>hK1 _ _ (zT fun _ hK3=>rm rfl F2 fun _ F4=>rm rfl F4 fun _ F5=>zc (w':=w) rfl rfl F5 rfl (.bool false) (y_neS _ _ _ rfl (F5 3 rfl) (F5 4 rfl) (by simp)) fun _ F6=>?_)
 exact rm rfl F6 fun _ F7=>hK3 _ _ (wp_ret (bodyPost_ret (res1 rfl (F7.get rfl)) F7.defers ⟨rfl,M.below⟩))
theorem lessS_any (s u:ByteArray) (w:World):
  Calls Tryz.prog 115 #[.string s,.string u] w fun e w'=>e=.returned (.bool (Op.bytesLess s.toList u.toList))∧Below w.heap.size w w':=by
 refine zk (args:=[.string s,.string u]) 17 Tryz.func115 rfl rfl rfl ?_
 intro fa F
 have M:=Mx.start w
 refine zT fun _ hK1=>rm rfl F fun _ F2=>hK1 _ _ (zT fun _ hK3=>rm rfl F2 fun _ F4=>zh rfl rfl F4 rfl rfl (zE Tryz.func139 rfl) #[.string s] (zaa (F4 5 rfl)) (zba ((isnan_any s w))) ?_)
 rintro _ w5 a5 ⟨rfl,b5⟩ F5
 have M5:=M.step b5
 refine zB 8 [(4,.bool false),(12,.bool false),(13,.string s),(14,.string u)] [] dnil [] F5 fun _ F6=>?_
 refine zc (w':=w5) (zd rfl rfl rfl (F6 12 rfl)) rfl F6 rfl (.bool (Op.bytesLess s.toList u.toList)) (y_lssS _ _ rfl (F6 13 rfl) (F6 14 rfl) rfl) fun _ F7=>?_
 refine zB 2 [(4,.bool (Op.bytesLess s.toList u.toList))] [] dnil [] F7 fun _ F8=>?_
 exact hK3 _ _ (wp_ret (bodyPost_ret (res1 rfl (F8.get rfl)) F8.defers ⟨rfl,M5.below⟩))
theorem srt_one (L:List ByteArray):srtL (L.take 1)++L.drop 1=L:=by
 cases L with
 | nil=>rfl
 | cons x t=>rfl
theorem srt_all {L:List ByteArray} {i:Nat} (h1:1≤i) (h:¬(i:Int)<(L.length:Int)):srtL (L.take i)++L.drop i=srtL L:=by
 rw [List.take_of_length_le (by omega),List.drop_eq_nil_of_le (by omega),List.append_nil]
theorem drop_at {L:List ByteArray} {i:Nat} {x:ByteArray} (h:L[i]? = some x):L.drop i=x::L.drop (i+1):=by
 obtain ⟨h1,h2⟩:=List.getElem?_eq_some_iff.1 h
 rw [List.drop_eq_getElem_cons h1,h2]
theorem swap_eq {P:List ByteArray} {x y:ByteArray} {U:List ByteArray} {j:Nat} (hj:P.length=j):(((P++[y])++x::U).set (j+1) y).set j x=P++x::(y::U):=by
 subst hj
 rw [List.append_assoc,List.set_append_right _ _ (by omega),List.set_append_right _ _ (by omega)]
 simp
theorem ins_done {acc P Q T:List ByteArray} {x:ByteArray} (h:insR acc x=insR P x++Q) (hP:P=[]∨∃ P' y,P=P'++[y]∧Op.bytesLess x.toList y.toList=false):P++x::(Q++T)=insR acc x++T:=by
 rw [h]
 rcases hP with rfl | ⟨P',y,rfl,hy⟩
 ·rw [insR_nil];simp
 ·rw [insR_no hy];simp
theorem ins_next {acc P Q:List ByteArray} {x y:ByteArray} (h:insR acc x=insR (P++[y]) x++Q) (hy:Op.bytesLess x.toList y.toList=true):insR acc x=insR P x++(y::Q):=by
 rw [h,insR_less hy];simp
theorem last_of {P:List ByteArray} {j:Nat} (h:P.length=j+1):∃ P' y,P=P'++[y]∧P'.length=j:=by
 have hne:P≠[]:=by rintro rfl;simp at h
 exact ⟨P.dropLast,P.getLast hne,(List.dropLast_concat_getLast hne).symm,by rw [List.length_dropLast];omega⟩
theorem insert_nil (A0:Option Addr) (c0:Nat) (w:World):
  Calls Tryz.prog 109 #[.slice A0 0 c0,zI 0,zI 0] w fun e w'=>∃ t,e=.returned t∧Below w.heap.size w w':=by
 refine zk (args:=[.slice A0 0 c0,zI 0,zI 0]) 49 Tryz.func109 rfl rfl rfl ?_
 intro fa F
 have M:=Mx.start w
 refine zT fun _ hK1=>rm rfl F fun _ F2=>zc (w':=w) rfl rfl F2 rfl (zI 1) (zoa _ _ _ _ rfl (F2 8 rfl) rfl rfl (by omega)) fun _ F3=>?_
 refine rm rfl F3 fun _ F4=>hK1 _ _ (wp_block (zeb (α:=Nat) (n:=49) (G:=none) (w0:=w) (fun x=>[(0,.slice A0 0 c0),(1,zI 0),(2,zI 0),(6,zI 1)]) (fun x=>[]) (fun k x=>k=0∧(True)) _ 0 ⟨rfl,trivial⟩ (F4.sb) (M.sub trivial) ?_))
 rintro k5 u a5 w5 K5 ⟨ek5,I5⟩ F5 M5 hK5
 replace F5:Fx 49 a5 [(0,.slice A0 0 c0),(1,zI 0),(2,zI 0),(6,zI 1)]:=F5
 replace M5:Mx _ _ w5 []:=M5
 replace I5:True:=I5
 replace ek5:k5=0:=ek5
 refine zSk fun _ hK6=>zT fun _ hK7=>zB 3 [(0,.slice A0 0 c0),(1,zI 0),(2,zI 0),(6,zI 1),(12,.bool false)] [] dnil [] F5 fun _ F8=>?_
 refine hK7 _ _ (wp_cond_false (F8 12 rfl) (wp_exit ?_))
 simp only [Exit.then,Exit.inBlock,↓reduceIte,Nat.reduceEqDiff]
 exact bodyPost_end (res0 rfl) F8.defers ⟨_,rfl,M5.below⟩
theorem insert_some (L:List ByteArray) (E:List Value) (gr c0:Nat) (hL:L.length≤1000) (w:World) (hg:w.heap[gr]? = some (.cells (rowA L E) 9 (0,0))):
  Calls Tryz.prog 109 #[.slice (some ⟨gr,0,none⟩) L.length c0,zI 0,zI (L.length:Int)] w fun e w'=>∃ t,e=.returned t∧w'.heap[gr]? = some (.cells (rowA (srtL L) E) 9 (0,0))∧w.grownBy w' (some gr):=by
 refine zk (args:=[.slice (some ⟨gr,0,none⟩) L.length c0,zI 0,zI (L.length:Int)]) 49 Tryz.func109 rfl rfl rfl ?_
 intro fa F
 have M:=Mx.theG hg 0
 refine zT fun _ hK1=>rm rfl F fun _ F2=>zc (w':=w) rfl rfl F2 rfl (zI 1) (zoa _ _ _ _ rfl (F2 8 rfl) rfl rfl (by omega)) fun _ F3=>?_
 refine rm rfl F3 fun _ F4=>hK1 _ _ (wp_block (zeb (α:=Nat×(List ByteArray)) (n:=49) (G:=(some gr)) (w0:=w) (fun x=>[(0,.slice (some ⟨gr,0,none⟩) L.length c0),(1,zI 0),(2,zI (L.length:Int)),(6,zI (x.1:Int))]) (fun x=>[(0,blkR gr 9 (rowA x.2 E))]) (fun k x=>k=(L.length+1-x.1)∧(1≤x.1∧(L.length=0∨x.1≤L.length)∧x.2=srtL (L.take x.1)++L.drop x.1)) _ ⟨1,L⟩ ⟨rfl,⟨Nat.le_refl _,by dsimp only;omega,(srt_one L).symm⟩⟩ (F4.sb) (M.sb) ?_))
 rintro k5 ⟨iv,Dv⟩ a5 w5 K5 ⟨ek5,I5⟩ F5 M5 hK5
 replace F5:Fx 49 a5 [(0,.slice (some ⟨gr,0,none⟩) L.length c0),(1,zI 0),(2,zI (L.length:Int)),(6,zI (iv:Int))]:=F5
 replace M5:Mx _ _ w5 [(0,blkR gr 9 (rowA Dv E))]:=M5
 replace I5:1≤iv∧(L.length=0∨iv≤L.length)∧Dv=srtL (L.take iv)++L.drop iv:=I5
 replace ek5:k5=(L.length+1-iv):=ek5
 obtain ⟨hi1,hin,hD⟩:=I5
 by_cases hlt:iv<L.length
 ·obtain ⟨xt,hx⟩:∃ xt,L[iv]? = some xt:=⟨_,List.getElem?_eq_getElem hlt⟩
  refine zSk fun _ hK6=>zT fun _ hK7=>rm rfl F5 fun _ F8=>rm rfl F8 fun _ F9=>zc (w':=w5) rfl rfl F9 rfl (.bool true) (zka _ _ _ _ rfl (F9 10 rfl) (F9 11 rfl) (decide_eq_true (show (iv:Int)<(L.length:Int) by omega))) fun _ F10=>?_
  refine hK7 _ _ (wp_cond_true (F10 12 rfl) (wp_skip (hK6 _ _ (zSk fun _ hK11=>wp_block (zT fun _ hK12=>rm rfl F10 fun _ F13=>rm rfl F13 fun _ F14=>hK12 _ _ (wp_block ?_))))))
  refine zeb (α:=Nat×(List ByteArray)×(List ByteArray)) (n:=49) (G:=(some gr)) (w0:=w) (fun x=>[(0,.slice (some ⟨gr,0,none⟩) L.length c0),(1,zI 0),(2,zI (L.length:Int)),(6,zI (iv:Int)),(7,zI (x.1:Int))]) (fun x=>[(0,blkR gr 9 (rowA (x.2.1++xt::(x.2.2++L.drop (iv+1))) E))]) (fun k x=>k=x.1∧(x.2.1.length=x.1∧x.1+x.2.2.length=iv∧insR (srtL (L.take iv)) xt=insR x.2.1 xt++x.2.2)) _ ⟨iv,(srtL (L.take iv)),[]⟩ ⟨rfl,⟨by rw [srtL_len,List.length_take];omega,by simp,by simp⟩⟩ (F14.sb) (M5.sub ⟨(by rw [hD,drop_at hx];rfl),trivial⟩) ?_
  rintro k15 ⟨jv,Pv,Qv⟩ a15 w15 K15 ⟨ek15,I15⟩ F15 M15 hK15
  replace F15:Fx 49 a15 [(0,.slice (some ⟨gr,0,none⟩) L.length c0),(1,zI 0),(2,zI (L.length:Int)),(6,zI (iv:Int)),(7,zI (jv:Int))]:=F15
  replace M15:Mx _ _ w15 [(0,blkR gr 9 (rowA (Pv++xt::(Qv++L.drop (iv+1))) E))]:=M15
  replace I15:Pv.length=jv∧jv+Qv.length=iv∧insR (srtL (L.take iv)) xt=insR Pv xt++Qv:=I15
  replace ek15:k15=jv:=ek15
  obtain ⟨hPl,hQl,hins⟩:=I15
  rcases Nat.eq_zero_or_pos jv with hj0 | hj0
  ·subst hj0
   have hfin:Pv=[]∨∃ P' y,Pv=P'++[y]∧Op.bytesLess xt.toList y.toList=false:=.inl (List.eq_nil_of_length_eq_zero hPl)
   refine zSk fun _ hK16=>zSk fun _ hK17=>z4a F15 (SK [.inl (zI ((0:Nat):Int)),.inl (zI 0),.inl (.bool false),.inl (.bool false),.inl (undef),.inl (undef),.inl (undef),.inl (undef),.inl (undef),.inl (undef),.inl (undef),.inl (undef),.inl (undef),.inl (undef),.inl (.bool false)]) 15 rfl (by kernel_rfl) ⟨hop0 F15,hop0 F15,?_,hop0 F15,hop0 F15,hop0 F15,hop0 F15,hop0 F15,hop0 F15,hop0 F15,hop0 F15,hop0 F15,hop0 F15,hop0 F15,hop0 F15,trivial⟩ ?_
   ·intro ua uw hb hd
    have e16:ua.eval (.tmp 16)=zI ((0:Nat):Int):=hd 16 (by decide)
    have e17:ua.eval (.tmp 17)=zI 0:=hd 17 (by decide)
    exact z9b (F:=(StK.eq (.bool false)).F) rfl (.bool false) (zbc _ _ _ _ rfl e16 e17 (decide_eq_false (by decide))) rfl
   intro p19 a19 w19 b19 G19 y19
   obtain ⟨-,-,-,-,-,-,-,-,-,-,-,-,-,-,q14,-⟩:=y19
   have r14:p19 14=.bool false:=q14 (by decide)
   simp only [List.take,layV,Nat.zero_add,Nat.reduceAdd,r14] at G19
   have M19:=M15.kc b19
   clear F15 M15 r14 q14
   refine hK17 _ _ (wp_cond_false (G19 30 rfl) (wp_exit ?_))
   simp only [Exit.then,Exit.inBlock,↓reduceIte,Nat.reduceEqDiff]
   refine hK11 _ _ (zR (rm rfl G19 fun _ F20=>zc (w':=w19) rfl rfl F20 rfl (zI ((iv+1:Nat):Int)) (zoa _ _ _ _ rfl (F20 13 rfl) rfl (by omega) (by omega)) fun _ F21=>?_))
   refine rm rfl F21 fun _ F22=>?_
   subst ek5
   exact hK5 _ ⟨(iv+1),(Pv++xt::(Qv++L.drop (iv+1)))⟩ _ _ (by dsimp only;omega) ⟨rfl,⟨by dsimp only;omega,by dsimp only;omega,by dsimp only;rw [srtL_next hx];exact ins_done hins hfin⟩⟩ (F22.sb) (M19.sb)
  ·obtain ⟨jv,rfl⟩:∃ j,jv=j+1:=⟨jv-1,by omega⟩
   obtain ⟨Pq,y,rfl,hPq⟩:=last_of hPl
   obtain ⟨bl,hbl⟩:∃ b,Op.bytesLess xt.toList y.toList=b:=⟨_,rfl⟩
   have hdl:((Pq++[y])++xt::(Qv++L.drop (iv+1))).length=L.length:=by simp only [List.length_append,List.length_cons,List.length_nil,List.length_drop] at hPl ⊢;omega
   have hdx:((Pq++[y])++xt::(Qv++L.drop (iv+1)))[jv+1]? = some xt:=by rw [List.getElem?_append_right (by omega),hPl,Nat.sub_self];rfl
   have hdy:((Pq++[y])++xt::(Qv++L.drop (iv+1)))[jv]? = some y:=by rw [List.append_assoc,List.getElem?_append_right (by omega),hPq,Nat.sub_self];rfl
   refine zSk fun _ hK23=>?_
   refine zSk fun _ hK24=>z4a F15 (SK [.inl (zI ((jv+1:Nat):Int)),.inl (zI 0),.inl (.bool true),.inl (.bool true),.inl (.slice (some ⟨gr,0,none⟩) L.length c0),.inl (zI ((jv+1:Nat):Int)),.inl (zP gr (jv+1)),.inl (.string xt),.inl (.slice (some ⟨gr,0,none⟩) L.length c0),.inl (zI ((jv+1:Nat):Int)),.inl (zI (jv:Int)),.inl (zP gr jv),.inl (.string y),.inl (.bool bl),.inl (.bool bl)]) 15 rfl (by kernel_rfl) ⟨hop0 F15,hop0 F15,?_,hop0 F15,hop0 F15,hop0 F15,?_,?_,hop0 F15,hop0 F15,?_,?_,?_,?_,hop0 F15,trivial⟩ ?_
   ·intro ua uw hb hd
    have e16:ua.eval (.tmp 16)=zI ((jv+1:Nat):Int):=hd 16 (by decide)
    have e17:ua.eval (.tmp 17)=zI 0:=hd 17 (by decide)
    exact z9b (F:=(StK.eq (.bool true)).F) rfl (.bool true) (zbc _ _ _ _ rfl e16 e17 (decide_eq_true (show (0:Int)<((jv+1:Nat):Int) by omega))) rfl
   ·intro ua uw hb hd
    have eg:ua.eval (.tmp 19)=.bool true:=hd 19 (by decide)
    have e20:ua.eval (.tmp 20)=.slice (some ⟨gr,0,none⟩) L.length c0:=hd 20 (by decide)
    have e21:ua.eval (.tmp 21)=zI ((jv+1:Nat):Int):=hd 21 (by decide)
    exact z9b (F:=(StK.eq (zP gr (jv+1))).F) (zd rfl rfl rfl eg) (zP gr (jv+1)) (zcc 45 (s:=1) Tryz.underlying45 (by kernel_rfl) _ _ rfl e20 e21 (i:=(jv+1)) rfl (by omega) (by omega)) rfl
   ·intro ua uw hb hd
    have eg:ua.eval (.tmp 19)=.bool true:=hd 19 (by decide)
    have e22:ua.eval (.tmp 22)=(zP gr (jv+1)):=hd 22 (by decide)
    exact z9b (F:=(StK.eq (.string xt)).F) (zd rfl rfl rfl eg) (.string xt) (zda _ _ rfl e22 ((M15.step hb).blk (k:=0) rfl) (rowA_at hdx) Tryz.underlying9 rfl) rfl
   ·intro ua uw hb hd
    have eg:ua.eval (.tmp 19)=.bool true:=hd 19 (by decide)
    have e25:ua.eval (.tmp 25)=zI ((jv+1:Nat):Int):=hd 25 (by decide)
    exact z9b (F:=(StK.eq (zI (jv:Int))).F) (zd rfl rfl rfl eg) (zI (jv:Int)) (z3c _ _ _ _ rfl e25 rfl (by omega) (by omega)) rfl
   ·intro ua uw hb hd
    have eg:ua.eval (.tmp 19)=.bool true:=hd 19 (by decide)
    have e24:ua.eval (.tmp 24)=.slice (some ⟨gr,0,none⟩) L.length c0:=hd 24 (by decide)
    have e26:ua.eval (.tmp 26)=zI (jv:Int):=hd 26 (by decide)
    exact z9b (F:=(StK.eq (zP gr jv)).F) (zd rfl rfl rfl eg) (zP gr jv) (zcc 45 (s:=1) Tryz.underlying45 (by kernel_rfl) _ _ rfl e24 e26 (i:=jv) rfl (by omega) (by omega)) rfl
   ·intro ua uw hb hd
    have eg:ua.eval (.tmp 19)=.bool true:=hd 19 (by decide)
    have e27:ua.eval (.tmp 27)=(zP gr jv):=hd 27 (by decide)
    exact z9b (F:=(StK.eq (.string y)).F) (zd rfl rfl rfl eg) (.string y) (zda _ _ rfl e27 ((M15.step hb).blk (k:=0) rfl) (rowA_at hdy) Tryz.underlying9 rfl) rfl
   ·intro ua uw hb hd
    have eg:ua.eval (.tmp 19)=.bool true:=hd 19 (by decide)
    have e23:ua.eval (.tmp 23)=.string xt:=hd 23 (by decide)
    have e28:ua.eval (.tmp 28)=.string y:=hd 28 (by decide)
    exact z6b (F:=(StK.eq (.bool bl)).F) (zd rfl rfl rfl eg) hb.size rfl #[.string xt,.string y] (zfa e23 e28) (zE Tryz.func115 rfl) (zad ((hbl▸lessS_any xt y uw)))
   intro p26 a26 w26 b26 G26 y26
   obtain ⟨-,-,-,-,-,-,-,-,-,-,-,-,-,-,q14,-⟩:=y26
   have r14:p26 14=.bool bl:=q14 (by decide)
   simp only [List.take,layV,Nat.zero_add,Nat.reduceAdd,r14] at G26
   have M26:=M15.kc b26
   clear F15 M15 r14 q14
   refine hK24 _ _ ?_
   cases bl
   ·have hfin:(Pq++[y])=[]∨∃ P' y2,(Pq++[y])=P'++[y2]∧Op.bytesLess xt.toList y2.toList=false:=.inr ⟨Pq,y,rfl,hbl⟩
    refine wp_cond_false (G26 30 rfl) (wp_exit ?_)
    simp only [Exit.then,Exit.inBlock,↓reduceIte,Nat.reduceEqDiff]
    refine hK11 _ _ (zR (rm rfl G26 fun _ F27=>zc (w':=w26) rfl rfl F27 rfl (zI ((iv+1:Nat):Int)) (zoa _ _ _ _ rfl (F27 13 rfl) rfl (by omega) (by omega)) fun _ F28=>?_))
    refine rm rfl F28 fun _ F29=>?_
    subst ek5
    exact hK5 _ ⟨(iv+1),((Pq++[y])++xt::(Qv++L.drop (iv+1)))⟩ _ _ (by dsimp only;omega) ⟨rfl,⟨by dsimp only;omega,by dsimp only;omega,by dsimp only;rw [srtL_next hx];exact ins_done hins hfin⟩⟩ (F29.sb) (M26.sb)
   ·refine wp_cond_true (G26 30 rfl) (wp_skip (hK23 _ _ (zSk fun _ hK30=>wp_block ?_)))
    refine zva G26 [fun vE=>vE=.slice (some ⟨gr,0,none⟩) L.length c0,fun vE=>vE=zI ((jv+1:Nat):Int),fun vE=>vE=.slice (some ⟨gr,0,none⟩) L.length c0,fun vE=>vE=zI ((jv+1:Nat):Int),fun vE=>vE=zI (jv:Int),fun vE=>vE=.slice (some ⟨gr,0,none⟩) L.length c0,fun vE=>vE=zI ((jv+1:Nat):Int),fun vE=>vE=zI (jv:Int),fun vE=>vE=(zP gr jv),fun vE=>vE=.string y,fun vE=>vE=.slice (some ⟨gr,0,none⟩) L.length c0,fun vE=>vE=zI ((jv+1:Nat):Int),fun vE=>vE=(zP gr (jv+1)),fun vE=>vE=.string xt,fun vE=>vE=(zP gr (jv+1)),fun vE=>vE=undef] (JM (some gr) w fun SV pV=>[(0,zha (SV 15) (blkR gr 9 (rowA (((Pq++[y])++xt::(Qv++L.drop (iv+1))).set (jv+1) y) E)) (blkR gr 9 (rowA ((Pq++[y])++xt::(Qv++L.drop (iv+1))) E)))]) 16 rfl (by kernel_rfl) rfl ⟨trivial,trivial,trivial,trivial,trivial,trivial,trivial,trivial,trivial,trivial,trivial,trivial,trivial,trivial,trivial,fun _=>Iff.rfl,trivial⟩ (fun p=>(M26.step (zsa _)).sub ⟨rfl,trivial⟩) ⟨?_,?_,?_,?_,?_,?_,?_,?_,?_,?_,?_,?_,?_,?_,?_,?_,trivial⟩ ?_
    ·intro ua uw SV pV (M:Mx (some gr) w uw _) hk hn hd
     have e0:ua.eval (.tmp 0)=.slice (some ⟨gr,0,none⟩) L.length c0:=(show ua.eval (.tmp 0)=_ from hd 0 (by decide)).trans (G26 0 rfl)
     exact ze rfl (.slice (some ⟨gr,0,none⟩) L.length c0) (zla _ (.inl rfl) e0) rfl (M.sb)
    ·intro ua uw SV pV (M:Mx (some gr) w uw _) hk hn hd
     have e7:ua.eval (.tmp 7)=zI ((jv+1:Nat):Int):=(show ua.eval (.tmp 7)=_ from hd 7 (by decide)).trans (G26 7 rfl)
     exact ze rfl (zI ((jv+1:Nat):Int)) (zla _ (.inl rfl) e7) rfl (M.sb)
    ·intro ua uw SV pV (M:Mx (some gr) w uw _) hk hn hd
     have e0:ua.eval (.tmp 0)=.slice (some ⟨gr,0,none⟩) L.length c0:=(show ua.eval (.tmp 0)=_ from hd 0 (by decide)).trans (G26 0 rfl)
     exact ze rfl (.slice (some ⟨gr,0,none⟩) L.length c0) (zla _ (.inl rfl) e0) rfl (M.sb)
    ·intro ua uw SV pV (M:Mx (some gr) w uw _) hk hn hd
     have e7:ua.eval (.tmp 7)=zI ((jv+1:Nat):Int):=(show ua.eval (.tmp 7)=_ from hd 7 (by decide)).trans (G26 7 rfl)
     exact ze rfl (zI ((jv+1:Nat):Int)) (zla _ (.inl rfl) e7) rfl (M.sb)
    ·intro ua uw SV pV (M:Mx (some gr) w uw _) hk hn hd
     have e36:ua.eval (.tmp 36)=zI ((jv+1:Nat):Int):=zQ1 (hd 36 (by decide))
     exact ze rfl (zI (jv:Int)) (z3c _ _ _ _ rfl e36 rfl (by omega) (by omega)) rfl (M.sb)
    ·intro ua uw SV pV (M:Mx (some gr) w uw _) hk hn hd
     have e0:ua.eval (.tmp 0)=.slice (some ⟨gr,0,none⟩) L.length c0:=(show ua.eval (.tmp 0)=_ from hd 0 (by decide)).trans (G26 0 rfl)
     exact ze rfl (.slice (some ⟨gr,0,none⟩) L.length c0) (zla _ (.inl rfl) e0) rfl (M.sb)
    ·intro ua uw SV pV (M:Mx (some gr) w uw _) hk hn hd
     have e7:ua.eval (.tmp 7)=zI ((jv+1:Nat):Int):=(show ua.eval (.tmp 7)=_ from hd 7 (by decide)).trans (G26 7 rfl)
     exact ze rfl (zI ((jv+1:Nat):Int)) (zla _ (.inl rfl) e7) rfl (M.sb)
    ·intro ua uw SV pV (M:Mx (some gr) w uw _) hk hn hd
     have e39:ua.eval (.tmp 39)=zI ((jv+1:Nat):Int):=zQ1 (hd 39 (by decide))
     exact ze rfl (zI (jv:Int)) (z3c _ _ _ _ rfl e39 rfl (by omega) (by omega)) rfl (M.sb)
    ·intro ua uw SV pV (M:Mx (some gr) w uw _) hk hn hd
     have e38:ua.eval (.tmp 38)=.slice (some ⟨gr,0,none⟩) L.length c0:=zQ1 (hd 38 (by decide))
     have e40:ua.eval (.tmp 40)=zI (jv:Int):=zQ1 (hd 40 (by decide))
     exact ze rfl (zP gr jv) (zcc 45 (s:=1) Tryz.underlying45 (by kernel_rfl) _ _ rfl e38 e40 (i:=jv) rfl (by omega) (by omega)) rfl (M.sb)
    ·intro ua uw SV pV (M:Mx (some gr) w uw _) hk hn hd
     have e41:ua.eval (.tmp 41)=(zP gr jv):=zQ1 (hd 41 (by decide))
     exact ze rfl (.string y) (zda _ _ rfl e41 (M.blk (k:=0) (zea (hn 15 (by kernel_rfl)) rfl)) (rowA_at hdy) Tryz.underlying9 rfl) rfl (M.sb)
    ·intro ua uw SV pV (M:Mx (some gr) w uw _) hk hn hd
     have e0:ua.eval (.tmp 0)=.slice (some ⟨gr,0,none⟩) L.length c0:=(show ua.eval (.tmp 0)=_ from hd 0 (by decide)).trans (G26 0 rfl)
     exact ze rfl (.slice (some ⟨gr,0,none⟩) L.length c0) (zla _ (.inl rfl) e0) rfl (M.sb)
    ·intro ua uw SV pV (M:Mx (some gr) w uw _) hk hn hd
     have e7:ua.eval (.tmp 7)=zI ((jv+1:Nat):Int):=(show ua.eval (.tmp 7)=_ from hd 7 (by decide)).trans (G26 7 rfl)
     exact ze rfl (zI ((jv+1:Nat):Int)) (zla _ (.inl rfl) e7) rfl (M.sb)
    ·intro ua uw SV pV (M:Mx (some gr) w uw _) hk hn hd
     have e43:ua.eval (.tmp 43)=.slice (some ⟨gr,0,none⟩) L.length c0:=zQ1 (hd 43 (by decide))
     have e44:ua.eval (.tmp 44)=zI ((jv+1:Nat):Int):=zQ1 (hd 44 (by decide))
     exact ze rfl (zP gr (jv+1)) (zcc 45 (s:=1) Tryz.underlying45 (by kernel_rfl) _ _ rfl e43 e44 (i:=(jv+1)) rfl (by omega) (by omega)) rfl (M.sb)
    ·intro ua uw SV pV (M:Mx (some gr) w uw _) hk hn hd
     have e45:ua.eval (.tmp 45)=(zP gr (jv+1)):=zQ1 (hd 45 (by decide))
     exact ze rfl (.string xt) (zda _ _ rfl e45 (M.blk (k:=0) (zea (hn 15 (by kernel_rfl)) rfl)) (rowA_at hdx) Tryz.underlying9 rfl) rfl (M.sb)
    ·intro ua uw SV pV (M:Mx (some gr) w uw _) hk hn hd
     have e33:ua.eval (.tmp 33)=.slice (some ⟨gr,0,none⟩) L.length c0:=zQ1 (hd 33 (by decide))
     have e34:ua.eval (.tmp 34)=zI ((jv+1:Nat):Int):=zQ1 (hd 34 (by decide))
     exact ze rfl (zP gr (jv+1)) (zcc 45 (s:=1) Tryz.underlying45 (by kernel_rfl) _ _ rfl e33 e34 (i:=(jv+1)) rfl (by omega) (by omega)) rfl (M.sb)
    ·intro ua uw SV pV (M:Mx (some gr) w uw _) hk hn hd
     have e47:ua.eval (.tmp 47)=(zP gr (jv+1)):=zQ1 (hd 47 (by decide))
     have e42:ua.eval (.tmp 42)=.string y:=zQ1 (hd 42 (by decide))
     exact hopM_doM rfl rfl (run_st M (k:=0) (zea hk rfl) _ _ _ rfl e47 e42 (#[.string y]) (rowA (((Pq++[y])++xt::(Qv++L.drop (iv+1))).set (jv+1) y) E) rfl (show jv+1+1≤(rowA ((Pq++[y])++xt::(Qv++L.drop (iv+1))) E).size by rw [rowA_size,hdl];omega) (one_str _) (rowA_put (show jv+1<((Pq++[y])++xt::(Qv++L.drop (iv+1))).length by rw [hdl];omega) y) (by kernel_rfl)) (fun w2 h2=>h2.sub ⟨rfl,trivial⟩) rfl
    intro p31 a31 w31 M31 G31 y31
    obtain ⟨-,-,q2,-,q4,-,-,-,-,-,-,-,-,q13,-,-,-⟩:=y31
    have r2:p31 2=.slice (some ⟨gr,0,none⟩) L.length c0:=q2
    have r4:p31 4=zI (jv:Int):=q4
    have r13:p31 13=.string xt:=q13
    replace M31:Mx _ _ w31 [(0,zha true (blkR gr 9 (rowA (((Pq++[y])++xt::(Qv++L.drop (iv+1))).set (jv+1) y) E)) (blkR gr 9 (rowA ((Pq++[y])++xt::(Qv++L.drop (iv+1))) E)))]:=M31
    simp only [List.take,layV,Nat.zero_add,Nat.reduceAdd,r2,r4,r13] at G31
    refine zc (w':=w31) rfl rfl G31 rfl (zP gr jv) (zcc 45 (s:=1) Tryz.underlying45 (by kernel_rfl) _ _ rfl (G31 35 rfl) (G31 37 rfl) (i:=jv) rfl (by omega) (by omega)) fun _ F32=>?_
    clear G31
    refine zt rfl rfl F32 M31 (k:=0) rfl _ _ _ rfl (F32 48 rfl) (F32 46 rfl) (#[.string xt]) (rowA ((((Pq++[y])++xt::(Qv++L.drop (iv+1))).set (jv+1) y).set jv xt) E) rfl (show jv+1≤(rowA (((Pq++[y])++xt::(Qv++L.drop (iv+1))).set (jv+1) y) E).size by rw [rowA_size,List.length_set,hdl];omega) (one_str _) (rowA_put (show jv<(((Pq++[y])++xt::(Qv++L.drop (iv+1))).set (jv+1) y).length by rw [List.length_set,hdl];omega) xt) (by kernel_rfl) ?_
    intro w33 M33
    refine hK30 _ _ (zR (rm rfl F32 fun _ F34=>zc (w':=w33) rfl rfl F34 rfl (zI (jv:Int)) (z3c _ _ _ _ rfl (F34 31 rfl) rfl (by omega) (by omega)) fun _ F35=>?_))
    refine rm rfl F35 fun _ F36=>?_
    subst ek15
    exact hK15 _ ⟨jv,Pq,(y::Qv)⟩ _ _ (by dsimp only;omega) ⟨rfl,⟨hPq,by dsimp only;simp only [List.length_cons];omega,ins_next hins hbl⟩⟩ (F36.sb) (M33.sub ⟨(by rw [swap_eq hPq];rfl),trivial⟩)
 ·refine zSk fun _ hK37=>zT fun _ hK38=>rm rfl F5 fun _ F39=>rm rfl F39 fun _ F40=>zc (w':=w5) rfl rfl F40 rfl (.bool false) (zka _ _ _ _ rfl (F40 10 rfl) (F40 11 rfl) (decide_eq_false (show ¬(iv:Int)<(L.length:Int) by omega))) fun _ F41=>?_
  refine hK38 _ _ (wp_cond_false (F41 12 rfl) (wp_exit ?_))
  simp only [Exit.then,Exit.inBlock,↓reduceIte,Nat.reduceEqDiff]
  exact bodyPost_end (res0 rfl) F41.defers ⟨_,rfl,(by have q:=M5.blk (k:=0) rfl;rw [hD,srt_all hi1 (by omega)] at q;exact q),M5.grown⟩
theorem pdq_nil (A0:Option Addr) (c0:Nat) (zl:Int) (w:World):
  Calls Tryz.prog 86 #[.slice A0 0 c0,zI 0,zI 0,zI zl] w fun e w'=>∃ t,e=.returned t∧Below w.heap.size w w':=by
 refine zk (args:=[.slice A0 0 c0,zI 0,zI 0,zI zl]) 134 Tryz.func86 rfl rfl rfl ?_
 intro fa F
 have M:=Mx.start w
 refine zT fun _ hK1=>rm rfl F fun _ F2=>hK1 _ _ (zT fun _ hK3=>rm rfl F2 fun _ F4=>hK3 _ _ (wp_block (zeb (α:=Nat) (n:=134) (G:=none) (w0:=w) (fun x=>[(0,.slice A0 0 c0),(1,zI 0),(2,zI 0),(3,zI zl)]) (fun x=>[]) (fun k x=>k=0∧(True)) _ 0 ⟨rfl,trivial⟩ (F4.sb) (M.sub trivial) ?_)))
 rintro k5 u a5 w5 K5 ⟨ek5,I5⟩ F5 M5 hK5
 replace F5:Fx 134 a5 [(0,.slice A0 0 c0),(1,zI 0),(2,zI 0),(3,zI zl)]:=F5
 replace M5:Mx _ _ w5 []:=M5
 replace I5:True:=I5
 replace ek5:k5=0:=ek5
 refine wp_block (zT fun _ hK6=>rm rfl F5 fun _ F7=>rm rfl F7 fun _ F8=>zc (w':=w5) rfl rfl F8 rfl (zI 0) (z3c _ _ _ _ rfl (F8 19 rfl) (F8 20 rfl) rfl (by omega)) fun _ F9=>?_)
 refine rm rfl F9 fun _ F10=>hK6 _ _ (zSk fun _ hK11=>zT fun _ hK12=>zAx 2 [(22,zI 0),(23,.bool true)] [] dnil [] F10 fun _ F13=>?_)
 refine hK12 _ _ (wp_cond_true (F13 23 rfl) (zT fun _ hK14=>rm rfl F13 fun _ F15=>rm rfl F15 fun _ F16=>rm rfl F16 fun _ F17=>zh rfl rfl F17 rfl rfl (zE Tryz.func109 rfl) #[.slice A0 0 c0,zI 0,zI 0] (args3 (F17 24 rfl) (F17 25 rfl) (F17 26 rfl)) (insert_nil A0 c0 w5) ?_))
 rintro _ w18 a18 b18 F18
 have M18:=M5.step b18
 refine hK14 _ _ (wp_ret ?_)
 try simp only [Exit.then,Exit.inBlock,Exit.jump]
 exact bodyPost_ret (res0 rfl) F18.defers ⟨_,rfl,M18.below⟩
theorem sort_nil (A0:Option Addr) (c0:Nat) (w:World):
  Calls Tryz.prog 57 #[.slice A0 0 c0] w fun e w'=>∃ t,e=.returned t∧Below w.heap.size w w':=by
 refine zk (args:=[.slice A0 0 c0]) 11 Tryz.func57 rfl rfl rfl ?_
 intro fa F
 have M:=Mx.start w
 refine zT fun _ hK1=>rm rfl F fun _ F2=>zc (w':=w) rfl rfl F2 rfl (zI 0) (y_lnG 45 Tryz.underlying45 _ rfl (F2 3 rfl) rfl) fun _ F3=>?_
 refine rm rfl F3 fun _ F4=>hK1 _ _ (zR (rm rfl F4 fun _ F5=>rm rfl F5 fun _ F6=>rm rfl F6 fun _ F7=>zc (w':=w) rfl rfl F7 rfl (.int .u64 0) (y_cvI _ _ _ rfl (F7 7 rfl) Tryz.underlying3 Tryz.underlying108 rfl) fun _ F8=>?_))
 refine zh rfl rfl F8 rfl rfl (zE Tryz.func87 rfl) #[.int .u64 0] (zaa (F8 8 rfl)) (len_ex 0 (by omega) w) ?_
 rintro _ w9 a9 ⟨z9,rfl,b9⟩ F9
 have M9:=M.step b9
 refine zh rfl rfl F9 rfl rfl (zE Tryz.func86 rfl) #[.slice A0 0 c0,zI 0,zI 0,zI z9] (args4 (F9 5 rfl) rfl (F9 6 rfl) (F9 9 rfl)) (pdq_nil A0 c0 z9 w9) ?_
 rintro _ w10 a10 b10 F10
 have M10:=M9.step b10
 exact bodyPost_end (res0 rfl) F10.defers ⟨_,rfl,M10.below⟩
theorem pdq_some (L:List ByteArray) (E:List Value) (gr c0:Nat) (hL:L.length≤12) (zl:Int) (w:World) (hg:w.heap[gr]? = some (.cells (rowA L E) 9 (0,0))):
  Calls Tryz.prog 86 #[.slice (some ⟨gr,0,none⟩) L.length c0,zI 0,zI (L.length:Int),zI zl] w fun e w'=>∃ t,e=.returned t∧w'.heap[gr]? = some (.cells (rowA (srtL L) E) 9 (0,0))∧w.grownBy w' (some gr):=by
 refine zk (args:=[.slice (some ⟨gr,0,none⟩) L.length c0,zI 0,zI (L.length:Int),zI zl]) 134 Tryz.func86 rfl rfl rfl ?_
 intro fa F
 have M:=Mx.theG hg 0
 refine zT fun _ hK1=>rm rfl F fun _ F2=>hK1 _ _ (zT fun _ hK3=>rm rfl F2 fun _ F4=>hK3 _ _ (wp_block (zeb (α:=Nat) (n:=134) (G:=(some gr)) (w0:=w) (fun x=>[(0,.slice (some ⟨gr,0,none⟩) L.length c0),(1,zI 0),(2,zI (L.length:Int)),(3,zI zl)]) (fun x=>[(0,blkR gr 9 (rowA L E))]) (fun k x=>k=0∧(True)) _ 0 ⟨rfl,trivial⟩ (F4.sb) (M.sb) ?_)))
 rintro k5 u a5 w5 K5 ⟨ek5,I5⟩ F5 M5 hK5
 replace F5:Fx 134 a5 [(0,.slice (some ⟨gr,0,none⟩) L.length c0),(1,zI 0),(2,zI (L.length:Int)),(3,zI zl)]:=F5
 replace M5:Mx _ _ w5 [(0,blkR gr 9 (rowA L E))]:=M5
 replace I5:True:=I5
 replace ek5:k5=0:=ek5
 refine wp_block (zT fun _ hK6=>rm rfl F5 fun _ F7=>rm rfl F7 fun _ F8=>zc (w':=w5) rfl rfl F8 rfl (zI (L.length:Int)) (z3c _ _ _ _ rfl (F8 19 rfl) (F8 20 rfl) (by omega) (by omega)) fun _ F9=>?_)
 refine rm rfl F9 fun _ F10=>hK6 _ _ (zSk fun _ hK11=>zT fun _ hK12=>rm rfl F10 fun _ F13=>zc (w':=w5) rfl rfl F13 rfl (.bool true) (y_leq _ _ _ _ rfl (F13 22 rfl) rfl (decide_eq_true (show (L.length:Int)≤12 by omega))) fun _ F14=>?_)
 refine hK12 _ _ (wp_cond_true (F14 23 rfl) (zT fun _ hK15=>rm rfl F14 fun _ F16=>rm rfl F16 fun _ F17=>rm rfl F17 fun _ F18=>zh rfl rfl F18 rfl rfl (zE Tryz.func109 rfl) #[.slice (some ⟨gr,0,none⟩) L.length c0,zI 0,zI (L.length:Int)] (args3 (F18 24 rfl) (F18 25 rfl) (F18 26 rfl)) (insert_some L E gr c0 (by omega) w5 (M5.blk (k:=0) rfl)) ?_))
 rintro _ w19 a19 ⟨hc19,hg19⟩ F19
 have M19:=M5.put (k:=0) rfl hg19 hc19
 clear M5 hg19 hc19
 refine hK15 _ _ (wp_ret ?_)
 try simp only [Exit.then,Exit.inBlock,Exit.jump]
 exact bodyPost_ret (res0 rfl) F19.defers ⟨_,rfl,M19.blk (k:=0) rfl,M19.grown⟩
theorem sort_some (L:List ByteArray) (E:List Value) (gr c0:Nat) (hL:L.length≤12) (w:World) (hg:w.heap[gr]? = some (.cells (rowA L E) 9 (0,0))):
  Calls Tryz.prog 57 #[.slice (some ⟨gr,0,none⟩) L.length c0] w fun e w'=>∃ t,e=.returned t∧w'.heap[gr]? = some (.cells (rowA (srtL L) E) 9 (0,0))∧w.grownBy w' (some gr):=by
 refine zk (args:=[.slice (some ⟨gr,0,none⟩) L.length c0]) 11 Tryz.func57 rfl rfl rfl ?_
 intro fa F
 have M:=Mx.theG hg 0
 refine zT fun _ hK1=>rm rfl F fun _ F2=>zc (w':=w) rfl rfl F2 rfl (zI (L.length:Int)) (y_lnG 45 Tryz.underlying45 _ rfl (F2 3 rfl) rfl) fun _ F3=>?_
 refine rm rfl F3 fun _ F4=>hK1 _ _ (zR (rm rfl F4 fun _ F5=>rm rfl F5 fun _ F6=>rm rfl F6 fun _ F7=>zc (w':=w) rfl rfl F7 rfl (.int .u64 (L.length:Int)) (y_cvI _ _ _ rfl (F7 7 rfl) Tryz.underlying3 Tryz.underlying108 (by rw [IntKind.wrap_u64];omega)) fun _ F8=>?_))
 refine zh rfl rfl F8 rfl rfl (zE Tryz.func87 rfl) #[.int .u64 (L.length:Int)] (zaa (F8 8 rfl)) (len_ex L.length (by omega) w) ?_
 rintro _ w9 a9 ⟨z9,rfl,b9⟩ F9
 have M9:=M.step b9
 refine zh rfl rfl F9 rfl rfl (zE Tryz.func86 rfl) #[.slice (some ⟨gr,0,none⟩) L.length c0,zI 0,zI (L.length:Int),zI z9] (args4 (F9 5 rfl) rfl (F9 6 rfl) (F9 9 rfl)) (pdq_some L E gr c0 hL z9 w9 (M9.blk (k:=0) rfl)) ?_
 rintro _ w10 a10 ⟨hc10,hg10⟩ F10
 have M10:=M9.put (k:=0) rfl hg10 hc10
 clear M9 hg10 hc10
 exact bodyPost_end (res0 rfl) F10.defers ⟨_,rfl,M10.blk (k:=0) rfl,M10.grown⟩
section
open Go.Shelf
def rowR (e:TypeId) (sz n:Nat) (xs:List Value) (v:Value):Res:=⟨true,ofp v,fun w=>w.ownsRow 0 e sz v n xs⟩
theorem row_dep {e:TypeId} {sz n:Nat} {xs:List Value} {v:Value}:∀ u u',Same (rowR e sz n xs v).fp u u'→(rowR e sz n xs v).F u→(rowR e sz n xs v).F u':=fun u u' hs h=>by
 refine ⟨h.1,?_⟩
 rcases h.2 with hn | ⟨g,c,cur,e,hbg,hg,rest⟩
 ·exact .inl hn
 ·exact .inr ⟨g,c,cur,e,hbg,hs.at_ g _ (by show ofp v g;rw [ofp,e];rfl) hg,rest⟩
section
variable {G:Option Nat} {w0 w w':World} {R:List (Nat×Res)} {e:TypeId} {sz n:Nat} {xs:List Value} {v:Value} {i k:Nat} {a:Act} {o:Oper}
theorem Mx.nilRow (M:Mx G w0 w R) (i:Nat) (e:TypeId) (sz:Nat):Mx G w0 w ((i,rowR e sz 0 [] (zN))::R):=
 M.cons i _ (World.ownsRow_nil w 0 e sz) row_dep (fun g hg=>by cases hg) (fun _ g hg=>by cases hg) (fun _ _ _ _ _ g hg=>by cases hg)
theorem Mx.rowF (M:Mx G w0 w R) (h:look R k=some (rowR e sz n xs v)):w.ownsRow 0 e sz v n xs:=M.at_ k _ h
theorem row_slice (h:w.ownsRow 0 e sz v n xs):∃ A c,v=.slice A n c∧n≤c∧c≤maxLen∧(0<n→∃ g cur,A=some ⟨g,0,none⟩∧w.heap[g]? = some (.cells cur e (0,0))∧cur.toList.take (n*sz)=xs):=by
 rcases h.2 with ⟨rfl,rfl⟩ | ⟨g,c,cur,rfl,hb,hg,h1,h2,h3,h4⟩
 ·exact ⟨none,0,rfl,Nat.le_refl _,Nat.zero_le _,fun h=>absurd h (Nat.lt_irrefl 0)⟩
 ·exact ⟨_,c,rfl,h1,h2,fun _=>⟨g,cur,rfl,hg,h4⟩⟩
theorem run_appR (M:Mx G w0 w R) {kb g:Nat} {c:Array Value} {t T:TypeId} {by_ cc:Nat} (hk:look R k=some (rowR e sz n xs v)) (hb:look R kb=some (blkR g t c)) (hc:c.size=sz) (h1:c.all (·.oneCell')=true) (hsz:0<sz) (hT:Tryz.prog.underlying T=some (.slice e))
  (hinf:(Tryz.prog.info? e).map (fun i=>(i.size,i.bytes,i.zero.map (·.cells.size)))=some (sz,by_,some sz)) (hn:(n+1)*by_≤140737488355328) (hm:n+1≤maxLen) (s x:Operand)
  (ho:o.op=.call { callee:=.builtin .append,args:=#[s,x],argTypes:=#[T,T] }) (hs:a.eval s=v) (hx:a.eval x=.slice (some ⟨g,0,none⟩) 1 cc):
  ∃ v' w',(execOp a.eval o).run Tryz.prog w=.ok (.value v') w'∧Mx G w0 w' ((k,rowR e sz (n+1) (xs++c.toList) v')::R):=by
 have hown:w.ownsRow 0 e sz v n xs:=M.at_ k _ hk
 obtain ⟨i,hi⟩:∃ i,Tryz.prog.info? e=some i:=by
  cases hq:Tryz.prog.info? e with
  | none=>rw [hq] at hinf;cases hinf
  | some i=>exact ⟨i,rfl⟩
 rw [hi] at hinf
 have hinf:(i.size,i.bytes,i.zero.map (·.cells.size))=(sz,by_,some sz):=Option.some.inj hinf
 obtain ⟨z,hz,hzs⟩:∃ z,i.zero=some z∧z.cells.size=sz:=by
  cases hq:i.zero with
  | none=>rw [hq] at hinf;cases hinf
  | some z=>rw [hq] at hinf;exact ⟨z,rfl,by injection hinf with _ h;injection h with _ h;exact Option.some.inj h⟩
 have hsize:i.size=sz:=by injection hinf
 have hbytes:i.bytes=by_:=by injection hinf with _ h;injection h
 obtain ⟨g',cap,w',q1,q2,q3,q4,q5⟩:=run_append_lies (P:=Tryz.prog) w T o.type 0 e i z sz by_ hT hi hz hsize hbytes hzs hsz v n xs hown ⟨g,0,none⟩ 1 cc c.toList (by rw [Array.length_toList,hc,Nat.one_mul]) (World.news_of_block (M.blk hb)) (fun u hu=>by
  have:=Array.all_eq_true_iff_forall_mem.1 h1 u (Array.mem_toList_iff.1 hu)
  exact this) (by decide) hm hn (Nat.zero_le _) _ rfl
 refine ⟨_,w',?_,M.write hk rfl q3 (fun _ e=>e) _ q2 row_dep fun b hb=>?_⟩
 ·unfold execOp
  simp only [ho,resolve,invoke,builtin,Sem.run_bind,Sem.run_pure,Result.andThen_ok,List.map_toArray,List.map_cons,List.map_nil,hs,hx,q1]
 ·obtain rfl:g'=b:=by simpa [rowR,ofp,Value.ownBlock] using hb
  exact ⟨q5,q4.imp id fun e=>by rw [e];exact Nat.le_refl _⟩
def ixG (v:Value) (j:Nat):Value:=match v with
 | .slice (some ad) _ _=>.pointer (some (ad.add j))
 | _=>undef
theorem y_ixR (M:Mx G w0 w R) (hk:look R k=some (rowR e sz n xs v)) (T:TypeId) (hu:Tryz.prog.underlying T=some (.slice (Tryz.prog.elem T))) (hs:(Tryz.prog.info? (Tryz.prog.elem T)).map (·.size)=some sz) (x y:Operand) (ho:o.op=.indexAddr T x y) (hx:a.eval x=v) {z:Int} {j:Nat} (hy:a.eval y=zI z) (hz:z=(j:Int)) (hj:j<n):
  (execOp a.eval o).run Tryz.prog w=.ok (.value (ixG v (j*sz))) w:=by
 obtain ⟨A,c,rfl,h1,h2,h3⟩:=row_slice (M.rowF hk)
 obtain ⟨g,cur,rfl,-,-⟩:=h3 (by omega)
 have:=zcc (a:=a) (w:=w) T hu hs x y ho hx hy hz hj (q:=0) rfl
 rw [this]
 simp [ixG,zna]
end
end
noncomputable def namL (V:VltN):Nat→List ByteArray
 | 0=>[]
 | k+1=>if zfc V (2*k)=true then namL V k++[(z0a V (2*k)).s] else namL V k
theorem namL_no {V:VltN} {k:Nat} (h:zfc V (2*k)=false):namL V (k+1)=namL V k:=if_neg (by rw [h];exact Bool.false_ne_true)
theorem namL_yes {V:VltN} {k:Nat} (h:zfc V (2*k)=true) {r:RecN} (hr:z0a V (2*k)=r):namL V (k+1)=namL V k++[r.s]:=by rw [namL,if_pos h,hr]
theorem namL_len (V:VltN):∀ k,(namL V k).length≤k
 | 0=>Nat.le_refl _
 | k+1=>by
  unfold namL
  have:=namL_len V k
  split
  ·rw [List.length_append];simp;omega
  ·omega
def strV (L:List ByteArray):List Value:=L.map Value.string
def TxtAt (w:World) (B:Nat) (L:List ByteArray) (v:Value):Prop:=∃ A c,v=.slice A L.length c∧(0<L.length→∃ gr E,A=some ⟨gr,0,none⟩∧B≤gr∧w.heap[gr]? = some (.cells (rowA L E) 9 (0,0)))
theorem cells_row {w:World} {e:TypeId} {sz n:Nat} {xs:List Value} {v:Value} (h:(rowR e sz n xs v).F w):zuc w (rowR e sz n xs v):=fun g hg=>by
 have h:w.ownsRow 0 e sz v n xs:=h
 have hg':v.ownBlock=some g:=hg
 rcases h.2 with ⟨rfl,_⟩ | ⟨b,c,cur,rfl,_,h1,_⟩
 ·cases hg'
 ·cases hg';exact ⟨_,h1,rfl⟩
theorem Mx.rowBlk {G:Option Nat} {w0 w:World} {R:List (Nat×Res)} (M:Mx G w0 w R) {k n:Nat} {L:List ByteArray} {v:Value} (hk:look R k=some (rowR 9 1 n (strV L) v)) (hn:0<L.length) (hl:n=L.length):∃ gr c E,v=.slice (some ⟨gr,0,none⟩) L.length c∧Mx G w0 w ((k,blkR gr 9 (rowA L E))::R):=by
 subst hl
 have h:=M.rowF hk
 rcases h.2 with ⟨_,h0⟩ | ⟨g,c,cur,e,_,hg,h1,h2,h3,h4⟩
 ·omega
 ·refine ⟨g,c,cur.toList.drop L.length,e,?_⟩
  have hc:cur=rowA L (cur.toList.drop L.length):=by
   unfold rowA
   rw [show L.map Value.string=cur.toList.take (L.length*1) from h4.symm,Nat.mul_one,List.take_append_drop]
  rw [←hc]
  have hf:∀ b,b=g→ofp v b:=fun b hb=>by subst hb;rw [e];rfl
  exact M.cons k _ hg z9c (fun b hb=>by cases hb;exact z2a hg) (fun _ b hb=>M.own k _ hk rfl b (hf b hb)) fun j s e2 hj hw b hb=>M.dis k j _ s hk e2 hj rfl b (hf b hb)
theorem names_any (g:Nat) (V:VltN) (s n:Nat→Value) (hv:z1a V) (w:World) (h:HasV w g V s n):
  Calls Tryz.prog 25 #[(zO g)] w fun e w'=>∃ v,e=.returned v∧TxtAt w' w.heap.size (srtL (namL V 8)) v∧Below w.heap.size w w':=by
 refine calls_fxM (args:=[(zO g)]) 18 Tryz.func25 rfl rfl rfl ?_
 intro fa F
 have M:=Mx.start w
 refine zT fun _ hK1=>rm rfl F fun _ F2=>hK1 _ _ (zT fun _ hK3=>zq rfl rfl F2 rfl M 0 (t:=45) (c:=#[zN]) (by unfold execOp;kernel_rfl) ?_)
 intro g4 a4 w4 F4 M4
 refine hK3 _ _ (zSk fun _ hK5=>zT fun _ hK6=>rm rfl F4 fun _ F7=>zh rfl rfl F7 rfl rfl (zE Tryz.func56 rfl) #[(zO g)] (zaa (F7 6 rfl)) (accounts_ex g w4) ?_)
 rintro _ w8 a8 ⟨g8,rfl,hg8,hc8,b8⟩ F8
 have M8:=M4.newb b8 1 hg8 hc8
 clear M4 hg8 hc8 b8
 refine hK6 _ _ (wp_block ?_)
 have M9:=M8.nilRow 2 9 1
 refine range_fx4 F8 (gf:=84) (lb:=#[(zO g8)]) (F8 7 rfl) (zE Tryz.func84 rfl) rfl rfl (α:=Nat×RecV×Res) (fun x=>.agg #[zI ((2*x.1:Nat):Int),.func (.func 105) #[] #[]]) (fun x=>.agg (recA (z0a V (2*x.1)) x.2.1))
  (fun x W=>(x.1<8∧zfc V (2*x.1)=true)∧(∀ W,Res.F x.2.2 W→zuc W x.2.2)∧∃ (ev:Value),(True)∧Mx none w W [(3,zvb w.heap.size (z0a V (2*x.1)) (.agg (recA (z0a V (2*x.1)) x.2.1))),(4,x.2.2),(2,rowR 9 1 (namL V x.1).length (strV (namL V x.1)) ev),(0,blkR g4 45 (#[ev])),(1,blkR g8 25 (#[(zO g)]))]) (fun x W=>((∀ W,Res.F x.2.2 W→zuc W x.2.2)∧∃ (ev:Value),(True)∧Mx none w W [(4,x.2.2),(2,rowR 9 1 (namL V (x.1+1)).length (strV (namL V (x.1+1))) ev),(0,blkR g4 45 (#[ev])),(1,blkR g8 25 (#[(zO g)]))])) (fun c W=>c=.ret∧∃ k,(k<8∧(False))∧Mx none w W []) (fun W=>∃ X,((∀ W,Res.F X W→zuc W X)∧∃ (ev:Value),(True)∧Mx none w W [(4,X),(2,rowR 9 1 (namL V 8).length (strV (namL V 8)) ev),(0,blkR g4 45 (#[ev])),(1,blkR g8 25 (#[(zO g)]))])) ?_ ?_ ?_ ?_
 ·intro l D o1 o2 W1 hD hL bW hrec hY
  have M1:=M9.step bW
  have hlW:=heap_ltO hrec.1
  have hle1:=M1.le
  refine accounts1_any g g8 V s n hv (fun X k W=>((∀ W,Res.F X W→zuc W X)∧∃ (ev:Value),(True)∧Mx none w W [(4,X),(2,rowR 9 1 (namL V k).length (strV (namL V k)) ev),(0,blkR g4 45 (#[ev])),(1,blkR g8 25 (#[(zO g)]))])) _ l D o1 o2 W1 ?_ ?_ ?_ ?_ ?_ ?_ ?_ ?_ ?_ hrec
  ·rintro X k W ⟨hXc,ev,hi,M⟩
   exact ⟨h.step M.below,M.blk (k:=1) rfl⟩
  ·rintro X k W ⟨hXc,ev,hi,M⟩
   exact M.at_ 4 _ rfl
  ·rintro X k W W' ⟨hXc,ev,hi,M⟩ hb hx hd hf hXc2
   exact ⟨hXc2,_,hi,(M.fresh hb 4 X hx hd hf).sub ⟨rfl,rfl,rfl,rfl,trivial⟩⟩
  ·rintro X k W W' ⟨hXc,ev,hi,M⟩ hb
   exact ⟨hXc,_,hi,M.step hb⟩
  ·rintro X k W l' o hl hnc ⟨hXc,ev,hi,M⟩
   exact ⟨hXc,_,hi,M.putObj ⟨hXc _ (M.at_ 4 _ rfl),cells_row (M.at_ 2 _ rfl),zg (M.at_ 0 _ rfl),zg (M.at_ 1 _ rfl),trivial⟩ (by omega) hnc o⟩
  ·rintro W l' o hl hnc hS
   refine hS.put (by omega) (by omega) ?_
   rintro c ⟨hc,k,hk,M⟩
   exact ⟨hc,k,hk,M.putObj trivial (by omega) hnc o⟩
  ·rintro X k W hk hs ⟨hXc,ev,hi,M⟩
   exact ⟨hXc,_,trivial,M.sub ⟨rfl,(by rw [namL_no hs];rfl),rfl,rfl,trivial⟩⟩
  ·rintro X k V' W W' hk hs ⟨hXc,ev,hi,M⟩ hb hr hlo hre
   exact hY (k,V',X) W' ⟨⟨hk,hs⟩,hXc,_,hi,M.newRecv hb hr hlo 3⟩ hre
  ·exact ⟨fun W _ g hg=>hg.elim,(zN),trivial,(M1.triv 4).sub ⟨rfl,rfl,rfl,rfl,trivial⟩⟩
 ·rintro l ⟨k,V',X⟩ W ra F10 hlo hlt ⟨⟨hk,hs⟩,hXc,ev,hi,M10⟩
  replace F10:Fx 18 ra _:=F10
  dsimp only at hk hs hi M10 F10 ⊢
  have hwle:=M9.le
  obtain ⟨rk,hrk⟩:∃ x,z0a V (2*k)=x:=⟨_,rfl⟩
  rw [hrk] at M10 F10
  have CM:CellsA _ _:=(show CellsA W [(3,zvb w.heap.size rk (.agg (recA rk V'))),(4,X),(2,rowR 9 1 (namL V k).length (strV (namL V k)) ev),(0,blkR g4 45 (#[ev])),(1,blkR g8 25 (#[(zO g)]))] from ⟨zub (M10.at_ 3 _ rfl),hXc _ (M10.at_ 4 _ rfl),cells_row (M10.at_ 2 _ rfl),zg (M10.at_ 0 _ rfl),zg (M10.at_ 1 _ rfl),trivial⟩)
  replace M10:Mx none w W [(3,zvb w.heap.size rk (.agg (recA rk V'))),(4,X),(2,rowR 9 1 (namL V k).length (strV (namL V k)) ev),(0,blkR g4 45 (#[ev])),(1,blkR g8 25 (#[(zO g)]))]:=M10
  have N10:=M10.oth CM 7
  clear CM M10
  refine wpIn_lit' (fun ⟨_,_,h⟩=>h) rfl ?_
  refine zq rfl rfl F10 rfl N10 8 (t:=37) (c:=recA ⟨0, "".toUTF8,[],0,0,[],0,0,0⟩ ⟨zN,zN⟩) (by unfold execOp;kernel_rfl) ?_
  intro g11 a11 w11 F11 M11
  clear F10 N10
  refine zt rfl rfl F11 M11 (k:=8) rfl _ _ _ rfl (F11 5 rfl) (F11 9 rfl) (recA rk V') _ rfl (zL rfl) (z6a (recv_is (M11.at_ 3 _ rfl))) (zca rfl) (by kernel_rfl) ?_
  intro w12 M12
  refine ⟨M12.keeps (i:=7) rfl,fun o hnc hoc=>?_⟩
  have hlz:l<w12.heap.size:=Nat.lt_of_lt_of_le hlt (M12.keeps (i:=7) rfl).size
  have M13:Mx none w w12 [(3,zvb w.heap.size rk (.agg (recA rk V'))),(4,X),(2,rowR 9 1 (namL V k).length (strV (namL V k)) ev),(0,blkR g4 45 (#[ev])),(1,blkR g8 25 (#[(zO g)])),(8,blkR g11 37 (recA rk V'))]:=M12.sb
  have CM:CellsA _ _:=(show CellsA w12 [(3,zvb w.heap.size rk (.agg (recA rk V'))),(4,X),(2,rowR 9 1 (namL V k).length (strV (namL V k)) ev),(0,blkR g4 45 (#[ev])),(1,blkR g8 25 (#[(zO g)])),(8,blkR g11 37 (recA rk V'))] from ⟨zub (M13.at_ 3 _ rfl),hXc _ (M13.at_ 4 _ rfl),cells_row (M13.at_ 2 _ rfl),zg (M13.at_ 0 _ rfl),zg (M13.at_ 1 _ rfl),zg (M13.at_ 8 _ rfl),trivial⟩)
  have N13:=M13.putObj CM (by omega) hnc o
  have hLo:(w12.putObj l o).heap[l]? = some o:=World.putObj_heap_same hlz
  clear CM M13
  obtain ⟨Wp,hWp⟩:∃ x,x=w12.putObj l o:=⟨_,rfl⟩
  rw [←hWp] at N13 hLo ⊢
  have CM:CellsA _ _:=(show CellsA Wp [(3,zvb w.heap.size rk (.agg (recA rk V'))),(4,X),(2,rowR 9 1 (namL V k).length (strV (namL V k)) ev),(0,blkR g4 45 (#[ev])),(1,blkR g8 25 (#[(zO g)])),(8,blkR g11 37 (recA rk V'))] from ⟨zub (N13.at_ 3 _ rfl),hXc _ (N13.at_ 4 _ rfl),cells_row (N13.at_ 2 _ rfl),zg (N13.at_ 0 _ rfl),zg (N13.at_ 1 _ rfl),zg (N13.at_ 8 _ rfl),trivial⟩)
  have P13:=N13.oth CM 5
  clear CM N13
  refine wpIn_block ?_
  refine wpIn_lit' (fun ⟨_,_,h⟩=>h) rfl ?_
  refine zB 3 [(2,zN),(3,(zO g4)),(10,ev),(12,.string rk.s)] [0,1] (zu (P13.blk (k:=0) rfl) (zu (P13.blk (k:=8) rfl) dnil)) [g4,g11] F11 fun _ F14=>?_
  refine wl_allocS rfl rfl F14 rfl P13 9 (t:=9) (c:=#[.string rk.s]) (k:=1) (m:=1) (y_litG 45 9 (s:=1) (zv:=.string "".toUTF8) Tryz.underlying45 (by kernel_rfl) (by kernel_rfl) rfl (#[.string rk.s]) (by decide) (by decide) (by simp only [List.map_toArray,List.map_cons,List.map_nil,(F14 12 rfl)];kernel_rfl)) ?_
  intro g15 a15 w15 F15 M15
  clear F14 P13
  refine zwa rfl rfl F15 rfl (run_appR M15 (k:=2) (kb:=9) (by_:=16) rfl rfl rfl (one_str _) (by decide) Tryz.underlying45 (by kernel_rfl) (by have:=namL_len V k;omega) (by have:=namL_len V k;unfold maxLen;omega) _ _ rfl (F15 10 rfl) (F15 13 rfl)) ?_
  intro v16 a16 w16 F16 M16
  obtain ⟨Ar16,cr16,rfl,-⟩:=row_slice (M16.rowF (k:=2) rfl)
  refine zt rfl rfl F16 M16 (k:=0) rfl _ _ _ rfl (F16 3 rfl) (F16 14 rfl) (#[.slice Ar16 ((namL V k).length+1) cr16]) _ rfl (zL rfl) (one_slc rfl) (zca rfl) (by kernel_rfl) ?_
  intro w17 M17
  have KO:=M17.keeps (i:=5) rfl
  have Me:Mx none w w17 [(4,X),(2,rowR 9 1 (namL V (k+1)).length (strV (namL V (k+1))) (.slice Ar16 ((namL V k).length+1) cr16)),(0,blkR g4 45 (#[(.slice Ar16 ((namL V k).length+1) cr16)])),(1,blkR g8 25 (#[(zO g)]))]:=M17.sub ⟨rfl,(by rw [namL_yes hs hrk,List.length_append];unfold strV;rw [List.map_append];rfl),rfl,rfl,trivial⟩
  have CM:CellsA _ _:=(show CellsA w17 [(4,X),(2,rowR 9 1 (namL V (k+1)).length (strV (namL V (k+1))) (.slice Ar16 ((namL V k).length+1) cr16)),(0,blkR g4 45 (#[(.slice Ar16 ((namL V k).length+1) cr16)])),(1,blkR g8 25 (#[(zO g)]))] from ⟨hXc _ (Me.at_ 4 _ rfl),cells_row (Me.at_ 2 _ rfl),zg (Me.at_ 0 _ rfl),zg (Me.at_ 1 _ rfl),trivial⟩)
  exact ⟨KO,fun o2=>⟨hXc,(.slice Ar16 ((namL V k).length+1) cr16),trivial,Me.putObj CM (by omega) (fun o3 h3=>by rw [KO.same l o hLo hoc] at h3;cases h3;exact hoc) o2⟩⟩
 ·rintro l D o W a19 hD hL ⟨X,hXc,ev,hi,M19⟩ hnc hdd F19
  replace M19:Mx none w W [(2,rowR 9 1 (namL V 8).length (strV (namL V 8)) ev),(0,blkR g4 45 (#[ev])),(1,blkR g8 25 (#[(zO g)]))]:=M19.sb
  have hwle:=M9.le
  have CM:CellsA W [(2,rowR 9 1 (namL V 8).length (strV (namL V 8)) ev),(0,blkR g4 45 (#[ev])),(1,blkR g8 25 (#[(zO g)]))]:=⟨cells_row (M19.at_ 2 _ rfl),zg (M19.at_ 0 _ rfl),zg (M19.at_ 1 _ rfl),trivial⟩
  replace M19:=M19.putObj CM (by omega) hnc o
  clear CM
  have CM:CellsA (W.putObj l o) [(2,rowR 9 1 (namL V 8).length (strV (namL V 8)) ev),(0,blkR g4 45 (#[ev])),(1,blkR g8 25 (#[(zO g)]))]:=⟨cells_row (M19.at_ 2 _ rfl),zg (M19.at_ 0 _ rfl),zg (M19.at_ 1 _ rfl),trivial⟩
  replace M19:=M19.obj CM 6 D _ hdd rfl
  clear CM
  have hDge:w.heap.size≤D:=by omega
  clear hdd hnc hL hD
  obtain ⟨w19,hw19⟩:∃ x,x=W.putObj l o:=⟨_,rfl⟩
  rw [←hw19] at M19 ⊢
  clear hw19 F8 M9
  rcases Nat.eq_zero_or_pos (namL V 8).length with hn | hn
  ·obtain ⟨A0,c0,rfl⟩:∃ A c,ev=.slice A 0 c:=by
    obtain ⟨A,c,e,-⟩:=row_slice (M19.rowF (k:=2) rfl)
    exact ⟨A,c,by rw [e,hn]⟩
   refine hK5 _ _ (zT fun _ hK20=>zc (w':=w19) rfl rfl F19 rfl (.slice A0 0 c0) (zda _ _ rfl (F19 3 rfl) (M19.blk (k:=0) rfl) rfl Tryz.underlying45 rfl) fun _ F21=>?_)
   refine zh rfl rfl F21 rfl rfl (zE Tryz.func57 rfl) #[.slice A0 0 c0] (zaa (F21 15 rfl)) (sort_nil A0 c0 w19) ?_
   rintro _ w22 a22 b22 F22
   have M22:=M19.step b22
   refine hK20 _ _ (zT fun _ hK23=>zB 2 [(2,.slice A0 0 c0)] [0] (zu (M22.blk (k:=0) rfl) dnil) [g4] F22 fun _ F24=>?_)
   refine hK23 _ _ (wp_ret ?_)
   have hDD:=M22.anObj (i:=6) rfl
   have M9:Mx none w w22 [(2,rowR 9 1 (namL V 8).length (strV (namL V 8)) (.slice A0 0 c0)),(0,blkR g4 45 (#[.slice A0 0 c0])),(1,blkR g8 25 (#[(zO g)]))]:=M22.sb
   have Mz:=M9.putObj (show CellsA w22 [(2,rowR 9 1 (namL V 8).length (strV (namL V 8)) (.slice A0 0 c0)),(0,blkR g4 45 (#[.slice A0 0 c0])),(1,blkR g8 25 (#[(zO g)]))] from ⟨cells_row (M9.at_ 2 _ rfl),zg (M9.at_ 0 _ rfl),zg (M9.at_ 1 _ rfl),trivial⟩) hDge (fun o3 h3=>by rw [hDD] at h3;cases h3;rfl) (.deferred none)
   exact zsc F24.defers hDD (res1 rfl (F24 2 rfl)) ⟨_,rfl,⟨A0,c0,by rw [srtL_len,hn],fun h0=>absurd h0 (by rw [srtL_len,hn];decide)⟩,Mz.below⟩
  ·obtain ⟨gr,c0,E,rfl,M25⟩:=M19.rowBlk (k:=2) rfl hn rfl
   refine hK5 _ _ (zT fun _ hK26=>zc (w':=w19) rfl rfl F19 rfl (.slice (some ⟨gr,0,none⟩) (namL V 8).length c0) (zda _ _ rfl (F19 3 rfl) (M25.blk (k:=0) rfl) rfl Tryz.underlying45 rfl) fun _ F27=>?_)
   refine zh rfl rfl F27 rfl rfl (zE Tryz.func57 rfl) #[.slice (some ⟨gr,0,none⟩) (namL V 8).length c0] (zaa (F27 15 rfl)) (sort_some (namL V 8) E gr c0 (by have:=namL_len V 8;omega) w19 (M25.blk (k:=2) rfl)) ?_
   rintro _ w28 a28 ⟨hc28,hg28⟩ F28
   have M28:=M25.put (k:=2) rfl hg28 hc28
   clear M25 hg28 hc28
   refine hK26 _ _ (zT fun _ hK29=>zc (w':=w28) rfl rfl F28 rfl (.slice (some ⟨gr,0,none⟩) (namL V 8).length c0) (zda _ _ rfl (F28 3 rfl) (M28.blk (k:=0) rfl) rfl Tryz.underlying45 rfl) fun _ F30=>?_)
   refine rm rfl F30 fun _ F31=>hK29 _ _ (wp_ret ?_)
   have hDD:=M28.anObj (i:=6) rfl
   have M9:Mx none w w28 [(2,blkR gr 9 (rowA (srtL (namL V 8)) E)),(0,blkR g4 45 (#[.slice (some ⟨gr,0,none⟩) (namL V 8).length c0])),(1,blkR g8 25 (#[(zO g)]))]:=M28.sb
   have Mz:=M9.putObj (show CellsA w28 [(2,blkR gr 9 (rowA (srtL (namL V 8)) E)),(0,blkR g4 45 (#[.slice (some ⟨gr,0,none⟩) (namL V 8).length c0])),(1,blkR g8 25 (#[(zO g)]))] from ⟨zg (M9.at_ 2 _ rfl),zg (M9.at_ 0 _ rfl),zg (M9.at_ 1 _ rfl),trivial⟩) hDge (fun o3 h3=>by rw [hDD] at h3;cases h3;rfl) (.deferred none)
   exact zsc F31.defers hDD (res1 rfl (F31 2 rfl)) ⟨_,rfl,⟨_,c0,by rw [srtL_len],fun _=>⟨gr,E,rfl,(Mz.own 2 _ rfl rfl gr rfl).resolve_right (fun e=>by cases e),Mz.blk (k:=2) rfl⟩⟩,Mz.below⟩
 ·rintro l D o c W a32 hD hL ⟨rfl,k,⟨hk,hi⟩,M32⟩ hnc hdd F32
  have hwle:=M9.le
  have CM:CellsA W []:=trivial
  replace M32:=M32.putObj CM (by omega) hnc o
  clear CM
  have CM:CellsA (W.putObj l o) []:=trivial
  replace M32:=M32.obj CM 6 D _ hdd rfl
  clear CM
  have hDge:w.heap.size≤D:=by omega
  clear hdd hnc hL hD
  obtain ⟨w32,hw32⟩:∃ x,x=W.putObj l o:=⟨_,rfl⟩
  rw [←hw32] at M32 ⊢
  clear hw32 F8 M9
  exact absurd hi id
end Go.Proofs.YtmjbnmbobocpdaaGreat
