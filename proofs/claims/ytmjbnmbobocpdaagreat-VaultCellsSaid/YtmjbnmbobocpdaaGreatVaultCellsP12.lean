/- What VaultCells stands on, part 12. -/
import Derived.Test.YtmjbnmbobocpdaaGreatVaultCellsP1
import Derived.Test.YtmjbnmbobocpdaaGreatVaultCellsP2
import Derived.Test.YtmjbnmbobocpdaaGreatVaultCellsP3
import Derived.Test.YtmjbnmbobocpdaaGreatVaultCellsP4
import Derived.Test.YtmjbnmbobocpdaaGreatVaultCellsP5
import Derived.Test.YtmjbnmbobocpdaaGreatVaultCellsP6
import Derived.Test.YtmjbnmbobocpdaaGreatVaultCellsP7
import Derived.Test.YtmjbnmbobocpdaaGreatVaultCellsP8
import Derived.Test.YtmjbnmbobocpdaaGreatVaultCellsP9
import Derived.Test.YtmjbnmbobocpdaaGreatVaultCellsP10
import Derived.Test.YtmjbnmbobocpdaaGreatVaultCellsP11
set_option maxRecDepth 100000
set_option maxHeartbeats 8000000
set_option linter.unusedVariables false
set_option linter.unusedSimpArgs false
namespace Go.Proofs.YtmjbnmbobocpdaaGreat
open Go.ChangeShapes Go.WideShapes Go.ChangeAt Go.RowKit
noncomputable def namL (V:VltN):Nat→List ByteArray
 | 0=>[]
 | k+1=>if saidB V (2*k)=true then namL V k++[(z7a V (2*k)).s] else namL V k
theorem namL_no {V:VltN} {k:Nat} (h:saidB V (2*k)=false):namL V (k+1)=namL V k:=if_neg (by rw [h];exact Bool.false_ne_true)
theorem namL_yes {V:VltN} {k:Nat} (h:saidB V (2*k)=true) {r:RecN} (hr:z7a V (2*k)=r):namL V (k+1)=namL V k++[r.s]:=by rw [namL,if_pos h,hr]
theorem namL_len (V:VltN):∀ k,(namL V k).length≤k
 | 0=>Nat.le_refl _
 | k+1=>by
  unfold namL
  have:=namL_len V k
  split
  ·rw [List.length_append];simp;omega
  ·omega
def strV (L:List ByteArray):List Value:=L.map Value.string
def TxtAt (w:World) (B:Nat) (L:List ByteArray) (v:Value):Prop:=∃ A c,v=.slice A L.length c∧(0<L.length→∃ gr E,A=some ⟨gr,0,none⟩∧B≤gr∧w.heap[gr]? = some (.cells (rowA L E) 9 (0,0)))
theorem cells_row {w:World} {e:TypeId} {sz n:Nat} {xs:List Value} {v:Value} (h:(rowR e sz n xs v).F w):zqc w (rowR e sz n xs v):=fun g hg=>by
 have h:w.ownsRow 0 e sz v n xs:=h
 have hg':v.ownBlock=some g:=hg
 rcases h.2 with ⟨rfl,_⟩ | ⟨b,c,cur,rfl,_,h1,_⟩
 ·cases hg'
 ·cases hg';exact ⟨_,h1,rfl⟩
theorem Mx.rowBlk {G:Option Nat} {w0 w:World} {R:List (Nat×Res)} (M:Mx G w0 w R) {k n:Nat} {L:List ByteArray} {v:Value} (hk:look R k=some (rowR 9 1 n (strV L) v)) (hn:0<L.length) (hl:n=L.length):∃ gr c E,v=.slice (some ⟨gr,0,none⟩) L.length c∧Mx G w0 w ((k,blkR gr 9 (rowA L E))::R):=by
 subst hl
 have h:=M.rowF hk
 rcases h.2 with ⟨_,h0⟩ | ⟨g,c,cur,e,_,hg,h1,h2,h3,h4⟩
 ·omega
 ·refine ⟨g,c,cur.toList.drop L.length,e,?_⟩
  have hc:cur=rowA L (cur.toList.drop L.length):=by
   unfold rowA
   rw [show L.map Value.string=cur.toList.take (L.length*1) from h4.symm,Nat.mul_one,List.take_append_drop]
  rw [←hc]
  have hf:∀ b,b=g→ofp v b:=fun b hb=>by subst hb;rw [e];rfl
  exact M.cons k _ hg z3c (fun b hb=>by cases hb;exact z8a hg) (fun _ b hb=>M.own k _ hk rfl b (hf b hb)) fun j s e2 hj hw b hb=>M.dis k j _ s hk e2 hj rfl b (hf b hb)
theorem names_any (g:Nat) (V:VltN) (s n:Nat→Value) (hv:z5a V) (w:World) (h:HasV w g V s n):
  Calls Tryz.prog 25 #[.pointer (some ⟨g,0,none⟩)] w fun e w'=>∃ v,e=.returned v∧TxtAt w' w.heap.size (srtL (namL V 8)) v∧Below w.heap.size w w':=by
 refine calls_fxM (args:=[.pointer (some ⟨g,0,none⟩)]) 18 Tryz.func25 rfl rfl rfl ?_
 intro fa F
 have M:=Mx.start w
 refine zT fun _ hK1=>rm rfl F fun _ F2=>hK1 _ _ (zT fun _ hK3=>zp (zc rfl) rfl F2 rfl M 0 (t:=45) (c:=#[zN]) (by unfold execOp;kernel_rfl) ?_)
 intro g4 a4 w4 F4 M4
 refine hK3 _ _ (zSk fun _ hK5=>zT fun _ hK6=>rm rfl F4 fun _ F7=>zh (zc rfl) rfl F7 rfl rfl (zE Tryz.func56 rfl) #[.pointer (some ⟨g,0,none⟩)] (zz (F7.get (t:=6) rfl)) (accounts_ex g w4) ?_)
 rintro _ w8 a8 ⟨g8,rfl,hg8,hc8,b8⟩ F8
 have M8:=M4.newb b8 1 hg8 hc8
 clear M4 hg8 hc8 b8
 refine hK6 _ _ (wp_block ?_)
 have M9:=M8.nilRow 2 9 1
 refine range_fx4 F8 (gf:=84) (lb:=#[.pointer (some ⟨g8,0,none⟩)]) (F8.get (t:=7) rfl) (zE Tryz.func84 rfl) rfl rfl (α:=Nat×RecV×Res) (fun x=>.agg #[.int .i64 ((2*x.1:Nat):Int),.func (.func 105) #[] #[]]) (fun x=>.agg (recA (z7a V (2*x.1)) x.2.1))
  (fun x W=>(x.1<8∧saidB V (2*x.1)=true)∧(∀ W,Res.F x.2.2 W→zqc W x.2.2)∧∃ (ev:Value),(True)∧Mx none w W [(3,zwb w.heap.size (z7a V (2*x.1)) (.agg (recA (z7a V (2*x.1)) x.2.1))),(4,x.2.2),(2,rowR 9 1 (namL V x.1).length (strV (namL V x.1)) ev),(0,blkR g4 45 (#[ev])),(1,blkR g8 25 (#[.pointer (some ⟨g,0,none⟩)]))]) (fun x W=>((∀ W,Res.F x.2.2 W→zqc W x.2.2)∧∃ (ev:Value),(True)∧Mx none w W [(4,x.2.2),(2,rowR 9 1 (namL V (x.1+1)).length (strV (namL V (x.1+1))) ev),(0,blkR g4 45 (#[ev])),(1,blkR g8 25 (#[.pointer (some ⟨g,0,none⟩)]))])) (fun c W=>c=.ret∧∃ k,(k<8∧(False))∧Mx none w W []) (fun W=>∃ X,((∀ W,Res.F X W→zqc W X)∧∃ (ev:Value),(True)∧Mx none w W [(4,X),(2,rowR 9 1 (namL V 8).length (strV (namL V 8)) ev),(0,blkR g4 45 (#[ev])),(1,blkR g8 25 (#[.pointer (some ⟨g,0,none⟩)]))])) ?_ ?_ ?_ ?_
 ·intro l D o1 o2 W1 hD hL bW hrec hY
  have M1:=M9.step bW
  have hlW:=heap_ltO hrec.1
  have hle1:=M1.le
  refine accounts1_any g g8 V s n hv (fun X k W=>((∀ W,Res.F X W→zqc W X)∧∃ (ev:Value),(True)∧Mx none w W [(4,X),(2,rowR 9 1 (namL V k).length (strV (namL V k)) ev),(0,blkR g4 45 (#[ev])),(1,blkR g8 25 (#[.pointer (some ⟨g,0,none⟩)]))])) _ l D o1 o2 W1 ?_ ?_ ?_ ?_ ?_ ?_ ?_ ?_ ?_ hrec
  ·rintro X k W ⟨hXc,ev,hi,M⟩
   exact ⟨h.step M.below,M.blk (k:=1) rfl⟩
  ·rintro X k W ⟨hXc,ev,hi,M⟩
   exact M.at_ 4 _ rfl
  ·rintro X k W W' ⟨hXc,ev,hi,M⟩ hb hx hd hf hXc2
   exact ⟨hXc2,_,hi,(M.fresh hb 4 X hx hd hf).sub ⟨rfl,rfl,rfl,rfl,trivial⟩⟩
  ·rintro X k W W' ⟨hXc,ev,hi,M⟩ hb
   exact ⟨hXc,_,hi,M.step hb⟩
  ·rintro X k W l' o hl hnc ⟨hXc,ev,hi,M⟩
   exact ⟨hXc,_,hi,M.putObj ⟨hXc _ (M.at_ 4 _ rfl),cells_row (M.at_ 2 _ rfl),zf (M.at_ 0 _ rfl),zf (M.at_ 1 _ rfl),trivial⟩ (by omega) hnc o⟩
  ·rintro W l' o hl hnc hS
   refine hS.put (by omega) (by omega) ?_
   rintro c ⟨hc,k,hk,M⟩
   exact ⟨hc,k,hk,M.putObj trivial (by omega) hnc o⟩
  ·rintro X k W hk hs ⟨hXc,ev,hi,M⟩
   exact ⟨hXc,_,trivial,M.sub ⟨rfl,(by rw [namL_no hs];rfl),rfl,rfl,trivial⟩⟩
  ·rintro X k V' W W' hk hs ⟨hXc,ev,hi,M⟩ hb hr hlo hre
   exact hY (k,V',X) W' ⟨⟨hk,hs⟩,hXc,_,hi,M.newRecv hb hr hlo 3⟩ hre
  ·exact ⟨fun W _ g hg=>hg.elim,(zN),trivial,(M1.triv 4).sub ⟨rfl,rfl,rfl,rfl,trivial⟩⟩
 ·rintro l ⟨k,V',X⟩ W ra F10 hlo hlt ⟨⟨hk,hs⟩,hXc,ev,hi,M10⟩
  replace F10:Fx 18 ra _:=F10
  dsimp only at hk hs hi M10 F10 ⊢
  have hwle:=M9.le
  obtain ⟨rk,hrk⟩:∃ x,z7a V (2*k)=x:=⟨_,rfl⟩
  rw [hrk] at M10 F10
  have CM:CellsA _ _:=(show CellsA W [(3,zwb w.heap.size rk (.agg (recA rk V'))),(4,X),(2,rowR 9 1 (namL V k).length (strV (namL V k)) ev),(0,blkR g4 45 (#[ev])),(1,blkR g8 25 (#[.pointer (some ⟨g,0,none⟩)]))] from ⟨zub (M10.at_ 3 _ rfl),hXc _ (M10.at_ 4 _ rfl),cells_row (M10.at_ 2 _ rfl),zf (M10.at_ 0 _ rfl),zf (M10.at_ 1 _ rfl),trivial⟩)
  replace M10:Mx none w W [(3,zwb w.heap.size rk (.agg (recA rk V'))),(4,X),(2,rowR 9 1 (namL V k).length (strV (namL V k)) ev),(0,blkR g4 45 (#[ev])),(1,blkR g8 25 (#[.pointer (some ⟨g,0,none⟩)]))]:=M10
  have N10:=M10.oth CM 7
  clear CM M10
  refine wpIn_lit' (fun ⟨_,_,h⟩=>h) rfl ?_
  refine zp (zc rfl) rfl F10 rfl N10 8 (t:=37) (c:=recA ⟨0, "".toUTF8,[],0,0,[],0,0,0⟩ ⟨zN,zN⟩) (by unfold execOp;kernel_rfl) ?_
  intro g11 a11 w11 F11 M11
  clear F10 N10
  refine zu (zc rfl) rfl F11 M11 (k:=8) rfl _ _ _ rfl (F11.get (t:=5) rfl) (F11.get (t:=9) rfl) (recA rk V') _ rfl (zL rfl) (zeb (recv_is (M11.at_ 3 _ rfl))) (zaa rfl) (by kernel_rfl) ?_
  intro w12 M12
  refine ⟨M12.keeps (i:=7) rfl,fun o hnc hoc=>?_⟩
  have hlz:l<w12.heap.size:=Nat.lt_of_lt_of_le hlt (M12.keeps (i:=7) rfl).size
  have M13:Mx none w w12 [(3,zwb w.heap.size rk (.agg (recA rk V'))),(4,X),(2,rowR 9 1 (namL V k).length (strV (namL V k)) ev),(0,blkR g4 45 (#[ev])),(1,blkR g8 25 (#[.pointer (some ⟨g,0,none⟩)])),(8,blkR g11 37 (recA rk V'))]:=M12.sb
  have CM:CellsA _ _:=(show CellsA w12 [(3,zwb w.heap.size rk (.agg (recA rk V'))),(4,X),(2,rowR 9 1 (namL V k).length (strV (namL V k)) ev),(0,blkR g4 45 (#[ev])),(1,blkR g8 25 (#[.pointer (some ⟨g,0,none⟩)])),(8,blkR g11 37 (recA rk V'))] from ⟨zub (M13.at_ 3 _ rfl),hXc _ (M13.at_ 4 _ rfl),cells_row (M13.at_ 2 _ rfl),zf (M13.at_ 0 _ rfl),zf (M13.at_ 1 _ rfl),zf (M13.at_ 8 _ rfl),trivial⟩)
  have N13:=M13.putObj CM (by omega) hnc o
  have hLo:(w12.putObj l o).heap[l]? = some o:=World.putObj_heap_same hlz
  clear CM M13
  obtain ⟨Wp,hWp⟩:∃ x,x=w12.putObj l o:=⟨_,rfl⟩
  rw [←hWp] at N13 hLo ⊢
  have CM:CellsA _ _:=(show CellsA Wp [(3,zwb w.heap.size rk (.agg (recA rk V'))),(4,X),(2,rowR 9 1 (namL V k).length (strV (namL V k)) ev),(0,blkR g4 45 (#[ev])),(1,blkR g8 25 (#[.pointer (some ⟨g,0,none⟩)])),(8,blkR g11 37 (recA rk V'))] from ⟨zub (N13.at_ 3 _ rfl),hXc _ (N13.at_ 4 _ rfl),cells_row (N13.at_ 2 _ rfl),zf (N13.at_ 0 _ rfl),zf (N13.at_ 1 _ rfl),zf (N13.at_ 8 _ rfl),trivial⟩)
  have P13:=N13.oth CM 5
  clear CM N13
  refine wpIn_block ?_
  refine wpIn_lit' (fun ⟨_,_,h⟩=>h) rfl ?_
  refine zB 3 [(2,zN),(3,.pointer (some ⟨g4,0,none⟩)),(10,ev),(12,.string rk.s)] [0,1] (zx (P13.blk (k:=0) rfl) (zx (P13.blk (k:=8) rfl) dnil)) [g4,g11] F11 fun _ F14=>?_
  refine wl_allocS (zc rfl) rfl F14 rfl P13 9 (t:=9) (c:=#[.string rk.s]) (k:=1) (m:=1) (y_litG 45 9 (s:=1) (zv:=.string "".toUTF8) Tryz.underlying45 (by kernel_rfl) (by kernel_rfl) rfl (#[.string rk.s]) (by decide) (by decide) (by simp only [List.map_toArray,List.map_cons,List.map_nil,(F14.get (t:=12) rfl)];kernel_rfl)) ?_
  intro g15 a15 w15 F15 M15
  clear F14 P13
  refine zza (zc rfl) rfl F15 rfl (run_appR M15 (k:=2) (kb:=9) (by_:=16) rfl rfl rfl (one_str _) (by decide) Tryz.underlying45 (by kernel_rfl) (by have:=namL_len V k;omega) (by have:=namL_len V k;unfold maxLen;omega) _ _ rfl (F15.get (t:=10) rfl) (F15.get (t:=13) rfl)) ?_
  intro v16 a16 w16 F16 M16
  obtain ⟨Ar16,cr16,rfl,-⟩:=row_slice (M16.rowF (k:=2) rfl)
  refine zu (zc rfl) rfl F16 M16 (k:=0) rfl _ _ _ rfl (F16.get (t:=3) rfl) (F16.get (t:=14) rfl) (#[.slice Ar16 ((namL V k).length+1) cr16]) _ rfl (zL rfl) (one_slc rfl) (zaa rfl) (by kernel_rfl) ?_
  intro w17 M17
  have KO:=M17.keeps (i:=5) rfl
  have Me:Mx none w w17 [(4,X),(2,rowR 9 1 (namL V (k+1)).length (strV (namL V (k+1))) (.slice Ar16 ((namL V k).length+1) cr16)),(0,blkR g4 45 (#[(.slice Ar16 ((namL V k).length+1) cr16)])),(1,blkR g8 25 (#[.pointer (some ⟨g,0,none⟩)]))]:=M17.sub ⟨rfl,(by rw [namL_yes hs hrk,List.length_append];unfold strV;rw [List.map_append];rfl),rfl,rfl,trivial⟩
  have CM:CellsA _ _:=(show CellsA w17 [(4,X),(2,rowR 9 1 (namL V (k+1)).length (strV (namL V (k+1))) (.slice Ar16 ((namL V k).length+1) cr16)),(0,blkR g4 45 (#[(.slice Ar16 ((namL V k).length+1) cr16)])),(1,blkR g8 25 (#[.pointer (some ⟨g,0,none⟩)]))] from ⟨hXc _ (Me.at_ 4 _ rfl),cells_row (Me.at_ 2 _ rfl),zf (Me.at_ 0 _ rfl),zf (Me.at_ 1 _ rfl),trivial⟩)
  exact ⟨KO,fun o2=>⟨hXc,(.slice Ar16 ((namL V k).length+1) cr16),trivial,Me.putObj CM (by omega) (fun o3 h3=>by rw [KO.same l o hLo hoc] at h3;cases h3;exact hoc) o2⟩⟩
 ·rintro l D o W a19 hD hL ⟨X,hXc,ev,hi,M19⟩ hnc hdd F19
  replace M19:Mx none w W [(2,rowR 9 1 (namL V 8).length (strV (namL V 8)) ev),(0,blkR g4 45 (#[ev])),(1,blkR g8 25 (#[.pointer (some ⟨g,0,none⟩)]))]:=M19.sb
  have hwle:=M9.le
  have CM:CellsA W [(2,rowR 9 1 (namL V 8).length (strV (namL V 8)) ev),(0,blkR g4 45 (#[ev])),(1,blkR g8 25 (#[.pointer (some ⟨g,0,none⟩)]))]:=⟨cells_row (M19.at_ 2 _ rfl),zf (M19.at_ 0 _ rfl),zf (M19.at_ 1 _ rfl),trivial⟩
  replace M19:=M19.putObj CM (by omega) hnc o
  clear CM
  have CM:CellsA (W.putObj l o) [(2,rowR 9 1 (namL V 8).length (strV (namL V 8)) ev),(0,blkR g4 45 (#[ev])),(1,blkR g8 25 (#[.pointer (some ⟨g,0,none⟩)]))]:=⟨cells_row (M19.at_ 2 _ rfl),zf (M19.at_ 0 _ rfl),zf (M19.at_ 1 _ rfl),trivial⟩
  replace M19:=M19.obj CM 6 D _ hdd rfl
  clear CM
  have hDge:w.heap.size≤D:=by omega
  clear hdd hnc hL hD
  obtain ⟨w19,hw19⟩:∃ x,x=W.putObj l o:=⟨_,rfl⟩
  rw [←hw19] at M19 ⊢
  clear hw19 F8 M9
  rcases Nat.eq_zero_or_pos (namL V 8).length with hn | hn
  ·obtain ⟨A0,c0,rfl⟩:∃ A c,ev=.slice A 0 c:=by
    obtain ⟨A,c,e,-⟩:=row_slice (M19.rowF (k:=2) rfl)
    exact ⟨A,c,by rw [e,hn]⟩
   refine hK5 _ _ (zT fun _ hK20=>zd (w':=w19) (zc rfl) rfl F19 rfl (.slice A0 0 c0) (zca _ _ rfl (F19.get (t:=3) rfl) (M19.blk (k:=0) rfl) rfl Tryz.underlying45 rfl) fun _ F21=>?_)
   refine zh (zc rfl) rfl F21 rfl rfl (zE Tryz.func57 rfl) #[.slice A0 0 c0] (zz (F21.get (t:=15) rfl)) (sort_nil A0 c0 w19) ?_
   rintro _ w22 a22 b22 F22
   have M22:=M19.step b22
   refine hK20 _ _ (zT fun _ hK23=>zB 2 [(2,.slice A0 0 c0)] [0] (zx (M22.blk (k:=0) rfl) dnil) [g4] F22 fun _ F24=>?_)
   refine hK23 _ _ (wp_ret ?_)
   try simp only [Exit.then,Exit.inBlock,Exit.jump]
   have hDD:=M22.anObj (i:=6) rfl
   have M9:Mx none w w22 [(2,rowR 9 1 (namL V 8).length (strV (namL V 8)) (.slice A0 0 c0)),(0,blkR g4 45 (#[.slice A0 0 c0])),(1,blkR g8 25 (#[.pointer (some ⟨g,0,none⟩)]))]:=M22.sb
   have Mz:=M9.putObj (show CellsA w22 [(2,rowR 9 1 (namL V 8).length (strV (namL V 8)) (.slice A0 0 c0)),(0,blkR g4 45 (#[.slice A0 0 c0])),(1,blkR g8 25 (#[.pointer (some ⟨g,0,none⟩)]))] from ⟨cells_row (M9.at_ 2 _ rfl),zf (M9.at_ 0 _ rfl),zf (M9.at_ 1 _ rfl),trivial⟩) hDge (fun o3 h3=>by rw [hDD] at h3;cases h3;rfl) (.deferred none)
   exact zoc F24.defers hDD (res1 rfl (F24.get (t:=2) rfl)) ⟨_,rfl,⟨A0,c0,by rw [srtL_len,hn],fun h0=>absurd h0 (by rw [srtL_len,hn];decide)⟩,Mz.below⟩
  ·obtain ⟨gr,c0,E,rfl,M25⟩:=M19.rowBlk (k:=2) rfl hn rfl
   refine hK5 _ _ (zT fun _ hK26=>zd (w':=w19) (zc rfl) rfl F19 rfl (.slice (some ⟨gr,0,none⟩) (namL V 8).length c0) (zca _ _ rfl (F19.get (t:=3) rfl) (M25.blk (k:=0) rfl) rfl Tryz.underlying45 rfl) fun _ F27=>?_)
   refine zh (zc rfl) rfl F27 rfl rfl (zE Tryz.func57 rfl) #[.slice (some ⟨gr,0,none⟩) (namL V 8).length c0] (zz (F27.get (t:=15) rfl)) (sort_some (namL V 8) E gr c0 (by have:=namL_len V 8;omega) w19 (M25.blk (k:=2) rfl)) ?_
   rintro _ w28 a28 ⟨hc28,hg28⟩ F28
   have M28:=M25.put (k:=2) rfl hg28 hc28
   clear M25 hg28 hc28
   refine hK26 _ _ (zT fun _ hK29=>zd (w':=w28) (zc rfl) rfl F28 rfl (.slice (some ⟨gr,0,none⟩) (namL V 8).length c0) (zca _ _ rfl (F28.get (t:=3) rfl) (M28.blk (k:=0) rfl) rfl Tryz.underlying45 rfl) fun _ F30=>?_)
   refine rm rfl F30 fun _ F31=>hK29 _ _ (wp_ret ?_)
   try simp only [Exit.then,Exit.inBlock,Exit.jump]
   have hDD:=M28.anObj (i:=6) rfl
   have M9:Mx none w w28 [(2,blkR gr 9 (rowA (srtL (namL V 8)) E)),(0,blkR g4 45 (#[.slice (some ⟨gr,0,none⟩) (namL V 8).length c0])),(1,blkR g8 25 (#[.pointer (some ⟨g,0,none⟩)]))]:=M28.sb
   have Mz:=M9.putObj (show CellsA w28 [(2,blkR gr 9 (rowA (srtL (namL V 8)) E)),(0,blkR g4 45 (#[.slice (some ⟨gr,0,none⟩) (namL V 8).length c0])),(1,blkR g8 25 (#[.pointer (some ⟨g,0,none⟩)]))] from ⟨zf (M9.at_ 2 _ rfl),zf (M9.at_ 0 _ rfl),zf (M9.at_ 1 _ rfl),trivial⟩) hDge (fun o3 h3=>by rw [hDD] at h3;cases h3;rfl) (.deferred none)
   exact zoc F31.defers hDD (res1 rfl (F31.get (t:=2) rfl)) ⟨_,rfl,⟨_,c0,by rw [srtL_len],fun _=>⟨gr,E,rfl,(Mz.own 2 _ rfl rfl gr rfl).resolve_right (fun e=>by cases e),Mz.blk (k:=2) rfl⟩⟩,Mz.below⟩
 ·rintro l D o c W a32 hD hL ⟨rfl,k,⟨hk,hi⟩,M32⟩ hnc hdd F32
  have hwle:=M9.le
  have CM:CellsA W []:=trivial
  replace M32:=M32.putObj CM (by omega) hnc o
  clear CM
  have CM:CellsA (W.putObj l o) []:=trivial
  replace M32:=M32.obj CM 6 D _ hdd rfl
  clear CM
  have hDge:w.heap.size≤D:=by omega
  clear hdd hnc hL hD
  obtain ⟨w32,hw32⟩:∃ x,x=W.putObj l o:=⟨_,rfl⟩
  rw [←hw32] at M32 ⊢
  clear hw32 F8 M9
  exact absurd hi id
theorem settle_any (g:Nat) (c:Nat→CelN) (fl:Bool) (lf:Int) (dd:Bool) (s n:Nat→Value) (A0:Option Addr) (m c0:Nat) (tx:Nat→Int) (hmc:m≤c0) (hv:z5a ⟨c,fl,lf,dd⟩) (w:World) (hT:RdI w A0 m tx) (hTg:¬ifp A0 m g) (hr:RowsV w g c s n) (hg:w.heap[g]? = some (.cells (vltA ⟨c,fl,lf,dd⟩ s n) 80 (0,0))):
  Calls Tryz.prog 61 #[.pointer (some ⟨g,0,none⟩),.slice A0 m c0] w fun e w'=>∃ t,e=.returned t∧∃ s' n',RowsV w' g (setC c tx m 18) s' n'∧(∀ b,zr 18 s' n' b→zr 18 s n b∨w.heap.size≤b)∧w'.heap[g]? = some (.cells (vltA ⟨setC c tx m 18,false,-1,false⟩ s' n') 80 (0,0))∧w.grownBy w' (some g):=by
 have hlen:∀ i,i<18→(c i).s.length≤1000∧(c i).n.length≤1000:=hv
 refine zk (args:=[.pointer (some ⟨g,0,none⟩),.slice A0 m c0]) 66 Tryz.func61 rfl rfl rfl ?_
 intro fa F
 have M:=Mx.rowsG hr hg 1
 refine zSk fun _ hK1=>zT fun _ hK2=>rm rfl F fun _ F3=>hK2 _ _ (wp_block ?_)
 refine zqb (α:=Nat×Option Addr×Nat×Nat×(Nat→Int)×(Nat→Value)×(Nat→Value)) (n:=66) (G:=(some g)) (w0:=w) (fun x=>[(0,.pointer (some ⟨g,0,none⟩)),(8,.int .i64 (x.1:Int)),(1,.slice x.2.1 x.2.2.1 x.2.2.2.1)]) (fun x=>[(1,z3a 0 18 (setC c tx m x.1) x.2.2.2.2.2.1 x.2.2.2.2.2.2),(0,blkR g 80 (vltA ⟨(setC c tx m x.1),fl,lf,dd⟩ x.2.2.2.2.2.1 x.2.2.2.2.2.2))]) (fun k x=>k=(18-x.1)∧(x.1≤18∧(∀ b,zr 18 x.2.2.2.2.2.1 x.2.2.2.2.2.2 b→zr 18 s n b∨w.heap.size≤b)∧RdI w x.2.1 x.2.2.1 x.2.2.2.2.1∧(¬ifp x.2.1 x.2.2.1 g)∧x.2.2.1≤x.2.2.2.1∧x.2.2.1+setK c m x.1=m∧∀ i,i<x.2.2.1→x.2.2.2.2.1 i=tx (setK c m x.1+i))) _ ⟨0,A0,m,c0,tx,s,n⟩ ⟨rfl,⟨Nat.zero_le _,fun b hb=>.inl hb,hT,hTg,hmc,rfl,fun i _=>by rw [show setK c m 0=0 from rfl,Nat.zero_add]⟩⟩ (F3.sb) (M.sb) ?_
 rintro k4 ⟨jn,At,qt,ct,yt,sq,nq⟩ a4 w4 K4 ⟨ek4,I4⟩ F4 M4 hK4
 replace F4:Fx 66 a4 [(0,.pointer (some ⟨g,0,none⟩)),(8,.int .i64 (jn:Int)),(1,.slice At qt ct)]:=F4
 replace M4:Mx _ _ w4 [(1,z3a 0 18 (setC c tx m jn) sq nq),(0,blkR g 80 (vltA ⟨(setC c tx m jn),fl,lf,dd⟩ sq nq))]:=M4
 replace I4:jn≤18∧(∀ b,zr 18 sq nq b→zr 18 s n b∨w.heap.size≤b)∧RdI w At qt yt∧(¬ifp At qt g)∧qt≤ct∧qt+setK c m jn=m∧∀ i,i<qt→yt i=tx (setK c m jn+i):=I4
 replace ek4:k4=(18-jn):=ek4
 obtain ⟨hj,hfp,hT1,hTg1,hqc,hqm,hyx⟩:=I4
 by_cases hlt:jn<18
 ·have hcj:setC c tx m jn jn=c jn:=setC_ge c tx m jn jn (Nat.le_refl _)
  obtain ⟨fj,hfj⟩:∃ b,(c jn).f=b:=⟨_,rfl⟩
  refine zT fun _ hK5=>zd (w':=w4) (zc rfl) rfl F4 rfl (.bool true) (zla _ _ _ _ rfl (F4.get (t:=8) rfl) rfl (decide_eq_true (show (jn:Int)<18 by omega))) fun _ F6=>?_
  refine hK5 _ _ (zSk fun _ hK7=>wp_cond_true (F6.get (t:=9) rfl) (wp_skip (hK7 _ _ (zSk fun _ hK8=>wp_block (zT fun _ hK9=>rm rfl F6 fun _ F10=>rm rfl F10 fun _ F11=>hK9 _ _ (zT fun _ hK12=>zB 4 [(0,.pointer (some ⟨g,0,none⟩)),(8,.int .i64 (jn:Int)),(1,.slice At qt ct),(12,.int .i64 (jn:Int)),(14,.pointer (some ⟨g,0,none⟩))] [] dnil [] F11 fun _ F13=>?_))))))
  refine zd (w':=w4) (zc rfl) rfl F13 rfl (.pointer (some ⟨g,3*jn,none⟩)) (y_ixC3 (N:=18) 76 (by kernel_rfl) (by kernel_rfl) (by kernel_rfl) rfl (F13.get (t:=14) rfl) (F13.get (t:=12) rfl) rfl hlt) fun _ F14=>?_
  refine rm rfl F14 fun _ F15=>hK12 _ _ (zSk fun _ hK16=>zT fun _ hK17=>rm rfl F15 fun _ F18=>zd (w':=w4) (zc rfl) rfl F18 rfl (.pointer (some ⟨g,3*jn,none⟩)) (by unfold execOp;simp only [(F18.get (t:=16) rfl)];kernel_rfl) fun _ F19=>?_)
  refine zd (w':=w4) (zc rfl) rfl F19 rfl (.pointer (some ⟨g,3*jn+2,none⟩)) (y_fa (off:=2) rfl (F19.get (t:=17) rfl) (by kernel_rfl) rfl) fun _ F20=>?_
  refine zd (w':=w4) (zc rfl) rfl F20 rfl (.bool fj) (zca _ _ rfl (F20.get (t:=18) rfl) (M4.blk (k:=0) rfl) ((vlt_f ⟨(setC c tx m jn),fl,lf,dd⟩ sq nq hlt).trans (show some (Value.bool ((setC c tx m jn) jn).f)=_ by rw [hcj,hfj])) Tryz.underlying4 rfl) fun _ F21=>?_
  cases fj
  ·refine zd (w':=w4) (zc rfl) rfl F21 rfl (.bool true) (zrb _ _ rfl (F21.get (t:=19) rfl)) fun _ F22=>?_
   refine hK17 _ _ (wp_cond_true (F22.get (t:=20) rfl) (wp_exit ?_))
   simp only [Exit.then,Exit.inBlock,↓reduceIte,Nat.reduceEqDiff]
   refine hK8 _ _ (zR (zd (w':=w4) (zc rfl) rfl F22 rfl (.int .i64 ((jn+1:Nat):Int)) (zsa _ _ _ _ rfl (F22.get (t:=8) rfl) rfl (by omega) (by omega)) fun _ F23=>?_))
   refine rm rfl F23 fun _ F24=>?_
   have hsC:setC c tx m (jn+1)=(setC c tx m jn):=setC_no hfj
   have hsK:setK c m (jn+1)=setK c m jn:=setK_no hfj
   subst ek4
   exact hK4 _ ⟨(jn+1),At,qt,ct,yt,sq,nq⟩ _ _ (by omega) ⟨rfl,⟨by omega,hfp,hT1,hTg1,hqc,by rw [hsK];exact hqm,by rw [hsK];exact hyx⟩⟩ (F24.sb) (M4.sub ⟨(by rw [hsC];rfl),(by rw [hsC];rfl),trivial⟩)
  ·have hf:(c jn).f=true:=hfj
   obtain ⟨nl,hnl⟩:∃ l,(c jn).n=l:=⟨_,rfl⟩
   obtain ⟨sl,hsl⟩:∃ l,(c jn).s=l:=⟨_,rfl⟩
   have hln:=hlen jn hlt
   rw [hnl,hsl] at hln
   have hNl:IsB w4 nl (nq jn):=by rw [←hnl,←hcj];exact M4.rowsN (i:=1) rfl hlt
   have hSl:IsB w4 sl (sq jn):=by rw [←hsl,←hcj];exact M4.rowsS (i:=1) rfl hlt
   have M25:=(M4.part 50 (bytR nl (nq jn)) hNl zbc rfl (k:=1) rfl rfl (fun b hb=>⟨jn,hlt,.inr hb⟩)).part 51 (bytR sl (sq jn)) hSl zbc rfl (k:=1) rfl rfl (fun b hb=>⟨jn,hlt,.inl hb⟩)
   refine zd (w':=w4) (zc rfl) rfl F21 rfl (.bool false) (zrb _ _ rfl (F21.get (t:=19) rfl)) fun _ F26=>?_
   refine hK17 _ _ (wp_cond_false (F26.get (t:=20) rfl) (wp_skip (hK16 _ _ (zT fun _ hK27=>rm rfl F26 fun _ F28=>hK27 _ _ (zSk fun _ hK29=>zT fun _ hK30=>rm rfl F28 fun _ F31=>zd (w':=w4) (zc rfl) rfl F31 rfl (.int .i64 (qt:Int)) (y_lnG 22 Tryz.underlying22 _ rfl (F31.get (t:=21) rfl) rfl) fun _ F32=>?_)))))
   by_cases h33:0<(qt:Int)
   ·have hq:0<qt:=by omega
    obtain ⟨tn,htn⟩:∃ t,tornN (yt 0) nl.length=t:=⟨_,rfl⟩
    have htl:tn≤nl.length:=by rw [←htn];exact tornN_le _ _
    obtain ⟨km,hkm⟩:∃ k,min tn sl.length=k:=⟨_,rfl⟩
    have hks:km≤sl.length:=by omega
    refine zd (w':=w4) (zc rfl) rfl F32 rfl (.bool true) (z6b _ _ _ _ rfl (F32.get (t:=22) rfl) rfl (decide_eq_true h33)) fun _ F34=>?_
    refine hK30 _ _ (wp_cond_true (F34.get (t:=23) rfl) ?_)
    refine zSk fun _ hK35=>z6a F34 (SK [.inl (.slice At qt ct),.inl ((ixV (.slice At qt ct) 0)),.inl (.int .i64 (yt 0)),.inl (.int .i64 (max (yt 0) 0)),.inl (.pointer (some ⟨g,3*jn,none⟩)),.inl (.pointer (some ⟨g,3*jn,none⟩)),.inl (.pointer (some ⟨g,3*jn+1,none⟩)),.inl ((nq jn)),.inl (.int .i64 (nl.length:Int)),.inl (.int .i64 (tn:Int)),.inl (.int .i64 (tn:Int))]) 11 rfl (by kernel_rfl) ⟨hop0 F34 (by kernel_rfl),?_,?_,?_,hop0 F34 (by kernel_rfl),hop0 F34 (by kernel_rfl),?_,?_,?_,?_,hop0 F34 (by kernel_rfl),trivial⟩ ?_
    ·intro ua uw hb hd
     have e24:ua.eval (.tmp 24)=.slice At qt ct:=hd 24 (by decide)
     exact zlb (F:=(StK.eq ((ixV (.slice At qt ct) 0))).F) (zc rfl) ((ixV (.slice At qt ct) 0)) (y_ixJ _ _ rfl e24 (hT1.grow (M25.step hb).grown hTg1) rfl rfl hq) rfl
    ·intro ua uw hb hd
     have e25:ua.eval (.tmp 25)=(ixV (.slice At qt ct) 0):=hd 25 (by decide)
     exact zlb (F:=(StK.eq (.int .i64 (yt 0))).F) (zc rfl) (.int .i64 (yt 0)) (y_ldJ _ rfl e25 (hT1.grow (M25.step hb).grown hTg1) hq) rfl
    ·intro ua uw hb hd
     have e26:ua.eval (.tmp 26)=.int .i64 (yt 0):=hd 26 (by decide)
     exact zlb (F:=(StK.eq (.int .i64 (max (yt 0) 0))).F) (zc rfl) (.int .i64 (max (yt 0) 0)) (y_maxI _ _ rfl e26 rfl rfl) rfl
    ·intro ua uw hb hd
     have e29:ua.eval (.tmp 29)=.pointer (some ⟨g,3*jn,none⟩):=hd 29 (by decide)
     exact zlb (F:=(StK.eq (.pointer (some ⟨g,3*jn+1,none⟩))).F) (zc rfl) (.pointer (some ⟨g,3*jn+1,none⟩)) (y_fa (off:=1) rfl e29 (by kernel_rfl) rfl) rfl
    ·intro ua uw hb hd
     have e30:ua.eval (.tmp 30)=.pointer (some ⟨g,3*jn+1,none⟩):=hd 30 (by decide)
     exact zlb (F:=(StK.eq ((nq jn))).F) (zc rfl) ((nq jn)) (zca _ _ rfl e30 ((M25.step hb).blk (k:=0) rfl) (vlt_n ⟨(setC c tx m jn),fl,lf,dd⟩ sq nq hlt) Tryz.underlying23 rfl) rfl
    ·intro ua uw hb hd
     have e31:ua.eval (.tmp 31)=(nq jn):=hd 31 (by decide)
     exact zlb (F:=(StK.eq (.int .i64 (nl.length:Int))).F) (zc rfl) (.int .i64 (nl.length:Int)) (zya _ rfl e31 ((M25.step hb).isb (k:=50) rfl) rfl) rfl
    ·intro ua uw hb hd
     have e27:ua.eval (.tmp 27)=.int .i64 (max (yt 0) 0):=hd 27 (by decide)
     have e32:ua.eval (.tmp 32)=.int .i64 (nl.length:Int):=hd 32 (by decide)
     exact zlb (F:=(StK.eq (.int .i64 (tn:Int))).F) (zc rfl) (.int .i64 (tn:Int)) (y_min _ _ rfl e27 e32 (by rw [←htn,tornN_int];split <;> omega)) rfl
    intro p37 a37 w37 b37 G37 y37
    obtain ⟨-,-,-,-,-,-,-,-,-,-,q10,-⟩:=y37
    have r10:p37 10=.int .i64 (tn:Int):=q10 (by decide)
    simp only [List.take,layV,Nat.zero_add,Nat.reduceAdd,r10] at G37
    have M37:=M25.kc b37
    clear F34 M25 r10 q10
    refine hK35 _ _ (zR (rm rfl G37 fun _ F38=>zd (w':=w37) (zc rfl) rfl F38 rfl (.slice (tlA At ct) (qt-1) (ct-1)) (y_slI1 _ _ rfl (F38.get (t:=34) rfl) rfl hq hqc) fun _ F39=>?_))
    refine rm rfl F39 fun _ F40=>hK29 _ _ (zSk fun _ hK41=>?_)
    refine zma F40 [fun vE=>vE=.pointer (some ⟨g,3*jn,none⟩),fun vE=>vE=.pointer (some ⟨g,3*jn,none⟩),fun vE=>vE=.pointer (some ⟨g,3*jn,none⟩),fun vE=>vE=(sq jn),fun vE=>vE=.int .i64 (tn:Int),fun vE=>vE=.pointer (some ⟨g,3*jn,none⟩),fun vE=>vE=.pointer (some ⟨g,3*jn,none⟩),fun vE=>vE=.pointer (some ⟨g,3*jn,none⟩),fun vE=>vE=(sq jn),fun vE=>vE=.int .i64 (sl.length:Int),fun vE=>vE=.int .i64 (km:Int)] (JM (some g) w fun SV pV=>[(51,bytR sl (sq jn)),(50,bytR nl (nq jn)),(1,z3a 0 18 (setC c tx m jn) sq nq),(0,blkR g 80 (vltA ⟨(setC c tx m jn),fl,lf,dd⟩ sq nq))]) 11 rfl (by kernel_rfl) rfl ⟨trivial,trivial,trivial,trivial,trivial,trivial,trivial,trivial,trivial,trivial,trivial,trivial⟩ (fun p=>(M37.step (zja _)).sub ⟨rfl,rfl,rfl,rfl,trivial⟩) ⟨?_,?_,?_,?_,?_,?_,?_,?_,?_,?_,?_,trivial⟩ ?_
    ·intro ua uw SV pV (M:Mx (some g) w uw _) hk hn hd
     have e5:ua.eval (.tmp 5)=.pointer (some ⟨g,3*jn,none⟩):=(show ua.eval (.tmp 5)=_ from hd 5 (by decide)).trans (F40.get (t:=5) rfl)
     exact zg (zc rfl) (.pointer (some ⟨g,3*jn,none⟩)) (zqa _ (.inl rfl) e5) rfl (M.sb)
    ·intro ua uw SV pV (M:Mx (some g) w uw _) hk hn hd
     have e36:ua.eval (.tmp 36)=.pointer (some ⟨g,3*jn,none⟩):=zQ1 (hd 36 (by decide))
     exact zg (zc rfl) (.pointer (some ⟨g,3*jn,none⟩)) (by unfold execOp;simp only [e36];kernel_rfl) rfl (M.sb)
    ·intro ua uw SV pV (M:Mx (some g) w uw _) hk hn hd
     have e37:ua.eval (.tmp 37)=.pointer (some ⟨g,3*jn,none⟩):=zQ1 (hd 37 (by decide))
     exact zg (zc rfl) (.pointer (some ⟨g,3*jn,none⟩)) (y_fa (off:=0) rfl e37 (by kernel_rfl) rfl) rfl (M.sb)
    ·intro ua uw SV pV (M:Mx (some g) w uw _) hk hn hd
     have e38:ua.eval (.tmp 38)=.pointer (some ⟨g,3*jn,none⟩):=zQ1 (hd 38 (by decide))
     exact zg (zc rfl) ((sq jn)) (zca _ _ rfl e38 (M.blk (k:=0) rfl) (vlt_s ⟨(setC c tx m jn),fl,lf,dd⟩ sq nq hlt) Tryz.underlying23 rfl) rfl (M.sb)
    ·intro ua uw SV pV (M:Mx (some g) w uw _) hk hn hd
     have e6:ua.eval (.tmp 6)=.int .i64 (tn:Int):=(show ua.eval (.tmp 6)=_ from hd 6 (by decide)).trans (F40.get (t:=6) rfl)
     exact zg (zc rfl) (.int .i64 (tn:Int)) (zqa _ (.inl rfl) e6) rfl (M.sb)
    ·intro ua uw SV pV (M:Mx (some g) w uw _) hk hn hd
     have e5:ua.eval (.tmp 5)=.pointer (some ⟨g,3*jn,none⟩):=(show ua.eval (.tmp 5)=_ from hd 5 (by decide)).trans (F40.get (t:=5) rfl)
     exact zg (zc rfl) (.pointer (some ⟨g,3*jn,none⟩)) (zqa _ (.inl rfl) e5) rfl (M.sb)
    ·intro ua uw SV pV (M:Mx (some g) w uw _) hk hn hd
     have e41:ua.eval (.tmp 41)=.pointer (some ⟨g,3*jn,none⟩):=zQ1 (hd 41 (by decide))
     exact zg (zc rfl) (.pointer (some ⟨g,3*jn,none⟩)) (by unfold execOp;simp only [e41];kernel_rfl) rfl (M.sb)
    ·intro ua uw SV pV (M:Mx (some g) w uw _) hk hn hd
     have e42:ua.eval (.tmp 42)=.pointer (some ⟨g,3*jn,none⟩):=zQ1 (hd 42 (by decide))
     exact zg (zc rfl) (.pointer (some ⟨g,3*jn,none⟩)) (y_fa (off:=0) rfl e42 (by kernel_rfl) rfl) rfl (M.sb)
    ·intro ua uw SV pV (M:Mx (some g) w uw _) hk hn hd
     have e43:ua.eval (.tmp 43)=.pointer (some ⟨g,3*jn,none⟩):=zQ1 (hd 43 (by decide))
     exact zg (zc rfl) ((sq jn)) (zca _ _ rfl e43 (M.blk (k:=0) rfl) (vlt_s ⟨(setC c tx m jn),fl,lf,dd⟩ sq nq hlt) Tryz.underlying23 rfl) rfl (M.sb)
    ·intro ua uw SV pV (M:Mx (some g) w uw _) hk hn hd
     have e44:ua.eval (.tmp 44)=(sq jn):=zQ1 (hd 44 (by decide))
     exact zg (zc rfl) (.int .i64 (sl.length:Int)) (zya _ rfl e44 (M.isb (k:=51) rfl) rfl) rfl (M.sb)
    ·intro ua uw SV pV (M:Mx (some g) w uw _) hk hn hd
     have e40:ua.eval (.tmp 40)=.int .i64 (tn:Int):=zQ1 (hd 40 (by decide))
     have e45:ua.eval (.tmp 45)=.int .i64 (sl.length:Int):=zQ1 (hd 45 (by decide))
     exact zg (zc rfl) (.int .i64 (km:Int)) (y_min _ _ rfl e40 e45 (by rw [←hkm];split <;> omega)) rfl (M.sb)
    intro p42 a42 w42 M42 G42 y42
    obtain ⟨-,-,-,q3,-,-,-,-,-,-,q10,-⟩:=y42
    have r3:p42 3=(sq jn):=q3
    have r10:p42 10=.int .i64 (km:Int):=q10
    replace M42:Mx _ _ w42 [(51,bytR sl (sq jn)),(50,bytR nl (nq jn)),(1,z3a 0 18 (setC c tx m jn) sq nq),(0,blkR g 80 (vltA ⟨(setC c tx m jn),fl,lf,dd⟩ sq nq))]:=M42
    simp only [List.take,layV,Nat.zero_add,Nat.reduceAdd,r3,r10] at G42
    refine zwc (zc rfl) rfl G42 rfl (y_slFrom _ _ rfl (G42.get (t:=39) rfl) (M42.isb (k:=51) rfl) (G42.get (t:=46) rfl) (i:=km) rfl (by omega)) ?_
    intro v43 a43 h43 F43
    clear G42
    have M43:=M42.partB 60 (k:=51) rfl h43.1 h43.2
    obtain ⟨A43,c43,rfl⟩:=(M43.isb (k:=60) rfl).shape
    refine rm rfl F43 fun _ F44=>hK41 _ _ (zR (rm rfl F44 fun _ F45=>rm rfl F45 fun _ F46=>zd (w':=w42) (zc rfl) rfl F46 rfl (.pointer (some ⟨g,3*jn,none⟩)) (by unfold execOp;simp only [(F46.get (t:=49) rfl)];kernel_rfl) fun _ F47=>?_))
    refine zd (w':=w42) (zc rfl) rfl F47 rfl (.pointer (some ⟨g,3*jn+1,none⟩)) (y_fa (off:=1) rfl (F47.get (t:=50) rfl) (by kernel_rfl) rfl) fun _ F48=>?_
    refine zd (w':=w42) (zc rfl) rfl F48 rfl ((nq jn)) (zca _ _ rfl (F48.get (t:=51) rfl) (M43.blk (k:=0) rfl) (vlt_n ⟨(setC c tx m jn),fl,lf,dd⟩ sq nq hlt) Tryz.underlying23 rfl) fun _ F49=>?_
    refine rm rfl F49 fun _ F50=>zwc (zc rfl) rfl F50 rfl (y_slTo _ _ rfl (F50.get (t:=52) rfl) (M43.isb (k:=50) rfl) (F50.get (t:=53) rfl) (j:=tn) rfl (by omega)) ?_
    intro v51 a51 h51 F51
    have M51:=M43.partB 61 (k:=50) rfl h51.1 h51.2
    obtain ⟨A51,c51,rfl⟩:=(M51.isb (k:=61) rfl).shape
    refine rm rfl F51 fun _ F52=>wl_allocS (zc rfl) rfl F52 rfl M51 62 (t:=23) (c:=#[.slice A51 ((nl.take tn)).length c51,.slice A43 ((sl.drop km)).length c43]) (k:=2) (m:=2) (y_litG 68 23 (s:=1) (zv:=zN) Tryz.underlying68 (by kernel_rfl) (by kernel_rfl) rfl (#[.slice A51 ((nl.take tn)).length c51,.slice A43 ((sl.drop km)).length c43]) (by decide) (by decide) (by simp only [List.map_toArray,List.map_cons,List.map_nil,(F52.get (t:=54) rfl),(F52.get (t:=55) rfl)];kernel_rfl)) ?_
    intro g53 a53 w53 F53 M53
    refine zh (zc rfl) rfl F53 rfl rfl (zE Tryz.func91 rfl) #[.slice (some ⟨g53,0,none⟩) 2 2] (zz (F53.get (t:=56) rfl)) ((concat2 (nl.take tn) (sl.drop km) (.slice (some ⟨g53,0,none⟩) 2 2) (by rw [List.length_take,List.length_drop];omega) w53 (isP2 ⟨_,rfl,M53.blk (k:=62) rfl⟩ (M53.isb (k:=61) rfl) (M53.isb (k:=60) rfl)))) ?_
    rintro v54 w54 a54 h54 F54
    have M54:=M53.newO h54.2 63 h54.1
    clear M53 h54
    obtain ⟨A54,c54,rfl⟩:=(M54.isO (k:=63) rfl).shape
    refine zd (w':=w54) (zc rfl) rfl F54 rfl (.agg (#[.slice A54 (((nl.take tn)++(sl.drop km))).length c54,zN,.bool false])) (by unfold execOp;simp only [List.map_toArray,List.map_cons,List.map_nil,(F54.get (t:=57) rfl)];kernel_rfl) fun _ F55=>?_
    refine zd (w':=w54) (zc rfl) rfl F55 rfl (.pointer (some ⟨g,3*jn,none⟩)) (by unfold execOp;simp only [(F55.get (t:=48) rfl)];kernel_rfl) fun _ F56=>?_
    refine zu (zc rfl) rfl F56 M54 (k:=0) rfl _ _ _ rfl (F56.get (t:=59) rfl) (F56.get (t:=58) rfl) (#[.slice A54 (((nl.take tn)++(sl.drop km))).length c54,zN,.bool false]) (vltA ⟨(putC (setC c tx m jn) jn ⟨((nl.take tn)++(sl.drop km)),[],false⟩),fl,lf,dd⟩ (putN sq jn (.slice A54 (((nl.take tn)++(sl.drop km))).length c54)) (putN nq jn (zN))) rfl (show 3*jn+3≤57 by omega) (by simp [Value.oneCell']) (put_c (setC c tx m jn) fl lf dd sq nq (.slice A54 (((nl.take tn)++(sl.drop km))).length c54) (zN) ((nl.take tn)++(sl.drop km)) [] false hlt) (by kernel_rfl) ?_
    intro w57 M57
    refine hK8 _ _ (zR (zd (w':=w57) (zc rfl) rfl F56 rfl (.int .i64 ((jn+1:Nat):Int)) (zsa _ _ _ _ rfl (F56.get (t:=8) rfl) rfl (by omega) (by omega)) fun _ F58=>?_))
    refine rm rfl F58 fun _ F59=>?_
    have hown:∀ b,bfp (.slice A54 (((nl.take tn)++(sl.drop km))).length c54) b→w.heap.size≤b:=fun b hb=>(M57.own 63 _ rfl rfl b (zpa hb)).resolve_right (fun e=>M57.dis 0 63 _ _ rfl rfl (by decide) rfl b (Option.some.inj e).symm (zpa hb))
    have M60:=M57.rowsPut (i:=1) (k:=63) rfl rfl (fun b _=>Nat.zero_le _) jn rfl
    have hk:setK c m jn<m:=by omega
    have hy0:yt 0=tx (setK c m jn):=hyx 0 hq
    have hsC:setC c tx m (jn+1)=putC (setC c tx m jn) jn ⟨((nl.take tn)++(sl.drop km)),[],false⟩:=by
     rw [setC_in hf hk,←hy0,hnl,htn,tornC,hnl,hsl,←hkm,drop_min]
    have hsK:setK c m (jn+1)=setK c m jn+1:=setK_in hf hk
    subst ek4
    exact hK4 _ ⟨(jn+1),(tlA At ct),(qt-1),(ct-1),(fun i=>yt (i+1)),(putN sq jn (.slice A54 (((nl.take tn)++(sl.drop km))).length c54)),(putN nq jn (zN))⟩ _ _ (by omega) ⟨rfl,⟨by omega,fun b hb=>(rowsfp_put hb).elim (fun h=>hfp b h) (fun h=>.inr (hown b h)),rdI_tl hT1 hq hqc,fun h=>hTg1 (ifp_tl hT1 hq hqc h),by dsimp only;omega,by dsimp only;rw [hsK];omega,fun i hi=>by dsimp only at hi ⊢;rw [hsK,show setK c m jn+1+i=setK c m jn+(i+1) by omega];exact hyx (i+1) (by omega)⟩⟩ (F59.sb) (M60.sub ⟨(by rw [hsC];rfl),(by rw [hsC];rfl),trivial⟩)
   ·have hq:qt=0:=by omega
    refine zd (w':=w4) (zc rfl) rfl F32 rfl (.bool false) (z6b _ _ _ _ rfl (F32.get (t:=22) rfl) rfl (decide_eq_false h33)) fun _ F61=>?_
    refine hK30 _ _ (wp_cond_false (F61.get (t:=23) rfl) (wp_skip (hK29 _ _ (zSk fun _ hK62=>?_))))
    refine zma F61 [fun vE=>vE=.pointer (some ⟨g,3*jn,none⟩),fun vE=>vE=.pointer (some ⟨g,3*jn,none⟩),fun vE=>vE=.pointer (some ⟨g,3*jn,none⟩),fun vE=>vE=(sq jn),fun vE=>vE=.int .i64 0,fun vE=>vE=.pointer (some ⟨g,3*jn,none⟩),fun vE=>vE=.pointer (some ⟨g,3*jn,none⟩),fun vE=>vE=.pointer (some ⟨g,3*jn,none⟩),fun vE=>vE=(sq jn),fun vE=>vE=.int .i64 (sl.length:Int),fun vE=>vE=.int .i64 0] (JM (some g) w fun SV pV=>[(51,bytR sl (sq jn)),(50,bytR nl (nq jn)),(1,z3a 0 18 (setC c tx m jn) sq nq),(0,blkR g 80 (vltA ⟨(setC c tx m jn),fl,lf,dd⟩ sq nq))]) 11 rfl (by kernel_rfl) rfl ⟨trivial,trivial,trivial,trivial,trivial,trivial,trivial,trivial,trivial,trivial,trivial,trivial⟩ (fun p=>(M25.step (zja _)).sub ⟨rfl,rfl,rfl,rfl,trivial⟩) ⟨?_,?_,?_,?_,?_,?_,?_,?_,?_,?_,?_,trivial⟩ ?_
    ·intro ua uw SV pV (M:Mx (some g) w uw _) hk hn hd
     have e5:ua.eval (.tmp 5)=.pointer (some ⟨g,3*jn,none⟩):=(show ua.eval (.tmp 5)=_ from hd 5 (by decide)).trans (F61.get (t:=5) rfl)
     exact zg (zc rfl) (.pointer (some ⟨g,3*jn,none⟩)) (zqa _ (.inl rfl) e5) rfl (M.sb)
    ·intro ua uw SV pV (M:Mx (some g) w uw _) hk hn hd
     have e36:ua.eval (.tmp 36)=.pointer (some ⟨g,3*jn,none⟩):=zQ1 (hd 36 (by decide))
     exact zg (zc rfl) (.pointer (some ⟨g,3*jn,none⟩)) (by unfold execOp;simp only [e36];kernel_rfl) rfl (M.sb)
    ·intro ua uw SV pV (M:Mx (some g) w uw _) hk hn hd
     have e37:ua.eval (.tmp 37)=.pointer (some ⟨g,3*jn,none⟩):=zQ1 (hd 37 (by decide))
     exact zg (zc rfl) (.pointer (some ⟨g,3*jn,none⟩)) (y_fa (off:=0) rfl e37 (by kernel_rfl) rfl) rfl (M.sb)
    ·intro ua uw SV pV (M:Mx (some g) w uw _) hk hn hd
     have e38:ua.eval (.tmp 38)=.pointer (some ⟨g,3*jn,none⟩):=zQ1 (hd 38 (by decide))
     exact zg (zc rfl) ((sq jn)) (zca _ _ rfl e38 (M.blk (k:=0) rfl) (vlt_s ⟨(setC c tx m jn),fl,lf,dd⟩ sq nq hlt) Tryz.underlying23 rfl) rfl (M.sb)
    ·intro ua uw SV pV (M:Mx (some g) w uw _) hk hn hd
     have e6:ua.eval (.tmp 6)=.int .i64 0:=(show ua.eval (.tmp 6)=_ from hd 6 (by decide)).trans (F61.get (t:=6) rfl)
     exact zg (zc rfl) (.int .i64 0) (zqa _ (.inl rfl) e6) rfl (M.sb)
    ·intro ua uw SV pV (M:Mx (some g) w uw _) hk hn hd
     have e5:ua.eval (.tmp 5)=.pointer (some ⟨g,3*jn,none⟩):=(show ua.eval (.tmp 5)=_ from hd 5 (by decide)).trans (F61.get (t:=5) rfl)
     exact zg (zc rfl) (.pointer (some ⟨g,3*jn,none⟩)) (zqa _ (.inl rfl) e5) rfl (M.sb)
    ·intro ua uw SV pV (M:Mx (some g) w uw _) hk hn hd
     have e41:ua.eval (.tmp 41)=.pointer (some ⟨g,3*jn,none⟩):=zQ1 (hd 41 (by decide))
     exact zg (zc rfl) (.pointer (some ⟨g,3*jn,none⟩)) (by unfold execOp;simp only [e41];kernel_rfl) rfl (M.sb)
    ·intro ua uw SV pV (M:Mx (some g) w uw _) hk hn hd
     have e42:ua.eval (.tmp 42)=.pointer (some ⟨g,3*jn,none⟩):=zQ1 (hd 42 (by decide))
     exact zg (zc rfl) (.pointer (some ⟨g,3*jn,none⟩)) (y_fa (off:=0) rfl e42 (by kernel_rfl) rfl) rfl (M.sb)
    ·intro ua uw SV pV (M:Mx (some g) w uw _) hk hn hd
     have e43:ua.eval (.tmp 43)=.pointer (some ⟨g,3*jn,none⟩):=zQ1 (hd 43 (by decide))
     exact zg (zc rfl) ((sq jn)) (zca _ _ rfl e43 (M.blk (k:=0) rfl) (vlt_s ⟨(setC c tx m jn),fl,lf,dd⟩ sq nq hlt) Tryz.underlying23 rfl) rfl (M.sb)
    ·intro ua uw SV pV (M:Mx (some g) w uw _) hk hn hd
     have e44:ua.eval (.tmp 44)=(sq jn):=zQ1 (hd 44 (by decide))
     exact zg (zc rfl) (.int .i64 (sl.length:Int)) (zya _ rfl e44 (M.isb (k:=51) rfl) rfl) rfl (M.sb)
    ·intro ua uw SV pV (M:Mx (some g) w uw _) hk hn hd
     have e40:ua.eval (.tmp 40)=.int .i64 0:=zQ1 (hd 40 (by decide))
     have e45:ua.eval (.tmp 45)=.int .i64 (sl.length:Int):=zQ1 (hd 45 (by decide))
     exact zg (zc rfl) (.int .i64 0) (y_min _ _ rfl e40 e45 (by split <;> omega)) rfl (M.sb)
    intro p63 a63 w63 M63 G63 y63
    obtain ⟨-,-,-,q3,-,-,-,-,-,-,q10,-⟩:=y63
    have r3:p63 3=(sq jn):=q3
    have r10:p63 10=.int .i64 0:=q10
    replace M63:Mx _ _ w63 [(51,bytR sl (sq jn)),(50,bytR nl (nq jn)),(1,z3a 0 18 (setC c tx m jn) sq nq),(0,blkR g 80 (vltA ⟨(setC c tx m jn),fl,lf,dd⟩ sq nq))]:=M63
    simp only [List.take,layV,Nat.zero_add,Nat.reduceAdd,r3,r10] at G63
    refine zwc (zc rfl) rfl G63 rfl (y_slFrom _ _ rfl (G63.get (t:=39) rfl) (M63.isb (k:=51) rfl) (G63.get (t:=46) rfl) (i:=0) rfl (Nat.zero_le _)) ?_
    intro v64 a64 h64 F64
    clear G63
    have M64:=M63.partB 60 (k:=51) rfl h64.1 h64.2
    obtain ⟨A64,c64,rfl⟩:=(M64.isb (k:=60) rfl).shape
    refine rm rfl F64 fun _ F65=>hK62 _ _ (zR (rm rfl F65 fun _ F66=>rm rfl F66 fun _ F67=>zd (w':=w63) (zc rfl) rfl F67 rfl (.pointer (some ⟨g,3*jn,none⟩)) (by unfold execOp;simp only [(F67.get (t:=49) rfl)];kernel_rfl) fun _ F68=>?_))
    refine zd (w':=w63) (zc rfl) rfl F68 rfl (.pointer (some ⟨g,3*jn+1,none⟩)) (y_fa (off:=1) rfl (F68.get (t:=50) rfl) (by kernel_rfl) rfl) fun _ F69=>?_
    refine zd (w':=w63) (zc rfl) rfl F69 rfl ((nq jn)) (zca _ _ rfl (F69.get (t:=51) rfl) (M64.blk (k:=0) rfl) (vlt_n ⟨(setC c tx m jn),fl,lf,dd⟩ sq nq hlt) Tryz.underlying23 rfl) fun _ F70=>?_
    refine rm rfl F70 fun _ F71=>zwc (zc rfl) rfl F71 rfl (y_slTo _ _ rfl (F71.get (t:=52) rfl) (M64.isb (k:=50) rfl) (F71.get (t:=53) rfl) (j:=0) rfl (Nat.zero_le _)) ?_
    intro v72 a72 h72 F72
    have M72:=M64.partB 61 (k:=50) rfl h72.1 h72.2
    obtain ⟨A72,c72,rfl⟩:=(M72.isb (k:=61) rfl).shape
    refine rm rfl F72 fun _ F73=>wl_allocS (zc rfl) rfl F73 rfl M72 62 (t:=23) (c:=#[.slice A72 ((nl.take 0)).length c72,.slice A64 ((sl.drop 0)).length c64]) (k:=2) (m:=2) (y_litG 68 23 (s:=1) (zv:=zN) Tryz.underlying68 (by kernel_rfl) (by kernel_rfl) rfl (#[.slice A72 ((nl.take 0)).length c72,.slice A64 ((sl.drop 0)).length c64]) (by decide) (by decide) (by simp only [List.map_toArray,List.map_cons,List.map_nil,(F73.get (t:=54) rfl),(F73.get (t:=55) rfl)];kernel_rfl)) ?_
    intro g74 a74 w74 F74 M74
    refine zh (zc rfl) rfl F74 rfl rfl (zE Tryz.func91 rfl) #[.slice (some ⟨g74,0,none⟩) 2 2] (zz (F74.get (t:=56) rfl)) ((concat2 (nl.take 0) (sl.drop 0) (.slice (some ⟨g74,0,none⟩) 2 2) (by rw [List.length_take,List.length_drop];omega) w74 (isP2 ⟨_,rfl,M74.blk (k:=62) rfl⟩ (M74.isb (k:=61) rfl) (M74.isb (k:=60) rfl)))) ?_
    rintro v75 w75 a75 h75 F75
    have M75:=M74.newO h75.2 63 h75.1
    clear M74 h75
    obtain ⟨A75,c75,rfl⟩:=(M75.isO (k:=63) rfl).shape
    refine zd (w':=w75) (zc rfl) rfl F75 rfl (.agg (#[.slice A75 (((nl.take 0)++(sl.drop 0))).length c75,zN,.bool false])) (by unfold execOp;simp only [List.map_toArray,List.map_cons,List.map_nil,(F75.get (t:=57) rfl)];kernel_rfl) fun _ F76=>?_
    refine zd (w':=w75) (zc rfl) rfl F76 rfl (.pointer (some ⟨g,3*jn,none⟩)) (by unfold execOp;simp only [(F76.get (t:=48) rfl)];kernel_rfl) fun _ F77=>?_
    refine zu (zc rfl) rfl F77 M75 (k:=0) rfl _ _ _ rfl (F77.get (t:=59) rfl) (F77.get (t:=58) rfl) (#[.slice A75 (((nl.take 0)++(sl.drop 0))).length c75,zN,.bool false]) (vltA ⟨(putC (setC c tx m jn) jn ⟨((nl.take 0)++(sl.drop 0)),[],false⟩),fl,lf,dd⟩ (putN sq jn (.slice A75 (((nl.take 0)++(sl.drop 0))).length c75)) (putN nq jn (zN))) rfl (show 3*jn+3≤57 by omega) (by simp [Value.oneCell']) (put_c (setC c tx m jn) fl lf dd sq nq (.slice A75 (((nl.take 0)++(sl.drop 0))).length c75) (zN) ((nl.take 0)++(sl.drop 0)) [] false hlt) (by kernel_rfl) ?_
    intro w78 M78
    refine hK8 _ _ (zR (zd (w':=w78) (zc rfl) rfl F77 rfl (.int .i64 ((jn+1:Nat):Int)) (zsa _ _ _ _ rfl (F77.get (t:=8) rfl) rfl (by omega) (by omega)) fun _ F79=>?_))
    refine rm rfl F79 fun _ F80=>?_
    have hown:∀ b,bfp (.slice A75 (((nl.take 0)++(sl.drop 0))).length c75) b→w.heap.size≤b:=fun b hb=>(M78.own 63 _ rfl rfl b (zpa hb)).resolve_right (fun e=>M78.dis 0 63 _ _ rfl rfl (by decide) rfl b (Option.some.inj e).symm (zpa hb))
    have M81:=M78.rowsPut (i:=1) (k:=63) rfl rfl (fun b _=>Nat.zero_le _) jn rfl
    have hk:¬setK c m jn<m:=by omega
    have hsC:setC c tx m (jn+1)=putC (setC c tx m jn) jn ⟨((nl.take 0)++(sl.drop 0)),[],false⟩:=by
     rw [setC_out hf hk,tornC,hnl,hsl]
    have hsK:setK c m (jn+1)=setK c m jn:=setK_out hk
    subst ek4
    exact hK4 _ ⟨(jn+1),At,qt,ct,yt,(putN sq jn (.slice A75 (((nl.take 0)++(sl.drop 0))).length c75)),(putN nq jn (zN))⟩ _ _ (by omega) ⟨rfl,⟨by omega,fun b hb=>(rowsfp_put hb).elim (fun h=>hfp b h) (fun h=>.inr (hown b h)),hT1,hTg1,hqc,by rw [hsK];exact hqm,by rw [hsK];exact hyx⟩⟩ (F80.sb) (M81.sub ⟨(by rw [hsC];rfl),(by rw [hsC];rfl),trivial⟩)
 ·obtain rfl:jn=18:=by omega
  refine zT fun _ hK82=>zd (w':=w4) (zc rfl) rfl F4 rfl (.bool false) (zla _ _ _ _ rfl (F4.get (t:=8) rfl) rfl (decide_eq_false (by decide))) fun _ F83=>?_
  refine hK82 _ _ (zSk fun _ hK84=>wp_cond_false (F83.get (t:=9) rfl) (wp_exit ?_))
  simp only [Exit.then,Exit.inBlock,↓reduceIte,Nat.reduceEqDiff]
  refine hK1 _ _ (zT fun _ hK85=>rm rfl F83 fun _ F86=>zh (zc rfl) rfl F86 rfl rfl (zE Tryz.func46 rfl) #[.pointer (some ⟨g,0,none⟩),.int .i64 (-1)] (zia (F86.get (t:=61) rfl) rfl) (dfail_any g (setC c tx m 18) fl lf dd sq nq (-1) w4 (M4.blk (k:=0) rfl)) ?_)
  rintro _ w87 a87 ⟨hc87,hg87⟩ F87
  have M87:=M4.put (k:=0) rfl hg87 (show _=some (Obj.cells (vltA ⟨(setC c tx m 18),false,-1,dd⟩ sq nq) 80 (0,0)) from hc87)
  clear M4 hg87 hc87
  refine hK85 _ _ (zR (zB 3 [(0,.pointer (some ⟨g,0,none⟩)),(8,.int .i64 ((18:Nat):Int)),(1,.slice At qt ct),(65,.pointer (some ⟨g,56,none⟩))] [] dnil [] F87 fun _ F88=>?_))
  refine zu (zc rfl) rfl F88 M87 (k:=0) rfl _ _ _ rfl (F88.get (t:=65) rfl) rfl (#[.bool false]) (vltA ⟨(setC c tx m 18),false,(-1),false⟩ sq nq) rfl (zL rfl) (by simp [Value.oneCell']) (by kernel_rfl) (by kernel_rfl) ?_
  intro w89 M89
  refine wpList_nil ?_
  try simp only [Exit.then,Exit.inBlock,Exit.jump]
  exact bodyPost_end (res0 rfl) F88.defers ⟨_,rfl,sq,nq,M89.rowsV (i:=1) (k:=0) rfl rfl (by decide),hfp,M89.blk (k:=0) rfl,M89.grown⟩
def setlV (V:VltN) (x:Nat→Int) (m:Nat):VltN:=⟨setC V.c x m 18,false,-1,false⟩
theorem tornC_short {c:CelN} {k:Nat} (hk:k≤c.n.length) (h:c.s.length≤1000∧c.n.length≤1000):(tornC c k).s.length≤1000∧(tornC c k).n.length≤1000:=by
 refine ⟨?_,Nat.zero_le _⟩
 show (c.n.take k++c.s.drop k).length≤1000
 rw [List.length_append,List.length_take,List.length_drop]
 omega
theorem setC_all {c:Nat→CelN} {x:Nat→Int} {m:Nat} {p:Nat→CelN→Prop} (h:∀ i,p i (c i)) (ht:∀ i k,(c i).f=true→k≤(c i).n.length→p i (tornC (c i) k)):∀ j i,p i (setC c x m j i)
 | 0,i=>h i
 | j+1,i=>by
  unfold setC
  split
  ·rename_i hf
   by_cases e:i=j
   ·subst e
    rw [z4b]
    split
    ·exact ht i _ hf (tornN_le _ _)
    ·exact ht i _ hf (Nat.zero_le _)
   ·rw [zgc _ _ e]
    exact setC_all h ht j i
  ·exact setC_all h ht j i
theorem setlV_short {V:VltN} (h:z5a V) (x:Nat→Int) (m:Nat):z5a (setlV V x m):=fun i hi=>
 setC_all (p:=fun i c=>i<18→c.s.length≤1000∧c.n.length≤1000) (fun i hi=>h i hi) (fun i k _ hk hi=>tornC_short hk (h i hi)) 18 i hi
theorem settle_is (g:Nat) (V:VltN) (s n:Nat→Value) (A0:Option Addr) (m c0:Nat) (tx:Nat→Int) (hmc:m≤c0) (hv:z5a V) (w:World) (hT:RdI w A0 m tx) (hTg:¬ifp A0 m g) (hr:RowsV w g V.c s n) (hg:w.heap[g]? = some (.cells (vltA V s n) 80 (0,0))):
  Calls Tryz.prog 61 #[.pointer (some ⟨g,0,none⟩),.slice A0 m c0] w fun e w'=>∃ t,e=.returned t∧∃ s' n',RowsV w' g (setlV V tx m).c s' n'∧(∀ b,zr 18 s' n' b→zr 18 s n b∨w.heap.size≤b)∧w'.heap[g]? = some (.cells (vltA (setlV V tx m) s' n') 80 (0,0))∧w.grownBy w' (some g):=by
 obtain ⟨c,fl,lf,dd⟩:=V
 exact settle_any g c fl lf dd s n A0 m c0 tx hmc hv w hT hTg hr hg
theorem vagain_any (g:Nat) (V:VltN) (s n:Nat→Value) (hv:z5a V) (A0:Option Addr) (m c0:Nat) (tx:Nat→Int) (hmc:m≤c0) (hb:-9223372036854775808≤zmc (setlV V tx m) 16∧zmc (setlV V tx m) 16<9223372036854775807) (ht:anyB zq (setlV V tx m) 16=true → -9223372036854775808≤cntT (setlV V tx m) 16∧cntT (setlV V tx m) 16<9223372036854775807) (w:World) (hT:RdI w A0 m tx) (hTg:¬ifp A0 m g) (hr:RowsV w g V.c s n) (hg:w.heap[g]? = some (.cells (vltA V s n) 80 (0,0))):
  Calls Tryz.prog 30 #[.pointer (some ⟨g,0,none⟩),.slice A0 m c0] w fun e w'=>∃ t,e=.returned t∧∃ s' n',RowsV w' g (ageW (setlV V tx m)).c s' n'∧(∀ b,zr 18 s' n' b→zr 18 s n b∨w.heap.size≤b)∧w'.heap[g]? = some (.cells (vltA (ageW (setlV V tx m)) s' n') 80 (0,0))∧w.grownBy w' (some g):=by
 obtain ⟨VS,hVS⟩:∃ x,setlV V tx m=x:=⟨_,rfl⟩
 have hvs:z5a VS:=by rw [←hVS];exact setlV_short hv tx m
 rw [hVS] at hb ht ⊢
 refine zk (args:=[.pointer (some ⟨g,0,none⟩),.slice A0 m c0]) 11 Tryz.func30 rfl rfl rfl ?_
 intro fa F
 have M:=Mx.theG hg 0
 refine zT fun _ hK1=>zB 4 [(0,.pointer (some ⟨g,0,none⟩)),(6,.pointer (some ⟨g,0,none⟩)),(7,.slice A0 m c0)] [] dnil [] F fun _ F2=>?_
 refine zh (zc rfl) rfl F2 rfl rfl (zE Tryz.func61 rfl) #[.pointer (some ⟨g,0,none⟩),.slice A0 m c0] (zia (F2.get (t:=6) rfl) (F2.get (t:=7) rfl)) (settle_is g V s n A0 m c0 tx hmc hv w (hT.grow M.grown hTg) hTg (hr.grow M.grown) (M.blk (k:=0) rfl)) ?_
 rintro _ w3 a3 ⟨s3,n3,hr3,ht3,hc3,hg3⟩ F3
 rw [hVS] at hr3 hc3
 have M3:=M.put (k:=0) rfl hg3 hc3
 refine hK1 _ _ (zR (rm rfl F3 fun _ F4=>zh (zc rfl) rfl F4 rfl rfl (zE Tryz.func39 rfl) #[.pointer (some ⟨g,0,none⟩)] (zz (F4.get (t:=9) rfl)) (age_any g VS s3 n3 hvs hb ht w3 hr3 (M3.blk (k:=0) rfl)) ?_))
 rintro _ w5 a5 ⟨s5,n5,hr5,ht5,hc5,hg5⟩ F5
 have M5:=M3.put (k:=0) rfl hg5 hc5
 refine wpList_nil ?_
 try simp only [Exit.then,Exit.inBlock,Exit.jump]
 exact bodyPost_end (res0 rfl) F5.defers ⟨_,rfl,s5,n5,hr5,(fun b hb=>(ht5 b hb).elim (fun h=>(ht3 b h).imp id (fun h=>Nat.le_trans M.le h)) (fun h=>.inr (Nat.le_trans M3.le h))),hc5,M3.grown.trans hg5⟩
theorem find_yes (g:Nat) (V:VltN) (s n:Nat→Value) (hv:z5a V) (nm:ByteArray) (k:Nat) (hk:fst8 (zea V nm)=k) (h8:k<8) (w:World) (h:HasV w g V s n):Calls Tryz.prog 49 #[.pointer (some ⟨g,0,none⟩),.string nm] w fun e w'=>e=.returned (.tuple #[.agg #[.int .i64 ((2*k:Nat):Int),.func (.func 105) #[] #[]],.bool true])∧Below w.heap.size w w':=
 (find_any g V s n hv nm w h).mono fun e w' ⟨t,h1,h2,h3⟩=>⟨by
  rcases h2 with ⟨k',q1,q2,q3⟩ | ⟨q1,q2⟩
  ·rw [hk] at q2;subst q2;rw [h1,q3]
  ·omega,h3⟩
theorem find_not (g:Nat) (V:VltN) (s n:Nat→Value) (hv:z5a V) (nm:ByteArray) (hk:fst8 (zea V nm)=8) (w:World) (h:HasV w g V s n):Calls Tryz.prog 49 #[.pointer (some ⟨g,0,none⟩),.string nm] w fun e w'=>e=.returned (.tuple #[.agg #[.int .i64 0,.nilFunc],.bool false])∧Below w.heap.size w w':=
 (find_any g V s n hv nm w h).mono fun e w' ⟨t,h1,h2,h3⟩=>⟨by
  rcases h2 with ⟨k',q1,q2,q3⟩ | ⟨q1,q2⟩
  ·omega
  ·rw [h1,q2],h3⟩
theorem free_yes (g:Nat) (V:VltN) (s n:Nat→Value) (hv:z5a V) (k:Nat) (hk:fst8 (fun i=>zwa V (2*i))=k) (h8:k<8) (w:World) (h:HasV w g V s n):Calls Tryz.prog 50 #[.pointer (some ⟨g,0,none⟩)] w fun e w'=>e=.returned (.tuple #[.agg #[.int .i64 ((2*k:Nat):Int),.func (.func 105) #[] #[]],.bool true])∧Below w.heap.size w w':=
 (free_any g V s n hv w h).mono fun e w' ⟨t,h1,h2,h3⟩=>⟨by
  rcases h2 with ⟨k',q1,q2,q3⟩ | ⟨q1,q2⟩
  ·rw [hk] at q2;subst q2;rw [h1,q3]
  ·omega,h3⟩
theorem free_not (g:Nat) (V:VltN) (s n:Nat→Value) (hv:z5a V) (hk:fst8 (fun i=>zwa V (2*i))=8) (w:World) (h:HasV w g V s n):Calls Tryz.prog 50 #[.pointer (some ⟨g,0,none⟩)] w fun e w'=>e=.returned (.tuple #[.agg #[.int .i64 0,.nilFunc],.bool false])∧Below w.heap.size w w':=
 (free_any g V s n hv w h).mono fun e w' ⟨t,h1,h2,h3⟩=>⟨by
  rcases h2 with ⟨k',q1,q2,q3⟩ | ⟨q1,q2⟩
  ·omega
  ·rw [h1,q2],h3⟩
theorem gone_dead (g:Nat) (V:VltN) (s n:Nat→Value) (hv:z5a V) (nm:ByteArray) (hd:V.dd=true) (w:World) (hr:RowsV w g V.c s n) (hg:w.heap[g]? = some (.cells (vltA V s n) 80 (0,0))):
  Calls Tryz.prog 27 #[.pointer (some ⟨g,0,none⟩),.string nm] w fun e w'=>∃ t,e=.returned t∧t=.int .i64 10∧∃ s' n',RowsV w' g (V).c s' n'∧(∀ b,zr 18 s' n' b→zr 18 s n b∨w.heap.size≤b)∧w'.heap[g]? = some (.cells (vltA (V) s' n') 80 (0,0))∧w.grownBy w' (some g):=by
 refine zk (args:=[.pointer (some ⟨g,0,none⟩),.string nm]) 23 Tryz.func27 rfl rfl rfl ?_
 intro fa F
 have M:=Mx.theG hg 0
 refine zT fun _ hK1=>rm rfl F fun _ F2=>hK1 _ _ (zSk fun _ hK3=>zT fun _ hK4=>zB 4 [(0,.pointer (some ⟨g,0,none⟩)),(1,.string nm),(4,.int .i64 0),(10,.pointer (some ⟨g,56,none⟩))] [] dnil [] F2 fun _ F5=>?_)
 refine zd (w':=w) (zc rfl) rfl F5 rfl (.bool true) (zca _ _ rfl (F5.get (t:=10) rfl) (M.blk (k:=0) rfl) (show _=some (Value.bool _) from by rw [←hd];rfl) Tryz.underlying4 rfl) fun _ F6=>?_
 refine hK4 _ _ (wp_cond_true (F6.get (t:=11) rfl) (zT fun _ hK7=>rm rfl F6 fun _ F8=>hK7 _ _ (wp_ret ?_)))
 try simp only [Exit.then,Exit.inBlock,Exit.jump]
 exact bodyPost_ret (res1 rfl (F8.get rfl)) F8.defers ⟨_,rfl,rfl,s,n,hr.grow M.grown,fun b h=>.inl h,M.blk (k:=0) rfl,M.grown⟩
theorem gone_not (g:Nat) (V:VltN) (s n:Nat→Value) (hv:z5a V) (nm:ByteArray) (hd:V.dd=false) (hk:fst8 (zea V nm)=8) (w:World) (hr:RowsV w g V.c s n) (hg:w.heap[g]? = some (.cells (vltA V s n) 80 (0,0))):
  Calls Tryz.prog 27 #[.pointer (some ⟨g,0,none⟩),.string nm] w fun e w'=>∃ t,e=.returned t∧t=.int .i64 3∧∃ s' n',RowsV w' g (V).c s' n'∧(∀ b,zr 18 s' n' b→zr 18 s n b∨w.heap.size≤b)∧w'.heap[g]? = some (.cells (vltA (V) s' n') 80 (0,0))∧w.grownBy w' (some g):=by
 refine zk (args:=[.pointer (some ⟨g,0,none⟩),.string nm]) 23 Tryz.func27 rfl rfl rfl ?_
 intro fa F
 have M:=Mx.theG hg 0
 refine zT fun _ hK1=>rm rfl F fun _ F2=>hK1 _ _ (zSk fun _ hK3=>zT fun _ hK4=>zB 4 [(0,.pointer (some ⟨g,0,none⟩)),(1,.string nm),(4,.int .i64 0),(10,.pointer (some ⟨g,56,none⟩))] [] dnil [] F2 fun _ F5=>?_)
 refine zd (w':=w) (zc rfl) rfl F5 rfl (.bool false) (zca _ _ rfl (F5.get (t:=10) rfl) (M.blk (k:=0) rfl) (show _=some (Value.bool _) from by rw [←hd];rfl) Tryz.underlying4 rfl) fun _ F6=>?_
 refine hK4 _ _ (wp_cond_false (F6.get (t:=11) rfl) (wp_skip (hK3 _ _ (zT fun _ hK7=>rm rfl F6 fun _ F8=>rm rfl F8 fun _ F9=>zh (zc rfl) rfl F9 rfl rfl (zE Tryz.func49 rfl) #[.pointer (some ⟨g,0,none⟩),.string nm] (zia (F9.get (t:=13) rfl) (F9.get (t:=14) rfl)) (zba ((find_not g V s n hv nm hk w (HasV.of (M.blk (k:=0) rfl) (hr.grow M.grown))))) ?_))))
 rintro _ w10 a10 ⟨rfl,b10⟩ F10
 have M10:=M.step b10
 refine zB 3 [(0,.pointer (some ⟨g,0,none⟩)),(4,.int .i64 0),(16,.agg (#[.int .i64 0,.nilFunc])),(17,.bool false)] [] dnil [] F10 fun _ F11=>?_
 refine zp (zc rfl) rfl F11 rfl M10 1 (t:=87) (c:=#[.int .i64 0,.nilFunc]) (by unfold execOp;kernel_rfl) ?_
 intro g12 a12 w12 F12 M12
 refine zu (zc rfl) rfl F12 M12 (k:=1) rfl _ _ _ rfl (F12.get (t:=5) rfl) (F12.get (t:=16) rfl) (#[.int .i64 0,.nilFunc]) _ rfl (zL rfl) (by first | rfl | simp [Value.oneCell']) (zaa rfl) (by kernel_rfl) ?_
 intro w13 M13
 refine rm rfl F12 fun _ F14=>hK7 _ _ (zSk fun _ hK15=>zT fun _ hK16=>zAx 2 [(18,.bool false),(19,.bool true)] [] dnil [] F14 fun _ F17=>?_)
 refine hK16 _ _ (wp_cond_true (F17.get (t:=19) rfl) (zT fun _ hK18=>rm rfl F17 fun _ F19=>hK18 _ _ (wp_ret ?_)))
 try simp only [Exit.then,Exit.inBlock,Exit.jump]
 exact bodyPost_ret (res1 rfl (F19.get rfl)) F19.defers ⟨_,rfl,rfl,s,n,hr.grow M13.grown,fun b h=>.inl h,M13.blk (k:=0) rfl,M13.grown⟩
theorem gone_yes (g:Nat) (V:VltN) (s n:Nat→Value) (hv:z5a V) (nm:ByteArray) (hd:V.dd=false) (k:Nat) (hk:fst8 (zea V nm)=k) (h8:k<8) (ht:anyB zq V (2*k)=true → -9223372036854775808≤cntT V (2*k)∧cntT V (2*k)<9223372036854775807) (w:World) (hr:RowsV w g V.c s n) (hg:w.heap[g]? = some (.cells (vltA V s n) 80 (0,0))):
  Calls Tryz.prog 27 #[.pointer (some ⟨g,0,none⟩),.string nm] w fun e w'=>∃ t,e=.returned t∧t=.int .i64 (if (sayW V (2*k) []).2=true then 0 else 10)∧∃ s' n',RowsV w' g ((sayW V (2*k) []).1).c s' n'∧(∀ b,zr 18 s' n' b→zr 18 s n b∨w.heap.size≤b)∧w'.heap[g]? = some (.cells (vltA ((sayW V (2*k) []).1) s' n') 80 (0,0))∧w.grownBy w' (some g):=by
 refine zk (args:=[.pointer (some ⟨g,0,none⟩),.string nm]) 23 Tryz.func27 rfl rfl rfl ?_
 intro fa F
 have M:=Mx.theG hg 0
 refine zT fun _ hK1=>rm rfl F fun _ F2=>hK1 _ _ (zSk fun _ hK3=>zT fun _ hK4=>zB 4 [(0,.pointer (some ⟨g,0,none⟩)),(1,.string nm),(4,.int .i64 0),(10,.pointer (some ⟨g,56,none⟩))] [] dnil [] F2 fun _ F5=>?_)
 refine zd (w':=w) (zc rfl) rfl F5 rfl (.bool false) (zca _ _ rfl (F5.get (t:=10) rfl) (M.blk (k:=0) rfl) (show _=some (Value.bool _) from by rw [←hd];rfl) Tryz.underlying4 rfl) fun _ F6=>?_
 refine hK4 _ _ (wp_cond_false (F6.get (t:=11) rfl) (wp_skip (hK3 _ _ (zT fun _ hK7=>rm rfl F6 fun _ F8=>rm rfl F8 fun _ F9=>zh (zc rfl) rfl F9 rfl rfl (zE Tryz.func49 rfl) #[.pointer (some ⟨g,0,none⟩),.string nm] (zia (F9.get (t:=13) rfl) (F9.get (t:=14) rfl)) (zba ((find_yes g V s n hv nm k hk h8 w (HasV.of (M.blk (k:=0) rfl) (hr.grow M.grown))))) ?_))))
 rintro _ w10 a10 ⟨rfl,b10⟩ F10
 have M10:=M.step b10
 refine zB 3 [(0,.pointer (some ⟨g,0,none⟩)),(4,.int .i64 0),(16,.agg (#[.int .i64 ((2*k:Nat):Int),.func (.func 105) #[] #[]])),(17,.bool true)] [] dnil [] F10 fun _ F11=>?_
 refine zp (zc rfl) rfl F11 rfl M10 1 (t:=87) (c:=#[.int .i64 0,.nilFunc]) (by unfold execOp;kernel_rfl) ?_
 intro g12 a12 w12 F12 M12
 refine zu (zc rfl) rfl F12 M12 (k:=1) rfl _ _ _ rfl (F12.get (t:=5) rfl) (F12.get (t:=16) rfl) (#[.int .i64 ((2*k:Nat):Int),.func (.func 105) #[] #[]]) _ rfl (zL rfl) (by first | rfl | simp [Value.oneCell']) (zaa rfl) (by kernel_rfl) ?_
 intro w13 M13
 refine rm rfl F12 fun _ F14=>hK7 _ _ (zSk fun _ hK15=>zT fun _ hK16=>zAx 2 [(18,.bool true),(19,.bool false)] [] dnil [] F14 fun _ F17=>?_)
 refine hK16 _ _ (wp_cond_false (F17.get (t:=19) rfl) (wp_skip (hK15 _ _ (zT fun _ hK18=>rm rfl F17 fun _ F19=>zd (w':=w13) (zc rfl) rfl F19 rfl _ (zbb _ _ rfl (F19.get (t:=5) rfl) (M13.blk (k:=1) rfl) (#[.int .i64 ((2*k:Nat):Int),.func (.func 105) #[] #[]]) (zcb rfl) Tryz.underlying87 rfl (by kernel_rfl)) fun _ F20=>?_))))
 refine zh (zc rfl) rfl F20 rfl rfl (zE Tryz.func51 rfl) #[.pointer (some ⟨g,0,none⟩),.agg (#[.int .i64 ((2*k:Nat):Int),.func (.func 105) #[] #[]]),zN] (args3 (F20.get (t:=20) rfl) (F20.get (t:=21) rfl) rfl) (vwrite_any g V s n hv k h8 [] (zN) (Nat.zero_le _) ht w13 (zta _) (zxa _) (hr.grow M13.grown) (M13.blk (k:=0) rfl)) ?_
 rintro _ w21 a21 ⟨rfl,s21,n21,hr21,ht21,hc21,hg21⟩ F21
 have M21:=M13.put (k:=0) rfl hg21 hc21
 refine rm rfl F21 fun _ F22=>hK18 _ _ (wp_ret ?_)
 try simp only [Exit.then,Exit.inBlock,Exit.jump]
 exact bodyPost_ret (res1 rfl (F22.get rfl)) F22.defers ⟨_,rfl,rfl,s21,n21,hr21,(fun b hb=>(ht21 b hb).imp id (fun hb=>Nat.le_trans M13.le hb)),hc21,M13.grown.trans hg21⟩
theorem put_dead (g:Nat) (V:VltN) (s n:Nat→Value) (hv:z5a V) (r:RecN) (Vr:RecV) (hd:V.dd=true) (w:World) (hR:RecIs w r Vr) (hRg:¬bfp Vr.v2 g∧¬bfp Vr.v5 g) (hr:RowsV w g V.c s n) (hg:w.heap[g]? = some (.cells (vltA V s n) 80 (0,0))):
  Calls Tryz.prog 22 #[.pointer (some ⟨g,0,none⟩),.agg (recA r Vr)] w fun e w'=>∃ t,e=.returned t∧t=.int .i64 10∧∃ s' n',RowsV w' g (V).c s' n'∧(∀ b,zr 18 s' n' b→zr 18 s n b∨w.heap.size≤b)∧w'.heap[g]? = some (.cells (vltA (V) s' n') 80 (0,0))∧w.grownBy w' (some g):=by
 skip
 refine zk (args:=[.pointer (some ⟨g,0,none⟩),.agg (recA r Vr)]) 40 Tryz.func22 rfl rfl rfl ?_
 intro fa F
 have M:=Mx.theG hg 0
 refine zT fun _ hK1=>zp (zc rfl) rfl F rfl M 1 (t:=37) (c:=recA r Vr) (by unfold execOp;simp only [(F.get (t:=1) rfl)];kernel_rfl) ?_
 intro g2 a2 w2 F2 M2
 refine rm rfl F2 fun _ F3=>hK1 _ _ (zSk fun _ hK4=>zT fun _ hK5=>zB 4 [(0,.pointer (some ⟨g,0,none⟩)),(3,.pointer (some ⟨g2,0,none⟩)),(4,.int .i64 0),(11,.pointer (some ⟨g,56,none⟩))] [] dnil [] F3 fun _ F6=>?_)
 refine zd (w':=w2) (zc rfl) rfl F6 rfl (.bool true) (zca _ _ rfl (F6.get (t:=11) rfl) (M2.blk (k:=0) rfl) (show _=some (Value.bool _) from by rw [←hd];rfl) Tryz.underlying4 rfl) fun _ F7=>?_
 refine hK5 _ _ (wp_cond_true (F7.get (t:=12) rfl) (zT fun _ hK8=>rm rfl F7 fun _ F9=>hK8 _ _ (wp_ret ?_)))
 try simp only [Exit.then,Exit.inBlock,Exit.jump]
 exact bodyPost_ret (res1 rfl (F9.get rfl)) F9.defers ⟨_,rfl,rfl,s,n,hr.grow M2.grown,fun b h=>.inl h,M2.blk (k:=0) rfl,M2.grown⟩
theorem put_range (g:Nat) (V:VltN) (s n:Nat→Value) (hv:z5a V) (r:RecN) (Vr:RecV) (ho:RecOk r) (hd:V.dd=false) (l:List UInt8) (hrl:recE r=l) (hkeep:zda r=false) (w:World) (hR:RecIs w r Vr) (hRg:¬bfp Vr.v2 g∧¬bfp Vr.v5 g) (hr:RowsV w g V.c s n) (hg:w.heap[g]? = some (.cells (vltA V s n) 80 (0,0))):
  Calls Tryz.prog 22 #[.pointer (some ⟨g,0,none⟩),.agg (recA r Vr)] w fun e w'=>∃ t,e=.returned t∧t=.int .i64 11∧∃ s' n',RowsV w' g (V).c s' n'∧(∀ b,zr 18 s' n' b→zr 18 s n b∨w.heap.size≤b)∧w'.heap[g]? = some (.cells (vltA (V) s' n') 80 (0,0))∧w.grownBy w' (some g):=by
 skip
 refine zk (args:=[.pointer (some ⟨g,0,none⟩),.agg (recA r Vr)]) 40 Tryz.func22 rfl rfl rfl ?_
 intro fa F
 have M:=Mx.theG hg 0
 have hkp:zda r=false:=hkeep
 refine zT fun _ hK1=>zp (zc rfl) rfl F rfl M 1 (t:=37) (c:=recA r Vr) (by unfold execOp;simp only [(F.get (t:=1) rfl)];kernel_rfl) ?_
 intro g2 a2 w2 F2 M2
 refine rm rfl F2 fun _ F3=>hK1 _ _ (zSk fun _ hK4=>zT fun _ hK5=>zB 4 [(0,.pointer (some ⟨g,0,none⟩)),(3,.pointer (some ⟨g2,0,none⟩)),(4,.int .i64 0),(11,.pointer (some ⟨g,56,none⟩))] [] dnil [] F3 fun _ F6=>?_)
 refine zd (w':=w2) (zc rfl) rfl F6 rfl (.bool false) (zca _ _ rfl (F6.get (t:=11) rfl) (M2.blk (k:=0) rfl) (show _=some (Value.bool _) from by rw [←hd];rfl) Tryz.underlying4 rfl) fun _ F7=>?_
 refine hK5 _ _ (wp_cond_false (F7.get (t:=12) rfl) (wp_skip (hK4 _ _ (zT fun _ hK8=>zd (w':=w2) (zc rfl) rfl F7 rfl _ (zbb _ _ rfl (F7.get (t:=3) rfl) (M2.blk (k:=1) rfl) (recA r Vr) (zcb rfl) Tryz.underlying37 rfl (by kernel_rfl)) fun _ F9=>?_))))
 refine zh (zc rfl) rfl F9 rfl rfl (zE Tryz.func48 rfl) #[.agg (recA r Vr)] (zz (F9.get (t:=14) rfl)) (rec_is r Vr ho false l hkp hrl w2 ⟨hR.h2.grow M2.grown hRg.1,hR.h5.grow M2.grown hRg.2⟩) ?_
 rintro _ w10 a10 ⟨v10,rfl,hv10,b10⟩ F10
 have M10:=M2.newO b10 2 hv10
 clear M2 b10 hv10
 obtain ⟨A10,c10,rfl⟩:=(M10.isO (k:=2) rfl).shape
 refine zB 5 [(0,.pointer (some ⟨g,0,none⟩)),(3,.pointer (some ⟨g2,0,none⟩)),(4,.int .i64 0),(5,.slice A10 (l).length c10),(6,.bool false)] [] dnil [] F10 fun _ F11=>?_
 refine hK8 _ _ (zSk fun _ hK12=>zT fun _ hK13=>zAx 2 [(18,.bool false),(19,.bool true)] [] dnil [] F11 fun _ F14=>?_)
 refine hK13 _ _ (wp_cond_true (F14.get (t:=19) rfl) (zT fun _ hK15=>rm rfl F14 fun _ F16=>hK15 _ _ (wp_ret ?_)))
 try simp only [Exit.then,Exit.inBlock,Exit.jump]
 exact bodyPost_ret (res1 rfl (F16.get rfl)) F16.defers ⟨_,rfl,rfl,s,n,hr.grow M10.grown,fun b h=>.inl h,M10.blk (k:=0) rfl,M10.grown⟩
theorem put_found (g:Nat) (V:VltN) (s n:Nat→Value) (hv:z5a V) (r:RecN) (Vr:RecV) (ho:RecOk r) (hd:V.dd=false) (l:List UInt8) (hrl:recE r=l) (hkeep:zda r=true) (hll:l.length≤1000) (k:Nat) (hk:fst8 (zea V r.s)=k) (h8:k<8) (ht:anyB zq V (2*k)=true → -9223372036854775808≤cntT V (2*k)∧cntT V (2*k)<9223372036854775807) (w:World) (hR:RecIs w r Vr) (hRg:¬bfp Vr.v2 g∧¬bfp Vr.v5 g) (hr:RowsV w g V.c s n) (hg:w.heap[g]? = some (.cells (vltA V s n) 80 (0,0))):
  Calls Tryz.prog 22 #[.pointer (some ⟨g,0,none⟩),.agg (recA r Vr)] w fun e w'=>∃ t,e=.returned t∧t=.int .i64 (if (sayW V (2*k) l).2=true then 0 else 10)∧∃ s' n',RowsV w' g ((sayW V (2*k) l).1).c s' n'∧(∀ b,zr 18 s' n' b→zr 18 s n b∨w.heap.size≤b)∧w'.heap[g]? = some (.cells (vltA ((sayW V (2*k) l).1) s' n') 80 (0,0))∧w.grownBy w' (some g):=by
 skip
 refine zk (args:=[.pointer (some ⟨g,0,none⟩),.agg (recA r Vr)]) 40 Tryz.func22 rfl rfl rfl ?_
 intro fa F
 have M:=Mx.theG hg 0
 have hkp:zda r=true:=hkeep
 refine zT fun _ hK1=>zp (zc rfl) rfl F rfl M 1 (t:=37) (c:=recA r Vr) (by unfold execOp;simp only [(F.get (t:=1) rfl)];kernel_rfl) ?_
 intro g2 a2 w2 F2 M2
 refine rm rfl F2 fun _ F3=>hK1 _ _ (zSk fun _ hK4=>zT fun _ hK5=>zB 4 [(0,.pointer (some ⟨g,0,none⟩)),(3,.pointer (some ⟨g2,0,none⟩)),(4,.int .i64 0),(11,.pointer (some ⟨g,56,none⟩))] [] dnil [] F3 fun _ F6=>?_)
 refine zd (w':=w2) (zc rfl) rfl F6 rfl (.bool false) (zca _ _ rfl (F6.get (t:=11) rfl) (M2.blk (k:=0) rfl) (show _=some (Value.bool _) from by rw [←hd];rfl) Tryz.underlying4 rfl) fun _ F7=>?_
 refine hK5 _ _ (wp_cond_false (F7.get (t:=12) rfl) (wp_skip (hK4 _ _ (zT fun _ hK8=>zd (w':=w2) (zc rfl) rfl F7 rfl _ (zbb _ _ rfl (F7.get (t:=3) rfl) (M2.blk (k:=1) rfl) (recA r Vr) (zcb rfl) Tryz.underlying37 rfl (by kernel_rfl)) fun _ F9=>?_))))
 refine zh (zc rfl) rfl F9 rfl rfl (zE Tryz.func48 rfl) #[.agg (recA r Vr)] (zz (F9.get (t:=14) rfl)) (rec_is r Vr ho true l hkp hrl w2 ⟨hR.h2.grow M2.grown hRg.1,hR.h5.grow M2.grown hRg.2⟩) ?_
 rintro _ w10 a10 ⟨v10,rfl,hv10,b10⟩ F10
 have M10:=M2.newO b10 2 hv10
 clear M2 b10 hv10
 obtain ⟨A10,c10,rfl⟩:=(M10.isO (k:=2) rfl).shape
 refine zB 5 [(0,.pointer (some ⟨g,0,none⟩)),(3,.pointer (some ⟨g2,0,none⟩)),(4,.int .i64 0),(5,.slice A10 (l).length c10),(6,.bool true)] [] dnil [] F10 fun _ F11=>?_
 refine hK8 _ _ (zSk fun _ hK12=>zT fun _ hK13=>zAx 2 [(18,.bool true),(19,.bool false)] [] dnil [] F11 fun _ F14=>?_)
 refine hK13 _ _ (wp_cond_false (F14.get (t:=19) rfl) (wp_skip (hK12 _ _ (zT fun _ hK15=>zAx 3 [(21,.pointer (some ⟨g,0,none⟩)),(22,.pointer (some ⟨g2,1,none⟩)),(23,.string r.s)] [0] (zx (M10.blk (k:=1) rfl) dnil) [g2] F14 fun _ F16=>?_))))
 refine zh (zc rfl) rfl F16 rfl rfl (zE Tryz.func49 rfl) #[.pointer (some ⟨g,0,none⟩),.string r.s] (zia (F16.get (t:=21) rfl) (F16.get (t:=23) rfl)) (zba ((find_yes g V s n hv r.s k hk h8 w10 (HasV.of (M10.blk (k:=0) rfl) (hr.grow M10.grown))))) ?_
 rintro _ w17 a17 ⟨rfl,b17⟩ F17
 have M17:=M10.step b17
 refine rm rfl F17 fun _ F18=>zAx 2 [(25,.agg (#[.int .i64 ((2*k:Nat):Int),.func (.func 105) #[] #[]])),(26,.bool true)] [] dnil [] F18 fun _ F19=>?_
 refine zp (zc rfl) rfl F19 rfl M17 3 (t:=87) (c:=#[.int .i64 0,.nilFunc]) (by unfold execOp;kernel_rfl) ?_
 intro g20 a20 w20 F20 M20
 refine zu (zc rfl) rfl F20 M20 (k:=3) rfl _ _ _ rfl (F20.get (t:=7) rfl) (F20.get (t:=25) rfl) (#[.int .i64 ((2*k:Nat):Int),.func (.func 105) #[] #[]]) _ rfl (zL rfl) (by first | rfl | simp [Value.oneCell']) (zaa rfl) (by kernel_rfl) ?_
 intro w21 M21
 refine rm rfl F20 fun _ F22=>hK15 _ _ (zSk fun _ hK23=>zT fun _ hK24=>zAx 2 [(27,.bool true),(28,.bool false)] [] dnil [] F22 fun _ F25=>?_)
 refine hK24 _ _ (wp_cond_false (F25.get (t:=28) rfl) (wp_skip (hK23 _ _ (zSk fun _ hK26=>zT fun _ hK27=>zAx 2 [(34,.bool true),(35,.bool false)] [] dnil [] F25 fun _ F28=>?_))))
 refine hK27 _ _ (wp_cond_false (F28.get (t:=35) rfl) (wp_skip (hK26 _ _ (zT fun _ hK29=>rm rfl F28 fun _ F30=>zd (w':=w21) (zc rfl) rfl F30 rfl _ (zbb _ _ rfl (F30.get (t:=7) rfl) (M21.blk (k:=3) rfl) (#[.int .i64 ((2*k:Nat):Int),.func (.func 105) #[] #[]]) (zcb rfl) Tryz.underlying87 rfl (by kernel_rfl)) fun _ F31=>?_))))
 refine rm rfl F31 fun _ F32=>zh (zc rfl) rfl F32 rfl rfl (zE Tryz.func51 rfl) #[.pointer (some ⟨g,0,none⟩),.agg (#[.int .i64 ((2*k:Nat):Int),.func (.func 105) #[] #[]]),.slice A10 (l).length c10] (args3 (F32.get (t:=36) rfl) (F32.get (t:=37) rfl) (F32.get (t:=38) rfl)) (vwrite_any g V s n hv k h8 l (.slice A10 (l).length c10) hll ht w21 (M21.isO (k:=2) rfl) (fun h=>M21.dis 0 2 _ _ rfl rfl (by decide) rfl g rfl (zpa h)) (hr.grow M21.grown) (M21.blk (k:=0) rfl)) ?_
 rintro _ w33 a33 ⟨rfl,s33,n33,hr33,ht33,hc33,hg33⟩ F33
 have M33:=M21.put (k:=0) rfl hg33 hc33
 refine rm rfl F33 fun _ F34=>hK29 _ _ (wp_ret ?_)
 try simp only [Exit.then,Exit.inBlock,Exit.jump]
 exact bodyPost_ret (res1 rfl (F34.get rfl)) F34.defers ⟨_,rfl,rfl,s33,n33,hr33,(fun b hb=>(ht33 b hb).imp id (fun hb=>Nat.le_trans M21.le hb)),hc33,M21.grown.trans hg33⟩
theorem put_none (g:Nat) (V:VltN) (s n:Nat→Value) (hv:z5a V) (r:RecN) (Vr:RecV) (ho:RecOk r) (hd:V.dd=false) (l:List UInt8) (hrl:recE r=l) (hkeep:zda r=true) (hk:fst8 (zea V r.s)=8) (hf:fst8 (fun i=>zwa V (2*i))=8) (w:World) (hR:RecIs w r Vr) (hRg:¬bfp Vr.v2 g∧¬bfp Vr.v5 g) (hr:RowsV w g V.c s n) (hg:w.heap[g]? = some (.cells (vltA V s n) 80 (0,0))):
  Calls Tryz.prog 22 #[.pointer (some ⟨g,0,none⟩),.agg (recA r Vr)] w fun e w'=>∃ t,e=.returned t∧t=.int .i64 7∧∃ s' n',RowsV w' g (V).c s' n'∧(∀ b,zr 18 s' n' b→zr 18 s n b∨w.heap.size≤b)∧w'.heap[g]? = some (.cells (vltA (V) s' n') 80 (0,0))∧w.grownBy w' (some g):=by
 skip
 refine zk (args:=[.pointer (some ⟨g,0,none⟩),.agg (recA r Vr)]) 40 Tryz.func22 rfl rfl rfl ?_
 intro fa F
 have M:=Mx.theG hg 0
 have hkp:zda r=true:=hkeep
 refine zT fun _ hK1=>zp (zc rfl) rfl F rfl M 1 (t:=37) (c:=recA r Vr) (by unfold execOp;simp only [(F.get (t:=1) rfl)];kernel_rfl) ?_
 intro g2 a2 w2 F2 M2
 refine rm rfl F2 fun _ F3=>hK1 _ _ (zSk fun _ hK4=>zT fun _ hK5=>zB 4 [(0,.pointer (some ⟨g,0,none⟩)),(3,.pointer (some ⟨g2,0,none⟩)),(4,.int .i64 0),(11,.pointer (some ⟨g,56,none⟩))] [] dnil [] F3 fun _ F6=>?_)
 refine zd (w':=w2) (zc rfl) rfl F6 rfl (.bool false) (zca _ _ rfl (F6.get (t:=11) rfl) (M2.blk (k:=0) rfl) (show _=some (Value.bool _) from by rw [←hd];rfl) Tryz.underlying4 rfl) fun _ F7=>?_
 refine hK5 _ _ (wp_cond_false (F7.get (t:=12) rfl) (wp_skip (hK4 _ _ (zT fun _ hK8=>zd (w':=w2) (zc rfl) rfl F7 rfl _ (zbb _ _ rfl (F7.get (t:=3) rfl) (M2.blk (k:=1) rfl) (recA r Vr) (zcb rfl) Tryz.underlying37 rfl (by kernel_rfl)) fun _ F9=>?_))))
 refine zh (zc rfl) rfl F9 rfl rfl (zE Tryz.func48 rfl) #[.agg (recA r Vr)] (zz (F9.get (t:=14) rfl)) (rec_is r Vr ho true l hkp hrl w2 ⟨hR.h2.grow M2.grown hRg.1,hR.h5.grow M2.grown hRg.2⟩) ?_
 rintro _ w10 a10 ⟨v10,rfl,hv10,b10⟩ F10
 have M10:=M2.newO b10 2 hv10
 clear M2 b10 hv10
 obtain ⟨A10,c10,rfl⟩:=(M10.isO (k:=2) rfl).shape
 refine zB 5 [(0,.pointer (some ⟨g,0,none⟩)),(3,.pointer (some ⟨g2,0,none⟩)),(4,.int .i64 0),(5,.slice A10 (l).length c10),(6,.bool true)] [] dnil [] F10 fun _ F11=>?_
 refine hK8 _ _ (zSk fun _ hK12=>zT fun _ hK13=>zAx 2 [(18,.bool true),(19,.bool false)] [] dnil [] F11 fun _ F14=>?_)
 refine hK13 _ _ (wp_cond_false (F14.get (t:=19) rfl) (wp_skip (hK12 _ _ (zT fun _ hK15=>zAx 3 [(21,.pointer (some ⟨g,0,none⟩)),(22,.pointer (some ⟨g2,1,none⟩)),(23,.string r.s)] [0] (zx (M10.blk (k:=1) rfl) dnil) [g2] F14 fun _ F16=>?_))))
 refine zh (zc rfl) rfl F16 rfl rfl (zE Tryz.func49 rfl) #[.pointer (some ⟨g,0,none⟩),.string r.s] (zia (F16.get (t:=21) rfl) (F16.get (t:=23) rfl)) (zba ((find_not g V s n hv r.s hk w10 (HasV.of (M10.blk (k:=0) rfl) (hr.grow M10.grown))))) ?_
 rintro _ w17 a17 ⟨rfl,b17⟩ F17
 have M17:=M10.step b17
 refine zB 3 [(0,.pointer (some ⟨g,0,none⟩)),(4,.int .i64 0),(5,.slice A10 (l).length c10),(6,.bool true),(25,.agg (#[.int .i64 0,.nilFunc])),(26,.bool false)] [] dnil [] F17 fun _ F18=>?_
 refine zp (zc rfl) rfl F18 rfl M17 3 (t:=87) (c:=#[.int .i64 0,.nilFunc]) (by unfold execOp;kernel_rfl) ?_
 intro g19 a19 w19 F19 M19
 refine zu (zc rfl) rfl F19 M19 (k:=3) rfl _ _ _ rfl (F19.get (t:=7) rfl) (F19.get (t:=25) rfl) (#[.int .i64 0,.nilFunc]) _ rfl (zL rfl) (by first | rfl | simp [Value.oneCell']) (zaa rfl) (by kernel_rfl) ?_
 intro w20 M20
 refine rm rfl F19 fun _ F21=>hK15 _ _ (zSk fun _ hK22=>zT fun _ hK23=>zAx 2 [(27,.bool false),(28,.bool true)] [] dnil [] F21 fun _ F24=>?_)
 refine hK23 _ _ (wp_cond_true (F24.get (t:=28) rfl) (zR (rm rfl F24 fun _ F25=>zh (zc rfl) rfl F25 rfl rfl (zE Tryz.func50 rfl) #[.pointer (some ⟨g,0,none⟩)] (zz (F25.get (t:=30) rfl)) (zba ((free_not g V s n hv hf w20 (HasV.of (M20.blk (k:=0) rfl) (hr.grow M20.grown))))) ?_)))
 rintro _ w26 a26 ⟨rfl,b26⟩ F26
 have M26:=M20.step b26
 refine zAx 3 [(29,.tuple #[.agg (#[.int .i64 0,.nilFunc]),.bool false]),(32,.agg (#[.int .i64 0,.nilFunc])),(33,.bool false)] [] dnil [] F26 fun _ F27=>?_
 refine zu (zc rfl) rfl F27 M26 (k:=3) rfl _ _ _ rfl (F27.get (t:=7) rfl) (F27.get (t:=32) rfl) (#[.int .i64 0,.nilFunc]) _ rfl (zL rfl) (by first | rfl | simp [Value.oneCell']) (zaa rfl) (by kernel_rfl) ?_
 intro w28 M28
 refine rm rfl F27 fun _ F29=>hK22 _ _ (zSk fun _ hK30=>zT fun _ hK31=>zAx 2 [(34,.bool false),(35,.bool true)] [] dnil [] F29 fun _ F32=>?_)
 refine hK31 _ _ (wp_cond_true (F32.get (t:=35) rfl) (zT fun _ hK33=>rm rfl F32 fun _ F34=>hK33 _ _ (wp_ret ?_)))
 try simp only [Exit.then,Exit.inBlock,Exit.jump]
 exact bodyPost_ret (res1 rfl (F34.get rfl)) F34.defers ⟨_,rfl,rfl,s,n,hr.grow M28.grown,fun b h=>.inl h,M28.blk (k:=0) rfl,M28.grown⟩
theorem put_free (g:Nat) (V:VltN) (s n:Nat→Value) (hv:z5a V) (r:RecN) (Vr:RecV) (ho:RecOk r) (hd:V.dd=false) (l:List UInt8) (hrl:recE r=l) (hkeep:zda r=true) (hll:l.length≤1000) (hk:fst8 (zea V r.s)=8) (k:Nat) (hf:fst8 (fun i=>zwa V (2*i))=k) (h8:k<8) (ht:anyB zq V (2*k)=true → -9223372036854775808≤cntT V (2*k)∧cntT V (2*k)<9223372036854775807) (w:World) (hR:RecIs w r Vr) (hRg:¬bfp Vr.v2 g∧¬bfp Vr.v5 g) (hr:RowsV w g V.c s n) (hg:w.heap[g]? = some (.cells (vltA V s n) 80 (0,0))):
  Calls Tryz.prog 22 #[.pointer (some ⟨g,0,none⟩),.agg (recA r Vr)] w fun e w'=>∃ t,e=.returned t∧t=.int .i64 (if (sayW V (2*k) l).2=true then 0 else 10)∧∃ s' n',RowsV w' g ((sayW V (2*k) l).1).c s' n'∧(∀ b,zr 18 s' n' b→zr 18 s n b∨w.heap.size≤b)∧w'.heap[g]? = some (.cells (vltA ((sayW V (2*k) l).1) s' n') 80 (0,0))∧w.grownBy w' (some g):=by
 skip
 refine zk (args:=[.pointer (some ⟨g,0,none⟩),.agg (recA r Vr)]) 40 Tryz.func22 rfl rfl rfl ?_
 intro fa F
 have M:=Mx.theG hg 0
 have hkp:zda r=true:=hkeep
 refine zT fun _ hK1=>zp (zc rfl) rfl F rfl M 1 (t:=37) (c:=recA r Vr) (by unfold execOp;simp only [(F.get (t:=1) rfl)];kernel_rfl) ?_
 intro g2 a2 w2 F2 M2
 refine rm rfl F2 fun _ F3=>hK1 _ _ (zSk fun _ hK4=>zT fun _ hK5=>zB 4 [(0,.pointer (some ⟨g,0,none⟩)),(3,.pointer (some ⟨g2,0,none⟩)),(4,.int .i64 0),(11,.pointer (some ⟨g,56,none⟩))] [] dnil [] F3 fun _ F6=>?_)
 refine zd (w':=w2) (zc rfl) rfl F6 rfl (.bool false) (zca _ _ rfl (F6.get (t:=11) rfl) (M2.blk (k:=0) rfl) (show _=some (Value.bool _) from by rw [←hd];rfl) Tryz.underlying4 rfl) fun _ F7=>?_
 refine hK5 _ _ (wp_cond_false (F7.get (t:=12) rfl) (wp_skip (hK4 _ _ (zT fun _ hK8=>zd (w':=w2) (zc rfl) rfl F7 rfl _ (zbb _ _ rfl (F7.get (t:=3) rfl) (M2.blk (k:=1) rfl) (recA r Vr) (zcb rfl) Tryz.underlying37 rfl (by kernel_rfl)) fun _ F9=>?_))))
 refine zh (zc rfl) rfl F9 rfl rfl (zE Tryz.func48 rfl) #[.agg (recA r Vr)] (zz (F9.get (t:=14) rfl)) (rec_is r Vr ho true l hkp hrl w2 ⟨hR.h2.grow M2.grown hRg.1,hR.h5.grow M2.grown hRg.2⟩) ?_
 rintro _ w10 a10 ⟨v10,rfl,hv10,b10⟩ F10
 have M10:=M2.newO b10 2 hv10
 clear M2 b10 hv10
 obtain ⟨A10,c10,rfl⟩:=(M10.isO (k:=2) rfl).shape
 refine zB 5 [(0,.pointer (some ⟨g,0,none⟩)),(3,.pointer (some ⟨g2,0,none⟩)),(4,.int .i64 0),(5,.slice A10 (l).length c10),(6,.bool true)] [] dnil [] F10 fun _ F11=>?_
 refine hK8 _ _ (zSk fun _ hK12=>zT fun _ hK13=>zAx 2 [(18,.bool true),(19,.bool false)] [] dnil [] F11 fun _ F14=>?_)
 refine hK13 _ _ (wp_cond_false (F14.get (t:=19) rfl) (wp_skip (hK12 _ _ (zT fun _ hK15=>zAx 3 [(21,.pointer (some ⟨g,0,none⟩)),(22,.pointer (some ⟨g2,1,none⟩)),(23,.string r.s)] [0] (zx (M10.blk (k:=1) rfl) dnil) [g2] F14 fun _ F16=>?_))))
 refine zh (zc rfl) rfl F16 rfl rfl (zE Tryz.func49 rfl) #[.pointer (some ⟨g,0,none⟩),.string r.s] (zia (F16.get (t:=21) rfl) (F16.get (t:=23) rfl)) (zba ((find_not g V s n hv r.s hk w10 (HasV.of (M10.blk (k:=0) rfl) (hr.grow M10.grown))))) ?_
 rintro _ w17 a17 ⟨rfl,b17⟩ F17
 have M17:=M10.step b17
 refine zB 3 [(0,.pointer (some ⟨g,0,none⟩)),(4,.int .i64 0),(5,.slice A10 (l).length c10),(6,.bool true),(25,.agg (#[.int .i64 0,.nilFunc])),(26,.bool false)] [] dnil [] F17 fun _ F18=>?_
 refine zp (zc rfl) rfl F18 rfl M17 3 (t:=87) (c:=#[.int .i64 0,.nilFunc]) (by unfold execOp;kernel_rfl) ?_
 intro g19 a19 w19 F19 M19
 refine zu (zc rfl) rfl F19 M19 (k:=3) rfl _ _ _ rfl (F19.get (t:=7) rfl) (F19.get (t:=25) rfl) (#[.int .i64 0,.nilFunc]) _ rfl (zL rfl) (by first | rfl | simp [Value.oneCell']) (zaa rfl) (by kernel_rfl) ?_
 intro w20 M20
 refine rm rfl F19 fun _ F21=>hK15 _ _ (zSk fun _ hK22=>zT fun _ hK23=>zAx 2 [(27,.bool false),(28,.bool true)] [] dnil [] F21 fun _ F24=>?_)
 refine hK23 _ _ (wp_cond_true (F24.get (t:=28) rfl) (zR (rm rfl F24 fun _ F25=>zh (zc rfl) rfl F25 rfl rfl (zE Tryz.func50 rfl) #[.pointer (some ⟨g,0,none⟩)] (zz (F25.get (t:=30) rfl)) (zba ((free_yes g V s n hv k hf h8 w20 (HasV.of (M20.blk (k:=0) rfl) (hr.grow M20.grown))))) ?_)))
 rintro _ w26 a26 ⟨rfl,b26⟩ F26
 have M26:=M20.step b26
 refine rm rfl F26 fun _ F27=>zAx 2 [(32,.agg (#[.int .i64 ((2*k:Nat):Int),.func (.func 105) #[] #[]])),(33,.bool true)] [] dnil [] F27 fun _ F28=>?_
 refine zu (zc rfl) rfl F28 M26 (k:=3) rfl _ _ _ rfl (F28.get (t:=7) rfl) (F28.get (t:=32) rfl) (#[.int .i64 ((2*k:Nat):Int),.func (.func 105) #[] #[]]) _ rfl (zL rfl) (by first | rfl | simp [Value.oneCell']) (zaa rfl) (by kernel_rfl) ?_
 intro w29 M29
 refine rm rfl F28 fun _ F30=>hK22 _ _ (zSk fun _ hK31=>zT fun _ hK32=>zAx 2 [(34,.bool true),(35,.bool false)] [] dnil [] F30 fun _ F33=>?_)
 refine hK32 _ _ (wp_cond_false (F33.get (t:=35) rfl) (wp_skip (hK31 _ _ (zT fun _ hK34=>rm rfl F33 fun _ F35=>zd (w':=w29) (zc rfl) rfl F35 rfl _ (zbb _ _ rfl (F35.get (t:=7) rfl) (M29.blk (k:=3) rfl) (#[.int .i64 ((2*k:Nat):Int),.func (.func 105) #[] #[]]) (zcb rfl) Tryz.underlying87 rfl (by kernel_rfl)) fun _ F36=>?_))))
 refine rm rfl F36 fun _ F37=>zh (zc rfl) rfl F37 rfl rfl (zE Tryz.func51 rfl) #[.pointer (some ⟨g,0,none⟩),.agg (#[.int .i64 ((2*k:Nat):Int),.func (.func 105) #[] #[]]),.slice A10 (l).length c10] (args3 (F37.get (t:=36) rfl) (F37.get (t:=37) rfl) (F37.get (t:=38) rfl)) (vwrite_any g V s n hv k h8 l (.slice A10 (l).length c10) hll ht w29 (M29.isO (k:=2) rfl) (fun h=>M29.dis 0 2 _ _ rfl rfl (by decide) rfl g rfl (zpa h)) (hr.grow M29.grown) (M29.blk (k:=0) rfl)) ?_
 rintro _ w38 a38 ⟨rfl,s38,n38,hr38,ht38,hc38,hg38⟩ F38
 have M38:=M29.put (k:=0) rfl hg38 hc38
 refine rm rfl F38 fun _ F39=>hK34 _ _ (wp_ret ?_)
 try simp only [Exit.then,Exit.inBlock,Exit.jump]
 exact bodyPost_ret (res1 rfl (F39.get rfl)) F39.defers ⟨_,rfl,rfl,s38,n38,hr38,(fun b hb=>(ht38 b hb).imp id (fun hb=>Nat.le_trans M29.le hb)),hc38,M29.grown.trans hg38⟩
theorem vdead_any (g:Nat) (V:VltN) (s n:Nat→Value) (w:World) (h:HasV w g V s n):
  Calls Tryz.prog 32 #[.pointer (some ⟨g,0,none⟩)] w fun e w'=>e=.returned (.bool V.dd)∧Below w.heap.size w w':=by
 obtain ⟨dd,hd⟩:∃ x,V.dd=x:=⟨_,rfl⟩
 rw [hd]
 refine zk (args:=[.pointer (some ⟨g,0,none⟩)]) 8 Tryz.func32 rfl rfl rfl ?_
 intro fa F
 have M:=Mx.start w
 replace M:=M.argO 0 h.blk (fun b e=>by cases e)
 refine zT fun _ hK1=>rm rfl F fun _ F2=>hK1 _ _ (zT fun _ hK3=>zB 4 [(2,.bool false),(6,.pointer (some ⟨g,56,none⟩))] [] dnil [] F2 fun _ F4=>?_)
 refine zd (w':=w) (zc rfl) rfl F4 rfl (.bool dd) (zca _ _ rfl (F4.get (t:=6) rfl) (M.roB (k:=0) rfl) (show _=some (Value.bool _) from by rw [←hd];rfl) Tryz.underlying4 rfl) fun _ F5=>?_
 refine rm rfl F5 fun _ F6=>hK3 _ _ (wp_ret ?_)
 try simp only [Exit.then,Exit.inBlock,Exit.jump]
 exact bodyPost_ret (res1 rfl (F6.get rfl)) F6.defers ⟨rfl,M.below⟩
section
open Go.Shelf
theorem eightI_low {n:Nat} (h:n<256):zt (n:Int)=[0,0,0,0,0,0,0,zj (n:Int)]:=by
 have e:∀ j:Nat,j<7→zj ((n:Int) / 2^(8*(7-j)))=0:=fun j hj=>by
  have h1:((n:Int) / 2^(8*(7-j)))=0:=by
   apply Int.ediv_eq_zero_of_lt (by omega)
   have h2:2^8≤2^(8*(7-j)):=Nat.pow_le_pow_right (by omega) (by omega)
   have h3:((2^(8*(7-j)):Nat):Int)=(2:Int)^(8*(7-j)):=by simp
   omega
  rw [h1];rfl
 have e7:zj ((n:Int) / 2^(8*(7-7)))=zj (n:Int):=by simp
 unfold zt
 have hr:List.range 8=[0,1,2,3,4,5,6,7]:=rfl
 rw [hr]
 simp only [List.map_cons,List.map_nil]
 rw [e 0 (by omega),e 1 (by omega),e 2 (by omega),e 3 (by omega),e 4 (by omega),e 5 (by omega),e 6 (by omega),e7]
def CellOk (K:Nat) (b:List UInt8):Prop:=b.length≤280∧(∀ j,j<7→b.getD j 0=0)∧(b.getD 7 0).toNat≤K
def CelOk (K:Nat) (c:CelN):Prop:=CellOk K c.s∧CellOk K c.n
def InvV (K:Nat) (V:VltN):Prop:=∀ i,CelOk K (V.c i)
theorem CellOk.nil (K:Nat):CellOk K []:=⟨Nat.zero_le _,fun _ _=>rfl,Nat.zero_le _⟩
theorem CellOk.mono {K K':Nat} (h:K≤K') {b:List UInt8} (hb:CellOk K b):CellOk K' b:=⟨hb.1,hb.2.1,Nat.le_trans hb.2.2 h⟩
theorem CelOk.mono {K K':Nat} (h:K≤K') {c:CelN} (hb:CelOk K c):CelOk K' c:=⟨hb.1.mono h,hb.2.mono h⟩
theorem InvV.mono {K K':Nat} (h:K≤K') {V:VltN} (hb:InvV K V):InvV K' V:=fun i=>(hb i).mono h
theorem getD_torn {x y:List UInt8} {k:Nat} (hk:k≤x.length) (j:Nat):(x.take k++y.drop k).getD j 0=if j<k then x.getD j 0 else y.getD j 0:=by
 have hl:(x.take k).length=k:=by rw [List.length_take];omega
 simp only [List.getD_eq_getElem?_getD]
 by_cases h:j<k
 ·rw [if_pos h,List.getElem?_append_left (by omega),List.getElem?_take,if_pos h]
 ·rw [if_neg h,List.getElem?_append_right (by omega),hl,List.getElem?_drop,show k+(j-k)=j by omega]
theorem CellOk.torn {K:Nat} {x y:List UInt8} {k:Nat} (hk:k≤x.length) (hx:CellOk K x) (hy:CellOk K y):CellOk K (x.take k++y.drop k):=by
 refine ⟨?_,fun j hj=>?_,?_⟩
 ·have h1:=hx.1
  have h2:=hy.1
  rw [List.length_append,List.length_take,List.length_drop]
  omega
 ·rw [getD_torn hk]
  split
  ·exact hx.2.1 j hj
  ·exact hy.2.1 j hj
 ·rw [getD_torn hk]
  split
  ·exact hx.2.2
  ·exact hy.2.2
theorem take8_of {K:Nat} {b:List UInt8} (h:CellOk K b) (h8:8≤b.length):b.take 8=zt (((b.getD 7 0).toNat:Nat):Int):=by
 rw [eightI_low (UInt8.toNat_lt _)]
 have hb:zj (((b.getD 7 0).toNat:Nat):Int)=b.getD 7 0:=byteI_id _
 rw [hb]
 apply List.ext_getElem?
 intro j
 rw [List.getElem?_take]
 have hget:∀ i,i<8→b[i]? = some (b.getD i 0):=fun i hi=>by rw [List.getD_eq_getElem?_getD,List.getElem?_eq_getElem (by omega)];rfl
 by_cases hj:j<8
 ·rw [if_pos hj,hget j hj]
  match j,hj with
  | 0,_=>rw [h.2.1 0 (by omega)];rfl
  | 1,_=>rw [h.2.1 1 (by omega)];rfl
  | 2,_=>rw [h.2.1 2 (by omega)];rfl
  | 3,_=>rw [h.2.1 3 (by omega)];rfl
  | 4,_=>rw [h.2.1 4 (by omega)];rfl
  | 5,_=>rw [h.2.1 5 (by omega)];rfl
  | 6,_=>rw [h.2.1 6 (by omega)];rfl
  | 7,_=>rfl
  | k+8,hk=>exact absurd hk (by omega)
 ·rw [if_neg hj,List.getElem?_eq_none (by simp;omega)]
theorem turn_of {K:Nat} {b:List UInt8} (h:CellOk K b) (h8:8≤b.length):turnL b=(((b.getD 7 0).toNat:Nat):Int):=by
 have:=UInt8.toNat_lt (b.getD 7 0)
 unfold turnL
 rw [take8_of h h8,z5c (by omega) (by omega)]
theorem entT_bd {K:Nat} {b:List UInt8} (h:CellOk K b):0≤entT b∧entT b≤(K:Int):=by
 unfold entT
 split
 ·rw [turn_of h (by omega)]
  have:=h.2.2
  omega
 ·omega
theorem cnt_bd {K:Nat} {V:VltN} (h:InvV K V) (q:Nat):0≤cntT V q∧cntT V q≤(K:Int):=by
 unfold cntT
 split
 ·exact entT_bd (h (q+1)).1
 ·exact entT_bd (h q).1
theorem nxtT_bd {K:Nat} {V:VltN} (h:InvV K V) (q:Nat):1≤nxtT V q∧nxtT V q≤(K:Int)+1:=by
 have:=cnt_bd h q
 unfold nxtT
 split <;> omega
theorem said_ok {K p:Nat} {t:Int} {s:List UInt8} (h0:0≤t) (hK:t≤(K:Int)) (hk:K<256) (hs:s.length≤255):CellOk K (zra zq p t s):=by
 obtain ⟨m,rfl⟩:∃ m:Nat,t=(m:Int):=⟨t.toNat,by omega⟩
 have h8:=saidL_take8 zq p (m:Int) s
 rw [eightI_low (by omega)] at h8
 have hg:∀ j,j<8→(zra zq p (m:Int) s).getD j 0=([0,0,0,0,0,0,0,zj (m:Int)]:List UInt8).getD j 0:=fun j hj=>by
  rw [←h8]
  simp only [List.getD_eq_getElem?_getD,List.getElem?_take,if_pos hj]
 refine ⟨by rw [saidL_len zq sealH_len];omega,fun j hj=>?_,?_⟩
 ·rw [hg j (by omega)]
  match j,hj with
  | 0,_=>rfl
  | 1,_=>rfl
  | 2,_=>rfl
  | 3,_=>rfl
  | 4,_=>rfl
  | 5,_=>rfl
  | 6,_=>rfl
  | k+7,hk=>exact absurd hk (by omega)
 ·rw [hg 7 (by omega)]
  show (zj (m:Int)).toNat≤K
  rw [byteI_nat (by omega)];omega
theorem nxtP_in (V:VltN) (q:Nat):nxtP V q=q∨nxtP V q=q+1:=by
 unfold nxtP
 split
 ·rename_i h
  rcases cntP_in h with h | h <;> rw [h] <;> omega
 ·exact .inl rfl
theorem sayW_c (V:VltN) (q:Nat) (l:List UInt8):(∀ i,i≠nxtP V q→(sayW V q l).1.c i=V.c i) ∧
  ((sayW V q l).1.c (nxtP V q)=V.c (nxtP V q)∨(sayW V q l).1.c (nxtP V q)=⟨(V.c (nxtP V q)).s,zra zq (nxtP V q) (nxtT V q) l,true⟩∨(sayW V q l).1.c (nxtP V q)=⟨zra zq (nxtP V q) (nxtT V q) l,[],false⟩):=by
 unfold sayW wrtV
 split
 ·exact ⟨fun _ _=>rfl,.inl rfl⟩
 ·split
  ·refine ⟨fun i hi=>zgc _ _ hi,.inr (.inl (z4b _ _ _))⟩
  ·refine ⟨fun i hi=>?_,.inr (.inr ?_)⟩
   ·show putC (putC V.c _ _) _ _ i=V.c i
    rw [zgc _ _ hi,zgc _ _ hi]
   ·show putC (putC V.c _ _) _ ⟨(putC V.c _ _ _).n,[],false⟩ _=_
    rw [z4b,z4b]
theorem sayW_inv {K:Nat} {V:VltN} (h:InvV K V) (hK:K<255) (q:Nat) {l:List UInt8} (hl:l.length≤255):InvV (K+1) (sayW V q l).1:=fun i=>by
 obtain ⟨h1,h2⟩:=sayW_c V q l
 by_cases hi:i=nxtP V q
 ·subst hi
  have hb:=nxtT_bd h q
  have hs:CellOk (K+1) (zra zq (nxtP V q) (nxtT V q) l):=said_ok (by omega) (by omega) (by omega) hl
  rcases h2 with h2 | h2 | h2 <;> rw [h2]
  ·exact (h _).mono (by omega)
  ·exact ⟨(h _).1.mono (by omega),hs⟩
  ·exact ⟨hs,CellOk.nil _⟩
 ·rw [h1 i hi]
  exact (h i).mono (by omega)
theorem setl_inv {K:Nat} {V:VltN} (h:InvV K V) (x:Nat→Int) (m:Nat):InvV K (setlV V x m):=fun i=>
 setC_all (p:=fun _ c=>CelOk K c) h (fun i k _ hk=>⟨CellOk.torn hk (h i).2 (h i).1,CellOk.nil _⟩) 18 i
theorem age_inv {K:Nat} {V:VltN} (h:InvV K V) (hK:K<255):InvV (K+1) (ageW V):=sayW_inv h hK 16 (by rw [zfa];omega)
theorem zero_inv (K:Nat):InvV K zeroV:=fun i=>⟨CellOk.nil K,CellOk.nil K⟩
theorem zad {K:Nat} {V:VltN} (h:InvV K V):z5a V:=fun i hi=>⟨by have:=(h i).1.1;omega,by have:=(h i).2.1;omega⟩
theorem inv_turn {K:Nat} {V:VltN} (h:InvV K V) (hK:K<256) (q:Nat):anyB zq V q=true → -9223372036854775808≤cntT V q∧cntT V q<9223372036854775807:=fun _=>by
 have:=cnt_bd h q;omega
theorem pair_eq {V V':VltN} {q:Nat} (h1:(V'.c q).s=(V.c q).s) (h2:(V'.c (q+1)).s=(V.c (q+1)).s):anyB zq V' q=anyB zq V q∧cntS V' q=cntS V q∧cntT V' q=cntT V q∧cntP V' q=cntP V q:=by
 have hs:secB zq V' q=secB zq V q:=by unfold secB;rw [h1,h2]
 refine ⟨by unfold anyB;rw [hs,h1],by unfold cntS;rw [hs,h1,h2],by unfold cntT;rw [hs,h1,h2],by unfold cntP;rw [hs,h1,h2]⟩
theorem said_eq {V V':VltN} {q:Nat} (h:anyB zq V' q=anyB zq V q∧cntS V' q=cntS V q∧cntT V' q=cntT V q∧cntP V' q=cntP V q):saidB V' q=saidB V q∧z7a V' q=z7a V q∧zwa V' q=zwa V q∧numB V' q=numB V q∧zmc V' q=zmc V q:=by
 obtain ⟨h1,h2,-,-⟩:=h
 refine ⟨by unfold saidB;rw [h1,h2],by unfold z7a;rw [h1,h2],by unfold zwa;rw [h1,h2],by unfold numB;rw [h1,h2],by unfold zmc;rw [h1,h2]⟩
theorem sayW_other (V:VltN) {q q':Nat} (l:List UInt8) (h:q'+1<q∨q+1<q'):(sayW V q l).1.c q'=V.c q'∧(sayW V q l).1.c (q'+1)=V.c (q'+1):=by
 have h1:=(sayW_c V q l).1
 have hp:=nxtP_in V q
 exact ⟨h1 _ (by omega),h1 _ (by omega)⟩
theorem sayW_pair (V:VltN) {q q':Nat} (l:List UInt8) (h:q'+1<q∨q+1<q'):anyB zq (sayW V q l).1 q'=anyB zq V q'∧cntS (sayW V q l).1 q'=cntS V q'∧cntT (sayW V q l).1 q'=cntT V q'∧cntP (sayW V q l).1 q'=cntP V q':=by
 obtain ⟨h1,h2⟩:=sayW_other V l h
 exact pair_eq (by rw [h1]) (by rw [h2])
theorem sayW_live {V:VltN} (q:Nat) (l:List UInt8) (hf:V.fl=false):(sayW V q l).2=true∧(sayW V q l).1.fl=false∧(sayW V q l).1.dd=V.dd∧(sayW V q l).1.c (nxtP V q)=⟨zra zq (nxtP V q) (nxtT V q) l,[],false⟩:=by
 unfold sayW wrtV
 rw [if_neg (by unfold zdc;rw [hf];simp),if_neg (by unfold zdc zec;rw [hf];simp)]
 refine ⟨rfl,hf,rfl,?_⟩
 show putC (putC V.c _ _) _ ⟨(putC V.c _ _ _).n,[],false⟩ _=_
 rw [z4b,z4b]
theorem sayW_fl (V:VltN) (q:Nat) (l:List UInt8):(sayW V q l).1.fl=V.fl:=by
 unfold sayW wrtV
 split
 ·rfl
 ·split <;> rfl
theorem wrote {K:Nat} {V V':VltN} {q:Nat} {l:List UInt8} (h:InvV K V) (hK:K<255) (hp:(V'.c (nxtP V q)).s=zra zq (nxtP V q) (nxtT V q) l) (ho:∀ i,i≠nxtP V q→(V'.c i).s=(V.c i).s):anyB zq V' q=true∧cntS V' q=l:=by
 have hb:=nxtT_bd h q
 have hcb:=cnt_bd h q
 have hgood:zkb zq (nxtP V q) (zra zq (nxtP V q) (nxtT V q) l)=true:=good_said zq sealH_len _ (by omega) (by omega) _
 have hturn:turnL (zra zq (nxtP V q) (nxtT V q) l)=nxtT V q:=saidL_turn zq _ (by omega) (by omega) _
 have hlen:25≤(zra zq (nxtP V q) (nxtT V q) l).length:=by rw [saidL_len zq sealH_len];omega
 have hents:entS (zra zq (nxtP V q) (nxtT V q) l)=l:=by unfold entS;rw [if_pos hlen,saidL_says zq sealH_len]
 by_cases hA:anyB zq V q=true
 ·by_cases hs:secB zq V q=true
  ·-- the second counts: the first is written
   have hP:nxtP V q=q:=by
    have:cntP V q=q+1:=by
     unfold cntP
     rw [if_pos hs]
     have:zkb zq (q+1) (V.c (q+1)).s=true:=by unfold secB at hs;simp only [Bool.and_eq_true] at hs;exact hs.1
     exact if_pos (good_ge this)
    unfold nxtP
    rw [if_pos hA,this];omega
   have hT:nxtT V q=turnL (V.c (q+1)).s+1:=by
    have hg:zkb zq (q+1) (V.c (q+1)).s=true:=by unfold secB at hs;simp only [Bool.and_eq_true] at hs;exact hs.1
    unfold nxtT cntT
    rw [if_pos hA,if_pos hs,show entT (V.c (q+1)).s=turnL (V.c (q+1)).s from if_pos (good_ge hg)]
   rw [hP] at hp hgood hturn hents ho
   have h2:(V'.c (q+1)).s=(V.c (q+1)).s:=ho _ (by omega)
   have hs2:secB zq V' q=false:=by
    unfold secB
    rw [h2,hp,hgood,hturn,hT]
    simp
    intro _
    omega
   refine ⟨by unfold anyB;rw [hs2,hp,hgood];rfl,by unfold cntS;rw [hs2,hp];exact hents⟩
  ·have hs:secB zq V q=false:=by simpa using hs
   have hg:zkb zq q (V.c q).s=true:=by unfold anyB at hA;rw [hs] at hA;simpa using hA
   have hP:nxtP V q=q+1:=by
    have:cntP V q=q:=by
     unfold cntP
     rw [if_neg (by rw [hs];exact Bool.false_ne_true)]
     exact if_pos (good_ge hg)
    unfold nxtP
    rw [if_pos hA,this];omega
   have hT:nxtT V q=turnL (V.c q).s+1:=by
    unfold nxtT cntT
    rw [if_pos hA,if_neg (by rw [hs];exact Bool.false_ne_true),show entT (V.c q).s=turnL (V.c q).s from if_pos (good_ge hg)]
   rw [hP] at hp hgood hturn hents ho
   have h2:(V'.c q).s=(V.c q).s:=ho _ (by omega)
   have hs2:secB zq V' q=true:=by
    unfold secB
    rw [h2,hp,hgood,hturn,hT,hg]
    simp
    omega
   refine ⟨by unfold anyB;rw [hs2];rfl,by unfold cntS;rw [hs2,hp];exact hents⟩
 ·have hA:anyB zq V q=false:=by simpa using hA
  have hs:secB zq V q=false:=by unfold anyB at hA;simp only [Bool.or_eq_false_iff] at hA;exact hA.1
  have hg:zkb zq q (V.c q).s=false:=by unfold anyB at hA;simp only [Bool.or_eq_false_iff] at hA;exact hA.2
  have hg2:zkb zq (q+1) (V.c (q+1)).s=false:=by
   unfold secB at hs
   rw [hg] at hs
   simpa using hs
  have hP:nxtP V q=q:=by unfold nxtP;rw [if_neg (by rw [hA];exact Bool.false_ne_true)]
  rw [hP] at hp hgood hturn hents ho
  have h2:(V'.c (q+1)).s=(V.c (q+1)).s:=ho _ (by omega)
  have hs2:secB zq V' q=false:=by unfold secB;rw [h2,hg2];rfl
  refine ⟨by unfold anyB;rw [hs2,hp,hgood];rfl,by unfold cntS;rw [hs2,hp];exact hents⟩
theorem say_says {K:Nat} {V:VltN} (h:InvV K V) (hK:K<255) (q:Nat) (l:List UInt8) (hf:V.fl=false):anyB zq (sayW V q l).1 q=true∧cntS (sayW V q l).1 q=l:=
 wrote h hK (by rw [(sayW_live q l hf).2.2.2]) (fun i hi=>by rw [(sayW_c V q l).1 i hi])
/-! The era. -/
def EraV (V:VltN) (e:Int):Prop:=(V.c 16).f=false∧(V.c 17).f=false∧anyB zq V 16=true∧zmc V 16=e
theorem era_num {K:Nat} {V:VltN} (h:InvV K V) (hK:K<255) {e:Int} (he:zmc V 16=e) (h0:0≤e) (h1:e<1000) (hf:V.fl=false) (h16:(V.c 16).f=false) (h17:(V.c 17).f=false):EraV (ageW V) (e+1):=by
 obtain ⟨ha,hc⟩:=say_says h hK 16 (zt (zmc V 16+1)) hf
 obtain ⟨h1',h2',h3',h4'⟩:=sayW_live 16 (zt (zmc V 16+1)) hf
 have hfr:∀ i,(V.c i).f=false→((ageW V).c i).f=false:=fun i hi=>by
  by_cases e:i=nxtP V 16
  ·subst e;unfold ageW;rw [h4']
  ·unfold ageW;rw [(sayW_c V 16 _).1 i e];exact hi
 refine ⟨hfr 16 h16,hfr 17 h17,ha,?_⟩
 unfold zmc
 rw [if_pos (show anyB zq (ageW V) 16=true from ha),show cntS (ageW V) 16=zt (zmc V 16+1) from hc,he]
 exact z5c (by omega) (by omega)
theorem era_say {V:VltN} {e:Int} (h:EraV V e) {q:Nat} (hq:q+1<16) (l:List UInt8):EraV (sayW V q l).1 e:=by
 obtain ⟨h1,h2⟩:=sayW_other V (q':=16) l (.inr hq)
 have hp:=sayW_pair V (q':=16) l (.inr hq)
 refine ⟨by rw [h1];exact h.1,by rw [h2];exact h.2.1,by rw [hp.1];exact h.2.2.1,by rw [(said_eq hp).2.2.2.2];exact h.2.2.2⟩
theorem setC_unf {c:Nat→CelN} {x:Nat→Int} {m:Nat} {i:Nat} (hi:(c i).f=false):∀ j,setC c x m j i=c i
 | 0=>rfl
 | j+1=>by
  unfold setC
  split
  ·rename_i hf
   rw [zgc _ _ (fun e=>by subst e;rw [hi] at hf;cases hf)]
   exact setC_unf hi j
  ·exact setC_unf hi j
theorem era_setl {V:VltN} {e:Int} (h:EraV V e) (x:Nat→Int) (m:Nat):EraV (setlV V x m) e:=by
 have h1:(setlV V x m).c 16=V.c 16:=setC_unf h.1 18
 have h2:(setlV V x m).c 17=V.c 17:=setC_unf h.2.1 18
 have hp:=pair_eq (V:=V) (V':=setlV V x m) (q:=16) (by rw [h1]) (by rw [h2])
 refine ⟨by rw [h1];exact h.1,by rw [h2];exact h.2.1,by rw [hp.1];exact h.2.2.1,by rw [(said_eq hp).2.2.2.2];exact h.2.2.2⟩
theorem age_fl (V:VltN):(ageW V).fl=V.fl:=sayW_fl V 16 _
theorem age_dd {V:VltN} (hf:V.fl=false):(ageW V).dd=V.dd:=(sayW_live 16 _ hf).2.2.1
theorem again_is {K:Nat} {V:VltN} (h:InvV K V) (hK:K<255) {e:Int} (he:EraV V e) (h0:0≤e) (h1:e<1000) (x:Nat→Int) (m:Nat):EraV (ageW (setlV V x m)) (e+1)∧InvV (K+1) (ageW (setlV V x m))∧(ageW (setlV V x m)).fl=false∧(ageW (setlV V x m)).dd=false:=by
 have hs:=era_setl he x m
 exact ⟨era_num (setl_inv h x m) hK hs.2.2.2 h0 h1 rfl hs.1 hs.2.1,age_inv (setl_inv h x m) hK,age_fl _,age_dd rfl⟩
theorem new_is:EraV (ageW zeroV) 1∧InvV 1 (ageW zeroV)∧(ageW zeroV).fl=false∧(ageW zeroV).dd=false:=
 ⟨era_num (zero_inv 0) (by omega) num0 (by omega) (by omega) rfl rfl rfl,age_inv (zero_inv 0) (by omega),age_fl _,age_dd rfl⟩
theorem era_bd {V:VltN} {e:Int} (h:EraV V e) (h0:0≤e) (h1:e<1000):-9223372036854775808≤zmc V 16∧zmc V 16<9223372036854775807:=by rw [h.2.2.2];omega
noncomputable def putV (V:VltN) (r:RecN):VltN×Int:=
 if V.dd=true then (V,10) else if zda r=false then (V,11) else
 if fst8 (zea V r.s)<8 then ((sayW V (2*fst8 (zea V r.s)) (recE r)).1,if (sayW V (2*fst8 (zea V r.s)) (recE r)).2=true then 0 else 10) else
 if fst8 (fun i=>zwa V (2*i))<8 then ((sayW V (2*fst8 (fun i=>zwa V (2*i))) (recE r)).1,if (sayW V (2*fst8 (fun i=>zwa V (2*i))) (recE r)).2=true then 0 else 10) else (V,7)
noncomputable def goneV (V:VltN) (nm:ByteArray):VltN×Int:=
 if V.dd=true then (V,10) else
 if fst8 (zea V nm)<8 then ((sayW V (2*fst8 (zea V nm)) []).1,if (sayW V (2*fst8 (zea V nm)) []).2=true then 0 else 10) else (V,3)
theorem fst8_le (p:Nat→Bool):fst8 p≤8:=by rcases fst8_spec p with ⟨h,_⟩ | ⟨h,_⟩ <;> omega
theorem recE_bd (r:RecN):(recE r).length≤200:=by
 unfold recE
 split
 ·rename_i h
  obtain ⟨h1,h2,h3⟩:=keep_len h
  rw [recL_is]
  have ha:(zab r.a).length=4:=z2c _
  have hb:(zab r.b).length=4:=z2c _
  have hc:(zt r.c).length=8:=zfa _
  have hd:(zt r.z).length=8:=zfa _
  simp only [List.length_cons,List.length_append]
  omega
 ·simp
theorem put_any {K:Nat} (g:Nat) (V:VltN) (s n:Nat→Value) (r:RecN) (Vr:RecV) (ho:RecOk r) (hi:InvV K V) (hK:K<256) (w:World) (hR:RecIs w r Vr) (hRg:¬bfp Vr.v2 g∧¬bfp Vr.v5 g) (hr:RowsV w g V.c s n) (hg:w.heap[g]? = some (.cells (vltA V s n) 80 (0,0))):
  Calls Tryz.prog 22 #[.pointer (some ⟨g,0,none⟩),.agg (recA r Vr)] w fun e w'=>∃ t,e=.returned t∧t=.int .i64 (putV V r).2∧∃ s' n',RowsV w' g (putV V r).1.c s' n'∧(∀ b,zr 18 s' n' b→zr 18 s n b∨w.heap.size≤b)∧w'.heap[g]? = some (.cells (vltA (putV V r).1 s' n') 80 (0,0))∧w.grownBy w' (some g):=by
 have hv:=zad hi
 unfold putV
 cases hd:V.dd with
 | true=>exact put_dead g V s n hv r Vr hd w hR hRg hr hg
 | false=>
  rw [if_neg Bool.false_ne_true]
  cases hk:zda r with
  | false=>exact put_range g V s n hv r Vr ho hd (recE r) rfl hk w hR hRg hr hg
  | true=>
   rw [if_neg (fun h=>Bool.noConfusion h)]
   by_cases h1:fst8 (zea V r.s)<8
   ·rw [if_pos h1]
    exact put_found g V s n hv r Vr ho hd (recE r) rfl hk (by have:=recE_bd r;omega) _ rfl h1 (inv_turn hi hK _) w hR hRg hr hg
   ·have h8:fst8 (zea V r.s)=8:=by have:=fst8_le (zea V r.s);omega
    rw [if_neg h1]
    by_cases h2:fst8 (fun i=>zwa V (2*i))<8
    ·rw [if_pos h2]
     exact put_free g V s n hv r Vr ho hd (recE r) rfl hk (by have:=recE_bd r;omega) h8 _ rfl h2 (inv_turn hi hK _) w hR hRg hr hg
    ·rw [if_neg h2]
     exact put_none g V s n hv r Vr ho hd (recE r) rfl hk h8 (by have:=fst8_le (fun i=>zwa V (2*i));omega) w hR hRg hr hg
theorem gone_any {K:Nat} (g:Nat) (V:VltN) (s n:Nat→Value) (nm:ByteArray) (hi:InvV K V) (hK:K<256) (w:World) (hr:RowsV w g V.c s n) (hg:w.heap[g]? = some (.cells (vltA V s n) 80 (0,0))):
  Calls Tryz.prog 27 #[.pointer (some ⟨g,0,none⟩),.string nm] w fun e w'=>∃ t,e=.returned t∧t=.int .i64 (goneV V nm).2∧∃ s' n',RowsV w' g (goneV V nm).1.c s' n'∧(∀ b,zr 18 s' n' b→zr 18 s n b∨w.heap.size≤b)∧w'.heap[g]? = some (.cells (vltA (goneV V nm).1 s' n') 80 (0,0))∧w.grownBy w' (some g):=by
 have hv:=zad hi
 unfold goneV
 cases hd:V.dd with
 | true=>exact gone_dead g V s n hv nm hd w hr hg
 | false=>
  rw [if_neg Bool.false_ne_true]
  by_cases h1:fst8 (zea V nm)<8
  ·rw [if_pos h1]
   exact gone_yes g V s n hv nm hd _ rfl h1 (inv_turn hi hK _) w hr hg
  ·rw [if_neg h1]
   exact gone_not g V s n hv nm hd (by have:=fst8_le (zea V nm);omega) w hr hg
theorem say_keep {K:Nat} {V:VltN} {e:Int} (hi:InvV K V) (hK:K<255) (he:EraV V e) {k:Nat} (hk:k<8) {l:List UInt8} (hl:l.length≤255):InvV (K+1) (sayW V (2*k) l).1∧EraV (sayW V (2*k) l).1 e:=
 ⟨sayW_inv hi hK _ hl,era_say he (by omega) l⟩
theorem put_keep {K:Nat} {V:VltN} {e:Int} (hi:InvV K V) (hK:K<255) (he:EraV V e) (r:RecN):InvV (K+1) (putV V r).1∧EraV (putV V r).1 e:=by
 have hl:=recE_bd r
 unfold putV
 split
 ·exact ⟨hi.mono (by omega),he⟩
 ·split
  ·exact ⟨hi.mono (by omega),he⟩
  ·split
   ·rename_i h;exact say_keep hi hK he h (by omega)
   ·split
    ·rename_i h;exact say_keep hi hK he h (by omega)
    ·exact ⟨hi.mono (by omega),he⟩
theorem gone_keep {K:Nat} {V:VltN} {e:Int} (hi:InvV K V) (hK:K<255) (he:EraV V e) (nm:ByteArray):InvV (K+1) (goneV V nm).1∧EraV (goneV V nm).1 e:=by
 unfold goneV
 split
 ·exact ⟨hi.mono (by omega),he⟩
 ·split
  ·rename_i h;exact say_keep hi hK he h (by simp)
  ·exact ⟨hi.mono (by omega),he⟩
end
theorem rnum6_any (l:List UInt8) (v:Value) (hl:8≤l.length) (w:World) (hv:IsB w l v):
  Calls Tryz.prog 68 #[v] w fun e w'=>e=.returned (.int .i64 (numR l))∧Below w.heap.size w w':=by
 refine zk (args:=[v]) 18 Tryz.func68 rfl rfl rfl ?_
 intro fa F
 have M:=Mx.start w
 replace M:=M.argB 0 hv (fun g e=>by cases e)
 refine zT fun _ hK1=>rm rfl F fun _ F2=>hK1 _ _ (zT fun _ hK3=>rm rfl F2 fun _ F4=>hK3 _ _ (zSk fun _ hK5=>zT fun _ hK6=>rm rfl F4 fun _ F7=>hK6 _ _ (wp_block (zqb (α:=Nat) (n:=18) (G:=none) (w0:=w) (fun x=>[(0,v),(2,.int .i64 0),(4,.int .i64 (x:Int)),(3,.int .i64 (numP l x))]) (fun x=>[(0,bytR l v)]) (fun k x=>k=8-x∧(x≤8)) _ 0 ⟨rfl,(Nat.zero_le _)⟩ (F7.sb) (M.sb) ?_))))
 rintro k8 jn a8 w8 K8 ⟨ek8,I8⟩ F8 M8 hK8
 replace F8:Fx 18 a8 [(0,v),(2,.int .i64 0),(4,.int .i64 (jn:Int)),(3,.int .i64 (numP l jn))]:=F8
 replace M8:Mx _ _ w8 [(0,bytR l v)]:=M8
 replace I8:jn≤8:=I8
 replace ek8:k8=8-jn:=ek8
 by_cases h8:jn<8
 ·have hlt:jn<l.length:=by omega
  obtain ⟨x,hx⟩:∃ x,l[jn]? = some x:=⟨_,List.getElem?_eq_getElem hlt⟩
  have hnx:=numP_next hx
  refine zSk fun _ hK9=>zT fun _ hK10=>rm rfl F8 fun _ F11=>zd (w':=w8) (zc rfl) rfl F11 rfl (.bool true) (zla _ _ _ _ rfl (F11.get (t:=5) rfl) rfl (decide_eq_true (show (jn:Int)<8 by omega))) fun _ F12=>?_
  refine hK10 _ _ (wp_cond_true (F12.get (t:=6) rfl) (wp_skip (hK9 _ _ (zSk fun _ hK13=>wp_block (zR (rm rfl F12 fun _ F14=>zd (w':=w8) (zc rfl) rfl F14 rfl (.int .i64 (IntKind.i64.wrap (numP l jn*2^(8:Int).toNat))) (y_shlI _ _ _ _ rfl (F14.get (t:=9) rfl) rfl (by decide) rfl) fun _ F15=>?_))))))
  refine rm rfl F15 fun _ F16=>rm rfl F16 fun _ F17=>zd (w':=w8) (zc rfl) rfl F17 rfl ((ixV (v) jn)) (y_ixB _ _ rfl (F17.get (t:=11) rfl) (M8.isb (k:=0) rfl) (F17.get (t:=12) rfl) rfl hlt) fun _ F18=>?_
  refine zd (w':=w8) (zc rfl) rfl F18 rfl (.int .u8 ((x.toNat:Nat):Int)) (y_ldB _ rfl (F18.get (t:=13) rfl) (M8.isb (k:=0) rfl) hx rfl) fun _ F19=>?_
  refine zd (w':=w8) (zc rfl) rfl F19 rfl (.int .i64 ((x.toNat:Nat):Int)) (y_cvI _ _ _ rfl (F19.get (t:=14) rfl) Tryz.underlying5 Tryz.underlying3 (byte_i64 _)) fun _ F20=>?_
  refine zd (w':=w8) (zc rfl) rfl F20 rfl (.int .i64 (numP l (jn+1))) (y_orU _ _ _ _ rfl (F20.get (t:=10) rfl) (F20.get (t:=15) rfl) hnx) fun _ F21=>?_
  refine rm rfl F21 fun _ F22=>hK13 _ _ (zR (rm rfl F22 fun _ F23=>zd (w':=w8) (zc rfl) rfl F23 rfl (.int .i64 ((jn+1:Nat):Int)) (zsa _ _ _ _ rfl (F23.get (t:=7) rfl) rfl (by omega) (by omega)) fun _ F24=>?_))
  refine rm rfl F24 fun _ F25=>?_
  subst ek8
  exact hK8 _ (jn+1) _ _ (by omega) ⟨rfl,(by omega)⟩ (F25.sb) (M8.sb)
 ·refine zSk fun _ hK26=>zT fun _ hK27=>rm rfl F8 fun _ F28=>zd (w':=w8) (zc rfl) rfl F28 rfl (.bool false) (zla _ _ _ _ rfl (F28.get (t:=5) rfl) rfl (decide_eq_false (show ¬(jn:Int)<8 by omega))) fun _ F29=>?_
  refine hK27 _ _ (wp_cond_false (F29.get (t:=6) rfl) (wp_exit ?_))
  simp only [Exit.then,Exit.inBlock,↓reduceIte,Nat.reduceEqDiff]
  refine hK5 _ _ (zT fun _ hK30=>rm rfl F29 fun _ F31=>rm rfl F31 fun _ F32=>hK30 _ _ (wp_ret ?_))
  try simp only [Exit.then,Exit.inBlock,Exit.jump]
  exact bodyPost_ret (res1 rfl (F32.get rfl)) F32.defers ⟨by rw [show numR l=numP l jn from by rw [show jn=8 by omega];rfl],M8.below⟩
end Go.Proofs.YtmjbnmbobocpdaaGreat
