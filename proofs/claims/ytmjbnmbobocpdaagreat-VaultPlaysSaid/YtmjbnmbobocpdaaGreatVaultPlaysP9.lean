/- What VaultPlays stands on, part 9. -/
import Derived.Test.YtmjbnmbobocpdaaGreatVaultPlaysP1
import Derived.Test.YtmjbnmbobocpdaaGreatVaultPlaysP2
import Derived.Test.YtmjbnmbobocpdaaGreatVaultPlaysP3
import Derived.Test.YtmjbnmbobocpdaaGreatVaultPlaysP4
import Derived.Test.YtmjbnmbobocpdaaGreatVaultPlaysP5
import Derived.Test.YtmjbnmbobocpdaaGreatVaultPlaysP6
import Derived.Test.YtmjbnmbobocpdaaGreatVaultPlaysP7
import Derived.Test.YtmjbnmbobocpdaaGreatVaultPlaysP8
set_option maxRecDepth 100000
set_option maxHeartbeats 8000000
set_option linter.unusedVariables false
set_option linter.unusedSimpArgs false
namespace Go.Proofs.YtmjbnmbobocpdaaGreat
open Go.ChangeShapes Go.WideShapes Go.ChangeAt Go.RowKit
theorem str_eqsT {s t:ByteArray} (h:s=t):decide (s.toList=t.toList)=true:=by subst h;exact decide_eq_true rfl
theorem str_eqsF {s t:ByteArray} (h:¬s=t):decide (s.toList=t.toList)=false:=decide_eq_false fun e=>h (by
 rw [ByteArray.toList_eq,ByteArray.toList_eq] at e
 cases s;cases t
 congr 1
 exact Array.toList_inj.1 e)
noncomputable def eqR (r r2:RecN):Bool:=decide (r.p=r2.p)&&@decide (r.s=r2.s) (Classical.propDecidable _)&&decide (r.l2=r2.l2)&&decide (r.a=r2.a)&&decide (r.b=r2.b)&&decide (r.l5=r2.l5)&&decide (r.t=r2.t)&&decide (r.c=r2.c)&&decide (r.z=r2.z)
theorem eqR_iff (r r2:RecN):eqR r r2=true↔r=r2:=by
 unfold eqR
 simp only [Bool.and_eq_true,decide_eq_true_eq]
 constructor
 ·rintro ⟨⟨⟨⟨⟨⟨⟨⟨h1,h2⟩,h3⟩,h4⟩,h5⟩,h6⟩,h7⟩,h8⟩,h9⟩
  cases r;cases r2
  simp_all
 ·rintro rfl;simp
theorem eqR_self (r:RecN):eqR r r=true:=(eqR_iff r r).2 rfl
theorem recs_any (r r2:RecN) (V V2:RecV) (ho:RecOk r) (ho2:RecOk r2) (w:World) (hm:RecIs w r V) (hm2:RecIs w r2 V2):
  Calls Tryz.prog 31 #[.agg (recA r V),.agg (recA r2 V2)] w fun e w'=>e=.returned (.bool (eqR r r2))∧Below w.heap.size w w':=by
 refine zk (args:=[.agg (recA r V),.agg (recA r2 V2)]) 70 Tryz.func31 rfl rfl rfl ?_
 intro fa F
 have M:=Mx.start w
 replace M:=M.argB 0 hm.h2 (fun g e=>by cases e)
 replace M:=M.argB 1 hm.h5 (fun g e=>by cases e)
 replace M:=M.argB 2 hm2.h2 (fun g e=>by cases e)
 replace M:=M.argB 3 hm2.h5 (fun g e=>by cases e)
 refine zT fun _ hK1=>zq rfl rfl F rfl M 4 (t:=37) (c:=recA r V) (by unfold execOp;simp only [(F 0 rfl)];kernel_rfl) ?_
 intro g2 a2 w2 F2 M2
 refine zq rfl rfl F2 rfl M2 5 (t:=37) (c:=recA r2 V2) (by unfold execOp;simp only [(F2 1 rfl)];kernel_rfl) ?_
 intro g3 a3 w3 F3 M3
 refine rm rfl F3 fun _ F4=>hK1 _ _ (zSk fun _ hK5=>?_)
 simp only [List.append_eq,List.cons_append,List.nil_append]
 refine zR (zB 4 [(2,(zO g2)),(3,(zO g3)),(4,.bool false),(6,zI r.p),(8,zI r2.p)] [0,1] (zx (M3.blk (k:=4) rfl) (zx (M3.blk (k:=5) rfl) dnil)) [g2,g3] F4 fun _ F6=>?_)
 by_cases h7:r.p=r2.p
 rotate_left
 ·refine rn rfl rfl F6 rfl (.bool false) (zva _ _ _ _ rfl (F6.get rfl) (F6.get rfl) Tryz.underlying3 (zhb h7)) fun _ F56=>?_
  refine zB 61 [(4,.bool false)] [] dnil [] F56 fun _ F57=>?_
  refine hK5 _ _ (wp_ret ?_)
  exact bodyPost_ret (res1 rfl (F57.get rfl)) F57.defers ⟨by rw [show eqR r r2=false from by unfold eqR;simp [h7]],M3.below⟩
 refine rn rfl rfl F6 rfl (.bool true) (zva _ _ _ _ rfl (F6.get rfl) (F6.get rfl) Tryz.underlying3 (zlb h7)) fun _ F8=>?_
 refine zB 5 [(2,(zO g2)),(3,(zO g3)),(4,.bool false),(10,.bool true),(12,.string r.s),(14,.string r2.s)] [0,1] (zx (M3.blk (k:=4) rfl) (zx (M3.blk (k:=5) rfl) dnil)) [g2,g3] F8 fun _ F9=>?_
 by_cases h10:r.s=r2.s
 rotate_left
 ·refine zc (w':=w3) (zd rfl rfl rfl (F9.get rfl)) rfl F9 rfl (.bool false) (y_eqS _ _ _ rfl (F9.get rfl) (F9.get rfl) (str_eqsF h10)) fun _ F54=>?_
  refine zB 55 [(4,.bool false)] [] dnil [] F54 fun _ F55=>?_
  refine hK5 _ _ (wp_ret ?_)
  exact bodyPost_ret (res1 rfl (F55.get rfl)) F55.defers ⟨by rw [show eqR r r2=false from by unfold eqR;simp [h7,h10]],M3.below⟩
 refine zc (w':=w3) (zd rfl rfl rfl (F9.get rfl)) rfl F9 rfl (.bool true) (y_eqS _ _ _ rfl (F9.get rfl) (F9.get rfl) (str_eqsT h10)) fun _ F11=>?_
 refine zB 4 [(2,(zO g2)),(3,(zO g3)),(4,.bool false),(17,.bool true),(19,V.v2)] [0] (zx (M3.blk (k:=4) rfl) dnil) [g2] F11 fun _ F12=>?_
 refine zc (w':=w3) (zd rfl rfl rfl (F12.get rfl)) rfl F12 rfl (.string (⟨(r.l2).toArray⟩)) (y_str _ rfl (F12.get rfl) (M3.isb (k:=0) rfl)) fun _ F13=>?_
 refine zAx 2 [(21,(zP g3 2)),(22,V2.v2)] [0] (zx (M3.blk (k:=5) rfl) dnil) [g3] F13 fun _ F14=>?_
 refine zc (w':=w3) (zd rfl rfl rfl (F14.get rfl)) rfl F14 rfl (.string (⟨(r2.l2).toArray⟩)) (y_str _ rfl (F14.get rfl) (M3.isb (k:=2) rfl)) fun _ F15=>?_
 by_cases h16:r.l2=r2.l2
 rotate_left
 ·refine zc (w':=w3) (zd rfl rfl rfl (F15.get rfl)) rfl F15 rfl (.bool false) (y_eqS _ _ _ rfl (F15.get rfl) (F15.get rfl) (str_ne h16)) fun _ F52=>?_
  refine zB 46 [(4,.bool false)] [] dnil [] F52 fun _ F53=>?_
  refine hK5 _ _ (wp_ret ?_)
  exact bodyPost_ret (res1 rfl (F53.get rfl)) F53.defers ⟨by rw [show eqR r r2=false from by unfold eqR;simp [h7,h10,h16]],M3.below⟩
 refine zc (w':=w3) (zd rfl rfl rfl (F15.get rfl)) rfl F15 rfl (.bool true) (y_eqS _ _ _ rfl (F15.get rfl) (F15.get rfl) (str_eq h16)) fun _ F17=>?_
 refine zB 6 [(2,(zO g2)),(3,(zO g3)),(4,.bool false),(26,.bool true),(28,numV r.a),(30,numV r2.a)] [0,1] (zx (M3.blk (k:=4) rfl) (zx (M3.blk (k:=5) rfl) dnil)) [g2,g3] F17 fun _ F18=>?_
 by_cases h19:r.a=r2.a
 rotate_left
 ·refine zc (w':=w3) (zd rfl rfl rfl (F18.get rfl)) rfl F18 rfl (.bool false) (y_eqA _ _ _ _ rfl (F18.get rfl) (F18.get rfl) (by kernel_rfl) (eqn_diff ho.a ho2.a h19 _)) fun _ F50=>?_
  refine zB 39 [(4,.bool false)] [] dnil [] F50 fun _ F51=>?_
  refine hK5 _ _ (wp_ret ?_)
  exact bodyPost_ret (res1 rfl (F51.get rfl)) F51.defers ⟨by rw [show eqR r r2=false from by unfold eqR;simp [h7,h10,h16,h19]],M3.below⟩
 refine zc (w':=w3) (zd rfl rfl rfl (F18.get rfl)) rfl F18 rfl (.bool true) (y_eqA _ _ _ _ rfl (F18.get rfl) (F18.get rfl) (by kernel_rfl) (by rw [h19];exact eqn_same _ _)) fun _ F20=>?_
 refine zB 6 [(2,(zO g2)),(3,(zO g3)),(4,.bool false),(33,.bool true),(35,numV r.b),(37,numV r2.b)] [0,1] (zx (M3.blk (k:=4) rfl) (zx (M3.blk (k:=5) rfl) dnil)) [g2,g3] F20 fun _ F21=>?_
 by_cases h22:r.b=r2.b
 rotate_left
 ·refine zc (w':=w3) (zd rfl rfl rfl (F21.get rfl)) rfl F21 rfl (.bool false) (y_eqA _ _ _ _ rfl (F21.get rfl) (F21.get rfl) (by kernel_rfl) (eqn_diff ho.b ho2.b h22 _)) fun _ F48=>?_
  refine zB 32 [(4,.bool false)] [] dnil [] F48 fun _ F49=>?_
  refine hK5 _ _ (wp_ret ?_)
  exact bodyPost_ret (res1 rfl (F49.get rfl)) F49.defers ⟨by rw [show eqR r r2=false from by unfold eqR;simp [h7,h10,h16,h19,h22]],M3.below⟩
 refine zc (w':=w3) (zd rfl rfl rfl (F21.get rfl)) rfl F21 rfl (.bool true) (y_eqA _ _ _ _ rfl (F21.get rfl) (F21.get rfl) (by kernel_rfl) (by rw [h22];exact eqn_same _ _)) fun _ F23=>?_
 refine zB 4 [(2,(zO g2)),(3,(zO g3)),(4,.bool false),(40,.bool true),(42,V.v5)] [0] (zx (M3.blk (k:=4) rfl) dnil) [g2] F23 fun _ F24=>?_
 refine zc (w':=w3) (zd rfl rfl rfl (F24.get rfl)) rfl F24 rfl (.string (⟨(r.l5).toArray⟩)) (y_str _ rfl (F24.get rfl) (M3.isb (k:=1) rfl)) fun _ F25=>?_
 refine zAx 2 [(44,(zP g3 19)),(45,V2.v5)] [0] (zx (M3.blk (k:=5) rfl) dnil) [g3] F25 fun _ F26=>?_
 refine zc (w':=w3) (zd rfl rfl rfl (F26.get rfl)) rfl F26 rfl (.string (⟨(r2.l5).toArray⟩)) (y_str _ rfl (F26.get rfl) (M3.isb (k:=3) rfl)) fun _ F27=>?_
 by_cases h28:r.l5=r2.l5
 rotate_left
 ·refine zc (w':=w3) (zd rfl rfl rfl (F27.get rfl)) rfl F27 rfl (.bool false) (y_eqS _ _ _ rfl (F27.get rfl) (F27.get rfl) (str_ne h28)) fun _ F46=>?_
  refine zB 23 [(4,.bool false)] [] dnil [] F46 fun _ F47=>?_
  refine hK5 _ _ (wp_ret ?_)
  exact bodyPost_ret (res1 rfl (F47.get rfl)) F47.defers ⟨by rw [show eqR r r2=false from by unfold eqR;simp [h7,h10,h16,h19,h22,h28]],M3.below⟩
 refine zc (w':=w3) (zd rfl rfl rfl (F27.get rfl)) rfl F27 rfl (.bool true) (y_eqS _ _ _ rfl (F27.get rfl) (F27.get rfl) (str_eq h28)) fun _ F29=>?_
 refine zB 6 [(2,(zO g2)),(3,(zO g3)),(4,.bool false),(49,.bool true),(51,zI r.t),(53,zI r2.t)] [0,1] (zx (M3.blk (k:=4) rfl) (zx (M3.blk (k:=5) rfl) dnil)) [g2,g3] F29 fun _ F30=>?_
 by_cases h31:r.t=r2.t
 rotate_left
 ·refine zc (w':=w3) (zd rfl rfl rfl (F30.get rfl)) rfl F30 rfl (.bool false) (zva _ _ _ _ rfl (F30.get rfl) (F30.get rfl) Tryz.underlying3 (zhb h31)) fun _ F44=>?_
  refine zB 16 [(4,.bool false)] [] dnil [] F44 fun _ F45=>?_
  refine hK5 _ _ (wp_ret ?_)
  exact bodyPost_ret (res1 rfl (F45.get rfl)) F45.defers ⟨by rw [show eqR r r2=false from by unfold eqR;simp [h7,h10,h16,h19,h22,h28,h31]],M3.below⟩
 refine zc (w':=w3) (zd rfl rfl rfl (F30.get rfl)) rfl F30 rfl (.bool true) (zva _ _ _ _ rfl (F30.get rfl) (F30.get rfl) Tryz.underlying3 (zlb h31)) fun _ F32=>?_
 refine zB 6 [(2,(zO g2)),(3,(zO g3)),(4,.bool false),(56,.bool true),(58,zI r.c),(60,zI r2.c)] [0,1] (zx (M3.blk (k:=4) rfl) (zx (M3.blk (k:=5) rfl) dnil)) [g2,g3] F32 fun _ F33=>?_
 by_cases h34:r.c=r2.c
 rotate_left
 ·refine zc (w':=w3) (zd rfl rfl rfl (F33.get rfl)) rfl F33 rfl (.bool false) (zva _ _ _ _ rfl (F33.get rfl) (F33.get rfl) Tryz.underlying3 (zhb h34)) fun _ F42=>?_
  refine zB 9 [(4,.bool false)] [] dnil [] F42 fun _ F43=>?_
  refine hK5 _ _ (wp_ret ?_)
  exact bodyPost_ret (res1 rfl (F43.get rfl)) F43.defers ⟨by rw [show eqR r r2=false from by unfold eqR;simp [h7,h10,h16,h19,h22,h28,h31,h34]],M3.below⟩
 refine zc (w':=w3) (zd rfl rfl rfl (F33.get rfl)) rfl F33 rfl (.bool true) (zva _ _ _ _ rfl (F33.get rfl) (F33.get rfl) Tryz.underlying3 (zlb h34)) fun _ F35=>?_
 refine zB 6 [(4,.bool false),(63,.bool true),(65,zI r.z),(67,zI r2.z)] [0,1] (zx (M3.blk (k:=4) rfl) (zx (M3.blk (k:=5) rfl) dnil)) [g2,g3] F35 fun _ F36=>?_
 by_cases h37:r.z=r2.z
 ·refine zc (w':=w3) (zd rfl rfl rfl (F36.get rfl)) rfl F36 rfl (.bool true) (zva _ _ _ _ rfl (F36.get rfl) (F36.get rfl) Tryz.underlying3 (zlb h37)) fun _ F38=>?_
  refine zB 2 [(4,.bool true)] [] dnil [] F38 fun _ F39=>?_
  refine hK5 _ _ (wp_ret ?_)
  exact bodyPost_ret (res1 rfl (F39.get rfl)) F39.defers ⟨by rw [show eqR r r2=true from by unfold eqR;simp [h7,h10,h16,h19,h22,h28,h31,h34,h37]],M3.below⟩
 refine zc (w':=w3) (zd rfl rfl rfl (F36.get rfl)) rfl F36 rfl (.bool false) (zva _ _ _ _ rfl (F36.get rfl) (F36.get rfl) Tryz.underlying3 (zhb h37)) fun _ F40=>?_
 refine zB 2 [(4,.bool false)] [] dnil [] F40 fun _ F41=>?_
 refine hK5 _ _ (wp_ret ?_)
 exact bodyPost_ret (res1 rfl (F41.get rfl)) F41.defers ⟨by rw [show eqR r r2=false from by unfold eqR;simp [h7,h10,h16,h19,h22,h28,h31,h34,h37]],M3.below⟩
theorem rec_is (r:RecN) (V:RecV) (ho:RecOk r) (ok:Bool) (l:List UInt8) (h1:zia r=ok) (h2:recE r=l) (w:World) (hm:RecIs w r V):Calls Tryz.prog 48 #[.agg (recA r V)] w fun e w'=>∃ t,e=.returned t∧∃ v,t=.tuple #[v,.bool ok]∧Byt w' w.heap.size v l∧Below w.heap.size w w':=by
 subst h1 h2;exact record_ex r V ho w hm
theorem recs_is (r r2:RecN) (V V2:RecV) (ho:RecOk r) (ho2:RecOk r2) (ok:Bool) (h1:eqR r r2=ok) (w:World) (hm:RecIs w r V) (hm2:RecIs w r2 V2):Calls Tryz.prog 31 #[.agg (recA r V),.agg (recA r2 V2)] w fun e w'=>e=.returned (.bool ok)∧Below w.heap.size w w':=by
 subst h1;exact recs_any r r2 V V2 ho ho2 w hm hm2
theorem maker_is (n:Int) (s:ByteArray) (b:List UInt8) (v:Value) (hN:-9223372036854775808≤n∧n<9223372036854775808) (hs:s.size≤40) (hbl:b.length≤1000) (r:RecN) (hr:mkR n s b=r) (w:World) (hv:IsB w b v):Calls Tryz.prog 47 #[zI n,.string s,v] w fun e w'=>∃ t,e=.returned t∧∃ V,t=.agg (recA r V)∧RecIs w' r V∧(∀ g,bfp V.v2 g∨bfp V.v5 g→w.heap.size≤g)∧Below w.heap.size w w':=by
 subst hr;exact make_rec n s b v hN hs hbl w hv
section
variable {G:Option Nat} {w0 w:World} {R:List (Nat×Res)}
theorem Mx.newRec {w':World} (M:Mx G w0 w R) (h:Below w.heap.size w w') {r:RecN} {V:RecV} (hm:RecIs w' r V) (hlo:∀ q,bfp V.v2 q∨bfp V.v5 q→w.heap.size≤q) (a b:Nat):Mx G w0 w' ((b,bytR r.l5 V.v5)::(a,bytR r.l2 V.v2)::R):=by
 obtain ⟨M1,n1⟩:=(M.step h).roB2 (N:=w.heap.size) (fun k s e _ g hg=>M.lt k s e g hg) a hm.h2 (fun g hg=>hlo g (.inl hg))
 exact (M1.roB2 n1 b hm.h5 (fun g hg=>hlo g (.inr hg))).1
end
theorem rZero_ok:RecOk rZero:=⟨by decide,by decide,by decide,by decide,by decide,by decide,by decide⟩
theorem rdR_ok (b:List UInt8):RecOk (rdR b):=by
 unfold rdR provR
 split
 ·exact rdM_ok b
 ·exact rZero_ok
theorem HasV.step {w w':World} {g:Nat} {V:VltN} {s n:Nat→Value} (h:HasV w g V s n) (hb:Below w.heap.size w w'):HasV w' g V s n:=
 ⟨(hb.block g (z8a h.blk)).trans h.blk,fun i hi=>(h.hs i hi).step hb,fun i hi=>(h.hn i hi).step hb⟩
theorem cnt_len (V:VltN) (q:Nat) (h1:(V.c q).s.length≤1000) (h2:(V.c (q+1)).s.length≤1000):(cntS V q).length≤1000:=by
 have:∀ b:List UInt8,(entS b).length≤b.length:=fun b=>by
  unfold entS;split
  ·rw [saysL_len];omega
  ·exact Nat.zero_le _
 unfold cntS
 split
 ·exact Nat.le_trans (this _) h2
 ·exact Nat.le_trans (this _) h1
def zeroRec:RecN:=⟨0, "".toUTF8,[],0,0,[],0,0,0⟩
noncomputable def zec (V:VltN) (q:Nat):Bool:=anyB zr V q&&rdOk (cntS V q)
noncomputable def z0a (V:VltN) (q:Nat):RecN:=if anyB zr V q=true then rdR (cntS V q) else zeroRec
def numB (V:VltN) (q:Nat):Bool:=anyB zr V q&&numOk (cntS V q)
def zhc (V:VltN) (q:Nat):Int:=if anyB zr V q=true then numI (cntS V q) else 0
theorem vrd_is (b:List UInt8) (bv:Value) (hl:b.length≤100000) (ok:Bool) (r:RecN) (h1:rdOk b=ok) (h2:rdR b=r) (w:World) (hb:IsB w b bv):Calls Tryz.prog 105 #[bv] w fun e w'=>∃ t,e=.returned t∧∃ V,t=.tuple #[.agg (recA r V),.bool ok]∧RecIs w' r V∧(∀ q,bfp V.v2 q∨bfp V.v5 q→w.heap.size≤q)∧Below w.heap.size w w':=by
 subst h1 h2;exact (readrec_any b bv hl w hb).mono fun e w' ⟨V,k1,k2,k3,k4⟩=>⟨_,k1,V,rfl,k2,k3,k4⟩
theorem vnum_is (b:List UInt8) (bv:Value) (hl:b.length≤100000) (ok:Bool) (r:Int) (h1:numOk b=ok) (h2:numI b=r) (w:World) (hb:IsB w b bv):Calls Tryz.prog 88 #[bv] w fun e w'=>e=.returned (.tuple #[zI r,.bool ok])∧Below w.heap.size w w':=by
 subst h1 h2;exact number_any b bv hl w hb
theorem countsR_is (q:Nat) (hq:q+1<18) (g:Nat) (V:VltN) (s n:Nat→Value) (hv:z2a V) (b:Bool) (hA:anyB zr V q=b) (w:World) (h:HasV w g V s n):Calls Tryz.prog 106 #[.agg #[zI (q:Int),.func (.func 105) #[] #[]],(zO g)] w fun e w'=>∃ t,e=.returned t∧∃ S,t=.tuple #[.agg #[zI (cntP V q:Int),zI (cntT V q),S],.bool b]∧IsB w (cntS V q) S∧(∀ b,bfp S b→bfp (s q) b∨bfp (s (q+1)) b)∧Below w.heap.size w w':=by
 subst hA;exact (countsR q hq g V s n hv w h).mono fun e w' ⟨S,k1,k2,k3,k4⟩=>⟨_,k1,S,rfl,k2,k3,k4⟩
theorem countsI_is (q:Nat) (hq:q+1<18) (g:Nat) (V:VltN) (s n:Nat→Value) (hv:z2a V) (b:Bool) (hA:anyB zr V q=b) (w:World) (h:HasV w g V s n):Calls Tryz.prog 89 #[.agg #[zI (q:Int),.func (.func 88) #[] #[]],(zO g)] w fun e w'=>∃ t,e=.returned t∧∃ S,t=.tuple #[.agg #[zI (cntP V q:Int),zI (cntT V q),S],.bool b]∧IsB w (cntS V q) S∧(∀ b,bfp S b→bfp (s q) b∨bfp (s (q+1)) b)∧Below w.heap.size w w':=by
 subst hA;exact (countsI q hq g V s n hv w h).mono fun e w' ⟨S,k1,k2,k3,k4⟩=>⟨_,k1,S,rfl,k2,k3,k4⟩
theorem saysR (q:Nat) (hq:q+1<18) (g:Nat) (V:VltN) (s n:Nat→Value) (hv:z2a V) (w:World) (h:HasV w g V s n):
  Calls Tryz.prog 85 #[.agg #[zI (q:Int),.func (.func 105) #[] #[]],(zO g)] w fun e w'=>∃ V',e=.returned (.tuple #[.agg (recA (z0a V q) V'),.bool (zec V q)])∧RecIs w' (z0a V q) V'∧(∀ b,bfp V'.v2 b∨bfp V'.v5 b→w.heap.size≤b)∧Below w.heap.size w w':=by
 obtain ⟨qA,hA⟩:∃ x,anyB zr V q=x:=⟨_,rfl⟩
 have hcl:=cnt_len V q (hv q (by omega)).1 (hv (q+1) hq).1
 obtain ⟨qR,hR⟩:∃ x,rdOk (cntS V q)=x:=⟨_,rfl⟩
 rw [show zec V q=(qA&&qR) by rw [zec,hA,hR]]
 obtain ⟨rr,hrr⟩:∃ x,rdR (cntS V q)=x:=⟨_,rfl⟩
 rw [show z0a V q=if qA=true then rr else zeroRec by rw [z0a,hA,hrr]]
 refine zk (args:=[.agg (#[zI (q:Int),.func (.func 105) #[] #[]]),(zO g)]) 25 Tryz.func85 rfl rfl rfl ?_
 intro fa F
 have M:=Mx.start w
 replace M:=M.argO 0 h.blk (fun b e=>by cases e)
 refine zT fun _ hK1=>zq rfl rfl F rfl M 1 (t:=87) (c:=#[zI (q:Int),.func (.func 105) #[] #[]]) (by unfold execOp;simp only [(F 0 rfl)];kernel_rfl) ?_
 intro g2 a2 w2 F2 M2
 refine zq rfl rfl F2 rfl M2 2 (t:=37) (c:=recA ⟨0, "".toUTF8,[],0,0,[],0,0,0⟩ ⟨zN,zN⟩) (by unfold execOp;kernel_rfl) ?_
 intro g3 a3 w3 F3 M3
 refine rm rfl F3 fun _ F4=>hK1 _ _ (zT fun _ hK5=>zc (w':=w3) rfl rfl F4 rfl _ (zdb _ _ rfl (F4 2 rfl) (M3.blk (k:=1) rfl) (#[zI (q:Int),.func (.func 105) #[] #[]]) (zib rfl) Tryz.underlying87 rfl (by kernel_rfl)) fun _ F6=>?_)
 refine rm rfl F6 fun _ F7=>zh rfl rfl F7 rfl rfl (zE Tryz.func106 rfl) #[.agg (#[zI (q:Int),.func (.func 105) #[] #[]]),(zO g)] (zea (F7 10 rfl) (F7 11 rfl)) (countsR_is q hq g V s n hv qA hA w3 (h.step M3.below)) ?_
 rintro _ w8 a8 ⟨S8,rfl,hS8,hf8,b8⟩ F8
 have hS0:=hS8.back M3.below (fun g hg=>(hf8 g hg).elim (fun h3=>(h.hs q (by omega)).lt h3) (fun h3=>(h.hs (q+1) hq).lt h3))
 have M8:=M3.step b8
 refine zB 3 [(2,(zO g2)),(4,(zO g3)),(5,.bool false),(13,.agg (#[zI (cntP V q:Int),zI (cntT V q),S8])),(14,.bool qA)] [] dnil [] F8 fun _ F9=>?_
 refine zq rfl rfl F9 rfl M8 3 (t:=128) (c:=#[zI 0,zI 0,zN]) (by unfold execOp;kernel_rfl) ?_
 intro g10 a10 w10 F10 M10
 refine zt rfl rfl F10 M10 (k:=3) rfl _ _ _ rfl (F10 6 rfl) (F10 13 rfl) (#[zI (cntP V q:Int),zI (cntT V q),S8]) _ rfl (zL rfl) (zyc (hS0.step M10.below)) (zfa rfl) (by kernel_rfl) ?_
 intro w11 M11
 refine rm rfl F10 fun _ F12=>hK5 _ _ (zSk fun _ hK13=>zT fun _ hK14=>rm rfl F12 fun _ F15=>?_)
 cases qA
 ·refine zc (w':=w11) rfl rfl F15 rfl (.bool true) (zjb _ _ rfl (F15 15 rfl)) fun _ F16=>?_
  refine hK14 _ _ (wp_cond_true (F16 16 rfl) (zT fun _ hK17=>zq rfl rfl F16 rfl M11 4 (t:=37) (c:=recA ⟨0, "".toUTF8,[],0,0,[],0,0,0⟩ ⟨zN,zN⟩) (by unfold execOp;kernel_rfl) ?_))
  intro g18 a18 w18 F18 M18
  refine hK17 _ _ (zT fun _ hK19=>zc (w':=w18) rfl rfl F18 rfl _ (zdb _ _ rfl (F18 8 rfl) (M18.blk (k:=4) rfl) (recA ⟨0, "".toUTF8,[],0,0,[],0,0,0⟩ ⟨zN,zN⟩) (zib rfl) Tryz.underlying37 rfl (by kernel_rfl)) fun _ F20=>?_)
  refine zt rfl rfl F20 M18 (k:=2) rfl _ _ _ rfl (F20 4 rfl) (F20 17 rfl) (recA ⟨0, "".toUTF8,[],0,0,[],0,0,0⟩ ⟨zN,zN⟩) _ rfl (zL rfl) (z3a (w:=w18) ⟨(zka _),(zka _)⟩) (zfa rfl) (by kernel_rfl) ?_
  intro w21 M21
  refine rm rfl F20 fun _ F22=>hK19 _ _ (wp_ret ?_)
  try simp only [Exit.then,Exit.inBlock,Exit.jump]
  exact bodyPost_ret (resCT rfl (F22.get rfl) (M21.blk (k:=2) rfl) (F22.get rfl) Tryz.underlying37 rfl (by kernel_rfl)) F22.defers ⟨⟨zN,zN⟩,rfl,⟨zka _,zka _⟩,(fun q h=>h.elim (fun h=>absurd h (zta q)) (fun h=>absurd h (zta q))),M21.below⟩
 ·refine zc (w':=w11) rfl rfl F15 rfl (.bool false) (zjb _ _ rfl (F15 15 rfl)) fun _ F23=>?_
  refine hK14 _ _ (wp_cond_false (F23 16 rfl) (wp_skip (hK13 _ _ (zT fun _ hK24=>zB 4 [(4,(zO g3)),(5,.bool false),(19,.func (.func 105) #[] #[]),(21,S8)] [0,1] (zx (M11.blk (k:=1) rfl) (zx (M11.blk (k:=3) rfl) dnil)) [g2,g10] F23 fun _ F25=>?_))))
  refine wl_callV rfl rfl F25 rfl rfl (F25 19 rfl) (zE Tryz.func105 rfl) #[S8] (show _++_=_ from by rw [(zca (F25 21 rfl))];rfl) (vrd_is (cntS V q) (S8) (by omega) qR rr hR hrr w11 (hS0.step M11.below)) ?_
  rintro _ w26 a26 ⟨V26,rfl,is26,lo26,b26⟩ F26
  have lf:=fun q h=>Nat.le_trans M11.le (lo26 q h)
  have M26:=M11.newRec b26 is26 lo26 4 5
  clear M11 b26 lo26
  refine zB 2 [(4,(zO g3)),(5,.bool false),(23,.agg (recA rr V26)),(24,.bool qR)] [] dnil [] F26 fun _ F27=>?_
  refine zt rfl rfl F27 M26 (k:=2) rfl _ _ _ rfl (F27 4 rfl) (F27 23 rfl) (recA rr V26) _ rfl (zL rfl) (z3a (w:=w26) ⟨(M26.isb (k:=4) rfl),(M26.isb (k:=5) rfl)⟩) (zfa rfl) (by kernel_rfl) ?_
  intro w28 M28
  refine rm rfl F27 fun _ F29=>hK24 _ _ (wp_ret ?_)
  try simp only [Exit.then,Exit.inBlock,Exit.jump]
  exact bodyPost_ret (resCT rfl (F29.get rfl) (M28.blk (k:=2) rfl) (F29.get rfl) Tryz.underlying37 rfl (by kernel_rfl)) F29.defers ⟨_,rfl,⟨(M28.isb (k:=4) rfl),(M28.isb (k:=5) rfl)⟩,lf,M28.below⟩
theorem saysI (q:Nat) (hq:q+1<18) (g:Nat) (V:VltN) (s n:Nat→Value) (hv:z2a V) (w:World) (h:HasV w g V s n):
  Calls Tryz.prog 59 #[.agg #[zI (q:Int),.func (.func 88) #[] #[]],(zO g)] w fun e w'=>e=.returned (.tuple #[zI (zhc V q),.bool (numB V q)])∧Below w.heap.size w w':=by
 obtain ⟨qA,hA⟩:∃ x,anyB zr V q=x:=⟨_,rfl⟩
 have hcl:=cnt_len V q (hv q (by omega)).1 (hv (q+1) hq).1
 obtain ⟨qR,hR⟩:∃ x,numOk (cntS V q)=x:=⟨_,rfl⟩
 rw [show numB V q=(qA&&qR) by rw [numB,hA,hR]]
 obtain ⟨rr,hrr⟩:∃ x,numI (cntS V q)=x:=⟨_,rfl⟩
 rw [show zhc V q=if qA=true then rr else 0 by rw [zhc,hA,hrr]]
 refine zk (args:=[.agg (#[zI (q:Int),.func (.func 88) #[] #[]]),(zO g)]) 25 Tryz.func59 rfl rfl rfl ?_
 intro fa F
 have M:=Mx.start w
 replace M:=M.argO 0 h.blk (fun b e=>by cases e)
 refine zT fun _ hK1=>zq rfl rfl F rfl M 1 (t:=100) (c:=#[zI (q:Int),.func (.func 88) #[] #[]]) (by unfold execOp;simp only [(F 0 rfl)];kernel_rfl) ?_
 intro g2 a2 w2 F2 M2
 refine rm rfl F2 fun _ F3=>rm rfl F3 fun _ F4=>hK1 _ _ (zT fun _ hK5=>zc (w':=w2) rfl rfl F4 rfl _ (zdb _ _ rfl (F4 2 rfl) (M2.blk (k:=1) rfl) (#[zI (q:Int),.func (.func 88) #[] #[]]) (zib rfl) Tryz.underlying100 rfl (by kernel_rfl)) fun _ F6=>?_)
 refine rm rfl F6 fun _ F7=>zh rfl rfl F7 rfl rfl (zE Tryz.func89 rfl) #[.agg (#[zI (q:Int),.func (.func 88) #[] #[]]),(zO g)] (zea (F7 10 rfl) (F7 11 rfl)) (countsI_is q hq g V s n hv qA hA w2 (h.step M2.below)) ?_
 rintro _ w8 a8 ⟨S8,rfl,hS8,hf8,b8⟩ F8
 have hS0:=hS8.back M2.below (fun g hg=>(hf8 g hg).elim (fun h3=>(h.hs q (by omega)).lt h3) (fun h3=>(h.hs (q+1) hq).lt h3))
 have M8:=M2.step b8
 refine zB 3 [(2,(zO g2)),(4,zI 0),(5,.bool false),(13,.agg (#[zI (cntP V q:Int),zI (cntT V q),S8])),(14,.bool qA)] [] dnil [] F8 fun _ F9=>?_
 refine zq rfl rfl F9 rfl M8 2 (t:=128) (c:=#[zI 0,zI 0,zN]) (by unfold execOp;kernel_rfl) ?_
 intro g10 a10 w10 F10 M10
 refine zt rfl rfl F10 M10 (k:=2) rfl _ _ _ rfl (F10 6 rfl) (F10 13 rfl) (#[zI (cntP V q:Int),zI (cntT V q),S8]) _ rfl (zL rfl) (zyc (hS0.step M10.below)) (zfa rfl) (by kernel_rfl) ?_
 intro w11 M11
 refine rm rfl F10 fun _ F12=>hK5 _ _ (zSk fun _ hK13=>zT fun _ hK14=>rm rfl F12 fun _ F15=>?_)
 cases qA
 ·refine zc (w':=w11) rfl rfl F15 rfl (.bool true) (zjb _ _ rfl (F15 15 rfl)) fun _ F16=>?_
  refine hK14 _ _ (wp_cond_true (F16 16 rfl) (zT fun _ hK17=>rm rfl F16 fun _ F18=>hK17 _ _ (zT fun _ hK19=>rm rfl F18 fun _ F20=>rm rfl F20 fun _ F21=>rm rfl F21 fun _ F22=>hK19 _ _ (wp_ret ?_))))
  try simp only [Exit.then,Exit.inBlock,Exit.jump]
  exact bodyPost_ret (res2 rfl (F22.get rfl) (F22.get rfl)) F22.defers ⟨rfl,M11.below⟩
 ·refine zc (w':=w11) rfl rfl F15 rfl (.bool false) (zjb _ _ rfl (F15 15 rfl)) fun _ F23=>?_
  refine hK14 _ _ (wp_cond_false (F23 16 rfl) (wp_skip (hK13 _ _ (zT fun _ hK24=>zB 4 [(4,zI 0),(5,.bool false),(19,.func (.func 88) #[] #[]),(21,S8)] [0,1] (zx (M11.blk (k:=1) rfl) (zx (M11.blk (k:=2) rfl) dnil)) [g2,g10] F23 fun _ F25=>?_))))
  refine wl_callV rfl rfl F25 rfl rfl (F25 19 rfl) (zE Tryz.func88 rfl) #[S8] (show _++_=_ from by rw [(zca (F25 21 rfl))];rfl) (zda ((vnum_is (cntS V q) (S8) (by omega) qR rr hR hrr w11 (hS0.step M11.below)))) ?_
  rintro _ w26 a26 ⟨rfl,b26⟩ F26
  have M26:=M11.step b26
  refine zB 4 [(4,zI rr),(5,.bool qR)] [] dnil [] F26 fun _ F27=>?_
  refine hK24 _ _ (wp_ret ?_)
  try simp only [Exit.then,Exit.inBlock,Exit.jump]
  exact bodyPost_ret (res2 rfl (F27.get rfl) (F27.get rfl)) F27.defers ⟨rfl,M26.below⟩
def zwa (V:VltN) (q:Nat):Bool:=!anyB zr V q||decide (((cntS V q).length:Int)=0)
theorem empty_any (q:Nat) (hq:q+1<18) (g:Nat) (V:VltN) (s n:Nat→Value) (hv:z2a V) (w:World) (h:HasV w g V s n):
  Calls Tryz.prog 76 #[.agg #[zI (q:Int),.func (.func 105) #[] #[]],(zO g)] w fun e w'=>e=.returned (.bool (zwa V q))∧Below w.heap.size w w':=by
 obtain ⟨qA,hA⟩:∃ x,anyB zr V q=x:=⟨_,rfl⟩
 have hcl:=cnt_len V q (hv q (by omega)).1 (hv (q+1) hq).1
 rw [show zwa V q=(!qA||decide (((cntS V q).length:Int)=0)) by rw [zwa,hA]]
 refine zk (args:=[.agg (#[zI (q:Int),.func (.func 105) #[] #[]]),(zO g)]) 21 Tryz.func76 rfl rfl rfl ?_
 intro fa F
 have M:=Mx.start w
 replace M:=M.argO 0 h.blk (fun b e=>by cases e)
 refine zT fun _ hK1=>zq rfl rfl F rfl M 1 (t:=87) (c:=#[zI (q:Int),.func (.func 105) #[] #[]]) (by unfold execOp;simp only [(F 0 rfl)];kernel_rfl) ?_
 intro g2 a2 w2 F2 M2
 refine rm rfl F2 fun _ F3=>hK1 _ _ (zT fun _ hK4=>zc (w':=w2) rfl rfl F3 rfl _ (zdb _ _ rfl (F3 2 rfl) (M2.blk (k:=1) rfl) (#[zI (q:Int),.func (.func 105) #[] #[]]) (zib rfl) Tryz.underlying87 rfl (by kernel_rfl)) fun _ F5=>?_)
 refine rm rfl F5 fun _ F6=>zh rfl rfl F6 rfl rfl (zE Tryz.func106 rfl) #[.agg (#[zI (q:Int),.func (.func 105) #[] #[]]),(zO g)] (zea (F6 8 rfl) (F6 9 rfl)) (countsR_is q hq g V s n hv qA hA w2 (h.step M2.below)) ?_
 rintro _ w7 a7 ⟨S7,rfl,hS7,hf7,b7⟩ F7
 have hS0:=hS7.back M2.below (fun g hg=>(hf7 g hg).elim (fun h3=>(h.hs q (by omega)).lt h3) (fun h3=>(h.hs (q+1) hq).lt h3))
 have M7:=M2.step b7
 refine zB 3 [(4,.bool false),(11,.agg (#[zI (cntP V q:Int),zI (cntT V q),S7])),(12,.bool qA)] [] dnil [] F7 fun _ F8=>?_
 refine zq rfl rfl F8 rfl M7 2 (t:=128) (c:=#[zI 0,zI 0,zN]) (by unfold execOp;kernel_rfl) ?_
 intro g9 a9 w9 F9 M9
 refine zt rfl rfl F9 M9 (k:=2) rfl _ _ _ rfl (F9 5 rfl) (F9 11 rfl) (#[zI (cntP V q:Int),zI (cntT V q),S7]) _ rfl (zL rfl) (zyc (hS0.step M9.below)) (zfa rfl) (by kernel_rfl) ?_
 intro w10 M10
 refine rm rfl F9 fun _ F11=>hK4 _ _ (zT fun _ hK12=>rm rfl F11 fun _ F13=>?_)
 cases qA
 ·refine zB 8 [(4,.bool true)] [] dnil [] F13 fun _ F14=>?_
  exact hK12 _ _ (wp_ret (bodyPost_ret (res1 rfl (F14.get rfl)) F14.defers ⟨rfl,M10.below⟩))
 ·refine zB 4 [(4,.bool false),(15,.bool false),(17,S7)] [0] (zx (M10.blk (k:=2) rfl) dnil) [g9] F13 fun _ F15=>?_
  refine zc (w':=w10) (zd rfl rfl rfl (F15 15 rfl)) rfl F15 rfl (zI ((cntS V q).length:Int)) (zcb _ rfl (F15 17 rfl) (hS0.step M10.below) rfl) fun _ F16=>?_
  by_cases h17:((cntS V q).length:Int)=0
  ·refine zc (w':=w10) (zd rfl rfl rfl (F16 15 rfl)) rfl F16 rfl (.bool true) (zva _ _ _ _ rfl (F16 18 rfl) rfl Tryz.underlying3 (zlb h17)) fun _ F18=>?_
   refine zB 2 [(4,.bool true)] [] dnil [] F18 fun _ F19=>?_
   exact hK12 _ _ (wp_ret (bodyPost_ret (res1 rfl (F19.get rfl)) F19.defers ⟨(by rw [decide_eq_true h17];rfl),M10.below⟩))
  ·refine zc (w':=w10) (zd rfl rfl rfl (F16 15 rfl)) rfl F16 rfl (.bool false) (zva _ _ _ _ rfl (F16 18 rfl) rfl Tryz.underlying3 (zhb h17)) fun _ F20=>?_
   refine zB 2 [(4,.bool false)] [] dnil [] F20 fun _ F21=>?_
   exact hK12 _ _ (wp_ret (bodyPost_ret (res1 rfl (F21.get rfl)) F21.defers ⟨(by rw [decide_eq_false h17];rfl),M10.below⟩))
theorem eras_any  (w:World):
  Calls Tryz.prog 58 #[] w fun e w'=>e=.returned (.agg #[zI 16,.func (.func 88) #[] #[]])∧Below w.heap.size w w':=by
 refine zk (args:=[]) 2 Tryz.func58 rfl rfl rfl ?_
 intro fa F
 have M:=Mx.start w
 refine zT fun _ hK1=>zq rfl rfl F rfl M 0 (t:=100) (c:=#[zI 0,.nilFunc]) (by unfold execOp;kernel_rfl) ?_
 intro g2 a2 w2 F2 M2
 refine hK1 _ _ (zT fun _ hK3=>zc (w':=w2) rfl rfl F2 rfl (.agg (#[zI 16,.func (.func 88) #[] #[]])) (by unfold execOp;simp only [List.map_toArray,List.map_cons,List.map_nil,];kernel_rfl) fun _ F4=>?_)
 refine zt rfl rfl F4 M2 (k:=0) rfl _ _ _ rfl (F4 0 rfl) (F4 1 rfl) (#[zI 16,.func (.func 88) #[] #[]]) _ rfl (zL rfl) (by first | rfl | simp [Value.oneCell']) (zfa rfl) (by kernel_rfl) ?_
 intro w5 M5
 exact hK3 _ _ (wp_ret (bodyPost_ret (results_cell_row rfl _ _ _ _ _ (0,0) _ (F4.get rfl) (M5.blk (k:=0) rfl) Tryz.underlying100 rfl (by kernel_rfl)) F4.defers ⟨rfl,M5.below⟩))
theorem boot_any (g:Nat) (V:VltN) (s n:Nat→Value) (hv:z2a V) (w:World) (h:HasV w g V s n):
  Calls Tryz.prog 26 #[(zO g)] w fun e w'=>e=.returned (zI (zhc V 16))∧Below w.heap.size w w':=by
 refine zk (args:=[(zO g)]) 14 Tryz.func26 rfl rfl rfl ?_
 intro fa F
 have M:=Mx.start w
 replace M:=M.argO 0 h.blk (fun b e=>by cases e)
 refine zT fun _ hK1=>rm rfl F fun _ F2=>hK1 _ _ (zSk fun _ hK3=>?_)
 refine z5a F2 (SK [.inl (.agg (#[zI 16,.func (.func 88) #[] #[]])),.inl (zO g),.inl (zO g),.inl (zO g),.inl (.tuple #[zI (zhc V 16),.bool (numB V 16)]),.inl (.tuple #[zI (zhc V 16),.bool (numB V 16)]),.inl (zI (zhc V 16)),.inl (.bool (numB V 16)),.inl (zI (zhc V 16)),.inl (.bool (numB V 16))]) 10 rfl (by kernel_rfl) ⟨hopC F2 [] rfl (zE Tryz.func58 rfl) fun uw hb=>(eras_any uw),hop0 F2,hop0 F2,hop0 F2,hopC F2 [(6,.agg (#[zI 16,.func (.func 88) #[] #[]])),(9,(zO g))] rfl (zE Tryz.func59 rfl) fun uw hb=>(saysI 16 (by omega) g V s n hv uw (h.step (M.step hb).below)),hop0 F2,hop0 F2,hop0 F2,hop0 F2,hop0 F2,trivial⟩ ?_
 intro p5 a5 w5 b5 G5 y5
 obtain ⟨-,-,-,-,-,-,-,-,q8,-,-⟩:=y5
 have r8:p5 8=zI (zhc V 16):=q8 (by decide)
 simp only [List.take,layV,Nat.zero_add,Nat.reduceAdd,r8] at G5
 have M5:=M.kc b5
 clear F2 M r8 q8
 refine hK3 _ _ (zT fun _ hK6=>rm rfl G5 fun _ F7=>?_)
 exact rm rfl F7 fun _ F8=>hK6 _ _ (wp_ret (bodyPost_ret (res1 rfl (F8.get rfl)) F8.defers ⟨rfl,M5.below⟩))
theorem dfail_any (g:Nat) (c:Nat→CelN) (fl:Bool) (lf:Int) (dd:Bool) (s n:Nat→Value) (z:Int) (w:World) (hg:w.heap[g]? = some (.cells (vltA ⟨c,fl,lf,dd⟩ s n) 80 (0,0))):
  Calls Tryz.prog 46 #[(zO g),zI z] w fun e w'=>∃ t,e=.returned t∧w'.heap[g]? = some (.cells (vltA ⟨c,decide (0≤z),z,dd⟩ s n) 80 (0,0))∧w.grownBy w' (some g):=by
 refine zk (args:=[(zO g),zI z]) 13 Tryz.func46 rfl rfl rfl ?_
 intro fa F
 have M:=Mx.theG hg 0
 refine zT fun _ hK1=>rm rfl F fun _ F2=>rm rfl F2 fun _ F3=>?_
 by_cases h4:0≤z
 ·refine zc (w':=w) rfl rfl F3 rfl (.bool true) (y_geq _ _ _ _ rfl (F3 5 rfl) rfl (decide_eq_true h4)) fun _ F5=>?_
  refine zB 2 [(0,(zO g)),(1,zI z),(6,.bool true),(8,(zP g 54))] [] dnil [] F5 fun _ F6=>?_
  refine zt rfl rfl F6 M (k:=0) rfl _ _ _ rfl (F6 8 rfl) (F6 6 rfl) (#[.bool true]) (vltA ⟨c,true,lf,dd⟩ s n) rfl (zL rfl) (by simp [Value.oneCell']) (by kernel_rfl) (by kernel_rfl) ?_
  intro w7 M7
  refine hK1 _ _ (zR (zB 4 [(10,zI z),(12,(zP g 55))] [] dnil [] F6 fun _ F8=>?_))
  refine zt rfl rfl F8 M7 (k:=0) rfl _ _ _ rfl (F8 12 rfl) (F8 10 rfl) (#[zI z]) (vltA ⟨c,true,z,dd⟩ s n) rfl (zL rfl) (zcc _ _) (by kernel_rfl) (by kernel_rfl) ?_
  intro w9 M9
  refine wpList_nil ?_
  exact bodyPost_end (res0 rfl) F8.defers ⟨_,rfl,(by rw [decide_eq_true h4];exact M9.blk (k:=0) rfl),M9.grown⟩
 ·refine zc (w':=w) rfl rfl F3 rfl (.bool false) (y_geq _ _ _ _ rfl (F3 5 rfl) rfl (decide_eq_false h4)) fun _ F10=>?_
  refine zB 2 [(0,(zO g)),(1,zI z),(6,.bool false),(8,(zP g 54))] [] dnil [] F10 fun _ F11=>?_
  refine zt rfl rfl F11 M (k:=0) rfl _ _ _ rfl (F11 8 rfl) (F11 6 rfl) (#[.bool false]) (vltA ⟨c,false,lf,dd⟩ s n) rfl (zL rfl) (by simp [Value.oneCell']) (by kernel_rfl) (by kernel_rfl) ?_
  intro w12 M12
  refine hK1 _ _ (zR (zB 4 [(10,zI z),(12,(zP g 55))] [] dnil [] F11 fun _ F13=>?_))
  refine zt rfl rfl F13 M12 (k:=0) rfl _ _ _ rfl (F13 12 rfl) (F13 10 rfl) (#[zI z]) (vltA ⟨c,false,z,dd⟩ s n) rfl (zL rfl) (zcc _ _) (by kernel_rfl) (by kernel_rfl) ?_
  intro w14 M14
  refine wpList_nil ?_
  exact bodyPost_end (res0 rfl) F13.defers ⟨_,rfl,(by rw [decide_eq_false h4];exact M14.blk (k:=0) rfl),M14.grown⟩
section
theorem put_n (c:Nat→CelN) (fl:Bool) (lf:Int) (dd:Bool) (s n:Nat→Value) (u:Value):∀ {p:Nat},p<18→((vltA ⟨c,fl,lf,dd⟩ s n).toList.take (3*p+1)++(#[u]:Array Value).toList++(vltA ⟨c,fl,lf,dd⟩ s n).toList.drop (3*p+1+(#[u]:Array Value).size)).toArray=vltA ⟨c,fl,lf,dd⟩ s (putN n p u)
 | p,h=>by
  match p,h with
  | 0,_ | 1,_ | 2,_ | 3,_ | 4,_ | 5,_ | 6,_ | 7,_ | 8,_ | 9,_ | 10,_ | 11,_ | 12,_ | 13,_ | 14,_ | 15,_ | 16,_ | 17,_=>show _=_;kernel_rfl
  | k+18,h=>exact absurd h (by omega)
theorem put_f (c:Nat→CelN) (fl:Bool) (lf:Int) (dd:Bool) (s n:Nat→Value) (x y:List UInt8) (b:Bool):∀ {p:Nat},p<18→((vltA ⟨c,fl,lf,dd⟩ s n).toList.take (3*p+2)++(#[.bool b]:Array Value).toList++(vltA ⟨c,fl,lf,dd⟩ s n).toList.drop (3*p+2+(#[.bool b]:Array Value).size)).toArray=vltA ⟨putC c p ⟨x,y,b⟩,fl,lf,dd⟩ s n
 | p,h=>by
  match p,h with
  | 0,_ | 1,_ | 2,_ | 3,_ | 4,_ | 5,_ | 6,_ | 7,_ | 8,_ | 9,_ | 10,_ | 11,_ | 12,_ | 13,_ | 14,_ | 15,_ | 16,_ | 17,_=>show _=_;kernel_rfl
  | k+18,h=>exact absurd h (by omega)
theorem put_c (c:Nat→CelN) (fl:Bool) (lf:Int) (dd:Bool) (s n:Nat→Value) (u v:Value) (x y:List UInt8) (b:Bool):∀ {p:Nat},p<18→((vltA ⟨c,fl,lf,dd⟩ s n).toList.take (3*p)++(#[u,v,.bool b]:Array Value).toList++(vltA ⟨c,fl,lf,dd⟩ s n).toList.drop (3*p+(#[u,v,.bool b]:Array Value).size)).toArray=vltA ⟨putC c p ⟨x,y,b⟩,fl,lf,dd⟩ (putN s p u) (putN n p v)
 | p,h=>by
  match p,h with
  | 0,_ | 1,_ | 2,_ | 3,_ | 4,_ | 5,_ | 6,_ | 7,_ | 8,_ | 9,_ | 10,_ | 11,_ | 12,_ | 13,_ | 14,_ | 15,_ | 16,_ | 17,_=>show _=_;kernel_rfl
  | k+18,h=>exact absurd h (by omega)
end
theorem lay_any (g:Nat) (c:Nat→CelN) (fl:Bool) (lf:Int) (dd:Bool) (s n:Nat→Value) (p bx:Nat) (hp:p<18) (u:Value) (hu:∃ A m k,u=.slice A m k) (l:List UInt8) (hne:¬bx=g) (w:World) (hbx:w.heap[bx]? = some (.cells #[u] 23 (0,0))) (hg:w.heap[g]? = some (.cells (vltA ⟨c,fl,lf,dd⟩ s n) 80 (0,0))):
  Calls Tryz.prog 123 #[(zP g (3*p)),(zO bx)] w fun e w'=>∃ t,e=.returned t∧w'.heap[g]? = some (.cells (vltA ⟨putC c p ⟨(c p).s,l,true⟩,fl,lf,dd⟩ s (putN n p u)) 80 (0,0))∧w.grownBy w' (some g):=by
 obtain ⟨Au,mu,ku,rfl⟩:=hu
 refine zk (args:=[(zP g (3*p)),(zO bx)]) 10 Tryz.func123 rfl rfl rfl ?_
 intro fa F
 have M:=Mx.theG hg 0
 replace M:=M.argO 1 hbx (fun b e=>by cases e;exact hne)
 refine zR (zB 4 [(4,(zP g (3*p))),(5,(.slice Au mu ku)),(6,(zP g (3*p)))] [0] (zx (M.roB (k:=1) rfl) dnil) [bx] F fun _ F1=>?_)
 refine zc (w':=w) rfl rfl F1 rfl (zP g (3*p+1)) (y_fa (off:=1) rfl (F1 6 rfl) (by kernel_rfl) rfl) fun _ F2=>?_
 refine zt rfl rfl F2 M (k:=0) rfl _ _ _ rfl (F2 7 rfl) (F2 5 rfl) (#[(.slice Au mu ku)]) (vltA ⟨c,fl,lf,dd⟩ s (putN n p (.slice Au mu ku))) rfl (show 3*p+1+1≤57 by omega) (by simp [Value.oneCell']) (put_n c fl lf dd s n (.slice Au mu ku) hp) (by kernel_rfl) ?_
 intro w3 M3
 refine zc (w':=w3) rfl rfl F2 rfl (zP g (3*p)) (by unfold execOp;simp only [(F2 4 rfl)];kernel_rfl) fun _ F4=>?_
 refine zc (w':=w3) rfl rfl F4 rfl (zP g (3*p+2)) (y_fa (off:=2) rfl (F4 8 rfl) (by kernel_rfl) rfl) fun _ F5=>?_
 refine zt rfl rfl F5 M3 (k:=0) rfl _ _ _ rfl (F5 9 rfl) rfl (#[.bool true]) (vltA ⟨(putC c p ⟨(c p).s,l,true⟩),fl,lf,dd⟩ s (putN n p (.slice Au mu ku))) rfl (show 3*p+2+1≤57 by omega) (by simp [Value.oneCell']) (put_f c fl lf dd s (putN n p (.slice Au mu ku)) (c p).s l true hp) (by kernel_rfl) ?_
 intro w6 M6
 refine wpList_nil ?_
 exact bodyPost_end (res0 rfl) F5.defers ⟨_,rfl,M6.blk (k:=0) rfl,M6.grown⟩
theorem keep_any (g:Nat) (c:Nat→CelN) (fl:Bool) (lf:Int) (dd:Bool) (s n:Nat→Value) (p:Nat) (hp:p<18) (hu:∃ A m k,n p=.slice A m k) (x:List UInt8) (w:World) (hg:w.heap[g]? = some (.cells (vltA ⟨c,fl,lf,dd⟩ s n) 80 (0,0))):
  Calls Tryz.prog 124 #[(zP g (3*p))] w fun e w'=>∃ t,e=.returned t∧w'.heap[g]? = some (.cells (vltA ⟨putC c p ⟨x,[],false⟩,fl,lf,dd⟩ (putN s p (n p)) (putN n p (zN))) 80 (0,0))∧w.grownBy w' (some g):=by
 obtain ⟨Au,mu,ku,hnu⟩:=hu
 refine zk (args:=[(zP g (3*p))]) 9 Tryz.func124 rfl rfl rfl ?_
 intro fa F
 have M:=Mx.theG hg 0
 refine zR (zB 3 [(2,(zP g (3*p))),(4,(zP g (3*p)))] [] dnil [] F fun _ F1=>?_)
 refine zc (w':=w) rfl rfl F1 rfl (zP g (3*p+1)) (y_fa (off:=1) rfl (F1 4 rfl) (by kernel_rfl) rfl) fun _ F2=>?_
 refine zc (w':=w) rfl rfl F2 rfl ((.slice Au mu ku)) (zha _ _ rfl (F2 5 rfl) (M.blk (k:=0) rfl) (by rw [←hnu];exact vlt_n ⟨c,fl,lf,dd⟩ s n hp) Tryz.underlying23 rfl) fun _ F3=>?_
 refine zc (w':=w) rfl rfl F3 rfl (.agg (#[(.slice Au mu ku),zN,.bool false])) (by unfold execOp;simp only [List.map_toArray,List.map_cons,List.map_nil,(F3 6 rfl)];kernel_rfl) fun _ F4=>?_
 refine zc (w':=w) rfl rfl F4 rfl (zP g (3*p)) (by unfold execOp;simp only [(F4 2 rfl)];kernel_rfl) fun _ F5=>?_
 refine zt rfl rfl F5 M (k:=0) rfl _ _ _ rfl (F5 8 rfl) (F5 7 rfl) (#[(.slice Au mu ku),zN,.bool false]) (vltA ⟨(putC c p ⟨x,[],false⟩),fl,lf,dd⟩ (putN s p (.slice Au mu ku)) (putN n p (zN))) rfl (show 3*p+3≤57 by omega) (by simp [Value.oneCell']) (put_c c fl lf dd s n (.slice Au mu ku) (zN) x [] false hp) (by kernel_rfl) ?_
 intro w6 M6
 refine wpList_nil ?_
 exact bodyPost_end (res0 rfl) F5.defers ⟨_,rfl,(by rw [hnu];exact M6.blk (k:=0) rfl),M6.grown⟩
theorem y_subW {a:Act} {w:World} {o:Oper} (x y:Operand) (ho:o.op=.binOp .sub 3 x y 3) {p q:Int} (hx:a.eval x=zI p) (hy:a.eval y=zI q):(execOp a.eval o).run Tryz.prog w=.ok (.value (zI (IntKind.i64.wrap (p-q)))) w:=by
 unfold execOp;simp only [ho,hx,hy];simp [go_sem]
theorem step_lay (g:Nat) (c:Nat→CelN) (fl:Bool) (lf:Int) (dd:Bool) (s n:Nat→Value) (p bx:Nat) (hp:p<18) (u:Value) (hu:∃ A m k,u=.slice A m k) (l:List UInt8) (hne:¬bx=g) (w:World) (hbx:w.heap[bx]? = some (.cells #[u] 23 (0,0))) (hg:w.heap[g]? = some (.cells (vltA ⟨c,fl,lf,dd⟩ s n) 80 (0,0))):
  Calls Tryz.prog 125 #[(zO g),zI (p:Int),.func (.func 123) #[] #[(zO bx)]] w fun e w'=>∃ t,e=.returned t∧t=.bool (!(fl&&decide (lf=0)))∧w'.heap[g]? = some (.cells (if (fl&&decide (lf=0))=true then vltA ⟨c,fl,lf,true⟩ s n else vltA ⟨putC c p ⟨(c p).s,l,true⟩,fl,IntKind.i64.wrap (lf-1),dd⟩ s (putN n p u)) 80 (0,0))∧w.grownBy w' (some g):=by
 refine zk (args:=[(zO g),zI (p:Int),.func (.func 123) #[] #[(zO bx)]]) 35 Tryz.func125 rfl rfl rfl ?_
 intro fa F
 have M:=Mx.theG hg 0
 replace M:=M.argO 1 hbx (fun b e=>by cases e;exact hne)
 refine zT fun _ hK1=>rm rfl F fun _ F2=>hK1 _ _ (zSk fun _ hK3=>zT fun _ hK4=>zB 5 [(0,(zO g)),(1,zI (p:Int)),(2,.func (.func 123) #[] #[(zO bx)]),(6,.bool false),(11,.bool fl)] [0] (zx (M.blk (k:=0) rfl) dnil) [g] F2 fun _ F5=>?_)
 cases fl
 ·refine zAx 6 [(12,undef),(13,undef),(14,undef),(15,undef),(16,undef),(17,.bool false)] [] dnil [] F5 fun _ F6=>?_
  refine hK4 _ _ (wp_cond_false (F6 17 rfl) (wp_skip (hK3 _ _ (zT fun _ hK7=>zAx 4 [(21,(zO g)),(22,(zO g)),(23,(zP g 55)),(24,zI lf)] [0] (zx (M.blk (k:=0) rfl) dnil) [g] F6 fun _ F8=>?_))))
  refine zc (w':=w) rfl rfl F8 rfl (zI (IntKind.i64.wrap (lf-1))) (y_subW _ _ rfl (F8 24 rfl) rfl) fun _ F9=>?_
  refine zAx 2 [(26,(zO g)),(27,(zP g 55))] [] dnil [] F9 fun _ F10=>?_
  refine zt rfl rfl F10 M (k:=0) rfl _ _ _ rfl (F10 27 rfl) (F10 25 rfl) (#[zI (IntKind.i64.wrap (lf-1))]) (vltA ⟨c,false,(IntKind.i64.wrap (lf-1)),dd⟩ s n) rfl (zL rfl) (zcc _ _) (by kernel_rfl) (by kernel_rfl) ?_
  intro w11 M11
  refine hK7 _ _ (zT fun _ hK12=>zB 5 [(6,.bool false),(28,.func (.func 123) #[] #[(zO bx)]),(30,zI (p:Int)),(32,(zO g))] [] dnil [] F10 fun _ F13=>?_)
  refine zc (w':=w11) rfl rfl F13 rfl (zP g (3*p)) (y_ixC3 (N:=18) 76 (by kernel_rfl) (by kernel_rfl) (by kernel_rfl) rfl (F13 32 rfl) (F13 30 rfl) rfl hp) fun _ F14=>?_
  refine wl_callV rfl rfl F14 rfl rfl (F14 28 rfl) (zE Tryz.func123 rfl) #[(zP g (3*p)),(zO bx)] (show _++_=_ from by rw [(zca (F14 33 rfl))];rfl) (lay_any g c false (IntKind.i64.wrap (lf-1)) dd s n p bx hp u hu l hne w11 (M11.roB (k:=1) rfl) (M11.blk (k:=0) rfl)) ?_
  rintro _ w15 a15 ⟨hc15,hg15⟩ F15
  have M15:=M11.put (k:=0) rfl hg15 hc15
  clear M11 hg15 hc15
  refine hK12 _ _ (zT fun _ hK16=>rm rfl F15 fun _ F17=>hK16 _ _ (wp_ret ?_))
  try simp only [Exit.then,Exit.inBlock,Exit.jump]
  exact bodyPost_ret (res1 rfl (F17.get rfl)) F17.defers ⟨_,rfl,rfl,(by rw [if_neg (by simp)];exact M15.blk (k:=0) rfl),M15.grown⟩
 ·refine zAx 4 [(12,(zO g)),(13,(zO g)),(14,(zP g 55)),(15,zI lf)] [0] (zx (M.blk (k:=0) rfl) dnil) [g] F5 fun _ F18=>?_
  by_cases h19:lf=0
  ·refine zc (w':=w) (zd rfl rfl rfl (F18 11 rfl)) rfl F18 rfl (.bool true) (zva _ _ _ _ rfl (F18 15 rfl) rfl Tryz.underlying3 (zlb h19)) fun _ F20=>?_
   refine zc (w':=w) rfl rfl F20 rfl (.bool true) (zkb rfl (F20 11 rfl) (F20 16 rfl)) fun _ F21=>?_
   refine hK4 _ _ (wp_cond_true (F21 17 rfl) (zT fun _ hK22=>zAx 3 [(18,(zO g)),(19,(zO g)),(20,(zP g 56))] [] dnil [] F21 fun _ F23=>?_))
   refine zt rfl rfl F23 M (k:=0) rfl _ _ _ rfl (F23 20 rfl) rfl (#[.bool true]) (vltA ⟨c,true,lf,true⟩ s n) rfl (zL rfl) (by simp [Value.oneCell']) (by kernel_rfl) (by kernel_rfl) ?_
   intro w24 M24
   refine hK22 _ _ (zT fun _ hK25=>rm rfl F23 fun _ F26=>hK25 _ _ (wp_ret ?_))
   try simp only [Exit.then,Exit.inBlock,Exit.jump]
   exact bodyPost_ret (res1 rfl (F26.get rfl)) F26.defers ⟨_,rfl,(by rw [decide_eq_true h19];rfl),(by rw [if_pos (by simp [h19])];exact M24.blk (k:=0) rfl),M24.grown⟩
  ·refine zc (w':=w) (zd rfl rfl rfl (F18 11 rfl)) rfl F18 rfl (.bool false) (zva _ _ _ _ rfl (F18 15 rfl) rfl Tryz.underlying3 (zhb h19)) fun _ F27=>?_
   refine zc (w':=w) rfl rfl F27 rfl (.bool false) (zkb rfl (F27 11 rfl) (F27 16 rfl)) fun _ F28=>?_
   refine hK4 _ _ (wp_cond_false (F28 17 rfl) (wp_skip (hK3 _ _ (zT fun _ hK29=>zAx 4 [(21,(zO g)),(22,(zO g)),(23,(zP g 55)),(24,zI lf)] [0] (zx (M.blk (k:=0) rfl) dnil) [g] F28 fun _ F30=>?_))))
   refine zc (w':=w) rfl rfl F30 rfl (zI (IntKind.i64.wrap (lf-1))) (y_subW _ _ rfl (F30 24 rfl) rfl) fun _ F31=>?_
   refine zAx 2 [(26,(zO g)),(27,(zP g 55))] [] dnil [] F31 fun _ F32=>?_
   refine zt rfl rfl F32 M (k:=0) rfl _ _ _ rfl (F32 27 rfl) (F32 25 rfl) (#[zI (IntKind.i64.wrap (lf-1))]) (vltA ⟨c,true,(IntKind.i64.wrap (lf-1)),dd⟩ s n) rfl (zL rfl) (zcc _ _) (by kernel_rfl) (by kernel_rfl) ?_
   intro w33 M33
   refine hK29 _ _ (zT fun _ hK34=>zB 5 [(6,.bool false),(28,.func (.func 123) #[] #[(zO bx)]),(30,zI (p:Int)),(32,(zO g))] [] dnil [] F32 fun _ F35=>?_)
   refine zc (w':=w33) rfl rfl F35 rfl (zP g (3*p)) (y_ixC3 (N:=18) 76 (by kernel_rfl) (by kernel_rfl) (by kernel_rfl) rfl (F35 32 rfl) (F35 30 rfl) rfl hp) fun _ F36=>?_
   refine wl_callV rfl rfl F36 rfl rfl (F36 28 rfl) (zE Tryz.func123 rfl) #[(zP g (3*p)),(zO bx)] (show _++_=_ from by rw [(zca (F36 33 rfl))];rfl) (lay_any g c true (IntKind.i64.wrap (lf-1)) dd s n p bx hp u hu l hne w33 (M33.roB (k:=1) rfl) (M33.blk (k:=0) rfl)) ?_
   rintro _ w37 a37 ⟨hc37,hg37⟩ F37
   have M37:=M33.put (k:=0) rfl hg37 hc37
   clear M33 hg37 hc37
   refine hK34 _ _ (zT fun _ hK38=>rm rfl F37 fun _ F39=>hK38 _ _ (wp_ret ?_))
   try simp only [Exit.then,Exit.inBlock,Exit.jump]
   exact bodyPost_ret (res1 rfl (F39.get rfl)) F39.defers ⟨_,rfl,(by rw [decide_eq_false h19];rfl),(by rw [if_neg (by simp [h19])];exact M37.blk (k:=0) rfl),M37.grown⟩
theorem step_keep (g:Nat) (c:Nat→CelN) (fl:Bool) (lf:Int) (dd:Bool) (s n:Nat→Value) (p:Nat) (hp:p<18) (hu:∃ A m k,n p=.slice A m k) (x:List UInt8) (w:World) (hg:w.heap[g]? = some (.cells (vltA ⟨c,fl,lf,dd⟩ s n) 80 (0,0))):
  Calls Tryz.prog 125 #[(zO g),zI (p:Int),.func (.func 124) #[] #[]] w fun e w'=>∃ t,e=.returned t∧t=.bool (!(fl&&decide (lf=0)))∧w'.heap[g]? = some (.cells (if (fl&&decide (lf=0))=true then vltA ⟨c,fl,lf,true⟩ s n else vltA ⟨putC c p ⟨x,[],false⟩,fl,IntKind.i64.wrap (lf-1),dd⟩ (putN s p (n p)) (putN n p (zN))) 80 (0,0))∧w.grownBy w' (some g):=by
 refine zk (args:=[(zO g),zI (p:Int),.func (.func 124) #[] #[]]) 35 Tryz.func125 rfl rfl rfl ?_
 intro fa F
 have M:=Mx.theG hg 0
 refine zT fun _ hK1=>rm rfl F fun _ F2=>hK1 _ _ (zSk fun _ hK3=>zT fun _ hK4=>zB 5 [(0,(zO g)),(1,zI (p:Int)),(2,.func (.func 124) #[] #[]),(6,.bool false),(11,.bool fl)] [0] (zx (M.blk (k:=0) rfl) dnil) [g] F2 fun _ F5=>?_)
 cases fl
 ·refine zAx 6 [(12,undef),(13,undef),(14,undef),(15,undef),(16,undef),(17,.bool false)] [] dnil [] F5 fun _ F6=>?_
  refine hK4 _ _ (wp_cond_false (F6 17 rfl) (wp_skip (hK3 _ _ (zT fun _ hK7=>zAx 4 [(21,(zO g)),(22,(zO g)),(23,(zP g 55)),(24,zI lf)] [0] (zx (M.blk (k:=0) rfl) dnil) [g] F6 fun _ F8=>?_))))
  refine zc (w':=w) rfl rfl F8 rfl (zI (IntKind.i64.wrap (lf-1))) (y_subW _ _ rfl (F8 24 rfl) rfl) fun _ F9=>?_
  refine zAx 2 [(26,(zO g)),(27,(zP g 55))] [] dnil [] F9 fun _ F10=>?_
  refine zt rfl rfl F10 M (k:=0) rfl _ _ _ rfl (F10 27 rfl) (F10 25 rfl) (#[zI (IntKind.i64.wrap (lf-1))]) (vltA ⟨c,false,(IntKind.i64.wrap (lf-1)),dd⟩ s n) rfl (zL rfl) (zcc _ _) (by kernel_rfl) (by kernel_rfl) ?_
  intro w11 M11
  refine hK7 _ _ (zT fun _ hK12=>zB 5 [(6,.bool false),(28,.func (.func 124) #[] #[]),(30,zI (p:Int)),(32,(zO g))] [] dnil [] F10 fun _ F13=>?_)
  refine zc (w':=w11) rfl rfl F13 rfl (zP g (3*p)) (y_ixC3 (N:=18) 76 (by kernel_rfl) (by kernel_rfl) (by kernel_rfl) rfl (F13 32 rfl) (F13 30 rfl) rfl hp) fun _ F14=>?_
  refine wl_callV rfl rfl F14 rfl rfl (F14 28 rfl) (zE Tryz.func124 rfl) #[(zP g (3*p))] (show _++_=_ from by rw [(zca (F14 33 rfl))];rfl) (keep_any g c false (IntKind.i64.wrap (lf-1)) dd s n p hp hu x w11 (M11.blk (k:=0) rfl)) ?_
  rintro _ w15 a15 ⟨hc15,hg15⟩ F15
  have M15:=M11.put (k:=0) rfl hg15 hc15
  clear M11 hg15 hc15
  refine hK12 _ _ (zT fun _ hK16=>rm rfl F15 fun _ F17=>hK16 _ _ (wp_ret ?_))
  try simp only [Exit.then,Exit.inBlock,Exit.jump]
  exact bodyPost_ret (res1 rfl (F17.get rfl)) F17.defers ⟨_,rfl,rfl,(by rw [if_neg (by simp)];exact M15.blk (k:=0) rfl),M15.grown⟩
 ·refine zB 4 [(0,(zO g)),(1,zI (p:Int)),(2,.func (.func 124) #[] #[]),(6,.bool false),(11,.bool true),(15,zI lf)] [0] (zx (M.blk (k:=0) rfl) dnil) [g] F5 fun _ F18=>?_
  by_cases h19:lf=0
  ·refine zc (w':=w) (zd rfl rfl rfl (F18 11 rfl)) rfl F18 rfl (.bool true) (zva _ _ _ _ rfl (F18 15 rfl) rfl Tryz.underlying3 (zlb h19)) fun _ F20=>?_
   refine zc (w':=w) rfl rfl F20 rfl (.bool true) (zkb rfl (F20 11 rfl) (F20 16 rfl)) fun _ F21=>?_
   refine hK4 _ _ (wp_cond_true (F21 17 rfl) (zT fun _ hK22=>zAx 3 [(18,(zO g)),(19,(zO g)),(20,(zP g 56))] [] dnil [] F21 fun _ F23=>?_))
   refine zt rfl rfl F23 M (k:=0) rfl _ _ _ rfl (F23 20 rfl) rfl (#[.bool true]) (vltA ⟨c,true,lf,true⟩ s n) rfl (zL rfl) (by simp [Value.oneCell']) (by kernel_rfl) (by kernel_rfl) ?_
   intro w24 M24
   refine hK22 _ _ (zT fun _ hK25=>rm rfl F23 fun _ F26=>hK25 _ _ (wp_ret ?_))
   try simp only [Exit.then,Exit.inBlock,Exit.jump]
   exact bodyPost_ret (res1 rfl (F26.get rfl)) F26.defers ⟨_,rfl,(by rw [decide_eq_true h19];rfl),(by rw [if_pos (by simp [h19])];exact M24.blk (k:=0) rfl),M24.grown⟩
  ·refine zc (w':=w) (zd rfl rfl rfl (F18 11 rfl)) rfl F18 rfl (.bool false) (zva _ _ _ _ rfl (F18 15 rfl) rfl Tryz.underlying3 (zhb h19)) fun _ F27=>?_
   refine zc (w':=w) rfl rfl F27 rfl (.bool false) (zkb rfl (F27 11 rfl) (F27 16 rfl)) fun _ F28=>?_
   refine hK4 _ _ (wp_cond_false (F28 17 rfl) (wp_skip (hK3 _ _ (zT fun _ hK29=>zAx 4 [(21,(zO g)),(22,(zO g)),(23,(zP g 55)),(24,zI lf)] [0] (zx (M.blk (k:=0) rfl) dnil) [g] F28 fun _ F30=>?_))))
   refine zc (w':=w) rfl rfl F30 rfl (zI (IntKind.i64.wrap (lf-1))) (y_subW _ _ rfl (F30 24 rfl) rfl) fun _ F31=>?_
   refine zAx 2 [(26,(zO g)),(27,(zP g 55))] [] dnil [] F31 fun _ F32=>?_
   refine zt rfl rfl F32 M (k:=0) rfl _ _ _ rfl (F32 27 rfl) (F32 25 rfl) (#[zI (IntKind.i64.wrap (lf-1))]) (vltA ⟨c,true,(IntKind.i64.wrap (lf-1)),dd⟩ s n) rfl (zL rfl) (zcc _ _) (by kernel_rfl) (by kernel_rfl) ?_
   intro w33 M33
   refine hK29 _ _ (zT fun _ hK34=>zB 5 [(6,.bool false),(28,.func (.func 124) #[] #[]),(30,zI (p:Int)),(32,(zO g))] [] dnil [] F32 fun _ F35=>?_)
   refine zc (w':=w33) rfl rfl F35 rfl (zP g (3*p)) (y_ixC3 (N:=18) 76 (by kernel_rfl) (by kernel_rfl) (by kernel_rfl) rfl (F35 32 rfl) (F35 30 rfl) rfl hp) fun _ F36=>?_
   refine wl_callV rfl rfl F36 rfl rfl (F36 28 rfl) (zE Tryz.func124 rfl) #[(zP g (3*p))] (show _++_=_ from by rw [(zca (F36 33 rfl))];rfl) (keep_any g c true (IntKind.i64.wrap (lf-1)) dd s n p hp hu x w33 (M33.blk (k:=0) rfl)) ?_
   rintro _ w37 a37 ⟨hc37,hg37⟩ F37
   have M37:=M33.put (k:=0) rfl hg37 hc37
   clear M33 hg37 hc37
   refine hK34 _ _ (zT fun _ hK38=>rm rfl F37 fun _ F39=>hK38 _ _ (wp_ret ?_))
   try simp only [Exit.then,Exit.inBlock,Exit.jump]
   exact bodyPost_ret (res1 rfl (F39.get rfl)) F39.defers ⟨_,rfl,(by rw [decide_eq_false h19];rfl),(by rw [if_neg (by simp [h19])];exact M37.blk (k:=0) rfl),M37.grown⟩
theorem putN_at (s:Nat→Value) (p:Nat) (v:Value):putN s p v p=v:=if_pos rfl
theorem step_lay_t (g:Nat) (c:Nat→CelN) (fl:Bool) (lf:Int) (dd:Bool) (s n:Nat→Value) (p bx:Nat) (hp:p<18) (u:Value) (hu:∃ A m k,u=.slice A m k) (l:List UInt8) (hne:¬bx=g) (hf:(fl&&decide (lf=0))=true) (w:World) (hbx:w.heap[bx]? = some (.cells #[u] 23 (0,0))) (hg:w.heap[g]? = some (.cells (vltA ⟨c,fl,lf,dd⟩ s n) 80 (0,0))):
  Calls Tryz.prog 125 #[(zO g),zI (p:Int),.func (.func 123) #[] #[(zO bx)]] w fun e w'=>∃ t,e=.returned t∧t=.bool false∧w'.heap[g]? = some (.cells (vltA ⟨c,fl,lf,true⟩ s n) 80 (0,0))∧w.grownBy w' (some g):=
 (step_lay g c fl lf dd s n p bx hp u hu l hne w hbx hg).mono fun e w' ⟨t,h1,h2,h3,h4⟩=>⟨t,h1,(by simp only [hf,Bool.not_true,Bool.not_false] at h2;exact h2),(by simp only [hf,if_true,Bool.false_eq_true,if_false] at h3;exact h3),h4⟩
theorem step_lay_f (g:Nat) (c:Nat→CelN) (fl:Bool) (lf:Int) (dd:Bool) (s n:Nat→Value) (p bx:Nat) (hp:p<18) (u:Value) (hu:∃ A m k,u=.slice A m k) (l:List UInt8) (hne:¬bx=g) (hf:(fl&&decide (lf=0))=false) (w:World) (hbx:w.heap[bx]? = some (.cells #[u] 23 (0,0))) (hg:w.heap[g]? = some (.cells (vltA ⟨c,fl,lf,dd⟩ s n) 80 (0,0))):
  Calls Tryz.prog 125 #[(zO g),zI (p:Int),.func (.func 123) #[] #[(zO bx)]] w fun e w'=>∃ t,e=.returned t∧t=.bool true∧w'.heap[g]? = some (.cells (vltA ⟨putC c p ⟨(c p).s,l,true⟩,fl,IntKind.i64.wrap (lf-1),dd⟩ s (putN n p u)) 80 (0,0))∧w.grownBy w' (some g):=
 (step_lay g c fl lf dd s n p bx hp u hu l hne w hbx hg).mono fun e w' ⟨t,h1,h2,h3,h4⟩=>⟨t,h1,(by simp only [hf,Bool.not_true,Bool.not_false] at h2;exact h2),(by simp only [hf,if_true,Bool.false_eq_true,if_false] at h3;exact h3),h4⟩
theorem step_keep_t (g:Nat) (c:Nat→CelN) (fl:Bool) (lf:Int) (dd:Bool) (s n:Nat→Value) (p:Nat) (hp:p<18) (hu:∃ A m k,n p=.slice A m k) (x:List UInt8) (hf:(fl&&decide (lf=0))=true) (w:World) (hg:w.heap[g]? = some (.cells (vltA ⟨c,fl,lf,dd⟩ s n) 80 (0,0))):
  Calls Tryz.prog 125 #[(zO g),zI (p:Int),.func (.func 124) #[] #[]] w fun e w'=>∃ t,e=.returned t∧t=.bool false∧w'.heap[g]? = some (.cells (vltA ⟨c,fl,lf,true⟩ s n) 80 (0,0))∧w.grownBy w' (some g):=
 (step_keep g c fl lf dd s n p hp hu x w hg).mono fun e w' ⟨t,h1,h2,h3,h4⟩=>⟨t,h1,(by simp only [hf,Bool.not_true,Bool.not_false] at h2;exact h2),(by simp only [hf,if_true,Bool.false_eq_true,if_false] at h3;exact h3),h4⟩
theorem step_keep_f (g:Nat) (c:Nat→CelN) (fl:Bool) (lf:Int) (dd:Bool) (s n:Nat→Value) (p:Nat) (hp:p<18) (hu:∃ A m k,n p=.slice A m k) (x:List UInt8) (hf:(fl&&decide (lf=0))=false) (w:World) (hg:w.heap[g]? = some (.cells (vltA ⟨c,fl,lf,dd⟩ s n) 80 (0,0))):
  Calls Tryz.prog 125 #[(zO g),zI (p:Int),.func (.func 124) #[] #[]] w fun e w'=>∃ t,e=.returned t∧t=.bool true∧w'.heap[g]? = some (.cells (vltA ⟨putC c p ⟨x,[],false⟩,fl,IntKind.i64.wrap (lf-1),dd⟩ (putN s p (n p)) (putN n p (zN))) 80 (0,0))∧w.grownBy w' (some g):=
 (step_keep g c fl lf dd s n p hp hu x w hg).mono fun e w' ⟨t,h1,h2,h3,h4⟩=>⟨t,h1,(by simp only [hf,Bool.not_true,Bool.not_false] at h2;exact h2),(by simp only [hf,if_true,Bool.false_eq_true,if_false] at h3;exact h3),h4⟩
theorem dwrite_1 (g:Nat) (c:Nat→CelN) (fl:Bool) (lf:Int) (dd:Bool) (s n:Nat→Value) (p:Nat) (hp:p<18) (u:Value) (hu:∃ A m k,u=.slice A m k) (l:List UInt8) (hf1:(fl&&decide (lf=0))=true) (w:World) (hg:w.heap[g]? = some (.cells (vltA ⟨c,fl,lf,dd⟩ s n) 80 (0,0))):
  Calls Tryz.prog 98 #[(zO g),zI (p:Int),u] w fun e w'=>∃ t,e=.returned t∧t=.bool false∧w'.heap[g]? = some (.cells (vltA ⟨c,fl,lf,true⟩ s n) 80 (0,0))∧w.grownBy w' (some g):=by
 obtain ⟨Au,mu,ku,rfl⟩:=hu
 refine zk (args:=[(zO g),zI (p:Int),(.slice Au mu ku)]) 20 Tryz.func98 rfl rfl rfl ?_
 intro fa F
 have M:=Mx.theG hg 0
 refine zT fun _ hK1=>zq rfl rfl F rfl M 1 (t:=23) (c:=#[(.slice Au mu ku)]) (by unfold execOp;simp only [(F 2 rfl)];kernel_rfl) ?_
 intro g2 a2 w2 F2 M2
 refine rm rfl F2 fun _ F3=>hK1 _ _ (zT fun _ hK4=>zc (w':=w2) rfl rfl F3 rfl (.func (.func 123) #[] #[(zO g2)]) (by unfold execOp;simp only [List.map_toArray,List.map_cons,List.map_nil,(F3 5 rfl)];kernel_rfl) fun _ F5=>?_)
 refine rm rfl F5 fun _ F6=>hK4 _ _ (zT fun _ hK7=>zc (w':=w2) rfl rfl F6 rfl (.func (.func 124) #[] #[]) (zga _ (.inr rfl) rfl) fun _ F8=>?_)
 refine hK7 _ _ (zT fun _ hK9=>rm rfl F8 fun _ F10=>rm rfl F10 fun _ F11=>rm rfl F11 fun _ F12=>zh rfl rfl F12 rfl rfl (zE Tryz.func125 rfl) #[(zO g),zI (p:Int),.func (.func 123) #[] #[(zO g2)]] (args3 (F12 10 rfl) (F12 11 rfl) (F12 12 rfl)) (step_lay_t g c fl lf dd s n p g2 hp (.slice Au mu ku) ⟨Au,mu,ku,rfl⟩ l (fun e=>M2.dis 0 1 _ _ rfl rfl (by decide) rfl g rfl e.symm) hf1 w2 (M2.blk (k:=1) rfl) (M2.blk (k:=0) rfl)) ?_)
 rintro _ w13 a13 ⟨rfl,hc13,hg13⟩ F13
 have M13:=M2.put (k:=0) rfl hg13 hc13
 clear M2 hg13 hc13
 refine zB 7 [(6,.bool false)] [] dnil [] F13 fun _ F14=>?_
 exact hK9 _ _ (wp_ret (bodyPost_ret (res1 rfl (F14.get rfl)) F14.defers ⟨_,rfl,rfl,M13.blk (k:=0) rfl,M13.grown⟩))
theorem dwrite_2 (g:Nat) (c:Nat→CelN) (fl:Bool) (lf:Int) (dd:Bool) (s n:Nat→Value) (p:Nat) (hp:p<18) (u:Value) (hu:∃ A m k,u=.slice A m k) (l:List UInt8) (hf1:(fl&&decide (lf=0))=false) (hf2:(fl&&decide ((IntKind.i64.wrap (lf-1))=0))=true) (w:World) (hg:w.heap[g]? = some (.cells (vltA ⟨c,fl,lf,dd⟩ s n) 80 (0,0))):
  Calls Tryz.prog 98 #[(zO g),zI (p:Int),u] w fun e w'=>∃ t,e=.returned t∧t=.bool false∧w'.heap[g]? = some (.cells (vltA ⟨(putC c p ⟨(c p).s,l,true⟩),fl,(IntKind.i64.wrap (lf-1)),true⟩ s (putN n p u)) 80 (0,0))∧w.grownBy w' (some g):=by
 obtain ⟨Au,mu,ku,rfl⟩:=hu
 refine zk (args:=[(zO g),zI (p:Int),(.slice Au mu ku)]) 20 Tryz.func98 rfl rfl rfl ?_
 intro fa F
 have M:=Mx.theG hg 0
 refine zT fun _ hK1=>zq rfl rfl F rfl M 1 (t:=23) (c:=#[(.slice Au mu ku)]) (by unfold execOp;simp only [(F 2 rfl)];kernel_rfl) ?_
 intro g2 a2 w2 F2 M2
 refine rm rfl F2 fun _ F3=>hK1 _ _ (zT fun _ hK4=>zc (w':=w2) rfl rfl F3 rfl (.func (.func 123) #[] #[(zO g2)]) (by unfold execOp;simp only [List.map_toArray,List.map_cons,List.map_nil,(F3 5 rfl)];kernel_rfl) fun _ F5=>?_)
 refine rm rfl F5 fun _ F6=>hK4 _ _ (zT fun _ hK7=>zc (w':=w2) rfl rfl F6 rfl (.func (.func 124) #[] #[]) (zga _ (.inr rfl) rfl) fun _ F8=>?_)
 refine hK7 _ _ (zT fun _ hK9=>rm rfl F8 fun _ F10=>rm rfl F10 fun _ F11=>rm rfl F11 fun _ F12=>zh rfl rfl F12 rfl rfl (zE Tryz.func125 rfl) #[(zO g),zI (p:Int),.func (.func 123) #[] #[(zO g2)]] (args3 (F12 10 rfl) (F12 11 rfl) (F12 12 rfl)) (step_lay_f g c fl lf dd s n p g2 hp (.slice Au mu ku) ⟨Au,mu,ku,rfl⟩ l (fun e=>M2.dis 0 1 _ _ rfl rfl (by decide) rfl g rfl e.symm) hf1 w2 (M2.blk (k:=1) rfl) (M2.blk (k:=0) rfl)) ?_)
 rintro _ w13 a13 ⟨rfl,hc13,hg13⟩ F13
 have M13:=M2.put (k:=0) rfl hg13 hc13
 clear M2 hg13 hc13
 refine rm rfl F13 fun _ F14=>rm rfl F14 fun _ F15=>rm rfl F15 fun _ F16=>rm rfl F16 fun _ F17=>zh (zd rfl rfl rfl (F17 14 rfl)) rfl F17 rfl rfl (zE Tryz.func125 rfl) #[(zO g),zI (p:Int),.func (.func 124) #[] #[]] (args3 (F17 15 rfl) (F17 16 rfl) (F17 17 rfl)) (step_keep_t g (putC c p ⟨(c p).s,l,true⟩) fl (IntKind.i64.wrap (lf-1)) dd s (putN n p (.slice Au mu ku)) p hp (by rw [putN_at];exact ⟨Au,mu,ku,rfl⟩) l hf2 w13 (M13.blk (k:=0) rfl)) ?_
 rintro _ w18 a18 ⟨rfl,hc18,hg18⟩ F18
 have M18:=M13.put (k:=0) rfl hg18 hc18
 clear M13 hg18 hc18
 refine zB 2 [(6,.bool false)] [] dnil [] F18 fun _ F19=>?_
 exact hK9 _ _ (wp_ret (bodyPost_ret (res1 rfl (F19.get rfl)) F19.defers ⟨_,rfl,rfl,M18.blk (k:=0) rfl,M18.grown⟩))
theorem dwrite_3 (g:Nat) (c:Nat→CelN) (fl:Bool) (lf:Int) (dd:Bool) (s n:Nat→Value) (p:Nat) (hp:p<18) (u:Value) (hu:∃ A m k,u=.slice A m k) (l:List UInt8) (hf1:(fl&&decide (lf=0))=false) (hf2:(fl&&decide ((IntKind.i64.wrap (lf-1))=0))=false) (w:World) (hg:w.heap[g]? = some (.cells (vltA ⟨c,fl,lf,dd⟩ s n) 80 (0,0))):
  Calls Tryz.prog 98 #[(zO g),zI (p:Int),u] w fun e w'=>∃ t,e=.returned t∧t=.bool true∧w'.heap[g]? = some (.cells (vltA ⟨putC (putC c p ⟨(c p).s,l,true⟩) p ⟨l,[],false⟩,fl,IntKind.i64.wrap ((IntKind.i64.wrap (lf-1))-1),dd⟩ (putN s p ((putN n p u) p)) (putN (putN n p u) p (zN))) 80 (0,0))∧w.grownBy w' (some g):=by
 obtain ⟨Au,mu,ku,rfl⟩:=hu
 refine zk (args:=[(zO g),zI (p:Int),(.slice Au mu ku)]) 20 Tryz.func98 rfl rfl rfl ?_
 intro fa F
 have M:=Mx.theG hg 0
 refine zT fun _ hK1=>zq rfl rfl F rfl M 1 (t:=23) (c:=#[(.slice Au mu ku)]) (by unfold execOp;simp only [(F 2 rfl)];kernel_rfl) ?_
 intro g2 a2 w2 F2 M2
 refine rm rfl F2 fun _ F3=>hK1 _ _ (zT fun _ hK4=>zc (w':=w2) rfl rfl F3 rfl (.func (.func 123) #[] #[(zO g2)]) (by unfold execOp;simp only [List.map_toArray,List.map_cons,List.map_nil,(F3 5 rfl)];kernel_rfl) fun _ F5=>?_)
 refine rm rfl F5 fun _ F6=>hK4 _ _ (zT fun _ hK7=>zc (w':=w2) rfl rfl F6 rfl (.func (.func 124) #[] #[]) (zga _ (.inr rfl) rfl) fun _ F8=>?_)
 refine hK7 _ _ (zT fun _ hK9=>rm rfl F8 fun _ F10=>rm rfl F10 fun _ F11=>rm rfl F11 fun _ F12=>zh rfl rfl F12 rfl rfl (zE Tryz.func125 rfl) #[(zO g),zI (p:Int),.func (.func 123) #[] #[(zO g2)]] (args3 (F12 10 rfl) (F12 11 rfl) (F12 12 rfl)) (step_lay_f g c fl lf dd s n p g2 hp (.slice Au mu ku) ⟨Au,mu,ku,rfl⟩ l (fun e=>M2.dis 0 1 _ _ rfl rfl (by decide) rfl g rfl e.symm) hf1 w2 (M2.blk (k:=1) rfl) (M2.blk (k:=0) rfl)) ?_)
 rintro _ w13 a13 ⟨rfl,hc13,hg13⟩ F13
 have M13:=M2.put (k:=0) rfl hg13 hc13
 clear M2 hg13 hc13
 refine rm rfl F13 fun _ F14=>rm rfl F14 fun _ F15=>rm rfl F15 fun _ F16=>rm rfl F16 fun _ F17=>zh (zd rfl rfl rfl (F17 14 rfl)) rfl F17 rfl rfl (zE Tryz.func125 rfl) #[(zO g),zI (p:Int),.func (.func 124) #[] #[]] (args3 (F17 15 rfl) (F17 16 rfl) (F17 17 rfl)) (step_keep_f g (putC c p ⟨(c p).s,l,true⟩) fl (IntKind.i64.wrap (lf-1)) dd s (putN n p (.slice Au mu ku)) p hp (by rw [putN_at];exact ⟨Au,mu,ku,rfl⟩) l hf2 w13 (M13.blk (k:=0) rfl)) ?_
 rintro _ w18 a18 ⟨rfl,hc18,hg18⟩ F18
 have M18:=M13.put (k:=0) rfl hg18 hc18
 clear M13 hg18 hc18
 refine zB 2 [(6,.bool true)] [] dnil [] F18 fun _ F19=>?_
 exact hK9 _ _ (wp_ret (bodyPost_ret (res1 rfl (F19.get rfl)) F19.defers ⟨_,rfl,rfl,M18.blk (k:=0) rfl,M18.grown⟩))
def RowsV (w:World) (g:Nat) (c:Nat→CelN) (s n:Nat→Value):Prop:=∀ i,i<18→(IsB w (c i).s (s i)∧¬bfp (s i) g)∧(IsB w (c i).n (n i)∧¬bfp (n i) g)
def zo (N:Nat) (s n:Nat→Value) (b:Nat):Prop:=∃ i,i<N∧(bfp (s i) b∨bfp (n i) b)
theorem rowsfp_lay {s n:Nat→Value} {p:Nat} {u:Value} {b:Nat} (h:zo 18 s (putN n p u) b):zo 18 s n b∨bfp u b:=by
 obtain ⟨i,hi,hb⟩:=h
 rcases hb with hb | hb
 ·exact .inl ⟨i,hi,.inl hb⟩
 ·by_cases e:i=p
  ·subst e
   rw [show putN n i u i=u from if_pos rfl] at hb
   exact .inr hb
  ·rw [show putN n p u i=n i from if_neg e] at hb
   exact .inl ⟨i,hi,.inr hb⟩
theorem rowsfp_keep {s n:Nat→Value} {p:Nat} (hp:p<18) {b:Nat} (h:zo 18 (putN s p (n p)) (putN n p (zN)) b):zo 18 s n b:=by
 obtain ⟨i,hi,hb⟩:=h
 by_cases e:i=p
 ·subst e
  rw [show putN s i (n i) i=n i from if_pos rfl,show putN n i (zN) i=zN from if_pos rfl] at hb
  rcases hb with hb | hb
  ·exact ⟨i,hi,.inr hb⟩
  ·exact absurd hb (zta b)
 ·rw [show putN s p (n p) i=s i from if_neg e,show putN n p (zN) i=n i from if_neg e] at hb
  exact ⟨i,hi,hb⟩
theorem RowsV.lay {w:World} {g:Nat} {c:Nat→CelN} {s n:Nat→Value} (h:RowsV w g c s n) {p:Nat} {l:List UInt8} {u:Value} (hu:IsB w l u) (hg:¬bfp u g):RowsV w g (putC c p ⟨(c p).s,l,true⟩) s (putN n p u):=fun i hi=>by
 by_cases e:i=p
 ·subst e
  rw [zdc,putN_at]
  exact ⟨(h i hi).1,hu,hg⟩
 ·rw [ztc _ _ e,show putN n p u i=n i from if_neg e]
  exact h i hi
theorem RowsV.keep {w:World} {g:Nat} {c:Nat→CelN} {s n:Nat→Value} (h:RowsV w g c s n) {p:Nat} (hp:p<18):RowsV w g (putC c p ⟨(c p).n,[],false⟩) (putN s p (n p)) (putN n p (zN)):=fun i hi=>by
 by_cases e:i=p
 ·subst e
  rw [zdc,putN_at,putN_at]
  exact ⟨(h i hi).2,zka _,zta _⟩
 ·rw [ztc _ _ e,show putN s p (n p) i=s i from if_neg e,show putN n p (zN) i=n i from if_neg e]
  exact h i hi
theorem IsB.grow {w w':World} {g:Nat} {l:List UInt8} {v:Value} (h:IsB w l v) (hb:w.grownBy w' (some g)) (hg:¬bfp v g):IsB w' l v:=by
 obtain ⟨A,c,rfl,h1,h2,h3,h4⟩:=h
 refine ⟨A,c,rfl,h1,h2,h3,fun hl=>?_⟩
 obtain ⟨ad,rfl,q1,q2⟩:=h4 hl
 obtain ⟨b,o,s⟩:=ad
 have e:w'.heap[b]? = w.heap[b]?:=hb.block b q1 fun e=>by
  have e2:b=g:=Option.some.inj e
  subst e2
  exact hg ⟨o,s,_,_,rfl,hl⟩
 have hlt:b<w'.heap.size:=by
  obtain ⟨x,hx⟩:∃ x,w.heap[b]? = some x:=⟨_,Array.getElem?_eq_getElem q1⟩
  rw [hx] at e
  exact (Array.getElem?_eq_some_iff.1 e).1
 refine ⟨_,rfl,hlt,fun j x hj=>?_⟩
 have hblk:((⟨b,o,s⟩:Addr).add j).block=b:=by unfold Addr.add;split <;> rfl
 have:=q2 j x hj
 simp only [World.cell?,hblk,e] at this ⊢
 exact this
theorem RowsV.grow {w w':World} {g:Nat} {c:Nat→CelN} {s n:Nat→Value} (h:RowsV w g c s n) (hb:w.grownBy w' (some g)):RowsV w' g c s n:=fun i hi=>
 ⟨⟨(h i hi).1.1.grow hb (h i hi).1.2,(h i hi).1.2⟩,(h i hi).2.1.grow hb (h i hi).2.2,(h i hi).2.2⟩
theorem dwrite_any (g:Nat) (V:VltN) (s n:Nat→Value) (p:Nat) (hp:p<18) (u:Value) (l:List UInt8) (w:World) (hu:IsB w l u) (hug:¬bfp u g) (hr:RowsV w g V.c s n) (hg:w.heap[g]? = some (.cells (vltA V s n) 80 (0,0))):
  Calls Tryz.prog 98 #[(zO g),zI (p:Int),u] w fun e w'=>∃ t,e=.returned t∧t=.bool (wrtV V p l).2∧∃ s' n',RowsV w' g (wrtV V p l).1.c s' n'∧(∀ b,zo 18 s' n' b→zo 18 s n b∨bfp u b)∧w'.heap[g]? = some (.cells (vltA (wrtV V p l).1 s' n') 80 (0,0))∧w.grownBy w' (some g):=by
 obtain ⟨c,fl,lf,dd⟩:=V
 have hs:∃ A m k,u=.slice A m k:=hu.slc
 have h1:RowsV w g (putC c p ⟨(c p).s,l,true⟩) s (putN n p u):=RowsV.lay hr hu hug
 have h2:RowsV w g (putC (putC c p ⟨(c p).s,l,true⟩) p ⟨l,[],false⟩) (putN s p (putN n p u p)) (putN (putN n p u) p (zN)):=by
  have:=h1.keep hp
  rw [zdc] at this
  exact this
 by_cases hf1:(fl&&decide (lf=0))=true
 ·have e:wrtV ⟨c,fl,lf,dd⟩ p l=(⟨c,fl,lf,true⟩,false):=by
   unfold wrtV;rw [if_pos (show zpc ⟨c,fl,lf,dd⟩=true from hf1)];rfl
  rw [e]
  exact (dwrite_1 g c fl lf dd s n p hp u hs l hf1 w hg).mono fun e w' ⟨t,k1,k2,k3,k4⟩=>⟨t,k1,k2,s,n,RowsV.grow hr k4,fun b h=>.inl h,k3,k4⟩
 ·have hf1':(fl&&decide (lf=0))=false:=by simpa using hf1
  by_cases hf2:(fl&&decide (IntKind.i64.wrap (lf-1)=0))=true
  ·have e:wrtV ⟨c,fl,lf,dd⟩ p l=(⟨putC c p ⟨(c p).s,l,true⟩,fl,IntKind.i64.wrap (lf-1),true⟩,false):=by
    unfold wrtV;rw [if_neg (show ¬zpc ⟨c,fl,lf,dd⟩=true from hf1),if_pos (show zpc (zjc ⟨c,fl,lf,dd⟩ p l)=true from hf2)];rfl
   rw [e]
   exact (dwrite_2 g c fl lf dd s n p hp u hs l hf1' hf2 w hg).mono fun e w' ⟨t,k1,k2,k3,k4⟩=>⟨t,k1,k2,s,putN n p u,RowsV.grow h1 k4,fun b h=>rowsfp_lay h,k3,k4⟩
  ·have hf2':(fl&&decide (IntKind.i64.wrap (lf-1)=0))=false:=by simpa using hf2
   have e:wrtV ⟨c,fl,lf,dd⟩ p l=(⟨putC (putC c p ⟨(c p).s,l,true⟩) p ⟨l,[],false⟩,fl,IntKind.i64.wrap (IntKind.i64.wrap (lf-1)-1),dd⟩,true):=by
    unfold wrtV;rw [if_neg (show ¬zpc ⟨c,fl,lf,dd⟩=true from hf1),if_neg (show ¬zpc (zjc ⟨c,fl,lf,dd⟩ p l)=true from hf2)]
    unfold keepV zjc
    dsimp only
    rw [zdc]
   rw [e]
   exact (dwrite_3 g c fl lf dd s n p hp u hs l hf1' hf2' w hg).mono fun e w' ⟨t,k1,k2,k3,k4⟩=>⟨t,k1,k2,_,_,RowsV.grow h2 k4,fun b h=>rowsfp_lay (rowsfp_keep hp h),k3,k4⟩
def nxtP (V:VltN) (q:Nat):Nat:=if anyB zr V q=true then 2*q+1-cntP V q else q
def nxtT (V:VltN) (q:Nat):Int:=if anyB zr V q=true then cntT V q+1 else 1
def sayW (V:VltN) (q:Nat) (l:List UInt8):VltN×Bool:=wrtV V (nxtP V q) (z7a zr (nxtP V q) (nxtT V q) l)
theorem cntP_in {V:VltN} {q:Nat} (h:anyB zr V q=true):cntP V q=q∨cntP V q=q+1:=by
 unfold cntP
 by_cases hs:secB zr V q=true
 ·rw [if_pos hs]
  right
  have:zpb zr (q+1) (V.c (q+1)).s=true:=by
   unfold secB at hs
   simp only [Bool.and_eq_true] at hs
   exact hs.1
  exact if_pos (good_ge this)
 ·rw [if_neg hs]
  left
  have:zpb zr q (V.c q).s=true:=by
   unfold anyB at h
   simp only [Bool.or_eq_true] at h
   exact h.resolve_left hs
  exact if_pos (good_ge this)
theorem cw_is {f:FuncId} {args:Array Value} {w:World} {V:VltN} {q P:Nat} {T:Int} {b:Bool} {s:Nat→Value} (hP:cntP V q=P) (hT:cntT V q=T) (h:Calls Tryz.prog f args w fun e w'=>∃ t,e=.returned t∧∃ S,t=.tuple #[.agg #[zI (cntP V q:Int),zI (cntT V q),S],.bool b]∧IsB w (cntS V q) S∧(∀ b,bfp S b→bfp (s q) b∨bfp (s (q+1)) b)∧Below w.heap.size w w'):Calls Tryz.prog f args w fun e w'=>∃ t,e=.returned t∧∃ S,t=.tuple #[.agg #[zI (P:Int),zI T,S],.bool b]∧IsB w (cntS V q) S∧(∀ b,bfp S b→bfp (s q) b∨bfp (s (q+1)) b)∧Below w.heap.size w w':=by
 subst hP hT;exact h
theorem HasV.of {w:World} {g:Nat} {V:VltN} {s n:Nat→Value} (hg:w.heap[g]? = some (.cells (vltA V s n) 80 (0,0))) (hr:RowsV w g V.c s n):HasV w g V s n:=⟨hg,fun i hi=>(hr i hi).1.1,fun i hi=>(hr i hi).2.1⟩
theorem pwrite_twt (c2:Bool) (q:Nat) (hq:q+1<18) (g:Nat) (V:VltN) (s n:Nat→Value) (hv:z2a V) (l:List UInt8) (lv:Value) (hl:l.length≤1000) (hA:anyB zr V q=true) (ht:-9223372036854775808≤cntT V q∧cntT V q<9223372036854775807) (w:World) (hB:IsB w l lv) (hBg:¬bfp lv g) (hr:RowsV w g V.c s n) (hg:w.heap[g]? = some (.cells (vltA V s n) 80 (0,0))):let tw3:FuncId:=cond c2 77 66;let tw4:FuncId:=cond c2 106 89;let tw5:FuncId:=cond c2 105 88;let tw6:TypeId:=cond c2 87 100;let tw0f:Func:=cond c2 Tryz.f77 Tryz.f66;let tw1f:Func:=cond c2 Tryz.f106 Tryz.f89;Calls Tryz.prog tw3 #[.agg #[zI (q:Int),.func (.func tw5) #[] #[]],(zO g),lv] w fun e w'=>∃ t,e=.returned t∧t=.bool (sayW V q l).2∧∃ s' n',RowsV w' g (sayW V q l).1.c s' n'∧(∀ b,zo 18 s' n' b→zo 18 s n b∨w.heap.size≤b)∧w'.heap[g]? = some (.cells (vltA (sayW V q l).1 s' n') 80 (0,0))∧w.grownBy w' (some g):=by
 intro tw3 tw4 tw5 tw6 tw0f tw1f
 cases c2
 all_goals
  have tw0:Tryz.prog.funcs[tw3]? = some (tw0f):=by first | exact Tryz.func77 | exact Tryz.func66
  have tw1:Tryz.prog.funcs[tw4]? = some (tw1f):=by first | exact Tryz.func106 | exact Tryz.func89
  obtain ⟨tw2d,tw2,tw2p⟩:∃ d,Tryz.prog.underlying tw6=some d∧yPlain d=false:=by first | exact ⟨_,Tryz.underlying87,rfl⟩ | exact ⟨_,Tryz.underlying100,rfl⟩
  obtain ⟨Av,cv,rfl⟩:=hB.shape
  obtain ⟨P,hP⟩:∃ x,cntP V q=x:=⟨_,rfl⟩
  have hPq:=cntP_in hA
  rw [hP] at hPq
  obtain ⟨T,hT⟩:∃ x,cntT V q=x:=⟨_,rfl⟩
  rw [hT] at ht
  obtain ⟨N,hN⟩:∃ N,2*q+1-P=N:=⟨_,rfl⟩
  rw [show sayW V q l=wrtV V N (z7a zr N (T+1) l) by rw [sayW,nxtP,nxtT,if_pos hA,if_pos hA,hP,hT,hN]]
  refine zk (args:=[.agg (#[zI (q:Int),.func (.func tw5) #[] #[]]),(zO g),.slice Av l.length cv]) 39 tw0 rfl rfl rfl ?_
  intro fa F
  have M:=Mx.theG hg 0
  refine zT fun _ hK1=>zq rfl rfl F rfl M 1 (t:=tw6) (c:=#[zI (q:Int),.func (.func tw5) #[] #[]]) (by unfold execOp;simp only [(F 0 rfl)];kernel_rfl) ?_
  intro g2 a2 w2 F2 M2
  refine rm rfl F2 fun _ F3=>hK1 _ _ (zT fun _ hK4=>zB 3 [(1,(zO g)),(3,(zO g2)),(6,.bool false),(11,zI (q:Int)),(12,.slice Av l.length cv)] [0] (zx (M2.blk (k:=1) rfl) dnil) [g2] F3 fun _ F5=>?_)
  refine zc (w':=w2) rfl rfl F5 rfl (.agg (#[zI (q:Int),zI 1,.slice Av l.length cv])) (by unfold execOp;simp only [List.map_toArray,List.map_cons,List.map_nil,(F5 11 rfl),(F5 12 rfl)];kernel_rfl) fun _ F6=>?_
  refine zq rfl rfl F6 rfl M2 2 (t:=128) (c:=#[zI 0,zI 0,zN]) (by unfold execOp;kernel_rfl) ?_
  intro g7 a7 w7 F7 M7
  refine zt rfl rfl F7 M7 (k:=2) rfl _ _ _ rfl (F7 7 rfl) (F7 13 rfl) (#[zI (q:Int),zI 1,.slice Av l.length cv]) _ rfl (zL rfl) (zyc (hB.grow M7.grown hBg)) (zfa rfl) (by kernel_rfl) ?_
  intro w8 M8
  refine hK4 _ _ (zSk fun _ hK9=>zT fun _ hK10=>zc (w':=w8) rfl rfl F7 rfl _ (zdb _ _ rfl (F7 3 rfl) (M8.blk (k:=1) rfl) (#[zI (q:Int),.func (.func tw5) #[] #[]]) (zib rfl) tw2 tw2p (by kernel_rfl)) fun _ F11=>?_)
  refine rm rfl F11 fun _ F12=>zh rfl rfl F12 rfl rfl (enters_of tw1 (by kernel_rfl) rfl) #[.agg (#[zI (q:Int),.func (.func tw5) #[] #[]]),(zO g)] (zea (F12 15 rfl) (F12 16 rfl)) (cw_is hP hT (by first | exact countsR_is q hq g V s n hv true hA w8 (HasV.of (M8.blk (k:=0) rfl) (hr.grow M8.grown)) | exact countsI_is q hq g V s n hv true hA w8 (HasV.of (M8.blk (k:=0) rfl) (hr.grow M8.grown)))) ?_
  rintro _ w13 a13 ⟨S13,rfl,hS13,hf13,b13⟩ F13
  skip
  have M13:=M8.step b13
  have hS13:=hS13.step b13
  refine rm rfl F13 fun _ F14=>zAx 2 [(18,.agg (#[zI (P:Int),zI T,S13])),(19,.bool true)] [] dnil [] F14 fun _ F15=>?_
  refine zq rfl rfl F15 rfl M13 4 (t:=128) (c:=#[zI 0,zI 0,zN]) (by unfold execOp;kernel_rfl) ?_
  intro g16 a16 w16 F16 M16
  refine zt rfl rfl F16 M16 (k:=4) rfl _ _ _ rfl (F16 8 rfl) (F16 18 rfl) (#[zI (P:Int),zI T,S13]) _ rfl (zL rfl) (zyc hS13) (zfa rfl) (by kernel_rfl) ?_
  intro w17 M17
  refine rm rfl F16 fun _ F18=>hK10 _ _ (zT fun _ hK19=>rm rfl F18 fun _ F20=>hK19 _ _ (wp_cond_true (F20 20 rfl) (zT fun _ hK21=>zAx 2 [(21,(zO g2)),(22,zI (q:Int))] [0] (zx (M17.blk (k:=1) rfl) dnil) [g2] F20 fun _ F22=>?_)))
  refine zc (w':=w17) rfl rfl F22 rfl (zI ((2*q:Nat):Int)) (y_mulI _ _ _ _ rfl rfl (F22 22 rfl) (by omega) (by omega)) fun _ F23=>?_
  refine zc (w':=w17) rfl rfl F23 rfl (zI ((2*q+1:Nat):Int)) (zsa _ _ _ _ rfl (F23 23 rfl) rfl (by omega) (by omega)) fun _ F24=>?_
  refine zAx 2 [(25,(zO g16)),(26,zI (P:Int))] [0] (zx (M17.blk (k:=4) rfl) dnil) [g16] F24 fun _ F25=>?_
  refine zc (w':=w17) rfl rfl F25 rfl (zI (N:Int)) (z3c _ _ _ _ rfl (F25 24 rfl) (F25 26 rfl) (by omega) (by omega)) fun _ F26=>?_
  refine zc (w':=w17) rfl rfl F26 rfl (zO g7) (y_fa (off:=0) rfl (F26 7 rfl) (by kernel_rfl) rfl) fun _ F27=>?_
  refine zt rfl rfl F27 M17 (k:=2) rfl _ _ _ rfl (F27 28 rfl) (F27 27 rfl) (#[zI (N:Int)]) (#[zI (N:Int),zI 1,.slice Av l.length cv]) rfl (zL rfl) (zcc _ _) (by kernel_rfl) (by kernel_rfl) ?_
  intro w28 M28
  refine hK21 _ _ (zR (zc (w':=w28) rfl rfl F27 rfl (zP g16 1) (y_fa (off:=1) rfl (F27 8 rfl) (by kernel_rfl) rfl) fun _ F29=>?_))
  refine zc (w':=w28) rfl rfl F29 rfl (zI T) (zha _ _ rfl (F29 29 rfl) (M28.blk (k:=4) rfl) rfl Tryz.underlying3 rfl) fun _ F30=>?_
  refine zc (w':=w28) rfl rfl F30 rfl (zI (T+1)) (zsa _ _ _ _ rfl (F30 30 rfl) rfl rfl (by omega)) fun _ F31=>?_
  refine zc (w':=w28) rfl rfl F31 rfl (zP g7 1) (y_fa (off:=1) rfl (F31 7 rfl) (by kernel_rfl) rfl) fun _ F32=>?_
  refine zt rfl rfl F32 M28 (k:=2) rfl _ _ _ rfl (F32 32 rfl) (F32 31 rfl) (#[zI (T+1)]) (#[zI (N:Int),zI (T+1),.slice Av l.length cv]) rfl (zL rfl) (zcc _ _) (by kernel_rfl) (by kernel_rfl) ?_
  intro w33 M33
  refine hK9 _ _ (zSk fun _ hK34=>?_)
  refine zpa F32 (SE [.inl (zO g),.inl (zO g7),.inl (zI (N:Int)),.inl (.agg (#[zI (N:Int),zI (T+1),.slice Av l.length cv])),.inr (fun _=>True)]) (JM (some g) w fun SV pV=>[(0,blkR g 80 (vltA V s n)),(1,blkR g2 tw6 (#[zI (q:Int),.func (.func tw5) #[] #[]])),(2,blkR g7 128 (#[zI (N:Int),zI (T+1),.slice Av l.length cv])),(4,blkR g16 128 (#[zI (P:Int),zI T,S13])),(5,z6a (SV 4) (ownR (z7a zr N (T+1) l) (pV 4)))]) 5 rfl (by kernel_rfl) rfl ⟨trivial,trivial,trivial,trivial,trivial,trivial⟩ (fun p=>((M33.step (zma _)).triv 5).sub ⟨rfl,rfl,rfl,rfl,rfl,trivial⟩) ⟨z9a F32,z9a F32,hopMP F32 (fun _ _ _ M=>zx (Mx.blk (k:=2) M rfl) dnil) (some g7),hopMP F32 (fun _ _ _ M=>zx (Mx.blk (k:=2) M rfl) dnil) (some g7),?_,trivial⟩ ?_
  ·intro ua uw SV pV (M:Mx (some g) w uw _) hk hn hd
   have e36:ua.eval (.tmp 36)=.agg (#[zI (N:Int),zI (T+1),.slice Av l.length cv]):=zQ1 (hd 36 (by decide))
   exact zxa rfl rfl #[.agg (#[zI (N:Int),zI (T+1),.slice Av l.length cv])] (zca e36) (zE Tryz.func99 rfl) (((cbytes_any N (T+1) l (.slice Av l.length cv) hl uw (hB.grow M.grown hBg))).mono fun e w2 h=>(by obtain ⟨u,h1,h2,h3⟩:=h;exact ⟨u,h1,trivial,(M.newO h3 5 h2).sub ⟨rfl,rfl,rfl,rfl,rfl,trivial⟩⟩))
  intro p35 a35 w35 M35 G35 y35
  obtain ⟨q0,-,q2,-,q4,-⟩:=y35
  have r0:p35 0=(zO g):=q0
  have r2:p35 2=zI (N:Int):=q2
  replace M35:Mx _ _ w35 [(0,blkR g 80 (vltA V s n)),(1,blkR g2 tw6 (#[zI (q:Int),.func (.func tw5) #[] #[]])),(2,blkR g7 128 (#[zI (N:Int),zI (T+1),.slice Av l.length cv])),(4,blkR g16 128 (#[zI (P:Int),zI T,S13])),(5,z6a true (ownR (z7a zr N (T+1) l) (p35 4)))]:=M35
  simp only [List.take,layV,Nat.zero_add,Nat.reduceAdd,r0,r2] at G35
  obtain ⟨Ap35_5,cp35_5,hp35_5⟩:=(M35.isO (k:=5) rfl).shape
  rw [hp35_5] at M35
  try rw [hp35_5] at G35
  refine zh rfl rfl G35 rfl rfl (zE Tryz.func98 rfl) #[(zO g),zI (N:Int),(.slice Ap35_5 ((z7a zr N (T+1) l)).length cp35_5)] (args3 (G35 33 rfl) (G35 35 rfl) (G35 37 rfl)) (dwrite_any g V s n N (by omega) ((.slice Ap35_5 ((z7a zr N (T+1) l)).length cp35_5)) (z7a zr N (T+1) l) w35 (M35.isO (k:=5) rfl) (fun h=>M35.dis 0 5 _ _ rfl rfl (by decide) rfl g rfl (z1a h)) (hr.grow M35.grown) (M35.blk (k:=0) rfl)) ?_
  rintro _ w36 a36 ⟨rfl,s2,n2,hr36,ht36,hc36,hg36⟩ F36
  exact rm rfl F36 fun _ F37=>hK34 _ _ (wp_ret (bodyPost_ret (res1 rfl (F37.get rfl)) F37.defers ⟨_,rfl,rfl,s2,n2,hr36,(fun b hb=>(ht36 b hb).imp id (fun hb=>(M35.own 5 _ rfl rfl b (z1a hb)).resolve_right (fun e=>M35.dis 0 5 _ _ rfl rfl (by decide) rfl b (Option.some.inj e).symm (z1a hb)))),hc36,M35.grown.trans hg36⟩))
theorem pwriteR_t (q:Nat) (hq:q+1<18) (g:Nat) (V:VltN) (s n:Nat→Value) (hv:z2a V) (l:List UInt8) (lv:Value) (hl:l.length≤1000) (hA:anyB zr V q=true) (ht:-9223372036854775808≤cntT V q∧cntT V q<9223372036854775807) (w:World) (hB:IsB w l lv) (hBg:¬bfp lv g) (hr:RowsV w g V.c s n) (hg:w.heap[g]? = some (.cells (vltA V s n) 80 (0,0))):Calls Tryz.prog 77 #[.agg #[zI (q:Int),.func (.func 105) #[] #[]],(zO g),lv] w fun e w'=>∃ t,e=.returned t∧t=.bool (sayW V q l).2∧∃ s' n',RowsV w' g (sayW V q l).1.c s' n'∧(∀ b,zo 18 s' n' b→zo 18 s n b∨w.heap.size≤b)∧w'.heap[g]? = some (.cells (vltA (sayW V q l).1 s' n') 80 (0,0))∧w.grownBy w' (some g):=pwrite_twt true q hq g V s n hv l lv hl hA ht w hB hBg hr hg
theorem pwrite_twf (c2:Bool) (q:Nat) (hq:q+1<18) (g:Nat) (V:VltN) (s n:Nat→Value) (hv:z2a V) (l:List UInt8) (lv:Value) (hl:l.length≤1000) (hA:anyB zr V q=false) (w:World) (hB:IsB w l lv) (hBg:¬bfp lv g) (hr:RowsV w g V.c s n) (hg:w.heap[g]? = some (.cells (vltA V s n) 80 (0,0))):let tw3:FuncId:=cond c2 77 66;let tw4:FuncId:=cond c2 106 89;let tw5:FuncId:=cond c2 105 88;let tw6:TypeId:=cond c2 87 100;let tw0f:Func:=cond c2 Tryz.f77 Tryz.f66;let tw1f:Func:=cond c2 Tryz.f106 Tryz.f89;Calls Tryz.prog tw3 #[.agg #[zI (q:Int),.func (.func tw5) #[] #[]],(zO g),lv] w fun e w'=>∃ t,e=.returned t∧t=.bool (sayW V q l).2∧∃ s' n',RowsV w' g (sayW V q l).1.c s' n'∧(∀ b,zo 18 s' n' b→zo 18 s n b∨w.heap.size≤b)∧w'.heap[g]? = some (.cells (vltA (sayW V q l).1 s' n') 80 (0,0))∧w.grownBy w' (some g):=by
 intro tw3 tw4 tw5 tw6 tw0f tw1f
 cases c2
 all_goals
  have tw0:Tryz.prog.funcs[tw3]? = some (tw0f):=by first | exact Tryz.func77 | exact Tryz.func66
  have tw1:Tryz.prog.funcs[tw4]? = some (tw1f):=by first | exact Tryz.func106 | exact Tryz.func89
  obtain ⟨tw2d,tw2,tw2p⟩:∃ d,Tryz.prog.underlying tw6=some d∧yPlain d=false:=by first | exact ⟨_,Tryz.underlying87,rfl⟩ | exact ⟨_,Tryz.underlying100,rfl⟩
  obtain ⟨Av,cv,rfl⟩:=hB.shape
  rw [show sayW V q l=wrtV V q (z7a zr q 1 l) by rw [sayW,nxtP,nxtT,if_neg (by rw [hA];exact Bool.false_ne_true),if_neg (by rw [hA];exact Bool.false_ne_true)]]
  refine zk (args:=[.agg (#[zI (q:Int),.func (.func tw5) #[] #[]]),(zO g),.slice Av l.length cv]) 39 tw0 rfl rfl rfl ?_
  intro fa F
  have M:=Mx.theG hg 0
  refine zT fun _ hK1=>zq rfl rfl F rfl M 1 (t:=tw6) (c:=#[zI (q:Int),.func (.func tw5) #[] #[]]) (by unfold execOp;simp only [(F 0 rfl)];kernel_rfl) ?_
  intro g2 a2 w2 F2 M2
  refine rm rfl F2 fun _ F3=>hK1 _ _ (zT fun _ hK4=>zB 3 [(1,(zO g)),(3,(zO g2)),(6,.bool false),(11,zI (q:Int)),(12,.slice Av l.length cv)] [0] (zx (M2.blk (k:=1) rfl) dnil) [g2] F3 fun _ F5=>?_)
  refine zc (w':=w2) rfl rfl F5 rfl (.agg (#[zI (q:Int),zI 1,.slice Av l.length cv])) (by unfold execOp;simp only [List.map_toArray,List.map_cons,List.map_nil,(F5 11 rfl),(F5 12 rfl)];kernel_rfl) fun _ F6=>?_
  refine zq rfl rfl F6 rfl M2 2 (t:=128) (c:=#[zI 0,zI 0,zN]) (by unfold execOp;kernel_rfl) ?_
  intro g7 a7 w7 F7 M7
  refine zt rfl rfl F7 M7 (k:=2) rfl _ _ _ rfl (F7 7 rfl) (F7 13 rfl) (#[zI (q:Int),zI 1,.slice Av l.length cv]) _ rfl (zL rfl) (zyc (hB.grow M7.grown hBg)) (zfa rfl) (by kernel_rfl) ?_
  intro w8 M8
  refine hK4 _ _ (zSk fun _ hK9=>zT fun _ hK10=>zc (w':=w8) rfl rfl F7 rfl _ (zdb _ _ rfl (F7 3 rfl) (M8.blk (k:=1) rfl) (#[zI (q:Int),.func (.func tw5) #[] #[]]) (zib rfl) tw2 tw2p (by kernel_rfl)) fun _ F11=>?_)
  refine rm rfl F11 fun _ F12=>zh rfl rfl F12 rfl rfl (enters_of tw1 (by kernel_rfl) rfl) #[.agg (#[zI (q:Int),.func (.func tw5) #[] #[]]),(zO g)] (zea (F12 15 rfl) (F12 16 rfl)) (by first | exact countsR_is q hq g V s n hv false hA w8 (HasV.of (M8.blk (k:=0) rfl) (hr.grow M8.grown)) | exact countsI_is q hq g V s n hv false hA w8 (HasV.of (M8.blk (k:=0) rfl) (hr.grow M8.grown))) ?_
  rintro _ w13 a13 ⟨S13,rfl,hS13,hf13,b13⟩ F13
  skip
  have M13:=M8.step b13
  have hS13:=hS13.step b13
  refine rm rfl F13 fun _ F14=>zAx 2 [(18,.agg (#[zI (cntP V q:Int),zI (cntT V q),S13])),(19,.bool false)] [] dnil [] F14 fun _ F15=>?_
  refine zq rfl rfl F15 rfl M13 4 (t:=128) (c:=#[zI 0,zI 0,zN]) (by unfold execOp;kernel_rfl) ?_
  intro g16 a16 w16 F16 M16
  refine zt rfl rfl F16 M16 (k:=4) rfl _ _ _ rfl (F16 8 rfl) (F16 18 rfl) (#[zI (cntP V q:Int),zI (cntT V q),S13]) _ rfl (zL rfl) (zyc hS13) (zfa rfl) (by kernel_rfl) ?_
  intro w17 M17
  refine rm rfl F16 fun _ F18=>hK10 _ _ (zT fun _ hK19=>rm rfl F18 fun _ F20=>hK19 _ _ (wp_cond_false (F20 20 rfl) (wp_skip (hK9 _ _ (zSk fun _ hK21=>?_)))))
  refine zpa F20 (SE [.inl (zO g),.inl (zO g7),.inl (zI (q:Int)),.inl (.agg (#[zI (q:Int),zI 1,.slice Av l.length cv])),.inr (fun _=>True)]) (JM (some g) w fun SV pV=>[(0,blkR g 80 (vltA V s n)),(1,blkR g2 tw6 (#[zI (q:Int),.func (.func tw5) #[] #[]])),(2,blkR g7 128 (#[zI (q:Int),zI 1,.slice Av l.length cv])),(4,blkR g16 128 (#[zI (cntP V q:Int),zI (cntT V q),S13])),(5,z6a (SV 4) (ownR (z7a zr q 1 l) (pV 4)))]) 5 rfl (by kernel_rfl) rfl ⟨trivial,trivial,trivial,trivial,trivial,trivial⟩ (fun p=>((M17.step (zma _)).triv 5).sub ⟨rfl,rfl,rfl,rfl,rfl,trivial⟩) ⟨z9a F20,z9a F20,hopMP F20 (fun _ _ _ M=>zx (Mx.blk (k:=2) M rfl) dnil) (some g7),hopMP F20 (fun _ _ _ M=>zx (Mx.blk (k:=2) M rfl) dnil) (some g7),?_,trivial⟩ ?_
  ·intro ua uw SV pV (M:Mx (some g) w uw _) hk hn hd
   have e36:ua.eval (.tmp 36)=.agg (#[zI (q:Int),zI 1,.slice Av l.length cv]):=zQ1 (hd 36 (by decide))
   exact zxa rfl rfl #[.agg (#[zI (q:Int),zI 1,.slice Av l.length cv])] (zca e36) (zE Tryz.func99 rfl) (((cbytes_any q 1 l (.slice Av l.length cv) hl uw (hB.grow M.grown hBg))).mono fun e w2 h=>(by obtain ⟨u,h1,h2,h3⟩:=h;exact ⟨u,h1,trivial,(M.newO h3 5 h2).sub ⟨rfl,rfl,rfl,rfl,rfl,trivial⟩⟩))
  intro p22 a22 w22 M22 G22 y22
  obtain ⟨q0,-,q2,-,q4,-⟩:=y22
  have r0:p22 0=(zO g):=q0
  have r2:p22 2=zI (q:Int):=q2
  replace M22:Mx _ _ w22 [(0,blkR g 80 (vltA V s n)),(1,blkR g2 tw6 (#[zI (q:Int),.func (.func tw5) #[] #[]])),(2,blkR g7 128 (#[zI (q:Int),zI 1,.slice Av l.length cv])),(4,blkR g16 128 (#[zI (cntP V q:Int),zI (cntT V q),S13])),(5,z6a true (ownR (z7a zr q 1 l) (p22 4)))]:=M22
  simp only [List.take,layV,Nat.zero_add,Nat.reduceAdd,r0,r2] at G22
  obtain ⟨Ap22_5,cp22_5,hp22_5⟩:=(M22.isO (k:=5) rfl).shape
  rw [hp22_5] at M22
  try rw [hp22_5] at G22
  refine zh rfl rfl G22 rfl rfl (zE Tryz.func98 rfl) #[(zO g),zI (q:Int),(.slice Ap22_5 ((z7a zr q 1 l)).length cp22_5)] (args3 (G22 33 rfl) (G22 35 rfl) (G22 37 rfl)) (dwrite_any g V s n q (by omega) ((.slice Ap22_5 ((z7a zr q 1 l)).length cp22_5)) (z7a zr q 1 l) w22 (M22.isO (k:=5) rfl) (fun h=>M22.dis 0 5 _ _ rfl rfl (by decide) rfl g rfl (z1a h)) (hr.grow M22.grown) (M22.blk (k:=0) rfl)) ?_
  rintro _ w23 a23 ⟨rfl,s2,n2,hr23,ht23,hc23,hg23⟩ F23
  exact rm rfl F23 fun _ F24=>hK21 _ _ (wp_ret (bodyPost_ret (res1 rfl (F24.get rfl)) F24.defers ⟨_,rfl,rfl,s2,n2,hr23,(fun b hb=>(ht23 b hb).imp id (fun hb=>(M22.own 5 _ rfl rfl b (z1a hb)).resolve_right (fun e=>M22.dis 0 5 _ _ rfl rfl (by decide) rfl b (Option.some.inj e).symm (z1a hb)))),hc23,M22.grown.trans hg23⟩))
theorem pwriteR_f (q:Nat) (hq:q+1<18) (g:Nat) (V:VltN) (s n:Nat→Value) (hv:z2a V) (l:List UInt8) (lv:Value) (hl:l.length≤1000) (hA:anyB zr V q=false) (w:World) (hB:IsB w l lv) (hBg:¬bfp lv g) (hr:RowsV w g V.c s n) (hg:w.heap[g]? = some (.cells (vltA V s n) 80 (0,0))):Calls Tryz.prog 77 #[.agg #[zI (q:Int),.func (.func 105) #[] #[]],(zO g),lv] w fun e w'=>∃ t,e=.returned t∧t=.bool (sayW V q l).2∧∃ s' n',RowsV w' g (sayW V q l).1.c s' n'∧(∀ b,zo 18 s' n' b→zo 18 s n b∨w.heap.size≤b)∧w'.heap[g]? = some (.cells (vltA (sayW V q l).1 s' n') 80 (0,0))∧w.grownBy w' (some g):=pwrite_twf true q hq g V s n hv l lv hl hA w hB hBg hr hg
theorem pwriteI_t (q:Nat) (hq:q+1<18) (g:Nat) (V:VltN) (s n:Nat→Value) (hv:z2a V) (l:List UInt8) (lv:Value) (hl:l.length≤1000) (hA:anyB zr V q=true) (ht:-9223372036854775808≤cntT V q∧cntT V q<9223372036854775807) (w:World) (hB:IsB w l lv) (hBg:¬bfp lv g) (hr:RowsV w g V.c s n) (hg:w.heap[g]? = some (.cells (vltA V s n) 80 (0,0))):Calls Tryz.prog 66 #[.agg #[zI (q:Int),.func (.func 88) #[] #[]],(zO g),lv] w fun e w'=>∃ t,e=.returned t∧t=.bool (sayW V q l).2∧∃ s' n',RowsV w' g (sayW V q l).1.c s' n'∧(∀ b,zo 18 s' n' b→zo 18 s n b∨w.heap.size≤b)∧w'.heap[g]? = some (.cells (vltA (sayW V q l).1 s' n') 80 (0,0))∧w.grownBy w' (some g):=pwrite_twt false q hq g V s n hv l lv hl hA ht w hB hBg hr hg
theorem pwriteI_f (q:Nat) (hq:q+1<18) (g:Nat) (V:VltN) (s n:Nat→Value) (hv:z2a V) (l:List UInt8) (lv:Value) (hl:l.length≤1000) (hA:anyB zr V q=false) (w:World) (hB:IsB w l lv) (hBg:¬bfp lv g) (hr:RowsV w g V.c s n) (hg:w.heap[g]? = some (.cells (vltA V s n) 80 (0,0))):Calls Tryz.prog 66 #[.agg #[zI (q:Int),.func (.func 88) #[] #[]],(zO g),lv] w fun e w'=>∃ t,e=.returned t∧t=.bool (sayW V q l).2∧∃ s' n',RowsV w' g (sayW V q l).1.c s' n'∧(∀ b,zo 18 s' n' b→zo 18 s n b∨w.heap.size≤b)∧w'.heap[g]? = some (.cells (vltA (sayW V q l).1 s' n') 80 (0,0))∧w.grownBy w' (some g):=pwrite_twf false q hq g V s n hv l lv hl hA w hB hBg hr hg
theorem pwriteR_any (q:Nat) (hq:q+1<18) (g:Nat) (V:VltN) (s n:Nat→Value) (hv:z2a V) (l:List UInt8) (lv:Value) (hl:l.length≤1000) (ht:anyB zr V q=true → -9223372036854775808≤cntT V q∧cntT V q<9223372036854775807) (w:World) (hB:IsB w l lv) (hBg:¬bfp lv g) (hr:RowsV w g V.c s n) (hg:w.heap[g]? = some (.cells (vltA V s n) 80 (0,0))):
  Calls Tryz.prog 77 #[.agg #[zI (q:Int),.func (.func 105) #[] #[]],(zO g),lv] w fun e w'=>∃ t,e=.returned t∧t=.bool (sayW V q l).2∧∃ s' n',RowsV w' g (sayW V q l).1.c s' n'∧(∀ b,zo 18 s' n' b→zo 18 s n b∨w.heap.size≤b)∧w'.heap[g]? = some (.cells (vltA (sayW V q l).1 s' n') 80 (0,0))∧w.grownBy w' (some g):=by
 cases hA:anyB zr V q with
 | true=>exact pwriteR_t q hq g V s n hv l lv hl hA (ht hA) w hB hBg hr hg
 | false=>exact pwriteR_f q hq g V s n hv l lv hl hA w hB hBg hr hg
theorem pwriteI_any (q:Nat) (hq:q+1<18) (g:Nat) (V:VltN) (s n:Nat→Value) (hv:z2a V) (l:List UInt8) (lv:Value) (hl:l.length≤1000) (ht:anyB zr V q=true → -9223372036854775808≤cntT V q∧cntT V q<9223372036854775807) (w:World) (hB:IsB w l lv) (hBg:¬bfp lv g) (hr:RowsV w g V.c s n) (hg:w.heap[g]? = some (.cells (vltA V s n) 80 (0,0))):
  Calls Tryz.prog 66 #[.agg #[zI (q:Int),.func (.func 88) #[] #[]],(zO g),lv] w fun e w'=>∃ t,e=.returned t∧t=.bool (sayW V q l).2∧∃ s' n',RowsV w' g (sayW V q l).1.c s' n'∧(∀ b,zo 18 s' n' b→zo 18 s n b∨w.heap.size≤b)∧w'.heap[g]? = some (.cells (vltA (sayW V q l).1 s' n') 80 (0,0))∧w.grownBy w' (some g):=by
 cases hA:anyB zr V q with
 | true=>exact pwriteI_t q hq g V s n hv l lv hl hA (ht hA) w hB hBg hr hg
 | false=>exact pwriteI_f q hq g V s n hv l lv hl hA w hB hBg hr hg
def ageW (V:VltN):VltN:=(sayW V 16 (zy (zhc V 16+1))).1
theorem bt_is {f:FuncId} {args:Array Value} {w:World} {b B:Int} (hB:b=B) (h:Calls Tryz.prog f args w fun e w'=>e=.returned (zI b)∧Below w.heap.size w w'):Calls Tryz.prog f args w fun e w'=>e=.returned (zI B)∧Below w.heap.size w w':=by
 subst hB;exact h
theorem age_any (g:Nat) (V:VltN) (s n:Nat→Value) (hv:z2a V) (hb:-9223372036854775808≤zhc V 16∧zhc V 16<9223372036854775807) (ht:anyB zr V 16=true → -9223372036854775808≤cntT V 16∧cntT V 16<9223372036854775807) (w:World) (hr:RowsV w g V.c s n) (hg:w.heap[g]? = some (.cells (vltA V s n) 80 (0,0))):
  Calls Tryz.prog 39 #[(zO g)] w fun e w'=>∃ t,e=.returned t∧∃ s' n',RowsV w' g (ageW V).c s' n'∧(∀ b,zo 18 s' n' b→zo 18 s n b∨w.heap.size≤b)∧w'.heap[g]? = some (.cells (vltA (ageW V) s' n') 80 (0,0))∧w.grownBy w' (some g):=by
 obtain ⟨B,hB⟩:∃ x,zhc V 16=x:=⟨_,rfl⟩
 rw [hB] at hb
 rw [show ageW V=(sayW V 16 (zy (B+1))).1 by rw [ageW,hB]]
 refine zk (args:=[(zO g)]) 11 Tryz.func39 rfl rfl rfl ?_
 intro fa F
 have M:=Mx.theG hg 0
 refine zpa F (SE [.inl (.agg (#[zI 16,.func (.func 88) #[] #[]])),.inl (zO g),.inl (zO g),.inl (zO g),.inl (zO g),.inl (zI B),.inl (zI (B+1)),.inr (fun _=>True)]) (JM (some g) w fun SV pV=>[(0,blkR g 80 (vltA V s n)),(1,z6a (SV 7) (ownR (zy (B+1)) (pV 7)))]) 8 rfl (by kernel_rfl) rfl ⟨trivial,trivial,trivial,trivial,trivial,trivial,trivial,trivial,trivial⟩ (fun p=>((M.step (zma _)).triv 1).sub ⟨rfl,rfl,trivial⟩) ⟨?_,z9a F,z9a F,z9a F,z9a F,?_,?_,?_,trivial⟩ ?_
 ·intro ua uw SV pV (M:Mx (some g) w uw _) hk hn hd
  exact zxa rfl rfl #[] (args0) (zE Tryz.func58 rfl) (((eras_any uw)).mono fun e w2 h=>⟨_,h.1,rfl,(M.step h.2).sub ⟨rfl,rfl,trivial⟩⟩)
 ·intro ua uw SV pV (M:Mx (some g) w uw _) hk hn hd
  have e6:ua.eval (.tmp 6)=(zO g):=zQ1 (hd 6 (by decide))
  exact zxa rfl rfl #[(zO g)] (zca e6) (zE Tryz.func26 rfl) (((bt_is hB (boot_any g V s n hv uw (HasV.of (M.blk (k:=0) rfl) (hr.grow M.grown))))).mono fun e w2 h=>⟨_,h.1,rfl,(M.step h.2).sub ⟨rfl,rfl,trivial⟩⟩)
 ·intro ua uw SV pV (M:Mx (some g) w uw _) hk hn hd
  have e7:ua.eval (.tmp 7)=zI B:=zQ1 (hd 7 (by decide))
  exact ze rfl (zI (B+1)) (zsa _ _ _ _ rfl e7 rfl rfl (by omega)) rfl (M.sb)
 ·intro ua uw SV pV (M:Mx (some g) w uw _) hk hn hd
  have e8:ua.eval (.tmp 8)=zI (B+1):=zQ1 (hd 8 (by decide))
  exact zxa rfl rfl #[zI (B+1)] (zca e8) (zE Tryz.func67 rfl) (((eightI_any (B+1) uw)).mono fun e w2 h=>(by obtain ⟨u,h1,h2,h3⟩:=h;exact ⟨u,h1,trivial,(M.newO h3 1 h2).sub ⟨rfl,rfl,trivial⟩⟩))
 intro p1 a1 w1 M1 G1 y1
 obtain ⟨q0,-,-,q3,-,-,-,q7,-⟩:=y1
 have r0:p1 0=.agg (#[zI 16,.func (.func 88) #[] #[]]):=q0
 have r3:p1 3=(zO g):=q3
 replace M1:Mx _ _ w1 [(0,blkR g 80 (vltA V s n)),(1,z6a true (ownR (zy (B+1)) (p1 7)))]:=M1
 simp only [List.take,layV,Nat.zero_add,Nat.reduceAdd,r0,r3] at G1
 obtain ⟨Ap1_1,cp1_1,hp1_1⟩:=(M1.isO (k:=1) rfl).shape
 rw [hp1_1] at M1
 try rw [hp1_1] at G1
 refine zh rfl rfl G1 rfl rfl (zE Tryz.func66 rfl) #[.agg (#[zI 16,.func (.func 88) #[] #[]]),(zO g),(.slice Ap1_1 ((zy (B+1))).length cp1_1)] (args3 (G1 2 rfl) (G1 5 rfl) (G1 9 rfl)) (pwriteI_any 16 (by omega) g V s n hv (zy (B+1)) ((.slice Ap1_1 ((zy (B+1))).length cp1_1)) (by rw [zja];omega) ht w1 (M1.isO (k:=1) rfl) (fun h=>M1.dis 0 1 _ _ rfl rfl (by decide) rfl g rfl (z1a h)) (hr.grow M1.grown) (M1.blk (k:=0) rfl)) ?_
 rintro _ w2 a2 ⟨rfl,s2,n2,hr2,ht2,hc2,hg2⟩ F2
 refine wpList_nil ?_
 exact bodyPost_end (res0 rfl) F2.defers ⟨_,rfl,s2,n2,hr2,fun b hb=>(ht2 b hb).imp id (fun hb=>Nat.le_trans M1.le hb),hc2,M1.grown.trans hg2⟩
def nilS:Nat→Value:=fun _=>zN
theorem rows_nil (b:Nat):¬zo 18 nilS nilS b:=fun ⟨_,_,h⟩=>by rcases h with h | h <;> exact absurd h (zta b)
def zeroV:VltN:=⟨fun _=>nilC,false,0,false⟩
theorem rows0 (w:World) (g:Nat):RowsV w g (fun _=>nilC) nilS nilS:=fun i hi=>⟨⟨zka _,zta _⟩,zka _,zta _⟩
theorem good0 (p:Nat):zpb zr p []=false:=good_short (by simp)
theorem any0 (q:Nat):anyB zr zeroV q=false:=by
 unfold anyB secB
 rw [show zpb zr (q+1) (zeroV.c (q+1)).s=false from good0 _,show zpb zr q (zeroV.c q).s=false from good0 _]
 rfl
theorem num0:zhc zeroV 16=0:=if_neg (by rw [any0];exact Bool.false_ne_true)
theorem short0:z2a zeroV:=fun i hi=>⟨Nat.zero_le _,Nat.zero_le _⟩
theorem vnew_any  (w:World):
  Calls Tryz.prog 14 #[] w fun e w'=>∃ g,e=.returned (zO g)∧w.heap.size≤g∧∃ s' n',RowsV w' g (ageW zeroV).c s' n'∧(∀ b,zo 18 s' n' b→w.heap.size≤b)∧w'.heap[g]? = some (.cells (vltA (ageW zeroV) s' n') 80 (0,0))∧Below w.heap.size w w':=by
 refine zk (args:=[]) 7 Tryz.func14 rfl rfl rfl ?_
 intro fa F
 have M:=Mx.start w
 refine zT fun _ hK1=>rm rfl F fun _ F2=>hK1 _ _ (zT fun _ hK3=>zc (w':=w) rfl rfl F2 rfl (.agg (vltA ⟨(fun _=>nilC),false,0,false⟩ nilS nilS)) (by unfold execOp;kernel_rfl) fun _ F4=>?_)
 refine zq rfl rfl F4 rfl M 0 (t:=80) (c:=vltA ⟨(fun _=>nilC),false,0,false⟩ nilS nilS) (by unfold execOp;simp only [(F4 2 rfl)];kernel_rfl) ?_
 intro g5 a5 w5 F5 M5
 refine rm rfl F5 fun _ F6=>hK3 _ _ (zT fun _ hK7=>rm rfl F6 fun _ F8=>zh rfl rfl F8 rfl rfl (zE Tryz.func39 rfl) #[(zO g5)] (zca (F8 4 rfl)) (age_any g5 zeroV nilS nilS short0 (by rw [num0];omega) (fun h=>absurd h (by rw [any0];exact Bool.false_ne_true)) w5 (rows0 _ _) (M5.blk (k:=0) rfl)) ?_)
 rintro _ w9 a9 ⟨s2,n2,hr9,ht9,hc9,hg9⟩ F9
 have hle:=M5.le
 have M9:=M5.put (k:=0) rfl hg9 hc9
 clear M5 hg9 hc9
 refine hK7 _ _ (zT fun _ hK10=>rm rfl F9 fun _ F11=>?_)
 exact rm rfl F11 fun _ F12=>hK10 _ _ (wp_ret (bodyPost_ret (res1 rfl (F12.get rfl)) F12.defers ⟨g5,rfl,(M9.own 0 _ rfl rfl g5 rfl).resolve_right (fun e=>by cases e),s2,n2,hr9,fun b hb=>(ht9 b hb).elim (fun h=>absurd h (rows_nil b)) (fun h=>Nat.le_trans hle h),M9.blk (k:=0) rfl,M9.below⟩))
end Go.Proofs.YtmjbnmbobocpdaaGreat
