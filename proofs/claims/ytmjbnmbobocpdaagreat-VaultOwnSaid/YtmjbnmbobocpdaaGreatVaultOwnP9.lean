/- What VaultOwn stands on, part 9. -/
import Derived.Test.YtmjbnmbobocpdaaGreatVaultOwnP1
import Derived.Test.YtmjbnmbobocpdaaGreatVaultOwnP2
import Derived.Test.YtmjbnmbobocpdaaGreatVaultOwnP3
import Derived.Test.YtmjbnmbobocpdaaGreatVaultOwnP4
import Derived.Test.YtmjbnmbobocpdaaGreatVaultOwnP5
import Derived.Test.YtmjbnmbobocpdaaGreatVaultOwnP6
import Derived.Test.YtmjbnmbobocpdaaGreatVaultOwnP7
import Derived.Test.YtmjbnmbobocpdaaGreatVaultOwnP8
set_option maxRecDepth 100000
set_option maxHeartbeats 8000000
set_option linter.unusedVariables false
set_option linter.unusedSimpArgs false
namespace Go.Proofs.YtmjbnmbobocpdaaGreat
open Go.ChangeShapes Go.WideShapes Go.ChangeAt Go.RowKit
theorem str_eqsT {s t:ByteArray} (h:s=t):decide (s.toList=t.toList)=true:=by subst h;exact decide_eq_true rfl
theorem str_eqsF {s t:ByteArray} (h:¬s=t):decide (s.toList=t.toList)=false:=decide_eq_false fun e=>h (by
 rw [ByteArray.toList_eq,ByteArray.toList_eq] at e
 cases s;cases t
 congr 1
 exact Array.toList_inj.1 e)
noncomputable def eqR (r r2:RecN):Bool:=decide (r.p=r2.p)&&@decide (r.s=r2.s) (Classical.propDecidable _)&&decide (r.l2=r2.l2)&&decide (r.a=r2.a)&&decide (r.b=r2.b)&&decide (r.l5=r2.l5)&&decide (r.t=r2.t)&&decide (r.c=r2.c)&&decide (r.z=r2.z)
theorem eqR_iff (r r2:RecN):eqR r r2=true↔r=r2:=by
 unfold eqR
 simp only [Bool.and_eq_true,decide_eq_true_eq]
 constructor
 ·rintro ⟨⟨⟨⟨⟨⟨⟨⟨h1,h2⟩,h3⟩,h4⟩,h5⟩,h6⟩,h7⟩,h8⟩,h9⟩
  cases r;cases r2
  simp_all
 ·rintro rfl;simp
theorem eqR_self (r:RecN):eqR r r=true:=(eqR_iff r r).2 rfl
theorem recs_any (r r2:RecN) (V V2:RecV) (ho:RecOk r) (ho2:RecOk r2) (w:World) (hm:RecIs w r V) (hm2:RecIs w r2 V2):
  Calls Tryz.prog 31 #[.agg (recA r V),.agg (recA r2 V2)] w fun e w'=>e=.returned (.bool (eqR r r2))∧Below w.heap.size w w':=by
 refine zk (args:=[.agg (recA r V),.agg (recA r2 V2)]) 70 Tryz.func31 rfl rfl rfl ?_
 intro fa F
 have M:=Mx.start w
 replace M:=M.argB 0 hm.h2 (fun g e=>by cases e)
 replace M:=M.argB 1 hm.h5 (fun g e=>by cases e)
 replace M:=M.argB 2 hm2.h2 (fun g e=>by cases e)
 replace M:=M.argB 3 hm2.h5 (fun g e=>by cases e)
 refine zT fun _ hK1=>zq rfl rfl F rfl M 4 (t:=37) (c:=recA r V) (by unfold execOp;simp only [(F 0 rfl)];kernel_rfl) ?_
 intro g2 a2 w2 F2 M2
 refine zq rfl rfl F2 rfl M2 5 (t:=37) (c:=recA r2 V2) (by unfold execOp;simp only [(F2 1 rfl)];kernel_rfl) ?_
 intro g3 a3 w3 F3 M3
 refine rm rfl F3 fun _ F4=>hK1 _ _ (zSk fun _ hK5=>?_)
 simp only [List.append_eq,List.cons_append,List.nil_append]
 refine zR (zB 4 [(2,(zO g2)),(3,(zO g3)),(4,.bool false),(6,zI r.p),(8,zI r2.p)] [0,1] (zu (M3.blk (k:=4) rfl) (zu (M3.blk (k:=5) rfl) dnil)) [g2,g3] F4 fun _ F6=>?_)
 by_cases h7:r.p=r2.p
 rotate_left
 ·refine rn rfl rfl F6 rfl (.bool false) (zza _ _ _ _ rfl (F6.get rfl) (F6.get rfl) Tryz.underlying3 (zib h7)) fun _ F56=>?_
  refine zB 61 [(4,.bool false)] [] dnil [] F56 fun _ F57=>?_
  refine hK5 _ _ (wp_ret ?_)
  exact bodyPost_ret (res1 rfl (F57.get rfl)) F57.defers ⟨by rw [show eqR r r2=false from by unfold eqR;simp [h7]],M3.below⟩
 refine rn rfl rfl F6 rfl (.bool true) (zza _ _ _ _ rfl (F6.get rfl) (F6.get rfl) Tryz.underlying3 (zmb h7)) fun _ F8=>?_
 refine zB 5 [(2,(zO g2)),(3,(zO g3)),(4,.bool false),(10,.bool true),(12,.string r.s),(14,.string r2.s)] [0,1] (zu (M3.blk (k:=4) rfl) (zu (M3.blk (k:=5) rfl) dnil)) [g2,g3] F8 fun _ F9=>?_
 by_cases h10:r.s=r2.s
 rotate_left
 ·refine zc (w':=w3) (zd rfl rfl rfl (F9.get rfl)) rfl F9 rfl (.bool false) (y_eqS _ _ _ rfl (F9.get rfl) (F9.get rfl) (str_eqsF h10)) fun _ F54=>?_
  refine zB 55 [(4,.bool false)] [] dnil [] F54 fun _ F55=>?_
  refine hK5 _ _ (wp_ret ?_)
  exact bodyPost_ret (res1 rfl (F55.get rfl)) F55.defers ⟨by rw [show eqR r r2=false from by unfold eqR;simp [h7,h10]],M3.below⟩
 refine zc (w':=w3) (zd rfl rfl rfl (F9.get rfl)) rfl F9 rfl (.bool true) (y_eqS _ _ _ rfl (F9.get rfl) (F9.get rfl) (str_eqsT h10)) fun _ F11=>?_
 refine zB 4 [(2,(zO g2)),(3,(zO g3)),(4,.bool false),(17,.bool true),(19,V.v2)] [0] (zu (M3.blk (k:=4) rfl) dnil) [g2] F11 fun _ F12=>?_
 refine zc (w':=w3) (zd rfl rfl rfl (F12.get rfl)) rfl F12 rfl (.string (⟨(r.l2).toArray⟩)) (y_str _ rfl (F12.get rfl) (M3.isb (k:=0) rfl)) fun _ F13=>?_
 refine zAx 2 [(21,(zP g3 2)),(22,V2.v2)] [0] (zu (M3.blk (k:=5) rfl) dnil) [g3] F13 fun _ F14=>?_
 refine zc (w':=w3) (zd rfl rfl rfl (F14.get rfl)) rfl F14 rfl (.string (⟨(r2.l2).toArray⟩)) (y_str _ rfl (F14.get rfl) (M3.isb (k:=2) rfl)) fun _ F15=>?_
 by_cases h16:r.l2=r2.l2
 rotate_left
 ·refine zc (w':=w3) (zd rfl rfl rfl (F15.get rfl)) rfl F15 rfl (.bool false) (y_eqS _ _ _ rfl (F15.get rfl) (F15.get rfl) (str_ne h16)) fun _ F52=>?_
  refine zB 46 [(4,.bool false)] [] dnil [] F52 fun _ F53=>?_
  refine hK5 _ _ (wp_ret ?_)
  exact bodyPost_ret (res1 rfl (F53.get rfl)) F53.defers ⟨by rw [show eqR r r2=false from by unfold eqR;simp [h7,h10,h16]],M3.below⟩
 refine zc (w':=w3) (zd rfl rfl rfl (F15.get rfl)) rfl F15 rfl (.bool true) (y_eqS _ _ _ rfl (F15.get rfl) (F15.get rfl) (str_eq h16)) fun _ F17=>?_
 refine zB 6 [(2,(zO g2)),(3,(zO g3)),(4,.bool false),(26,.bool true),(28,numV r.a),(30,numV r2.a)] [0,1] (zu (M3.blk (k:=4) rfl) (zu (M3.blk (k:=5) rfl) dnil)) [g2,g3] F17 fun _ F18=>?_
 by_cases h19:r.a=r2.a
 rotate_left
 ·refine zc (w':=w3) (zd rfl rfl rfl (F18.get rfl)) rfl F18 rfl (.bool false) (y_eqA _ _ _ _ rfl (F18.get rfl) (F18.get rfl) (by kernel_rfl) (eqn_diff ho.a ho2.a h19 _)) fun _ F50=>?_
  refine zB 39 [(4,.bool false)] [] dnil [] F50 fun _ F51=>?_
  refine hK5 _ _ (wp_ret ?_)
  exact bodyPost_ret (res1 rfl (F51.get rfl)) F51.defers ⟨by rw [show eqR r r2=false from by unfold eqR;simp [h7,h10,h16,h19]],M3.below⟩
 refine zc (w':=w3) (zd rfl rfl rfl (F18.get rfl)) rfl F18 rfl (.bool true) (y_eqA _ _ _ _ rfl (F18.get rfl) (F18.get rfl) (by kernel_rfl) (by rw [h19];exact eqn_same _ _)) fun _ F20=>?_
 refine zB 6 [(2,(zO g2)),(3,(zO g3)),(4,.bool false),(33,.bool true),(35,numV r.b),(37,numV r2.b)] [0,1] (zu (M3.blk (k:=4) rfl) (zu (M3.blk (k:=5) rfl) dnil)) [g2,g3] F20 fun _ F21=>?_
 by_cases h22:r.b=r2.b
 rotate_left
 ·refine zc (w':=w3) (zd rfl rfl rfl (F21.get rfl)) rfl F21 rfl (.bool false) (y_eqA _ _ _ _ rfl (F21.get rfl) (F21.get rfl) (by kernel_rfl) (eqn_diff ho.b ho2.b h22 _)) fun _ F48=>?_
  refine zB 32 [(4,.bool false)] [] dnil [] F48 fun _ F49=>?_
  refine hK5 _ _ (wp_ret ?_)
  exact bodyPost_ret (res1 rfl (F49.get rfl)) F49.defers ⟨by rw [show eqR r r2=false from by unfold eqR;simp [h7,h10,h16,h19,h22]],M3.below⟩
 refine zc (w':=w3) (zd rfl rfl rfl (F21.get rfl)) rfl F21 rfl (.bool true) (y_eqA _ _ _ _ rfl (F21.get rfl) (F21.get rfl) (by kernel_rfl) (by rw [h22];exact eqn_same _ _)) fun _ F23=>?_
 refine zB 4 [(2,(zO g2)),(3,(zO g3)),(4,.bool false),(40,.bool true),(42,V.v5)] [0] (zu (M3.blk (k:=4) rfl) dnil) [g2] F23 fun _ F24=>?_
 refine zc (w':=w3) (zd rfl rfl rfl (F24.get rfl)) rfl F24 rfl (.string (⟨(r.l5).toArray⟩)) (y_str _ rfl (F24.get rfl) (M3.isb (k:=1) rfl)) fun _ F25=>?_
 refine zAx 2 [(44,(zP g3 19)),(45,V2.v5)] [0] (zu (M3.blk (k:=5) rfl) dnil) [g3] F25 fun _ F26=>?_
 refine zc (w':=w3) (zd rfl rfl rfl (F26.get rfl)) rfl F26 rfl (.string (⟨(r2.l5).toArray⟩)) (y_str _ rfl (F26.get rfl) (M3.isb (k:=3) rfl)) fun _ F27=>?_
 by_cases h28:r.l5=r2.l5
 rotate_left
 ·refine zc (w':=w3) (zd rfl rfl rfl (F27.get rfl)) rfl F27 rfl (.bool false) (y_eqS _ _ _ rfl (F27.get rfl) (F27.get rfl) (str_ne h28)) fun _ F46=>?_
  refine zB 23 [(4,.bool false)] [] dnil [] F46 fun _ F47=>?_
  refine hK5 _ _ (wp_ret ?_)
  exact bodyPost_ret (res1 rfl (F47.get rfl)) F47.defers ⟨by rw [show eqR r r2=false from by unfold eqR;simp [h7,h10,h16,h19,h22,h28]],M3.below⟩
 refine zc (w':=w3) (zd rfl rfl rfl (F27.get rfl)) rfl F27 rfl (.bool true) (y_eqS _ _ _ rfl (F27.get rfl) (F27.get rfl) (str_eq h28)) fun _ F29=>?_
 refine zB 6 [(2,(zO g2)),(3,(zO g3)),(4,.bool false),(49,.bool true),(51,zI r.t),(53,zI r2.t)] [0,1] (zu (M3.blk (k:=4) rfl) (zu (M3.blk (k:=5) rfl) dnil)) [g2,g3] F29 fun _ F30=>?_
 by_cases h31:r.t=r2.t
 rotate_left
 ·refine zc (w':=w3) (zd rfl rfl rfl (F30.get rfl)) rfl F30 rfl (.bool false) (zza _ _ _ _ rfl (F30.get rfl) (F30.get rfl) Tryz.underlying3 (zib h31)) fun _ F44=>?_
  refine zB 16 [(4,.bool false)] [] dnil [] F44 fun _ F45=>?_
  refine hK5 _ _ (wp_ret ?_)
  exact bodyPost_ret (res1 rfl (F45.get rfl)) F45.defers ⟨by rw [show eqR r r2=false from by unfold eqR;simp [h7,h10,h16,h19,h22,h28,h31]],M3.below⟩
 refine zc (w':=w3) (zd rfl rfl rfl (F30.get rfl)) rfl F30 rfl (.bool true) (zza _ _ _ _ rfl (F30.get rfl) (F30.get rfl) Tryz.underlying3 (zmb h31)) fun _ F32=>?_
 refine zB 6 [(2,(zO g2)),(3,(zO g3)),(4,.bool false),(56,.bool true),(58,zI r.c),(60,zI r2.c)] [0,1] (zu (M3.blk (k:=4) rfl) (zu (M3.blk (k:=5) rfl) dnil)) [g2,g3] F32 fun _ F33=>?_
 by_cases h34:r.c=r2.c
 rotate_left
 ·refine zc (w':=w3) (zd rfl rfl rfl (F33.get rfl)) rfl F33 rfl (.bool false) (zza _ _ _ _ rfl (F33.get rfl) (F33.get rfl) Tryz.underlying3 (zib h34)) fun _ F42=>?_
  refine zB 9 [(4,.bool false)] [] dnil [] F42 fun _ F43=>?_
  refine hK5 _ _ (wp_ret ?_)
  exact bodyPost_ret (res1 rfl (F43.get rfl)) F43.defers ⟨by rw [show eqR r r2=false from by unfold eqR;simp [h7,h10,h16,h19,h22,h28,h31,h34]],M3.below⟩
 refine zc (w':=w3) (zd rfl rfl rfl (F33.get rfl)) rfl F33 rfl (.bool true) (zza _ _ _ _ rfl (F33.get rfl) (F33.get rfl) Tryz.underlying3 (zmb h34)) fun _ F35=>?_
 refine zB 6 [(4,.bool false),(63,.bool true),(65,zI r.z),(67,zI r2.z)] [0,1] (zu (M3.blk (k:=4) rfl) (zu (M3.blk (k:=5) rfl) dnil)) [g2,g3] F35 fun _ F36=>?_
 by_cases h37:r.z=r2.z
 ·refine zc (w':=w3) (zd rfl rfl rfl (F36.get rfl)) rfl F36 rfl (.bool true) (zza _ _ _ _ rfl (F36.get rfl) (F36.get rfl) Tryz.underlying3 (zmb h37)) fun _ F38=>?_
  refine zB 2 [(4,.bool true)] [] dnil [] F38 fun _ F39=>?_
  refine hK5 _ _ (wp_ret ?_)
  exact bodyPost_ret (res1 rfl (F39.get rfl)) F39.defers ⟨by rw [show eqR r r2=true from by unfold eqR;simp [h7,h10,h16,h19,h22,h28,h31,h34,h37]],M3.below⟩
 refine zc (w':=w3) (zd rfl rfl rfl (F36.get rfl)) rfl F36 rfl (.bool false) (zza _ _ _ _ rfl (F36.get rfl) (F36.get rfl) Tryz.underlying3 (zib h37)) fun _ F40=>?_
 refine zB 2 [(4,.bool false)] [] dnil [] F40 fun _ F41=>?_
 refine hK5 _ _ (wp_ret ?_)
 exact bodyPost_ret (res1 rfl (F41.get rfl)) F41.defers ⟨by rw [show eqR r r2=false from by unfold eqR;simp [h7,h10,h16,h19,h22,h28,h31,h34,h37]],M3.below⟩
theorem rec_is (r:RecN) (V:RecV) (ho:RecOk r) (ok:Bool) (l:List UInt8) (h1:zga r=ok) (h2:recE r=l) (w:World) (hm:RecIs w r V):Calls Tryz.prog 48 #[.agg (recA r V)] w fun e w'=>∃ t,e=.returned t∧∃ v,t=.tuple #[v,.bool ok]∧Byt w' w.heap.size v l∧Below w.heap.size w w':=by
 subst h1 h2;exact record_ex r V ho w hm
theorem recs_is (r r2:RecN) (V V2:RecV) (ho:RecOk r) (ho2:RecOk r2) (ok:Bool) (h1:eqR r r2=ok) (w:World) (hm:RecIs w r V) (hm2:RecIs w r2 V2):Calls Tryz.prog 31 #[.agg (recA r V),.agg (recA r2 V2)] w fun e w'=>e=.returned (.bool ok)∧Below w.heap.size w w':=by
 subst h1;exact recs_any r r2 V V2 ho ho2 w hm hm2
theorem maker_is (n:Int) (s:ByteArray) (b:List UInt8) (v:Value) (hN:-9223372036854775808≤n∧n<9223372036854775808) (hs:s.size≤40) (hbl:b.length≤1000) (r:RecN) (hr:mkR n s b=r) (w:World) (hv:IsB w b v):Calls Tryz.prog 47 #[zI n,.string s,v] w fun e w'=>∃ t,e=.returned t∧∃ V,t=.agg (recA r V)∧RecIs w' r V∧(∀ g,bfp V.v2 g∨bfp V.v5 g→w.heap.size≤g)∧Below w.heap.size w w':=by
 subst hr;exact make_rec n s b v hN hs hbl w hv
section
variable {G:Option Nat} {w0 w:World} {R:List (Nat×Res)}
theorem Mx.newRec {w':World} (M:Mx G w0 w R) (h:Below w.heap.size w w') {r:RecN} {V:RecV} (hm:RecIs w' r V) (hlo:∀ q,bfp V.v2 q∨bfp V.v5 q→w.heap.size≤q) (a b:Nat):Mx G w0 w' ((b,bytR r.l5 V.v5)::(a,bytR r.l2 V.v2)::R):=by
 obtain ⟨M1,n1⟩:=(M.step h).roB2 (N:=w.heap.size) (fun k s e _ g hg=>M.lt k s e g hg) a hm.h2 (fun g hg=>hlo g (.inl hg))
 exact (M1.roB2 n1 b hm.h5 (fun g hg=>hlo g (.inr hg))).1
end
theorem rZero_ok:RecOk rZero:=⟨by decide,by decide,by decide,by decide,by decide,by decide,by decide⟩
theorem rdR_ok (b:List UInt8):RecOk (rdR b):=by
 unfold rdR provR
 split
 ·exact rdM_ok b
 ·exact rZero_ok
section
open Go.Shelf
def unfz (fp:Nat→Prop) (w:World):Prop:=∀ g,fp g→∃ c:Array Value,w.heap[g]? = some (.cells c 5 (0,0))
def uzR (fp:Nat→Prop):Res:=⟨false,fp,unfz fp⟩
theorem uz_dep {fp:Nat→Prop}:∀ u u',Same (uzR fp).fp u u'→(uzR fp).F u→(uzR fp).F u':=fun u u' hs h g hg=>by
 obtain ⟨c,hc⟩:=h g hg
 exact ⟨c,hs.at_ g _ hg hc⟩
theorem Byt.uz {w:World} {b:Nat} {l:List UInt8} {v:Value} (h:Byt w b v l):unfz (ofp v) w:=fun g hg=>by
 rcases h.2 with ⟨e,_⟩ | ⟨g',c,cur,e,_,hc,_⟩
 ·rw [e] at hg;cases hg
 ·rw [e] at hg
  obtain rfl:g'=g:=by simpa [ofp,Value.ownBlock] using hg
  exact ⟨cur,hc⟩
section
variable {G:Option Nat} {w0 w:World} {R:List (Nat×Res)} {i k:Nat} {l:List UInt8} {v:Value} {fp fp':Nat→Prop} {a:Act} {o:Oper}
theorem Mx.uz0 (M:Mx G w0 w R) (i:Nat) (h:∀ g,¬fp g):Mx G w0 w ((i,uzR fp)::R):=
 M.cons i _ (fun g hg=>absurd hg (h g)) uz_dep (fun g hg=>absurd hg (h g)) (fun e=>by cases e) fun _ _ _ _ _ g hg=>absurd hg (h g)
theorem Mx.uzF (M:Mx G w0 w R) (h:look R k=some (uzR fp)):unfz fp w:=M.at_ k _ h
theorem Mx.uzGrow (M:Mx G w0 w R) (hu:unfz fp w) (hs:∀ g,fp g→∃ j r,look R j=some r∧r.wr=false∧r.fp g):Mx G w0 w ((i,uzR fp)::R):=
 M.cons i _ hu uz_dep (fun g hg=>by obtain ⟨j,r,h1,-,h3⟩:=hs g hg;exact M.lt j r h1 g h3) (fun e=>by cases e) fun k s e hik hw g hg hg2=>by
  rcases hw with hw | hw
  ·cases hw
  obtain ⟨j,r,h1,h2,h3⟩:=hs g hg
  refine M.dis k j s r e h1 (fun e2=>?_) hw g hg2 h3
  subst e2
  rw [e] at h1;cases h1;rw [h2] at hw;cases hw
theorem Mx.uzTame (M:Mx G w0 w R) (h:look R i=some (uzR fp)) (hk:look R k=some (ownR l v)) (hs:∀ g,fp' g→fp g∨bfp v g):Mx G w0 w ((i,uzR fp')::(k,bytR l v)::R):=by
 have hik:¬k=i:=fun e=>by subst e;rw [h] at hk;cases hk
 have f1:unfz fp w:=M.at_ i _ h
 have f2:unfz (ofp v) w:=Byt.uz (M.at_ k _ hk)
 refine (M.tame hk).cons i _ (fun g hg=>?_) uz_dep (fun g hg=>?_) (fun e=>by cases e) fun j s e hij hw g hg hg2=>?_
 ·rcases hs g hg with hg | hg
  ·exact f1 g hg
  ·exact f2 g (zta hg)
 ·rcases hs g hg with hg | hg
  ·exact M.lt i _ h g hg
  ·exact M.lt k _ hk g (zta hg)
 ·rcases hw with hw | hw
  ·cases hw
  rw [zx] at e
  split at e
  ·cases e;cases hw
  ·rename_i hkj
   rcases hs g hg with hg | hg
   ·exact M.dis j i s _ e h (fun e2=>hij e2.symm) hw g hg2 hg
   ·exact M.dis j k s _ e hk (fun e2=>hkj e2.symm) hw g hg2 (zta hg)
def blobR (fp:Nat→Prop) (Vs:List (Value×Nat)):Res:=⟨true,fp,fun w=>unfz fp w∧∀ p,p∈Vs→(∀ g,bfp p.1 g→fp g)∧∃ l:List UInt8,l.length=p.2∧IsB w l p.1⟩
theorem blob_dep {fp:Nat→Prop} {Vs:List (Value×Nat)}:∀ u u',Same (blobR fp Vs).fp u u'→(blobR fp Vs).F u→(blobR fp Vs).F u':=fun u u' hs h=>
 ⟨uz_dep u u' hs h.1,fun p hp=>by
  obtain ⟨h1,l,h2,h3⟩:=h.2 p hp
  exact ⟨h1,l,h2,h3.same ⟨fun g o hg ho=>hs.at_ g o (h1 g hg) ho,hs.size⟩⟩⟩
theorem Mx.blob {w':World} (M:Mx G w0 w R) (h:Below w.heap.size w w') (i:Nat) {Vs:List (Value×Nat)} (hu:unfz fp w') (hv:∀ p,p∈Vs→(∀ g,bfp p.1 g→fp g)∧∃ l:List UInt8,l.length=p.2∧IsB w' l p.1) (hlo:∀ g,fp g→w.heap.size≤g):Mx G w0 w' ((i,blobR fp Vs)::R):=
 M.fresh h i _ ⟨hu,hv⟩ blob_dep fun g hg=>⟨hlo g hg,by obtain ⟨c,hc⟩:=hu g hg;exact z2a hc⟩
theorem Mx.blobAt (M:Mx G w0 w R) {Vs:List (Value×Nat)} (h:look R k=some (blobR fp Vs)) {p:Value×Nat} (hp:p∈Vs):∃ l:List UInt8,l.length=p.2∧IsB w l p.1:=((show unfz fp w∧∀ p,p∈Vs→(∀ g,bfp p.1 g→fp g)∧∃ l:List UInt8,l.length=p.2∧IsB w l p.1 from M.at_ k _ h).2 p hp).2
theorem isb_put {u u':World} {g j:Nat} {cur:Array Value} {b:UInt8} (hg:u.heap[g]? = some (.cells cur 5 (0,0))) (hg':u'.heap[g]? = some (.cells (cur.toList.take j++[bv b]++cur.toList.drop (j+1)).toArray 5 (0,0))) (hj:j<cur.size) (ho:∀ q,q≠g→∀ o,u.heap[q]? = some o→u'.heap[q]? = some o) (hsz:u.heap.size≤u'.heap.size) {l:List UInt8} {v:Value} (h:IsB u l v):∃ l',l'.length=l.length∧IsB u' l' v:=by
 obtain ⟨A,c,rfl,h1,h2,h3,h4⟩:=h
 by_cases hl:0<l.length
 ·obtain ⟨a0,q,rfl,hb,hc⟩:=h4.at hl
  by_cases hag:a0=g
  ·subst hag
   refine ⟨(List.range l.length).map fun k=>if q+k=j then b else l.getD k 0,by simp,?_⟩
   refine ⟨some ⟨a0,q,none⟩,c,by simp,by simpa using h1,h2,h3,fun _=>⟨⟨a0,q,none⟩,rfl,by exact Nat.lt_of_lt_of_le hb hsz,fun k x hx=>?_⟩⟩
   have hk:k<l.length:=by have:=(List.getElem?_eq_some_iff.1 hx).1;simpa using this
   have hx':(if q+k=j then b else l.getD k 0)=x:=by
    rw [List.getElem?_map,List.getElem?_range hk] at hx
    exact Option.some.inj hx
   have old:=hc k (l.getD k 0) (by rw [List.getD_eq_getElem?_getD,List.getElem?_eq_getElem hk];rfl)
   rw [zna]
   have hcell:u.cell? ⟨a0,q+k,none⟩=cur[q+k]?:=by simp [World.cell?,hg]
   rw [hcell] at old
   have hnew:u'.cell? ⟨a0,q+k,none⟩=(cur.toList.take j++[bv b]++cur.toList.drop (j+1))[q+k]?:=by simp [World.cell?,hg']
   rw [hnew]
   have h5:(cur.toList.take j).length=j:=by rw [List.length_take,Array.length_toList];omega
   by_cases hq:q+k=j
   ·rw [if_pos hq] at hx'
    subst hx'
    rw [hq,List.append_assoc,List.getElem?_append_right (by omega),h5,Nat.sub_self]
    rfl
   ·rw [if_neg hq] at hx'
    subst hx'
    rw [←Array.getElem?_toList] at old
    by_cases hlt:q+k<j
    ·rw [List.append_assoc,List.getElem?_append_left (by omega),List.getElem?_take,if_pos hlt];exact old
    ·rw [List.getElem?_append_right (by rw [List.length_append,h5];simp;omega),List.length_append,h5,List.getElem?_drop]
     simp only [List.length_cons,List.length_nil]
     rw [show j+1+(q+k-(j+(0+1)))=q+k by omega];exact old
  ·refine ⟨l,rfl,some ⟨a0,q,none⟩,c,rfl,h1,h2,h3,fun _=>⟨⟨a0,q,none⟩,rfl,by exact Nat.lt_of_lt_of_le hb hsz,fun k x hx=>?_⟩⟩
   have old:=hc k x hx
   rw [zna]
   have hbo:=ho a0 hag _ (Array.getElem?_eq_getElem hb)
   simp only [World.cell?,hbo,Array.getElem?_eq_getElem hb] at old ⊢
   exact old
 ·exact ⟨l,rfl,A,c,rfl,h1,h2,h3,fun h=>absurd h hl⟩
theorem run_setW (M:Mx G w0 w R) {Vs:List (Value×Nat)} (hk:look R k=some (blobR fp Vs)) {p:Value×Nat} (hp:p∈Vs) (x y:Operand) (ho:o.op=.store 5 x y) {j:Nat} (hx:a.eval x=ixV p.1 j) {z:Int} (b:UInt8) (hy:a.eval y=zY z) (hz:z=(b.toNat:Int)) (hj:j<p.2):
  ∃ w',(execOp a.eval o).run Tryz.prog w=.ok .skip w'∧Mx G w0 w' ((k,blobR fp Vs)::R):=by
 subst hz
 obtain ⟨hu,hv⟩:=(show unfz fp w∧∀ p,p∈Vs→(∀ g,bfp p.1 g→fp g)∧∃ l:List UInt8,l.length=p.2∧IsB w l p.1 from M.at_ k _ hk)
 obtain ⟨hf,l,hl,hB⟩:=hv p hp
 obtain ⟨A,c,e,h1,h2,h3,h4⟩:=hB
 obtain ⟨g,q,rfl,hb,hc⟩:=h4.at (by omega)
 have hbf:bfp p.1 g:=by rw [e];exact ⟨q,none,l.length,c,rfl,by omega⟩
 obtain ⟨cur,hg⟩:=hu g (hf g hbf)
 have hcell:=hc j (l.getD j 0) (by rw [List.getD_eq_getElem?_getD,List.getElem?_eq_getElem (show j<l.length by omega)];rfl)
 have hjs:q+j<cur.size:=by
  simp [World.cell?,hg] at hcell
  exact (Array.getElem?_eq_some_iff.1 hcell).1
 have hi:(Tryz.prog.info? 5).map (·.size)=some 1:=by kernel_rfl
 have hw':=setRow_heap w g cur (cur.toList.take (q+j)++[bv b]++cur.toList.drop (q+j+1)).toArray 5 (0,0) hg
 have hgr:w.grownBy (w.setRow g (cur.toList.take (q+j)++[bv b]++cur.toList.drop (q+j+1)).toArray) (some g):=z1b _ _ _
 refine ⟨w.setRow g (cur.toList.take (q+j)++[bv b]++cur.toList.drop (q+j+1)).toArray,?_,?_⟩
 ·refine y_st 5 x y ho (g:=g) (k:=q+j) (by rw [hx,e];simp [ixV,zna]) hy hg #[zY (b.toNat:Int)] _ (by rfl) (by simp;omega) (by simp [Value.oneCell']) ?_ hi
  simp [bv]
 ·refine M.write hk rfl hgr (fun q e=>by cases e;exact hf g hbf) _ ⟨fun q hq=>?_,fun r hr=>?_⟩ blob_dep fun q hq=>?_
  ·by_cases hqg:q=g
   ·subst hqg;exact ⟨_,hw'⟩
   ·obtain ⟨c2,hc2⟩:=hu q hq
    exact ⟨c2,(hgr.block q (Array.getElem?_eq_some_iff.1 hc2).1 (fun e=>hqg (by cases e;rfl))).trans hc2⟩
  ·obtain ⟨hfr,lr,hlr,hBr⟩:=hv r hr
   obtain ⟨l',e1,e2⟩:=isb_put hg hw' hjs (fun q hq o ho=>(hgr.block q (Array.getElem?_eq_some_iff.1 ho).1 (fun e=>hq (by cases e;rfl))).trans ho) hgr.size hBr
   exact ⟨hfr,l',e1.trans hlr,e2⟩
  ·obtain ⟨c2,hc2⟩:=hu q hq
   exact ⟨Nat.lt_of_lt_of_le (Array.getElem?_eq_some_iff.1 hc2).1 hgr.size,.inl hq⟩
end
end
theorem readrecW_any (b:List UInt8) (bv:Value) (hl:b.length≤100000) (w:World) (hb:IsB w b bv):
  Calls Tryz.prog 105 #[bv] w fun e w'=>∃ V,e=.returned (.tuple #[.agg (recA (rdR b) V),.bool (rdOk b)])∧RecIs w' (rdR b) V∧(∀ q,bfp V.v2 q∨bfp V.v5 q→w.heap.size≤q)∧unfz (bfp V.v2) w'∧Below w.heap.size w w':=by
 obtain ⟨A0,c0,rfl⟩:=hb.shape
 refine zk (args:=[.slice A0 b.length c0]) 32 Tryz.func105 rfl rfl rfl ?_
 intro fa F
 have M:=Mx.start w
 replace M:=M.argB 0 hb (fun g e=>by cases e)
 refine zT fun _ hK1=>zq rfl rfl F rfl M 1 (t:=37) (c:=recA ⟨0, "".toUTF8,[],0,0,[],0,0,0⟩ ⟨zN,zN⟩) (by unfold execOp;kernel_rfl) ?_
 intro g2 a2 w2 F2 M2
 refine rm rfl F2 fun _ F3=>hK1 _ _ (zSk fun _ hK4=>?_)
 refine zR (rm rfl F3 fun _ F5=>rn rfl rfl F5 rfl (.agg (#[.slice A0 b.length c0])) (by unfold execOp;simp only [List.map_toArray,List.map_cons,List.map_nil,(F5 6 rfl)];kernel_rfl) fun _ F6=>?_)
 refine zq rfl rfl F6 rfl M2 2 (t:=165) (c:=#[zN]) (by unfold execOp;kernel_rfl) ?_
 intro g7 a7 w7 F7 M7
 refine zt rfl rfl F7 M7 (k:=2) rfl _ _ _ rfl (F7.get rfl) (F7.get rfl) (#[.slice A0 b.length c0]) _ rfl (zL rfl) (by first | rfl | simp [Value.oneCell']) (zca rfl) (by kernel_rfl) ?_
 intro w8 M8
 refine hK4 _ _ (zSk fun _ hK9=>?_)
 refine zR (zq rfl rfl F7 rfl M8 3 (t:=37) (c:=recA ⟨0, "".toUTF8,[],0,0,[],0,0,0⟩ ⟨zN,zN⟩) (by unfold execOp;kernel_rfl) ?_)
 intro g10 a10 w10 F10 M10
 refine hK9 _ _ (zSk fun _ hK11=>?_)
 refine zR (zh rfl rfl F10 rfl rfl (zE Tryz.func128 rfl) #[(zO g7)] (zaa (F10.get rfl)) (roctet_any g7 b (.slice A0 b.length c0) hl w10 (M10.blk (k:=2) rfl) (M10.isb (k:=0) rfl) (fun hb=>M10.dis 2 0 _ _ rfl rfl (by decide) rfl g7 rfl hb)) ?_)
 rintro _ w12 a12 ⟨rfl,u12,hu12,hs12,hc12,hg12⟩ F12
 have M12:=M10.took0 (k:=2) (ku:=0) rfl hg12 hc12 4 hu12 hs12 rfl
 clear M10 hg12 hc12
 obtain ⟨A12u,c12u,rfl⟩:=hu12.shape
 clear hu12
 refine rn rfl rfl F12 rfl (zO g10) (y_fa (off:=0) rfl (F12.get rfl) (by kernel_rfl) rfl) fun _ F13=>?_
 refine zt rfl rfl F13 M12 (k:=3) rfl _ _ _ rfl (F13.get rfl) (F13.get rfl) (#[zI ((zp (b.take 1):Nat):Int)]) (recA ⟨((zp (b.take 1):Nat):Int), "".toUTF8,[],0,0,[],0,0,0⟩ ⟨zN,zN⟩) rfl (zL rfl) (zdc _ _) (by kernel_rfl) (by kernel_rfl) ?_
 intro w14 M14
 refine hK11 _ _ (zSk fun _ hK15=>?_)
 refine zR (zh rfl rfl F13 rfl rfl (zE Tryz.func129 rfl) #[(zO g7)] (zaa (F13.get rfl)) (rcounted_ex g7 (b.drop 1) (.slice A12u ((b.drop 1)).length c12u) (Nat.le_trans (zyb _ _) hl) w14 (M14.blk (k:=2) rfl) (M14.isb (k:=4) rfl) (fun hb=>M14.dis 2 4 _ _ rfl rfl (by decide) rfl g7 rfl hb)) ?_)
 rintro v16 w16 a16 ⟨u16,hv16,hu16,hs16,hc16,hg16⟩ F16
 have M16:=M14.took (k:=2) (ku:=4) rfl hg16 hc16 6 5 hv16 hu16 hs16 rfl rfl
 clear M14 hg16 hc16
 obtain ⟨A16u,c16u,rfl⟩:=hu16.shape
 clear hu16
 clear hv16
 obtain ⟨A16,c16,rfl⟩:=(M16.isO (k:=6) rfl).shape
 refine rn rfl rfl F16 rfl (.string (⟨((cV (b.drop 1))).toArray⟩)) (y_str _ rfl (F16.get rfl) (M16.isO (k:=6) rfl)) fun _ F17=>?_
 refine rn rfl rfl F17 rfl (zP g10 1) (y_fa (off:=1) rfl (F17.get rfl) (by kernel_rfl) rfl) fun _ F18=>?_
 refine zt rfl rfl F18 M16 (k:=3) rfl _ _ _ rfl (F18.get rfl) (F18.get rfl) (#[.string (⟨((cV (b.drop 1))).toArray⟩)]) (recA ⟨((zp (b.take 1):Nat):Int),⟨((cV (b.drop 1))).toArray⟩,[],0,0,[],0,0,0⟩ ⟨zN,zN⟩) rfl (zL rfl) (one_str _) (by kernel_rfl) (by kernel_rfl) ?_
 intro w19 M19
 refine hK15 _ _ (zSk fun _ hK20=>?_)
 refine zR (zh rfl rfl F18 rfl rfl (zE Tryz.func129 rfl) #[(zO g7)] (zaa (F18.get rfl)) (rcounted_ex g7 (cR (b.drop 1)) (.slice A16u ((cR (b.drop 1))).length c16u) (Nat.le_trans (cR_len _) (Nat.le_trans (zyb _ _) hl)) w19 (M19.blk (k:=2) rfl) (M19.isb (k:=5) rfl) (fun hb=>M19.dis 2 5 _ _ rfl rfl (by decide) rfl g7 rfl hb)) ?_)
 rintro v21 w21 a21 ⟨u21,hv21,hu21,hs21,hc21,hg21⟩ F21
 have M21:=M19.took (k:=2) (ku:=5) rfl hg21 hc21 8 7 hv21 hu21 hs21 rfl rfl
 clear M19 hg21 hc21
 obtain ⟨A21u,c21u,rfl⟩:=hu21.shape
 clear hu21
 clear hv21
 obtain ⟨A21,c21,rfl⟩:=(M21.isO (k:=8) rfl).shape
 refine rn rfl rfl F21 rfl (zP g10 2) (y_fa (off:=2) rfl (F21.get rfl) (by kernel_rfl) rfl) fun _ F22=>?_
 refine zt rfl rfl F22 M21 (k:=3) rfl _ _ _ rfl (F22.get rfl) (F22.get rfl) (#[.slice A21 ((cV (cR (b.drop 1)))).length c21]) (recA ⟨((zp (b.take 1):Nat):Int),⟨((cV (b.drop 1))).toArray⟩,(cV (cR (b.drop 1))),0,0,[],0,0,0⟩ ⟨.slice A21 ((cV (cR (b.drop 1)))).length c21,zN⟩) rfl (zL rfl) (one_slc rfl) (by kernel_rfl) (by kernel_rfl) ?_
 intro w23 M23
 refine hK20 _ _ (zSk fun _ hK24=>?_)
 refine zR (zh rfl rfl F22 rfl rfl (zE Tryz.func129 rfl) #[(zO g7)] (zaa (F22.get rfl)) (rcounted_ex g7 (cR (cR (b.drop 1))) (.slice A21u ((cR (cR (b.drop 1)))).length c21u) (Nat.le_trans (cR_len _) (Nat.le_trans (cR_len _) (Nat.le_trans (zyb _ _) hl))) w23 (M23.blk (k:=2) rfl) (M23.isb (k:=7) rfl) (fun hb=>M23.dis 2 7 _ _ rfl rfl (by decide) rfl g7 rfl hb)) ?_)
 rintro v25 w25 a25 ⟨u25,hv25,hu25,hs25,hc25,hg25⟩ F25
 have M25:=M23.took (k:=2) (ku:=7) rfl hg25 hc25 10 9 hv25 hu25 hs25 rfl rfl
 clear M23 hg25 hc25
 obtain ⟨A25u,c25u,rfl⟩:=hu25.shape
 clear hu25
 clear hv25
 obtain ⟨A25,c25,rfl⟩:=(M25.isO (k:=10) rfl).shape
 refine rn rfl rfl F25 rfl (zP g10 19) (y_fa (off:=19) rfl (F25.get rfl) (by kernel_rfl) rfl) fun _ F26=>?_
 refine zt rfl rfl F26 M25 (k:=3) rfl _ _ _ rfl (F26.get rfl) (F26.get rfl) (#[.slice A25 ((cV (cR (cR (b.drop 1))))).length c25]) (recA ⟨((zp (b.take 1):Nat):Int),⟨((cV (b.drop 1))).toArray⟩,(cV (cR (b.drop 1))),0,0,(cV (cR (cR (b.drop 1)))),0,0,0⟩ ⟨.slice A21 ((cV (cR (b.drop 1)))).length c21,.slice A25 ((cV (cR (cR (b.drop 1))))).length c25⟩) rfl (zL rfl) (one_slc rfl) (by kernel_rfl) (by kernel_rfl) ?_
 intro w27 M27
 refine hK24 _ _ (zSk fun _ hK28=>?_)
 refine zR (zh rfl rfl F26 rfl rfl (zE Tryz.func130 rfl) #[(zO g7)] (zaa (F26.get rfl)) (rfour_any g7 (cR (cR (cR (b.drop 1)))) (.slice A25u ((cR (cR (cR (b.drop 1))))).length c25u) (Nat.le_trans (cR_len _) (Nat.le_trans (cR_len _) (Nat.le_trans (cR_len _) (Nat.le_trans (zyb _ _) hl)))) w27 (M27.blk (k:=2) rfl) (M27.isb (k:=9) rfl) (fun hb=>M27.dis 2 9 _ _ rfl rfl (by decide) rfl g7 rfl hb)) ?_)
 rintro _ w29 a29 ⟨rfl,u29,hu29,hs29,hc29,hg29⟩ F29
 have M29:=M27.took0 (k:=2) (ku:=9) rfl hg29 hc29 11 hu29 hs29 rfl
 clear M27 hg29 hc29
 obtain ⟨A29u,c29u,rfl⟩:=hu29.shape
 clear hu29
 refine rn rfl rfl F29 rfl (zP g10 3) (y_fa (off:=3) rfl (F29.get rfl) (by kernel_rfl) rfl) fun _ F30=>?_
 refine zt rfl rfl F30 M29 (k:=3) rfl _ _ _ rfl (F30.get rfl) (F30.get rfl) (numA (zjc ((cR (cR (cR (b.drop 1)))).take 4))) (recA ⟨((zp (b.take 1):Nat):Int),⟨((cV (b.drop 1))).toArray⟩,(cV (cR (b.drop 1))),(zjc ((cR (cR (cR (b.drop 1)))).take 4)),0,(cV (cR (cR (b.drop 1)))),0,0,0⟩ ⟨.slice A21 ((cV (cR (b.drop 1)))).length c21,.slice A25 ((cV (cR (cR (b.drop 1))))).length c25⟩) rfl (zL rfl) (numA_one _) (by kernel_rfl) z5b ?_
 intro w31 M31
 refine hK28 _ _ (zSk fun _ hK32=>?_)
 refine zR (zh rfl rfl F30 rfl rfl (zE Tryz.func130 rfl) #[(zO g7)] (zaa (F30.get rfl)) (rfour_any g7 ((cR (cR (cR (b.drop 1)))).drop 4) (.slice A29u (((cR (cR (cR (b.drop 1)))).drop 4)).length c29u) (Nat.le_trans (zyb _ _) (Nat.le_trans (cR_len _) (Nat.le_trans (cR_len _) (Nat.le_trans (cR_len _) (Nat.le_trans (zyb _ _) hl))))) w31 (M31.blk (k:=2) rfl) (M31.isb (k:=11) rfl) (fun hb=>M31.dis 2 11 _ _ rfl rfl (by decide) rfl g7 rfl hb)) ?_)
 rintro _ w33 a33 ⟨rfl,u33,hu33,hs33,hc33,hg33⟩ F33
 have M33:=M31.took0 (k:=2) (ku:=11) rfl hg33 hc33 12 hu33 hs33 rfl
 clear M31 hg33 hc33
 obtain ⟨A33u,c33u,rfl⟩:=hu33.shape
 clear hu33
 refine rn rfl rfl F33 rfl (zP g10 11) (y_fa (off:=11) rfl (F33.get rfl) (by kernel_rfl) rfl) fun _ F34=>?_
 refine zt rfl rfl F34 M33 (k:=3) rfl _ _ _ rfl (F34.get rfl) (F34.get rfl) (numA (zjc (((cR (cR (cR (b.drop 1)))).drop 4).take 4))) (recA ⟨((zp (b.take 1):Nat):Int),⟨((cV (b.drop 1))).toArray⟩,(cV (cR (b.drop 1))),(zjc ((cR (cR (cR (b.drop 1)))).take 4)),(zjc (((cR (cR (cR (b.drop 1)))).drop 4).take 4)),(cV (cR (cR (b.drop 1)))),0,0,0⟩ ⟨.slice A21 ((cV (cR (b.drop 1)))).length c21,.slice A25 ((cV (cR (cR (b.drop 1))))).length c25⟩) rfl (zL rfl) (numA_one _) (by kernel_rfl) z5b ?_
 intro w35 M35
 refine hK32 _ _ (zSk fun _ hK36=>?_)
 refine zR (zh rfl rfl F34 rfl rfl (zE Tryz.func128 rfl) #[(zO g7)] (zaa (F34.get rfl)) (roctet_any g7 (((cR (cR (cR (b.drop 1)))).drop 4).drop 4) (.slice A33u ((((cR (cR (cR (b.drop 1)))).drop 4).drop 4)).length c33u) (Nat.le_trans (zyb _ _) (Nat.le_trans (zyb _ _) (Nat.le_trans (cR_len _) (Nat.le_trans (cR_len _) (Nat.le_trans (cR_len _) (Nat.le_trans (zyb _ _) hl)))))) w35 (M35.blk (k:=2) rfl) (M35.isb (k:=12) rfl) (fun hb=>M35.dis 2 12 _ _ rfl rfl (by decide) rfl g7 rfl hb)) ?_)
 rintro _ w37 a37 ⟨rfl,u37,hu37,hs37,hc37,hg37⟩ F37
 have M37:=M35.took0 (k:=2) (ku:=12) rfl hg37 hc37 13 hu37 hs37 rfl
 clear M35 hg37 hc37
 obtain ⟨A37u,c37u,rfl⟩:=hu37.shape
 clear hu37
 refine rn rfl rfl F37 rfl (zP g10 20) (y_fa (off:=20) rfl (F37.get rfl) (by kernel_rfl) rfl) fun _ F38=>?_
 refine zt rfl rfl F38 M37 (k:=3) rfl _ _ _ rfl (F38.get rfl) (F38.get rfl) (#[zI ((zp ((((cR (cR (cR (b.drop 1)))).drop 4).drop 4).take 1):Nat):Int)]) (recA ⟨((zp (b.take 1):Nat):Int),⟨((cV (b.drop 1))).toArray⟩,(cV (cR (b.drop 1))),(zjc ((cR (cR (cR (b.drop 1)))).take 4)),(zjc (((cR (cR (cR (b.drop 1)))).drop 4).take 4)),(cV (cR (cR (b.drop 1)))),((zp ((((cR (cR (cR (b.drop 1)))).drop 4).drop 4).take 1):Nat):Int),0,0⟩ ⟨.slice A21 ((cV (cR (b.drop 1)))).length c21,.slice A25 ((cV (cR (cR (b.drop 1))))).length c25⟩) rfl (zL rfl) (zdc _ _) (by kernel_rfl) (by kernel_rfl) ?_
 intro w39 M39
 refine hK36 _ _ (zSk fun _ hK40=>?_)
 refine zR (zh rfl rfl F38 rfl rfl (zE Tryz.func131 rfl) #[(zO g7),zI 8] (zfa (F38.get rfl) rfl) (rnumber_any g7 ((((cR (cR (cR (b.drop 1)))).drop 4).drop 4).drop 1) (.slice A37u (((((cR (cR (cR (b.drop 1)))).drop 4).drop 4).drop 1)).length c37u) 8 (Nat.le_trans (zyb _ _) (Nat.le_trans (zyb _ _) (Nat.le_trans (zyb _ _) (Nat.le_trans (cR_len _) (Nat.le_trans (cR_len _) (Nat.le_trans (cR_len _) (Nat.le_trans (zyb _ _) hl))))))) (by omega) w39 (M39.blk (k:=2) rfl) (M39.isb (k:=13) rfl) (fun hb=>M39.dis 2 13 _ _ rfl rfl (by decide) rfl g7 rfl hb)) ?_)
 rintro _ w41 a41 ⟨rfl,u41,hu41,hs41,hc41,hg41⟩ F41
 have M41:=M39.took0 (k:=2) (ku:=13) rfl hg41 hc41 14 hu41 hs41 rfl
 clear M39 hg41 hc41
 obtain ⟨A41u,c41u,rfl⟩:=hu41.shape
 clear hu41
 refine rn rfl rfl F41 rfl (zP g10 21) (y_fa (off:=21) rfl (F41.get rfl) (by kernel_rfl) rfl) fun _ F42=>?_
 refine zt rfl rfl F42 M41 (k:=3) rfl _ _ _ rfl (F42.get rfl) (F42.get rfl) (#[zI (numI (((((cR (cR (cR (b.drop 1)))).drop 4).drop 4).drop 1).take 8))]) (recA ⟨((zp (b.take 1):Nat):Int),⟨((cV (b.drop 1))).toArray⟩,(cV (cR (b.drop 1))),(zjc ((cR (cR (cR (b.drop 1)))).take 4)),(zjc (((cR (cR (cR (b.drop 1)))).drop 4).take 4)),(cV (cR (cR (b.drop 1)))),((zp ((((cR (cR (cR (b.drop 1)))).drop 4).drop 4).take 1):Nat):Int),(numI (((((cR (cR (cR (b.drop 1)))).drop 4).drop 4).drop 1).take 8)),0⟩ ⟨.slice A21 ((cV (cR (b.drop 1)))).length c21,.slice A25 ((cV (cR (cR (b.drop 1))))).length c25⟩) rfl (zL rfl) (zdc _ _) (by kernel_rfl) (by kernel_rfl) ?_
 intro w43 M43
 refine hK40 _ _ (zSk fun _ hK44=>?_)
 refine zR ?_
 refine zh rfl rfl F42 rfl rfl (zE Tryz.func131 rfl) #[(zO g7),zI 8] (zfa (F42.get rfl) rfl) (rnumber_any g7 (((((cR (cR (cR (b.drop 1)))).drop 4).drop 4).drop 1).drop 8) (.slice A41u ((((((cR (cR (cR (b.drop 1)))).drop 4).drop 4).drop 1).drop 8)).length c41u) 8 (Nat.le_trans (zyb _ _) (Nat.le_trans (zyb _ _) (Nat.le_trans (zyb _ _) (Nat.le_trans (zyb _ _) (Nat.le_trans (cR_len _) (Nat.le_trans (cR_len _) (Nat.le_trans (cR_len _) (Nat.le_trans (zyb _ _) hl)))))))) (by omega) w43 (M43.blk (k:=2) rfl) (M43.isb (k:=14) rfl) (fun hb=>M43.dis 2 14 _ _ rfl rfl (by decide) rfl g7 rfl hb)) ?_
 rintro _ w45 a45 ⟨rfl,u45,hu45,hs45,hc45,hg45⟩ F45
 have M45:=M43.took0 (k:=2) (ku:=14) rfl hg45 hc45 15 hu45 hs45 rfl
 clear M43 hg45 hc45
 obtain ⟨A45u,c45u,rfl⟩:=hu45.shape
 clear hu45
 refine rn rfl rfl F45 rfl (zP g10 22) (y_fa (off:=22) rfl (F45.get rfl) (by kernel_rfl) rfl) fun _ F46=>?_
 refine zt rfl rfl F46 M45 (k:=3) rfl _ _ _ rfl (F46.get rfl) (F46.get rfl) (#[zI (numI ((((((cR (cR (cR (b.drop 1)))).drop 4).drop 4).drop 1).drop 8).take 8))]) (recA ⟨((zp (b.take 1):Nat):Int),⟨((cV (b.drop 1))).toArray⟩,(cV (cR (b.drop 1))),(zjc ((cR (cR (cR (b.drop 1)))).take 4)),(zjc (((cR (cR (cR (b.drop 1)))).drop 4).take 4)),(cV (cR (cR (b.drop 1)))),((zp ((((cR (cR (cR (b.drop 1)))).drop 4).drop 4).take 1):Nat):Int),(numI (((((cR (cR (cR (b.drop 1)))).drop 4).drop 4).drop 1).take 8)),(numI ((((((cR (cR (cR (b.drop 1)))).drop 4).drop 4).drop 1).drop 8).take 8))⟩ ⟨.slice A21 ((cV (cR (b.drop 1)))).length c21,.slice A25 ((cV (cR (cR (b.drop 1))))).length c25⟩) rfl (zL rfl) (zdc _ _) (by kernel_rfl) (by kernel_rfl) ?_
 intro w47 M47
 refine hK44 _ _ (zSk fun _ hK48=>?_)
 refine zR ?_
 refine rn rfl rfl F46 rfl _ (zjb _ _ rfl (F46.get rfl) (M47.blk (k:=3) rfl) (recA ⟨((zp (b.take 1):Nat):Int),⟨((cV (b.drop 1))).toArray⟩,(cV (cR (b.drop 1))),(zjc ((cR (cR (cR (b.drop 1)))).take 4)),(zjc (((cR (cR (cR (b.drop 1)))).drop 4).take 4)),(cV (cR (cR (b.drop 1)))),((zp ((((cR (cR (cR (b.drop 1)))).drop 4).drop 4).take 1):Nat):Int),(numI (((((cR (cR (cR (b.drop 1)))).drop 4).drop 4).drop 1).take 8)),(numI ((((((cR (cR (cR (b.drop 1)))).drop 4).drop 4).drop 1).drop 8).take 8))⟩ ⟨.slice A21 ((cV (cR (b.drop 1)))).length c21,.slice A25 ((cV (cR (cR (b.drop 1))))).length c25⟩) (znb rfl) Tryz.underlying37 rfl (by kernel_rfl)) fun _ F49=>?_
 refine rm rfl F49 fun _ F50=>?_
 have og2:=M47.owns (k:=8) rfl
 have og5:=M47.owns (k:=10) rfl
 have MT1:=((M47.uz0 (fp:=fun _=>False) 16 (fun _ h=>h)).uzTame (i:=16) (k:=8) (fp':=bfp (.slice A21 ((cV (cR (b.drop 1)))).length c21)) rfl rfl (fun _ h=>.inr h)).tame (k:=10) rfl
 refine zh rfl rfl F50 rfl rfl (zE Tryz.func132 rfl) #[.agg (recA ⟨((zp (b.take 1):Nat):Int),⟨((cV (b.drop 1))).toArray⟩,(cV (cR (b.drop 1))),(zjc ((cR (cR (cR (b.drop 1)))).take 4)),(zjc (((cR (cR (cR (b.drop 1)))).drop 4).take 4)),(cV (cR (cR (b.drop 1)))),((zp ((((cR (cR (cR (b.drop 1)))).drop 4).drop 4).take 1):Nat):Int),(numI (((((cR (cR (cR (b.drop 1)))).drop 4).drop 4).drop 1).take 8)),(numI ((((((cR (cR (cR (b.drop 1)))).drop 4).drop 4).drop 1).drop 8).take 8))⟩ ⟨.slice A21 ((cV (cR (b.drop 1)))).length c21,.slice A25 ((cV (cR (cR (b.drop 1))))).length c25⟩),.func (.func 48) #[] #[],.slice A0 b.length c0] (args3 (F50.get rfl) rfl (F50.get rfl)) (provenR_any (rdM b) ⟨.slice A21 ((cV (cR (b.drop 1)))).length c21,.slice A25 ((cV (cR (cR (b.drop 1))))).length c25⟩ b (.slice A0 b.length c0) (rdM_ok b) w47 ⟨MT1.isb (k:=8) rfl,MT1.isb (k:=10) rfl⟩ (MT1.isb (k:=0) rfl)) ?_
 rintro _ w51 a51 ⟨V51,rfl,is51,lo51,b51⟩ F51
 have M51:=MT1.step b51
 replace M51:=M51.part 17 _ is51.h2 z2b rfl (k:=8) rfl rfl (fun g=>(lo51 g).1)
 replace M51:=M51.part 18 _ is51.h5 z2b rfl (k:=10) rfl rfl (fun g=>(lo51 g).2)
 refine zB 2 [(2,(zO g2)),(3,.bool false),(30,.agg (recA (rdR b) V51)),(31,.bool (rdOk b))] [] dnil [] F51 fun _ F52=>?_
 refine zt rfl rfl F52 M51 (k:=1) rfl _ _ _ rfl (F52.get rfl) (F52.get rfl) (recA (rdR b) V51) _ rfl (zL rfl) (z6a is51) (zca rfl) (by kernel_rfl) ?_
 intro w53 M53
 refine rm rfl F52 fun _ F54=>hK48 _ _ (wp_ret ?_)
 exact bodyPost_ret (resCT rfl (F54.get rfl) (M53.blk (k:=1) rfl) (F54.get rfl) Tryz.underlying37 rfl (by kernel_rfl)) F54.defers ⟨V51,rfl,⟨M53.isb (k:=17) rfl,M53.isb (k:=18) rfl⟩,(fun q h=>h.elim (fun h=>og2 q (zta ((lo51 q).1 h))) (fun h=>og5 q (zta ((lo51 q).2 h)))),(fun g h=>M53.uzF (k:=16) rfl g ((lo51 g).1 h)),M53.below⟩
theorem HasV.step {w w':World} {g:Nat} {V:VltN} {s n:Nat→Value} (h:HasV w g V s n) (hb:Below w.heap.size w w'):HasV w' g V s n:=
 ⟨(hb.block g (z2a h.blk)).trans h.blk,fun i hi=>(h.hs i hi).step hb,fun i hi=>(h.hn i hi).step hb⟩
theorem cnt_len (V:VltN) (q:Nat) (h1:(V.c q).s.length≤1000) (h2:(V.c (q+1)).s.length≤1000):(cntS V q).length≤1000:=by
 have:∀ b:List UInt8,(entS b).length≤b.length:=fun b=>by
  unfold entS;split
  ·rw [saysL_len];omega
  ·exact Nat.zero_le _
 unfold cntS
 split
 ·exact Nat.le_trans (this _) h2
 ·exact Nat.le_trans (this _) h1
def zeroRec:RecN:=⟨0, "".toUTF8,[],0,0,[],0,0,0⟩
noncomputable def zfc (V:VltN) (q:Nat):Bool:=anyB zr V q&&rdOk (cntS V q)
noncomputable def z0a (V:VltN) (q:Nat):RecN:=if anyB zr V q=true then rdR (cntS V q) else zeroRec
def numB (V:VltN) (q:Nat):Bool:=anyB zr V q&&numOk (cntS V q)
def zic (V:VltN) (q:Nat):Int:=if anyB zr V q=true then numI (cntS V q) else 0
structure RecU (w:World) (r:RecN) (V:RecV):Prop where
 h2:IsB w r.l2 V.v2
 h5:IsB w r.l5 V.v5
 u:unfz (bfp V.v2) w
theorem RecU.is {w:World} {r:RecN} {V:RecV} (h:RecU w r V):RecIs w r V:=⟨h.h2,h.h5⟩
theorem vrd_is (b:List UInt8) (bv:Value) (hl:b.length≤100000) (ok:Bool) (r:RecN) (h1:rdOk b=ok) (h2:rdR b=r) (w:World) (hb:IsB w b bv):Calls Tryz.prog 105 #[bv] w fun e w'=>∃ t,e=.returned t∧∃ V,t=.tuple #[.agg (recA r V),.bool ok]∧RecU w' r V∧(∀ q,bfp V.v2 q∨bfp V.v5 q→w.heap.size≤q)∧Below w.heap.size w w':=by
 subst h1 h2;exact (readrecW_any b bv hl w hb).mono fun e w' ⟨V,k1,k2,k3,k4,k5⟩=>⟨_,k1,V,rfl,⟨k2.h2,k2.h5,k4⟩,k3,k5⟩
theorem vnum_is (b:List UInt8) (bv:Value) (hl:b.length≤100000) (ok:Bool) (r:Int) (h1:numOk b=ok) (h2:numI b=r) (w:World) (hb:IsB w b bv):Calls Tryz.prog 88 #[bv] w fun e w'=>e=.returned (.tuple #[zI r,.bool ok])∧Below w.heap.size w w':=by
 subst h1 h2;exact number_any b bv hl w hb
theorem countsR_is (q:Nat) (hq:q+1<18) (g:Nat) (V:VltN) (s n:Nat→Value) (hv:z1a V) (b:Bool) (hA:anyB zr V q=b) (w:World) (h:HasV w g V s n):Calls Tryz.prog 106 #[.agg #[zI (q:Int),.func (.func 105) #[] #[]],(zO g)] w fun e w'=>∃ t,e=.returned t∧∃ S,t=.tuple #[.agg #[zI (cntP V q:Int),zI (cntT V q),S],.bool b]∧IsB w (cntS V q) S∧(∀ b,bfp S b→bfp (s q) b∨bfp (s (q+1)) b)∧Below w.heap.size w w':=by
 subst hA;exact (countsR q hq g V s n hv w h).mono fun e w' ⟨S,k1,k2,k3,k4⟩=>⟨_,k1,S,rfl,k2,k3,k4⟩
theorem countsI_is (q:Nat) (hq:q+1<18) (g:Nat) (V:VltN) (s n:Nat→Value) (hv:z1a V) (b:Bool) (hA:anyB zr V q=b) (w:World) (h:HasV w g V s n):Calls Tryz.prog 89 #[.agg #[zI (q:Int),.func (.func 88) #[] #[]],(zO g)] w fun e w'=>∃ t,e=.returned t∧∃ S,t=.tuple #[.agg #[zI (cntP V q:Int),zI (cntT V q),S],.bool b]∧IsB w (cntS V q) S∧(∀ b,bfp S b→bfp (s q) b∨bfp (s (q+1)) b)∧Below w.heap.size w w':=by
 subst hA;exact (countsI q hq g V s n hv w h).mono fun e w' ⟨S,k1,k2,k3,k4⟩=>⟨_,k1,S,rfl,k2,k3,k4⟩
theorem saysR (q:Nat) (hq:q+1<18) (g:Nat) (V:VltN) (s n:Nat→Value) (hv:z1a V) (w:World) (h:HasV w g V s n):
  Calls Tryz.prog 85 #[.agg #[zI (q:Int),.func (.func 105) #[] #[]],(zO g)] w fun e w'=>∃ V',e=.returned (.tuple #[.agg (recA (z0a V q) V'),.bool (zfc V q)])∧RecU w' (z0a V q) V'∧(∀ b,bfp V'.v2 b∨bfp V'.v5 b→w.heap.size≤b)∧Below w.heap.size w w':=by
 obtain ⟨qA,hA⟩:∃ x,anyB zr V q=x:=⟨_,rfl⟩
 have hcl:=cnt_len V q (hv q (by omega)).1 (hv (q+1) hq).1
 obtain ⟨qR,hR⟩:∃ x,rdOk (cntS V q)=x:=⟨_,rfl⟩
 rw [show zfc V q=(qA&&qR) by rw [zfc,hA,hR]]
 obtain ⟨rr,hrr⟩:∃ x,rdR (cntS V q)=x:=⟨_,rfl⟩
 rw [show z0a V q=if qA=true then rr else zeroRec by rw [z0a,hA,hrr]]
 refine zk (args:=[.agg (#[zI (q:Int),.func (.func 105) #[] #[]]),(zO g)]) 25 Tryz.func85 rfl rfl rfl ?_
 intro fa F
 have M:=Mx.start w
 replace M:=M.argO 0 h.blk (fun b e=>by cases e)
 refine zT fun _ hK1=>zq rfl rfl F rfl M 1 (t:=87) (c:=#[zI (q:Int),.func (.func 105) #[] #[]]) (by unfold execOp;simp only [(F 0 rfl)];kernel_rfl) ?_
 intro g2 a2 w2 F2 M2
 refine zq rfl rfl F2 rfl M2 2 (t:=37) (c:=recA ⟨0, "".toUTF8,[],0,0,[],0,0,0⟩ ⟨zN,zN⟩) (by unfold execOp;kernel_rfl) ?_
 intro g3 a3 w3 F3 M3
 refine rm rfl F3 fun _ F4=>hK1 _ _ (zT fun _ hK5=>zc (w':=w3) rfl rfl F4 rfl _ (zjb _ _ rfl (F4 2 rfl) (M3.blk (k:=1) rfl) (#[zI (q:Int),.func (.func 105) #[] #[]]) (znb rfl) Tryz.underlying87 rfl (by kernel_rfl)) fun _ F6=>?_)
 refine rm rfl F6 fun _ F7=>zh rfl rfl F7 rfl rfl (zE Tryz.func106 rfl) #[.agg (#[zI (q:Int),.func (.func 105) #[] #[]]),(zO g)] (zfa (F7 10 rfl) (F7 11 rfl)) (countsR_is q hq g V s n hv qA hA w3 (h.step M3.below)) ?_
 rintro _ w8 a8 ⟨S8,rfl,hS8,hf8,b8⟩ F8
 have hS0:=hS8.back M3.below (fun g hg=>(hf8 g hg).elim (fun h3=>(h.hs q (by omega)).lt h3) (fun h3=>(h.hs (q+1) hq).lt h3))
 have M8:=M3.step b8
 refine zB 3 [(2,(zO g2)),(4,(zO g3)),(5,.bool false),(13,.agg (#[zI (cntP V q:Int),zI (cntT V q),S8])),(14,.bool qA)] [] dnil [] F8 fun _ F9=>?_
 refine zq rfl rfl F9 rfl M8 3 (t:=128) (c:=#[zI 0,zI 0,zN]) (by unfold execOp;kernel_rfl) ?_
 intro g10 a10 w10 F10 M10
 refine zt rfl rfl F10 M10 (k:=3) rfl _ _ _ rfl (F10 6 rfl) (F10 13 rfl) (#[zI (cntP V q:Int),zI (cntT V q),S8]) _ rfl (zL rfl) (zyc (hS0.step M10.below)) (zca rfl) (by kernel_rfl) ?_
 intro w11 M11
 refine rm rfl F10 fun _ F12=>hK5 _ _ (zSk fun _ hK13=>zT fun _ hK14=>rm rfl F12 fun _ F15=>?_)
 cases qA
 ·refine zc (w':=w11) rfl rfl F15 rfl (.bool true) (zgb _ _ rfl (F15 15 rfl)) fun _ F16=>?_
  refine hK14 _ _ (wp_cond_true (F16 16 rfl) (zT fun _ hK17=>zq rfl rfl F16 rfl M11 4 (t:=37) (c:=recA ⟨0, "".toUTF8,[],0,0,[],0,0,0⟩ ⟨zN,zN⟩) (by unfold execOp;kernel_rfl) ?_))
  intro g18 a18 w18 F18 M18
  refine hK17 _ _ (zT fun _ hK19=>zc (w':=w18) rfl rfl F18 rfl _ (zjb _ _ rfl (F18 8 rfl) (M18.blk (k:=4) rfl) (recA ⟨0, "".toUTF8,[],0,0,[],0,0,0⟩ ⟨zN,zN⟩) (znb rfl) Tryz.underlying37 rfl (by kernel_rfl)) fun _ F20=>?_)
  refine zt rfl rfl F20 M18 (k:=2) rfl _ _ _ rfl (F20 4 rfl) (F20 17 rfl) (recA ⟨0, "".toUTF8,[],0,0,[],0,0,0⟩ ⟨zN,zN⟩) _ rfl (zL rfl) (z6a (w:=w18) ⟨(zia _),(zia _)⟩) (zca rfl) (by kernel_rfl) ?_
  intro w21 M21
  refine rm rfl F20 fun _ F22=>hK19 _ _ (wp_ret ?_)
  try simp only [Exit.then,Exit.inBlock,Exit.jump]
  exact bodyPost_ret (resCT rfl (F22.get rfl) (M21.blk (k:=2) rfl) (F22.get rfl) Tryz.underlying37 rfl (by kernel_rfl)) F22.defers ⟨⟨zN,zN⟩,rfl,⟨zia _,zia _,fun g h=>absurd h (zpa g)⟩,(fun q h=>h.elim (fun h=>absurd h (zpa q)) (fun h=>absurd h (zpa q))),M21.below⟩
 ·refine zc (w':=w11) rfl rfl F15 rfl (.bool false) (zgb _ _ rfl (F15 15 rfl)) fun _ F23=>?_
  refine hK14 _ _ (wp_cond_false (F23 16 rfl) (wp_skip (hK13 _ _ (zT fun _ hK24=>zB 4 [(4,(zO g3)),(5,.bool false),(19,.func (.func 105) #[] #[]),(21,S8)] [0,1] (zu (M11.blk (k:=1) rfl) (zu (M11.blk (k:=3) rfl) dnil)) [g2,g10] F23 fun _ F25=>?_))))
  refine wl_callV rfl rfl F25 rfl rfl (F25 19 rfl) (zE Tryz.func105 rfl) #[S8] (show _++_=_ from by rw [(zaa (F25 21 rfl))];rfl) (vrd_is (cntS V q) (S8) (by omega) qR rr hR hrr w11 (hS0.step M11.below)) ?_
  rintro _ w26 a26 ⟨V26,rfl,is26,lo26,b26⟩ F26
  have lf:=fun q h=>Nat.le_trans M11.le (lo26 q h)
  have M26:=(M11.newRec b26 is26.is lo26 4 5).uzGrow (i:=6) is26.u (fun g hg=>⟨4,_,rfl,rfl,hg⟩)
  clear M11 b26 lo26
  refine zB 2 [(4,(zO g3)),(5,.bool false),(23,.agg (recA rr V26)),(24,.bool qR)] [] dnil [] F26 fun _ F27=>?_
  refine zt rfl rfl F27 M26 (k:=2) rfl _ _ _ rfl (F27 4 rfl) (F27 23 rfl) (recA rr V26) _ rfl (zL rfl) (z6a (w:=w26) ⟨(M26.isb (k:=4) rfl),(M26.isb (k:=5) rfl)⟩) (zca rfl) (by kernel_rfl) ?_
  intro w28 M28
  exact rm rfl F27 fun _ F29=>hK24 _ _ (wp_ret (bodyPost_ret (resCT rfl (F29.get rfl) (M28.blk (k:=2) rfl) (F29.get rfl) Tryz.underlying37 rfl (by kernel_rfl)) F29.defers ⟨_,rfl,⟨(M28.isb (k:=4) rfl),(M28.isb (k:=5) rfl),M28.uzF (k:=6) rfl⟩,lf,M28.below⟩))
theorem saysI (q:Nat) (hq:q+1<18) (g:Nat) (V:VltN) (s n:Nat→Value) (hv:z1a V) (w:World) (h:HasV w g V s n):
  Calls Tryz.prog 59 #[.agg #[zI (q:Int),.func (.func 88) #[] #[]],(zO g)] w fun e w'=>e=.returned (.tuple #[zI (zic V q),.bool (numB V q)])∧Below w.heap.size w w':=by
 obtain ⟨qA,hA⟩:∃ x,anyB zr V q=x:=⟨_,rfl⟩
 have hcl:=cnt_len V q (hv q (by omega)).1 (hv (q+1) hq).1
 obtain ⟨qR,hR⟩:∃ x,numOk (cntS V q)=x:=⟨_,rfl⟩
 rw [show numB V q=(qA&&qR) by rw [numB,hA,hR]]
 obtain ⟨rr,hrr⟩:∃ x,numI (cntS V q)=x:=⟨_,rfl⟩
 rw [show zic V q=if qA=true then rr else 0 by rw [zic,hA,hrr]]
 refine zk (args:=[.agg (#[zI (q:Int),.func (.func 88) #[] #[]]),(zO g)]) 25 Tryz.func59 rfl rfl rfl ?_
 intro fa F
 have M:=Mx.start w
 replace M:=M.argO 0 h.blk (fun b e=>by cases e)
 refine zT fun _ hK1=>zq rfl rfl F rfl M 1 (t:=100) (c:=#[zI (q:Int),.func (.func 88) #[] #[]]) (by unfold execOp;simp only [(F 0 rfl)];kernel_rfl) ?_
 intro g2 a2 w2 F2 M2
 refine rm rfl F2 fun _ F3=>rm rfl F3 fun _ F4=>hK1 _ _ (zT fun _ hK5=>zc (w':=w2) rfl rfl F4 rfl _ (zjb _ _ rfl (F4 2 rfl) (M2.blk (k:=1) rfl) (#[zI (q:Int),.func (.func 88) #[] #[]]) (znb rfl) Tryz.underlying100 rfl (by kernel_rfl)) fun _ F6=>?_)
 refine rm rfl F6 fun _ F7=>zh rfl rfl F7 rfl rfl (zE Tryz.func89 rfl) #[.agg (#[zI (q:Int),.func (.func 88) #[] #[]]),(zO g)] (zfa (F7 10 rfl) (F7 11 rfl)) (countsI_is q hq g V s n hv qA hA w2 (h.step M2.below)) ?_
 rintro _ w8 a8 ⟨S8,rfl,hS8,hf8,b8⟩ F8
 have hS0:=hS8.back M2.below (fun g hg=>(hf8 g hg).elim (fun h3=>(h.hs q (by omega)).lt h3) (fun h3=>(h.hs (q+1) hq).lt h3))
 have M8:=M2.step b8
 refine zB 3 [(2,(zO g2)),(4,zI 0),(5,.bool false),(13,.agg (#[zI (cntP V q:Int),zI (cntT V q),S8])),(14,.bool qA)] [] dnil [] F8 fun _ F9=>?_
 refine zq rfl rfl F9 rfl M8 2 (t:=128) (c:=#[zI 0,zI 0,zN]) (by unfold execOp;kernel_rfl) ?_
 intro g10 a10 w10 F10 M10
 refine zt rfl rfl F10 M10 (k:=2) rfl _ _ _ rfl (F10 6 rfl) (F10 13 rfl) (#[zI (cntP V q:Int),zI (cntT V q),S8]) _ rfl (zL rfl) (zyc (hS0.step M10.below)) (zca rfl) (by kernel_rfl) ?_
 intro w11 M11
 refine rm rfl F10 fun _ F12=>hK5 _ _ (zSk fun _ hK13=>zT fun _ hK14=>rm rfl F12 fun _ F15=>?_)
 cases qA
 ·refine zc (w':=w11) rfl rfl F15 rfl (.bool true) (zgb _ _ rfl (F15 15 rfl)) fun _ F16=>?_
  refine hK14 _ _ (wp_cond_true (F16 16 rfl) (zT fun _ hK17=>rm rfl F16 fun _ F18=>hK17 _ _ (zT fun _ hK19=>rm rfl F18 fun _ F20=>rm rfl F20 fun _ F21=>rm rfl F21 fun _ F22=>hK19 _ _ (wp_ret ?_))))
  try simp only [Exit.then,Exit.inBlock,Exit.jump]
  exact bodyPost_ret (res2 rfl (F22.get rfl) (F22.get rfl)) F22.defers ⟨rfl,M11.below⟩
 ·refine zc (w':=w11) rfl rfl F15 rfl (.bool false) (zgb _ _ rfl (F15 15 rfl)) fun _ F23=>?_
  refine hK14 _ _ (wp_cond_false (F23 16 rfl) (wp_skip (hK13 _ _ (zT fun _ hK24=>zB 4 [(4,zI 0),(5,.bool false),(19,.func (.func 88) #[] #[]),(21,S8)] [0,1] (zu (M11.blk (k:=1) rfl) (zu (M11.blk (k:=2) rfl) dnil)) [g2,g10] F23 fun _ F25=>?_))))
  refine wl_callV rfl rfl F25 rfl rfl (F25 19 rfl) (zE Tryz.func88 rfl) #[S8] (show _++_=_ from by rw [(zaa (F25 21 rfl))];rfl) (zba ((vnum_is (cntS V q) (S8) (by omega) qR rr hR hrr w11 (hS0.step M11.below)))) ?_
  rintro _ w26 a26 ⟨rfl,b26⟩ F26
  have M26:=M11.step b26
  refine zB 4 [(4,zI rr),(5,.bool qR)] [] dnil [] F26 fun _ F27=>?_
  exact hK24 _ _ (wp_ret (bodyPost_ret (res2 rfl (F27.get rfl) (F27.get rfl)) F27.defers ⟨rfl,M26.below⟩))
def zxa (V:VltN) (q:Nat):Bool:=!anyB zr V q||decide (((cntS V q).length:Int)=0)
theorem empty_any (q:Nat) (hq:q+1<18) (g:Nat) (V:VltN) (s n:Nat→Value) (hv:z1a V) (w:World) (h:HasV w g V s n):
  Calls Tryz.prog 76 #[.agg #[zI (q:Int),.func (.func 105) #[] #[]],(zO g)] w fun e w'=>e=.returned (.bool (zxa V q))∧Below w.heap.size w w':=by
 obtain ⟨qA,hA⟩:∃ x,anyB zr V q=x:=⟨_,rfl⟩
 have hcl:=cnt_len V q (hv q (by omega)).1 (hv (q+1) hq).1
 rw [show zxa V q=(!qA||decide (((cntS V q).length:Int)=0)) by rw [zxa,hA]]
 refine zk (args:=[.agg (#[zI (q:Int),.func (.func 105) #[] #[]]),(zO g)]) 21 Tryz.func76 rfl rfl rfl ?_
 intro fa F
 have M:=Mx.start w
 replace M:=M.argO 0 h.blk (fun b e=>by cases e)
 refine zT fun _ hK1=>zq rfl rfl F rfl M 1 (t:=87) (c:=#[zI (q:Int),.func (.func 105) #[] #[]]) (by unfold execOp;simp only [(F 0 rfl)];kernel_rfl) ?_
 intro g2 a2 w2 F2 M2
 refine rm rfl F2 fun _ F3=>hK1 _ _ (zT fun _ hK4=>zc (w':=w2) rfl rfl F3 rfl _ (zjb _ _ rfl (F3 2 rfl) (M2.blk (k:=1) rfl) (#[zI (q:Int),.func (.func 105) #[] #[]]) (znb rfl) Tryz.underlying87 rfl (by kernel_rfl)) fun _ F5=>?_)
 refine rm rfl F5 fun _ F6=>zh rfl rfl F6 rfl rfl (zE Tryz.func106 rfl) #[.agg (#[zI (q:Int),.func (.func 105) #[] #[]]),(zO g)] (zfa (F6 8 rfl) (F6 9 rfl)) (countsR_is q hq g V s n hv qA hA w2 (h.step M2.below)) ?_
 rintro _ w7 a7 ⟨S7,rfl,hS7,hf7,b7⟩ F7
 have hS0:=hS7.back M2.below (fun g hg=>(hf7 g hg).elim (fun h3=>(h.hs q (by omega)).lt h3) (fun h3=>(h.hs (q+1) hq).lt h3))
 have M7:=M2.step b7
 refine zB 3 [(4,.bool false),(11,.agg (#[zI (cntP V q:Int),zI (cntT V q),S7])),(12,.bool qA)] [] dnil [] F7 fun _ F8=>?_
 refine zq rfl rfl F8 rfl M7 2 (t:=128) (c:=#[zI 0,zI 0,zN]) (by unfold execOp;kernel_rfl) ?_
 intro g9 a9 w9 F9 M9
 refine zt rfl rfl F9 M9 (k:=2) rfl _ _ _ rfl (F9 5 rfl) (F9 11 rfl) (#[zI (cntP V q:Int),zI (cntT V q),S7]) _ rfl (zL rfl) (zyc (hS0.step M9.below)) (zca rfl) (by kernel_rfl) ?_
 intro w10 M10
 refine rm rfl F9 fun _ F11=>hK4 _ _ (zT fun _ hK12=>rm rfl F11 fun _ F13=>?_)
 cases qA
 ·refine zB 8 [(4,.bool true)] [] dnil [] F13 fun _ F14=>?_
  exact hK12 _ _ (wp_ret (bodyPost_ret (res1 rfl (F14.get rfl)) F14.defers ⟨rfl,M10.below⟩))
 ·refine zB 4 [(4,.bool false),(15,.bool false),(17,S7)] [0] (zu (M10.blk (k:=2) rfl) dnil) [g9] F13 fun _ F15=>?_
  refine zc (w':=w10) (zd rfl rfl rfl (F15 15 rfl)) rfl F15 rfl (zI ((cntS V q).length:Int)) (z8a _ rfl (F15 17 rfl) (hS0.step M10.below) rfl) fun _ F16=>?_
  by_cases h17:((cntS V q).length:Int)=0
  ·refine zc (w':=w10) (zd rfl rfl rfl (F16 15 rfl)) rfl F16 rfl (.bool true) (zza _ _ _ _ rfl (F16 18 rfl) rfl Tryz.underlying3 (zmb h17)) fun _ F18=>?_
   refine zB 2 [(4,.bool true)] [] dnil [] F18 fun _ F19=>?_
   exact hK12 _ _ (wp_ret (bodyPost_ret (res1 rfl (F19.get rfl)) F19.defers ⟨(by rw [decide_eq_true h17];rfl),M10.below⟩))
  ·refine zc (w':=w10) (zd rfl rfl rfl (F16 15 rfl)) rfl F16 rfl (.bool false) (zza _ _ _ _ rfl (F16 18 rfl) rfl Tryz.underlying3 (zib h17)) fun _ F20=>?_
   refine zB 2 [(4,.bool false)] [] dnil [] F20 fun _ F21=>?_
   exact hK12 _ _ (wp_ret (bodyPost_ret (res1 rfl (F21.get rfl)) F21.defers ⟨(by rw [decide_eq_false h17];rfl),M10.below⟩))
theorem eras_any  (w:World):
  Calls Tryz.prog 58 #[] w fun e w'=>e=.returned (.agg #[zI 16,.func (.func 88) #[] #[]])∧Below w.heap.size w w':=by
 refine zk (args:=[]) 2 Tryz.func58 rfl rfl rfl ?_
 intro fa F
 have M:=Mx.start w
 refine zT fun _ hK1=>zq rfl rfl F rfl M 0 (t:=100) (c:=#[zI 0,.nilFunc]) (by unfold execOp;kernel_rfl) ?_
 intro g2 a2 w2 F2 M2
 refine hK1 _ _ (zT fun _ hK3=>zc (w':=w2) rfl rfl F2 rfl (.agg (#[zI 16,.func (.func 88) #[] #[]])) (by unfold execOp;simp only [List.map_toArray,List.map_cons,List.map_nil,];kernel_rfl) fun _ F4=>?_)
 refine zt rfl rfl F4 M2 (k:=0) rfl _ _ _ rfl (F4 0 rfl) (F4 1 rfl) (#[zI 16,.func (.func 88) #[] #[]]) _ rfl (zL rfl) (by first | rfl | simp [Value.oneCell']) (zca rfl) (by kernel_rfl) ?_
 intro w5 M5
 exact hK3 _ _ (wp_ret (bodyPost_ret (results_cell_row rfl _ _ _ _ _ (0,0) _ (F4.get rfl) (M5.blk (k:=0) rfl) Tryz.underlying100 rfl (by kernel_rfl)) F4.defers ⟨rfl,M5.below⟩))
theorem boot_any (g:Nat) (V:VltN) (s n:Nat→Value) (hv:z1a V) (w:World) (h:HasV w g V s n):
  Calls Tryz.prog 26 #[(zO g)] w fun e w'=>e=.returned (zI (zic V 16))∧Below w.heap.size w w':=by
 refine zk (args:=[(zO g)]) 14 Tryz.func26 rfl rfl rfl ?_
 intro fa F
 have M:=Mx.start w
 replace M:=M.argO 0 h.blk (fun b e=>by cases e)
 refine zT fun _ hK1=>rm rfl F fun _ F2=>hK1 _ _ (zSk fun _ hK3=>?_)
 refine z4a F2 (SK [.inl (.agg (#[zI 16,.func (.func 88) #[] #[]])),.inl (zO g),.inl (zO g),.inl (zO g),.inl (.tuple #[zI (zic V 16),.bool (numB V 16)]),.inl (.tuple #[zI (zic V 16),.bool (numB V 16)]),.inl (zI (zic V 16)),.inl (.bool (numB V 16)),.inl (zI (zic V 16)),.inl (.bool (numB V 16))]) 10 rfl (by kernel_rfl) ⟨hopC F2 [] rfl (zE Tryz.func58 rfl) fun uw hb=>(eras_any uw),hop0 F2,hop0 F2,hop0 F2,hopC F2 [(6,.agg (#[zI 16,.func (.func 88) #[] #[]])),(9,(zO g))] rfl (zE Tryz.func59 rfl) fun uw hb=>(saysI 16 (by omega) g V s n hv uw (h.step (M.step hb).below)),hop0 F2,hop0 F2,hop0 F2,hop0 F2,hop0 F2,trivial⟩ ?_
 intro p5 a5 w5 b5 G5 y5
 obtain ⟨-,-,-,-,-,-,-,-,q8,-,-⟩:=y5
 have r8:p5 8=zI (zic V 16):=q8 (by decide)
 simp only [List.take,layV,Nat.zero_add,Nat.reduceAdd,r8] at G5
 have M5:=M.kc b5
 clear F2 M r8 q8
 refine hK3 _ _ (zT fun _ hK6=>rm rfl G5 fun _ F7=>?_)
 exact rm rfl F7 fun _ F8=>hK6 _ _ (wp_ret (bodyPost_ret (res1 rfl (F8.get rfl)) F8.defers ⟨rfl,M5.below⟩))
theorem dfail_any (g:Nat) (c:Nat→CelN) (fl:Bool) (lf:Int) (dd:Bool) (s n:Nat→Value) (z:Int) (w:World) (hg:w.heap[g]? = some (.cells (vltA ⟨c,fl,lf,dd⟩ s n) 80 (0,0))):
  Calls Tryz.prog 46 #[(zO g),zI z] w fun e w'=>∃ t,e=.returned t∧w'.heap[g]? = some (.cells (vltA ⟨c,decide (0≤z),z,dd⟩ s n) 80 (0,0))∧w.grownBy w' (some g):=by
 refine zk (args:=[(zO g),zI z]) 13 Tryz.func46 rfl rfl rfl ?_
 intro fa F
 have M:=Mx.theG hg 0
 refine zT fun _ hK1=>rm rfl F fun _ F2=>rm rfl F2 fun _ F3=>?_
 by_cases h4:0≤z
 ·refine zc (w':=w) rfl rfl F3 rfl (.bool true) (y_geq _ _ _ _ rfl (F3 5 rfl) rfl (decide_eq_true h4)) fun _ F5=>?_
  refine zB 2 [(0,(zO g)),(1,zI z),(6,.bool true),(8,(zP g 54))] [] dnil [] F5 fun _ F6=>?_
  refine zt rfl rfl F6 M (k:=0) rfl _ _ _ rfl (F6 8 rfl) (F6 6 rfl) (#[.bool true]) (vltA ⟨c,true,lf,dd⟩ s n) rfl (zL rfl) (by simp [Value.oneCell']) (by kernel_rfl) (by kernel_rfl) ?_
  intro w7 M7
  refine hK1 _ _ (zR (zB 4 [(10,zI z),(12,(zP g 55))] [] dnil [] F6 fun _ F8=>?_))
  refine zt rfl rfl F8 M7 (k:=0) rfl _ _ _ rfl (F8 12 rfl) (F8 10 rfl) (#[zI z]) (vltA ⟨c,true,z,dd⟩ s n) rfl (zL rfl) (zdc _ _) (by kernel_rfl) (by kernel_rfl) ?_
  intro w9 M9
  refine wpList_nil ?_
  exact bodyPost_end (res0 rfl) F8.defers ⟨_,rfl,(by rw [decide_eq_true h4];exact M9.blk (k:=0) rfl),M9.grown⟩
 ·refine zc (w':=w) rfl rfl F3 rfl (.bool false) (y_geq _ _ _ _ rfl (F3 5 rfl) rfl (decide_eq_false h4)) fun _ F10=>?_
  refine zB 2 [(0,(zO g)),(1,zI z),(6,.bool false),(8,(zP g 54))] [] dnil [] F10 fun _ F11=>?_
  refine zt rfl rfl F11 M (k:=0) rfl _ _ _ rfl (F11 8 rfl) (F11 6 rfl) (#[.bool false]) (vltA ⟨c,false,lf,dd⟩ s n) rfl (zL rfl) (by simp [Value.oneCell']) (by kernel_rfl) (by kernel_rfl) ?_
  intro w12 M12
  refine hK1 _ _ (zR (zB 4 [(10,zI z),(12,(zP g 55))] [] dnil [] F11 fun _ F13=>?_))
  refine zt rfl rfl F13 M12 (k:=0) rfl _ _ _ rfl (F13 12 rfl) (F13 10 rfl) (#[zI z]) (vltA ⟨c,false,z,dd⟩ s n) rfl (zL rfl) (zdc _ _) (by kernel_rfl) (by kernel_rfl) ?_
  intro w14 M14
  refine wpList_nil ?_
  exact bodyPost_end (res0 rfl) F13.defers ⟨_,rfl,(by rw [decide_eq_false h4];exact M14.blk (k:=0) rfl),M14.grown⟩
section
theorem put_n (c:Nat→CelN) (fl:Bool) (lf:Int) (dd:Bool) (s n:Nat→Value) (u:Value):∀ {p:Nat},p<18→((vltA ⟨c,fl,lf,dd⟩ s n).toList.take (3*p+1)++(#[u]:Array Value).toList++(vltA ⟨c,fl,lf,dd⟩ s n).toList.drop (3*p+1+(#[u]:Array Value).size)).toArray=vltA ⟨c,fl,lf,dd⟩ s (putN n p u)
 | p,h=>by
  match p,h with
  | 0,_ | 1,_ | 2,_ | 3,_ | 4,_ | 5,_ | 6,_ | 7,_ | 8,_ | 9,_ | 10,_ | 11,_ | 12,_ | 13,_ | 14,_ | 15,_ | 16,_ | 17,_=>show _=_;kernel_rfl
  | k+18,h=>exact absurd h (by omega)
theorem put_f (c:Nat→CelN) (fl:Bool) (lf:Int) (dd:Bool) (s n:Nat→Value) (x y:List UInt8) (b:Bool):∀ {p:Nat},p<18→((vltA ⟨c,fl,lf,dd⟩ s n).toList.take (3*p+2)++(#[.bool b]:Array Value).toList++(vltA ⟨c,fl,lf,dd⟩ s n).toList.drop (3*p+2+(#[.bool b]:Array Value).size)).toArray=vltA ⟨putC c p ⟨x,y,b⟩,fl,lf,dd⟩ s n
 | p,h=>by
  match p,h with
  | 0,_ | 1,_ | 2,_ | 3,_ | 4,_ | 5,_ | 6,_ | 7,_ | 8,_ | 9,_ | 10,_ | 11,_ | 12,_ | 13,_ | 14,_ | 15,_ | 16,_ | 17,_=>show _=_;kernel_rfl
  | k+18,h=>exact absurd h (by omega)
theorem put_c (c:Nat→CelN) (fl:Bool) (lf:Int) (dd:Bool) (s n:Nat→Value) (u v:Value) (x y:List UInt8) (b:Bool):∀ {p:Nat},p<18→((vltA ⟨c,fl,lf,dd⟩ s n).toList.take (3*p)++(#[u,v,.bool b]:Array Value).toList++(vltA ⟨c,fl,lf,dd⟩ s n).toList.drop (3*p+(#[u,v,.bool b]:Array Value).size)).toArray=vltA ⟨putC c p ⟨x,y,b⟩,fl,lf,dd⟩ (putN s p u) (putN n p v)
 | p,h=>by
  match p,h with
  | 0,_ | 1,_ | 2,_ | 3,_ | 4,_ | 5,_ | 6,_ | 7,_ | 8,_ | 9,_ | 10,_ | 11,_ | 12,_ | 13,_ | 14,_ | 15,_ | 16,_ | 17,_=>show _=_;kernel_rfl
  | k+18,h=>exact absurd h (by omega)
end
theorem lay_any (g:Nat) (c:Nat→CelN) (fl:Bool) (lf:Int) (dd:Bool) (s n:Nat→Value) (p bx:Nat) (hp:p<18) (u:Value) (hu:∃ A m k,u=.slice A m k) (l:List UInt8) (hne:¬bx=g) (w:World) (hbx:w.heap[bx]? = some (.cells #[u] 23 (0,0))) (hg:w.heap[g]? = some (.cells (vltA ⟨c,fl,lf,dd⟩ s n) 80 (0,0))):
  Calls Tryz.prog 123 #[(zP g (3*p)),(zO bx)] w fun e w'=>∃ t,e=.returned t∧w'.heap[g]? = some (.cells (vltA ⟨putC c p ⟨(c p).s,l,true⟩,fl,lf,dd⟩ s (putN n p u)) 80 (0,0))∧w.grownBy w' (some g):=by
 obtain ⟨Au,mu,ku,rfl⟩:=hu
 refine zk (args:=[(zP g (3*p)),(zO bx)]) 10 Tryz.func123 rfl rfl rfl ?_
 intro fa F
 have M:=Mx.theG hg 0
 replace M:=M.argO 1 hbx (fun b e=>by cases e;exact hne)
 refine zR (zB 4 [(4,(zP g (3*p))),(5,(.slice Au mu ku)),(6,(zP g (3*p)))] [0] (zu (M.roB (k:=1) rfl) dnil) [bx] F fun _ F1=>?_)
 refine zc (w':=w) rfl rfl F1 rfl (zP g (3*p+1)) (y_fa (off:=1) rfl (F1 6 rfl) (by kernel_rfl) rfl) fun _ F2=>?_
 refine zt rfl rfl F2 M (k:=0) rfl _ _ _ rfl (F2 7 rfl) (F2 5 rfl) (#[(.slice Au mu ku)]) (vltA ⟨c,fl,lf,dd⟩ s (putN n p (.slice Au mu ku))) rfl (show 3*p+1+1≤57 by omega) (by simp [Value.oneCell']) (put_n c fl lf dd s n (.slice Au mu ku) hp) (by kernel_rfl) ?_
 intro w3 M3
 refine zc (w':=w3) rfl rfl F2 rfl (zP g (3*p)) (by unfold execOp;simp only [(F2 4 rfl)];kernel_rfl) fun _ F4=>?_
 refine zc (w':=w3) rfl rfl F4 rfl (zP g (3*p+2)) (y_fa (off:=2) rfl (F4 8 rfl) (by kernel_rfl) rfl) fun _ F5=>?_
 refine zt rfl rfl F5 M3 (k:=0) rfl _ _ _ rfl (F5 9 rfl) rfl (#[.bool true]) (vltA ⟨(putC c p ⟨(c p).s,l,true⟩),fl,lf,dd⟩ s (putN n p (.slice Au mu ku))) rfl (show 3*p+2+1≤57 by omega) (by simp [Value.oneCell']) (put_f c fl lf dd s (putN n p (.slice Au mu ku)) (c p).s l true hp) (by kernel_rfl) ?_
 intro w6 M6
 refine wpList_nil ?_
 exact bodyPost_end (res0 rfl) F5.defers ⟨_,rfl,M6.blk (k:=0) rfl,M6.grown⟩
theorem keep_any (g:Nat) (c:Nat→CelN) (fl:Bool) (lf:Int) (dd:Bool) (s n:Nat→Value) (p:Nat) (hp:p<18) (hu:∃ A m k,n p=.slice A m k) (x:List UInt8) (w:World) (hg:w.heap[g]? = some (.cells (vltA ⟨c,fl,lf,dd⟩ s n) 80 (0,0))):
  Calls Tryz.prog 124 #[(zP g (3*p))] w fun e w'=>∃ t,e=.returned t∧w'.heap[g]? = some (.cells (vltA ⟨putC c p ⟨x,[],false⟩,fl,lf,dd⟩ (putN s p (n p)) (putN n p (zN))) 80 (0,0))∧w.grownBy w' (some g):=by
 obtain ⟨Au,mu,ku,hnu⟩:=hu
 refine zk (args:=[(zP g (3*p))]) 9 Tryz.func124 rfl rfl rfl ?_
 intro fa F
 have M:=Mx.theG hg 0
 refine zR (zB 3 [(2,(zP g (3*p))),(4,(zP g (3*p)))] [] dnil [] F fun _ F1=>?_)
 refine zc (w':=w) rfl rfl F1 rfl (zP g (3*p+1)) (y_fa (off:=1) rfl (F1 4 rfl) (by kernel_rfl) rfl) fun _ F2=>?_
 refine zc (w':=w) rfl rfl F2 rfl ((.slice Au mu ku)) (zda _ _ rfl (F2 5 rfl) (M.blk (k:=0) rfl) (by rw [←hnu];exact vlt_n ⟨c,fl,lf,dd⟩ s n hp) Tryz.underlying23 rfl) fun _ F3=>?_
 refine zc (w':=w) rfl rfl F3 rfl (.agg (#[(.slice Au mu ku),zN,.bool false])) (by unfold execOp;simp only [List.map_toArray,List.map_cons,List.map_nil,(F3 6 rfl)];kernel_rfl) fun _ F4=>?_
 refine zc (w':=w) rfl rfl F4 rfl (zP g (3*p)) (by unfold execOp;simp only [(F4 2 rfl)];kernel_rfl) fun _ F5=>?_
 refine zt rfl rfl F5 M (k:=0) rfl _ _ _ rfl (F5 8 rfl) (F5 7 rfl) (#[(.slice Au mu ku),zN,.bool false]) (vltA ⟨(putC c p ⟨x,[],false⟩),fl,lf,dd⟩ (putN s p (.slice Au mu ku)) (putN n p (zN))) rfl (show 3*p+3≤57 by omega) (by simp [Value.oneCell']) (put_c c fl lf dd s n (.slice Au mu ku) (zN) x [] false hp) (by kernel_rfl) ?_
 intro w6 M6
 refine wpList_nil ?_
 exact bodyPost_end (res0 rfl) F5.defers ⟨_,rfl,(by rw [hnu];exact M6.blk (k:=0) rfl),M6.grown⟩
theorem y_subW {a:Act} {w:World} {o:Oper} (x y:Operand) (ho:o.op=.binOp .sub 3 x y 3) {p q:Int} (hx:a.eval x=zI p) (hy:a.eval y=zI q):(execOp a.eval o).run Tryz.prog w=.ok (.value (zI (IntKind.i64.wrap (p-q)))) w:=by
 unfold execOp;simp only [ho,hx,hy];simp [go_sem]
theorem step_lay (g:Nat) (c:Nat→CelN) (fl:Bool) (lf:Int) (dd:Bool) (s n:Nat→Value) (p bx:Nat) (hp:p<18) (u:Value) (hu:∃ A m k,u=.slice A m k) (l:List UInt8) (hne:¬bx=g) (w:World) (hbx:w.heap[bx]? = some (.cells #[u] 23 (0,0))) (hg:w.heap[g]? = some (.cells (vltA ⟨c,fl,lf,dd⟩ s n) 80 (0,0))):
  Calls Tryz.prog 125 #[(zO g),zI (p:Int),.func (.func 123) #[] #[(zO bx)]] w fun e w'=>∃ t,e=.returned t∧t=.bool (!(fl&&decide (lf=0)))∧w'.heap[g]? = some (.cells (if (fl&&decide (lf=0))=true then vltA ⟨c,fl,lf,true⟩ s n else vltA ⟨putC c p ⟨(c p).s,l,true⟩,fl,IntKind.i64.wrap (lf-1),dd⟩ s (putN n p u)) 80 (0,0))∧w.grownBy w' (some g):=by
 refine zk (args:=[(zO g),zI (p:Int),.func (.func 123) #[] #[(zO bx)]]) 35 Tryz.func125 rfl rfl rfl ?_
 intro fa F
 have M:=Mx.theG hg 0
 replace M:=M.argO 1 hbx (fun b e=>by cases e;exact hne)
 refine zT fun _ hK1=>rm rfl F fun _ F2=>hK1 _ _ (zSk fun _ hK3=>zT fun _ hK4=>zB 5 [(0,(zO g)),(1,zI (p:Int)),(2,.func (.func 123) #[] #[(zO bx)]),(6,.bool false),(11,.bool fl)] [0] (zu (M.blk (k:=0) rfl) dnil) [g] F2 fun _ F5=>?_)
 cases fl
 ·refine zAx 6 [(12,undef),(13,undef),(14,undef),(15,undef),(16,undef),(17,.bool false)] [] dnil [] F5 fun _ F6=>?_
  refine hK4 _ _ (wp_cond_false (F6 17 rfl) (wp_skip (hK3 _ _ (zT fun _ hK7=>zAx 4 [(21,(zO g)),(22,(zO g)),(23,(zP g 55)),(24,zI lf)] [0] (zu (M.blk (k:=0) rfl) dnil) [g] F6 fun _ F8=>?_))))
  refine zc (w':=w) rfl rfl F8 rfl (zI (IntKind.i64.wrap (lf-1))) (y_subW _ _ rfl (F8 24 rfl) rfl) fun _ F9=>?_
  refine zAx 2 [(26,(zO g)),(27,(zP g 55))] [] dnil [] F9 fun _ F10=>?_
  refine zt rfl rfl F10 M (k:=0) rfl _ _ _ rfl (F10 27 rfl) (F10 25 rfl) (#[zI (IntKind.i64.wrap (lf-1))]) (vltA ⟨c,false,(IntKind.i64.wrap (lf-1)),dd⟩ s n) rfl (zL rfl) (zdc _ _) (by kernel_rfl) (by kernel_rfl) ?_
  intro w11 M11
  refine hK7 _ _ (zT fun _ hK12=>zB 5 [(6,.bool false),(28,.func (.func 123) #[] #[(zO bx)]),(30,zI (p:Int)),(32,(zO g))] [] dnil [] F10 fun _ F13=>?_)
  refine zc (w':=w11) rfl rfl F13 rfl (zP g (3*p)) (y_ixC3 (N:=18) 76 (by kernel_rfl) (by kernel_rfl) (by kernel_rfl) rfl (F13 32 rfl) (F13 30 rfl) rfl hp) fun _ F14=>?_
  refine wl_callV rfl rfl F14 rfl rfl (F14 28 rfl) (zE Tryz.func123 rfl) #[(zP g (3*p)),(zO bx)] (show _++_=_ from by rw [(zaa (F14 33 rfl))];rfl) (lay_any g c false (IntKind.i64.wrap (lf-1)) dd s n p bx hp u hu l hne w11 (M11.roB (k:=1) rfl) (M11.blk (k:=0) rfl)) ?_
  rintro _ w15 a15 ⟨hc15,hg15⟩ F15
  have M15:=M11.put (k:=0) rfl hg15 hc15
  clear M11 hg15 hc15
  refine hK12 _ _ (zT fun _ hK16=>?_)
  exact rm rfl F15 fun _ F17=>hK16 _ _ (wp_ret (bodyPost_ret (res1 rfl (F17.get rfl)) F17.defers ⟨_,rfl,rfl,(by rw [if_neg (by simp)];exact M15.blk (k:=0) rfl),M15.grown⟩))
 ·refine zAx 4 [(12,(zO g)),(13,(zO g)),(14,(zP g 55)),(15,zI lf)] [0] (zu (M.blk (k:=0) rfl) dnil) [g] F5 fun _ F18=>?_
  by_cases h19:lf=0
  ·refine zc (w':=w) (zd rfl rfl rfl (F18 11 rfl)) rfl F18 rfl (.bool true) (zza _ _ _ _ rfl (F18 15 rfl) rfl Tryz.underlying3 (zmb h19)) fun _ F20=>?_
   refine zc (w':=w) rfl rfl F20 rfl (.bool true) (zpb rfl (F20 11 rfl) (F20 16 rfl)) fun _ F21=>?_
   refine hK4 _ _ (wp_cond_true (F21 17 rfl) (zT fun _ hK22=>zAx 3 [(18,(zO g)),(19,(zO g)),(20,(zP g 56))] [] dnil [] F21 fun _ F23=>?_))
   refine zt rfl rfl F23 M (k:=0) rfl _ _ _ rfl (F23 20 rfl) rfl (#[.bool true]) (vltA ⟨c,true,lf,true⟩ s n) rfl (zL rfl) (by simp [Value.oneCell']) (by kernel_rfl) (by kernel_rfl) ?_
   intro w24 M24
   refine hK22 _ _ (zT fun _ hK25=>rm rfl F23 fun _ F26=>hK25 _ _ (wp_ret ?_))
   try simp only [Exit.then,Exit.inBlock,Exit.jump]
   exact bodyPost_ret (res1 rfl (F26.get rfl)) F26.defers ⟨_,rfl,(by rw [decide_eq_true h19];rfl),(by rw [if_pos (by simp [h19])];exact M24.blk (k:=0) rfl),M24.grown⟩
  ·refine zc (w':=w) (zd rfl rfl rfl (F18 11 rfl)) rfl F18 rfl (.bool false) (zza _ _ _ _ rfl (F18 15 rfl) rfl Tryz.underlying3 (zib h19)) fun _ F27=>?_
   refine zc (w':=w) rfl rfl F27 rfl (.bool false) (zpb rfl (F27 11 rfl) (F27 16 rfl)) fun _ F28=>?_
   refine hK4 _ _ (wp_cond_false (F28 17 rfl) (wp_skip (hK3 _ _ (zT fun _ hK29=>zAx 4 [(21,(zO g)),(22,(zO g)),(23,(zP g 55)),(24,zI lf)] [0] (zu (M.blk (k:=0) rfl) dnil) [g] F28 fun _ F30=>?_))))
   refine zc (w':=w) rfl rfl F30 rfl (zI (IntKind.i64.wrap (lf-1))) (y_subW _ _ rfl (F30 24 rfl) rfl) fun _ F31=>?_
   refine zAx 2 [(26,(zO g)),(27,(zP g 55))] [] dnil [] F31 fun _ F32=>?_
   refine zt rfl rfl F32 M (k:=0) rfl _ _ _ rfl (F32 27 rfl) (F32 25 rfl) (#[zI (IntKind.i64.wrap (lf-1))]) (vltA ⟨c,true,(IntKind.i64.wrap (lf-1)),dd⟩ s n) rfl (zL rfl) (zdc _ _) (by kernel_rfl) (by kernel_rfl) ?_
   intro w33 M33
   refine hK29 _ _ (zT fun _ hK34=>zB 5 [(6,.bool false),(28,.func (.func 123) #[] #[(zO bx)]),(30,zI (p:Int)),(32,(zO g))] [] dnil [] F32 fun _ F35=>?_)
   refine zc (w':=w33) rfl rfl F35 rfl (zP g (3*p)) (y_ixC3 (N:=18) 76 (by kernel_rfl) (by kernel_rfl) (by kernel_rfl) rfl (F35 32 rfl) (F35 30 rfl) rfl hp) fun _ F36=>?_
   refine wl_callV rfl rfl F36 rfl rfl (F36 28 rfl) (zE Tryz.func123 rfl) #[(zP g (3*p)),(zO bx)] (show _++_=_ from by rw [(zaa (F36 33 rfl))];rfl) (lay_any g c true (IntKind.i64.wrap (lf-1)) dd s n p bx hp u hu l hne w33 (M33.roB (k:=1) rfl) (M33.blk (k:=0) rfl)) ?_
   rintro _ w37 a37 ⟨hc37,hg37⟩ F37
   have M37:=M33.put (k:=0) rfl hg37 hc37
   clear M33 hg37 hc37
   refine hK34 _ _ (zT fun _ hK38=>?_)
   exact rm rfl F37 fun _ F39=>hK38 _ _ (wp_ret (bodyPost_ret (res1 rfl (F39.get rfl)) F39.defers ⟨_,rfl,(by rw [decide_eq_false h19];rfl),(by rw [if_neg (by simp [h19])];exact M37.blk (k:=0) rfl),M37.grown⟩))
theorem step_keep (g:Nat) (c:Nat→CelN) (fl:Bool) (lf:Int) (dd:Bool) (s n:Nat→Value) (p:Nat) (hp:p<18) (hu:∃ A m k,n p=.slice A m k) (x:List UInt8) (w:World) (hg:w.heap[g]? = some (.cells (vltA ⟨c,fl,lf,dd⟩ s n) 80 (0,0))):
  Calls Tryz.prog 125 #[(zO g),zI (p:Int),.func (.func 124) #[] #[]] w fun e w'=>∃ t,e=.returned t∧t=.bool (!(fl&&decide (lf=0)))∧w'.heap[g]? = some (.cells (if (fl&&decide (lf=0))=true then vltA ⟨c,fl,lf,true⟩ s n else vltA ⟨putC c p ⟨x,[],false⟩,fl,IntKind.i64.wrap (lf-1),dd⟩ (putN s p (n p)) (putN n p (zN))) 80 (0,0))∧w.grownBy w' (some g):=by
 refine zk (args:=[(zO g),zI (p:Int),.func (.func 124) #[] #[]]) 35 Tryz.func125 rfl rfl rfl ?_
 intro fa F
 have M:=Mx.theG hg 0
 refine zT fun _ hK1=>rm rfl F fun _ F2=>hK1 _ _ (zSk fun _ hK3=>zT fun _ hK4=>zB 5 [(0,(zO g)),(1,zI (p:Int)),(2,.func (.func 124) #[] #[]),(6,.bool false),(11,.bool fl)] [0] (zu (M.blk (k:=0) rfl) dnil) [g] F2 fun _ F5=>?_)
 cases fl
 ·refine zAx 6 [(12,undef),(13,undef),(14,undef),(15,undef),(16,undef),(17,.bool false)] [] dnil [] F5 fun _ F6=>?_
  refine hK4 _ _ (wp_cond_false (F6 17 rfl) (wp_skip (hK3 _ _ (zT fun _ hK7=>zAx 4 [(21,(zO g)),(22,(zO g)),(23,(zP g 55)),(24,zI lf)] [0] (zu (M.blk (k:=0) rfl) dnil) [g] F6 fun _ F8=>?_))))
  refine zc (w':=w) rfl rfl F8 rfl (zI (IntKind.i64.wrap (lf-1))) (y_subW _ _ rfl (F8 24 rfl) rfl) fun _ F9=>?_
  refine zAx 2 [(26,(zO g)),(27,(zP g 55))] [] dnil [] F9 fun _ F10=>?_
  refine zt rfl rfl F10 M (k:=0) rfl _ _ _ rfl (F10 27 rfl) (F10 25 rfl) (#[zI (IntKind.i64.wrap (lf-1))]) (vltA ⟨c,false,(IntKind.i64.wrap (lf-1)),dd⟩ s n) rfl (zL rfl) (zdc _ _) (by kernel_rfl) (by kernel_rfl) ?_
  intro w11 M11
  refine hK7 _ _ (zT fun _ hK12=>zB 5 [(6,.bool false),(28,.func (.func 124) #[] #[]),(30,zI (p:Int)),(32,(zO g))] [] dnil [] F10 fun _ F13=>?_)
  refine zc (w':=w11) rfl rfl F13 rfl (zP g (3*p)) (y_ixC3 (N:=18) 76 (by kernel_rfl) (by kernel_rfl) (by kernel_rfl) rfl (F13 32 rfl) (F13 30 rfl) rfl hp) fun _ F14=>?_
  refine wl_callV rfl rfl F14 rfl rfl (F14 28 rfl) (zE Tryz.func124 rfl) #[(zP g (3*p))] (show _++_=_ from by rw [(zaa (F14 33 rfl))];rfl) (keep_any g c false (IntKind.i64.wrap (lf-1)) dd s n p hp hu x w11 (M11.blk (k:=0) rfl)) ?_
  rintro _ w15 a15 ⟨hc15,hg15⟩ F15
  have M15:=M11.put (k:=0) rfl hg15 hc15
  clear M11 hg15 hc15
  refine hK12 _ _ (zT fun _ hK16=>?_)
  exact rm rfl F15 fun _ F17=>hK16 _ _ (wp_ret (bodyPost_ret (res1 rfl (F17.get rfl)) F17.defers ⟨_,rfl,rfl,(by rw [if_neg (by simp)];exact M15.blk (k:=0) rfl),M15.grown⟩))
 ·refine zB 4 [(0,(zO g)),(1,zI (p:Int)),(2,.func (.func 124) #[] #[]),(6,.bool false),(11,.bool true),(15,zI lf)] [0] (zu (M.blk (k:=0) rfl) dnil) [g] F5 fun _ F18=>?_
  by_cases h19:lf=0
  ·refine zc (w':=w) (zd rfl rfl rfl (F18 11 rfl)) rfl F18 rfl (.bool true) (zza _ _ _ _ rfl (F18 15 rfl) rfl Tryz.underlying3 (zmb h19)) fun _ F20=>?_
   refine zc (w':=w) rfl rfl F20 rfl (.bool true) (zpb rfl (F20 11 rfl) (F20 16 rfl)) fun _ F21=>?_
   refine hK4 _ _ (wp_cond_true (F21 17 rfl) (zT fun _ hK22=>zAx 3 [(18,(zO g)),(19,(zO g)),(20,(zP g 56))] [] dnil [] F21 fun _ F23=>?_))
   refine zt rfl rfl F23 M (k:=0) rfl _ _ _ rfl (F23 20 rfl) rfl (#[.bool true]) (vltA ⟨c,true,lf,true⟩ s n) rfl (zL rfl) (by simp [Value.oneCell']) (by kernel_rfl) (by kernel_rfl) ?_
   intro w24 M24
   refine hK22 _ _ (zT fun _ hK25=>rm rfl F23 fun _ F26=>hK25 _ _ (wp_ret ?_))
   try simp only [Exit.then,Exit.inBlock,Exit.jump]
   exact bodyPost_ret (res1 rfl (F26.get rfl)) F26.defers ⟨_,rfl,(by rw [decide_eq_true h19];rfl),(by rw [if_pos (by simp [h19])];exact M24.blk (k:=0) rfl),M24.grown⟩
  ·refine zc (w':=w) (zd rfl rfl rfl (F18 11 rfl)) rfl F18 rfl (.bool false) (zza _ _ _ _ rfl (F18 15 rfl) rfl Tryz.underlying3 (zib h19)) fun _ F27=>?_
   refine zc (w':=w) rfl rfl F27 rfl (.bool false) (zpb rfl (F27 11 rfl) (F27 16 rfl)) fun _ F28=>?_
   refine hK4 _ _ (wp_cond_false (F28 17 rfl) (wp_skip (hK3 _ _ (zT fun _ hK29=>zAx 4 [(21,(zO g)),(22,(zO g)),(23,(zP g 55)),(24,zI lf)] [0] (zu (M.blk (k:=0) rfl) dnil) [g] F28 fun _ F30=>?_))))
   refine zc (w':=w) rfl rfl F30 rfl (zI (IntKind.i64.wrap (lf-1))) (y_subW _ _ rfl (F30 24 rfl) rfl) fun _ F31=>?_
   refine zAx 2 [(26,(zO g)),(27,(zP g 55))] [] dnil [] F31 fun _ F32=>?_
   refine zt rfl rfl F32 M (k:=0) rfl _ _ _ rfl (F32 27 rfl) (F32 25 rfl) (#[zI (IntKind.i64.wrap (lf-1))]) (vltA ⟨c,true,(IntKind.i64.wrap (lf-1)),dd⟩ s n) rfl (zL rfl) (zdc _ _) (by kernel_rfl) (by kernel_rfl) ?_
   intro w33 M33
   refine hK29 _ _ (zT fun _ hK34=>zB 5 [(6,.bool false),(28,.func (.func 124) #[] #[]),(30,zI (p:Int)),(32,(zO g))] [] dnil [] F32 fun _ F35=>?_)
   refine zc (w':=w33) rfl rfl F35 rfl (zP g (3*p)) (y_ixC3 (N:=18) 76 (by kernel_rfl) (by kernel_rfl) (by kernel_rfl) rfl (F35 32 rfl) (F35 30 rfl) rfl hp) fun _ F36=>?_
   refine wl_callV rfl rfl F36 rfl rfl (F36 28 rfl) (zE Tryz.func124 rfl) #[(zP g (3*p))] (show _++_=_ from by rw [(zaa (F36 33 rfl))];rfl) (keep_any g c true (IntKind.i64.wrap (lf-1)) dd s n p hp hu x w33 (M33.blk (k:=0) rfl)) ?_
   rintro _ w37 a37 ⟨hc37,hg37⟩ F37
   have M37:=M33.put (k:=0) rfl hg37 hc37
   clear M33 hg37 hc37
   refine hK34 _ _ (zT fun _ hK38=>?_)
   exact rm rfl F37 fun _ F39=>hK38 _ _ (wp_ret (bodyPost_ret (res1 rfl (F39.get rfl)) F39.defers ⟨_,rfl,(by rw [decide_eq_false h19];rfl),(by rw [if_neg (by simp [h19])];exact M37.blk (k:=0) rfl),M37.grown⟩))
theorem putN_at (s:Nat→Value) (p:Nat) (v:Value):putN s p v p=v:=if_pos rfl
theorem step_lay_t (g:Nat) (c:Nat→CelN) (fl:Bool) (lf:Int) (dd:Bool) (s n:Nat→Value) (p bx:Nat) (hp:p<18) (u:Value) (hu:∃ A m k,u=.slice A m k) (l:List UInt8) (hne:¬bx=g) (hf:(fl&&decide (lf=0))=true) (w:World) (hbx:w.heap[bx]? = some (.cells #[u] 23 (0,0))) (hg:w.heap[g]? = some (.cells (vltA ⟨c,fl,lf,dd⟩ s n) 80 (0,0))):
  Calls Tryz.prog 125 #[(zO g),zI (p:Int),.func (.func 123) #[] #[(zO bx)]] w fun e w'=>∃ t,e=.returned t∧t=.bool false∧w'.heap[g]? = some (.cells (vltA ⟨c,fl,lf,true⟩ s n) 80 (0,0))∧w.grownBy w' (some g):=
 (step_lay g c fl lf dd s n p bx hp u hu l hne w hbx hg).mono fun e w' ⟨t,h1,h2,h3,h4⟩=>⟨t,h1,(by simp only [hf,Bool.not_true,Bool.not_false] at h2;exact h2),(by simp only [hf,if_true,Bool.false_eq_true,if_false] at h3;exact h3),h4⟩
theorem step_lay_f (g:Nat) (c:Nat→CelN) (fl:Bool) (lf:Int) (dd:Bool) (s n:Nat→Value) (p bx:Nat) (hp:p<18) (u:Value) (hu:∃ A m k,u=.slice A m k) (l:List UInt8) (hne:¬bx=g) (hf:(fl&&decide (lf=0))=false) (w:World) (hbx:w.heap[bx]? = some (.cells #[u] 23 (0,0))) (hg:w.heap[g]? = some (.cells (vltA ⟨c,fl,lf,dd⟩ s n) 80 (0,0))):
  Calls Tryz.prog 125 #[(zO g),zI (p:Int),.func (.func 123) #[] #[(zO bx)]] w fun e w'=>∃ t,e=.returned t∧t=.bool true∧w'.heap[g]? = some (.cells (vltA ⟨putC c p ⟨(c p).s,l,true⟩,fl,IntKind.i64.wrap (lf-1),dd⟩ s (putN n p u)) 80 (0,0))∧w.grownBy w' (some g):=
 (step_lay g c fl lf dd s n p bx hp u hu l hne w hbx hg).mono fun e w' ⟨t,h1,h2,h3,h4⟩=>⟨t,h1,(by simp only [hf,Bool.not_true,Bool.not_false] at h2;exact h2),(by simp only [hf,if_true,Bool.false_eq_true,if_false] at h3;exact h3),h4⟩
theorem step_keep_t (g:Nat) (c:Nat→CelN) (fl:Bool) (lf:Int) (dd:Bool) (s n:Nat→Value) (p:Nat) (hp:p<18) (hu:∃ A m k,n p=.slice A m k) (x:List UInt8) (hf:(fl&&decide (lf=0))=true) (w:World) (hg:w.heap[g]? = some (.cells (vltA ⟨c,fl,lf,dd⟩ s n) 80 (0,0))):
  Calls Tryz.prog 125 #[(zO g),zI (p:Int),.func (.func 124) #[] #[]] w fun e w'=>∃ t,e=.returned t∧t=.bool false∧w'.heap[g]? = some (.cells (vltA ⟨c,fl,lf,true⟩ s n) 80 (0,0))∧w.grownBy w' (some g):=
 (step_keep g c fl lf dd s n p hp hu x w hg).mono fun e w' ⟨t,h1,h2,h3,h4⟩=>⟨t,h1,(by simp only [hf,Bool.not_true,Bool.not_false] at h2;exact h2),(by simp only [hf,if_true,Bool.false_eq_true,if_false] at h3;exact h3),h4⟩
theorem step_keep_f (g:Nat) (c:Nat→CelN) (fl:Bool) (lf:Int) (dd:Bool) (s n:Nat→Value) (p:Nat) (hp:p<18) (hu:∃ A m k,n p=.slice A m k) (x:List UInt8) (hf:(fl&&decide (lf=0))=false) (w:World) (hg:w.heap[g]? = some (.cells (vltA ⟨c,fl,lf,dd⟩ s n) 80 (0,0))):
  Calls Tryz.prog 125 #[(zO g),zI (p:Int),.func (.func 124) #[] #[]] w fun e w'=>∃ t,e=.returned t∧t=.bool true∧w'.heap[g]? = some (.cells (vltA ⟨putC c p ⟨x,[],false⟩,fl,IntKind.i64.wrap (lf-1),dd⟩ (putN s p (n p)) (putN n p (zN))) 80 (0,0))∧w.grownBy w' (some g):=
 (step_keep g c fl lf dd s n p hp hu x w hg).mono fun e w' ⟨t,h1,h2,h3,h4⟩=>⟨t,h1,(by simp only [hf,Bool.not_true,Bool.not_false] at h2;exact h2),(by simp only [hf,if_true,Bool.false_eq_true,if_false] at h3;exact h3),h4⟩
theorem dwrite_1 (g:Nat) (c:Nat→CelN) (fl:Bool) (lf:Int) (dd:Bool) (s n:Nat→Value) (p:Nat) (hp:p<18) (u:Value) (hu:∃ A m k,u=.slice A m k) (l:List UInt8) (hf1:(fl&&decide (lf=0))=true) (w:World) (hg:w.heap[g]? = some (.cells (vltA ⟨c,fl,lf,dd⟩ s n) 80 (0,0))):
  Calls Tryz.prog 98 #[(zO g),zI (p:Int),u] w fun e w'=>∃ t,e=.returned t∧t=.bool false∧w'.heap[g]? = some (.cells (vltA ⟨c,fl,lf,true⟩ s n) 80 (0,0))∧w.grownBy w' (some g):=by
 obtain ⟨Au,mu,ku,rfl⟩:=hu
 refine zk (args:=[(zO g),zI (p:Int),(.slice Au mu ku)]) 20 Tryz.func98 rfl rfl rfl ?_
 intro fa F
 have M:=Mx.theG hg 0
 refine zT fun _ hK1=>zq rfl rfl F rfl M 1 (t:=23) (c:=#[(.slice Au mu ku)]) (by unfold execOp;simp only [(F 2 rfl)];kernel_rfl) ?_
 intro g2 a2 w2 F2 M2
 refine rm rfl F2 fun _ F3=>hK1 _ _ (zT fun _ hK4=>zc (w':=w2) rfl rfl F3 rfl (.func (.func 123) #[] #[(zO g2)]) (by unfold execOp;simp only [List.map_toArray,List.map_cons,List.map_nil,(F3 5 rfl)];kernel_rfl) fun _ F5=>?_)
 refine rm rfl F5 fun _ F6=>hK4 _ _ (zT fun _ hK7=>zc (w':=w2) rfl rfl F6 rfl (.func (.func 124) #[] #[]) (zla _ (.inr rfl) rfl) fun _ F8=>?_)
 refine hK7 _ _ (zT fun _ hK9=>rm rfl F8 fun _ F10=>rm rfl F10 fun _ F11=>rm rfl F11 fun _ F12=>zh rfl rfl F12 rfl rfl (zE Tryz.func125 rfl) #[(zO g),zI (p:Int),.func (.func 123) #[] #[(zO g2)]] (args3 (F12 10 rfl) (F12 11 rfl) (F12 12 rfl)) (step_lay_t g c fl lf dd s n p g2 hp (.slice Au mu ku) ⟨Au,mu,ku,rfl⟩ l (fun e=>M2.dis 0 1 _ _ rfl rfl (by decide) rfl g rfl e.symm) hf1 w2 (M2.blk (k:=1) rfl) (M2.blk (k:=0) rfl)) ?_)
 rintro _ w13 a13 ⟨rfl,hc13,hg13⟩ F13
 have M13:=M2.put (k:=0) rfl hg13 hc13
 clear M2 hg13 hc13
 refine zB 7 [(6,.bool false)] [] dnil [] F13 fun _ F14=>?_
 exact hK9 _ _ (wp_ret (bodyPost_ret (res1 rfl (F14.get rfl)) F14.defers ⟨_,rfl,rfl,M13.blk (k:=0) rfl,M13.grown⟩))
theorem dwrite_2 (g:Nat) (c:Nat→CelN) (fl:Bool) (lf:Int) (dd:Bool) (s n:Nat→Value) (p:Nat) (hp:p<18) (u:Value) (hu:∃ A m k,u=.slice A m k) (l:List UInt8) (hf1:(fl&&decide (lf=0))=false) (hf2:(fl&&decide ((IntKind.i64.wrap (lf-1))=0))=true) (w:World) (hg:w.heap[g]? = some (.cells (vltA ⟨c,fl,lf,dd⟩ s n) 80 (0,0))):
  Calls Tryz.prog 98 #[(zO g),zI (p:Int),u] w fun e w'=>∃ t,e=.returned t∧t=.bool false∧w'.heap[g]? = some (.cells (vltA ⟨(putC c p ⟨(c p).s,l,true⟩),fl,(IntKind.i64.wrap (lf-1)),true⟩ s (putN n p u)) 80 (0,0))∧w.grownBy w' (some g):=by
 obtain ⟨Au,mu,ku,rfl⟩:=hu
 refine zk (args:=[(zO g),zI (p:Int),(.slice Au mu ku)]) 20 Tryz.func98 rfl rfl rfl ?_
 intro fa F
 have M:=Mx.theG hg 0
 refine zT fun _ hK1=>zq rfl rfl F rfl M 1 (t:=23) (c:=#[(.slice Au mu ku)]) (by unfold execOp;simp only [(F 2 rfl)];kernel_rfl) ?_
 intro g2 a2 w2 F2 M2
 refine rm rfl F2 fun _ F3=>hK1 _ _ (zT fun _ hK4=>zc (w':=w2) rfl rfl F3 rfl (.func (.func 123) #[] #[(zO g2)]) (by unfold execOp;simp only [List.map_toArray,List.map_cons,List.map_nil,(F3 5 rfl)];kernel_rfl) fun _ F5=>?_)
 refine rm rfl F5 fun _ F6=>hK4 _ _ (zT fun _ hK7=>zc (w':=w2) rfl rfl F6 rfl (.func (.func 124) #[] #[]) (zla _ (.inr rfl) rfl) fun _ F8=>?_)
 refine hK7 _ _ (zT fun _ hK9=>rm rfl F8 fun _ F10=>rm rfl F10 fun _ F11=>rm rfl F11 fun _ F12=>zh rfl rfl F12 rfl rfl (zE Tryz.func125 rfl) #[(zO g),zI (p:Int),.func (.func 123) #[] #[(zO g2)]] (args3 (F12 10 rfl) (F12 11 rfl) (F12 12 rfl)) (step_lay_f g c fl lf dd s n p g2 hp (.slice Au mu ku) ⟨Au,mu,ku,rfl⟩ l (fun e=>M2.dis 0 1 _ _ rfl rfl (by decide) rfl g rfl e.symm) hf1 w2 (M2.blk (k:=1) rfl) (M2.blk (k:=0) rfl)) ?_)
 rintro _ w13 a13 ⟨rfl,hc13,hg13⟩ F13
 have M13:=M2.put (k:=0) rfl hg13 hc13
 clear M2 hg13 hc13
 refine rm rfl F13 fun _ F14=>rm rfl F14 fun _ F15=>rm rfl F15 fun _ F16=>rm rfl F16 fun _ F17=>zh (zd rfl rfl rfl (F17 14 rfl)) rfl F17 rfl rfl (zE Tryz.func125 rfl) #[(zO g),zI (p:Int),.func (.func 124) #[] #[]] (args3 (F17 15 rfl) (F17 16 rfl) (F17 17 rfl)) (step_keep_t g (putC c p ⟨(c p).s,l,true⟩) fl (IntKind.i64.wrap (lf-1)) dd s (putN n p (.slice Au mu ku)) p hp (by rw [putN_at];exact ⟨Au,mu,ku,rfl⟩) l hf2 w13 (M13.blk (k:=0) rfl)) ?_
 rintro _ w18 a18 ⟨rfl,hc18,hg18⟩ F18
 have M18:=M13.put (k:=0) rfl hg18 hc18
 clear M13 hg18 hc18
 refine zB 2 [(6,.bool false)] [] dnil [] F18 fun _ F19=>?_
 exact hK9 _ _ (wp_ret (bodyPost_ret (res1 rfl (F19.get rfl)) F19.defers ⟨_,rfl,rfl,M18.blk (k:=0) rfl,M18.grown⟩))
theorem dwrite_3 (g:Nat) (c:Nat→CelN) (fl:Bool) (lf:Int) (dd:Bool) (s n:Nat→Value) (p:Nat) (hp:p<18) (u:Value) (hu:∃ A m k,u=.slice A m k) (l:List UInt8) (hf1:(fl&&decide (lf=0))=false) (hf2:(fl&&decide ((IntKind.i64.wrap (lf-1))=0))=false) (w:World) (hg:w.heap[g]? = some (.cells (vltA ⟨c,fl,lf,dd⟩ s n) 80 (0,0))):
  Calls Tryz.prog 98 #[(zO g),zI (p:Int),u] w fun e w'=>∃ t,e=.returned t∧t=.bool true∧w'.heap[g]? = some (.cells (vltA ⟨putC (putC c p ⟨(c p).s,l,true⟩) p ⟨l,[],false⟩,fl,IntKind.i64.wrap ((IntKind.i64.wrap (lf-1))-1),dd⟩ (putN s p ((putN n p u) p)) (putN (putN n p u) p (zN))) 80 (0,0))∧w.grownBy w' (some g):=by
 obtain ⟨Au,mu,ku,rfl⟩:=hu
 refine zk (args:=[(zO g),zI (p:Int),(.slice Au mu ku)]) 20 Tryz.func98 rfl rfl rfl ?_
 intro fa F
 have M:=Mx.theG hg 0
 refine zT fun _ hK1=>zq rfl rfl F rfl M 1 (t:=23) (c:=#[(.slice Au mu ku)]) (by unfold execOp;simp only [(F 2 rfl)];kernel_rfl) ?_
 intro g2 a2 w2 F2 M2
 refine rm rfl F2 fun _ F3=>hK1 _ _ (zT fun _ hK4=>zc (w':=w2) rfl rfl F3 rfl (.func (.func 123) #[] #[(zO g2)]) (by unfold execOp;simp only [List.map_toArray,List.map_cons,List.map_nil,(F3 5 rfl)];kernel_rfl) fun _ F5=>?_)
 refine rm rfl F5 fun _ F6=>hK4 _ _ (zT fun _ hK7=>zc (w':=w2) rfl rfl F6 rfl (.func (.func 124) #[] #[]) (zla _ (.inr rfl) rfl) fun _ F8=>?_)
 refine hK7 _ _ (zT fun _ hK9=>rm rfl F8 fun _ F10=>rm rfl F10 fun _ F11=>rm rfl F11 fun _ F12=>zh rfl rfl F12 rfl rfl (zE Tryz.func125 rfl) #[(zO g),zI (p:Int),.func (.func 123) #[] #[(zO g2)]] (args3 (F12 10 rfl) (F12 11 rfl) (F12 12 rfl)) (step_lay_f g c fl lf dd s n p g2 hp (.slice Au mu ku) ⟨Au,mu,ku,rfl⟩ l (fun e=>M2.dis 0 1 _ _ rfl rfl (by decide) rfl g rfl e.symm) hf1 w2 (M2.blk (k:=1) rfl) (M2.blk (k:=0) rfl)) ?_)
 rintro _ w13 a13 ⟨rfl,hc13,hg13⟩ F13
 have M13:=M2.put (k:=0) rfl hg13 hc13
 clear M2 hg13 hc13
 refine rm rfl F13 fun _ F14=>rm rfl F14 fun _ F15=>rm rfl F15 fun _ F16=>rm rfl F16 fun _ F17=>zh (zd rfl rfl rfl (F17 14 rfl)) rfl F17 rfl rfl (zE Tryz.func125 rfl) #[(zO g),zI (p:Int),.func (.func 124) #[] #[]] (args3 (F17 15 rfl) (F17 16 rfl) (F17 17 rfl)) (step_keep_f g (putC c p ⟨(c p).s,l,true⟩) fl (IntKind.i64.wrap (lf-1)) dd s (putN n p (.slice Au mu ku)) p hp (by rw [putN_at];exact ⟨Au,mu,ku,rfl⟩) l hf2 w13 (M13.blk (k:=0) rfl)) ?_
 rintro _ w18 a18 ⟨rfl,hc18,hg18⟩ F18
 have M18:=M13.put (k:=0) rfl hg18 hc18
 clear M13 hg18 hc18
 refine zB 2 [(6,.bool true)] [] dnil [] F18 fun _ F19=>?_
 exact hK9 _ _ (wp_ret (bodyPost_ret (res1 rfl (F19.get rfl)) F19.defers ⟨_,rfl,rfl,M18.blk (k:=0) rfl,M18.grown⟩))
def RowsV (w:World) (g:Nat) (c:Nat→CelN) (s n:Nat→Value):Prop:=∀ i,i<18→(IsB w (c i).s (s i)∧¬bfp (s i) g)∧(IsB w (c i).n (n i)∧¬bfp (n i) g)
def zo (N:Nat) (s n:Nat→Value) (b:Nat):Prop:=∃ i,i<N∧(bfp (s i) b∨bfp (n i) b)
theorem rowsfp_lay {s n:Nat→Value} {p:Nat} {u:Value} {b:Nat} (h:zo 18 s (putN n p u) b):zo 18 s n b∨bfp u b:=by
 obtain ⟨i,hi,hb⟩:=h
 rcases hb with hb | hb
 ·exact .inl ⟨i,hi,.inl hb⟩
 ·by_cases e:i=p
  ·subst e
   rw [show putN n i u i=u from if_pos rfl] at hb
   exact .inr hb
  ·rw [show putN n p u i=n i from if_neg e] at hb
   exact .inl ⟨i,hi,.inr hb⟩
theorem rowsfp_keep {s n:Nat→Value} {p:Nat} (hp:p<18) {b:Nat} (h:zo 18 (putN s p (n p)) (putN n p (zN)) b):zo 18 s n b:=by
 obtain ⟨i,hi,hb⟩:=h
 by_cases e:i=p
 ·subst e
  rw [show putN s i (n i) i=n i from if_pos rfl,show putN n i (zN) i=zN from if_pos rfl] at hb
  rcases hb with hb | hb
  ·exact ⟨i,hi,.inr hb⟩
  ·exact absurd hb (zpa b)
 ·rw [show putN s p (n p) i=s i from if_neg e,show putN n p (zN) i=n i from if_neg e] at hb
  exact ⟨i,hi,hb⟩
theorem RowsV.lay {w:World} {g:Nat} {c:Nat→CelN} {s n:Nat→Value} (h:RowsV w g c s n) {p:Nat} {l:List UInt8} {u:Value} (hu:IsB w l u) (hg:¬bfp u g):RowsV w g (putC c p ⟨(c p).s,l,true⟩) s (putN n p u):=fun i hi=>by
 by_cases e:i=p
 ·subst e
  rw [zec,putN_at]
  exact ⟨(h i hi).1,hu,hg⟩
 ·rw [ztc _ _ e,show putN n p u i=n i from if_neg e]
  exact h i hi
theorem RowsV.keep {w:World} {g:Nat} {c:Nat→CelN} {s n:Nat→Value} (h:RowsV w g c s n) {p:Nat} (hp:p<18):RowsV w g (putC c p ⟨(c p).n,[],false⟩) (putN s p (n p)) (putN n p (zN)):=fun i hi=>by
 by_cases e:i=p
 ·subst e
  rw [zec,putN_at,putN_at]
  exact ⟨(h i hi).2,zia _,zpa _⟩
 ·rw [ztc _ _ e,show putN s p (n p) i=s i from if_neg e,show putN n p (zN) i=n i from if_neg e]
  exact h i hi
theorem IsB.grow {w w':World} {g:Nat} {l:List UInt8} {v:Value} (h:IsB w l v) (hb:w.grownBy w' (some g)) (hg:¬bfp v g):IsB w' l v:=by
 obtain ⟨A,c,rfl,h1,h2,h3,h4⟩:=h
 refine ⟨A,c,rfl,h1,h2,h3,fun hl=>?_⟩
 obtain ⟨ad,rfl,q1,q2⟩:=h4 hl
 obtain ⟨b,o,s⟩:=ad
 have e:w'.heap[b]? = w.heap[b]?:=hb.block b q1 fun e=>by
  have e2:b=g:=Option.some.inj e
  subst e2
  exact hg ⟨o,s,_,_,rfl,hl⟩
 have hlt:b<w'.heap.size:=by
  obtain ⟨x,hx⟩:∃ x,w.heap[b]? = some x:=⟨_,Array.getElem?_eq_getElem q1⟩
  rw [hx] at e
  exact (Array.getElem?_eq_some_iff.1 e).1
 refine ⟨_,rfl,hlt,fun j x hj=>?_⟩
 have hblk:((⟨b,o,s⟩:Addr).add j).block=b:=by unfold Addr.add;split <;> rfl
 have:=q2 j x hj
 simp only [World.cell?,hblk,e] at this ⊢
 exact this
theorem RowsV.grow {w w':World} {g:Nat} {c:Nat→CelN} {s n:Nat→Value} (h:RowsV w g c s n) (hb:w.grownBy w' (some g)):RowsV w' g c s n:=fun i hi=>
 ⟨⟨(h i hi).1.1.grow hb (h i hi).1.2,(h i hi).1.2⟩,(h i hi).2.1.grow hb (h i hi).2.2,(h i hi).2.2⟩
theorem dwrite_any (g:Nat) (V:VltN) (s n:Nat→Value) (p:Nat) (hp:p<18) (u:Value) (l:List UInt8) (w:World) (hu:IsB w l u) (hug:¬bfp u g) (hr:RowsV w g V.c s n) (hg:w.heap[g]? = some (.cells (vltA V s n) 80 (0,0))):
  Calls Tryz.prog 98 #[(zO g),zI (p:Int),u] w fun e w'=>∃ t,e=.returned t∧t=.bool (wrtV V p l).2∧∃ s' n',RowsV w' g (wrtV V p l).1.c s' n'∧(∀ b,zo 18 s' n' b→zo 18 s n b∨bfp u b)∧w'.heap[g]? = some (.cells (vltA (wrtV V p l).1 s' n') 80 (0,0))∧w.grownBy w' (some g):=by
 obtain ⟨c,fl,lf,dd⟩:=V
 have hs:∃ A m k,u=.slice A m k:=hu.slc
 have h1:RowsV w g (putC c p ⟨(c p).s,l,true⟩) s (putN n p u):=RowsV.lay hr hu hug
 have h2:RowsV w g (putC (putC c p ⟨(c p).s,l,true⟩) p ⟨l,[],false⟩) (putN s p (putN n p u p)) (putN (putN n p u) p (zN)):=by
  have:=h1.keep hp
  rw [zec] at this
  exact this
 by_cases hf1:(fl&&decide (lf=0))=true
 ·have e:wrtV ⟨c,fl,lf,dd⟩ p l=(⟨c,fl,lf,true⟩,false):=by
   unfold wrtV;rw [if_pos (show zpc ⟨c,fl,lf,dd⟩=true from hf1)];rfl
  rw [e]
  exact (dwrite_1 g c fl lf dd s n p hp u hs l hf1 w hg).mono fun e w' ⟨t,k1,k2,k3,k4⟩=>⟨t,k1,k2,s,n,RowsV.grow hr k4,fun b h=>.inl h,k3,k4⟩
 ·have hf1':(fl&&decide (lf=0))=false:=by simpa using hf1
  by_cases hf2:(fl&&decide (IntKind.i64.wrap (lf-1)=0))=true
  ·have e:wrtV ⟨c,fl,lf,dd⟩ p l=(⟨putC c p ⟨(c p).s,l,true⟩,fl,IntKind.i64.wrap (lf-1),true⟩,false):=by
    unfold wrtV;rw [if_neg (show ¬zpc ⟨c,fl,lf,dd⟩=true from hf1),if_pos (show zpc (zkc ⟨c,fl,lf,dd⟩ p l)=true from hf2)];rfl
   rw [e]
   exact (dwrite_2 g c fl lf dd s n p hp u hs l hf1' hf2 w hg).mono fun e w' ⟨t,k1,k2,k3,k4⟩=>⟨t,k1,k2,s,putN n p u,RowsV.grow h1 k4,fun b h=>rowsfp_lay h,k3,k4⟩
  ·have hf2':(fl&&decide (IntKind.i64.wrap (lf-1)=0))=false:=by simpa using hf2
   have e:wrtV ⟨c,fl,lf,dd⟩ p l=(⟨putC (putC c p ⟨(c p).s,l,true⟩) p ⟨l,[],false⟩,fl,IntKind.i64.wrap (IntKind.i64.wrap (lf-1)-1),dd⟩,true):=by
    unfold wrtV;rw [if_neg (show ¬zpc ⟨c,fl,lf,dd⟩=true from hf1),if_neg (show ¬zpc (zkc ⟨c,fl,lf,dd⟩ p l)=true from hf2)]
    unfold keepV zkc
    dsimp only
    rw [zec]
   rw [e]
   exact (dwrite_3 g c fl lf dd s n p hp u hs l hf1' hf2' w hg).mono fun e w' ⟨t,k1,k2,k3,k4⟩=>⟨t,k1,k2,_,_,RowsV.grow h2 k4,fun b h=>rowsfp_lay (rowsfp_keep hp h),k3,k4⟩
end Go.Proofs.YtmjbnmbobocpdaaGreat
