/- What VaultOwn stands on, part 8. -/
import Derived.Test.YtmjbnmbobocpdaaGreatVaultOwnP1
import Derived.Test.YtmjbnmbobocpdaaGreatVaultOwnP2
import Derived.Test.YtmjbnmbobocpdaaGreatVaultOwnP3
import Derived.Test.YtmjbnmbobocpdaaGreatVaultOwnP4
import Derived.Test.YtmjbnmbobocpdaaGreatVaultOwnP6
import Derived.Test.YtmjbnmbobocpdaaGreatVaultOwnP7
set_option maxRecDepth 100000
set_option maxHeartbeats 8000000
set_option linter.unusedVariables false
set_option linter.unusedSimpArgs false
namespace Go.Proofs.YtmjbnmbobocpdaaGreat
open Go.ChangeShapes Go.WideShapes Go.ChangeAt Go.RowKit
noncomputable def keepR (r:RecN):Bool:=!decide (r.p<1) && !decide (2<r.p)&&nameB r.s && !decide (16<(r.l2.length:Int)) && !decide (48<(r.l5.length:Int))&&decide (topI r.a 8≤32)&&decide (topI r.b 8≤32) && !decide (r.t<0) && !decide (255<r.t) && !decide (r.c<0) && !decide (r.z<0)
theorem zdb (r:RecN):keepR r=zga r:=by
 have hp:protoB r.p=(!decide (r.p<1) && !decide (2<r.p)):=by
  unfold protoB
  rw [←decide_not,←decide_not,←Bool.decide_and]
  apply decide_eq_decide.2;omega
 have hn:∀ a b:Int,(!decide (a<b))=decide (b≤a):=fun a b=>by
  rw [←decide_not];apply decide_eq_decide.2;omega
 unfold keepR zga
 rw [hp]
 simp only [hn,Bool.and_assoc]
theorem recL_ref (r:RecN):recL r=(((((((((([zj r.p,zj (r.s.size:Int)]++sBy r.s)++[zj (r.l2.length:Int)])++r.l2)++[zj (r.l5.length:Int)])++r.l5)++zbb r.a)++zbb r.b)++[zj r.t])++zy r.c)++zy r.z):=by
 unfold recL cntL
 rw [←sBy_len]
 simp
theorem rrecord_any (r:RecN) (V:RecV) (ho:RecOk r) (w:World) (hm:RecIs w r V):
  Calls Tryz.prog 52 #[.agg (recA r V)] w fun e w'=>∃ v,e=.returned (.tuple #[v,.bool (zga r)])∧Byt w' w.heap.size v (recE r)∧Below w.heap.size w w':=by
 obtain ⟨bN,hN⟩:∃ b,nameB r.s=b:=⟨_,rfl⟩
 obtain ⟨bA,hA⟩:∃ b,decide (topI r.a 8≤32)=b:=⟨_,rfl⟩
 obtain ⟨bB,hB⟩:∃ b,decide (topI r.b 8≤32)=b:=⟨_,rfl⟩
 have h4a:=z8c r.a
 have h4b:=z8c r.b
 have h8c:=zja r.c
 have h8z:=zja r.z
 have hss:=sBy_len r.s
 have hos:=ho.s
 refine zk (args:=[.agg (recA r V)]) 118 Tryz.func52 rfl rfl rfl ?_
 intro fa F
 have M:=Mx.start w
 replace M:=M.argB 0 hm.h2 (fun g e=>by cases e)
 replace M:=M.argB 1 hm.h5 (fun g e=>by cases e)
 refine zT fun _ hK1=>zq rfl rfl F rfl M 2 (t:=37) (c:=recA r V) (by unfold execOp;simp only [(F 0 rfl)];kernel_rfl) ?_
 intro g2 a2 w2 F2 M2
 refine rm rfl F2 fun _ F3=>rm rfl F3 fun _ F4=>hK1 _ _ (zSk fun _ hK5=>?_)
 refine zT fun _ hK6=>zB 2 [(1,(zO g2)),(2,zN),(3,.bool false),(6,zI r.p)] [0] (zu (M2.blk (k:=2) rfl) dnil) [g2] F4 fun _ F7=>?_
 by_cases h8:r.p<1
 ·refine rn rfl rfl F7 rfl (.bool true) (zka _ _ _ _ rfl (F7.get rfl) rfl (decide_eq_true h8)) fun _ F9=>?_
  refine zB 55 [(1,(zO g2)),(2,zN),(3,.bool false),(62,.bool true)] [] dnil [] F9 fun _ F10=>?_
  refine hK6 _ _ (wp_cond_true (F10.get rfl) ?_)
  refine zT fun _ hK11=>rm rfl F10 fun _ F12=>rm rfl F12 fun _ F13=>hK11 _ _ (wp_ret ?_)
  try simp only [Exit.then,Exit.inBlock,Exit.jump]
  exact bodyPost_ret (res2 rfl (F13.get rfl) (F13.get rfl)) F13.defers ⟨zN,(by rw [(show zga r=false from by rw [←zdb];unfold keepR;simp [hN,hA,hB,h8])]),(by rw [show recE r=[] from if_neg (by rw [(show zga r=false from by rw [←zdb];unfold keepR;simp [hN,hA,hB,h8])];exact Bool.false_ne_true)];exact Byt.nil _ _),M2.below⟩
 refine rn rfl rfl F7 rfl (.bool false) (zka _ _ _ _ rfl (F7.get rfl) rfl (decide_eq_false h8)) fun _ F14=>?_
 refine zB 3 [(1,(zO g2)),(2,zN),(3,.bool false),(8,.bool false),(10,zI r.p)] [0] (zu (M2.blk (k:=2) rfl) dnil) [g2] F14 fun _ F15=>?_
 by_cases h16:2<r.p
 ·refine zc (w':=w2) (zd rfl rfl rfl (F15.get rfl)) rfl F15 rfl (.bool true) (zbc _ _ _ _ rfl (F15.get rfl) rfl (decide_eq_true h16)) fun _ F17=>?_
  refine zB 51 [(1,(zO g2)),(2,zN),(3,.bool false),(62,.bool true)] [] dnil [] F17 fun _ F18=>?_
  refine hK6 _ _ (wp_cond_true (F18.get rfl) ?_)
  refine zT fun _ hK19=>rm rfl F18 fun _ F20=>rm rfl F20 fun _ F21=>hK19 _ _ (wp_ret ?_)
  try simp only [Exit.then,Exit.inBlock,Exit.jump]
  exact bodyPost_ret (res2 rfl (F21.get rfl) (F21.get rfl)) F21.defers ⟨zN,(by rw [(show zga r=false from by rw [←zdb];unfold keepR;simp [hN,hA,hB,h8,h16])]),(by rw [show recE r=[] from if_neg (by rw [(show zga r=false from by rw [←zdb];unfold keepR;simp [hN,hA,hB,h8,h16])];exact Bool.false_ne_true)];exact Byt.nil _ _),M2.below⟩
 refine zc (w':=w2) (zd rfl rfl rfl (F15.get rfl)) rfl F15 rfl (.bool false) (zbc _ _ _ _ rfl (F15.get rfl) rfl (decide_eq_false h16)) fun _ F22=>?_
 refine zB 4 [(1,(zO g2)),(2,zN),(3,.bool false),(13,.bool false),(15,.string r.s)] [0] (zu (M2.blk (k:=2) rfl) dnil) [g2] F22 fun _ F23=>?_
 refine zh (zd rfl rfl rfl (F23.get rfl)) rfl F23 rfl rfl (zE Tryz.func78 rfl) #[.string r.s] (zaa (F23.get rfl)) (zba ((hN▸rnameB_any r.s ho.s w2))) ?_
 rintro _ w24 a24 ⟨rfl,b24⟩ F24
 have M24:=M2.step b24
 cases bN
 ·refine zB 46 [(1,(zO g2)),(2,zN),(3,.bool false),(62,.bool true)] [] dnil [] F24 fun _ F25=>?_
  refine hK6 _ _ (wp_cond_true (F25.get rfl) ?_)
  refine zT fun _ hK26=>rm rfl F25 fun _ F27=>rm rfl F27 fun _ F28=>hK26 _ _ (wp_ret ?_)
  try simp only [Exit.then,Exit.inBlock,Exit.jump]
  exact bodyPost_ret (res2 rfl (F28.get rfl) (F28.get rfl)) F28.defers ⟨zN,(by rw [(show zga r=false from by rw [←zdb];unfold keepR;simp [hN,hA,hB,h8,h16])]),(by rw [show recE r=[] from if_neg (by rw [(show zga r=false from by rw [←zdb];unfold keepR;simp [hN,hA,hB,h8,h16])];exact Bool.false_ne_true)];exact Byt.nil _ _),M24.below⟩
 refine zB 5 [(1,(zO g2)),(2,zN),(3,.bool false),(19,.bool false),(21,V.v2)] [0] (zu (M24.blk (k:=2) rfl) dnil) [g2] F24 fun _ F29=>?_
 refine zc (w':=w24) (zd rfl rfl rfl (F29.get rfl)) rfl F29 rfl (zI (r.l2.length:Int)) (z8a _ rfl (F29.get rfl) (M24.isb (k:=0) rfl) rfl) fun _ F30=>?_
 by_cases h31:16<(r.l2.length:Int)
 ·refine zc (w':=w24) (zd rfl rfl rfl (F30.get rfl)) rfl F30 rfl (.bool true) (zbc _ _ _ _ rfl (F30.get rfl) rfl (decide_eq_true h31)) fun _ F32=>?_
  refine zB 39 [(1,(zO g2)),(2,zN),(3,.bool false),(62,.bool true)] [] dnil [] F32 fun _ F33=>?_
  refine hK6 _ _ (wp_cond_true (F33.get rfl) ?_)
  refine zT fun _ hK34=>rm rfl F33 fun _ F35=>rm rfl F35 fun _ F36=>hK34 _ _ (wp_ret ?_)
  try simp only [Exit.then,Exit.inBlock,Exit.jump]
  exact bodyPost_ret (res2 rfl (F36.get rfl) (F36.get rfl)) F36.defers ⟨zN,(by rw [(show zga r=false from by rw [←zdb];unfold keepR;simp [hN,hA,hB,h8,h16,h31])]),(by rw [show recE r=[] from if_neg (by rw [(show zga r=false from by rw [←zdb];unfold keepR;simp [hN,hA,hB,h8,h16,h31])];exact Bool.false_ne_true)];exact Byt.nil _ _),M24.below⟩
 refine zc (w':=w24) (zd rfl rfl rfl (F30.get rfl)) rfl F30 rfl (.bool false) (zbc _ _ _ _ rfl (F30.get rfl) rfl (decide_eq_false h31)) fun _ F37=>?_
 refine zB 4 [(1,(zO g2)),(2,zN),(3,.bool false),(25,.bool false),(27,V.v5)] [0] (zu (M24.blk (k:=2) rfl) dnil) [g2] F37 fun _ F38=>?_
 refine zc (w':=w24) (zd rfl rfl rfl (F38.get rfl)) rfl F38 rfl (zI (r.l5.length:Int)) (z8a _ rfl (F38.get rfl) (M24.isb (k:=1) rfl) rfl) fun _ F39=>?_
 by_cases h40:48<(r.l5.length:Int)
 ·refine zc (w':=w24) (zd rfl rfl rfl (F39.get rfl)) rfl F39 rfl (.bool true) (zbc _ _ _ _ rfl (F39.get rfl) rfl (decide_eq_true h40)) fun _ F41=>?_
  refine zB 33 [(1,(zO g2)),(2,zN),(3,.bool false),(62,.bool true)] [] dnil [] F41 fun _ F42=>?_
  refine hK6 _ _ (wp_cond_true (F42.get rfl) ?_)
  refine zT fun _ hK43=>rm rfl F42 fun _ F44=>rm rfl F44 fun _ F45=>hK43 _ _ (wp_ret ?_)
  try simp only [Exit.then,Exit.inBlock,Exit.jump]
  exact bodyPost_ret (res2 rfl (F45.get rfl) (F45.get rfl)) F45.defers ⟨zN,(by rw [(show zga r=false from by rw [←zdb];unfold keepR;simp [hN,hA,hB,h8,h16,h31,h40])]),(by rw [show recE r=[] from if_neg (by rw [(show zga r=false from by rw [←zdb];unfold keepR;simp [hN,hA,hB,h8,h16,h31,h40])];exact Bool.false_ne_true)];exact Byt.nil _ _),M24.below⟩
 refine zc (w':=w24) (zd rfl rfl rfl (F39.get rfl)) rfl F39 rfl (.bool false) (zbc _ _ _ _ rfl (F39.get rfl) rfl (decide_eq_false h40)) fun _ F46=>?_
 refine zB 4 [(1,(zO g2)),(2,zN),(3,.bool false),(31,.bool false),(33,numV r.a)] [0] (zu (M24.blk (k:=2) rfl) dnil) [g2] F46 fun _ F47=>?_
 refine zh (zd rfl rfl rfl (F47.get rfl)) rfl F47 rfl rfl (zE Tryz.func79 rfl) #[numV r.a] (zaa (F47.get rfl)) (zba ((hA▸rsmallB_any r.a ho.a w24))) ?_
 rintro _ w48 a48 ⟨rfl,b48⟩ F48
 have M48:=M24.step b48
 cases bA
 ·refine zB 28 [(1,(zO g2)),(2,zN),(3,.bool false),(62,.bool true)] [] dnil [] F48 fun _ F49=>?_
  refine hK6 _ _ (wp_cond_true (F49.get rfl) ?_)
  refine zT fun _ hK50=>rm rfl F49 fun _ F51=>rm rfl F51 fun _ F52=>hK50 _ _ (wp_ret ?_)
  try simp only [Exit.then,Exit.inBlock,Exit.jump]
  exact bodyPost_ret (res2 rfl (F52.get rfl) (F52.get rfl)) F52.defers ⟨zN,(by rw [(show zga r=false from by rw [←zdb];unfold keepR;simp [hN,hA,hB,h8,h16,h31,h40])]),(by rw [show recE r=[] from if_neg (by rw [(show zga r=false from by rw [←zdb];unfold keepR;simp [hN,hA,hB,h8,h16,h31,h40])];exact Bool.false_ne_true)];exact Byt.nil _ _),M48.below⟩
 refine zB 5 [(1,(zO g2)),(2,zN),(3,.bool false),(37,.bool false),(39,numV r.b)] [0] (zu (M48.blk (k:=2) rfl) dnil) [g2] F48 fun _ F53=>?_
 refine zh (zd rfl rfl rfl (F53.get rfl)) rfl F53 rfl rfl (zE Tryz.func79 rfl) #[numV r.b] (zaa (F53.get rfl)) (zba ((hB▸rsmallB_any r.b ho.b w48))) ?_
 rintro _ w54 a54 ⟨rfl,b54⟩ F54
 have M54:=M48.step b54
 cases bB
 ·refine zB 22 [(1,(zO g2)),(2,zN),(3,.bool false),(62,.bool true)] [] dnil [] F54 fun _ F55=>?_
  refine hK6 _ _ (wp_cond_true (F55.get rfl) ?_)
  refine zT fun _ hK56=>rm rfl F55 fun _ F57=>rm rfl F57 fun _ F58=>hK56 _ _ (wp_ret ?_)
  try simp only [Exit.then,Exit.inBlock,Exit.jump]
  exact bodyPost_ret (res2 rfl (F58.get rfl) (F58.get rfl)) F58.defers ⟨zN,(by rw [(show zga r=false from by rw [←zdb];unfold keepR;simp [hN,hA,hB,h8,h16,h31,h40])]),(by rw [show recE r=[] from if_neg (by rw [(show zga r=false from by rw [←zdb];unfold keepR;simp [hN,hA,hB,h8,h16,h31,h40])];exact Bool.false_ne_true)];exact Byt.nil _ _),M54.below⟩
 refine zB 5 [(1,(zO g2)),(2,zN),(3,.bool false),(43,.bool false),(45,zI r.t)] [0] (zu (M54.blk (k:=2) rfl) dnil) [g2] F54 fun _ F59=>?_
 by_cases h60:r.t<0
 ·refine zc (w':=w54) (zd rfl rfl rfl (F59.get rfl)) rfl F59 rfl (.bool true) (zka _ _ _ _ rfl (F59.get rfl) rfl (decide_eq_true h60)) fun _ F61=>?_
  refine zB 16 [(1,(zO g2)),(2,zN),(3,.bool false),(62,.bool true)] [] dnil [] F61 fun _ F62=>?_
  refine hK6 _ _ (wp_cond_true (F62.get rfl) ?_)
  refine zT fun _ hK63=>rm rfl F62 fun _ F64=>rm rfl F64 fun _ F65=>hK63 _ _ (wp_ret ?_)
  try simp only [Exit.then,Exit.inBlock,Exit.jump]
  exact bodyPost_ret (res2 rfl (F65.get rfl) (F65.get rfl)) F65.defers ⟨zN,(by rw [(show zga r=false from by rw [←zdb];unfold keepR;simp [hN,hA,hB,h8,h16,h31,h40,h60])]),(by rw [show recE r=[] from if_neg (by rw [(show zga r=false from by rw [←zdb];unfold keepR;simp [hN,hA,hB,h8,h16,h31,h40,h60])];exact Bool.false_ne_true)];exact Byt.nil _ _),M54.below⟩
 refine zc (w':=w54) (zd rfl rfl rfl (F59.get rfl)) rfl F59 rfl (.bool false) (zka _ _ _ _ rfl (F59.get rfl) rfl (decide_eq_false h60)) fun _ F66=>?_
 refine zB 4 [(1,(zO g2)),(2,zN),(3,.bool false),(48,.bool false),(50,zI r.t)] [0] (zu (M54.blk (k:=2) rfl) dnil) [g2] F66 fun _ F67=>?_
 by_cases h68:255<r.t
 ·refine zc (w':=w54) (zd rfl rfl rfl (F67.get rfl)) rfl F67 rfl (.bool true) (zbc _ _ _ _ rfl (F67.get rfl) rfl (decide_eq_true h68)) fun _ F69=>?_
  refine zB 11 [(1,(zO g2)),(2,zN),(3,.bool false),(62,.bool true)] [] dnil [] F69 fun _ F70=>?_
  refine hK6 _ _ (wp_cond_true (F70.get rfl) ?_)
  refine zT fun _ hK71=>rm rfl F70 fun _ F72=>rm rfl F72 fun _ F73=>hK71 _ _ (wp_ret ?_)
  try simp only [Exit.then,Exit.inBlock,Exit.jump]
  exact bodyPost_ret (res2 rfl (F73.get rfl) (F73.get rfl)) F73.defers ⟨zN,(by rw [(show zga r=false from by rw [←zdb];unfold keepR;simp [hN,hA,hB,h8,h16,h31,h40,h60,h68])]),(by rw [show recE r=[] from if_neg (by rw [(show zga r=false from by rw [←zdb];unfold keepR;simp [hN,hA,hB,h8,h16,h31,h40,h60,h68])];exact Bool.false_ne_true)];exact Byt.nil _ _),M54.below⟩
 refine zc (w':=w54) (zd rfl rfl rfl (F67.get rfl)) rfl F67 rfl (.bool false) (zbc _ _ _ _ rfl (F67.get rfl) rfl (decide_eq_false h68)) fun _ F74=>?_
 refine zB 4 [(1,(zO g2)),(2,zN),(3,.bool false),(53,.bool false),(55,zI r.c)] [0] (zu (M54.blk (k:=2) rfl) dnil) [g2] F74 fun _ F75=>?_
 by_cases h76:r.c<0
 ·refine zc (w':=w54) (zd rfl rfl rfl (F75.get rfl)) rfl F75 rfl (.bool true) (zka _ _ _ _ rfl (F75.get rfl) rfl (decide_eq_true h76)) fun _ F77=>?_
  refine zB 6 [(1,(zO g2)),(2,zN),(3,.bool false),(62,.bool true)] [] dnil [] F77 fun _ F78=>?_
  refine hK6 _ _ (wp_cond_true (F78.get rfl) ?_)
  refine zT fun _ hK79=>rm rfl F78 fun _ F80=>rm rfl F80 fun _ F81=>hK79 _ _ (wp_ret ?_)
  try simp only [Exit.then,Exit.inBlock,Exit.jump]
  exact bodyPost_ret (res2 rfl (F81.get rfl) (F81.get rfl)) F81.defers ⟨zN,(by rw [(show zga r=false from by rw [←zdb];unfold keepR;simp [hN,hA,hB,h8,h16,h31,h40,h60,h68,h76])]),(by rw [show recE r=[] from if_neg (by rw [(show zga r=false from by rw [←zdb];unfold keepR;simp [hN,hA,hB,h8,h16,h31,h40,h60,h68,h76])];exact Bool.false_ne_true)];exact Byt.nil _ _),M54.below⟩
 refine zc (w':=w54) (zd rfl rfl rfl (F75.get rfl)) rfl F75 rfl (.bool false) (zka _ _ _ _ rfl (F75.get rfl) rfl (decide_eq_false h76)) fun _ F82=>?_
 refine zB 4 [(1,(zO g2)),(2,zN),(3,.bool false),(58,.bool false),(60,zI r.z)] [0] (zu (M54.blk (k:=2) rfl) dnil) [g2] F82 fun _ F83=>?_
 by_cases h84:r.z<0
 ·refine zc (w':=w54) (zd rfl rfl rfl (F83.get rfl)) rfl F83 rfl (.bool true) (zka _ _ _ _ rfl (F83.get rfl) rfl (decide_eq_true h84)) fun _ F85=>?_
  refine rn rfl rfl F85 rfl (.bool true) (z0b rfl (F85.get rfl) (F85.get rfl)) fun _ F86=>?_
  refine hK6 _ _ (wp_cond_true (F86.get rfl) ?_)
  refine zT fun _ hK87=>rm rfl F86 fun _ F88=>rm rfl F88 fun _ F89=>hK87 _ _ (wp_ret ?_)
  try simp only [Exit.then,Exit.inBlock,Exit.jump]
  exact bodyPost_ret (res2 rfl (F89.get rfl) (F89.get rfl)) F89.defers ⟨zN,(by rw [(show zga r=false from by rw [←zdb];unfold keepR;simp [hN,hA,hB,h8,h16,h31,h40,h60,h68,h76,h84])]),(by rw [show recE r=[] from if_neg (by rw [(show zga r=false from by rw [←zdb];unfold keepR;simp [hN,hA,hB,h8,h16,h31,h40,h60,h68,h76,h84])];exact Bool.false_ne_true)];exact Byt.nil _ _),M54.below⟩
 refine zc (w':=w54) (zd rfl rfl rfl (F83.get rfl)) rfl F83 rfl (.bool false) (zka _ _ _ _ rfl (F83.get rfl) rfl (decide_eq_false h84)) fun _ F90=>?_
 refine rn rfl rfl F90 rfl (.bool false) (z0b rfl (F90.get rfl) (F90.get rfl)) fun _ F91=>?_
 refine hK6 _ _ (wp_cond_false (F91.get rfl) ?_)
 refine wp_skip (hK5 _ _ (zSk fun _ hK92=>?_))
 refine zR (zB 2 [(1,(zO g2)),(2,zN),(3,.bool false),(64,zI r.p)] [0] (zu (M54.blk (k:=2) rfl) dnil) [g2] F91 fun _ F93=>?_)
 refine rn rfl rfl F93 rfl (zY (((zj r.p).toNat:Nat):Int)) (y_cvI _ _ _ rfl (F93.get rfl) Tryz.underlying3 Tryz.underlying5 (ztb _)) fun _ F94=>?_
 refine zAx 2 [(66,(zP g2 1)),(67,.string r.s)] [0] (zu (M54.blk (k:=2) rfl) dnil) [g2] F94 fun _ F95=>?_
 refine rn rfl rfl F95 rfl (zI (r.s.size:Int)) (y_lenS _ rfl (F95.get rfl) rfl) fun _ F96=>?_
 refine rn rfl rfl F96 rfl (zY (((zj (r.s.size:Int)).toNat:Nat):Int)) (y_cvI _ _ _ rfl (F96.get rfl) Tryz.underlying3 Tryz.underlying5 (ztb _)) fun _ F97=>?_
 refine zwa rfl rfl F97 rfl (zdd M54 3 [(zj r.p),(zj (r.s.size:Int))] 2 rfl (by decide) (by decide) rfl (by simp only [List.map_toArray,List.map_cons,List.map_nil,(F97 65 rfl),(F97 69 rfl)];kernel_rfl)) ?_
 intro v98 a98 w98 F98 M98
 obtain ⟨A98,c98,rfl⟩:=(M98.isO (k:=3) rfl).shape
 refine zAx 2 [(71,(zP g2 1)),(72,.string r.s)] [0] (zu (M98.blk (k:=2) rfl) dnil) [g2] F98 fun _ F99=>?_
 refine zwa rfl rfl F99 rfl (run_cvS M98 4 _ rfl (F99.get rfl) (Nat.le_trans ho.s (by omega))) ?_
 intro v100 a100 w100 F100 M100
 have fr100:=M100.frN (k:=4) rfl
 replace M100:=M100.unN (k:=4) rfl
 obtain ⟨A100,c100,rfl⟩:=(M100.isb (k:=4) rfl).shape
 refine zwa rfl rfl F100 rfl (zfb M100 (k:=3) rfl _ _ rfl (F100.get rfl) (F100.get rfl) (M100.isb (k:=4) rfl) (by simp only [List.length_append,List.length_cons,List.length_nil];omega)) ?_
 intro v101 a101 w101 F101 M101
 obtain ⟨A101,c101,rfl⟩:=(M101.isO (k:=3) rfl).shape
 refine rm rfl F101 fun _ F102=>hK92 _ _ (zSk fun _ hK103=>?_)
 refine zva F102 (SE [.inl (.slice A101 (([(zj r.p),(zj (r.s.size:Int))]++(sBy r.s))).length c101),.inl (zP g2 2),.inl (V.v2),.inl (zI (r.l2.length:Int)),.inl (zY (((zj (r.l2.length:Int)).toNat:Nat):Int)),.inr (fun _=>True),.inr (fun _=>True),.inl (zP g2 2),.inl (V.v2)]) (JM none w fun SV pV=>[(0,bytR r.l2 V.v2),(1,bytR r.l5 V.v5),(2,blkR g2 37 (recA r V)),(3,zha (SV 6) (ownR (([(zj r.p),(zj (r.s.size:Int))]++(sBy r.s))++[(zj (r.l2.length:Int))]) (pV 6)) (ownR ([(zj r.p),(zj (r.s.size:Int))]++(sBy r.s)) (.slice A101 (([(zj r.p),(zj (r.s.size:Int))]++(sBy r.s))).length c101))),(4,bytR (sBy r.s) (.slice A100 ((sBy r.s)).length c100)),(5,z5a (SV 5) (ownR [(zj (r.l2.length:Int))] (pV 5)))]) 9 rfl (by kernel_rfl) rfl ⟨trivial,trivial,trivial,trivial,trivial,trivial,trivial,trivial,trivial,trivial⟩ (fun p=>((M101.step (zsa _)).triv 5).sub ⟨rfl,rfl,rfl,rfl,rfl,rfl,trivial⟩) ⟨zcb F102,zcb F102,hopMP F102 (fun _ _ _ M=>zu (Mx.blk (k:=2) M rfl) dnil) (some g2),?_,?_,?_,?_,zcb F102,hopMP F102 (fun _ _ _ M=>zu (Mx.blk (k:=2) M rfl) dnil) (some g2),trivial⟩ ?_
 ·intro ua uw SV pV (M:Mx none w uw _) hk hn hd
  have e77:ua.eval (.tmp 77)=V.v2:=zQ1 (hd 77 (by decide))
  exact ze rfl (zI (r.l2.length:Int)) (z8a _ rfl e77 (M.isb (k:=0) rfl) rfl) rfl (M.sb)
 ·intro ua uw SV pV (M:Mx none w uw _) hk hn hd
  have e78:ua.eval (.tmp 78)=zI (r.l2.length:Int):=zQ1 (hd 78 (by decide))
  exact ze rfl (zY (((zj (r.l2.length:Int)).toNat:Nat):Int)) (y_cvI _ _ _ rfl e78 Tryz.underlying3 Tryz.underlying5 (ztb _)) rfl (M.sb)
 ·intro ua uw SV pV (M:Mx none w uw _) hk hn hd
  have e79:ua.eval (.tmp 79)=zY (((zj (r.l2.length:Int)).toNat:Nat):Int):=zQ1 (hd 79 (by decide))
  exact z4b rfl (zdd M 5 [(zj (r.l2.length:Int))] 1 rfl (by decide) (by decide) rfl (by simp only [List.map_toArray,List.map_cons,List.map_nil,e79];kernel_rfl)) fun v w2 h2=>⟨trivial,h2.sub ⟨rfl,rfl,rfl,rfl,rfl,rfl,trivial⟩⟩
 ·intro ua uw SV pV (M:Mx none w uw _) hk hn hd
  have e75:ua.eval (.tmp 75)=.slice A101 (([(zj r.p),(zj (r.s.size:Int))]++(sBy r.s))).length c101:=zQ1 (hd 75 (by decide))
  obtain ⟨s5,f80,q80⟩:=(show SV 5=true∧ua.eval (.tmp 80)=pV 5∧stE _ 5 (pV 5) from hd 80 (by decide))
  have e80:ua.eval (.tmp 80)=(pV 5):=f80
  exact z4b rfl (zfb M (k:=3) (zea hk rfl) _ _ rfl e75 e80 (M.isO (k:=5) (zya s5 rfl)) (by simp only [List.length_append,List.length_cons,List.length_nil];omega)) fun v w2 h2=>⟨trivial,h2.sub ⟨rfl,rfl,rfl,rfl,rfl,rfl,trivial⟩⟩
 intro p104 a104 w104 M104 G104 y104
 obtain ⟨-,-,-,-,-,-,q6,-,q8,-⟩:=y104
 have r8:p104 8=V.v2:=q8
 replace M104:Mx _ _ w104 [(0,bytR r.l2 V.v2),(1,bytR r.l5 V.v5),(2,blkR g2 37 (recA r V)),(3,zha true (ownR (([(zj r.p),(zj (r.s.size:Int))]++(sBy r.s))++[(zj (r.l2.length:Int))]) (p104 6)) (ownR ([(zj r.p),(zj (r.s.size:Int))]++(sBy r.s)) (.slice A101 (([(zj r.p),(zj (r.s.size:Int))]++(sBy r.s))).length c101))),(4,bytR (sBy r.s) (.slice A100 ((sBy r.s)).length c100)),(5,z5a true (ownR [(zj (r.l2.length:Int))] (p104 5)))]:=M104
 simp only [List.take,layV,Nat.zero_add,Nat.reduceAdd,r8] at G104
 obtain ⟨Ap104_5,cp104_5,hp104_5⟩:=(M104.isO (k:=5) rfl).shape
 rw [hp104_5] at M104
 try rw [hp104_5] at G104
 refine zwa rfl rfl G104 rfl (zfb M104 (k:=3) rfl _ _ rfl (G104.get rfl) (G104.get rfl) (M104.isb (k:=0) rfl) (by simp only [List.length_append,List.length_cons,List.length_nil];omega)) ?_
 intro v105 a105 w105 F105 M105
 clear G104 M104
 obtain ⟨A105,c105,rfl⟩:=(M105.isO (k:=3) rfl).shape
 refine rm rfl F105 fun _ F106=>hK103 _ _ (zSk fun _ hK107=>?_)
 refine zva F106 (SE [.inl (.slice A105 (((([(zj r.p),(zj (r.s.size:Int))]++(sBy r.s))++[(zj (r.l2.length:Int))])++r.l2)).length c105),.inl (zP g2 19),.inl (V.v5),.inl (zI (r.l5.length:Int)),.inl (zY (((zj (r.l5.length:Int)).toNat:Nat):Int)),.inr (fun _=>True),.inr (fun _=>True),.inl (zP g2 19),.inl (V.v5)]) (JM none w fun SV pV=>[(0,bytR r.l2 V.v2),(1,bytR r.l5 V.v5),(2,blkR g2 37 (recA r V)),(3,zha (SV 6) (ownR (((([(zj r.p),(zj (r.s.size:Int))]++(sBy r.s))++[(zj (r.l2.length:Int))])++r.l2)++[(zj (r.l5.length:Int))]) (pV 6)) (ownR ((([(zj r.p),(zj (r.s.size:Int))]++(sBy r.s))++[(zj (r.l2.length:Int))])++r.l2) (.slice A105 (((([(zj r.p),(zj (r.s.size:Int))]++(sBy r.s))++[(zj (r.l2.length:Int))])++r.l2)).length c105))),(4,bytR (sBy r.s) (.slice A100 ((sBy r.s)).length c100)),(5,ownR [(zj (r.l2.length:Int))] (.slice Ap104_5 ([(zj (r.l2.length:Int))]).length cp104_5)),(6,z5a (SV 5) (ownR [(zj (r.l5.length:Int))] (pV 5)))]) 9 rfl (by kernel_rfl) rfl ⟨trivial,trivial,trivial,trivial,trivial,trivial,trivial,trivial,trivial,trivial⟩ (fun p=>((M105.step (zsa _)).triv 6).sub ⟨rfl,rfl,rfl,rfl,rfl,rfl,rfl,trivial⟩) ⟨zcb F106,zcb F106,hopMP F106 (fun _ _ _ M=>zu (Mx.blk (k:=2) M rfl) dnil) (some g2),?_,?_,?_,?_,zcb F106,hopMP F106 (fun _ _ _ M=>zu (Mx.blk (k:=2) M rfl) dnil) (some g2),trivial⟩ ?_
 ·intro ua uw SV pV (M:Mx none w uw _) hk hn hd
  have e87:ua.eval (.tmp 87)=V.v5:=zQ1 (hd 87 (by decide))
  exact ze rfl (zI (r.l5.length:Int)) (z8a _ rfl e87 (M.isb (k:=1) rfl) rfl) rfl (M.sb)
 ·intro ua uw SV pV (M:Mx none w uw _) hk hn hd
  have e88:ua.eval (.tmp 88)=zI (r.l5.length:Int):=zQ1 (hd 88 (by decide))
  exact ze rfl (zY (((zj (r.l5.length:Int)).toNat:Nat):Int)) (y_cvI _ _ _ rfl e88 Tryz.underlying3 Tryz.underlying5 (ztb _)) rfl (M.sb)
 ·intro ua uw SV pV (M:Mx none w uw _) hk hn hd
  have e89:ua.eval (.tmp 89)=zY (((zj (r.l5.length:Int)).toNat:Nat):Int):=zQ1 (hd 89 (by decide))
  exact z4b rfl (zdd M 6 [(zj (r.l5.length:Int))] 1 rfl (by decide) (by decide) rfl (by simp only [List.map_toArray,List.map_cons,List.map_nil,e89];kernel_rfl)) fun v w2 h2=>⟨trivial,h2.sub ⟨rfl,rfl,rfl,rfl,rfl,rfl,rfl,trivial⟩⟩
 ·intro ua uw SV pV (M:Mx none w uw _) hk hn hd
  have e85:ua.eval (.tmp 85)=.slice A105 (((([(zj r.p),(zj (r.s.size:Int))]++(sBy r.s))++[(zj (r.l2.length:Int))])++r.l2)).length c105:=zQ1 (hd 85 (by decide))
  obtain ⟨s5,f90,q90⟩:=(show SV 5=true∧ua.eval (.tmp 90)=pV 5∧stE _ 5 (pV 5) from hd 90 (by decide))
  have e90:ua.eval (.tmp 90)=(pV 5):=f90
  exact z4b rfl (zfb M (k:=3) (zea hk rfl) _ _ rfl e85 e90 (M.isO (k:=6) (zya s5 rfl)) (by simp only [List.length_append,List.length_cons,List.length_nil];omega)) fun v w2 h2=>⟨trivial,h2.sub ⟨rfl,rfl,rfl,rfl,rfl,rfl,rfl,trivial⟩⟩
 intro p108 a108 w108 M108 G108 y108
 obtain ⟨-,-,-,-,-,-,q6,-,q8,-⟩:=y108
 have r8:p108 8=V.v5:=q8
 replace M108:Mx _ _ w108 [(0,bytR r.l2 V.v2),(1,bytR r.l5 V.v5),(2,blkR g2 37 (recA r V)),(3,zha true (ownR (((([(zj r.p),(zj (r.s.size:Int))]++(sBy r.s))++[(zj (r.l2.length:Int))])++r.l2)++[(zj (r.l5.length:Int))]) (p108 6)) (ownR ((([(zj r.p),(zj (r.s.size:Int))]++(sBy r.s))++[(zj (r.l2.length:Int))])++r.l2) (.slice A105 (((([(zj r.p),(zj (r.s.size:Int))]++(sBy r.s))++[(zj (r.l2.length:Int))])++r.l2)).length c105))),(4,bytR (sBy r.s) (.slice A100 ((sBy r.s)).length c100)),(5,ownR [(zj (r.l2.length:Int))] (.slice Ap104_5 ([(zj (r.l2.length:Int))]).length cp104_5)),(6,z5a true (ownR [(zj (r.l5.length:Int))] (p108 5)))]:=M108
 simp only [List.take,layV,Nat.zero_add,Nat.reduceAdd,r8] at G108
 obtain ⟨Ap108_6,cp108_6,hp108_6⟩:=(M108.isO (k:=6) rfl).shape
 rw [hp108_6] at M108
 try rw [hp108_6] at G108
 refine zwa rfl rfl G108 rfl (zfb M108 (k:=3) rfl _ _ rfl (G108.get rfl) (G108.get rfl) (M108.isb (k:=1) rfl) (by simp only [List.length_append,List.length_cons,List.length_nil];omega)) ?_
 intro v109 a109 w109 F109 M109
 clear G108 M108
 obtain ⟨A109,c109,rfl⟩:=(M109.isO (k:=3) rfl).shape
 refine rm rfl F109 fun _ F110=>hK107 _ _ (zSk fun _ hK111=>?_)
 refine zva F110 (SE [.inl (.slice A109 (((((([(zj r.p),(zj (r.s.size:Int))]++(sBy r.s))++[(zj (r.l2.length:Int))])++r.l2)++[(zj (r.l5.length:Int))])++r.l5)).length c109),.inl (zP g2 3),.inl (numV r.a),.inr (fun _=>True),.inr (fun _=>True),.inl (zP g2 11),.inl (numV r.b),.inr (fun _=>True),.inr (fun _=>True),.inl (zP g2 20),.inl (zI r.t),.inl (zY (((zj r.t).toNat:Nat):Int)),.inr (fun _=>True)]) (JM none w fun SV pV=>[(0,bytR r.l2 V.v2),(1,bytR r.l5 V.v5),(2,blkR g2 37 (recA r V)),(3,zha (SV 8) (ownR ((((((([(zj r.p),(zj (r.s.size:Int))]++(sBy r.s))++[(zj (r.l2.length:Int))])++r.l2)++[(zj (r.l5.length:Int))])++r.l5)++(zbb r.a))++(zbb r.b)) (pV 8)) (zha (SV 4) (ownR (((((([(zj r.p),(zj (r.s.size:Int))]++(sBy r.s))++[(zj (r.l2.length:Int))])++r.l2)++[(zj (r.l5.length:Int))])++r.l5)++(zbb r.a)) (pV 4)) (ownR ((((([(zj r.p),(zj (r.s.size:Int))]++(sBy r.s))++[(zj (r.l2.length:Int))])++r.l2)++[(zj (r.l5.length:Int))])++r.l5) (.slice A109 (((((([(zj r.p),(zj (r.s.size:Int))]++(sBy r.s))++[(zj (r.l2.length:Int))])++r.l2)++[(zj (r.l5.length:Int))])++r.l5)).length c109)))),(4,bytR (sBy r.s) (.slice A100 ((sBy r.s)).length c100)),(5,ownR [(zj (r.l2.length:Int))] (.slice Ap104_5 ([(zj (r.l2.length:Int))]).length cp104_5)),(6,ownR [(zj (r.l5.length:Int))] (.slice Ap108_6 ([(zj (r.l5.length:Int))]).length cp108_6)),(7,z5a (SV 3) (bytR (zbb r.a) (pV 3))),(8,z5a (SV 7) (bytR (zbb r.b) (pV 7))),(9,z5a (SV 12) (ownR [(zj r.t)] (pV 12)))]) 13 rfl (by kernel_rfl) rfl ⟨trivial,trivial,trivial,trivial,trivial,trivial,trivial,trivial,trivial,trivial,trivial,trivial,trivial,trivial⟩ (fun p=>((((M109.step (zsa _)).triv 7).triv 8).triv 9).sub ⟨rfl,rfl,rfl,rfl,rfl,rfl,rfl,rfl,rfl,rfl,trivial⟩) ⟨zcb F110,zcb F110,hopMP F110 (fun _ _ _ M=>zu (Mx.blk (k:=2) M rfl) dnil) (some g2),?_,?_,zcb F110,hopMP F110 (fun _ _ _ M=>zu (Mx.blk (k:=2) M rfl) dnil) (some g2),?_,?_,zcb F110,hopMP F110 (fun _ _ _ M=>zu (Mx.blk (k:=2) M rfl) dnil) (some g2),?_,?_,trivial⟩ ?_
 ·intro ua uw SV pV (M:Mx none w uw _) hk hn hd
  have e97:ua.eval (.tmp 97)=numV r.a:=zQ1 (hd 97 (by decide))
  exact z9a rfl rfl #[numV r.a] (zaa e97) (zE Tryz.func80 rfl) ((rfourN_any r.a uw).mono fun e w2 h=>(by obtain ⟨u,h1,h2,h3,h4⟩:=h;exact ⟨u,h1,trivial,(M.newB h4 7 h2 h3).sub ⟨rfl,rfl,rfl,rfl,rfl,rfl,rfl,rfl,rfl,rfl,trivial⟩⟩))
 ·intro ua uw SV pV (M:Mx none w uw _) hk hn hd
  have e95:ua.eval (.tmp 95)=.slice A109 (((((([(zj r.p),(zj (r.s.size:Int))]++(sBy r.s))++[(zj (r.l2.length:Int))])++r.l2)++[(zj (r.l5.length:Int))])++r.l5)).length c109:=zQ1 (hd 95 (by decide))
  obtain ⟨s3,f98,q98⟩:=(show SV 3=true∧ua.eval (.tmp 98)=pV 3∧stE _ 3 (pV 3) from hd 98 (by decide))
  have e98:ua.eval (.tmp 98)=(pV 3):=f98
  exact z4b rfl (zfb M (k:=3) (zea hk (zea (hn 8 (by kernel_rfl)) rfl)) _ _ rfl e95 e98 (M.isb (k:=7) (zya s3 rfl)) (by simp only [List.length_append,List.length_cons,List.length_nil];omega)) fun v w2 h2=>⟨trivial,h2.sub ⟨rfl,rfl,rfl,(zzb (hn 8 (by kernel_rfl)) rfl),rfl,rfl,rfl,rfl,rfl,rfl,trivial⟩⟩
 ·intro ua uw SV pV (M:Mx none w uw _) hk hn hd
  have e101:ua.eval (.tmp 101)=numV r.b:=zQ1 (hd 101 (by decide))
  exact z9a rfl rfl #[numV r.b] (zaa e101) (zE Tryz.func80 rfl) ((rfourN_any r.b uw).mono fun e w2 h=>(by obtain ⟨u,h1,h2,h3,h4⟩:=h;exact ⟨u,h1,trivial,(M.newB h4 8 h2 h3).sub ⟨rfl,rfl,rfl,rfl,rfl,rfl,rfl,rfl,rfl,rfl,trivial⟩⟩))
 ·intro ua uw SV pV (M:Mx none w uw _) hk hn hd
  obtain ⟨s4,f99,q99⟩:=(show SV 4=true∧ua.eval (.tmp 99)=pV 4∧stE _ 4 (pV 4) from hd 99 (by decide))
  have e99:ua.eval (.tmp 99)=(pV 4):=f99
  obtain ⟨s7,f102,q102⟩:=(show SV 7=true∧ua.eval (.tmp 102)=pV 7∧stE _ 7 (pV 7) from hd 102 (by decide))
  have e102:ua.eval (.tmp 102)=(pV 7):=f102
  exact z4b rfl (zfb M (k:=3) (z6c s4 (zea hk rfl)) _ _ rfl e99 e102 (M.isb (k:=8) (zya s7 rfl)) (by simp only [List.length_append,List.length_cons,List.length_nil];omega)) fun v w2 h2=>⟨trivial,h2.sub ⟨rfl,rfl,rfl,rfl,rfl,rfl,rfl,rfl,rfl,rfl,trivial⟩⟩
 ·intro ua uw SV pV (M:Mx none w uw _) hk hn hd
  have e105:ua.eval (.tmp 105)=zI r.t:=zQ1 (hd 105 (by decide))
  exact ze rfl (zY (((zj r.t).toNat:Nat):Int)) (y_cvI _ _ _ rfl e105 Tryz.underlying3 Tryz.underlying5 (ztb _)) rfl (M.sb)
 ·intro ua uw SV pV (M:Mx none w uw _) hk hn hd
  have e106:ua.eval (.tmp 106)=zY (((zj r.t).toNat:Nat):Int):=zQ1 (hd 106 (by decide))
  exact z4b rfl (zdd M 9 [(zj r.t)] 1 rfl (by decide) (by decide) rfl (by simp only [List.map_toArray,List.map_cons,List.map_nil,e106];kernel_rfl)) fun v w2 h2=>⟨trivial,h2.sub ⟨rfl,rfl,rfl,rfl,rfl,rfl,rfl,rfl,rfl,rfl,trivial⟩⟩
 intro p112 a112 w112 M112 G112 y112
 obtain ⟨-,-,-,-,-,-,-,-,q8,-,-,-,q12,-⟩:=y112
 replace M112:Mx _ _ w112 [(0,bytR r.l2 V.v2),(1,bytR r.l5 V.v5),(2,blkR g2 37 (recA r V)),(3,zha true (ownR ((((((([(zj r.p),(zj (r.s.size:Int))]++(sBy r.s))++[(zj (r.l2.length:Int))])++r.l2)++[(zj (r.l5.length:Int))])++r.l5)++(zbb r.a))++(zbb r.b)) (p112 8)) (zha true (ownR (((((([(zj r.p),(zj (r.s.size:Int))]++(sBy r.s))++[(zj (r.l2.length:Int))])++r.l2)++[(zj (r.l5.length:Int))])++r.l5)++(zbb r.a)) (p112 4)) (ownR ((((([(zj r.p),(zj (r.s.size:Int))]++(sBy r.s))++[(zj (r.l2.length:Int))])++r.l2)++[(zj (r.l5.length:Int))])++r.l5) (.slice A109 (((((([(zj r.p),(zj (r.s.size:Int))]++(sBy r.s))++[(zj (r.l2.length:Int))])++r.l2)++[(zj (r.l5.length:Int))])++r.l5)).length c109)))),(4,bytR (sBy r.s) (.slice A100 ((sBy r.s)).length c100)),(5,ownR [(zj (r.l2.length:Int))] (.slice Ap104_5 ([(zj (r.l2.length:Int))]).length cp104_5)),(6,ownR [(zj (r.l5.length:Int))] (.slice Ap108_6 ([(zj (r.l5.length:Int))]).length cp108_6)),(7,z5a true (bytR (zbb r.a) (p112 3))),(8,z5a true (bytR (zbb r.b) (p112 7))),(9,z5a true (ownR [(zj r.t)] (p112 12)))]:=M112
 simp only [List.take,layV,Nat.zero_add,Nat.reduceAdd] at G112
 obtain ⟨Ap112_7,cp112_7,hp112_7⟩:=(M112.isb (k:=7) rfl).shape
 rw [hp112_7] at M112
 try rw [hp112_7] at G112
 obtain ⟨Ap112_8,cp112_8,hp112_8⟩:=(M112.isb (k:=8) rfl).shape
 rw [hp112_8] at M112
 try rw [hp112_8] at G112
 obtain ⟨Ap112_9,cp112_9,hp112_9⟩:=(M112.isO (k:=9) rfl).shape
 rw [hp112_9] at M112
 try rw [hp112_9] at G112
 refine zwa rfl rfl G112 rfl (zfb M112 (k:=3) rfl _ _ rfl (G112.get rfl) (G112.get rfl) (M112.isO (k:=9) rfl) (by simp only [List.length_append,List.length_cons,List.length_nil];omega)) ?_
 intro v113 a113 w113 F113 M113
 clear G112 M112
 obtain ⟨A113,c113,rfl⟩:=(M113.isO (k:=3) rfl).shape
 refine rm rfl F113 fun _ F114=>hK111 _ _ (zSk fun _ hK115=>?_)
 refine zva F114 (SE [.inl (.slice A113 ((((((((([(zj r.p),(zj (r.s.size:Int))]++(sBy r.s))++[(zj (r.l2.length:Int))])++r.l2)++[(zj (r.l5.length:Int))])++r.l5)++(zbb r.a))++(zbb r.b))++[(zj r.t)])).length c113),.inl (zP g2 21),.inl (zI r.c),.inr (fun _=>True),.inr (fun _=>True),.inl (zP g2 22),.inl (zI r.z)]) (JM none w fun SV pV=>[(0,bytR r.l2 V.v2),(1,bytR r.l5 V.v5),(2,blkR g2 37 (recA r V)),(3,zha (SV 4) (ownR ((((((((([(zj r.p),(zj (r.s.size:Int))]++(sBy r.s))++[(zj (r.l2.length:Int))])++r.l2)++[(zj (r.l5.length:Int))])++r.l5)++(zbb r.a))++(zbb r.b))++[(zj r.t)])++(zy r.c)) (pV 4)) (ownR (((((((([(zj r.p),(zj (r.s.size:Int))]++(sBy r.s))++[(zj (r.l2.length:Int))])++r.l2)++[(zj (r.l5.length:Int))])++r.l5)++(zbb r.a))++(zbb r.b))++[(zj r.t)]) (.slice A113 ((((((((([(zj r.p),(zj (r.s.size:Int))]++(sBy r.s))++[(zj (r.l2.length:Int))])++r.l2)++[(zj (r.l5.length:Int))])++r.l5)++(zbb r.a))++(zbb r.b))++[(zj r.t)])).length c113))),(4,bytR (sBy r.s) (.slice A100 ((sBy r.s)).length c100)),(5,ownR [(zj (r.l2.length:Int))] (.slice Ap104_5 ([(zj (r.l2.length:Int))]).length cp104_5)),(6,ownR [(zj (r.l5.length:Int))] (.slice Ap108_6 ([(zj (r.l5.length:Int))]).length cp108_6)),(7,bytR (zbb r.a) (.slice Ap112_7 ((zbb r.a)).length cp112_7)),(8,bytR (zbb r.b) (.slice Ap112_8 ((zbb r.b)).length cp112_8)),(9,ownR [(zj r.t)] (.slice Ap112_9 ([(zj r.t)]).length cp112_9)),(10,z5a (SV 3) (ownR (zy r.c) (pV 3)))]) 7 rfl (by kernel_rfl) rfl ⟨trivial,trivial,trivial,trivial,trivial,trivial,trivial,trivial⟩ (fun p=>((M113.step (zsa _)).triv 10).sub ⟨rfl,rfl,rfl,rfl,rfl,rfl,rfl,rfl,rfl,rfl,rfl,trivial⟩) ⟨zcb F114,zcb F114,hopMP F114 (fun _ _ _ M=>zu (Mx.blk (k:=2) M rfl) dnil) (some g2),?_,?_,zcb F114,hopMP F114 (fun _ _ _ M=>zu (Mx.blk (k:=2) M rfl) dnil) (some g2),trivial⟩ ?_
 ·intro ua uw SV pV (M:Mx none w uw _) hk hn hd
  have e111:ua.eval (.tmp 111)=zI r.c:=zQ1 (hd 111 (by decide))
  exact z9a rfl rfl #[zI r.c] (zaa e111) (zE Tryz.func81 rfl) ((reight_any r.c uw).mono fun e w2 h=>(by obtain ⟨u,h1,h2,h3⟩:=h;exact ⟨u,h1,trivial,(M.newO h3 10 h2).sub ⟨rfl,rfl,rfl,rfl,rfl,rfl,rfl,rfl,rfl,rfl,rfl,trivial⟩⟩))
 ·intro ua uw SV pV (M:Mx none w uw _) hk hn hd
  have e109:ua.eval (.tmp 109)=.slice A113 ((((((((([(zj r.p),(zj (r.s.size:Int))]++(sBy r.s))++[(zj (r.l2.length:Int))])++r.l2)++[(zj (r.l5.length:Int))])++r.l5)++(zbb r.a))++(zbb r.b))++[(zj r.t)])).length c113:=zQ1 (hd 109 (by decide))
  obtain ⟨s3,f112,q112⟩:=(show SV 3=true∧ua.eval (.tmp 112)=pV 3∧stE _ 3 (pV 3) from hd 112 (by decide))
  have e112:ua.eval (.tmp 112)=(pV 3):=f112
  exact z4b rfl (zfb M (k:=3) (zea hk rfl) _ _ rfl e109 e112 (M.isO (k:=10) (zya s3 rfl)) (by simp only [List.length_append,List.length_cons,List.length_nil];omega)) fun v w2 h2=>⟨trivial,h2.sub ⟨rfl,rfl,rfl,rfl,rfl,rfl,rfl,rfl,rfl,rfl,rfl,trivial⟩⟩
 intro p116 a116 w116 M116 G116 y116
 obtain ⟨-,-,-,-,q4,-,q6,-⟩:=y116
 have r6:p116 6=zI r.z:=q6
 replace M116:Mx _ _ w116 [(0,bytR r.l2 V.v2),(1,bytR r.l5 V.v5),(2,blkR g2 37 (recA r V)),(3,zha true (ownR ((((((((([(zj r.p),(zj (r.s.size:Int))]++(sBy r.s))++[(zj (r.l2.length:Int))])++r.l2)++[(zj (r.l5.length:Int))])++r.l5)++(zbb r.a))++(zbb r.b))++[(zj r.t)])++(zy r.c)) (p116 4)) (ownR (((((((([(zj r.p),(zj (r.s.size:Int))]++(sBy r.s))++[(zj (r.l2.length:Int))])++r.l2)++[(zj (r.l5.length:Int))])++r.l5)++(zbb r.a))++(zbb r.b))++[(zj r.t)]) (.slice A113 ((((((((([(zj r.p),(zj (r.s.size:Int))]++(sBy r.s))++[(zj (r.l2.length:Int))])++r.l2)++[(zj (r.l5.length:Int))])++r.l5)++(zbb r.a))++(zbb r.b))++[(zj r.t)])).length c113))),(4,bytR (sBy r.s) (.slice A100 ((sBy r.s)).length c100)),(5,ownR [(zj (r.l2.length:Int))] (.slice Ap104_5 ([(zj (r.l2.length:Int))]).length cp104_5)),(6,ownR [(zj (r.l5.length:Int))] (.slice Ap108_6 ([(zj (r.l5.length:Int))]).length cp108_6)),(7,bytR (zbb r.a) (.slice Ap112_7 ((zbb r.a)).length cp112_7)),(8,bytR (zbb r.b) (.slice Ap112_8 ((zbb r.b)).length cp112_8)),(9,ownR [(zj r.t)] (.slice Ap112_9 ([(zj r.t)]).length cp112_9)),(10,z5a true (ownR (zy r.c) (p116 3)))]:=M116
 simp only [List.take,layV,Nat.zero_add,Nat.reduceAdd,r6] at G116
 obtain ⟨Ap116_10,cp116_10,hp116_10⟩:=(M116.isO (k:=10) rfl).shape
 rw [hp116_10] at M116
 try rw [hp116_10] at G116
 refine zh rfl rfl G116 rfl rfl (zE Tryz.func81 rfl) #[zI r.z] (zaa (G116.get rfl)) (reight_any r.z w116) ?_
 rintro v117 w117 a117 h117 F117
 have M117:=M116.newO h117.2 11 h117.1
 clear M116 h117
 obtain ⟨A117,c117,rfl⟩:=(M117.isO (k:=11) rfl).shape
 refine zwa rfl rfl F117 rfl (zfb M117 (k:=3) rfl _ _ rfl (F117.get rfl) (F117.get rfl) (M117.isO (k:=11) rfl) (by simp only [List.length_append,List.length_cons,List.length_nil];omega)) ?_
 intro v118 a118 w118 F118 M118
 obtain ⟨A118,c118,rfl⟩:=(M118.isO (k:=3) rfl).shape
 refine rm rfl F118 fun _ F119=>rm rfl F119 fun _ F120=>hK115 _ _ (wp_ret ?_)
 exact bodyPost_ret (res2 rfl (F120.get rfl) (F120.get rfl)) F120.defers ⟨_,(by rw [(show zga r=true from by rw [←zdb];unfold keepR;simp [hN,hA,hB,h8,h16,h31,h40,h60,h68,h76,h84])]),(by rw [show recE r=recL r from if_pos (show zga r=true from by rw [←zdb];unfold keepR;simp [hN,hA,hB,h8,h16,h31,h40,h60,h68,h76,h84]),recL_ref];exact M118.byt (k:=3) rfl),M118.below⟩
theorem tkV_big {n:Nat} {l:List UInt8} (h:l.length<n):tkV n l=List.replicate n 0:=if_pos h
theorem tkV_ok {n:Nat} {l:List UInt8} (h:¬l.length<n):tkV n l=l.take n:=if_neg h
theorem tkR_big {n:Nat} {l:List UInt8} (h:l.length<n):tkR n l=[]:=if_pos h
theorem tkR_ok {n:Nat} {l:List UInt8} (h:¬l.length<n):tkR n l=l.drop n:=if_neg h
theorem few_big {f:Bool} {n:Nat} {l:List UInt8} (h:l.length<n):fewB f n l=true:=by unfold fewB;rw [decide_eq_true h];simp
theorem few_ok {f:Bool} {n:Nat} {l:List UInt8} (h:¬l.length<n):fewB f n l=f:=by unfold fewB;rw [decide_eq_false h];simp
theorem zlc (g:Nat) (l:List UInt8) (u:Value) (f:Bool) (n:Nat) (hl:l.length≤100000) (hn:n≤1000) (w:World) (hg:w.heap[g]? = some (.cells #[u,.bool f] 138 (0,0))) (hu:IsB w l u) (hd:¬bfp u g):
  Calls Tryz.prog 94 #[(zO g),zI (n:Int)] w fun e w'=>∃ v,e=.returned v∧∃ u',Byt w' w.heap.size v (tkV n l)∧IsB w' (tkR n l) u'∧(∀ b,bfp u' b→bfp u b)∧w'.heap[g]? = some (.cells #[u',.bool (fewB f n l)] 138 (0,0))∧w.grownBy w' (some g):=by
 by_cases hlt:l.length<n
 ·refine zk (args:=[(zO g),zI (n:Int)]) 39 Tryz.func94 rfl rfl rfl ?_
  intro fa F
  have M:=Mx.theG hg 0
  replace M:=M.argB 1 hu (fun b e=>by cases e;exact hd)
  refine zT fun _ hK1=>rm rfl F fun _ F2=>hK1 _ _ (zSk fun _ hK3=>?_)
  refine zT fun _ hK4=>zB 5 [(0,(zO g)),(1,zI (n:Int)),(4,zN),(6,zI (n:Int)),(10,u)] [0] (zu (M.blk (k:=0) rfl) dnil) [g] F2 fun _ F5=>?_
  refine rn rfl rfl F5 rfl (zI (l.length:Int)) (z8a _ rfl (F5.get rfl) (M.isb (k:=1) rfl) rfl) fun _ F6=>?_
  refine rn rfl rfl F6 rfl (.bool true) (zbc _ _ _ _ rfl (F6.get rfl) (F6.get rfl) (decide_eq_true (by omega))) fun _ F7=>?_
  refine hK4 _ _ (wp_cond_true (F7.get rfl) ?_)
  refine zT fun _ hK8=>zB 4 [(0,(zO g)),(1,zI (n:Int)),(4,zN),(14,(zO g)),(16,(zP g 1))] [] dnil [] F7 fun a9 F9=>?_
  refine zt rfl rfl F9 M (k:=0) rfl _ _ _ rfl (F9.get rfl) rfl (#[.bool true]) (#[u,.bool true]) rfl (zL rfl) (by simp [Value.oneCell']) (by kernel_rfl) (by kernel_rfl) ?_
  intro w10 M10
  refine zB 2 [(0,(zO g)),(1,zI (n:Int)),(4,zN),(18,(zO g))] [] dnil [] F9 fun a11 F11=>?_
  refine zt rfl rfl F11 M10 (k:=0) rfl _ _ _ rfl (F11.get rfl) rfl (#[zN]) (#[zN,.bool true]) rfl (zL rfl) (one_slc rfl) (by kernel_rfl) (by kernel_rfl) ?_
  intro w12 M12
  refine hK8 _ _ (zSk fun _ hK13=>?_)
  refine zR (rm rfl F11 fun _ F14=>zwa rfl rfl F14 rfl (run_makeO M12 2 _ _ rfl n (F14.get rfl) (F14.get rfl) rfl hn) ?_)
  intro v15 a15 w15 F15 M15
  obtain ⟨A15,c15,rfl⟩:=(M15.isO (k:=2) rfl).shape
  refine rm rfl F15 fun a16 F16=>hK13 _ _ (wp_ret ?_)
  try simp only [Exit.then,Exit.inBlock,Exit.jump]
  exact bodyPost_ret (res1 rfl (F16.get rfl)) F16.defers ⟨_,rfl,zN,(by rw [tkV_big hlt];exact M15.bytG (k:=2) rfl (fun b e e2=>M15.dis 2 0 _ _ rfl rfl (by decide) rfl b e2 (by injection e with e;exact e.symm))),(by rw [tkR_big hlt];exact zia _),(fun b h=>(zpa b h).elim),(by rw [few_big hlt];exact M15.blk (k:=0) rfl),M15.grown⟩
 refine zk (args:=[(zO g),zI (n:Int)]) 39 Tryz.func94 rfl rfl rfl ?_
 intro fa F
 have M:=Mx.theG hg 0
 replace M:=M.argB 1 hu (fun b e=>by cases e;exact hd)
 refine zT fun _ hK1=>rm rfl F fun _ F2=>hK1 _ _ (zSk fun _ hK3=>?_)
 refine zT fun _ hK4=>zB 5 [(0,(zO g)),(1,zI (n:Int)),(4,zN),(6,zI (n:Int)),(10,u)] [0] (zu (M.blk (k:=0) rfl) dnil) [g] F2 fun _ F5=>?_
 refine rn rfl rfl F5 rfl (zI (l.length:Int)) (z8a _ rfl (F5.get rfl) (M.isb (k:=1) rfl) rfl) fun _ F6=>?_
 refine rn rfl rfl F6 rfl (.bool false) (zbc _ _ _ _ rfl (F6.get rfl) (F6.get rfl) (decide_eq_false (by omega))) fun _ F7=>?_
 refine hK4 _ _ (wp_cond_false (F7.get rfl) ?_)
 refine wp_skip (hK3 _ _ (zSk fun _ hK8=>?_))
 refine zR (zwa rfl rfl F7 rfl (run_lit0 M 2 rfl) ?_)
 intro v9 a9 w9 F9 M9
 obtain ⟨A9,c9,rfl⟩:=(M9.isO (k:=2) rfl).shape
 refine zB 5 [(0,(zO g)),(1,zI (n:Int)),(4,zN),(21,.slice A9 (([]:List UInt8)).length c9),(25,u),(26,zI (n:Int))] [0] (zu (M9.blk (k:=0) rfl) dnil) [g] F9 fun _ F10=>?_
 refine zrc rfl rfl F10 rfl (y_slTo _ _ rfl (F10.get rfl) (M9.isb (k:=1) rfl) (F10.get rfl) (j:=n) rfl (by omega)) ?_
 intro v11 a11 h11 F11
 have M11:=M9.partB 3 (k:=1) rfl h11.1 h11.2
 obtain ⟨A11,c11,rfl⟩:=(M11.isb (k:=3) rfl).shape
 refine zwa rfl rfl F11 rfl (zfb M11 (k:=2) rfl _ _ rfl (F11.get rfl) (F11.get rfl) (M11.isb (k:=3) rfl) (by simp only [List.length_nil,List.length_take];omega)) ?_
 intro v12 a12 w12 F12 M12
 obtain ⟨A12,c12,rfl⟩:=(M12.isO (k:=2) rfl).shape
 refine rm rfl F12 fun _ F13=>hK8 _ _ (zSk fun _ hK14=>?_)
 refine zR (zB 6 [(4,zN),(5,.slice A12 (([]++(l.take n))).length c12),(29,(zO g)),(33,u),(34,zI (n:Int))] [0] (zu (M12.blk (k:=0) rfl) dnil) [g] F13 fun a15 F15=>?_)
 refine zrc rfl rfl F15 rfl (y_slFrom _ _ rfl (F15.get rfl) (M12.isb (k:=1) rfl) (F15.get rfl) (i:=n) rfl (by omega)) ?_
 intro v16 a16 h16 F16
 have M16:=M12.partB 4 (k:=1) rfl h16.1 h16.2
 obtain ⟨A16,c16,rfl⟩:=(M16.isb (k:=4) rfl).shape
 refine zAx 2 [(36,(zO g)),(37,(zO g))] [] dnil [] F16 fun _ F17=>?_
 refine zt rfl rfl F17 M16 (k:=0) rfl _ _ _ rfl (F17.get rfl) (F17.get rfl) (#[.slice A16 ((l.drop n)).length c16]) (#[.slice A16 ((l.drop n)).length c16,.bool f]) rfl (zL rfl) (one_slc rfl) (by kernel_rfl) (by kernel_rfl) ?_
 intro w18 M18
 refine hK14 _ _ (zSk fun _ hK19=>?_)
 refine zR (rm rfl F17 fun _ F20=>rm rfl F20 fun _ F21=>hK19 _ _ (wp_ret ?_))
 exact bodyPost_ret (res1 rfl (F21.get rfl)) F21.defers ⟨_,rfl,(.slice A16 ((l.drop n)).length c16),(by rw [tkV_ok hlt];have h:=M18.bytG (k:=2) rfl (fun b e e2=>M18.dis 2 0 _ _ rfl rfl (by decide) rfl b e2 (by injection e with e;exact e.symm));rwa [List.nil_append] at h),(by rw [tkR_ok hlt];exact M18.isb (k:=4) rfl),h16.2,(by rw [few_ok hlt];exact M18.blk (k:=0) rfl),M18.grown⟩
section
theorem rnum1_is (l:List UInt8) (v:Value) (hl:l.length<8) (w:World) (hv:IsB w l v):Calls Tryz.prog 93 #[v] w fun e w'=>e=.returned (zI ((zp l:Nat):Int))∧Below w.heap.size w w':=by
 have:=rnumR_any l v (by omega) w hv
 rwa [numR_ok (numOk_short hl)] at this
theorem rrecord_ex (r:RecN) (V:RecV) (ho:RecOk r) (w:World) (hm:RecIs w r V):Calls Tryz.prog 52 #[.agg (recA r V)] w fun e w'=>∃ t,e=.returned t∧∃ v,t=.tuple #[v,.bool (zga r)]∧Byt w' w.heap.size v (recE r)∧Below w.heap.size w w':=
 (rrecord_any r V ho w hm).mono fun e w' ⟨v,h1,h2,h3⟩=>⟨_,h1,v,rfl,h2,h3⟩
theorem rr_yes {b:List UInt8} (h1:fewR b=false) (h2:zga (rrM b)=true) (h3:recE (rrM b)=b):rdOk b=true∧rdR b=rrM b:=by
 obtain ⟨k1,k2⟩:=ref_rec b
 have h:rrOk b=true:=by unfold rrOk zlb;rw [h1,h2,decide_eq_true h3];rfl
 exact ⟨k1▸h,by rw [←k2];exact if_pos h⟩
theorem rr_no {b:List UInt8} (hh:fewR b=true∨zga (rrM b)=false∨¬recE (rrM b)=b):rdOk b=false∧rdR b=rZero:=by
 obtain ⟨k1,k2⟩:=ref_rec b
 have h:rrOk b=false:=by
  unfold rrOk zlb
  rcases hh with h | h | h
  ·rw [h];rfl
  ·rw [h];simp
  ·rw [decide_eq_false h];simp
 exact ⟨k1▸h,by rw [←k2];exact if_neg (by rw [h];exact Bool.false_ne_true)⟩
attribute [local irreducible] rrM fewR numR tkV tkR
theorem rreadrec_any (b:List UInt8) (bv:Value) (hl:b.length≤100000) (w:World) (hb:IsB w b bv):
  Calls Tryz.prog 63 #[bv] w fun e w'=>∃ V,e=.returned (.tuple #[.agg (recA (rdR b) V),.bool (rdOk b)])∧RecIs w' (rdR b) V∧(∀ q,bfp V.v2 q∨bfp V.v5 q→w.heap.size≤q)∧Below w.heap.size w w':=by
 obtain ⟨A0,c0,rfl⟩:=hb.shape
 obtain ⟨bF,hF⟩:∃ x,fewR b=x:=⟨_,rfl⟩
 obtain ⟨bK,hK⟩:∃ x,zga (rrM b)=x:=⟨_,rfl⟩
 refine zk (args:=[.slice A0 b.length c0]) 82 Tryz.func63 rfl rfl rfl ?_
 intro fa F
 have M:=Mx.start w
 replace M:=M.argB 0 hb (fun g e=>by cases e)
 refine zT fun _ hK1=>zq rfl rfl F rfl M 1 (t:=37) (c:=recA ⟨0, "".toUTF8,[],0,0,[],0,0,0⟩ ⟨zN,zN⟩) (by unfold execOp;kernel_rfl) ?_
 intro g2 a2 w2 F2 M2
 refine rm rfl F2 fun _ F3=>hK1 _ _ (zSk fun _ hK4=>?_)
 refine zR (rm rfl F3 fun _ F5=>rn rfl rfl F5 rfl (.agg (#[.slice A0 b.length c0,.bool false])) (by unfold execOp;simp only [List.map_toArray,List.map_cons,List.map_nil,(F5 8 rfl)];kernel_rfl) fun _ F6=>?_)
 refine zq rfl rfl F6 rfl M2 2 (t:=138) (c:=#[.slice A0 b.length c0,.bool false]) (by unfold execOp;simp only [(F6 9 rfl)];kernel_rfl) ?_
 intro g7 a7 w7 F7 M7
 refine rm rfl F7 fun _ F8=>hK4 _ _ (zSk fun _ hK9=>?_)
 refine zR (rm rfl F8 fun _ F10=>zh rfl rfl F10 rfl rfl (zE Tryz.func94 rfl) #[(zO g7),zI 1] (zfa (F10.get rfl) rfl) (zlc g7 b (.slice A0 b.length c0) false 1 hl (by omega) w7 (M7.blk (k:=2) rfl) (M7.isb (k:=0) rfl) (fun hb=>M7.dis 2 0 _ _ rfl rfl (by decide) rfl g7 rfl hb)) ?_)
 rintro v11 w11 a11 ⟨u11,hv11,hu11,hs11,hc11,hg11⟩ F11
 obtain ⟨q11,hq11⟩:∃ x,(tkR 1 b)=x:=⟨_,rfl⟩
 obtain ⟨x11,hx11⟩:∃ x,(tkV 1 b)=x:=⟨_,rfl⟩
 have ql11:q11.length≤100000:=by rw [←hq11];exact Nat.le_trans (tkR_len _ _) hl
 have xl11:x11.length=1:=by rw [←hx11];exact z2c _ _
 have xb11:=tkV1_lt b
 rw [hx11] at hv11 xb11
 rw [hq11] at hu11
 have M11:=M7.took (k:=2) (ku:=0) rfl hg11 hc11 3 4 hv11 hu11 hs11 rfl rfl
 clear M7 hg11 hc11
 obtain ⟨A11u,c11u,rfl⟩:=hu11.shape
 clear hu11
 clear hv11
 obtain ⟨A11,c11,rfl⟩:=(M11.isO (k:=3) rfl).shape
 refine zh rfl rfl F11 rfl rfl (zE Tryz.func93 rfl) #[.slice A11 (x11).length c11] (zaa (F11.get rfl)) (zba ((rnum1_is x11 (.slice A11 (x11).length c11) (by rw [xl11];omega) w11 (M11.isO (k:=3) rfl)))) ?_
 rintro _ w12 a12 ⟨rfl,b12⟩ F12
 have M12:=M11.step b12
 refine rn rfl rfl F12 rfl (.agg (recA ⟨((zp x11:Nat):Int), "".toUTF8,[],0,0,[],0,0,0⟩ ⟨zN,zN⟩)) (by unfold execOp;simp only [List.map_toArray,List.map_cons,List.map_nil,(F12 13 rfl)];kernel_rfl) fun _ F13=>?_
 refine zq rfl rfl F13 rfl M12 5 (t:=37) (c:=recA ⟨0, "".toUTF8,[],0,0,[],0,0,0⟩ ⟨zN,zN⟩) (by unfold execOp;kernel_rfl) ?_
 intro g14 a14 w14 F14 M14
 refine zt rfl rfl F14 M14 (k:=5) rfl _ _ _ rfl (F14.get rfl) (F14.get rfl) (recA ⟨((zp x11:Nat):Int), "".toUTF8,[],0,0,[],0,0,0⟩ ⟨zN,zN⟩) _ rfl (zL rfl) (z6a (w:=w14) ⟨(zia _),(zia _)⟩) (zca rfl) (by kernel_rfl) ?_
 intro w15 M15
 refine hK9 _ _ (zSk fun _ hK16=>?_)
 refine zR (rm rfl F14 fun _ F17=>rm rfl F17 fun _ F18=>zh rfl rfl F18 rfl rfl (zE Tryz.func94 rfl) #[(zO g7),zI 1] (zfa (F18.get rfl) rfl) (zlc g7 q11 (.slice A11u q11.length c11u) (fewB false 1 b) 1 ql11 (by omega) w15 (M15.blk (k:=2) rfl) (M15.isb (k:=4) rfl) (fun hb=>M15.dis 2 4 _ _ rfl rfl (by decide) rfl g7 rfl hb)) ?_)
 rintro v19 w19 a19 ⟨u19,hv19,hu19,hs19,hc19,hg19⟩ F19
 obtain ⟨q19,hq19⟩:∃ x,(tkR 1 q11)=x:=⟨_,rfl⟩
 obtain ⟨x19,hx19⟩:∃ x,(tkV 1 q11)=x:=⟨_,rfl⟩
 have ql19:q19.length≤100000:=by rw [←hq19];exact Nat.le_trans (tkR_len _ _) ql11
 have xl19:x19.length=1:=by rw [←hx19];exact z2c _ _
 have xb19:=tkV1_lt q11
 rw [hx19] at hv19 xb19
 rw [hq19] at hu19
 have M19:=M15.took (k:=2) (ku:=4) rfl hg19 hc19 6 7 hv19 hu19 hs19 rfl rfl
 clear M15 hg19 hc19
 obtain ⟨A19u,c19u,rfl⟩:=hu19.shape
 clear hu19
 clear hv19
 obtain ⟨A19,c19,rfl⟩:=(M19.isO (k:=6) rfl).shape
 refine zh rfl rfl F19 rfl rfl (zE Tryz.func93 rfl) #[.slice A19 (x19).length c19] (zaa (F19.get rfl)) (zba ((rnum1_is x19 (.slice A19 (x19).length c19) (by rw [xl19];omega) w19 (M19.isO (k:=6) rfl)))) ?_
 rintro _ w20 a20 ⟨rfl,b20⟩ F20
 have M20:=M19.step b20
 refine zh rfl rfl F20 rfl rfl (zE Tryz.func94 rfl) #[(zO g7),zI ((zp x19:Nat):Int)] (zfa (F20.get rfl) (F20.get rfl)) (zlc g7 q19 (.slice A19u q19.length c19u) (fewB (fewB false 1 b) 1 q11) (zp x19) ql19 (by omega) w20 (M20.blk (k:=2) rfl) (M20.isb (k:=7) rfl) (fun hb=>M20.dis 2 7 _ _ rfl rfl (by decide) rfl g7 rfl hb)) ?_
 rintro v21 w21 a21 ⟨u21,hv21,hu21,hs21,hc21,hg21⟩ F21
 obtain ⟨q21,hq21⟩:∃ x,(tkR (zp x19) q19)=x:=⟨_,rfl⟩
 obtain ⟨x21,hx21⟩:∃ x,(tkV (zp x19) q19)=x:=⟨_,rfl⟩
 have ql21:q21.length≤100000:=by rw [←hq21];exact Nat.le_trans (tkR_len _ _) ql19
 have xl21:x21.length=zp x19:=by rw [←hx21];exact z2c _ _
 have xb21:=True.intro
 rw [hx21] at hv21
 rw [hq21] at hu21
 have M21:=M20.took (k:=2) (ku:=7) rfl hg21 hc21 8 9 hv21 hu21 hs21 rfl rfl
 clear M20 hg21 hc21
 obtain ⟨A21u,c21u,rfl⟩:=hu21.shape
 clear hu21
 clear hv21
 obtain ⟨A21,c21,rfl⟩:=(M21.isO (k:=8) rfl).shape
 refine rn rfl rfl F21 rfl (.string (⟨(x21).toArray⟩)) (y_str _ rfl (F21.get rfl) (M21.isO (k:=8) rfl)) fun _ F22=>?_
 refine rn rfl rfl F22 rfl (zP g14 1) (y_fa (off:=1) rfl (F22.get rfl) (by kernel_rfl) rfl) fun _ F23=>?_
 refine zt rfl rfl F23 M21 (k:=5) rfl _ _ _ rfl (F23.get rfl) (F23.get rfl) (#[.string (⟨(x21).toArray⟩)]) (recA ⟨((zp x11:Nat):Int),⟨(x21).toArray⟩,[],0,0,[],0,0,0⟩ ⟨zN,zN⟩) rfl (zL rfl) (one_str _) (by kernel_rfl) (by kernel_rfl) ?_
 intro w24 M24
 refine hK16 _ _ (zSk fun _ hK25=>?_)
 refine zR (rm rfl F23 fun _ F26=>rm rfl F26 fun _ F27=>zh rfl rfl F27 rfl rfl (zE Tryz.func94 rfl) #[(zO g7),zI 1] (zfa (F27.get rfl) rfl) (zlc g7 q21 (.slice A21u q21.length c21u) (fewB (fewB (fewB false 1 b) 1 q11) (zp x19) q19) 1 ql21 (by omega) w24 (M24.blk (k:=2) rfl) (M24.isb (k:=9) rfl) (fun hb=>M24.dis 2 9 _ _ rfl rfl (by decide) rfl g7 rfl hb)) ?_)
 rintro v28 w28 a28 ⟨u28,hv28,hu28,hs28,hc28,hg28⟩ F28
 obtain ⟨q28,hq28⟩:∃ x,(tkR 1 q21)=x:=⟨_,rfl⟩
 obtain ⟨x28,hx28⟩:∃ x,(tkV 1 q21)=x:=⟨_,rfl⟩
 have ql28:q28.length≤100000:=by rw [←hq28];exact Nat.le_trans (tkR_len _ _) ql21
 have xl28:x28.length=1:=by rw [←hx28];exact z2c _ _
 have xb28:=tkV1_lt q21
 rw [hx28] at hv28 xb28
 rw [hq28] at hu28
 have M28:=M24.took (k:=2) (ku:=9) rfl hg28 hc28 10 11 hv28 hu28 hs28 rfl rfl
 clear M24 hg28 hc28
 obtain ⟨A28u,c28u,rfl⟩:=hu28.shape
 clear hu28
 clear hv28
 obtain ⟨A28,c28,rfl⟩:=(M28.isO (k:=10) rfl).shape
 refine zh rfl rfl F28 rfl rfl (zE Tryz.func93 rfl) #[.slice A28 (x28).length c28] (zaa (F28.get rfl)) (zba ((rnum1_is x28 (.slice A28 (x28).length c28) (by rw [xl28];omega) w28 (M28.isO (k:=10) rfl)))) ?_
 rintro _ w29 a29 ⟨rfl,b29⟩ F29
 have M29:=M28.step b29
 refine zh rfl rfl F29 rfl rfl (zE Tryz.func94 rfl) #[(zO g7),zI ((zp x28:Nat):Int)] (zfa (F29.get rfl) (F29.get rfl)) (zlc g7 q28 (.slice A28u q28.length c28u) (fewB (fewB (fewB (fewB false 1 b) 1 q11) (zp x19) q19) 1 q21) (zp x28) ql28 (by omega) w29 (M29.blk (k:=2) rfl) (M29.isb (k:=11) rfl) (fun hb=>M29.dis 2 11 _ _ rfl rfl (by decide) rfl g7 rfl hb)) ?_
 rintro v30 w30 a30 ⟨u30,hv30,hu30,hs30,hc30,hg30⟩ F30
 obtain ⟨q30,hq30⟩:∃ x,(tkR (zp x28) q28)=x:=⟨_,rfl⟩
 obtain ⟨x30,hx30⟩:∃ x,(tkV (zp x28) q28)=x:=⟨_,rfl⟩
 have ql30:q30.length≤100000:=by rw [←hq30];exact Nat.le_trans (tkR_len _ _) ql28
 have xl30:x30.length=zp x28:=by rw [←hx30];exact z2c _ _
 have xb30:=True.intro
 rw [hx30] at hv30
 rw [hq30] at hu30
 have M30:=M29.took (k:=2) (ku:=11) rfl hg30 hc30 12 13 hv30 hu30 hs30 rfl rfl
 clear M29 hg30 hc30
 obtain ⟨A30u,c30u,rfl⟩:=hu30.shape
 clear hu30
 clear hv30
 obtain ⟨A30,c30,rfl⟩:=(M30.isO (k:=12) rfl).shape
 refine rn rfl rfl F30 rfl (zP g14 2) (y_fa (off:=2) rfl (F30.get rfl) (by kernel_rfl) rfl) fun _ F31=>?_
 refine zt rfl rfl F31 M30 (k:=5) rfl _ _ _ rfl (F31.get rfl) (F31.get rfl) (#[.slice A30 (x30).length c30]) (recA ⟨((zp x11:Nat):Int),⟨(x21).toArray⟩,x30,0,0,[],0,0,0⟩ ⟨.slice A30 (x30).length c30,zN⟩) rfl (zL rfl) (one_slc rfl) (by kernel_rfl) (by kernel_rfl) ?_
 intro w32 M32
 refine hK25 _ _ (zSk fun _ hK33=>?_)
 refine zR (rm rfl F31 fun _ F34=>rm rfl F34 fun _ F35=>zh rfl rfl F35 rfl rfl (zE Tryz.func94 rfl) #[(zO g7),zI 1] (zfa (F35.get rfl) rfl) (zlc g7 q30 (.slice A30u q30.length c30u) (fewB (fewB (fewB (fewB (fewB false 1 b) 1 q11) (zp x19) q19) 1 q21) (zp x28) q28) 1 ql30 (by omega) w32 (M32.blk (k:=2) rfl) (M32.isb (k:=13) rfl) (fun hb=>M32.dis 2 13 _ _ rfl rfl (by decide) rfl g7 rfl hb)) ?_)
 rintro v36 w36 a36 ⟨u36,hv36,hu36,hs36,hc36,hg36⟩ F36
 obtain ⟨q36,hq36⟩:∃ x,(tkR 1 q30)=x:=⟨_,rfl⟩
 obtain ⟨x36,hx36⟩:∃ x,(tkV 1 q30)=x:=⟨_,rfl⟩
 have ql36:q36.length≤100000:=by rw [←hq36];exact Nat.le_trans (tkR_len _ _) ql30
 have xl36:x36.length=1:=by rw [←hx36];exact z2c _ _
 have xb36:=tkV1_lt q30
 rw [hx36] at hv36 xb36
 rw [hq36] at hu36
 have M36:=M32.took (k:=2) (ku:=13) rfl hg36 hc36 14 15 hv36 hu36 hs36 rfl rfl
 clear M32 hg36 hc36
 obtain ⟨A36u,c36u,rfl⟩:=hu36.shape
 clear hu36
 clear hv36
 obtain ⟨A36,c36,rfl⟩:=(M36.isO (k:=14) rfl).shape
 refine zh rfl rfl F36 rfl rfl (zE Tryz.func93 rfl) #[.slice A36 (x36).length c36] (zaa (F36.get rfl)) (zba ((rnum1_is x36 (.slice A36 (x36).length c36) (by rw [xl36];omega) w36 (M36.isO (k:=14) rfl)))) ?_
 rintro _ w37 a37 ⟨rfl,b37⟩ F37
 have M37:=M36.step b37
 refine zh rfl rfl F37 rfl rfl (zE Tryz.func94 rfl) #[(zO g7),zI ((zp x36:Nat):Int)] (zfa (F37.get rfl) (F37.get rfl)) (zlc g7 q36 (.slice A36u q36.length c36u) (fewB (fewB (fewB (fewB (fewB (fewB false 1 b) 1 q11) (zp x19) q19) 1 q21) (zp x28) q28) 1 q30) (zp x36) ql36 (by omega) w37 (M37.blk (k:=2) rfl) (M37.isb (k:=15) rfl) (fun hb=>M37.dis 2 15 _ _ rfl rfl (by decide) rfl g7 rfl hb)) ?_
 rintro v38 w38 a38 ⟨u38,hv38,hu38,hs38,hc38,hg38⟩ F38
 obtain ⟨q38,hq38⟩:∃ x,(tkR (zp x36) q36)=x:=⟨_,rfl⟩
 obtain ⟨x38,hx38⟩:∃ x,(tkV (zp x36) q36)=x:=⟨_,rfl⟩
 have ql38:q38.length≤100000:=by rw [←hq38];exact Nat.le_trans (tkR_len _ _) ql36
 have xl38:x38.length=zp x36:=by rw [←hx38];exact z2c _ _
 have xb38:=True.intro
 rw [hx38] at hv38
 rw [hq38] at hu38
 have M38:=M37.took (k:=2) (ku:=15) rfl hg38 hc38 16 17 hv38 hu38 hs38 rfl rfl
 clear M37 hg38 hc38
 obtain ⟨A38u,c38u,rfl⟩:=hu38.shape
 clear hu38
 clear hv38
 obtain ⟨A38,c38,rfl⟩:=(M38.isO (k:=16) rfl).shape
 refine rn rfl rfl F38 rfl (zP g14 19) (y_fa (off:=19) rfl (F38.get rfl) (by kernel_rfl) rfl) fun _ F39=>?_
 refine zt rfl rfl F39 M38 (k:=5) rfl _ _ _ rfl (F39.get rfl) (F39.get rfl) (#[.slice A38 (x38).length c38]) (recA ⟨((zp x11:Nat):Int),⟨(x21).toArray⟩,x30,0,0,x38,0,0,0⟩ ⟨.slice A30 (x30).length c30,.slice A38 (x38).length c38⟩) rfl (zL rfl) (one_slc rfl) (by kernel_rfl) (by kernel_rfl) ?_
 intro w40 M40
 refine hK33 _ _ (zSk fun _ hK41=>?_)
 refine zR (rm rfl F39 fun _ F42=>zh rfl rfl F42 rfl rfl (zE Tryz.func94 rfl) #[(zO g7),zI 4] (zfa (F42.get rfl) rfl) (zlc g7 q38 (.slice A38u q38.length c38u) (fewB (fewB (fewB (fewB (fewB (fewB (fewB false 1 b) 1 q11) (zp x19) q19) 1 q21) (zp x28) q28) 1 q30) (zp x36) q36) 4 ql38 (by omega) w40 (M40.blk (k:=2) rfl) (M40.isb (k:=17) rfl) (fun hb=>M40.dis 2 17 _ _ rfl rfl (by decide) rfl g7 rfl hb)) ?_)
 rintro v43 w43 a43 ⟨u43,hv43,hu43,hs43,hc43,hg43⟩ F43
 obtain ⟨q43,hq43⟩:∃ x,(tkR 4 q38)=x:=⟨_,rfl⟩
 obtain ⟨x43,hx43⟩:∃ x,(tkV 4 q38)=x:=⟨_,rfl⟩
 have ql43:q43.length≤100000:=by rw [←hq43];exact Nat.le_trans (tkR_len _ _) ql38
 have xl43:x43.length=4:=by rw [←hx43];exact z2c _ _
 have xb43:=True.intro
 rw [hx43] at hv43
 rw [hq43] at hu43
 have M43:=M40.took (k:=2) (ku:=17) rfl hg43 hc43 18 19 hv43 hu43 hs43 rfl rfl
 clear M40 hg43 hc43
 obtain ⟨A43u,c43u,rfl⟩:=hu43.shape
 clear hu43
 clear hv43
 obtain ⟨A43,c43,rfl⟩:=(M43.isO (k:=18) rfl).shape
 refine zh rfl rfl F43 rfl rfl (zE Tryz.func95 rfl) #[.slice A43 (x43).length c43] (zaa (F43.get rfl)) (zba ((rlread_is x43 (.slice A43 (x43).length c43) (zp x43) (by rw [xl43];omega) rfl w43 (M43.isO (k:=18) rfl)))) ?_
 rintro _ w44 a44 ⟨rfl,b44⟩ F44
 have M44:=M43.step b44
 refine zAx 4 [(34,.tuple #[numV (zp x43),.bool true]),(38,numV (zp x43)),(39,.bool true),(40,(zP g14 3))] [] dnil [] F44 fun _ F45=>?_
 refine zt rfl rfl F45 M44 (k:=5) rfl _ _ _ rfl (F45.get rfl) (F45.get rfl) (numA (zp x43)) (recA ⟨((zp x11:Nat):Int),⟨(x21).toArray⟩,x30,(zp x43),0,x38,0,0,0⟩ ⟨.slice A30 (x30).length c30,.slice A38 (x38).length c38⟩) rfl (zL rfl) (numA_one _) (by kernel_rfl) z5b ?_
 intro w46 M46
 refine hK41 _ _ (zSk fun _ hK47=>?_)
 refine zR (rm rfl F45 fun _ F48=>zh rfl rfl F48 rfl rfl (zE Tryz.func94 rfl) #[(zO g7),zI 4] (zfa (F48.get rfl) rfl) (zlc g7 q43 (.slice A43u q43.length c43u) (fewB (fewB (fewB (fewB (fewB (fewB (fewB (fewB false 1 b) 1 q11) (zp x19) q19) 1 q21) (zp x28) q28) 1 q30) (zp x36) q36) 4 q38) 4 ql43 (by omega) w46 (M46.blk (k:=2) rfl) (M46.isb (k:=19) rfl) (fun hb=>M46.dis 2 19 _ _ rfl rfl (by decide) rfl g7 rfl hb)) ?_)
 rintro v49 w49 a49 ⟨u49,hv49,hu49,hs49,hc49,hg49⟩ F49
 obtain ⟨q49,hq49⟩:∃ x,(tkR 4 q43)=x:=⟨_,rfl⟩
 obtain ⟨x49,hx49⟩:∃ x,(tkV 4 q43)=x:=⟨_,rfl⟩
 have ql49:q49.length≤100000:=by rw [←hq49];exact Nat.le_trans (tkR_len _ _) ql43
 have xl49:x49.length=4:=by rw [←hx49];exact z2c _ _
 have xb49:=True.intro
 rw [hx49] at hv49
 rw [hq49] at hu49
 have M49:=M46.took (k:=2) (ku:=19) rfl hg49 hc49 20 21 hv49 hu49 hs49 rfl rfl
 clear M46 hg49 hc49
 obtain ⟨A49u,c49u,rfl⟩:=hu49.shape
 clear hu49
 clear hv49
 obtain ⟨A49,c49,rfl⟩:=(M49.isO (k:=20) rfl).shape
 refine zh rfl rfl F49 rfl rfl (zE Tryz.func95 rfl) #[.slice A49 (x49).length c49] (zaa (F49.get rfl)) (zba ((rlread_is x49 (.slice A49 (x49).length c49) (zp x49) (by rw [xl49];omega) rfl w49 (M49.isO (k:=20) rfl)))) ?_
 rintro _ w50 a50 ⟨rfl,b50⟩ F50
 have M50:=M49.step b50
 refine zAx 4 [(41,.tuple #[numV (zp x49),.bool true]),(45,numV (zp x49)),(46,.bool true),(47,(zP g14 11))] [] dnil [] F50 fun _ F51=>?_
 refine zt rfl rfl F51 M50 (k:=5) rfl _ _ _ rfl (F51.get rfl) (F51.get rfl) (numA (zp x49)) (recA ⟨((zp x11:Nat):Int),⟨(x21).toArray⟩,x30,(zp x43),(zp x49),x38,0,0,0⟩ ⟨.slice A30 (x30).length c30,.slice A38 (x38).length c38⟩) rfl (zL rfl) (numA_one _) (by kernel_rfl) z5b ?_
 intro w52 M52
 refine hK47 _ _ (zSk fun _ hK53=>?_)
 refine zR (rm rfl F51 fun _ F54=>zh rfl rfl F54 rfl rfl (zE Tryz.func94 rfl) #[(zO g7),zI 1] (zfa (F54.get rfl) rfl) (zlc g7 q49 (.slice A49u q49.length c49u) (fewB (fewB (fewB (fewB (fewB (fewB (fewB (fewB (fewB false 1 b) 1 q11) (zp x19) q19) 1 q21) (zp x28) q28) 1 q30) (zp x36) q36) 4 q38) 4 q43) 1 ql49 (by omega) w52 (M52.blk (k:=2) rfl) (M52.isb (k:=21) rfl) (fun hb=>M52.dis 2 21 _ _ rfl rfl (by decide) rfl g7 rfl hb)) ?_)
 rintro v55 w55 a55 ⟨u55,hv55,hu55,hs55,hc55,hg55⟩ F55
 obtain ⟨q55,hq55⟩:∃ x,(tkR 1 q49)=x:=⟨_,rfl⟩
 obtain ⟨x55,hx55⟩:∃ x,(tkV 1 q49)=x:=⟨_,rfl⟩
 have ql55:q55.length≤100000:=by rw [←hq55];exact Nat.le_trans (tkR_len _ _) ql49
 have xl55:x55.length=1:=by rw [←hx55];exact z2c _ _
 have xb55:=tkV1_lt q49
 rw [hx55] at hv55 xb55
 rw [hq55] at hu55
 have M55:=M52.took (k:=2) (ku:=21) rfl hg55 hc55 22 23 hv55 hu55 hs55 rfl rfl
 clear M52 hg55 hc55
 obtain ⟨A55u,c55u,rfl⟩:=hu55.shape
 clear hu55
 clear hv55
 obtain ⟨A55,c55,rfl⟩:=(M55.isO (k:=22) rfl).shape
 refine zh rfl rfl F55 rfl rfl (zE Tryz.func93 rfl) #[.slice A55 (x55).length c55] (zaa (F55.get rfl)) (zba ((rnum1_is x55 (.slice A55 (x55).length c55) (by rw [xl55];omega) w55 (M55.isO (k:=22) rfl)))) ?_
 rintro _ w56 a56 ⟨rfl,b56⟩ F56
 have M56:=M55.step b56
 refine rn rfl rfl F56 rfl (zP g14 20) (y_fa (off:=20) rfl (F56.get rfl) (by kernel_rfl) rfl) fun _ F57=>?_
 refine zt rfl rfl F57 M56 (k:=5) rfl _ _ _ rfl (F57.get rfl) (F57.get rfl) (#[zI ((zp x55:Nat):Int)]) (recA ⟨((zp x11:Nat):Int),⟨(x21).toArray⟩,x30,(zp x43),(zp x49),x38,((zp x55:Nat):Int),0,0⟩ ⟨.slice A30 (x30).length c30,.slice A38 (x38).length c38⟩) rfl (zL rfl) (zdc _ _) (by kernel_rfl) (by kernel_rfl) ?_
 intro w58 M58
 refine hK53 _ _ (zSk fun _ hK59=>?_)
 refine zR (rm rfl F57 fun _ F60=>zh rfl rfl F60 rfl rfl (zE Tryz.func94 rfl) #[(zO g7),zI 8] (zfa (F60.get rfl) rfl) (zlc g7 q55 (.slice A55u q55.length c55u) (fewB (fewB (fewB (fewB (fewB (fewB (fewB (fewB (fewB (fewB false 1 b) 1 q11) (zp x19) q19) 1 q21) (zp x28) q28) 1 q30) (zp x36) q36) 4 q38) 4 q43) 1 q49) 8 ql55 (by omega) w58 (M58.blk (k:=2) rfl) (M58.isb (k:=23) rfl) (fun hb=>M58.dis 2 23 _ _ rfl rfl (by decide) rfl g7 rfl hb)) ?_)
 rintro v61 w61 a61 ⟨u61,hv61,hu61,hs61,hc61,hg61⟩ F61
 obtain ⟨q61,hq61⟩:∃ x,(tkR 8 q55)=x:=⟨_,rfl⟩
 obtain ⟨x61,hx61⟩:∃ x,(tkV 8 q55)=x:=⟨_,rfl⟩
 have ql61:q61.length≤100000:=by rw [←hq61];exact Nat.le_trans (tkR_len _ _) ql55
 have xl61:x61.length=8:=by rw [←hx61];exact z2c _ _
 have xb61:=True.intro
 rw [hx61] at hv61
 rw [hq61] at hu61
 have M61:=M58.took (k:=2) (ku:=23) rfl hg61 hc61 24 25 hv61 hu61 hs61 rfl rfl
 clear M58 hg61 hc61
 obtain ⟨A61u,c61u,rfl⟩:=hu61.shape
 clear hu61
 clear hv61
 obtain ⟨A61,c61,rfl⟩:=(M61.isO (k:=24) rfl).shape
 refine zh rfl rfl F61 rfl rfl (zE Tryz.func93 rfl) #[.slice A61 (x61).length c61] (zaa (F61.get rfl)) (zba ((rnumR_any x61 (.slice A61 (x61).length c61) (by rw [xl61];omega) w61 (M61.isO (k:=24) rfl)))) ?_
 rintro _ w62 a62 ⟨rfl,b62⟩ F62
 have M62:=M61.step b62
 refine rn rfl rfl F62 rfl (zP g14 21) (y_fa (off:=21) rfl (F62.get rfl) (by kernel_rfl) rfl) fun _ F63=>?_
 refine zt rfl rfl F63 M62 (k:=5) rfl _ _ _ rfl (F63.get rfl) (F63.get rfl) (#[zI (numR x61)]) (recA ⟨((zp x11:Nat):Int),⟨(x21).toArray⟩,x30,(zp x43),(zp x49),x38,((zp x55:Nat):Int),(numR x61),0⟩ ⟨.slice A30 (x30).length c30,.slice A38 (x38).length c38⟩) rfl (zL rfl) (zdc _ _) (by kernel_rfl) (by kernel_rfl) ?_
 intro w64 M64
 refine hK59 _ _ (zSk fun _ hK65=>?_)
 refine zR (rm rfl F63 fun _ F66=>zh rfl rfl F66 rfl rfl (zE Tryz.func94 rfl) #[(zO g7),zI 8] (zfa (F66.get rfl) rfl) (zlc g7 q61 (.slice A61u q61.length c61u) (fewB (fewB (fewB (fewB (fewB (fewB (fewB (fewB (fewB (fewB (fewB false 1 b) 1 q11) (zp x19) q19) 1 q21) (zp x28) q28) 1 q30) (zp x36) q36) 4 q38) 4 q43) 1 q49) 8 q55) 8 ql61 (by omega) w64 (M64.blk (k:=2) rfl) (M64.isb (k:=25) rfl) (fun hb=>M64.dis 2 25 _ _ rfl rfl (by decide) rfl g7 rfl hb)) ?_)
 rintro v67 w67 a67 ⟨u67,hv67,hu67,hs67,hc67,hg67⟩ F67
 obtain ⟨q67,hq67⟩:∃ x,(tkR 8 q61)=x:=⟨_,rfl⟩
 obtain ⟨x67,hx67⟩:∃ x,(tkV 8 q61)=x:=⟨_,rfl⟩
 have ql67:q67.length≤100000:=by rw [←hq67];exact Nat.le_trans (tkR_len _ _) ql61
 have xl67:x67.length=8:=by rw [←hx67];exact z2c _ _
 have xb67:=True.intro
 rw [hx67] at hv67
 rw [hq67] at hu67
 have M67:=M64.took (k:=2) (ku:=25) rfl hg67 hc67 26 27 hv67 hu67 hs67 rfl rfl
 clear M64 hg67 hc67
 obtain ⟨A67u,c67u,rfl⟩:=hu67.shape
 clear hu67
 clear hv67
 obtain ⟨A67,c67,rfl⟩:=(M67.isO (k:=26) rfl).shape
 refine zh rfl rfl F67 rfl rfl (zE Tryz.func93 rfl) #[.slice A67 (x67).length c67] (zaa (F67.get rfl)) (zba ((rnumR_any x67 (.slice A67 (x67).length c67) (by rw [xl67];omega) w67 (M67.isO (k:=26) rfl)))) ?_
 rintro _ w68 a68 ⟨rfl,b68⟩ F68
 have M68:=M67.step b68
 refine rn rfl rfl F68 rfl (zP g14 22) (y_fa (off:=22) rfl (F68.get rfl) (by kernel_rfl) rfl) fun _ F69=>?_
 refine zt rfl rfl F69 M68 (k:=5) rfl _ _ _ rfl (F69.get rfl) (F69.get rfl) (#[zI (numR x67)]) (recA ⟨((zp x11:Nat):Int),⟨(x21).toArray⟩,x30,(zp x43),(zp x49),x38,((zp x55:Nat):Int),(numR x61),(numR x67)⟩ ⟨.slice A30 (x30).length c30,.slice A38 (x38).length c38⟩) rfl (zL rfl) (zdc _ _) (by kernel_rfl) (by kernel_rfl) ?_
 intro w70 M70
 refine hK65 _ _ (zSk fun _ hK71=>?_)
 refine zR ?_
 have h2L:x30=(rrM b).l2:=by simp only [rrM,ctV,ctR,hq11,hx11,hq19,hx19,hq21,hx21,hq28,hx28,hq30,hx30,hq36,hx36,hq38,hx38,hq43,hx43,hq49,hx49,hq55,hx55,hq61,hx61,hq67,hx67]
 have h5L:x38=(rrM b).l5:=by simp only [rrM,ctV,ctR,hq11,hx11,hq19,hx19,hq21,hx21,hq28,hx28,hq30,hx30,hq36,hx36,hq38,hx38,hq43,hx43,hq49,hx49,hq55,hx55,hq61,hx61,hq67,hx67]
 have hrm:(⟨((zp x11:Nat):Int),⟨(x21).toArray⟩,x30,(zp x43),(zp x49),x38,((zp x55:Nat):Int),(numR x61),(numR x67)⟩:RecN)=rrM b:=by simp only [rrM,ctV,ctR,hq11,hx11,hq19,hx19,hq21,hx21,hq28,hx28,hq30,hx30,hq36,hx36,hq38,hx38,hq43,hx43,hq49,hx49,hq55,hx55,hq61,hx61,hq67,hx67]
 rw [hrm] at M70
 clear hrm
 refine rn rfl rfl F69 rfl _ (zjb _ _ rfl (F69.get rfl) (M70.blk (k:=5) rfl) (recA (rrM b) ⟨.slice A30 (x30).length c30,.slice A38 (x38).length c38⟩) (znb rfl) Tryz.underlying37 rfl (by kernel_rfl)) fun _ F72=>?_
 have hfl:(fewB (fewB (fewB (fewB (fewB (fewB (fewB (fewB (fewB (fewB (fewB (fewB false 1 b) 1 q11) (zp x19) q19) 1 q21) (zp x28) q28) 1 q30) (zp x36) q36) 4 q38) 4 q43) 1 q49) 8 q55) 8 q61)=bF:=by rw [←hF];simp only [fewR,fewC,ctR,hq11,hx11,hq19,hx19,hq21,hx21,hq28,hx28,hq30,hx30,hq36,hx36,hq38,hx38,hq43,hx43,hq49,hx49,hq55,hx55,hq61,hx61,hq67,hx67]
 rw [hfl] at M70
 clear hfl
 refine zh rfl rfl F72 rfl rfl (zE Tryz.func52 rfl) #[.agg (recA (rrM b) ⟨.slice A30 (x30).length c30,.slice A38 (x38).length c38⟩)] (zaa (F72.get rfl)) (hK▸rrecord_ex (rrM b) ⟨.slice A30 (x30).length c30,.slice A38 (x38).length c38⟩ (rrM_ok b) w70 ⟨h2L▸M70.isO (k:=12) rfl,h5L▸M70.isO (k:=16) rfl⟩) ?_
 rintro _ w73 a73 ⟨v73,rfl,hv73,b73⟩ F73
 have M73:=M70.newO b73 28 hv73
 clear M70 b73 hv73
 obtain ⟨A73,c73,rfl⟩:=(M73.isO (k:=28) rfl).shape
 refine zB 5 [(0,.slice A0 b.length c0),(2,(zO g2)),(3,.bool false),(4,(zO g7)),(5,(zO g14)),(6,.slice A73 ((recE (rrM b))).length c73),(7,.bool bK)] [] dnil [] F73 fun _ F74=>?_
 refine hK71 _ _ (zSk fun _ hK75=>?_)
 refine zT fun _ hK76=>zAx 3 [(65,(zO g7)),(66,(zO g7)),(67,(zP g7 1))] [] dnil [] F74 fun _ F77=>?_
 cases bF
 rotate_left
 ·refine zB 12 [(2,(zO g2)),(3,.bool false),(5,(zO g14)),(79,.bool true)] [0] (zu (M73.blk (k:=2) rfl) dnil) [g7] F77 fun _ F101=>?_
  refine hK76 _ _ (wp_cond_true (F101.get rfl) ?_)
  refine zT fun _ hK102=>rn rfl rfl F101 rfl (.agg (recA ⟨0, "".toUTF8,[],0,0,[],0,0,0⟩ ⟨zN,zN⟩)) (by unfold execOp;kernel_rfl) fun _ F103=>?_
  refine zt rfl rfl F103 M73 (k:=1) rfl _ _ _ rfl (F103.get rfl) (F103.get rfl) (recA ⟨0, "".toUTF8,[],0,0,[],0,0,0⟩ ⟨zN,zN⟩) _ rfl (zL rfl) (z6a (w:=w73) ⟨(zia _),(zia _)⟩) (zca rfl) (by kernel_rfl) ?_
  intro w104 M104
  refine rm rfl F103 fun _ F105=>hK102 _ _ (wp_ret ?_)
  try simp only [Exit.then,Exit.inBlock,Exit.jump]
  exact bodyPost_ret (resCT rfl (F105.get rfl) (M104.blk (k:=1) rfl) (F105.get rfl) Tryz.underlying37 rfl (by kernel_rfl)) F105.defers ⟨rvZero,(by rw [(rr_no (.inl hF)).1,(rr_no (.inl hF)).2];rfl),(by rw [(rr_no (.inl hF)).2];exact rvZero_is _),(fun q h=>h.elim (fun h=>(zpa q h).elim) (fun h=>(zpa q h).elim)),M104.below⟩
 refine zAx 3 [(68,.bool false),(69,.bool false),(70,.bool bK)] [0] (zu (M73.blk (k:=2) rfl) dnil) [g7] F77 fun _ F78=>?_
 cases bK
 ·refine zB 9 [(2,(zO g2)),(3,.bool false),(5,(zO g14)),(79,.bool true)] [] dnil [] F78 fun _ F79=>?_
  refine hK76 _ _ (wp_cond_true (F79.get rfl) ?_)
  refine zT fun _ hK80=>rn rfl rfl F79 rfl (.agg (recA ⟨0, "".toUTF8,[],0,0,[],0,0,0⟩ ⟨zN,zN⟩)) (by unfold execOp;kernel_rfl) fun _ F81=>?_
  refine zt rfl rfl F81 M73 (k:=1) rfl _ _ _ rfl (F81.get rfl) (F81.get rfl) (recA ⟨0, "".toUTF8,[],0,0,[],0,0,0⟩ ⟨zN,zN⟩) _ rfl (zL rfl) (z6a (w:=w73) ⟨(zia _),(zia _)⟩) (zca rfl) (by kernel_rfl) ?_
  intro w82 M82
  refine rm rfl F81 fun _ F83=>hK80 _ _ (wp_ret ?_)
  try simp only [Exit.then,Exit.inBlock,Exit.jump]
  exact bodyPost_ret (resCT rfl (F83.get rfl) (M82.blk (k:=1) rfl) (F83.get rfl) Tryz.underlying37 rfl (by kernel_rfl)) F83.defers ⟨rvZero,(by rw [(rr_no (.inr (.inl hK))).1,(rr_no (.inr (.inl hK))).2];rfl),(by rw [(rr_no (.inr (.inl hK))).2];exact rvZero_is _),(fun q h=>h.elim (fun h=>(zpa q h).elim) (fun h=>(zpa q h).elim)),M82.below⟩
 refine zAx 4 [(71,.bool false),(72,.bool false),(73,.bool false),(74,.slice A73 ((recE (rrM b))).length c73)] [] dnil [] F78 fun _ F84=>?_
 refine zc (w':=w73) (zd rfl rfl rfl (F84.get rfl)) rfl F84 rfl (.string (⟨((recE (rrM b))).toArray⟩)) (y_str _ rfl (F84.get rfl) (M73.isO (k:=28) rfl)) fun _ F85=>?_
 refine rm rfl F85 fun _ F86=>zc (w':=w73) (zd rfl rfl rfl (F86.get rfl)) rfl F86 rfl (.string (⟨(b).toArray⟩)) (y_str _ rfl (F86.get rfl) (M73.isb (k:=0) rfl)) fun _ F87=>?_
 by_cases h88:(recE (rrM b))=b
 rotate_left
 ·refine zc (w':=w73) (zd rfl rfl rfl (F87.get rfl)) rfl F87 rfl (.bool true) (y_neS _ _ _ rfl (F87.get rfl) (F87.get rfl) (str_neT h88)) fun _ F95=>?_
  refine rn rfl rfl F95 rfl (.bool true) (z0b rfl (F95.get rfl) (F95.get rfl)) fun _ F96=>?_
  refine hK76 _ _ (wp_cond_true (F96.get rfl) ?_)
  refine zT fun _ hK97=>rn rfl rfl F96 rfl (.agg (recA ⟨0, "".toUTF8,[],0,0,[],0,0,0⟩ ⟨zN,zN⟩)) (by unfold execOp;kernel_rfl) fun _ F98=>?_
  refine zt rfl rfl F98 M73 (k:=1) rfl _ _ _ rfl (F98.get rfl) (F98.get rfl) (recA ⟨0, "".toUTF8,[],0,0,[],0,0,0⟩ ⟨zN,zN⟩) _ rfl (zL rfl) (z6a (w:=w73) ⟨(zia _),(zia _)⟩) (zca rfl) (by kernel_rfl) ?_
  intro w99 M99
  refine rm rfl F98 fun _ F100=>hK97 _ _ (wp_ret ?_)
  try simp only [Exit.then,Exit.inBlock,Exit.jump]
  exact bodyPost_ret (resCT rfl (F100.get rfl) (M99.blk (k:=1) rfl) (F100.get rfl) Tryz.underlying37 rfl (by kernel_rfl)) F100.defers ⟨rvZero,(by rw [(rr_no (.inr (.inr h88))).1,(rr_no (.inr (.inr h88))).2];rfl),(by rw [(rr_no (.inr (.inr h88))).2];exact rvZero_is _),(fun q h=>h.elim (fun h=>(zpa q h).elim) (fun h=>(zpa q h).elim)),M99.below⟩
 refine zc (w':=w73) (zd rfl rfl rfl (F87.get rfl)) rfl F87 rfl (.bool false) (y_neS _ _ _ rfl (F87.get rfl) (F87.get rfl) (str_neF h88)) fun _ F89=>?_
 refine rn rfl rfl F89 rfl (.bool false) (z0b rfl (F89.get rfl) (F89.get rfl)) fun _ F90=>?_
 refine hK76 _ _ (wp_cond_false (F90.get rfl) ?_)
 refine wp_skip (hK75 _ _ (zSk fun _ hK91=>?_))
 refine zR (rn rfl rfl F90 rfl _ (zjb _ _ rfl (F90.get rfl) (M73.blk (k:=5) rfl) (recA (rrM b) ⟨.slice A30 (x30).length c30,.slice A38 (x38).length c38⟩) (znb rfl) Tryz.underlying37 rfl (by kernel_rfl)) fun _ F92=>?_)
 refine zt rfl rfl F92 M73 (k:=1) rfl _ _ _ rfl (F92.get rfl) (F92.get rfl) (recA (rrM b) ⟨.slice A30 (x30).length c30,.slice A38 (x38).length c38⟩) _ rfl (zL rfl) (z6a (w:=w73) ⟨h2L▸(M73.isO (k:=12) rfl),h5L▸(M73.isO (k:=16) rfl)⟩) (zca rfl) (by kernel_rfl) ?_
 intro w93 M93
 refine rm rfl F92 fun _ F94=>hK91 _ _ (wp_ret ?_)
 exact bodyPost_ret (resCT rfl (F94.get rfl) (M93.blk (k:=1) rfl) (F94.get rfl) Tryz.underlying37 rfl (by kernel_rfl)) F94.defers ⟨⟨.slice A30 (x30).length c30,.slice A38 (x38).length c38⟩,(by rw [(rr_yes hF hK h88).1,(rr_yes hF hK h88).2]),(by rw [(rr_yes hF hK h88).2];exact ⟨h2L▸M93.isO (k:=12) rfl,h5L▸M93.isO (k:=16) rfl⟩),(fun q h=>h.elim (fun h=>M93.owns (k:=12) rfl q (zta h)) (fun h=>M93.owns (k:=16) rfl q (zta h))),M93.below⟩
end
section
open Go.Shelf
def Oz (w:World) (v:Value) (l:List UInt8):Prop:=
 ∃ g c cur lo hi,v=.slice (some ⟨g,0,none⟩) l.length c∧w.heap[g]? = some (.cells cur 5 (lo,hi))∧l.length≤lo∧l.length≤c∧c≤maxLen∧∀ (j:Nat) (b:UInt8),l[j]? = some b→cur[j]? = some (bv b)
def ozR (l:List UInt8) (v:Value):Res:=⟨true,ofp v,fun w=>Oz w v l⟩
theorem Oz.same {l:List UInt8} {v:Value} {u u':World} (hs:Same (ofp v) u u') (h:Oz u v l):Oz u' v l:=by
 obtain ⟨g,c,cur,lo,hi,rfl,hg,h1,h2,h3,h4⟩:=h
 exact ⟨g,c,cur,lo,hi,rfl,hs g _ (by simp [ofp,Value.ownBlock]) hg,h1,h2,h3,h4⟩
theorem ozR_dep {l:List UInt8} {v:Value}:∀ u u',Same (ozR l v).fp u u'→(ozR l v).F u→(ozR l v).F u':=fun _ _ hs h=>Oz.same hs h
theorem Oz.isb {w:World} {v:Value} {l:List UInt8} (h:Oz w v l):IsB w l v:=by
 obtain ⟨g,c,cur,lo,hi,rfl,hg,h1,h2,h3,h4⟩:=h
 refine ⟨_,_,rfl,h2,h3,(fun e=>by cases e),fun _=>⟨_,rfl,z2a hg,fun j b hj=>?_⟩⟩
 rw [zna,Nat.zero_add]
 simp [World.cell?,hg,h4 j b hj]
theorem Oz.lt {w:World} {v:Value} {l:List UInt8} (h:Oz w v l):∀ g,ofp v g→g<w.heap.size:=fun q hq=>by
 obtain ⟨g,c,cur,lo,hi,rfl,hg,h1,h2,h3,h4⟩:=h
 obtain rfl:g=q:=by simpa [ofp,Value.ownBlock] using hq
 exact z2a hg
section
variable {G:Option Nat} {w0 w w':World} {R:List (Nat×Res)} {l:List UInt8} {v:Value} {a:Act} {o:Oper}
theorem Mx.isZ (M:Mx G w0 w R) {k:Nat} (h:look R k=some (ozR l v)):IsB w l v:=Oz.isb (M.at_ k _ h)
theorem Mx.tameZ (M:Mx G w0 w R) {k:Nat} (hk:look R k=some (ozR l v)):Mx G w0 w ((k,bytR l v)::R):=
 M.cons k _ (M.isZ hk) z2b (fun g hg=>M.lt k _ hk g (zta hg)) (fun e=>by cases e) fun j s e hj _ g hg hs=>M.dis k j _ s hk e hj rfl g (zta hg) hs
theorem run_cvZ (M:Mx G w0 w R) (i:Nat) (x:Operand) (ho:o.op=.convert 9 23 x) {s:ByteArray} (hx:a.eval x=.string s) (hs:s.size≤1000000):
  ∃ v w',(execOp a.eval o).run Tryz.prog w=.ok (.value v) w'∧Mx G w0 w' ((i,ozR (sBy s) v)::R):=by
 have hc:=grownCap_ge w s.size 0 5
 have hm:=grownCap_le_maxLen w s.size 0 5 (by unfold maxLen;omega)
 obtain ⟨w',hw'⟩:∃ w',w'=w.drew.alloc (.cells (bytesRow s (grownCap w s.size 0 5)) 5 ((bytesRow s (grownCap w s.size 0 5)).size,(bytesRow s (grownCap w s.size 0 5)).size+1)):=⟨_,rfl⟩
 have hh:w'.heap[w.heap.size]? = some (.cells (bytesRow s (grownCap w s.size 0 5)) 5 ((bytesRow s (grownCap w s.size 0 5)).size,(bytesRow s (grownCap w s.size 0 5)).size+1)):=by
  rw [hw'];exact heap_alloc_new w.drew _
 have hcell:∀ j b,(sBy s)[j]? = some b→(bytesRow s (grownCap w s.size 0 5))[j]? = some (bv b):=fun j b hj=>by
  have hl:=(List.getElem?_eq_some_iff.1 hj).1
  rw [sBy_len] at hl
  unfold bytesRow sBy at *
  rw [Array.getElem?_append]
  rw [if_pos (by simpa using hl)]
  rw [Array.getElem?_toList] at hj
  simp [hj,bv]
 have hlo:(sBy s).length≤(bytesRow s (grownCap w s.size 0 5)).size:=by
  rw [sBy_len];unfold bytesRow;simp
 refine ⟨.slice (some ⟨w.heap.size,0,none⟩) s.size (grownCap w s.size 0 5),w',?_,M.fresh (by rw [hw'];exact (zsa w).trans (zqa w.drew _)) i _ ⟨_,_,_,_,_,by rw [sBy_len],hh,hlo,by rw [sBy_len];exact hc,hm,hcell⟩ ozR_dep fun g hg=>?_⟩
 ·have h:=run_bytes_of_string w 9 23 5 s Tryz.underlying9 Tryz.underlying23 Tryz.underlying5
  rw [hw']
  exact run_cv' _ _ x ho hx h
 ·obtain rfl:w.heap.size=g:=by simpa [ozR,ofp,Value.ownBlock] using hg
  exact ⟨Nat.le_refl _,z2a hh⟩
theorem run_setZ (M:Mx G w0 w R) {k:Nat} (hk:look R k=some (ozR l v)) (x y:Operand) (ho:o.op=.store 5 x y) {j:Nat} (hx:a.eval x=ixV v j) {z:Int} (b:UInt8) (hy:a.eval y=zY z) (hz:z=(b.toNat:Int)) (hj:j<l.length):
  ∃ w',(execOp a.eval o).run Tryz.prog w=.ok .skip w'∧Mx G w0 w' ((k,ozR (l.set j b) v)::R):=by
 subst hz
 have hown:Oz w v l:=M.at_ k _ hk
 obtain ⟨g,c,cur,lo,hi,rfl,hg,h1,h2,h3,h4⟩:=hown
 have hi1:(Tryz.prog.info? 5).map (·.size)=some 1:=by kernel_rfl
 have hold:=h4 j l[j] (List.getElem?_eq_getElem hj)
 have hrun:=run_storeCells_cells (P:=Tryz.prog) g j [bv b] 0 w (fun q hq=>by
   obtain rfl:q=0:=by simpa using hq
   simp [World.cell?,hg,hold]) (fun q hq=>by
   obtain rfl:q=0:=by simpa using hq
   simp only [Nat.add_zero,World.frozen?,hg]
   simp;omega) (fun u hu=>by
   obtain rfl:u=bv b:=by simpa using hu
   simp [bv,Value.oneCell'])
 obtain ⟨cur',k1,k2,k3,k4⟩:=heap_setCells g [bv b] j w cur 5 (lo,hi) hg
 have hjc:j<cur.size:=(Array.getElem?_eq_some_iff.1 hold).1
 refine ⟨w.setCells g j [bv b],?_,M.write hk rfl (grown_setCells g _ _ _) (fun q e=>by cases e;simp [ozR,ofp,Value.ownBlock]) _ ⟨g,c,cur',lo,hi,by rw [List.length_set],k1,by rw [List.length_set];exact h1,by rw [List.length_set];exact h2,h3,fun q u hq=>?_⟩ ozR_dep fun q hq=>?_⟩
 ·have hrun2:(Instr.storeAt 5 (zP g j) (zY (b.toNat:Int))).run Tryz.prog w=.ok () (w.setCells g j [bv b]):=by
   simp only [Instr.storeAt,Instr.sureAddr,Sem.run_bind,Sem.run_pure,Result.andThen_ok]
   simp only [Nat.add_zero] at hrun
   cases hq:Tryz.prog.info? 5 with
   | none=>simp [hq] at hi1
   | some i=>
    have hz:i.size=1:=by simpa [hq] using hi1
    simp [storeVar,Sem.run_bind,sizeOf,typeInfo,hq,hz,Value.cells]
    simpa [bv] using hrun
  have hx':a.eval x=(zP g j):=by rw [hx];simp [ixV,zna]
  unfold execOp
  simp only [ho,hx',hy,Sem.run_bind,hrun2,Result.andThen_ok,Sem.run_pure]
 ·rw [List.getElem?_set] at hq
  by_cases e:j=q
  ·subst e
   rw [if_pos rfl,if_pos hj] at hq
   obtain rfl:=Option.some.inj hq
   have:=k3 0 (by simp) (by simpa using hjc)
   simpa using this
  ·rw [if_neg e] at hq
   rw [k4 q (by simp;omega)]
   exact h4 q u hq
 ·have e:g=q:=by simpa [ozR,ofp,Value.ownBlock] using hq
  subst e
  refine ⟨z2a k1,.inl (by simp [ozR,ofp,Value.ownBlock])⟩
end
end
def nmC (x:UInt8):UInt8:=zj (33+((x.toNat:Nat):Int)%94)
def nmL (l:List UInt8):List UInt8:=l.map nmC
theorem nmL_len (l:List UInt8):(nmL l).length=l.length:=by simp [nmL]
def nmP (l:List UInt8) (j:Nat):List UInt8:=(l.take j).map nmC++l.drop j
theorem nmP_len (l:List UInt8) (j:Nat):(nmP l j).length=l.length:=by simp [nmP];omega
theorem nmP_zero (l:List UInt8):nmP l 0=l:=by simp [nmP]
theorem nmP_all (l:List UInt8):nmP l l.length=nmL l:=by simp [nmP,nmL]
theorem nmP_at {l:List UInt8} {j:Nat} {x:UInt8} (h:l[j]? = some x):(nmP l j)[j]? = some x:=by
 have hl:=(List.getElem?_eq_some_iff.1 h).1
 unfold nmP
 rw [List.getElem?_append_right (by simp;omega)]
 simp [Nat.min_eq_left (Nat.le_of_lt hl),h]
theorem nmP_set {l:List UInt8} {j:Nat} {x:UInt8} (h:l[j]? = some x):(nmP l j).set j (zj (33+((x.toNat:Nat):Int)%94))=nmP l (j+1):=by
 have hl:=(List.getElem?_eq_some_iff.1 h).1
 unfold nmP
 rw [List.set_append_right _ _ (by simp;omega),List.take_add_one,h,List.map_append,List.append_assoc]
 congr 1
 rw [List.length_map,List.length_take,Nat.min_eq_left (Nat.le_of_lt hl),Nat.sub_self,List.drop_eq_getElem_cons hl]
 simp [nmC,(List.getElem?_eq_some_iff.1 h).2]
def nmB (s:ByteArray):ByteArray:=if (sBy s).length=0 then ⟨#[117]⟩ else ⟨((nmL (sBy s)).take (min (sBy s).length 16)).toArray⟩
theorem nmB_nil {s:ByteArray} (h:(sBy s).length=0):nmB s=⟨#[117]⟩:=if_pos h
theorem nmB_some {s:ByteArray} (h:¬(sBy s).length=0):nmB s=⟨((nmL (sBy s)).take (min (sBy s).length 16)).toArray⟩:=if_neg h
theorem nmC_in (x:UInt8):33≤(nmC x).toNat∧(nmC x).toNat≤126:=by
 have h:=zvc (33+((x.toNat:Nat):Int)%94)
 have h1:=Int.emod_nonneg ((x.toNat:Nat):Int) (show (94:Int)≠0 by decide)
 have h2:=Int.emod_lt_of_pos ((x.toNat:Nat):Int) (show (0:Int)<94 by decide)
 show 33≤(zj _).toNat∧(zj _).toNat≤126
 omega
theorem lname_any (s:ByteArray) (hs:s.size≤40) (w:World):
  Calls Tryz.prog 70 #[.string s] w fun e w'=>e=.returned (.string (nmB s))∧Below w.heap.size w w':=by
 have hsl:(sBy s).length≤40:=by rw [sBy_len];exact hs
 refine zk (args:=[.string s]) 33 Tryz.func70 rfl rfl rfl ?_
 intro fa F
 have M:=Mx.start w
 refine zT fun _ hK1=>rm rfl F fun _ F2=>hK1 _ _ (zSk fun _ hK3=>?_)
 refine zR (rm rfl F2 fun _ F4=>zwa rfl rfl F4 rfl (run_cvZ M 0 _ rfl (F4.get rfl) (Nat.le_trans hs (by omega))) ?_)
 intro v5 a5 w5 F5 M5
 obtain ⟨A5,c5,rfl⟩:=(M5.isZ (k:=0) rfl).shape
 refine rm rfl F5 fun _ F6=>hK3 _ _ (zSk fun _ hK7=>?_)
 refine zT fun _ hK8=>rm rfl F6 fun _ F9=>hK8 _ _ (wp_block ?_)
 have hz:=nmP_zero (sBy s)
 refine zeb (α:=Nat) (n:=33) (G:=none) (w0:=w) (fun x=>[(0,.string s),(2,.string ({ data:=#[] })),(5,.string s),(6,.slice A5 ((sBy s)).length c5),(3,.slice A5 ((sBy s)).length c5),(4,zI (x:Int))]) (fun x=>[(0,ozR (nmP (sBy s) x) (.slice A5 ((sBy s)).length c5))]) (fun k x=>k=(sBy s).length-x∧(x≤(sBy s).length)) _ 0 ⟨rfl,(Nat.zero_le _)⟩ (F9.sb) (M5.sub ⟨(by rw [hz];rfl),trivial⟩) ?_
 rintro k10 jn a10 w10 K10 ⟨ek10,I10⟩ F10 M10 hK10
 replace F10:Fx 33 a10 [(0,.string s),(2,.string ({ data:=#[] })),(5,.string s),(6,.slice A5 ((sBy s)).length c5),(3,.slice A5 ((sBy s)).length c5),(4,zI (jn:Int))]:=F10
 replace M10:Mx _ _ w10 [(0,ozR (nmP (sBy s) jn) (.slice A5 ((sBy s)).length c5))]:=M10
 replace I10:jn≤(sBy s).length:=I10
 replace ek10:k10=(sBy s).length-jn:=ek10
 by_cases hlt:jn<(sBy s).length
 rotate_left
 ·obtain rfl:jn=(sBy s).length:=by omega
  have hal:=nmP_all (sBy s)
  rw [hal] at M10
  refine zSk fun _ hK33=>zSk fun _ hK34=>zR (rm rfl F10 fun _ F35=>rm rfl F35 fun _ F36=>rn rfl rfl F36 rfl (zI ((sBy s).length:Int)) (z8a _ rfl (F36.get rfl) (M10.isZ (k:=0) rfl) (by rw [nmL_len])) fun _ F37=>?_)
  refine rn rfl rfl F37 rfl (.bool false) (zka _ _ _ _ rfl (F37.get rfl) (F37.get rfl) (decide_eq_false (Int.lt_irrefl _))) fun _ F38=>?_
  refine hK34 _ _ (wp_cond_false (F38.get rfl) ?_)
  refine wp_exit ?_
  simp only [Exit.then,Exit.inBlock,↓reduceIte,Nat.reduceEqDiff]
  refine hK7 _ _ (zSk fun _ hK39=>?_)
  refine zT fun _ hK40=>rm rfl F38 fun _ F41=>rn rfl rfl F41 rfl (zI ((sBy s).length:Int)) (z8a _ rfl (F41.get rfl) (M10.isZ (k:=0) rfl) (by rw [nmL_len])) fun _ F42=>?_
  by_cases h43:((sBy s).length:Int)=0
  ·refine rn rfl rfl F42 rfl (.bool true) (zza _ _ _ _ rfl (F42.get rfl) rfl Tryz.underlying3 (zmb h43)) fun _ F44=>?_
   refine hK40 _ _ (wp_cond_true (F44.get rfl) ?_)
   refine zT fun _ hK45=>rm rfl F44 fun _ F46=>hK45 _ _ (wp_ret ?_)
   try simp only [Exit.then,Exit.inBlock,Exit.jump]
   exact bodyPost_ret (res1 rfl (F46.get rfl)) F46.defers ⟨by rw [nmB_nil (by omega)],M10.below⟩
  refine rn rfl rfl F42 rfl (.bool false) (zza _ _ _ _ rfl (F42.get rfl) rfl Tryz.underlying3 (zib h43)) fun _ F47=>?_
  refine hK40 _ _ (wp_cond_false (F47.get rfl) ?_)
  refine wp_skip (hK39 _ _ (zSk fun _ hK48=>?_))
  refine zR (rm rfl F47 fun _ F49=>rm rfl F49 fun _ F50=>rn rfl rfl F50 rfl (zI ((sBy s).length:Int)) (z8a _ rfl (F50.get rfl) (M10.isZ (k:=0) rfl) (by rw [nmL_len])) fun _ F51=>?_)
  refine rn rfl rfl F51 rfl (zI ((min ((sBy s).length) 16:Nat):Int)) (y_min _ _ rfl (F51.get rfl) rfl (by split <;> omega)) fun _ F52=>?_
  refine zrc rfl rfl F52 rfl (y_slTo _ _ rfl (F52.get rfl) (M10.isZ (k:=0) rfl) (F52.get rfl) (j:=(min (sBy s).length 16)) rfl (by rw [nmL_len];omega)) ?_
  intro v53 a53 h53 F53
  have M54:=M10.tameZ (k:=0) rfl
  have M53:=M54.partB 1 (k:=0) rfl h53.1 h53.2
  obtain ⟨A53,c53,rfl⟩:=(M53.isb (k:=1) rfl).shape
  refine rn rfl rfl F53 rfl (.string (⟨(((nmL (sBy s)).take (min (sBy s).length 16))).toArray⟩)) (y_str _ rfl (F53.get rfl) (M53.isb (k:=1) rfl)) fun _ F55=>?_
  refine rm rfl F55 fun _ F56=>hK48 _ _ (wp_ret ?_)
  exact bodyPost_ret (res1 rfl (F56.get rfl)) F56.defers ⟨by rw [nmB_some (by omega)],M53.below⟩
 obtain ⟨x,hx⟩:∃ x,(sBy s)[jn]? = some x:=⟨_,List.getElem?_eq_getElem hlt⟩
 have hxl:=x.toNat_lt
 have hpx:=nmP_at hx
 have hps:=nmP_set hx
 have hpl:=nmP_len (sBy s) jn
 refine zSk fun _ hK11=>zSk fun _ hK12=>zR (rm rfl F10 fun _ F13=>rm rfl F13 fun _ F14=>rn rfl rfl F14 rfl (zI ((sBy s).length:Int)) (z8a _ rfl (F14.get rfl) (M10.isZ (k:=0) rfl) (by rw [nmP_len])) fun _ F15=>?_)
 refine rn rfl rfl F15 rfl (.bool true) (zka _ _ _ _ rfl (F15.get rfl) (F15.get rfl) (decide_eq_true (show (jn:Int)<((sBy s).length:Int) by omega))) fun _ F16=>?_
 refine hK12 _ _ (wp_cond_true (F16.get rfl) ?_)
 refine wp_skip (hK11 _ _ (zSk fun _ hK17=>?_))
 refine wp_block (zR (rm rfl F16 fun _ F18=>rm rfl F18 fun _ F19=>rm rfl F19 fun _ F20=>rm rfl F20 fun _ F21=>rn rfl rfl F21 rfl ((ixV (.slice A5 ((sBy s)).length c5) jn)) (y_ixB _ _ rfl (F21.get rfl) (M10.isZ (k:=0) rfl) (F21.get rfl) rfl (by rw [nmP_len];omega)) fun _ F22=>?_))
 refine rn rfl rfl F22 rfl (zY ((x.toNat:Nat):Int)) (y_ldB _ rfl (F22.get rfl) (M10.isZ (k:=0) rfl) hpx rfl) fun _ F23=>?_
 refine rn rfl rfl F23 rfl (zI ((x.toNat:Nat):Int)) (y_cvI _ _ _ rfl (F23.get rfl) Tryz.underlying5 Tryz.underlying3 (byte_i64 _)) fun _ F24=>?_
 refine zh rfl rfl F24 rfl rfl (zE Tryz.func69 rfl) #[zI ((x.toNat:Nat):Int),zI 94] (zfa (F24.get rfl) rfl) (zba ((zqc ((x.toNat:Nat):Int) 94 (by omega) (by omega) (by omega) (by omega) w10))) ?_
 rintro _ w25 a25 ⟨rfl,rfl⟩ F25
 refine rn rfl rfl F25 rfl (zI (33+(((x.toNat:Nat):Int)%94))) (zoa _ _ _ _ rfl rfl (F25.get rfl) rfl (by omega)) fun _ F26=>?_
 refine rn rfl rfl F26 rfl (zY (((zj (33+(((x.toNat:Nat):Int)%94))).toNat:Nat):Int)) (y_cvI _ _ _ rfl (F26.get rfl) Tryz.underlying3 Tryz.underlying5 (ztb _)) fun _ F27=>?_
 refine rn rfl rfl F27 rfl ((ixV (.slice A5 ((sBy s)).length c5) jn)) (y_ixB _ _ rfl (F27.get rfl) (M10.isZ (k:=0) rfl) (F27.get rfl) rfl (by rw [nmP_len];omega)) fun _ F28=>?_
 refine wl_doM rfl rfl F28 (run_setZ M10 (k:=0) rfl _ _ rfl (F28.get rfl) (zj (33+(((x.toNat:Nat):Int)%94))) (F28.get rfl) rfl (by rw [nmP_len];omega)) ?_
 intro w29 M29
 refine hK17 _ _ (zR ?_)
 refine rm rfl F28 fun _ F30=>rn rfl rfl F30 rfl (zI ((jn+1:Nat):Int)) (zoa _ _ _ _ rfl (F30.get rfl) rfl (by omega) (by omega)) fun _ F31=>?_
 refine rm rfl F31 fun _ F32=>?_
 subst ek10
 exact hK10 _ (jn+1) _ _ (by omega) ⟨rfl,(by omega)⟩ (F32.sb) (M29.sub ⟨(by rw [←hps];rfl),trivial⟩)
theorem z5c {p q:Int} (hp:-9223372036854775808≤p∧p<9223372036854775808) (hq:0<q):-9223372036854775808≤p.tdiv q∧p.tdiv q<9223372036854775808:=
 ⟨(tdiv_in hp hq).1,Int.lt_of_le_of_lt (tdiv_in hp hq).2 (by decide)⟩
def mkR (n:Int) (s:ByteArray) (b:List UInt8):RecN:=
 ⟨1+n%2,nmB s,b.take (n%((min b.length 16+1:Nat):Int)).toNat,((n.tdiv 2)%4294967296).toNat,((n.tdiv 7)%4294967296).toNat,b.take ((n.tdiv 3)%((min b.length 48+1:Nat):Int)).toNat,(n.tdiv 11)%6,(n.tdiv 13)%1000,(n.tdiv 17)%1099511627776⟩
theorem make_rec (n:Int) (s:ByteArray) (b:List UInt8) (v:Value) (hN:-9223372036854775808≤n∧n<9223372036854775808) (hs:s.size≤40) (hbl:b.length≤1000) (w:World) (hv:IsB w b v):
  Calls Tryz.prog 47 #[zI n,.string s,v] w fun e w'=>∃ t,e=.returned t∧∃ V,t=.agg (recA (mkR n s b) V)∧RecIs w' (mkR n s b) V∧(∀ g,bfp V.v2 g∨bfp V.v5 g→w.heap.size≤g)∧Below w.heap.size w w':=by
 obtain ⟨K2,hK2⟩:∃ K:Nat,n%((min b.length 16+1:Nat):Int)=(K:Int):=⟨(n%((min b.length 16+1:Nat):Int)).toNat,(Int.toNat_of_nonneg (Int.emod_nonneg _ (by omega))).symm⟩
 obtain ⟨K5,hK5⟩:∃ K:Nat,(n.tdiv 3)%((min b.length 48+1:Nat):Int)=(K:Int):=⟨((n.tdiv 3)%((min b.length 48+1:Nat):Int)).toNat,(Int.toNat_of_nonneg (Int.emod_nonneg _ (by omega))).symm⟩
 have hK2l:=Int.emod_lt_of_pos n (show 0<((min b.length 16+1:Nat):Int) by omega)
 have hK5l:=Int.emod_lt_of_pos (n.tdiv 3) (show 0<((min b.length 48+1:Nat):Int) by omega)
 have hK2b:K2≤b.length:=by omega
 have hK5b:K5≤b.length:=by omega
 refine zk (args:=[zI n,.string s,v]) 57 Tryz.func47 rfl rfl rfl ?_
 intro fa F
 have M:=Mx.start w
 replace M:=M.argB 0 hv (fun g e=>by cases e)
 refine zT fun _ hK1=>zq rfl rfl F rfl M 1 (t:=37) (c:=recA ⟨0, "".toUTF8,[],0,0,[],0,0,0⟩ ⟨zN,zN⟩) (by unfold execOp;kernel_rfl) ?_
 intro g2 a2 w2 F2 M2
 refine hK1 _ _ (zSk fun _ hK3=>?_)
 refine zR (rm rfl F2 fun _ F4=>zh rfl rfl F4 rfl rfl (zE Tryz.func69 rfl) #[zI n,zI 2] (zfa (F4.get rfl) rfl) (zba ((zqc n 2 (by omega) (by omega) hN.1 hN.2 w2))) ?_)
 rintro _ w5 a5 ⟨rfl,rfl⟩ F5
 refine rn rfl rfl F5 rfl (zI (1+(n%2))) (zoa _ _ _ _ rfl rfl (F5.get rfl) rfl (by omega)) fun _ F6=>?_
 refine rm rfl F6 fun _ F7=>zh rfl rfl F7 rfl rfl (zE Tryz.func70 rfl) #[.string s] (zaa (F7.get rfl)) (zba ((lname_any s hs w2))) ?_
 rintro _ w8 a8 ⟨rfl,b8⟩ F8
 have M8:=M2.step b8
 refine rm rfl F8 fun _ F9=>rn rfl rfl F9 rfl (zI (n.tdiv 2)) (y_quoT _ _ _ _ rfl (F9.get rfl) rfl hN (by decide) rfl) fun _ F10=>?_
 refine zh rfl rfl F10 rfl rfl (zE Tryz.func69 rfl) #[zI (n.tdiv 2),zI 4294967296] (zfa (F10.get rfl) rfl) (zba ((zqc (n.tdiv 2) 4294967296 (by omega) (by omega) (z5c hN (show (0:Int)<2 by decide)).1 (z5c hN (show (0:Int)<2 by decide)).2 w8))) ?_
 rintro _ w11 a11 ⟨rfl,rfl⟩ F11
 refine zh rfl rfl F11 rfl rfl (zE Tryz.func71 rfl) #[zI ((n.tdiv 2)%4294967296)] (zaa (F11.get rfl)) (zba ((from_ref ((n.tdiv 2)%4294967296) (by omega) (by omega) w8))) ?_
 rintro _ w12 a12 ⟨rfl,b12⟩ F12
 have M12:=M8.step b12
 refine rm rfl F12 fun _ F13=>rn rfl rfl F13 rfl (zI (n.tdiv 7)) (y_quoT _ _ _ _ rfl (F13.get rfl) rfl hN (by decide) rfl) fun _ F14=>?_
 refine zh rfl rfl F14 rfl rfl (zE Tryz.func69 rfl) #[zI (n.tdiv 7),zI 4294967296] (zfa (F14.get rfl) rfl) (zba ((zqc (n.tdiv 7) 4294967296 (by omega) (by omega) (z5c hN (show (0:Int)<7 by decide)).1 (z5c hN (show (0:Int)<7 by decide)).2 w12))) ?_
 rintro _ w15 a15 ⟨rfl,rfl⟩ F15
 refine zh rfl rfl F15 rfl rfl (zE Tryz.func71 rfl) #[zI ((n.tdiv 7)%4294967296)] (zaa (F15.get rfl)) (zba ((from_ref ((n.tdiv 7)%4294967296) (by omega) (by omega) w12))) ?_
 rintro _ w16 a16 ⟨rfl,b16⟩ F16
 have M16:=M12.step b16
 refine rm rfl F16 fun _ F17=>rn rfl rfl F17 rfl (zI (n.tdiv 11)) (y_quoT _ _ _ _ rfl (F17.get rfl) rfl hN (by decide) rfl) fun _ F18=>?_
 refine zh rfl rfl F18 rfl rfl (zE Tryz.func69 rfl) #[zI (n.tdiv 11),zI 6] (zfa (F18.get rfl) rfl) (zba ((zqc (n.tdiv 11) 6 (by omega) (by omega) (z5c hN (show (0:Int)<11 by decide)).1 (z5c hN (show (0:Int)<11 by decide)).2 w16))) ?_
 rintro _ w19 a19 ⟨rfl,rfl⟩ F19
 refine rm rfl F19 fun _ F20=>rn rfl rfl F20 rfl (zI (n.tdiv 13)) (y_quoT _ _ _ _ rfl (F20.get rfl) rfl hN (by decide) rfl) fun _ F21=>?_
 refine zh rfl rfl F21 rfl rfl (zE Tryz.func69 rfl) #[zI (n.tdiv 13),zI 1000] (zfa (F21.get rfl) rfl) (zba ((zqc (n.tdiv 13) 1000 (by omega) (by omega) (z5c hN (show (0:Int)<13 by decide)).1 (z5c hN (show (0:Int)<13 by decide)).2 w16))) ?_
 rintro _ w22 a22 ⟨rfl,rfl⟩ F22
 refine rm rfl F22 fun _ F23=>rn rfl rfl F23 rfl (zI (n.tdiv 17)) (y_quoT _ _ _ _ rfl (F23.get rfl) rfl hN (by decide) rfl) fun _ F24=>?_
 refine zh rfl rfl F24 rfl rfl (zE Tryz.func69 rfl) #[zI (n.tdiv 17),zI 1099511627776] (zfa (F24.get rfl) rfl) (zba ((zqc (n.tdiv 17) 1099511627776 (by omega) (by omega) (z5c hN (show (0:Int)<17 by decide)).1 (z5c hN (show (0:Int)<17 by decide)).2 w16))) ?_
 rintro _ w25 a25 ⟨rfl,rfl⟩ F25
 refine rn rfl rfl F25 rfl (.agg (recA ⟨1+(n%2),(nmB s),[],(((n.tdiv 2)%4294967296)).toNat,(((n.tdiv 7)%4294967296)).toNat,[],((n.tdiv 11)%6),((n.tdiv 13)%1000),((n.tdiv 17)%1099511627776)⟩ ⟨zN,zN⟩)) (by unfold execOp;simp only [List.map_toArray,List.map_cons,List.map_nil,(F25 10 rfl),(F25 12 rfl),(F25 16 rfl),(F25 20 rfl),(F25 23 rfl),(F25 26 rfl),(F25 29 rfl)];kernel_rfl) fun _ F26=>?_
 refine zq rfl rfl F26 rfl M16 2 (t:=37) (c:=recA ⟨0, "".toUTF8,[],0,0,[],0,0,0⟩ ⟨zN,zN⟩) (by unfold execOp;kernel_rfl) ?_
 intro g27 a27 w27 F27 M27
 refine zt rfl rfl F27 M27 (k:=2) rfl _ _ _ rfl (F27.get rfl) (F27.get rfl) (recA ⟨1+(n%2),(nmB s),[],(((n.tdiv 2)%4294967296)).toNat,(((n.tdiv 7)%4294967296)).toNat,[],((n.tdiv 11)%6),((n.tdiv 13)%1000),((n.tdiv 17)%1099511627776)⟩ ⟨zN,zN⟩) _ rfl (zL rfl) (z6a (w:=w27) ⟨(zia _),(zia _)⟩) (zca rfl) (by kernel_rfl) ?_
 intro w28 M28
 refine hK3 _ _ (zSk fun _ hK29=>?_)
 refine zva F27 (SE [.inl (zP g27 2),.inl (zN),.inl (v),.inl (zI n),.inl (v),.inl (zI (b.length:Int)),.inl (zI ((min b.length 16:Nat):Int)),.inl (zI ((min b.length 16+1:Nat):Int)),.inl (zI (K2:Int)),.inr (fun _=>True)]) (JM none w fun SV pV=>[(0,bytR b v),(1,blkR g2 37 (recA ⟨0, "".toUTF8,[],0,0,[],0,0,0⟩ ⟨zN,zN⟩)),(2,blkR g27 37 (recA ⟨1+(n%2),(nmB s),[],(((n.tdiv 2)%4294967296)).toNat,(((n.tdiv 7)%4294967296)).toNat,[],((n.tdiv 11)%6),((n.tdiv 13)%1000),((n.tdiv 17)%1099511627776)⟩ ⟨zN,zN⟩)),(3,z5a (SV 9) (bytR (b.take K2) (pV 9)))]) 10 rfl (by kernel_rfl) rfl ⟨trivial,trivial,trivial,trivial,trivial,trivial,trivial,trivial,trivial,trivial,trivial⟩ (fun p=>((M28.step (zsa _)).triv 3).sub ⟨rfl,rfl,rfl,rfl,trivial⟩) ⟨zcb F27,hopMP F27 (fun _ _ _ M=>zu (Mx.blk (k:=2) M rfl) dnil) (some g27),zcb F27,zcb F27,zcb F27,?_,?_,?_,?_,?_,trivial⟩ ?_
 ·intro ua uw SV pV (M:Mx none w uw _) hk hn hd
  have e35:ua.eval (.tmp 35)=v:=zQ1 (hd 35 (by decide))
  exact ze rfl (zI (b.length:Int)) (z8a _ rfl e35 (M.isb (k:=0) rfl) rfl) rfl (M.sb)
 ·intro ua uw SV pV (M:Mx none w uw _) hk hn hd
  have e36:ua.eval (.tmp 36)=zI (b.length:Int):=zQ1 (hd 36 (by decide))
  exact ze rfl (zI ((min b.length 16:Nat):Int)) (y_min _ _ rfl e36 rfl (by split <;> omega)) rfl (M.sb)
 ·intro ua uw SV pV (M:Mx none w uw _) hk hn hd
  have e37:ua.eval (.tmp 37)=zI ((min b.length 16:Nat):Int):=zQ1 (hd 37 (by decide))
  exact ze rfl (zI ((min b.length 16+1:Nat):Int)) (zoa _ _ _ _ rfl e37 rfl (by omega) (by omega)) rfl (M.sb)
 ·intro ua uw SV pV (M:Mx none w uw _) hk hn hd
  have e34:ua.eval (.tmp 34)=zI n:=zQ1 (hd 34 (by decide))
  have e38:ua.eval (.tmp 38)=zI ((min b.length 16+1:Nat):Int):=zQ1 (hd 38 (by decide))
  exact z9a rfl rfl #[zI n,zI ((min b.length 16+1:Nat):Int)] (zfa e34 e38) (zE Tryz.func69 rfl) (((same_eq ((hK2▸zqc n ((min b.length 16+1:Nat):Int) (by omega) (by omega) hN.1 hN.2 uw)))).mono fun e w2 h=>⟨_,h.1,rfl,(M.step h.2).sub ⟨rfl,rfl,rfl,rfl,trivial⟩⟩)
 ·intro ua uw SV pV (M:Mx none w uw _) hk hn hd
  have e33:ua.eval (.tmp 33)=v:=zQ1 (hd 33 (by decide))
  have e39:ua.eval (.tmp 39)=zI (K2:Int):=zQ1 (hd 39 (by decide))
  exact hopM_exE rfl (y_slTo _ _ rfl e33 (M.isb (k:=0) rfl) e39 (j:=K2) rfl hK2b) fun v h=>⟨trivial,(M.partB 3 (k:=0) rfl h.1 h.2).sub ⟨rfl,rfl,rfl,rfl,trivial⟩⟩
 intro p30 a30 w30 M30 G30 y30
 obtain ⟨-,q1,-,-,-,-,-,-,-,q9,-⟩:=y30
 have r1:p30 1=zN:=q1
 replace M30:Mx _ _ w30 [(0,bytR b v),(1,blkR g2 37 (recA ⟨0, "".toUTF8,[],0,0,[],0,0,0⟩ ⟨zN,zN⟩)),(2,blkR g27 37 (recA ⟨1+(n%2),(nmB s),[],(((n.tdiv 2)%4294967296)).toNat,(((n.tdiv 7)%4294967296)).toNat,[],((n.tdiv 11)%6),((n.tdiv 13)%1000),((n.tdiv 17)%1099511627776)⟩ ⟨zN,zN⟩)),(3,z5a true (bytR (b.take K2) (p30 9)))]:=M30
 simp only [List.take,layV,Nat.zero_add,Nat.reduceAdd,r1] at G30
 obtain ⟨Ap30_3,cp30_3,hp30_3⟩:=(M30.isb (k:=3) rfl).shape
 rw [hp30_3] at M30
 try rw [hp30_3] at G30
 have M31:=M30.nilO 4
 refine zwa rfl rfl G30 rfl (zfb M31 (k:=4) rfl _ _ rfl (G30.get rfl) (G30.get rfl) (M31.isb (k:=3) rfl) (by simp only [List.length_nil,List.length_take];omega)) ?_
 intro v32 a32 w32 F32 M32
 clear G30 M31
 obtain ⟨A32,c32,rfl⟩:=(M32.isO (k:=4) rfl).shape
 refine rn rfl rfl F32 rfl (zP g27 2) (y_fa (off:=2) rfl (F32.get rfl) (by kernel_rfl) rfl) fun _ F33=>?_
 refine zt rfl rfl F33 M32 (k:=2) rfl _ _ _ rfl (F33.get rfl) (F33.get rfl) (#[.slice A32 (([]++(b.take K2))).length c32]) (recA ⟨1+(n%2),(nmB s),([]++(b.take K2)),(((n.tdiv 2)%4294967296)).toNat,(((n.tdiv 7)%4294967296)).toNat,[],((n.tdiv 11)%6),((n.tdiv 13)%1000),((n.tdiv 17)%1099511627776)⟩ ⟨.slice A32 (([]++(b.take K2))).length c32,zN⟩) rfl (zL rfl) (one_slcB (M32.isO (k:=4) rfl)) (by kernel_rfl) (by kernel_rfl) ?_
 intro w34 M34
 refine hK29 _ _ (zSk fun _ hK35=>?_)
 refine zva F33 (SE [.inl (zP g27 19),.inl (zN),.inl (v),.inl (zI n),.inl (zI (n.tdiv 3)),.inl (v),.inl (zI (b.length:Int)),.inl (zI ((min b.length 48:Nat):Int)),.inl (zI ((min b.length 48+1:Nat):Int)),.inl (zI (K5:Int)),.inr (fun _=>True)]) (JM none w fun SV pV=>[(0,bytR b v),(1,blkR g2 37 (recA ⟨0, "".toUTF8,[],0,0,[],0,0,0⟩ ⟨zN,zN⟩)),(2,blkR g27 37 (recA ⟨1+(n%2),(nmB s),([]++(b.take K2)),(((n.tdiv 2)%4294967296)).toNat,(((n.tdiv 7)%4294967296)).toNat,[],((n.tdiv 11)%6),((n.tdiv 13)%1000),((n.tdiv 17)%1099511627776)⟩ ⟨.slice A32 (([]++(b.take K2))).length c32,zN⟩)),(3,bytR (b.take K2) (.slice Ap30_3 ((b.take K2)).length cp30_3)),(4,ownR ([]++(b.take K2)) (.slice A32 (([]++(b.take K2))).length c32)),(5,z5a (SV 10) (bytR (b.take K5) (pV 10)))]) 11 rfl (by kernel_rfl) rfl ⟨trivial,trivial,trivial,trivial,trivial,trivial,trivial,trivial,trivial,trivial,trivial,trivial⟩ (fun p=>((M34.step (zsa _)).triv 5).sub ⟨rfl,rfl,rfl,rfl,rfl,rfl,trivial⟩) ⟨zcb F33,hopMP F33 (fun _ _ _ M=>zu (Mx.blk (k:=2) M rfl) dnil) (some g27),zcb F33,zcb F33,?_,zcb F33,?_,?_,?_,?_,?_,trivial⟩ ?_
 ·intro ua uw SV pV (M:Mx none w uw _) hk hn hd
  have e46:ua.eval (.tmp 46)=zI n:=zQ1 (hd 46 (by decide))
  exact ze rfl (zI (n.tdiv 3)) (y_quoT _ _ _ _ rfl e46 rfl hN (by decide) rfl) rfl (M.sb)
 ·intro ua uw SV pV (M:Mx none w uw _) hk hn hd
  have e48:ua.eval (.tmp 48)=v:=zQ1 (hd 48 (by decide))
  exact ze rfl (zI (b.length:Int)) (z8a _ rfl e48 (M.isb (k:=0) rfl) rfl) rfl (M.sb)
 ·intro ua uw SV pV (M:Mx none w uw _) hk hn hd
  have e49:ua.eval (.tmp 49)=zI (b.length:Int):=zQ1 (hd 49 (by decide))
  exact ze rfl (zI ((min b.length 48:Nat):Int)) (y_min _ _ rfl e49 rfl (by split <;> omega)) rfl (M.sb)
 ·intro ua uw SV pV (M:Mx none w uw _) hk hn hd
  have e50:ua.eval (.tmp 50)=zI ((min b.length 48:Nat):Int):=zQ1 (hd 50 (by decide))
  exact ze rfl (zI ((min b.length 48+1:Nat):Int)) (zoa _ _ _ _ rfl e50 rfl (by omega) (by omega)) rfl (M.sb)
 ·intro ua uw SV pV (M:Mx none w uw _) hk hn hd
  have e47:ua.eval (.tmp 47)=zI (n.tdiv 3):=zQ1 (hd 47 (by decide))
  have e51:ua.eval (.tmp 51)=zI ((min b.length 48+1:Nat):Int):=zQ1 (hd 51 (by decide))
  exact z9a rfl rfl #[zI (n.tdiv 3),zI ((min b.length 48+1:Nat):Int)] (zfa e47 e51) (zE Tryz.func69 rfl) (((same_eq ((hK5▸zqc (n.tdiv 3) ((min b.length 48+1:Nat):Int) (by omega) (by omega) (z5c hN (show (0:Int)<3 by decide)).1 (z5c hN (show (0:Int)<3 by decide)).2 uw)))).mono fun e w2 h=>⟨_,h.1,rfl,(M.step h.2).sub ⟨rfl,rfl,rfl,rfl,rfl,rfl,trivial⟩⟩)
 ·intro ua uw SV pV (M:Mx none w uw _) hk hn hd
  have e45:ua.eval (.tmp 45)=v:=zQ1 (hd 45 (by decide))
  have e52:ua.eval (.tmp 52)=zI (K5:Int):=zQ1 (hd 52 (by decide))
  exact hopM_exE rfl (y_slTo _ _ rfl e45 (M.isb (k:=0) rfl) e52 (j:=K5) rfl hK5b) fun v h=>⟨trivial,(M.partB 5 (k:=0) rfl h.1 h.2).sub ⟨rfl,rfl,rfl,rfl,rfl,rfl,trivial⟩⟩
 intro p36 a36 w36 M36 G36 y36
 obtain ⟨-,q1,-,-,-,-,-,-,-,-,q10,-⟩:=y36
 have r1:p36 1=zN:=q1
 replace M36:Mx _ _ w36 [(0,bytR b v),(1,blkR g2 37 (recA ⟨0, "".toUTF8,[],0,0,[],0,0,0⟩ ⟨zN,zN⟩)),(2,blkR g27 37 (recA ⟨1+(n%2),(nmB s),([]++(b.take K2)),(((n.tdiv 2)%4294967296)).toNat,(((n.tdiv 7)%4294967296)).toNat,[],((n.tdiv 11)%6),((n.tdiv 13)%1000),((n.tdiv 17)%1099511627776)⟩ ⟨.slice A32 (([]++(b.take K2))).length c32,zN⟩)),(3,bytR (b.take K2) (.slice Ap30_3 ((b.take K2)).length cp30_3)),(4,ownR ([]++(b.take K2)) (.slice A32 (([]++(b.take K2))).length c32)),(5,z5a true (bytR (b.take K5) (p36 10)))]:=M36
 simp only [List.take,layV,Nat.zero_add,Nat.reduceAdd,r1] at G36
 obtain ⟨Ap36_5,cp36_5,hp36_5⟩:=(M36.isb (k:=5) rfl).shape
 rw [hp36_5] at M36
 try rw [hp36_5] at G36
 have M37:=M36.nilO 6
 refine zwa rfl rfl G36 rfl (zfb M37 (k:=6) rfl _ _ rfl (G36.get rfl) (G36.get rfl) (M37.isb (k:=5) rfl) (by simp only [List.length_nil,List.length_take];omega)) ?_
 intro v38 a38 w38 F38 M38
 clear G36 M37
 obtain ⟨A38,c38,rfl⟩:=(M38.isO (k:=6) rfl).shape
 refine rn rfl rfl F38 rfl (zP g27 19) (y_fa (off:=19) rfl (F38.get rfl) (by kernel_rfl) rfl) fun _ F39=>?_
 refine zt rfl rfl F39 M38 (k:=2) rfl _ _ _ rfl (F39.get rfl) (F39.get rfl) (#[.slice A38 (([]++(b.take K5))).length c38]) (recA ⟨1+(n%2),(nmB s),([]++(b.take K2)),(((n.tdiv 2)%4294967296)).toNat,(((n.tdiv 7)%4294967296)).toNat,([]++(b.take K5)),((n.tdiv 11)%6),((n.tdiv 13)%1000),((n.tdiv 17)%1099511627776)⟩ ⟨.slice A32 (([]++(b.take K2))).length c32,.slice A38 (([]++(b.take K5))).length c38⟩) rfl (zL rfl) (one_slcB (M38.isO (k:=6) rfl)) (by kernel_rfl) (by kernel_rfl) ?_
 intro w40 M40
 refine hK35 _ _ (zSk fun _ hK41=>?_)
 refine zR (rn rfl rfl F39 rfl _ (zjb _ _ rfl (F39.get rfl) (M40.blk (k:=2) rfl) (recA ⟨1+(n%2),(nmB s),([]++(b.take K2)),(((n.tdiv 2)%4294967296)).toNat,(((n.tdiv 7)%4294967296)).toNat,([]++(b.take K5)),((n.tdiv 11)%6),((n.tdiv 13)%1000),((n.tdiv 17)%1099511627776)⟩ ⟨.slice A32 (([]++(b.take K2))).length c32,.slice A38 (([]++(b.take K5))).length c38⟩) (znb rfl) Tryz.underlying37 rfl (by kernel_rfl)) fun _ F42=>?_)
 refine zt rfl rfl F42 M40 (k:=1) rfl _ _ _ rfl (F42.get rfl) (F42.get rfl) (recA ⟨1+(n%2),(nmB s),([]++(b.take K2)),(((n.tdiv 2)%4294967296)).toNat,(((n.tdiv 7)%4294967296)).toNat,([]++(b.take K5)),((n.tdiv 11)%6),((n.tdiv 13)%1000),((n.tdiv 17)%1099511627776)⟩ ⟨.slice A32 (([]++(b.take K2))).length c32,.slice A38 (([]++(b.take K5))).length c38⟩) _ rfl (zL rfl) (z6a (w:=w40) ⟨(M40.isO (k:=4) rfl),(M40.isO (k:=6) rfl)⟩) (zca rfl) (by kernel_rfl) ?_
 intro w43 M43
 refine hK41 _ _ (wp_ret ?_)
 exact bodyPost_ret (results_cell_row rfl _ _ _ _ _ (0,0) _ (F42.get rfl) (M43.blk (k:=1) rfl) Tryz.underlying37 rfl (by kernel_rfl)) F42.defers ⟨_,rfl,⟨.slice A32 (([]++(b.take K2))).length c32,.slice A38 (([]++(b.take K5))).length c38⟩,(by rw [(show mkR n s b=(⟨1+(n%2),(nmB s),((b.take K2)),(((n.tdiv 2)%4294967296)).toNat,(((n.tdiv 7)%4294967296)).toNat,((b.take K5)),((n.tdiv 11)%6),((n.tdiv 13)%1000),((n.tdiv 17)%1099511627776)⟩:RecN) from by unfold mkR;rw [hK2,hK5];rfl)];rfl),(by rw [(show mkR n s b=(⟨1+(n%2),(nmB s),((b.take K2)),(((n.tdiv 2)%4294967296)).toNat,(((n.tdiv 7)%4294967296)).toNat,((b.take K5)),((n.tdiv 11)%6),((n.tdiv 13)%1000),((n.tdiv 17)%1099511627776)⟩:RecN) from by unfold mkR;rw [hK2,hK5];rfl)];exact ⟨M43.isO (k:=4) rfl,M43.isO (k:=6) rfl⟩),(fun g h=>h.elim (fun h=>M43.owns (k:=4) rfl g (zta h)) (fun h=>M43.owns (k:=6) rfl g (zta h))),M43.below⟩
end Go.Proofs.YtmjbnmbobocpdaaGreat
