/- What VaultCells stands on, part 15. -/
import Derived.Test.YtmjbnmbobocpdaaGreatVaultCellsP1
import Derived.Test.YtmjbnmbobocpdaaGreatVaultCellsP2
import Derived.Test.YtmjbnmbobocpdaaGreatVaultCellsP3
import Derived.Test.YtmjbnmbobocpdaaGreatVaultCellsP4
import Derived.Test.YtmjbnmbobocpdaaGreatVaultCellsP5
import Derived.Test.YtmjbnmbobocpdaaGreatVaultCellsP6
import Derived.Test.YtmjbnmbobocpdaaGreatVaultCellsP7
import Derived.Test.YtmjbnmbobocpdaaGreatVaultCellsP8
import Derived.Test.YtmjbnmbobocpdaaGreatVaultCellsP9
import Derived.Test.YtmjbnmbobocpdaaGreatVaultCellsP10
import Derived.Test.YtmjbnmbobocpdaaGreatVaultCellsP11
import Derived.Test.YtmjbnmbobocpdaaGreatVaultCellsP12
import Derived.Test.YtmjbnmbobocpdaaGreatVaultCellsP13
import Derived.Test.YtmjbnmbobocpdaaGreatVaultCellsP14
set_option maxRecDepth 100000
set_option maxHeartbeats 8000000
set_option linter.unusedVariables false
set_option linter.unusedSimpArgs false
namespace Go.Proofs.YtmjbnmbobocpdaaGreat
open Go.ChangeShapes Go.WideShapes Go.ChangeAt Go.RowKit
structure CelsM (w:World) (g:Nat) (c:Nat→CelN) (s n:Nat→Value):Prop where
 blk:w.heap[g]? = some (.cells (celA c s n) 63 (0,0))
 hs:∀ i,i<18→IsB w (c i).s (s i)
 hn:∀ i,i<18→IsB w (c i).n (n i)
theorem str_neq {l:List UInt8}:(!decide ((⟨l.toArray⟩:ByteArray).toList=(⟨l.toArray⟩:ByteArray).toList))=false:=by simp
theorem xcells_any (ga gb:Nat) (c:Nat→CelN) (sa na sb nb:Nat→Value) (w:World) (h1:CelsM w ga c sa na) (h2:CelsM w gb c sb nb):
  Calls Tryz.prog 38 #[.slice (some ⟨ga,0,none⟩) 18 18,.slice (some ⟨gb,0,none⟩) 18 18] w fun e w'=>e=.returned (.bool true)∧Below w.heap.size w w':=by
 refine zk (args:=[.slice (some ⟨ga,0,none⟩) 18 18,.slice (some ⟨gb,0,none⟩) 18 18]) 58 Tryz.func38 rfl rfl rfl ?_
 intro fa F
 have M:=Mx.start w
 replace M:=M.argO 0 h1.blk (fun b e=>by cases e)
 replace M:=M.argO 1 h2.blk (fun b e=>by cases e)
 refine zT fun _ hK1=>rm rfl F fun _ F2=>hK1 _ _ (zSk fun _ hK3=>zT fun _ hK4=>rm rfl F2 fun _ F5=>zd (w':=w) (zc rfl) rfl F5 rfl (.int .i64 18) (y_lnG 49 Tryz.underlying49 _ rfl (F5.get (t:=6) rfl) rfl) fun _ F6=>?_)
 refine rm rfl F6 fun _ F7=>zd (w':=w) (zc rfl) rfl F7 rfl (.int .i64 18) (y_lnG 49 Tryz.underlying49 _ rfl (F7.get (t:=8) rfl) rfl) fun _ F8=>?_
 refine zd (w':=w) (zc rfl) rfl F8 rfl (.bool false) (y_neI _ _ _ _ rfl (F8.get (t:=7) rfl) (F8.get (t:=9) rfl) Tryz.underlying3 (y_bneF (by decide))) fun _ F9=>?_
 refine hK4 _ _ (wp_cond_false (F9.get (t:=10) rfl) ?_)
 refine wp_skip (hK3 _ _ (zSk fun _ hK10=>zT fun _ hK11=>rm rfl F9 fun _ F12=>hK11 _ _ (wp_block (zqb (α:=Nat) (n:=58) (G:=none) (w0:=w) (fun x=>[(0,.slice (some ⟨ga,0,none⟩) 18 18),(1,.slice (some ⟨gb,0,none⟩) 18 18),(6,.slice (some ⟨ga,0,none⟩) 18 18),(7,.int .i64 18),(8,.slice (some ⟨gb,0,none⟩) 18 18),(9,.int .i64 18),(10,.bool false),(5,.int .i64 (x:Int))]) (fun x=>[(0,blkO ga 63 (celA c sa na)),(1,blkO gb 63 (celA c sb nb))]) (fun k x=>k=(18-x)∧(x≤18)) _ 0 ⟨rfl,(Nat.zero_le _)⟩ (F12.sb) (M.sb) ?_))))
 rintro k13 jn a13 w13 K13 ⟨ek13,I13⟩ F13 M13 hK13
 replace F13:Fx 58 a13 [(0,.slice (some ⟨ga,0,none⟩) 18 18),(1,.slice (some ⟨gb,0,none⟩) 18 18),(6,.slice (some ⟨ga,0,none⟩) 18 18),(7,.int .i64 18),(8,.slice (some ⟨gb,0,none⟩) 18 18),(9,.int .i64 18),(10,.bool false),(5,.int .i64 (jn:Int))]:=F13
 replace M13:Mx _ _ w13 [(0,blkO ga 63 (celA c sa na)),(1,blkO gb 63 (celA c sb nb))]:=M13
 replace I13:jn≤18:=I13
 replace ek13:k13=(18-jn):=ek13
 by_cases hlt:jn<18
 ·obtain ⟨cf,hcf⟩:∃ x,(c jn).f=x:=⟨_,rfl⟩
  refine zSk fun _ hK14=>zT fun _ hK15=>rm rfl F13 fun _ F16=>rm rfl F16 fun _ F17=>zd (w':=w13) (zc rfl) rfl F17 rfl (.int .i64 18) (y_lnG 49 Tryz.underlying49 _ rfl (F17.get (t:=12) rfl) rfl) fun _ F18=>?_
  refine zd (w':=w13) (zc rfl) rfl F18 rfl (.bool true) (zla _ _ _ _ rfl (F18.get (t:=11) rfl) (F18.get (t:=13) rfl) (decide_eq_true (show (jn:Int)<18 by omega))) fun _ F19=>?_
  refine hK15 _ _ (wp_cond_true (F19.get (t:=14) rfl) (wp_skip (hK14 _ _ (zSk fun _ hK20=>wp_block (zSk fun _ hK21=>?_)))))
  refine z6a F19 (SK [.inl (.slice (some ⟨ga,0,none⟩) 18 18),.inl (.int .i64 (jn:Int)),.inl (.pointer (some ⟨ga,3*jn,none⟩)),.inl (.pointer (some ⟨ga,3*jn+2,none⟩)),.inl (.bool cf),.inl (.slice (some ⟨gb,0,none⟩) 18 18),.inl (.int .i64 (jn:Int)),.inl (.pointer (some ⟨gb,3*jn,none⟩)),.inl (.pointer (some ⟨gb,3*jn+2,none⟩)),.inl (.bool cf),.inl (.bool false),.inl (.bool false),.inl (.slice (some ⟨ga,0,none⟩) 18 18),.inl (.int .i64 (jn:Int)),.inl (.pointer (some ⟨ga,3*jn,none⟩)),.inl (.pointer (some ⟨ga,3*jn+0,none⟩)),.inl ((sa jn)),.inl (.string (⟨((c jn).s).toArray⟩)),.inl (.slice (some ⟨gb,0,none⟩) 18 18),.inl (.int .i64 (jn:Int)),.inl (.pointer (some ⟨gb,3*jn,none⟩)),.inl (.pointer (some ⟨gb,3*jn+0,none⟩)),.inl ((sb jn)),.inl (.string (⟨((c jn).s).toArray⟩)),.inl (.bool false),.inl (.bool false),.inl (.bool false),.inl (.slice (some ⟨ga,0,none⟩) 18 18),.inl (.int .i64 (jn:Int)),.inl (.pointer (some ⟨ga,3*jn,none⟩)),.inl (.pointer (some ⟨ga,3*jn+1,none⟩)),.inl ((na jn)),.inl (.string (⟨((c jn).n).toArray⟩)),.inl (.slice (some ⟨gb,0,none⟩) 18 18),.inl (.int .i64 (jn:Int)),.inl (.pointer (some ⟨gb,3*jn,none⟩)),.inl (.pointer (some ⟨gb,3*jn+1,none⟩)),.inl ((nb jn)),.inl (.string (⟨((c jn).n).toArray⟩)),.inl (.bool false),.inl (.bool false)]) 41 rfl (by kernel_rfl) ⟨hop0 F19 (by kernel_rfl),hop0 F19 (by kernel_rfl),hopR F19 [(17,.slice (some ⟨ga,0,none⟩) 18 18),(18,.int .i64 (jn:Int))] fun ua uw hb ⟨e17,e18,_⟩=>(zac 49 (s:=3) Tryz.underlying49 (by kernel_rfl) _ _ rfl e17 e18 rfl hlt ((Nat.zero_add _).trans (Nat.mul_comm jn 3))),hopR F19 [(19,.pointer (some ⟨ga,3*jn,none⟩))] fun ua uw hb ⟨e19,_⟩=>(y_fa (off:=2) rfl e19 (by kernel_rfl) rfl),hopR F19 [(20,.pointer (some ⟨ga,3*jn+2,none⟩))] fun ua uw hb ⟨e20,_⟩=>(zca _ _ rfl e20 ((M13.step hb).roB (k:=0) rfl) (hcf▸cel_f c sa na hlt) Tryz.underlying4 rfl),hop0 F19 (by kernel_rfl),hop0 F19 (by kernel_rfl),hopR F19 [(22,.slice (some ⟨gb,0,none⟩) 18 18),(23,.int .i64 (jn:Int))] fun ua uw hb ⟨e22,e23,_⟩=>(zac 49 (s:=3) Tryz.underlying49 (by kernel_rfl) _ _ rfl e22 e23 rfl hlt ((Nat.zero_add _).trans (Nat.mul_comm jn 3))),hopR F19 [(24,.pointer (some ⟨gb,3*jn,none⟩))] fun ua uw hb ⟨e24,_⟩=>(y_fa (off:=2) rfl e24 (by kernel_rfl) rfl),hopR F19 [(25,.pointer (some ⟨gb,3*jn+2,none⟩))] fun ua uw hb ⟨e25,_⟩=>(zca _ _ rfl e25 ((M13.step hb).roB (k:=1) rfl) (hcf▸cel_f c sb nb hlt) Tryz.underlying4 rfl),hopR F19 [(21,.bool cf),(26,.bool cf)] (v:=.bool false) fun ua uw hb ⟨e21,e26,_⟩=>(y_neB _ _ rfl e21 e26 (by cases cf <;> rfl)),hop0 F19 (by kernel_rfl),hop0 F19 (by kernel_rfl),hop0 F19 (by kernel_rfl),hopR F19 [(29,.slice (some ⟨ga,0,none⟩) 18 18),(30,.int .i64 (jn:Int))] fun ua uw hb ⟨e29,e30,_⟩=>(zac 49 (s:=3) Tryz.underlying49 (by kernel_rfl) _ _ rfl e29 e30 rfl hlt ((Nat.zero_add _).trans (Nat.mul_comm jn 3))),hopR F19 [(31,.pointer (some ⟨ga,3*jn,none⟩))] fun ua uw hb ⟨e31,_⟩=>(y_fa (off:=0) rfl e31 (by kernel_rfl) rfl),hopR F19 [(32,.pointer (some ⟨ga,3*jn+0,none⟩))] fun ua uw hb ⟨e32,_⟩=>(zca _ _ rfl e32 ((M13.step hb).roB (k:=0) rfl) (cel_s c sa na hlt) Tryz.underlying23 rfl),hopR F19 [(33,(sa jn))] (v:=.string (⟨((c jn).s).toArray⟩)) fun ua uw hb ⟨e33,_⟩=>(y_str _ rfl e33 ((h1.hs jn hlt).step (M13.step hb).below)),hop0 F19 (by kernel_rfl),hop0 F19 (by kernel_rfl),hopR F19 [(35,.slice (some ⟨gb,0,none⟩) 18 18),(36,.int .i64 (jn:Int))] fun ua uw hb ⟨e35,e36,_⟩=>(zac 49 (s:=3) Tryz.underlying49 (by kernel_rfl) _ _ rfl e35 e36 rfl hlt ((Nat.zero_add _).trans (Nat.mul_comm jn 3))),hopR F19 [(37,.pointer (some ⟨gb,3*jn,none⟩))] fun ua uw hb ⟨e37,_⟩=>(y_fa (off:=0) rfl e37 (by kernel_rfl) rfl),hopR F19 [(38,.pointer (some ⟨gb,3*jn+0,none⟩))] fun ua uw hb ⟨e38,_⟩=>(zca _ _ rfl e38 ((M13.step hb).roB (k:=1) rfl) (cel_s c sb nb hlt) Tryz.underlying23 rfl),hopR F19 [(39,(sb jn))] (v:=.string (⟨((c jn).s).toArray⟩)) fun ua uw hb ⟨e39,_⟩=>(y_str _ rfl e39 ((h2.hs jn hlt).step (M13.step hb).below)),hopR F19 [(34,.string (⟨((c jn).s).toArray⟩)),(40,.string (⟨((c jn).s).toArray⟩))] (v:=.bool false) fun ua uw hb ⟨e34,e40,_⟩=>(y_neS _ _ _ rfl e34 e40 str_neq),hop0 F19 (by kernel_rfl),hop0 F19 (by kernel_rfl),hop0 F19 (by kernel_rfl),hop0 F19 (by kernel_rfl),hopR F19 [(44,.slice (some ⟨ga,0,none⟩) 18 18),(45,.int .i64 (jn:Int))] fun ua uw hb ⟨e44,e45,_⟩=>(zac 49 (s:=3) Tryz.underlying49 (by kernel_rfl) _ _ rfl e44 e45 rfl hlt ((Nat.zero_add _).trans (Nat.mul_comm jn 3))),hopR F19 [(46,.pointer (some ⟨ga,3*jn,none⟩))] fun ua uw hb ⟨e46,_⟩=>(y_fa (off:=1) rfl e46 (by kernel_rfl) rfl),hopR F19 [(47,.pointer (some ⟨ga,3*jn+1,none⟩))] fun ua uw hb ⟨e47,_⟩=>(zca _ _ rfl e47 ((M13.step hb).roB (k:=0) rfl) (cel_n c sa na hlt) Tryz.underlying23 rfl),hopR F19 [(48,(na jn))] (v:=.string (⟨((c jn).n).toArray⟩)) fun ua uw hb ⟨e48,_⟩=>(y_str _ rfl e48 ((h1.hn jn hlt).step (M13.step hb).below)),hop0 F19 (by kernel_rfl),hop0 F19 (by kernel_rfl),hopR F19 [(50,.slice (some ⟨gb,0,none⟩) 18 18),(51,.int .i64 (jn:Int))] fun ua uw hb ⟨e50,e51,_⟩=>(zac 49 (s:=3) Tryz.underlying49 (by kernel_rfl) _ _ rfl e50 e51 rfl hlt ((Nat.zero_add _).trans (Nat.mul_comm jn 3))),hopR F19 [(52,.pointer (some ⟨gb,3*jn,none⟩))] fun ua uw hb ⟨e52,_⟩=>(y_fa (off:=1) rfl e52 (by kernel_rfl) rfl),hopR F19 [(53,.pointer (some ⟨gb,3*jn+1,none⟩))] fun ua uw hb ⟨e53,_⟩=>(zca _ _ rfl e53 ((M13.step hb).roB (k:=1) rfl) (cel_n c sb nb hlt) Tryz.underlying23 rfl),hopR F19 [(54,(nb jn))] (v:=.string (⟨((c jn).n).toArray⟩)) fun ua uw hb ⟨e54,_⟩=>(y_str _ rfl e54 ((h2.hn jn hlt).step (M13.step hb).below)),hopR F19 [(49,.string (⟨((c jn).n).toArray⟩)),(55,.string (⟨((c jn).n).toArray⟩))] (v:=.bool false) fun ua uw hb ⟨e49,e55,_⟩=>(y_neS _ _ _ rfl e49 e55 str_neq),hop0 F19 (by kernel_rfl),trivial⟩ ?_
  intro p23 a23 w23 b23 G23 y23
  obtain ⟨-,-,-,-,-,-,-,-,-,-,-,-,-,-,-,-,-,-,-,-,-,-,-,-,-,-,-,-,-,-,-,-,-,-,-,-,-,-,-,-,q40,-⟩:=y23
  have r40:p23 40=.bool false:=q40 (by decide)
  simp only [List.take,layV,Nat.zero_add,Nat.reduceAdd,r40] at G23
  have M23:=M13.kc b23
  clear F19 M13 r40 q40
  refine hK21 _ _ (wp_cond_false (G23.get (t:=57) rfl) (wp_skip (hK20 _ _ (zR (rm rfl G23 fun _ F24=>zd (w':=w23) (zc rfl) rfl F24 rfl (.int .i64 ((jn+1:Nat):Int)) (zsa _ _ _ _ rfl (F24.get (t:=15) rfl) rfl (by omega) (by omega)) fun _ F25=>?_)))))
  refine rm rfl F25 fun _ F26=>?_
  subst ek13
  exact hK13 _ (jn+1) _ _ (by omega) ⟨rfl,(by omega)⟩ (F26.sb) (M23.sb)
 ·refine zSk fun _ hK27=>zT fun _ hK28=>rm rfl F13 fun _ F29=>rm rfl F29 fun _ F30=>zd (w':=w13) (zc rfl) rfl F30 rfl (.int .i64 18) (y_lnG 49 Tryz.underlying49 _ rfl (F30.get (t:=12) rfl) rfl) fun _ F31=>?_
  refine zd (w':=w13) (zc rfl) rfl F31 rfl (.bool false) (zla _ _ _ _ rfl (F31.get (t:=11) rfl) (F31.get (t:=13) rfl) (decide_eq_false (show ¬(jn:Int)<18 by omega))) fun _ F32=>?_
  refine hK28 _ _ (wp_cond_false (F32.get (t:=14) rfl) (wp_exit ?_))
  simp only [Exit.then,Exit.inBlock,↓reduceIte,Nat.reduceEqDiff]
  refine hK10 _ _ (zT fun _ hK33=>rm rfl F32 fun _ F34=>hK33 _ _ (wp_ret ?_))
  try simp only [Exit.then,Exit.inBlock,Exit.jump]
  exact bodyPost_ret (res1 rfl (F34.get rfl)) F34.defers ⟨rfl,M13.below⟩
theorem VaultCells_walk (A0:Option Addr) (n0 cap0:Nat) (x0:Nat→Int)
  (A1:Option Addr) (n1 cap1:Nat) (l1:List UInt8) (hn1:l1.length=n1) (hc1:n1≤cap1) (hm1:cap1≤maxLen) (hz1:A1=none→cap1=0) (w:World) (hr0:RdI w A0 n0 x0) (hr1:Rd w A1 l1):
  Calls Tryz.prog 9 #[.slice A0 n0 cap0,.slice A1 n1 cap1] w fun e w'=>e=.returned (.bool true)∧Below w.heap.size w w':=by
 have ib1:IsB w l1 (.slice A1 n1 cap1):=hr1.isB' hn1 hc1 hm1 hz1
 by_cases b0:60<l1.length
 ·refine zk (args:=[.slice A0 n0 cap0,.slice A1 n1 cap1]) 121 Tryz.func9 rfl rfl rfl ?_
  intro fa F
  have M:=Mx.start w
  replace M:=M.argB 0 ib1 (fun g e=>by cases e)
  replace M:=M.argI 1 hr0 (fun g e=>by cases e)
  refine zT fun _ hK21=>rm rfl F fun _ F22=>hK21 _ _ (zSk fun _ hK23=>zT fun _ hK24=>zh (zc rfl) rfl F22 rfl rfl (zE Tryz.func13 rfl) #[] (args0) (zba (known6_any w)) ?_)
  rintro _ w25 a25 ⟨rfl,b25⟩ F25
  have M25:=M.step b25
  refine zd (w':=w25) (zc rfl) rfl F25 rfl (.bool false) (zrb _ _ rfl (F25.get (t:=13) rfl)) fun _ F26=>?_
  refine hK24 _ _ (wp_cond_false (F26.get (t:=14) rfl) (wp_skip (hK23 _ _ (zSk fun _ hK27=>zT fun _ hK28=>rm rfl F26 fun _ F29=>zd (w':=w25) (zc rfl) rfl F29 rfl (.int .i64 (l1.length:Int)) (zya _ rfl (F29.get (t:=15) rfl) (M25.isb (k:=0) rfl) rfl) fun _ F30=>?_))))
  refine zd (w':=w25) (zc rfl) rfl F30 rfl (.bool true) (z6b _ _ _ _ rfl (F30.get (t:=16) rfl) rfl (decide_eq_true (show (60:Int)<(l1.length:Int) by omega))) fun _ F31=>?_
  refine hK28 _ _ (wp_cond_true (F31.get (t:=17) rfl) (zT fun _ hK32=>rm rfl F31 fun a33 F33=>hK32 _ _ (wp_ret ?_)))
  try simp only [Exit.then,Exit.inBlock,Exit.jump]
  exact bodyPost_ret (res1 rfl (F33.get rfl)) F33.defers ⟨rfl,M25.below⟩
 ·obtain ⟨hE1,hI1,hf1,hd1⟩:=new_is
  have hA1:=acc_new
  obtain ⟨V1,hV1⟩:∃ x,ageW zeroV=x:=⟨_,rfl⟩
  rw [hV1] at hE1 hI1 hf1 hd1 hA1
  have hS1:=st_new
  rw [hV1] at hS1
  refine zk (args:=[.slice A0 n0 cap0,.slice A1 n1 cap1]) 121 Tryz.func9 rfl rfl rfl ?_
  intro fa F
  have M:=Mx.start w
  replace M:=M.argB 0 ib1 (fun g e=>by cases e)
  replace M:=M.argI 1 hr0 (fun g e=>by cases e)
  refine zT fun _ hK21=>rm rfl F fun _ F22=>hK21 _ _ (zSk fun _ hK23=>zT fun _ hK24=>zh (zc rfl) rfl F22 rfl rfl (zE Tryz.func13 rfl) #[] (args0) (zba (known6_any w)) ?_)
  rintro _ w25 a25 ⟨rfl,b25⟩ F25
  have M25:=M.step b25
  refine zd (w':=w25) (zc rfl) rfl F25 rfl (.bool false) (zrb _ _ rfl (F25.get (t:=13) rfl)) fun _ F26=>?_
  refine hK24 _ _ (wp_cond_false (F26.get (t:=14) rfl) (wp_skip (hK23 _ _ (zSk fun _ hK27=>zT fun _ hK28=>rm rfl F26 fun _ F29=>zd (w':=w25) (zc rfl) rfl F29 rfl (.int .i64 (l1.length:Int)) (zya _ rfl (F29.get (t:=15) rfl) (M25.isb (k:=0) rfl) rfl) fun _ F30=>?_))))
  refine zd (w':=w25) (zc rfl) rfl F30 rfl (.bool false) (z6b _ _ _ _ rfl (F30.get (t:=16) rfl) rfl (decide_eq_false (show ¬(60:Int)<(l1.length:Int) by omega))) fun _ F31=>?_
  refine hK28 _ _ (wp_cond_false (F31.get (t:=17) rfl) (wp_skip (hK27 _ _ (zT fun _ hK32=>zh (zc rfl) rfl F31 rfl rfl (zE Tryz.func14 rfl) #[] (args0) (vnew_is V1 hV1 w25) ?_))))
  rintro _ w33 a33 ⟨g33,rfl,hg33,s33,n33,hr33,ht33,hc33,b33⟩ F33
  have M33:=M25.newVault b33 2 3 hg33 hc33 hr33 ht33
  clear M25 b33 hg33 hc33 hr33 ht33
  refine zh (zc rfl) rfl F33 rfl rfl (zE Tryz.func15 rfl) #[] (args0) (xnew_is V1 hV1 w33) ?_
  rintro _ w34 a34 ⟨gx34,gc34,s34,n34,rfl,xo34,lx34,lc34,lr34,b34⟩ F34
  have M34:=M33.xnew 4 b34 xo34 lx34 lc34 lr34
  clear M33 b34 xo34 lx34 lc34 lr34
  refine rm rfl F34 fun _ F35=>rm rfl F35 fun _ F36=>hK32 _ _ (zSk fun _ hK37=>zT fun _ hK38=>rm rfl F36 fun _ F39=>zd (w':=w34) (zc rfl) rfl F39 rfl (.bool false) (y_eqPN 25 _ Tryz.underlying25 (by kernel_rfl) _ rfl (F39.get (t:=20) rfl)) fun _ F40=>?_)
  refine hK38 _ _ (wp_cond_false (F40.get (t:=21) rfl) (wp_skip (hK37 _ _ (zSk fun _ hK41=>zT fun _ hK42=>rm rfl F40 fun _ F43=>hK42 _ _ (wp_block ?_)))))
  refine zqb (α:=Nat×VltN×(Nat→Value)×(Nat→Value)×(Nat→Value)×(Nat→Value)) (n:=121) (G:=none) (w0:=w) (fun x=>[(0,.slice A0 n0 cap0),(1,.slice A1 n1 cap1),(5,.pointer (some ⟨g33,0,none⟩)),(6,.pointer (some ⟨gx34,0,none⟩)),(7,.int .i64 (x.1:Int))]) (fun x=>[(0,bytR l1 (.slice A1 n1 cap1)),(1,intR A0 n0 x0),(2,blkR g33 80 (vltA x.2.1 x.2.2.1 x.2.2.2.1)),(3,z3a 0 18 x.2.1.c x.2.2.1 x.2.2.2.1),(4,xR gx34 gc34 x.2.1 x.2.2.2.2.1 x.2.2.2.2.2)]) (fun k x=>k=(30-x.1)∧(x.1≤30∧StOk (x.1+1) x.2.1)) _ ⟨0,V1,s33,n33,s34,n34⟩ ⟨rfl,⟨Nat.zero_le _,hS1⟩⟩ (F43.sb) (M34.sb) ?_
  rintro k44 ⟨jn,Vv,sv,nv,sx,nx⟩ a44 w44 K44 ⟨ek44,I44⟩ F44 M44 hK44
  replace F44:Fx 121 a44 [(0,.slice A0 n0 cap0),(1,.slice A1 n1 cap1),(5,.pointer (some ⟨g33,0,none⟩)),(6,.pointer (some ⟨gx34,0,none⟩)),(7,.int .i64 (jn:Int))]:=F44
  replace M44:Mx _ _ w44 [(0,bytR l1 (.slice A1 n1 cap1)),(1,intR A0 n0 x0),(2,blkR g33 80 (vltA Vv sv nv)),(3,z3a 0 18 Vv.c sv nv),(4,xR gx34 gc34 Vv sx nx)]:=M44
  replace I44:jn≤30∧StOk (jn+1) Vv:=I44
  replace ek44:k44=(30-jn):=ek44
  obtain ⟨hj,hS⟩:=I44
  refine zSk fun _ hK45=>zT fun _ hK46=>rm rfl F44 fun _ F47=>rm rfl F47 fun _ F48=>zd (w':=w44) (zc rfl) rfl F48 rfl (.int .i64 (n0:Int)) (y_lnG 22 Tryz.underlying22 _ rfl (F48.get (t:=23) rfl) rfl) fun _ F49=>?_
  by_cases h50:(jn:Int)<(n0:Int)
  ·refine zd (w':=w44) (zc rfl) rfl F49 rfl (.bool true) (zla _ _ _ _ rfl (F49.get (t:=22) rfl) (F49.get (t:=24) rfl) (decide_eq_true h50)) fun _ F51=>?_
   refine rm rfl F51 fun _ F52=>rm rfl F52 fun _ F53=>?_
   by_cases h54:(jn:Int)<30
   ·have xb:=hr0.2.1 jn
    obtain ⟨nn,hnn,hnnl⟩:∃ k:Nat,(x0 jn)%1073741824=(k:Int)∧k<1073741824:=in6 _ (by decide)
    refine zd (w':=w44) (ze rfl rfl rfl (F53.get (t:=26) rfl)) rfl F53 rfl (.bool true) (zla _ _ _ _ rfl (F53.get (t:=27) rfl) rfl (decide_eq_true h54)) fun _ F55=>?_
    refine zd (w':=w44) (zc rfl) rfl F55 rfl (.bool true) (zob rfl (F55.get (t:=26) rfl) (F55.get (t:=28) rfl)) fun _ F56=>?_
    refine hK46 _ _ (wp_cond_true (F56.get (t:=29) rfl) (wp_skip (hK45 _ _ (zSk fun _ hK57=>wp_block (zT fun _ hK58=>rm rfl F56 fun _ F59=>rm rfl F59 fun _ F60=>zd (w':=w44) (zc rfl) rfl F60 rfl ((ixV (.slice A0 n0 cap0) jn)) (y_ixJ _ _ rfl (F60.get (t:=32) rfl) (M44.rdI (k:=1) rfl) (F60.get (t:=33) rfl) rfl (by omega)) fun _ F61=>?_)))))
    refine zd (w':=w44) (zc rfl) rfl F61 rfl (.int .i64 (x0 jn)) (y_ldJ _ rfl (F61.get (t:=34) rfl) (M44.rdI (k:=1) rfl) (by omega)) fun _ F62=>?_
    refine zh (zc rfl) rfl F62 rfl rfl (zE Tryz.func17 rfl) #[.int .i64 (x0 jn),.int .i64 1073741824] (zia (F62.get (t:=35) rfl) rfl) (zba ((hnn▸within6_any (x0 jn) 1073741824 (by decide) (by decide) xb.1 xb.2 w44))) ?_
    rintro _ w63 a63 ⟨rfl,rfl⟩ F63
    refine rm rfl F63 fun _ F64=>hK58 _ _ (zSk fun K65 hK65=>?_)
    have J65:∀ (kz:Nat) (aJ:Act) (wJ:World),(kz<1073741824∧kz%12≤7)→Fx 121 aJ [(0,.slice A0 n0 cap0),(1,.slice A1 n1 cap1),(5,.pointer (some ⟨g33,0,none⟩)),(6,.pointer (some ⟨gx34,0,none⟩)),(7,.int .i64 (jn:Int)),(8,.int .i64 (kz:Int))]→Mx none w wJ [(0,bytR l1 (.slice A1 n1 cap1)),(1,intR A0 n0 x0),(2,blkR g33 80 (vltA Vv sv nv)),(3,z3a 0 18 Vv.c sv nv),(4,xR gx34 gc34 Vv sx nx)]→K65 aJ wJ:=by
     intro kz a65 w65 I65 F65 M65
     refine hK65 _ _ ?_
     obtain ⟨hz1,hz2⟩:=I65
     refine zT fun _ hK66=>rm rfl F65 fun _ F67=>rm rfl F67 fun _ F68=>rm rfl F68 fun _ F69=>rm rfl F69 fun _ F70=>?_
     refine zh (zc rfl) rfl F70 rfl rfl (zE Tryz.func16 rfl) #[.pointer (some ⟨g33,0,none⟩),.pointer (some ⟨gx34,0,none⟩),.int .i64 (kz:Int),.slice A1 n1 cap1,zN] (args5 (F70.get (t:=44) rfl) (F70.get (t:=45) rfl) (F70.get (t:=46) rfl) (F70.get (t:=47) rfl) rfl) (lstep_any g33 gx34 gc34 Vv sv nv sx nx hS.inv (by omega) hS.left l1 (.slice A1 n1 cap1) (zN) (by omega) (kz:Int) (by omega) (by omega) w65 (M65.rowsV (i:=3) (k:=2) rfl rfl (by decide)) (M65.blk (k:=2) rfl) (M65.xOk (k:=4) rfl) (fun h=>M65.dis 2 4 _ _ rfl rfl (by decide) rfl _ rfl h) (M65.isb (k:=0) rfl) (fun h=>M65.dis 2 0 _ _ rfl rfl (by decide) rfl _ rfl h)) ?_
     rintro _ w71 a71 ⟨rfl,V71,sv71,wm71,s71,n71,vt71,xt71⟩ F71
     obtain ⟨sx71,nx71,M71⟩:=(M65.vault (kg:=2) (kr:=3) rfl rfl vt71.grown vt71.blk vt71.rows vt71.fpt).xput (k:=4) rfl xt71
     clear M65 vt71 xt71
     have st71:=st_step hS (by omega) sv71
     refine zd (w':=w71) (zc rfl) rfl F71 rfl (.bool false) (zrb _ _ rfl (F71.get (t:=48) rfl)) fun _ F72=>?_
     refine hK66 _ _ (wp_cond_false (F72.get (t:=49) rfl) (wp_skip (hK57 _ _ (zR (rm rfl F72 fun _ F73=>zd (w':=w71) (zc rfl) rfl F73 rfl (.int .i64 ((jn+1:Nat):Int)) (zsa _ _ _ _ rfl (F73.get (t:=30) rfl) rfl (by omega) (by omega)) fun _ F74=>?_)))))
     refine rm rfl F74 fun _ F75=>?_
     subst ek44
     exact hK44 _ ⟨(jn+1),V71,s71,n71,sx71,nx71⟩ _ _ (by omega) ⟨rfl,⟨by omega,st71⟩⟩ (F75.sb) (M71.sb)
    refine zT fun _ hK76=>rm rfl F64 fun _ F77=>zd (w':=w44) (zc rfl) rfl F77 rfl (.int .i64 ((nn%12:Nat):Int)) (y_remI _ _ _ _ rfl (F77.get (t:=37) rfl) rfl (by omega) (by omega) (by omega)) fun _ F78=>?_
    by_cases h79:8≤((nn%12:Nat):Int)
    ·refine zd (w':=w44) (zc rfl) rfl F78 rfl (.bool true) (y_geq _ _ _ _ rfl (F78.get (t:=38) rfl) rfl (decide_eq_true h79)) fun _ F80=>?_
     refine hK76 _ _ (wp_cond_true (F80.get (t:=39) rfl) (zR (rm rfl F80 fun _ F81=>rm rfl F81 fun _ F82=>zd (w':=w44) (zc rfl) rfl F82 rfl (.int .i64 ((nn%12:Nat):Int)) (y_remI _ _ _ _ rfl (F82.get (t:=41) rfl) rfl (by omega) (by omega) (by omega)) fun _ F83=>?_)))
     refine zd (w':=w44) (zc rfl) rfl F83 rfl (.int .i64 ((nn-nn%12:Nat):Int)) (zpc _ _ _ _ rfl (F83.get (t:=40) rfl) (F83.get (t:=42) rfl) (by omega) (by omega)) fun _ F84=>?_
     refine rm rfl F84 fun _ F85=>?_
     exact J65 (nn-nn%12) _ _ (by omega) (F85.sb) (M44.sb)
    ·refine zd (w':=w44) (zc rfl) rfl F78 rfl (.bool false) (y_geq _ _ _ _ rfl (F78.get (t:=38) rfl) rfl (decide_eq_false h79)) fun _ F86=>?_
     refine hK76 _ _ (wp_cond_false (F86.get (t:=39) rfl) (wp_skip ?_))
     exact J65 nn _ _ (by omega) (F86.sb) (M44.sb)
   ·refine zd (w':=w44) (ze rfl rfl rfl (F53.get (t:=26) rfl)) rfl F53 rfl (.bool false) (zla _ _ _ _ rfl (F53.get (t:=27) rfl) rfl (decide_eq_false h54)) fun _ F87=>?_
    refine zd (w':=w44) (zc rfl) rfl F87 rfl (.bool false) (zob rfl (F87.get (t:=26) rfl) (F87.get (t:=28) rfl)) fun _ F88=>?_
    refine hK46 _ _ (wp_cond_false (F88.get (t:=29) rfl) (wp_exit ?_))
    simp only [Exit.then,Exit.inBlock,↓reduceIte,Nat.reduceEqDiff]
    refine hK41 _ _ (zT fun _ hK89=>rm rfl F88 fun _ F90=>zh (zc rfl) rfl F90 rfl rfl (zE Tryz.func28 rfl) #[.pointer (some ⟨g33,0,none⟩)] (zz (F90.get (t:=50) rfl)) (cells_is g33 Vv sv nv hS.inv w44 (M44.hasV (kg:=2) (kr:=3) rfl rfl (by decide))) ?_)
    rintro _ w91 a91 ⟨gq91,s91,n91,rfl,ce91,b91⟩ F91
    have M91:=M44.newCells b91 5 6 ce91
    clear M44 ce91 b91
    refine rm rfl F91 fun _ F92=>hK89 _ _ (zSk fun _ hK93=>zT fun _ hK94=>rm rfl F92 fun _ F95=>zd (w':=w91) (zc rfl) rfl F95 rfl (.int .i64 18) (y_lnG 49 Tryz.underlying49 _ rfl (F95.get (t:=52) rfl) rfl) fun _ F96=>?_)
    refine zd (w':=w91) (zc rfl) rfl F96 rfl (.bool false) (y_neI _ _ _ _ rfl (F96.get (t:=53) rfl) rfl Tryz.underlying3 (y_bneF (by decide))) fun _ F97=>?_
    refine hK94 _ _ (wp_cond_false (F97.get (t:=54) rfl) (wp_skip (hK93 _ _ (zSk fun _ hK98=>zT fun _ hK99=>rm rfl F97 fun _ F100=>hK99 _ _ ?_))))
    refine wp_block (zqb (α:=Nat) (n:=121) (G:=none) (w0:=w) (fun x=>[(0,.slice A0 n0 cap0),(1,.slice A1 n1 cap1),(5,.pointer (some ⟨g33,0,none⟩)),(6,.pointer (some ⟨gx34,0,none⟩)),(9,.slice (some ⟨gq91,0,none⟩) 18 18),(10,.int .i64 (x:Int))]) (fun x=>[(0,bytR l1 (.slice A1 n1 cap1)),(1,intR A0 n0 x0),(2,blkR g33 80 (vltA Vv sv nv)),(3,z3a 0 18 Vv.c sv nv),(4,xR gx34 gc34 Vv sx nx),(5,blkO gq91 63 (celA Vv.c s91 n91)),(6,z3a 0 18 Vv.c s91 n91)]) (fun k x=>k=(18-x)∧(x≤18)) _ 0 ⟨rfl,(Nat.zero_le _)⟩ (F100.sb) (M91.sb) ?_)
    rintro k101 kn a101 w101 K101 ⟨ek101,I101⟩ F101 M101 hK101
    replace F101:Fx 121 a101 [(0,.slice A0 n0 cap0),(1,.slice A1 n1 cap1),(5,.pointer (some ⟨g33,0,none⟩)),(6,.pointer (some ⟨gx34,0,none⟩)),(9,.slice (some ⟨gq91,0,none⟩) 18 18),(10,.int .i64 (kn:Int))]:=F101
    replace M101:Mx _ _ w101 [(0,bytR l1 (.slice A1 n1 cap1)),(1,intR A0 n0 x0),(2,blkR g33 80 (vltA Vv sv nv)),(3,z3a 0 18 Vv.c sv nv),(4,xR gx34 gc34 Vv sx nx),(5,blkO gq91 63 (celA Vv.c s91 n91)),(6,z3a 0 18 Vv.c s91 n91)]:=M101
    replace I101:kn≤18:=I101
    replace ek101:k101=(18-kn):=ek101
    by_cases hkl:kn<18
    ·obtain ⟨hcf,hcn,hcs⟩:=hS.cl kn
     obtain ⟨sj,hsj⟩:∃ x,(Vv.c kn).s=x:=⟨_,rfl⟩
     rw [hsj] at hcs
     rcases hcs with hcs | ⟨x8,hx8,hxl,hxd⟩
     ·subst hcs
      refine zSk fun _ hK102=>zT fun _ hK103=>rm rfl F101 fun _ F104=>zd (w':=w101) (zc rfl) rfl F104 rfl (.bool true) (zla _ _ _ _ rfl (F104.get (t:=55) rfl) rfl (decide_eq_true (show (kn:Int)<18 by omega))) fun _ F105=>?_
      refine hK103 _ _ (wp_cond_true (F105.get (t:=56) rfl) (wp_skip (hK102 _ _ (zSk fun _ hK106=>wp_block (zT fun _ hK107=>rm rfl F105 fun _ F108=>rm rfl F108 fun _ F109=>zd (w':=w101) (zc rfl) rfl F109 rfl (.pointer (some ⟨gq91,3*kn,none⟩)) (zac 49 (s:=3) Tryz.underlying49 (by kernel_rfl) _ _ rfl (F109.get (t:=59) rfl) (F109.get (t:=60) rfl) rfl hkl ((Nat.zero_add _).trans (Nat.mul_comm kn 3))) fun _ F110=>?_)))))
      refine zd (w':=w101) (zc rfl) rfl F110 rfl (.pointer (some ⟨gq91,3*kn+0,none⟩)) (y_fa (off:=0) rfl (F110.get (t:=61) rfl) (by kernel_rfl) rfl) fun _ F111=>?_
      refine zd (w':=w101) (zc rfl) rfl F111 rfl ((s91 kn)) (zca _ _ rfl (F111.get (t:=62) rfl) (M101.roB (k:=5) rfl) (cel_s Vv.c s91 n91 hkl) Tryz.underlying23 rfl) fun _ F112=>?_
      refine rm rfl F112 fun _ F113=>hK107 _ _ (zSk fun _ hK114=>zT fun _ hK115=>rm rfl F113 fun _ F116=>rm rfl F116 fun _ F117=>zd (w':=w101) (zc rfl) rfl F117 rfl (.pointer (some ⟨gq91,3*kn,none⟩)) (zac 49 (s:=3) Tryz.underlying49 (by kernel_rfl) _ _ rfl (F117.get (t:=64) rfl) (F117.get (t:=65) rfl) rfl hkl ((Nat.zero_add _).trans (Nat.mul_comm kn 3))) fun _ F118=>?_)
      refine zd (w':=w101) (zc rfl) rfl F118 rfl (.pointer (some ⟨gq91,3*kn+2,none⟩)) (y_fa (off:=2) rfl (F118.get (t:=66) rfl) (by kernel_rfl) rfl) fun _ F119=>?_
      refine zd (w':=w101) (zc rfl) rfl F119 rfl (.bool false) (zca _ _ rfl (F119.get (t:=67) rfl) (M101.roB (k:=5) rfl) ((cel_f Vv.c s91 n91 hkl).trans (congrArg (fun b=>some (Value.bool b)) hcf)) Tryz.underlying4 rfl) fun _ F120=>?_
      refine rm rfl F120 fun _ F121=>rm rfl F121 fun _ F122=>rm rfl F122 fun _ F123=>zd (w':=w101) (ze rfl rfl rfl (F123.get (t:=69) rfl)) rfl F123 rfl (.pointer (some ⟨gq91,3*kn,none⟩)) (zac 49 (s:=3) Tryz.underlying49 (by kernel_rfl) _ _ rfl (F123.get (t:=70) rfl) (F123.get (t:=71) rfl) rfl hkl ((Nat.zero_add _).trans (Nat.mul_comm kn 3))) fun _ F124=>?_
      refine zd (w':=w101) (ze rfl rfl rfl (F124.get (t:=69) rfl)) rfl F124 rfl (.pointer (some ⟨gq91,3*kn+1,none⟩)) (y_fa (off:=1) rfl (F124.get (t:=72) rfl) (by kernel_rfl) rfl) fun _ F125=>?_
      refine zd (w':=w101) (ze rfl rfl rfl (F125.get (t:=69) rfl)) rfl F125 rfl ((n91 kn)) (zca _ _ rfl (F125.get (t:=73) rfl) (M101.roB (k:=5) rfl) (cel_n Vv.c s91 n91 hkl) Tryz.underlying23 rfl) fun _ F126=>?_
      refine zd (w':=w101) (ze rfl rfl rfl (F126.get (t:=69) rfl)) rfl F126 rfl (.int .i64 0) (zya _ rfl (F126.get (t:=74) rfl) (hcn▸M101.rowsN (i:=6) rfl hkl) rfl) fun _ F127=>?_
      refine zAx 2 [(76,.bool false),(77,.bool false)] [] dnil [] F127 fun _ F128=>?_
      refine hK115 _ _ (wp_cond_false (F128.get (t:=77) rfl) (wp_skip (hK114 _ _ (zSk fun _ hK129=>zT fun _ hK130=>rm rfl F128 fun _ F131=>zd (w':=w101) (zc rfl) rfl F131 rfl (.int .i64 0) (zya _ rfl (F131.get (t:=78) rfl) (hsj▸M101.rowsS (i:=6) rfl hkl) rfl) fun _ F132=>?_))))
      refine zd (w':=w101) (zc rfl) rfl F132 rfl (.bool true) (zgb _ _ _ _ rfl (F132.get (t:=79) rfl) rfl Tryz.underlying3 (z1b (by decide))) fun _ F133=>?_
      refine hK130 _ _ (wp_cond_true (F133.get (t:=80) rfl) (wp_exit ?_))
      simp only [Exit.then,Exit.inBlock,↓reduceIte,Nat.reduceEqDiff]
      refine hK106 _ _ (zR (rm rfl F133 fun _ F134=>zd (w':=w101) (zc rfl) rfl F134 rfl (.int .i64 ((kn+1:Nat):Int)) (zsa _ _ _ _ rfl (F134.get (t:=57) rfl) rfl (by omega) (by omega)) fun _ F135=>?_))
      refine rm rfl F135 fun _ F136=>?_
      subst ek101
      exact hK101 _ (kn+1) _ _ (by omega) ⟨rfl,(by omega)⟩ (F136.sb) (M101.sb)
     ·have hx255:=x8.toNat_lt
      obtain ⟨e16,he16⟩:∃ e,sj.length-16=e:=⟨_,rfl⟩
      rw [he16] at hxd
      obtain ⟨Y,hY⟩:∃ Y,outF (macW [] [cellB,zt (kn:Int),sj.take e16])=Y:=⟨_,rfl⟩
      rw [hY] at hxd
      refine zSk fun _ hK137=>zT fun _ hK138=>rm rfl F101 fun _ F139=>zd (w':=w101) (zc rfl) rfl F139 rfl (.bool true) (zla _ _ _ _ rfl (F139.get (t:=55) rfl) rfl (decide_eq_true (show (kn:Int)<18 by omega))) fun _ F140=>?_
      refine hK138 _ _ (wp_cond_true (F140.get (t:=56) rfl) (wp_skip (hK137 _ _ (zSk fun _ hK141=>wp_block (zT fun _ hK142=>rm rfl F140 fun _ F143=>rm rfl F143 fun _ F144=>zd (w':=w101) (zc rfl) rfl F144 rfl (.pointer (some ⟨gq91,3*kn,none⟩)) (zac 49 (s:=3) Tryz.underlying49 (by kernel_rfl) _ _ rfl (F144.get (t:=59) rfl) (F144.get (t:=60) rfl) rfl hkl ((Nat.zero_add _).trans (Nat.mul_comm kn 3))) fun _ F145=>?_)))))
      refine zd (w':=w101) (zc rfl) rfl F145 rfl (.pointer (some ⟨gq91,3*kn+0,none⟩)) (y_fa (off:=0) rfl (F145.get (t:=61) rfl) (by kernel_rfl) rfl) fun _ F146=>?_
      refine zd (w':=w101) (zc rfl) rfl F146 rfl ((s91 kn)) (zca _ _ rfl (F146.get (t:=62) rfl) (M101.roB (k:=5) rfl) (cel_s Vv.c s91 n91 hkl) Tryz.underlying23 rfl) fun _ F147=>?_
      refine rm rfl F147 fun _ F148=>hK142 _ _ (zSk fun _ hK149=>zT fun _ hK150=>rm rfl F148 fun _ F151=>rm rfl F151 fun _ F152=>zd (w':=w101) (zc rfl) rfl F152 rfl (.pointer (some ⟨gq91,3*kn,none⟩)) (zac 49 (s:=3) Tryz.underlying49 (by kernel_rfl) _ _ rfl (F152.get (t:=64) rfl) (F152.get (t:=65) rfl) rfl hkl ((Nat.zero_add _).trans (Nat.mul_comm kn 3))) fun _ F153=>?_)
      refine zd (w':=w101) (zc rfl) rfl F153 rfl (.pointer (some ⟨gq91,3*kn+2,none⟩)) (y_fa (off:=2) rfl (F153.get (t:=66) rfl) (by kernel_rfl) rfl) fun _ F154=>?_
      refine zd (w':=w101) (zc rfl) rfl F154 rfl (.bool false) (zca _ _ rfl (F154.get (t:=67) rfl) (M101.roB (k:=5) rfl) ((cel_f Vv.c s91 n91 hkl).trans (congrArg (fun b=>some (Value.bool b)) hcf)) Tryz.underlying4 rfl) fun _ F155=>?_
      refine rm rfl F155 fun _ F156=>rm rfl F156 fun _ F157=>rm rfl F157 fun _ F158=>zd (w':=w101) (ze rfl rfl rfl (F158.get (t:=69) rfl)) rfl F158 rfl (.pointer (some ⟨gq91,3*kn,none⟩)) (zac 49 (s:=3) Tryz.underlying49 (by kernel_rfl) _ _ rfl (F158.get (t:=70) rfl) (F158.get (t:=71) rfl) rfl hkl ((Nat.zero_add _).trans (Nat.mul_comm kn 3))) fun _ F159=>?_
      refine zd (w':=w101) (ze rfl rfl rfl (F159.get (t:=69) rfl)) rfl F159 rfl (.pointer (some ⟨gq91,3*kn+1,none⟩)) (y_fa (off:=1) rfl (F159.get (t:=72) rfl) (by kernel_rfl) rfl) fun _ F160=>?_
      refine zd (w':=w101) (ze rfl rfl rfl (F160.get (t:=69) rfl)) rfl F160 rfl ((n91 kn)) (zca _ _ rfl (F160.get (t:=73) rfl) (M101.roB (k:=5) rfl) (cel_n Vv.c s91 n91 hkl) Tryz.underlying23 rfl) fun _ F161=>?_
      refine zd (w':=w101) (ze rfl rfl rfl (F161.get (t:=69) rfl)) rfl F161 rfl (.int .i64 0) (zya _ rfl (F161.get (t:=74) rfl) (hcn▸M101.rowsN (i:=6) rfl hkl) rfl) fun _ F162=>?_
      refine zAx 2 [(76,.bool false),(77,.bool false)] [] dnil [] F162 fun _ F163=>?_
      refine hK150 _ _ (wp_cond_false (F163.get (t:=77) rfl) (wp_skip (hK149 _ _ (zSk fun _ hK164=>zT fun _ hK165=>rm rfl F163 fun _ F166=>zd (w':=w101) (zc rfl) rfl F166 rfl (.int .i64 (sj.length:Int)) (zya _ rfl (F166.get (t:=78) rfl) (hsj▸M101.rowsS (i:=6) rfl hkl) rfl) fun _ F167=>?_))))
      refine zd (w':=w101) (zc rfl) rfl F167 rfl (.bool false) (zgb _ _ _ _ rfl (F167.get (t:=79) rfl) rfl Tryz.underlying3 (zhc (show ¬(sj.length:Int)=0 by omega))) fun _ F168=>?_
      refine hK165 _ _ (wp_cond_false (F168.get (t:=80) rfl) (wp_skip (hK164 _ _ (zSk fun _ hK169=>zT fun _ hK170=>rm rfl F168 fun _ F171=>zd (w':=w101) (zc rfl) rfl F171 rfl (.int .i64 (sj.length:Int)) (zya _ rfl (F171.get (t:=81) rfl) (hsj▸M101.rowsS (i:=6) rfl hkl) rfl) fun _ F172=>?_))))
      refine zd (w':=w101) (zc rfl) rfl F172 rfl (.bool false) (zla _ _ _ _ rfl (F172.get (t:=82) rfl) rfl (decide_eq_false (show ¬(sj.length:Int)<25 by omega))) fun _ F173=>?_
      refine rm rfl F173 fun _ F174=>rm rfl F174 fun _ F175=>zd (w':=w101) (ze rfl rfl rfl (F175.get (t:=84) rfl)) rfl F175 rfl (.int .i64 (sj.length:Int)) (zya _ rfl (F175.get (t:=85) rfl) (hsj▸M101.rowsS (i:=6) rfl hkl) rfl) fun _ F176=>?_
      refine rm rfl F176 fun _ F177=>zd (w':=w101) (ze rfl rfl rfl (F177.get (t:=84) rfl)) rfl F177 rfl ((ixV ((s91 kn)) 8)) (y_ixB _ _ rfl (F177.get (t:=87) rfl) (hsj▸M101.rowsS (i:=6) rfl hkl) rfl rfl (by omega)) fun _ F178=>?_
      refine zd (w':=w101) (ze rfl rfl rfl (F178.get (t:=84) rfl)) rfl F178 rfl (.int .u8 ((x8.toNat:Nat):Int)) (y_ldB _ rfl (F178.get (t:=88) rfl) (hsj▸M101.rowsS (i:=6) rfl hkl) hx8 rfl) fun _ F179=>?_
      refine zd (w':=w101) (ze rfl rfl rfl (F179.get (t:=84) rfl)) rfl F179 rfl (.int .i64 ((x8.toNat:Nat):Int)) (y_cvI _ _ _ rfl (F179.get (t:=89) rfl) Tryz.underlying5 Tryz.underlying3 (byte_i64 _)) fun _ F180=>?_
      refine zd (w':=w101) (ze rfl rfl rfl (F180.get (t:=84) rfl)) rfl F180 rfl (.int .i64 (sj.length:Int)) (zsa _ _ _ _ rfl rfl (F180.get (t:=90) rfl) (by omega) (by omega)) fun _ F181=>?_
      refine zd (w':=w101) (ze rfl rfl rfl (F181.get (t:=84) rfl)) rfl F181 rfl (.bool false) (y_neI _ _ _ _ rfl (F181.get (t:=86) rfl) (F181.get (t:=91) rfl) Tryz.underlying3 (y_bneF rfl)) fun _ F182=>?_
      refine zd (w':=w101) (zc rfl) rfl F182 rfl (.bool false) (zvb rfl (F182.get (t:=84) rfl) (F182.get (t:=92) rfl)) fun _ F183=>?_
      refine hK170 _ _ (wp_cond_false (F183.get (t:=93) rfl) (wp_skip (hK169 _ _ (zSk fun _ hK184=>?_))))
      refine z6a F183 (SK [.inr (StK.lit w101.heap.size [99,101,108,108]),.inr (StK.lit w101.heap.size [99,101,108,108]),.inl (.int .i64 (kn:Int)),.inr (StK.bytes (zt (kn:Int))),.inl ((s91 kn)),.inl ((s91 kn)),.inl (.int .i64 (sj.length:Int)),.inl (.int .i64 (e16:Int)),.inr (StK.bytes (sj.take e16)),.inr (StK.parts [[99,101,108,108],(zt (kn:Int)),(sj.take e16)]),.inl (.agg (zka Y)),.inr (StK.new w101.heap.size (zka (fun _=>0)) 65 (by decide))]) 12 rfl (by kernel_rfl) ⟨?_,?_,hop0 F183 (by kernel_rfl),?_,hop0 F183 (by kernel_rfl),hop0 F183 (by kernel_rfl),hopR F183 [(99,(s91 kn))] fun ua uw hb ⟨e99,_⟩=>(zya _ rfl e99 (hsj▸(M101.step hb).rowsS (i:=6) rfl hkl) rfl),hopR F183 [(100,.int .i64 (sj.length:Int))] (v:=.int .i64 (e16:Int)) fun ua uw hb ⟨e100,_⟩=>(zpc _ _ _ _ rfl e100 rfl (by omega) (by omega)),?_,?_,?_,?_,trivial⟩ ?_
      ·intro ua uw hb hd
       exact hop_lit (zc rfl) hb.size [99,101,108,108] (by decide) (by decide) _ rfl (by simp only [List.map_toArray,List.map_cons,List.map_nil];kernel_rfl)
      ·intro ua uw hb hd
       have l94:LitB w101.heap.size uw [99,101,108,108] (ua.eval (.tmp 94)):=hd 94 (by decide)
       have e94:=l94.isB
       exact hop_convK (zc rfl) _ rfl l94
      ·intro ua uw hb hd
       have e96:ua.eval (.tmp 96)=.int .i64 (kn:Int):=hd 96 (by decide)
       exact zmb (F:=(StK.bytes (zt (kn:Int))).F) (zc rfl) hb.size rfl #[.int .i64 (kn:Int)] (zz e96) (zE Tryz.func36 rfl) ((rei_r kn (by omega) uw))
      ·intro ua uw hb hd
       have e98:ua.eval (.tmp 98)=(s91 kn):=hd 98 (by decide)
       have e101:ua.eval (.tmp 101)=.int .i64 (e16:Int):=hd 101 (by decide)
       exact hop_slTo (zc rfl) (.tmp 98) (.tmp 101) rfl (by rw [e98];exact (hsj▸(M101.step hb).rowsS (i:=6) rfl hkl)) e101 rfl (by omega)
      ·intro ua uw hb hd
       have l95:LitB w101.heap.size uw [99,101,108,108] (ua.eval (.tmp 95)):=hd 95 (by decide)
       have e95:=l95.isB
       have e97:IsB uw (zt (kn:Int)) (ua.eval (.tmp 97)):=hd 97 (by decide)
       have e102:IsB uw (sj.take e16) (ua.eval (.tmp 102)):=hd 102 (by decide)
       exact hop_parts3 (zc rfl) hb.size (.tmp 95) (.tmp 97) (.tmp 102) rfl e95 e97 e102
      ·intro ua uw hb hd
       have e103:IsP uw [[99,101,108,108],(zt (kn:Int)),(sj.take e16)] (ua.eval (.tmp 103)):=hd 103 (by decide)
       exact zmb (F:=(StK.eq (.agg (zka Y))).F) (zc rfl) hb.size rfl #[(ua.eval (.tmp 103))] (zz rfl) (zE Tryz.func35 rfl) (zxc ((rof3_is hY e103 (by rw [List.length_take];omega) )))
      ·intro ua uw hb hd
       exact hop_new (zc rfl) hb.size hb.size (by decide) (by unfold execOp;kernel_rfl)
      intro p186 a186 w186 b186 G186 y186
      obtain ⟨-,-,-,-,-,-,-,-,-,-,q10,q11,-⟩:=y186
      obtain ⟨gn11x185,r11,hg11,hc11⟩:=q11 (by decide)
      replace r11:p186 11=.pointer (some ⟨gn11x185,0,none⟩):=r11
      have r10:p186 10=.agg (zka Y):=q10 (by decide)
      simp only [List.take,layV,Nat.zero_add,Nat.reduceAdd,r10,r11] at G186
      have M186:=M101.newb b186.below 7 hg11 hc11
      clear hg11 hc11 r11
      clear F183 M101 r10 q10
      refine zu (zc rfl) rfl G186 M186 (k:=7) rfl _ _ _ rfl (G186.get (t:=12) rfl) (G186.get (t:=104) rfl) (zka Y) _ rfl (zL rfl) (arr16_one _) (zaa rfl) (by kernel_rfl) ?_
      intro w187 M187
      refine hK184 _ _ (zSk fun _ hK188=>?_)
      have hD189:=(zx (M187.blk (k:=7) rfl) dnil)
      refine z6a G186 (SK [.inl (.agg (zka Y)),.inr (StK.bytes (sumY Y)),.inl (.string (⟨((sumY Y)).toArray⟩)),.inl ((s91 kn)),.inl ((s91 kn)),.inl (.int .i64 (sj.length:Int)),.inl (.int .i64 (e16:Int)),.inr (StK.bytes (sj.drop e16)),.inl (.string (⟨((sj.drop e16)).toArray⟩)),.inl (.bool false)]) 10 rfl (by kernel_rfl) ⟨hopP G186 hD189 0 (some gn11x185) (by kernel_rfl),?_,?_,hop0 G186 (by kernel_rfl),hop0 G186 (by kernel_rfl),hopR G186 [(109,(s91 kn))] fun ua uw hb ⟨e109,_⟩=>(zya _ rfl e109 (hsj▸(M187.step hb).rowsS (i:=6) rfl hkl) rfl),hopR G186 [(110,.int .i64 (sj.length:Int))] (v:=.int .i64 (e16:Int)) fun ua uw hb ⟨e110,_⟩=>(zpc _ _ _ _ rfl e110 rfl (by omega) (by omega)),?_,?_,hopR G186 [(107,.string (⟨((sumY Y)).toArray⟩)),(113,.string (⟨((sj.drop e16)).toArray⟩))] (v:=.bool false) fun ua uw hb ⟨e107,e113,_⟩=>(y_neS _ _ _ rfl e107 e113 (str_ne2 hxd.symm)),trivial⟩ ?_
      ·intro ua uw hb hd
       have e105:ua.eval (.tmp 105)=.agg (zka Y):=hd 105 (by decide)
       exact zmb (F:=(StK.bytes (sumY Y)).F) (zc rfl) hb.size rfl #[.agg (zka Y)] (zz e105) (zE Tryz.func37 rfl) ((rsb_r Y (hY▸outF_bd _) uw))
      ·intro ua uw hb hd
       have e106:IsB uw (sumY Y) (ua.eval (.tmp 106)):=hd 106 (by decide)
       exact zlb (F:=(StK.eq (.string (⟨((sumY Y)).toArray⟩))).F) (zc rfl) (.string (⟨((sumY Y)).toArray⟩)) (y_str _ rfl rfl e106) rfl
      ·intro ua uw hb hd
       have e108:ua.eval (.tmp 108)=(s91 kn):=hd 108 (by decide)
       have e111:ua.eval (.tmp 111)=.int .i64 (e16:Int):=hd 111 (by decide)
       exact hop_slFrom (zc rfl) (.tmp 108) (.tmp 111) rfl (by rw [e108];exact (hsj▸(M187.step hb).rowsS (i:=6) rfl hkl)) e111 rfl (by omega)
      ·intro ua uw hb hd
       have e112:IsB uw (sj.drop e16) (ua.eval (.tmp 112)):=hd 112 (by decide)
       exact zlb (F:=(StK.eq (.string (⟨((sj.drop e16)).toArray⟩))).F) (zc rfl) (.string (⟨((sj.drop e16)).toArray⟩)) (y_str _ rfl rfl e112) rfl
      intro p190 a190 w190 b190 G190 y190
      obtain ⟨-,-,-,-,-,-,-,-,-,q9,-⟩:=y190
      have r9:p190 9=.bool false:=q9 (by decide)
      simp only [List.take,layV,Nat.zero_add,Nat.reduceAdd,r9] at G190
      have M190:=M187.kc b190
      clear G186 M187 r9 q9
      refine hK188 _ _ (wp_cond_false (G190.get (t:=114) rfl) (wp_skip (hK141 _ _ (zR (rm rfl G190 fun _ F191=>zd (w':=w190) (zc rfl) rfl F191 rfl (.int .i64 ((kn+1:Nat):Int)) (zsa _ _ _ _ rfl (F191.get (t:=57) rfl) rfl (by omega) (by omega)) fun _ F192=>?_)))))
      refine rm rfl F192 fun _ F193=>?_
      subst ek101
      exact hK101 _ (kn+1) _ _ (by omega) ⟨rfl,(by omega)⟩ (F193.sb) (M190.sb)
    ·refine zSk fun _ hK194=>zT fun _ hK195=>rm rfl F101 fun _ F196=>zd (w':=w101) (zc rfl) rfl F196 rfl (.bool false) (zla _ _ _ _ rfl (F196.get (t:=55) rfl) rfl (decide_eq_false (show ¬(kn:Int)<18 by omega))) fun _ F197=>?_
     refine hK195 _ _ (wp_cond_false (F197.get (t:=56) rfl) (wp_exit ?_))
     simp only [Exit.then,Exit.inBlock,↓reduceIte,Nat.reduceEqDiff]
     refine hK98 _ _ (zT fun _ hK198=>rm rfl F197 fun _ F199=>rm rfl F199 fun _ F200=>zd (w':=w101) (zc rfl) rfl F200 rfl (.pointer (some ⟨gx34,0,none⟩)) (by unfold execOp;simp only [(F200.get (t:=116) rfl)];kernel_rfl) fun _ F201=>?_)
     refine zd (w':=w101) (zc rfl) rfl F201 rfl (.pointer (some ⟨gx34,0,none⟩)) (y_fa (off:=0) rfl (F201.get (t:=117) rfl) (by kernel_rfl) rfl) fun _ F202=>?_
     refine zd (w':=w101) (zc rfl) rfl F202 rfl (.slice (some ⟨gc34,0,none⟩) 18 18) (zca _ _ rfl (F202.get (t:=118) rfl) (M101.xOk (k:=4) rfl).has.hx rfl Tryz.underlying49 rfl) fun _ F203=>?_
     refine zh (zc rfl) rfl F203 rfl rfl (zE Tryz.func38 rfl) #[.slice (some ⟨gq91,0,none⟩) 18 18,.slice (some ⟨gc34,0,none⟩) 18 18] (zia (F203.get (t:=115) rfl) (F203.get (t:=119) rfl)) (zba ((xcells_any gq91 gc34 Vv.c s91 n91 sx nx w101 ⟨M101.roB (k:=5) rfl,fun i hi=>M101.rowsS (i:=6) rfl hi,fun i hi=>M101.rowsN (i:=6) rfl hi⟩ ⟨(M101.xOk (k:=4) rfl).has.hc,(M101.xOk (k:=4) rfl).has.hs,(M101.xOk (k:=4) rfl).has.hn⟩))) ?_
     rintro _ w204 a204 ⟨rfl,b204⟩ F204
     have M204:=M101.step b204
     refine rm rfl F204 fun _ F205=>hK198 _ _ (wp_ret ?_)
     try simp only [Exit.then,Exit.inBlock,Exit.jump]
     exact bodyPost_ret (res1 rfl (F205.get rfl)) F205.defers ⟨rfl,M204.below⟩
  ·refine zd (w':=w44) (zc rfl) rfl F49 rfl (.bool false) (zla _ _ _ _ rfl (F49.get (t:=22) rfl) (F49.get (t:=24) rfl) (decide_eq_false h50)) fun _ F206=>?_
   refine zAx 4 [(26,.bool false),(27,undef),(28,undef),(29,.bool false)] [] dnil [] F206 fun _ F207=>?_
   refine hK46 _ _ (wp_cond_false (F207.get (t:=29) rfl) (wp_exit ?_))
   simp only [Exit.then,Exit.inBlock,↓reduceIte,Nat.reduceEqDiff]
   refine hK41 _ _ (zT fun _ hK208=>rm rfl F207 fun _ F209=>zh (zc rfl) rfl F209 rfl rfl (zE Tryz.func28 rfl) #[.pointer (some ⟨g33,0,none⟩)] (zz (F209.get (t:=50) rfl)) (cells_is g33 Vv sv nv hS.inv w44 (M44.hasV (kg:=2) (kr:=3) rfl rfl (by decide))) ?_)
   rintro _ w210 a210 ⟨gq210,s210,n210,rfl,ce210,b210⟩ F210
   have M210:=M44.newCells b210 5 6 ce210
   clear M44 ce210 b210
   refine rm rfl F210 fun _ F211=>hK208 _ _ (zSk fun _ hK212=>zT fun _ hK213=>rm rfl F211 fun _ F214=>zd (w':=w210) (zc rfl) rfl F214 rfl (.int .i64 18) (y_lnG 49 Tryz.underlying49 _ rfl (F214.get (t:=52) rfl) rfl) fun _ F215=>?_)
   refine zd (w':=w210) (zc rfl) rfl F215 rfl (.bool false) (y_neI _ _ _ _ rfl (F215.get (t:=53) rfl) rfl Tryz.underlying3 (y_bneF (by decide))) fun _ F216=>?_
   refine hK213 _ _ (wp_cond_false (F216.get (t:=54) rfl) (wp_skip (hK212 _ _ (zSk fun _ hK217=>zT fun _ hK218=>rm rfl F216 fun _ F219=>hK218 _ _ (wp_block ?_)))))
   refine zqb (α:=Nat) (n:=121) (G:=none) (w0:=w) (fun x=>[(0,.slice A0 n0 cap0),(1,.slice A1 n1 cap1),(5,.pointer (some ⟨g33,0,none⟩)),(6,.pointer (some ⟨gx34,0,none⟩)),(9,.slice (some ⟨gq210,0,none⟩) 18 18),(10,.int .i64 (x:Int))]) (fun x=>[(0,bytR l1 (.slice A1 n1 cap1)),(1,intR A0 n0 x0),(2,blkR g33 80 (vltA Vv sv nv)),(3,z3a 0 18 Vv.c sv nv),(4,xR gx34 gc34 Vv sx nx),(5,blkO gq210 63 (celA Vv.c s210 n210)),(6,z3a 0 18 Vv.c s210 n210)]) (fun k x=>k=(18-x)∧(x≤18)) _ 0 ⟨rfl,(Nat.zero_le _)⟩ (F219.sb) (M210.sb) ?_
   rintro k220 kn a220 w220 K220 ⟨ek220,I220⟩ F220 M220 hK220
   replace F220:Fx 121 a220 [(0,.slice A0 n0 cap0),(1,.slice A1 n1 cap1),(5,.pointer (some ⟨g33,0,none⟩)),(6,.pointer (some ⟨gx34,0,none⟩)),(9,.slice (some ⟨gq210,0,none⟩) 18 18),(10,.int .i64 (kn:Int))]:=F220
   replace M220:Mx _ _ w220 [(0,bytR l1 (.slice A1 n1 cap1)),(1,intR A0 n0 x0),(2,blkR g33 80 (vltA Vv sv nv)),(3,z3a 0 18 Vv.c sv nv),(4,xR gx34 gc34 Vv sx nx),(5,blkO gq210 63 (celA Vv.c s210 n210)),(6,z3a 0 18 Vv.c s210 n210)]:=M220
   replace I220:kn≤18:=I220
   replace ek220:k220=(18-kn):=ek220
   by_cases hkl:kn<18
   ·obtain ⟨hcf,hcn,hcs⟩:=hS.cl kn
    obtain ⟨sj,hsj⟩:∃ x,(Vv.c kn).s=x:=⟨_,rfl⟩
    rw [hsj] at hcs
    rcases hcs with hcs | ⟨x8,hx8,hxl,hxd⟩
    ·subst hcs
     refine zSk fun _ hK221=>zT fun _ hK222=>rm rfl F220 fun _ F223=>zd (w':=w220) (zc rfl) rfl F223 rfl (.bool true) (zla _ _ _ _ rfl (F223.get (t:=55) rfl) rfl (decide_eq_true (show (kn:Int)<18 by omega))) fun _ F224=>?_
     refine hK222 _ _ (wp_cond_true (F224.get (t:=56) rfl) (wp_skip (hK221 _ _ (zSk fun _ hK225=>wp_block (zT fun _ hK226=>rm rfl F224 fun _ F227=>rm rfl F227 fun _ F228=>zd (w':=w220) (zc rfl) rfl F228 rfl (.pointer (some ⟨gq210,3*kn,none⟩)) (zac 49 (s:=3) Tryz.underlying49 (by kernel_rfl) _ _ rfl (F228.get (t:=59) rfl) (F228.get (t:=60) rfl) rfl hkl ((Nat.zero_add _).trans (Nat.mul_comm kn 3))) fun _ F229=>?_)))))
     refine zd (w':=w220) (zc rfl) rfl F229 rfl (.pointer (some ⟨gq210,3*kn+0,none⟩)) (y_fa (off:=0) rfl (F229.get (t:=61) rfl) (by kernel_rfl) rfl) fun _ F230=>?_
     refine zd (w':=w220) (zc rfl) rfl F230 rfl ((s210 kn)) (zca _ _ rfl (F230.get (t:=62) rfl) (M220.roB (k:=5) rfl) (cel_s Vv.c s210 n210 hkl) Tryz.underlying23 rfl) fun _ F231=>?_
     refine rm rfl F231 fun _ F232=>hK226 _ _ (zSk fun _ hK233=>zT fun _ hK234=>rm rfl F232 fun _ F235=>rm rfl F235 fun _ F236=>zd (w':=w220) (zc rfl) rfl F236 rfl (.pointer (some ⟨gq210,3*kn,none⟩)) (zac 49 (s:=3) Tryz.underlying49 (by kernel_rfl) _ _ rfl (F236.get (t:=64) rfl) (F236.get (t:=65) rfl) rfl hkl ((Nat.zero_add _).trans (Nat.mul_comm kn 3))) fun _ F237=>?_)
     refine zd (w':=w220) (zc rfl) rfl F237 rfl (.pointer (some ⟨gq210,3*kn+2,none⟩)) (y_fa (off:=2) rfl (F237.get (t:=66) rfl) (by kernel_rfl) rfl) fun _ F238=>?_
     refine zd (w':=w220) (zc rfl) rfl F238 rfl (.bool false) (zca _ _ rfl (F238.get (t:=67) rfl) (M220.roB (k:=5) rfl) ((cel_f Vv.c s210 n210 hkl).trans (congrArg (fun b=>some (Value.bool b)) hcf)) Tryz.underlying4 rfl) fun _ F239=>?_
     refine rm rfl F239 fun _ F240=>rm rfl F240 fun _ F241=>rm rfl F241 fun _ F242=>zd (w':=w220) (ze rfl rfl rfl (F242.get (t:=69) rfl)) rfl F242 rfl (.pointer (some ⟨gq210,3*kn,none⟩)) (zac 49 (s:=3) Tryz.underlying49 (by kernel_rfl) _ _ rfl (F242.get (t:=70) rfl) (F242.get (t:=71) rfl) rfl hkl ((Nat.zero_add _).trans (Nat.mul_comm kn 3))) fun _ F243=>?_
     refine zd (w':=w220) (ze rfl rfl rfl (F243.get (t:=69) rfl)) rfl F243 rfl (.pointer (some ⟨gq210,3*kn+1,none⟩)) (y_fa (off:=1) rfl (F243.get (t:=72) rfl) (by kernel_rfl) rfl) fun _ F244=>?_
     refine zd (w':=w220) (ze rfl rfl rfl (F244.get (t:=69) rfl)) rfl F244 rfl ((n210 kn)) (zca _ _ rfl (F244.get (t:=73) rfl) (M220.roB (k:=5) rfl) (cel_n Vv.c s210 n210 hkl) Tryz.underlying23 rfl) fun _ F245=>?_
     refine zd (w':=w220) (ze rfl rfl rfl (F245.get (t:=69) rfl)) rfl F245 rfl (.int .i64 0) (zya _ rfl (F245.get (t:=74) rfl) (hcn▸M220.rowsN (i:=6) rfl hkl) rfl) fun _ F246=>?_
     refine zAx 2 [(76,.bool false),(77,.bool false)] [] dnil [] F246 fun _ F247=>?_
     refine hK234 _ _ (wp_cond_false (F247.get (t:=77) rfl) (wp_skip (hK233 _ _ (zSk fun _ hK248=>zT fun _ hK249=>rm rfl F247 fun _ F250=>zd (w':=w220) (zc rfl) rfl F250 rfl (.int .i64 0) (zya _ rfl (F250.get (t:=78) rfl) (hsj▸M220.rowsS (i:=6) rfl hkl) rfl) fun _ F251=>?_))))
     refine zd (w':=w220) (zc rfl) rfl F251 rfl (.bool true) (zgb _ _ _ _ rfl (F251.get (t:=79) rfl) rfl Tryz.underlying3 (z1b (by decide))) fun _ F252=>?_
     refine hK249 _ _ (wp_cond_true (F252.get (t:=80) rfl) (wp_exit ?_))
     simp only [Exit.then,Exit.inBlock,↓reduceIte,Nat.reduceEqDiff]
     refine hK225 _ _ (zR (rm rfl F252 fun _ F253=>zd (w':=w220) (zc rfl) rfl F253 rfl (.int .i64 ((kn+1:Nat):Int)) (zsa _ _ _ _ rfl (F253.get (t:=57) rfl) rfl (by omega) (by omega)) fun _ F254=>?_))
     refine rm rfl F254 fun _ F255=>?_
     subst ek220
     exact hK220 _ (kn+1) _ _ (by omega) ⟨rfl,(by omega)⟩ (F255.sb) (M220.sb)
    ·have hx255:=x8.toNat_lt
     obtain ⟨e16,he16⟩:∃ e,sj.length-16=e:=⟨_,rfl⟩
     rw [he16] at hxd
     obtain ⟨Y,hY⟩:∃ Y,outF (macW [] [cellB,zt (kn:Int),sj.take e16])=Y:=⟨_,rfl⟩
     rw [hY] at hxd
     refine zSk fun _ hK256=>zT fun _ hK257=>rm rfl F220 fun _ F258=>zd (w':=w220) (zc rfl) rfl F258 rfl (.bool true) (zla _ _ _ _ rfl (F258.get (t:=55) rfl) rfl (decide_eq_true (show (kn:Int)<18 by omega))) fun _ F259=>?_
     refine hK257 _ _ (wp_cond_true (F259.get (t:=56) rfl) (wp_skip (hK256 _ _ (zSk fun _ hK260=>wp_block (zT fun _ hK261=>rm rfl F259 fun _ F262=>rm rfl F262 fun _ F263=>zd (w':=w220) (zc rfl) rfl F263 rfl (.pointer (some ⟨gq210,3*kn,none⟩)) (zac 49 (s:=3) Tryz.underlying49 (by kernel_rfl) _ _ rfl (F263.get (t:=59) rfl) (F263.get (t:=60) rfl) rfl hkl ((Nat.zero_add _).trans (Nat.mul_comm kn 3))) fun _ F264=>?_)))))
     refine zd (w':=w220) (zc rfl) rfl F264 rfl (.pointer (some ⟨gq210,3*kn+0,none⟩)) (y_fa (off:=0) rfl (F264.get (t:=61) rfl) (by kernel_rfl) rfl) fun _ F265=>?_
     refine zd (w':=w220) (zc rfl) rfl F265 rfl ((s210 kn)) (zca _ _ rfl (F265.get (t:=62) rfl) (M220.roB (k:=5) rfl) (cel_s Vv.c s210 n210 hkl) Tryz.underlying23 rfl) fun _ F266=>?_
     refine rm rfl F266 fun _ F267=>hK261 _ _ (zSk fun _ hK268=>zT fun _ hK269=>rm rfl F267 fun _ F270=>rm rfl F270 fun _ F271=>zd (w':=w220) (zc rfl) rfl F271 rfl (.pointer (some ⟨gq210,3*kn,none⟩)) (zac 49 (s:=3) Tryz.underlying49 (by kernel_rfl) _ _ rfl (F271.get (t:=64) rfl) (F271.get (t:=65) rfl) rfl hkl ((Nat.zero_add _).trans (Nat.mul_comm kn 3))) fun _ F272=>?_)
     refine zd (w':=w220) (zc rfl) rfl F272 rfl (.pointer (some ⟨gq210,3*kn+2,none⟩)) (y_fa (off:=2) rfl (F272.get (t:=66) rfl) (by kernel_rfl) rfl) fun _ F273=>?_
     refine zd (w':=w220) (zc rfl) rfl F273 rfl (.bool false) (zca _ _ rfl (F273.get (t:=67) rfl) (M220.roB (k:=5) rfl) ((cel_f Vv.c s210 n210 hkl).trans (congrArg (fun b=>some (Value.bool b)) hcf)) Tryz.underlying4 rfl) fun _ F274=>?_
     refine rm rfl F274 fun _ F275=>rm rfl F275 fun _ F276=>rm rfl F276 fun _ F277=>zd (w':=w220) (ze rfl rfl rfl (F277.get (t:=69) rfl)) rfl F277 rfl (.pointer (some ⟨gq210,3*kn,none⟩)) (zac 49 (s:=3) Tryz.underlying49 (by kernel_rfl) _ _ rfl (F277.get (t:=70) rfl) (F277.get (t:=71) rfl) rfl hkl ((Nat.zero_add _).trans (Nat.mul_comm kn 3))) fun _ F278=>?_
     refine zd (w':=w220) (ze rfl rfl rfl (F278.get (t:=69) rfl)) rfl F278 rfl (.pointer (some ⟨gq210,3*kn+1,none⟩)) (y_fa (off:=1) rfl (F278.get (t:=72) rfl) (by kernel_rfl) rfl) fun _ F279=>?_
     refine zd (w':=w220) (ze rfl rfl rfl (F279.get (t:=69) rfl)) rfl F279 rfl ((n210 kn)) (zca _ _ rfl (F279.get (t:=73) rfl) (M220.roB (k:=5) rfl) (cel_n Vv.c s210 n210 hkl) Tryz.underlying23 rfl) fun _ F280=>?_
     refine zd (w':=w220) (ze rfl rfl rfl (F280.get (t:=69) rfl)) rfl F280 rfl (.int .i64 0) (zya _ rfl (F280.get (t:=74) rfl) (hcn▸M220.rowsN (i:=6) rfl hkl) rfl) fun _ F281=>?_
     refine zAx 2 [(76,.bool false),(77,.bool false)] [] dnil [] F281 fun _ F282=>?_
     refine hK269 _ _ (wp_cond_false (F282.get (t:=77) rfl) (wp_skip (hK268 _ _ (zSk fun _ hK283=>zT fun _ hK284=>rm rfl F282 fun _ F285=>zd (w':=w220) (zc rfl) rfl F285 rfl (.int .i64 (sj.length:Int)) (zya _ rfl (F285.get (t:=78) rfl) (hsj▸M220.rowsS (i:=6) rfl hkl) rfl) fun _ F286=>?_))))
     refine zd (w':=w220) (zc rfl) rfl F286 rfl (.bool false) (zgb _ _ _ _ rfl (F286.get (t:=79) rfl) rfl Tryz.underlying3 (zhc (show ¬(sj.length:Int)=0 by omega))) fun _ F287=>?_
     refine hK284 _ _ (wp_cond_false (F287.get (t:=80) rfl) (wp_skip (hK283 _ _ (zSk fun _ hK288=>zT fun _ hK289=>rm rfl F287 fun _ F290=>zd (w':=w220) (zc rfl) rfl F290 rfl (.int .i64 (sj.length:Int)) (zya _ rfl (F290.get (t:=81) rfl) (hsj▸M220.rowsS (i:=6) rfl hkl) rfl) fun _ F291=>?_))))
     refine zd (w':=w220) (zc rfl) rfl F291 rfl (.bool false) (zla _ _ _ _ rfl (F291.get (t:=82) rfl) rfl (decide_eq_false (show ¬(sj.length:Int)<25 by omega))) fun _ F292=>?_
     refine rm rfl F292 fun _ F293=>rm rfl F293 fun _ F294=>zd (w':=w220) (ze rfl rfl rfl (F294.get (t:=84) rfl)) rfl F294 rfl (.int .i64 (sj.length:Int)) (zya _ rfl (F294.get (t:=85) rfl) (hsj▸M220.rowsS (i:=6) rfl hkl) rfl) fun _ F295=>?_
     refine rm rfl F295 fun _ F296=>zd (w':=w220) (ze rfl rfl rfl (F296.get (t:=84) rfl)) rfl F296 rfl ((ixV ((s210 kn)) 8)) (y_ixB _ _ rfl (F296.get (t:=87) rfl) (hsj▸M220.rowsS (i:=6) rfl hkl) rfl rfl (by omega)) fun _ F297=>?_
     refine zd (w':=w220) (ze rfl rfl rfl (F297.get (t:=84) rfl)) rfl F297 rfl (.int .u8 ((x8.toNat:Nat):Int)) (y_ldB _ rfl (F297.get (t:=88) rfl) (hsj▸M220.rowsS (i:=6) rfl hkl) hx8 rfl) fun _ F298=>?_
     refine zd (w':=w220) (ze rfl rfl rfl (F298.get (t:=84) rfl)) rfl F298 rfl (.int .i64 ((x8.toNat:Nat):Int)) (y_cvI _ _ _ rfl (F298.get (t:=89) rfl) Tryz.underlying5 Tryz.underlying3 (byte_i64 _)) fun _ F299=>?_
     refine zd (w':=w220) (ze rfl rfl rfl (F299.get (t:=84) rfl)) rfl F299 rfl (.int .i64 (sj.length:Int)) (zsa _ _ _ _ rfl rfl (F299.get (t:=90) rfl) (by omega) (by omega)) fun _ F300=>?_
     refine zd (w':=w220) (ze rfl rfl rfl (F300.get (t:=84) rfl)) rfl F300 rfl (.bool false) (y_neI _ _ _ _ rfl (F300.get (t:=86) rfl) (F300.get (t:=91) rfl) Tryz.underlying3 (y_bneF rfl)) fun _ F301=>?_
     refine zd (w':=w220) (zc rfl) rfl F301 rfl (.bool false) (zvb rfl (F301.get (t:=84) rfl) (F301.get (t:=92) rfl)) fun _ F302=>?_
     refine hK289 _ _ (wp_cond_false (F302.get (t:=93) rfl) (wp_skip (hK288 _ _ (zSk fun _ hK303=>?_))))
     refine z6a F302 (SK [.inr (StK.lit w220.heap.size [99,101,108,108]),.inr (StK.lit w220.heap.size [99,101,108,108]),.inl (.int .i64 (kn:Int)),.inr (StK.bytes (zt (kn:Int))),.inl ((s210 kn)),.inl ((s210 kn)),.inl (.int .i64 (sj.length:Int)),.inl (.int .i64 (e16:Int)),.inr (StK.bytes (sj.take e16)),.inr (StK.parts [[99,101,108,108],(zt (kn:Int)),(sj.take e16)]),.inl (.agg (zka Y)),.inr (StK.new w220.heap.size (zka (fun _=>0)) 65 (by decide))]) 12 rfl (by kernel_rfl) ⟨?_,?_,hop0 F302 (by kernel_rfl),?_,hop0 F302 (by kernel_rfl),hop0 F302 (by kernel_rfl),hopR F302 [(99,(s210 kn))] fun ua uw hb ⟨e99,_⟩=>(zya _ rfl e99 (hsj▸(M220.step hb).rowsS (i:=6) rfl hkl) rfl),hopR F302 [(100,.int .i64 (sj.length:Int))] (v:=.int .i64 (e16:Int)) fun ua uw hb ⟨e100,_⟩=>(zpc _ _ _ _ rfl e100 rfl (by omega) (by omega)),?_,?_,?_,?_,trivial⟩ ?_
     ·intro ua uw hb hd
      exact hop_lit (zc rfl) hb.size [99,101,108,108] (by decide) (by decide) _ rfl (by simp only [List.map_toArray,List.map_cons,List.map_nil];kernel_rfl)
     ·intro ua uw hb hd
      have l94:LitB w220.heap.size uw [99,101,108,108] (ua.eval (.tmp 94)):=hd 94 (by decide)
      have e94:=l94.isB
      exact hop_convK (zc rfl) _ rfl l94
     ·intro ua uw hb hd
      have e96:ua.eval (.tmp 96)=.int .i64 (kn:Int):=hd 96 (by decide)
      exact zmb (F:=(StK.bytes (zt (kn:Int))).F) (zc rfl) hb.size rfl #[.int .i64 (kn:Int)] (zz e96) (zE Tryz.func36 rfl) ((rei_r kn (by omega) uw))
     ·intro ua uw hb hd
      have e98:ua.eval (.tmp 98)=(s210 kn):=hd 98 (by decide)
      have e101:ua.eval (.tmp 101)=.int .i64 (e16:Int):=hd 101 (by decide)
      exact hop_slTo (zc rfl) (.tmp 98) (.tmp 101) rfl (by rw [e98];exact (hsj▸(M220.step hb).rowsS (i:=6) rfl hkl)) e101 rfl (by omega)
     ·intro ua uw hb hd
      have l95:LitB w220.heap.size uw [99,101,108,108] (ua.eval (.tmp 95)):=hd 95 (by decide)
      have e95:=l95.isB
      have e97:IsB uw (zt (kn:Int)) (ua.eval (.tmp 97)):=hd 97 (by decide)
      have e102:IsB uw (sj.take e16) (ua.eval (.tmp 102)):=hd 102 (by decide)
      exact hop_parts3 (zc rfl) hb.size (.tmp 95) (.tmp 97) (.tmp 102) rfl e95 e97 e102
     ·intro ua uw hb hd
      have e103:IsP uw [[99,101,108,108],(zt (kn:Int)),(sj.take e16)] (ua.eval (.tmp 103)):=hd 103 (by decide)
      exact zmb (F:=(StK.eq (.agg (zka Y))).F) (zc rfl) hb.size rfl #[(ua.eval (.tmp 103))] (zz rfl) (zE Tryz.func35 rfl) (zxc ((rof3_is hY e103 (by rw [List.length_take];omega) )))
     ·intro ua uw hb hd
      exact hop_new (zc rfl) hb.size hb.size (by decide) (by unfold execOp;kernel_rfl)
     intro p305 a305 w305 b305 G305 y305
     obtain ⟨-,-,-,-,-,-,-,-,-,-,q10,q11,-⟩:=y305
     obtain ⟨gn11x304,r11,hg11,hc11⟩:=q11 (by decide)
     replace r11:p305 11=.pointer (some ⟨gn11x304,0,none⟩):=r11
     have r10:p305 10=.agg (zka Y):=q10 (by decide)
     simp only [List.take,layV,Nat.zero_add,Nat.reduceAdd,r10,r11] at G305
     have M305:=M220.newb b305.below 7 hg11 hc11
     clear hg11 hc11 r11
     clear F302 M220 r10 q10
     refine zu (zc rfl) rfl G305 M305 (k:=7) rfl _ _ _ rfl (G305.get (t:=12) rfl) (G305.get (t:=104) rfl) (zka Y) _ rfl (zL rfl) (arr16_one _) (zaa rfl) (by kernel_rfl) ?_
     intro w306 M306
     refine hK303 _ _ (zSk fun _ hK307=>?_)
     have hD308:=(zx (M306.blk (k:=7) rfl) dnil)
     refine z6a G305 (SK [.inl (.agg (zka Y)),.inr (StK.bytes (sumY Y)),.inl (.string (⟨((sumY Y)).toArray⟩)),.inl ((s210 kn)),.inl ((s210 kn)),.inl (.int .i64 (sj.length:Int)),.inl (.int .i64 (e16:Int)),.inr (StK.bytes (sj.drop e16)),.inl (.string (⟨((sj.drop e16)).toArray⟩)),.inl (.bool false)]) 10 rfl (by kernel_rfl) ⟨hopP G305 hD308 0 (some gn11x304) (by kernel_rfl),?_,?_,hop0 G305 (by kernel_rfl),hop0 G305 (by kernel_rfl),hopR G305 [(109,(s210 kn))] fun ua uw hb ⟨e109,_⟩=>(zya _ rfl e109 (hsj▸(M306.step hb).rowsS (i:=6) rfl hkl) rfl),hopR G305 [(110,.int .i64 (sj.length:Int))] (v:=.int .i64 (e16:Int)) fun ua uw hb ⟨e110,_⟩=>(zpc _ _ _ _ rfl e110 rfl (by omega) (by omega)),?_,?_,hopR G305 [(107,.string (⟨((sumY Y)).toArray⟩)),(113,.string (⟨((sj.drop e16)).toArray⟩))] (v:=.bool false) fun ua uw hb ⟨e107,e113,_⟩=>(y_neS _ _ _ rfl e107 e113 (str_ne2 hxd.symm)),trivial⟩ ?_
     ·intro ua uw hb hd
      have e105:ua.eval (.tmp 105)=.agg (zka Y):=hd 105 (by decide)
      exact zmb (F:=(StK.bytes (sumY Y)).F) (zc rfl) hb.size rfl #[.agg (zka Y)] (zz e105) (zE Tryz.func37 rfl) ((rsb_r Y (hY▸outF_bd _) uw))
     ·intro ua uw hb hd
      have e106:IsB uw (sumY Y) (ua.eval (.tmp 106)):=hd 106 (by decide)
      exact zlb (F:=(StK.eq (.string (⟨((sumY Y)).toArray⟩))).F) (zc rfl) (.string (⟨((sumY Y)).toArray⟩)) (y_str _ rfl rfl e106) rfl
     ·intro ua uw hb hd
      have e108:ua.eval (.tmp 108)=(s210 kn):=hd 108 (by decide)
      have e111:ua.eval (.tmp 111)=.int .i64 (e16:Int):=hd 111 (by decide)
      exact hop_slFrom (zc rfl) (.tmp 108) (.tmp 111) rfl (by rw [e108];exact (hsj▸(M306.step hb).rowsS (i:=6) rfl hkl)) e111 rfl (by omega)
     ·intro ua uw hb hd
      have e112:IsB uw (sj.drop e16) (ua.eval (.tmp 112)):=hd 112 (by decide)
      exact zlb (F:=(StK.eq (.string (⟨((sj.drop e16)).toArray⟩))).F) (zc rfl) (.string (⟨((sj.drop e16)).toArray⟩)) (y_str _ rfl rfl e112) rfl
     intro p309 a309 w309 b309 G309 y309
     obtain ⟨-,-,-,-,-,-,-,-,-,q9,-⟩:=y309
     have r9:p309 9=.bool false:=q9 (by decide)
     simp only [List.take,layV,Nat.zero_add,Nat.reduceAdd,r9] at G309
     have M309:=M306.kc b309
     clear G305 M306 r9 q9
     refine hK307 _ _ (wp_cond_false (G309.get (t:=114) rfl) (wp_skip (hK260 _ _ (zR (rm rfl G309 fun _ F310=>zd (w':=w309) (zc rfl) rfl F310 rfl (.int .i64 ((kn+1:Nat):Int)) (zsa _ _ _ _ rfl (F310.get (t:=57) rfl) rfl (by omega) (by omega)) fun _ F311=>?_)))))
     refine rm rfl F311 fun _ F312=>?_
     subst ek220
     exact hK220 _ (kn+1) _ _ (by omega) ⟨rfl,(by omega)⟩ (F312.sb) (M309.sb)
   ·refine zSk fun _ hK313=>zT fun _ hK314=>rm rfl F220 fun _ F315=>zd (w':=w220) (zc rfl) rfl F315 rfl (.bool false) (zla _ _ _ _ rfl (F315.get (t:=55) rfl) rfl (decide_eq_false (show ¬(kn:Int)<18 by omega))) fun _ F316=>?_
    refine hK314 _ _ (wp_cond_false (F316.get (t:=56) rfl) (wp_exit ?_))
    simp only [Exit.then,Exit.inBlock,↓reduceIte,Nat.reduceEqDiff]
    refine hK217 _ _ (zT fun _ hK317=>rm rfl F316 fun _ F318=>rm rfl F318 fun _ F319=>zd (w':=w220) (zc rfl) rfl F319 rfl (.pointer (some ⟨gx34,0,none⟩)) (by unfold execOp;simp only [(F319.get (t:=116) rfl)];kernel_rfl) fun _ F320=>?_)
    refine zd (w':=w220) (zc rfl) rfl F320 rfl (.pointer (some ⟨gx34,0,none⟩)) (y_fa (off:=0) rfl (F320.get (t:=117) rfl) (by kernel_rfl) rfl) fun _ F321=>?_
    refine zd (w':=w220) (zc rfl) rfl F321 rfl (.slice (some ⟨gc34,0,none⟩) 18 18) (zca _ _ rfl (F321.get (t:=118) rfl) (M220.xOk (k:=4) rfl).has.hx rfl Tryz.underlying49 rfl) fun _ F322=>?_
    refine zh (zc rfl) rfl F322 rfl rfl (zE Tryz.func38 rfl) #[.slice (some ⟨gq210,0,none⟩) 18 18,.slice (some ⟨gc34,0,none⟩) 18 18] (zia (F322.get (t:=115) rfl) (F322.get (t:=119) rfl)) (zba ((xcells_any gq210 gc34 Vv.c s210 n210 sx nx w220 ⟨M220.roB (k:=5) rfl,fun i hi=>M220.rowsS (i:=6) rfl hi,fun i hi=>M220.rowsN (i:=6) rfl hi⟩ ⟨(M220.xOk (k:=4) rfl).has.hc,(M220.xOk (k:=4) rfl).has.hs,(M220.xOk (k:=4) rfl).has.hn⟩))) ?_
    rintro _ w323 a323 ⟨rfl,b323⟩ F323
    have M323:=M220.step b323
    refine rm rfl F323 fun _ F324=>hK317 _ _ (wp_ret ?_)
    try simp only [Exit.then,Exit.inBlock,Exit.jump]
    exact bodyPost_ret (res1 rfl (F324.get rfl)) F324.defers ⟨rfl,M323.below⟩
end Go.Proofs.YtmjbnmbobocpdaaGreat
