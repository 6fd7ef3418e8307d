/- What VaultPlays stands on, part 16. -/
import Derived.Test.YtmjbnmbobocpdaaGreatVaultPlaysP1
import Derived.Test.YtmjbnmbobocpdaaGreatVaultPlaysP2
import Derived.Test.YtmjbnmbobocpdaaGreatVaultPlaysP3
import Derived.Test.YtmjbnmbobocpdaaGreatVaultPlaysP4
import Derived.Test.YtmjbnmbobocpdaaGreatVaultPlaysP5
import Derived.Test.YtmjbnmbobocpdaaGreatVaultPlaysP6
import Derived.Test.YtmjbnmbobocpdaaGreatVaultPlaysP7
import Derived.Test.YtmjbnmbobocpdaaGreatVaultPlaysP8
import Derived.Test.YtmjbnmbobocpdaaGreatVaultPlaysP9
import Derived.Test.YtmjbnmbobocpdaaGreatVaultPlaysP10
import Derived.Test.YtmjbnmbobocpdaaGreatVaultPlaysP11
import Derived.Test.YtmjbnmbobocpdaaGreatVaultPlaysP12
import Derived.Test.YtmjbnmbobocpdaaGreatVaultPlaysP13
import Derived.Test.YtmjbnmbobocpdaaGreatVaultPlaysP14
import Derived.Test.YtmjbnmbobocpdaaGreatVaultPlaysP15
set_option maxRecDepth 100000
set_option maxHeartbeats 8000000
set_option linter.unusedVariables false
set_option linter.unusedSimpArgs false
namespace Go.Proofs.YtmjbnmbobocpdaaGreat
open Go.ChangeShapes Go.WideShapes Go.ChangeAt Go.RowKit
theorem VaultPlays_walk (A0:Option Addr) (n0 cap0:Nat) (x0:Nat→Int)
  (A1:Option Addr) (n1 cap1:Nat) (l1:List UInt8) (hn1:l1.length=n1) (hc1:n1≤cap1) (hm1:cap1≤maxLen) (hz1:A1=none→cap1=0)
  (A2:Option Addr) (n2 cap2:Nat) (x2:Nat→Int) (hc2:n2≤cap2)
  (a3:Int) (hk3:-9223372036854775808≤a3) (hl3:a3<9223372036854775808) (w:World) (hr0:RdI w A0 n0 x0) (hr1:Rd w A1 l1) (hr2:RdI w A2 n2 x2):
  Calls Tryz.prog 3 #[.slice A0 n0 cap0,.slice A1 n1 cap1,.slice A2 n2 cap2,zI a3] w fun e w'=>e=.returned (.bool true)∧Below w.heap.size w w':=by
 have ib1:IsB w l1 (.slice A1 n1 cap1):=hr1.isB' hn1 hc1 hm1 hz1
 by_cases b0:60<l1.length
 ·refine zk (args:=[.slice A0 n0 cap0,.slice A1 n1 cap1,.slice A2 n2 cap2,zI a3]) 74 Tryz.func3 rfl rfl rfl ?_
  intro fa F
  have M:=Mx.start w
  replace M:=M.argB 0 ib1 (fun g e=>by cases e)
  replace M:=M.argI 1 hr0 (fun g e=>by cases e)
  replace M:=M.argI 2 hr2 (fun g e=>by cases e)
  refine zT fun _ hK21=>rm rfl F fun _ F22=>hK21 _ _ (zSk fun _ hK23=>zT fun _ hK24=>zh rfl rfl F22 rfl rfl (zE Tryz.func13 rfl) #[] (args0) (zda (known6_any w)) ?_)
  rintro _ w25 a25 ⟨rfl,b25⟩ F25
  have M25:=M.step b25
  refine zc (w':=w25) rfl rfl F25 rfl (.bool false) (zjb _ _ rfl (F25 13 rfl)) fun _ F26=>?_
  refine hK24 _ _ (wp_cond_false (F26 14 rfl) (wp_skip (hK23 _ _ (zSk fun _ hK27=>zT fun _ hK28=>rm rfl F26 fun _ F29=>zc (w':=w25) rfl rfl F29 rfl (zI (l1.length:Int)) (zcb _ rfl (F29 15 rfl) (M25.isb (k:=0) rfl) rfl) fun _ F30=>?_))))
  refine zc (w':=w25) rfl rfl F30 rfl (.bool true) (z2b _ _ _ _ rfl (F30 16 rfl) rfl (decide_eq_true (show (60:Int)<(l1.length:Int) by omega))) fun _ F31=>?_
  refine zB 5 [(0,.slice A0 n0 cap0),(1,.slice A1 n1 cap1),(2,.slice A2 n2 cap2),(3,zI a3),(8,.bool false),(22,.bool true)] [] dnil [] F31 fun _ F32=>?_
  refine hK28 _ _ (wp_cond_true (F32 22 rfl) (zT fun _ hK33=>rm rfl F32 fun _ F34=>hK33 _ _ (wp_ret ?_)))
  try simp only [Exit.then,Exit.inBlock,Exit.jump]
  exact bodyPost_ret (res1 rfl (F34.get rfl)) F34.defers ⟨rfl,M25.below⟩
 ·by_cases b1:10<n2
  ·refine zk (args:=[.slice A0 n0 cap0,.slice A1 n1 cap1,.slice A2 n2 cap2,zI a3]) 74 Tryz.func3 rfl rfl rfl ?_
   intro fa F
   have M:=Mx.start w
   replace M:=M.argB 0 ib1 (fun g e=>by cases e)
   replace M:=M.argI 1 hr0 (fun g e=>by cases e)
   replace M:=M.argI 2 hr2 (fun g e=>by cases e)
   refine zT fun _ hK21=>rm rfl F fun _ F22=>hK21 _ _ (zSk fun _ hK23=>zT fun _ hK24=>zh rfl rfl F22 rfl rfl (zE Tryz.func13 rfl) #[] (args0) (zda (known6_any w)) ?_)
   rintro _ w25 a25 ⟨rfl,b25⟩ F25
   have M25:=M.step b25
   refine zc (w':=w25) rfl rfl F25 rfl (.bool false) (zjb _ _ rfl (F25 13 rfl)) fun _ F26=>?_
   refine hK24 _ _ (wp_cond_false (F26 14 rfl) (wp_skip (hK23 _ _ (zSk fun _ hK27=>zT fun _ hK28=>rm rfl F26 fun _ F29=>zc (w':=w25) rfl rfl F29 rfl (zI (l1.length:Int)) (zcb _ rfl (F29 15 rfl) (M25.isb (k:=0) rfl) rfl) fun _ F30=>?_))))
   refine zc (w':=w25) rfl rfl F30 rfl (.bool false) (z2b _ _ _ _ rfl (F30 16 rfl) rfl (decide_eq_false (show ¬(60:Int)<(l1.length:Int) by omega))) fun _ F31=>?_
   refine rm rfl F31 fun _ F32=>rm rfl F32 fun _ F33=>zc (w':=w25) (zd rfl rfl rfl (F33 18 rfl)) rfl F33 rfl (zI (n2:Int)) (y_lnG 22 Tryz.underlying22 _ rfl (F33 19 rfl) rfl) fun _ F34=>?_
   refine zc (w':=w25) (zd rfl rfl rfl (F34 18 rfl)) rfl F34 rfl (.bool true) (z2b _ _ _ _ rfl (F34 20 rfl) rfl (decide_eq_true (show (10:Int)<(n2:Int) by omega))) fun _ F35=>?_
   refine zc (w':=w25) rfl rfl F35 rfl (.bool true) (zub rfl (F35 18 rfl) (F35 21 rfl)) fun _ F36=>?_
   refine hK28 _ _ (wp_cond_true (F36 22 rfl) (zT fun _ hK37=>rm rfl F36 fun a38 F38=>hK37 _ _ (wp_ret ?_)))
   try simp only [Exit.then,Exit.inBlock,Exit.jump]
   exact bodyPost_ret (res1 rfl (F38.get rfl)) F38.defers ⟨rfl,M25.below⟩
  ·obtain ⟨hE1,hI1,hf1,hd1⟩:=new_is
   have hA1:=acc_new
   obtain ⟨V1,hV1⟩:∃ x,ageW zeroV=x:=⟨_,rfl⟩
   rw [hV1] at hE1 hI1 hf1 hd1 hA1
   obtain ⟨r,hr⟩:∃ r,recK (7:Int) l1 (((7:Int).tdiv 23)%10).toNat=r:=⟨_,rfl⟩
   obtain ⟨ro,rp⟩:=rec6_ok _ _ hr
   have hP1:=pl_new
   rw [hV1] at hP1
   refine zk (args:=[.slice A0 n0 cap0,.slice A1 n1 cap1,.slice A2 n2 cap2,zI a3]) 74 Tryz.func3 rfl rfl rfl ?_
   intro fa F
   have M:=Mx.start w
   replace M:=M.argB 0 ib1 (fun g e=>by cases e)
   replace M:=M.argI 1 hr0 (fun g e=>by cases e)
   replace M:=M.argI 2 hr2 (fun g e=>by cases e)
   refine zT fun _ hK21=>rm rfl F fun _ F22=>hK21 _ _ (zSk fun _ hK23=>zT fun _ hK24=>zh rfl rfl F22 rfl rfl (zE Tryz.func13 rfl) #[] (args0) (zda (known6_any w)) ?_)
   rintro _ w25 a25 ⟨rfl,b25⟩ F25
   have M25:=M.step b25
   refine zc (w':=w25) rfl rfl F25 rfl (.bool false) (zjb _ _ rfl (F25 13 rfl)) fun _ F26=>?_
   refine hK24 _ _ (wp_cond_false (F26 14 rfl) (wp_skip (hK23 _ _ (zSk fun _ hK27=>zT fun _ hK28=>rm rfl F26 fun _ F29=>zc (w':=w25) rfl rfl F29 rfl (zI (l1.length:Int)) (zcb _ rfl (F29 15 rfl) (M25.isb (k:=0) rfl) rfl) fun _ F30=>?_))))
   refine zc (w':=w25) rfl rfl F30 rfl (.bool false) (z2b _ _ _ _ rfl (F30 16 rfl) rfl (decide_eq_false (show ¬(60:Int)<(l1.length:Int) by omega))) fun _ F31=>?_
   refine rm rfl F31 fun _ F32=>rm rfl F32 fun _ F33=>zc (w':=w25) (zd rfl rfl rfl (F33 18 rfl)) rfl F33 rfl (zI (n2:Int)) (y_lnG 22 Tryz.underlying22 _ rfl (F33 19 rfl) rfl) fun _ F34=>?_
   refine zc (w':=w25) (zd rfl rfl rfl (F34 18 rfl)) rfl F34 rfl (.bool false) (z2b _ _ _ _ rfl (F34 20 rfl) rfl (decide_eq_false (show ¬(10:Int)<(n2:Int) by omega))) fun _ F35=>?_
   refine zc (w':=w25) rfl rfl F35 rfl (.bool false) (zub rfl (F35 18 rfl) (F35 21 rfl)) fun _ F36=>?_
   refine hK28 _ _ (wp_cond_false (F36 22 rfl) (wp_skip (hK27 _ _ (zT fun _ hK37=>zh rfl rfl F36 rfl rfl (zE Tryz.func14 rfl) #[] (args0) (vnew_is V1 hV1 w25) ?_))))
   rintro _ w38 a38 ⟨g38,rfl,hg38,s38,n38,hr38,ht38,hc38,b38⟩ F38
   have M38:=M25.newVault b38 3 4 hg38 hc38 hr38 ht38
   clear M25 b38 hg38 hc38 hr38 ht38
   refine zh rfl rfl F38 rfl rfl (zE Tryz.func15 rfl) #[] (args0) (xnew_is V1 hV1 w38) ?_
   rintro _ w39 a39 ⟨gx39,gc39,s39,n39,rfl,xo39,lx39,lc39,lr39,b39⟩ F39
   have M39:=M38.xnew 5 b39 xo39 lx39 lc39 lr39
   clear M38 b39 xo39 lx39 lc39 lr39
   refine rm rfl F39 fun _ F40=>rm rfl F40 fun _ F41=>hK37 _ _ (zSk fun _ hK42=>zT fun _ hK43=>rm rfl F41 fun _ F44=>zc (w':=w39) rfl rfl F44 rfl (.bool false) (y_eqPN 25 _ Tryz.underlying25 (by kernel_rfl) _ rfl (F44 25 rfl)) fun _ F45=>?_)
   refine hK43 _ _ (wp_cond_false (F45 26 rfl) (wp_skip (hK42 _ _ (zSk fun _ hK46=>zT fun _ hK47=>rm rfl F45 fun _ F48=>hK47 _ _ (wp_block ?_)))))
   refine zob (α:=Nat×Nat×VltN×(Nat→Value)×(Nat→Value)×(Nat→Value)×(Nat→Value)) (n:=74) (G:=none) (w0:=w) (fun x=>[(0,.slice A0 n0 cap0),(1,.slice A1 n1 cap1),(2,.slice A2 n2 cap2),(3,zI a3),(9,(zO g38)),(10,(zO gx39)),(11,zI (x.1:Int))]) (fun x=>[(0,bytR l1 (.slice A1 n1 cap1)),(1,intR A0 n0 x0),(2,intR A2 n2 x2),(3,blkR g38 80 (vltA x.2.2.1 x.2.2.2.1 x.2.2.2.2.1)),(4,zza 0 18 x.2.2.1.c x.2.2.2.1 x.2.2.2.2.1),(5,xR gx39 gc39 x.2.2.1 x.2.2.2.2.2.1 x.2.2.2.2.2.2)]) (fun k x=>k=(60-x.1)∧(x.1≤60∧x.2.1≤x.1+1∧PlOk (x.1+1) x.2.1 x.2.2.1)) _ ⟨0,1,V1,s38,n38,s39,n39⟩ ⟨rfl,⟨Nat.zero_le _,Nat.le_refl _,hP1⟩⟩ (F48.sb) (M39.sb) ?_
   rintro k49 ⟨jn,Ev,Vv,sv,nv,sx,nx⟩ a49 w49 K49 ⟨ek49,I49⟩ F49 M49 hK49
   replace F49:Fx 74 a49 [(0,.slice A0 n0 cap0),(1,.slice A1 n1 cap1),(2,.slice A2 n2 cap2),(3,zI a3),(9,(zO g38)),(10,(zO gx39)),(11,zI (jn:Int))]:=F49
   replace M49:Mx _ _ w49 [(0,bytR l1 (.slice A1 n1 cap1)),(1,intR A0 n0 x0),(2,intR A2 n2 x2),(3,blkR g38 80 (vltA Vv sv nv)),(4,zza 0 18 Vv.c sv nv),(5,xR gx39 gc39 Vv sx nx)]:=M49
   replace I49:jn≤60∧Ev≤jn+1∧PlOk (jn+1) Ev Vv:=I49
   replace ek49:k49=(60-jn):=ek49
   obtain ⟨hj,hEj,hP⟩:=I49
   refine zSk fun _ hK50=>zT fun _ hK51=>rm rfl F49 fun _ F52=>rm rfl F52 fun _ F53=>zc (w':=w49) rfl rfl F53 rfl (zI (n0:Int)) (y_lnG 22 Tryz.underlying22 _ rfl (F53 28 rfl) rfl) fun _ F54=>?_
   by_cases h55:(jn:Int)<(n0:Int)
   ·refine zc (w':=w49) rfl rfl F54 rfl (.bool true) (zna _ _ _ _ rfl (F54 27 rfl) (F54 29 rfl) (decide_eq_true h55)) fun _ F56=>?_
    refine rm rfl F56 fun _ F57=>rm rfl F57 fun _ F58=>?_
    by_cases h59:(jn:Int)<60
    ·have xb:=hr0.2.1 jn
     obtain ⟨nn,hnn,hnnl⟩:∃ k:Nat,(x0 jn)%1073741824=(k:Int)∧k<1073741824:=in6 _ (by decide)
     refine zc (w':=w49) (zd rfl rfl rfl (F58 31 rfl)) rfl F58 rfl (.bool true) (zna _ _ _ _ rfl (F58 32 rfl) rfl (decide_eq_true h59)) fun _ F60=>?_
     refine zc (w':=w49) rfl rfl F60 rfl (.bool true) (zkb rfl (F60 31 rfl) (F60 33 rfl)) fun _ F61=>?_
     refine hK51 _ _ (wp_cond_true (F61 34 rfl) (wp_skip (hK50 _ _ (zSk fun _ hK62=>wp_block (zT fun _ hK63=>rm rfl F61 fun _ F64=>rm rfl F64 fun _ F65=>rm rfl F65 fun _ F66=>rm rfl F66 fun _ F67=>zc (w':=w49) rfl rfl F67 rfl ((ixV (.slice A0 n0 cap0) jn)) (y_ixJ _ _ rfl (F67 39 rfl) (M49.rdI (k:=1) rfl) (F67 40 rfl) rfl (by omega)) fun _ F68=>?_)))))
     refine zc (w':=w49) rfl rfl F68 rfl (zI (x0 jn)) (y_ldJ _ rfl (F68 41 rfl) (M49.rdI (k:=1) rfl) (by omega)) fun _ F69=>?_
     refine zh rfl rfl F69 rfl rfl (zE Tryz.func17 rfl) #[zI (x0 jn),zI 1073741824] (zea (F69 42 rfl) rfl) (zda ((hnn▸within6_any (x0 jn) 1073741824 (by decide) (by decide) xb.1 xb.2 w49))) ?_
     rintro _ w70 a70 ⟨rfl,rfl⟩ F70
     refine rm rfl F70 fun _ F71=>rm rfl F71 fun _ F72=>?_
     refine zh rfl rfl F72 rfl rfl (zE Tryz.func16 rfl) #[(zO g38),(zO gx39),zI (nn:Int),.slice A1 n1 cap1,.slice A2 n2 cap2] (args5 (F72 37 rfl) (F72 38 rfl) (F72 43 rfl) (F72 44 rfl) (F72 45 rfl)) (lstep_all g38 gx39 gc39 Vv sv nv sx nx hP (by omega) (by omega) l1 (.slice A1 n1 cap1) (by omega) A2 n2 cap2 x2 hc2 (by omega) (nn:Int) ⟨by omega,by omega⟩ w49 (M49.rowsV (i:=4) (k:=3) rfl rfl (by decide)) (M49.blk (k:=3) rfl) (M49.xOk (k:=5) rfl) (fun h=>M49.dis 3 5 _ _ rfl rfl (by decide) rfl _ rfl h) (M49.isb (k:=0) rfl) (fun h=>M49.dis 3 0 _ _ rfl rfl (by decide) rfl _ rfl h) (M49.rdI (k:=2) rfl) ⟨fun h=>M49.dis 3 2 _ _ rfl rfl (by decide) rfl _ rfl h,fun b hb h=>M49.dis 5 2 _ _ rfl rfl (by decide) rfl b h hb⟩) ?_
     rintro _ w73 a73 ⟨rfl,V73,E73,le73,pl73,wm73,s73,n73,vt73,xt73⟩ F73
     obtain ⟨sx73,nx73,M73⟩:=(M49.vault (kg:=3) (kr:=4) rfl rfl vt73.grown vt73.blk vt73.rows vt73.fpt).xput (k:=5) rfl xt73
     clear M49 vt73 xt73
     refine zAx 4 [(47,.bool false),(48,.bool false),(49,(zO g38)),(50,(zO gx39))] [] dnil [] F73 fun _ F74=>?_
     refine zh (zd rfl rfl rfl (F74 48 rfl)) rfl F74 rfl rfl (zE Tryz.func18 rfl) #[(zO g38),(zO gx39)] (zea (F74 49 rfl) (F74 50 rfl)) (zda ((same_any6 names_ok g38 gx39 gc39 V73 s73 n73 sx73 nx73 pl73 (by omega) w73 (M73.hasV (kg:=3) (kr:=4) rfl rfl (by decide)) (M73.xOk (k:=5) rfl).has))) ?_
     rintro _ w75 a75 ⟨rfl,b75⟩ F75
     have M75:=M73.step b75
     refine zAx 2 [(52,.bool false),(53,.bool false)] [] dnil [] F75 fun _ F76=>?_
     refine hK63 _ _ (wp_cond_false (F76 53 rfl) (wp_skip (hK62 _ _ (zR (rm rfl F76 fun _ F77=>zc (w':=w75) rfl rfl F77 rfl (zI ((jn+1:Nat):Int)) (zsa _ _ _ _ rfl (F77 35 rfl) rfl (by omega) (by omega)) fun _ F78=>?_)))))
     refine rm rfl F78 fun _ F79=>?_
     subst ek49
     exact hK49 _ ⟨(jn+1),E73,V73,s73,n73,sx73,nx73⟩ _ _ (by omega) ⟨rfl,⟨by omega,by (dsimp only;omega),pl73⟩⟩ (F79.sb) (M75.sb)
    ·refine zc (w':=w49) (zd rfl rfl rfl (F58 31 rfl)) rfl F58 rfl (.bool false) (zna _ _ _ _ rfl (F58 32 rfl) rfl (decide_eq_false h59)) fun _ F80=>?_
     refine zc (w':=w49) rfl rfl F80 rfl (.bool false) (zkb rfl (F80 31 rfl) (F80 33 rfl)) fun _ F81=>?_
     refine hK51 _ _ (wp_cond_false (F81 34 rfl) (wp_exit ?_))
     simp only [Exit.then,Exit.inBlock,↓reduceIte,Nat.reduceEqDiff]
     refine hK46 _ _ (zT fun _ hK82=>rm rfl F81 fun _ F83=>rm rfl F83 fun _ F84=>?_)
     have hP31:PlOk 61 Ev Vv:=hP.mono (by omega)
     obtain ⟨Vf,hVf⟩:∃ x,failV Vv a3=x:=⟨_,rfl⟩
     have hPf:=pl_fail hP31 (z:=a3) (by omega)
     rw [hVf] at hPf
     obtain ⟨V2,hV2⟩:∃ x,(putV Vf r).1=x:=⟨_,rfl⟩
     obtain ⟨z2,hz2⟩:∃ x,(putV Vf r).2=x:=⟨_,rfl⟩
     have hP2:=pl_step hPf (by decide) (.inl ⟨r,ro,hV2.symm⟩)
     refine zh rfl rfl F84 rfl rfl (zE Tryz.func19 rfl) #[(zO g38),zI a3] (zea (F84 54 rfl) (F84 55 rfl)) (fail_is g38 Vv sv nv a3 Vf hVf w49  (M49.rowsV (i:=4) (k:=3) rfl rfl (by decide)) (M49.blk (k:=3) rfl)) ?_
     rintro _ w85 a85 ⟨s85,n85,hr85,ht85,hc85,hg85⟩ F85
     have M85:=M49.vault (kg:=3) (kr:=4) rfl rfl hg85 hc85 hr85 ht85
     clear M49 hg85 hc85 hr85 ht85
     refine hK82 _ _ (zT fun _ hK86=>rm rfl F85 fun _ F87=>rm rfl F87 fun _ F88=>zh rfl rfl F88 rfl rfl (zE Tryz.func20 rfl) #[(zO gx39),zI a3] (zea (F88 57 rfl) (F88 58 rfl)) (xfail_any gx39 gc39 Vv sx nx a3 Vf hVf w85 (M85.xOk (k:=5) rfl)) ?_)
     rintro _ w89 a89 hw89 F89
     obtain ⟨sx89,nx89,M89⟩:=M85.xput (k:=5) rfl hw89
     clear M85 hw89
     refine hK86 _ _ (zT fun _ hK90=>rm rfl F89 fun _ F91=>zh rfl rfl F91 rfl rfl (zE Tryz.func21 rfl) #[zI 7,.slice A1 n1 cap1] (zea rfl (F91 60 rfl)) (rec6_is 7 l1 (.slice A1 n1 cap1) ⟨by omega,by omega⟩ (by omega) r hr w89 (M89.isb (k:=0) rfl)) ?_)
     rintro _ w92 a92 ⟨U92,rfl,is92,lo92,b92⟩ F92
     have M92:=M89.newRec b92 is92 lo92 6 7
     clear M89 b92 lo92
     refine zq rfl rfl F92 rfl M92 8 (t:=37) (c:=recA ⟨0, "".toUTF8,[],0,0,[],0,0,0⟩ ⟨zN,zN⟩) (by unfold execOp;kernel_rfl) ?_
     intro g93 a93 w93 F93 M93
     refine zt rfl rfl F93 M93 (k:=8) rfl _ _ _ rfl (F93 12 rfl) (F93 61 rfl) (recA r U92) _ rfl (zL rfl) (z3a (w:=w93) ⟨(M93.isb (k:=6) rfl),(M93.isb (k:=7) rfl)⟩) (zfa rfl) (by kernel_rfl) ?_
     intro w94 M94
     refine hK90 _ _ (zSk fun _ hK95=>?_)
     have M96:=M94.pure_ 90 (p:=∀ b,zo 18 s85 n85 b→zo 18 s85 n85 b∨0≤b) (fun b h=>.inl h)
     refine zpa F93 [fun vE=>vE=(zO g38),fun vE=>vE=.agg (recA r U92),fun vE=>vE=zI z2,fun vE=>vE=(zO gx39),fun vE=>vE=.agg (recA r U92),fun vE=>vE=zI z2,fun vE=>vE=.bool true,fun vE=>vE=.bool true,fun vE=>vE=(zO g38),fun vE=>vE=(zO gx39),fun vE=>vE=.bool true,fun vE=>vE=.bool true] (JQ none w (fun SV=>(SV 6=true→SV 2=true∧SV 5=true)∧(SV 7=true→SV 2=true∧SV 5=true)) (fun (xJ:((Nat→Value)×(Nat→Value))×((Nat→Value)×(Nat→Value))) SV pV=>[(0,bytR l1 (.slice A1 n1 cap1)),(1,intR A0 n0 x0),(2,intR A2 n2 x2),(3,zaa (SV 2) (blkR g38 80 (vltA V2 xJ.1.1 xJ.1.2)) (blkR g38 80 (vltA Vf s85 n85))),(4,zaa (SV 2) (zza 0 18 V2.c xJ.1.1 xJ.1.2) (zza 0 18 Vf.c s85 n85)),(5,zaa (SV 5) (xR gx39 gc39 V2 xJ.2.1 xJ.2.2) (xR gx39 gc39 Vf sx89 nx89)),(6,bytR r.l2 U92.v2),(7,bytR r.l5 U92.v5),(8,blkR g93 37 (recA r U92)),(90,zaa (SV 2) (pureR (∀ b,zo 18 xJ.1.1 xJ.1.2 b→zo 18 s85 n85 b∨0≤b)) (pureR (∀ b,zo 18 s85 n85 b→zo 18 s85 n85 b∨0≤b)))])) 12 rfl (by kernel_rfl) rfl ⟨trivial,trivial,trivial,trivial,trivial,trivial,trivial,trivial,trivial,trivial,trivial,trivial,trivial⟩ (fun p=>JQ.mk ⟨fun h=>absurd h (by decide),fun h=>absurd h (by decide)⟩ ((s85,n85),(sx89,nx89)) ((M96.step (zma _)).sub ⟨rfl,rfl,rfl,rfl,rfl,rfl,rfl,rfl,rfl,rfl,trivial⟩)) ⟨?_,?_,?_,?_,?_,?_,?_,?_,?_,?_,?_,?_,trivial⟩ ?_
     ·intro ua uw SV pV M0 hk hn hd
      obtain ⟨HP,xJ,M⟩:=M0
      replace M:Mx none w uw _:=M
      have e9:ua.eval (.tmp 9)=(zO g38):=(show ua.eval (.tmp 9)=_ from hd 9 (by decide)).trans (F93 9 rfl)
      exact ze rfl (zO g38) (zga _ (.inl rfl) e9) rfl ((JQ.mk HP xJ (M.sb)))
     ·intro ua uw SV pV M0 hk hn hd
      obtain ⟨HP,xJ,M⟩:=M0
      replace M:Mx none w uw _:=M
      have e12:ua.eval (.tmp 12)=(zO g93):=(show ua.eval (.tmp 12)=_ from hd 12 (by decide)).trans (F93 12 rfl)
      exact ze rfl _ (zdb _ _ rfl e12 (M.blk (k:=8) rfl) (recA r U92) (zib rfl) Tryz.underlying37 rfl (by kernel_rfl)) rfl ((JQ.mk HP xJ (M.sb)))
     ·intro ua uw SV pV M0 hk hn hd
      obtain ⟨HP,xJ,M⟩:=M0
      replace M:Mx none w uw _:=M
      have e62:ua.eval (.tmp 62)=(zO g38):=zQ1 (hd 62 (by decide))
      have e63:ua.eval (.tmp 63)=.agg (recA r U92):=zQ1 (hd 63 (by decide))
      exact zxa rfl rfl #[(zO g38),.agg (recA r U92)] (zea e62 e63) (zE Tryz.func22 rfl) ((Mx.vmut M 3 4 90 (zu hk rfl) (zu hk rfl) (zu hk rfl) (Nat.zero_le _) (put_is g38 Vf s85 n85 r ⟨U92.v2,U92.v5⟩ ro hPf.inv (by decide) V2 z2 hV2 hz2 uw ⟨M.isb (k:=6) rfl,M.isb (k:=7) rfl⟩ ⟨(fun h=>M.dis 3 6 _ _ (zu hk rfl) rfl (by decide) rfl _ rfl h),(fun h=>M.dis 3 7 _ _ (zu hk rfl) rfl (by decide) rfl _ rfl h)⟩ (M.rowsV (i:=4) (k:=3) (zu hk rfl) (zu hk rfl) (by decide)) (M.blk (k:=3) (zu hk rfl)))).mono fun e w2 h=>(by obtain ⟨t,h1,u2_,N,h2⟩:=h;exact ⟨t,h1,h2,(JQ.mk ⟨fun h=>⟨rfl,(HP.1 h).2⟩,fun h=>⟨rfl,(HP.2 h).2⟩⟩ (u2_,xJ.2) (N.sb))⟩))
     ·intro ua uw SV pV M0 hk hn hd
      obtain ⟨HP,xJ,M⟩:=M0
      replace M:Mx none w uw _:=M
      have e10:ua.eval (.tmp 10)=(zO gx39):=(show ua.eval (.tmp 10)=_ from hd 10 (by decide)).trans (F93 10 rfl)
      exact ze rfl (zO gx39) (zga _ (.inl rfl) e10) rfl ((JQ.mk HP xJ (M.sb)))
     ·intro ua uw SV pV M0 hk hn hd
      obtain ⟨HP,xJ,M⟩:=M0
      replace M:Mx none w uw _:=M
      have e12:ua.eval (.tmp 12)=(zO g93):=(show ua.eval (.tmp 12)=_ from hd 12 (by decide)).trans (F93 12 rfl)
      exact ze rfl _ (zdb _ _ rfl e12 (M.blk (k:=8) rfl) (recA r U92) (zib rfl) Tryz.underlying37 rfl (by kernel_rfl)) rfl ((JQ.mk HP xJ (M.sb)))
     ·intro ua uw SV pV M0 hk hn hd
      obtain ⟨HP,xJ,M⟩:=M0
      replace M:Mx none w uw _:=M
      have e65:ua.eval (.tmp 65)=(zO gx39):=zQ1 (hd 65 (by decide))
      have e66:ua.eval (.tmp 66)=.agg (recA r U92):=zQ1 (hd 66 (by decide))
      exact zxa rfl rfl #[(zO gx39),.agg (recA r U92)] (zea e65 e66) (zE Tryz.func23 rfl) ((Mx.xmut M 5 (zu hk rfl) (hz2▸hV2▸xput_any gx39 gc39 Vf sx89 nx89 hPf.inv (by decide) hPf.left r ⟨U92.v2,U92.v5⟩ ro uw (M.xOk (k:=5) (zu hk rfl)) ⟨M.isb (k:=6) rfl,M.isb (k:=7) rfl⟩)).mono fun e w2 h=>(by obtain ⟨t,h1,u2_,N,h2⟩:=h;exact ⟨t,h1,h2,(JQ.mk ⟨fun h=>⟨(HP.1 h).1,rfl⟩,fun h=>⟨(HP.2 h).1,rfl⟩⟩ (xJ.1,u2_) (N.sb))⟩))
     ·intro ua uw SV pV M0 hk hn hd
      obtain ⟨HP,xJ,M⟩:=M0
      replace M:Mx none w uw _:=M
      obtain ⟨s2,e64⟩:_∧ua.eval (.tmp 64)=zI z2:=zQ2 (hd 64 (by decide))
      obtain ⟨s5,e67⟩:_∧ua.eval (.tmp 67)=zI z2:=zQ2 (hd 67 (by decide))
      exact ze rfl (.bool true) (zva _ _ _ _ rfl e64 e67 Tryz.underlying3 (zlb rfl)) rfl ((JQ.mk ⟨fun _=>⟨s2,s5⟩,HP.2⟩ xJ (M.sb)))
     ·intro ua uw SV pV M0 hk hn hd
      obtain ⟨HP,xJ,M⟩:=M0
      replace M:Mx none w uw _:=M
      obtain ⟨s6,e68⟩:_∧ua.eval (.tmp 68)=.bool true:=zQ2 (hd 68 (by decide))
      exact ze rfl (.bool true) (zga _ (.inl rfl) e68) rfl ((JQ.mk ⟨HP.1,fun _=>HP.1 s6⟩ xJ (M.sb)))
     ·intro ua uw SV pV M0 hk hn hd
      obtain ⟨HP,xJ,M⟩:=M0
      replace M:Mx none w uw _:=M
      have e69:ua.eval (.tmp 69)=.bool true:=zQ1 (hd 69 (by decide))
      have e9:ua.eval (.tmp 9)=(zO g38):=(show ua.eval (.tmp 9)=_ from hd 9 (by decide)).trans (F93 9 rfl)
      exact ze (zd rfl rfl rfl e69) (zO g38) (zga _ (.inl rfl) e9) rfl ((JQ.mk HP xJ (M.sb)))
     ·intro ua uw SV pV M0 hk hn hd
      obtain ⟨HP,xJ,M⟩:=M0
      replace M:Mx none w uw _:=M
      have e69:ua.eval (.tmp 69)=.bool true:=zQ1 (hd 69 (by decide))
      have e10:ua.eval (.tmp 10)=(zO gx39):=(show ua.eval (.tmp 10)=_ from hd 10 (by decide)).trans (F93 10 rfl)
      exact ze (zd rfl rfl rfl e69) (zO gx39) (zga _ (.inl rfl) e10) rfl ((JQ.mk HP xJ (M.sb)))
     ·intro ua uw SV pV M0 hk hn hd
      obtain ⟨HP,xJ,M⟩:=M0
      replace M:Mx none w uw _:=M
      obtain ⟨s7,e69⟩:_∧ua.eval (.tmp 69)=.bool true:=zQ2 (hd 69 (by decide))
      have e70:ua.eval (.tmp 70)=(zO g38):=zQ1 (hd 70 (by decide))
      have e71:ua.eval (.tmp 71)=(zO gx39):=zQ1 (hd 71 (by decide))
      obtain ⟨hs2,hs5⟩:=HP.2 s7
      exact zxa (zd rfl rfl rfl e69) rfl #[(zO g38),(zO gx39)] (zea e70 e71) (zE Tryz.func18 rfl) ((same_any6 names_ok g38 gx39 gc39 V2 xJ.1.1 xJ.1.2 xJ.2.1 xJ.2.2 hP2 (by omega) uw (M.hasV (kg:=3) (kr:=4) (zvb hs2 rfl) (zvb hs2 rfl) (by decide)) (M.xOk (k:=5) (zvb hs5 rfl)).has).mono fun e w2 h=>⟨_,h.1,rfl,(JQ.mk HP xJ ((M.step h.2).sub ⟨rfl,rfl,rfl,rfl,rfl,rfl,rfl,rfl,rfl,rfl,trivial⟩))⟩)
     ·intro ua uw SV pV M0 hk hn hd
      obtain ⟨HP,xJ,M⟩:=M0
      replace M:Mx none w uw _:=M
      have e69:ua.eval (.tmp 69)=.bool true:=zQ1 (hd 69 (by decide))
      have e72:ua.eval (.tmp 72)=.bool true:=zQ1 (hd 72 (by decide))
      exact ze rfl (.bool true) (zkb rfl e69 e72) rfl ((JQ.mk HP xJ (M.sb)))
     intro p97 a97 w97 M97 G97 y97
     obtain ⟨-,-,-,-,-,-,-,-,-,-,-,q11,-⟩:=y97
     have r11:p97 11=.bool true:=q11
     obtain ⟨-,xJ97,M97⟩:=M97
     replace M97:Mx _ _ w97 [(0,bytR l1 (.slice A1 n1 cap1)),(1,intR A0 n0 x0),(2,intR A2 n2 x2),(3,zaa true (blkR g38 80 (vltA V2 xJ97.1.1 xJ97.1.2)) (blkR g38 80 (vltA Vf s85 n85))),(4,zaa true (zza 0 18 V2.c xJ97.1.1 xJ97.1.2) (zza 0 18 Vf.c s85 n85)),(5,zaa true (xR gx39 gc39 V2 xJ97.2.1 xJ97.2.2) (xR gx39 gc39 Vf sx89 nx89)),(6,bytR r.l2 U92.v2),(7,bytR r.l5 U92.v5),(8,blkR g93 37 (recA r U92)),(90,zaa true (pureR (∀ b,zo 18 xJ97.1.1 xJ97.1.2 b→zo 18 s85 n85 b∨0≤b)) (pureR (∀ b,zo 18 s85 n85 b→zo 18 s85 n85 b∨0≤b)))]:=M97
     simp only [List.take,layV,Nat.zero_add,Nat.reduceAdd,r11] at G97
     refine rm rfl G97 fun _ F98=>hK95 _ _ (wp_ret ?_)
     try simp only [Exit.then,Exit.inBlock,Exit.jump]
     exact bodyPost_ret (res1 rfl (F98.get rfl)) F98.defers ⟨rfl,M97.below⟩
   ·refine zc (w':=w49) rfl rfl F54 rfl (.bool false) (zna _ _ _ _ rfl (F54 27 rfl) (F54 29 rfl) (decide_eq_false h55)) fun _ F99=>?_
    refine zAx 4 [(31,.bool false),(32,undef),(33,undef),(34,.bool false)] [] dnil [] F99 fun _ F100=>?_
    refine hK51 _ _ (wp_cond_false (F100 34 rfl) (wp_exit ?_))
    simp only [Exit.then,Exit.inBlock,↓reduceIte,Nat.reduceEqDiff]
    refine hK46 _ _ (zT fun _ hK101=>rm rfl F100 fun _ F102=>rm rfl F102 fun _ F103=>?_)
    have hP31:PlOk 61 Ev Vv:=hP.mono (by omega)
    obtain ⟨Vf,hVf⟩:∃ x,failV Vv a3=x:=⟨_,rfl⟩
    have hPf:=pl_fail hP31 (z:=a3) (by omega)
    rw [hVf] at hPf
    obtain ⟨V2,hV2⟩:∃ x,(putV Vf r).1=x:=⟨_,rfl⟩
    obtain ⟨z2,hz2⟩:∃ x,(putV Vf r).2=x:=⟨_,rfl⟩
    have hP2:=pl_step hPf (by decide) (.inl ⟨r,ro,hV2.symm⟩)
    refine zh rfl rfl F103 rfl rfl (zE Tryz.func19 rfl) #[(zO g38),zI a3] (zea (F103 54 rfl) (F103 55 rfl)) (fail_is g38 Vv sv nv a3 Vf hVf w49  (M49.rowsV (i:=4) (k:=3) rfl rfl (by decide)) (M49.blk (k:=3) rfl)) ?_
    rintro _ w104 a104 ⟨s104,n104,hr104,ht104,hc104,hg104⟩ F104
    have M104:=M49.vault (kg:=3) (kr:=4) rfl rfl hg104 hc104 hr104 ht104
    clear M49 hg104 hc104 hr104 ht104
    refine hK101 _ _ (zT fun _ hK105=>rm rfl F104 fun _ F106=>rm rfl F106 fun _ F107=>zh rfl rfl F107 rfl rfl (zE Tryz.func20 rfl) #[(zO gx39),zI a3] (zea (F107 57 rfl) (F107 58 rfl)) (xfail_any gx39 gc39 Vv sx nx a3 Vf hVf w104 (M104.xOk (k:=5) rfl)) ?_)
    rintro _ w108 a108 hw108 F108
    obtain ⟨sx108,nx108,M108⟩:=M104.xput (k:=5) rfl hw108
    clear M104 hw108
    refine hK105 _ _ (zT fun _ hK109=>rm rfl F108 fun _ F110=>zh rfl rfl F110 rfl rfl (zE Tryz.func21 rfl) #[zI 7,.slice A1 n1 cap1] (zea rfl (F110 60 rfl)) (rec6_is 7 l1 (.slice A1 n1 cap1) ⟨by omega,by omega⟩ (by omega) r hr w108 (M108.isb (k:=0) rfl)) ?_)
    rintro _ w111 a111 ⟨U111,rfl,is111,lo111,b111⟩ F111
    have M111:=M108.newRec b111 is111 lo111 6 7
    clear M108 b111 lo111
    refine zq rfl rfl F111 rfl M111 8 (t:=37) (c:=recA ⟨0, "".toUTF8,[],0,0,[],0,0,0⟩ ⟨zN,zN⟩) (by unfold execOp;kernel_rfl) ?_
    intro g112 a112 w112 F112 M112
    refine zt rfl rfl F112 M112 (k:=8) rfl _ _ _ rfl (F112 12 rfl) (F112 61 rfl) (recA r U111) _ rfl (zL rfl) (z3a (w:=w112) ⟨(M112.isb (k:=6) rfl),(M112.isb (k:=7) rfl)⟩) (zfa rfl) (by kernel_rfl) ?_
    intro w113 M113
    refine hK109 _ _ (zSk fun _ hK114=>?_)
    have M115:=M113.pure_ 90 (p:=∀ b,zo 18 s104 n104 b→zo 18 s104 n104 b∨0≤b) (fun b h=>.inl h)
    refine zpa F112 [fun vE=>vE=(zO g38),fun vE=>vE=.agg (recA r U111),fun vE=>vE=zI z2,fun vE=>vE=(zO gx39),fun vE=>vE=.agg (recA r U111),fun vE=>vE=zI z2,fun vE=>vE=.bool true,fun vE=>vE=.bool true,fun vE=>vE=(zO g38),fun vE=>vE=(zO gx39),fun vE=>vE=.bool true,fun vE=>vE=.bool true] (JQ none w (fun SV=>(SV 6=true→SV 2=true∧SV 5=true)∧(SV 7=true→SV 2=true∧SV 5=true)) (fun (xJ:((Nat→Value)×(Nat→Value))×((Nat→Value)×(Nat→Value))) SV pV=>[(0,bytR l1 (.slice A1 n1 cap1)),(1,intR A0 n0 x0),(2,intR A2 n2 x2),(3,zaa (SV 2) (blkR g38 80 (vltA V2 xJ.1.1 xJ.1.2)) (blkR g38 80 (vltA Vf s104 n104))),(4,zaa (SV 2) (zza 0 18 V2.c xJ.1.1 xJ.1.2) (zza 0 18 Vf.c s104 n104)),(5,zaa (SV 5) (xR gx39 gc39 V2 xJ.2.1 xJ.2.2) (xR gx39 gc39 Vf sx108 nx108)),(6,bytR r.l2 U111.v2),(7,bytR r.l5 U111.v5),(8,blkR g112 37 (recA r U111)),(90,zaa (SV 2) (pureR (∀ b,zo 18 xJ.1.1 xJ.1.2 b→zo 18 s104 n104 b∨0≤b)) (pureR (∀ b,zo 18 s104 n104 b→zo 18 s104 n104 b∨0≤b)))])) 12 rfl (by kernel_rfl) rfl ⟨trivial,trivial,trivial,trivial,trivial,trivial,trivial,trivial,trivial,trivial,trivial,trivial,trivial⟩ (fun p=>JQ.mk ⟨fun h=>absurd h (by decide),fun h=>absurd h (by decide)⟩ ((s104,n104),(sx108,nx108)) ((M115.step (zma _)).sub ⟨rfl,rfl,rfl,rfl,rfl,rfl,rfl,rfl,rfl,rfl,trivial⟩)) ⟨?_,?_,?_,?_,?_,?_,?_,?_,?_,?_,?_,?_,trivial⟩ ?_
    ·intro ua uw SV pV M0 hk hn hd
     obtain ⟨HP,xJ,M⟩:=M0
     replace M:Mx none w uw _:=M
     have e9:ua.eval (.tmp 9)=(zO g38):=(show ua.eval (.tmp 9)=_ from hd 9 (by decide)).trans (F112 9 rfl)
     exact ze rfl (zO g38) (zga _ (.inl rfl) e9) rfl ((JQ.mk HP xJ (M.sb)))
    ·intro ua uw SV pV M0 hk hn hd
     obtain ⟨HP,xJ,M⟩:=M0
     replace M:Mx none w uw _:=M
     have e12:ua.eval (.tmp 12)=(zO g112):=(show ua.eval (.tmp 12)=_ from hd 12 (by decide)).trans (F112 12 rfl)
     exact ze rfl _ (zdb _ _ rfl e12 (M.blk (k:=8) rfl) (recA r U111) (zib rfl) Tryz.underlying37 rfl (by kernel_rfl)) rfl ((JQ.mk HP xJ (M.sb)))
    ·intro ua uw SV pV M0 hk hn hd
     obtain ⟨HP,xJ,M⟩:=M0
     replace M:Mx none w uw _:=M
     have e62:ua.eval (.tmp 62)=(zO g38):=zQ1 (hd 62 (by decide))
     have e63:ua.eval (.tmp 63)=.agg (recA r U111):=zQ1 (hd 63 (by decide))
     exact zxa rfl rfl #[(zO g38),.agg (recA r U111)] (zea e62 e63) (zE Tryz.func22 rfl) ((Mx.vmut M 3 4 90 (zu hk rfl) (zu hk rfl) (zu hk rfl) (Nat.zero_le _) (put_is g38 Vf s104 n104 r ⟨U111.v2,U111.v5⟩ ro hPf.inv (by decide) V2 z2 hV2 hz2 uw ⟨M.isb (k:=6) rfl,M.isb (k:=7) rfl⟩ ⟨(fun h=>M.dis 3 6 _ _ (zu hk rfl) rfl (by decide) rfl _ rfl h),(fun h=>M.dis 3 7 _ _ (zu hk rfl) rfl (by decide) rfl _ rfl h)⟩ (M.rowsV (i:=4) (k:=3) (zu hk rfl) (zu hk rfl) (by decide)) (M.blk (k:=3) (zu hk rfl)))).mono fun e w2 h=>(by obtain ⟨t,h1,u2_,N,h2⟩:=h;exact ⟨t,h1,h2,(JQ.mk ⟨fun h=>⟨rfl,(HP.1 h).2⟩,fun h=>⟨rfl,(HP.2 h).2⟩⟩ (u2_,xJ.2) (N.sb))⟩))
    ·intro ua uw SV pV M0 hk hn hd
     obtain ⟨HP,xJ,M⟩:=M0
     replace M:Mx none w uw _:=M
     have e10:ua.eval (.tmp 10)=(zO gx39):=(show ua.eval (.tmp 10)=_ from hd 10 (by decide)).trans (F112 10 rfl)
     exact ze rfl (zO gx39) (zga _ (.inl rfl) e10) rfl ((JQ.mk HP xJ (M.sb)))
    ·intro ua uw SV pV M0 hk hn hd
     obtain ⟨HP,xJ,M⟩:=M0
     replace M:Mx none w uw _:=M
     have e12:ua.eval (.tmp 12)=(zO g112):=(show ua.eval (.tmp 12)=_ from hd 12 (by decide)).trans (F112 12 rfl)
     exact ze rfl _ (zdb _ _ rfl e12 (M.blk (k:=8) rfl) (recA r U111) (zib rfl) Tryz.underlying37 rfl (by kernel_rfl)) rfl ((JQ.mk HP xJ (M.sb)))
    ·intro ua uw SV pV M0 hk hn hd
     obtain ⟨HP,xJ,M⟩:=M0
     replace M:Mx none w uw _:=M
     have e65:ua.eval (.tmp 65)=(zO gx39):=zQ1 (hd 65 (by decide))
     have e66:ua.eval (.tmp 66)=.agg (recA r U111):=zQ1 (hd 66 (by decide))
     exact zxa rfl rfl #[(zO gx39),.agg (recA r U111)] (zea e65 e66) (zE Tryz.func23 rfl) ((Mx.xmut M 5 (zu hk rfl) (hz2▸hV2▸xput_any gx39 gc39 Vf sx108 nx108 hPf.inv (by decide) hPf.left r ⟨U111.v2,U111.v5⟩ ro uw (M.xOk (k:=5) (zu hk rfl)) ⟨M.isb (k:=6) rfl,M.isb (k:=7) rfl⟩)).mono fun e w2 h=>(by obtain ⟨t,h1,u2_,N,h2⟩:=h;exact ⟨t,h1,h2,(JQ.mk ⟨fun h=>⟨(HP.1 h).1,rfl⟩,fun h=>⟨(HP.2 h).1,rfl⟩⟩ (xJ.1,u2_) (N.sb))⟩))
    ·intro ua uw SV pV M0 hk hn hd
     obtain ⟨HP,xJ,M⟩:=M0
     replace M:Mx none w uw _:=M
     obtain ⟨s2,e64⟩:_∧ua.eval (.tmp 64)=zI z2:=zQ2 (hd 64 (by decide))
     obtain ⟨s5,e67⟩:_∧ua.eval (.tmp 67)=zI z2:=zQ2 (hd 67 (by decide))
     exact ze rfl (.bool true) (zva _ _ _ _ rfl e64 e67 Tryz.underlying3 (zlb rfl)) rfl ((JQ.mk ⟨fun _=>⟨s2,s5⟩,HP.2⟩ xJ (M.sb)))
    ·intro ua uw SV pV M0 hk hn hd
     obtain ⟨HP,xJ,M⟩:=M0
     replace M:Mx none w uw _:=M
     obtain ⟨s6,e68⟩:_∧ua.eval (.tmp 68)=.bool true:=zQ2 (hd 68 (by decide))
     exact ze rfl (.bool true) (zga _ (.inl rfl) e68) rfl ((JQ.mk ⟨HP.1,fun _=>HP.1 s6⟩ xJ (M.sb)))
    ·intro ua uw SV pV M0 hk hn hd
     obtain ⟨HP,xJ,M⟩:=M0
     replace M:Mx none w uw _:=M
     have e69:ua.eval (.tmp 69)=.bool true:=zQ1 (hd 69 (by decide))
     have e9:ua.eval (.tmp 9)=(zO g38):=(show ua.eval (.tmp 9)=_ from hd 9 (by decide)).trans (F112 9 rfl)
     exact ze (zd rfl rfl rfl e69) (zO g38) (zga _ (.inl rfl) e9) rfl ((JQ.mk HP xJ (M.sb)))
    ·intro ua uw SV pV M0 hk hn hd
     obtain ⟨HP,xJ,M⟩:=M0
     replace M:Mx none w uw _:=M
     have e69:ua.eval (.tmp 69)=.bool true:=zQ1 (hd 69 (by decide))
     have e10:ua.eval (.tmp 10)=(zO gx39):=(show ua.eval (.tmp 10)=_ from hd 10 (by decide)).trans (F112 10 rfl)
     exact ze (zd rfl rfl rfl e69) (zO gx39) (zga _ (.inl rfl) e10) rfl ((JQ.mk HP xJ (M.sb)))
    ·intro ua uw SV pV M0 hk hn hd
     obtain ⟨HP,xJ,M⟩:=M0
     replace M:Mx none w uw _:=M
     obtain ⟨s7,e69⟩:_∧ua.eval (.tmp 69)=.bool true:=zQ2 (hd 69 (by decide))
     have e70:ua.eval (.tmp 70)=(zO g38):=zQ1 (hd 70 (by decide))
     have e71:ua.eval (.tmp 71)=(zO gx39):=zQ1 (hd 71 (by decide))
     obtain ⟨hs2,hs5⟩:=HP.2 s7
     exact zxa (zd rfl rfl rfl e69) rfl #[(zO g38),(zO gx39)] (zea e70 e71) (zE Tryz.func18 rfl) ((same_any6 names_ok g38 gx39 gc39 V2 xJ.1.1 xJ.1.2 xJ.2.1 xJ.2.2 hP2 (by omega) uw (M.hasV (kg:=3) (kr:=4) (zvb hs2 rfl) (zvb hs2 rfl) (by decide)) (M.xOk (k:=5) (zvb hs5 rfl)).has).mono fun e w2 h=>⟨_,h.1,rfl,(JQ.mk HP xJ ((M.step h.2).sub ⟨rfl,rfl,rfl,rfl,rfl,rfl,rfl,rfl,rfl,rfl,trivial⟩))⟩)
    ·intro ua uw SV pV M0 hk hn hd
     obtain ⟨HP,xJ,M⟩:=M0
     replace M:Mx none w uw _:=M
     have e69:ua.eval (.tmp 69)=.bool true:=zQ1 (hd 69 (by decide))
     have e72:ua.eval (.tmp 72)=.bool true:=zQ1 (hd 72 (by decide))
     exact ze rfl (.bool true) (zkb rfl e69 e72) rfl ((JQ.mk HP xJ (M.sb)))
    intro p116 a116 w116 M116 G116 y116
    obtain ⟨-,-,-,-,-,-,-,-,-,-,-,q11,-⟩:=y116
    have r11:p116 11=.bool true:=q11
    obtain ⟨-,xJ116,M116⟩:=M116
    replace M116:Mx _ _ w116 [(0,bytR l1 (.slice A1 n1 cap1)),(1,intR A0 n0 x0),(2,intR A2 n2 x2),(3,zaa true (blkR g38 80 (vltA V2 xJ116.1.1 xJ116.1.2)) (blkR g38 80 (vltA Vf s104 n104))),(4,zaa true (zza 0 18 V2.c xJ116.1.1 xJ116.1.2) (zza 0 18 Vf.c s104 n104)),(5,zaa true (xR gx39 gc39 V2 xJ116.2.1 xJ116.2.2) (xR gx39 gc39 Vf sx108 nx108)),(6,bytR r.l2 U111.v2),(7,bytR r.l5 U111.v5),(8,blkR g112 37 (recA r U111)),(90,zaa true (pureR (∀ b,zo 18 xJ116.1.1 xJ116.1.2 b→zo 18 s104 n104 b∨0≤b)) (pureR (∀ b,zo 18 s104 n104 b→zo 18 s104 n104 b∨0≤b)))]:=M116
    simp only [List.take,layV,Nat.zero_add,Nat.reduceAdd,r11] at G116
    refine rm rfl G116 fun _ F117=>hK114 _ _ (wp_ret ?_)
    try simp only [Exit.then,Exit.inBlock,Exit.jump]
    exact bodyPost_ret (res1 rfl (F117.get rfl)) F117.defers ⟨rfl,M116.below⟩
end Go.Proofs.YtmjbnmbobocpdaaGreat
