/- What VaultPlays stands on, part 15. -/
import Derived.Deep.Upon
import Derived.Test.YtmjbnmbobocpdaaGreatVaultPlaysP1
import Derived.Test.YtmjbnmbobocpdaaGreatVaultPlaysP2
import Derived.Test.YtmjbnmbobocpdaaGreatVaultPlaysP3
import Derived.Test.YtmjbnmbobocpdaaGreatVaultPlaysP4
import Derived.Test.YtmjbnmbobocpdaaGreatVaultPlaysP5
import Derived.Test.YtmjbnmbobocpdaaGreatVaultPlaysP6
import Derived.Test.YtmjbnmbobocpdaaGreatVaultPlaysP7
import Derived.Test.YtmjbnmbobocpdaaGreatVaultPlaysP8
import Derived.Test.YtmjbnmbobocpdaaGreatVaultPlaysP9
import Derived.Test.YtmjbnmbobocpdaaGreatVaultPlaysP10
import Derived.Test.YtmjbnmbobocpdaaGreatVaultPlaysP11
import Derived.Test.YtmjbnmbobocpdaaGreatVaultPlaysP12
import Derived.Test.YtmjbnmbobocpdaaGreatVaultPlaysP13
import Derived.Test.YtmjbnmbobocpdaaGreatVaultPlaysP14
set_option maxRecDepth 100000
set_option maxHeartbeats 8000000
set_option linter.unusedVariables false
set_option linter.unusedSimpArgs false
namespace Go.Proofs.YtmjbnmbobocpdaaGreat
open Go.ChangeShapes Go.WideShapes Go.ChangeAt Go.RowKit
theorem lstepA_any (g gx gc:Nat) {K E:Nat} (V:VltN) (s n sx nx:Nat→Value) (hP:PlOk K E V) (hK:K<255) (hE:E<999) (bv:Value) (At:Option Addr) (mt ct:Nat) (xt:Nat→Int) (hmt:mt≤ct) (hmt1:mt≤10) (z:Int) (hz:0≤z∧z<1073741824) (h8:8≤z%12) (w:World) (hr:RowsV w g V.c s n) (hg:w.heap[g]? = some (.cells (vltA V s n) 80 (0,0))) (hx:XOk w gx gc V sx nx) (hgx:¬(xR gx gc V sx nx).fp g) (hT:RdI w At mt xt) (hTg:(¬ifp At mt g)∧∀ b,ifp At mt b→¬(xR gx gc V sx nx).fp b):
  Calls Tryz.prog 16 #[(zO g),(zO gx),zI z,bv,.slice At mt ct] w fun e w'=>∃ t,e=.returned t∧t=.bool true∧∃ V',StepA V V' xt mt∧∃ wm s' n',VTo w wm g (zo 18 s n) V' s' n'∧XTo wm w' gx gc (zo 18 sx nx) V':=by
 obtain ⟨k,hk⟩:∃ x,z.tdiv 12=x:=⟨_,rfl⟩
 have hz12:z.tdiv 12=z / 12:=Int.tdiv_eq_ediv_of_nonneg hz.1
 obtain ⟨q,hq⟩:∃ x,z%12=x:=⟨_,rfl⟩
 have hq7:8≤q∧q≤11:=by omega
 have hkb:0≤k∧k<1073741824:=by omega
 obtain ⟨nj,hnj,hnj10⟩:∃ j:Nat,k%10=(j:Int)∧j<10:=⟨(k%10).toNat,by omega,by omega⟩
 obtain ⟨zf,hzf⟩:∃ x,k%6-1=x:=⟨_,rfl⟩
 obtain ⟨k2,hk2⟩:∃ x,k.tdiv 2=x:=⟨_,rfl⟩
 have hk22:k.tdiv 2=k / 2:=Int.tdiv_eq_ediv_of_nonneg hkb.1
 obtain ⟨nt,hnt,hntm⟩:=in6 k2 (show 0<mt+1 by omega)
 obtain ⟨bg,hbg⟩:∃ x,decide (fst8 (zba V (nmK nj))<8)=x:=⟨_,rfl⟩
 obtain ⟨rv,hrv⟩:∃ x,recG V (nmK nj)=x:=⟨_,rfl⟩
 have hov:RecOk rv:=by
  rw [←hrv]
  unfold recG
  split
  ·unfold z0a
   split
   ·exact rdR_ok _
   ·exact zero_ok
  ·exact zero_ok
 refine zk (args:=[(zO g),(zO gx),zI z,bv,.slice At mt ct]) 117 Tryz.func16 rfl rfl rfl ?_
 intro fa F
 have M:=(Mx.rowsG hr hg 1)
 refine zT fun _ hK21=>rm rfl F fun _ F22=>hK21 _ _ (zT fun _ hK23=>rm rfl F22 fun _ F24=>zc (w':=w) rfl rfl F24 rfl (zI k) (y_quoT _ _ _ _ rfl (F24 20 rfl) rfl (by omega) (by decide) hk) fun _ F25=>?_)
 refine rm rfl F25 fun _ F26=>hK23 _ _ (zSk fun _ hK27=>zT fun _ hK28=>rm rfl F26 fun _ F29=>zc (w':=w) rfl rfl F29 rfl (zI q) (y_remI _ _ _ _ rfl (F29 22 rfl) rfl (by omega) (by omega) hq) fun _ F30=>?_)
 refine hK28 _ _ (wp_block (zSk fun _ hK31=>zT fun _ hK32=>zc (w':=w) rfl rfl F30 rfl (.bool false) (zva _ _ _ _ rfl (F30 23 rfl) rfl Tryz.underlying3 (zhb (by omega))) fun _ F33=>?_))
 refine rm rfl F33 fun _ F34=>hK32 _ _ (wp_cond_false (F34 49 rfl) (zT fun _ hK35=>zc (w':=w) rfl rfl F34 rfl (.bool false) (zva _ _ _ _ rfl (F34 23 rfl) rfl Tryz.underlying3 (zhb (by omega))) fun _ F36=>?_))
 refine rm rfl F36 fun _ F37=>hK35 _ _ (wp_cond_false (F37 49 rfl) (zT fun _ hK38=>zc (w':=w) rfl rfl F37 rfl (.bool false) (zva _ _ _ _ rfl (F37 23 rfl) rfl Tryz.underlying3 (zhb (by omega))) fun _ F39=>?_))
 refine rm rfl F39 fun _ F40=>hK38 _ _ (wp_cond_false (F40 49 rfl) (zT fun _ hK41=>zc (w':=w) rfl rfl F40 rfl (.bool false) (zva _ _ _ _ rfl (F40 23 rfl) rfl Tryz.underlying3 (zhb (by omega))) fun _ F42=>?_))
 refine rm rfl F42 fun _ F43=>hK41 _ _ (wp_cond_false (F43 49 rfl) (zT fun _ hK44=>zc (w':=w) rfl rfl F43 rfl (.bool false) (zva _ _ _ _ rfl (F43 23 rfl) rfl Tryz.underlying3 (zhb (by omega))) fun _ F45=>?_))
 refine rm rfl F45 fun _ F46=>hK44 _ _ (wp_cond_false (F46 49 rfl) (zR (zc (w':=w) rfl rfl F46 rfl (.bool false) (zva _ _ _ _ rfl (F46 23 rfl) rfl Tryz.underlying3 (zhb (by omega))) fun _ F47=>?_)))
 refine rm rfl F47 fun _ F48=>hK31 _ _ (wp_cond_false (F48 49 rfl) (zSk fun _ hK49=>zT fun _ hK50=>zc (w':=w) rfl rfl F48 rfl (.bool false) (zva _ _ _ _ rfl (F48 23 rfl) rfl Tryz.underlying3 (zhb (by omega))) fun _ F51=>?_))
 refine rm rfl F51 fun _ F52=>hK50 _ _ (wp_cond_false (F52 70 rfl) (zR (zc (w':=w) rfl rfl F52 rfl (.bool false) (zva _ _ _ _ rfl (F52 23 rfl) rfl Tryz.underlying3 (zhb (by omega))) fun _ F53=>?_)))
 refine rm rfl F53 fun _ F54=>hK49 _ _ (wp_cond_false (F54 70 rfl) (zT fun _ hK55=>?_))
 by_cases h56:q=8
 ·refine zc (w':=w) rfl rfl F54 rfl (.bool true) (zva _ _ _ _ rfl (F54 23 rfl) rfl Tryz.underlying3 (zlb h56)) fun _ F57=>?_
  refine rm rfl F57 fun _ F58=>hK55 _ _ (wp_cond_true (F58 85 rfl) (zT fun _ hK59=>rm rfl F58 fun _ F60=>rm rfl F60 fun _ F61=>zc (w':=w) rfl rfl F61 rfl (zI (k%6)) (y_remI _ _ _ _ rfl (F61 88 rfl) rfl (by omega) (by omega) rfl) fun _ F62=>?_))
  refine zc (w':=w) rfl rfl F62 rfl (zI zf) (z3c _ _ _ _ rfl (F62 89 rfl) rfl hzf (by omega)) fun _ F63=>?_
  obtain ⟨V2,hV2⟩:∃ x,failV V zf=x:=⟨_,rfl⟩
  refine zh rfl rfl F63 rfl rfl (zE Tryz.func19 rfl) #[(zO g),zI zf] (zea (F63 87 rfl) (F63 90 rfl)) (fail_is g V s n zf V2 hV2 w  (M.rowsV (i:=1) (k:=0) rfl rfl (by decide)) (M.blk (k:=0) rfl)) ?_
  rintro _ w64 a64 ⟨s64,n64,hr64,ht64,hc64,hg64⟩ F64
  have hto_:=fun b hb=>(ht64 b hb).imp id (Nat.le_trans M.le)
  have M64:=M.vault (kg:=0) (kr:=1) rfl rfl hg64 hc64 hr64 ht64
  clear M hg64 hc64 hr64 ht64
  refine hK59 _ _ (zR (rm rfl F64 fun _ F65=>rm rfl F65 fun _ F66=>zc (w':=w64) rfl rfl F66 rfl (zI (k%6)) (y_remI _ _ _ _ rfl (F66 93 rfl) rfl (by omega) (by omega) rfl) fun _ F67=>?_))
  refine zc (w':=w64) rfl rfl F67 rfl (zI zf) (z3c _ _ _ _ rfl (F67 94 rfl) rfl hzf (by omega)) fun _ F68=>?_
  refine zh rfl rfl F68 rfl rfl (zE Tryz.func20 rfl) #[(zO gx),zI zf] (zea (F68 92 rfl) (F68 95 rfl)) (xfail_any gx gc V sx nx zf V2 hV2 w64 (hx.grow M64.grown hgx)) ?_
  rintro _ w69 a69 hw69 F69
  refine hK27 _ _ (zT fun _ hK70=>rm rfl F69 fun _ F71=>hK70 _ _ (wp_ret ?_))
  try simp only [Exit.then,Exit.inBlock,Exit.jump]
  exact bodyPost_ret (res1 rfl (F71.get rfl)) F71.defers ⟨_,rfl,rfl,V2,(.inr (.inl ⟨zf,by omega,by omega,hV2.symm⟩)),_,s64,n64,⟨M64.rowsV (i:=1) (k:=0) rfl rfl (by decide),hto_,M64.blk (k:=0) rfl,M64.grown⟩,hw69⟩
 ·refine zc (w':=w) rfl rfl F54 rfl (.bool false) (zva _ _ _ _ rfl (F54 23 rfl) rfl Tryz.underlying3 (zhb h56)) fun _ F72=>?_
  refine rm rfl F72 fun _ F73=>hK55 _ _ (wp_cond_false (F73 85 rfl) (zSk fun K74 hK74=>?_))
  have J74:∀ (b97:Bool) (aJ:Act) (wJ:World),(b97=decide (q≤10))→Fx 117 aJ [(0,(zO g)),(1,(zO gx)),(3,bv),(4,.slice At mt ct),(11,zI k),(23,zI q),(97,.bool b97)]→Mx (some g) w wJ [(1,zza 0 18 V.c s n),(0,blkR g 80 (vltA V s n))]→K74 aJ wJ:=by
   intro b97 a74 w74 I74 F74 M74
   refine hK74 _ _ ?_
   have h97:=I74
   cases b97
   ·have hq10:¬q≤10:=of_decide_eq_false h97.symm
    refine wp_cond_false (F74 97 rfl) (zT fun _ hK75=>zh rfl rfl F74 rfl rfl (zE Tryz.func34 rfl) #[] (args0) (names6_ex w74) ?_)
    rintro _ w76 a76 ⟨gq76,rfl,hg76,hc76,b76⟩ F76
    have M76:=M74.newb b76 3 hg76 hc76
    clear M74 b76 hg76 hc76
    refine rm rfl F76 fun _ F77=>zc (w':=w76) rfl rfl F77 rfl (zI (nj:Int)) (y_remI _ _ _ _ rfl (F77 25 rfl) rfl (by omega) (by omega) hnj) fun _ F78=>?_
    refine zc (w':=w76) rfl rfl F78 rfl (zP gq76 nj) (zkc 45 (s:=1) Tryz.underlying45 (by kernel_rfl) _ _ rfl (F78 24 rfl) (F78 26 rfl) rfl hnj10 (by omega)) fun _ F79=>?_
    refine zc (w':=w76) rfl rfl F79 rfl (.string (nmK nj)) (zha _ _ rfl (F79 27 rfl) (M76.blk (k:=3) rfl) (nmA_at (show nj<10 by omega)) Tryz.underlying9 rfl) fun _ F80=>?_
    refine rm rfl F80 fun _ F81=>hK75 _ _ (zT fun _ hK82=>rm rfl F81 fun _ F83=>rm rfl F83 fun _ F84=>zh rfl rfl F84 rfl rfl (zE Tryz.func24 rfl) #[(zO g),.string (nmK nj)] (zea (F84 30 rfl) (F84 31 rfl)) (get_is g V s n hP.inv (nmK nj) bg rv hbg hrv w76 (M76.hasV (kg:=0) (kr:=1) rfl rfl (by decide))) ?_)
    rintro _ w85 a85 ⟨U85,rfl,is85,lo85,b85⟩ F85
    have M85:=M76.newRec b85 is85 lo85 4 5
    clear M76 b85 lo85
    refine zB 3 [(1,(zO gx)),(15,.string (nmK nj)),(33,.agg (recA rv U85)),(34,.bool bg)] [] dnil [] F85 fun _ F86=>?_
    refine zq rfl rfl F86 rfl M85 6 (t:=37) (c:=recA ⟨0, "".toUTF8,[],0,0,[],0,0,0⟩ ⟨zN,zN⟩) (by unfold execOp;kernel_rfl) ?_
    intro g87 a87 w87 F87 M87
    refine zt rfl rfl F87 M87 (k:=6) rfl _ _ _ rfl (F87 16 rfl) (F87 33 rfl) (recA rv U85) _ rfl (zL rfl) (z3a (w:=w87) ⟨(M87.isb (k:=4) rfl),(M87.isb (k:=5) rfl)⟩) (zfa rfl) (by kernel_rfl) ?_
    intro w88 M88
    refine rm rfl F87 fun _ F89=>hK82 _ _ (zT fun _ hK90=>rm rfl F89 fun _ F91=>rm rfl F91 fun _ F92=>zh rfl rfl F92 rfl rfl (zE Tryz.func33 rfl) #[(zO gx),.string (nmK nj)] (zea (F92 36 rfl) (F92 37 rfl)) (xget_is gx gc V sx nx hP.inv (nmK nj) bg rv hbg hrv w88 (hx.grow M88.grown hgx)) ?_)
    rintro _ w93 a93 ⟨U93,rfl,is93,lo93,b93⟩ F93
    have M93:=M88.newRec b93 is93 lo93 7 8
    clear M88 b93 lo93
    refine zB 3 [(16,(zO g87)),(17,.bool bg),(39,.agg (recA rv U93)),(40,.bool bg)] [] dnil [] F93 fun _ F94=>?_
    refine zq rfl rfl F94 rfl M93 9 (t:=37) (c:=recA ⟨0, "".toUTF8,[],0,0,[],0,0,0⟩ ⟨zN,zN⟩) (by unfold execOp;kernel_rfl) ?_
    intro g95 a95 w95 F95 M95
    refine zt rfl rfl F95 M95 (k:=9) rfl _ _ _ rfl (F95 18 rfl) (F95 39 rfl) (recA rv U93) _ rfl (zL rfl) (z3a (w:=w95) ⟨(M95.isb (k:=7) rfl),(M95.isb (k:=8) rfl)⟩) (zfa rfl) (by kernel_rfl) ?_
    intro w96 M96
    refine rm rfl F95 fun _ F97=>hK90 _ _ (zT fun _ hK98=>rm rfl F97 fun _ F99=>rm rfl F99 fun _ F100=>zc (w':=w96) rfl rfl F100 rfl (.bool true) (y_eqB _ _ rfl (F100 41 rfl) (F100 42 rfl) (by cases bg <;> rfl)) fun _ F101=>?_)
    refine zB 3 [(44,.bool true),(45,.agg (recA rv U85)),(46,.agg (recA rv U93))] [0,1] (zx (M96.blk (k:=6) rfl) (zx (M96.blk (k:=9) rfl) dnil)) [g87,g95] F101 fun _ F102=>?_
    refine zh (zd rfl rfl rfl (F102 44 rfl)) rfl F102 rfl rfl (zE Tryz.func31 rfl) #[.agg (recA rv U85),.agg (recA rv U93)] (zea (F102 45 rfl) (F102 46 rfl)) (zda ((recs_is rv rv ⟨U85.v2,U85.v5⟩ ⟨U93.v2,U93.v5⟩ hov hov true (eqR_self rv) w96 ⟨(M96.isb (k:=4) rfl),(M96.isb (k:=5) rfl)⟩ ⟨(M96.isb (k:=7) rfl),(M96.isb (k:=8) rfl)⟩))) ?_
    rintro _ w103 a103 ⟨rfl,b103⟩ F103
    have M103:=M96.step b103
    refine zB 2 [(10,.bool true)] [] dnil [] F103 fun _ F104=>?_
    refine hK98 _ _ (wp_ret ?_)
    try simp only [Exit.then,Exit.inBlock,Exit.jump]
    exact bodyPost_ret (res1 rfl (F104.get rfl)) F104.defers ⟨_,rfl,rfl,V,.inl rfl,_,s,n,⟨M103.rowsV (i:=1) (k:=0) rfl rfl (by decide),fun b hb=>.inl hb,M103.blk (k:=0) rfl,M103.grown⟩,(hx.grow M103.grown hgx).to (Below.refl _ _)⟩
   ·have hq10:q≤10:=of_decide_eq_true h97.symm
    refine wp_cond_true (F74 97 rfl) (zT fun _ hK105=>rm rfl F74 fun _ F106=>zc (w':=w74) rfl rfl F106 rfl (zI (k%2)) (y_remI _ _ _ _ rfl (F106 100 rfl) rfl (by omega) (by omega) rfl) fun _ F107=>?_)
    by_cases h108:(k%2)=0
    ·refine zc (w':=w74) rfl rfl F107 rfl (.bool true) (zva _ _ _ _ rfl (F107 101 rfl) rfl Tryz.underlying3 (zlb h108)) fun _ F109=>?_
     refine hK105 _ _ (wp_cond_true (F109 102 rfl) (zT fun _ hK110=>rm rfl F109 fun _ F111=>rm rfl F111 fun _ F112=>zc (w':=w74) rfl rfl F112 rfl (zI k2) (y_quoT _ _ _ _ rfl (F112 104 rfl) rfl (by omega) (by decide) hk2) fun _ F113=>?_))
     refine rm rfl F113 fun _ F114=>zc (w':=w74) rfl rfl F114 rfl (zI (mt:Int)) (y_lnG 22 Tryz.underlying22 _ rfl (F114 106 rfl) rfl) fun _ F115=>?_
     refine zc (w':=w74) rfl rfl F115 rfl (zI ((mt+1:Nat):Int)) (zsa _ _ _ _ rfl (F115 107 rfl) rfl (by omega) (by omega)) fun _ F116=>?_
     refine zh rfl rfl F116 rfl rfl (zE Tryz.func17 rfl) #[zI k2,zI ((mt+1:Nat):Int)] (zea (F116 105 rfl) (F116 108 rfl)) (zda ((hnt▸within6_any k2 ((mt+1:Nat):Int) (by omega) (by omega) (by omega) (by omega) w74))) ?_
     rintro _ w117 a117 ⟨rfl,rfl⟩ F117
     refine zc (w':=w74) rfl rfl F117 rfl (.slice At nt ct) (y_slI2 _ _ rfl (F117 103 rfl) (F117 109 rfl) rfl (by omega)) fun _ F118=>?_
     refine rm rfl F118 fun _ F119=>hK110 _ _ (zT fun _ hK120=>rm rfl F119 fun _ F121=>rm rfl F121 fun _ F122=>?_)
     obtain ⟨V2,hV2⟩:∃ x,ageW (zac V xt nt)=x:=⟨_,rfl⟩
     refine zh rfl rfl F122 rfl rfl (zE Tryz.func30 rfl) #[(zO g),.slice At nt ct] (zea (F122 111 rfl) (F122 112 rfl)) (again_isV g V s n At nt ct xt (by omega) hP.inv (by omega) hP.era.1 (by omega) (by omega) V2 hV2 w74 (rdI_pre (hT.grow M74.grown hTg.1) (by omega)) (fun h=>hTg.1 (ifp_pre (by omega) h)) (M74.rowsV (i:=1) (k:=0) rfl rfl (by decide)) (M74.blk (k:=0) rfl)) ?_
     rintro _ w123 a123 ⟨s123,n123,hr123,ht123,hc123,hg123⟩ F123
     have hto_:=fun b hb=>(ht123 b hb).imp id (Nat.le_trans M74.le)
     have M123:=M74.vault (kg:=0) (kr:=1) rfl rfl hg123 hc123 hr123 ht123
     clear M74 hg123 hc123 hr123 ht123
     refine hK120 _ _ (zR (rm rfl F123 fun _ F124=>rm rfl F124 fun _ F125=>zh rfl rfl F125 rfl rfl (zE Tryz.func42 rfl) #[(zO gx),.slice At nt ct] (zea (F125 114 rfl) (F125 115 rfl)) (xagain_any gx gc V sx nx hP.inv hK E (by omega) hP.era At nt ct xt hV2 w123 (hx.grow M123.grown hgx) (rdI_pre (hT.grow M123.grown hTg.1) (by omega)) (fun b hb=>⟨fun e=>hTg.2 b (ifp_pre (by omega) hb) (.inl e),fun e=>hTg.2 b (ifp_pre (by omega) hb) (.inr (.inl e))⟩)) ?_))
     rintro _ w126 a126 hw126 F126
     refine hK27 _ _ (zT fun _ hK127=>rm rfl F126 fun _ F128=>hK127 _ _ (wp_ret ?_))
     try simp only [Exit.then,Exit.inBlock,Exit.jump]
     exact bodyPost_ret (res1 rfl (F128.get rfl)) F128.defers ⟨_,rfl,rfl,V2,(.inr (.inr ⟨nt,by omega,hV2.symm⟩)),_,s123,n123,⟨M123.rowsV (i:=1) (k:=0) rfl rfl (by decide),hto_,M123.blk (k:=0) rfl,M123.grown⟩,hw126⟩
    ·refine zc (w':=w74) rfl rfl F107 rfl (.bool false) (zva _ _ _ _ rfl (F107 101 rfl) rfl Tryz.underlying3 (zhb h108)) fun _ F129=>?_
     refine hK105 _ _ (wp_cond_false (F129 102 rfl) (wp_skip (hK27 _ _ (zT fun _ hK130=>rm rfl F129 fun _ F131=>hK130 _ _ (wp_ret ?_)))))
     try simp only [Exit.then,Exit.inBlock,Exit.jump]
     exact bodyPost_ret (res1 rfl (F131.get rfl)) F131.defers ⟨_,rfl,rfl,V,.inl rfl,_,s,n,⟨M74.rowsV (i:=1) (k:=0) rfl rfl (by decide),fun b hb=>.inl hb,M74.blk (k:=0) rfl,M74.grown⟩,(hx.grow M74.grown hgx).to (Below.refl _ _)⟩
  refine zT fun _ hK132=>?_
  by_cases h133:q=9
  ·refine zc (w':=w) rfl rfl F73 rfl (.bool true) (zva _ _ _ _ rfl (F73 23 rfl) rfl Tryz.underlying3 (zlb h133)) fun _ F134=>?_
   refine rm rfl F134 fun _ F135=>hK132 _ _ (wp_cond_true (F135 97 rfl) (wp_skip ?_))
   exact J74 true _ _ (decide_eq_true (show q≤10 by omega)).symm (F135.sb) (M.sb)
  ·refine zc (w':=w) rfl rfl F73 rfl (.bool false) (zva _ _ _ _ rfl (F73 23 rfl) rfl Tryz.underlying3 (zhb h133)) fun _ F136=>?_
   refine rm rfl F136 fun _ F137=>hK132 _ _ (wp_cond_false (F137 97 rfl) (zR ?_))
   by_cases h138:q=10
   ·refine zc (w':=w) rfl rfl F137 rfl (.bool true) (zva _ _ _ _ rfl (F137 23 rfl) rfl Tryz.underlying3 (zlb h138)) fun _ F139=>?_
    refine rm rfl F139 fun _ F140=>?_
    exact J74 true _ _ (decide_eq_true (show q≤10 by omega)).symm (F140.sb) (M.sb)
   ·refine zc (w':=w) rfl rfl F137 rfl (.bool false) (zva _ _ _ _ rfl (F137 23 rfl) rfl Tryz.underlying3 (zhb h138)) fun _ F141=>?_
    refine rm rfl F141 fun _ F142=>?_
    exact J74 false _ _ (decide_eq_false (show ¬q≤10 by omega)).symm (F142.sb) (M.sb)
section
open Go.Shelf
def StK.cel (c:Nat→CelN):StK:=⟨fun w v=>∃ g s n,v=.slice (some ⟨g,0,none⟩) 18 18∧CelsM w g c s n,fun B w w' v hb ⟨g,s,n,e,h⟩=>by
 obtain ⟨fr',h3,he⟩:=hb.kept _ _ _ _ h.blk
 rw [he (by decide)] at h3
 exact ⟨g,s,n,e,h3,fun i hi=>(h.hs i hi).kc hb,fun i hi=>(h.hn i hi).kc hb⟩⟩
theorem cells_r {K:Nat} {g:Nat} {V:VltN} {s n:Nat→Value} (hi:InvV K V) (w:World) (h:HasV w g V s n):Calls Tryz.prog 28 #[(zO g)] w fun e w'=>∃ v,e=.returned v∧Below w.heap.size w w'∧(StK.cel V.c).F w' v:=
 (cells_is g V s n hi w h).mono fun e w' ⟨t,h1,gq,s',n',h2,h3,h4⟩=>⟨t,h1,h4,gq,s',n',h2,h3.1,fun i hi=>(h3.2.2.1 i hi).1,fun i hi=>(h3.2.2.1 i hi).2.1⟩
theorem xcells_r {c:Nat→CelN} {w:World} {u:Value} (h1:(StK.cel c).F w u) {gb:Nat} {sb nb:Nat→Value} (h2:CelsM w gb c sb nb):Calls Tryz.prog 38 #[u,.slice (some ⟨gb,0,none⟩) 18 18] w fun e w'=>e=.returned (.bool true)∧Below w.heap.size w w':=by
 obtain ⟨g,s,n,rfl,h⟩:=h1
 exact xcells_any g gb c s n sb nb w h h2
def NamesOk:Prop:=∀ (gx gc:Nat) {K:Nat} (V:VltN) (L:Int) (s n:Nat→Value),InvV K V→∀ (M:List ByteArray),srtL (namL V 8)=M→∀ (w:World),HasX w gx gc V L s n→Calls Tryz.prog 43 #[(zO gx)] w fun e w'=>∃ v,e=.returned v∧TxtAt w' w.heap.size M v∧Below w.heap.size w w'
end
theorem same_any6 (hN:NamesOk) (g gx gc:Nat) {K E:Nat} (V:VltN) (s n sx nx:Nat→Value) (hP:PlOk K E V) (hE:E<1000) (w:World) (h1:HasV w g V s n) (h2:HasX w gx gc V (zgc V) sx nx):
  Calls Tryz.prog 18 #[(zO g),(zO gx)] w fun e w'=>e=.returned (.bool true)∧Below w.heap.size w w':=by
 obtain ⟨Lf,hLf⟩:∃ x,zgc V=x:=⟨_,rfl⟩
 rw [hLf] at h2
 obtain ⟨dd,hdd⟩:∃ x,V.dd=x:=⟨_,rfl⟩
 have hx0:=h2.hx
 rw [hdd] at hx0
 obtain ⟨L,hL⟩:∃ x,srtL (namL V 8)=x:=⟨_,rfl⟩
 have hL8:L.length≤8:=by rw [←hL,srtL_len];exact namL_len V 8
 have hbt:bootR V=(E:Int):=eras_boot hP.era hE
 refine zk (args:=[(zO g),(zO gx)]) 56 Tryz.func18 rfl rfl rfl ?_
 intro fa F
 have M:=Mx.start w
 replace M:=M.argO 0 h1.blk (fun b e=>by cases e)
 replace M:=M.argO 1 hx0 (fun b e=>by cases e)
 refine zT fun _ hK21=>rm rfl F fun _ F22=>hK21 _ _ (zT fun _ hK23=>rm rfl F22 fun _ F24=>zh rfl rfl F24 rfl rfl (zE Tryz.func25 rfl) #[(zO g)] (zca (F24 8 rfl)) (names_is g V s n hP.inv L hL w (h1.step M.below)) ?_)
 rintro _ w25 a25 ⟨tx25,b25⟩ F25
 have M25:=M.newTxt b25 2 tx25
 clear M tx25 b25
 obtain ⟨A25,c25,e25,-⟩:=id (M25.at_ 2 _ rfl)
 subst e25
 refine rm rfl F25 fun _ F26=>zh rfl rfl F26 rfl rfl (zE Tryz.func43 rfl) #[(zO gx)] (zca (F26 10 rfl)) (hN gx gc V Lf sx nx hP.inv L hL w25 (h2.step M25.below)) ?_
 rintro _ w27 a27 ⟨tx27,b27⟩ F27
 have M27:=M25.newTxt b27 3 tx27
 clear M25 tx27 b27
 obtain ⟨A27,c27,e27,-⟩:=id (M27.at_ 3 _ rfl)
 subst e27
 refine rm rfl F27 fun _ F28=>rm rfl F28 fun _ F29=>hK23 _ _ (zSk fun _ hK30=>zSk fun _ hK31=>?_)
 have hD32:=(zx (M27.roB (k:=1) rfl) dnil)
 refine z5a F29 (SK [.inl (.slice A25 L.length c25),.inl (zI (L.length:Int)),.inl (.slice A27 L.length c27),.inl (zI (L.length:Int)),.inl (.bool false),.inl (.bool false),.inl (zO g),.inl (zI (E:Int)),.inl (zO gx),.inl (zI (E:Int)),.inl (.bool false),.inl (.bool false),.inl (.bool false),.inl (zO g),.inl (.bool dd),.inl (zO gx),.inl (.bool dd),.inl (.bool false),.inl (.bool false),.inl (.bool false),.inl (zO g),.inr (StK.cel V.c),.inl (zO gx),.inl (zO gx),.inl (zO gx),.inl (.slice (some ⟨gc,0,none⟩) 18 18),.inl (.bool true),.inl (.bool false),.inl (.bool false)]) 29 rfl (by kernel_rfl) ⟨hop0 F29,hopR F29 [(12,.slice A25 L.length c25)] fun ua uw hb ⟨e12,_⟩=>(y_lnG 45 Tryz.underlying45 _ rfl e12 rfl),hop0 F29,hopR F29 [(14,.slice A27 L.length c27)] fun ua uw hb ⟨e14,_⟩=>(y_lnG 45 Tryz.underlying45 _ rfl e14 rfl),hopR F29 [(13,zI (L.length:Int)),(15,zI (L.length:Int))] (v:=.bool false) fun ua uw hb ⟨e13,e15,_⟩=>(y_neI _ _ _ _ rfl e13 e15 Tryz.underlying3 (y_bneF rfl)),hop0 F29,hop0 F29,hopC F29 [(18,(zO g))] rfl (zE Tryz.func26 rfl) fun uw hb=>(boot_is g V s n hP.inv hP.era.1 uw (h1.step (M27.step hb).below)),hop0 F29,hopC F29 [(20,(zO gx))] rfl (zE Tryz.func44 rfl) fun uw hb=>(hbt▸rboot_any gx gc V Lf sx nx hP.inv uw (h2.step (M27.step hb).below)),hopR F29 [(19,zI (E:Int)),(21,zI (E:Int))] (v:=.bool false) fun ua uw hb ⟨e19,e21,_⟩=>(y_neI _ _ _ _ rfl e19 e21 Tryz.underlying3 (y_bneF rfl)),hop0 F29,hop0 F29,hop0 F29,hopC F29 [(25,(zO g))] rfl (zE Tryz.func32 rfl) fun uw hb=>(dead_is g V s n dd hdd uw (h1.step (M27.step hb).below)),hop0 F29,hopC F29 [(27,(zO gx))] rfl (zE Tryz.func45 rfl) fun uw hb=>(hdd▸rdead_any gx gc V Lf sx nx hP.inv uw (h2.step (M27.step hb).below)),hopR F29 [(26,.bool dd),(28,.bool dd)] (v:=.bool false) fun ua uw hb ⟨e26,e28,_⟩=>(y_neB _ _ rfl e26 e28 (by cases dd <;> rfl)),hop0 F29,hop0 F29,hop0 F29,?_,hop0 F29,hop0 F29,hop0 F29,hopP F29 hD32 0 (some gx),?_,hop0 F29,hop0 F29,trivial⟩ ?_
 ·intro ua uw hb hd
  have eg:ua.eval (.tmp 31)=.bool false:=hd 31 (by decide)
  have e32:ua.eval (.tmp 32)=(zO g):=hd 32 (by decide)
  exact z7b (F:=(StK.cel V.c).F) (zd rfl rfl rfl eg) hb.size rfl #[(zO g)] (zca e32) (zE Tryz.func28 rfl) ((cells_r hP.inv uw (h1.step (M27.step hb).below)))
 ·intro ua uw hb hd
  have eg:ua.eval (.tmp 31)=.bool false:=hd 31 (by decide)
  have e33:(StK.cel V.c).F uw (ua.eval (.tmp 33)):=hd 33 (by decide)
  have e37:ua.eval (.tmp 37)=.slice (some ⟨gc,0,none⟩) 18 18:=hd 37 (by decide)
  exact z7b (F:=(StK.eq (.bool true)).F) (zd rfl rfl rfl eg) hb.size rfl #[(ua.eval (.tmp 33)),.slice (some ⟨gc,0,none⟩) 18 18] (zea rfl e37) (zE Tryz.func38 rfl) (zad ((xcells_r e33 ⟨(h2.step (M27.step hb).below).hc,(h2.step (M27.step hb).below).hs,(h2.step (M27.step hb).below).hn⟩)))
 intro p33 a33 w33 b33 G33 y33
 obtain ⟨-,-,-,-,-,-,-,-,-,-,-,-,-,-,-,-,-,-,-,-,-,-,-,-,-,-,-,-,q28,-⟩:=y33
 have r28:p33 28=.bool false:=q28 (by decide)
 simp only [List.take,layV,Nat.zero_add,Nat.reduceAdd,r28] at G33
 have M33:=M27.kc b33
 clear F29 M27 r28 q28
 refine hK31 _ _ (wp_cond_false (G33 40 rfl) (wp_skip (hK30 _ _ (zSk fun _ hK34=>zT fun _ hK35=>rm rfl G33 fun _ F36=>hK35 _ _ (wp_block (zob (α:=Nat) (n:=56) (G:=none) (w0:=w) (fun x=>[(5,.slice A25 L.length c25),(6,.slice A27 L.length c27),(7,zI (x:Int))]) (fun x=>[(0,blkO g 80 (vltA V s n)),(1,blkO gx 72 (#[.slice (some ⟨gc,0,none⟩) 18 18,zI Lf,.bool dd])),(2,txtR L (.slice A25 L.length c25)),(3,txtR L (.slice A27 L.length c27))]) (fun k x=>k=(L.length-x)∧(x≤L.length)) _ 0 ⟨rfl,(Nat.zero_le _)⟩ (F36.sb) (M33.sb) ?_))))))
 rintro k37 kn a37 w37 K37 ⟨ek37,I37⟩ F37 M37 hK37
 replace F37:Fx 56 a37 [(5,.slice A25 L.length c25),(6,.slice A27 L.length c27),(7,zI (kn:Int))]:=F37
 replace M37:Mx _ _ w37 [(0,blkO g 80 (vltA V s n)),(1,blkO gx 72 (#[.slice (some ⟨gc,0,none⟩) 18 18,zI Lf,.bool dd])),(2,txtR L (.slice A25 L.length c25)),(3,txtR L (.slice A27 L.length c27))]:=M37
 replace I37:kn≤L.length:=I37
 replace ek37:k37=(L.length-kn):=ek37
 by_cases hkl:kn<L.length
 ·obtain ⟨nm,hnm⟩:∃ x,L[kn]? = some x:=⟨_,List.getElem?_eq_getElem hkl⟩
  refine zSk fun _ hK38=>zT fun _ hK39=>rm rfl F37 fun _ F40=>rm rfl F40 fun _ F41=>zc (w':=w37) rfl rfl F41 rfl (zI (L.length:Int)) (y_lnG 45 Tryz.underlying45 _ rfl (F41 42 rfl) rfl) fun _ F42=>?_
  refine zc (w':=w37) rfl rfl F42 rfl (.bool true) (zna _ _ _ _ rfl (F42 41 rfl) (F42 43 rfl) (decide_eq_true (show (kn:Int)<(L.length:Int) by omega))) fun _ F43=>?_
  refine hK39 _ _ (wp_cond_true (F43 44 rfl) (wp_skip (hK38 _ _ (zSk fun _ hK44=>wp_block (zSk fun _ hK45=>?_)))))
  refine z5a F43 (SK [.inl (.slice A25 L.length c25),.inl (zI (kn:Int)),.inl ((ixV (.slice A25 L.length c25) kn)),.inl (.string nm),.inl (.slice A27 L.length c27),.inl (zI (kn:Int)),.inl ((ixV (.slice A27 L.length c27) kn)),.inl (.string nm),.inl (.bool false)]) 9 rfl (by kernel_rfl) ⟨hop0 F43,hop0 F43,hopR F43 [(47,.slice A25 L.length c25),(48,zI (kn:Int))] fun ua uw hb ⟨e47,e48,_⟩=>(y_ixTx _ _ rfl e47 ((M37.step hb).at_ 2 _ rfl) e48 rfl hkl),hopR F43 [(49,(ixV (.slice A25 L.length c25) kn))] fun ua uw hb ⟨e49,_⟩=>(y_ldTx _ rfl e49 ((M37.step hb).at_ 2 _ rfl) hnm),hop0 F43,hop0 F43,hopR F43 [(51,.slice A27 L.length c27),(52,zI (kn:Int))] fun ua uw hb ⟨e51,e52,_⟩=>(y_ixTx _ _ rfl e51 ((M37.step hb).at_ 3 _ rfl) e52 rfl hkl),hopR F43 [(53,(ixV (.slice A27 L.length c27) kn))] fun ua uw hb ⟨e53,_⟩=>(y_ldTx _ rfl e53 ((M37.step hb).at_ 3 _ rfl) hnm),hopR F43 [(50,.string nm),(54,.string nm)] (v:=.bool false) fun ua uw hb ⟨e50,e54,_⟩=>(y_neS _ _ _ rfl e50 e54 (by simp)),trivial⟩ ?_
  intro p47 a47 w47 b47 G47 y47
  obtain ⟨-,-,-,-,-,-,-,-,q8,-⟩:=y47
  have r8:p47 8=.bool false:=q8 (by decide)
  simp only [List.take,layV,Nat.zero_add,Nat.reduceAdd,r8] at G47
  have M47:=M37.kc b47
  clear F43 M37 r8 q8
  refine hK45 _ _ (wp_cond_false (G47 55 rfl) (wp_skip (hK44 _ _ (zR (rm rfl G47 fun _ F48=>zc (w':=w47) rfl rfl F48 rfl (zI ((kn+1:Nat):Int)) (zsa _ _ _ _ rfl (F48 45 rfl) rfl (by omega) (by omega)) fun _ F49=>?_)))))
  refine rm rfl F49 fun _ F50=>?_
  subst ek37
  exact hK37 _ (kn+1) _ _ (by omega) ⟨rfl,(by omega)⟩ (F50.sb) (M47.sb)
 ·refine zSk fun _ hK51=>zT fun _ hK52=>rm rfl F37 fun _ F53=>rm rfl F53 fun _ F54=>zc (w':=w37) rfl rfl F54 rfl (zI (L.length:Int)) (y_lnG 45 Tryz.underlying45 _ rfl (F54 42 rfl) rfl) fun _ F55=>?_
  refine zc (w':=w37) rfl rfl F55 rfl (.bool false) (zna _ _ _ _ rfl (F55 41 rfl) (F55 43 rfl) (decide_eq_false (show ¬(kn:Int)<(L.length:Int) by omega))) fun _ F56=>?_
  refine hK52 _ _ (wp_cond_false (F56 44 rfl) (wp_exit ?_))
  simp only [Exit.then,Exit.inBlock,↓reduceIte,Nat.reduceEqDiff]
  refine hK34 _ _ (zT fun _ hK57=>?_)
  exact rm rfl F56 fun _ F58=>hK57 _ _ (wp_ret (bodyPost_ret (res1 rfl (F58.get rfl)) F58.defers ⟨rfl,M37.below⟩))
section
open Go.Shelf
theorem nam_cnt {V:VltN} {k:Nat} {ca ct:Int} {cl:List UInt8} (hC:cntR V (2*k) 2=(ca,ct,cl)):zec V (2*k)=rdOk cl∧(rdOk cl=true→z0a V (2*k)=rdR cl):=by
 rcases cnt_any hC with ⟨h1,_,_,rfl⟩ | ⟨h1,_,_,rfl⟩
 ·exact ⟨by unfold zec;rw [h1,Bool.true_and],fun _=>by unfold z0a;rw [if_pos h1]⟩
 ·exact ⟨by unfold zec;rw [h1,rdOk_nil];rfl,fun h=>by rw [rdOk_nil] at h;cases h⟩
theorem srt_app (L:List ByteArray) (x:ByteArray):srtL (L++[x])=insR (srtL L) x:=by unfold srtL;rw [List.foldl_append];rfl
theorem ins_go {D:List ByteArray} {x y:ByteArray} {k:Nat} (hk:0<k) (hy:D[k-1]? = some y) (h:insR D x=insR (D.take k) x++D.drop k) (hl:Op.bytesLess x.toList y.toList=true):insR D x=insR (D.take (k-1)) x++D.drop (k-1):=by
 obtain ⟨j,rfl⟩:∃ j,k=j+1:=⟨k-1,by omega⟩
 replace hy:D[j]? = some y:=hy
 obtain ⟨h1,h2⟩:=List.getElem?_eq_some_iff.1 hy
 rw [Nat.add_sub_cancel]
 rw [h,List.take_succ_eq_append_getElem h1,h2,insR_less hl,List.append_assoc,List.drop_eq_getElem_cons h1,h2]
 rfl
theorem ins_end {D:List ByteArray} {x:ByteArray} {k:Nat} (h:insR D x=insR (D.take k) x++D.drop k) (hl:k=0∨∃ y,0<k∧D[k-1]? = some y∧Op.bytesLess x.toList y.toList=false):insR D x=(([]++D.take k)++[x])++D.drop k:=by
 rcases hl with rfl | ⟨y,hk,hy,hb⟩
 ·rw [h];rfl
 ·obtain ⟨j,rfl⟩:∃ j,k=j+1:=⟨k-1,by omega⟩
  replace hy:D[j]? = some y:=hy
  obtain ⟨h1,h2⟩:=List.getElem?_eq_some_iff.1 hy
  rw [h,List.take_succ_eq_append_getElem h1,h2,insR_no hb,List.nil_append]
def PcT (w:World) (L:List ByteArray) (u:Value):Prop:=∃ A c,u=.slice A L.length c∧(0<L.length→∃ g o cur,A=some ⟨g,o,none⟩∧w.heap[g]? = some (.cells cur 9 (0,0))∧∀ j s,L[j]? = some s→cur[o+j]? = some (.string s))
def slD (A:Option Addr) (c n k:Nat):Value:=.slice (if c=k then A else A.map (·.add k)) (n-k) (c-k)
theorem row_str {w:World} {D:List ByteArray} {A:Option Addr} {c:Nat} (h:w.ownsRow 0 9 1 (.slice A D.length c) D.length (strV D)):D.length≤c∧(0<D.length→∃ g cur,A=some ⟨g,0,none⟩∧w.heap[g]? = some (.cells cur 9 (0,0))∧∀ j s,D[j]? = some s→cur[0+j]? = some (.string s)):=by
 obtain ⟨A',c',e,h1,h2,h3⟩:=row_slice h
 injection e with q1 q2 q3
 subst q1 q3
 refine ⟨h1,fun h0=>?_⟩
 obtain ⟨g,cur,e2,hg,ht⟩:=h3 h0
 refine ⟨g,cur,e2,hg,fun j s hj=>?_⟩
 have h5:(strV D)[j]? = some (.string s):=by unfold strV;rw [List.getElem?_map,hj];rfl
 rw [←ht,List.getElem?_take] at h5
 split at h5
 ·rw [Nat.zero_add,←Array.getElem?_toList];exact h5
 ·cases h5
theorem pc_take {w:World} {D:List ByteArray} {A:Option Addr} {c k:Nat} (h:w.ownsRow 0 9 1 (.slice A D.length c) D.length (strV D)) (hk:k≤D.length):PcT w (D.take k) (.slice A k c):=by
 obtain ⟨h1,h2⟩:=row_str h
 refine ⟨A,c,by rw [List.length_take,Nat.min_eq_left hk],fun h0=>?_⟩
 rw [List.length_take] at h0
 obtain ⟨g,cur,e,hg,hc⟩:=h2 (by omega)
 refine ⟨g,0,cur,e,hg,fun j s hj=>hc j s ?_⟩
 rw [List.getElem?_take] at hj
 split at hj
 ·exact hj
 ·cases hj
theorem pc_drop {w:World} {D:List ByteArray} {A:Option Addr} {c k:Nat} (h:w.ownsRow 0 9 1 (.slice A D.length c) D.length (strV D)) (hk:k≤D.length):PcT w (D.drop k) (slD A c D.length k):=by
 obtain ⟨h1,h2⟩:=row_str h
 refine ⟨_,c-k,by unfold slD;rw [List.length_drop],fun h0=>?_⟩
 rw [List.length_drop] at h0
 obtain ⟨g,cur,rfl,hg,hc⟩:=h2 (by omega)
 refine ⟨g,k,cur,?_,hg,fun j s hj=>?_⟩
 ·rw [if_neg (by omega)];simp [zoa]
 ·rw [List.getElem?_drop] at hj
  have:=hc (k+j) s hj
  rwa [Nat.zero_add] at this
theorem pc_lit {w:World} {x:ByteArray} {u:Value} (h:(slcR 9 1 #[.string x] u).F w):PcT w [x] u:=by
 obtain ⟨g,e,hg⟩:=h
 refine ⟨_,1,e,fun _=>⟨g,0,_,rfl,hg,fun j s hj=>?_⟩⟩
 match j,hj with
 | 0,hj=>cases hj;rfl
section
variable {G:Option Nat} {w0 w w':World} {R:List (Nat×Res)} {v u:Value} {i k:Nat} {a:Act} {o:Oper} {A:Option Addr} {n c:Nat}
theorem run_row0 (M:Mx G w0 w R) (i:Nat) (ho:o.op=.buildSlice 45 0 #[]):∃ v w',(execOp a.eval o).run Tryz.prog w=.ok (.value v) w'∧Mx G w0 w' ((i,rowR 9 1 ([]:List ByteArray).length (strV []) v)::R):=by
 refine ⟨.slice (some ⟨w.heap.size,0,none⟩) 0 0,w.alloc (.cells #[] 9),?_,M.fresh (zqa w _) i _ ⟨rfl,.inr ⟨w.heap.size,0,#[],rfl,Nat.zero_le _,heap_alloc_new w _,Nat.le_refl _,Nat.zero_le _,rfl,rfl⟩⟩ row_dep fun b hb=>?_⟩
 ·unfold execOp
  simp only [ho,List.map_toArray,List.map_nil]
  kernel_rfl
 ·obtain rfl:w.heap.size=b:=by simpa [rowR,ofp,Value.ownBlock] using hb
  exact ⟨Nat.le_refl _,by simp⟩
theorem Mx.sub_self (M:Mx G w0 w R) {r:Res} (h:look R k=some r):Mx G w0 w ((k,r)::R):=M.drop fun i s e=>by
 rw [zz] at e
 split at e
 ·rename_i q;cases e;subst q;exact h
 ·exact e
theorem run_appP (M:Mx G w0 w R) {D L:List ByteArray} (hk:look R k=some (rowR 9 1 D.length (strV D) v)) (hu:PcT w L u) (hn:D.length+L.length≤100) (s x:Operand) (ho:o.op=.call { callee:=.builtin .append,args:=#[s,x],argTypes:=#[45,45] }) (hs:a.eval s=v) (hx:a.eval x=u):
  ∃ v' w',(execOp a.eval o).run Tryz.prog w=.ok (.value v') w'∧Mx G w0 w' ((k,rowR 9 1 (D++L).length (strV (D++L)) v')::R):=by
 have hown:w.ownsRow 0 9 1 v D.length (strV D):=M.at_ k _ hk
 obtain ⟨A,c,rfl,hA⟩:=hu
 obtain ⟨i,hi⟩:∃ i,Tryz.prog.info? 9=some i:=by
  have:(Tryz.prog.info? 9).isSome=true:=by kernel_rfl
  exact Option.isSome_iff_exists.1 this
 have hinf:(Tryz.prog.info? 9).map (fun i=>(i.size,i.bytes,i.zero.map (·.cells.size)))=some (1,16,some 1):=by kernel_rfl
 rw [hi] at hinf
 have hinf:(i.size,i.bytes,i.zero.map (·.cells.size))=(1,16,some 1):=Option.some.inj hinf
 obtain ⟨z,hz,hzs⟩:∃ z,i.zero=some z∧z.cells.size=1:=by
  cases hq:i.zero with
  | none=>rw [hq] at hinf;exact absurd (congrArg (fun x=>x.2.2) hinf) (by simp)
  | some z=>rw [hq] at hinf;exact ⟨z,rfl,Option.some.inj (congrArg (fun x=>x.2.2) hinf)⟩
 have hsize:i.size=1:=by injection hinf
 have hbytes:i.bytes=16:=by injection hinf with _ h;injection h
 have hT:Tryz.prog.underlying 45=some (.slice 9):=Tryz.underlying45
 have fin:∀ v' w',(Builtin.append_ #[45,45] o.type #[v,.slice A L.length c]).run Tryz.prog w=.ok v' w'→(execOp a.eval o).run Tryz.prog w=.ok (.value v') w':=fun v' w' h=>by
  unfold execOp
  simp only [ho,resolve,invoke,builtin,Sem.run_bind,Sem.run_pure,Result.andThen_ok,List.map_toArray,List.map_cons,List.map_nil,hs,hx,h]
 by_cases h0:L=[]
 ·subst h0
  obtain ⟨A2,c2,rfl,h1,-,-⟩:=row_slice hown
  have hsrc:Go.Src Tryz.prog i.size 45 (.slice A ([]:List ByteArray).length c) 0 [] w:=by
   cases A with
   | none=>exact Go.Src.ofNil w hT c
   | some ad=>exact Go.Src.ofSlice w hT ad 0 c [] (by simp) (fun j u h=>by cases h) (fun u h=>by cases h)
  refine ⟨_,w,fin _ _ (run_append_nothing w _ _ _ _ i hT hi A2 D.length c2 h1 _ hsrc),?_⟩
  rw [List.append_nil]
  exact M.sub_self (k:=k) hk
 ·have hl:0<L.length:=List.length_pos_iff.2 h0
  obtain ⟨g,q,cur,rfl,hg,hc⟩:=hA hl
  obtain ⟨g',cap,w',q1,q2,q3,q4,q5⟩:=run_append_lies (P:=Tryz.prog) w 45 o.type 0 9 i z 1 16 hT hi hz hsize hbytes hzs (by decide) v D.length (strV D) hown ⟨g,q,none⟩ L.length c (strV L) (by unfold strV;simp) (fun j u hj=>by
   have hu2:∃ s,L[j]? = some s∧u=.string s:=by
    unfold strV at hj
    rw [List.getElem?_map] at hj
    cases hs2:L[j]? with
    | none=>rw [hs2] at hj;cases hj
    | some s=>rw [hs2] at hj;cases hj;exact ⟨s,rfl,rfl⟩
   obtain ⟨s,hs2,rfl⟩:=hu2
   rw [zoa]
   exact y_cell hg (hc j s hs2)) (fun u hu=>by
   unfold strV at hu
   obtain ⟨s,-,rfl⟩:=List.mem_map.1 hu
   rfl) hl (by unfold maxLen;omega) (by omega) (Nat.zero_le _) _ rfl
  refine ⟨_,w',fin _ _ q1,M.write hk rfl q3 (fun _ e=>e) _ (by
   rw [List.length_append]
   have:strV (D++L)=strV D++strV L:=by unfold strV;rw [List.map_append]
   rw [this];exact q2) row_dep fun b hb=>?_⟩
  obtain rfl:g'=b:=by simpa [rowR,ofp,Value.ownBlock] using hb
  exact ⟨q5,q4.imp id fun e=>by rw [e];exact Nat.le_refl _⟩
theorem str_size (w:World):(sizeOf 9).run Tryz.prog w=.ok 1 w:=size_of_info (by kernel_rfl) w
theorem str_under:Tryz.prog.underlying 45=some (.slice (Tryz.prog.elem 45)):=by
 rw [show Tryz.prog.elem 45=9 by kernel_rfl];exact Tryz.underlying45
theorem y_slS1 (x y:Operand) (ho:o.op=.slice 45 x none (some y) none) (hx:a.eval x=.slice A n c) {z:Int} {j:Nat} (hy:a.eval y=zI z) (hz:z=(j:Int)) (hc:j≤c):(execOp a.eval o).run Tryz.prog w=.ok (.value (.slice A j c)) w:=by
 subst hz
 have e1:Tryz.prog.elem 45=9:=by kernel_rfl
 unfold execOp
 simp only [ho,hx]
 simp only [Option.map_some,Option.map_none,hy]
 rw [Sem.run_bind,run_sliceAt_slice _ _ _ _ _ _ str_under,run_slice_h _ _ _ _ _ str_under .i64 j (by omega) (by omega),e1,str_size]
 simp only [Result.andThen_ok,sliced,Int.toNat_natCast,Nat.mul_one,Sem.run_pure,Nat.sub_zero,map_add0,ite_self]
theorem y_slS2 (x y:Operand) (ho:o.op=.slice 45 x (some y) none none) (hx:a.eval x=.slice A n c) {z:Int} {j:Nat} (hy:a.eval y=zI z) (hz:z=(j:Int)) (hc:j≤n):(execOp a.eval o).run Tryz.prog w=.ok (.value (slD A c n j)) w:=by
 subst hz
 have e1:Tryz.prog.elem 45=9:=by kernel_rfl
 unfold execOp
 simp only [ho,hx]
 simp only [Option.map_some,Option.map_none,hy]
 rw [Sem.run_bind,run_sliceAt_slice _ _ _ _ _ _ str_under,run_slice_l _ _ _ _ _ str_under .i64 j (by omega) (by omega),e1,str_size]
 simp only [Result.andThen_ok,sliced,Int.toNat_natCast,Nat.mul_one,Sem.run_pure,slD]
theorem y_ldRs (M:Mx G w0 w R) {D:List ByteArray} (hk:look R k=some (rowR 9 1 D.length (strV D) (.slice A D.length c))) (x:Operand) (ho:o.op=.load 9 x) {j:Nat} {s:ByteArray} (hx:a.eval x=ixG (.slice A D.length c) (j*1)) (hs:D[j]? = some s):(execOp a.eval o).run Tryz.prog w=.ok (.value (.string s)) w:=by
 obtain ⟨g,cur,rfl,hg,hc⟩:=(row_str (M.rowF hk)).2 (by have:=(List.getElem?_eq_some_iff.1 hs).1;omega)
 exact zha _ _ ho (show a.eval x=(zP g j) from hx.trans (by simp [ixG,zoa])) hg (by have:=hc j s hs;rwa [Nat.zero_add] at this) Tryz.underlying9 rfl
theorem look_filt {q:Nat}:∀ (R:List (Nat×Res)) (i:Nat),look (R.filter fun p=>p.1 != q) i=if i=q then none else look R i
 | [],i=>by split <;> rfl
 | p::R,i=>by
  obtain ⟨j,r⟩:=p
  have ih:=look_filt (q:=q) R i
  rw [List.filter_cons]
  by_cases h:j=q
  ·subst h
   rw [if_neg (by simp),ih,zz]
   by_cases e:i=j
   ·rw [if_pos e,if_pos e]
   ·rw [if_neg e,if_neg e,if_neg (fun h=>e h.symm)]
  ·rw [if_pos (by simpa using h),zz,zz,ih]
   by_cases e:j=i
   ·subst e;rw [if_pos rfl,if_neg h,if_pos rfl]
   ·rw [if_neg e,if_neg e]
theorem Mx.moved (M:Mx G w0 w R) {q row:Nat} {r:Res} (h:look R q=some r) (hne:q≠row):Mx G w0 w ((row,r)::R.filter fun p=>p.1 != q):=by
 refine M.ren (fun i=>if i=row then q else i) (fun i s e=>?_) (fun i j s t e1 e2 hij=>?_)
 ·rw [zz] at e
  by_cases hi:row=i
  ·subst hi;rw [if_pos rfl] at e ⊢;cases e;exact h
  ·rw [if_neg hi,look_filt] at e
   split at e
   ·cases e
   ·rw [if_neg (fun h=>hi h.symm)];exact e
 ·have key:∀ j t,look ((row,r)::R.filter fun p=>p.1 != q) j=some t→j≠row→j≠q:=fun j t e hj hq=>by
   rw [zz,if_neg (fun h=>hj h.symm),look_filt,if_pos hq] at e
   cases e
  by_cases hi:i=row
  ·subst hi
   rw [if_pos rfl,if_neg (fun h=>hij h.symm)]
   exact fun e=>key j t e2 (fun h=>hij h.symm) e.symm
  ·rw [if_neg hi]
   by_cases hj:j=row
   ·rw [if_pos hj];exact key i s e1 hi
   ·rw [if_neg hj];exact hij
end
theorem zwc {R:List (Nat×Res)} {i:Nat} {c:Bool} {r s:Res} (hc:c=true) (h:look R i=some r):look R i=some (zaa c r s):=by subst hc;exact h
theorem names_row {w0 w:World} {R:List (Nat×Res)} (M:Mx none w0 w R) {k:Nat} {D:List ByteArray} {A:Option Addr} {c:Nat} (hk:look R k=some (rowR 9 1 D.length (strV D) (.slice A D.length c))) (h0:0<D.length):∃ gr E,A=some ⟨gr,0,none⟩∧w0.heap.size≤gr∧w.heap[gr]? = some (.cells (rowA D E) 9 (0,0)):=by
 obtain ⟨gr,c',E,e,M2⟩:=M.rowBlk hk h0 rfl
 injection e with q1 q2 q3
 subst q1
 have hl:look ((k,blkR gr 9 (rowA D E))::R) k=some (blkR gr 9 (rowA D E)):=by rw [zz,if_pos rfl]
 exact ⟨gr,E,rfl,(M2.own k _ hl rfl gr rfl).resolve_right (fun e=>by cases e),M2.blk hl⟩
end
theorem rnames_any {K:Nat} (gx gc:Nat) (V:VltN) (L:Int) (s n:Nat→Value) (hi:InvV K V) (L8:List ByteArray) (hM:srtL (namL V 8)=L8) (w:World) (h:HasX w gx gc V L s n):
  Calls Tryz.prog 43 #[(zO gx)] w fun e w'=>∃ v,e=.returned v∧TxtAt w' w.heap.size L8 v∧Below w.heap.size w w':=by
 refine zk (args:=[(zO gx)]) 59 Tryz.func43 rfl rfl rfl ?_
 intro fa F
 have M:=Mx.start w
 replace M:=M.argO 0 h.hx (fun b e=>by cases e)
 replace M:=M.argO 1 h.hc (fun b e=>by cases e)
 refine zT fun _ hK1=>rm rfl F fun _ F2=>hK1 _ _ (zT fun _ hK3=>rm rfl F2 fun _ F4=>hK3 _ _ (zSk fun _ hK5=>zT fun _ hK6=>rm rfl F4 fun _ F7=>hK6 _ _ (wp_block ?_)))
 have M8:=M.nilRow 2 9 1
 refine zob (α:=Nat×List ByteArray×Value) (n:=59) (G:=none) (w0:=w) (fun x=>[(0,(zO gx)),(4,zI (x.1:Int)),(3,x.2.2)]) (fun x=>[(2,rowR 9 1 x.2.1.length (strV x.2.1) x.2.2),(0,blkO gx 72 (#[.slice (some ⟨gc,0,none⟩) 18 18,zI L,.bool V.dd])),(1,blkO gc 63 (celA V.c s n))]) (fun k x=>k=(8-x.1)∧(x.1≤8∧srtL (namL V x.1)=x.2.1)) _ ⟨0,[],(zN)⟩ ⟨rfl,⟨Nat.zero_le _,rfl⟩⟩ (F7.sb) (M8.sb) ?_
 rintro k9 ⟨jn,D,v3⟩ a9 w9 K9 ⟨ek9,I9⟩ F9 M9 hK9
 replace F9:Fx 59 a9 [(0,(zO gx)),(4,zI (jn:Int)),(3,v3)]:=F9
 replace M9:Mx _ _ w9 [(2,rowR 9 1 D.length (strV D) v3),(0,blkO gx 72 (#[.slice (some ⟨gc,0,none⟩) 18 18,zI L,.bool V.dd])),(1,blkO gc 63 (celA V.c s n))]:=M9
 replace I9:jn≤8∧srtL (namL V jn)=D:=I9
 replace ek9:k9=(8-jn):=ek9
 obtain ⟨hj,hD⟩:=I9
 obtain ⟨A3,c3,e3,hdc,-⟩:=row_slice (M9.rowF (k:=2) rfl)
 subst e3
 have hD8:D.length≤8:=by rw [←hD,srtL_len];exact Nat.le_trans (namL_len V jn) hj
 by_cases h8:jn<8
 ·obtain ⟨ca,ct,cl,hC⟩:∃ a t l,cntR V (2*jn) 2=(a,t,l):=⟨_,_,_,rfl⟩
  have hcl:=cnt_short hi (by omega) hC
  obtain ⟨qR,hR⟩:∃ x,rdOk cl=x:=⟨_,rfl⟩
  obtain ⟨rr,hrr⟩:∃ x,rdR cl=x:=⟨_,rfl⟩
  obtain ⟨hn1,hn2⟩:=nam_cnt hC
  rw [hR] at hn1 hn2
  rw [hrr] at hn2
  refine zSk fun _ hK10=>zT fun _ hK11=>rm rfl F9 fun _ F12=>zc (w':=w9) rfl rfl F12 rfl (.bool true) (zna _ _ _ _ rfl (F12 11 rfl) rfl (decide_eq_true (show (jn:Int)<8 by omega))) fun _ F13=>?_
  refine hK11 _ _ (wp_cond_true (F13 12 rfl) (wp_skip (hK10 _ _ (zSk fun _ hK14=>wp_block (zT fun _ hK15=>rm rfl F13 fun _ F16=>rm rfl F16 fun _ F17=>zh rfl rfl F17 rfl rfl (zE Tryz.func62 rfl) #[(zO gx),zI (jn:Int)] (zea (F17 16 rfl) (F17 17 rfl)) (rcounts_is gx gc V L s n hi jn (by omega) hC w9 (h.step M9.below)) ?_)))))
  rintro _ w18 a18 ⟨S18,rfl,hS18,b18⟩ F18
  have M18:=M9.step b18
  have lS18:=hS18.step b18
  refine zB 7 [(0,(zO gx)),(4,zI (jn:Int)),(3,.slice A3 D.length c3),(7,S18)] [] dnil [] F18 fun _ F19=>?_
  refine hK15 _ _ (zT fun _ hK20=>rm rfl F19 fun _ F21=>zh rfl rfl F21 rfl rfl (zE Tryz.func63 rfl) #[S18] (zca (F21 23 rfl)) (rrd6_is cl (S18) hcl qR rr hR hrr w18 lS18) ?_)
  rintro _ w22 a22 ⟨V22,rfl,is22,lo22,b22⟩ F22
  have M22:=M18.newRec b22 is22 lo22 3 4
  clear M18 b22 lo22
  refine zB 3 [(0,(zO gx)),(4,zI (jn:Int)),(3,.slice A3 D.length c3),(25,.agg (recA rr V22)),(26,.bool qR)] [] dnil [] F22 fun _ F23=>?_
  refine zq rfl rfl F23 rfl M22 5 (t:=37) (c:=recA ⟨0, "".toUTF8,[],0,0,[],0,0,0⟩ ⟨zN,zN⟩) (by unfold execOp;kernel_rfl) ?_
  intro g24 a24 w24 F24 M24
  refine zt rfl rfl F24 M24 (k:=5) rfl _ _ _ rfl (F24 8 rfl) (F24 25 rfl) (recA rr V22) _ rfl (zL rfl) (z3a (w:=w24) ⟨(M24.isb (k:=3) rfl),(M24.isb (k:=4) rfl)⟩) (zfa rfl) (by kernel_rfl) ?_
  intro w25 M25
  refine rm rfl F24 fun _ F26=>hK20 _ _ (zSk fun _ hK27=>zT fun _ hK28=>rm rfl F26 fun _ F29=>?_)
  cases qR
  ·refine zc (w':=w25) rfl rfl F29 rfl (.bool true) (zjb _ _ rfl (F29 27 rfl)) fun _ F30=>?_
   refine hK28 _ _ (wp_cond_true (F30 28 rfl) (wp_exit ?_))
   simp only [Exit.then,Exit.inBlock,↓reduceIte,Nat.reduceEqDiff]
   refine hK14 _ _ (zR (rm rfl F30 fun _ F31=>zc (w':=w25) rfl rfl F31 rfl (zI ((jn+1:Nat):Int)) (zsa _ _ _ _ rfl (F31 13 rfl) rfl (by omega) (by omega)) fun _ F32=>?_))
   refine rm rfl F32 fun _ F33=>?_
   subst ek9
   exact hK9 _ ⟨(jn+1),D,(.slice A3 D.length c3)⟩ _ _ (by dsimp only;omega) ⟨rfl,⟨by (dsimp only;omega),by (dsimp only;rw [namL_no hn1];exact hD)⟩⟩ (F33.sb) (M25.sb)
  ·refine zc (w':=w25) rfl rfl F29 rfl (.bool false) (zjb _ _ rfl (F29 27 rfl)) fun _ F34=>?_
   refine hK28 _ _ (wp_cond_false (F34 28 rfl) (wp_skip (hK27 _ _ (zT fun _ hK35=>rm rfl F34 fun _ F36=>zc (w':=w25) rfl rfl F36 rfl (zI (D.length:Int)) (y_lnG 45 Tryz.underlying45 _ rfl (F36 29 rfl) rfl) fun _ F37=>?_))))
   refine rm rfl F37 fun _ F38=>hK35 _ _ (zSk fun _ hK39=>wp_block ?_)
   refine zob (α:=Nat) (n:=59) (G:=none) (w0:=w) (fun x=>[(0,(zO gx)),(4,zI (jn:Int)),(3,.slice A3 D.length c3),(8,(zO g24)),(10,zI (x:Int))]) (fun x=>[(2,rowR 9 1 D.length (strV D) (.slice A3 D.length c3)),(0,blkO gx 72 (#[.slice (some ⟨gc,0,none⟩) 18 18,zI L,.bool V.dd])),(1,blkO gc 63 (celA V.c s n)),(3,bytR rr.l2 V22.v2),(4,bytR rr.l5 V22.v5),(5,blkR g24 37 (recA rr V22))]) (fun k x=>k=(x+1)∧(x≤D.length∧insR D rr.s=insR (D.take x) rr.s++D.drop x)) _ D.length ⟨rfl,⟨Nat.le_refl _,by rw [List.take_length,List.drop_length,List.append_nil]⟩⟩ (F38.sb) (M25.sb) ?_
   rintro k40 kk a40 w40 K40 ⟨ek40,I40⟩ F40 M40 hK40
   replace F40:Fx 59 a40 [(0,(zO gx)),(4,zI (jn:Int)),(3,.slice A3 D.length c3),(8,(zO g24)),(10,zI (kk:Int))]:=F40
   replace M40:Mx _ _ w40 [(2,rowR 9 1 D.length (strV D) (.slice A3 D.length c3)),(0,blkO gx 72 (#[.slice (some ⟨gc,0,none⟩) 18 18,zI L,.bool V.dd])),(1,blkO gc 63 (celA V.c s n)),(3,bytR rr.l2 V22.v2),(4,bytR rr.l5 V22.v5),(5,blkR g24 37 (recA rr V22))]:=M40
   replace I40:kk≤D.length∧insR D rr.s=insR (D.take kk) rr.s++D.drop kk:=I40
   replace ek40:k40=(kk+1):=ek40
   obtain ⟨hkD,hin⟩:=I40
   refine zSk fun _ hK41=>zSk fun _ hK42=>?_
   by_cases h43:0<(kk:Int)
   ·have hkd:kk-1<D.length:=by omega
    obtain ⟨yt,hyt⟩:∃ y,D[kk-1]? = some y:=⟨_,List.getElem?_eq_getElem hkd⟩
    obtain ⟨bl,hbl⟩:∃ b,Op.bytesLess rr.s.toList yt.toList=b:=⟨_,rfl⟩
    have hD44:=(zx (M40.blk (k:=5) rfl) dnil)
    refine z5a F40 (SK [.inl (zI (kk:Int)),.inl (.bool true),.inl (.bool true),.inl (zP g24 1),.inl (.string rr.s),.inl (.slice A3 D.length c3),.inl (zI (kk:Int)),.inl (zI ((kk-1:Nat):Int)),.inl ((ixG (.slice A3 D.length c3) ((kk-1)*1))),.inl (.string yt),.inl (.bool bl),.inl (.bool bl)]) 12 rfl (by kernel_rfl) ⟨hop0 F40,hopR F40 [(31,zI (kk:Int))] (v:=.bool true) fun ua uw hb ⟨e31,_⟩=>(z2b _ _ _ _ rfl e31 rfl (decide_eq_true h43)),hop0 F40,hop0 F40,hopP F40 hD44 0 (some g24),hop0 F40,hop0 F40,hopR F40 [(37,zI (kk:Int))] (v:=zI ((kk-1:Nat):Int)) fun ua uw hb ⟨e37,_⟩=>(z3c _ _ _ _ rfl e37 rfl (by omega) (by omega)),hopR F40 [(36,.slice A3 D.length c3),(38,zI ((kk-1:Nat):Int))] fun ua uw hb ⟨e36,e38,_⟩=>(y_ixR (M40.step hb) (k:=2) rfl 45 Tryz.underlying45 (by kernel_rfl) _ _ rfl e36 e38 rfl hkd),hopR F40 [(39,(ixG (.slice A3 D.length c3) ((kk-1)*1)))] fun ua uw hb ⟨e39,_⟩=>(y_ldRs (M40.step hb) (k:=2) rfl _ rfl e39 hyt),hopR F40 [(35,.string rr.s),(40,.string yt)] (v:=.bool bl) fun ua uw hb ⟨e35,e40,_⟩=>(y_lssS _ _ rfl e35 e40 hbl),hop0 F40,trivial⟩ ?_
    intro p45 a45 w45 b45 G45 y45
    obtain ⟨-,-,-,-,-,-,-,-,-,-,-,q11,-⟩:=y45
    have r11:p45 11=.bool bl:=q11 (by decide)
    simp only [List.take,layV,Nat.zero_add,Nat.reduceAdd,r11] at G45
    have M45:=M40.kc b45
    clear F40 M40 r11 q11
    refine hK42 _ _ ?_
    cases bl
    ·refine wp_cond_false (G45 42 rfl) (wp_exit ?_)
     simp only [Exit.then,Exit.inBlock,↓reduceIte,Nat.reduceEqDiff]
     refine hK39 _ _ ?_
     have hlast:kk=0∨∃ y,0<kk∧D[kk-1]? = some y∧Op.bytesLess rr.s.toList y.toList=false:=.inr ⟨yt,by omega,hyt,hbl⟩
     refine zpa G45 [fun _=>True,fun vE=>vE=.slice A3 D.length c3,fun vE=>vE=zI (kk:Int),fun vE=>vE=(.slice A3 kk c3),fun _=>True,fun vE=>vE=(zP g24 1),fun vE=>vE=.string rr.s,fun _=>True,fun _=>True,fun vE=>vE=.slice A3 D.length c3,fun vE=>vE=zI (kk:Int),fun vE=>vE=(slD A3 c3 D.length kk),fun _=>True] (JQ none w (fun SV=>SV 8=true→SV 4=true) (fun (xJ:Unit) SV pV=>[(2,rowR 9 1 D.length (strV D) (.slice A3 D.length c3)),(0,blkO gx 72 (#[.slice (some ⟨gc,0,none⟩) 18 18,zI L,.bool V.dd])),(1,blkO gc 63 (celA V.c s n)),(3,bytR rr.l2 V22.v2),(4,bytR rr.l5 V22.v5),(5,blkR g24 37 (recA rr V22)),(6,zaa (SV 4) (zaa (SV 8) (zaa (SV 12) (rowR 9 1 ((([]++D.take kk)++[rr.s])++D.drop kk).length (strV ((([]++D.take kk)++[rr.s])++D.drop kk)) (pV 12)) (rowR 9 1 (([]++D.take kk)++[rr.s]).length (strV (([]++D.take kk)++[rr.s])) (pV 8))) (rowR 9 1 ([]++D.take kk).length (strV ([]++D.take kk)) (pV 4))) (z6a (SV 0) (rowR 9 1 ([]:List ByteArray).length (strV ([]:List ByteArray)) (pV 0)))),(7,z6a (SV 7) (slcR 9 1 #[.string rr.s] (pV 7)))])) 13 rfl (by kernel_rfl) rfl ⟨trivial,trivial,trivial,trivial,trivial,trivial,trivial,trivial,trivial,trivial,trivial,trivial,trivial,trivial⟩ (fun p=>JQ.mk (fun h=>absurd h (by decide)) () ((((M45.step (zma _)).triv 6).triv 7).sub ⟨rfl,rfl,rfl,rfl,rfl,rfl,rfl,rfl,trivial⟩)) ⟨?_,?_,?_,?_,?_,?_,?_,?_,?_,?_,?_,?_,?_,trivial⟩ ?_
     ·intro ua uw SV pV M0 hk hn hd
      obtain ⟨HP,xJ,M⟩:=M0
      replace M:Mx none w uw _:=M
      exact z5b rfl (run_row0 M 6 rfl) fun v w2 h2=>⟨trivial,(JQ.mk HP () (h2.sub ⟨rfl,rfl,rfl,rfl,rfl,rfl,(z1b (hn 4 (by kernel_rfl)) rfl),rfl,trivial⟩))⟩
     ·intro ua uw SV pV M0 hk hn hd
      obtain ⟨HP,xJ,M⟩:=M0
      replace M:Mx none w uw _:=M
      have e3:ua.eval (.tmp 3)=.slice A3 D.length c3:=(show ua.eval (.tmp 3)=_ from hd 3 (by decide)).trans (G45 3 rfl)
      exact ze rfl (.slice A3 D.length c3) (zga _ (.inl rfl) e3) rfl ((JQ.mk HP () (M.sb)))
     ·intro ua uw SV pV M0 hk hn hd
      obtain ⟨HP,xJ,M⟩:=M0
      replace M:Mx none w uw _:=M
      have e10:ua.eval (.tmp 10)=zI (kk:Int):=(show ua.eval (.tmp 10)=_ from hd 10 (by decide)).trans (G45 10 rfl)
      exact ze rfl (zI (kk:Int)) (zga _ (.inl rfl) e10) rfl ((JQ.mk HP () (M.sb)))
     ·intro ua uw SV pV M0 hk hn hd
      obtain ⟨HP,xJ,M⟩:=M0
      replace M:Mx none w uw _:=M
      have e46:ua.eval (.tmp 46)=.slice A3 D.length c3:=zQ1 (hd 46 (by decide))
      have e47:ua.eval (.tmp 47)=zI (kk:Int):=zQ1 (hd 47 (by decide))
      exact ze rfl ((.slice A3 kk c3)) (y_slS1 _ _ rfl e46 e47 rfl (Nat.le_trans hkD hdc)) rfl ((JQ.mk HP () (M.sb)))
     ·intro ua uw SV pV M0 hk hn hd
      obtain ⟨HP,xJ,M⟩:=M0
      replace M:Mx none w uw _:=M
      obtain ⟨s0,f45,q45⟩:=(show SV 0=true∧ua.eval (.tmp 45)=pV 0∧stE _ 0 (pV 0) from hd 45 (by decide))
      have e45:ua.eval (.tmp 45)=(pV 0):=f45
      have e48:ua.eval (.tmp 48)=(.slice A3 kk c3):=zQ1 (hd 48 (by decide))
      exact z5b rfl (run_appP M (k:=6) (D:=([]:List ByteArray)) (L:=(D.take kk)) (zya s0 (zu hk rfl)) (pc_take (M.rowF (k:=2) rfl) hkD) (by simp only [List.length_append,List.length_nil,List.length_take,List.length_cons,List.length_drop];omega) _ _ rfl e45 e48) fun v w2 h2=>⟨trivial,(JQ.mk (fun _=>rfl) () (h2.sub ⟨rfl,rfl,rfl,rfl,rfl,rfl,(z1b (hn 8 (by kernel_rfl)) rfl),rfl,trivial⟩))⟩
     ·intro ua uw SV pV M0 hk hn hd
      obtain ⟨HP,xJ,M⟩:=M0
      replace M:Mx none w uw _:=M
      have e8:ua.eval (.tmp 8)=(zO g24):=(show ua.eval (.tmp 8)=_ from hd 8 (by decide)).trans (G45 8 rfl)
      exact ze rfl (zP g24 1) (y_fa (off:=1) rfl e8 (by kernel_rfl) rfl) rfl ((JQ.mk HP () (M.sb)))
     ·intro ua uw SV pV M0 hk hn hd
      obtain ⟨HP,xJ,M⟩:=M0
      replace M:Mx none w uw _:=M
      have e50:ua.eval (.tmp 50)=(zP g24 1):=zQ1 (hd 50 (by decide))
      exact ze rfl (.string rr.s) (zha _ _ rfl e50 (M.blk (k:=5) rfl) rfl Tryz.underlying9 rfl) rfl ((JQ.mk HP () (M.sb)))
     ·intro ua uw SV pV M0 hk hn hd
      obtain ⟨HP,xJ,M⟩:=M0
      replace M:Mx none w uw _:=M
      have e51:ua.eval (.tmp 51)=.string rr.s:=zQ1 (hd 51 (by decide))
      exact ze rfl _ (y_litG 45 9 (s:=1) (zv:=.string "".toUTF8) Tryz.underlying45 (by kernel_rfl) (by kernel_rfl) rfl (#[.string rr.s]) (by decide) (by decide) (by simp only [List.map_toArray,List.map_cons,List.map_nil,e51];kernel_rfl)) trivial ((JQ.mk HP () ((M.allocS 7 9 1 (#[.string rr.s])).sub ⟨rfl,rfl,rfl,rfl,rfl,rfl,rfl,rfl,trivial⟩)))
     ·intro ua uw SV pV M0 hk hn hd
      obtain ⟨HP,xJ,M⟩:=M0
      replace M:Mx none w uw _:=M
      obtain ⟨s4,f49,q49⟩:=(show SV 4=true∧ua.eval (.tmp 49)=pV 4∧stE _ 4 (pV 4) from hd 49 (by decide))
      have e49:ua.eval (.tmp 49)=(pV 4):=f49
      obtain ⟨s7,f52,q52⟩:=(show SV 7=true∧ua.eval (.tmp 52)=pV 7∧stE _ 7 (pV 7) from hd 52 (by decide))
      have e52:ua.eval (.tmp 52)=(pV 7):=f52
      exact z5b rfl (run_appP M (k:=6) (D:=([]++D.take kk)) (L:=[rr.s]) (zu hk (zvb s4 rfl)) (pc_lit (M.at_ 7 _ (zya s7 rfl))) (by simp only [List.length_append,List.length_nil,List.length_take,List.length_cons,List.length_drop];omega) _ _ rfl e49 e52) fun v w2 h2=>⟨trivial,(JQ.mk (fun _=>s4) () (h2.sub ⟨rfl,rfl,rfl,rfl,rfl,rfl,(zwc s4 (zwc rfl (z1b (hn 12 (by kernel_rfl)) rfl))),rfl,trivial⟩))⟩
     ·intro ua uw SV pV M0 hk hn hd
      obtain ⟨HP,xJ,M⟩:=M0
      replace M:Mx none w uw _:=M
      have e3:ua.eval (.tmp 3)=.slice A3 D.length c3:=(show ua.eval (.tmp 3)=_ from hd 3 (by decide)).trans (G45 3 rfl)
      exact ze rfl (.slice A3 D.length c3) (zga _ (.inl rfl) e3) rfl ((JQ.mk HP () (M.sb)))
     ·intro ua uw SV pV M0 hk hn hd
      obtain ⟨HP,xJ,M⟩:=M0
      replace M:Mx none w uw _:=M
      have e10:ua.eval (.tmp 10)=zI (kk:Int):=(show ua.eval (.tmp 10)=_ from hd 10 (by decide)).trans (G45 10 rfl)
      exact ze rfl (zI (kk:Int)) (zga _ (.inl rfl) e10) rfl ((JQ.mk HP () (M.sb)))
     ·intro ua uw SV pV M0 hk hn hd
      obtain ⟨HP,xJ,M⟩:=M0
      replace M:Mx none w uw _:=M
      have e54:ua.eval (.tmp 54)=.slice A3 D.length c3:=zQ1 (hd 54 (by decide))
      have e55:ua.eval (.tmp 55)=zI (kk:Int):=zQ1 (hd 55 (by decide))
      exact ze rfl ((slD A3 c3 D.length kk)) (y_slS2 _ _ rfl e54 e55 rfl hkD) rfl ((JQ.mk HP () (M.sb)))
     ·intro ua uw SV pV M0 hk hn hd
      obtain ⟨HP,xJ,M⟩:=M0
      replace M:Mx none w uw _:=M
      obtain ⟨s8,f53,q53⟩:=(show SV 8=true∧ua.eval (.tmp 53)=pV 8∧stE _ 8 (pV 8) from hd 53 (by decide))
      have e53:ua.eval (.tmp 53)=(pV 8):=f53
      have e56:ua.eval (.tmp 56)=(slD A3 c3 D.length kk):=zQ1 (hd 56 (by decide))
      have s4:SV 4=true:=HP s8
      exact z5b rfl (run_appP M (k:=6) (D:=(([]++D.take kk)++[rr.s])) (L:=(D.drop kk)) (zu hk (zvb s8 (zvb s4 rfl))) (pc_drop (M.rowF (k:=2) rfl) hkD) (by simp only [List.length_append,List.length_nil,List.length_take,List.length_cons,List.length_drop];omega) _ _ rfl e53 e56) fun v w2 h2=>⟨trivial,(JQ.mk HP () (h2.sub ⟨rfl,rfl,rfl,rfl,rfl,rfl,(zwc s4 (zwc s8 rfl)),rfl,trivial⟩))⟩
     intro p46 a46 w46 M46 G46 y46
     obtain ⟨-,-,-,-,-,-,-,-,-,-,-,-,q12,-⟩:=y46
     obtain ⟨vq46,r12⟩:∃ v,p46 12=v:=⟨_,rfl⟩
     obtain ⟨-,xJ46,M46⟩:=M46
     replace M46:Mx _ _ w46 [(2,rowR 9 1 D.length (strV D) (.slice A3 D.length c3)),(0,blkO gx 72 (#[.slice (some ⟨gc,0,none⟩) 18 18,zI L,.bool V.dd])),(1,blkO gc 63 (celA V.c s n)),(3,bytR rr.l2 V22.v2),(4,bytR rr.l5 V22.v5),(5,blkR g24 37 (recA rr V22)),(6,zaa true (zaa true (zaa true (rowR 9 1 ((([]++D.take kk)++[rr.s])++D.drop kk).length (strV ((([]++D.take kk)++[rr.s])++D.drop kk)) (p46 12)) (rowR 9 1 (([]++D.take kk)++[rr.s]).length (strV (([]++D.take kk)++[rr.s])) (p46 8))) (rowR 9 1 ([]++D.take kk).length (strV ([]++D.take kk)) (p46 4))) (z6a true (rowR 9 1 ([]:List ByteArray).length (strV ([]:List ByteArray)) (p46 0)))),(7,z6a true (slcR 9 1 #[.string rr.s] (p46 7)))]:=M46
     simp only [List.take,layV,Nat.zero_add,Nat.reduceAdd,r12] at G46
     rw [r12] at M46
     refine rm rfl G46 fun _ F47=>hK14 _ _ (zR (rm rfl F47 fun _ F48=>zc (w':=w46) rfl rfl F48 rfl (zI ((jn+1:Nat):Int)) (zsa _ _ _ _ rfl (F48 13 rfl) rfl (by omega) (by omega)) fun _ F49=>?_))
     refine rm rfl F49 fun _ F50=>?_
     have M51:=M46.moved (q:=6) (row:=2) rfl (by decide)
     subst ek9
     exact hK9 _ ⟨(jn+1),((([]++D.take kk)++[rr.s])++D.drop kk),vq46⟩ _ _ (by dsimp only;omega) ⟨rfl,⟨by (dsimp only;omega),by (dsimp only;rw [namL_yes hn1 (hn2 rfl),srt_app,hD];exact ins_end hin hlast)⟩⟩ (F50.sb) (M51.sb)
    ·refine wp_cond_true (G45 42 rfl) (wp_skip (hK41 _ _ (wp_block (zR (rm rfl G45 fun _ F52=>zc (w':=w45) rfl rfl F52 rfl (zI ((kk-1:Nat):Int)) (z3c _ _ _ _ rfl (F52 43 rfl) rfl (by omega) (by omega)) fun _ F53=>?_)))))
     refine rm rfl F53 fun _ F54=>?_
     subst ek40
     exact hK40 _ (kk-1) _ _ (by omega) ⟨rfl,⟨by omega,ins_go (by omega) hyt hin hbl⟩⟩ (F54.sb) (M45.sb)
   ·refine z5a F40 (SK [.inl (zI (kk:Int)),.inl (.bool false),.inl (.bool false),.inl (undef),.inl (undef),.inl (undef),.inl (undef),.inl (undef),.inl (undef),.inl (undef),.inl (undef),.inl (.bool false)]) 12 rfl (by kernel_rfl) ⟨hop0 F40,hopR F40 [(31,zI (kk:Int))] (v:=.bool false) fun ua uw hb ⟨e31,_⟩=>(z2b _ _ _ _ rfl e31 rfl (decide_eq_false h43)),hop0 F40,hop0 F40,hop0 F40,hop0 F40,hop0 F40,hop0 F40,hop0 F40,hop0 F40,hop0 F40,hop0 F40,trivial⟩ ?_
    intro p56 a56 w56 b56 G56 y56
    obtain ⟨-,-,-,-,-,-,-,-,-,-,-,q11,-⟩:=y56
    have r11:p56 11=.bool false:=q11 (by decide)
    simp only [List.take,layV,Nat.zero_add,Nat.reduceAdd,r11] at G56
    have M56:=M40.kc b56
    clear F40 M40 r11 q11
    refine hK42 _ _ (wp_cond_false (G56 42 rfl) (wp_exit ?_))
    simp only [Exit.then,Exit.inBlock,↓reduceIte,Nat.reduceEqDiff]
    refine hK39 _ _ ?_
    have hlast:kk=0∨∃ y,0<kk∧D[kk-1]? = some y∧Op.bytesLess rr.s.toList y.toList=false:=.inl (by omega)
    refine zpa G56 [fun _=>True,fun vE=>vE=.slice A3 D.length c3,fun vE=>vE=zI (kk:Int),fun vE=>vE=(.slice A3 kk c3),fun _=>True,fun vE=>vE=(zP g24 1),fun vE=>vE=.string rr.s,fun _=>True,fun _=>True,fun vE=>vE=.slice A3 D.length c3,fun vE=>vE=zI (kk:Int),fun vE=>vE=(slD A3 c3 D.length kk),fun _=>True] (JQ none w (fun SV=>SV 8=true→SV 4=true) (fun (xJ:Unit) SV pV=>[(2,rowR 9 1 D.length (strV D) (.slice A3 D.length c3)),(0,blkO gx 72 (#[.slice (some ⟨gc,0,none⟩) 18 18,zI L,.bool V.dd])),(1,blkO gc 63 (celA V.c s n)),(3,bytR rr.l2 V22.v2),(4,bytR rr.l5 V22.v5),(5,blkR g24 37 (recA rr V22)),(6,zaa (SV 4) (zaa (SV 8) (zaa (SV 12) (rowR 9 1 ((([]++D.take kk)++[rr.s])++D.drop kk).length (strV ((([]++D.take kk)++[rr.s])++D.drop kk)) (pV 12)) (rowR 9 1 (([]++D.take kk)++[rr.s]).length (strV (([]++D.take kk)++[rr.s])) (pV 8))) (rowR 9 1 ([]++D.take kk).length (strV ([]++D.take kk)) (pV 4))) (z6a (SV 0) (rowR 9 1 ([]:List ByteArray).length (strV ([]:List ByteArray)) (pV 0)))),(7,z6a (SV 7) (slcR 9 1 #[.string rr.s] (pV 7)))])) 13 rfl (by kernel_rfl) rfl ⟨trivial,trivial,trivial,trivial,trivial,trivial,trivial,trivial,trivial,trivial,trivial,trivial,trivial,trivial⟩ (fun p=>JQ.mk (fun h=>absurd h (by decide)) () ((((M56.step (zma _)).triv 6).triv 7).sub ⟨rfl,rfl,rfl,rfl,rfl,rfl,rfl,rfl,trivial⟩)) ⟨?_,?_,?_,?_,?_,?_,?_,?_,?_,?_,?_,?_,?_,trivial⟩ ?_
    ·intro ua uw SV pV M0 hk hn hd
     obtain ⟨HP,xJ,M⟩:=M0
     replace M:Mx none w uw _:=M
     exact z5b rfl (run_row0 M 6 rfl) fun v w2 h2=>⟨trivial,(JQ.mk HP () (h2.sub ⟨rfl,rfl,rfl,rfl,rfl,rfl,(z1b (hn 4 (by kernel_rfl)) rfl),rfl,trivial⟩))⟩
    ·intro ua uw SV pV M0 hk hn hd
     obtain ⟨HP,xJ,M⟩:=M0
     replace M:Mx none w uw _:=M
     have e3:ua.eval (.tmp 3)=.slice A3 D.length c3:=(show ua.eval (.tmp 3)=_ from hd 3 (by decide)).trans (G56 3 rfl)
     exact ze rfl (.slice A3 D.length c3) (zga _ (.inl rfl) e3) rfl ((JQ.mk HP () (M.sb)))
    ·intro ua uw SV pV M0 hk hn hd
     obtain ⟨HP,xJ,M⟩:=M0
     replace M:Mx none w uw _:=M
     have e10:ua.eval (.tmp 10)=zI (kk:Int):=(show ua.eval (.tmp 10)=_ from hd 10 (by decide)).trans (G56 10 rfl)
     exact ze rfl (zI (kk:Int)) (zga _ (.inl rfl) e10) rfl ((JQ.mk HP () (M.sb)))
    ·intro ua uw SV pV M0 hk hn hd
     obtain ⟨HP,xJ,M⟩:=M0
     replace M:Mx none w uw _:=M
     have e46:ua.eval (.tmp 46)=.slice A3 D.length c3:=zQ1 (hd 46 (by decide))
     have e47:ua.eval (.tmp 47)=zI (kk:Int):=zQ1 (hd 47 (by decide))
     exact ze rfl ((.slice A3 kk c3)) (y_slS1 _ _ rfl e46 e47 rfl (Nat.le_trans hkD hdc)) rfl ((JQ.mk HP () (M.sb)))
    ·intro ua uw SV pV M0 hk hn hd
     obtain ⟨HP,xJ,M⟩:=M0
     replace M:Mx none w uw _:=M
     obtain ⟨s0,f45,q45⟩:=(show SV 0=true∧ua.eval (.tmp 45)=pV 0∧stE _ 0 (pV 0) from hd 45 (by decide))
     have e45:ua.eval (.tmp 45)=(pV 0):=f45
     have e48:ua.eval (.tmp 48)=(.slice A3 kk c3):=zQ1 (hd 48 (by decide))
     exact z5b rfl (run_appP M (k:=6) (D:=([]:List ByteArray)) (L:=(D.take kk)) (zya s0 (zu hk rfl)) (pc_take (M.rowF (k:=2) rfl) hkD) (by simp only [List.length_append,List.length_nil,List.length_take,List.length_cons,List.length_drop];omega) _ _ rfl e45 e48) fun v w2 h2=>⟨trivial,(JQ.mk (fun _=>rfl) () (h2.sub ⟨rfl,rfl,rfl,rfl,rfl,rfl,(z1b (hn 8 (by kernel_rfl)) rfl),rfl,trivial⟩))⟩
    ·intro ua uw SV pV M0 hk hn hd
     obtain ⟨HP,xJ,M⟩:=M0
     replace M:Mx none w uw _:=M
     have e8:ua.eval (.tmp 8)=(zO g24):=(show ua.eval (.tmp 8)=_ from hd 8 (by decide)).trans (G56 8 rfl)
     exact ze rfl (zP g24 1) (y_fa (off:=1) rfl e8 (by kernel_rfl) rfl) rfl ((JQ.mk HP () (M.sb)))
    ·intro ua uw SV pV M0 hk hn hd
     obtain ⟨HP,xJ,M⟩:=M0
     replace M:Mx none w uw _:=M
     have e50:ua.eval (.tmp 50)=(zP g24 1):=zQ1 (hd 50 (by decide))
     exact ze rfl (.string rr.s) (zha _ _ rfl e50 (M.blk (k:=5) rfl) rfl Tryz.underlying9 rfl) rfl ((JQ.mk HP () (M.sb)))
    ·intro ua uw SV pV M0 hk hn hd
     obtain ⟨HP,xJ,M⟩:=M0
     replace M:Mx none w uw _:=M
     have e51:ua.eval (.tmp 51)=.string rr.s:=zQ1 (hd 51 (by decide))
     exact ze rfl _ (y_litG 45 9 (s:=1) (zv:=.string "".toUTF8) Tryz.underlying45 (by kernel_rfl) (by kernel_rfl) rfl (#[.string rr.s]) (by decide) (by decide) (by simp only [List.map_toArray,List.map_cons,List.map_nil,e51];kernel_rfl)) trivial ((JQ.mk HP () ((M.allocS 7 9 1 (#[.string rr.s])).sub ⟨rfl,rfl,rfl,rfl,rfl,rfl,rfl,rfl,trivial⟩)))
    ·intro ua uw SV pV M0 hk hn hd
     obtain ⟨HP,xJ,M⟩:=M0
     replace M:Mx none w uw _:=M
     obtain ⟨s4,f49,q49⟩:=(show SV 4=true∧ua.eval (.tmp 49)=pV 4∧stE _ 4 (pV 4) from hd 49 (by decide))
     have e49:ua.eval (.tmp 49)=(pV 4):=f49
     obtain ⟨s7,f52,q52⟩:=(show SV 7=true∧ua.eval (.tmp 52)=pV 7∧stE _ 7 (pV 7) from hd 52 (by decide))
     have e52:ua.eval (.tmp 52)=(pV 7):=f52
     exact z5b rfl (run_appP M (k:=6) (D:=([]++D.take kk)) (L:=[rr.s]) (zu hk (zvb s4 rfl)) (pc_lit (M.at_ 7 _ (zya s7 rfl))) (by simp only [List.length_append,List.length_nil,List.length_take,List.length_cons,List.length_drop];omega) _ _ rfl e49 e52) fun v w2 h2=>⟨trivial,(JQ.mk (fun _=>s4) () (h2.sub ⟨rfl,rfl,rfl,rfl,rfl,rfl,(zwc s4 (zwc rfl (z1b (hn 12 (by kernel_rfl)) rfl))),rfl,trivial⟩))⟩
    ·intro ua uw SV pV M0 hk hn hd
     obtain ⟨HP,xJ,M⟩:=M0
     replace M:Mx none w uw _:=M
     have e3:ua.eval (.tmp 3)=.slice A3 D.length c3:=(show ua.eval (.tmp 3)=_ from hd 3 (by decide)).trans (G56 3 rfl)
     exact ze rfl (.slice A3 D.length c3) (zga _ (.inl rfl) e3) rfl ((JQ.mk HP () (M.sb)))
    ·intro ua uw SV pV M0 hk hn hd
     obtain ⟨HP,xJ,M⟩:=M0
     replace M:Mx none w uw _:=M
     have e10:ua.eval (.tmp 10)=zI (kk:Int):=(show ua.eval (.tmp 10)=_ from hd 10 (by decide)).trans (G56 10 rfl)
     exact ze rfl (zI (kk:Int)) (zga _ (.inl rfl) e10) rfl ((JQ.mk HP () (M.sb)))
    ·intro ua uw SV pV M0 hk hn hd
     obtain ⟨HP,xJ,M⟩:=M0
     replace M:Mx none w uw _:=M
     have e54:ua.eval (.tmp 54)=.slice A3 D.length c3:=zQ1 (hd 54 (by decide))
     have e55:ua.eval (.tmp 55)=zI (kk:Int):=zQ1 (hd 55 (by decide))
     exact ze rfl ((slD A3 c3 D.length kk)) (y_slS2 _ _ rfl e54 e55 rfl hkD) rfl ((JQ.mk HP () (M.sb)))
    ·intro ua uw SV pV M0 hk hn hd
     obtain ⟨HP,xJ,M⟩:=M0
     replace M:Mx none w uw _:=M
     obtain ⟨s8,f53,q53⟩:=(show SV 8=true∧ua.eval (.tmp 53)=pV 8∧stE _ 8 (pV 8) from hd 53 (by decide))
     have e53:ua.eval (.tmp 53)=(pV 8):=f53
     have e56:ua.eval (.tmp 56)=(slD A3 c3 D.length kk):=zQ1 (hd 56 (by decide))
     have s4:SV 4=true:=HP s8
     exact z5b rfl (run_appP M (k:=6) (D:=(([]++D.take kk)++[rr.s])) (L:=(D.drop kk)) (zu hk (zvb s8 (zvb s4 rfl))) (pc_drop (M.rowF (k:=2) rfl) hkD) (by simp only [List.length_append,List.length_nil,List.length_take,List.length_cons,List.length_drop];omega) _ _ rfl e53 e56) fun v w2 h2=>⟨trivial,(JQ.mk HP () (h2.sub ⟨rfl,rfl,rfl,rfl,rfl,rfl,(zwc s4 (zwc s8 rfl)),rfl,trivial⟩))⟩
    intro p57 a57 w57 M57 G57 y57
    obtain ⟨-,-,-,-,-,-,-,-,-,-,-,-,q12,-⟩:=y57
    obtain ⟨vq57,r12⟩:∃ v,p57 12=v:=⟨_,rfl⟩
    obtain ⟨-,xJ57,M57⟩:=M57
    replace M57:Mx _ _ w57 [(2,rowR 9 1 D.length (strV D) (.slice A3 D.length c3)),(0,blkO gx 72 (#[.slice (some ⟨gc,0,none⟩) 18 18,zI L,.bool V.dd])),(1,blkO gc 63 (celA V.c s n)),(3,bytR rr.l2 V22.v2),(4,bytR rr.l5 V22.v5),(5,blkR g24 37 (recA rr V22)),(6,zaa true (zaa true (zaa true (rowR 9 1 ((([]++D.take kk)++[rr.s])++D.drop kk).length (strV ((([]++D.take kk)++[rr.s])++D.drop kk)) (p57 12)) (rowR 9 1 (([]++D.take kk)++[rr.s]).length (strV (([]++D.take kk)++[rr.s])) (p57 8))) (rowR 9 1 ([]++D.take kk).length (strV ([]++D.take kk)) (p57 4))) (z6a true (rowR 9 1 ([]:List ByteArray).length (strV ([]:List ByteArray)) (p57 0)))),(7,z6a true (slcR 9 1 #[.string rr.s] (p57 7)))]:=M57
    simp only [List.take,layV,Nat.zero_add,Nat.reduceAdd,r12] at G57
    rw [r12] at M57
    refine rm rfl G57 fun _ F58=>hK14 _ _ (zR (rm rfl F58 fun _ F59=>zc (w':=w57) rfl rfl F59 rfl (zI ((jn+1:Nat):Int)) (zsa _ _ _ _ rfl (F59 13 rfl) rfl (by omega) (by omega)) fun _ F60=>?_))
    refine rm rfl F60 fun _ F61=>?_
    have M62:=M57.moved (q:=6) (row:=2) rfl (by decide)
    subst ek9
    exact hK9 _ ⟨(jn+1),((([]++D.take kk)++[rr.s])++D.drop kk),vq57⟩ _ _ (by dsimp only;omega) ⟨rfl,⟨by (dsimp only;omega),by (dsimp only;rw [namL_yes hn1 (hn2 rfl),srt_app,hD];exact ins_end hin hlast)⟩⟩ (F61.sb) (M62.sb)
 ·have hj8:jn=8:=by omega
  refine zSk fun _ hK63=>zT fun _ hK64=>rm rfl F9 fun _ F65=>zc (w':=w9) rfl rfl F65 rfl (.bool false) (zna _ _ _ _ rfl (F65 11 rfl) rfl (decide_eq_false (show ¬(jn:Int)<8 by omega))) fun _ F66=>?_
  refine hK64 _ _ (wp_cond_false (F66 12 rfl) (wp_exit ?_))
  simp only [Exit.then,Exit.inBlock,↓reduceIte,Nat.reduceEqDiff]
  refine hK5 _ _ (zT fun _ hK67=>rm rfl F66 fun _ F68=>rm rfl F68 fun _ F69=>hK67 _ _ (wp_ret ?_))
  exact bodyPost_ret (res1 rfl (F69.get rfl)) F69.defers ⟨_,rfl,⟨A3,c3,by rw [←hM,←hj8,hD],fun h0=>(by
   have e9:srtL (namL V 8)=D:=by rw [←hj8];exact hD
   rw [←hM,e9] at h0 ⊢
   obtain ⟨g9,cur9,e1,e2,e3⟩:=names_row M9 (k:=2) rfl h0
   exact ⟨g9,cur9,e1,e2,e3⟩)⟩,M9.below⟩
section
open Go.Shelf
theorem names_ok:NamesOk:=fun gx gc K V L s n hi M hM w h=>rnames_any gx gc V L s n hi M hM w h
theorem lstep_all (g gx gc:Nat) {K E:Nat} (V:VltN) (s n sx nx:Nat→Value) (hP:PlOk K E V) (hK:K<255) (hE:E<999) (b:List UInt8) (bv:Value) (hb:b.length≤1000) (At:Option Addr) (mt ct:Nat) (xt:Nat→Int) (hmt:mt≤ct) (hmt1:mt≤10) (z:Int) (hz:0≤z∧z<1073741824) (w:World) (hr:RowsV w g V.c s n) (hg:w.heap[g]? = some (.cells (vltA V s n) 80 (0,0))) (hx:XOk w gx gc V sx nx) (hgx:¬(xR gx gc V sx nx).fp g) (hB:IsB w b bv) (hBg:¬bfp bv g) (hT:RdI w At mt xt) (hTg:(¬ifp At mt g)∧∀ b,ifp At mt b→¬(xR gx gc V sx nx).fp b):
  Calls Tryz.prog 16 #[(zO g),(zO gx),zI z,bv,.slice At mt ct] w fun e w'=>∃ t,e=.returned t∧t=.bool true∧∃ V' E',E'≤E+1∧PlOk (K+1) E' V'∧∃ wm s' n',VTo w wm g (zo 18 s n) V' s' n'∧XTo wm w' gx gc (zo 18 sx nx) V':=by
 by_cases h7:z%12≤7
 ·exact (lstep_any g gx gc V s n sx nx hP.inv hK hP.left b bv (.slice At mt ct) hb z hz h7 w hr hg hx hgx hB hBg).mono fun e w' ⟨t,h1,h2,V',h3,h4⟩=>⟨t,h1,h2,V',E,by omega,pl_step hP hK h3,h4⟩
 ·exact (lstepA_any g gx gc V s n sx nx hP hK hE bv At mt ct xt hmt hmt1 z hz (by omega) w hr hg hx hgx hT hTg).mono fun e w' ⟨t,h1,h2,V',h3,h4⟩=>by
   obtain ⟨E',h5,h6⟩:=pl_stepA hP hK hE h3
   exact ⟨t,h1,h2,V',E',h5,h6,h4⟩
theorem Mx.xmut {G:Option Nat} {w0 w:World} {R:List (Nat×Res)} {gx gc:Nat} {V V':VltN} {s n:Nat→Value} {f:FuncId} {args:Array Value} {x:Value} (M:Mx G w0 w R) (kx:Nat) (hk:look R kx=some (xR gx gc V s n)) (hc:Calls Tryz.prog f args w fun e w'=>∃ t,e=.returned t∧t=x∧XTo w w' gx gc (zo 18 s n) V'):
  Calls Tryz.prog f args w fun e w'=>∃ t,e=.returned t∧∃ u:(Nat→Value)×(Nat→Value),Mx G w0 w' ((kx,xR gx gc V' u.1 u.2)::R)∧t=x:=
 hc.mono fun e w' ⟨t,h1,h2,h3⟩=>by
  obtain ⟨s',n',M'⟩:=M.xput hk h3
  exact ⟨t,h1,(s',n'),M',h2⟩
end
end Go.Proofs.YtmjbnmbobocpdaaGreat
