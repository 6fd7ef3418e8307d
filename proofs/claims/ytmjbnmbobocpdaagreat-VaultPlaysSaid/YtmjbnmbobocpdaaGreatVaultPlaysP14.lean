/- What VaultPlays stands on, part 14. -/
import Derived.Test.YtmjbnmbobocpdaaGreatVaultPlaysP1
import Derived.Test.YtmjbnmbobocpdaaGreatVaultPlaysP2
import Derived.Test.YtmjbnmbobocpdaaGreatVaultPlaysP3
import Derived.Test.YtmjbnmbobocpdaaGreatVaultPlaysP4
import Derived.Test.YtmjbnmbobocpdaaGreatVaultPlaysP5
import Derived.Test.YtmjbnmbobocpdaaGreatVaultPlaysP6
import Derived.Test.YtmjbnmbobocpdaaGreatVaultPlaysP7
import Derived.Test.YtmjbnmbobocpdaaGreatVaultPlaysP8
import Derived.Test.YtmjbnmbobocpdaaGreatVaultPlaysP9
import Derived.Test.YtmjbnmbobocpdaaGreatVaultPlaysP10
import Derived.Test.YtmjbnmbobocpdaaGreatVaultPlaysP11
import Derived.Test.YtmjbnmbobocpdaaGreatVaultPlaysP12
import Derived.Test.YtmjbnmbobocpdaaGreatVaultPlaysP13
set_option maxRecDepth 100000
set_option maxHeartbeats 8000000
set_option linter.unusedVariables false
set_option linter.unusedSimpArgs false
namespace Go.Proofs.YtmjbnmbobocpdaaGreat
open Go.ChangeShapes Go.WideShapes Go.ChangeAt Go.RowKit
theorem xagain_any (gx gc:Nat) {K:Nat} (V:VltN) (s n:Nat→Value) (hi:InvV K V) (hK:K<255) (E:Nat) (hE:E<1000) (hS:EraS V E) (A0:Option Addr) (m c0:Nat) (tx:Nat→Int) {V2:VltN} (hV2:ageW (zac V tx m)=V2) (w:World) (h:XOk w gx gc V s n) (hT:RdI w A0 m tx) (hTg:∀ b,ifp A0 m b→b≠gx∧b≠gc):
  Calls Tryz.prog 42 #[(zO gx),.slice A0 m c0] w fun e w'=>∃ t,e=.returned t∧XTo w w' gx gc (zo 18 s n) V2:=by
 have hlen:∀ i,i<18→(V.c i).s.length≤1000∧(V.c i).n.length≤1000:=zvc hi
 obtain ⟨L,hLv⟩:∃ x,zgc V=x:=⟨_,rfl⟩
 obtain ⟨dd,hdd⟩:∃ x,V.dd=x:=⟨_,rfl⟩
 refine zk (args:=[(zO gx),.slice A0 m c0]) 98 Tryz.func42 rfl rfl rfl ?_
 intro fa F
 have M:=(h.two.part 3 (intR A0 m tx) hT (fun _ _ hs h=>RdI.same hs h) rfl (k:=5) rfl rfl (fun b hb=>⟨hTg b hb,rdI_lt hT b hb⟩))
 rw [hLv,hdd] at M
 refine zT fun _ hK1=>rm rfl F fun _ F2=>hK1 _ _ (zSk fun _ hK3=>zT fun _ hK4=>rm rfl F2 fun _ F5=>hK4 _ _ (wp_block ?_))
 refine zob (α:=Nat×Nat×(Nat→Value)×(Nat→Value)) (n:=98) (G:=none) (w0:=({ w with heap:=#[] }:World)) (fun x=>[(0,(zO gx)),(1,.slice A0 m c0),(5,zI (x.1:Int)),(4,zI (x.2.1:Int))]) (fun x=>[(0,blkR gx 72 (#[.slice (some ⟨gc,0,none⟩) 18 18,zI L,.bool dd])),(1,blkR gc 63 (celA (setC V.c tx m x.1) x.2.2.1 x.2.2.2)),(2,zza 0 18 (setC V.c tx m x.1) x.2.2.1 x.2.2.2),(3,intR A0 m tx),(5,staysR w gx gc)]) (fun k x=>k=(18-x.1)∧(x.1≤18∧x.2.1≤x.1∧min x.2.1 m=setK V.c m x.1∧∀ b,zo 18 x.2.2.1 x.2.2.2 b→zo 18 s n b∨w.heap.size≤b)) _ ⟨0,0,s,n⟩ ⟨rfl,⟨Nat.zero_le _,Nat.le_refl _,Nat.zero_min _,fun b hb=>.inl hb⟩⟩ (F5.sb) (M.sb) ?_
 rintro k6 ⟨jn,kq,sq,nq⟩ a6 w6 K6 ⟨ek6,I6⟩ F6 M6 hK6
 replace F6:Fx 98 a6 [(0,(zO gx)),(1,.slice A0 m c0),(5,zI (jn:Int)),(4,zI (kq:Int))]:=F6
 replace M6:Mx _ _ w6 [(0,blkR gx 72 (#[.slice (some ⟨gc,0,none⟩) 18 18,zI L,.bool dd])),(1,blkR gc 63 (celA (setC V.c tx m jn) sq nq)),(2,zza 0 18 (setC V.c tx m jn) sq nq),(3,intR A0 m tx),(5,staysR w gx gc)]:=M6
 replace I6:jn≤18∧kq≤jn∧min kq m=setK V.c m jn∧∀ b,zo 18 sq nq b→zo 18 s n b∨w.heap.size≤b:=I6
 replace ek6:k6=(18-jn):=ek6
 obtain ⟨hj,hkj,hmk,hfp⟩:=I6
 by_cases hlt:jn<18
 ·have hcj:setC V.c tx m jn jn=V.c jn:=setC_ge V.c tx m jn jn (Nat.le_refl _)
  obtain ⟨fj,hfj⟩:∃ b,(V.c jn).f=b:=⟨_,rfl⟩
  refine zSk fun _ hK7=>zT fun _ hK8=>zB 5 [(0,(zO gx)),(1,.slice A0 m c0),(5,zI (jn:Int)),(4,zI (kq:Int)),(8,zI (jn:Int)),(12,.slice (some ⟨gc,0,none⟩) 18 18)] [0] (zx (M6.blk (k:=0) rfl) dnil) [gx] F6 fun _ F9=>?_
  refine zc (w':=w6) rfl rfl F9 rfl (zI 18) (y_lnG 49 Tryz.underlying49 _ rfl (F9 12 rfl) rfl) fun _ F10=>?_
  refine zc (w':=w6) rfl rfl F10 rfl (.bool true) (zna _ _ _ _ rfl (F10 8 rfl) (F10 13 rfl) (decide_eq_true (show (jn:Int)<18 by omega))) fun _ F11=>?_
  refine hK8 _ _ (wp_cond_true (F11 14 rfl) (wp_skip (hK7 _ _ (zSk fun _ hK12=>wp_block (zSk fun _ hK13=>zT fun _ hK14=>zB 5 [(0,(zO gx)),(1,.slice A0 m c0),(5,zI (jn:Int)),(4,zI (kq:Int)),(20,.slice (some ⟨gc,0,none⟩) 18 18),(21,zI (jn:Int))] [0] (zx (M6.blk (k:=0) rfl) dnil) [gx] F11 fun _ F15=>?_)))))
  refine zc (w':=w6) rfl rfl F15 rfl (zP gc (3*jn)) (zkc 49 (s:=3) Tryz.underlying49 (by kernel_rfl) _ _ rfl (F15 20 rfl) (F15 21 rfl) rfl hlt (j:=3*jn) (by omega)) fun _ F16=>?_
  refine zc (w':=w6) rfl rfl F16 rfl (zP gc (3*jn+2)) (y_fa (off:=2) rfl (F16 22 rfl) (by kernel_rfl) rfl) fun _ F17=>?_
  refine zc (w':=w6) rfl rfl F17 rfl (.bool fj) (zha _ _ rfl (F17 23 rfl) (M6.blk (k:=1) rfl) ((cel_f (setC V.c tx m jn) sq nq hlt).trans (show some (Value.bool ((setC V.c tx m jn) jn).f)=_ by rw [hcj,hfj])) Tryz.underlying4 rfl) fun _ F18=>?_
  cases fj
  ·refine zc (w':=w6) rfl rfl F18 rfl (.bool true) (zjb _ _ rfl (F18 24 rfl)) fun _ F19=>?_
   refine hK14 _ _ (wp_cond_true (F19 25 rfl) (wp_exit ?_))
   simp only [Exit.then,Exit.inBlock,↓reduceIte,Nat.reduceEqDiff]
   refine hK12 _ _ (zR (rm rfl F19 fun _ F20=>zc (w':=w6) rfl rfl F20 rfl (zI ((jn+1:Nat):Int)) (zsa _ _ _ _ rfl (F20 15 rfl) rfl (by omega) (by omega)) fun _ F21=>?_))
   refine rm rfl F21 fun _ F22=>?_
   have hsC:setC V.c tx m (jn+1)=(setC V.c tx m jn):=setC_no hfj
   have hsK:setK V.c m (jn+1)=setK V.c m jn:=setK_no hfj
   subst ek6
   exact hK6 _ ⟨(jn+1),kq,sq,nq⟩ _ _ (by omega) ⟨rfl,⟨by (dsimp only;omega),by (dsimp only;omega),by rw [hsK];exact hmk,hfp⟩⟩ (F22.sb) (M6.sub ⟨rfl,(by rw [hsC];rfl),(by rw [hsC];rfl),rfl,rfl,trivial⟩)
  ·have hf:(V.c jn).f=true:=hfj
   obtain ⟨nl,hnl⟩:∃ l,(V.c jn).n=l:=⟨_,rfl⟩
   obtain ⟨sl,hsl⟩:∃ l,(V.c jn).s=l:=⟨_,rfl⟩
   have hln:=hlen jn hlt
   rw [hnl,hsl] at hln
   have hNl:IsB w6 nl (nq jn):=by rw [←hnl,←hcj];exact M6.rowsN (i:=2) rfl hlt
   have hSl:IsB w6 sl (sq jn):=by rw [←hsl,←hcj];exact M6.rowsS (i:=2) rfl hlt
   have M23:=(M6.part 50 (bytR nl (nq jn)) hNl z3b rfl (k:=2) rfl rfl (fun b hb=>⟨jn,hlt,.inr hb⟩)).part 51 (bytR sl (sq jn)) hSl z3b rfl (k:=2) rfl rfl (fun b hb=>⟨jn,hlt,.inl hb⟩)
   refine zc (w':=w6) rfl rfl F18 rfl (.bool false) (zjb _ _ rfl (F18 24 rfl)) fun _ F24=>?_
   refine hK14 _ _ (wp_cond_false (F24 25 rfl) (wp_skip (hK13 _ _ (zT fun _ hK25=>rm rfl F24 fun _ F26=>hK25 _ _ (zSk fun K27 hK27=>?_)))))
   have J27:∀ (tn:Nat) (aJ:Act) (wJ:World),(tn=if kq<m then tornN (tx kq) nl.length else 0)→Fx 98 aJ [(0,(zO gx)),(1,.slice A0 m c0),(5,zI (jn:Int)),(4,zI (kq:Int)),(6,zI (tn:Int))]→Mx none ({ w with heap:=#[] }:World) wJ [(51,bytR sl (sq jn)),(50,bytR nl (nq jn)),(0,blkR gx 72 (#[.slice (some ⟨gc,0,none⟩) 18 18,zI L,.bool dd])),(1,blkR gc 63 (celA (setC V.c tx m jn) sq nq)),(2,zza 0 18 (setC V.c tx m jn) sq nq),(3,intR A0 m tx),(5,staysR w gx gc)]→K27 aJ wJ:=by
    intro tn a27 w27 I27 F27 M27
    refine hK27 _ _ ?_
    have htc:=I27
    have htl:tn≤nl.length:=by
     rw [htc]
     split
     ·exact tornN_le _ _
     ·exact Nat.zero_le _
    refine zT fun _ hK28=>rm rfl F27 fun _ F29=>zc (w':=w27) rfl rfl F29 rfl (zI ((kq+1:Nat):Int)) (zsa _ _ _ _ rfl (F29 45 rfl) rfl (by omega) (by omega)) fun _ F30=>?_
    refine rm rfl F30 fun _ F31=>hK28 _ _ (zT fun _ hK32=>zua rfl rfl F31 rfl (run_lit0 M27 60 rfl) ?_)
    intro v33 a33 w33 F33 M33
    obtain ⟨A33,c33,rfl⟩:=(M33.isO (k:=60) rfl).shape
    refine zAx 5 [(48,(zO gx)),(49,(zO gx)),(50,(zO gx)),(51,.slice (some ⟨gc,0,none⟩) 18 18),(52,zI (jn:Int))] [0] (zx (M33.blk (k:=0) rfl) dnil) [gx] F33 fun _ F34=>?_
    refine zc (w':=w33) rfl rfl F34 rfl (zP gc (3*jn)) (zkc 49 (s:=3) Tryz.underlying49 (by kernel_rfl) _ _ rfl (F34 51 rfl) (F34 52 rfl) rfl hlt (j:=3*jn) (by omega)) fun _ F35=>?_
    refine zc (w':=w33) rfl rfl F35 rfl (zP gc (3*jn+1)) (y_fa (off:=1) rfl (F35 53 rfl) (by kernel_rfl) rfl) fun _ F36=>?_
    refine zc (w':=w33) rfl rfl F36 rfl ((nq jn)) (zha _ _ rfl (F36 54 rfl) (M33.blk (k:=1) rfl) (cel_n (setC V.c tx m jn) sq nq hlt) Tryz.underlying23 rfl) fun _ F37=>?_
    refine rm rfl F37 fun _ F38=>zrc rfl rfl F38 rfl (y_slTo _ _ rfl (F38 55 rfl) (M33.isb (k:=50) rfl) (F38 56 rfl) (j:=tn) rfl (by omega)) ?_
    intro v39 a39 h39 F39
    have M39:=M33.partB 61 (k:=50) rfl h39.1 h39.2
    obtain ⟨A39,c39,rfl⟩:=(M39.isb (k:=61) rfl).shape
    refine zua rfl rfl F39 rfl (zfb M39 (k:=60) rfl _ _ rfl (F39 47 rfl) (F39 57 rfl) (M39.isb (k:=61) rfl) (by simp;omega)) ?_
    intro v40 a40 w40 F40 M40
    obtain ⟨A40,c40,rfl⟩:=(M40.isO (k:=60) rfl).shape
    refine rm rfl F40 fun _ F41=>hK32 _ _ (zSk fun _ hK42=>zT fun _ hK43=>zAx 6 [(59,zI (tn:Int)),(60,(zO gx)),(61,(zO gx)),(62,(zO gx)),(63,.slice (some ⟨gc,0,none⟩) 18 18),(64,zI (jn:Int))] [0] (zx (M40.blk (k:=0) rfl) dnil) [gx] F41 fun _ F44=>?_)
    refine zc (w':=w40) rfl rfl F44 rfl (zP gc (3*jn)) (zkc 49 (s:=3) Tryz.underlying49 (by kernel_rfl) _ _ rfl (F44 63 rfl) (F44 64 rfl) rfl hlt (j:=3*jn) (by omega)) fun _ F45=>?_
    refine zc (w':=w40) rfl rfl F45 rfl (zP gc (3*jn+0)) (y_fa (off:=0) rfl (F45 65 rfl) (by kernel_rfl) rfl) fun _ F46=>?_
    refine zc (w':=w40) rfl rfl F46 rfl ((sq jn)) (zha _ _ rfl (F46 66 rfl) (M40.blk (k:=1) rfl) (cel_s (setC V.c tx m jn) sq nq hlt) Tryz.underlying23 rfl) fun _ F47=>?_
    refine zc (w':=w40) rfl rfl F47 rfl (zI (sl.length:Int)) (zcb _ rfl (F47 67 rfl) (M40.isb (k:=51) rfl) rfl) fun _ F48=>?_
    by_cases h49:(tn:Int)<(sl.length:Int)
    ·refine zc (w':=w40) rfl rfl F48 rfl (.bool true) (zna _ _ _ _ rfl (F48 59 rfl) (F48 68 rfl) (decide_eq_true h49)) fun _ F50=>?_
     refine hK43 _ _ (wp_cond_true (F50 69 rfl) (zR (zAx 6 [(70,.slice A40 (([]++(nl.take tn))).length c40),(71,(zO gx)),(72,(zO gx)),(73,(zO gx)),(74,.slice (some ⟨gc,0,none⟩) 18 18),(75,zI (jn:Int))] [0] (zx (M40.blk (k:=0) rfl) dnil) [gx] F50 fun _ F51=>?_)))
     refine zc (w':=w40) rfl rfl F51 rfl (zP gc (3*jn)) (zkc 49 (s:=3) Tryz.underlying49 (by kernel_rfl) _ _ rfl (F51 74 rfl) (F51 75 rfl) rfl hlt (j:=3*jn) (by omega)) fun _ F52=>?_
     refine zc (w':=w40) rfl rfl F52 rfl (zP gc (3*jn+0)) (y_fa (off:=0) rfl (F52 76 rfl) (by kernel_rfl) rfl) fun _ F53=>?_
     refine zc (w':=w40) rfl rfl F53 rfl ((sq jn)) (zha _ _ rfl (F53 77 rfl) (M40.blk (k:=1) rfl) (cel_s (setC V.c tx m jn) sq nq hlt) Tryz.underlying23 rfl) fun _ F54=>?_
     refine rm rfl F54 fun _ F55=>zrc rfl rfl F55 rfl (y_slFrom _ _ rfl (F55 78 rfl) (M40.isb (k:=51) rfl) (F55 79 rfl) (i:=tn) rfl (by omega)) ?_
     intro v56 a56 h56 F56
     have M56:=M40.partB 62 (k:=51) rfl h56.1 h56.2
     obtain ⟨A56,c56,rfl⟩:=(M56.isb (k:=62) rfl).shape
     refine zua rfl rfl F56 rfl (zfb M56 (k:=60) rfl _ _ rfl (F56 70 rfl) (F56 80 rfl) (M56.isb (k:=62) rfl) (by simp;omega)) ?_
     intro v57 a57 w57 F57 M57
     obtain ⟨A57,c57,rfl⟩:=(M57.isO (k:=60) rfl).shape
     refine rm rfl F57 fun _ F58=>hK42 _ _ (zR (zB 6 [(0,(zO gx)),(1,.slice A0 m c0),(5,zI (jn:Int)),(4,zI ((kq+1:Nat):Int)),(85,.slice (some ⟨gc,0,none⟩) 18 18),(86,zI (jn:Int)),(87,.slice A57 ((([]++(nl.take tn))++(sl.drop tn))).length c57)] [0] (zx (M57.blk (k:=0) rfl) dnil) [gx] F58 fun _ F59=>?_))
     refine zc (w':=w57) rfl rfl F59 rfl (.agg (#[.slice A57 ((([]++(nl.take tn))++(sl.drop tn))).length c57,zN,.bool false])) (by unfold execOp;simp only [List.map_toArray,List.map_cons,List.map_nil,(F59 87 rfl)];kernel_rfl) fun _ F60=>?_
     refine zc (w':=w57) rfl rfl F60 rfl (zP gc (3*jn)) (zkc 49 (s:=3) Tryz.underlying49 (by kernel_rfl) _ _ rfl (F60 85 rfl) (F60 86 rfl) rfl hlt (j:=3*jn) (by omega)) fun _ F61=>?_
     refine zt rfl rfl F61 M57 (k:=1) rfl _ _ _ rfl (F61 89 rfl) (F61 88 rfl) (#[.slice A57 ((([]++(nl.take tn))++(sl.drop tn))).length c57,zN,.bool false]) ((celA (putC (setC V.c tx m jn) jn ⟨(([]++(nl.take tn))++(sl.drop tn)),[],false⟩) (putN sq jn (.slice A57 ((([]++(nl.take tn))++(sl.drop tn))).length c57)) (putN nq jn (zN)))) rfl (show 3*jn+3≤54 by omega) (by simp [Value.oneCell']) (cel_put (setC V.c tx m jn) sq nq (.slice A57 ((([]++(nl.take tn))++(sl.drop tn))).length c57) (zN) (([]++(nl.take tn))++(sl.drop tn)) [] false hlt) (by kernel_rfl) ?_
     intro w62 M62
     refine hK12 _ _ (zR (rm rfl F61 fun _ F63=>zc (w':=w62) rfl rfl F63 rfl (zI ((jn+1:Nat):Int)) (zsa _ _ _ _ rfl (F63 15 rfl) rfl (by omega) (by omega)) fun _ F64=>?_))
     refine rm rfl F64 fun _ F65=>?_
     have hown:=M62.newU (k:=60) rfl rfl rfl rfl (by decide)
     have M66:=M62.rowsPut (i:=2) (k:=60) rfl rfl (fun b _=>Nat.zero_le _) jn rfl
     obtain ⟨hsC,hsK⟩:=setC_go (tx:=tx) (X:=(([]++(nl.take tn))++(sl.drop tn))) hf hmk hnl hsl htc (by first | rfl | (simp;done) | (rw [List.drop_of_length_le (by omega)];simp))
     subst ek6
     exact hK6 _ ⟨(jn+1),(kq+1),(putN sq jn (.slice A57 ((([]++(nl.take tn))++(sl.drop tn))).length c57)),(putN nq jn (zN))⟩ _ _ (by omega) ⟨rfl,⟨by (dsimp only;omega),by (dsimp only;omega),hsK,fun b hb=>(rowsfp_put hb).elim (fun h=>hfp b h) (fun h=>.inr (hown b h))⟩⟩ (F65.sb) (M66.sub ⟨rfl,(by rw [hsC];rfl),(by rw [hsC];rfl),rfl,rfl,trivial⟩)
    ·refine zc (w':=w40) rfl rfl F48 rfl (.bool false) (zna _ _ _ _ rfl (F48 59 rfl) (F48 68 rfl) (decide_eq_false h49)) fun _ F67=>?_
     refine hK43 _ _ (wp_cond_false (F67 69 rfl) (wp_skip (hK42 _ _ (zR (zB 6 [(0,(zO gx)),(1,.slice A0 m c0),(5,zI (jn:Int)),(4,zI ((kq+1:Nat):Int)),(85,.slice (some ⟨gc,0,none⟩) 18 18),(86,zI (jn:Int)),(87,.slice A40 (([]++(nl.take tn))).length c40)] [0] (zx (M40.blk (k:=0) rfl) dnil) [gx] F67 fun _ F68=>?_)))))
     refine zc (w':=w40) rfl rfl F68 rfl (.agg (#[.slice A40 (([]++(nl.take tn))).length c40,zN,.bool false])) (by unfold execOp;simp only [List.map_toArray,List.map_cons,List.map_nil,(F68 87 rfl)];kernel_rfl) fun _ F69=>?_
     refine zc (w':=w40) rfl rfl F69 rfl (zP gc (3*jn)) (zkc 49 (s:=3) Tryz.underlying49 (by kernel_rfl) _ _ rfl (F69 85 rfl) (F69 86 rfl) rfl hlt (j:=3*jn) (by omega)) fun _ F70=>?_
     refine zt rfl rfl F70 M40 (k:=1) rfl _ _ _ rfl (F70 89 rfl) (F70 88 rfl) (#[.slice A40 (([]++(nl.take tn))).length c40,zN,.bool false]) ((celA (putC (setC V.c tx m jn) jn ⟨([]++(nl.take tn)),[],false⟩) (putN sq jn (.slice A40 (([]++(nl.take tn))).length c40)) (putN nq jn (zN)))) rfl (show 3*jn+3≤54 by omega) (by simp [Value.oneCell']) (cel_put (setC V.c tx m jn) sq nq (.slice A40 (([]++(nl.take tn))).length c40) (zN) ([]++(nl.take tn)) [] false hlt) (by kernel_rfl) ?_
     intro w71 M71
     refine hK12 _ _ (zR (rm rfl F70 fun _ F72=>zc (w':=w71) rfl rfl F72 rfl (zI ((jn+1:Nat):Int)) (zsa _ _ _ _ rfl (F72 15 rfl) rfl (by omega) (by omega)) fun _ F73=>?_))
     refine rm rfl F73 fun _ F74=>?_
     have hown:=M71.newU (k:=60) rfl rfl rfl rfl (by decide)
     have M75:=M71.rowsPut (i:=2) (k:=60) rfl rfl (fun b _=>Nat.zero_le _) jn rfl
     obtain ⟨hsC,hsK⟩:=setC_go (tx:=tx) (X:=([]++(nl.take tn))) hf hmk hnl hsl htc (by first | rfl | (simp;done) | (rw [List.drop_of_length_le (by omega)];simp))
     subst ek6
     exact hK6 _ ⟨(jn+1),(kq+1),(putN sq jn (.slice A40 (([]++(nl.take tn))).length c40)),(putN nq jn (zN))⟩ _ _ (by omega) ⟨rfl,⟨by (dsimp only;omega),by (dsimp only;omega),hsK,fun b hb=>(rowsfp_put hb).elim (fun h=>hfp b h) (fun h=>.inr (hown b h))⟩⟩ (F74.sb) (M75.sub ⟨rfl,(by rw [hsC];rfl),(by rw [hsC];rfl),rfl,rfl,trivial⟩)
   refine zT fun _ hK76=>rm rfl F26 fun _ F77=>rm rfl F77 fun _ F78=>zc (w':=w6) rfl rfl F78 rfl (zI (m:Int)) (y_lnG 22 Tryz.underlying22 _ rfl (F78 27 rfl) rfl) fun _ F79=>?_
   by_cases h80:(kq:Int)<(m:Int)
   ·have hq:kq<m:=by omega
    obtain ⟨tn0,htn⟩:∃ t,tornN (tx kq) nl.length=t:=⟨_,rfl⟩
    refine zc (w':=w6) rfl rfl F79 rfl (.bool true) (zna _ _ _ _ rfl (F79 26 rfl) (F79 28 rfl) (decide_eq_true h80)) fun _ F81=>?_
    refine hK76 _ _ (wp_cond_true (F81 29 rfl) ?_)
    have hD82:=(zx (M23.blk (k:=0) rfl) dnil)
    refine z5a F81 (SK [.inl (.slice A0 m c0),.inl (zI (kq:Int)),.inl ((ixV (.slice A0 m c0) kq)),.inl (zI (tx kq)),.inl (zI (max (tx kq) 0)),.inl (zO gx),.inl (zO gx),.inl (zO gx),.inl (.slice (some ⟨gc,0,none⟩) 18 18),.inl (zI (jn:Int)),.inl (zP gc (3*jn)),.inl (zP gc (3*jn+1)),.inl ((nq jn)),.inl (zI (nl.length:Int)),.inl (zI (tn0:Int)),.inl (zI (tn0:Int))]) 16 rfl (by kernel_rfl) ⟨hop0 F81,hop0 F81,hopR F81 [(30,.slice A0 m c0),(31,zI (kq:Int))] fun ua uw hb ⟨e30,e31,_⟩=>(y_ixJ _ _ rfl e30 ((M23.step hb).rdI (k:=3) rfl) e31 rfl hq),hopR F81 [(32,(ixV (.slice A0 m c0) kq))] fun ua uw hb ⟨e32,_⟩=>(y_ldJ _ rfl e32 ((M23.step hb).rdI (k:=3) rfl) hq),hopR F81 [(33,zI (tx kq))] fun ua uw hb ⟨e33,_⟩=>(y_maxI _ _ rfl e33 rfl rfl),hop0 F81,hop0 F81,hop0 F81,hopP F81 hD82 0 (some gx),hop0 F81,hopR F81 [(38,.slice (some ⟨gc,0,none⟩) 18 18),(39,zI (jn:Int))] fun ua uw hb ⟨e38,e39,_⟩=>(zkc 49 (s:=3) Tryz.underlying49 (by kernel_rfl) _ _ rfl e38 e39 rfl hlt (j:=3*jn) (by omega)),hopR F81 [(40,(zP gc (3*jn)))] fun ua uw hb ⟨e40,_⟩=>(y_fa (off:=1) rfl e40 (by kernel_rfl) rfl),hopR F81 [(41,(zP gc (3*jn+1)))] fun ua uw hb ⟨e41,_⟩=>(zha _ _ rfl e41 ((M23.step hb).blk (k:=1) rfl) (cel_n (setC V.c tx m jn) sq nq hlt) Tryz.underlying23 rfl),hopR F81 [(42,(nq jn))] fun ua uw hb ⟨e42,_⟩=>(zcb _ rfl e42 ((M23.step hb).isb (k:=50) rfl) rfl),hopR F81 [(34,zI (max (tx kq) 0)),(43,zI (nl.length:Int))] fun ua uw hb ⟨e34,e43,_⟩=>(y_min _ _ rfl e34 e43 (show (if (nl.length:Int)<max (tx kq) 0 then (nl.length:Int) else max (tx kq) 0)=(tn0:Int) by rw [←htn,tornN_int];split <;> omega)),hop0 F81,trivial⟩ ?_
    intro p83 a83 w83 b83 G83 y83
    obtain ⟨-,-,-,-,-,-,-,-,-,-,-,-,-,-,-,q15,-⟩:=y83
    have r15:p83 15=zI (tn0:Int):=q15 (by decide)
    simp only [List.take,layV,Nat.zero_add,Nat.reduceAdd,r15] at G83
    have M83:=M23.kc b83
    clear F81 M23 r15 q15
    exact J27 tn0 _ _ ((if_pos hq).trans htn).symm (G83.sb) (M83.sb)
   ·have hq:¬kq<m:=by omega
    refine zc (w':=w6) rfl rfl F79 rfl (.bool false) (zna _ _ _ _ rfl (F79 26 rfl) (F79 28 rfl) (decide_eq_false h80)) fun _ F84=>?_
    refine hK76 _ _ (wp_cond_false (F84 29 rfl) (wp_skip ?_))
    exact J27 0 _ _ (if_neg hq).symm (F84.sb) (M23.sb)
 ·obtain rfl:jn=18:=by omega
  refine zSk fun _ hK85=>zT fun _ hK86=>zB 5 [(0,(zO gx)),(1,.slice A0 m c0),(5,zI ((18:Nat):Int)),(4,zI (kq:Int)),(8,zI ((18:Nat):Int)),(12,.slice (some ⟨gc,0,none⟩) 18 18)] [0] (zx (M6.blk (k:=0) rfl) dnil) [gx] F6 fun _ F87=>?_
  refine zc (w':=w6) rfl rfl F87 rfl (zI 18) (y_lnG 49 Tryz.underlying49 _ rfl (F87 12 rfl) rfl) fun _ F88=>?_
  refine zc (w':=w6) rfl rfl F88 rfl (.bool false) (zna _ _ _ _ rfl (F88 8 rfl) (F88 13 rfl) (decide_eq_false (by decide))) fun _ F89=>?_
  refine hK86 _ _ (wp_cond_false (F89 14 rfl) (wp_exit ?_))
  simp only [Exit.then,Exit.inBlock,↓reduceIte,Nat.reduceEqDiff]
  refine hK3 _ _ (zT fun _ hK90=>zB 4 [(0,(zO gx)),(1,.slice A0 m c0),(5,zI ((18:Nat):Int)),(4,zI (kq:Int)),(91,(zO gx)),(93,(zP gx 2))] [] dnil [] F89 fun _ F91=>?_)
  refine zt rfl rfl F91 M6 (k:=0) rfl _ _ _ rfl (F91 93 rfl) rfl (#[.bool false]) (#[.slice (some ⟨gc,0,none⟩) 18 18,zI L,.bool false]) rfl (zL rfl) (by simp [Value.oneCell']) (by kernel_rfl) (by kernel_rfl) ?_
  intro w92 M92
  refine zAx 2 [(94,(zO gx)),(95,(zP gx 1))] [] dnil [] F91 fun _ F93=>?_
  refine zt rfl rfl F93 M92 (k:=0) rfl _ _ _ rfl (F93 95 rfl) rfl (#[zI (-1)]) (#[.slice (some ⟨gc,0,none⟩) 18 18,zI (-1),.bool false]) rfl (zL rfl) (zcc _ _) (by kernel_rfl) (by kernel_rfl) ?_
  intro w94 M94
  refine hK90 _ _ (zR (rm rfl F93 fun _ F95=>zh rfl rfl F95 rfl rfl (zE Tryz.func40 rfl) #[(zO gx)] (zca (F95 96 rfl)) (xera_any (V2:=V2) gx gc (zac V tx m) sq nq (setl_inv hi tx m) hK (fun e=>by cases e) rfl E hE (eras_boot (eras_setl hS tx m) hE) (by unfold ageW at hV2;rw [(eras_setl hS tx m).1.2.2.2] at hV2;exact hV2) w94 (M94.xok h.ne rfl rfl rfl rfl rfl)) ?_))
  rintro _ w96 a96 hw96 F96
  exact bodyPost_end (res0 rfl) F96.defers ⟨_,rfl,XTo.after hfp (M94.xto (V':=zac V tx m) h.ne rfl rfl rfl rfl rfl rfl hfp) hw96⟩
theorem rfail_any (gx gc:Nat) (L:Int) (dd:Bool) (z:Int) (w:World) (hx:w.heap[gx]? = some (.cells (#[.slice (some ⟨gc,0,none⟩) 18 18,zI L,.bool dd]) 72 (0,0))):
  Calls Tryz.prog 20 #[(zO gx),zI z] w fun e w'=>∃ t,e=.returned t∧w'.heap[gx]? = some (.cells (#[.slice (some ⟨gc,0,none⟩) 18 18,zI (max z (-1)),.bool dd]) 72 (0,0))∧w.grownBy w' (some gx):=by
 refine zk (args:=[(zO gx),zI z]) 9 Tryz.func20 rfl rfl rfl ?_
 intro fa F
 have M:=Mx.theG hx 0
 refine zR (rm rfl F fun _ F1=>rm rfl F1 fun _ F2=>zc (w':=w) rfl rfl F2 rfl (zI (max z (-1))) (y_maxI _ _ rfl (F2 5 rfl) rfl rfl) fun _ F3=>?_)
 refine zB 2 [(6,zI (max z (-1))),(8,(zP gx 1))] [] dnil [] F3 fun _ F4=>?_
 refine zt rfl rfl F4 M (k:=0) rfl _ _ _ rfl (F4 8 rfl) (F4 6 rfl) (#[zI (max z (-1))]) (#[.slice (some ⟨gc,0,none⟩) 18 18,zI (max z (-1)),.bool dd]) rfl (zL rfl) (zcc _ _) (by kernel_rfl) (by kernel_rfl) ?_
 intro w5 M5
 refine wpList_nil ?_
 exact bodyPost_end (res0 rfl) F4.defers ⟨_,rfl,M5.blk (k:=0) rfl,M5.grown⟩
theorem said_cnt {V:VltN} {q:Nat} {ca ct:Int} {cl:List UInt8} (hC:cntR V q 2=(ca,ct,cl)) (h:zec V q=true):rdOk cl=true∧rdR cl=z0a V q:=by
 unfold zec at h
 unfold z0a
 simp only [Bool.and_eq_true] at h
 rcases cnt_any hC with ⟨h1,_,_,rfl⟩ | ⟨h1,_,_,rfl⟩
 ·exact ⟨h.2,by rw [if_pos h1]⟩
 ·rw [h1] at h;exact absurd h.1 Bool.false_ne_true
theorem named_said {V:VltN} {nm:ByteArray} {k:Nat} (h8:k<8) (hk:fst8 (zba V nm)=k):zec V (2*k)=true:=by
 rcases fstN_spec (zba V nm) 8 0 with ⟨_,h2,_⟩ | ⟨h1,_⟩
 ·rw [show fstN (zba V nm) 8 0=k from hk] at h2
  unfold zba at h2
  simp only [Bool.and_eq_true] at h2
  exact h2.1
 ·rw [show fstN (zba V nm) 8 0=k from hk] at h1;omega
theorem rfind_is {K:Nat} (gx gc:Nat) (V:VltN) (L:Int) (s n:Nat→Value) (hi:InvV K V) (nm:ByteArray) {z:Int} (hz:idx8 (zba V nm)=z) (w:World) (h:HasX w gx gc V L s n):Calls Tryz.prog 53 #[(zO gx),.string nm] w fun e w'=>e=.returned (zI z)∧Below w.heap.size w w':=by
 subst hz;exact rfind_any gx gc V L s n hi nm w h
theorem rget_yes {K:Nat} (gx gc:Nat) (V:VltN) (L:Int) (s n:Nat→Value) (hi:InvV K V) (nm:ByteArray) (k:Nat) (h8:k<8) (hk:fst8 (zba V nm)=k) (w:World) (h:HasX w gx gc V L s n):
  Calls Tryz.prog 33 #[(zO gx),.string nm] w fun e w'=>∃ V',e=.returned (.tuple #[.agg (recA (z0a V (2*k)) V'),.bool true])∧RecIs w' (z0a V (2*k)) V'∧(∀ b,bfp V'.v2 b∨bfp V'.v5 b→w.heap.size≤b)∧Below w.heap.size w w':=by
 refine zk (args:=[(zO gx),.string nm]) 27 Tryz.func33 rfl rfl rfl ?_
 intro fa F
 have M:=Mx.start w
 replace M:=M.argO 0 h.hx (fun b e=>by cases e)
 replace M:=M.argO 1 h.hc (fun b e=>by cases e)
 obtain ⟨ca,ct,cl,hC⟩:∃ a t l,cntR V (2*k) 2=(a,t,l):=⟨_,_,_,rfl⟩
 have hcl:=cnt_short hi (by omega) hC
 obtain ⟨hR,hrr⟩:=said_cnt hC (named_said h8 hk)
 obtain ⟨rr,hr2⟩:∃ x,z0a V (2*k)=x:=⟨_,rfl⟩
 rw [hr2] at hrr ⊢
 refine zT fun _ hK1=>zq rfl rfl F rfl M 2 (t:=37) (c:=recA ⟨0, "".toUTF8,[],0,0,[],0,0,0⟩ ⟨zN,zN⟩) (by unfold execOp;kernel_rfl) ?_
 intro g2 a2 w2 F2 M2
 refine rm rfl F2 fun _ F3=>hK1 _ _ (zT fun _ hK4=>rm rfl F3 fun _ F5=>rm rfl F5 fun _ F6=>zh rfl rfl F6 rfl rfl (zE Tryz.func53 rfl) #[(zO gx),.string nm] (zea (F6 10 rfl) (F6 11 rfl)) (zda ((rfind_is gx gc V L s n hi nm (idx8_at h8 hk) w2 (h.step M2.below)))) ?_)
 rintro _ w7 a7 ⟨rfl,b7⟩ F7
 have M7:=M2.step b7
 refine rm rfl F7 fun _ F8=>hK4 _ _ (zSk fun _ hK9=>zT fun _ hK10=>rm rfl F8 fun _ F11=>zc (w':=w7) rfl rfl F11 rfl (.bool false) (zna _ _ _ _ rfl (F11 13 rfl) rfl (decide_eq_false (show ¬(k:Int)<0 by omega))) fun _ F12=>?_)
 refine hK10 _ _ (wp_cond_false (F12 14 rfl) (wp_skip (hK9 _ _ (zT fun _ hK13=>rm rfl F12 fun _ F14=>rm rfl F14 fun _ F15=>zh rfl rfl F15 rfl rfl (zE Tryz.func62 rfl) #[(zO gx),zI (k:Int)] (zea (F15 17 rfl) (F15 18 rfl)) (rcounts_is gx gc V L s n hi k (by omega) hC w7 (h.step M7.below)) ?_))))
 rintro _ w16 a16 ⟨S16,rfl,hS16,b16⟩ F16
 have M16:=M7.step b16
 have lS16:=hS16.step b16
 refine zB 7 [(4,(zO g2)),(5,.bool false),(9,S16)] [] dnil [] F16 fun _ F17=>?_
 refine hK13 _ _ (zT fun _ hK18=>rm rfl F17 fun _ F19=>zh rfl rfl F19 rfl rfl (zE Tryz.func63 rfl) #[S16] (zca (F19 23 rfl)) (rrd6_is cl (S16) hcl true rr hR hrr w16 lS16) ?_)
 rintro _ w20 a20 ⟨V20,rfl,is20,lo20,b20⟩ F20
 have lf:=fun q h=>Nat.le_trans M16.le (lo20 q h)
 have M20:=M16.newRec b20 is20 lo20 3 4
 clear M16 b20 lo20
 refine zB 2 [(4,(zO g2)),(5,.bool false),(25,.agg (recA rr V20)),(26,.bool true)] [] dnil [] F20 fun _ F21=>?_
 refine zt rfl rfl F21 M20 (k:=2) rfl _ _ _ rfl (F21 4 rfl) (F21 25 rfl) (recA rr V20) _ rfl (zL rfl) (z3a (w:=w20) ⟨(M20.isb (k:=3) rfl),(M20.isb (k:=4) rfl)⟩) (zfa rfl) (by kernel_rfl) ?_
 intro w22 M22
 exact rm rfl F21 fun _ F23=>hK18 _ _ (wp_ret (bodyPost_ret (resCT rfl (F23.get rfl) (M22.blk (k:=2) rfl) (F23.get rfl) Tryz.underlying37 rfl (by kernel_rfl)) F23.defers ⟨_,rfl,⟨(M22.isb (k:=3) rfl),(M22.isb (k:=4) rfl)⟩,lf,M22.below⟩))
theorem rget_not {K:Nat} (gx gc:Nat) (V:VltN) (L:Int) (s n:Nat→Value) (hi:InvV K V) (nm:ByteArray) (hk:fst8 (zba V nm)=8) (w:World) (h:HasX w gx gc V L s n):
  Calls Tryz.prog 33 #[(zO gx),.string nm] w fun e w'=>e=.returned (.tuple #[.agg (recA zeroRec ⟨zN,zN⟩),.bool false])∧Below w.heap.size w w':=by
 refine zk (args:=[(zO gx),.string nm]) 27 Tryz.func33 rfl rfl rfl ?_
 intro fa F
 have M:=Mx.start w
 replace M:=M.argO 0 h.hx (fun b e=>by cases e)
 replace M:=M.argO 1 h.hc (fun b e=>by cases e)
 refine zT fun _ hK1=>zq rfl rfl F rfl M 2 (t:=37) (c:=recA ⟨0, "".toUTF8,[],0,0,[],0,0,0⟩ ⟨zN,zN⟩) (by unfold execOp;kernel_rfl) ?_
 intro g2 a2 w2 F2 M2
 refine rm rfl F2 fun _ F3=>hK1 _ _ (zT fun _ hK4=>rm rfl F3 fun _ F5=>rm rfl F5 fun _ F6=>zh rfl rfl F6 rfl rfl (zE Tryz.func53 rfl) #[(zO gx),.string nm] (zea (F6 10 rfl) (F6 11 rfl)) (zda ((rfind_is gx gc V L s n hi nm (if_neg (by rw [hk];decide)) w2 (h.step M2.below)))) ?_)
 rintro _ w7 a7 ⟨rfl,b7⟩ F7
 have M7:=M2.step b7
 refine rm rfl F7 fun _ F8=>hK4 _ _ (zSk fun _ hK9=>zT fun _ hK10=>zAx 2 [(13,zI (-1)),(14,.bool true)] [] dnil [] F8 fun _ F11=>?_)
 refine hK10 _ _ (wp_cond_true (F11 14 rfl) (zT fun _ hK12=>zc (w':=w7) rfl rfl F11 rfl (.agg (recA ⟨0, "".toUTF8,[],0,0,[],0,0,0⟩ ⟨zN,zN⟩)) (by unfold execOp;kernel_rfl) fun _ F13=>?_))
 refine zt rfl rfl F13 M7 (k:=2) rfl _ _ _ rfl (F13 4 rfl) (F13 15 rfl) (recA ⟨0, "".toUTF8,[],0,0,[],0,0,0⟩ ⟨zN,zN⟩) _ rfl (zL rfl) (z3a (w:=w7) ⟨(zka _),(zka _)⟩) (zfa rfl) (by kernel_rfl) ?_
 intro w14 M14
 refine rm rfl F13 fun _ F15=>hK12 _ _ (wp_ret ?_)
 try simp only [Exit.then,Exit.inBlock,Exit.jump]
 exact bodyPost_ret (resCT rfl (F15.get rfl) (M14.blk (k:=2) rfl) (F15.get rfl) Tryz.underlying37 rfl (by kernel_rfl)) F15.defers ⟨rfl,M14.below⟩
theorem put_idx {V:VltN} {nm:ByteArray} {z1 z2 z:Int} (h1:idx8 (zba V nm)=z1) (h2:idx8 (fun i=>zwa V (2*i))=z2) (hz:z=if z1<0 then z2 else z1) {X:VltN×Int} {F:Nat→VltN×Int}:
  (z<0→(if fst8 (zba V nm)<8 then F (fst8 (zba V nm)) else if fst8 (fun i=>zwa V (2*i))<8 then F (fst8 (fun i=>zwa V (2*i))) else X)=X)∧(¬z<0→∃ p:Nat,z=(p:Int)∧p<8∧(if fst8 (zba V nm)<8 then F (fst8 (zba V nm)) else if fst8 (fun i=>zwa V (2*i))<8 then F (fst8 (fun i=>zwa V (2*i))) else X)=F p):=by
 subst h1 h2
 unfold idx8 at hz
 by_cases a:fst8 (zba V nm)<8
 ·rw [if_pos a,if_neg (by omega)] at hz
  rw [if_pos a]
  exact ⟨fun h=>by omega,fun _=>⟨_,hz,a,rfl⟩⟩
 ·rw [if_neg a,if_pos (by omega)] at hz
  rw [if_neg a]
  by_cases b:fst8 (fun i=>zwa V (2*i))<8
  ·rw [if_pos b] at hz
   rw [if_pos b]
   exact ⟨fun h=>by omega,fun _=>⟨_,hz,b,rfl⟩⟩
  ·rw [if_neg b] at hz
   rw [if_neg b]
   exact ⟨fun _=>rfl,fun h=>by omega⟩
theorem rrec6_is (r:RecN) (Vr:RecV) (ho:RecOk r) (q:Bool) (l:List UInt8) (h1:zia r=q) (h2:recE r=l) (w:World) (hm:RecIs w r Vr):Calls Tryz.prog 52 #[.agg (recA r Vr)] w fun e w'=>∃ t,e=.returned t∧∃ v,t=.tuple #[v,.bool q]∧Byt w' w.heap.size v l∧Below w.heap.size w w':=by
 subst h1 h2;exact (rrecord_any r Vr ho w hm).mono fun e w' ⟨v,k1,k2,k3⟩=>⟨_,k1,v,rfl,k2,k3⟩
theorem rfree_is {K:Nat} (gx gc:Nat) (V:VltN) (L:Int) (s n:Nat→Value) (hi:InvV K V) {z:Int} (hz:idx8 (fun i=>zwa V (2*i))=z) (w:World) (h:HasX w gx gc V L s n):Calls Tryz.prog 54 #[(zO gx)] w fun e w'=>e=.returned (zI z)∧Below w.heap.size w w':=by
 subst hz;exact rfree_any gx gc V L s n hi w h
theorem xput_any (gx gc:Nat) {K:Nat} (V:VltN) (s n:Nat→Value) (hi:InvV K V) (hK:K<255) (hL:LeftOk V) (r:RecN) (Vr:RecV) (hro:RecOk r) (w:World) (ho:XOk w gx gc V s n) (hR:RecIs w r Vr):
  Calls Tryz.prog 23 #[(zO gx),.agg (recA r Vr)] w fun e w'=>∃ t,e=.returned t∧t=zI (putV V r).2∧XTo w w' gx gc (zo 18 s n) (putV V r).1:=by
 have h:=ho.has
 obtain ⟨L,hLv⟩:∃ x,zgc V=x:=⟨_,rfl⟩
 rw [hLv] at h
 obtain ⟨dd,hd⟩:∃ x,V.dd=x:=⟨_,rfl⟩
 have hx0:=h.hx
 rw [hd] at hx0
 obtain ⟨qK,hqK⟩:∃ x,zia r=x:=⟨_,rfl⟩
 obtain ⟨l,hl⟩:∃ x,recE r=x:=⟨_,rfl⟩
 have hll:l.length≤1000:=by rw [←hl];exact Nat.le_trans (recE_bd r) (by decide)
 obtain ⟨z1,hz1⟩:∃ x,idx8 (zba V r.s)=x:=⟨_,rfl⟩
 obtain ⟨z2,hz2⟩:∃ x,idx8 (fun i=>zwa V (2*i))=x:=⟨_,rfl⟩
 unfold putV
 rw [hd,hqK,hl]
 refine zk (args:=[(zO gx),.agg (recA r Vr)]) 33 Tryz.func23 rfl rfl rfl ?_
 intro fa F
 have M:=Mx.start w
 replace M:=M.argO 0 hx0 (fun b e=>by cases e)
 replace M:=M.argO 1 h.hc (fun b e=>by cases e)
 refine zT fun _ hK1=>zq rfl rfl F rfl M 2 (t:=37) (c:=recA r Vr) (by unfold execOp;simp only [(F 1 rfl)];kernel_rfl) ?_
 intro g2 a2 w2 F2 M2
 refine rm rfl F2 fun _ F3=>hK1 _ _ (zSk fun _ hK4=>zT fun _ hK5=>zB 4 [(0,(zO gx)),(3,(zO g2)),(4,zI 0),(11,.bool dd)] [0] (zx (M2.roB (k:=0) rfl) dnil) [gx] F3 fun _ F6=>?_)
 refine hK5 _ _ ?_
 cases dd
 ·refine wp_cond_false (F6 11 rfl) (wp_skip (hK4 _ _ (zT fun _ hK7=>zc (w':=w2) rfl rfl F6 rfl _ (zdb _ _ rfl (F6 3 rfl) (M2.blk (k:=2) rfl) (recA r Vr) (zib rfl) Tryz.underlying37 rfl (by kernel_rfl)) fun _ F8=>?_)))
  refine zh rfl rfl F8 rfl rfl (zE Tryz.func52 rfl) #[.agg (recA r Vr)] (zca (F8 13 rfl)) (rrec6_is r Vr hro qK l hqK hl w2 ⟨hR.h2.step M2.below,hR.h5.step M2.below⟩) ?_
  rintro _ w9 a9 ⟨v9,rfl,hv9,b9⟩ F9
  have M9:=M2.newO b9 3 hv9
  clear M2 b9 hv9
  obtain ⟨A9,c9,rfl⟩:=(M9.isO (k:=3) rfl).shape
  refine zB 5 [(0,(zO gx)),(3,(zO g2)),(4,zI 0),(5,.slice A9 (l).length c9),(6,.bool qK)] [] dnil [] F9 fun _ F10=>?_
  refine hK7 _ _ (zSk fun _ hK11=>zT fun _ hK12=>rm rfl F10 fun _ F13=>?_)
  cases qK
  ·refine zc (w':=w9) rfl rfl F13 rfl (.bool true) (zjb _ _ rfl (F13 17 rfl)) fun _ F14=>?_
   refine hK12 _ _ (wp_cond_true (F14 18 rfl) (zT fun _ hK15=>rm rfl F14 fun _ F16=>hK15 _ _ (wp_ret ?_)))
   try simp only [Exit.then,Exit.inBlock,Exit.jump]
   exact bodyPost_ret (res1 rfl (F16.get rfl)) F16.defers ⟨_,rfl,(by
    try simp only [if_true,if_false,Bool.false_eq_true,reduceIte,reduceCtorEq]
    exact ⟨(by first | rfl | trivial),ho.to M9.below⟩)⟩
  ·refine zc (w':=w9) rfl rfl F13 rfl (.bool false) (zjb _ _ rfl (F13 17 rfl)) fun _ F17=>?_
   refine hK12 _ _ (wp_cond_false (F17 18 rfl) (wp_skip (hK11 _ _ (zT fun _ hK18=>zB 3 [(0,(zO gx)),(4,zI 0),(5,.slice A9 (l).length c9),(19,(zO gx)),(21,.string r.s)] [0] (zx (M9.blk (k:=2) rfl) dnil) [g2] F17 fun _ F19=>?_))))
   refine zh rfl rfl F19 rfl rfl (zE Tryz.func53 rfl) #[(zO gx),.string r.s] (zea (F19 19 rfl) (F19 21 rfl)) (zda ((rfind_is gx gc V L s n hi r.s hz1 w9 (h.step M9.below)))) ?_
   rintro _ w20 a20 ⟨rfl,b20⟩ F20
   have M20:=M9.step b20
   refine rm rfl F20 fun _ F21=>hK18 _ _ (zSk fun K22 hK22=>?_)
   have J22:∀ (zi:Int) (aJ:Act) (wJ:World),(zi=if z1<0 then z2 else z1)→Fx 33 aJ [(0,(zO gx)),(5,.slice A9 (l).length c9),(7,zI zi)]→Mx none w wJ [(0,blkO gx 72 (#[.slice (some ⟨gc,0,none⟩) 18 18,zI L,.bool false])),(1,blkO gc 63 (celA V.c s n)),(2,blkR g2 37 (recA r Vr)),(3,ownR l (.slice A9 (l).length c9))]→K22 aJ wJ:=by
    intro zi a22 w22 I22 F22 M22
    refine hK22 _ _ ?_
    obtain ⟨pn,py⟩:=put_idx hz1 hz2 I22 (X:=(V,7)) (F:=fun k=>((sayW V (2*k) l).1,if (sayW V (2*k) l).2=true then 0 else 10))
    refine zSk fun _ hK23=>zT fun _ hK24=>rm rfl F22 fun _ F25=>?_
    by_cases h26:zi<0
    ·refine zc (w':=w22) rfl rfl F25 rfl (.bool true) (zna _ _ _ _ rfl (F25 27 rfl) rfl (decide_eq_true h26)) fun _ F27=>?_
     refine hK24 _ _ (wp_cond_true (F27 28 rfl) (zT fun _ hK28=>rm rfl F27 fun _ F29=>hK28 _ _ (wp_ret ?_)))
     try simp only [Exit.then,Exit.inBlock,Exit.jump]
     exact bodyPost_ret (res1 rfl (F29.get rfl)) F29.defers ⟨_,rfl,(by
      try simp only [if_true,if_false,Bool.false_eq_true,reduceIte,reduceCtorEq]
      rw [pn h26]
      exact ⟨(by first | rfl | trivial),ho.to M22.below⟩)⟩
    ·obtain ⟨p,rfl,hp8,e2⟩:=py h26
     refine zc (w':=w22) rfl rfl F25 rfl (.bool false) (zna _ _ _ _ rfl (F25 27 rfl) rfl (decide_eq_false h26)) fun _ F30=>?_
     refine hK24 _ _ ?_
     refine wp_cond_false (F30 28 rfl) (wp_skip (hK23 _ _ (zT fun _ hK31=>rm rfl F30 fun _ F32=>rm rfl F32 fun _ F33=>rm rfl F33 fun _ F34=>zh rfl rfl F34 rfl rfl (zE Tryz.func55 rfl) #[(zO gx),zI (p:Int),.slice A9 (l).length c9] (args3 (F34 29 rfl) (F34 30 rfl) (F34 31 rfl)) (xwrite_any gx gc V s n hi hK hL hd p (by omega) l (.slice A9 (l).length c9) hll w22 (ho.step M22.below) (M22.isO (k:=3) rfl) (fun b hb=>⟨fun e=>M22.dis 3 0 _ _ rfl rfl (by decide) rfl b (z1a hb) e,fun e=>M22.dis 3 1 _ _ rfl rfl (by decide) rfl b (z1a hb) e⟩)) ?_)))
     rintro _ w35 a35 ⟨rfl,hw35⟩ F35
     refine rm rfl F35 fun _ F36=>hK31 _ _ (wp_ret ?_)
     try simp only [Exit.then,Exit.inBlock,Exit.jump]
     exact bodyPost_ret (res1 rfl (F36.get rfl)) F36.defers ⟨_,rfl,(by
      try simp only [if_true,if_false,Bool.false_eq_true,reduceIte,reduceCtorEq]
      rw [e2]
      exact ⟨(by first | rfl | trivial),XTo.before M22.below hw35⟩)⟩
   refine zT fun _ hK37=>rm rfl F21 fun _ F38=>?_
   by_cases h39:z1<0
   ·refine zc (w':=w20) rfl rfl F38 rfl (.bool true) (zna _ _ _ _ rfl (F38 23 rfl) rfl (decide_eq_true h39)) fun _ F40=>?_
    refine hK37 _ _ (wp_cond_true (F40 24 rfl) (zR (rm rfl F40 fun _ F41=>zh rfl rfl F41 rfl rfl (zE Tryz.func54 rfl) #[(zO gx)] (zca (F41 25 rfl)) (zda ((rfree_is gx gc V L s n hi hz2 w20 (h.step M20.below)))) ?_)))
    rintro _ w42 a42 ⟨rfl,b42⟩ F42
    have M42:=M20.step b42
    refine rm rfl F42 fun _ F43=>?_
    exact J22 z2 _ _ (by rw [if_pos h39]) (F43.sb) (M42.sb)
   ·refine zc (w':=w20) rfl rfl F38 rfl (.bool false) (zna _ _ _ _ rfl (F38 23 rfl) rfl (decide_eq_false h39)) fun _ F44=>?_
    refine hK37 _ _ (wp_cond_false (F44 24 rfl) (wp_skip ?_))
    exact J22 z1 _ _ (by rw [if_neg h39]) (F44.sb) (M20.sb)
 ·refine wp_cond_true (F6 11 rfl) (zT fun _ hK45=>rm rfl F6 fun _ F46=>hK45 _ _ (wp_ret ?_))
  try simp only [Exit.then,Exit.inBlock,Exit.jump]
  exact bodyPost_ret (res1 rfl (F46.get rfl)) F46.defers ⟨_,rfl,(by
   try simp only [if_true,if_false,Bool.false_eq_true,reduceIte,reduceCtorEq]
   exact ⟨(by first | rfl | trivial),ho.to M2.below⟩)⟩
theorem idx8_yes {p:Nat→Bool} {z:Int} (h:idx8 p=z) (hz:¬z<0):∃ k:Nat,z=(k:Int)∧k<8∧fst8 p=k:=by
 subst h
 unfold idx8 at hz ⊢
 split
 ·rename_i h8;exact ⟨_,rfl,h8,rfl⟩
 ·rename_i h8;rw [if_neg h8] at hz;omega
theorem idx8_not {p:Nat→Bool} {z:Int} (h:idx8 p=z) (hz:z<0):¬fst8 p<8:=fun h8=>by
 subst h;unfold idx8 at hz;rw [if_pos h8] at hz;omega
theorem xgone_any (gx gc:Nat) {K:Nat} (V:VltN) (s n:Nat→Value) (hi:InvV K V) (hK:K<255) (hL:LeftOk V) (nm:ByteArray) (w:World) (ho:XOk w gx gc V s n):
  Calls Tryz.prog 41 #[(zO gx),.string nm] w fun e w'=>∃ t,e=.returned t∧t=zI (goneV V nm).2∧XTo w w' gx gc (zo 18 s n) (goneV V nm).1:=by
 have h:=ho.has
 obtain ⟨L,hLv⟩:∃ x,zgc V=x:=⟨_,rfl⟩
 rw [hLv] at h
 obtain ⟨dd,hd⟩:∃ x,V.dd=x:=⟨_,rfl⟩
 have hx0:=h.hx
 rw [hd] at hx0
 obtain ⟨z1,hz1⟩:∃ x,idx8 (zba V nm)=x:=⟨_,rfl⟩
 unfold goneV
 rw [hd]
 refine zk (args:=[(zO gx),.string nm]) 18 Tryz.func41 rfl rfl rfl ?_
 intro fa F
 have M:=Mx.start w
 replace M:=M.argO 0 hx0 (fun b e=>by cases e)
 replace M:=M.argO 1 h.hc (fun b e=>by cases e)
 refine zT fun _ hK1=>rm rfl F fun _ F2=>hK1 _ _ (zSk fun _ hK3=>zT fun _ hK4=>zB 4 [(0,(zO gx)),(1,.string nm),(4,zI 0),(9,.bool dd)] [0] (zx (M.roB (k:=0) rfl) dnil) [gx] F2 fun _ F5=>?_)
 refine hK4 _ _ ?_
 cases dd
 ·refine wp_cond_false (F5 9 rfl) (wp_skip (hK3 _ _ (zT fun _ hK6=>rm rfl F5 fun _ F7=>rm rfl F7 fun _ F8=>zh rfl rfl F8 rfl rfl (zE Tryz.func53 rfl) #[(zO gx),.string nm] (zea (F8 10 rfl) (F8 11 rfl)) (zda ((rfind_is gx gc V L s n hi nm hz1 w (h.step M.below)))) ?_)))
  rintro _ w9 a9 ⟨rfl,b9⟩ F9
  have M9:=M.step b9
  refine rm rfl F9 fun _ F10=>hK6 _ _ (zSk fun _ hK11=>zT fun _ hK12=>rm rfl F10 fun _ F13=>?_)
  by_cases h14:z1<0
  ·refine zc (w':=w9) rfl rfl F13 rfl (.bool true) (zna _ _ _ _ rfl (F13 13 rfl) rfl (decide_eq_true h14)) fun _ F15=>?_
   refine hK12 _ _ (wp_cond_true (F15 14 rfl) (zT fun _ hK16=>rm rfl F15 fun _ F17=>hK16 _ _ (wp_ret ?_)))
   try simp only [Exit.then,Exit.inBlock,Exit.jump]
   exact bodyPost_ret (res1 rfl (F17.get rfl)) F17.defers ⟨_,rfl,(by
    try simp only [if_true,if_false,Bool.false_eq_true,reduceIte,reduceCtorEq]
    rw [if_neg (idx8_not hz1 h14)]
    exact ⟨(by first | rfl | trivial),ho.to M9.below⟩)⟩
  ·obtain ⟨p,rfl,hp8,e2⟩:=idx8_yes hz1 h14
   refine zc (w':=w9) rfl rfl F13 rfl (.bool false) (zna _ _ _ _ rfl (F13 13 rfl) rfl (decide_eq_false h14)) fun _ F18=>?_
   refine hK12 _ _ (wp_cond_false (F18 14 rfl) (wp_skip (hK11 _ _ (zT fun _ hK19=>rm rfl F18 fun _ F20=>rm rfl F20 fun _ F21=>zh rfl rfl F21 rfl rfl (zE Tryz.func55 rfl) #[(zO gx),zI (p:Int),zN] (args3 (F21 15 rfl) (F21 16 rfl) rfl) (xwrite_any gx gc V s n hi hK hL hd p (by omega) [] (zN) (Nat.zero_le _) w9 (ho.step M9.below) (zka _) (fun b hb=>absurd hb (zta b))) ?_))))
   rintro _ w22 a22 ⟨rfl,hw22⟩ F22
   refine rm rfl F22 fun _ F23=>hK19 _ _ (wp_ret ?_)
   try simp only [Exit.then,Exit.inBlock,Exit.jump]
   exact bodyPost_ret (res1 rfl (F23.get rfl)) F23.defers ⟨_,rfl,(by
    try simp only [if_true,if_false,Bool.false_eq_true,reduceIte,reduceCtorEq]
    rw [e2,if_pos hp8]
    exact ⟨(by first | rfl | trivial),XTo.before M9.below hw22⟩)⟩
 ·refine wp_cond_true (F5 9 rfl) (zT fun _ hK24=>rm rfl F5 fun _ F25=>hK24 _ _ (wp_ret ?_))
  try simp only [Exit.then,Exit.inBlock,Exit.jump]
  exact bodyPost_ret (res1 rfl (F25.get rfl)) F25.defers ⟨_,rfl,(by
   try simp only [if_true,if_false,Bool.false_eq_true,reduceIte,reduceCtorEq]
   exact ⟨(by first | rfl | trivial),ho.to M.below⟩)⟩
theorem XTo.fresh {w w1 w':World} {gx gc:Nat} {fp:Nat→Prop} {V:VltN} (hb:Below w.heap.size w w1) (h:XTo w1 w' gx gc fp V) (hx:w.heap.size≤gx) (hc:w.heap.size≤gc):Below w.heap.size w w':=
 ⟨h.os.trans hb.os,h.tape.trans hb.tape,h.out.trans hb.output,Nat.le_trans hb.size h.size,fun k hk=>(h.stay k (by omega) (by omega) (Nat.lt_of_lt_of_le hk hb.size)).trans (hb.block k hk)⟩
theorem left0:LeftOk zeroV:=fun e=>by cases e
theorem era0:(sayW zeroV 16 (zy ((0+1:Nat):Int))).1=ageW zeroV:=by unfold ageW;rw [num0];rfl
theorem xok0 {w:World} {gx gc:Nat} (hx:w.heap[gx]? = some (.cells #[.slice (some ⟨gc,0,none⟩) 18 18,zI (-1),.bool false] 72 (0,0))) (hc:w.heap[gc]? = some (.cells (celA (fun _=>nilC) nilS nilS) 63 (0,0))) (hne:gx≠gc):XOk w gx gc zeroV nilS nilS:=
 ⟨⟨hx,hc,fun _ _=>zka _,fun _ _=>zka _⟩,hne,fun _ _=>⟨⟨zta _,zta _⟩,zta _,zta _⟩⟩
theorem xnew_any  (w:World):
  Calls Tryz.prog 15 #[] w fun e w'=>∃ t,e=.returned t∧∃ gx gc s n,t=(zO gx)∧XOk w' gx gc (ageW zeroV) s n∧w.heap.size≤gx∧w.heap.size≤gc∧(∀ b,zo 18 s n b→w.heap.size≤b)∧Below w.heap.size w w':=by
 refine zk (args:=[]) 8 Tryz.func15 rfl rfl rfl ?_
 intro fa F
 have M:=Mx.start w
 refine zT fun _ hK1=>rm rfl F fun _ F2=>hK1 _ _ (zT fun _ hK3=>wl_allocS rfl rfl F2 rfl M 0 (t:=63) (c:=celA (fun _=>nilC) nilS nilS) (k:=18) (m:=18) (y_mkCel _ _ _ Tryz.underlying49 rfl rfl rfl) ?_)
 intro g4 a4 w4 F4 M4
 refine zc (w':=w4) rfl rfl F4 rfl (.agg (#[.slice (some ⟨g4,0,none⟩) 18 18,zI (-1),.bool false])) (by unfold execOp;simp only [List.map_toArray,List.map_cons,List.map_nil,(F4 2 rfl)];kernel_rfl) fun _ F5=>?_
 refine zq rfl rfl F5 rfl M4 1 (t:=72) (c:=#[.slice (some ⟨g4,0,none⟩) 18 18,zI (-1),.bool false]) (by unfold execOp;simp only [(F5 3 rfl)];kernel_rfl) ?_
 intro g6 a6 w6 F6 M6
 refine rm rfl F6 fun _ F7=>hK3 _ _ (zT fun _ hK8=>rm rfl F7 fun _ F9=>?_)
 have ne_:g6≠g4:=fun e=>M6.dis 1 0 _ _ rfl rfl (by decide) rfl _ rfl e
 have lx_:=(M6.own 1 _ rfl rfl _ rfl).resolve_right (fun e=>by cases e)
 have lc_:=(M6.own 0 _ rfl rfl _ rfl).resolve_right (fun e=>by cases e)
 refine zh rfl rfl F9 rfl rfl (zE Tryz.func40 rfl) #[(zO g6)] (zca (F9 5 rfl)) (xera_any g6 g4 zeroV nilS nilS (zero_inv 0) (by decide) left0 rfl 0 (by decide) (bootR_zero (any0 16)) era0 w6 (xok0 (M6.blk (k:=1) rfl) (M6.blk (k:=0) rfl) ne_)) ?_
 rintro _ w10 a10 hw10 F10
 refine hK8 _ _ (zT fun _ hK11=>rm rfl F10 fun _ F12=>rm rfl F12 fun _ F13=>hK11 _ _ (wp_ret ?_))
 exact bodyPost_ret (res1 rfl (F13.get rfl)) F13.defers (by
  obtain ⟨s_,n_,ho_,hf_⟩:=hw10.ok
  exact ⟨_,rfl,_,_,s_,n_,rfl,ho_,lx_,lc_,fun b hb=>(hf_ b hb).elim (fun h=>absurd h (rows_nil b)) (Nat.le_trans M6.le),XTo.fresh M6.below hw10 lx_ lc_⟩)
theorem XOk.grow {w w':World} {gx gc g:Nat} {V:VltN} {s n:Nat→Value} (h:XOk w gx gc V s n) (hb:w.grownBy w' (some g)) (hg:¬(xR gx gc V s n).fp g):XOk w' gx gc V s n:=xR_dep _ _ (Same.of_grown hb fun q hq e=>hg (by cases e;exact hq)) h
structure VTo (w w':World) (g:Nat) (fp:Nat→Prop) (V':VltN) (s' n':Nat→Value):Prop where
 rows:RowsV w' g V'.c s' n'
 fpt:∀ b,zo 18 s' n' b→fp b∨w.heap.size≤b
 blk:w'.heap[g]? = some (.cells (vltA V' s' n') 80 (0,0))
 grown:w.grownBy w' (some g)
def StepV (V V':VltN):Prop:=(∃ r,RecOk r∧V'=(putV V r).1)∨∃ nm,V'=(goneV V nm).1
theorem Mx.vmut {G:Option Nat} {w0 w:World} {R:List (Nat×Res)} {g v:Nat} {V V':VltN} {s n:Nat→Value} {fp:Nat→Prop} {f:FuncId} {args:Array Value} {x:Value} (M:Mx G w0 w R) (kg kr kp:Nat) (hg:look R kg=some (blkR g 80 (vltA V s n))) (hr:look R kr=some (zza 0 18 V.c s n)) (hp:look R kp=some (pureR (∀ b,zo 18 s n b→fp b∨v≤b))) (hv:v≤w.heap.size)
  (hc:Calls Tryz.prog f args w fun e w'=>∃ t,e=.returned t∧t=x∧∃ s' n',RowsV w' g V'.c s' n'∧(∀ b,zo 18 s' n' b→zo 18 s n b∨w.heap.size≤b)∧w'.heap[g]? = some (.cells (vltA V' s' n') 80 (0,0))∧w.grownBy w' (some g)):
  Calls Tryz.prog f args w fun e w'=>∃ t,e=.returned t∧∃ u:(Nat→Value)×(Nat→Value),Mx G w0 w' ((kp,pureR (∀ b,zo 18 u.1 u.2 b→fp b∨v≤b))::(kr,zza 0 18 V'.c u.1 u.2)::(kg,blkR g 80 (vltA V' u.1 u.2))::R)∧t=x:=
 hc.mono fun e w' ⟨t,h1,h2,s',n',h3,h4,h5,h6⟩=>⟨t,h1,(s',n'),(M.vault hg hr h6 h5 h3 h4).pure_ kp (fun b hb=>(h4 b hb).elim ((M.at_ kp _ hp:∀ b,zo 18 s n b→fp b∨v≤b) b) fun h=>.inr (Nat.le_trans hv h)),h2⟩
def setT (r:RecN) (t:Int):RecN:={ r with t:=t }
theorem setT_ok {r:RecN} (h:RecOk r) {t:Int} (ht:-9223372036854775808≤t∧t<9223372036854775808):RecOk (setT r t):=⟨h.p,ht,h.c,h.z,h.s,h.a,h.b⟩
theorem lstep_any (g gx gc:Nat) {K:Nat} (V:VltN) (s n sx nx:Nat→Value) (hi:InvV K V) (hK:K<255) (hL:LeftOk V) (b:List UInt8) (bv tv:Value) (hb:b.length≤1000) (z:Int) (hz:0≤z∧z<1073741824) (h7:z%12≤7) (w:World) (hr:RowsV w g V.c s n) (hg:w.heap[g]? = some (.cells (vltA V s n) 80 (0,0))) (hx:XOk w gx gc V sx nx) (hgx:¬(xR gx gc V sx nx).fp g) (hB:IsB w b bv) (hBg:¬bfp bv g):
  Calls Tryz.prog 16 #[(zO g),(zO gx),zI z,bv,tv] w fun e w'=>∃ t,e=.returned t∧t=.bool true∧∃ V',StepV V V'∧∃ wm s' n',VTo w wm g (zo 18 s n) V' s' n'∧XTo wm w' gx gc (zo 18 sx nx) V':=by
 obtain ⟨k,hk⟩:∃ x,z.tdiv 12=x:=⟨_,rfl⟩
 have hz12:z.tdiv 12=z / 12:=Int.tdiv_eq_ediv_of_nonneg hz.1
 obtain ⟨q,hq⟩:∃ x,z%12=x:=⟨_,rfl⟩
 have hq7:0≤q∧q≤7:=by omega
 have hkb:0≤k∧k<1073741824:=by omega
 obtain ⟨nj,hnj,hnj10⟩:∃ j:Nat,k%10=(j:Int)∧j<10:=⟨(k%10).toNat,by omega,by omega⟩
 obtain ⟨r,hr0⟩:∃ r,recK k b ((k.tdiv 23)%10).toNat=r:=⟨_,rfl⟩
 obtain ⟨ro,rp⟩:=rec6_ok _ _ hr0
 obtain ⟨Ab,cb,rfl⟩:=hB.shape
 refine zk (args:=[(zO g),(zO gx),zI z,.slice Ab b.length cb,tv]) 117 Tryz.func16 rfl rfl rfl ?_
 intro fa F
 have M:=(Mx.rowsG hr hg 1).pure_ 2 (p:=∀ b,zo 18 s n b→zo 18 s n b∨w.heap.size≤b) (fun b h=>.inl h)
 refine zT fun _ hK21=>rm rfl F fun _ F22=>hK21 _ _ (zT fun _ hK23=>rm rfl F22 fun _ F24=>zc (w':=w) rfl rfl F24 rfl (zI k) (y_quoT _ _ _ _ rfl (F24 20 rfl) rfl (by omega) (by decide) hk) fun _ F25=>?_)
 refine rm rfl F25 fun _ F26=>hK23 _ _ (zSk fun _ hK27=>zT fun _ hK28=>rm rfl F26 fun _ F29=>zc (w':=w) rfl rfl F29 rfl (zI q) (y_remI _ _ _ _ rfl (F29 22 rfl) rfl (by omega) (by omega) hq) fun _ F30=>?_)
 refine hK28 _ _ (wp_block (zSk fun K31 hK31=>?_))
 have J31:∀ (b49:Bool) (aJ:Act) (wJ:World),(b49=decide (q≤5))→Fx 117 aJ [(0,(zO g)),(1,(zO gx)),(3,.slice Ab b.length cb),(4,tv),(11,zI k),(23,zI q),(49,.bool b49)]→Mx (some g) w wJ [(1,zza 0 18 V.c s n),(0,blkR g 80 (vltA V s n)),(2,pureR (∀ b,zo 18 s n b→zo 18 s n b∨w.heap.size≤b))]→K31 aJ wJ:=by
  intro b49 a31 w31 I31 F31 M31
  refine hK31 _ _ ?_
  have h49:=I31
  cases b49
  ·have hq5:¬q≤5:=of_decide_eq_false h49.symm
   refine wp_cond_false (F31 49 rfl) (zSk fun K32 hK32=>?_)
   have J32:∀ (_u:Unit) (aJ:Act) (wJ:World),(True)→Fx 117 aJ [(0,(zO g)),(1,(zO gx)),(3,.slice Ab b.length cb),(4,tv),(11,zI k),(23,zI q),(70,.bool true)]→Mx (some g) w wJ [(1,zza 0 18 V.c s n),(0,blkR g 80 (vltA V s n)),(2,pureR (∀ b,zo 18 s n b→zo 18 s n b∨w.heap.size≤b))]→K32 aJ wJ:=by
    intro _u a32 w32 I32 F32 M32
    refine hK32 _ _ (wp_cond_true (F32 70 rfl) (zT fun _ hK33=>zh rfl rfl F32 rfl rfl (zE Tryz.func34 rfl) #[] (args0) (names6_ex w32) ?_))
    rintro _ w34 a34 ⟨gq34,rfl,hg34,hc34,b34⟩ F34
    have M34:=M32.newb b34 3 hg34 hc34
    clear M32 b34 hg34 hc34
    refine rm rfl F34 fun _ F35=>zc (w':=w34) rfl rfl F35 rfl (zI (nj:Int)) (y_remI _ _ _ _ rfl (F35 74 rfl) rfl (by omega) (by omega) hnj) fun _ F36=>?_
    refine zc (w':=w34) rfl rfl F36 rfl (zP gq34 nj) (zkc 45 (s:=1) Tryz.underlying45 (by kernel_rfl) _ _ rfl (F36 73 rfl) (F36 75 rfl) rfl hnj10 (by omega)) fun _ F37=>?_
    refine zc (w':=w34) rfl rfl F37 rfl (.string (nmK nj)) (zha _ _ rfl (F37 76 rfl) (M34.blk (k:=3) rfl) (nmA_at (show nj<10 by omega)) Tryz.underlying9 rfl) fun _ F38=>?_
    refine rm rfl F38 fun _ F39=>hK33 _ _ (zT fun _ hK40=>rm rfl F39 fun _ F41=>rm rfl F41 fun _ F42=>?_)
    obtain ⟨V2,hV2⟩:∃ x,(goneV V (nmK nj)).1=x:=⟨_,rfl⟩
    obtain ⟨z2,hz2⟩:∃ x,(goneV V (nmK nj)).2=x:=⟨_,rfl⟩
    refine zh rfl rfl F42 rfl rfl (zE Tryz.func27 rfl) #[(zO g),.string (nmK nj)] (zea (F42 78 rfl) (F42 79 rfl)) (gone_is g V s n (nmK nj) hi (by omega) V2 z2 hV2 hz2 w34  (M34.rowsV (i:=1) (k:=0) rfl rfl (by decide)) (M34.blk (k:=0) rfl)) ?_
    rintro _ w43 a43 ⟨rfl,s43,n43,hr43,ht43,hc43,hg43⟩ F43
    have hto_:=fun b hb=>(ht43 b hb).imp id (Nat.le_trans M34.le)
    have M43:=M34.vault (kg:=0) (kr:=1) rfl rfl hg43 hc43 hr43 ht43
    clear M34 hg43 hc43 hr43 ht43
    refine rm rfl F43 fun _ F44=>rm rfl F44 fun _ F45=>zh rfl rfl F45 rfl rfl (zE Tryz.func41 rfl) #[(zO gx),.string (nmK nj)] (zea (F45 81 rfl) (F45 82 rfl)) (hz2▸hV2▸xgone_any gx gc V sx nx hi hK hL (nmK nj) w43 (hx.grow M43.grown hgx)) ?_
    rintro _ w46 a46 ⟨rfl,hw46⟩ F46
    refine zc (w':=w46) rfl rfl F46 rfl (.bool true) (zva _ _ _ _ rfl (F46 80 rfl) (F46 83 rfl) Tryz.underlying3 (zlb rfl)) fun _ F47=>?_
    refine rm rfl F47 fun _ F48=>hK40 _ _ (wp_ret ?_)
    try simp only [Exit.then,Exit.inBlock,Exit.jump]
    exact bodyPost_ret (res1 rfl (F48.get rfl)) F48.defers ⟨_,rfl,rfl,V2,(.inr ⟨_,hV2.symm⟩),_,s43,n43,⟨M43.rowsV (i:=1) (k:=0) rfl rfl (by decide),hto_,M43.blk (k:=0) rfl,M43.grown⟩,hw46⟩
   refine zT fun _ hK49=>?_
   by_cases h50:q=6
   ·refine zc (w':=w31) rfl rfl F31 rfl (.bool true) (zva _ _ _ _ rfl (F31 23 rfl) rfl Tryz.underlying3 (zlb h50)) fun _ F51=>?_
    refine rm rfl F51 fun _ F52=>hK49 _ _ (wp_cond_true (F52 70 rfl) (wp_skip ?_))
    exact J32 () _ _ trivial (F52.sb) (M31.sb)
   ·refine zc (w':=w31) rfl rfl F31 rfl (.bool false) (zva _ _ _ _ rfl (F31 23 rfl) rfl Tryz.underlying3 (zhb h50)) fun _ F53=>?_
    refine rm rfl F53 fun _ F54=>hK49 _ _ (wp_cond_false (F54 70 rfl) (zR ?_))
    by_cases h55:q=7
    ·refine zc (w':=w31) rfl rfl F54 rfl (.bool true) (zva _ _ _ _ rfl (F54 23 rfl) rfl Tryz.underlying3 (zlb h55)) fun _ F56=>?_
     refine rm rfl F56 fun _ F57=>?_
     exact J32 () _ _ trivial (F57.sb) (M31.sb)
    ·omega
  ·have hq5:q≤5:=of_decide_eq_true h49.symm
   refine wp_cond_true (F31 49 rfl) (zT fun _ hK58=>rm rfl F31 fun _ F59=>rm rfl F59 fun _ F60=>zh rfl rfl F60 rfl rfl (zE Tryz.func21 rfl) #[zI k,.slice Ab b.length cb] (zea (F60 56 rfl) (F60 57 rfl)) (rec6_is k b (.slice Ab b.length cb) (by omega) hb r hr0 w31 (hB.grow M31.grown hBg)) ?_)
   rintro _ w61 a61 ⟨U61,rfl,is61,lo61,b61⟩ F61
   have M61:=M31.newRec b61 is61 lo61 3 4
   clear M31 b61 lo61
   refine zq rfl rfl F61 rfl M61 5 (t:=37) (c:=recA ⟨0, "".toUTF8,[],0,0,[],0,0,0⟩ ⟨zN,zN⟩) (by unfold execOp;kernel_rfl) ?_
   intro g62 a62 w62 F62 M62
   refine zt rfl rfl F62 M62 (k:=5) rfl _ _ _ rfl (F62 12 rfl) (F62 58 rfl) (recA r U61) _ rfl (zL rfl) (z3a (w:=w62) ⟨(M62.isb (k:=3) rfl),(M62.isb (k:=4) rfl)⟩) (zfa rfl) (by kernel_rfl) ?_
   intro w63 M63
   refine hK58 _ _ (zSk fun _ hK64=>zT fun _ hK65=>rm rfl F62 fun _ F66=>zc (w':=w63) rfl rfl F66 rfl (zI (k%41)) (y_remI _ _ _ _ rfl (F66 59 rfl) rfl (by omega) (by omega) rfl) fun _ F67=>?_)
   by_cases h68:(k%41)=0
   ·refine zc (w':=w63) rfl rfl F67 rfl (.bool true) (zva _ _ _ _ rfl (F67 60 rfl) rfl Tryz.underlying3 (zlb h68)) fun _ F69=>?_
    refine hK65 _ _ (wp_cond_true (F69 61 rfl) (zR (zc (w':=w63) rfl rfl F69 rfl (zP g62 20) (y_fa (off:=20) rfl (F69 12 rfl) (by kernel_rfl) rfl) fun _ F70=>?_)))
    refine zt rfl rfl F70 M63 (k:=5) rfl _ _ _ rfl (F70 62 rfl) rfl (#[zI 300]) (recA ⟨r.p,r.s,r.l2,r.a,r.b,r.l5,300,r.c,r.z⟩ ⟨U61.v2,U61.v5⟩) rfl (zL rfl) (zcc _ _) (by kernel_rfl) (by kernel_rfl) ?_
    intro w71 M71
    refine hK64 _ _ (zSk fun _ hK72=>?_)
    obtain ⟨V2,hV2⟩:∃ x,(putV V (setT r 300)).1=x:=⟨_,rfl⟩
    obtain ⟨z2,hz2⟩:∃ x,(putV V (setT r 300)).2=x:=⟨_,rfl⟩
    refine zpa F70 [fun vE=>vE=(zO g),fun vE=>vE=.agg (recA ⟨r.p,r.s,r.l2,r.a,r.b,r.l5,300,r.c,r.z⟩ ⟨U61.v2,U61.v5⟩),fun vE=>vE=zI z2,fun vE=>vE=(zO gx),fun vE=>vE=.agg (recA ⟨r.p,r.s,r.l2,r.a,r.b,r.l5,300,r.c,r.z⟩ ⟨U61.v2,U61.v5⟩)] (JQ (some g) w (fun SV=>True) (fun (xJ:(Nat→Value)×(Nat→Value)) SV pV=>[(1,zaa (SV 2) (zza 0 18 V2.c xJ.1 xJ.2) (zza 0 18 V.c s n)),(0,zaa (SV 2) (blkR g 80 (vltA V2 xJ.1 xJ.2)) (blkR g 80 (vltA V s n))),(2,zaa (SV 2) (pureR (∀ b,zo 18 xJ.1 xJ.2 b→zo 18 s n b∨w.heap.size≤b)) (pureR (∀ b,zo 18 s n b→zo 18 s n b∨w.heap.size≤b))),(3,bytR r.l2 U61.v2),(4,bytR r.l5 U61.v5),(5,blkR g62 37 (recA ⟨r.p,r.s,r.l2,r.a,r.b,r.l5,300,r.c,r.z⟩ ⟨U61.v2,U61.v5⟩))])) 5 rfl (by kernel_rfl) rfl ⟨trivial,trivial,trivial,trivial,trivial,trivial⟩ (fun p=>JQ.mk trivial (s,n) ((M71.step (zma _)).sub ⟨rfl,rfl,rfl,rfl,rfl,rfl,trivial⟩)) ⟨?_,?_,?_,?_,?_,trivial⟩ ?_
    ·intro ua uw SV pV M0 hk hn hd
     obtain ⟨HP,xJ,M⟩:=M0
     replace M:Mx (some g) w uw _:=M
     have e0:ua.eval (.tmp 0)=(zO g):=(show ua.eval (.tmp 0)=_ from hd 0 (by decide)).trans (F70 0 rfl)
     exact ze rfl (zO g) (zga _ (.inl rfl) e0) rfl ((JQ.mk trivial xJ (M.sb)))
    ·intro ua uw SV pV M0 hk hn hd
     obtain ⟨HP,xJ,M⟩:=M0
     replace M:Mx (some g) w uw _:=M
     have e12:ua.eval (.tmp 12)=(zO g62):=(show ua.eval (.tmp 12)=_ from hd 12 (by decide)).trans (F70 12 rfl)
     exact ze rfl _ (zdb _ _ rfl e12 (M.blk (k:=5) rfl) (recA ⟨r.p,r.s,r.l2,r.a,r.b,r.l5,300,r.c,r.z⟩ ⟨U61.v2,U61.v5⟩) (zib rfl) Tryz.underlying37 rfl (by kernel_rfl)) rfl ((JQ.mk trivial xJ (M.sb)))
    ·intro ua uw SV pV M0 hk hn hd
     obtain ⟨HP,xJ,M⟩:=M0
     replace M:Mx (some g) w uw _:=M
     have e63:ua.eval (.tmp 63)=(zO g):=zQ1 (hd 63 (by decide))
     have e64:ua.eval (.tmp 64)=.agg (recA ⟨r.p,r.s,r.l2,r.a,r.b,r.l5,300,r.c,r.z⟩ ⟨U61.v2,U61.v5⟩):=zQ1 (hd 64 (by decide))
     exact zxa rfl rfl #[(zO g),.agg (recA ⟨r.p,r.s,r.l2,r.a,r.b,r.l5,300,r.c,r.z⟩ ⟨U61.v2,U61.v5⟩)] (zea e63 e64) (zE Tryz.func22 rfl) ((Mx.vmut M 0 1 2 (zu hk rfl) (zu hk rfl) (zu hk rfl) M.le (put_is g V s n (setT r 300) ⟨U61.v2,U61.v5⟩ (setT_ok ro (by decide)) hi (by omega) V2 z2 hV2 hz2 uw ⟨M.isb (k:=3) rfl,M.isb (k:=4) rfl⟩ ⟨(fun h=>M.dis 0 3 _ _ (zu hk rfl) rfl (by decide) rfl _ rfl h),(fun h=>M.dis 0 4 _ _ (zu hk rfl) rfl (by decide) rfl _ rfl h)⟩ (M.rowsV (i:=1) (k:=0) (zu hk rfl) (zu hk rfl) (by decide)) (M.blk (k:=0) (zu hk rfl)))).mono fun e w2 h=>(by obtain ⟨t,h1,u2_,N,h2⟩:=h;exact ⟨t,h1,h2,(JQ.mk trivial u2_ (N.sb))⟩))
    ·intro ua uw SV pV M0 hk hn hd
     obtain ⟨HP,xJ,M⟩:=M0
     replace M:Mx (some g) w uw _:=M
     have e1:ua.eval (.tmp 1)=(zO gx):=(show ua.eval (.tmp 1)=_ from hd 1 (by decide)).trans (F70 1 rfl)
     exact ze rfl (zO gx) (zga _ (.inl rfl) e1) rfl ((JQ.mk trivial xJ (M.sb)))
    ·intro ua uw SV pV M0 hk hn hd
     obtain ⟨HP,xJ,M⟩:=M0
     replace M:Mx (some g) w uw _:=M
     have e12:ua.eval (.tmp 12)=(zO g62):=(show ua.eval (.tmp 12)=_ from hd 12 (by decide)).trans (F70 12 rfl)
     exact ze rfl _ (zdb _ _ rfl e12 (M.blk (k:=5) rfl) (recA ⟨r.p,r.s,r.l2,r.a,r.b,r.l5,300,r.c,r.z⟩ ⟨U61.v2,U61.v5⟩) (zib rfl) Tryz.underlying37 rfl (by kernel_rfl)) rfl ((JQ.mk trivial xJ (M.sb)))
    intro p73 a73 w73 M73 G73 y73
    obtain ⟨-,-,q2,q3,q4,-⟩:=y73
    have r2:p73 2=zI z2:=q2
    have r3:p73 3=(zO gx):=q3
    have r4:p73 4=.agg (recA ⟨r.p,r.s,r.l2,r.a,r.b,r.l5,300,r.c,r.z⟩ ⟨U61.v2,U61.v5⟩):=q4
    obtain ⟨-,xJ73,M73⟩:=M73
    replace M73:Mx _ _ w73 [(1,zaa true (zza 0 18 V2.c xJ73.1 xJ73.2) (zza 0 18 V.c s n)),(0,zaa true (blkR g 80 (vltA V2 xJ73.1 xJ73.2)) (blkR g 80 (vltA V s n))),(2,zaa true (pureR (∀ b,zo 18 xJ73.1 xJ73.2 b→zo 18 s n b∨w.heap.size≤b)) (pureR (∀ b,zo 18 s n b→zo 18 s n b∨w.heap.size≤b))),(3,bytR r.l2 U61.v2),(4,bytR r.l5 U61.v5),(5,blkR g62 37 (recA ⟨r.p,r.s,r.l2,r.a,r.b,r.l5,300,r.c,r.z⟩ ⟨U61.v2,U61.v5⟩))]:=M73
    simp only [List.take,layV,Nat.zero_add,Nat.reduceAdd,r2,r3,r4] at G73
    refine zh rfl rfl G73 rfl rfl (zE Tryz.func23 rfl) #[(zO gx),.agg (recA ⟨r.p,r.s,r.l2,r.a,r.b,r.l5,300,r.c,r.z⟩ ⟨U61.v2,U61.v5⟩)] (zea (G73 66 rfl) (G73 67 rfl)) (hz2▸hV2▸xput_any gx gc V sx nx hi hK hL (setT r 300) ⟨U61.v2,U61.v5⟩ (setT_ok ro (by decide)) w73 (hx.grow M73.grown hgx) ⟨(M73.isb (k:=3) rfl),(M73.isb (k:=4) rfl)⟩) ?_
    rintro _ w74 a74 ⟨rfl,hw74⟩ F74
    refine zc (w':=w74) rfl rfl F74 rfl (.bool true) (zva _ _ _ _ rfl (F74 65 rfl) (F74 68 rfl) Tryz.underlying3 (zlb rfl)) fun _ F75=>?_
    refine rm rfl F75 fun _ F76=>hK72 _ _ (wp_ret ?_)
    try simp only [Exit.then,Exit.inBlock,Exit.jump]
    exact bodyPost_ret (res1 rfl (F76.get rfl)) F76.defers ⟨_,rfl,rfl,V2,(.inl ⟨(setT r 300),(setT_ok ro (by decide)),hV2.symm⟩),_,xJ73.1,xJ73.2,⟨M73.rowsV (i:=1) (k:=0) rfl rfl (by decide),(M73.at_ 2 _ rfl),M73.blk (k:=0) rfl,M73.grown⟩,hw74⟩
   ·refine zc (w':=w63) rfl rfl F67 rfl (.bool false) (zva _ _ _ _ rfl (F67 60 rfl) rfl Tryz.underlying3 (zhb h68)) fun _ F77=>?_
    refine hK65 _ _ (wp_cond_false (F77 61 rfl) (wp_skip (hK64 _ _ (zSk fun _ hK78=>?_))))
    obtain ⟨V2,hV2⟩:∃ x,(putV V r).1=x:=⟨_,rfl⟩
    obtain ⟨z2,hz2⟩:∃ x,(putV V r).2=x:=⟨_,rfl⟩
    refine zpa F77 [fun vE=>vE=(zO g),fun vE=>vE=.agg (recA r U61),fun vE=>vE=zI z2,fun vE=>vE=(zO gx),fun vE=>vE=.agg (recA r U61)] (JQ (some g) w (fun SV=>True) (fun (xJ:(Nat→Value)×(Nat→Value)) SV pV=>[(1,zaa (SV 2) (zza 0 18 V2.c xJ.1 xJ.2) (zza 0 18 V.c s n)),(0,zaa (SV 2) (blkR g 80 (vltA V2 xJ.1 xJ.2)) (blkR g 80 (vltA V s n))),(2,zaa (SV 2) (pureR (∀ b,zo 18 xJ.1 xJ.2 b→zo 18 s n b∨w.heap.size≤b)) (pureR (∀ b,zo 18 s n b→zo 18 s n b∨w.heap.size≤b))),(3,bytR r.l2 U61.v2),(4,bytR r.l5 U61.v5),(5,blkR g62 37 (recA r U61))])) 5 rfl (by kernel_rfl) rfl ⟨trivial,trivial,trivial,trivial,trivial,trivial⟩ (fun p=>JQ.mk trivial (s,n) ((M63.step (zma _)).sub ⟨rfl,rfl,rfl,rfl,rfl,rfl,trivial⟩)) ⟨?_,?_,?_,?_,?_,trivial⟩ ?_
    ·intro ua uw SV pV M0 hk hn hd
     obtain ⟨HP,xJ,M⟩:=M0
     replace M:Mx (some g) w uw _:=M
     have e0:ua.eval (.tmp 0)=(zO g):=(show ua.eval (.tmp 0)=_ from hd 0 (by decide)).trans (F77 0 rfl)
     exact ze rfl (zO g) (zga _ (.inl rfl) e0) rfl ((JQ.mk trivial xJ (M.sb)))
    ·intro ua uw SV pV M0 hk hn hd
     obtain ⟨HP,xJ,M⟩:=M0
     replace M:Mx (some g) w uw _:=M
     have e12:ua.eval (.tmp 12)=(zO g62):=(show ua.eval (.tmp 12)=_ from hd 12 (by decide)).trans (F77 12 rfl)
     exact ze rfl _ (zdb _ _ rfl e12 (M.blk (k:=5) rfl) (recA r U61) (zib rfl) Tryz.underlying37 rfl (by kernel_rfl)) rfl ((JQ.mk trivial xJ (M.sb)))
    ·intro ua uw SV pV M0 hk hn hd
     obtain ⟨HP,xJ,M⟩:=M0
     replace M:Mx (some g) w uw _:=M
     have e63:ua.eval (.tmp 63)=(zO g):=zQ1 (hd 63 (by decide))
     have e64:ua.eval (.tmp 64)=.agg (recA r U61):=zQ1 (hd 64 (by decide))
     exact zxa rfl rfl #[(zO g),.agg (recA r U61)] (zea e63 e64) (zE Tryz.func22 rfl) ((Mx.vmut M 0 1 2 (zu hk rfl) (zu hk rfl) (zu hk rfl) M.le (put_is g V s n r ⟨U61.v2,U61.v5⟩ ro hi (by omega) V2 z2 hV2 hz2 uw ⟨M.isb (k:=3) rfl,M.isb (k:=4) rfl⟩ ⟨(fun h=>M.dis 0 3 _ _ (zu hk rfl) rfl (by decide) rfl _ rfl h),(fun h=>M.dis 0 4 _ _ (zu hk rfl) rfl (by decide) rfl _ rfl h)⟩ (M.rowsV (i:=1) (k:=0) (zu hk rfl) (zu hk rfl) (by decide)) (M.blk (k:=0) (zu hk rfl)))).mono fun e w2 h=>(by obtain ⟨t,h1,u2_,N,h2⟩:=h;exact ⟨t,h1,h2,(JQ.mk trivial u2_ (N.sb))⟩))
    ·intro ua uw SV pV M0 hk hn hd
     obtain ⟨HP,xJ,M⟩:=M0
     replace M:Mx (some g) w uw _:=M
     have e1:ua.eval (.tmp 1)=(zO gx):=(show ua.eval (.tmp 1)=_ from hd 1 (by decide)).trans (F77 1 rfl)
     exact ze rfl (zO gx) (zga _ (.inl rfl) e1) rfl ((JQ.mk trivial xJ (M.sb)))
    ·intro ua uw SV pV M0 hk hn hd
     obtain ⟨HP,xJ,M⟩:=M0
     replace M:Mx (some g) w uw _:=M
     have e12:ua.eval (.tmp 12)=(zO g62):=(show ua.eval (.tmp 12)=_ from hd 12 (by decide)).trans (F77 12 rfl)
     exact ze rfl _ (zdb _ _ rfl e12 (M.blk (k:=5) rfl) (recA r U61) (zib rfl) Tryz.underlying37 rfl (by kernel_rfl)) rfl ((JQ.mk trivial xJ (M.sb)))
    intro p79 a79 w79 M79 G79 y79
    obtain ⟨-,-,q2,q3,q4,-⟩:=y79
    have r2:p79 2=zI z2:=q2
    have r3:p79 3=(zO gx):=q3
    have r4:p79 4=.agg (recA r U61):=q4
    obtain ⟨-,xJ79,M79⟩:=M79
    replace M79:Mx _ _ w79 [(1,zaa true (zza 0 18 V2.c xJ79.1 xJ79.2) (zza 0 18 V.c s n)),(0,zaa true (blkR g 80 (vltA V2 xJ79.1 xJ79.2)) (blkR g 80 (vltA V s n))),(2,zaa true (pureR (∀ b,zo 18 xJ79.1 xJ79.2 b→zo 18 s n b∨w.heap.size≤b)) (pureR (∀ b,zo 18 s n b→zo 18 s n b∨w.heap.size≤b))),(3,bytR r.l2 U61.v2),(4,bytR r.l5 U61.v5),(5,blkR g62 37 (recA r U61))]:=M79
    simp only [List.take,layV,Nat.zero_add,Nat.reduceAdd,r2,r3,r4] at G79
    refine zh rfl rfl G79 rfl rfl (zE Tryz.func23 rfl) #[(zO gx),.agg (recA r U61)] (zea (G79 66 rfl) (G79 67 rfl)) (hz2▸hV2▸xput_any gx gc V sx nx hi hK hL r ⟨U61.v2,U61.v5⟩ ro w79 (hx.grow M79.grown hgx) ⟨(M79.isb (k:=3) rfl),(M79.isb (k:=4) rfl)⟩) ?_
    rintro _ w80 a80 ⟨rfl,hw80⟩ F80
    refine zc (w':=w80) rfl rfl F80 rfl (.bool true) (zva _ _ _ _ rfl (F80 65 rfl) (F80 68 rfl) Tryz.underlying3 (zlb rfl)) fun _ F81=>?_
    refine rm rfl F81 fun _ F82=>hK78 _ _ (wp_ret ?_)
    try simp only [Exit.then,Exit.inBlock,Exit.jump]
    exact bodyPost_ret (res1 rfl (F82.get rfl)) F82.defers ⟨_,rfl,rfl,V2,(.inl ⟨r,ro,hV2.symm⟩),_,xJ79.1,xJ79.2,⟨M79.rowsV (i:=1) (k:=0) rfl rfl (by decide),(M79.at_ 2 _ rfl),M79.blk (k:=0) rfl,M79.grown⟩,hw80⟩
 refine zT fun _ hK83=>?_
 by_cases h84:q=0
 ·refine zc (w':=w) rfl rfl F30 rfl (.bool true) (zva _ _ _ _ rfl (F30 23 rfl) rfl Tryz.underlying3 (zlb h84)) fun _ F85=>?_
  refine rm rfl F85 fun _ F86=>hK83 _ _ (wp_cond_true (F86 49 rfl) (wp_skip ?_))
  exact J31 true _ _ (decide_eq_true (show q≤5 by omega)).symm (F86.sb) (M.sb)
 ·refine zc (w':=w) rfl rfl F30 rfl (.bool false) (zva _ _ _ _ rfl (F30 23 rfl) rfl Tryz.underlying3 (zhb h84)) fun _ F87=>?_
  refine rm rfl F87 fun _ F88=>hK83 _ _ (wp_cond_false (F88 49 rfl) (zT fun _ hK89=>?_))
  by_cases h90:q=1
  ·refine zc (w':=w) rfl rfl F88 rfl (.bool true) (zva _ _ _ _ rfl (F88 23 rfl) rfl Tryz.underlying3 (zlb h90)) fun _ F91=>?_
   refine rm rfl F91 fun _ F92=>hK89 _ _ (wp_cond_true (F92 49 rfl) (wp_skip ?_))
   exact J31 true _ _ (decide_eq_true (show q≤5 by omega)).symm (F92.sb) (M.sb)
  ·refine zc (w':=w) rfl rfl F88 rfl (.bool false) (zva _ _ _ _ rfl (F88 23 rfl) rfl Tryz.underlying3 (zhb h90)) fun _ F93=>?_
   refine rm rfl F93 fun _ F94=>hK89 _ _ (wp_cond_false (F94 49 rfl) (zT fun _ hK95=>?_))
   by_cases h96:q=2
   ·refine zc (w':=w) rfl rfl F94 rfl (.bool true) (zva _ _ _ _ rfl (F94 23 rfl) rfl Tryz.underlying3 (zlb h96)) fun _ F97=>?_
    refine rm rfl F97 fun _ F98=>hK95 _ _ (wp_cond_true (F98 49 rfl) (wp_skip ?_))
    exact J31 true _ _ (decide_eq_true (show q≤5 by omega)).symm (F98.sb) (M.sb)
   ·refine zc (w':=w) rfl rfl F94 rfl (.bool false) (zva _ _ _ _ rfl (F94 23 rfl) rfl Tryz.underlying3 (zhb h96)) fun _ F99=>?_
    refine rm rfl F99 fun _ F100=>hK95 _ _ (wp_cond_false (F100 49 rfl) (zT fun _ hK101=>?_))
    by_cases h102:q=3
    ·refine zc (w':=w) rfl rfl F100 rfl (.bool true) (zva _ _ _ _ rfl (F100 23 rfl) rfl Tryz.underlying3 (zlb h102)) fun _ F103=>?_
     refine rm rfl F103 fun _ F104=>hK101 _ _ (wp_cond_true (F104 49 rfl) (wp_skip ?_))
     exact J31 true _ _ (decide_eq_true (show q≤5 by omega)).symm (F104.sb) (M.sb)
    ·refine zc (w':=w) rfl rfl F100 rfl (.bool false) (zva _ _ _ _ rfl (F100 23 rfl) rfl Tryz.underlying3 (zhb h102)) fun _ F105=>?_
     refine rm rfl F105 fun _ F106=>hK101 _ _ (wp_cond_false (F106 49 rfl) (zT fun _ hK107=>?_))
     by_cases h108:q=4
     ·refine zc (w':=w) rfl rfl F106 rfl (.bool true) (zva _ _ _ _ rfl (F106 23 rfl) rfl Tryz.underlying3 (zlb h108)) fun _ F109=>?_
      refine rm rfl F109 fun _ F110=>hK107 _ _ (wp_cond_true (F110 49 rfl) (wp_skip ?_))
      exact J31 true _ _ (decide_eq_true (show q≤5 by omega)).symm (F110.sb) (M.sb)
     ·refine zc (w':=w) rfl rfl F106 rfl (.bool false) (zva _ _ _ _ rfl (F106 23 rfl) rfl Tryz.underlying3 (zhb h108)) fun _ F111=>?_
      refine rm rfl F111 fun _ F112=>hK107 _ _ (wp_cond_false (F112 49 rfl) (zR ?_))
      by_cases h113:q=5
      ·refine zc (w':=w) rfl rfl F112 rfl (.bool true) (zva _ _ _ _ rfl (F112 23 rfl) rfl Tryz.underlying3 (zlb h113)) fun _ F114=>?_
       refine rm rfl F114 fun _ F115=>?_
       exact J31 true _ _ (decide_eq_true (show q≤5 by omega)).symm (F115.sb) (M.sb)
      ·refine zc (w':=w) rfl rfl F112 rfl (.bool false) (zva _ _ _ _ rfl (F112 23 rfl) rfl Tryz.underlying3 (zhb h113)) fun _ F116=>?_
       refine rm rfl F116 fun _ F117=>?_
       exact J31 false _ _ (decide_eq_false (show ¬q≤5 by omega)).symm (F117.sb) (M.sb)
section
open Go.Shelf
def CleanC (i:Nat) (c:CelN):Prop:=c.f=false∧c.n=[]∧(c.s=[]∨∃ x8:UInt8,c.s[8]? = some x8∧c.s.length=25+x8.toNat∧c.s.drop (c.s.length-16)=sumY (outF (macW [] [cellB,zy (i:Int),c.s.take (c.s.length-16)])))
def CleanV (V:VltN):Prop:=∀ i,CleanC i (V.c i)
structure StOk (K:Nat) (V:VltN):Prop where
 inv:InvV K V
 era:EraV V 1
 fl:V.fl=false
 dd:V.dd=false
 cl:CleanV V
theorem StOk.left {K:Nat} {V:VltN} (h:StOk K V):LeftOk V:=fun e=>by rw [h.fl] at e;cases e
theorem StOk.mono {K K':Nat} {V:VltN} (h:StOk K V) (hK:K≤K'):StOk K' V:=⟨h.inv.mono hK,h.era,h.fl,h.dd,h.cl⟩
theorem xnew_is (V:VltN) (h:ageW zeroV=V) (w:World):Calls Tryz.prog 15 #[] w fun e w'=>∃ t,e=.returned t∧∃ gx gc s n,t=(zO gx)∧XOk w' gx gc V s n∧w.heap.size≤gx∧w.heap.size≤gc∧(∀ b,zo 18 s n b→w.heap.size≤b)∧Below w.heap.size w w':=by
 subst h;exact xnew_any w
end
structure CelsM (w:World) (g:Nat) (c:Nat→CelN) (s n:Nat→Value):Prop where
 blk:w.heap[g]? = some (.cells (celA c s n) 63 (0,0))
 hs:∀ i,i<18→IsB w (c i).s (s i)
 hn:∀ i,i<18→IsB w (c i).n (n i)
theorem str_neq {l:List UInt8}:(!decide ((⟨l.toArray⟩:ByteArray).toList=(⟨l.toArray⟩:ByteArray).toList))=false:=by simp
theorem xcells_any (ga gb:Nat) (c:Nat→CelN) (sa na sb nb:Nat→Value) (w:World) (h1:CelsM w ga c sa na) (h2:CelsM w gb c sb nb):
  Calls Tryz.prog 38 #[.slice (some ⟨ga,0,none⟩) 18 18,.slice (some ⟨gb,0,none⟩) 18 18] w fun e w'=>e=.returned (.bool true)∧Below w.heap.size w w':=by
 refine zk (args:=[.slice (some ⟨ga,0,none⟩) 18 18,.slice (some ⟨gb,0,none⟩) 18 18]) 58 Tryz.func38 rfl rfl rfl ?_
 intro fa F
 have M:=Mx.start w
 replace M:=M.argO 0 h1.blk (fun b e=>by cases e)
 replace M:=M.argO 1 h2.blk (fun b e=>by cases e)
 refine zT fun _ hK1=>rm rfl F fun _ F2=>hK1 _ _ (zSk fun _ hK3=>zT fun _ hK4=>rm rfl F2 fun _ F5=>zc (w':=w) rfl rfl F5 rfl (zI 18) (y_lnG 49 Tryz.underlying49 _ rfl (F5 6 rfl) rfl) fun _ F6=>?_)
 refine rm rfl F6 fun _ F7=>zc (w':=w) rfl rfl F7 rfl (zI 18) (y_lnG 49 Tryz.underlying49 _ rfl (F7 8 rfl) rfl) fun _ F8=>?_
 refine zc (w':=w) rfl rfl F8 rfl (.bool false) (y_neI _ _ _ _ rfl (F8 7 rfl) (F8 9 rfl) Tryz.underlying3 (y_bneF (by decide))) fun _ F9=>?_
 refine hK4 _ _ (wp_cond_false (F9 10 rfl) (wp_skip (hK3 _ _ (zSk fun _ hK10=>zT fun _ hK11=>rm rfl F9 fun _ F12=>hK11 _ _ (wp_block (zob (α:=Nat) (n:=58) (G:=none) (w0:=w) (fun x=>[(0,.slice (some ⟨ga,0,none⟩) 18 18),(1,.slice (some ⟨gb,0,none⟩) 18 18),(6,.slice (some ⟨ga,0,none⟩) 18 18),(7,zI 18),(8,.slice (some ⟨gb,0,none⟩) 18 18),(9,zI 18),(10,.bool false),(5,zI (x:Int))]) (fun x=>[(0,blkO ga 63 (celA c sa na)),(1,blkO gb 63 (celA c sb nb))]) (fun k x=>k=(18-x)∧(x≤18)) _ 0 ⟨rfl,(Nat.zero_le _)⟩ (F12.sb) (M.sb) ?_))))))
 rintro k13 jn a13 w13 K13 ⟨ek13,I13⟩ F13 M13 hK13
 replace F13:Fx 58 a13 [(0,.slice (some ⟨ga,0,none⟩) 18 18),(1,.slice (some ⟨gb,0,none⟩) 18 18),(6,.slice (some ⟨ga,0,none⟩) 18 18),(7,zI 18),(8,.slice (some ⟨gb,0,none⟩) 18 18),(9,zI 18),(10,.bool false),(5,zI (jn:Int))]:=F13
 replace M13:Mx _ _ w13 [(0,blkO ga 63 (celA c sa na)),(1,blkO gb 63 (celA c sb nb))]:=M13
 replace I13:jn≤18:=I13
 replace ek13:k13=(18-jn):=ek13
 by_cases hlt:jn<18
 ·obtain ⟨cf,hcf⟩:∃ x,(c jn).f=x:=⟨_,rfl⟩
  refine zSk fun _ hK14=>zT fun _ hK15=>rm rfl F13 fun _ F16=>rm rfl F16 fun _ F17=>zc (w':=w13) rfl rfl F17 rfl (zI 18) (y_lnG 49 Tryz.underlying49 _ rfl (F17 12 rfl) rfl) fun _ F18=>?_
  refine zc (w':=w13) rfl rfl F18 rfl (.bool true) (zna _ _ _ _ rfl (F18 11 rfl) (F18 13 rfl) (decide_eq_true (show (jn:Int)<18 by omega))) fun _ F19=>?_
  refine hK15 _ _ (wp_cond_true (F19 14 rfl) (wp_skip (hK14 _ _ (zSk fun _ hK20=>wp_block (zSk fun _ hK21=>?_)))))
  refine z5a F19 (SK [.inl (.slice (some ⟨ga,0,none⟩) 18 18),.inl (zI (jn:Int)),.inl (zP ga (3*jn)),.inl (zP ga (3*jn+2)),.inl (.bool cf),.inl (.slice (some ⟨gb,0,none⟩) 18 18),.inl (zI (jn:Int)),.inl (zP gb (3*jn)),.inl (zP gb (3*jn+2)),.inl (.bool cf),.inl (.bool false),.inl (.bool false),.inl (.slice (some ⟨ga,0,none⟩) 18 18),.inl (zI (jn:Int)),.inl (zP ga (3*jn)),.inl (zP ga (3*jn+0)),.inl ((sa jn)),.inl (.string (⟨((c jn).s).toArray⟩)),.inl (.slice (some ⟨gb,0,none⟩) 18 18),.inl (zI (jn:Int)),.inl (zP gb (3*jn)),.inl (zP gb (3*jn+0)),.inl ((sb jn)),.inl (.string (⟨((c jn).s).toArray⟩)),.inl (.bool false),.inl (.bool false),.inl (.bool false),.inl (.slice (some ⟨ga,0,none⟩) 18 18),.inl (zI (jn:Int)),.inl (zP ga (3*jn)),.inl (zP ga (3*jn+1)),.inl ((na jn)),.inl (.string (⟨((c jn).n).toArray⟩)),.inl (.slice (some ⟨gb,0,none⟩) 18 18),.inl (zI (jn:Int)),.inl (zP gb (3*jn)),.inl (zP gb (3*jn+1)),.inl ((nb jn)),.inl (.string (⟨((c jn).n).toArray⟩)),.inl (.bool false),.inl (.bool false)]) 41 rfl (by kernel_rfl) ⟨hop0 F19,hop0 F19,hopR F19 [(17,.slice (some ⟨ga,0,none⟩) 18 18),(18,zI (jn:Int))] fun ua uw hb ⟨e17,e18,_⟩=>(zkc 49 (s:=3) Tryz.underlying49 (by kernel_rfl) _ _ rfl e17 e18 rfl hlt ((Nat.zero_add _).trans (Nat.mul_comm jn 3))),hopR F19 [(19,(zP ga (3*jn)))] fun ua uw hb ⟨e19,_⟩=>(y_fa (off:=2) rfl e19 (by kernel_rfl) rfl),hopR F19 [(20,(zP ga (3*jn+2)))] fun ua uw hb ⟨e20,_⟩=>(zha _ _ rfl e20 ((M13.step hb).roB (k:=0) rfl) (hcf▸cel_f c sa na hlt) Tryz.underlying4 rfl),hop0 F19,hop0 F19,hopR F19 [(22,.slice (some ⟨gb,0,none⟩) 18 18),(23,zI (jn:Int))] fun ua uw hb ⟨e22,e23,_⟩=>(zkc 49 (s:=3) Tryz.underlying49 (by kernel_rfl) _ _ rfl e22 e23 rfl hlt ((Nat.zero_add _).trans (Nat.mul_comm jn 3))),hopR F19 [(24,(zP gb (3*jn)))] fun ua uw hb ⟨e24,_⟩=>(y_fa (off:=2) rfl e24 (by kernel_rfl) rfl),hopR F19 [(25,(zP gb (3*jn+2)))] fun ua uw hb ⟨e25,_⟩=>(zha _ _ rfl e25 ((M13.step hb).roB (k:=1) rfl) (hcf▸cel_f c sb nb hlt) Tryz.underlying4 rfl),hopR F19 [(21,.bool cf),(26,.bool cf)] (v:=.bool false) fun ua uw hb ⟨e21,e26,_⟩=>(y_neB _ _ rfl e21 e26 (by cases cf <;> rfl)),hop0 F19,hop0 F19,hop0 F19,hopR F19 [(29,.slice (some ⟨ga,0,none⟩) 18 18),(30,zI (jn:Int))] fun ua uw hb ⟨e29,e30,_⟩=>(zkc 49 (s:=3) Tryz.underlying49 (by kernel_rfl) _ _ rfl e29 e30 rfl hlt ((Nat.zero_add _).trans (Nat.mul_comm jn 3))),hopR F19 [(31,(zP ga (3*jn)))] fun ua uw hb ⟨e31,_⟩=>(y_fa (off:=0) rfl e31 (by kernel_rfl) rfl),hopR F19 [(32,(zP ga (3*jn+0)))] fun ua uw hb ⟨e32,_⟩=>(zha _ _ rfl e32 ((M13.step hb).roB (k:=0) rfl) (cel_s c sa na hlt) Tryz.underlying23 rfl),hopR F19 [(33,(sa jn))] (v:=.string (⟨((c jn).s).toArray⟩)) fun ua uw hb ⟨e33,_⟩=>(y_str _ rfl e33 ((h1.hs jn hlt).step (M13.step hb).below)),hop0 F19,hop0 F19,hopR F19 [(35,.slice (some ⟨gb,0,none⟩) 18 18),(36,zI (jn:Int))] fun ua uw hb ⟨e35,e36,_⟩=>(zkc 49 (s:=3) Tryz.underlying49 (by kernel_rfl) _ _ rfl e35 e36 rfl hlt ((Nat.zero_add _).trans (Nat.mul_comm jn 3))),hopR F19 [(37,(zP gb (3*jn)))] fun ua uw hb ⟨e37,_⟩=>(y_fa (off:=0) rfl e37 (by kernel_rfl) rfl),hopR F19 [(38,(zP gb (3*jn+0)))] fun ua uw hb ⟨e38,_⟩=>(zha _ _ rfl e38 ((M13.step hb).roB (k:=1) rfl) (cel_s c sb nb hlt) Tryz.underlying23 rfl),hopR F19 [(39,(sb jn))] (v:=.string (⟨((c jn).s).toArray⟩)) fun ua uw hb ⟨e39,_⟩=>(y_str _ rfl e39 ((h2.hs jn hlt).step (M13.step hb).below)),hopR F19 [(34,.string (⟨((c jn).s).toArray⟩)),(40,.string (⟨((c jn).s).toArray⟩))] (v:=.bool false) fun ua uw hb ⟨e34,e40,_⟩=>(y_neS _ _ _ rfl e34 e40 str_neq),hop0 F19,hop0 F19,hop0 F19,hop0 F19,hopR F19 [(44,.slice (some ⟨ga,0,none⟩) 18 18),(45,zI (jn:Int))] fun ua uw hb ⟨e44,e45,_⟩=>(zkc 49 (s:=3) Tryz.underlying49 (by kernel_rfl) _ _ rfl e44 e45 rfl hlt ((Nat.zero_add _).trans (Nat.mul_comm jn 3))),hopR F19 [(46,(zP ga (3*jn)))] fun ua uw hb ⟨e46,_⟩=>(y_fa (off:=1) rfl e46 (by kernel_rfl) rfl),hopR F19 [(47,(zP ga (3*jn+1)))] fun ua uw hb ⟨e47,_⟩=>(zha _ _ rfl e47 ((M13.step hb).roB (k:=0) rfl) (cel_n c sa na hlt) Tryz.underlying23 rfl),hopR F19 [(48,(na jn))] (v:=.string (⟨((c jn).n).toArray⟩)) fun ua uw hb ⟨e48,_⟩=>(y_str _ rfl e48 ((h1.hn jn hlt).step (M13.step hb).below)),hop0 F19,hop0 F19,hopR F19 [(50,.slice (some ⟨gb,0,none⟩) 18 18),(51,zI (jn:Int))] fun ua uw hb ⟨e50,e51,_⟩=>(zkc 49 (s:=3) Tryz.underlying49 (by kernel_rfl) _ _ rfl e50 e51 rfl hlt ((Nat.zero_add _).trans (Nat.mul_comm jn 3))),hopR F19 [(52,(zP gb (3*jn)))] fun ua uw hb ⟨e52,_⟩=>(y_fa (off:=1) rfl e52 (by kernel_rfl) rfl),hopR F19 [(53,(zP gb (3*jn+1)))] fun ua uw hb ⟨e53,_⟩=>(zha _ _ rfl e53 ((M13.step hb).roB (k:=1) rfl) (cel_n c sb nb hlt) Tryz.underlying23 rfl),hopR F19 [(54,(nb jn))] (v:=.string (⟨((c jn).n).toArray⟩)) fun ua uw hb ⟨e54,_⟩=>(y_str _ rfl e54 ((h2.hn jn hlt).step (M13.step hb).below)),hopR F19 [(49,.string (⟨((c jn).n).toArray⟩)),(55,.string (⟨((c jn).n).toArray⟩))] (v:=.bool false) fun ua uw hb ⟨e49,e55,_⟩=>(y_neS _ _ _ rfl e49 e55 str_neq),hop0 F19,trivial⟩ ?_
  intro p23 a23 w23 b23 G23 y23
  obtain ⟨-,-,-,-,-,-,-,-,-,-,-,-,-,-,-,-,-,-,-,-,-,-,-,-,-,-,-,-,-,-,-,-,-,-,-,-,-,-,-,-,q40,-⟩:=y23
  have r40:p23 40=.bool false:=q40 (by decide)
  simp only [List.take,layV,Nat.zero_add,Nat.reduceAdd,r40] at G23
  have M23:=M13.kc b23
  clear F19 M13 r40 q40
  refine hK21 _ _ (wp_cond_false (G23 57 rfl) (wp_skip (hK20 _ _ (zR (rm rfl G23 fun _ F24=>zc (w':=w23) rfl rfl F24 rfl (zI ((jn+1:Nat):Int)) (zsa _ _ _ _ rfl (F24 15 rfl) rfl (by omega) (by omega)) fun _ F25=>?_)))))
  refine rm rfl F25 fun _ F26=>?_
  subst ek13
  exact hK13 _ (jn+1) _ _ (by omega) ⟨rfl,(by omega)⟩ (F26.sb) (M23.sb)
 ·refine zSk fun _ hK27=>zT fun _ hK28=>rm rfl F13 fun _ F29=>rm rfl F29 fun _ F30=>zc (w':=w13) rfl rfl F30 rfl (zI 18) (y_lnG 49 Tryz.underlying49 _ rfl (F30 12 rfl) rfl) fun _ F31=>?_
  refine zc (w':=w13) rfl rfl F31 rfl (.bool false) (zna _ _ _ _ rfl (F31 11 rfl) (F31 13 rfl) (decide_eq_false (show ¬(jn:Int)<18 by omega))) fun _ F32=>?_
  refine hK28 _ _ (wp_cond_false (F32 14 rfl) (wp_exit ?_))
  simp only [Exit.then,Exit.inBlock,↓reduceIte,Nat.reduceEqDiff]
  refine hK10 _ _ (zT fun _ hK33=>?_)
  exact rm rfl F32 fun _ F34=>hK33 _ _ (wp_ret (bodyPost_ret (res1 rfl (F34.get rfl)) F34.defers ⟨rfl,M13.below⟩))
section
open Go.Shelf
structure DisM (m:Nat→Option RecN):Prop where
 ok:∀ i r,i<8→m i=some r→RecOk r
 one:∀ i j r s,i<8→j<8→m i=some r→m j=some s→r.s.toList=s.s.toList→i=j
theorem isN_yes {nm:ByteArray} {o:Option RecN} (h:isN nm o=true):∃ r,o=some r∧r.s.toList=nm.toList:=by
 cases o with
 | none=>cases h
 | some r=>exact ⟨r,rfl,of_decide_eq_true h⟩
theorem others {m:Nat→Option RecN} (hd:DisM m) {nm:ByteArray} {p:Nat} (hp:p<8) (h:isN nm (m p)=true):∀ i,i<8→i≠p→isN nm (m i)=false:=fun i hi hne=>by
 cases hi':isN nm (m i) with
 | false=>rfl
 | true=>
  obtain ⟨r,e1,e2⟩:=isN_yes h
  obtain ⟨s,e3,e4⟩:=isN_yes hi'
  exact absurd (hd.one i p s r hi hp e3 e1 (e4.trans e2.symm)) hne
noncomputable def recG (V:VltN) (nm:ByteArray):RecN:=if fst8 (zba V nm)<8 then z0a V (2*fst8 (zba V nm)) else zeroRec
theorem zero_ok:RecOk zeroRec:=⟨by decide,by decide,by decide,by decide,by decide,by decide,by decide⟩
end
section
open Go.Shelf
def txtR (L:List ByteArray) (v:Value):Res:=⟨false,fun b=>0<L.length∧v.ownBlock=some b,fun w=>TxtAt w 0 L v⟩
theorem txt_dep {L:List ByteArray} {v:Value}:∀ u u',Same (txtR L v).fp u u'→(txtR L v).F u→(txtR L v).F u':=fun u u' hs ⟨A,c,e,h⟩=>⟨A,c,e,fun h0=>by
 obtain ⟨gr,E,e1,h1,h2⟩:=h h0
 exact ⟨gr,E,e1,h1,hs gr _ ⟨h0,by rw [e,e1];rfl⟩ h2⟩⟩
section
variable {G:Option Nat} {w0 w w':World} {R:List (Nat×Res)}
theorem Mx.newTxt (M:Mx G w0 w R) (hb:Below w.heap.size w w') (k:Nat) {L:List ByteArray} {v:Value} (h:TxtAt w' w.heap.size L v):Mx G w0 w' ((k,txtR L v)::R):=by
 obtain ⟨A,c,e,hA⟩:=h
 have hfp:∀ b,(txtR L v).fp b→w.heap.size≤b∧b<w'.heap.size:=fun b ⟨h0,h1⟩=>by
  obtain ⟨gr,E,e1,h2,h3⟩:=hA h0
  rw [e,e1] at h1
  have h1:gr=b:=Option.some.inj h1
  subst h1
  exact ⟨h2,z8a h3⟩
 exact (M.step hb).cons k _ ⟨A,c,e,fun h0=>by obtain ⟨gr,E,e1,h2,h3⟩:=hA h0;exact ⟨gr,E,e1,Nat.zero_le _,h3⟩⟩ txt_dep (fun b hb2=>(hfp b hb2).2) (fun e=>by cases e) fun q r er hkk hw b hb1 h2=>by
  rcases hw with hw | hw
  ·cases hw
  have h3:=M.lt q r er b h2
  have:=(hfp b hb1).1
  omega
variable {a:Act} {o:Oper} {A:Option Addr} {c:Nat} {L:List ByteArray}
theorem y_ixTx (x k:Operand) (ho:o.op=.indexAddr 45 x k) (hx:a.eval x=.slice A L.length c) (hT:(txtR L (.slice A L.length c)).F w) {z:Int} {i:Nat} (hk:a.eval k=zI z) (hz:z=(i:Int)) (hi:i<L.length):(execOp a.eval o).run Tryz.prog w=.ok (.value (ixV (.slice A L.length c) i)) w:=by
 subst hz
 obtain ⟨A',c',e,h⟩:=hT
 obtain ⟨gr,E,e1,-,hg⟩:=h (by omega)
 injection e with q1 q2 q3
 subst q1 q3 e1
 have h5:(i:Int)<(L.length:Int):=by omega
 rw [zkc 45 (s:=1) Tryz.underlying45 (by kernel_rfl) _ _ ho hx hk rfl hi (j:=i) (by omega)]
 simp [ixV,zoa]
theorem y_ldTx (y:Operand) (ho:o.op=.load 9 y) {i:Nat} (hy:a.eval y=ixV (.slice A L.length c) i) (hT:(txtR L (.slice A L.length c)).F w) {s:ByteArray} (hl:L[i]? = some s):(execOp a.eval o).run Tryz.prog w=.ok (.value (.string s)) w:=by
 have hi:=(List.getElem?_eq_some_iff.1 hl).1
 obtain ⟨A',c',e,h⟩:=hT
 obtain ⟨gr,E,e1,-,hg⟩:=h (by omega)
 injection e with q1 q2 q3
 subst q1 q3 e1
 exact zha _ _ ho (hy.trans (by simp [ixV,zoa])) hg (rowA_at hl) Tryz.underlying9 rfl
end
theorem get_is {K:Nat} (g:Nat) (V:VltN) (s n:Nat→Value) (hi:InvV K V) (nm:ByteArray) (b:Bool) (r:RecN) (hb:decide (fst8 (zba V nm)<8)=b) (hr:recG V nm=r) (w:World) (h:HasV w g V s n):Calls Tryz.prog 24 #[(zO g),.string nm] w fun e w'=>∃ t,e=.returned t∧∃ V',t=.tuple #[.agg (recA r V'),.bool b]∧RecIs w' r V'∧(∀ q,bfp V'.v2 q∨bfp V'.v5 q→w.heap.size≤q)∧Below w.heap.size w w':=by
 subst hb hr
 by_cases h8:fst8 (zba V nm)<8
 ·rw [decide_eq_true h8]
  exact get_yes g V s n hi nm _ h8 rfl _ (if_pos h8).symm w h
 ·rw [decide_eq_false h8]
  refine (get_not g V s n hi nm (by have:=fst8_le (zba V nm);omega) w h).mono fun e w' ⟨h1,h2⟩=>⟨_,h1,⟨zN,zN⟩,by rw [show recG V nm=zeroRec from if_neg h8],?_,fun q hq=>(by rcases hq with hq | hq <;> exact absurd hq (zta q)),h2⟩
  rw [show recG V nm=zeroRec from if_neg h8]
  exact ⟨zka _,zka _⟩
theorem xget_is {K:Nat} (gx gc:Nat) (V:VltN) (s n:Nat→Value) (hi:InvV K V) (nm:ByteArray) (b:Bool) (r:RecN) (hb:decide (fst8 (zba V nm)<8)=b) (hr:recG V nm=r) (w:World) (h:XOk w gx gc V s n):Calls Tryz.prog 33 #[(zO gx),.string nm] w fun e w'=>∃ t,e=.returned t∧∃ V',t=.tuple #[.agg (recA r V'),.bool b]∧RecIs w' r V'∧(∀ q,bfp V'.v2 q∨bfp V'.v5 q→w.heap.size≤q)∧Below w.heap.size w w':=by
 subst hb hr
 by_cases h8:fst8 (zba V nm)<8
 ·rw [decide_eq_true h8,show recG V nm=z0a V (2*fst8 (zba V nm)) from if_pos h8]
  exact (rget_yes gx gc V (zgc V) s n hi nm _ h8 rfl w h.has).mono fun e w' ⟨V',h1,h2⟩=>⟨_,h1,V',rfl,h2⟩
 ·rw [decide_eq_false h8,show recG V nm=zeroRec from if_neg h8]
  exact (rget_not gx gc V (zgc V) s n hi nm (by have:=fst8_le (zba V nm);omega) w h.has).mono fun e w' ⟨h1,h2⟩=>⟨_,h1,⟨zN,zN⟩,rfl,⟨zka _,zka _⟩,fun q hq=>(by rcases hq with hq | hq <;> exact absurd hq (zta q)),h2⟩
theorem rdI_cap {w:World} {a:Option Addr} {len cap:Nat} {zs:List Int} (h:(a=none∧len=0∧cap=0∧zs=[]) ∨
  ∃ x,a=some x∧len≤cap∧cap≤maxLen∧zs.length=cap∧(∀ i,i<zs.length→w.cell? (x.add i)=some (zI (zs.getD i 0)))∧∀ n∈zs,(Lit.int .i64 n).wf=true):len≤cap:=by
 rcases h with ⟨_,h1,h2,_⟩ | ⟨x,_,h,_⟩
 ·omega
 ·exact h
end
section
open Go.Shelf
theorem left_fail (V:VltN) (z:Int):zgc (failV V z)=max z (-1):=by
 unfold zgc failV
 dsimp only
 by_cases h:0≤z
 ·rw [if_pos (decide_eq_true h)];omega
 ·rw [if_neg (by rw [decide_eq_false h];exact Bool.false_ne_true)];omega
theorem xfail_any (gx gc:Nat) (V:VltN) (s n:Nat→Value) (z:Int) (V2:VltN) (hV2:failV V z=V2) (w:World) (ho:XOk w gx gc V s n):Calls Tryz.prog 20 #[(zO gx),zI z] w fun e w'=>∃ t,e=.returned t∧XTo w w' gx gc (zo 18 s n) V2:=by
 subst hV2
 refine (rfail_any gx gc (zgc V) V.dd z w ho.has.hx).mono fun e w' ⟨t,h1,h2,h3⟩=>⟨t,h1,⟨s,n,⟨⟨?_,?_,fun i hi=>?_,fun i hi=>?_⟩,ho.ne,ho.far⟩,fun b hb=>.inl hb⟩,h3.size,fun q h4 h5 h6=>?_,h3.os,h3.tape,h3.output⟩
 ·rw [left_fail];exact h2
 ·exact (h3.block gc (z8a ho.has.hc) fun e=>ho.ne (Option.some.inj e).symm).trans ho.has.hc
 ·exact (ho.has.hs i hi).grow h3 (ho.far i hi).1.1
 ·exact (ho.has.hn i hi).grow h3 (ho.far i hi).1.2
 ·exact h3.block q h6 fun e=>h4 (Option.some.inj e)
def StepA (V V':VltN) (x:Nat→Int) (m:Nat):Prop:=V'=V∨(∃ z,-1≤z∧z<5∧V'=failV V z)∨∃ k,k≤m∧V'=ageW (zac V x k)
theorem rdI_pre {w:World} {A:Option Addr} {m k:Nat} {x:Nat→Int} (h:RdI w A m x) (hk:k≤m):RdI w A k x:=
 ⟨by have:=h.1;omega,h.2.1,fun hn=>by
  obtain ⟨b,o,e,h1,h2⟩:=h.2.2 (by omega)
  exact ⟨b,o,e,h1,fun j hj=>h2 j (by omega)⟩⟩
theorem ifp_pre {A:Option Addr} {m k g:Nat} (hk:k≤m) (h:ifp A k g):ifp A m g:=h.elim fun h0 h1=>⟨by omega,h1⟩
section
variable {a:Act} {w:World} {o:Oper} {A:Option Addr} {n c:Nat}
theorem y_slI2 (x y:Operand) (ho:o.op=.slice 22 x none (some y) none) (hx:a.eval x=.slice A n c) {z:Int} {j:Nat} (hy:a.eval y=zI z) (hz:z=(j:Int)) (hc:j≤c):(execOp a.eval o).run Tryz.prog w=.ok (.value (.slice A j c)) w:=by
 subst hz
 have elem_int:Tryz.prog.elem 22=3:=by kernel_rfl
 have under_int:Tryz.prog.underlying 22=some (.slice (Tryz.prog.elem 22)):=by rw [elem_int];exact Tryz.underlying22
 have size_int:(sizeOf 3).run Tryz.prog w=.ok 1 w:=by
  have hi:(Tryz.prog.info? 3).map (·.size)=some 1:=by kernel_rfl
  cases hq:Tryz.prog.info? 3 with
  | none=>rw [hq] at hi;cases hi
  | some i=>rw [hq] at hi;simp only [Option.map_some,Option.some.injEq] at hi;simp [sizeOf,typeInfo,hq,hi]
 unfold execOp
 simp only [ho,hx]
 simp only [Option.map_some,Option.map_none,hy]
 rw [Sem.run_bind,run_sliceAt_slice _ _ _ _ _ _ under_int,run_slice_h _ _ _ _ _ under_int .i64 j (by omega) (by omega),elem_int,size_int]
 simp only [Result.andThen_ok,sliced,Int.toNat_natCast,Nat.mul_one,Sem.run_pure,Nat.sub_zero,map_add0,ite_self]
end
structure PlOk (K:Nat) (E:Nat) (V:VltN):Prop where
 inv:InvV K V
 era:EraS V E
 left:LeftOk V
theorem pl_new:PlOk 1 1 (ageW zeroV):=by
 have hz:=zero_inv 0
 have h:=say_says hz (by omega) 16 (zy (zhc zeroV 16+1)) rfl
 refine ⟨new_is.2.1,⟨new_is.1,?_⟩,fun e=>by rw [new_is.2.2.1] at e;cases e⟩
 have e:=h.2
 rw [num0] at e
 unfold ageW
 rw [num0]
 exact e
theorem PlOk.mono {K K' E:Nat} {V:VltN} (h:PlOk K E V) (hK:K≤K'):PlOk K' E V:=⟨h.inv.mono hK,h.era,h.left⟩
theorem pl_say {K E:Nat} {V:VltN} (h:PlOk K E V) (hK:K<255) {q:Nat} (hq:q+1<16) {l:List UInt8} (hl:l.length≤255):PlOk (K+1) E (sayW V q l).1:=⟨sayW_inv h.inv hK q hl,eras_say h.era hq l,left_say h.left q l⟩
theorem pl_step {K E:Nat} {V V':VltN} (h:PlOk K E V) (hK:K<255) (hs:StepV V V'):PlOk (K+1) E V':=by
 have same:PlOk (K+1) E V:=h.mono (by omega)
 rcases hs with ⟨r,_,rfl⟩ | ⟨nm,rfl⟩
 ·unfold putV
  have hl:=recE_bd r
  split
  ·exact same
  ·split
   ·exact same
   ·split
    ·exact pl_say h hK (by omega) (by omega)
    ·split
     ·exact pl_say h hK (by omega) (by omega)
     ·exact same
 ·unfold goneV
  split
  ·exact same
  ·split
   ·exact pl_say h hK (by omega) (Nat.zero_le _)
   ·exact same
theorem pl_again {K E:Nat} {V:VltN} (h:PlOk K E V) (hK:K<255) (hE:E<999) (x:Nat→Int) (m:Nat):PlOk (K+1) (E+1) (ageW (zac V x m)):=
 ⟨age_inv (setl_inv h.inv x m) hK,eras_age (setl_inv h.inv x m) hK hE (eras_setl h.era x m) rfl,left_say (V:=zac V x m) (fun e=>by cases e) 16 _⟩
theorem pl_fail {K E:Nat} {V:VltN} (h:PlOk K E V) {z:Int} (hz:z<9223372036854775808):PlOk K E (failV V z):=⟨h.inv,h.era,fun e=>⟨of_decide_eq_true e,hz⟩⟩
theorem pl_stepA {K E:Nat} {V V':VltN} (h:PlOk K E V) (hK:K<255) (hE:E<999) {x:Nat→Int} {m:Nat} (hs:StepA V V' x m):∃ E',E'≤E+1∧PlOk (K+1) E' V':=by
 rcases hs with rfl | ⟨z,h1,h2,rfl⟩ | ⟨k,_,rfl⟩
 ·exact ⟨E,by omega,h.mono (by omega)⟩
 ·exact ⟨E,by omega,(pl_fail h (by omega)).mono (by omega)⟩
 ·exact ⟨E+1,Nat.le_refl _,pl_again h hK hE x k⟩
end
end Go.Proofs.YtmjbnmbobocpdaaGreat
